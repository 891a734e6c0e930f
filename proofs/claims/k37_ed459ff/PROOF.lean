import PyProof.Rows.All
import Wide.All
import OpenK.AllK
import Wide.FinOn
import Lean
import PyProof.EqAt
import PyProof.EqKinds
import PyProof.TupleCall
import PyProof.NeKinds
import PyProof.IsInstanceH
import PyProof.IsiNone
import PyProof.EnumMake
import PyProof.Draws
import PyProof.ZipIter
import PyProof.ListRange
import PyProof.Rows.SortRuns
import PyProof.SetKind
import PyProof.Rows.SetFrom
import PyProof.FactsAll.set
import PyProof.DictIter
import KE.KDictList
import PyProof.Rows.StrJoin2
import PySem.Challenge.RW_followmost_k37_whole_the_fewest_walked
set_option Elab.async false
set_option linter.all false
set_option maxRecDepth 100000
abbrev ZA:=@List.length_map
abbrev ZB:=@List.length_append
abbrev ZC:=@List.getElem?_append_left
abbrev ZD:=@List.getElem?_append_right
abbrev ZE:=@List.getElem?_eq_getElem
abbrev ZF:=@List.getD_eq_getElem?_getD
abbrev ZG:=@List.getElem?_concat_length
abbrev ZH:=@PySem.Heap.get?_push_of_some
abbrev ZI:=@PySem.Heap.lt_size
abbrev ZJ:=@PySem.Heap.get?_push_size
abbrev ZK:=@List.mem_of_getElem?
abbrev ZL:=@Nat.le_refl
abbrev ZM:=@Nat.le_trans
abbrev ZN:=@Nat.ne_of_lt
abbrev ZO:=@List.length_range
abbrev ZP:=@List.getElem?_set_ne
abbrev ZQ:=@List.getElem?_map
abbrev ZR:=@List.map_append
abbrev ZS:=@Nat.lt_of_le_of_lt
abbrev ZT:=@Option.some.inj
abbrev ZU:=@List.append_assoc
abbrev ZV:=@List.mem_cons_self
abbrev ZW:=@List.mem_cons_of_mem
abbrev ZX:=PySem.W.Frag
abbrev z0:=@PySem.wpAny_bind
abbrev z3:=@PySem.wpAny_pure
abbrev z4:=@if_pos
abbrev z5:=@if_neg
abbrev yP:=@List.map_cons
abbrev yQ:=@decide_eq_true
abbrev yR:=@List.size_toArray
abbrev yS:=@Nat.lt_succ_of_lt
abbrev y3:=@decide_eq_false
abbrev xC:=@Nat.lt_of_lt_of_le
abbrev x3:=@Nat.lt_trans
abbrev x4:=@Eq.trans
abbrev x6:=@Nat.ne_of_gt
abbrev x8:=@Bool.and_eq_true
abbrev wB:=@Nat.lt_succ_self
abbrev wC:=@List.map_map
abbrev wD:=@Nat.lt_irrefl
abbrev wF:=@Nat.zero_add
abbrev wG:=@PySem.W.mg_none_of
abbrev wH:=@PySem.sizeLine_eq
abbrev wI:=@Bool.false_ne_true
abbrev wJ:=@Bool.false_eq_true
abbrev v3:=@PySem.Heap.size_push
abbrev ZY:=@List.lookup_cons
abbrev ZZ:=@PySem.PassesOwn.never
abbrev Z0:=@List.ext_getElem?
abbrev Z1:=@Nat.le_add_right
abbrev Z2:=@PySem.wpAny_newObj_type
abbrev Z3:=@PySem.Heap.size_update
abbrev Z4:=@PySem.wpAny_call_entry
abbrev Z5:=@List.getElem_mem
abbrev Z6:=@List.append_nil
abbrev Z7:=@List.mem_append_right
abbrev Z8:=@Nat.zero_le
abbrev Z9:=@decide_eq_true_eq
abbrev YA:=@Option.some.injEq
abbrev YB:=@Nat.not_lt_zero
abbrev YC:=@PySem.wpAny_holding
abbrev YD:=@List.length_cons
abbrev YE:=@List.replicate_succ
abbrev YF:=@PySem.isSubtype_type
abbrev YG:=@List.length_set
abbrev YH:=@PySem.wpAny_ite_split
abbrev YI:=@Nat.le_of_lt
abbrev YJ:=@List.pairwise_lt_range
abbrev YK:=@List.map_congr_left
abbrev YL:=@if_true
abbrev YM:=@PySem.wpAny_field
abbrev YN:=@PySem.wpAny_setState_of
abbrev YO:=@List.length_filter_le
abbrev YP:=@PySem.wpAny_pyIter_tuple
abbrev YQ:=@if_false
abbrev YR:=@List.filter_cons
abbrev YS:=@PyProof.Rows.callWith_type1
abbrev YT:=@Ne.symm
abbrev YU:=@PySem.wpAny_truthy_bool
abbrev YV:=@of_decide_eq_true
abbrev YW:=@PySem.wpAny_seqItems
abbrev YX:=@Nat.le_of_lt_succ
abbrev YY:=@List.pairwise_map
abbrev YZ:=@List.take_succ_eq_append_getElem
abbrev Y0:=@PySem.Heap.SameBut.update
abbrev Y1:=@Nat.add_le_add_left
abbrev Y2:=@List.foldl_cons
abbrev Y3:=@PySem.call_isinstance
abbrev Y4:=@List.cons.injEq
abbrev Y5:=@List.length_replicate
abbrev Y6:=@List.mem_cons
abbrev Y7:=@Int.le_refl
abbrev Y8:=@List.set_append_left
abbrev Y9:=@List.flatten_cons
abbrev XA:=@List.nodup_append
abbrev XB:=@Nat.le_succ_of_le
abbrev XC:=@Option.map_some
abbrev XD:=@List.filterMap_cons
abbrev XE:=@Array.length_toList
abbrev XF:=@PyProof.Rows.F.plain_set_update_loop
abbrev XG:=@Nat.lt_of_succ_lt_succ
abbrev XH:=@List.length_take
abbrev XI:=@PySem.wpAny_mono
abbrev XJ:=@PySem.F.slot_tuple_iterator_next
abbrev XO:=@PySem.wpAny_setField
abbrev XR:=@Nat.lt_of_le_of_ne
abbrev XS:=@PySem.wpAny_setField_rec
abbrev XU:=@Int.natCast_nonneg
abbrev XW:=@List.drop_eq_getElem_cons
abbrev XX:=@PySem.wpAny_passesOwn
abbrev XY:=@PySem.wpAny_loadPart'
abbrev XZ:=@List.range_succ
abbrev X0:=@PySem.wpAny_pyIter_list
abbrev X1:=@Nat.pow_le_pow_right
abbrev X2:=@PySem.Around.under_plainId
abbrev X3:=@List.Pairwise.filter
abbrev X4:=@List.all_cons
abbrev X5:=@List.any_cons
abbrev X6:=@PyProof.Rows.size_push'
abbrev X7:=@PySem.wpAny_attempt
abbrev X8:=@List.sum_cons
abbrev X9:=@PySem.mem_of_lookup
abbrev WA:=@PySem.wpAny_setEntries_of
abbrev WB:=@Nat.add_left_cancel
abbrev WC:=@List.take_length
abbrev WD:=@Nat.add_right_comm
abbrev WE:=@List.mem_singleton
abbrev WG:=@Int.emod_lt_of_pos
abbrev WH:=@List.forIn_cons
abbrev WI:=@PySem.codeAny_builtin
abbrev WJ:=@List.length_singleton
abbrev WK:=@List.take_append_drop
abbrev WL:=@Int.toNat_natCast
abbrev WM:=@Array.getD_eq_getD_getElem?
abbrev WN:=@List.nodup_nil
abbrev WO:=@List.nodup_iff_pairwise_ne
abbrev WQ:=@Nat.le_of_not_lt
abbrev WR:=@Bool.or_true
abbrev WS:=@PySem.Calls.call_function_entry
abbrev WT:=@Classical.byContradiction
abbrev WU:=@PySem.wpAny_pyIter_tuple
abbrev WV:=@PySem.wpAny_comprehension_free
abbrev WW:=@PyProof.Rows.listUpdate_at
abbrev WX:=@PySem.wpAny_newList
abbrev WY:=@PySem.W.KasT.kasWp_bind
abbrev WZ:=@List.filter_map
abbrev W0:=@List.mem_append
abbrev W1:=@Int.emod_nonneg
abbrev W2:=@PySem.wpAny_Call_Name_kw
abbrev W3:=@PySem.wpAny_rule
abbrev W4:=@PySem.tupleKind_room_in1
abbrev W5:=@Nat.le_succ
abbrev W6:=@PySem.Value.isInt_shape
abbrev W7:=@PySem.codeAny_mono
abbrev W8:=@List.map_nil
abbrev W9:=@PySem.wpAny_pyIter_enum
abbrev VA:=@Int.le_trans
abbrev VB:=@PySem.fits_of_scanBound
abbrev VC:=@PySem.W.mg_of
abbrev VD:=@PySem.plainId_quiet
abbrev VE:=@Bool.and_self
abbrev T0:=PySem.Value
abbrev T4:=PySem.Shared
abbrev T5:=PySem.Around
abbrev T6:=PySem.Program
abbrev T7:=PySem.World
noncomputable section
namespace L2
open PySem PySem.Spec PyProof.Rows
abbrev Key:=Sum Int Str
def ug:Key->T0->Bool
 | .inl k,v=>Value.isInt k v
 | .inr x,v=>Value.isStrOf x v
def LV (w:T7):Key->Int
 | .inl k=>hashInt k
 | .inr x=>hashStr w x
theorem dj:∀{k:Key} {v:T0},ug k v=true->(∃i t,k=Sum.inl i/\v=Value.int i t)\/(∃x t,k=Sum.inr x/\v=Value.str x t)
 | .inl i,v,h=>by
  obtain⟨t,e⟩:=W6 (k:=i) (v:=v) h;exact .inl ⟨i,t,rfl,e⟩
 | .inr x,v,h=>by
  obtain⟨t,e⟩:=Value.isStrOf_shape (x:=x) (v:=v) h;exact .inr ⟨x,t,rfl,e⟩
theorem B6 (i:Int)(t:Tok):ug (.inl i) (.int i t)=true:=by simp[ug,Value.isInt]
theorem B7 (x:Str)(t:Tok):ug (.inr x) (.str x t)=true:=by simp[ug,Value.isStrOf]
theorem Ij (a b:Int):decide ((Sum.inl a:Key)=Sum.inl b)=(a == b):=by
 by_cases e:a=b
 ·subst e;simp
 ·have h : ¬(Sum.inl a:Key)=Sum.inl b:=λq=>e (Sum.inl.inj q)
  rw[y3 h];exact(beq_eq_false_iff_ne.mpr e).symm
theorem Ik (a b:Str):decide ((Sum.inr a:Key)=Sum.inr b)=decide (a=b):=by
 by_cases e:a=b
 ·subst e;simp
 ·have h : ¬(Sum.inr a:Key)=Sum.inr b:=λq=>e (Sum.inr.inj q)
  rw[y3 h,y3 e]
theorem Im (a:Int)(b:Str):decide ((Sum.inl a:Key)=Sum.inr b)=false:=y3 (λq=>nomatch q)
theorem Io (a:Str)(b:Int):decide ((Sum.inr a:Key)=Sum.inl b)=false:=y3 (λq=>nomatch q)
def dB (prog:T6) (w:T7):PySem.KeyKind prog w Key where
 is:=ug
 hash:=LV w
 inj:=λv a b ha hb=>by
  rcases dj ha with ⟨i,t,rfl,rfl⟩|⟨x,t,rfl,rfl⟩
  ·rcases dj hb with ⟨j,u,rfl,e⟩|⟨y,u,rfl,e⟩
   ·injection e with e1 _;rw[e1]
   ·exact nomatch e
  ·rcases dj hb with ⟨j,u,rfl,e⟩|⟨y,u,rfl,e⟩
   ·exact nomatch e
   ·injection e with e1 _;rw[e1]
 byValue:=λk v h=>by
  rcases dj h with ⟨i,t,rfl,rfl⟩|⟨x,t,rfl,rfl⟩<;>rfl
 pyHash:=λhv h=>by
  rcases dj hv with ⟨i,t,rfl,rfl⟩|⟨x,t,rfl,rfl⟩
  ·exact wpAny_pyHash_int h
  ·exact wpAny_pyHash_str h
 eqBool:=λhu hv h=>by
  rcases dj hu with ⟨i,t,rfl,rfl⟩|⟨x,t,rfl,rfl⟩
  ·rcases dj hv with ⟨j,u,rfl,rfl⟩|⟨y,u,rfl,rfl⟩
   ·rw[Ij]at h;exact wpAny_eqBool_int h
   ·rw[Im]at h;exact SeqAt.EqAt.int_str i t y u _ _ _ _ h
  ·rcases dj hv with ⟨j,u,rfl,rfl⟩|⟨y,u,rfl,rfl⟩
   ·rw[Io]at h;exact SeqAt.EqAt.str_int x t j u _ _ _ _ h
   ·rw[Ik]at h;exact wpAny_eqBool_str h
 «strs» := λk x t v h=>by
  rcases dj h with ⟨i,u,rfl,e⟩|⟨y,u,rfl,e⟩
  ·exact nomatch e
  ·injection e with e1 _
   subst e1
   cases v<;>rfl
theorem w4 (prog:T6)(w:T7)(i:Int)(t:Tok):(dB prog w).is (.inl i) (.int i t)=true:=B6 i t
theorem w5 (prog:T6)(w:T7)(x:Str)(t:Tok):(dB prog w).is (.inr x) (.str x t)=true:=B7 x t
inductive V where
 | non|bl (b:Bool)|int (i:Int)|str (x:Str)|byt (b:Array UInt8)|flt (b:UInt64)|ref (a:Addr)|ty (n:String)
 deriving DecidableEq
def bJ:V->T0->Prop
 | .non,u=>u=Value.none
 | .bl b,u=>u=Value.bool b
 | .int i,u=>∃t,u=Value.int i t
 | .str x,u=>∃t,u=Value.str x t
 | .byt b,u=>∃t,u=Value.bytes b t
 | .flt b,u=>∃t,u=Value.float b t
 | .ref a,u=>u=Value.ref a
 | .ty n,u=>u=Value.type n
abbrev aY:List V->List T0->Prop:=Paired bJ
theorem aY.length {xs:List V}{a:List T0}(r:aY xs a):xs.length=a.length:=Paired.length r
theorem aY.get:∀{xs:List V} {a:List T0} {i:Nat} {x:V},aY xs a->xs[i]? = some x->∃u,a[i]? = some u/\bJ x u
 | _,_,_,_,.nil,e=>by simp at e
 | _,_,0,_,.cons r _,e=>by simp at e;subst e;exact⟨_,rfl,r⟩
 | _,_,i + 1,x,.cons _ t,e=>by
  obtain⟨u,h1,h2⟩:=aY.get (i:=i) (x:=x) t (by simpa using e);exact⟨u,by simpa using h1,h2⟩
theorem aY.set {x:V}{u:T0}(r:bJ x u):∀{xs:List V} {a:List T0} (i:Nat),aY xs a->aY (xs.set i x) (a.set i u)
 | _,_,_,.nil=>.nil
 | _,_,0,.cons _ t=>.cons r t
 | _,_,i + 1,.cons q t=>.cons q (aY.set r i t)
theorem aY.append:∀{xs ys:List V} {a b:List T0},aY xs a->aY ys b->aY (xs++ys) (a++b)
 | _,_,_,_,.nil,s=>s
 | _,_,_,_,.cons r t,s=>.cons r (aY.append t s)
theorem aY.take:∀{xs:List V} {a:List T0} (n:Nat),aY xs a->aY (xs.take n) (a.take n)
 | _,_,0,_=>.nil
 | _,_,_ + 1,.nil=>.nil
 | _,_,n + 1,.cons r t=>.cons r (aY.take n t)
theorem aY.drop:∀{xs:List V} {a:List T0} (n:Nat),aY xs a->aY (xs.drop n) (a.drop n)
 | _,_,0,r=>r
 | _,_,_ + 1,.nil=>.nil
 | _,_,n + 1,.cons _ t=>aY.drop n t
def tm:Option V->Option T0->Prop
 | some v,some u=>bJ v u
 | none,none=>True
 | _,_=>False
def KV {κ : Type}:List (κ × V)->List (κ × T0)->Prop:=Paired λ(p : κ × V) (q : κ × T0)=>p.1=q.1/\bJ p.2 q.2
def kV:Key->V
 | .inl i=>.int i
 | .inr x=>.str x
inductive HO where
  | lst (xs:List V)
  | tup (xs:List V)
  | dK (kvs:List (Key × V))|dT (kvs:List (List Key × V))
  | set (S:Int->Bool) (n:Nat)
  | ins (C dx:Addr) (fs:List (Str × V))
  | own (x:Addr)
  | xd (fs:List (Str × V))
  | met (f x:Addr)
  | rng (lo hi:Int)
  | frz (o:Obj) (u:HO)
  | tbl (ps:Array T0)
  | ext (φ : Heap->Prop)
abbrev Hp:=Addr->Option HO
def upd (H:Hp) (a:Addr) (o:HO):Hp:=λb=>if b=a then some o else H b
variable {H:Hp}
theorem bi {a:Addr}{o:HO}:upd H a o a=some o:=by unfold upd;rw[z4 rfl]
variable {b:Addr}
theorem aC {a:Addr}{o:HO}(h:b≠a):upd H a o b=H b:=by unfold upd;rw[z5 h]
theorem Ko {a:Addr}{o u:HO}(h:H a=some o)(h':H b=some u)(d:o≠u):a≠b:=by
 intro e;subst e;rw[h]at h';exact d (ZT h')
theorem bm {a:Addr}{o:HO}(h:H a=some o)(h':H b=none):a≠b:=by
 intro e;subst e;rw[h]at h';cases h'
section
variable (P:T6) (w:T7)
def ek (H:Hp) (h:Heap) (a:Addr):HO->Prop
 | .lst xs=>xs.length<=sizeLine/\∃(its:List T0) (n:Nat),aY xs its/\h.get? a=some { cls:=.type "list",data:=.seq its.toArray n }
 | .tup xs=>xs.length<=sizeLine/\∃its:List T0,aY xs its/\IsTup h a its.toArray
 | .dK kvs=>kvs.length<=sizeLine/\(a == sysModules)=false/\∃vs,KV kvs vs/\h.DictOf (dB P w) a vs
 | .dT kvs=>kvs.length<=sizeLine/\(a == sysModules)=false/\∃xs:List (List Key × Addr × T0),
   Paired (λ(p:List Key × V) (q:List Key × Addr × T0)=>p.1=q.1/\H q.2.1=some (.tup (p.1.map kV))/\bJ p.2 q.2.2) kvs xs/\
   ∃o es ep,h.get? a=some o/\o.ExactDict/\o.data=.dict es ep/\es.toList=xs.map (entryOfKey (tupleKind (dB P w)))/\(xs.map (·.1)).Nodup
 | .set S n=>h.SetOf (intKind P w) a S n
 | .ins C dx fs=>H dx=some (.own a)/\fs.length<=1000/\dx≠a/\h.get? a=some (PySem.W.instObj C dx)/\
   ∃mA,h.Ns1 dx mA/\(∀f,tm (fs.lookup f) (mA f))/\PySem.Within mA (fs.map (·.1))
 | .own _=>∃o,h.get? a=some o
 | .xd fs=>∃mA,h.Ns1 a mA/\∀f,tm (fs.lookup f) (mA f)
 | .rng lo hi=>∃t u v,h.get? a=some { cls:=.type "range",data:=.fields #[.int lo t,.int hi u,.int 1 v] }
 | .frz o u=>h.get? a=some o/\ek H h a u
 | .tbl ps=>h.get? a=some { cls:=.none,data:=.fields ps }
 | .met f x=>h.get? a=some (PySem.W.methodObj (.ref f) (.ref x))
 | .ext φ => φ h/\(∃o,h.get? a=some o)/\∀h1 h2:Heap,φ h1->(∀o,h1.get? a=some o->h2.get? a=some o)->φ h2
def HOk (H:Hp) (h:Heap):Prop:=∀a o,H a=some o->ek P w H h a o
end
section
variable {P:T6} {w:T7} {H H':Hp} {h h':Heap} {a:Addr} {o:HO}
theorem ek.lt (x:ek P w H h a o):a < h.objs.size:=by
 cases o with
 | lst xs=>obtain⟨_,_,_,_,e⟩:=x;exact ZI e
 | tup xs=>obtain⟨_,_,_,p⟩:=x;exact p.lt
 | dK kvs=>obtain⟨_,_,_,_,o,_,_,e,_⟩:=x;exact ZI e
 | dT kvs=>obtain⟨_,_,_,_,o,_,_,e,_⟩:=x;exact ZI e
 | set S n=>obtain⟨o,_,_,_,e,_⟩:=x;exact ZI e
 | ins C dx fs=>obtain⟨_,_,_,e,_⟩:=x;exact ZI e
 | own y=>obtain⟨_,e⟩:=x;exact ZI e
 | xd fs=>obtain⟨_,⟨_,_,_,e,_⟩,_⟩:=x;exact ZI e
 | rng lo hi=>obtain⟨_,_,_,e⟩:=x;exact ZI e
 | frz ob u=>obtain⟨e,_⟩:=x;exact ZI e
 | tbl ps=>exact ZI (show h.get? a=some _ from x)
 | met f y=>exact ZI (show h.get? a=some _ from x)
 | ext φ => obtain⟨_,⟨_,e⟩,_⟩:=x;exact ZI e
theorem Paired.mapP {α β : Type}{F G : α->β->Prop}:∀{c : List α} {d : List β},Paired F c d->(∀a b,F a b->G a b)->Paired G c d
 | _,_,.nil,_=>.nil
 | _,_,.cons r t,f=>.cons (f _ _ r) (Paired.mapP t f)
theorem ek.stay (x:ek P w H h a o)(k:∀b u,(b=a\/H b=some (.own a))->h.get? b=some u->h'.get? b=some u)
  (s:∀b,H b=some (.own a)->H' b=some (.own a)) (ht:∀b xs,H b=some (.tup xs)->H' b=some (.tup xs)):ek P w H' h' a o:=by
 induction o with
 | lst xs=>obtain⟨z,i,n,r,e⟩:=x;exact⟨z,i,n,r,k _ _ (.inl rfl) e⟩
 | tup xs=>obtain⟨z,i,r,g,e,c⟩:=x;exact⟨z,i,r,g,k _ _ (.inl rfl) e,c⟩
 | dK kvs=>obtain⟨z,y,A,r,g,es,ep,e,c⟩:=x;exact⟨z,y,A,r,g,es,ep,k _ _ (.inl rfl) e,c⟩
 | dT kvs =>
  obtain⟨z,y,xs,r,g,es,ep,e,c⟩:=x;exact⟨z,y,xs,Paired.mapP r λp q z=>⟨z.1,ht _ _ z.2.1,z.2.2⟩,g,es,ep,k _ _ (.inl rfl) e,c⟩
 | set S n=>obtain⟨g,es,ep,t,e,c⟩:=x;exact⟨g,es,ep,t,k _ _ (.inl rfl) e,c⟩
 | ins C dx fs =>
  obtain⟨d,z,ne,e,l,⟨j,es,ep,m,c⟩,r⟩:=x;exact⟨s _ d,z,ne,k _ _ (.inl rfl) e,l,⟨j,es,ep,k _ _ (.inr d) m,c⟩,r⟩
 | own y=>obtain⟨g,e⟩:=x;exact⟨g,k _ _ (.inl rfl) e⟩
 | xd fs=>obtain⟨l,⟨j,es,ep,e,c⟩,r⟩:=x;exact⟨l,⟨j,es,ep,k _ _ (.inl rfl) e,c⟩,r⟩
 | rng lo hi=>obtain⟨t,u,v,e⟩:=x;exact⟨t,u,v,k _ _ (.inl rfl) e⟩
 | frz g u ih=>obtain⟨e,q⟩:=x;exact⟨k _ _ (.inl rfl) e,ih q⟩
 | tbl ps =>
  have e:h.get? a=some { cls:=.none,data:=.fields ps }:=x;show h'.get? a=some { cls:=.none,data:=.fields ps };exact k a _ (.inl rfl) e
 | met f y =>
  have e:h.get? a=some (PySem.W.methodObj (.ref f) (.ref y)):=x;show h'.get? a=some (PySem.W.methodObj (.ref f) (.ref y));exact k a _ (.inl rfl) e
 | ext φ => obtain⟨p,⟨o,e⟩,st⟩:=x;exact⟨st _ _ p λo q=>k _ _ (.inl rfl) q,⟨o,k _ _ (.inl rfl) e⟩,st⟩
theorem HOk.lt (x:HOk P w H h)(e:H a=some o):a < h.objs.size:=(x a o e).lt
theorem HOk.fresh (x:HOk P w H h)(e:h.objs.size<=a):H a=none:=by
 cases q:H a with
 | none=>rfl
 | some u=>exact absurd (xC (x.lt q) e) (wD _)
theorem HOk.kept (x:HOk P w H h)(k:∀b u,h.get? b=some u->h'.get? b=some u):HOk P w H h':=λa o e =>
 (x a o e).stay (λb u _ q=>k b u q) (λ_ q=>q) λ_ _ q=>q
theorem HOk.laid (x:HOk P w H h)(k:∀b u,h.get? b=some u->h'.get? b=some u)(hp:h.objs.size<=a)(new:ek P w (upd H a o) h' a o):HOk P w (upd H a o) h':=λb u e=>by
 have d:=x.fresh hp
 by_cases hb:b=a
 ·subst hb;rw[bi]at e;cases e;exact new
 ·rw[aC hb]at e
  exact(x b u e).stay (λc v _ q=>k c v q) (λc q=>by rw[aC (bm q d)];exact q) λc xs q=>by rw[aC (bm q d)];exact q
end
def Rd (H:Hp) (a:Addr) (u:HO):Prop:=H a=some u\/∃o,H a=some (.frz o u)
variable {h:Heap}
theorem Rd.ok {P:T6}{w:T7}{a:Addr}{u:HO}(r:Rd H a u)(x:HOk P w H h):ek P w H h a u:=by
 rcases r with r|⟨o,r⟩
 ·exact x a u r
 ·obtain⟨_,q⟩:=x a _ r
  exact q
def Mut:Option HO->Prop
 | some (.lst _)=>True
 | some (.dK _)=>True
 | some (.dT _)=>True
 | some (.set _ _)=>True
 | some (.ins _ _ _)=>True
 | some (.ext _)=>True
 | _=>False
section
variable {P:T6} {w:T7} {H:Hp} {h h':Heap} {x e:Addr} {o':HO}
theorem HOk.write (ok:HOk P w H h)(f:Mut (H x))(he:e=x\/H e=some (.own x))(k:∀b u,b≠e->h.get? b=some u->h'.get? b=some u)(g:∃u,h'.get? e=some u)
  (new:ek P w (upd H x o') h' x o'):HOk P w (upd H x o') h':=λb u q=>by
 have a:∀c y,H c=some (.own y)->c≠x:=λc y r z=>by subst z;rw[r]at f;exact f
 have d:∀c xs,H c=some (.tup xs)->c≠x:=λc xs r z=>by subst z;rw[r]at f;exact f
 by_cases hb:b=x
 ·subst hb;rw[bi]at q;cases q;exact new
 ·rw[aC hb]at q
  by_cases hbe:b=e
  ·have i:H b=some (.own x):=by
    rcases he with z|z
    ·exact absurd (hbe.trans z) hb
    ·rw[hbe];exact z
   rw[q]at i;cases i;obtain⟨v,j⟩:=g;exact⟨v,by rw[hbe];exact j⟩
  ·refine(ok b u q).stay (λc v hc r=>k c v ?_ r) (λc r=>by rw[aC (a c b r)];exact r) λc xs r=>by rw[aC (d c xs r)];exact r
   rcases hc with rfl|hc
   ·exact hbe
   ·rintro rfl
    rcases he with z|z
    ·exact a c b hc z
    ·rw[hc]at z;cases z;exact hb rfl
end
structure Un (fs ex:List Addr) (H H':Hp) (h h':Heap):Prop where
 keep:∀b o,h.get? b=some o->H b=none->b∉fs->b∉ex->h'.get? b=some o
 slot:∀b o,h.get? b=some o->H b=none->b∈fs->b∉ex->∃sl,h'.get? b=some { o with slots:=sl }
 free:∀b o,h.get? b=some o->H b=none->b∉ex->H' b=none
 there:∀b o,h.get? b=some o->b∉ex->∃o',h'.get? b=some o'
 tups:∀b xs,H b=some (.tup xs)->H' b=some (.tup xs)
 frzs:∀b o u,H b=some (.frz o u)->H' b=some (.frz o u)
 tbls:∀b ps,H b=some (.tbl ps)->∃more,H' b=some (.tbl (ps++more))
section
variable {fs fs' ex ex':List Addr} {H H1 H2:Hp} {h h1 h2 h':Heap} {a x e:Addr} {o:HO}
theorem Un.any (u:Un fs ex H H1 h h1){c:Obj}(q:h.get? b=some c)(n:H b=none)(d:b∉ex):∃sl,h1.get? b=some { c with slots:=sl }:=by
 by_cases hb:b∈fs
 ·exact u.slot b c q n hb d
 ·exact⟨c.slots,u.keep b c q n hb d⟩
theorem Un.kept (k:∀b u,h.get? b=some u->h'.get? b=some u):Un fs ex H H h h' :=
 ⟨λb c q _ _ _=>k b c q,λb c q _ _ _=>⟨c.slots,k b c q⟩,λ_ _ _ n _=>n,λb c q _=>⟨c,k b c q⟩,λ_ _ q=>q,λ_ _ _ q=>q,λ_ ps q=>⟨#[],by rw[q];simp⟩⟩
theorem Un.refl:Un fs ex H H h h:=Un.kept λ_ _ q=>q
theorem Un.laid (k:∀b u,h.get? b=some u->h'.get? b=some u)(hp:h.objs.size<=a)(c:H a=none):Un fs ex H (upd H a o) h h' where
 keep:=λb u q _ _ _=>k b u q
 slot:=λb u q _ _ _=>⟨u.slots,k b u q⟩
 free:=λb u q n _=>by rw[aC (ZN (xC (ZI q) hp))];exact n
 there:=λb u q _=>⟨u,k b u q⟩
 tups:=λb xs q=>by rw[aC (bm q c)];exact q
 frzs:=λb u xs q=>by rw[aC (bm q c)];exact q
 tbls:=λb ps q=>⟨#[],by rw[aC (bm q c),q];simp⟩
theorem Un.write (c:Mut (H x))(he:e=x\/H e=some (.own x))(k:∀b u,b≠e->h.get? b=some u->h'.get? b=some u)(d:∃u,h'.get? e=some u):Un fs ex H (upd H x o) h h':=by
 have i:∀b,H b=none->b≠x:=λb n z=>by subst z;rw[n]at c;exact c
 have g:∀b,H b=none->b≠e:=λb n z=>by
  subst z;rcases he with r|r
  ·exact i b n r
  ·rw[n]at r;cases r
 have f:∀b u,H b=some u->¬Mut (some u)->b≠x:=λb u q j z=>by subst z;rw[q]at c;exact j c
 refine⟨λb u q n _ _=>k b u (g b n) q,λb u q n _ _=>⟨u.slots,k b u (g b n) q⟩,λb u q n _=>by rw[aC (i b n)];exact n,λb u q _ => ?_,
  λb xs q=>by rw[aC (f b _ q λz=>z)];exact q,λb u xs q=>by rw[aC (f b _ q λz=>z)];exact q,λb ps q=>⟨#[],by rw[aC (f b _ q λz=>z),q];simp⟩⟩
 by_cases hbe:b=e
 ·subst hbe;exact d
 ·exact⟨u,k b u hbe q⟩
end
def trk (h:Heap) (H:Hp):List Addr:=(List.range h.objs.size).filter λa=>(H a).isSome
def vh (h:Heap) (H:Hp):Heap:=PySem.W.hideAll h (trk h H)
theorem B8 (h:Heap)(H:Hp):(vh h H).objs.size=h.objs.size:=PySem.W.hideAll_size _ _
theorem DA {o:Obj}(e:h.get? b=some o)(n:H b=none):(vh h H).get? b=some o :=
 PySem.W.hideAll_get _ e λa=>by
  have q:(H b).isSome=true:=(List.mem_filter.mp a).2;rw[n]at q;simp at q
theorem F3 {o:Obj}(e:(vh h H).get? b=some o):h.get? b=some o/\H b=none:=by
 have a:h.get? b=some o:=PySem.W.of_hideAll (trk h H) e;refine⟨a,?_⟩;cases q:H b with
 | none=>rfl
 | some x =>
  have c:b∈trk h H:=List.mem_filter.mpr ⟨List.mem_range.mpr (ZI a),by simp[q]⟩;have z:(vh h H).get? b=none:=PySem.W.hideAll_none (trk h H) c;rw[z]at e;cases e
def A2 (g h:Heap) (L:Addr):List (Addr × Obj):=(List.range h.objs.size).filterMap λa=>if a=L\/(g.get? a).isSome=true then none else (h.get? a).map λo=>(a,o)
theorem w6 {g:Heap}{L a:Addr}{o:Obj}(h1:a≠L)(h2:g.get? a=none)(b:h.get? a=some o):(a,o)∈A2 g h L :=
 List.mem_filterMap.mpr ⟨a,List.mem_range.mpr (ZI b),by simp[h1,h2,b]⟩
def rest (g h:Heap) (L d:Addr):List (Addr × Obj):=(A2 g h L).filter λp=>decide (p.1≠d)
theorem jE {g:Heap}{L d a:Addr}{o:Obj}(h1:a≠L)(h2:g.get? a=none)(c:h.get? a=some o)(b:a≠d):(a,o)∈rest g h L d :=
 List.mem_filter.mpr ⟨w6 h1 h2 c,yQ b⟩
structure Mod (K:ZX) (mg:Str->Option T0) (base:Heap):Prop where
 kin:K.In base
 glob:base.Ns mainGlobals mg
 blt:∃mb,base.Ns builtinsNs mb/\∀x:Str,x ≠ "__name__"->mb x=bootBuiltins x
 nolimit:base.NoLimit
structure Cx where
 prog:T6
 w:T7
 K:ZX
 mg:Str->Option T0
 base:Heap
 A:T5
 N:List Str
 s₀ : T4
 H₀ : Hp
 env:Env
 outer:List Env
 stack:List Env
 ex:List Addr
 fn:Str->Bool
 calm:Bool
 pn:List (Addr × Obj)
 xe:T0->T4->Prop
def frs (l:List Env):List Addr:=l.filterMap (·.frame)
abbrev Cx.fs (X:Cx):List Addr:=frs X.outer
def Vis (sc:Scope) (x:Str):Prop:=sc.names.lookup x=some .local\/sc.names.lookup x=some .cell\/sc.names.lookup x=some .free
def Loc (sc:Scope) (x:Str):Prop:=sc.names.lookup x=some .local\/sc.names.lookup x=some .cell
def LW (env:Env) (h:Heap) (m:Str->Option T0) (x:Str) (u:T0):Prop :=
 (env.kindOf x=some .local/\m x=some u)\/((env.kindOf x=some .cell\/env.kindOf x=some .free)/\∃c,env.cells.lookup x=some c/\h.IsCell c (some u))
structure Cx.Ok (X:Cx):Prop where
 mod:Mod X.K X.mg X.base
 kind:X.env.scope.kind=.function
 glob:X.env.globals=mainGlobals
 blt:X.env.builtins=builtinsNs
 above:X.s₀.heap.objs.size<=X.env.locals
 inj:∀x y c,X.env.cells.lookup x=some c->X.env.cells.lookup y=some c->x=y
 has:∀x,(X.env.kindOf x=some .cell\/X.env.kindOf x=some .free)->∃c,X.env.cells.lookup x=some c
 cab:∀x c,X.fn x=true->X.env.cells.lookup x=some c->X.s₀.heap.objs.size<=c
 hd:X.calm=true->X.A.handled=none
 frames:X.A.frames=some X.stack
 stk:X.stack=X.outer\/(X.stack=X.env :: X.outer/\X.env.frame=some X.env.locals)
 exf:∀b∈X.ex,b≠X.env.locals/\∀x c,X.env.cells.lookup x=some c->c≠b
 bs:∀b o,X.base.get? b=some o->X.s₀.heap.get? b=some o/\X.H₀ b=none
 bsz:X.base.objs.size<=X.s₀.heap.objs.size
 noex:∀b o,X.base.get? b=some o->b∉X.ex
 exfs:∀b∈X.ex,b∉X.fs
 funs:X.s₀.heap.FunFrames X.base X.outer
 frf:∀b∈X.fs,X.H₀ b=none
structure Inv (X:Cx) (pins:List (Addr × Obj)) (σ:List (Option V)) (H:Hp) (s:T4):Prop where
 ok:X.Ok
 os:s.os=X.s₀.os
 bare:AllBare s.gens
 base:Un X.fs X.ex X.H₀ H X.s₀.heap s.heap
 loc:∃m,s.heap.Ns X.env.locals m/\∀(i:Nat) (x:Str) (v:V),X.N[i]? = some x->σ[i]? = some (some v)->Vis X.env.scope x->∃u,bJ v u/\LW X.env s.heap m x u
 cell:∀x c,X.env.cells.lookup x=some c->∃v,s.heap.IsCell c v
 free:H X.env.locals=none
 freeC:∀x c,X.env.cells.lookup x=some c->H c=none
 pin:∀p∈X.pn++pins,s.heap.get? p.1=some p.2/\H p.1=none/\p.1≠X.env.locals/\p.1∉X.fs/\∀v,p.2.data ≠ .cell v
 hok:HOk X.prog X.w H s.heap
 len : σ.length=X.N.length
variable {x:Str}{u:T0}{E:T0->T4->Prop}{A:T5}
section
variable {X:Cx} {pins:List (Addr × Obj)} {σ:List (Option V)} {H H':Hp} {s:T4} {h':Heap}
theorem Cx.Ok.nofr (ok:X.Ok){o:Obj}(e:X.base.get? b=some o):b∉X.fs:=λa=>by
 have:=(ok.funs.mem a).1;rw[e]at this;cases this
theorem Inv.bs (I:Inv X pins σ H s):∀b o,X.base.get? b=some o->s.heap.get? b=some o/\H b=none:=λb o e =>
 ⟨I.base.keep b o (I.ok.bs b o e).1 (I.ok.bs b o e).2 (I.ok.nofr e) (I.ok.noex b o e),I.base.free b o (I.ok.bs b o e).1 (I.ok.bs b o e).2 (I.ok.noex b o e)⟩
theorem Inv.bk (I:Inv X pins σ H s):∀b o,X.base.get? b=some o->s.heap.get? b=some o:=λb o e=>(I.bs b o e).1
theorem Inv.mod (I:Inv X pins σ H s):Mod X.K X.mg X.base:=I.ok.mod
theorem Inv.kIn (I:Inv X pins σ H s):X.K.In s.heap:=I.ok.mod.kin.keeps I.bk
theorem Inv.lt (I:Inv X pins σ H s):X.env.locals < s.heap.objs.size:=let ⟨_,hn,_⟩:=I.loc;hn.lt
theorem Inv.sz (I:Inv X pins σ H s):X.s₀.heap.objs.size<=s.heap.objs.size:=ZM I.ok.above (YI I.lt)
theorem Inv.nofs (I:Inv X pins σ H s){a:Addr}(h:s.heap.objs.size<=a):a∉X.fs:=λb=>by
 obtain⟨_,o,c,_⟩:=I.ok.funs.mem b;exact absurd (xC (ZI c) (ZM I.sz h)) (wD _)
theorem Inv.cne (I:Inv X pins σ H s):∀x c,X.env.cells.lookup x=some c->c≠X.env.locals:=λx c e z=>by
 obtain⟨v,o,b,hd⟩:=I.cell x c e;obtain⟨m,⟨o',es,ep,a,hd',_⟩,_⟩:=I.loc;rw[z,a]at b;cases b;rw[hd']at hd;cases hd
theorem Inv.funs (I:Inv X pins σ H s):s.heap.FunFrames X.base X.outer:=by
 have f:∀(l:List Env),(∀b∈frs l,b∈X.fs)->X.s₀.heap.FunFrames X.base l->s.heap.FunFrames X.base l:=by
  intro l
  induction l with
  | nil=>intro _ _;trivial
  | cons env r ih =>
   intro g j;obtain⟨m,⟨L,o,c,k,i,hd⟩,h⟩:=j;have a:L∈X.fs:=g L (by unfold frs;rw[XD,c];exact ZV);obtain⟨sl,e⟩:=I.base.slot L o i (I.ok.frf L a) a λz=>I.ok.exfs L z a;exact⟨m,⟨L,_,c,k,e,hd⟩,ih (λb d=>g b (by unfold frs;rw[XD,c];exact ZW _ d)) h⟩
 exact f X.outer (λ_ d=>d) I.ok.funs
theorem Inv.stack (I:Inv X pins σ H s):s.heap.FunFrames X.base X.stack:=by
 rcases I.ok.stk with e|⟨e,hf⟩
 ·rw[e];exact I.funs
 ·rw[e]
  obtain⟨m,a,_⟩:=I.loc;refine .cons (by rw[I.ok.kind];decide) hf a ?_ I.funs;exact Heap.get?_none_of_le (ZM I.ok.bsz I.ok.above)
theorem Inv.stkSub (I:Inv X pins σ H s):∀b∈frs X.stack,b∈X.env.locals :: X.fs:=λb a=>by
 rcases I.ok.stk with e|⟨e,hf⟩
 ·rw[e]at a;exact ZW _ a
 ·rw[e]at a
  unfold frs at a;rw[XD,hf]at a;exact a
theorem Inv.stkFree (I:Inv X pins σ H s):∀b∈frs X.stack,H b=none:=λb a=>by
 rcases Y6.mp (I.stkSub b a) with e|a
 ·rw[e];exact I.free
 ·obtain⟨_,o,c,_⟩:=I.ok.funs.mem a
  exact I.base.free b o c (I.ok.frf b a) λz=>I.ok.exfs b z a
theorem Inv.step {g':Array GenState}{t':Nat}{d':Drawn}{ch:List Addr}(I:Inv X pins σ H s)
  (f:∀b∈ch,(b∈X.ex\/X.s₀.heap.objs.size<=b)/\b≠X.env.locals/\(∀x c,X.env.cells.lookup x=some c->c≠b)/\∀p∈X.pn++pins,p.1≠b)
  (keep:∀b o,b≠X.env.locals->b∉X.fs->b∉ch->s.heap.get? b=some o->H b=none->h'.get? b=some o)
  (slot:∀b o,b≠X.env.locals->b∈X.fs->b∉ch->s.heap.get? b=some o->H b=none->∃sl,h'.get? b=some { o with slots:=sl }) (free:∀b o,b∉ch->s.heap.get? b=some o->H b=none->H' b=none)
  (there:∀b o,b∉ch->s.heap.get? b=some o->∃o',h'.get? b=some o')
  (tups:∀b xs,H b=some (.tup xs)->H' b=some (.tup xs)) (frzs:∀b o u,H b=some (.frz o u)->H' b=some (.frz o u)) (tbls:∀b ps,H b=some (.tbl ps)->∃more,H' b=some (.tbl (ps++more)))
  (ns:∀m,s.heap.Ns X.env.locals m->h'.Ns X.env.locals m) (hok:HOk X.prog X.w H' h') (K:AllBare g') :
  Inv X pins σ H' { s with heap:=h',gens:=g',drawn:=d',toks:=t' }:=by
 have A:∀b o,X.s₀.heap.get? b=some o->b≠X.env.locals:=λb o e=>ZN (xC (ZI e) I.ok.above);have t:∀b o,X.s₀.heap.get? b=some o->b∉X.ex->b∉ch:=λb o e a w=>by
  rcases (f b w).1 with z|z
  ·exact a z
  ·exact absurd (xC (ZI e) z) (wD _)
 have h:∀x c,X.env.cells.lookup x=some c->∀v,s.heap.IsCell c v->h'.IsCell c v:=λx c e v ⟨o,y,hd⟩=>by
  have g:c∉ch:=λz=>(f c z).2.2.1 x c e rfl
  by_cases hc:c∈X.fs
  ·obtain⟨sl,q⟩:=slot c o (I.cne x c e) hc g y (I.freeC x c e)
   exact⟨_,q,hd⟩
  ·exact⟨o,keep c o (I.cne x c e) hc g y (I.freeC x c e),hd⟩
 refine⟨I.ok,I.os,K,⟨λb o e n w a => ?_,λb o e n w a => ?_,λb o e n a => ?_,λb o e a => ?_,λb xs e=>tups b xs (I.base.tups b xs e),λb o xs e=>frzs b o xs (I.base.frzs b o xs e),λb ps e => ?_⟩,?_,λx c e => ?_,?_,λx c e => ?_,λp E => ?_,hok,I.len⟩
 ·exact keep b o (A b o e) w (t b o e a) (I.base.keep b o e n w a) (I.base.free b o e n a)
 ·obtain⟨sl,j⟩:=I.base.slot b o e n w a
  obtain⟨C,B⟩:=slot b _ (A b o e) w (t b o e a) j (I.base.free b o e n a);exact⟨C,B⟩
 ·obtain⟨o',j⟩:=I.base.there b o e a
  exact free b o' (t b o e a) j (I.base.free b o e n a)
 ·obtain⟨o',j⟩:=I.base.there b o e a
  exact there b o' (t b o e a) j
 ·obtain⟨m1,j⟩:=I.base.tbls b ps e
  obtain⟨m2,B⟩:=tbls b _ j;exact⟨m1++m2,by rw[B,Array.append_assoc]⟩
 ·obtain⟨m,J,G⟩:=I.loc
  refine⟨m,ns m J,λi x v j B F => ?_⟩;obtain⟨u,r,l⟩:=G i x v j B F;refine⟨u,r,?_⟩;rcases l with l|⟨k,c,e,z⟩
  ·exact .inl l
  ·exact .inr ⟨k,c,e,h x c e _ z⟩
 ·obtain⟨v,z⟩:=I.cell x c e
  exact⟨v,h x c e v z⟩
 ·obtain⟨m,⟨o,_,_,y,_⟩,_⟩:=I.loc
  exact free _ o (λz=>(f _ z).2.1 rfl) y I.free
 ·obtain⟨v,o,y,hd⟩:=I.cell x c e
  exact free c o (λz=>(f c z).2.2.1 x c e rfl) y (I.freeC x c e)
 ·obtain⟨e,n,ne,D,d⟩:=I.pin p E
  have g:p.1∉ch:=λz=>(f p.1 z).2.2.2 p E rfl;exact⟨keep p.1 p.2 ne D g e n,free p.1 p.2 g e n,ne,D,d⟩
theorem Inv.un {t':Nat}(I:Inv X pins σ H s)(u:Un X.fs [] H H' s.heap h')(hok:HOk X.prog X.w H' h'):Inv X pins σ H' { s with heap:=h',toks:=t' }:=by
 obtain⟨m,⟨o,es,ep,g,r⟩,_⟩:=id I.loc;obtain⟨sl,h⟩:=u.any g I.free (by simp);exact I.step (g':=s.gens) (d':=s.drawn) (ch:=[]) (λ_ z=>nomatch z) (λb o _ f _ e n=>u.keep b o e n f (by simp)) (λb o _ f _ e n=>u.slot b o e n f (by simp)) (λb o _ e n=>u.free b o e n (by simp)) (λb o _ e=>u.there b o e (by simp)) u.tups u.frzs u.tbls (λk i=>by
  obtain⟨o',d,c,a,j⟩:=i;rw[g]at a;cases a;exact⟨_,d,c,h,j⟩) hok I.bare
theorem Inv.call {g':Array GenState}{t':Nat}{d':Drawn}{ch:List Addr}(I:Inv X pins σ H s)(u:Un (frs X.stack) ch H H' s.heap h')(hok:HOk X.prog X.w H' h')(q:AllBare g')
  (a:∀b∈ch,(b∈X.ex\/X.s₀.heap.objs.size<=b)/\b≠X.env.locals/\(∀x c,X.env.cells.lookup x=some c->c≠b)/\∀p∈X.pn++pins,p.1≠b) :
  Inv X pins σ H' { s with heap:=h',gens:=g',drawn:=d',toks:=t' }:=by
 obtain⟨m,⟨o,es,ep,i,r⟩,_⟩:=id I.loc;obtain⟨sl,f⟩:=u.any i I.free λz=>(a _ z).2.1 rfl;exact I.step (ch:=ch) a (λb o f l hc e n=>u.keep b o e n (λz=>(Y6.mp (I.stkSub b z)).elim f l) hc) (λb o _ _ hc e n=>u.any e n hc) (λb o hc e n=>u.free b o e n hc) (λb o hc e=>u.there b o e hc) u.tups u.frzs u.tbls (λt j=>by
  obtain⟨o',h,g,d,k⟩:=j;rw[i]at d;cases d;exact⟨_,h,g,f,k⟩) hok q
theorem Inv.turned {t':Nat}{it:Addr}(I:Inv X pins σ H s)(k:∀b o,b≠it->s.heap.get? b=some o->h'.get? b=some o)(i:H it=none)(d:it≠X.env.locals)
  (h1:it∈X.ex\/X.s₀.heap.objs.size<=it) (h2:∀x c,X.env.cells.lookup x=some c->c≠it) (h:∀p∈X.pn++pins,p.1≠it):Inv X pins σ H { s with heap:=h',toks:=t' }:=by
 have a:∀b u,H b=some u->b≠it:=λb u e z=>by rw[z,i]at e;cases e
 refine I.step (g':=s.gens) (d':=s.drawn) (ch:=[it]) (λb j => ?_) (λb o _ _ hc e _=>k b o (λz=>hc (by simp[z])) e) (λb o _ _ hc e _=>⟨o.slots,k b o (λz=>hc (by simp[z])) e⟩) (λ_ _ _ _ n=>n)
  (λb o hc e=>⟨o,k b o (λz=>hc (by simp[z])) e⟩) (λ_ _ e=>e) (λ_ _ _ e=>e) (λb ps e=>⟨#[],by rw[e];simp⟩) (λm f => ?_) (λb u e => ?_) I.bare
 ·have e:b=it:=by simpa using j
  subst e;exact⟨h1,d,h2,h⟩
 ·obtain⟨o,es,ep,g,r⟩:=f
  exact⟨o,es,ep,k _ o (YT d) g,r⟩
 ·refine(I.hok b u e).stay (λc v hc q=>k c v ?_ q) (λ_ q=>q) λ_ _ q=>q
  rcases hc with z|z
  ·rw[z];exact a b u e
  ·exact a c _ z
theorem Inv.tok (I:Inv X pins σ H s)(t:Nat):Inv X pins σ H { s with toks:=t }:=I.un (h':=s.heap) (t':=t) Un.refl I.hok
theorem Inv.kept {t':Nat}(I:Inv X pins σ H s)(k:∀b u,s.heap.get? b=some u->h'.get? b=some u):Inv X pins σ H { s with heap:=h',toks:=t' }:=I.un (Un.kept k) (I.hok.kept k)
theorem Inv.laid {a:Addr}{o:HO}{t':Nat}(I:Inv X pins σ H s)(k:∀b u,s.heap.get? b=some u->h'.get? b=some u)(hp:s.heap.objs.size<=a)(new:ek X.prog X.w (upd H a o) h' a o) :
  Inv X pins σ (upd H a o) { s with heap:=h',toks:=t' }:=I.un (Un.laid k hp (I.hok.fresh hp)) (I.hok.laid k hp new)
theorem Inv.write {x e:Addr}{o:HO}{t':Nat}(I:Inv X pins σ H s)(c:Mut (H x))(he:e=x\/H e=some (.own x))(k:∀b u,b≠e->s.heap.get? b=some u->h'.get? b=some u)(a:∃u,h'.get? e=some u)
  (new:ek X.prog X.w (upd H x o) h' x o):Inv X pins σ (upd H x o) { s with heap:=h',toks:=t' }:=I.un (Un.write c he k a) (I.hok.write c he k a new)
theorem Inv.pins_of {pins':List (Addr × Obj)}(I:Inv X pins σ H s)(h:∀p∈pins',s.heap.get? p.1=some p.2/\H p.1=none/\p.1≠X.env.locals/\p.1∉X.fs/\∀v,p.2.data ≠ .cell v):Inv X pins' σ H s :=
 ⟨I.ok,I.os,I.bare,I.base,I.loc,I.cell,I.free,I.freeC,λp a=>(W0.mp a).elim (λz=>I.pin p (List.mem_append_left _ z)) (h p),I.hok,I.len⟩
theorem w8 {N:List Str}(c:N.Nodup){i j:Nat}(a:N[i]? = some x)(b:N[j]? = some x):i=j:=by
 obtain⟨h1,e⟩:=List.getElem?_eq_some_iff.mp a;obtain⟨h2,d⟩:=List.getElem?_eq_some_iff.mp b;exact(List.getElem_inj c).mp (e.trans d.symm)
theorem uh {M:Model}{i:Nat}{v:V}{Q:Unit->T4->Prop}(I:Inv X pins σ H s)(hN:X.N.Nodup)(hi:X.N[i]? = some x)(t:Loc X.env.scope x)(r:bJ v u)
  (h:∀Y,Inv X pins (σ.set i (some v)) H Y->(∃a,Heap.SameBut a s.heap Y.heap/\(a=X.env.locals\/X.env.cells.lookup x=some a))->Q () Y) (hf:X.fn x=true\/X.env.scope.names.lookup x=some .local:=by first|exact .inl rfl|exact .inr rfl|assumption):wpAny M A (storeName X.env x u) Q E s:=by
 obtain⟨m,hn,hl⟩:=id I.loc;have N:(X.env.scope.kind == .class || (X.env.scope.kind == .module && X.env.locals != X.env.globals))=false:=by rw[I.ok.kind];rfl
 have C:i < σ.length:=by rw[I.len];exact(List.getElem?_eq_some_iff.mp hi).1
 have G:=I.cne;have g:∀{a:Addr} {h':Heap},(∃o,s.heap.get? a=some o/\H a=none)->Heap.SameBut a s.heap h'->HOk X.prog X.w H h':=λ{a h'} ha f b ob e=>by
  obtain⟨_,_,w⟩:=ha;refine(I.hok b ob e).stay (λc P hc q=>(f.2 c ?_).trans q) (λ_ q=>q) λ_ _ q=>q;rintro rfl;rcases hc with rfl|hc
  ·rw[w]at e;cases e
  ·rw[w]at hc;cases hc
 rcases t with hk|hk
 ·refine wpAny_storeName_local hk hn (λh' a0 f => ?_) N
  obtain⟨oL,_,_,W,_⟩:=id hn;refine h _ ⟨I.ok,I.os,I.bare,⟨λb o e n J t => ?_,λb o e n J t => ?_,I.base.free,λb o e t => ?_,I.base.tups,I.base.frzs,I.base.tbls⟩,⟨_,a0,λj y v' l B U => ?_⟩,λy c e => ?_,I.free,I.freeC,λp Z => ?_,g ⟨oL,W,I.free⟩ f,by simpa using I.len⟩ ⟨_,f,.inl rfl⟩
  ·exact(f.2 b (ZN (xC (ZI e) I.ok.above))).trans (I.base.keep b o e n J t)
  ·obtain⟨sl,l⟩:=I.base.slot b o e n J t
   exact⟨sl,(f.2 b (ZN (xC (ZI e) I.ok.above))).trans l⟩
  ·obtain⟨o',l⟩:=I.base.there b o e t
   exact⟨o',(f.2 b (ZN (xC (ZI e) I.ok.above))).trans l⟩
  ·by_cases D:j=i
   ·subst D
    rw[hi]at l;cases l;rw[List.getElem?_set_self C]at B;cases B;exact⟨u,r,.inl ⟨hk,by simp⟩⟩
   ·rw[ZP (YT D)]at B
    obtain⟨S,r',q⟩:=hl j y v' l B U;refine⟨S,r',?_⟩;rcases q with ⟨k,e⟩|⟨k,c,e,z⟩
    ·refine .inl ⟨k,?_⟩
     have:y≠x:=λe=>D (w8 hN l (e ▸ hi));simp[this,e]
    ·exact .inr ⟨k,c,e,z.sameBut f (G y c e)⟩
  ·obtain⟨P,z⟩:=I.cell y c e
   exact⟨P,z.sameBut f (G y c e)⟩
  ·obtain⟨e,n,ne,T,d⟩:=I.pin p Z
   exact⟨(f.2 p.1 ne).trans e,n,ne,T,d⟩
 ·have F:X.fn x=true:=by
   rcases hf with z|z
   ·exact z
   ·rw[z]at hk;cases hk
  obtain⟨c,hc⟩:=I.ok.has x (.inl hk);obtain⟨P,z⟩:=I.cell x c hc;refine wpAny_storeName_cell I.ok.kind hk hc z (λh' O f => ?_);obtain⟨oc,L,K⟩:=id z;refine h { s with heap:=h' } ⟨I.ok,I.os,I.bare,⟨λb o e n J t => ?_,λb o e n J t => ?_,I.base.free,λb o e t => ?_,I.base.tups,I.base.frzs,I.base.tbls⟩,⟨m,hn.sameBut f (YT (G x c hc)),λj y v' l B U => ?_⟩,λy R e => ?_,I.free,I.freeC,λp Z => ?_,g ⟨oc,L,I.freeC x c hc⟩ f,by simpa using I.len⟩ ⟨c,f,.inr hc⟩
  ·exact(f.2 b (ZN (xC (ZI e) (I.ok.cab x c F hc)))).trans (I.base.keep b o e n J t)
  ·obtain⟨sl,l⟩:=I.base.slot b o e n J t
   exact⟨sl,(f.2 b (ZN (xC (ZI e) (I.ok.cab x c F hc)))).trans l⟩
  ·obtain⟨o',l⟩:=I.base.there b o e t
   exact⟨o',(f.2 b (ZN (xC (ZI e) (I.ok.cab x c F hc)))).trans l⟩
  ·by_cases D:j=i
   ·subst D
    rw[hi]at l;cases l;rw[List.getElem?_set_self C]at B;cases B;exact⟨u,r,.inr ⟨.inl hk,c,hc,O⟩⟩
   ·rw[ZP (YT D)]at B
    obtain⟨S,r',q⟩:=hl j y v' l B U;refine⟨S,r',?_⟩;rcases q with q|⟨k,R,e,z'⟩
    ·exact .inl q
    ·refine .inr ⟨k,R,e,z'.sameBut f ?_⟩
     rintro rfl;exact D (w8 hN l (I.ok.inj _ _ _ e hc ▸ hi))
  ·by_cases hcc:R=c
   ·subst hcc;exact⟨_,O⟩
   ·obtain⟨w2,z2⟩:=I.cell y R e
    exact⟨w2,z2.sameBut f hcc⟩
  ·obtain⟨e,n,ne,T,d⟩:=I.pin p Z
   refine⟨(f.2 p.1 ?_).trans e,n,ne,T,d⟩;intro q;rw[q,L]at e;have q':oc=p.2:=ZT e;exact d P (by rw[<-q'];exact K)
theorem w9 {M:Model}{i:Nat}{v:V}{Q:Unit->T4->Prop}(I:Inv X pins σ H s)(b:X.N.Nodup)(hi:X.N[i]? = some x)(e:Loc X.env.scope x)(r:bJ v u)
  (h:∀a,Inv X pins (σ.set i (some v)) H a->Q () a) (c:X.fn x=true\/X.env.scope.names.lookup x=some .local:=by first|exact .inl rfl|exact .inr rfl|assumption):wpAny M A (storeName X.env x u) Q E s :=
 uh I b hi e r (λa d _=>h a d) c
theorem Inv.call' {a:T4}{ch:List Addr}(I:Inv X pins σ H s)(f:a.os=s.os)(u:Un (frs X.stack) ch H H' s.heap a.heap)(hok:HOk X.prog X.w H' a.heap)(g:AllBare a.gens)
  (d:∀b∈ch,(b∈X.ex\/X.s₀.heap.objs.size<=b)/\b≠X.env.locals/\(∀x c,X.env.cells.lookup x=some c->c≠b)/\∀p∈X.pn++pins,p.1≠b):Inv X pins σ H' a:=by
 obtain⟨h',g',d',t',o'⟩:=a;have e:o'=s.os:=f;subst e;exact I.call (g':=g') (t':=t') (d':=d') u hok g d
end
abbrev XK:=T0->Option Addr->Hp->Prop
abbrev St:=List (Option V)
abbrev VK:=V->Hp->Prop
abbrev TE:=St->Hp->VK->Prop
abbrev TT:=St->Hp->(Bool->Hp->Prop)->Prop
abbrev TA:=St->Hp->(List V->Hp->Prop)->Prop
structure qJ where
 nx:St->Hp->Prop
 rt:VK
 bk:St->Hp->Prop:=λ_ _=>False
 ct:St->Hp->Prop:=λ_ _=>False
abbrev TS:=qJ->St->Hp->Prop
def EP (X:Cx) (pins:List (Addr × Obj)) (σ:St) (Q:VK) (u:T0) (s':T4):Prop:=∃v H',Inv X pins σ H' s'/\bJ v u/\Q v H'
def TP (X:Cx) (pins:List (Addr × Obj)) (σ:St) (Q:Bool->Hp->Prop) (b:Bool) (s':T4):Prop:=∃H',Inv X pins σ H' s'/\Q b H'
def AP (X:Cx) (pins:List (Addr × Obj)) (σ:St) (Q:List V->Hp->Prop) (us:List T0) (s':T4):Prop:=∃vs H',Inv X pins σ H' s'/\aY vs us/\Q vs H'
def SP (X:Cx) (pins:List (Addr × Obj)) (D:qJ) (f:Flow) (s':T4):Prop :=
 match f with
 | .next=>∃σ' H',Inv X pins σ' H' s'/\D.nx σ' H'
 | .brk=>∃σ' H',Inv X pins σ' H' s'/\D.bk σ' H'
 | .cont=>∃σ' H',Inv X pins σ' H' s'/\D.ct σ' H'
 | .ret u=>∃v σ' H',Inv X pins σ' H' s'/\bJ v u/\D.rt v H'
def PE (X:Cx) (e:Expr) (t:TE):Prop :=
 ∀(pins:List (Addr × Obj)) (s:T4) (σ:St) (H:Hp) (Q:VK),Inv X pins σ H s->t σ H Q->wpAny (model X.prog X.w) X.A (eval e X.env) (EP X pins σ Q) X.xe s
def PT (X:Cx) (e:Expr) (t:TT):Prop :=
 ∀(pins:List (Addr × Obj)) (s:T4) (σ:St) (H:Hp) (Q:Bool->Hp->Prop),Inv X pins σ H s->t σ H Q->wpAny (model X.prog X.w) X.A (isTrue e X.env (eval e X.env)) (TP X pins σ Q) X.xe s
def PW (X:Cx) (e:Expr) (t:TT):Prop :=
 ∀(whole:Sem T0) (pins:List (Addr × Obj)) (s:T4) (σ:St) (H:Hp) (Q:Bool->Hp->Prop),Inv X pins σ H s->t σ H Q->wpAny (model X.prog X.w) X.A (isTrue e X.env whole) (TP X pins σ Q) X.xe s
theorem PW.pt {X:Cx}{e:Expr}{t:TT}(h:PW X e t):PT X e t:=h _
def PA (X:Cx) (es:List Expr) (t:TA):Prop :=
 ∀(pos:Pos) (pins:List (Addr × Obj)) (s:T4) (σ:St) (H:Hp) (Q:List V->Hp->Prop),Inv X pins σ H s->t σ H Q->wpAny (model X.prog X.w) X.A (spliced (backTo pos (starEach es X.env))) (AP X pins σ Q) X.xe s
def PS (X:Cx) (st:Stmt) (t:TS):Prop :=
 ∀(pins:List (Addr × Obj)) (s:T4) (σ:St) (H:Hp) (D:qJ),Inv X pins σ H s->t D σ H->wpAny (model X.prog X.w) X.A (exec st X.env) (SP X pins D) X.xe s
def PSs (X:Cx) (st:List Stmt) (t:TS):Prop :=
 ∀(pins:List (Addr × Obj)) (s:T4) (σ:St) (H:Hp) (D:qJ),Inv X pins σ H s->t D σ H->wpAny (model X.prog X.w) X.A (execs st X.env) (SP X pins D) X.xe s
variable {s:T4}
theorem thn {α : Type}{t:Sem α}{Q b : α->T4->Prop}{M:Model}(h:wpAny M A t Q E s)(c:∀a s,Q a s->b a s):wpAny M A t b E s:=XI h c λ_ _ x=>x
variable {σ:St}{pins:List (Addr × Obj)}
section
variable {X:Cx}
def LX (i:Nat):TE:=λσ H Q=>∃v,σ[i]? = some (some v)/\Q v H
def tC (v:V):TE:=λ_ H Q=>Q v H
theorem Ip {i:Nat}  {pos:Pos} (f:X.N[i]? = some x) (g:Vis X.env.scope x) (hd:(x == ("__debug__" : Str))=false:=by decide) (b:(x == ("__classdict__" : Str))=false:=by decide):PE X (.Name x pos) (LX i):=by
 intro pins s σ H Q I h;obtain⟨v,e,h⟩:=h;obtain⟨m,j,d⟩:=I.loc;obtain⟨u,r,l⟩:=d i x v f e g;have a:EP X pins σ Q u s:=⟨v,H,I,r,h⟩;rcases l with ⟨hk,hm⟩|⟨hk,c,hc,hcell⟩
 ·exact wpAny_Name (wpAny_loadName_local I.ok.kind hk j hm a) hd
 ·rcases hk with hk|hk
  ·exact wpAny_Name (wpAny_loadName_cell I.ok.kind hk hc hcell a) hd
  ·exact wpAny_Name (wpAny_loadName_free I.ok.kind hk hc hcell a b) hd
theorem DB {i j pos}:PE X (.Constant (.int i) j pos) (tC (.int i)):=λ_ _ _ H _ I h=>wpAny_Constant_int ⟨.int i,H,I.tok _,⟨_,rfl⟩,h⟩
theorem Kq {b j pos}:PE X (.Constant (.bool b) j pos) (tC (.bl b)):=λ_ _ _ H _ I h=>Constant_bool ⟨.bl b,H,I,rfl,h⟩
theorem Iq {j pos}:PE X (.Constant .none j pos) (tC .non):=λ_ _ _ H _ I h=>Constant_none ⟨.non,H,I,rfl,h⟩
theorem Ir {x j pos}:PE X (.Constant (.str x) j pos) (tC (.str x)):=λ_ _ _ H _ I h=>Calls.Constant_str ⟨.str x,H,I.tok _,⟨_,rfl⟩,h⟩
def Gl (X:Cx) (x:Str):Prop:=X.env.kindOf x=some .globalImplicit
theorem A3 {pos:Pos}{Q:T0->T4->Prop}(I:Inv X pins σ H s)(a:Gl X x)(hm:X.mg x=some u)(h:Q u s)
  (hd:(x == ("__debug__" : Str))=false:=by decide):wpAny (model X.prog X.w) X.A (eval (.Name x pos) X.env) Q E s :=
 Calls.Name_function_global I.ok.kind a (Calls.loadGlobal_global (by rw[I.ok.glob];exact I.mod.glob.keeps I.bk) hm h) hd
theorem jY {pos:Pos}{Q:T0->T4->Prop}(I:Inv X pins σ H s)(c:Gl X x)(hm:X.mg x=none)(a:bootBuiltins x=some u)(h:Q u s)
  (b:x ≠ "__name__" := by decide) (hd:(x == ("__debug__" : Str))=false:=by decide):wpAny (model X.prog X.w) X.A (eval (.Name x pos) X.env) Q E s:=by
 obtain⟨d,h1,h2⟩:=I.mod.blt;exact Calls.Name_function_global I.ok.kind c (Calls.loadGlobal_builtin (by rw[I.ok.glob];exact I.mod.glob.keeps I.bk) hm (by rw[I.ok.blt];exact h1.keeps I.bk) ((h2 x b).trans a) h) hd
theorem F4  {v:V}  {pos:Pos} (a:Gl X x) (hm:X.mg x=some u) (r:bJ v u) (hd:(x == ("__debug__" : Str))=false:=by decide):PE X (.Name x pos) (tC v) :=
 λ_ _ _ H _ I h=>A3 I a hm ⟨v,H,I,r,h⟩ hd
theorem F5  {v:V}  {pos:Pos} (b:Gl X x) (hm:X.mg x=none) (a:bootBuiltins x=some u) (r:bJ v u) (c:x ≠ "__name__" := by decide) (hd:(x == ("__debug__" : Str))=false:=by decide):PE X (.Name x pos) (tC v) :=
 λ_ _ _ H _ I h=>jY I b hm a ⟨v,H,I,r,h⟩ c hd
variable {a b:Expr} {ta tb:TE} {pos:Pos}
def tB (t:TE):TT:=λσ H Q=>t σ H λx H1=>∃c,x=.bl c/\Q c H1
theorem Iu {e:Expr}{t:TE}(h:PE X e t)(he:∀c,isTrue e X.env c=(do let v <-c;standAt e.pos;holding [v] (truthy v)):=by intro _;rfl):PT X e (tB t):=by
 intro pins s σ H Q I hw;refine isTrue_plain (thn (h pins s σ H _ I hw) λv i ⟨x,H1,g,f,q1⟩ => ?_) (he _);obtain⟨d,rfl,q⟩:=q1;cases f;exact YU ⟨H1,g,q⟩
variable {tA tB':TT} {rest:List Expr}
def jF (t u:TT):TT:=λσ H Q=>t σ H λc H1=>if c=true then u σ H1 Q else Q false H1
def tOr (t u:TT):TT:=λσ H Q=>t σ H λc H1=>if c=true then Q true H1 else u σ H1 Q
def cZ (t:TT):TT:=λσ H Q=>t σ H λc H1=>Q (!c) H1
theorem F6 (d:PT X a tA):PW X (.BoolOp .And [a] pos) tA:=by
 intro g pins s σ H Q I h;refine isTrue_and (thn (d pins s σ H Q I h) λc f e => ?_);cases c with
 | true=>exact isTrue_and_nil e
 | false=>exact e
theorem Iv (d:PT X a tA):PW X (.BoolOp .Or [a] pos) tA:=by
 intro g pins s σ H Q I h;refine isTrue_or (thn (d pins s σ H Q I h) λc f e => ?_);cases c with
 | false=>exact isTrue_or_nil e
 | true=>exact e
theorem Iw (i:PT X a tA)(e:PW X (.BoolOp .And (b :: rest) pos) tB'):PW X (.BoolOp .And (a :: b :: rest) pos) (jF tA tB'):=by
 intro g pins s σ H Q I h;refine isTrue_and (thn (i pins s σ H _ I h) λc f ⟨H1,d,q1⟩ => ?_);cases c with
 | true=>exact e g pins f σ H1 Q d q1
 | false=>exact⟨H1,d,q1⟩
theorem Kr (i:PT X a tA)(e:PW X (.BoolOp .Or (b :: rest) pos) tB'):PW X (.BoolOp .Or (a :: b :: rest) pos) (tOr tA tB'):=by
 intro g pins s σ H Q I h;refine isTrue_or (thn (i pins s σ H _ I h) λc f ⟨H1,d,q1⟩ => ?_);cases c with
 | true=>exact⟨H1,d,q1⟩
 | false=>exact e g pins f σ H1 Q d q1
theorem Ix (d:PT X a tA):PT X (.UnaryOp .Not a pos) (cZ tA):=by
 intro pins s σ H Q I h;exact isTrue_not (d pins s σ H (λc H1=>Q (!c) H1) I h)
def Ks (ta tb:TE):TE:=λσ H Q=>ta σ H λx H1=>∃c,x=.bl c/\if c=true then tb σ H1 Q else Q (.bl false) H1
def LY (ta tb:TE):TE:=λσ H Q=>ta σ H λx H1=>∃c,x=.bl c/\if c=true then Q (.bl true) H1 else tb σ H1 Q
def Kt (ta:TE):TE:=λσ H Q=>ta σ H λx H1=>∃c,x=.bl c/\Q (.bl (!c)) H1
theorem Iy {op}{t:TE}(h:PE X a t):PE X (.BoolOp op [a] pos) t:=λpins s σ H Q I hw=>BoolOp_one (h pins s σ H Q I hw)
theorem Iz (i:PE X a ta)(e:PE X (.BoolOp .And (b :: rest) pos) tb):PE X (.BoolOp .And (a :: b :: rest) pos) (Ks ta tb):=by
 intro pins s σ H Q I h;refine BoolOp_and (thn (i pins s σ H _ I h) λv g ⟨x,H1,d,f,q1⟩ => ?_);obtain⟨c,rfl,q1⟩:=q1;cases f;refine YU ?_;cases c with
 | true=>exact e pins g σ H1 Q d q1
 | false=>exact⟨.bl false,H1,d,rfl,q1⟩
theorem Ku (i:PE X a ta)(e:PE X (.BoolOp .Or (b :: rest) pos) tb):PE X (.BoolOp .Or (a :: b :: rest) pos) (LY ta tb):=by
 intro pins s σ H Q I h;refine BoolOp_or (thn (i pins s σ H _ I h) λv g ⟨x,H1,d,f,q1⟩ => ?_);obtain⟨c,rfl,q1⟩:=q1;cases f;refine YU ?_;cases c with
 | false=>exact e pins g σ H1 Q d q1
 | true=>exact⟨.bl true,H1,d,rfl,q1⟩
theorem IA (f:PE X a ta):PE X (.UnaryOp .Not a pos) (Kt ta):=by
 intro pins s σ H Q I h;refine UnaryOp_ (thn (f pins s σ H _ I h) λv g ⟨x,H1,d,e,q1⟩ => ?_);obtain⟨c,rfl,q1⟩:=q1;cases e;exact not_of (YU ⟨.bl (!c),H1,d,rfl,q1⟩)
def tIf (t:TT) (ta tb:TE):TE:=λσ H Q=>t σ H λc H1=>if c=true then ta σ H1 Q else tb σ H1 Q
theorem DC {c:Expr}(hc:PT X c tA)(i:PE X a ta)(g:PE X b tb):PE X (.IfExp c a b pos) (tIf tA ta tb):=by
 intro pins s σ H Q I h;refine wpAny_IfExp (thn (hc pins s σ H _ I h) λd f ⟨H1,e,q1⟩ => ?_);cases d with
 | true=>exact i pins f σ H1 Q e q1
 | false=>exact g pins f σ H1 Q e q1
end
def SqL (K:ZX) (H:Hp) (a:Addr) (xs:List V):Prop :=
 Rd H a (.lst xs)\/
  ∃(o:Obj) (its:Array T0) (n:Nat),K.lookup a=some o/\o.cls=.type "list"/\o.dict=none/\o.data=.seq its n/\its.size<=sizeLine/\aY xs its.toList
def SqT (K:ZX) (H:Hp) (a:Addr) (xs:List V):Prop :=
 Rd H a (.tup xs)\/
  ∃(o:Obj) (its:Array T0) (n:Nat),K.lookup a=some o/\o.cls=.type "tuple"/\o.data=.seq its n/\its.size<=sizeLine/\aY xs its.toList
def L0:T0->Option V
 | .none=>some .non
 | .bool b=>some (.bl b)
 | .int i _=>some (.int i)
 | .str x _=>some (.str x)
 | .bytes b _=>some (.byt b)
 | .float b _=>some (.flt b)
 | .ref a=>some (.ref a)
 | .type n=>some (.ty n)
 | _=>none
theorem bJ.abs {x:V}(r:bJ x u):L0 u=some x:=by
 cases x with
 | non=>cases r;rfl
 | bl _=>cases r;rfl
 | int _=>obtain⟨t,rfl⟩:=r;rfl
 | str _=>obtain⟨t,rfl⟩:=r;rfl
 | byt _=>obtain⟨t,rfl⟩:=r;rfl
 | flt _=>obtain⟨t,rfl⟩:=r;rfl
 | ref _=>cases r;rfl
 | ty _=>cases r;rfl
theorem bJ.inj {x y:V}(r:bJ x u)(q:bJ y u):x=y:=ZT (r.abs.symm.trans q.abs)
theorem aY.inj:∀{xs ys:List V} {a:List T0},aY xs a->aY ys a->xs=ys
 | _,_,_,.nil,.nil=>rfl
 | _,_,_,.cons r t,.cons r' t'=>by rw[r.inj r',aY.inj t t']
section
variable {X:Cx} {pins:List (Addr × Obj)} {σ:St} {H:Hp} {s:T4} {a:Addr} {xs ys:List V}
theorem SqL.of {K:ZX}(h:H a=some (.lst xs)):SqL K H a xs:=.inl (.inl h)
theorem SqT.of {K:ZX}(h:H a=some (.tup xs)):SqT K H a xs:=.inl (.inl h)
theorem Inv.list (I:Inv X pins σ H s)(h:SqL X.K H a xs):∃b:List T0,aY xs b/\PlainL s.heap a b.toArray/\xs.length<=sizeLine:=by
 rcases h with h|⟨o,b,n,hk,hc,hd,hs,hz,r⟩
 ·obtain⟨z,b,n,r,e⟩:=h.ok I.hok
  exact⟨b,r,⟨_,n,e,rfl,rfl,rfl⟩,z⟩
 ·refine⟨b.toList,r,⟨o,n,I.kIn a o hk,hc,hd,by simpa using hs⟩,?_⟩
  have e:=r.length;simp only[XE]at e;omega
theorem Inv.tuple (I:Inv X pins σ H s)(h:SqT X.K H a xs):∃b:List T0,aY xs b/\IsTup s.heap a b.toArray/\xs.length<=sizeLine:=by
 rcases h with h|⟨o,b,n,hk,hc,hs,hz,r⟩
 ·obtain⟨z,b,r,p⟩:=h.ok I.hok
  exact⟨b,r,p,z⟩
 ·refine⟨b.toList,r,⟨o,I.kIn a o hk,hc,n,by simpa using hs⟩,?_⟩
  have e:=r.length;simp only[XE]at e;omega
theorem Inv.list_inj (I:Inv X pins σ H s)(h:SqL X.K H a xs)(h':SqL X.K H a ys):xs=ys:=by
 obtain⟨c,r,⟨o,n,e,_,_,d⟩,_⟩:=I.list h;obtain⟨b,i,⟨o',j,f,_,_,g⟩,_⟩:=I.list h';rw[e]at f;cases f;rw[d]at g;injection g with d1 _
 have:c=b:=by simpa using congrArg Array.toList d1
 subst this;exact r.inj i
theorem Inv.tuple_inj (I:Inv X pins σ H s)(h:SqT X.K H a xs)(h':SqT X.K H a ys):xs=ys:=by
 obtain⟨c,r,⟨o,e,_,n,d⟩,_⟩:=I.tuple h;obtain⟨b,i,⟨o',f,_,j,g⟩,_⟩:=I.tuple h';rw[e]at f;cases f;rw[d]at g;injection g with d1 _
 have:c=b:=by simpa using congrArg Array.toList d1
 subst this;exact r.inj i
end
abbrev Cx.wish (X:Cx) (E:T0->T4->Prop):Cx:={ X with xe:=E }
abbrev Cx.nox (X:Cx):Cx:=X.wish λ_ _=>False
theorem Cx.Ok.wish {X:Cx}(ok:X.Ok)(E:T0->T4->Prop):(X.wish E).Ok :=
 ⟨ok.mod,ok.kind,ok.glob,ok.blt,ok.above,ok.inj,ok.has,ok.cab,ok.hd,ok.frames,ok.stk,ok.exf,ok.bs,ok.bsz,ok.noex,ok.exfs,ok.funs,ok.frf⟩
theorem Cx.Ok.unwish {X:Cx}(ok:(X.wish E).Ok):X.Ok :=
 ⟨ok.mod,ok.kind,ok.glob,ok.blt,ok.above,ok.inj,ok.has,ok.cab,ok.hd,ok.frames,ok.stk,ok.exf,ok.bs,ok.bsz,ok.noex,ok.exfs,ok.funs,ok.frf⟩
section
variable {X:Cx} {pins:List (Addr × Obj)} {σ:St} {H:Hp} {s:T4} {E:T0->T4->Prop}
theorem Inv.wish (I:Inv X pins σ H s)(E:T0->T4->Prop):Inv (X.wish E) pins σ H s:=⟨I.ok.wish E,I.os,I.bare,I.base,I.loc,I.cell,I.free,I.freeC,I.pin,I.hok,I.len⟩
theorem Inv.unwish (I:Inv (X.wish E) pins σ H s):Inv X pins σ H s:=⟨I.ok.unwish,I.os,I.bare,I.base,I.loc,I.cell,I.free,I.freeC,I.pin,I.hok,I.len⟩
theorem SP.unwish {D:qJ}{f:Flow}{b:T4}(h:SP (X.wish E) pins D f b):SP X pins D f b:=by
 cases f with
 | next=>obtain⟨a,H',I,q⟩:=h;exact⟨a,H',I.unwish,q⟩
 | brk=>obtain⟨a,H',I,q⟩:=h;exact⟨a,H',I.unwish,q⟩
 | cont=>obtain⟨a,H',I,q⟩:=h;exact⟨a,H',I.unwish,q⟩
 | ret u=>obtain⟨v,a,H',I,r,q⟩:=h;exact⟨v,a,H',I.unwish,r,q⟩
theorem PSs.nox {st:List Stmt}{t:TS}(h:PSs X.nox st t):PSs X st t:=λpins s σ H D I hw =>
 XI (h pins s σ H D (I.wish _) hw) (λ_ _ q=>q.unwish) λ_ _ z=>False.elim z
end
section
variable {X:Cx} {st:Stmt} {rest:List Stmt} {t u:TS} {e:Expr} {te:TE} {pos:Pos}
def Kv:TS:=λD σ H=>D.nx σ H
def L3 (t u:TS):TS:=λD σ H=>t { D with nx:=u D } σ H
theorem F7:PSs X [] Kv:=λ_ _ σ H _ I h=>wpAny_execs_nil ⟨σ,H,I,h⟩
theorem DD (h1:PS X st t)(h2:PSs X rest u):PSs X (st :: rest) (L3 t u):=by
 intro pins s σ H D I h;refine wpAny_execs_cons (thn (h1 pins s σ H { D with nx:=u D } I h) λf b q => ?_);cases f with
 | next =>
  obtain⟨a,H',c,q⟩:=q;exact h2 pins b a H' D c q
 | ret v=>exact q
 | brk=>exact q
 | cont=>exact q
theorem F8 (h1:PS X st t):PSs X [st] t:=by
 intro pins s σ H D I h;refine wpAny_execs_cons (thn (h1 pins s σ H D I h) λf a q => ?_);cases f with
 | next=>exact wpAny_execs_nil q
 | ret v=>exact q
 | brk=>exact q
 | cont=>exact q
def Kw:TS:=λD σ H=>D.ct σ H
theorem xa:PS X (.Continue pos) Kw:=λ_ _ σ H _ I h=>wpAny_Continue ⟨σ,H,I,h⟩
theorem Inv.quiet (I:Inv X pins σ H s):interactive X.env=false:=by simp[interactive,I.ok.kind]
def Kx (te:TE):TS:=λD σ H=>te σ H λ_ H1=>D.nx σ H1
theorem F9 (he:PE X e te)(b:swapsWith e none pos.line X.env=pure false:=by rfl):PS X (.Expr e pos) (Kx te):=by
 intro pins s σ H D I h;exact wpAny_Expr_any (thn (he pins s σ H _ I h) λv d ⟨x,H1,a,c,q1⟩=>⟨σ,H1,a,q1⟩) I.quiet b
def L4 (te:TE):TS:=λD σ H=>te σ H D.rt
theorem IB (he:PE X e te):PS X (.Return (some e) pos) (L4 te):=by
 intro pins s σ H D I h;exact wpAny_Return_some (thn (he pins s σ H _ I h) λv c ⟨x,H1,a,b,q1⟩=>⟨x,σ,H1,a,b,q1⟩)
def L5 (c:TT) (t u:TS):TS:=λD σ H=>c σ H λb H1=>if b=true then t D σ H1 else u D σ H1
theorem Ky {c:Expr}{a b:List Stmt}{g:TT}(hc:PT X c g)(j:PSs X a t)(k:PSs X b u):PS X (.If c a b pos) (L5 g t u):=by
 intro pins s σ H D I h;refine wpAny_If (thn (hc pins s σ H _ I h) λd f ⟨H1,i,q1⟩ => ?_);cases d with
 | true=>exact j pins f σ H1 D i q1
 | false=>exact k pins f σ H1 D i q1
def IC:TS:=λ_ _ _=>False
theorem DE:PS X st IC:=λ_ _ _ _ _ _ h=>h.elim
end
abbrev TG:=V->St->Hp->(St->Hp->Prop)->Prop
abbrev TGs:=List V->St->Hp->(St->Hp->Prop)->Prop
def PG (X:Cx) (target:Expr) (t:TG):Prop :=
 ∀(pins:List (Addr × Obj)) (s:T4) (σ:St) (H:Hp) (v:V) (u:T0) (Q:St->Hp->Prop),Inv X pins σ H s->bJ v u->t v σ H Q->
  wpAny (model X.prog X.w) X.A (assign target X.env u) (λ_ s'=>∃σ' H',Inv X pins σ' H' s'/\Q σ' H') X.xe s
def PGs (X:Cx) (ts:List Expr) (t:TGs):Prop :=
 ∀(pins:List (Addr × Obj)) (s:T4) (σ:St) (H:Hp) (vs:List V) (us:List T0) (Q:St->Hp->Prop),Inv X pins σ H s->aY vs us->t vs σ H Q->
  wpAny (model X.prog X.w) X.A (assignInOrder ((assignEach ts X.env).map (·.2)) us) (λ_ s'=>∃σ' H',Inv X pins σ' H' s'/\Q σ' H') X.xe s
abbrev ID:=V->V->V->Hp->(Hp->Prop)->Prop
def IE (X:Cx) (t:ID):Prop :=
 ∀(pins:List (Addr × Obj)) (s:T4) (σ:St) (H:Hp) (o i v:V) (ov iv u:T0) (Q:Hp->Prop),Inv X pins σ H s->bJ o ov->bJ i iv->bJ v u->t o i v H Q->
  wpAny (model X.prog X.w) X.A (setItem ov iv u) (λ_ s'=>∃H',Inv X pins σ H' s'/\Q H') X.xe s
section
variable {X:Cx} {pos:Pos}
def HN (i:Nat):TG:=λv σ H Q=>Q (σ.set i (some v)) H
theorem Ga {i:Nat}(a:X.N.Nodup)(hi:X.N[i]? = some x)(d:Loc X.env.scope x)(b:X.fn x=true\/X.env.scope.names.lookup x=some .local:=by first|exact .inl rfl|exact .inr rfl|assumption):PG X (.Name x pos) (HN i):=by
 intro pins s σ H v u Q I r h;exact wpAny_assign_Name (w9 I a hi d r (λe c=>⟨_,H,c,h⟩) b)
def L6:TGs:=λvs σ H Q=>vs=[]/\Q σ H
def Kz (t:TG) (u:TGs):TGs:=λvs σ H Q=>∃v r,vs=v :: r/\t v σ H λσ' H'=>u r σ' H' Q
theorem Gb:PGs X [] L6:=by
 intro pins s σ H a b Q I r h;obtain⟨e,h⟩:=h;subst e;cases r;exact assignInOrder_nil ⟨σ,H,I,h⟩
theorem DF {e:Expr}{es:List Expr}{t:TG}{u:TGs}(h1:PG X e t)(h2:PGs X es u)
  (b:(assignEach (e :: es) X.env).map (·.2)=assign e X.env :: (assignEach es X.env).map (·.2):=by rfl):PGs X (e :: es) (Kz t u):=by
 intro pins s σ H j g Q I r h;obtain⟨v,i,d,h⟩:=h;subst d;cases r with
 | cons r rr =>
  rw[b];refine assignInOrder_cons (thn (h1 pins s σ H _ _ _ I r h) λ_ c ⟨a,H1,f,q1⟩ => ?_);exact h2 pins c a H1 _ _ Q f rr q1
def L7 (K:ZX) (n:Nat) (t:TGs):TG:=λv σ H Q=>∃a xs,v=.ref a/\SqT K H a xs/\xs.length=n/\t xs σ H Q
theorem IG {es:List Expr}{k:Nat}{t:TGs}{n:Nat}(hc:X.calm=true)(h:PGs X es t)
  (m:(assignEach es X.env).length=n:=by rfl) (c:(assignEach es X.env).findIdx? (·.1)=none:=by rfl):PG X (.Tuple es k pos) (L7 X.K n t):=by
 intro pins s σ H v u Q I r hw;obtain⟨a,xs,p,f,i,hw⟩:=hw;subst p;cases r;obtain⟨w,d,l,x⟩:=I.tuple f;refine assign_Tuple_tuple (I.ok.hd hc) l (by simp[m,<-i,d.length]) c λg j => ?_;have q:Inv X pins σ H { s with heap:=g }:=I.kept (t':=s.toks) λb o e=>j b o (ZN (ZI e)) e;exact h pins _ σ H xs _ Q q (by simpa using d) hw
def L8 (to ti:TE) (t:ID):TG:=λv σ H Q=>to σ H λo H1=>ti σ H1 λi H2=>t o i v H2 λH3=>Q σ H3
theorem zd {o i:Expr}{to ti:TE}{t:ID}(e:PE X o to)(hi:PE X i ti)(b:IE X t)
  (j:∀v,assign (.Subscript o i pos) X.env v=(do
   let ov <-holding [v] (eval o X.env)
   let a <-holding [v,ov] (eval i X.env)
   standAt pos
   holding [v,ov,a] (setItem ov a v)
   release [v,ov,a] []):=by intro _;rfl):PG X (.Subscript o i pos) (L8 to ti t):=by
 intro pins s σ H v u Q I r h;rw[j];refine z0 (YC (thn (e pins s σ H _ I h) λov d ⟨x,H1,m,f,q1⟩ => ?_));refine z0 (YC (thn (hi pins d σ H1 _ m q1) λa p ⟨y,n,g,k,q2⟩ => ?_));refine z0 (wpAny_standAt (z0 (YC (thn (b pins p σ n x y v ov a u _ g f k r q2) λ_ q ⟨l,c,q3⟩ => ?_))));exact wpAny_release ⟨σ,l,c,q3⟩
def KA (te:TE) (g:TG):TS:=λD σ H=>te σ H λx H1=>g x σ H1 D.nx
theorem vj {tg e:Expr}{te:TE}{g:TG}(he:PE X e te)(f:PG X tg g)(a:swapsWithSole [tg] e pos.line X.env=pure false:=by rfl)(hw:swappedStores [tg] e X.env=pure none:=by rfl)
  (h1:(assignEach [tg] X.env).map (·.2)=[assign tg X.env]:=by rfl):PS X (.Assign [tg] e pos) (KA te g):=by
 intro pins s σ H D I h;refine wpAny_Assign_stores (thn (he pins s σ H _ I h) λv b ⟨x,H1,d,c,q1⟩ => ?_) a hw;rw[h1];exact thn (f pins b σ H1 x v _ d c q1) λ_ i q=>q
theorem IH {i:Nat}{e:Expr}{te:TE}{a:Pos}(j:X.N.Nodup)(hi:X.N[i]? = some x)(g:Loc X.env.scope x)(he:PE X e te)(b:swapsWith e (some (.Name x a)) pos.line X.env=pure false:=by rfl)(c:X.fn x=true\/X.env.scope.names.lookup x=some .local:=by first|exact .inl rfl|exact .inr rfl|assumption) :
  PS X (.Assign [.Name x a] e pos) (KA te (HN i)):=by
 intro pins s σ H D I h;refine wpAny_Assign_Name (thn (he pins s σ H _ I h) λv l ⟨y,H1,k,d,q1⟩ => ?_) b;exact w9 k j hi g d (λm f=>⟨_,H1,f,q1⟩) c
end
section
variable {X:Cx} {pos:Pos}
def II (c:TT) (tb:TS):TS:=λD σ H=>∃W:Nat->St->Hp->Prop,(∃m,W m σ H)/\∀m σ H,W m σ H->
 c σ H λb H1=>if b=true then ∃N:St->Hp->Prop,(∀σ' H',N σ' H'->∃m',m' < m/\W m' σ' H')/\tb { D with nx:=N,ct:=N,bk:=D.nx } σ H1 else D.nx σ H1
theorem DG {c:Expr}{body:List Stmt}{q:TT}{tb:TS}(hp:PassesOwn (model X.prog X.w) X.A X.env X.xe)(hc:PT X c q)(A:PSs X body tb):PS X (.While c body [] pos) (II q tb):=by
 intro pins s σ H D I h;obtain⟨W,⟨x,u⟩,e⟩:=h;refine wpAny_While (codeAny_whileLoop (λn y=>∃g H',Inv X pins g H' y/\W n g H') ?_ x ⟨σ,H,I,u⟩);rintro n t ⟨d,H1,z,w⟩;refine XX hp (thn (hc pins t d H1 _ z (e n d H1 w)) λb B ⟨r,o,q2⟩ => ?_);cases b with
 | true =>
  obtain⟨N,p,q2⟩:=q2;rw[z4 rfl];refine XX hp (thn (A pins B d r _ o q2) λf C q3 => ?_);cases f with
  | next =>
   obtain⟨a,i,j,n3⟩:=q3;obtain⟨l,k,m⟩:=p a i n3;exact⟨l,k,a,i,j,m⟩
  | cont =>
   obtain⟨a,i,j,n3⟩:=q3;obtain⟨l,k,m⟩:=p a i n3;exact⟨l,k,a,i,j,m⟩
  | brk=>exact q3
  | ret v=>exact q3
 | false =>
  rw[z5 wI];exact wpAny_execs_nil ⟨d,r,o,q2⟩
end
structure It where
 go:Nat->Hp->Prop
 yld:Nat->Hp->V->Hp->Prop
 stop:Nat->Hp->Prop
def qK (X:Cx) (pins:List (Addr × Obj)) (H:Hp) (b:Addr):Prop :=
 H b=none/\b≠X.env.locals/\b∉X.fs/\(b∈X.ex\/X.s₀.heap.objs.size<=b)/\(∀x c,X.env.cells.lookup x=some c->c≠b)/\∀p∈X.pn++pins,p.1≠b
theorem Inv.fpOk {X:Cx}{H':Hp}(I:Inv X pins σ H s)(a:s.heap.objs.size<=b)(f:H' b=none):qK X pins H' b:=by
 refine⟨f,x6 (xC I.lt a),I.nofs a,.inr (ZM I.sz a),λx c e z => ?_,λp d z => ?_⟩
 ·obtain⟨v,q⟩:=I.cell x c e
  exact absurd (xC q.lt (by rw[z];exact a)) (wD _)
 ·exact absurd (xC (ZI (I.pin p d).1) (by rw[z];exact a)) (wD _)
structure xb (P:T6) (w:T7) (K:ZX) (tg:Expr) (J:It) (fp:List Addr) (it:Addr) (tn:Nat->Heap->Prop):Prop where
 mem:it∈fp
 obj:∀i h,tn i h->∀b∈fp,∃o,h.get? b=some o/\∀v,o.data ≠ .cell v
 keep:∀i h h',tn i h->(∀b∈fp,∀o,h.get? b=some o->h'.get? b=some o)->tn i h'
 item:∀(X:Cx),X.prog=P->X.w=w->X.K=K->X.calm=true->∀(i:Nat) (pins:List (Addr × Obj)) (s:T4) (σ:St) (H:Hp) (E:T0->T4->Prop),Inv X pins σ H s->(∀b∈fp,qK X pins H b)->tn i s.heap->J.go i H->
  wpAny (model P w) X.A (pyNext (.ref it)) (λr s1=>∃u,r=some u/\
   wpAny (model P w) X.A (letOwnedTupleGo tg (.ref it) u) (λ_ s2=>∃x H',Inv X pins σ H' s2/\bJ x u/\J.yld i H x H'/\tn (i + 1) s2.heap/\∀b∈fp,H' b=none) E s1) E s
 done:∀(X:Cx),X.prog=P->X.w=w->X.K=K->X.calm=true->∀(i:Nat) (pins:List (Addr × Obj)) (s:T4) (σ:St) (H:Hp) (E:T0->T4->Prop),Inv X pins σ H s->(∀b∈fp,qK X pins H b)->tn i s.heap->J.stop i H->
  wpAny (model P w) X.A (pyNext (.ref it)) (λr s1=>r=none/\Inv X pins σ H s1) E s
 self:∀(A:T5) (i:Nat) (s:T4) (Q:T0->T4->Prop) (E:T0->T4->Prop),tn i s.heap->Q (.ref it) s->wpAny (model P w) A (pyIter (.ref it)) Q E s
abbrev TI:=St->Hp->(It->Hp->Prop)->Prop
def PIE (X:Cx) (pins:List (Addr × Obj)) (σ:St) (tg:Expr) (R:It->Hp->Prop) (itv:T0) (s2:T4):Prop :=
 ∃(it:Addr) (fp:List Addr) (tn:Nat->Heap->Prop) (J:It) (H':Hp),itv=.ref it/\Inv X pins σ H' s2/\xb X.prog X.w X.K tg J fp it tn/\tn 0 s2.heap/\(∀b∈fp,qK X pins H' b)/\R J H'
def PI (X:Cx) (tg iter:Expr) (wi:TI):Prop :=
 ∀(pins:List (Addr × Obj)) (s:T4) (σ:St) (H:Hp) (R:It->Hp->Prop),Inv X pins σ H s->wi σ H R->
  wpAny (model X.prog X.w) X.A (eval iter X.env) (λv s1=>wpAny (model X.prog X.w) X.A (pyIter v) (PIE X pins σ tg R) X.xe s1) X.xe s
theorem DH {M:Model}{tg:Expr}{it:Addr}{o:Obj}{n:String}{vs:Array T0}{Q:Unit->T4->Prop}(b:s.heap.get? it=some o)(hc:o.cls=.type n)(hd:o.data=.fields vs)
  (c : ["enumerate", "zip", "dict_itemiterator", "dict_reverseitemiterator", "odict_iterator", "itertools.zip_longest", "itertools.pairwise"].contains n=false) (a:Q () s):wpAny M A (letOwnedTupleGo tg (.ref it) u) Q E s:=by
 unfold letOwnedTupleGo;cases tg<;>first
  | exact z3 a
  | (cases u<;>first
    | exact z3 a
    | (refine z0 (wpAny_load b ?_)
       rw[hc,hd];show wpAny M A (if (["enumerate", "zip", "dict_itemiterator", "dict_reverseitemiterator", "odict_iterator", "itertools.zip_longest", "itertools.pairwise"].contains n && vs[0]? == some (rawInt _))=true then _ else _) Q E s;rw[z5 (by intro h;rw[c,Bool.false_and]at h;cases h)];exact z3 a))
def Itl (K:ZX) (a:Addr):It :=
 ⟨λi H=>∃xs x,SqL K H a xs/\xs[i]? = some x,λi H x H'=>H'=H/\∀xs,SqL K H a xs->xs[i]? = some x,λi H=>∃xs,SqL K H a xs/\xs.length<=i⟩
def Itt (K:ZX) (a:Addr):It :=
 ⟨λi H=>∃xs x,SqT K H a xs/\xs[i]? = some x,λi H x H'=>H'=H/\∀xs,SqT K H a xs->xs[i]? = some x,λi H=>∃xs,SqT K H a xs/\xs.length<=i⟩
def Itr (lo:Int) (n:Nat):It:=⟨λi _=>i < n,λi H x H'=>H'=H/\x=.int (lo + i),λi _=>n<=i⟩
theorem B9 {P:T6}{w:T7}{K:ZX}{tg:Expr}(a it:Addr):xb P w K tg (Itl K a) [it] it (λi h=>h.IsListIter it a i) where
 mem:=by simp
 obj:=λi h st b f=>by
  have e:b=it:=by simpa using f
  subst e;obtain⟨o,e,c,d⟩:=st;exact⟨o,e,λv z=>by rw[d]at z;cases z⟩
 keep:=λi h m st k=>st.at λo e=>k it (by simp) o e
 item:=by
  intro X D hw C hc i pins s σ H E I l st G;subst D hw C;obtain⟨xs,x,j,t⟩:=G;obtain⟨F,y,p,M⟩:=I.list j;obtain⟨u,R,L⟩:=y.get t;obtain⟨q,B,O,A,r,n⟩:=l it (by simp);refine wpAny_pyNext_list_item st p.isList (x:=u) (by simpa using R) λm g S => ?_;have N:Inv X pins σ H { s with heap:=m }:=I.turned (t':=s.toks) (λb o f e=>(S.2 b f).trans e) q B A r n;obtain⟨o,e,c,d⟩:=id g;exact⟨u,rfl,DH (s:={ s with heap:=m }) e c d (by decide) ⟨x,H,N,L,⟨rfl,λys Q=>by rw[I.list_inj Q j];exact t⟩,g,λb f=>(l b f).1⟩⟩
 done:=by
  intro X D hw C hc i pins s σ H E I l st G;subst D hw C;obtain⟨xs,j,t⟩:=G;obtain⟨F,y,p,M⟩:=I.list j;obtain⟨q,B,O,A,r,n⟩:=l it (by simp);have T:=y.length;exact wpAny_pyNext_list_end (I.ok.hd hc) st p.isList (by simp;omega) λm J=>⟨rfl,I.turned (t':=s.toks) (λb o f e=>J b o f e) q B A r n⟩
 self:=λ_ _ _ _ _ st h=>wpAny_pyIter_listiter st h
theorem ze {P:T6}{w:T7}{K:ZX}{tg:Expr}(a it:Addr):xb P w K tg (Itt K a) [it] it (λi h=>h.IsTupleIter it a i) where
 mem:=by simp
 obj:=λi h st b f=>by
  have e:b=it:=by simpa using f
  subst e;obtain⟨o,e,c,d⟩:=st;exact⟨o,e,λv z=>by rw[d]at z;cases z⟩
 keep:=λi h n st k=>st.at λo e=>k it (by simp) o e
 item:=by
  intro X F hw D hc i pins s σ H E I m st G;subst F hw D;obtain⟨xs,x,l,y⟩:=G;obtain⟨g,A,p,M⟩:=I.tuple l;obtain⟨u,R,L⟩:=A.get y;obtain⟨r,C,O,B,t,q⟩:=m it (by simp);refine wpAny_pyNext_tuple_item st (show s.heap.IsTuple a g.toArray from p) (x:=u) (by simpa using R) λn j S => ?_;have N:Inv X pins σ H { s with heap:=n }:=I.turned (t':=s.toks) (λb o f e=>(S.2 b f).trans e) r C B t q;obtain⟨o,e,c,d⟩:=id j;exact⟨u,rfl,DH (s:={ s with heap:=n }) e c d (by decide) ⟨x,H,N,L,⟨rfl,λys Q=>by rw[I.tuple_inj Q l];exact y⟩,j,λb f=>(m b f).1⟩⟩
 done:=by
  intro X F hw D hc i pins s σ H E I m st G;subst F hw D;obtain⟨xs,l,y⟩:=G;obtain⟨g,A,p,M⟩:=I.tuple l;obtain⟨r,C,O,B,t,q⟩:=m it (by simp);have T:=A.length;exact wpAny_pyNext_tuple_end (I.ok.hd hc) st (show s.heap.IsTuple a g.toArray from p) (by simp;omega) λn J=>⟨rfl,I.turned (t':=s.toks) (λb o f e=>J b o f e) r C B t q⟩
 self:=λ_ _ _ _ _ st h=>wpAny_pyIter_tupleiter st h
theorem zf {P:T6}{w:T7}{K:ZX}{tg:Expr}(it:Addr)(lo:Int)(n:Nat):xb P w K tg (Itr lo n) [it] it (λi h=>IsRangeIter h it (lo + (i:Nat) * 1) ((n:Int) - (i:Nat)) 1) where
 mem:=by simp
 obj:=λi h st b a=>by
  have e:b=it:=by simpa using a
  subst e;exact⟨_,st,λv z=>by
   have A:Data.fields _=Data.cell v:=z;cases A⟩
 keep:=λi h f st k=>k it (by simp) _ st
 item:=by
  intro X r hw q hc i pins s σ H E I d st u;subst r hw q;obtain⟨j,p,D,m,l,g⟩:=d it (by simp);have W:=Walks.range (prog:=X.prog) (w:=X.w) (I.ok.hd hc) it lo 1 n;refine W.item i s _ _ u st λv f tk B c x => ?_;obtain⟨t,rfl⟩:=B;have C:Inv X pins σ H { s with heap:=f,toks:=tk }:=I.turned (λb o a e=>x b o (by simpa using a) e) j p m l g;refine⟨_,rfl,DH (s:={ s with heap:=f,toks:=tk }) (n := "range_iterator") c rfl rfl (by decide) ⟨.int (lo + i),H,C,⟨t,?_⟩,⟨rfl,rfl⟩,c,λb a=>(d b a).1⟩⟩;rw[Int.mul_one]
 done:=by
  intro X r hw q hc i pins s σ H E I d st u;subst r hw q;obtain⟨j,p,D,m,l,g⟩:=d it (by simp);exact wpAny_pyNext_range_end (I.ok.hd hc) st (by have:n<=i:=u;omega) λf y=>⟨rfl,I.turned (t':=s.toks) (λb o a e=>y b o a e) j p m l g⟩
 self:=λ_ _ _ _ _ st h=>wpAny_pyIter_rangeiter st h
section
variable {X:Cx} {tg:Expr}
theorem DI {R:It->Hp->Prop}{lo hi:Int}{t u v:Tok}{tk:Nat}(I:Inv X pins σ H s)(h1 : -(2 ^ 62)<=lo)(h2:lo < 2 ^ 62)(f : -(2 ^ 62)<=hi)(c:hi < 2 ^ 62)
  (q:R (Itr lo (hi - lo).toNat) H):wpAny (model X.prog X.w) X.A (pyIter (.ref s.heap.objs.size)) (PIE X pins σ tg R) E { s with heap:=s.heap.push { cls:=.type "range",data:=.fields #[.int lo t,.int hi u,.int 1 v] },toks:=tk }:=by
 refine wpAny_pyIter_range (IsRange.new ..) (small_one h1 h2 f c) ?_;have a:Inv X pins σ H { s with heap:=s.heap.push { cls:=.type "range",data:=.fields #[.int lo t,.int hi u,.int 1 v] },toks:=tk }:=I.kept λb o e=>ZH _ e;refine⟨(s.heap.push { cls:=.type "range",data:=.fields #[.int lo t,.int hi u,.int 1 v] }).objs.size,[(s.heap.push { cls:=.type "range",data:=.fields #[.int lo t,.int hi u,.int 1 v] }).objs.size],_,_,H,rfl,
  a.kept (t':=tk) λb o e=>ZH _ e,zf _ lo (hi - lo).toNat,?_,λb h => ?_,q⟩
 ·have g:lo + ((0:Nat):Int) * 1=lo:=by simp
  have d:(((hi - lo).toNat:Nat):Int) - ((0:Nat):Int)=Builtin.Range.rangeSize lo hi 1:=by rw[rangeSize_one];split<;>omega
  show IsRangeIter _ _ (lo + ((0:Nat):Int) * 1) ((((hi - lo).toNat:Nat):Int) - ((0:Nat):Int)) 1;rw[g,d];exact ZJ _ rfl
 ·have e:b=(s.heap.push { cls:=.type "range",data:=.fields #[.int lo t,.int hi u,.int 1 v] }).objs.size:=by simpa using h
  subst e;exact a.fpOk (ZL _) (a.hok.fresh (ZL _))
def KC (ta:TA):TI:=λσ H R=>ta σ H λvs H1=>∃j:Int,vs=[.int j]/\-(2 ^ 62)<=j/\j < 2 ^ 62/\R (Itr 0 j.toNat) H1
theorem Ca {a:Expr} {ta:TA} {p pos:Pos} (g:Gl X "range") (hm:X.mg "range" = none) (d:PA X [a] ta) (b:starEach [a] X.env=[(false,eval a X.env)]:=by rfl):PI X tg (.Call (.Name "range" p) [a] [] pos) (KC ta):=by
 intro pins s σ H R I h;refine Call_ (jY I g hm boot_range (YS (thn (d pos pins s σ H _ I h) λi k ⟨l,H1,f,c,q1⟩ => ?_) b rfl));obtain⟨j,e,q1,q2,q⟩:=q1;subst e;cases c with
 | cons r rr =>
  cases rr;obtain⟨t,rfl⟩:=r;exact call_range_1 (DI f (by omega) (by omega) q1 q2 (by simpa using q))
def L9 (wi:TI) (g:TG) (tb:TS):TS:=λD σ H=>wi σ H λJ H1=>∃W:Nat->Nat->St->Hp->Prop,(∃m,W 0 m σ H1)/\∀i m σ H,W i m σ H->
 (J.stop i H/\D.nx σ H)\/(J.go i H/\∃N:St->Hp->Prop,(∀σ' H',N σ' H'->∃m',m' < m/\W (i + 1) m' σ' H')/\∀x H',J.yld i H x H'->g x σ H' λσ2 H2=>tb { D with nx:=N,ct:=N,bk:=D.nx } σ2 H2)
def qL (fp:List Addr) (h:Heap):List (Addr × Obj):=fp.filterMap λb=>(h.get? b).map λo=>(b,o)
theorem jZ {fp:List Addr}{o:Obj}(a:b∈fp)(e:h.get? b=some o):(b,o)∈qL fp h:=List.mem_filterMap.mpr ⟨b,a,by rw[e];rfl⟩
theorem Cb {fp:List Addr}{p:Addr × Obj}(hp:p∈qL fp h):p.1∈fp/\h.get? p.1=some p.2:=by
 obtain⟨b,a,e⟩:=List.mem_filterMap.mp hp;cases q:h.get? b with
 | none=>rw[q]at e;cases e
 | some o =>
  rw[q]at e;have c:(b,o)=p:=ZT e;subst c;exact⟨a,q⟩
theorem Inv.pinned {fp:List Addr}(I:Inv X pins σ H s)(f:∀b∈fp,qK X pins H b)(g:∀b∈fp,∃o,s.heap.get? b=some o/\∀v,o.data ≠ .cell v):Inv X (pins++qL fp s.heap) σ H s :=
 I.pins_of λp j=>(W0.mp j).elim (λz=>I.pin p (Z7 _ z)) λz=>by
  obtain⟨c,e⟩:=Cb z;obtain⟨h,i,k,_⟩:=f p.1 c;obtain⟨o,a,d⟩:=g p.1 c;rw[e]at a;cases a;exact⟨e,h,i,k,d⟩
theorem Inv.unpinned {pl:List (Addr × Obj)}(I:Inv X (pins++pl) σ H s):Inv X pins σ H s:=I.pins_of λp a=>I.pin p (Z7 _ (List.mem_append_left _ a))
theorem DJ {j:Expr}{body:List Stmt}{V:TI}{g:TG}{tb:TS}{pos:Pos}(hp:PassesOwn (model X.prog X.w) X.A X.env X.xe)(hc:X.calm=true)(hi:PI X tg j V)(hg:PG X tg g)(k:PSs X body tb)
  (hs:∀x,foldedSetIterable j X.env x=pure x:=by intro _;rfl):PS X (.For tg j body [] pos) (L9 V g tb):=by
 intro pins s σ H D I h;refine wpAny_For (thn (hi pins s σ H _ I h) λv s1 h1=>thn h1 λa0 s2 h2 => ?_) hs;obtain⟨it,fp,S,J,H2,e,I2,T,K,f2,W,⟨m0,w0⟩,A⟩:=h2;subst e;have c:∀{H':Hp},(∀b∈fp,H' b=none)->∀b∈fp,qK X pins H' b:=λhn b k=>⟨hn b k,(f2 b k).2⟩;refine codeAny_forLoop_any (λn R=>∃i l H',Inv X pins l H' R/\S i R.heap/\(∀b∈fp,H' b=none)/\W i n l H') ?_ m0 ⟨0,σ,H2,I2,K,λb k=>(f2 b k).1,w0⟩;rintro n Q ⟨i,w,F,Z,C,E,w3⟩;rcases A i n w F w3 with ⟨stop,qn⟩|⟨go,N,hN,step⟩
 ·refine XX hp (thn (T.done X rfl rfl rfl hc i pins Q w F X.xe Z (c E) C stop) λr s4 ⟨O,I4⟩ => ?_)
  subst O;exact wpAny_execs_nil ⟨w,F,I4,qn⟩
 ·refine XX hp (thn (T.item X rfl rfl rfl hc i pins Q w F X.xe Z (c E) C go) λr s4 ⟨u,O,h4⟩ => ?_)
  subst O;refine XX hp (thn h4 λ_ U ⟨x,Y,I5,r5,y5,z,M⟩ => ?_);have P:=I5.pinned (c M) (T.obj _ _ z);refine XX hp (thn (hg _ U w Y x u _ P r5 (step x Y y5)) λ_ s6 ⟨L,H6,I6,q6⟩ => ?_);refine XX hp (thn (k _ s6 L H6 _ I6 q6) λf G y => ?_);have q:∀{a:St} {t:Hp},Inv X (pins++qL fp U.heap) a t G->N a t->∃m,m < n/\∃i l H',Inv X pins l H' G/\S i G.heap/\(∀b∈fp,H' b=none)/\W i m l H':=λ{a t} p B=>by
   obtain⟨m',hm,w7⟩:=hN a t B;refine⟨m',hm,i + 1,a,t,p.unpinned,T.keep _ _ _ z λb k o e=>(p.pin (b,o) (Z7 _ (Z7 _ (jZ k e)))).1,λb k => ?_,w7⟩;obtain⟨o,e,d⟩:=T.obj _ _ z b k;exact(p.pin (b,o) (Z7 _ (Z7 _ (jZ k e)))).2.1
  cases f with
  | next=>obtain⟨a,t,p,B⟩:=y;exact q p B
  | cont=>obtain⟨a,t,p,B⟩:=y;exact q p B
  | brk=>obtain⟨a,t,p,y⟩:=y;exact⟨a,t,p.unpinned,y⟩
  | ret v=>obtain⟨x7,a,t,p,r7,y⟩:=y;exact⟨x7,a,t,p.unpinned,r7,y⟩
end
abbrev R2:=V->V->Hp->VK->Prop
def OpR (X:Cx) (f:T0->T0->Sem T0) (r:R2):Prop :=
 ∀(pins:List (Addr × Obj)) (s:T4) (σ:St) (H:Hp) (x y:V) (v u:T0) (Q:VK),Inv X pins σ H s->bJ x v->bJ y u->r x y H Q->
  wpAny (model X.prog X.w) X.A (f v u) (EP X pins σ Q) X.xe s
def UnR (X:Cx) (f:T0->Sem T0) (r:V->Hp->VK->Prop):Prop :=
 ∀(pins:List (Addr × Obj)) (s:T4) (σ:St) (H:Hp) (x:V) (v:T0) (Q:VK),Inv X pins σ H s->bJ x v->r x H Q->
  wpAny (model X.prog X.w) X.A (f v) (EP X pins σ Q) X.xe s
def fO (X:Cx) (f:T0) (r:List V->Hp->VK->Prop):Prop :=
 ∀(pins:List (Addr × Obj)) (s:T4) (σ:St) (H:Hp) (xs:List V) (us:List T0) (Q:VK),Inv X pins σ H s->aY xs us->r xs H Q->
  wpAny (model X.prog X.w) X.A (call f us) (EP X pins σ Q) X.xe s
def tOp (r:R2) (ta tb:TE):TE:=λσ H Q=>ta σ H λx H1=>tb σ H1 λy H2=>r x y H2 Q
def tUn (r:V->Hp->VK->Prop) (ta:TE):TE:=λσ H Q=>ta σ H λx H1=>r x H1 Q
def rI (C:Int->Int->Prop) (g:Int->Int->V):R2:=λx y H Q=>∃i j,x=.int i/\y=.int j/\C i j/\Q (g i j) H
def rI0 (g:Int->Int->V):R2:=λx y H Q=>∃i j,x=.int i/\y=.int j/\Q (g i j) H
def rU (g:Int->V):V->Hp->VK->Prop:=λx H Q=>∃i,x=.int i/\Q (g i) H
section
variable {X:Cx} {a b c:Expr} {ta tb tc:TE} {pos:Pos}
theorem IJ (n:PE X a ta)(q:PE X b tb){R:V->V->Hp->Prop}(I:Inv X pins σ H s)
  (h:ta σ H λx H1=>tb σ H1 λy d=>R x y d) {Q:T0->T4->Prop} {f:T0->T0->Sem T0}
  (k:∀v u i x y d,Inv X pins σ d i->bJ x v->bJ y u->R x y d->wpAny (model X.prog X.w) X.A (f v u) Q X.xe i) :
  wpAny (model X.prog X.w) X.A (eval a X.env) (λv g => wpAny (model X.prog X.w) X.A (eval b X.env) (λu e => wpAny (model X.prog X.w) X.A (f v u) Q X.xe e) X.xe g) X.xe s:=by
 refine thn (n pins s σ H _ I h) λv j ⟨x,H1,p,l,q1⟩ => ?_;refine thn (q pins j σ H1 _ p q1) λu i ⟨y,d,m,o,q2⟩ => ?_;exact k v u i x y d m l o q2
theorem DK {op:Operator}{r:R2}(e:OpR X (binaryOp op) r)(g:PE X a ta)(j:PE X b tb):PE X (.BinOp a op b pos) (tOp r ta tb):=by
 intro pins s σ H Q I h;exact wpAny_BinOp (IJ g j I h λv u l x y k f i d q=>e pins l σ k x y v u Q f i d q)
theorem KD {op:UnaryOp}{r:V->Hp->VK->Prop}(e:UnR X (unaryOp op) r)(i:PE X a ta):PE X (.UnaryOp op a pos) (tUn r ta):=by
 intro pins s σ H Q I h;exact UnaryOp_ (thn (i pins s σ H _ I h) λv g ⟨x,H1,d,f,q1⟩=>e pins g σ H1 x v Q d f q1)
theorem opI {f:T0->T0->Sem T0}{C:Int->Int->Prop}{g:Int->Int->Int}
  (d:∀(i j:Int) (t u:Tok) (s:T4) (Q:T0->T4->Prop) (E:T0->T4->Prop),C i j->Q (.int (g i j) s.toks) { s with toks:=s.toks + 1 }->wpAny (model X.prog X.w) X.A (f (.int i t) (.int j u)) Q E s) :
  OpR X f (rI C λi j=>.int (g i j)):=by
 intro pins s σ H x y v u Q I l k h;obtain⟨i,j,rfl,rfl,hc,q⟩:=h;obtain⟨t,rfl⟩:=l;obtain⟨e,rfl⟩:=k;exact d i j t e s _ _ hc ⟨.int (g i j),H,I.tok _,⟨_,rfl⟩,q⟩
theorem KF {f:T0->T0->Sem T0}{g:Int->Int->Int}
  (d:∀(i j:Int) (t u:Tok) (s:T4) (Q:T0->T4->Prop) (E:T0->T4->Prop),Q (.int (g i j) s.toks) { s with toks:=s.toks + 1 }->wpAny (model X.prog X.w) X.A (f (.int i t) (.int j u)) Q E s) :
  OpR X f (rI0 λi j=>.int (g i j)):=by
 intro pins s σ H x y v u Q I l k h;obtain⟨i,j,rfl,rfl,q⟩:=h;obtain⟨t,rfl⟩:=l;obtain⟨e,rfl⟩:=k;exact d i j t e s _ _ ⟨.int (g i j),H,I.tok _,⟨_,rfl⟩,q⟩
theorem IK {f:T0->T0->Sem T0}{g:Int->Int->Bool}
  (d:∀(i j:Int) (t u:Tok) (s:T4) (Q:T0->T4->Prop) (E:T0->T4->Prop),Q (.bool (g i j)) s->wpAny (model X.prog X.w) X.A (f (.int i t) (.int j u)) Q E s) :
  OpR X f (rI0 λi j=>.bl (g i j)):=by
 intro pins s σ H x y v u Q I l k h;obtain⟨i,j,rfl,rfl,q⟩:=h;obtain⟨t,rfl⟩:=l;obtain⟨e,rfl⟩:=k;exact d i j t e s _ _ ⟨.bl (g i j),H,I,rfl,q⟩
def Gc (i j:Int):Prop:=(-(2 ^ 64) < i/\i < 2 ^ 64)\/(-(2 ^ 64) < j/\j < 2 ^ 64)
theorem Gc.ok {i j:Int}(h:Gc i j):IntMulOk i j:=by
 rcases h with ⟨h1,h2⟩|⟨h1,h2⟩
 ·exact .of_left (intBits_le_64 h1 h2)
 ·exact .of_right (intBits_le_64 h1 h2)
theorem IL:OpR X (binaryOp .Add) (rI0 λi j=>.int (i + j)):=KF λ_ _ _ _ _ _ _ q=>add_int q
theorem eY:OpR X (binaryOp .Sub) (rI0 λi j=>.int (i - j)):=KF λ_ _ _ _ _ _ _ q=>sub_int q
theorem fU:OpR X (binaryOp .Mult) (rI Gc λi j=>.int (i * j)):=opI λ_ _ _ _ _ _ _ hc q=>mul_int q hc.ok
theorem eZ:OpR X (binaryOp .Mod) (rI (λ_ j=>0 < j) λi j=>.int (i % j)):=opI λi j _ _ _ _ _ hc q=>by
 have h1:(0:Int) < j:=hc;exact mod_int' (by omega) (by rw[Int.fmod_eq_emod_of_nonneg i (by omega)];exact q)
theorem unI {f:T0->Sem T0}{g:Int->Int}
  (d:∀(i:Int) (t:Tok) (s:T4) (Q:T0->T4->Prop) (E:T0->T4->Prop),Q (.int (g i) s.toks) { s with toks:=s.toks + 1 }->wpAny (model X.prog X.w) X.A (f (.int i t)) Q E s) :
  UnR X f (rU λi=>.int (g i)):=by
 intro pins s σ H x v Q I e h;obtain⟨i,rfl,q⟩:=h;obtain⟨t,rfl⟩:=e;exact d i t s _ _ ⟨.int (g i),H,I.tok _,⟨_,rfl⟩,q⟩
theorem IM:UnR X (unaryOp .USub) (rU λi=>.int (-i)):=unI λ_ _ _ _ _ q=>neg_int q
end
section
variable {X:Cx} {a b c:Expr} {ta tb tc:TE} {pos:Pos}
theorem zg {Q:VK}{k d:Bool}(I:Inv X pins σ H s)(q:Q (.bl k) H)(e:k=d):EP X pins σ Q (.bool d) s:=by
 subst e;exact⟨.bl k,H,I,rfl,q⟩
theorem DL:OpR X (compareOp .Lt) (rI0 λi j=>.bl (decide (i < j))):=IK λ_ _ _ _ _ _ _ q=>lt_int q
theorem HP:OpR X (compareOp .LtE) (rI0 λi j=>.bl (decide (i<=j))):=IK λ_ _ _ _ _ _ _ q=>le_int q
theorem A4:OpR X (compareOp .Gt) (rI0 λi j=>.bl (decide (j < i))):=IK λ_ _ _ _ _ _ _ q=>gt_int q
theorem lh:OpR X (compareOp .Is) (λx y H Q=>y=.non/\Q (.bl (decide (x=.non))) H):=by
 intro pins s σ H x y v u Q I d e h;obtain⟨rfl,q⟩:=h;cases e;refine is_none_gen (zg I q ?_);cases x<;>first
  | (cases d;rfl)
  | (obtain⟨t,rfl⟩:=d;rfl)
theorem qy:OpR X (compareOp .IsNot) (λx y H Q=>y=.non/\Q (.bl (!decide (x=.non))) H):=by
 intro pins s σ H x y v u Q I d e h;obtain⟨rfl,q⟩:=h;cases e;refine isnot_none_gen (zg I q ?_);cases x<;>first
  | (cases d;rfl)
  | (obtain⟨t,rfl⟩:=d;rfl)
theorem OpR.or {f:T0->T0->Sem T0}{r d:R2}(h:OpR X f r)(h':OpR X f d):OpR X f (λx y H Q=>r x y H Q\/d x y H Q):=by
 intro pins s σ H x y v u Q I e g q;rcases q with q|q
 ·exact h pins s σ H x y v u Q I e g q
 ·exact h' pins s σ H x y v u Q I e g q
theorem aT (b:Expr){op:CmpOp}(h:op ≠ .In:=by decide)(h2:op ≠ .NotIn:=by decide):behindInMarks op b=false:=by
 have e:(op == CmpOp.In)=false:=by cases op<;>first|rfl|exact absurd rfl h
 have d:(op == CmpOp.NotIn)=false:=by cases op<;>first|rfl|exact absurd rfl h2
 cases b<;>simp[behindInMarks,e,d]
theorem Ge {op:CmpOp}{r:R2}(e:OpR X (compareOp op) r)(g:PE X a ta)(j:PE X b tb)(hm:behindInMarks op b=false):PE X (.Compare a [op] [b] pos) (tOp r ta tb):=by
 intro pins s σ H Q I h;exact wpAny_Compare1 (IJ g j I h λv u l x y k f i d q=>e pins l σ k x y v u Q f i d q) hm
def KG (t:TE):TT:=λσ H Q=>t σ H λx H'=>∃k,x=.bl k/\Q k H'
theorem Gf {op:CmpOp}{r:R2}(g:OpR X (compareOp op) r)(m:PE X a ta)(q:PE X b tb)(hm:behindInMarks op b=false):PT X (.Compare a [op] [b] pos) (KG (tOp r ta tb)):=by
 intro pins s σ H Q I h;refine wpAny_isTrue_Compare1 (thn (m pins s σ H _ I h) λv f ⟨x,H1,p,i,q1⟩=>thn (q pins f σ H1 _ p q1) λu w ⟨y,t,l,n,q2⟩ =>
  thn (g pins w σ t x y v u _ l i n q2) λc A ⟨z,o,d,j,k,e,q3⟩ => ?_) hm
 subst e;cases j;exact YU ⟨o,d,q3⟩
def DM (r r':R2) (ta tb tc:TE):TE:=λσ H Q=>ta σ H λx H1=>tb σ H1 λy H2=>r x y H2 λz H3=>∃k,z=.bl k/\
 (if k=true then tc σ H3 λw' H4=>r' y w' H4 Q else Q (.bl false) H3)
theorem DN {op f:CmpOp}{r m:R2}(w:OpR X (compareOp op) r)(g:OpR X (compareOp f) m)(D:PE X a ta)(J:PE X b tb)(hc:PE X c tc)
  (hm:lastMarks [op,f] [b,c] = false:=by with_unfolding_all rfl):PE X (.Compare a [op,f] [b,c] pos) (DM r m ta tb tc):=by
 intro pins s σ H Q I h;refine Compare_chain (thn (D pins s σ H _ I h) λv p ⟨x,H1,G,A,q1⟩=>chain_link (thn (J pins p σ H1 _ G q1) λu M ⟨y,K,C,j,q2⟩ =>
  thn (w pins M σ K x y v u _ C A j q2) λd o ⟨z,l,i,B,k,e,q3⟩ => ?_)) hm
 subst e;cases B;refine YU ?_;cases k with
 | false=>exact ite_ff ⟨.bl false,l,i,rfl,q3⟩
 | true=>exact ite_tt (chain_last (thn (hc pins o σ l _ i q3) λq E ⟨N,F,L,t,n⟩=>g pins E σ F y N u q Q L j t n))
theorem oK:(sizeLine:Nat) < 2 ^ 63:=by rw[wH];decide
theorem xc {x:V}{d:List T0}(r:aY [x] d):∃u,d=[u]/\bJ x u:=by
 cases r with
 | cons r1 r2=>cases r2;exact⟨_,rfl,r1⟩
theorem KH {x y:V}{d:List T0}(r:aY [x,y] d):∃u e,d=[u,e]/\bJ x u/\bJ y e:=by
 cases r with
 | cons r1 r2 =>
  cases r2 with
  | cons r3 r4=>cases r4;exact⟨_,_,rfl,r1,r3⟩
theorem Cc (hc:X.calm=true):fO X (.builtin "max") (λxs H Q=>∃i j,xs=[.int i,.int j]/\Q (.int (if j > i then j else i)) H):=by
 intro pins s σ H xs d Q I r h;obtain⟨i,j,rfl,q⟩:=h;obtain⟨u,e,rfl,⟨t,rfl⟩,⟨f,rfl⟩⟩:=KH r;refine max_two_ints (I.ok.hd hc) λg tk k=>⟨_,H,I.kept k,?_,q⟩
 by_cases hj:j > i
 ·rw[z4 hj,z4 hj];exact⟨_,rfl⟩
 ·rw[z5 hj,z5 hj];exact⟨_,rfl⟩
theorem Cd:fO X (.type "int") (λxs H Q=>(∃i,xs=[.int i]/\Q (.int i) H)\/∃k,xs=[.bl k]/\Q (.int (if k then 1 else 0)) H):=by
 intro pins s σ H xs e Q I r h;rcases h with ⟨i,rfl,q⟩|⟨k,rfl,q⟩
 ·obtain⟨u,rfl,t,rfl⟩:=xc r
  exact call_int_int ⟨.int i,H,I,⟨_,rfl⟩,q⟩
 ·obtain⟨u,rfl,d⟩:=xc r
  cases d;exact call_int_bool ⟨.int (if k then 1 else 0),H,I.tok _,⟨_,rfl⟩,q⟩
end
structure MH (h:Heap) (x dx C:Addr) (mA:Str->Option T0):Prop where
 obj:h.get? x=some (PySem.W.instObj C dx)
 ns:h.Ns1 dx mA
 ne:dx≠x
section
variable {prog:T6} {w:T7} {A:T5} {E:T0->T4->Prop} {s:T4} {K:ZX} {x dx C f:Addr} {mA:Str->Option T0} {name:Str} {v:T0}
end
theorem tm.some_of {v:V}{o:Option T0}(r:tm (some v) o):∃u,o=some u/\bJ v u:=by
 cases o with
 | none=>exact(show False from r).elim
 | some u=>exact⟨u,rfl,r⟩
section
variable {P:T6} {w:T7} {H H':Hp} {h h':Heap} {a C dx:Addr} {fs fs':List (Str × V)}
end
structure Cls (K:ZX) (C:Addr):Prop where
 pg:PySem.W.plainGet K C Str.empty=true
 hd:PySem.W.hasDictIn K C=true
 po:PySem.W.plainOver K C=true
 sa:PySem.W.findIn K (.ref C) "__setattr__" = some (some (.builtin "object.__setattr__"))
structure Con (K:ZX) (C:Addr) (f:Str) (v:V) (u:T0):Prop where
 at_:PySem.W.findIn K (.ref C) f=some (some u)
 rel:bJ v u
 get:PySem.W.specialIn K u "__get__" = some none
 cp:PySem.W.copiedNames.contains f=false
structure MJ (K:ZX) (C:Addr) (m:Str) (f:Addr):Prop where
 at_:PySem.W.findIn K (.ref C) m=some (some (.ref f))
 fn:PySem.W.isFn K (.ref f)=true
 kp:PySem.W.keepIn K (.ref f)=true
section
variable {X:Cx} {pins:List (Addr × Obj)} {σ:St} {H:Hp} {s:T4} {a C dx:Addr} {fs:List (Str × V)} {f:Str} {v:V} {A:T5} {E:T0->T4->Prop}
end
section
variable {X:Cx} {o e value:Expr} {f:Str} {pos pos' tpos:Pos} {ta tv:TE}
end
section
variable {X:Cx} {pins:List (Addr × Obj)} {σ:St} {H:Hp} {s:T4} {A:T5} {E:T0->T4->Prop} {Q:T0->T4->Prop} {c:T0} {b:Bool}
inductive qM (K:ZX) (H:Hp):V->T0->Prop where
 | non:qM K H .non (.type "NoneType")
 | bl (x:Bool):qM K H (.bl x) (.type "bool")
 | int (i:Int):qM K H (.int i) (.type "int")
 | str (x:Str):qM K H (.str x) (.type "str")
 | flt (x:UInt64):qM K H (.flt x) (.type "float")
 | lst {a:Addr} {xs:List V} (e:H a=some (.lst xs)):qM K H (.ref a) (.type "list")
 | frz {a:Addr} {o:Obj} {xs:List V} (e:H a=some (.frz o (.lst xs))):qM K H (.ref a) (.type "list")
 | tup {a:Addr} {xs:List V} (e:H a=some (.tup xs)):qM K H (.ref a) (.type "tuple")
 | dK {a:Addr} {kvs:List (Key × V)} (e:H a=some (.dK kvs)):qM K H (.ref a) (.type "dict")
 | dT {a:Addr} {kvs:List (List Key × V)} (e:H a=some (.dT kvs)):qM K H (.ref a) (.type "dict")
 | ins {a C dx:Addr} {fs:List (Str × V)} (e:H a=some (.ins C dx fs)) (cl:Cls K C) (ha:PySem.W.findIn K (.ref C) "__class__" = some (some (.builtin "object.__class__")))
   (hn:PySem.W.specialIn K (.builtin "object.__class__") "__get__" = some (some (.builtin "getset_descriptor.__get__"))) (htk:PySem.W.takesIn K (.builtin "object.__class__")=some true)
   (hm:PySem.W.mroIn K C (.type "object")=some true):qM K H (.ref a) (.ref C)
end
structure iW (k:Nat) (A:T5):Prop where
 hd:A.handled=none
 dp:A.depth + 3 * k + 5 < recursionLimit
 un:A.units + 16 * k + 200 < cLine
 gd:A.guards=some []
theorem iW.mono {j k:Nat}(r:iW k A)(h:j<=k):iW j A:=⟨r.hd,by have:=r.dp;omega,by have:=r.un;omega,r.gd⟩
theorem iW.deeper {k:Nat}(r:iW (k + 1) A)(env:Env):iW k (A.deeper env) :=
 ⟨r.hd,by have:=r.dp;show A.depth + 1 + 3 * k + 5 < _;omega,by have:=r.un;show A.units + 3 + 16 * k + 200 < _;omega,r.gd⟩
theorem iW.depth {k:Nat}(r:iW k A):A.depth < recursionLimit:=by have:=r.dp;omega
theorem iW.units {k:Nat}(r:iW k A):A.units + 64 < cLine:=by have:=r.un;omega
def KI:TA:=λ_ H Q=>Q [] H
def HQ (ta:TE) (tr:TA):TA:=λσ H Q=>ta σ H λx H1=>tr σ H1 λxs H2=>Q (x :: xs) H2
section
variable {X:Cx} {e:Expr} {es:List Expr} {te:TE} {t:TA} {pos:Pos}
theorem em:PA X [] KI:=λ_ _ _ _ H Q I h=>Calls.spliced_nil ⟨[],H,I,.nil,h⟩
theorem cP (g:PE X e te)(c:PA X es t)(a:starEach (e :: es) X.env=(false,eval e X.env) :: starEach es X.env:=by rfl):PA X (e :: es) (HQ te t):=by
 intro pos pins s σ H Q I h;rw[a];show wpAny _ _ (spliced ((false,eval e X.env) :: backTo pos (starEach es X.env))) _ _ s;refine Calls.spliced_cons (thn (g pins s σ H _ I h) λu b ⟨x,H1,j,d,q1⟩ => ?_);exact thn (c pos pins b σ H1 _ j q1) λl m ⟨xs,k,f,i,q2⟩=>⟨x :: xs,k,f,.cons d i,q2⟩
def Ma (t:TA):TE:=λσ H Q=>t σ H λxs H1=>xs.length<=sizeLine/\∀p,H1 p=none->Q (.ref p) (upd H1 p (.tup xs))
def Mb (t:TA):TE:=λσ H Q=>t σ H λxs H1=>xs.length<=sizeLine/\∀p,H1 p=none->Q (.ref p) (upd H1 p (.lst xs))
theorem IN {x1}(h:PA X es t):PE X (.Tuple es x1 pos) (Ma t):=by
 intro pins s σ H Q I f;refine wpAny_Tuple_spliced (thn (h pos pins s σ H _ I f) λd a ⟨xs,H1,c,r,z,q⟩=>⟨by rw[<-r.length];exact z,?_⟩);have g:H1 a.heap.objs.size=none:=c.hok.fresh (ZL _);refine⟨.ref a.heap.objs.size,upd H1 a.heap.objs.size (.tup xs),c.laid (t':=a.toks) (λb u e=>ZH _ e) (ZL _) ?_,rfl,q _ g⟩;exact⟨z,d,r,⟨_,ZJ _ rfl,rfl,_,rfl⟩⟩
theorem IO (h:PA X es t):PE X (.List es pos) (Mb t):=by
 intro pins s σ H Q I f;refine wpAny_List_spliced (thn (h pos pins s σ H _ I f) λd a ⟨xs,H1,c,r,z,q⟩=>⟨by rw[<-r.length];exact z,?_⟩);have g:H1 a.heap.objs.size=none:=c.hok.fresh (ZL _);refine⟨.ref a.heap.objs.size,upd H1 a.heap.objs.size (.lst xs),c.laid (t':=a.toks) (λb u e=>ZH _ e) (ZL _) ?_,rfl,q _ g⟩;exact⟨z,d,0,r,ZJ _ rfl⟩
end
abbrev Sp:=List V->Hp->VK->XK->Prop
abbrev CXT:=List Env->Hp->T4->XK->T0->T4->Prop
structure Gg (P:T6) (w:T7) (K:ZX) (mg:Str->Option T0) (base:Heap) (A:T5) (outer:List Env) (s:T4) (H:Hp):Prop where
 frames:A.frames=some outer
 mod:Mod K mg base
 bs:∀b o,base.get? b=some o->s.heap.get? b=some o/\H b=none
 bsz:base.objs.size<=s.heap.objs.size
 funs:s.heap.FunFrames base outer
 frf:∀b∈frs outer,H b=none
 hok:HOk P w H s.heap
 bare:AllBare s.gens
def CE (outer:List Env) (P:T6) (w:T7) (H:Hp) (s:T4) (Q:VK) (u:T0) (s':T4):Prop :=
 ∃v H',s'.os=s.os/\AllBare s'.gens/\Un (frs outer) [] H H' s.heap s'.heap/\HOk P w H' s'.heap/\bJ v u/\Q v H'
def CR (CX:CXT) (outer:List Env) (P:T6) (w:T7) (H:Hp) (s:T4) (Q:VK) (E:XK) (r:Result) (s':T4):Prop :=
 match r with
 | .ok (.ret u)=>CE outer P w H s Q u s'
 | .ok _=>False
 | .error e=>CX outer H s E e s'
structure bW (P:T6) (w:T7) (K:ZX) (mg:Str->Option T0) (base:Heap) (CX:CXT) (k:Nat) (f:Addr) (fd:FuncData) (ps:List Str) (sp:Sp):Prop where
 len:∀vs H Q E,sp vs H Q E->vs.length=ps.length
 run:∀(A:T5) (outer:List Env) (s:T4) (H:Hp) (args:Args) (us:List T0) (vs:List V) (Q:VK) (E:XK),iW k A->Gg P w K mg base A outer s H->BindsTo s fd args (ps.zip us)->aY vs us->sp vs H Q E->
  codeAny (model P w) A (.call (.ref f) args) (CR CX outer P w H s Q E) s
section
variable {X:Cx} {pins:List (Addr × Obj)} {σ:St} {H:Hp} {s s':T4}
theorem Inv.env0 (I:Inv X pins σ H s):Gg X.prog X.w X.K X.mg X.base X.A X.stack s H :=
 ⟨I.ok.frames,I.ok.mod,I.bs,ZM I.ok.bsz I.sz,I.stack,I.stkFree,I.hok,I.bare⟩
theorem Inv.after {Q:VK}(I:Inv X pins σ H s)(h:CE X.stack X.prog X.w H s Q u s'):EP X pins σ Q u s':=by
 obtain⟨v,H',os,bare,e,hok,r,q⟩:=h;obtain⟨c,g,d,t,a⟩:=s';obtain rfl:a=s.os:=os;exact⟨v,H',I.call (h':=c) (g':=g) (d':=d) (t':=t) (ch:=[]) e hok bare (λb z=>absurd z (by simp)),r,q⟩
end
def KJ (sp:Sp) (dvs:List V) (E:XK) (t:TA):TE:=λσ H Q=>t σ H λvs H1=>sp (vs++dvs) H1 Q E
def qN (K:ZX) (fd:FuncData) (ps:List Str) (ds:List T0):Prop :=
 ∀(s:T4) (us:List T0),K.In s.heap->(us++ds).length=ps.length->BindsTo s fd ⟨us,[]⟩ (ps.zip (us++ds))
theorem qN.all {K:ZX}{fd:FuncData}{ps:List Str}(h:∀a:List T0,a.length=ps.length->bindArgs fd ⟨a,[]⟩ = pure (ps.zip a)):qN K fd ps []:=λs a _ b=>by
 rw[Z6]at b ⊢;exact .of_eq (h a b)
def zh (CX:CXT) (X:Cx) (E:XK):Prop:=∀(pins:List (Addr × Obj)) (σ:St) (H:Hp) (s:T4) (e:T0) (s':T4),Inv X pins σ H s->CX X.stack H s E e s'->X.xe e s'
section
variable {X:Cx} {CX:CXT} {k:Nat} {f C:Addr} {fd:FuncData} {ps:List Str} {sp:Sp} {dvs:List V} {ds:List T0} {E:XK} {x m:Str} {p pos apos:Pos} {e o:Expr} {es:List Expr} {ta:TE} {t:TA}
theorem IP {Q:VK}{a:List T0}{vs:List V}(F:bW X.prog X.w X.K X.mg X.base CX k f fd ps sp)(d:iW k X.A)(l:qN X.K fd ps ds)(hd:aY dvs ds)(i:zh CX X E)
  (I:Inv X pins σ H s) (r:aY vs a) (h:sp (vs++dvs) H Q E):wpAny (model X.prog X.w) X.A (call (.ref f) a) (EP X pins σ Q) X.xe s:=by
 have c:aY (vs++dvs) (a++ds):=r.append hd;have g:(a++ds).length=ps.length:=by rw[<-c.length];exact F.len _ _ _ _ h
 refine wpAny_call (W7 (F.run X.A X.stack s H ⟨a,[]⟩ (a++ds) (vs++dvs) Q E d I.env0 (l s a I.kIn g) c h) λr j b => ?_);cases r with
 | error e=>exact i pins σ H s e j I b
 | ok fl =>
  cases fl with
  | ret u=>exact I.after b
  | next=>exact False.elim b
  | brk=>exact False.elim b
  | cont=>exact False.elim b
theorem Gh (F:bW X.prog X.w X.K X.mg X.base CX k f fd ps sp)(c:iW k X.A)(l:Gl X x)(hm:X.mg x=some (.ref f))(j:PySem.W.keepIn X.K (.ref f)=true)(i:qN X.K fd ps ds)(hd:aY dvs ds)(g:zh CX X E)
  (d:PA X (e :: es) t) (a:(x == ("__debug__" : Str))=false:=by decide) (he:starEach (e :: es) X.env=(false,eval e X.env) :: starEach es X.env:=by rfl) (hpl:(backTo pos (starEach es X.env)).any (·.1)=false:=by rfl) :
  PE X (.Call (.Name x p) (e :: es) [] pos) (KJ sp dvs E t):=by
 intro pins s σ H Q I h;refine W2 (A3 I l hm ?_ a);refine PySem.W.callWith_K (h₀ := X.base) I.ok.mod.kin j (thn (d pos pins s σ H _ I h) λn u ⟨v,H1,b,r,q⟩=>⟨b.kIn,?_⟩) he hpl;exact IP F c i hd g b r q
structure Mk (K:ZX) (C f:Addr):Prop where
 makes:PySem.W.makesIn K C=true
 init:PySem.W.findIn K (.ref C) "__init__" = some (some (.ref f))
 fn:PySem.W.isFn K (.ref f)=true
 kp:PySem.W.keepIn K (.ref C)=true
end
section
variable {X:Cx} {CX:CXT} {k:Nat} {f C:Addr} {fd:FuncData} {ps ks:List Str} {sp:Sp} {E:XK} {x m:Str} {p pos apos kpos:Pos} {e o:Expr} {es:List Expr} {kws:List Keyword} {te ta:TE} {t tk:TA} {nm:Option Str}
structure Mc (K:ZX) (fd:FuncData) (ps ks:List Str) (g:List T0->List T0->List T0) (gV:List V->List V->List V):Prop where
 to:∀(s:T4) (us ws:List T0),K.In s.heap->(g us ws).length=ps.length->BindsTo s fd ⟨us,ks.zip ws⟩ (ps.zip (g us ws))
 rel:∀{vs:List V} {us:List T0} {zs:List V} {ws:List T0},aY vs us->aY zs ws->aY (gV vs zs) (g us ws)
variable {g:List T0->List T0->List T0} {gV:List V->List V->List V}
end
structure aP (N P:List Str) (sc:Scope):Prop where
 kind:sc.kind=.function
 co:sc.isCoroutine=false
 gen:sc.isGenerator=false
 nd:N.Nodup
 pre:N.take P.length=P
 par:∀x∈P,sc.names.lookup x=some .local\/sc.names.lookup x=some .cell
 nofree:∀y∈sc.names,y.2 ≠ .free
theorem ui {b:Str->Option NameKind}{x:Str}:∀{a:List (Str × T0)} {m:Str->Option T0},(∀v,(x,v)∉a)->bindL b a m x=m x
 | [],_,_=>rfl
 | (n,v) :: r,m,h=>by
  unfold bindL;rw[ui λw hw=>h w (ZW _ hw)];split
  ·have:x≠n:=by rintro rfl;exact h v ZV
   simp[this]
  ·rfl
theorem uj {b:Str->Option NameKind}{x:Str}:∀{a:List (Str × T0)} {m:Str->Option T0},(∀v,(x,v)∉a)->bindC b a m x=m x
 | [],_,_=>rfl
 | (n,v) :: r,m,h=>by
  unfold bindC;rw[uj λw hw=>h w (ZW _ hw)];split
  ·rfl
  ·have:x≠n:=by rintro rfl;exact h v ZV
   simp[this]
theorem uk {a:Str->Option NameKind}{x:Str}{v:T0}:∀{P:List Str} {b:List T0} {i:Nat} {m:Str->Option T0},P.Nodup->P[i]? = some x->b[i]? = some v->a x=some .local->
  bindL a (P.zip b) m x=some v
 | [],_,_,_,_,h,_,_=>by simp at h
 | _ :: _,[],_,_,_,_,h,_=>by simp at h
 | p :: P,w :: b,0,m,nd,h1,h2,hk=>by
  simp at h1 h2;subst h1;subst h2;show bindL a ((p,w) :: P.zip b) m p=_;unfold bindL;rw[ui λv c=>(List.nodup_cons.mp nd).1 (List.of_mem_zip c).1,z4 hk];simp
 | p :: P,w :: b,i + 1,m,nd,h1,h2,hk=>by
  show bindL a ((p,w) :: P.zip b) m x=_;unfold bindL;exact uk (i:=i) (List.nodup_cons.mp nd).2 (by simpa using h1) (by simpa using h2) hk
theorem ul {a:Str->Option NameKind}{x:Str}{v:T0}:∀{P:List Str} {b:List T0} {i:Nat} {m:Str->Option T0},P.Nodup->P[i]? = some x->b[i]? = some v->a x≠some .local->
  bindC a (P.zip b) m x=some v
 | [],_,_,_,_,h,_,_=>by simp at h
 | _ :: _,[],_,_,_,_,h,_=>by simp at h
 | p :: P,w :: b,0,m,nd,h1,h2,hk=>by
  simp at h1 h2;subst h1;subst h2;show bindC a ((p,w) :: P.zip b) m p=_;unfold bindC;rw[uj λv c=>(List.nodup_cons.mp nd).1 (List.of_mem_zip c).1,z5 hk];simp
 | p :: P,w :: b,i + 1,m,nd,h1,h2,hk=>by
  show bindC a ((p,w) :: P.zip b) m x=_;unfold bindC;exact ul (i:=i) (List.nodup_cons.mp nd).2 (by simpa using h1) (by simpa using h2) hk
def li (N:List Str) (vs:List V):St:=vs.map some++List.replicate (N.length - vs.length) none
def zi (CX:CXT) (P:T6) (w:T7) (K:ZX) (mg:Str->Option T0) (base:Heap) (N:List Str) (qual:Str) (scope:Scope) (f:Addr) (cd:T0) (A:T5) (outer:List Env) (s:T4) (H:Hp) (E:XK):Cx where
 prog:=P
 w:=w
 K:=K
 mg:=mg
 base:=base
 A:=A.deeper (envOfC qual scope s.heap.objs.size f cd)
 N:=N
 s₀ := s
 H₀ := H
 env:=envOfC qual scope s.heap.objs.size f cd
 outer:=outer
 stack:=envOfC qual scope s.heap.objs.size f cd :: outer
 ex:=[]
 calm:=true
 fn:=λ_=>true
 pn:=[]
 xe:=λe s'=>wpAny (model P w) (A.deeper (envOfC qual scope s.heap.objs.size f cd)) (leaving (envOfC qual scope s.heap.objs.size f cd) e) (λ_ s''=>CX outer H s E e s'') (λe' s''=>CX outer H s E e' s'') s'
theorem xf {a:Scope}{n:Nat}(h:a.names.lookup x=some .cell):∃c,(cellsFrom n a.names []).lookup x=some c:=by
 have q:=PySem.W.cellsFrom_some a.names n [] (.inl h);exact Option.isSome_iff_exists.mp q
theorem Ce {CX:CXT}{P:T6}{w:T7}{K:ZX}{mg:Str->Option T0}{base:Heap}{N ps:List Str}{d:Str}{scope:Scope}{f:Addr}{t:T0}{outer:List Env}{C:T4}{E:XK}{B:List T0}{vs:List V}
  (S:aP N ps scope) (hd:A.handled=none) (g:Gg P w K mg base A outer s H) (L:vs.length=ps.length) (r:aY vs B)
  (x:InCallC s s.heap.objs.size (bindL (envOfC d scope s.heap.objs.size f t).kindOf (ps.zip B) λ_=>none) (cellsFrom (s.heap.objs.size + 1) scope.names []) (bindC (envOfC d scope s.heap.objs.size f t).kindOf (ps.zip B) λ_=>none) C) :
  Inv (zi CX P w K mg base N d scope f t A outer s H E) [] (li N vs) H C:=by
 have I:ps.length<=N.length:=by have:=congrArg List.length S.pre;rw[XH]at this;omega
 obtain⟨h1,tk,rfl,D⟩:=x.done;have j:∀b:Addr,b∉(zi CX P w K mg base N d scope f t A outer s H E).ex:=λb z=>absurd (show b∈([] : List Addr) from z) (by simp);refine⟨⟨g.mod,S.kind,rfl,rfl,ZL _,λy z c h1 h2 => ?_,λy l => ?_,λy c _ h => ?_,λ_=>hd,Around.frames_deeper g.frames,.inr ⟨rfl,rfl⟩,λb z=>absurd z (j b),g.bs,g.bsz,λb _ _=>j b,λb z=>absurd z (j b),g.funs,g.frf⟩,
  rfl,g.bare,Un.kept D,⟨_,x.toInCall.ns,λi y v h1 h2 M => ?_⟩,λy c h=>⟨_,x.cell y c h⟩,g.hok.fresh (ZL _),λy c h => ?_,λp o=>absurd (show p∈([] : List (Addr × Obj)) from o) (by simp),g.hok.kept D,?_⟩
 ·exact name_of_addr x.apart (X9 h1) (X9 h2)
 ·have l:scope.names.lookup y=some .cell\/scope.names.lookup y=some .free:=l
  rcases l with l|l
  ·exact xf l
  ·exact absurd rfl (S.nofree _ (X9 l))
 ·exact YI (x.above y c (X9 h))
 ·have hi:i < vs.length:=by
   unfold li at h2
   by_cases hi:i < vs.length
   ·exact hi
   ·rw[ZD (by simpa using hi)]at h2
    rw[List.getElem?_replicate]at h2;split at h2<;>cases h2
  have G:vs[i]? = some v:=by
   unfold li at h2;rw[ZC (by simpa using hi),ZQ]at h2;cases e:vs[i]? with
   | none=>rw[e]at h2;cases h2
   | some a=>rw[e]at h2;cases h2;rfl
  obtain⟨u,F,J⟩:=r.get G;have o:ps[i]? = some y:=by
   rw[<-S.pre,List.getElem?_take_of_lt (by omega)];exact h1
  have m:ps.Nodup:=by rw[<-S.pre];exact S.nd.sublist (List.take_sublist _ _)
  refine⟨u,J,?_⟩;rcases S.par y (ZK o) with k|k
  ·exact .inl ⟨k,uk m o F k⟩
  ·obtain⟨c,e⟩:=xf (n:=s.heap.objs.size + 1) k
   refine .inr ⟨.inl k,c,e,?_⟩;have q:=x.cell y c e;rw[ul m o F (by show scope.names.lookup y≠_;rw[k];decide)]at q;exact q
 ·exact g.hok.fresh (YI (x.above y c (X9 h)))
 ·unfold li
  show _=N.length;rw[ZB,ZA,Y5];omega
theorem KK {CX:CXT}{P:T6}{w:T7}{K:ZX}{mg:Str->Option T0}{base:Heap}{k:Nat}{f:Addr}{name a:Str}{d:Arguments}{body:List Stmt}{scope:Scope}{M kV m pm c ct oc:T0}{R od:Option Addr}
  {C:Array (Option T0)} {N ps:List Str} {sp:Sp} (lk:K.lookup f=some ⟨oc,od,.func (PySem.W.fnOf name a d body scope M kV m pm R c ct),C⟩) (G:PySem.W.codeIn K c a=true) (S:aP N ps scope)
  (len:∀vs H Q E,sp vs H Q E->vs.length=ps.length)
  (i:∀(A:T5) (outer:List Env) (s:T4) (H:Hp) (vs:List V) (Q:VK) (E:XK),iW k (A.deeper (envOfC a scope s.heap.objs.size f c))->sp vs H Q E->
   ∃t,PSs (zi CX P w K mg base N a scope f c A outer s H E) body t/\t { nx:=λ_ H'=>Q .non H',rt:=Q } (li N vs) H) :
  bW P w K mg base CX (k + 1) f (PySem.W.fnOf name a d body scope M kV m pm R c ct) ps sp:=by
 refine⟨len,λA outer s H T W vs Q E B p hb r l => ?_⟩;have Z:=len _ _ _ _ l;have KX:K.In s.heap:=p.mod.kin.keeps λb o e=>(p.bs b o e).1;have L:s.heap.NoLimit:=p.mod.nolimit.keeps λb o e=>(p.bs b o e).1;have h:∀y∈ps.zip W,scope.names.lookup y.1=some .local\/(scope.names.lookup y.1=some .cell/\((cellsFrom (s.heap.objs.size + 1) scope.names []).lookup y.1).isSome=true):=λ⟨n,v⟩ hy=>by
  rcases S.par n (List.of_mem_zip hy).1 with q|q
  ·exact .inl q
  ·exact .inr ⟨q,PySem.W.cellsFrom_some _ _ _ (.inl q)⟩
 refine codeAny_call_function B.depth (KX _ _ lk) rfl S.co S.gen rfl (PySem.W.codeRec_of KX G) (hb _ _ _ _ ?_);refine wpAny_newFunctionEnv_cells S.kind h λY he O x => ?_;subst he;refine⟨L.keeps x.toInCall.keep,codeAny_func ?_⟩;obtain⟨t,ht,X⟩:=i A outer s H vs Q E (B.deeper _) l;have I:Inv (zi CX P w K mg base N a scope f c A outer s H E) [] (li N vs) H O:=Ce S B.hd p Z r x;refine XI (ht [] O (li N vs) H _ I X) (λU D j => ?_) λe D j=>j;have z:∀{g:St} {H':Hp} {v:V} {u:T0},Inv (zi CX P w K mg base N a scope f c A outer s H E) [] g H' D->bJ v u->Q v H'->CE outer P w H s Q u D :=
  λ{g H' v u} J F q=>⟨v,H',J.os,J.bare,J.base,J.hok,F,q⟩
 cases U with
 | ret u =>
  obtain⟨v,g,H',J,F,q⟩:=j;exact z J F q
 | next =>
  obtain⟨g,H',J,q⟩:=j;exact z (v:=V.non) (u:=Value.none) J rfl q
 | brk =>
  obtain⟨_,_,_,q⟩:=j;exact False.elim q
 | cont =>
  obtain⟨_,_,_,q⟩:=j;exact False.elim q
section
variable {X:Cx} {x:Str} {p pos:Pos} {e:Expr} {es:List Expr} {t:TA} {id T:String} {r:List V->Hp->VK->Prop}
def tCB (r:List V->Hp->VK->Prop) (t:TA):TE:=λσ H Q=>t σ H λvs H1=>r vs H1 Q
theorem iA (hc:fO X (.builtin id) r) (l:Gl X x) (hm:X.mg x=none) (g:bootBuiltins x=some (.builtin id)) (f:PA X (e :: es) t) (i:x ≠ "__name__" := by decide) (a:(x == ("__debug__" : Str))=false:=by decide)
  (he:starEach (e :: es) X.env=(false,eval e X.env) :: starEach es X.env:=by rfl) (hpl:(backTo pos (starEach es X.env)).any (·.1)=false:=by rfl):PE X (.Call (.Name x p) (e :: es) [] pos) (tCB r t):=by
 intro pins s σ H Q I h;refine W2 (jY I l hm g ?_ i a);exact PyProof.Rows.callWith_builtin1 (thn (f pos pins s σ H _ I h) λb c ⟨k,H1,j,d,q1⟩=>hc pins c σ H1 k b Q j d q1) he hpl
theorem oM (hc:fO X (.type T) r) (l:Gl X x) (hm:X.mg x=none) (g:bootBuiltins x=some (.type T)) (f:PA X (e :: es) t) (i:x ≠ "__name__" := by decide) (a:(x == ("__debug__" : Str))=false:=by decide)
  (he:starEach (e :: es) X.env=(false,eval e X.env) :: starEach es X.env:=by rfl) (hpl:(backTo pos (starEach es X.env)).any (·.1)=false:=by rfl):PE X (.Call (.Name x p) (e :: es) [] pos) (tCB r t):=by
 intro pins s σ H Q I h;refine W2 (jY I l hm g ?_ i a);exact YS (thn (f pos pins s σ H _ I h) λb c ⟨k,H1,j,d,q1⟩=>hc pins c σ H1 k b Q j d q1) he hpl
end
end L2
namespace HT
open PySem PyProof.Rows
def cX:List Int->List Int->Bool
 | [],[]=>false
 | [],_ :: _=>true
 | _ :: _,[]=>false
 | x :: xs,y :: ys=>if x=y then cX xs ys else decide (x < y)
section
open PySem.SeqAt
open PySem.AutoSeq1 (wpAny_loadPart')
open PySem.MeetsSeq PySem.MeetsSeq2 PySem.MeetsSeq3
end
section
variable {prog:T6} {w:T7} {A:T5} {E:T0->T4->Prop} {s:T4}
theorem cat_tup {t b:Addr}{vs a:List T0}{Q:T0->T4->Prop}(ht:IsTup s.heap t vs.toArray)(o:IsTup s.heap b a.toArray)(m:vs≠[])
  (h1:a=[]->Q (.ref t) s) (h2:a≠[]->Q (.ref s.heap.objs.size) { s with heap:=s.heap.push { cls:=.type "tuple",data:=.seq (vs++a).toArray } })
  (hsz:vs.length + a.length<=sizeLine):wpAny (model prog w) A (binaryOp .Add (.ref t) (.ref b)) Q E s:=by
 obtain⟨⟨cls,k,data,sl⟩,i,hc,n,hd⟩:=id ht;obtain⟨⟨l,h,j,d⟩,c,f,n2,g⟩:=id o;simp only at hc hd f g;subst hc hd f g;have e:vs.toArray++a.toArray=(vs++a).toArray:=by simp
 by_cases hw:a=[]
 ·exact concat_meets ⟨_,i,rfl⟩ ⟨_,c,rfl⟩ noFill_tuple_add seq_tuple_add PySem.F.slot_tuple_add PySem.F.entry_tuple_add (PySem.F.args_tuple_add_2 _ _)
   (tuple_addW1 t b vs.toArray a.toArray n n2 k h sl d (by simpa using m) (by simp[hw])) ⟨i,c,h1 hw⟩
 ·refine concat_meets ⟨_,i,rfl⟩ ⟨_,c,rfl⟩ noFill_tuple_add seq_tuple_add PySem.F.slot_tuple_add PySem.F.entry_tuple_add (PySem.F.args_tuple_add_2 _ _)
   (tuple_addW2 t b vs.toArray a.toArray n n2 k h sl d (by simpa using m) (by simpa using hw) (by rw[yR,yR];exact hsz)) ⟨i,c,?_⟩
  rw[e];exact h2 hw
def sIx (n d:Nat):Option Int->Nat
 | none=>d
 | some v=>if v < 0 then (v + (n:Int)).toNat else min v.toNat n
theorem IQ (n d:Nat)(hd:d<=n)(o:Option Int):sIx n d o<=n:=by
 cases o with
 | none=>exact hd
 | some v =>
  show (if v < 0 then (v + (n:Int)).toNat else min v.toNat n)<=n
  by_cases hv:v < 0
  ·rw[z4 hv];omega
  ·rw[z5 hv];exact Nat.min_le_right _ _
theorem A5 (v:Int)(n d:Nat):(if v < 0 then max (v + (n:Int)) 0 else min v (n:Int))=((sIx n d (some v):Nat):Int):=by
 show (if v < 0 then max (v + (n:Int)) 0 else min v (n:Int))=(((if v < 0 then (v + (n:Int)).toNat else min v.toNat n):Nat):Int)
 by_cases hv:v < 0
 ·simp only[z4 hv];omega
 ·simp only[z5 hv];omega
theorem zj (lo hi:Option Int)(n:Nat):Builtin.Slice.sliceAdjust lo hi 1 (n:Int)=(((sIx n 0 lo:Nat):Int),((sIx n n hi:Nat):Int)):=by
 have h1 : ¬((1:Int) < 0):=by omega
 unfold Builtin.Slice.sliceAdjust;simp only[h1,YQ];refine Prod.ext ?_ ?_
 ·cases lo with
  | none=>rfl
  | some v=>exact A5 v n 0
 ·cases hi with
  | none=>rfl
  | some v=>exact A5 v n n
theorem zk (i j:Nat):Builtin.Slice.slicePlaces (i:Int) (j:Int) 1=j - i:=by
 unfold Builtin.Slice.slicePlaces;have h1:(1:Int) > 0:=by omega
 simp only[h1,YL,Int.ediv_one];split<;>omega
theorem qO {v:T0}{o:Option Int}{Q:Option Int->T4->Prop}(p:IsPart v o)(h:Q o s):wpAny (model prog w) A (Builtin.Slice.slicePartIndex v) Q E s:=by
 cases p with
 | none=>exact slicePart_none h
 | int i t=>exact slicePart_int h
theorem oN {sl:Addr}{d c:T0}{lo hi:Option Int}{n:Nat}{Q:Int × Int × Nat->T4->Prop}(e:s.heap.IsSliceOf sl d c .none)(pl:IsPart d lo)(f:IsPart c hi)
  (h:Q (((sIx n 0 lo:Nat):Int),1,sIx n n hi - sIx n 0 lo) s):wpAny (model prog w) A (Builtin.Slice.sliceApplied (.ref sl) (pure (n:Int))) Q E s:=by
 obtain⟨os,b,g,a⟩:=id e;unfold Builtin.Slice.sliceApplied Builtin.Slice.sliceFields;refine z0 (z0 (YM b a (x:=d) rfl (z0 (YM b a (x:=c) rfl (z0 (YM b a (x:=.none) rfl (z3 ?_)))))));refine z0 (slicePart_none ?_);show wpAny _ _ (if ((1:Int) == 0)=true then _ else _) _ _ s;rw[z5 (by decide)];refine z0 (qO pl (z0 (qO f (z0 (z3 ?_)))));show wpAny _ _ (match Builtin.Slice.sliceAdjust lo hi 1 (n:Int) with|(lo,hi)=>pure (lo,(1:Int),Builtin.Slice.slicePlaces lo hi 1)) _ _ s;rw[zj lo hi n];show wpAny _ _ (pure (((sIx n 0 lo:Nat):Int),(1:Int),Builtin.Slice.slicePlaces ((sIx n 0 lo:Nat):Int) ((sIx n n hi:Nat):Int) 1)) _ _ s;rw[zk];exact z3 h
theorem DO (xs:Array T0)(i k:Nat):((List.range k).filterMap λ(m:Nat)=>xs[((i:Int) + (m:Int) * 1).toNat]?).toArray=((xs.toList.drop i).take k).toArray:=by
 have e:(λ(m:Nat)=>xs[((i:Int) + (m:Int) * 1).toNat]?)=λm=>xs[i + m]? := by
  funext m;have:((i:Int) + (m:Int) * 1).toNat=i + m:=by omega
  rw[this]
 rw[e];have:=pick_run xs i k;rw[List.filterMap_map]at this;have a:((λx=>xs[x]?) ∘ λx=>i + x)=λm=>xs[i + m]? := rfl;rw[a]at this;rw[this]
theorem getItem_tuple_cut {t sl:Addr}{items:Array T0}{i g:T0}{lo hi:Option Int}{Q:T0->T4->Prop}(ht:IsTup s.heap t items)(f:s.heap.IsSliceOf sl i g .none)(pl:IsPart i lo)(k:IsPart g hi)
  (hw : ¬(sIx items.size 0 lo=0/\sIx items.size items.size hi=items.size))
  (h:Q (.ref s.heap.objs.size) { s with heap:=s.heap.push { cls:=.type "tuple",data:=.seq ((items.toList.drop (sIx items.size 0 lo)).take (sIx items.size items.size hi - sIx items.size 0 lo)).toArray } })
  (hsz:items.size<=sizeLine):wpAny (model prog w) A (getItem (.ref t) (.ref sl)) Q E s:=by
 have a:sizeOk (.seq ((items.toList.drop (sIx items.size 0 lo)).take (sIx items.size items.size hi - sIx items.size 0 lo)).toArray):=by
  show ((items.toList.drop (sIx items.size 0 lo)).take (sIx items.size items.size hi - sIx items.size 0 lo)).toArray.size<=sizeLine;rw[yR,XH,List.length_drop,XE];omega
 have l:sIx items.size items.size hi<=items.size:=IQ _ _ (ZL _) hi;obtain⟨os,d,b,j⟩:=id f;have c:s.TypeIs (.ref sl) "slice" := ⟨os,d,b⟩;unfold getItem
 try with_reducible refine YC ?_
 first|refine z0 (z3 ?_)|skip
 refine z0 (wpAny_sequenceKey ht.typeIs (by decide) ?_);refine z0 (wpAny_callSpecial?_slot (name:=Str.ofString "__getitem__") ht.typeIs PyProof.Rows.slot_tuple_getitem
  (Z4 PyProof.Rows.slot_tuple_getitem ht.typeIs entry_tuple_getitem ?_ (args_tuple_getitem _ _)))
 show wpAny _ _ (Builtin.Tuple.tupleItemsOf (.ref t) >>= _) _ _ s;refine z0 (tupleItemsOf_ ht ?_);refine z0 (wpAny_typeOf c ?_);rw[z4 (by decide)];refine z0 (oN f pl k ?_);have e : ¬((((sIx items.size 0 lo:Nat):Int) == 0 && (1:Int) == 1 && (sIx items.size items.size hi - sIx items.size 0 lo) == items.size)=true):=by
  intro q;rw[x8,x8]at q;have q1:((sIx items.size 0 lo:Nat):Int)=0:=eq_of_beq q.1.1;have q2:sIx items.size items.size hi - sIx items.size 0 lo=items.size:=eq_of_beq q.2;exact hw ⟨by omega,by omega⟩
 show wpAny _ _ (if (((sIx items.size 0 lo:Nat):Int) == 0 && (1:Int) == 1 && (sIx items.size items.size hi - sIx items.size 0 lo) == items.size)=true then _ else _) _ _ s;rw[z5 e,DO]
 first
  | exact z0 (m:=Builtin.Tuple.tupleExact _) (Z2 (z3 ⟨_,rfl,z3 h⟩) a)
  | exact z0 (m:=Builtin.Tuple.tupleExact _) (Z2 (z0 (z3 (z3 ⟨_,rfl,z3 h⟩))) a)
  | exact z0 (z0 (m:=Builtin.Tuple.tupleExact _) (Z2 (z3 (z3 ⟨_,rfl,z3 h⟩)) a))
  | exact z0 (z0 (m:=Builtin.Tuple.tupleExact _) (Z2 (z3 ⟨_,rfl,z3 h⟩) a))
end
end HT
namespace L2
open PySem PySem.Spec PyProof.Rows
abbrev TO:=St->Hp->(Option Int->Hp->Prop)->Prop
def PO (X:Cx) (e:Option Expr) (t:TO):Prop :=
 ∀(pins:List (Addr × Obj)) (s:T4) (σ:St) (H:Hp) (Q:Option Int->Hp->Prop),Inv X pins σ H s->t σ H Q->
  wpAny (model X.prog X.w) X.A (evalPart e X.env) (λu s'=>∃o H',Inv X pins σ H' s'/\IsPart u o/\Q o H') X.xe s
def Gi:TO:=λ_ H Q=>Q none H
def KL (t:TE):TO:=λσ H Q=>t σ H λx H1=>∃i,x=.int i/\Q (some i) H1
theorem mM {ns:List Int}:∀{a:List T0},aY (ns.map V.int) a->IntsAre a ns:=by
 induction ns with
 | nil=>intro a r;rw[W8]at r;cases r;exact .nil
 | cons n ns ih =>
  intro a r;rw[yP]at r;cases r with
  | cons r1 r2 =>
   obtain⟨t,e⟩:=r1;subst e;exact .cons n t (ih r2)
section
variable {X:Cx} {e:Expr} {te:TE} {lo hi:Option Expr} {tl th:TO} {pos p2:Pos}
theorem Gj:PO X none Gi:=by
 intro pins s σ H Q I h;rw[evalPart_none];exact z3 ⟨none,H,I,.none,h⟩
theorem Gk (h:PE X e te):PO X (some e) (KL te):=by
 intro pins s σ H Q I hw;rw[evalPart_some];refine thn (h pins s σ H _ I hw) λu c ⟨x,H1,a,b,q1⟩ => ?_;obtain⟨i,rfl,q⟩:=q1;obtain⟨t,rfl⟩:=b;exact⟨some i,H1,a,.int i t,q⟩
def SlR (X:Cx) (r:V->Option Int->Option Int->Hp->VK->Prop):Prop :=
 ∀(pins:List (Addr × Obj)) (s:T4) (σ:St) (H:Hp) (x:V) (v vl vu:T0) (lo hi:Option Int) (sl:Addr) (Q:VK),Inv X pins σ H s->bJ x v->s.heap.IsSliceOf sl vl vu .none->IsPart vl lo->IsPart vu hi->r x lo hi H Q->
  ∃T id,typeLookup (.type T) "__getitem__" = pure (some (.builtin id))/\s.TypeIs v T/\wpAny (model X.prog X.w) X.A (getItem v (.ref sl)) (EP X pins σ Q) X.xe s
theorem SlR.or {r i:V->Option Int->Option Int->Hp->VK->Prop}(h:SlR X r)(h':SlR X i):SlR X (λx lo hi H Q=>r x lo hi H Q\/i x lo hi H Q):=by
 intro pins s σ H x v f d lo hi sl Q I g a c b q;rcases q with q|q
 ·exact h pins s σ H x v f d lo hi sl Q I g a c b q
 ·exact h' pins s σ H x v f d lo hi sl Q I g a c b q
def tSl (r:V->Option Int->Option Int->Hp->VK->Prop) (te:TE) (tl th:TO):TE:=λσ H Q=>te σ H λx H1=>tl σ H1 λl H2=>th σ H2 λu H3=>r x l u H3 Q
theorem DP {r:V->Option Int->Option Int->Hp->VK->Prop}(k:SlR X r)(he:PE X e te)(p:PO X lo tl)(B:PO X hi th):PE X (.Subscript e (.Slice lo hi none p2) pos) (tSl r te tl th):=by
 intro pins s σ H Q I h;refine Subscript_ (thn (he pins s σ H _ I h) λv i ⟨x,H1,y,n,q1⟩ => ?_);refine wpAny_Slice (thn (p pins i σ H1 _ y q1) λd C ⟨l,z,o,m,q2⟩=>thn (B pins C σ z _ o q2) λc a ⟨u,f,g,j,q3⟩ => ?_);rw[evalPart_none];refine z3 ?_;have A:Inv X pins σ f { a with heap:=a.heap.push { cls:=.type "slice",data:=.fields #[d,c,.none] } }:=g.kept (t':=a.toks) λb E q=>ZH _ q;obtain⟨T,id,w,t,D⟩:=k pins { a with heap:=a.heap.push { cls:=.type "slice",data:=.fields #[d,c,.none] } } σ f x v d c l u a.heap.objs.size Q A n (Heap.IsSliceOf.new ..) m j q3;show wpAny (model X.prog X.w) X.A (subscriptTail e (.Slice lo hi none p2) v (.ref a.heap.objs.size)) (EP X pins σ Q) X.xe { a with heap:=a.heap.push { cls:=.type "slice",data:=.fields #[d,c,.none] } };exact tail_any (ops:=[.ref a.heap.objs.size,v]) t w D (by with_unfolding_all rfl)
def qP (xs:List V) (lo hi:Option Int):List V:=(xs.drop (HT.sIx xs.length 0 lo)).take (HT.sIx xs.length xs.length hi - HT.sIx xs.length 0 lo)
theorem pW (xs:List V)(lo hi:Option Int):(qP xs lo hi).length<=xs.length:=by
 unfold qP;rw[XH,List.length_drop];omega
def Me (K:ZX):V->Option Int->Option Int->Hp->VK->Prop:=λx lo hi H Q=>∃a xs,x=.ref a/\SqT K H a xs/\
 ¬(HT.sIx xs.length 0 lo=0/\HT.sIx xs.length xs.length hi=xs.length)/\∀p,H p=none->Q (.ref p) (upd H p (.tup (qP xs lo hi)))
theorem IR:SlR X (Me X.K):=by
 intro pins s σ H x v t p lo hi sl Q I m i k j h;obtain⟨a,xs,rfl,l,hw,q⟩:=h;cases m;obtain⟨d,r,f,g⟩:=I.tuple l;have c:d.toArray.size=xs.length:=by rw[yR];exact r.length.symm
 refine⟨"tuple",_,PyProof.Rows.slot_tuple_getitem.lookup,f.typeIs,?_⟩;refine HT.getItem_tuple_cut f i k j (by rw[c];exact hw) ?_ (by rw[c];exact g);rw[c];refine⟨.ref s.heap.objs.size,_,I.laid (t':=s.toks) (o:=.tup (qP xs lo hi)) (λb n q=>ZH _ q) (ZL _) ?_,rfl,q _ (I.hok.fresh (ZL _))⟩;exact⟨ZM (pW xs lo hi) g,_,(r.drop (HT.sIx xs.length 0 lo)).take (HT.sIx xs.length xs.length hi - HT.sIx xs.length 0 lo),IsTup.new _ _⟩
def DQ (K:ZX):R2:=λx y H Q=>∃a b xs ys,x=.ref a/\y=.ref b/\SqT K H a xs/\SqT K H b ys/\xs≠[]/\xs.length + ys.length<=sizeLine/\
 (ys=[]->Q (.ref a) H)/\(ys≠[]->∀p,H p=none->Q (.ref p) (upd H p (.tup (xs++ys))))
theorem aY.nil_iff {xs:List V}{a:List T0}(r:aY xs a):a=[] ↔ xs=[]:=by
 cases r with
 | nil=>simp
 | cons _ _=>simp
theorem Gm:OpR X (binaryOp .Add) (DQ X.K):=by
 intro pins s σ H x y v u Q I m i h;obtain⟨a,b,xs,ys,rfl,rfl,k,n,l,g,q1,q2⟩:=h;cases m;cases i;obtain⟨p,d,j,_⟩:=I.tuple k;obtain⟨f,c,p2,_⟩:=I.tuple n;refine HT.cat_tup j p2 (λz=>l (d.nil_iff.mp z)) (λz=>⟨.ref a,H,I,rfl,q1 (c.nil_iff.mp z)⟩) (λz => ?_) (by rw[<-d.length,<-c.length];exact g);refine⟨.ref s.heap.objs.size,_,I.laid (t':=s.toks) (o:=.tup (xs++ys)) (λb r q=>ZH _ q) (ZL _) ?_,rfl,q2 (λw=>z (c.nil_iff.mpr w)) _ (I.hok.fresh (ZL _))⟩;exact⟨by rw[ZB];exact g,_,d.append c,IsTup.new _ _⟩
end
def ixN (n:Nat) (i:Int):Option Nat:=if 0<=i then (if i < n then some i.toNat else none) else if -(n:Int)<=i then some (i + n).toNat else none
def atI {α : Type} (xs:List α) (i:Int):Option α := (ixN xs.length i).bind λj=>xs[j]?
theorem A6 {n:Nat}{i:Int}{j:Nat}(h:ixN n i=some j):seqIndex? i n=some j/\j < n/\-(n:Int)<=i/\i < n:=by
 unfold ixN at h
 by_cases h0:0<=i
 ·rw[z4 h0]at h
  by_cases h1:i < n
  ·rw[z4 h1]at h
   have e:i.toNat=j:=ZT h;exact⟨by rw[seqIndex_of h0 h1,e],by omega,by omega,h1⟩
  ·rw[z5 h1]at h;cases h
 ·rw[z5 h0]at h
  by_cases h1 : -(n:Int)<=i
  ·rw[z4 h1]at h
   have e:(i + n).toNat=j:=ZT h;exact⟨by rw[seqIndex_neg (by omega) h1,e],by omega,h1,by omega⟩
  ·rw[z5 h1]at h;cases h
theorem vk {α : Type}{xs:List α}{i:Int}{v : α}(h:atI xs i=some v):∃j,seqIndex? i xs.length=some j/\xs[j]? = some v/\j < xs.length/\-(xs.length:Int)<=i/\i < xs.length:=by
 unfold atI at h;cases e:ixN xs.length i with
 | none=>rw[e]at h;cases h
 | some j =>
  rw[e]at h;obtain⟨h1,h2,b,a⟩:=A6 e;exact⟨j,h1,h,h2,b,a⟩
theorem ef {α : Type}{xs:List α}{j:Nat}{v : α}(h:xs[j]? = some v):atI xs (j:Int)=some v:=by
 have a:j < xs.length:=(List.getElem?_eq_some_iff.mp h).1;have e:ixN xs.length (j:Int)=some j:=by
  unfold ixN;rw[z4 (by omega),z4 (by omega)];simp
 unfold atI;rw[e];exact h
def vn (b:Expr):Prop:=∀o i,subscripted b false o i=operate [o,i] (getItem o i)
def IxR (X:Cx) (r:R2):Prop :=
 ∀(value slice:Expr) (pins:List (Addr × Obj)) (s:T4) (σ:St) (H:Hp) (x y:V) (v u:T0) (Q:VK),Inv X pins σ H s->bJ x v->bJ y u->r x y H Q->
  subscripted slice false v u=operate [v,u] (getItem v u)->wpAny (model X.prog X.w) X.A (subscriptTail value slice v u) (EP X pins σ Q) X.xe s
def MtR (X:Cx) (id:String) (r:V->List V->Hp->VK->Prop):Prop :=
 ∀(pins:List (Addr × Obj)) (s:T4) (σ:St) (H:Hp) (x:V) (xs:List V) (v:T0) (us:List T0) (Q:VK),Inv X pins σ H s->bJ x v->aY xs us->r x xs H Q->
  wpAny (model X.prog X.w) X.A (call (.builtin id) (v :: us)) (EP X pins σ Q) X.xe s
section
variable {X:Cx} {a b:Expr} {ta tb:TE} {pos:Pos}
theorem IxR.or {r i:R2}(h:IxR X r)(h':IxR X i):IxR X (λx y H Q=>r x y H Q\/i x y H Q):=by
 intro d c pins s σ H x y v u Q I g f q e;rcases q with q|q
 ·exact h d c pins s σ H x y v u Q I g f q e
 ·exact h' d c pins s σ H x y v u Q I g f q e
theorem HR {r:R2}(d:IxR X r)(g:PE X a ta)(j:PE X b tb)(c:vn b):PE X (.Subscript a b pos) (tOp r ta tb):=by
 intro pins s σ H Q I h;exact Subscript_ (IJ g j I h λv u l x y k f i e q=>d a b pins l σ k x y v u Q f i e q (c _ _))
def KM (K:ZX):R2:=λx y H Q=>∃p xs i v,x=.ref p/\y=.int i/\SqL K H p xs/\atI xs i=some v/\Q v H
def KN (K:ZX):R2:=λx y H Q=>∃p xs i v,x=.ref p/\y=.int i/\SqT K H p xs/\atI xs i=some v/\Q v H
def KO:R2:=λx y H Q=>∃z i c,x=.str z/\y=.int i/\z.length<=sizeLine/\atI z.cps.toList i=some c/\Q (.str ⟨#[c]⟩) H
theorem A7:IxR X (KM X.K):=by
 intro g e pins s σ H x y v u Q I F C h m;obtain⟨p,xs,i,z,rfl,rfl,A,E,q⟩:=h;cases F;obtain⟨t,rfl⟩:=C;obtain⟨l,r,f,L⟩:=I.list A;obtain⟨j,h1,h2,J,o,B⟩:=vk E;obtain⟨w,n,k⟩:=r.get h2;have D:=r.length;have K:=oK;have c:EP X pins σ Q w s:=⟨z,H,I,k,q⟩
 by_cases h0:0<=i
 ·have d:i.toNat=j:=by
   rw[seqIndex_of h0 B]at h1;exact ZT h1
  exact item_listR f.isList h0 (by omega) (by rw[d];simpa using n) c m
 ·have d:(i + (l.toArray.size:Int)).toNat=j:=by
   rw[seqIndex_neg (by omega) o]at h1;rw[yR,<-D];exact ZT h1
  exact subscriptTail_builtinR (x:=w) f.isList.typeIs slot_list_getitem.lookup
   (wpAny_getItem_list_neg (Q:=λr G=>r=w/\EP X pins σ Q r G) f.isList (by omega) (by rw[yR]<;>omega) (by omega) (by rw[d];simpa using n) ⟨rfl,c⟩) m
theorem IS:IxR X (KN X.K):=by
 intro d c pins s σ H x y v u Q I A m h k;obtain⟨p,xs,i,z,rfl,rfl,l,o,q⟩:=h;cases A;obtain⟨t,rfl⟩:=m;obtain⟨D,r,g,K⟩:=I.tuple l;obtain⟨j,h1,h2,G,E,F⟩:=vk o;obtain⟨w,C,e⟩:=r.get h2;have n:=r.length;have J:=oK;have f:EP X pins σ Q w s:=⟨z,H,I,e,q⟩;exact subscriptTail_builtinR (x:=w) g.typeIs slot_tuple_getitem.lookup
  (getItem_tuple (j:=j) (Q:=λr B=>r=w/\EP X pins σ Q r B) g (by omega) (by omega) (by rw[yR,<-n];exact h1) (by simpa using C) ⟨rfl,f⟩) k
theorem IT:IxR X KO:=by
 intro e d pins s σ H x y v u Q I p l h g;obtain⟨z,i,c,rfl,rfl,C,o,q⟩:=h;obtain⟨t,rfl⟩:=p;obtain⟨w,rfl⟩:=l;obtain⟨j,h1,h2,A,f,k⟩:=vk o;have n:z.cps.toList.length=z.length:=by simp[Str.length]
 rw[n]at h1 f k;have B:=oK;exact tail_any (typeIs_str s z t) slot_str_getitem.lookup (getItem_str (c:=c) (by
  have r:decide (i < -(2 ^ 63:Int))=false:=y3 (by omega);have m:decide (i ≥ 2 ^ 63)=false:=y3 (by omega);rw[r,m,Bool.or_false]) (by rw[h1];simpa using h2) ⟨.str ⟨#[c]⟩,H,I.tok _,⟨_,rfl⟩,q⟩) g
def rIx (K:ZX):R2:=λx y H Q=>KM K x y H Q\/KN K x y H Q\/KO x y H Q
theorem IU:IxR X (rIx X.K):=A7.or (IS.or IT)
theorem zm (c:List T0) (n j:Nat) (u:T0):Obj.mapSeq (·.setIfInBounds j u) { cls:=.type "list",data:=.seq c.toArray n } = { cls:=.type "list",data:=.seq (c.set j u).toArray n }:=by
 simp[Obj.mapSeq]
theorem Inv.lst {pins:List (Addr × Obj)}{σ:St}{H:Hp}{s:T4}{p:Addr}{xs:List V}(I:Inv X pins σ H s)(h:H p=some (.lst xs)) :
  ∃(c:List T0) (n:Nat),aY xs c/\s.heap.get? p=some { cls:=.type "list",data:=.seq c.toArray n }/\xs.length<=sizeLine:=by
 obtain⟨z,c,n,r,e⟩:=I.hok p _ h;exact⟨c,n,r,e,z⟩
theorem Inv.lstUpd {pins:List (Addr × Obj)}{σ:St}{H:Hp}{s:T4}{p:Addr}{xs ys:List V}{c its':List T0}{n d:Nat}{f:Obj->Obj}(I:Inv X pins σ H s)(h:H p=some (.lst xs))
  (i:s.heap.get? p=some { cls:=.type "list",data:=.seq c.toArray n }) (g:f { cls:=.type "list",data:=.seq c.toArray n } = { cls:=.type "list",data:=.seq its'.toArray d }) (r:aY ys its') (hz:ys.length<=sizeLine) (t:Nat) :
  Inv X pins σ (upd H p (.lst ys)) { s with heap:=s.heap.update p f,toks:=t }:=by
 have e:(s.heap.update p f).get? p=some { cls:=.type "list",data:=.seq its'.toArray d }:=by
  rw[Heap.get?_update_self f i (by rw[g]<;>rfl),g]
 refine I.write (x:=p) (e:=p) (by rw[h];trivial) (.inl rfl) (λb u j q=>(Heap.get?_update_other _ _ (YT j)).trans q) ⟨_,e⟩ ?_;exact⟨hz,its',d,r,e⟩
def KP:V->V->V->Hp->(Hp->Prop)->Prop:=λo i v H Q=>∃p xs k j,o=.ref p/\i=.int k/\H p=some (.lst xs)/\ixN xs.length k=some j/\Q (upd H p (.lst (xs.set j v)))
theorem DR:IE X KP:=by
 intro pins s σ H o i v ov C u Q I y z A h;obtain⟨p,xs,k,j,rfl,rfl,w,x,q⟩:=h;cases y;obtain⟨t,rfl⟩:=z;obtain⟨c,n,r,d,B⟩:=I.lst w;obtain⟨h1,h2,m,g⟩:=A6 x;have e:=r.length;have D:=oK;have l:Inv X pins σ (upd H p (.lst (xs.set j v))) { s with heap:=s.heap.update p (Obj.mapSeq (·.setIfInBounds j u)) } :=
  I.lstUpd w d (zm c n j u) (r.set A j) (by rw[YG];exact B) s.toks
 by_cases h0:0<=k
 ·have f:k.toNat=j:=by
   rw[seqIndex_of h0 g]at h1;exact ZT h1
  exact PySem.W.ki_setAt d h0 (by omega) (by rw[yR,<-e];exact g) (by rw[f];exact⟨_,l,q⟩)
 ·have f:(k + (c.toArray.size:Int)).toNat=j:=by
   rw[seqIndex_neg (by omega) m]at h1;rw[yR,<-e];exact ZT h1
  exact PySem.W.ki_setBack d (by omega) (by rw[yR,<-e];exact m) (by omega) (by rw[f];exact⟨_,l,q⟩)
theorem vp (lo hi:Option Int)(n:Nat):(sliceBounds lo hi none n).1=((HT.sIx n 0 lo:Nat):Int)/\(sliceBounds lo hi none n).2.1=((HT.sIx n n hi:Nat):Int)/\(sliceBounds lo hi none n).2.2=1:=by
 refine⟨?_,?_,rfl⟩
 ·cases lo with
  | none=>simp[sliceBounds,HT.sIx]
  | some i =>
   simp only[sliceBounds,HT.sIx,Option.getD_none,show (1:Int) > 0 by decide,YL]
   by_cases h:i < 0
   ·simp only[h,YL]<;>omega
   ·simp only[h,YQ]<;>omega
 ·cases hi with
  | none=>simp[sliceBounds,HT.sIx]
  | some i =>
   simp only[sliceBounds,HT.sIx,Option.getD_none,show (1:Int) > 0 by decide,YL]
   by_cases h:i < 0
   ·simp only[h,YL]<;>omega
   ·simp only[h,YQ]<;>omega
theorem tq (c:List T0)(lo hi:Option Int):slicePick c.toArray lo hi none=((c.drop (HT.sIx c.length 0 lo)).take (HT.sIx c.length c.length hi - HT.sIx c.length 0 lo)).toArray:=by
 obtain⟨h1,h2,d⟩:=vp lo hi c.toArray.size;unfold slicePick;rw[h1,h2,d];simp only[sliceRange_one,pick_run,yR]<;>rfl
def KQ (K:ZX):V->Option Int->Option Int->Hp->VK->Prop:=λx lo hi H Q=>∃a xs,x=.ref a/\SqL K H a xs/\∀p,H p=none->Q (.ref p) (upd H p (.lst (qP xs lo hi)))
theorem Gn:SlR X (KQ X.K):=by
 intro pins s σ H x v p n lo hi sl Q I j e g f h;obtain⟨a,xs,rfl,i,q⟩:=h;cases j;obtain⟨k,r,d,l⟩:=I.list i;have c:=r.length;refine⟨"list",_,slot_list_getitem.lookup,d.isList.typeIs,?_⟩;refine wpAny_getItem_list_slice d.isList e g f .none (by simp) ?_ (by rw[yR]<;>omega);rw[tq,<-c];refine⟨.ref s.heap.objs.size,_,I.laid (t':=s.toks) (o:=.lst (qP xs lo hi)) (λb m q=>ZH _ q) (ZL _) ?_,rfl,q _ (I.hok.fresh (ZL _))⟩;exact⟨ZM (pW xs lo hi) l,_,0,(r.drop (HT.sIx xs.length 0 lo)).take (HT.sIx xs.length xs.length hi - HT.sIx xs.length 0 lo),ZJ _ rfl⟩
def mH:V->Bool
 | .non=>true
 | .bl _=>true
 | .int _=>true
 | .str _=>true
 | _=>false
def eqV:V->V->Bool
 | .non,.non=>true
 | .bl a,.bl b=>a == b
 | .bl a,.int b=>(if a then 1 else 0) == b
 | .int a,.bl b=>a == (if b then 1 else 0)
 | .int a,.int b=>a == b
 | .str a,.str b=>a == b
 | _,_=>false
theorem IV {A:T5}{s:T4}{y x:V}{u v:T0}(f:bJ y u)(c:bJ x v)(g:mH y=true)(e:mH x=true):SeqAt.EqAt A s u v (eqV y x):=by
 cases y with
 | non =>
  cases f;cases x with
  | non=>cases c;exact SeqAt.EqAt.same _
  | bl b=>cases c;exact SeqAt.EqAt.none_bool b
  | int b=>obtain⟨t,rfl⟩:=c;exact SeqAt.EqAt.none_int b t
  | str b=>obtain⟨t,rfl⟩:=c;exact SeqAt.EqAt.none_str b t
  | _=>exact absurd (show false=true from e) wI
 | bl a =>
  cases f;cases x with
  | non=>cases c;exact SeqAt.EqAt.bool_none a
  | bl b=>cases c;exact SeqAt.EqAt.bool_bool a b
  | int b=>obtain⟨t,rfl⟩:=c;exact SeqAt.EqAt.bool_int a b t
  | str b=>obtain⟨t,rfl⟩:=c;exact SeqAt.EqAt.bool_str a b t
  | _=>exact absurd (show false=true from e) wI
 | int a =>
  obtain⟨d,rfl⟩:=f;cases x with
  | non=>cases c;exact SeqAt.EqAt.int_none a d
  | bl b=>cases c;exact SeqAt.EqAt.int_bool a d b
  | int b=>obtain⟨t,rfl⟩:=c;exact SeqAt.EqAt.int_int a d b t
  | str b=>obtain⟨t,rfl⟩:=c;exact SeqAt.EqAt.int_str a d b t
  | _=>exact absurd (show false=true from e) wI
 | str a =>
  obtain⟨d,rfl⟩:=f;cases x with
  | non=>cases c;exact SeqAt.EqAt.str_none a d
  | bl b=>cases c;exact SeqAt.EqAt.str_bool a d b
  | int b=>obtain⟨t,rfl⟩:=c;exact SeqAt.EqAt.str_int a d b t
  | str b=>obtain⟨t,rfl⟩:=c;exact SeqAt.EqAt.str_str a d b t
  | _=>exact absurd (show false=true from e) wI
 | _=>exact absurd (show false=true from g) wI
def eqU (x:V) (u:T0):Bool:=match u with
 | .none=>eqV .non x
 | .bool b=>eqV (.bl b) x
 | .int i _=>eqV (.int i) x
 | .str z _=>eqV (.str z) x
 | _=>false
theorem DS {x y:V}{u:T0}(r:bJ y u)(f:mH y=true):eqU x u=eqV y x:=by
 cases y with
 | non=>cases r;rfl
 | bl b=>cases r;rfl
 | int i=>obtain⟨t,rfl⟩:=r;rfl
 | str z=>obtain⟨t,rfl⟩:=r;rfl
 | _=>exact absurd (show false=true from f) wI
theorem nD {x:V}:∀{xs:List V} {c:List T0},aY xs c->xs.all mH=true->c.any (eqU x)=xs.any λy=>eqV y x
 | _,_,.nil,_=>rfl
 | y :: xs,u :: c,.cons r t,f=>by
  rw[X4,x8]at f;rw[X5,X5,DS r f.1,nD t f.2]
theorem lm {A:T5}{s:T4}{x:V}{v:T0}(e:bJ x v)(g:mH x=true):∀{xs:List V} {d:List T0},aY xs d->xs.all mH=true->∀u∈d,SeqAt.EqAt A s u v (eqU x u)
 | _,_,.nil,_=>λu c=>by cases c
 | y :: xs,u :: d,.cons r t,f=>λh c=>by
  rw[X4,x8]at f;rcases Y6.mp c with rfl|c
  ·rw[DS r f.1];exact IV r e f.1 g
  ·exact lm e g t f.2 h c
def inV (x:V) (xs:List V):Bool:=xs.any λy=>eqV y x
def rIn (K:ZX) (neg:Bool):R2:=λx y H Q=>∃p xs,y=.ref p/\(SqL K H p xs\/SqT K H p xs)/\mH x=true/\xs.all mH=true/\Q (.bl (if neg then !inV x xs else inV x xs)) H
theorem iq:OpR X (compareOp .In) (rIn X.K false):=by
 intro pins s σ H x y v u Q I g i h;obtain⟨p,xs,rfl,d,f,fs,q⟩:=h;cases i;rcases d with d|d
 ·obtain⟨c,r,e,j⟩:=I.list d
  refine SeqAt.in_listAt (eqU x) e.isList (λw hw=>lm g f r fs w (by simpa using hw)) ⟨.bl _,H,I,rfl,?_⟩;rw[show c.toArray.any (eqU x)=c.any (eqU x) by simp,nD r fs];exact q
 ·obtain⟨c,r,e,j⟩:=I.tuple d
  refine SeqAt.in_tupleAt (eqU x) e (λw hw=>lm g f r fs w (by simpa using hw)) ⟨.bl _,H,I,rfl,?_⟩;rw[show c.toArray.any (eqU x)=c.any (eqU x) by simp,nD r fs];exact q
theorem dM:OpR X (compareOp .NotIn) (rIn X.K true):=by
 intro pins s σ H x y v u Q I g i h;obtain⟨p,xs,rfl,d,f,fs,q⟩:=h;cases i;rcases d with d|d
 ·obtain⟨c,r,e,j⟩:=I.list d
  refine SeqAt.notIn_listAt (eqU x) e.isList (λw hw=>lm g f r fs w (by simpa using hw)) ⟨.bl _,H,I,rfl,?_⟩;rw[show c.toArray.any (eqU x)=c.any (eqU x) by simp,nD r fs];exact q
 ·obtain⟨c,r,e,j⟩:=I.tuple d
  refine SeqAt.notIn_tupleAt (eqU x) e (λw hw=>lm g f r fs w (by simpa using hw)) ⟨.bl _,H,I,rfl,?_⟩;rw[show c.toArray.any (eqU x)=c.any (eqU x) by simp,nD r fs];exact q
theorem vq:fO X (.builtin "len") (λxs H Q=>∃p ys,xs=[.ref p]/\(SqL X.K H p ys\/SqT X.K H p ys)/\Q (.int ys.length) H):=by
 intro pins s σ H xs k Q I r h;obtain⟨p,ys,rfl,d,q⟩:=h;obtain⟨u,rfl,i⟩:=xc r;cases i;have l:=oK;rcases d with d|d
 ·obtain⟨g,f,e,j⟩:=I.list d
  have c:=f.length;exact Calls.call_len_list e.isList (by simp only[yR]<;>omega) ⟨.int ys.length,H,I.tok _,⟨s.toks + 1,by rw[yR,c]⟩,q⟩
 ·obtain⟨g,f,e,j⟩:=I.tuple d
  have c:=f.length;exact len_tuple e (by simp only[yR]<;>omega) ⟨.int ys.length,H,I.tok _,⟨s.toks + 1,by rw[yR,c]⟩,q⟩
theorem vv:fO X (.type "list") (λxs H Q=>∃p ys,xs=[.ref p]/\(SqL X.K H p ys\/SqT X.K H p ys)/\∀l,H l=none->Q (.ref l) (upd H l (.lst ys))):=by
 intro pins s σ H xs y Q I r h;obtain⟨p,ys,rfl,j,q⟩:=h;obtain⟨u,rfl,x⟩:=xc r;cases x;have k:∀(c:List T0),aY ys c->ys.length<=sizeLine->∀(d:Heap) (g:Nat),(∀b o',s.heap.get? b=some o'->d.get? b=some o')->
   d.get? s.heap.objs.size=some { cls:=.type "list",dict:=none,data:=.seq c.toArray g,slots := #[] }->EP X pins σ Q (.ref s.heap.objs.size) { s with heap:=d }:=λc f t d g i e =>
  ⟨.ref s.heap.objs.size,_,I.laid (t':=s.toks) i (ZL _) (show ek X.prog X.w _ d _ (.lst ys) from ⟨t,c,g,f,e⟩),rfl,q _ (I.hok.fresh (ZL _))⟩
 rcases j with j|j
 ·obtain⟨c,f,v,t⟩:=I.list j
  have m:=f.length;obtain⟨o,w,hc,n,hd⟩:=v.isList;exact call_list_seq p (.inl rfl) w hc hd (λd g i e=>k c f t d g i e) (by simp only[yR]<;>omega)
 ·obtain⟨c,f,v,t⟩:=I.tuple j
  have m:=f.length;obtain⟨o,w,hc,n,hd⟩:=v;exact call_list_seq p (.inr rfl) w hc hd (λd g i e=>k c f t d g i e) (by simp only[yR]<;>omega)
theorem tw:fO X (.type "tuple") (λxs H Q=>∃p ys,xs=[.ref p]/\((SqL X.K H p ys/\∀l,H l=none->Q (.ref l) (upd H l (.tup ys)))\/(SqT X.K H p ys/\Q (.ref p) H))):=by
 intro pins s σ H xs v Q I r h;obtain⟨p,ys,rfl,h⟩:=h;obtain⟨u,rfl,t⟩:=xc r;cases t;rcases h with ⟨hq,q⟩|⟨hq,q⟩
 ·obtain⟨c,g,f,k⟩:=I.list hq
  have j:=g.length;refine call_tuple_list f.isList (λd m => ?_) (by simp only[yR]<;>omega);have i:Inv X pins σ H { s with heap:=d }:=I.kept (t':=s.toks) m;have n:Inv X pins σ (upd H d.objs.size (.tup ys)) { s with heap:=d.push { cls:=.type "tuple",data:=.seq c.toArray } } :=
   i.laid (t':=s.toks) (λb o e=>ZH _ e) (ZL _) (show ek X.prog X.w _ _ _ (.tup ys) from ⟨k,c,g,IsTup.new _ _⟩)
  exact⟨.ref d.objs.size,_,n,rfl,q _ (i.hok.fresh (ZL _))⟩
 ·obtain⟨c,g,f,k⟩:=I.tuple hq
  exact call_tuple_same f ⟨.ref p,H,I,rfl,q⟩
def tyV (K:ZX) (T:String) (x:V) (H:Hp):Prop:=match x with
 | .str _=>T = "str"
 | .int _=>T = "int"
 | .ref p=>(T = "list"/\∃xs,SqL K H p xs)\/(T = "tuple"/\∃o,K.lookup p=some o/\o.cls=.type "tuple"/\o.dict=none)\/
   (T = "dict"/\((∃kvs,H p=some (.dK kvs))\/∃kvs,H p=some (.dT kvs)))\/(T = "set"/\∃S n,H p=some (.set S n))
 | _=>False
theorem IW {pins:List (Addr × Obj)}{σ:St}{H:Hp}{s:T4}{T:String}{x:V}{v:T0}(I:Inv X pins σ H s)(r:bJ x v)(ty:tyV X.K T x H) :
  s.TypeIs v T/\∀a,v=.ref a->∃f,s.heap.get? a=some f/\f.dict=none:=by
 cases x with
 | str z =>
  obtain⟨t,rfl⟩:=r;cases (show T = "str" from ty);exact⟨typeIs_str s z t,λ_ e=>nomatch e⟩
 | int i =>
  obtain⟨t,rfl⟩:=r;cases (show T = "int" from ty);exact⟨typeIs_int s i t,λ_ e=>nomatch e⟩
 | ref p =>
  cases r;rcases ty with ⟨rfl,xs,hq⟩|⟨rfl,o,hk,hc,hd⟩|⟨rfl,hk⟩|⟨rfl,S,n,hk⟩
  ·obtain⟨h,_,g,_⟩:=I.list hq
   refine⟨g.isList.typeIs,λa e => ?_⟩;cases e;obtain⟨o,n,e,c,hd,_⟩:=g;exact⟨o,e,hd⟩
  ·refine⟨⟨o,I.kIn p o hk,hc⟩,λa e => ?_⟩
   cases e;exact⟨o,I.kIn _ o hk,hd⟩
  ·have z:∃o,s.heap.get? p=some o/\o.ExactDict:=by
    rcases hk with ⟨kvs,hk⟩|⟨kvs,hk⟩
    ·obtain⟨_,_,_,_,o,_,_,e,ex,_⟩:=I.hok p _ hk
     exact⟨o,e,ex⟩
    ·obtain⟨_,_,_,_,o,_,_,e,ex,_⟩:=I.hok p _ hk
     exact⟨o,e,ex⟩
   obtain⟨o,e,ex⟩:=z;refine⟨⟨o,e,ex.1⟩,λa d => ?_⟩;cases d;exact⟨o,e,ex.2.1⟩
  ·obtain⟨o,_,_,_,e,ex,_⟩:=I.hok p _ hk
   refine⟨⟨o,e,ex.1⟩,λa d => ?_⟩;cases d;exact⟨o,e,ex.2.1⟩
 | _=>exact False.elim ty
def tBM (K:ZX) (T:String) (r:V->List V->Hp->VK->Prop) (to:TE) (t:TA):TE:=λσ H Q=>to σ H λx H1=>tyV K T x H1/\t σ H1 λxs H2=>r x xs H2 Q
variable {o e:Expr} {es:List Expr} {to:TE} {t:TA} {name:Str} {apos cpos:Pos} {T id:String} {r:V->List V->Hp->VK->Prop}
theorem KR (q:PlainAttrs T) (slot:Slot T name id) (i:typeOf (.builtin id)=pure (.type "method_descriptor")) (hm:MtR X id r) (u:PE X o to) (y:PA X (e :: es) t)
  (f:attributeBase o name X.env (eval o X.env)=eval o X.env:=by rfl)
  (g:((backTo cpos (starEach (e :: es) X.env)).all (λx => !x.1) && (backToKw cpos (keywordEach [] X.env)).all (λx=>x.1.isSome)
   && decide ((e :: es).length + ([] : List Keyword).length + (if ([] : List Keyword).isEmpty then 0 else 1) < 30))=true:=by rfl)
  (d:(apos.endLine == cpos.line)=true:=by rfl) (m:starEach (e :: es) X.env=(false,eval e X.env) :: starEach es X.env:=by rfl) (c:(backTo cpos (starEach es X.env)).any (·.1)=false:=by rfl) :
  PE X (.Call (.Attribute o name apos) (e :: es) [] cpos) (tBM X.K T r to t):=by
 intro pins s σ H Q I h;refine wpAny_Call_method_late f g d rfl (thn (u pins s σ H _ I h) λv p ⟨x,H1,l,k,ty,q1⟩ => ?_);obtain⟨h1,h2⟩:=IW l k ty;refine⟨T,id,q,slot,i,h1,h2,?_⟩;have j:=y cpos pins p σ H1 _ l q1;rw[m]at j ⊢;refine Calls.callWith_builtin (by show (false || (backTo cpos (starEach es X.env)).any (·.1))=false;rw[c]<;>rfl) (Calls.evalArgs_plain ?_);exact thn j λn C ⟨B,A,w,z,q2⟩=>hm pins C σ A x B v n Q w k z q2
end
def MtM (X:Cx) (id:String) (r:V->List V->Hp->VK->Prop):Prop :=
 ∀(pins:List (Addr × Obj)) (s:T4) (σ:St) (H:Hp) (x:V) (xs:List V) (v:T0) (us:List T0) (Q:VK),Inv X pins σ H s->bJ x v->aY xs us->r x xs H Q->
  wpAny (model X.prog X.w) X.A (call (.builtin id) (v :: us)) (EP X pins σ Q) X.xe s
theorem aY.one {x:V}{a:List T0}(h:aY [x] a):∃u,a=[u]/\bJ x u:=by
 cases h with
 | cons r t=>cases t;exact⟨_,rfl,r⟩
theorem aY.two {x y:V}{a:List T0}(h:aY [x,y] a):∃u v,a=[u,v]/\bJ x u/\bJ y v:=by
 cases h with
 | cons r t =>
  cases t with
  | cons q t=>cases t;exact⟨_,_,rfl,r,q⟩
theorem aY.rep {xs:List V}{a:List T0}(h:aY xs a):∀k:Nat,aY (List.replicate k xs).flatten (List.replicate k a).flatten
 | 0=>.nil
 | k + 1=>by
  rw[YE,YE,Y9,Y9];exact aY.append h (aY.rep h k)
theorem um (b:List T0):∀(k:Nat) (a:List T0),
  List.foldl (λx1 c=>x1++c) a.toArray (List.replicate k b.toArray)=(a++(List.replicate k b).flatten).toArray
 | 0,a=>by simp
 | k + 1,a=>by
  have e:a.toArray++b.toArray=(a++b).toArray:=by simp
  have d:(a++b)++(List.replicate k b).flatten=a++(List.replicate (k + 1) b).flatten:=by
   rw[YE,Y9,ZU]
  rw[<-d,<-um b k (a++b),<-e,YE,Y2]
section
variable {X:Cx} {pins:List (Addr × Obj)} {σ:St} {H:Hp} {s:T4} {l b:Addr} {xs ys zs:List V}
theorem Inv.lset {a its':List T0}{n:Nat}{f:Array T0->Array T0}{t':Nat}(I:Inv X pins σ H s)(c:H l=some (.lst xs))
  (e:s.heap.get? l=some { cls:=.type "list",data:=.seq a.toArray n }) (d:f a.toArray=its'.toArray) (i:aY ys its') (hz:ys.length<=sizeLine) :
  Inv X pins σ (upd H l (.lst ys)) { s with heap:=s.heap.update l (Obj.mapSeq f),toks:=t' }:=by
 have q:=PySem.IsL.update e f;rw[d]at q;refine I.write (x:=l) (e:=l) (by rw[c];exact trivial) (.inl rfl) (λj u g h=>(Heap.get?_update_other s.heap (Obj.mapSeq f) (YT g)).trans h) ⟨_,q⟩ ?_;exact⟨hz,its',_,i,q⟩
theorem Inv.lnew {a:List T0}{t':Nat}(I:Inv X pins σ H s)(c:aY ys a)(hz:ys.length<=sizeLine) :
  Inv X pins σ (upd H s.heap.objs.size (.lst ys)) { s with heap:=s.heap.push { cls:=.type "list",data:=.seq a.toArray },toks:=t' } :=
 I.laid (λ_ _ q=>ZH _ q) (ZL _) ⟨hz,a,0,c,ZJ _ rfl⟩
theorem Inv.fresh (I:Inv X pins σ H s):H s.heap.objs.size=none:=I.hok.fresh (ZL _)
theorem Inv.lstM (I:Inv X pins σ H s) (c:H l=some (.lst xs)):xs.length<=sizeLine/\∃(a:List T0) (n:Nat),aY xs a/\xs.length=a.length/\s.heap.get? l=some { cls:=.type "list",data:=.seq a.toArray n }:=by
 obtain⟨z,a,n,r,e⟩:=I.hok l _ c;exact⟨z,a,n,r,r.length,e⟩
theorem DT {n:Nat}(h:n<=sizeLine):Builtin.List.listTooLong n=false:=by
 unfold Builtin.List.listTooLong;exact y3 (by omega)
end
section
variable {X:Cx}
def Gp:V->List V->Hp->VK->Prop:=λx vs H Q=>∃l xs y,x=.ref l/\vs=[y]/\H l=some (.lst xs)/\xs.length < sizeLine/\Q .non (upd H l (.lst (xs++[y])))
theorem uo:MtM X "list.append" Gp:=by
 intro pins s σ H x j v g Q I d f h;obtain⟨l,xs,y,rfl,rfl,b,k,q⟩:=h;cases d;obtain⟨u,rfl,c⟩:=f.one;obtain⟨z,a,n,r,i,e⟩:=I.lstM b;refine call_meets F.slot_list_append ⟨_,e,rfl⟩ F.entry_list_append (F.args_list_append_2 _ _) (PySem.list_append l a.toArray n u (by rw[yR];omega)) ⟨e,?_⟩;refine⟨.non,_,I.lset (its':=a++[u]) b e (by simp) (r.append (.cons c .nil)) ?_,rfl,q⟩;rw[ZB,WJ];omega
def Mf:R2:=λx y H Q=>∃l b xs zs,x=.ref l/\y=.ref b/\H l=some (.lst xs)/\H b=some (.lst zs)/\xs.length + zs.length<=sizeLine/\∀p,H p=none->Q (.ref p) (upd H p (.lst (xs++zs)))
theorem IX:OpR X (binaryOp .Add) Mf:=by
 intro pins s σ H x y v u Q I i f h;obtain⟨l,b,xs,t,rfl,rfl,m,o,A,q⟩:=h;cases i;cases f;obtain⟨z,c,n,r,p,e⟩:=I.lstM m;obtain⟨w,a,n2,k,d,g⟩:=I.lstM o;refine PySem.P.add_list e g ?_ (by rw[yR,yR];omega);have j:c.toArray++a.toArray=(c++a).toArray:=by simp
 rw[j];exact⟨.ref _,_,I.lnew (t':=s.toks) (r.append k) (by rw[ZB];omega),rfl,q _ I.fresh⟩
def Mg:R2:=λx y H Q=>∃l k xs,x=.ref l/\y=.int k/\H l=some (.lst xs)/\-(2 ^ 63)<=k/\k < 2 ^ 63/\xs.length * k.toNat<=sizeLine/\
 ∀p,H p=none->Q (.ref p) (upd H p (.lst (List.replicate k.toNat xs).flatten))
theorem Gq {α : Type}(xs:List α)(k:Nat):(List.replicate k xs).flatten.length=k * xs.length:=by
 induction k with
 | zero=>simp
 | succ k ih=>rw[YE,Y9,ZB,ih,Nat.succ_mul,Nat.add_comm]
theorem IY:OpR X (binaryOp .Mult) Mg:=by
 intro pins s σ H x y v u Q I B p h;obtain⟨l,k,xs,rfl,rfl,D,h1,h2,o,q⟩:=h;cases B;obtain⟨t,rfl⟩:=p;obtain⟨z,b,n,r,w,e⟩:=I.lstM D;have i:b.toArray.size * k.toNat<=sizeLine:=by rw[yR,<-w];exact o
 have f : ¬b.toArray.size * k.toNat > (2 ^ 63 - 1) / 8:=by
  have:(sizeLine:Nat)<=(2 ^ 63 - 1) / 8:=by decide
  omega
 have d : ¬(!Builtin.List.listFitsIndex k)=true:=by
  rw[fitsIndex_both h1 h2];exact wI
 have c : ¬Builtin.List.listTooLong (b.toArray.size * k.toNat)=true:=by
  rw[DT i];exact wI
 have g:List.foldl (λx1 j=>x1++j) #[] (List.replicate (if b.toArray.isEmpty=true then 0 else k.toNat) b.toArray)=(List.replicate k.toNat b).flatten.toArray:=by
  have A:∀m:Nat,List.foldl (λx1 j=>x1++j) #[] (List.replicate m b.toArray)=(List.replicate m b).flatten.toArray:=λm=>by
   have:=um b m [];rw[List.nil_append]at this;exact this
  rw[A];cases b with
  | nil=>simp
  | cons a r'=>rw[z5 (by simp)]
 refine wpAny_binaryOp_repeat_ref (T := "list") (U := "int") (by decide) ⟨_,e,rfl⟩ (λC=>typeIs_int C k t) noFill_list_mul F.fills_int_mul F.slot_int_rmul repeat_list F.slot_int_index.lookup
  (call_meets F.slot_int_rmul (typeIs_int s k t) F.entry_int_rmul (F.args_int_rmul_2 _ _) (int___rmul___int_list k t l b.toArray n)
   ⟨e,rfl,⟨_,e,rfl⟩,call_meets F.slot_list_mul ⟨_,e,rfl⟩ F.entry_list_mul (F.args_list_mul_2 _ _) (AutoListH.list___mul___list_int_3 l b.toArray n k t d f c) ⟨e,?_⟩⟩)
 rw[g];exact⟨.ref _,_,I.lnew (t':=s.toks) (r.rep k.toNat) (by rw[Gq,Nat.mul_comm];exact o),rfl,q _ I.fresh⟩
end
section
variable {prog:T6} {w:T7} {A:T5} {E:T0->T4->Prop} {s:T4}
end
section
variable {X:Cx}
end
end L2
namespace Att
open PySem PySem.W PySem.Calls PyProof.Rows
theorem qj {P:Params}{h:Heap}:∀(ns:List Int) (c:List T0),WellAll P h c (ns.map WData.int)->IntsAre c ns:=by
 intro ns
 induction ns with
 | nil =>
  intro c w;rw[W8]at w;cases w;exact .nil
 | cons n ns ih =>
  intro c w;rw[yP]at w;cases w with
  | cons a b =>
   cases a;exact .cons _ _ (ih _ b)
theorem Cf {l:OpenLaw}{n:Nat}(o:l.most=some n){P:Params}{h:Heap}{args:List WData}{c:List T0}
  (b:l.row.toRowW.claim.pre args=true) (i:WellAll P h c args) :
  ∃a k ns,c=[Value.ref a]/\args=[WData.list (ns.map WData.int)]/\h.get? a=some { cls:=.type "list",data:=.seq k.toArray }/\IntsAre k ns/\ns.length<=n:=by
 have j:WShape.hasAll [] args [.list .int] = true:=(pre_splitW b).1;have hc:l.pre.holds [] { args:=args } = true:=(pre_splitW b).2;obtain⟨d,r,rfl,h1,h2⟩:=hasAllW_cons j;obtain rfl:=hasAllW_nil h2;obtain⟨xs,rfl,m⟩:=hasW_list h1;obtain⟨ns,rfl⟩:=items_int m;have e:ns.length<=n:=by
  unfold OpenLaw.pre at hc;have f:(WTm.not (.lt (.lit (.int (n:Int))) (.len (.arg 0)))).holds [] { args:=[.list (ns.map .int)] } = true:=by
   have f:=(holds_andW hc).1;rw[o]at f;exact f
  have g:=condW_of f (w_not (w_lt w_lit (w_len_list (w_arg rfl))));rw[ZA]at g;refine WQ λq => ?_;have p:(n:Int) < ((ns.length:Nat):Int):=by omega
  first
   | (rw[yQ p]at g;exact absurd g (by decide))
   | (simp at g;omega)
 cases i with
 | cons w1 w2 =>
  cases w2;cases w1 with
  | list ho hall=>exact⟨_,_,ns,rfl,rfl,ho,qj ns _ hall,e⟩
theorem Cg (l:OpenLaw)(args:List WData):l.row.toRowW.claim.post args (.bool true) args=true :=
 postW_of (r:=l.row.toRowW) (X:=(true == true))
  (show WShape.has [] (.bool true) .bool=true by first|rfl|decide|simp[WShape.has,WShape.arms,WShape.armsAll])
  (show (WTm.eq .res (.lit (.bool true))).value [] { args:=args,res:=some (.bool true),after:=args } = some (.bool (true == true)) from w_eq_bool (w_res rfl) w_lit) rfl
theorem attach_call {l:OpenLaw}{n:Nat}{q:T6}{c:List Str}{XP:(Str->Option T0)->Heap->Prop}{x:T7->Heap->Prop}{d:DefRec}
  (K:l.most=some n) (u:d.params.defaults=[])
  (call:∀(w:T7) (s₀ b : T4) (mg s:Str->Option T0) (fa:Addr) (o:Obj) (pm m g:T0) (a:Addr) (vs:List T0) (ns:List Int),
   Ground q c [] XP w s₀ mg s b.heap->x w b.heap->
   b.heap.get? fa=some o->o.data=.func (docDef d.name d.params d.body d.scope pm m g)->b.heap.CodeRec m d.name->mg d.name=some (.ref fa)->
   b.heap.get? a=some { cls:=.type "list",data:=.seq vs.toArray }->IntsAre vs ns->ns.length<=n->b.gens = #[]->
   codeAny (model l.prog w) callerA (.call (.ref fa) ⟨[.ref a],[]⟩) (λr k=>r=.ok (.ret (.bool true))/\OldK b.heap k.heap/\k.os=b.os/\AllBare k.gens) b) :
  WalkO q c XP x l.row.toRowW d [] (λf vs=>PySem.call f vs):=by
 intro w s₀ b mg s G Y fa o pm m g D kV I hd t y hmg L A z M h v H p B;obtain rfl:D=.none:=Dflts.none y u;obtain rfl:kV=.none:=Dflts.noKw y;obtain⟨a,vs,ns,rfl,rfl,i,e,j⟩:=Cf K h p;refine enter_call (W7 (call w s₀ b mg s fa o pm m g a vs ns G Y I (fd_plain hd) t hmg i e j L) λr k F => ?_);obtain⟨rfl,h2,J,C⟩:=F;exact⟨.inl ⟨.bool true,.bool true,[],rfl,λ_=>rfl,.bool true,Cg l _,λ_=>⟨List.Pairwise.nil,λ_ E=>(nomatch E)⟩⟩,h2,J,C⟩
section
variable {prog:T6} {w:T7} {A:T5} {E:T0->T4->Prop} {s:T4} {K:Frag}
def noObjs (h:Heap):Heap:={ h with objs := #[] }
theorem noObjs_get (h:Heap)(b:Addr):(noObjs h).get? b=none:=by
 cases e:(noObjs h).get? b with
 | none=>rfl
 | some o=>exact absurd (ZI e) (YB _)
def ledger (h:Heap) (L d:Addr):List (Addr × Obj):=(List.range h.objs.size).filterMap λa=>if a=L\/a=d then none else (h.get? a).map λo=>(a,o)
theorem mem_ledger {h:Heap}{L d a:Addr}{o:Obj}:(a,o)∈ledger h L d ↔ a≠L/\a≠d/\h.get? a=some o:=by
 unfold ledger;rw[List.mem_filterMap];constructor
 ·rintro⟨b,_,e⟩
  split at e
  ·cases e
  ·rename_i hb
   obtain⟨o',c,f⟩:=Option.map_eq_some_iff.mp e;cases f;exact⟨λq=>hb (.inl q),λq=>hb (.inr q),c⟩
 ·rintro⟨n1,n2,c⟩
  refine⟨a,List.mem_range.mpr (ZI c),?_⟩;rw[z5 (show ¬(a=L\/a=d) from λq=>q.elim n1 n2),c]<;>rfl
theorem fr_all {h:Heap}{L:Addr}{m:Str->Option T0}(n:h.Ns L m):Fr (noObjs h) L h m :=
 ⟨n,λb o e=>(by rw[noObjs_get]at e;cases e),Z8 _⟩
end
end Att
namespace L2
open PySem PySem.Spec PyProof.Rows
theorem uq:∀{a:List T0} {ns:List Int},IntsAre a ns->aY (ns.map V.int) a
 | _,_,.nil=>.nil
 | _,_,.cons n t h=>.cons ⟨t,rfl⟩ (uq h)
def IZ (H:Hp):Prop:=∀b,H b=none\/∃o xs,H b=some (.frz o (.lst xs))
theorem DU {P:T6}{w:T7}{K:ZX}{mg L:Str->Option T0}{CX:CXT}{k:Nat}{fa a:Addr}{fd:FuncData}{x:Str}{sp:Sp}{c : T4}{vs:List T0}{ns:List Int}
  (KX:K.In c.heap) (C:c.heap.Ns mainGlobals mg) (g:c.heap.Ns builtinsNs L) (M:∀x:Str,x ≠ "__name__"->L x=bootBuiltins x) (A:c.heap.NoLimit) (hg:c.gens = #[])
  (E:c.heap.get? a=some { cls:=.type "list",data:=.seq vs.toArray }) (hi:IntsAre vs ns) (R:ns.length<=sizeLine) (W:iW k callerA)
  (F:∀base:Heap,K.In base->base.Ns mainGlobals mg->bW P w K mg base CX k fa fd [x] sp) (p:∀(s:T4) (u:T0),BindsTo s fd ⟨[u],[]⟩ [(x,u)])
  (I:∀H:Hp,IZ H->SqL K H a (ns.map V.int)->sp [.ref a] H (λv _=>v=.bl true) λ_ _ _=>False)
  (N:∀H e i,CX [] H c (λ_ _ _=>False) e i->False) :
  codeAny (model P w) callerA (.call (.ref fa) ⟨[.ref a],[]⟩) (λr i=>r=.ok (.ret (.bool true))/\OldK c.heap i.heap/\i.os=c.os/\AllBare i.gens) c := by
 have S:=uq hi;have B:=hi.length;have l:∀H:Hp,IZ H->SqL K H a (ns.map V.int)->HOk P w H c.heap->(∀b,H b≠none->b=a)->(H a≠none->K.lookup a=none)->
   codeAny (model P w) callerA (.call (.ref fa) ⟨[.ref a],[]⟩) (λr i=>r=.ok (.ret (.bool true))/\OldK c.heap i.heap/\i.os=c.os/\AllBare i.gens) c := by
  intro H O hS hok Q Y;have f:∀{b:Addr} {o:Obj},c.heap.get? b=some o->H b=none->(vh c.heap H).get? b=some o:=λe n=>DA e n;have G:∀{b:Addr} {o:Obj} {es:Array DictEntry} {ep:Nat},c.heap.get? b=some o->o.data=.dict es ep->H b=none:=λ{b o es ep} e d=>by
   cases q:H b with
   | none=>rfl
   | some u =>
    have J:b=a:=Q b (by rw[q];simp);subst J;rw[E]at e;cases e;have d':Data.seq vs.toArray _=Data.dict es ep:=d;cases d'
  have j:∀{b:Addr} {m:Str->Option T0},c.heap.Ns b m->(vh c.heap H).Ns b m:=λ{b m} ⟨o,es,ep,e,d,r⟩=>⟨o,es,ep,f e (G e d),d,r⟩;have y:K.In (vh c.heap H):=λb o e=>f (KX b o e) (by
   cases q:H b with
   | none=>rfl
   | some u =>
    have J:b=a:=Q b (by rw[q];simp);subst J;rw[Y (by rw[q];simp)]at e;cases e)
  have hM:Mod K mg (vh c.heap H):=⟨y,j C,⟨L,j g,M⟩,let ⟨mc,h1,h2⟩:=A;⟨mc,j h1,h2⟩⟩;have e0:Gg P w K mg (vh c.heap H) callerA [] c H:=⟨rfl,hM,λb o e=>F3 e,Nat.le_of_eq (B8 _ _),trivial,λb g=>absurd (show b∈([] : List Addr) from g) (by simp),hok,.of_eq hg⟩;refine W7 ((F _ y (j C)).run callerA [] c H ⟨[.ref a],[]⟩ [.ref a] [.ref a] _ _ W e0 (p c (.ref a)) (.cons rfl .nil) (I H O hS)) λr i h => ?_;cases r with
  | error e=>exact(N H e i h).elim
  | ok fl =>
   cases fl with
   | next=>exact False.elim h
   | brk=>exact False.elim h
   | cont=>exact False.elim h
   | ret u =>
    obtain⟨v,H',os,bare,U,t,Z,q⟩:=h;have q':v=.bl true:=q;subst q';obtain rfl:u=Value.bool true:=Z;refine⟨rfl,OldK.of_keep λb o e => ?_,os,bare⟩;cases q:H b with
    | none=>exact U.keep b o e q (by intro z;exact absurd (show b∈([] : List Addr) from z) (by simp)) (by simp)
    | some u =>
     rcases O b with z|⟨ob,xs,z⟩
     ·rw[q]at z;cases z
     ·have z2:=U.frzs b ob _ z
      obtain⟨T,_⟩:=hok b _ z;obtain⟨X,_⟩:=t b _ z2;rw[e]at T;cases T;exact X
 cases hk:K.lookup a with
 | some o =>
  have e:=KX a o hk;rw[E]at e;cases e;refine l (λ_=>none) (λ_=>.inl rfl) (.inr ⟨_,vs.toArray,_,hk,rfl,rfl,rfl,by rw[yR,B];exact R,by simpa using S⟩) (λb u z=>by have D:(none:Option HO)=some u:=z;cases D) (λb z=>absurd rfl z) λz=>absurd rfl z
 | none =>
  refine l (λb=>if b=a then some (.frz { cls:=.type "list",data:=.seq vs.toArray } (.lst (ns.map V.int))) else none) (λb => ?_) (.inl (.inr ⟨{ cls:=.type "list",data:=.seq vs.toArray },z4 rfl⟩)) (λb u z => ?_) (λb z => ?_) λ_=>hk
  ·by_cases g:b=a
   ·exact .inr ⟨_,_,z4 g⟩
   ·exact .inl (z5 g)
  ·by_cases g:b=a
   ·have D:=(z4 g).symm.trans z
    cases D;subst g;exact⟨E,by rw[ZA];exact R,vs,_,S,E⟩
   ·have D:=(z5 g).symm.trans z
    cases D
  ·by_cases g:b=a
   ·exact g
   ·exact absurd (z5 g) z
theorem Gr {l:PySem.W.OpenLaw}{n k:Nat}{q:T6}{c:List Str}{XP:(Str->Option T0)->Heap->Prop}{A:T7->Heap->Prop}{d:DefRec}{K:Params->ZX}{CX:T7->CXT}{sp:T7->Sp}{x:Str}
  (L:l.most=some n) (m:n<=sizeLine) (y:d.params.defaults=[]) (D:iW k callerA)
  (C:∀(w:T7) (h:Heap),A w h->(K w.params).In h)
  (F:∀(w:T7) (mg:Str->Option T0) (fa:Addr) (h:Heap),(K w.params).In h->h.Ns mainGlobals mg->mg d.name=some (.ref fa)->
   ∃fd:FuncData,(∀(s:T4) (u:T0),BindsTo s fd ⟨[u],[]⟩ [(x,u)])/\
    ∀base:Heap,(K w.params).In base->base.Ns mainGlobals mg->bW l.prog w (K w.params) mg base (CX w) k fa fd [x] (sp w))
  (p:∀(w:T7) (H:Hp) (a:Addr) (ns:List Int),ns.length<=n->IZ H->SqL (K w.params) H a (ns.map V.int)->sp w [.ref a] H (λv _=>v=.bl true) λ_ _ _=>False)
  (t:∀(w:T7) (H:Hp) (s:T4) (e:T0) (r:T4),CX w [] H s (λ_ _ _=>False) e r->False) :
  PySem.W.WalkO q c XP A l.row.toRowW d [] (λf B=>PySem.call f B):=by
 refine Att.attach_call L y λw z i mg R fa o S T M a B ns G Y Q hd J hmg j g b P => ?_;have KX:=C w _ Y;obtain⟨fd,N,I⟩:=F w mg fa _ KX G.T.g hmg;exact DU KX G.T.g G.T.b G.T.builtins G.T.nolimit P j g (ZM b m) D I N (λH E O=>p w H a ns b E O) λH e r=>t w H i e r
def ez (s:Stmt):Arguments:=match s with
 | .FunctionDef _ a _ _ _ _ _ _ _ _=>a
 | _=>{ posonlyargs:=[],args:=[],vararg:=none,kwonlyargs:=[],kw_defaults:=[],kwarg:=none,defaults:=[] }
def dN (s:Stmt):List Stmt:=match s with
 | .FunctionDef _ _ b _ _ _ _ _ _ _=>b
 | _=>[]
def aw (s:Stmt):Scope:=match s with
 | .FunctionDef _ _ _ _ _ _ sc _ _ _=>sc
 | _=>{ kind:=.function,names:=[],isGenerator:=false,isCoroutine:=false }
abbrev CX0:CXT:=λ_ _ _ _ _ _=>False
abbrev E0:XK:=λ_ _ _=>False
theorem KS {X:Cx}:zh CX0 X E0:=λ_ _ _ _ _ _ _ h=>h.elim
structure Fun (K:ZX) (x qual:Str) (st:Stmt) (f:Addr) (fd:FuncData):Prop where
 ex:∃(oc:T0) (od:Option Addr) (kV doc pm:T0) (an:Option Addr) (cdv ct:T0) (osl:Array (Option T0)),
  fd=PySem.W.fnOf x qual (ez st) (dN st) (aw st) .none kV doc pm an cdv ct/\K.lookup f=some ⟨oc,od,.func fd,osl⟩/\PySem.W.codeIn K cdv qual=true
 kp:PySem.W.keepIn K (.ref f)=true
section
variable {P:T6} {w:T7} {K:ZX} {mg:Str->Option T0} {base:Heap}
theorem Fun.ok {x a:Str}{st:Stmt}{f:Addr}{fd:FuncData}{N ps:List Str}{k:Nat}{sp:Sp}(F:Fun K x a st f fd)(S:aP N ps (aw st))(len:∀vs H Q E,sp vs H Q E->vs.length=ps.length)
  (c:∀(b:T0) (A:T5) (outer:List Env) (s:T4) (H:Hp) (vs:List V) (Q:VK) (E:XK),iW k (A.deeper (envOfC a (aw st) s.heap.objs.size f b))->sp vs H Q E->
   ∃t,PSs (zi CX0 P w K mg base N a (aw st) f b A outer s H E).nox (dN st) t/\t { nx:=λ_ H'=>Q .non H',rt:=Q } (li N vs) H):bW P w K mg base CX0 (k + 1) f fd ps sp:=by
 obtain⟨o,n,kV,l,r,p,b,m,j,rfl,i,e⟩:=F.ex;refine KK i e S len λA outer s H vs Q E g d => ?_;obtain⟨t,h,q⟩:=c b A outer s H vs Q E g d;exact⟨t,h.nox,q⟩
theorem Fun.binds {x a:Str}{st:Stmt}{f:Addr}{fd:FuncData}{ps:List Str}(F:Fun K x a st f fd)
  (h:∀(kV b pm:T0) (e:Option Addr) (c ct:T0) (d:List T0),d.length=ps.length->bindArgs (PySem.W.fnOf x a (ez st) (dN st) (aw st) .none kV b pm e c ct) ⟨d,[]⟩ = pure (ps.zip d)):qN K fd ps []:=by
 obtain⟨l,k,kV,b,pm,e,c,ct,g,rfl,j,i⟩:=F.ex;exact .all (h kV b pm e c ct)
theorem DV {x a:Str}{st:Stmt}{f:Addr}{i:T0}{h g:Option Addr}{e:Array (Option T0)}{kV d pm b ct:T0}(l:K.lookup f=some ⟨i,h,.func (PySem.W.fnOf x a (ez st) (dN st) (aw st) .none kV d pm g b ct),e⟩)
  (c:PySem.W.codeIn K b a=true) (k:PySem.W.keepIn K (.ref f)=true):Fun K x a st f (PySem.W.fnOf x a (ez st) (dN st) (aw st) .none kV d pm g b ct):=⟨⟨i,h,kV,d,pm,g,b,ct,e,rfl,l,c⟩,k⟩
end
section
variable {X:Cx}
end
def kZ (H H':Hp):Prop:=∀b o,H b=some o->H' b=some o
theorem kZ.refl (H:Hp):kZ H H:=λ_ _ h=>h
end L2
namespace L2
open PySem PySem.Spec
structure Mh (h:Heap) (a D:Addr) (o:Obj):Prop where
 at_:h.get? a=some o
 cls:o.cls=.ref D
def KU (a C:Addr):HO:=.ext λh=>∃o,Mh h a C o
end L2
namespace Fm
inductive D where
 | non|bl (b:Bool)|int (i:Int)|str (x:List Nat)|tup (l:List D)|ref (n:Nat)|lit (l:List D)|exn (c:String) (l:List D)
deriving Inhabited
inductive aS where
 | lst (l:List D)|dct (l:List (Int × D))|dcT (l:List (List Int × D))
abbrev Hd:=List aS
inductive Res (α : Type) where
 | ok (a : α) (h:Hd)|exc (x:D) (h:Hd)|bad
def Res.bind {α β : Type} (r:Res α) (f : α->Hd->Res β):Res β := match r with
 | .ok a h=>f a h | .exc x h=>.exc x h | .bad=>.bad
@[simp] theorem aW {α β : Type} (a : α) (h:Hd) (f : α->Hd->Res β):(Res.ok a h).bind f=f a h:=rfl
abbrev Sd:=List (Option D)
abbrev EF:=Sd->Hd->Res D
abbrev TF:=Sd->Hd->Res Bool
abbrev LF:=Sd->Hd->Res (List D)
inductive Out where
 | nx (σ:Sd) (h:Hd)|rt (d:D) (h:Hd)|bk (σ:Sd) (h:Hd)|ct (σ:Sd) (h:Hd)|exc (x:D) (σ:Sd) (h:Hd)|bad
abbrev SF:=Sd->Hd->Out
abbrev Fn:=List D->Hd->Res D
abbrev SZ:Nat:=1000000
@[simp] def slot (σ:Sd) (i:Nat):Option D:=match σ[i]? with|some (some d)=>some d|_=>none
@[simp] def aa (i:Nat):EF:=λσ h=>match slot σ i with|some d=>.ok d h|none=>.bad
@[simp] def fC (d:D):EF:=λ_ h=>.ok d h
abbrev O2:=D->D->Hd->Res D
@[simp] def ag (g:O2) (a b:EF):EF:=λσ h=>(a σ h).bind λx h=>(b σ h).bind λy h=>g x y h
@[simp] def oI (g:Int->Int->Int):O2:=λx y h=>match x,y with | .int i,.int j=>.ok (.int (g i j)) h|_,_=>.bad
@[simp] def oB (g:Int->Int->Bool):O2:=λx y h=>match x,y with | .int i,.int j=>.ok (.bl (g i j)) h|_,_=>.bad
@[simp] def oIc (c:Int->Int->Bool) (g:Int->Int->Int):O2:=λx y h=>match x,y with | .int i,.int j=>if c i j then .ok (.int (g i j)) h else .bad|_,_=>.bad
def sml (i:Int):Bool:=decide (-18446744073709551616 < i) && decide (i < 18446744073709551616)
@[simp] def ei:O2:=λx y h=>match x,y with
 | .int i,.int j=>.ok (.int (i + j)) h
 | .tup (x :: xs),.tup ys=>if (x :: xs).length + ys.length<=SZ then .ok (.tup (x :: xs++ys)) h else .bad
 | _,_=>.bad
@[simp] def fL:O2:=λx y h=>(oI (· - ·)) x y h
@[simp] def cI:O2:=λx y h=>(oIc (λi j=>sml i || sml j) (· * ·)) x y h
@[simp] def dk:O2:=λx y h=>(oIc (λ_ j=>decide (0 < j)) (· % ·)) x y h
@[simp] def k7:O2:=λx y h=>(oIc (λ_ j=>decide (0 < j) && decide (j < 2 ^ 250)) (· / ·)) x y h
@[simp] def Mi:O2:=λx y h=>(oIc (λi j=>decide (0<=j) && decide (j<=1000000) && sml i) (λi j=>i ^ j.toNat)) x y h
@[simp] def oLt:O2:=λx y h=>(oB λi j=>decide (i < j)) x y h
@[simp] def oLe:O2:=λx y h=>(oB λi j=>decide (i<=j)) x y h
@[simp] def oGt:O2:=λx y h=>(oB λi j=>decide (j < i)) x y h
@[simp] def MK:D->Hd->Res D:=λx h=>match x with | .int i=>.ok (.int (-i)) h|_=>.bad
@[simp] def mI:D->Bool | .non=>true|_=>false
@[simp] def mD:O2:=λx y h=>if mI y then .ok (.bl (mI x)) h else .bad
@[simp] def iY:O2:=λx y h=>if mI y then .ok (.bl (!mI x)) h else .bad
@[simp] def b2i (b:Bool):Int:=if b then 1 else 0
mutual
def peq:D->D->Option Bool
 | .int i,k=>match k with | .int j=>some (decide (i=j)) | .bl c=>some (decide (i=b2i c)) | .non=>some false | .tup _=>some false|_=>none
 | .bl c,k=>match k with | .int j=>some (decide (b2i c=j)) | .bl d=>some (decide (c=d))|_=>none
 | .str x,k=>match k with | .str y=>some (decide (x=y))|_=>none
 | .non,k=>match k with | .non=>some true | .int _=>some false | .tup _=>some false|_=>none
 | .tup xs,k=>match k with | .tup ys=>(gS xs ys).map λb=>b && decide (xs.length=ys.length) | .non=>some false | .int _=>some false|_=>none
 | .ref _,_=>none
 | .lit _,_=>none
 | .exn _ _,_=>none
def gS:List D->List D->Option Bool
 | x :: xs,y :: ys=>match peq x y,gS xs ys with
  | some a,some b=>some (a && b)
  | _,_=>none
 | _,_=>some true
end
mutual
def dep:D->Nat
 | .tup l=>ji l + 1
 | _=>0
def ji:List D->Nat
 | []=>0
 | x :: xs=>max (dep x) (ji xs)
end
def eqL (xs ys:List D):Option Bool:=if ji xs<=20 then (if xs.length=ys.length then gS xs ys else some false) else none
@[simp] def dI (h:Hd):D->Option (List D)
 | .ref n=>match h[n]? with|some (.lst l)=>some l|_=>none
 | .lit l=>some l
 | _=>none
@[simp] def eqG (h:Hd) (x y:D):Option Bool:=match dI h x,dI h y with
 | some xs,some ys=>eqL xs ys
 | none,none=>if dep x<=20 then peq x y else none
 | _,_=>none
@[simp] def oEq:O2:=λx y h=>match eqG h x y with|some b=>.ok (.bl b) h|none=>.bad
@[simp] def oNe:O2:=λx y h=>match eqG h x y with|some b=>.ok (.bl (!b)) h|none=>.bad
@[simp] def eI:D->Bool
 | .non=>true | .bl _=>true | .int _=>true | .str _=>true|_=>false
@[simp] def eqF:D->D->Bool
 | .non,k=>match k with | .non=>true|_=>false
 | .bl a,k=>match k with | .bl b=>a == b | .int b=>b2i a == b|_=>false
 | .int a,k=>match k with | .bl b=>a == b2i b | .int b=>a == b|_=>false
 | .str a,k=>match k with | .str b=>a == b|_=>false
 | .tup _,_=>false
 | .ref _,_=>false
 | .lit _,_=>false
 | .exn _ _,_=>false
@[simp] def asB (r:Res D):Res Bool:=r.bind λx h=>match x with | .bl b=>.ok b h|_=>.bad
@[simp] def tE (a:EF):TF:=λσ h=>asB (a σ h)
@[simp] def cZ (t:TF):TF:=λσ h=>(t σ h).bind λb h=>.ok (!b) h
@[simp] def jF (t u:TF):TF:=λσ h=>(t σ h).bind λb h=>if b then u σ h else .ok false h
@[simp] def tOr (t u:TF):TF:=λσ h=>(t σ h).bind λb h=>if b then .ok true h else u σ h
@[simp] def fT (t:TF):EF:=λσ h=>(t σ h).bind λb h=>.ok (.bl b) h
@[simp] def fIf (t:TF) (a b:EF):EF:=λσ h=>(t σ h).bind λc h=>if c then a σ h else b σ h
@[simp] def qQ (g k:O2) (a b c:EF):EF:=λσ h=>(a σ h).bind λx h=>(b σ h).bind λy h=>(g x y h).bind λz h=>match z with
 | .bl true=>(c σ h).bind λw h=>k y w h
 | .bl false=>.ok (.bl false) h
 | _=>.bad
@[simp] def ao:LF:=λ_ h=>.ok [] h
@[simp] def ab (a:EF) (r:LF):LF:=λσ h=>(a σ h).bind λx h=>(r σ h).bind λxs h=>.ok (x :: xs) h
@[simp] def j0 (r:LF):EF:=λσ h=>(r σ h).bind λxs h=>if xs.length<=SZ then .ok (.tup xs) h else .bad
@[simp] def aG (r:LF):EF:=λσ h=>(r σ h).bind λxs h=>if xs.length<=SZ then .ok (.ref h.length) (h++[.lst xs]) else .bad
@[simp] def iZ (h:Hd):D->Option (List D)
 | .tup l=>some l
 | .lit l=>some l
 | .ref n=>match h[n]? with|some (.lst l)=>some l|_=>none
 | _=>none
@[simp] def lOf (a:EF):LF:=λσ h=>(a σ h).bind λx h=>match iZ h x with|some l=>.ok l h|none=>.bad
@[simp] def inL (h:Hd) (x y:D):Option Bool:=match iZ h y with
 | some l=>if eI x && l.all eI then some (l.any λz=>eqF z x) else none
 | none=>none
@[simp] def oIn:O2:=λx y h=>match inL h x y with|some b=>.ok (.bl b) h|none=>.bad
@[simp] def bY:O2:=λx y h=>match inL h x y with|some b=>.ok (.bl (!b)) h|none=>.bad
def ixN (n:Nat) (i:Int):Option Nat:=if 0<=i then (if i < n then some i.toNat else none) else if -(n:Int)<=i then some (i + n).toNat else none
def atI (xs:List D) (i:Int):Option D:=(ixN xs.length i).bind λj=>xs[j]?
@[simp] def fIx (a:LF) (b:EF):EF:=λσ h=>(a σ h).bind λl h=>(b σ h).bind λy h=>match y with
 | .int i=>match atI l i with|some d=>.ok d h|none=>.bad
 | _=>.bad
@[simp] def oAt:O2:=λx y h=>match iZ h x,y with
 | some l,.int i=>match atI l i with|some d=>.ok d h|none=>.bad
 | _,_=>.bad
@[simp] def fAt (a b:EF):EF:=λσ h=>ag oAt a b σ h
@[simp] def cB (a:LF):EF:=λσ h=>(a σ h).bind λl h=>.ok (.int l.length) h
def dm:List D->Option (List Int)
 | []=>some []
 | .int i :: r=>(dm r).map (i :: ·)
 | _=>none
@[simp] def qR (a:LF):EF:=λσ h=>(a σ h).bind λl h=>match dm l with|some is=>.ok (.int is.sum) h|none=>.bad
def fP:List D->Option (List Bool)
 | []=>some []
 | .bl b :: r=>(fP r).map (b :: ·)
 | _=>none
@[simp] def xg (a:LF):EF:=λσ h=>(a σ h).bind λl h=>match fP l with|some bs=>.ok (.bl (bs.all id)) h|none=>.bad
@[simp] def gJ (a:LF):EF:=λσ h=>(a σ h).bind λl h=>.ok (.tup l) h
@[simp] def zq (a:EF):EF:=λσ h=>(a σ h).bind λx h=>match x with | .int i=>.ok (.int i) h | .bl b=>.ok (.int (b2i b)) h|_=>.bad
inductive Ty where|int|bool|tuple|list|str
deriving DecidableEq
@[simp] def Ci (h:Hd) (t:Ty):D->Option Bool
 | .non=>some false
 | .bl _=>some (t == .bool || t == .int)
 | .int _=>some (t == .int)
 | .str _=>some (t == .str)
 | .tup _=>some (t == .tuple)
 | .lit _=>some (t == .list)
 | .ref n=>match h[n]? with|some (.lst _)=>some (t == .list)|some (.dct _)=>some false|some (.dcT _)=>none|none=>none
 | .exn _ _=>none
@[simp] def eT (t:Ty) (a:EF):EF:=λσ h=>(a σ h).bind λx h=>match Ci h t x with|some b=>.ok (.bl b) h|none=>.bad
def sIx (n d:Nat):Option Int->Nat
 | none=>d
 | some i=>if i < 0 then (i + n).toNat else min i.toNat n
def cut (l:List D) (lo hi:Option Int):List D:=(l.drop (sIx l.length 0 lo)).take (sIx l.length l.length hi - sIx l.length 0 lo)
abbrev OF:=Sd->Hd->Res (Option Int)
@[simp] def pNo:OF:=λ_ h=>.ok none h
@[simp] def pAt (a:EF):OF:=λσ h=>(a σ h).bind λx h=>match x with | .int i=>.ok (some i) h|_=>.bad
@[simp] def j5 (a:EF) (lo hi:OF):EF:=λσ h=>(a σ h).bind λx h=>(lo σ h).bind λi h=>(hi σ h).bind λj h=>match x with
 | .tup l=>if sIx l.length 0 i=0/\sIx l.length l.length j=l.length then .bad else .ok (.tup (cut l i j)) h
 | x=>match dI h x with|some l=>.ok (.ref h.length) (h++[.lst (cut l i j)])|none=>.bad
def cX:List Int->List Int->Bool
 | [],[]=>false
 | [],_ :: _=>true
 | _ :: _,[]=>false
 | x :: xs,y :: ys=>if x=y then cX xs ys else decide (x < y)
def Mj:List D->Option (List (List Int))
 | []=>some []
 | .tup l :: r=>match dm l,Mj r with|some a,some b=>some (a :: b)|_,_=>none
 | _=>none
@[simp] def au (F:Fn) (r:LF):EF:=λσ h=>(r σ h).bind λxs h=>F xs h
abbrev IF:=Sd->Hd->Res (List D × Option Nat)
@[simp] def bK (a:EF):IF:=λσ h=>(a σ h).bind λx h=>match x with
 | .int n=>if -1000000<=n/\n<=1000000 then .ok ((List.range n.toNat).map (λk:Nat=>.int k),none) h else .bad
 | _=>.bad
@[simp] def d7 (a:EF):IF:=λσ h=>(a σ h).bind λx h=>match x with
 | .tup l=>.ok (l,none) h
 | .lit l=>.ok (l,none) h
 | .ref n=>match h[n]? with|some (.lst l)=>.ok (l,some n) h|_=>.bad
 | _=>.bad
@[simp] def DW (a:EF):IF:=λσ h=>(a σ h).bind λx h=>match x with
 | .tup l=>.ok ((List.range l.length).zip l |>.map λp=>.tup [.int (p.1:Nat),p.2],none) h
 | _=>.bad
section
open Classical
def dH (g:Option Nat) (all:List D) (h:Hd):Prop:=match g with|none=>True|some n=>h[n]? = some (.lst all)
abbrev GF:=D->Sd->Option Sd
@[simp] def gN (i:Nat):GF:=λd σ=>some (σ.set i (some d))
@[simp] def gT (l:List Nat):GF:=λd σ=>match d with
 | .tup xs=>if xs.length=l.length then some ((l.zip xs).foldl (λσ p => σ.set p.1 (some p.2)) σ) else none
 | _=>none
@[simp] def ax (a b:SF):SF:=λσ h=>match a σ h with | .nx σ h=>b σ h|r=>r
@[simp] def br:SF:=λσ h=>.nx σ h
@[simp] def outE (r:Res D) (σ:Sd) (k:D->Hd->Out):Out:=match r with | .ok d h=>k d h | .exc x h=>.exc x σ h | .bad=>.bad
@[simp] def aQ (g:GF) (a:EF):SF:=λσ h=>outE (a σ h) σ λd h=>match g d σ with|some σ=>.nx σ h|none=>.bad
@[simp] def aZ (a:EF):SF:=λσ h=>outE (a σ h) σ λd h=>.rt d h
@[simp] def jG (a:EF):SF:=λσ h=>outE (a σ h) σ λ_ h=>.nx σ h
@[simp] def sIf (t:TF) (a b:SF):SF:=λσ h=>match t σ h with | .ok c h=>if c then a σ h else b σ h | .exc x h=>.exc x σ h | .bad=>.bad
@[simp] def Ja:SF:=λσ h=>.ct σ h
def nG:SF:=λ_ _=>.bad
@[simp] def nH (x i e:EF):SF:=λσ h=>outE (e σ h) σ λd h=>outE (x σ h) σ λp h=>outE (i σ h) σ λj h=>match p,j with
 | .ref n,.int j=>match h[n]? with
  | some (.lst l)=>match ixN l.length j with
   | some k=>.nx σ (h.set n (.lst (l.set k d)))
   | none=>.bad
  | _=>.bad
 | _,_=>.bad
@[simp] def Jb:O2:=λp d h=>match p with
 | .ref n=>match h[n]? with
  | some (.lst l)=>if l.length < SZ then .ok .non (h.set n (.lst (l++[d]))) else .bad
  | _=>.bad
 | _=>.bad
@[simp] def k8 (x e:EF):EF:=λσ h=>(x σ h).bind λp h=>match p with
 | .ref n=>match h[n]? with
  | some (.lst _)=>(e σ h).bind λd h=>Jb (.ref n) d h
  | _=>.bad
 | _=>.bad
def fM (g:Option Nat) (all:List D) (tg:GF) (b:SF):List D->SF
 | [],σ,h=>if dH g all h then .nx σ h else .bad
 | x :: xs,σ,h=>if dH g all h then match tg x σ with
   | some σ=>match b σ h with
    | .nx σ h=>fM g all tg b xs σ h
    | .ct σ h=>fM g all tg b xs σ h
    | .bk σ h=>.nx σ h
    | r=>r
   | none=>.bad
  else .bad
@[simp] def fN (it:IF) (tg:GF) (b:SF):SF:=λσ h=>match it σ h with
 | .ok (l,g) h=>fM g l tg b l σ h
 | .exc x h=>.exc x σ h
 | .bad=>.bad
def dP (t:TF) (b:SF):Nat->SF
 | 0,_,_=>.bad
 | n + 1,σ,h=>match t σ h with
  | .ok true h=>match b σ h with
   | .nx σ h=>dP t b n σ h
   | .ct σ h=>dP t b n σ h
   | .bk σ h=>.nx σ h
   | r=>r
  | .ok false h=>.nx σ h
  | .exc x h=>.exc x σ h
  | .bad=>.bad
def mE (t:TF) (b:SF):Sd->Hd->Nat:=λσ h=>if ex:∃n,dP t b n σ h ≠ .bad then Classical.choose ex else 0
def oO (t:TF) (b:SF):SF:=λσ h=>dP t b (mE t b σ h) σ h
@[simp] def iB:List TF->TF
 | [],_,h=>.ok true h
 | t :: r,σ,h=>(t σ h).bind λb h=>if b then iB r σ h else .ok false h
def bR (g:Option Nat) (all:List D) (tg:GF) (cs:List TF) (e:EF):List D->Sd->Hd->Res (List D)
 | [],_,h=>if dH g all h then .ok [] h else .bad
 | x :: xs,σ,h=>if dH g all h then match tg x σ with
   | some σ=>(iB cs σ h).bind λb h=>if b then (e σ h).bind λd h=>(bR g all tg cs e xs σ h).bind λds h=>.ok (d :: ds) h
    else bR g all tg cs e xs σ h
   | none=>.bad
  else .bad
@[simp] def iC (nl:Nat) (caps:List Nat) (σ:Sd):Sd:=List.replicate nl none++caps.map λi=>slot σ i
@[simp] def bL (nl:Nat) (caps:List Nat) (it:IF) (tg:GF) (cs:List TF) (e:EF):LF:=λσ h=>(it σ h).bind λp h =>
 bR p.2 p.1 tg cs e p.1 (iC nl caps σ) h
mutual
def pure? : D->Bool
 | .ref _=>false
 | .tup l=>fg l
 | .lit l=>fg l
 | .exn _ l=>fg l
 | _=>true
def fg:List D->Bool
 | []=>true
 | x :: xs=>pure? x && fg xs
end
def qS:aS->Bool
 | .lst l=>fg l
 | .dct l=>l.all λp=>pure? p.2
 | .dcT l=>l.all λp=>pure? p.2
def A8 (h h':Hd):Prop:=∀n c,n < h.length->h'[n]? = some c->h[n]? = some c\/qS c=true
def letGo (h:Hd) (r:Res D):Res D:=match r with
 | .ok d h'=>if pure? d=true/\A8 h h' then .ok d (h'.take h.length) else .ok d h'
 | r=>r
def runB (n:Nat) (b:SF):Fn:=λds h=>match b (ds.map some++List.replicate (n - ds.length) none) h with
 | .nx _ h=>.ok .non h
 | .rt d h=>.ok d h
 | .exc x _ h=>.exc x h
 | _=>.bad
def bS (np n:Nat) (b:SF):Fn:=λds h=>if ds.length=np then letGo h (runB n b ds h) else .bad
end
end Fm
namespace Fm
open PySem PySem.Spec L2
def toS (x:List Nat):Str:=⟨x.toArray⟩
def pX (K:ZX) (H:Hp) (a:Addr) (xs:List V):Prop :=
 (∃o,H a=some (.frz o (.lst xs)))\/
  ∃(o:Obj) (its:Array T0) (n:Nat),K.lookup a=some o/\o.cls=.type "list"/\o.dict=none/\o.data=.seq its n/\its.size<=sizeLine/\aY xs its.toList
section
variable (K:ZX) (ρ:List Addr) (H:Hp)
mutual
def RD:D->V->Prop
 | .non,v=>v=.non
 | .bl b,v=>v=.bl b
 | .int i,v=>v=.int i
 | .str x,v=>v=.str (toS x)
 | .tup l,v=>∃p vs,v=.ref p/\H p=some (.tup vs)/\RDs l vs
 | .lit l,v=>∃p vs,v=.ref p/\pX K H p vs/\RDs l vs
 | .ref n,v=>∃a,ρ[n]? = some a/\v=.ref a
 | .exn c l,v=>l=[]/\∃a C,v=.ref a/\H a=some (KU a C)/\PySem.W.nsIn K mainGlobals (Str.ofString c)=some (some (.ref C))
def RDs:List D->List V->Prop
 | [],vs=>vs=[]
 | d :: ds,vs=>∃v r,vs=v :: r/\RD d v/\RDs ds r
end
def RC:aS->Addr->Prop
 | .lst l,a=>∃vs,H a=some (.lst vs)/\RDs K ρ H l vs
 | .dct l,a=>∃kvs,H a=some (.dK kvs)/\kvs.map (·.1)=l.map (λp=>(Sum.inl p.1:Key))/\RDs K ρ H (l.map (·.2)) (kvs.map (·.2))
 | .dcT l,a=>∃kvs,H a=some (.dT kvs)/\kvs.map (·.1)=l.map (λp=>p.1.map λi=>(Sum.inl i:Key))/\RDs K ρ H (l.map (·.2)) (kvs.map (·.2))
structure RH (hd:Hd):Prop where
 len : ρ.length=hd.length
 nd : ρ.Nodup
 cel:∀(n:Nat) c a,hd[n]? = some c->ρ[n]? = some a->RC K ρ H c a
structure RSt (σd:Sd) (σ:St):Prop where
 len : σd.length = σ.length
 at':∀i d,slot σd i=some d->∃v,σ[i]? = some (some v)/\RD K ρ H d v
structure RS (σd:Sd) (hd:Hd) (σ:St):Prop where
 hp:RH K ρ H hd
 st:RSt K ρ H σd σ
end
structure Ext (ρ:List Addr) (H:Hp) (ρ':List Addr) (H':Hp):Prop where
 pre:∃t,ρ' = ρ ++ t
 new:∀a ∈ ρ',a ∈ ρ\/H a=none
 frame:∀p o,H p=some o->p ∉ ρ->H' p=some o
variable {vs:List V}{l:List D}
section
variable {K:ZX} {ρ ρ' ρ'':List Addr} {H H' H'':Hp} {hd hd':Hd} {σd σd':Sd} {σ σ':St}
theorem Ext.refl:Ext ρ H ρ H:=⟨⟨[],by simp⟩,λ_ h=>.inl h,λ_ _ h _=>h⟩
theorem Ext.out (e:Ext ρ H ρ' H'){p:Addr}{o:HO}(h:H p=some o)(n:p ∉ ρ):p ∉ ρ':=λz=>by
 rcases e.new p z with q|q
 ·exact n q
 ·rw[h]at q;cases q
theorem Ext.trans (a:Ext ρ H ρ' H')(b:Ext ρ' H' ρ'' H''):Ext ρ H ρ'' H'' where
 pre:=by
  obtain⟨t,rfl⟩:=a.pre;obtain⟨u,rfl⟩:=b.pre;exact⟨t++u,by simp⟩
 new:=λx c=>by
  rcases b.new x c with q|q
  ·exact a.new x q
  ·cases e:H x with
   | none=>exact .inr rfl
   | some o =>
    by_cases hn:x ∈ ρ
    ·exact .inl hn
    ·rw[a.frame x o e hn]at q;cases q
 frame:=λp o h n=>b.frame p o (a.frame p o h n) (a.out h n)
theorem Ext.same (s:kZ H H'):Ext ρ H ρ H':=⟨⟨[],by simp⟩,λ_ h=>.inl h,λp o h _=>s p o h⟩
theorem Ext.get (e:Ext ρ H ρ' H'){n:Nat}{a:Addr}(h : ρ[n]? = some a) : ρ'[n]? = some a:=by
 obtain⟨t,rfl⟩:=e.pre;rw[ZC (List.getElem?_eq_some_iff.mp h).1];exact h
theorem RH.mut (r:RH K ρ H hd){a:Addr}(h:a ∈ ρ):(∃c,H a=some (.lst c))\/(∃b,H a=some (.dK b))\/∃b,H a=some (.dT b):=by
 obtain⟨n,d⟩:=List.getElem?_of_mem h;have f:=(List.getElem?_eq_some_iff.mp d).1;have hc:hd[n]? = some (hd[n]'(by rw[<-r.len];exact f)):=by simp
 have q:=r.cel n _ a hc d;cases e:hd[n]'(by rw[<-r.len];exact f) with
 | lst l=>rw[e]at q;obtain⟨c,h1,_⟩:=q;exact .inl ⟨c,h1⟩
 | dct l=>rw[e]at q;obtain⟨c,h1,_⟩:=q;exact .inr (.inl ⟨c,h1⟩)
 | dcT l=>rw[e]at q;obtain⟨c,h1,_⟩:=q;exact .inr (.inr ⟨c,h1⟩)
theorem RH.noTup (r:RH K ρ H hd){a:Addr}(h:H a=some (.tup vs)):a ∉ ρ:=λz=>by
 rcases r.mut z with ⟨_,q⟩|⟨_,q⟩|⟨_,q⟩<;>(rw[h]at q;cases q)
theorem RH.noFrz (r:RH K ρ H hd){a:Addr}{o:Obj}{u:HO}(h:H a=some (.frz o u)):a ∉ ρ:=λz=>by
 rcases r.mut z with ⟨_,q⟩|⟨_,q⟩|⟨_,q⟩<;>(rw[h]at q;cases q)
theorem RH.noExt (r:RH K ρ H hd){a:Addr}{b : Heap->Prop}(h:H a=some (.ext b)):a ∉ ρ:=λz=>by
 rcases r.mut z with ⟨_,q⟩|⟨_,q⟩|⟨_,q⟩<;>(rw[h]at q;cases q)
structure Kp (ρ:List Addr) (H:Hp) (ρ':List Addr) (H':Hp):Prop where
 get:∀(n:Nat) a,ρ[n]? = some a->ρ'[n]? = some a
 tup:∀a vs,H a=some (.tup vs)->H' a=some (.tup vs)
 frz:∀a o u,H a=some (.frz o u)->H' a=some (.frz o u)
 ext:∀a φ,H a=some (.ext φ)->H' a=some (.ext φ)
theorem RH.kp (r:RH K ρ H hd)(e:Ext ρ H ρ' H'):Kp ρ H ρ' H' :=
 ⟨λ_ _ h=>e.get h,λ_ _ h=>e.frame _ _ h (r.noTup h),λ_ _ _ h=>e.frame _ _ h (r.noFrz h),λ_ _ h=>e.frame _ _ h (r.noExt h)⟩
theorem Kp.same (s:kZ H H'):Kp ρ H ρ H':=⟨λ_ _ h=>h,λ_ _ h=>s _ _ h,λ_ _ _ h=>s _ _ h,λ_ _ h=>s _ _ h⟩
theorem pX.mono {a:Addr}{xs:List V}(k:Kp ρ H ρ' H')(h:pX K H a xs):pX K H' a xs:=by
 rcases h with ⟨o,h⟩|h
 ·exact .inl ⟨o,k.frz _ _ _ h⟩
 ·exact .inr h
mutual
theorem RD.mono (k:Kp ρ H ρ' H'):∀{d:D} {v:V},RD K ρ H d v->RD K ρ' H' d v
 | .non,_,h=>by simp only[RD]at h ⊢;exact h
 | .bl _,_,h=>by simp only[RD]at h ⊢;exact h
 | .int _,_,h=>by simp only[RD]at h ⊢;exact h
 | .str _,_,h=>by simp only[RD]at h ⊢;exact h
 | .tup l,_,h=>by
  simp only[RD]at h ⊢;obtain⟨p,b,e,h1,h2⟩:=h;exact⟨p,b,e,k.tup _ _ h1,RDs.mono k h2⟩
 | .lit l,_,h=>by
  simp only[RD]at h ⊢;obtain⟨p,b,e,h1,h2⟩:=h;exact⟨p,b,e,h1.mono k,RDs.mono k h2⟩
 | .ref n,_,h=>by
  simp only[RD]at h ⊢;obtain⟨a,h1,h2⟩:=h;exact⟨a,k.get _ _ h1,h2⟩
 | .exn _ _,_,h=>by
  simp only[RD]at h ⊢;obtain⟨c,a,C,e,h1,h2⟩:=h;exact⟨c,a,C,e,k.ext _ _ h1,h2⟩
theorem RDs.mono (k:Kp ρ H ρ' H'):∀{l:List D} {a:List V},RDs K ρ H l a->RDs K ρ' H' l a
 | [],_,h=>by simp only[RDs]at h ⊢;exact h
 | d :: ds,_,h=>by
  simp only[RDs]at h ⊢;obtain⟨v,r,e,h1,h2⟩:=h;exact⟨v,r,e,RD.mono k h1,RDs.mono k h2⟩
end
theorem RDs.nil:RDs K ρ H [] []:=by simp only[RDs]
theorem RDs.cons {d:D}{v:V}{ds:List D}(h:RD K ρ H d v)(t:RDs K ρ H ds vs):RDs K ρ H (d :: ds) (v :: vs):=by
 simp only[RDs];exact⟨v,vs,rfl,h,t⟩
theorem RDs.length:∀{l:List D} {a:List V},RDs K ρ H l a->l.length=a.length
 | [],_,h=>by simp only[RDs]at h;subst h;rfl
 | d :: ds,_,h=>by
  simp only[RDs]at h;obtain⟨v,r,e,h1,h2⟩:=h;subst e;simp[RDs.length h2]
theorem RDs.get:∀{l:List D} {b:List V} {i:Nat} {d:D},RDs K ρ H l b->l[i]? = some d->∃v,b[i]? = some v/\RD K ρ H d v
 | [],_,i,_,_,e=>by simp at e
 | d :: ds,_,0,_,h,e=>by
  simp only[RDs]at h;obtain⟨v,r,a,h1,h2⟩:=h;subst a;simp at e;subst e;exact⟨v,rfl,h1⟩
 | d :: ds,_,i + 1,x,h,e=>by
  simp only[RDs]at h;obtain⟨v,r,a,h1,h2⟩:=h;subst a;obtain⟨w,hw,q⟩:=RDs.get (i:=i) (d:=x) h2 (by simpa using e);exact⟨w,by simpa using hw,q⟩
theorem RDs.set {d:D}{v:V}(h:RD K ρ H d v):∀{l:List D} {a:List V} (i:Nat),RDs K ρ H l a->RDs K ρ H (l.set i d) (a.set i v)
 | [],_,_,q=>by simp only[RDs]at q;subst q;exact RDs.nil
 | x :: xs,_,i,q=>by
  simp only[RDs]at q;obtain⟨w,r,e,h1,h2⟩:=q;subst e;cases i with
  | zero=>exact RDs.cons h h2
  | succ i=>exact RDs.cons h1 (RDs.set h i h2)
theorem RDs.append:∀{l b:List D} {c a:List V},RDs K ρ H l c->RDs K ρ H b a->RDs K ρ H (l++b) (c++a)
 | [],_,_,_,h,q=>by simp only[RDs]at h;subst h;exact q
 | d :: ds,_,_,_,h,q=>by
  simp only[RDs]at h;obtain⟨v,r,e,h1,h2⟩:=h;subst e;exact RDs.cons h1 (RDs.append h2 q)
theorem RDs.take:∀{l:List D} {a:List V} (n:Nat),RDs K ρ H l a->RDs K ρ H (l.take n) (a.take n)
 | _,_,0,_=>by simp;exact RDs.nil
 | [],_,n + 1,h=>by simp only[RDs]at h;subst h;exact RDs.nil
 | d :: ds,_,n + 1,h=>by
  simp only[RDs]at h;obtain⟨v,r,e,h1,h2⟩:=h;subst e;exact RDs.cons h1 (RDs.take n h2)
theorem RDs.drop:∀{l:List D} {a:List V} (n:Nat),RDs K ρ H l a->RDs K ρ H (l.drop n) (a.drop n)
 | _,_,0,h=>by simpa using h
 | [],_,n + 1,h=>by simp only[RDs]at h;subst h;exact RDs.nil
 | d :: ds,_,n + 1,h=>by
  simp only[RDs]at h;obtain⟨v,r,e,h1,h2⟩:=h;subst e;simpa using RDs.drop n h2
theorem RC.mono {c:aS}{a:Addr}(k:Kp ρ H ρ' H')(e:H' a=H a)(h:RC K ρ H c a):RC K ρ' H' c a:=by
 cases c with
 | lst l=>obtain⟨b,h1,h2⟩:=h;exact⟨b,e.trans h1,h2.mono k⟩
 | dct l=>obtain⟨b,h1,h2,d⟩:=h;exact⟨b,e.trans h1,h2,d.mono k⟩
 | dcT l=>obtain⟨b,h1,h2,d⟩:=h;exact⟨b,e.trans h1,h2,d.mono k⟩
theorem RH.same (r:RH K ρ H hd)(s:kZ H H'):RH K ρ H' hd :=
 ⟨r.len,r.nd,λn c a h1 h2=>(r.cel n c a h1 h2).mono (Kp.same s) (by
  rcases r.mut (ZK h2) with ⟨_,q⟩|⟨_,q⟩|⟨_,q⟩<;>rw[q,s _ _ q])⟩
theorem RSt.mono (k:Kp ρ H ρ' H')(r:RSt K ρ H σd σ):RSt K ρ' H' σd σ :=
 ⟨r.len,λi d h=>let ⟨v,h1,h2⟩:=r.at' i d h;⟨v,h1,h2.mono k⟩⟩
theorem RS.same (r:RS K ρ H σd hd σ)(s:kZ H H'):RS K ρ H' σd hd σ:=⟨r.hp.same s,r.st.mono (Kp.same s)⟩
theorem cy {p:Addr}{o:HO}(h:H p=none):kZ H (upd H p o):=λb u e=>by
 rw[aC (bm e h)];exact e
theorem RH.alloc (r:RH K ρ H hd){p:Addr}(hp:H p=some (.lst vs))(g:p ∉ ρ)(h:RDs K ρ H l vs):RH K (ρ ++ [p]) H (hd++[.lst l]):=by
 have k:Kp ρ H (ρ ++ [p]) H:=⟨λn a e=>by rw[ZC (List.getElem?_eq_some_iff.mp e).1];exact e,λ_ _ h=>h,λ_ _ _ h=>h,λ_ _ h=>h⟩;refine⟨by simp[r.len],?_,λn c a h1 h2 => ?_⟩
 ·rw[XA]
  exact⟨r.nd,by simp,λa f b d=>by simp at d;subst d;intro e;subst e;exact g f⟩
 ·by_cases hlt:n < hd.length
  ·rw[ZC hlt]at h1
   rw[ZC (by rw[r.len];exact hlt)]at h2;exact(r.cel n c a h1 h2).mono k rfl
  ·have i:n=hd.length:=by
    have:=(List.getElem?_eq_some_iff.mp h1).1;simp at this;omega
   subst i;simp at h1;subst h1;rw[<-r.len]at h2;simp at h2;subst h2;exact⟨vs,hp,h.mono k⟩
theorem nJ {α : Type}:∀{l:List α},l.Nodup->∀{i j:Nat} {x : α},l[i]? = some x->l[j]? = some x->i=j
 | [],_,i,_,_,e,_=>by simp at e
 | a :: l,nd,0,0,_,_,_=>rfl
 | a :: l,nd,0,j + 1,x,e,e'=>by
  simp at e e';subst e;exact absurd (ZK e') (List.nodup_cons.mp nd).1
 | a :: l,nd,i + 1,0,x,e,e'=>by
  simp at e e';subst e';exact absurd (ZK e) (List.nodup_cons.mp nd).1
 | a :: l,nd,i + 1,j + 1,x,e,e'=>by
  simp at e e';rw[nJ (List.nodup_cons.mp nd).2 e e']
theorem RH.write (r:RH K ρ H hd){n:Nat}{p:Addr}(hp : ρ[n]? = some p)(d:n < hd.length)(h:RDs K ρ H l vs):RH K ρ (upd H p (.lst vs)) (hd.set n (.lst l)):=by
 have k:Kp ρ H ρ (upd H p (.lst vs)):=by
  have b:=ZK hp;refine⟨λ_ _ h=>h,λa f e => ?_,λa o u e => ?_,λa g e => ?_⟩
  ·rw[aC (λz=>r.noTup e (by rw[z];exact b))];exact e
  ·rw[aC (λz=>r.noFrz e (by rw[z];exact b))];exact e
  ·rw[aC (λz=>r.noExt e (by rw[z];exact b))];exact e
 refine⟨by simp[r.len],r.nd,λm c a h1 h2 => ?_⟩
 by_cases e:n=m
 ·subst e
  rw[List.getElem?_set_self d]at h1;cases h1;rw[hp]at h2;cases h2;exact⟨vs,bi,h.mono k⟩
 ·rw[ZP e]at h1
  have ne:a≠p:=λz=>by
   subst z;exact e (nJ r.nd hp h2)
  exact(r.cel m c a h1 h2).mono k (aC ne)
theorem Ext.write {p:Addr}{o:HO}(hp:p ∈ ρ):Ext ρ H ρ (upd H p o) :=
 ⟨⟨[],by simp⟩,λ_ h=>.inl h,λq u e n=>by rw[aC (λz=>n (by rw[z];exact hp))];exact e⟩
theorem Ext.alloc {p:Addr}(h:H p=none){o:HO}:Ext ρ H (ρ ++ [p]) (upd H p o) :=
 ⟨⟨[p],rfl⟩,λa b=>by
  rcases W0.mp b with q|q
  ·exact .inl q
  ·simp at q;subst q;exact .inr h,λq u e _=>cy h q u e⟩
theorem RS.ext (r:RS K ρ H σd hd σ)(e:Ext ρ H ρ' H')(h:RH K ρ' H' hd'):RS K ρ' H' σd hd' σ:=⟨h,r.st.mono (r.hp.kp e)⟩
end
abbrev VR (α β : Type):=List Addr->Hp->α->β->Prop
section
variable (K:ZX)
def bZ {α β : Type} (R:VR α β) (ρ:List Addr) (H:Hp) (σd:Sd) (σ:St) (r:Res α) (Q : β->Hp->Prop):Prop:=match r with
 | .ok a hd'=>∀b H' ρ',Ext ρ H ρ' H'->RS K ρ' H' σd hd' σ->R ρ' H' a b->Q b H'
 | _=>False
def lq {α β : Type} (R:VR α β) (f:Sd->Hd->Res α):St->Hp->(β->Hp->Prop)->Prop:=λσ H Q =>
 ∃ρ σd hd,RS K ρ H σd hd σ/\bZ K R ρ H σd σ (f σd hd) Q
abbrev rD:VR D V:=λρ H d v=>RD K ρ H d v
abbrev rDs:VR (List D) (List V):=λρ H d v=>RDs K ρ H d v
abbrev rB:VR Bool Bool:=λ_ _ a b=>a=b
abbrev rO:VR (Option Int) (Option Int):=λ_ _ a b=>a=b
def rQ:VR (List D) V:=λρ H l v=>∃p vs,v=.ref p/\(SqL K H p vs\/H p=some (.tup vs))/\RDs K ρ H l vs
def xh (ρ:List Addr) (H:Hp) (σd:Sd) (σ:St) (r:Res (List D)) (Q:VK):Prop:=match r with
 | .ok l hd'=>∀q vs H' ρ',Ext ρ H ρ' H'->RS K ρ' H' σd hd' σ->H q=none->H' q=some (.lst vs)->q ∉ ρ'->RDs K ρ' H' l vs->Q (.ref q) H'
 | _=>False
def KW (f:LF):TE:=λσ H Q=>∃ρ σd hd,RS K ρ H σd hd σ/\xh K ρ H σd σ (f σd hd) Q
def ce (ρ:List Addr) (H:Hp) (o:Out) (E:qJ):Prop:=match o with
 | .nx σd hd=>∀σ H' ρ',Ext ρ H ρ' H'->RS K ρ' H' σd hd σ->E.nx σ H'
 | .bk σd hd=>∀σ H' ρ',Ext ρ H ρ' H'->RS K ρ' H' σd hd σ->E.bk σ H'
 | .ct σd hd=>∀σ H' ρ',Ext ρ H ρ' H'->RS K ρ' H' σd hd σ->E.ct σ H'
 | .rt d hd=>∀v H' ρ',Ext ρ H ρ' H'->RH K ρ' H' hd->RD K ρ' H' d v->E.rt v H'
 | _=>False
def HS (f:SF):TS:=λE σ H=>∃ρ σd hd,RS K ρ H σd hd σ/\ce K ρ H (f σd hd) E
end
def ME (X:Cx) (e:Expr) (f:EF):Prop:=PE X e (lq X.K (rD X.K) f)
def MQ (X:Cx) (e:Expr) (f:LF):Prop:=PE X e (lq X.K (rQ X.K) f)
def MF (X:Cx) (e:Expr) (f:LF):Prop:=PE X e (KW X.K f)
def MT (X:Cx) (e:Expr) (f:TF):Prop:=PT X e (lq X.K rB f)
def MW (X:Cx) (e:Expr) (f:TF):Prop:=PW X e (lq X.K rB f)
def MA (X:Cx) (es:List Expr) (f:LF):Prop:=PA X es (lq X.K (rDs X.K) f)
def MS (X:Cx) (s:Stmt) (f:SF):Prop:=PS X s (HS X.K f)
def MSs (X:Cx) (s:List Stmt) (f:SF):Prop:=PSs X s (HS X.K f)
variable {e:Expr}
section
variable {X:Cx}
theorem PE.imp {t u:TE}(h:PE X e t)(i:∀σ H Q,u σ H Q->t σ H Q):PE X e u:=λpins s σ H Q I q=>h pins s σ H Q I (i σ H Q q)
theorem PT.imp {t u:TT}(h:PT X e t)(i:∀σ H Q,u σ H Q->t σ H Q):PT X e u:=λpins s σ H Q I q=>h pins s σ H Q I (i σ H Q q)
theorem PW.imp {t u:TT}(h:PW X e t)(i:∀σ H Q,u σ H Q->t σ H Q):PW X e u:=λw pins s σ H Q I q=>h w pins s σ H Q I (i σ H Q q)
theorem PA.imp {e:List Expr}{t u:TA}(h:PA X e t)(i:∀σ H Q,u σ H Q->t σ H Q):PA X e u:=λp pins s σ H Q I q=>h p pins s σ H Q I (i σ H Q q)
theorem PS.imp {e:Stmt}{t u:TS}(h:PS X e t)(i:∀D σ H,u D σ H->t D σ H):PS X e u:=λpins s σ H D I q=>h pins s σ H D I (i D σ H q)
theorem PSs.imp {e:List Stmt}{t u:TS}(h:PSs X e t)(i:∀D σ H,u D σ H->t D σ H):PSs X e u:=λpins s σ H D I q=>h pins s σ H D I (i D σ H q)
end
section
variable {K:ZX} {ρ ρ':List Addr} {H H':Hp} {hd hd':Hd} {σd:Sd} {σ:St} {α β α' β':Type} {R:VR α β} {R':VR α' β'}
theorem bZ.here {a : α}{b : β}{Q : β->Hp->Prop}(h:bZ K R ρ H σd σ (.ok a hd) Q)(r:RS K ρ H σd hd σ)(q:R ρ H a b):Q b H:=h b H ρ Ext.refl r q
theorem bZ.at {a : α}{b : β}{Q : β->Hp->Prop}(h:bZ K R ρ H σd σ (.ok a hd) Q)(e:Ext ρ H ρ' H')(r:RS K ρ' H' σd hd σ)(q:R ρ' H' a b):Q b H':=h b H' ρ' e r q
theorem bZ.imp {r:Res α}{Q c : β->Hp->Prop}(h:bZ K R ρ H σd σ r Q)(i:∀b H',Q b H'->c b H'):bZ K R ρ H σd σ r c:=by
 cases r with
 | ok a h'=>exact λb H' ρ' e s q=>i b H' (h b H' ρ' e s q)
 | exc x h'=>exact h
 | bad=>exact h
theorem bZ.ext {r:Res α}{Q : β->Hp->Prop}(e:Ext ρ H ρ' H')(h:bZ K R ρ H σd σ r Q):bZ K R ρ' H' σd σ r Q:=by
 cases r with
 | ok a h'=>exact λb H'' ρ'' c s q=>h b H'' ρ'' (e.trans c) s q
 | exc x h'=>exact h
 | bad=>exact h
theorem bZ.bind {r:Res α}{k : α->Hd->Res α'}{Q : β'->Hp->Prop}(h:bZ K R' ρ H σd σ (r.bind k) Q) :
  bZ K R ρ H σd σ r (λb H'=>∃ρ' a hd',Ext ρ H ρ' H'/\RS K ρ' H' σd hd' σ/\R ρ' H' a b/\bZ K R' ρ' H' σd σ (k a hd') Q):=by
 cases r with
 | ok a h'=>exact λb H' ρ' e s q=>⟨ρ',a,h',e,s,q,bZ.ext e h⟩
 | exc x h'=>exact h
 | bad=>exact h
theorem ce.ext {o:Out}{E:qJ}(e:Ext ρ H ρ' H')(h:ce K ρ H o E):ce K ρ' H' o E:=by
 cases o with
 | nx σ h'=>exact λa H'' ρ'' b s=>h a H'' ρ'' (e.trans b) s
 | bk σ h'=>exact λa H'' ρ'' b s=>h a H'' ρ'' (e.trans b) s
 | ct σ h'=>exact λa H'' ρ'' b s=>h a H'' ρ'' (e.trans b) s
 | rt d h'=>exact λv H'' ρ'' b s q=>h v H'' ρ'' (e.trans b) s q
 | exc x σ h'=>exact h
 | bad=>exact h
end
variable {x:Str}{K:ZX}{fa f:EF}{b:Expr}{H:Hp}{ρ:List Addr}
section
variable {X:Cx} {pos:Pos}
theorem Jc {i:Nat}  (b:X.N[i]? = some x) (c:Vis X.env.scope x) (hd:(x == ("__debug__" : Str))=false:=by decide) (a:(x == ("__classdict__" : Str))=false:=by decide):ME X (.Name x pos) (aa i):=by
 refine PE.imp (Ip b c hd a) λσ H Q ⟨ρ,σd,hd,r,h⟩ => ?_;unfold aa at h;cases e:slot σd i with
 | none=>rw[e]at h;exact h.elim
 | some d =>
  rw[e]at h;obtain⟨v,h1,h2⟩:=r.st.at' i d e;exact⟨v,h1,h.here r h2⟩
theorem qT {d:D}{v:V}(a:∀ρ H,RD K ρ H d v):∀σ H Q,lq K (rD K) (fC d) σ H Q->tC v σ H Q:=λ_ H _ ⟨ρ,_,_,r,h⟩=>h.here r (a ρ H)
theorem am {i:Int}{j}:ME X (.Constant (.int i) j pos) (fC (.int i)):=PE.imp DB (qT λ_ _=>by simp only[RD])
theorem dz {b j}:ME X (.Constant (.bool b) j pos) (fC (.bl b)):=PE.imp Kq (qT λ_ _=>by simp only[RD])
theorem dy {j}:ME X (.Constant .none j pos) (fC .non):=PE.imp Iq (qT λ_ _=>by simp only[RD])
theorem fV {j}(l:List Nat)(h:x=toS l):ME X (.Constant (.str x) j pos) (fC (.str l)):=PE.imp Ir (qT λ_ _=>by simp only[RD];rw[h])
theorem qU  {i:Int} {t:Tok} (a:Gl X x) (hm:X.mg x=some (.int i t)) (hd:(x == ("__debug__" : Str))=false:=by decide):ME X (.Name x pos) (fC (.int i)) :=
 PE.imp (F4 (v:=.int i) a hm ⟨t,rfl⟩ hd) (qT λ_ _=>by simp only[RD])
theorem me2 {a b:Expr}{o:EF}{r:R2}{g:O2}(h:PE X e (tOp r (lq X.K (rD X.K) fa) (lq X.K (rD X.K) o)))
  (y:∀ρ H σd hd σ d k v w Q,RS X.K ρ H σd hd σ->RD X.K ρ H d v->RD X.K ρ H k w->bZ X.K (rD X.K) ρ H σd σ (g d k hd) Q->r v w H Q):ME X e (ag g fa o):=by
 refine PE.imp h λσ H Q ⟨ρ,σd,hd,u,p⟩ => ?_;refine⟨ρ,σd,hd,u,(bZ.bind (R:=rD X.K) p).imp λv H1 ⟨f,d,n,z,c,t,s⟩ => ?_⟩;refine⟨f,σd,n,c,(bZ.bind (R:=rD X.K) s).imp λw x ⟨i,k,l,q,j,m,p2⟩ => ?_⟩;exact y i x σd l σ d k v w Q j (t.mono (c.hp.kp q)) m p2
def Og (K:ZX) (g:O2) (r:R2):Prop:=∀ρ H σd hd σ d k v w Q,RS K ρ H σd hd σ->RD K ρ H d v->RD K ρ H k w->bZ K (rD K) ρ H σd σ (g d k hd) Q->r v w H Q
theorem bB {a:Expr}{c:EF}{op:Operator}{r:R2}{g:O2}(e:OpR X (binaryOp op) r)(f:Og X.K g r)(h:ME X a fa)(d:ME X b c):ME X (.BinOp a op b pos) (ag g fa c) :=
 me2 (a:=a) (b:=b) (DK e h d) f
theorem eS {a:Expr}{c:EF}{op:CmpOp}{r:R2}{g:O2}(e:OpR X (compareOp op) r)(f:Og X.K g r)(h:ME X a fa)(d:ME X b c)(hm:behindInMarks op b=false):ME X (.Compare a [op] [b] pos) (ag g fa c) :=
 me2 (a:=a) (b:=b) (Ge e h d hm) f
theorem nK {g:Int->Int->Int}:Og K (oI g) (rI0 λi j=>.int (g i j)):=by
 intro ρ H σd hd σ d k v w Q c b a p;cases d<;>cases k<;>first|exact p.elim|skip
 simp only[RD]at b a;exact⟨_,_,b,a,p.here c (by simp only[rD,RD])⟩
theorem vw {g:Int->Int->Bool}:Og K (oB g) (rI0 λi j=>.bl (g i j)):=by
 intro ρ H σd hd σ d k v w Q c b a p;cases d<;>cases k<;>first|exact p.elim|skip
 simp only[RD]at b a;exact⟨_,_,b,a,p.here c (by simp only[rD,RD])⟩
theorem DX {c:Int->Int->Bool}{C:Int->Int->Prop}{g:Int->Int->Int}(hc:∀i j,c i j=true->C i j):Og K (oIc c g) (rI C λi j=>.int (g i j)):=by
 intro ρ H σd hd σ d k v w Q f b a p;cases d<;>cases k<;>first|exact p.elim|skip
 rename_i i j
 simp only[RD]at b a;cases e:c i j with
 | false=>simp only[oIc,e]at p;exact p.elim
 | true =>
  simp only[oIc,e,YL]at p;exact⟨i,j,b,a,hc i j e,p.here f (by simp only[rD,RD])⟩
theorem A9 {i:Int}(h:sml i=true) : -(2 ^ 64) < i/\i < 2 ^ 64:=by
 simp only[sml,x8,Z9]at h;exact h
theorem fW:Og K cI (rI Gc λi j=>.int (i * j)):=DX λi j h=>by
 rcases (Bool.or_eq_true _ _).mp h with q|q
 ·exact .inl (A9 q)
 ·exact .inr (A9 q)
theorem fj:Og K dk (rI (λ_ j=>0 < j) λi j=>.int (i % j)):=DX λi j h=>YV h
def KY (_ j:Int):Prop:=0 < j/\j < 2 ^ 250
theorem iD:OpR X (binaryOp .FloorDiv) (rI KY λi j=>.int (i / j)):=opI λi j _ _ _ _ _ hc q=>by
 have h0:j≠0:=by have:=hc.1;omega
 refine PyProof.Rows.floordiv_int h0 (by rw[Int.fdiv_eq_ediv_of_nonneg _ (Int.le_of_lt hc.1)];exact q) (.inl (PyProof.noPylong_of_log2 ?_));have h2:j.natAbs < 2 ^ 250:=by have:=hc.2;have:=hc.1;omega
 have a:j.natAbs≠0:=by omega
 have:=(Nat.log2_lt a).mpr h2;omega
theorem mN:Og K k7 (rI KY λi j=>.int (i / j)):=DX λi j h=>by
 simp only[x8,Z9]at h;exact h
theorem vx {d:D}{v:V}(h:RD K ρ H d v):mI d=decide (v=.non):=by
 cases d<;>simp only[RD]at h
 ·subst h;rfl
 ·subst h;rfl
 ·subst h;rfl
 ·subst h;rfl
 ·obtain⟨p,a,rfl,_⟩:=h;rfl
 ·obtain⟨p,a,rfl⟩:=h;rfl
 ·obtain⟨p,a,rfl,_⟩:=h;rfl
 ·obtain⟨_,p,a,rfl,_⟩:=h;rfl
theorem lx:Og K mD (λx y H Q=>y=.non/\Q (.bl (decide (x=.non))) H):=by
 intro ρ H σd hd σ d k v w Q c b a p;unfold mD at p;cases e:mI k with
 | false=>rw[e]at p;exact p.elim
 | true =>
  rw[e,z4 rfl]at p;refine⟨YV ((vx a).symm.trans e),?_⟩;rw[<-vx b];exact p.here c (by simp only[rD,RD])
theorem l8:Og K iY (λx y H Q=>y=.non/\Q (.bl (!decide (x=.non))) H):=by
 intro ρ H σd hd σ d k v w Q c b a p;unfold iY at p;cases e:mI k with
 | false=>rw[e]at p;exact p.elim
 | true =>
  rw[e,z4 rfl]at p;refine⟨YV ((vx a).symm.trans e),?_⟩;rw[<-vx b];exact p.here c (by simp only[rD,RD])
theorem oP {σd:Sd}{σ:St}{r:Res D}{Q:Bool->Hp->Prop}(h:bZ K rB ρ H σd σ (asB r) Q):bZ K (rD K) ρ H σd σ r (λx H'=>∃c,x=.bl c/\Q c H'):=by
 refine(bZ.bind (R:=rD K) h).imp λv H1 ⟨f,d,g,i,a,e,b⟩ => ?_;cases d<;>first|exact b.elim|skip
 simp only[rD,RD]at e;exact⟨_,e,b.here a rfl⟩
theorem bM (h:ME X e f)(he:∀a,isTrue e X.env a=(do let v <-a;standAt e.pos;holding [v] (truthy v)):=by intro _;rfl):MT X e (tE f) :=
 PT.imp (Iu h he) λσ H Q ⟨ρ,σd,hd,b,p⟩=>⟨ρ,σd,hd,b,oP p⟩
theorem aU {a:Expr}{m:EF}{op:CmpOp}{r:R2}{g:O2}(q:OpR X (compareOp op) r)(z:Og X.K g r)(s:ME X a fa)(x:ME X b m)(hm:behindInMarks op b=false):MT X (.Compare a [op] [b] pos) (tE (ag g fa m)):=by
 refine PT.imp (Gf q s x hm) λσ H Q ⟨ρ,σd,hd,u,p⟩ => ?_;have p:=oP p;refine⟨ρ,σd,hd,u,(bZ.bind (R:=rD X.K) p).imp λv H1 ⟨e,d,l,A,c,t,o⟩ => ?_⟩;refine⟨e,σd,l,c,(bZ.bind (R:=rD X.K) o).imp λw y ⟨f,k,i,n,h,j,p2⟩ => ?_⟩;exact z f y σd i σ d k v w _ h (t.mono (c.hp.kp n)) j p2
theorem cw {a:Expr}{t:TF}(h:MT X a t):MT X (.UnaryOp .Not a pos) (cZ t):=by
 refine PT.imp (Ix h) λσ H Q ⟨ρ,σd,hd,i,p⟩=>⟨ρ,σd,hd,i,(bZ.bind (R:=rB) p).imp λc H1 ⟨f,d,j,k,b,g,e⟩ => ?_⟩;cases g;exact e.here b rfl
theorem dQ {op a}{t:TF}(h:MT X a t)(b:op=BoolOp.And\/op=BoolOp.Or):MW X (.BoolOp op [a] pos) t:=by
 rcases b with rfl|rfl
 ·exact F6 h
 ·exact Iv h
theorem DY {a:Expr}{rest:List Expr}{t u:TF}(i:MT X a t)(l:MW X (.BoolOp .And (b :: rest) pos) u):MW X (.BoolOp .And (a :: b :: rest) pos) (jF t u):=by
 refine PW.imp (Iw i l) λσ H Q ⟨ρ,σd,hd,k,p⟩=>⟨ρ,σd,hd,k,(bZ.bind (R:=rB) p).imp λc H1 ⟨g,d,h,m,e,j,f⟩ => ?_⟩;cases j;cases c with
 | true=>simp only[YL]at f ⊢;exact⟨g,σd,h,e,f⟩
 | false=>simp only[wJ,YQ]at f ⊢;exact f.here e rfl
theorem fQ {a:Expr}{rest:List Expr}{t u:TF}(i:MT X a t)(l:MW X (.BoolOp .Or (b :: rest) pos) u):MW X (.BoolOp .Or (a :: b :: rest) pos) (tOr t u):=by
 refine PW.imp (Kr i l) λσ H Q ⟨ρ,σd,hd,k,p⟩=>⟨ρ,σd,hd,k,(bZ.bind (R:=rB) p).imp λc H1 ⟨g,d,h,m,e,j,f⟩ => ?_⟩;cases j;cases c with
 | true=>simp only[YL]at f ⊢;exact f.here e rfl
 | false=>simp only[wJ,YQ]at f ⊢;exact⟨g,σd,h,e,f⟩
theorem MW.mt {t:TF}(h:MW X e t):MT X e t:=h.pt
theorem Gs {t:TF}{σ:St}{Q:VK}(h:lq K (rD K) (fT t) σ H Q):lq K rB t σ H (λb H'=>Q (.bl b) H'):=by
 obtain⟨ρ,σd,hd,i,p⟩:=h;refine⟨ρ,σd,hd,i,(bZ.bind (R:=rB) p).imp λc H1 ⟨f,d,j,k,a,g,e⟩ => ?_⟩;cases g;exact e.here a (by simp only[rD,RD])
def MB (X:Cx) (e:Expr) (t:TF):Prop:=PE X e (λσ H Q=>lq X.K rB t σ H λb H'=>Q (.bl b) H')
theorem MB.me {t:TF}(h:MB X e t):ME X e (fT t):=PE.imp h λ_ _ _ q=>Gs q
theorem fR (h:ME X e f):MB X e (tE f):=by
 refine PE.imp h λσ H Q ⟨ρ,σd,hd,a,p⟩=>⟨ρ,σd,hd,a,(oP p).imp ?_⟩;rintro v H1 ⟨c,rfl,q⟩;exact q
theorem ly {op a}{t:TF}(h:MB X a t):MB X (.BoolOp op [a] pos) t:=Iy h
theorem mO {a:Expr}{rest:List Expr}{t u:TF}(i:MB X a t)(l:MB X (.BoolOp .And (b :: rest) pos) u):MB X (.BoolOp .And (a :: b :: rest) pos) (jF t u):=by
 refine PE.imp (Iz i l) λσ H Q ⟨ρ,σd,hd,k,p⟩=>⟨ρ,σd,hd,k,(bZ.bind (R:=rB) p).imp λc H1 ⟨g,d,h,m,e,j,f⟩=>⟨c,rfl,?_⟩⟩;cases j;cases c with
 | true=>simp only[YL]at f ⊢;exact⟨g,σd,h,e,f⟩
 | false=>simp only[wJ,YQ]at f ⊢;exact f.here e rfl
theorem KZ {a:Expr}{rest:List Expr}{t u:TF}(i:MB X a t)(l:MB X (.BoolOp .Or (b :: rest) pos) u):MB X (.BoolOp .Or (a :: b :: rest) pos) (tOr t u):=by
 refine PE.imp (Ku i l) λσ H Q ⟨ρ,σd,hd,k,p⟩=>⟨ρ,σd,hd,k,(bZ.bind (R:=rB) p).imp λc H1 ⟨g,d,h,m,e,j,f⟩=>⟨c,rfl,?_⟩⟩;cases j;cases c with
 | true=>simp only[YL]at f ⊢;exact f.here e rfl
 | false=>simp only[wJ,YQ]at f ⊢;exact⟨g,σd,h,e,f⟩
theorem qV {a:Expr}{t:TF}(h:MB X a t):MB X (.UnaryOp .Not a pos) (cZ t):=by
 refine PE.imp (IA h) λσ H Q ⟨ρ,σd,hd,i,p⟩=>⟨ρ,σd,hd,i,(bZ.bind (R:=rB) p).imp λc H1 ⟨f,d,j,k,b,g,e⟩=>⟨c,rfl,?_⟩⟩;cases g;exact e.here b rfl
theorem Ba {c a:Expr}{t:TF}{i:EF}(hc:MT X c t)(j:ME X a fa)(m:ME X b i):ME X (.IfExp c a b pos) (fIf t fa i):=by
 refine PE.imp (DC hc j m) λσ H Q ⟨ρ,σd,hd,l,p⟩=>⟨ρ,σd,hd,l,(bZ.bind (R:=rB) p).imp λc H1 ⟨f,d,g,n,e,k,h⟩ => ?_⟩;cases k;cases c with
 | true=>simp only[YL]at h ⊢;exact⟨f,σd,g,e,h⟩
 | false=>simp only[wJ,YQ]at h ⊢;exact⟨f,σd,g,e,h⟩
end
variable {es:List Expr}
section
variable {X:Cx} {pos:Pos}
theorem zr {σd:Sd}{hd:Hd}{σ:St}{r A:R2}{g k:O2}{B y:EF}{Q:VK}(S:Og K g r)(O:Og K k A)(rs:RS K ρ H σd hd σ)
  (p:bZ K (rD K) ρ H σd σ (qQ g k fa B y σd hd) Q):DM r A (lq K (rD K) fa) (lq K (rD K) B) (lq K (rD K) y) σ H Q:=by
 refine⟨ρ,σd,hd,rs,(bZ.bind (R:=rD K) p).imp λv H1 ⟨l,d,t,V,c,J,I⟩ => ?_⟩;refine⟨l,σd,t,c,(bZ.bind (R:=rD K) I).imp λw N ⟨m,x,o,G,f,e,p2⟩ => ?_⟩;refine S m N σd o σ d x v w _ f (J.mono (c.hp.kp G)) e ((bZ.bind (R:=rD K) p2).imp λz U ⟨h,L,i,E,a,C,n⟩ => ?_);cases L<;>first|exact n.elim|skip
 rename_i b
 simp only[rD,RD]at C;refine⟨b,C,?_⟩;cases b with
 | false =>
  rw[z5 wI];exact n.here a (by simp only[rD,RD])
 | true =>
  rw[z4 rfl];refine⟨h,σd,i,a,(bZ.bind (R:=rD K) n).imp λu M ⟨j,P,q,T,s,F,D⟩ => ?_⟩;exact O j M σd q σ x P w u Q s ((e.mono (f.hp.kp E)).mono (a.hp.kp T)) F D
theorem DZ {a c:Expr}{i:EF}{op d:CmpOp}{r h:R2}{g k:O2}(j:OpR X (compareOp op) r)(e:OpR X (compareOp d) h)(q:Og X.K g r)(o:Og X.K k h)(l:ME X a fa)(n:ME X b i)(hc:ME X c f)
  (hm:lastMarks [op,d] [b,c] = false:=by with_unfolding_all rfl):ME X (.Compare a [op,d] [b,c] pos) (qQ g k fa i f) :=
 PE.imp (DN j e l n hc hm) λ_ _ _ ⟨_,_,_,m,p⟩=>zr q o m p
theorem aq:MA X [] ao:=PA.imp em λ_ _ _ ⟨_,_,_,a,p⟩=>p.here a RDs.nil
theorem ae {r:LF}(he:ME X e f)(j:MA X es r)(i:starEach (e :: es) X.env=(false,eval e X.env) :: starEach es X.env:=by rfl):MA X (e :: es) (ab f r):=by
 refine PA.imp (cP he j i) λσ H Q ⟨ρ,σd,hd,q,p⟩ => ?_;refine⟨ρ,σd,hd,q,(bZ.bind (R:=rD X.K) p).imp λv H1 ⟨c,d,h,s,a,m,l⟩ => ?_⟩;refine⟨c,σd,h,a,(bZ.bind (R:=rDs X.K) l).imp λu t ⟨n,ds,o,k,g,b,p2⟩ => ?_⟩;exact p2.here g (RDs.cons (m.mono (a.hp.kp k)) b)
theorem qz {n:Nat}(h:n<=SZ):n<=sizeLine:=ZM h (by show 1000000<=2 ^ 24;decide)
theorem iE {k}{r:LF}(h:MA X es r):ME X (.Tuple es k pos) (j0 r):=by
 refine PE.imp (IN h) λσ H Q ⟨ρ,σd,hd,i,p⟩ => ?_;refine⟨ρ,σd,hd,i,(bZ.bind (R:=rDs X.K) p).imp λe H1 ⟨g,ds,j,l,c,a,b⟩ => ?_⟩
 by_cases hz:ds.length<=SZ
 ·rw[z4 hz]at b
  refine⟨by rw[<-a.length];exact qz hz,λq f => ?_⟩;have d:=cy (o:=HO.tup e) f;exact b.at (Ext.same d) (c.same d) (by simp only[rD,RD];exact⟨q,e,rfl,bi,a.mono (Kp.same d)⟩)
 ·rw[z5 hz]at b;exact b.elim
theorem Ext.fresh {ρ':List Addr}{H':Hp}{q:Addr}(e:Ext ρ H ρ' H')(h:H' q=none)(n:q ∉ ρ'):H q=none:=by
 cases z:H q with
 | none=>rfl
 | some o =>
  by_cases hq:q ∈ ρ
  ·obtain⟨t,rfl⟩:=e.pre
   exact absurd (List.mem_append_left t hq) n
  ·rw[e.frame q o z hq]at h;cases h
theorem RH.free {hd:Hd}(r:RH K ρ H hd){q:Addr}(h:H q=none):q ∉ ρ:=λz=>by
 rcases r.mut z with ⟨_,e⟩|⟨_,e⟩|⟨_,e⟩<;>(rw[h]at e;cases e)
theorem xh.mk {a:List Addr}{H1:Hp}{c:Hd}{σd:Sd}{σ:St}{Q:VK}(p:xh K ρ H σd σ (.ok l c) Q)(g:Ext ρ H a H1)(b:RS K a H1 σd c σ)(r:RDs K a H1 l vs) :
  ∀q,H1 q=none->Q (.ref q) (upd H1 q (.lst vs)):=λq d=>by
 have e:=cy (o:=HO.lst vs) d;have f:=b.hp.free d;exact p q vs _ a (g.trans (Ext.same e)) (b.same e) (g.fresh d f) bi f (r.mono (Kp.same e))
theorem cC {r:LF}(h:MA X es r)(hz:∀σd hd ds hd',r σd hd=.ok ds hd'->ds.length<=SZ):MF X (.List es pos) r:=by
 refine PE.imp (IO h) λσ H Q ⟨ρ,σd,hd,d,p⟩ => ?_;refine⟨ρ,σd,hd,d,?_⟩;cases e:r σd hd with
 | exc x h'=>rw[e]at p;exact p
 | bad=>rw[e]at p;exact p
 | ok ds hd1 =>
  rw[e]at p;intro g H1 c f b a;exact⟨by rw[<-RDs.length a];exact qz (hz _ _ _ _ e),p.mk f b a⟩
theorem bc {r:LF}{n:Nat}(h:∀σd hd ds hd',r σd hd=.ok ds hd'->ds.length=n):∀σd hd ds hd',ab f r σd hd=.ok ds hd'->ds.length=n + 1:=by
 intro σd hd ds hd' e;simp only[ab]at e;cases e1:f σd hd with
 | exc x h'=>rw[e1]at e;cases e
 | bad=>rw[e1]at e;cases e
 | ok d h1 =>
  rw[e1]at e;simp only[aW]at e;cases e2:r σd h1 with
  | exc x h'=>rw[e2]at e;cases e
  | bad=>rw[e2]at e;cases e
  | ok ds2 h2 =>
   rw[e2]at e;simp only[aW]at e;cases e;simp[h _ _ _ _ e2]
theorem bD:∀σd hd ds hd',ao σd hd=.ok ds hd'->ds.length=0:=by
 intro σd hd ds hd' e;simp only[ao]at e;cases e;rfl
theorem bu {r:LF}(h:MF X e r):ME X e (aG r):=by
 refine PE.imp h λσ H Q ⟨ρ,σd,hd,i,p⟩=>⟨ρ,σd,hd,i,?_⟩;unfold aG at p;cases e:r σd hd with
 | exc x h'=>rw[e]at p;exact p
 | bad=>rw[e]at p;exact p
 | ok ds hd1 =>
  rw[e]at p;simp only[aW]at p;intro q n H1 f g b d j m c
  by_cases hz:ds.length<=SZ
  ·rw[z4 hz]at p
   have k:=b.hp.alloc j m c;have ex:Ext ρ H (f++[q]) H1:=⟨by obtain⟨t,rfl⟩:=g.pre;exact⟨t++[q],by simp⟩,λa l=>by
    rcases W0.mp l with z|z
    ·exact g.new a z
    ·simp at z;subst z;exact .inr d,g.frame⟩
   refine p.at ex (i.ext ex k) ?_;simp only[rD,RD];refine⟨q,?_,rfl⟩;rw[<-b.hp.len];simp
  ·rw[z5 hz]at p;exact p.elim
theorem fm {r:LF}(h:MF X e r):MQ X e r:=by
 refine PE.imp h λσ H Q ⟨ρ,σd,hd,g,p⟩=>⟨ρ,σd,hd,g,?_⟩;cases e:r σd hd with
 | exc x h'=>rw[e]at p;exact p
 | bad=>rw[e]at p;exact p
 | ok ds hd1 =>
  rw[e]at p;intro q j H1 c i a f d k b;exact p (.ref q) H1 c i a ⟨q,j,rfl,.inl (SqL.of d),b⟩
theorem pX.sq {a:Addr}{xs:List V}(h:pX K H a xs):SqL K H a xs:=by
 rcases h with ⟨o,h⟩|h
 ·exact .inl (.inr ⟨o,h⟩)
 ·exact .inr h
theorem vy {hd:Hd}{d:D}{v:V}(r:RH K ρ H hd)(h:RD K ρ H d v)(e:iZ hd d=some l):∃p b,v=.ref p/\(SqL K H p b\/H p=some (.tup b))/\RDs K ρ H l b:=by
 cases d<;>simp only[iZ]at e<;>try (cases e;done)
 ·cases e
  simp only[RD]at h;obtain⟨p,b,g,f,i⟩:=h;exact⟨p,b,g,.inr f,i⟩
 ·rename_i n
  simp only[RD]at h;obtain⟨a,g,f⟩:=h;cases c:hd[n]? with
  | none=>rw[c]at e;cases e
  | some x =>
   rw[c]at e;cases x with
   | dct l=>cases e
   | dcT l=>cases e
   | lst l' =>
    cases e;obtain⟨b,q1,q2⟩:=r.cel n _ a c g;exact⟨a,b,f,.inl (SqL.of q1),q2⟩
 ·cases e
  simp only[RD]at h;obtain⟨p,b,g,f,i⟩:=h;exact⟨p,b,g,.inl f.sq,i⟩
theorem cH (h:ME X e f):MQ X e (lOf f):=by
 refine PE.imp h λσ H Q ⟨ρ,σd,hd,j,p⟩=>⟨ρ,σd,hd,j,(bZ.bind (R:=rD X.K) p).imp λv H1 ⟨g,d,c,k,a,i,b⟩ => ?_⟩;cases e:iZ c d with
 | none=>rw[e]at b;exact b.elim
 | some l=>rw[e]at b;exact b.here a (vy a.hp i e)
theorem Bb {i:Int}{d:D}(r:RDs K ρ H l vs)(e:atI l i=some d):∃v,L2.atI vs i=some v/\RD K ρ H d v:=by
 unfold atI at e;unfold L2.atI;have a:=r.length;have b:ixN l.length i=L2.ixN vs.length i:=by rw[a];rfl
 rw[b]at e;cases c:L2.ixN vs.length i with
 | none=>rw[c]at e;cases e
 | some j =>
  rw[c]at e;simp only[Option.bind_some]at e ⊢;exact r.get e
theorem aK {a:Expr}{o:EF}(y:ME X a fa)(A:ME X b o)(t:vn b):ME X (.Subscript a b pos) (fAt fa o):=by
 refine me2 (a:=a) (b:=b) (g:=oAt) (HR IU y A t) λρ H σd hd σ d k v w Q j z c p => ?_;unfold oAt at p;cases e:iZ hd d with
 | none=>rw[e]at p;exact p.elim
 | some l =>
  rw[e]at p;cases k<;>first|exact p.elim|skip
  rename_i i
  simp only at p;cases e2:atI l i with
  | none=>rw[e2]at p;exact p.elim
  | some x =>
   rw[e2]at p;simp only[RD]at c;obtain⟨q,s,n,f,h⟩:=vy j.hp z e;obtain⟨u,r,m⟩:=Bb h e2;rcases f with f|f
   ·exact .inl ⟨q,s,i,u,n,c,f,r,p.here j m⟩
   ·exact .inr (.inl ⟨q,s,i,u,n,c,SqT.of f,r,p.here j m⟩)
theorem D0 {a:Expr}{f:LF}{n:EF}(v:MF X a f)(D:ME X b n)(o:vn b):ME X (.Subscript a b pos) (fIx f n):=by
 refine PE.imp (HR A7 v D o) λσ H Q ⟨ρ,σd,hd,B,p⟩=>⟨ρ,σd,hd,B,?_⟩;unfold fIx at p;cases e:f σd hd with
 | exc x h'=>rw[e]at p;exact p
 | bad=>rw[e]at p;exact p
 | ok l hd1 =>
  rw[e]at p;simp only[aW]at p;intro q F H1 h C c t r z g;refine⟨h,σd,hd1,c,(bZ.bind (R:=rD X.K) (p.ext C)).imp λw G ⟨y,k,A,m,j,d,p2⟩ => ?_⟩;cases k<;>first|exact p2.elim|skip
  rename_i i
  simp only at p2;cases e3:atI l i with
  | none=>rw[e3]at p2;exact p2.elim
  | some x =>
   rw[e3]at p2;simp only[rD,RD]at d;obtain⟨u,E,s⟩:=Bb (g.mono (c.hp.kp m)) e3;exact⟨q,F,i,u,rfl,d,SqL.of (m.frame q _ r z),E,p2.here j s⟩
end
variable {p:Pos}
section
variable {X:Cx} {pos:Pos}
def B1 (X:Cx) (r:List V->Hp->VK->Prop) (x:Str) (p pos:Pos) (a:Expr):Prop:=∀t,PA X [a] t->PE X (.Call (.Name x p) [a] [] pos) (tCB r t)
theorem Bc   {a:Expr} {id:String} {r:List V->Hp->VK->Prop} (hc:fO X (.builtin id) r) (d:Gl X x) (hm:X.mg x=none) (c:bootBuiltins x=some (.builtin id)) (e:x ≠ "__name__" := by decide) (b:(x == ("__debug__" : Str))=false:=by decide)
  (he:starEach [a] X.env=(false,eval a X.env) :: starEach [] X.env:=by rfl):B1 X r x p pos a:=λ_ f=>iA hc d hm c f e b he
theorem HU   {a:Expr} {T:String} {r:List V->Hp->VK->Prop} (hc:fO X (.type T) r) (d:Gl X x) (hm:X.mg x=none) (c:bootBuiltins x=some (.type T)) (e:x ≠ "__name__" := by decide) (b:(x == ("__debug__" : Str))=false:=by decide)
  (he:starEach [a] X.env=(false,eval a X.env) :: starEach [] X.env:=by rfl):B1 X r x p pos a:=λ_ f=>oM hc d hm c f e b he
theorem qW {a:Expr}{f:LF}{r:List V->Hp->VK->Prop}{g:List D->Hd->Res D}(t:B1 X r x p pos a)(m:MQ X a f)
  (u:∀ρ H σd hd σ l q vs Q,RS X.K ρ H σd hd σ->(SqL X.K H q vs\/H q=some (.tup vs))->RDs X.K ρ H l vs->bZ X.K (rD X.K) ρ H σd σ (g l hd) Q->r [.ref q] H Q)
  (i:starEach [a] X.env=(false,eval a X.env) :: starEach [] X.env:=by rfl):ME X (.Call (.Name x p) [a] [] pos) (λσ h=>(f σ h).bind λl h=>g l h):=by
 refine PE.imp (t _ (cP m em i)) λσ H Q ⟨ρ,σd,hd,s,j⟩=>⟨ρ,σd,hd,s,(bZ.bind (R:=rQ X.K) j).imp λv H1 ⟨d,l,e,w,b,⟨q,vs,o,n,c⟩,k⟩ => ?_⟩;subst o;exact u d H1 σd e σ l q vs Q b n c k
theorem K2 {a:Expr}{r:List V->Hp->VK->Prop}{g:D->Hd->Res D}(n:B1 X r x p pos a)(k:ME X a fa)
  (o:∀ρ H σd hd σ d v Q,RS X.K ρ H σd hd σ->RD X.K ρ H d v->bZ X.K (rD X.K) ρ H σd σ (g d hd) Q->r [v] H Q)
  (f:starEach [a] X.env=(false,eval a X.env) :: starEach [] X.env:=by rfl):ME X (.Call (.Name x p) [a] [] pos) (λσ h=>(fa σ h).bind λx h=>g x h):=by
 refine PE.imp (n _ (cP k em f)) λσ H Q ⟨ρ,σd,hd,m,i⟩=>⟨ρ,σd,hd,m,(bZ.bind (R:=rD X.K) i).imp λv H1 ⟨c,d,e,q,b,l,j⟩ => ?_⟩;exact o c H1 σd e σ d v Q b l j
theorem cD  {a:Expr} {d:LF} (k:Gl X "len") (hm:X.mg "len" = none) (e:MQ X a d) (c:starEach [a] X.env=(false,eval a X.env) :: starEach [] X.env:=by rfl):ME X (.Call (.Name "len" p) [a] [] pos) (cB d) :=
 qW (g:=λl h=>.ok (.int l.length) h) (Bc vq k hm PySem.boot_len (he:=c)) e (λρ H σd hd σ l q j Q i f b p=>⟨q,j,rfl,f.imp id SqT.of,by rw[<-b.length];exact p.here i (by simp only[rD,RD])⟩) c
theorem gB  {a:Expr} {i:LF} (r:Gl X "tuple") (hm:X.mg "tuple" = none) (m:MQ X a i) (f:starEach [a] X.env=(false,eval a X.env) :: starEach [] X.env:=by rfl):ME X (.Call (.Name "tuple" p) [a] [] pos) (gJ i):=by
 refine qW (g:=λl h=>.ok (.tup l) h) (HU tw r hm (by decide +kernel) (he:=f)) m (λρ H σd hd σ l q d Q j b c p=>⟨q,d,rfl,?_⟩) f;rcases b with b|b
 ·refine .inl ⟨b,λn k => ?_⟩
  have e:=cy (o:=HO.tup d) k;exact p.at (Ext.same e) (j.same e) (by simp only[rD,RD];exact⟨n,d,rfl,bi,c.mono (Kp.same e)⟩)
 ·exact .inr ⟨SqT.of b,p.here j (by simp only[rD,RD];exact⟨q,d,rfl,b,c⟩)⟩
theorem Gu  {a:Expr}  (k:Gl X "int") (hm:X.mg "int" = none) (j:ME X a fa) (e:starEach [a] X.env=(false,eval a X.env) :: starEach [] X.env:=by rfl):ME X (.Call (.Name "int" p) [a] [] pos) (zq fa):=by
 refine K2 (g:=λx h=>match x with | .int i=>.ok (.int i) h | .bl b=>.ok (.int (b2i b)) h|_=>.bad) (HU Cd k hm (by decide +kernel) (he:=e)) j (λρ H σd hd σ d v Q f c p => ?_) e;cases d<;>first|exact p.elim|skip
 ·simp only[RD]at c;subst c
  exact .inr ⟨_,rfl,p.here f (by simp only[rD,RD];rfl)⟩
 ·simp only[RD]at c;subst c
  exact .inl ⟨_,rfl,p.here f (by simp only[rD,RD])⟩
theorem xi (ns:List Int):PySem.preSum (λi=>ns.getD i 0) ns.length=ns.sum:=by
 have a:∀k,k<=ns.length->PySem.preSum (λi=>ns.getD i 0) k=(ns.take k).sum:=by
  intro k
  induction k with
  | zero=>intro _;simp[PySem.preSum]
  | succ k ih =>
   intro b;rw[PySem.preSum,ih (by omega),List.take_add_one,ZE (by omega),List.sum_append];simp[List.getD,ZE (show k < ns.length by omega)]
 rw[a _ (ZL _),WC]
theorem Bd {a:List T0}{ns:List Int}(r:aY (ns.map V.int) a)(i:Nat)(v:T0)(h:a.toArray[i]? = some v):∃t,v=.int (ns.getD i 0) t:=by
 have c:a[i]? = some v:=by simpa using h
 have g:=r.length;have hi:i < a.length:=(List.getElem?_eq_some_iff.mp c).1;have d:i < ns.length:=by rw[<-g]at hi;simpa using hi
 obtain⟨u,b,f⟩:=r.get (i:=i) (x:=.int ns[i]) (by simp[d]);rw[c]at b;cases b;obtain⟨t,e⟩:=f;exact⟨t,by rw[e];simp[List.getD,d]⟩
theorem Cj (hc:X.calm=true):fO X (.builtin "sum") (λxs H Q=>∃(p:Addr) (ns:List Int),xs=[.ref p]/\(SqL X.K H p (ns.map V.int)\/SqT X.K H p (ns.map V.int))/\Q (.int ns.sum) H):=by
 intro pins s σ H xs A Q I r q;obtain⟨p,ns,rfl,j,q⟩:=q;obtain⟨u,rfl,x⟩:=aY.one r;cases (show u=Value.ref p from x);have m:∀{w:Obj} {h:Heap} {tk:Nat} {t':Tok} {n:Nat},n=ns.length->(∀b o,b∉[s.heap.objs.size]->(s.heap.push w).get? b=some o->h.get? b=some o)->EP X pins σ Q (.int (PySem.preSum (λi=>ns.getD i 0) n) t') { s with heap:=h,toks:=tk }:=by
  intro w h tk t' n y l;subst y;refine⟨.int ns.sum,H,I.kept (t':=tk) λb o e=>l b o (by simp;exact ZN (ZI e)) (ZH _ e),⟨t',by rw[xi]⟩,q⟩
 have v:(X.A.in1).handled=none:=I.ok.hd hc;rcases j with j|j
 ·obtain⟨c,k,t,z⟩:=I.list j
  have f:s.heap.IsList p c.toArray:=t.isList;have a:p < s.heap.objs.size:=by obtain⟨o,g,_⟩:=f;exact ZI g
  refine PySem.call_sum_walkG (PySem.wpAny_pyIter_list f ?_);refine⟨s.heap.objs.size,_,[s.heap.objs.size],_,_,_,λi=>ns.getD i 0,rfl,PySem.Walks.list v s.heap.objs.size p (ZN a) c.toArray,⟨⟨_,ZJ _ rfl,rfl,rfl⟩,?_⟩,?_,Bd k,?_⟩
  ·obtain⟨o,g,r⟩:=f;exact⟨o,ZH _ g,r⟩
  ·intro b d
   rcases Y6.mp d with rfl|d
   ·rw[v3];exact wB _
   ·simp at d;subst d;rw[v3];exact yS a
  ·exact λh tk t' l=>m (by simpa using k.length.symm) l
 ·obtain⟨c,k,t,z⟩:=I.tuple j
  have f:s.heap.IsTuple p c.toArray:=t;have a:p < s.heap.objs.size:=by obtain⟨o,g,_⟩:=f;exact ZI g
  refine PySem.call_sum_walkG (WU f ?_);refine⟨s.heap.objs.size,_,[s.heap.objs.size],_,_,_,λi=>ns.getD i 0,rfl,PySem.Walks.tuple v s.heap.objs.size p (ZN a) c.toArray,⟨⟨_,ZJ _ rfl,rfl,rfl⟩,?_⟩,?_,Bd k,?_⟩
  ·obtain⟨o,g,r⟩:=f;exact⟨o,ZH _ g,r⟩
  ·intro b d
   rcases Y6.mp d with rfl|d
   ·rw[v3];exact wB _
   ·simp at d;subst d;rw[v3];exact yS a
  ·exact λh tk t' l=>m (by simpa using k.length.symm) l
theorem lA {K:ZX}{ρ:List Addr}{H:Hp}:∀{l:List D} {b:List V} {a:List Int},RDs K ρ H l b->dm l=some a->b=a.map V.int
 | [],_,a,r,e=>by simp only[dm]at e;cases e;simp only[RDs]at r;subst r;rfl
 | d :: l,_,a,r,e=>by
  simp only[RDs]at r;obtain⟨v,b,rfl,h1,h2⟩:=r;cases d<;>simp only[dm]at e<;>try (cases e;done)
  rename_i i
  cases c:dm l with
  | none=>rw[c]at e;cases e
  | some js =>
   rw[c]at e;cases e;simp only[RD]at h1;rw[h1,lA h2 c];rfl
theorem zt  {a:Expr} {f:LF} (hc:X.calm=true) (m:Gl X "sum") (hm:X.mg "sum" = none) (i:MQ X a f) (d:starEach [a] X.env=(false,eval a X.env) :: starEach [] X.env:=by rfl):ME X (.Call (.Name "sum" p) [a] [] pos) (qR f):=by
 refine qW (g:=λl h=>match dm l with|some is=>.ok (.int is.sum) h|none=>.bad) (Bc (Cj hc) m hm (by decide +kernel) (he:=d)) i (λρ H σd hd σ l q n Q k j b p => ?_) d;cases c:dm l with
 | none=>simp only[c]at p;exact p.elim
 | some is =>
  simp only[c]at p;have e:=lA b c;subst e;exact⟨q,is,rfl,j.imp id SqT.of,p.here k (by simp only[rD,RD])⟩
end
section
variable {K:ZX} {ρ:List Addr} {H:Hp}
mutual
theorem xj:∀{d k:D} {v:V} {b:Bool},RD K ρ H d v->RD K ρ H k v->peq d k=some b->b=true
 | .int i,k,v,b,h1,h2,e=>by
  simp only[RD]at h1;subst h1;cases k<;>simp only[RD]at h2<;>try (cases h2;done)
  all_goals first
   | (cases h2;simp only[peq]at e;simpa using e.symm)
   | (obtain⟨_,_,z,_⟩:=h2;cases z;done)
   | (obtain⟨_,_,z⟩:=h2;cases z;done)
   | (obtain⟨_,_,_,z,_⟩:=h2;cases z;done)
 | .bl i,k,v,b,h1,h2,e=>by
  simp only[RD]at h1;subst h1;cases k<;>simp only[RD]at h2<;>try (cases h2;done)
  all_goals first
   | (cases h2;simp only[peq]at e;simpa using e.symm)
   | (obtain⟨_,_,z,_⟩:=h2;cases z;done)
   | (obtain⟨_,_,z⟩:=h2;cases z;done)
   | (obtain⟨_,_,_,z,_⟩:=h2;cases z;done)
 | .str x,k,v,b,h1,h2,e=>by
  simp only[RD]at h1;subst h1;cases k<;>simp only[RD]at h2<;>try (cases h2;done)
  all_goals first
   | (simp only[peq]at e;simp only[toS,V.str.injEq,PySem.Str.mk.injEq]at h2;have g:=congrArg Array.toList h2;simp at g;subst g;simpa using e.symm)
   | (obtain⟨_,_,z,_⟩:=h2;cases z;done)
   | (obtain⟨_,_,z⟩:=h2;cases z;done)
   | (obtain⟨_,_,_,z,_⟩:=h2;cases z;done)
 | .non,k,v,b,h1,h2,e=>by
  simp only[RD]at h1;subst h1;cases k<;>simp only[RD]at h2<;>try (cases h2;done)
  all_goals first
   | (simp only[peq]at e;simpa using e.symm)
   | (obtain⟨_,_,z,_⟩:=h2;cases z;done)
   | (obtain⟨_,_,z⟩:=h2;cases z;done)
   | (obtain⟨_,_,_,z,_⟩:=h2;cases z;done)
 | .tup xs,k,v,b,h1,h2,e=>by
  simp only[RD]at h1;obtain⟨p,q,rfl,j,h⟩:=h1;cases k<;>simp only[peq]at e<;>try (cases e;done)
  ·simp only[RD]at h2;cases h2
  ·simp only[RD]at h2;cases h2
  ·rename_i ys
   simp only[RD]at h2;obtain⟨o,m,z,a,f⟩:=h2;cases z;rw[j]at a;cases a;cases c:gS xs ys with
   | none=>rw[c]at e;cases e
   | some b' =>
    rw[c]at e;simp only[XC,YA]at e;have:=ur h f c;subst this;rw[<-e,h.length,f.length];simp
 | .ref n,k,v,b,h1,h2,e=>by cases k<;>simp only[peq]at e<;>cases e
 | .lit l,k,v,b,h1,h2,e=>by cases k<;>simp only[peq]at e<;>cases e
 | .exn c l,k,v,b,h1,h2,e=>by simp only[peq]at e<;>cases e
theorem ur:∀{xs ys:List D} {a:List V} {b:Bool},RDs K ρ H xs a->RDs K ρ H ys a->gS xs ys=some b->b=true
 | [],_,_,_,_,_,e=>by simp only[gS]at e;cases e;rfl
 | x :: xs,[],_,_,_,_,e=>by simp only[gS]at e;cases e;rfl
 | x :: xs,y :: ys,_,b,h1,h2,e=>by
  simp only[RDs]at h1 h2;obtain⟨v,r,rfl,g,d⟩:=h1;obtain⟨j,i,z,h,f⟩:=h2;cases z;simp only[gS]at e;cases c:peq x y with
  | none=>rw[c]at e;cases e
  | some p =>
   cases c2:gS xs ys with
   | none=>rw[c,c2]at e;cases e
   | some q =>
    rw[c,c2]at e;simp only[YA]at e;rw[<-e,xj g h c,ur d f c2];rfl
end
end
section
variable {K:ZX} {ρ:List Addr} {H:Hp} {P:T6} {w:T7} {s:T4}
theorem jj (hok:HOk P w H s.heap){p:Addr}(h:H p=some (.tup vs)):∃a:List T0,aY vs a/\s.heap.IsTuple p a.toArray:=by
 obtain⟨z,a,r,t⟩:=hok p _ h;exact⟨a,r,t⟩
mutual
theorem Jd (hok:HOk P w H s.heap):∀{d k:D} {v g:V} {u a:T0} {b:Bool} {A:T5},RD K ρ H d v->RD K ρ H k g->bJ v u->bJ g a->peq d k=some b->A.units + dep d < cLine->SeqAt.EqAt A s u a b
 | .int i,k,v,g,u,a,b,A,h1,h2,r1,r2,e,hu=>by
  simp only[RD]at h1;subst h1;obtain⟨t,rfl⟩:=r1;cases k<;>simp only[peq]at e<;>try (cases e;done)
  all_goals cases e
  ·simp only[RD]at h2;subst h2;cases r2;exact SeqAt.EqAt.int_none i t
  ·simp only[RD]at h2;subst h2;cases r2;exact SeqAt.EqAt.int_bool i t _
  ·simp only[RD]at h2;subst h2;obtain⟨h,rfl⟩:=r2;exact SeqAt.EqAt.int_int i t _ h
  ·simp only[RD]at h2;obtain⟨p,M,rfl,C,_⟩:=h2;cases r2
   obtain⟨m,_,r⟩:=jj hok C;exact SeqAt.EqAt.int_tuple i t r (ZS (Z1 _ _) hu)
 | .bl i,k,v,g,u,a,b,A,h1,h2,r1,r2,e,hu=>by
  simp only[RD]at h1;subst h1;cases r1;cases k<;>simp only[peq]at e<;>try (cases e;done)
  all_goals cases e
  ·simp only[RD]at h2;subst h2;cases r2;exact SeqAt.EqAt.bool_bool i _
  ·simp only[RD]at h2;subst h2;obtain⟨h,rfl⟩:=r2;exact SeqAt.EqAt.bool_int i _ h
 | .str x,k,v,g,u,a,b,A,h1,h2,r1,r2,e,hu=>by
  simp only[RD]at h1;subst h1;obtain⟨t,rfl⟩:=r1;cases k<;>simp only[peq]at e<;>try (cases e;done)
  all_goals cases e
  rename_i y
  simp only[RD]at h2;subst h2;obtain⟨h,rfl⟩:=r2;have:decide (x=y)=(toS x == toS y):=by
   by_cases z:x=y
   ·subst z;simp
   ·have : ¬toS x=toS y:=λq=>z (by have:=congrArg (λ(s:Str)=>s.cps.toList) q;simpa[toS] using this)
    simp[z,this]
  rw[this];exact SeqAt.EqAt.str_str _ t _ h
 | .non,k,v,g,u,a,b,A,h1,h2,r1,r2,e,hu=>by
  simp only[RD]at h1;subst h1;cases r1;cases k<;>simp only[peq]at e<;>try (cases e;done)
  all_goals cases e
  ·simp only[RD]at h2;subst h2;cases r2;exact SeqAt.EqAt.same _
  ·simp only[RD]at h2;subst h2;obtain⟨h,rfl⟩:=r2;exact SeqAt.EqAt.none_int _ h
  ·simp only[RD]at h2;obtain⟨p,M,rfl,C,_⟩:=h2;cases r2
   obtain⟨m,_,r⟩:=jj hok C;exact SeqAt.EqAt.none_tuple r (ZS (Z1 _ _) hu)
 | .tup xs,k,v,g,u,a,b,A,h1,h2,r1,r2,e,hu=>by
  have F:=h1;simp only[RD]at h1;obtain⟨p,M,rfl,C,q1⟩:=h1;cases r1;obtain⟨m,L,r⟩:=jj hok C;have B:A.units < cLine:=ZS (Z1 _ _) hu;cases k<;>simp only[peq]at e<;>try (cases e;done)
  ·cases e;simp only[RD]at h2;subst h2;cases r2;exact SeqAt.EqAt.tuple_none r B
  ·cases e;simp only[RD]at h2;subst h2;obtain⟨h,rfl⟩:=r2;exact SeqAt.EqAt.tuple_int _ h r B
  ·rename_i ys
   have G:=h2;simp only[RD]at h2;obtain⟨O,N,rfl,I,q2⟩:=h2;cases r2
   by_cases hpp:p=O
   ·subst hpp
    have:b=true:=xj F G (by simp only[peq];exact e);subst this;exact SeqAt.EqAt.same _
   ·obtain⟨o,E,J⟩:=jj hok I
    cases c:gS xs ys with
    | none=>rw[c]at e;cases e
    | some b' =>
     rw[c]at e;simp only[XC,YA]at e;obtain⟨f,Q,R⟩:=qA hok (A:=A.in1) q1 q2 L E c (by simp only[dep]at hu;show A.units + 1 + ji xs < cLine;omega);have:=SeqAt.RcAt.tuples (s:=s) (A:=A) (e:=f) r J B (λj h1 h2=>by simpa using Q j (by simpa using h1) (by simpa using h2));rw[<-e,<-R,q1.length,q2.length,L.length,E.length];refine SeqAt.EqAt.of_refs hpp ?_;rw[show (decide (m.length=o.length))=(m.length == o.length) from rfl];simpa using this
 | .ref n,k,v,g,u,a,b,A,h1,h2,r1,r2,e,hu=>by cases k<;>simp only[peq]at e<;>cases e
 | .lit l,k,v,g,u,a,b,A,h1,h2,r1,r2,e,hu=>by cases k<;>simp only[peq]at e<;>cases e
 | .exn c l,k,v,g,u,a,b,A,h1,h2,r1,r2,e,hu=>by simp only[peq]at e<;>cases e
theorem qA (hok:HOk P w H s.heap):∀{xs ys:List D} {h d:List V} {g a:List T0} {b:Bool} {A:T5},RDs K ρ H xs h->RDs K ρ H ys d->aY h g->aY d a->gS xs ys=some b->A.units + ji xs < cLine->
  ∃f:Nat->Bool,(∀j (h1:j < g.length) (h2:j < a.length),SeqAt.EqAt A s g[j] a[j] (f j))/\(List.range (min g.length a.length)).all f=b
 | [],ys,h,d,g,a,b,A,h1,h2,r1,r2,e,hu=>by
  simp only[RDs]at h1;subst h1;cases r1;simp only[gS]at e;cases e;exact⟨λ_=>true,λj h1=>by simp at h1,by simp⟩
 | x :: xs,[],h,d,g,a,b,A,h1,h2,r1,r2,e,hu=>by
  simp only[RDs]at h2;subst h2;cases r2;simp only[gS]at e;cases e;exact⟨λ_=>true,λj h1 h2=>by simp at h2,by simp⟩
 | x :: xs,y :: ys,h,d,g,a,b,A,h1,h2,r1,r2,e,hu=>by
  simp only[RDs]at h1 h2;obtain⟨v,r,rfl,o,i⟩:=h1;obtain⟨z,u,rfl,l,t⟩:=h2;cases r1 with
  | cons p1 p2 =>
   cases r2 with
   | cons s1 s2 =>
    simp only[gS]at e;cases c:peq x y with
    | none=>rw[c]at e;cases e
    | some p =>
     cases c2:gS xs ys with
     | none=>rw[c,c2]at e;cases e
     | some q =>
      rw[c,c2]at e;simp only[YA]at e;simp only[ji]at hu;have n:=Jd hok (A:=A) o l p1 s1 c (by omega);obtain⟨f,k,m⟩:=qA hok (A:=A) i t p2 s2 c2 (by omega);refine⟨λj=>match j with|0=>p|j + 1=>f j,λj h1 h2 => ?_,?_⟩
      ·cases j with
       | zero=>exact n
       | succ j=>exact k j (by simpa using h1) (by simpa using h2)
      ·rw[<-e,<-m,YD,YD,Nat.succ_min_succ,List.range_succ_eq_map,X4,List.all_map]
       rfl
end
theorem Je (hok:HOk P w H s.heap){d k:D}{v L:V}{u C:T0}{b:Bool}{A:T5}(h1:RD K ρ H d v)(h2:RD K ρ H k L)(n:bJ v u)(h:bJ L C)(e:peq d k=some b)(I:A.units + dep d < cLine) :
  SeqAt.RcAt A s u C b/\SeqAt.RcNeAt A s u C (!b):=by
 have a:A.units < cLine:=ZS (Z1 _ _) I;cases d<;>simp only[RD]at h1
 ·subst h1;cases n
  cases k<;>simp only[peq]at e<;>try (cases e;done)
  all_goals cases e
  ·simp only[RD]at h2;subst h2;cases h;exact⟨SeqAt.RcAt.none_none,SeqAt.RcNeAt.none_none⟩
  ·simp only[RD]at h2;subst h2;obtain⟨g,rfl⟩:=h;exact⟨SeqAt.RcAt.none_int _ g,SeqAt.RcNeAt.none_int _ g⟩
  ·simp only[RD]at h2;obtain⟨p,J,rfl,o,_⟩:=h2;cases h
   obtain⟨l,_,i⟩:=jj hok o;exact⟨SeqAt.RcAt.none_tuple i a,SeqAt.RcNeAt.none_tuple i a⟩
 ·subst h1;cases n
  cases k<;>simp only[peq]at e<;>try (cases e;done)
  all_goals cases e
  ·simp only[RD]at h2;subst h2;cases h;exact⟨SeqAt.RcAt.bool_bool _ _,SeqAt.RcNeAt.bool_bool _ _⟩
  ·simp only[RD]at h2;subst h2;obtain⟨g,rfl⟩:=h;exact⟨SeqAt.RcAt.bool_int _ _ g,SeqAt.RcNeAt.bool_int _ _ g⟩
 ·subst h1;obtain⟨t,rfl⟩:=n
  cases k<;>simp only[peq]at e<;>try (cases e;done)
  all_goals cases e
  ·simp only[RD]at h2;subst h2;cases h;exact⟨SeqAt.RcAt.int_none _ t,SeqAt.RcNeAt.int_none _ t⟩
  ·simp only[RD]at h2;subst h2;cases h;exact⟨SeqAt.RcAt.int_bool _ t _,SeqAt.RcNeAt.int_bool _ t _⟩
  ·simp only[RD]at h2;subst h2;obtain⟨g,rfl⟩:=h;exact⟨SeqAt.RcAt.int_int _ t _ g,SeqAt.RcNeAt.int_int _ t _ g⟩
  ·simp only[RD]at h2;obtain⟨p,J,rfl,o,_⟩:=h2;cases h
   obtain⟨l,_,i⟩:=jj hok o;exact⟨SeqAt.RcAt.int_tuple _ t i a,SeqAt.RcNeAt.int_tuple _ t i a⟩
 ·subst h1;obtain⟨t,rfl⟩:=n
  cases k<;>simp only[peq]at e<;>try (cases e;done)
  all_goals cases e
  rename_i x y
  simp only[RD]at h2;subst h2;obtain⟨g,rfl⟩:=h;have:decide (x=y)=(toS x == toS y):=by
   by_cases z:x=y
   ·subst z;simp
   ·have : ¬toS x=toS y:=λq=>z (by have:=congrArg (λ(s:Str)=>s.cps.toList) q;simpa[toS] using this)
    simp[z,this]
  rw[this];exact⟨SeqAt.RcAt.str_str _ t _ g,SeqAt.RcNeAt.str_str _ t _ g⟩
 ·rename_i xs
  obtain⟨p,J,rfl,o,q1⟩:=h1;cases n;obtain⟨l,G,i⟩:=jj hok o;cases k<;>simp only[peq]at e<;>try (cases e;done)
  ·cases e;simp only[RD]at h2;subst h2;cases h;exact⟨SeqAt.RcAt.tuple_none i a,SeqAt.RcNeAt.tuple_none i a⟩
  ·cases e;simp only[RD]at h2;subst h2;obtain⟨g,rfl⟩:=h;exact⟨SeqAt.RcAt.tuple_int _ g i a,SeqAt.RcNeAt.tuple_int _ g i a⟩
  ·rename_i ys
   simp only[RD]at h2;obtain⟨R,M,rfl,E,q2⟩:=h2;cases h;obtain⟨m,r,B⟩:=jj hok E;cases c:gS xs ys with
   | none=>rw[c]at e;cases e
   | some b' =>
    rw[c]at e;simp only[XC,YA]at e;obtain⟨f,F,O⟩:=qA hok (A:=A.in1) q1 q2 G r c (by simp only[dep]at I;show A.units + 1 + ji xs < cLine;omega);have Q:=SeqAt.RcAt.tuples (s:=s) (A:=A) (e:=f) i B a (λj h1 h2=>by simpa using F j (by simpa using h1) (by simpa using h2));have N:=SeqAt.RcNeAt.tuples (s:=s) (A:=A) (e:=f) i B a (λj h1 h2=>by simpa using F j (by simpa using h1) (by simpa using h2));rw[<-e,<-O,q1.length,q2.length,G.length,r.length,show (decide (l.length=m.length))=(l.length == m.length) from rfl];exact⟨by simpa using Q,by simpa using N⟩
 ·cases k<;>simp only[peq]at e<;>cases e
 ·cases k<;>simp only[peq]at e<;>cases e
 ·simp only[peq]at e<;>cases e
end
section
variable {X:Cx}
theorem ma {hd:Hd}{d:D}{v:V}(r:RH K ρ H hd)(h:RD K ρ H d v)(e:dI hd d=some l):∃p b,v=.ref p/\SqL K H p b/\RDs K ρ H l b:=by
 cases d<;>simp only[dI]at e<;>try (cases e;done)
 ·rename_i n
  simp only[RD]at h;obtain⟨a,g,f⟩:=h;cases c:hd[n]? with
  | none=>rw[c]at e;cases e
  | some x =>
   rw[c]at e;cases x with
   | dct l=>cases e
   | dcT l=>cases e
   | lst l' =>
    cases e;obtain⟨b,q1,q2⟩:=r.cel n _ a c g;exact⟨a,b,f,SqL.of q1,q2⟩
 ·cases e
  simp only[RD]at h;obtain⟨p,b,g,f,i⟩:=h;exact⟨p,b,g,f.sq,i⟩
theorem D1 {pins:List (Addr × Obj)}{σ:St}{s:T4}{hd:Hd}{d k:D}{v B:V}{u o:T0}{b:Bool}(N:X.A.units + 24 < cLine)(I:Inv X pins σ H s)(r:RH X.K ρ H hd)(h1:RD X.K ρ H d v)(h2:RD X.K ρ H k B)
  (w:bJ v u) (z:bJ B o) (e:eqG hd d k=some b):SeqAt.RcAt X.A s u o b/\SeqAt.RcNeAt X.A s u o (!b):=by
 have g:X.A.units < cLine:=by omega
 simp only[eqG]at e;cases c1:dI hd d with
 | none =>
  cases c2:dI hd k with
  | some l=>rw[c1,c2]at e;cases e
  | none =>
   rw[c1,c2]at e;simp only at e;split at e
   ·rename_i hd20
    exact Je I.hok h1 h2 w z e (by omega)
   ·cases e
 | some xs =>
  cases c2:dI hd k with
  | none=>rw[c1,c2]at e;cases e
  | some ys =>
   rw[c1,c2]at e;simp only[eqL]at e;obtain⟨p,O,rfl,C,q1⟩:=ma r h1 c1;obtain⟨K,F,rfl,M,q2⟩:=ma r h2 c2;cases w;cases z;obtain⟨c,y,G,_⟩:=I.list C;obtain⟨a,m,q,_⟩:=I.list M;have n:s.heap.IsList p c.toArray:=G.isList;have h:s.heap.IsList K a.toArray:=q.isList;have l1:xs.length=c.length:=q1.length.trans y.length;have l2:ys.length=a.length:=q2.length.trans m.length;split at e
   ·rename_i hd20
    split at e
    ·rename_i hl
     obtain⟨f,t,x⟩:=qA I.hok (A:=X.A.in1) q1 q2 y m e (by show X.A.units + 1 + ji xs < cLine;omega);have i:c.toArray.size=a.toArray.size:=by simp;omega
     have L:=SeqAt.RcAt.lists (s:=s) (A:=X.A) (e:=f) n h i g (λj h1 h2=>by simpa using t j (by simpa using h1) (by simpa using h2));have J:=SeqAt.RcNeAt.lists (s:=s) (A:=X.A) (e:=f) n h i g (λj h1 h2=>by simpa using t j (by simpa using h1) (by simpa using h2));have E:min c.length a.length=c.length:=by omega
     rw[E]at x;rw[<-x];exact⟨by simpa using L,by simpa using J⟩
    ·rename_i hl
     cases e;have i:(c.toArray.size != a.toArray.size)=true:=by simp;omega
     exact⟨SeqAt.RcAt.lists_lengths n h i g,SeqAt.RcNeAt.lists_lengths n h i g⟩
   ·cases e
def Gv (K:ZX) (f:Bool->Bool):R2:=λx y H Q=>∃ρ hd d k b,RH K ρ H hd/\RD K ρ H d x/\RD K ρ H k y/\eqG hd d k=some b/\Q (.bl (f b)) H
theorem de (f:X.A.units + 24 < cLine):OpR X (compareOp .Eq) (Gv X.K id):=by
 intro pins s σ H x y v u Q I c a h;obtain⟨ρ,hd,d,k,b,r,h1,h2,e,q⟩:=h;exact(D1 f I r h1 h2 c a e).1 _ _ _ _ ⟨.bl b,H,I,rfl,q⟩
theorem d8 (f:X.A.units + 24 < cLine):OpR X (compareOp .NotEq) (Gv X.K not):=by
 intro pins s σ H x y v u Q I c a h;obtain⟨ρ,hd,d,k,b,r,h1,h2,e,q⟩:=h;exact(D1 f I r h1 h2 c a e).2 _ _ _ _ ⟨.bl (!b),H,I,rfl,q⟩
theorem eC:Og K oEq (Gv K id):=by
 intro ρ H σd hd σ d k v w Q c f a p;unfold oEq at p;cases e:eqG hd d k with
 | none=>rw[e]at p;exact p.elim
 | some b=>rw[e]at p;exact⟨ρ,hd,d,k,b,c.hp,f,a,e,p.here c (by simp only[rD,RD];rfl)⟩
theorem fS:Og K oNe (Gv K not):=by
 intro ρ H σd hd σ d k v w Q c f a p;unfold oNe at p;cases e:eqG hd d k with
 | none=>rw[e]at p;exact p.elim
 | some b=>rw[e]at p;exact⟨ρ,hd,d,k,b,c.hp,f,a,e,p.here c (by simp only[rD,RD])⟩
end
section
variable {K:ZX} {ρ ρ':List Addr} {H H':Hp} {hd hd':Hd} {σd:Sd} {σ:St}
theorem ce.outE {r:Res D}{k:D->Hd->Out}{En:qJ}(p:ce K ρ H (outE r σd k) En) :
  bZ K (rD K) ρ H σd σ r (λv H'=>∃ρ' d hd',Ext ρ H ρ' H'/\RS K ρ' H' σd hd' σ/\RD K ρ' H' d v/\ce K ρ' H' (k d hd') En):=by
 cases r with
 | ok d h'=>exact λb H' ρ' ex a q=>⟨ρ',d,h',ex,a,q,ce.ext ex p⟩
 | exc x h'=>exact p
 | bad=>exact p
theorem RSt.set (r:RSt K ρ H σd σ){d:D}{v:V}(i:Nat)(h:RD K ρ H d v):RSt K ρ H (σd.set i (some d)) (σ.set i (some v)):=by
 refine⟨by simp[r.len],λj x e => ?_⟩
 by_cases hj:i=j
 ·subst hj
  by_cases hl:i < σd.length
  ·simp only[slot,List.getElem?_set_self hl]at e
   cases e;exact⟨v,by rw[List.getElem?_set_self (by rw[<-r.len];exact hl)],h⟩
  ·simp only[slot]at e
   rw[List.getElem?_eq_none (by simp;omega)]at e;cases e
 ·simp only[slot,ZP hj]at e
  rw[ZP hj];exact r.at' j x (by simpa only[slot] using e)
def K4 (K:ZX) (g:GF):TG:=λv σ H Q=>∃ρ σd hd d σd',RS K ρ H σd hd σ/\RD K ρ H d v/\g d σd=some σd'/\∀σ',RS K ρ H σd' hd σ'->Q σ' H
def Jf (σ:Sd) (l:List Nat) (xs:List D):Sd:=(l.zip xs).foldl (λσ p => σ.set p.1 (some p.2)) σ
def Jg (K:ZX) (l:List Nat):TGs:=λvs σ H Q=>∃ρ σd hd ds,RS K ρ H σd hd σ/\RDs K ρ H ds vs/\ds.length=l.length/\∀σ',RS K ρ H (Jf σd l ds) hd σ'->Q σ' H
end
def MG (X:Cx) (tg:Expr) (g:GF):Prop:=PG X tg (K4 X.K g)
def MGs (X:Cx) (ts:List Expr) (l:List Nat):Prop:=PGs X ts (Jg X.K l)
section
variable {X:Cx} {pos:Pos}
theorem PG.imp {tg:Expr}{t u:TG}(h:PG X tg t)(i:∀v σ H Q,u v σ H Q->t v σ H Q):PG X tg u:=λpins s σ H v w Q I r q=>h pins s σ H v w Q I r (i v σ H Q q)
theorem PGs.imp {tg:List Expr}{t u:TGs}(h:PGs X tg t)(i:∀v σ H Q,u v σ H Q->t v σ H Q):PGs X tg u:=λpins s σ H v w Q I r q=>h pins s σ H v w Q I r (i v σ H Q q)
theorem aL {i:Nat}(g:X.N.Nodup)(hi:X.N[i]? = some x)(f:Loc X.env.scope x)(c:X.fn x=true\/X.env.scope.names.lookup x=some .local:=by first|exact .inl rfl|exact .inr rfl|assumption):MG X (.Name x pos) (gN i):=by
 refine PG.imp (Ga g hi f c) λv σ H Q ⟨ρ,σd,hd,d,b,a,h,e,q⟩ => ?_;simp only[gN,YA]at e;subst e;exact q _ ⟨a.hp,a.st.set i h⟩
theorem hZ:MGs X [] []:=by
 refine PGs.imp Gb λc σ H Q ⟨ρ,σd,hd,ds,b,a,e,q⟩ => ?_;have:ds=[]:=by simpa using e
 subst this;simp only[RDs]at a;exact⟨a,q σ b⟩
theorem cm {i:Nat}{l:List Nat}(h1:MG X e (gN i))(h2:MGs X es l)
  (g:(assignEach (e :: es) X.env).map (·.2)=assign e X.env :: (assignEach es X.env).map (·.2):=by rfl):MGs X (e :: es) (i :: l):=by
 refine PGs.imp (DF h1 h2 g) λk σ H Q ⟨ρ,σd,hd,ds,j,f,e,q⟩ => ?_;cases ds with
 | nil=>simp at e
 | cons d ds =>
  simp only[RDs]at f;obtain⟨v,r,rfl,h1,h2⟩:=f;refine⟨v,r,rfl,ρ,σd,hd,d,_,j,h1,rfl,λh b => ?_⟩;exact⟨ρ,_,hd,ds,b,h2,by simpa using e,λa c=>q a c⟩
theorem j6 {k:Nat}{l:List Nat}(hc:X.calm=true)(h:MGs X es l)
  (g:(assignEach es X.env).length=l.length:=by rfl) (a:(assignEach es X.env).findIdx? (·.1)=none:=by rfl):MG X (.Tuple es k pos) (gT l):=by
 refine PG.imp (IG hc h g a) λv σ H Q ⟨ρ,σd,hd,d,c,i,b,e,q⟩ => ?_;cases d<;>simp only[gT]at e<;>try (cases e;done)
 rename_i xs
 split at e
 ·rename_i hl
  cases e;simp only[RD]at b;obtain⟨p,j,rfl,f,r⟩:=b;exact⟨p,j,rfl,SqT.of f,by rw[<-r.length];exact hl,ρ,σd,hd,xs,i,r,hl,q⟩
 ·cases e
theorem aE:MSs X [] br:=PSs.imp F7 λEn σ H ⟨ρ,σd,hd,a,p⟩=>p σ H ρ Ext.refl a
theorem af {st:Stmt}{rest:List Stmt}{a b:SF}(h1:MS X st a)(h2:MSs X rest b):MSs X (st :: rest) (ax a b):=by
 refine PSs.imp (DD h1 h2) λEn σ H ⟨ρ,σd,hd,g,p⟩=>⟨ρ,σd,hd,g,?_⟩;unfold ax at p;cases e:a σd hd with
 | nx σ1 h1=>rw[e]at p;exact λf H' ρ' ex c=>⟨ρ',σ1,h1,c,ce.ext ex p⟩
 | rt d h1=>rw[e]at p;exact p
 | bk σ1 h1=>rw[e]at p;exact p
 | ct σ1 h1=>rw[e]at p;exact p
 | exc x σ1 h1=>rw[e]at p;exact p
 | bad=>rw[e]at p;exact p
theorem ah {st:Stmt}{a:SF}(h:MS X st a):MSs X [st] a:=F8 h
theorem xk:MS X (.Continue pos) Ja:=PS.imp xa λEn σ H ⟨ρ,σd,hd,a,p⟩=>p σ H ρ Ext.refl a
theorem gU {st:Stmt}:MS X st nG:=PS.imp DE λEn σ H ⟨ρ,σd,hd,a,p⟩=>p.elim
theorem aB (h:ME X e f):MS X (.Return (some e) pos) (aZ f):=by
 refine PS.imp (IB h) λEn σ H ⟨ρ,σd,hd,i,p⟩=>⟨ρ,σd,hd,i,(ce.outE p).imp λv H1 ⟨b,d,j,k,a,g,c⟩ => ?_⟩;exact c v H1 b Ext.refl a.hp g
theorem gD (h:ME X e f)(c:swapsWith e none pos.line X.env=pure false:=by rfl):MS X (.Expr e pos) (jG f):=by
 refine PS.imp (F9 h c) λEn σ H ⟨ρ,σd,hd,i,p⟩=>⟨ρ,σd,hd,i,(ce.outE p).imp λv H1 ⟨b,d,j,l,a,k,g⟩ => ?_⟩;exact g σ H1 b Ext.refl a
theorem bo {c:Expr}{a b:List Stmt}{t:TF}{fa f:SF}(hc:MT X c t)(g:MSs X a fa)(i:MSs X b f):MS X (.If c a b pos) (sIf t fa f):=by
 refine PS.imp (Ky hc g i) λEn σ H ⟨ρ,σd,hd,h,p⟩=>⟨ρ,σd,hd,h,?_⟩;unfold sIf at p;cases e:t σd hd with
 | ok c h1 =>
  rw[e]at p;intro b H' ρ' ex d q;cases q;cases c with
  | true=>simp only[YL]at p ⊢;exact⟨ρ',σd,h1,d,ce.ext ex p⟩
  | false=>simp only[wJ,YQ]at p ⊢;exact⟨ρ',σd,h1,d,ce.ext ex p⟩
 | exc x h1=>rw[e]at p;exact p
 | bad=>rw[e]at p;exact p
theorem aV {i:Nat}{a:Pos}(l:X.N.Nodup)(hi:X.N[i]? = some x)(k:Loc X.env.scope x)(he:ME X e f)(g:swapsWith e (some (.Name x a)) pos.line X.env=pure false:=by rfl)(h:X.fn x=true\/X.env.scope.names.lookup x=some .local:=by first|exact .inl rfl|exact .inr rfl|assumption) :
  MS X (.Assign [.Name x a] e pos) (aQ (gN i) f):=by
 refine PS.imp (IH l hi k he g h) λEn σ H ⟨ρ,σd,hd,n,p⟩=>⟨ρ,σd,hd,n,(ce.outE p).imp λv H1 ⟨c,d,o,q,b,m,j⟩ => ?_⟩;exact j _ H1 c Ext.refl ⟨b.hp,b.st.set i m⟩
theorem D2 {tg:Expr}{g:GF}(he:ME X e f)(o:MG X tg g)(l:swapsWithSole [tg] e pos.line X.env=pure false:=by rfl)(hw:swappedStores [tg] e X.env=pure none:=by rfl)
  (h1:(assignEach [tg] X.env).map (·.2)=[assign tg X.env]:=by rfl):MS X (.Assign [tg] e pos) (aQ g f):=by
 refine PS.imp (vj he o l hw h1) λEn σ H ⟨ρ,σd,hd,n,p⟩=>⟨ρ,σd,hd,n,(ce.outE p).imp λv H1 ⟨a,d,k,q,i,m,b⟩ => ?_⟩;cases c:g d σd with
 | none=>rw[c]at b;exact b.elim
 | some σ1=>rw[c]at b;exact⟨a,σd,k,d,σ1,i,m,c,λh j=>b h H1 a Ext.refl j⟩
theorem Jh:Fm.ixN=L2.ixN:=rfl
theorem vz {o i:Expr}{A F C:EF}{p2:Pos}(he:ME X e C)(M:ME X o A)(hi:ME X i F)(I:swapsWithSole [.Subscript o i p2] e pos.line X.env=pure false:=by rfl)(hw:swappedStores [.Subscript o i p2] e X.env=pure none:=by rfl)
  (h1:(assignEach [.Subscript o i p2] X.env).map (·.2)=[assign (.Subscript o i p2) X.env]:=by rfl) (s:∀v,assign (.Subscript o i p2) X.env v=(do
   let ov <-holding [v] (eval o X.env)
   let iv <-holding [v,ov] (eval i X.env)
   standAt p2
   holding [v,ov,iv] (setItem ov iv v)
   release [v,ov,iv] []):=by intro _;rfl):MS X (.Assign [.Subscript o i p2] e pos) (nH A F C):=by
 refine PS.imp (vj he (zd M hi DR s) I hw h1) λEn σ H ⟨ρ,σd,hd,R,p⟩=>⟨ρ,σd,hd,R,(ce.outE p).imp λv H1 ⟨w,d,z,V,q,O,L⟩ => ?_⟩;refine⟨w,σd,z,q,(ce.outE L).imp λY W ⟨x,T,y,K,h,J,p2⟩ => ?_⟩;refine⟨x,σd,y,h,(ce.outE p2).imp λU E ⟨g,S,m,B,f,D,b⟩ => ?_⟩;have u:=(O.mono (q.hp.kp K)).mono (h.hp.kp B);have t:=J.mono (h.hp.kp B);cases T with
 | ref n =>
  cases S with
  | int j =>
   simp only at b;cases c:m[n]? with
   | none=>rw[c]at b;exact b.elim
   | some cell =>
    rw[c]at b;cases cell with
    | dct l=>exact b.elim
    | dcT l=>exact b.elim
    | lst l =>
     simp only at b;cases c2:ixN l.length j with
     | none=>rw[c2]at b;exact b.elim
     | some k =>
      rw[c2]at b;simp only[RD]at t D;obtain⟨a,s,rfl⟩:=t;obtain⟨G,P,r⟩:=f.hp.cel n _ a c s;refine⟨a,G,j,k,rfl,D,P,by rw[<-r.length,<-Jh];exact c2,?_⟩;have Q:n < m.length:=(List.getElem?_eq_some_iff.mp c).1;have N:=f.hp.write s Q (RDs.set u k r);have ex:Ext g E g (upd E a (.lst (G.set k v))):=Ext.write (ZK s);exact b σ _ g ex (f.ext ex N)
  | _=>exact b.elim
 | _=>exact b.elim
end
section
variable (K:ZX)
structure tF (ρ0:List Addr) (H0:Hp) (J:It) (l:List D) (g:Option Nat):Prop where
 go:∀ρ H hd (i:Nat) d,Ext ρ0 H0 ρ H->RH K ρ H hd->dH g l hd->l[i]? = some d->J.go i H/\∀x H',J.yld i H x H'->kZ H H'/\RD K ρ H' d x
 stop:∀ρ H hd,Ext ρ0 H0 ρ H->RH K ρ H hd->dH g l hd->J.stop l.length H
 sz:l.length<=sizeLine
def K5 (ρ:List Addr) (H:Hp) (σd:Sd) (σ:St) (r:Res (List D × Option Nat)) (R:It->Hp->Prop):Prop:=match r with
 | .ok p hd'=>∀J H' ρ',Ext ρ H ρ' H'->RS K ρ' H' σd hd' σ->tF K ρ' H' J p.1 p.2->R J H'
 | _=>False
def K6 (f:IF):TI:=λσ H R=>∃ρ σd hd,RS K ρ H σd hd σ/\K5 K ρ H σd σ (f σd hd) R
end
def MI (X:Cx) (tg e:Expr) (f:IF):Prop:=PI X tg e (K6 X.K f)
section
variable {X:Cx} {pos:Pos} {tg:Expr}
theorem PI.imp {t u:TI}(h:PI X tg e t)(i:∀σ H R,u σ H R->t σ H R):PI X tg e u:=λpins s σ H R I q=>h pins s σ H R I (i σ H R q)
theorem fX {t:Expr}{body:List Stmt}{f:IF}{g:GF}{b:SF}(hp:PassesOwn (model X.prog X.w) X.A X.env X.xe)(hc:X.calm=true)(hi:MI X tg t f)(hg:MG X tg g)(Z:MSs X body b)
  (R:∀x,foldedSetIterable t X.env x=pure x:=by intro _;rfl):MS X (.For tg t body [] pos) (fN f g b):=by
 refine PS.imp (DJ hp hc hi hg Z R) λEn σ H ⟨ρ,σd,hd,Y,p⟩=>⟨ρ,σd,hd,Y,?_⟩;unfold fN at p;cases e:f σd hd with
 | exc x h'=>rw[e]at p;exact p
 | bad=>rw[e]at p;exact p
 | ok q hd1 =>
  rw[e]at p;obtain⟨l,G⟩:=q;intro J H1 C M I L;simp only at p L;refine⟨λi m z H'=>∃ρ' k hd',Ext C H1 ρ' H'/\RS X.K ρ' H' k hd' z/\i<=l.length/\m=l.length - i/\ce X.K ρ' H' (fM G l g b (l.drop i) k hd') En,
   ⟨l.length,C,σd,hd1,Ext.refl,I,Z8 _,by simp,by simpa using ce.ext M p⟩,?_⟩
  rintro i m z H' ⟨ρ',k,hd',ex,u,S,rfl,a⟩
  by_cases B:i < l.length
  ·have K:l[i]? = some l[i]:=by simp[B]
   rw[XW B]at a;unfold fM at a
   by_cases hh:dH G l hd'
   ·rw[z4 hh]at a
    obtain⟨go,T⟩:=L.go ρ' H' hd' i _ ex u.hp hh K;refine .inr ⟨go,λA D=>∃s h w,Ext C H1 s D/\RS X.K s D h w A/\ce X.K s D (fM G l g b (l.drop (i + 1)) h w) En,
     λA D ⟨s,h,w,W,Q,P⟩=>⟨l.length - (i + 1),by omega,s,h,w,W,Q,B,rfl,P⟩,λx D y => ?_⟩
    obtain⟨O,U⟩:=T x D y;cases c:g l[i] k with
    | none=>rw[c]at a;exact a.elim
    | some h =>
     rw[c]at a;simp only at a;refine⟨ρ',k,hd',l[i],h,u.same O,U,c,λA N=>⟨ρ',h,hd',N,?_⟩⟩;have r:Ext ρ' H' ρ' D:=Ext.same O;cases c2:b h hd' with
     | nx σ3 h3=>rw[c2]at a;exact λE F n j o=>⟨n,σ3,h3,ex.trans (r.trans j),o,ce.ext (r.trans j) a⟩
     | ct σ3 h3=>rw[c2]at a;exact λE F n j o=>⟨n,σ3,h3,ex.trans (r.trans j),o,ce.ext (r.trans j) a⟩
     | bk σ3 h3=>rw[c2]at a;exact λE F n j o=>a E F n (r.trans j) o
     | rt d h3=>rw[c2]at a;exact λv F n j o V=>a v F n (r.trans j) o V
     | exc x σ3 h3=>rw[c2]at a;exact a
     | bad=>rw[c2]at a;exact a
   ·rw[z5 hh]at a;exact a.elim
  ·have e0:i=l.length:=by omega
   subst e0;rw[List.drop_length]at a;unfold fM at a
   by_cases hh:dH G l hd'
   ·rw[z4 hh]at a
    exact .inl ⟨L.stop ρ' H' hd' ex u.hp hh,a z H' ρ' Ext.refl u⟩
   ·rw[z5 hh]at a;exact a.elim
theorem xl {c:Expr}{body:List Stmt}{t:TF}{b:SF}(hp:PassesOwn (model X.prog X.w) X.A X.env X.xe)(hc:MT X c t)(D:MSs X body b):MS X (.While c body [] pos) (oO t b):=by
 refine PS.imp (DG hp hc D) λEn σ H ⟨ρ,σd,hd,C,p⟩ => ?_;unfold oO at p;refine⟨λm n H'=>∃ρ' a hd',RS X.K ρ' H' a hd' n/\ce X.K ρ' H' (dP t b m a hd') En,⟨mE t b σd hd,ρ,σd,hd,C,p⟩,?_⟩;rintro m n H' ⟨ρ',a,hd',z,f⟩;cases m with
 | zero=>exact f.elim
 | succ m =>
  unfold dP at f;refine⟨ρ',a,hd',z,?_⟩;cases e:t a hd' with
  | exc x h1=>rw[e]at f;exact f
  | bad=>rw[e]at f;exact f
  | ok c h1 =>
   rw[e]at f;intro F E u k w q;cases q;cases c with
   | false=>simp only[wJ,YQ]at f ⊢;exact f n E u k w
   | true =>
    simp only[YL]at f ⊢;refine⟨λg A=>∃s l r,RS X.K s A l r g/\ce X.K s A (dP t b m l r) En,λg A q=>⟨m,wB _,q⟩,u,a,h1,w,?_⟩;cases c2:b a h1 with
    | nx g h3=>rw[c2]at f;exact λo y h i j=>⟨h,g,h3,j,ce.ext (k.trans i) f⟩
    | ct g h3=>rw[c2]at f;exact λo y h i j=>⟨h,g,h3,j,ce.ext (k.trans i) f⟩
    | bk g h3=>rw[c2]at f;exact λo y h i j=>f o y h (k.trans i) j
    | rt d h3=>rw[c2]at f;exact λv y h i j B=>f v y h (k.trans i) j B
    | exc x g h3=>rw[c2]at f;exact f
    | bad=>rw[c2]at f;exact f
theorem D3 {hd:Hd}{q:Addr}(r:RH K ρ H hd)(b:H q=some (.tup vs))(a:RDs K ρ H l vs)(hz:vs.length<=sizeLine):tF K ρ H (Itt K q) l none where
 go:=λρ' H' hd' i d ex f _ hi=>by
  have k:=r.kp ex;obtain⟨v,e,g⟩:=(a.mono k).get hi;have c:SqT K H' q vs:=SqT.of (k.tup q vs b);refine⟨⟨vs,v,c,e⟩,λx h y => ?_⟩;obtain⟨rfl,y⟩:=y;have:=y vs c;rw[e]at this;cases this;exact⟨kZ.refl _,g⟩
 stop:=λρ' H' hd' ex f _=>⟨vs,SqT.of ((r.kp ex).tup q vs b),by rw[a.length];exact ZL _⟩
 sz:=by rw[a.length];exact hz
theorem D4 {hd:Hd}{q:Addr}(r:RH K ρ H hd)(b:pX K H q vs)(a:RDs K ρ H l vs)(hz:vs.length<=sizeLine):tF K ρ H (Itl K q) l none where
 go:=λρ' H' hd' i d ex f _ hi=>by
  have k:=r.kp ex;obtain⟨v,e,g⟩:=(a.mono k).get hi;have c:SqL K H' q vs:=(b.mono k).sq;refine⟨⟨vs,v,c,e⟩,λx h y => ?_⟩;obtain⟨rfl,y⟩:=y;have:=y vs c;rw[e]at this;cases this;exact⟨kZ.refl _,g⟩
 stop:=λρ' H' hd' ex f _=>⟨vs,(b.mono (r.kp ex)).sq,by rw[a.length];exact ZL _⟩
 sz:=by rw[a.length];exact hz
theorem D5 {n:Nat}{q:Addr}(g : ρ[n]? = some q)(hz:l.length<=sizeLine):tF K ρ H (Itl K q) l (some n) where
 sz:=hz
 go:=λρ' H' hd' i d ex b c hi=>by
  obtain⟨a,e,f⟩:=b.cel n _ q c (ex.get g);obtain⟨v,j,k⟩:=f.get hi;have h:SqL K H' q a:=SqL.of e;refine⟨⟨a,v,h,j⟩,λx m y => ?_⟩;obtain⟨rfl,y⟩:=y;have:=y a h;rw[j]at this;cases this;exact⟨kZ.refl _,k⟩
 stop:=λρ' H' hd' ex b c=>by
  obtain⟨a,e,f⟩:=b.cel n _ q c (ex.get g);exact⟨a,SqL.of e,by rw[f.length];exact ZL _⟩
theorem Ji {l:Expr}{tl:TE}(k:PE X l tl):PI X tg l (λσ H R=>tl σ H λx H1=>(∃a xs,x=.ref a/\SqL X.K H1 a xs/\(xs.length<=sizeLine->R (Itl X.K a) H1))\/∃a xs,x=.ref a/\SqT X.K H1 a xs/\(xs.length<=sizeLine->R (Itt X.K a) H1)):=by
 intro pins s σ H R I h;refine thn (k pins s σ H _ I h) λv c ⟨x,H1,d,j,q1⟩ => ?_;rcases q1 with ⟨a,xs,e,hq,q⟩|⟨a,xs,e,hq,q⟩
 ·subst e
  cases j;obtain⟨f,m,p,i⟩:=d.list hq;refine X0 p.isList ?_;refine⟨c.heap.objs.size,[c.heap.objs.size],_,_,H1,rfl,d.kept (t':=c.toks) λb o e=>ZH _ e,B9 a _,⟨_,ZJ _ rfl,rfl,rfl⟩,λb g => ?_,q i⟩;have e:b=c.heap.objs.size:=by simpa using g
  subst e;exact d.fpOk (ZL _) (d.hok.fresh (ZL _))
 ·subst e
  cases j;obtain⟨f,m,p,i⟩:=d.tuple hq;refine YP (show c.heap.IsTuple a f.toArray from p) ?_;refine⟨c.heap.objs.size,[c.heap.objs.size],_,_,H1,rfl,d.kept (t':=c.toks) λb o e=>ZH _ e,ze a _,⟨_,ZJ _ rfl,rfl,rfl⟩,λb g => ?_,q i⟩;have e:b=c.heap.objs.size:=by simpa using g
  subst e;exact d.fpOk (ZL _) (d.hok.fresh (ZL _))
theorem d9 (h:ME X e f):MI X tg e (d7 f):=by
 refine PI.imp (Ji h) λσ H R ⟨ρ,σd,hd,u,p⟩=>⟨ρ,σd,hd,u,?_⟩;unfold d7 at p;cases e:f σd hd with
 | exc x h1=>rw[e]at p;exact p
 | bad=>rw[e]at p;exact p
 | ok d hd1 =>
  rw[e]at p;simp only[aW]at p;intro v H1 i j b k;cases d<;>try exact p.elim
  ·rename_i l
   simp only[rD,RD]at k;obtain⟨q,o,rfl,m,g⟩:=k;exact .inr ⟨q,o,rfl,SqT.of m,λr=>p _ H1 i j b (D3 b.hp m g r)⟩
  ·rename_i n
   simp only[rD,RD]at k;obtain⟨a,s,rfl⟩:=k;cases c:hd1[n]? with
   | none=>simp only[c]at p;exact p.elim
   | some cell =>
    cases cell with
    | dct l=>simp only[c]at p;exact p.elim
    | dcT l=>simp only[c]at p;exact p.elim
    | lst l =>
     simp only[c]at p;obtain⟨o,t,g⟩:=b.hp.cel n _ a c s;exact .inl ⟨a,o,rfl,SqL.of t,λr=>p _ H1 i j b (D5 s (by rw[g.length];exact r))⟩
  ·rename_i l
   simp only[rD,RD]at k;obtain⟨q,o,rfl,m,g⟩:=k;exact .inl ⟨q,o,rfl,m.sq,λr=>p _ H1 i j b (D4 b.hp m g r)⟩
theorem zu (lo:Int)(n:Nat)(hz:n<=2000000):tF K ρ H (Itr lo n) ((List.range n).map λk:Nat=>.int (lo + k)) none where
 go:=λρ' H' hd' i d ex b _ hi=>by
  have a:i < n:=by
   have:=(List.getElem?_eq_some_iff.mp hi).1;simpa using this
  refine⟨a,λx c y => ?_⟩;obtain⟨rfl,rfl⟩:=y;have e:d=.int (lo + i):=by simpa[a] using hi.symm
  subst e;exact⟨kZ.refl _,by simp only[RD]⟩
 stop:=λρ' H' hd' ex b _=>by
  show n<=_;simp
 sz:=by
  have:(2000000:Nat)<=sizeLine:=by rw[wH];decide
  simp;omega
theorem cL {a:Expr}   (m:Gl X "range") (hm:X.mg "range" = none) (k:ME X a f) (i:starEach [a] X.env=[(false,eval a X.env)]:=by rfl):MI X tg (.Call (.Name "range" p) [a] [] pos) (bK f):=by
 refine PI.imp (Ca m hm (cP k em i) i) λσ H R ⟨ρ,σd,hd,l,b⟩=>⟨ρ,σd,hd,l,?_⟩;unfold bK at b;cases e:f σd hd with
 | exc x h1=>rw[e]at b;exact b
 | bad=>rw[e]at b;exact b
 | ok d hd1 =>
  rw[e]at b;simp only[aW]at b;intro v H1 c h g j;cases d<;>try exact b.elim
  rename_i n
  simp only at b;simp only[rD,RD]at j;subst j;split at b
  ·rename_i hb
   refine⟨n,rfl,by omega,by omega,b _ H1 c h g ?_⟩;have:=zu (K:=X.K) (ρ := c) (H:=H1) 0 n.toNat (by omega);simpa using this
  ·exact b.elim
end
end Fm
namespace Fm
section
open Classical
def eJ (G:Hd->Prop) (tg:GF) (cs:List TF) (e:EF):List D->Sd->Hd->Res (List D)
 | [],_,h=>if G h then .ok [] h else .bad
 | x :: xs,σ,h=>if G h then match tg x σ with
   | some σ=>(iB cs σ h).bind λb h=>if b then (e σ h).bind λd h=>(eJ G tg cs e xs σ h).bind λds h=>.ok (d :: ds) h
    else eJ G tg cs e xs σ h
   | none=>.bad
  else .bad
end
theorem vA {g:Option Nat}{all:List D}{tg:GF}{cs:List TF}{e:EF}:∀(xs:List D) (σ:Sd) (h:Hd),bR g all tg cs e xs σ h=eJ (dH g all) tg cs e xs σ h
 | [],_,h=>by unfold bR eJ;rfl
 | x :: xs,σ,h=>by
  unfold bR eJ
  by_cases hh:dH g all h
  ·rw[z4 hh,z4 hh]
   cases tg x σ with
   | none=>rfl
   | some σ'=>simp only[vA xs]
  ·rw[z5 hh,z5 hh]
end Fm
namespace Fm
open PySem PySem.Spec L2
section
variable {prog:T6} {w:T7} {A:T5} {R:Result->T4->Prop} {s:T4}
theorem vB {q b o:Expr}{p:List Expr}{scope:Scope}{pos:Pos}{it acc:T0}{env:Env}{E:T0->T4->Prop}(H:∀e s,¬E e s)(I:Nat->T4->Prop)
  (u:∀n s,I n s->wpAny (model prog w) A (pyNext it) (λr d => match r with
   | none=>R (.ok .next) d
   | some v=>wpAny (model prog w) A (letOwnedTupleGo b it v) (λ_ d => wpAny (model prog w) A (assign b env v) (λ_ j =>
     wpAny (model prog w) A (forIn p true λc r=>if r=true then do let ok <-isTrue c env (eval c env);pure (ForInStep.yield ok) else pure (ForInStep.yield r)) (λok g =>
      if ok=true then wpAny (model prog w) A (eval q env) (λx k =>
       wpAny (model prog w) A (call (.builtin "list.append") [acc,x]) (λ_ i => ∃m,m < n/\I m i) E k) E g
      else ∃m,m < n/\I m g) E j) E d) E d) E s)
  (n:Nat) (h:I n s) :
  codeAny (model prog w) A (.compLoop (.ListComp q [⟨b,o,p,0⟩] scope pos) 0 it acc env) R s:=by
 refine codeAny_loop rfl I (λn s J => ?_) n h;show wpAny _ A ((compTurn (.ListComp q [⟨b,o,p,0⟩] scope pos) 0 it acc env).onRaise (λx=>do noteFrame x env;theTreesLotGoes x)) _ _ s;refine wpAny_noted ?_;rw[compTurn_list];have no:∀{α : Type} {t:Sem α} {Q D : α->T4->Prop} {G:T0->T4->Prop} {s:T4},wpAny (model prog w) A t Q E s->(∀a s,Q a s->D a s)->wpAny (model prog w) A t D G s:=λh F=>XI h F λe s z=>(H e s z).elim;refine z0 (wpAny_standAt (z0 (no (u n s J) λr d f => ?_)));cases r with
 | none=>exact z3 f
 | some v =>
  refine z0 (no f λ_ d f => ?_);refine z0 (no f λ_ j y => z0 (no y λok g l => ?_));cases ok with
  | false=>exact z3 ⟨rfl,l⟩
  | true =>
   exact z0 (z0 (no l λx k B => z0 (no B λ_ i C => z3 (z3 ⟨rfl,C⟩))))
end
theorem mP {env:Env}:∀(l:List (Str × NameKind)) (i:List (Str × Addr)),(∀y∈l,y.2=.free->∃c,env.cells.lookup y.1=some c)->
  ∃g,(forIn l i λ(x:Str × NameKind) (r:List (Str × Addr))=>if (x.2 == .free)=true then do let a <-cellOf env x.1;pure (ForInStep.yield ((x.1,a) :: r)) else pure (ForInStep.yield r))=(pure g:Sem _)/\
   (∀x c,g.lookup x=some c->i.lookup x=some c\/env.cells.lookup x=some c)/\(∀y∈l,y.2=.free->∃c,g.lookup y.1=some c)/\∀x c,i.lookup x=some c->∃o,g.lookup x=some o
 | [],i,_=>⟨i,by simp,λx c h=>.inl h,λy f=>by simp at f,λx c h=>⟨c,h⟩⟩
 | (n,k) :: l,i,hf=>by
  by_cases hk:k=.free
  ·subst hk
   obtain⟨c,hc⟩:=hf (n,.free) (by simp) rfl;obtain⟨g,h1,h2,m,j⟩:=mP l ((n,c) :: i) λy f=>hf y (by simp[f]);refine⟨g,?_,λx d h => ?_,λy f b => ?_,λx d h => ?_⟩
   ·rw[WH]
    simp only[beq_self_eq_true,YL,cellOf,hc];exact h1
   ·rcases h2 x d h with q|q
    ·rw[ZY]at q
     cases e:x == n with
     | true =>
      rw[e]at q;have:x=n:=by simpa using e
      subst this;cases q;exact .inr hc
     | false=>rw[e]at q;exact .inl q
    ·exact .inr q
   ·rcases Y6.mp f with e|e
    ·subst e
     exact j n c (by simp[ZY])
    ·exact m y e b
   ·by_cases e:x=n
    ·subst e
     exact j x c (by simp[ZY])
    ·exact j x d (by rw[ZY,beq_eq_false_iff_ne.mpr e];exact h)
  ·obtain⟨g,h1,h2,m,j⟩:=mP l i λy f=>hf y (by simp[f])
   refine⟨g,?_,h2,λy f b => ?_,j⟩
   ·rw[WH]
    have:(k == NameKind.free)=false:=by simpa using hk
    simp only[this,wJ,YQ];exact h1
   ·rcases Y6.mp f with e|e
    ·subst e;exact absurd b hk
    ·exact m y e b
theorem mQ {scope:Scope}{env:Env}(d:∀y∈scope.names,y.2=.free->∃c,env.cells.lookup y.1=some c) :
  ∃b,closureFor scope env=pure b/\(∀x c,b.lookup x=some c->env.cells.lookup x=some c)/\∀y∈scope.names,y.2=.free->∃c,b.lookup y.1=some c:=by
 obtain⟨b,h1,h2,f,_⟩:=mP scope.names [] d;refine⟨b,?_,λx c h=>(h2 x c h).elim (λz=>by simp at z) id,f⟩;unfold closureFor;have e:(forIn scope.names ([] : List (Str × Addr)) λ(x:Str × NameKind) (r:List (Str × Addr))=>if (x.2 == .free)=true then do let a <-cellOf env x.1;pure (ForInStep.yield ((x.1,a) :: r)) else pure (ForInStep.yield r))=(pure b:Sem _):=h1;exact(congrArg (λt:Sem (List (Str × Addr))=>t >>= λr=>pure r) e).trans rfl
def cxC (X:Cx) (N:List Str) (scope:Scope) (cl:List (Str × Addr)) (C:Addr) (s:T4) (H:Hp) (ex:List Addr):Cx where
 prog:=X.prog
 w:=X.w
 K:=X.K
 mg:=X.mg
 base:=X.base
 A:=X.A
 N:=N
 s₀ := s
 H₀ := H
 env:=compEnvC scope cl C X.env
 outer:=X.stack
 stack:=X.stack
 ex:=ex
 fn:=λ_=>false
 calm:=X.calm
 pn:=[]
 xe:=λ_ _=>False
def MTs (X:Cx) (ifs:List Expr) (cs:List TF):Prop :=
 ∀(pins:List (Addr × Obj)) (s:T4) (σ:St) (H:Hp) (Q:Bool->Hp->Prop),Inv X pins σ H s->lq X.K rB (iB cs) σ H Q->
  wpAny (model X.prog X.w) X.A (forIn ifs true λc r=>if r=true then do let ok <-isTrue c X.env (eval c X.env);pure (ForInStep.yield ok) else pure (ForInStep.yield r)) (TP X pins σ Q) X.xe s
theorem dq {X:Cx}:MTs X [] []:=λpins s σ H Q I ⟨ρ,σd,hd,a,p⟩=>wpAny_tests_nil ⟨H,I,p.here a rfl⟩
theorem i3 {X:Cx}{c:Expr}{t:TF}(h:MT X c t):MTs X [c] [t]:=λpins s σ H Q I ⟨ρ,σd,hd,a,p⟩=>wpAny_tests_one (h pins s σ H Q I ⟨ρ,σd,hd,a,by
 have e:iB [t] σd hd=t σd hd:=by
  simp only[iB];cases c:t σd hd with
  | ok b h'=>cases b<;>simp
  | exc x h'=>rfl
  | bad=>rfl
 rw[e]at p;exact p⟩)
theorem lB {env:Env}{x:Str}:∀{a:List (Str × NameKind)} {k:NameKind},(a.map λ(n,k)=>if (k == NameKind.free && env.scope.kind == .function && env.kindOf n == some .cell) then (n,NameKind.cell) else (n,k)).lookup x=some k->
  ∃c,a.lookup x=some c/\(k=c\/(c=.free/\k=.cell))
 | [],_,h=>by simp at h
 | (n,k') :: r,k,h=>by
  have d := @lB env x r k;have b:List.lookup x ((if (k' == NameKind.free && env.scope.kind == .function && env.kindOf n == some .cell)=true then (n,NameKind.cell) else (n,k')) :: _)=some k:=h;cases hx:x == n with
  | true =>
   refine⟨k',by simp[ZY,hx],?_⟩
   by_cases hc:(k' == NameKind.free && env.scope.kind == .function && env.kindOf n == some .cell)=true
   ·rw[z4 hc]at b
    simp only[ZY,hx,YA]at b;simp only[x8,beq_iff_eq]at hc;exact .inr ⟨hc.1.1,b.symm⟩
   ·rw[z5 hc]at b
    simp only[ZY,hx,YA]at b;exact .inl b.symm
  | false =>
   have:List.lookup x ((n,k') :: r)=List.lookup x r:=by simp[ZY,hx]
   rw[this];refine d ?_
   by_cases hc:(k' == NameKind.free && env.scope.kind == .function && env.kindOf n == some .cell)=true
   ·rw[z4 hc]at b;simpa only[ZY,hx] using b
   ·rw[z5 hc]at b;simpa only[ZY,hx] using b
theorem iF {x:Str}{k:NameKind}:∀{l:List (Str × NameKind)},l.lookup x=some k->(x,k)∈l
 | [],h=>by simp at h
 | (n,k') :: r,h=>by
  rw[ZY]at h;cases e:x == n with
  | true =>
   rw[e]at h;have:x=n:=by simpa using e
   subst this;cases h;exact ZV
  | false=>rw[e]at h;exact ZW _ (iF h)
structure bH (X:Cx) (scope:Scope) (own capn:List Str) (caps:List Nat):Prop where
 kind:scope.kind=.function
 cell:∀y∈scope.names,y.2 ≠ .cell
 names:∀y∈scope.names,y.2=.local->scope.names.lookup y.1=some .local
 free:∀y∈scope.names,y.2=.free->X.env.kindOf y.1=some .cell\/X.env.kindOf y.1=some .free
 cap:∀(j:Nat) x,capn[j]? = some x->∃i,caps[j]? = some i/\X.N[i]? = some x/\scope.names.lookup x=some .free
 len:capn.length=caps.length
section
variable {X:Cx} {pins:List (Addr × Obj)} {σ:St} {H1:Hp} {s2:T4} {scope:Scope} {own capn:List Str} {caps:List Nat} {cl:List (Str × Addr)} {C:Addr} {ex:List Addr}
def stC (own:List Str) (caps:List Nat) (σ:St):St:=List.replicate own.length none++caps.map λi=>(σ[i]?).join
theorem Jj (I:Inv X pins σ H1 s2)(S:bH X scope own capn caps)(u:s2.heap.objs.size<=C)(a:∀x c,cl.lookup x=some c->X.env.cells.lookup x=some c)(f:∀y∈scope.names,y.2=.free->∃c,cl.lookup y.1=some c)
  (i:∀b∈ex,qK X pins H1 b) (j:∀b∈ex,b < s2.heap.objs.size):(cxC X (own++capn) scope cl C s2 H1 ex).Ok where
 mod:=I.ok.mod
 kind:=S.kind
 glob:=I.ok.glob
 blt:=I.ok.blt
 above:=u
 inj:=λx y c h1 h2=>I.ok.inj x y c (a x c h1) (a y c h2)
 has:=λx A=>by
  have g:∀k,(relabel scope X.env).names.lookup x=some k->k=.cell\/k=.free->∃c,cl.lookup x=some c:=λk h B=>by
   obtain⟨w,h0,q⟩:=lB h;have r:=iF h0;have:w=.free:=by
    rcases q with q|q
    ·subst q
     rcases B with e|e
     ·exact absurd e (S.cell _ r)
     ·exact e
    ·exact q.1
   exact f _ r this
  rcases A with h|h
  ·exact g _ h (.inl rfl)
  ·exact g _ h (.inr rfl)
 cab:=λx c h=>by cases h
 hd:=I.ok.hd
 frames:=I.ok.frames
 stk:=.inl rfl
 exf:=λb d=>by
  obtain⟨t,n,p,m,l,s⟩:=i b d;exact⟨λz=>absurd (xC (j b d) u) (by rw[z];exact wD _),λx c e=>l x c (a x c e)⟩
 bs:=I.bs
 bsz:=ZM I.ok.bsz I.sz
 noex:=λb o e d=>by
  obtain⟨t,n,p,m,l,s⟩:=i b d;rcases m with z|z
  ·exact I.ok.noex b o e z
  ·exact absurd (xC (ZI (I.ok.bs b o e).1) z) (wD _)
 exfs:=λb d v=>by
  obtain⟨t,n,p,m,l,s⟩:=i b d;rcases Y6.mp (I.stkSub b v) with z|z
  ·exact n z
  ·exact p z
 funs:=I.stack
 frf:=I.stkFree
theorem nM {env:Env}{x:Str}:∀{a:List (Str × NameKind)},a.lookup x=some .free->
  (a.map λ(n,k)=>if (k == NameKind.free && env.scope.kind == .function && env.kindOf n == some .cell) then (n,NameKind.cell) else (n,k)).lookup x=some .cell\/
  (a.map λ(n,k)=>if (k == NameKind.free && env.scope.kind == .function && env.kindOf n == some .cell) then (n,NameKind.cell) else (n,k)).lookup x=some .free
 | [],h=>by simp at h
 | (n,k') :: r,h=>by
  have b := @nM env x r;show List.lookup x ((if (k' == NameKind.free && env.scope.kind == .function && env.kindOf n == some .cell)=true then (n,NameKind.cell) else (n,k')) :: _)=_\/List.lookup x ((if (k' == NameKind.free && env.scope.kind == .function && env.kindOf n == some .cell)=true then (n,NameKind.cell) else (n,k')) :: _)=_;cases hx:x == n with
  | true =>
   simp only[ZY,hx,YA]at h;subst h
   by_cases hc:(NameKind.free == NameKind.free && env.scope.kind == .function && env.kindOf n == some .cell)=true
   ·rw[z4 hc];exact .inl (by simp only[ZY,hx])
   ·rw[z5 hc];exact .inr (by simp only[ZY,hx])
  | false =>
   simp only[ZY,hx]at h
   by_cases hc:(k' == NameKind.free && env.scope.kind == .function && env.kindOf n == some .cell)=true
   ·rw[z4 hc];simp only[ZY,hx];exact b h
   ·rw[z5 hc];simp only[ZY,hx];exact b h
theorem Gw {i:Nat}{v:V}(h:(stC own caps σ)[i]? = some (some v)):∃j k,i=own.length + j/\caps[j]? = some k/\σ[k]? = some (some v):=by
 unfold stC at h
 by_cases hi:i < own.length
 ·rw[ZC (by simpa using hi)]at h
  simp[hi]at h
 ·rw[ZD (by simpa using WQ hi)]at h
  simp only[Y5,ZQ]at h;cases c:caps[i - own.length]? with
  | none=>rw[c]at h;cases h
  | some k =>
   rw[c]at h;simp only[XC,YA]at h;refine⟨i - own.length,k,by omega,c,?_⟩;cases e : σ[k]? with
   | none=>rw[e]at h;cases h
   | some o=>rw[e]at h;simp only[Option.join_some]at h;rw[h]
theorem Ck (I:Inv X pins σ H1 s2)(S:bH X scope own capn caps)(q:s2.heap.objs.size < C)(a:∀x c,cl.lookup x=some c->X.env.cells.lookup x=some c)(d:∀y∈scope.names,y.2=.free->∃c,cl.lookup y.1=some c)
  (E:∀b∈ex,qK X pins H1 b) (n:∀b∈ex,b < s2.heap.objs.size) {h1:Heap} {m:Str->Option T0} {tk:Nat} (K:h1.Ns C m) (h:∀b o,s2.heap.get? b=some o->h1.get? b=some o)
  (F:h1.get? s2.heap.objs.size=some { cls:=.type "list",data:=.seq #[] }) :
  Inv (cxC X (own++capn) scope cl C s2 H1 ex) [] (stC own caps σ) (upd H1 s2.heap.objs.size (.lst [])) { s2 with heap:=h1,toks:=tk } where
 ok:=Jj I S (YI q) a d E n
 os:=rfl
 bare:=I.bare
 base:=Un.laid h (ZL _) (I.hok.fresh (ZL _))
 loc:=by
  refine⟨m,K,λi x v L D M => ?_⟩;obtain⟨j,k,rfl,A,s⟩:=Gw D;have l:capn[j]? = some x:=by
   have:(own++capn)[own.length + j]? = some x:=L;rw[ZD (by omega)]at this;simpa using this
  obtain⟨N,q1,q2,q3⟩:=S.cap j x l;rw[A]at q1;cases q1;have t:=iF q3;have w:=S.free _ t rfl;obtain⟨O,H,G⟩:=I.loc;obtain⟨u,r,B⟩:=G k x v q2 s (.inr w);refine⟨u,r,.inr ⟨nM q3,?_⟩⟩;rcases B with ⟨z,_⟩|⟨_,c,hc,o,f,hd⟩
  ·rcases w with e|e<;>(rw[z]at e;cases e)
  ·obtain⟨P,g⟩:=d _ t rfl
   have:=a _ _ g;rw[hc]at this;cases this;exact⟨c,g,o,h c o f,hd⟩
 cell:=λx c e=>by
  obtain⟨v,o,f,hd⟩:=I.cell x c (a x c e);exact⟨v,o,h c o f,hd⟩
 free:=by
  show upd H1 _ _ C=none;rw[aC (x6 q)];exact I.hok.fresh (YI q)
 freeC:=λx c e=>by
  obtain⟨v,o,f,hd⟩:=I.cell x c (a x c e);rw[aC (ZN (ZI f))];exact I.freeC x c (a x c e)
 pin:=λp J=>absurd (show p∈([] : List (Addr × Obj)) from J) (by simp)
 hok:=I.hok.laid h (ZL _) ⟨Z8 _,[],0,.nil,F⟩
 len:=by
  show (stC own caps σ).length=(own++capn).length;simp[stC,S.len]
end
theorem RS.other {K:ZX}{ρ:List Addr}{H:Hp}{σd:Sd}{hd:Hd}{σ:St}{d:Addr}{ys zs:List V}(r:RS K ρ H σd hd σ)(h:H d=some (.lst ys))(n:d ∉ ρ):RS K ρ (upd H d (.lst zs)) σd hd σ/\Kp ρ H ρ (upd H d (.lst zs)):=by
 have k:Kp ρ H ρ (upd H d (.lst zs)):=⟨λ_ _ h=>h,λa b e=>by
  rw[aC (λz=>by rw[z,h]at e;cases e)];exact e,λa o u e=>by
  rw[aC (λz=>by rw[z,h]at e;cases e)];exact e,λa f e=>by
  rw[aC (λz=>by rw[z,h]at e;cases e)];exact e⟩
 refine⟨⟨⟨r.hp.len,r.hp.nd,λm c a h1 h2=>(r.hp.cel m c a h1 h2).mono k (aC λz=>n (by rw[<-z];exact ZK h2))⟩,r.st.mono k⟩,k⟩
theorem Ext.other {ρ ρ':List Addr}{H H':Hp}{d:Addr}{o:HO}(e:Ext ρ H ρ' H')(h:H d=none):Ext ρ H ρ' (upd H' d o) :=
 ⟨e.pre,e.new,λp u a n=>by rw[aC (bm a h)];exact e.frame p u a n⟩
theorem xm {nl:Nat}{caps:List Nat}{σd:Sd}{i:Nat}{d:D}(h:slot (iC nl caps σd) i=some d):∃j k,i=nl + j/\caps[j]? = some k/\slot σd k=some d:=by
 unfold iC at h;simp only[slot]at h
 by_cases hi:i < nl
 ·rw[ZC (by simpa using hi)]at h
  simp[hi]at h
 ·rw[ZD (by simpa using WQ hi)]at h
  simp only[Y5,ZQ]at h;cases c:caps[i - nl]? with
  | none=>rw[c]at h;cases h
  | some k =>
   rw[c]at h;simp only[XC]at h;refine⟨i - nl,k,by omega,c,?_⟩;simp only[slot]
   revert h
   cases e : σd[k]? with
   | none=>simp
   | some o=>cases o<;>simp
structure qX (K:ZX) (ρ0:List Addr) (H0:Hp) (J:It) (l:List D) (G:Hd->Prop):Prop where
 go:∀ρ H hd (i:Nat) d,Ext ρ0 H0 ρ H->RH K ρ H hd->G hd->l[i]? = some d->J.go i H/\∀x H',J.yld i H x H'->kZ H H'/\RD K ρ H' d x
 stop:∀ρ H hd,Ext ρ0 H0 ρ H->RH K ρ H hd->G hd->J.stop l.length H
 sz:l.length<=sizeLine
theorem tF.g {K:ZX}{ρ:List Addr}{H:Hp}{J:It}{l:List D}{g:Option Nat}(w:tF K ρ H J l g):qX K ρ H J l (dH g l):=⟨w.go,w.stop,w.sz⟩
structure CD where
 i:Nat
 ys:List V
 acc:List D
 rest:List D
 ρ:List Addr
 σd:Sd
 hd:Hd
 H:Hp
 σ:St
structure CI (X:Cx) (own capn:List Str) (scope:Scope) (cl:List (Str × Addr)) (s2:T4) (C:Addr) (H1:Hp) (ρ1:List Addr) (fp:List Addr) (tn:Nat->Heap->Prop) (G:Hd->Prop) (g:GF) (cs:List TF) (e:EF) (l:List D) (hdF:Hd) (ds:List D) (d:CD) (s':T4):Prop where
 le:d.i<=l.length
 inv:Inv (cxC X (own++capn) scope cl C s2 H1 fp) [] d.σ d.H s'
 st:tn d.i s'.heap
 fr:∀b∈fp,d.H b=none
 at':d.H s2.heap.objs.size=some (.lst d.ys)
 out:s2.heap.objs.size∉d.ρ
 yl:d.ys.length<=d.i
 ex:Ext ρ1 H1 d.ρ d.H
 rs:RS X.K d.ρ d.H d.σd d.hd d.σ
 ac:RDs X.K d.ρ d.H d.acc d.ys
 run:eJ G g cs e (l.drop d.i) d.σd d.hd=.ok d.rest hdF
 eq:d.acc++d.rest=ds
section
variable {X:Cx} {pins:List (Addr × Obj)} {σ:St} {H1:Hp} {s2:T4} {scope:Scope} {own capn:List Str} {caps:List Nat} {cl:List (Str × Addr)}
theorem zv {a:List Addr}{σd:Sd}{b:Hd}(S:bH X scope own capn caps)(r:RS X.K a H1 σd b σ){d:Addr}(hd:H1 d=none):RS X.K a (upd H1 d (.lst [])) (iC own.length caps σd) b (stC own caps σ):=by
 have c:=cy (o:=HO.lst []) hd;refine⟨r.hp.same c,⟨by simp[stC,iC],λi x e => ?_⟩⟩;obtain⟨j,k,rfl,f,g⟩:=xm e;obtain⟨v,h1,h2⟩:=r.st.at' k x g;refine⟨v,?_,h2.mono (Kp.same c)⟩;unfold stC;rw[ZD (by simp)];simp[f,h1]
theorem oQ {b3 tg a6:Expr}{c1:List Expr}{pos:Pos}{it:Addr}{fp:List Addr}{tn:Nat->Heap->Prop}{J:It}{l:List D}{G:Hd->Prop}{g:GF}{cs:List TF}{e:EF}{I:List Addr}{σd:Sd}{b8 a2:Hd}{ds:List D}{E:T0->T4->Prop}{RR:T0->Addr->Result->T4->Prop}
  (hc:X.calm=true) (S:bH X scope own capn caps) (d7:∀cl C s H ex,MG (cxC X (own++capn) scope cl C s H ex) tg g/\MTs (cxC X (own++capn) scope cl C s H ex) c1 cs/\ME (cxC X (own++capn) scope cl C s H ex) b3 e)
  (I1:Inv X pins σ H1 s2) (T:xb X.prog X.w X.K tg J fp it tn) (c7:tn 0 s2.heap) (hf:∀b∈fp,qK X pins H1 b) (c9:RS X.K I H1 σd b8 σ) (wk:qX X.K I H1 J l G)
  (a3:∀x c,cl.lookup x=some c->X.env.cells.lookup x=some c) (d1:∀y∈scope.names,y.2=.free->∃c,cl.lookup y.1=some c)
  (run:eJ G g cs e l (iC own.length caps σd) b8=.ok ds a2)
  (f7:∀C s' m H' ρ' vs,s2.heap.objs.size < C->s'.heap.Ns C m->Inv X pins σ H' s'->H' C=none->Ext I H1 ρ' H'->RH X.K ρ' H' a2->H1 s2.heap.objs.size=none->H' s2.heap.objs.size=some (.lst vs)->s2.heap.objs.size ∉ ρ'->RDs X.K ρ' H' ds vs->
   RR (.ref s2.heap.objs.size) C (.ok .next) s') :
  wpAny (model X.prog X.w) X.A (newList []) (λB w => wpAny (model X.prog X.w) X.A (newFunctionEnv scope X.env.globals cl [] X.env.qual none .none (some X.env)) (λb1 d2 =>
   codeAny (model X.prog X.w) X.A (.compStart (.ListComp b3 [⟨tg,a6,c1,0⟩] scope pos) 0 (.ref it) B { b1 with scope:=relabel scope X.env }) (RR B b1.locals) d2) E w) E s2:=by
 refine Z2 (wpAny_newFunctionEnv S.cell (by intro y hy;simp at hy) (λK j f => ?_) S.kind);dsimp only at j f ⊢;generalize hH2:s2.heap.push { cls:=.type "list",dict:=none,data:=.seq ([] : List T0).toArray } = H2 at j f ⊢;have hC:H2.objs.size=s2.heap.objs.size + 1:=by rw[<-hH2,v3]
 have e8:s2.heap.objs.size≠H2.objs.size:=by rw[hC];exact ZN (wB _)
 have c8:∀b o,s2.heap.get? b=some o->K.get? b=some o:=λb o e=>f.extBut b o (by rw[hC];exact ZN (yS (ZI e))) (ZH _ (hH2 ▸ ZH _ e));have d0:K.get? s2.heap.objs.size=some { cls:=.type "list",data:=.seq #[] }:=f.extBut _ _ e8 (ZH _ (hH2 ▸ ZJ _ rfl));have c0:∀b∈fp,b < s2.heap.objs.size:=λb t=>by
  obtain⟨o,ho,_⟩:=T.obj 0 _ c7 b t;exact ZI ho
 have d4:s2.heap.objs.size < H2.objs.size:=by rw[hC];exact wB _
 have W:H1 s2.heap.objs.size=none:=I1.hok.fresh (ZL _);have d6:tn 0 K := T.keep 0 _ _ c7 λb t o e=>c8 b o e;have e2:s2.heap.objs.size ∉ I:=c9.hp.free W;obtain⟨hG,hT,hE⟩:=d7 cl H2.objs.size s2 H1 fp;have I':=Ck (tk:=s2.toks + ([] : List (Str × T0)).length) I1 S d4 a3 d1 hf c0 j c8 d0;have b7:∀{pins':List (Addr × Obj)} {H':Hp},(∀b∈fp,H' b=none)->∀b∈fp,qK (cxC X (own++capn) scope cl H2.objs.size s2 H1 fp) [] H' b:=λ{pins' H'} hn b t=>by
  obtain⟨f0,f1,f2,f3,f4,f5⟩:=hf b t;have lt:=c0 b t;refine⟨hn b t,λz=>absurd lt (by rw[show b=H2.objs.size from z,hC];exact Nat.not_lt.mpr (W5 _)),λz => ?_,.inl t,λx c e=>f4 x c (a3 x c e),λp hp=>absurd (show p∈([] : List (Addr × Obj)) from hp) (by simp)⟩;rcases Y6.mp (I1.stkSub b z) with q|q
  ·exact f1 q
  ·exact f2 q
 have a8:∀w : T4,w = { s2 with heap:=K,toks:=s2.toks + ([] : List (Str × T0)).length }->
   codeAny (model X.prog X.w) X.A (.compLoop (.ListComp b3 [⟨tg,a6,c1,0⟩] scope pos) 0 (.ref it) (.ref s2.heap.objs.size) (compEnvC scope cl H2.objs.size X.env)) (RR (.ref s2.heap.objs.size) H2.objs.size) w := by
  rintro w rfl;refine vB (E:=λ_ _=>False) (λ_ _ z=>z) (λn s'=>∃d:CD,n=l.length - d.i/\CI X own capn scope cl s2 H2.objs.size H1 I fp tn G g cs e l a2 ds d s') ?_ l.length
   ⟨⟨0,[],[],ds,I,_,b8,_,_⟩,by simp,Z8 _,I',d6,λb t => ?_,bi,e2,ZL _,Ext.same (cy W),zv S c9 W,RDs.nil,by simpa using run,rfl⟩
  ·rintro n s' ⟨⟨i,ys,B,rest,ρ',L,hd',H',V⟩,rfl,N⟩
   have g1:i<=l.length:=N.le;have I':Inv (cxC X (own++capn) scope cl H2.objs.size s2 H1 fp) [] V H' s':=N.inv;have c5:tn i s'.heap:=N.st;have c6:∀b∈fp,H' b=none:=N.fr;have a0:H' s2.heap.objs.size=some (.lst ys):=N.at';have b9:s2.heap.objs.size ∉ ρ':=N.out;have d3:ys.length<=i:=N.yl;have ex:Ext I H1 ρ' H':=N.ex;have Y:RS X.K ρ' H' L hd' V:=N.rs;have a9:RDs X.K ρ' H' B ys:=N.ac;have a:eJ G g cs e (l.drop i) L hd'=.ok rest a2:=N.run;have a1:B++rest=ds:=N.eq
   by_cases hlt':i < l.length
   ·have d9:l[i]? = some l[i]:=by simp[hlt']
    rw[XW hlt']at a;unfold eJ at a
    by_cases hh:G hd'
    ·rw[z4 hh]at a
     obtain⟨go,yl⟩:=wk.go ρ' H' hd' i _ ex Y.hp hh d9;cases c:g l[i] L with
     | none=>rw[c]at a;cases a
     | some σd2 =>
      rw[c]at a;simp only at a;refine thn (T.item (cxC X (own++capn) scope cl H2.objs.size s2 H1 fp) rfl rfl rfl hc i [] s' V H' (λ_ _=>False) I' (b7 (pins':=[]) c6) c5 go) λr a7 ⟨u,hr,h4⟩ => ?_;subst hr;refine thn h4 λ_ s5 ⟨x,H5,I5,r5,y5,b2,e3⟩ => ?_;obtain⟨sm,rx⟩:=yl x H5 y5;have f6:=I5.pinned (b7 (pins':=[]) e3) (T.obj _ _ b2);have e1:=Y.same sm;have g0:=sm _ _ a0;refine thn (hG _ s5 V H5 x u (λh H6=>H6=H5/\RS X.K ρ' H5 σd2 hd' h) f6 r5 ⟨ρ',L,hd',l[i],σd2,e1,rx,c,λh b5=>⟨rfl,b5⟩⟩) λ_ s6 ⟨h,H6,I6,d8,b5⟩ => ?_;subst d8;cases c2:iB cs σd2 hd' with
      | exc z h7=>rw[c2]at a;cases a
      | bad=>rw[c2]at a;cases a
      | ok b hd7 =>
       rw[c2]at a;simp only[aW]at a;refine thn (hT _ s6 h H6 (λb' H7=>b'=b/\∃k,Ext ρ' H6 k H7/\RS X.K k H7 σd2 hd7 h) I6 ⟨ρ',σd2,hd',b5,by
        rw[c2];exact λb' H7 k b4 U q=>⟨q.symm,k,b4,U⟩⟩) λb' s7 ⟨H7,I7,e7,k,b4,U⟩ => ?_
       subst e7;have a4:∀{d5:St} {O:Hp} {s8:T4},Inv (cxC X (own++capn) scope cl H2.objs.size s2 H1 fp) ([]++qL fp s5.heap) d5 O s8->tn (i + 1) s8.heap/\∀b∈fp,O b=none:=λ{d5 O s8} I8 =>
        ⟨T.keep _ _ _ b2 λb t o e=>(I8.pin (b,o) (Z7 _ (Z7 _ (jZ t e)))).1,λb t=>by
         obtain⟨o,e,d⟩:=T.obj _ _ b2 b t;exact(I8.pin (b,o) (Z7 _ (Z7 _ (jZ t e)))).2.1⟩
       have Q:Ext ρ' H' k H7:=(Ext.same sm).trans b4;have Z:H7 s2.heap.objs.size=some (.lst ys):=Q.frame _ _ a0 b9;have R:=Q.out a0 b9;have P:=a9.mono (Y.hp.kp Q);cases b' with
       | false =>
        simp only[wJ,YQ]at a ⊢;obtain⟨e9,f8⟩:=a4 I7;exact⟨l.length - (i + 1),by omega,⟨i + 1,ys,B,rest,k,σd2,hd7,H7,h⟩,rfl,hlt',I7.unpinned,e9,f8,Z,R,XB d3,ex.trans Q,U,P,a,a1⟩
       | true =>
        simp only[YL]at a ⊢;cases c3:e σd2 hd7 with
        | exc z h7=>rw[c3]at a;cases a
        | bad=>rw[c3]at a;cases a
        | ok d hd8 =>
         rw[c3]at a;simp only[aW]at a;cases c4:eJ G g cs e (l.drop (i + 1)) σd2 hd8 with
         | exc z h7=>rw[c4]at a;cases a
         | bad=>rw[c4]at a;cases a
         | ok rest' hd9 =>
          rw[c4]at a;simp only[aW,Res.ok.injEq]at a;obtain⟨F,hF⟩:=a;subst F hF;refine thn (hE _ s7 h H7 (λv O=>∃A,Ext k H7 A O/\RS X.K A O σd2 hd8 h/\RD X.K A O d v) I7 ⟨k,σd2,hd7,U,by
           rw[c3];exact λv O A M b6 q=>⟨A,M,b6,q⟩⟩) λu8 s8 ⟨v8,O,I8,r8,A,M,b6,e5⟩ => ?_
          have a5:O s2.heap.objs.size=some (.lst ys):=M.frame _ _ Z R;have b0:=M.out Z R;refine thn (uo _ s8 h O (.ref s2.heap.objs.size) [v8] (.ref s2.heap.objs.size) [u8] (λ_ H9=>H9=upd O s2.heap.objs.size (.lst (ys++[v8]))) I8 rfl (.cons r8 .nil) ⟨_,ys,v8,rfl,rfl,a5,by have:=wk.sz;omega,rfl⟩) λu9 s9 ⟨v9,H9,I9,r9,q9⟩ => ?_;subst q9;obtain⟨e4,f9⟩:=a4 I9;obtain⟨e6,k9⟩:=b6.other (zs:=ys++[v8]) a5 b0;exact⟨l.length - (i + 1),by omega,⟨i + 1,ys++[v8],B++[d],rest',A,σd2,hd8,_,h⟩,rfl,hlt',I9.unpinned,e4,f9,bi,b0,by simp;exact d3,(ex.trans (Q.trans M)).other W,e6,
           ((P.mono (U.hp.kp M)).mono k9).append (RDs.cons (e5.mono k9) RDs.nil),c4,by rw[<-a1];simp⟩
    ·rw[z5 hh]at a;cases a
   ·have e0:i=l.length:=by omega
    subst e0;rw[List.drop_length]at a;unfold eJ at a
    by_cases hh:G hd'
    ·rw[z4 hh]at a
     simp only[Res.ok.injEq]at a;obtain⟨F,hF⟩:=a;subst F hF;rw[Z6]at a1;subst a1;refine thn (T.done (cxC X (own++capn) scope cl H2.objs.size s2 H1 fp) rfl rfl rfl hc _ [] s' V H' (λ_ _=>False) I' (b7 (pins':=[]) c6) c5 (wk.stop ρ' H' hd' ex Y.hp hh)) λr a7 ⟨hr,I4⟩ => ?_;subst hr;obtain⟨m,hm,_⟩:=I4.loc;refine f7 H2.objs.size a7 m H' ρ' ys d4 hm ?_ I4.free ex Y.hp W a0 b9 a9;exact I1.call' I4.os I4.base I4.hok I4.bare λb t=>by
      obtain⟨f0,f1,f2,f3,f4,f5⟩:=hf b t;exact⟨f3,f1,f4,f5⟩
    ·rw[z5 hh]at a;cases a
  ·show upd H1 _ _ b=none
   rw[aC (ZN (c0 b t))];exact(hf b t).1
 exact codeAny_compStart_list (a8 _ rfl) (T.self _ 0 _ _ _ d6 (a8 _ rfl))
end
section
variable {X:Cx} {pos:Pos} {scope:Scope} {own capn:List Str} {caps:List Nat}
theorem dC {r tg a:Expr}{i:List Expr}{f:IF}{g:GF}{cs:List TF}{e:EF}(hc:X.calm=true)(S:bH X scope own capn caps)(hi:MI X tg a f)
  (B:∀A C s H ex,MG (cxC X (own++capn) scope A C s H ex) tg g/\MTs (cxC X (own++capn) scope A C s H ex) i cs/\ME (cxC X (own++capn) scope A C s H ex) r e)
  (P:∀x,foldedSetIterable a X.env x=pure x:=by intro _;rfl):MF X (.ListComp r [⟨tg,a,i,0⟩] scope pos) (bL own.length caps f g cs e):=by
 intro pins s σ H Q I ⟨ρ,σd,hd,rs,p⟩;rw[eval_ListComp];unfold bL at p;cases c:f σd hd with
 | exc z h7=>rw[c]at p;exact p.elim
 | bad=>rw[c]at p;exact p.elim
 | ok q hd1 =>
  obtain⟨l,O⟩:=q;rw[c]at p;simp only[aW]at p;obtain⟨A,h1,j,n⟩:=mQ (scope:=scope) (env:=X.env) λy hy E=>I.ok.has y.1 (S.free y hy E);refine WV (use:=none) rfl P h1 S.kind S.names (thn (hi pins s σ H (λJ H1=>∃d,Ext ρ H d H1/\RS X.K d H1 σd hd1 σ/\tF X.K d H1 J l O) I ⟨ρ,σd,hd,rs,by
   rw[c];exact λJ H' ρ' ex L N=>⟨ρ',ex,L,N⟩⟩) λv s1 h1=>thn h1 λa0 s2 h2 => ?_)
  obtain⟨it,fp,tn,J,H1,rfl,u,T,M,V,d,h,k,N⟩:=h2;cases c2:bR O l g cs e l (iC own.length caps σd) hd1 with
  | exc z h7=>rw[c2]at p;exact p.elim
  | bad=>rw[c2]at p;exact p.elim
  | ok ds hdF =>
   rw[c2]at p;refine oQ (RR:=λD C=>compPost (model X.prog X.w) X.A X.xe none (EP X pins σ Q) D C) hc S B u T M V k N.g j n ((vA _ _ _).symm.trans c2) λC s' m H' ρ' vs w hn U K ex Z t W F G => ?_;refine⟨m,hn,λh' sb=>⟨.ref s2.heap.objs.size,H',?_,rfl,?_⟩⟩
   ·refine U.turned (it:=C) (t':=s'.toks) (λb o hb e=>(sb.2 b hb).trans e) K ?_ (.inr (YI (ZS u.sz w))) (λx c e z => ?_) λq R z => ?_
    ·exact x6 (x3 u.lt w)
    ·obtain⟨v,o,Y,hd⟩:=u.cell x c e
     exact absurd (x3 (ZI Y) w) (by rw[z];exact wD _)
    ·exact absurd (x3 (ZI (u.pin q R).1) w) (by rw[z];exact wD _)
   ·exact p _ vs H' ρ' (h.trans ex) (rs.ext (h.trans ex) Z) (h.fresh t (k.hp.free t)) W F G
theorem j7 {i:Nat}{x:Str}{h:Pos}{w tg j:Expr}{A:List Expr}{f:IF}{g:GF}{cs:List TF}{e:EF}{n:Pos}(hN:X.N.Nodup)(a7:X.N[i]? = some x)(hx:Loc X.env.scope x)(hc:X.calm=true)(S:bH X scope own capn caps)(hi:MI X tg j f)
  (a1:∀V C s H ex,MG (cxC X (own++capn) scope V C s H ex) tg g/\MTs (cxC X (own++capn) scope V C s H ex) A cs/\ME (cxC X (own++capn) scope V C s H ex) w e)
  (a9:swapsWith (.ListComp w [⟨tg,j,A,0⟩] scope n) (some (.Name x h)) pos.line X.env=pure true:=by rfl)
  (hs:∀x,foldedSetIterable j X.env x=pure x:=by intro _;rfl) (b3:X.fn x=true\/X.env.scope.names.lookup x=some .local:=by first|exact .inl rfl|exact .inr rfl|assumption) :
  MS X (.Assign [.Name x h] (.ListComp w [⟨tg,j,A,0⟩] scope n) pos) (aQ (gN i) (aG (bL own.length caps f g cs e))):=by
 intro pins s σ H En I ⟨ρ,σd,hd,rs,p⟩;rw[exec_Assign_Name_used _ _ _ _ a9];refine z0 (wpAny_standAt ?_);show wpAny _ _ ((comprehension _ scope X.env _ (newList []) _ _ _ >>= λ_=>pure ()) >>= λ_=>pure Flow.next) _ _ _;have d:=ce.outE (σ := σ) p;unfold aG bL at d;cases c:f σd hd with
 | exc z h7=>rw[c]at d;exact d.elim
 | bad=>rw[c]at d;exact d.elim
 | ok q hd1 =>
  obtain⟨l,gd⟩:=q;rw[c]at d;simp only[aW]at d;obtain⟨V,h1,B,M⟩:=mQ (scope:=scope) (env:=X.env) λy hy W=>I.ok.has y.1 (S.free y hy W);refine z0 (z0 (WV (Q:=λ_ R=>wpAny (model X.prog X.w) X.A (pure ()) (λ_ R=>wpAny (model X.prog X.w) X.A (pure Flow.next) (SP X pins En) X.xe R) X.xe R) (use:=some (assign (.Name x h) X.env)) rfl hs h1 S.kind S.names (thn (hi pins s σ H (λJ H1=>∃k,Ext ρ H k H1/\RS X.K k H1 σd hd1 σ/\tF X.K k H1 J l gd) I ⟨ρ,σd,hd,rs,by
   rw[c];exact λJ H' ρ' ex b2 wk=>⟨ρ',ex,b2,wk⟩⟩) λv s1 h1=>thn h1 λb5 r h2 => ?_)))
  obtain⟨it,fp,tn,J,H1,rfl,F,T,a3,hf,k,E,G,wk⟩:=h2;cases c2:bR gd l g cs e l (iC own.length caps σd) hd1 with
  | exc z h7=>rw[c2]at d;exact d.elim
  | bad=>rw[c2]at d;exact d.elim
  | ok ds hdF =>
   rw[c2]at d;simp only[aW]at d
   by_cases hz:ds.length<=SZ
   ·rw[z4 hz]at d
    refine oQ (RR:=λa2 C=>compPost (model X.prog X.w) X.A X.xe (some (assign (.Name x h) X.env)) _ a2 C) hc S a1 F T a3 hf G wk.g B M ((vA _ _ _).symm.trans c2) λC R m H' ρ' vs U hn I' b1 ex rh O hD a6 b0 => ?_;refine wpAny_assign_Name (uh I' hN a7 hx (v:=.ref r.heap.objs.size) rfl (λK Y a5 => ?_) b3);have P:C≠X.env.locals:=x6 (x3 F.lt U);have D:∀y c,X.env.cells.lookup y=some c->c≠C:=λy c e z=>by
     obtain⟨v,o,ho,hd⟩:=F.cell y c e;exact absurd (x3 (ZI ho) U) (by rw[z];exact wD _)
    refine⟨m,?_,λh' sb=>z3 (z3 ?_)⟩
    ·obtain⟨a,sa,ha⟩:=a5
     refine hn.sameBut sa ?_;rcases ha with z|z
     ·rw[z];exact P
     ·exact YT (D _ _ z)
    ·have I3:Inv X pins (σ.set i (some (.ref r.heap.objs.size))) H' { K with heap:=h' }:=Y.turned (it:=C) (t':=K.toks) (λb o hb e=>(sb.2 b hb).trans e) b1 P (.inr (YI (ZS F.sz U))) D λq hq z =>
      absurd (x3 (ZI (F.pin q hq).1) U) (by rw[z];exact wD _)
     have u:Ext ρ H ρ' H':=E.trans ex;have a0:=rh.alloc hD a6 b0;have Z:H r.heap.objs.size=none:=E.fresh O (G.hp.free O);have L:Ext ρ H (ρ'++[r.heap.objs.size]) H':=⟨by obtain⟨t,rfl⟩:=u.pre;exact⟨t++[r.heap.objs.size],by simp⟩,λa ha=>by
      rcases W0.mp ha with z|z
      ·exact u.new a z
      ·simp at z;subst z;exact .inr Z,u.frame⟩
     obtain⟨a4,d2,b4,e2,N,a8,pn⟩:=d (.ref r.heap.objs.size) H' (ρ'++[r.heap.objs.size]) L (rs.ext L a0) (by
      simp only[rD,RD];refine⟨r.heap.objs.size,?_,rfl⟩;rw[<-rh.len];simp)
     exact⟨_,H',I3,pn _ H' a4 Ext.refl ⟨N.hp,N.st.set i a8⟩⟩
   ·rw[z5 hz]at d;exact d.elim
end
end Fm
namespace Fm
open PySem PySem.Spec L2 PyProof.Rows
mutual
def rfs (k:Nat):D->Prop
 | .ref n=>n < k
 | .tup l=>iX k l
 | .lit l=>iX k l
 | .exn _ l=>iX k l
 | _=>True
def iX (k:Nat):List D->Prop
 | []=>True
 | x :: xs=>rfs k x/\iX k xs
end
section
variable {K:ZX} {ρ ρ' t:List Addr} {H H':Hp} {hd hd':Hd}
mutual
theorem RD.rfs:∀{d:D} {v:V},RD K ρ H d v->Fm.rfs ρ.length d
 | .non,_,_=>by simp only[Fm.rfs]
 | .bl _,_,_=>by simp only[Fm.rfs]
 | .int _,_,_=>by simp only[Fm.rfs]
 | .str _,_,_=>by simp only[Fm.rfs]
 | .tup l,_,h=>by
  simp only[RD]at h;obtain⟨p,b,_,_,h2⟩:=h;simp only[Fm.rfs];exact RDs.rfs h2
 | .lit l,_,h=>by
  simp only[RD]at h;obtain⟨p,b,_,_,h2⟩:=h;simp only[Fm.rfs];exact RDs.rfs h2
 | .ref n,_,h=>by
  simp only[RD]at h;obtain⟨a,h1,_⟩:=h;simp only[Fm.rfs];exact(List.getElem?_eq_some_iff.mp h1).1
 | .exn _ _,_,h=>by simp only[RD]at h;obtain⟨rfl,_⟩:=h;simp only[Fm.rfs,Fm.iX]
theorem RDs.rfs:∀{l:List D} {a:List V},RDs K ρ H l a->Fm.iX ρ.length l
 | [],_,_=>by simp only[Fm.iX]
 | d :: ds,_,h=>by
  simp only[RDs]at h;obtain⟨v,r,_,h1,h2⟩:=h;simp only[Fm.iX];exact⟨RD.rfs h1,RDs.rfs h2⟩
end
mutual
theorem RD.cut:∀{d:D} {v:V},RD K (ρ ++ t) H d v->Fm.rfs ρ.length d->RD K ρ H d v
 | .non,_,h,_=>by simp only[RD]at h ⊢;exact h
 | .bl _,_,h,_=>by simp only[RD]at h ⊢;exact h
 | .int _,_,h,_=>by simp only[RD]at h ⊢;exact h
 | .str _,_,h,_=>by simp only[RD]at h ⊢;exact h
 | .tup l,_,h,q=>by
  simp only[RD]at h ⊢;simp only[Fm.rfs]at q;obtain⟨p,b,e,h1,h2⟩:=h;exact⟨p,b,e,h1,RDs.cut h2 q⟩
 | .lit l,_,h,q=>by
  simp only[RD]at h ⊢;simp only[Fm.rfs]at q;obtain⟨p,b,e,h1,h2⟩:=h;exact⟨p,b,e,h1,RDs.cut h2 q⟩
 | .ref n,_,h,q=>by
  simp only[RD]at h ⊢;simp only[Fm.rfs]at q;obtain⟨a,h1,h2⟩:=h;exact⟨a,by rwa[ZC q]at h1,h2⟩
 | .exn _ _,_,h,_=>by simp only[RD]at h ⊢;exact h
theorem RDs.cut:∀{l:List D} {a:List V},RDs K (ρ ++ t) H l a->Fm.iX ρ.length l->RDs K ρ H l a
 | [],_,h,_=>by simp only[RDs]at h ⊢;exact h
 | d :: ds,_,h,q=>by
  simp only[RDs]at h ⊢;simp only[Fm.iX]at q;obtain⟨v,r,e,h1,h2⟩:=h;exact⟨v,r,e,RD.cut h1 q.1,RDs.cut h2 q.2⟩
end
mutual
theorem nN {k:Nat}:∀{d:D},pure? d=true->Fm.rfs k d
 | .non,_=>by simp only[Fm.rfs]
 | .bl _,_=>by simp only[Fm.rfs]
 | .int _,_=>by simp only[Fm.rfs]
 | .str _,_=>by simp only[Fm.rfs]
 | .tup l,h=>by simp only[pure?]at h;simp only[Fm.rfs];exact jH h
 | .lit l,h=>by simp only[pure?]at h;simp only[Fm.rfs];exact jH h
 | .exn _ l,h=>by simp only[pure?]at h;simp only[Fm.rfs];exact jH h
 | .ref _,h=>by simp only[pure?]at h;cases h
theorem jH {k:Nat}:∀{l:List D},fg l=true->Fm.iX k l
 | [],_=>by simp only[Fm.iX]
 | x :: xs,h=>by
  simp only[fg,x8]at h;simp only[Fm.iX];exact⟨nN h.1,jH h.2⟩
end
def D6 (k:Nat):aS->Prop
 | .lst l=>Fm.iX k l
 | .dct l=>Fm.iX k (l.map (·.2))
 | .dcT l=>Fm.iX k (l.map (·.2))
theorem RC.rfs {c:aS}{a:Addr}(h:RC K ρ H c a):D6 ρ.length c:=by
 cases c with
 | lst l=>obtain⟨b,_,h2⟩:=h;exact h2.rfs
 | dct l=>obtain⟨b,_,_,h2⟩:=h;exact h2.rfs
 | dcT l=>obtain⟨b,_,_,h2⟩:=h;exact h2.rfs
theorem RC.cut {c:aS}{a:Addr}(h:RC K (ρ ++ t) H c a)(q:D6 ρ.length c):RC K ρ H c a:=by
 cases c with
 | lst l=>obtain⟨b,h1,h2⟩:=h;exact⟨b,h1,h2.cut q⟩
 | dct l=>obtain⟨b,h1,h2,d⟩:=h;exact⟨b,h1,h2,d.cut q⟩
 | dcT l=>obtain⟨b,h1,h2,d⟩:=h;exact⟨b,h1,h2,d.cut q⟩
theorem vD {k:Nat}{c:aS}(h:qS c=true):D6 k c:=by
 cases c with
 | lst l=>exact jH h
 | dcT l =>
  have:∀l:List (List Int × D),(l.all λp=>pure? p.2)=true->Fm.iX k (l.map (·.2)):=by
   intro l
   induction l with
   | nil=>intro _;simp only[W8,Fm.iX]
   | cons x l ih=>intro h;simp only[X4,x8]at h;simp only[yP,Fm.iX];exact⟨nN h.1,ih h.2⟩
  exact this l h
 | dct l =>
  have:∀l:List (Int × D),(l.all λp=>pure? p.2)=true->Fm.iX k (l.map (·.2)):=by
   intro l
   induction l with
   | nil=>intro _;simp only[W8,Fm.iX]
   | cons x l ih=>intro h;simp only[X4,x8]at h;simp only[yP,Fm.iX];exact⟨nN h.1,ih h.2⟩
  exact this l h
theorem RH.back (r:RH K ρ H hd)(b:RH K (ρ ++ t) H' hd')(o:A8 hd hd'):RH K ρ H' (hd'.take hd.length):=by
 have e:(ρ ++ t).length=hd'.length:=b.len;refine⟨by rw[XH,<-e,ZB,<-r.len];omega,(XA.mp b.nd).1,λn c a h1 h2 => ?_⟩;have d:n < hd.length:=by rw[<-r.len];exact(List.getElem?_eq_some_iff.mp h2).1
 rw[List.getElem?_take_of_lt d]at h1;have q:=b.cel n c a h1 (by rw[ZC (by rw[r.len];exact d)];exact h2);refine q.cut ?_;rcases o n c d h1 with z|z
 ·exact(r.cel n c a z h2).rfs
 ·exact vD z
def qY (K:ZX) (ρ:List Addr) (H:Hp) (r:Res D) (Q:VK):Prop:=match r with
 | .ok d hd'=>∀v H' ρ',Ext ρ H ρ' H'->RH K ρ' H' hd'->RD K ρ' H' d v->Q v H'
 | _=>False
def spF (K:ZX) (F:Fn) (np:Nat):Sp:=λvs H Q _=>∃ρ hd ds,RH K ρ H hd/\RDs K ρ H ds vs/\ds.length=np/\qY K ρ H (F ds hd) Q
theorem Ext.short (e:Ext ρ H (ρ ++ t) H'):Ext ρ H ρ H':=⟨⟨[],by simp⟩,λ_ h=>.inl h,e.frame⟩
theorem qY.letGo {r:Res D}{Q:VK}(c:RH K ρ H hd)(p:qY K ρ H (letGo hd r) Q):qY K ρ H r Q:=by
 cases r with
 | exc x h'=>exact p
 | bad=>exact p
 | ok d h' =>
  intro v H' ρ' ex a b;simp only[Fm.letGo]at p;split at p
  ·rename_i hc
   obtain⟨t,rfl⟩:=ex.pre;exact p v H' ρ ex.short (c.back a hc.2) (b.cut (nN hc.1))
  ·exact p v H' ρ' ex a b
theorem qY.runB {n:Nat}{b:SF}{ds:List D}{Q:VK}(p:qY K ρ H (runB n b ds hd) Q):ce K ρ H (b (ds.map some++List.replicate (n - ds.length) none) hd) { nx:=λ_ H'=>Q .non H',rt:=Q }:=by
 unfold Fm.runB at p;cases e:b (ds.map some++List.replicate (n - ds.length) none) hd with
 | nx σ h'=>rw[e]at p;exact λa H' ρ' ex c=>p .non H' ρ' ex c.hp (by simp only[RD])
 | rt d h'=>rw[e]at p;exact p
 | bk σ h'=>rw[e]at p;exact p.elim
 | ct σ h'=>rw[e]at p;exact p.elim
 | exc x σ h'=>rw[e]at p;exact p.elim
 | bad=>rw[e]at p;exact p.elim
theorem Cl {N:List Str}{ds:List D}{vs:List V}(r:RDs K ρ H ds vs):RSt K ρ H (ds.map some++List.replicate (N.length - ds.length) none) (L2.li N vs):=by
 have b:=r.length;refine⟨by simp[L2.li,b],λi d e => ?_⟩;simp only[slot]at e
 by_cases hi:i < ds.length
 ·rw[ZC (by simpa using hi)]at e
  simp only[ZQ,ZE hi,XC]at e;cases e;obtain⟨v,a,q⟩:=r.get (i:=i) (d:=ds[i]) (by simp[hi]);refine⟨v,?_,q⟩;unfold L2.li;rw[ZC (by simp;omega)];simp[a]
 ·rw[ZD (by simpa using WQ hi)]at e
  simp only[List.getElem?_replicate]at e
  by_cases hq:i - (List.map some ds).length < N.length - ds.length
  ·simp only[hq,YL]at e;cases e
  ·simp only[hq,YQ]at e;cases e
end
structure Def (P:T6) (w:T7) (K:ZX) (mg:Str->Option T0) (base:Heap) (x:Str) (k np:Nat) (F:Fn):Prop where
 ex:∃f fd ps,mg x=some (.ref f)/\PySem.W.keepIn K (.ref f)=true/\qN K fd ps []/\bW P w K mg base CX0 k f fd ps (spF K F np)
section
variable {P:T6} {w:T7} {K:ZX} {mg:Str->Option T0} {base:Heap}
theorem bN {x:Str}{st:Stmt}{f:Addr}{fd:FuncData}{N ps:List Str}{k:Nat}{b:SF}(F:Fun K x x st f fd)(S:aP N ps (aw st))
  (body:∀(a:T0) (A:T5) (outer:List Env) (s:T4) (H:Hp) (E:XK),iW k (A.deeper (envOfC x (aw st) s.heap.objs.size f a))->MSs (zi CX0 P w K mg base N x (aw st) f a A outer s H E).nox (dN st) b) :
  bW P w K mg base CX0 (k + 1) f fd ps (spF K (bS ps.length N.length b) ps.length):=by
 refine F.ok S (λh H Q E ⟨ρ,hd,ds,c,e,d,p⟩=>by rw[<-e.length];exact d) λa A outer s H h Q E g ⟨ρ,hd,ds,c,e,d,p⟩=>⟨_,body a A outer s H E g,ρ,_,hd,⟨c,Cl e⟩,?_⟩;simp only[bS,d,YL]at p;exact(qY.letGo c p).runB
theorem Def.mk' {x:Str}{f:Addr}{fd:FuncData}{ps:List Str}{k np:Nat}{F:Fn}(hm:mg x=some (.ref f))(b:PySem.W.keepIn K (.ref f)=true)(a:qN K fd ps [])(h:bW P w K mg base CX0 k f fd ps (spF K F np)):Def P w K mg base x k np F:=⟨f,fd,ps,hm,b,a,h⟩
end
section
variable {X:Cx} {pos p:Pos}
theorem du {x:Str}{k np:Nat}{F:Fn}{e:Expr}{es:List Expr}{r:LF}(hd:Def X.prog X.w X.K X.mg X.base x k np F)(o:iW k X.A)(A:Gl X x)(s:MA X (e :: es) r)(i:∀ds h d h',F ds h=.ok d h'->ds.length=np)
  (j:(x == ("__debug__" : Str))=false:=by decide) (he:starEach (e :: es) X.env=(false,eval e X.env) :: starEach es X.env:=by rfl) (hpl:(backTo pos (starEach es X.env)).any (·.1)=false:=by rfl) :
  ME X (.Call (.Name x p) (e :: es) [] pos) (au F r):=by
 obtain⟨f,fd,ps,h1,h2,u,m⟩:=hd.ex;refine PE.imp (Gh m o A h1 h2 u .nil KS s j he hpl) λσ H Q ⟨ρ,σd,hd,w,n⟩=>⟨ρ,σd,hd,w,(bZ.bind (R:=rDs X.K) n).imp λC H1 ⟨l,ds,g,B,b,t,a⟩ => ?_⟩;rw[Z6];cases c:F ds g with
 | exc z h'=>rw[c]at a;exact a.elim
 | bad=>rw[c]at a;exact a.elim
 | ok d hd2 =>
  rw[c]at a;refine⟨l,g,ds,b.hp,t,i _ _ _ _ c,?_⟩;rw[c];exact λv H' ρ' ex q y=>a v H' ρ' ex (b.ext ex q) y
theorem eA {np n:Nat}{b:SF}:∀ds h d a,bS np n b ds h=.ok d a->ds.length=np:=by
 intro ds h d a e;unfold bS at e;split at e
 ·assumption
 ·cases e
end
theorem K8 {l:PySem.W.OpenLaw}{q:T6}{b:List Str}{XP:(Str->Option T0)->Heap->Prop}{m:T7->Heap->Prop}{d:DefRec}{K:Params->ZX}{F:Fn}{k:Nat}{x:Str}(E:l.most=some 63)(i:d.params.defaults=[])(A:iW k callerA)
  (t:∀(w:T7) (h:Heap),m w h->(K w.params).In h)
  (C:∀(w:T7) (mg:Str->Option T0) (fa:Addr) (h:Heap),(K w.params).In h->h.Ns mainGlobals mg->mg d.name=some (.ref fa)->
   ∃fd:FuncData,(∀(s:T4) (u:T0),BindsTo s fd ⟨[u],[]⟩ [(x,u)])/\∀base:Heap,(K w.params).In base->base.Ns mainGlobals mg->bW l.prog w (K w.params) mg base CX0 k fa fd [x] (spF (K w.params) F 1))
  (g:∀ns:List Int,ns.length<=63->∃h,F [.lit (ns.map .int)] []=.ok (.bl true) h) :
  PySem.W.WalkO q b XP m l.row.toRowW d [] (λf J=>PySem.call f J):=by
 refine L2.Gr (n:=63) (k:=k) (x:=x) (CX:=λ_=>CX0) (sp:=λw=>spF (K w.params) F 1) E (by decide) i A t C (λw H a ns p B r => ?_) λ_ _ _ _ _ z=>z;obtain⟨h,e⟩:=g ns p;have j:pX (K w.params) H a (ns.map V.int):=by
  rcases r with (z|⟨o,z⟩)|z
  ·rcases B a with y|⟨o,xs,y⟩<;>(rw[z]at y;cases y)
  ·exact .inl ⟨o,z⟩
  ·exact .inr z
 have G:RDs (K w.params) [] H (ns.map D.int) (ns.map V.int):=by
  clear p r e j g
  induction ns with
  | nil=>exact RDs.nil
  | cons n ns ih=>exact RDs.cons (by simp only[RD]) ih
 refine⟨[],[],[.lit (ns.map .int)],⟨rfl,WN,λn c a h1=>by simp at h1⟩,RDs.cons (by simp only[RD];exact⟨a,_,rfl,j,G⟩) RDs.nil,rfl,?_⟩;rw[e];intro v H' ρ' ex L I;simpa only[RD] using I
end Fm
namespace Fm
open PySem PySem.Spec L2
open PyProof.Rows (Subscript_ tail_any)
def tyS:Ty->String
 | .int => "int" | .bool => "bool" | .tuple => "tuple" | .list => "list" | .str => "str"
theorem ie (t:Ty):typeOf (.type (tyS t))=pure (.type "type"):=by
 cases t
 ·exact F.isi_meta_int
 ·exact F.isi_meta_bool
 ·exact F.isi_meta_tuple
 ·exact F.isi_meta_list
 ·exact F.isi_meta_str
theorem Gx (t:Ty):isSubtype (.type "NoneType") (.type (tyS t))=pure false:=by cases t<;>(rw[YF];kernel_rfl)
theorem Jk {t:Ty} (h:t ≠ .int):isSubtype (.type "int") (.type (tyS t))=pure false:=by cases t<;>first|exact absurd rfl h|(rw[YF];kernel_rfl)
theorem Gy {t:Ty} (h:t ≠ .int) (h2:t ≠ .bool):isSubtype (.type "bool") (.type (tyS t))=pure false:=by cases t<;>first|exact absurd rfl h|exact absurd rfl h2|(rw[YF];kernel_rfl)
theorem Jl {t:Ty} (h:t ≠ .str):isSubtype (.type "str") (.type (tyS t))=pure false:=by cases t<;>first|exact absurd rfl h|(rw[YF];kernel_rfl)
theorem D7 {t:Ty} (h:t ≠ .tuple):isSubtype (.type "tuple") (.type (tyS t))=pure false:=by cases t<;>first|exact absurd rfl h|(rw[YF];kernel_rfl)
theorem Be {t:Ty} (h:t ≠ .list):isSubtype (.type "list") (.type (tyS t))=pure false:=by cases t<;>first|exact absurd rfl h|(rw[YF];kernel_rfl)
theorem Gz (t:Ty):isSubtype (.type "dict") (.type (tyS t))=pure false:=by cases t<;>(rw[YF];kernel_rfl)
theorem md (t:Ty):isSubtype (.type (tyS t)) (.type (tyS t))=pure true:=by cases t<;>(rw[YF];kernel_rfl)
theorem xn:isSubtype (.type "bool") (.type (tyS .int))=pure true:=by rw[YF];kernel_rfl
theorem pY {n:String}{t:Ty}(h:n≠tyS t):(Value.type n == Value.type (tyS t))=false:=by
 rw[beq_eq_false_iff_ne];intro e;cases e;exact h rfl
theorem zw {a b:Ty}(h:a≠b):(a == b)=false:=by cases a<;>cases b<;>first|rfl|exact absurd rfl h
section
variable {X:Cx} {pos p:Pos}
theorem Jm {pins:List (Addr × Obj)}{σ:St}{H:Hp}{s:T4}{ρ:List Addr}{hd:Hd}{d:D}{v:V}{u:T0}{t:Ty}{b:Bool}{Q:T0->T4->Prop}{E:T0->T4->Prop}(I:Inv X pins σ H s)(y:RH X.K ρ H hd)(h:RD X.K ρ H d v)(r:bJ v u)(e:Ci hd t d=some b)
  (q:∀A,Inv X pins σ H A->Q (.bool b) A):wpAny (model X.prog X.w) X.A (call (.builtin "isinstance") [u,.type (tyS t)]) Q E s:=by
 have i:=q s I;have q1:=q { s with toks:=s.toks + 1 } (I.tok _);have f:∀{n:String},s.TypeIs u n->isSubtype (.type n) (.type (tyS t))=pure true->Q (.bool true) s->wpAny (model X.prog X.w) X.A (call (.builtin "isinstance") [u,.type (tyS t)]) Q E s:=λh1 h2 C=>Y3 (isinstance_true (ie t) h2) ⟨h1,C⟩;cases d<;>simp only[RD]at h<;>simp only[Ci]at e
 ·subst h;cases r;cases e
  exact Y3 (isinstance_false_none (by cases t<;>exact pY (by decide)) (ie t) (Gx t)) q1
 ·subst h;cases r
  by_cases h1:t=.int
  ·subst h1;cases e;exact f (n := "bool") rfl xn i
  ·by_cases h2:t=.bool
   ·subst h2;cases e;exact f (n := "bool") rfl (md .bool) i
   ·rw[zw h1,zw h2]at e;cases e
    exact Y3 (isinstance_false_bool (by cases t<;>first|exact absurd rfl h1|exact absurd rfl h2|exact pY (by decide)) (ie t) (Gy h1 h2)) q1
 ·subst h;obtain⟨tk,rfl⟩:=r
  by_cases h1:t=.int
  ·subst h1;cases e;exact f (n := "int") rfl (md .int) i
  ·rw[zw h1]at e;cases e
   exact Y3 (isinstance_false_int (by cases t<;>first|exact absurd rfl h1|exact pY (by decide)) (ie t) (Jk h1)) q1
 ·subst h;obtain⟨tk,rfl⟩:=r
  by_cases h1:t=.str
  ·subst h1;cases e;exact f (n := "str") rfl (md .str) i
  ·rw[zw h1]at e;cases e
   exact Y3 (isinstance_false_str (by cases t<;>first|exact absurd rfl h1|exact pY (by decide)) (ie t) (Jl h1)) q1
 ·obtain⟨a,x,rfl,j,_⟩:=h
  cases r;obtain⟨m,_,o,g,hc,_⟩:=jj I.hok j
  by_cases h1:t=.tuple
  ·subst h1;cases e;exact f (n := "tuple") ⟨o,g,hc⟩ (md .tuple) i
  ·rw[zw h1]at e;cases e
   exact Y3 (isinstance_false_tuple (by cases t<;>first|exact absurd rfl h1|exact pY (by decide)) (ie t) (D7 h1)) ⟨⟨o,g,hc⟩,q1⟩
 ·rename_i n
  obtain⟨a,j,rfl⟩:=h;cases r;cases c:hd[n]? with
  | none=>rw[c]at e;cases e
  | some cell =>
   rw[c]at e;cases cell with
   | lst l =>
    obtain⟨x,w,_⟩:=y.cel n _ a c j;obtain⟨z,m,k,_,g⟩:=I.hok a _ w
    by_cases h1:t=.list
    ·subst h1;cases e;exact f (n := "list") ⟨_,g,rfl⟩ (md .list) i
    ·simp only[zw h1]at e;cases e
     exact Y3 (isinstance_false_list (by cases t<;>first|exact absurd rfl h1|exact pY (by decide)) (ie t) (Be h1)) ⟨⟨_,g,rfl⟩,q1⟩
   | dcT _=>cases e
   | dct l =>
    obtain⟨x,w,_,_⟩:=y.cel n _ a c j;obtain⟨_,_,_,_,o,_,_,g,ex,_⟩:=I.hok a _ w;cases e;exact Y3 (isinstance_false_dict (by cases t<;>exact pY (by decide)) (ie t) (Gz t)) ⟨⟨o,g,ex.1⟩,q1⟩
 ·obtain⟨a,x,rfl,j,_⟩:=h
  cases r;obtain⟨m,_,B,_⟩:=I.list j.sq;obtain⟨o,g,hc,_⟩:=B.isList
  by_cases h1:t=.list
  ·subst h1;cases e;exact f (n := "list") ⟨o,g,hc⟩ (md .list) i
  ·simp only[zw h1]at e;cases e
   exact Y3 (isinstance_false_list (by cases t<;>first|exact absurd rfl h1|exact pY (by decide)) (ie t) (Be h1)) ⟨⟨o,g,hc⟩,q1⟩
 ·cases e
def Ml (K:ZX) (t:Ty):List V->Hp->VK->Prop:=λxs H Q=>∃ρ hd d v b,xs=[v,.ty (tyS t)]/\RH K ρ H hd/\RD K ρ H d v/\Ci hd t d=some b/\Q (.bl b) H
theorem D8 (t:Ty):fO X (.builtin "isinstance") (Ml X.K t):=by
 intro pins s σ H xs k Q I r h;obtain⟨ρ,hd,d,v,b,rfl,g,j,e,q⟩:=h;obtain⟨u,i,rfl,f,a⟩:=aY.two r;cases (show i=Value.type (tyS t) from a);exact Jm I g j f e λl c=>⟨.bl b,H,c,rfl,q⟩
theorem fu {t:Ty} {a:Expr} {fa:EF} {p2:Pos} {n:Str} (w:Gl X "isinstance") (hm:X.mg "isinstance" = none) (j:Gl X n) (k:X.mg n=none) (r:bootBuiltins n=some (.type (tyS t))) (o:ME X a fa)
  (l:starEach [a,.Name n p2] X.env=(false,eval a X.env) :: starEach [.Name n p2] X.env:=by rfl) (i:starEach [.Name n p2] X.env=(false,eval (.Name n p2) X.env) :: starEach [] X.env:=by rfl) (s:n ≠ "__name__" := by decide) (hd:(n == ("__debug__" : Str))=false:=by decide) :
  ME X (.Call (.Name "isinstance" p) [a,.Name n p2] [] pos) (eT t fa):=by
 refine PE.imp (iA (D8 t) w hm (by decide +kernel) (cP o (cP (F5 (v:=.ty (tyS t)) j k r rfl s hd) em i) l) (he:=l)) λσ H Q ⟨ρ,σd,hd,u,m⟩=>⟨ρ,σd,hd,u,(bZ.bind (R:=rD X.K) m).imp λv H1 ⟨h,d,f,x,e,q,g⟩ => ?_⟩;cases c:Ci f t d with
 | none=>simp only[c]at g;exact g.elim
 | some b=>simp only[c]at g;exact⟨h,f,d,v,b,rfl,e.hp,q,c,g.here e (by simp only[rD,RD])⟩
theorem ig:OpR X (binaryOp .Add) (λx y H Q=>rI0 (λi j=>.int (i + j)) x y H Q\/DQ X.K x y H Q):=IL.or Gm
theorem j8 {K:ZX}:Og K ei (λx y H Q=>rI0 (λi j=>.int (i + j)) x y H Q\/DQ K x y H Q):=by
 intro ρ H σd hd σ d k v w Q n h f c;cases d<;>try exact c.elim
 ·cases k<;>try exact c.elim
  simp only[RD]at h f;exact .inl ⟨_,_,h,f,c.here n (by simp only[rD,RD])⟩
 ·rename_i l
  cases l with
  | nil=>exact c.elim
  | cons x xs =>
   cases k<;>try exact c.elim
   rename_i ys
   simp only[ei]at c;split at c
   ·rename_i hz
    simp only[RD]at h f;obtain⟨a,r,rfl,t,e⟩:=h;obtain⟨b,s,rfl,A,g⟩:=f;refine .inr ⟨a,b,r,s,rfl,rfl,SqT.of t,SqT.of A,?_,?_,λz => ?_,λ_ q u => ?_⟩
    ·intro z;subst z;have:=e.length;simp at this
    ·rw[<-e.length,<-g.length];exact qz hz
    ·subst z
     have B:ys=[]:=by have:=g.length;simpa using this
     subst B;exact c.here n (by simp only[rD,RD];exact⟨a,r,rfl,t,by simpa using e⟩)
    ·have m:=cy (o:=HO.tup (r++s)) u
     exact c.at (Ext.same m) (n.same m) (by simp only[rD,RD];exact⟨q,_,rfl,bi,(RDs.append e g).mono (Kp.same m)⟩)
   ·exact c.elim
theorem vE {a:Expr} {c:LF} (k:Gl X "list") (hm:X.mg "list" = none) (g:MQ X a c) (f:starEach [a] X.env=(false,eval a X.env) :: starEach [] X.env:=by rfl):MF X (.Call (.Name "list" p) [a] [] pos) c:=by
 refine PE.imp (oM vv k hm (by decide +kernel) (cP g em f) (he:=f)) λσ H Q ⟨ρ,σd,hd,i,b⟩=>⟨ρ,σd,hd,i,?_⟩;cases e:c σd hd with
 | exc x h'=>rw[e]at b;exact b
 | bad=>rw[e]at b;exact b
 | ok l hd1 =>
  rw[e]at b;intro v H1 h j d ⟨q,vs,hv,sq,rvs⟩;subst hv;exact⟨q,vs,rfl,sq.imp id SqT.of,b.mk j d rvs⟩
def MO (X:Cx) (e:Option Expr) (f:OF):Prop:=PO X e (lq X.K rO f)
theorem D9:MO X none pNo:=λpins s σ H Q I ⟨ρ,σd,hd,b,a⟩=>Gj pins s σ H Q I (a.here b rfl)
theorem Ea {e:Expr}{f:EF}(h:ME X e f):MO X (some e) (pAt f):=λpins s σ H Q I ⟨ρ,σd,hd,j,g⟩=>Gk h pins s σ H Q I ⟨ρ,σd,hd,j,(bZ.bind (R:=rD X.K) g).imp λv H1 ⟨i,d,k,l,a,c,b⟩=>by
 cases d<;>try exact b.elim
 simp only[rD,RD]at c;exact⟨_,c,b.here a rfl⟩⟩
theorem Bf {K:ZX}{ρ:List Addr}{H:Hp}{l:List D}{vs:List V}{lo hi:Option Int}(r:RDs K ρ H l vs):RDs K ρ H (cut l lo hi) (qP vs lo hi):=by
 have e:∀(n d:Nat) (o:Option Int),Fm.sIx n d o=HT.sIx n d o:=λn d o=>by cases o<;>rfl
 unfold cut qP;rw[r.length,e,e];exact(r.drop _).take _
theorem qZ {a:Expr}{fa:EF}{lo hi:Option Expr}{F I:OF}{p2:Pos}(O:ME X a fa)(P:MO X lo F)(Y:MO X hi I):ME X (.Subscript a (.Slice lo hi none p2) pos) (j5 fa F I):=by
 refine PE.imp (DP (SlR.or Gn IR) O P Y) λσ H Q ⟨ρ,σd,hd,W,G⟩ => ?_;unfold j5 at G;refine⟨ρ,σd,hd,W,(bZ.bind (R:=rD X.K) G).imp λv H1 ⟨A,d,E,e1,t,T,M⟩ => ?_⟩;refine⟨A,σd,E,t,(bZ.bind (R:=rO) M).imp λx H2 ⟨B,K,C,L,u,q2,p2⟩ => ?_⟩;cases q2;refine⟨B,σd,C,u,(bZ.bind (R:=rO) p2).imp λw z ⟨j,Z,g,J,f,q3,b⟩ => ?_⟩;cases q3;have k:=(T.mono (t.hp.kp L)).mono (u.hp.kp J);have i:∀l,dI g d=some l->bZ X.K (rD X.K) j z σd σ (.ok (.ref g.length) (g++[.lst (cut l x w)])) Q->KQ X.K v x w z Q:=λl c p=>by
  obtain⟨q,r,V,S,h⟩:=ma f.hp k c;refine⟨q,r,V,S,λy s => ?_⟩;have m:=cy (o:=HO.lst (qP r x w)) s;have U:=f.hp.free s;have N:=(f.hp.same m).alloc bi U ((Bf h).mono (Kp.same m));have ex:Ext j z (j++[y]) (upd z y (.lst (qP r x w))):=Ext.alloc s;refine p.at ex (f.ext ex N) ?_;simp only[rD,RD];exact⟨y,by rw[<-f.hp.len];simp,rfl⟩
 cases d with
 | tup l =>
  simp only at b;split at b
  ·exact b.elim
  ·rename_i hw
   simp only[RD]at k;obtain⟨q,r,rfl,s,h⟩:=k;have e:∀(n d:Nat) (o:Option Int),Fm.sIx n d o=HT.sIx n d o:=λn d o=>by cases o<;>rfl
   refine .inr ⟨q,r,rfl,SqT.of s,by rw[<-h.length,<-e,<-e];exact hw,λy D => ?_⟩;have m:=cy (o:=HO.tup (qP r x w)) D;exact b.at (Ext.same m) (f.same m) (by simp only[rD,RD];exact⟨y,_,rfl,bi,(Bf h).mono (Kp.same m)⟩)
 | ref n =>
  simp only at b;cases c:dI g (.ref n) with
  | none=>rw[c]at b;exact b.elim
  | some l=>rw[c]at b;exact .inl (i l c b)
 | lit l' =>
  simp only at b;cases c:dI g (.lit l') with
  | none=>rw[c]at b;exact b.elim
  | some l=>rw[c]at b;exact .inl (i l c b)
 | _=>exact b.elim
theorem j9 {o e:Expr} {C G:EF} {apos b:Pos} (L:ME X o C) (he:ME X e G) (j:attributeBase o "append" X.env (eval o X.env)=eval o X.env:=by rfl)
  (r:((backTo b (starEach [e] X.env)).all (λx => !x.1) && (backToKw b (keywordEach [] X.env)).all (λx=>x.1.isSome)
   && decide (([e] : List Expr).length + ([] : List Keyword).length + (if ([] : List Keyword).isEmpty then 0 else 1) < 30))=true:=by rfl)
  (h:(apos.endLine == b.line)=true:=by rfl) (D:starEach [e] X.env=(false,eval e X.env) :: starEach [] X.env:=by rfl) :
  ME X (.Call (.Attribute o "append" apos) [e] [] b) (k8 C G):=by
 refine PE.imp (KR PySem.F.plainAttrs_list PySem.F.slot_list_append PySem.F.type_list_append uo L (cP he em D) j r h D) λσ H Q ⟨ρ,σd,hd,P,E⟩=>⟨ρ,σd,hd,P,?_⟩;unfold k8 at E;refine(bZ.bind (R:=rD X.K) E).imp λv H1 ⟨z,d,u,T,q,I,f⟩ => ?_;cases d<;>try exact f.elim
 rename_i n
 simp only[rD,RD]at I;obtain⟨a,F,rfl⟩:=I;simp only at f;cases c1:u[n]? with
 | none=>rw[c1]at f;exact f.elim
 | some cell1 =>
  rw[c1]at f;cases cell1 with
  | dct l=>exact f.elim
  | dcT l=>exact f.elim
  | lst l1 =>
   obtain⟨S,N,_⟩:=q.hp.cel n _ a c1 F;simp only at f;refine⟨.inl ⟨rfl,S,SqL.of N⟩,z,σd,u,q,(bZ.bind (R:=rD X.K) f).imp λw J ⟨s,k,t,K,i,A,p2⟩ => ?_⟩;simp only[Jb]at p2;cases c:t[n]? with
   | none=>rw[c]at p2;exact p2.elim
   | some cell =>
    rw[c]at p2;cases cell with
    | dct l=>exact p2.elim
    | dcT l=>exact p2.elim
    | lst l =>
     simp only at p2;split at p2
     ·rename_i hz
      have m:=K.get F;obtain⟨y,B,g⟩:=i.hp.cel n _ a c m;refine⟨a,y,w,rfl,rfl,B,?_,?_⟩
      ·rw[<-g.length];exact xC hz (by rw[wH];decide)
      ·have O:n < t.length:=(List.getElem?_eq_some_iff.mp c).1
       have M:=i.hp.write m O (RDs.append g (RDs.cons A RDs.nil));have ex:Ext s J s (upd J a (.lst (y++[w]))):=Ext.write (ZK m);exact p2.at ex (i.ext ex M) (by simp only[rD,RD])
     ·exact p2.elim
end
end Fm
namespace Fm
open PySem PySem.Spec L2
open AutoSeq1 (wpAny_loadPart')
open PyProof.Rows (Call_)
theorem xo {a b:String}(h:Value.type a=Value.type b)(n:a≠b):False:=by injection h with h;exact n h
theorem lC (l:Addr)(items:Array T0)(n:Nat)(e:Option Addr)(sl:Array (Option T0)) :
  Meets (Builtin.«enumerate.__new__» ⟨[.type "enumerate",.ref l],[]⟩) (λ_ R s=>s.heap.get? l=some { cls:=.type "tuple",dict:=e,data:=.seq items n,slots:=sl }/\
   R (.ok (.ret (.ref (s.heap.push { cls:=.type "tuple_iterator",data:=.fields #[.ref l,.int 0 0] }).objs.size)))
    { s with heap:=(s.heap.push { cls:=.type "tuple_iterator",data:=.fields #[.ref l,.int 0 0] }).push { cls:=.type "enumerate",data:=.fields #[.none,.bool false,.ref s.heap.objs.size,rawInt 0,.none,.none] } }) :=
 .of_wp λprog w A R s h=>by
  obtain⟨i,g,d,tk,os⟩:=s;obtain⟨a,h⟩:=h;have f:=sub_enumerate;have b:Heap.IsTuple (Shared.heap ⟨i,g,d,tk,os⟩) l items:=⟨_,a,rfl,n,rfl⟩
  wp_walk using XY a
  refine wpAny_stack_any λst=>z3 ?_;split
  ·rename_i c _ _ _ _ _
   cases (c == Value.type "enumerate")
   ·wp_walk using XY a,YP b
    exact⟨_,rfl,h⟩
   ·wp_walk using XY a,YP b
    exact⟨_,rfl,h⟩
  ·wp_walk using XY a,YP b
   exact⟨_,rfl,h⟩
section
variable {prog:T6} {w:T7} {A:T5} {E:T0->T4->Prop} {s:T4}
theorem lD {l:Addr}{items:Array T0}{Q:T0->T4->Prop}(g:s.heap.IsTuple l items)
  (h:∀h',IsEnum h' (s.heap.objs.size + 1) s.heap.objs.size 0 .none->h'.IsTupleIter s.heap.objs.size l 0->h'.objs.size=s.heap.objs.size + 2->
   (∀b o,s.heap.get? b=some o->h'.get? b=some o)->Q (.ref (s.heap.objs.size + 1)) { s with heap:=h' }) :
  wpAny (model prog w) A (call (.type "enumerate") [.ref l]) Q E s:=by
 obtain⟨⟨c,a,f,sl⟩,i,hc,n,hd⟩:=g;replace hc:c=.type "tuple" := hc;replace hd:f=.seq items n:=hd;subst hc hd;refine callType_new F.called_enumerate (by decide) (F.typeCall_enumerate_1 _) (F.newCall_enumerate_1 _) (λobj=>F.args_object_init_2 obj _) F.entry_enumerate_new
  (lC l items n a sl) ⟨i,?_⟩
 have d:(s.heap.push { cls:=.type "tuple_iterator",data:=.fields #[.ref l,.int 0 0] }).objs.size=s.heap.objs.size + 1:=v3 ..;show _/\_;rw[d];have e:IsEnum ((s.heap.push { cls:=.type "tuple_iterator",data:=.fields #[.ref l,.int 0 0] }).push
   { cls:=.type "enumerate",data:=.fields #[.none,.bool false,.ref s.heap.objs.size,rawInt 0,.none,.none] }) (s.heap.objs.size + 1) s.heap.objs.size 0 .none:=by
  have:=ZJ (s.heap.push { cls:=.type "tuple_iterator",data:=.fields #[.ref l,.int 0 0] })
   (o:={ cls:=.type "enumerate",data:=.fields #[.none,.bool false,.ref s.heap.objs.size,rawInt 0,.none,.none] }) rfl
  rw[d]at this;exact this
 refine⟨⟨_,e,rfl⟩,h _ e ⟨_,ZH _ (ZJ _ rfl),rfl,rfl⟩ (by rw[v3,d]) λb o x=>ZH _ (ZH _ x)⟩
theorem i4 {it l:Addr}{i:Nat}{items:Array T0}{x:T0}{Q:T0->T4->Prop}(a:s.heap.IsTupleIter it l i)
  (e:s.heap.IsTuple l items) (g:items[i]? = some x)
  (f:∀h',h'.IsTupleIter it l (i + 1)->Heap.SameBut it s.heap h'->Q x { s with heap:=h' }) :
  wpAny (model prog w) A (Builtin.SmallTypes.nextOf (.ref it)) Q E s:=by
 obtain⟨o,b,hc,hd⟩:=id a;obtain⟨j,c,_,h,d⟩:=e;unfold Builtin.SmallTypes.nextOf;refine z0 (wpAny_callSpecial?_slot (name:=Str.ofString "__next__") a.typeIs XJ
  (Z4 XJ a.typeIs F.entry_tuple_iterator_next ?_ (F.args_tuple_iterator_next_1 _)))
 show wpAny _ _ (field (.ref it) 0 >>= _) _ _ s;refine z0 (YM b hd (x:=.ref l) rfl ?_);show wpAny _ _ (if (Value.ref l == Value.none)=true then _ else _) _ _ s;rw[z5 (show ¬((Value.ref l == Value.none)=true) from wI)];show wpAny _ _ (field (.ref it) 1 >>= _) _ _ s;refine z0 (YM b hd (x:=.int i 0) rfl ?_);show wpAny _ _ (seqItems? (.ref l) >>= _) _ _ s;refine z0 (YW c d ?_);simp only[WL,g];refine z0 (XO b hd (by simp) (z3 ⟨x,rfl,z3 (f _ ?_ (Y0 ..))⟩));exact⟨_,Heap.get?_update_self _ b (Obj.isFreed_of_fields (Obj.data_mapFields hd _)),(Obj.cls_mapFields ..).trans hc,by
  rw[Obj.data_mapFields hd];simp[rawInt]⟩
theorem jI {it l:Addr}{i:Nat}{items:Array T0}{Q:T0->T4->Prop}(g:A.handled=none)
  (b:s.heap.IsTupleIter it l i) (h:s.heap.IsTuple l items) (j:items[i]? = none)
  (k:∀h' e,Heap.ExtBut it s.heap h'->(∃o,h'.get? e=some o/\o.cls=.type "StopIteration")->E (.ref e) { s with heap:=h' }) :
  wpAny (model prog w) A (Builtin.SmallTypes.nextOf (.ref it)) Q E s:=by
 obtain⟨o,d,hc,hd⟩:=id b;obtain⟨p,c,_,n,f⟩:=h;unfold Builtin.SmallTypes.nextOf;refine z0 (wpAny_callSpecial?_slot (name:=Str.ofString "__next__") b.typeIs XJ
  (Z4 XJ b.typeIs F.entry_tuple_iterator_next ?_ (F.args_tuple_iterator_next_1 _)))
 show wpAny _ _ (field (.ref it) 0 >>= _) _ _ s;refine z0 (YM d hd (x:=.ref l) rfl ?_);show wpAny _ _ (if (Value.ref l == Value.none)=true then _ else _) _ _ s;rw[z5 (show ¬((Value.ref l == Value.none)=true) from wI)];show wpAny _ _ (field (.ref it) 1 >>= _) _ _ s;refine z0 (YM d hd (x:=.int i 0) rfl ?_);show wpAny _ _ (seqItems? (.ref l) >>= _) _ _ s;refine z0 (YW c f ?_);simp only[WL,j];refine z0 (W3 (z0 (XO d hd (by simp) ?_)));show wpAny _ _ (newExc (.type "StopIteration") [] >>= _) _ _ _;refine z0 ?_;simp only[newExc,newTuple];refine z0 (Z2 ?_ (by size_fits));refine z0 (m:=firstArgMember _ _) (wpAny_of_eq (a:=Value.none) (by first|rfl|(simp only[firstArgMember];rfl)) ?_);refine Z2 ?_ (by size_fits);simp only[raiseNew];refine z0 (wpAny_handled ?_)
 first|rw[show A.in1.handled=none from g] | rw[g]
 refine z0 (z3 (wpAny_throw ?_));exact k _ _ (((Y0 ..).extBut.push _).push _) ⟨_,ZJ _ rfl,rfl⟩
end
theorem pZ {prog:T6}{w:T7}{A:T5}(n:A.handled=none)(it l:Addr)(d:l≠it)(items:Array T0) :
  Draws prog w A it [it,l] items.size (λi v=>items[i]? = some v) (λi h=>h.IsTupleIter it l i/\h.IsTuple l items) where
 live:=λ_ _ st=>let ⟨o,a,_⟩:=st.1;⟨o,a⟩
 frame:=λ_ _ _ st g=>⟨st.1.at λo e=>g it (by simp) o e,let ⟨o,a,r⟩:=st.2;⟨o,g l (by simp) o a,r⟩⟩
 item:=λi s Q E hi st k=>by
  have f:items[i]? = some items[i]:=by simp[hi]
  refine i4 st.1 st.2 f λj b c => ?_;refine k _ j s.toks f ⟨b,?_⟩ c;obtain⟨o,a,r⟩:=st.2;exact⟨o,(c.2 l d).trans a,r⟩
 done:=λs Q E st m=>jI n st.1 st.2 (by simp) m
def Ite (K:ZX) (a:Addr):It :=
 ⟨λi H=>∃xs x,SqT K H a xs/\xs[i]? = some x,λi H x H'=>∃q v,x=.ref q/\H q=none/\H'=upd H q (.tup [.int (i:Nat),v])/\∀xs,SqT K H a xs->xs[i]? = some v,λi H=>∃xs,SqT K H a xs/\xs.length=i⟩
theorem Cm {P:T6}{w:T7}{K:ZX}{elts:List Expr}{k:Nat}{pos:Pos}(e it a:Addr):xb P w K (.Tuple elts k pos) (Ite K a) [e,it] e (λi h=>(∃g,IsEnum h e it (i:Nat) g)/\h.IsTupleIter it a i) where
 mem:=by simp
 obj:=λi h st b d=>by
  obtain⟨⟨g,B⟩,o,ho,hc,hd⟩:=st;rcases Y6.mp d with rfl|d
  ·exact⟨_,B,λv z=>by
    have z':Data.fields _=Data.cell v:=z;cases z'⟩
  ·have:b=it:=by simpa using d
   subst this;exact⟨o,ho,λv z=>by rw[hd]at z;cases z⟩
 keep:=λi h h' st kk=>by
  obtain⟨⟨g,B⟩,st⟩:=st;exact⟨⟨g,kk e (by simp) _ B⟩,st.at λo x=>kk it (by simp) o x⟩
 item:=by
  intro X hP hw hK hc i pins s σ H E I S st hg;subst hP hw hK;obtain⟨⟨g,B⟩,C⟩:=st;obtain⟨xs,x,hq,hx⟩:=hg;obtain⟨f,rv,p,hz⟩:=I.tuple hq;have W:s.heap.IsTuple a f.toArray:=p;obtain⟨oi,D,J,a3⟩:=id C;obtain⟨oa,j,t,na,a7⟩:=id W;have N:e≠it:=λz=>by
   subst z;have F:s.heap.get? e=_:=B;rw[D]at F;cases F;exact xo J (by decide)
  have a8:e≠a:=λz=>by
   subst z;have F:s.heap.get? e=_:=B;rw[j]at F;cases F;exact xo t (by decide)
  have M:a≠it:=λz=>by
   subst z;rw[D]at j;cases j;rw[J]at t;exact xo t (by decide)
  obtain⟨e0,e1,e2,e3,e4,e5⟩:=S e (by simp);obtain⟨f0,Z,f2,f3,f4,f5⟩:=S it (by simp);have a6:i < f.toArray.size:=by
   have:=(List.getElem?_eq_some_iff.mp hx).1;have hl:=rv.length;simp;omega
  refine wpAny_pyNext_enum_itemD (pZ (prog:=X.prog) (w:=X.w) (A:=X.A.in1) (I.ok.hd hc) it a M f.toArray) B ⟨C,W⟩ a6 N (by simp;exact⟨N,a8⟩) λy h' tk hy a9 Y T U hk => ?_;refine⟨_,rfl,wpAny_letOwnedTupleGo_enum a9 λh2 b0 G => ?_⟩;replace G:Heap.SameBut e h' h2:=G;obtain⟨u,hu,ru⟩:=rv.get hx;have a4:y=u:=by
   have:f.toArray[i]? = some u:=by simpa using hu
   rw[hy]at this;exact ZT this
  subst a4;have R:e < s.heap.objs.size:=ZI B;have a0:it < s.heap.objs.size:=ZI D;have O:H s.heap.objs.size=none:=I.hok.fresh (ZL _);have keep:∀b o,b≠e->b≠it->s.heap.get? b=some o->h2.get? b=some o:=λb o b1 b2 q=>(G.2 b b1).trans (hk b o b1 b2 q);have L:h2.get? s.heap.objs.size=some { cls:=.type "tuple",data:=.seq #[.int i tk,y] }:=(G.2 _ (x6 R)).trans T;have l:∀b,b∉([e,it] : List Addr)->b≠e/\b≠it:=λb d=>by simpa using d
  refine⟨.ref s.heap.objs.size,upd H s.heap.objs.size (.tup [.int (i:Nat),x]),?_,rfl,⟨_,x,rfl,O,rfl,λys a5=>by rw[I.tuple_inj a5 hq];exact hx⟩,⟨⟨_,by simpa using b0⟩,Y.1.extBut G.extBut (YT N)⟩,λb d => ?_⟩
  ·suffices I2:L2.Inv X pins σ (upd H s.heap.objs.size (.tup [.int (i:Nat),x])) { s with heap:=h2,gens:=s.gens,drawn:=s.drawn,toks:=tk + 1 } from I2
   refine I.step (g':=s.gens) (d':=s.drawn) (t':=tk + 1) (ch:=[e,it]) (λb d => ?_) (λb o _ _ d q _=>keep b o (l b d).1 (l b d).2 q) (λb o _ _ d q _=>⟨o.slots,keep b o (l b d).1 (l b d).2 q⟩) (λb o _ q n => ?_) (λb o d q=>⟨o,keep b o (l b d).1 (l b d).2 q⟩)
    (λb ys q => ?_) (λb o u q => ?_) (λb ps q=>⟨#[],?_⟩) (λm hm => ?_) (λb u q => ?_) I.bare
   ·rcases Y6.mp d with rfl|d
    ·exact⟨e3,e1,e4,e5⟩
    ·have:b=it:=by simpa using d
     subst this;exact⟨f3,Z,f4,f5⟩
   ·rw[aC (ZN (ZI q))];exact n
   ·rw[aC (bm q O)];exact q
   ·rw[aC (bm q O)];exact q
   ·rw[aC (bm q O),q];simp
   ·obtain⟨o,es,ep,ho,r⟩:=hm
    exact⟨o,es,ep,keep _ o (YT e1) (YT Z) ho,r⟩
   ·by_cases d:b=s.heap.objs.size
    ·subst d
     rw[bi]at q;cases q;exact⟨by show 2<=sizeLine;rw[wH];decide,[.int i tk,y],.cons ⟨tk,rfl⟩ (.cons ru .nil),_,L,rfl,_,rfl⟩
    ·rw[aC d]at q
     have V:∀c v,H c=some v->c≠e:=λc v z w=>by rw[w,e0]at z;cases z
     have Q:∀c v,H c=some v->c≠it:=λc v z w=>by rw[w,f0]at z;cases z
     refine(I.hok b u q).stay (λc v a2 z => ?_) (λc z=>by rw[aC (bm z O)];exact z) λc ys z=>by rw[aC (bm z O)];exact z
     rcases a2 with w|w
     ·subst w;exact keep c v (V c _ q) (Q c _ q) z
     ·exact keep c v (V c _ w) (Q c _ w) z
  ·have:b≠s.heap.objs.size:=by
    rcases Y6.mp d with rfl|d
    ·exact ZN R
    ·have:b=it:=by simpa using d
     subst this;exact ZN a0
   rw[aC this];exact(S b d).1
 done:=by
  intro X hP hw hK hc i pins s σ H E I S st hg;subst hP hw hK;obtain⟨⟨g,B⟩,C⟩:=st;obtain⟨xs,hq,hx⟩:=hg;obtain⟨f,rv,p,hz⟩:=I.tuple hq;have W:s.heap.IsTuple a f.toArray:=p;obtain⟨oi,D,J,a3⟩:=id C;obtain⟨oa,j,t,na,a7⟩:=id W;have M:a≠it:=λz=>by
   subst z;rw[D]at j;cases j;rw[J]at t;exact xo t (by decide)
  obtain⟨f0,Z,f2,f3,f4,f5⟩:=S it (by simp);have U:f.toArray.size=i:=by have:=rv.length;simp;omega
  refine wpAny_pyNext_enum_endD (pZ (prog:=X.prog) (w:=X.w) (A:=X.A.in1) (I.ok.hd hc) it a M f.toArray) B ⟨by rw[U];exact C,W⟩ λh' a1=>⟨rfl,I.turned (t':=s.toks) (λb o d e=>a1 b o d e) f0 Z f3 f4 f5⟩
 self:=λ_ _ _ _ _ st h=>by
  obtain⟨⟨g,B⟩,_⟩:=st;exact W9 B h
section
variable {X:Cx} {pos p tp:Pos} {elts:List Expr} {tk:Nat}
def iEn (K:ZX) (ta:TE):TI:=λσ H R=>ta σ H λx H1=>∃a xs,x=.ref a/\SqT K H1 a xs/\(xs.length<=sizeLine->R (Ite K a) H1)
theorem GA {a:Expr} {ta:TE} (D:Gl X "enumerate") (hm:X.mg "enumerate" = none) (A:PE X a ta) (n:starEach [a] X.env=[(false,eval a X.env)]:=by rfl):PI X (.Tuple elts tk tp) (.Call (.Name "enumerate" p) [a] [] pos) (iEn X.K ta):=by
 intro pins s σ H R I h;have i:=cP A em n;refine Call_ (jY I D hm PyProof.Rows.boot_enumerate (YS (thn (i pos pins s σ H (λr H1=>∃a xs,r=[.ref a]/\SqT X.K H1 a xs/\(xs.length<=sizeLine->R (Ite X.K a) H1)) I ?_) λF c ⟨r,H1,g,y,q1⟩ => ?_) n rfl))
 ·show ta σ H λx H1=>_
  have j:∀(x:V) (H1:Hp),(∃a xs,x=.ref a/\SqT X.K H1 a xs/\(xs.length<=sizeLine->R (Ite X.K a) H1))=(∃a xs,[x] = [.ref a]/\SqT X.K H1 a xs/\(xs.length<=sizeLine->R (Ite X.K a) H1)):=λx H1=>by simp
  have d:ta σ H λx H1=>∃a xs,x=.ref a/\SqT X.K H1 a xs/\(xs.length<=sizeLine->R (Ite X.K a) H1):=h;simp only[j]at d;exact d
 ·obtain⟨a,xs,e,v,q⟩:=q1
  subst e;obtain⟨u,rfl,w⟩:=aY.one y;cases (show u=Value.ref a from w);obtain⟨m,G,t,E⟩:=g.tuple v;refine lD (show c.heap.IsTuple a m.toArray from t) λd o k B C => ?_;refine W9 (s:={ c with heap:=d }) o ?_;have z:Inv X pins σ H1 { c with heap:=d }:=g.kept (t':=c.toks) C;refine⟨c.heap.objs.size + 1,[c.heap.objs.size + 1,c.heap.objs.size],_,_,H1,rfl,z,Cm (c.heap.objs.size + 1) c.heap.objs.size a,⟨⟨_,by simpa using o⟩,k⟩,λb l => ?_,q E⟩;have f:c.heap.objs.size<=b:=by
   rcases Y6.mp l with e|l
   ·rw[e];exact W5 _
   ·have:b=c.heap.objs.size:=by simpa using l
    rw[this];exact ZL _
  exact g.fpOk f (g.hok.fresh f)
theorem Cn {K:ZX}{ρ:List Addr}{H:Hp}{hd:Hd}{q:Addr}{l:List D}{vs:List V}(r:RH K ρ H hd)(e:H q=some (.tup vs))(b:RDs K ρ H l vs)(hz:vs.length<=sizeLine) :
  tF K ρ H (Ite K q) ((List.range l.length).zip l |>.map λp=>.tup [.int (p.1:Nat),p.2]) none where
 go:=λρ' H' hd' i d ex j _ hi=>by
  have k:=r.kp ex;obtain⟨a,c⟩:=List.getElem?_eq_some_iff.mp hi;have m:i < l.length:=by simpa using a
  have hd:d=.tup [.int (i:Nat),l[i]]:=by rw[<-c];simp
  subst hd;obtain⟨v,h,s⟩:=(b.mono k).get (i:=i) (d:=l[i]) (by simp[m]);have g:SqT K H' q vs:=SqT.of (k.tup q vs e);refine⟨⟨vs,v,g,h⟩,λx u y => ?_⟩;obtain⟨q2,t,rfl,n,rfl,y⟩:=y;have:=y vs g;rw[h]at this;cases this;have f:=cy (o:=HO.tup [.int (i:Nat),v]) n;refine⟨f,?_⟩;simp only[RD];exact⟨q2,_,rfl,bi,RDs.cons (by simp only[RD]) (RDs.cons (s.mono (Kp.same f)) RDs.nil)⟩
 stop:=λρ' H' hd' ex j _=>⟨vs,SqT.of ((r.kp ex).tup q vs e),by rw[<-b.length];simp⟩
 sz:=by
  have:=b.length;simp;omega
theorem GB {a:Expr} {f:EF} (s:Gl X "enumerate") (hm:X.mg "enumerate" = none) (n:ME X a f) (m:starEach [a] X.env=[(false,eval a X.env)]:=by rfl):MI X (.Tuple elts tk tp) (.Call (.Name "enumerate" p) [a] [] pos) (DW f):=by
 refine PI.imp (GA s hm n m) λσ H R ⟨ρ,σd,hd,o,b⟩=>⟨ρ,σd,hd,o,?_⟩;unfold DW at b;cases e:f σd hd with
 | exc x h1=>rw[e]at b;exact b
 | bad=>rw[e]at b;exact b
 | ok d hd1 =>
  rw[e]at b;simp only[aW]at b;intro v H1 h i c k;cases d<;>try exact b.elim
  rename_i l
  simp only[rD,RD]at k;obtain⟨q,r,rfl,j,g⟩:=k;exact⟨q,r,rfl,SqT.of j,λt=>b _ H1 h i c (Cn c.hp j g t)⟩
end
end Fm
namespace Fm
open PySem PySem.Spec L2 PySem.W PyProof.Rows
section
variable {prog:T6} {w:T7} {A:T5} {E:T0->T4->Prop} {s:T4}
theorem zx {a:Addr} {vs:List T0} {n:Nat} {P:PySem.Fin->T4->Prop} (f:s.heap.get? a=some (seqObj "list" vs.toArray n)) (h2:vs.length < 2)
  (h:P (.done (.ret .none)) { s with heap:=sortedHeap s.heap a vs vs.toArray }):wpAny (model prog w) A (Builtin.«list.sort» ⟨[.ref a],[]⟩) P E s:=by
 rw[list_sort_plain];have l:a < s.heap.objs.size:=ZI f;refine z0 (listItems_at f rfl ?_);refine z0 (WW f rfl ?_);obtain⟨j,c⟩ : ∃j,(s.heap.update a (Obj.mapSeq λ_ => #[])).get? a=some (seqObj "list" #[] j):=⟨_,get?_update_seq f (λ_ => #[])⟩;refine z0 (seqEpoch_at c rfl ?_);refine z0 (wpAny_newTuple ?_);refine z0 (WX ?_);refine YC ?_;have d:(((s.heap.update a (Obj.mapSeq λ_ => #[])).push (seqObj "tuple" vs.toArray 0)).push (seqObj "list" #[] 0)).get? a=some (seqObj "list" #[] j):=by
  rw[Heap.get?_push_ne _ _ _ (by rw[X6,Z3];exact ZN (yS l)),Heap.get?_push_ne _ _ _ (by rw[Z3];exact ZN l)];exact c
 show wpAny (model prog w) A _ P E { s with heap:=((s.heap.update a (Obj.mapSeq λ_ => #[])).push (seqObj "tuple" vs.toArray 0)).push (seqObj "list" #[] 0) };dsimp only;have g:vs.toArray.size=vs.length:=by simp
 have b:vs.toArray.size < 2:=by rw[g];exact h2
 rw[z4 b,z4 b];refine z0 (z3 ?_);rw[StateT.run_pure];refine z0 (z3 ?_);dsimp only;refine z0 (seqEpoch_at d rfl ?_);refine z0 (WW d rfl ?_ (hsz2:=by rw[Array.size_map];show (pairsOf vs).size<=_;rw[pairsOf_size,wH];omega));simp only[bne_self_eq_false,wJ,YQ];have e:(arrOf (SortSt.mk' general' (vs.toArray.zip vs.toArray) #[] 7 none)).map (·.2)=vs.toArray:=by
  show (vs.toArray.zip vs.toArray).map (·.2)=vs.toArray;apply Array.ext
  ·simp
  ·intro i h1 h2
   simp
 refine z3 ?_;have k:=h;unfold sortedHeap at k;rw[e];exact k
theorem Jn {Q:Bool->T4->Prop}:∀(ns a:List Int) {xs ys:List T0} (i:Nat),IntsAre xs ns->IntsAre ys a->Q (Fm.cX ns a) s->KatLex prog w A true (decide (xs.length < ys.length)) Q (xs.zip ys) i s:=by
 intro ns
 induction ns with
 | nil =>
  intro a xs ys i d c h;cases d;cases a with
  | nil=>cases c;exact h
  | cons m a =>
   cases c;have b:Q true s:=h;exact b
 | cons n ns ih =>
  intro a xs ys i d c h;cases d with
  | cons _ t r =>
   cases a with
   | nil =>
    cases c;have b:Q false s:=h;exact b
   | cons m a =>
    cases c with
    | cons _ t' r' =>
     rename_i xs ys
     refine kat_cons (SeqAt.EqAt.int_int n t m t' prog w _ _ ?_)
     by_cases e:n=m
     ·subst e
      rw[show (n == n)=true by simp];refine kat_yes ?_;have b:Q (Fm.cX ns a) s:=by simpa[Fm.cX] using h
      have:=ih a (i + 1) r r' b;have f:decide ((Value.int n t :: xs).length < (Value.int n t' :: ys).length)=decide (xs.length < ys.length):=by simp
      rw[f];exact this
     ·rw[show (n == m)=false by simpa using e]
      refine kat_no ?_;have b:Q (decide (n < m)) s:=by simpa[Fm.cX,e] using h
      cases i with
      | zero=>exact oneLt_int b
      | succ i =>
       have:(true && (i + 1 == 0))=false:=by simp
       rw[this];exact kat_one _ _ (lt_int (by first|exact⟨_,rfl,b⟩|exact b))
end
theorem Eb {h:Heap}{a:Addr}{m c:Str->Option T0}(x:h.Ns a m)(y:h.Ns a c):m=c:=by
 obtain⟨o,es,ep,f,hd,_,r⟩:=x;obtain⟨o',g,e,b,hd',_,d⟩:=y;rw[f]at b;cases b;rw[hd]at hd';cases hd';funext z;rw[<-r z,<-d z]
inductive dA (H:Hp):List V->List (List Int)->Prop
 | nil:dA H [] []
 | cons {a:Addr} {r:List Int} {vs:List V} {rs:List (List Int)}:H a=some (.tup (r.map V.int))->dA H vs rs->dA H (.ref a :: vs) (r :: rs)
theorem dA.get {H:Hp}:∀{b:List V} {c:List (List Int)} {i:Nat} {v:V},dA H b c->b[i]? = some v->∃a,v=.ref a/\H a=some (.tup ((c.getD i []).map V.int))
 | _,_,_,_,.nil,e=>by simp at e
 | _,_,0,_,.cons h t,e=>by simp at e;subst e;exact⟨_,rfl,h⟩
 | _,_,i + 1,v,.cons h t,e=>by
  obtain⟨a,h1,h2⟩:=dA.get (i:=i) (v:=v) t (by simpa using e);exact⟨a,h1,by simpa using h2⟩
theorem dA.length {H:Hp}:∀{a:List V} {b:List (List Int)},dA H a b->a.length=b.length
 | _,_,.nil=>rfl
 | _,_,.cons _ t=>by simp[dA.length t]
section
variable {X:Cx} {pos p:Pos}
theorem Bg {i:Int}{u:T0}(r:bJ (.int i) u):∃t,u=.int i t:=r
end
end Fm
namespace Fm
open PySem PySem.Spec L2
section
variable {X:Cx}
theorem mv (i:Nat) {x:Str} {pos:Pos} (b:X.N[i]? = some x:=by rfl) (c:Vis X.env.scope x:=by first|exact Or.inl rfl|exact Or.inr (Or.inl rfl)|exact Or.inr (Or.inr rfl)) (hd:(x == ("__debug__" : Str))=false:=by decide)
  (a:(x == ("__classdict__" : Str))=false:=by decide):ME X (.Name x pos) (aa i):=Jc b c hd a
end
theorem c5 {k:Nat}{A:T5}(r:iW k A):A.units + 24 < cLine:=by have:=r.un;omega
def fY (X:Cx):List (Str × NameKind)->Prop
 | []=>True
 | y :: r=>(y.2=.free->X.env.kindOf y.1=some .cell\/X.env.kindOf y.1=some .free)/\fY X r
def bp (X:Cx) (scope:Scope):List Str->List Nat->Prop
 | [],[]=>True
 | x :: xs,i :: is=>(X.N[i]? = some x/\scope.names.lookup x=some .free)/\bp X scope xs is
 | _,_=>False
theorem fY.get {X:Cx}:∀{l:List (Str × NameKind)},fY X l->∀y∈l,y.2=.free->X.env.kindOf y.1=some .cell\/X.env.kindOf y.1=some .free
 | [],_,y,hy=>by simp at hy
 | z :: r,h,y,hy=>by
  rcases Y6.mp hy with rfl|hy
  ·exact h.1
  ·exact fY.get h.2 y hy
theorem bp.get {X:Cx}{scope:Scope}:∀{capn:List Str} {caps:List Nat},bp X scope capn caps->(∀(j:Nat) x,capn[j]? = some x->∃i,caps[j]? = some i/\X.N[i]? = some x/\scope.names.lookup x=some .free)/\capn.length=caps.length
 | [],[],_=>⟨λj x e=>by simp at e,rfl⟩
 | x :: xs,i :: is,h=>by
  obtain⟨h1,h2⟩:=bp.get h.2;refine⟨λj y e => ?_,by simp[h2]⟩;cases j with
  | zero=>simp at e;subst e;exact⟨i,rfl,h.1⟩
  | succ j=>exact h1 j y (by simpa using e)
 | [],_ :: _,h=>h.elim
 | _ :: _,[],h=>h.elim
theorem fY.nil {X:Cx}:fY X []:=trivial
theorem fY.cons {X:Cx}{y:Str × NameKind}{r:List (Str × NameKind)}(h:y.2=.free->X.env.kindOf y.1=some .cell\/X.env.kindOf y.1=some .free)(t:fY X r):fY X (y :: r):=⟨h,t⟩
theorem bp.nil {X:Cx}{scope:Scope}:bp X scope [] []:=trivial
theorem bp.cons {X:Cx}{scope:Scope}{x:Str}{xs:List Str}{i:Nat}{a:List Nat}(h1:X.N[i]? = some x)(h2:scope.names.lookup x=some .free)(t:bp X scope xs a):bp X scope (x :: xs) (i :: a):=⟨⟨h1,h2⟩,t⟩
theorem bH.mk' {X:Cx}{scope:Scope}{own capn:List Str}{caps:List Nat}(k:scope.kind=.function)(c:∀y∈scope.names,y.2 ≠ .cell)(n:∀y∈scope.names,y.2=.local->scope.names.lookup y.1=some .local)(f:fY X scope.names)(cp:bp X scope capn caps):bH X scope own capn caps :=
 ⟨k,c,n,f.get,cp.get.1,cp.get.2⟩
section
variable {K:ZX} {ρ:List Addr} {H:Hp}
theorem xp {d:D}{v:V}(h:RD K ρ H d v)(f:eI d=true):mH v=true:=by
 cases d<;>simp only[RD]at h<;>first|(subst h;rfl)|(simp[eI]at f)
theorem eqS {x y:List Nat}:(x == y)=(toS x == toS y):=by
 by_cases z:x=y
 ·subst z;rw[beq_self_eq_true,beq_self_eq_true]
 ·have : ¬toS x=toS y:=λq=>z (by have:=congrArg (λ(s:Str)=>s.cps.toList) q;simpa[toS] using this)
  rw[beq_eq_false_iff_ne.mpr z,beq_eq_false_iff_ne.mpr this]
theorem GC {d k:D}{v w:V}(h:RD K ρ H d v)(g:RD K ρ H k w)(f:eI d=true)(b:eI k=true):eqF d k=eqV v w:=by
 cases d with
 | non=>simp only[RD]at h;subst h;cases k<;>simp only[RD]at g<;>first|(subst g;rfl)|(simp[eI]at b)
 | bl a=>simp only[RD]at h;subst h;cases k<;>simp only[RD]at g<;>first|(subst g;rfl)|(simp[eI]at b)
 | int a=>simp only[RD]at h;subst h;cases k<;>simp only[RD]at g<;>first|(subst g;rfl)|(simp[eI]at b)
 | str a=>simp only[RD]at h;subst h;cases k<;>simp only[RD]at g<;>first|(subst g;rfl)|(subst g;exact eqS)|(simp[eI]at b)
 | tup l=>simp[eI]at f
 | ref n=>simp[eI]at f
 | lit l=>simp[eI]at f
 | exn c l=>simp[eI]at f
theorem ut:∀{l:List D} {a:List V},RDs K ρ H l a->l.all eI=true->a.all mH=true
 | [],_,h,_=>by simp only[RDs]at h;subst h;rfl
 | d :: l,_,h,f=>by
  simp only[RDs]at h;obtain⟨v,r,rfl,h1,h2⟩:=h;simp only[X4,x8]at f ⊢;exact⟨xp h1 f.1,ut h2 f.2⟩
theorem Bh {k:D}{w:V}(g:RD K ρ H k w)(b:eI k=true):∀{l:List D} {a:List V},RDs K ρ H l a->l.all eI=true->(l.any λz=>eqF z k)=a.any λz=>eqV z w
 | [],_,h,_=>by simp only[RDs]at h;subst h;rfl
 | d :: l,_,h,f=>by
  simp only[RDs]at h;obtain⟨v,r,rfl,h1,h2⟩:=h;simp only[X4,x8]at f;rw[X5,X5,GC h1 g f.1 b,Bh g b h2 f.2]
end
section
variable {X:Cx} {pos:Pos}
theorem Bi {K:ZX}{f:Bool}{ρ:List Addr}{H:Hp}{σd:Sd}{hd:Hd}{σ:St}{d k:D}{v w:V}{Q:VK}{b:Bool}(rs:RS K ρ H σd hd σ)(h:RD K ρ H d v)(g:RD K ρ H k w)(e:inL hd d k=some b)
  (q:Q (.bl (if f then !b else b)) H):rIn K f v w H Q:=by
 simp only[inL]at e;cases c:iZ hd k with
 | none=>rw[c]at e;cases e
 | some l =>
  rw[c]at e;simp only at e;split at e
  ·rename_i hf
   cases e;rw[x8]at hf;obtain⟨p,j,rfl,i,a⟩:=vy rs.hp g c;refine⟨p,j,rfl,i.imp id SqT.of,xp h hf.1,ut a hf.2,?_⟩;unfold inV;rw[<-Bh h hf.1 a hf.2];exact q
  ·cases e
theorem uv {K:ZX}:Og K oIn (rIn K false):=by
 intro ρ H σd hd σ d k v w Q c f a p;unfold oIn at p;cases e:inL hd d k with
 | none=>rw[e]at p;exact p.elim
 | some b=>rw[e]at p;exact Bi c f a e (p.here c (by simp only[rD,RD];rfl))
theorem iG {K:ZX}:Og K bY (rIn K true):=by
 intro ρ H σd hd σ d k v w Q c f a p;unfold bY at p;cases e:inL hd d k with
 | none=>rw[e]at p;exact p.elim
 | some b=>rw[e]at p;exact Bi c f a e (p.here c (by simp only[rD,RD];rfl))
theorem eP {i:Int}{j:Nat}{p2:Pos}:ME X (.UnaryOp .USub (.Constant (.int i) j p2) pos) (fC (.int (-i))) :=
 PE.imp (KD IM DB) λσ H Q ⟨ρ,σd,hd,a,p⟩=>⟨i,rfl,p.here a (by simp only[rD,RD])⟩
end
end Fm
namespace Fm
open PySem PySem.Spec L2 PySem.W PyProof.Rows
theorem Jo {l r:Nat}(h:l < r):l<=(l + r) / 2/\(l + r) / 2 < r:=by omega
variable {p:Array Nat}
section
variable {cmp:Nat->Nat->(Bool->T4->Prop)->T4->Prop} {n:Nat} {s:T4} {lt:Nat->Nat->Bool}
structure Ord (lt:Nat->Nat->Bool) (n:Nat):Prop where
 asy:∀i j,i < n->j < n->lt i j=true->lt j i=false
 tr:∀i j k,i < n->j < n->k < n->lt i j=true->lt j k=true->lt i k=true
 tot:∀i j,i < n->j < n->i≠j->lt i j=false->lt j i=true
structure Gd (n:Nat) (p:Array Nat):Prop where
 sz:p.size=n
 pm:p.Perm (List.toArray (List.range n))
theorem Gd.below (g:Gd n p){i:Nat}(hi:i < n):p.getD i 0 < n:=by
 have h1:i < p.size:=by rw[g.sz];exact hi
 have e:p.getD i 0=p[i]:=by simp[Array.getD,h1]
 rw[e];have m:p[i]∈p.toList:=by simp
 have:=(Array.perm_iff_toList_perm.mp g.pm).mem_iff.mp m;simpa using this
theorem Gd.ne (g:Gd n p){i j:Nat}(hi:i < n)(a:j < n)(h:i≠j):p.getD i 0≠p.getD j 0:=by
 have h1:i < p.size:=by rw[g.sz];exact hi
 have h2:j < p.size:=by rw[g.sz];exact a
 have e:p.getD i 0=p[i]:=by simp[Array.getD,h1]
 have b:p.getD j 0=p[j]:=by simp[Array.getD,h2]
 rw[e,b];have c:p.toList.Nodup:=(Array.perm_iff_toList_perm.mp g.pm).nodup_iff.mpr (by simpa using List.nodup_range);intro z;have:=(List.getElem_inj (xs:=p.toList) c (i:=i) (j:=j) (h₀ := by simpa using h1) (h₁ := by simpa using h2)).mp (by simpa using z);exact h this
def Srt (lt:Nat->Nat->Bool) (p:Array Nat) (m:Nat):Prop:=∀i j,i < j->j < m->lt (p.getD i 0) (p.getD j 0)=true
def Dsc (lt:Nat->Nat->Bool) (p:Array Nat) (m:Nat):Prop:=∀i j,i < j->j < m->lt (p.getD j 0) (p.getD i 0)=true
theorem iH:Gd n (List.toArray (List.range n)):=⟨by simp,Array.Perm.refl _⟩
theorem Srt.next {m:Nat}(O:Ord lt n)(g:Gd n p)(h:Srt lt p m)(h1:1<=m)(hm:m < n)(c:lt (p.getD (m - 1) 0) (p.getD m 0)=true):Srt lt p (m + 1):=by
 intro i j a b
 by_cases e:j < m
 ·exact h i j a e
 ·have:j=m:=by omega
  subst this
  by_cases e2:i=j - 1
  ·subst e2;exact c
  ·exact O.tr _ _ _ (g.below (by omega)) (g.below (by omega)) (g.below hm) (h i (j - 1) (by omega) (by omega)) c
theorem Dsc.next {m:Nat}(O:Ord lt n)(g:Gd n p)(h:Dsc lt p m)(h1:1<=m)(hm:m < n)(c:lt (p.getD m 0) (p.getD (m - 1) 0)=true):Dsc lt p (m + 1):=by
 intro i j a b
 by_cases e:j < m
 ·exact h i j a e
 ·have:j=m:=by omega
  subst this
  by_cases e2:i=j - 1
  ·subst e2;exact c
  ·exact O.tr _ _ _ (g.below hm) (g.below (by omega)) (g.below (by omega)) c (h i (j - 1) (by omega) (by omega))
variable (O:Ord lt n) (hc:∀i j,i < n->j < n->∀C:Bool->T4->Prop,C (lt i j) s->cmp i j C s)
include O hc
theorem mR {p:Array Nat}(g:Gd n p){Q:Nat->T4->Prop}(q:∀m,1<=m->m<=n->Srt lt p m->(m < n->lt (p.getD m 0) (p.getD (m - 1) 0)=true)->Q m s) :
  ∀(f m:Nat),1<=m->m + f=n->Srt lt p m->(kas_asc p f m).kasWp cmp Q s
 | 0,m,h1,e,h=>q m h1 (by omega) h λz=>by omega
 | f + 1,m,h1,e,h=>by
  refine hc _ _ (g.below (by omega)) (g.below (by omega)) _ ?_;cases c:lt (p.getD m 0) (p.getD (m - 1) 0) with
  | true=>((try dsimp only);(try rw[z4 rfl]));exact q m h1 (by omega) h λ_=>c
  | false =>
   ((try dsimp only);(try rw[z5 wI]))
   have a:=O.tot _ _ (g.below (by omega)) (g.below (by omega)) (g.ne (i:=m) (j:=m - 1) (by omega) (by omega) (by omega)) c;exact mR g q f (m + 1) (by omega) (by omega) (h.next O g h1 (by omega) a)
theorem p0 {p:Array Nat}(g:Gd n p){Q:Array Nat × Nat × Nat->T4->Prop}(q:∀m,1<=m->m<=n->Dsc lt p m->Q (p,m,0) s) :
  ∀(f m:Nat),1<=m->m + f=n->Dsc lt p m->(kas_desc f p m 0).kasWp cmp Q s
 | 0,m,h1,e,h=>q m h1 (by omega) h
 | f + 1,m,h1,e,h=>by
  refine hc _ _ (g.below (by omega)) (g.below (by omega)) _ ?_;cases c:lt (p.getD m 0) (p.getD (m - 1) 0) with
  | true =>
   ((try dsimp only);(try rw[z4 rfl]));(try rw[z5 (by omega)])
   exact p0 g q f (m + 1) (by omega) (by omega) (h.next O g h1 (by omega) c)
  | false =>
   ((try dsimp only);(try rw[z5 wI]))
   have a:=O.tot _ _ (g.below (by omega)) (g.below (by omega)) (g.ne (i:=m) (j:=m - 1) (by omega) (by omega) (by omega)) c;refine hc _ _ (g.below (by omega)) (g.below (by omega)) _ ?_;rw[a];((try dsimp only);(try rw[z4 rfl]));exact q m h1 (by omega) h
omit hc in
theorem Jp (g:Gd n p){m:Nat}(hm:m<=n)(h:Dsc lt p m):Gd n (kas_rev p 0 m)/\Srt lt (kas_rev p 0 m) m:=by
 have a:∀k,k < m->(kas_rev p 0 m).getD k 0=p.getD (m - 1 - k) 0:=λk c=>by
  have e:=getElem?_mirror_all (xs:=p) (i:=0) (j:=m) (by rw[g.sz];exact hm) k;rw[z4 ⟨Z8 _,c⟩]at e;unfold kas_rev;rw[WM,WM,e,wF]
 refine⟨⟨by unfold kas_rev;rw[mirror_size,g.sz],(mirror_perm _ _ _ _).trans g.pm⟩,λi j d b => ?_⟩;rw[a i (by omega),a j b];exact h _ _ (by omega) (by omega)
theorem vF (h2:2<=n){Q:Nat × Array Nat->T4->Prop}(q:∀m p,Gd n p->1<=m->m<=n->Srt lt p m->Q (m,p) s):(kas_count n (List.toArray (List.range n))).kasWp cmp Q s:=by
 unfold kas_count;rw[WY];refine mR O hc iH (λm h1 f a hd => ?_) (n - 1) 1 (ZL _) (by omega) (λi j d b=>by omega)
 by_cases e:m=n
 ·subst e
  rw[z4 (by simp)];exact q m _ iH h1 (ZL _) a
 ·rw[z5 (by simpa using e)]
  by_cases e1:m > 1
  ·rw[z4 e1]
   refine hc _ _ (iH.below (by omega)) (iH.below (by omega)) _ ?_;have:=a 0 (m - 1) (by omega) (by omega);rw[this];((try dsimp only);(try rw[z4 rfl]));exact q m _ iH h1 f a
  ·rw[z5 e1]
   have:m=1:=by omega
   subst this;have c:=hd (by omega);unfold kas_descPart;rw[WY];refine p0 O hc iH (λm h1 f a => ?_) (n - 2) 2 (by omega) (by omega) (λi j d b => ?_)
   ·rw[z5 (by simp)]
    unfold kas_tail3;rw[WY];obtain⟨l,r⟩:=Jp O iH f a;exact mR O hc l (λo g h k _=>q o _ l g h k) (n - m) m h1 (by omega) r
   ·have hi:i=0:=by omega
    have b:j=1:=by omega
    subst hi b;exact c
theorem kc {p:Array Nat}(g:Gd n p){k:Nat}(h:k < n)(o:Srt lt p k){Q:Nat->T4->Prop}(q:∀l,l<=k->(∀i,i < l->lt (p.getD i 0) (p.getD k 0)=true)->(∀i,l<=i->i < k->lt (p.getD k 0) (p.getD i 0)=true)->Q l s) :
  ∀(f l r:Nat),r - l<=f->l<=r->r<=k->(∀i,i < l->lt (p.getD i 0) (p.getD k 0)=true)->(∀i,r<=i->i < k->lt (p.getD k 0) (p.getD i 0)=true)->(kas_place p k f l r).kasWp cmp Q s
 | 0,l,r,hf,hl,hr,a,b=>q l (ZM hl hr) a λi h1 h2=>b i (ZM (Nat.le_of_sub_eq_zero (Nat.le_zero.mp hf)) h1) h2
 | f + 1,l,r,hf,hl,hr,a,b=>by
  unfold kas_place
  by_cases e:l ≥ r
  ·rw[z4 e]
   exact q l (ZM hl hr) a λi h1 h2=>b i (ZM e h1) h2
  ·rw[z5 e]
   have u:l < r:=Nat.not_le.mp e;have m:=Jo u;generalize (l + r) / 2=M at m;have t:M < k:=xC m.2 hr;have d:M < n:=x3 t h;refine hc _ _ (g.below h) (g.below d) _ ?_;cases c:lt (p.getD k 0) (p.getD M 0) with
   | true =>
    ((try dsimp only);(try rw[z4 rfl]))
    refine kc g h o q f l M (YX (xC (Nat.sub_lt_sub_right m.1 m.2) hf)) m.1 (YI t) a λi h1 h2 => ?_
    by_cases z:i=M
    ·subst z;exact c
    ·exact O.tr _ _ _ (g.below h) (g.below d) (g.below (x3 h2 h)) c (o _ i (XR h1 (YT z)) h2)
   | false =>
    ((try dsimp only);(try rw[z5 wI]))
    have v:=O.tot _ _ (g.below h) (g.below d) (g.ne (i:=k) (j:=M) h d (x6 t)) c;refine kc g h o q f (M + 1) r (YX (xC (Nat.sub_lt_sub_left u (Nat.lt_succ_of_le m.1)) hf)) m.2 hr (λi h1 => ?_) b
    by_cases z:i=M
    ·subst z;exact v
    ·have hi:i < M:=XR (YX h1) z
     exact O.tr _ _ _ (g.below (x3 hi d)) (g.below d) (g.below h) (o i _ hi t) v
theorem rc {Q:Array Nat->T4->Prop}(q:∀p,Gd n p->Srt lt p n->Q p s):∀(f:Nat) (p:Array Nat) (k:Nat),Gd n p->k + f=n->Srt lt p k->(kas_bin f p k).kasWp cmp Q s
 | 0,p,k,g,e,h=>by
  have:k=n:=e;subst this;exact q p g h
 | f + 1,p,k,g,e,h=>by
  unfold kas_bin;rw[WY];have w:k < n:=e ▸ Nat.lt_add_of_pos_right (Nat.succ_pos f);refine kc O hc g w h (λl v a b => ?_) k 0 k (ZL _) (Z8 _) (ZL _) (λi z=>absurd z (YB _)) (λi z A=>absurd A (Nat.not_lt.mpr z));have t:k < p.size:=by rw[g.sz];exact w
  have o:∀i,(bubble p k (k - l)).getD i 0=if i=l then p.getD k 0 else if l < i/\i<=k then p.getD (i - 1) 0 else p.getD i 0:=λi=>by
   have:=getElem?_bubble t (k - l) (Nat.sub_le _ _) i;rw[Nat.sub_sub_self v]at this;simp only[WM];rw[this]
   by_cases c1:i=l
   ·rw[z4 c1,z4 c1]
   ·rw[z5 c1,z5 c1]
    by_cases c2:l < i/\i<=k
    ·rw[z4 c2,z4 c2]
    ·rw[z5 c2,z5 c2]
  refine rc q f _ (k + 1) ⟨by rw[bubble_size,g.sz],(bubble_perm _ _ _).trans g.pm⟩ (by rw[WD];exact e) λi j c x => ?_;have m:j<=k:=YX x;have r:j - 1 < k:=Nat.sub_one_lt_of_le (Nat.zero_lt_of_lt c) m;rw[o i,o j]
  by_cases c1:i=l
  ·have d:l < j:=c1 ▸ c
   rw[z4 c1,z5 (x6 d),z4 ⟨d,m⟩];exact b _ (Nat.le_sub_one_of_lt d) r
  ·rw[z5 c1]
   by_cases c2:l < i/\i<=k
   ·have d:l < j:=x3 c2.1 c
    rw[z4 c2,z5 (x6 d),z4 ⟨d,m⟩];exact h _ _ (Nat.sub_lt_sub_right (Nat.zero_lt_of_lt c2.1) c) r
   ·rw[z5 c2]
    have u:i < l:=XR (Nat.not_lt.mp λz=>c2 ⟨z,ZM (YI c) m⟩) c1
    by_cases c3:j=l
    ·rw[z4 c3];exact a _ u
    ·rw[z5 c3]
     by_cases c4:l < j/\j<=k
     ·rw[z4 c4]
      exact h _ _ (xC u (Nat.le_sub_one_of_lt c4.1)) r
     ·rw[z5 c4]
      have y:j < l:=XR (Nat.not_lt.mp λz=>c4 ⟨z,m⟩) c3;exact h _ _ c (xC y v)
theorem xq (h2:2<=n){Q:Array Nat->T4->Prop}(q:∀p,Gd n p->Srt lt p n->Q p s):(kas_sort n).kasWp cmp Q s:=by
 unfold kas_sort;rw[WY];refine vF O hc h2 λm p g h1 b a => ?_
 by_cases e:m < n
 ·rw[z4 e]
  have:max m 1=m:=by omega
  show KasT.kasWp cmp (kas_bin (n - max m 1) p (max m 1)) Q s;rw[this];exact rc O hc q (n - m) p m g (by omega) a
 ·rw[z5 e]
  have:m=n:=by omega
  subst this;exact q p g a
end
end Fm
namespace Fm
def vG (x:List Int):List (List Int)->List (List Int)
 | []=>[x]
 | y :: r=>if cX x y=true then x :: y :: r else y :: vG x r
def dD:List (List Int)->List (List Int)
 | []=>[]
 | x :: r=>vG x (dD r)
def vH (r:List Int):D:=.tup (r.map .int)
theorem nO:∀a,cX a a=false
 | []=>rfl
 | x :: a=>by simp[cX,nO a]
theorem i5:∀{a b c},cX a b=true->cX b c=true->cX a c=true
 | [],[],_,h,_=>by simp[cX]at h
 | [],_ :: _,[],_,h=>by simp[cX]at h
 | [],_ :: _,_ :: _,_,_=>rfl
 | _ :: _,[],_,h,_=>by simp[cX]at h
 | _ :: _,_ :: _,[],_,h=>by simp[cX]at h
 | x :: a,y :: b,z :: c,h,h'=>by
  simp only[cX]at h h' ⊢
  by_cases e:x=y
  ·subst e
   rw[z4 rfl]at h
   by_cases e2:x=z
   ·subst e2
    rw[z4 rfl]at h' ⊢;exact i5 h h'
   ·rw[z5 e2]at h' ⊢;exact h'
  ·rw[z5 e]at h
   by_cases e2:y=z
   ·subst e2
    rw[z5 e];exact h
   ·rw[z5 e2]at h'
    simp at h h';rw[z5 (by omega)];simp;omega
theorem oR:∀{a b},a≠b->cX a b=false->cX b a=true
 | [],[],h,_=>absurd rfl h
 | [],_ :: _,_,h=>by simp[cX]at h
 | _ :: _,[],_,_=>rfl
 | x :: a,y :: b,h,h'=>by
  simp only[cX]at h' ⊢
  by_cases e:x=y
  ·subst e
   rw[z4 rfl]at h' ⊢;exact oR (λz=>h (by rw[z])) h'
  ·rw[z5 e]at h'
   rw[z5 (YT e)];simp at h' ⊢;omega
theorem p7 {a b:List Int}(h:cX a b=true):cX b a=false:=by
 cases c:cX b a with
 | false=>rfl
 | true=>have:=i5 h c;rw[nO]at this;cases this
theorem oS (x:List Int):∀r,(vG x r).Perm (x :: r)
 | []=>.refl _
 | y :: r=>by
  simp only[vG];split
  ·exact .refl _
  ·exact((oS x r).cons y).trans (.swap x y r)
theorem jm:∀r,(dD r).Perm r
 | []=>.refl _
 | x :: r=>(oS x _).trans ((jm r).cons x)
theorem rg {x:List Int}:∀{r:List (List Int)},x∉r->r.Pairwise (λa b=>cX a b=true)->(vG x r).Pairwise (λa b=>cX a b=true)
 | [],_,_=>by simp[vG]
 | y :: r,hx,h=>by
  simp only[vG];have e : ¬x=y:=λz=>hx (by simp[z]);have g:x∉r:=λz=>hx (by simp[z]);obtain⟨h1,h2⟩:=List.pairwise_cons.mp h;split
  ·rename_i c
   refine List.pairwise_cons.mpr ⟨λb d => ?_,h⟩;rcases Y6.mp d with rfl|d
   ·exact c
   ·exact i5 c (h1 b d)
  ·rename_i c
   have f:=oR e (by simpa using c);refine List.pairwise_cons.mpr ⟨λb d => ?_,rg g h2⟩;rcases Y6.mp ((oS x r).mem_iff.mp d) with rfl|d
   ·exact f
   ·exact h1 b d
theorem lE:∀{r:List (List Int)},r.Nodup->(dD r).Pairwise (λa b=>cX a b=true)
 | [],_=>.nil
 | x :: r,h=>by
  obtain⟨h1,h2⟩:=List.nodup_cons.mp h;exact rg (λz=>h1 ((jm r).mem_iff.mp z)) (lE h2)
theorem Co {a b:List (List Int)}(p:a.Perm b)(e:a.Pairwise (λa b=>cX a b=true))(c:b.Pairwise (λa b=>cX a b=true)):a=b :=
 List.Perm.eq_of_pairwise (λx y _ _ h d=>by have:=p7 h;rw[d]at this;cases this) e c p
end Fm
namespace Fm
open PySem PySem.Spec L2 PySem.W PyProof.Rows
section
variable {X:Cx} {pos p:Pos}
theorem dA.rds {K:ZX}{ρ:List Addr}{H:Hp}:∀{b:List V} {c:List (List Int)},dA H b c->RDs K ρ H (c.map vH) b
 | _,_,.nil=>RDs.nil
 | _,_,.cons (a:=a) (r:=r) h t=>by
  refine RDs.cons ?_ (dA.rds t);unfold vH;simp only[RD];refine⟨a,_,rfl,h,?_⟩;clear h
  induction r with
  | nil=>exact RDs.nil
  | cons x r ih=>exact RDs.cons (by simp only[RD]) ih
theorem dA.pick {H:Hp}{vs:List V}{rs:List (List Int)}(h:dA H vs rs):∀(l:List Nat),(∀i∈l,i < vs.length)->dA H (l.map λi=>vs.getD i .non) (l.map λi=>rs.getD i [])
 | [],_=>.nil
 | i :: l,hl=>by
  have hi:i < vs.length:=hl i (by simp);obtain⟨a,e,c⟩:=h.get (i:=i) (v:=vs[i]) (by simp[hi]);have t:=dA.pick h l λj b=>hl j (by simp[b]);have:vs.getD i .non=.ref a:=by simp[List.getD,hi,e]
  simp only[yP,this];exact .cons c t
theorem aY.pick {vs:List V}{a:List T0}(h:aY vs a):∀(l:List Nat),(∀i∈l,i < vs.length)->aY (l.map λi=>vs.getD i .non) (l.map λi=>a.getD i Value.none)
 | [],_=>.nil
 | i :: l,hl=>by
  have hi:i < vs.length:=hl i (by simp);obtain⟨u,e,c⟩:=h.get (i:=i) (x:=vs[i]) (by simp[hi]);have t:=aY.pick h l λj b=>hl j (by simp[b]);simp only[yP];refine .cons ?_ t;simp[List.getD,hi,e];exact c
end
section
variable {X:Cx} {pos p:Pos}
theorem RDs.rep {K:ZX}{ρ:List Addr}{H:Hp}{l:List D}{vs:List V}(r:RDs K ρ H l vs):∀k,RDs K ρ H (List.replicate k l).flatten (List.replicate k vs).flatten
 | 0=>RDs.nil
 | k + 1=>by
  rw[YE,YE,Y9,Y9];exact RDs.append r (RDs.rep r k)
end
end Fm
namespace Fm
@[simp] def Bj:EF:=λ_ h=>.ok (.ref h.length) (h++[.dct []])
def rj (l:List (Int × D)) (k:Int):Option D:=(l.find? λp=>decide (p.1=k)).map (·.2)
def zy (l:List (Int × D)) (k:Int) (v:D):List (Int × D):=if (l.any λp=>decide (p.1=k))=true then l.map (λp=>if p.1=k then (p.1,v) else p) else l++[(k,v)]
@[simp] def Ec:O2:=λx y h=>match x,y with
 | .int k,.ref n=>match h[n]? with|some (.dct l)=>.ok (.bl (rj l k).isSome) h|_=>.bad
 | _,_=>.bad
@[simp] def xr (x i e:EF):SF:=λσ h=>outE (e σ h) σ λd h=>outE (x σ h) σ λp h=>outE (i σ h) σ λj h=>match p,j with
 | .ref n,.int k=>match h[n]? with
  | some (.dct l)=>if l.length < SZ then .nx σ (h.set n (.dct (zy l k d))) else .bad
  | _=>.bad
 | _,_=>.bad
def fv:List (Int × D)->Option (List (List Int))
 | []=>some []
 | (k,.int v) :: r=>(fv r).map λl=>[k,v] :: l
 | _=>none
@[simp] def oT (a:EF):LF:=λσ h=>(a σ h).bind λx h=>match x with
 | .ref n=>match h[n]? with
  | some (.dct l)=>match fv l with
   | some r=>if r.length < 64/\r.Nodup then .ok ((dD r).map vH) h else .bad
   | none=>.bad
  | _=>.bad
 | _=>.bad
end Fm
namespace L2
open PySem PySem.Spec PyProof.Rows
section
variable {κ : Type} [DecidableEq κ]
def gL (kvs:List (κ × V)) (k : κ):Option V:=(kvs.find? λkv=>decide (kv.1=k)).map (·.2)
def jJ (kvs:List (κ × V)) (k : κ) (v:V):List (κ × V) :=
 if (kvs.any λkv=>decide (kv.1=k))=true then kvs.map (λkv=>if kv.1=k then (kv.1,v) else kv) else kvs++[(k,v)]
theorem rk {p : κ × V}{r:List (κ × V)}{k : κ}(e:p.1=k):gL (p :: r) k=some p.2:=by simp[gL,List.find?_cons,e]
theorem lF {p : κ × V}{r:List (κ × V)}{k : κ}(e : ¬p.1=k):gL (p :: r) k=gL r k:=by simp[gL,List.find?_cons,e]
theorem xt (k : κ):∀a:List (κ × V),(a.any λb=>decide (b.1=k))=(gL a k).isSome
 | []=>rfl
 | p :: r=>by
  rw[X5]
  by_cases e:p.1=k
  ·simp only[rk e,yQ e,Bool.true_or,Option.isSome_some]
  ·rw[lF e,y3 e,Bool.false_or];exact xt k r
theorem p8 (kvs:List (κ × V))(k : κ)(v:V):(jJ kvs k v).length<=kvs.length + 1:=by
 unfold jJ;split
 ·rw[ZA];omega
 ·rw[ZB,YD,List.length_nil];omega
theorem tm.isSome_eq {o:Option V}{u:Option T0}(r:tm o u):o.isSome=u.isSome:=by
 cases o with
 | none=>cases u with
  | none=>rfl
  | some _=>exact(show False from r).elim
 | some _=>cases u with
  | none=>exact(show False from r).elim
  | some _=>rfl
theorem KV.val {kvs:List (κ × V)}{vs:List (κ × T0)}(r:KV kvs vs)(k : κ):tm (gL kvs k) (valueAt vs k):=by
 unfold KV at r
 induction r with
 | nil=>exact True.intro
 | @cons p q ps qs h t ih =>
  obtain⟨h1,h2⟩:=h
  by_cases e:p.1=k
  ·have a:q.1=k:=h1.symm.trans e
   have b:valueAt (q :: qs) k=some q.2:=by simp[valueAt,List.find?_cons,a]
   rw[rk e,b];exact h2
  ·have a : ¬q.1=k:=λz=>e (h1.trans z)
   have b:valueAt (q :: qs) k=valueAt qs k:=by simp[valueAt,List.find?_cons,a]
   rw[lF e,b];exact ih
theorem KV.any {kvs:List (κ × V)}{vs:List (κ × T0)}(r:KV kvs vs)(k : κ):(kvs.any λa=>decide (a.1=k))=vs.any λa=>decide (a.1=k):=by
 unfold KV at r
 induction r with
 | nil=>rfl
 | cons h t ih=>rw[X5,X5,ih,h.1]
theorem KV.repl {kvs:List (κ × V)}{vs:List (κ × T0)}(r:KV kvs vs)(k : κ){y:V}{u:T0}(b:bJ y u) :
  KV (kvs.map λa=>if a.1=k then (a.1,y) else a) (vs.map λa=>if a.1=k then (a.1,u) else a):=by
 unfold KV at r ⊢
 induction r with
 | nil=>exact .nil
 | @cons p q ps qs h t ih =>
  rw[yP,yP];refine .cons ?_ ih;obtain⟨h1,h2⟩:=h
  by_cases e:p.1=k
  ·rw[z4 e,z4 (h1.symm.trans e)];exact⟨h1,b⟩
  ·rw[z5 e,z5 (λz=>e (h1.trans z))];exact⟨h1,h2⟩
theorem KV.put {kvs:List (κ × V)}{vs:List (κ × T0)}(r:KV kvs vs)(k : κ){y:V}{u:T0}(a:bJ y u):KV (jJ kvs k y) (stored vs k u):=by
 unfold jJ stored;rw[r.any k]
 by_cases e:(vs.any λb=>decide (b.1=k))=true
 ·rw[z4 e,z4 e];exact r.repl k a
 ·rw[z5 e,z5 e];exact Paired.snoc r ⟨rfl,a⟩
theorem KV.length {kvs:List (κ × V)}{vs:List (κ × T0)}(r:KV kvs vs):kvs.length=vs.length:=Paired.length r
end
theorem xu {P:T6}{w:T7}{k:Key}{u:T0}(r:bJ (kV k) u):(dB P w).is k u=true:=by
 cases k with
 | inl i=>obtain⟨t,e⟩:=(show ∃t,u=Value.int i t from r);subst e;exact w4 P w i t
 | inr x=>obtain⟨t,e⟩:=(show ∃t,u=Value.str x t from r);subst e;exact w5 P w x t
theorem uw {P:T6}{w:T7}:∀{a:List Key} {b:List T0},aY (a.map kV) b->ItemsAre (dB P w) a b
 | [],_,r=>by rw[W8]at r;cases r;exact .nil
 | k :: a,_,r=>by
  rw[yP]at r;cases r with
  | cons h t=>exact .cons (xu h) (uw t)
abbrev KT (H:Hp):List (List Key × V)->List (List Key × Addr × T0)->Prop:=Paired λp q=>p.1=q.1/\H q.2.1=some (.tup (p.1.map kV))/\bJ p.2 q.2.2
variable {H:Hp}
theorem KT.val {kvs:List (List Key × V)}{xs:List (List Key × Addr × T0)}(r:KT H kvs xs)(k:List Key):tm (gL kvs k) ((atKey xs k).map (·.2)):=by
 induction r with
 | nil=>exact True.intro
 | @cons p q ps qs h t ih =>
  obtain⟨h1,_,h2⟩:=h
  by_cases e:p.1=k
  ·have a:q.1=k:=h1.symm.trans e
   have b:atKey (q :: qs) k=some q.2:=by simp[atKey,List.find?_cons,a]
   rw[rk e,b];exact h2
  ·have a : ¬q.1=k:=λz=>e (h1.trans z)
   have b:atKey (q :: qs) k=atKey qs k:=by simp[atKey,List.find?_cons,a]
   rw[lF e,b];exact ih
theorem KT.repl {kvs:List (List Key × V)}{xs:List (List Key × Addr × T0)}(r:KT H kvs xs)(k:List Key){y:V}{u:T0}(b:bJ y u) :
  KT H (kvs.map λa=>if a.1=k then (a.1,y) else a) (xs.map (putAt k u)):=by
 induction r with
 | nil=>exact .nil
 | @cons p q ps qs h t ih =>
  rw[yP,yP];refine .cons ?_ ih;obtain⟨h1,h2,c⟩:=h;unfold putAt
  by_cases e:p.1=k
  ·rw[z4 e,z4 (h1.symm.trans e)];exact⟨h1,h2,b⟩
  ·rw[z5 e,z5 (λz=>e (h1.trans z))];exact⟨h1,h2,c⟩
theorem KT.put {kvs:List (List Key × V)}{xs:List (List Key × Addr × T0)}(r:KT H kvs xs)(k:List Key){b:Addr}{y:V}{u:T0}(c:H b=some (.tup (k.map kV)))(a:bJ y u) :
  KT H (jJ kvs k y) (storedH xs k b u):=by
 have e:(kvs.any λd=>decide (d.1=k))=(atKey xs k).isSome:=by
  rw[xt,(r.val k).isSome_eq,Option.isSome_map]
 unfold jJ storedH;rw[e]
 by_cases q:(atKey xs k).isSome=true
 ·rw[z4 q,z4 q];exact r.repl k a
 ·rw[z5 q,z5 q];exact Paired.snoc r ⟨rfl,c,a⟩
theorem KT.keeps {H':Hp}{kvs:List (List Key × V)}{xs:List (List Key × Addr × T0)}(r:KT H kvs xs)(ht:∀b ys,H b=some (.tup ys)->H' b=some (.tup ys)):KT H' kvs xs :=
 Paired.mapP r λ_ _ z=>⟨z.1,ht _ _ z.2.1,z.2.2⟩
variable {kvs:List (Key × V)}
section
variable {P:T6} {w:T7} {H:Hp} {h:Heap} {a:Addr}
theorem HV {u:HO}(ok:HOk P w H h)(e:Rd H a u):ek P w H h a u:=e.ok ok
theorem ux (ok:HOk P w H h)(e:Rd H a (.dK kvs)):kvs.length<=sizeLine/\(a == sysModules)=false/\∃b,KV kvs b/\h.DictOf (dB P w) a b :=
 show ek P w H h a (.dK kvs) from HV ok e
theorem Ed (ok:HOk P w H h)(e:H a=some (.dK kvs)):kvs.length<=sizeLine/\(a == sysModules)=false/\∃b,KV kvs b/\h.DictOf (dB P w) a b:=ux ok (.inl e)
theorem rm {ks:List Key}(ok:HOk P w H h)(e:H a=some (.tup (ks.map kV))):(tupleKind (dB P w)).is h ks a:=by
 obtain⟨_,b,r,o,h1,h2,n,c⟩:=(show ek P w H h a (.tup (ks.map kV)) from ok a _ e);exact⟨o,b.toArray,n,h1,h2,c,by simpa using uw r⟩
theorem uy {kvs:List (List Key × V)}(ok:HOk P w H h)(e:Rd H a (.dT kvs)):kvs.length<=sizeLine/\(a == sysModules)=false/\
  ∃xs,KT H kvs xs/\h.DictOfH (tupleKind (dB P w)) a xs:=by
 obtain⟨z,y,xs,r,o,es,ep,h1,h2,g,d,f⟩:=(show ek P w H h a (.dT kvs) from HV ok e);refine⟨z,y,xs,r,o,es,ep,h1,h2,g,d,λx b => ?_,f⟩;have c:∀{l:List (List Key × V)} {m:List (List Key × Addr × T0)},KT H l m->∀x∈m,(tupleKind (dB P w)).is h x.1 x.2.1:=by
  intro l m q
  induction q with
  | nil=>intro x b;exact nomatch b
  | @cons p q ps qs hq t ih =>
   intro x b;rcases Y6.mp b with e|b
   ·subst e
    exact rm ok (by rw[<-hq.1];exact hq.2.1)
   ·exact ih x b
 exact c r x b
theorem K9 {kvs:List (List Key × V)}(ok:HOk P w H h)(e:H a=some (.dT kvs)):kvs.length<=sizeLine/\(a == sysModules)=false/\
  ∃xs,KT H kvs xs/\h.DictOfH (tupleKind (dB P w)) a xs:=uy ok (.inl e)
end
def nP (H:Hp) (a:Addr) (y:V) (r:Option V):Prop :=
 (∃kvs k,Rd H a (.dK kvs)/\y=kV k/\r=gL kvs k)\/∃kvs k b,Rd H a (.dT kvs)/\y=.ref b/\H b=some (.tup (k.map kV))/\r=gL kvs k
def xv (H:Hp) (a:Addr) (y v:V) (H':Hp):Prop :=
 (∃kvs k,H a=some (.dK kvs)/\y=kV k/\kvs.length < sizeLine/\H'=upd H a (.dK (jJ kvs k v)))\/
 ∃kvs k b,H a=some (.dT kvs)/\y=.ref b/\H b=some (.tup (k.map kV))/\kvs.length < sizeLine/\H'=upd H a (.dT (jJ kvs k v))
theorem nP.k {a:Addr}{k:Key}(e:H a=some (.dK kvs)):nP H a (kV k) (gL kvs k):=.inl ⟨kvs,k,.inl e,rfl,rfl⟩
theorem nP.t {a b:Addr}{kvs:List (List Key × V)}{k:List Key}(e:H a=some (.dT kvs))(c:H b=some (.tup (k.map kV))):nP H a (.ref b) (gL kvs k):=.inr ⟨kvs,k,b,.inl e,rfl,c,rfl⟩
theorem xv.k {a:Addr}{k:Key}{v:V}(e:H a=some (.dK kvs))(b:kvs.length < sizeLine):xv H a (kV k) v (upd H a (.dK (jJ kvs k v))):=.inl ⟨kvs,k,e,rfl,b,rfl⟩
theorem xv.t {a b:Addr}{kvs:List (List Key × V)}{k:List Key}{v:V}(e:H a=some (.dT kvs))(d:H b=some (.tup (k.map kV)))(c:kvs.length < sizeLine) :
  xv H a (.ref b) v (upd H a (.dT (jJ kvs k v))):=.inr ⟨kvs,k,b,e,rfl,d,c,rfl⟩
section
variable {X:Cx} {pins:List (Addr × Obj)} {σ:St} {H:Hp} {s:T4} {a:Addr} {y v:V} {u r:T0} {o:Option V} {A:T5} {E:T0->T4->Prop}
theorem Inv.big (I:Inv X pins σ H s):sysModules < s.heap.objs.size:=by
 have h:mainGlobals < s.heap.objs.size:=(I.mod.glob.keeps I.bk).lt;exact x3 (by decide) h
theorem Cp {Q:T0->T4->Prop}(q:A.units + 1 < cLine)(I:Inv X pins σ H s)(g:nP H a y (some v))(j:bJ y u)(h:∀w' m,Inv X pins σ H m->bJ v w'->Q w' m) :
  wpAny (model X.prog X.w) A (getItem (.ref a) u) Q E s:=by
 rcases g with ⟨kvs,k,e,ey,l⟩|⟨kvs,k,b,e,ey,eb,l⟩
 ·subst ey
  obtain⟨z,hd,t,c,f⟩:=ux I.hok e;obtain⟨w',hw,d⟩:=tm.some_of (v:=v) (o:=valueAt t k) (by rw[l];exact c.val k);exact wpAny_getItem_of (xu j) f.mapOf hw (h w' _ (I.tok _) d)
 ·subst ey
  cases (show u=Value.ref b from j);obtain⟨z,hd,xs,c,f⟩:=uy I.hok e;obtain⟨w',hw,d⟩:=tm.some_of (v:=v) (o:=(atKey xs k).map (·.2)) (by rw[l];exact c.val k);obtain⟨p,n,i⟩:=Option.map_eq_some_iff.mp hw;refine wpAny_getItem_heap (W4 q) (rm I.hok eb) f n ?_;rw[i];exact h w' _ (I.tok _) d
theorem Mm {Q:T0->T4->Prop}(j:A.units + 1 < cLine)(I:Inv X pins σ H s)(g:nP H a y o)(i:bJ y u)(h:∀f,Inv X pins σ H f->Q (.bool o.isSome) f) :
  wpAny (model X.prog X.w) A (compareOp .In u (.ref a)) Q E s:=by
 rcases g with ⟨kvs,k,e,ey,l⟩|⟨kvs,k,b,e,ey,eb,l⟩
 ·subst ey
  obtain⟨z,hd,m,c,d⟩:=ux I.hok e;refine wpAny_in_of (xu i) hd d.mapOf ?_;rw[<-(c.val k).isSome_eq,<-l];exact h _ (I.tok _)
 ·subst ey
  cases (show u=Value.ref b from i);obtain⟨z,hd,xs,c,d⟩:=uy I.hok e;refine wpAny_in_heap (W4 j) (rm I.hok eb) hd d ?_;have q:=(c.val k).isSome_eq;rw[Option.isSome_map]at q;rw[<-q,<-l];exact h _ (I.tok _)
theorem GD {Q:T0->T4->Prop}(j:A.units + 1 < cLine)(I:Inv X pins σ H s)(g:nP H a y o)(i:bJ y u)(h:∀f,Inv X pins σ H f->Q (.bool (!o.isSome)) f) :
  wpAny (model X.prog X.w) A (compareOp .NotIn u (.ref a)) Q E s:=by
 rcases g with ⟨kvs,k,e,ey,l⟩|⟨kvs,k,b,e,ey,eb,l⟩
 ·subst ey
  obtain⟨z,hd,m,c,d⟩:=ux I.hok e;refine wpAny_notIn_of (xu i) hd d.mapOf ?_;rw[<-(c.val k).isSome_eq,<-l];exact h _ (I.tok _)
 ·subst ey
  cases (show u=Value.ref b from i);obtain⟨z,hd,xs,c,d⟩:=uy I.hok e;refine wpAny_notIn_heap (W4 j) (rm I.hok eb) hd d ?_;have q:=(c.val k).isSome_eq;rw[Option.isSome_map]at q;rw[<-q,<-l];exact h _ (I.tok _)
theorem Bk {h':Heap}{t':Nat}{c:HO}(I:Inv X pins σ H s)(g:Mut (H a))(f:Heap.SameBut a s.heap h')(he:∃q,h'.get? a=some q)(new:ek X.prog X.w (upd H a c) h' a c) :
  Inv X pins σ (upd H a c) { s with heap:=h',toks:=t' } :=
 I.write (x:=a) (e:=a) g (.inl rfl) (λb q d z=>(f.2 b d).trans z) he new
theorem Jq {P:T6}{w:T7}{H':Hp}{h':Heap}{vs:List (Key × T0)}(z:kvs.length<=sizeLine)(hd:(a == sysModules)=false)(rel:KV kvs vs)(b:h'.DictOf (dB P w) a vs) :
  ek P w H' h' a (.dK kvs):=⟨z,hd,vs,rel,b⟩
theorem Cq {H':Hp}{Q:Unit->T4->Prop}(K:A.units + 1 < cLine)(I:Inv X pins σ H s)(g:xv H a y v H')(t:bJ y u)(B:bJ v r)(h:∀x,Inv X pins σ H' x->Q () x) :
  wpAny (model X.prog X.w) A (setItem (.ref a) u r) Q E s:=by
 rcases g with ⟨kvs,k,e,ey,l,eH⟩|⟨kvs,k,b,e,ey,eb,l,eH⟩
 ·subst ey eH
  obtain⟨z,hd,L,d,m⟩:=Ed I.hok e;have p:L.length<=sizeLine:=by rw[<-d.length];exact z
  have n:(jJ kvs k v).length<=sizeLine:=by have:=p8 kvs k v;omega
  refine wpAny_setItem_pairs (hsz:=p) (xu t) m λw f j=>h _ ?_;have G:∃q,w.get? a=some q:=let ⟨q,_,_,i,_⟩:=f;⟨q,i⟩;exact Bk I (by rw[e];exact True.intro) j G (Jq n hd (d.put k B) f)
 ·subst ey eH
  cases (show u=Value.ref b from t);obtain⟨z,hd,xs,d,m⟩:=K9 I.hok e;have p:xs.length<=sizeLine:=by rw[<-Paired.length d];exact z
  have n:(jJ kvs k v).length<=sizeLine:=by have:=p8 kvs k v;omega
  refine wpAny_setItem_heap (hsz:=p) (W4 K) (rm I.hok eb) m λw f j=>h _ ?_;obtain⟨q,es,ep,i,h2,J,D,_,F⟩:=f;refine Bk I (by rw[e];exact True.intro) j ⟨q,i⟩ ⟨n,hd,_,(d.put k eb B).keeps λc ys C => ?_,q,es,ep,i,h2,J,D,F⟩;rw[aC (Ko C e (λz=>nomatch z))];exact C
end
section
variable {X:Cx} {pins:List (Addr × Obj)} {σ:St} {H:Hp} {s:T4} {a:Addr} {kvs:List (Key × V)} {k:Key} {u:T0} {A:T5} {E:T0->T4->Prop}
end
def Jr (i:Expr):Prop:=∀ov iv,subscripted i false ov iv=operate [ov,iv] (getItem ov iv)
theorem GE {prog:T6}{w:T7}{A:T5}{E:T0->T4->Prop}{s:T4}{env:Env}{b a:Expr}{pos:Pos}{T id:String}{Q:T0->T4->Prop}
  (n:typeLookup (.type T) "__getitem__" = pure (some (.builtin id))) (m:Jr a)
  (h:wpAny (model prog w) A (eval b env) (λo e => wpAny (model prog w) A (eval a env) (λi c => c.TypeIs o T/\wpAny (model prog w) A (getItem o i) Q E c) E e) E s) :
  wpAny (model prog w) A (eval (.Subscript b a pos) env) Q E s:=by
 refine Subscript_ (XI h (λo e j => XI j (λi c d => ?_) λ_ _ x=>x) λ_ _ x=>x);obtain⟨l,d⟩:=d;unfold subscriptTail;refine z0 ?_;rw[getitemInPython_of_ne l.not_modules];refine z0 (wpAny_specialOf l n ?_);have g:wpAny (model prog w) A (subscripted a false o i) (λr f => wpAny (model prog w) A (letTemporaryGo b o r >>= λ_=>pure r) Q E f) E c := by
  rw[m o i];exact wpAny_operating (XI d (λr f k => z0 (wpAny_letTemporaryGo (z3 k))) λ_ _ x=>x)
 first
  | exact z3 (z0 g)
  | exact z0 (z3 (z0 g))
  | exact z0 g
theorem xw {X:Cx} {pins:List (Addr × Obj)} {σ:St}  {s:T4} {a:Addr} {y:V} {o:Option V} (I:Inv X pins σ H s) (g:nP H a y o):s.TypeIs (.ref a) "dict" := by
 rcases g with ⟨kvs,k,e,_,_⟩|⟨kvs,k,b,e,_,_,_⟩
 ·obtain⟨_,_,d,_,c⟩:=ux I.hok e
  exact c.typeIs
 ·obtain⟨_,_,xs,_,c⟩:=uy I.hok e
  exact c.typeIs
def Lc (td ty:TE):TE:=λσ H Q=>td σ H λx H1=>ty σ H1 λy H2=>∃a v,x=.ref a/\nP H2 a y (some v)/\Q v H2
section
variable {X:Cx} {o i e value:Expr} {pos pos' tpos:Pos} {td ty tv:TE}
theorem GG (q:X.A.units + 1 < cLine)(l:PE X o td)(hi:PE X i ty)(d:Jr i):PE X (.Subscript o i pos) (Lc td ty):=by
 intro pins s σ H Q I h;refine GE PySem.F.slot_dict_getitem.lookup d (thn (l pins s σ H _ I h) λu j ⟨x,H1,n,m,q1⟩=>thn (hi pins j σ H1 _ n q1) λw z ⟨y,p,c,k,a,v,ex,g,q2⟩ => ?_);subst ex;obtain rfl:u=Value.ref a:=m;exact⟨xw c g,Cp q c g k λt r f b=>⟨v,p,f,b,q2⟩⟩
end
theorem Ee {P:T6} {w:T7}  (h:Heap) (a:sysModules < h.objs.size):ek P w H (h.push { cls:=.type "dict",data:=.dict #[] }) h.objs.size (.dK []) :=
 ⟨Z8 _,beq_eq_false_iff_ne.mpr (YT (ZN a)),[],.nil,Heap.DictOf.new h⟩
theorem Ef {P:T6} {w:T7}  (h:Heap) (a:sysModules < h.objs.size):ek P w H (h.push { cls:=.type "dict",data:=.dict #[] }) h.objs.size (.dT []) :=
 ⟨Z8 _,beq_eq_false_iff_ne.mpr (YT (ZN a)),[],.nil,_,#[],0,ZJ _ rfl,⟨rfl,rfl,rfl⟩,rfl,rfl,WN⟩
def Js:TE:=λ_ H Q=>∀p,H p=none->Q (.ref p) (upd H p (.dK []))
def Jt:TE:=λ_ H Q=>∀p,H p=none->Q (.ref p) (upd H p (.dT []))
section
variable {X:Cx} {pos:Pos}
theorem Eg:PE X (.Dict [] [] pos) Js:=λpins s σ H Q I h =>
 wpAny_Dict_empty ⟨.ref s.heap.objs.size,_,I.laid (a:=s.heap.objs.size) (o:=.dK []) (t':=s.toks) (λ_ _ q=>ZH _ q) (ZL _) (Ee s.heap I.big),rfl,h _ (I.hok.fresh (ZL _))⟩
theorem Eh:PE X (.Dict [] [] pos) Jt:=λpins s σ H Q I h =>
 wpAny_Dict_empty ⟨.ref s.heap.objs.size,_,I.laid (a:=s.heap.objs.size) (o:=.dT []) (t':=s.toks) (λ_ _ q=>ZH _ q) (ZL _) (Ef s.heap I.big),rfl,h _ (I.hok.fresh (ZL _))⟩
end
structure M1 (X:Cx) (o:Expr) (m:Str) (apos:Pos) (e:Expr) (cpos:Pos):Prop where
 base:attributeBase o m X.env (eval o X.env)=eval o X.env
 few:((backTo cpos (starEach [e] X.env)).all (λx => !x.1) && (backToKw cpos (keywordEach [] X.env)).all (λx=>x.1.isSome)
  && decide (([e] : List Expr).length + ([] : List Keyword).length + (if ([] : List Keyword).isEmpty then 0 else 1) < 30))=true
 line:(apos.endLine == cpos.line)=true
 trees:backTo cpos (starEach [e] X.env)=[(false,eval e X.env)]
structure M2 (X:Cx) (o:Expr) (m:Str) (apos:Pos) (e f:Expr) (cpos:Pos):Prop where
 base:attributeBase o m X.env (eval o X.env)=eval o X.env
 few:((backTo cpos (starEach [e,f] X.env)).all (λx => !x.1) && (backToKw cpos (keywordEach [] X.env)).all (λx=>x.1.isSome)
  && decide (([e,f] : List Expr).length + ([] : List Keyword).length + (if ([] : List Keyword).isEmpty then 0 else 1) < 30))=true
 line:(apos.endLine == cpos.line)=true
 trees:backTo cpos (starEach [e,f] X.env)=[(false,eval e X.env),(false,eval f X.env)]
def IsD (H:Hp) (a:Addr):Prop:=(∃kvs,Rd H a (.dK kvs))\/∃kvs,Rd H a (.dT kvs)
theorem Ju {X:Cx}{pins:List (Addr × Obj)}{σ:St}{s:T4}{a:Addr}(I:Inv X pins σ H s)(d:IsD H a) :
  s.TypeIs (.ref a) "dict"/\(∀b,Value.ref a=.ref b->∃c,s.heap.get? b=some c/\c.dict=none)/\(a == sysModules)=false:=by
 rcases d with ⟨kvs,e⟩|⟨kvs,e⟩
 ·obtain⟨_,hd,g,_,f⟩:=ux I.hok e
  refine⟨f.typeIs,λb q => ?_,hd⟩;cases q;obtain⟨c,_,_,h1,h2,_⟩:=f;exact⟨c,h1,h2.2.1⟩
 ·obtain⟨_,hd,xs,_,f⟩:=uy I.hok e
  refine⟨f.typeIs,λb q => ?_,hd⟩;cases q;obtain⟨c,_,_,h1,h2,_⟩:=f;exact⟨c,h1,h2.2.1⟩
section
variable {X:Cx} {pins:List (Addr × Obj)} {σ:St} {H:Hp} {s:T4} {a:Addr} {y d:V} {u r:T0} {o:Option V} {A:T5} {E:T0->T4->Prop}
end
section
variable {X:Cx} {o e f:Expr} {apos cpos:Pos} {td ty tx:TE}
end
section
variable {X:Cx} {pins:List (Addr × Obj)} {σ:St} {H:Hp} {s:T4} {a:Addr} {kvs:List (Key × V)} {A:T5} {E:T0->T4->Prop}
end
section
variable {X:Cx} {pins:List (Addr × Obj)} {σ:St} {H:Hp} {s:T4} {a:Addr} {y:V} {u:T0} {A:T5} {E:T0->T4->Prop}
end
end L2
namespace Fm
open PySem PySem.Spec L2 PySem.W PyProof.Rows
section
variable {K:ZX} {ρ:List Addr} {H:Hp} {hd:Hd}
theorem RH.allocD (r:RH K ρ H hd){p:Addr}{l:List (Int × D)}(hp:RC K ρ H (.dct l) p)(i:p ∉ ρ):RH K (ρ ++ [p]) H (hd++[.dct l]):=by
 have k:Kp ρ H (ρ ++ [p]) H:=⟨λn a e=>by rw[ZC (List.getElem?_eq_some_iff.mp e).1];exact e,λ_ _ h=>h,λ_ _ _ h=>h,λ_ _ h=>h⟩;refine⟨by simp[r.len],?_,λn c a h1 h2 => ?_⟩
 ·rw[XA]
  exact⟨r.nd,by simp,λa g b f=>by simp at f;subst f;intro e;subst e;exact i g⟩
 ·by_cases hlt:n < hd.length
  ·rw[ZC hlt]at h1
   rw[ZC (by rw[r.len];exact hlt)]at h2;exact(r.cel n c a h1 h2).mono k rfl
  ·have j:n=hd.length:=by
    have:=(List.getElem?_eq_some_iff.mp h1).1;simp at this;omega
   subst j;simp at h1;subst h1;rw[<-r.len]at h2;simp at h2;subst h2;obtain⟨d,q1,q2,q3⟩:=hp;exact⟨d,q1,q2,q3.mono k⟩
theorem RH.writeD (r:RH K ρ H hd){n:Nat}{p:Addr}{l:List (Int × D)}{kvs:List (Key × V)}(hp : ρ[n]? = some p)(d:n < hd.length)(h1:kvs.map (·.1)=l.map (λp=>(Sum.inl p.1:Key)))(h2:RDs K ρ H (l.map (·.2)) (kvs.map (·.2))):RH K ρ (upd H p (.dK kvs)) (hd.set n (.dct l)):=by
 have k:Kp ρ H ρ (upd H p (.dK kvs)):=by
  have b:=ZK hp;refine⟨λ_ _ h=>h,λa f e => ?_,λa o u e => ?_,λa g e => ?_⟩
  ·rw[aC (λz=>r.noTup e (by rw[z];exact b))];exact e
  ·rw[aC (λz=>r.noFrz e (by rw[z];exact b))];exact e
  ·rw[aC (λz=>r.noExt e (by rw[z];exact b))];exact e
 refine⟨by simp[r.len],r.nd,λm c a q1 q2 => ?_⟩
 by_cases e:n=m
 ·subst e
  rw[List.getElem?_set_self d]at q1;cases q1;rw[hp]at q2;cases q2;exact⟨kvs,bi,h1,h2.mono k⟩
 ·rw[ZP e]at q1
  have ne:a≠p:=λz=>by
   subst z;exact e (nJ r.nd hp q2)
  exact(r.cel m c a q1 q2).mono k (aC ne)
theorem xx (k:Int):∀{l:List (Int × D)} {a:List (Key × V)},a.map (·.1)=l.map (λp=>(Sum.inl p.1:Key))->RDs K ρ H (l.map (·.2)) (a.map (·.2))->
  (rj l k=none/\gL a (Sum.inl k)=none)\/∃d v,rj l k=some d/\gL a (Sum.inl k)=some v/\RD K ρ H d v
 | [],[],_,_=>.inl ⟨rfl,rfl⟩
 | [],_ :: _,h,_=>by simp at h
 | _ :: _,[],h,_=>by simp at h
 | (j,d) :: l,(kk,v) :: a,h1,h2=>by
  simp only[yP,Y4]at h1;simp only[yP,RDs]at h2;obtain⟨n,m,e,q1,q2⟩:=h2;cases e;obtain⟨i,f⟩:=h1;subst i
  by_cases e:j=k
  ·subst e
   exact .inr ⟨d,v,by simp[rj],by simp[gL],q1⟩
  ·have b:=xx k f q2
   have g:rj ((j,d) :: l) k=rj l k:=by simp[rj,e]
   have c:gL ((Sum.inl j,v) :: a) (Sum.inl k)=gL a (Sum.inl k):=lF (λz=>e (by cases z;rfl));rw[g,c];exact b
theorem xy (k:Int):∀{l:List (Int × D)} {a:List (Key × V)},a.map (·.1)=l.map (λp=>(Sum.inl p.1:Key))->(a.any λc=>decide (c.1=(Sum.inl k:Key)))=l.any λp=>decide (p.1=k)
 | [],[],_=>rfl
 | [],_ :: _,h=>by simp at h
 | _ :: _,[],h=>by simp at h
 | (j,d) :: l,(kk,v) :: a,h1=>by
  simp only[yP,Y4]at h1;obtain⟨e,b⟩:=h1;subst e;simp[xy k b]
theorem xz (k:Int){f:D}{c:V}(g:RD K ρ H f c):∀{l:List (Int × D)} {a:List (Key × V)},a.map (·.1)=l.map (λp=>(Sum.inl p.1:Key))->RDs K ρ H (l.map (·.2)) (a.map (·.2))->
  (a.map λb=>if b.1=(Sum.inl k:Key) then (b.1,c) else b).map (·.1)=(l.map λp=>if p.1=k then (p.1,f) else p).map (λp=>(Sum.inl p.1:Key))/\RDs K ρ H ((l.map λp=>if p.1=k then (p.1,f) else p).map (·.2)) ((a.map λb=>if b.1=(Sum.inl k:Key) then (b.1,c) else b).map (·.2))
 | [],[],_,_=>⟨rfl,RDs.nil⟩
 | [],_ :: _,h,_=>by simp at h
 | _ :: _,[],h,_=>by simp at h
 | (j,d) :: l,(kk,v) :: a,h1,h2=>by
  simp only[yP,Y4]at h1;simp only[yP,RDs]at h2;obtain⟨s,r,e,q1,q2⟩:=h2;cases e;obtain⟨q,n⟩:=h1;subst q;obtain⟨m,i⟩:=xz k g n q2
  by_cases e:j=k
  ·subst e
   simp only[yP,YL];exact⟨by rw[m],RDs.cons g i⟩
  ·have o : ¬(Sum.inl j:Key)=Sum.inl k:=λz=>e (by cases z;rfl)
   simp only[yP,z5 e,z5 o];exact⟨by rw[m],RDs.cons q1 i⟩
theorem Ei (k:Int){a:D}{b:V}(c:RD K ρ H a b){l:List (Int × D)}{kvs:List (Key × V)}(h1:kvs.map (·.1)=l.map (λp=>(Sum.inl p.1:Key)))(h2:RDs K ρ H (l.map (·.2)) (kvs.map (·.2))) :
  (jJ kvs (Sum.inl k) b).map (·.1)=(zy l k a).map (λp=>(Sum.inl p.1:Key))/\RDs K ρ H ((zy l k a).map (·.2)) ((jJ kvs (Sum.inl k) b).map (·.2)):=by
 unfold jJ zy;rw[xy k h1];split
 ·exact xz k c h1 h2
 ·refine⟨by simp[h1],?_⟩
  rw[ZR,ZR];exact RDs.append h2 (RDs.cons c RDs.nil)
end
section
variable {X:Cx} {pos p:Pos}
theorem GH:ME X (.Dict [] [] pos) Bj:=by
 refine PE.imp Eg λσ H Q ⟨ρ,σd,hd,b,e⟩=>λq c => ?_;have d:=cy (o:=HO.dK []) c;have g:=b.hp.free c;have f:=(b.hp.same d).allocD (p:=q) (l:=[]) ⟨[],bi,rfl,RDs.nil⟩ g;have ex:Ext ρ H (ρ ++ [q]) (upd H q (.dK [])):=Ext.alloc c;refine bZ.at (R:=rD X.K) (a:=.ref hd.length) e ex (b.ext ex f) ?_;simp only[rD,RD];refine⟨q,?_,rfl⟩;rw[<-b.hp.len];simp
def Ld (K:ZX):R2:=λx y H Q=>∃a o,y=.ref a/\nP H a x o/\Q (.bl o.isSome) H
theorem Jv (e:X.A.units + 1 < cLine):OpR X (compareOp .In) (Ld X.K):=by
 intro pins s σ H x y v u Q I d c h;obtain⟨a,o,rfl,g,q⟩:=h;obtain rfl:u=Value.ref a:=c;exact Mm e I g d λf b=>⟨.bl o.isSome,H,b,rfl,q⟩
theorem Jw {K:ZX}:Og K Ec (Ld K):=by
 intro ρ H σd hd σ d k v w Q j h g b;cases d<;>try exact b.elim
 cases k<;>try exact b.elim
 rename_i i n
 simp only[Ec]at b;simp only[RD]at h g;subst h;obtain⟨a,m,rfl⟩:=g;cases c:hd[n]? with
 | none=>rw[c]at b;exact b.elim
 | some cell =>
  rw[c]at b;cases cell with
  | lst l=>exact b.elim
  | dcT _=>exact b.elim
  | dct l =>
   simp only at b;obtain⟨f,q1,q2,q3⟩:=j.hp.cel n _ a c m;refine⟨a,gL f (Sum.inl i),rfl,nP.k (k:=Sum.inl i) q1,?_⟩;have e:(gL f (Sum.inl i)).isSome=(rj l i).isSome:=by
    rcases xx i q2 q3 with ⟨e1,e2⟩|⟨d,v,e1,e2,_⟩<;>rw[e1,e2]<;>rfl
   rw[e];exact b.here j (by simp only[rD,RD])
def Le:V->V->V->Hp->(Hp->Prop)->Prop:=λo i v H Q=>∃a H',o=.ref a/\xv H a i v H'/\Q H'
theorem xA (f:X.A.units + 1 < cLine):IE X Le:=by
 intro pins s σ H o i v ov j u Q I b d e h;obtain⟨a,H',rfl,g,q⟩:=h;obtain rfl:ov=Value.ref a:=b;exact Cq f I g d e λk c=>⟨H',c,q⟩
theorem Bl {o i e:Expr}{A F C:EF}{p2:Pos}(T:X.A.units + 1 < cLine)(he:ME X e C)(M:ME X o A)(hi:ME X i F)(I:swapsWithSole [.Subscript o i p2] e pos.line X.env=pure false:=by rfl)(hw:swappedStores [.Subscript o i p2] e X.env=pure none:=by rfl)
  (h1:(assignEach [.Subscript o i p2] X.env).map (·.2)=[assign (.Subscript o i p2) X.env]:=by rfl) (s:∀v,assign (.Subscript o i p2) X.env v=(do
   let ov <-holding [v] (eval o X.env)
   let iv <-holding [v,ov] (eval i X.env)
   standAt p2
   holding [v,ov,iv] (setItem ov iv v)
   release [v,ov,iv] []):=by intro _;rfl):MS X (.Assign [.Subscript o i p2] e pos) (xr A F C):=by
 refine PS.imp (vj he (zd M hi (xA T) s) I hw h1) λEn σ H ⟨ρ,σd,hd,S,p⟩=>⟨ρ,σd,hd,S,(ce.outE p).imp λv H1 ⟨w,d,z,Y,q,P,L⟩ => ?_⟩;refine⟨w,σd,z,q,(ce.outE L).imp λvo Z ⟨x,V,y,K,h,J,p2⟩ => ?_⟩;refine⟨x,σd,y,h,(ce.outE p2).imp λW E ⟨g,U,m,B,f,D,b⟩ => ?_⟩;have u:=(P.mono (q.hp.kp K)).mono (h.hp.kp B);have t:=J.mono (h.hp.kp B);cases V with
 | ref n =>
  cases U with
  | int j =>
   simp only at b;cases c:m[n]? with
   | none=>rw[c]at b;exact b.elim
   | some cell =>
    rw[c]at b;cases cell with
    | lst l=>exact b.elim
    | dcT _=>exact b.elim
    | dct l =>
     simp only at b;split at b
     ·rename_i hz
      simp only[RD]at t D;subst D;obtain⟨a,s,rfl⟩:=t;obtain⟨r,q1,q2,q3⟩:=f.hp.cel n _ a c s;have O:r.length=l.length:=by have:=congrArg List.length q2;simpa using this
      refine⟨a,_,rfl,xv.k (k:=Sum.inl j) q1 (by rw[O];exact xC hz (by rw[wH];decide)),?_⟩;have Q:n < m.length:=(List.getElem?_eq_some_iff.mp c).1;obtain⟨G,R⟩:=Ei j u q2 q3;have N:=f.hp.writeD s Q G R;have ex:Ext g E g (upd E a (.dK (jJ r (Sum.inl j) v))):=Ext.write (ZK s);exact b σ _ g ex (f.ext ex N)
     ·exact b.elim
  | _=>exact b.elim
 | _=>exact b.elim
end
section
variable {X:Cx} {pos p:Pos}
theorem uz {P:T6}{w:T7}{H:Hp}{h h':Heap}(hok:HOk P w H h)(g:∀b o xs,H b=some (.tup xs)->h.get? b=some o->h'.get? b=some o):∀{j:List V} {f:List (List Int)} {c:List T0},dA H j f->aY j c->(f.all λx => !x.isEmpty)=true->
  ∃fs,KatTups h' c fs/\fs.length=c.length/\∀v∈fs,∃i t,v=Value.int i t
 | _,_,_,.nil,.nil,_=>⟨[],.nil,rfl,λv d=>by simp at d⟩
 | _,_,_,.cons (a:=a) (r:=r) ha t,.cons rv rt,hne=>by
  simp only[X4,x8,Bool.not_eq_true']at hne;obtain⟨fs,h1,h2,l⟩:=uz hok g t rt hne.2;obtain⟨z,e,m,o,k,hc,n,hd⟩:=hok a _ ha;cases r with
  | nil=>simp at hne
  | cons i r =>
   cases m with
   | cons q0 qr =>
    rename_i u us
    obtain⟨tk,rfl⟩:=Bg q0;cases rv;refine⟨.int i tk :: fs,KatTups.cons (g a o _ ha k) hc hd (by simp) h1,by simp[h2],λv d => ?_⟩;rcases Y6.mp d with rfl|d
    ·exact⟨i,tk,rfl⟩
    ·exact l v d
theorem Jx {pins:List (Addr × Obj)}{σ:L2.St}{H:Hp}{s:T4}{B:Addr}{vs:List V}{rs:List (List Int)}{A:T5}{E:T0->T4->Prop}{Q:T0->T4->Prop}(I:Inv X pins σ H s)(G:H B=some (.lst vs))(b9:vs.length < 64)(rv:dA H vs rs)(nd:rs.Nodup)(b6:(rs.all λx => !x.isEmpty)=true)
  (q:∀d s',dA H d (dD rs)->Inv X pins σ (upd H B (.lst d)) s'->Q .none s'):wpAny (model X.prog X.w) A (call (.builtin "list.sort") [.ref B]) Q E s:=by
 obtain⟨hz,a,n0,K,ho⟩:=I.hok B _ G;have S:a.length=vs.length:=K.length.symm;obtain⟨m,hm,_⟩:=id I.loc;have nL:∀b u,H b=some u->b≠X.env.locals:=λb u e z=>by rw[z,I.free]at e;cases e
 have BL:=nL B _ G;have a9:∀d,d=vs->upd H B (.lst d)=H:=λd e=>by
  subst e;funext b
  by_cases z:b=B
  ·subst z;rw[bi,G]
  ·rw[aC z]
 have after:∀(h2:Heap) (f:List T0) (d:List V) (c t':Nat),dA H d (dD rs)->aY d f->d.length<=sizeLine->h2.get? B=some (PySem.W.listOf f.toArray c)->(∀b o,b≠X.env.locals->b≠B->s.heap.get? b=some o->h2.get? b=some o)->h2.Ns X.env.locals m->Inv X pins σ (upd H B (.lst d)) { s with heap:=h2,toks:=t' }:=λh2 f d c t' a1 N a0 a8 l W=>by
  have I2:L2.Inv X pins σ (upd H B (.lst d)) { s with heap:=h2,gens:=s.gens,drawn:=s.drawn,toks:=t' }:=by
   refine I.step (g':=s.gens) (d':=s.drawn) (t':=t') (ch:=[]) (λ_ z=>nomatch z) (λb o D _ _ e n=>l b o D (λz=>by subst z;rw[G]at n;cases n) e) (λb o D _ _ e n=>⟨o.slots,l b o D (λz=>by subst z;rw[G]at n;cases n) e⟩) (λb o _ e n=>by rw[aC (λz=>by subst z;rw[G]at n;cases n)];exact n) (λb o _ e => ?_)
    (λb ys e=>by rw[aC (λz=>by subst z;rw[G]at e;cases e)];exact e) (λb o u e=>by rw[aC (λz=>by subst z;rw[G]at e;cases e)];exact e) (λb ps e=>⟨#[],by rw[aC (λz=>by subst z;rw[G]at e;cases e),e];simp⟩) (λm' b4=>by rw[Eb b4 hm];exact W) (λb u e => ?_) I.bare
   ·by_cases D:b=X.env.locals
    ·obtain⟨o',_,_,Y,_⟩:=W
     rw[D];exact⟨o',Y⟩
    ·by_cases F:b=B
     ·subst F;exact⟨_,a8⟩
     ·exact⟨o,l b o D F e⟩
   ·by_cases D:b=B
    ·subst D
     rw[bi]at e;cases e;exact⟨a0,f,c,N,a8⟩
    ·rw[aC D]at e
     refine(I.hok b u e).stay (λc v hc z => ?_) (λc z=>by rw[aC (λy=>by subst y;rw[G]at z;cases z)];exact z) λc ys z=>by rw[aC (λy=>by subst y;rw[G]at z;cases z)];exact z
     rcases hc with w|w
     ·subst w;exact l c v (nL c _ e) D z
     ·exact l c v (nL c _ w) (λy=>by subst y;rw[G]at w;cases w) z
  exact I2
 by_cases h2:a.length < 2
 ·have hs:dD rs=rs:=by
   have:rs.length < 2:=by rw[<-rv.length];omega
   match rs,this with
   | [],_=>rfl
   | [_],_=>rfl
  have ha:B < s.heap.objs.size:=ZI ho;have Y:s.heap.get? B=some (seqObj "list" a.toArray n0):=ho;refine Z4 slot_list_sort ⟨_,ho,rfl⟩ entry_list_sort (zx Y h2 ⟨_,rfl,?_⟩) (args_list_sort _);obtain⟨Z,b7⟩ : ∃Z,(s.heap.update B (Obj.mapSeq λ_ => #[])).get? B=some (seqObj "list" #[] Z):=⟨_,get?_update_seq Y (λ_ => #[])⟩;have b3:(((s.heap.update B (Obj.mapSeq λ_ => #[])).push (seqObj "tuple" a.toArray 0)).push (seqObj "list" #[] 0)).get? B=some (seqObj "list" #[] Z):=by
   rw[Heap.get?_push_ne _ _ _ (by rw[X6,Z3];exact ZN (yS ha)),Heap.get?_push_ne _ _ _ (by rw[Z3];exact ZN ha)];exact b7
  have L:∀b o,b≠B->s.heap.get? b=some o->(sortedHeap s.heap B a a.toArray).get? b=some o:=λb o D e=>by
   have a7:b < s.heap.objs.size:=ZI e;unfold sortedHeap;rw[Heap.get?_update_ne _ _ _ _ D,Heap.get?_push_ne _ _ _ (by rw[X6,Z3];exact ZN (yS a7)),Heap.get?_push_ne _ _ _ (by rw[Z3];exact ZN a7),Heap.get?_update_ne _ _ _ _ D];exact e
  have W:(sortedHeap s.heap B a a.toArray).Ns X.env.locals m:=by
   obtain⟨o',es,ep,h1,r⟩:=hm;exact⟨o',es,ep,L _ _ (YT BL) h1,r⟩
  refine q vs _ (by rw[hs];exact rv) (after _ a vs _ s.toks (by rw[hs];exact rv) K hz (get?_update_seq b3 _) (λb o _ D e=>L b o D e) W)
 ·have N0:News (Att.noObjs s.heap) X.env.locals s.heap ((B,PySem.W.listOf a.toArray n0) :: Att.ledger s.heap X.env.locals B):=λ⟨b,o⟩ D=>by
   rcases Y6.mp D with e|D
   ·cases e
    exact⟨ho,BL,Att.noObjs_get _ _⟩
   ·obtain⟨n1,n2,e⟩:=Att.mem_ledger.mp D
    exact⟨e,n1,Att.noObjs_get _ _⟩
  have a4:∀q∈Att.ledger s.heap X.env.locals B,q.1≠B:=λ⟨b,o⟩ hq=>(Att.mem_ledger.mp hq).2.1;refine kat_lsort (vs:=a) (Att.fr_all hm) N0 (UpdF.head a4) (by simp) (by omega) (by omega) λZ h' F' N' => ?_;have a3:∀b o,b≠X.env.locals->b≠B->s.heap.get? b=some o->(b,o)∈Att.ledger s.heap X.env.locals B:=λb o D F e=>Att.mem_ledger.mpr ⟨D,F,e⟩;have U:∀b o,b≠X.env.locals->b≠B->s.heap.get? b=some o->h'.get? b=some o:=λb o D F e=>(N' (b,o) (ZW _ (a3 b o D F e))).1;obtain⟨fs,t1,t2,t3⟩:=uz I.hok (h':=h') (λb o xs D e=>U b o (nL b _ D) (λz=>by subst z;rw[G]at D;cases D) e) rv K b6;refine kat_kind (s:={ s with heap:=h' }) (T:=.type "int") t1 (by omega) (λv hv => ?_) rfl ?_
  ·obtain⟨i,t,rfl⟩:=t3 v hv
   exact Looks.of_pure rfl
  ·have hT:(Value.type "int" != Value.type "tuple")=true:=by decide
   rw[hT];have b8:rs.length=a.length:=by rw[<-rv.length,S]
   have b0:∀i j,i < a.length->j < a.length->i≠j->rs.getD i []≠rs.getD j []:=λi j hi hj P z=>by
    have Z:rs.getD i [] = rs[i]'(by omega):=by simp[List.getD,show i < rs.length by omega]
    have e2:rs.getD j [] = rs[j]'(by omega):=by simp[List.getD,show j < rs.length by omega]
    rw[Z,e2]at z;exact P ((List.getElem_inj nd).mp z)
   have O:Ord (λi j=>Fm.cX (rs.getD i []) (rs.getD j [])) a.length:=⟨λi j _ _ h=>p7 h,λi j k _ _ _ h h'=>i5 h h',λi j hi hj P h=>oR (b0 i j hi hj P) h⟩;refine xq O (λi j hi hj C hC => ?_) (by omega) λJ g srt => ?_
   ·unfold kas_ask
    have a6:∀i,i < a.length->∃b,a.getD i Value.none=.ref b/\∃(o:Obj) (zs:List T0) (n:Nat),h'.get? b=some o/\o.data=.seq zs.toArray n/\IntsAre zs (rs.getD i []):=λi hi=>by
     have hv:vs[i]? = some (vs[i]'(by omega)):=by simp[show i < vs.length by omega]
     obtain⟨b,Z,e2⟩:=rv.get hv;obtain⟨u,hu,ru⟩:=K.get hv;rw[Z]at ru;cases (show u=Value.ref b from ru);obtain⟨z,zs,r0,o,ho,hc,n,hd⟩:=I.hok b _ e2;exact⟨b,by simp[List.getD,hu],o,zs,n,U b o (nL b _ e2) (λz=>by subst z;rw[G]at e2;cases e2) ho,hd,mM r0⟩
    obtain⟨b1,x1,o1,z1,n1,y1,d1,i1⟩:=a6 i hi;obtain⟨b2,x2,o2,z2,n2,y2,d2,i2⟩:=a6 j hj;rw[x1,x2];refine kat_lt (s:={ s with heap:=h' }) y1 d1 y2 d2 ?_;have:=Jn (prog:=X.prog) (w:=X.w) (A:=A.in1) (s:={ s with heap:=h' }) (Q:=C) (rs.getD i []) (rs.getD j []) 0 i1 i2 hC;simpa using this
   ·have a2:J.toList.Perm (List.range a.length):=by simpa using Array.perm_iff_toList_perm.mp g.pm
    have a5:∀i∈J.toList,i < vs.length:=λi hi=>by
     have:=a2.mem_iff.mp hi;rw[<-S];simpa using this
    obtain⟨d,M⟩ : ∃d,d=J.toList.map λi=>vs.getD i .non:=⟨_,rfl⟩;obtain⟨f,R⟩ : ∃f,f=J.toList.map λi=>a.getD i Value.none:=⟨_,rfl⟩;have a1:dA H d (dD rs):=by
     have e:(J.toList.map λi=>rs.getD i [])=dD rs:=by
      refine Co (?_:List.Perm _ _) ?_ (lE nd)
      ·refine((a2.map λi=>rs.getD i []).trans ?_).trans (jm rs).symm
       have:((List.range a.length).map λi=>rs.getD i [])=rs:=by
        apply Z0;intro i
        by_cases hi:i < rs.length
        ·have:i < a.length:=by omega
         simp[List.getD,hi,this]
        ·have : ¬i < a.length:=by omega
         simp[hi,this]
       rw[this]
      ·rw[YY]
       rw[List.pairwise_iff_getElem];intro i j hi hj P;have s1:=srt i j P (by rw[<-g.sz];simpa using hj);have g1:J.getD i 0=J.toList[i]:=by simp[Array.getD,show i < J.size by simpa using hi]
       have g2:J.getD j 0=J.toList[j]:=by simp[Array.getD,show j < J.size by simpa using hj]
       rw[g1,g2]at s1;exact s1
     have:=rv.pick J.toList a5;rw[e,<-M]at this;exact this
    have N:aY d f:=by rw[M,R];exact aY.pick K J.toList a5
    have a0:d.length<=sizeLine:=by
     have l1:d.length=a.length:=by rw[M,ZA,a2.length_eq,ZO]
     rw[l1,S];exact hz
    rw[<-R];refine KasFin.intro F' N' (UpdF.head a4) λh2 c F2 N2 => ?_;have b5:h2.get? B=some (PySem.W.listOf f.toArray c):=(N2 (B,_) (ZV ..)).1;have l:∀b o,b≠X.env.locals->b≠B->s.heap.get? b=some o->h2.get? b=some o:=λb o D F e=>(N2 (b,o) (ZW _ (a3 b o D F e))).1;exact q d _ a1 (after h2 f d c s.toks a1 N a0 b5 l F2.ns)
end
section
variable {X:Cx} {pos p:Pos}
def vI (p d:Addr):Heap->Prop:=λh=>h.get? p=some { cls:=.type "dict_items",data:=.fields #[.ref d] }
def Jy (td:TE):TE:=λσ H Q=>td σ H λx H1=>∃a kvs,x=.ref a/\H1 a=some (.dK kvs)/\∀p,H1 p=none->Q (.ref p) (upd H1 p (.ext (vI p a)))
theorem Ej {o:Expr} {td:TE} {apos c:Pos} (t:PE X o td) (g:attributeBase o "items" X.env (eval o X.env)=eval o X.env:=by rfl) (d:(apos.endLine == c.line)=true:=by rfl) :
  PE X (.Call (.Attribute o "items" apos) [] [] c) (Jy td):=by
 intro pins s σ H Q I h;refine wpAny_Call_method0_late g d (thn (t pins s σ H _ I h) λv j ⟨x,H1,i,u,a,l,ex,e,q1⟩ => ?_);subst ex;obtain rfl:v=Value.ref a:=u;obtain⟨m,n,y⟩:=Ju i (.inl ⟨l,.inl e⟩);obtain⟨_,hd,w,_,r⟩:=Ed i.hok e;refine⟨"dict", "dict.items",PySem.F.plainAttrs_dict,PySem.F.slot_dict_items,PySem.F.type_dict_items,m,n,Calls.callWith_builtin rfl (PySem.evalArgs_none ?_)⟩;refine call_meetsIn PySem.F.slot_dict_items m PySem.F.entry_dict_items (PySem.F.args_dict_items_1 _) (meets_dict_items (dB X.prog X.w) a hd) ⟨⟨w,r⟩,?_⟩;refine⟨.ref j.heap.objs.size,_,i.laid (t':=j.toks) (o:=.ext (vI j.heap.objs.size a)) (λb z q=>ZH _ q) (ZL _) ⟨ZJ _ rfl,⟨_,ZJ _ rfl⟩,λh1 h2 f k=>k _ f⟩,rfl,q1 _ (i.hok.fresh (ZL _))⟩
theorem Ek {pins:List (Addr × Obj)}{σ:L2.St}{H H':Hp}{s:T4}{h':Heap}{t':Nat}(I:Inv X pins σ H s)(keep:∀b o,s.heap.get? b=some o->h'.get? b=some o)(d:kZ H H')(a:∀b,b < s.heap.objs.size->H' b=H b)(new:∀b u,s.heap.objs.size<=b->H' b=some u->ek X.prog X.w H' h' b u/\∀c,u ≠ .own c):Inv X pins σ H' { s with heap:=h',toks:=t' }:=by
 have g:L2.Inv X pins σ H' { s with heap:=h',gens:=s.gens,drawn:=s.drawn,toks:=t' }:=by
  refine I.step (g':=s.gens) (d':=s.drawn) (t':=t') (ch:=[]) (λ_ z=>nomatch z) (λb o _ _ _ e _=>keep b o e) (λb o _ _ _ e _=>⟨o.slots,keep b o e⟩) (λb o _ e n=>by rw[a b (ZI e)];exact n) (λb o _ e=>⟨o,keep b o e⟩)
   (λb ys e=>d _ _ e) (λb o u e=>d _ _ e) (λb ps e=>⟨#[],by rw[d _ _ e];simp⟩) (λm f => ?_) (λb u e => ?_) I.bare
  ·obtain⟨o',es,ep,h1,r⟩:=f
   exact⟨o',es,ep,keep _ _ h1,r⟩
  ·by_cases hb:b < s.heap.objs.size
   ·rw[a b hb]at e
    refine(I.hok b u e).stay (λc v hc z=>keep c v z) (λc z=>d _ _ z) λc ys z=>d _ _ z
   ·exact(new b u (WQ hb) e).1
 exact g
def ov:List Addr->List (List Int)->Hp->Hp
 | a :: as,r :: rs,H=>upd (ov as rs H) a (.tup (r.map V.int))
 | _,_,H=>H
theorem Bm {b:Addr}{H:Hp}:∀{c:List Addr} {d:List (List Int)},b∉c->ov c d H b=H b
 | [],_,_=>rfl
 | a :: c,[],_=>rfl
 | a :: c,r :: d,h=>by
  have h1:b≠a:=λz=>h (by simp[z]);have h2:b∉c:=λz=>h (by simp[z]);show upd _ _ _ b=_;rw[aC h1,Bm h2]
theorem El {H:Hp}:∀{c:List Addr} {d:List (List Int)} {j:Nat} {a:Addr} {r:List Int},c.Nodup->c[j]? = some a->d[j]? = some r->ov c d H a=some (.tup (r.map V.int))
 | [],_,_,_,_,_,e,_=>by simp at e
 | a :: c,[],_,_,_,_,_,e=>by simp at e
 | a :: c,r :: d,0,_,_,_,e,e'=>by simp at e e';subst e e';exact bi
 | a :: c,r :: d,j + 1,b,q,nd,e,e'=>by
  obtain⟨n1,n2⟩:=List.nodup_cons.mp nd;have e:c[j]? = some b:=by simpa using e
  have f:b≠a:=λz=>n1 (by rw[<-z];exact ZK e);show upd _ _ _ b=_;rw[aC f];exact El n2 e (by simpa using e')
theorem dA.mono {H H':Hp}(k:∀a xs,H a=some (.tup xs)->H' a=some (.tup xs)):∀{b:List V} {c:List (List Int)},dA H b c->dA H' b c
 | _,_,.nil=>.nil
 | _,_,.cons h t=>.cons (k _ _ h) (dA.mono k t)
theorem Bn {H':Hp}:∀{c:List Addr} {d:List (List Int)},c.length=d.length->(∀(j:Nat) a r,c[j]? = some a->d[j]? = some r->H' a=some (.tup (r.map V.int)))->dA H' (c.map V.ref) d
 | [],[],_,_=>.nil
 | [],_ :: _,h,_=>by simp at h
 | _ :: _,[],h,_=>by simp at h
 | a :: c,r :: d,h,f=>.cons (f 0 a r rfl rfl) (Bn (by simpa using h) λj b q e g=>f (j + 1) b q (by simpa using e) (by simpa using g))
def Jz:List V->Hp->VK->Prop:=λxs H Q=>∃(p a:Addr) (ps:List (Int × Int)),xs=[.ref p]/\H p=some (.ext (vI p a))/\H a=some (.dK (ps.map λq=>((Sum.inl q.1:Key),V.int q.2)))/\ps.length < 64/\(ps.map λq=>[q.1,q.2]).Nodup/\
 ∀H' q vs',kZ H H'->H q=none->H' q=some (.lst vs')->dA H' vs' (dD (ps.map λq=>[q.1,q.2]))->Q (.ref q) H'
theorem Lf {κ : Type}{kvs:List (κ × V)}{vs:List (κ × T0)}(r:KV kvs vs):∀{j:Nat} {k : κ} {x:T0} {a : κ} {v:V},vs[j]? = some (k,x)->kvs[j]? = some (a,v)->a=k/\bJ v x:=by
 induction r with
 | nil=>intro j k x a v e;simp at e
 | cons h t ih =>
  intro j k x a v e b;cases j with
  | zero=>simp at e b;subst e b;exact h
  | succ j=>exact ih (by simpa using e) (by simpa using b)
theorem zz (hc:X.calm=true):fO X (.builtin "sorted") Jz:=by
 intro pins s σ H xs us Q I r h;obtain⟨p,a,ps,rfl,hp,ha,L,nd,q⟩:=h;obtain⟨u,rfl,ru⟩:=aY.one r;cases (show u=Value.ref p from ru);obtain⟨f,l⟩ : ∃f,f=ps.map λq=>[q.1,q.2]:=⟨_,rfl⟩;rw[<-l]at nd q;have C:vI p a s.heap:=(I.hok p _ hp).1;obtain⟨hz,_,O,E,dd⟩:=Ed I.hok ha;have F:O.length=ps.length:=by rw[<-E.length];simp
 obtain⟨o,es,ep,d1,d2⟩:=id dd;have P:s.heap.DictAt (dB X.prog X.w) a O ep:=⟨o,es,d1,d2⟩;refine WS kind_sorted plain_sorted entry_sorted (args_sorted1 _) ?_;unfold Builtin.«sorted»;refine z0 (m:=checkCount "sorted" 1 1 _) (z3 ?_);refine z0 (kdx_collect (A:=X.A.in1) (knd:=dB X.prog X.w) (kvs:=O) (ep:=ep) (I.ok.hd hc) ⟨_,C,rfl,rfl⟩ P (by rw[F,wH];omega) λg tk d hk G K => ?_);have v:d.Nodup:=K.rise.imp λh=>ZN h;have Z:d.length=f.length:=by rw[G,F,l];simp
 have i:∀b∈d,s.heap.objs.size<=b:=λb w=>YI (K.above b w);have J:kZ H (ov d f H):=λb u e=>by
  rw[Bm]
  ·exact e
  ·intro z
   exact absurd (I.hok.lt e) (Nat.not_lt.mpr (i b z))
 have N:Inv X pins σ (ov d f H) { s with heap:=g,toks:=tk }:=by
  refine Ek I hk J (λb w=>Bm λz=>absurd w (Nat.not_lt.mpr (i b z))) λb u w e => ?_
  by_cases hm:b∈d
  ·obtain⟨j,T⟩:=List.getElem?_of_mem hm
   have a0:j < d.length:=(List.getElem?_eq_some_iff.mp T).1;obtain⟨R,k,x,e1,e2,e3⟩:=K.pairs j b T;obtain⟨n,D⟩ : ∃n,ps[j]? = some n:=⟨ps[j]'(by omega),by simp[show j < ps.length by omega]⟩;have hr:f[j]? = some [n.1,n.2]:=by rw[l,ZQ,D];rfl
   rw[El v T hr]at e;cases e;refine⟨?_,λc z=>by cases z⟩;obtain⟨M,rx⟩:=Lf E e1 (show (ps.map λq=>((Sum.inl q.1:Key),V.int q.2))[j]? = some (Sum.inl n.1,V.int n.2) by rw[ZQ,D];rfl);obtain⟨t,rfl⟩:=Bg rx;subst M;have:∃t',R=Value.int n.1 t':=W6 e2;obtain⟨t',rfl⟩:=this;exact⟨by simp[wH],[_,_],.cons ⟨t',rfl⟩ (.cons ⟨t,rfl⟩ .nil),_,e3,rfl,_,rfl⟩
  ·rw[Bm hm]at e
   exact absurd (I.hok.lt e) (Nat.not_lt.mpr w)
 refine z0 (WX ?_ (by rw[ZA,G,F,wH];omega));have U:aY (d.map V.ref) (d.map Value.ref):=by
  clear G K v Z i J N q
  induction d with
  | nil=>exact .nil
  | cons a d ih=>exact .cons rfl ih
 have I2:Inv X pins σ (upd (ov d f H) g.objs.size (.lst (d.map V.ref))) { s with heap:=g.push { cls:=.type "list",data:=.seq (d.map Value.ref).toArray },toks:=tk }:=N.lnew (t':=tk) U (by rw[ZA,G,F,wH];omega);have fr:ov d f H g.objs.size=none:=N.hok.fresh (ZL _);have Y:kZ (ov d f H) (upd (ov d f H) g.objs.size (.lst (d.map V.ref))):=cy fr;have B:dA (upd (ov d f H) g.objs.size (.lst (d.map V.ref))) (d.map V.ref) f:=Bn Z λj b r e e'=>Y _ _ (El v e e');have W:(f.all λx => !x.isEmpty)=true:=by rw[l,List.all_map,List.all_eq_true];intro q _;rfl
 refine z0 (YC (Jx (A:=X.A.in1) I2 bi (by rw[ZA,G,F];exact L) B nd W λy s' S I3=>z3 ⟨_,rfl,?_⟩));have uu:upd (upd (ov d f H) g.objs.size (.lst (d.map V.ref))) g.objs.size (.lst y)=upd (ov d f H) g.objs.size (.lst y):=by
  funext b
  by_cases z:b=g.objs.size
  ·subst z;rw[bi,bi]
  ·rw[aC z,aC z,aC z]
 rw[uu]at I3;refine⟨.ref g.objs.size,_,I3,rfl,q _ _ y (λb u e=>cy fr _ _ (J _ _ e)) ?_ bi ?_⟩
 ·cases e:H g.objs.size with
  | none=>rfl
  | some u=>rw[J _ _ e]at fr;cases fr
 ·refine S.mono λb ys e => ?_
  have w:b≠g.objs.size:=λz=>by subst z;rw[bi]at e;cases e
  rw[aC w]at e ⊢;exact e
theorem p9:∀{l:List (Int × D)} {r:List (List Int)},fv l=some r->∃ps:List (Int × Int),l=ps.map (λq=>(q.1,D.int q.2))/\r=ps.map λq=>[q.1,q.2]
 | [],r,e=>by simp only[fv]at e;cases e;exact⟨[],rfl,rfl⟩
 | (k,d) :: l,r,e=>by
  cases d<;>simp only[fv]at e<;>try (cases e;done)
  rename_i v
  cases c:fv l with
  | none=>rw[c]at e;cases e
  | some r' =>
   rw[c]at e;cases e;obtain⟨ps,rfl,rfl⟩:=p9 c;exact⟨(k,v) :: ps,rfl,rfl⟩
theorem Em {K:ZX}{ρ:List Addr}{H:Hp}:∀{ps:List (Int × Int)} {a:List (Key × V)},a.map (·.1)=(ps.map λq=>(q.1,D.int q.2)).map (λp=>(Sum.inl p.1:Key))->RDs K ρ H ((ps.map λq=>(q.1,D.int q.2)).map (·.2)) (a.map (·.2))->a=ps.map λq=>((Sum.inl q.1:Key),V.int q.2)
 | [],[],_,_=>rfl
 | [],_ :: _,h,_=>by simp at h
 | _ :: _,[],h,_=>by simp at h
 | (j,d) :: ps,(kk,v) :: a,h1,h2=>by
  simp only[yP,Y4]at h1;simp only[yP,RDs]at h2;obtain⟨g,f,e,q1,q2⟩:=h2;cases e;obtain⟨c,b⟩:=h1;subst c;simp only[RD]at q1;subst q1;rw[Em b q2];rfl
theorem Eo {o:Expr} {s:EF} {apos g:Pos} (hc:X.calm=true) (R:Gl X "sorted") (hm:X.mg "sorted" = none) (K:ME X o s)
  (B:starEach [.Call (.Attribute o "items" apos) [] [] g] X.env=(false,eval (.Call (.Attribute o "items" apos) [] [] g) X.env) :: starEach [] X.env:=by rfl)
  (k:attributeBase o "items" X.env (eval o X.env)=eval o X.env:=by rfl) (j:(apos.endLine == g.line)=true:=by rfl) :
  MF X (.Call (.Name "sorted" p) [.Call (.Attribute o "items" apos) [] [] g] [] pos) (oT s):=by
 refine PE.imp (iA (zz hc) R hm (by decide +kernel) (cP (Ej K k j) em B) (he:=B)) λσ H Q ⟨ρ,σd,hd,O,f⟩=>⟨ρ,σd,hd,O,?_⟩;unfold oT at f;cases e:s σd hd with
 | exc x h'=>rw[e]at f;exact f
 | bad=>rw[e]at f;exact f
 | ok d hd1 =>
  rw[e]at f;simp only[aW]at f;intro v H1 y F i D;cases d<;>try exact f.elim
  rename_i n
  simp only at f;simp only[rD,RD]at D;obtain⟨a,M,rfl⟩:=D;cases c:hd1[n]? with
  | none=>rw[c]at f;exact f.elim
  | some cell =>
   rw[c]at f;cases cell with
   | lst l=>exact f.elim
   | dcT _=>exact f.elim
   | dct l =>
    simp only at f;cases c2:fv l with
    | none=>rw[c2]at f;exact f.elim
    | some r =>
     rw[c2]at f;simp only at f;split at f
     ·rename_i hz
      obtain⟨ps,rfl,rfl⟩:=p9 c2;obtain⟨J,q1,q2,q3⟩:=i.hp.cel n _ a c M;have P:=Em q2 q3;subst P;refine⟨a,_,rfl,q1,λq C=>⟨q,a,ps,rfl,bi,by rw[aC (bm q1 C)];exact q1,by simpa using hz.1,hz.2,λH' G w L h t A => ?_⟩⟩;have m:kZ H1 H':=λb u I=>L _ _ (cy C _ _ I);have N:G≠q:=λz=>by subst z;rw[bi]at h;cases h
      rw[aC N]at h;have E:=i.hp.free h;exact f G w H' y (F.trans (Ext.same m)) (i.same m) (F.fresh h E) t E A.rds
     ·exact f.elim
end
end Fm
namespace Fm
@[simp] def rn (la:LF) (b:EF):LF:=λσ h=>(la σ h).bind λl h=>(b σ h).bind λy h=>match y with
 | .int n=>if 0<=n/\n<=1000/\l.length * n.toNat<=1000 then .ok (List.replicate n.toNat l).flatten h else .bad
 | _=>.bad
@[simp] def Mn (x i e:EF):EF:=λσ h=>(x σ h).bind λp h=>match p with
 | .ref n=>match h[n]? with
  | some (.lst _)=>(i σ h).bind λj h=>(e σ h).bind λd h=>match j with
   | .int k=>match h[n]? with
    | some (.lst l)=>if 0<=k/\k<=l.length/\l.length < SZ then .ok .non (h.set n (.lst (l.take k.toNat++[d]++l.drop k.toNat))) else .bad
    | _=>.bad
   | _=>.bad
  | _=>.bad
 | _=>.bad
@[simp] def zA (a b:EF):EF:=λσ h=>(a σ h).bind λx h=>(b σ h).bind λy h=>match x,y with
 | .int i,.int j=>.ok (.int (if j > i then j else i)) h
 | _,_=>.bad
@[simp] def dJ (a b:EF):LF:=λσ h=>(a σ h).bind λx h=>(b σ h).bind λy h=>match x,y with
 | .ref n,.ref m=>match h[n]?,h[m]? with
  | some (.lst l),some (.lst k)=>if l.length + k.length<=SZ then .ok (l++k) h else .bad
  | _,_=>.bad
 | _,_=>.bad
end Fm
namespace Fm
open PySem PySem.Spec L2 PySem.W PyProof.Rows
section
variable {X:Cx} {pos p:Pos}
theorem oU {K:ZX}{ρ:List Addr}{H:Hp}:∀{l:List D} {a:List V} {bs:List Bool},RDs K ρ H l a->fP l=some bs->a=bs.map V.bl
 | [],_,is,r,e=>by simp only[fP]at e;cases e;simp only[RDs]at r;subst r;rfl
 | d :: l,_,is,r,e=>by
  simp only[RDs]at r;obtain⟨v,a,rfl,h1,h2⟩:=r;cases d<;>simp only[fP]at e<;>try (cases e;done)
  rename_i i
  cases c:fP l with
  | none=>rw[c]at e;cases e
  | some js =>
   rw[c]at e;cases e;simp only[RD]at h1;rw[h1,oU h2 c];rfl
theorem xB {bs:List Bool}{a:List T0}(r:aY (bs.map V.bl) a):∀(i:Nat) (v:T0),a.toArray[i]? = some v->v=.bool (bs.getD i false):=by
 intro i v e;have b:a[i]? = some v:=by simpa using e
 have hi:i < bs.length:=by
  have:=(List.getElem?_eq_some_iff.mp b).1;have:=r.length;simp at this;omega
 obtain⟨u,d,c⟩:=r.get (i:=i) (x:=V.bl bs[i]) (by simp[hi]);rw[d]at b;cases b;rw[show v=Value.bool bs[i] from c];simp[List.getD,hi]
theorem Ep (bs:List Bool):(List.range bs.length).all (λi=>bs.getD i false)=bs.all id:=by
 have:bs=(List.range bs.length).map λi=>bs.getD i false:=by
  apply Z0;intro i
  by_cases hi:i < bs.length<;>simp[List.getD,hi]
 conv=>rhs;rw[this]
 rw[List.all_map];rfl
theorem Cr (hc:X.calm=true):fO X (.builtin "all") (λxs H Q=>∃(p:Addr) (bs:List Bool),xs=[.ref p]/\(SqL X.K H p (bs.map V.bl)\/SqT X.K H p (bs.map V.bl))/\Q (.bl (bs.all id)) H):=by
 intro pins s σ H xs D Q I r q;obtain⟨p,bs,rfl,j,q⟩:=q;obtain⟨u,rfl,y⟩:=aY.one r;cases (show u=Value.ref p from y);have t:(X.A.in1).handled=none:=I.ok.hd hc;have x:∀(a:List T0),aY (bs.map V.bl) a->TruthOf X.prog X.w X.A.in1 (λi v=>a.toArray[i]? = some v) (λi=>bs.getD i false):=λa g i v s Q E B z=>by
  rw[xB g i v B];exact YU z
 have l:∀{w:Obj} {h:Heap} {tk:Nat} {n:Nat},n=bs.length->(∀b o,b∉[s.heap.objs.size]->(s.heap.push w).get? b=some o->h.get? b=some o)->EP X pins σ Q (.bool ((List.range n).all λi=>bs.getD i false)) { s with heap:=h,toks:=tk }:=by
  intro w h tk n A k;subst A;refine⟨.bl (bs.all id),H,I.kept (t':=tk) λb o e=>k b o (by simp;exact ZN (ZI e)) (ZH _ e),by rw[Ep];rfl,q⟩
 rcases j with j|j
 ·obtain⟨a,g,m,C⟩:=I.list j
  have c:s.heap.IsList p a.toArray:=m.isList;have d:p < s.heap.objs.size:=by obtain⟨o,f,_⟩:=c;exact ZI f
  refine PySem.call_all_walk (PySem.wpAny_pyIter_list c ?_);refine⟨s.heap.objs.size,_,[s.heap.objs.size],_,_,_,λi=>bs.getD i false,rfl,PySem.Walks.list t s.heap.objs.size p (ZN d) a.toArray,⟨⟨_,ZJ _ rfl,rfl,rfl⟩,?_⟩,x a g,?_⟩
  ·obtain⟨o,f,r⟩:=c;exact⟨o,ZH _ f,r⟩
  ·exact λh tk k=>l (by simpa using g.length.symm) k
 ·obtain⟨a,g,m,C⟩:=I.tuple j
  have c:s.heap.IsTuple p a.toArray:=m;have d:p < s.heap.objs.size:=by obtain⟨o,f,_⟩:=c;exact ZI f
  refine PySem.call_all_walk (WU c ?_);refine⟨s.heap.objs.size,_,[s.heap.objs.size],_,_,_,λi=>bs.getD i false,rfl,PySem.Walks.tuple t s.heap.objs.size p (ZN d) a.toArray,⟨⟨_,ZJ _ rfl,rfl,rfl⟩,?_⟩,x a g,?_⟩
  ·obtain⟨o,f,r⟩:=c;exact⟨o,ZH _ f,r⟩
  ·exact λh tk k=>l (by simpa using g.length.symm) k
theorem vJ {a:Expr} {f:LF} (hc:X.calm=true) (m:Gl X "all") (hm:X.mg "all" = none) (i:MQ X a f) (d:starEach [a] X.env=(false,eval a X.env) :: starEach [] X.env:=by rfl):ME X (.Call (.Name "all" p) [a] [] pos) (xg f):=by
 refine qW (g:=λl h=>match fP l with|some bs=>.ok (.bl (bs.all id)) h|none=>.bad) (Bc (Cr hc) m hm (by decide +kernel) (he:=d)) i (λρ H σd hd σ l q n Q k j b p => ?_) d;cases c:fP l with
 | none=>simp only[c]at p;exact p.elim
 | some is =>
  simp only[c]at p;have e:=oU b c;subst e;exact⟨q,is,rfl,j.imp id SqT.of,p.here k (by simp only[rD,RD])⟩
theorem Er {a b:Expr}{i:LF}{o:EF}(A:MF X a i)(F:ME X b o):MF X (.BinOp a .Mult b pos) (rn i o):=by
 refine PE.imp (DK IY A F) λσ H Q ⟨ρ,σd,hd,D,c⟩=>⟨ρ,σd,hd,D,?_⟩;unfold rn at c;cases e:i σd hd with
 | exc x h'=>rw[e]at c;exact c
 | bad=>rw[e]at c;exact c
 | ok l hd1 =>
  rw[e]at c;simp only[aW]at c;intro q t H1 j E f z u C g;refine⟨j,σd,hd1,f,?_⟩;cases e2:o σd hd1 with
  | exc x h'=>rw[e2]at c;exact c
  | bad=>rw[e2]at c;exact c
  | ok y hd2 =>
   rw[e2]at c;simp only[aW]at c;intro v G B d k s;cases y<;>try exact c.elim
   rename_i n
   simp only at c;split at c
   ·rename_i hz
    simp only[rD,RD]at s;subst s;have r:G q=some (.lst t):=d.frame q _ u C;have h:=g.mono (f.hp.kp d);refine⟨q,n,t,rfl,rfl,r,by omega,by omega,by rw[<-g.length,wH];omega,λw m => ?_⟩;exact xh.mk c (E.trans d) k (RDs.rep h n.toNat) w m
   ·exact c.elim
theorem JA {a b:Expr} {fa n:EF} (hc:X.calm=true) (y:Gl X "max") (hm:X.mg "max" = none) (q:ME X a fa) (u:ME X b n) (j:starEach [a,b] X.env=(false,eval a X.env) :: starEach [b] X.env:=by rfl) (g:starEach [b] X.env=(false,eval b X.env) :: starEach [] X.env:=by rfl) (hpl:(backTo pos (starEach [b] X.env)).any (λx=>x.1)=false:=by rfl):ME X (.Call (.Name "max" p) [a,b] [] pos) (zA fa n):=by
 refine PE.imp (iA (Cc hc) y hm (by decide +kernel) (cP q (cP u em g) j) (he:=j) (hpl:=hpl)) λσ H Q ⟨ρ,σd,hd,t,l⟩=>⟨ρ,σd,hd,t,?_⟩;unfold zA at l;refine(bZ.bind (R:=rD X.K) l).imp λv H1 ⟨f,d,i,A,e,m,o⟩ => ?_;refine⟨f,σd,i,e,(bZ.bind (R:=rD X.K) o).imp λw B ⟨r,k,s,z,h,c,p2⟩ => ?_⟩;cases d<;>try exact p2.elim
 cases k<;>try exact p2.elim
 simp only[rD,RD]at m c;subst m c;exact⟨_,_,rfl,p2.here h (by simp only[rD,RD])⟩
theorem ke {a b:Expr}{fa z:EF}(I:ME X a fa)(M:ME X b z):MF X (.BinOp a .Add b pos) (dJ fa z):=by
 refine PE.imp (DK IX I M) λσ H Q ⟨ρ,σd,hd,K,c⟩=>⟨ρ,σd,hd,K,?_⟩;unfold dJ at c;cases e:fa σd hd with
 | exc x h'=>rw[e]at c;exact c
 | bad=>rw[e]at c;exact c
 | ok d hd1 =>
  rw[e]at c;simp only[aW]at c;intro v H1 t L r E;refine⟨t,σd,hd1,r,?_⟩;cases e2:z σd hd1 with
  | exc x h'=>rw[e2]at c;exact c
  | bad=>rw[e2]at c;exact c
  | ok k hd2 =>
   rw[e2]at c;simp only[aW]at c;intro w N J i h j;cases d with
   | ref n =>
    cases k with
    | ref m =>
     simp only at c;simp only[rD,RD]at E j;obtain⟨F,u,rfl⟩:=E;obtain⟨D,s,rfl⟩:=j;have B:=i.get u;cases c1:hd2[n]? with
     | none=>rw[c1]at c;exact c.elim
     | some x1 =>
      cases c2:hd2[m]? with
      | none=>rw[c1,c2]at c;cases x1<;>exact c.elim
      | some x2 =>
       rw[c1,c2]at c;cases x1 with
       | dct _=>exact c.elim
       | dcT _=>exact c.elim
       | lst l =>
        cases x2 with
        | dct _=>exact c.elim
        | dcT _=>exact c.elim
        | lst k =>
         simp only at c;split at c
         ·rename_i hz
          obtain⟨o,q,f⟩:=h.hp.cel n _ F c1 B;obtain⟨C,A,g⟩:=h.hp.cel m _ D c2 s;refine⟨F,D,o,C,rfl,rfl,q,A,by rw[<-f.length,<-g.length];exact qz hz,λG y => ?_⟩;exact xh.mk c (L.trans i) h (RDs.append f g) G y
         ·exact c.elim
    | _=>exact c.elim
   | _=>exact c.elim
end
end Fm
namespace Fm
section
open Classical
def rq (G:Hd->Prop) (tg:GF) (b:SF):List D->SF
 | [],σ,h=>if G h then .nx σ h else .bad
 | x :: xs,σ,h=>if G h then match tg x σ with
   | some σ=>match b σ h with
    | .nx σ h=>rq G tg b xs σ h
    | .ct σ h=>rq G tg b xs σ h
    | .bk σ h=>.nx σ h
    | r=>r
   | none=>.bad
  else .bad
def fw (l:List D):List D:=(List.range l.length).zip l |>.map λp=>.tup [.int (p.1:Nat),p.2]
end
theorem mf {G:Hd->Prop}{tg:GF}{b:SF}(P:Nat->Sd->Hd->Prop)(j:∀i σ h,P i σ h->G h) :
  ∀{xs:List D} {k:Nat} {σ:Sd} {h:Hd},(∀(i:Nat) x σ h,xs[i]? = some x->P (k + i) σ h->∃a,tg x σ = some a/\∃c d,b a h=.nx c d/\P (k + i + 1) c d)->P k σ h->
   ∃a m,rq G tg b xs σ h=.nx a m/\P (k + xs.length) a m
 | [],k,σ,h,_,p=>⟨σ,h,by simp[rq,j _ _ _ p],by simpa using p⟩
 | x :: xs,k,σ,h,st,p=>by
  obtain⟨a,h1,s,h2,u,n⟩:=st 0 x σ h (by simp) (by simpa using p);have l:∀(i:Nat) y σ h,xs[i]? = some y->P (k + 1 + i) σ h->∃a,tg y σ = some a/\∃c d,b a h=.nx c d/\P (k + 1 + i + 1) c d:=λi y σ h e q=>by
   have g:k + 1 + i=k + (i + 1):=by omega
   rw[g]at q ⊢;exact st (i + 1) y σ h (by simpa using e) q
  obtain⟨f,t,r,o⟩:=mf P j l (by simpa using n);refine⟨f,t,?_,?_⟩
  ·simp[rq,j _ _ _ p,h1,u,r]
  ·have g:k + (x :: xs).length=k + 1 + xs.length:=by simp;omega
   rw[g];exact o
end Fm
namespace Fm
open PySem PySem.Spec L2
open PyProof.Rows (Call_)
section
variable {prog:T6} {w:T7} {A:T5} {E:T0->T4->Prop} {s:T4} {z TI TO i1 i2 l1 l2:Addr} {k:Nat} {xs ys:Array T0} {a b:T0}
end
section
variable {prog:T6} {w:T7} {A:T5} {E:T0->T4->Prop} {s:T4}
end
theorem GI {X:Cx}{pins:List (Addr × Obj)}{σ:St}{H:Hp}{s:T4}{h':Heap}{t':Nat}{ch:List Addr}(I:L2.Inv X pins σ H s)(k:∀b o,b∉ch->s.heap.get? b=some o->h'.get? b=some o)(a:∀b∈ch,qK X pins H b) :
  L2.Inv X pins σ H { s with heap:=h',toks:=t' }:=by
 have d:∀b u,H b=some u->b∉ch:=λb u e z=>by rw[(a b z).1]at e;cases e
 refine I.step (g':=s.gens) (d':=s.drawn) (ch:=ch) (λb f=>⟨(a b f).2.2.2.1,(a b f).2.1,(a b f).2.2.2.2.1,(a b f).2.2.2.2.2⟩) (λb o _ _ hc e _=>k b o hc e) (λb o _ _ hc e _=>⟨o.slots,k b o hc e⟩) (λ_ _ _ _ n=>n)
  (λb o hc e=>⟨o,k b o hc e⟩) (λ_ _ e=>e) (λ_ _ _ e=>e) (λb ps e=>⟨#[],by rw[e];simp⟩) (λm g => ?_) (λb u e => ?_) I.bare
 ·obtain⟨o,es,ep,h,r⟩:=g
  exact⟨o,es,ep,k _ o (λz=>(a _ z).2.1 rfl) h,r⟩
 ·refine(I.hok b u e).stay (λc v hc q=>k c v ?_ q) (λ_ q=>q) λ_ _ q=>q
  rcases hc with z|z
  ·rw[z];exact d b u e
  ·exact d c _ z
section
variable {X:Cx} {pos p tp:Pos} {elts:List Expr} {tk:Nat}
end
end Fm
namespace Fm
open PySem PySem.Spec L2 PySem.W PyProof.Rows
section
variable {X:Cx} {pos p:Pos}
end
section
variable {prog:T6} {w:T7} {A:T5} {E:T0->T4->Prop} {s:T4}
end
section
variable {X:Cx} {pos p:Pos}
end
end Fm
namespace Fm
open PySem PySem.Spec L2
open AutoSeq1 (wpAny_loadPart')
open PyProof.Rows (Call_)
def ItL (K:ZX) (a:Addr):It :=
 ⟨λi H=>∃xs x,SqL K H a xs/\xs[i]? = some x,λi H x H'=>∃q v,x=.ref q/\H q=none/\H'=upd H q (.tup [.int (i:Nat),v])/\∀xs,SqL K H a xs->xs[i]? = some v,λi H=>∃xs,SqL K H a xs/\xs.length=i⟩
theorem zB {P:T6}{w:T7}{K:ZX}{elts:List Expr}{k:Nat}{pos:Pos}(e it a:Addr):xb P w K (.Tuple elts k pos) (ItL K a) [e,it] e (λi h=>(∃g,IsEnum h e it (i:Nat) g)/\h.IsListIter it a i) where
 mem:=by simp
 obj:=λi h st b d=>by
  obtain⟨⟨g,B⟩,o,ho,hc,hd⟩:=st;rcases Y6.mp d with rfl|d
  ·exact⟨_,B,λv z=>by
    have z':Data.fields _=Data.cell v:=z;cases z'⟩
  ·have:b=it:=by simpa using d
   subst this;exact⟨o,ho,λv z=>by rw[hd]at z;cases z⟩
 keep:=λi h h' st kk=>by
  obtain⟨⟨g,B⟩,st⟩:=st;exact⟨⟨g,kk e (by simp) _ B⟩,st.at λo x=>kk it (by simp) o x⟩
 item:=by
  intro X hP hw hK hc i pins s σ H E I S st hg;subst hP hw hK;obtain⟨⟨g,B⟩,C⟩:=st;obtain⟨xs,x,hq,hx⟩:=hg;obtain⟨f,rv,p,hz⟩:=I.list hq;have W:s.heap.IsList a f.toArray:=p.isList;obtain⟨oi,D,J,a3⟩:=id C;obtain⟨oa,j,t,na,a7⟩:=id W;have N:e≠it:=λz=>by
   subst z;have F:s.heap.get? e=_:=B;rw[D]at F;cases F;exact xo J (by decide)
  have a8:e≠a:=λz=>by
   subst z;have F:s.heap.get? e=_:=B;rw[j]at F;cases F;exact xo t (by decide)
  have M:a≠it:=λz=>by
   subst z;rw[D]at j;cases j;rw[J]at t;exact xo t (by decide)
  obtain⟨e0,e1,e2,e3,e4,e5⟩:=S e (by simp);obtain⟨f0,Z,f2,f3,f4,f5⟩:=S it (by simp);have a6:i < f.toArray.size:=by
   have:=(List.getElem?_eq_some_iff.mp hx).1;have hl:=rv.length;simp;omega
  refine wpAny_pyNext_enum_itemD (Draws.list (prog:=X.prog) (w:=X.w) (A:=X.A.in1) (I.ok.hd hc) it a M f.toArray) B ⟨C,W⟩ a6 N (by simp;exact⟨N,a8⟩) λy h' tk hy a9 Y T U hk => ?_;refine⟨_,rfl,wpAny_letOwnedTupleGo_enum a9 λh2 b0 G => ?_⟩;replace G:Heap.SameBut e h' h2:=G;obtain⟨u,hu,ru⟩:=rv.get hx;have a4:y=u:=by
   have:f.toArray[i]? = some u:=by simpa using hu
   rw[hy]at this;exact ZT this
  subst a4;have R:e < s.heap.objs.size:=ZI B;have a0:it < s.heap.objs.size:=ZI D;have O:H s.heap.objs.size=none:=I.hok.fresh (ZL _);have keep:∀b o,b≠e->b≠it->s.heap.get? b=some o->h2.get? b=some o:=λb o b1 b2 q=>(G.2 b b1).trans (hk b o b1 b2 q);have L:h2.get? s.heap.objs.size=some { cls:=.type "tuple",data:=.seq #[.int i tk,y] }:=(G.2 _ (x6 R)).trans T;have l:∀b,b∉([e,it] : List Addr)->b≠e/\b≠it:=λb d=>by simpa using d
  refine⟨.ref s.heap.objs.size,upd H s.heap.objs.size (.tup [.int (i:Nat),x]),?_,rfl,⟨_,x,rfl,O,rfl,λys a5=>by rw[I.list_inj a5 hq];exact hx⟩,⟨⟨_,by simpa using b0⟩,Y.1.extBut G.extBut (YT N)⟩,λb d => ?_⟩
  ·suffices I2:L2.Inv X pins σ (upd H s.heap.objs.size (.tup [.int (i:Nat),x])) { s with heap:=h2,gens:=s.gens,drawn:=s.drawn,toks:=tk + 1 } from I2
   refine I.step (g':=s.gens) (d':=s.drawn) (t':=tk + 1) (ch:=[e,it]) (λb d => ?_) (λb o _ _ d q _=>keep b o (l b d).1 (l b d).2 q) (λb o _ _ d q _=>⟨o.slots,keep b o (l b d).1 (l b d).2 q⟩) (λb o _ q n => ?_) (λb o d q=>⟨o,keep b o (l b d).1 (l b d).2 q⟩)
    (λb ys q => ?_) (λb o u q => ?_) (λb ps q=>⟨#[],?_⟩) (λm hm => ?_) (λb u q => ?_) I.bare
   ·rcases Y6.mp d with rfl|d
    ·exact⟨e3,e1,e4,e5⟩
    ·have:b=it:=by simpa using d
     subst this;exact⟨f3,Z,f4,f5⟩
   ·rw[aC (ZN (ZI q))];exact n
   ·rw[aC (bm q O)];exact q
   ·rw[aC (bm q O)];exact q
   ·rw[aC (bm q O),q];simp
   ·obtain⟨o,es,ep,ho,r⟩:=hm
    exact⟨o,es,ep,keep _ o (YT e1) (YT Z) ho,r⟩
   ·by_cases d:b=s.heap.objs.size
    ·subst d
     rw[bi]at q;cases q;exact⟨by show 2<=sizeLine;rw[wH];decide,[.int i tk,y],.cons ⟨tk,rfl⟩ (.cons ru .nil),_,L,rfl,_,rfl⟩
    ·rw[aC d]at q
     have V:∀c v,H c=some v->c≠e:=λc v z w=>by rw[w,e0]at z;cases z
     have Q:∀c v,H c=some v->c≠it:=λc v z w=>by rw[w,f0]at z;cases z
     refine(I.hok b u q).stay (λc v a2 z => ?_) (λc z=>by rw[aC (bm z O)];exact z) λc ys z=>by rw[aC (bm z O)];exact z
     rcases a2 with w|w
     ·subst w;exact keep c v (V c _ q) (Q c _ q) z
     ·exact keep c v (V c _ w) (Q c _ w) z
  ·have:b≠s.heap.objs.size:=by
    rcases Y6.mp d with rfl|d
    ·exact ZN R
    ·have:b=it:=by simpa using d
     subst this;exact ZN a0
   rw[aC this];exact(S b d).1
 done:=by
  intro X hP hw hK hc i pins s σ H E I S st hg;subst hP hw hK;obtain⟨⟨g,B⟩,C⟩:=st;obtain⟨xs,hq,hx⟩:=hg;obtain⟨f,rv,p,hz⟩:=I.list hq;have W:s.heap.IsList a f.toArray:=p.isList;obtain⟨oi,D,J,a3⟩:=id C;obtain⟨oa,j,t,na,a7⟩:=id W;have M:a≠it:=λz=>by
   subst z;rw[D]at j;cases j;rw[J]at t;exact xo t (by decide)
  obtain⟨f0,Z,f2,f3,f4,f5⟩:=S it (by simp);have U:f.toArray.size=i:=by have:=rv.length;simp;omega
  refine wpAny_pyNext_enum_endD (Draws.list (prog:=X.prog) (w:=X.w) (A:=X.A.in1) (I.ok.hd hc) it a M f.toArray) B ⟨by rw[U];exact C,W⟩ λh' a1=>⟨rfl,I.turned (t':=s.toks) (λb o d e=>a1 b o d e) f0 Z f3 f4 f5⟩
 self:=λ_ _ _ _ _ st h=>by
  obtain⟨⟨g,B⟩,_⟩:=st;exact W9 B h
section
variable {X:Cx} {pos p tp:Pos} {elts:List Expr} {tk:Nat}
def Mo (K:ZX) (ta:TE):TI:=λσ H R=>ta σ H λx H1=>∃a xs,x=.ref a/\SqL K H1 a xs/\(xs.length<=sizeLine->R (ItL K a) H1)
theorem Es {a:Expr} {ta:TE} (D:Gl X "enumerate") (hm:X.mg "enumerate" = none) (A:PE X a ta) (n:starEach [a] X.env=[(false,eval a X.env)]:=by rfl):PI X (.Tuple elts tk tp) (.Call (.Name "enumerate" p) [a] [] pos) (Mo X.K ta):=by
 intro pins s σ H R I h;have i:=cP A em n;refine Call_ (jY I D hm PyProof.Rows.boot_enumerate (YS (thn (i pos pins s σ H (λr H1=>∃a xs,r=[.ref a]/\SqL X.K H1 a xs/\(xs.length<=sizeLine->R (ItL X.K a) H1)) I ?_) λF c ⟨r,H1,g,y,q1⟩ => ?_) n rfl))
 ·show ta σ H λx H1=>_
  have j:∀(x:V) (H1:Hp),(∃a xs,x=.ref a/\SqL X.K H1 a xs/\(xs.length<=sizeLine->R (ItL X.K a) H1))=(∃a xs,[x] = [.ref a]/\SqL X.K H1 a xs/\(xs.length<=sizeLine->R (ItL X.K a) H1)):=λx H1=>by simp
  have d:ta σ H λx H1=>∃a xs,x=.ref a/\SqL X.K H1 a xs/\(xs.length<=sizeLine->R (ItL X.K a) H1):=h;simp only[j]at d;exact d
 ·obtain⟨a,xs,e,v,q⟩:=q1
  subst e;obtain⟨u,rfl,w⟩:=aY.one y;cases (show u=Value.ref a from w);obtain⟨m,G,t,E⟩:=g.list v;refine call_enumerate_list (show c.heap.IsList a m.toArray from t.isList) λd o k B C => ?_;refine W9 (s:={ c with heap:=d }) o ?_;have z:Inv X pins σ H1 { c with heap:=d }:=g.kept (t':=c.toks) C;refine⟨c.heap.objs.size + 1,[c.heap.objs.size + 1,c.heap.objs.size],_,_,H1,rfl,z,zB (c.heap.objs.size + 1) c.heap.objs.size a,⟨⟨_,by simpa using o⟩,k⟩,λb l => ?_,q E⟩;have f:c.heap.objs.size<=b:=by
   rcases Y6.mp l with e|l
   ·rw[e];exact W5 _
   ·have:b=c.heap.objs.size:=by simpa using l
    rw[this];exact ZL _
  exact g.fpOk f (g.hok.fresh f)
theorem zC {K:ZX}{ρ:List Addr}{H:Hp}{n:Nat}{q:Addr}{l:List D}(r : ρ[n]? = some q)(hz:(fw l).length<=sizeLine):qX K ρ H (ItL K q) (fw l) (λh=>h[n]? = some (.lst l)) where
 go:=λρ' H' hd' i d ex g k hi=>by
  have b:=ex.get r;obtain⟨e,j,a⟩:=g.cel n _ q k b;unfold fw at hi;obtain⟨f,m⟩:=List.getElem?_eq_some_iff.mp hi;have u:i < l.length:=by simpa using f
  have hd:d=.tup [.int (i:Nat),l[i]]:=by rw[<-m];simp
  subst hd;obtain⟨v,c,z⟩:=a.get (i:=i) (d:=l[i]) (by simp[u]);have t:SqL K H' q e:=SqL.of j;refine⟨⟨e,v,t,c⟩,λx B y => ?_⟩;obtain⟨q2,A,rfl,w,rfl,y⟩:=y;have:=y e t;rw[c]at this;cases this;have s:=cy (o:=HO.tup [.int (i:Nat),v]) w;refine⟨s,?_⟩;simp only[RD];exact⟨q2,_,rfl,bi,RDs.cons (by simp only[RD]) (RDs.cons (z.mono (Kp.same s)) RDs.nil)⟩
 stop:=λρ' H' hd' ex g k=>by
  have b:=ex.get r;obtain⟨e,j,a⟩:=g.cel n _ q k b;exact⟨e,SqL.of j,by rw[<-a.length];simp[fw]⟩
 sz:=hz
def Et (K:ZX) (ρ:List Addr) (H:Hp) (σd:Sd) (σ:St) (r:Res D) (R:It->Hp->Prop):Prop:=match r with
 | .ok (.ref n) hd'=>match hd'[n]? with
  | some (.lst l)=>∀J H' ρ',Ext ρ H ρ' H'->RS K ρ' H' σd hd' σ->qX K ρ' H' J (fw l) (λh=>h[n]? = some (.lst l))->R J H'
  | _=>False
 | _=>False
def Lg (K:ZX) (f:EF):TI:=λσ H R=>∃ρ σd hd,RS K ρ H σd hd σ/\Et K ρ H σd σ (f σd hd) R
def MIE (X:Cx) (tg e:Expr) (f:EF):Prop:=PI X tg e (Lg X.K f)
theorem xD {a:Expr} {f:EF} (u:Gl X "enumerate") (hm:X.mg "enumerate" = none) (r:ME X a f) (o:starEach [a] X.env=[(false,eval a X.env)]:=by rfl):MIE X (.Tuple elts tk tp) (.Call (.Name "enumerate" p) [a] [] pos) f:=by
 refine PI.imp (Es u hm r o) λσ H R ⟨ρ,σd,hd,t,b⟩=>⟨ρ,σd,hd,t,?_⟩;unfold Et at b;cases e:f σd hd with
 | exc x h1=>rw[e]at b;exact b
 | bad=>rw[e]at b;exact b
 | ok d hd1 =>
  rw[e]at b;intro v H1 h i c k;cases d<;>try exact b.elim
  rename_i n
  cases c1:hd1[n]? with
  | none=>simp only[c1]at b
  | some cell =>
   simp only[c1]at b;cases cell with
   | dct l=>exact b.elim
   | dcT l=>exact b.elim
   | lst l =>
    simp only at b;simp only[rD,RD]at k;obtain⟨q,j,rfl⟩:=k;obtain⟨m,s,g⟩:=c.hp.cel n _ q c1 j;exact⟨q,m,rfl,SqL.of s,λw=>b _ H1 h i c (zC j (by rw[show (fw l).length=m.length by rw[<-g.length];simp[fw]];exact w))⟩
end
section
variable {X:Cx} {pos:Pos} {tg:Expr}
end
end Fm
namespace Fm
end Fm
namespace Fm
open PySem PySem.Spec L2
open PyProof.Rows (Call_)
section
variable {X:Cx} {pos p p2 pos2:Pos}
end
end Fm
namespace Fm
section
open Classical
@[simp] def lG (nl:Nat) (caps:List Nat) (a:EF) (tg:GF) (cs:List TF) (e:EF):LF:=λσ h=>match a σ h with
 | .ok (.ref n) h=>match h[n]? with
  | some (.lst l)=>eJ (λh=>h[n]? = some (.lst l)) tg cs e (fw l) (iC nl caps σ) h
  | _=>.bad
 | .ok _ _=>.bad
 | .exc x h=>.exc x h
 | .bad=>.bad
end
theorem rA {G:Hd->Prop}{tg:GF}{cs:List TF}{e:EF}{h:Hd}(I:Sd->Prop)(p:D->Bool)(f:D->D)(b:G h) :
  ∀{xs:List D} {σ:Sd},(∀x∈xs,∀σ,I σ->∃a,tg x σ = some a/\I a/\iB cs a h=.ok (p x) h/\(p x=true->e a h=.ok (f x) h))->I σ->
   eJ G tg cs e xs σ h=.ok ((xs.filter p).map f) h
 | [],_,_,_=>by simp[eJ,b]
 | x :: xs,σ,st,i=>by
  obtain⟨a,h1,h2,d,g⟩:=st x (by simp) σ i;have c:=rA I p f b (xs:=xs) (σ := a) (λy j=>st y (by simp[j])) h2;cases hp:p x with
  | true=>simp[eJ,b,h1,d,hp,g hp,c]
  | false=>simp[eJ,b,h1,d,hp,c]
end Fm
namespace Fm
open PySem PySem.Spec L2
section
variable {X:Cx} {pos:Pos} {scope:Scope} {own capn:List Str} {caps:List Nat}
theorem xE {w tg a:Expr}{k:List Expr}{f:EF}{g:GF}{cs:List TF}{e:EF}(hc:X.calm=true)(S:bH X scope own capn caps)(hi:MIE X tg a f)
  (K:∀F C s H ex,MG (cxC X (own++capn) scope F C s H ex) tg g/\MTs (cxC X (own++capn) scope F C s H ex) k cs/\ME (cxC X (own++capn) scope F C s H ex) w e)
  (V:∀x,foldedSetIterable a X.env x=pure x:=by intro _;rfl):MF X (.ListComp w [⟨tg,a,k,0⟩] scope pos) (lG own.length caps f g cs e):=by
 intro pins s σ H Q I ⟨ρ,σd,hd,rs,p⟩;rw[eval_ListComp];unfold lG at p;cases c:f σd hd with
 | exc z h7=>rw[c]at p;exact p.elim
 | bad=>rw[c]at p;exact p.elim
 | ok d hd1 =>
  rw[c]at p;cases d<;>try exact p.elim
  rename_i n
  simp only at p;cases c1:hd1[n]? with
  | none=>rw[c1]at p;exact p.elim
  | some cell =>
   rw[c1]at p;cases cell with
   | dct l=>exact p.elim
   | dcT l=>exact p.elim
   | lst l0 =>
    simp only at p;obtain⟨F,h1,r,u⟩:=mQ (scope:=scope) (env:=X.env) λy hy M=>I.ok.has y.1 (S.free y hy M);refine WV (use:=none) rfl V h1 S.kind S.names (thn (hi pins s σ H (λJ H1=>∃i,Ext ρ H i H1/\RS X.K i H1 σd hd1 σ/\qX X.K i H1 J (fw l0) (λh=>h[n]? = some (.lst l0))) I ⟨ρ,σd,hd,rs,by
     unfold Et;rw[c];simp only[c1];exact λJ H' ρ' ex R E=>⟨ρ',ex,R,E⟩⟩) λv s1 h1=>thn h1 λa0 s2 h2 => ?_)
    obtain⟨it,fp,tn,J,H1,rfl,B,T,U,Z,i,j,t,E⟩:=h2;generalize hG:(λh:Hd=>h[n]? = some (.lst l0))=G at p E;cases c2:eJ G g cs e (fw l0) (iC own.length caps σd) hd1 with
    | exc z h7=>rw[c2]at p;exact p.elim
    | bad=>rw[c2]at p;exact p.elim
    | ok ds hdF =>
     rw[c2]at p;refine oQ (RR:=λL C=>compPost (model X.prog X.w) X.A X.xe none (EP X pins σ Q) L C) hc S K B T U Z t E r u c2 λC s' m H' ρ' vs D hn Y P ex rh A hD N O => ?_;refine⟨m,hn,λh' sb=>⟨.ref s2.heap.objs.size,H',?_,rfl,?_⟩⟩
     ·refine Y.turned (it:=C) (t':=s'.toks) (λb o hb e=>(sb.2 b hb).trans e) P ?_ (.inr (YI (ZS B.sz D))) (λx c e z => ?_) λq W z => ?_
      ·exact x6 (x3 B.lt D)
      ·obtain⟨v,o,ho,hd⟩:=B.cell x c e
       exact absurd (x3 (ZI ho) D) (by rw[z];exact wD _)
      ·exact absurd (x3 (ZI (B.pin q W).1) D) (by rw[z];exact wD _)
     ·exact p _ vs H' ρ' (j.trans ex) (rs.ext (j.trans ex) rh) (j.fresh A (t.hp.free A)) hD N O
end
section
variable {X:Cx}
end
theorem lc {p q:Prop}(h:p\/q:=by first|exact .inl rfl|exact .inr rfl):p\/q:=h
theorem bH.a {X:Cx}{scope:Scope}{own capn:List Str}{caps:List Nat}(cp:bp X scope capn caps)(k:scope.kind=.function:=by rfl)(c:∀y∈scope.names,y.2 ≠ .cell:=by decide +kernel)(n:∀y∈scope.names,y.2=.local->scope.names.lookup y.1=some .local:=by decide +kernel)
  (f:fY X scope.names:=by repeat' (first|exact fY.nil|refine fY.cons (by first|exact(λ_=>.inl rfl)|exact(λ_=>.inr rfl)|(intro z;cases z;done)) ?_)):bH X scope own capn caps:=bH.mk' k c n f cp
section
variable {X:Cx} {pos p:Pos}
theorem av {x:Str}{k j np:Nat}{F:Fn}{e:Expr}{es:List Expr}{r:LF}(hd:Def X.prog X.w X.K X.mg X.base x k np F)(f:iW j X.A)(g:MA X (e :: es) r)(c:k<=j:=by decide)(i:Gl X x:=by rfl)(a:∀ds h d h',F ds h=.ok d h'->ds.length=np:=by exact eA)
  (b:(x == ("__debug__" : Str))=false:=by decide) (he:starEach (e :: es) X.env=(false,eval e X.env) :: starEach es X.env:=by rfl) (hpl:(backTo pos (starEach es X.env)).any (·.1)=false:=by rfl) :
  ME X (.Call (.Name x p) (e :: es) [] pos) (au F r):=du hd (f.mono c) i g a b he hpl
end
def At (K:ZX) (n:Str) (st:Stmt):Prop:=∃(f:Addr) (od an:Option Addr) (sl:Array (Option T0)) (oc kV dc pm cd ct:T0),PySem.W.nsIn K mainGlobals n=some (some (.ref f))/\K.lookup f=some ⟨oc,od,.func (PySem.W.fnOf n n (ez st) (dN st) (aw st) .none kV dc pm an cd ct),sl⟩/\PySem.W.codeIn K cd n=true/\PySem.W.keepIn K (.ref f)=true
def Nb (K:ZX) (n:Str):Prop:=PySem.W.nsIn K mainGlobals n=some none
structure En (P:T6) (w:T7) (K:ZX) (mg:Str->Option T0) (base:Heap):Prop where
 ex:∃h:Heap,K.In h/\h.Ns mainGlobals mg
section
variable {P:T6} {w:T7} {K:ZX} {mg:Str->Option T0} {base h:Heap} {n:Str} {st:Stmt} {ps:List Str} {k np:Nat} {F:Fn}
theorem At.i {f:Addr}{b d:Option Addr}{sl:Array (Option T0)}{c kV dc pm a ct:T0}(h1:PySem.W.nsIn K mainGlobals n=some (some (.ref f)))(h2:K.lookup f=some ⟨c,b,.func (PySem.W.fnOf n n (ez st) (dN st) (aw st) .none kV dc pm d a ct),sl⟩)(g:PySem.W.codeIn K a n=true)(e:PySem.W.keepIn K (.ref f)=true):At K n st:=⟨f,b,d,sl,c,kV,dc,pm,a,ct,h1,h2,g,e⟩
theorem At.out (a:At K n st)(X:K.In h)(G:h.Ns mainGlobals mg):∃f fd,mg n=some (.ref f)/\PySem.W.keepIn K (.ref f)=true/\Fun K n n st f fd:=by
 obtain⟨f,e,m,sl,i,kV,j,g,l,d,h1,h2,c,b⟩:=a;exact⟨f,_,VC X G h1,b,DV (st:=st) h2 c b⟩
theorem At.df (a:At K n st)(q:En P w K mg base)(ok:∀{f fd},Fun K n n st f fd->bW P w K mg base CX0 k f fd ps (spF K F np))
  (g:∀(kV c pm:T0) (e:Option Addr) (d ct:T0) (b:List T0),b.length=ps.length->bindArgs (PySem.W.fnOf n n (ez st) (dN st) (aw st) .none kV c pm e d ct) ⟨b,[]⟩ = pure (ps.zip b)):Def P w K mg base n k np F:=by
 obtain⟨h,X,G⟩:=q.ex;obtain⟨f,fd,h1,h2,U⟩:=a.out X G;exact Def.mk' h1 h2 (U.binds g) (ok U)
theorem iI {α : Type}{l:List α}{n:Nat}(h:l.length=n + 1):∃a t,l=a :: t/\t.length=n:=by
 cases l with
 | nil=>cases h
 | cons a t=>exact⟨a,t,rfl,Nat.succ.inj h⟩
theorem xF {α : Type}{l:List α}(h:l.length=0):l=[]:=List.length_eq_zero_iff.mp h
theorem At.df1 (a:At K n st)(q:En P w K mg base)(ok:∀{f fd},Fun K n n st f fd->bW P w K mg base CX0 k f fd ps (spF K F np))(i:ps.length=1:=by rfl)
  (e:∀(kV b pm:T0) (d:Option Addr) (c ct a:T0),bindArgs (PySem.W.fnOf n n (ez st) (dN st) (aw st) .none kV b pm d c ct) ⟨[a],[]⟩ = pure (ps.zip [a]):=by intros;rfl):Def P w K mg base n k np F :=
 a.df q ok λkV b pm d c ct l h=>by obtain⟨a,j,rfl,g⟩:=iI (h.trans i);cases xF g;exact e kV b pm d c ct a
theorem At.df2 (a:At K n st)(q:En P w K mg base)(ok:∀{f fd},Fun K n n st f fd->bW P w K mg base CX0 k f fd ps (spF K F np))(g:ps.length=2:=by rfl)
  (j:∀(kV c pm:T0) (e:Option Addr) (d ct a b:T0),bindArgs (PySem.W.fnOf n n (ez st) (dN st) (aw st) .none kV c pm e d ct) ⟨[a,b],[]⟩ = pure (ps.zip [a,b]):=by intros;rfl):Def P w K mg base n k np F :=
 a.df q ok λkV c pm e d ct o h=>by obtain⟨a,p,rfl,l⟩:=iI (h.trans g);obtain⟨b,m,rfl,i⟩:=iI (l);cases xF i;exact j kV c pm e d ct a b
theorem At.df3 (a:At K n st)(q:En P w K mg base)(ok:∀{f fd},Fun K n n st f fd->bW P w K mg base CX0 k f fd ps (spF K F np))(j:ps.length=3:=by rfl)
  (m:∀(kV d pm:T0) (g:Option Addr) (e ct a b c:T0),bindArgs (PySem.W.fnOf n n (ez st) (dN st) (aw st) .none kV d pm g e ct) ⟨[a,b,c],[]⟩ = pure (ps.zip [a,b,c]):=by intros;rfl):Def P w K mg base n k np F :=
 a.df q ok λkV d pm g e ct r h=>by obtain⟨a,s,rfl,o⟩:=iI (h.trans j);obtain⟨b,p,rfl,l⟩:=iI (o);obtain⟨c,t,rfl,i⟩:=iI (l);cases xF i;exact m kV d pm g e ct a b c
theorem At.df4 (a:At K n st)(q:En P w K mg base)(ok:∀{f fd},Fun K n n st f fd->bW P w K mg base CX0 k f fd ps (spF K F np))(m:ps.length=4:=by rfl)
  (p:∀(kV e pm:T0) (i:Option Addr) (g ct a b c d:T0),bindArgs (PySem.W.fnOf n n (ez st) (dN st) (aw st) .none kV e pm i g ct) ⟨[a,b,c,d],[]⟩ = pure (ps.zip [a,b,c,d]):=by intros;rfl):Def P w K mg base n k np F :=
 a.df q ok λkV e pm i g ct t h=>by obtain⟨a,u,rfl,r⟩:=iI (h.trans m);obtain⟨b,s,rfl,o⟩:=iI (r);obtain⟨c,v,rfl,l⟩:=iI (o);obtain⟨d,x,rfl,j⟩:=iI (l);cases xF j;exact p kV e pm i g ct a b c d
theorem At.df5 (a:At K n st)(q:En P w K mg base)(ok:∀{f fd},Fun K n n st f fd->bW P w K mg base CX0 k f fd ps (spF K F np))(o:ps.length=5:=by rfl)
  (r:∀(kV g pm:T0) (j:Option Addr) (i ct a b c d e:T0),bindArgs (PySem.W.fnOf n n (ez st) (dN st) (aw st) .none kV g pm j i ct) ⟨[a,b,c,d,e],[]⟩ = pure (ps.zip [a,b,c,d,e]):=by intros;rfl):Def P w K mg base n k np F :=
 a.df q ok λkV g pm j i ct v h=>by obtain⟨a,x,rfl,s⟩:=iI (h.trans o);obtain⟨b,u,rfl,p⟩:=iI (s);obtain⟨c,y,rfl,m⟩:=iI (p);obtain⟨d,z,rfl,l⟩:=iI (m);obtain⟨e,A,rfl,t⟩:=iI (l);cases xF t;exact r kV g pm j i ct a b c d e
theorem fsc {N P:List Str}{a:Scope}(h1:a.kind=.function:=by rfl)(h2:a.isCoroutine=false:=by rfl)(e:a.isGenerator=false:=by rfl)(b:N.Nodup:=by decide +kernel)(c:N.take P.length=P:=by rfl)(f:∀x∈P,a.names.lookup x=some .local\/a.names.lookup x=some .cell:=by decide +kernel)(d:∀y∈a.names,y.2 ≠ .free:=by decide +kernel):aP N P a:=⟨h1,h2,e,b,c,f,d⟩
end
end Fm
namespace Fm
def eD (l:List (List Int × D)) (k:List Int):Option D:=(l.find? λp=>decide (p.1=k)).map (·.2)
def rC (l:List (List Int × D)) (k:List Int) (v:D):List (List Int × D):=if (l.any λp=>decide (p.1=k))=true then l.map (λp=>if p.1=k then (p.1,v) else p) else l++[(k,v)]
def rE:EF:=λ_ h=>.ok (.ref h.length) (h++[.dcT []])
def nQ:O2:=λx y h=>match x,y with
 | .tup l,.ref n=>match dm l,h[n]? with
  | some k,some (.dcT m)=>.ok (.bl (!(eD m k).isSome)) h
  | _,_=>.bad
 | _,_=>.bad
def Bo (x i e:EF):SF:=λσ h=>outE (e σ h) σ λd h=>outE (x σ h) σ λp h=>outE (i σ h) σ λj h=>match p,j with
 | .ref n,.tup l=>match dm l,h[n]? with
  | some k,some (.dcT m)=>if m.length < SZ then .nx σ (h.set n (.dcT (rC m k d))) else .bad
  | _,_=>.bad
 | _,_=>.bad
def Bp:O2:=λx y h=>match x,y with
 | .ref n,.tup l=>match dm l,h[n]? with
  | some k,some (.dcT m)=>match eD m k with|some d=>.ok d h|none=>.bad
  | _,_=>.bad
 | _,_=>.bad
def Eu (a b:EF):EF:=ag Bp a b
end Fm
namespace Fm
open PySem PySem.Spec L2 PySem.W PyProof.Rows
section
variable {K:ZX} {ρ:List Addr} {H:Hp} {hd:Hd}
abbrev kyT (k:List Int):List Key:=k.map λi=>(Sum.inl i:Key)
theorem vK {a b:List Int}(e:kyT a=kyT b):a=b:=by
 have:=congrArg (List.map λx:Key=>match x with | .inl i=>i|_=>0) e;simpa[kyT,wC,Function.comp_def] using this
theorem JB (k:List Int):(kyT k).map kV=k.map V.int:=by
 rw[kyT,wC];rfl
theorem RH.allocT (r:RH K ρ H hd){p:Addr}{l:List (List Int × D)}(hp:RC K ρ H (.dcT l) p)(i:p ∉ ρ):RH K (ρ ++ [p]) H (hd++[.dcT l]):=by
 have k:Kp ρ H (ρ ++ [p]) H:=⟨λn a e=>by rw[ZC (List.getElem?_eq_some_iff.mp e).1];exact e,λ_ _ h=>h,λ_ _ _ h=>h,λ_ _ h=>h⟩;refine⟨by simp[r.len],?_,λn c a h1 h2 => ?_⟩
 ·rw[XA]
  exact⟨r.nd,by simp,λa g b f=>by simp at f;subst f;intro e;subst e;exact i g⟩
 ·by_cases hlt:n < hd.length
  ·rw[ZC hlt]at h1
   rw[ZC (by rw[r.len];exact hlt)]at h2;exact(r.cel n c a h1 h2).mono k rfl
  ·have j:n=hd.length:=by
    have:=(List.getElem?_eq_some_iff.mp h1).1;simp at this;omega
   subst j;simp at h1;subst h1;rw[<-r.len]at h2;simp at h2;subst h2;obtain⟨d,q1,q2,q3⟩:=hp;exact⟨d,q1,q2,q3.mono k⟩
theorem RH.writeT (r:RH K ρ H hd){n:Nat}{p:Addr}{l:List (List Int × D)}{kvs:List (List Key × V)}(hp : ρ[n]? = some p)(d:n < hd.length)(h1:kvs.map (·.1)=l.map (λp=>kyT p.1))(h2:RDs K ρ H (l.map (·.2)) (kvs.map (·.2))):RH K ρ (upd H p (.dT kvs)) (hd.set n (.dcT l)):=by
 have k:Kp ρ H ρ (upd H p (.dT kvs)):=by
  have b:=ZK hp;refine⟨λ_ _ h=>h,λa f e => ?_,λa o u e => ?_,λa g e => ?_⟩
  ·rw[aC (λz=>r.noTup e (by rw[z];exact b))];exact e
  ·rw[aC (λz=>r.noFrz e (by rw[z];exact b))];exact e
  ·rw[aC (λz=>r.noExt e (by rw[z];exact b))];exact e
 refine⟨by simp[r.len],r.nd,λm c a q1 q2 => ?_⟩
 by_cases e:n=m
 ·subst e
  rw[List.getElem?_set_self d]at q1;cases q1;rw[hp]at q2;cases q2;exact⟨kvs,bi,h1,h2.mono k⟩
 ·rw[ZP e]at q1
  have ne:a≠p:=λz=>by
   subst z;exact e (nJ r.nd hp q2)
  exact(r.cel m c a q1 q2).mono k (aC ne)
theorem oV (k:List Int):∀{l:List (List Int × D)} {a:List (List Key × V)},a.map (·.1)=l.map (λp=>kyT p.1)->RDs K ρ H (l.map (·.2)) (a.map (·.2))->
  (eD l k=none/\gL a (kyT k)=none)\/∃d v,eD l k=some d/\gL a (kyT k)=some v/\RD K ρ H d v
 | [],[],_,_=>.inl ⟨rfl,rfl⟩
 | [],_ :: _,h,_=>by simp at h
 | _ :: _,[],h,_=>by simp at h
 | (j,d) :: l,(kk,v) :: a,h1,h2=>by
  simp only[yP,Y4]at h1;simp only[yP,RDs]at h2;obtain⟨n,m,e,q1,q2⟩:=h2;cases e;obtain⟨i,f⟩:=h1;subst i
  by_cases e:j=k
  ·subst e
   exact .inr ⟨d,v,by simp[eD],by simp[gL],q1⟩
  ·have b:=oV k f q2
   have g:eD ((j,d) :: l) k=eD l k:=by simp[eD,e]
   have c:gL ((kyT j,v) :: a) (kyT k)=gL a (kyT k):=lF (λz=>e (vK z));rw[g,c];exact b
theorem xG (k:List Int):∀{l:List (List Int × D)} {a:List (List Key × V)},a.map (·.1)=l.map (λp=>kyT p.1)->(a.any λc=>decide (c.1=kyT k))=l.any λp=>decide (p.1=k)
 | [],[],_=>rfl
 | [],_ :: _,h=>by simp at h
 | _ :: _,[],h=>by simp at h
 | (j,d) :: l,(kk,v) :: a,h1=>by
  simp only[yP,Y4]at h1;obtain⟨f,b⟩:=h1;subst f;have:decide (kyT j=kyT k)=decide (j=k):=by
   by_cases e:j=k
   ·simp[e]
   ·rw[y3 e,y3 λz=>e (vK z)]
  simp only[X5,this,xG k b]
theorem uA (k:List Int){f:D}{c:V}(g:RD K ρ H f c):∀{l:List (List Int × D)} {a:List (List Key × V)},a.map (·.1)=l.map (λp=>kyT p.1)->RDs K ρ H (l.map (·.2)) (a.map (·.2))->
  (a.map λb=>if b.1=kyT k then (b.1,c) else b).map (·.1)=(l.map λp=>if p.1=k then (p.1,f) else p).map (λp=>kyT p.1)/\RDs K ρ H ((l.map λp=>if p.1=k then (p.1,f) else p).map (·.2)) ((a.map λb=>if b.1=kyT k then (b.1,c) else b).map (·.2))
 | [],[],_,_=>⟨rfl,RDs.nil⟩
 | [],_ :: _,h,_=>by simp at h
 | _ :: _,[],h,_=>by simp at h
 | (j,d) :: l,(kk,v) :: a,h1,h2=>by
  simp only[yP,Y4]at h1;simp only[yP,RDs]at h2;obtain⟨s,r,e,q1,q2⟩:=h2;cases e;obtain⟨q,n⟩:=h1;subst q;obtain⟨m,i⟩:=uA k g n q2
  by_cases e:j=k
  ·subst e
   simp only[yP,YL];exact⟨by rw[m],RDs.cons g i⟩
  ·have o : ¬kyT j=kyT k:=λz=>e (vK z)
   simp only[yP,z5 e,z5 o];exact⟨by rw[m],RDs.cons q1 i⟩
theorem Cs (k:List Int){a:D}{b:V}(c:RD K ρ H a b){l:List (List Int × D)}{kvs:List (List Key × V)}(h1:kvs.map (·.1)=l.map (λp=>kyT p.1))(h2:RDs K ρ H (l.map (·.2)) (kvs.map (·.2))) :
  (jJ kvs (kyT k) b).map (·.1)=(rC l k a).map (λp=>kyT p.1)/\RDs K ρ H ((rC l k a).map (·.2)) ((jJ kvs (kyT k) b).map (·.2)):=by
 unfold jJ rC;rw[xG k h1];split
 ·exact uA k c h1 h2
 ·refine⟨by simp[h1],?_⟩
  rw[ZR,ZR];exact RDs.append h2 (RDs.cons c RDs.nil)
theorem vL {l:List D}{v:V}{k:List Int}(a:RD K ρ H (.tup l) v)(e:dm l=some k):∃b,v=.ref b/\H b=some (.tup ((kyT k).map kV)):=by
 simp only[RD]at a;obtain⟨b,c,rfl,h1,h2⟩:=a;rw[lA h2 e]at h1;exact⟨b,rfl,by rw[JB];exact h1⟩
end
section
variable {X:Cx} {pos p:Pos}
theorem xH:ME X (.Dict [] [] pos) rE:=by
 refine PE.imp Eh λσ H Q ⟨ρ,σd,hd,b,e⟩=>λq c => ?_;have d:=cy (o:=HO.dT []) c;have g:=b.hp.free c;have f:=(b.hp.same d).allocT (p:=q) (l:=[]) ⟨[],bi,rfl,RDs.nil⟩ g;have ex:Ext ρ H (ρ ++ [q]) (upd H q (.dT [])):=Ext.alloc c;refine bZ.at (R:=rD X.K) (a:=.ref hd.length) e ex (b.ext ex f) ?_;simp only[rD,RD];refine⟨q,?_,rfl⟩;rw[<-b.hp.len];simp
def Bq (K:ZX):R2:=λx y H Q=>∃a o,y=.ref a/\nP H a x o/\Q (.bl (!o.isSome)) H
theorem Ct (e:X.A.units + 1 < cLine):OpR X (compareOp .NotIn) (Bq X.K):=by
 intro pins s σ H x y v u Q I d c h;obtain⟨a,o,rfl,g,q⟩:=h;obtain rfl:u=Value.ref a:=c;exact GD e I g d λf b=>⟨.bl (!o.isSome),H,b,rfl,q⟩
theorem Cu {K:ZX}:Og K nQ (Bq K):=by
 intro ρ H σd hd σ d k v w Q i o h f;unfold nQ at f;cases d<;>try exact f.elim
 cases k<;>try exact f.elim
 rename_i l n
 simp only at f;cases c1:dm l with
 | none=>rw[c1]at f;exact f.elim
 | some k =>
  rw[c1]at f;obtain⟨b,rfl,q⟩:=vL o c1;simp only[RD]at h;obtain⟨a,j,rfl⟩:=h;cases c:hd[n]? with
  | none=>rw[c]at f;exact f.elim
  | some cell =>
   rw[c]at f;cases cell with
   | lst l=>exact f.elim
   | dct _=>exact f.elim
   | dcT m =>
    simp only at f;obtain⟨g,q1,q2,q3⟩:=i.hp.cel n _ a c j;refine⟨a,gL g (kyT k),rfl,nP.t q1 q,?_⟩;have e:(gL g (kyT k)).isSome=(eD m k).isSome:=by
     rcases oV k q2 q3 with ⟨e1,e2⟩|⟨d,v,e1,e2,_⟩<;>rw[e1,e2]<;>rfl
    rw[e];exact f.here i (by simp only[rD,RD])
theorem GJ {o i e:Expr}{B F D:EF}{p2:Pos}(V:X.A.units + 1 < cLine)(he:ME X e D)(M:ME X o B)(hi:ME X i F)(I:swapsWithSole [.Subscript o i p2] e pos.line X.env=pure false:=by rfl)(hw:swappedStores [.Subscript o i p2] e X.env=pure none:=by rfl)
  (h1:(assignEach [.Subscript o i p2] X.env).map (·.2)=[assign (.Subscript o i p2) X.env]:=by rfl) (t:∀v,assign (.Subscript o i p2) X.env v=(do
   let ov <-holding [v] (eval o X.env)
   let iv <-holding [v,ov] (eval i X.env)
   standAt p2
   holding [v,ov,iv] (setItem ov iv v)
   release [v,ov,iv] []):=by intro _;rfl):MS X (.Assign [.Subscript o i p2] e pos) (Bo B F D):=by
 refine PS.imp (vj he (zd M hi (xA V) t) I hw h1) λEn σ H ⟨ρ,σd,hd,T,p⟩=>⟨ρ,σd,hd,T,(ce.outE p).imp λv H1 ⟨x,d,A,e1,r,Q,L⟩ => ?_⟩;refine⟨x,σd,A,r,(ce.outE L).imp λvo H2 ⟨y,Y,z,K,j,J,p2⟩ => ?_⟩;refine⟨y,σd,z,j,(ce.outE p2).imp λZ E ⟨h,W,q,C,g,O,f⟩ => ?_⟩;have w:=(Q.mono (r.hp.kp K)).mono (j.hp.kp C);have u:=J.mono (j.hp.kp C);cases Y with
 | ref n =>
  cases W with
  | tup l =>
   simp only at f;cases c1:dm l with
   | none=>rw[c1]at f;exact f.elim
   | some k =>
    rw[c1]at f;obtain⟨b,rfl,U⟩:=vL O c1;cases c:q[n]? with
    | none=>rw[c]at f;exact f.elim
    | some cell =>
     rw[c]at f;cases cell with
     | lst l=>exact f.elim
     | dct _=>exact f.elim
     | dcT m =>
      simp only at f;split at f
      ·rename_i hz
       simp only[RD]at u;obtain⟨a,t,rfl⟩:=u;obtain⟨s,q1,q2,q3⟩:=g.hp.cel n _ a c t;have P:s.length=m.length:=by have:=congrArg List.length q2;simpa using this
       refine⟨a,_,rfl,xv.t q1 U (by rw[P];exact xC hz (by rw[wH];decide)),?_⟩;have R:n < q.length:=(List.getElem?_eq_some_iff.mp c).1;obtain⟨G,S⟩:=Cs k w q2 q3;have N:=g.hp.writeT t R G S;have ex:Ext h E h (upd E a (.dT (jJ s (kyT k) v))):=Ext.write (ZK t);exact f σ _ h ex (g.ext ex N)
      ·exact f.elim
  | _=>exact f.elim
 | _=>exact f.elim
theorem GK {a b:Expr}{fa o:EF}(s:X.A.units + 1 < cLine)(e:ME X a fa)(f:ME X b o)(q:Jr b:=by intro _ _;rfl):ME X (.Subscript a b pos) (Eu fa o):=by
 refine me2 (a:=a) (b:=b) (g:=Bp) (GG s e f q) λρ H σd hd σ d k v w Q j i h p => ?_;unfold Bp at p;cases d<;>try exact p.elim
 cases k<;>try exact p.elim
 rename_i n l
 simp only at p;cases c1:dm l with
 | none=>rw[c1]at p;exact p.elim
 | some k =>
  rw[c1]at p;obtain⟨b,rfl,f⟩:=vL h c1;simp only[RD]at i;obtain⟨a,e,rfl⟩:=i;cases c:hd[n]? with
  | none=>rw[c]at p;exact p.elim
  | some cell =>
   rw[c]at p;cases cell with
   | lst l=>exact p.elim
   | dct _=>exact p.elim
   | dcT m =>
    simp only at p;obtain⟨r,q1,q2,q3⟩:=j.hp.cel n _ a c e;rcases oV k q2 q3 with ⟨e1,e2⟩|⟨d,v,e1,e2,rd⟩
    ·rw[e1]at p;exact p.elim
    ·rw[e1]at p
     exact⟨a,v,rfl,by have z:=nP.t q1 f;rw[e2]at z;exact z,p.here j rd⟩
end
end Fm
namespace Ts
section
def insK {α : Type} (key : α->Int) (x : α):List α->List α
 | []=>[x]
 | y :: l=>if key x < key y then x :: y :: l else y :: insK key x l
def byK {α : Type} (key : α->Int) (l:List α):List α := l.foldl (λacc x=>insK key x acc) []
theorem oW {α : Type}(a : α->Int)(x : α):∀l:List α,(insK a x l).Perm (x :: l)
 | []=>.refl _
 | y :: l=>by
  unfold insK;split
  ·exact .refl _
  ·exact((oW a x l).cons y).trans (.swap _ _ _)
theorem rF {α : Type}(a : α->Int)(x : α):∀{l:List α},l.Pairwise (λx y=>a x<=a y)->(insK a x l).Pairwise (λx y=>a x<=a y)
 | [],_=>List.pairwise_singleton _ _
 | y :: l,h=>by
  have p:=List.pairwise_cons.mp h;unfold insK;split
  ·rename_i c
   refine List.pairwise_cons.mpr ⟨λz b => ?_,h⟩;rcases Y6.mp b with rfl|b
   ·omega
   ·have:=p.1 z b;omega
  ·rename_i c
   refine List.pairwise_cons.mpr ⟨λz b => ?_,rF a x p.2⟩;rcases Y6.mp ((oW a x l).mem_iff.mp b) with rfl|b
   ·omega
   ·exact p.1 z b
theorem qa {α : Type}(a : α->Int)(x : α)(k:Int):∀{l:List α},l.Pairwise (λx y=>a x<=a y)->(insK a x l).filter (λz=>decide (a z=k))=(l++[x]).filter (λz=>decide (a z=k))
 | [],_=>rfl
 | y :: l,h=>by
  have p:=List.pairwise_cons.mp h;unfold insK;split
  ·rename_i c
   rw[List.cons_append,YR,YR (x:=y),YR (x:=y),List.filter_append]
   by_cases e:a x=k
   ·have n : ¬a y=k:=by omega
    have b:l.filter (λz=>decide (a z=k))=[]:=by
     rw[List.filter_eq_nil_iff];intro z d;have:=p.1 z d;simp;omega
    simp[e,n,b]
   ·simp[e]
  ·rw[List.cons_append,YR,YR (x:=y),qa a x k p.2]
theorem zD {α : Type}(b : α->Int):∀(l a:List α),a.Pairwise (λx y=>b x<=b y)->
  (l.foldl (λa x=>insK b x a) a).Perm (a++l)/\(l.foldl (λa x=>insK b x a) a).Pairwise (λx y=>b x<=b y)/\∀k,(l.foldl (λa x=>insK b x a) a).filter (λz=>decide (b z=k))=(a++l).filter (λz=>decide (b z=k))
 | [],a,h=>by simp[h]
 | x :: l,a,h=>by
  obtain⟨h1,h2,c⟩:=zD b l (insK b x a) (rF b x h);refine⟨h1.trans ?_,h2,λk => ?_⟩
  ·exact((oW b x a).append_right l).trans (List.perm_middle.symm)
  ·rw[Y2,c k,List.filter_append,qa b x k h,<-List.filter_append,ZU];rfl
theorem byK_perm {α : Type}(a : α->Int)(l:List α):(byK a l).Perm l:=(zD a l [] .nil).1
theorem byK_rises {α : Type}(a : α->Int)(l:List α):(byK a l).Pairwise (λx y=>a x<=a y):=(zD a l [] .nil).2.1
theorem xI {α β : Type}(f : α->β)(b : α->Int)(a : β->Int)(h:∀x,a (f x)=b x)(x : α):∀l:List α,insK a (f x) (l.map f)=(insK b x l).map f
 | []=>rfl
 | y :: l=>by
  simp only[yP,insK,h];split
  ·rfl
  ·rw[xI f b a h x l];rfl
theorem byK_map {α β : Type}(f : α->β)(c : α->Int)(b : β->Int)(h:∀x,b (f x)=c x)(l:List α):byK b (l.map f)=(byK c l).map f:=by
 have:∀(l:List α) a,(l.map f).foldl (λa x=>insK b x a) (a.map f)=(l.foldl (λa x=>insK c x a) a).map f:=by
  intro l
  induction l with
  | nil=>intro a;rfl
  | cons x l ih =>
   intro a;rw[yP,Y2,Y2,xI f c b h,ih]
 exact this l []
end
def popK:Nat->List Int
 | 0=>[0]
 | k + 1=>popK k++(popK k).map (· + 1)
end Ts
namespace Fm
def xJ (h:Hd):D->Option Int
 | .ref n=>match h[n]? with|some (.lst l)=>some (l.length:Int)|_=>none
 | _=>none
def xL (h:Hd):List D->Option (List Int)
 | []=>some []
 | x :: l=>match xJ h x,xL h l with|some k,some kz=>some (k :: kz)|_,_=>none
open Classical in
def lH (a:EF):LF:=λσ h=>(a σ h).bind λx h=>match dI h x with
 | some l=>match xL h l with
  | some kz=>if ∃k,k<=6/\kz=Ts.popK k then .ok ((Ts.byK (·.1) (kz.zip l)).map (·.2)) h else .bad
  | none=>.bad
 | none=>.bad
end Fm
namespace Ts
open PySem PyProof.Rows
structure Ops (S:Type) (m:Type->Type) where
 arr:S->Array Keyed
 pend:S->Array (Nat × Nat × Nat)
 gal:S->Nat
 setA:S->Array Keyed->S
 setP:S->Array (Nat × Nat × Nat)->S
 setG:S->Nat->S
 fine:S->Bool
 lt:Keyed->Keyed->StateT S m (Option Bool)
 el:Array Keyed->Nat->StateT S m Keyed
 ru:String->StateT S m Unit
 bad:{α : Type}->String->StateT S m α
 hi:Array Keyed->Array Keyed->StateT S m (Array Keyed)
section
variable {S:Type} {m:Type->Type} [Monad m] (O:Ops S m)
abbrev qb (i j:Nat):StateT S m (Option Bool):=do
 let a:=O.arr (<-get)
 O.lt (<-O.el a i) (<-O.el a j)
abbrev Cv (i j:Nat):StateT S m Unit :=
 modify λs=>O.setA s ((List.range ((j - i) / 2)).foldl (λa k=>a.swapIfInBounds (i + k) (j - 1 - k)) (O.arr s))
abbrev Ev (src dst:Nat):StateT S m Unit :=
 modify λs=>O.setA s ((List.range (src - dst)).foldl (λa k=>a.swapIfInBounds (src - k) (src - k - 1)) (O.arr s))
def vM (lo nrem:Nat):StateT S m (Option Nat):=do
 let mut n:=1
 for _ in [1:nrem] do
  let some smaller <-qb O (lo + n) (lo + n - 1)|return none
  if smaller then break
  n:=n + 1
 if n == nrem then return some n
 if n > 1 then
  let some rose <-qb O lo (lo + n - 1)|return none
  if rose then return some n
  Cv O lo (lo + n)
 O.ru "list.sort.descending-run"
 n:=n + 1
 let mut neq:=0
 for _ in [n:nrem] do
  let some smaller <-qb O (lo + n) (lo + n - 1)|return none
  if smaller then
   if neq > 0 then Cv O (lo + n - (neq + 1)) (lo + n)
   neq:=0
  else
   let some larger <-qb O (lo + n - 1) (lo + n)|return none
   if larger then break
   neq:=neq + 1
  n:=n + 1
 if neq > 0 then Cv O (lo + n - (neq + 1)) (lo + n)
 Cv O lo (lo + n)
 for _ in [n:nrem] do
  let some smaller <-qb O (lo + n) (lo + n - 1)|return none
  if smaller then break
  n:=n + 1
 return some n
def GL (lo n ok:Nat):StateT S m Bool:=do
 for k in [max ok 1:n] do
  let mut l:=0
  let mut r:=k
  for _ in [0:k] do
   if l ≥ r then break
   let m:=(l + r) / 2
   let some less <-qb O (lo + k) (lo + m)|return false
   if less then r:=m else l:=m + 1
  Ev O (lo + k) (lo + l)
 return true
def zE (left:Bool) (key:Keyed) (arr:Array Keyed) (base n hint:Nat):StateT S m (Option Nat):=do
 let beyond (i:Nat):StateT S m (Option Bool):=do
  let x <-O.el arr (base + i)
  if left then O.lt x key else return (<-O.lt key x).map (!·)
 let mut lastofs:=0
 let mut ofs:=1
 let mut lo:=0
 let mut hi:=0
 let some right <-beyond hint|return none
 if right then
  let maxofs:=n - hint
  for _ in [0:n] do
   if ofs ≥ maxofs then break
   let some more <-beyond (hint + ofs)|return none
   if !more then break
   lastofs:=ofs
   ofs:=2 * ofs + 1
  lo:=hint + lastofs + 1
  hi:=hint + min ofs maxofs
 else
  let maxofs:=hint + 1
  for _ in [0:n] do
   if ofs ≥ maxofs then break
   let some found <-beyond (hint - ofs)|return none
   if found then break
   lastofs:=ofs
   ofs:=2 * ofs + 1
  lo:=hint + 1 - min ofs maxofs
  hi:=hint - lastofs
 for _ in [0:n] do
  if lo ≥ hi then break
  let m:=lo + (hi - lo) / 2
  let some more <-beyond m|return none
  if more then lo:=m + 1 else hi:=m
 return some hi
abbrev Br (g:Nat):StateT S m Unit:=modify λs=>O.setG s g
def loG (a b:Array Keyed):StateT S m (Array Keyed):=do
 O.ru "list.sort.merge-lo"
 let uO:=a.size + b.size
 let done (out:Array Keyed) (ia ib:Nat):=out++a.extract ia a.size++b.extract ib b.size
 let lastOfA (out:Array Keyed) (ia ib:Nat):=out++b.extract ib b.size++a.extract ia a.size
 let mut out:Array Keyed := #[<-O.el b 0]
 let mut ia:=0
 let mut ib:=1
 if ib == b.size then return done out ia ib
 if ia + 1 == a.size then return lastOfA out ia ib
 let mut minGallop:=O.gal (<-get)
 for _ in [0:uO] do
  let mut acount:=0
  let mut bcount:=0
  for _ in [0:uO] do
   let some bWins <-O.lt (<-O.el b ib) (<-O.el a ia)|return done out ia ib
   if bWins then
    out:=out.push (<-O.el b ib);ib:=ib + 1;bcount:=bcount + 1;acount:=0
    if ib == b.size then return done out ia ib
    if bcount ≥ minGallop then break
   else
    out:=out.push (<-O.el a ia);ia:=ia + 1;acount:=acount + 1;bcount:=0
    if ia + 1 == a.size then return lastOfA out ia ib
    if acount ≥ minGallop then break
  O.ru "list.sort.gallop"
  minGallop:=minGallop + 1
  for _ in [0:uO] do
   if minGallop > 1 then minGallop:=minGallop - 1
   Br O minGallop
   let some k <-zE O false (<-O.el b ib) a ia (a.size - ia) 0|return done out ia ib
   acount:=k
   if k > 0 then
    out:=out++a.extract ia (ia + k);ia:=ia + k
    if ia + 1 == a.size then return lastOfA out ia ib
    if ia == a.size then return done out ia ib
   out:=out.push (<-O.el b ib);ib:=ib + 1
   if ib == b.size then return done out ia ib
   let some k <-zE O true (<-O.el a ia) b ib (b.size - ib) 0|return done out ia ib
   bcount:=k
   if k > 0 then
    out:=out++b.extract ib (ib + k);ib:=ib + k
    if ib == b.size then return done out ia ib
   out:=out.push (<-O.el a ia);ia:=ia + 1
   if ia + 1 == a.size then return lastOfA out ia ib
   if acount < 7 && bcount < 7 then break
  minGallop:=minGallop + 1
  Br O minGallop
 O.bad "internal:list.sort.merge-bound"
def atG (i:Nat):StateT S m Bool:=do
 let s <-get
 let (some (sa,na,power),some (sb,nb,_)):=((O.pend s)[i]?,(O.pend s)[i + 1]?)|O.bad "internal:list.sort.pending"
 set (O.setP s (((O.pend s).setIfInBounds i (sa,na + nb,power)).eraseIdxIfInBounds (i + 1)))
 let some k <-zE O false (<-O.el (O.arr s) sb) (O.arr s) sa na 0|return false
 let (sa,na):=(sa + k,na - k)
 if na == 0 then return true
 let some nb <-zE O true (<-O.el (O.arr s) (sa + na - 1)) (O.arr s) sb nb (nb - 1)|return false
 if nb == 0 then return true
 let x:=(O.arr s).extract sa sb
 let y:=(O.arr s).extract sb (sb + nb)
 let merged <-if na<=nb then loG O x y else O.hi x y
 modify λs=>O.setA s (merged.toList.zipIdx.foldl (λa (p,j)=>a.setIfInBounds (sa + j) p) (O.arr s))
 return O.fine (<-get)
def JC (p:Array (Nat × Nat × Nat)):Option (Nat × Nat × Nat):=if p.size > 1 then p[p.size - 2]? else none
def uB (minRun:Nat->Nat->Nat->Nat) (power:Nat->Nat->Nat->Nat->Nat):StateT S m Unit:=do
 let size:=(O.arr (<-get)).size
 let minrun:=minRun size size 0
 let mut lo:=0
 for _ in [0:size] do
  if lo ≥ size then break
  let some found <-vM O lo (size - lo)|return
  let mut n:=found
  if n < minrun then
   O.ru "list.sort.binary-insertion"
   let force:=min (size - lo) minrun
   if !(<-GL O lo force n) then return
   n:=force
  if let some (s1,n1,_):=(O.pend (<-get)).back? then
   let pw:=power size (2 * s1 + n1) (2 * s1 + n1 + n1 + n) size
   for _ in [0:size] do
    let p:=O.pend (<-get)
    let some (_,_,older):=JC p|break
    if older<=pw then break
    if !(<-atG O (p.size - 2)) then return
   modify λs=>O.setP s ((O.pend s).modify ((O.pend s).size - 1) λ(st,len,_)=>(st,len,pw))
  modify λs=>O.setP s ((O.pend s).push (lo,n,0))
  lo:=lo + n
 for _ in [0:size] do
  let p:=O.pend (<-get)
  if p.size<=1 then break
  let i:=p.size - 2
  let before:=if i > 0 then p[i - 1]?.map (·.2.1) else none
  let i:=if before.any (· < (p[i + 1]?.elim 0 (·.2.1))) then i - 1 else i
  if !(<-atG O i) then return
end
def O1:Ops SortSt Sem where
 arr:=arrOf
 pend:=pendingOf
 gal:=gallopOf
 setA s x:=SortSt.mk' (kindOf s) x (pendingOf s) (gallopOf s) (failedOf s)
 setP s x:=SortSt.mk' (kindOf s) (arrOf s) x (gallopOf s) (failedOf s)
 setG s x:=SortSt.mk' (kindOf s) (arrOf s) (pendingOf s) x (failedOf s)
 fine s:=(failedOf s).isNone
 lt:=lt'
 el:=elem'
 ru t:=liftM (rule t:Sem Unit)
 bad w:=liftM (unsupported w)
 hi:=sortPriv% PySem.Builtin.mergeHi
def zF:Nat->Nat->Nat->Nat->Nat:=sortPriv% PySem.Builtin.power
def vN:Nat->Nat->Nat->Nat:=sortPriv% PySem.Builtin.minRun
theorem GM:sortRuns'=uB O1 vN zF:=rfl
abbrev TS:=Array Keyed × Array (Nat × Nat × Nat) × Nat
def ltP (x y:Keyed):StateT TS Option (Option Bool):=match x.1,y.1 with
 | .int i _,.int j _=>pure (some (decide (i < j)))
 | _,_=>failure
def elP (a:Array Keyed) (i:Nat):StateT TS Option Keyed:=match a[i]? with
 | some p=>pure p
 | none=>failure
def O2:Ops TS Option where
 arr t:=t.1
 pend t:=t.2.1
 gal t:=t.2.2
 setA t x:=(x,t.2.1,t.2.2)
 setP t x:=(t.1,x,t.2.2)
 setG t x:=(t.1,t.2.1,x)
 fine _:=true
 lt:=ltP
 el:=elP
 ru _:=pure ()
 bad _:=failure
 hi _ _:=failure
section
variable {prog:T6} {w:T7} {A:T5} {E:T0->T4->Prop} {s:T4}
abbrev emb (t:TS):SortSt:=SortSt.mk' oneType' t.1 t.2.1 t.2.2 none
def Sim (prog:T6) (w:T7) (A:T5) (E:T0->T4->Prop) (s:T4) {α : Type} (m:StateT SortSt Sem α) (p:StateT TS Option α):Prop :=
 ∀t x t',p t=some (x,t')->∀Q : α->SortSt->Prop,Q x (emb t')->wpS (model prog w) A E s m Q (emb t)
variable {α β : Type}
theorem fz {x : α}:Sim prog w A E s (pure x) (pure x):=λt y a h Q q=>by
 cases h;exact wpS_pure q
theorem vO {m:StateT SortSt Sem α}:Sim prog w A E s m failure:=λt y a h Q q=>by cases h
theorem xM {m:StateT SortSt Sem α}{x:String}:Sim prog w A E s m (O2.bad x):=vO
theorem JD {m:StateT SortSt Sem (Array Keyed)}{x y:Array Keyed}:Sim prog w A E s m (O2.hi x y):=vO
theorem fA {m:StateT SortSt Sem α}{p:StateT TS Option α}{f : α->StateT SortSt Sem β}{q : α->StateT TS Option β}(h1:Sim prog w A E s m p)(h2:∀x,Sim prog w A E s (f x) (q x)):Sim prog w A E s (m >>= f) (p >>= q):=λt y a h Q b=>by
 refine wpS_bind ?_;change (p t).bind (λr=>q r.1 r.2)=some (y,a) at h;cases e:p t with
 | none=>rw[e]at h;cases h
 | some r =>
  rw[e]at h;exact h1 t r.1 r.2 e _ (h2 r.1 r.2 y a h Q b)
theorem qB {f:SortSt->StateT SortSt Sem β}{q:TS->StateT TS Option β}(h:∀t,Sim prog w A E s (f (emb t)) (q t)):Sim prog w A E s (get >>= f) (get >>= q):=λt y a e Q b =>
 wpS_bind (wpS_get (h t t y a e Q b))
theorem nT {f:SortSt->SortSt}{g:TS->TS}(h:∀t,f (emb t)=emb (g t)):Sim prog w A E s (modify f) (modify g):=λt y b e Q a=>by
 cases e;refine wpS_modify ?_;rw[h];exact a
theorem GN {u:SortSt}{a:TS}(h:u=emb a):Sim prog w A E s (set u) (set a):=λt y c e Q b=>by
 cases e;rw[h];exact λ_ _ _=>⟨rfl,b⟩
theorem i6 {c:Prop}{i j:Decidable c}{a b:StateT SortSt Sem α}{p q:StateT TS Option α}(h1:Sim prog w A E s a p)(h2:Sim prog w A E s b q):Sim prog w A E s (@ite _ c i a b) (@ite _ c j p q):=by
 by_cases z:c
 ·rw[z4 z,z4 z];exact h1
 ·rw[z5 z,z5 z];exact h2
theorem zG {x:String}:Sim prog w A E s (O1.ru x) (O2.ru x):=λt y a h Q q=>by
 cases h;exact wpS_lift (W3 ⟨rfl,q⟩)
theorem rG {a:Array Keyed}{i:Nat}:Sim prog w A E s (O1.el a i) (O2.el a i):=by
 show Sim prog w A E s (elem' a i) (elP a i);rw[elem'_eq];unfold elP;cases a[i]? with
 | none=>exact vO
 | some p=>exact fz
theorem zH {x y:Keyed}:Sim prog w A E s (O1.lt x y) (O2.lt x y):=λt z d h Q q=>by
 obtain⟨x1,b⟩:=x;obtain⟨a,c⟩:=y;change ltP (x1,b) (a,c) t=_ at h;show wpS _ A E s (lt' _ _) Q _;unfold ltP at h;cases x1 with
 | int i u =>
  cases a with
  | int j v =>
   cases h;rw[lt'_eq];refine wpS_bind (wpS_get (wpS_bind (wpS_lift (X7 ?_))));rw[keyLt'_oneType];exact oneLt_int ⟨rfl,wpS_pure q⟩
  | _=>cases h
 | _=>cases h
theorem xN {f:Nat->β->StateT SortSt Sem (ForInStep β)}{g:Nat->β->StateT TS Option (ForInStep β)}(h:∀i c,Sim prog w A E s (f i c) (g i c)):∀(l:List Nat) (c : β),Sim prog w A E s (forIn l c f) (forIn l c g)
 | [],c=>by rw[List.forIn_nil,List.forIn_nil];exact fz
 | i :: l,c=>by
  rw[WH,WH];refine fA (h i c) λr => ?_;cases r with
  | done c=>exact fz
  | yield c=>exact xN h l c
theorem nU {r:Std.Legacy.Range}{c : β}{f:Nat->β->StateT SortSt Sem (ForInStep β)}{g:Nat->β->StateT TS Option (ForInStep β)}(h:∀i c,Sim prog w A E s (f i c) (g i c)):Sim prog w A E s (forIn r c f) (forIn r c g):=by
 rw[Std.Legacy.Range.forIn_eq_forIn_range',Std.Legacy.Range.forIn_eq_forIn_range'];exact xN h _ c
theorem n1 (t:TS):O1.arr (emb t)=t.1:=rfl
theorem n2 (t:TS):O1.pend (emb t)=t.2.1:=rfl
theorem n3 (t:TS):O1.gal (emb t)=t.2.2:=rfl
theorem n4 (t:TS):O1.fine (emb t)=true:=rfl
theorem n5 (t:TS)(x):O1.setP (emb t) x=emb (t.1,x,t.2.2):=rfl
theorem m1 (t:TS):O2.arr t=t.1:=rfl
theorem m2 (t:TS):O2.pend t=t.2.1:=rfl
theorem m3 (t:TS):O2.gal t=t.2.2:=rfl
theorem m4 (t:TS):O2.fine t=true:=rfl
theorem m5 (t:TS)(x):O2.setP t x=(t.1,x,t.2.2):=rfl
theorem Bs {l:Bool}{k:Keyed}{a:Array Keyed}{b n i:Nat}:Sim prog w A E s (zE O1 l k a b n i) (zE O2 l k a b n i):=by
 unfold zE;dsimp only
 repeat' (first|with_reducible (first|exact fz|exact zH|exact rG|refine fA ?_ λx => ?_|refine nU λi c => ?_|refine i6 ?_ ?_)|split)
theorem xO {i j:Nat}:Sim prog w A E s (qb O1 i j) (qb O2 i j) :=
 qB λt=>fA rG λx=>fA rG λy=>zH
theorem GO {i j:Nat}:Sim prog w A E s (Cv O1 i j) (Cv O2 i j):=nT λt=>rfl
theorem Ew {i j:Nat}:Sim prog w A E s (Ev O1 i j) (Ev O2 i j):=nT λt=>rfl
theorem JE {i:Nat}:Sim prog w A E s (Br O1 i) (Br O2 i):=nT λt=>rfl
theorem Cw {l n:Nat}:Sim prog w A E s (vM O1 l n) (vM O2 l n):=by
 unfold vM;dsimp only
 repeat' (first|with_reducible (first|exact fz|exact xO|exact GO|exact zG|refine fA ?_ λx => ?_|refine nU λi c => ?_|refine i6 ?_ ?_)|split)
theorem GP {l n o:Nat}:Sim prog w A E s (GL O1 l n o) (GL O2 l n o):=by
 unfold GL;dsimp only
 repeat' (first|with_reducible (first|exact fz|exact xO|exact Ew|refine fA ?_ λx => ?_|refine nU λi c => ?_|refine i6 ?_ ?_)|split)
theorem JF {a b:Array Keyed}:Sim prog w A E s (loG O1 a b) (loG O2 a b):=by
 unfold loG;dsimp only
 repeat' (first|with_reducible (first|exact fz|exact xM|exact Bs|exact zH|exact rG|exact zG|exact JE|(refine qB λt => ?_;simp only[n3 t,m3 t])|refine fA ?_ λx => ?_|refine nU λi c => ?_|refine i6 ?_ ?_)|split)
theorem Ex {i:Nat}:Sim prog w A E s (atG O1 i) (atG O2 i):=by
 unfold atG;dsimp only
 repeat' (first|with_reducible (first|exact fz|exact xM|exact JD|exact Bs|exact JF|exact rG|exact GN rfl|(refine qB λt => ?_;simp only[n1 t,n2 t,n4 t,n5 t,m1 t,m2 t,m4 t,m5 t])|refine fA ?_ λx => ?_|refine i6 ?_ ?_)|refine i6 ?_ ?_|exact nT λt=>rfl|split)
theorem Ey {f:Nat->Nat->Nat->Nat}{g:Nat->Nat->Nat->Nat->Nat}:Sim prog w A E s (uB O1 f g) (uB O2 f g):=by
 unfold uB;dsimp only
 repeat' (first|with_reducible (first|exact fz|exact Cw|exact GP|exact Ex|exact zG|(refine qB λt => ?_;simp only[n1 t,n2 t,m1 t,m2 t])|refine fA ?_ λx => ?_|refine nU λi c => ?_|refine i6 ?_ ?_)|exact Ex|refine i6 ?_ ?_|exact nT λt=>rfl|split)
def xK (k:Nat) (t:Nat->Tok) (v:Nat->T0):List Keyed:=(List.range (popK k).length).map λi=>(Value.int ((popK k).getD i 0) (t i),v i)
end
end Ts
namespace Fm
def zI (x:Int):List Int->List Int
 | []=>[x]
 | y :: r=>if x<=y then x :: y :: r else y :: zI x r
def fB:List Int->List Int
 | []=>[]
 | x :: r=>zI x (fB r)
theorem oX (x:Int):∀r,(zI x r).Perm (x :: r)
 | []=>.refl _
 | y :: r=>by
  unfold zI;split
  ·exact .refl _
  ·exact((oX x r).cons y).trans (.swap x y r)
theorem iJ:∀r,(fB r).Perm r
 | []=>.refl _
 | x :: r=>(oX x _).trans ((iJ r).cons x)
theorem uC {x:Int}:∀{r:List Int},r.Pairwise (·<=·)->(zI x r).Pairwise (·<=·)
 | [],_=>by simp[zI]
 | y :: r,h=>by
  obtain⟨h1,h2⟩:=List.pairwise_cons.mp h;unfold zI;split
  ·rename_i c
   refine List.pairwise_cons.mpr ⟨λb a => ?_,h⟩;rcases Y6.mp a with e|a
   ·rw[e];exact c
   ·exact VA c (h1 b a)
  ·rename_i c
   refine List.pairwise_cons.mpr ⟨λb a => ?_,uC h2⟩;rcases Y6.mp ((oX x r).mem_iff.mp a) with e|a
   ·rw[e];omega
   ·exact h1 b a
theorem mS:∀{r:List Int},(fB r).Pairwise (·<=·)
 | []=>by simp[fB]
 | x :: r=>uC mS
theorem oY {a r:List Int}(p:a.Perm r)(h:a.Pairwise (·<=·)):a=fB r :=
 List.Perm.eq_of_pairwise (λx y _ _ h b=>Int.le_antisymm h b) h mS (p.trans (iJ r).symm)
@[simp] def jn (L:LF):LF:=λσ h=>(L σ h).bind λl h=>match dm l with
 | some xs=>if xs.length < 64 then .ok ((fB xs).map .int) h else .bad
 | none=>.bad
end Fm
namespace Fm
open PySem PySem.Spec L2 PySem.W PyProof.Rows
section
variable {prog:T6} {w:T7} {A:T5} {E:T0->T4->Prop} {s:T4}
theorem Ez {it:Addr} {T:String} {o:Obj} {vs:List T0} {ns:List Int} {n:Nat} {Q:T0->T4->Prop} (B:T = "list"\/T = "tuple") (y:s.heap.get? it=some o) (hc:o.cls=.type T) (hd:o.data=.seq vs.toArray n) (hi:IntsAre vs ns) (j:vs.length < 64)
  (h:∀(h1 h':Heap) (e:Nat) (g:List T0) (c:List Int),(∀b u,s.heap.get? b=some u->h1.get? b=some u)->(∀b u,h1.get? b=some u->h'.get? b=some u)->h'.get? h1.objs.size=some (seqObj "list" g.toArray e)->IntsAre g c->c.Perm ns->c.Pairwise (·<=·)->Q (.ref h1.objs.size) { s with heap:=h' }) :
  wpAny (model prog w) A (call (.builtin "sorted") [.ref it]) Q E s:=by
 refine WS kind_sorted plain_sorted entry_sorted (args_sorted1 _) ?_;unfold Builtin.«sorted»;refine z0 (m:=checkCount "sorted" 1 1 _) (z3 ?_);refine z0 (wpAny_collect_seq it B y hc hd (λh1 z => ?_) (by rw[yR,wH];omega));have C:vs.toArray.toList=vs:=by simp
 rw[C];refine z0 (WX ?_ (by rw[wH];omega));have d:(h1.push (seqObj "list" vs.toArray 0)).get? h1.objs.size=some (seqObj "list" vs.toArray 0):=ZJ _ rfl;have keep:∀b u,h1.get? b=some u->(h1.push (seqObj "list" vs.toArray 0)).get? b=some u:=λb u q=>ZH _ q;show wpAny _ _ _ _ _ { s with heap:=h1.push (seqObj "list" vs.toArray 0) };show wpAny _ _ (holding [Value.ref h1.objs.size] _ >>= λ_=>_) _ _ { s with heap:=h1.push (seqObj "list" vs.toArray 0) };generalize hG:h1.push (seqObj "list" vs.toArray 0)=G at d keep;have v:G.objs.size=h1.objs.size + 1:=by rw[<-hG,X6]
 refine z0 (YC (Z4 slot_list_sort (s:={ s with heap:=G }) ⟨_,d,rfl⟩ entry_list_sort (list_sort_tree d hi j λf c t x D=>⟨_,rfl,?_⟩) (args_list_sort _)));refine z3 ⟨_,rfl,?_⟩;have a:h1.objs.size < G.objs.size:=by omega
 obtain⟨p,k⟩ : ∃p,(G.update h1.objs.size (Obj.mapSeq λ_ => #[])).get? h1.objs.size=some (seqObj "list" #[] p):=⟨_,get?_update_seq d (λ_ => #[])⟩;have l:(((G.update h1.objs.size (Obj.mapSeq λ_ => #[])).push (seqObj "tuple" vs.toArray 0)).push (seqObj "list" #[] 0)).get? h1.objs.size=some (seqObj "list" #[] p):=by
  rw[Heap.get?_push_ne _ _ _ (by rw[X6,Z3];exact ZN (yS a)),Heap.get?_push_ne _ _ _ (by rw[Z3];exact ZN a)];exact k
 have r:=get?_update_seq l (λ_=>f);refine h h1 (sortedHeap G h1.objs.size vs f) _ f.toList c z (λb u q => ?_) (by unfold sortedHeap;simpa using r) t x D;have i:b < h1.objs.size:=ZI q;have n1:b≠h1.objs.size:=ZN i;have n2:b < G.objs.size:=x3 i a;unfold sortedHeap;rw[Heap.get?_update_ne _ _ _ _ n1,Heap.get?_push_ne _ _ _ (by rw[X6,Z3];exact ZN (yS n2)),Heap.get?_push_ne _ _ _ (by rw[Z3];exact ZN n2),Heap.get?_update_ne _ _ _ _ n1];exact keep b u q
end
theorem rH:∀{a:List T0} {ns:List Int},IntsAre a ns->aY (ns.map V.int) a
 | _,_,.nil=>.nil
 | _,_,.cons n t r=>.cons ⟨t,rfl⟩ (rH r)
section
variable {X:Cx} {pos p:Pos}
def JG (K:ZX):List V->Hp->VK->Prop:=λxs H Q=>∃(a:Addr) (ns:List Int),xs=[.ref a]/\(SqL K H a (ns.map V.int)\/H a=some (.tup (ns.map V.int)))/\ns.length < 64/\∀q,H q=none->Q (.ref q) (upd H q (.lst ((fB ns).map V.int)))
theorem zJ:fO X (.builtin "sorted") (JG X.K):=by
 intro pins s σ H xs F Q I r h;obtain⟨a,ns,rfl,i,t,q⟩:=h;obtain⟨u,rfl,y⟩:=aY.one r;cases (show u=Value.ref a from y);have d:∀{T:String} {o:Obj} {f:List T0} {n:Nat},T = "list"\/T = "tuple"->s.heap.get? a=some o->o.cls=.type T->o.data=.seq f.toArray n->aY (ns.map V.int) f->wpAny (model X.prog X.w) X.A (call (.builtin "sorted") [.ref a]) (EP X pins σ Q) X.xe s:=λ{T o f n} C c hc hd k=>by
  have J:f.length=ns.length:=by have:=k.length;simpa using this.symm
  refine Ez C c hc hd (L2.mM k) (by omega) λh1 G e g A B v m x z D => ?_;have E:=oY z D;subst E;have l:Inv X pins σ H { s with heap:=h1 }:=I.kept (t':=s.toks) B;have K:(fB ns).length=ns.length:=(iJ ns).length_eq;exact⟨.ref h1.objs.size,_,l.laid (t':=s.toks) (o:=.lst ((fB ns).map V.int)) v (ZL _) ⟨by rw[ZA,wH];omega,g,e,rH x,m⟩,rfl,q _ (l.hok.fresh (ZL _))⟩
 rcases i with i|ha
 ·obtain⟨j,b,w,L⟩:=I.list i
  obtain⟨o,c,hc,n,hd⟩:=w.isList;exact d (.inl rfl) c hc hd b
 ·obtain⟨j,b,o,c,hc,n,hd⟩:=jj I.hok ha
  exact d (.inr rfl) c hc hd b
theorem JH {K:ZX}{ρ:List Addr}{H:Hp}:∀l:List Int,RDs K ρ H (l.map D.int) (l.map V.int)
 | []=>RDs.nil
 | x :: l=>RDs.cons (by simp only[RD]) (JH l)
theorem xP {a:Expr} {f:LF} (r:Gl X "sorted") (hm:X.mg "sorted" = none) (j:MQ X a f) (h:starEach [a] X.env=(false,eval a X.env) :: starEach [] X.env:=by rfl):MF X (.Call (.Name "sorted" p) [a] [] pos) (jn f):=by
 refine PE.imp (iA zJ r hm (by decide +kernel) (cP j em h) (he:=h)) λσ H Q ⟨ρ,σd,hd,m,b⟩=>⟨ρ,σd,hd,m,?_⟩;unfold jn at b;cases e:f σd hd with
 | exc x h'=>rw[e]at b;exact b
 | bad=>rw[e]at b;exact b
 | ok l hd1 =>
  rw[e]at b;simp only[aW]at b;intro v H1 k n g ⟨q,vs,hv,sq,rvs⟩;subst hv;cases c:dm l with
  | none=>rw[c]at b;exact b.elim
  | some ns =>
   rw[c]at b;simp only at b;split at b
   ·rename_i hz
    have d:=lA rvs c;subst d;exact⟨q,ns,rfl,sq,hz,λo i=>b.mk n g (JH _) o i⟩
   ·exact b.elim
end
end Fm
namespace Ts
open PySem PyProof.Rows
section
variable {prog:T6} {w:T7} {A:T5} {E:T0->T4->Prop} {s:T4}
def Lh (k:Nat) (t:Nat->Tok) (v:Nat->T0):Option (List T0):=((uB O2 vN zF).run ((xK k t v).toArray,#[],7)).map λr=>r.2.1.toList.map (·.2)
theorem oZ {k:Nat}(h:k<=6)(t:Nat->Tok)(v:Nat->T0):Lh k t v=some ((byK (·.1) ((popK k).zip ((List.range (popK k).length).map v))).map (·.2)):=by
 have:k=0\/k=1\/k=2\/k=3\/k=4\/k=5\/k=6:=by omega
 rcases this with rfl|rfl|rfl|rfl|rfl|rfl|rfl<;>kernel_rfl
theorem xQ:∀{b:List T0} {a:List Int},IntsAre b a->∀{i:Nat} (h:i < a.length),∃u,b[i]? = some (.int (a.getD i 0) u)
 | _,_,.cons n t h,i,hi=>by
  cases i with
  | zero=>exact⟨t,rfl⟩
  | succ i=>exact xQ h (XG hi)
theorem JI {α : Type}{d : α}(l:List α):l=(List.range l.length).map λi=>l.getD i d:=by
 apply List.ext_getElem
 ·simp
 ·intro i h1 h2;simp[h1]
theorem JJ {k:Nat}{ks vs:List T0}(c:IntsAre ks (popK k))(lk:(popK k).length=vs.length):∃t,ks.zip vs=xK k t λi=>vs.getD i .none:=by
 refine⟨λi=>match ks.getD i .none with | .int _ u=>u|_=>default,?_⟩;have g:=c.length;apply List.ext_getElem
 ·simp[xK];omega
 ·intro i h1 h2
  have hi:i < (popK k).length:=by simpa[xK] using h2
  obtain⟨u,b⟩:=xQ c hi;have a:i < ks.length:=by omega
  have f:i < vs.length:=by omega
  have e:ks[i]=.int ((popK k).getD i 0) u:=by
   rw[ZE a]at b;exact ZT b
  have d:ks.getD i .none=.int ((popK k).getD i 0) u:=by rw[ZF,b];rfl
  simp only[List.getElem_zip,xK,List.getElem_map,List.getElem_range,e,d];congr 1;rw[ZF,ZE f];rfl
theorem rJ:∀k,(popK k).length=2 ^ k
 | 0=>rfl
 | k + 1=>by rw[popK,ZB,ZA,rJ k,Nat.pow_succ];omega
theorem popK_le {k:Nat}(h:k<=6):(popK k).length<=64:=by
 rw[rJ];exact X1 (by decide) h
theorem sort_keyed {f:T0} {a:Addr} {vs:List T0} {kz:List Int} {n:Nat} {P:PySem.Fin->T4->Prop} (T:s.heap.get? a=some (seqObj "list" vs.toArray n)) {k:Nat} (h6:k<=6) (m:kz=popK k) (lk:kz.length=vs.length)
  (hf:∀(i:Nat) v k,vs[i]? = some v->kz[i]? = some k->∀(G:Heap) (tk:Nat),(∀b u,b≠a->s.heap.get? b=some u->G.get? b=some u)->∀Q:T0->T4->Prop,(∀t d,Q (.int k t) { s with heap:=G,toks:=d })->wpAny (model prog w) A (call f [v]) Q (λ_ _=>False) { s with heap:=G,toks:=tk })
  (h:∀(G:Heap) (tk c:Nat),(∀b u,b≠a->s.heap.get? b=some u->G.get? b=some u)->G.get? a=some (seqObj "list" ((byK (·.1) (kz.zip vs)).map (·.2)).toArray c)->P (.done (.ret .none)) { s with heap:=G,toks:=tk }) :
  wpAny (model prog w) A (ksk_tree a f false) P E s:=by
 have hz:vs.length<=100000:=by rw[<-lk,m];exact ZM (popK_le h6) (by decide)
 unfold ksk_tree;have ha:a < s.heap.objs.size:=ZI T;refine z0 (listItems_at T rfl (z0 (WW T rfl ?_)));obtain⟨C,H⟩ : ∃C,(s.heap.update a (Obj.mapSeq λ_ => #[])).get? a=some (seqObj "list" #[] C):=⟨_,get?_update_seq T (λ_ => #[])⟩;refine z0 (seqEpoch_at H rfl (z0 (wpAny_newTuple ?_ (by rw[wH];simp;omega))));refine z0 (WX ?_);refine YC ?_;obtain⟨H1,y⟩ : ∃H1,H1=s.heap.update a (Obj.mapSeq λ_ => #[]):=⟨_,rfl⟩;rw[<-y]at H;have D:H1.objs.size=s.heap.objs.size:=by rw[y,Z3]
 have n1:a≠H1.objs.size:=by rw[D];exact ZN ha
 obtain⟨l,o⟩ : ∃l,l=H1.push (seqObj "tuple" vs.toArray 0):=⟨_,rfl⟩;have n2:a≠l.objs.size:=by rw[o,X6,D];exact ZN (yS ha)
 have V:(l.push (seqObj "list" #[] 0)).get? a=some (seqObj "list" #[] C):=by
  rw[Heap.get?_push_ne _ _ _ n2,o,Heap.get?_push_ne _ _ _ n1];exact H
 have X:(l.push (seqObj "list" #[] 0)).get? l.objs.size=some (seqObj "list" #[] 0):=ZJ _ rfl;have W:∀b u,b≠a->s.heap.get? b=some u->(l.push (seqObj "list" #[] 0)).get? b=some u:=λb u J e=>ZH _ (by rw[o];exact ZH _ (by rw[y];exact(Heap.get?_update_ne _ _ _ _ J).trans e));have Y:∀b u,s.heap.get? b=some u->b≠l.objs.size:=λb u e=>by rw[o,X6,D];exact ZN (yS (ZI e))
 have a1:∀b u,s.heap.get? b=some u->b≠l.objs.size:=Y;show wpAny (model prog w) A (ksk_rest a f false vs.toArray C (.ref (Heap.objs (Heap.push (Heap.update s.heap a (Obj.mapSeq λ_ => #[])) (seqObj "tuple" vs.toArray 0))).size)) P E { s with heap:=(Heap.push (Heap.push (Heap.update s.heap a (Obj.mapSeq λ_ => #[])) (seqObj "tuple" vs.toArray 0)) (seqObj "list" #[] 0)) };rw[<-y,<-o];unfold ksk_rest;refine z0 (W3 ?_);rw[List.forIn_toArray];refine z0 (ksk_fold (I:=λj S=>∃G tk p e,S = { s with heap:=G,toks:=tk }/\G.get? l.objs.size=some (seqObj "list" (List.toArray p) e)/\IntsAre p (kz.take j)/\G.get? a=some (seqObj "list" #[] C)/\∀b u,b≠a->s.heap.get? b=some u->G.get? b=some u) vs 0 _ ⟨_,s.toks,[],0,rfl,X,by rw[List.take_zero];exact .nil,V,W⟩ ?_ ?_)
 ·rintro j x S hx ⟨G,tk,p,e,rfl,L,q,Z,U⟩
  rw[wF]at q ⊢;have hj:j < vs.length:=(List.getElem?_eq_some_iff.mp hx).1;have M:j < kz.length:=by rw[lk];exact hj
  refine z0 (X7 (XI (hf j x kz[j] hx (ZE M) G tk U (λv R=>∃t d,v=.int kz[j] t/\R = { s with heap:=G,toks:=d }) λt d=>⟨t,d,rfl,rfl⟩) ?_ λ_ _ z=>z.elim));rintro v R ⟨t,d,rfl,rfl⟩;dsimp only;have kl:p.length=j:=by rw[q.length,XH];omega
  refine z0 (WW (s:={ s with heap:=G,toks:=d }) L rfl (z3 ⟨rfl,?_⟩) (by simp only[yR,wH];omega) (by simp only[Array.size_push,yR,wH];omega));have up:=get?_update_seq L (λxs=>xs.push (.int kz[j] t));refine⟨_,d,p++[.int kz[j] t],_,rfl,by rw[up];simp only[List.push_toArray];rfl,?_,?_,λb u J N => ?_⟩
  ·rw[YZ M];exact ksk_snoc q
  ·rw[Heap.get?_update_ne _ _ _ _ n2];exact Z
  ·rw[Heap.get?_update_ne _ _ _ _ (Y b u N)];exact U b u J N
 rintro S ⟨G,tk,p,e,rfl,L,q,Z,U⟩;rw[wF,<-lk,WC]at q;refine z0 (listItems_at (s:={ s with heap:=G,toks:=tk }) L rfl ?_);have kl:p.length=vs.length:=by rw[q.length,lk]
 have B:∀{kd:SortKind} {xs:Array Keyed} {pd:Array (Nat × Nat × Nat)} {g:Nat},xs.toList.map (·.2)=(byK (·.1) (kz.zip vs)).map (·.2)->wpAny (model prog w) A (ksk_tail a false C (.ref l.objs.size) (SortSt.mk' kd xs pd g none)) P E { s with heap:=G,toks:=tk }:=λ{kd xs pd g} z1=>by
  have zl:xs.size=vs.length:=by
   have:=congrArg List.length z1;rw[ZA,ZA,XE,(byK_perm _ _).length_eq,List.length_zip,lk,Nat.min_self]at this;exact this
  unfold ksk_tail;dsimp only;refine z0 (WW (s:={ s with heap:=G,toks:=tk }) L rfl (z0 (wpAny_letGo ?_)) (by simp only[yR,wH];omega) (by simp));have F:(G.update l.objs.size (Obj.mapSeq λ_ => #[])).get? a=some (seqObj "list" #[] C):=by rw[Heap.get?_update_ne _ _ _ _ n2];exact Z
  refine z0 (seqEpoch_at (s:={ s with heap:=G.update l.objs.size (Obj.mapSeq λ_ => #[]),toks:=tk }) F rfl ?_);refine z0 (WW (s:={ s with heap:=G.update l.objs.size (Obj.mapSeq λ_ => #[]),toks:=tk }) F rfl ?_ (by simp) (by show (xs.map (·.2)).size<=_;rw[Array.size_map,zl,wH];omega));simp only[bne_self_eq_false,wJ,YQ];show wpAny (model prog w) A (PySem.ret Value.none) P E _;have e0:xs.map (·.2)=((byK (·.1) (kz.zip vs)).map (·.2)).toArray:=by
   rw[<-z1,<-Array.toList_map]
  obtain⟨c,hc⟩ : ∃c,((G.update l.objs.size (Obj.mapSeq λ_ => #[])).update a (Obj.mapSeq λ_=>xs.map (·.2))).get? a=some (seqObj "list" ((byK (·.1) (kz.zip vs)).map (·.2)).toArray c):=⟨_,by
   have:=get?_update_seq F (λ_=>xs.map (·.2));rw[this,<-e0]⟩
  refine z3 (h _ tk c (λb u J N => ?_) hc);show ((G.update _ _).update a _).get? b=_;rw[Heap.get?_update_ne _ _ _ _ J,Heap.get?_update_ne _ _ _ _ (Y b u N)];exact U b u J N
 unfold ksk_end;dsimp only;simp only[wJ,YQ];have zp:((List.toArray p).zip vs.toArray).toList=p.zip vs:=ksk_zip _ _;rw[m]at q;obtain⟨t,ht⟩:=JJ q (by rw[<-m];exact lk);have K:=oZ h6 t λi=>vs.getD i .none;rw[<-m,lk,<-JI vs]at K
 by_cases h2:vs.toArray.size < 2
 ·rw[z4 h2,z4 h2]
  refine z0 (z3 (z0 (z3 ?_)));refine B ?_;rw[zp];cases k with
  | zero =>
   subst m;have lv:vs.length=1:=lk.symm;obtain⟨v,rfl⟩:=List.length_eq_one_iff.mp lv;obtain⟨u,rfl⟩:=List.length_eq_one_iff.mp (kl.trans lv);rfl
  | succ k =>
   rw[m,rJ,Nat.pow_succ]at lk;have:=Nat.two_pow_pos k;simp at h2;omega
 ·rw[z5 h2,z5 h2]
  have a0:2<=vs.length:=by simp at h2;omega
  rw[ksk_kind (keys:=p.toArray) q (by simp;omega)];refine z0 (z3 ?_);have ea:(List.toArray p).zip vs.toArray=(xK k t λi=>vs.getD i .none).toArray:=by rw[<-ht,<-zp]
  rw[ea,GM];unfold Lh at K;cases e:(uB O2 vN zF).run ((xK k t λi=>vs.getD i .none).toArray,#[],7) with
  | none=>rw[e]at K;cases K
  | some r =>
   rw[e]at K;refine z0 (XI (Ey _ _ _ e (λ_ O=>O=emb r.2) rfl) ?_ λ_ _ e=>e);rintro⟨⟨⟩,O⟩ S ⟨rfl,rfl⟩;exact B (ZT K)
end
end Ts
namespace Fm
open PySem PySem.Spec L2 PySem.W PyProof.Rows
section
variable {X:Cx} {pos p p2 kpos:Pos}
inductive nV (K:ZX) (H:Hp):List V->List Int->Prop
 | nil:nV K H [] []
 | cons {b:Addr} {ys vs:List V} {kz:List Int} (h:SqL K H b ys) (t:nV K H vs kz):nV K H (.ref b :: vs) ((ys.length:Int) :: kz)
theorem nV.length {K:ZX}{H:Hp}:∀{a:List V} {b:List Int},nV K H a b->b.length=a.length
 | _,_,.nil=>rfl
 | _,_,.cons _ t=>by simp[t.length]
theorem nV.at {K:ZX}{H:Hp}:∀{d:List V} {c:List Int} {a:List T0},nV K H d c->aY d a->∀(i:Nat) v k,a[i]? = some v->c[i]? = some k->∃b ys,v=.ref b/\SqL K H b ys/\k=(ys.length:Int)
 | _,_,_,.nil,.nil,i,v,k,h,_=>by simp at h
 | _,_,_,.cons (b:=b) (ys:=ys) h0 t,.cons rv rt,i,v,k,h1,h2=>by
  cases rv;cases i with
  | zero=>simp at h1 h2;exact⟨b,ys,h1.symm,h0,h2.symm⟩
  | succ i=>exact t.at rt i v k (by simpa using h1) (by simpa using h2)
theorem EA:∀{f:List V} {c:List T0} (d:List Int),aY f c->aY ((Ts.byK (·.1) (d.zip f)).map (·.2)) ((Ts.byK (·.1) (d.zip c)).map (·.2)):=by
 have h:∀{x:Int × V} {y:Int × T0} (e:x.1=y.1) (i:bJ x.2 y.2) {l:List (Int × V)} {m:List (Int × T0)},l.map (·.1)=m.map (·.1)->aY (l.map (·.2)) (m.map (·.2))->(Ts.insK (·.1) x l).map (·.1)=(Ts.insK (·.1) y m).map (·.1)/\aY ((Ts.insK (·.1) x l).map (·.2)) ((Ts.insK (·.1) y m).map (·.2)):=by
  intro x y e i l
  induction l with
  | nil =>
   intro m h1 h2;cases m with
   | nil=>exact⟨by simp[Ts.insK,e],.cons i .nil⟩
   | cons _ _=>simp at h1
  | cons a l ih =>
   intro m h1 h2;cases m with
   | nil=>simp at h1
   | cons b m =>
    simp only[yP,Y4]at h1;cases h2 with
    | cons r1 r2 =>
     unfold Ts.insK;rw[e,h1.1];split
     ·exact⟨by simp[e,h1.1,h1.2],.cons i (.cons r1 r2)⟩
     ·obtain⟨q1,q2⟩:=ih h1.2 r2
      exact⟨by simp[h1.1,q1],.cons r1 q2⟩
 have go:∀{f:List V} {c:List T0} (d:List Int),aY f c->∀{l:List (Int × V)} {m:List (Int × T0)},l.map (·.1)=m.map (·.1)->aY (l.map (·.2)) (m.map (·.2))->aY (((d.zip f).foldl (λg x=>Ts.insK (·.1) x g) l).map (·.2)) (((d.zip c).foldl (λg x=>Ts.insK (·.1) x g) m).map (·.2)):=by
  intro f
  induction f with
  | nil =>
   intro c d r l m h1 h2;cases r;cases d<;>exact h2
  | cons v f ih =>
   intro c d r l m h1 h2;cases r with
   | cons r1 r2 =>
    cases d with
    | nil=>exact h2
    | cons k d =>
     simp only[List.zip_cons_cons,Y2];obtain⟨q1,q2⟩:=h (x:=(k,_)) (y:=(k,_)) rfl r1 h1 h2;exact ih d r2 q1 q2
 intro f c d r;exact go d r (l:=[]) (m:=[]) rfl .nil
def EB (K:ZX):List V->Hp->VK->Prop:=λxs H Q=>∃(a:Addr) (vs:List V) (kz:List Int),xs=[.ref a]/\SqL K H a vs/\(∃k,k<=6/\kz=Ts.popK k)/\nV K H vs kz/\∀q,H q=none->Q (.ref q) (upd H q (.lst ((Ts.byK (·.1) (kz.zip vs)).map (·.2))))
theorem zK {pins:List (Addr × Obj)}{s:T4}{σ:L2.St}{H:Hp}{xs:List V}{M:List T0}{Q:VK}(I:Inv X pins σ H s)(r:aY xs M)(h:EB X.K xs H Q) :
  wpAny (model X.prog X.w) X.A (call (.builtin "sorted") M [(Str.ofString "key",.builtin "len")]) (EP X pins σ Q) X.xe s:=by
 obtain⟨a,y,kz,rfl,Z,⟨k,L,t⟩,F,q⟩:=h;have a0:y.length<=1000:=by rw[<-F.length,t];exact ZM (Ts.popK_le L) (by decide)
 obtain⟨u,rfl,T⟩:=aY.one r;cases (show u=Value.ref a from T);obtain⟨d,e,S,hz⟩:=I.list Z;have Y:s.heap.IsList a d.toArray:=S.isList;have w:d.length=y.length:=e.length.symm;obtain⟨o,W,hc,n,hd⟩:=Y;refine call_function_entry_kw kind_sorted plain_sorted entry_sorted (ksk_s1 _ _) ?_;unfold Builtin.«sorted»;refine z0 (m:=checkCount "sorted" 1 1 _) (z3 ?_);refine z0 (wpAny_collect_seq a (.inl rfl) W hc hd (λh1 N => ?_) (by rw[yR,wH];omega));have et:d.toArray.toList=d:=by simp
 rw[et];refine z0 (WX ?_ (by rw[wH];omega));have f:(h1.push (seqObj "list" d.toArray 0)).get? h1.objs.size=some (seqObj "list" d.toArray 0):=ZJ _ rfl;have keep:∀b u,h1.get? b=some u->(h1.push (seqObj "list" d.toArray 0)).get? b=some u:=λb u z=>ZH _ z;show wpAny _ _ (holding [Value.ref h1.objs.size] _ >>= λ_=>_) _ _ { s with heap:=h1.push (seqObj "list" d.toArray 0) };generalize hG:h1.push (seqObj "list" d.toArray 0)=G at f keep;have P:Inv X pins σ H { s with heap:=h1 }:=I.kept (t':=s.toks) N;refine z0 (YC (wpAny_call_entry_kw slot_list_sort (s:={ s with heap:=G }) ⟨_,f,rfl⟩ entry_list_sort (by
  rw[ksk_t4];refine Ts.sort_keyed (s:={ s with heap:=G }) (kz:=kz) f L t (by rw[F.length,w]) (λi v k hv hk x tk B Q2 K => ?_) λx tk c B C=>⟨_,rfl,?_⟩
  ·obtain⟨b,ys,rfl,sb,rfl⟩:=F.at e i v k hv hk
   obtain⟨l,g,E,a1⟩:=I.list sb;obtain⟨j,A,D,n2,J⟩:=E.isList;have O:=N b j A;have U:x.get? b=some j:=B b j (ZN (ZI O)) (keep b j O);have hn:=oK;refine Calls.call_len_list (s:={ s with heap:=x,toks:=tk }) (items:=l.toArray) ⟨j,U,D,n2,J⟩ (by rw[yR,<-g.length];omega) ?_;rw[yR,<-g.length];exact K _ _
  ·refine z3 ⟨_,rfl,?_⟩
   have R:∀b u,h1.get? b=some u->x.get? b=some u:=λb u z=>B b u (ZN (ZI z)) (keep b u z);have rv:=EA kz e;have vl:((Ts.byK (·.1) (kz.zip y)).map (·.2)).length<=1000:=by
    rw[ZA,(Ts.byK_perm _ _).length_eq,List.length_zip];omega
   exact⟨.ref h1.objs.size,_,P.laid (t':=tk) (o:=.lst ((Ts.byK (·.1) (kz.zip y)).map (·.2))) R (ZL _) ⟨by rw[wH];omega,_,c,rv,C⟩,rfl,q _ (P.hok.fresh (ZL _))⟩) (ksk_l1 _ _)))
theorem GQ {K:ZX}{ρ:List Addr}{H:Hp}:∀{l:List D} {d:List V} (c:List Int),RDs K ρ H l d->RDs K ρ H ((Ts.byK (·.1) (c.zip l)).map (·.2)) ((Ts.byK (·.1) (c.zip d)).map (·.2)):=by
 have n:∀{x:Int × D} {y:Int × V} (e:x.1=y.1) (o:RD K ρ H x.2 y.2) {l:List (Int × D)} {m:List (Int × V)},l.map (·.1)=m.map (·.1)->RDs K ρ H (l.map (·.2)) (m.map (·.2))->(Ts.insK (·.1) x l).map (·.1)=(Ts.insK (·.1) y m).map (·.1)/\RDs K ρ H ((Ts.insK (·.1) x l).map (·.2)) ((Ts.insK (·.1) y m).map (·.2)):=by
  intro x y e o l
  induction l with
  | nil =>
   intro m h1 h2;cases m with
   | nil=>exact⟨by simp[Ts.insK,e],⟨_,_,rfl,o,rfl⟩⟩
   | cons _ _=>simp at h1
  | cons a l ih =>
   intro m h1 h2;cases m with
   | nil=>simp at h1
   | cons b m =>
    simp only[yP,Y4]at h1;obtain⟨v,r,j,h,i⟩:=h2;cases j;unfold Ts.insK;rw[e,h1.1];split
    ·exact⟨by simp[e,h1.1,h1.2],⟨_,_,rfl,o,⟨_,_,rfl,h,i⟩⟩⟩
    ·obtain⟨q1,q2⟩:=ih h1.2 i
     exact⟨by simp[h1.1,q1],⟨_,_,rfl,h,q2⟩⟩
 have go:∀{d:List D} {f:List V} (c:List Int),RDs K ρ H d f->∀{l:List (Int × D)} {m:List (Int × V)},l.map (·.1)=m.map (·.1)->RDs K ρ H (l.map (·.2)) (m.map (·.2))->RDs K ρ H (((c.zip d).foldl (λg x=>Ts.insK (·.1) x g) l).map (·.2)) (((c.zip f).foldl (λg x=>Ts.insK (·.1) x g) m).map (·.2)):=by
  intro d
  induction d with
  | nil =>
   intro f c r l m h1 h2;cases r;cases c<;>exact h2
  | cons v d ih =>
   intro f c r l m h1 h2;obtain⟨s,q,j,h,i⟩:=r;cases j;cases c with
   | nil=>exact h2
   | cons k c =>
    simp only[List.zip_cons_cons,Y2];obtain⟨q1,q2⟩:=n (x:=(k,_)) (y:=(k,_)) rfl h h1 h2;exact ih c i q1 q2
 intro l d c r;exact go c r (l:=[]) (m:=[]) rfl rfl
theorem xR {K:ZX}{ρ:List Addr}{H:Hp}{hd:Hd}(r:RH K ρ H hd):∀{l:List D} {d:List V} {b:List Int},RDs K ρ H l d->xL hd l=some b->nV K H d b
 | [],_,_,h,e=>by cases h;cases e;exact .nil
 | x :: l,_,_,h,e=>by
  obtain⟨v,m,rfl,i,g⟩:=h;unfold xL at e;cases e1:xJ hd x with
  | none=>rw[e1]at e;cases e
  | some k =>
   cases e2:xL hd l with
   | none=>rw[e1,e2]at e;cases e
   | some kz' =>
    rw[e1,e2]at e;cases e;have t:=xR r g e2;cases x with
    | ref n =>
     replace e1:(match hd[n]? with|some (.lst l)=>some (l.length:Int)|_=>none)=some k:=e1;cases c:hd[n]? with
     | none=>rw[c]at e1;cases e1
     | some cl =>
      rw[c]at e1;cases cl with
      | lst l' =>
       cases e1;obtain⟨q,j,rfl,f,a⟩:=ma r i (l:=l') (by simp[dI,c]);rw[RDs.length a];exact .cons f t
      | dct _=>cases e1
      | dcT _=>cases e1
    | _=>cases e1
theorem zL {a:Expr} {fa:EF} (F:Gl X "sorted") (hm:X.mg "sorted" = none) (k:Gl X "len") (j:X.mg "len" = none) (y:ME X a fa) (i:starEach [a] X.env=(false,eval a X.env) :: starEach [] X.env:=by rfl):MF X (.Call (.Name "sorted" p) [a] [⟨some "key",.Name "len" p2,kpos⟩] pos) (lH fa):=by
 have t:PE X (.Call (.Name "sorted" p) [a] [⟨some "key",.Name "len" p2,kpos⟩] pos) (tCB (EB X.K) (HQ (lq X.K (rD X.K) fa) KI)):=by
  intro pins s σ H Q I h;refine W2 (jY (u:=.builtin "sorted") I F hm (by decide +kernel) ?_);refine callWith_kw (thn ((cP y em i) pos pins s σ H _ I h) λG o ⟨n,H1,m,w,q1⟩ => ?_) (by rw[i];rfl) (by rw[i];rfl) rfl rfl;show wpAny _ _ (evalAll [(do let v <-eval (.Name "len" p2) X.env;standAt pos;pure v)]) _ _ o;refine wpAny_evalAll_cons (z0 (jY (u:=.builtin "len") m k j (by decide +kernel) (z0 (wpAny_standAt (z3 ?_)))));refine wpAny_evalAll_nil ?_;exact zK m w q1
 refine PE.imp t λσ H Q ⟨ρ,σd,hd,C,b⟩=>⟨ρ,σd,hd,C,?_⟩;unfold lH at b;cases e:fa σd hd with
 | exc x h'=>rw[e]at b;exact b
 | bad=>rw[e]at b;exact b
 | ok d hd1 =>
  rw[e]at b;simp only[aW]at b;intro v H1 z D f B;cases c:dI hd1 d with
  | none=>rw[c]at b;exact b.elim
  | some l =>
   rw[c]at b;simp only at b;cases c2:xL hd1 l with
   | none=>rw[c2]at b;exact b.elim
   | some kz =>
    rw[c2]at b;simp only at b;split at b
    ·rename_i hc
     obtain⟨q,n,rfl,A,g⟩:=ma f.hp B c;exact⟨q,n,kz,rfl,A,hc,xR f.hp g c2,λE r=>b.mk D f (GQ kz g) E r⟩
    ·exact b.elim
end
end Fm
namespace Fm
open PySem
abbrev tG (xs:Array Nat):Prop:=xs.toList.Pairwise (· < ·)
variable {xs:Array Nat}
theorem tG.lt (r:tG xs){i j:Nat}(a:j < xs.size)(h:i < j):xs[i]'(by omega) < xs[j]:=by
 have:=List.pairwise_iff_getElem.mp r i j (by simpa using x3 h a) (by simpa using a) h;simpa using this
theorem rK {xs:Array Nat}{j:Nat}(r:tG xs):∀(mE lo hi:Nat),lo<=hi->hi<=xs.size->hi - lo<=mE->(∀i (q:i < xs.size),i < lo->xs[i] < j)->(∀i (q:i < xs.size),hi<=i->j<=xs[i])->
  SetTable.below.go xs j mE lo hi<=xs.size/\(∀i (q:i < xs.size),i < SetTable.below.go xs j mE lo hi->xs[i] < j)/\(∀i (q:i < xs.size),SetTable.below.go xs j mE lo hi<=i->j<=xs[i])
 | 0,lo,hi,h1,h2,h3,h4,h5=>by
  have:lo=hi:=by omega
  subst this;exact⟨h2,h4,h5⟩
 | mE + 1,lo,hi,h1,h2,h3,h4,h5=>by
  unfold SetTable.below.go
  by_cases c:lo < hi
  ·rw[z4 c]
   have a:(lo + hi) / 2 < xs.size:=by omega
   have e:xs.getD ((lo + hi) / 2) j=xs[(lo + hi) / 2]:=by simp[Array.getD,a]
   simp only[e]
   by_cases c2:xs[(lo + hi) / 2] < j
   ·rw[z4 c2]
    refine rK r mE _ _ (by omega) h2 (by omega) (λi q l => ?_) h5
    by_cases e2:i=(lo + hi) / 2
    ·subst e2;exact c2
    ·exact x3 (r.lt a (by omega)) c2
   ·rw[z5 c2]
    refine rK r mE _ _ (by omega) (by omega) (by omega) h4 λi q l => ?_
    by_cases e2:i=(lo + hi) / 2
    ·subst e2;omega
    ·have:=r.lt q (i:=(lo + hi) / 2) (by omega)
     omega
  ·rw[z5 c]
   have:lo=hi:=by omega
   subst this;exact⟨h2,h4,h5⟩
theorem rL {j:Nat}(r:tG xs):SetTable.below xs j<=xs.size/\(∀i (q:i < xs.size),i < SetTable.below xs j->xs[i] < j)/\(∀i (q:i < xs.size),SetTable.below xs j<=i->j<=xs[i]) :=
 rK r _ _ _ (Z8 _) (ZL _) (by omega) (λi q l=>absurd l (YB _)) λi q l=>absurd q (Nat.not_lt.mpr l)
theorem rM (r:tG xs){k:Nat}(d:k < xs.size):SetTable.below xs (xs[k] + 1)=k + 1:=by
 obtain⟨a,b,c⟩:=rL (j:=xs[k] + 1) r;rcases Nat.lt_trichotomy (SetTable.below xs (xs[k] + 1)) (k + 1) with h|h|h
 ·have:=c k d (by omega);omega
 ·exact h
 ·have h1:k + 1 < xs.size:=by omega
  have:=b (k + 1) h1 h;have:=r.lt h1 (wB k);omega
theorem rN (r:tG xs):SetTable.below xs 0=0:=by
 obtain⟨a,b,c⟩:=rL (j:=0) r
 by_cases h:SetTable.below xs 0=0
 ·exact h
 ·exact absurd (b 0 (by omega) (by omega)) (by omega)
theorem xS {j:Nat}(r:tG xs)(n:xs[SetTable.below xs j]? ≠some j):tG (SetTable.insertAt xs (SetTable.below xs j) j):=by
 obtain⟨a,b,c⟩:=rL (j:=j) r;generalize SetTable.below xs j=p at a b c n;show List.Pairwise _ _;rw[SetTable.toList_insertAt];have k:(xs.toList.take p++xs.toList.drop p).Pairwise (· < ·):=by rw[WK];exact r
 rw[List.pairwise_append]at k ⊢;have lo:∀x∈xs.toList.take p,x < j:=λx d=>by
  obtain⟨i,hi,e⟩:=List.mem_take_iff_getElem.mp d;have q:i < xs.size:=by simp at hi;omega
  have:=b i q (by omega);simpa[<-e] using this
 have l:∀x∈xs.toList.drop p,j < x:=λx d=>by
  obtain⟨i,hi,e⟩:=List.mem_drop_iff_getElem.mp d;have q:i + p < xs.size:=by simp at hi;omega
  have h1:=c (i + p) q (by omega);have m:x=xs[i + p]:=by rw[<-e];simp;congr 1;omega
  rcases Nat.lt_or_ge j x with h|h
  ·exact h
  ·exfalso
   have h2:x=j:=by omega
   by_cases i0:i=0
   ·subst i0
    apply n;have f:p < xs.size:=by omega
    rw[Array.getElem?_eq_getElem f,<-h2,m];congr 1;congr 1;omega
   ·have f:p < xs.size:=by omega
    have s:=r.lt q (i:=p) (by omega);have o:=c p f (ZL _);omega
 exact⟨k.1,List.pairwise_cons.mpr ⟨l,k.2.1⟩,λx d y g=>by
  rcases Y6.mp g with rfl|g
  ·exact lo x d
  ·exact x3 (lo x d) (l y g)⟩
theorem zM (n:Nat):tG (Array.range n):=by
 show List.Pairwise _ _;rw[Array.toList_range];exact YJ
structure GT (led:Bool) (t:SetTable):Prop where
 up:tG t.place
 no:t.dummies = #[]
 le:t.led=led
theorem GT.fresh (led:Bool):GT led (.fresh 0 0 led):=⟨List.Pairwise.nil,rfl,rfl⟩
theorem GT.standIn {led:Bool}{t:SetTable}(g:GT led t)(n:Nat):GT led (t.standIn n):=⟨zM n,rfl,g.le⟩
theorem EC (j:Nat):SetTable.has #[] j=false:=rfl
theorem Cy {t:SetTable}{j:Nat}(h:t.slot j=.empty):t.place[SetTable.below t.place j]? ≠some j:=λe=>by
 unfold SetTable.slot at h;simp[e]at h
theorem vP {t:SetTable}{j:Nat}(n:t.dummies = #[]):t.slot j ≠ .dummy:=λe=>by
 unfold SetTable.slot at e;rw[n]at e;simp only[EC]at e;split at e<;>simp at e
theorem tI (t:SetTable)(p:SetTable.Probe):(t.advance p).dummy=p.dummy:=by
 unfold SetTable.advance;split<;>rfl
theorem rP {t:SetTable}(n:t.dummies = #[])(f:Nat->Int)(h:Int):∀(mE:Nat) (p:SetTable.Probe) {j:Nat} {d:Option Nat},p.dummy=none->SetTable.probe.go t f h mE p=some (.empty j d)->d=none/\t.slot j=.empty
 | 0,_,_,_,_,e=>by cases e
 | mE + 1,p,j,d,pd,e=>by
  unfold SetTable.probe.go at e;cases c:t.slot p.j with
  | empty =>
   rw[c]at e;simp only[YA,SetTable.Met.empty.injEq]at e;obtain⟨rfl,rfl⟩:=e;exact⟨pd,c⟩
  | dummy=>exact absurd c (vP n)
  | live i =>
   rw[c]at e;simp only at e;split at e
   ·simp at e
   ·exact rP n f h mE _ (by rw[tI];exact pd) e
theorem GR {t:SetTable}(n:t.dummies = #[]){h:Int}{j:Nat}{b:Bool}(e:t.freeSlot h=some (j,b)):t.slot j=.empty:=by
 unfold SetTable.freeSlot at e;split at e
 ·rename_i j' d q
  obtain⟨rfl,s⟩:=rP n _ h _ _ rfl q;cases e;exact s
 ·cases e
theorem GT.layNew {led:Bool}{t:SetTable}(g:GT led t)(es:Array (Int × T0))(h:Int)(x:T0):GT led (layNew t es h x).2.1:=by
 unfold PySem.layNew;split
 ·rename_i slot wd e
  have f:=GR g.no e;have a:GT led (t.put slot).1:=⟨xS g.up (Cy f),by
   show (if SetTable.has t.dummies slot then _ else t.dummies) = #[];rw[g.no,EC];rfl,g.le⟩
  show GT led (SetTable.orStandIn _ _);unfold SetTable.orStandIn;split
  ·exact a
  ·exact a.standIn _
 ·exact g.standIn _
theorem GT.relayAll {led:Bool}{t:SetTable}(g:GT led t)(es:Array (Int × T0))(n:Nat):GT led (relayAll t es n).2.1:=by
 unfold PySem.relayAll;split
 ·rename_i t' order e
  dsimp only;split
  ·unfold SetTable.relaid SetTable.laid at e
   cases c:SetTable.layClean (SetTable.sizeAbove n - 1) (es.map (·.1)) with
   | none=>rw[c]at e;cases e
   | some owner =>
    rw[c]at e;cases e;refine⟨?_,rfl,g.le⟩;show List.Pairwise _ _;simp only[List.map_filterMap];rw[List.pairwise_filterMap];refine List.Pairwise.imp ?_ YJ;intro a b h x f y d;have ex:x=a:=by
     cases q:owner.getD a none with
     | none=>rw[q]at f;cases f
     | some k=>rw[q]at f;cases f;rfl
    have i:y=b:=by
     cases q:owner.getD b none with
     | none=>rw[q]at d;cases d
     | some k=>rw[q]at d;cases d;rfl
    subst ex;subst i;exact h
  ·exact g.standIn _
 ·exact g.standIn _
end Fm
namespace Fm
open PySem PySem.Spec
def mJ:Int × T0->Int
 | (_,.int n _)=>n
 | _=>0
section
variable (prog:T6) (w:T7)
structure vQ (led:Bool) (es:Array (Int × T0)) (t:SetTable) (ns:List Int):Prop where
 el:ElemsOf (intKind prog w) es.toList
 ks:(es.toList.map mJ).Perm ns
 fit:t.fits es.size=true
 gt:GT led t
def dL (led:Bool) (a:Addr) (ns:List Int) (h:Heap):Prop :=
 ∃es ep t,h.get? a=some { cls:=.type "set",dict:=none,data:=.set es ep t }/\vQ prog w led es t ns
end
section
variable {prog:T6} {w:T7} {A:T5} {E:T0->T4->Prop} {s:T4} {led:Bool} {es:Array (Int × T0)} {t:SetTable} {ns:List Int} {a:Addr}
theorem vQ.len (g:vQ prog w led es t ns):es.size=ns.length:=by
 have:=g.ks.length_eq;simpa using this
theorem vR {e:Int × T0}{k:Int}(h:(intKind prog w).is k e.2=true):mJ e=k:=by
 obtain⟨x,y⟩:=e;obtain⟨t,e⟩:=W6 (show Value.isInt k y=true from h);subst e;rfl
theorem vQ.mem (g:vQ prog w led es t ns)(k:Int):k∈ns ↔ ∃e∈es.toList,(intKind prog w).is k e.2=true:=by
 rw[<-g.ks.mem_iff,List.mem_map];constructor
 ·rintro⟨e,b,rfl⟩
  obtain⟨⟨c,h1,_⟩,_⟩:=g.el e b;exact⟨e,b,by rw[vR h1];exact h1⟩
 ·rintro⟨e,b,q⟩
  exact⟨e,b,vR q⟩
theorem dL.put {h:Heap} {o:Obj} {es':Array (Int × T0)} {ep:Nat} {t':SetTable} (b:h.get? a=some { cls:=.type "set",dict:=none,data:=.set es ep t }) :
  (h.update a (Obj.putSet es' t')).get? a=some { cls:=.type "set",dict:=none,data:=.set es' (ep + 1) t' }:=by
 have:=Heap.get?_update_self (Obj.putSet es' t') b rfl;exact this
theorem Bt {g:Bool->Sem Unit}(y:∀(b:Bool) (f : T4) (q:Unit->T4->Prop),q () f->wpAny (model prog w) A (g b) q E f){ep:Nat}{c:Array (Int × T0)}{d:SetTable}
  (n:s.heap.get? a=some { cls:=.type "set",dict:=none,data:=.set es ep t }) (G:vQ prog w led c d ns) (r:ns.length < scanBound) {x:Bool} {R:Option Bool->T4->Prop}
  (h:∀h',Heap.SameBut a s.heap h'->dL prog w led a ns h'->R (some true) { s with heap:=h' }) :
  wpAny (model prog w) A (storeSet a c d >>= λ_=>if (!x && d.tooFull)=true then g (relayAll d c (SetTable.grown c.size)).2.2 >>= λ_=>storeSet a (relayAll d c (SetTable.grown c.size)).1 (relayAll d c (SetTable.grown c.size)).2.1 >>= λ_=>pure (some true) else pure (some true)) R E s:=by
 have v:c.size < scanBound:=by rw[G.len];exact r
 refine z0 (wpAny_storeSet_of n rfl ?_ (VB v));have l:=dL.put (o:=default) (es':=c) (t':=d) n;have u:=Y0 s.heap a (Obj.putSet c d);split
 ·have j:=relayAll_perm d c (SetTable.grown c.size)
  have k:=relayAll_fits d c (SetTable.grown c.size);have m:=G.gt.relayAll c (SetTable.grown c.size);generalize relayAll d c (SetTable.grown c.size)=L at j k m;obtain⟨e,i,z⟩:=L;dsimp only at j k m ⊢;have p:vQ prog w led e i ns:=⟨G.el.perm j,(j.map mJ).trans G.ks,k,m⟩;refine z0 (y _ _ _ ?_);refine z0 (wpAny_storeSet_of l rfl ?_ (VB (by rw[p.len];exact r)));refine z3 ?_;refine h ((s.heap.update a (Obj.putSet c d)).update a (Obj.putSet e i)) (u.trans (Y0 _ a (Obj.putSet e i))) ?_;exact⟨e,_,i,dL.put (o:=default) l,p⟩
 ·exact z3 (h _ u ⟨c,_,d,l,G⟩)
theorem ED {k:Int}{tk:Tok}{Q:Bool->T4->Prop}(F:dL prog w led a ns s.heap)(y:ns.length + 1 < scanBound)
  (h:∀h' b,Heap.SameBut a s.heap h'->dL prog w led a (if k∈ns then ns else k :: ns) h'->Q b { s with heap:=h' }) :
  wpAny (model prog w) A (setAddHashed a (.int k tk) (hashInt k)) Q E s:=by
 obtain⟨es,ep,t,l,G⟩:=F;have f:(intKind prog w).is k (.int k tk)=true:=by show Value.isInt k (Value.int k tk)=true;simp[Value.isInt]
 have I:es.size < scanBound:=by rw[G.len];omega
 unfold setAddHashed setAddHashedIn;refine YC (z0 (YN l rfl G.fit ?_));dsimp only;rw[byScan_of (knd:=intKind prog w) (x:=.int k tk) rfl I G.el];simp only[↓reduceIte];unfold setAddByScan;refine z0 (z0 (W3 (z0 (wpAny_setScan_of (knd:=intKind prog w) f l rfl G.fit G.el ?_))));cases hr:List.findIdx? (λe=>(intKind prog w).is k e.2) es.toList with
 | some j =>
  dsimp only;obtain⟨z,D,_⟩:=List.findIdx?_eq_some_iff_getElem.mp hr;have r:k∈ns:=(G.mem k).mpr ⟨_,Z5 z,D⟩;refine z3 (z3 ?_);have:=h s.heap false (Heap.SameBut.refl a s.heap);rw[z4 r]at this;exact this ⟨es,ep,t,l,G⟩
 | none =>
  dsimp only;have r:k∉ns:=λq=>by
   obtain⟨e,C,q⟩:=(G.mem k).mp q;have:=List.findIdx?_eq_none_iff.mp hr e C;rw[q]at this;cases this
  have i:=layNew_perm t es ((intKind prog w).hash k) (.int k tk);have n:=layNew_fits t es ((intKind prog w).hash k) (.int k tk);have u:=G.gt.layNew es ((intKind prog w).hash k) (.int k tk);show wpAny (model prog w) A (_ >>= λ_=>_) _ _ _;have B:layNew t es (hashInt k) (.int k tk)=layNew t es ((intKind prog w).hash k) (.int k tk):=rfl;simp only[B];generalize layNew t es ((intKind prog w).hash k) (.int k tk)=L at i n u ⊢;obtain⟨o,H,J,K⟩:=L;dsimp only at i n u ⊢;rw[Array.toList_push]at i;have v:vQ prog w led o H (k :: ns):=⟨(G.el.push f rfl).perm i,(i.map mJ).trans (by
   rw[ZR];exact(List.perm_append_comm (l₁ := es.toList.map mJ) (l₂ := [mJ ((intKind prog w).hash k,Value.int k tk)])).trans (List.Perm.cons k G.ks)),n,u⟩
  have g:∀(b:Bool) (d : T4) (p:Unit->T4->Prop),p () d->wpAny (model prog w) A (match b with|true=>rule "set.scan.the-table-gave-way" | false=>pure ()) p E d := λb d p q=>by
   cases b
   ·exact z3 q
   ·exact W3 q
  have m:∀{c:Bool} h',Heap.SameBut a s.heap h'->dL prog w led a (k :: ns) h'->Q c { s with heap:=h' }:=λ{c} h' q1 q2=>h h' c q1 (by rw[z5 r];exact q2);refine z0 (g _ _ _ ?_);split
  ·refine z0 ?_
   rw[hashByValue_scannable 8 (show (Value.int k tk).scannable=true from rfl)];refine z3 ?_;simp only[plainKind,↓reduceIte];exact Bt g l v y λh' q1 q2=>z3 (m h' q1 q2)
  ·refine z0 (z3 ?_)
   simp only[↓reduceIte];exact Bt g l v y λh' q1 q2=>z3 (m h' q1 q2)
end
end Fm
namespace Fm
def qk (ns:List Int) (k:Int):List Int:=if k∈ns then ns else k :: ns
def er (l:List Int):List Int:=l.foldl qk []
theorem EE (ns:List Int)(k x:Int):x∈qk ns k ↔ x∈ns\/x=k:=by
 unfold qk;split
 ·rename_i h
  exact⟨.inl,λq=>q.elim id λe=>e ▸ h⟩
 ·rw[Y6];exact Or.comm
theorem zN {ns:List Int}(h:ns.Nodup)(k:Int):(qk ns k).Nodup:=by
 unfold qk;split
 ·exact h
 ·exact List.nodup_cons.mpr ⟨by assumption,h⟩
theorem xT:∀(l a:List Int) (x:Int),x∈l.foldl qk a ↔ x∈a\/x∈l
 | [],a,x=>by simp
 | k :: l,a,x=>by
  rw[Y2,xT l,EE,Y6,or_assoc]
theorem rR:∀(l a:List Int),a.Nodup->(l.foldl qk a).Nodup
 | [],a,h=>h
 | k :: l,a,h=>rR l _ (zN h k)
theorem xU:∀(l a:List Int),(l.foldl qk a).length<=a.length + l.length
 | [],a=>by simp
 | k :: l,a=>by
  have:=xU l (qk a k);have h:(qk a k).length<=a.length + 1:=by unfold qk;split<;>simp
  rw[Y2,YD];omega
theorem Cz (l:List Int)(x:Int):x∈er l ↔ x∈l:=by unfold er;rw[xT];simp
theorem xV (l:List Int):(er l).Nodup:=rR l [] WN
theorem uD (l:List Int):(er l).length<=l.length:=by unfold er;have:=xU l [];simpa using this
theorem zO {l:List Int}{i:Nat}(h:i < l.length):er (l.take (i + 1))=qk (er (l.take i)) (l.getD i 0):=by
 unfold er;have e:l.take (i + 1)=l.take i++[l.getD i 0]:=by
  rw[List.take_add_one,ZE h];simp[List.getD,h]
 rw[e,List.foldl_append];rfl
end Fm
namespace Fm
open PySem PySem.Spec
section
variable {prog:T6} {w:T7} {A:T5} {R:Result->T4->Prop} {I:Addr} {fp wr:List Addr} {G:Array GenState->Array GenState->Prop} {P:Nat->T0->Prop} {St:Nat->T4->Prop} {led:Bool}
theorem dL.kept {a:Addr}{ns:List Int}{h h':Heap}(x:dL prog w led a ns h)(k:∀o,h.get? a=some o->h'.get? a=some o):dL prog w led a ns h':=by
 obtain⟨es,ep,t,b,g⟩:=x;exact⟨es,ep,t,k _ b,g⟩
theorem EG (ns:List Int)(W:WalksS prog w A.in1 I fp wr G ns.length P St)(S:Addr)(f:S∉fp)(g:∀i v,P i v->∃t,v=.int (ns.getD i 0) t)(m:ns.length + 1 < scanBound) :
  ∀(k i:Nat) (s:T4),ns.length - i=k->i<=ns.length->St i s->dL prog w led S (er (ns.take i)) s.heap->
   (∀a,Moved (S :: wr) G s a->dL prog w led S (er ns) a.heap->R (.ok (.ret .none)) a)->codeAny (model prog w) A (.builtin "set.update.loop" ⟨[.ref S,.ref I],[]⟩) R s:=by
 have l:S∉wr:=λh=>f (W.sub _ h);have D:∀b∈wr,b∈S :: wr:=λb q=>ZW _ q;intro k
 induction k with
 | zero =>
  intro i s H hi st n y;have e:i=ns.length:=by omega
  subst e;rw[WC]at n;refine WI PyProof.Rows.F.entry_set_update_loop ?_;rw[X2 XF _];show wpAny _ A.in1 (pyNext (.ref I) >>= _) _ _ s;refine z0 (W.done s _ _ st λa d => ?_);show wpAny _ A.in1 (ret Value.none) _ _ a;exact z3 (y a (d.mono D) (n.kept λo q=>d.heap S o l q))
 | succ k ih =>
  intro i s H hi st n y;have c:i < ns.length:=by omega
  refine WI PyProof.Rows.F.entry_set_update_loop ?_;rw[X2 XF _];show wpAny _ A.in1 (pyNext (.ref I) >>= _) _ _ s;refine z0 (W.item i s _ _ c st λv a J B d => ?_);obtain⟨t,rfl⟩:=g i v J;have x:dL prog w led S (er (ns.take i)) a.heap:=n.kept λo q=>d.heap S o l q;show wpAny _ A.in1 (holding [Value.int (ns.getD i 0) t] (setAdd S (.int (ns.getD i 0) t)) >>= _) _ _ a;unfold setAdd;refine z0 (YC (YC (z0 (wpAny_pyHash_int ?_))));have j:(er (ns.take i)).length + 1 < scanBound:=by
   have h1:=uD (ns.take i);rw[XH]at h1;omega
  refine ED (s:={ a with toks:=a.toks + 1 }) x j λF b E r => ?_;have p:dL prog w led S (er (ns.take (i + 1))) F:=by rw[zO c];exact r
  refine z3 ⟨VD XF _,ih (i + 1) _ (by omega) c (W.frame _ a _ _ B (W5 _) λb m o e => ?_) p λu C z => ?_⟩
  ·rw[E.2 b (λq:b=S=>f (q ▸ m))];exact e
  ·refine y u (Moved.trans W.gtrans ((d.mono D).then_heap (W5 _) λb o m e => ?_) C) z
   rw[E.2 b (λq:b=S=>m (q ▸ ZV))];exact e
end
def hW (w:T7):Bool := !(w.params.followText "set-order")
def dE (w:T7):Obj:={ cls:=.type "set",dict:=none,data:=.set #[] 0 (.fresh 0 0 (hW w)) }
section
variable {prog:T6} {w:T7} {A:T5} {E:T0->T4->Prop} {s:T4}
theorem GS (a:T0){Q:T0->T4->Prop}(h:Q (.ref s.heap.objs.size) { s with heap:=s.heap.push (dE w) }) :
  codeAny (model prog w) A (.call (.builtin "set.__new__") ⟨[.type "set",a],[]⟩) (wants Q E) s:=by
 refine codeAny_of_tree ?_;show wpAny _ A.in1 (checkBuiltinCall "set.__new__" ⟨[.type "set",a],[]⟩ >>= λ_=>again (.builtin "set.__new__" ⟨[.type "set",a],[]⟩)) _ _ s;refine z0 (wpAny_of_eq (F.newCall_set_1 a) (z3 ⟨VD F.plain_set_new _,WI F.entry_set_new ?_⟩));rw[X2 F.plain_set_new _];unfold Builtin.«set.__new__» Builtin.Frozenset.newClass;have b:=sub_set_self;obtain⟨c,g,d,tk,os⟩:=s;dsimp only
 wp_walk
 refine wpAny_askSetting (z3 ?_);dsimp only;simp only[newObj];exact z0 (wpAny_alloc (z3 (z3 h)))
theorem CA (ns:List Int)(e:ns=[]):dL prog w (hW w) s.heap.objs.size ns (s.heap.push (dE w)):=by
 subst e;exact⟨#[],0,_,ZJ _ rfl,λe a=>by simp at a,List.Perm.nil,rfl,GT.fresh _⟩
set_option maxHeartbeats 3200000 in
theorem xW {l:Addr}{items:Array T0}{ns:List Int}{Q:T0->T4->Prop}(hh:A.handled=none)(hl:s.heap.IsList l items)(hi:PyProof.Rows.IntsAre items.toList ns)(hb:ns.length + 1 < scanBound)
  (h:∀(h':Heap) (tk:Nat),dL prog w (hW w) s.heap.objs.size (er ns) h'->(∀b o,s.heap.get? b=some o->h'.get? b=some o)->Q (.ref s.heap.objs.size) { s with heap:=h',toks:=tk }) :
  wpAny (model prog w) A (call (.type "set") [.ref l]) Q E s:=by
 obtain⟨c,tl,U⟩:=F.called_set.mro;have K:=F.called_set.made;have S:=F.called_set.sub;refine wpAny_call (codeAny_of_tree ?_);show wpAny _ _ (callAny (.type "set") _) _ _ _;refine z3 ⟨Code.quiet_builtin _ (by decide +kernel),WI F.entry_type_call ?_⟩;rw[Around.under_plain (weight_type_call_type "set" [.ref l] []) rfl];have h1:=F.called_set.notType;have h2:=F.called_set.canCreate;have Z:=F.typeCall_set_1 (.ref l)
 repeat (any_goals (first|assumption|wp_step))
 refine W7 (GS (.ref l) (E:=E) (Q:=λv g => v=.ref s.heap.objs.size/\g = { s with heap:=s.heap.push (dE w) }) ⟨rfl,rfl⟩) λr g D => ?_;cases r with
 | error e=>exact D
 | ok fl =>
  cases fl with
  | ret obj =>
   obtain⟨rfl,rfl⟩:=D;have hS:(s.heap.push (dE w)).get? s.heap.objs.size=some (dE w):=ZJ _ rfl;have hT:Shared.TypeIs { s with heap:=s.heap.push (dE w) } (.ref s.heap.objs.size) "set" := ⟨_,hS,rfl⟩;have X:=F.called_set.init.lookup;have a1:=F.called_set.init.bind (.ref s.heap.objs.size)
   repeat (any_goals (first|assumption|wp_step))
   refine W7 (codeAny_call_builtin (R:=wants (λr f => r=.none/\∃h' tk,f = { s with heap:=h',toks:=tk }/\dL prog w (hW w) s.heap.objs.size (er ns) h'/\(∀b o,s.heap.get? b=some o->h'.get? b=some o)) E) F.called_set.init.plain F.entry_set_init (check_set_init_1 hT ?_)) λm f a => ?_
   ·obtain⟨ol,p,n,N,x⟩:=hl
    obtain⟨T,j,M,d⟩:=ol;simp only at n x;subst n;subst x;have H:(s.heap.push (dE w)).get? l=some { cls:=.type "list",dict:=j,data:=.seq items N,slots:=d }:=ZH _ p;have P:=F.sub_list_set;have O:=F.sub_list_frozenset;have a0:(Value.type "list" == Value.type "dict")=false:=by decide
    have z:(s.heap.push (dE w)).IsList l items:=⟨_,H,rfl,N,rfl⟩;unfold Builtin.«set.__init__» noKeywords Builtin.Frozenset.updateFrom;generalize hPI:pyIter=PI
    wp_walk
    subst hPI;refine X0 z ?_;refine z0 (wpAny_runValue ?_);have lt:l < s.heap.objs.size:=ZI p;have I:A.in1.in1.in1.handled=none:=by simp[hh]
    have nI:l≠(s.heap.push (dE w)).objs.size:=by rw[v3];exact ZN (yS lt)
    have nS:s.heap.objs.size∉[(s.heap.push (dE w)).objs.size,l]:=by
     rw[v3];simp only[Y6,List.not_mem_nil,or_false,not_or];exact⟨ZN (wB _),x6 lt⟩
    have B:items.size=ns.length:=by have:=PyProof.Rows.IntsAre.length hi;simpa using this
    have y:∀(i:Nat) (v:T0),items[i]? = some v->∃t,v=.int (ns.getD i 0) t:=λi v hv=>PyProof.Rows.IntsAre.int_at hi i v (by rw[Array.getElem?_toList];exact hv);have W:=(Walks.list (prog:=prog) (w:=w) I (s.heap.push (dE w)).objs.size l nI items).toS;rw[B]at W;refine EG (led:=hW w) ns W s.heap.objs.size nS y hb (ns.length - 0) 0 _ rfl (Z8 _) ⟨⟨_,ZJ _ rfl,rfl,rfl⟩,z.push _⟩ ((CA _ rfl).kept λo q=>ZH _ q) λs' C k => ?_;obtain⟨h',Y,d',J,G⟩:=s';have eg:Y=s.gens:=C.gens;have V:d'=s.drawn:=C.drawn;have eo:G=s.os:=C.os;subst eg;subst V;subst eo;show wpAny _ _ _ _ _ _;refine z3 ?_;show wpAny _ _ (ret Value.none) _ _ _;refine z3 ⟨rfl,h',J,rfl,k,λb o e => ?_⟩;have u:=ZI e;exact C.heap b o (by rw[v3];simp only[Y6,List.not_mem_nil,or_false,not_or];exact⟨ZN u,ZN (yS u)⟩) (ZH _ (ZH _ e))
   ·cases m with
    | error e=>exact a
    | ok fl₂ =>
     cases fl₂ with
     | ret r =>
      obtain⟨rfl,h',tk,rfl,k,L⟩:=a
      repeat (any_goals (first|assumption|wp_step))
      exact h _ _ k L
     | _=>exact a.elim
  | _=>exact D.elim
end
theorem dh:Slot "set_iterator" "__next__" "set_iterator.__next__" :=
 .of (owner := "set_iterator") (n := "__next__") (by rw[typeLookup_type,builtinLookup_eq_fast];kernel_rfl) (by decide +kernel) (by decide +kernel) (by decide +kernel) (by first|exact .inl (by decide +kernel)|exact .inr (by decide +kernel)) (by rw[YF];kernel_rfl)
theorem rS:Slot "set_iterator" "__iter__" "set_iterator.__iter__" :=
 .of (owner := "set_iterator") (n := "__iter__") (by rw[typeLookup_type,builtinLookup_eq_fast];kernel_rfl) (by decide +kernel) (by decide +kernel) (by decide +kernel) (by first|exact .inl (by decide +kernel)|exact .inr (by decide +kernel)) (by rw[YF];kernel_rfl)
theorem kf:entryFor table "set_iterator.__next__" = some Builtin.«set_iterator.__next__» := entryFor_of_tree (by kernel_rfl)
theorem mh (a:T0):argsOk "set_iterator.__next__" ⟨[a],[]⟩:=by unfold argsOk;kernel_rfl
theorem zP:entryFor table "set.__iter__" = some Builtin.«frozenset.__iter__» := entryFor_alias (id' := "frozenset.__iter__") (by kernel_rfl) rfl (by decide +kernel) (by kernel_rfl)
theorem xX:entryFor table "set_iterator.__iter__" = some Builtin.«dict_keyiterator.__iter__» := entryFor_alias (id' := "dict_keyiterator.__iter__") (by kernel_rfl) rfl (by decide +kernel) (by kernel_rfl)
theorem zQ (a:T0):argsOk "set_iterator.__iter__" ⟨[a],[]⟩:=by unfold argsOk;kernel_rfl
def lI (first:T0) (i:Nat) (q:Addr) (n ep:Nat):Obj:={ cls:=.type "set_iterator",data:=.fields #[first,.int i 0,.ref q,.int n 0,.int ep 0] }
def lJ (es:Array (Int × T0)) (ep:Nat) (t:SetTable):Obj:={ cls:=.type "set",dict:=none,data:=.set es ep t }
section
variable {prog:T6} {w:T7} {A:T5} {E:T0->T4->Prop} {s:T4} {I q:Addr} {i n ep sl sl':Nat} {es:Array (Int × T0)} {t:SetTable} {x:T0}
def o3 (prog:T6) (w:T7) (q:Addr) (es:Array (Int × T0)) (ep:Nat) (t:SetTable) (sl i:Nat) (r:Option (T0 × Nat)):Prop :=
 ∀(A:T5) (Q:Option (T0 × Nat)->T4->Prop) (E:T0->T4->Prop) (s:T4),s.heap.get? q=some (lJ es ep t)->Q r s->wpAny (model prog w) A (setNext q sl i ep) Q E s
theorem zR {Q:Option T0->T4->Prop}(a:s.heap.get? I=some (lI (.int sl 0) i q n ep))(b:s.heap.get? q=some (lJ es ep t))(fit:t.fits es.size=true)(d:es.size=n)(N:o3 prog w q es ep t sl i (some (x,sl')))
  (e:∀h',h'.get? I=some (lI (.int sl' 0) (i + 1) q n ep)->Heap.SameBut I s.heap h'->Q (some x) { s with heap:=h' }):wpAny (model prog w) A (pyNext (.ref I)) Q E s:=by
 have c:s.TypeIs (.ref I) "set_iterator" := ⟨_,a,rfl⟩;unfold pyNext;refine z0 (X7 (wpAny_callSpecial?_slot (name:=Str.ofString "__next__") c dh (Z4 dh c kf ?_ (mh _))));unfold Builtin.«set_iterator.__next__»;refine z0 (z3 ?_);refine z0 (wpAny_fieldsOf a rfl ?_);show wpAny _ _ (setEntries q >>= _) _ _ s;refine z0 (WA b rfl fit ?_);rw[z5 (by rw[d];simp)];show wpAny _ _ (setNext q sl i ep >>= _) _ _ s;refine z0 (N _ _ _ _ b ?_);dsimp only;refine z0 (XO a rfl (by simp) ?_);have h1:(s.heap.update I (Obj.mapFields (·.setIfInBounds 0 (rawInt sl')))).get? I=some (lI (.int sl' 0) i q n ep):=Heap.get?_update_self _ a rfl;refine z0 (XO h1 rfl (by simp) ?_);have h2:=Heap.get?_update_self (Obj.mapFields (·.setIfInBounds 1 (rawInt ((i:Int) + 1)))) h1 rfl;refine z3 ⟨x,rfl,z3 (e _ h2 ((Y0 ..).trans (Y0 ..)))⟩
theorem uE {h0:Heap}{Q:Option T0->T4->Prop}(g:A.handled=none)(f:∀h',(∀b o,b≠I->s.heap.get? b=some o->h'.get? b=some o)->Q none { s with heap:=h' })(k:∀b o,b≠I->s.heap.get? b=some o->h0.get? b=some o) :
  wpAny (model prog w) A.in1 (newExc (.type "StopIteration") [] >>= λe=>(raiseNew e:Sem Fin)) (λ_ _=>False) (λe c=>wpAny (model prog w) A (isInstance e (.type "StopIteration") >>= λb=>if b=true then (pure none:Sem (Option T0)) else throw e) Q E c) { s with heap:=h0 }:=by
 refine z0 ?_;simp only[newExc,newTuple];refine z0 (Z2 ?_ (by size_fits));refine z0 (m:=firstArgMember _ _) (wpAny_of_eq (a:=Value.none) (by first|rfl|(simp only[firstArgMember];rfl)) ?_);refine Z2 ?_ (by size_fits);simp only[raiseNew];refine z0 (wpAny_handled ?_);rw[show A.in1.handled=none from g];refine z0 (z3 (wpAny_throw ?_));refine z0 (wpAny_isInstance (T := "StopIteration") (b:=true) ⟨_,ZJ _ rfl,rfl⟩ isSubtype_stop ?_);exact z3 (f _ λb o d e=>ZH _ (ZH _ (k b o d e)))
theorem CB {Q:Option T0->T4->Prop}(j:A.handled=none)(a:s.heap.get? I=some (lI (.int sl 0) i q n ep))(c:s.heap.get? q=some (lJ es ep t))(fit:t.fits es.size=true)(g:es.size=n)(N:o3 prog w q es ep t sl i none)
  (h:∀h',(∀b o,b≠I->s.heap.get? b=some o->h'.get? b=some o)->Q none { s with heap:=h' }):wpAny (model prog w) A (pyNext (.ref I)) Q E s:=by
 have d:s.TypeIs (.ref I) "set_iterator" := ⟨_,a,rfl⟩;unfold pyNext;refine z0 (X7 (wpAny_callSpecial?_slot (name:=Str.ofString "__next__") d dh (Z4 dh d kf ?_ (mh _))));unfold Builtin.«set_iterator.__next__»;refine z0 (z3 ?_);refine z0 (wpAny_fieldsOf a rfl ?_);show wpAny _ _ (setEntries q >>= _) _ _ s;refine z0 (WA c rfl fit ?_);rw[z5 (by rw[g];simp)];show wpAny _ _ (setNext q sl i ep >>= _) _ _ s;refine z0 (N _ _ _ _ c ?_);dsimp only;refine z0 (XO a rfl (by simp) ?_);refine XI (uE (s:=s) (I:=I) (E:=E) j h λb o f e=>(Heap.get?_update_ne _ _ _ _ f).trans e) (λ_ _ z=>z.elim) λe k z=>z
theorem zS {T:Addr} {ps:List Nat} {m p:Nat} {y:Int} {Q:Option T0->T4->Prop} (a:s.heap.get? I=some (lI (.ref T) i q n ep)) (d:s.heap.get? q=some (lJ es ep t)) (b:s.heap.get? T=some { cls:=.type "tuple",data:=.seq (ps.map λ(k:Nat)=>Value.int k 0).toArray m }) (fit:t.fits es.size=true) (h:es.size=n) (hp:ps[i]? = some p) (g:es[p]? = some (y,x))
  (f:∀h',h'.get? I=some (lI (.ref T) (i + 1) q n ep)->Heap.SameBut I s.heap h'->Q (some x) { s with heap:=h' }):wpAny (model prog w) A (pyNext (.ref I)) Q E s:=by
 have e:s.TypeIs (.ref I) "set_iterator" := ⟨_,a,rfl⟩;unfold pyNext;refine z0 (X7 (wpAny_callSpecial?_slot (name:=Str.ofString "__next__") e dh (Z4 dh e kf ?_ (mh _))));unfold Builtin.«set_iterator.__next__»;refine z0 (z3 ?_);refine z0 (wpAny_fieldsOf a rfl ?_);show wpAny _ _ (setEntries q >>= _) _ _ s;refine z0 (WA d rfl fit ?_);rw[z5 (by rw[h];simp)];show wpAny _ _ (seqItems? (.ref T) >>= _) _ _ s;refine z0 (YW b rfl ?_);have c:(ps.map λ(k:Nat)=>Value.int k 0).toArray[((i:Int)).toNat]? = some (.int p 0):=by simp[hp]
 simp only[c];show wpAny _ _ (setNextDrawn q p ep >>= _) _ _ s;unfold setNextDrawn;refine z0 (z0 (YN d rfl fit ?_));simp only[bne_self_eq_false,wJ,YQ,g];refine z3 ?_;refine z0 (XO a rfl (by simp) ?_);have h2:=Heap.get?_update_self (Obj.mapFields (·.setIfInBounds 1 (rawInt ((i:Int) + 1)))) a rfl;refine z3 ⟨x,rfl,z3 (f _ h2 (Y0 ..))⟩
theorem CC {T:Addr} {ps:List Nat} {m:Nat} {Q:Option T0->T4->Prop} (p:A.handled=none) (a:s.heap.get? I=some (lI (.ref T) i q n ep)) (h:s.heap.get? q=some (lJ es ep t)) (c:s.heap.get? T=some { cls:=.type "tuple",data:=.seq (ps.map λ(k:Nat)=>Value.int k 0).toArray m }) (fit:t.fits es.size=true) (l:es.size=n) (hp:ps[i]? = none)
  (j:∀h',(∀b o,b≠I->s.heap.get? b=some o->h'.get? b=some o)->Q none { s with heap:=h' }):wpAny (model prog w) A (pyNext (.ref I)) Q E s:=by
 have g:s.TypeIs (.ref I) "set_iterator" := ⟨_,a,rfl⟩;unfold pyNext;refine z0 (X7 (wpAny_callSpecial?_slot (name:=Str.ofString "__next__") g dh (Z4 dh g kf ?_ (mh _))));unfold Builtin.«set_iterator.__next__»;refine z0 (z3 ?_);refine z0 (wpAny_fieldsOf a rfl ?_);show wpAny _ _ (setEntries q >>= _) _ _ s;refine z0 (WA h rfl fit ?_);rw[z5 (by rw[l];simp)];show wpAny _ _ (seqItems? (.ref T) >>= _) _ _ s;refine z0 (YW c rfl ?_);have d:(ps.map λ(k:Nat)=>Value.int k 0).toArray[((i:Int)).toNat]? = none:=by
  rw[List.getElem?_eq_none_iff]at hp;simp[hp]
 simp only[d];refine z0 (XO a rfl (by simp) ?_);have h1:(s.heap.update I (Obj.mapFields (·.setIfInBounds 0 (rawInt 0)))).get? I=some (lI (.int 0 0) i q n ep):=Heap.get?_update_self _ a rfl;refine z0 (XO h1 rfl (by simp) ?_);refine XI (uE (s:=s) (I:=I) (E:=E) p j λb o f e=>(Heap.get?_update_ne _ _ _ _ f).trans ((Heap.get?_update_ne _ _ _ _ f).trans e)) (λ_ _ z=>z.elim) λe r z=>z
theorem xY {first:T0}{Q:T0->T4->Prop}(b:s.heap.get? I=some (lI first i q n ep))(h:Q (.ref I) s):wpAny (model prog w) A (pyIter (.ref I)) Q E s:=by
 have a:s.TypeIs (.ref I) "set_iterator" := ⟨_,b,rfl⟩;refine wpAny_pyIter_slot a rS (Z4 rS a xX ?_ (zQ _));unfold Builtin.«dict_keyiterator.__iter__»;refine z0 (z3 ?_);exact z3 ⟨_,rfl, "set_iterator",_,a,dh.lookup,h⟩
theorem HW (m:A.handled=none)(f:q≠I)(fit:t.fits es.size=true)(sl:Nat->Nat)(v:Nat->T0)(N:∀i,i < es.size->o3 prog w q es ep t (sl i) i (some (v i,sl (i + 1))))(Ne:o3 prog w q es ep t (sl es.size) es.size none) :
  Walks prog w A I [I,q] [I] es.size (λi x=>x=v i) (λi h=>h.get? I=some (lI (.int (sl i) 0) i q es.size ep)/\h.get? q=some (lJ es ep t)) where
 sub:=λb a=>by simp at a;simp[a]
 frame:=λ_ _ _ st j=>⟨j I (by simp) _ st.1,j q (by simp) _ st.2⟩
 item:=λi s Q E hi st c=>zR st.1 st.2 fit rfl (N i hi) λd g l=>c _ d s.toks rfl ⟨g,(l.2 q f).trans st.2⟩ λb o a e=>(l.2 b λz=>a (by simp[z])).trans e
 done:=λs Q E st c=>CB m st.1 st.2 fit rfl Ne λd k=>c d s.toks λb o a e=>k b o (λz=>a (by simp[z])) e
 self:=λ_ _ _ _ st c=>xY st.1 c
theorem Li {T:Addr}{ps:List Nat}(C:A.handled=none)(f:q≠I)(g:T≠I)(fit:t.fits es.size=true)(D:ps.length=es.size)(hp:∀(i p:Nat),ps[i]? = some p->p < es.size) :
  Walks prog w A I [I,q,T] [I] es.size (λi x=>∃p y,ps[i]? = some p/\es[p]? = some (y,x)) (λi h=>h.get? I=some (lI (.ref T) i q es.size ep)/\h.get? q=some (lJ es ep t)/\h.get? T=some { cls:=.type "tuple",data:=.seq (ps.map λ(k:Nat)=>Value.int k 0).toArray 0 }) where
 sub:=λb a=>by simp at a;simp[a]
 frame:=λ_ _ _ st m=>⟨m I (by simp) _ st.1,m q (by simp) _ st.2.1,m T (by simp) _ st.2.2⟩
 item:=λi s Q E hi st c=>by
  have u:i < ps.length:=by omega
  have l:ps[i]? = some ps[i]:=ZE u;have B:=hp i _ l;have v:es[ps[i]]? = some (es[ps[i]].1,es[ps[i]].2):=Array.getElem?_eq_getElem B;exact zS st.1 st.2.1 st.2.2 fit rfl l v λd j r=>c _ d s.toks ⟨_,_,l,v⟩ ⟨j,(r.2 q f).trans st.2.1,(r.2 T g).trans st.2.2⟩ λb o a e=>(r.2 b λz=>a (by simp[z])).trans e
 done:=λs Q E st c=>CC C st.1 st.2.1 st.2.2 fit rfl (List.getElem?_eq_none (by omega)) λd k=>c d s.toks λb o a e=>k b o (λz=>a (by simp[z])) e
 self:=λ_ _ _ _ st c=>xY st.1 c
end
theorem mT {α : Type}:∀(l:List α) (i:Nat) (x : α),l[i]? = some x->(x :: l.eraseIdx i).Perm l
 | [],_,_,e=>by simp at e
 | y :: l,0,x,e=>by simp at e;subst e;exact List.Perm.refl _
 | y :: l,i + 1,x,e=>by
  rw[List.eraseIdx_cons_succ];exact(List.Perm.swap y x _).trans (List.Perm.cons y (mT l i x (by simpa using e)))
theorem Bu {α : Type}(f:Nat->Nat):∀(n k:Nat) (left:List α) (a:Array α),left.length=n->(pickOrder.go f n k left a).toList.Perm (a.toList++left)
 | 0,k,left,a,h=>by
  have:left=[]:=List.length_eq_zero_iff.mp h;subst this;simp[pickOrder.go]
 | n + 1,k,left,a,h=>by
  unfold pickOrder.go;have hi:f k % left.length < left.length:=Nat.mod_lt _ (by omega);have e:left[f k % left.length]? = some (left[f k % left.length]):=ZE hi;rw[e];refine(Bu f n (k + 1) _ _ (by rw[List.length_eraseIdx_of_lt hi];omega)).trans ?_;rw[Array.toList_push,ZU];exact List.Perm.append_left _ (mT _ _ _ e)
theorem CF {α : Type}(f:Nat->Nat)(xs:Array α):(pickOrder f xs).toList.Perm xs.toList:=by
 have:=Bu f xs.size 0 xs.toList #[] (by simp);simpa[pickOrder] using this
section
variable {M:Model} {prog:T6} {w:T7} {A:T5} {E:T0->T4->Prop} {s:T4}
theorem CG {a:Source}{n:Nat}{Q:Nat->T4->Prop}(b:n≠0)(h:∀i c,i < n->Q i { s with drawn:=c }):wpAny M A (choose a n) Q E s:=by
 intro d p _;exact⟨b,h _ _ (Nat.mod_lt _ (Nat.pos_of_ne_zero b))⟩
theorem uF {α : Type}:∀(n:Nat) (xs:List α) {s:T4} {Q:List α->T4->Prop},xs.length=n->(∀ys a,ys.Perm xs->Q ys { s with drawn:=a })->wpAny M A (drawOrder n xs) Q E s
 | 0,xs,s,Q,hl,h=>by
  have e:xs=[]:=List.length_eq_zero_iff.mp hl;subst e;exact z3 (h [] s.drawn (List.Perm.refl _))
 | n + 1,[],s,Q,hl,h=>by simp at hl
 | n + 1,x :: xs,s,Q,hl,h=>by
  unfold drawOrder;refine z0 (CG (by simp) λi a hi => ?_);have e:(x :: xs)[i]? = some (x :: xs)[i]:=ZE hi;rw[e];dsimp only;refine z0 (uF n _ (s:={ s with drawn:=a }) (by rw[List.length_eraseIdx_of_lt hi];omega) λys b p => ?_);exact z3 (h _ b ((List.Perm.cons _ p).trans (mT _ _ _ e)))
theorem qC {Q:Bool->T4->Prop} (h:Q (w.params.followText "set-order") s):wpAny (model prog w) A setsByText Q E s:=by
 unfold setsByText;exact z0 (wpAny_askSetting (z3 h))
variable {q:Addr} {es:Array (Int × T0)} {ep:Nat} {t:SetTable} {ns:List Int}
theorem HX (a:w.params.followText "set-order" = true) (fit:t.fits es.size=true) (i:Nat):o3 prog w q es ep t 0 i (((pickOrder (w.params.setOrder q ep) es)[i]?).map λe=>(e.2,0)):=by
 intro A Q E s b h;unfold setNext;refine z0 (YN b rfl fit ?_);refine z0 (qC ?_);refine YH (λ_ => ?_) λz=>absurd a z;refine YH (λz=>by simp at z) λ_ => ?_;unfold setWalk;refine z0 (z0 (YN b rfl fit ?_));refine z0 (qC ?_);refine YH (λ_ => ?_) λz=>absurd a z;exact z0 (wpAny_askSetting (z3 (z3 h)))
theorem HY (a:w.params.followText "set-order" = false) (fit:t.fits es.size=true) (g:GT true t) (hd:(!t.plain && decide (es.size > 1))=false) (sl i:Nat):o3 prog w q es ep t sl i (match es[SetTable.below t.place sl]?,t.place[SetTable.below t.place sl]? with|some (_,x),some j=>some (x,j + 1)|_,_=>none):=by
 intro A Q E s b h;unfold setNext;refine z0 (YN b rfl fit ?_);refine z0 (qC ?_);refine YH (λz=>by rw[a]at z;cases z) λ_ => ?_;refine YH (λz=>absurd (show (!t.plain && decide (es.size > 1))=true from z) (by rw[hd];simp)) λ_ => ?_;refine z0 (m:=if (!t.led && !es.isEmpty)=true then unsupported "set:maker-not-led" else pure ()) ?_;rw[g.le];exact z3 (z3 h)
end
section
variable {prog:T6} {w:T7} {A:T5} {E:T0->T4->Prop} {s:T4} {q:Addr} {es:Array (Int × T0)} {ep:Nat} {t:SetTable} {ns:List Int} {led:Bool}
theorem Bv:∀(l:List (Int × T0)),ElemsOf (intKind prog w) l->PyProof.Rows.IntsAre (l.map (·.2)) (l.map mJ)
 | [],_=>.nil
 | e :: l,h=>by
  obtain⟨⟨k,h1,_⟩,_⟩:=h e (.head _);obtain⟨tk,h2⟩:=W6 (show Value.isInt k e.2=true from h1);have a:mJ e=k:=vR h1;rw[yP,yP,a,h2];exact .cons k tk (Bv l λx b=>h x (.tail _ b))
theorem rT (G:vQ prog w led es t ns){l:List (Int × T0)}(p:l.Perm es.toList){P:Nat->T0->Prop}(c:∀j v,P j v->j < l.length->v=(l.getD j (0,.none)).2){acc:Array T0}(h:ItemsOf P acc ns.length) :
  ∃a,PyProof.Rows.IntsAre acc.toList a/\a.Perm ns:=by
 have d:l.length=ns.length:=by rw[p.length_eq,XE,G.len]
 have e:acc.toList=l.map (·.2):=by
  apply Z0;intro j
  by_cases hj:j < ns.length
  ·have h1:j < acc.size:=by rw[h.1];exact hj
   have h2:j < l.length:=by omega
   have b:=c j acc[j] (h.2 j _ (Array.getElem?_eq_getElem h1)) h2;rw[Array.getElem?_toList,Array.getElem?_eq_getElem h1,b];simp[List.getD,h2]
  ·rw[List.getElem?_eq_none (by rw[XE,h.1];omega),List.getElem?_eq_none (by simp;omega)]
 refine⟨l.map mJ,?_,(p.map mJ).trans G.ks⟩;rw[e];exact Bv (prog:=prog) (w:=w) l (G.el.perm p)
theorem EH {α : Type}(d : α)(es:Array α):(List.range es.size).map (λp=>es.getD p d)=es.toList:=by
 apply Z0;intro j
 by_cases hj:j < es.size
 ·simp[hj,Array.getD]
 ·simp[hj]
theorem EI (h:t.fits es.size=true):t.place.size=es.size:=by
 simp only[SetTable.fits,x8,beq_iff_eq]at h;exact h.1
def qc (t:SetTable):Nat->Nat
 | 0=>0
 | i + 1=>t.place.getD i 0 + 1
theorem EJ {Q:T0->T4->Prop}(hS:dL prog w (hW w) q ns s.heap)(d:ns.length < scanBound)
  (h:∀(I:Addr) (h':Heap) (R:Drawn) (fp:List Addr) (P:Nat->T0->Prop) (St:Nat->Heap->Prop),(∀b o,s.heap.get? b=some o->h'.get? b=some o)->s.heap.objs.size<=I->(∀b∈fp,b=q\/s.heap.objs.size<=b)->
   (∀g:T5,g.handled=none->Walks prog w g I fp [I] ns.length P St)->St 0 h'->(∀acc,ItemsOf P acc ns.length->∃T,PyProof.Rows.IntsAre acc.toList T/\T.Perm ns)->Q (.ref I) { s with heap:=h',drawn:=R }) :
  wpAny (model prog w) A (pyIter (.ref q)) Q E s:=by
 obtain⟨es,ep,t,m,G⟩:=hS;have U:s.TypeIs (.ref q) "set" := ⟨_,m,rfl⟩;have B:q < s.heap.objs.size:=ZI m;have D:q≠s.heap.objs.size:=ZN B;have f:=G.len;have Z:=EI G.fit;refine wpAny_pyIter_slot U F.slot_set_iter (Z4 F.slot_set_iter U zP ?_ (F.args_set_iter_1 _));unfold Builtin.«frozenset.__iter__» Builtin.Frozenset.slot0 Builtin.Frozenset.sizeOf;refine z0 (z0 (z3 (z3 ?_)));refine z0 (z0 (WA m rfl G.fit (z3 ?_)));unfold setDrawn;refine z0 (z0 (YN m rfl G.fit ?_));refine z0 (qC (z3 ?_));cases hB:w.params.followText "set-order" with
 | true =>
  refine YH (λz=>by simp at z) λ_ => ?_;refine z0 (z3 (z0 ?_));unfold setEpoch;refine z0 (YN m rfl G.fit (z3 ?_));refine z0 (Z2 ?_ (by size_fits));refine z3 ⟨_,rfl, "set_iterator",_,⟨_,ZJ _ rfl,rfl⟩,dh.lookup,?_⟩;have n:=CF (w.params.setOrder q ep) es;have Y:(pickOrder (w.params.setOrder q ep) es).size=es.size:=by have:=n.length_eq;simpa using this
  have W:=λ(g:T5) (C:g.handled=none)=>HW (prog:=prog) (w:=w) (A:=g) (ep:=ep) C D G.fit (λ_=>0) (λi=>((pickOrder (w.params.setOrder q ep) es).toList.getD i (0,.none)).2) (λi hi=>by
   have z:=HX (prog:=prog) (q:=q) (ep:=ep) hB G.fit i;have e:((pickOrder (w.params.setOrder q ep) es)[i]?).map (λe=>(e.2,0))=some (((pickOrder (w.params.setOrder q ep) es).toList.getD i (0,Value.none)).2,0):=by
    have S:i < (pickOrder (w.params.setOrder q ep) es).size:=by omega
    simp[List.getD,S]
   rw[e]at z;exact z) (by
   have z:=HX (prog:=prog) (q:=q) (ep:=ep) hB G.fit es.size;rw[Array.getElem?_eq_none (by omega)]at z;exact z)
  rw[f]at W;refine h s.heap.objs.size _ s.drawn _ _ _ (λb o e=>ZH _ e) (ZL _) (λb d => ?_) W ⟨?_,ZH _ m⟩ λacc H=>rT G n (λj v e _=>e) H
  ·rcases Y6.mp d with rfl|d
   ·exact .inr (ZL _)
   ·exact .inl (WE.mp d)
  ·rw[<-f];exact ZJ _ rfl
 | false =>
  have u:GT true t:=by have:=G.gt;rw[show hW w=true from by unfold hW;rw[hB];rfl]at this;exact this
  cases hD:(!t.plain && decide (es.size > 1)) with
  | true =>
   refine YH (λ_ => ?_) λz=>absurd (show (!false && (!t.plain && decide (es.size > 1)))=true from by rw[hD];rfl) z;refine z0 (uF es.size (List.range es.size) (by simp) λps R n => ?_);have J:ps.length=es.size:=by rw[n.length_eq,ZO]
   simp only[newTuple];refine z0 (Z2 ?_ (show (List.map (λ(i:Nat)=>rawInt i) ps).toArray.size<=sizeLine by rw[yR,ZA,J];exact VB (by omega)));refine z0 ?_;unfold setEpoch;have x:∀o:Obj,(s.heap.push o).get? q=some (lJ es ep t):=λo=>ZH _ m;refine z0 (YN (x _) rfl G.fit (z3 ?_));refine z0 (Z2 ?_ (by size_fits));refine z3 ⟨_,rfl, "set_iterator",_,⟨_,ZJ _ rfl,rfl⟩,dh.lookup,?_⟩;have K:∀o:Obj,q≠(s.heap.push o).objs.size:=λo=>by rw[v3];exact ZN (yS B)
   have O:∀o:Obj,s.heap.objs.size≠(s.heap.push o).objs.size:=λo=>by rw[v3];exact ZN (wB _)
   have W:=λ(g:T5) (C:g.handled=none)=>Li (prog:=prog) (w:=w) (A:=g) (ep:=ep) (t:=t) C (K { cls:=.type "tuple",data:=.seq (ps.map λ(k:Nat)=>rawInt k).toArray }) (O { cls:=.type "tuple",data:=.seq (ps.map λ(k:Nat)=>rawInt k).toArray }) G.fit J λi p e=>by
    have:=(n.mem_iff (a:=p)).mp (ZK e);simpa using this
   rw[f]at W;refine h _ _ R _ _ _ (λb o e=>ZH _ (ZH _ e)) (by rw[v3];exact W5 _) (λb d => ?_) W ⟨?_,ZH _ (x _),ZH _ (ZJ _ rfl)⟩ λacc H=>rT G (l:=ps.map λp=>es.getD p (0,.none)) ?_ (λj v e r => ?_) H
   ·rcases Y6.mp d with rfl|d
    ·exact .inr (by rw[v3];exact W5 _)
    ·rcases Y6.mp d with rfl|d
     ·exact .inl rfl
     ·rw[WE.mp d];exact .inr (ZL _)
   ·rw[<-f];exact ZJ _ rfl
   ·have:=n.map λp=>es.getD p (0,Value.none)
    rw[EH]at this;exact this
   ·obtain⟨p,y,V,M⟩:=e
    have X:p < es.size:=by
     have:=(n.mem_iff (a:=p)).mp (ZK V);simpa using this
    rw[Array.getElem?_eq_getElem X]at M;have N:(ps.map λp=>es.getD p (0,Value.none)).getD j (0,Value.none)=es[p]:=by simp[List.getD,V,Array.getD,X]
    rw[N,ZT M]
  | false =>
   refine YH (λz=>absurd (show (!false && (!t.plain && decide (es.size > 1)))=true from z) (by rw[hD];simp)) λ_ => ?_;refine z0 (z3 (z0 ?_));unfold setEpoch;refine z0 (YN m rfl G.fit (z3 ?_));refine z0 (Z2 ?_ (by size_fits));refine z3 ⟨_,rfl, "set_iterator",_,⟨_,ZJ _ rfl,rfl⟩,dh.lookup,?_⟩;have W:=λ(g:T5) (C:g.handled=none)=>HW (prog:=prog) (w:=w) (A:=g) (ep:=ep) (t:=t) C D G.fit (qc t) (λi=>(es.toList.getD i (0,.none)).2) (λi hi=>by
    have z:=HY (prog:=prog) (q:=q) (ep:=ep) hB G.fit u hD (qc t i) i;have L:i < t.place.size:=by omega
    have e:SetTable.below t.place (qc t i)=i:=by
     cases i with
     | zero=>exact rN u.up
     | succ j =>
      have r:j < t.place.size:=by omega
      have:=rM u.up r;simpa[qc,Array.getD,r] using this
    rw[e,Array.getElem?_eq_getElem hi,Array.getElem?_eq_getElem L]at z;have M:(es.toList.getD i (0,Value.none)).2=es[i].2:=by simp[List.getD,hi]
    have N:t.place.getD i 0=t.place[i]:=by simp[Array.getD,L]
    rw[M,show qc t (i + 1)=t.place[i] + 1 from by rw[<-N];rfl];exact z) (by
    have z:=HY (prog:=prog) (q:=q) (ep:=ep) hB G.fit u hD (qc t es.size) es.size;have e:SetTable.below t.place (qc t es.size)=es.size:=by
     cases c:es.size with
     | zero=>exact rN u.up
     | succ j =>
      have r:j < t.place.size:=by omega
      have:=rM u.up r;simpa[qc,Array.getD,r] using this
    rw[e,Array.getElem?_eq_none (ZL _)]at z;exact z)
   rw[f]at W;refine h s.heap.objs.size _ s.drawn _ _ _ (λb o e=>ZH _ e) (ZL _) (λb d => ?_) W ⟨?_,ZH _ m⟩ λacc H=>rT G (List.Perm.refl _) (λj v e _=>e) H
   ·rcases Y6.mp d with rfl|d
    ·exact .inr (ZL _)
    ·exact .inl (WE.mp d)
   ·rw[<-f];exact ZJ _ rfl
end
end Fm
namespace Fm
open PySem PySem.Spec L2 PySem.W PyProof.Rows
section
variable {prog:T6} {w:T7} {A:T5} {E:T0->T4->Prop} {s:T4} {q:Addr} {ns:List Int}
theorem EK {Q:Bool->T4->Prop} (a:s.TypeIs (.ref q) "set") (h:Q false s):wpAny (model prog w) A (Builtin.List.listLengthHint (.ref q)) Q E s:=by
 unfold Builtin.List.listLengthHint;refine z0 (wpAny_specialOf a PySem.F.slot_set_len.lookup ?_);generalize hid:("set.__len__" : String)=id0
 wp_delta
 rw[show splitId id0=some ("set", "__len__") from by subst hid;decide +kernel];subst hid;refine z0 (wpAny_isInstance (T := "set") (b:=true) a (by rw[YF];kernel_rfl) ?_);refine YH (λz=>absurd z (by decide)) λ_ => ?_;refine YH (λ_ => ?_) λz=>absurd (by decide +kernel) z;exact z0 (wpAny_typeOf a (z3 h))
theorem zT {R:Result->T4->Prop} (M:A.handled=none) (H:dL prog w (hW w) q ns s.heap) (D:ns.length < scanBound) (S:Addr) (v:S≠q) (res:T0) (c:Nat) (N:s.heap.get? S=some { cls:=.type "list",data:=.seq #[] c })
  (U:∀d (acc:Array T0) r C,(∀b o,b≠S->s.heap.get? b=some o->d.heap.get? b=some o)->d.os=s.os->d.gens=s.gens->d.heap.get? S=some { cls:=.type "list",dict:=none,data:=.seq acc r,slots := #[] }->IntsAre acc.toList C->C.Perm ns->R (.ok (.ret res)) d) :
  wpAny (model prog w) A.in1 (Builtin.List.listExtendWith (.ref S) (.ref q) res) (λp d=>match p with | .done f=>R (.ok f) d | .again r=>r.quiet=true/\codeAny (model prog w) A r R d) (λe d=>R (.error e) d) s:=by
 have X:s.TypeIs (.ref q) "set" := by obtain⟨es,ep,t,e,_⟩:=H;exact⟨_,e,rfl⟩
 have J:S < s.heap.objs.size:=ZI N;unfold Builtin.List.listExtendWith;refine z0 (wpAny_typeOf X ?_);have h1:Builtin.List.listSameRef (.ref S) (.ref q)=false:=by simp[Builtin.List.listSameRef,v]
 have h2:(Value.type "set" == Value.type "list")=false:=by decide
 have T:(Value.type "set" == Value.type "tuple")=false:=by decide
 simp only[h1,h2,T,Bool.or_false,wJ,YQ];refine z0 (EJ H D λI K O fp P St k V Q W st p => ?_);have x:S∉fp:=λz=>(Q S z).elim v λz=>absurd z (Nat.not_le.mpr J);have y:∀(h:Heap) (g : Nat),St 0 h->(∀b o,b≠S->s.heap.get? b=some o->h.get? b=some o)->h.get? S=some { cls:=.type "list",data:=.seq #[] g }->
   codeAny (model prog w) A (.builtin "list.extend.loop" ⟨[.ref S,.ref I,res],[]⟩) R { s with heap:=h,drawn:=O }:=by
  intro h g G Z a;refine codeAny_extend_loopS (W A.in1 M).toS (VB D) S x res ns.length 0 _ #[] g rfl (Z8 _) G a (ItemsOf.nil _) λd l r F L u => ?_;obtain⟨C,i1,Y⟩:=p l u;refine U d l r C (λb o m e=>F.heap b o (λj => ?_) (Z b o m e)) F.os F.gens L i1 Y;rcases Y6.mp j with e'|j
  ·exact m e'
  ·rw[WE.mp j]at e
   exact absurd (ZI e) (Nat.not_lt.mpr V)
 have a := k _ _ N;refine z0 (YC (EK (s:={ s with heap:=K,drawn:=O }) (q:=q) (by obtain⟨es,ep,t,e,_⟩:=H;exact⟨_,k _ _ e,rfl⟩) ?_));refine YH (λ_ => ?_) (λ_=>z3 ⟨VD PySem.F.plain_extend_loop _,y _ c st (λb o _ e=>k b o e) a⟩);refine z0 (W3 (z0 ?_));show wpAny _ _ (updateSeq S (·.push .none) >>= λ_=>updateSeq S (·.pop)) _ _ _;refine z0 (wpAny_updateSeq a rfl ?_);have i := Heap.get?_update_self (Obj.mapSeq (·.push Value.none)) a rfl;refine wpAny_updateSeq (hz:=by seq_fits) i rfl ?_;have n := Heap.get?_update_self (Obj.mapSeq (·.pop)) i rfl;have B:∀b o,b≠S->K.get? b=some o->((K.update S (Obj.mapSeq (·.push Value.none))).update S (Obj.mapSeq (·.pop))).get? b=some o:=λb o m e=>(Heap.get?_update_other _ _ (YT m)).trans ((Heap.get?_update_other _ _ (YT m)).trans e);exact z3 ⟨VD PySem.F.plain_extend_loop _,y _ _ ((W A.in1 M).frame 0 _ _ st λb D o e=>B b o (λz=>x (z ▸ D)) e) (λb o m e=>B b o m (k b o e)) n⟩
theorem xZ {R:List T0->T4->Prop}(F:A.handled=none)(C:dL prog w (hW w) q ns s.heap)(G:ns.length < scanBound)
  (h:∀c (vs:List T0) d,(∀b o,s.heap.get? b=some o->c.heap.get? b=some o)->c.os=s.os->c.gens=s.gens->IntsAre vs d->d.Perm ns->R vs c):wpAny (model prog w) A (collect (.ref q)) R E s:=by
 have v:q < s.heap.objs.size:=by obtain⟨es,ep,t,e,_⟩:=C;exact ZI e
 unfold collect;refine z0 (wpAny_runValue (WI PySem.F.entry_proto_collect ?_));rw[X2 PySem.F.plain_proto_collect _];show wpAny _ A.in1 (newList [] >>= λl=>again (.builtin "list.__iadd__" ⟨[l,.ref q],[]⟩)) _ _ s;refine z0 (Z2 ?_);refine z3 ⟨VD PySem.F.plain_list_iadd _,WI PySem.F.entry_list_iadd ?_⟩;rw[X2 PySem.F.plain_list_iadd _];have H:(s.heap.push { cls:=.type "list",data:=.seq ([] : List T0).toArray }).get? s.heap.objs.size=some { cls:=.type "list",data:=.seq #[] 0 }:=ZJ _ rfl;show wpAny _ A.in1 (Builtin.List.listExtendWith (.ref s.heap.objs.size) (.ref q) (.ref s.heap.objs.size)) _ _ _;have z:=zT (A:=A) (s:={ s with heap:=s.heap.push { cls:=.type "list",data:=.seq ([] : List T0).toArray } })
  (R:=λ(r:Result) (c:T4)=>∃(a:Array T0) (p:Nat) (d:List Int),r=.ok (.ret (.ref s.heap.objs.size))/\(∀b o,s.heap.get? b=some o->c.heap.get? b=some o)/\c.os=s.os/\c.gens=s.gens/\c.heap.get? s.heap.objs.size=some { cls:=.type "list",dict:=none,data:=.seq a p,slots := #[] }/\IntsAre a.toList d/\d.Perm ns)
  F (C.kept λo e=>ZH _ e) G s.heap.objs.size (x6 v) (.ref s.heap.objs.size) 0 H
  (λc a p d k m j g u n=>⟨a,p,d,rfl,λb o e=>k b o (ZN (ZI e)) (ZH _ e),m,j,g,u,n⟩)
 refine XI z (λB c x => ?_) λe c x => ?_
 ·cases B with
  | done f =>
   obtain⟨a,p,d,e,k,m,j,g,u,n⟩:=x;cases e;show wpAny _ A (load s.heap.objs.size >>= _) _ _ _;exact z0 (wpAny_load g (z3 (h c _ d k m j u n)))
  | again c₁ =>
   refine⟨x.1,W7 x.2 λr i y => ?_⟩;obtain⟨a,p,d,rfl,k,m,j,g,u,n⟩:=y;show wpAny _ A (load s.heap.objs.size >>= _) _ _ _;exact z0 (wpAny_load g (z3 (h i _ d k m j u n)))
 ·obtain⟨_,_,_,D,_⟩:=x
  cases D
theorem EL {Q:T0->T4->Prop}(F:A.handled=none)(v:dL prog w (hW w) q ns s.heap)(l:ns.length < 64)
  (h:∀(a:T4) (h':Heap) (e:Nat) (j:List T0) (d:List Int),(∀b u,s.heap.get? b=some u->a.heap.get? b=some u)->a.os=s.os->a.gens=s.gens->(∀b u,a.heap.get? b=some u->h'.get? b=some u)->h'.get? a.heap.objs.size=some (seqObj "list" j.toArray e)->IntsAre j d->d.Perm ns->d.Pairwise (·<=·)->Q (.ref a.heap.objs.size) { a with heap:=h' }) :
  wpAny (model prog w) A (call (.builtin "sorted") [.ref q]) Q E s:=by
 refine WS kind_sorted plain_sorted entry_sorted (args_sorted1 _) ?_;unfold Builtin.«sorted»;refine z0 (m:=checkCount "sorted" 1 1 _) (z3 ?_);refine z0 (xZ (A:=A.in1) F v (x3 l (by decide)) λa g K C I D hi t => ?_);have J:g.length=ns.length:=by rw[IntsAre.length hi,t.length_eq]
 refine z0 (WX ?_ (by rw[wH];omega));have f:(a.heap.push (seqObj "list" g.toArray 0)).get? a.heap.objs.size=some (seqObj "list" g.toArray 0):=ZJ _ rfl;have keep:∀b u,a.heap.get? b=some u->(a.heap.push (seqObj "list" g.toArray 0)).get? b=some u:=λb u z=>ZH _ z;show wpAny _ _ (holding [Value.ref a.heap.objs.size] _ >>= λ_=>_) _ _ { a with heap:=a.heap.push (seqObj "list" g.toArray 0) };generalize hG:a.heap.push (seqObj "list" g.toArray 0)=G at f keep;have y:G.objs.size=a.heap.objs.size + 1:=by rw[<-hG,X6]
 refine z0 (YC (Z4 slot_list_sort (s:={ a with heap:=G }) ⟨_,f,rfl⟩ entry_list_sort (list_sort_tree f hi (by omega) λi d x B H=>⟨_,rfl,?_⟩) (args_list_sort _)));refine z3 ⟨_,rfl,?_⟩;have c:a.heap.objs.size < G.objs.size:=by omega
 obtain⟨p,n⟩ : ∃p,(G.update a.heap.objs.size (Obj.mapSeq λ_ => #[])).get? a.heap.objs.size=some (seqObj "list" #[] p):=⟨_,get?_update_seq f (λ_ => #[])⟩;have o:(((G.update a.heap.objs.size (Obj.mapSeq λ_ => #[])).push (seqObj "tuple" g.toArray 0)).push (seqObj "list" #[] 0)).get? a.heap.objs.size=some (seqObj "list" #[] p):=by
  rw[Heap.get?_push_ne _ _ _ (by rw[X6,Z3];exact ZN (yS c)),Heap.get?_push_ne _ _ _ (by rw[Z3];exact ZN c)];exact n
 have r:=get?_update_seq o (λ_=>i);refine h a (sortedHeap G a.heap.objs.size g i) _ i.toList d C I D (λb u z => ?_) (by unfold sortedHeap;simpa using r) x (B.trans t) H;have k:b < a.heap.objs.size:=ZI z;have n1:b≠a.heap.objs.size:=ZN k;have n2:b < G.objs.size:=x3 k c;unfold sortedHeap;rw[Heap.get?_update_ne _ _ _ _ n1,Heap.get?_push_ne _ _ _ (by rw[X6,Z3];exact ZN (yS n2)),Heap.get?_push_ne _ _ _ (by rw[Z3];exact ZN n2),Heap.get?_update_ne _ _ _ _ n1];exact keep b u z
end
section
variable {X:Cx} {pos p pos2 p2:Pos}
def Mp (X:Cx):List V->Hp->VK->Prop:=λxs H Q=>∃(a:Addr) (ns:List Int),xs=[.ref a]/\SqL X.K H a (ns.map V.int)/\ns.length < 64/\∀q,H q=none->Q (.ref q) (upd H q (.ext (dL X.prog X.w (hW X.w) q (er ns))))
theorem CH (hc:X.calm=true):fO X (.type "set") (Mp X):=by
 intro pins s σ H xs l Q I r h;obtain⟨a,ns,rfl,i,c,q⟩:=h;obtain⟨u,rfl,g⟩:=aY.one r;cases (show u=Value.ref a from g);obtain⟨j,b,d,n⟩:=I.list i;refine xW (I.ok.hd hc) d.isList (by simpa using L2.mM b) (x3 (show ns.length + 1 < 65 by omega) (by decide)) λm tk st k => ?_;exact⟨.ref s.heap.objs.size,_,I.laid (t':=tk) (o:=.ext (dL X.prog X.w (hW X.w) s.heap.objs.size (er ns))) k (ZL _) ⟨st,by obtain⟨es,ep,t,e,_⟩:=st;exact⟨_,e⟩,λh1 h2 f k=>f.kept k⟩,rfl,q _ (I.hok.fresh (ZL _))⟩
def JK (X:Cx):List V->Hp->VK->Prop:=λxs H Q=>∃(a:Addr) (ns:List Int),xs=[.ref a]/\H a=some (.ext (dL X.prog X.w (hW X.w) a ns))/\ns.length < 64/\∀q,H q=none->Q (.ref q) (upd H q (.lst ((fB ns).map V.int)))
theorem zU (hc:X.calm=true):fO X (.builtin "sorted") (JK X):=by
 intro pins s σ H xs A Q I r h;obtain⟨a,ns,rfl,t,d,q⟩:=h;obtain⟨u,rfl,l⟩:=aY.one r;cases (show u=Value.ref a from l);have st:dL X.prog X.w (hW X.w) a ns s.heap:=(I.hok a _ t).1;refine EL (I.ok.hd hc) st d λc B e f n v y w j i k m x => ?_;have z:=oY m x;subst z;have b:Inv X pins σ H { s with heap:=c.heap,toks:=c.toks }:=I.kept (t':=c.toks) v;have g:Inv X pins σ H c:=⟨b.ok,y.trans b.os,by rw[w];exact b.bare,b.base,b.loc,b.cell,b.free,b.freeC,b.pin,b.hok,b.len⟩;have C:(fB ns).length=ns.length:=(iJ ns).length_eq;exact⟨.ref c.heap.objs.size,_,g.laid (t':=c.toks) (o:=.lst ((fB ns).map V.int)) j (ZL _) ⟨by rw[ZA,wH];omega,f,e,rH k,i⟩,rfl,q _ (g.hok.fresh (ZL _))⟩
end
end Fm
namespace Fm
@[simp] def gE (a:EF):LF:=λσ h=>(a σ h).bind λx h=>match dI h x with
 | some l=>match dm l with
  | some xs=>if xs.length < 64 then .ok ((fB (er xs)).map .int) h else .bad
  | none=>.bad
 | none=>.bad
end Fm
namespace Fm
open PySem PySem.Spec L2
section
variable {X:Cx} {pos p pos2 p2:Pos}
theorem uG {a:Expr} {fa:EF} (hc:X.calm=true) (B:Gl X "sorted") (hm:X.mg "sorted" = none) (k:Gl X "set") (m:X.mg "set" = none) (t:ME X a fa)
  (r:starEach [.Call (.Name "set" p2) [a] [] pos2] X.env=(false,eval (.Call (.Name "set" p2) [a] [] pos2) X.env) :: starEach [] X.env:=by rfl)
  (g:starEach [a] X.env=(false,eval a X.env) :: starEach [] X.env:=by rfl) :
  MF X (.Call (.Name "sorted" p) [.Call (.Name "set" p2) [a] [] pos2] [] pos) (gE fa):=by
 refine PE.imp (iA (zU hc) B hm (by decide +kernel) (cP (oM (CH hc) k m (by decide +kernel) (cP t em g) (he:=g)) em r) (he:=r)) λσ H Q ⟨ρ,σd,hd,z,b⟩=>⟨ρ,σd,hd,z,?_⟩;unfold gE at b;cases e:fa σd hd with
 | exc x h'=>rw[e]at b;exact b
 | bad=>rw[e]at b;exact b
 | ok d hd1 =>
  rw[e]at b;simp only[aW]at b;intro v H1 u A f y;cases c:dI hd1 d with
  | none=>rw[c]at b;exact b.elim
  | some l =>
   rw[c]at b;simp only at b;cases c2:dm l with
   | none=>rw[c2]at b;exact b.elim
   | some ns =>
    rw[c2]at b;simp only at b;split at b
    ·rename_i hz
     obtain⟨q,C,rfl,w,j⟩:=ma f.hp y c;have h:=lA j c2;subst h;refine⟨q,ns,rfl,w,hz,λq1 i => ?_⟩;have s:=cy (o:=HO.ext (dL X.prog X.w (hW X.w) q1 (er ns))) i;exact⟨q1,er ns,rfl,bi,ZS (uD ns) hz,λq2 n=>b.mk (A.trans (Ext.same s)) (f.same s) (JH _) q2 n⟩
    ·exact b.elim
end
end Fm
namespace Fm
section
open Classical
@[simp] def rV (h:Hd):D->Option (List D × Option Nat)
 | .tup l=>some (l,none)
 | .ref n=>match h[n]? with|some (.lst l)=>some (l,some n)|_=>none
 | _=>none
@[simp] def rW (a b:EF) (tg:GF) (body:SF):SF:=λσ h=>match a σ h with
 | .ok x h1=>match b σ h1 with
  | .ok y h2=>match rV h2 x,rV h2 y with
   | some (l,o),some (k,o')=>rq (λh=>dH o l h/\dH o' k h) tg body ((l.zip k).map λp=>.tup [p.1,p.2]) σ h2
   | _,_=>.bad
  | .exc x h=>.exc x σ h
  | .bad=>.bad
 | .exc x h=>.exc x σ h
 | .bad=>.bad
end
end Fm
namespace Fm
open PySem PySem.Spec L2
open PyProof.Rows (Call_)
def itN:Bool->String
 | true => "list_iterator"
 | false => "tuple_iterator"
def It2:Bool->Heap->Addr->Addr->Nat->Prop
 | true,h,i,l,k=>h.IsListIter i l k
 | false,h,i,l,k=>h.IsTupleIter i l k
def Sq2:Bool->Heap->Addr->Array T0->Prop
 | true,h,l,xs=>h.IsList l xs
 | false,h,l,xs=>h.IsTuple l xs
def SqM:Bool->ZX->Hp->Addr->List V->Prop
 | true,K,H,a,xs=>SqL K H a xs
 | false,K,H,a,xs=>SqT K H a xs
variable {l:Addr}{L:Bool}
theorem It2.mk {h:Heap}{i:Addr}(e:h.get? i=some { cls:=.type (itN L),data:=.fields #[.ref l,.int 0 0] }):It2 L h i l 0:=by
 cases L
 ·exact⟨_,e,rfl,rfl⟩
 ·exact⟨_,e,rfl,rfl⟩
theorem It2.obj {h:Heap}{i:Addr}{k:Nat}(t:It2 L h i l k):∃o,h.get? i=some o/\∀v,o.data ≠ .cell v:=by
 cases L
 ·obtain⟨o,q,c,d⟩:=t
  exact⟨o,q,λv e=>by rw[d]at e;cases e⟩
 ·obtain⟨o,q,c,d⟩:=t
  exact⟨o,q,λv e=>by rw[d]at e;cases e⟩
theorem It2.at {h h':Heap}{i:Addr}{k:Nat}(t:It2 L h i l k)(a:∀o,h.get? i=some o->h'.get? i=some o):It2 L h' i l k:=by
 cases L
 ·obtain⟨o,q,r⟩:=t
  exact⟨o,a o q,r⟩
 ·obtain⟨o,q,r⟩:=t
  exact⟨o,a o q,r⟩
theorem It2.extBut {h h':Heap}{a b:Addr}{k:Nat}(t:It2 L h a l k)(e:Heap.ExtBut b h h')(n:a≠b):It2 L h' a l k:=t.at λo q=>e _ _ n q
theorem Sq2.lt {h:Heap}{xs:Array T0}(t:Sq2 L h l xs):l < h.objs.size:=by
 cases L
 ·obtain⟨o,q,_⟩:=t
  exact ZI q
 ·obtain⟨o,q,_⟩:=t
  exact ZI q
theorem kg {h h':Heap}{i:Addr}{xs:Array T0}(t:Sq2 L h l xs)(e:Heap.ExtBut i h h')(n:l≠i):Sq2 L h' l xs:=by
 cases L
 ·obtain⟨o,a,r⟩:=t
  exact⟨o,e _ _ n a,r⟩
 ·obtain⟨o,a,r⟩:=t
  exact⟨o,e _ _ n a,r⟩
theorem o4 {X:Cx}{pins:List (Addr × Obj)}{σ:St}{H:Hp}{s:T4}{a:Addr}{xs:List V}(I:L2.Inv X pins σ H s)(h:SqM L X.K H a xs):∃b,aY xs b/\Sq2 L s.heap a b.toArray/\xs.length<=sizeLine:=by
 cases L
 ·exact I.tuple h
 ·obtain⟨b,r,p,z⟩:=I.list h
  exact⟨b,r,p.isList,z⟩
theorem Bw {X:Cx}{pins:List (Addr × Obj)}{σ:St}{H:Hp}{s:T4}{a:Addr}{xs ys:List V}(I:L2.Inv X pins σ H s)(h:SqM L X.K H a xs)(h':SqM L X.K H a ys):xs=ys:=by
 cases L
 ·exact I.tuple_inj h h'
 ·exact I.list_inj h h'
section
variable {prog:T6} {w:T7} {A:T5} {E:T0->T4->Prop} {s:T4}
theorem mU {it:Addr}{i:Nat}{items:Array T0}{x:T0}{Q:T0->T4->Prop}(t:It2 L s.heap it l i)(u:Sq2 L s.heap l items)(a:items[i]? = some x)
  (q:∀h',It2 L h' it l (i + 1)->Heap.SameBut it s.heap h'->Q x { s with heap:=h' }):wpAny (model prog w) A (Builtin.SmallTypes.nextOf (.ref it)) Q E s:=by
 cases L
 ·exact i4 t u a q
 ·exact wpAny_nextOf_list_item t u a q
theorem uH {it:Addr}{i:Nat}{items:Array T0}{Q:T0->T4->Prop}(b:A.handled=none)(t:It2 L s.heap it l i)(u:Sq2 L s.heap l items)(c:items[i]? = none)
  (a:∀h' e,Heap.ExtBut it s.heap h'->(∃o,h'.get? e=some o/\o.cls=.type "StopIteration")->E (.ref e) { s with heap:=h' }):wpAny (model prog w) A (Builtin.SmallTypes.nextOf (.ref it)) Q E s:=by
 cases L
 ·exact jI b t u c a
 ·exact wpAny_nextOf_list_end b t u c a
end
section
variable {La Lb:Bool} {prog:T6} {w:T7} {A:T5} {E:T0->T4->Prop} {s:T4} {z TI TO i1 i2 l1 l2:Addr} {k:Nat} {xs ys:Array T0} {a b:T0}
theorem CJ {x y:T0}{Q:T0->T4->Prop}(Z:ZipApart z TI TO i1 i2 l1 l2)(u:IsZip s.heap z TI TO .none)(X:IsPair s.heap TI (.ref i1) (.ref i2))(gO:IsPair s.heap TO a b)
  (t1:It2 La s.heap i1 l1 k) (T:It2 Lb s.heap i2 l2 k) (S:Sq2 La s.heap l1 xs) (u2:Sq2 Lb s.heap l2 ys) (ex:xs[k]? = some x) (R:ys[k]? = some y)
  (q:∀h',IsZip h' z TI TO (rawInt s.heap.objs.size)->IsPair h' TO x y->It2 La h' i1 l1 (k + 1)->It2 Lb h' i2 l2 (k + 1)->IsPair h' s.heap.objs.size x y->h'.objs.size=s.heap.objs.size + 1->
   (∀c o,c≠z->c≠TO->c≠i1->c≠i2->s.heap.get? c=some o->h'.get? c=some o)->Q (.ref s.heap.objs.size) { s with heap:=h' }) :
  wpAny (model prog w) A (Builtin.«zip.__next__» ⟨[.ref z],[]⟩) (λM s'=>∃v,M=.done (.ret v)/\Q v s') E s:=by
 show wpAny _ _ (field (.ref z) 2 >>= λ_=>_) _ _ _;refine z0 (YM u rfl (x:=.bool false) rfl ?_);show wpAny _ _ (field (.ref z) 3 >>= λ_=>_) _ _ _;refine z0 (YM u rfl (x:=.ref TI) rfl (z0 (YW X rfl ?_)));show wpAny _ _ (Builtin.SmallTypes.ownedTupleIsFree (.ref z) >>= λ_=>_) _ _ _;unfold Builtin.SmallTypes.ownedTupleIsFree;refine z0 (z0 (YM u rfl (x:=.none) rfl (z3 ?_)));simp only[YL];refine z0 (W3 (z0 (YM u rfl (x:=.ref TO) rfl (z0 (XS u (by simp) λg1 i l=>z0 ?_)))));replace i:IsZip g1 z TI TO .ellipsis:=i;simp only[List.zipIdx_cons,List.zipIdx_nil,WH,List.forIn_nil];refine z0 (z0 (wpAny_onRaise ?_));show wpAny _ _ (Builtin.SmallTypes.nextOf (.ref i1) >>= λ_=>_) _ _ _;refine z0 (mU (t1.extBut l.extBut Z.i1z) (kg S l.extBut Z.l1z) ex λW N n=>z3 ?_);have r:IsPair W TO a b:=n.extBut _ _ Z.TOi1 (l.extBut _ _ Z.TOz gO);refine z0 (YW r rfl (z0 (wpAny_updateSeq_pair r λg3 h m=>z0 (wpAny_letGo (z3 ?_)))));replace h:IsPair g3 TO x b:=h;refine z0 (z0 (wpAny_onRaise ?_));show wpAny _ _ (Builtin.SmallTypes.nextOf (.ref i2) >>= λ_=>_) _ _ _;refine z0 (mU (((T.extBut l.extBut Z.i2z).extBut n.extBut Z.i12.symm).extBut m.extBut Z.TOi2.symm) (kg (kg (kg u2 l.extBut Z.l2z) n.extBut Z.l2i1) m.extBut Z.l2TO) R λY L C=>z3 ?_);have t:IsPair Y TO x b:=C.extBut _ _ Z.TOi2 h;refine z0 (YW t rfl (z0 (wpAny_updateSeq_pair t λd g p=>z0 (wpAny_letGo (z3 (z3 ?_))))));replace g:IsPair d TO x y:=g;refine z0 (YW g rfl (z0 (wpAny_newTuple ?_)));have sz:d.objs.size=s.heap.objs.size:=by rw[p.1,C.1,m.1,n.1,l.1]
 have B:IsZip d z TI TO .ellipsis:=p.extBut _ _ Z.TOz.symm (C.extBut _ _ Z.i2z.symm (m.extBut _ _ Z.TOz.symm (n.extBut _ _ Z.i1z.symm i)));have U:∀c o,c≠z->c≠TO->c≠i1->c≠i2->s.heap.get? c=some o->d.get? c=some o:=λc o n1 n2 n3 n4 e=>p.extBut _ _ n2 (C.extBut _ _ n4 (m.extBut _ _ n2 (n.extBut _ _ n3 (l.extBut _ _ n1 e))));have J:It2 La d i1 l1 (k + 1):=((N.extBut m.extBut Z.TOi1.symm).extBut C.extBut Z.i12).extBut p.extBut Z.TOi1.symm;have I:It2 Lb d i2 l2 (k + 1):=L.extBut p.extBut Z.TOi2.symm;have P:z < d.objs.size:=ZI B;show wpAny _ _ (Builtin.SmallTypes.ownedTupleHandOut (.ref z) (.ref d.objs.size) >>= λ_=>_) _ _ _;unfold Builtin.SmallTypes.ownedTupleHandOut;have H:IsZip (d.push { cls:=.type "tuple",data:=.seq #[x,y] }) z TI TO .ellipsis:=ZH _ B;refine z0 (z0 (XS H (by simp) λV j K => ?_));replace j:IsZip V z TI TO (rawInt d.objs.size):=j;refine XS j (by simp) λD f G => ?_;replace f:IsZip D z TI TO (rawInt d.objs.size):=f;have F:∀c o,c≠z->d.get? c=some o->D.get? c=some o:=λc o n1 e=>G.extBut _ _ n1 (K.extBut _ _ n1 (ZH _ e));have gT:IsPair D d.objs.size x y:=G.extBut _ _ (x6 P) (K.extBut _ _ (x6 P) (ZJ _ rfl));have O:D.objs.size=d.objs.size + 1:=by rw[G.1,K.1,v3]
 rw[sz]at f gT O;refine z3 ⟨_,rfl,?_⟩;show Q (.ref d.objs.size) _;rw[sz];exact q D f (F _ _ Z.TOz g) (J.at λo e=>F _ o Z.i1z e) (I.at λo e=>F _ o Z.i2z e) gT O λc o n1 n2 n3 n4 e=>F c o n1 (U c o n1 n2 n3 n4 e)
theorem EM {Q:Fin->T4->Prop}(B:A.handled=none)(Z:ZipApart z TI TO i1 i2 l1 l2)(m:IsZip s.heap z TI TO .none)(K:IsPair s.heap TI (.ref i1) (.ref i2))(N:IsPair s.heap TO a b)
  (F:It2 La s.heap i1 l1 k) (I:It2 Lb s.heap i2 l2 k) (u:Sq2 La s.heap l1 xs) (O:Sq2 Lb s.heap l2 ys) (nd:xs[k]? = none\/ys[k]? = none)
  (q:∀h' e,(∀c o,c≠z->c≠TO->c≠i1->c≠i2->s.heap.get? c=some o->h'.get? c=some o)->(∃o,h'.get? e=some o/\o.cls=.type "StopIteration")->E (.ref e) { s with heap:=h' }) :
  wpAny (model prog w) A (Builtin.«zip.__next__» ⟨[.ref z],[]⟩) Q E s:=by
 show wpAny _ _ (field (.ref z) 2 >>= λ_=>_) _ _ _;refine z0 (YM m rfl (x:=.bool false) rfl ?_);show wpAny _ _ (field (.ref z) 3 >>= λ_=>_) _ _ _;refine z0 (YM m rfl (x:=.ref TI) rfl (z0 (YW K rfl ?_)));show wpAny _ _ (Builtin.SmallTypes.ownedTupleIsFree (.ref z) >>= λ_=>_) _ _ _;unfold Builtin.SmallTypes.ownedTupleIsFree;refine z0 (z0 (YM m rfl (x:=.none) rfl (z3 ?_)));simp only[YL];refine z0 (W3 (z0 (YM m rfl (x:=.ref TO) rfl (z0 (XS m (by simp) λM d f=>z0 ?_)))));replace d:IsZip M z TI TO .ellipsis:=d;simp only[List.zipIdx_cons,List.zipIdx_nil,WH,List.forIn_nil];refine z0 (z0 (wpAny_onRaise ?_));show wpAny _ _ (Builtin.SmallTypes.nextOf (.ref i1) >>= λ_=>_) _ _ _;cases ex:xs[k]? with
 | none =>
  refine z0 (uH B (F.extBut f.extBut Z.i1z) (kg u f.extBut Z.l1z) ex λp e g r => ?_);obtain⟨t,h,hc⟩:=r;have j:IsZip p z TI TO .ellipsis:=g _ _ Z.i1z.symm d;have ne:e≠z:=λv=>by subst v;rw[j]at h;cases h;simp at hc
  exact XS j (by simp) λD _ i=>q D e (λc o n1 _ n3 _ v=>i.extBut _ _ n1 (g _ _ n3 (f.extBut _ _ n1 v))) ⟨t,i.extBut _ _ ne h,hc⟩
 | some x =>
  have H:ys[k]? = none:=nd.resolve_left (by rw[ex];exact Option.some_ne_none _);refine z0 (mU (F.extBut f.extBut Z.i1z) (kg u f.extBut Z.l1z) ex λp P g=>z3 ?_);have l:IsPair p TO a b:=g.extBut _ _ Z.TOi1 (f.extBut _ _ Z.TOz N);refine z0 (YW l rfl (z0 (wpAny_updateSeq_pair l λD J i=>z0 (wpAny_letGo (z3 ?_)))));refine z0 (z0 (wpAny_onRaise ?_));show wpAny _ _ (Builtin.SmallTypes.nextOf (.ref i2) >>= λ_=>_) _ _ _;refine z0 (uH B (((I.extBut f.extBut Z.i2z).extBut g.extBut Z.i12.symm).extBut i.extBut Z.TOi2.symm) (kg (kg (kg O f.extBut Z.l2z) g.extBut Z.l2i1) i.extBut Z.l2TO) H λL e C r => ?_);obtain⟨t,h,hc⟩:=r;have n:IsZip L z TI TO .ellipsis:=C _ _ Z.i2z.symm (i.extBut _ _ Z.TOz.symm (g.extBut _ _ Z.i1z.symm d));have ne:e≠z:=λv=>by subst v;rw[n]at h;cases h;simp at hc
  exact XS n (by simp) λG _ y=>q G e (λc o n1 n2 n3 n4 v=>y.extBut _ _ n1 (C _ _ n4 (i.extBut _ _ n2 (g.extBut _ _ n3 (f.extBut _ _ n1 v))))) ⟨t,y.extBut _ _ ne h,hc⟩
theorem vS {x y:T0}{Q:Option T0->T4->Prop}(Z:ZipApart z TI TO i1 i2 l1 l2)(d:IsZip s.heap z TI TO .none)(m:IsPair s.heap TI (.ref i1) (.ref i2))(n:IsPair s.heap TO a b)
  (v:It2 La s.heap i1 l1 k) (i:It2 Lb s.heap i2 l2 k) (h:Sq2 La s.heap l1 xs) (r:Sq2 Lb s.heap l2 ys) (ex:xs[k]? = some x) (g:ys[k]? = some y)
  (q:∀h',IsZip h' z TI TO (rawInt s.heap.objs.size)->IsPair h' TO x y->It2 La h' i1 l1 (k + 1)->It2 Lb h' i2 l2 (k + 1)->IsPair h' s.heap.objs.size x y->h'.objs.size=s.heap.objs.size + 1->
   (∀c o,c≠z->c≠TO->c≠i1->c≠i2->s.heap.get? c=some o->h'.get? c=some o)->Q (some (.ref s.heap.objs.size)) { s with heap:=h' }) :
  wpAny (model prog w) A (pyNext (.ref z)) Q E s:=by
 have ty:s.TypeIs (.ref z) "zip" := ⟨_,d,rfl⟩;unfold pyNext;refine z0 (X7 (wpAny_callSpecial?_slot (name:=Str.ofString "__next__") ty F.slot_zip_next (Z4 F.slot_zip_next ty F.entry_zip_next ?_ (F.args_zip_next_1 _))));exact CJ Z d m n v i h r ex g λh' p j e u l f t=>z3 (q h' p j e u l f t)
theorem x9 {Q:Option T0->T4->Prop}(p:A.handled=none)(Z:ZipApart z TI TO i1 i2 l1 l2)(d:IsZip s.heap z TI TO .none)(j:IsPair s.heap TI (.ref i1) (.ref i2))(m:IsPair s.heap TO a b)
  (r:It2 La s.heap i1 l1 k) (g:It2 Lb s.heap i2 l2 k) (f:Sq2 La s.heap l1 xs) (n:Sq2 Lb s.heap l2 ys) (nd:xs[k]? = none\/ys[k]? = none)
  (q:∀h',(∀c o,c≠z->c≠TO->c≠i1->c≠i2->s.heap.get? c=some o->h'.get? c=some o)->Q none { s with heap:=h' }):wpAny (model prog w) A (pyNext (.ref z)) Q E s:=by
 have ty:s.TypeIs (.ref z) "zip" := ⟨_,d,rfl⟩;unfold pyNext;refine z0 (X7 (wpAny_callSpecial?_slot (name:=Str.ofString "__next__") ty F.slot_zip_next (Z4 F.slot_zip_next ty F.entry_zip_next ?_ (F.args_zip_next_1 _))));refine EM p Z d j m r g f n nd λh' e h l => ?_;obtain⟨o,i,hc⟩:=l;exact z0 (wpAny_isInstance (T := "StopIteration") (b:=true) ⟨o,i,hc⟩ isSubtype_stop (z3 (q _ h)))
end
def zm1 (La:Bool) (h:Heap) (l1:Addr):Heap:=h.push { cls:=.type (itN La),data:=.fields #[.ref l1,.int 0 0] }
def zm2 (La Lb:Bool) (h:Heap) (l1 l2:Addr):Heap:=(zm1 La h l1).push { cls:=.type (itN Lb),data:=.fields #[.ref l2,.int 0 0] }
def zm3 (La Lb:Bool) (h:Heap) (l1 l2:Addr):Heap:=(zm2 La Lb h l1 l2).push { cls:=.type "tuple",data:=.seq #[.ref h.objs.size,.ref (zm1 La h l1).objs.size] }
def zm4 (La Lb:Bool) (h:Heap) (l1 l2:Addr):Heap:=(zm3 La Lb h l1 l2).push { cls:=.type "tuple",data:=.seq #[.none,.none] }
def zm5 (La Lb:Bool) (h:Heap) (l1 l2:Addr):Heap:=(zm4 La Lb h l1 l2).push { cls:=.type "zip",data:=.fields #[.none,.bool false,.bool false,.ref (zm2 La Lb h l1 l2).objs.size,.ref (zm3 La Lb h l1 l2).objs.size] }
set_option maxHeartbeats 4000000 in
theorem zV (La Lb:Bool)(l1 l2:Addr)(xs ys:Array T0) :
  Meets (Builtin.«zip.__new__» ⟨[.type "zip",.ref l1,.ref l2],[]⟩) (λ_ R s=>Sq2 La s.heap l1 xs/\Sq2 Lb s.heap l2 ys/\R (.ok (.ret (.ref (zm4 La Lb s.heap l1 l2).objs.size))) { s with heap:=zm5 La Lb s.heap l1 l2 }) :=
 .of_wp λprog w A R s h=>by
  obtain⟨a,g,d,tk,os⟩:=s;obtain⟨f,i,h⟩:=h;have j:=sub_zip;cases La<;>cases Lb
  ·have b:Heap.IsTuple (Shared.heap ⟨a,g,d,tk,os⟩) l1 xs:=f
   have e:Heap.IsTuple (Shared.heap ⟨a.push { cls:=.type "tuple_iterator",data:=.fields #[.ref l1,.int 0 0] },g,d,tk,os⟩) l2 ys:=by
    obtain⟨o,c,r⟩:=i;exact⟨o,ZH _ c,r⟩
   wp_walk using YP b,YP e
   exact⟨_,rfl,h⟩
  ·have b:Heap.IsTuple (Shared.heap ⟨a,g,d,tk,os⟩) l1 xs:=f
   have e:Heap.IsList (Shared.heap ⟨a.push { cls:=.type "tuple_iterator",data:=.fields #[.ref l1,.int 0 0] },g,d,tk,os⟩) l2 ys:=by
    obtain⟨o,c,r⟩:=i;exact⟨o,ZH _ c,r⟩
   wp_walk using YP b,X0 e
   exact⟨_,rfl,h⟩
  ·have b:Heap.IsList (Shared.heap ⟨a,g,d,tk,os⟩) l1 xs:=f
   have e:Heap.IsTuple (Shared.heap ⟨a.push { cls:=.type "list_iterator",data:=.fields #[.ref l1,.int 0 0] },g,d,tk,os⟩) l2 ys:=by
    obtain⟨o,c,r⟩:=i;exact⟨o,ZH _ c,r⟩
   wp_walk using X0 b,YP e
   exact⟨_,rfl,h⟩
  ·have b:Heap.IsList (Shared.heap ⟨a,g,d,tk,os⟩) l1 xs:=f
   have e:Heap.IsList (Shared.heap ⟨a.push { cls:=.type "list_iterator",data:=.fields #[.ref l1,.int 0 0] },g,d,tk,os⟩) l2 ys:=by
    obtain⟨o,c,r⟩:=i;exact⟨o,ZH _ c,r⟩
   wp_walk using X0 b,X0 e
   exact⟨_,rfl,h⟩
section
variable {La Lb:Bool} {prog:T6} {w:T7} {A:T5} {E:T0->T4->Prop} {s:T4}
theorem CK {l1 l2:Addr}{xs ys:Array T0}{Q:T0->T4->Prop}(i:Sq2 La s.heap l1 xs)(p:Sq2 Lb s.heap l2 ys)
  (q:∀h',IsZip h' (s.heap.objs.size + 4) (s.heap.objs.size + 2) (s.heap.objs.size + 3) .none->IsPair h' (s.heap.objs.size + 2) (.ref s.heap.objs.size) (.ref (s.heap.objs.size + 1))->
   IsPair h' (s.heap.objs.size + 3) .none .none->It2 La h' s.heap.objs.size l1 0->It2 Lb h' (s.heap.objs.size + 1) l2 0->h'.objs.size=s.heap.objs.size + 5->
   (∀c o,s.heap.get? c=some o->h'.get? c=some o)->Q (.ref (s.heap.objs.size + 4)) { s with heap:=h' }) :
  wpAny (model prog w) A (call (.type "zip") [.ref l1,.ref l2]) Q E s:=by
 refine callType_new F.called_zip (by decide) (F.typeCall_zip_2 _ _) (F.newCall_zip_2 _ _) (λobj=>F.args_object_init_3 obj _ _) F.entry_zip_new (zV La Lb l1 l2 xs ys) ⟨i,p,?_⟩;have a:(zm1 La s.heap l1).objs.size=s.heap.objs.size + 1:=v3 ..;have f:(zm2 La Lb s.heap l1 l2).objs.size=s.heap.objs.size + 2:=(v3 ..).trans (by rw[a]);have b:(zm3 La Lb s.heap l1 l2).objs.size=s.heap.objs.size + 3:=(v3 ..).trans (by rw[f]);have d:(zm4 La Lb s.heap l1 l2).objs.size=s.heap.objs.size + 4:=(v3 ..).trans (by rw[b]);have n:(zm5 La Lb s.heap l1 l2).objs.size=s.heap.objs.size + 5:=(v3 ..).trans (by rw[d]);have h:∀{c o},(zm1 La s.heap l1).get? c=some o->(zm5 La Lb s.heap l1 l2).get? c=some o:=λe=>ZH _ (ZH _ (ZH _ (ZH _ e)));have p2:∀{c o},(zm2 La Lb s.heap l1 l2).get? c=some o->(zm5 La Lb s.heap l1 l2).get? c=some o:=λe=>ZH _ (ZH _ (ZH _ e));have m:∀{c o},(zm3 La Lb s.heap l1 l2).get? c=some o->(zm5 La Lb s.heap l1 l2).get? c=some o:=λe=>ZH _ (ZH _ e);have l:(zm5 La Lb s.heap l1 l2).get? s.heap.objs.size=some { cls:=.type (itN La),data:=.fields #[.ref l1,.int 0 0] }:=h (ZJ _ rfl);have j:(zm5 La Lb s.heap l1 l2).get? (s.heap.objs.size + 1)=some { cls:=.type (itN Lb),data:=.fields #[.ref l2,.int 0 0] }:=by rw[<-a];exact p2 (ZJ _ rfl)
 have r:(zm5 La Lb s.heap l1 l2).get? (s.heap.objs.size + 2)=some { cls:=.type "tuple",data:=.seq #[.ref s.heap.objs.size,.ref (s.heap.objs.size + 1)] }:=by rw[<-f,<-a];exact m (ZJ _ rfl)
 have k:(zm5 La Lb s.heap l1 l2).get? (s.heap.objs.size + 3)=some { cls:=.type "tuple",data:=.seq #[.none,.none] }:=by rw[<-b];exact ZH _ (ZJ _ rfl)
 have g:(zm5 La Lb s.heap l1 l2).get? (s.heap.objs.size + 4)=some { cls:=.type "zip",data:=.fields #[.none,.bool false,.bool false,.ref (s.heap.objs.size + 2),.ref (s.heap.objs.size + 3)] }:=by rw[<-d,<-f,<-b];exact ZJ _ rfl
 show _/\_;rw[d];exact⟨⟨_,g,rfl⟩,q _ g r k (It2.mk l) (It2.mk j) n λc o e=>h (ZH _ e)⟩
end
def Itm (La Lb:Bool) (K:ZX) (a b:Addr):It :=
 ⟨λi H=>∃xs ys x y,SqM La K H a xs/\SqM Lb K H b ys/\xs[i]? = some x/\ys[i]? = some y,λi H x H'=>∃q v u,x=.ref q/\H q=none/\H'=upd H q (.tup [v,u])/\(∀xs,SqM La K H a xs->xs[i]? = some v)/\∀ys,SqM Lb K H b ys->ys[i]? = some u,λi H=>∃xs ys,SqM La K H a xs/\SqM Lb K H b ys/\min xs.length ys.length=i⟩
theorem CL {La Lb:Bool}{P:T6}{w:T7}{K:ZX}{elts:List Expr}{k:Nat}{pos:Pos}(z TI TO g j a b:Addr)(Z:ZipApart z TI TO g j a b) :
  xb P w K (.Tuple elts k pos) (Itm La Lb K a b) [z,TI,TO,g,j] z (λi h=>IsZip h z TI TO .none/\IsPair h TI (.ref g) (.ref j)/\(∃x y,IsPair h TO x y)/\It2 La h g a i/\It2 Lb h j b i) where
 mem:=by simp
 obj:=λi h st c hc=>by
  obtain⟨J,A,⟨x,y,F⟩,L,G⟩:=st;have f:c=z\/c=TI\/c=TO\/c=g\/c=j:=by simpa using hc
  rcases f with rfl|rfl|rfl|rfl|rfl
  ·exact⟨_,J,λv e=>by
    have l:Data.fields _=Data.cell v:=e;cases l⟩
  ·exact⟨_,A,λv e=>by
    have l:Data.seq _ _=Data.cell v:=e;cases l⟩
  ·exact⟨_,F,λv e=>by
    have l:Data.seq _ _=Data.cell v:=e;cases l⟩
  ·exact L.obj
  ·exact G.obj
 keep:=λi h h' st t=>by
  obtain⟨J,A,⟨x,y,F⟩,L,G⟩:=st;exact⟨t z (by simp) _ J,t TI (by simp) _ A,⟨x,y,t TO (by simp) _ F⟩,L.at (λo e=>t g (by simp) o e),G.at (λo e=>t j (by simp) o e)⟩
 item:=by
  intro X hP hw hK hc i pins s σ H E I M st hg;subst hP hw hK;obtain⟨J,A,⟨x0,y0,F⟩,L,G⟩:=st;obtain⟨xs,ys,x,y,B,D,hx,hy⟩:=hg;obtain⟨C,O,W,a4⟩:=o4 I B;obtain⟨p,N,p2,a0⟩:=o4 I D;obtain⟨u,hu,ru⟩:=O.get hx;obtain⟨v,hv,rv⟩:=N.get hy;have T1:Sq2 La s.heap a C.toArray:=W;have T2:Sq2 Lb s.heap b p.toArray:=p2;have ld:=λc (h:c∈[z,TI,TO,g,j])=>M c h;refine vS Z J A F L G T1 T2 (by simpa using hu) (by simpa using hv) λh' az aO a1 a2 aN a5 t=>⟨_,rfl,wpAny_letOwnedTupleGo_zip az λh2 a3 U => ?_⟩;have zl:z < s.heap.objs.size:=ZI J;have Il:TI < s.heap.objs.size:=ZI A;have Ol:TO < s.heap.objs.size:=ZI F;have l1:g < s.heap.objs.size:=by obtain⟨_,e,_⟩:=L.obj;exact ZI e
  have l2:j < s.heap.objs.size:=by obtain⟨_,e,_⟩:=G.obj;exact ZI e
  have R:H s.heap.objs.size=none:=I.hok.fresh (ZL _);have keep:∀c o,c∉[z,TO,g,j]->s.heap.get? c=some o->h2.get? c=some o:=λc o hc e=>by
   have f:c≠z/\c≠TO/\c≠g/\c≠j:=by simpa using hc
   exact(U.2 c f.1).trans (t c o f.1 f.2.1 f.2.2.1 f.2.2.2 e)
  have nw:IsPair h2 s.heap.objs.size u v:=(U.2 _ (x6 zl)).trans aN;have sub:∀c∈[z,TO,g,j],c∈[z,TI,TO,g,j]:=λc hc=>by simp at hc ⊢;rcases hc with e|e|e|e<;>simp[e]
  have T:IsPair h2 TI (.ref g) (.ref j):=keep TI _ (by simp;exact⟨Z.TIz,Z.TITO,Z.TIi1,Z.TIi2⟩) A;refine⟨.ref s.heap.objs.size,upd H s.heap.objs.size (.tup [x,y]),?_,rfl,⟨_,x,y,rfl,R,rfl,λY Q=>by rw[Bw I Q B];exact hx,λY Q=>by rw[Bw I Q D];exact hy⟩,
   ⟨a3,T,⟨_,_,(U.2 _ Z.TOz).trans aO⟩,(a1.at λo e=>(U.2 _ Z.i1z).trans e),(a2.at λo e=>(U.2 _ Z.i2z).trans e)⟩,λc hc => ?_⟩
  ·suffices I2:L2.Inv X pins σ (upd H s.heap.objs.size (.tup [x,y])) { s with heap:=h2,gens:=s.gens,drawn:=s.drawn,toks:=s.toks } from I2
   have S:∀c V,H c=some V->c∉[z,TO,g,j]:=λc V e q=>by rw[(M c (sub c q)).1]at e;cases e
   refine I.step (g':=s.gens) (d':=s.drawn) (t':=s.toks) (ch:=[z,TO,g,j]) (λc hc => ?_) (λc o _ _ hc q _=>keep c o hc q) (λc o _ _ hc q _=>⟨o.slots,keep c o hc q⟩) (λc o _ q n => ?_) (λc o hc q=>⟨o,keep c o hc q⟩)
    (λc Y q => ?_) (λc o V q => ?_) (λc ps q=>⟨#[],?_⟩) (λm hm => ?_) (λc V q => ?_) I.bare
   ·have:=M c (sub c hc)
    exact⟨this.2.2.2.1,this.2.1,this.2.2.2.2.1,this.2.2.2.2.2⟩
   ·rw[aC (ZN (ZI q))];exact n
   ·rw[aC (bm q R)];exact q
   ·rw[aC (bm q R)];exact q
   ·rw[aC (bm q R),q];simp
   ·obtain⟨o,es,ep,ho,r⟩:=hm
    exact⟨o,es,ep,keep _ o (λq=>(M _ (sub _ q)).2.1 rfl) ho,r⟩
   ·by_cases hb:c=s.heap.objs.size
    ·subst hb
     rw[bi]at q;cases q;exact⟨by show 2<=sizeLine;rw[wH];decide,[u,v],.cons ru (.cons rv .nil),_,nw,rfl,_,rfl⟩
    ·rw[aC hb]at q
     refine(I.hok c V q).stay (λd v' hd' e => ?_) (λd e=>by rw[aC (bm e R)];exact e) λd Y e=>by rw[aC (bm e R)];exact e
     rcases hd' with l|l
     ·subst l;exact keep d v' (S d _ q) e
     ·exact keep d v' (S d _ l) e
  ·have f:c=z\/c=TI\/c=TO\/c=g\/c=j:=by simpa using hc
   have:c≠s.heap.objs.size:=by rcases f with e|e|e|e|e<;>rw[e]<;>exact ZN (by assumption)
   rw[aC this];exact(M c hc).1
 done:=by
  intro X hP hw hK hc i pins s σ H E I M st hg;subst hP hw hK;obtain⟨J,A,⟨x0,y0,F⟩,L,G⟩:=st;obtain⟨xs,ys,B,D,hi⟩:=hg;obtain⟨C,O,W,a4⟩:=o4 I B;obtain⟨p,N,p2,a0⟩:=o4 I D;have T1:Sq2 La s.heap a C.toArray:=W;have T2:Sq2 Lb s.heap b p.toArray:=p2;have e1:=O.length;have e2:=N.length;have nd:C.toArray[i]? = none\/p.toArray[i]? = none:=by
   rcases Nat.le_total xs.length ys.length with h|h
   ·exact .inl (Array.getElem?_eq_none (by simp;omega))
   ·exact .inr (Array.getElem?_eq_none (by simp;omega))
  have sub:∀c∈[z,TO,g,j],c∈[z,TI,TO,g,j]:=λc hc=>by simp at hc ⊢;rcases hc with e|e|e|e<;>simp[e]
  refine x9 (I.ok.hd hc) Z J A F L G T1 T2 nd λh' t=>⟨rfl,GI (t':=s.toks) (ch:=[z,TO,g,j]) I (λc o hc e => ?_) λc hc=>M c (sub c hc)⟩;have f:c≠z/\c≠TO/\c≠g/\c≠j:=by simpa using hc
  exact t c o f.1 f.2.1 f.2.2.1 f.2.2.2 e
 self:=λ_ _ _ _ _ st h=>wpAny_pyIter_zip st.1 h
section
variable {X:Cx} {pos p tp:Pos} {elts:List Expr} {tk:Nat}
def iZm (K:ZX) (ta:TA):TI:=λσ H R=>ta σ H λvs H1=>∃La Lb a b xs ys,vs=[.ref a,.ref b]/\SqM La K H1 a xs/\SqM Lb K H1 b ys/\(xs.length<=sizeLine->ys.length<=sizeLine->R (Itm La Lb K a b) H1)
theorem GU {a b:Expr} {ta:TA} (N:Gl X "zip") (hm:X.mg "zip" = none) (F:PA X [a,b] ta) (A:starEach [a,b] X.env=[(false,eval a X.env),(false,eval b X.env)]:=by rfl) (f:starEach [b] X.env=[(false,eval b X.env)]:=by rfl):PI X (.Tuple elts tk tp) (.Call (.Name "zip" p) [a,b] [] pos) (iZm X.K ta):=by
 intro pins s σ H R I h;refine Call_ (jY I N hm PyProof.Rows.boot_zip (YS (thn (F pos pins s σ H _ I h) λQ d ⟨T,H1,i,C,q1⟩ => ?_) (by rw[A,f]) (by rw[f];rfl)));obtain⟨La,Lb,k,j,xs,ys,e,l,u,q⟩:=q1;subst e;cases C with
 | cons r rr =>
  cases rr with
  | cons r' rr =>
   cases rr;cases r;cases r';obtain⟨n,D,B,t⟩:=o4 i l;obtain⟨m,J,p2,o⟩:=o4 i u;have v:Sq2 La d.heap k n.toArray:=B;have y:Sq2 Lb d.heap j m.toArray:=p2;have P:k < d.heap.objs.size:=v.lt;have S:j < d.heap.objs.size:=y.lt;refine CK v y λw x E K O z L M => ?_;refine wpAny_pyIter_zip (s:={ d with heap:=w }) x ?_;have G:Inv X pins σ H1 { d with heap:=w }:=i.kept (t':=d.toks) M;have Z:ZipApart (d.heap.objs.size + 4) (d.heap.objs.size + 2) (d.heap.objs.size + 3) d.heap.objs.size (d.heap.objs.size + 1) k j:=by
    constructor<;>simp only[Addr] at *<;>omega
   refine⟨d.heap.objs.size + 4,[d.heap.objs.size + 4,d.heap.objs.size + 2,d.heap.objs.size + 3,d.heap.objs.size,d.heap.objs.size + 1],_,_,H1,rfl,G,CL _ _ _ _ _ k j Z,⟨x,E,⟨_,_,K⟩,O,z⟩,λc hc => ?_,q t o⟩;have g:d.heap.objs.size<=c:=by
    have:c=d.heap.objs.size + 4\/c=d.heap.objs.size + 2\/c=d.heap.objs.size + 3\/c=d.heap.objs.size\/c=d.heap.objs.size + 1:=by simpa using hc
    rcases this with e|e|e|e|e<;>rw[e]<;>first|exact Z1 _ _|exact ZL _
   exact i.fpOk g (i.hok.fresh g)
theorem CM {La Lb:Bool}{K:ZX}{ρ:List Addr}{H:Hp}{q F:Addr}{l c:List D}{g g':Option Nat}(A:∀ρ' H' hd',Ext ρ H ρ' H'->RH K ρ' H' hd'->dH g l hd'->∃vs,SqM La K H' q vs/\RDs K ρ' H' l vs)(B:∀ρ' H' hd',Ext ρ H ρ' H'->RH K ρ' H' hd'->dH g' c hd'->∃vs,SqM Lb K H' F vs/\RDs K ρ' H' c vs)(hz:l.length<=sizeLine) :
  qX K ρ H (Itm La Lb K q F) ((l.zip c).map λp=>.tup [p.1,p.2]) (λh=>dH g l h/\dH g' c h) where
 go:=λρ' H' hd' i d ex k m hi=>by
  obtain⟨j,w⟩:=List.getElem?_eq_some_iff.mp hi;have J:i < l.length:=by simp at j;omega
  have r:i < c.length:=by simp at j;omega
  have hd:d=.tup [l[i],c[i]]:=by rw[<-w];simp
  subst hd;obtain⟨vs,n,u⟩:=A ρ' H' hd' ex k m.1;obtain⟨a,b,e⟩:=B ρ' H' hd' ex k m.2;obtain⟨v,C,M⟩:=u.get (i:=i) (d:=l[i]) (by simp[J]);obtain⟨G,f,t⟩:=e.get (i:=i) (d:=c[i]) (by simp[r]);refine⟨⟨vs,a,v,G,n,b,C,f⟩,λx P y => ?_⟩;obtain⟨q2,N,O,rfl,L,rfl,y,I⟩:=y;have E:=y vs n;have z:=I a b;rw[C]at E;rw[f]at z;cases E;cases z;have s:=cy (o:=HO.tup [v,G]) L;refine⟨s,?_⟩;simp only[RD];exact⟨q2,_,rfl,bi,RDs.cons (M.mono (Kp.same s)) (RDs.cons (t.mono (Kp.same s)) RDs.nil)⟩
 stop:=λρ' H' hd' ex k m=>by
  obtain⟨vs,n,u⟩:=A ρ' H' hd' ex k m.1;obtain⟨a,b,e⟩:=B ρ' H' hd' ex k m.2;exact⟨vs,a,n,b,by rw[<-u.length,<-e.length];simp⟩
 sz:=by simp;omega
theorem ya {K:ZX}{ρ:List Addr}{H:Hp}{hd:Hd}{d:D}{v:V}{l:List D}{g:Option Nat}(r:RH K ρ H hd)(i:RD K ρ H d v)(e:rV hd d=some (l,g)) :
  ∃(L:Bool) (q:Addr),v=.ref q/\(∃a,SqM L K H q a/\RDs K ρ H l a)/\∀ρ' H' hd',Ext ρ H ρ' H'->RH K ρ' H' hd'->dH g l hd'->∃a,SqM L K H' q a/\RDs K ρ' H' l a:=by
 cases d<;>simp only[rV]at e<;>try (cases e;done)
 ·cases e
  simp only[RD]at i;obtain⟨q,a,rfl,f,b⟩:=i;exact⟨false,q,rfl,⟨a,SqT.of f,b⟩,λρ' H' hd' ex m _=>⟨a,SqT.of ((r.kp ex).tup q a f),b.mono (r.kp ex)⟩⟩
 ·rename_i n
  cases c:hd[n]? with
  | none=>rw[c]at e;cases e
  | some cell =>
   rw[c]at e;cases cell with
   | dct _=>cases e
   | dcT _=>cases e
   | lst l0 =>
    cases e;simp only[RD]at i;obtain⟨q,f,rfl⟩:=i;obtain⟨a,o,b⟩:=r.cel n _ q c f;refine⟨true,q,rfl,⟨a,SqL.of o,b⟩,λρ' H' hd' ex m s => ?_⟩;obtain⟨k,j,h⟩:=m.cel n _ q s (ex.get f);exact⟨k,SqL.of j,h⟩
def EN (K:ZX) (ρ:List Addr) (H:Hp) (σd:Sd) (σ:St) (f g:EF) (hd:Hd) (R:It->Hp->Prop):Prop:=match f σd hd with
 | .ok x h1=>match g σd h1 with
  | .ok y h2=>match rV h2 x,rV h2 y with
   | some (l,o),some (k,o')=>∀J H' ρ',Ext ρ H ρ' H'->RS K ρ' H' σd h2 σ->qX K ρ' H' J ((l.zip k).map λp=>.tup [p.1,p.2]) (λh=>dH o l h/\dH o' k h)->R J H'
   | _,_=>False
  | _=>False
 | _=>False
def Lj (K:ZX) (f g:EF):TI:=λσ H R=>∃ρ σd hd,RS K ρ H σd hd σ/\EN K ρ H σd σ f g hd R
def MIZ (X:Cx) (tg e:Expr) (f g:EF):Prop:=PI X tg e (Lj X.K f g)
theorem vT {a b:Expr} {f g:EF} (N:Gl X "zip") (hm:X.mg "zip" = none) (D:ME X a f) (J:ME X b g) (A:starEach [a,b] X.env=[(false,eval a X.env),(false,eval b X.env)]:=by rfl) (h:starEach [b] X.env=[(false,eval b X.env)]:=by rfl):MIZ X (.Tuple elts tk tp) (.Call (.Name "zip" p) [a,b] [] pos) f g:=by
 refine PI.imp (GU N hm (cP D (cP J em h) (by rw[A,h])) A h) λσ H R ⟨ρ,σd,hd,G,c⟩=>⟨ρ,σd,hd,G,?_⟩;unfold EN at c;cases e:f σd hd with
 | exc x h1=>rw[e]at c;exact c
 | bad=>rw[e]at c;exact c
 | ok d hd1 =>
  rw[e]at c;simp only at c;intro v H1 t u j w;refine⟨t,σd,hd1,j,?_⟩;cases e2:g σd hd1 with
  | exc x h1=>rw[e2]at c;exact c
  | bad=>rw[e2]at c;exact c
  | ok d2 hd2 =>
   rw[e2]at c;simp only at c;intro P K y m i s;have w:=RD.mono (j.hp.kp m) w;cases c1:rV hd2 d with
   | none=>rw[c1]at c;exact c.elim
   | some p1 =>
    obtain⟨l,o⟩:=p1;cases c2:rV hd2 d2 with
    | none=>rw[c1,c2]at c;exact c.elim
    | some p2 =>
     obtain⟨k,o'⟩:=p2;rw[c1,c2]at c;simp only at c;obtain⟨La,q,rfl,⟨M,F,r⟩,C⟩:=ya i.hp w c1;obtain⟨Lb,L,rfl,⟨n,z,B⟩,E⟩:=ya i.hp s c2;exact⟨La,Lb,q,L,M,n,rfl,F,z,λO I=>c _ K y (u.trans m) i (CM C E (by rw[r.length];exact O))⟩
end
section
variable {X:Cx} {pos:Pos} {tg:Expr}
theorem vU {u:Expr}{body:List Stmt}{f Q:EF}{g:GF}{b:SF}(hp:PassesOwn (model X.prog X.w) X.A X.env X.xe)(hc:X.calm=true)(hi:MIZ X tg u f Q)(hg:MG X tg g)(hb:MSs X body b)
  (W:∀x,foldedSetIterable u X.env x=pure x:=by intro _;rfl):MS X (.For tg u body [] pos) (rW f Q g b):=by
 refine PS.imp (DJ hp hc hi hg hb W) λEn σ H ⟨ρ,σd,hd,rs,p⟩=>⟨ρ,σd,hd,rs,?_⟩;unfold rW at p;unfold EN;cases e:f σd hd with
 | exc x h'=>rw[e]at p;exact p
 | bad=>rw[e]at p;exact p
 | ok d hd0 =>
  rw[e]at p;simp only at p ⊢;cases e2:Q σd hd0 with
  | exc x h'=>rw[e2]at p;exact p
  | bad=>rw[e2]at p;exact p
  | ok d2 hd1 =>
   rw[e2]at p;simp only at p ⊢;cases c1:rV hd1 d with
   | none=>rw[c1]at p;exact p.elim
   | some p1 =>
    obtain⟨R,o⟩:=p1;cases c2:rV hd1 d2 with
    | none=>rw[c1,c2]at p;exact p.elim
    | some p2 =>
     obtain⟨S,o'⟩:=p2;rw[c1,c2]at p;simp only at p ⊢;intro J H1 E O M L;generalize hG:(λh:Hd=>dH o R h/\dH o' S h)=G at p L;generalize ((R.zip S).map λp=>D.tup [p.1,p.2])=l at p L;refine⟨λi m A H'=>∃ρ' n hd',Ext E H1 ρ' H'/\RS X.K ρ' H' n hd' A/\i<=l.length/\m=l.length - i/\ce X.K ρ' H' (rq G g b (l.drop i) n hd') En,
      ⟨l.length,E,σd,hd1,Ext.refl,M,Z8 _,by simp,by simpa using ce.ext O p⟩,?_⟩
     rintro i m A H' ⟨ρ',n,hd',ex,w,Y,rfl,a⟩
     by_cases C:i < l.length
     ·have N:l[i]? = some l[i]:=by simp[C]
      rw[XW C]at a;unfold rq at a
      by_cases hh:G hd'
      ·rw[z4 hh]at a
       obtain⟨go,Z⟩:=L.go ρ' H' hd' i _ ex w.hp hh N;refine .inr ⟨go,λB F=>∃t j z,Ext E H1 t F/\RS X.K t F j z B/\ce X.K t F (rq G g b (l.drop (i + 1)) j z) En,
        λB F ⟨t,j,z,a1,V,U⟩=>⟨l.length - (i + 1),by omega,t,j,z,a1,V,C,rfl,U⟩,λx F y => ?_⟩
       obtain⟨T,rx⟩:=Z x F y;cases c:g l[i] n with
       | none=>rw[c]at a;exact a.elim
       | some j =>
        rw[c]at a;simp only at a;refine⟨ρ',n,hd',l[i],j,w.same T,rx,c,λB P=>⟨ρ',j,hd',P,?_⟩⟩;have s:Ext ρ' H' ρ' F:=Ext.same T;cases c2:b j hd' with
        | nx σ3 h3=>rw[c2]at a;exact λI K q k r=>⟨q,σ3,h3,ex.trans (s.trans k),r,ce.ext (s.trans k) a⟩
        | ct σ3 h3=>rw[c2]at a;exact λI K q k r=>⟨q,σ3,h3,ex.trans (s.trans k),r,ce.ext (s.trans k) a⟩
        | bk σ3 h3=>rw[c2]at a;exact λI K q k r=>a I K q (s.trans k) r
        | rt d h3=>rw[c2]at a;exact λv K q k r rv=>a v K q (s.trans k) r rv
        | exc x σ3 h3=>rw[c2]at a;exact a
        | bad=>rw[c2]at a;exact a
      ·rw[z5 hh]at a;exact a.elim
     ·have e0:i=l.length:=by omega
      subst e0;rw[List.drop_length]at a;unfold rq at a
      by_cases hh:G hd'
      ·rw[z4 hh]at a
       exact .inl ⟨L.stop ρ' H' hd' ex w.hp hh,a A H' ρ' Ext.refl w⟩
      ·rw[z5 hh]at a;exact a.elim
end
end Fm
namespace Fm
open PySem PyProof.Rows
mutual
def gW:D->PyData
 | .bl b=>.bool b
 | .int i=>.int i
 | .tup l=>.tuple (lK l)
 | _=>.none
def lK:List D->List PyData
 | []=>[]
 | d :: l=>gW d :: lK l
end
mutual
def okR:D->Bool
 | .non=>true
 | .bl _=>true
 | .int i=>decide (i.natAbs < 1000000000)
 | .tup l=>o5 l
 | _=>false
def o5:List D->Bool
 | []=>true
 | d :: l=>okR d && o5 l
end
mutual
def mF:D->Nat
 | .tup l=>kS l
 | _=>30
def kS:List D->Nat
 | []=>0
 | d :: l=>mF d + 1 + kS l
end
def EO (d:D):List Nat:=(gW d).shown.cps.toList
@[simp] def yb (a:EF):EF:=λσ h=>(a σ h).bind λx h=>match x with
 | .tup l=>if okR (.tup l)=true/\dep (.tup l)<=20/\mF (.tup l)<=1000000 then .ok (.str (EO (.tup l))) h else .bad
 | _=>.bad
end Fm
namespace Fm
open PySem PySem.Spec L2
section
variable {X:Cx}
end
end Fm
namespace Fm
open PySem PySem.Spec L2 PySem.W PyProof.Rows
theorem Bx {n k:Nat}(a:0 < k)(h:n < 10 ^ k):(toString n:String).length<=k:=by
 rw[Nat.toString_eq_ofList_toDigits,String.length_ofList];exact(Nat.length_toDigits_le_iff (by decide) a).mpr h
theorem GV (i:Int)(h:i.natAbs < 10 ^ 12):(PyData.int i).shown.length<=13:=by
 rw[PyData.shown.eq_3,PySem.ofString_length];cases i with
 | ofNat m =>
  have:(toString (Int.ofNat m):String)=toString m:=rfl;rw[this];exact XB (Bx (by decide) h)
 | negSucc m =>
  have:(toString (Int.negSucc m):String) = "-" ++ toString (m + 1):=rfl;rw[this,String.length_append];have:=Bx (n:=m + 1) (k:=12) (by decide) h;have e:("-" : String).length=1:=rfl;omega
theorem JL {n:Nat}(h:n < 1000000000):n.log2 < 30:=by
 by_cases c:n=0
 ·subst c;decide
 ·rw[Nat.log2_lt c];exact x3 h (by decide)
mutual
theorem HZ:∀(d:D),okR d=true->(gW d).showable=true/\(gW d).hasDict=false/\(gW d).canLay0=true/\PyData.intsShort 13 (gW d)=true/\(gW d).depth<=dep d/\(gW d).weight<=mF d
 | .non,_=>by simp[gW,PyData.showable,PyData.hasDict,PyData.canLay0,PyData.intsShort,PyData.depth,PyData.weight,mF,dep]
 | .bl b,_=>by simp[gW,PyData.showable,PyData.hasDict,PyData.canLay0,PyData.intsShort,PyData.depth,PyData.weight,mF,dep]
 | .int i,h=>by
  simp only[okR,Z9]at h;have l:=JL h;have s:=GV i (x3 h (by decide));refine⟨?_,by simp[gW,PyData.hasDict],by simp[gW,PyData.canLay0],by simp only[gW,PyData.intsShort];exact yQ s,by simp[gW,PyData.depth],?_⟩
  ·simp only[gW,PyData.showable];exact yQ (by omega)
  ·simp only[gW,PyData.weight,mF]
   split<;>omega
 | .tup l,h=>by
  simp only[okR]at h;obtain⟨a,b,c,d,e,f⟩:=EQ l h;simp only[gW,PyData.showable,PyData.hasDict,PyData.canLay0,PyData.intsShort,PyData.depth,PyData.weight,mF,dep];exact⟨a,b,c,d,by omega,f⟩
 | .str _,h=>by simp[okR]at h
 | .ref _,h=>by simp[okR]at h
 | .lit _,h=>by simp[okR]at h
 | .exn _ _,h=>by simp[okR]at h
theorem EQ:∀(l:List D),o5 l=true->PyData.showableAll (lK l)=true/\PyData.hasDictAll (lK l)=false/\PyData.canLayAll0 (lK l)=true/\PyData.intsShortAll 13 (lK l)=true/\PyData.depthAll (lK l)<=ji l/\PyData.weightAll (lK l)<=kS l
 | [],_=>by simp[lK,PyData.showableAll,PyData.hasDictAll,PyData.canLayAll0,PyData.intsShortAll,PyData.depthAll,PyData.weightAll]
 | x :: l,h=>by
  simp only[o5,x8]at h;obtain⟨a,b,c,d,e,f⟩:=HZ x h.1;obtain⟨j,k,g,m,i,n⟩:=EQ l h.2;simp only[lK,PyData.showableAll,PyData.hasDictAll,PyData.canLayAll0,PyData.intsShortAll,PyData.depthAll,PyData.weightAll,kS,ji,a,b,c,d,j,k,g,m];refine⟨rfl,rfl,rfl,rfl,?_,by omega⟩;exact Nat.max_le.mpr ⟨ZM e (Nat.le_max_left _ _),ZM i (Nat.le_max_right _ _)⟩
end
section
variable {P:T6} {w:T7} {K:ZX} {ρ:List Addr} {H:Hp} {h h':Heap}
mutual
theorem yc (hok:HOk P w H h)(c:∀b o u,H b=some u->h.get? b=some o->h'.get? b=some o):∀{d:D} {v:V} {u:T0},RD K ρ H d v->bJ v u->okR d=true->∃a,Reads h' u (gW d) a
 | .non,v,u,r,q,_=>by
  simp only[RD]at r;subst r;cases (show u=Value.none from q);exact⟨_,Reads.none⟩
 | .bl b,v,u,r,q,_=>by
  simp only[RD]at r;subst r;cases (show u=Value.bool b from q);exact⟨_,Reads.bool b⟩
 | .int i,v,u,r,q,_=>by
  simp only[RD]at r;subst r;obtain⟨t,rfl⟩:=q;exact⟨_,Reads.int i t⟩
 | .tup l,v,u,r,q,o=>by
  simp only[RD]at r;obtain⟨p,x,rfl,e,k⟩:=r;cases (show u=Value.ref p from q);obtain⟨z,s,j,f,g,hc,n,hd⟩:=hok p _ e;simp only[okR]at o;obtain⟨a,m⟩:=uI hok c k j o;simp only[gW];exact⟨a,Reads.tuple (c p f _ e g) hc hd (by simpa using m)⟩
 | .str _,_,_,_,_,o=>by simp[okR]at o
 | .ref _,_,_,_,_,o=>by simp[okR]at o
 | .lit _,_,_,_,_,o=>by simp[okR]at o
 | .exn _ _,_,_,_,_,o=>by simp[okR]at o
theorem uI (hok:HOk P w H h)(e:∀b o u,H b=some u->h.get? b=some o->h'.get? b=some o):∀{l:List D} {c:List V} {d:List T0},RDs K ρ H l c->aY c d->o5 l=true->∃f,ReadsAll h' d (lK l) f
 | [],c,d,r,q,_=>by
  simp only[RDs]at r;subst r;cases q;exact⟨_,ReadsAll.nil⟩
 | x :: l,c,d,r,q,o=>by
  simp only[RDs]at r;obtain⟨v,j,rfl,i,g⟩:=r;cases q with
  | cons q1 q2 =>
   simp only[o5,x8]at o;obtain⟨f,a⟩:=yc hok e i q1 o.1;obtain⟨bs,b⟩:=uI hok e g q2 o.2;exact⟨_,ReadsAll.cons a b⟩
end
end
section
variable {X:Cx} {pos p:Pos}
def Lk (K:ZX):List V->Hp->VK->Prop:=λxs H Q=>∃(ρ:List Addr) (l:List D) (v:V),xs=[v]/\RD K ρ H (.tup l) v/\okR (.tup l)=true/\dep (.tup l)<=20/\mF (.tup l)<=1000000/\Q (.str (gW (.tup l)).shown) H
theorem CN (g:X.A.guards=some []) (W:X.A.units + 64 < cLine):fO X (.builtin "repr") (Lk X.K):=by
 intro pins s σ H xs S Q I r h;obtain⟨ρ,l,v,rfl,M,ok,V,P,q⟩:=h;obtain⟨u,rfl,F⟩:=aY.one r;obtain⟨m,A,_⟩:=id I.loc;have N:News (Att.noObjs s.heap) X.env.locals s.heap (Att.ledger s.heap X.env.locals X.env.locals):=λ⟨b,o⟩ a=>by
  obtain⟨n1,n2,e⟩:=Att.mem_ledger.mp a;exact⟨e,n1,Att.noObjs_get _ _⟩
 have f:∀b o,b≠X.env.locals->s.heap.get? b=some o->(b,o)∈Att.ledger s.heap X.env.locals X.env.locals:=λb o a e=>Att.mem_ledger.mpr ⟨a,a,e⟩;have t:∀b u,H b=some u->b≠X.env.locals:=λb u e z=>by rw[z,I.free]at e;cases e
 have y:ReadsVia (Att.noObjs s.heap) (Att.ledger s.heap X.env.locals X.env.locals) u (gW (.tup l)):=λi _ K=>yc I.hok (λb o D a e=>K (b,o) (f b o (t b D a) e)) M F ok;obtain⟨G,p2,J,E,U,R⟩:=HZ _ ok;have j:(gW (.tup l)).layable0=true:=by
  unfold PyData.layable0;rw[J];simp only[Bool.true_and,x8,Z9];exact⟨by omega,by omega⟩
 have d:PyProof.Rows.isDisplay (gW (.tup l))=true:=by simp only[gW,PyProof.Rows.isDisplay]
 refine repr_via y (Att.fr_all A) N G p2 d g (by omega) (λi L tk C O => ?_) (PyData.shown_fits_of_layable0 (B:=13) (by decide) (by decide) j E);have keep:∀b o,b≠X.env.locals->s.heap.get? b=some o->i.get? b=some o:=λb o a e=>(O (b,o) (f b o a e)).1;refine⟨.str (gW (.tup l)).shown,H,?_,⟨L,rfl⟩,q⟩
 suffices I2:L2.Inv X pins σ H { s with heap:=i,gens:=s.gens,drawn:=s.drawn,toks:=tk } from I2
 refine I.step (g':=s.gens) (d':=s.drawn) (t':=tk) (ch:=[]) (λ_ z=>nomatch z) (λb o a _ _ e _=>keep b o a e) (λb o a _ _ e _=>⟨o.slots,keep b o a e⟩) (λb o _ e n=>n) (λb o _ e => ?_)
  (λb ys e=>e) (λb o u e=>e) (λb ps e=>⟨#[],by rw[e];simp⟩) (λT x=>by rw[Eb x A];exact C.ns) (λb u e => ?_) I.bare
 ·by_cases a:b=X.env.locals
  ·obtain⟨o',_,_,k,_⟩:=C.ns
   rw[a];exact⟨o',k⟩
  ·exact⟨o,keep b o a e⟩
 ·refine(I.hok b u e).stay (λc v hc z => ?_) (λc z=>z) λc ys z=>z
  rcases hc with w|w
  ·subst w;exact keep c v (t c _ e) z
  ·exact keep c v (t c _ w) z
theorem By {a:Expr} {fa:EF} (c:X.A.guards=some []) (m:X.A.units + 64 < cLine) (n:Gl X "repr") (hm:X.mg "repr" = none) (i:ME X a fa) (g:starEach [a] X.env=(false,eval a X.env) :: starEach [] X.env:=by rfl):ME X (.Call (.Name "repr" p) [a] [] pos) (yb fa):=by
 refine PE.imp (iA (CN c m) n hm (by decide +kernel) (cP i em g) (he:=g)) λσ H Q ⟨ρ,σd,hd,k,h⟩=>⟨ρ,σd,hd,k,(bZ.bind (R:=rD X.K) h).imp λv H1 ⟨f,d,o,q,e,j,b⟩ => ?_⟩;cases d<;>try exact b.elim
 rename_i l
 simp only at b;split at b
 ·rename_i hz
  refine⟨f,l,v,rfl,j,hz.1,hz.2.1,hz.2.2,b.here e ?_⟩;simp only[rD,RD,EO,toS]
 ·exact b.elim
end
end Fm
namespace Fm
def GW:O2:=λx y h=>match x,y with
 | .bl b,.bl c=>.ok (.bl (b == c)) h
 | _,_=>.bad
end Fm
namespace Fm
open PySem PySem.Spec L2 PyProof.Rows
section
variable {X:Cx} {pos p:Pos}
theorem JM:OpR X (compareOp .Is) (λx y H Q=>∃b c,x=.bl b/\y=.bl c/\Q (.bl (b == c)) H):=by
 intro pins s σ H x y v u Q I g f h;obtain⟨b,c,rfl,rfl,q⟩:=h;cases g;cases f;have a:∀(b c:Bool) (d:T0->T4->Prop),d (.bool (b == c)) s->wpAny (model X.prog X.w) X.A (compareOp .Is (.bool b) (.bool c)) d X.xe s:=λb c d e=>by
  cases b<;>cases c<;>exact z3 e
 exact a b c _ (zg I q rfl)
theorem JN {K:ZX}:Og K GW (λx y H Q=>∃b c,x=.bl b/\y=.bl c/\Q (.bl (b == c)) H):=by
 intro ρ H σd hd σ d k v w Q f e a p;cases d<;>cases k<;>first|exact p.elim|skip
 rename_i b c
 simp only[RD]at e a;exact⟨b,c,e,a,p.here f (by simp only[rD,RD])⟩
end
end Fm
namespace Fm
@[simp] def GX (a:LF):EF:=λσ h=>(a σ h).bind λl h=>match fP l with|some bs=>.ok (.bl (bs.any id)) h|none=>.bad
end Fm
namespace Fm
open PySem PySem.Spec L2 PySem.W PyProof.Rows
section
variable {X:Cx} {pos p:Pos}
theorem ER (bs:List Bool):(List.range bs.length).any (λi=>bs.getD i false)=bs.any id:=by
 have:bs=(List.range bs.length).map λi=>bs.getD i false:=by
  apply Z0;intro i
  by_cases hi:i < bs.length<;>simp[List.getD,hi]
 conv=>rhs;rw[this]
 rw[List.any_map];rfl
theorem CO (hc:X.calm=true):fO X (.builtin "any") (λxs H Q=>∃(p:Addr) (bs:List Bool),xs=[.ref p]/\(SqL X.K H p (bs.map V.bl)\/SqT X.K H p (bs.map V.bl))/\Q (.bl (bs.any id)) H):=by
 intro pins s σ H xs D Q I r q;obtain⟨p,bs,rfl,j,q⟩:=q;obtain⟨u,rfl,y⟩:=aY.one r;cases (show u=Value.ref p from y);have t:(X.A.in1).handled=none:=I.ok.hd hc;have x:∀(a:List T0),aY (bs.map V.bl) a->TruthOf X.prog X.w X.A.in1 (λi v=>a.toArray[i]? = some v) (λi=>bs.getD i false):=λa g i v s Q E B z=>by
  rw[xB g i v B];exact YU z
 have l:∀{w:Obj} {h:Heap} {tk:Nat} {n:Nat},n=bs.length->(∀b o,b∉[s.heap.objs.size]->(s.heap.push w).get? b=some o->h.get? b=some o)->EP X pins σ Q (.bool ((List.range n).any λi=>bs.getD i false)) { s with heap:=h,toks:=tk }:=by
  intro w h tk n A k;subst A;refine⟨.bl (bs.any id),H,I.kept (t':=tk) λb o e=>k b o (by simp;exact ZN (ZI e)) (ZH _ e),by rw[ER];rfl,q⟩
 rcases j with j|j
 ·obtain⟨a,g,m,C⟩:=I.list j
  have c:s.heap.IsList p a.toArray:=m.isList;have d:p < s.heap.objs.size:=by obtain⟨o,f,_⟩:=c;exact ZI f
  refine PySem.call_any_walk (PySem.wpAny_pyIter_list c ?_);refine⟨s.heap.objs.size,_,[s.heap.objs.size],_,_,_,λi=>bs.getD i false,rfl,PySem.Walks.list t s.heap.objs.size p (ZN d) a.toArray,⟨⟨_,ZJ _ rfl,rfl,rfl⟩,?_⟩,x a g,?_⟩
  ·obtain⟨o,f,r⟩:=c;exact⟨o,ZH _ f,r⟩
  ·exact λh tk k=>l (by simpa using g.length.symm) k
 ·obtain⟨a,g,m,C⟩:=I.tuple j
  have c:s.heap.IsTuple p a.toArray:=m;have d:p < s.heap.objs.size:=by obtain⟨o,f,_⟩:=c;exact ZI f
  refine PySem.call_any_walk (WU c ?_);refine⟨s.heap.objs.size,_,[s.heap.objs.size],_,_,_,λi=>bs.getD i false,rfl,PySem.Walks.tuple t s.heap.objs.size p (ZN d) a.toArray,⟨⟨_,ZJ _ rfl,rfl,rfl⟩,?_⟩,x a g,?_⟩
  ·obtain⟨o,f,r⟩:=c;exact⟨o,ZH _ f,r⟩
  ·exact λh tk k=>l (by simpa using g.length.symm) k
theorem JO {a:Expr} {f:LF} (hc:X.calm=true) (m:Gl X "any") (hm:X.mg "any" = none) (i:MQ X a f) (d:starEach [a] X.env=(false,eval a X.env) :: starEach [] X.env:=by rfl):ME X (.Call (.Name "any" p) [a] [] pos) (GX f):=by
 refine qW (g:=λl h=>match fP l with|some bs=>.ok (.bl (bs.any id)) h|none=>.bad) (Bc (CO hc) m hm (by decide +kernel) (he:=d)) i (λρ H σd hd σ l q n Q k j b p => ?_) d;cases c:fP l with
 | none=>simp only[c]at p;exact p.elim
 | some is =>
  simp only[c]at p;have e:=oU b c;subst e;exact⟨q,is,rfl,j.imp id SqT.of,p.here k (by simp only[rD,RD])⟩
end
section
variable {prog:T6} {w:T7} {A:T5} {E:T0->T4->Prop} {s:T4} {κ : Type} [DecidableEq κ] {knd:KeyKind prog w κ}
end
section
variable {prog:T6} {w:T7} {A:T5} {E:T0->T4->Prop} {s:T4}
end
section
variable {X:Cx} {pos p:Pos}
end
end Fm
namespace Fm
variable {d:D}{h h':Hd}
theorem uJ (e:h'.length<=h.length):letGo h (.ok d h')=.ok d h':=by
 simp only[letGo];split
 ·rw[List.take_of_length_le e]
 ·rfl
@[simp] theorem a0 {h:Hd} {d:D}:letGo h (.ok d h)=.ok d h:=uJ (ZL _)
@[simp] theorem CP {h:Hd} {d:D} {n:Nat} {c:aS}:letGo h (.ok d (h.set n c))=.ok d (h.set n c):=uJ (by simp)
theorem jK (e:pure? d=false):letGo h (.ok d h')=.ok d h':=by
 simp[letGo,e]
@[simp] theorem dR {h h':Hd} {n:Nat}:letGo h (.ok (.ref n) h')=.ok (.ref n) h':=jK rfl
theorem cr {g:Hd}(e:pure? d=true):letGo h (.ok d (h++g))=.ok d h:=by
 have:A8 h (h++g):=λn c a hc=>.inl (by rwa[ZC a]at hc);simp[letGo,e,this]
theorem uK {g:Hd}(e:pure? d=true)(b:h'.length=h.length)(a:A8 h (h'++g)):letGo h (.ok d (h'++g))=.ok d h':=by
 simp[letGo,e,a,<-b]
structure Web where
 ties:List (List (Nat × Int))
 bars:List Int
 stays:List (Option Int)
def bq:Option Int->D
 | none=>.non
 | some i=>.int i
def mV (p:Nat × Int):D:=.tup [.int p.1,.int p.2]
def jo (r:List (Nat × Int)):D:=.tup (r.map mV)
def ay (l:List Int):D:=.tup (l.map .int)
def Web.enc (w:Web):D:=.tup [.tup (w.ties.map jo),.tup (w.bars.map .int),.tup (w.stays.map bq)]
structure Web.Ok (w:Web) (n:Nat):Prop where
 t:w.ties.length=n
 b:w.bars.length=n
 s:w.stays.length=n
 lt:∀r∈w.ties,∀p∈r,p.1 < n
 sz:n<=1000
structure dS (w:Web) (n:Nat) (s:List Int):Prop where
 len:s.length=n
 op:∀x∈s,x=0\/x=1
 st:∀(i:Nat) (x:Int),w.stays[i]? = some (some x)->s[i]? = some x
variable {l:List D}
theorem ef {i:Nat}(e:l[i]? = some d):atI l (i:Int)=some d:=by
 have:=(List.getElem?_eq_some_iff.mp e).1;simp[atI,ixN,this];simpa[ZE this] using e
theorem bT {g:Option Nat}{all:List D}{tg:GF}{cs:List TF}{e:EF}{h:Hd}(I:Sd->Prop)(p:D->Bool)(f:D->D)(b:dH g all h) :
  ∀{xs:List D} {σ:Sd},(∀x∈xs,∀σ,I σ->∃a,tg x σ = some a/\I a/\iB cs a h=.ok (p x) h/\(p x=true->e a h=.ok (f x) h))->I σ->
   bR g all tg cs e xs σ h=.ok ((xs.filter p).map f) h
 | [],_,_,_=>by simp[bR,b]
 | x :: xs,σ,st,i=>by
  obtain⟨a,h1,h2,d,j⟩:=st x (by simp) σ i;have c:=bT I p f b (xs:=xs) (σ := a) (λy k=>st y (by simp[k])) h2;cases hp:p x with
  | true=>simp[bR,b,h1,d,hp,j hp,c]
  | false=>simp[bR,b,h1,d,hp,c]
theorem uL {g:Option Nat}{all:List D}{tg:GF}{b:SF}{rest:List D}(P:Nat->Sd->Hd->Prop)(n:∀i σ h,P i σ h->dH g all h) :
  ∀{xs:List D} {k:Nat} {σ:Sd} {h:Hd},(∀(i:Nat) x σ h,xs[i]? = some x->P (k + i) σ h->∃a,tg x σ = some a/\∃c d,b a h=.nx c d/\P (k + i + 1) c d)->P k σ h->
   ∃a m,fM g all tg b (xs++rest) σ h=fM g all tg b rest a m/\P (k + xs.length) a m
 | [],k,σ,h,_,p=>⟨σ,h,rfl,by simpa using p⟩
 | x :: xs,k,σ,h,st,p=>by
  obtain⟨a,h1,t,h2,v,o⟩:=st 0 x σ h (by simp) (by simpa using p);have l:∀(i:Nat) y σ h,xs[i]? = some y->P (k + 1 + i) σ h->∃a,tg y σ = some a/\∃c d,b a h=.nx c d/\P (k + 1 + i + 1) c d:=λi y σ h e q=>by
   have j:k + 1 + i=k + (i + 1):=by omega
   rw[j]at q ⊢;exact st (i + 1) y σ h (by simpa using e) q
  obtain⟨f,u,s,r⟩:=uL P n l (by simpa using o);refine⟨f,u,?_,?_⟩
  ·rw[<-s,List.cons_append,fM,z4 (n _ _ _ p),h1]
   simp only[v]
  ·have j:k + (x :: xs).length=k + 1 + xs.length:=by simp;omega
   rw[j];exact r
variable {σ:Sd}{b:SF}
theorem dF {g:Option Nat}{all:List D}{tg:GF}(P:Nat->Sd->Hd->Prop)(e:∀i σ h,P i σ h->dH g all h)
  {xs:List D} {k:Nat}   (st:∀(i:Nat) x σ h,xs[i]? = some x->P (k + i) σ h->∃σ',tg x σ = some σ'/\∃a c,b σ' h=.nx a c/\P (k + i + 1) a c) (p:P k σ h) :
   ∃σ' d,fM g all tg b xs σ h=.nx σ' d/\P (k + xs.length) σ' d:=by
 obtain⟨σ',d,q,z⟩:=uL (rest:=[]) P e st p;rw[Z6]at q;exact⟨σ',d,q.trans (by unfold fM;exact z4 (e _ _ _ z)),z⟩
theorem mW {g:Option Nat}{all:List D}{tg:GF}{e:EF}(P:Nat->Sd->Hd->Prop)(V:Nat->D->Prop)(l:∀i σ h,P i σ h->dH g all h) :
  ∀{xs:List D} {k:Nat} {σ:Sd} {h:Hd},(∀(i:Nat) x σ h,xs[i]? = some x->P (k + i) σ h->∃a,tg x σ = some a/\∃d b,e a h=.ok d b/\V (k + i) d/\P (k + i + 1) a b)->P k σ h->
   ∃ds n,bR g all tg [] e xs σ h=.ok ds n/\ds.length=xs.length/\(∀(i:Nat) d,ds[i]? = some d->V (k + i) d)/\∃a,P (k + xs.length) a n
 | [],k,σ,h,_,p=>⟨[],h,by simp[bR,l _ _ _ p],rfl,by simp,σ,by simpa using p⟩
 | x :: xs,k,σ,h,st,p=>by
  obtain⟨a,h1,d,h2,v,w,o⟩:=st 0 x σ h (by simp) (by simpa using p);have m:∀(i:Nat) y σ h,xs[i]? = some y->P (k + 1 + i) σ h->∃a,tg y σ = some a/\∃d b,e a h=.ok d b/\V (k + 1 + i) d/\P (k + 1 + i + 1) a b:=λi y σ h e q=>by
   have j:k + 1 + i=k + (i + 1):=by omega
   rw[j]at q ⊢;exact st (i + 1) y σ h (by simpa using e) q
  obtain⟨ds,t,s,u,c,f,r⟩:=mW P V l m (by simpa using o);refine⟨d :: ds,t,?_,by simp[u],λi z hd => ?_,f,?_⟩
  ·simp[bR,l _ _ _ p,h1,iB,v,s]
  ·cases i with
   | zero=>simp at hd;subst hd;simpa using w
   | succ i =>
    have:=c i z (by simpa using hd);rwa[show k + 1 + i=k + (i + 1) by omega]at this
  ·have j:k + (x :: xs).length=k + 1 + xs.length:=by simp;omega
   rw[j];exact r
variable {n:Nat}
theorem rX {α : Type}{ds:List α}{f:Nat->α}(a:ds.length=n)(h:∀(i:Nat) d,ds[i]? = some d->d=f i):ds=(List.range n).map f:=by
 apply Z0;intro i
 by_cases hi:i < n
 ·have:ds[i]? = some (ds[i]'(by omega)):=by simp[a,hi]
  rw[this,h i _ this];simp[hi]
 ·simp[hi,a]
theorem i7 {t:TF}{b:SF}:∀{n:Nat} {σ:Sd} {h:Hd} {r:Out},dP t b n σ h=r->r ≠ .bad->∀{m:Nat},n<=m->dP t b m σ h=r
 | 0,σ,h,r,e,hr,m,_=>by simp only[dP]at e;exact absurd e.symm hr
 | n + 1,σ,h,r,e,hr,m,hm=>by
  cases m with
  | zero=>omega
  | succ m =>
   simp only[dP]at e ⊢;cases c:t σ h with
   | bad=>rw[c]at e;exact e
   | exc x h1=>rw[c]at e;exact e
   | ok cb h1 =>
    rw[c]at e;cases cb with
    | false=>exact e
    | true =>
     simp only at e ⊢;cases c2:b σ h1 with
     | nx σ2 h2=>rw[c2]at e;exact i7 e hr (by omega)
     | ct σ2 h2=>rw[c2]at e;exact i7 e hr (by omega)
     | bk σ2 h2=>rw[c2]at e;exact e
     | rt d h2=>rw[c2]at e;exact e
     | exc x σ2 h2=>rw[c2]at e;exact e
     | bad=>rw[c2]at e;exact e
theorem uM {t:TF}{r:Out}(e:dP t b n σ h=r)(a:r ≠ .bad):oO t b σ h=r:=by
 have ex:∃n,dP t b n σ h ≠ .bad:=⟨n,by rw[e];exact a⟩;have c:mE t b σ h=Classical.choose ex:=by simp[mE,ex]
 have h2:=Classical.choose_spec ex;unfold oO;rw[c]
 by_cases hle:n<=Classical.choose ex
 ·exact i7 e a hle
 ·have:=i7 (n:=Classical.choose ex) rfl h2 (m:=n) (by omega)
  rw[<-this,e]
variable {h1:Hd}
theorem ar {F:Fn}{r:LF}{ds:List D}(a:r σ h=.ok ds h1)(b:F ds h1=.ok d h'):au F r σ h=.ok d h':=by
 show Res.bind _ _=_;rw[a];exact b
variable {h2:Hd}
theorem ak {a:EF}{r:LF}{ds:List D}(p:a σ h=.ok d h1)(q:r σ h1=.ok ds h2):ab a r σ h=.ok (d :: ds) h2:=by
 show Res.bind _ _=_;rw[p,aW,q];rfl
theorem aj {g:O2}{a b:EF}{c:Hd}{x y z:D}(p:a σ h=.ok x h1)(q:b σ h1=.ok y h2)(r:g x y h2=.ok z c):ag g a b σ h=.ok z c:=by
 show Res.bind _ _=_;rw[p,aW,q];exact r
theorem iK {r:LF}{xs:List D}(p:r σ h=.ok xs h')(q:xs.length<=SZ:=by exact YV rfl):j0 r σ h=.ok (.tup xs) h':=by
 show Res.bind _ _=_;rw[p];exact z4 q
theorem bn {r:LF}{xs:List D}(p:r σ h=.ok xs h')(q:xs.length<=SZ:=by exact YV rfl):aG r σ h=.ok (.ref h'.length) (h'++[.lst xs]):=by
 show Res.bind _ _=_;rw[p];exact z4 q
theorem ES {a:LF}{b:EF}{i:Int}(p:a σ h=.ok l h1)(q:b σ h1=.ok (.int i) h2)(r:atI l i=some d):fIx a b σ h=.ok d h2:=by
 show Res.bind _ _=_;rw[p,aW,q];simp only[aW,r]
theorem aF {a b:EF}{x:D}{i:Int}(p:a σ h=.ok x h1)(q:b σ h1=.ok (.int i) h2)(s:iZ h2 x=some l)(r:atI l i=some d):fAt a b σ h=.ok d h2:=by
 show ag _ _ _ _ _=_;exact aj p q (by simp only[oAt,s,r])
theorem aH (p:h[n]? = some (.lst l)):iZ h (.ref n)=some l:=by simp only[iZ,p]
variable {e:EF}
theorem aD {i:Nat}(p:e σ h=.ok d h'):aQ (gN i) e σ h=.nx (σ.set i (some d)) h':=by
 show outE _ _ _=_;rw[p];rfl
theorem aR (p:e σ h=.ok d h'):aZ e σ h=.rt d h':=by
 show outE _ _ _=_;rw[p];rfl
theorem jp (p:e σ h=.ok d h'):jG e σ h=.nx σ h':=by
 show outE _ _ _=_;rw[p];rfl
theorem gX {t:TF}{a:SF}(p:t σ h=.ok true h1):sIf t a b σ h=a σ h1:=by
 unfold sIf;rw[p];rfl
theorem ca {t:TF}{a:SF}(p:t σ h=.ok false h1):sIf t a b σ h=b σ h1:=by
 unfold sIf;rw[p];rfl
theorem aI {a:EF}{b:Bool}(p:a σ h=.ok (.bl b) h'):tE a σ h=.ok b h':=by
 show asB _=_;rw[p];rfl
theorem bU {t:TF}{b:Bool}(p:t σ h=.ok b h'):cZ t σ h=.ok (!b) h':=by
 show Res.bind _ _=_;rw[p];rfl
theorem kh {t u:TF}{b:Bool}(p:t σ h=.ok true h1)(q:u σ h1=.ok b h'):jF t u σ h=.ok b h':=by
 show Res.bind _ _=_;rw[p];exact q
theorem vV {t u:TF}(p:t σ h=.ok false h1):jF t u σ h=.ok false h1:=by
 show Res.bind _ _=_;rw[p];rfl
theorem eE {t u:TF}{b:Bool}(p:t σ h=.ok false h1)(q:u σ h1=.ok b h'):tOr t u σ h=.ok b h':=by
 show Res.bind _ _=_;rw[p];exact q
theorem ET {t u:TF}(p:t σ h=.ok true h1):tOr t u σ h=.ok true h1:=by
 show Res.bind _ _=_;rw[p];rfl
variable {j:Int}
theorem yd {i:Int}:oEq (.int i) (.int j) h=.ok (.bl (decide (i=j))) h:=rfl
theorem c6 {a:LF}(p:a σ h=.ok l h1):cB a σ h=.ok (.int l.length) h1:=by
 show Res.bind _ _=_;rw[p];rfl
theorem bQ {a:EF}{x:D}(p:a σ h=.ok x h1)(s:iZ h1 x=some l):lOf a σ h=.ok l h1:=by
 show Res.bind _ _=_;rw[p];simp only[aW,s]
theorem rY {x i:EF}{a:Hd}{k:Nat}(p:e σ h=.ok d h1)(q:x σ h1=.ok (.ref n) h2)(r:i σ h2=.ok (.int j) a)(s:a[n]? = some (.lst l))(t:ixN l.length j=some k):nH x i e σ h=.nx σ (a.set n (.lst (l.set k d))):=by
 simp only[nH,p,q,r,outE,s,t]
theorem ki {x:EF}{a:List D}(p:x σ h=.ok (.ref n) h1)(q:h1[n]? = some (.lst a))(r:e σ h1=.ok d h2)(s:h2[n]? = some (.lst l))(t:l.length < SZ):k8 x e σ h=.ok .non (h2.set n (.lst (l++[d]))):=by
 simp only[k8,p,aW,q,r,Jb,s,z4 t]
theorem ee {i:Int}(p:0 < j):dk (.int i) (.int j) h=.ok (.int (i % j)) h:=by
 simp only[dk,oIc,yQ p,YL]
theorem lL {i:Int}(p:0 < j)(q:j < 2 ^ 250):k7 (.int i) (.int j) h=.ok (.int (i / j)) h:=by
 simp only[k7,oIc,yQ p,yQ q,VE,YL]
theorem rZ {i:Int}(e:i=j):oEq (.int i) (.int j) h=.ok (.bl true) h:=by rw[yd,yQ e]
theorem lM {i:Int}(e : ¬i=j):oEq (.int i) (.int j) h=.ok (.bl false) h:=by rw[yd,y3 e]
theorem JP {i:Int}(e : ¬i < j):oLt (.int i) (.int j) h=.ok (.bl false) h:=by show Res.ok (D.bl (decide (i < j))) h=_;rw[y3 e]
theorem EU {i:Int}(e:i < j):oLt (.int i) (.int j) h=.ok (.bl true) h:=by show Res.ok (D.bl (decide (i < j))) h=_;rw[yQ e]
theorem EV {i:Int}(p:(sml i || sml j)=true):cI (.int i) (.int j) h=.ok (.int (i * j)) h:=by
 show (if (sml i || sml j)=true then _ else _)=_;exact z4 p
theorem nW {i:Int}(p:sml i=true):cI (.int i) (.int j) h=.ok (.int (i * j)) h:=EV (by rw[p];rfl)
theorem GY {i:Int}(p:sml j=true):cI (.int i) (.int j) h=.ok (.int (i * j)) h:=EV (by rw[p,WR])
theorem kT {t:TF}{b:Bool}(p:t σ h=.ok b h'):fT t σ h=.ok (.bl b) h':=by
 show Res.bind _ _=_;rw[p];rfl
variable {A:Nat}
theorem kj {h0 g:Hd}(a:A=h0.length)(k:Nat)(c:aS):(h0++g).set (A + k) c=h0++g.set k c:=by
 subst a;rw[List.set_append_right _ _ (by omega)];congr 2;omega
theorem Bz {h0 g:Hd}(a:A=h0.length)(k:Nat):(h0++g)[A + k]? = g[k]? := by
 subst a;rw[ZD (by omega),Nat.add_sub_cancel_left]
theorem aA {h0:Hd}{j:Nat}{c:aS}(g:Hd)(e:h0[j]? = some c):(h0++g)[j]? = some c:=(ZC (List.getElem?_eq_some_iff.mp e).1).trans e
theorem c7 {a:EF}(p:a σ h=.ok (.int n) h1)(b:n<=1000):bK a σ h=.ok ((List.range n).map (λk:Nat=>D.int k),none) h1:=by
 show Res.bind _ _=_;rw[p];exact z4 ⟨VA (by decide) (XU n),VA (Int.ofNat_le.mpr b) (by decide)⟩
theorem fZ {it:IF}{tg:GF}{g:Option Nat}{o:Out}(p:it σ h=.ok (l,g) h1)(q:fM g l tg b l σ h1=o):fN it tg b σ h=o:=by
 unfold fN;rw[p];exact q
theorem cx {nl:Nat}{caps:List Nat}{it:IF}{tg:GF}{cs:List TF}{ds:List D}{g:Option Nat}(p:it σ h=.ok (l,g) h1)(q:bR g l tg cs e l (iC nl caps σ) h1=.ok ds h2):bL nl caps it tg cs e σ h=.ok ds h2:=by
 show Res.bind _ _=_;rw[p];exact q
theorem JQ {a:LF}{b:EF}{n:Int}(p:a σ h=.ok l h1)(q:b σ h1=.ok (.int n) h2)(r:0<=n/\n<=1000/\l.length * n.toNat<=1000):rn a b σ h=.ok (List.replicate n.toNat l).flatten h2:=by
 simp only[rn,p,aW,q,z4 r]
theorem JR {k:Int}{l:List (Int × D)}(p:h[n]? = some (.dct l)):Ec (.int k) (.ref n) h=.ok (.bl (rj l k).isSome) h:=by simp only[Ec,p]
theorem BA {x i:EF}{a:Hd}{l:List (Int × D)}(p:e σ h=.ok d h1)(q:x σ h1=.ok (.ref n) h2)(r:i σ h2=.ok (.int j) a)(s:a[n]? = some (.dct l))(t:l.length < SZ):xr x i e σ h=.nx σ (a.set n (.dct (zy l j d))):=by
 simp only[xr,p,q,r,outE,s,z4 t]
theorem r6 {a:EF}(p:a σ h=.ok (.ref n) h1)(q:h1[n]? = some (.lst l)):eT .list a σ h=.ok (.bl true) h1:=by
 simp only[eT,p,aW,Ci,q];rfl
theorem dv {a:EF}(p:a σ h=.ok (.ref n) h1)(q:h1[n]? = some (.lst l)):d7 a σ h=.ok (l,some n) h1:=by
 simp only[d7,p,aW,q]
theorem JS {a b:EF}{i:Int}(p:a σ h=.ok (.int i) h1)(q:b σ h1=.ok (.int j) h2):zA a b σ h=.ok (.int (if j > i then j else i)) h2:=by
 simp only[zA,p,aW,q]
theorem JT {a:EF}{b:Bool}(p:a σ h=.ok (.bl b) h1):zq a σ h=.ok (.int (b2i b)) h1:=by
 simp only[zq,p,aW]
theorem zW {a:LF}{b:List Int}(p:a σ h=.ok l h1)(q:dm l=some b):qR a σ h=.ok (.int b.sum) h1:=by
 simp only[qR,p,aW,q]
theorem ii {a:LF}(p:a σ h=.ok l h1):gJ a σ h=.ok (.tup l) h1:=by
 show Res.bind _ _=_;rw[p];rfl
theorem EW {i:Int}(e:j < i):oGt (.int i) (.int j) h=.ok (.bl true) h:=by show Res.ok (D.bl (decide (j < i))) h=_;rw[yQ e]
theorem zX {i:Int}(e : ¬j < i):oGt (.int i) (.int j) h=.ok (.bl false) h:=by show Res.ok (D.bl (decide (j < i))) h=_;rw[y3 e]
theorem ij (a:A=h.length)(c:aS):(h++[c])[A]? = some c:=by rw[a];exact ZG
theorem mi (a:A=h.length)(c d:aS):(h++[c]).set A d=h++[d]:=by
 have:=kj (g:=[c]) a 0 d;rwa[Nat.add_zero]at this
theorem nX {r:LF}{xs:List D}(a:A=h'.length)(p:r σ h=.ok xs h')(q:xs.length<=SZ):aG r σ h=.ok (.ref A) (h'++[.lst xs]):=by rw[a];exact bn p q
theorem nY {l:List Int}{i:Nat}(h:i < l.length):atI (l.map D.int) (i:Int)=some (.int (l.getD i 0)):=ef (by rw[ZQ,ZE h,ZF,ZE h];rfl)
theorem sd {t:TF}{a b:EF}(p:t σ h=.ok true h1):fIf t a b σ h=a σ h1:=by
 show Res.bind _ _=_;rw[p];rfl
theorem vW {t:TF}{a b:EF}(p:t σ h=.ok false h1):fIf t a b σ h=b σ h1:=by
 show Res.bind _ _=_;rw[p];rfl
theorem dX {a:SF}{σ':Sd}(e:a σ h=.nx σ' h'):ax a b σ h=b σ' h':=by simp only[ax,e]
theorem jL {a:SF}(e:a σ h=.rt d h'):ax a b σ h=.rt d h':=by simp only[ax,e]
theorem bG {np:Nat}{ds:List D}(a:ds.length=np)(st:(ds.map some++List.replicate (n - ds.length) none:Sd) = σ)(e:b σ h=.rt d h'):bS np n b ds h=letGo h (.ok d h'):=by
 unfold bS runB;rw[z4 a,st,e]
theorem Ll {np:Nat}{ds:List D}{σ':Sd}(a:ds.length=np)(st:(ds.map some++List.replicate (n - ds.length) none:Sd) = σ)(e:b σ h=.nx σ' h'):bS np n b ds h=letGo h (.ok .non h'):=by
 unfold bS runB;rw[z4 a,st,e]
theorem jM {t:TF}{b:Bool}(p:t σ h=.ok b h):iB [t] σ h=.ok b h:=by
 simp only[iB,p,aW];cases b<;>rfl
theorem EX {a:EF}(p:a σ h=.ok (.tup l) h1):d7 a σ h=.ok (l,none) h1:=by
 show Res.bind _ _=_;rw[p];rfl
theorem oZ {a:LF}{bs:List Bool}(p:a σ h=.ok l h1)(q:fP l=some bs):xg a σ h=.ok (.bl (bs.all id)) h1:=by
 simp only[xg,p,aW,q]
theorem o6 (a b:Int)(h:Hd):oNe (.int a) (.int b) h=.ok (.bl (!decide (a=b))) h:=rfl
theorem bV {a b:EF}{e:D}(p:a σ h=.ok d h1)(q:b σ h1=.ok e h2):ab a (ab b ao) σ h=.ok [d,e] h2:=ak p (ak q rfl)
theorem jq {m:Nat}(h:n<=30)(q:30<=m:=by decide):n<=m:=ZM h q
theorem sx {a:SF}{σ':Sd}{o:Out}(p:a σ h=.nx σ' h')(q:b σ' h'=o):ax a b σ h=o:=(dX p).trans q
theorem GZ {l:List Nat}{σ':Sd}(p:e σ h=.ok d h')(q:gT l d σ = some σ'):aQ (gT l) e σ h=.nx σ' h':=by
 show outE _ _ _=_;rw[p];show (match gT l d σ with|some σ=>Out.nx σ h'|none=>.bad)=_;rw[q]
def dU:Fn:=bS 1 1 (aZ (fT (jF (tE (eT .int (aa 0))) (cZ (tE (eT .bool (aa 0)))))))
def bI:Fn:=bS 3 3 (aZ (fT (jF (tE (au dU (ab (aa 0) ao))) (tE (qQ oLe oLe (aa 1) (aa 0) (aa 2))))))
def cJ:Fn:=bS 1 1 (aZ (au bI (ab (aa 0) (ab (fC (.int 0)) (ab (fC (.int 1)) ao)))))
def cE:Fn:=bS 1 1 (aZ (cB (lOf (fAt (aa 0) (fC (.int 0))))))
def mj:Fn:=bS 2 2 (aZ (fAt (fAt (aa 0) (fC (.int 0))) (aa 1)))
def nZ:Fn:=bS 2 2 (aZ (fAt (fAt (aa 0) (fC (.int 1))) (aa 1)))
def dY:Fn:=bS 2 2 (aZ (fAt (fAt (aa 0) (fC (.int 2))) (aa 1)))
abbrev BB:SF:=(ax (sIf (cZ (tE (au cJ (ab (aa 3) ao)))) (aZ (fC (.bl false))) br)
  (ax (aQ (gN 4) (au dY (ab (aa 0) (ab (aa 2) ao))))
  (sIf (jF (tE (ag iY (aa 4) (fC .non))) (tE (ag oNe (aa 3) (aa 4)))) (aZ (fC (.bl false))) br)))
def vX:Fn:=bS 2 5 (ax (sIf (tOr (cZ (tE (eT .tuple (aa 1)))) (tE (ag oNe (cB (lOf (aa 1))) (au cE (ab (aa 0) ao))))) (aZ (fC (.bl false))) br)
  (ax (fN (DW (aa 1)) (gT [2,3]) BB)
  (aZ (fC (.bl true)))))
def eK:Fn:=bS 2 2 (sIf (cZ (tE (au vX (ab (aa 0) (ab (aa 1) ao))))) nG br)
def mr:Fn:=bS 3 3 (aZ (ag cI (fC (.int 2)) (qR (bL 2 [1] (d7 (au mj (ab (aa 0) (ab (aa 2) ao)))) (gT [0,1]) [(tE (ag oEq (fAt (aa 2) (aa 0)) (fC (.int 1))))] (aa 1)))))
theorem n9 (i:Int)(h:Hd):dU [.int i] h=.ok (.bl true) h:=(bG (d:=.bl true) (h':=h) rfl rfl rfl).trans a0
theorem fD (i a b:Int)(h:Hd):bI [.int i,.int a,.int b] h=.ok (.bl (decide (a<=i) && decide (i<=b))) h:=by
 have c:qQ oLe oLe (aa 1) (aa 0) (aa 2) [some (.int i),some (.int a),some (.int b)] h=.ok (.bl (decide (a<=i) && decide (i<=b))) h:=by
  show (match D.bl (decide (a<=i)) with | .bl true=>Res.ok (D.bl (decide (i<=b))) h | .bl false=>.ok (.bl false) h|_=>.bad)=_;cases decide (a<=i)<;>rfl
 have t:jF (tE (au dU (ab (aa 0) ao))) (tE (qQ oLe oLe (aa 1) (aa 0) (aa 2))) [some (.int i),some (.int a),some (.int b)] h=.ok (decide (a<=i) && decide (i<=b)) h:=kh (aI (ar (ak rfl rfl) (n9 i h))) (aI c);exact(bG rfl rfl (aR (kT t))).trans a0
theorem iL (i:Int)(h:Hd):cJ [.int i] h=.ok (.bl (decide (0<=i) && decide (i<=1))) h:=by
 exact(bG rfl rfl (aR (ar (ak rfl (bV rfl rfl)) (fD i 0 1 h)))).trans a0
theorem i8 (w:Web)(h:Hd):cE [w.enc] h=.ok (.int w.ties.length) h:=by
 have:=(bG (np:=1) (n:=1) (b:=aZ (cB (lOf (fAt (aa 0) (fC (.int 0)))))) (ds:=[w.enc]) (h:=h) rfl rfl (aR (c6 (bQ (aF rfl rfl rfl rfl) rfl)))).trans a0;rwa[ZA]at this
variable {p:Nat}
theorem ye (w:Web)(h:Hd){r:List (Nat × Int)}(e:w.ties[p]? = some r):mj [w.enc,.int p] h=.ok (jo r) h:=by
 have q:atI (w.ties.map jo) (p:Int)=some (jo r):=ef (by simp[e]);exact(bG rfl rfl (aR (aF (aF rfl rfl rfl rfl) rfl rfl q))).trans a0
theorem zY (w:Web)(h:Hd){r:Int}(e:w.bars[p]? = some r):nZ [w.enc,.int p] h=.ok (.int r) h:=by
 have q:atI (w.bars.map .int) (p:Int)=some (.int r):=ef (by simp[e]);exact(bG rfl rfl (aR (aF (aF rfl rfl rfl rfl) rfl rfl q))).trans a0
theorem lN (w:Web)(h:Hd){r:Option Int}(e:w.stays[p]? = some r):dY [w.enc,.int p] h=.ok (bq r) h:=by
 have q:atI (w.stays.map bq) (p:Int)=some (bq r):=ef (by simp[e]);exact(bG rfl rfl (aR (aF (aF rfl rfl rfl rfl) rfl rfl q))).trans a0
variable {s:List Int}{w:Web}
theorem G0 (W:w.Ok n)(F:dS w n s)(h:Hd):vX [w.enc,ay s] h=.ok (.bl true) h:=by
 obtain⟨q,m,h1,h2,a,b,c,r⟩:=dF (P:=λ_ σ m=>m=h/\∃a b c,σ = [some w.enc,some (ay s),a,b,c]) (g:=none) (k:=0)
   (all:=((List.range (s.map D.int).length).zip (s.map D.int)).map λp=>D.tup [.int (p.1:Nat),p.2]) (λ_ _ _ _=>trivial)
   (xs:=((List.range (s.map D.int).length).zip (s.map D.int)).map λp=>D.tup [.int (p.1:Nat),p.2]) (tg:=gT [2,3]) (σ:=[some w.enc,some (ay s),none,none,none]) (h:=h)
   (b:=BB) (by
   rintro i x σ h0 o ⟨rfl,a,b,c,rfl⟩;have hi:i < s.length:=by
    have:=(List.getElem?_eq_some_iff.mp o).1;simpa using this
   have j:x=.tup [.int (i:Nat),.int s[i]]:=by simpa[hi,ZE] using o.symm
   subst j;have f:w.stays[i]? = some (w.stays[i]'(by rw[W.s,<-F.len];exact hi)):=ZE _;generalize w.stays[i]'(by rw[W.s,<-F.len];exact hi)=st at f;have op:cJ [.int s[i]] h0=.ok (.bl true) h0:=by
    rw[iL];rcases F.op _ (Z5 hi) with e|e<;>rw[e]<;>rfl
   have d:sIf (cZ (tE (au cJ (ab (aa 3) ao)))) (aZ (fC (.bl false))) br [some w.enc,some (ay s),some (.int i),some (.int s[i]),c] h0=.nx [some w.enc,some (ay s),some (.int i),some (.int s[i]),c] h0:=ca (bU (aI (ar (ak rfl rfl) op)));have l:=lN w h0 f;cases st with
   | none=>exact⟨_,rfl,_,h0,(dX d).trans ((dX (aD (ar (bV rfl rfl) l))).trans (ca (vV (aI (aj rfl rfl rfl))))),rfl,_,_,_,rfl⟩
   | some y =>
    have t:s[i] = y:=by have:=F.st i y f;rw[ZE hi]at this;exact ZT this
    exact⟨_,rfl,_,h0,(dX d).trans ((dX (aD (ar (bV rfl rfl) l))).trans (ca (kh (aI (aj rfl rfl rfl)) (aI (aj rfl rfl (by rw[show bq (some y)=D.int y from rfl,o6,yQ t];rfl)))))),rfl,_,_,_,rfl⟩) ⟨rfl,_,_,_,rfl⟩
 rw[h2,r]at h1;have d:sIf (tOr (cZ (tE (eT .tuple (aa 1)))) (tE (ag oNe (cB (lOf (aa 1))) (au cE (ab (aa 0) ao))))) (aZ (fC (.bl false))) br [some w.enc,some (ay s),none,none,none] h=.nx [some w.enc,some (ay s),none,none,none] h :=
  ca (eE (bU (b:=true) (aI rfl)) (aI (aj (c6 (bQ rfl rfl)) (ar (ak rfl rfl) (i8 w h)) (by rw[o6,ZA,F.len,W.t,yQ rfl];rfl))))
 exact(bG rfl rfl ((dX d).trans ((dX (fZ rfl h1)).trans (aR rfl)))).trans a0
theorem EY (W:w.Ok n)(F:dS w n s)(h:Hd):eK [w.enc,ay s] h=.ok .non h:=by
 exact(Ll rfl rfl (ca (bU (aI (ar (bV rfl rfl) (G0 W F h)))))).trans a0
theorem o7 (l:List Int):dm (l.map .int)=some l:=by
 induction l with
 | nil=>rfl
 | cons x xs ih=>simp[dm,ih]
theorem JU {i:Nat}(h:i < s.length):atI (s.map .int) (i:Int)=some (.int s[i]):=ef (by simp[h])
def eQ (r:List (Nat × Int)) (s:List Int):List Int:=(r.filter λp=>decide (s.getD p.1 0=1)).map (·.2)
def bF (r:List (Nat × Int)) (s:List Int):Int:=(eQ r s).sum
theorem EZ {r:List (Nat × Int)}(f:∀q∈r,q.1 < s.length)(h:Hd):bR none (r.map mV) (gT [0,1]) [(tE (ag oEq (fAt (aa 2) (aa 0)) (fC (.int 1))))] (aa 1) (r.map mV) [none,none,some (ay s)] h=.ok ((eQ r s).map D.int) h:=by
 have c:bR none (r.map mV) (gT [0,1]) [(tE (ag oEq (fAt (aa 2) (aa 0)) (fC (.int 1))))] (aa 1) (r.map mV) [none,none,some (ay s)] h
   = .ok (((r.map mV).filter λd=>match d with | .tup [.int i,_]=>decide (s.getD i.toNat 0=1)|_=>false).map λd=>match d with | .tup [_,x]=>x|_=>.non) h:=by
  refine bT (g:=none) (I:=λσ=>∃a b,σ = [a,b,some (ay s)]) _ _ trivial ?_ ⟨_,_,rfl⟩;rintro x j σ ⟨a,b,rfl⟩;obtain⟨⟨q,wt⟩,e,rfl⟩:=List.mem_map.mp j;exact⟨_,rfl,⟨_,_,rfl⟩,jM (aI (aj (aF rfl rfl rfl (nY (f _ e))) rfl yd)),λ_=>rfl⟩
 rw[c,eQ,WZ,wC,wC];rfl
theorem zZ (W:w.Ok n)(a:s.length=n){r:List (Nat × Int)}(e:w.ties[p]? = some r)(h:Hd) :
  mr [w.enc,ay s,.int p] h=.ok (.int (2 * bF r s)) h:=by
 have c:∀q∈r,q.1 < s.length:=λq b=>by rw[a];exact W.lt r (ZK e) q b
 exact(bG rfl rfl (aR (aj rfl (zW (cx (EX (ar (bV rfl rfl) (ye w h e))) (EZ c h)) (o7 _)) (nW (by decide))))).trans a0
def mw (w:Web) (f s:List Int) (p:Nat):Int:=(2 * w.bars.getD p 0 + 1) * (f.getD p 0 + s.getD p 0) - (if s.getD p 0=1 then 2 * (2 * bF (w.ties.getD p []) f) + 2 * f.getD p 0 else 0)
def fE (w:Web) (f s:List Int):Nat->Int
 | 0=>0
 | k + 1=>fE w f s k + mw w f s k
theorem G3 {x:Int}(h:x=0\/x=1):sml x=true:=by rcases h with e|e<;>subst e<;>decide
def ir:Fn:=bS 3 6 (ax (aQ (gN 3) (au dY (ab (aa 0) (ab (aa 2) ao))))
  (ax (sIf (tE (ag iY (aa 3) (fC .non))) (aZ (aa 3)) br)
  (ax (aQ (gN 4) (au mr (ab (aa 0) (ab (aa 1) (ab (aa 2) ao)))))
  (ax (aQ (gN 5) (au nZ (ab (aa 0) (ab (aa 2) ao))))
  (ax (sIf (tE (ag oEq (aa 4) (aa 5))) (aZ (fAt (aa 1) (aa 2))) br)
  (aZ (fIf (tE (ag oGt (aa 4) (aa 5))) (fC (.int 1)) (fC (.int 0)))))))))
def eU:Fn:=bS 2 2 (aZ (gJ (bL 1 [0,1] (bK (au cE (ab (aa 0) ao))) (gN 0) [] (au ir (ab (aa 1) (ab (aa 2) (ab (aa 0) ao)))))))
abbrev sf:SF:=(ax (jG (k8 (aa 2) (aa 3)))
  (aQ (gN 3) (au eU (ab (aa 0) (ab (aa 3) ao)))))
def mx:Fn:=bS 2 5 (ax (jG (au eK (ab (aa 0) (ab (aa 1) ao))))
  (ax (aQ (gN 2) (aG (ab (aa 1) (ab (au eU (ab (aa 0) (ab (aa 1) ao))) ao))))
  (ax (aQ (gN 3) (au eU (ab (aa 0) (ab (fAt (aa 2) (fC (.int 1))) ao))))
  (ax (oO (tE (ag oNe (aa 3) (fAt (aa 2) (fC (.int (-2)))))) sf)
  (ax (aQ (gN 4) (fIf (tE (ag oEq (fAt (aa 2) (fC (.int (-1)))) (fAt (aa 2) (fC (.int (-2)))))) (fC (.str [114,101,115,116])) (fC (.str [112,97,105,114]))))
  (aZ (j0 (ab (ag fL (cB (lOf (aa 2))) (fC (.int 2))) (ab (aa 4) (ab (aa 2) ao))))))))))
def cN (w:Web) (s:List Int) (p:Nat):Int:=match w.stays.getD p none with
 | some x=>x
 | none=>if 2 * bF (w.ties.getD p []) s=w.bars.getD p 0 then s.getD p 0 else if w.bars.getD p 0 < 2 * bF (w.ties.getD p []) s then 1 else 0
def cO (w:Web) (n:Nat) (s:List Int):List Int:=(List.range n).map (cN w s)
theorem z6 (W:w.Ok n)(F:dS w n s)(hp:p < n)(h:Hd):ir [w.enc,ay s,.int p] h=.ok (.int (cN w s p)) h:=by
 have f:p < w.ties.length:=by rw[W.t];exact hp
 have g:p < w.bars.length:=by rw[W.b];exact hp
 have b:p < w.stays.length:=by rw[W.s];exact hp
 have d:p < s.length:=by rw[F.len];exact hp
 have t:w.ties[p]? = some w.ties[p]:=by simp[f]
 have l:w.bars[p]? = some w.bars[p]:=by simp[g]
 have es:w.stays[p]? = some w.stays[p]:=by simp[b]
 have a:=zZ W F.len t h;have k:w.ties.getD p [] = w.ties[p]:=by simp[List.getD,f]
 have r:w.bars.getD p 0=w.bars[p]:=by simp[List.getD,g]
 have i:w.stays.getD p none=w.stays[p]:=by simp[List.getD,b]
 have j:s.getD p 0=s[p]:=by simp[List.getD,d]
 have q:=JU d;cases c:w.stays[p] with
 | some x =>
  rw[c]at es;have o:cN w s p=x:=by unfold cN;rw[i,c]
  rw[o];exact(bG rfl rfl ((dX (aD (ar (bV rfl rfl) (lN w h es)))).trans (jL ((gX (aI (aj rfl rfl rfl))).trans (aR rfl))))).trans a0
 | none =>
  rw[c]at es;have m:=lN w h es;have u:=zY w h l;simp only[cN,i,c,k,r,j];generalize 2 * bF w.ties[p] s=P at a;have go:∀{v:Int},ax (sIf (tE (ag oEq (aa 4) (aa 5))) (aZ (fAt (aa 1) (aa 2))) br) (aZ (fIf (tE (ag oGt (aa 4) (aa 5))) (fC (.int 1)) (fC (.int 0)))) [some w.enc,some (ay s),some (.int p),some .non,some (.int P),some (.int w.bars[p])] h=.rt (.int v) h->ir [w.enc,ay s,.int p] h=.ok (.int v) h:=λe=>x4 (bG (σ:=[some w.enc,some (ay s),some (.int p),none,none,none]) rfl rfl (sx (aD (ar (bV rfl rfl) m)) (sx (ca (aI (aj rfl rfl rfl))) (sx (aD (ar (ak rfl (bV rfl rfl)) a)) (sx (aD (ar (bV rfl rfl) u)) e))))) a0
  by_cases e1:P=w.bars[p]
  ·rw[z4 e1];exact go (jL ((gX (aI (aj rfl rfl (rZ e1)))).trans (aR (aF rfl rfl rfl q))))
  ·rw[z5 e1]
   by_cases e2:w.bars[p] < P
   ·rw[z4 e2];exact go ((dX (ca (aI (aj rfl rfl (lM e1))))).trans (aR ((sd (aI (aj rfl rfl (EW e2)))).trans rfl)))
   ·rw[z5 e2];exact go ((dX (ca (aI (aj rfl rfl (lM e1))))).trans (aR ((vW (aI (aj rfl rfl (zX e2)))).trans rfl)))
theorem mX (W:w.Ok n)(F:dS w n s)(h:Hd):eU [w.enc,ay s] h=.ok (ay (cO w n s)) h:=by
 have b:bR none ((List.range n).map λk:Nat=>D.int k) (gN 0) [] (au ir (ab (aa 1) (ab (aa 2) (ab (aa 0) ao)))) ((List.range n).map λk:Nat=>D.int k) [none,some w.enc,some (ay s)] h
   = .ok (((((List.range n).map λk:Nat=>D.int k).filter λ_=>true)).map λd=>match d with | .int i=>.int (cN w s i.toNat)|_=>.non) h:=by
  refine bT (g:=none) (I:=λσ=>∃a,σ = [a,some w.enc,some (ay s)]) _ _ trivial ?_ ⟨_,rfl⟩;rintro x e σ ⟨a,rfl⟩;obtain⟨i,hi,rfl⟩:=List.mem_map.mp e;have hi:=List.mem_range.mp hi;exact⟨_,rfl,⟨_,rfl⟩,by simp,λ_=>ar (ak rfl (bV rfl rfl)) (z6 W F hi h)⟩
 have f:((((List.range n).map λk:Nat=>D.int k).filter λ_=>true)).map (λd=>match d with | .int i=>D.int (cN w s i.toNat)|_=>.non)=(cO w n s).map D.int:=by
  rw[List.filter_eq_self.mpr (by simp),wC,cO,wC];rfl
 rw[f]at b;have c:cE [w.enc] h=.ok (.int n) h:=W.t ▸ i8 w h;exact(bG rfl rfl (aR (ii (cx (c7 (ar (ak rfl rfl) c) W.sz) b)))).trans a0
def eF (w:Web):Prop:=∀x∈w.stays,x=none\/x=some 0\/x=some 1
theorem gM (F:dS w n s)(i:Nat):s.getD i 0=0\/s.getD i 0=1:=by
 by_cases hi:i < s.length
 ·rw[List.getD,ZE hi];exact F.op _ (Z5 hi)
 ·rw[List.getD,List.getElem?_eq_none (by omega)];exact .inl rfl
theorem sh (F:dS w n s)(S:eF w)(p:Nat):cN w s p=0\/cN w s p=1:=by
 unfold cN;cases c:w.stays.getD p none with
 | some x =>
  have:some x∈w.stays:=by
   rw[List.getD]at c;cases e:w.stays[p]? with
   | none=>rw[e]at c;cases c
   | some y=>rw[e]at c;simp at c;subst c;exact ZK e
  have:=S _ this;simp at this;exact this
 | none =>
  simp only;split
  ·exact gM F p
  ·split<;>simp
theorem CQ (W:w.Ok n)(S:eF w)(F:dS w n s):dS w n (cO w n s) where
 len:=by simp[cO]
 op:=λx b=>by
  obtain⟨p,c,rfl⟩:=List.mem_map.mp b;exact sh F S p
 st:=λi x e=>by
  have hi:i < n:=by rw[<-W.s];exact(List.getElem?_eq_some_iff.mp e).1
  have:w.stays.getD i none=some x:=by simp[List.getD,e]
  have a:cN w s i=x:=by unfold cN;rw[this]
  simp[cO,hi,a]
def aM (w:Web) (n:Nat) (s:List Int):Nat->List Int
 | 0=>s
 | k + 1=>cO w n (aM w n s k)
theorem bA {w:Web}{n:Nat}{s:List Int}(W:w.Ok n)(S:eF w)(F:dS w n s):∀k,dS w n (aM w n s k)
 | 0=>F
 | k + 1=>CQ W S (bA W S F k)
def aX (w:Web) (n:Nat) (s:List Int) (m:Nat):List (List Int):=(List.range m).map (aM w n s)
theorem si (m:Nat):aX w n s (m + 1)=aX w n s m++[aM w n s m]:=by simp[aX,XZ]
theorem iu (m:Nat):(aX w n s m).length=m:=by simp[aX]
theorem E1 {m i:Nat}(h:i < m):atI ((aX w n s m).map ay) (i:Int)=some (ay (aM w n s i)):=ef (by simp[aX,h])
def og:Fn:=bS 2 4 (ax (sIf (tOr (cZ (tE (eT .tuple (aa 1)))) (tE (ag oNe (cB (lOf (aa 1))) (fC (.int 3))))) (aZ (fC (.bl false))) br)
  (ax (aQ (gN 2) (fAt (aa 1) (fC (.int 0))))
  (ax (aQ (gN 3) (fAt (aa 1) (fC (.int 1))))
  (ax (sIf (tOr (cZ (tE (au bI (ab (aa 2) (ab (fC (.int 0)) (ab (ag fL (aa 0) (fC (.int 1))) ao)))))) (cZ (tE (au bI (ab (aa 3) (ab (fC (.int 0)) (ab (ag fL (aa 0) (fC (.int 1))) ao))))))) (aZ (fC (.bl false))) br)
  (aZ (fT (jF (tE (ag oNe (aa 2) (aa 3))) (tE (au bI (ab (fAt (aa 1) (fC (.int 2))) (ab (fC (.int 1)) (ab (fC (.int 400)) ao))))))))))))
abbrev jr:SF:=(ax (sIf (cZ (tE (au og (ab (aa 0) (ab (aa 3) ao))))) nG br)
  (ax (aQ (gN 4) (fAt (aa 3) (fC (.int 0))))
  (ax (aQ (gN 5) (fAt (aa 3) (fC (.int 1))))
  (ax (sIf (tE (ag Ec (aa 5) (fAt (aa 2) (aa 4)))) nG br)
  (ax (xr (fAt (aa 2) (aa 4)) (aa 5) (fAt (aa 3) (fC (.int 2))))
  (xr (fAt (aa 2) (aa 5)) (aa 4) (fAt (aa 3) (fC (.int 2)))))))))
def ik:Fn:=bS 2 6 (ax (sIf (cZ (tE (eT .list (aa 1)))) nG br)
  (ax (aQ (gN 2) (aG (bL 1 [] (bK (aa 0)) (gN 0) [] Bj)))
  (ax (fN (d7 (aa 1)) (gN 3) jr)
  (aZ (aa 2)))))
def i9:Fn:=bS 2 2 (ax (sIf (tE (ag mD (aa 1) (fC .non))) nG br)
  (ax (sIf (tOr (cZ (tE (eT .list (aa 1)))) (tE (ag oNe (cB (lOf (aa 1))) (cB (lOf (aa 0)))))) nG br)
  (ax (sIf (cZ (tE (xg (bL 1 [] (d7 (aa 1)) (gN 0) [] (au dU (ab (aa 0) ao)))))) nG br)
  (aZ (gJ (lOf (aa 1)))))))
def im:Fn:=bS 2 2 (ax (sIf (tE (ag mD (aa 1) (fC .non))) (aZ (gJ (bL 1 [] (bK (aa 0)) (gN 0) [] (fC .non)))) br)
  (ax (sIf (tOr (cZ (tE (eT .list (aa 1)))) (tE (ag oNe (cB (lOf (aa 1))) (aa 0)))) nG br)
  (ax (sIf (cZ (tE (xg (bL 1 [] (d7 (aa 1)) (gN 0) [] (fT (tOr (tE (ag mD (aa 0) (fC .non))) (tE (au cJ (ab (aa 0) ao))))))))) nG br)
  (aZ (gJ (lOf (aa 1)))))))
def jN:Fn:=bS 4 6 (ax (sIf (cZ (tE (au bI (ab (aa 0) (ab (fC (.int 1)) (ab (fC (.int 30)) ao)))))) nG br)
  (ax (aQ (gN 4) (au ik (ab (aa 0) (ab (aa 1) ao))))
  (ax (aQ (gN 5) (gJ (bL 1 [] (d7 (aa 4)) (gN 0) [] (gJ (oT (aa 0))))))
  (aZ (j0 (ab (aa 5) (ab (au i9 (ab (aa 4) (ab (aa 2) ao))) (ab (au im (ab (aa 0) (ab (aa 3) ao))) ao))))))))
def uN:Fn:=bS 2 4 (ax (aQ (gN 2) (fC (.int 0)))
  (ax (sIf (tE (ag oLt (aa 1) (cB (lOf (aa 0))))) (aQ (gN 2) (fAt (aa 0) (aa 1))) br)
  (ax (aQ (gN 3) (fT (tOr (tE (ag oEq (cB (lOf (aa 0))) (fC (.int 0)))) (tE (ag oEq (ag dk (fAt (aa 0) (fC (.int 0))) (fC (.int 2))) (fC (.int 1)))))))
  (ax (sIf (tE (aa 3)) (aQ (gN 2) (ag ei (ag dk (aa 2) (fC (.int 2147483647))) (ag cI (fC (.int 1000003)) (aa 1)))) br)
  (aZ (aG (ab (aa 2) (ab (fC (.int 0)) (ab (aa 3) ao)))))))))
def dG:Fn:=bS 2 4 (ax (nH (aa 0) (fC (.int 1)) (ag ei (fAt (aa 0) (fC (.int 1))) (fC (.int 1))))
  (ax (sIf (tE (fAt (aa 0) (fC (.int 2)))) (ax (aQ (gN 2) (ag dk (ag cI (ag ei (ag ei (fAt (aa 0) (fC (.int 0))) (ag cI (fC (.int 7919)) (fAt (aa 0) (fC (.int 1))))) (fC (.int 1))) (fC (.int 48271))) (fC (.int 2147483647))))
  (ax (aQ (gN 2) (ag dk (ag cI (aa 2) (ag ei (ag dk (aa 2) (fC (.int 65521))) (fAt (aa 0) (fC (.int 1))))) (fC (.int 2147483629))))
  (aZ (ag dk (ag dk (ag ei (ag cI (aa 2) (aa 2)) (ag cI (fC (.int 69621)) (aa 2))) (fC (.int 2147483563))) (aa 1))))) br)
  (ax (aQ (gN 3) (ag dk (fAt (aa 0) (fC (.int 0))) (aa 1)))
  (ax (nH (aa 0) (fC (.int 0)) (ag k7 (fAt (aa 0) (fC (.int 0))) (aa 1)))
  (aZ (aa 3))))))
def G4:Fn:=bS 3 3 (ax (sIf (tE (ag oEq (aa 0) (fC (.int 0)))) (aZ (aa 2)) br)
  (ax (sIf (tE (ag oEq (aa 0) (fC (.int 1)))) (aZ (ag fL (aa 1) (fC (.int 60)))) br)
  (ax (sIf (tE (ag oEq (aa 0) (fC (.int 2)))) (aZ (ag fL (ag ei (aa 2) (ag dk (aa 1) (fC (.int 5)))) (fC (.int 2)))) br)
  (ax (sIf (tE (ag oEq (aa 0) (fC (.int 3)))) (aZ (ag cI (fC (.int 2)) (ag dk (aa 1) (ag ei (aa 2) (fC (.int 1)))))) br)
  (aZ (ag cI (ag ei (ag Mi (fC (.int 10)) (fC (.int 59))) (aa 1)) (fIx (ab (fC (.int 1)) (ab (fC (.int (-1))) ao)) (ag dk (aa 1) (fC (.int 2))))))))))
abbrev yf:SF:=(sIf (tE (ag oEq (au dG (ab (aa 9) (ab (aa 3) ao))) (fC (.int 0)))) (ax (aQ (gN 11) (ag ei (fC (.int 1)) (au dG (ab (aa 9) (ab (fIx (ab (fC (.int 3)) (ab (fC (.int 400)) ao)) (au dG (ab (aa 9) (ab (fC (.int 2)) ao)))) ao)))))
  (ax (jG (Mn (aa 4) (au dG (ab (aa 9) (ab (ag ei (cB (lOf (aa 4))) (fC (.int 1))) ao))) (fIx (ab (j0 (ab (aa 8) (ab (aa 10) (ab (aa 11) ao)))) (ab (j0 (ab (aa 10) (ab (aa 8) (ab (aa 11) ao)))) ao)) (ag dk (aa 11) (fC (.int 2))))))
  (ax (nH (aa 7) (aa 8) (ag ei (fAt (aa 7) (aa 8)) (aa 11)))
  (nH (aa 7) (aa 10) (ag ei (fAt (aa 7) (aa 10)) (aa 11)))))) br)
abbrev yg:SF:=(ax (aQ (gN 9) (au uN (ab (aa 0) (ab (ag ei (fC (.int 1)) (aa 8)) ao))))
  (ax (jG (k8 (aa 6) (fIx (ab (fC .non) (ab (fC .non) (ab (fC .non) (ab (fC (.int 0)) (ab (fC (.int 1)) ao))))) (au dG (ab (aa 9) (ab (fC (.int 5)) ao))))))
  (ax (jG (k8 (aa 5) (j0 (ab (au dG (ab (aa 9) (ab (fC (.int 5)) ao))) (ab (au dG (ab (aa 9) (ab (fC (.int 200)) ao))) ao)))))
  (fN (bK (aa 8)) (gN 10) yf))))
def z7:Fn:=bS 1 12 (ax (aQ (gN 1) (au uN (ab (aa 0) (ab (fC (.int 0)) ao))))
  (ax (jG (au dG (ab (aa 1) (ab (fC (.int 2)) ao))))
  (ax (aQ (gN 2) (ag ei (fC (.int 1)) (au dG (ab (aa 1) (ab (fIx (ab (fC (.int 6)) (ab (fC (.int 12)) (ab (fC (.int 30)) ao))) (au dG (ab (aa 1) (ab (fC (.int 3)) ao)))) ao)))))
  (ax (aQ (gN 3) (fIx (ab (fC (.int 1)) (ab (fC (.int 2)) (ab (fC (.int 5)) ao))) (au dG (ab (aa 1) (ab (fC (.int 3)) ao)))))
  (ax (aQ (gN 4) (aG ao))
  (ax (aQ (gN 5) (aG ao))
  (ax (aQ (gN 6) (aG ao))
  (ax (aQ (gN 7) (aG (rn (ab (fC (.int 0)) ao) (aa 2))))
  (ax (fN (bK (aa 2)) (gN 8) yg)
  (ax (aQ (gN 5) (aG (bL 1 [7,5] (bK (aa 2)) (gN 0) [] (au G4 (ab (fAt (fAt (aa 2) (aa 0)) (fC (.int 0))) (ab (fAt (fAt (aa 2) (aa 0)) (fC (.int 1))) (ab (fAt (aa 1) (aa 0)) ao)))))))
  (aZ (j0 (ab (aa 2) (ab (aa 4) (ab (aa 5) (ab (aa 6) (ab (aa 7) ao)))))))))))))))))
theorem bC {a:SF}{σ':Sd}(e:a σ h=.nx σ' h'):ax a b σ h=b σ' h':=by simp[ax,e]
theorem qD {x:Int}(h0:0<=x)(h1:x < 4611686018427387904):sml x=true:=by
 simp only[sml,x8,Z9];omega
theorem ja {α : Type}{f : α->D}{l:List α}{i:Nat}(h:i < l.length):atI (l.map f) (i:Int)=some (f l[i]):=ef (by simp[h])
theorem dZ {i:Nat}{x:D}(a:((List.range n).map λk:Nat=>D.int k)[i]? = some x):i < n/\x=.int (i:Nat):=by
 have hi:i < n:=by
  have:=(List.getElem?_eq_some_iff.mp a).1;simpa using this
 exact⟨hi,by simpa[hi,ZE] using a.symm⟩
theorem Lm {α : Type}(f : α->D)(l:List α){x:Int}(h0:0<=x)(h:x < l.length):∃v∈l,atI (l.map f) x=some (f v):=by
 have a:x.toNat < l.length:=by omega
 refine⟨l[x.toNat],Z5 a,?_⟩;have:=ja (f:=f) a;rwa[show ((x.toNat:Nat):Int)=x by omega]at this
structure Tie where
 a:Nat
 b:Nat
 w:Int
def gY (t:Tie):D:=.tup [.int t.a,.int t.b,.int t.w]
def far (i:Nat) (t:Tie):Option Nat:=if t.a=i then some t.b else if t.b=i then some t.a else none
def wOf (i:Nat) (t:Tie):Int:=if t.a=i\/t.b=i then t.w else 0
def uO (T:List Tie) (i:Nat):Int:=(T.map (wOf i)).sum
def Ln (one other:Nat) (t:Tie):Prop:=(t.a < one/\t.b < one)\/(t.a=one/\t.b < other)\/(t.b=one/\t.a < other)
def jt (s t:Tie):Prop:=¬(s.a=t.a/\s.b=t.b)/\¬(s.a=t.b/\s.b=t.a)
structure TOk (n one other:Nat) (T:List Tie):Prop where
 ne:∀t∈T,t.a≠t.b
 lt:∀t∈T,t.a < n/\t.b < n
 wt:∀t∈T,1<=t.w/\t.w<=400
 be:∀t∈T,Ln one other t
 un:T.Pairwise jt
 len:T.length<=30 * one + other
theorem jt.symm {s t:Tie}(h:jt s t):jt t s:=⟨λz=>h.1 ⟨z.1.symm,z.2.symm⟩,λz=>h.2 ⟨z.2.symm,z.1.symm⟩⟩
variable {T:List Tie}
theorem TOk.skip {one other:Nat}(o:TOk n one other T):TOk n one (other + 1) T :=
 ⟨o.ne,o.lt,o.wt,λt a=>by
  rcases o.be t a with h|h|h
  ·exact .inl h
  ·exact .inr (.inl ⟨h.1,yS h.2⟩)
  ·exact .inr (.inr ⟨h.1,yS h.2⟩),o.un,XB o.len⟩
theorem TOk.step {one:Nat}(o:TOk n one one T)(h:one < n)(b:n<=30):TOk n (one + 1) 0 T :=
 ⟨o.ne,o.lt,o.wt,λt a=>by
  rcases o.be t a with h|h|h
  ·exact .inl ⟨yS h.1,yS h.2⟩
  ·exact .inl ⟨Nat.lt_succ_of_le (Nat.le_of_eq h.1),yS h.2⟩
  ·exact .inl ⟨yS h.2,Nat.lt_succ_of_le (Nat.le_of_eq h.1)⟩,o.un,ZM o.len (Y1 (ZM (YI h) b) _)⟩
theorem qE {α : Type}{x y : α}{l:List α}{k:Nat}(h:y∈l.take k++[x]++l.drop k):y=x\/y∈l:=by
 simp only[ZU,W0,WE]at h;rcases h with h|h|h
 ·exact .inr (List.mem_of_mem_take h)
 ·exact .inl h
 ·exact .inr (List.mem_of_mem_drop h)
theorem E2 {α : Type}{R : α->α->Prop}(sym:∀a b,R a b->R b a){x : α}{l:List α}(k:Nat)(h:l.Pairwise R)(f:∀y∈l,R x y):(l.take k++[x]++l.drop k).Pairwise R:=by
 have e:(l.take k++l.drop k).Pairwise R:=by rw[WK];exact h
 rw[List.pairwise_append]at e;obtain⟨h1,h2,i⟩:=e;rw[ZU,List.pairwise_append];refine⟨h1,?_,λa d b c => ?_⟩
 ·rw[List.singleton_append,List.pairwise_cons]
  exact⟨λy g=>f y (List.mem_of_mem_drop g),h2⟩
 ·rcases W0.mp c with c|c
  ·simp at c;subst c;exact sym _ _ (f a (List.mem_of_mem_take d))
  ·exact i a d b c
theorem TOk.put {one other:Nat}(o:TOk n one other T)(h1:one < n)(h2:other < one){w:Int}(c:1<=w)(d:w<=400){t:Tie}(ht:t=⟨one,other,w⟩\/t=⟨other,one,w⟩)(k:Nat):TOk n one (other + 1) (T.take k++[t]++T.drop k) where
 ne:=λs a=>by
  rcases qE a with rfl|a
  ·rcases ht with e|e<;>subst e
   ·exact x6 h2
   ·exact ZN h2
  ·exact o.ne s a
 lt:=λs a=>by
  rcases qE a with rfl|a
  ·rcases ht with e|e<;>subst e
   ·exact⟨h1,x3 h2 h1⟩
   ·exact⟨x3 h2 h1,h1⟩
  ·exact o.lt s a
 wt:=λs a=>by
  rcases qE a with rfl|a
  ·rcases ht with e|e<;>subst e<;>exact⟨c,d⟩
  ·exact o.wt s a
 be:=λs a=>by
  rcases qE a with rfl|a
  ·rcases ht with e|e<;>subst e
   ·exact .inr (.inl ⟨rfl,wB _⟩)
   ·exact .inr (.inr ⟨rfl,wB _⟩)
  ·exact o.skip.be s a
 un:=E2 (λ_ _=>jt.symm) k o.un λs a=>by
  have b:=o.be s a;rcases ht with e|e<;>subst e<;>rcases b with b|b|b
  ·exact⟨λz=>x6 b.1 z.1,λz=>x6 b.2 z.1⟩
  ·exact⟨λz=>x6 b.2 z.2,λz=>x6 (x3 b.2 h2) z.1⟩
  ·exact⟨λz=>x6 (x3 b.2 h2) z.1,λz=>x6 b.2 z.2⟩
  ·exact⟨λz=>x6 b.2 z.2,λz=>x6 b.1 z.2⟩
  ·exact⟨λz=>x6 (x3 b.2 h2) z.2,λz=>x6 b.2 z.1⟩
  ·exact⟨λz=>x6 b.2 z.1,λz=>x6 (x3 b.2 h2) z.2⟩
 len:=by
  have e:(T.take k).length + (T.drop k).length=T.length:=by rw[<-ZB,WK]
  rw[ZB,ZB,WJ,WD,e];exact Nat.succ_le_succ o.len
def Mq (p:Int × Int):D:=.tup [.int p.1,.int p.2]
structure PH (n i:Nat) (T:List Tie) (bs:List (Int × Int)) (ss:List (Option Int)) (h:Hd):Prop where
 ti:h[1]? = some (.lst (T.map gY))
 ba:h[2]? = some (.lst (bs.map Mq))
 st:h[3]? = some (.lst (ss.map bq))
 to:h[4]? = some (.lst (((List.range n).map (uO T)).map .int))
 len:h.length=5 + i
 lb:bs.length=i
 ls:ss.length=i
 os:∀x∈ss,x=none\/x=some 0\/x=some 1
theorem JV {g:Hd}{k:Nat}{c:aS}(a:aS)(h:g[k]? = some c):(g.set k a)[k]? = some a:=List.getElem?_set_self (List.getElem?_eq_some_iff.mp h).1
theorem qF {j:Nat}(h:j < n):ixN n (j:Int)=some j:=by simp[ixN,h]
abbrev XP (lit:D) (hd:Option D) (n thin one:Nat) (a b:Option D):Sd:=[some lit,hd,some (.int n),some (.int thin),some (.ref 1),some (.ref 2),some (.ref 3),some (.ref 4),some (.int one),some (.ref (5 + one)),a,b]
abbrev SC (c t:Int) (b:Bool):aS:=.lst [.int c,.int t,.bl b]
inductive PI (lit:D) (hd:Option D) (n thin one:Nat) (bs:List (Int × Int)) (ss:List (Option Int)) (m:Bool):Nat->Sd->Hd->Prop
 | mk {i:Nat} {h:Hd} {T:List Tie} {a b:Option D} {c t:Int} (P:PH n (one + 1) T bs ss h) (O:TOk n one i T) (hs:h[5 + one]? = some (SC c t m)):PI lit hd n thin one bs ss m i (XP lit hd n thin one a b) h
theorem few {l one i:Nat}(h:l<=30 * one + i)(h1:one < n)(a:n<=30)(hi:i < one):l < 1000:=by omega
abbrev XQ (lit:D) (hd:Option D) (n thin:Nat) (a b c d:Option D):Sd:=[some lit,hd,some (.int n),some (.int thin),some (.ref 1),some (.ref 2),some (.ref 3),some (.ref 4),a,b,c,d]
theorem LU {u:Option Int}(h:u∈[none,none,none,some 0,some 1]):u=none\/u=some 0\/u=some 1:=by
 simp at h;exact h
inductive PO (ns:List Int) (hd:Option D) (n thin:Nat):Nat->Sd->Hd->Prop
 | mk {i:Nat} {h:Hd} {a b c d:Option D} {T:List Tie} {bs:List (Int × Int)} {ss:List (Option Int)} (P:PH n i T bs ss h) (O:TOk n i 0 T):PO ns hd n thin i (XQ (.lit (ns.map .int)) hd n thin a b c d) h
structure Mr (ns:List Int) (n:Nat) (T:List Tie) (bs:List Int) (ss:List (Option Int)) (h:Hd):Prop where
 run:z7 [.lit (ns.map .int)] []=.ok (.tup [.int n,.ref 1,.ref (5 + n),.ref 3,.ref 4]) h
 n1:1<=n
 n30:n<=30
 ok:TOk n n 0 T
 ti:h[1]? = some (.lst (T.map gY))
 ba:h[5 + n]? = some (.lst (bs.map .int))
 st:h[3]? = some (.lst (ss.map bq))
 to:h[4]? = some (.lst (((List.range n).map (uO T)).map .int))
 len:h.length=6 + n
 lb:bs.length=n
 ls:ss.length=n
 os:∀x∈ss,x=none\/x=some 0\/x=some 1
theorem iw {α : Type}{f : α->D}:∀{l:List α},(∀x∈l,pure? (f x)=true)->fg (l.map f)=true
 | [],_=>rfl
 | x :: l,h=>by
  simp only[yP,fg,x8];exact⟨h x (by simp),iw λy a=>h y (by simp[a])⟩
theorem yh (w:Web):pure? w.enc=true:=by
 have h1:∀r:List (Nat × Int),pure? (jo r)=true:=λr=>by
  unfold jo;simp only[pure?];exact iw λp _=>rfl
 have h2:fg (w.ties.map jo)=true:=iw λr _=>h1 r;have b:fg (w.bars.map D.int)=true:=iw λr _=>rfl;have a:fg (w.stays.map bq)=true:=iw λr _=>by cases r<;>rfl
 unfold Web.enc;simp only[pure?,fg,h2,b,a];rfl
def sj (p:Nat × Int):List Int:=[(p.1:Int),p.2]
def qm (x:Nat × Int):List (Nat × Int)->List (Nat × Int)
 | []=>[x]
 | y :: r=>if cX (sj x) (sj y)=true then x :: y :: r else y :: qm x r
def eV:List (Nat × Int)->List (Nat × Int)
 | []=>[]
 | x :: r=>qm x (eV r)
theorem yi (x:Nat × Int):∀r,(qm x r).map sj=vG (sj x) (r.map sj)
 | []=>rfl
 | y :: r=>by
  simp only[qm,vG,yP];split
  ·rfl
  ·simp[yi x r]
theorem uP:∀r,(eV r).map sj=dD (r.map sj)
 | []=>rfl
 | x :: r=>by simp only[eV,dD,yP,yi,uP r]
theorem yj {x p:Nat × Int}:∀{r},p∈qm x r ↔ p=x\/p∈r
 | []=>by simp[qm]
 | y :: r=>by
  simp only[qm];split
  ·simp
  ·simp only[Y6,yj (r:=r)]
   constructor
   ·rintro (h|h|h)
    ·exact .inr (.inl h)
    ·exact .inl h
    ·exact .inr (.inr h)
   ·rintro (h|h|h)
    ·exact .inr (.inl h)
    ·exact .inl h
    ·exact .inr (.inr h)
theorem my {p:Nat × Int}:∀{r},p∈eV r ↔ p∈r
 | []=>by simp[eV]
 | x :: r=>by simp only[eV,yj,my (r:=r),Y6]
theorem yk (f:Nat × Int->Int)(x:Nat × Int):∀r,((qm x r).map f).sum=f x + (r.map f).sum
 | []=>by simp[qm]
 | y :: r=>by
  simp only[qm];split
  ·simp
  ·simp[yk f x r];omega
theorem o8 (f:Nat × Int->Int):∀r,((eV r).map f).sum=(r.map f).sum
 | []=>rfl
 | x :: r=>by simp[eV,yk,o8 f r]
def nbs (T:List Tie) (i:Nat):List (Nat × Int):=T.filterMap λt=>(far i t).map λj=>(j,t.w)
def qo (p:Nat × Int):Int × D:=((p.1:Int),.int p.2)
theorem ym (T:List Tie)(t:Tie)(i:Nat):nbs (T++[t]) i=nbs T i++(match far i t with|some j=>[(j,t.w)] | none=>[]):=by
 unfold nbs;rw[List.filterMap_append];congr 1;cases e:far i t<;>simp[e]
theorem CS {l:List (Nat × Int)}{k:Nat}(h:∀p∈l,p.1≠k):rj (l.map qo) k=none:=by
 unfold rj;rw[List.find?_eq_none.mpr]
 ·rfl
 ·intro x c
  obtain⟨p,b,rfl⟩:=List.mem_map.mp c;have a:=h p b;have : ¬((p.1:Int)=(k:Int)):=λz=>a (by omega);show ¬(decide ((p.1:Int)=(k:Int))=true);rw[Z9];exact this
theorem yn {l:List (Nat × Int)}{k:Nat}{v:Int}(h:∀p∈l,p.1≠k):zy (l.map qo) k (.int v)=(l++[(k,v)]).map qo:=by
 unfold zy;rw[z5]
 ·simp[qo]
 ·simp only[List.any_eq_true,List.mem_map,Z9]
  rintro⟨x,⟨p,b,rfl⟩,e⟩;have a:=h p b;have e:(p.1:Int)=(k:Int):=e;exact a (by omega)
theorem yo {i j:Nat}{t:Tie}(h:far i t=some j):(t.a=i/\t.b=j)\/(t.b=i/\t.a=j):=by
 unfold far at h
 by_cases a:t.a=i
 ·rw[z4 a]at h;exact .inl ⟨a,ZT h⟩
 ·rw[z5 a]at h
  by_cases b:t.b=i
  ·rw[z4 b]at h;exact .inr ⟨b,ZT h⟩
  ·rw[z5 b]at h;cases h
theorem z8 {t:Tie}{i j:Nat}(b:far i t=some j)(un:∀s∈T,jt s t):∀p∈nbs T i,p.1≠j:=λp d e=>by
 obtain⟨s,c,q⟩:=List.mem_filterMap.mp d;obtain⟨k,a,rfl⟩:=Option.map_eq_some_iff.mp q;have u:=un s c;rw[show k=j from e]at a;rcases yo b with ⟨a1,a2⟩|⟨a1,a2⟩<;>rcases yo a with ⟨b1,b2⟩|⟨b1,b2⟩
 ·exact u.1 ⟨b1.trans a1.symm,b2.trans a2.symm⟩
 ·exact u.2 ⟨b2.trans a2.symm,b1.trans a1.symm⟩
 ·exact u.2 ⟨b1.trans a1.symm,b2.trans a2.symm⟩
 ·exact u.1 ⟨b2.trans a2.symm,b1.trans a1.symm⟩
theorem CT {t:Tie}(h1:t.a≠t.b)(h2:t.a < n)(f:t.b < n)(d:1<=t.w/\t.w<=400)(h:Hd):og [.int n,gY t] h=.ok (.bl true) h:=by
 have j:(t.a:Int)<=n - 1:=Int.le_sub_one_of_lt (Int.ofNat_lt.mpr h2);have e:(t.b:Int)<=n - 1:=Int.le_sub_one_of_lt (Int.ofNat_lt.mpr f);have g : ¬(t.a:Int)=t.b:=λz=>h1 (Int.ofNat.inj z);have c:∀{i a b:Int},a<=i->i<=b->bI [.int i,.int a,.int b] h=.ok (.bl true) h:=λx y=>by rw[fD,yQ x,yQ y];rfl
 exact x4 (bG (σ:=[some (.int n),some (gY t),none,none]) rfl rfl (sx (ca (eE (bU (b:=true) (aI rfl)) (aI (aj (c6 (bQ rfl rfl)) rfl rfl)))) (sx (aD (aF rfl rfl rfl rfl)) (sx (aD (aF rfl rfl rfl rfl)) (sx (ca (eE (bU (b:=true) (aI (ar (ak rfl (ak rfl (ak (aj rfl rfl rfl) rfl))) (c (XU _) j)))) (bU (b:=true) (aI (ar (ak rfl (ak rfl (ak (aj rfl rfl rfl) rfl))) (c (XU _) e)))))) (aR (kT (kh (aI (aj rfl rfl (by rw[o6,y3 g];rfl))) (aI (ar (ak (aF rfl rfl rfl rfl) (ak rfl (ak rfl rfl))) (c d.1 d.2))))))))))) a0
structure NH (n A:Nat) (h0:Hd) (T:List Tie) (h:Hd):Prop where
 pre:∃g,h=h0++g/\g.length=n + 1
 dc:∀j,j < n->h[A + j]? = some (.dct ((nbs T j).map qo))
 rf:h[A + n]? = some (.lst ((List.range n).map λi=>.ref (A + i)))
theorem NH.put {h0:Hd}(d:A=h0.length)(N:NH n A h0 T h){j:Nat}(a:j < n)(c:aS):(∃g,h.set (A + j) c=h0++g/\g.length=n + 1)/\(h.set (A + j) c)[A + j]? = some c/\(∀k,k≠j->(h.set (A + j) c)[A + k]? = h[A + k]?):=by
 obtain⟨g,e,l⟩:=N.pre;have lt:=(List.getElem?_eq_some_iff.mp (N.dc j a)).1;exact⟨⟨g.set j c,by rw[e,kj d],by rw[YG];exact l⟩,List.getElem?_set_self lt,λk b=>ZP λz=>b (WB z).symm⟩
theorem E3 {i j:Nat}(a:n<=30)(O:TOk n n 0 T):((nbs (T.take i) j).map qo).length < SZ:=by
 rw[ZA];exact ZS (ZM (List.length_filterMap_le _ _) (ZM (List.length_take_le' _ _) (ZM O.len (Nat.add_le_add_right (Nat.mul_le_mul_left 30 a) 0)))) (by decide)
abbrev XN (n tk A:Nat) (a b c:Option D):Sd:=[some (.int n),some (.ref tk),some (.ref (A + n)),a,b,c]
theorem G5 {tk i:Nat}(E:n<=30)(O:TOk n n 0 T){h0:Hd}(C:A=h.length)(N:NH n A h (T.take i) h0){t:Tie}(mt:t∈T)(un:∀s∈T.take i,jt s t)(v:T.take (i + 1)=T.take i++[t])(b c:Option D) :
  ∃k,jr (XN n tk A (some (gY t)) b c) h0=.nx (XN n tk A (some (gY t)) (some (.int t.a)) (some (.int t.b))) k/\NH n A h (T.take (i + 1)) k:=by
 have f:=O.ne t mt;have a:=O.lt t mt;have fa:far t.a t=some t.b:=z4 rfl;have G:far t.b t=some t.a:=(z5 f).trans (z4 rfl);have w:=z8 fa un;have I:=z8 G un;have q:∀j:Nat,j < n->atI ((List.range n).map λi=>D.ref (A + i)) (j:Int)=some (.ref (A + j)):=λj u=>ef (by rw[ZQ,List.getElem?_range u];rfl);have F:=q t.a a.1;have H:=q t.b a.2;have x:=N.dc t.a a.1;obtain⟨B,p2,r⟩:=N.put C a.1 (.dct ((nbs (T.take i) t.a++[(t.b,t.w)]).map qo));obtain⟨m,p⟩ : ∃m,m=h0.set (A + t.a) (.dct ((nbs (T.take i) t.a++[(t.b,t.w)]).map qo)):=⟨_,rfl⟩;rw[<-p]at B p2 r;have o:m[A + n]? = some (.lst ((List.range n).map λi=>.ref (A + i))):=(r n (x6 a.1)).trans N.rf;have y:m[A + t.b]? = some (.dct ((nbs (T.take i) t.b).map qo)):=(r t.b (YT f)).trans (N.dc t.b a.2);obtain⟨k,d⟩ : ∃k,k=m.set (A + t.b) (.dct ((nbs (T.take i) t.b++[(t.a,t.w)]).map qo)):=⟨_,rfl⟩;refine⟨k,sx (ca (bU (aI (ar (ak rfl (ak rfl rfl)) (CT f a.1 a.2 (O.wt t mt) h0))))) (sx (aD (aF rfl rfl rfl rfl)) (sx (aD (aF rfl rfl rfl rfl)) (sx (ca (aI (aj rfl (aF rfl rfl (aH N.rf) F) (by rw[JR x,CS w];rfl)))) (sx (h':=m) (by
  rw[p,<-yn w];exact BA (aF rfl rfl rfl rfl) (aF rfl rfl (aH N.rf) F) rfl x (E3 E O)) (by
  rw[d,<-yn I];exact BA (aF rfl rfl rfl rfl) (aF rfl rfl (aH o) H) rfl y (E3 E O)))))),?_,λj u => ?_,?_⟩
 ·obtain⟨g,e,l⟩:=B
  exact⟨_,by rw[d,e,kj C],by rw[YG];exact l⟩
 ·rw[v,ym]
  by_cases e1:t.b=j
  ·subst e1
   rw[d,JV _ y,G]
  ·rw[d,ZP (λz=>e1 (WB z))]
   by_cases e2:t.a=j
   ·subst e2
    rw[p2,fa]
   ·have:far j t=none:=(z5 e2).trans (z5 e1)
    rw[r j (YT e2),this,N.dc j u];simp only[Z6]
 ·rw[d];exact(ZP (λz=>ZN a.2 (WB z))).trans o
theorem CU (r:A=h.length):∃h1 g,bR none ((List.range n).map λk:Nat=>D.int k) (gN 0) [] Bj ((List.range n).map λk:Nat=>D.int k) [none] h=.ok ((List.range n).map λi=>.ref (A + i)) h1/\h1=h++g/\g.length=n/\∀j,j < n->h1[A + j]? = some (.dct []):=by
 obtain⟨ds,h1,s,l1,u,q,-,g,v,b,o⟩:=mW (g:=none) (all:=(List.range n).map λk:Nat=>D.int k) (tg:=gN 0) (xs:=(List.range n).map λk:Nat=>D.int k) (k:=0)
  (e:=Bj) (σ:=[none]) (h:=h)
  (P:=λi σ l=>(∃a,σ = [a])/\∃g,l=h++g/\g.length=i/\∀j,j < i->l[A + j]? = some (.dct [])) (V:=λi d=>d=.ref (A + i)) (λ_ _ _ _=>trivial) (by
   rintro i x σ h0 t ⟨⟨a,rfl⟩,g,p,b,c⟩;obtain⟨hi,rfl⟩:=dZ t;rw[wF]at b c ⊢;have m:h0.length=A + i:=by rw[p,ZB,b,r]
   refine⟨_,rfl,.ref h0.length,h0++[.dct []],rfl,by rw[m],⟨_,rfl⟩,g++[.dct []],by rw[p,ZU],by rw[ZB,b];rfl,λj f => ?_⟩
   by_cases hji:j < i
   ·exact aA _ (c j hji)
   ·rw[Nat.le_antisymm (YX f) (Nat.not_lt.mp hji),<-m];exact ZG) ⟨⟨_,rfl⟩,[],(Z6 _).symm,rfl,λj f=>absurd f (YB _)⟩
 rw[ZA,ZO]at l1;rw[wF,ZA,ZO]at b o;have c:ds=(List.range n).map λi=>.ref (A + i):=rX l1 λi d hd=>by have:=u i d hd;rwa[wF]at this
 exact⟨h1,g,by rw[s,c],v,b,o⟩
inductive NI (n A tk:Nat) (h:Hd) (T:List Tie):Nat->Sd->Hd->Prop
 | mk {i:Nat} {h':Hd} {a b c:Option D} (N:NH n A h (T.take i) h'):NI n A tk h T i (XN n tk A a b c) h'
theorem tJ (E:1<=n)(p:n<=30)(O:TOk n n 0 T){tk:Nat}(ht:h[tk]? = some (.lst (T.map gY))) :
  ∃h',ik [.int n,.ref tk] h=.ok (.ref (h.length + n)) h'/\NH n h.length h T h':=by
 obtain⟨A,m⟩ : ∃A,A=h.length:=⟨_,rfl⟩;rw[<-m];obtain⟨h1,g,C,r,t,D⟩:=CU (n:=n) m;obtain⟨h2,d⟩ : ∃h2,h2=h1++[.lst ((List.range n).map λi=>.ref (A + i))]:=⟨_,rfl⟩;have l:h1.length=A + n:=by rw[r,ZB,t,m]
 have J:NH n A h [] h2:=⟨⟨g++[.lst ((List.range n).map λi=>.ref (A + i))],by rw[d,r,ZU],by rw[ZB,t];rfl⟩,λj w=>by rw[d];exact aA _ (D j w),by rw[d,<-l];exact ZG⟩;obtain⟨_,G,F,@⟨_,M,Q,R,v⟩⟩:=dF (P:=NI n A tk h T) (g:=some tk) (k:=0)
   (all:=T.map gY) (λ_ _ h' q=>by
    obtain⟨N⟩:=q;obtain⟨g,e,_⟩:=N.pre;show h'[tk]? = _;rw[e];exact aA _ ht)
   (xs:=T.map gY) (tg:=gN 3) (σ:=XN n tk A none none none) (h:=h2) (b:=jr) (by
   intro i x σ h0 o z;rw[wF]at z ⊢;obtain @⟨_,a,b,c,N⟩:=z;have f:i < T.length:=by have:=(List.getElem?_eq_some_iff.mp o).1;rwa[ZA]at this
   rw[ZQ,ZE f]at o;cases o;have H:T[i]∈T:=Z5 f;have K:∀s∈T.take i,jt s T[i]:=λs y=>by
    obtain⟨k,u,rfl⟩:=List.getElem_of_mem y;rw[XH]at u;rw[List.getElem_take];exact List.pairwise_iff_getElem.mp O.un k i _ f (xC u (Nat.min_le_left _ _))
   obtain⟨B,I,L⟩:=G5 (tk:=tk) p O m N H K (YZ f) b c;exact⟨_,rfl,_,B,I,.mk L⟩) (.mk J)
 rw[wF,ZA,WC]at v;refine⟨G,x4 (bG (σ:=[some (.int n),some (.ref tk),none,none,none,none]) rfl rfl (sx (ca (bU (aI (r6 rfl ht)))) (sx (σ':=[some (.int n),some (.ref tk),some (.ref (A + n)),none,none,none]) (h':=h2) (by
  rw[d,<-l];exact aD (bn (cx (c7 rfl (ZM p (by decide))) C) (by rw[ZA,ZO];exact ZM p (by decide)))) (sx (fZ (dv rfl (by rw[d,r];exact aA _ (aA _ ht))) F) (aR rfl))))) (by simp[letGo,pure?]),v⟩
theorem Lo (a b:Int)(h:Hd):oNe (.int a) (.int b) h=.ok (.bl (!decide (a=b))) h:=rfl
theorem E4 {l:List Nat}(nd:l.Nodup)(h:∀x∈l,x < n):l.length<=n:=by
 induction n generalizing l with
 | zero=>match l,h with
  | [],_=>exact ZL _
  | x :: _,h=>exact absurd (h x ZV) (YB _)
 | succ n ih =>
  by_cases m:n∈l
  ·have:=ih (nd.erase n) λx a=>by
    have z:=(List.Nodup.mem_erase_iff nd).mp a;exact XR (YX (h x z.2)) z.1
   rw[List.length_erase_of_mem m]at this;exact Nat.le_add_of_sub_le this
  ·exact XB (ih nd λx a=>XR (YX (h x a)) λz=>m (z ▸ a))
def cV (n:Nat) (T:List Tie) (bs:List Int) (ss:List (Option Int)):Web:=⟨(List.range n).map λi=>eV (nbs T i),bs,ss⟩
theorem oh:∀l:List (Nat × Int),fv (l.map qo)=some (l.map sj)
 | []=>rfl
 | p :: l=>by
  have a:=oh l;simp only[yP];show (fv (l.map qo)).map _=_;rw[a];rfl
theorem E5 (un:T.Pairwise jt)(i:Nat):((nbs T i).map (·.1)).Nodup:=by
 unfold nbs
 induction T with
 | nil=>simp
 | cons t T a =>
  obtain⟨h1,h2⟩:=List.pairwise_cons.mp un;have a:=a h2;cases e:far i t with
  | none=>simp only[XD,e,Option.map_none];exact a
  | some j =>
   simp only[XD,e,XC,yP,List.nodup_cons];refine⟨λz => ?_,a⟩;obtain⟨p,d,b⟩:=List.mem_map.mp z;exact z8 (T:=T) e (λs c=>(h1 s c).symm) p d b
theorem G6 {l:List (Nat × Int)}(nd:(l.map (·.1)).Nodup):(l.map sj).Nodup:=by
 rw[WO,YY]at nd ⊢;exact nd.imp λ{a b} h e=>h (by have:=(List.cons.inj e).1;omega)
theorem uQ {α : Type}{l:List α}:fP (l.map λ_=>D.bl true)=some (l.map λ_=>true):=by
 induction l with
 | nil=>rfl
 | cons x l ih=>simp[fP,ih]
theorem vY {f bk:Nat}{bs:List Int}(m:h[f]? = some (.lst l))(o:l.length=n)(d:h[bk]? = some (.lst (bs.map .int)))(lb:bs.length=n):i9 [.ref f,.ref bk] h=.ok (.tup (bs.map .int)) h:=by
 have c:bR (some bk) (bs.map D.int) (gN 0) [] (au dU (ab (aa 0) ao)) (bs.map D.int) [none] h=.ok ((bs.map D.int).map λ_=>D.bl true) h:=by
  have:=bT (g:=some bk) (all:=bs.map D.int) (tg:=gN 0) (cs:=[]) (e:=au dU (ab (aa 0) ao)) (h:=h) (I:=λσ=>∃a,σ = [a]) (λ_=>true) (λ_=>.bl true) d (xs:=bs.map D.int) (σ:=[none]) (by
   rintro x k σ ⟨a,rfl⟩;obtain⟨i,_,rfl⟩:=List.mem_map.mp k;exact⟨_,rfl,⟨_,rfl⟩,rfl,λ_=>ar (ak rfl rfl) (n9 _ _)⟩) ⟨_,rfl⟩
  rw[this,List.filter_eq_self.mpr (by simp)]
 have j:((bs.map D.int).map λ_=>true).all id=true:=by simp
 exact x4 (bG (σ:=[some (.ref f),some (.ref bk)]) rfl rfl (sx (ca (aI (aj rfl rfl rfl))) (sx (ca (eE (bU (b:=true) (aI (r6 rfl d))) (aI (aj (c6 (bQ rfl (aH d))) (c6 (bQ rfl (aH m))) (by rw[Lo,ZA,lb,o,yQ rfl];rfl))))) (sx (ca (bU (b:=true) (aI (x4 (oZ (cx (dv rfl d) c) uQ) (by rw[j]))))) (aR (ii (bQ rfl (aH d)))))))) a0
theorem tK {sk:Nat}{ss:List (Option Int)}(d:h[sk]? = some (.lst (ss.map bq)))(ls:ss.length=n)(os:∀x∈ss,x=none\/x=some 0\/x=some 1):im [.int n,.ref sk] h=.ok (.tup (ss.map bq)) h:=by
 have c:bR (some sk) (ss.map bq) (gN 0) [] (fT (tOr (tE (ag mD (aa 0) (fC .non))) (tE (au cJ (ab (aa 0) ao))))) (ss.map bq) [none] h=.ok ((ss.map bq).map λ_=>D.bl true) h:=by
  have:=bT (g:=some sk) (all:=ss.map bq) (tg:=gN 0) (cs:=[]) (e:=fT (tOr (tE (ag mD (aa 0) (fC .non))) (tE (au cJ (ab (aa 0) ao))))) (h:=h) (I:=λσ=>∃a,σ = [a]) (λ_=>true) (λ_=>.bl true) d (xs:=ss.map bq) (σ:=[none]) (by
   rintro x f σ ⟨a,rfl⟩;obtain⟨i,hi,rfl⟩:=List.mem_map.mp f;refine⟨_,rfl,⟨_,rfl⟩,rfl,λ_ => ?_⟩;rcases os i hi with e|e|e<;>subst e
   ·exact kT (ET (aI (aj rfl rfl rfl)))
   ·exact kT (eE (aI (aj rfl rfl rfl)) (aI (ar (ak rfl rfl) (iL 0 h))))
   ·exact kT (eE (aI (aj rfl rfl rfl)) (aI (ar (ak rfl rfl) (iL 1 h))))) ⟨_,rfl⟩
  rw[this,List.filter_eq_self.mpr (by simp)]
 exact x4 (bG (σ:=[some (.int n),some (.ref sk)]) rfl rfl (sx (ca (aI (aj rfl rfl rfl))) (sx (ca (eE (bU (b:=true) (aI (r6 rfl d))) (aI (aj (c6 (bQ rfl (aH d))) rfl (by rw[Lo,ZA,ls,yQ rfl];rfl))))) (sx (ca (bU (b:=true) (aI (x4 (oZ (cx (dv rfl d) c) uQ) (by rw[List.all_map];simp))))) (aR (ii (bQ rfl (aH d)))))))) a0
theorem G7 (m:n<=30)(O:TOk n n 0 T)(N:NH n A h T h1) :
  bR (some (A + n)) ((List.range n).map λi=>.ref (A + i)) (gN 0) [] (gJ (oT (aa 0))) ((List.range n).map λi=>.ref (A + i)) [none] h1=.ok (((List.range n).map λi=>eV (nbs T i)).map jo) h1:=by
 have:=bT (g:=some (A + n)) (all:=(List.range n).map λi=>.ref (A + i)) (tg:=gN 0) (cs:=[]) (e:=gJ (oT (aa 0))) (h:=h1) (I:=λσ=>∃a,σ = [a]) (λ_=>true)
  (λd=>match d with | .ref k=>jo (eV (nbs T (k - A)))|_=>.non) N.rf (xs:=(List.range n).map λi=>.ref (A + i)) (σ:=[none]) (by
   rintro x j σ ⟨a,rfl⟩;obtain⟨i,hi,rfl⟩:=List.mem_map.mp j;have hi:=List.mem_range.mp hi;refine⟨_,rfl,⟨_,rfl⟩,rfl,λ_ => ?_⟩;have l:=E5 O.un i;have c:((nbs T i).map sj).length < 64:=by
    have lt:∀p∈nbs T i,p.1 < n:=λp b=>by
     unfold nbs at b;obtain⟨t,f,q⟩:=List.mem_filterMap.mp b;have:=O.lt t f;unfold far at q
     by_cases a1:t.a=i
     ·rw[z4 a1]at q;simp at q;subst q;exact this.2
     ·rw[z5 a1]at q
      by_cases a2:t.b=i
      ·rw[z4 a2]at q;simp at q;subst q;exact this.1
      ·rw[z5 a2]at q;cases q
    have:=E4 l (n:=n) (λx j=>by
     obtain⟨p,b,rfl⟩:=List.mem_map.mp j;exact lt p b)
    simp at this ⊢;omega
   have e:((dD ((nbs T i).map sj)).map vH)=(eV (nbs T i)).map mV:=by rw[<-uP,wC];rfl
   simp only[List.set_cons_zero,gJ,oT,aa,slot,List.getElem?_cons_zero,aW,N.dc i hi,oh,z4 (And.intro c (G6 l)),e,jo,Nat.add_sub_cancel_left]) ⟨_,rfl⟩
 rw[this,List.filter_eq_self.mpr (by simp),wC,wC];congr 1;apply YK;intro i _;simp
theorem CV (d:1<=n)(m:n<=30)(O:TOk n n 0 T){bs:List Int}{ss:List (Option Int)}(lb:bs.length=n)(ls:ss.length=n)(os:∀x∈ss,x=none\/x=some 0\/x=some 1){tk bk sk:Nat}
  (ht:h[tk]? = some (.lst (T.map gY))) (u:h[bk]? = some (.lst (bs.map .int))) (r:h[sk]? = some (.lst (ss.map bq))):jN [.int n,.ref tk,.ref bk,.ref sk] h=.ok (cV n T bs ss).enc h:=by
 obtain⟨h1,o,N⟩:=tJ d m O ht;obtain⟨A,s⟩ : ∃A,A=h.length:=⟨_,rfl⟩;rw[<-s]at o N;obtain⟨g,p,w⟩:=N.pre;have f:∀{k:Nat} {c:aS},h[k]? = some c->h1[k]? = some c:=λ{k c} e=>by rw[p,ZC (List.getElem?_eq_some_iff.mp e).1];exact e
 have a:=G7 m O N;have q:=vY (n:=n) (l:=(List.range n).map λi=>.ref (A + i)) N.rf (by simp) (f u) lb;have j:=tK (n:=n) (f r) ls os;have v:(1:Int)<=n:=Int.ofNat_le.mpr d;have t:(n:Int)<=30:=Int.ofNat_le.mpr m;have rf:=N.rf;refine x4 (bG (σ:=[some (.int n),some (.ref tk),some (.ref bk),some (.ref sk),none,none]) rfl rfl (sx (ca (bU (b:=true) (aI (ar (ak rfl (ak rfl (ak rfl rfl))) (by rw[fD,yQ v,yQ t];rfl))))) (sx (aD (ar (ak rfl (ak rfl rfl)) o)) (sx (aD (ii (cx (dv rfl rf) a))) (aR (iK (ak rfl (ak (ar (ak rfl (ak rfl rfl)) q) (ak (ar (ak rfl (ak rfl rfl)) j) rfl))) (by exact YV rfl))))))) ?_;show letGo h (.ok (cV n T bs ss).enc h1)=_;rw[p];exact cr (yh _)
theorem mY (s:List Int):∀r:List (Nat × Int),bF r s=(r.map λp=>if s.getD p.1 0=1 then p.2 else 0).sum
 | []=>rfl
 | p :: r=>by
  have a:=mY s r;simp only[bF,eQ,YR,yP,X8]at a ⊢
  by_cases e:s.getD p.1 0=1
  ·simp only[e,decide_true,YL,yP,X8];rw[a]
  ·simp only[e,decide_false,YQ,wJ];rw[a];omega
theorem yp (s:List Int)(r:List (Nat × Int)):bF (eV r) s=bF r s:=by rw[mY,mY,o8]
theorem z9 (lt:∀t∈T,t.a < n/\t.b < n){i:Nat}:∀p∈nbs T i,p.1 < n:=λp b=>by
 unfold nbs at b;obtain⟨t,a,q⟩:=List.mem_filterMap.mp b;have:=lt t a;unfold far at q
 by_cases a1:t.a=i
 ·rw[z4 a1]at q;simp at q;subst q;exact this.2
 ·rw[z5 a1]at q
  by_cases a2:t.b=i
  ·rw[z4 a2]at q;simp at q;subst q;exact this.1
  ·rw[z5 a2]at q;cases q
theorem E6 (c:n<=30)(O:TOk n n 0 T){bs:List Int}{ss:List (Option Int)}(lb:bs.length=n)(ls:ss.length=n):(cV n T bs ss).Ok n:=by
 refine⟨by simp[cV],lb,ls,λr b p a => ?_,by omega⟩;obtain⟨i,_,rfl⟩:=List.mem_map.mp b;exact z9 O.lt p (my.mp a)
structure ML (n:Nat) (T:List Tie) (bs:List Int) (ss:List (Option Int)) (tk bk sk:Nat) (h:Hd):Prop where
 ti:h[tk]? = some (.lst (T.map gY))
 ba:h[bk]? = some (.lst (bs.map .int))
 st:h[sk]? = some (.lst (ss.map bq))
theorem Aa {bs:List Int}{ss:List (Option Int)}{one:Nat}(h1:one < n):cN (cV n T bs ss) s one=match ss.getD one none with
  | some x=>x
  | none=>if 2 * bF (nbs T one) s=bs.getD one 0 then s.getD one 0 else if bs.getD one 0 < 2 * bF (nbs T one) s then 1 else 0:=by
 have e:((cV n T bs ss).ties.getD one [])=eV (nbs T one):=by simp[cV,List.getD,h1]
 unfold cN;rw[e,yp];rfl
theorem jO {α : Type}{f : α->D}(h:∀x,peq (f x) (f x)=some true):∀l:List α,gS (l.map f) (l.map f)=some true
 | []=>rfl
 | x :: l=>by simp[gS,h x,jO h l]
theorem jP {α : Type}{f : α->D}{k:Nat}(h:∀x,dep (f x)<=k):∀l:List α,ji (l.map f)<=k
 | []=>Z8 _
 | x :: l=>by simp only[yP,ji];exact Nat.max_le.mpr ⟨h x,jP h l⟩
theorem G8 (w:Web):peq w.enc w.enc=some true/\dep w.enc<=20:=by
 have b:∀p:Nat × Int,peq (mV p) (mV p)=some true:=λp=>by simp[mV,peq,gS]
 have p2:∀r:List (Nat × Int),peq (jo r) (jo r)=some true:=λr=>by simp[jo,peq,jO b r]
 have f:∀x:Option Int,peq (bq x) (bq x)=some true:=λx=>by cases x<;>simp[bq,peq]
 have c:∀x:Int,peq (.int x) (.int x)=some true:=λx=>by simp[peq]
 have g:∀p:Nat × Int,dep (mV p)<=1:=λp=>by simp[mV,dep,ji]
 have a:∀r:List (Nat × Int),dep (jo r)<=2:=λr=>by have:=jP g r;simp[jo,dep];omega
 have d:∀x:Option Int,dep (bq x)<=0:=λx=>by cases x<;>simp[bq,dep]
 have e:∀x:Int,dep (.int x)<=0:=λx=>by simp[dep]
 have j:=jP a w.ties;have h:=jP e w.bars;have i:=jP d w.stays;constructor
 ·simp[Web.enc,peq,gS,jO p2 w.ties,jO c w.bars,jO f w.stays]
 ·simp only[Web.enc,dep,ji];omega
structure MM (n:Nat) (ss:List (Option Int)) (s:List Int):Prop where
 len:s.length=n
 op:∀x∈s,x=0\/x=1
 st:∀(i:Nat) x,ss[i]? = some (some x)->s[i]? = some x
def LeS (a b:List Int):Prop:=∀i:Nat,a.getD i 0<=b.getD i 0
def vZ (a:List Int):Prop:=∀i:Nat,a.getD i 0=0\/a.getD i 0=1
theorem eW (p:Nat × Int)(r:List (Nat × Int))(s:List Int):bF (p :: r) s=(if s.getD p.1 0=1 then p.2 else 0) + bF r s:=by
 unfold bF eQ
 by_cases e:s.getD p.1 0=1
 ·rw[YR,z4 (by simp only[Z9];exact e),z4 e];rfl
 ·rw[YR,z5 (by simp only[Z9];exact e),z5 e];omega
theorem qd {a b:List Int}(B:vZ b)(l:LeS a b):∀{r:List (Nat × Int)},(∀p∈r,0<=p.2)->bF r a<=bF r b
 | [],_=>Y7 _
 | p :: r,h=>by
  have g:=qd B l (r:=r) λq d=>h q (by simp[d]);have h0:=h p (by simp);have f:=l p.1;have i:=B p.1;rw[eW,eW]
  by_cases e:a.getD p.1 0=1
  ·have c:b.getD p.1 0=1:=by omega
   rw[z4 e,z4 c];omega
  ·rw[z5 e]
   by_cases c:b.getD p.1 0=1
   ·rw[z4 c];omega
   ·rw[z5 c];omega
theorem G9 {c b d a x y:Int}(hp:c<=b)(e:a<=d)(l:x<=y)(i:x=0\/x=1)(g:y=0\/y=1):(if 2 * c=d then x else if d < 2 * c then 1 else 0)<=(if 2 * b=a then y else if a < 2 * b then (1:Int) else 0):=by
 have h:0<=y:=by rcases g with rfl|rfl<;>decide
 have x1:x<=1:=by rcases i with rfl|rfl<;>decide
 have q:2 * c<=2 * b:=Int.mul_le_mul_of_nonneg_left hp (by decide);generalize 2 * c=A at q;generalize 2 * b=B at q
 by_cases e1:A=d
 ·rw[z4 e1]
  by_cases e2:B=a
  ·rw[z4 e2];exact l
  ·rw[z5 e2,z4 (Int.lt_iff_le_and_ne.mpr ⟨VA e (e1 ▸ q),YT e2⟩)];exact x1
 ·rw[z5 e1]
  by_cases e3:d < A
  ·have f:a < B:=Int.lt_of_le_of_lt e (Int.lt_of_lt_of_le e3 q)
   rw[z4 e3,z5 (Int.ne_of_gt f),z4 f];exact Y7 _
  ·rw[z5 e3]
   by_cases e2:B=a
   ·rw[z4 e2];exact h
   ·rw[z5 e2]
    split
    ·decide
    ·exact Y7 _
theorem Ab {c d:Web}{a b:List Int}(hp:bF (c.ties.getD p []) a<=bF (d.ties.getD p []) b)(e:d.bars.getD p 0<=c.bars.getD p 0)(B1:vZ a)(h:vZ b)(le:LeS a b)
  (st:(c.stays.getD p none=none/\d.stays.getD p none=none)\/c.stays.getD p none=some 0\/d.stays.getD p none=some 1) (n1:cN c a p=0\/cN c a p=1) (n2:cN d b p=0\/cN d b p=1):cN c a p<=cN d b p:=by
 rcases st with ⟨s1,s2⟩|s|s
 ·have g:=B1 p
  have f:=h p;have l:=le p;unfold cN;rw[s1,s2];generalize bF (c.ties.getD p []) a=P1 at *;generalize bF (d.ties.getD p []) b=P2 at *;generalize c.bars.getD p 0=c1 at *;generalize d.bars.getD p 0=c2 at *;generalize a.getD p 0=x at *;generalize b.getD p 0=y at *;exact G9 hp e l g f
 ·have:cN c a p=0:=by unfold cN;rw[s]
  omega
 ·have:cN d b p=1:=by unfold cN;rw[s]
  omega
theorem uR (w:Web)(n:Nat)(s:List Int)(i:Nat):(cO w n s).getD i 0=if i < n then cN w s i else 0:=by
 unfold cO
 by_cases h:i < n<;>simp[List.getD,h]
theorem dS.bits (F:dS w n s):vZ s:=λi=>gM F i
structure Ha (w1 w2:Web) (n:Nat):Prop where
 go:∀a b,dS w1 n a->dS w2 n b->LeS a b->LeS (cO w1 n a) (cO w2 n b)
theorem Hb {c d:Web}(k:eF c)(S2:eF d)(hp:∀p,p < n->∀a b,vZ a->vZ b->LeS a b->bF (c.ties.getD p []) a<=bF (d.ties.getD p []) b)(j:∀p,p < n->d.bars.getD p 0<=c.bars.getD p 0)
  (st:∀p,p < n->(c.stays.getD p none=none/\d.stays.getD p none=none)\/c.stays.getD p none=some 0\/d.stays.getD p none=some 1):Ha c d n :=
 ⟨λa b e f g i=>by
  rw[uR,uR]
  by_cases h:i < n
  ·rw[z4 h,z4 h]
   exact Ab (hp i h a b e.bits f.bits g) (j i h) e.bits f.bits g (st i h) (sh e k i) (sh f S2 i)
  ·rw[z5 h,z5 h];exact Y7 _⟩
theorem uS {c d:Web}{n:Nat}(i:c.Ok n)(f:d.Ok n)(g:eF c)(S2:eF d)(M:Ha c d n){a b:List Int}(e:dS c n a)(h:dS d n b)(le:LeS a b):∀k,LeS (aM c n a k) (aM d n b k)
 | 0=>le
 | k + 1=>M.go _ _ (bA i g e k) (bA f S2 h k) (uS i f g S2 M e h le k)
def S2 (R:Nat->List (Nat × Int)) (f s:Nat->Int):Nat->Int
 | 0=>0
 | k + 1=>S2 R f s k + ((R k).map λp=>p.2 * f p.1 * s k).sum
def eG (g:Nat->Int):Nat->Int
 | 0=>0
 | n + 1=>eG g n + g n
theorem uT (g:Nat->Int)(n:Nat):((List.range n).map g).sum=eG g n:=by
 induction n with
 | zero=>rfl
 | succ n ih=>rw[XZ,ZR,List.sum_append,ih];simp[eG]
theorem yq (l:List Int):l.sum=eG (λk=>l.getD k 0) l.length:=by
 rw[<-uT];congr 1;apply Z0;intro i
 by_cases hi:i < l.length<;>simp[List.getD,hi]
def o9 (w:Web) (n:Nat) (f s:List Int):Int :=
 2 * eG (λk=>(f.getD k 0 + s.getD k 0) * w.bars.getD k 0) n + f.sum + s.sum - 4 * S2 (λi=>w.ties.getD i []) (λk=>f.getD k 0) (λk=>s.getD k 0) n - 2 * eG (λk=>f.getD k 0 * s.getD k 0) n
theorem CW {r:List (Nat × Int)}{f:List Int}(a:∀p∈r,f.getD p.1 0=0\/f.getD p.1 0=1):bF r f=(r.map λp=>p.2 * f.getD p.1 0).sum:=by
 induction r with
 | nil=>rfl
 | cons p r ih =>
  have h1:=a p (by simp);have h2:=ih λq b=>a q (by simp[b]);simp only[bF,eQ]at h2 ⊢;rcases h1 with e|e
  ·simp[-List.getD_eq_getElem?_getD,e,h2]
  ·simp[-List.getD_eq_getElem?_getD,e,h2]
theorem uU {f:List Int}(W:w.Ok n)(g:dS w n f)(h:dS w n s):fE w f s n=o9 w n f s:=by
 have a:∀{l:List Int} (F:dS w n l) (i:Nat),l.getD i 0=0\/l.getD i 0=1:=λ{l} F i=>by
  by_cases hi:i < l.length
  ·rw[List.getD,ZE hi];exact F.op _ (Z5 hi)
  ·rw[List.getD,List.getElem?_eq_none (by omega)];exact .inl rfl
 have c:∀m,m<=n->fE w f s m=2 * eG (λk=>(f.getD k 0 + s.getD k 0) * w.bars.getD k 0) m + eG (λk=>f.getD k 0) m + eG (λk=>s.getD k 0) m
   - 4 * S2 (λi=>w.ties.getD i []) (λk=>f.getD k 0) (λk=>s.getD k 0) m - 2 * eG (λk=>f.getD k 0 * s.getD k 0) m:=by
  intro m
  induction m with
  | zero=>intro _;rfl
  | succ m b =>
   intro q;have b:=b (by omega);simp only[fE,eG,S2,mw,b];have j:=CW (r:=w.ties.getD m []) (f:=f) λp _=>a g p.1;have o:=a g m;have bs:=a h m;have d:((w.ties.getD m []).map λp=>p.2 * f.getD p.1 0 * s.getD m 0).sum=bF (w.ties.getD m []) f * s.getD m 0:=by
    rw[j];generalize w.ties.getD m [] = r
    induction r with
    | nil=>simp
    | cons p r b=>simp only[yP,X8,b,Int.add_mul]
   rw[d];rcases o with e|e<;>rcases bs with e'|e'<;>simp only[e,e']<;>simp<;>omega
 rw[c n (ZL _),o9,yq f,yq s,g.len,h.len]
theorem Ac {f:List Int}(sym:∀f s,S2 (λi=>w.ties.getD i []) f s n=S2 (λi=>w.ties.getD i []) s f n):o9 w n f s=o9 w n s f:=by
 have b:(λk=>(f.getD k 0 + s.getD k 0) * w.bars.getD k 0)=λk=>(s.getD k 0 + f.getD k 0) * w.bars.getD k 0:=by funext k;rw[Int.add_comm]
 have a:(λk=>f.getD k 0 * s.getD k 0)=λk=>s.getD k 0 * f.getD k 0:=by funext k;rw[Int.mul_comm]
 rw[o9,o9,b,a,sym];omega
theorem CY {f:List Int}(W:w.Ok n)(a:dS w n f)(b:dS w n s)(sym:∀f s,S2 (λi=>w.ties.getD i []) f s n=S2 (λi=>w.ties.getD i []) s f n):fE w f s n=fE w s f n:=by
 rw[uU W a b,uU W b a,Ac sym]
def unl (a b:List Int) (n:Nat):Int:=eG (λp=>if a.getD p 0=b.getD p 0 then 0 else 1) n
theorem mZ (a b:List Int):∀n,0<=unl a b n
 | 0=>by simp[unl,eG]
 | n + 1=>by
  have:=mZ a b n;simp only[unl,eG]at this ⊢;split<;>omega
theorem BC {a b:List Int}:∀{n:Nat},(∃p,p < n/\a.getD p 0≠b.getD p 0)->1<=unl a b n
 | 0,⟨p,hp,_⟩=>by omega
 | n + 1,⟨p,hp,hne⟩=>by
  have h0:=mZ a b n
  by_cases e:p=n
  ·subst e
   simp only[unl,eG]at h0 ⊢;rw[z5 hne];omega
  ·have:=BC (a:=a) (b:=b) (n:=n) ⟨p,by omega,hne⟩
   simp only[unl,eG]at this ⊢;split<;>omega
theorem Hc {a b:List Int}(d:a.length=n)(c:b.length=n)(h:a≠b):∃p,p < n/\a.getD p 0≠b.getD p 0:=by
 refine WT λq=>h ?_;apply List.ext_getElem (by omega);intro i h1 h2;refine WT λz=>q ⟨i,by omega,?_⟩;simpa[List.getD,h1,h2] using z
theorem CZ (hp:p < n):(cO w n s).getD p 0=cN w s p:=by simp[cO,List.getD,hp]
theorem C0 (F:dS w n s){x:Int}(e:w.stays.getD p none=some x):s.getD p 0=x:=by
 have:w.stays[p]? = some (some x):=by
  rw[List.getD]at e;cases c:w.stays[p]? with
  | none=>rw[c]at e;cases e
  | some y=>rw[c]at e;simp at e;rw[e]
 have:=F.st p x this;simp[List.getD,this]
theorem Ms {d a:List Int}(W:w.Ok n)(k:dS w n d)(l:dS w n a)(sym:∀f s,S2 (λi=>w.ties.getD i []) f s n=S2 (λi=>w.ties.getD i []) s f n) :
  fE w a (cO w n a) n + unl d (cO w n a) n<=fE w d a n:=by
 rw[CY W k l sym];have j:∀m,m<=n->fE w a (cO w n a) m + unl d (cO w n a) m<=fE w a d m:=by
  intro m
  induction m with
  | zero=>intro _;simp[fE,unl,eG]
  | succ m h =>
   intro r;have h:=h (by omega);have e:=gM k m;have g:=gM l m;have q:=CZ (w:=w) (s:=a) (p:=m) (n:=n) (by omega);have o:mw w a (cO w n a) m + (if d.getD m 0=(cO w n a).getD m 0 then 0 else 1)<=mw w a d m:=by
    unfold mw;rw[q];unfold cN;cases c:w.stays.getD m none with
    | some x =>
     have:=C0 k c;simp only[this];simp
    | none =>
     simp only;generalize w.bars.getD m 0=b;generalize bF (w.ties.getD m []) a=P;generalize d.getD m 0=x0 at e ⊢;generalize a.getD m 0=x1 at g ⊢
     by_cases h1:2 * P=b
     ·rw[z4 h1]
      rcases e with z|z<;>rcases g with y|y<;>subst z y<;>simp<;>omega
     ·rw[z5 h1]
      by_cases h2:b < 2 * P
      ·rw[z4 h2]
       rcases e with z|z<;>rcases g with y|y<;>subst z y<;>simp<;>omega
      ·rw[z5 h2]
       rcases e with z|z<;>rcases g with y|y<;>subst z y<;>simp<;>omega
   simp only[fE,unl,eG]at h ⊢;omega
 exact j n (ZL _)
def C1 (r:List (Nat × Int)):Int:=(r.map λp=>(p.2.natAbs:Int)).sum
theorem C2 (r:List (Nat × Int))(f:List Int):bF r f<=C1 r:=by
 induction r with
 | nil=>simp[bF,eQ,C1]
 | cons p r ih =>
  simp only[bF,eQ,C1,YR,yP,X8]at ih ⊢;split
  ·simp only[yP,X8];omega
  ·omega
theorem E7 {w:Web}{n:Nat}:∀m,∃C:Int,∀f s,dS w n f->dS w n s->-C<=fE w f s m
 | 0=>⟨0,λf s _ _=>by simp[fE]⟩
 | m + 1=>by
  obtain⟨C,d⟩:=E7 (w:=w) (n:=n) m;refine⟨C + (2 * ((2 * w.bars.getD m 0 + 1).natAbs:Int) + 4 * C1 (w.ties.getD m []) + 2 + 4 * ((C1 (w.ties.getD m [])).natAbs:Int)),λf s a c => ?_⟩;have h:=d f s a c;have e:=gM a m;have g:=gM c m;have i:=C2 (w.ties.getD m []) f;simp only[fE,mw];generalize w.bars.getD m 0=b at *;generalize bF (w.ties.getD m []) f=P at *;generalize C1 (w.ties.getD m [])=A at *;generalize fE w f s m=T at *;rcases e with z|z<;>rcases g with y|y<;>simp only[z,y]<;>simp<;>omega
theorem Ad {P:Nat->Prop}(h:∃t,P t):∃t,P t/\∀k,k < t->¬P k:=by
 obtain⟨t,c⟩:=h
 induction t using Nat.strongRecOn with
 | ind t ih =>
  by_cases q:∃k,k < t/\P k
  ·obtain⟨k,b,a⟩:=q
   exact ih k b a
  ·exact⟨t,c,λk b a=>q ⟨k,b,a⟩⟩
def eN (w:Web) (n:Nat) (s:List Int) (k:Nat):Int:=fE w (aM w n s k) (aM w n s (k + 1)) n
theorem BD (W:w.Ok n)(S:eF w)(F:dS w n s)(sym:∀f s,S2 (λi=>w.ties.getD i []) f s n=S2 (λi=>w.ties.getD i []) s f n)(k:Nat) :
  eN w n s (k + 1) + unl (aM w n s k) (aM w n s (k + 2)) n<=eN w n s k:=Ms W (bA W S F k) (bA W S F (k + 1)) sym
theorem Ia (W:w.Ok n)(S:eF w)(F:dS w n s)(sym:∀f s,S2 (λi=>w.ties.getD i []) f s n=S2 (λi=>w.ties.getD i []) s f n){k:Nat}(h:aM w n s (k + 2)≠aM w n s k):eN w n s (k + 1) + 1<=eN w n s k:=by
 have:=BD W S F sym k;have:=BC (n:=n) (Hc (bA W S F k).len (bA W S F (k + 2)).len (YT h));omega
theorem Ib {w:Web}{n:Nat}{s:List Int}(W:w.Ok n)(S:eF w)(F:dS w n s)(sym:∀f s,S2 (λi=>w.ties.getD i []) f s n=S2 (λi=>w.ties.getD i []) s f n){k:Nat}:∀{m:Nat},k<=m->eN w n s m<=eN w n s k
 | 0,h=>by
  have:k=0:=by omega
  subst this;exact Y7 _
 | m + 1,h=>by
  by_cases e:k=m + 1
  ·subst e;exact Y7 _
  ·have h1:=Ib W S F sym (k:=k) (m:=m) (by omega)
   have h2:=BD W S F sym m;have a:=mZ (aM w n s m) (aM w n s (m + 2)) n;omega
theorem Mt (W:w.Ok n)(S:eF w)(F:dS w n s)(sym:∀f s,S2 (λi=>w.ties.getD i []) f s n=S2 (λi=>w.ties.getD i []) s f n):∃t,aM w n s (t + 2)=aM w n s t/\∀k,k < t->aM w n s (k + 2)≠aM w n s k:=by
 refine Ad (P:=λt=>aM w n s (t + 2)=aM w n s t) ?_;refine WT λq => ?_;obtain⟨C,b⟩:=E7 (w:=w) (n:=n) n;have a:∀k:Nat,eN w n s k + k<=eN w n s 0:=by
  intro k
  induction k with
  | zero=>simp
  | succ k ih =>
   have:=Ia W S F sym (k:=k) λz=>q ⟨k,z⟩;omega
 have h1:=a (eN w n s 0 + C + 1).toNat;have h2 : -C<=eN w n s (eN w n s 0 + C + 1).toNat:=b _ _ (bA W S F _) (bA W S F _);have c : -C<=eN w n s 0:=b _ _ (bA W S F _) (bA W S F _);omega
theorem uV:∀(a b:List Int),a.length=b.length->gS (a.map .int) (b.map .int)=some (decide (a=b))
 | [],[],_=>by simp[gS]
 | x :: a,y :: b,h=>by
  have c:=uV a b (by simpa using h);simp only[yP,gS,peq,c]
  by_cases e:x=y<;>by_cases e2:a=b<;>simp[e,e2]
 | [],_ :: _,h=>by simp at h
 | _ :: _,[],h=>by simp at h
theorem C3 (l:List Int):ji (l.map .int)=0:=by
 induction l with
 | nil=>rfl
 | cons x l ih=>simp[ji,dep,ih]
theorem He (l:List Int):dep (ay l)=1:=by simp[ay,dep,C3]
theorem Hf {a b:List Int}(h:a.length=b.length):peq (ay a) (ay b)=some (decide (a=b)):=by
 simp only[ay,peq,uV a b h,XC,ZA,h];simp
theorem BE {a b:List Int}(h:a.length=b.length)(hd:Hd):eqG hd (ay a) (ay b)=some (decide (a=b)):=by
 have c:∀l,dI hd (ay l)=none:=λl=>rfl;simp only[eqG,c,He,Hf h];rfl
theorem BF {a b:List Int}(h:a.length=b.length)(hd:Hd):oNe (ay a) (ay b) hd=.ok (.bl (!decide (a=b))) hd:=by
 unfold oNe;rw[BE h]
theorem BG {a b:List Int}(h:a.length=b.length)(hd:Hd):oEq (ay a) (ay b) hd=.ok (.bl (decide (a=b))) hd:=by
 unfold oEq;rw[BE h]
theorem Lp {k:Nat}(h1:1<=k)(h2:k<=n) : ¬ 0<=-(k:Int)/\-(n:Int)<=-(k:Int)/\(-(k:Int) + (n:Int)).toNat=n - k:=by omega
theorem Hg {k:Nat}(h1:1<=k)(h2:k<=l.length):atI l (-(k:Int))=l[l.length - k]? := by
 have q:=Lp h1 h2;unfold atI ixN;rw[z5 q.1,z4 q.2.1,q.2.2];rfl
theorem fF (k j:Nat)(h1:1<=j):atI ((aX w n s (k + j)).map ay) (-(j:Int))=some (ay (aM w n s k)):=by
 rw[Hg h1 (by rw[ZA,iu];exact Nat.le_add_left j k),ZA,iu,Nat.add_sub_cancel,ZQ,aX,ZQ,List.getElem?_range (Nat.lt_add_of_pos_right h1)];rfl
theorem pc {a:SF}{σ':Sd}(e:a σ h=.nx σ' h'):ax a b σ h=b σ' h':=by simp[ax,e]
theorem E8 (W:w.Ok n)(S:eF w)(F:dS w n s){t:Nat}(ht:aM w n s (t + 2)=aM w n s t)(hm:∀k,k < t->aM w n s (k + 2)≠aM w n s k)(hz:t<=900000)(h:Hd) :
  mx [w.enc,ay s] h=.ok (.tup [.int t,.str (if aM w n s (t + 1)=aM w n s t then [114,101,115,116] else [112,97,105,114]),.ref h.length]) (h++[.lst ((aX w n s (t + 2)).map ay)]):=by
 have L:∀k,(aM w n s k).length=n:=λk=>(bA W S F k).len;have g:∀j k,k + j=t->dP (tE (ag oNe (aa 3) (fAt (aa 2) (fC (.int (-2)))))) sf (j + 1) [some w.enc,some (ay s),some (.ref h.length),some (ay (aM w n s (k + 2))),none] (h++[.lst ((aX w n s (k + 2)).map ay)])
   = .nx [some w.enc,some (ay s),some (.ref h.length),some (ay (aM w n s (t + 2))),none] (h++[.lst ((aX w n s (t + 2)).map ay)]):=by
  intro j
  induction j with
  | zero =>
   intro k l;have:k=t:=l;subst this;have p:atI ((aX w n s (k + 2)).map ay) (-2)=some (ay (aM w n s k)):=fF k 2 (by decide);have c:tE (ag oNe (aa 3) (fAt (aa 2) (fC (.int (-2))))) [some w.enc,some (ay s),some (.ref h.length),some (ay (aM w n s (k + 2))),none] (h++[.lst ((aX w n s (k + 2)).map ay)])=.ok false (h++[.lst ((aX w n s (k + 2)).map ay)]):=by
    rw[ht];exact aI (aj rfl (aF rfl rfl (aH ZG) p) (by rw[BF rfl,yQ rfl];rfl))
   simp only[dP,c]
  | succ j ih =>
   intro k l;have p:atI ((aX w n s (k + 2)).map ay) (-2)=some (ay (aM w n s k)):=fF k 2 (by decide);have c:tE (ag oNe (aa 3) (fAt (aa 2) (fC (.int (-2))))) [some w.enc,some (ay s),some (.ref h.length),some (ay (aM w n s (k + 2))),none] (h++[.lst ((aX w n s (k + 2)).map ay)])=.ok true (h++[.lst ((aX w n s (k + 2)).map ay)]):=by
    exact aI (aj rfl (aF rfl rfl (aH ZG) p) (by rw[BF ((L (k + 2)).trans (L k).symm),y3 (hm k (l ▸ Nat.lt_add_of_pos_right (Nat.succ_pos j)))];rfl))
   have E:((aX w n s (k + 2)).map ay).length < SZ:=by rw[ZA,iu];exact ZS (Nat.add_le_add_right (ZM (l ▸ Z1 k (j + 1)) hz) 2) (by decide)
   have tk:=mX W (bA W S F (k + 2)) (h++[.lst ((aX w n s (k + 3)).map ay)]);have o:sf [some w.enc,some (ay s),some (.ref h.length),some (ay (aM w n s (k + 2))),none] (h++[.lst ((aX w n s (k + 2)).map ay)])=.nx [some w.enc,some (ay s),some (.ref h.length),some (ay (aM w n s (k + 3))),none] (h++[.lst ((aX w n s (k + 3)).map ay)]):=by
    have u:jG (k8 (aa 2) (aa 3)) [some w.enc,some (ay s),some (.ref h.length),some (ay (aM w n s (k + 2))),none] (h++[.lst ((aX w n s (k + 2)).map ay)])=.nx [some w.enc,some (ay s),some (.ref h.length),some (ay (aM w n s (k + 2))),none] (h++[.lst ((aX w n s (k + 3)).map ay)]):=by
     rw[show aX w n s (k + 3)=aX w n s (k + 2)++[aM w n s (k + 2)] from si (k + 2),ZR];exact(jp (ki rfl ZG rfl ZG E)).trans (by rw[mi rfl];rfl)
    exact(pc u).trans (aD (ar (bV rfl rfl) tk))
   rw[dP,c];simp only[o];exact ih (k + 1) (by rw[WD];exact l)
 have v:=uM (g t 0 (wF t)) (by simp);have H:=mX W F h;have y:=mX W (bA W S F 1) (h++[.lst ((aX w n s 2).map ay)]);have G : [ay s,ay (cO w n s)] = (aX w n s 2).map ay:=by simp[aX,XZ,aM]
 have x:atI ((aX w n s 2).map ay) 1=some (ay (aM w n s 1)):=E1 (w:=w) (n:=n) (s:=s) (m:=2) (i:=1) (by decide);have e:atI ((aX w n s (t + 2)).map ay) (-1)=some (ay (aM w n s (t + 1))):=fF (t + 1) 1 (by decide);have f:atI ((aX w n s (t + 2)).map ay) (-2)=some (ay (aM w n s t)):=fF t 2 (by decide);have C:(aX w n s (t + 2)).length=t + 2:=iu _;have d:=BG (a:=aM w n s (t + 1)) (b:=aM w n s t) ((L (t + 1)).trans (L t).symm) (h++[.lst ((aX w n s (t + 2)).map ay)]);simp only[aM]at y;simp only[aM]at x;have r:aM w n s (0 + 2)=cO w n (cO w n s):=rfl;rw[r,show 0 + 2=2 from rfl]at v;have B:aQ (gN 2) (aG (ab (aa 1) (ab (au eU (ab (aa 0) (ab (aa 1) ao))) ao))) [some w.enc,some (ay s),none,none,none] h
   = .nx [some w.enc,some (ay s),some (.ref h.length),none,none] (h++[.lst ((aX w n s 2).map ay)]):=by
  rw[<-G];exact aD (bn (ak rfl (ak (ar (bV rfl rfl) H) rfl)))
 have I:aQ (gN 3) (au eU (ab (aa 0) (ab (fAt (aa 2) (fC (.int 1))) ao))) [some w.enc,some (ay s),some (.ref h.length),none,none] (h++[.lst ((aX w n s 2).map ay)])
   = .nx [some w.enc,some (ay s),some (.ref h.length),some (ay (cO w n (cO w n s))),none] (h++[.lst ((aX w n s 2).map ay)]):=by
  exact aD (ar (ak rfl (ak (aF rfl rfl (aH ZG) x) rfl)) y)
 have A:aQ (gN 4) (fIf (tE (ag oEq (fAt (aa 2) (fC (.int (-1)))) (fAt (aa 2) (fC (.int (-2)))))) (fC (.str [114,101,115,116])) (fC (.str [112,97,105,114]))) [some w.enc,some (ay s),some (.ref h.length),some (ay (aM w n s (t + 2))),none] (h++[.lst ((aX w n s (t + 2)).map ay)])
   = .nx [some w.enc,some (ay s),some (.ref h.length),some (ay (aM w n s (t + 2))),some (.str (if aM w n s (t + 1)=aM w n s t then [114,101,115,116] else [112,97,105,114]))] (h++[.lst ((aX w n s (t + 2)).map ay)]):=by
  by_cases q:aM w n s (t + 1)=aM w n s t
  ·rw[z4 q];rw[yQ q]at d
   exact aD ((sd (aI (aj (aF rfl rfl (aH ZG) e) (aF rfl rfl (aH ZG) f) d))).trans rfl)
  ·rw[z5 q];rw[y3 q]at d
   exact aD ((vW (aI (aj (aF rfl rfl (aH ZG) e) (aF rfl rfl (aH ZG) f) d))).trans rfl)
 have D:jG (au eK (ab (aa 0) (ab (aa 1) ao))) [some w.enc,some (ay s),none,none,none] h=.nx [some w.enc,some (ay s),none,none,none] h:=jp (ar (bV rfl rfl) (EY W F h));have st:([w.enc,ay s].map some++List.replicate (5 - [w.enc,ay s].length) none:Sd)=[some w.enc,some (ay s),none,none,none]:=rfl;unfold mx bS runB;rw[z4 (show [w.enc,ay s].length=2 from rfl),st,pc D,pc B,pc I,pc v,pc A];have z:((t:Int) + 2) - 2=t:=by omega
 simp[C,SZ,z,letGo,pure?,fg]
def c8:Fn:=bS 1 1 (aZ (aG (lOf (fAt (aa 0) (fC (.int 2))))))
theorem uW (l:List Int):pure? (ay l)=true:=by
 unfold ay;simp only[pure?]
 induction l with
 | nil=>rfl
 | cons x l ih=>simp[fg,pure?,ih]
section
variable {w:Web} {n:Nat} {s:List Int}
end
section
variable {w:Web} {n:Nat} {s:List Int}
end
section
variable {w:Web} {n:Nat} {a b:List Int}
end
def bO:Fn:=bS 2 2 (ax (sIf (tE (ag oLt (aa 1) (cB (lOf (aa 0))))) (aZ (fAt (aa 0) (aa 1))) br)
  (aZ (ag ei (ag cI (ag cI (fC (.int 71)) (aa 1)) (aa 1)) (ag cI (fC (.int 7)) (aa 1)))))
abbrev sr:SF:=(sIf (tE (ag oEq (ag dk (aa 1) (fC (.int 2))) (fC (.int 1)))) (ax (aQ (gN 5) (ag dk (ag ei (ag ei (ag ei (ag cI (aa 5) (aa 5)) (ag cI (fC (.int 69621)) (aa 5))) (ag cI (fC (.int 11)) (aa 6))) (fC (.int 5))) (fC (.int 2147483549))))
  (jG (k8 (aa 4) (ag dk (ag k7 (aa 5) (fC (.int 7))) (aa 3))))) (ax (jG (k8 (aa 4) (ag dk (aa 5) (aa 3))))
  (aQ (gN 5) (ag k7 (aa 5) (aa 3)))))
def dW:Fn:=bS 4 7 (ax (aQ (gN 4) (aG ao))
  (ax (aQ (gN 5) (aa 0))
  (ax (sIf (tE (ag oEq (ag dk (aa 1) (fC (.int 2))) (fC (.int 1)))) (aQ (gN 5) (ag dk (ag cI (ag dk (aa 0) (fC (.int 2147483629))) (fC (.int 48271))) (fC (.int 2147483647)))) br)
  (ax (fN (bK (aa 2)) (gN 6) sr)
  (aZ (aa 4))))))
abbrev iM:SF:=(nH (aa 9) (aa 6) (fIx (ab (ag fL (fAt (aa 10) (aa 6)) (fC (.int 1000))) (ab (ag fL (ag ei (fAt (aa 9) (aa 6)) (ag dk (fAt (aa 10) (aa 6)) (fC (.int 7)))) (fC (.int 3))) ao)) (ag dk (ag k7 (aa 2) (fC (.int 256))) (fC (.int 2)))))
abbrev nc:SF:=(ax (aQ (gN 8) (zA (fC (.int 0)) (ag fL (fAt (aa 5) (ag ei (ag cI (aa 6) (aa 3)) (aa 7))) (fC (.int 402)))))
  (ax (sIf (tE (ag oEq (ag dk (ag k7 (aa 2) (fC (.int 64))) (fC (.int 2))) (fC (.int 1)))) (aQ (gN 8) (fIx (ab (fC (.int 0)) (ab (fC (.int 0)) (ab (fC (.int 1)) (ab (fC (.int 1)) (ab (fC (.int 2)) (ab (fC (.int 3)) (ab (fC (.int 1)) ao))))))) (ag dk (fAt (aa 5) (ag ei (ag cI (aa 6) (aa 3)) (aa 7))) (fC (.int 7))))) br)
  (ax (nH (fAt (aa 4) (aa 6)) (aa 7) (aa 8))
  (nH (fAt (aa 4) (aa 7)) (aa 6) (aa 8)))))
abbrev ko:SF:=(fN (bK (aa 6)) (gN 7) nc)
def jQ:Fn:=bS 2 12 (ax (aQ (gN 2) (au bO (ab (aa 0) (ab (fC (.int 0)) ao))))
  (ax (aQ (gN 3) (ag ei (fC (.int 1)) (ag dk (ag k7 (aa 2) (fC (.int 2))) (aa 1))))
  (ax (aQ (gN 4) (aG (bL 1 [3] (bK (aa 3)) (gN 0) [] (aG (rn (ab (fC (.int 0)) ao) (aa 1))))))
  (ax (aQ (gN 5) (au dW (ab (au bO (ab (aa 0) (ab (fC (.int 1)) ao))) (ab (aa 2) (ab (ag cI (aa 3) (aa 3)) (ab (fC (.int 803)) ao))))))
  (ax (fN (bK (aa 3)) (gN 6) ko)
  (ax (aQ (gN 9) (aG (bL 1 [] (d7 (aa 4)) (gN 0) [] (qR (lOf (aa 0))))))
  (ax (sIf (tE (ag oEq (ag dk (ag k7 (aa 2) (fC (.int 128))) (fC (.int 2))) (fC (.int 1)))) (ax (aQ (gN 10) (au dW (ab (au bO (ab (aa 0) (ab (fC (.int 2)) ao))) (ab (aa 2) (ab (aa 3) (ab (fC (.int 2001)) ao))))))
  (fN (bK (aa 3)) (gN 6) iM)) br)
  (ax (aQ (gN 11) (aG (rn (ab (fC .non) ao) (aa 3))))
  (ax (sIf (tE (ag oEq (ag dk (ag k7 (aa 2) (fC (.int 512))) (fC (.int 2))) (fC (.int 1)))) (ax (aQ (gN 5) (au dW (ab (au bO (ab (aa 0) (ab (fC (.int 3)) ao))) (ab (aa 2) (ab (aa 3) (ab (fC (.int 7)) ao))))))
  (aQ (gN 11) (aG (bL 1 [] (d7 (aa 5)) (gN 0) [] (fIx (ab (fC (.int 0)) (ab (fC (.int 1)) (ab (fC .non) (ab (fC .non) (ab (fC .non) (ab (fC .non) (ab (fC .non) ao))))))) (aa 0)))))) br)
  (aZ (j0 (ab (aa 4) (ab (aa 9) (ab (aa 11) ao))))))))))))))
abbrev sw:SF:=(sIf (tE (ag oGt (fAt (fAt (fAt (aa 0) (fC (.int 0))) (aa 2)) (aa 3)) (fC (.int 0)))) (jG (k8 (aa 1) (j0 (ab (aa 3) (ab (aa 2) (ab (fAt (fAt (fAt (aa 0) (fC (.int 0))) (aa 2)) (aa 3)) ao)))))) br)
abbrev ng:SF:=(fN (bK (aa 2)) (gN 3) sw)
def f6:Fn:=bS 1 4 (ax (aQ (gN 1) (aG ao))
  (ax (fN (bK (cB (lOf (fAt (aa 0) (fC (.int 1)))))) (gN 2) ng)
  (aZ (aa 1))))
abbrev pf:SF:=(ax (aQ (gN 7) (ag cI (fC (.int 2)) (qR (bL 1 [1,2,6] (bK (cB (lOf (aa 3)))) (gN 0) [] (ag cI (fAt (fAt (aa 2) (aa 3)) (aa 0)) (fAt (aa 1) (aa 0)))))))
  (ax (aQ (gN 8) (fAt (aa 1) (aa 6)))
  (ax (sIf (tE (ag oGt (aa 7) (fAt (aa 3) (aa 6)))) (aQ (gN 8) (fC (.int 1))) br)
  (ax (sIf (tE (ag oLt (aa 7) (fAt (aa 3) (aa 6)))) (aQ (gN 8) (fC (.int 0))) br)
  (ax (sIf (tE (ag iY (fAt (aa 4) (aa 6)) (fC .non))) (aQ (gN 8) (fAt (aa 4) (aa 6))) br)
  (jG (k8 (aa 5) (aa 8))))))))
def fG:Fn:=bS 2 9 (ax (aQ (gT [2,3,4]) (aa 0))
  (ax (aQ (gN 5) (aG ao))
  (ax (fN (bK (cB (lOf (aa 3)))) (gN 6) pf)
  (aZ (gJ (lOf (aa 5)))))))
abbrev kq:SF:=(ax (jG (k8 (aa 2) (fAt (aa 1) (aa 3))))
  (sIf (tE (ag iY (fAt (fAt (aa 0) (fC (.int 2))) (aa 3)) (fC .non))) (nH (aa 2) (aa 3) (fAt (fAt (aa 0) (fC (.int 2))) (aa 3))) br))
def gP:Fn:=bS 2 4 (ax (aQ (gN 2) (aG ao))
  (ax (fN (bK (cB (lOf (aa 1)))) (gN 3) kq)
  (aZ (gJ (lOf (aa 2))))))
def lO:Fn:=bS 1 1 (aZ (au jN (ab (cB (lOf (fAt (aa 0) (fC (.int 1))))) (ab (au f6 (ab (aa 0) ao)) (ab (aG (lOf (fAt (aa 0) (fC (.int 1))))) (ab (aG (lOf (fAt (aa 0) (fC (.int 2))))) ao))))))
def iy:Fn:=bS 1 1 (aZ (aG (lG 2 [] (au c8 (ab (aa 0) ao)) (gT [0,1]) [(tE (ag mD (aa 1) (fC .non)))] (aa 0))))
def jb:Fn:=bS 2 2 (aZ (au bI (ab (aa 1) (ab (fC (.int 0)) (ab (ag fL (au cE (ab (aa 0) ao)) (fC (.int 1))) ao)))))
def bj:Fn:=bS 2 2 (aZ (fT (jF (tE (au jb (ab (aa 0) (ab (aa 1) ao)))) (tE (ag oNe (au dY (ab (aa 0) (ab (aa 1) ao))) (fC (.int 0)))))))
def cU:Fn:=bS 2 2 (ax (sIf (cZ (tE (eT .list (aa 1)))) (aZ (fC (.bl false))) br)
  (ax (sIf (cZ (tE (xg (bL 1 [0] (d7 (aa 1)) (gN 0) [] (au bj (ab (aa 1) (ab (aa 0) ao))))))) (aZ (fC (.bl false))) br)
  (aZ (xg (bL 1 [1] (bK (ag fL (cB (lOf (aa 1))) (fC (.int 1)))) (gN 0) [] (ag oLt (fAt (aa 1) (aa 0)) (fAt (aa 1) (ag ei (aa 0) (fC (.int 1))))))))))
def oj:Fn:=bS 2 2 (ax (sIf (cZ (tE (au cU (ab (aa 0) (ab (aa 1) ao))))) nG br)
  (aZ (gJ (lG 2 [1] (au c8 (ab (aa 0) ao)) (gT [0,1]) [] (fIf (tOr (tE (ag oIn (aa 0) (aa 2))) (tE (ag oEq (aa 1) (fC (.int 1))))) (fC (.int 1)) (fC (.int 0)))))))
def jc:Fn:=bS 2 5 (ax (aQ (gN 2) (au mx (ab (aa 0) (ab (au oj (ab (aa 0) (ab (aa 1) ao))) ao))))
  (ax (aQ (gN 3) (fAt (aa 2) (fC (.int 1))))
  (ax (aQ (gN 4) (fAt (aa 2) (fC (.int 2))))
  (ax (sIf (tE (ag oEq (aa 3) (fC (.str [112,97,105,114])))) (aZ (j0 (ab (fC (.str [110,111,116])) (ab (j5 (aa 4) (pAt (fC (.int (-2)))) pNo) ao)))) br)
  (ax (sIf (tE (ag oIn (fC (.int 0)) (fAt (aa 4) (fC (.int (-1)))))) (aZ (j0 (ab (fC (.str [110,111,116])) (ab (j5 (aa 4) (pAt (fC (.int (-1)))) pNo) ao)))) br)
  (aZ (j0 (ab (fC (.str [116,117,114,110])) (ab (j5 (aa 4) pNo (pAt (fC (.int (-1))))) ao)))))))))
abbrev qe:SF:=(aQ (gN 1) (aG (dJ (aa 1) (aG (bL 1 [2] (d7 (aa 1)) (gN 0) [] (aG (dJ (aa 0) (aG (ab (aa 1) ao)))))))))
def iN:Fn:=bS 1 3 (ax (aQ (gN 1) (aG (ab (aG ao) ao)))
  (ax (fN (d7 (aa 0)) (gN 2) qe)
  (aZ (aG (lH (aa 1))))))
def cQ:Fn:=bS 3 4 (ax (aQ (gN 3) (gJ (lOf (aa 1))))
  (ax (sIf (tE (ag nQ (aa 3) (aa 2))) (Bo (aa 2) (aa 3) (ag oEq (fAt (au jc (ab (aa 0) (ab (aa 1) ao))) (fC (.int 0))) (fC (.str [116,117,114,110])))) br)
  (aZ (Eu (aa 2) (aa 3)))))
abbrev jd:SF:=(ax (sIf (tE (ag oIn (aa 5) (aa 3))) Ja br)
  (ax (aQ (gN 6) (aG (jn (dJ (aa 3) (aG (ab (aa 5) ao))))))
  (sIf (tE (au cQ (ab (aa 0) (ab (aa 6) (ab (aa 2) ao))))) (jG (k8 (aa 4) (aa 5))) (aQ (gN 3) (aa 6)))))
def kr:Fn:=bS 3 7 (ax (aQ (gN 3) (aa 1))
  (ax (aQ (gN 4) (aG ao))
  (ax (fN (d7 (au iy (ab (aa 0) ao))) (gN 5) jd)
  (aZ (aa 4)))))
def cu:Nat->Fn
 | 0=>λ_ _=>.bad
 | j + 1=>bS 4 6 (ax (sIf (tE (ag oEq (aa 1) (fC (.int 0)))) (aZ (j0 (ab (fC (.str [108,101,97,102])) ao))) br)
  (ax (aQ (gN 4) (au kr (ab (aa 0) (ab (aa 2) (ab (aa 3) ao)))))
  (ax (aQ (gN 5) (aG (bL 1 [0,3,1,2] (d7 (aa 4)) (gN 0) [] (au (cu j) (ab (aa 1) (ab (ag fL (aa 3) (fC (.int 1))) (ab (aG (dJ (aa 4) (aG (ab (aa 0) ao)))) (ab (aa 2) ao))))))))
  (aZ (j0 (ab (fC (.str [112,97,114,116])) (ab (aa 4) (ab (aa 5) ao))))))))
abbrev f7:SF:=(sIf (tE (au cQ (ab (aa 0) (ab (aa 3) (ab (aa 2) ao))))) (ax (aQ (gN 4) (fIf (tE (ag oEq (aa 3) (aG ao))) (fC .non) (au (cu 7) (ab (aa 0) (ab (ag fL (cB (lOf (aa 3))) (fC (.int 1))) (ab (aG ao) (ab (aa 2) ao)))))))
  (aZ (j0 (ab (aa 3) (ab (aa 4) ao))))) br)
def iO:Fn:=bS 1 5 (ax (aQ (gN 1) (au iy (ab (aa 0) ao)))
  (ax (sIf (tE (ag oGt (cB (lOf (aa 1))) (fC (.int 9)))) nG br)
  (ax (aQ (gN 2) rE)
  (ax (fN (d7 (au iN (ab (aa 1) ao))) (gN 3) f7)
  (aZ (fC .non))))))
def eR:Fn:=bS 5 6 (ax (sIf (tOr (cZ (tE (au cU (ab (aa 0) (ab (aa 1) ao))))) (tE (ag oNe (cB (lOf (aa 2))) (cB (lOf (aa 1)))))) (aZ (fC (.bl false))) br)
  (ax (sIf (tE (GX (bL 1 [3] (d7 (aa 1)) (gN 0) [] (ag oIn (aa 0) (aa 1))))) (aZ (fC (.bl false))) br)
  (ax (aQ (gN 5) (aG (bL 1 [0,1] (bK (au cE (ab (aa 0) ao))) (gN 0) [(jF (tE (au bj (ab (aa 1) (ab (aa 0) ao)))) (tE (ag bY (aa 0) (aa 2))))] (aa 0))))
  (aZ (fT (cZ (tE (au cQ (ab (aa 0) (ab (aa 5) (ab (aa 4) ao)))))))))))
abbrev iP (G:Fn):SF:=(sIf (cZ (tE (au G (ab (aa 0) (ab (ag fL (aa 1) (fC (.int 1))) (ab (aa 6) (ab (aG (jn (dJ (aa 3) (aG (ab (aa 5) ao))))) (ab (aa 4) ao)))))))) (aZ (fC (.bl false))) br)
def bP:Nat->Fn
 | 0=>λ_ _=>.bad
 | j + 1=>bS 5 7 (ax (sIf (tE (ag oEq (aa 1) (fC (.int 0)))) (aZ (fT (jF (tE (ag oEq (aa 2) (j0 (ab (fC (.str [108,101,97,102])) ao)))) (cZ (tE (au cQ (ab (aa 0) (ab (aa 3) (ab (aa 4) ao))))))))) br)
  (ax (sIf (tOr (tE (ag oNe (fAt (aa 2) (fC (.int 0))) (fC (.str [112,97,114,116])))) (cZ (tE (au eR (ab (aa 0) (ab (fAt (aa 2) (fC (.int 1))) (ab (fAt (aa 2) (fC (.int 2))) (ab (aa 3) (ab (aa 4) ao))))))))) (aZ (fC (.bl false))) br)
  (ax (rW (fAt (aa 2) (fC (.int 1))) (fAt (aa 2) (fC (.int 2))) (gT [5,6]) (iP (bP j)))
  (aZ (fC (.bl true))))))
def fH:Fn:=bS 3 3 (aZ (au (bP 7) (ab (aa 0) (ab (aa 1) (ab (aa 2) (ab (aG ao) (ab rE ao)))))))
abbrev kt:SF:=(ax (aQ (gN 3) (au fG (ab (aa 0) (ab (fAt (aa 2) (fC (.int (-1)))) ao))))
  (ax (sIf (tE (ag oEq (aa 3) (fAt (aa 2) (fC (.int (-2)))))) (aZ (aa 2)) br)
  (jG (k8 (aa 2) (aa 3)))))
def mz:Fn:=bS 2 4 (ax (aQ (gN 2) (aG (ab (aa 1) (ab (au fG (ab (aa 0) (ab (aa 1) ao))) ao))))
  (oO (tE (fC (.bl true))) kt))
def cj:Fn:=bS 1 1 (aZ (aG (bL 1 [0] (bK (cB (lOf (fAt (aa 0) (fC (.int 1)))))) (gN 0) [(tE (ag oNe (fAt (fAt (aa 1) (fC (.int 2))) (aa 0)) (fC (.int 0))))] (aa 0))))
def bX:Fn:=bS 2 4 (ax (aQ (gN 2) (au gP (ab (aa 0) (ab (aG (bL 1 [1] (bK (cB (lOf (fAt (aa 0) (fC (.int 1)))))) (gN 0) [] (zq (ag oIn (aa 0) (aa 1))))) ao))))
  (ax (aQ (gN 3) (au mz (ab (aa 0) (ab (aa 2) ao))))
  (aZ (fT (jF (tE (ag bY (fC (.int 0)) (fAt (aa 3) (fC (.int (-1)))))) (tE (ag bY (fC (.int 0)) (fAt (aa 3) (fC (.int (-2)))))))))))
abbrev nh (G:Fn):SF:=(sIf (cZ (tE (au G (ab (aa 0) (ab (ag fL (aa 1) (fC (.int 1))) (ab (aa 6) (ab (aG (dJ (aa 3) (aG (ab (aa 5) ao)))) ao))))))) (aZ (fC (.bl false))) br)
def cS:Nat->Fn
 | 0=>λ_ _=>.bad
 | j + 1=>bS 4 7 (ax (sIf (tE (ag oEq (fAt (aa 2) (fC (.int 0))) (fC (.str [108,101,97,102])))) (aZ (fT (jF (tE (ag oEq (aa 1) (fC (.int 0)))) (cZ (tE (au bX (ab (aa 0) (ab (aa 3) ao)))))))) br)
  (ax (sIf (tE (ag oEq (aa 1) (fC (.int 0)))) (aZ (fC (.bl false))) br)
  (ax (aQ (gN 4) (au cj (ab (aa 0) ao)))
  (ax (sIf (tOr (tE (ag oNe (aG (bL 1 [3,4] (d7 (fAt (aa 2) (fC (.int 1)))) (gN 0) [(tOr (tE (ag oIn (aa 0) (aa 1))) (tE (ag bY (aa 0) (aa 2))))] (aa 0))) (aG ao))) (tE (ag oNe (fAt (aa 2) (fC (.int 1))) (aG (gE (fAt (aa 2) (fC (.int 1)))))))) (aZ (fC (.bl false))) br)
  (ax (sIf (tOr (tE (au bX (ab (aa 0) (ab (aG (bL 1 [2] (d7 (aa 4)) (gN 0) [(tE (ag bY (aa 0) (fAt (aa 1) (fC (.int 1)))))] (aa 0))) ao)))) (tE (ag oNe (cB (lOf (fAt (aa 2) (fC (.int 1))))) (cB (lOf (fAt (aa 2) (fC (.int 2)))))))) (aZ (fC (.bl false))) br)
  (ax (rW (fAt (aa 2) (fC (.int 1))) (fAt (aa 2) (fC (.int 2))) (gT [5,6]) (nh (cS j)))
  (aZ (fC (.bl true)))))))))
abbrev iQ (G:Fn):SF:=(sIf (tOr (cZ (tE (au bX (ab (aa 0) (ab (aG (dJ (aa 2) (aG (ab (aa 3) ao)))) ao))))) (cZ (tE (au G (ab (aa 0) (ab (aa 4) ao)))))) (aZ (fC (.bl false))) br)
def bE:Nat->Fn
 | 0=>λ_ _=>.bad
 | j + 1=>bS 2 5 (ax (sIf (tE (ag oEq (fAt (aa 1) (fC (.int 0))) (fC (.str [108,101,97,102])))) (aZ (fC (.bl true))) br)
  (ax (aQ (gN 2) (aG (bL 1 [1] (d7 (au cj (ab (aa 0) ao))) (gN 0) [(tE (ag bY (aa 0) (fAt (aa 1) (fC (.int 1)))))] (aa 0))))
  (ax (rW (fAt (aa 1) (fC (.int 1))) (fAt (aa 1) (fC (.int 2))) (gT [3,4]) (iQ (bE j)))
  (aZ (fC (.bl true))))))
def iz:Fn:=bS 3 6 (ax (sIf (tE (ag mD (aa 2) (fC .non))) (aZ (fT (cZ (tE (au bX (ab (aa 0) (ab (au cj (ab (aa 0) ao)) ao))))))) br)
  (ax (sIf (tOr (cZ (tE (eT .tuple (aa 2)))) (tOr (tE (ag oNe (cB (lOf (aa 2))) (fC (.int 2)))) (cZ (tE (eT .list (fAt (aa 2) (fC (.int 0)))))))) (aZ (fC (.bl false))) br)
  (ax (aQ (gT [3,4]) (aa 2))
  (ax (aQ (gN 5) (au cj (ab (aa 0) ao)))
  (ax (sIf (tOr (tE (ag oNe (aG (bL 1 [5] (d7 (aa 3)) (gN 0) [(tOr (tE (ag bY (aa 0) (aa 1))) (tE (eT .bool (aa 0))))] (aa 0))) (aG ao))) (tE (ag oNe (aa 3) (aG (gE (aa 3)))))) (aZ (fC (.bl false))) br)
  (ax (sIf (cZ (tE (au bX (ab (aa 0) (ab (aa 3) ao))))) (aZ (fC (.bl false))) br)
  (ax (sIf (tE (ag oEq (aa 3) (aG ao))) (aZ (ag mD (aa 4) (fC .non))) br)
  (ax (sIf (tOr (cZ (tE (au (cS 7) (ab (aa 0) (ab (ag fL (cB (lOf (aa 3))) (fC (.int 1))) (ab (aa 4) (ab (aG ao) ao))))))) (cZ (tE (au (bE 7) (ab (aa 0) (ab (aa 4) ao)))))) (aZ (fC (.bl false))) br)
  (aZ (ag GW (au fH (ab (aa 1) (ab (ag fL (cB (lOf (aa 3))) (fC (.int 1))) (ab (aa 4) ao)))) (fC (.bl true))))))))))))
abbrev E9:SF:=(aQ (gN 1) (au jQ (ab (aa 0) (ab (fC (.int 6)) ao))))
abbrev Fc:SF:=(aQ (gN 2) (au lO (ab (aa 1) ao)))
abbrev Fd:SF:=(aQ (gN 3) (yb (aa 2)))
abbrev Ae:SF:=(aQ (gN 4) (au iO (ab (aa 2) ao)))
abbrev Af:SF:=(sIf (tOr (cZ (tE (au iz (ab (aa 1) (ab (aa 2) (ab (aa 4) ao)))))) (tE (ag oNe (yb (aa 2)) (aa 3)))) (aZ (fC (.bl false))) br)
abbrev Ag:SF:=(sIf (tE (ag mD (aa 4) (fC .non))) (aZ (ag mD (au iO (ab (aa 2) ao)) (fC .non))) br)
abbrev Fe:SF:=(aQ (gN 5) (cB (lOf (fAt (aa 4) (fC (.int 0))))))
abbrev Fg:SF:=(jG (k8 (fAt (aa 4) (fC (.int 0))) (fC (.int (-1)))))
abbrev Fh:SF:=(aZ (ag oEq (cB (lOf (fAt (au iO (ab (aa 2) ao)) (fC (.int 0))))) (aa 5)))
def BH:Fn:=bS 1 6 (ax E9 (ax Fc (ax Fd (ax Ae (ax Af (ax Ag (ax Fe (ax Fg Fh))))))))
end Fm
set_option maxHeartbeats 4000000
namespace Fm
open PySem PySem.Spec L2
section
abbrev c9 (i : Nat) : Stmt := PySem.Challenge.pw_followmost_k37_whole_the_fewest_walked.main.body.getD i (.Pass ⟨0, 0, 0, 0⟩)
abbrev ni:Stmt:=c9 7
abbrev ku:Stmt:=c9 8
abbrev kw:Stmt:=c9 9
abbrev sy:Stmt:=c9 22
abbrev ky:Stmt:=c9 21
abbrev lP:Stmt:=c9 23
abbrev kA:Stmt:=c9 24
abbrev sA:Stmt:=c9 13
abbrev ph:Stmt:=c9 14
abbrev pi:Stmt:=c9 15
abbrev sB:Stmt:=c9 16
abbrev pj:Stmt:=c9 17
abbrev nj:Stmt:=c9 18
abbrev pv:Stmt:=c9 19
abbrev lQ:Stmt:=c9 20
abbrev Ah:Stmt:=c9 26
abbrev ju:Stmt:=c9 27
abbrev px:Stmt:=c9 28
abbrev pz:Stmt:=c9 29
abbrev pA:Stmt:=c9 30
abbrev v5:Stmt:=c9 32
abbrev gZ:Stmt:=c9 37
abbrev g0:Stmt:=c9 36
abbrev v6:Stmt:=c9 34
abbrev lR:Stmt:=c9 35
abbrev nn:Stmt:=c9 42
abbrev pB:Stmt:=c9 43
abbrev nr:Stmt:=c9 45
abbrev kB:Stmt:=c9 44
abbrev sC:Stmt:=c9 40
abbrev g6:Stmt:=c9 47
abbrev jv:Stmt:=c9 46
abbrev kC:Stmt:=c9 41
abbrev lS:Stmt:=c9 49
abbrev nt:Stmt:=c9 50
abbrev kD:Stmt:=c9 51
abbrev kE:Stmt:=c9 52
abbrev lT:Stmt:=c9 53
abbrev iR:Stmt:=c9 54
abbrev lU:Stmt:=c9 55
abbrev kF:Stmt:=c9 56
abbrev gc:Stmt:=c9 57
abbrev ge:Stmt:=c9 58
abbrev kG:Stmt:=c9 59
abbrev gh:Stmt:=c9 60
abbrev kH:Stmt:=c9 61
abbrev sD:Stmt:=c9 62
variable {P:T6} {w:T7} {K:ZX} {mg:Str->Option T0} {base:Heap} {f:Addr} {fd:FuncData}
theorem om {ps:List Str}{k np:Nat}:bW P w K mg base CX0 k f fd ps (spF K (λ_ _=>.bad) np) :=
 ⟨λc H Q E ⟨_,_,_,_,_,_,p⟩=>p.elim,λA a s H b g c Q E h e d r ⟨_,_,_,_,_,_,p⟩=>p.elim⟩
theorem kU:∀j ds h d a,cu j ds h=.ok d a->ds.length=4
 | 0=>λ_ _ _ _ e=>nomatch e
 | j + 1=>eA
theorem jR:∀j ds h d a,bP j ds h=.ok d a->ds.length=5
 | 0=>λ_ _ _ _ e=>nomatch e
 | j + 1=>eA
theorem oo:∀j ds h d a,cS j ds h=.ok d a->ds.length=4
 | 0=>λ_ _ _ _ e=>nomatch e
 | j + 1=>eA
theorem jS:∀j ds h d a,bE j ds h=.ok d a->ds.length=2
 | 0=>λ_ _ _ _ e=>nomatch e
 | j + 1=>eA
theorem yr:aP ["thing"] ["thing"] (aw ni):=fsc
theorem yt (F:Fun K "is_whole" "is_whole" ni f fd) (a:mg "isinstance" = none) (b:mg "bool" = none) (d:mg "int" = none):bW P w K mg base CX0 1 f fd ["thing"] (spF K dU 1):=bN F yr λ_ _ _ _ _ _ c=>have e:=c5 c;(ah (aB (MB.me (mO (fR (fu (t:=.int) rfl a rfl d (by decide +kernel) (mv 0))) (ly (qV (fR (fu (t:=.bool) rfl a rfl b (by decide +kernel) (mv 0)))))))))
theorem tL:aP ["thing", "least", "most"] ["thing", "least", "most"] (aw ku):=fsc
theorem tM (F:Fun K "is_between" "is_between" ku f fd) (b:Def P w K mg base "is_whole" 1 1 dU):bW P w K mg base CX0 2 f fd ["thing", "least", "most"] (spF K bI 3):=bN F tL λ_ _ _ _ _ _ a=>have c:=c5 a;(ah (aB (MB.me (mO (fR (av b a (ae (mv 0) aq))) (ly (fR (DZ HP HP vw vw (mv 1) (mv 0) (mv 2))))))))
theorem tO:aP ["thing"] ["thing"] (aw kw):=fsc
theorem tP (F:Fun K "is_opinion" "is_opinion" kw f fd) (b:Def P w K mg base "is_between" 2 3 bI):bW P w K mg base CX0 3 f fd ["thing"] (spF K cJ 1):=bN F tO λ_ _ _ _ _ _ a=>have c:=c5 a;(ah (aB (av b a (ae (mv 0) (ae am (ae am aq))))))
theorem pC:aP ["many", "thing", "one", "other"] ["many", "thing"] (aw sy):=fsc
theorem C4 (F:Fun K "is_tie" "is_tie" sy f fd) (e:mg "len" = none) (j:mg "isinstance" = none) (d:mg "tuple" = none) {g:Tok} (h:mg "MOST_WEIGHT" = some (.int 400 g)) (b:Def P w K mg base "is_between" 2 3 bI):bW P w K mg base CX0 3 f fd ["many", "thing"] (spF K og 2):=bN F pC λ_ _ _ _ _ _ a=>have c:=c5 a;(af (bo (MW.mt (fQ (cw (bM (fu (t:=.tuple) rfl j rfl d (by decide +kernel) (mv 1)))) (dQ (aU (d8 c) fS (cD rfl e (cH (mv 1))) am (aT _)) (.inr rfl)))) (ah (aB dz)) aE)
  (af (aV (i:=2) pC.nd rfl lc (aK (mv 1) am (λ_ _=>rfl)))
  (af (aV (i:=3) pC.nd rfl lc (aK (mv 1) am (λ_ _=>rfl)))
  (af (bo (MW.mt (fQ (cw (bM (av b a (ae (mv 2) (ae am (ae (bB eY nK (mv 0) am) aq)))))) (dQ (cw (bM (av b a (ae (mv 3) (ae am (ae (bB eY nK (mv 0) am) aq)))))) (.inr rfl)))) (ah (aB dz)) aE)
  (ah (aB (MB.me (mO (fR (eS (d8 c) fS (mv 2) (mv 3) (aT _))) (ly (fR (av b a (ae (aK (mv 1) am (λ_ _=>rfl)) (ae am (ae (qU rfl h) aq))))))))))))))
theorem eL:aP ["many", "ties", "near", "tie", "one", "other"] ["many", "ties"] (aw ky):=fsc
theorem tQ (F:Fun K "neighbours" "neighbours" ky f fd) (e:mg "range" = none) (g:mg "isinstance" = none) (d:mg "list" = none) (c:Def P w K mg base "is_tie" 3 2 og):bW P w K mg base CX0 4 f fd ["many", "ties"] (spF K ik 2):=bN F eL λ_ _ _ _ _ _ b=>have a:=c5 b;(af (bo (cw (bM (fu (t:=.list) rfl g rfl d (by decide +kernel) (mv 1)))) (ah gU) aE)
  (af (j7 (i:=2) eL.nd rfl lc (own:=["person"]) (capn:=[]) (caps:=[]) rfl (bH.a bp.nil) (cL rfl e (mv 0))
   (λh C s H ex=>⟨(aL (i:=0) (show ((["person"] : List Str)++([] : List Str)).Nodup by decide +kernel) rfl lc),dq,GH⟩))
  (af (fX ZZ rfl (d9 (mv 1)) (aL (i:=3) eL.nd rfl lc) (af (bo (cw (bM (av c b (ae (mv 0) (ae (mv 3) aq))))) (ah gU) aE)
  (af (aV (i:=4) eL.nd rfl lc (aK (mv 3) am (λ_ _=>rfl)))
  (af (aV (i:=5) eL.nd rfl lc (aK (mv 3) am (λ_ _=>rfl)))
  (af (bo (aU (Jv (ZS (Y1 (by decide) _) a)) Jw (mv 5) (aK (mv 2) (mv 4) (λ_ _=>rfl)) rfl) (ah gU) aE)
  (af (Bl (ZS (Y1 (by decide) _) a) (aK (mv 3) am (λ_ _=>rfl)) (aK (mv 2) (mv 4) (λ_ _=>rfl)) (mv 5))
  (ah (Bl (ZS (Y1 (by decide) _) a) (aK (mv 3) am (λ_ _=>rfl)) (aK (mv 2) (mv 5) (λ_ _=>rfl)) (mv 4)))))))))
  (ah (aB (mv 2))))))
theorem v7:aP ["near", "bars"] ["near", "bars"] (aw lP):=fsc
theorem wa (F:Fun K "bars_told" "bars_told" lP f fd) (c:mg "tuple" = none) (d:mg "all" = none) (a:mg "len" = none) (j:mg "isinstance" = none) (g:mg "list" = none) (e:Def P w K mg base "is_whole" 1 1 dU):bW P w K mg base CX0 2 f fd ["near", "bars"] (spF K i9 2):=bN F v7 λ_ _ _ _ _ _ b=>have h:=c5 b;(af (bo (aU lh lx (mv 1) dy (aT _)) (ah gU) aE)
  (af (bo (MW.mt (fQ (cw (bM (fu (t:=.list) rfl j rfl g (by decide +kernel) (mv 1)))) (dQ (aU (d8 h) fS (cD rfl a (cH (mv 1))) (cD rfl a (cH (mv 0))) (aT _)) (.inr rfl)))) (ah gU) aE)
  (af (bo (cw (bM (vJ rfl rfl d (fm (dC (own:=["bar"]) (capn:=[]) (caps:=[]) rfl (bH.a bp.nil) (d9 (mv 1))
   (λk C s H ex=>⟨(aL (i:=0) (show ((["bar"] : List Str)++([] : List Str)).Nodup by decide +kernel) rfl lc),dq,(av e b (ae (mv 0) aq))⟩)))))) (ah gU) aE)
  (ah (aB (gB rfl c (cH (mv 1))))))))
theorem tR:aP ["many", "stays"] ["many", "stays"] (aw kA):=fsc
theorem tS (F:Fun K "stays_told" "stays_told" kA f fd) (a:mg "tuple" = none) (d:mg "all" = none) (c:mg "len" = none) (l:mg "isinstance" = none) (e:mg "list" = none) (k:mg "range" = none) (h:Def P w K mg base "is_opinion" 3 1 cJ):bW P w K mg base CX0 4 f fd ["many", "stays"] (spF K im 2):=bN F tR λ_ _ _ _ _ _ b=>have g:=c5 b;(af (bo (aU lh lx (mv 1) dy (aT _)) (ah (aB (gB rfl a (fm (dC (own:=["person"]) (capn:=[]) (caps:=[]) rfl (bH.a bp.nil) (cL rfl k (mv 0))
   (λj C s H ex=>⟨(aL (i:=0) (show ((["person"] : List Str)++([] : List Str)).Nodup by decide +kernel) rfl lc),dq,dy⟩)))))) aE)
  (af (bo (MW.mt (fQ (cw (bM (fu (t:=.list) rfl l rfl e (by decide +kernel) (mv 1)))) (dQ (aU (d8 g) fS (cD rfl c (cH (mv 1))) (mv 0) (aT _)) (.inr rfl)))) (ah gU) aE)
  (af (bo (cw (bM (vJ rfl rfl d (fm (dC (own:=["stay"]) (capn:=[]) (caps:=[]) rfl (bH.a bp.nil) (d9 (mv 1))
   (λj C s H ex=>⟨(aL (i:=0) (show ((["stay"] : List Str)++([] : List Str)).Nodup by decide +kernel) rfl lc),dq,(MB.me (KZ (fR (eS lh lx (mv 0) dy (aT _))) (ly (fR (av h b (ae (mv 0) aq))))))⟩)))))) (ah gU) aE)
  (ah (aB (gB rfl a (cH (mv 1))))))))
theorem pD:aP ["many", "ties", "bars", "stays", "near", "rows"] ["many", "ties", "bars", "stays"] (aw sA):=fsc
theorem C5 (F:Fun K "web_of" "web_of" sA f fd) (b:mg "tuple" = none) (j:mg "sorted" = none) {k:Tok} (c:mg "MOST_PEOPLE" = some (.int 30 k)) (d:Def P w K mg base "stays_told" 4 2 im) (h:Def P w K mg base "bars_told" 2 2 i9) (g:Def P w K mg base "neighbours" 4 2 ik) (e:Def P w K mg base "is_between" 2 3 bI):bW P w K mg base CX0 5 f fd ["many", "ties", "bars", "stays"] (spF K jN 4):=bN F pD λ_ _ _ _ _ _ a=>have l:=c5 a;(af (bo (cw (bM (av e a (ae (mv 0) (ae am (ae (qU rfl c) aq)))))) (ah gU) aE)
  (af (aV (i:=4) pD.nd rfl lc (av g a (ae (mv 0) (ae (mv 1) aq))))
  (af (aV (i:=5) pD.nd rfl lc (gB rfl b (fm (dC (own:=["row"]) (capn:=[]) (caps:=[]) rfl (bH.a bp.nil) (d9 (mv 4))
   (λm C s H ex=>⟨(aL (i:=0) (show ((["row"] : List Str)++([] : List Str)).Nodup by decide +kernel) rfl lc),dq,(gB rfl b (fm (Eo rfl rfl j (mv 0))))⟩)))))
  (ah (aB (iE (ae (mv 5) (ae (av h a (ae (mv 4) (ae (mv 2) aq))) (ae (av d a (ae (mv 0) (ae (mv 3) aq))) aq)))))))))
theorem Ai:aP ["web"] ["web"] (aw ph):=fsc
theorem Aj (F:Fun K "many_of" "many_of" ph f fd) (b:mg "len" = none):bW P w K mg base CX0 1 f fd ["web"] (spF K cE 1):=bN F Ai λ_ _ _ _ _ _ a=>have c:=c5 a;(ah (aB (cD rfl b (cH (aK (mv 0) am (λ_ _=>rfl))))))
theorem Ak:aP ["web", "person"] ["web", "person"] (aw pi):=fsc
theorem Al (F:Fun K "ties_of" "ties_of" pi f fd):bW P w K mg base CX0 1 f fd ["web", "person"] (spF K mj 2):=bN F Ak λ_ _ _ _ _ _ a=>have b:=c5 a;(ah (aB (aK (aK (mv 0) am (λ_ _=>rfl)) (mv 1) (λ_ _=>rfl))))
theorem C6:aP ["web", "person"] ["web", "person"] (aw sB):=fsc
theorem C7 (F:Fun K "bar_of" "bar_of" sB f fd):bW P w K mg base CX0 1 f fd ["web", "person"] (spF K nZ 2):=bN F C6 λ_ _ _ _ _ _ a=>have b:=c5 a;(ah (aB (aK (aK (mv 0) am (λ_ _=>rfl)) (mv 1) (λ_ _=>rfl))))
theorem Am:aP ["web", "person"] ["web", "person"] (aw pj):=fsc
theorem An (F:Fun K "stay_of" "stay_of" pj f fd):bW P w K mg base CX0 1 f fd ["web", "person"] (spF K dY 2):=bN F Am λ_ _ _ _ _ _ a=>have b:=c5 a;(ah (aB (aK (aK (mv 0) am (λ_ _=>rfl)) (mv 1) (λ_ _=>rfl))))
theorem yu:aP ["web"] ["web"] (aw nj):=fsc
theorem yv (F:Fun K "stays_of" "stays_of" nj f fd) (b:mg "list" = none):bW P w K mg base CX0 1 f fd ["web"] (spF K c8 1):=bN F yu λ_ _ _ _ _ _ a=>have c:=c5 a;(ah (aB (bu (vE rfl b (cH (aK (mv 0) am (λ_ _=>rfl)))))))
theorem Ao:aP ["web"] ["web"] (aw pv):=fsc
theorem Ap (F:Fun K "free_of" "free_of" pv f fd) (b:mg "enumerate" = none) (c:Def P w K mg base "stays_of" 1 1 c8):bW P w K mg base CX0 2 f fd ["web"] (spF K iy 1):=bN F Ao λ_ _ _ _ _ _ a=>have d:=c5 a;(ah (aB (bu (xE (own:=["person", "stay"]) (capn:=[]) (caps:=[]) rfl (bH.a bp.nil) (xD rfl b (av c a (ae (mv 0) aq)))
   (λe C s H ex=>⟨(j6 rfl (cm (aL (i:=0) (show ((["person", "stay"] : List Str)++([] : List Str)).Nodup by decide +kernel) rfl lc) (cm (aL (i:=1) (show ((["person", "stay"] : List Str)++([] : List Str)).Nodup by decide +kernel) rfl lc) hZ))),(i3 (aU lh lx (mv 1) dy (aT _))),(mv 0)⟩)))))
theorem wb:aP ["web", "thing"] ["web", "thing"] (aw lQ):=fsc
theorem wc (F:Fun K "is_person" "is_person" lQ f fd) (c:Def P w K mg base "is_between" 2 3 bI) (b:Def P w K mg base "many_of" 1 1 cE):bW P w K mg base CX0 3 f fd ["web", "thing"] (spF K jb 2):=bN F wb λ_ _ _ _ _ _ a=>have d:=c5 a;(ah (aB (av c a (ae (mv 1) (ae am (ae (bB eY nK (av b a (ae (mv 0) aq)) am) aq))))))
theorem qG:aP ["web", "thing", "person", "opinion", "stay"] ["web", "thing"] (aw Ah):=fsc
theorem Hh (F:Fun K "fits" "fits" Ah f fd) (j:mg "enumerate" = none) (d:mg "len" = none) (k:mg "isinstance" = none) (c:mg "tuple" = none) (g:Def P w K mg base "stay_of" 1 2 dY) (h:Def P w K mg base "is_opinion" 3 1 cJ) (e:Def P w K mg base "many_of" 1 1 cE):bW P w K mg base CX0 4 f fd ["web", "thing"] (spF K vX 2):=bN F qG λ_ _ _ _ _ _ a=>have b:=c5 a;(af (bo (MW.mt (fQ (cw (bM (fu (t:=.tuple) rfl k rfl c (by decide +kernel) (mv 1)))) (dQ (aU (d8 b) fS (cD rfl d (cH (mv 1))) (av e a (ae (mv 0) aq)) (aT _)) (.inr rfl)))) (ah (aB dz)) aE)
  (af (fX ZZ rfl (GB rfl j (mv 1)) (j6 rfl (cm (aL (i:=2) qG.nd rfl lc) (cm (aL (i:=3) qG.nd rfl lc) hZ))) (af (bo (cw (bM (av h a (ae (mv 3) aq)))) (ah (aB dz)) aE)
  (af (aV (i:=4) qG.nd rfl lc (av g a (ae (mv 0) (ae (mv 2) aq))))
  (ah (bo (MW.mt (DY (aU qy l8 (mv 4) dy (aT _)) (dQ (aU (d8 b) fS (mv 3) (mv 4) (aT _)) (.inl rfl)))) (ah (aB dz)) aE)))))
  (ah (aB dz))))
theorem sE:aP ["web", "thing"] ["web", "thing"] (aw ju):=fsc
theorem sG (F:Fun K "check_stand" "check_stand" ju f fd) (b:Def P w K mg base "fits" 4 2 vX):bW P w K mg base CX0 5 f fd ["web", "thing"] (spF K eK 2):=bN F sE λ_ _ _ _ _ _ a=>have c:=c5 a;(ah (bo (cw (bM (av b a (ae (mv 0) (ae (mv 1) aq))))) (ah gU) aE))
theorem Aq:aP ["web", "stand", "person"] ["web", "stand", "person"] (aw px):=fsc
theorem Ar (F:Fun K "pull_at" "pull_at" px f fd) (b:mg "sum" = none) (d:Def P w K mg base "ties_of" 1 2 mj):bW P w K mg base CX0 2 f fd ["web", "stand", "person"] (spF K mr 3):=bN F Aq λ_ _ _ _ _ _ a=>have c:=c5 a;(ah (aB (bB fU fW am (zt rfl rfl b (fm (dC (own:=["other", "weight"]) (capn:=["stand"]) (caps:=[1]) rfl (bH.a (bp.cons rfl rfl bp.nil)) (d9 (av d a (ae (mv 0) (ae (mv 2) aq))))
   (λe C s H ex=>⟨(j6 rfl (cm (aL (i:=0) (show ((["other", "weight"] : List Str)++(["stand"] : List Str)).Nodup by decide +kernel) rfl lc) (cm (aL (i:=1) (show ((["other", "weight"] : List Str)++(["stand"] : List Str)).Nodup by decide +kernel) rfl lc) hZ))),(i3 (aU (de c) eC (aK (mv 2) (mv 0) (λ_ _=>rfl)) am (aT _))),(mv 1)⟩)))))))
theorem kI:aP ["web", "stand", "person", "stay", "strength", "bar"] ["web", "stand", "person"] (aw pz):=fsc
theorem As (F:Fun K "next_at" "next_at" pz f fd) (b:Def P w K mg base "bar_of" 1 2 nZ) (e:Def P w K mg base "pull_at" 2 3 mr) (d:Def P w K mg base "stay_of" 1 2 dY):bW P w K mg base CX0 3 f fd ["web", "stand", "person"] (spF K ir 3):=bN F kI λ_ _ _ _ _ _ a=>have c:=c5 a;(af (aV (i:=3) kI.nd rfl lc (av d a (ae (mv 0) (ae (mv 2) aq))))
  (af (bo (aU qy l8 (mv 3) dy (aT _)) (ah (aB (mv 3))) aE)
  (af (aV (i:=4) kI.nd rfl lc (av e a (ae (mv 0) (ae (mv 1) (ae (mv 2) aq)))))
  (af (aV (i:=5) kI.nd rfl lc (av b a (ae (mv 0) (ae (mv 2) aq))))
  (af (bo (aU (de c) eC (mv 4) (mv 5) (aT _)) (ah (aB (aK (mv 1) (mv 2) (λ_ _=>rfl)))) aE)
  (ah (aB (Ba (aU A4 vw (mv 4) (mv 5) (aT _)) am am))))))))
theorem Au:aP ["web", "stand"] ["web", "stand"] (aw pA):=fsc
theorem Av (F:Fun K "turn_at" "turn_at" pA f fd) (b:mg "tuple" = none) (d:mg "range" = none) (c:Def P w K mg base "many_of" 1 1 cE) (e:Def P w K mg base "next_at" 3 3 ir):bW P w K mg base CX0 4 f fd ["web", "stand"] (spF K eU 2):=bN F Au λ_ _ _ _ _ _ a=>have g:=c5 a;(ah (aB (gB rfl b (fm (dC (own:=["person"]) (capn:=["web", "stand"]) (caps:=[0,1]) rfl (bH.a (bp.cons rfl rfl (bp.cons rfl rfl bp.nil))) (cL rfl d (av c a (ae (mv 0) aq)))
   (λh C s H ex=>⟨(aL (i:=0) (show ((["person"] : List Str)++(["web", "stand"] : List Str)).Nodup by decide +kernel) rfl lc),dq,(av e a (ae (mv 1) (ae (mv 2) (ae (mv 0) aq))))⟩))))))
theorem lV:aP ["web", "stand", "stands", "later", "word"] ["web", "stand"] (aw v5):=fsc
theorem Fk (F:Fun K "ended" "ended" v5 f fd) (d:mg "len" = none) (b:Def P w K mg base "turn_at" 4 2 eU) (e:Def P w K mg base "check_stand" 5 2 eK):bW P w K mg base CX0 6 f fd ["web", "stand"] (spF K mx 2):=bN F lV λ_ _ _ _ _ _ a=>have c:=c5 a;(af (gD (av e a (ae (mv 0) (ae (mv 1) aq))))
  (af (aV (i:=2) lV.nd rfl lc (bu (cC (ae (mv 1) (ae (av b a (ae (mv 0) (ae (mv 1) aq))) aq)) (λ_ _ _ _ z=>by rw[(bc (bc bD)) _ _ _ _ z];decide))))
  (af (aV (i:=3) lV.nd rfl lc (av b a (ae (mv 0) (ae (aK (mv 2) am (λ_ _=>rfl)) aq))))
  (af (xl ZZ (aU (d8 c) fS (mv 3) (aK (mv 2) eP (λ_ _=>rfl)) (aT _)) (af (gD (j9 (mv 2) (mv 3)))
  (ah (aV (i:=3) lV.nd rfl lc (av b a (ae (mv 0) (ae (mv 3) aq)))))))
  (af (aV (i:=4) lV.nd rfl lc (Ba (aU (de c) eC (aK (mv 2) eP (λ_ _=>rfl)) (aK (mv 2) eP (λ_ _=>rfl)) (aT _)) (fV [114,101,115,116] rfl) (fV [112,97,105,114] rfl)))
  (ah (aB (iE (ae (bB eY nK (cD rfl d (cH (mv 2))) am) (ae (mv 4) (ae (mv 2) aq)))))))))))
theorem pE:aP ["web", "thing"] ["web", "thing"] (aw gZ):=fsc
theorem pF (F:Fun K "may_be_chosen" "may_be_chosen" gZ f fd) (c:Def P w K mg base "stay_of" 1 2 dY) (d:Def P w K mg base "is_person" 3 2 jb):bW P w K mg base CX0 4 f fd ["web", "thing"] (spF K bj 2):=bN F pE λ_ _ _ _ _ _ a=>have b:=c5 a;(ah (aB (MB.me (mO (fR (av d a (ae (mv 0) (ae (mv 1) aq)))) (ly (fR (eS (d8 b) fS (av c a (ae (mv 0) (ae (mv 1) aq))) am (aT _))))))))
theorem pG:aP ["web", "thing"] ["web", "thing"] (aw g0):=fsc
theorem pH (F:Fun K "are_choosable" "are_choosable" g0 f fd) (a:mg "all" = none) (g:mg "range" = none) (c:mg "len" = none) (h:mg "isinstance" = none) (d:mg "list" = none) (j:Def P w K mg base "may_be_chosen" 4 2 bj):bW P w K mg base CX0 5 f fd ["web", "thing"] (spF K cU 2):=bN F pG λ_ _ _ _ _ _ b=>have k:=c5 b;(af (bo (cw (bM (fu (t:=.list) rfl h rfl d (by decide +kernel) (mv 1)))) (ah (aB dz)) aE)
  (af (bo (cw (bM (vJ rfl rfl a (fm (dC (own:=["person"]) (capn:=["web"]) (caps:=[0]) rfl (bH.a (bp.cons rfl rfl bp.nil)) (d9 (mv 1))
   (λe C s H ex=>⟨(aL (i:=0) (show ((["person"] : List Str)++(["web"] : List Str)).Nodup by decide +kernel) rfl lc),dq,(av j b (ae (mv 1) (ae (mv 0) aq)))⟩)))))) (ah (aB dz)) aE)
  (ah (aB (vJ rfl rfl a (fm (dC (own:=["place"]) (capn:=["thing"]) (caps:=[1]) rfl (bH.a (bp.cons rfl rfl bp.nil)) (cL rfl g (bB eY nK (cD rfl c (cH (mv 1))) am))
   (λe C s H ex=>⟨(aL (i:=0) (show ((["place"] : List Str)++(["thing"] : List Str)).Nodup by decide +kernel) rfl lc),dq,(eS DL vw (aK (mv 1) (mv 0) (λ_ _=>rfl)) (aK (mv 1) (bB ig j8 (mv 0) am) (λ_ _=>rfl)) (aT _))⟩))))))))
theorem Fl:aP ["web", "some"] ["web", "some"] (aw v6):=fsc
theorem Fo (F:Fun K "begun" "begun" v6 f fd) (b:mg "tuple" = none) (d:mg "enumerate" = none) (e:Def P w K mg base "stays_of" 1 1 c8) (g:Def P w K mg base "are_choosable" 5 2 cU):bW P w K mg base CX0 6 f fd ["web", "some"] (spF K oj 2):=bN F Fl λ_ _ _ _ _ _ a=>have c:=c5 a;(af (bo (cw (bM (av g a (ae (mv 0) (ae (mv 1) aq))))) (ah gU) aE)
  (ah (aB (gB rfl b (fm (xE (own:=["person", "stay"]) (capn:=["some"]) (caps:=[1]) rfl (bH.a (bp.cons rfl rfl bp.nil)) (xD rfl d (av e a (ae (mv 0) aq)))
   (λh C s H ex=>⟨(j6 rfl (cm (aL (i:=0) (show ((["person", "stay"] : List Str)++(["some"] : List Str)).Nodup by decide +kernel) rfl lc) (cm (aL (i:=1) (show ((["person", "stay"] : List Str)++(["some"] : List Str)).Nodup by decide +kernel) rfl lc) hZ))),dq,(Ba (MW.mt (fQ (aU iq uv (mv 0) (mv 2) rfl) (dQ (aU (de c) eC (mv 1) am (aT _)) (.inr rfl)))) am am)⟩)))))))
theorem io:aP ["web", "some", "end", "word", "stands"] ["web", "some"] (aw lR):=fsc
theorem we (F:Fun K "turns_all" "turns_all" lR f fd) (b:Def P w K mg base "ended" 6 2 mx) (c:Def P w K mg base "begun" 6 2 oj):bW P w K mg base CX0 7 f fd ["web", "some"] (spF K jc 2):=bN F io λ_ _ _ _ _ _ a=>have d:=c5 a;(af (aV (i:=2) io.nd rfl lc (av b a (ae (mv 0) (ae (av c a (ae (mv 0) (ae (mv 1) aq))) aq))))
  (af (aV (i:=3) io.nd rfl lc (aK (mv 2) am (λ_ _=>rfl)))
  (af (aV (i:=4) io.nd rfl lc (aK (mv 2) am (λ_ _=>rfl)))
  (af (bo (aU (de d) eC (mv 3) (fV [112,97,105,114] rfl) (aT _)) (ah (aB (iE (ae (fV [110,111,116] rfl) (ae (qZ (mv 4) (Ea eP) D9) aq))))) aE)
  (af (bo (aU iq uv am (aK (mv 4) eP (λ_ _=>rfl)) rfl) (ah (aB (iE (ae (fV [110,111,116] rfl) (ae (qZ (mv 4) (Ea eP) D9) aq))))) aE)
  (ah (aB (iE (ae (fV [116,117,114,110] rfl) (ae (qZ (mv 4) D9 (Ea eP)) aq))))))))))
theorem je:aP ["people", "lists", "person"] ["people"] (aw nn):=fsc
theorem yw (F:Fun K "lists_of" "lists_of" nn f fd) (c:mg "sorted" = none) (a:mg "len" = none):bW P w K mg base CX0 1 f fd ["people"] (spF K iN 1):=bN F je λ_ _ _ _ _ _ b=>have d:=c5 b;(af (aV (i:=1) je.nd rfl lc (bu (cC (ae (bu (cC aq (λ_ _ _ _ z=>by rw[bD _ _ _ _ z];decide))) aq) (λ_ _ _ _ z=>by rw[(bc bD) _ _ _ _ z];decide))))
  (af (fX ZZ rfl (d9 (mv 0)) (aL (i:=2) je.nd rfl lc) (ah (aV (i:=1) je.nd rfl lc (bu (ke (mv 1) (bu (dC (own:=["some"]) (capn:=["person"]) (caps:=[2]) rfl (bH.a (bp.cons rfl rfl bp.nil)) (d9 (mv 1))
   (λe C s H ex=>⟨(aL (i:=0) (show ((["some"] : List Str)++(["person"] : List Str)).Nodup by decide +kernel) rfl lc),dq,(bu (ke (mv 0) (bu (cC (ae (mv 1) aq) (λ_ _ _ _ z=>by rw[(bc bD) _ _ _ _ z];decide)))))⟩))))))))
  (ah (aB (bu (zL rfl c rfl a (mv 1)))))))
theorem sH:aP ["web", "some", "known", "people"] ["web", "some", "known"] (aw pB):=fsc
theorem Aw (F:Fun K "do_turn" "do_turn" pB f fd) (c:mg "tuple" = none) (d:Def P w K mg base "turns_all" 7 2 jc):bW P w K mg base CX0 8 f fd ["web", "some", "known"] (spF K cQ 3):=bN F sH λ_ _ _ _ _ _ b=>have a:=c5 b;(af (aV (i:=3) sH.nd rfl lc (gB rfl c (cH (mv 1))))
  (af (bo (aU (Ct (ZS (Y1 (by decide) _) a)) Cu (mv 3) (mv 2) rfl) (ah (GJ (ZS (Y1 (by decide) _) a) (eS (de a) eC (aK (av d b (ae (mv 0) (ae (mv 1) aq))) am (λ_ _=>rfl)) (fV [116,117,114,110] rfl) (aT _)) (mv 2) (mv 3))) aE)
  (ah (aB (GK (ZS (Y1 (by decide) _) a) (mv 2) (mv 3))))))
theorem eX:aP ["web", "chosen", "known", "grown", "left", "person", "more"] ["web", "chosen", "known"] (aw nr):=fsc
theorem yx (F:Fun K "left_out" "left_out" nr f fd) (d:mg "sorted" = none) (b:Def P w K mg base "free_of" 2 1 iy) (c:Def P w K mg base "do_turn" 8 3 cQ):bW P w K mg base CX0 9 f fd ["web", "chosen", "known"] (spF K kr 3):=bN F eX λ_ _ _ _ _ _ a=>have e:=c5 a;(af (aV (i:=3) eX.nd rfl lc (mv 1))
  (af (aV (i:=4) eX.nd rfl lc (bu (cC aq (λ_ _ _ _ z=>by rw[bD _ _ _ _ z];decide))))
  (af (fX ZZ rfl (d9 (av b a (ae (mv 0) aq))) (aL (i:=5) eX.nd rfl lc) (af (bo (aU iq uv (mv 5) (mv 3) rfl) (ah xk) aE)
  (af (aV (i:=6) eX.nd rfl lc (bu (xP rfl d (fm (ke (mv 3) (bu (cC (ae (mv 5) aq) (λ_ _ _ _ z=>by rw[(bc bD) _ _ _ _ z];decide))))))))
  (ah (bo (bM (av c a (ae (mv 0) (ae (mv 6) (ae (mv 2) aq))))) (ah (gD (j9 (mv 4) (mv 5)))) (ah (aV (i:=3) eX.nd rfl lc (mv 6))))))))
  (ah (aB (mv 4))))))
theorem jw:aP ["web", "m", "chosen", "known", "some", "trees"] ["web", "m", "chosen", "known"] (aw kB):=fsc
theorem tT (j:Nat) (F:Fun K "tree_above" "tree_above" kB f fd) (b:Def P w K mg base "left_out" 9 3 kr) (d:Def P w K mg base "tree_above" (9 + j) 4 (cu j)):bW P w K mg base CX0 (9 + (j + 1)) f fd ["web", "m", "chosen", "known"] (spF K (cu (j + 1)) 4):=bN F jw λ_ _ _ _ _ _ a=>have c:=c5 a;(af (bo (aU (de c) eC (mv 1) am (aT _)) (ah (aB (iE (ae (fV [108,101,97,102] rfl) aq)))) aE)
  (af (aV (i:=4) jw.nd rfl lc (du b (a.mono (ZM (by decide) (Z1 9 j))) rfl (ae (mv 0) (ae (mv 2) (ae (mv 3) aq))) (eA)))
  (af (j7 (i:=5) jw.nd rfl lc (own:=["person"]) (capn:=["web", "known", "m", "chosen"]) (caps:=[0,3,1,2]) rfl (bH.a (bp.cons rfl rfl (bp.cons rfl rfl (bp.cons rfl rfl (bp.cons rfl rfl bp.nil))))) (d9 (mv 4))
   (λe C s H ex=>⟨(aL (i:=0) (show ((["person"] : List Str)++(["web", "known", "m", "chosen"] : List Str)).Nodup by decide +kernel) rfl lc),dq,(du d (a.mono (ZL _)) rfl (ae (mv 1) (ae (bB eY nK (mv 3) am) (ae (bu (ke (mv 4) (bu (cC (ae (mv 0) aq) (λ_ _ _ _ z=>by rw[(bc bD) _ _ _ _ z];decide))))) (ae (mv 2) aq)))) (kU j))⟩))
  (ah (aB (iE (ae (fV [112,97,114,116] rfl) (ae (mv 4) (ae (mv 5) aq)))))))))
theorem jT:aP ["web", "free", "known", "some", "tree"] ["web"] (aw sC):=fsc
theorem C8 (F:Fun K "fewest" "fewest" sC f fd) (b:mg "len" = none) {d:Tok} (h:mg "MOST_FREE_TRIED" = some (.int 9 d)) (c:Def P w K mg base "lists_of" 1 1 iN) (j:Def P w K mg base "do_turn" 8 3 cQ) (k:Def P w K mg base "tree_above" 16 4 (cu 7)) (g:Def P w K mg base "free_of" 2 1 iy):bW P w K mg base CX0 17 f fd ["web"] (spF K iO 1):=bN F jT λ_ _ _ _ _ _ a=>have e:=c5 a;(af (aV (i:=1) jT.nd rfl lc (av g a (ae (mv 0) aq)))
  (af (bo (aU A4 vw (cD rfl b (cH (mv 1))) (qU rfl h) (aT _)) (ah gU) aE)
  (af (aV (i:=2) jT.nd rfl lc xH)
  (af (fX ZZ rfl (d9 (av c a (ae (mv 1) aq))) (aL (i:=3) jT.nd rfl lc) (ah (bo (bM (av j a (ae (mv 0) (ae (mv 3) (ae (mv 2) aq))))) (af (aV (i:=4) jT.nd rfl lc (Ba (aU (de e) eC (mv 3) (bu (cC aq (λ_ _ _ _ z=>by rw[bD _ _ _ _ z];decide))) (aT _)) dy (du k (a.mono (by decide)) rfl (ae (mv 0) (ae (bB eY nK (cD rfl b (cH (mv 3))) am) (ae (bu (cC aq (λ_ _ _ _ z=>by rw[bD _ _ _ _ z];decide))) (ae (mv 2) aq)))) (kU 7))))
  (ah (aB (iE (ae (mv 3) (ae (mv 4) aq)))))) aE)))
  (ah (aB dy))))))
theorem jU:aP ["web", "some", "trees", "chosen", "known", "rest"] ["web", "some", "trees", "chosen", "known"] (aw g6):=fsc
theorem pI (F:Fun K "parts_rightly" "parts_rightly" g6 f fd) (j:mg "range" = none) (c:mg "any" = none) (b:mg "len" = none) (h:Def P w K mg base "do_turn" 8 3 cQ) (k:Def P w K mg base "may_be_chosen" 4 2 bj) (d:Def P w K mg base "many_of" 1 1 cE) (l:Def P w K mg base "are_choosable" 5 2 cU):bW P w K mg base CX0 9 f fd ["web", "some", "trees", "chosen", "known"] (spF K eR 5):=bN F jU λ_ _ _ _ _ _ a=>have e:=c5 a;(af (bo (MW.mt (fQ (cw (bM (av l a (ae (mv 0) (ae (mv 1) aq))))) (dQ (aU (d8 e) fS (cD rfl b (cH (mv 2))) (cD rfl b (cH (mv 1))) (aT _)) (.inr rfl)))) (ah (aB dz)) aE)
  (af (bo (bM (JO rfl rfl c (fm (dC (own:=["person"]) (capn:=["chosen"]) (caps:=[3]) rfl (bH.a (bp.cons rfl rfl bp.nil)) (d9 (mv 1))
   (λg C s H ex=>⟨(aL (i:=0) (show ((["person"] : List Str)++(["chosen"] : List Str)).Nodup by decide +kernel) rfl lc),dq,(eS iq uv (mv 0) (mv 1) rfl)⟩))))) (ah (aB dz)) aE)
  (af (j7 (i:=5) jU.nd rfl lc (own:=["person"]) (capn:=["web", "some"]) (caps:=[0,1]) rfl (bH.a (bp.cons rfl rfl (bp.cons rfl rfl bp.nil))) (cL rfl j (av d a (ae (mv 0) aq)))
   (λg C s H ex=>⟨(aL (i:=0) (show ((["person"] : List Str)++(["web", "some"] : List Str)).Nodup by decide +kernel) rfl lc),(i3 (MW.mt (DY (bM (av k a (ae (mv 1) (ae (mv 0) aq)))) (dQ (aU dM iG (mv 0) (mv 2) rfl) (.inl rfl))))),(mv 0)⟩))
  (ah (aB (MB.me (qV (fR (av h a (ae (mv 0) (ae (mv 5) (ae (mv 4) aq))))))))))))
theorem iS:aP ["web", "m", "tree", "chosen", "known", "person", "inner"] ["web", "m", "tree", "chosen", "known"] (aw jv):=fsc
theorem sI (j:Nat) (F:Fun K "holds_above" "holds_above" jv f fd) (e:mg "zip" = none) (h:mg "sorted" = none) (c:Def P w K mg base "parts_rightly" 9 5 eR) (g:Def P w K mg base "do_turn" 8 3 cQ) (d:Def P w K mg base "holds_above" (9 + j) 5 (bP j)):bW P w K mg base CX0 (9 + (j + 1)) f fd ["web", "m", "tree", "chosen", "known"] (spF K (bP (j + 1)) 5):=bN F iS λ_ _ _ _ _ _ a=>have b:=c5 a;(af (bo (aU (de b) eC (mv 1) am (aT _)) (ah (aB (MB.me (mO (fR (eS (de b) eC (mv 2) (iE (ae (fV [108,101,97,102] rfl) aq)) (aT _))) (ly (qV (fR (du g (a.mono (ZM (by decide) (Z1 9 j))) rfl (ae (mv 0) (ae (mv 3) (ae (mv 4) aq))) (eA))))))))) aE)
  (af (bo (MW.mt (fQ (aU (d8 b) fS (aK (mv 2) am (λ_ _=>rfl)) (fV [112,97,114,116] rfl) (aT _)) (dQ (cw (bM (du c (a.mono (ZM (by decide) (Z1 9 j))) rfl (ae (mv 0) (ae (aK (mv 2) am (λ_ _=>rfl)) (ae (aK (mv 2) am (λ_ _=>rfl)) (ae (mv 3) (ae (mv 4) aq))))) (eA)))) (.inr rfl)))) (ah (aB dz)) aE)
  (af (vU ZZ rfl (vT rfl e (aK (mv 2) am (λ_ _=>rfl)) (aK (mv 2) am (λ_ _=>rfl))) (j6 rfl (cm (aL (i:=5) iS.nd rfl lc) (cm (aL (i:=6) iS.nd rfl lc) hZ))) (ah (bo (cw (bM (du d (a.mono (ZL _)) rfl (ae (mv 0) (ae (bB eY nK (mv 1) am) (ae (mv 6) (ae (bu (xP rfl h (fm (ke (mv 3) (bu (cC (ae (mv 5) aq) (λ_ _ _ _ z=>by rw[(bc bD) _ _ _ _ z];decide))))))) (ae (mv 4) aq))))) (jR j)))) (ah (aB dz)) aE)))
  (ah (aB dz)))))
theorem tU:aP ["web", "m", "tree"] ["web", "m", "tree"] (aw kC):=fsc
theorem tV (F:Fun K "tree_holds" "tree_holds" kC f fd) (b:Def P w K mg base "holds_above" 16 5 (bP 7)):bW P w K mg base CX0 17 f fd ["web", "m", "tree"] (spF K fH 3):=bN F tU λ_ _ _ _ _ _ a=>have c:=c5 a;(ah (aB (du b (a.mono (by decide)) rfl (ae (mv 0) (ae (mv 1) (ae (mv 2) (ae (bu (cC aq (λ_ _ _ _ z=>by rw[bD _ _ _ _ z];decide))) (ae xH aq))))) (jR 7))))
theorem wf:aP ["_law_script", "_law_k"] ["_law_script", "_law_k"] (aw lS):=fsc
theorem wg (F:Fun K "_law_cell" "_law_cell" lS f fd) (b:mg "len" = none):bW P w K mg base CX0 1 f fd ["_law_script", "_law_k"] (spF K bO 2):=bN F wf λ_ _ _ _ _ _ a=>have c:=c5 a;(af (bo (aU DL vw (mv 1) (cD rfl b (cH (mv 0))) (aT _)) (ah (aB (aK (mv 0) (mv 1) (λ_ _=>rfl)))) aE)
  (ah (aB (bB ig j8 (bB fU fW (bB fU fW am (mv 1)) (mv 1)) (bB fU fW am (mv 1))))))
theorem eu:aP ["_law_cell_here", "_law_way", "_law_many", "_law_base", "_law_found", "_law_number", "_law_k"] ["_law_cell_here", "_law_way", "_law_many", "_law_base"] (aw nt):=fsc
theorem yy (F:Fun K "_law_row" "_law_row" nt f fd) (c:mg "range" = none):bW P w K mg base CX0 1 f fd ["_law_cell_here", "_law_way", "_law_many", "_law_base"] (spF K dW 4):=bN F eu λ_ _ _ _ _ _ b=>have a:=c5 b;(af (aV (i:=4) eu.nd rfl lc (bu (cC aq (λ_ _ _ _ z=>by rw[bD _ _ _ _ z];decide))))
  (af (aV (i:=5) eu.nd rfl lc (mv 0))
  (af (bo (aU (de a) eC (bB eZ fj (mv 1) am) am (aT _)) (ah (aV (i:=5) eu.nd rfl lc (bB eZ fj (bB fU fW (bB eZ fj (mv 0) am) am) am))) aE)
  (af (fX ZZ rfl (cL rfl c (mv 2)) (aL (i:=6) eu.nd rfl lc) (ah (bo (aU (de a) eC (bB eZ fj (mv 1) am) am (aT _)) (af (aV (i:=5) eu.nd rfl lc (bB eZ fj (bB ig j8 (bB ig j8 (bB ig j8 (bB fU fW (mv 5) (mv 5)) (bB fU fW am (mv 5))) (bB fU fW am (mv 6))) am) am))
  (ah (gD (j9 (mv 4) (bB eZ fj (bB iD mN (mv 5) am) (mv 3)))))) (af (gD (j9 (mv 4) (bB eZ fj (mv 5) (mv 3))))
  (ah (aV (i:=5) eu.nd rfl lc (bB iD mN (mv 5) (mv 3))))))))
  (ah (aB (mv 4)))))))
theorem bx:aP ["_law_script", "_law_most", "_law_way", "_law_many", "_law_tied", "_law_told", "_law_one", "_law_other", "_law_heavy", "_law_levels", "_law_steps", "_law_holders"] ["_law_script", "_law_most"] (aw kD):=fsc
theorem tW (F:Fun K "_law_model" "_law_model" kD f fd) (c:mg "range" = none) (h:mg "sum" = none) (j:mg "max" = none) (d:Def P w K mg base "_law_row" 1 4 dW) (b:Def P w K mg base "_law_cell" 1 2 bO):bW P w K mg base CX0 2 f fd ["_law_script", "_law_most"] (spF K jQ 2):=bN F bx λ_ _ _ _ _ _ a=>have e:=c5 a;(af (aV (i:=2) bx.nd rfl lc (av b a (ae (mv 0) (ae am aq))))
  (af (aV (i:=3) bx.nd rfl lc (bB ig j8 am (bB eZ fj (bB iD mN (mv 2) am) (mv 1))))
  (af (j7 (i:=4) bx.nd rfl lc (own:=["_law_one"]) (capn:=["_law_many"]) (caps:=[3]) rfl (bH.a (bp.cons rfl rfl bp.nil)) (cL rfl c (mv 3))
   (λg C s H ex=>⟨(aL (i:=0) (show ((["_law_one"] : List Str)++(["_law_many"] : List Str)).Nodup by decide +kernel) rfl lc),dq,(bu (Er (cC (ae am aq) (λ_ _ _ _ z=>by rw[(bc bD) _ _ _ _ z];decide)) (mv 1)))⟩))
  (af (aV (i:=5) bx.nd rfl lc (av d a (ae (av b a (ae (mv 0) (ae am aq))) (ae (mv 2) (ae (bB fU fW (mv 3) (mv 3)) (ae am aq))))))
  (af (fX ZZ rfl (cL rfl c (mv 3)) (aL (i:=6) bx.nd rfl lc) (ah (fX ZZ rfl (cL rfl c (mv 6)) (aL (i:=7) bx.nd rfl lc) (af (aV (i:=8) bx.nd rfl lc (JA rfl rfl j am (bB eY nK (aK (mv 5) (bB ig j8 (bB fU fW (mv 6) (mv 3)) (mv 7)) (λ_ _=>rfl)) am)))
  (af (bo (aU (de e) eC (bB eZ fj (bB iD mN (mv 2) am) am) am (aT _)) (ah (aV (i:=8) bx.nd rfl lc (D0 (cC (ae am (ae am (ae am (ae am (ae am (ae am (ae am aq))))))) (λ_ _ _ _ z=>by rw[(bc (bc (bc (bc (bc (bc (bc bD))))))) _ _ _ _ z];decide)) (bB eZ fj (aK (mv 5) (bB ig j8 (bB fU fW (mv 6) (mv 3)) (mv 7)) (λ_ _=>rfl)) am) (λ_ _=>rfl)))) aE)
  (af (vz (mv 8) (aK (mv 4) (mv 6) (λ_ _=>rfl)) (mv 7))
  (ah (vz (mv 8) (aK (mv 4) (mv 7) (λ_ _=>rfl)) (mv 6)))))))))
  (af (j7 (i:=9) bx.nd rfl lc (own:=["_law_row_here"]) (capn:=[]) (caps:=[]) rfl (bH.a bp.nil) (d9 (mv 4))
   (λg C s H ex=>⟨(aL (i:=0) (show ((["_law_row_here"] : List Str)++([] : List Str)).Nodup by decide +kernel) rfl lc),dq,(zt rfl rfl h (cH (mv 0)))⟩))
  (af (bo (aU (de e) eC (bB eZ fj (bB iD mN (mv 2) am) am) am (aT _)) (af (aV (i:=10) bx.nd rfl lc (av d a (ae (av b a (ae (mv 0) (ae am aq))) (ae (mv 2) (ae (mv 3) (ae am aq))))))
  (ah (fX ZZ rfl (cL rfl c (mv 3)) (aL (i:=6) bx.nd rfl lc) (ah (vz (D0 (cC (ae (bB eY nK (aK (mv 10) (mv 6) (λ_ _=>rfl)) am) (ae (bB eY nK (bB ig j8 (aK (mv 9) (mv 6) (λ_ _=>rfl)) (bB eZ fj (aK (mv 10) (mv 6) (λ_ _=>rfl)) am)) am) aq)) (λ_ _ _ _ z=>by rw[(bc (bc bD)) _ _ _ _ z];decide)) (bB eZ fj (bB iD mN (mv 2) am) am) (λ_ _=>rfl)) (mv 9) (mv 6)))))) aE)
  (af (aV (i:=11) bx.nd rfl lc (bu (Er (cC (ae dy aq) (λ_ _ _ _ z=>by rw[(bc bD) _ _ _ _ z];decide)) (mv 3))))
  (af (bo (aU (de e) eC (bB eZ fj (bB iD mN (mv 2) am) am) am (aT _)) (af (aV (i:=5) bx.nd rfl lc (av d a (ae (av b a (ae (mv 0) (ae am aq))) (ae (mv 2) (ae (mv 3) (ae am aq))))))
  (ah (j7 (i:=11) bx.nd rfl lc (own:=["_law_number"]) (capn:=[]) (caps:=[]) rfl (bH.a bp.nil) (d9 (mv 5))
   (λg C s H ex=>⟨(aL (i:=0) (show ((["_law_number"] : List Str)++([] : List Str)).Nodup by decide +kernel) rfl lc),dq,(D0 (cC (ae am (ae am (ae dy (ae dy (ae dy (ae dy (ae dy aq))))))) (λ_ _ _ _ z=>by rw[(bc (bc (bc (bc (bc (bc (bc bD))))))) _ _ _ _ z];decide)) (mv 0) (λ_ _=>rfl))⟩)))) aE)
  (ah (aB (iE (ae (mv 4) (ae (mv 9) (ae (mv 11) aq)))))))))))))))
theorem gF:aP ["_law_model_here", "_law_found", "_law_one", "_law_other"] ["_law_model_here"] (aw kE):=fsc
theorem tX (F:Fun K "_law_lines" "_law_lines" kE f fd) (a:mg "range" = none) (b:mg "len" = none):bW P w K mg base CX0 1 f fd ["_law_model_here"] (spF K f6 1):=bN F gF λ_ _ _ _ _ _ c=>have d:=c5 c;(af (aV (i:=1) gF.nd rfl lc (bu (cC aq (λ_ _ _ _ z=>by rw[bD _ _ _ _ z];decide))))
  (af (fX ZZ rfl (cL rfl a (cD rfl b (cH (aK (mv 0) am (λ_ _=>rfl))))) (aL (i:=2) gF.nd rfl lc) (ah (fX ZZ rfl (cL rfl a (mv 2)) (aL (i:=3) gF.nd rfl lc) (ah (bo (aU A4 vw (aK (aK (aK (mv 0) am (λ_ _=>rfl)) (mv 2) (λ_ _=>rfl)) (mv 3) (λ_ _=>rfl)) am (aT _)) (ah (gD (j9 (mv 1) (iE (ae (mv 3) (ae (mv 2) (ae (aK (aK (aK (mv 0) am (λ_ _=>rfl)) (mv 2) (λ_ _=>rfl)) (mv 3) (λ_ _=>rfl)) aq))))))) aE)))))
  (ah (aB (mv 1)))))
theorem cv:aP ["_law_model_here", "_law_stand", "_law_tied", "_law_levels", "_law_holders", "_law_found", "_law_one", "_law_force", "_law_held"] ["_law_model_here", "_law_stand"] (aw lT):=fsc
theorem wj (F:Fun K "_law_turn" "_law_turn" lT f fd) (d:mg "tuple" = none) (b:mg "range" = none) (a:mg "len" = none) (c:mg "sum" = none):bW P w K mg base CX0 1 f fd ["_law_model_here", "_law_stand"] (spF K fG 2):=bN F cv λ_ _ _ _ _ _ e=>have g:=c5 e;(af (D2 (mv 0) (j6 rfl (cm (aL (i:=2) cv.nd rfl lc) (cm (aL (i:=3) cv.nd rfl lc) (cm (aL (i:=4) cv.nd rfl lc) hZ)))))
  (af (aV (i:=5) cv.nd rfl lc (bu (cC aq (λ_ _ _ _ z=>by rw[bD _ _ _ _ z];decide))))
  (af (fX ZZ rfl (cL rfl b (cD rfl a (cH (mv 3)))) (aL (i:=6) cv.nd rfl lc) (af (aV (i:=7) cv.nd rfl lc (bB fU fW am (zt rfl rfl c (fm (dC (own:=["_law_other"]) (capn:=["_law_stand", "_law_tied", "_law_one"]) (caps:=[1,2,6]) rfl (bH.a (bp.cons rfl rfl (bp.cons rfl rfl (bp.cons rfl rfl bp.nil)))) (cL rfl b (cD rfl a (cH (mv 3))))
   (λh C s H ex=>⟨(aL (i:=0) (show ((["_law_other"] : List Str)++(["_law_stand", "_law_tied", "_law_one"] : List Str)).Nodup by decide +kernel) rfl lc),dq,(bB fU fW (aK (aK (mv 2) (mv 3) (λ_ _=>rfl)) (mv 0) (λ_ _=>rfl)) (aK (mv 1) (mv 0) (λ_ _=>rfl)))⟩))))))
  (af (aV (i:=8) cv.nd rfl lc (aK (mv 1) (mv 6) (λ_ _=>rfl)))
  (af (bo (aU A4 vw (mv 7) (aK (mv 3) (mv 6) (λ_ _=>rfl)) (aT _)) (ah (aV (i:=8) cv.nd rfl lc am)) aE)
  (af (bo (aU DL vw (mv 7) (aK (mv 3) (mv 6) (λ_ _=>rfl)) (aT _)) (ah (aV (i:=8) cv.nd rfl lc am)) aE)
  (af (bo (aU qy l8 (aK (mv 4) (mv 6) (λ_ _=>rfl)) dy (aT _)) (ah (aV (i:=8) cv.nd rfl lc (aK (mv 4) (mv 6) (λ_ _=>rfl)))) aE)
  (ah (gD (j9 (mv 5) (mv 8))))))))))
  (ah (aB (gB rfl d (cH (mv 5))))))))
theorem hJ:aP ["_law_model_here", "_law_some", "_law_found", "_law_one"] ["_law_model_here", "_law_some"] (aw iR):=fsc
theorem qp (F:Fun K "_law_fitting" "_law_fitting" iR f fd) (a:mg "tuple" = none) (c:mg "range" = none) (b:mg "len" = none):bW P w K mg base CX0 1 f fd ["_law_model_here", "_law_some"] (spF K gP 2):=bN F hJ λ_ _ _ _ _ _ d=>have e:=c5 d;(af (aV (i:=2) hJ.nd rfl lc (bu (cC aq (λ_ _ _ _ z=>by rw[bD _ _ _ _ z];decide))))
  (af (fX ZZ rfl (cL rfl c (cD rfl b (cH (mv 1)))) (aL (i:=3) hJ.nd rfl lc) (af (gD (j9 (mv 2) (aK (mv 1) (mv 3) (λ_ _=>rfl))))
  (ah (bo (aU qy l8 (aK (aK (mv 0) am (λ_ _=>rfl)) (mv 3) (λ_ _=>rfl)) dy (aT _)) (ah (vz (aK (aK (mv 0) am (λ_ _=>rfl)) (mv 3) (λ_ _=>rfl)) (mv 2) (mv 3))) aE))))
  (ah (aB (gB rfl a (cH (mv 2)))))))
theorem wm:aP ["_law_model_here"] ["_law_model_here"] (aw lU):=fsc
theorem wn (F:Fun K "_law_made" "_law_made" lU f fd) (b:mg "list" = none) (c:mg "len" = none) (d:Def P w K mg base "web_of" 5 4 jN) (e:Def P w K mg base "_law_lines" 1 1 f6):bW P w K mg base CX0 6 f fd ["_law_model_here"] (spF K lO 1):=bN F wm λ_ _ _ _ _ _ a=>have g:=c5 a;(ah (aB (av d a (ae (cD rfl c (cH (aK (mv 0) am (λ_ _=>rfl)))) (ae (av e a (ae (mv 0) aq)) (ae (bu (vE rfl b (cH (aK (mv 0) am (λ_ _=>rfl))))) (ae (bu (vE rfl b (cH (aK (mv 0) am (λ_ _=>rfl))))) aq)))))))
theorem jx:aP ["_law_model_here", "_law_stand", "_law_stands", "_law_later"] ["_law_model_here", "_law_stand"] (aw kF):=fsc
theorem tY (F:Fun K "_law_ended" "_law_ended" kF f fd) (b:Def P w K mg base "_law_turn" 1 2 fG):bW P w K mg base CX0 2 f fd ["_law_model_here", "_law_stand"] (spF K mz 2):=bN F jx λ_ _ _ _ _ _ a=>have c:=c5 a;(af (aV (i:=2) jx.nd rfl lc (bu (cC (ae (mv 1) (ae (av b a (ae (mv 0) (ae (mv 1) aq))) aq)) (λ_ _ _ _ z=>by rw[(bc (bc bD)) _ _ _ _ z];decide))))
  (ah (xl ZZ (bM dz) (af (aV (i:=3) jx.nd rfl lc (av b a (ae (mv 0) (ae (aK (mv 2) eP (λ_ _=>rfl)) aq))))
  (af (bo (aU (de c) eC (mv 3) (aK (mv 2) eP (λ_ _=>rfl)) (aT _)) (ah (aB (mv 2))) aE)
  (ah (gD (j9 (mv 2) (mv 3)))))))))
theorem oq:aP ["_law_model_here"] ["_law_model_here"] (aw gc):=fsc
theorem ot (F:Fun K "_law_choosable" "_law_choosable" gc f fd) (d:mg "range" = none) (a:mg "len" = none):bW P w K mg base CX0 1 f fd ["_law_model_here"] (spF K cj 1):=bN F oq λ_ _ _ _ _ _ c=>have b:=c5 c;(ah (aB (bu (dC (own:=["_law_one"]) (capn:=["_law_model_here"]) (caps:=[0]) rfl (bH.a (bp.cons rfl rfl bp.nil)) (cL rfl d (cD rfl a (cH (aK (mv 0) am (λ_ _=>rfl)))))
   (λe C s H ex=>⟨(aL (i:=0) (show ((["_law_one"] : List Str)++(["_law_model_here"] : List Str)).Nodup by decide +kernel) rfl lc),(i3 (aU (d8 b) fS (aK (aK (mv 1) am (λ_ _=>rfl)) (mv 0) (λ_ _=>rfl)) am (aT _))),(mv 0)⟩)))))
theorem fI:aP ["_law_model_here", "_law_some", "_law_stand", "_law_stands"] ["_law_model_here", "_law_some"] (aw ge):=fsc
theorem ou (F:Fun K "_law_turns_all" "_law_turns_all" ge f fd) (e:mg "range" = none) (b:mg "len" = none) (g:mg "int" = none) (d:Def P w K mg base "_law_ended" 2 2 mz) (c:Def P w K mg base "_law_fitting" 1 2 gP):bW P w K mg base CX0 3 f fd ["_law_model_here", "_law_some"] (spF K bX 2):=bN F fI λ_ _ _ _ _ _ a=>have h:=c5 a;(af (aV (i:=2) fI.nd rfl lc (av c a (ae (mv 0) (ae (bu (dC (own:=["_law_one"]) (capn:=["_law_some"]) (caps:=[1]) rfl (bH.a (bp.cons rfl rfl bp.nil)) (cL rfl e (cD rfl b (cH (aK (mv 0) am (λ_ _=>rfl)))))
   (λj C s H ex=>⟨(aL (i:=0) (show ((["_law_one"] : List Str)++(["_law_some"] : List Str)).Nodup by decide +kernel) rfl lc),dq,(Gu rfl g (eS iq uv (mv 0) (mv 1) rfl))⟩))) aq))))
  (af (aV (i:=3) fI.nd rfl lc (av d a (ae (mv 0) (ae (mv 2) aq))))
  (ah (aB (MB.me (mO (fR (eS dM iG am (aK (mv 3) eP (λ_ _=>rfl)) rfl)) (ly (fR (eS dM iG am (aK (mv 3) eP (λ_ _=>rfl)) rfl)))))))))
theorem gG:aP ["_law_model_here", "_law_many", "_law_tree", "_law_chosen", "_law_those", "_law_one", "_law_part"] ["_law_model_here", "_law_many", "_law_tree", "_law_chosen"] (aw kG):=fsc
theorem tZ (j:Nat) (F:Fun K "_law_holds" "_law_holds" kG f fd) (g:mg "zip" = none) (c:mg "len" = none) (e:mg "sorted" = none) (l:mg "set" = none) (d:Def P w K mg base "_law_turns_all" 3 2 bX) (m:Def P w K mg base "_law_choosable" 1 1 cj) (h:Def P w K mg base "_law_holds" (3 + j) 4 (cS j)):bW P w K mg base CX0 (3 + (j + 1)) f fd ["_law_model_here", "_law_many", "_law_tree", "_law_chosen"] (spF K (cS (j + 1)) 4):=bN F gG λ_ _ _ _ _ _ b=>have a:=c5 b;(af (bo (aU (de a) eC (aK (mv 2) am (λ_ _=>rfl)) (fV [108,101,97,102] rfl) (aT _)) (ah (aB (MB.me (mO (fR (eS (de a) eC (mv 1) am (aT _))) (ly (qV (fR (du d (b.mono (ZM (by decide) (Z1 3 j))) rfl (ae (mv 0) (ae (mv 3) aq)) (eA))))))))) aE)
  (af (bo (aU (de a) eC (mv 1) am (aT _)) (ah (aB dz)) aE)
  (af (aV (i:=4) gG.nd rfl lc (du m (b.mono (ZM (by decide) (Z1 3 j))) rfl (ae (mv 0) aq) (eA)))
  (af (bo (MW.mt (fQ (aU (d8 a) fS (bu (dC (own:=["_law_one"]) (capn:=["_law_chosen", "_law_those"]) (caps:=[3,4]) rfl (bH.a (bp.cons rfl rfl (bp.cons rfl rfl bp.nil))) (d9 (aK (mv 2) am (λ_ _=>rfl)))
   (λk C s H ex=>⟨(aL (i:=0) (show ((["_law_one"] : List Str)++(["_law_chosen", "_law_those"] : List Str)).Nodup by decide +kernel) rfl lc),(i3 (MW.mt (fQ (aU iq uv (mv 0) (mv 1) rfl) (dQ (aU dM iG (mv 0) (mv 2) rfl) (.inr rfl))))),(mv 0)⟩))) (bu (cC aq (λ_ _ _ _ z=>by rw[bD _ _ _ _ z];decide))) (aT _)) (dQ (aU (d8 a) fS (aK (mv 2) am (λ_ _=>rfl)) (bu (uG rfl rfl e rfl l (aK (mv 2) am (λ_ _=>rfl)))) (aT _)) (.inr rfl)))) (ah (aB dz)) aE)
  (af (bo (MW.mt (fQ (bM (du d (b.mono (ZM (by decide) (Z1 3 j))) rfl (ae (mv 0) (ae (bu (dC (own:=["_law_one"]) (capn:=["_law_tree"]) (caps:=[2]) rfl (bH.a (bp.cons rfl rfl bp.nil)) (d9 (mv 4))
   (λk C s H ex=>⟨(aL (i:=0) (show ((["_law_one"] : List Str)++(["_law_tree"] : List Str)).Nodup by decide +kernel) rfl lc),(i3 (aU dM iG (mv 0) (aK (mv 1) am (λ_ _=>rfl)) rfl)),(mv 0)⟩))) aq)) (eA))) (dQ (aU (d8 a) fS (cD rfl c (cH (aK (mv 2) am (λ_ _=>rfl)))) (cD rfl c (cH (aK (mv 2) am (λ_ _=>rfl)))) (aT _)) (.inr rfl)))) (ah (aB dz)) aE)
  (af (vU ZZ rfl (vT rfl g (aK (mv 2) am (λ_ _=>rfl)) (aK (mv 2) am (λ_ _=>rfl))) (j6 rfl (cm (aL (i:=5) gG.nd rfl lc) (cm (aL (i:=6) gG.nd rfl lc) hZ))) (ah (bo (cw (bM (du h (b.mono (ZL _)) rfl (ae (mv 0) (ae (bB eY nK (mv 1) am) (ae (mv 6) (ae (bu (ke (mv 3) (bu (cC (ae (mv 5) aq) (λ_ _ _ _ z=>by rw[(bc bD) _ _ _ _ z];decide))))) aq)))) (oo j)))) (ah (aB dz)) aE)))
  (ah (aB dz))))))))
theorem eh:aP ["_law_model_here", "_law_tree", "_law_rest", "_law_one", "_law_part"] ["_law_model_here", "_law_tree"] (aw gh):=fsc
theorem ow (j:Nat) (F:Fun K "_law_is_narrow" "_law_is_narrow" gh f fd) (c:mg "zip" = none) (d:Def P w K mg base "_law_turns_all" 3 2 bX) (g:Def P w K mg base "_law_choosable" 1 1 cj) (e:Def P w K mg base "_law_is_narrow" (3 + j) 2 (bE j)):bW P w K mg base CX0 (3 + (j + 1)) f fd ["_law_model_here", "_law_tree"] (spF K (bE (j + 1)) 2):=bN F eh λ_ _ _ _ _ _ a=>have b:=c5 a;(af (bo (aU (de b) eC (aK (mv 1) am (λ_ _=>rfl)) (fV [108,101,97,102] rfl) (aT _)) (ah (aB dz)) aE)
  (af (j7 (i:=2) eh.nd rfl lc (own:=["_law_one"]) (capn:=["_law_tree"]) (caps:=[1]) rfl (bH.a (bp.cons rfl rfl bp.nil)) (d9 (du g (a.mono (ZM (by decide) (Z1 3 j))) rfl (ae (mv 0) aq) (eA)))
   (λh C s H ex=>⟨(aL (i:=0) (show ((["_law_one"] : List Str)++(["_law_tree"] : List Str)).Nodup by decide +kernel) rfl lc),(i3 (aU dM iG (mv 0) (aK (mv 1) am (λ_ _=>rfl)) rfl)),(mv 0)⟩))
  (af (vU ZZ rfl (vT rfl c (aK (mv 1) am (λ_ _=>rfl)) (aK (mv 1) am (λ_ _=>rfl))) (j6 rfl (cm (aL (i:=3) eh.nd rfl lc) (cm (aL (i:=4) eh.nd rfl lc) hZ))) (ah (bo (MW.mt (fQ (cw (bM (du d (a.mono (ZM (by decide) (Z1 3 j))) rfl (ae (mv 0) (ae (bu (ke (mv 2) (bu (cC (ae (mv 3) aq) (λ_ _ _ _ z=>by rw[(bc bD) _ _ _ _ z];decide))))) aq)) (eA)))) (dQ (cw (bM (du e (a.mono (ZL _)) rfl (ae (mv 0) (ae (mv 4) aq)) (jS j)))) (.inr rfl)))) (ah (aB dz)) aE)))
  (ah (aB dz)))))
theorem gH:aP ["_law_model_here", "_law_web", "_law_found", "_law_some", "_law_tree", "_law_those"] ["_law_model_here", "_law_web", "_law_found"] (aw kH):=fsc
theorem t6 (F:Fun K "_law_right" "_law_right" kH f fd) (c:mg "len" = none) (o:mg "sorted" = none) (k:mg "set" = none) (d:mg "isinstance" = none) (m:mg "bool" = none) (j:mg "list" = none) (l:mg "tuple" = none) (h:Def P w K mg base "tree_holds" 17 3 fH) (p:Def P w K mg base "_law_is_narrow" 10 2 (bE 7)) (n:Def P w K mg base "_law_holds" 10 4 (cS 7)) (e:Def P w K mg base "_law_turns_all" 3 2 bX) (g:Def P w K mg base "_law_choosable" 1 1 cj):bW P w K mg base CX0 18 f fd ["_law_model_here", "_law_web", "_law_found"] (spF K iz 3):=bN F gH λ_ _ _ _ _ _ a=>have b:=c5 a;(af (bo (aU lh lx (mv 2) dy (aT _)) (ah (aB (MB.me (qV (fR (av e a (ae (mv 0) (ae (av g a (ae (mv 0) aq)) aq)))))))) aE)
  (af (bo (MW.mt (fQ (cw (bM (fu (t:=.tuple) rfl d rfl l (by decide +kernel) (mv 2)))) (fQ (aU (d8 b) fS (cD rfl c (cH (mv 2))) am (aT _)) (dQ (cw (bM (fu (t:=.list) rfl d rfl j (by decide +kernel) (aK (mv 2) am (λ_ _=>rfl))))) (.inr rfl))))) (ah (aB dz)) aE)
  (af (D2 (mv 2) (j6 rfl (cm (aL (i:=3) gH.nd rfl lc) (cm (aL (i:=4) gH.nd rfl lc) hZ))))
  (af (aV (i:=5) gH.nd rfl lc (av g a (ae (mv 0) aq)))
  (af (bo (MW.mt (fQ (aU (d8 b) fS (bu (dC (own:=["_law_one"]) (capn:=["_law_those"]) (caps:=[5]) rfl (bH.a (bp.cons rfl rfl bp.nil)) (d9 (mv 3))
   (λq C s H ex=>⟨(aL (i:=0) (show ((["_law_one"] : List Str)++(["_law_those"] : List Str)).Nodup by decide +kernel) rfl lc),(i3 (MW.mt (fQ (aU dM iG (mv 0) (mv 1) rfl) (dQ (bM (fu (t:=.bool) rfl d rfl m (by decide +kernel) (mv 0))) (.inr rfl))))),(mv 0)⟩))) (bu (cC aq (λ_ _ _ _ z=>by rw[bD _ _ _ _ z];decide))) (aT _)) (dQ (aU (d8 b) fS (mv 3) (bu (uG rfl rfl o rfl k (mv 3))) (aT _)) (.inr rfl)))) (ah (aB dz)) aE)
  (af (bo (cw (bM (av e a (ae (mv 0) (ae (mv 3) aq))))) (ah (aB dz)) aE)
  (af (bo (aU (de b) eC (mv 3) (bu (cC aq (λ_ _ _ _ z=>by rw[bD _ _ _ _ z];decide))) (aT _)) (ah (aB (eS lh lx (mv 4) dy (aT _)))) aE)
  (af (bo (MW.mt (fQ (cw (bM (du n (a.mono (by decide)) rfl (ae (mv 0) (ae (bB eY nK (cD rfl c (cH (mv 3))) am) (ae (mv 4) (ae (bu (cC aq (λ_ _ _ _ z=>by rw[bD _ _ _ _ z];decide))) aq)))) (oo 7)))) (dQ (cw (bM (du p (a.mono (by decide)) rfl (ae (mv 0) (ae (mv 4) aq)) (jS 7)))) (.inr rfl)))) (ah (aB dz)) aE)
  (ah (aB (eS JM JN (av h a (ae (mv 1) (ae (bB eY nK (cD rfl c (cH (mv 3))) am) (ae (mv 4) aq)))) dz (aT _))))))))))))
theorem pJ:aP ["_law_script", "_law_model_here", "_law_web", "_law_kept", "_law_found", "_law_many"] ["_law_script"] (aw sD):=fsc
theorem JW (F:Fun K "law" "law" sD f fd) (d:mg "len" = none) (c:mg "repr" = none) (b:Def P w K mg base "fewest" 17 1 iO) (h:Def P w K mg base "_law_right" 18 3 iz) (j:Def P w K mg base "_law_made" 6 1 lO) (g:Def P w K mg base "_law_model" 2 2 jQ):bW P w K mg base CX0 19 f fd ["_law_script"] (spF K BH 1):=bN F pJ λ_ _ _ _ _ _ a=>have e:=c5 a;(af (aV (i:=1) pJ.nd rfl lc (av g a (ae (mv 0) (ae am aq))))
  (af (aV (i:=2) pJ.nd rfl lc (av j a (ae (mv 1) aq)))
  (af (aV (i:=3) pJ.nd rfl lc (By a.gd a.units rfl c (mv 2)))
  (af (aV (i:=4) pJ.nd rfl lc (av b a (ae (mv 2) aq)))
  (af (bo (MW.mt (fQ (cw (bM (av h a (ae (mv 1) (ae (mv 2) (ae (mv 4) aq)))))) (dQ (aU (d8 e) fS (By a.gd a.units rfl c (mv 2)) (mv 3) (aT _)) (.inr rfl)))) (ah (aB dz)) aE)
  (af (bo (aU lh lx (mv 4) dy (aT _)) (ah (aB (eS lh lx (av b a (ae (mv 2) aq)) dy (aT _)))) aE)
  (af (aV (i:=5) pJ.nd rfl lc (cD rfl d (cH (aK (mv 4) am (λ_ _=>rfl)))))
  (af (gD (j9 (aK (mv 4) am (λ_ _=>rfl)) eP))
  (ah (aB (eS (de e) eC (cD rfl d (cH (aK (av b a (ae (mv 2) aq)) am (λ_ _=>rfl)))) (mv 5) (aT _))))))))))))
end
theorem JX {l:PySem.W.OpenLaw} {w:T7} {K:ZX} {h:Heap} {mg:Str->Option T0} {fa:Addr} (X:K.In h) (G:h.Ns mainGlobals mg) (D:mg "law" = some (.ref fa)) (AU:At K "is_whole" ni) (Y:At K "is_between" ku) (wK:At K "is_opinion" kw) (FR:At K "is_tie" sy) (wL:At K "neighbours" ky) (yT:At K "bars_told" lP) (wM:At K "stays_told" kA) (FS:At K "web_of" sA) (Do:At K "many_of" ph) (Dp:At K "ties_of" pi) (FT:At K "bar_of" sB) (Dq:At K "stay_of" pj) (AV:At K "stays_of" nj) (Dr:At K "free_of" pv) (yU:At K "is_person" lQ) (Z:At K "fits" Ah) (uc:At K "check_stand" ju) (Ds:At K "pull_at" px) (Dt:At K "next_at" pz) (Du:At K "turn_at" pA) (HF:At K "ended" v5) (qu:At K "may_be_chosen" gZ) (qv:At K "are_choosable" g0) (HG:At K "begun" v6) (yV:At K "turns_all" lR) (AW:At K "lists_of" nn) (Dv:At K "do_turn" pB) (AX:At K "left_out" nr) (M:At K "tree_above" kB) (FU:At K "fewest" sC) (qw:At K "parts_rightly" g6) (E:At K "holds_above" jv) (wN:At K "tree_holds" kC) (yW:At K "_law_cell" lS) (W:At K "_law_row" nt) (wO:At K "_law_model" kD) (wP:At K "_law_lines" kE) (yX:At K "_law_turn" lT) (sX:At K "_law_fitting" iR) (yY:At K "_law_made" lU) (wQ:At K "_law_ended" kF) (pT:At K "_law_choosable" gc) (pU:At K "_law_turns_all" ge) (J:At K "_law_holds" kG) (T:At K "_law_is_narrow" gh) (wR:At K "_law_right" kH) (LD:At K "law" sD) (wS:Nb K "isinstance") (Kc:Nb K "bool") (LE:Nb K "int") (LG:Nb K "len") (HJ:Nb K "tuple") (HK:Nb K "range") (Kd:Nb K "list") (LH:Nb K "all") (FV:Nb K "sorted") (yZ:Nb K "enumerate") (LI:Nb K "sum") (LJ:Nb K "any") (LK:Nb K "zip") (LM:Nb K "max") (LN:Nb K "set") (Ke:Nb K "repr") {jy:Tok} (ud:PySem.W.nsIn K mainGlobals "MOST_WEIGHT" = some (some (.int 400 jy))) {jA:Tok} (ue:PySem.W.nsIn K mainGlobals "MOST_PEOPLE" = some (some (.int 30 jA))) {fJ:Tok} (oH:PySem.W.nsIn K mainGlobals "MOST_FREE_TRIED" = some (some (.int 9 fJ))):∃fd:FuncData,(∀(s:T4) (v:T0),BindsTo s fd ⟨[v],[]⟩ [("_law_script",v)])/\∀base:Heap,K.In base->base.Ns mainGlobals mg->bW l.prog w K mg base CX0 19 fa fd ["_law_script"] (spF K BH 1):=by
 obtain⟨f,od,Kf,sl,oc,Kg,Kh,Ki,Kj,Kl,e,LQ,LR,LS⟩:=LD;have e:=D.symm.trans (VC X G e);cases e;have LT:=DV (st:=sD) LQ LR LS;have d:=wG X G wS;have F:=wG X G Kc;have I:=wG X G LE;have a:=wG X G LG;have c:=wG X G HJ;have b:=wG X G HK;have g:=wG X G Kd;have o:=wG X G LH;have i:=wG X G FV;have r:=wG X G yZ;have t:=wG X G LI;have FO:=wG X G LJ;have A:=wG X G LK;have FP:=wG X G LM;have O:=wG X G LN;have V:=wG X G Ke;have jz:=VC X G ud;have jB:=VC X G ue;have fK:=VC X G oH;refine⟨PySem.W.fnOf "law" "law" (ez sD) (dN sD) (aw sD) .none Kg Kh Ki Kf Kj Kl,λs v=>.of_eq rfl,λbase KB _ => ?_⟩;have q:En l.prog w K mg base:=⟨h,X,G⟩;have Q:=AU.df1 q λU=>yt U d F I;have k:=Y.df3 q λU=>tM U Q;have R:=wK.df1 q λU=>tP U k;have FW:=FR.df2 q λU=>C4 U a d c jz k;have wT:=wL.df2 q λU=>tQ U b d g FW;have y4:=yT.df2 q λU=>wa U c o a d g Q;have wU:=wM.df2 q λU=>tS U c o a d g b R;have FX:=FS.df4 q λU=>C5 U c i jB wU y4 wT k;have n:=Do.df1 q λU=>Aj U a;have Dw:=Dp.df2 q λU=>Al U;have FY:=FT.df2 q λU=>C7 U;have z:=Dq.df2 q λU=>An U;have S:=AV.df1 q λU=>yv U g;have L:=Dr.df1 q λU=>Ap U r S;have y6:=yU.df2 q λU=>wc U k n;have Km:=Z.df2 q λU=>Hh U r a d c z R n;have uf:=uc.df2 q λU=>sG U Km;have Dx:=Ds.df3 q λU=>Ar U t Dw;have Dy:=Dt.df3 q λU=>As U FY Dx z;have Dz:=Du.df2 q λU=>Av U c b n Dy;have HL:=HF.df2 q λU=>Fk U a Dz uf;have N:=qu.df2 q λU=>pF U z y6;have H:=qv.df2 q λU=>pH U o b a d g N;have HM:=HG.df2 q λU=>Fo U c r S H;have y7:=yV.df2 q λU=>we U HL HM;have AZ:=AW.df1 q λU=>yw U i a;have m:=Dv.df3 q λU=>Aw U c y7;have A0:=AX.df3 q λU=>yx U i L m;have p:∀j,Def l.prog w K mg base "tree_above" (9 + j) 4 (cu j):=λj=>by
  induction j with
  | zero=>exact M.df4 (ps:=["web", "m", "chosen", "known"]) q λ_=>om
  | succ j ih=>exact M.df4 q λU=>tT j U A0 ih
 replace p:=p 7;have FZ:=FU.df1 q λU=>C8 U a fK AZ m p L;have qx:=qw.df5 q λU=>pI U b FO a m N n H;have y:∀j,Def l.prog w K mg base "holds_above" (9 + j) 5 (bP j):=λj=>by
  induction j with
  | zero=>exact E.df5 (ps:=["web", "m", "tree", "chosen", "known"]) q λ_=>om
  | succ j ih=>exact E.df5 q λU=>sI j U A i qx m ih
 replace y:=y 7;have wV:=wN.df3 q λU=>tV U y;have y8:=yW.df2 q λU=>wg U a;have A1:=W.df4 q λU=>yy U b;have wW:=wO.df2 q λU=>tW U b t FP A1 y8;have wX:=wP.df1 q λU=>tX U b a;have y9:=yX.df2 q λU=>wj U c b a t;have tj:=sX.df2 q λU=>qp U c b a;have zc:=yY.df1 q λU=>wn U g a FX wX;have wY:=wQ.df2 q λU=>tY U y9;have x:=pT.df1 q λU=>ot U b a;have u:=pU.df2 q λU=>ou U b a I wY tj;have B:∀j,Def l.prog w K mg base "_law_holds" (3 + j) 4 (cS j):=λj=>by
  induction j with
  | zero=>exact J.df4 (ps:=["_law_model_here", "_law_many", "_law_tree", "_law_chosen"]) q λ_=>om
  | succ j ih=>exact J.df4 q λU=>tZ j U A a i O u x ih
 replace B:=B 7;have C:∀j,Def l.prog w K mg base "_law_is_narrow" (3 + j) 2 (bE j):=λj=>by
  induction j with
  | zero=>exact T.df2 (ps:=["_law_model_here", "_law_tree"]) q λ_=>om
  | succ j ih=>exact T.df2 q λU=>ow j U A u x ih
 replace C:=C 7;have wZ:=wR.df3 q λU=>t6 U a i O d F g c wV C B u x;exact JW (P:=l.prog) (w:=w) (base:=base) LT a V FZ wZ zc wW
end Fm
namespace Fm
theorem Ax (l:List Int):fg (l.map D.int)=true:=iw λ_ _=>rfl
abbrev NL (l:List Nat):List D:=l.map λk:Nat=>D.int k
structure Ch (w:Web) (n:Nat) (l:List Nat):Prop where
 up:l.Pairwise (· < ·)
 lt:∀p∈l,p < n
 no:∀p∈l,w.stays.getD p none≠some 0
def cF (w:Web) (n:Nat) (l:List Nat):List Int:=(List.range n).map λi=>if i∈l\/w.stays.getD i none=some 1 then 1 else 0
theorem wo (u:Option Int)(h:Hd):oNe (bq u) (.int 0) h=.ok (.bl (decide (u≠some 0))) h:=by
 cases u with
 | none=>rfl
 | some v =>
  show oNe (.int v) (.int 0) h=_;rw[o6]
  by_cases e:v=0
  ·rw[yQ e,y3 (λz=>z (by rw[e]))];rfl
  ·rw[y3 e,yQ (show (some v≠some (0:Int)) from λz=>e (ZT z))];rfl
theorem Fp (u:Option Int)(h:Hd):oEq (bq u) (.int 1) h=.ok (.bl (decide (u=some 1))) h:=by
 cases u with
 | none=>rfl
 | some v =>
  show oEq (.int v) (.int 1) h=_;rw[yd]
  by_cases e:v=1
  ·rw[yQ e,yQ (by rw[e])]
  ·rw[y3 e,y3 (λz=>e (ZT z))]
variable {l:List Nat}{h:Hd}
theorem uX {k:Nat}(d:h[k]? = some (.lst (NL l)))(i:Nat):oIn (.int (i:Nat)) (.ref k) h=.ok (.bl (decide (i∈l))) h:=by
 have f:(NL l).all eI=true:=by
  rw[List.all_eq_true];intro x b;obtain⟨j,_,rfl⟩:=List.mem_map.mp b;rfl
 have a:((NL l).any λz=>eqF z (.int (i:Nat)))=decide (i∈l):=by
  by_cases e:i∈l
  ·rw[yQ e,List.any_eq_true]
   exact⟨.int (i:Nat),List.mem_map.mpr ⟨i,e,rfl⟩,by simp⟩
  ·rw[y3 e,List.any_eq_false]
   intro x b z;obtain⟨j,c,rfl⟩:=List.mem_map.mp b;have z:((j:Int) == (i:Int))=true:=z;have:j=i:=by have:=eq_of_beq z;omega
   exact e (this ▸ c)
 simp only[oIn,inL,iZ,d,eI,f,VE,YL,a]
variable {p:Nat}{σ:Sd}
section
variable {w:Web} {n:Nat} {l:List Nat}
theorem Ic (W:w.Ok n)(hp:p < n):atI (w.stays.map bq) (p:Int)=some (bq (w.stays.getD p none)):=by
 have h:p < w.stays.length:=W.s.symm ▸ hp;rw[ZF,ZE h];exact ef (by rw[ZQ,ZE h];rfl)
theorem uY (W:w.Ok n)(hp:p < n)(h:Hd):jb [w.enc,.int (p:Nat)] h=.ok (.bl true) h:=by
 have m:cE [w.enc] h=.ok (.int n) h:=by rw[i8,W.t]
 have b:bI [.int (p:Nat),.int 0,.int ((n:Int) - 1)] h=.ok (.bl true) h:=by
  have:=fD (p:Int) 0 ((n:Int) - 1) h;rw[this,yQ (show (0:Int)<=p by omega),yQ (show (p:Int)<=(n:Int) - 1 by omega)];rfl
 exact(bG rfl rfl (aR (ar (ak rfl (bV rfl (aj (ar (ak rfl rfl) m) rfl rfl))) b))).trans a0
theorem C9 (W:w.Ok n)(hp:p < n)(no:w.stays.getD p none≠some 0)(h:Hd):bj [w.enc,.int (p:Nat)] h=.ok (.bl true) h:=by
 have s:dY [w.enc,.int (p:Nat)] h=.ok (bq (w.stays.getD p none)) h:=(bG rfl rfl (aR (aF (aF rfl rfl rfl rfl) rfl rfl (Ic W hp)))).trans a0;exact(bG rfl rfl (aR (kT (kh (aI (ar (bV rfl rfl) (uY W hp h))) (aI (aj (ar (bV rfl rfl) s) rfl (by rw[wo,yQ no]))))))).trans a0
theorem Fq {α : Type}(l:List α):fP (l.map λ_=>D.bl true)=some (l.map λ_=>true):=by
 induction l with
 | nil=>rfl
 | cons x l ih=>simp[fP,ih]
theorem Lq {α : Type}(l:List α):(l.map λ_=>true).all id=true:=by simp
theorem Hi {a:EF}{m:Nat}(hm:m<=1000)(p:a σ h=.ok (.int ((m:Int) - 1)) h):bK a σ h=.ok ((List.range (m - 1)).map (λk:Nat=>D.int k),none) h:=by
 show Res.bind _ _=_;rw[p];show (if -1000000<=(m:Int) - 1/\(m:Int) - 1<=1000000 then Res.ok ((List.range ((m:Int) - 1).toNat).map (λk:Nat=>D.int k),(none:Option Nat)) h else Res.bad)=_;rw[z4 ⟨by omega,by omega⟩,show ((m:Int) - 1).toNat=m - 1 by omega]
theorem yz:∀{m:Nat} {l:List Nat},l.Pairwise (· < ·)->(∀x∈l,x < m)->l.length<=m
 | m,[],_,_=>Z8 _
 | 0,x :: l,_,h=>absurd (h x (by simp)) (by omega)
 | m + 1,x :: l,p,h=>by
  have c:=List.pairwise_cons.mp p;have:=yz (m:=m) (l:=l.map (· - 1)) (by
   rw[YY];refine c.2.imp_of_mem λ{a b} g e q => ?_;have:=c.1 a g;have:=c.1 b e;omega) (λy f=>by
   obtain⟨z,d,rfl⟩:=List.mem_map.mp f;have:=h z (by simp[d]);have:=c.1 z d;omega)
  simp at this ⊢;omega
theorem Lr (C:Ch w n l):l.length<=n:=yz C.up C.lt
theorem oy (W:w.Ok n)(n30:n<=30)(C:Ch w n l){k:Nat}(c:h[k]? = some (.lst (NL l))):cU [w.enc,.ref k] h=.ok (.bl true) h:=by
 have q:bR (some k) (NL l) (gN 0) [] (au bj (ab (aa 1) (ab (aa 0) ao))) (NL l) [none,some w.enc] h=.ok ((NL l).map λ_=>D.bl true) h:=by
  have:=bT (g:=some k) (all:=NL l) (tg:=gN 0) (cs:=[]) (e:=au bj (ab (aa 1) (ab (aa 0) ao))) (h:=h) (I:=λσ=>∃a,σ = [a,some w.enc]) (λ_=>true) (λ_=>.bl true) c (xs:=NL l) (σ:=[none,some w.enc]) (by
   rintro x d σ ⟨a,rfl⟩;obtain⟨i,hi,rfl⟩:=List.mem_map.mp d;exact⟨_,rfl,⟨_,rfl⟩,rfl,λ_=>ar (bV rfl rfl) (C9 W (C.lt i hi) (C.no i hi) h)⟩) ⟨_,rfl⟩
  rw[this,List.filter_eq_self.mpr (λ_ _=>rfl)]
 have o:bR none ((List.range (l.length - 1)).map λk:Nat=>D.int k) (gN 0) [] (ag oLt (fAt (aa 1) (aa 0)) (fAt (aa 1) (ag ei (aa 0) (fC (.int 1))))) ((List.range (l.length - 1)).map λk:Nat=>D.int k) [none,some (.ref k)] h=.ok (((List.range (l.length - 1)).map λk:Nat=>D.int k).map λ_=>D.bl true) h:=by
  have:=bT (g:=none) (all:=(List.range (l.length - 1)).map λk:Nat=>D.int k) (tg:=gN 0) (cs:=[]) (e:=ag oLt (fAt (aa 1) (aa 0)) (fAt (aa 1) (ag ei (aa 0) (fC (.int 1))))) (h:=h) (I:=λσ=>∃a,σ = [a,some (.ref k)]) (λ_=>true) (λ_=>.bl true) trivial (xs:=(List.range (l.length - 1)).map λk:Nat=>D.int k) (σ:=[none,some (.ref k)]) (by
   rintro x d σ ⟨a,rfl⟩;obtain⟨i,hi,rfl⟩:=List.mem_map.mp d;have hi:=List.mem_range.mp hi;have h1:i < l.length:=by omega
   have h2:i + 1 < l.length:=by omega
   have p:atI (NL l) (i:Int)=some (.int (l[i] : Nat)):=ef (by rw[ZQ,ZE h1];rfl);have f:atI (NL l) ((i:Int) + 1)=some (.int (l[i + 1] : Nat)):=by
    have:atI (NL l) ((i + 1:Nat):Int)=some (.int (l[i + 1] : Nat)):=ef (by rw[ZQ,ZE h2];rfl);exact this
   have lt:=List.pairwise_iff_getElem.mp C.up i (i + 1) h1 h2 (wB _);exact⟨_,rfl,⟨_,rfl⟩,rfl,λ_=>aj (aF rfl rfl (aH c) p) (aF rfl (aj rfl rfl rfl) (aH c) f) (EU (by omega))⟩) ⟨_,rfl⟩
  rw[this,List.filter_eq_self.mpr (λ_ _=>rfl)]
 have s:=Lr C;have m:sIf (cZ (tE (eT .list (aa 1)))) (aZ (fC (.bl false))) br [some w.enc,some (.ref k)] h=.nx [some w.enc,some (.ref k)] h:=(ca (bU (b:=true) (aI (r6 rfl c)))).trans rfl;have r:sIf (cZ (tE (xg (bL 1 [0] (d7 (aa 1)) (gN 0) [] (au bj (ab (aa 1) (ab (aa 0) ao))))))) (aZ (fC (.bl false))) br [some w.enc,some (.ref k)] h=.nx [some w.enc,some (.ref k)] h:=(ca (bU (b:=true) (aI ((oZ (cx (dv rfl c) q) (Fq _)).trans (by rw[Lq]))))).trans rfl;have j:ag fL (cB (lOf (aa 1))) (fC (.int 1)) [some w.enc,some (.ref k)] h=.ok (.int ((l.length:Int) - 1)) h:=aj (x:=.int (l.length:Nat)) ((c6 (bQ rfl (aH c))).trans (by rw[ZA])) rfl rfl;exact(bG rfl rfl ((dX m).trans ((dX r).trans (aR ((oZ (cx (Hi (by omega) j) o) (Fq _)).trans (by rw[Lq])))))).trans a0
theorem eB (W:w.Ok n)(S:eF w)(C:Ch w n l):dS w n (cF w n l):=by
 refine⟨by simp[cF],λx a => ?_,λi x e => ?_⟩
 ·obtain⟨i,_,rfl⟩:=List.mem_map.mp a
  split
  ·exact .inr rfl
  ·exact .inl rfl
 ·have hi:i < n:=by have:=(List.getElem?_eq_some_iff.mp e).1;rwa[W.s]at this
  have g:w.stays.getD i none=some x:=by rw[ZF,e];rfl
  have b:=S (some x) (ZK e);show ((List.range n).map _)[i]? = _;rw[ZQ,List.getElem?_range hi];show some (if i∈l\/w.stays.getD i none=some 1 then (1:Int) else 0)=_;rcases b with z|z|z
  ·cases z
  ·have z:=ZT z
   subst z;rw[z5];rintro (q|q)
   ·exact C.no i q g
   ·rw[g]at q;cases q
  ·have z:=ZT z
   subst z;rw[z4 (.inr g)]
theorem Ft {l:List D}{x:D}(b:x∈fw l):∃(i:Nat) (d:D),l[i]? = some d/\x=.tup [.int (i:Nat),d]:=by
 unfold fw at b;obtain⟨p,e,rfl⟩:=List.mem_map.mp b;obtain⟨k,a⟩:=List.getElem?_of_mem e;rw[List.getElem?_zip_eq_some]at a;obtain⟨h1,h2⟩:=a;have:p.1=k:=by
  obtain⟨f,c⟩:=List.getElem?_eq_some_iff.mp h1;simpa using c.symm
 exact⟨k,p.2,h2,by rw[this]⟩
theorem Fu (ss:List (Option Int))(f:Nat->Option Int->D):(fw (ss.map bq)).map (λd=>match d with | .tup [.int i,_]=>f i.toNat (ss.getD i.toNat none)|_=>.non)=(List.range ss.length).map λi=>f i (ss.getD i none):=by
 unfold fw;rw[wC];apply Z0;intro i
 by_cases hi:i < ss.length
 ·rw[ZQ,ZQ,List.getElem?_range hi]
  have:((List.range (ss.map bq).length).zip (ss.map bq))[i]? = some (i,bq ss[i]):=by
   rw[List.getElem?_zip_eq_some];exact⟨List.getElem?_range (by simpa using hi),by rw[ZQ,ZE hi];rfl⟩
  rw[this];rfl
 ·rw[List.getElem?_eq_none (by simp;omega),List.getElem?_eq_none (by simp;omega)]
theorem Fv (W:w.Ok n)(n30:n<=30)(C:Ch w n l){k:Nat}(v:h[k]? = some (.lst (NL l))):oj [w.enc,.ref k] h=.ok (ay (cF w n l)) h:=by
 obtain⟨A,q⟩ : ∃A,A=h.length:=⟨_,rfl⟩;have s:c8 [w.enc] h=.ok (.ref A) (h++[.lst (w.stays.map bq)]):=(bG rfl rfl (aR (nX q (bQ (aF rfl rfl rfl rfl) rfl) (by rw[ZA,W.s];exact ZM n30 (by decide))))).trans dR;obtain⟨h1,g⟩ : ∃h1:Hd,h1=h++[.lst (w.stays.map bq)]:=⟨_,rfl⟩;rw[<-g]at s;have t:h1[A]? = some (.lst (w.stays.map bq)):=by rw[g];exact ij q _
 have p:h1[k]? = some (.lst (NL l)):=by rw[g];exact aA _ v
 have c:=rA (G:=λB=>B[A]? = some (.lst (w.stays.map bq))) (tg:=gT [0,1]) (cs:=[]) (e:=fIf (tOr (tE (ag oIn (aa 0) (aa 2))) (tE (ag oEq (aa 1) (fC (.int 1))))) (fC (.int 1)) (fC (.int 0))) (h:=h1) (I:=λσ=>∃a b,σ = [a,b,some (.ref k)]) (λ_=>true)
  (λd=>match d with | .tup [.int i,_]=>(λi u=>D.int (if i∈l\/u=some 1 then 1 else 0)) i.toNat (w.stays.getD i.toNat none)|_=>.non) t (xs:=fw (w.stays.map bq)) (σ:=[none,none,some (.ref k)]) (by
   rintro x E σ ⟨a,b,rfl⟩;obtain⟨i,d,hd,rfl⟩:=Ft E;have j:i < w.stays.length:=by have:=(List.getElem?_eq_some_iff.mp hd).1;rwa[ZA]at this
   have hd':d=bq (w.stays.getD i none):=by
    rw[ZQ,ZE j]at hd;rw[ZF,ZE j];exact(ZT hd).symm
   subst hd';refine⟨_,rfl,⟨_,_,rfl⟩,rfl,λ_ => ?_⟩;show fIf (tOr (tE (ag oIn (aa 0) (aa 2))) (tE (ag oEq (aa 1) (fC (.int 1))))) (fC (.int 1)) (fC (.int 0)) [some (.int i),some (bq (w.stays.getD i none)),some (.ref k)] h1=.ok (.int (if ((i:Int)).toNat∈l\/w.stays.getD ((i:Int)).toNat none=some 1 then 1 else 0)) h1;rw[WL];have m:tE (ag oIn (aa 0) (aa 2)) [some (.int i),some (bq (w.stays.getD i none)),some (.ref k)] h1=.ok (decide (i∈l)) h1:=aI (aj rfl rfl (uX p i));have o:tE (ag oEq (aa 1) (fC (.int 1))) [some (.int i),some (bq (w.stays.getD i none)),some (.ref k)] h1=.ok (decide (w.stays.getD i none=some 1)) h1:=aI (aj rfl rfl (Fp _ _))
   by_cases c1:i∈l
   ·rw[yQ c1]at m
    rw[z4 (.inl c1)];exact(sd (ET m)).trans rfl
   ·rw[y3 c1]at m
    by_cases c2:w.stays.getD i none=some 1
    ·rw[yQ c2]at o
     rw[z4 (.inr c2)];exact(sd (eE m o)).trans rfl
    ·rw[y3 c2]at o
     rw[z5 (λz=>z.elim c1 c2)];exact(vW (eE m o)).trans rfl) ⟨_,_,rfl⟩
 rw[List.filter_eq_self.mpr (λ_ _=>rfl),Fu w.stays (λi u=>D.int (if i∈l\/u=some 1 then 1 else 0)),W.s]at c;have H:lG 2 [1] (au c8 (ab (aa 0) ao)) (gT [0,1]) [] (fIf (tOr (tE (ag oIn (aa 0) (aa 2))) (tE (ag oEq (aa 1) (fC (.int 1))))) (fC (.int 1)) (fC (.int 0))) [some w.enc,some (.ref k)] h=.ok ((cF w n l).map .int) h1:=by
  have f:=ar (F:=c8) (r:=ab (aa 0) ao) (σ:=[some w.enc,some (.ref k)]) (ak rfl rfl) s;unfold lG;rw[f];simp only[t];refine c.trans ?_;unfold cF;rw[wC];rfl
 have y:sIf (cZ (tE (au cU (ab (aa 0) (ab (aa 1) ao))))) nG br [some w.enc,some (.ref k)] h=.nx [some w.enc,some (.ref k)] h:=(ca (bU (b:=true) (aI (ar (bV rfl rfl) (oy W n30 C v))))).trans rfl;refine(bG rfl rfl ((dX y).trans (aR (ii H)))).trans ?_;rw[g];exact cr (by simp only[pure?];exact Ax _)
end
theorem Fw {l:List D}{k:Nat}(a:1<=k):cut l (some (-(k:Int))) none=l.drop (l.length - k):=by
 have e:sIx l.length 0 (some (-(k:Int)))=l.length - k:=by
  show (if -(k:Int) < 0 then (-(k:Int) + (l.length:Nat)).toNat else _)=_;rw[z4 (by omega)];omega
 unfold cut;rw[e];exact List.take_of_length_le (by rw[List.length_drop];exact ZL _)
theorem Da {l:List D}{k:Nat}(a:1<=k):cut l none (some (-(k:Int)))=l.take (l.length - k):=by
 have e:sIx l.length l.length (some (-(k:Int)))=l.length - k:=by
  show (if -(k:Int) < 0 then (-(k:Int) + (l.length:Nat)).toNat else _)=_;rw[z4 (by omega)];omega
 unfold cut;rw[e];rfl
variable {n:Nat}
theorem yA {a:EF}{lo hi:OF}{h1 h2 b:Hd}{i j:Option Int}{l:List D}(p:a σ h=.ok (.ref n) h1)(q:lo σ h1=.ok i h2)(r:hi σ h2=.ok j b)(s:b[n]? = some (.lst l)):j5 a lo hi σ h=.ok (.ref b.length) (b++[.lst (cut l i j)]):=by
 simp only[j5,p,aW,q,r,dI,s]
variable {A:Nat}
section
variable {w:Web} {n:Nat} {s:List Int}
theorem sJ (t j:Nat):(aX w n s (t + j)).drop t=(List.range j).map λi=>aM w n s (t + i):=by
 unfold aX;apply Z0;intro i;rw[List.getElem?_drop,ZQ,ZQ]
 by_cases hi:i < j
 ·rw[List.getElem?_range (by omega),List.getElem?_range hi];rfl
 ·rw[List.getElem?_eq_none (by simp;omega),List.getElem?_eq_none (by simp;omega)];rfl
theorem Ay (t j:Nat):(aX w n s (t + j)).take t=aX w n s t:=by
 unfold aX;rw[<-List.map_take,List.take_range,Nat.min_eq_left (Z1 t j)]
def NOT:D:=.str [110,111,116]
def TRN:D:=.str [116,117,114,110]
def yB (w:Web) (n:Nat) (s:List Int) (t:Nat):D:=if aM w n s (t + 1)=aM w n s t then (if (0:Int)∈aM w n s (t + 1) then NOT else TRN) else NOT
def Fx (w:Web) (n:Nat) (s:List Int) (t:Nat):List (List Int):=if aM w n s (t + 1)=aM w n s t then (if (0:Int)∈aM w n s (t + 1) then [aM w n s (t + 1)] else aX w n s (t + 1)) else [aM w n s t,aM w n s (t + 1)]
theorem BI (l:List Int)(x:Int)(h:Hd):inL h (.int x) (ay l)=some (decide (x∈l)):=by
 have f:(l.map D.int).all eI=true:=by
  rw[List.all_eq_true];intro x d;obtain⟨j,_,rfl⟩:=List.mem_map.mp d;rfl
 have a:((l.map D.int).any λz=>eqF z (.int x))=decide (x∈l):=by
  by_cases e:x∈l
  ·rw[yQ e,List.any_eq_true]
   exact⟨.int x,List.mem_map.mpr ⟨x,e,rfl⟩,by simp⟩
  ·rw[y3 e,List.any_eq_false]
   intro y c z;obtain⟨j,b,rfl⟩:=List.mem_map.mp c;have z:(j == x)=true:=z;exact e (eq_of_beq z ▸ b)
 simp only[inL,ay,iZ,eI,f,VE,YL,a]
theorem JY (l:List Int)(x:Int)(h:Hd):oIn (.int x) (ay l) h=.ok (.bl (decide (x∈l))) h:=by
 unfold oIn;rw[BI]
theorem uZ (l:List Int)(x:Int)(h:Hd):bY (.int x) (ay l) h=.ok (.bl (!decide (x∈l))) h:=by
 unfold bY;rw[BI]
theorem wp (W:w.Ok n)(n30:n<=30)(S:eF w)(C:Ch w n l){k:Nat}(K:h[k]? = some (.lst (NL l)))(u:A=h.length){t:Nat}(ht:aM w n (cF w n l) (t + 2)=aM w n (cF w n l) t)(hm:∀k,k < t->aM w n (cF w n l) (k + 2)≠aM w n (cF w n l) k)(hz:t<=900000) :
  jc [w.enc,.ref k] h=.ok (.tup [yB w n (cF w n l) t,.ref (A + 1)]) (h++[.lst ((aX w n (cF w n l) (t + 2)).map ay),.lst ((Fx w n (cF w n l) t).map ay)]):=by
 have F:=eB W S C;obtain⟨s,H⟩ : ∃s,s=cF w n l:=⟨_,rfl⟩;have G:=Fv W n30 C K;rw[<-H]at ht hm F G ⊢;have i:=E8 W S F ht hm hz h;rw[<-u]at i;obtain⟨b,hw⟩ : ∃b,b=if aM w n s (t + 1)=aM w n s t then [114,101,115,116] else [112,97,105,114]:=⟨_,rfl⟩
 rw[<-hw]at i;obtain⟨h1,c⟩ : ∃h1,h1=h++[aS.lst ((aX w n s (t + 2)).map ay)]:=⟨_,rfl⟩;rw[<-c]at i;have v:h1[A]? = some (.lst ((aX w n s (t + 2)).map ay)):=by rw[c];exact ij u _
 have l1:h1.length=A + 1:=by rw[c,ZB,u];rfl
 have B:((aX w n s (t + 2)).map ay).length=t + 2:=by rw[ZA,iu]
 have X:=[some w.enc,some (.ref k),some (D.tup [.int t,.str b,.ref A]),some (.str b),some (.ref A)];have p:aQ (gN 2) (au mx (ab (aa 0) (ab (au oj (ab (aa 0) (ab (aa 1) ao))) ao))) [some w.enc,some (.ref k),none,none,none] h=.nx [some w.enc,some (.ref k),some (D.tup [.int t,.str b,.ref A]),none,none] h1:=aD (ar (bV rfl (ar (bV rfl rfl) G)) i);have x:aQ (gN 3) (fAt (aa 2) (fC (.int 1))) [some w.enc,some (.ref k),some (D.tup [.int t,.str b,.ref A]),none,none] h1=.nx [some w.enc,some (.ref k),some (D.tup [.int t,.str b,.ref A]),some (.str b),none] h1:=aD (aF rfl rfl rfl rfl);have o:aQ (gN 4) (fAt (aa 2) (fC (.int 2))) [some w.enc,some (.ref k),some (D.tup [.int t,.str b,.ref A]),some (.str b),none] h1=.nx [some w.enc,some (.ref k),some (D.tup [.int t,.str b,.ref A]),some (.str b),some (.ref A)] h1:=aD (aF rfl rfl rfl rfl);have I:atI ((aX w n s (t + 2)).map ay) (-1)=some (ay (aM w n s (t + 1))):=fF (t + 1) 1 (by decide);have f:∀(d:D) (L:List D),(h1++[aS.lst L])=h++[.lst ((aX w n s (t + 2)).map ay),.lst L]:=λd L=>by rw[c,ZU];rfl
 have go:∀{d:D} {g:Hd},letGo h (.ok (.tup [d,.ref (A + 1)]) g)=.ok (.tup [d,.ref (A + 1)]) g:=λ{d g}=>jK (by simp[pure?,fg]);have sl:∀{j:Nat} (y:1<=j) (σ:Sd) (e:aa 4 σ h1=.ok (.ref A) h1),j5 (aa 4) (pAt (fC (.int (-(j:Int))))) pNo σ h1=.ok (.ref (A + 1)) (h1++[.lst (((aX w n s (t + 2)).map ay).drop (t + 2 - j))]):=λ{j} y σ e=>by
  have:=yA (a:=aa 4) (lo:=pAt (fC (.int (-(j:Int))))) (hi:=pNo) (σ := σ) e rfl rfl v;rw[Fw y,B,l1]at this;exact this
 by_cases q:aM w n s (t + 1)=aM w n s t
 ·rw[z4 q]at hw
  have E:sIf (tE (ag oEq (aa 3) (fC (.str [112,97,105,114])))) (aZ (j0 (ab (fC (.str [110,111,116])) (ab (j5 (aa 4) (pAt (fC (.int (-2)))) pNo) ao)))) br [some w.enc,some (.ref k),some (D.tup [.int t,.str b,.ref A]),some (.str b),some (.ref A)] h1=.nx [some w.enc,some (.ref k),some (D.tup [.int t,.str b,.ref A]),some (.str b),some (.ref A)] h1:=by
   rw[hw];exact(ca (aI (aj rfl rfl rfl))).trans rfl
  have m:tE (ag oIn (fC (.int 0)) (fAt (aa 4) (fC (.int (-1))))) [some w.enc,some (.ref k),some (D.tup [.int t,.str b,.ref A]),some (.str b),some (.ref A)] h1=.ok (decide ((0:Int)∈aM w n s (t + 1))) h1:=aI (aj rfl (aF rfl rfl (aH v) I) (JY _ _ _))
  by_cases z:(0:Int)∈aM w n s (t + 1)
  ·rw[yQ z]at m
   have r:=sl (j:=1) (ZL _) [some w.enc,some (.ref k),some (D.tup [.int t,.str b,.ref A]),some (.str b),some (.ref A)] rfl;rw[show t + 2 - 1=t + 1 from rfl,<-List.map_drop,show t + 2=(t + 1) + 1 from rfl,sJ]at r;unfold yB Fx;rw[z4 q,z4 z,z4 q,z4 z];refine(bG rfl rfl ((dX p).trans ((dX x).trans ((dX o).trans ((dX E).trans (jL ((gX m).trans (aR (iK (bV rfl r)))))))))).trans (go.trans ?_);rw[f .non];rfl
  ·rw[y3 z]at m
   have r:=yA (a:=aa 4) (lo:=pNo) (hi:=pAt (fC (.int (-((1:Nat):Int))))) (σ:=[some w.enc,some (.ref k),some (D.tup [.int t,.str b,.ref A]),some (.str b),some (.ref A)]) (h:=h1) rfl rfl rfl v;rw[Da (ZL 1),B,l1,<-List.map_take,show t + 2 - 1=t + 1 from rfl,show t + 2=(t + 1) + 1 from rfl,Ay]at r;unfold yB Fx;rw[z4 q,z5 z,z4 q,z5 z];refine(bG rfl rfl ((dX p).trans ((dX x).trans ((dX o).trans ((dX E).trans ((dX ((ca m).trans rfl)).trans (aR (iK (bV rfl r))))))))).trans (go.trans ?_);rw[f .non];rfl
 ·rw[z5 q]at hw
  have J:tE (ag oEq (aa 3) (fC (.str [112,97,105,114]))) [some w.enc,some (.ref k),some (D.tup [.int t,.str b,.ref A]),some (.str b),some (.ref A)] h1=.ok true h1:=by
   rw[hw];exact aI (aj rfl rfl rfl)
  have r:=sl (j:=2) (by decide) [some w.enc,some (.ref k),some (D.tup [.int t,.str b,.ref A]),some (.str b),some (.ref A)] rfl;rw[show t + 2 - 2=t from rfl,<-List.map_drop,sJ]at r;unfold yB Fx;rw[z5 q,z5 q];refine(bG rfl rfl ((dX p).trans ((dX x).trans ((dX o).trans (jL ((gX J).trans (aR (iK (bV rfl r))))))))).trans (go.trans ?_);rw[f .non];rfl
theorem sK (a b:Nat)(e:aM w n s a=aM w n s b):∀k,aM w n s (a + k)=aM w n s (b + k)
 | 0=>e
 | k + 1=>by
  show cO w n (aM w n s (a + k))=cO w n (aM w n s (b + k));rw[sK a b e k]
end
structure qJ (w:Web) (n:Nat) (s:List Int) (b:Bool):Prop where
 go:∃t,t<=900000/\aM w n s (t + 2)=aM w n s t/\(∀k,k < t->aM w n s (k + 2)≠aM w n s k)/\yB w n s t=if b=true then TRN else NOT
def kyL (l:List Nat):List Int:=l.map λk:Nat=>(k:Int)
theorem eM:∀l:List Nat,dm (NL l)=some (kyL l)
 | []=>rfl
 | x :: l=>by
  show (dm (NL l)).map ((x:Int) :: ·)=_;rw[eM l];rfl
theorem Hj {a b:List Nat}(e:kyL a=kyL b):a=b:=by
 have:=congrArg (List.map Int.toNat) e;simpa[kyL,wC,Function.comp_def] using this
theorem Az {mm:List (List Int × D)}{k a:List Int}{v:D}(h:eD mm k=none):eD (mm++[(k,v)]) a=if a=k then some v else eD mm a:=by
 unfold eD at h ⊢;rw[List.find?_append]
 by_cases c:a=k
 ·subst c
  have:mm.find? (λp=>decide (p.1=a))=none:=Option.map_eq_none_iff.mp h;rw[this];simp
 ·have : ¬k=a:=λz=>c z.symm
  rw[z5 c];simp[this]
theorem Db {mm:List (List Int × D)}{k:List Int}{v:D}(h:eD mm k=none):rC mm k v=mm++[(k,v)]:=by
 unfold rC;rw[z5];intro z;obtain⟨p,a,e⟩:=List.any_eq_true.mp z;have h2:mm.find? (λp=>decide (p.1=k))=none:=Option.map_eq_none_iff.mp h;exact List.find?_eq_none.mp h2 p a e
theorem u5 {k:List Int}{l:List D}{mm:List (List Int × D)}(e:dm l=some k)(p:h[n]? = some (.dcT mm)):nQ (.tup l) (.ref n) h=.ok (.bl (!(eD mm k).isSome)) h:=by
 simp only[nQ,e,p]
theorem Hk {x i e:EF}{h1 h2 a:Hd}{v:D}{l:List D}{k:List Int}{mm:List (List Int × D)}(p:e σ h=.ok v h1)(q:x σ h1=.ok (.ref n) h2)(r:i σ h2=.ok (.tup l) a)(c:dm l=some k)(g:a[n]? = some (.dcT mm))(z:mm.length < SZ):Bo x i e σ h=.nx σ (a.set n (.dcT (rC mm k v))):=by
 simp only[Bo,outE,p,q,r,c,g,z4 z]
theorem BJ {a b:EF}{h1 h2:Hd}{l:List D}{k:List Int}{mm:List (List Int × D)}{v:D}(p:a σ h=.ok (.ref n) h1)(q:b σ h1=.ok (.tup l) h2)(c:dm l=some k)(g:h2[n]? = some (.dcT mm))(z:eD mm k=some v):Eu a b σ h=.ok v h2 :=
 aj p q (by simp only[Bp,c,g,z])
def Kn (b:Bool) (l:List Nat) (mm mm':List (List Int × D)):Prop:=mm'=mm\/eD mm (kyL l)=none/\mm'=mm++[(kyL l,.bl b)]
theorem AA {w:Web}{b:Bool}(W:w.Ok n)(n30:n<=30)(S:eF w)(C:Ch w n l){k d:Nat}{mm:List (List Int × D)}(m:h[k]? = some (.lst (NL l)))(hd:h[d]? = some (.dcT mm))(hz:mm.length < 1000)(s:(mm.all λp=>pure? p.2)=true)(E:qJ w n (cF w n l) b)(a:eD mm (kyL l)=none\/eD mm (kyL l)=some (.bl b)) :
  ∃f,cQ [w.enc,.ref k,.ref d] h=.ok (.bl b) (h.set d (.dcT f))/\Kn b l mm f:=by
 have j:d < h.length:=(List.getElem?_eq_some_iff.mp hd).1;rcases a with a|a
 ·obtain⟨t,A,q,v,x⟩:=E.go
  have ta:=wp W n30 S C m rfl q v A;obtain⟨g,z⟩ : ∃g:Hd,g=[.lst ((aX w n (cF w n l) (t + 2)).map ay),.lst ((Fx w n (cF w n l) t).map ay)]:=⟨_,rfl⟩;rw[<-z]at ta;have o:(h++g)[d]? = some (.dcT mm):=aA _ hd;have u:oEq (yB w n (cF w n l) t) (.str [116,117,114,110]) (h++g)=.ok (.bl b) (h++g):=by
   rw[x];cases b<;>rfl
  have y:(h++g).set d (.dcT (mm++[(kyL l,.bl b)]))=h.set d (.dcT (mm++[(kyL l,.bl b)]))++g:=Y8 _ _ j;refine⟨mm++[(kyL l,.bl b)],?_,.inr ⟨a,rfl⟩⟩;refine x4 (bG (σ:=[some w.enc,some (.ref k),some (.ref d),none]) rfl rfl (sx (aD (ii (bQ rfl (aH m)))) (sx (x4 (gX (aI (aj rfl rfl (x4 (u5 (eM l) hd) (by rw[a];rfl))))) (x4 (Hk (aj (aF (ar (bV rfl rfl) ta) rfl rfl rfl) rfl u) rfl rfl (eM l) o (x3 hz (by decide))) (by rw[Db a,y]))) (aR (BJ rfl rfl (eM l) (aA _ (List.getElem?_set_self j)) (by rw[Az a,z4 rfl])))))) ?_;refine uK rfl (by simp) λi c hi hc => ?_;rw[ZC (by simpa using hi)]at hc
  by_cases e:d=i
  ·subst e
   rw[List.getElem?_set_self j]at hc;cases hc;exact .inr (by simp[qS,s,pure?])
  ·rw[ZP e]at hc
   exact .inl hc
 ·refine⟨mm,?_,.inl rfl⟩
  have r:h.set d (.dcT mm)=h:=by
   apply Z0;intro i
   by_cases e:d=i
   ·subst e;rw[List.getElem?_set_self j,hd]
   ·rw[ZP e]
  rw[r];exact x4 (bG (σ:=[some w.enc,some (.ref k),some (.ref d),none]) rfl rfl (sx (aD (ii (bQ rfl (aH m)))) (sx (ca (aI (aj rfl rfl (x4 (u5 (eM l) hd) (by rw[a];rfl))))) (aR (BJ rfl rfl (eM l) hd a))))) a0
abbrev rf (Z:List (Nat × List Nat)):List D:=Z.map λz=>D.ref z.1
abbrev LZ (h:Hd) (Z:List (Nat × List Nat)):Prop:=∀z∈Z,h[z.1]? = some (.lst (NL z.2))
theorem LZ.more {Z:List (Nat × List Nat)}(z:LZ h Z)(g:Hd):LZ (h++g) Z:=λx a=>aA g (z x a)
theorem AB {g:Option Nat}{all:List D}{tg:GF}{e:EF}{x:D}{xs ds:List D}{σ':Sd}{h1 h2:Hd}{d:D}(b:dH g all h)(t:tg x σ = some σ')(a:e σ' h=.ok d h1)(r:bR g all tg [] e xs σ' h1=.ok ds h2):bR g all tg [] e (x :: xs) σ h=.ok (d :: ds) h2:=by
 simp[bR,b,t,iB,a,r]
theorem kJ {a b:EF}{h1 h2:Hd}{m:Nat}{l k:List D}(p:a σ h=.ok (.ref n) h1)(q:b σ h1=.ok (.ref m) h2)(d:h2[n]? = some (.lst l))(c:h2[m]? = some (.lst k))(z:l.length + k.length<=SZ):dJ a b σ h=.ok (l++k) h2:=by
 simp only[dJ,p,aW,q,d,c,z4 z]
theorem kK (v:List Nat)(p:Nat):NL v++[.int (p:Nat)] = NL (v++[p]):=by simp
theorem Ls {L p:Nat}{all:List D}:∀{Z:List (Nat × List Nat)} {h:Hd} {a:Option D},h[L]? = some (.lst all)->LZ h Z->(∀z∈Z,z.2.length<=30)->
  ∃d g,bR (some L) all (gN 0) [] (aG (dJ (aa 0) (aG (ab (aa 1) ao)))) (rf Z) [a,some (.int (p:Nat))] h=.ok (rf d) (h++g)/\LZ (h++g) d/\d.map (·.2)=(Z.map (·.2)).map (· ++ [p])
 | [],h,a,hL,_,_=>⟨[],[],(by simp[bR,dH,hL]),(λz e=>nomatch e),rfl⟩
 | (b,v) :: Z,h,a,hL,e,hl=>by
  have j:h[b]? = some (.lst (NL v)):=e (b,v) (.head _);have l:v.length<=30:=hl (b,v) (.head _);have i:aG (ab (aa 1) ao) [some (.ref b),some (.int (p:Nat))] h=.ok (.ref h.length) (h++[.lst [.int (p:Nat)]]):=bn (ak rfl rfl) (by simp[SZ]);have f:aG (dJ (aa 0) (aG (ab (aa 1) ao))) [some (.ref b),some (.int (p:Nat))] h=.ok (.ref (h++[aS.lst [.int (p:Nat)]]).length) (h++[.lst [.int (p:Nat)]]++[.lst (NL (v++[p]))]):=by
   refine x4 (bn (kJ rfl i (aA _ j) ZG (by simp[SZ];omega)) (by simp[SZ];omega)) ?_;rw[kK]
  obtain⟨d,g,q1,q2,q3⟩:=Ls (p:=p) (all:=all) (Z:=Z) (h:=h++[.lst [.int (p:Nat)]]++[.lst (NL (v++[p]))]) (a:=some (.ref b)) (aA _ (aA _ hL)) (LZ.more (LZ.more (λz c=>e z (.tail _ c)) _) _) (λz c=>hl z (.tail _ c));refine⟨((h++[aS.lst [.int (p:Nat)]]).length,v++[p]) :: d,[.lst [.int (p:Nat)],.lst (NL (v++[p]))]++g,?_,?_,?_⟩
  ·refine x4 (AB (σ':=[some (.ref b),some (.int (p:Nat))]) hL rfl f q1) ?_
   simp
  ·have k:h++([.lst [.int (p:Nat)],.lst (NL (v++[p]))]++g)=h++[.lst [.int (p:Nat)]]++[.lst (NL (v++[p]))]++g:=by simp
   rw[k];intro z c;rcases Y6.mp c with rfl|c
   ·exact aA _ ZG
   ·exact q2 z c
  ·simp[q3]
def pK (l:List Nat):List (List Nat):=l.foldl (λacc p=>acc++acc.map (· ++ [p])) [[]]
theorem pL (l:List Nat)(p:Nat):pK (l++[p])=pK l++(pK l).map (· ++ [p]):=by simp[pK]
theorem sL (l:List Nat):∀k,k=l.length->(pK l).length=2 ^ k:=by
 intro k
 induction k generalizing l with
 | zero=>intro h;rw[List.length_eq_zero_iff.mp h.symm];rfl
 | succ k ih =>
  intro h;have:l≠[]:=λz=>by rw[z]at h;cases h
  rw[<-List.dropLast_concat_getLast this,pL,ZB,ZA,ih l.dropLast (by rw[List.length_dropLast];omega),Nat.pow_succ];omega
theorem Fy (l:List Nat):(pK l).map (λv=>(v.length:Int))=Ts.popK l.length:=by
 obtain⟨k,a⟩ : ∃k,k=l.length:=⟨_,rfl⟩;rw[<-a]
 induction k generalizing l with
 | zero=>rw[List.length_eq_zero_iff.mp a.symm];rfl
 | succ k ih =>
  have:l≠[]:=λz=>by rw[z]at a;cases a
  have q:=ih l.dropLast (by rw[List.length_dropLast];omega);rw[<-List.dropLast_concat_getLast this,pL,ZR,q,Ts.popK,<-q,wC,wC];congr 1;apply YK;intro v _;simp
theorem BK {h:Hd}:∀{Z:List (Nat × List Nat)},LZ h Z->xL h (rf Z)=some (Z.map λz=>(z.2.length:Int))
 | [],_=>rfl
 | (b,v) :: Z,hz=>by
  have c:h[b]? = some (.lst (NL v)):=hz (b,v) (.head _);have e:xJ h (.ref b)=some (v.length:Int):=by simp[xJ,c]
  show (match xJ h (.ref b),xL h (rf Z) with|some k,some kz=>some (k :: kz)|_,_=>none)=_;rw[e,BK λz a=>hz z (.tail _ a)];rfl
theorem Hl (Z:List (Nat × List Nat)):(Ts.byK (·.1) ((Z.map λz=>(z.2.length:Int)).zip (rf Z))).map (·.2)=rf (Ts.byK (λz:Nat × List Nat=>(z.2.length:Int)) Z):=by
 have:(Z.map λz=>(z.2.length:Int)).zip (rf Z)=Z.map λz=>((z.2.length:Int),D.ref z.1):=by
  rw[List.zip_map']
 rw[this,Ts.byK_map (λz:Nat × List Nat=>((z.2.length:Int),D.ref z.1)) (λz=>(z.2.length:Int)) (·.1) (λ_=>rfl),wC];rfl
def Mu (f:Nat) (fr:List Nat) (h:Hd) (i:Nat) (σ:Sd) (h':Hd):Prop:=∃L g Z y,σ = [some (.ref f),some (.ref L),y]/\h'=h++g/\h'[L]? = some (.lst (rf Z))/\LZ h' Z/\Z.map (·.2)=pK (fr.take i)/\∀z∈Z,z.2.length<=i
theorem yC {f:Nat}{fr:List Nat}(r:h[f]? = some (.lst (NL fr)))(t:fr.length<=6) :
  ∃g K Z,iN [.ref f] h=.ok (.ref K) (h++g)/\(h++g)[K]? = some (.lst (rf Z))/\LZ (h++g) Z/\Z.map (·.2)=Ts.byK (λv:List Nat=>(v.length:Int)) (pK fr):=by
 obtain⟨_,_,E,L,g,Z,y,rfl,rfl,n,m,e,o⟩:=dF (P:=Mu f fr h) (g:=some f) (k:=0) (all:=NL fr) (λ_ _ _ p=>by obtain⟨_,_,_,_,_,rfl,_⟩:=p;exact aA _ r) (xs:=NL fr) (tg:=gN 2) (σ:=[some (.ref f),some (.ref (h.length + 1)),none]) (h:=h++[.lst [],.lst [.ref h.length]]) (b:=qe) (by
   rintro i x _ _ q ⟨L,g,Z,y,rfl,rfl,n,m,e,o⟩;have hi:i < fr.length:=by have:=(List.getElem?_eq_some_iff.mp q).1;rwa[ZA]at this
   rw[ZQ,ZE hi]at q;cases q;rw[wF]at e o ⊢;obtain⟨d,j,q1,q2,q3⟩:=Ls (p:=fr[i]) (a:=none) n m (λz c=>ZM (o z c) (by omega));have F:Z.length<=512:=by
    have:=congrArg List.length e;rw[ZA,sL _ i (by simp;omega)]at this;rw[this];exact X1 (by decide) (show i<=9 by omega)
   have D:d.length=Z.length:=by have:=congrArg List.length q3;simpa using this
   have G:aG (bL 1 [2] (d7 (aa 1)) (gN 0) [] (aG (dJ (aa 0) (aG (ab (aa 1) ao))))) [some (.ref f),some (.ref L),some (.int (fr[i] : Nat))] (h++g)=.ok (.ref (h++g++j).length) (h++g++j++[.lst (rf d)]):=bn (cx (dv rfl n) q1) (by simp[SZ];omega);have B:aG (dJ (aa 1) (aG (bL 1 [2] (d7 (aa 1)) (gN 0) [] (aG (dJ (aa 0) (aG (ab (aa 1) ao))))))) [some (.ref f),some (.ref L),some (.int (fr[i] : Nat))] (h++g)=.ok (.ref (h++g++j++[aS.lst (rf d)]).length) (h++g++j++[.lst (rf d)]++[.lst (rf Z++rf d)]):=bn (kJ rfl G (aA _ (aA _ n)) ZG (by simp[SZ];omega)) (by simp[SZ];omega);refine⟨_,rfl,_,_,aD B,?_⟩;have I:h++g++j++[.lst (rf d)]++[.lst (rf Z++rf d)] = h++(g++(j++([.lst (rf d)]++[.lst (rf Z++rf d)]))):=by simp
   have u:(h++g++j++[.lst (rf d)]++[.lst (rf Z++rf d)])[(h++g++j++[aS.lst (rf d)]).length]? = some (.lst (rf (Z++d))):=by rw[ZG,show rf (Z++d)=rf Z++rf d from ZR]
   have s:LZ (h++g++j++[.lst (rf d)]++[.lst (rf Z++rf d)]) (Z++d):=λz c=>by
    rcases W0.mp c with c|c
    ·exact aA _ (aA _ (aA _ (m z c)))
    ·exact aA _ (aA _ (q2 z c))
   rw[I]at u s ⊢;refine⟨_,_,Z++d,_,rfl,rfl,u,s,?_,λz c => ?_⟩
   ·rw[ZR,q3,e,YZ hi,pL]
   ·rcases W0.mp c with c|c
    ·exact XB (o z c)
    ·have:z.2∈d.map (·.2):=List.mem_map.mpr ⟨z,c,rfl⟩
     rw[q3,wC]at this;obtain⟨A,h0,H⟩:=List.mem_map.mp this;have:=o A h0;rw[<-H];simp;omega) ⟨_,_,[(h.length,[])],_,rfl,rfl,by simp,λz m=>by
    rw[WE.mp m];simp,rfl,λz m=>by rw[WE.mp m];exact ZL _⟩
 rw[wF,ZA,WC]at e;have F:Z.length<=512:=by
  have:=congrArg List.length e;rw[ZA,sL _ _ rfl]at this;rw[this];exact X1 (by decide) (ZM t (by decide):fr.length<=9)
 have C:lH (aa 1) [some (.ref f),some (.ref L),y] (h++g)=.ok (rf (Ts.byK (λz:Nat × List Nat=>(z.2.length:Int)) Z)) (h++g):=by
  unfold lH;have l1:dI (h++g) (.ref L)=some (rf Z):=by simp[dI,n]
  show (match dI (h++g) (.ref L) with|some l=>_|none=>_)=_;rw[l1];simp only[BK m];rw[z4 ⟨fr.length,t,by
   have:=congrArg (List.map λv:List Nat=>(v.length:Int)) e;rw[wC]at this;exact this.trans (Fy fr)⟩,Hl]
 have w:=Ts.byK_perm (λz:Nat × List Nat=>(z.2.length:Int)) Z;refine⟨g++[.lst (rf (Ts.byK (λz:Nat × List Nat=>(z.2.length:Int)) Z))],(h++g).length,Ts.byK (λz:Nat × List Nat=>(z.2.length:Int)) Z,?_,?_,?_,?_⟩
 ·have b:aG (ab (aG ao) ao) [some (.ref f),none,none] h=.ok (.ref (h.length + 1)) (h++[.lst [],.lst [.ref h.length]]):=by
   refine x4 (bn (ak (bn rfl (by decide)) rfl) (by simp[SZ])) ?_;simp
  refine x4 (bG (σ:=[some (.ref f),none,none]) rfl rfl (sx (aD b) (sx (fZ (dv rfl (aA _ r)) E) (aR (bn C (by rw[ZA,w.length_eq];simp[SZ];omega)))))) (dR.trans ?_);rw[ZU]
 ·rw[<-ZU];exact ZG
 ·rw[<-ZU]
  exact LZ.more (λz c=>m z (w.mem_iff.mp c)) _
 ·rw[<-e,Ts.byK_map (λz:Nat × List Nat=>z.2) (λz=>(z.2.length:Int)) (λv:List Nat=>(v.length:Int)) (λ_=>rfl)]
theorem Lu {t:TF}{a b:SF}{h':Hd}(e:t σ h=.ok true h'):sIf t a b σ h=a σ h':=by simp[sIf,e]
theorem Hm {t:TF}{a b:SF}{h':Hd}(e:t σ h=.ok false h'):sIf t a b σ h=b σ h':=by simp[sIf,e]
theorem yc1 (ns:List Int)(k:Nat)(e:k < ns.length)(h:Hd):bO [.lit (ns.map .int),.int k] h=.ok (.int ns[k]) h:=by
 have a:=ja (f:=D.int) e;simp[bO,bS,runB,e,a]
theorem Dc {x y:Int}(e:(sml x || sml y)=true)(h:Hd):cI (.int x) (.int y) h=.ok (.int (x * y)) h:=by
 simp only[cI,oIc,e,YL]
theorem yc2 (ns:List Int)(K:Int)(e : ¬K < (ns.length:Int))(d:sml K=true)(h:Hd):bO [.lit (ns.map .int),.int K] h=.ok (.int (71 * K * K + 7 * K)) h:=by
 have m1:∀h,cI (.int 71) (.int K) h=.ok (.int (71 * K)) h:=λh=>Dc (by rw[d,WR]) h;have m2:∀h,cI (.int (71 * K)) (.int K) h=.ok (.int (71 * K * K)) h:=λh=>Dc (by rw[d,WR]) h;have m3:∀h,cI (.int 7) (.int K) h=.ok (.int (7 * K)) h:=λh=>Dc (by rw[d,WR]) h;generalize 71 * K=a at m1 m2 ⊢;generalize a * K=b at m2 ⊢;generalize 7 * K=c at m3 ⊢;simp[-cI,bO,bS,runB,e,m1,m2,m3]
theorem BM (ns:List Int)(k:Nat)(a:k<=63):∃v,∀h,bO [.lit (ns.map .int),.int k] h=.ok (.int v) h:=by
 by_cases e:k < ns.length
 ·exact⟨_,yc1 ns k e⟩
 ·exact⟨_,yc2 ns k (by omega) (qD (by omega) (by omega))⟩
theorem JZ (c way base:Int)(m:Nat)(hm:m<=1000)(o:0 < base)(R:base < 2 ^ 250)(h:Hd):∃l:List Int,dW [.int c,.int way,.int m,.int base] h=.ok (.ref h.length) (h++[.lst (l.map .int)])/\l.length=m/\∀x∈l,0<=x/\x < base:=by
 obtain⟨A,s⟩ : ∃A,A=h.length:=⟨_,rfl⟩;obtain⟨d,r⟩ : ∃d:Int,d=if way % 2=1 then c % 2147483629 * 48271 % 2147483647 else c:=⟨_,rfl⟩
 have zb:way % 2=1->0<=d/\d < 4611686018427387904:=λe=>by
  rw[r,z4 e];exact⟨W1 _ (by decide),Int.lt_trans (WG _ (by decide)) (by decide)⟩
 obtain⟨K,E,H,l,z,y,N,S,F,W,k6⟩:=dF (P:=λi σ E=>∃(l:List Int) (z:Int) (y:Option D),σ = [some (.int c),some (.int way),some (.int m),some (.int base),some (.ref A),some (.int z),y]/\E=h++[.lst (l.map .int)]/\l.length=i/\(∀x∈l,0<=x/\x < base)/\(way % 2=1->0<=z/\z < 4611686018427387904)) (g:=none) (k:=0)
   (all:=(List.range m).map λk:Nat=>D.int k) (λ_ _ _ _=>trivial)
   (xs:=(List.range m).map λk:Nat=>D.int k) (tg:=gN 6) (σ:=[some (.int c),some (.int way),some (.int m),some (.int base),some (.ref A),some (.int d),none]) (h:=h++[.lst []]) (b:=sr) (by
   rintro i x σ h0 a ⟨l,z,y,rfl,p,t,I,U⟩;obtain⟨hi,rfl⟩:=dZ a;rw[wF]at t ⊢;have u:h0[A]? = some (.lst (l.map .int)):=by rw[p];exact ij s _
   have J:(l.map D.int).length < SZ:=by rw[ZA,t];exact x3 hi (ZS hm (by decide))
   have st:∀v:Int,h0.set A (.lst (l.map .int++[.int v]))=h++[.lst ((l++[v]).map .int)]:=λv=>by rw[p,mi s,ZR];rfl
   have G:∀q:Int,(0<=q % base/\q % base < base):=λq=>⟨W1 q (Int.ne_of_gt o),WG q o⟩
   by_cases e:way % 2=1
   ·have n:=U e
    have sz:sml z=true:=qD n.1 n.2;have Q:sml 69621=true:=by decide
    have C:sml 11=true:=by decide
    obtain⟨f,j⟩ : ∃f,f=(z * z + 69621 * z + 11 * i + 5) % 2147483549:=⟨_,rfl⟩;have Y:0<=f:=by rw[j];exact W1 _ (by decide)
    have V:f < 2147483549:=by rw[j];exact WG _ (by decide)
    refine⟨_,rfl,[some (.int c),some (.int way),some (.int m),some (.int base),some (.ref A),some (.int f),some (.int i)],_,?_,l++[f / 7 % base],f,_,rfl,rfl,by simp[t],λx a => ?_,λ_=>⟨Y,Int.lt_trans V (by decide)⟩⟩
    ·rw[<-st]
     have t1:aQ (gN 5) (ag dk (ag ei (ag ei (ag ei (ag cI (aa 5) (aa 5)) (ag cI (fC (.int 69621)) (aa 5))) (ag cI (fC (.int 11)) (aa 6))) (fC (.int 5))) (fC (.int 2147483549))) [some (.int c),some (.int way),some (.int m),some (.int base),some (.ref A),some (.int z),some (.int i)] h0=.nx [some (.int c),some (.int way),some (.int m),some (.int base),some (.ref A),some (.int f),some (.int i)] h0:=by
      rw[j];exact aD (aj (aj (aj (aj (aj rfl rfl (nW sz)) (aj rfl rfl (nW Q)) rfl) (aj rfl rfl (nW C)) rfl) rfl rfl) rfl (ee (by decide)))
     have B:tE (ag oEq (ag dk (aa 1) (fC (.int 2))) (fC (.int 1))) [some (.int c),some (.int way),some (.int m),some (.int base),some (.ref A),some (.int z),some (.int i)] h0=.ok true h0:=aI (aj (aj rfl rfl (ee (by decide))) rfl (rZ e));show sIf _ _ _ [some (.int c),some (.int way),some (.int m),some (.int base),some (.ref A),some (.int z),some (.int i)] h0=_;rw[Lu B,bC t1];exact jp (ki rfl u (aj (aj rfl rfl (lL (by decide) (by decide))) rfl (ee o)) u J)
    ·rcases W0.mp a with a|a
     ·exact I x a
     ·simp at a;subst a;exact G _
   ·refine⟨_,rfl,[some (.int c),some (.int way),some (.int m),some (.int base),some (.ref A),some (.int (z / base)),some (.int i)],_,?_,l++[z % base],z / base,_,rfl,rfl,by simp[t],λx a => ?_,λq=>absurd q e⟩
    ·rw[<-st]
     have B:tE (ag oEq (ag dk (aa 1) (fC (.int 2))) (fC (.int 1))) [some (.int c),some (.int way),some (.int m),some (.int base),some (.ref A),some (.int z),some (.int i)] h0=.ok false h0:=aI (aj (aj rfl rfl (ee (by decide))) rfl (lM e));show sIf _ _ _ [some (.int c),some (.int way),some (.int m),some (.int base),some (.ref A),some (.int z),some (.int i)] h0=_;rw[Hm B];exact(bC (jp (ki rfl u (aj rfl rfl (ee o)) u J))).trans (aD (aj rfl rfl (lL o R)))
    ·rcases W0.mp a with a|a
     ·exact I x a
     ·simp at a;subst a;exact G _) ⟨[],d,none,rfl,rfl,rfl,by simp,zb⟩
 have X:0 + ((List.range m).map λk:Nat=>D.int k).length=m:=by simp
 rw[X]at F;refine⟨l,?_,F,W⟩;have M:aQ (gN 4) (aG ao) [some (.int c),some (.int way),some (.int m),some (.int base),none,none,none] h=.nx [some (.int c),some (.int way),some (.int m),some (.int base),some (.ref A),none,none] (h++[.lst []]):=aD (nX s rfl (Z8 _));have Z:aQ (gN 5) (aa 0) [some (.int c),some (.int way),some (.int m),some (.int base),some (.ref A),none,none] (h++[.lst []])=.nx [some (.int c),some (.int way),some (.int m),some (.int base),some (.ref A),some (.int c),none] (h++[.lst []]):=rfl;have L:sIf (tE (ag oEq (ag dk (aa 1) (fC (.int 2))) (fC (.int 1)))) (aQ (gN 5) (ag dk (ag cI (ag dk (aa 0) (fC (.int 2147483629))) (fC (.int 48271))) (fC (.int 2147483647)))) br [some (.int c),some (.int way),some (.int m),some (.int base),some (.ref A),some (.int c),none] (h++[.lst []])=.nx [some (.int c),some (.int way),some (.int m),some (.int base),some (.ref A),some (.int d),none] (h++[.lst []]):=by
  have w:sml 48271=true:=by decide
  rw[r]
  by_cases e:way % 2=1
  ·rw[z4 e];exact(gX (aI (aj (aj rfl rfl (ee (by decide))) rfl (rZ e)))).trans (aD (aj (aj (aj rfl rfl (ee (by decide))) rfl (GY w)) rfl (ee (by decide))))
  ·rw[z5 e];exact ca (aI (aj (aj rfl rfl (ee (by decide))) rfl (lM e)))
 have T:fN (bK (aa 2)) (gN 6) sr [some (.int c),some (.int way),some (.int m),some (.int base),some (.ref A),some (.int d),none] (h++[.lst []])=.nx [some (.int c),some (.int way),some (.int m),some (.int base),some (.ref A),some (.int z),y] (h++[.lst (l.map .int)]):=by
  rw[N,S]at H;exact fZ (c7 rfl hm) H
 have O:aZ (aa 4) [some (.int c),some (.int way),some (.int m),some (.int base),some (.ref A),some (.int z),y] (h++[.lst (l.map .int)])=.rt (.ref A) (h++[.lst (l.map .int)]):=aR rfl;have st:([D.int c,D.int way,D.int m,D.int base].map some++List.replicate (7 - [D.int c,D.int way,D.int m,D.int base].length) none:Sd)=[some (.int c),some (.int way),some (.int m),some (.int base),none,none,none]:=rfl;unfold dW bS runB;rw[z4 (by rfl),st,bC M,bC Z,bC L,bC T,O,<-s];exact dR
def gQ (M:Nat->Nat->Int) (n i:Nat):List Int:=(List.range n).map (M i)
def pM (M:Nat->Nat->Int) (a b:Nat) (v:Int):Nat->Nat->Int:=λi j=>if i=a/\j=b then v else M i j
structure iT (A n:Nat) (M:Nat->Nat->Int) (h:Hd):Prop where
 ro:∀i,i < n->h[A + i]? = some (.lst ((gQ M n i).map .int))
 ti:h[A + n]? = some (.lst ((List.range n).map λi=>.ref (A + i)))
structure MOk (M:Nat->Nat->Int):Prop where
 sym:∀i j,M i j=M j i
 bd:∀i j,0<=M i j/\M i j<=400
 no:∀i,M i i=0
theorem Fz (M:Nat->Nat->Int)(n a b:Nat)(v:Int)(i:Nat):gQ (pM M a b v) n i=if i=a then (gQ M n a).set b v else gQ M n i:=by
 by_cases e:i=a
 ·subst e
  rw[z4 rfl];apply Z0;intro j
  by_cases hj:j < n
  ·by_cases ej:j=b
   ·subst ej
    rw[List.getElem?_set_self (by simp[gQ,hj])];simp[gQ,pM,hj]
   ·rw[ZP (by omega)]
    simp[gQ,pM,hj,ej]
  ·rw[List.getElem?_eq_none (by simp[gQ];omega),List.getElem?_eq_none (by simp[gQ];omega)]
 ·rw[z5 e]
  apply YK;intro j _;simp[pM,e]
theorem iT.put {M:Nat->Nat->Int}(m:iT A n M h){a b:Nat}(c:a < n)(v:Int):iT A n (pM M a b v) (h.set (A + a) (.lst (((gQ M n a).map .int).set b (.int v)))) where
 ro:=λi hi=>by
  rw[Fz]
  by_cases e:i=a
  ·subst e
   rw[z4 rfl,List.getElem?_set_self (List.getElem?_eq_some_iff.mp (m.ro i hi)).1,List.map_set]
  ·rw[z5 e,ZP (λz=>e (WB z).symm)];exact m.ro i hi
 ti:=by rw[ZP (λz=>ZN c (WB z))];exact m.ti
theorem iT.more {M:Nat->Nat->Int}(m:iT A n M h)(g:Hd):iT A n M (h++g):=by
 have k:∀{i:Nat} {x:aS},h[i]? = some x->(h++g)[i]? = some x:=λ{i x} e=>by
  rw[ZC (List.getElem?_eq_some_iff.mp e).1];exact e
 exact⟨λi hi=>k (m.ro i hi),k m.ti⟩
theorem iT.set {M:Nat->Nat->Int}(m:iT A n M h){k:Nat}(a:A + n < k)(c:aS):iT A n M (h.set k c) :=
 ⟨λi hi=>by rw[ZP (by omega)];exact m.ro i hi,by rw[ZP (by omega)];exact m.ti⟩
theorem MOk.put {M:Nat->Nat->Int}(o:MOk M){a b:Nat}(ne:a≠b){v:Int}(h0:0<=v)(h1:v<=400):MOk (pM (pM M a b v) b a v) where
 sym:=λi j=>by
  simp only[pM]
  by_cases q:i=b/\j=a
  ·rw[z4 q]
   by_cases r:j=b/\i=a
   ·rw[z4 r]
   ·rw[z5 r,z4 ⟨q.2,q.1⟩]
  ·rw[z5 q]
   by_cases p:i=a/\j=b
   ·rw[z4 p,z4 ⟨p.2,p.1⟩]
   ·rw[z5 p,z5 λz=>p ⟨z.2,z.1⟩,z5 λz=>q ⟨z.2,z.1⟩];exact o.sym i j
 bd:=λi j=>by
  simp only[pM];split
  ·exact⟨h0,h1⟩
  ·split
   ·exact⟨h0,h1⟩
   ·exact o.bd i j
 no:=λi=>by
  simp only[pM];rw[z5 λz=>ne (z.2.symm.trans z.1),z5 λz=>ne (z.1.symm.trans z.2)];exact o.no i
theorem Mv {t:Int}(h:0<=t/\t < 803):0<=(if t - 402 > 0 then t - 402 else 0)/\(if t - 402 > 0 then t - 402 else 0)<=400:=by split<;>omega
theorem FA {M:Nat->Nat->Int}{i j:Nat}(a:j < n):atI ((gQ M n i).map D.int) (j:Int)=some (.int (M i j)):=by
 rw[ja (by simp[gQ,a])];simp[gQ]
theorem BN {i:Nat}(hi:i < n):atI ((List.range n).map λi=>D.ref (A + i)) (i:Int)=some (.ref (A + i)):=by
 refine ef ?_;simp[hi]
variable {b c:Option D}
theorem Id {x1 a d:Option D}{r:Sd}{N O:Int}(e:(sml O || sml N)=true)(h:Hd):ag cI (aa 6) (aa 3) (b :: x1 :: a :: some (.int N) :: c :: d :: some (.int O) :: r) h=.ok (.int (O * N)) h:=by
 rw[show ag cI (aa 6) (aa 3) (b :: x1 :: a :: some (.int N) :: c :: d :: some (.int O) :: r) h=cI (.int O) (.int N) h from rfl];exact Dc e h
variable {way:Int}
theorem q1 {tk one i:Nat}{S0 p1:D}{t q:Int}{td:List D}{h0:Hd}{E:EF}(pr:E [some S0,some p1,some (.int way),some (.int n),c,some (.ref tk),some (.int one),some (.int i),b,none,none,none] h0=.ok (.int q) h0)(d:h0[tk]? = some (.lst td))(a:atI td (q + i)=some (.int t)):aQ (gN 8) (zA (fC (.int 0)) (ag fL (fAt (aa 5) (ag ei E (aa 7))) (fC (.int 402)))) [some S0,some p1,some (.int way),some (.int n),c,some (.ref tk),some (.int one),some (.int i),b,none,none,none] h0=.nx [some S0,some p1,some (.int way),some (.int n),c,some (.ref tk),some (.int one),some (.int i),some (.int (if t - 402 > 0 then t - 402 else 0)),none,none,none] h0:=by
 exact aD (JS rfl (aj (aF rfl (aj pr rfl rfl) (aH d) a) rfl rfl))
theorem q2 {tk one i:Nat}{S0 p1:D}{t y q b:Int}{td:List D}{h0:Hd}{E:EF}(pr:E [some S0,some p1,some (.int way),some (.int n),c,some (.ref tk),some (.int one),some (.int i),some (.int b),none,none,none] h0=.ok (.int q) h0)(f:h0[tk]? = some (.lst td))(a:atI td (q + i)=some (.int t))(e:way / 64 % 2=1)(d:atI [D.int 0,.int 0,.int 1,.int 1,.int 2,.int 3,.int 1] (t % 7)=some (.int y)):sIf (tE (ag oEq (ag dk (ag k7 (aa 2) (fC (.int 64))) (fC (.int 2))) (fC (.int 1)))) (aQ (gN 8) (fIx (ab (fC (.int 0)) (ab (fC (.int 0)) (ab (fC (.int 1)) (ab (fC (.int 1)) (ab (fC (.int 2)) (ab (fC (.int 3)) (ab (fC (.int 1)) ao))))))) (ag dk (fAt (aa 5) (ag ei E (aa 7))) (fC (.int 7))))) br [some S0,some p1,some (.int way),some (.int n),c,some (.ref tk),some (.int one),some (.int i),some (.int b),none,none,none] h0=.nx [some S0,some p1,some (.int way),some (.int n),c,some (.ref tk),some (.int one),some (.int i),some (.int y),none,none,none] h0:=by
 exact(gX (aI (aj (aj (aj rfl rfl (lL (by decide) (by decide))) rfl (ee (by decide))) rfl (rZ e)))).trans (aD (ES (ak rfl (ak rfl (ak rfl (ak rfl (ak rfl (bV rfl rfl)))))) (aj (aF rfl (aj pr rfl rfl) (aH f) a) rfl (ee (by decide))) d))
theorem q3 {tk one i:Nat}{S0 p1:D}{a:Int}{h0:Hd}{B:SF}(e : ¬way / 64 % 2=1):sIf (tE (ag oEq (ag dk (ag k7 (aa 2) (fC (.int 64))) (fC (.int 2))) (fC (.int 1)))) B br [some S0,some p1,some (.int way),some (.int n),c,some (.ref tk),some (.int one),some (.int i),some (.int a),none,none,none] h0=.nx [some S0,some p1,some (.int way),some (.int n),c,some (.ref tk),some (.int one),some (.int i),some (.int a),none,none,none] h0:=by
 exact ca (aI (aj (aj (aj rfl rfl (lL (by decide) (by decide))) rfl (ee (by decide))) rfl (lM e)))
theorem Hn {one tk:Nat}{td:List Int}(h1:one < n)(hn:n<=30)(tl:td.length=n * n)(tb:∀x∈td,0<=x/\x < 803)(F:A + n < tk){M:Nat->Nat->Int}(O:MOk M)(m:iT A n M h)(ht:h[tk]? = some (.lst (td.map .int))){S0 p1:D}{a:Option D}{L:Nat}(N:h.length=L) :
  ∃o d u r,fM none ((List.range one).map λk:Nat=>D.int k) (gN 7) nc ((List.range one).map λk:Nat=>D.int k) [some S0,some p1,some (.int way),some (.int n),some (.ref (A + n)),some (.ref tk),some (.int one),a,b,none,none,none] h
   = .nx [some S0,some p1,some (.int way),some (.int n),some (.ref (A + n)),some (.ref tk),some (.int one),u,r,none,none,none] d/\MOk o/\iT A n o d/\d[tk]? = some (.lst (td.map .int))/\d.length=L:=by
 obtain⟨Q,d,W,o,u,r,T,Z,V,k5,U⟩:=dF (P:=λi σ d=>∃(o:Nat->Nat->Int) (a b:Option D),σ = [some S0,some p1,some (.int way),some (.int n),some (.ref (A + n)),some (.ref tk),some (.int one),a,b,none,none,none]/\MOk o/\iT A n o d/\d[tk]? = some (.lst (td.map .int))/\d.length=L) (g:=none) (k:=0)
   (all:=(List.range one).map λk:Nat=>D.int k) (λ_ _ _ _=>trivial)
   (xs:=(List.range one).map λk:Nat=>D.int k) (tg:=gN 7) (σ:=[some S0,some p1,some (.int way),some (.int n),some (.ref (A + n)),some (.ref tk),some (.int one),a,b,none,none,none]) (h:=h) (b:=nc) (by
   rintro i x σ h0 X ⟨M1,a,b,rfl,O1,m1,B,l1⟩;obtain⟨hi,rfl⟩:=dZ X;have c:i < n:=x3 hi h1;have lt:one * n + i < td.length:=by
    rw[tl];exact xC (Nat.add_lt_add_left c _) (by rw[<-Nat.succ_mul];exact Nat.mul_le_mul_right n h1)
   have j:atI (td.map D.int) ((one:Int) * n + i)=some (.int td[one * n + i]):=by
    have:=ja (f:=D.int) lt;rw[show (one:Int) * n + i=((one * n + i:Nat):Int) by rw[Int.natCast_add,Int.natCast_mul]];exact this
   have q:=tb _ (Z5 lt);generalize td[one * n + i] = t at j q;have J:sml (n:Int)=true:=qD (XU n) (Int.lt_of_le_of_lt (Int.ofNat_le.mpr hn) (by decide));obtain⟨l,p⟩ : ∃l:Int,l=if t - 402 > 0 then t - 402 else 0:=⟨_,rfl⟩
   have s:0<=l/\l<=400:=by rw[p];exact Mv q
   have S:aQ (gN 8) (zA (fC (.int 0)) (ag fL (fAt (aa 5) (ag ei (ag cI (aa 6) (aa 3)) (aa 7))) (fC (.int 402)))) [some S0,some p1,some (.int way),some (.int n),some (.ref (A + n)),some (.ref tk),some (.int one),some (.int i),b,none,none,none] h0=.nx [some S0,some p1,some (.int way),some (.int n),some (.ref (A + n)),some (.ref tk),some (.int one),some (.int i),some (.int l),none,none,none] h0:=by
    rw[p];exact q1 (E:=ag cI (aa 6) (aa 3)) (Id (by rw[J,WR]) h0) B j
   obtain⟨v,G,s2⟩ : ∃v:Int,(0<=v/\v<=400)/\sIf (tE (ag oEq (ag dk (ag k7 (aa 2) (fC (.int 64))) (fC (.int 2))) (fC (.int 1)))) (aQ (gN 8) (fIx (ab (fC (.int 0)) (ab (fC (.int 0)) (ab (fC (.int 1)) (ab (fC (.int 1)) (ab (fC (.int 2)) (ab (fC (.int 3)) (ab (fC (.int 1)) ao))))))) (ag dk (fAt (aa 5) (ag ei (ag cI (aa 6) (aa 3)) (aa 7))) (fC (.int 7))))) br [some S0,some p1,some (.int way),some (.int n),some (.ref (A + n)),some (.ref tk),some (.int one),some (.int i),some (.int l),none,none,none] h0=.nx [some S0,some p1,some (.int way),some (.int n),some (.ref (A + n)),some (.ref tk),some (.int one),some (.int i),some (.int v),none,none,none] h0:=by
    by_cases e:way / 64 % 2=1
    ·obtain⟨y,I,C⟩:=Lm D.int [0,0,1,1,2,3,1] (x:=t % 7) (W1 t (by decide)) (WG t (by decide))
     simp only[yP,W8]at C;refine⟨y,by simp at I;rcases I with rfl|rfl|rfl|rfl|rfl<;>decide,?_⟩;exact q2 (E:=ag cI (aa 6) (aa 3)) (Id (by rw[J,WR]) h0) B j e C
    ·refine⟨l,s,?_⟩
     exact q3 e
   have H:∀(M:Nat->Nat->Int) (i:Nat),(gQ M n i).length=n:=λM i=>by simp[gQ]
   have ne:one≠i:=x6 hi;have m2:=m1.put (b:=i) h1 v;have m3:=m2.put (b:=one) c v;have w:=m1.ro one h1;have z:=m2.ro i c;have a1:=BN (A:=A) h1;have K:=BN (A:=A) c;have R:nH (fAt (aa 4) (aa 6)) (aa 7) (aa 8) [some S0,some p1,some (.int way),some (.int n),some (.ref (A + n)),some (.ref tk),some (.int one),some (.int i),some (.int v),none,none,none] h0=.nx [some S0,some p1,some (.int way),some (.int n),some (.ref (A + n)),some (.ref tk),some (.int one),some (.int i),some (.int v),none,none,none] (h0.set (A + one) (.lst (((gQ M1 n one).map .int).set i (.int v)))):=by
    exact rY rfl (aF rfl rfl (aH m1.ti) a1) rfl w (qF (by rw[ZA,H];exact c))
   have Y:nH (fAt (aa 4) (aa 7)) (aa 6) (aa 8) [some S0,some p1,some (.int way),some (.int n),some (.ref (A + n)),some (.ref tk),some (.int one),some (.int i),some (.int v),none,none,none] (h0.set (A + one) (.lst (((gQ M1 n one).map .int).set i (.int v))))=.nx [some S0,some p1,some (.int way),some (.int n),some (.ref (A + n)),some (.ref tk),some (.int one),some (.int i),some (.int v),none,none,none] ((h0.set (A + one) (.lst (((gQ M1 n one).map .int).set i (.int v)))).set (A + i) (.lst (((gQ (pM M1 one i v) n i).map .int).set one (.int v)))):=by
    exact rY rfl (aF rfl rfl (aH m2.ti) K) rfl z (qF (by rw[ZA,H];exact h1))
   refine⟨_,rfl,[some S0,some p1,some (.int way),some (.int n),some (.ref (A + n)),some (.ref tk),some (.int one),some (.int i),some (.int v),none,none,none],_,?_,pM (pM M1 one i v) i one v,_,_,rfl,O1.put ne G.1 G.2,m3,?_,by simp[l1]⟩
   ·show ax _ _ [some S0,some p1,some (.int way),some (.int n),some (.ref (A + n)),some (.ref tk),some (.int one),some (.int i),b,none,none,none] h0=_
    rw[bC S,bC s2,bC R,Y]
   ·exact(ZP (ZN (x3 (Nat.add_lt_add_left c A) F))).trans ((ZP (ZN (x3 (Nat.add_lt_add_left h1 A) F))).trans B)) ⟨M,a,b,rfl,O,m,ht,N⟩
 exact⟨o,d,u,r,by rw[W,T],Z,V,k5,U⟩
theorem Hq {tk:Nat}{td:List Int}(f:n<=30)(tl:td.length=n * n)(tb:∀x∈td,0<=x/\x < 803)(t:A + n < tk){M:Nat->Nat->Int}(O:MOk M)(m:iT A n M h)(ht:h[tk]? = some (.lst (td.map .int))){S0 p1:D}{L:Nat}(o:h.length=L) :
  ∃e d c a b,fM none ((List.range n).map λk:Nat=>D.int k) (gN 6) ko ((List.range n).map λk:Nat=>D.int k) [some S0,some p1,some (.int way),some (.int n),some (.ref (A + n)),some (.ref tk),none,none,none,none,none,none] h
   = .nx [some S0,some p1,some (.int way),some (.int n),some (.ref (A + n)),some (.ref tk),c,a,b,none,none,none] d/\MOk e/\iT A n e d/\d.length=L:=by
 obtain⟨p,d,y,e,E,v,s,r,B,w,G,u⟩:=dF (P:=λi σ d=>∃(e:Nat->Nat->Int) (c a b:Option D),σ = [some S0,some p1,some (.int way),some (.int n),some (.ref (A + n)),some (.ref tk),c,a,b,none,none,none]/\MOk e/\iT A n e d/\d[tk]? = some (.lst (td.map .int))/\d.length=L) (g:=none) (k:=0)
   (all:=(List.range n).map λk:Nat=>D.int k) (λ_ _ _ _=>trivial)
   (xs:=(List.range n).map λk:Nat=>D.int k) (tg:=gN 6) (σ:=[some S0,some p1,some (.int way),some (.int n),some (.ref (A + n)),some (.ref tk),none,none,none,none,none,none]) (h:=h) (b:=ko) (by
   rintro i x σ h0 z ⟨M1,c,a,b,rfl,O1,m1,F,l1⟩;obtain⟨hi,rfl⟩:=dZ z;obtain⟨M2,h2,j,C,q,O2,m2,l,l2⟩:=Hn hi f tl tb t O1 m1 F (S0:=S0) (p1:=p1) (way:=way) (a:=a) (b:=b) l1;refine⟨_,rfl,_,h2,?_,M2,some (.int i),j,C,rfl,O2,m2,l,l2⟩;show fN _ _ _ [some S0,some p1,some (.int way),some (.int n),some (.ref (A + n)),some (.ref tk),some (.int i),a,b,none,none,none] h0=_;exact fZ (c7 rfl (ZM (YI hi) (jq f))) q) ⟨M,none,none,none,rfl,O,m,ht,o⟩
 exact⟨e,d,E,v,s,by rw[y,r],B,w,u⟩
structure Mdl (ns:List Int) (mo:Int) (n:Nat) (M:Nat->Nat->Int) (bs:List Int) (ss:List (Option Int)) (bk sk:Nat) (h:Hd):Prop where
 run:jQ [.lit (ns.map .int),.int mo] []=.ok (.tup [.ref (0 + n),.ref bk,.ref sk]) h
 n1:1<=n
 n30:n<=30
 nmo:(n:Int)<=mo
 bkn:n < bk
 skn:n < sk
 mt:iT 0 n M h
 mo:MOk M
 ba:h[bk]? = some (.lst (bs.map .int))
 st:h[sk]? = some (.lst (ss.map bq))
 lb:bs.length=n
 ls:ss.length=n
 os:∀x∈ss,x=none\/x=some 0\/x=some 1
 bb:∀x∈bs,-20000<=x/\x<=20000
theorem yD {d:Int}{i:Nat}(hi : σ[i]? = some (some (.int way)))(a:0 < d)(b:d < 2 ^ 250):tE (ag oEq (ag dk (ag k7 (aa i) (fC (.int d))) (fC (.int 2))) (fC (.int 1))) σ h=.ok (decide (way / d % 2=1)) h:=by
 have v:aa i σ h=.ok (.int way) h:=by simp only[aa,slot,hi]
 exact aI (aj (aj (aj v rfl (lL a b)) rfl (ee (by decide))) rfl yd)
theorem J0 (x:Int):x % 2=0\/x % 2=1:=Int.emod_two_eq x
theorem lv1 {x:Int}(h:0<=x/\x < 2001) : -20000<=x - 1000/\x - 1000<=20000:=by omega
theorem lv2 {x y:Int}(h:0<=x/\x<=12000) : -20000<=x + y % 7 - 3/\x + y % 7 - 3<=20000:=by omega
theorem lv3 {x:Int}(h:0<=x/\x<=12000) : -20000<=x/\x<=20000:=by omega
theorem FB {A lk tk:Nat}{f:List Int}(W:n<=30)(sl:f.length=n)(ne:lk≠tk){bs:List Int}(lb:bs.length=n)(V:∀x∈f,0<=x/\x < 2001)(bb:∀x∈bs,0<=x/\x<=12000)(G:h[lk]? = some (.lst (bs.map .int)))(ht:h[tk]? = some (.lst (f.map .int))){S0 p1 q4 q5:D}{a:Option D} :
  ∃(d:List Int) (w:Option D),fM none ((List.range n).map λk:Nat=>D.int k) (gN 6) iM ((List.range n).map λk:Nat=>D.int k) [some S0,some p1,some (.int way),some (.int n),some q4,some q5,c,a,b,some (.ref lk),some (.ref tk),none] h
   = .nx [some S0,some p1,some (.int way),some (.int n),some q4,some q5,w,a,b,some (.ref lk),some (.ref tk),none] (h.set lk (.lst (d.map .int)))/\d.length=n/\∀x∈d,-20000<=x/\x<=20000:=by
 have u:lk < h.length:=(List.getElem?_eq_some_iff.mp G).1;obtain⟨J,F,O,d,w,L,R,N,T⟩:=dF (P:=λi σ F=>∃(d:List Int) (w:Option D),σ = [some S0,some p1,some (.int way),some (.int n),some q4,some q5,w,a,b,some (.ref lk),some (.ref tk),none]/\F=h.set lk (.lst (d.map .int))/\d.length=n/\∀(j:Nat) x,d[j]? = some x->(-20000<=x/\x<=20000)/\(i<=j->0<=x/\x<=12000)) (g:=none) (k:=0)
   (all:=(List.range n).map λk:Nat=>D.int k) (λ_ _ _ _=>trivial)
   (xs:=(List.range n).map λk:Nat=>D.int k) (tg:=gN 6) (σ:=[some S0,some p1,some (.int way),some (.int n),some q4,some q5,c,a,b,some (.ref lk),some (.ref tk),none]) (h:=h) (b:=iM) (by
   rintro i x σ h0 Q ⟨l,X,rfl,p,l1,r⟩;rw[wF]at r ⊢;obtain⟨hi,rfl⟩:=dZ Q;have C:h0[lk]? = some (.lst (l.map .int)):=by rw[p,List.getElem?_set_self u]
   have B:h0[tk]? = some (.lst (f.map .int)):=by rw[p,ZP ne];exact ht
   have m:i < l.length:=l1 ▸ hi;have E:atI (l.map D.int) (i:Int)=some (.int l[i]):=ja m;have s:atI (f.map D.int) (i:Int)=some (.int f[i]):=ja (sl ▸ hi);have v:=(r i l[i] (by simp[m])).2 (ZL _);have t:=V f[i] (Z5 _);generalize l[i] = x1 at E v;generalize f[i] = x2 at s t;have M:=J0 (way / 256);have H:ixN (l.map D.int).length (i:Int)=some i:=qF (by rw[ZA];exact m);obtain⟨y,U,K⟩ : ∃y:Int,(-20000<=y/\y<=20000)/\iM [some S0,some p1,some (.int way),some (.int n),some q4,some q5,some (.int i),a,b,some (.ref lk),some (.ref tk),none] h0=.nx [some S0,some p1,some (.int way),some (.int n),some q4,some q5,some (.int i),a,b,some (.ref lk),some (.ref tk),none] (h0.set lk (.lst ((l.map .int).set i (.int y)))):=by
    rcases M with e|e
    ·exact⟨x2 - 1000,lv1 t,(rY (ES (ak (aj (aF rfl rfl (aH B) s) rfl rfl) (ak (aj (aj (aF rfl rfl (aH C) E) (aj (aF rfl rfl (aH B) s) rfl (ee (by decide))) rfl) rfl rfl) rfl)) (aj (aj rfl rfl (lL (by decide) (by decide))) rfl (ee (by decide))) (by rw[e];rfl)) rfl rfl C H)⟩
    ·exact⟨x1 + x2 % 7 - 3,lv2 v,(rY (ES (ak (aj (aF rfl rfl (aH B) s) rfl rfl) (ak (aj (aj (aF rfl rfl (aH C) E) (aj (aF rfl rfl (aH B) s) rfl (ee (by decide))) rfl) rfl rfl) rfl)) (aj (aj rfl rfl (lL (by decide) (by decide))) rfl (ee (by decide))) (by rw[e];rfl)) rfl rfl C H)⟩
   refine⟨_,rfl,_,_,K,l.set i y,some (.int i),rfl,?_,by simp[l1],λj z o => ?_⟩
   ·rw[p,List.set_set,List.map_set]
   ·by_cases e:i=j
    ·subst e
     rw[List.getElem?_set_self m]at o;cases o;exact⟨U,λq=>absurd q (Nat.not_succ_le_self _)⟩
    ·rw[ZP e]at o
     have q:=r j z o;exact⟨q.1,λS=>q.2 (Nat.le_of_succ_le S)⟩) ⟨bs,c,rfl,by
    apply Z0;intro j
    by_cases e:lk=j
    ·subst e;rw[List.getElem?_set_self u];exact G
    ·rw[ZP e],lb,λj z o=>by
     have q:=bb z (ZK o);exact⟨lv3 q,λ_=>q⟩⟩
 exact⟨d,w,by rw[O,L,R],N,λz o=>by
  obtain⟨j,I⟩:=List.getElem?_of_mem o;exact(T j z I).1⟩
theorem BO (v:D):∀n,(List.replicate n [v]).flatten=List.replicate n v
 | 0=>rfl
 | n + 1=>by rw[YE,YE,Y9,BO v n];rfl
theorem Dd {l:List Int}(i:∀x∈l,0<=x/\x < 7){k:Nat}(j:h[k]? = some (.lst (l.map .int)))(a:Option D):∃ss:List (Option Int),bR (some k) (l.map .int) (gN 0) [] (fIx (ab (fC (.int 0)) (ab (fC (.int 1)) (ab (fC .non) (ab (fC .non) (ab (fC .non) (ab (fC .non) (ab (fC .non) ao))))))) (aa 0)) (l.map .int) [a] h=.ok (ss.map bq) h/\ss.length=l.length/\∀x∈ss,x=none\/x=some 0\/x=some 1:=by
 have:=bT (g:=some k) (all:=l.map .int) (tg:=gN 0) (cs:=[]) (e:=fIx (ab (fC (.int 0)) (ab (fC (.int 1)) (ab (fC .non) (ab (fC .non) (ab (fC .non) (ab (fC .non) (ab (fC .non) ao))))))) (aa 0)) (h:=h) (I:=λσ=>∃a,σ = [a]) (λ_=>true) (λd=>match d with | .int x=>bq (if x=0 then some 0 else if x=1 then some 1 else none)|_=>.non) j
  (xs:=l.map .int) (σ:=[a]) (by
   rintro x f σ ⟨c,rfl⟩;obtain⟨u,m,rfl⟩:=List.mem_map.mp f;have b:=i u m;refine⟨_,rfl,⟨_,rfl⟩,rfl,λ_ => ?_⟩;obtain⟨u,rfl⟩:=Int.eq_ofNat_of_zero_le b.1
   match u,Int.ofNat_lt.mp b.2 with
   | 0,_|1,_|2,_|3,_|4,_|5,_|6,_=>rfl
   | k + 7,z=>exact absurd z (Nat.not_lt.mpr (Nat.le_add_left 7 k))) ⟨_,rfl⟩
 refine⟨l.map λx=>if x=0 then some 0 else if x=1 then some 1 else none,?_,by simp,λx f => ?_⟩
 ·rw[this,List.filter_eq_self.mpr (by simp),wC,wC];rfl
 ·obtain⟨u,_,rfl⟩:=List.mem_map.mp f
  split
  ·exact .inr (.inl rfl)
  ·split
   ·exact .inr (.inr rfl)
   ·exact .inl rfl
theorem Lv {x1 a:Option D}{r:Sd}{N:Int}(e:(sml N || sml N)=true)(h:Hd):ag cI (aa 3) (aa 3) (b :: x1 :: a :: some (.int N) :: r) h=.ok (.int (N * N)) h:=by
 rw[show ag cI (aa 3) (aa 3) (b :: x1 :: a :: some (.int N) :: r) h=cI (.int N) (.int N) h from rfl];exact Dc e h
theorem J1 {S0:D}{x1 b d:D}{f q:Int}{k:Nat}{E:EF}{a e:Hd}(c:bO [S0,.int 1] a=.ok (.int f) a)(pr:E [some S0,some x1,some (.int way),some b,some d,none,none,none,none,none,none,none] a=.ok (.int q) a)(q4:dW [.int f,.int way,.int q,.int 803] a=.ok (.ref k) e) :
  aQ (gN 5) (au dW (ab (au bO (ab (aa 0) (ab (fC (.int 1)) ao))) (ab (aa 2) (ab E (ab (fC (.int 803)) ao))))) [some S0,some x1,some (.int way),some b,some d,none,none,none,none,none,none,none] a=.nx [some S0,some x1,some (.int way),some b,some d,some (.ref k),none,none,none,none,none,none] e:=by
 exact aD (ar (ak (ar (bV rfl rfl) c) (ak rfl (ak pr (ak rfl rfl)))) q4)
theorem Ie (a:n<=30){v:D}{b:EF}(c:b σ h=.ok (.int n) h):aG (rn (ab (fC v) ao) b) σ h=.ok (.ref h.length) (h++[.lst (List.replicate n v)]) :=
 bn (by rw[JQ (l:=[v]) rfl c ⟨XU n,VA (Int.ofNat_le.mpr a) (by decide),by rw[WL];exact ZM (Nat.le_of_eq (Nat.one_mul n)) (jq a)⟩,WL,BO]) (by rw[Y5];exact jq a)
theorem J2 (way:Int){mo:Int}(h0:0 < mo)(h1:mo<=17):∃n:Nat,(n:Int)=1 + way / 2 % mo/\1<=n/\n<=30/\(n:Int)<=mo:=by
 have a:=W1 (way / 2) (Int.ne_of_gt h0);have b:=WG (way / 2) h0;generalize way / 2 % mo=x at a b;obtain⟨k,rfl⟩:=Int.eq_ofNat_of_zero_le a;exact⟨1 + k,rfl,Z1 1 k,by omega,by have b:(k:Int) < mo:=b;omega⟩
theorem Ig:∀l:List Int,(∀y∈l,0<=y/\y<=400)->0<=l.sum/\l.sum<=400 * l.length
 | [],_=>⟨Y7 _,Y7 _⟩
 | y :: l,h=>by
  have a:=h y ZV;have b:=Ig l λz c=>h z (ZW _ c);rw[X8,YD];omega
theorem Mw {x:Int}(a:n<=30)(h:0<=x/\x<=400 * n):0<=x/\x<=12000:=⟨h.1,VA h.2 (Int.mul_le_mul_of_nonneg_left (Int.ofNat_le.mpr a) (by decide))⟩
abbrev XM (S0:D) (mo way:Int) (n:Nat) (a5 a6 a7 a8 a9 a10 a11:Option D):Sd:=[some S0,some (.int mo),some (.int way),some (.int n),some (.ref (0 + n)),a5,a6,a7,a8,a9,a10,a11]
theorem FC (ns:List Int){mo:Int}(h0:0 < mo)(a9:mo<=17):∃n M bs ss bk sk h,Mdl ns mo n M bs ss bk sk h:=by
 obtain⟨way,F⟩:=BM ns 0 (by decide);obtain⟨c1,Z⟩:=BM ns 1 (by decide);obtain⟨c2,U⟩:=BM ns 2 (by decide);obtain⟨c3,a0⟩:=BM ns 3 (by decide);obtain⟨S0,z⟩ : ∃S0:D,S0=.lit (ns.map .int):=⟨_,rfl⟩;have F:∀h,bO [S0,.int 0] h=.ok (.int way) h:=by rw[z];exact F
 have Z:∀h,bO [S0,.int 1] h=.ok (.int c1) h:=by rw[z];exact Z
 have U:∀h,bO [S0,.int 2] h=.ok (.int c2) h:=by rw[z];exact U
 have a0:∀h,bO [S0,.int 3] h=.ok (.int c3) h:=by rw[z];exact a0
 obtain⟨n,hn,n1,f,a8⟩:=J2 way h0 a9;have e0:aQ (gN 2) (au bO (ab (aa 0) (ab (fC (.int 0)) ao))) [some S0,some (.int mo),none,none,none,none,none,none,none,none,none,none] []=.nx [some S0,some (.int mo),some (.int way),none,none,none,none,none,none,none,none,none] []:=aD (ar (bV rfl rfl) (F _));have e1:aQ (gN 3) (ag ei (fC (.int 1)) (ag dk (ag k7 (aa 2) (fC (.int 2))) (aa 1))) [some S0,some (.int mo),some (.int way),none,none,none,none,none,none,none,none,none] []=.nx [some S0,some (.int mo),some (.int way),some (.int n),none,none,none,none,none,none,none,none] []:=by rw[hn];exact aD (aj rfl (aj (aj rfl rfl (lL (by decide) (by decide))) rfl (ee h0)) rfl)
 obtain⟨ds,h2,k2,l2,v2,c4,q2,J,g2⟩:=mW (g:=none) (all:=(List.range n).map λk:Nat=>D.int k) (tg:=gN 0) (xs:=(List.range n).map λk:Nat=>D.int k) (k:=0)
  (e:=aG (rn (ab (fC (.int 0)) ao) (aa 1))) (σ:=[none,some (.int n)]) (h:=[])
  (P:=λi σ h=>(∃a,σ = [a,some (.int n)])/\h.length=i/\∀j,j < i->h[j]? = some (.lst ((List.replicate n 0).map .int))) (V:=λi d=>d=.ref i) (λ_ _ _ _=>trivial) (by
   rintro i x σ h0 H ⟨⟨a,rfl⟩,hl,e1⟩;obtain⟨hi,rfl⟩:=dZ H;rw[wF]at hl e1 ⊢;refine⟨_,rfl,.ref h0.length,h0++[.lst ((List.replicate n 0).map .int)],?_,by rw[hl],⟨_,rfl⟩,by simp[hl],λj hj => ?_⟩
   ·rw[List.map_replicate];exact Ie f rfl
   ·by_cases hji:j < i
    ·exact aA _ (e1 j hji)
    ·have:j=i:=Nat.le_antisymm (YX hj) (Nat.not_lt.mp hji)
     subst this;rw[<-hl];exact ZG) ⟨⟨_,rfl⟩,rfl,λj hj=>absurd hj (YB _)⟩
 simp at l2 J g2;have b0:ds=(List.range n).map λi=>.ref (0 + i):=rX l2 λi d hd=>by simpa using v2 i d hd
 subst b0;obtain⟨C,O⟩ : ∃C,C=h2++[aS.lst ((List.range n).map λi=>.ref (0 + i))]:=⟨_,rfl⟩;have l3:C.length=n + 1:=by rw[O];simp[J]
 have e2:aQ (gN 4) (aG (bL 1 [3] (bK (aa 3)) (gN 0) [] (aG (rn (ab (fC (.int 0)) ao) (aa 1))))) [some S0,some (.int mo),some (.int way),some (.int n),none,none,none,none,none,none,none,none] []=.nx (XM S0 mo way n none none none none none none none) C:=by
  rw[O];show _=Out.nx [some S0,some (.int mo),some (.int way),some (.int n),some (.ref (0 + n)),none,none,none,none,none,none,none] _;rw[show D.ref (0 + n)=.ref h2.length by rw[J,wF]];exact aD (bn (cx (c7 rfl (jq f)) k2) (by rw[ZA,ZO];exact(jq f)))
 have m3:iT 0 n (λ_ _=>0) C:=by
  refine⟨λi hi => ?_,?_⟩
  ·rw[O,wF,aA _ (g2 i hi)]
   congr 2;simp only[gQ,wC];apply Z0;intro j
   by_cases hj:j < n<;>simp[hj]
  ·rw[O,wF,<-J];exact ZG
 have O3:MOk (λ_ _=>0):=⟨λ_ _=>rfl,λ_ _=>⟨Y7 _,by decide⟩,λ_=>rfl⟩;obtain⟨td,q4,tl,tb⟩:=JZ c1 way 803 (n * n) (ZM (Nat.mul_le_mul f f) (by decide)) (by decide) (by decide) C;obtain⟨X,K⟩ : ∃X,X=C++[aS.lst (td.map .int)]:=⟨_,rfl⟩;rw[<-K,l3]at q4;have sn:sml (n:Int)=true:=qD (XU n) (Int.lt_of_le_of_lt (Int.ofNat_le.mpr f) (by decide));have e3:aQ (gN 5) (au dW (ab (au bO (ab (aa 0) (ab (fC (.int 1)) ao))) (ab (aa 2) (ab (ag cI (aa 3) (aa 3)) (ab (fC (.int 803)) ao))))) (XM S0 mo way n none none none none none none none) C=.nx (XM S0 mo way n (some (.ref (n + 1))) none none none none none none) X:=by
  have b2:dW [.int c1,.int way,.int ((n:Int) * n),.int 803] C=.ok (.ref (n + 1)) X:=by rw[<-Int.natCast_mul];exact q4
  exact J1 (E:=ag cI (aa 3) (aa 3)) (Z C) (Lv (by rw[sn,Bool.or_self]) C) b2
 have m4:iT 0 n (λ_ _=>0) X:=by rw[K];exact m3.more _
 have t4:X[n + 1]? = some (.lst (td.map .int)):=by rw[K,<-l3];exact ZG
 obtain⟨M,W,R,q,p,q5,O5,m5,l5⟩:=Hq (A:=0) (tk:=n + 1) (way:=way) f tl tb (by omega) O3 m4 t4 (S0:=S0) (p1:=.int mo) (L:=n + 2) (by rw[K];simp[l3]);have e4:fN (bK (aa 3)) (gN 6) ko (XM S0 mo way n (some (.ref (n + 1))) none none none none none none) X=.nx (XM S0 mo way n (some (.ref (n + 1))) R q p none none none) W:=fZ (c7 rfl (jq f)) q5;have cs:bR (some (0 + n)) ((List.range n).map λi=>.ref (0 + i)) (gN 0) [] (qR (lOf (aa 0))) ((List.range n).map λi=>.ref (0 + i)) [none] W=.ok (((List.range n).map λi=>(gQ M n i).sum).map D.int) W:=by
  have:=bT (g:=some (0 + n)) (all:=(List.range n).map λi=>.ref (0 + i)) (tg:=gN 0) (cs:=[]) (e:=qR (lOf (aa 0))) (h:=W) (I:=λσ=>∃a,σ = [a]) (λ_=>true) (λd=>match d with | .ref k=>.int (gQ M n k).sum|_=>.non) m5.ti (xs:=(List.range n).map λi=>.ref (0 + i)) (σ:=[none]) (by
   rintro x H σ ⟨a,rfl⟩;obtain⟨i,hi,rfl⟩:=List.mem_map.mp H;have hi:=List.mem_range.mp hi;have r:=m5.ro i hi;simp only[wF]at r ⊢;refine⟨_,rfl,⟨_,rfl⟩,rfl,λ_ => ?_⟩;exact zW (bQ rfl (aH r)) (o7 _)) ⟨_,rfl⟩
  rw[this,List.filter_eq_self.mpr (by simp),wC,wC];refine congrArg (λl=>Res.ok l W) ?_;apply YK;intro i _;simp
 obtain⟨t,B⟩ : ∃t,t=(List.range n).map λi=>(gQ M n i).sum:=⟨_,rfl⟩;rw[<-B]at cs;have a1:t.length=n:=by rw[B];simp
 have a2:∀x∈t,0<=x/\x<=12000:=λx H=>by
  rw[B]at H;obtain⟨i,_,rfl⟩:=List.mem_map.mp H;have:=Ig (gQ M n i) λy hy=>by
   obtain⟨j,_,rfl⟩:=List.mem_map.mp hy;exact O5.bd i j
  have ll:(gQ M n i).length=n:=by simp[gQ]
  rw[ll]at this;exact Mw f this
 obtain⟨v,S⟩ : ∃v,v=W++[aS.lst (t.map .int)]:=⟨_,rfl⟩;have l6:v.length=n + 3:=by rw[S];simp[l5]
 have e5:aQ (gN 9) (aG (bL 1 [] (d7 (aa 4)) (gN 0) [] (qR (lOf (aa 0))))) (XM S0 mo way n (some (.ref (n + 1))) R q p none none none) W=.nx (XM S0 mo way n (some (.ref (n + 1))) R q p (some (.ref (n + 2))) none none) v:=by
  rw[S,<-l5];exact aD (bn (cx (dv rfl m5.ti) cs) (by rw[ZA,a1];exact(jq f)))
 have m6:iT 0 n M v:=by rw[S];exact m5.more _
 have b6:v[n + 2]? = some (.lst (t.map .int)):=by rw[S,<-l5];exact ZG
 have e6:∃(bs:List Int) (m o:Option D) (u:Hd),sIf (tE (ag oEq (ag dk (ag k7 (aa 2) (fC (.int 128))) (fC (.int 2))) (fC (.int 1)))) (ax (aQ (gN 10) (au dW (ab (au bO (ab (aa 0) (ab (fC (.int 2)) ao))) (ab (aa 2) (ab (aa 3) (ab (fC (.int 2001)) ao))))))
  (fN (bK (aa 3)) (gN 6) iM)) br (XM S0 mo way n (some (.ref (n + 1))) R q p (some (.ref (n + 2))) none none) v=.nx (XM S0 mo way n (some (.ref (n + 1))) m q p (some (.ref (n + 2))) o none) u/\iT 0 n M u/\u[n + 2]? = some (.lst (bs.map .int))/\bs.length=n/\n + 3<=u.length/\∀x∈bs,-20000<=x/\x<=20000:=by
  have N:=yD (way:=way) (d:=128) (σ:=(XM S0 mo way n (some (.ref (n + 1))) R q p (some (.ref (n + 2))) none none)) (h:=v) (i:=2) rfl (by decide) (by decide)
  by_cases e:way / 128 % 2=1
  ·rw[yQ e]at N
   obtain⟨Y,q7,sl,sb⟩:=JZ c2 way 2001 n (jq f) (by decide) (by decide) v;rw[l6]at q7;have t1:aQ (gN 10) (au dW (ab (au bO (ab (aa 0) (ab (fC (.int 2)) ao))) (ab (aa 2) (ab (aa 3) (ab (fC (.int 2001)) ao))))) (XM S0 mo way n (some (.ref (n + 1))) R q p (some (.ref (n + 2))) none none) v=.nx (XM S0 mo way n (some (.ref (n + 1))) R q p (some (.ref (n + 2))) (some (.ref (n + 3))) none) (v++[.lst (Y.map .int)]):=by
    exact aD (ar (ak (ar (bV rfl rfl) (U _)) (ak rfl (bV rfl rfl))) q7)
   obtain⟨a4,c',q8,b3,b5⟩:=FB (A:=0) (lk:=n + 2) (tk:=n + 3) (way:=way) f sl (ZN (wB _)) (h:=v++[.lst (Y.map .int)]) a1 sb a2 (aA _ b6) (by rw[<-l6];exact ZG) (S0:=S0) (p1:=.int mo) (q4:=.ref (0 + n)) (q5:=.ref (n + 1)) (a:=q) (b:=p) (c:=R);refine⟨a4,c',some (.ref (n + 3)),_,?_,(m6.more [.lst (Y.map .int)]).set (k:=n + 2) (by omega) (.lst (a4.map .int)),?_,b3,by simp[l6],b5⟩
   ·exact(gX N).trans ((bC t1).trans (fZ (c7 rfl (jq f)) q8))
   ·rw[List.getElem?_set_self (by simp[l6])]
  ·rw[y3 e]at N
   exact⟨t,R,none,v,by rw[Hm N];rfl,m6,b6,a1,Nat.le_of_eq l6.symm,λx H=>lv3 (a2 x H)⟩
 obtain⟨bs,m,o,u,e6,m7,b7,b1,l7,c0⟩:=e6;obtain⟨s,w⟩ : ∃s,s=u++[aS.lst ((List.replicate n (none:Option Int)).map bq)]:=⟨_,rfl⟩;have e7:aQ (gN 11) (aG (rn (ab (fC .non) ao) (aa 3))) (XM S0 mo way n (some (.ref (n + 1))) m q p (some (.ref (n + 2))) o none) u=.nx (XM S0 mo way n (some (.ref (n + 1))) m q p (some (.ref (n + 2))) o (some (.ref u.length))) s:=by
  rw[w,List.map_replicate];exact aD (Ie f rfl)
 have m8:iT 0 n M s:=by rw[w];exact m7.more _
 have b8:s[n + 2]? = some (.lst (bs.map .int)):=by rw[w];exact aA _ b7
 have s8:s[u.length]? = some (.lst ((List.replicate n (none:Option Int)).map bq)):=by rw[w];simp
 have e8:∃(ss:List (Option Int)) (x5:D) (sk:Nat) (T:Hd),sIf (tE (ag oEq (ag dk (ag k7 (aa 2) (fC (.int 512))) (fC (.int 2))) (fC (.int 1)))) (ax (aQ (gN 5) (au dW (ab (au bO (ab (aa 0) (ab (fC (.int 3)) ao))) (ab (aa 2) (ab (aa 3) (ab (fC (.int 7)) ao))))))
  (aQ (gN 11) (aG (bL 1 [] (d7 (aa 5)) (gN 0) [] (fIx (ab (fC (.int 0)) (ab (fC (.int 1)) (ab (fC .non) (ab (fC .non) (ab (fC .non) (ab (fC .non) (ab (fC .non) ao))))))) (aa 0)))))) br (XM S0 mo way n (some (.ref (n + 1))) m q p (some (.ref (n + 2))) o (some (.ref u.length))) s=.nx (XM S0 mo way n (some x5) m q p (some (.ref (n + 2))) o (some (.ref sk))) T/\iT 0 n M T/\T[n + 2]? = some (.lst (bs.map .int))/\T[sk]? = some (.lst (ss.map bq))/\ss.length=n/\(∀x∈ss,x=none\/x=some 0\/x=some 1)/\n < sk:=by
  have N:=yD (way:=way) (d:=512) (σ:=(XM S0 mo way n (some (.ref (n + 1))) m q p (some (.ref (n + 2))) o (some (.ref u.length)))) (h:=s) (i:=2) rfl (by decide) (by decide)
  by_cases e:way / 512 % 2=1
  ·rw[yQ e]at N
   obtain⟨a3,q9,sl,sb⟩:=JZ c3 way 7 n (jq f) (by decide) (by decide) s;obtain⟨Q,G⟩ : ∃Q,Q=s++[aS.lst (a3.map .int)]:=⟨_,rfl⟩;rw[<-G]at q9;have g9:Q[s.length]? = some (.lst (a3.map .int)):=by rw[G];simp
   obtain⟨ss,cq,a5,b4⟩:=Dd sb g9 none;have t1:aQ (gN 5) (au dW (ab (au bO (ab (aa 0) (ab (fC (.int 3)) ao))) (ab (aa 2) (ab (aa 3) (ab (fC (.int 7)) ao))))) (XM S0 mo way n (some (.ref (n + 1))) m q p (some (.ref (n + 2))) o (some (.ref u.length))) s=.nx (XM S0 mo way n (some (.ref s.length)) m q p (some (.ref (n + 2))) o (some (.ref u.length))) Q:=by
    exact aD (ar (ak (ar (bV rfl rfl) (a0 _)) (ak rfl (bV rfl rfl))) q9)
   have t2:aQ (gN 11) (aG (bL 1 [] (d7 (aa 5)) (gN 0) [] (fIx (ab (fC (.int 0)) (ab (fC (.int 1)) (ab (fC .non) (ab (fC .non) (ab (fC .non) (ab (fC .non) (ab (fC .non) ao))))))) (aa 0)))) (XM S0 mo way n (some (.ref s.length)) m q p (some (.ref (n + 2))) o (some (.ref u.length))) Q=.nx (XM S0 mo way n (some (.ref s.length)) m q p (some (.ref (n + 2))) o (some (.ref Q.length))) (Q++[.lst (ss.map bq)]):=by
    exact aD (bn (cx (dv rfl g9) cq) (by rw[ZA,a5,sl];exact(jq f)))
   refine⟨ss,.ref s.length,Q.length,Q++[.lst (ss.map bq)],?_,by rw[G];exact(m8.more _).more _,?_,by simp,a5.trans sl,b4,by rw[G,w];simp;omega⟩
   ·exact(gX N).trans ((bC t1).trans t2)
   ·exact aA _ (by rw[G];exact aA _ b8)
  ·rw[y3 e]at N
   exact⟨List.replicate n none,.ref (n + 1),u.length,s,by rw[Hm N];rfl,m8,b8,s8,by simp,λx H=>.inl (List.eq_of_mem_replicate H),by omega⟩
 obtain⟨ss,x5,sk,T,e8,m9,b9,s9,a6,a7,k9⟩:=e8;have e9:aZ (j0 (ab (aa 4) (ab (aa 9) (ab (aa 11) ao)))) (XM S0 mo way n (some x5) m q p (some (.ref (n + 2))) o (some (.ref sk))) T=.rt (.tup [.ref (0 + n),.ref (n + 2),.ref sk]) T:=aR (iK (ak rfl (bV rfl rfl)));refine⟨n,M,bs,ss,n + 2,sk,T,?_,n1,f,a8,by omega,k9,m9,O5,b9,s9,b1,a6,a7,c0⟩;have st:([S0,D.int mo].map some++List.replicate (12 - [S0,D.int mo].length) none:Sd)=[some S0,some (.int mo),none,none,none,none,none,none,none,none,none,none]:=rfl;rw[<-z];unfold jQ bS runB;rw[z4 (by rfl),st,bC e0,bC e1,bC e2,bC e3,bC e4,bC e5,bC e6,bC e7,bC e8,e9];exact jK rfl
def mG (one other i j:Nat):Prop:=(i < one/\j < one)\/(i=one/\j < other)\/(j=one/\i < other)
instance (one other i j:Nat):Decidable (mG one other i j):=by unfold mG;infer_instance
def hX (M:Nat->Nat->Int) (s:List Int) (one other i j:Nat):Int:=if mG one other i j/\s.getD j 0=1 then M i j else 0
structure LP (n:Nat) (M:Nat->Nat->Int) (one other:Nat) (T:List Tie):Prop where
 ok:TOk n one other T
 pl:∀i,i < n->∀s,bF (nbs T i) s=eG (hX M s one other i) n
theorem pa1 (a b c:Int):a + (b + c)=a + b + c:=(Int.add_assoc a b c).symm
theorem AC (r a:List (Nat × Int))(s:List Int):bF (r++a) s=bF r s + bF a s:=by
 induction r with
 | nil=>simp[bF,eQ]
 | cons p r ih=>rw[List.cons_append,eW,eW,ih];exact pa1 _ _ _
theorem sr1 (S x y:Int):S + 0 + x=S + y + (x - y):=by omega
theorem wu {f g:Nat->Int}{p:Nat}(h:∀j,j≠p->f j=g j):∀n,eG f n=eG g n + if p < n then f p - g p else 0
 | 0=>by simp[eG]
 | n + 1=>by
  rw[eG,eG,wu h n]
  by_cases e:n=p
  ·subst e
   rw[z5 (wD _),z4 (wB _)];exact sr1 _ _ _
  ·rw[h n e]
   by_cases l:p < n
   ·rw[z4 l,z4 (yS l)];exact Int.add_right_comm _ _ _
   ·rw[z5 l,z5 λz=>(Nat.lt_succ_iff_lt_or_eq.mp z).elim l λz=>e z.symm,Int.add_zero,Int.add_zero]
theorem kL {f g:Nat->Int}:∀n,(∀j,j < n->f j=g j)->eG f n=eG g n
 | 0,_=>rfl
 | n + 1,h=>by rw[eG,eG,kL n λj a=>h j (by omega),h n (by omega)]
theorem De {one other i j:Nat}:mG one (other + 1) i j ↔ mG one other i j\/(i=one/\j=other)\/(j=one/\i=other):=by
 constructor
 ·rintro (h|⟨a,b⟩|⟨a,b⟩)
  ·exact .inl (.inl h)
  ·exact(Nat.lt_succ_iff_lt_or_eq.mp b).elim (λb=>.inl (.inr (.inl ⟨a,b⟩))) λb=>.inr (.inl ⟨a,b⟩)
  ·exact(Nat.lt_succ_iff_lt_or_eq.mp b).elim (λb=>.inl (.inr (.inr ⟨a,b⟩))) λb=>.inr (.inr ⟨a,b⟩)
 ·rintro ((h|⟨a,b⟩|⟨a,b⟩)|⟨a,b⟩|⟨a,b⟩)
  ·exact .inl h
  ·exact .inr (.inl ⟨a,yS b⟩)
  ·exact .inr (.inr ⟨a,yS b⟩)
  ·exact .inr (.inl ⟨a,b ▸ wB _⟩)
  ·exact .inr (.inr ⟨a,b ▸ wB _⟩)
theorem pN {one other i j:Nat}(h1 : ¬(i=one/\j=other))(h2 : ¬(j=one/\i=other)):mG one (other + 1) i j ↔ mG one other i j :=
 De.trans ⟨λz=>z.elim id λz=>z.elim (λz=>absurd z h1) λz=>absurd z h2,.inl⟩
theorem BP {one other:Nat}(a:other < one) : ¬mG one other one other/\¬mG one other other one:=by
 refine⟨?_,?_⟩
 ·rintro (h|h|h)
  ·exact wD _ h.1
  ·exact wD _ h.2
  ·exact wD _ (h.1 ▸ a)
 ·rintro (h|h|h)
  ·exact wD _ h.2
  ·exact wD _ (h.1 ▸ a)
  ·exact wD _ h.2
theorem Df {one i j:Nat}(e : ¬(i=one/\j=one)):mG one one i j ↔ mG (one + 1) 0 i j:=by
 constructor
 ·rintro (h|h|h)
  ·exact .inl ⟨yS h.1,yS h.2⟩
  ·exact .inl ⟨h.1 ▸ wB _,yS h.2⟩
  ·exact .inl ⟨yS h.2,h.1 ▸ wB _⟩
 ·rintro (⟨a,b⟩|h|h)
  ·rcases Nat.lt_succ_iff_lt_or_eq.mp a with a|a<;>rcases Nat.lt_succ_iff_lt_or_eq.mp b with b|b
   ·exact .inl ⟨a,b⟩
   ·exact .inr (.inr ⟨b,a⟩)
   ·exact .inr (.inl ⟨a,b⟩)
   ·exact absurd ⟨a,b⟩ e
  ·exact absurd h.2 (YB _)
  ·exact absurd h.2 (YB _)
theorem u6 {M:Nat->Nat->Int}(O:MOk M){one other:Nat}(a:other < one)(d:one < n)(i:Nat)(s:List Int) :
  eG (hX M s one (other + 1) i) n=eG (hX M s one other i) n + (if i=one then (if s.getD other 0=1 then M one other else 0) else if i=other then (if s.getD one 0=1 then M one other else 0) else 0):=by
 by_cases e1:i=one
 ·subst e1
  rw[z4 rfl,wu (p:=other) (g:=hX M s i other i) (λj b => ?_),z4 (x3 a d)]
  ·have c:mG i (other + 1) i other:=.inr (.inl ⟨rfl,wB _⟩)
   have p2:=(BP a).1;simp only[hX,c,p2,true_and,false_and,YQ,Int.sub_zero]
  ·have:=pN (one:=i) (i:=i) (λz=>b z.2) λz=>x6 a z.2
   simp only[hX,this]
 ·rw[z5 e1]
  by_cases e2:i=other
  ·subst e2
   rw[z4 rfl,wu (p:=one) (g:=hX M s one i i) (λj b => ?_),z4 d]
   ·have c:mG one (i + 1) i one:=.inr (.inr ⟨rfl,wB _⟩)
    have p2:=(BP a).2;simp only[hX,c,p2,true_and,false_and,YQ,O.sym i one,Int.sub_zero]
   ·have:=pN (i:=i) (other:=i) (λz=>e1 z.1) λz=>b z.1
    simp only[hX,this]
  ·rw[z5 e2,kL n (g:=hX M s one other i) λj _ => ?_]
   ·exact(Int.add_zero _).symm
   ·have:=pN (i:=i) (j:=j) (λz=>e1 z.1) λz=>e2 z.2
    simp only[hX,this]
variable {T:List Tie}
theorem LP.skip {M:Nat->Nat->Int}(O:MOk M){one other:Nat}(L:LP n M one other T)(a:other < one)(b:one < n)(z:M one other=0):LP n M one (other + 1) T :=
 ⟨L.ok.skip,λi hi s=>by
  rw[L.pl i hi s,u6 O a b i s,z];split<;>(try split)<;>(try split)<;>omega⟩
theorem LP.put {M:Nat->Nat->Int}(O:MOk M){one other:Nat}(L:LP n M one other T)(a:other < one)(c:one < n)(z:0 < M one other):LP n M one (other + 1) (T++[⟨other,one,M one other⟩]):=by
 have b:=O.bd one other;refine⟨?_,λi hi s => ?_⟩
 ·have:=L.ok.put c a (w:=M one other) z b.2 (t:=⟨other,one,M one other⟩) (.inr rfl) T.length
  simpa using this
 ·rw[ym,AC,L.pl i hi s,u6 O a c i s]
  congr 1
  by_cases e1:i=one
  ·have f:far i ⟨other,one,M one other⟩ = some other:=by
    unfold far;rw[z5 (λz:other=i=>ZN a (z.trans e1)),z4 e1.symm]
   rw[f,z4 e1];simp only;rw[eW];simp[bF,eQ]
  ·rw[z5 e1]
   by_cases e2:i=other
   ·have f:far i ⟨other,one,M one other⟩ = some one:=by unfold far;rw[z4 e2.symm]
    rw[f,z4 e2];simp only;rw[eW];simp[bF,eQ]
   ·have f:far i ⟨other,one,M one other⟩ = none:=by
     unfold far;rw[z5 (λz:other=i=>e2 z.symm),z5 (λz:one=i=>e1 z.symm)]
    rw[f,z5 e2];simp[bF,eQ]
theorem LP.step {M:Nat->Nat->Int}(O:MOk M){one:Nat}(L:LP n M one one T)(h:one < n)(a:n<=30):LP n M (one + 1) 0 T :=
 ⟨L.ok.step h a,λi hi s=>by
  rw[L.pl i hi s];refine kL n λj _ => ?_;unfold hX
  by_cases e:i=one/\j=one
  ·rw[e.1,e.2,O.no one];split<;>split<;>rfl
  ·have:=Df e
   simp only[this]⟩
structure Md (Z n:Nat) (M:Nat->Nat->Int) (bs:List Int) (ss:List (Option Int)) (bk sk:Nat) (h:Hd):Prop where
 n1:1<=n
 n30:n<=30
 mt:iT Z n M h
 mo:MOk M
 ba:h[bk]? = some (.lst (bs.map .int))
 st:h[sk]? = some (.lst (ss.map bq))
 lb:bs.length=n
 ls:ss.length=n
 os:∀x∈ss,x=none\/x=some 0\/x=some 1
theorem Md.more {Z:Nat}{M:Nat->Nat->Int}{bs:List Int}{ss:List (Option Int)}{bk sk:Nat}(m:Md Z n M bs ss bk sk h)(g:Hd):Md Z n M bs ss bk sk (h++g):=by
 have k:∀{i:Nat} {x:aS},h[i]? = some x->(h++g)[i]? = some x:=λ{i x} e=>by
  rw[ZC (List.getElem?_eq_some_iff.mp e).1];exact e
 exact⟨m.n1,m.n30,m.mt.more g,m.mo,k m.ba,k m.st,m.lb,m.ls,m.os⟩
theorem FD {Z:Nat}{M:Nat->Nat->Int}{bs:List Int}{ss:List (Option Int)}{bk sk:Nat}(m:Md Z n M bs ss bk sk h) :
  ∃T,f6 [.tup [.ref (Z + n),.ref bk,.ref sk]] h=.ok (.ref h.length) (h++[.lst (T.map gY)])/\LP n M n 0 T:=by
 have f:=m.n30;obtain⟨td,o⟩ : ∃td:D,td=.tup [.ref (Z + n),.ref bk,.ref sk]:=⟨_,rfl⟩;obtain⟨A,r⟩ : ∃A,A=h.length:=⟨_,rfl⟩;have t0:∀g,fAt (aa 0) (fC (.int 0)) (some td :: g)=λh=>.ok (.ref (Z + n)) h:=λg=>by
  funext h;rw[o];exact aF rfl rfl rfl rfl
 obtain⟨I,t,G,T,a,b,O,U,E⟩:=dF (P:=λi σ t=>∃(T:List Tie) (a b:Option D),σ = [some td,some (.ref A),a,b]/\t=h++[.lst (T.map gY)]/\LP n M i 0 T) (g:=none) (k:=0)
   (all:=(List.range n).map λk:Nat=>D.int k) (λ_ _ _ _=>trivial)
   (xs:=(List.range n).map λk:Nat=>D.int k) (tg:=gN 2) (σ:=[some td,some (.ref A),none,none]) (h:=h++[.lst []]) (b:=ng) (by
   rintro i x σ h0 y ⟨T,a,b,rfl,w,L⟩;obtain⟨hi,rfl⟩:=dZ y;rw[wF]at L ⊢;obtain⟨N,h2,R,T2,b2,V,j3,C⟩:=dF (P:=λj σ t=>∃(T:List Tie) (b:Option D),σ = [some td,some (.ref A),some (.int i),b]/\t=h++[.lst (T.map gY)]/\LP n M i j T) (g:=none) (k:=0)
     (all:=(List.range i).map λk:Nat=>D.int k) (λ_ _ _ _=>trivial)
     (xs:=(List.range i).map λk:Nat=>D.int k) (tg:=gN 3) (σ:=[some td,some (.ref A),some (.int i),b]) (h:=h0) (b:=sw) (by
     rintro j x σ h1 y ⟨l,F,rfl,e,v⟩;obtain⟨q,rfl⟩:=dZ y;rw[wF]at v ⊢;have m1:Md Z n M bs ss bk sk h1:=by rw[e];exact m.more _
     have X:=BN (A:=Z) hi;have S:=m1.mt.ro i hi;have Y:=FA (M:=M) (n:=n) (i:=i) (j:=j) (x3 q hi);have B:=m1.mt.ti;have d:fAt (fAt (fAt (aa 0) (fC (.int 0))) (aa 2)) (aa 3) [some td,some (.ref A),some (.int i),some (.int j)] h1=.ok (.int (M i j)) h1:=by
      have p:=congrFun (t0 [some (.ref A),some (.int i),some (.int j)]) h1;exact aF (aF p rfl (aH B) X) rfl (aH S) Y
     have H:h1[A]? = some (.lst (l.map gY)):=by rw[e];exact ij r _
     have W:(l.map gY).length < SZ:=by rw[ZA];exact x3 (few v.ok.len hi f q) (by decide)
     have u:tE (ag oGt (fAt (fAt (fAt (aa 0) (fC (.int 0))) (aa 2)) (aa 3)) (fC (.int 0))) [some td,some (.ref A),some (.int i),some (.int j)] h1=.ok (decide (0 < M i j)) h1:=by
      exact aI (aj d rfl rfl)
     by_cases c:0 < M i j
     ·refine⟨_,rfl,[some td,some (.ref A),some (.int i),some (.int j)],h++[.lst ((l++[(⟨j,i,M i j⟩ : Tie)]).map gY)],?_,l++[(⟨j,i,M i j⟩ : Tie)],_,rfl,rfl,v.put m.mo q hi c⟩
      rw[yQ c]at u;show sIf _ _ _ [some td,some (.ref A),some (.int i),some (.int j)] h1=_;rw[Lu u];have st:h1.set A (.lst (l.map gY++[.tup [.int j,.int i,.int (M i j)]]))=h++[.lst ((l++[(⟨j,i,M i j⟩ : Tie)]).map gY)]:=by rw[e,mi r,ZR];rfl
      rw[<-st];exact jp (ki rfl H (iK (ak rfl (ak rfl (ak d rfl)))) H W)
     ·have z:M i j=0:=Int.le_antisymm (Int.not_lt.mp c) (m.mo.bd i j).1
      refine⟨_,rfl,[some td,some (.ref A),some (.int i),some (.int j)],h1,?_,l,_,rfl,e,v.skip m.mo q hi z⟩;rw[y3 c]at u;show sIf _ _ _ [some td,some (.ref A),some (.int i),some (.int j)] h1=_;rw[Hm u];rfl) ⟨T,b,rfl,w,L⟩
   have p:0 + ((List.range i).map λk:Nat=>D.int k).length=i:=by simp
   rw[p]at C;refine⟨_,rfl,[some td,some (.ref A),some (.int i),b2],h2,?_,T2,_,_,rfl,j3,C.step m.mo hi f⟩;show fN _ _ _ [some td,some (.ref A),some (.int i),b] h0=_;exact(fZ (c7 rfl (ZM (YI hi) (jq f))) R).trans (by rw[V])) ⟨[],none,none,rfl,rfl,⟨⟨by simp,by simp,by simp,by simp,List.Pairwise.nil,by simp⟩,λi hi s=>by
    have:∀k,eG (hX M s 0 0 i) k=0:=λk=>by
     induction k with
     | zero=>rfl
     | succ k ih =>
      rw[eG,ih];have : ¬mG 0 0 i k:=by unfold mG;omega
      simp[hX,this]
    rw[this];rfl⟩⟩
 have p:0 + ((List.range n).map λk:Nat=>D.int k).length=n:=by simp
 rw[p]at E;refine⟨T,?_,E⟩;have K:aQ (gN 1) (aG ao) [some td,none,none,none] h=.nx [some td,some (.ref A),none,none] (h++[.lst []]):=aD (nX r rfl (Z8 _));have F:=(m.more [.lst []]).ba;have Q:cB (lOf (fAt (aa 0) (fC (.int 1)))) [some td,some (.ref A),none,none] (h++[.lst []])=.ok (.int n) (h++[.lst []]):=by
  rw[o];exact(c6 (bQ (aF rfl rfl rfl rfl) (aH F))).trans (by rw[ZA,m.lb])
 have s2:fN (bK (cB (lOf (fAt (aa 0) (fC (.int 1)))))) (gN 2) ng [some td,some (.ref A),none,none] (h++[.lst []])=.nx [some td,some (.ref A),a,b] (h++[.lst (T.map gY)]):=by
  rw[O,U]at G;exact fZ (c7 Q (jq f)) G
 have J:aZ (aa 1) [some td,some (.ref A),a,b] (h++[.lst (T.map gY)])=.rt (.ref A) (h++[.lst (T.map gY)]):=aR rfl;have st:([td].map some++List.replicate (4 - [td].length) none:Sd)=[some td,none,none,none]:=rfl;rw[<-o];unfold f6 bS runB;rw[z4 (by rfl),st,bC K,bC s2,J,<-r];exact dR
variable {s:List Int}
section
variable {Z n:Nat} {M:Nat->Nat->Int} {bs:List Int} {ss:List (Option Int)} {bk sk:Nat} {h:Hd}
abbrev XT (td:D) (s:List Int) (Z n bk sk:Nat) (a5 a6 a7 a8:Option D):Sd:=[some td,some (ay s),some (.ref (Z + n)),some (.ref bk),some (.ref sk),a5,a6,a7,a8]
theorem FE (L:LP n M n 0 T)(B:vZ s){i:Nat}(hi:i < n):eG (λj=>M i j * s.getD j 0) n=bF (nbs T i) s:=by
 rw[L.pl i hi s];refine kL n λj a => ?_;have p:mG n 0 i j:=.inl ⟨hi,a⟩;rcases B j with e|e
 ·simp only[hX,e];simp
 ·simp only[hX,p,e];simp
theorem Hr (m:Md Z n M bs ss bk sk h)(q:f6 [.tup [.ref (Z + n),.ref bk,.ref sk]] h=.ok (.ref h.length) (h++[.lst (T.map gY)]))(L:LP n M n 0 T) :
  lO [.tup [.ref (Z + n),.ref bk,.ref sk]] h=.ok (cV n T bs ss).enc h:=by
 have j:=m.n30;obtain⟨td,f⟩ : ∃td:D,td=.tup [.ref (Z + n),.ref bk,.ref sk]:=⟨_,rfl⟩;have t:∀g,fAt (aa 0) (fC (.int 1)) [some td] g=.ok (.ref bk) g:=λg=>by
  rw[f];exact(aF rfl rfl rfl rfl)
 have G:∀g,fAt (aa 0) (fC (.int 2)) [some td] g=.ok (.ref sk) g:=λg=>by
  rw[f];exact(aF rfl rfl rfl rfl)
 obtain⟨h1,i⟩ : ∃h1,h1=h++[aS.lst (T.map gY)]:=⟨_,rfl⟩;have m1:Md Z n M bs ss bk sk h1:=by rw[i];exact m.more _
 obtain⟨h2,a⟩ : ∃h2,h2=h1++[aS.lst (bs.map .int)]:=⟨_,rfl⟩;have m2:Md Z n M bs ss bk sk h2:=by rw[a];exact m1.more _
 obtain⟨c,b⟩ : ∃c,c=h2++[aS.lst (ss.map bq)]:=⟨_,rfl⟩;have l:∀{k:Nat} {x:aS},h1[k]? = some x->c[k]? = some x:=λ{k x} e=>by
  have z:=(List.getElem?_eq_some_iff.mp e).1;rw[b,a,ZU,ZC z];exact e
 have C:c[h.length]? = some (.lst (T.map gY)):=l (by rw[i];simp);have y:c[h1.length]? = some (.lst (bs.map .int)):=by rw[b,a];exact aA _ ZG
 have H:c[h2.length]? = some (.lst (ss.map bq)):=by rw[b];simp
 have E:=CV m.n1 j L.ok m.lb m.ls m.os C y H;have B:(bs.map D.int).length<=SZ:=by rw[ZA,m.lb];exact(jq j)
 have u:(ss.map bq).length<=SZ:=by rw[ZA,m.ls];exact(jq j)
 have w:=m.ba;have p:=m1.ba;have o:=m2.st;rw[<-f,<-i]at q;have r:au jN (ab (cB (lOf (fAt (aa 0) (fC (.int 1))))) (ab (au f6 (ab (aa 0) ao)) (ab (aG (lOf (fAt (aa 0) (fC (.int 1))))) (ab (aG (lOf (fAt (aa 0) (fC (.int 2))))) ao)))) [some td] h=.ok (cV n T bs ss).enc c:=by
  have F:aG (lOf (fAt (aa 0) (fC (.int 1)))) [some td] h1=.ok (.ref h1.length) h2:=by rw[a];exact bn (bQ (t _) (aH p)) B
  have A:aG (lOf (fAt (aa 0) (fC (.int 2)))) [some td] h2=.ok (.ref h2.length) c:=by rw[b];exact bn (bQ (G _) (aH o)) u
  have v:cB (lOf (fAt (aa 0) (fC (.int 1)))) [some td] h=.ok (.int n) h:=by
   have:=c6 (bQ (t h) (aH w));rwa[ZA,m.lb]at this
  exact ar (ak v (ak (ar (ak rfl rfl) q) (ak F (ak A rfl)))) E
 have s:letGo h (.ok (cV n T bs ss).enc c)=.ok (cV n T bs ss).enc h:=by
  rw[b,a,i,ZU,ZU];exact cr (yh _)
 rw[<-f];unfold lO bS runB;rw[z4 (by rfl)];show letGo h (match outE (au jN _ [some td] h) _ _ with | .nx _ h=>_ | .rt d h=>_ | .exc x _ h=>_|_=>_)=_;rw[r];exact s
theorem Mx {x y:Int}(e:y=0\/y=1)(h:Hd):cI (.int x) (.int y) h=.ok (.int (x * y)) h:=Dc (by rw[G3 e,WR]) h
theorem AD (m:Md Z n M bs ss bk sk h)(ls:s.length=n)(B:vZ s){i:Nat}(hi:i < n)(a:Option D) :
  bR none ((List.range n).map λk:Nat=>D.int k) (gN 0) [] (ag cI (fAt (fAt (aa 2) (aa 3)) (aa 0)) (fAt (aa 1) (aa 0))) ((List.range n).map λk:Nat=>D.int k) [a,some (ay s),some (.ref (Z + n)),some (.int i)] h=.ok (((List.range n).map λj=>M i j * s.getD j 0).map .int) h:=by
 have:=bT (g:=none) (all:=(List.range n).map λk:Nat=>D.int k) (tg:=gN 0) (cs:=[]) (e:=ag cI (fAt (fAt (aa 2) (aa 3)) (aa 0)) (fAt (aa 1) (aa 0))) (h:=h) (I:=λσ=>∃a,σ = [a,some (ay s),some (.ref (Z + n)),some (.int i)]) (λ_=>true) (λd=>match d with | .int j=>.int (M i j.toNat * s.getD j.toNat 0)|_=>.non) trivial
  (xs:=(List.range n).map λk:Nat=>D.int k) (σ:=[a,some (ay s),some (.ref (Z + n)),some (.int i)]) (by
   rintro x r σ ⟨c,rfl⟩;obtain⟨j,b,rfl⟩:=List.mem_map.mp r;have b:=List.mem_range.mp b;refine⟨_,rfl,⟨_,rfl⟩,rfl,λ_ => ?_⟩;have t:=BN (A:=Z) hi;have q:=m.mt.ro i hi;have u:=FA (M:=M) (n:=n) (i:=i) b;have f:=m.mt.ti;have p:=nY (l:=s) (i:=j) (ls ▸ b);have v:fAt (fAt (aa 2) (aa 3)) (aa 0) [some (.int (j:Nat)),some (ay s),some (.ref (Z + n)),some (.int i)] h=.ok (.int (M i j)) h:=by
    exact aF (aF rfl rfl (aH f) t) rfl (aH q) u
   have o:fAt (aa 1) (aa 0) [some (.int (j:Nat)),some (ay s),some (.ref (Z + n)),some (.int i)] h=.ok (.int (s.getD j 0)) h:=by
    exact aF rfl rfl rfl p
   show ag cI (fAt (fAt (aa 2) (aa 3)) (aa 0)) (fAt (aa 1) (aa 0)) [some (.int (j:Nat)),some (ay s),some (.ref (Z + n)),some (.int i)] h=_;exact aj v o (Mx (B j) h)) ⟨_,rfl⟩
 rw[this,List.filter_eq_self.mpr (by simp),wC,wC];rfl
theorem J3 (m:Md Z n M bs ss bk sk h)(L:LP n M n 0 T)(ls:s.length=n)(B:vZ s) :
  fG [.tup [.ref (Z + n),.ref bk,.ref sk],ay s] h=.ok (ay (cO (cV n T bs ss) n s)) h:=by
 have p:=m.n30;obtain⟨w,hw⟩ : ∃w,w=cV n T bs ss:=⟨_,rfl⟩;obtain⟨td,E⟩ : ∃td:D,td=.tup [.ref (Z + n),.ref bk,.ref sk]:=⟨_,rfl⟩;obtain⟨A,J⟩ : ∃A,A=h.length:=⟨_,rfl⟩;obtain⟨a0,h',k1,V,X,W,k2,k3⟩:=dF (P:=λi σ h'=>∃(a b c:Option D),σ = (XT td s Z n bk sk (some (.ref A)) a b c)/\h'=h++[.lst (((List.range i).map (cN w s)).map .int)]) (g:=none) (k:=0)
   (all:=(List.range n).map λk:Nat=>D.int k) (λ_ _ _ _=>trivial)
   (xs:=(List.range n).map λk:Nat=>D.int k) (tg:=gN 6) (σ:=(XT td s Z n bk sk (some (.ref A)) none none none)) (h:=h++[.lst []]) (b:=pf) (by
   rintro i x σ h0 hx ⟨a,b,c,rfl,d⟩;obtain⟨hi,rfl⟩:=dZ hx;rw[wF]at d ⊢;have R:Md Z n M bs ss bk sk h0:=by rw[d];exact m.more _
   have Y:=AD R ls B hi none;have v2:=nY (l:=s) (i:=i) (ls ▸ hi);have l3:i < ss.length:=by rw[m.ls];exact hi
   have C:=nY (l:=bs) (i:=i) (m.lb ▸ hi);have K:atI (ss.map bq) (i:Int)=some (bq (ss.getD i none)):=by rw[ja l3];simp[List.getD,l3]
   have q:=R.ba;have st:=R.st;have o:=Aa (T:=T) (bs:=bs) (ss:=ss) (s:=s) hi;rw[<-hw]at o;obtain⟨P,hP⟩ : ∃P,P=bF (nbs T i) s:=⟨_,rfl⟩;have fe:=FE L B hi;rw[<-hP]at fe o;have sm:dm (((List.range n).map λj=>M i j * s.getD j 0).map .int)=some ((List.range n).map λj=>M i j * s.getD j 0):=o7 _;have su:((List.range n).map λj=>M i j * s.getD j 0).sum=P:=by rw[uT];exact fe
   generalize (List.range n).map (λj=>M i j * s.getD j 0)=FL at Y sm su;have H:aQ (gN 7) (ag cI (fC (.int 2)) (qR (bL 1 [1,2,6] (bK (cB (lOf (aa 3)))) (gN 0) [] (ag cI (fAt (fAt (aa 2) (aa 3)) (aa 0)) (fAt (aa 1) (aa 0)))))) (XT td s Z n bk sk (some (.ref A)) (some (.int i)) b c) h0=.nx (XT td s Z n bk sk (some (.ref A)) (some (.int i)) (some (.int (2 * P))) c) h0:=by
    have O:qR (bL 1 [1,2,6] (bK (cB (lOf (aa 3)))) (gN 0) [] (ag cI (fAt (fAt (aa 2) (aa 3)) (aa 0)) (fAt (aa 1) (aa 0)))) (XT td s Z n bk sk (some (.ref A)) (some (.int i)) b c) h0=.ok (.int P) h0:=by
     rw[<-su];have I:=c6 (bQ (a:=aa 3) (σ:=(XT td s Z n bk sk (some (.ref A)) (some (.int i)) b c)) rfl (aH q));rw[ZA,m.lb]at I;exact zW (cx (c7 I (jq p)) Y) sm
    exact aD (aj rfl O (nW (by decide)))
   generalize ss.getD i none=u at K o;generalize bs.getD i 0=bb at C o;generalize s.getD i 0=x at v2 o;generalize 2 * P=F at H o;obtain⟨t,G⟩ : ∃t:Int,t=if bb < F then 1 else x:=⟨_,rfl⟩
   obtain⟨r,v⟩ : ∃r:Int,r=if F < bb then 0 else t:=⟨_,rfl⟩
   obtain⟨f,y⟩ : ∃f:Int,f=u.getD r:=⟨_,rfl⟩;have ny:cN w s i=f:=by
    rw[o,y];cases u with
    | some z=>rfl
    | none =>
     simp only[Option.getD_none];rw[v,G];split<;>split<;>(try split)<;>omega
   have U:aQ (gN 8) (fAt (aa 1) (aa 6)) (XT td s Z n bk sk (some (.ref A)) (some (.int i)) (some (.int F)) c) h0=.nx (XT td s Z n bk sk (some (.ref A)) (some (.int i)) (some (.int F)) (some (.int x))) h0:=aD (aF rfl rfl rfl v2);have N:sIf (tE (ag oGt (aa 7) (fAt (aa 3) (aa 6)))) (aQ (gN 8) (fC (.int 1))) br (XT td s Z n bk sk (some (.ref A)) (some (.int i)) (some (.int F)) (some (.int x))) h0=.nx (XT td s Z n bk sk (some (.ref A)) (some (.int i)) (some (.int F)) (some (.int t))) h0:=by
    rw[G]
    by_cases e:bb < F
    ·rw[z4 e];exact(gX (aI (aj rfl (aF rfl rfl (aH q) C) (EW e)))).trans (aD rfl)
    ·rw[z5 e];exact ca (aI (aj rfl (aF rfl rfl (aH q) C) (zX e)))
   have Q:sIf (tE (ag oLt (aa 7) (fAt (aa 3) (aa 6)))) (aQ (gN 8) (fC (.int 0))) br (XT td s Z n bk sk (some (.ref A)) (some (.int i)) (some (.int F)) (some (.int t))) h0=.nx (XT td s Z n bk sk (some (.ref A)) (some (.int i)) (some (.int F)) (some (.int r))) h0:=by
    rw[v]
    by_cases e:F < bb
    ·rw[z4 e];exact(gX (aI (aj rfl (aF rfl rfl (aH q) C) (EU e)))).trans (aD rfl)
    ·rw[z5 e];exact ca (aI (aj rfl (aF rfl rfl (aH q) C) (JP e)))
   have s5:sIf (tE (ag iY (fAt (aa 4) (aa 6)) (fC .non))) (aQ (gN 8) (fAt (aa 4) (aa 6))) br (XT td s Z n bk sk (some (.ref A)) (some (.int i)) (some (.int F)) (some (.int r))) h0=.nx (XT td s Z n bk sk (some (.ref A)) (some (.int i)) (some (.int F)) (some (.int f))) h0:=by
    rw[y];cases u with
    | none=>exact ca (aI (aj (aF rfl rfl (aH st) K) rfl rfl))
    | some z=>exact(gX (aI (aj (aF rfl rfl (aH st) K) rfl rfl))).trans (aD (aF rfl rfl (aH st) K))
   have gA:h0[A]? = some (.lst (((List.range i).map (cN w s)).map .int)):=by rw[d];exact ij J _
   have lz:(((List.range i).map (cN w s)).map D.int).length < SZ:=by rw[ZA,ZA,ZO];exact x3 hi (ZS p (by decide))
   have S:h0.set A (.lst (((List.range i).map (cN w s)).map .int++[.int f]))=h++[.lst (((List.range (i + 1)).map (cN w s)).map .int)]:=by
    rw[d,mi J,XZ,<-ny,ZR,ZR];rfl
   have s6:jG (k8 (aa 5) (aa 8)) (XT td s Z n bk sk (some (.ref A)) (some (.int i)) (some (.int F)) (some (.int f))) h0=.nx (XT td s Z n bk sk (some (.ref A)) (some (.int i)) (some (.int F)) (some (.int f))) (h++[.lst (((List.range (i + 1)).map (cN w s)).map .int)]):=by
    rw[<-S];exact jp (ki rfl gA rfl gA lz)
   refine⟨_,rfl,(XT td s Z n bk sk (some (.ref A)) (some (.int i)) (some (.int F)) (some (.int f))),_,?_,_,_,_,rfl,rfl⟩;show ax _ _ (XT td s Z n bk sk (some (.ref A)) (some (.int i)) b c) h0=_;rw[bC H,bC U,bC N,bC Q,bC s5,s6]) ⟨none,none,none,rfl,by simp⟩
 have e0:0 + ((List.range n).map λk:Nat=>D.int k).length=n:=by simp
 rw[e0]at k3;have b1:=(m.more [.lst []]).ba;have H:aQ (gT [2,3,4]) (aa 0) [some td,some (ay s),none,none,none,none,none,none,none] h=.nx (XT td s Z n bk sk none none none none) h:=by rw[E];rfl
 have U:aQ (gN 5) (aG ao) (XT td s Z n bk sk none none none none) h=.nx (XT td s Z n bk sk (some (.ref A)) none none none) (h++[.lst []]):=aD (nX J rfl (Z8 _));have N:fN (bK (cB (lOf (aa 3)))) (gN 6) pf (XT td s Z n bk sk (some (.ref A)) none none none) (h++[.lst []])=.nx (XT td s Z n bk sk (some (.ref A)) V X W) (h++[.lst ((cO w n s).map .int)]):=by
  rw[k2,k3]at k1;have I:cB (lOf (aa 3)) (XT td s Z n bk sk (some (.ref A)) none none none) (h++[.lst []])=.ok (.int n) (h++[.lst []]):=by
   exact(c6 (bQ rfl (aH b1))).trans (by rw[ZA,m.lb])
  exact fZ (c7 I (jq p)) k1
 have Q:aZ (gJ (lOf (aa 5))) (XT td s Z n bk sk (some (.ref A)) V X W) (h++[.lst ((cO w n s).map .int)])=.rt (ay (cO w n s)) (h++[.lst ((cO w n s).map .int)]):=by
  exact aR (ii (bQ rfl (aH (ij J _))))
 have st:([td,ay s].map some++List.replicate (9 - [td,ay s].length) none:Sd)=[some td,some (ay s),none,none,none,none,none,none,none]:=rfl;rw[<-E,<-hw];unfold fG bS runB;rw[z4 (by rfl),st,bC H,bC U,bC N,Q];exact cr (uW _)
def yE (ss:List (Option Int)) (l:List Int):List Int:=(List.range l.length).map λi=>(ss.getD i none).getD (l.getD i 0)
theorem AE (m:Md Z n M bs ss bk sk h){l:List Int}(ll:l.length=n){k:Nat}(w:h[k]? = some (.lst (l.map .int))) :
  gP [.tup [.ref (Z + n),.ref bk,.ref sk],.ref k] h=.ok (ay (yE ss l)) h:=by
 have q:=m.n30;obtain⟨td,p⟩ : ∃td:D,td=.tup [.ref (Z + n),.ref bk,.ref sk]:=⟨_,rfl⟩;obtain⟨A,j⟩ : ∃A,A=h.length:=⟨_,rfl⟩;obtain⟨f,F⟩ : ∃f:Nat->Int,f=λi=>(ss.getD i none).getD (l.getD i 0):=⟨_,rfl⟩;have o:k < h.length:=(List.getElem?_eq_some_iff.mp w).1;obtain⟨O,H,I,E,R,J⟩:=dF (P:=λi σ H=>∃(a:Option D),σ = [some td,some (.ref k),some (.ref A),a]/\H=h++[.lst (((List.range i).map f).map .int)]) (g:=none) (k:=0)
   (all:=(List.range n).map λk:Nat=>D.int k) (λ_ _ _ _=>trivial)
   (xs:=(List.range n).map λk:Nat=>D.int k) (tg:=gN 3) (σ:=[some td,some (.ref k),some (.ref A),none]) (h:=h++[.lst []]) (b:=kq) (by
   rintro i x σ h0 U ⟨a,rfl,c⟩;obtain⟨hi,rfl⟩:=dZ U;rw[wF]at c ⊢;have m0:Md Z n M bs ss bk sk h0:=by rw[c];exact m.more _
   have W:h0[k]? = some (.lst (l.map .int)):=by rw[c,ZC o];exact w
   have N:i < ss.length:=by rw[m.ls];exact hi
   have G:=nY (l:=l) (i:=i) (ll ▸ hi);have K:atI (ss.map bq) (i:Int)=some (bq (ss.getD i none)):=by rw[ja N];simp[List.getD,N]
   have r:f i=(ss.getD i none).getD (l.getD i 0):=by rw[F]
   generalize l.getD i 0=x at G r;generalize ss.getD i none=u at K r;have L:h0[A]? = some (.lst (((List.range i).map f).map .int)):=by rw[c];exact ij j _
   have T:(((List.range i).map f).map D.int).length < SZ:=by rw[ZA,ZA,ZO];exact x3 hi (ZS q (by decide))
   have C:h0.set A (.lst (((List.range i).map f).map .int++[.int x]))=h++[.lst (((List.range i).map f++[x]).map .int)]:=by rw[c,mi j,ZR];rfl
   have s:jG (k8 (aa 2) (fAt (aa 1) (aa 3))) [some td,some (.ref k),some (.ref A),some (.int i)] h0=.nx [some td,some (.ref k),some (.ref A),some (.int i)] (h++[.lst (((List.range i).map f++[x]).map .int)]):=by
    rw[<-C];exact jp (ki rfl L (aF rfl rfl (aH W) G) L T)
   obtain⟨h1,d⟩ : ∃h1,h1=h++[aS.lst (((List.range i).map f++[x]).map .int)]:=⟨_,rfl⟩;have m1:Md Z n M bs ss bk sk h1:=by rw[d];exact m.more _
   have v:fAt (fAt (aa 0) (fC (.int 2))) (aa 3) [some td,some (.ref k),some (.ref A),some (.int i)] h1=.ok (bq u) h1:=by
    have st:=m1.st;rw[p];exact aF (aF rfl rfl rfl rfl) rfl (aH st) K
   have V:h1[A]? = some (.lst (((List.range i).map f++[x]).map .int)):=by rw[d];exact ij j _
   have B:sIf (tE (ag iY (fAt (fAt (aa 0) (fC (.int 2))) (aa 3)) (fC .non))) (nH (aa 2) (aa 3) (fAt (fAt (aa 0) (fC (.int 2))) (aa 3))) br [some td,some (.ref k),some (.ref A),some (.int i)] h1=.nx [some td,some (.ref k),some (.ref A),some (.int i)] (h++[.lst (((List.range (i + 1)).map f).map .int)]):=by
    have y:((List.range i).map f).length=i:=by simp
    cases u with
    | none =>
     have e:h1=h++[.lst (((List.range (i + 1)).map f).map .int)]:=by rw[d,XZ];simp[r]
     rw[<-e];exact ca (aI (aj v rfl rfl))
    | some z =>
     have X:ixN (((List.range i).map f++[x]).map D.int).length (i:Int)=some i:=qF (by rw[ZA,ZB,y];exact wB _);have e:h1.set A (.lst ((((List.range i).map f++[x]).map .int).set i (.int z)))=h++[.lst (((List.range (i + 1)).map f).map .int)]:=by
      have z':f i=z:=r;rw[d,j,XZ];simp[z',List.set_append_right]
     rw[<-e];exact(gX (aI (aj v rfl rfl))).trans (rY v rfl rfl V X)
   refine⟨_,rfl,[some td,some (.ref k),some (.ref A),some (.int i)],_,?_,_,rfl,rfl⟩;show ax _ _ [some td,some (.ref k),some (.ref A),some (.int i)] h0=_;rw[bC s,<-d,B]) ⟨none,rfl,by simp⟩
 have Y:0 + ((List.range n).map λk:Nat=>D.int k).length=n:=by simp
 rw[Y]at J;have t:(h++[aS.lst []])[k]? = some (.lst (l.map .int)):=by rw[ZC o];exact w
 have s:aQ (gN 2) (aG ao) [some td,some (.ref k),none,none] h=.nx [some td,some (.ref k),some (.ref A),none] (h++[.lst []]):=aD (nX j rfl (Z8 _));have B:fN (bK (cB (lOf (aa 1)))) (gN 3) kq [some td,some (.ref k),some (.ref A),none] (h++[.lst []])=.nx [some td,some (.ref k),some (.ref A),E] (h++[.lst ((yE ss l).map .int)]):=by
  rw[R,J]at I;have S:cB (lOf (aa 1)) [some td,some (.ref k),some (.ref A),none] (h++[.lst []])=.ok (.int n) (h++[.lst []]):=by
   exact(c6 (bQ rfl (aH t))).trans (by rw[ZA,ll])
  exact(fZ (c7 S (jq q)) I).trans (by rw[yE,ll,F])
 have Q:aZ (gJ (lOf (aa 2))) [some td,some (.ref k),some (.ref A),E] (h++[.lst ((yE ss l).map .int)])=.rt (ay (yE ss l)) (h++[.lst ((yE ss l).map .int)]):=by
  exact aR (ii (bQ rfl (aH (ij j _))))
 have st:([td,D.ref k].map some++List.replicate (4 - [td,D.ref k].length) none:Sd)=[some td,some (.ref k),none,none]:=rfl;rw[<-p];unfold gP bS runB;rw[z4 (by rfl),st,bC s,bC B,Q];exact cr (uW _)
end
theorem AF (A B:Nat->List (Nat × Int))(f s:Nat->Int):∀n,S2 (λk=>A k++B k) f s n=S2 A f s n + S2 B f s n
 | 0=>rfl
 | k + 1=>by
  simp only[S2,AF A B f s k,ZR,List.sum_append];omega
theorem AG (f s:Nat->Int):∀n,S2 (λ_=>[]) f s n=0
 | 0=>rfl
 | k + 1=>by simp[S2,AG f s k]
theorem My {l m:List Int}(p:l.Perm m):l.sum=m.sum:=by
 induction p with
 | nil=>rfl
 | cons x _ ih=>simp[ih]
 | swap x y l=>simp only[X8];omega
 | trans _ _ a b=>exact a.trans b
theorem BQ {A B:Nat->List (Nat × Int)}(f s:Nat->Int):∀n,(∀i,i < n->(A i).Perm (B i))->S2 A f s n=S2 B f s n
 | 0,_=>rfl
 | k + 1,h=>by
  have p:=My ((h k (wB k)).map λp:Nat × Int=>p.2 * f p.1 * s k);simp only[S2,BQ f s k λi hi=>h i (yS hi),p]
def wv (t:Tie) (i:Nat):List (Nat × Int):=match far i t with|some j=>[(j,t.w)] | none=>[]
theorem Lx (t:Tie):wv t t.a=[(t.b,t.w)]:=by simp[wv,far]
theorem Ly {t:Tie}(h:t.a≠t.b):wv t t.b=[(t.a,t.w)]:=by simp[wv,far,h]
theorem Lz {t:Tie}{i:Nat}(h1:t.a≠i)(h2:t.b≠i):wv t i=[]:=by simp[wv,far,h1,h2]
theorem AH (t:Tie)(d:t.a≠t.b)(f s:Nat->Int):∀n,S2 (wv t) f s n=(if t.a < n then t.w * f t.b * s t.a else 0) + (if t.b < n then t.w * f t.a * s t.b else 0)
 | 0=>rfl
 | k + 1=>by
  simp only[S2,AH t d f s k]
  by_cases a:t.a=k
  ·subst a
   rw[Lx];have h1 : ¬t.a < t.a:=wD _
   by_cases b:t.b < t.a
   ·simp[b,yS b];omega
   ·have : ¬t.b < t.a + 1:=by omega
    simp[b,this]
  ·by_cases b:t.b=k
   ·subst b
    rw[Ly d]
    by_cases c:t.a < t.b
    ·simp[c,yS c]
    ·have : ¬t.a < t.b + 1:=by omega
     simp[c,this]
   ·rw[Lz a b]
    have h1:t.a < k + 1 ↔ t.a < k:=by omega
    have h2:t.b < k + 1 ↔ t.b < k:=by omega
    simp[h1,h2]
theorem FF {n:Nat}(f s:Nat->Int):∀T:List Tie,(∀t∈T,t.a≠t.b)->(∀t∈T,t.a < n/\t.b < n)->S2 (nbs T) f s n=S2 (nbs T) s f n
 | [],_,_=>by
  have:nbs [] = λ_=>[]:=by funext i;rfl
  rw[this,AG,AG]
 | t :: T,h,l=>by
  have e:nbs (t :: T)=λk=>wv t k++nbs T k:=by
   funext i;unfold nbs wv;rw[XD];cases far i t<;>rfl
  obtain⟨l1,l2⟩:=l t (.head _);rw[e,AF,AF,FF f s T (λa b=>h a (.tail _ b)) (λa b=>l a (.tail _ b)),AH t (h t (.head _)),AH t (h t (.head _)),z4 l1,z4 l2,z4 l1,z4 l2];rw[Int.mul_right_comm t.w (f t.b),Int.mul_right_comm t.w (f t.a)];omega
theorem LA (x:Nat × Int):∀r,(qm x r).Perm (x :: r)
 | []=>.refl _
 | y :: r=>by
  unfold qm;split
  ·exact .refl _
  ·exact((LA x r).cons y).trans (.swap x y r)
theorem Ih:∀r,(eV r).Perm r
 | []=>.refl _
 | x :: r=>(LA x _).trans ((Ih r).cons x)
theorem Hs (O:TOk n n 0 T)(bs:List Int)(ss:List (Option Int))(f s:Nat->Int):S2 (λi=>(cV n T bs ss).ties.getD i []) f s n=S2 (λi=>(cV n T bs ss).ties.getD i []) s f n:=by
 have c:∀f s,S2 (λi=>(cV n T bs ss).ties.getD i []) f s n=S2 (nbs T) f s n:=λf s=>BQ f s n λi hi=>by
  have e:(cV n T bs ss).ties.getD i [] = eV (nbs T i):=by simp[cV,List.getD,hi]
  rw[e];exact Ih _
 rw[c,c,FF f s T O.ne O.lt]
theorem php:∀(N t:Nat) (f:Nat->Nat),(∀i,i<=t->f i < N)->(∀i j,i < j->j<=t->f i≠f j)->t + 1<=N
 | 0,t,f,h,_=>by have:=h 0 (Z8 _);omega
 | N + 1,0,f,_,_=>by omega
 | N + 1,t + 1,f,h,d=>by
  have e:=h (t + 1) (ZL _);have:=php N t (λi=>if f i < f (t + 1) then f i else f i - 1) (λi hi=>by
   have h1:=h i (by omega);have h2:=d i (t + 1) (by omega) (ZL _);split<;>omega) (λi j a b=>by
   have h1:=d i j a (by omega);have h2:=d i (t + 1) (by omega) (ZL _);have c:=d j (t + 1) (by omega) (ZL _);split<;>split<;>omega)
  omega
def t7:List Int->Nat
 | []=>0
 | x :: xs=>2 * t7 xs + x.toNat
theorem BR:∀xs:List Int,(∀x∈xs,x=0\/x=1)->t7 xs < 2 ^ xs.length
 | [],_=>by decide
 | x :: xs,h=>by
  have b:=BR xs λy a=>h y (.tail _ a);rw[YD,Nat.pow_succ];show 2 * t7 xs + x.toNat < _;rcases h x (.head _) with e|e<;>subst e<;>simp<;>omega
theorem yF:∀xs ys:List Int,xs.length=ys.length->(∀x∈xs,x=0\/x=1)->(∀x∈ys,x=0\/x=1)->t7 xs=t7 ys->xs=ys
 | [],[],_,_,_,_=>rfl
 | [],_ :: _,h,_,_,_=>by simp at h
 | _ :: _,[],h,_,_,_=>by simp at h
 | x :: xs,y :: ys,h,b1,b2,c=>by
  have c:2 * t7 xs + x.toNat=2 * t7 ys + y.toNat:=c;have e:x=y/\t7 xs=t7 ys:=by
   rcases b1 x (.head _) with e|e<;>rcases b2 y (.head _) with e'|e'<;>subst e e'<;>simp at c ⊢<;>omega
  rw[e.1,yF xs ys (by simpa using h) (λz a=>b1 z (.tail _ a)) (λz a=>b2 z (.tail _ a)) e.2]
structure Go (w:Web) (n:Nat):Prop where
 W:w.Ok n
 n8:n<=8
 S:eF w
 more:Ha w w n
 sym:∀f s,S2 (λi=>w.ties.getD i []) f s n=S2 (λi=>w.ties.getD i []) s f n
theorem Go.n30 {w:Web}(G:Go w n):n<=30:=ZM G.n8 (by decide)
structure t8 (w:Web) (n:Nat) (s:List Int) (t:Nat):Prop where
 ht:aM w n s (t + 2)=aM w n s t
 hm:∀k,k < t->aM w n s (k + 2)≠aM w n s k
 hz:t<=900000
theorem Go.fin {w:Web}(G:Go w n)(F:dS w n s):∃t,t8 w n s t:=by
 obtain⟨t,f,a⟩:=Mt G.W G.S F G.sym;have:=php 256 t (λi=>t7 (aM w n s i)) (λi _=>by
  have h1:=BR (aM w n s i) (bA G.W G.S F i).op;rw[(bA G.W G.S F i).len]at h1;exact xC h1 (X1 (by decide) G.n8)) (λi j d g e=>by
  have c:=bA G.W G.S F i;have b:=bA G.W G.S F j;have q:=yF _ _ (by rw[c.len,b.len]) c.op b.op e;have l1:=Ia G.W G.S F G.sym (k:=i) (a i (by omega));have l2:=Ib G.W G.S F G.sym (k:=i + 1) (m:=j) (by omega);have h:eN w n s i=eN w n s j:=by
   unfold eN;show fE w (aM w n s i) (cO w n (aM w n s i)) n=fE w (aM w n s j) (cO w n (aM w n s j)) n;rw[q]
  omega)
 exact⟨t,f,a,by omega⟩
structure BS (w:Web) (n:Nat) (s:List Int) (t:Nat):Prop where
 re:aM w n s (t + 1)=aM w n s t
 no:(0:Int)∉aM w n s (t + 1)
section
variable {w:Web} {n:Nat} {s s':List Int} {t t':Nat}
theorem qH (F:dS w n s)(no:(0:Int)∉s):s=List.replicate n 1:=by
 have l:s.length=n:=F.len;apply List.ext_getElem (by rw[l,Y5]);intro i h1 h2;have b:=gM F i;rw[ZF,ZE h1]at b;rw[List.getElem_replicate];rcases b with b|b
 ·exact absurd (b ▸ Z5 h1) no
 ·exact b
theorem BT (e:aM w n s (t + 1)=aM w n s t):∀j,aM w n s (t + j)=aM w n s t
 | 0=>rfl
 | j + 1=>by
  have:=sK (t + 1) t e j;rw[<-BT e j,<-this];congr 1;omega
theorem AI (e:aM w n s (t + 2)=aM w n s t)(i:Nat):∀m,aM w n s (t + i + 2 * m)=aM w n s (t + i)
 | 0=>rfl
 | m + 1=>by
  have h1:=sK (t + 2) t e (i + 2 * m);have h2:=AI e i m;rw[<-h2];rw[show t + i + 2 * (m + 1)=t + 2 + (i + 2 * m) by omega,h1];congr 1;omega
theorem Ht {x:List Int}(F:dS w n x)(le:LeS (List.replicate n 1) x):x=List.replicate n 1:=by
 refine qH F λz => ?_;obtain⟨i,hi,e⟩:=List.getElem_of_mem z;have h1:=le i;have a:i < n:=by rw[<-F.len];exact hi
 rw[ZF,ZF,ZE hi,ZE (by rw[Y5];exact a),List.getElem_replicate,e]at h1;simp at h1
theorem Dg (G:Go w n)(F:dS w n s)(b:dS w n s')(le:LeS s s')(T:BS w n s t)(d:t8 w n s' t'):BS w n s' t':=by
 have e:=uS G.W G.W G.S G.S G.more F b le;have g:∀j,aM w n s (t + j)=List.replicate n 1:=λj=>by
  rw[BT T.re j,<-T.re];exact qH (bA G.W G.S F _) T.no
 have a:∀j,aM w n s' (t + j)=List.replicate n 1:=λj=>Ht (bA G.W G.S b _) (by rw[<-g j];exact e _);have f:aM w n s' t'=List.replicate n 1:=by
  have h1:=AI d.ht 0 t;rw[<-show t' + 0=t' from rfl,<-h1,<-a (t' + t)];congr 1;omega
 have c:aM w n s' (t' + 1)=List.replicate n 1:=by
  rw[<-AI d.ht 1 t,<-a (t' + 1 + t)];congr 1;omega
 exact⟨c.trans f.symm,λz=>by rw[c]at z;exact absurd (List.eq_of_mem_replicate z) (by decide)⟩
theorem J4 {a:List Nat}(h:∀x∈l,x∈a):LeS (cF w n l) (cF w n a):=λi=>by
 by_cases hi:i < n
 ·have e:∀m:List Nat,(cF w n m).getD i 0=if i∈m\/w.stays.getD i none=some 1 then 1 else 0:=λm=>by
   unfold cF;rw[ZF,ZQ,List.getElem?_range hi];rfl
  rw[e,e]
  by_cases c:i∈l\/w.stays.getD i none=some 1
  ·rw[z4 c,z4 (c.imp (h i) id)];exact Y7 _
  ·rw[z5 c]
   split<;>decide
 ·have e:∀m:List Nat,(cF w n m).getD i 0=0:=λm=>by
   unfold cF;rw[ZF,List.getElem?_eq_none (by simp;omega)];rfl
  rw[e,e];exact Y7 _
theorem t8.one (a:t8 w n s t)(b:t8 w n s t'):t=t':=by
 rcases Nat.lt_trichotomy t t' with c|c|c
 ·exact absurd a.ht (b.hm t c)
 ·exact c
 ·exact absurd b.ht (a.hm t' c)
open Classical in
def tb (w:Web) (n:Nat) (l:List Nat):Bool:=decide (∃t,t8 w n (cF w n l) t/\BS w n (cF w n l) t)
theorem qf (E:t8 w n (cF w n l) t):tb w n l=true ↔ BS w n (cF w n l) t:=by
 unfold tb;exact(@decide_eq_true_iff _ (Classical.propDecidable _)).trans ⟨λ⟨t',a,T⟩=>E.one a ▸ T,λT=>⟨t,E,T⟩⟩
theorem Mz (E:t8 w n (cF w n l) t):yB w n (cF w n l) t=if tb w n l=true then TRN else NOT:=by
 unfold yB
 by_cases c:aM w n (cF w n l) (t + 1)=aM w n (cF w n l) t
 ·rw[z4 c]
  by_cases z:(0:Int)∈aM w n (cF w n l) (t + 1)
  ·rw[z4 z,z5 λq=>((qf E).mp q).no z]
  ·rw[z5 z,z4 ((qf E).mpr ⟨c,z⟩)]
 ·rw[z5 c,z5 λq=>c ((qf E).mp q).re]
theorem Hu (G:Go w n)(C:Ch w n l):qJ w n (cF w n l) (tb w n l):=by
 obtain⟨t,E⟩:=G.fin (eB G.W G.S C);exact⟨t,E.hz,E.ht,E.hm,Mz E⟩
theorem BU (G:Go w n){a:List Nat}(C:Ch w n l)(b:Ch w n a)(h:∀x∈l,x∈a)(q:tb w n l=true):tb w n a=true:=by
 obtain⟨t,E⟩:=G.fin (eB G.W G.S C);obtain⟨t',c⟩:=G.fin (eB G.W G.S b);exact(qf c).mpr (Dg G (eB G.W G.S C) (eB G.W G.S b) (J4 h) ((qf E).mp q) c)
theorem Hv (G:Go w n)(C:Ch w n l)(E:t8 w n (cF w n l) t):(!decide ((0:Int)∈aM w n (cF w n l) (t + 1)) && !decide ((0:Int)∈aM w n (cF w n l) t))=tb w n l:=by
 have F:=eB G.W G.S C
 by_cases a:(0:Int)∈aM w n (cF w n l) (t + 1)
 ·rw[yQ a]
  cases c:tb w n l with
  | false=>rfl
  | true=>exact absurd a ((qf E).mp c).no
 ·rw[y3 a]
  by_cases b:(0:Int)∈aM w n (cF w n l) t
  ·rw[yQ b]
   cases c:tb w n l with
   | false=>rfl
   | true=>have:=((qf E).mp c).re;rw[this]at a;exact absurd b a
  ·rw[y3 b]
   exact((qf E).mpr ⟨(qH (bA G.W G.S F _) a).trans (qH (bA G.W G.S F _) b).symm,a⟩).symm
end
section
variable {Z n:Nat} {M:Nat->Nat->Int} {bs:List Int} {ss:List (Option Int)} {bk sk:Nat} {h:Hd} {T:List Tie} {w:Web} {td:D}
structure Lw (Z n:Nat) (M:Nat->Nat->Int) (bs:List Int) (ss:List (Option Int)) (bk sk:Nat) (T:List Tie) (w:Web) (td:D) (h:Hd):Prop where
 m:Md Z n M bs ss bk sk h
 L:LP n M n 0 T
 w':w=cV n T bs ss
 t':td=.tup [.ref (Z + n),.ref bk,.ref sk]
theorem Lw.more (l:Lw Z n M bs ss bk sk T w td h)(g:Hd):Lw Z n M bs ss bk sk T w td (h++g):=⟨l.m.more g,l.L,l.w',l.t'⟩
theorem Lw.turn (l:Lw Z n M bs ss bk sk T w td h)(F:dS w n s):fG [td,ay s] h=.ok (ay (cO w n s)) h:=by
 rw[l.w',l.t'];exact J3 l.m l.L F.len λi=>gM F i
theorem Lw.many (l:Lw Z n M bs ss bk sk T w td h)(e : σ[0]? = some (some td)):cB (lOf (fAt (aa 0) (fC (.int 1)))) σ h=.ok (.int (n:Nat)) h:=by
 have v:aa 0 σ h=.ok td h:=by simp only[aa,slot,e]
 rw[l.t']at v;refine x4 (c6 (bQ (aF v rfl rfl rfl) (aH l.m.ba))) ?_;rw[ZA,l.m.lb]
theorem AJ (G:Go w n)(l:Lw Z n M bs ss bk sk T w td h){t:Nat}(F:dS w n s)(E:t8 w n s t):mz [td,ay s] h=.ok (.ref h.length) (h++[.lst ((aX w n s (t + 2)).map ay)]):=by
 have len:∀k,(aM w n s k).length=n:=λk=>(bA G.W G.S F k).len;have b:∀k x,aQ (gN 3) (au fG (ab (aa 0) (ab (fAt (aa 2) (fC (.int (-1)))) ao))) [some td,some (ay s),some (.ref h.length),x] (h++[.lst ((aX w n s (k + 2)).map ay)])=.nx [some td,some (ay s),some (.ref h.length),some (ay (aM w n s (k + 2)))] (h++[.lst ((aX w n s (k + 2)).map ay)]):=λk x=>by
  have i:atI ((aX w n s (k + 2)).map ay) (-1)=some (ay (aM w n s (k + 1))):=fF (k + 1) 1 (by decide);exact aD (ar (bV rfl (aF rfl rfl (aH ZG) i)) ((l.more _).turn (bA G.W G.S F (k + 1))))
 have e:∀k,tE (ag oEq (aa 3) (fAt (aa 2) (fC (.int (-2))))) [some td,some (ay s),some (.ref h.length),some (ay (aM w n s (k + 2)))] (h++[.lst ((aX w n s (k + 2)).map ay)])=.ok (decide (aM w n s (k + 2)=aM w n s k)) (h++[.lst ((aX w n s (k + 2)).map ay)]):=λk=>by
  have q:atI ((aX w n s (k + 2)).map ay) (-2)=some (ay (aM w n s k)):=fF k 2 (by decide);exact aI (aj rfl (aF rfl rfl (aH ZG) q) (BG ((len _).trans (len _).symm) _))
 have c:∀j k x,k + j=t->dP (tE (fC (.bl true))) kt (j + 1) [some td,some (ay s),some (.ref h.length),x] (h++[.lst ((aX w n s (k + 2)).map ay)])=.rt (.ref h.length) (h++[.lst ((aX w n s (t + 2)).map ay)]):=by
  intro j
  induction j with
  | zero =>
   intro k x f;have f:k=t:=f;subst f;have d:=e k;rw[yQ E.ht]at d;have a:kt [some td,some (ay s),some (.ref h.length),x] (h++[.lst ((aX w n s (k + 2)).map ay)])=.rt (.ref h.length) (h++[.lst ((aX w n s (k + 2)).map ay)]):=sx (b k x) (jL ((gX d).trans (aR rfl)));rw[dP];simp only[tE,asB,fC,aW,a]
  | succ j ih =>
   intro k x f;have d:=e k;rw[y3 (E.hm k (by omega))]at d;have o:((aX w n s (k + 2)).map ay).length < SZ:=by rw[ZA,iu];have:=E.hz;simp only[SZ];omega
   have a:kt [some td,some (ay s),some (.ref h.length),x] (h++[.lst ((aX w n s (k + 2)).map ay)])=.nx [some td,some (ay s),some (.ref h.length),some (ay (aM w n s (k + 2)))] (h++[.lst ((aX w n s (k + 1 + 2)).map ay)]):=by
    rw[show aX w n s (k + 1 + 2)=aX w n s (k + 2)++[aM w n s (k + 2)] from si (k + 2),ZR];exact sx (b k x) (sx (ca d) ((jp (ki rfl ZG rfl ZG o)).trans (by rw[mi rfl];rfl)))
   rw[dP];simp only[tE,asB,fC,aW,a];exact ih (k + 1) _ (by omega)
 have m:=uM (c t 0 none (wF t)) (by simp);have p : [ay s,ay (cO w n s)] = (aX w n s 2).map ay:=by simp[aX,XZ,aM]
 have g:aQ (gN 2) (aG (ab (aa 1) (ab (au fG (ab (aa 0) (ab (aa 1) ao))) ao))) [some td,some (ay s),none,none] h=.nx [some td,some (ay s),some (.ref h.length),none] (h++[.lst ((aX w n s (0 + 2)).map ay)]):=by
  rw[show 0 + 2=2 from rfl,<-p];exact aD (bn (ak rfl (ak (ar (bV rfl rfl) (l.turn F)) rfl)))
 exact(bG (σ:=[some td,some (ay s),none,none]) rfl rfl (sx g m)).trans dR
theorem Hw (G:Go w n)(b:w.stays=ss){c:List Nat}(C:Ch w n c):yE ss ((List.range n).map λi=>b2i (decide (i∈c)))=cF w n c:=by
 subst b;unfold yE cF;rw[ZA,ZO];refine YK λi hi => ?_;have hi:=List.mem_range.mp hi;have e:((List.range n).map λi=>b2i (decide (i∈c))).getD i 0=b2i (decide (i∈c)):=by simp[List.getD,hi]
 rw[e];have mem:w.stays.getD i none∈w.stays:=by
  have a:i < w.stays.length:=by rw[G.W.s];exact hi
  rw[ZF,ZE a];exact Z5 a
 have no:=λhc=>C.no i hc;rcases G.S _ mem with z|z|z<;>rw[z]at no ⊢
 ·by_cases c':i∈c
  ·simp[c']
  ·simp[c']
 ·by_cases c':i∈c
  ·exact absurd rfl (no c')
  ·simp[c']
 ·simp
theorem Hx {c:List Nat}{k:Nat}(b:h[k]? = some (.lst (NL c)))(a:Option D):bR none ((List.range n).map λk:Nat=>D.int k) (gN 0) [] (zq (ag oIn (aa 0) (aa 1))) ((List.range n).map λk:Nat=>D.int k) [a,some (.ref k)] h=.ok (((List.range n).map λi=>b2i (decide (i∈c))).map D.int) h:=by
 have:=bT (g:=none) (all:=(List.range n).map λk:Nat=>D.int k) (tg:=gN 0) (cs:=[]) (e:=zq (ag oIn (aa 0) (aa 1))) (h:=h) (I:=λσ=>∃a,σ = [a,some (.ref k)]) (λ_=>true) (λd=>match d with | .int i=>.int (b2i (decide (i.toNat∈c)))|_=>.non) trivial (xs:=(List.range n).map λk:Nat=>D.int k) (σ:=[a,some (.ref k)]) (by
  rintro x f σ ⟨a,rfl⟩;obtain⟨i,hi,rfl⟩:=List.mem_map.mp f;exact⟨_,rfl,⟨_,rfl⟩,rfl,λ_=>JT (aj rfl rfl (uX b i))⟩) ⟨_,rfl⟩
 rw[this,List.filter_eq_self.mpr (λ_ _=>rfl),wC,wC];rfl
theorem iU (G:Go w n)(l:Lw Z n M bs ss bk sk T w td h){c c0:List Nat}(C:Ch w n c)(o:∀i,i < n->(i∈c0 ↔ i∈c)){k:Nat}(u:h[k]? = some (.lst (NL c0))):bX [td,.ref k] h=.ok (.bl (tb w n c)) h:=by
 obtain⟨t,E⟩:=G.fin (eB G.W G.S C);have m:w.stays=ss:=by rw[l.w'];rfl
 have x:=G.n30;have g:=Hx (n:=n) u none;rw[show ((List.range n).map λi=>b2i (decide (i∈c0)))=(List.range n).map λi=>b2i (decide (i∈c)) from YK λi hi=>by rw[decide_eq_decide.mpr (o i (List.mem_range.mp hi))]]at g;have p:aG (bL 1 [1] (bK (cB (lOf (fAt (aa 0) (fC (.int 1)))))) (gN 0) [] (zq (ag oIn (aa 0) (aa 1)))) [some td,some (.ref k),none,none] h=.ok (.ref h.length) (h++[.lst (((List.range n).map λi=>b2i (decide (i∈c))).map D.int)]):=bn (cx (c7 (l.many rfl) (by omega)) g) (by simp[SZ];omega);have f:=AE (l.more [.lst (((List.range n).map λi=>b2i (decide (i∈c))).map D.int)]).m (by simp) ZG;rw[Hw G m C,<-l.t']at f;have d:=AJ G (l.more [.lst (((List.range n).map λi=>b2i (decide (i∈c))).map D.int)]) (eB G.W G.S C) E;have q:atI ((aX w n (cF w n c) (t + 2)).map ay) (-1)=some (ay (aM w n (cF w n c) (t + 1))):=fF (t + 1) 1 (by decide);have v:atI ((aX w n (cF w n c) (t + 2)).map ay) (-2)=some (ay (aM w n (cF w n c) t)):=fF t 2 (by decide);obtain⟨a,b⟩ : ∃a,a=h++[aS.lst (((List.range n).map λi=>b2i (decide (i∈c))).map D.int)]++[aS.lst ((aX w n (cF w n c) (t + 2)).map ay)]:=⟨_,rfl⟩;obtain⟨A,e⟩ : ∃A,A=(h++[aS.lst (((List.range n).map λi=>b2i (decide (i∈c))).map D.int)]).length:=⟨_,rfl⟩;have j:a[A]? = some (.lst ((aX w n (cF w n c) (t + 2)).map ay)):=by rw[b,e];exact ZG
 rw[<-e,<-b]at d;have x1:tE (ag bY (fC (.int 0)) (fAt (aa 3) (fC (.int (-1))))) [some td,some (.ref k),some (ay (cF w n c)),some (.ref A)] a=.ok (!decide ((0:Int)∈aM w n (cF w n c) (t + 1))) a:=aI (aj rfl (aF rfl rfl (aH j) q) (uZ _ 0 _));have s:tE (ag bY (fC (.int 0)) (fAt (aa 3) (fC (.int (-2))))) [some td,some (.ref k),some (ay (cF w n c)),some (.ref A)] a=.ok (!decide ((0:Int)∈aM w n (cF w n c) t)) a:=aI (aj rfl (aF rfl rfl (aH j) v) (uZ _ 0 _));have r:jF (tE (ag bY (fC (.int 0)) (fAt (aa 3) (fC (.int (-1)))))) (tE (ag bY (fC (.int 0)) (fAt (aa 3) (fC (.int (-2)))))) [some td,some (.ref k),some (ay (cF w n c)),some (.ref A)] a=.ok (tb w n c) a:=by
  rw[<-Hv G C E];cases c1:decide ((0:Int)∈aM w n (cF w n c) (t + 1)) with
  | true=>rw[c1]at x1;exact vV x1
  | false=>rw[c1]at x1;exact kh x1 s
 refine x4 (bG (σ:=[some td,some (.ref k),none,none]) rfl rfl (sx (aD (ar (bV rfl p) f)) (sx (aD (ar (bV rfl rfl) d)) (aR (kT r))))) ?_;rw[b,ZU];exact cr rfl
end
theorem yG:∀(l:List Nat) (a:List (List Nat)) (v:List Nat),v∈l.foldl (λa p=>a++a.map (· ++ [p])) a ↔ ∃u∈a,∃s,s.Sublist l/\v=u++s
 | [],a,v=>by
  constructor
  ·intro h;exact⟨v,h,[],.slnil,by simp⟩
  ·rintro⟨u,b,s,c,rfl⟩
   rw[List.sublist_nil.mp c,Z6];exact b
 | p :: l,a,v=>by
  rw[Y2,yG l];constructor
  ·rintro⟨u,b,s,c,rfl⟩
   rcases W0.mp b with b|b
   ·exact⟨u,b,s,c.cons p,rfl⟩
   ·obtain⟨e,d,rfl⟩:=List.mem_map.mp b
    exact⟨e,d,p :: s,c.cons₂ p,by simp⟩
  ·rintro⟨u,b,s,c,rfl⟩
   rcases List.sublist_cons_iff.mp c with c|⟨r,rfl,hr⟩
   ·exact⟨u,W0.mpr (.inl b),s,c,rfl⟩
   ·exact⟨u++[p],W0.mpr (.inr (List.mem_map.mpr ⟨u,b,rfl⟩)),r,hr,by simp⟩
theorem sM {v:List Nat}:v∈pK l ↔ v.Sublist l:=by
 unfold pK;rw[yG];constructor
 ·rintro⟨u,b,s,a,rfl⟩
  rw[WE.mp b];exact a
 ·intro h;exact⟨[],.head _,v,h,rfl⟩
def fr (ss:List (Option Int)) (n:Nat):List Nat:=(List.range n).filter λi=>(ss.getD i none).isNone
theorem iV (ss:List (Option Int))(n:Nat):(fr ss n).length<=n:=by
 have:=YO (λi=>(ss.getD i none).isNone) (List.range n);rwa[ZO]at this
def chL (ss:List (Option Int)) (n:Nat):List Nat:=(List.range n).filter λi=>decide (ss.getD i none≠some 0)
theorem gj {w:Web}{v:List Nat}(h:v.Sublist (chL w.stays n)):Ch w n v:=by
 have b:(chL w.stays n).Pairwise (· < ·):=X3 _ YJ;exact⟨b.sublist h,λp a=>List.mem_range.mp (List.mem_filter.mp (h.subset a)).1,λp a=>YV (List.mem_filter.mp (h.subset a)).2⟩
theorem oz (ss:List (Option Int))(n:Nat):(chL ss n).length<=n:=by
 have:=YO (λi=>decide (ss.getD i none≠some 0)) (List.range n);rwa[ZO]at this
theorem oA {ss:List (Option Int)}:p∈chL ss n ↔ p < n/\ss.getD p none≠some 0:=by
 unfold chL;rw[List.mem_filter,List.mem_range,decide_eq_true_iff]
theorem ww {ss:List (Option Int)}:p∈fr ss n ↔ p < n/\ss.getD p none=none:=by
 unfold fr;rw[List.mem_filter,List.mem_range,Option.isNone_iff_eq_none]
theorem sN (ss:List (Option Int))(n:Nat):(fr ss n).Sublist (chL ss n):=by
 have:fr ss n=(chL ss n).filter λi=>(ss.getD i none).isNone:=by
  unfold fr chL;rw[List.filter_filter];refine List.filter_congr λi _ => ?_;cases ss.getD i none<;>simp
 rw[this];exact List.filter_sublist
def srt (n:Nat) (l:List Nat):List Nat:=(List.range n).filter λi=>decide (i∈l)
theorem cK:p∈srt n l ↔ p < n/\p∈l:=by
 unfold srt;rw[List.mem_filter,List.mem_range,decide_eq_true_iff]
theorem sO:∀{a b:List Nat},a.Pairwise (· < ·)->b.Pairwise (· < ·)->(∀x,x∈a ↔ x∈b)->a=b
 | [],[],_,_,_=>rfl
 | [],y :: b,_,_,h=>absurd ((h y).mpr (.head _)) (by simp)
 | x :: a,[],_,_,h=>absurd ((h x).mp (.head _)) (by simp)
 | x :: a,y :: b,pa,pb,h=>by
  have c:=List.pairwise_cons.mp pa;have d:=List.pairwise_cons.mp pb;have e:x=y:=by
   rcases Y6.mp ((h x).mp (.head _)) with z|z
   ·exact z
   ·rcases Y6.mp ((h y).mpr (.head _)) with u|u
    ·exact u.symm
    ·have:=d.1 x z;have:=c.1 y u;omega
  subst e;congr 1;refine sO c.2 d.2 λz=>⟨λf => ?_,λf => ?_⟩
  ·rcases Y6.mp ((h z).mp (.tail _ f)) with u|u
   ·have:=c.1 z f;omega
   ·exact u
  ·rcases Y6.mp ((h z).mpr (.tail _ f)) with u|u
   ·have:=d.1 z f;omega
   ·exact u
theorem lW (n:Nat)(l:List Nat):(srt n l).Pairwise (· < ·):=X3 _ YJ
section
variable {Z n:Nat} {M:Nat->Nat->Int} {bs:List Int} {ss:List (Option Int)} {bk sk:Nat} {h:Hd} {T:List Tie} {w:Web} {td:D}
theorem AK (p:Nat->Bool)(q:D->Bool)(a:∀i:Nat,q (.int i)=p i):(((List.range n).map λk:Nat=>D.int k).filter q).map (λd=>d)=NL ((List.range n).filter p):=by
 rw[List.map_id',WZ];congr 2;funext i;exact a i
theorem Dh (l:Lw Z n M bs ss bk sk T w td h){t:EF->TF}(p:Option Int->Bool)(ht:∀i:Nat,i < n->t (fAt (fAt (aa 1) (fC (.int 2))) (aa 0)) [some (.int i),some td] h=.ok (p (ss.getD i none)) h):bR none ((List.range n).map λk:Nat=>D.int k) (gN 0) [t (fAt (fAt (aa 1) (fC (.int 2))) (aa 0))] (aa 0) ((List.range n).map λk:Nat=>D.int k) [none,some td] h=.ok (NL ((List.range n).filter λi=>p (ss.getD i none))) h:=by
 have:=bT (g:=none) (all:=(List.range n).map λk:Nat=>D.int k) (tg:=gN 0) (cs:=[t (fAt (fAt (aa 1) (fC (.int 2))) (aa 0))]) (e:=aa 0) (h:=h) (I:=λσ=>∃a,σ = [a,some td]) (λd=>match d with | .int i=>p (ss.getD i.toNat none)|_=>false) (λd=>d) trivial (xs:=(List.range n).map λk:Nat=>D.int k) (σ:=[none,some td]) (by
  rintro x b σ ⟨a,rfl⟩;obtain⟨i,hi,rfl⟩:=List.mem_map.mp b;exact⟨_,rfl,⟨_,rfl⟩,jM (ht i (List.mem_range.mp hi)),λ_=>rfl⟩) ⟨_,rfl⟩
 rw[this,AK (λi=>p (ss.getD i none)) _ λi=>rfl]
theorem Hy (l:Lw Z n M bs ss bk sk T w td h){i:Nat}(hi:i < n):fAt (fAt (aa 1) (fC (.int 2))) (aa 0) [some (.int i),some td] h=.ok (bq (ss.getD i none)) h:=by
 have a:i < ss.length:=by rw[l.m.ls];exact hi
 rw[l.t'];refine aF (aF rfl rfl rfl rfl) rfl (aH l.m.st) (ef ?_);rw[ZQ,ZF,ZE a];rfl
theorem Hz (u:Option Int):mI (bq u)=u.isNone:=by cases u<;>rfl
theorem jf (l:Lw Z n M bs ss bk sk T w td h)(n30:n<=30):cj [td] h=.ok (.ref h.length) (h++[.lst (NL (chL ss n))]):=by
 have c:=Dh l (t:=λa=>tE (ag oNe a (fC (.int 0)))) (λu=>decide (u≠some 0)) (λi hi=>aI (aj (Hy l hi) rfl (wo _ _)));have b:(chL ss n).length<=n:=by
  have:=YO (λi=>decide (ss.getD i none≠some 0)) (List.range n);rwa[ZO]at this
 exact(bG (σ:=[some td]) rfl rfl (aR (bn (cx (c7 (l.many rfl) (by omega)) c) (by rw[ZA];exact ZM b (jq n30))))).trans dR
theorem yH (ss:List (Option Int)):fw (ss.map bq)=(List.range ss.length).map λi=>D.tup [.int (i:Nat),bq (ss.getD i none)]:=by
 unfold fw;rw[ZA];apply Z0;intro i
 by_cases hi:i < ss.length
 ·have z:((List.range ss.length).zip (ss.map bq))[i]? = some (i,bq (ss.getD i none)):=by
   rw[List.getElem?_zip_eq_some];exact⟨List.getElem?_range hi,by rw[ZQ,ZF,ZE hi];rfl⟩
  rw[ZQ,z,ZQ,List.getElem?_range hi];rfl
 ·rw[List.getElem?_eq_none (by simp;omega),List.getElem?_eq_none (by simp;omega)]
theorem qg {G:Hd->Prop}{tg:GF}{cs:List TF}{e:EF}{h:Hd}(I:Sd->Prop)(p:D->Bool)(f:D->D)(b:G h) :
  ∀{xs:List D} {σ:Sd},(∀x∈xs,∀σ,I σ->∃a,tg x σ = some a/\I a/\iB cs a h=.ok (p x) h/\(p x=true->e a h=.ok (f x) h))->I σ->eJ G tg cs e xs σ h=.ok ((xs.filter p).map f) h
 | [],_,_,_=>by unfold eJ;rw[z4 b];rfl
 | x :: xs,σ,st,i=>by
  obtain⟨a,h1,h2,j,g⟩:=st x ZV σ i;have d:=qg I p f b (xs:=xs) (σ := a) (λy k=>st y (ZW _ k)) h2;unfold eJ;rw[z4 b,h1];simp only[j,aW];cases c:p x with
  | true=>rw[List.filter_cons_of_pos c,yP,g c];simp[d]
  | false=>rw[List.filter_cons_of_neg (by rw[c];decide),d];simp
theorem sP (W:w.Ok n)(n30:n<=30)(h:Hd):iy [w.enc] h=.ok (.ref (h.length + 1)) (h++[.lst (w.stays.map bq),.lst (NL (fr w.stays n))]):=by
 have m:(w.stays.map bq).length<=SZ:=by rw[ZA,W.s];exact jq n30
 have k:c8 [w.enc] h=.ok (.ref h.length) (h++[.lst (w.stays.map bq)]):=(bG rfl rfl (aR (bn (bQ (aF rfl rfl rfl rfl) rfl) m))).trans dR;have g:(h++[.lst (w.stays.map bq)])[h.length]? = some (.lst (w.stays.map bq)):=ZG;have j:eJ (λc=>c[h.length]? = some (.lst (w.stays.map bq))) (gT [0,1]) [(tE (ag mD (aa 1) (fC .non)))] (aa 0) (fw (w.stays.map bq)) [none,none] (h++[.lst (w.stays.map bq)])=.ok (NL (fr w.stays n)) (h++[.lst (w.stays.map bq)]):=by
  have:=qg (G:=λc=>c[h.length]? = some (.lst (w.stays.map bq))) (tg:=gT [0,1]) (cs:=[(tE (ag mD (aa 1) (fC .non)))]) (e:=aa 0) (h:=h++[.lst (w.stays.map bq)]) (I:=λσ=>∃a b,σ = [a,b]) (λd=>match d with | .tup [_,x]=>mI x|_=>false) (λd=>match d with | .tup [x,_]=>x|_=>.non) g (xs:=fw (w.stays.map bq)) (σ:=[none,none]) (λy f σ ⟨a,b,e⟩=>by
   subst e;rw[yH]at f;obtain⟨i,_,rfl⟩:=List.mem_map.mp f;exact⟨_,rfl,⟨_,_,rfl⟩,jM (aI (aj rfl rfl rfl)),λ_=>rfl⟩) ⟨_,_,rfl⟩
  rw[this];congr 1;rw[yH,WZ,wC,W.s];have e:((λd=>match d with | .tup [_,x]=>mI x|_=>false) ∘ λi:Nat=>D.tup [.int (i:Nat),bq (w.stays.getD i none)])=λi=>(w.stays.getD i none).isNone:=by
   funext i;exact Hz _
  rw[e];rfl
 have l:lG 2 [] (au c8 (ab (aa 0) ao)) (gT [0,1]) [(tE (ag mD (aa 1) (fC .non)))] (aa 0) [some w.enc] h=.ok (NL (fr w.stays n)) (h++[.lst (w.stays.map bq)]):=by
  have e:au c8 (ab (aa 0) ao) [some w.enc] h=.ok (.ref h.length) (h++[.lst (w.stays.map bq)]):=ar (ak rfl rfl) k;unfold lG;rw[e];simp only[g];exact j
 refine(bG rfl rfl (aR (bn l (by rw[ZA];exact ZM (iV _ _) (jq n30))))).trans (dR.trans ?_);simp
end
theorem pO:∀{b a:List Nat},a.Pairwise (· < ·)->b.Pairwise (· < ·)->(∀x∈a,x∈b)->a.Sublist b
 | [],a,_,_,h=>by
  cases a with
  | nil=>exact .slnil
  | cons x a=>exact absurd (h x (.head _)) (by simp)
 | y :: b,[],_,_,_=>List.nil_sublist _
 | y :: b,x :: a,pa,pb,h=>by
  have c:=List.pairwise_cons.mp pa;have d:=List.pairwise_cons.mp pb
  by_cases e:x=y
  ·subst e
   refine(pO c.2 d.2 λz f => ?_).cons₂ x;rcases Y6.mp (h z (.tail _ f)) with q|q
   ·exact absurd (c.1 z f) (by rw[q];exact wD _)
   ·exact q
  ·refine(pO pa d.2 λz f => ?_).cons y
   rcases Y6.mp (h z f) with q|q
   ·have g:x∈b:=(Y6.mp (h x (.head _))).resolve_left e
    have h1:=d.1 x g;rcases Y6.mp f with r|r
    ·exact absurd (r.symm.trans q) e
    ·have:=c.1 z r
     rw[q]at this;omega
   ·exact q
theorem yI:∀{α : Type} [DecidableEq α] {a b:List α},a.Nodup->(∀x∈a,x∈b)->a.length<=b.length
 | _,_,[],_,_,_=>Z8 _
 | _,_,x :: a,b,nd,h=>by
  have c:=List.nodup_cons.mp nd;have:=yI (a:=a) (b:=b.erase x) c.2 λy d=>(List.mem_erase_of_ne (λe:y=x=>c.1 (e ▸ d))).mpr (h y (.tail _ d));rw[List.length_erase_of_mem (h x (.head _))]at this;have p:=List.length_pos_of_mem (h x (.head _));rw[YD];omega
theorem BV (nd:l.Nodup):∃f:List Nat,(fB (kyL l)).map D.int=NL f/\f.Pairwise (· < ·)/\∀x,x∈f ↔ x∈l:=by
 have d:=iJ (kyL l);have g:∀z∈fB (kyL l),0<=z:=λz c=>by
  obtain⟨k,_,rfl⟩:=List.mem_map.mp (d.mem_iff.mp c);omega
 have m:(fB (kyL l)).Nodup:=d.nodup_iff.mpr (by
  unfold kyL;rw[WO,YY];exact(WO.mp nd).imp λ{a b} h e=>h (Int.ofNat.inj e))
 refine⟨(fB (kyL l)).map Int.toNat,?_,?_,λx => ?_⟩
 ·unfold NL
  rw[wC];refine YK λz c => ?_;show D.int z=D.int ((z.toNat:Nat):Int);rw[Int.toNat_of_nonneg (g z c)]
 ·rw[YY]
  refine((mS (r:=kyL l)).and (WO.mp m)).imp_of_mem ?_;intro a b n i ⟨h1,h2⟩;have:=g a n;have:=g b i;omega
 ·rw[List.mem_map]
  constructor
  ·rintro⟨z,c,rfl⟩
   obtain⟨k,j,rfl⟩:=List.mem_map.mp (d.mem_iff.mp c);simpa using j
  ·intro o
   exact⟨(x:Int),d.mem_iff.mpr (List.mem_map.mpr ⟨x,o,rfl⟩),by simp⟩
section
variable {w:Web} {n:Nat}
structure Kk (w:Web) (n:Nat) (mm:List (List Int × D)):Prop where
 nd:(mm.map (·.1)).Nodup
 en:∀p∈mm,∃l,l.Sublist (chL w.stays n)/\p=(kyL l,.bl (tb w n l))
theorem Kk.len (K:Kk w n mm)(n8:n<=8):mm.length < 1000:=by
 have:=yI (b:=(pK (chL w.stays n)).map kyL) K.nd λx a=>by
  obtain⟨p,c,rfl⟩:=List.mem_map.mp a;obtain⟨l,d,rfl⟩:=K.en p c;exact List.mem_map.mpr ⟨l,sM.mpr d,rfl⟩
 rw[ZA,ZA,sL _ _ rfl]at this;have p:2 ^ (chL w.stays n).length<=2 ^ 8:=X1 (by decide) (ZM (oz _ _) n8);omega
theorem Kk.pu (K:Kk w n mm):(mm.all λp=>pure? p.2)=true:=by
 rw[List.all_eq_true];intro p a;obtain⟨l,_,rfl⟩:=K.en p a;rfl
theorem Kk.val (K:Kk w n mm):eD mm (kyL l)=none\/eD mm (kyL l)=some (.bl (tb w n l)):=by
 unfold eD;cases c:mm.find? (λp=>decide (p.1=kyL l)) with
 | none=>exact .inl rfl
 | some p =>
  have h1:=List.mem_of_find?_eq_some c;have h2:=List.find?_some c;obtain⟨a,_,rfl⟩:=K.en p h1;have e:kyL a=kyL l:=YV h2;rw[Hj e];exact .inr rfl
theorem BW (G:Go w n)(g:l.Sublist (chL w.stays n)){k d:Nat}{mm:List (List Int × D)}(o:h[k]? = some (.lst (NL l)))(hd:h[d]? = some (.dcT mm))(K:Kk w n mm) :
  ∃c,cQ [w.enc,.ref k,.ref d] h=.ok (.bl (tb w n l)) (h.set d (.dcT c))/\Kk w n c:=by
 obtain⟨c,q,j⟩:=AA G.W G.n30 G.S (gj g) o hd (K.len G.n8) K.pu (Hu G (gj g)) K.val;refine⟨c,q,?_⟩;rcases j with e|⟨e1,e2⟩
 ·rw[e];exact K
 ·rw[e2]
  refine⟨?_,λp f => ?_⟩
  ·rw[ZR,XA]
   refine⟨K.nd,by simp,λa i b m e => ?_⟩;rw[WE.mp m]at e;obtain⟨p,f,rfl⟩:=List.mem_map.mp i;have:=List.find?_eq_none.mp (Option.map_eq_none_iff.mp e1) p f;exact this (yQ e)
  ·rcases W0.mp f with f|f
   ·exact K.en p f
   ·exact⟨l,g,WE.mp f⟩
end
theorem sQ {g:Option Nat}{all:List D}{tg:GF}{b:SF}(P:Nat->Sd->Hd->Prop)(l:∀i σ h,P i σ h->dH g all h) :
  ∀{xs:List D} {k:Nat} {σ:Sd} {h:Hd},(∀(i:Nat) x σ h,xs[i]? = some x->P (k + i) σ h->∃a,tg x σ = some a/\∃c d,(b a h=.nx c d\/b a h=.ct c d)/\P (k + i + 1) c d)->P k σ h->
   ∃a m,fM g all tg b xs σ h=.nx a m/\P (k + xs.length) a m
 | [],k,σ,h,_,p=>⟨σ,h,by unfold fM;exact z4 (l _ _ _ p),p⟩
 | x :: xs,k,σ,h,st,p=>by
  obtain⟨a,h1,f,h2,r,n⟩:=st 0 x σ h rfl p;obtain⟨j,o,q,z⟩:=sQ P l (xs:=xs) (k:=k + 1) (σ := f) (h:=h2) (λi y σ h e q=>by
   rw[WD k 1 i]at q ⊢;exact st (i + 1) y σ h e q) n
  refine⟨j,o,?_,by rw[YD,<-Nat.add_assoc,WD];exact z⟩;rw[fM,z4 (l _ _ _ p),h1];rcases r with e|e<;>simp only[e,q]
theorem wx {i:Nat}{x:D}(e : σ[i]? = some (some x)):aa i σ h=.ok x h:=by simp only[aa,slot,e]
theorem jg {g:Hd}{d:Nat}(hd:d < h.length)(x y:aS):(h.set d x++g).set d y=h.set d y++g:=by
 rw[Y8 _ _ (by rw[YG];exact hd),List.set_set]
theorem yJ (ss:List (Option Int))(n:Nat):(fr ss n).Pairwise (· < ·):=X3 _ YJ
theorem kM {ss:List (Option Int)}(h:∀x∈l,x∈chL ss n):(srt n l).Sublist (chL ss n):=pO (lW n l) (X3 _ YJ) λx a=>h x (cK.mp a).2
theorem J5 {ss:List (Option Int)}(u:l.Pairwise (· < ·))(h:∀x∈l,x∈chL ss n):srt n l=l:=sO (lW n l) u λx=>cK.trans ⟨λz=>z.2,λz=>⟨(oA.mp (h x z)).1,z⟩⟩
theorem kW {ss:List (Option Int)}{x:Nat}(h:x∈fr ss n):x∈chL ss n:=(sN ss n).subset h
theorem BX {w:Web}{a:List Nat}(h:∀i,i < n->(i∈l\/w.stays.getD i none=some 1 ↔ i∈a\/w.stays.getD i none=some 1)):tb w n l=tb w n a:=by
 have e:cF w n l=cF w n a:=by
  unfold cF;refine YK λi hi => ?_;have q:=h i (List.mem_range.mp hi)
  by_cases c:i∈l\/w.stays.getD i none=some 1
  ·rw[z4 c,z4 (q.mp c)]
  ·rw[z5 c,z5 λz=>c (q.mpr z)]
 unfold tb;rw[e]
def cT (ss:List (Option Int)) (n:Nat) (lf:List Nat):List Nat:=(chL ss n).filter λx => !decide (x∈lf)
variable {lf:List Nat}
theorem jE {ss:List (Option Int)}{x:Nat}:x∈cT ss n lf ↔ x∈chL ss n/\x∉lf:=by
 unfold cT;rw[List.mem_filter];simp
structure PG (w:Web) (n:Nat) (lf S:List Nat):Prop where
 su:lf.Sublist (fr w.stays n)
 no:∀x∈lf,x∉S
 re:tb w n (cT w.stays n lf)=false
 na:∀p∈lf,tb w n (srt n (p :: cT w.stays n lf))=true
section
variable {w:Web} {n:Nat} {h:Hd} {c d:Nat} {ch:List Nat}
abbrev Ho (w:Web) (n:Nat) (h:Hd) (d:Nat) (mm:List (List Int × D)) (lf:List Nat) (g:Hd):Hd:=h.set d (.dcT mm)++(.lst (NL lf) :: .lst (w.stays.map bq) :: .lst (NL (fr w.stays n)) :: g)
structure LO (w:Web) (n:Nat) (h:Hd) (c d:Nat) (ch:List Nat) (i gk:Nat) (gr lf:List Nat) (mm:List (List Int × D)) (g:Hd):Prop where
 K:Kk w n mm
 gn:gr.Nodup
 gs:∀x∈gr,x∈fr w.stays n
 cg:∀x∈ch,x∈gr
 g1:gk≠d
 g2:gk≠h.length
 ga:(Ho w n h d mm lf g)[gk]? = some (.lst (NL gr))
 ls:∀x∈lf,x∈fr w.stays n/\x∉ch
 ll:lf.length<=i
 gf:tb w n (srt n gr)=false
 pr:∀x∈(fr w.stays n).take i,x∈gr\/x∈lf
 gx:∀x∈gr,x∉lf
 lt:∀x∈lf,x∈(fr w.stays n).take i
 lu:lf.Pairwise (· < ·)
 tr:∀p∈lf,tb w n (srt n (p :: gr))=true
theorem AL (hd:d < h.length){mm a:List (List Int × D)}{g:Hd}:(Ho w n h d mm lf g).set d (.dcT a)=Ho w n h d a lf g:=jg hd _ _
theorem MC (hd:d < h.length){mm:List (List Int × D)}{g:Hd}:(Ho w n h d mm lf g)[d]? = some (.dcT mm):=aA _ (List.getElem?_set_self hd)
theorem FG {mm:List (List Int × D)}{a:List Nat}{g:Hd}:(Ho w n h d mm lf g).set h.length (.lst (NL a))=Ho w n h d mm a g:=by
 unfold Ho;have:=kj (h0:=h.set d (.dcT mm)) (g:=.lst (NL lf) :: .lst (w.stays.map bq) :: .lst (NL (fr w.stays n)) :: g) (A:=h.length) (by rw[YG]) 0 (.lst (NL a));exact this
theorem J6 {mm:List (List Int × D)}{g:Hd}:(Ho w n h d mm lf g)[h.length]? = some (.lst (NL lf)):=Bz (h0:=h.set d (.dcT mm)) (A:=h.length) (by rw[YG]) 0
theorem LB {mm:List (List Int × D)}{g:Hd}:(Ho w n h d mm lf g)[h.length + 2]? = some (.lst (NL (fr w.stays n))):=Bz (h0:=h.set d (.dcT mm)) (A:=h.length) (by rw[YG]) 2
theorem J7 {mm:List (List Int × D)}{g g':Hd}:Ho w n h d mm lf g++g'=Ho w n h d mm lf (g++g'):=by unfold Ho;simp
theorem Di (G:Go w n)(hd:d < h.length){i o:Nat}{m:List Nat}{mm:List (List Int × D)}{g:Hd}(L:LO w n h c d ch i o m lf mm g)(hi:i < (fr w.stays n).length)(he:(fr w.stays n)[i] = p)(a0:i < 30)(y:Option D) :
  ∃v I B l K T,(jd [some w.enc,some (.ref c),some (.ref d),some (.ref o),some (.ref h.length),some (.int (p:Nat)),y] (Ho w n h d mm lf g)=.nx [some w.enc,some (.ref c),some (.ref d),some (.ref v),some (.ref h.length),some (.int (p:Nat)),T] (Ho w n h d l B K)\/jd [some w.enc,some (.ref c),some (.ref d),some (.ref o),some (.ref h.length),some (.int (p:Nat)),y] (Ho w n h d mm lf g)=.ct [some w.enc,some (.ref c),some (.ref d),some (.ref v),some (.ref h.length),some (.int (p:Nat)),T] (Ho w n h d l B K))/\LO w n h c d ch (i + 1) v I B l K:=by
 have N:p∈fr w.stays n:=he ▸ Z5 hi;have tk:(fr w.stays n).take (i + 1)=(fr w.stays n).take i++[p]:=by rw[YZ hi,he]
 have S:∀x∈(fr w.stays n).take i,x < p:=λx f=>by
  have u:=yJ w.stays n;rw[<-List.take_append_drop i (fr w.stays n)]at u;refine(List.pairwise_append.mp u).2.2 x f p ?_;rw[XW hi,he];exact .head _
 have A:∀x∈(fr w.stays n).take i,x∈(fr w.stays n).take (i + 1):=λx f=>by rw[tk];exact W0.mpr (.inl f)
 have F:tE (ag oIn (aa 5) (aa 3)) [some w.enc,some (.ref c),some (.ref d),some (.ref o),some (.ref h.length),some (.int (p:Nat)),y] (Ho w n h d mm lf g)=.ok (decide (p∈m)) (Ho w n h d mm lf g):=aI (aj rfl rfl (uX L.ga p))
 by_cases cp:p∈m
 ·rw[yQ cp]at F
  have np:∀x∈(fr w.stays n).take (i + 1),x∈m\/x∈lf:=λx f=>by
   rw[tk]at f;rcases W0.mp f with z|z
   ·exact L.pr x z
   ·rw[WE.mp z];exact .inl cp
  refine⟨o,m,lf,mm,g,y,.inr ?_,{ L with ll:=XB L.ll,pr:=np,lt:=λx f=>A x (L.lt x f) }⟩;have:sIf (tE (ag oIn (aa 5) (aa 3))) Ja br [some w.enc,some (.ref c),some (.ref d),some (.ref o),some (.ref h.length),some (.int (p:Nat)),y] (Ho w n h d mm lf g)=.ct [some w.enc,some (.ref c),some (.ref d),some (.ref o),some (.ref h.length),some (.int (p:Nat)),y] (Ho w n h d mm lf g):=(gX F).trans rfl;show ax _ _ _ _=_;unfold ax;rw[this]
 ·rw[y3 cp]at F
  have gl:m.length<=8:=ZM (yI L.gn L.gs) (ZM (iV _ _) G.n8);have Y:(m++[p]).Nodup:=by
   rw[XA];exact⟨L.gn,by simp,λa M b O e=>cp (by rw[WE.mp O]at e;exact e ▸ M)⟩
  obtain⟨j,m1,m2,m3⟩:=BV Y;have C:j.Sublist (fr w.stays n):=pO m2 (X3 _ YJ) λx f=>by
   rcases W0.mp ((m3 x).mp f) with z|z
   ·exact L.gs x z
   ·rw[WE.mp z];exact N
  have me:j=srt n (p :: m):=sO m2 (lW _ _) λx=>by
   rw[m3,cK,W0,WE,Y6];exact⟨λz=>⟨(ww.mp (z.elim (L.gs x) λe=>e ▸ N)).1,z.symm⟩,λz=>z.2.symm⟩
  have gC:∀x∈m,x∈chL w.stays n:=λx f=>kW (L.gs x f);have ml:j.length<=8:=ZM C.length_le (ZM (iV _ _) G.n8);obtain⟨h1,r⟩ : ∃h1,h1=Ho w n h d mm lf g++[aS.lst [.int (p:Nat)]]:=⟨_,rfl⟩;obtain⟨s,t⟩ : ∃s,s=h1.length:=⟨_,rfl⟩;have e1:∀σ:Sd,σ[5]? = some (some (.int (p:Nat)))->aG (ab (aa 5) ao) σ (Ho w n h d mm lf g)=.ok (.ref (Ho w n h d mm lf g).length) h1:=λσ e=>by
   rw[r];exact bn (ak (wx e) rfl) (by simp[SZ])
  have so:jn (dJ (aa 3) (aG (ab (aa 5) ao))) [some w.enc,some (.ref c),some (.ref d),some (.ref o),some (.ref h.length),some (.int (p:Nat)),y] (Ho w n h d mm lf g)=.ok (NL j) h1:=by
   have X:dJ (aa 3) (aG (ab (aa 5) ao)) [some w.enc,some (.ref c),some (.ref d),some (.ref o),some (.ref h.length),some (.int (p:Nat)),y] (Ho w n h d mm lf g)=.ok (NL (m++[p])) h1:=by
    rw[<-kK];exact kJ rfl (e1 _ rfl) (by rw[r];exact aA _ L.ga) (by rw[r];exact ZG) (by simp[SZ];omega)
   unfold jn;rw[X];simp only[aW,eM];rw[z4 (by simp[kyL];omega),m1]
  have R:Ho w n h d mm lf (g++[.lst [.int (p:Nat)],.lst (NL j)])=h1++[.lst (NL j)]:=by rw[r];simp[Ho]
  have W:aG (jn (dJ (aa 3) (aG (ab (aa 5) ao)))) [some w.enc,some (.ref c),some (.ref d),some (.ref o),some (.ref h.length),some (.int (p:Nat)),y] (Ho w n h d mm lf g)=.ok (.ref s) (Ho w n h d mm lf (g++[.lst [.int (p:Nat)],.lst (NL j)])):=by
   rw[R,t];exact bn so (by simp[SZ];omega)
  have P:(Ho w n h d mm lf (g++[.lst [.int (p:Nat)],.lst (NL j)]))[s]? = some (.lst (NL j)):=by
   rw[R,t];exact ZG
  obtain⟨l,q,Q⟩:=BW G (C.trans (sN _ _)) P (MC hd) L.K;rw[AL hd]at q;have kl:h.length + 2 < s:=by rw[t,r,ZB];simp only[Ho,ZB,YG,YD];omega
  have V:s≠d:=by omega
  have up:∀{k:Nat} {J:aS},k≠d->(Ho w n h d mm lf g)[k]? = some J->(Ho w n h d l lf (g++[.lst [.int (p:Nat)],.lst (NL j)]))[k]? = some J:=λ{k J} z e=>by
   rw[<-AL hd (mm:=mm),ZP z.symm,<-J7];exact aA _ e
  have H:∀σ:Sd,σ[0]? = some (some w.enc)->σ[6]? = some (some (.ref s))->σ[2]? = some (some (.ref d))->tE (au cQ (ab (aa 0) (ab (aa 6) (ab (aa 2) ao)))) σ (Ho w n h d mm lf (g++[.lst [.int (p:Nat)],.lst (NL j)]))=.ok (tb w n j) (Ho w n h d l lf (g++[.lst [.int (p:Nat)],.lst (NL j)])):=λσ a b e =>
   aI (ar (ak (wx a) (bV (wx b) (wx e))) q)
  cases cb:tb w n j with
  | true =>
   rw[cb]at H;refine⟨o,m,lf++[p],l,g++[.lst [.int (p:Nat)],.lst (NL j)],some (.ref s),.inl ?_,⟨Q,L.gn,L.gs,L.cg,L.g1,L.g2,?_,?_,by rw[ZB];exact Nat.add_le_add_right L.ll 1,L.gf,λx f => ?_,λx f z => ?_,λx f => ?_,?_,λx f => ?_⟩⟩
   ·refine sx (ca F) (sx (aD W) ((gX (H _ rfl rfl rfl)).trans ((jp (ki rfl J6 rfl J6 (by have:=L.ll;simp[SZ];omega))).trans ?_)))
    rw[kK,FG];rfl
   ·rw[<-FG (lf:=lf),ZP L.g2.symm]
    exact up L.g1 L.ga
   ·intro x f
    rcases W0.mp f with z|z
    ·exact L.ls x z
    ·rw[WE.mp z];exact⟨N,λe=>cp (L.cg p e)⟩
   ·rw[tk]at f
    rcases W0.mp f with z|z
    ·exact(L.pr x z).imp id λq=>W0.mpr (.inl q)
    ·exact .inr (W0.mpr (.inr z))
   ·rcases W0.mp z with z|z
    ·exact L.gx x f z
    ·exact cp (WE.mp z ▸ f)
   ·rcases W0.mp f with z|z
    ·exact A x (L.lt x z)
    ·rw[tk];exact W0.mpr (.inr z)
   ·exact List.pairwise_append.mpr ⟨L.lu,List.pairwise_singleton _ _,λa M b O=>by rw[WE.mp O];exact S a (L.lt a M)⟩
   ·rcases W0.mp f with z|z
    ·exact L.tr x z
    ·rw[WE.mp z,<-me];exact cb
  | false =>
   rw[cb]at H;refine⟨s,j,lf,l,g++[.lst [.int (p:Nat)],.lst (NL j)],some (.ref s),.inl ?_,⟨Q,m2.imp λh=>ZN h,λx f=>C.subset f,λx f=>(m3 x).mpr (W0.mpr (.inl (L.cg x f))),V,by omega,?_,L.ls,XB L.ll,?_,λx f => ?_,λx f z => ?_,λx f=>A x (L.lt x f),L.lu,λx f => ?_⟩⟩
   ·exact sx (ca F) (sx (aD W) ((ca (H _ rfl rfl rfl)).trans (aD rfl)))
   ·rw[<-AL hd (mm:=mm),ZP V.symm];exact P
   ·rw[J5 (ss:=w.stays) m2 λx f=>kW (C.subset f)];exact cb
   ·rw[tk]at f
    rcases W0.mp f with z|z
    ·exact(L.pr x z).imp (λq=>(m3 x).mpr (W0.mpr (.inl q))) id
    ·exact .inl ((m3 x).mpr (W0.mpr (.inr z)))
   ·rcases W0.mp ((m3 x).mp f) with q|q
    ·exact L.gx x q z
    ·have:=S x (L.lt x z)
     rw[WE.mp q]at this;exact absurd this (wD _)
   ·have U:=kW (L.ls x f).1
    refine BU G (gj (kM λy E => ?_)) (gj (kM λy E => ?_)) (λy E => ?_) (L.tr x f)
    ·rcases Y6.mp E with z|z
     ·rw[z];exact U
     ·exact gC y z
    ·rcases Y6.mp E with z|z
     ·rw[z];exact U
     ·exact kW (C.subset z)
    ·obtain⟨y1,Z⟩:=cK.mp E
     refine cK.mpr ⟨y1,?_⟩;rcases Y6.mp Z with z|z
     ·rw[z];exact .head _
     ·exact .tail _ ((m3 y).mpr (W0.mpr (.inl z)))
def LOi (w:Web) (n:Nat) (h:Hd) (c d:Nat) (ch:List Nat) (i:Nat) (σ:Sd) (h':Hd):Prop:=∃gk gr lf mm g x y,σ = [some w.enc,some (.ref c),some (.ref d),some (.ref gk),some (.ref h.length),x,y]/\h'=Ho w n h d mm lf g/\LO w n h c d ch i gk gr lf mm g
theorem lX {h:Hd}{d:Nat}{x:aS}(hd:h[d]? = some x):h.set d x=h:=by
 apply Z0;intro i
 by_cases e:d=i
 ·subst e;rw[List.getElem?_set_self (List.getElem?_eq_some_iff.mp hd).1,hd]
 ·rw[ZP e]
theorem yK (G:Go w n){mm:List (List Int × D)}(hd:h[d]? = some (.dcT mm))(K:Kk w n mm)(hc:h[c]? = some (.lst (NL ch)))(H:ch.Nodup)(cs:∀x∈ch,x∈fr w.stays n)(I:tb w n (srt n ch)=false) :
  ∃j f g,kr [w.enc,.ref c,.ref d] h=.ok (.ref h.length) (h.set d (.dcT f)++g)/\(h.set d (.dcT f)++g)[h.length]? = some (.lst (NL j))/\Kk w n f/\PG w n j (srt n ch):=by
 have Q:=(List.getElem?_eq_some_iff.mp hd).1;have O:=(List.getElem?_eq_some_iff.mp hc).1;have S:c≠d:=λe=>by rw[e,hd]at hc;cases hc
 have V:=G.n8;have U:=iV w.stays n;have v:=sP G.W G.n30 (h++[.lst (NL [])]);have R:h++[aS.lst (NL [])]++[.lst (w.stays.map bq),.lst (NL (fr w.stays n))] = Ho w n h d mm [] []:=by unfold Ho;rw[lX hd];simp
 rw[R,ZB]at v;obtain⟨_,_,J,N,o,j,f,g,x,y,rfl,rfl,L⟩:=sQ (P:=LOi w n h c d ch) (g:=some (h.length + 2)) (k:=0) (all:=NL (fr w.stays n)) (λ_ _ _ p=>by obtain⟨_,_,_,_,_,_,_,_,rfl,_⟩:=p;exact LB) (xs:=NL (fr w.stays n)) (tg:=gN 5) (σ:=[some w.enc,some (.ref c),some (.ref d),some (.ref c),some (.ref h.length),none,none]) (h:=Ho w n h d mm [] []) (b:=jd) (by
  rintro i x _ _ a ⟨N,o,j,mm,g,x,y,rfl,rfl,L⟩;have hi:i < (fr w.stays n).length:=by have:=(List.getElem?_eq_some_iff.mp a).1;rwa[ZA]at this
  rw[ZQ,ZE hi]at a;cases a;rw[wF]at L ⊢;obtain⟨r,m,t,f,C,F,q,T⟩:=Di G Q L hi rfl (by omega) y;exact⟨_,rfl,_,_,q,r,m,t,f,C,_,F,rfl,rfl,T⟩) ⟨c,ch,[],mm,[],none,none,rfl,rfl,⟨K,H,cs,λ_ h=>h,S,ZN O,by unfold Ho;rw[lX hd];exact aA _ hc,λx a=>(by cases a),Z8 _,I,λx a=>(by cases a),λx _ a=>(by cases a),λx a=>(by cases a),.nil,λx a=>(by cases a)⟩⟩
 rw[wF,ZA]at L;have all:∀x∈fr w.stays n,x∈o\/x∈j:=λx a=>L.pr x (by rw[WC];exact a);have u:∀x∈o,x∈chL w.stays n:=λx a=>kW (L.gs x a);refine⟨j,f,.lst (NL j) :: .lst (w.stays.map bq) :: .lst (NL (fr w.stays n)) :: g,?_,J6 (w:=w) (n:=n) (g:=g),L.K,pO L.lu (yJ _ _) λx a=>(L.ls x a).1,λx a z=>(L.ls x a).2 (cK.mp z).2,?_,λp s => ?_⟩
 ·exact x4 (bG (σ:=[some w.enc,some (.ref c),some (.ref d),none,none,none,none]) rfl rfl (sx (aD rfl) (sx (aD (bn (xs:=[]) rfl (by decide))) (sx (fZ (dv (ar (ak rfl rfl) v) LB) J) (aR rfl))))) dR
 ·rw[<-L.gf]
  refine BX λi hi => ?_
  by_cases s1:w.stays.getD i none=some 1
  ·exact⟨λ_=>.inr s1,λ_=>.inr s1⟩
  ·refine⟨λz=>z.imp (λq => ?_) id,λz=>z.imp (λq => ?_) id⟩
   ·obtain⟨q1,q2⟩:=jE.mp q
    obtain⟨_,q3⟩:=oA.mp q1;have B:w.stays.getD i none=none:=by
     have mem:w.stays.getD i none∈w.stays:=by
      have A:i < w.stays.length:=by rw[G.W.s];exact hi
      rw[ZF,ZE A];exact Z5 A
     rcases G.S _ mem with e|e|e
     ·exact e
     ·exact absurd e q3
     ·exact absurd e s1
    exact cK.mpr ⟨hi,(all i (ww.mpr ⟨hi,B⟩)).resolve_right q2⟩
   ·have q:=(cK.mp q).2
    exact jE.mpr ⟨u i q,L.gx i q⟩
 ·refine BU G (gj (kM λy l => ?_)) (gj (kM λy l => ?_)) (λy l => ?_) (L.tr p s)
  ·rcases Y6.mp l with z|z
   ·rw[z];exact kW (L.ls p s).1
   ·exact u y z
  ·rcases Y6.mp l with z|z
   ·rw[z];exact kW (L.ls p s).1
   ·exact(jE.mp z).1
  ·obtain⟨M,E⟩:=cK.mp l
   refine cK.mpr ⟨M,?_⟩;rcases Y6.mp E with z|z
   ·rw[z];exact .head _
   ·exact .tail _ (jE.mpr ⟨u y z,L.gx y z⟩)
end
section
variable {w:Web} {n d:Nat}
def AM:D:=.tup [.str [108,101,97,102]]
def gR (a b:Nat):D:=.tup [.str [112,97,114,116],.ref a,.ref b]
def IsT (w:Web) (n:Nat) (h:Hd):Nat->List Nat->D->Prop
 | 0,S,t=>t=AM/\tb w n S=false
 | m + 1,S,t=>∃a b lf ds,t=gR a b/\h[a]? = some (.lst (NL lf))/\h[b]? = some (.lst ds)/\ds.length=lf.length/\PG w n lf S/\∀(i p:Nat) (t':D),lf[i]? = some p->ds[i]? = some t'->IsT w n h m (srt n (p :: S)) t'
def nu (h h':Hd):Prop:=∀(k:Nat) (l:List D),h[k]? = some (.lst l)->h'[k]? = some (.lst l)
theorem IsT.keep {h h':Hd}(q:nu h h'):∀{m:Nat} {S:List Nat} {t:D},IsT w n h m S t->IsT w n h' m S t
 | 0,_,_,x=>x
 | m + 1,S,t,⟨a,b,lf,ds,e,h1,h2,h3,h4,h5⟩=>⟨a,b,lf,ds,e,q _ _ h1,q _ _ h2,h3,h4,λi p c g f=>IsT.keep q (h5 i p c g f)⟩
theorem eO (h g:Hd):nu h (h++g):=λ_ _ e=>aA g e
theorem yL {mm:List (List Int × D)}(hd:h[d]? = some (.dcT mm))(x:aS)(g:Hd):nu h (h.set d x++g):=λk l e=>by
 have:d≠k:=λz=>by rw[<-z,hd]at e;cases e
 exact aA g (by rw[ZP this];exact e)
theorem nu.trans {a b c:Hd}(x:nu a b)(y:nu b c):nu a c:=λk l e=>y k l (x k l e)
def TC (w:Web) (n d c k:Nat) (h1:Hd) (i:Nat) (σ:Sd) (h':Hd):Prop:=∃a mm g,σ = [a,some w.enc,some (.ref d),some (.int (k + 1:Nat)),some (.ref c)]/\h'=h1.set d (.dcT mm)++g/\Kk w n mm
theorem sR {g:Option Nat}{all:List D}{tg:GF}{e:EF}(P:Sd->Hd->Prop)(V:Hd->D->D->Prop)(j:∀σ h,P σ h->dH g all h)(b:∀h h' x t,nu h h'->V h x t->V h' x t) :
  ∀{xs:List D} {σ:Sd} {h:Hd},(∀x∈xs,∀σ h,P σ h->∃a,tg x σ = some a/\∃t h',e a h=.ok t h'/\V h' x t/\nu h h'/\P a h')->P σ h->
   ∃ds h',bR g all tg [] e xs σ h=.ok ds h'/\ds.length=xs.length/\(∀(i:Nat) x t,xs[i]? = some x->ds[i]? = some t->V h' x t)/\nu h h'/\∃a,P a h'
 | [],σ,h,_,p=>⟨[],h,by simp[bR,j _ _ p],rfl,λi x t e=>by simp at e,λ_ _ e=>e,σ,p⟩
 | x :: xs,σ,h,st,p=>by
  obtain⟨a,h1,t,h2,A,B,z,o⟩:=st x (.head _) σ h p;obtain⟨ds,s,r,v,c,k,f,q⟩:=sR P V j b (xs:=xs) (σ := a) (h:=h2) (λy C=>st y (.tail _ C)) o;refine⟨t :: ds,s,?_,by simp[v],λi y u m l => ?_,z.trans k,f,q⟩
  ·simp[bR,j _ _ p,h1,iB,A,r]
  ·cases i with
   | zero=>cases m;cases l;exact b _ _ _ _ k B
   | succ i=>exact c i y u m l
theorem BY {n:Nat}(nd:l.Nodup):(srt n l).length<=l.length:=yI ((lW n l).imp λh=>ZN h) λ_ a=>(cK.mp a).2
theorem FH {n:Nat}{ss:List (Option Int)}(h:∀x∈l,x∈fr ss n):(srt n l).Sublist (fr ss n):=pO (lW n l) (yJ ss n) λx a=>h x (cK.mp a).2
theorem yM (n p:Nat)(l:List Nat):srt n (p :: srt n l)=srt n (l++[p]):=sO (lW _ _) (lW _ _) λx=>by
 rw[cK,cK,Y6,cK,W0,WE];exact⟨λ⟨a,b⟩=>⟨a,b.elim .inr λz=>.inl z.2⟩,λ⟨a,b⟩=>⟨a,b.elim (λz=>.inr ⟨a,z⟩) .inl⟩⟩
theorem BZ (G:Go w n){M:Nat}(mn:∀u,u.Sublist (fr w.stays n)->u.length<=M->tb w n u=false):∀j m:Nat,m < j->∀(h:Hd) (c:Nat) (l:List Nat) (mm:List (List Int × D)),h[d]? = some (.dcT mm)->Kk w n mm->h[c]? = some (.lst (NL l))->l.Nodup->(∀x∈l,x∈fr w.stays n)->l.length + m=M->
  ∃t f g,cu j [w.enc,.int (m:Nat),.ref c,.ref d] h=.ok t (h.set d (.dcT f)++g)/\Kk w n f/\IsT w n (h.set d (.dcT f)++g) m (srt n l) t
 | 0,m,hm,_,_,_,_,_,_,_,_,_,_=>absurd hm (YB m)
 | j + 1,0,_,h,c,l,mm,hd,K,_,cn,cs,cM=>by
  refine⟨AM,mm,[],?_,K,rfl,mn _ (FH cs) (ZM (BY cn) (by omega))⟩;rw[lX hd,Z6];unfold cu;exact x4 (bG (σ:=[some w.enc,some (.int (0:Nat)),some (.ref c),some (.ref d),none,none]) rfl rfl (jL (x4 (gX (aI (aj rfl rfl rfl))) (aR (iK (ak rfl rfl) (by decide)))))) a0
 | j + 1,k + 1,hm,h,c,l,mm,hd,K,hc,cn,cs,cM=>by
  obtain⟨E,m1,L,q,B,K1,C⟩:=yK G hd K hc cn cs (mn _ (FH cs) (ZM (BY cn) (by omega)));have F:=(List.getElem?_eq_some_iff.mp hd).1;have cl:=(List.getElem?_eq_some_iff.mp hc).1;have W:d≠c:=λe=>by rw[<-e,hd]at hc;cases hc
  have a1:l.length<=8:=ZM (yI cn cs) (ZM (iV _ _) G.n8);have Z:E.length<=8:=ZM C.su.length_le (ZM (iV _ _) G.n8);obtain⟨h1,r⟩ : ∃h1,h1=h.set d (.dcT m1)++L:=⟨_,rfl⟩;rw[<-r]at q B;have T:d < h1.length:=by rw[r,ZB,YG];omega
  have H:h1[c]? = some (.lst (NL l)):=by rw[r];exact aA _ (by rw[ZP W];exact hc)
  have S:h1[d]? = some (.dcT m1):=by rw[r];exact aA _ (List.getElem?_set_self F)
  obtain⟨ds,h',cp,s,vt,_,Y,a,f,g,rfl,rfl,K'⟩:=sR (P:=TC w n d c k h1 0) (V:=λh x t=>∃p:Nat,x=.int (p:Nat)/\IsT w n h k (srt n (p :: srt n l)) t) (g:=some h.length) (all:=NL E) (tg:=gN 0) (e:=au (cu j) (ab (aa 1) (ab (ag fL (aa 3) (fC (.int 1))) (ab (aG (dJ (aa 4) (aG (ab (aa 0) ao)))) (ab (aa 2) ao))))) (λ_ _ p=>by
   obtain⟨_,_,_,_,rfl,_⟩:=p;exact aA _ (by rw[ZP (ZN F)];exact B)) (λh h' x t q ⟨p,e,z⟩=>⟨p,e,z.keep q⟩) (xs:=NL E) (σ:=[none,some w.enc,some (.ref d),some (.int (k + 1:Nat)),some (.ref c)]) (h:=h1) (by
   rintro x N _ _ ⟨a,mm,g,rfl,rfl,K⟩;obtain⟨p,U,rfl⟩:=List.mem_map.mp N;have v:=C.su.subset U;have R:p∉l:=λz=>C.no p U (cK.mpr ⟨(ww.mp v).1,z⟩);obtain⟨h2,o⟩ : ∃h2,h2=h1.set d (.dcT mm)++g:=⟨_,rfl⟩;have X:d < h2.length:=by rw[o,ZB,YG];omega
   have I:h2[c]? = some (.lst (NL l)):=by rw[o];exact aA _ (by rw[ZP W];exact H)
   have O:h2[d]? = some (.dcT mm):=by rw[o];exact aA _ (List.getElem?_set_self T)
   rw[<-o];have Q:aG (ab (aa 0) ao) [some (.int (p:Nat)),some w.enc,some (.ref d),some (.int (k + 1:Nat)),some (.ref c)] h2=.ok (.ref h2.length) (h2++[.lst [.int (p:Nat)]]):=bn (ak rfl rfl) (by simp[SZ]);have J:aG (dJ (aa 4) (aG (ab (aa 0) ao))) [some (.int (p:Nat)),some w.enc,some (.ref d),some (.int (k + 1:Nat)),some (.ref c)] h2=.ok (.ref (h2++[aS.lst [.int (p:Nat)]]).length) (h2++[.lst [.int (p:Nat)]]++[.lst (NL (l++[p]))]):=by
    refine x4 (bn (kJ rfl Q (aA _ I) ZG (by simp[SZ];omega)) (by simp[SZ];omega)) ?_;rw[kK]
   have y:(h2++[.lst [.int (p:Nat)]]++[.lst (NL (l++[p]))])[d]? = some (.dcT mm):=aA _ (aA _ O);obtain⟨t,m3,g3,q3,K3,T3⟩:=BZ G mn j k (XG hm) (h2++[.lst [.int (p:Nat)]]++[.lst (NL (l++[p]))]) _ _ _ y K ZG (by
    rw[XA];exact⟨cn,by simp,λa ha b hb e=>R (by rw[WE.mp hb]at e;exact e ▸ ha)⟩) (λx N=>(W0.mp N).elim (cs x) λz=>by rw[WE.mp z];exact v) (by rw[ZB,WJ];omega)
   have sb:fL (.int ((k + 1:Nat):Int)) (.int 1) h2=.ok (.int (k:Nat)) h2:=by
    show Res.ok (D.int (((k + 1:Nat):Int) - 1)) h2=_;rw[show ((k + 1:Nat):Int) - 1=(k:Int) by omega]
   refine⟨_,rfl,t,_,ar (ak rfl (ak (aj rfl rfl sb) (bV J rfl))) q3,⟨p,rfl,by rw[yM];exact T3⟩,((eO _ _).trans (eO _ _)).trans (yL y _ _),_,m3,g++([.lst [.int (p:Nat)]]++[.lst (NL (l++[p]))]++g3),rfl,?_,K3⟩;rw[ZU h2,Y8 _ _ X,o,jg T];simp) ⟨none,m1,[],rfl,by rw[lX S,Z6],K1⟩
  rw[ZA]at s;have A:h.set d (.dcT f)++(L++g++[aS.lst ds])=h1.set d (.dcT f)++g++[.lst ds]:=by rw[r,jg F];simp
  refine⟨gR h.length (h1.set d (.dcT f)++g).length,f,L++g++[.lst ds],?_,K',?_⟩
  ·rw[A]
   unfold cu;have t0:tE (ag oEq (aa 1) (fC (.int 0))) [some w.enc,some (.int (k + 1:Nat)),some (.ref c),some (.ref d),none,none] h=.ok false h:=aI (aj rfl rfl (lM (by omega)));exact x4 (bG (σ:=[some w.enc,some (.int (k + 1:Nat)),some (.ref c),some (.ref d),none,none]) rfl rfl (sx (ca t0) (sx (aD (ar (ak rfl (bV rfl rfl)) q)) (sx (aD (bn (cx (dv rfl B) cp) (by rw[s];simp[SZ];omega))) (aR (iK (ak rfl (bV rfl rfl)) (by simp[SZ]))))))) (jK (by simp[pure?,fg]))
  ·rw[A]
   refine⟨_,_,E,ds,rfl,aA _ (aA _ (by rw[ZP (ZN F)];exact B)),ZG,s,C,λi p t' Q J => ?_⟩;obtain⟨p',e3,z⟩:=vt i (.int (p:Nat)) t' (by rw[ZQ,Q];rfl) J;have:p=p':=by have:=D.int.inj e3;omega
   subst this;exact z.keep (eO _ _)
end
theorem HA {g:Option Nat}{all:List D}{tg:GF}{b:SF}{x:D}{xs:List D}{σ':Sd}{h':Hd}{d:D}(a:dH g all h)(t:tg x σ = some σ')(e:b σ' h=.rt d h'):fM g all tg b (x :: xs) σ h=.rt d h':=by
 rw[fM,z4 a,t];simp only[e]
theorem B0 {g:Option Nat}{all:List D}{tg:GF}{b:SF}{x:D}{xs:List D}{σ' a:Sd}{h':Hd}(c:dH g all h)(t:tg x σ = some σ')(e:b σ' h=.nx a h'):fM g all tg b (x :: xs) σ h=fM g all tg b xs a h':=by
 rw[fM,z4 c,t];simp only[e]
theorem qI {a c:Nat}{l k:List D}{b:Bool}(h1:h[a]? = some (.lst l))(h2:h[c]? = some (.lst k))(e:eqL l k=some b):oEq (.ref a) (.ref c) h=.ok (.bl b) h:=by
 simp only[oEq,eqG,dI,h1,h2,e]
section
variable {w:Web} {n:Nat} {hb:Hd} {d K f:Nat}
structure Zo (w:Web) (n d:Nat) (hb:Hd) (z:Nat × List Nat):Prop where
 ne:d≠z.1
 at':hb[z.1]? = some (.lst (NL z.2))
 su:z.2.Sublist (fr w.stays n)
 mn:∀u,u.Sublist (fr w.stays n)->u.length < z.2.length->tb w n u=false
def wy (w:Web) (n:Nat) (h:Hd) (v:List Nat) (t:D):Prop:=(v=[]->t=.non)/\(v≠[]->IsT w n h (v.length - 1) [] t)
theorem Ii (h:l≠[]):eqL (NL l) [] = some false:=by
 cases l with
 | nil=>exact absurd rfl h
 | cons x l =>
  have:ji (NL (x :: l))<=20:=by
   have e:ji (NL (x :: l))=0:=by
    unfold NL
    induction (x :: l) with
    | nil=>rfl
    | cons y l ih=>simp only[yP,ji,dep,ih];rfl
   rw[e];decide
  unfold eqL;rw[z4 this];rfl
theorem FI (G:Go w n)(s:n<=6)(hd:d < hb.length){z:Nat × List Nat}(Z:Zo w n d hb z){mm:List (List Int × D)}(A:Kk w n mm) :
  (tb w n z.2=false/\∃a,f7 [some w.enc,some (.ref f),some (.ref d),some (.ref z.1),none] (hb.set d (.dcT mm))=.nx [some w.enc,some (.ref f),some (.ref d),some (.ref z.1),none] (hb.set d (.dcT a))/\Kk w n a)\/
  (tb w n z.2=true/\∃t a g,f7 [some w.enc,some (.ref f),some (.ref d),some (.ref z.1),none] (hb.set d (.dcT mm))=.rt (.tup [.ref z.1,t]) (hb.set d (.dcT a)++g)/\wy w n (hb.set d (.dcT a)++g) z.2 t):=by
 obtain⟨a,q,r⟩:=BW (h:=hb.set d (.dcT mm)) G (Z.su.trans (sN _ _)) (by rw[ZP Z.ne];exact Z.at') (List.getElem?_set_self hd) A;rw[List.set_set]at q;obtain⟨k,j⟩ : ∃k,k=hb.set d (.dcT a):=⟨_,rfl⟩;have o:k[z.1]? = some (.lst (NL z.2)):=by rw[j,ZP Z.ne];exact Z.at'
 have B:k[d]? = some (.dcT a):=by rw[j];exact List.getElem?_set_self hd
 have C:d < k.length:=by rw[j,YG];exact hd
 rw[<-j]at q;have t:tE (au cQ (ab (aa 0) (ab (aa 3) (ab (aa 2) ao)))) [some w.enc,some (.ref f),some (.ref d),some (.ref z.1),none] (hb.set d (.dcT mm))=.ok (tb w n z.2) k:=aI (ar (ak rfl (bV rfl rfl)) q);cases c:tb w n z.2 with
 | false =>
  rw[c]at t;refine .inl ⟨rfl,a,?_,r⟩;rw[<-j];exact(ca t).trans rfl
 | true =>
  rw[c]at t;refine .inr ⟨rfl,?_⟩;have m:∀(σ:Sd) (h:Hd),aG ao σ h=.ok (.ref h.length) (h++[.lst []]):=λσ h=>bn rfl (by decide)
  by_cases e:z.2=[]
  ·refine⟨.non,a,[.lst []],?_,λ_=>rfl,λz=>absurd e z⟩
   rw[<-j];exact x4 (gX t) (sx (aD (x4 (sd (aI (aj rfl (m _ k) (qI (b:=true) (aA _ o) ZG (by rw[e];rfl))))) rfl)) (aR (iK (bV rfl rfl) (by simp[SZ]))))
  ·have J:z.2.length<=6:=ZM Z.su.length_le (ZM (iV _ _) s)
   have I:z.2.length≠0:=λq=>e (List.length_eq_zero_iff.mp q);obtain⟨v,m3,p,q3,_,l⟩:=BZ G (M:=z.2.length - 1) (λu h1 h2=>Z.mn u h1 (by omega)) 7 (z.2.length - 1) (by omega) (k++[.lst []]++[.lst []]) _ [] _ (aA _ (aA _ B)) r ZG WN (λx y=>by cases y) (wF _);have E:fL (.int ((NL z.2).length:Nat)) (.int 1) (k++[.lst []])=.ok (.int (z.2.length - 1:Nat)) (k++[.lst []]):=by
    rw[ZA];show Res.ok (D.int ((z.2.length:Int) - 1)) _=_;rw[show (z.2.length:Int) - 1=((z.2.length - 1:Nat):Int) by omega]
   have H:(k++[aS.lst []]++[aS.lst []]).set d (.dcT m3)++p=hb.set d (.dcT m3)++([aS.lst [],aS.lst []]++p):=by
    rw[ZU k,Y8 _ _ C,j,List.set_set];simp
   rw[H]at q3 l;have F:srt n [] = []:=List.filter_eq_nil_iff.mpr λi _=>by simp
   rw[F]at l;refine⟨v,m3,[.lst [],.lst []]++p,?_,λz=>absurd z e,λ_=>l⟩;exact x4 (gX t) (sx (aD (x4 (vW (aI (aj rfl (m _ k) (qI (b:=false) (aA _ o) ZG (Ii e))))) (ar (ak rfl (ak (aj (c6 (bQ rfl (aH (aA _ o)))) rfl E) (bV (m _ _) rfl))) q3))) (aR (iK (bV rfl rfl) (by simp[SZ]))))
theorem yN (G:Go w n)(r:n<=6)(hd:d < hb.length){Z:List (Nat × List Nat)}(l:d≠K)(m:hb[K]? = some (.lst (rf Z)))(v:∀z∈Z,d≠z.1)(s:∀z∈Z,hb[z.1]? = some (.lst (NL z.2)))(zs:∀z∈Z,z.2.Sublist (fr w.stays n))(b:Z.Pairwise λx y=>x.2.length<=y.2.length)(mem:∀u,u.Sublist (fr w.stays n)->∃z∈Z,z.2=u) :
  ∀{Zs A:List (Nat × List Nat)} {mm:List (List Int × D)} {y:Option D},Z=A++Zs->(∀x∈A,tb w n x.2=false)->Kk w n mm->
   (∃a i,fM (some K) (rf Z) (gN 3) f7 (rf Zs) [some w.enc,some (.ref f),some (.ref d),y,none] (hb.set d (.dcT mm))=.nx [some w.enc,some (.ref f),some (.ref d),i,none] (hb.set d (.dcT a))/\∀u,u.Sublist (fr w.stays n)->tb w n u=false)\/
   (∃z t a g,z∈Z/\tb w n z.2=true/\Zo w n d hb z/\fM (some K) (rf Z) (gN 3) f7 (rf Zs) [some w.enc,some (.ref f),some (.ref d),y,none] (hb.set d (.dcT mm))=.rt (.tup [.ref z.1,t]) (hb.set d (.dcT a)++g)/\wy w n (hb.set d (.dcT a)++g) z.2 t)
 | [],A,mm,y,e,al,_=>.inl ⟨mm,y,by
   unfold fM;exact z4 (show (hb.set d (.dcT mm))[K]? = _ by rw[ZP l];exact m),λu o=>by
   obtain⟨z,c,rfl⟩:=mem u o;rw[e,Z6]at c;exact al z c⟩
 | z :: Zs,A,mm,y,e,al,K0=>by
  have k:(hb.set d (.dcT mm))[K]? = some (.lst (rf Z)):=by rw[ZP l];exact m
  have c:z∈Z:=by rw[e];exact W0.mpr (.inr (.head _))
  have p:Zo w n d hb z:=⟨v z c,s z c,zs z c,λu o j=>by
   obtain⟨x,h,rfl⟩:=mem u o;rw[e]at h b;rcases W0.mp h with q|q
   ·exact al x q
   ·rcases Y6.mp q with q|q
    ·rw[q]at j;exact absurd j (wD _)
    ·exact absurd ((List.pairwise_cons.mp (List.pairwise_append.mp b).2.1).1 x q) (Nat.not_le_of_lt j)⟩
  rcases FI (f:=f) G r hd p K0 with ⟨z1,mm1,q,K1⟩|⟨z1,t,mm1,g,q,tt⟩
  ·rcases yN G r hd l m v s zs b mem (Zs:=Zs) (A:=A++[z]) (mm:=mm1) (y:=some (.ref z.1)) (by rw[e];simp) (λx h=>(W0.mp h).elim (al x) λq=>by rw[WE.mp q];exact z1) K1 with ⟨a,i,q2,al2⟩|⟨z2,t,a,g,h1,h2,h3,q2,tt⟩
   ·exact .inl ⟨a,i,x4 (B0 k rfl q) q2,al2⟩
   ·exact .inr ⟨z2,t,a,g,h1,h2,h3,x4 (B0 k rfl q) q2,tt⟩
  ·exact .inr ⟨z,t,mm1,g,c,z1,p,HA k rfl q,tt⟩
theorem u7 (G:Go w n)(H:n<=6)(h:Hd) :
  (iO [w.enc] h=.ok .non h/\∀u,u.Sublist (fr w.stays n)->tb w n u=false)\/
  (∃a t g v,iO [w.enc] h=.ok (.tup [.ref a,t]) (h++g)/\(h++g)[a]? = some (.lst (NL v))/\v.Sublist (fr w.stays n)/\tb w n v=true/\wy w n (h++g) v t/\∀u,u.Sublist (fr w.stays n)->u.length < v.length->tb w n u=false):=by
 have R:=G.n8;have Q:=iV w.stays n;obtain⟨h1,c⟩ : ∃h1:Hd,h1=h++[.lst (w.stays.map bq),.lst (NL (fr w.stays n))]:=⟨_,rfl⟩;have l1:h1.length=h.length + 2:=by rw[c];simp
 have s:=sP G.W G.n30 h;rw[<-c]at s;have D:h1[h.length + 1]? = some (.lst (NL (fr w.stays n))):=by rw[c];simp
 have B:rE [some w.enc,some (.ref (h.length + 1)),none,none,none] h1=.ok (.ref (h.length + 2)) (h1++[.dcT []]):=by rw[<-l1];rfl
 obtain⟨g,K,Z,q1,q2,q3,m⟩:=yC (f:=h.length + 1) (fr:=fr w.stays n) (h:=h1++[.dcT []]) (aA _ D) (by omega);obtain⟨hb,i⟩ : ∃hb,hb=h1++[.dcT []]++g:=⟨_,rfl⟩;rw[<-i]at q1 q2 q3;have l:hb[h.length + 2]? = some (.dcT []):=by rw[i];exact aA _ (by rw[<-l1];exact ZG)
 have P:=(List.getElem?_eq_some_iff.mp l).1;have M:h.length + 2≠K:=λe=>by rw[<-e,l]at q2;cases q2
 have E:hb=h++([.lst (w.stays.map bq),.lst (NL (fr w.stays n)),.dcT []]++g):=by rw[i,c];simp
 have C:=lX l;have I:∀z∈Z,h.length + 2≠z.1:=λz j e=>by have:=q3 z j;rw[<-e,l]at this;cases this
 have J:∀z∈Z,z.2.Sublist (fr w.stays n):=λz j=>by
  have:z.2∈Ts.byK (λv:List Nat=>(v.length:Int)) (pK (fr w.stays n)):=by rw[<-m];exact List.mem_map.mpr ⟨z,j,rfl⟩
  exact sM.mp ((Ts.byK_perm _ _).mem_iff.mp this)
 have k:Z.Pairwise λx y=>x.2.length<=y.2.length:=by
  have:=Ts.byK_rises (λv:List Nat=>(v.length:Int)) (pK (fr w.stays n));rw[<-m,YY]at this;exact this.imp λ{a b} z=>by omega
 have st:∀{o:Out},fM (some K) (rf Z) (gN 3) f7 (rf Z) [some w.enc,some (.ref (h.length + 1)),some (.ref (h.length + 2)),none,none] hb=o->fN (d7 (au iN (ab (aa 1) ao))) (gN 3) f7 [some w.enc,some (.ref (h.length + 1)),some (.ref (h.length + 2)),none,none] (h1++[.dcT []])=o:=λ{o} e=>fZ (dv (ar (ak rfl rfl) q1) q2) e;have F:tE (ag oGt (cB (lOf (aa 1))) (fC (.int 9))) [some w.enc,some (.ref (h.length + 1)),none,none,none] h1=.ok false h1:=aI (aj (c6 (bQ rfl (aH D))) rfl (zX (by rw[ZA];omega)));have mem:∀u,u.Sublist (fr w.stays n)->∃z∈Z,z.2=u:=λu O=>by
  have:u∈Z.map (·.2):=by rw[m];exact(Ts.byK_perm _ _).mem_iff.mpr (sM.mpr O)
  obtain⟨z,j,e⟩:=List.mem_map.mp this;exact⟨z,j,e⟩
 rcases yN (f:=h.length + 1) G H P M q2 I q3 J k mem (Zs:=Z) (A:=[]) (mm:=[]) (y:=none) rfl (λx L=>by cases L) ⟨WN,λp N=>by cases N⟩ with ⟨mm',y',q,al⟩|⟨z,t,mm',g',j,z1,zo,q,tt⟩
 ·rw[C]at q
  refine .inl ⟨?_,al⟩;refine x4 (bG (σ:=[some w.enc,none,none,none,none]) rfl rfl (sx (aD (ar (ak rfl rfl) s)) (sx (ca F) (sx (aD B) (sx (st q) (aR rfl)))))) ?_;rw[E,kj rfl];exact cr rfl
 ·rw[C]at q
  have r:hb.set (h.length + 2) (.dcT mm')++g'=h++(([aS.lst (w.stays.map bq),aS.lst (NL (fr w.stays n)),aS.dcT []]++g).set 2 (.dcT mm')++g'):=by rw[E,kj rfl,ZU]
  rw[r]at tt;refine .inr ⟨z.1,t,([aS.lst (w.stays.map bq),aS.lst (NL (fr w.stays n)),aS.dcT []]++g).set 2 (.dcT mm')++g',z.2,?_,?_,zo.su,z1,tt,zo.mn⟩
  ·rw[<-r]
   exact x4 (bG (σ:=[some w.enc,none,none,none,none]) rfl rfl (sx (aD (ar (ak rfl rfl) s)) (sx (ca F) (sx (aD B) (jL (st q)))))) (jK (by simp[pure?,fg]))
  ·rw[<-r]
   exact aA _ (by rw[ZP zo.ne];exact zo.at')
end
theorem sS {a b:EF}{tg:GF}{body:SF}{h1 h2:Hd}{l k:List D}{m:Nat}(p:a σ h=.ok (.ref m) h1)(q:b σ h1=.ok (.ref n) h2)(s:h2[m]? = some (.lst l))(r:h2[n]? = some (.lst k)):rW a b tg body σ h=rq (λh=>dH (some m) l h/\dH (some n) k h) tg body ((l.zip k).map λp=>.tup [p.1,p.2]) σ h2:=by
 simp only[rW,p,q,rV,s,r]
theorem wz {ds:List D}{i:Nat}{x:D}(h:(((NL lf).zip ds).map λp=>D.tup [p.1,p.2])[i]? = some x):∃(p:Nat) (t:D),lf[i]? = some p/\ds[i]? = some t/\x=.tup [.int (p:Nat),t]:=by
 rw[ZQ]at h;cases c:((NL lf).zip ds)[i]? with
 | none=>rw[c]at h;cases h
 | some y =>
  rw[c]at h;obtain⟨u,v⟩:=y;obtain⟨h1,h2⟩:=List.getElem?_zip_eq_some.mp c;rw[ZQ]at h1;cases e:lf[i]? with
  | none=>rw[e]at h1;cases h1
  | some p =>
   rw[e]at h1;cases h1;cases h;exact⟨p,v,rfl,h2,rfl⟩
theorem lY {k:Nat}(a:h[k]? = some (.lst (NL l)))(i:Nat):bY (.int (i:Nat)) (.ref k) h=.ok (.bl (!decide (i∈l))) h:=by
 have:=uX a i;unfold oIn at this;unfold bY;cases c:inL h (.int (i:Nat)) (.ref k) with
 | none=>rw[c]at this;cases this
 | some b=>rw[c]at this;cases this;rfl
theorem oC {k:Nat}{L:List Nat}{t:TF}{s:Sd}(p:Nat->Bool)(b:h[k]? = some (.lst (NL L)))(ht:∀i∈L,t (some (.int (i:Nat)) :: s) h=.ok (p i) h):bR (some k) (NL L) (gN 0) [t] (aa 0) (NL L) (none :: s) h=.ok (NL (L.filter p)) h:=by
 have:=bT (g:=some k) (all:=NL L) (tg:=gN 0) (cs:=[t]) (e:=aa 0) (h:=h) (I:=λσ=>∃a,σ = a :: s) (λd=>match d with | .int i=>p i.toNat|_=>false) (λd=>d) b (xs:=NL L) (σ:=none :: s) (by
  rintro x c σ ⟨a,rfl⟩;obtain⟨i,hi,rfl⟩:=List.mem_map.mp c;exact⟨_,rfl,⟨_,rfl⟩,jM (ht i hi),λ_=>rfl⟩) ⟨_,rfl⟩
 rw[this,List.map_id',WZ];rfl
theorem B3:∀l:List Nat,ji (NL l)=0
 | []=>rfl
 | y :: l=>by
  show max (dep (.int (y:Nat))) (ji (NL l))=0;rw[B3 l];rfl
theorem B4:∀l:List Nat,gS (NL l) (NL l)=some true
 | []=>rfl
 | y :: l=>by
  have a:=B4 l;unfold NL at a ⊢;simp only[yP,gS,peq,a];simp
theorem B5 {a b:Nat}(h1:h[a]? = some (.lst (NL l)))(h2:h[b]? = some (.lst (NL l))):oNe (.ref a) (.ref b) h=.ok (.bl false) h:=by
 have e:eqL (NL l) (NL l)=some true:=by
  unfold eqL;rw[B3,z4 (by decide),z4 rfl,B4]
 simp only[oNe,eqG,dI,h1,h2,e];rfl
theorem vc (u:l.Pairwise (· < ·)):(fB (er (kyL l))).map D.int=NL l:=by
 have d:(kyL l).Nodup:=by
  unfold kyL;rw[WO,YY];exact u.imp λ{a b} h e=>absurd (Int.ofNat.inj e) (ZN h)
 have e:fB (er (kyL l))=kyL l:=by
  have c:(kyL l).Perm (er (kyL l)):=(List.perm_ext_iff_of_nodup d (xV _)).mpr λx=>(Cz _ _).symm;refine(oY c ?_).symm;unfold kyL;rw[YY];exact u.imp λ{a b} h=>by omega
 rw[e];unfold kyL NL;rw[wC];rfl
section
variable {Z n:Nat} {M:Nat->Nat->Int} {bs:List Int} {ss:List (Option Int)} {bk sk:Nat} {T:List Tie} {w:Web} {td:D}
def HI (td t:D) (m c k:Nat) (h1:Hd) (_:Nat) (σ:Sd) (h':Hd):Prop:=∃x y g,σ = [some td,some (.int (m:Nat)),some t,some (.ref c),some (.ref k),x,y]/\h'=h1++g
theorem sT (G:Go w n):∀j m:Nat,m < j->∀(h:Hd) (c:Nat) (s:List Nat) (t:D),Lw Z n M bs ss bk sk T w td h->h[c]? = some (.lst (NL s))->(∀x∈s,x∈chL w.stays n)->s.length + m<=100->IsT w n h m (srt n s) t->cS j [td,.int (m:Nat),t,.ref c] h=.ok (.bl true) h
 | 0,m,hm,_,_,_,_,_,_,_,_,_=>absurd hm (YB m)
 | j + 1,0,_,h,c,s,t,l,hc,cs,_,⟨e,tf⟩=>by
  subst e;have tt:=iU G l (gj (kM cs)) (λi hi=>⟨λz=>cK.mpr ⟨hi,z⟩,λz=>(cK.mp z).2⟩) hc;rw[tf]at tt;unfold cS;exact x4 (bG (σ:=[some td,some (.int (0:Nat)),some AM,some (.ref c),none,none,none]) rfl rfl (jL (x4 (gX (aI (aj (aF (i:=0) rfl rfl rfl rfl) rfl rfl))) (aR (kT (kh (aI (aj rfl rfl rfl)) (bU (b:=false) (aI (ar (bV rfl rfl) tt))))))))) a0
 | j + 1,k + 1,hm,h,c,s,t,l,hc,cs,cl,⟨a,b,lf,ds,e,ha,hb,dl,pg,sub⟩=>by
  subst e;have ws:w.stays=ss:=by rw[l.w'];rfl
  have lc:∀x∈lf,x∈chL w.stays n:=λx L=>kW (pg.su.subset L);have lu:lf.Pairwise (· < ·):=(yJ _ _).sublist pg.su;have ll:lf.length<=8:=ZM pg.su.length_le (ZM (iV _ _) G.n8);have U:=jf l G.n30;rw[<-ws]at U;obtain⟨h1,A⟩ : ∃h1,h1=h++[aS.lst (NL (chL w.stays n))]:=⟨_,rfl⟩;rw[<-A]at U;have E:∀{g:Hd} {i:Nat} {x:aS},h[i]? = some x->(h1++g)[i]? = some x:=λ{g i x} e=>by rw[A];exact aA _ (aA _ e)
  have W:∀{g:Hd},(h1++g)[h.length]? = some (.lst (NL (chL w.stays n))):=λ{g}=>by rw[A];exact aA _ ZG
  have l1:∀g:Hd,Lw Z n M bs ss bk sk T w td (h1++g):=λg=>by rw[A];exact(l.more _).more _
  have cA:bR (some a) (NL lf) (gN 0) [tOr (tE (ag oIn (aa 0) (aa 1))) (tE (ag bY (aa 0) (aa 2)))] (aa 0) (NL lf) [none,some (.ref c),some (.ref h.length)] (h1++[])=.ok (NL (lf.filter λ_=>false)) (h1++[]):=oC (λ_=>false) (E ha) λi hi=>by
   have n1:i∉s:=λz=>pg.no i hi (cK.mpr ⟨(oA.mp (lc i hi)).1,z⟩);have x1:tE (ag oIn (aa 0) (aa 1)) [some (.int (i:Nat)),some (.ref c),some (.ref h.length)] (h1++[])=.ok false (h1++[]):=aI (aj rfl rfl (by rw[uX (E hc),y3 n1]));exact eE x1 (aI (aj rfl rfl (by rw[lY W,yQ (lc i hi)];rfl)))
  rw[List.filter_eq_nil_iff.mpr (λ_ _=>by decide),Z6]at cA;obtain⟨d,f⟩ : ∃d:Sd,d=[some td,some (.int (k + 1:Nat)),some (gR a b),some (.ref c),some (.ref h.length),none,none]:=⟨_,rfl⟩;have nA:aG (bL 1 [3,4] (d7 (fAt (aa 2) (fC (.int 1)))) (gN 0) [(tOr (tE (ag oIn (aa 0) (aa 1))) (tE (ag bY (aa 0) (aa 2))))] (aa 0)) d h1=.ok (.ref h1.length) (h1++[.lst (NL [])]):=by
   rw[f];exact bn (cx (dv (aF rfl rfl rfl rfl) (by have:=E (g:=[]) ha;rwa[Z6]at this)) cA) (by decide)
  have nB:aG ao d (h1++[.lst (NL [])])=.ok (.ref (h1++[aS.lst (NL [])]).length) (h1++[.lst (NL [])]++[.lst (NL [])]):=bn rfl (by decide);obtain⟨h2,K⟩ : ∃h2,h2=h1++[aS.lst (NL [])]++[aS.lst (NL [])]:=⟨_,rfl⟩;have tA:tE (ag oNe (aG (bL 1 [3,4] (d7 (fAt (aa 2) (fC (.int 1)))) (gN 0) [(tOr (tE (ag oIn (aa 0) (aa 1))) (tE (ag bY (aa 0) (aa 2))))] (aa 0))) (aG ao)) d h1=.ok false h2:=by
   rw[K];exact aI (aj nA nB (B5 (aA _ ZG) ZG))
  have S:h2=h1++([aS.lst (NL [])]++[aS.lst (NL [])]):=by rw[K,ZU]
  have O:h2[a]? = some (.lst (NL lf)):=by rw[S];exact E ha
  have so:aG (gE (fAt (aa 2) (fC (.int 1)))) d h2=.ok (.ref h2.length) (h2++[.lst (NL lf)]):=by
   refine bn ?_ (by rw[ZA];exact ZM ll (by decide));have q:fAt (aa 2) (fC (.int 1)) d h2=.ok (.ref a) h2:=by rw[f];exact aF rfl rfl rfl rfl
   unfold gE;rw[q];simp only[aW,dI,O,eM];rw[z4 (by simp[kyL];omega),vc lu]
  have tB:tE (ag oNe (fAt (aa 2) (fC (.int 1))) (aG (gE (fAt (aa 2) (fC (.int 1)))))) d h2=.ok false (h2++[.lst (NL lf)]):=by
   refine aI (aj (x:=.ref a) ?_ so (B5 (aA _ O) ZG));rw[f];exact aF rfl rfl rfl rfl
  obtain⟨B,N⟩ : ∃B,B=h2++[aS.lst (NL lf)]:=⟨_,rfl⟩;rw[<-N]at tB;have Q:B=h1++([aS.lst (NL [])]++[aS.lst (NL [])]++[aS.lst (NL lf)]):=by rw[N,S,ZU]
  have Y:B[a]? = some (.lst (NL lf)):=by rw[Q];exact E ha
  have cR:bR (some h.length) (NL (chL w.stays n)) (gN 0) [tE (ag bY (aa 0) (fAt (aa 1) (fC (.int 1))))] (aa 0) (NL (chL w.stays n)) [none,some (gR a b)] B=.ok (NL (cT w.stays n lf)) B:=oC (λx => !decide (x∈lf)) (by rw[Q];exact W) λi _=>aI (aj rfl (aF rfl rfl rfl rfl) (lY Y i));have rl:(cT w.stays n lf).length<=8:=ZM (YO _ _) (ZM (oz _ _) G.n8);have nR:aG (bL 1 [2] (d7 (aa 4)) (gN 0) [(tE (ag bY (aa 0) (fAt (aa 1) (fC (.int 1)))))] (aa 0)) d B=.ok (.ref B.length) (B++[.lst (NL (cT w.stays n lf))]):=by
   rw[f];exact bn (cx (dv rfl (by rw[Q];exact W)) cR) (by rw[ZA];exact ZM rl (by decide))
  obtain⟨r,I⟩ : ∃r,r=B++[aS.lst (NL (cT w.stays n lf))]:=⟨_,rfl⟩;have J:r=h1++([aS.lst (NL [])]++[aS.lst (NL [])]++[aS.lst (NL lf)]++[aS.lst (NL (cT w.stays n lf))]):=by rw[I,Q,ZU]
  have l4:Lw Z n M bs ss bk sk T w td r:=by rw[J];exact l1 _
  have tr:=iU G l4 (gj (w:=w) (n:=n) (v:=cT w.stays n lf) List.filter_sublist) (λi _=>Iff.rfl) (show r[B.length]? = some (.lst (NL (cT w.stays n lf))) by rw[I];exact ZG);rw[pg.re]at tr;have tC:tE (au bX (ab (aa 0) (ab (aG (bL 1 [2] (d7 (aa 4)) (gN 0) [(tE (ag bY (aa 0) (fAt (aa 1) (fC (.int 1)))))] (aa 0))) ao))) d B=.ok false r:=by
   rw[<-I]at nR;refine aI (ar (bV ?_ nR) tr);rw[f];rfl
  have F:r[a]? = some (.lst (NL lf)):=by rw[J];exact E ha
  have H:r[b]? = some (.lst ds):=by rw[J];exact E hb
  have tD:tE (ag oNe (cB (lOf (fAt (aa 2) (fC (.int 1))))) (cB (lOf (fAt (aa 2) (fC (.int 2)))))) d r=.ok false r:=by
   rw[f];exact aI (aj (c6 (bQ (aF rfl rfl rfl rfl) (aH F))) (c6 (bQ (aF rfl rfl rfl rfl) (aH H))) (by rw[ZA,dl,o6,yQ rfl];rfl))
  obtain⟨_,_,k1,x,y,g,rfl,rfl⟩:=mf (P:=HI td (gR a b) (k + 1) c h.length r) (G:=λh=>dH (some a) (NL lf) h/\dH (some b) ds h) (tg:=gT [5,6]) (b:=nh (cS j)) (λ_ _ _ p=>by
   obtain⟨_,_,_,_,rfl⟩:=p;exact⟨aA _ F,aA _ H⟩) (xs:=((NL lf).zip ds).map λp=>.tup [p.1,p.2]) (k:=0) (σ:=[some td,some (.int (k + 1:Nat)),some (gR a b),some (.ref c),some (.ref h.length),none,none]) (h:=r) (by
   rintro i x _ _ L ⟨u,v,g,rfl,rfl⟩;obtain⟨p,R,p1,p2,rfl⟩:=wz L;have pm:p∈lf:=ZK p1;obtain⟨o,C⟩ : ∃o,o=r++g:=⟨_,rfl⟩;rw[<-C];have e5:∀V,o++V=h++([aS.lst (NL (chL w.stays n))]++([aS.lst (NL [])]++[aS.lst (NL [])]++[aS.lst (NL lf)]++[aS.lst (NL (cT w.stays n lf))])++g++V):=λV=>by rw[C,J,A];simp
   have X:o[c]? = some (.lst (NL s)):=by rw[C,J];exact aA _ (E hc)
   have e1:aG (ab (aa 5) ao) [some td,some (.int (k + 1:Nat)),some (gR a b),some (.ref c),some (.ref h.length),some (.int (p:Nat)),some R] o=.ok (.ref o.length) (o++[.lst [.int (p:Nat)]]):=bn (ak rfl rfl) (by simp[SZ]);have S:aG (dJ (aa 3) (aG (ab (aa 5) ao))) [some td,some (.int (k + 1:Nat)),some (gR a b),some (.ref c),some (.ref h.length),some (.int (p:Nat)),some R] o=.ok (.ref (o++[aS.lst [.int (p:Nat)]]).length) (o++[.lst [.int (p:Nat)]]++[.lst (NL (s++[p]))]):=by
    refine x4 (bn (kJ rfl e1 (aA _ X) ZG (by simp[SZ];omega)) (by simp[SZ];omega)) ?_;rw[kK]
   have kk:nu h (o++[.lst [.int (p:Nat)]]++[.lst (NL (s++[p]))]):=by rw[ZU,e5];exact eO _ _
   have ih:=sT G j k (XG hm) (o++[.lst [.int (p:Nat)]]++[.lst (NL (s++[p]))]) _ (s++[p]) R (by rw[ZU,e5];exact l.more _) ZG (λx L=>(W0.mp L).elim (cs x) λz=>by rw[WE.mp z];exact lc p pm) (by rw[ZB,WJ];omega) (by have:=(sub i p R p1 p2).keep kk;rwa[yM]at this);have sb:fL (.int ((k + 1:Nat):Int)) (.int 1) o=.ok (.int (k:Nat)) o:=by
    show Res.ok (D.int (((k + 1:Nat):Int) - 1)) o=_;rw[show ((k + 1:Nat):Int) - 1=(k:Int) by omega]
   refine⟨_,rfl,_,_,x4 (ca (bU (b:=true) (aI (ar (ak rfl (ak (aj rfl rfl sb) (bV rfl S))) ih)))) rfl,_,_,g++([.lst [.int (p:Nat)]]++[.lst (NL (s++[p]))]),rfl,by rw[C];simp⟩) ⟨none,none,[],rfl,by simp⟩
  have sF:=sS (a:=fAt (aa 2) (fC (.int 1))) (b:=fAt (aa 2) (fC (.int 2))) (tg:=gT [5,6]) (body:=nh (cS j)) (σ:=[some td,some (.int (k + 1:Nat)),some (gR a b),some (.ref c),some (.ref h.length),none,none]) (h:=r) (aF rfl rfl rfl rfl) (aF rfl rfl rfl rfl) F H;rw[k1]at sF;rw[f]at tA tB tC tD;unfold cS;refine x4 (bG (σ:=[some td,some (.int (k + 1:Nat)),some (gR a b),some (.ref c),none,none,none]) rfl rfl (sx (ca (aI (aj (aF (i:=0) rfl rfl rfl rfl) rfl rfl))) (sx (ca (aI (aj rfl rfl (lM (by omega))))) (sx (aD (ar (ak rfl rfl) U)) (sx (ca (eE tA tB)) (sx (ca (eE tC tD)) (sx sF (aR rfl)))))))) ?_;rw[J,A,ZU,ZU];exact cr rfl
end
section
variable {Z n:Nat} {M:Nat->Nat->Int} {bs:List Int} {ss:List (Option Int)} {bk sk:Nat} {T:List Tie} {w:Web} {td:D}
def NrI (td t:D) (k:Nat) (h1:Hd) (_:Nat) (σ:Sd) (h':Hd):Prop:=∃x y g,σ = [some td,some t,some (.ref k),x,y]/\h'=h1++g
theorem qh (G:Go w n):∀j m:Nat,m < j->∀(h:Hd) (S:List Nat) (t:D),Lw Z n M bs ss bk sk T w td h->IsT w n h m S t->bE j [td,t] h=.ok (.bl true) h
 | 0,m,hm,_,_,_,_,_=>absurd hm (YB m)
 | j + 1,0,_,h,S,t,l,⟨e,tf⟩=>by
  subst e;unfold bE;exact x4 (bG (σ:=[some td,some AM,none,none,none]) rfl rfl (jL (x4 (gX (aI (aj (aF (i:=0) rfl rfl rfl rfl) rfl rfl))) (aR rfl)))) a0
 | j + 1,k + 1,hm,h,S,t,l,⟨a,b,lf,ds,e,ha,hb,dl,pg,sub⟩=>by
  subst e;have Y:w.stays=ss:=by rw[l.w'];rfl
  have lc:∀x∈lf,x∈chL w.stays n:=λx J=>kW (pg.su.subset J);have H:=jf l G.n30;rw[<-Y]at H;obtain⟨h1,d⟩ : ∃h1,h1=h++[aS.lst (NL (chL w.stays n))]:=⟨_,rfl⟩;rw[<-d]at H;have O:h1[h.length]? = some (.lst (NL (chL w.stays n))):=by rw[d];exact ZG
  have E:h1[a]? = some (.lst (NL lf)):=by rw[d];exact aA _ ha
  have cR:bR (some h.length) (NL (chL w.stays n)) (gN 0) [tE (ag bY (aa 0) (fAt (aa 1) (fC (.int 1))))] (aa 0) (NL (chL w.stays n)) [none,some (gR a b)] h1=.ok (NL (cT w.stays n lf)) h1:=oC (λx => !decide (x∈lf)) O λi _=>aI (aj rfl (aF rfl rfl rfl rfl) (lY E i));have rl:(cT w.stays n lf).length<=8:=ZM (YO _ _) (ZM (oz _ _) G.n8);have N:aG (bL 1 [1] (d7 (au cj (ab (aa 0) ao))) (gN 0) [(tE (ag bY (aa 0) (fAt (aa 1) (fC (.int 1)))))] (aa 0)) [some td,some (gR a b),none,none,none] h=.ok (.ref h1.length) (h1++[.lst (NL (cT w.stays n lf))]):=bn (cx (dv (ar (ak rfl rfl) H) O) cR) (by rw[ZA];exact ZM rl (by decide));obtain⟨o,f⟩ : ∃o,o=h1++[aS.lst (NL (cT w.stays n lf))]:=⟨_,rfl⟩;rw[<-f]at N;have X:∀g,o++g=h++([aS.lst (NL (chL w.stays n))]++[aS.lst (NL (cT w.stays n lf))]++g):=λg=>by rw[f,d];simp
  have B:o[a]? = some (.lst (NL lf)):=by rw[f];exact aA _ E
  have C:o[b]? = some (.lst ds):=by rw[f,d];exact aA _ (aA _ hb)
  have K:o[h1.length]? = some (.lst (NL (cT w.stays n lf))):=by rw[f];exact ZG
  obtain⟨_,_,k1,x,y,g,rfl,rfl⟩:=mf (P:=NrI td (gR a b) h1.length o) (G:=λh=>dH (some a) (NL lf) h/\dH (some b) ds h) (tg:=gT [3,4]) (b:=iQ (bE j)) (λ_ _ _ p=>by
   obtain⟨_,_,_,_,rfl⟩:=p;exact⟨aA _ B,aA _ C⟩) (xs:=((NL lf).zip ds).map λp=>.tup [p.1,p.2]) (k:=0) (σ:=[some td,some (gR a b),some (.ref h1.length),none,none]) (h:=o) (by
   rintro i x _ _ J ⟨u,v,g,rfl,rfl⟩;obtain⟨p,F,Q,p2,rfl⟩:=wz J;have W:p∈lf:=ZK Q;obtain⟨q,r⟩ : ∃q,q=o++g:=⟨_,rfl⟩;rw[<-r];have I:q[h1.length]? = some (.lst (NL (cT w.stays n lf))):=by rw[r];exact aA _ K
   obtain⟨A,s⟩ : ∃A,A=q++[aS.lst [.int (p:Nat)]]++[aS.lst (NL (cT w.stays n lf++[p]))]:=⟨_,rfl⟩;have U:A=h++([aS.lst (NL (chL w.stays n))]++[aS.lst (NL (cT w.stays n lf))]++(g++[aS.lst [.int (p:Nat)]]++[aS.lst (NL (cT w.stays n lf++[p]))])):=by rw[s,r,<-X];simp
   have e1:aG (ab (aa 3) ao) [some td,some (gR a b),some (.ref h1.length),some (.int (p:Nat)),some F] q=.ok (.ref q.length) (q++[.lst [.int (p:Nat)]]):=bn (ak rfl rfl) (by simp[SZ]);have e2:aG (dJ (aa 2) (aG (ab (aa 3) ao))) [some td,some (gR a b),some (.ref h1.length),some (.int (p:Nat)),some F] q=.ok (.ref (q++[aS.lst [.int (p:Nat)]]).length) A:=by
    rw[s];refine x4 (bn (kJ rfl e1 (aA _ I) ZG (by simp[SZ];omega)) (by simp[SZ];omega)) ?_;rw[kK]
   have V:Lw Z n M bs ss bk sk T w td A:=by rw[U];exact l.more _
   have R:=iU G V (c:=srt n (p :: cT w.stays n lf)) (c0:=cT w.stays n lf++[p]) (gj (kM λy hy=>by
    rcases Y6.mp hy with z|z
    ·rw[z];exact lc p W
    ·exact(jE.mp z).1)) (λi hi=>by
    rw[cK,Y6,W0,WE];exact⟨λz=>⟨hi,z.symm⟩,λz=>z.2.symm⟩) (k:=(q++[aS.lst [.int (p:Nat)]]).length) (by rw[s];exact ZG)
   rw[pg.na p W]at R;have kk:nu h A:=by rw[U];exact eO _ _
   have ih:=qh G j k (XG hm) A _ F V ((sub i p F Q p2).keep kk);refine⟨_,rfl,_,_,x4 (ca (eE (bU (b:=true) (aI (ar (bV rfl e2) R))) (bU (b:=true) (aI (ar (bV rfl rfl) ih))))) rfl,_,_,g++([.lst [.int (p:Nat)]]++[.lst (NL (cT w.stays n lf++[p]))]),rfl,by rw[s,r];simp⟩) ⟨none,none,[],rfl,by simp⟩
  have L:=sS (a:=fAt (aa 1) (fC (.int 1))) (b:=fAt (aa 1) (fC (.int 2))) (tg:=gT [3,4]) (body:=iQ (bE j)) (σ:=[some td,some (gR a b),some (.ref h1.length),none,none]) (h:=o) (aF rfl rfl rfl rfl) (aF rfl rfl rfl rfl) B C;rw[k1]at L;unfold bE;refine x4 (bG (σ:=[some td,some (gR a b),none,none,none]) rfl rfl (sx (ca (aI (aj (aF (i:=0) rfl rfl rfl rfl) rfl rfl))) (sx (aD N) (sx L (aR rfl))))) ?_;rw[X];exact cr rfl
end
section
variable {w:Web} {n d:Nat}
theorem sU {g:Hd}{mm a:List (List Int × D)}{b:Bool}(hd:h[d]? = some (.dcT mm))(K:Kk w n a):letGo h (.ok (.bl b) (h.set d (.dcT a)++g))=.ok (.bl b) (h.set d (.dcT a)):=by
 have f:=(List.getElem?_eq_some_iff.mp hd).1;refine uK rfl (by simp) λi c hi hc => ?_;rw[ZC (by simpa using hi)]at hc
 by_cases e:d=i
 ·subst e
  rw[List.getElem?_set_self f]at hc;cases hc;exact .inr K.pu
 ·rw[ZP e]at hc
  exact .inl hc
theorem AN (W:w.Ok n)(hp:p < n)(h:Hd):bj [w.enc,.int (p:Nat)] h=.ok (.bl (decide (w.stays.getD p none≠some 0))) h:=by
 have s:dY [w.enc,.int (p:Nat)] h=.ok (bq (w.stays.getD p none)) h:=(bG rfl rfl (aR (aF (aF rfl rfl rfl rfl) rfl rfl (Ic W hp)))).trans a0;exact(bG rfl rfl (aR (kT (kh (aI (ar (bV rfl rfl) (uY W hp h))) (aI (aj (ar (bV rfl rfl) s) rfl (wo _ _))))))).trans a0
theorem J8 {α : Type}(l:List α):fP (l.map λ_=>D.bl false)=some (l.map λ_=>false):=by
 induction l with
 | nil=>rfl
 | cons x l ih=>simp[fP,ih]
theorem MD {α : Type}(l:List α):(l.map λ_=>false).any id=false:=by simp
theorem Dj (W:w.Ok n){a:Nat}(j:h[a]? = some (.lst (NL lf))):bR none ((List.range n).map λk:Nat=>D.int k) (gN 0) [(jF (tE (au bj (ab (aa 1) (ab (aa 0) ao)))) (tE (ag bY (aa 0) (aa 2))))] (aa 0) ((List.range n).map λk:Nat=>D.int k) [none,some w.enc,some (.ref a)] h=.ok (NL (cT w.stays n lf)) h:=by
 have:=bT (g:=none) (all:=(List.range n).map λk:Nat=>D.int k) (tg:=gN 0) (cs:=[(jF (tE (au bj (ab (aa 1) (ab (aa 0) ao)))) (tE (ag bY (aa 0) (aa 2))))]) (e:=aa 0) (h:=h) (I:=λσ=>∃x,σ = [x,some w.enc,some (.ref a)]) (λd=>match d with | .int i=>decide (w.stays.getD i.toNat none≠some 0) && !decide (i.toNat∈lf)|_=>false) (λd=>d) trivial (xs:=(List.range n).map λk:Nat=>D.int k) (σ:=[none,some w.enc,some (.ref a)]) (by
  rintro x l σ ⟨y,rfl⟩;obtain⟨i,hi,rfl⟩:=List.mem_map.mp l;have hi:=List.mem_range.mp hi;refine⟨_,rfl,⟨_,rfl⟩,jM ?_,λ_=>rfl⟩;have b:tE (au bj (ab (aa 1) (ab (aa 0) ao))) [some (.int (i:Nat)),some w.enc,some (.ref a)] h=.ok (decide (w.stays.getD i none≠some 0)) h:=aI (ar (bV rfl rfl) (AN W hi h));have f:tE (ag bY (aa 0) (aa 2)) [some (.int (i:Nat)),some w.enc,some (.ref a)] h=.ok (!decide (i∈lf)) h:=aI (aj rfl rfl (lY j i));show _=Res.ok (decide (w.stays.getD i none≠some 0) && !decide (i∈lf)) h;cases c:decide (w.stays.getD i none≠some 0) with
  | true=>rw[c]at b;exact kh b f
  | false=>rw[c]at b;exact vV b) ⟨_,rfl⟩
 rw[this,List.map_id',WZ];unfold cT chL;rw[List.filter_filter];congr 2;refine List.filter_congr λi _ => ?_;show (decide (w.stays.getD i none≠some 0) && !decide (i∈lf))=(!decide (i∈lf) && decide (w.stays.getD i none≠some 0));rw[Bool.and_comm]
theorem FJ (G:Go w n){a b c:Nat}{S:List Nat}{ds:List D}{mm:List (List Int × D)}(hd:h[d]? = some (.dcT mm))(K:Kk w n mm)(j:h[a]? = some (.lst (NL lf)))(u:h[b]? = some (.lst ds))(v:ds.length=lf.length)(hc:h[c]? = some (.lst (NL S)))(pg:PG w n lf S) :
  ∃f,eR [w.enc,.ref a,.ref b,.ref c,.ref d] h=.ok (.bl true) (h.set d (.dcT f))/\Kk w n f:=by
 have o:=(List.getElem?_eq_some_iff.mp hd).1;have C:Ch w n lf:=gj (pg.su.trans (sN _ _));have s:(cT w.stays n lf).length<=8:=ZM (YO _ _) (ZM (oz _ _) G.n8);have z:=oy G.W G.n30 C j;have m:cE [w.enc] h=.ok (.int n) h:=by rw[i8,G.W.t]
 have A:=G.n8;have t:bR (some a) (NL lf) (gN 0) [] (ag oIn (aa 0) (aa 1)) (NL lf) [none,some (.ref c)] h=.ok ((NL lf).map λ_=>D.bl false) h:=by
  have:=bT (g:=some a) (all:=NL lf) (tg:=gN 0) (cs:=[]) (e:=ag oIn (aa 0) (aa 1)) (h:=h) (I:=λσ=>∃x,σ = [x,some (.ref c)]) (λ_=>true) (λ_=>.bl false) j (xs:=NL lf) (σ:=[none,some (.ref c)]) (by
   rintro x r σ ⟨y,rfl⟩;obtain⟨i,hi,rfl⟩:=List.mem_map.mp r;exact⟨_,rfl,⟨_,rfl⟩,rfl,λ_=>aj rfl rfl (by rw[uX hc,y3 (pg.no i hi)])⟩) ⟨_,rfl⟩
  rw[this,List.filter_eq_self.mpr (λ_ _=>rfl)]
 have tA:tE (GX (bL 1 [3] (d7 (aa 1)) (gN 0) [] (ag oIn (aa 0) (aa 1)))) [some w.enc,some (.ref a),some (.ref b),some (.ref c),some (.ref d),none] h=.ok false h:=by
  refine aI ?_;have e:=cx (nl:=1) (caps:=[3]) (σ:=[some w.enc,some (.ref a),some (.ref b),some (.ref c),some (.ref d),none]) (dv (a:=aa 1) rfl j) t;unfold GX;rw[e];simp only[aW,J8,MD]
 have p:aG (bL 1 [0,1] (bK (au cE (ab (aa 0) ao))) (gN 0) [(jF (tE (au bj (ab (aa 1) (ab (aa 0) ao)))) (tE (ag bY (aa 0) (aa 2))))] (aa 0)) [some w.enc,some (.ref a),some (.ref b),some (.ref c),some (.ref d),none] h=.ok (.ref h.length) (h++[.lst (NL (cT w.stays n lf))]):=bn (cx (c7 (ar (ak rfl rfl) m) (by omega)) (Dj G.W j)) (by rw[ZA];exact ZM s (by decide));obtain⟨f,q,l⟩:=BW G (List.filter_sublist:(cT w.stays n lf).Sublist (chL w.stays n)) (h:=h++[aS.lst (NL (cT w.stays n lf))]) (k:=h.length) ZG (aA _ hd) K;have q:cQ [w.enc,.ref h.length,.ref d] (h++[aS.lst (NL (cT w.stays n lf))])=.ok (.bl (tb w n (cT w.stays n lf))) ((h++[aS.lst (NL (cT w.stays n lf))]).set d (.dcT f)):=q;rw[pg.re,Y8 _ _ o]at q;refine⟨f,?_,l⟩;refine x4 (bG (σ:=[some w.enc,some (.ref a),some (.ref b),some (.ref c),some (.ref d),none]) rfl rfl (sx (ca (eE (bU (b:=true) (aI (ar (bV rfl rfl) z))) (aI (aj (c6 (bQ rfl (aH u))) (c6 (bQ rfl (aH j))) (by rw[ZA,v,o6,yQ rfl];rfl))))) (sx (ca tA) (sx (aD p) (aR (kT (bU (b:=false) (aI (ar (ak rfl (bV rfl rfl)) q))))))))) ?_;exact sU hd l
def PI7 (w:Web) (n d m c:Nat) (t:D) (h1:Hd) (_:Nat) (σ:Sd) (h':Hd):Prop:=∃x y mm g,σ = [some w.enc,some (.int (m:Nat)),some t,some (.ref c),some (.ref d),x,y]/\h'=h1.set d (.dcT mm)++g/\Kk w n mm
theorem wA {S:List Nat}{n:Nat}:(srt n (p :: S)).length<=n:=by
 have:=YO (λi=>decide (i∈p :: S)) (List.range n);rwa[ZO]at this
theorem yO (G:Go w n):∀j m:Nat,m < j->∀(h:Hd) (c:Nat) (S:List Nat) (t:D) (mm:List (List Int × D)),h[d]? = some (.dcT mm)->Kk w n mm->h[c]? = some (.lst (NL S))->S.Sublist (chL w.stays n)->IsT w n h m S t->∃o,bP j [w.enc,.int (m:Nat),t,.ref c,.ref d] h=.ok (.bl true) (h.set d (.dcT o))/\Kk w n o
 | 0,m,hm,_,_,_,_,_,_,_,_,_,_=>absurd hm (YB m)
 | j + 1,0,_,h,c,S,t,mm,hd,K,hc,su,⟨e,tf⟩=>by
  subst e;obtain⟨o,q,H⟩:=BW G su hc hd K;rw[tf]at q;refine⟨o,?_,H⟩;unfold bP;have te:oEq AM AM h=.ok (.bl true) h:=rfl;exact x4 (bG (σ:=[some w.enc,some (.int (0:Nat)),some AM,some (.ref c),some (.ref d),none,none]) rfl rfl (jL (x4 (gX (aI (aj rfl rfl rfl))) (aR (kT (kh (aI (aj rfl (iK (ak rfl rfl)) te)) (bU (b:=false) (aI (ar (ak rfl (bV rfl rfl)) q))))))))) CP
 | j + 1,k + 1,hm,h,c,S,t,mm,hd,K,hc,su,⟨a,b,lf,ds,e,E,F,dl,pg,sub⟩=>by
  subst e;obtain⟨m1,q1,Y⟩:=FJ G hd K E F dl hc pg;have R:=(List.getElem?_eq_some_iff.mp hd).1;have lc:∀x∈lf,x∈chL w.stays n:=λx J=>kW (pg.su.subset J);have Sl:S.length<=8:=ZM su.length_le (ZM (oz _ _) G.n8);have n8:=G.n8;have C:∀(x:aS) (g:Hd),nu h (h.set d x++g):=λx g=>yL hd x g;obtain⟨_,_,k1,x,y,o,g,rfl,rfl,H⟩:=mf (P:=PI7 w n d (k + 1) c (gR a b) h) (G:=λh=>dH (some a) (NL lf) h/\dH (some b) ds h) (tg:=gT [5,6]) (b:=iP (bP j)) (λ_ _ _ p=>by
   obtain⟨_,_,_,_,_,rfl,_⟩:=p;exact⟨C _ _ _ _ E,C _ _ _ _ F⟩) (xs:=((NL lf).zip ds).map λp=>.tup [p.1,p.2]) (k:=0) (σ:=[some w.enc,some (.int (k + 1:Nat)),some (gR a b),some (.ref c),some (.ref d),none,none]) (h:=h.set d (.dcT m1)) (by
   rintro i x _ _ J ⟨u,v,mm,g,rfl,rfl,K⟩;obtain⟨p,B,T,p2,rfl⟩:=wz J;have O:p∈lf:=ZK T;obtain⟨f,s⟩ : ∃f,f=h.set d (.dcT mm)++g:=⟨_,rfl⟩;rw[<-s];have V:nu h f:=by rw[s];exact C _ _
   have U:f[d]? = some (.dcT mm):=by rw[s];exact aA _ (List.getElem?_set_self R)
   have I:=(List.getElem?_eq_some_iff.mp U).1;have pS:p∉S:=pg.no p O;have Z:(S++[p]).Nodup:=by
    rw[XA];exact⟨(gj su).up.imp λh=>ZN h,by simp,λa E b F e=>pS (by rw[WE.mp F]at e;exact e ▸ E)⟩
   obtain⟨A,m1,m2,m3⟩:=BV Z;have M:A=srt n (p :: S):=sO m2 (lW _ _) λx=>by
    rw[m3,cK,W0,WE,Y6];exact⟨λz=>⟨(oA.mp (z.elim (λq=>su.subset q) λe=>e ▸ lc p O)).1,z.symm⟩,λz=>z.2.symm⟩
   have ml:A.length<=n:=by rw[M];exact wA
   obtain⟨r,l⟩ : ∃r,r=f++[aS.lst [.int (p:Nat)]]:=⟨_,rfl⟩;have e1:aG (ab (aa 5) ao) [some w.enc,some (.int (k + 1:Nat)),some (gR a b),some (.ref c),some (.ref d),some (.int (p:Nat)),some B] f=.ok (.ref f.length) r:=by rw[l];exact bn (ak rfl rfl) (by simp[SZ])
   have so:jn (dJ (aa 3) (aG (ab (aa 5) ao))) [some w.enc,some (.int (k + 1:Nat)),some (gR a b),some (.ref c),some (.ref d),some (.int (p:Nat)),some B] f=.ok (NL A) r:=by
    have W:dJ (aa 3) (aG (ab (aa 5) ao)) [some w.enc,some (.int (k + 1:Nat)),some (gR a b),some (.ref c),some (.ref d),some (.int (p:Nat)),some B] f=.ok (NL (S++[p])) r:=by
     rw[<-kK];exact kJ rfl e1 (by rw[l];exact aA _ (V _ _ hc)) (by rw[l];exact ZG) (by simp[SZ];omega)
    unfold jn;rw[W];simp only[aW,eM];rw[z4 (by simp[kyL];omega),m1]
   have nm:aG (jn (dJ (aa 3) (aG (ab (aa 5) ao)))) [some w.enc,some (.int (k + 1:Nat)),some (gR a b),some (.ref c),some (.ref d),some (.int (p:Nat)),some B] f=.ok (.ref r.length) (r++[.lst (NL A)]):=bn so (by simp[SZ];omega);have X:(r++[.lst (NL A)])[d]? = some (.dcT mm):=by rw[l];exact aA _ (aA _ U)
   have k6:nu h (r++[.lst (NL A)]):=by rw[l];exact(V.trans (eO _ _)).trans (eO _ _)
   obtain⟨m7,q7,K7⟩:=yO G j k (XG hm) (r++[.lst (NL A)]) _ A B mm X K ZG (by
    rw[M];refine kM λy hy => ?_;rcases Y6.mp hy with z|z
    ·rw[z];exact lc p O
    ·exact su.subset z) (by have z:=(sub i p B T p2).keep k6;rw[<-M]at z;exact z)
   have sb:fL (.int ((k + 1:Nat):Int)) (.int 1) f=.ok (.int (k:Nat)) f:=by
    show Res.ok (D.int (((k + 1:Nat):Int) - 1)) f=_;rw[show ((k + 1:Nat):Int) - 1=(k:Int) by omega]
   refine⟨_,rfl,_,_,x4 (ca (bU (b:=true) (aI (ar (ak rfl (ak (aj rfl rfl sb) (ak rfl (bV nm rfl)))) q7)))) rfl,_,_,m7,g++([.lst [.int (p:Nat)]]++[.lst (NL A)]),rfl,?_,K7⟩;rw[l,ZU f,Y8 _ _ I,s,jg R];simp) ⟨none,none,m1,[],rfl,by simp,Y⟩
  have N:(h.set d (.dcT m1))[a]? = some (.lst (NL lf)):=by have:=C (.dcT m1) [] _ _ E;rwa[Z6]at this
  have L:(h.set d (.dcT m1))[b]? = some (.lst ds):=by have:=C (.dcT m1) [] _ _ F;rwa[Z6]at this
  have Q:=sS (a:=fAt (aa 2) (fC (.int 1))) (b:=fAt (aa 2) (fC (.int 2))) (tg:=gT [5,6]) (body:=iP (bP j)) (σ:=[some w.enc,some (.int (k + 1:Nat)),some (gR a b),some (.ref c),some (.ref d),none,none]) (h:=h.set d (.dcT m1)) (aF rfl rfl rfl rfl) (aF rfl rfl rfl rfl) N L;rw[k1]at Q;refine⟨o,?_,H⟩;unfold bP;refine x4 (bG (σ:=[some w.enc,some (.int (k + 1:Nat)),some (gR a b),some (.ref c),some (.ref d),none,none]) rfl rfl (sx (ca (aI (aj rfl rfl (lM (by omega))))) (sx (ca (eE (aI (aj (aF (i:=0) rfl rfl rfl rfl) rfl rfl)) (bU (b:=true) (aI (ar (ak rfl (ak (aF rfl rfl rfl rfl) (ak (aF rfl rfl rfl rfl) (bV rfl rfl)))) q1))))) (sx Q (aR rfl))))) ?_;exact sU hd H
theorem ua (G:Go w n){m:Nat}{t:D}(hm:m < 7)(T:IsT w n h m [] t):fH [w.enc,.int (m:Nat),t] h=.ok (.bl true) h:=by
 have hd:(h++[.lst []]++[.dcT []])[(h++[aS.lst []]).length]? = some (.dcT []):=ZG;obtain⟨a,q,f⟩:=yO G 7 m hm (h++[.lst []]++[.dcT []]) h.length [] t [] hd ⟨WN,λp c=>by cases c⟩ (aA _ ZG) (List.nil_sublist _) (T.keep ((eO _ _).trans (eO _ _)));have b:aG ao [some w.enc,some (.int (m:Nat)),some t] h=.ok (.ref h.length) (h++[.lst []]):=bn rfl (by decide);have e:rE [some w.enc,some (.int (m:Nat)),some t] (h++[.lst []])=.ok (.ref (h++[aS.lst []]).length) (h++[.lst []]++[.dcT []]):=rfl;refine x4 (bG (σ:=[some w.enc,some (.int (m:Nat)),some t]) rfl rfl (aR (ar (ak rfl (ak rfl (ak rfl (bV b e)))) q))) ?_;rw[ZU,ZB,kj rfl];exact cr rfl
end
theorem HB {i:Nat}{p:Nat × Int}:p∈nbs T i ↔ ∃t∈T,far i t=some p.1/\t.w=p.2:=by
 unfold nbs;rw[List.mem_filterMap];constructor
 ·rintro⟨t,a,q⟩
  cases e:far i t with
  | none=>rw[e]at q;cases q
  | some j=>rw[e]at q;simp at q;subst q;exact⟨t,a,e,rfl⟩
 ·rintro⟨t,a,q1,q2⟩
  exact⟨t,a,by rw[q1,q2];rfl⟩
theorem Dk:∀r:List (Nat × Int),(eV r).length=r.length:=λr=>by
 have:=o8 (λ_=>1) r;have q:∀l:List (Nat × Int),(l.map λ_=>(1:Int)).sum=l.length:=λl=>by
  induction l with
  | nil=>rfl
  | cons x l ih=>simp only[yP,X8,ih,YD];omega
 rw[q,q]at this;omega
theorem HC (lt:∀t∈T,t.a < n/\t.b < n)(un:T.Pairwise jt)(i:Nat):(nbs T i).length<=n:=by
 have:=E4 (E5 un i) (n:=n) λx b=>by
  obtain⟨p,a,rfl⟩:=List.mem_map.mp b;exact z9 lt p a
 simpa using this
theorem lZ {α : Type}{f : α->D}:∀{l:List α},(∀x∈l,okR (f x)=true)->o5 (l.map f)=true
 | [],_=>rfl
 | x :: l,h=>by
  have a:=h x (by simp);have b:=lZ (f:=f) (l:=l) λy c=>h y (by simp[c]);simp only[yP,o5,a,b,VE]
theorem jV {α : Type}{f : α->D}{k:Nat}:∀{l:List α},(∀x∈l,mF (f x)<=k)->kS (l.map f)<=(k + 1) * l.length
 | [],_=>by simp[kS]
 | x :: l,h=>by
  have a:=h x (by simp);have b:=jV (l:=l) λy c=>h y (by simp[c]);simp only[yP,kS,YD,Nat.mul_succ];omega
theorem FK (A:n<=30)(O:TOk n n 0 T){bs:List Int}{ss:List (Option Int)}(lb:bs.length=n)(ls:ss.length=n)(os:∀x∈ss,x=none\/x=some 0\/x=some 1)(bb:∀x∈bs,-20000<=x/\x<=20000) :
  okR (cV n T bs ss).enc=true/\mF (cV n T bs ss).enc<=1000000:=by
 have j:∀i,i < n->∀p∈eV (nbs T i),p.1 < 30/\1<=p.2/\p.2<=400:=λi _ p d=>by
  have d:=my.mp d;have l:=z9 O.lt p d;obtain⟨t,s,_,q⟩:=HB.mp d;have w:=O.wt t s;rw[q]at w;exact⟨by omega,w⟩
 have m:o5 ((cV n T bs ss).ties.map jo)=true:=lZ λr g=>by
  obtain⟨i,hi,rfl⟩:=List.mem_map.mp g;have hi:=List.mem_range.mp hi;simp only[jo,okR];refine lZ λp d => ?_;obtain⟨a,b,c⟩:=j i hi p d;simp only[mV,okR,o5,Bool.and_true,x8,Z9];exact⟨by omega,by omega⟩
 have u:o5 (bs.map D.int)=true:=lZ λx h=>by
  have:=bb x h;simp only[okR,Z9];omega
 have o:o5 (ss.map bq)=true:=lZ λx h=>by
  rcases os x h with e|e|e<;>subst e<;>decide
 have v:kS ((cV n T bs ss).ties.map jo)<=(1890 + 1) * (cV n T bs ss).ties.length:=jV λr g=>by
  obtain⟨i,hi,rfl⟩:=List.mem_map.mp g;have c:=jV (f:=mV) (k:=62) (l:=eV (nbs T i)) λp _=>by simp[mV,mF,kS]
  have l:=HC O.lt O.un i;rw[Dk]at c;simp only[jo,mF];omega
 have y:kS (bs.map D.int)<=(30 + 1) * bs.length:=jV λx _=>by simp[mF]
 have z:kS (ss.map bq)<=(30 + 1) * ss.length:=jV λx _=>by cases x<;>simp[bq,mF]
 have lt:(cV n T bs ss).ties.length=n:=by simp[cV]
 rw[lt]at v;constructor
 ·show okR (.tup [.tup ((cV n T bs ss).ties.map jo),.tup (bs.map .int),.tup (ss.map bq)])=true
  simp only[okR,o5,m,u,o,VE]
 ·show mF (.tup [.tup ((cV n T bs ss).ties.map jo),.tup (bs.map .int),.tup (ss.map bq)])<=1000000
  simp only[mF,kS];omega
theorem AO (O:TOk n n 0 T){bs:List Int}{ss:List (Option Int)}(os:∀x∈ss,x=none\/x=some 0\/x=some 1):Ha (cV n T bs ss) (cV n T bs ss) n:=by
 refine Hb os os (λp f a b _ B l=>qd B l λq c => ?_) (λ_ _=>Y7 _) λp _ => ?_
 ·have e:(cV n T bs ss).ties.getD p [] = eV (nbs T p):=by simp[cV,List.getD,f]
  rw[e]at c;have c:=my.mp c;unfold nbs at c;obtain⟨t,d,z⟩:=List.mem_filterMap.mp c;have:=O.wt t d;cases e:far p t with
  | none=>rw[e]at z;cases z
  | some j=>rw[e]at z;simp at z;subst z;simp only;omega
 ·show (ss.getD p none=none/\ss.getD p none=none)\/ss.getD p none=some 0\/ss.getD p none=some 1
  by_cases h:p < ss.length
  ·have:=os _ (Z5 h)
   rw[show ss.getD p none=ss[p] by simp[List.getD,h]];rcases this with e|e|e
   ·exact .inl ⟨e,e⟩
   ·exact .inr (.inl e)
   ·exact .inr (.inr e)
  ·left;simp[List.getD,List.getElem?_eq_none (show ss.length<=p by omega)]
section
variable {Z n:Nat} {M:Nat->Nat->Int} {bs:List Int} {ss:List (Option Int)} {bk sk:Nat} {T:List Tie} {w:Web} {td:D}
theorem LC (h:Hd):GW (.bl true) (.bl true) h=.ok (.bl true) h:=rfl
theorem AQ (G:Go w n)(l:Lw Z n M bs ss bk sk T w td h)(j:∀u,u.Sublist (fr w.stays n)->tb w n u=false):iz [td,w.enc,.non] h=.ok (.bl true) h:=by
 have g:w.stays=ss:=by rw[l.w'];rfl
 have d:=jf l G.n30;rw[<-g]at d;have a:=iU G (l.more [.lst (NL (chL w.stays n))]) (c:=chL w.stays n) (c0:=chL w.stays n) (gj (List.Sublist.refl _)) (λi _=>Iff.rfl) (k:=h.length) ZG;have m:tb w n (chL w.stays n)=false:=by
  rw[<-j (fr w.stays n) (List.Sublist.refl _)];refine BX λi hi => ?_
  by_cases s1:w.stays.getD i none=some 1
  ·exact⟨λ_=>.inr s1,λ_=>.inr s1⟩
  ·refine⟨λz=>z.imp (λq => ?_) id,λz=>z.imp (λq=>kW q) id⟩
   obtain⟨_,q3⟩:=oA.mp q;have mem:w.stays.getD i none∈w.stays:=by
    have f:i < w.stays.length:=by rw[G.W.s];exact hi
    rw[ZF,ZE f];exact Z5 f
   rcases G.S _ mem with e|e|e
   ·exact ww.mpr ⟨hi,e⟩
   ·exact absurd e q3
   ·exact absurd e s1
 rw[m]at a;refine x4 (bG (σ:=[some td,some w.enc,some .non,none,none,none]) rfl rfl (jL (x4 (gX (aI (aj rfl rfl rfl))) (aR (kT (bU (b:=false) (aI (ar (bV rfl (ar (ak rfl rfl) d)) a)))))))) ?_;exact cr rfl
theorem AR (G:Go w n)(Y:n<=6)(l:Lw Z n M bs ss bk sk T w td h){a:Nat}{t:D}{v:List Nat}(P:h[a]? = some (.lst (NL v)))(vs:v.Sublist (fr w.stays n))(V:tb w n v=true)(tr:wy w n h v t):iz [td,w.enc,.tup [.ref a,t]] h=.ok (.bl true) h:=by
 have S:w.stays=ss:=by rw[l.w'];rfl
 have vC:∀x∈v,x∈chL w.stays n:=λx I=>kW (vs.subset I);have vu:v.Pairwise (· < ·):=(yJ _ _).sublist vs;have vl:v.length<=6:=ZM vs.length_le (ZM (iV _ _) Y);have E:=jf l G.n30;rw[<-S]at E;obtain⟨h1,k⟩ : ∃h1,h1=h++[aS.lst (NL (chL w.stays n))]:=⟨_,rfl⟩;rw[<-k]at E;have z:h1[a]? = some (.lst (NL v)):=by rw[k];exact aA _ P
 have ck:h1[h.length]? = some (.lst (NL (chL w.stays n))):=by rw[k];exact ZG
 have O:bR (some a) (NL v) (gN 0) [tOr (tE (ag bY (aa 0) (aa 1))) (tE (eT .bool (aa 0)))] (aa 0) (NL v) [none,some (.ref h.length)] h1=.ok (NL (v.filter λ_=>false)) h1:=oC (λ_=>false) z λi hi=>eE (aI (aj rfl rfl (by rw[lY ck,yQ (vC i hi)];rfl))) (aI rfl);rw[List.filter_eq_nil_iff.mpr (λ_ _=>by decide)]at O;obtain⟨h2,p⟩ : ∃h2,h2=h1++[aS.lst (NL [])]++[aS.lst (NL [])]:=⟨_,rfl⟩;have tA:tE (ag oNe (aG (bL 1 [5] (d7 (aa 3)) (gN 0) [(tOr (tE (ag bY (aa 0) (aa 1))) (tE (eT .bool (aa 0))))] (aa 0))) (aG ao)) [some td,some w.enc,some (.tup [.ref a,t]),some (.ref a),some t,some (.ref h.length)] h1=.ok false h2:=by
  rw[p];exact aI (aj (bn (xs:=NL []) (cx (dv rfl z) O) (by decide)) (bn (xs:=NL []) rfl (by decide)) (B5 (aA _ ZG) ZG))
 have r:h2[a]? = some (.lst (NL v)):=by rw[p];exact aA _ (aA _ z)
 have so:aG (gE (aa 3)) [some td,some w.enc,some (.tup [.ref a,t]),some (.ref a),some t,some (.ref h.length)] h2=.ok (.ref h2.length) (h2++[.lst (NL v)]):=by
  refine bn ?_ (by rw[ZA];exact ZM vl (by decide));unfold gE;show Res.bind (Res.ok (D.ref a) h2) _=_;simp only[aW,dI,r,eM];rw[z4 (by simp[kyL];omega),vc vu]
 have tB:tE (ag oNe (aa 3) (aG (gE (aa 3)))) [some td,some w.enc,some (.tup [.ref a,t]),some (.ref a),some t,some (.ref h.length)] h2=.ok false (h2++[.lst (NL v)]):=aI (aj (x:=.ref a) rfl so (B5 (aA _ r) ZG));obtain⟨f,y⟩ : ∃f,f=h2++[aS.lst (NL v)]:=⟨_,rfl⟩;rw[<-y]at tB;have C:f=h++([aS.lst (NL (chL w.stays n))]++[aS.lst (NL [])]++[aS.lst (NL [])]++[aS.lst (NL v)]):=by rw[y,p,k];simp
 have s:f[a]? = some (.lst (NL v)):=by rw[y];exact aA _ r
 have l3:∀g,Lw Z n M bs ss bk sk T w td (f++g):=λg=>by rw[C];exact(l.more _).more _
 have N:=iU G (l3 []) (gj (vs.trans (sN _ _))) (λi _=>Iff.rfl) (show (f++[])[a]? = some (.lst (NL v)) from aA _ s);rw[V,Z6]at N;have H:aG ao [some td,some w.enc,some (.tup [.ref a,t]),some (.ref a),some t,some (.ref h.length)] f=.ok (.ref f.length) (f++[.lst []]):=bn rfl (by decide);have s2:sIf (tOr (cZ (tE (eT .tuple (aa 2)))) (tOr (tE (ag oNe (cB (lOf (aa 2))) (fC (.int 2)))) (cZ (tE (eT .list (fAt (aa 2) (fC (.int 0)))))))) (aZ (fC (.bl false))) br [some td,some w.enc,some (.tup [.ref a,t]),none,none,none] h=.nx [some td,some w.enc,some (.tup [.ref a,t]),none,none,none] h:=(ca (eE (bU (b:=true) (aI rfl)) (eE (aI (aj (c6 (bQ rfl rfl)) rfl rfl)) (bU (b:=true) (aI (r6 (aF rfl rfl rfl rfl) P)))))).trans rfl;have A:∀{g:Hd} {o:Out},o=.rt (.bl true) (h++g)->ax (sIf (tE (ag oEq (aa 3) (aG ao))) (aZ (ag mD (aa 4) (fC .non))) br) (ax (sIf (tOr (cZ (tE (au (cS 7) (ab (aa 0) (ab (ag fL (cB (lOf (aa 3))) (fC (.int 1))) (ab (aa 4) (ab (aG ao) ao))))))) (cZ (tE (au (bE 7) (ab (aa 0) (ab (aa 4) ao)))))) (aZ (fC (.bl false))) br) (aZ (ag GW (au fH (ab (aa 1) (ab (ag fL (cB (lOf (aa 3))) (fC (.int 1))) (ab (aa 4) ao)))) (fC (.bl true))))) [some td,some w.enc,some (.tup [.ref a,t]),some (.ref a),some t,some (.ref h.length)] f=o->iz [td,w.enc,.tup [.ref a,t]] h=.ok (.bl true) h:=λ{g o} eo e=>by
  rw[eo]at e;refine x4 (bG (σ:=[some td,some w.enc,some (.tup [.ref a,t]),none,none,none]) rfl rfl (sx (ca (aI (aj rfl rfl rfl))) (sx s2 (sx (GZ rfl rfl) (sx (aD (ar (ak rfl rfl) E)) (sx (ca (eE tA tB)) (sx (ca (bU (b:=true) (aI (ar (bV rfl rfl) N)))) e))))))) ?_;exact cr rfl
 by_cases ve:v=[]
 ·have tn:=tr.1 ve
  subst tn;refine A (g:=[aS.lst (NL (chL w.stays n))]++[aS.lst (NL [])]++[aS.lst (NL [])]++[aS.lst (NL v)]++[.lst []]) rfl (jL (x4 (gX (aI (aj rfl H (qI (b:=true) (aA _ s) ZG (by rw[ve];rfl))))) (x4 (aR (aj rfl rfl rfl)) ?_)));rw[C,ZU];rfl
 ·have U:=tr.2 ve
  have v0:v.length≠0:=λq=>ve (List.length_eq_zero_iff.mp q);obtain⟨c,m⟩ : ∃c,c=f++[aS.lst []]:=⟨_,rfl⟩;rw[<-m]at H;have u:c[a]? = some (.lst (NL v)):=by rw[m];exact aA _ s
  have L:tE (ag oEq (aa 3) (aG ao)) [some td,some w.enc,some (.tup [.ref a,t]),some (.ref a),some t,some (.ref h.length)] f=.ok false c:=aI (aj rfl H (qI (b:=false) u (by rw[m];exact ZG) (Ii ve)));have R:∀g:Hd,g[a]? = some (.lst (NL v))->ag fL (cB (lOf (aa 3))) (fC (.int 1)) [some td,some w.enc,some (.tup [.ref a,t]),some (.ref a),some t,some (.ref h.length)] g=.ok (.int (v.length - 1:Nat)) g:=λg hg=>by
   refine aj (c6 (bQ rfl (aH hg))) rfl ?_;rw[ZA];show Res.ok (D.int ((v.length:Int) - 1)) _=_;rw[show (v.length:Int) - 1=((v.length - 1:Nat):Int) by omega]
  have K:aG ao [some td,some w.enc,some (.tup [.ref a,t]),some (.ref a),some t,some (.ref h.length)] c=.ok (.ref c.length) (c++[.lst []]):=bn rfl (by decide);obtain⟨d,j⟩ : ∃d,d=c++[aS.lst (NL [])]:=⟨_,rfl⟩;have J:d=h++([aS.lst (NL (chL w.stays n))]++[aS.lst (NL [])]++[aS.lst (NL [])]++[aS.lst (NL v)]++[.lst []]++[.lst []]):=by rw[j,m,C];simp
  have Q:Lw Z n M bs ss bk sk T w td d:=by rw[J];exact l.more _
  have F:IsT w n d (v.length - 1) [] t:=by rw[J];exact U.keep (eO _ _)
  have s0:srt n [] = []:=List.filter_eq_nil_iff.mpr λi _=>by simp
  have ho:=sT G 7 (v.length - 1) (by omega) d c.length [] t Q (by rw[j];exact ZG) (λx I=>by cases I) (by simp;omega) (by rw[s0];exact F);have W:=qh G 7 (v.length - 1) (by omega) d _ t Q F;have th:=ua G (show v.length - 1 < 7 by omega) F;have B:d[a]? = some (.lst (NL v)):=by rw[j];exact aA _ u
  have K:aG ao [some td,some w.enc,some (.tup [.ref a,t]),some (.ref a),some t,some (.ref h.length)] c=.ok (.ref c.length) d:=by rw[j];exact K
  have tH:tE (au (cS 7) (ab (aa 0) (ab (ag fL (cB (lOf (aa 3))) (fC (.int 1))) (ab (aa 4) (ab (aG ao) ao))))) [some td,some w.enc,some (.tup [.ref a,t]),some (.ref a),some t,some (.ref h.length)] c=.ok true d:=aI (ar (ak rfl (ak (R _ u) (bV rfl K))) ho);have X:tE (au (bE 7) (ab (aa 0) (ab (aa 4) ao))) [some td,some w.enc,some (.tup [.ref a,t]),some (.ref a),some t,some (.ref h.length)] d=.ok true d:=aI (ar (bV rfl rfl) W);refine A (g:=[aS.lst (NL (chL w.stays n))]++[aS.lst (NL [])]++[aS.lst (NL [])]++[aS.lst (NL v)]++[.lst []]++[.lst []]) rfl (sx (ca L) (sx (ca (eE (bU (b:=true) tH) (bU (b:=true) X))) (x4 (aR (aj (ar (ak rfl (bV (R _ B) rfl)) th) rfl (LC _))) ?_)));rw[J]
end
theorem J9 (ns:List Int)(V:ns.length<=63):∃h,BH [.lit (ns.map .int)] []=.ok (.bl true) h:=by
 obtain⟨n,M,bs,ss,bk,sk,h0,P⟩:=FC ns (mo:=6) (by decide) (by decide);have p:n<=6:=by have:=P.nmo;omega
 obtain⟨td,j⟩ : ∃td:D,td=.tup [.ref (0 + n),.ref bk,.ref sk]:=⟨_,rfl⟩;obtain⟨c,u⟩ : ∃c:D,c=.lit (ns.map .int):=⟨_,rfl⟩;have q:=P.run;rw[<-j,<-u]at q;have m:Md 0 n M bs ss bk sk h0:=⟨P.n1,P.n30,P.mt,P.mo,P.ba,P.st,P.lb,P.ls,P.os⟩;obtain⟨T,X,o⟩:=FD m;have J:=Hr m X o;obtain⟨w,hw⟩ : ∃w,w=cV n T bs ss:=⟨_,rfl⟩;rw[<-j,<-hw]at J;have ws:w.stays=ss:=by rw[hw];rfl
 have G:Go w n:=⟨by rw[hw];exact E6 P.n30 o.ok P.lb P.ls,ZM p (by decide),by rw[hw];exact P.os,by rw[hw];exact AO o.ok P.os,λf s=>by rw[hw];exact Hs o.ok bs ss f s⟩;have L:Lw 0 n M bs ss bk sk T w td h0:=⟨m,o,hw,j⟩;obtain⟨i,k⟩:=FK P.n30 o.ok P.lb P.ls P.os P.bb;rw[<-hw]at i k;obtain⟨d,B⟩ : ∃d,∀(h:Hd) (O x1 E K Q:Option D),yb (aa 2) [O,x1,some w.enc,E,K,Q] h=.ok (.str d) h:=⟨EO w.enc,λh O x1 E K Q=>by
  have r:=(G8 w).2;obtain⟨l,W⟩ : ∃l,w.enc=.tup l:=⟨_,rfl⟩;unfold yb;show Res.bind (Res.ok w.enc h) _=_;rw[W]at i k r ⊢;simp only[aW];rw[z4 ⟨i,r,k⟩]⟩
 have I:E9 [some c,none,none,none,none,none] []=.nx [some c,some td,none,none,none,none] h0:=aD (ar (bV rfl rfl) q);have F:Fc [some c,some td,none,none,none,none] h0=.nx [some c,some td,some w.enc,none,none,none] h0:=aD (ar (ak rfl rfl) J);have N:Fd [some c,some td,some w.enc,none,none,none] h0=.nx [some c,some td,some w.enc,some (.str d),none,none] h0:=aD (B _ _ _ _ _ _);have H:∀h:Hd,oNe (.str d) (.str d) h=.ok (.bl false) h:=λh=>by
  have e:eqG h (.str d) (.str d)=some true:=by simp[eqG,dI,dep,peq]
  unfold oNe;rw[e];rfl
 rw[<-u];rcases u7 G p h0 with ⟨fq,al⟩|⟨a,t,g,v,fq,va,vs,vt,tr,vm⟩
 ·have y:Ae [some c,some td,some w.enc,some (.str d),none,none] h0=.nx [some c,some td,some w.enc,some (.str d),some .non,none] h0:=aD (ar (ak rfl rfl) fq)
  have C:Af [some c,some td,some w.enc,some (.str d),some .non,none] h0=.nx [some c,some td,some w.enc,some (.str d),some .non,none] h0:=(ca (eE (bU (b:=true) (aI (ar (ak rfl (bV rfl rfl)) (AQ G L al)))) (aI (aj (B _ _ _ _ _ _) rfl (H _))))).trans rfl;have A:Ag [some c,some td,some w.enc,some (.str d),some .non,none] h0=.rt (.bl true) h0:=(gX (aI (aj rfl rfl rfl))).trans (aR (aj (ar (ak rfl rfl) fq) rfl rfl));exact⟨[],x4 (bG (np:=1) (n:=6) (ds:=[c]) (σ:=[some c,none,none,none,none,none]) rfl rfl (sx I (sx F (sx N (sx y (sx C (jL A))))))) (cr (h:=[]) rfl)⟩
 ·obtain⟨h1,x⟩ : ∃h1,h1=h0++g:=⟨_,rfl⟩
  rw[<-x]at fq va tr;have Z:Lw 0 n M bs ss bk sk T w td h1:=by rw[x];exact L.more _
  have y:Ae [some c,some td,some w.enc,some (.str d),none,none] h0=.nx [some c,some td,some w.enc,some (.str d),some (.tup [.ref a,t]),none] h1:=aD (ar (ak rfl rfl) fq);have C:Af [some c,some td,some w.enc,some (.str d),some (.tup [.ref a,t]),none] h1=.nx [some c,some td,some w.enc,some (.str d),some (.tup [.ref a,t]),none] h1:=(ca (eE (bU (b:=true) (aI (ar (ak rfl (bV rfl rfl)) (AR G p Z va vs vt tr)))) (aI (aj (B _ _ _ _ _ _) rfl (H _))))).trans rfl;have A:Ag [some c,some td,some w.enc,some (.str d),some (.tup [.ref a,t]),none] h1=.nx [some c,some td,some w.enc,some (.str d),some (.tup [.ref a,t]),none] h1:=(ca (aI (aj rfl rfl rfl))).trans rfl;have S:Fe [some c,some td,some w.enc,some (.str d),some (.tup [.ref a,t]),none] h1=.nx [some c,some td,some w.enc,some (.str d),some (.tup [.ref a,t]),some (.int (v.length:Nat))] h1:=by
   refine aD ?_;exact(c6 (bQ (aF rfl rfl rfl rfl) (aH va))).trans (by rw[ZA])
  have vl:v.length<=6:=ZM vs.length_le (ZM (iV _ _) p);have U:Fg [some c,some td,some w.enc,some (.str d),some (.tup [.ref a,t]),some (.int (v.length:Nat))] h1=.nx [some c,some td,some w.enc,some (.str d),some (.tup [.ref a,t]),some (.int (v.length:Nat))] (h1.set a (.lst (NL v++[.int (-1)]))):=jp (ki (aF rfl rfl rfl rfl) va rfl va (by simp[SZ];omega));rcases u7 G p (h1.set a (.lst (NL v++[.int (-1)]))) with ⟨_,al⟩|⟨a',t',g',v',fq',va',vs',vt',_,vm'⟩
  ·rw[al v vs]at vt;cases vt
  ·have Y:v'.length=v.length:=by
    have x1 : ¬v'.length < v.length:=λz=>by rw[vm v' vs' z]at vt';cases vt'
    have x2 : ¬v.length < v'.length:=λz=>by rw[vm' v vs z]at vt;cases vt
    omega
   have R:Fh [some c,some td,some w.enc,some (.str d),some (.tup [.ref a,t]),some (.int (v.length:Nat))] (h1.set a (.lst (NL v++[.int (-1)])))=.rt (.bl true) (h1.set a (.lst (NL v++[.int (-1)]))++g'):=aR (aj (c6 (bQ (aF (ar (ak rfl rfl) fq') rfl rfl rfl) (aH va'))) rfl (rZ (by rw[ZA,Y])));exact⟨[],x4 (bG (np:=1) (n:=6) (ds:=[c]) (σ:=[some c,none,none,none,none,none]) rfl rfl (sx I (sx F (sx N (sx y (sx C (sx A (sx S (sx U R))))))))) (cr (h:=[]) rfl)⟩
end Fm
def PySem.W.Fast.tw90343872475197607 : Type := PySem.Params
theorem PySem.W.Fast.te90343872475197607 : PySem.Params = PySem.W.Fast.tw90343872475197607 := rfl
def PySem.W.Fast.tw11884364251560638981 : PySem.Program := PySem.Challenge.pw_followmost_k37_whole_the_fewest_walked
theorem PySem.W.Fast.te11884364251560638981 : PySem.Challenge.pw_followmost_k37_whole_the_fewest_walked = PySem.W.Fast.tw11884364251560638981 := rfl
open PySem PySem.W PyProof.Rows
set_option maxRecDepth 100000 in
set_option maxHeartbeats 0 in
theorem PySem.Challenge.cw_followmost_k37_whole_the_fewest_walked_holds : PySem.Challenge.rw_followmost_k37_whole_the_fewest_walked.Holds := by
 w_on;o_law;k_head;(case hw=>w_witness2)
 k_fill
 refine Fm.K8 (l := PySem.Challenge.rw_followmost_k37_whole_the_fewest_walked) (F := Fm.BH) (k := 19) (x := "_law_script") rfl rfl ⟨rfl, by decide, by decide, rfl⟩ (fun w h Y => PySem.W.kIn_of Y) ?F Fm.J9
 case F =>
  intro w mg fa h KX G hmg
  refine' Fm.JX KX G hmg ?_ ?_ ?_ ?_ ?_ ?_ ?_ ?_ ?_ ?_ ?_ ?_ ?_ ?_ ?_ ?_ ?_ ?_ ?_ ?_ ?_ ?_ ?_ ?_ ?_ ?_ ?_ ?_ ?_ ?_ ?_ ?_ ?_ ?_ ?_ ?_ ?_ ?_ ?_ ?_ ?_ ?_ ?_ ?_ ?_ ?_ ?_ ?_ ?_ ?_ ?_ ?_ ?_ ?_ ?_ ?_ ?_ ?_ ?_ ?_ ?_ ?_ ?_ ?_ ?_ ?_
  all_goals first|refine' Fm.At.i ?_ ?_ ?_ ?_|unfold Fm.Nb|skip
  all_goals try first|k_is|k_exc|kit_is
