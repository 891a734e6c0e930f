import PyProof.Rows.All
import Wide.All
import OpenK.AllK
import Wide.FinOn
import Lean
import PyProof.EqAt
import PyProof.EqKinds
import PyProof.TupleCall
import PyProof.NeKinds
import PyProof.IsInstanceH
import PyProof.IsiNone
import PyProof.EnumMake
import PyProof.Draws
import PyProof.ZipIter
import PyProof.ListRange
import PyProof.Rows.SortRuns
import PyProof.SetKind
import PyProof.Rows.SetFrom
import PyProof.FactsAll.set
import PyProof.DictIter
import KE.KDictList
import PySem.Challenge.RW_followmost_k38_no_fewer_by_all_sets
set_option Elab.async false
set_option linter.all false
set_option maxRecDepth 100000
abbrev ZA:=@List.length_map
abbrev ZB:=@List.length_append
abbrev ZC:=@List.getElem?_append_left
abbrev ZD:=@List.getElem?_append_right
abbrev ZE:=@List.getElem?_eq_getElem
abbrev ZF:=@List.getD_eq_getElem?_getD
abbrev ZG:=@List.getElem?_concat_length
abbrev ZH:=@PySem.Heap.get?_push_of_some
abbrev ZI:=@PySem.Heap.lt_size
abbrev ZJ:=@PySem.Heap.get?_push_size
abbrev ZK:=@List.mem_of_getElem?
abbrev ZL:=@Nat.le_refl
abbrev ZM:=@Nat.le_trans
abbrev ZN:=@Nat.ne_of_lt
abbrev ZO:=@List.length_range
abbrev ZP:=@List.getElem?_set_ne
abbrev ZQ:=@List.getElem?_map
abbrev ZR:=@List.map_append
abbrev ZS:=@Nat.lt_of_le_of_lt
abbrev ZT:=@Option.some.inj
abbrev ZU:=@List.append_assoc
abbrev ZV:=@List.mem_cons_self
abbrev ZW:=@List.mem_cons_of_mem
abbrev ZX:=PySem.W.Frag
abbrev z0:=@PySem.wpAny_bind
abbrev yD:=@if_pos
abbrev y3:=@PySem.wpAny_pure
abbrev x3:=@if_neg
abbrev x4:=@PyProof.Rows.wpS_bind
abbrev x8:=@List.map_cons
abbrev w8:=@decide_eq_true
abbrev w9:=@List.size_toArray
abbrev v3:=@PyProof.Rows.wpS_pure
abbrev v4:=@Nat.lt_succ_of_lt
abbrev ZY:=@decide_eq_false
abbrev ZZ:=@Nat.lt_of_lt_of_le
abbrev Z0:=@Bool.false_ne_true
abbrev Z1:=@Nat.lt_trans
abbrev Z2:=@List.map_map
abbrev Z3:=@Nat.zero_add
abbrev Z4:=@Nat.lt_succ_self
abbrev Z5:=@List.mem_append_right
abbrev Z6:=@Nat.ne_of_gt
abbrev Z7:=@Bool.and_eq_true
abbrev Z8:=@List.pairwise_append
abbrev Z9:=@Nat.lt_irrefl
abbrev YA:=@Bool.false_eq_true
abbrev YB:=@List.ext_getElem?
abbrev YC:=@Array.length_toList
abbrev YD:=@List.lookup_cons
abbrev YE:=@List.getElem_mem
abbrev YF:=@PySem.sizeLine_eq
abbrev YG:=@Nat.zero_le
abbrev YH:=@PySem.PassesOwn.never
abbrev YI:=@Eq.trans
abbrev YJ:=@PySem.wpAny_newObj_type
abbrev YK:=@PySem.Heap.size_update
abbrev YL:=@List.mem_singleton
abbrev YM:=@PySem.W.mg_none_of
abbrev YN:=@List.take_of_length_le
abbrev YO:=@List.take_append_drop
abbrev YP:=@PySem.wpAny_call_entry
abbrev YQ:=@PySem.Heap.size_push
abbrev YR:=@Option.some.injEq
abbrev YS:=@List.mem_of_mem_take
abbrev YT:=@List.drop_eq_getElem_cons
abbrev YU:=@PyProof.Rows.wpS_forRange
abbrev YV:=@PySem.wpAny_holding
abbrev YW:=@List.replicate_succ
abbrev YX:=@List.map_congr_left
abbrev YZ:=@List.flatten_cons
abbrev Y0:=@List.take_succ_eq_append_getElem
abbrev Y1:=@List.pairwise_singleton
abbrev Y2:=@PySem.isSubtype_type
abbrev Y3:=@List.append_nil
abbrev Y4:=@List.length_set
abbrev Y5:=@PySem.wpAny_ite_split
abbrev Y6:=@Nat.le_of_lt
abbrev Y7:=@List.length_cons
abbrev Y8:=@decide_eq_true_eq
abbrev Y9:=@of_decide_eq_true
abbrev XA:=@PySem.wpAny_setState_of
abbrev XB:=@List.foldl_cons
abbrev XC:=@Nat.not_lt_zero
abbrev XD:=@Int.natCast_nonneg
abbrev XE:=@List.filter_append
abbrev XF:=@if_false
abbrev XG:=@List.mem_of_mem_drop
abbrev XH:=@Array.toList_reverse
abbrev XI:=@Int.le_refl
abbrev XJ:=@List.filter_cons
abbrev Uz:=@if_true
abbrev XO:=@Ne.symm
abbrev XR:=@Nat.le_of_lt_succ
abbrev XS:=@PySem.Heap.SameBut.update
abbrev XU:=@Nat.add_le_add_left
abbrev XV:=@PySem.call_isinstance
abbrev XW:=@List.cons.injEq
abbrev XX:=@List.range_succ
abbrev XY:=@List.length_replicate
abbrev XZ:=@Nat.le_add_right
abbrev X0:=@PySem.wpAny_truthy_bool
abbrev X1:=@Int.toNat_natCast
abbrev X2:=@Array.toList_push
abbrev X3:=@Option.map_some
abbrev X4:=@PyProof.Rows.wpS_modify
abbrev X5:=@List.filterMap_cons
abbrev X6:=@PyProof.Rows.F.plain_set_update_loop
abbrev X7:=@PyProof.Rows.callWith_type1
abbrev X9:=@List.length_take
abbrev WA:=@List.take_length
abbrev WB:=@PySem.wpAny_mono
abbrev WC:=@PySem.F.slot_tuple_iterator_next
abbrev WD:=@PySem.wpAny_setField
abbrev WE:=@Nat.lt_of_le_of_ne
abbrev WF:=@PyProof.Rows.wpS_mono
abbrev WG:=@PySem.wpAny_passesOwn
abbrev WH:=@PySem.wpAny_loadPart'
abbrev WI:=@List.mem_append_left
abbrev WJ:=@List.nodup_append
abbrev WK:=@Nat.le_succ_of_le
abbrev WL:=@List.pairwise_map
abbrev WM:=@PySem.Around.under_plainId
abbrev WN:=@Nat.pow_le_pow_right
abbrev WO:=@List.all_cons
abbrev WP:=@List.any_cons
abbrev WQ:=@PyProof.Rows.size_push'
abbrev WR:=@PySem.mem_of_lookup
abbrev WS:=@PySem.wpAny_setEntries_of
abbrev WT:=@Nat.add_left_cancel
abbrev WU:=@Nat.le_of_not_lt
abbrev WV:=@Option.getD_some
abbrev WW:=@List.filter_cons_of_pos
abbrev WX:=@List.filter_cons_of_neg
abbrev WY:=@Nat.add_right_comm
abbrev WZ:=@List.pairwise_lt_range
abbrev W0:=@Int.emod_lt_of_pos
abbrev W1:=@PySem.codeAny_builtin
abbrev W2:=@List.sum_cons
abbrev W3:=@Array.getD_eq_getD_getElem?
abbrev W4:=@Array.reverse_append
abbrev W5:=@List.reverse_reverse
abbrev W6:=@List.set_append_left
abbrev W7:=@List.cons_append
abbrev W8:=@Int.le_trans
abbrev W9:=@Bool.or_true
abbrev VA:=@PySem.Calls.call_function_entry
abbrev VB:=@Classical.byContradiction
abbrev VC:=@List.getElem_of_mem
abbrev VD:=@List.flatten_append
abbrev VE:=@PySem.wpAny_comprehension_free
abbrev VF:=@PyProof.Rows.listUpdate_at
abbrev VG:=@PySem.wpAny_newList
abbrev VH:=@PySem.wpAny_attempt
abbrev VI:=@List.mem_cons
abbrev VJ:=@PySem.W.KasT.kasWp_bind
abbrev VL:=@List.filter_map
abbrev VM:=@Int.emod_nonneg
abbrev VN:=@PySem.wpAny_Call_Name_kw
abbrev VO:=@PySem.wpAny_pyIter_tuple
abbrev VP:=@PySem.tupleKind_room_in1
abbrev VQ:=@Array.append_empty
abbrev VS:=@PySem.wpAny_field
abbrev VT:=@Nat.le_succ
abbrev VU:=@PySem.Value.isInt_shape
abbrev VV:=@PySem.codeAny_mono
abbrev VW:=@List.map_nil
abbrev VX:=@List.nodup_nil
abbrev VY:=@PySem.wpAny_pyIter_enum
abbrev VZ:=@List.drop_sublist
abbrev V0:=@PySem.fits_of_scanBound
abbrev V1:=@PySem.W.mg_of
abbrev V2:=@PyProof.Rows.wpS_get
abbrev V3:=@PySem.plainId_quiet
abbrev T0:=PySem.Value
abbrev T1:=PySem.Shared
abbrev T2:=PySem.Around
abbrev T3:=PySem.Program
abbrev T4:=PySem.World
noncomputable section
namespace L2
open PySem PySem.Spec PyProof.Rows
abbrev Key:=Sum Int Str
def rL:Key->T0->Bool
 | .inl k,v=>Value.isInt k v
 | .inr x,v=>Value.isStrOf x v
def Kx (w:T4):Key->Int
 | .inl k=>hashInt k
 | .inr x=>hashStr w x
theorem cE:∀{k:Key} {v:T0},rL k v=true->(∃i t,k=Sum.inl i/\v=Value.int i t)\/(∃x t,k=Sum.inr x/\v=Value.str x t)
 | .inl i,v,h=>by
  obtain⟨t,e⟩:=VU (k:=i) (v:=v) h;exact .inl ⟨i,t,rfl,e⟩
 | .inr x,v,h=>by
  obtain⟨t,e⟩:=Value.isStrOf_shape (x:=x) (v:=v) h;exact .inr ⟨x,t,rfl,e⟩
theorem Ay (i:Int)(t:Tok):rL (.inl i) (.int i t)=true:=by simp[rL,Value.isInt]
theorem Az (x:Str)(t:Tok):rL (.inr x) (.str x t)=true:=by simp[rL,Value.isStrOf]
theorem GA (a b:Int):decide ((Sum.inl a:Key)=Sum.inl b)=(a == b):=by
 by_cases e:a=b
 ·subst e;simp
 ·have h : ¬(Sum.inl a:Key)=Sum.inl b:=λq=>e (Sum.inl.inj q)
  rw[ZY h];exact(beq_eq_false_iff_ne.mpr e).symm
theorem GB (a b:Str):decide ((Sum.inr a:Key)=Sum.inr b)=decide (a=b):=by
 by_cases e:a=b
 ·subst e;simp
 ·have h : ¬(Sum.inr a:Key)=Sum.inr b:=λq=>e (Sum.inr.inj q)
  rw[ZY h,ZY e]
theorem GC (a:Int)(b:Str):decide ((Sum.inl a:Key)=Sum.inr b)=false:=ZY (λq=>nomatch q)
theorem GD (a:Str)(b:Int):decide ((Sum.inr a:Key)=Sum.inl b)=false:=ZY (λq=>nomatch q)
def cN (prog:T3) (w:T4):PySem.KeyKind prog w Key where
 is:=rL
 hash:=Kx w
 inj:=λv a b ha hb=>by
  rcases cE ha with ⟨i,t,rfl,rfl⟩|⟨x,t,rfl,rfl⟩
  ·rcases cE hb with ⟨j,u,rfl,e⟩|⟨y,u,rfl,e⟩
   ·injection e with e1 _;rw[e1]
   ·exact nomatch e
  ·rcases cE hb with ⟨j,u,rfl,e⟩|⟨y,u,rfl,e⟩
   ·exact nomatch e
   ·injection e with e1 _;rw[e1]
 byValue:=λk v h=>by
  rcases cE h with ⟨i,t,rfl,rfl⟩|⟨x,t,rfl,rfl⟩<;>rfl
 pyHash:=λhv h=>by
  rcases cE hv with ⟨i,t,rfl,rfl⟩|⟨x,t,rfl,rfl⟩
  ·exact wpAny_pyHash_int h
  ·exact wpAny_pyHash_str h
 eqBool:=λhu hv h=>by
  rcases cE hu with ⟨i,t,rfl,rfl⟩|⟨x,t,rfl,rfl⟩
  ·rcases cE hv with ⟨j,u,rfl,rfl⟩|⟨y,u,rfl,rfl⟩
   ·rw[GA]at h;exact wpAny_eqBool_int h
   ·rw[GC]at h;exact SeqAt.EqAt.int_str i t y u _ _ _ _ h
  ·rcases cE hv with ⟨j,u,rfl,rfl⟩|⟨y,u,rfl,rfl⟩
   ·rw[GD]at h;exact SeqAt.EqAt.str_int x t j u _ _ _ _ h
   ·rw[GB]at h;exact wpAny_eqBool_str h
 «strs» := λk x t v h=>by
  rcases cE h with ⟨i,u,rfl,e⟩|⟨y,u,rfl,e⟩
  ·exact nomatch e
  ·injection e with e1 _
   subst e1
   cases v<;>rfl
theorem vf (prog:T3)(w:T4)(i:Int)(t:Tok):(cN prog w).is (.inl i) (.int i t)=true:=Ay i t
theorem vg (prog:T3)(w:T4)(x:Str)(t:Tok):(cN prog w).is (.inr x) (.str x t)=true:=Az x t
inductive V where
 | non|bl (b:Bool)|int (i:Int)|str (x:Str)|byt (b:Array UInt8)|flt (b:UInt64)|ref (a:Addr)|ty (n:String)
 deriving DecidableEq
def bx:V->T0->Prop
 | .non,u=>u=Value.none
 | .bl b,u=>u=Value.bool b
 | .int i,u=>∃t,u=Value.int i t
 | .str x,u=>∃t,u=Value.str x t
 | .byt b,u=>∃t,u=Value.bytes b t
 | .flt b,u=>∃t,u=Value.float b t
 | .ref a,u=>u=Value.ref a
 | .ty n,u=>u=Value.type n
abbrev aR:List V->List T0->Prop:=Paired bx
theorem aR.length {xs:List V}{a:List T0}(r:aR xs a):xs.length=a.length:=Paired.length r
theorem aR.get:∀{xs:List V} {a:List T0} {i:Nat} {x:V},aR xs a->xs[i]? = some x->∃u,a[i]? = some u/\bx x u
 | _,_,_,_,.nil,e=>by simp at e
 | _,_,0,_,.cons r _,e=>by simp at e;subst e;exact⟨_,rfl,r⟩
 | _,_,i + 1,x,.cons _ t,e=>by
  obtain⟨u,h1,h2⟩:=aR.get (i:=i) (x:=x) t (by simpa using e);exact⟨u,by simpa using h1,h2⟩
theorem aR.set {x:V}{u:T0}(r:bx x u):∀{xs:List V} {a:List T0} (i:Nat),aR xs a->aR (xs.set i x) (a.set i u)
 | _,_,_,.nil=>.nil
 | _,_,0,.cons _ t=>.cons r t
 | _,_,i + 1,.cons q t=>.cons q (aR.set r i t)
theorem aR.append:∀{xs ys:List V} {b a:List T0},aR xs b->aR ys a->aR (xs++ys) (b++a)
 | _,_,_,_,.nil,s=>s
 | _,_,_,_,.cons r t,s=>.cons r (aR.append t s)
theorem aR.take:∀{xs:List V} {a:List T0} (n:Nat),aR xs a->aR (xs.take n) (a.take n)
 | _,_,0,_=>.nil
 | _,_,_ + 1,.nil=>.nil
 | _,_,n + 1,.cons r t=>.cons r (aR.take n t)
theorem aR.drop:∀{xs:List V} {a:List T0} (n:Nat),aR xs a->aR (xs.drop n) (a.drop n)
 | _,_,0,r=>r
 | _,_,_ + 1,.nil=>.nil
 | _,_,n + 1,.cons _ t=>aR.drop n t
def qI:Option V->Option T0->Prop
 | some v,some u=>bx v u
 | none,none=>True
 | _,_=>False
def KV {κ : Type}:List (κ × V)->List (κ × T0)->Prop:=Paired λ(p : κ × V) (q : κ × T0)=>p.1=q.1/\bx p.2 q.2
def kV:Key->V
 | .inl i=>.int i
 | .inr x=>.str x
inductive HO where
  | lst (xs:List V)
  | tup (xs:List V)
  | dK (kvs:List (Key × V))|dT (kvs:List (List Key × V))
  | set (S:Int->Bool) (n:Nat)
  | ins (C dx:Addr) (fs:List (Str × V))
  | own (x:Addr)
  | xd (fs:List (Str × V))
  | met (f x:Addr)
  | rng (lo hi:Int)
  | frz (o:Obj) (u:HO)
  | tbl (ps:Array T0)
  | ext (φ : Heap->Prop)
abbrev Hp:=Addr->Option HO
def upd (H:Hp) (a:Addr) (o:HO):Hp:=λb=>if b=a then some o else H b
variable {H:Hp}
theorem aY {a:Addr}{o:HO}:upd H a o a=some o:=by unfold upd;rw[yD rfl]
variable {b:Addr}
theorem aB {a:Addr}{o:HO}(h:b≠a):upd H a o b=H b:=by unfold upd;rw[x3 h]
theorem Jf {a:Addr}{o u:HO}(h:H a=some o)(h':H b=some u)(d:o≠u):a≠b:=by
 intro e;subst e;rw[h]at h';exact d (ZT h')
theorem bu {a:Addr}{o:HO}(h:H a=some o)(h':H b=none):a≠b:=by
 intro e;subst e;rw[h]at h';cases h'
section
variable (P:T3) (w:T4)
def dz (H:Hp) (h:Heap) (a:Addr):HO->Prop
 | .lst xs=>xs.length<=sizeLine/\∃(its:List T0) (n:Nat),aR xs its/\h.get? a=some { cls:=.type "list",data:=.seq its.toArray n }
 | .tup xs=>xs.length<=sizeLine/\∃its:List T0,aR xs its/\IsTup h a its.toArray
 | .dK kvs=>kvs.length<=sizeLine/\(a == sysModules)=false/\∃vs,KV kvs vs/\h.DictOf (cN P w) a vs
 | .dT kvs=>kvs.length<=sizeLine/\(a == sysModules)=false/\∃xs:List (List Key × Addr × T0),
   Paired (λ(p:List Key × V) (q:List Key × Addr × T0)=>p.1=q.1/\H q.2.1=some (.tup (p.1.map kV))/\bx p.2 q.2.2) kvs xs/\
   ∃o es ep,h.get? a=some o/\o.ExactDict/\o.data=.dict es ep/\es.toList=xs.map (entryOfKey (tupleKind (cN P w)))/\(xs.map (·.1)).Nodup
 | .set S n=>h.SetOf (intKind P w) a S n
 | .ins C dx fs=>H dx=some (.own a)/\fs.length<=1000/\dx≠a/\h.get? a=some (PySem.W.instObj C dx)/\
   ∃mA,h.Ns1 dx mA/\(∀f,qI (fs.lookup f) (mA f))/\PySem.Within mA (fs.map (·.1))
 | .own _=>∃o,h.get? a=some o
 | .xd fs=>∃mA,h.Ns1 a mA/\∀f,qI (fs.lookup f) (mA f)
 | .rng lo hi=>∃t u v,h.get? a=some { cls:=.type "range",data:=.fields #[.int lo t,.int hi u,.int 1 v] }
 | .frz o u=>h.get? a=some o/\dz H h a u
 | .tbl ps=>h.get? a=some { cls:=.none,data:=.fields ps }
 | .met f x=>h.get? a=some (PySem.W.methodObj (.ref f) (.ref x))
 | .ext φ => φ h/\(∃o,h.get? a=some o)/\∀h1 h2:Heap,φ h1->(∀o,h1.get? a=some o->h2.get? a=some o)->φ h2
def HOk (H:Hp) (h:Heap):Prop:=∀a o,H a=some o->dz P w H h a o
end
section
variable {P:T3} {w:T4} {H H':Hp} {h h':Heap} {a:Addr} {o:HO}
theorem dz.lt (x:dz P w H h a o):a < h.objs.size:=by
 cases o with
 | lst xs=>obtain⟨_,_,_,_,e⟩:=x;exact ZI e
 | tup xs=>obtain⟨_,_,_,p⟩:=x;exact p.lt
 | dK kvs=>obtain⟨_,_,_,_,o,_,_,e,_⟩:=x;exact ZI e
 | dT kvs=>obtain⟨_,_,_,_,o,_,_,e,_⟩:=x;exact ZI e
 | set S n=>obtain⟨o,_,_,_,e,_⟩:=x;exact ZI e
 | ins C dx fs=>obtain⟨_,_,_,e,_⟩:=x;exact ZI e
 | own y=>obtain⟨_,e⟩:=x;exact ZI e
 | xd fs=>obtain⟨_,⟨_,_,_,e,_⟩,_⟩:=x;exact ZI e
 | rng lo hi=>obtain⟨_,_,_,e⟩:=x;exact ZI e
 | frz ob u=>obtain⟨e,_⟩:=x;exact ZI e
 | tbl ps=>exact ZI (show h.get? a=some _ from x)
 | met f y=>exact ZI (show h.get? a=some _ from x)
 | ext φ => obtain⟨_,⟨_,e⟩,_⟩:=x;exact ZI e
theorem Paired.mapP {α β : Type}{F G : α->β->Prop}:∀{d : List α} {c : List β},Paired F d c->(∀a b,F a b->G a b)->Paired G d c
 | _,_,.nil,_=>.nil
 | _,_,.cons r t,f=>.cons (f _ _ r) (Paired.mapP t f)
theorem dz.stay (x:dz P w H h a o)(k:∀b u,(b=a\/H b=some (.own a))->h.get? b=some u->h'.get? b=some u)
  (A:∀b,H b=some (.own a)->H' b=some (.own a)) (ht:∀b xs,H b=some (.tup xs)->H' b=some (.tup xs)):dz P w H' h' a o:=by
 induction o with
 | lst xs=>obtain⟨z,i,n,r,e⟩:=x;exact⟨z,i,n,r,k _ _ (.inl rfl) e⟩
 | tup xs=>obtain⟨z,i,r,g,e,c⟩:=x;exact⟨z,i,r,g,k _ _ (.inl rfl) e,c⟩
 | dK kvs=>obtain⟨z,y,s,r,g,es,ep,e,c⟩:=x;exact⟨z,y,s,r,g,es,ep,k _ _ (.inl rfl) e,c⟩
 | dT kvs =>
  obtain⟨z,y,xs,r,g,es,ep,e,c⟩:=x;exact⟨z,y,xs,Paired.mapP r λp q z=>⟨z.1,ht _ _ z.2.1,z.2.2⟩,g,es,ep,k _ _ (.inl rfl) e,c⟩
 | set S n=>obtain⟨g,es,ep,t,e,c⟩:=x;exact⟨g,es,ep,t,k _ _ (.inl rfl) e,c⟩
 | ins C dx fs =>
  obtain⟨d,z,ne,e,j,⟨l,es,ep,m,c⟩,r⟩:=x;exact⟨A _ d,z,ne,k _ _ (.inl rfl) e,j,⟨l,es,ep,k _ _ (.inr d) m,c⟩,r⟩
 | own y=>obtain⟨g,e⟩:=x;exact⟨g,k _ _ (.inl rfl) e⟩
 | xd fs=>obtain⟨j,⟨l,es,ep,e,c⟩,r⟩:=x;exact⟨j,⟨l,es,ep,k _ _ (.inl rfl) e,c⟩,r⟩
 | rng lo hi=>obtain⟨t,u,v,e⟩:=x;exact⟨t,u,v,k _ _ (.inl rfl) e⟩
 | frz g u ih=>obtain⟨e,q⟩:=x;exact⟨k _ _ (.inl rfl) e,ih q⟩
 | tbl ps =>
  have e:h.get? a=some { cls:=.none,data:=.fields ps }:=x;show h'.get? a=some { cls:=.none,data:=.fields ps };exact k a _ (.inl rfl) e
 | met f y =>
  have e:h.get? a=some (PySem.W.methodObj (.ref f) (.ref y)):=x;show h'.get? a=some (PySem.W.methodObj (.ref f) (.ref y));exact k a _ (.inl rfl) e
 | ext φ => obtain⟨p,⟨o,e⟩,st⟩:=x;exact⟨st _ _ p λo q=>k _ _ (.inl rfl) q,⟨o,k _ _ (.inl rfl) e⟩,st⟩
theorem HOk.lt (x:HOk P w H h)(e:H a=some o):a < h.objs.size:=(x a o e).lt
theorem HOk.fresh (x:HOk P w H h)(e:h.objs.size<=a):H a=none:=by
 cases q:H a with
 | none=>rfl
 | some u=>exact absurd (ZZ (x.lt q) e) (Z9 _)
theorem HOk.kept (x:HOk P w H h)(k:∀b u,h.get? b=some u->h'.get? b=some u):HOk P w H h':=λa o e =>
 (x a o e).stay (λb u _ q=>k b u q) (λ_ q=>q) λ_ _ q=>q
theorem HOk.laid (x:HOk P w H h)(k:∀b u,h.get? b=some u->h'.get? b=some u)(hp:h.objs.size<=a)(new:dz P w (upd H a o) h' a o):HOk P w (upd H a o) h':=λb u e=>by
 have d:=x.fresh hp
 by_cases hb:b=a
 ·subst hb;rw[aY]at e;cases e;exact new
 ·rw[aB hb]at e
  exact(x b u e).stay (λc v _ q=>k c v q) (λc q=>by rw[aB (bu q d)];exact q) λc xs q=>by rw[aB (bu q d)];exact q
end
def Rd (H:Hp) (a:Addr) (u:HO):Prop:=H a=some u\/∃o,H a=some (.frz o u)
theorem Rd.ok {P:T3}{w:T4}{h:Heap}{a:Addr}{u:HO}(r:Rd H a u)(x:HOk P w H h):dz P w H h a u:=by
 rcases r with r|⟨o,r⟩
 ·exact x a u r
 ·obtain⟨_,q⟩:=x a _ r
  exact q
def Mut:Option HO->Prop
 | some (.lst _)=>True
 | some (.dK _)=>True
 | some (.dT _)=>True
 | some (.set _ _)=>True
 | some (.ins _ _ _)=>True
 | some (.ext _)=>True
 | _=>False
section
variable {P:T3} {w:T4} {H:Hp} {h h':Heap} {x e:Addr} {o':HO}
theorem HOk.write (ok:HOk P w H h)(f:Mut (H x))(he:e=x\/H e=some (.own x))(k:∀b u,b≠e->h.get? b=some u->h'.get? b=some u)(g:∃u,h'.get? e=some u)
  (new:dz P w (upd H x o') h' x o'):HOk P w (upd H x o') h':=λb u q=>by
 have a:∀c y,H c=some (.own y)->c≠x:=λc y r z=>by subst z;rw[r]at f;exact f
 have d:∀c xs,H c=some (.tup xs)->c≠x:=λc xs r z=>by subst z;rw[r]at f;exact f
 by_cases hb:b=x
 ·subst hb;rw[aY]at q;cases q;exact new
 ·rw[aB hb]at q
  by_cases hbe:b=e
  ·have i:H b=some (.own x):=by
    rcases he with z|z
    ·exact absurd (hbe.trans z) hb
    ·rw[hbe];exact z
   rw[q]at i;cases i;obtain⟨v,j⟩:=g;exact⟨v,by rw[hbe];exact j⟩
  ·refine(ok b u q).stay (λc v hc r=>k c v ?_ r) (λc r=>by rw[aB (a c b r)];exact r) λc xs r=>by rw[aB (d c xs r)];exact r
   rcases hc with rfl|hc
   ·exact hbe
   ·rintro rfl
    rcases he with z|z
    ·exact a c b hc z
    ·rw[hc]at z;cases z;exact hb rfl
end
structure Un (fs ex:List Addr) (H H':Hp) (h h':Heap):Prop where
 keep:∀b o,h.get? b=some o->H b=none->b∉fs->b∉ex->h'.get? b=some o
 slot:∀b o,h.get? b=some o->H b=none->b∈fs->b∉ex->∃sl,h'.get? b=some { o with slots:=sl }
 free:∀b o,h.get? b=some o->H b=none->b∉ex->H' b=none
 there:∀b o,h.get? b=some o->b∉ex->∃o',h'.get? b=some o'
 tups:∀b xs,H b=some (.tup xs)->H' b=some (.tup xs)
 frzs:∀b o u,H b=some (.frz o u)->H' b=some (.frz o u)
 tbls:∀b ps,H b=some (.tbl ps)->∃more,H' b=some (.tbl (ps++more))
section
variable {fs fs' ex ex':List Addr} {H H1 H2:Hp} {h h1 h2 h':Heap} {a x e:Addr} {o:HO}
theorem Un.any (u:Un fs ex H H1 h h1){c:Obj}(q:h.get? b=some c)(n:H b=none)(hx:b∉ex):∃sl,h1.get? b=some { c with slots:=sl }:=by
 by_cases hb:b∈fs
 ·exact u.slot b c q n hb hx
 ·exact⟨c.slots,u.keep b c q n hb hx⟩
theorem Un.kept (k:∀b u,h.get? b=some u->h'.get? b=some u):Un fs ex H H h h' :=
 ⟨λb c q _ _ _=>k b c q,λb c q _ _ _=>⟨c.slots,k b c q⟩,λ_ _ _ n _=>n,λb c q _=>⟨c,k b c q⟩,λ_ _ q=>q,λ_ _ _ q=>q,λ_ ps q=>⟨#[],by rw[q];simp⟩⟩
theorem Un.refl:Un fs ex H H h h:=Un.kept λ_ _ q=>q
theorem Un.laid (k:∀b u,h.get? b=some u->h'.get? b=some u)(hp:h.objs.size<=a)(hn:H a=none):Un fs ex H (upd H a o) h h' where
 keep:=λb u q _ _ _=>k b u q
 slot:=λb u q _ _ _=>⟨u.slots,k b u q⟩
 free:=λb u q n _=>by rw[aB (ZN (ZZ (ZI q) hp))];exact n
 there:=λb u q _=>⟨u,k b u q⟩
 tups:=λb xs q=>by rw[aB (bu q hn)];exact q
 frzs:=λb u xs q=>by rw[aB (bu q hn)];exact q
 tbls:=λb ps q=>⟨#[],by rw[aB (bu q hn),q];simp⟩
theorem Un.write (c:Mut (H x))(he:e=x\/H e=some (.own x))(k:∀b u,b≠e->h.get? b=some u->h'.get? b=some u)(f:∃u,h'.get? e=some u):Un fs ex H (upd H x o) h h':=by
 have g:∀b,H b=none->b≠x:=λb n z=>by subst z;rw[n]at c;exact c
 have i:∀b,H b=none->b≠e:=λb n z=>by
  subst z;rcases he with r|r
  ·exact g b n r
  ·rw[n]at r;cases r
 have d:∀b u,H b=some u->¬Mut (some u)->b≠x:=λb u q j z=>by subst z;rw[q]at c;exact j c
 refine⟨λb u q n _ _=>k b u (i b n) q,λb u q n _ _=>⟨u.slots,k b u (i b n) q⟩,λb u q n _=>by rw[aB (g b n)];exact n,λb u q _ => ?_,
  λb xs q=>by rw[aB (d b _ q λz=>z)];exact q,λb u xs q=>by rw[aB (d b _ q λz=>z)];exact q,λb ps q=>⟨#[],by rw[aB (d b _ q λz=>z),q];simp⟩⟩
 by_cases hbe:b=e
 ·subst hbe;exact f
 ·exact⟨u,k b u hbe q⟩
end
def trk (h:Heap) (H:Hp):List Addr:=(List.range h.objs.size).filter λa=>(H a).isSome
def tw (h:Heap) (H:Hp):Heap:=PySem.W.hideAll h (trk h H)
theorem AA (h:Heap)(H:Hp):(tw h H).objs.size=h.objs.size:=PySem.W.hideAll_size _ _
theorem BS {h:Heap}{o:Obj}(e:h.get? b=some o)(n:H b=none):(tw h H).get? b=some o :=
 PySem.W.hideAll_get _ e λa=>by
  have q:(H b).isSome=true:=(List.mem_filter.mp a).2;rw[n]at q;simp at q
theorem Et {h:Heap}{o:Obj}(e:(tw h H).get? b=some o):h.get? b=some o/\H b=none:=by
 have a:h.get? b=some o:=PySem.W.of_hideAll (trk h H) e;refine⟨a,?_⟩;cases q:H b with
 | none=>rfl
 | some x =>
  have c:b∈trk h H:=List.mem_filter.mpr ⟨List.mem_range.mpr (ZI a),by simp[q]⟩;have z:(tw h H).get? b=none:=PySem.W.hideAll_none (trk h H) c;rw[z]at e;cases e
def Eu (g h:Heap) (L:Addr):List (Addr × Obj):=(List.range h.objs.size).filterMap λa=>if a=L\/(g.get? a).isSome=true then none else (h.get? a).map λo=>(a,o)
def rest (g h:Heap) (L d:Addr):List (Addr × Obj):=(Eu g h L).filter λp=>decide (p.1≠d)
structure Mod (K:ZX) (mg:Str->Option T0) (base:Heap):Prop where
 kin:K.In base
 glob:base.Ns mainGlobals mg
 blt:∃mb,base.Ns builtinsNs mb/\∀x:Str,x ≠ "__name__"->mb x=bootBuiltins x
 nolimit:base.NoLimit
structure Cx where
 prog:T3
 w:T4
 K:ZX
 mg:Str->Option T0
 base:Heap
 A:T2
 N:List Str
 s₀ : T1
 H₀ : Hp
 env:Env
 outer:List Env
 stack:List Env
 ex:List Addr
 fn:Str->Bool
 calm:Bool
 pn:List (Addr × Obj)
 xe:T0->T1->Prop
def frs (l:List Env):List Addr:=l.filterMap (·.frame)
abbrev Cx.fs (X:Cx):List Addr:=frs X.outer
def Vis (sc:Scope) (x:Str):Prop:=sc.names.lookup x=some .local\/sc.names.lookup x=some .cell\/sc.names.lookup x=some .free
def Loc (sc:Scope) (x:Str):Prop:=sc.names.lookup x=some .local\/sc.names.lookup x=some .cell
def Ky (env:Env) (h:Heap) (m:Str->Option T0) (x:Str) (u:T0):Prop :=
 (env.kindOf x=some .local/\m x=some u)\/((env.kindOf x=some .cell\/env.kindOf x=some .free)/\∃c,env.cells.lookup x=some c/\h.IsCell c (some u))
structure Cx.Ok (X:Cx):Prop where
 mod:Mod X.K X.mg X.base
 kind:X.env.scope.kind=.function
 glob:X.env.globals=mainGlobals
 blt:X.env.builtins=builtinsNs
 above:X.s₀.heap.objs.size<=X.env.locals
 inj:∀x y c,X.env.cells.lookup x=some c->X.env.cells.lookup y=some c->x=y
 has:∀x,(X.env.kindOf x=some .cell\/X.env.kindOf x=some .free)->∃c,X.env.cells.lookup x=some c
 cab:∀x c,X.fn x=true->X.env.cells.lookup x=some c->X.s₀.heap.objs.size<=c
 hd:X.calm=true->X.A.handled=none
 frames:X.A.frames=some X.stack
 stk:X.stack=X.outer\/(X.stack=X.env :: X.outer/\X.env.frame=some X.env.locals)
 exf:∀b∈X.ex,b≠X.env.locals/\∀x c,X.env.cells.lookup x=some c->c≠b
 bs:∀b o,X.base.get? b=some o->X.s₀.heap.get? b=some o/\X.H₀ b=none
 bsz:X.base.objs.size<=X.s₀.heap.objs.size
 noex:∀b o,X.base.get? b=some o->b∉X.ex
 exfs:∀b∈X.ex,b∉X.fs
 funs:X.s₀.heap.FunFrames X.base X.outer
 frf:∀b∈X.fs,X.H₀ b=none
structure Inv (X:Cx) (pins:List (Addr × Obj)) (σ:List (Option V)) (H:Hp) (s:T1):Prop where
 ok:X.Ok
 os:s.os=X.s₀.os
 bare:AllBare s.gens
 base:Un X.fs X.ex X.H₀ H X.s₀.heap s.heap
 loc:∃m,s.heap.Ns X.env.locals m/\∀(i:Nat) (x:Str) (v:V),X.N[i]? = some x->σ[i]? = some (some v)->Vis X.env.scope x->∃u,bx v u/\Ky X.env s.heap m x u
 cell:∀x c,X.env.cells.lookup x=some c->∃v,s.heap.IsCell c v
 free:H X.env.locals=none
 freeC:∀x c,X.env.cells.lookup x=some c->H c=none
 pin:∀p∈X.pn++pins,s.heap.get? p.1=some p.2/\H p.1=none/\p.1≠X.env.locals/\p.1∉X.fs/\∀v,p.2.data ≠ .cell v
 hok:HOk X.prog X.w H s.heap
 len : σ.length=X.N.length
variable {x:Str}{u:T0}{E:T0->T1->Prop}
section
variable {X:Cx} {pins:List (Addr × Obj)} {σ:List (Option V)} {H H':Hp} {s:T1} {h':Heap}
theorem Cx.Ok.nofr (ok:X.Ok){o:Obj}(e:X.base.get? b=some o):b∉X.fs:=λa=>by
 have:=(ok.funs.mem a).1;rw[e]at this;cases this
theorem Inv.bs (I:Inv X pins σ H s):∀b o,X.base.get? b=some o->s.heap.get? b=some o/\H b=none:=λb o e =>
 ⟨I.base.keep b o (I.ok.bs b o e).1 (I.ok.bs b o e).2 (I.ok.nofr e) (I.ok.noex b o e),I.base.free b o (I.ok.bs b o e).1 (I.ok.bs b o e).2 (I.ok.noex b o e)⟩
theorem Inv.bk (I:Inv X pins σ H s):∀b o,X.base.get? b=some o->s.heap.get? b=some o:=λb o e=>(I.bs b o e).1
theorem Inv.mod (I:Inv X pins σ H s):Mod X.K X.mg X.base:=I.ok.mod
theorem Inv.kIn (I:Inv X pins σ H s):X.K.In s.heap:=I.ok.mod.kin.keeps I.bk
theorem Inv.lt (I:Inv X pins σ H s):X.env.locals < s.heap.objs.size:=let ⟨_,hn,_⟩:=I.loc;hn.lt
theorem Inv.sz (I:Inv X pins σ H s):X.s₀.heap.objs.size<=s.heap.objs.size:=ZM I.ok.above (Y6 I.lt)
theorem Inv.nofs (I:Inv X pins σ H s){a:Addr}(h:s.heap.objs.size<=a):a∉X.fs:=λb=>by
 obtain⟨_,o,c,_⟩:=I.ok.funs.mem b;exact absurd (ZZ (ZI c) (ZM I.sz h)) (Z9 _)
theorem Inv.cne (I:Inv X pins σ H s):∀x c,X.env.cells.lookup x=some c->c≠X.env.locals:=λx c e z=>by
 obtain⟨v,o,b,hd⟩:=I.cell x c e;obtain⟨m,⟨o',es,ep,a,hd',_⟩,_⟩:=I.loc;rw[z,a]at b;cases b;rw[hd']at hd;cases hd
theorem Inv.funs (I:Inv X pins σ H s):s.heap.FunFrames X.base X.outer:=by
 have a:∀(l:List Env),(∀b∈frs l,b∈X.fs)->X.s₀.heap.FunFrames X.base l->s.heap.FunFrames X.base l:=by
  intro l
  induction l with
  | nil=>intro _ _;trivial
  | cons env r ih =>
   intro g h;obtain⟨i,⟨L,o,f,m,j,hd⟩,k⟩:=h;have d:L∈X.fs:=g L (by unfold frs;rw[X5,f];exact ZV);obtain⟨sl,e⟩:=I.base.slot L o j (I.ok.frf L d) d λz=>I.ok.exfs L z d;exact⟨i,⟨L,_,f,m,e,hd⟩,ih (λb c=>g b (by unfold frs;rw[X5,f];exact ZW _ c)) k⟩
 exact a X.outer (λ_ c=>c) I.ok.funs
theorem Inv.stack (I:Inv X pins σ H s):s.heap.FunFrames X.base X.stack:=by
 rcases I.ok.stk with e|⟨e,hf⟩
 ·rw[e];exact I.funs
 ·rw[e]
  obtain⟨m,a,_⟩:=I.loc;refine .cons (by rw[I.ok.kind];decide) hf a ?_ I.funs;exact Heap.get?_none_of_le (ZM I.ok.bsz I.ok.above)
theorem Inv.stkSub (I:Inv X pins σ H s):∀b∈frs X.stack,b∈X.env.locals :: X.fs:=λb a=>by
 rcases I.ok.stk with e|⟨e,hf⟩
 ·rw[e]at a;exact ZW _ a
 ·rw[e]at a
  unfold frs at a;rw[X5,hf]at a;exact a
theorem Inv.stkFree (I:Inv X pins σ H s):∀b∈frs X.stack,H b=none:=λb a=>by
 rcases VI.mp (I.stkSub b a) with e|a
 ·rw[e];exact I.free
 ·obtain⟨_,o,c,_⟩:=I.ok.funs.mem a
  exact I.base.free b o c (I.ok.frf b a) λz=>I.ok.exfs b z a
theorem Inv.step {g':Array GenState}{t':Nat}{d':Drawn}{ch:List Addr}(I:Inv X pins σ H s)
  (f:∀b∈ch,(b∈X.ex\/X.s₀.heap.objs.size<=b)/\b≠X.env.locals/\(∀x c,X.env.cells.lookup x=some c->c≠b)/\∀p∈X.pn++pins,p.1≠b)
  (keep:∀b o,b≠X.env.locals->b∉X.fs->b∉ch->s.heap.get? b=some o->H b=none->h'.get? b=some o)
  (slot:∀b o,b≠X.env.locals->b∈X.fs->b∉ch->s.heap.get? b=some o->H b=none->∃sl,h'.get? b=some { o with slots:=sl }) (free:∀b o,b∉ch->s.heap.get? b=some o->H b=none->H' b=none)
  (there:∀b o,b∉ch->s.heap.get? b=some o->∃o',h'.get? b=some o')
  (tups:∀b xs,H b=some (.tup xs)->H' b=some (.tup xs)) (frzs:∀b o u,H b=some (.frz o u)->H' b=some (.frz o u)) (tbls:∀b ps,H b=some (.tbl ps)->∃more,H' b=some (.tbl (ps++more)))
  (ns:∀m,s.heap.Ns X.env.locals m->h'.Ns X.env.locals m) (hok:HOk X.prog X.w H' h') (K:AllBare g') :
  Inv X pins σ H' { s with heap:=h',gens:=g',drawn:=d',toks:=t' }:=by
 have B:∀b o,X.s₀.heap.get? b=some o->b≠X.env.locals:=λb o e=>ZN (ZZ (ZI e) I.ok.above);have t:∀b o,X.s₀.heap.get? b=some o->b∉X.ex->b∉ch:=λb o e a w=>by
  rcases (f b w).1 with z|z
  ·exact a z
  ·exact absurd (ZZ (ZI e) z) (Z9 _)
 have g:∀x c,X.env.cells.lookup x=some c->∀v,s.heap.IsCell c v->h'.IsCell c v:=λx c e v ⟨o,y,hd⟩=>by
  have h:c∉ch:=λz=>(f c z).2.2.1 x c e rfl
  by_cases hc:c∈X.fs
  ·obtain⟨sl,q⟩:=slot c o (I.cne x c e) hc h y (I.freeC x c e)
   exact⟨_,q,hd⟩
  ·exact⟨o,keep c o (I.cne x c e) hc h y (I.freeC x c e),hd⟩
 refine⟨I.ok,I.os,K,⟨λb o e n w a => ?_,λb o e n w a => ?_,λb o e n a => ?_,λb o e a => ?_,λb xs e=>tups b xs (I.base.tups b xs e),λb o xs e=>frzs b o xs (I.base.frzs b o xs e),λb ps e => ?_⟩,?_,λx c e => ?_,?_,λx c e => ?_,λp D => ?_,hok,I.len⟩
 ·exact keep b o (B b o e) w (t b o e a) (I.base.keep b o e n w a) (I.base.free b o e n a)
 ·obtain⟨sl,j⟩:=I.base.slot b o e n w a
  obtain⟨C,A⟩:=slot b _ (B b o e) w (t b o e a) j (I.base.free b o e n a);exact⟨C,A⟩
 ·obtain⟨o',j⟩:=I.base.there b o e a
  exact free b o' (t b o e a) j (I.base.free b o e n a)
 ·obtain⟨o',j⟩:=I.base.there b o e a
  exact there b o' (t b o e a) j
 ·obtain⟨J,j⟩:=I.base.tbls b ps e
  obtain⟨G,A⟩:=tbls b _ j;exact⟨J++G,by rw[A,Array.append_assoc]⟩
 ·obtain⟨m,M,F⟩:=I.loc
  refine⟨m,ns m M,λi x v j A L => ?_⟩;obtain⟨u,r,l⟩:=F i x v j A L;refine⟨u,r,?_⟩;rcases l with l|⟨k,c,e,z⟩
  ·exact .inl l
  ·exact .inr ⟨k,c,e,g x c e _ z⟩
 ·obtain⟨v,z⟩:=I.cell x c e
  exact⟨v,g x c e v z⟩
 ·obtain⟨m,⟨o,_,_,y,_⟩,_⟩:=I.loc
  exact free _ o (λz=>(f _ z).2.1 rfl) y I.free
 ·obtain⟨v,o,y,hd⟩:=I.cell x c e
  exact free c o (λz=>(f c z).2.2.1 x c e rfl) y (I.freeC x c e)
 ·obtain⟨e,n,ne,E,d⟩:=I.pin p D
  have h:p.1∉ch:=λz=>(f p.1 z).2.2.2 p D rfl;exact⟨keep p.1 p.2 ne E h e n,free p.1 p.2 h e n,ne,E,d⟩
theorem Inv.un {t':Nat}(I:Inv X pins σ H s)(u:Un X.fs [] H H' s.heap h')(hok:HOk X.prog X.w H' h'):Inv X pins σ H' { s with heap:=h',toks:=t' }:=by
 obtain⟨m,⟨o,es,ep,g,r⟩,_⟩:=id I.loc;obtain⟨sl,i⟩:=u.any g I.free (by simp);exact I.step (g':=s.gens) (d':=s.drawn) (ch:=[]) (λ_ z=>nomatch z) (λb o _ c _ e n=>u.keep b o e n c (by simp)) (λb o _ c _ e n=>u.slot b o e n c (by simp)) (λb o _ e n=>u.free b o e n (by simp)) (λb o _ e=>u.there b o e (by simp)) u.tups u.frzs u.tbls (λm' j=>by
  obtain⟨o',d,f,a,h⟩:=j;rw[g]at a;cases a;exact⟨_,d,f,i,h⟩) hok I.bare
theorem Inv.call {g':Array GenState}{t':Nat}{d':Drawn}{ch:List Addr}(I:Inv X pins σ H s)(u:Un (frs X.stack) ch H H' s.heap h')(hok:HOk X.prog X.w H' h')(k:AllBare g')
  (a:∀b∈ch,(b∈X.ex\/X.s₀.heap.objs.size<=b)/\b≠X.env.locals/\(∀x c,X.env.cells.lookup x=some c->c≠b)/\∀p∈X.pn++pins,p.1≠b) :
  Inv X pins σ H' { s with heap:=h',gens:=g',drawn:=d',toks:=t' }:=by
 obtain⟨m,⟨o,es,ep,i,r⟩,_⟩:=id I.loc;obtain⟨sl,f⟩:=u.any i I.free λz=>(a _ z).2.1 rfl;exact I.step (ch:=ch) a (λb o f l hc e n=>u.keep b o e n (λz=>(VI.mp (I.stkSub b z)).elim f l) hc) (λb o _ _ hc e n=>u.any e n hc) (λb o hc e n=>u.free b o e n hc) (λb o hc e=>u.there b o e hc) u.tups u.frzs u.tbls (λm' q=>by
  obtain⟨o',g,h,d,j⟩:=q;rw[i]at d;cases d;exact⟨_,g,h,f,j⟩) hok k
theorem Inv.turned {t':Nat}{it:Addr}(I:Inv X pins σ H s)(k:∀b o,b≠it->s.heap.get? b=some o->h'.get? b=some o)(hn:H it=none)(d:it≠X.env.locals)
  (h1:it∈X.ex\/X.s₀.heap.objs.size<=it) (h2:∀x c,X.env.cells.lookup x=some c->c≠it) (f:∀p∈X.pn++pins,p.1≠it):Inv X pins σ H { s with heap:=h',toks:=t' }:=by
 have a:∀b u,H b=some u->b≠it:=λb u e z=>by rw[z,hn]at e;cases e
 refine I.step (g':=s.gens) (d':=s.drawn) (ch:=[it]) (λb h => ?_) (λb o _ _ hc e _=>k b o (λz=>hc (by simp[z])) e) (λb o _ _ hc e _=>⟨o.slots,k b o (λz=>hc (by simp[z])) e⟩) (λ_ _ _ _ n=>n)
  (λb o hc e=>⟨o,k b o (λz=>hc (by simp[z])) e⟩) (λ_ _ e=>e) (λ_ _ _ e=>e) (λb ps e=>⟨#[],by rw[e];simp⟩) (λm i => ?_) (λb u e => ?_) I.bare
 ·have e:b=it:=by simpa using h
  subst e;exact⟨h1,d,h2,f⟩
 ·obtain⟨o,es,ep,g,r⟩:=i
  exact⟨o,es,ep,k _ o (XO d) g,r⟩
 ·refine(I.hok b u e).stay (λc v hc q=>k c v ?_ q) (λ_ q=>q) λ_ _ q=>q
  rcases hc with z|z
  ·rw[z];exact a b u e
  ·exact a c _ z
theorem Inv.tok (I:Inv X pins σ H s)(t:Nat):Inv X pins σ H { s with toks:=t }:=I.un (h':=s.heap) (t':=t) Un.refl I.hok
theorem Inv.kept {t':Nat}(I:Inv X pins σ H s)(k:∀b u,s.heap.get? b=some u->h'.get? b=some u):Inv X pins σ H { s with heap:=h',toks:=t' }:=I.un (Un.kept k) (I.hok.kept k)
theorem Inv.laid {a:Addr}{o:HO}{t':Nat}(I:Inv X pins σ H s)(k:∀b u,s.heap.get? b=some u->h'.get? b=some u)(hp:s.heap.objs.size<=a)(new:dz X.prog X.w (upd H a o) h' a o) :
  Inv X pins σ (upd H a o) { s with heap:=h',toks:=t' }:=I.un (Un.laid k hp (I.hok.fresh hp)) (I.hok.laid k hp new)
theorem Inv.write {x e:Addr}{o:HO}{t':Nat}(I:Inv X pins σ H s)(c:Mut (H x))(he:e=x\/H e=some (.own x))(k:∀b u,b≠e->s.heap.get? b=some u->h'.get? b=some u)(a:∃u,h'.get? e=some u)
  (new:dz X.prog X.w (upd H x o) h' x o):Inv X pins σ (upd H x o) { s with heap:=h',toks:=t' }:=I.un (Un.write c he k a) (I.hok.write c he k a new)
theorem Inv.pins_of {pins':List (Addr × Obj)}(I:Inv X pins σ H s)(h:∀p∈pins',s.heap.get? p.1=some p.2/\H p.1=none/\p.1≠X.env.locals/\p.1∉X.fs/\∀v,p.2.data ≠ .cell v):Inv X pins' σ H s :=
 ⟨I.ok,I.os,I.bare,I.base,I.loc,I.cell,I.free,I.freeC,λp a=>(List.mem_append.mp a).elim (λz=>I.pin p (WI _ z)) (h p),I.hok,I.len⟩
theorem vh {N:List Str}(e:N.Nodup){i j:Nat}(a:N[i]? = some x)(b:N[j]? = some x):i=j:=by
 obtain⟨h1,c⟩:=List.getElem?_eq_some_iff.mp a;obtain⟨h2,d⟩:=List.getElem?_eq_some_iff.mp b;exact(List.getElem_inj e).mp (c.trans d.symm)
theorem rM {M:Model}{A:T2}{i:Nat}{v:V}{Q:Unit->T1->Prop}(I:Inv X pins σ H s)(hN:X.N.Nodup)(hi:X.N[i]? = some x)(hx:Loc X.env.scope x)(r:bx v u)
  (h:∀R,Inv X pins (σ.set i (some v)) H R->(∃a,Heap.SameBut a s.heap R.heap/\(a=X.env.locals\/X.env.cells.lookup x=some a))->Q () R) (hf:X.fn x=true\/X.env.scope.names.lookup x=some .local:=by first|exact .inl rfl|exact .inr rfl|assumption):wpAny M A (storeName X.env x u) Q E s:=by
 obtain⟨m,hn,hl⟩:=id I.loc;have J:(X.env.scope.kind == .class || (X.env.scope.kind == .module && X.env.locals != X.env.globals))=false:=by rw[I.ok.kind];rfl
 have B:i < σ.length:=by rw[I.len];exact(List.getElem?_eq_some_iff.mp hi).1
 have F:=I.cne;have g:∀{a:Addr} {h':Heap},(∃o,s.heap.get? a=some o/\H a=none)->Heap.SameBut a s.heap h'->HOk X.prog X.w H h':=λ{a h'} ha f b ob e=>by
  obtain⟨_,_,t⟩:=ha;refine(I.hok b ob e).stay (λc O hc q=>(f.2 c ?_).trans q) (λ_ q=>q) λ_ _ q=>q;rintro rfl;rcases hc with rfl|hc
  ·rw[t]at e;cases e
  ·rw[t]at hc;cases hc
 rcases hx with hk|hk
 ·refine wpAny_storeName_local hk hn (λh' T f => ?_) J
  obtain⟨oL,_,_,Y,_⟩:=id hn;refine h _ ⟨I.ok,I.os,I.bare,⟨λb o e n D hx => ?_,λb o e n D hx => ?_,I.base.free,λb o e hx => ?_,I.base.tups,I.base.frzs,I.base.tbls⟩,⟨_,T,λj y v' l w Z => ?_⟩,λy c e => ?_,I.free,I.freeC,λp U => ?_,g ⟨oL,Y,I.free⟩ f,by simpa using I.len⟩ ⟨_,f,.inl rfl⟩
  ·exact(f.2 b (ZN (ZZ (ZI e) I.ok.above))).trans (I.base.keep b o e n D hx)
  ·obtain⟨sl,l⟩:=I.base.slot b o e n D hx
   exact⟨sl,(f.2 b (ZN (ZZ (ZI e) I.ok.above))).trans l⟩
  ·obtain⟨o',l⟩:=I.base.there b o e hx
   exact⟨o',(f.2 b (ZN (ZZ (ZI e) I.ok.above))).trans l⟩
  ·by_cases G:j=i
   ·subst G
    rw[hi]at l;cases l;rw[List.getElem?_set_self B]at w;cases w;exact⟨u,r,.inl ⟨hk,by simp⟩⟩
   ·rw[ZP (XO G)]at w
    obtain⟨u',S,q⟩:=hl j y v' l w Z;refine⟨u',S,?_⟩;rcases q with ⟨k,e⟩|⟨k,c,e,z⟩
    ·refine .inl ⟨k,?_⟩
     have:y≠x:=λe=>G (vh hN l (e ▸ hi));simp[this,e]
    ·exact .inr ⟨k,c,e,z.sameBut f (F y c e)⟩
  ·obtain⟨O,z⟩:=I.cell y c e
   exact⟨O,z.sameBut f (F y c e)⟩
  ·obtain⟨e,n,ne,W,d⟩:=I.pin p U
   exact⟨(f.2 p.1 ne).trans e,n,ne,W,d⟩
 ·have C:X.fn x=true:=by
   rcases hf with z|z
   ·exact z
   ·rw[z]at hk;cases hk
  obtain⟨c,hc⟩:=I.ok.has x (.inl hk);obtain⟨O,z⟩:=I.cell x c hc;refine wpAny_storeName_cell I.ok.kind hk hc z (λh' L f => ?_);obtain⟨oc,K,N⟩:=id z;refine h { s with heap:=h' } ⟨I.ok,I.os,I.bare,⟨λb o e n D hx => ?_,λb o e n D hx => ?_,I.base.free,λb o e hx => ?_,I.base.tups,I.base.frzs,I.base.tbls⟩,⟨m,hn.sameBut f (XO (F x c hc)),λj y v' l w Z => ?_⟩,λy P e => ?_,I.free,I.freeC,λp U => ?_,g ⟨oc,K,I.freeC x c hc⟩ f,by simpa using I.len⟩ ⟨c,f,.inr hc⟩
  ·exact(f.2 b (ZN (ZZ (ZI e) (I.ok.cab x c C hc)))).trans (I.base.keep b o e n D hx)
  ·obtain⟨sl,l⟩:=I.base.slot b o e n D hx
   exact⟨sl,(f.2 b (ZN (ZZ (ZI e) (I.ok.cab x c C hc)))).trans l⟩
  ·obtain⟨o',l⟩:=I.base.there b o e hx
   exact⟨o',(f.2 b (ZN (ZZ (ZI e) (I.ok.cab x c C hc)))).trans l⟩
  ·by_cases G:j=i
   ·subst G
    rw[hi]at l;cases l;rw[List.getElem?_set_self B]at w;cases w;exact⟨u,r,.inr ⟨.inl hk,c,hc,L⟩⟩
   ·rw[ZP (XO G)]at w
    obtain⟨u',S,q⟩:=hl j y v' l w Z;refine⟨u',S,?_⟩;rcases q with q|⟨k,P,e,z'⟩
    ·exact .inl q
    ·refine .inr ⟨k,P,e,z'.sameBut f ?_⟩
     rintro rfl;exact G (vh hN l (I.ok.inj _ _ _ e hc ▸ hi))
  ·by_cases hcc:P=c
   ·subst hcc;exact⟨_,L⟩
   ·obtain⟨w2,z2⟩:=I.cell y P e
    exact⟨w2,z2.sameBut f hcc⟩
  ·obtain⟨e,n,ne,W,d⟩:=I.pin p U
   refine⟨(f.2 p.1 ?_).trans e,n,ne,W,d⟩;intro q;rw[q,K]at e;have q':oc=p.2:=ZT e;exact d O (by rw[<-q'];exact N)
theorem vj {M:Model}{A:T2}{i:Nat}{v:V}{Q:Unit->T1->Prop}(I:Inv X pins σ H s)(b:X.N.Nodup)(hi:X.N[i]? = some x)(hx:Loc X.env.scope x)(r:bx v u)
  (h:∀a,Inv X pins (σ.set i (some v)) H a->Q () a) (c:X.fn x=true\/X.env.scope.names.lookup x=some .local:=by first|exact .inl rfl|exact .inr rfl|assumption):wpAny M A (storeName X.env x u) Q E s :=
 rM I b hi hx r (λa d _=>h a d) c
theorem Inv.call' {a:T1}{ch:List Addr}(I:Inv X pins σ H s)(g:a.os=s.os)(u:Un (frs X.stack) ch H H' s.heap a.heap)(hok:HOk X.prog X.w H' a.heap)(f:AllBare a.gens)
  (d:∀b∈ch,(b∈X.ex\/X.s₀.heap.objs.size<=b)/\b≠X.env.locals/\(∀x c,X.env.cells.lookup x=some c->c≠b)/\∀p∈X.pn++pins,p.1≠b):Inv X pins σ H' a:=by
 obtain⟨h',g',d',t',o'⟩:=a;have e:o'=s.os:=g;subst e;exact I.call (g':=g') (t':=t') (d':=d') u hok f d
end
abbrev XK:=T0->Option Addr->Hp->Prop
abbrev St:=List (Option V)
abbrev VK:=V->Hp->Prop
abbrev TE:=St->Hp->VK->Prop
abbrev TT:=St->Hp->(Bool->Hp->Prop)->Prop
abbrev TA:=St->Hp->(List V->Hp->Prop)->Prop
structure px where
 nx:St->Hp->Prop
 rt:VK
 bk:St->Hp->Prop:=λ_ _=>False
 ct:St->Hp->Prop:=λ_ _=>False
abbrev TS:=px->St->Hp->Prop
def EP (X:Cx) (pins:List (Addr × Obj)) (σ:St) (Q:VK) (u:T0) (s':T1):Prop:=∃v H',Inv X pins σ H' s'/\bx v u/\Q v H'
def TP (X:Cx) (pins:List (Addr × Obj)) (σ:St) (Q:Bool->Hp->Prop) (b:Bool) (s':T1):Prop:=∃H',Inv X pins σ H' s'/\Q b H'
def AP (X:Cx) (pins:List (Addr × Obj)) (σ:St) (Q:List V->Hp->Prop) (us:List T0) (s':T1):Prop:=∃vs H',Inv X pins σ H' s'/\aR vs us/\Q vs H'
def SP (X:Cx) (pins:List (Addr × Obj)) (D:px) (f:Flow) (s':T1):Prop :=
 match f with
 | .next=>∃σ' H',Inv X pins σ' H' s'/\D.nx σ' H'
 | .brk=>∃σ' H',Inv X pins σ' H' s'/\D.bk σ' H'
 | .cont=>∃σ' H',Inv X pins σ' H' s'/\D.ct σ' H'
 | .ret u=>∃v σ' H',Inv X pins σ' H' s'/\bx v u/\D.rt v H'
def PE (X:Cx) (e:Expr) (t:TE):Prop :=
 ∀(pins:List (Addr × Obj)) (s:T1) (σ:St) (H:Hp) (Q:VK),Inv X pins σ H s->t σ H Q->wpAny (model X.prog X.w) X.A (eval e X.env) (EP X pins σ Q) X.xe s
def PT (X:Cx) (e:Expr) (t:TT):Prop :=
 ∀(pins:List (Addr × Obj)) (s:T1) (σ:St) (H:Hp) (Q:Bool->Hp->Prop),Inv X pins σ H s->t σ H Q->wpAny (model X.prog X.w) X.A (isTrue e X.env (eval e X.env)) (TP X pins σ Q) X.xe s
def PW (X:Cx) (e:Expr) (t:TT):Prop :=
 ∀(whole:Sem T0) (pins:List (Addr × Obj)) (s:T1) (σ:St) (H:Hp) (Q:Bool->Hp->Prop),Inv X pins σ H s->t σ H Q->wpAny (model X.prog X.w) X.A (isTrue e X.env whole) (TP X pins σ Q) X.xe s
theorem PW.pt {X:Cx}{e:Expr}{t:TT}(h:PW X e t):PT X e t:=h _
def PA (X:Cx) (es:List Expr) (t:TA):Prop :=
 ∀(pos:Pos) (pins:List (Addr × Obj)) (s:T1) (σ:St) (H:Hp) (Q:List V->Hp->Prop),Inv X pins σ H s->t σ H Q->wpAny (model X.prog X.w) X.A (spliced (backTo pos (starEach es X.env))) (AP X pins σ Q) X.xe s
def PS (X:Cx) (st:Stmt) (t:TS):Prop :=
 ∀(pins:List (Addr × Obj)) (s:T1) (σ:St) (H:Hp) (D:px),Inv X pins σ H s->t D σ H->wpAny (model X.prog X.w) X.A (exec st X.env) (SP X pins D) X.xe s
def PSs (X:Cx) (st:List Stmt) (t:TS):Prop :=
 ∀(pins:List (Addr × Obj)) (s:T1) (σ:St) (H:Hp) (D:px),Inv X pins σ H s->t D σ H->wpAny (model X.prog X.w) X.A (execs st X.env) (SP X pins D) X.xe s
variable {s:T1}
theorem thn {α : Type}{t:Sem α}{Q b : α->T1->Prop}{M:Model}{A:T2}(h:wpAny M A t Q E s)(c:∀a s,Q a s->b a s):wpAny M A t b E s:=WB h c λ_ _ x=>x
variable {σ:St}{pins:List (Addr × Obj)}
section
variable {X:Cx}
theorem bin {a b:Expr}{ta tb:TE}(ha:PE X a ta)(hb:PE X b tb){R:V->V->Hp->Prop}(I:Inv X pins σ H s)(h:ta σ H λx H1=>tb σ H1 λy c=>R x y c)
  {α : Type} {Q : α->T1->Prop} {f:T0->T0->Sem α}
  (m:∀v u g x y c,Inv X pins σ c g->bx x v->bx y u->R x y c->wpAny (model X.prog X.w) X.A (f v u) Q X.xe g) :
  wpAny (model X.prog X.w) X.A (eval a X.env) (λv e => wpAny (model X.prog X.w) X.A (eval b X.env) (λu d => wpAny (model X.prog X.w) X.A (f v u) Q X.xe d) X.xe e) X.xe s:=by
 refine thn (ha pins s σ H _ I h) λv k ⟨x,H1,j,n,q1⟩ => ?_;refine thn (hb pins k σ H1 _ j q1) λu g ⟨y,c,i,l,q2⟩ => ?_;exact m v u g x y c i n l q2
def Kz (i:Nat):TE:=λσ H Q=>∃v,σ[i]? = some (some v)/\Q v H
def tC (v:V):TE:=λ_ H Q=>Q v H
theorem GE {i:Nat}  {pos:Pos} (f:X.N[i]? = some x) (j:Vis X.env.scope x) (hd:(x == ("__debug__" : Str))=false:=by decide) (b:(x == ("__classdict__" : Str))=false:=by decide):PE X (.Name x pos) (Kz i):=by
 intro pins s σ H Q I h;obtain⟨v,e,h⟩:=h;obtain⟨m,g,d⟩:=I.loc;obtain⟨u,r,l⟩:=d i x v f e j;have a:EP X pins σ Q u s:=⟨v,H,I,r,h⟩;rcases l with ⟨hk,hm⟩|⟨hk,c,hc,hcell⟩
 ·exact wpAny_Name (wpAny_loadName_local I.ok.kind hk g hm a) hd
 ·rcases hk with hk|hk
  ·exact wpAny_Name (wpAny_loadName_cell I.ok.kind hk hc hcell a) hd
  ·exact wpAny_Name (wpAny_loadName_free I.ok.kind hk hc hcell a b) hd
theorem BT {i j pos}:PE X (.Constant (.int i) j pos) (tC (.int i)):=λ_ _ _ H _ I h=>wpAny_Constant_int ⟨.int i,H,I.tok _,⟨_,rfl⟩,h⟩
theorem Jg {b j pos}:PE X (.Constant (.bool b) j pos) (tC (.bl b)):=λ_ _ _ H _ I h=>Constant_bool ⟨.bl b,H,I,rfl,h⟩
theorem GG {j pos}:PE X (.Constant .none j pos) (tC .non):=λ_ _ _ H _ I h=>Constant_none ⟨.non,H,I,rfl,h⟩
theorem GH {x j pos}:PE X (.Constant (.str x) j pos) (tC (.str x)):=λ_ _ _ H _ I h=>Calls.Constant_str ⟨.str x,H,I.tok _,⟨_,rfl⟩,h⟩
def Gl (X:Cx) (x:Str):Prop:=X.env.kindOf x=some .globalImplicit
theorem zw {pos:Pos}{Q:T0->T1->Prop}(I:Inv X pins σ H s)(a:Gl X x)(hm:X.mg x=some u)(h:Q u s)
  (hd:(x == ("__debug__" : Str))=false:=by decide):wpAny (model X.prog X.w) X.A (eval (.Name x pos) X.env) Q E s :=
 Calls.Name_function_global I.ok.kind a (Calls.loadGlobal_global (by rw[I.ok.glob];exact I.mod.glob.keeps I.bk) hm h) hd
theorem jx {pos:Pos}{Q:T0->T1->Prop}(I:Inv X pins σ H s)(a:Gl X x)(hm:X.mg x=none)(b:bootBuiltins x=some u)(h:Q u s)
  (hn:x ≠ "__name__" := by decide) (hd:(x == ("__debug__" : Str))=false:=by decide):wpAny (model X.prog X.w) X.A (eval (.Name x pos) X.env) Q E s:=by
 obtain⟨c,h1,h2⟩:=I.mod.blt;exact Calls.Name_function_global I.ok.kind a (Calls.loadGlobal_builtin (by rw[I.ok.glob];exact I.mod.glob.keeps I.bk) hm (by rw[I.ok.blt];exact h1.keeps I.bk) ((h2 x hn).trans b) h) hd
theorem Ev  {v:V}  {pos:Pos} (a:Gl X x) (hm:X.mg x=some u) (r:bx v u) (hd:(x == ("__debug__" : Str))=false:=by decide):PE X (.Name x pos) (tC v) :=
 λ_ _ _ H _ I h=>zw I a hm ⟨v,H,I,r,h⟩ hd
theorem Ew  {v:V}  {pos:Pos} (a:Gl X x) (hm:X.mg x=none) (b:bootBuiltins x=some u) (r:bx v u) (hn:x ≠ "__name__" := by decide) (hd:(x == ("__debug__" : Str))=false:=by decide):PE X (.Name x pos) (tC v) :=
 λ_ _ _ H _ I h=>jx I a hm b ⟨v,H,I,r,h⟩ hn hd
variable {a b:Expr} {ta tb:TE} {pos:Pos}
def tB (t:TE):TT:=λσ H Q=>t σ H λx H1=>∃c,x=.bl c/\Q c H1
theorem GI {e:Expr}{t:TE}(h:PE X e t)(he:∀c,isTrue e X.env c=(do let v <-c;standAt e.pos;holding [v] (truthy v)):=by intro _;rfl):PT X e (tB t):=by
 intro pins s σ H Q I hw;refine isTrue_plain (thn (h pins s σ H _ I hw) λv i ⟨x,H1,f,g,q1⟩ => ?_) (he _);obtain⟨d,rfl,q⟩:=q1;cases g;exact X0 ⟨H1,f,q⟩
variable {tA tB':TT} {rest:List Expr}
def jy (t u:TT):TT:=λσ H Q=>t σ H λc H1=>if c=true then u σ H1 Q else Q false H1
def tOr (t u:TT):TT:=λσ H Q=>t σ H λc H1=>if c=true then Q true H1 else u σ H1 Q
def eQ (t:TT):TT:=λσ H Q=>t σ H λc H1=>Q (!c) H1
theorem Ex (ha:PT X a tA):PW X (.BoolOp .And [a] pos) tA:=by
 intro f pins s σ H Q I h;refine isTrue_and (thn (ha pins s σ H Q I h) λc d e => ?_);cases c with
 | true=>exact isTrue_and_nil e
 | false=>exact e
theorem GJ (ha:PT X a tA):PW X (.BoolOp .Or [a] pos) tA:=by
 intro f pins s σ H Q I h;refine isTrue_or (thn (ha pins s σ H Q I h) λc d e => ?_);cases c with
 | false=>exact isTrue_or_nil e
 | true=>exact e
theorem GK (ha:PT X a tA)(hb:PW X (.BoolOp .And (b :: rest) pos) tB'):PW X (.BoolOp .And (a :: b :: rest) pos) (jy tA tB'):=by
 intro f pins s σ H Q I h;refine isTrue_and (thn (ha pins s σ H _ I h) λc e ⟨H1,d,q1⟩ => ?_);cases c with
 | true=>exact hb f pins e σ H1 Q d q1
 | false=>exact⟨H1,d,q1⟩
theorem Jh (ha:PT X a tA)(hb:PW X (.BoolOp .Or (b :: rest) pos) tB'):PW X (.BoolOp .Or (a :: b :: rest) pos) (tOr tA tB'):=by
 intro f pins s σ H Q I h;refine isTrue_or (thn (ha pins s σ H _ I h) λc e ⟨H1,d,q1⟩ => ?_);cases c with
 | true=>exact⟨H1,d,q1⟩
 | false=>exact hb f pins e σ H1 Q d q1
theorem GL (ha:PT X a tA):PT X (.UnaryOp .Not a pos) (eQ tA):=by
 intro pins s σ H Q I h;exact isTrue_not (ha pins s σ H (λc H1=>Q (!c) H1) I h)
def Ji (ta tb:TE):TE:=λσ H Q=>ta σ H λx H1=>∃c,x=.bl c/\if c=true then tb σ H1 Q else Q (.bl false) H1
def KA (ta tb:TE):TE:=λσ H Q=>ta σ H λx H1=>∃c,x=.bl c/\if c=true then Q (.bl true) H1 else tb σ H1 Q
def Jj (ta:TE):TE:=λσ H Q=>ta σ H λx H1=>∃c,x=.bl c/\Q (.bl (!c)) H1
theorem GM {op}{t:TE}(h:PE X a t):PE X (.BoolOp op [a] pos) t:=λpins s σ H Q I hw=>BoolOp_one (h pins s σ H Q I hw)
theorem GN (ha:PE X a ta)(hb:PE X (.BoolOp .And (b :: rest) pos) tb):PE X (.BoolOp .And (a :: b :: rest) pos) (Ji ta tb):=by
 intro pins s σ H Q I h;refine BoolOp_and (thn (ha pins s σ H _ I h) λv e ⟨x,H1,d,f,q1⟩ => ?_);obtain⟨c,rfl,q1⟩:=q1;cases f;refine X0 ?_;cases c with
 | true=>exact hb pins e σ H1 Q d q1
 | false=>exact⟨.bl false,H1,d,rfl,q1⟩
theorem Jk (ha:PE X a ta)(hb:PE X (.BoolOp .Or (b :: rest) pos) tb):PE X (.BoolOp .Or (a :: b :: rest) pos) (KA ta tb):=by
 intro pins s σ H Q I h;refine BoolOp_or (thn (ha pins s σ H _ I h) λv e ⟨x,H1,d,f,q1⟩ => ?_);obtain⟨c,rfl,q1⟩:=q1;cases f;refine X0 ?_;cases c with
 | false=>exact hb pins e σ H1 Q d q1
 | true=>exact⟨.bl true,H1,d,rfl,q1⟩
theorem GO (ha:PE X a ta):PE X (.UnaryOp .Not a pos) (Jj ta):=by
 intro pins s σ H Q I h;refine UnaryOp_ (thn (ha pins s σ H _ I h) λv f ⟨x,H1,e,d,q1⟩ => ?_);obtain⟨c,rfl,q1⟩:=q1;cases d;exact not_of (X0 ⟨.bl (!c),H1,e,rfl,q1⟩)
def tIf (t:TT) (ta tb:TE):TE:=λσ H Q=>t σ H λc H1=>if c=true then ta σ H1 Q else tb σ H1 Q
theorem BU {c:Expr}(hc:PT X c tA)(ha:PE X a ta)(hb:PE X b tb):PE X (.IfExp c a b pos) (tIf tA ta tb):=by
 intro pins s σ H Q I h;refine wpAny_IfExp (thn (hc pins s σ H _ I h) λd e ⟨H1,f,q1⟩ => ?_);cases d with
 | true=>exact ha pins e σ H1 Q f q1
 | false=>exact hb pins e σ H1 Q f q1
end
def SqL (K:ZX) (H:Hp) (a:Addr) (xs:List V):Prop :=
 Rd H a (.lst xs)\/
  ∃(o:Obj) (its:Array T0) (n:Nat),K.lookup a=some o/\o.cls=.type "list"/\o.dict=none/\o.data=.seq its n/\its.size<=sizeLine/\aR xs its.toList
def SqT (K:ZX) (H:Hp) (a:Addr) (xs:List V):Prop :=
 Rd H a (.tup xs)\/
  ∃(o:Obj) (its:Array T0) (n:Nat),K.lookup a=some o/\o.cls=.type "tuple"/\o.data=.seq its n/\its.size<=sizeLine/\aR xs its.toList
def KC:T0->Option V
 | .none=>some .non
 | .bool b=>some (.bl b)
 | .int i _=>some (.int i)
 | .str x _=>some (.str x)
 | .bytes b _=>some (.byt b)
 | .float b _=>some (.flt b)
 | .ref a=>some (.ref a)
 | .type n=>some (.ty n)
 | _=>none
theorem bx.abs {x:V}(r:bx x u):KC u=some x:=by
 cases x with
 | non=>cases r;rfl
 | bl _=>cases r;rfl
 | int _=>obtain⟨t,rfl⟩:=r;rfl
 | str _=>obtain⟨t,rfl⟩:=r;rfl
 | byt _=>obtain⟨t,rfl⟩:=r;rfl
 | flt _=>obtain⟨t,rfl⟩:=r;rfl
 | ref _=>cases r;rfl
 | ty _=>cases r;rfl
theorem bx.inj {x y:V}(r:bx x u)(q:bx y u):x=y:=ZT (r.abs.symm.trans q.abs)
theorem aR.inj:∀{xs ys:List V} {a:List T0},aR xs a->aR ys a->xs=ys
 | _,_,_,.nil,.nil=>rfl
 | _,_,_,.cons r t,.cons r' t'=>by rw[r.inj r',aR.inj t t']
section
variable {X:Cx} {pins:List (Addr × Obj)} {σ:St} {H:Hp} {s:T1} {a:Addr} {xs ys:List V}
theorem SqL.of {K:ZX}(h:H a=some (.lst xs)):SqL K H a xs:=.inl (.inl h)
theorem SqT.of {K:ZX}(h:H a=some (.tup xs)):SqT K H a xs:=.inl (.inl h)
theorem Inv.list (I:Inv X pins σ H s)(h:SqL X.K H a xs):∃b:List T0,aR xs b/\PlainL s.heap a b.toArray/\xs.length<=sizeLine:=by
 rcases h with h|⟨o,b,n,hk,hc,hd,hs,hz,r⟩
 ·obtain⟨z,b,n,r,e⟩:=h.ok I.hok
  exact⟨b,r,⟨_,n,e,rfl,rfl,rfl⟩,z⟩
 ·refine⟨b.toList,r,⟨o,n,I.kIn a o hk,hc,hd,by simpa using hs⟩,?_⟩
  have e:=r.length;simp only[YC]at e;omega
theorem Inv.tuple (I:Inv X pins σ H s)(h:SqT X.K H a xs):∃b:List T0,aR xs b/\IsTup s.heap a b.toArray/\xs.length<=sizeLine:=by
 rcases h with h|⟨o,b,n,hk,hc,hs,hz,r⟩
 ·obtain⟨z,b,r,p⟩:=h.ok I.hok
  exact⟨b,r,p,z⟩
 ·refine⟨b.toList,r,⟨o,I.kIn a o hk,hc,n,by simpa using hs⟩,?_⟩
  have e:=r.length;simp only[YC]at e;omega
theorem Inv.list_inj (I:Inv X pins σ H s)(h:SqL X.K H a xs)(h':SqL X.K H a ys):xs=ys:=by
 obtain⟨c,r,⟨o,n,e,_,_,d⟩,_⟩:=I.list h;obtain⟨b,i,⟨o',j,f,_,_,g⟩,_⟩:=I.list h';rw[e]at f;cases f;rw[d]at g;injection g with d1 _
 have:c=b:=by simpa using congrArg Array.toList d1
 subst this;exact r.inj i
theorem Inv.tuple_inj (I:Inv X pins σ H s)(h:SqT X.K H a xs)(h':SqT X.K H a ys):xs=ys:=by
 obtain⟨c,r,⟨o,e,_,n,d⟩,_⟩:=I.tuple h;obtain⟨b,i,⟨o',f,_,j,g⟩,_⟩:=I.tuple h';rw[e]at f;cases f;rw[d]at g;injection g with d1 _
 have:c=b:=by simpa using congrArg Array.toList d1
 subst this;exact r.inj i
end
abbrev Cx.wish (X:Cx) (E:T0->T1->Prop):Cx:={ X with xe:=E }
abbrev Cx.nox (X:Cx):Cx:=X.wish λ_ _=>False
theorem Cx.Ok.wish {X:Cx}(ok:X.Ok)(E:T0->T1->Prop):(X.wish E).Ok :=
 ⟨ok.mod,ok.kind,ok.glob,ok.blt,ok.above,ok.inj,ok.has,ok.cab,ok.hd,ok.frames,ok.stk,ok.exf,ok.bs,ok.bsz,ok.noex,ok.exfs,ok.funs,ok.frf⟩
theorem Cx.Ok.unwish {X:Cx}(ok:(X.wish E).Ok):X.Ok :=
 ⟨ok.mod,ok.kind,ok.glob,ok.blt,ok.above,ok.inj,ok.has,ok.cab,ok.hd,ok.frames,ok.stk,ok.exf,ok.bs,ok.bsz,ok.noex,ok.exfs,ok.funs,ok.frf⟩
section
variable {X:Cx} {pins:List (Addr × Obj)} {σ:St} {H:Hp} {s:T1} {E:T0->T1->Prop}
theorem Inv.wish (I:Inv X pins σ H s)(E:T0->T1->Prop):Inv (X.wish E) pins σ H s:=⟨I.ok.wish E,I.os,I.bare,I.base,I.loc,I.cell,I.free,I.freeC,I.pin,I.hok,I.len⟩
theorem Inv.unwish (I:Inv (X.wish E) pins σ H s):Inv X pins σ H s:=⟨I.ok.unwish,I.os,I.bare,I.base,I.loc,I.cell,I.free,I.freeC,I.pin,I.hok,I.len⟩
theorem SP.unwish {D:px}{f:Flow}{b:T1}(h:SP (X.wish E) pins D f b):SP X pins D f b:=by
 cases f with
 | next=>obtain⟨a,H',I,q⟩:=h;exact⟨a,H',I.unwish,q⟩
 | brk=>obtain⟨a,H',I,q⟩:=h;exact⟨a,H',I.unwish,q⟩
 | cont=>obtain⟨a,H',I,q⟩:=h;exact⟨a,H',I.unwish,q⟩
 | ret u=>obtain⟨v,a,H',I,r,q⟩:=h;exact⟨v,a,H',I.unwish,r,q⟩
theorem PSs.nox {st:List Stmt}{t:TS}(h:PSs X.nox st t):PSs X st t:=λpins s σ H D I hw =>
 WB (h pins s σ H D (I.wish _) hw) (λ_ _ q=>q.unwish) λ_ _ z=>False.elim z
end
section
variable {X:Cx} {st:Stmt} {rest:List Stmt} {t u:TS} {e:Expr} {te:TE} {pos:Pos}
def Jl:TS:=λD σ H=>D.nx σ H
def KD (t u:TS):TS:=λD σ H=>t { D with nx:=u D } σ H
theorem Ey:PSs X [] Jl:=λ_ _ σ H _ I h=>wpAny_execs_nil ⟨σ,H,I,h⟩
theorem BV (h1:PS X st t)(h2:PSs X rest u):PSs X (st :: rest) (KD t u):=by
 intro pins s σ H D I h;refine wpAny_execs_cons (thn (h1 pins s σ H { D with nx:=u D } I h) λf b q => ?_);cases f with
 | next =>
  obtain⟨a,H',c,q⟩:=q;exact h2 pins b a H' D c q
 | ret v=>exact q
 | brk=>exact q
 | cont=>exact q
theorem Ez (h1:PS X st t):PSs X [st] t:=by
 intro pins s σ H D I h;refine wpAny_execs_cons (thn (h1 pins s σ H D I h) λf a q => ?_);cases f with
 | next=>exact wpAny_execs_nil q
 | ret v=>exact q
 | brk=>exact q
 | cont=>exact q
def Jm:TS:=λD σ H=>D.ct σ H
theorem vk:PS X (.Continue pos) Jm:=λ_ _ σ H _ I h=>wpAny_Continue ⟨σ,H,I,h⟩
theorem Inv.quiet (I:Inv X pins σ H s):interactive X.env=false:=by simp[interactive,I.ok.kind]
def Jn (te:TE):TS:=λD σ H=>te σ H λ_ H1=>D.nx σ H1
theorem EA (he:PE X e te)(a:swapsWith e none pos.line X.env=pure false:=by rfl):PS X (.Expr e pos) (Jn te):=by
 intro pins s σ H D I h;exact wpAny_Expr_any (thn (he pins s σ H _ I h) λv c ⟨x,H1,b,d,q1⟩=>⟨σ,H1,b,q1⟩) I.quiet a
def KF (te:TE):TS:=λD σ H=>te σ H D.rt
theorem GP (he:PE X e te):PS X (.Return (some e) pos) (KF te):=by
 intro pins s σ H D I h;exact wpAny_Return_some (thn (he pins s σ H _ I h) λv c ⟨x,H1,b,a,q1⟩=>⟨x,σ,H1,b,a,q1⟩)
def KG (c:TT) (t u:TS):TS:=λD σ H=>c σ H λb H1=>if b=true then t D σ H1 else u D σ H1
theorem Jo {c:Expr}{a b:List Stmt}{i:TT}(hc:PT X c i)(ha:PSs X a t)(hb:PSs X b u):PS X (.If c a b pos) (KG i t u):=by
 intro pins s σ H D I h;refine wpAny_If (thn (hc pins s σ H _ I h) λd g ⟨H1,f,q1⟩ => ?_);cases d with
 | true=>exact ha pins g σ H1 D f q1
 | false=>exact hb pins g σ H1 D f q1
def GQ:TS:=λ_ _ _=>False
theorem BW:PS X st GQ:=λ_ _ _ _ _ _ h=>h.elim
end
abbrev TG:=V->St->Hp->(St->Hp->Prop)->Prop
abbrev TGs:=List V->St->Hp->(St->Hp->Prop)->Prop
def PG (X:Cx) (target:Expr) (t:TG):Prop :=
 ∀(pins:List (Addr × Obj)) (s:T1) (σ:St) (H:Hp) (v:V) (u:T0) (Q:St->Hp->Prop),Inv X pins σ H s->bx v u->t v σ H Q->
  wpAny (model X.prog X.w) X.A (assign target X.env u) (λ_ s'=>∃σ' H',Inv X pins σ' H' s'/\Q σ' H') X.xe s
def PGs (X:Cx) (ts:List Expr) (t:TGs):Prop :=
 ∀(pins:List (Addr × Obj)) (s:T1) (σ:St) (H:Hp) (vs:List V) (us:List T0) (Q:St->Hp->Prop),Inv X pins σ H s->aR vs us->t vs σ H Q->
  wpAny (model X.prog X.w) X.A (assignInOrder ((assignEach ts X.env).map (·.2)) us) (λ_ s'=>∃σ' H',Inv X pins σ' H' s'/\Q σ' H') X.xe s
abbrev GR:=V->V->V->Hp->(Hp->Prop)->Prop
def GS (X:Cx) (t:GR):Prop :=
 ∀(pins:List (Addr × Obj)) (s:T1) (σ:St) (H:Hp) (o i v:V) (ov iv u:T0) (Q:Hp->Prop),Inv X pins σ H s->bx o ov->bx i iv->bx v u->t o i v H Q->
  wpAny (model X.prog X.w) X.A (setItem ov iv u) (λ_ s'=>∃H',Inv X pins σ H' s'/\Q H') X.xe s
section
variable {X:Cx} {pos:Pos}
def Ge (i:Nat):TG:=λv σ H Q=>Q (σ.set i (some v)) H
theorem EB {i:Nat}(b:X.N.Nodup)(hi:X.N[i]? = some x)(hx:Loc X.env.scope x)(a:X.fn x=true\/X.env.scope.names.lookup x=some .local:=by first|exact .inl rfl|exact .inr rfl|assumption):PG X (.Name x pos) (Ge i):=by
 intro pins s σ H v u Q I r h;exact wpAny_assign_Name (vj I b hi hx r (λd c=>⟨_,H,c,h⟩) a)
def KH:TGs:=λvs σ H Q=>vs=[]/\Q σ H
def Jp (t:TG) (u:TGs):TGs:=λvs σ H Q=>∃v r,vs=v :: r/\t v σ H λσ' H'=>u r σ' H' Q
theorem EC:PGs X [] KH:=by
 intro pins s σ H a b Q I r h;obtain⟨e,h⟩:=h;subst e;cases r;exact assignInOrder_nil ⟨σ,H,I,h⟩
theorem BX {e:Expr}{es:List Expr}{t:TG}{u:TGs}(h1:PG X e t)(h2:PGs X es u)
  (b:(assignEach (e :: es) X.env).map (·.2)=assign e X.env :: (assignEach es X.env).map (·.2):=by rfl):PGs X (e :: es) (Jp t u):=by
 intro pins s σ H i j Q I r h;obtain⟨v,g,c,h⟩:=h;subst c;cases r with
 | cons r rr =>
  rw[b];refine assignInOrder_cons (thn (h1 pins s σ H _ _ _ I r h) λ_ f ⟨a,H1,d,q1⟩ => ?_);exact h2 pins f a H1 _ _ Q d rr q1
def KI (K:ZX) (n:Nat) (t:TGs):TG:=λv σ H Q=>∃a xs,v=.ref a/\SqT K H a xs/\xs.length=n/\t xs σ H Q
theorem GU {es:List Expr}{k:Nat}{t:TGs}{n:Nat}(hc:X.calm=true)(h:PGs X es t)
  (hn:(assignEach es X.env).length=n:=by rfl) (c:(assignEach es X.env).findIdx? (·.1)=none:=by rfl):PG X (.Tuple es k pos) (KI X.K n t):=by
 intro pins s σ H v u Q I r hw;obtain⟨a,xs,g,m,d,hw⟩:=hw;subst g;cases r;obtain⟨f,rv,j,q⟩:=I.tuple m;refine assign_Tuple_tuple (I.ok.hd hc) j (by simp[hn,<-d,rv.length]) c λp l => ?_;have i:Inv X pins σ H { s with heap:=p }:=I.kept (t':=s.toks) λb o e=>l b o (ZN (ZI e)) e;exact h pins _ σ H xs _ Q i (by simpa using rv) hw
def KJ (to ti:TE) (t:GR):TG:=λv σ H Q=>to σ H λo H1=>ti σ H1 λi H2=>t o i v H2 λH3=>Q σ H3
theorem xq {o i:Expr}{to ti:TE}{t:GR}(f:PE X o to)(hi:PE X i ti)(c:GS X t)
  (ha:∀v,assign (.Subscript o i pos) X.env v=(do
   let ov <-holding [v] (eval o X.env)
   let a <-holding [v,ov] (eval i X.env)
   standAt pos
   holding [v,ov,a] (setItem ov a v)
   release [v,ov,a] []):=by intro _;rfl):PG X (.Subscript o i pos) (KJ to ti t):=by
 intro pins s σ H v u Q I r h;rw[ha];refine z0 (YV (thn (f pins s σ H _ I h) λov k ⟨x,H1,j,m,q1⟩ => ?_));refine z0 (YV (thn (hi pins k σ H1 _ j q1) λa g ⟨y,d,e,l,q2⟩ => ?_));refine z0 (wpAny_standAt (z0 (YV (thn (c pins g σ d x y v ov a u _ e m l r q2) λ_ p ⟨n,b,q3⟩ => ?_))));exact wpAny_release ⟨σ,n,b,q3⟩
def Jq (te:TE) (g:TG):TS:=λD σ H=>te σ H λx H1=>g x σ H1 D.nx
theorem tD {tg e:Expr}{te:TE}{g:TG}(he:PE X e te)(c:PG X tg g)(a:swapsWithSole [tg] e pos.line X.env=pure false:=by rfl)(hw:swappedStores [tg] e X.env=pure none:=by rfl)
  (h1:(assignEach [tg] X.env).map (·.2)=[assign tg X.env]:=by rfl):PS X (.Assign [tg] e pos) (Jq te g):=by
 intro pins s σ H D I h;refine wpAny_Assign_stores (thn (he pins s σ H _ I h) λv d ⟨x,H1,b,f,q1⟩ => ?_) a hw;rw[h1];exact thn (c pins d σ H1 x v _ b f q1) λ_ i q=>q
theorem GV {i:Nat}{e:Expr}{te:TE}{a:Pos}(c:X.N.Nodup)(hi:X.N[i]? = some x)(hx:Loc X.env.scope x)(he:PE X e te)(b:swapsWith e (some (.Name x a)) pos.line X.env=pure false:=by rfl)(g:X.fn x=true\/X.env.scope.names.lookup x=some .local:=by first|exact .inl rfl|exact .inr rfl|assumption) :
  PS X (.Assign [.Name x a] e pos) (Jq te (Ge i)):=by
 intro pins s σ H D I h;refine wpAny_Assign_Name (thn (he pins s σ H _ I h) λv l ⟨y,H1,f,j,q1⟩ => ?_) b;exact vj f c hi hx j (λk d=>⟨_,H1,d,q1⟩) g
end
section
variable {X:Cx} {pos:Pos}
def GW (c:TT) (tb:TS):TS:=λD σ H=>∃W:Nat->St->Hp->Prop,(∃m,W m σ H)/\∀m σ H,W m σ H->
 c σ H λb H1=>if b=true then ∃N:St->Hp->Prop,(∀σ' H',N σ' H'->∃m',m' < m/\W m' σ' H')/\tb { D with nx:=N,ct:=N,bk:=D.nx } σ H1 else D.nx σ H1
theorem BY {c:Expr}{e:List Stmt}{r:TT}{tb:TS}(hp:PassesOwn (model X.prog X.w) X.A X.env X.xe)(hc:PT X c r)(hb:PSs X e tb):PS X (.While c e [] pos) (GW r tb):=by
 intro pins s σ H D I h;obtain⟨W,⟨x,y⟩,turn⟩:=h;refine wpAny_While (codeAny_whileLoop (λn t=>∃g H',Inv X pins g H' t/\W n g H') ?_ x ⟨σ,H,I,y⟩);rintro n z ⟨d,H1,w,A⟩;refine WG hp (thn (hc pins z d H1 _ w (turn n d H1 A)) λb u ⟨p,q,q2⟩ => ?_);cases b with
 | true =>
  obtain⟨N,o,q2⟩:=q2;rw[yD rfl];refine WG hp (thn (hb pins u d p _ q q2) λf B q3 => ?_);cases f with
  | next =>
   obtain⟨a,i,j,l⟩:=q3;obtain⟨m',m,k⟩:=o a i l;exact⟨m',m,a,i,j,k⟩
  | cont =>
   obtain⟨a,i,j,l⟩:=q3;obtain⟨m',m,k⟩:=o a i l;exact⟨m',m,a,i,j,k⟩
  | brk=>exact q3
  | ret v=>exact q3
 | false =>
  rw[x3 Z0];exact wpAny_execs_nil ⟨d,p,q,q2⟩
end
structure It where
 go:Nat->Hp->Prop
 yld:Nat->Hp->V->Hp->Prop
 stop:Nat->Hp->Prop
def qJ (X:Cx) (pins:List (Addr × Obj)) (H:Hp) (b:Addr):Prop :=
 H b=none/\b≠X.env.locals/\b∉X.fs/\(b∈X.ex\/X.s₀.heap.objs.size<=b)/\(∀x c,X.env.cells.lookup x=some c->c≠b)/\∀p∈X.pn++pins,p.1≠b
theorem Inv.fpOk {X:Cx}{H':Hp}(I:Inv X pins σ H s)(hb:s.heap.objs.size<=b)(hn:H' b=none):qJ X pins H' b:=by
 refine⟨hn,Z6 (ZZ I.lt hb),I.nofs hb,.inr (ZM I.sz hb),λx c e z => ?_,λp a z => ?_⟩
 ·obtain⟨v,q⟩:=I.cell x c e
  exact absurd (ZZ q.lt (by rw[z];exact hb)) (Z9 _)
 ·exact absurd (ZZ (ZI (I.pin p a).1) (by rw[z];exact hb)) (Z9 _)
structure xr (P:T3) (w:T4) (K:ZX) (tg:Expr) (J:It) (fp:List Addr) (it:Addr) (tn:Nat->Heap->Prop):Prop where
 mem:it∈fp
 obj:∀i h,tn i h->∀b∈fp,∃o,h.get? b=some o/\∀v,o.data ≠ .cell v
 keep:∀i h h',tn i h->(∀b∈fp,∀o,h.get? b=some o->h'.get? b=some o)->tn i h'
 item:∀(X:Cx),X.prog=P->X.w=w->X.K=K->X.calm=true->∀(i:Nat) (pins:List (Addr × Obj)) (s:T1) (σ:St) (H:Hp) (E:T0->T1->Prop),Inv X pins σ H s->(∀b∈fp,qJ X pins H b)->tn i s.heap->J.go i H->
  wpAny (model P w) X.A (pyNext (.ref it)) (λr s1=>∃u,r=some u/\
   wpAny (model P w) X.A (letOwnedTupleGo tg (.ref it) u) (λ_ s2=>∃x H',Inv X pins σ H' s2/\bx x u/\J.yld i H x H'/\tn (i + 1) s2.heap/\∀b∈fp,H' b=none) E s1) E s
 done:∀(X:Cx),X.prog=P->X.w=w->X.K=K->X.calm=true->∀(i:Nat) (pins:List (Addr × Obj)) (s:T1) (σ:St) (H:Hp) (E:T0->T1->Prop),Inv X pins σ H s->(∀b∈fp,qJ X pins H b)->tn i s.heap->J.stop i H->
  wpAny (model P w) X.A (pyNext (.ref it)) (λr s1=>r=none/\Inv X pins σ H s1) E s
 self:∀(A:T2) (i:Nat) (s:T1) (Q:T0->T1->Prop) (E:T0->T1->Prop),tn i s.heap->Q (.ref it) s->wpAny (model P w) A (pyIter (.ref it)) Q E s
abbrev TI:=St->Hp->(It->Hp->Prop)->Prop
def PIE (X:Cx) (pins:List (Addr × Obj)) (σ:St) (tg:Expr) (R:It->Hp->Prop) (itv:T0) (s2:T1):Prop :=
 ∃(it:Addr) (fp:List Addr) (tn:Nat->Heap->Prop) (J:It) (H':Hp),itv=.ref it/\Inv X pins σ H' s2/\xr X.prog X.w X.K tg J fp it tn/\tn 0 s2.heap/\(∀b∈fp,qJ X pins H' b)/\R J H'
def PI (X:Cx) (tg iter:Expr) (wi:TI):Prop :=
 ∀(pins:List (Addr × Obj)) (s:T1) (σ:St) (H:Hp) (R:It->Hp->Prop),Inv X pins σ H s->wi σ H R->
  wpAny (model X.prog X.w) X.A (eval iter X.env) (λv s1=>wpAny (model X.prog X.w) X.A (pyIter v) (PIE X pins σ tg R) X.xe s1) X.xe s
theorem BZ {M:Model}{A:T2}{tg:Expr}{it:Addr}{o:Obj}{n:String}{vs:Array T0}{Q:Unit->T1->Prop}(b:s.heap.get? it=some o)(hc:o.cls=.type n)(hd:o.data=.fields vs)
  (hn : ["enumerate", "zip", "dict_itemiterator", "dict_reverseitemiterator", "odict_iterator", "itertools.zip_longest", "itertools.pairwise"].contains n=false) (a:Q () s):wpAny M A (letOwnedTupleGo tg (.ref it) u) Q E s:=by
 unfold letOwnedTupleGo;cases tg<;>first
  | exact y3 a
  | (cases u<;>first
    | exact y3 a
    | (refine z0 (wpAny_load b ?_)
       rw[hc,hd];show wpAny M A (if (["enumerate", "zip", "dict_itemiterator", "dict_reverseitemiterator", "odict_iterator", "itertools.zip_longest", "itertools.pairwise"].contains n && vs[0]? == some (rawInt _))=true then _ else _) Q E s;rw[x3 (by intro h;rw[hn,Bool.false_and]at h;cases h)];exact y3 a))
def Itl (K:ZX) (a:Addr):It :=
 ⟨λi H=>∃xs x,SqL K H a xs/\xs[i]? = some x,λi H x H'=>H'=H/\∀xs,SqL K H a xs->xs[i]? = some x,λi H=>∃xs,SqL K H a xs/\xs.length<=i⟩
def Itt (K:ZX) (a:Addr):It :=
 ⟨λi H=>∃xs x,SqT K H a xs/\xs[i]? = some x,λi H x H'=>H'=H/\∀xs,SqT K H a xs->xs[i]? = some x,λi H=>∃xs,SqT K H a xs/\xs.length<=i⟩
def Itr (lo:Int) (n:Nat):It:=⟨λi _=>i < n,λi H x H'=>H'=H/\x=.int (lo + i),λi _=>n<=i⟩
theorem AB {P:T3}{w:T4}{K:ZX}{tg:Expr}(a it:Addr):xr P w K tg (Itl K a) [it] it (λi h=>h.IsListIter it a i) where
 mem:=by simp
 obj:=λi h st b f=>by
  have e:b=it:=by simpa using f
  subst e;obtain⟨o,e,c,d⟩:=st;exact⟨o,e,λv z=>by rw[d]at z;cases z⟩
 keep:=λi h m st k=>st.at λo e=>k it (by simp) o e
 item:=by
  intro X D hw y hc i pins s σ H E I l st B;subst D hw y;obtain⟨xs,x,j,C⟩:=B;obtain⟨q,rv,p,Q⟩:=I.list j;obtain⟨u,L,J⟩:=rv.get C;obtain⟨A,r,G,t,F,n⟩:=l it (by simp);refine wpAny_pyNext_list_item st p.isList (x:=u) (by simpa using L) λm g O => ?_;have M:Inv X pins σ H { s with heap:=m }:=I.turned (t':=s.toks) (λb o f e=>(O.2 b f).trans e) A r t F n;obtain⟨o,e,c,d⟩:=id g;exact⟨u,rfl,BZ (s:={ s with heap:=m }) e c d (by decide) ⟨x,H,M,J,⟨rfl,λys N=>by rw[I.list_inj N j];exact C⟩,g,λb f=>(l b f).1⟩⟩
 done:=by
  intro X D hw y hc i pins s σ H E I l st B;subst D hw y;obtain⟨xs,j,C⟩:=B;obtain⟨q,rv,p,Q⟩:=I.list j;obtain⟨A,r,G,t,F,n⟩:=l it (by simp);have S:=rv.length;exact wpAny_pyNext_list_end (I.ok.hd hc) st p.isList (by simp;omega) λm R=>⟨rfl,I.turned (t':=s.toks) (λb o f e=>R b o f e) A r t F n⟩
 self:=λ_ _ _ _ _ st h=>wpAny_pyIter_listiter st h
theorem xt {P:T3}{w:T4}{K:ZX}{tg:Expr}(a it:Addr):xr P w K tg (Itt K a) [it] it (λi h=>h.IsTupleIter it a i) where
 mem:=by simp
 obj:=λi h st b g=>by
  have e:b=it:=by simpa using g
  subst e;obtain⟨o,e,c,d⟩:=st;exact⟨o,e,λv z=>by rw[d]at z;cases z⟩
 keep:=λi h n st k=>st.at λo e=>k it (by simp) o e
 item:=by
  intro X D hw y hc i pins s σ H E I m st B;subst D hw y;obtain⟨xs,x,l,C⟩:=B;obtain⟨f,rv,p,Q⟩:=I.tuple l;obtain⟨u,L,J⟩:=rv.get C;obtain⟨A,r,G,t,F,q⟩:=m it (by simp);refine wpAny_pyNext_tuple_item st (show s.heap.IsTuple a f.toArray from p) (x:=u) (by simpa using L) λn j O => ?_;have M:Inv X pins σ H { s with heap:=n }:=I.turned (t':=s.toks) (λb o g e=>(O.2 b g).trans e) A r t F q;obtain⟨o,e,c,d⟩:=id j;exact⟨u,rfl,BZ (s:={ s with heap:=n }) e c d (by decide) ⟨x,H,M,J,⟨rfl,λys N=>by rw[I.tuple_inj N l];exact C⟩,j,λb g=>(m b g).1⟩⟩
 done:=by
  intro X D hw y hc i pins s σ H E I m st B;subst D hw y;obtain⟨xs,l,C⟩:=B;obtain⟨f,rv,p,Q⟩:=I.tuple l;obtain⟨A,r,G,t,F,q⟩:=m it (by simp);have S:=rv.length;exact wpAny_pyNext_tuple_end (I.ok.hd hc) st (show s.heap.IsTuple a f.toArray from p) (by simp;omega) λn R=>⟨rfl,I.turned (t':=s.toks) (λb o g e=>R b o g e) A r t F q⟩
 self:=λ_ _ _ _ _ st h=>wpAny_pyIter_tupleiter st h
theorem xu {P:T3}{w:T4}{K:ZX}{tg:Expr}(it:Addr)(lo:Int)(n:Nat):xr P w K tg (Itr lo n) [it] it (λi h=>IsRangeIter h it (lo + (i:Nat) * 1) ((n:Int) - (i:Nat)) 1) where
 mem:=by simp
 obj:=λi h st b a=>by
  have e:b=it:=by simpa using a
  subst e;exact⟨_,st,λv z=>by
   have y:Data.fields _=Data.cell v:=z;cases y⟩
 keep:=λi h f st k=>k it (by simp) _ st
 item:=by
  intro X r hw m hc i pins s σ H E I d st q;subst r hw m;obtain⟨p,j,x,l,u,g⟩:=d it (by simp);have W:=Walks.range (prog:=X.prog) (w:=X.w) (I.ok.hd hc) it lo 1 n;refine W.item i s _ _ q st λv f tk C c A => ?_;obtain⟨t,rfl⟩:=C;have B:Inv X pins σ H { s with heap:=f,toks:=tk }:=I.turned (λb o a e=>A b o (by simpa using a) e) p j l u g;refine⟨_,rfl,BZ (s:={ s with heap:=f,toks:=tk }) (n := "range_iterator") c rfl rfl (by decide) ⟨.int (lo + i),H,B,⟨t,?_⟩,⟨rfl,rfl⟩,c,λb a=>(d b a).1⟩⟩;rw[Int.mul_one]
 done:=by
  intro X r hw m hc i pins s σ H E I d st q;subst r hw m;obtain⟨p,j,x,l,u,g⟩:=d it (by simp);exact wpAny_pyNext_range_end (I.ok.hd hc) st (by have:n<=i:=q;omega) λf D=>⟨rfl,I.turned (t':=s.toks) (λb o a e=>D b o a e) p j l u g⟩
 self:=λ_ _ _ _ _ st h=>wpAny_pyIter_rangeiter st h
section
variable {X:Cx} {tg:Expr}
theorem B0 {R:It->Hp->Prop}{lo hi:Int}{t u v:Tok}{tk:Nat}(I:Inv X pins σ H s)(h1 : -(2 ^ 62)<=lo)(h2:lo < 2 ^ 62)(d : -(2 ^ 62)<=hi)(g:hi < 2 ^ 62)
  (q:R (Itr lo (hi - lo).toNat) H):wpAny (model X.prog X.w) X.A (pyIter (.ref s.heap.objs.size)) (PIE X pins σ tg R) E { s with heap:=s.heap.push { cls:=.type "range",data:=.fields #[.int lo t,.int hi u,.int 1 v] },toks:=tk }:=by
 refine wpAny_pyIter_range (IsRange.new ..) (small_one h1 h2 d g) ?_;have a:Inv X pins σ H { s with heap:=s.heap.push { cls:=.type "range",data:=.fields #[.int lo t,.int hi u,.int 1 v] },toks:=tk }:=I.kept λb o e=>ZH _ e;refine⟨(s.heap.push { cls:=.type "range",data:=.fields #[.int lo t,.int hi u,.int 1 v] }).objs.size,[(s.heap.push { cls:=.type "range",data:=.fields #[.int lo t,.int hi u,.int 1 v] }).objs.size],_,_,H,rfl,
  a.kept (t':=tk) λb o e=>ZH _ e,xu _ lo (hi - lo).toNat,?_,λb h => ?_,q⟩
 ·have f:lo + ((0:Nat):Int) * 1=lo:=by simp
  have c:(((hi - lo).toNat:Nat):Int) - ((0:Nat):Int)=Builtin.Range.rangeSize lo hi 1:=by rw[rangeSize_one];split<;>omega
  show IsRangeIter _ _ (lo + ((0:Nat):Int) * 1) ((((hi - lo).toNat:Nat):Int) - ((0:Nat):Int)) 1;rw[f,c];exact ZJ _ rfl
 ·have e:b=(s.heap.push { cls:=.type "range",data:=.fields #[.int lo t,.int hi u,.int 1 v] }).objs.size:=by simpa using h
  subst e;exact a.fpOk (ZL _) (a.hok.fresh (ZL _))
def Jr (ta:TA):TI:=λσ H R=>ta σ H λvs H1=>∃j:Int,vs=[.int j]/\-(2 ^ 62)<=j/\j < 2 ^ 62/\R (Itr 0 j.toNat) H1
theorem AC {a:Expr} {ta:TA} {p pos:Pos} (d:Gl X "range") (hm:X.mg "range" = none) (ha:PA X [a] ta) (b:starEach [a] X.env=[(false,eval a X.env)]:=by rfl):PI X tg (.Call (.Name "range" p) [a] [] pos) (Jr ta):=by
 intro pins s σ H R I h;refine Call_ (jx I d hm boot_range (X7 (thn (ha pos pins s σ H _ I h) λk i ⟨g,H1,c,f,q1⟩ => ?_) b rfl));obtain⟨j,e,q1,q2,q⟩:=q1;subst e;cases f with
 | cons r rr =>
  cases rr;obtain⟨t,rfl⟩:=r;exact call_range_1 (B0 c (by omega) (by omega) q1 q2 (by simpa using q))
def KK (wi:TI) (g:TG) (tb:TS):TS:=λD σ H=>wi σ H λJ H1=>∃W:Nat->Nat->St->Hp->Prop,(∃m,W 0 m σ H1)/\∀i m σ H,W i m σ H->
 (J.stop i H/\D.nx σ H)\/(J.go i H/\∃N:St->Hp->Prop,(∀σ' H',N σ' H'->∃m',m' < m/\W (i + 1) m' σ' H')/\∀x H',J.yld i H x H'->g x σ H' λσ2 H2=>tb { D with nx:=N,ct:=N,bk:=D.nx } σ2 H2)
def pz (fp:List Addr) (h:Heap):List (Addr × Obj):=fp.filterMap λb=>(h.get? b).map λo=>(b,o)
theorem iM {fp:List Addr}{h:Heap}{o:Obj}(hb:b∈fp)(e:h.get? b=some o):(b,o)∈pz fp h:=List.mem_filterMap.mpr ⟨b,hb,by rw[e];rfl⟩
theorem AD {fp:List Addr}{h:Heap}{p:Addr × Obj}(hp:p∈pz fp h):p.1∈fp/\h.get? p.1=some p.2:=by
 obtain⟨b,a,e⟩:=List.mem_filterMap.mp hp;cases q:h.get? b with
 | none=>rw[q]at e;cases e
 | some o =>
  rw[q]at e;have c:(b,o)=p:=ZT e;subst c;exact⟨a,q⟩
theorem Inv.pinned {fp:List Addr}(I:Inv X pins σ H s)(k:∀b∈fp,qJ X pins H b)(j:∀b∈fp,∃o,s.heap.get? b=some o/\∀v,o.data ≠ .cell v):Inv X (pins++pz fp s.heap) σ H s :=
 I.pins_of λp h=>(List.mem_append.mp h).elim (λz=>I.pin p (Z5 _ z)) λz=>by
  obtain⟨c,e⟩:=AD z;obtain⟨i,g,f,_⟩:=k p.1 c;obtain⟨o,a,d⟩:=j p.1 c;rw[e]at a;cases a;exact⟨e,i,g,f,d⟩
theorem Inv.unpinned {pl:List (Addr × Obj)}(I:Inv X (pins++pl) σ H s):Inv X pins σ H s:=I.pins_of λp a=>I.pin p (Z5 _ (WI _ a))
theorem GX {l:Expr}{w:List Stmt}{S:TI}{g:TG}{tb:TS}{pos:Pos}(hp:PassesOwn (model X.prog X.w) X.A X.env X.xe)(hc:X.calm=true)(hi:PI X tg l S)(hg:PG X tg g)(hb:PSs X w tb)
  (hs:∀x,foldedSetIterable l X.env x=pure x:=by intro _;rfl):PS X (.For tg l w [] pos) (KK S g tb):=by
 intro pins s σ H D I h;refine wpAny_For (thn (hi pins s σ H _ I h) λv s1 h1=>thn h1 λa0 s2 h2 => ?_) hs;obtain⟨it,fp,U,J,H2,e,I2,T,M,P,W,⟨m0,w0⟩,turn⟩:=h2;subst e;have p:∀{H':Hp},(∀b∈fp,H' b=none)->∀b∈fp,qJ X pins H' b:=λhn b hb=>⟨hn b hb,(P b hb).2⟩;refine codeAny_forLoop_any (λn Y=>∃i q H',Inv X pins q H' Y/\U i Y.heap/\(∀b∈fp,H' b=none)/\W i n q H') ?_ m0 ⟨0,σ,H2,I2,M,λb hb=>(P b hb).1,w0⟩;rintro n R ⟨i,c,E,Q,A,C,w3⟩;rcases turn i n c E w3 with ⟨stop,qn⟩|⟨go,N,hN,step⟩
 ·refine WG hp (thn (T.done X rfl rfl rfl hc i pins R c E X.xe Q (p C) A stop) λr s4 ⟨O,I4⟩ => ?_)
  subst O;exact wpAny_execs_nil ⟨c,E,I4,qn⟩
 ·refine WG hp (thn (T.item X rfl rfl rfl hc i pins R c E X.xe Q (p C) A go) λr s4 ⟨u,O,h4⟩ => ?_)
  subst O;refine WG hp (thn h4 λ_ V ⟨x,Z,I5,r5,y5,z,F⟩ => ?_);have K:=I5.pinned (p F) (T.obj _ _ z);refine WG hp (thn (hg _ V c Z x u _ K r5 (step x Z y5)) λ_ s6 ⟨G,H6,I6,q6⟩ => ?_);refine WG hp (thn (hb _ s6 G H6 _ I6 q6) λf L y => ?_);have t:∀{a:St} {j:Hp},Inv X (pins++pz fp V.heap) a j L->N a j->∃m,m < n/\∃i q H',Inv X pins q H' L/\U i L.heap/\(∀b∈fp,H' b=none)/\W i m q H':=λ{a j} k B=>by
   obtain⟨m',hm,w7⟩:=hN a j B;refine⟨m',hm,i + 1,a,j,k.unpinned,T.keep _ _ _ z λb hb o e=>(k.pin (b,o) (Z5 _ (Z5 _ (iM hb e)))).1,λb hb => ?_,w7⟩;obtain⟨o,e,d⟩:=T.obj _ _ z b hb;exact(k.pin (b,o) (Z5 _ (Z5 _ (iM hb e)))).2.1
  cases f with
  | next=>obtain⟨a,j,k,B⟩:=y;exact t k B
  | cont=>obtain⟨a,j,k,B⟩:=y;exact t k B
  | brk=>obtain⟨a,j,k,y⟩:=y;exact⟨a,j,k.unpinned,y⟩
  | ret v=>obtain⟨x7,a,j,k,r7,y⟩:=y;exact⟨x7,a,j,k.unpinned,r7,y⟩
end
abbrev R2:=V->V->Hp->VK->Prop
def OpR (X:Cx) (f:T0->T0->Sem T0) (r:R2):Prop :=
 ∀(pins:List (Addr × Obj)) (s:T1) (σ:St) (H:Hp) (x y:V) (v u:T0) (Q:VK),Inv X pins σ H s->bx x v->bx y u->r x y H Q->
  wpAny (model X.prog X.w) X.A (f v u) (EP X pins σ Q) X.xe s
def UnR (X:Cx) (f:T0->Sem T0) (r:V->Hp->VK->Prop):Prop :=
 ∀(pins:List (Addr × Obj)) (s:T1) (σ:St) (H:Hp) (x:V) (v:T0) (Q:VK),Inv X pins σ H s->bx x v->r x H Q->
  wpAny (model X.prog X.w) X.A (f v) (EP X pins σ Q) X.xe s
def fS (X:Cx) (f:T0) (r:List V->Hp->VK->Prop):Prop :=
 ∀(pins:List (Addr × Obj)) (s:T1) (σ:St) (H:Hp) (xs:List V) (us:List T0) (Q:VK),Inv X pins σ H s->aR xs us->r xs H Q->
  wpAny (model X.prog X.w) X.A (call f us) (EP X pins σ Q) X.xe s
def tOp (r:R2) (ta tb:TE):TE:=λσ H Q=>ta σ H λx H1=>tb σ H1 λy H2=>r x y H2 Q
def tUn (r:V->Hp->VK->Prop) (ta:TE):TE:=λσ H Q=>ta σ H λx H1=>r x H1 Q
def rI (C:Int->Int->Prop) (g:Int->Int->V):R2:=λx y H Q=>∃i j,x=.int i/\y=.int j/\C i j/\Q (g i j) H
def rI0 (g:Int->Int->V):R2:=λx y H Q=>∃i j,x=.int i/\y=.int j/\Q (g i j) H
def rU (g:Int->V):V->Hp->VK->Prop:=λx H Q=>∃i,x=.int i/\Q (g i) H
section
variable {X:Cx} {a b c:Expr} {ta tb tc:TE} {pos:Pos}
theorem vn (ha:PE X a ta)(hb:PE X b tb){R:V->V->Hp->Prop}(I:Inv X pins σ H s)
  (h:ta σ H λx H1=>tb σ H1 λy d=>R x y d) {Q:T0->T1->Prop} {f:T0->T0->Sem T0}
  (n:∀v u i x y d,Inv X pins σ d i->bx x v->bx y u->R x y d->wpAny (model X.prog X.w) X.A (f v u) Q X.xe i) :
  wpAny (model X.prog X.w) X.A (eval a X.env) (λv g => wpAny (model X.prog X.w) X.A (eval b X.env) (λu e => wpAny (model X.prog X.w) X.A (f v u) Q X.xe e) X.xe g) X.xe s:=by
 refine thn (ha pins s σ H _ I h) λv l ⟨x,H1,k,o,q1⟩ => ?_;refine thn (hb pins l σ H1 _ k q1) λu i ⟨y,d,j,m,q2⟩ => ?_;exact n v u i x y d j o m q2
theorem B3 {op:Operator}{r:R2}(g:OpR X (binaryOp op) r)(ha:PE X a ta)(hb:PE X b tb):PE X (.BinOp a op b pos) (tOp r ta tb):=by
 intro pins s σ H Q I h;exact wpAny_BinOp (vn ha hb I h λv u i x y d f e j q=>g pins i σ d x y v u Q f e j q)
theorem Js {op:UnaryOp}{r:V->Hp->VK->Prop}(e:UnR X (unaryOp op) r)(ha:PE X a ta):PE X (.UnaryOp op a pos) (tUn r ta):=by
 intro pins s σ H Q I h;exact UnaryOp_ (thn (ha pins s σ H _ I h) λv d ⟨x,H1,g,f,q1⟩=>e pins d σ H1 x v Q g f q1)
theorem opI {f:T0->T0->Sem T0}{C:Int->Int->Prop}{g:Int->Int->Int}
  (rule:∀(i j:Int) (t u:Tok) (s:T1) (Q:T0->T1->Prop) (E:T0->T1->Prop),C i j->Q (.int (g i j) s.toks) { s with toks:=s.toks + 1 }->wpAny (model X.prog X.w) X.A (f (.int i t) (.int j u)) Q E s) :
  OpR X f (rI C λi j=>.int (g i j)):=by
 intro pins s σ H x y v u Q I d e h;obtain⟨i,j,rfl,rfl,hc,q⟩:=h;obtain⟨t,rfl⟩:=d;obtain⟨k,rfl⟩:=e;exact rule i j t k s _ _ hc ⟨.int (g i j),H,I.tok _,⟨_,rfl⟩,q⟩
theorem GY {f:T0->T0->Sem T0}{g:Int->Int->Int}
  (rule:∀(i j:Int) (t u:Tok) (s:T1) (Q:T0->T1->Prop) (E:T0->T1->Prop),Q (.int (g i j) s.toks) { s with toks:=s.toks + 1 }->wpAny (model X.prog X.w) X.A (f (.int i t) (.int j u)) Q E s) :
  OpR X f (rI0 λi j=>.int (g i j)):=by
 intro pins s σ H x y v u Q I d e h;obtain⟨i,j,rfl,rfl,q⟩:=h;obtain⟨t,rfl⟩:=d;obtain⟨k,rfl⟩:=e;exact rule i j t k s _ _ ⟨.int (g i j),H,I.tok _,⟨_,rfl⟩,q⟩
theorem GZ {f:T0->T0->Sem T0}{g:Int->Int->Bool}
  (rule:∀(i j:Int) (t u:Tok) (s:T1) (Q:T0->T1->Prop) (E:T0->T1->Prop),Q (.bool (g i j)) s->wpAny (model X.prog X.w) X.A (f (.int i t) (.int j u)) Q E s) :
  OpR X f (rI0 λi j=>.bl (g i j)):=by
 intro pins s σ H x y v u Q I d e h;obtain⟨i,j,rfl,rfl,q⟩:=h;obtain⟨t,rfl⟩:=d;obtain⟨k,rfl⟩:=e;exact rule i j t k s _ _ ⟨.bl (g i j),H,I,rfl,q⟩
def Jt (i j:Int):Prop:=0<=j/\j<=1000000/\i.natAbs < 2 ^ 64
def ED (i j:Int):Prop:=(-(2 ^ 64) < i/\i < 2 ^ 64)\/(-(2 ^ 64) < j/\j < 2 ^ 64)
theorem ED.ok {i j:Int}(h:ED i j):IntMulOk i j:=by
 rcases h with ⟨h1,h2⟩|⟨h1,h2⟩
 ·exact .of_left (intBits_le_64 h1 h2)
 ·exact .of_right (intBits_le_64 h1 h2)
theorem xv (k:Nat):(0:Int)<=2 ^ k:=by
 rw[two_pow_cast];exact XD _
theorem G0:OpR X (binaryOp .Add) (rI0 λi j=>.int (i + j)):=GY λ_ _ _ _ _ _ _ q=>add_int q
theorem gZ:OpR X (binaryOp .Sub) (rI0 λi j=>.int (i - j)):=GY λ_ _ _ _ _ _ _ q=>sub_int q
theorem eR:OpR X (binaryOp .Mult) (rI ED λi j=>.int (i * j)):=opI λ_ _ _ _ _ _ _ hc q=>mul_int q hc.ok
theorem d5:OpR X (binaryOp .Mod) (rI (λ_ j=>0 < j) λi j=>.int (i % j)):=opI λi j _ _ _ _ _ hc q=>by
 have h1:(0:Int) < j:=hc;exact mod_int' (by omega) (by rw[Int.fmod_eq_emod_of_nonneg i (by omega)];exact q)
theorem G3:OpR X (binaryOp .LShift) (rI Jt λi j=>.int (i * 2 ^ j.toNat)):=opI λ_ _ _ _ _ _ _ hc q=>lshift_int_small hc.1 hc.2.1 hc.2.2 q
theorem G4:OpR X (binaryOp .RShift) (rI (λ_ j=>0<=j) λi j=>.int (i / 2 ^ j.toNat)):=opI λi j _ _ _ _ _ hc q =>
 rshift_int hc (by rw[Int.fdiv_eq_ediv_of_nonneg i (xv _)];exact q)
theorem G5:OpR X (binaryOp .BitAnd) (rI0 λi j=>.int (Builtin.bitAnd i j)):=GY λ_ _ _ _ _ _ _ q=>and_int q
theorem unI {f:T0->Sem T0}{g:Int->Int}
  (rule:∀(i:Int) (t:Tok) (s:T1) (Q:T0->T1->Prop) (E:T0->T1->Prop),Q (.int (g i) s.toks) { s with toks:=s.toks + 1 }->wpAny (model X.prog X.w) X.A (f (.int i t)) Q E s) :
  UnR X f (rU λi=>.int (g i)):=by
 intro pins s σ H x v Q I d h;obtain⟨i,rfl,q⟩:=h;obtain⟨t,rfl⟩:=d;exact rule i t s _ _ ⟨.int (g i),H,I.tok _,⟨_,rfl⟩,q⟩
theorem G6:UnR X (unaryOp .USub) (rU λi=>.int (-i)):=unI λ_ _ _ _ _ q=>neg_int q
end
section
variable {X:Cx} {a b c:Expr} {ta tb tc:TE} {pos:Pos}
theorem B4 {Q:VK}{k d:Bool}(I:Inv X pins σ H s)(q:Q (.bl k) H)(e:k=d):EP X pins σ Q (.bool d) s:=by
 subst e;exact⟨.bl k,H,I,rfl,q⟩
theorem zx:OpR X (compareOp .Lt) (rI0 λi j=>.bl (decide (i < j))):=GZ λ_ _ _ _ _ _ _ q=>lt_int q
theorem Gf:OpR X (compareOp .LtE) (rI0 λi j=>.bl (decide (i<=j))):=GZ λ_ _ _ _ _ _ _ q=>le_int q
theorem zy:OpR X (compareOp .Gt) (rI0 λi j=>.bl (decide (j < i))):=GZ λ_ _ _ _ _ _ _ q=>gt_int q
theorem g7:OpR X (compareOp .Is) (λx y H Q=>y=.non/\Q (.bl (decide (x=.non))) H):=by
 intro pins s σ H x y v u Q I d e h;obtain⟨rfl,q⟩:=h;cases e;refine is_none_gen (B4 I q ?_);cases x<;>first
  | (cases d;rfl)
  | (obtain⟨t,rfl⟩:=d;rfl)
theorem oU:OpR X (compareOp .IsNot) (λx y H Q=>y=.non/\Q (.bl (!decide (x=.non))) H):=by
 intro pins s σ H x y v u Q I d e h;obtain⟨rfl,q⟩:=h;cases e;refine isnot_none_gen (B4 I q ?_);cases x<;>first
  | (cases d;rfl)
  | (obtain⟨t,rfl⟩:=d;rfl)
theorem OpR.or {f:T0->T0->Sem T0}{r e:R2}(h:OpR X f r)(h':OpR X f e):OpR X f (λx y H Q=>r x y H Q\/e x y H Q):=by
 intro pins s σ H x y v u Q I d g q;rcases q with q|q
 ·exact h pins s σ H x y v u Q I d g q
 ·exact h' pins s σ H x y v u Q I d g q
theorem aS (b:Expr){op:CmpOp}(h:op ≠ .In:=by decide)(h2:op ≠ .NotIn:=by decide):behindInMarks op b=false:=by
 have d:(op == CmpOp.In)=false:=by cases op<;>first|rfl|exact absurd rfl h
 have e:(op == CmpOp.NotIn)=false:=by cases op<;>first|rfl|exact absurd rfl h2
 cases b<;>simp[behindInMarks,d,e]
theorem EE {op:CmpOp}{r:R2}(g:OpR X (compareOp op) r)(ha:PE X a ta)(hb:PE X b tb)(hm:behindInMarks op b=false):PE X (.Compare a [op] [b] pos) (tOp r ta tb):=by
 intro pins s σ H Q I h;exact wpAny_Compare1 (vn ha hb I h λv u i x y d f e j q=>g pins i σ d x y v u Q f e j q) hm
def Ju (t:TE):TT:=λσ H Q=>t σ H λx H'=>∃k,x=.bl k/\Q k H'
theorem EG {op:CmpOp}{r:R2}(i:OpR X (compareOp op) r)(ha:PE X a ta)(hb:PE X b tb)(hm:behindInMarks op b=false):PT X (.Compare a [op] [b] pos) (Ju (tOp r ta tb)):=by
 intro pins s σ H Q I h;refine wpAny_isTrue_Compare1 (thn (ha pins s σ H _ I h) λv m ⟨x,H1,l,p,q1⟩=>thn (hb pins m σ H1 _ l q1) λu j ⟨y,f,g,n,q2⟩ =>
  thn (i pins j σ f x y v u _ g p n q2) λc t ⟨z,q,d,o,k,e,q3⟩ => ?_) hm
 subst e;cases o;exact X0 ⟨q,d,q3⟩
def B5 (r r':R2) (ta tb tc:TE):TE:=λσ H Q=>ta σ H λx H1=>tb σ H1 λy H2=>r x y H2 λz H3=>∃k,z=.bl k/\
 (if k=true then tc σ H3 λw' H4=>r' y w' H4 Q else Q (.bl false) H3)
theorem B6 {op f:CmpOp}{r j:R2}(C:OpR X (compareOp op) r)(g:OpR X (compareOp f) j)(ha:PE X a ta)(hb:PE X b tb)(hc:PE X c tc)
  (hm:lastMarks [op,f] [b,c] = false:=by with_unfolding_all rfl):PE X (.Compare a [op,f] [b,c] pos) (B5 r j ta tb tc):=by
 intro pins s σ H Q I h;refine Compare_chain (thn (ha pins s σ H _ I h) λv F ⟨x,H1,E,K,q1⟩=>chain_link (thn (hb pins F σ H1 _ E q1) λu D ⟨y,t,B,l,q2⟩ =>
  thn (C pins D σ t x y v u _ B K l q2) λd w ⟨z,m,i,J,k,e,q3⟩ => ?_)) hm
 subst e;cases J;refine X0 ?_;cases k with
 | false=>exact ite_ff ⟨.bl false,m,i,rfl,q3⟩
 | true=>exact ite_tt (chain_last (thn (hc pins w σ m _ i q3) λn G ⟨p,A,L,o,q⟩=>g pins G σ A y p u n Q L l o q))
theorem mD:(sizeLine:Nat) < 2 ^ 63:=by rw[YF];decide
theorem vp {x:V}{d:List T0}(r:aR [x] d):∃u,d=[u]/\bx x u:=by
 cases r with
 | cons r1 r2=>cases r2;exact⟨_,rfl,r1⟩
theorem Jv {x y:V}{e:List T0}(r:aR [x,y] e):∃u d,e=[u,d]/\bx x u/\bx y d:=by
 cases r with
 | cons r1 r2 =>
  cases r2 with
  | cons r3 r4=>cases r4;exact⟨_,_,rfl,r1,r3⟩
theorem AE (hc:X.calm=true):fS X (.builtin "max") (λxs H Q=>∃i j,xs=[.int i,.int j]/\Q (.int (if j > i then j else i)) H):=by
 intro pins s σ H xs e Q I r h;obtain⟨i,j,rfl,q⟩:=h;obtain⟨u,d,rfl,⟨t,rfl⟩,⟨f,rfl⟩⟩:=Jv r;refine max_two_ints (I.ok.hd hc) λg tk k=>⟨_,H,I.kept k,?_,q⟩
 by_cases hj:j > i
 ·rw[yD hj,yD hj];exact⟨_,rfl⟩
 ·rw[x3 hj,x3 hj];exact⟨_,rfl⟩
theorem AF:fS X (.type "int") (λxs H Q=>(∃i,xs=[.int i]/\Q (.int i) H)\/∃k,xs=[.bl k]/\Q (.int (if k then 1 else 0)) H):=by
 intro pins s σ H xs e Q I r h;rcases h with ⟨i,rfl,q⟩|⟨k,rfl,q⟩
 ·obtain⟨u,rfl,t,rfl⟩:=vp r
  exact call_int_int ⟨.int i,H,I,⟨_,rfl⟩,q⟩
 ·obtain⟨u,rfl,d⟩:=vp r
  cases d;exact call_int_bool ⟨.int (if k then 1 else 0),H,I.tok _,⟨_,rfl⟩,q⟩
end
structure Li (h:Heap) (x dx C:Addr) (mA:Str->Option T0):Prop where
 obj:h.get? x=some (PySem.W.instObj C dx)
 ns:h.Ns1 dx mA
 ne:dx≠x
section
variable {prog:T3} {w:T4} {A:T2} {E:T0->T1->Prop} {s:T1} {K:ZX} {x dx C f:Addr} {mA:Str->Option T0} {name:Str} {v:T0}
end
theorem qI.some_of {v:V}{o:Option T0}(r:qI (some v) o):∃u,o=some u/\bx v u:=by
 cases o with
 | none=>exact(show False from r).elim
 | some u=>exact⟨u,rfl,r⟩
section
variable {P:T3} {w:T4} {H H':Hp} {h h':Heap} {a C dx:Addr} {fs fs':List (Str × V)}
end
structure Cls (K:ZX) (C:Addr):Prop where
 pg:PySem.W.plainGet K C Str.empty=true
 hd:PySem.W.hasDictIn K C=true
 po:PySem.W.plainOver K C=true
 sa:PySem.W.findIn K (.ref C) "__setattr__" = some (some (.builtin "object.__setattr__"))
structure Con (K:ZX) (C:Addr) (f:Str) (v:V) (u:T0):Prop where
 at_:PySem.W.findIn K (.ref C) f=some (some u)
 rel:bx v u
 get:PySem.W.specialIn K u "__get__" = some none
 cp:PySem.W.copiedNames.contains f=false
structure Lj (K:ZX) (C:Addr) (m:Str) (f:Addr):Prop where
 at_:PySem.W.findIn K (.ref C) m=some (some (.ref f))
 fn:PySem.W.isFn K (.ref f)=true
 kp:PySem.W.keepIn K (.ref f)=true
section
variable {X:Cx} {pins:List (Addr × Obj)} {σ:St} {H:Hp} {s:T1} {a C dx:Addr} {fs:List (Str × V)} {f:Str} {v:V} {A:T2} {E:T0->T1->Prop}
end
section
variable {X:Cx} {o e value:Expr} {f:Str} {pos pos' tpos:Pos} {ta tv:TE}
end
section
variable {X:Cx} {pins:List (Addr × Obj)} {σ:St} {H:Hp} {s:T1} {A:T2} {E:T0->T1->Prop} {Q:T0->T1->Prop} {c:T0} {b:Bool}
inductive pA (K:ZX) (H:Hp):V->T0->Prop where
 | non:pA K H .non (.type "NoneType")
 | bl (x:Bool):pA K H (.bl x) (.type "bool")
 | int (i:Int):pA K H (.int i) (.type "int")
 | str (x:Str):pA K H (.str x) (.type "str")
 | flt (x:UInt64):pA K H (.flt x) (.type "float")
 | lst {a:Addr} {xs:List V} (e:H a=some (.lst xs)):pA K H (.ref a) (.type "list")
 | frz {a:Addr} {o:Obj} {xs:List V} (e:H a=some (.frz o (.lst xs))):pA K H (.ref a) (.type "list")
 | tup {a:Addr} {xs:List V} (e:H a=some (.tup xs)):pA K H (.ref a) (.type "tuple")
 | dK {a:Addr} {kvs:List (Key × V)} (e:H a=some (.dK kvs)):pA K H (.ref a) (.type "dict")
 | dT {a:Addr} {kvs:List (List Key × V)} (e:H a=some (.dT kvs)):pA K H (.ref a) (.type "dict")
 | ins {a C dx:Addr} {fs:List (Str × V)} (e:H a=some (.ins C dx fs)) (cl:Cls K C) (ha:PySem.W.findIn K (.ref C) "__class__" = some (some (.builtin "object.__class__")))
   (hn:PySem.W.specialIn K (.builtin "object.__class__") "__get__" = some (some (.builtin "getset_descriptor.__get__"))) (htk:PySem.W.takesIn K (.builtin "object.__class__")=some true)
   (hm:PySem.W.mroIn K C (.type "object")=some true):pA K H (.ref a) (.ref C)
end
structure ip (k:Nat) (A:T2):Prop where
 hd:A.handled=none
 dp:A.depth + 3 * k + 5 < recursionLimit
 un:A.units + 16 * k + 200 < cLine
 gd:A.guards=some []
theorem ip.mono {j k:Nat}{A:T2}(r:ip k A)(h:j<=k):ip j A:=⟨r.hd,by have:=r.dp;omega,by have:=r.un;omega,r.gd⟩
theorem ip.deeper {k:Nat}{A:T2}(r:ip (k + 1) A)(env:Env):ip k (A.deeper env) :=
 ⟨r.hd,by have:=r.dp;show A.depth + 1 + 3 * k + 5 < _;omega,by have:=r.un;show A.units + 3 + 16 * k + 200 < _;omega,r.gd⟩
theorem ip.depth {k:Nat}{A:T2}(r:ip k A):A.depth < recursionLimit:=by have:=r.dp;omega
def Jw:TA:=λ_ H Q=>Q [] H
def Gg (ta:TE) (tr:TA):TA:=λσ H Q=>ta σ H λx H1=>tr σ H1 λxs H2=>Q (x :: xs) H2
section
variable {X:Cx} {e:Expr} {es:List Expr} {te:TE} {t:TA} {pos:Pos}
theorem d6:PA X [] Jw:=λ_ _ _ _ H Q I h=>Calls.spliced_nil ⟨[],H,I,.nil,h⟩
theorem cF (ha:PE X e te)(d:PA X es t)(a:starEach (e :: es) X.env=(false,eval e X.env) :: starEach es X.env:=by rfl):PA X (e :: es) (Gg te t):=by
 intro pos pins s σ H Q I h;rw[a];show wpAny _ _ (spliced ((false,eval e X.env) :: backTo pos (starEach es X.env))) _ _ s;refine Calls.spliced_cons (thn (ha pins s σ H _ I h) λu g ⟨x,H1,f,j,q1⟩ => ?_);exact thn (d pos pins g σ H1 _ f q1) λl k ⟨xs,b,c,i,q2⟩=>⟨x :: xs,b,c,.cons j i,q2⟩
def KL (t:TA):TE:=λσ H Q=>t σ H λxs H1=>xs.length<=sizeLine/\∀p,H1 p=none->Q (.ref p) (upd H1 p (.tup xs))
def KM (t:TA):TE:=λσ H Q=>t σ H λxs H1=>xs.length<=sizeLine/\∀p,H1 p=none->Q (.ref p) (upd H1 p (.lst xs))
theorem G7 {x1}(h:PA X es t):PE X (.Tuple es x1 pos) (KL t):=by
 intro pins s σ H Q I f;refine wpAny_Tuple_spliced (thn (h pos pins s σ H _ I f) λd a ⟨xs,H1,c,r,z,q⟩=>⟨by rw[<-r.length];exact z,?_⟩);have g:H1 a.heap.objs.size=none:=c.hok.fresh (ZL _);refine⟨.ref a.heap.objs.size,upd H1 a.heap.objs.size (.tup xs),c.laid (t':=a.toks) (λb u e=>ZH _ e) (ZL _) ?_,rfl,q _ g⟩;exact⟨z,d,r,⟨_,ZJ _ rfl,rfl,_,rfl⟩⟩
theorem G8 (h:PA X es t):PE X (.List es pos) (KM t):=by
 intro pins s σ H Q I f;refine wpAny_List_spliced (thn (h pos pins s σ H _ I f) λd a ⟨xs,H1,c,r,z,q⟩=>⟨by rw[<-r.length];exact z,?_⟩);have g:H1 a.heap.objs.size=none:=c.hok.fresh (ZL _);refine⟨.ref a.heap.objs.size,upd H1 a.heap.objs.size (.lst xs),c.laid (t':=a.toks) (λb u e=>ZH _ e) (ZL _) ?_,rfl,q _ g⟩;exact⟨z,d,0,r,ZJ _ rfl⟩
end
abbrev Sp:=List V->Hp->VK->XK->Prop
abbrev CXT:=List Env->Hp->T1->XK->T0->T1->Prop
structure EH (P:T3) (w:T4) (K:ZX) (mg:Str->Option T0) (base:Heap) (A:T2) (outer:List Env) (s:T1) (H:Hp):Prop where
 frames:A.frames=some outer
 mod:Mod K mg base
 bs:∀b o,base.get? b=some o->s.heap.get? b=some o/\H b=none
 bsz:base.objs.size<=s.heap.objs.size
 funs:s.heap.FunFrames base outer
 frf:∀b∈frs outer,H b=none
 hok:HOk P w H s.heap
 bare:AllBare s.gens
def CE (outer:List Env) (P:T3) (w:T4) (H:Hp) (s:T1) (Q:VK) (u:T0) (s':T1):Prop :=
 ∃v H',s'.os=s.os/\AllBare s'.gens/\Un (frs outer) [] H H' s.heap s'.heap/\HOk P w H' s'.heap/\bx v u/\Q v H'
def CR (CX:CXT) (outer:List Env) (P:T3) (w:T4) (H:Hp) (s:T1) (Q:VK) (E:XK) (r:Result) (s':T1):Prop :=
 match r with
 | .ok (.ret u)=>CE outer P w H s Q u s'
 | .ok _=>False
 | .error e=>CX outer H s E e s'
structure bN (P:T3) (w:T4) (K:ZX) (mg:Str->Option T0) (base:Heap) (CX:CXT) (k:Nat) (f:Addr) (fd:FuncData) (ps:List Str) (sp:Sp):Prop where
 len:∀vs H Q E,sp vs H Q E->vs.length=ps.length
 run:∀(A:T2) (outer:List Env) (s:T1) (H:Hp) (args:Args) (us:List T0) (vs:List V) (Q:VK) (E:XK),ip k A->EH P w K mg base A outer s H->BindsTo s fd args (ps.zip us)->aR vs us->sp vs H Q E->
  codeAny (model P w) A (.call (.ref f) args) (CR CX outer P w H s Q E) s
section
variable {X:Cx} {pins:List (Addr × Obj)} {σ:St} {H:Hp} {s s':T1}
theorem Inv.env0 (I:Inv X pins σ H s):EH X.prog X.w X.K X.mg X.base X.A X.stack s H :=
 ⟨I.ok.frames,I.ok.mod,I.bs,ZM I.ok.bsz I.sz,I.stack,I.stkFree,I.hok,I.bare⟩
theorem Inv.after {Q:VK}(I:Inv X pins σ H s)(h:CE X.stack X.prog X.w H s Q u s'):EP X pins σ Q u s':=by
 obtain⟨v,H',os,bare,e,hok,r,q⟩:=h;obtain⟨c,g,d,t,a⟩:=s';obtain rfl:a=s.os:=os;exact⟨v,H',I.call (h':=c) (g':=g) (d':=d) (t':=t) (ch:=[]) e hok bare (λb z=>absurd z (by simp)),r,q⟩
end
def Jx (sp:Sp) (dvs:List V) (E:XK) (t:TA):TE:=λσ H Q=>t σ H λvs H1=>sp (vs++dvs) H1 Q E
def pB (K:ZX) (fd:FuncData) (ps:List Str) (ds:List T0):Prop :=
 ∀(s:T1) (us:List T0),K.In s.heap->(us++ds).length=ps.length->BindsTo s fd ⟨us,[]⟩ (ps.zip (us++ds))
theorem pB.all {K:ZX}{fd:FuncData}{ps:List Str}(h:∀a:List T0,a.length=ps.length->bindArgs fd ⟨a,[]⟩ = pure (ps.zip a)):pB K fd ps []:=λs a _ b=>by
 rw[Y3]at b ⊢;exact .of_eq (h a b)
def xw (CX:CXT) (X:Cx) (E:XK):Prop:=∀(pins:List (Addr × Obj)) (σ:St) (H:Hp) (s:T1) (e:T0) (s':T1),Inv X pins σ H s->CX X.stack H s E e s'->X.xe e s'
section
variable {X:Cx} {CX:CXT} {k:Nat} {f C:Addr} {fd:FuncData} {ps:List Str} {sp:Sp} {dvs:List V} {ds:List T0} {E:XK} {x m:Str} {p pos apos:Pos} {e o:Expr} {es:List Expr} {ta:TE} {t:TA}
theorem G9 {Q:VK}{a:List T0}{vs:List V}(F:bN X.prog X.w X.K X.mg X.base CX k f fd ps sp)(i:ip k X.A)(hb:pB X.K fd ps ds)(hd:aR dvs ds)(hx:xw CX X E)
  (I:Inv X pins σ H s) (r:aR vs a) (h:sp (vs++dvs) H Q E):wpAny (model X.prog X.w) X.A (call (.ref f) a) (EP X pins σ Q) X.xe s:=by
 have c:aR (vs++dvs) (a++ds):=r.append hd;have g:(a++ds).length=ps.length:=by rw[<-c.length];exact F.len _ _ _ _ h
 refine wpAny_call (VV (F.run X.A X.stack s H ⟨a,[]⟩ (a++ds) (vs++dvs) Q E i I.env0 (hb s a I.kIn g) c h) λr d b => ?_);cases r with
 | error e=>exact hx pins σ H s e d I b
 | ok fl =>
  cases fl with
  | ret u=>exact I.after b
  | next=>exact False.elim b
  | brk=>exact False.elim b
  | cont=>exact False.elim b
theorem EI (F:bN X.prog X.w X.K X.mg X.base CX k f fd ps sp)(d:ip k X.A)(g:Gl X x)(hm:X.mg x=some (.ref f))(c:PySem.W.keepIn X.K (.ref f)=true)(hb:pB X.K fd ps ds)(hd:aR dvs ds)(hx:xw CX X E)
  (ha:PA X (e :: es) t) (a:(x == ("__debug__" : Str))=false:=by decide) (he:starEach (e :: es) X.env=(false,eval e X.env) :: starEach es X.env:=by rfl) (hpl:(backTo pos (starEach es X.env)).any (·.1)=false:=by rfl) :
  PE X (.Call (.Name x p) (e :: es) [] pos) (Jx sp dvs E t):=by
 intro pins s σ H Q I h;refine VN (zw I g hm ?_ a);refine PySem.W.callWith_K (h₀ := X.base) I.ok.mod.kin c (thn (ha pos pins s σ H _ I h) λl j ⟨i,H1,b,r,q⟩=>⟨b.kIn,?_⟩) he hpl;exact G9 F d hb hd hx b r q
structure Mk (K:ZX) (C f:Addr):Prop where
 makes:PySem.W.makesIn K C=true
 init:PySem.W.findIn K (.ref C) "__init__" = some (some (.ref f))
 fn:PySem.W.isFn K (.ref f)=true
 kp:PySem.W.keepIn K (.ref C)=true
end
section
variable {X:Cx} {CX:CXT} {k:Nat} {f C:Addr} {fd:FuncData} {ps ks:List Str} {sp:Sp} {E:XK} {x m:Str} {p pos apos kpos:Pos} {e o:Expr} {es:List Expr} {kws:List Keyword} {te ta:TE} {t tk:TA} {nm:Option Str}
structure KN (K:ZX) (fd:FuncData) (ps ks:List Str) (g:List T0->List T0->List T0) (gV:List V->List V->List V):Prop where
 to:∀(s:T1) (us ws:List T0),K.In s.heap->(g us ws).length=ps.length->BindsTo s fd ⟨us,ks.zip ws⟩ (ps.zip (g us ws))
 rel:∀{vs:List V} {us:List T0} {zs:List V} {ws:List T0},aR vs us->aR zs ws->aR (gV vs zs) (g us ws)
variable {g:List T0->List T0->List T0} {gV:List V->List V->List V}
end
structure aI (N P:List Str) (sc:Scope):Prop where
 kind:sc.kind=.function
 co:sc.isCoroutine=false
 gen:sc.isGenerator=false
 nd:N.Nodup
 pre:N.take P.length=P
 par:∀x∈P,sc.names.lookup x=some .local\/sc.names.lookup x=some .cell
 nofree:∀y∈sc.names,y.2 ≠ .free
theorem rN {kindOf:Str->Option NameKind}{x:Str}:∀{a:List (Str × T0)} {m:Str->Option T0},(∀v,(x,v)∉a)->bindL kindOf a m x=m x
 | [],_,_=>rfl
 | (n,v) :: r,m,h=>by
  unfold bindL;rw[rN λw hw=>h w (ZW _ hw)];split
  ·have:x≠n:=by rintro rfl;exact h v ZV
   simp[this]
  ·rfl
theorem rP {kindOf:Str->Option NameKind}{x:Str}:∀{a:List (Str × T0)} {m:Str->Option T0},(∀v,(x,v)∉a)->bindC kindOf a m x=m x
 | [],_,_=>rfl
 | (n,v) :: r,m,h=>by
  unfold bindC;rw[rP λw hw=>h w (ZW _ hw)];split
  ·rfl
  ·have:x≠n:=by rintro rfl;exact h v ZV
   simp[this]
theorem rR {kindOf:Str->Option NameKind}{x:Str}{v:T0}:∀{P:List Str} {a:List T0} {i:Nat} {m:Str->Option T0},P.Nodup->P[i]? = some x->a[i]? = some v->kindOf x=some .local->
  bindL kindOf (P.zip a) m x=some v
 | [],_,_,_,_,h,_,_=>by simp at h
 | _ :: _,[],_,_,_,_,h,_=>by simp at h
 | p :: P,w :: a,0,m,nd,h1,h2,hk=>by
  simp at h1 h2;subst h1;subst h2;show bindL kindOf ((p,w) :: P.zip a) m p=_;unfold bindL;rw[rN λv b=>(List.nodup_cons.mp nd).1 (List.of_mem_zip b).1,yD hk];simp
 | p :: P,w :: a,i + 1,m,nd,h1,h2,hk=>by
  show bindL kindOf ((p,w) :: P.zip a) m x=_;unfold bindL;exact rR (i:=i) (List.nodup_cons.mp nd).2 (by simpa using h1) (by simpa using h2) hk
theorem rS {kindOf:Str->Option NameKind}{x:Str}{v:T0}:∀{P:List Str} {a:List T0} {i:Nat} {m:Str->Option T0},P.Nodup->P[i]? = some x->a[i]? = some v->kindOf x≠some .local->
  bindC kindOf (P.zip a) m x=some v
 | [],_,_,_,_,h,_,_=>by simp at h
 | _ :: _,[],_,_,_,_,h,_=>by simp at h
 | p :: P,w :: a,0,m,nd,h1,h2,hk=>by
  simp at h1 h2;subst h1;subst h2;show bindC kindOf ((p,w) :: P.zip a) m p=_;unfold bindC;rw[rP λv b=>(List.nodup_cons.mp nd).1 (List.of_mem_zip b).1,x3 hk];simp
 | p :: P,w :: a,i + 1,m,nd,h1,h2,hk=>by
  show bindC kindOf ((p,w) :: P.zip a) m x=_;unfold bindC;exact rS (i:=i) (List.nodup_cons.mp nd).2 (by simpa using h1) (by simpa using h2) hk
def jz (N:List Str) (vs:List V):St:=vs.map some++List.replicate (N.length - vs.length) none
def xx (CX:CXT) (P:T3) (w:T4) (K:ZX) (mg:Str->Option T0) (base:Heap) (N:List Str) (qual:Str) (scope:Scope) (f:Addr) (cd:T0) (A:T2) (outer:List Env) (s:T1) (H:Hp) (E:XK):Cx where
 prog:=P
 w:=w
 K:=K
 mg:=mg
 base:=base
 A:=A.deeper (envOfC qual scope s.heap.objs.size f cd)
 N:=N
 s₀ := s
 H₀ := H
 env:=envOfC qual scope s.heap.objs.size f cd
 outer:=outer
 stack:=envOfC qual scope s.heap.objs.size f cd :: outer
 ex:=[]
 calm:=true
 fn:=λ_=>true
 pn:=[]
 xe:=λe s'=>wpAny (model P w) (A.deeper (envOfC qual scope s.heap.objs.size f cd)) (leaving (envOfC qual scope s.heap.objs.size f cd) e) (λ_ s''=>CX outer H s E e s'') (λe' s''=>CX outer H s E e' s'') s'
theorem vq {a:Scope}{n:Nat}(h:a.names.lookup x=some .cell):∃c,(cellsFrom n a.names []).lookup x=some c:=by
 have q:=PySem.W.cellsFrom_some a.names n [] (.inl h);exact Option.isSome_iff_exists.mp q
theorem AG {CX:CXT}{P:T3}{w:T4}{K:ZX}{mg:Str->Option T0}{base:Heap}{N ps:List Str}{d:Str}{scope:Scope}{f:Addr}{t:T0}{A:T2}{outer:List Env}{F:T1}{E:XK}{B:List T0}{vs:List V}
  (S:aI N ps scope) (hd:A.handled=none) (g:EH P w K mg base A outer s H) (J:vs.length=ps.length) (r:aR vs B)
  (x:InCallC s s.heap.objs.size (bindL (envOfC d scope s.heap.objs.size f t).kindOf (ps.zip B) λ_=>none) (cellsFrom (s.heap.objs.size + 1) scope.names []) (bindC (envOfC d scope s.heap.objs.size f t).kindOf (ps.zip B) λ_=>none) F) :
  Inv (xx CX P w K mg base N d scope f t A outer s H E) [] (jz N vs) H F:=by
 have I:ps.length<=N.length:=by have:=congrArg List.length S.pre;rw[X9]at this;omega
 obtain⟨h1,tk,rfl,C⟩:=x.done;have j:∀b:Addr,b∉(xx CX P w K mg base N d scope f t A outer s H E).ex:=λb z=>absurd (show b∈([] : List Addr) from z) (by simp);refine⟨⟨g.mod,S.kind,rfl,rfl,ZL _,λy z c h1 h2 => ?_,λy l => ?_,λy c _ h => ?_,λ_=>hd,Around.frames_deeper g.frames,.inr ⟨rfl,rfl⟩,λb z=>absurd z (j b),g.bs,g.bsz,λb _ _=>j b,λb z=>absurd z (j b),g.funs,g.frf⟩,
  rfl,g.bare,Un.kept C,⟨_,x.toInCall.ns,λi y v h1 h2 L => ?_⟩,λy c h=>⟨_,x.cell y c h⟩,g.hok.fresh (ZL _),λy c h => ?_,λp m=>absurd (show p∈([] : List (Addr × Obj)) from m) (by simp),g.hok.kept C,?_⟩
 ·exact name_of_addr x.apart (WR h1) (WR h2)
 ·have l:scope.names.lookup y=some .cell\/scope.names.lookup y=some .free:=l
  rcases l with l|l
  ·exact vq l
  ·exact absurd rfl (S.nofree _ (WR l))
 ·exact Y6 (x.above y c (WR h))
 ·have hi:i < vs.length:=by
   unfold jz at h2
   by_cases hi:i < vs.length
   ·exact hi
   ·rw[ZD (by simpa using hi)]at h2
    rw[List.getElem?_replicate]at h2;split at h2<;>cases h2
  have G:vs[i]? = some v:=by
   unfold jz at h2;rw[ZC (by simpa using hi),ZQ]at h2;cases e:vs[i]? with
   | none=>rw[e]at h2;cases h2
   | some a=>rw[e]at h2;cases h2;rfl
  obtain⟨u,D,rv⟩:=r.get G;have m:ps[i]? = some y:=by
   rw[<-S.pre,List.getElem?_take_of_lt (by omega)];exact h1
  have o:ps.Nodup:=by rw[<-S.pre];exact S.nd.sublist (List.take_sublist _ _)
  refine⟨u,rv,?_⟩;rcases S.par y (ZK m) with k|k
  ·exact .inl ⟨k,rR o m D k⟩
  ·obtain⟨c,e⟩:=vq (n:=s.heap.objs.size + 1) k
   refine .inr ⟨.inl k,c,e,?_⟩;have q:=x.cell y c e;rw[rS o m D (by show scope.names.lookup y≠_;rw[k];decide)]at q;exact q
 ·exact g.hok.fresh (Y6 (x.above y c (WR h)))
 ·unfold jz
  show _=N.length;rw[ZB,ZA,XY];omega
theorem Jy {CX:CXT}{P:T3}{w:T4}{K:ZX}{mg:Str->Option T0}{base:Heap}{k:Nat}{f:Addr}{name a:Str}{d:Arguments}{g:List Stmt}{scope:Scope}{O kV B pm c ct oc:T0}{T od:Option Addr}
  {L:Array (Option T0)} {N ps:List Str} {sp:Sp} (lk:K.lookup f=some ⟨oc,od,.func (PySem.W.fnOf name a d g scope O kV B pm T c ct),L⟩) (D:PySem.W.codeIn K c a=true) (S:aI N ps scope)
  (len:∀vs H Q E,sp vs H Q E->vs.length=ps.length)
  (i:∀(A:T2) (outer:List Env) (s:T1) (H:Hp) (vs:List V) (Q:VK) (E:XK),ip k (A.deeper (envOfC a scope s.heap.objs.size f c))->sp vs H Q E->
   ∃t,PSs (xx CX P w K mg base N a scope f c A outer s H E) g t/\t { nx:=λ_ H'=>Q .non H',rt:=Q } (jz N vs) H) :
  bN P w K mg base CX (k + 1) f (PySem.W.fnOf name a d g scope O kV B pm T c ct) ps sp:=by
 refine⟨len,λA outer s H M us vs Q E G z Z r m => ?_⟩;have U:=len _ _ _ _ m;have KX:K.In s.heap:=z.mod.kin.keeps λb o e=>(z.bs b o e).1;have F:s.heap.NoLimit:=z.mod.nolimit.keeps λb o e=>(z.bs b o e).1;have j:∀y∈ps.zip us,scope.names.lookup y.1=some .local\/(scope.names.lookup y.1=some .cell/\((cellsFrom (s.heap.objs.size + 1) scope.names []).lookup y.1).isSome=true):=λ⟨n,v⟩ Y=>by
  rcases S.par n (List.of_mem_zip Y).1 with q|q
  ·exact .inl q
  ·exact .inr ⟨q,PySem.W.cellsFrom_some _ _ _ (.inl q)⟩
 refine codeAny_call_function G.depth (KX _ _ lk) rfl S.co S.gen rfl (PySem.W.codeRec_of KX D) (Z _ _ _ _ ?_);refine wpAny_newFunctionEnv_cells S.kind j λX he R x => ?_;subst he;refine⟨F.keeps x.toInCall.keep,codeAny_func ?_⟩;obtain⟨t,ht,hq⟩:=i A outer s H vs Q E (G.deeper _) m;have I:Inv (xx CX P w K mg base N a scope f c A outer s H E) [] (jz N vs) H R:=AG S G.hd z U r x;refine WB (ht [] R (jz N vs) H _ I hq) (λW C l => ?_) λe C l=>l;have p:∀{h:St} {H':Hp} {v:V} {u:T0},Inv (xx CX P w K mg base N a scope f c A outer s H E) [] h H' C->bx v u->Q v H'->CE outer P w H s Q u C :=
  λ{h H' v u} J rv q=>⟨v,H',J.os,J.bare,J.base,J.hok,rv,q⟩
 cases W with
 | ret u =>
  obtain⟨v,h,H',J,rv,q⟩:=l;exact p J rv q
 | next =>
  obtain⟨h,H',J,q⟩:=l;exact p (v:=V.non) (u:=Value.none) J rfl q
 | brk =>
  obtain⟨_,_,_,q⟩:=l;exact False.elim q
 | cont =>
  obtain⟨_,_,_,q⟩:=l;exact False.elim q
section
variable {X:Cx} {x:Str} {p pos:Pos} {e:Expr} {es:List Expr} {t:TA} {id T:String} {r:List V->Hp->VK->Prop}
def tCB (r:List V->Hp->VK->Prop) (t:TA):TE:=λσ H Q=>t σ H λvs H1=>r vs H1 Q
theorem iq (hc:fS X (.builtin id) r) (d:Gl X x) (hm:X.mg x=none) (i:bootBuiltins x=some (.builtin id)) (ha:PA X (e :: es) t) (hn:x ≠ "__name__" := by decide) (a:(x == ("__debug__" : Str))=false:=by decide)
  (he:starEach (e :: es) X.env=(false,eval e X.env) :: starEach es X.env:=by rfl) (hpl:(backTo pos (starEach es X.env)).any (·.1)=false:=by rfl):PE X (.Call (.Name x p) (e :: es) [] pos) (tCB r t):=by
 intro pins s σ H Q I h;refine VN (jx I d hm i ?_ hn a);exact PyProof.Rows.callWith_builtin1 (thn (ha pos pins s σ H _ I h) λg f ⟨b,H1,c,j,q1⟩=>hc pins f σ H1 b g Q c j q1) he hpl
theorem mE (hc:fS X (.type T) r) (d:Gl X x) (hm:X.mg x=none) (i:bootBuiltins x=some (.type T)) (ha:PA X (e :: es) t) (hn:x ≠ "__name__" := by decide) (a:(x == ("__debug__" : Str))=false:=by decide)
  (he:starEach (e :: es) X.env=(false,eval e X.env) :: starEach es X.env:=by rfl) (hpl:(backTo pos (starEach es X.env)).any (·.1)=false:=by rfl):PE X (.Call (.Name x p) (e :: es) [] pos) (tCB r t):=by
 intro pins s σ H Q I h;refine VN (jx I d hm i ?_ hn a);exact X7 (thn (ha pos pins s σ H _ I h) λg f ⟨b,H1,c,j,q1⟩=>hc pins f σ H1 b g Q c j q1) he hpl
end
end L2
namespace HT
open PySem PyProof.Rows
def cx:List Int->List Int->Bool
 | [],[]=>false
 | [],_ :: _=>true
 | _ :: _,[]=>false
 | x :: xs,y :: ys=>if x=y then cx xs ys else decide (x < y)
section
open PySem.SeqAt
open PySem.AutoSeq1 (wpAny_loadPart')
open PySem.MeetsSeq PySem.MeetsSeq2 PySem.MeetsSeq3
end
section
variable {prog:T3} {w:T4} {A:T2} {E:T0->T1->Prop} {s:T1}
theorem cat_tup {t b:Addr}{vs a:List T0}{Q:T0->T1->Prop}(ht:IsTup s.heap t vs.toArray)(hb:IsTup s.heap b a.toArray)(m:vs≠[])
  (h1:a=[]->Q (.ref t) s) (h2:a≠[]->Q (.ref s.heap.objs.size) { s with heap:=s.heap.push { cls:=.type "tuple",data:=.seq (vs++a).toArray } })
  (hsz:vs.length + a.length<=sizeLine):wpAny (model prog w) A (binaryOp .Add (.ref t) (.ref b)) Q E s:=by
 obtain⟨⟨cls,k,data,sl⟩,i,hc,n,hd⟩:=id ht;obtain⟨⟨o,f,j,d⟩,c,h,l,g⟩:=id hb;simp only at hc hd h g;subst hc hd h g;have e:vs.toArray++a.toArray=(vs++a).toArray:=by simp
 by_cases hw:a=[]
 ·exact concat_meets ⟨_,i,rfl⟩ ⟨_,c,rfl⟩ noFill_tuple_add seq_tuple_add PySem.F.slot_tuple_add PySem.F.entry_tuple_add (PySem.F.args_tuple_add_2 _ _)
   (tuple_addW1 t b vs.toArray a.toArray n l k f sl d (by simpa using m) (by simp[hw])) ⟨i,c,h1 hw⟩
 ·refine concat_meets ⟨_,i,rfl⟩ ⟨_,c,rfl⟩ noFill_tuple_add seq_tuple_add PySem.F.slot_tuple_add PySem.F.entry_tuple_add (PySem.F.args_tuple_add_2 _ _)
   (tuple_addW2 t b vs.toArray a.toArray n l k f sl d (by simpa using m) (by simpa using hw) (by rw[w9,w9];exact hsz)) ⟨i,c,?_⟩
  rw[e];exact h2 hw
def sIx (n d:Nat):Option Int->Nat
 | none=>d
 | some v=>if v < 0 then (v + (n:Int)).toNat else min v.toNat n
theorem Ha (n d:Nat)(hd:d<=n)(o:Option Int):sIx n d o<=n:=by
 cases o with
 | none=>exact hd
 | some v =>
  show (if v < 0 then (v + (n:Int)).toNat else min v.toNat n)<=n
  by_cases hv:v < 0
  ·rw[yD hv];omega
  ·rw[x3 hv];exact Nat.min_le_right _ _
theorem zz (v:Int)(n d:Nat):(if v < 0 then max (v + (n:Int)) 0 else min v (n:Int))=((sIx n d (some v):Nat):Int):=by
 show (if v < 0 then max (v + (n:Int)) 0 else min v (n:Int))=(((if v < 0 then (v + (n:Int)).toNat else min v.toNat n):Nat):Int)
 by_cases hv:v < 0
 ·simp only[yD hv];omega
 ·simp only[x3 hv];omega
theorem xy (lo hi:Option Int)(n:Nat):Builtin.Slice.sliceAdjust lo hi 1 (n:Int)=(((sIx n 0 lo:Nat):Int),((sIx n n hi:Nat):Int)):=by
 have h1 : ¬((1:Int) < 0):=by omega
 unfold Builtin.Slice.sliceAdjust;simp only[h1,XF];refine Prod.ext ?_ ?_
 ·cases lo with
  | none=>rfl
  | some v=>exact zz v n 0
 ·cases hi with
  | none=>rfl
  | some v=>exact zz v n n
theorem xz (i j:Nat):Builtin.Slice.slicePlaces (i:Int) (j:Int) 1=j - i:=by
 unfold Builtin.Slice.slicePlaces;have h1:(1:Int) > 0:=by omega
 simp only[h1,Uz,Int.ediv_one];split<;>omega
theorem pC {v:T0}{o:Option Int}{Q:Option Int->T1->Prop}(p:IsPart v o)(h:Q o s):wpAny (model prog w) A (Builtin.Slice.slicePartIndex v) Q E s:=by
 cases p with
 | none=>exact slicePart_none h
 | int i t=>exact slicePart_int h
theorem mF {sl:Addr}{c d:T0}{lo hi:Option Int}{n:Nat}{Q:Int × Int × Nat->T1->Prop}(g:s.heap.IsSliceOf sl c d .none)(pl:IsPart c lo)(f:IsPart d hi)
  (h:Q (((sIx n 0 lo:Nat):Int),1,sIx n n hi - sIx n 0 lo) s):wpAny (model prog w) A (Builtin.Slice.sliceApplied (.ref sl) (pure (n:Int))) Q E s:=by
 obtain⟨os,b,e,a⟩:=id g;unfold Builtin.Slice.sliceApplied Builtin.Slice.sliceFields;refine z0 (z0 (VS b a (x:=c) rfl (z0 (VS b a (x:=d) rfl (z0 (VS b a (x:=.none) rfl (y3 ?_)))))));refine z0 (slicePart_none ?_);show wpAny _ _ (if ((1:Int) == 0)=true then _ else _) _ _ s;rw[x3 (by decide)];refine z0 (pC pl (z0 (pC f (z0 (y3 ?_)))));show wpAny _ _ (match Builtin.Slice.sliceAdjust lo hi 1 (n:Int) with|(lo,hi)=>pure (lo,(1:Int),Builtin.Slice.slicePlaces lo hi 1)) _ _ s;rw[xy lo hi n];show wpAny _ _ (pure (((sIx n 0 lo:Nat):Int),(1:Int),Builtin.Slice.slicePlaces ((sIx n 0 lo:Nat):Int) ((sIx n n hi:Nat):Int) 1)) _ _ s;rw[xz];exact y3 h
theorem B7 (xs:Array T0)(i k:Nat):((List.range k).filterMap λ(m:Nat)=>xs[((i:Int) + (m:Int) * 1).toNat]?).toArray=((xs.toList.drop i).take k).toArray:=by
 have e:(λ(m:Nat)=>xs[((i:Int) + (m:Int) * 1).toNat]?)=λm=>xs[i + m]? := by
  funext m;have:((i:Int) + (m:Int) * 1).toNat=i + m:=by omega
  rw[this]
 rw[e];have:=pick_run xs i k;rw[List.filterMap_map]at this;have a:((λx=>xs[x]?) ∘ λx=>i + x)=λm=>xs[i + m]? := rfl;rw[a]at this;rw[this]
theorem getItem_tuple_cut {t sl:Addr}{items:Array T0}{f i:T0}{lo hi:Option Int}{Q:T0->T1->Prop}(ht:IsTup s.heap t items)(g:s.heap.IsSliceOf sl f i .none)(pl:IsPart f lo)(k:IsPart i hi)
  (hw : ¬(sIx items.size 0 lo=0/\sIx items.size items.size hi=items.size))
  (h:Q (.ref s.heap.objs.size) { s with heap:=s.heap.push { cls:=.type "tuple",data:=.seq ((items.toList.drop (sIx items.size 0 lo)).take (sIx items.size items.size hi - sIx items.size 0 lo)).toArray } })
  (hsz:items.size<=sizeLine):wpAny (model prog w) A (getItem (.ref t) (.ref sl)) Q E s:=by
 have a:sizeOk (.seq ((items.toList.drop (sIx items.size 0 lo)).take (sIx items.size items.size hi - sIx items.size 0 lo)).toArray):=by
  show ((items.toList.drop (sIx items.size 0 lo)).take (sIx items.size items.size hi - sIx items.size 0 lo)).toArray.size<=sizeLine;rw[w9,X9,List.length_drop,YC];omega
 have l:sIx items.size items.size hi<=items.size:=Ha _ _ (ZL _) hi;obtain⟨os,b,c,j⟩:=id g;have d:s.TypeIs (.ref sl) "slice" := ⟨os,b,c⟩;unfold getItem
 try with_reducible refine YV ?_
 first|refine z0 (y3 ?_)|skip
 refine z0 (wpAny_sequenceKey ht.typeIs (by decide) ?_);refine z0 (wpAny_callSpecial?_slot (name:=Str.ofString "__getitem__") ht.typeIs PyProof.Rows.slot_tuple_getitem
  (YP PyProof.Rows.slot_tuple_getitem ht.typeIs entry_tuple_getitem ?_ (args_tuple_getitem _ _)))
 show wpAny _ _ (Builtin.Tuple.tupleItemsOf (.ref t) >>= _) _ _ s;refine z0 (tupleItemsOf_ ht ?_);refine z0 (wpAny_typeOf d ?_);rw[yD (by decide)];refine z0 (mF g pl k ?_);have e : ¬((((sIx items.size 0 lo:Nat):Int) == 0 && (1:Int) == 1 && (sIx items.size items.size hi - sIx items.size 0 lo) == items.size)=true):=by
  intro q;rw[Z7,Z7]at q;have q1:((sIx items.size 0 lo:Nat):Int)=0:=eq_of_beq q.1.1;have q2:sIx items.size items.size hi - sIx items.size 0 lo=items.size:=eq_of_beq q.2;exact hw ⟨by omega,by omega⟩
 show wpAny _ _ (if (((sIx items.size 0 lo:Nat):Int) == 0 && (1:Int) == 1 && (sIx items.size items.size hi - sIx items.size 0 lo) == items.size)=true then _ else _) _ _ s;rw[x3 e,B7]
 first
  | exact z0 (m:=Builtin.Tuple.tupleExact _) (YJ (y3 ⟨_,rfl,y3 h⟩) a)
  | exact z0 (m:=Builtin.Tuple.tupleExact _) (YJ (z0 (y3 (y3 ⟨_,rfl,y3 h⟩))) a)
  | exact z0 (z0 (m:=Builtin.Tuple.tupleExact _) (YJ (y3 (y3 ⟨_,rfl,y3 h⟩)) a))
  | exact z0 (z0 (m:=Builtin.Tuple.tupleExact _) (YJ (y3 ⟨_,rfl,y3 h⟩) a))
end
end HT
namespace L2
open PySem PySem.Spec PyProof.Rows
abbrev TO:=St->Hp->(Option Int->Hp->Prop)->Prop
def PO (X:Cx) (e:Option Expr) (t:TO):Prop :=
 ∀(pins:List (Addr × Obj)) (s:T1) (σ:St) (H:Hp) (Q:Option Int->Hp->Prop),Inv X pins σ H s->t σ H Q->
  wpAny (model X.prog X.w) X.A (evalPart e X.env) (λu s'=>∃o H',Inv X pins σ H' s'/\IsPart u o/\Q o H') X.xe s
def EJ:TO:=λ_ H Q=>Q none H
def Jz (t:TE):TO:=λσ H Q=>t σ H λx H1=>∃i,x=.int i/\Q (some i) H1
theorem kG {ns:List Int}:∀{a:List T0},aR (ns.map V.int) a->IntsAre a ns:=by
 induction ns with
 | nil=>intro a r;rw[VW]at r;cases r;exact .nil
 | cons n ns ih =>
  intro a r;rw[x8]at r;cases r with
  | cons r1 r2 =>
   obtain⟨t,e⟩:=r1;subst e;exact .cons n t (ih r2)
section
variable {X:Cx} {e:Expr} {te:TE} {lo hi:Option Expr} {tl th:TO} {pos p2:Pos}
theorem EK:PO X none EJ:=by
 intro pins s σ H Q I h;rw[evalPart_none];exact y3 ⟨none,H,I,.none,h⟩
theorem EL (h:PE X e te):PO X (some e) (Jz te):=by
 intro pins s σ H Q I hw;rw[evalPart_some];refine thn (h pins s σ H _ I hw) λu c ⟨x,H1,b,a,q1⟩ => ?_;obtain⟨i,rfl,q⟩:=q1;obtain⟨t,rfl⟩:=a;exact⟨some i,H1,b,.int i t,q⟩
def SlR (X:Cx) (r:V->Option Int->Option Int->Hp->VK->Prop):Prop :=
 ∀(pins:List (Addr × Obj)) (s:T1) (σ:St) (H:Hp) (x:V) (v vl vu:T0) (lo hi:Option Int) (sl:Addr) (Q:VK),Inv X pins σ H s->bx x v->s.heap.IsSliceOf sl vl vu .none->IsPart vl lo->IsPart vu hi->r x lo hi H Q->
  ∃T id,typeLookup (.type T) "__getitem__" = pure (some (.builtin id))/\s.TypeIs v T/\wpAny (model X.prog X.w) X.A (getItem v (.ref sl)) (EP X pins σ Q) X.xe s
theorem SlR.or {r b:V->Option Int->Option Int->Hp->VK->Prop}(h:SlR X r)(h':SlR X b):SlR X (λx lo hi H Q=>r x lo hi H Q\/b x lo hi H Q):=by
 intro pins s σ H x v a g lo hi sl Q I d c f i q;rcases q with q|q
 ·exact h pins s σ H x v a g lo hi sl Q I d c f i q
 ·exact h' pins s σ H x v a g lo hi sl Q I d c f i q
def tSl (r:V->Option Int->Option Int->Hp->VK->Prop) (te:TE) (tl th:TO):TE:=λσ H Q=>te σ H λx H1=>tl σ H1 λl H2=>th σ H2 λu H3=>r x l u H3 Q
theorem B8 {r:V->Option Int->Option Int->Hp->VK->Prop}(t:SlR X r)(he:PE X e te)(i:PO X lo tl)(k:PO X hi th):PE X (.Subscript e (.Slice lo hi none p2) pos) (tSl r te tl th):=by
 intro pins s σ H Q I h;refine Subscript_ (thn (he pins s σ H _ I h) λv A ⟨x,H1,p,C,q1⟩ => ?_);refine wpAny_Slice (thn (i pins A σ H1 _ p q1) λc n ⟨l,j,m,o,q2⟩=>thn (k pins n σ j _ m q2) λd a ⟨u,f,g,B,q3⟩ => ?_);rw[evalPart_none];refine y3 ?_;have D:Inv X pins σ f { a with heap:=a.heap.push { cls:=.type "slice",data:=.fields #[c,d,.none] } }:=g.kept (t':=a.toks) λb E q=>ZH _ q;obtain⟨T,id,z,y,w⟩:=t pins { a with heap:=a.heap.push { cls:=.type "slice",data:=.fields #[c,d,.none] } } σ f x v c d l u a.heap.objs.size Q D C (Heap.IsSliceOf.new ..) o B q3;show wpAny (model X.prog X.w) X.A (subscriptTail e (.Slice lo hi none p2) v (.ref a.heap.objs.size)) (EP X pins σ Q) X.xe { a with heap:=a.heap.push { cls:=.type "slice",data:=.fields #[c,d,.none] } };exact tail_any (ops:=[.ref a.heap.objs.size,v]) y z w (by with_unfolding_all rfl)
def pD (xs:List V) (lo hi:Option Int):List V:=(xs.drop (HT.sIx xs.length 0 lo)).take (HT.sIx xs.length xs.length hi - HT.sIx xs.length 0 lo)
theorem n4 (xs:List V)(lo hi:Option Int):(pD xs lo hi).length<=xs.length:=by
 unfold pD;rw[X9,List.length_drop];omega
def KO (K:ZX):V->Option Int->Option Int->Hp->VK->Prop:=λx lo hi H Q=>∃a xs,x=.ref a/\SqT K H a xs/\
 ¬(HT.sIx xs.length 0 lo=0/\HT.sIx xs.length xs.length hi=xs.length)/\∀p,H p=none->Q (.ref p) (upd H p (.tup (pD xs lo hi)))
theorem Hb:SlR X (KO X.K):=by
 intro pins s σ H x v n p lo hi sl Q I j i k m h;obtain⟨a,xs,rfl,l,hw,q⟩:=h;cases j;obtain⟨d,r,f,g⟩:=I.tuple l;have c:d.toArray.size=xs.length:=by rw[w9];exact r.length.symm
 refine⟨"tuple",_,PyProof.Rows.slot_tuple_getitem.lookup,f.typeIs,?_⟩;refine HT.getItem_tuple_cut f i k m (by rw[c];exact hw) ?_ (by rw[c];exact g);rw[c];refine⟨.ref s.heap.objs.size,_,I.laid (t':=s.toks) (o:=.tup (pD xs lo hi)) (λb t q=>ZH _ q) (ZL _) ?_,rfl,q _ (I.hok.fresh (ZL _))⟩;exact⟨ZM (n4 xs lo hi) g,_,(r.drop (HT.sIx xs.length 0 lo)).take (HT.sIx xs.length xs.length hi - HT.sIx xs.length 0 lo),IsTup.new _ _⟩
def B9 (K:ZX):R2:=λx y H Q=>∃a b xs ys,x=.ref a/\y=.ref b/\SqT K H a xs/\SqT K H b ys/\xs≠[]/\xs.length + ys.length<=sizeLine/\
 (ys=[]->Q (.ref a) H)/\(ys≠[]->∀p,H p=none->Q (.ref p) (upd H p (.tup (xs++ys))))
theorem aR.nil_iff {xs:List V}{a:List T0}(r:aR xs a):a=[] ↔ xs=[]:=by
 cases r with
 | nil=>simp
 | cons _ _=>simp
theorem EM:OpR X (binaryOp .Add) (B9 X.K):=by
 intro pins s σ H x y v u Q I k n h;obtain⟨a,b,xs,ys,rfl,rfl,i,l,m,f,q1,q2⟩:=h;cases k;cases n;obtain⟨j,d,p,_⟩:=I.tuple i;obtain⟨g,c,p2,_⟩:=I.tuple l;refine HT.cat_tup p p2 (λz=>m (d.nil_iff.mp z)) (λz=>⟨.ref a,H,I,rfl,q1 (c.nil_iff.mp z)⟩) (λz => ?_) (by rw[<-d.length,<-c.length];exact f);refine⟨.ref s.heap.objs.size,_,I.laid (t':=s.toks) (o:=.tup (xs++ys)) (λb r q=>ZH _ q) (ZL _) ?_,rfl,q2 (λw=>z (c.nil_iff.mpr w)) _ (I.hok.fresh (ZL _))⟩;exact⟨by rw[ZB];exact f,_,d.append c,IsTup.new _ _⟩
end
def ixN (n:Nat) (i:Int):Option Nat:=if 0<=i then (if i < n then some i.toNat else none) else if -(n:Int)<=i then some (i + n).toNat else none
def atI {α : Type} (xs:List α) (i:Int):Option α := (ixN xs.length i).bind λj=>xs[j]?
theorem zA {n:Nat}{i:Int}{j:Nat}(h:ixN n i=some j):seqIndex? i n=some j/\j < n/\-(n:Int)<=i/\i < n:=by
 unfold ixN at h
 by_cases h0:0<=i
 ·rw[yD h0]at h
  by_cases h1:i < n
  ·rw[yD h1]at h
   have e:i.toNat=j:=ZT h;exact⟨by rw[seqIndex_of h0 h1,e],by omega,by omega,h1⟩
  ·rw[x3 h1]at h;cases h
 ·rw[x3 h0]at h
  by_cases h1 : -(n:Int)<=i
  ·rw[yD h1]at h
   have e:(i + n).toNat=j:=ZT h;exact⟨by rw[seqIndex_neg (by omega) h1,e],by omega,h1,by omega⟩
  ·rw[x3 h1]at h;cases h
theorem tF {α : Type}{xs:List α}{i:Int}{v : α}(h:atI xs i=some v):∃j,seqIndex? i xs.length=some j/\xs[j]? = some v/\j < xs.length/\-(xs.length:Int)<=i/\i < xs.length:=by
 unfold atI at h;cases e:ixN xs.length i with
 | none=>rw[e]at h;cases h
 | some j =>
  rw[e]at h;obtain⟨h1,h2,b,a⟩:=zA e;exact⟨j,h1,h,h2,b,a⟩
theorem cX {α : Type}{xs:List α}{j:Nat}{v : α}(h:xs[j]? = some v):atI xs (j:Int)=some v:=by
 have a:j < xs.length:=(List.getElem?_eq_some_iff.mp h).1;have e:ixN xs.length (j:Int)=some j:=by
  unfold ixN;rw[yD (by omega),yD (by omega)];simp
 unfold atI;rw[e];exact h
def tG (b:Expr):Prop:=∀o i,subscripted b false o i=operate [o,i] (getItem o i)
def IxR (X:Cx) (r:R2):Prop :=
 ∀(value slice:Expr) (pins:List (Addr × Obj)) (s:T1) (σ:St) (H:Hp) (x y:V) (v u:T0) (Q:VK),Inv X pins σ H s->bx x v->bx y u->r x y H Q->
  subscripted slice false v u=operate [v,u] (getItem v u)->wpAny (model X.prog X.w) X.A (subscriptTail value slice v u) (EP X pins σ Q) X.xe s
def MtR (X:Cx) (id:String) (r:V->List V->Hp->VK->Prop):Prop :=
 ∀(pins:List (Addr × Obj)) (s:T1) (σ:St) (H:Hp) (x:V) (xs:List V) (v:T0) (us:List T0) (Q:VK),Inv X pins σ H s->bx x v->aR xs us->r x xs H Q->
  wpAny (model X.prog X.w) X.A (call (.builtin id) (v :: us)) (EP X pins σ Q) X.xe s
section
variable {X:Cx} {a b:Expr} {ta tb:TE} {pos:Pos}
theorem IxR.or {r e:R2}(h:IxR X r)(h':IxR X e):IxR X (λx y H Q=>r x y H Q\/e x y H Q):=by
 intro c d pins s σ H x y v u Q I g i q f;rcases q with q|q
 ·exact h c d pins s σ H x y v u Q I g i q f
 ·exact h' c d pins s σ H x y v u Q I g i q f
theorem Gh {r:R2}(i:IxR X r)(ha:PE X a ta)(hb:PE X b tb)(c:tG b):PE X (.Subscript a b pos) (tOp r ta tb):=by
 intro pins s σ H Q I h;exact Subscript_ (vn ha hb I h λv u g x y d f e j q=>i a b pins g σ d x y v u Q f e j q (c _ _))
def JA (K:ZX):R2:=λx y H Q=>∃p xs i v,x=.ref p/\y=.int i/\SqL K H p xs/\atI xs i=some v/\Q v H
def JB (K:ZX):R2:=λx y H Q=>∃p xs i v,x=.ref p/\y=.int i/\SqT K H p xs/\atI xs i=some v/\Q v H
def JC:R2:=λx y H Q=>∃z i c,x=.str z/\y=.int i/\z.length<=sizeLine/\atI z.cps.toList i=some c/\Q (.str ⟨#[c]⟩) H
theorem zB:IxR X (JA X.K):=by
 intro e f pins s σ H x y v u Q I C F h m;obtain⟨p,xs,i,z,rfl,rfl,G,E,q⟩:=h;cases C;obtain⟨t,rfl⟩:=F;obtain⟨d,r,g,L⟩:=I.list G;obtain⟨j,h1,h2,J,D,B⟩:=tF E;obtain⟨w,n,l⟩:=r.get h2;have A:=r.length;have K:=mD;have c:EP X pins σ Q w s:=⟨z,H,I,l,q⟩
 by_cases h0:0<=i
 ·have k:i.toNat=j:=by
   rw[seqIndex_of h0 B]at h1;exact ZT h1
  exact item_listR g.isList h0 (by omega) (by rw[k];simpa using n) c m
 ·have k:(i + (d.toArray.size:Int)).toNat=j:=by
   rw[seqIndex_neg (by omega) D]at h1;rw[w9,<-A];exact ZT h1
  exact subscriptTail_builtinR (x:=w) g.isList.typeIs slot_list_getitem.lookup
   (wpAny_getItem_list_neg (Q:=λr o=>r=w/\EP X pins σ Q r o) g.isList (by omega) (by rw[w9]<;>omega) (by omega) (by rw[k];simpa using n) ⟨rfl,c⟩) m
theorem Hc:IxR X (JB X.K):=by
 intro c d pins s σ H x y v u Q I o C h n;obtain⟨p,xs,i,z,rfl,rfl,D,B,q⟩:=h;cases o;obtain⟨t,rfl⟩:=C;obtain⟨m,r,g,K⟩:=I.tuple D;obtain⟨j,h1,h2,F,G,E⟩:=tF B;obtain⟨w,A,f⟩:=r.get h2;have l:=r.length;have J:=mD;have e:EP X pins σ Q w s:=⟨z,H,I,f,q⟩;exact subscriptTail_builtinR (x:=w) g.typeIs slot_tuple_getitem.lookup
  (getItem_tuple (j:=j) (Q:=λr k=>r=w/\EP X pins σ Q r k) g (by omega) (by omega) (by rw[w9,<-l];exact h1) (by simpa using A) ⟨rfl,e⟩) n
theorem He:IxR X JC:=by
 intro d e pins s σ H x y v u Q I m r h k;obtain⟨z,i,c,rfl,rfl,B,p,q⟩:=h;obtain⟨t,rfl⟩:=m;obtain⟨C,rfl⟩:=r;obtain⟨j,h1,h2,w,o,l⟩:=tF p;have f:z.cps.toList.length=z.length:=by simp[Str.length]
 rw[f]at h1 o l;have A:=mD;exact tail_any (typeIs_str s z t) slot_str_getitem.lookup (getItem_str (c:=c) (by
  have n:decide (i < -(2 ^ 63:Int))=false:=ZY (by omega);have g:decide (i ≥ 2 ^ 63)=false:=ZY (by omega);rw[n,g,Bool.or_false]) (by rw[h1];simpa using h2) ⟨.str ⟨#[c]⟩,H,I.tok _,⟨_,rfl⟩,q⟩) k
def rIx (K:ZX):R2:=λx y H Q=>JA K x y H Q\/JB K x y H Q\/JC x y H Q
theorem Hf:IxR X (rIx X.K):=zB.or (Hc.or He)
theorem xA (c:List T0) (n j:Nat) (u:T0):Obj.mapSeq (·.setIfInBounds j u) { cls:=.type "list",data:=.seq c.toArray n } = { cls:=.type "list",data:=.seq (c.set j u).toArray n }:=by
 simp[Obj.mapSeq]
theorem Inv.lst {pins:List (Addr × Obj)}{σ:St}{H:Hp}{s:T1}{p:Addr}{xs:List V}(I:Inv X pins σ H s)(h:H p=some (.lst xs)) :
  ∃(c:List T0) (n:Nat),aR xs c/\s.heap.get? p=some { cls:=.type "list",data:=.seq c.toArray n }/\xs.length<=sizeLine:=by
 obtain⟨z,c,n,r,e⟩:=I.hok p _ h;exact⟨c,n,r,e,z⟩
theorem Inv.lstUpd {pins:List (Addr × Obj)}{σ:St}{H:Hp}{s:T1}{p:Addr}{xs ys:List V}{c its':List T0}{n d:Nat}{f:Obj->Obj}(I:Inv X pins σ H s)(h:H p=some (.lst xs))
  (i:s.heap.get? p=some { cls:=.type "list",data:=.seq c.toArray n }) (g:f { cls:=.type "list",data:=.seq c.toArray n } = { cls:=.type "list",data:=.seq its'.toArray d }) (r:aR ys its') (hz:ys.length<=sizeLine) (t:Nat) :
  Inv X pins σ (upd H p (.lst ys)) { s with heap:=s.heap.update p f,toks:=t }:=by
 have e:(s.heap.update p f).get? p=some { cls:=.type "list",data:=.seq its'.toArray d }:=by
  rw[Heap.get?_update_self f i (by rw[g]<;>rfl),g]
 refine I.write (x:=p) (e:=p) (by rw[h];trivial) (.inl rfl) (λb u j q=>(Heap.get?_update_other _ _ (XO j)).trans q) ⟨_,e⟩ ?_;exact⟨hz,its',d,r,e⟩
def JD:V->V->V->Hp->(Hp->Prop)->Prop:=λo i v H Q=>∃p xs k j,o=.ref p/\i=.int k/\H p=some (.lst xs)/\ixN xs.length k=some j/\Q (upd H p (.lst (xs.set j v)))
theorem Ca:GS X JD:=by
 intro pins s σ H o i v ov B u Q I x y rv h;obtain⟨p,xs,k,j,rfl,rfl,m,z,q⟩:=h;cases x;obtain⟨t,rfl⟩:=y;obtain⟨c,n,r,f,A⟩:=I.lst m;obtain⟨h1,h2,l,w⟩:=zA z;have d:=r.length;have C:=mD;have g:Inv X pins σ (upd H p (.lst (xs.set j v))) { s with heap:=s.heap.update p (Obj.mapSeq (·.setIfInBounds j u)) } :=
  I.lstUpd m f (xA c n j u) (r.set rv j) (by rw[Y4];exact A) s.toks
 by_cases h0:0<=k
 ·have e:k.toNat=j:=by
   rw[seqIndex_of h0 w]at h1;exact ZT h1
  exact PySem.W.ki_setAt f h0 (by omega) (by rw[w9,<-d];exact w) (by rw[e];exact⟨_,g,q⟩)
 ·have e:(k + (c.toArray.size:Int)).toNat=j:=by
   rw[seqIndex_neg (by omega) l]at h1;rw[w9,<-d];exact ZT h1
  exact PySem.W.ki_setBack f (by omega) (by rw[w9,<-d];exact l) (by omega) (by rw[e];exact⟨_,g,q⟩)
theorem tH (lo hi:Option Int)(n:Nat):(sliceBounds lo hi none n).1=((HT.sIx n 0 lo:Nat):Int)/\(sliceBounds lo hi none n).2.1=((HT.sIx n n hi:Nat):Int)/\(sliceBounds lo hi none n).2.2=1:=by
 refine⟨?_,?_,rfl⟩
 ·cases lo with
  | none=>simp[sliceBounds,HT.sIx]
  | some i =>
   simp only[sliceBounds,HT.sIx,Option.getD_none,show (1:Int) > 0 by decide,Uz]
   by_cases h:i < 0
   ·simp only[h,Uz]<;>omega
   ·simp only[h,XF]<;>omega
 ·cases hi with
  | none=>simp[sliceBounds,HT.sIx]
  | some i =>
   simp only[sliceBounds,HT.sIx,Option.getD_none,show (1:Int) > 0 by decide,Uz]
   by_cases h:i < 0
   ·simp only[h,Uz]<;>omega
   ·simp only[h,XF]<;>omega
theorem qK (c:List T0)(lo hi:Option Int):slicePick c.toArray lo hi none=((c.drop (HT.sIx c.length 0 lo)).take (HT.sIx c.length c.length hi - HT.sIx c.length 0 lo)).toArray:=by
 obtain⟨h1,h2,d⟩:=tH lo hi c.toArray.size;unfold slicePick;rw[h1,h2,d];simp only[sliceRange_one,pick_run,w9]<;>rfl
def JE (K:ZX):V->Option Int->Option Int->Hp->VK->Prop:=λx lo hi H Q=>∃a xs,x=.ref a/\SqL K H a xs/\∀p,H p=none->Q (.ref p) (upd H p (.lst (pD xs lo hi)))
theorem EN:SlR X (JE X.K):=by
 intro pins s σ H x v m n lo hi sl Q I g f i l h;obtain⟨a,xs,rfl,j,q⟩:=h;cases g;obtain⟨e,r,d,k⟩:=I.list j;have c:=r.length;refine⟨"list",_,slot_list_getitem.lookup,d.isList.typeIs,?_⟩;refine wpAny_getItem_list_slice d.isList f i l .none (by simp) ?_ (by rw[w9]<;>omega);rw[qK,<-c];refine⟨.ref s.heap.objs.size,_,I.laid (t':=s.toks) (o:=.lst (pD xs lo hi)) (λb p q=>ZH _ q) (ZL _) ?_,rfl,q _ (I.hok.fresh (ZL _))⟩;exact⟨ZM (n4 xs lo hi) k,_,0,(r.drop (HT.sIx xs.length 0 lo)).take (HT.sIx xs.length xs.length hi - HT.sIx xs.length 0 lo),ZJ _ rfl⟩
def kB:V->Bool
 | .non=>true
 | .bl _=>true
 | .int _=>true
 | .str _=>true
 | _=>false
def eqV:V->V->Bool
 | .non,.non=>true
 | .bl a,.bl b=>a == b
 | .bl a,.int b=>(if a then 1 else 0) == b
 | .int a,.bl b=>a == (if b then 1 else 0)
 | .int a,.int b=>a == b
 | .str a,.str b=>a == b
 | _,_=>false
theorem Hg {A:T2}{s:T1}{y x:V}{u v:T0}(f:bx y u)(c:bx x v)(g:kB y=true)(e:kB x=true):SeqAt.EqAt A s u v (eqV y x):=by
 cases y with
 | non =>
  cases f;cases x with
  | non=>cases c;exact SeqAt.EqAt.same _
  | bl b=>cases c;exact SeqAt.EqAt.none_bool b
  | int b=>obtain⟨t,rfl⟩:=c;exact SeqAt.EqAt.none_int b t
  | str b=>obtain⟨t,rfl⟩:=c;exact SeqAt.EqAt.none_str b t
  | _=>exact absurd (show false=true from e) Z0
 | bl a =>
  cases f;cases x with
  | non=>cases c;exact SeqAt.EqAt.bool_none a
  | bl b=>cases c;exact SeqAt.EqAt.bool_bool a b
  | int b=>obtain⟨t,rfl⟩:=c;exact SeqAt.EqAt.bool_int a b t
  | str b=>obtain⟨t,rfl⟩:=c;exact SeqAt.EqAt.bool_str a b t
  | _=>exact absurd (show false=true from e) Z0
 | int a =>
  obtain⟨d,rfl⟩:=f;cases x with
  | non=>cases c;exact SeqAt.EqAt.int_none a d
  | bl b=>cases c;exact SeqAt.EqAt.int_bool a d b
  | int b=>obtain⟨t,rfl⟩:=c;exact SeqAt.EqAt.int_int a d b t
  | str b=>obtain⟨t,rfl⟩:=c;exact SeqAt.EqAt.int_str a d b t
  | _=>exact absurd (show false=true from e) Z0
 | str a =>
  obtain⟨d,rfl⟩:=f;cases x with
  | non=>cases c;exact SeqAt.EqAt.str_none a d
  | bl b=>cases c;exact SeqAt.EqAt.str_bool a d b
  | int b=>obtain⟨t,rfl⟩:=c;exact SeqAt.EqAt.str_int a d b t
  | str b=>obtain⟨t,rfl⟩:=c;exact SeqAt.EqAt.str_str a d b t
  | _=>exact absurd (show false=true from e) Z0
 | _=>exact absurd (show false=true from g) Z0
def eqU (x:V) (u:T0):Bool:=match u with
 | .none=>eqV .non x
 | .bool b=>eqV (.bl b) x
 | .int i _=>eqV (.int i) x
 | .str z _=>eqV (.str z) x
 | _=>false
theorem Cb {x y:V}{u:T0}(r:bx y u)(f:kB y=true):eqU x u=eqV y x:=by
 cases y with
 | non=>cases r;rfl
 | bl b=>cases r;rfl
 | int i=>obtain⟨t,rfl⟩:=r;rfl
 | str z=>obtain⟨t,rfl⟩:=r;rfl
 | _=>exact absurd (show false=true from f) Z0
theorem ld {x:V}:∀{xs:List V} {c:List T0},aR xs c->xs.all kB=true->c.any (eqU x)=xs.any λy=>eqV y x
 | _,_,.nil,_=>rfl
 | y :: xs,u :: c,.cons r t,f=>by
  rw[WO,Z7]at f;rw[WP,WP,Cb r f.1,ld t f.2]
theorem jA {A:T2}{s:T1}{x:V}{v:T0}(e:bx x v)(g:kB x=true):∀{xs:List V} {d:List T0},aR xs d->xs.all kB=true->∀u∈d,SeqAt.EqAt A s u v (eqU x u)
 | _,_,.nil,_=>λu c=>by cases c
 | y :: xs,u :: d,.cons r t,f=>λh c=>by
  rw[WO,Z7]at f;rcases VI.mp c with rfl|c
  ·rw[Cb r f.1];exact Hg r e f.1 g
  ·exact jA e g t f.2 h c
def inV (x:V) (xs:List V):Bool:=xs.any λy=>eqV y x
def rIn (K:ZX) (neg:Bool):R2:=λx y H Q=>∃p xs,y=.ref p/\(SqL K H p xs\/SqT K H p xs)/\kB x=true/\xs.all kB=true/\Q (.bl (if neg then !inV x xs else inV x xs)) H
theorem ir:OpR X (compareOp .In) (rIn X.K false):=by
 intro pins s σ H x y v u Q I f i h;obtain⟨p,xs,rfl,d,g,fs,q⟩:=h;cases i;rcases d with d|d
 ·obtain⟨c,r,e,j⟩:=I.list d
  refine SeqAt.in_listAt (eqU x) e.isList (λw hw=>jA f g r fs w (by simpa using hw)) ⟨.bl _,H,I,rfl,?_⟩;rw[show c.toArray.any (eqU x)=c.any (eqU x) by simp,ld r fs];exact q
 ·obtain⟨c,r,e,j⟩:=I.tuple d
  refine SeqAt.in_tupleAt (eqU x) e (λw hw=>jA f g r fs w (by simpa using hw)) ⟨.bl _,H,I,rfl,?_⟩;rw[show c.toArray.any (eqU x)=c.any (eqU x) by simp,ld r fs];exact q
theorem lh:OpR X (compareOp .NotIn) (rIn X.K true):=by
 intro pins s σ H x y v u Q I f i h;obtain⟨p,xs,rfl,d,g,fs,q⟩:=h;cases i;rcases d with d|d
 ·obtain⟨c,r,e,j⟩:=I.list d
  refine SeqAt.notIn_listAt (eqU x) e.isList (λw hw=>jA f g r fs w (by simpa using hw)) ⟨.bl _,H,I,rfl,?_⟩;rw[show c.toArray.any (eqU x)=c.any (eqU x) by simp,ld r fs];exact q
 ·obtain⟨c,r,e,j⟩:=I.tuple d
  refine SeqAt.notIn_tupleAt (eqU x) e (λw hw=>jA f g r fs w (by simpa using hw)) ⟨.bl _,H,I,rfl,?_⟩;rw[show c.toArray.any (eqU x)=c.any (eqU x) by simp,ld r fs];exact q
theorem tI:fS X (.builtin "len") (λxs H Q=>∃p ys,xs=[.ref p]/\(SqL X.K H p ys\/SqT X.K H p ys)/\Q (.int ys.length) H):=by
 intro pins s σ H xs l Q I r h;obtain⟨p,ys,rfl,d,q⟩:=h;obtain⟨u,rfl,i⟩:=vp r;cases i;have k:=mD;rcases d with d|d
 ·obtain⟨e,f,g,j⟩:=I.list d
  have c:=f.length;exact Calls.call_len_list g.isList (by simp only[w9]<;>omega) ⟨.int ys.length,H,I.tok _,⟨s.toks + 1,by rw[w9,c]⟩,q⟩
 ·obtain⟨e,f,g,j⟩:=I.tuple d
  have c:=f.length;exact len_tuple g (by simp only[w9]<;>omega) ⟨.int ys.length,H,I.tok _,⟨s.toks + 1,by rw[w9,c]⟩,q⟩
theorem tJ:fS X (.type "list") (λxs H Q=>∃p ys,xs=[.ref p]/\(SqL X.K H p ys\/SqT X.K H p ys)/\∀l,H l=none->Q (.ref l) (upd H l (.lst ys))):=by
 intro pins s σ H xs y Q I r h;obtain⟨p,ys,rfl,j,q⟩:=h;obtain⟨u,rfl,x⟩:=vp r;cases x;have i:∀(c:List T0),aR ys c->ys.length<=sizeLine->∀(d:Heap) (g:Nat),(∀b o',s.heap.get? b=some o'->d.get? b=some o')->
   d.get? s.heap.objs.size=some { cls:=.type "list",dict:=none,data:=.seq c.toArray g,slots := #[] }->EP X pins σ Q (.ref s.heap.objs.size) { s with heap:=d }:=λc f m d g t e =>
  ⟨.ref s.heap.objs.size,_,I.laid (t':=s.toks) t (ZL _) (show dz X.prog X.w _ d _ (.lst ys) from ⟨m,c,g,f,e⟩),rfl,q _ (I.hok.fresh (ZL _))⟩
 rcases j with j|j
 ·obtain⟨c,f,w,m⟩:=I.list j
  have k:=f.length;obtain⟨o,v,hc,n,hd⟩:=w.isList;exact call_list_seq p (.inl rfl) v hc hd (λd g t e=>i c f m d g t e) (by simp only[w9]<;>omega)
 ·obtain⟨c,f,w,m⟩:=I.tuple j
  have k:=f.length;obtain⟨o,v,hc,n,hd⟩:=w;exact call_list_seq p (.inr rfl) v hc hd (λd g t e=>i c f m d g t e) (by simp only[w9]<;>omega)
theorem qL:fS X (.type "tuple") (λxs H Q=>∃p ys,xs=[.ref p]/\((SqL X.K H p ys/\∀l,H l=none->Q (.ref l) (upd H l (.tup ys)))\/(SqT X.K H p ys/\Q (.ref p) H))):=by
 intro pins s σ H xs v Q I r h;obtain⟨p,ys,rfl,h⟩:=h;obtain⟨u,rfl,m⟩:=vp r;cases m;rcases h with ⟨hq,q⟩|⟨hq,q⟩
 ·obtain⟨c,f,g,k⟩:=I.list hq
  have j:=f.length;refine call_tuple_list g.isList (λd t => ?_) (by simp only[w9]<;>omega);have i:Inv X pins σ H { s with heap:=d }:=I.kept (t':=s.toks) t;have n:Inv X pins σ (upd H d.objs.size (.tup ys)) { s with heap:=d.push { cls:=.type "tuple",data:=.seq c.toArray } } :=
   i.laid (t':=s.toks) (λb o e=>ZH _ e) (ZL _) (show dz X.prog X.w _ _ _ (.tup ys) from ⟨k,c,f,IsTup.new _ _⟩)
  exact⟨.ref d.objs.size,_,n,rfl,q _ (i.hok.fresh (ZL _))⟩
 ·obtain⟨c,f,g,k⟩:=I.tuple hq
  exact call_tuple_same g ⟨.ref p,H,I,rfl,q⟩
def tyV (K:ZX) (T:String) (x:V) (H:Hp):Prop:=match x with
 | .str _=>T = "str"
 | .int _=>T = "int"
 | .ref p=>(T = "list"/\∃xs,SqL K H p xs)\/(T = "tuple"/\∃o,K.lookup p=some o/\o.cls=.type "tuple"/\o.dict=none)\/
   (T = "dict"/\((∃kvs,H p=some (.dK kvs))\/∃kvs,H p=some (.dT kvs)))\/(T = "set"/\∃S n,H p=some (.set S n))
 | _=>False
theorem Hh {pins:List (Addr × Obj)}{σ:St}{H:Hp}{s:T1}{T:String}{x:V}{v:T0}(I:Inv X pins σ H s)(r:bx x v)(ty:tyV X.K T x H) :
  s.TypeIs v T/\∀a,v=.ref a->∃g,s.heap.get? a=some g/\g.dict=none:=by
 cases x with
 | str z =>
  obtain⟨t,rfl⟩:=r;cases (show T = "str" from ty);exact⟨typeIs_str s z t,λ_ e=>nomatch e⟩
 | int i =>
  obtain⟨t,rfl⟩:=r;cases (show T = "int" from ty);exact⟨typeIs_int s i t,λ_ e=>nomatch e⟩
 | ref p =>
  cases r;rcases ty with ⟨rfl,xs,hq⟩|⟨rfl,o,hk,hc,hd⟩|⟨rfl,hk⟩|⟨rfl,S,n,hk⟩
  ·obtain⟨h,_,f,_⟩:=I.list hq
   refine⟨f.isList.typeIs,λa e => ?_⟩;cases e;obtain⟨o,n,e,c,hd,_⟩:=f;exact⟨o,e,hd⟩
  ·refine⟨⟨o,I.kIn p o hk,hc⟩,λa e => ?_⟩
   cases e;exact⟨o,I.kIn _ o hk,hd⟩
  ·have z:∃o,s.heap.get? p=some o/\o.ExactDict:=by
    rcases hk with ⟨kvs,hk⟩|⟨kvs,hk⟩
    ·obtain⟨_,_,_,_,o,_,_,e,ex,_⟩:=I.hok p _ hk
     exact⟨o,e,ex⟩
    ·obtain⟨_,_,_,_,o,_,_,e,ex,_⟩:=I.hok p _ hk
     exact⟨o,e,ex⟩
   obtain⟨o,e,ex⟩:=z;refine⟨⟨o,e,ex.1⟩,λa d => ?_⟩;cases d;exact⟨o,e,ex.2.1⟩
  ·obtain⟨o,_,_,_,e,ex,_⟩:=I.hok p _ hk
   refine⟨⟨o,e,ex.1⟩,λa d => ?_⟩;cases d;exact⟨o,e,ex.2.1⟩
 | _=>exact False.elim ty
def tBM (K:ZX) (T:String) (r:V->List V->Hp->VK->Prop) (to:TE) (t:TA):TE:=λσ H Q=>to σ H λx H1=>tyV K T x H1/\t σ H1 λxs H2=>r x xs H2 Q
variable {o e:Expr} {es:List Expr} {to:TE} {t:TA} {name:Str} {apos cpos:Pos} {T id:String} {r:V->List V->Hp->VK->Prop}
theorem JF (B:PlainAttrs T) (slot:Slot T name id) (i:typeOf (.builtin id)=pure (.type "method_descriptor")) (hm:MtR X id r) (u:PE X o to) (ha:PA X (e :: es) t)
  (d:attributeBase o name X.env (eval o X.env)=eval o X.env:=by rfl)
  (g:((backTo cpos (starEach (e :: es) X.env)).all (λx => !x.1) && (backToKw cpos (keywordEach [] X.env)).all (λx=>x.1.isSome)
   && decide ((e :: es).length + ([] : List Keyword).length + (if ([] : List Keyword).isEmpty then 0 else 1) < 30))=true:=by rfl)
  (f:(apos.endLine == cpos.line)=true:=by rfl) (m:starEach (e :: es) X.env=(false,eval e X.env) :: starEach es X.env:=by rfl) (c:(backTo cpos (starEach es X.env)).any (·.1)=false:=by rfl) :
  PE X (.Call (.Attribute o name apos) (e :: es) [] cpos) (tBM X.K T r to t):=by
 intro pins s σ H Q I h;refine wpAny_Call_method_late d g f rfl (thn (u pins s σ H _ I h) λv y ⟨x,H1,k,l,ty,q1⟩ => ?_);obtain⟨h1,h2⟩:=Hh k l ty;refine⟨T,id,B,slot,i,h1,h2,?_⟩;have j:=ha cpos pins y σ H1 _ k q1;rw[m]at j ⊢;refine Calls.callWith_builtin (by show (false || (backTo cpos (starEach es X.env)).any (·.1))=false;rw[c]<;>rfl) (Calls.evalArgs_plain ?_);exact thn j λz w ⟨p,n,q,A,q2⟩=>hm pins w σ n x p v z Q q l A q2
end
def MtM (X:Cx) (id:String) (r:V->List V->Hp->VK->Prop):Prop :=
 ∀(pins:List (Addr × Obj)) (s:T1) (σ:St) (H:Hp) (x:V) (xs:List V) (v:T0) (us:List T0) (Q:VK),Inv X pins σ H s->bx x v->aR xs us->r x xs H Q->
  wpAny (model X.prog X.w) X.A (call (.builtin id) (v :: us)) (EP X pins σ Q) X.xe s
theorem aR.one {x:V}{a:List T0}(h:aR [x] a):∃u,a=[u]/\bx x u:=by
 cases h with
 | cons r t=>cases t;exact⟨_,rfl,r⟩
theorem aR.two {x y:V}{a:List T0}(h:aR [x,y] a):∃u v,a=[u,v]/\bx x u/\bx y v:=by
 cases h with
 | cons r t =>
  cases t with
  | cons q t=>cases t;exact⟨_,_,rfl,r,q⟩
theorem aR.rep {xs:List V}{a:List T0}(h:aR xs a):∀k:Nat,aR (List.replicate k xs).flatten (List.replicate k a).flatten
 | 0=>.nil
 | k + 1=>by
  rw[YW,YW,YZ,YZ];exact aR.append h (aR.rep h k)
theorem rT (a:List T0):∀(k:Nat) (b:List T0),
  List.foldl (λx1 d=>x1++d) b.toArray (List.replicate k a.toArray)=(b++(List.replicate k a).flatten).toArray
 | 0,b=>by simp
 | k + 1,b=>by
  have e:b.toArray++a.toArray=(b++a).toArray:=by simp
  have c:(b++a)++(List.replicate k a).flatten=b++(List.replicate (k + 1) a).flatten:=by
   rw[YW,YZ,ZU]
  rw[<-c,<-rT a k (b++a),<-e,YW,XB]
section
variable {X:Cx} {pins:List (Addr × Obj)} {σ:St} {H:Hp} {s:T1} {l b:Addr} {xs ys zs:List V}
theorem Inv.lset {a its':List T0}{n:Nat}{f:Array T0->Array T0}{t':Nat}(I:Inv X pins σ H s)(h:H l=some (.lst xs))
  (e:s.heap.get? l=some { cls:=.type "list",data:=.seq a.toArray n }) (d:f a.toArray=its'.toArray) (i:aR ys its') (hz:ys.length<=sizeLine) :
  Inv X pins σ (upd H l (.lst ys)) { s with heap:=s.heap.update l (Obj.mapSeq f),toks:=t' }:=by
 have q:=PySem.IsL.update e f;rw[d]at q;refine I.write (x:=l) (e:=l) (by rw[h];exact trivial) (.inl rfl) (λj u c g=>(Heap.get?_update_other s.heap (Obj.mapSeq f) (XO c)).trans g) ⟨_,q⟩ ?_;exact⟨hz,its',_,i,q⟩
theorem Inv.lnew {a:List T0}{t':Nat}(I:Inv X pins σ H s)(c:aR ys a)(hz:ys.length<=sizeLine) :
  Inv X pins σ (upd H s.heap.objs.size (.lst ys)) { s with heap:=s.heap.push { cls:=.type "list",data:=.seq a.toArray },toks:=t' } :=
 I.laid (λ_ _ q=>ZH _ q) (ZL _) ⟨hz,a,0,c,ZJ _ rfl⟩
theorem Inv.fresh (I:Inv X pins σ H s):H s.heap.objs.size=none:=I.hok.fresh (ZL _)
theorem Inv.lstM (I:Inv X pins σ H s) (c:H l=some (.lst xs)):xs.length<=sizeLine/\∃(a:List T0) (n:Nat),aR xs a/\xs.length=a.length/\s.heap.get? l=some { cls:=.type "list",data:=.seq a.toArray n }:=by
 obtain⟨z,a,n,r,e⟩:=I.hok l _ c;exact⟨z,a,n,r,r.length,e⟩
theorem Cc {n:Nat}(h:n<=sizeLine):Builtin.List.listTooLong n=false:=by
 unfold Builtin.List.listTooLong;exact ZY (by omega)
end
section
variable {X:Cx}
def EO:V->List V->Hp->VK->Prop:=λx vs H Q=>∃l xs y,x=.ref l/\vs=[y]/\H l=some (.lst xs)/\xs.length < sizeLine/\Q .non (upd H l (.lst (xs++[y])))
theorem rV:MtM X "list.append" EO:=by
 intro pins s σ H x g v i Q I c rv h;obtain⟨l,xs,y,rfl,rfl,b,j,q⟩:=h;cases c;obtain⟨u,rfl,d⟩:=rv.one;obtain⟨z,a,n,r,f,e⟩:=I.lstM b;refine call_meets F.slot_list_append ⟨_,e,rfl⟩ F.entry_list_append (F.args_list_append_2 _ _) (PySem.list_append l a.toArray n u (by rw[w9];omega)) ⟨e,?_⟩;refine⟨.non,_,I.lset (its':=a++[u]) b e (by simp) (r.append (.cons d .nil)) ?_,rfl,q⟩;rw[ZB,List.length_singleton];omega
def KP:R2:=λx y H Q=>∃l b xs zs,x=.ref l/\y=.ref b/\H l=some (.lst xs)/\H b=some (.lst zs)/\xs.length + zs.length<=sizeLine/\∀p,H p=none->Q (.ref p) (upd H p (.lst (xs++zs)))
theorem Hi:OpR X (binaryOp .Add) KP:=by
 intro pins s σ H x y v u Q I j m h;obtain⟨l,b,xs,w,rfl,rfl,g,f,A,q⟩:=h;cases j;cases m;obtain⟨z,c,n,r,p,e⟩:=I.lstM g;obtain⟨B,a,t,k,i,d⟩:=I.lstM f;refine PySem.P.add_list e d ?_ (by rw[w9,w9];omega);have o:c.toArray++a.toArray=(c++a).toArray:=by simp
 rw[o];exact⟨.ref _,_,I.lnew (t':=s.toks) (r.append k) (by rw[ZB];omega),rfl,q _ I.fresh⟩
def KQ:R2:=λx y H Q=>∃l k xs,x=.ref l/\y=.int k/\H l=some (.lst xs)/\-(2 ^ 63)<=k/\k < 2 ^ 63/\xs.length * k.toNat<=sizeLine/\
 ∀p,H p=none->Q (.ref p) (upd H p (.lst (List.replicate k.toNat xs).flatten))
theorem EQ {α : Type}(xs:List α)(k:Nat):(List.replicate k xs).flatten.length=k * xs.length:=by
 induction k with
 | zero=>simp
 | succ k ih=>rw[YW,YZ,ZB,ih,Nat.succ_mul,Nat.add_comm]
theorem Hj:OpR X (binaryOp .Mult) KQ:=by
 intro pins s σ H x y v u Q I B D h;obtain⟨l,k,xs,rfl,rfl,A,h1,h2,o,q⟩:=h;cases B;obtain⟨t,rfl⟩:=D;obtain⟨z,b,n,r,w,e⟩:=I.lstM A;have g:b.toArray.size * k.toNat<=sizeLine:=by rw[w9,<-w];exact o
 have f : ¬b.toArray.size * k.toNat > (2 ^ 63 - 1) / 8:=by
  have:(sizeLine:Nat)<=(2 ^ 63 - 1) / 8:=by decide
  omega
 have d : ¬(!Builtin.List.listFitsIndex k)=true:=by
  rw[fitsIndex_both h1 h2];exact Z0
 have c : ¬Builtin.List.listTooLong (b.toArray.size * k.toNat)=true:=by
  rw[Cc g];exact Z0
 have i:List.foldl (λx1 j=>x1++j) #[] (List.replicate (if b.toArray.isEmpty=true then 0 else k.toNat) b.toArray)=(List.replicate k.toNat b).flatten.toArray:=by
  have C:∀m:Nat,List.foldl (λx1 j=>x1++j) #[] (List.replicate m b.toArray)=(List.replicate m b).flatten.toArray:=λm=>by
   have:=rT b m [];rw[List.nil_append]at this;exact this
  rw[C];cases b with
  | nil=>simp
  | cons a r'=>rw[x3 (by simp)]
 refine wpAny_binaryOp_repeat_ref (T := "list") (U := "int") (by decide) ⟨_,e,rfl⟩ (λp=>typeIs_int p k t) noFill_list_mul F.fills_int_mul F.slot_int_rmul repeat_list F.slot_int_index.lookup
  (call_meets F.slot_int_rmul (typeIs_int s k t) F.entry_int_rmul (F.args_int_rmul_2 _ _) (int___rmul___int_list k t l b.toArray n)
   ⟨e,rfl,⟨_,e,rfl⟩,call_meets F.slot_list_mul ⟨_,e,rfl⟩ F.entry_list_mul (F.args_list_mul_2 _ _) (AutoListH.list___mul___list_int_3 l b.toArray n k t d f c) ⟨e,?_⟩⟩)
 rw[i];exact⟨.ref _,_,I.lnew (t':=s.toks) (r.rep k.toNat) (by rw[EQ,Nat.mul_comm];exact o),rfl,q _ I.fresh⟩
end
section
variable {prog:T3} {w:T4} {A:T2} {E:T0->T1->Prop} {s:T1}
end
section
variable {X:Cx}
end
end L2
namespace Att
open PySem PySem.W PySem.Calls PyProof.Rows
theorem oG {P:Params}{h:Heap}:∀(ns:List Int) (c:List T0),WellAll P h c (ns.map WData.int)->IntsAre c ns:=by
 intro ns
 induction ns with
 | nil =>
  intro c w;rw[VW]at w;cases w;exact .nil
 | cons n ns ih =>
  intro c w;rw[x8]at w;cases w with
  | cons a b =>
   cases a;exact .cons _ _ (ih _ b)
theorem AH {l:OpenLaw}{n:Nat}(hn:l.most=some n){P:Params}{h:Heap}{args:List WData}{b:List T0}
  (c:l.row.toRowW.claim.pre args=true) (i:WellAll P h b args) :
  ∃a k ns,b=[Value.ref a]/\args=[WData.list (ns.map WData.int)]/\h.get? a=some { cls:=.type "list",data:=.seq k.toArray }/\IntsAre k ns/\ns.length<=n:=by
 have j:WShape.hasAll [] args [.list .int] = true:=(pre_splitW c).1;have hc:l.pre.holds [] { args:=args } = true:=(pre_splitW c).2;obtain⟨d,r,rfl,h1,h2⟩:=hasAllW_cons j;obtain rfl:=hasAllW_nil h2;obtain⟨xs,rfl,m⟩:=hasW_list h1;obtain⟨ns,rfl⟩:=items_int m;have e:ns.length<=n:=by
  unfold OpenLaw.pre at hc;have g:(WTm.not (.lt (.lit (.int (n:Int))) (.len (.arg 0)))).holds [] { args:=[.list (ns.map .int)] } = true:=by
   have g:=(holds_andW hc).1;rw[hn]at g;exact g
  have f:=condW_of g (w_not (w_lt w_lit (w_len_list (w_arg rfl))));rw[ZA]at f;refine WU λq => ?_;have o:(n:Int) < ((ns.length:Nat):Int):=by omega
  first
   | (rw[w8 o]at f;exact absurd f (by decide))
   | (simp at f;omega)
 cases i with
 | cons w1 w2 =>
  cases w2;cases w1 with
  | list ho hall=>exact⟨_,_,ns,rfl,rfl,ho,oG ns _ hall,e⟩
theorem AI (l:OpenLaw)(args:List WData):l.row.toRowW.claim.post args (.bool true) args=true :=
 postW_of (r:=l.row.toRowW) (X:=(true == true))
  (show WShape.has [] (.bool true) .bool=true by first|rfl|decide|simp[WShape.has,WShape.arms,WShape.armsAll])
  (show (WTm.eq .res (.lit (.bool true))).value [] { args:=args,res:=some (.bool true),after:=args } = some (.bool (true == true)) from w_eq_bool (w_res rfl) w_lit) rfl
theorem attach_call {l:OpenLaw}{n:Nat}{q:T3}{c:List Str}{XP:(Str->Option T0)->Heap->Prop}{x:T4->Heap->Prop}{d:DefRec}
  (hn:l.most=some n) (u:d.params.defaults=[])
  (call:∀(w:T4) (s₀ b : T1) (mg p:Str->Option T0) (fa:Addr) (o:Obj) (pm m g:T0) (a:Addr) (vs:List T0) (ns:List Int),
   Ground q c [] XP w s₀ mg p b.heap->x w b.heap->
   b.heap.get? fa=some o->o.data=.func (docDef d.name d.params d.body d.scope pm m g)->b.heap.CodeRec m d.name->mg d.name=some (.ref fa)->
   b.heap.get? a=some { cls:=.type "list",data:=.seq vs.toArray }->IntsAre vs ns->ns.length<=n->b.gens = #[]->
   codeAny (model l.prog w) callerA (.call (.ref fa) ⟨[.ref a],[]⟩) (λr k=>r=.ok (.ret (.bool true))/\OldK b.heap k.heap/\k.os=b.os/\AllBare k.gens) b) :
  WalkO q c XP x l.row.toRowW d [] (λf vs=>PySem.call f vs):=by
 intro w s₀ b mg p G Y fa o pm m g H kV D hd s A hmg E v y L h z J t B;obtain rfl:H=.none:=Dflts.none A u;obtain rfl:kV=.none:=Dflts.noKw A;obtain⟨a,vs,ns,rfl,rfl,j,e,i⟩:=AH hn h t;refine enter_call (VV (call w s₀ b mg p fa o pm m g a vs ns G Y D (fd_plain hd) s hmg j e i E) λr k I => ?_);obtain⟨rfl,h2,C,F⟩:=I;exact⟨.inl ⟨.bool true,.bool true,[],rfl,λ_=>rfl,.bool true,AI l _,λ_=>⟨List.Pairwise.nil,λ_ K=>(nomatch K)⟩⟩,h2,C,F⟩
section
variable {prog:T3} {w:T4} {A:T2} {E:T0->T1->Prop} {s:T1} {K:Frag}
def noObjs (h:Heap):Heap:={ h with objs := #[] }
theorem noObjs_get (h:Heap)(b:Addr):(noObjs h).get? b=none:=by
 cases e:(noObjs h).get? b with
 | none=>rfl
 | some o=>exact absurd (ZI e) (XC _)
def ledger (h:Heap) (L d:Addr):List (Addr × Obj):=(List.range h.objs.size).filterMap λa=>if a=L\/a=d then none else (h.get? a).map λo=>(a,o)
theorem mem_ledger {h:Heap}{L d a:Addr}{o:Obj}:(a,o)∈ledger h L d ↔ a≠L/\a≠d/\h.get? a=some o:=by
 unfold ledger;rw[List.mem_filterMap];constructor
 ·rintro⟨b,_,e⟩
  split at e
  ·cases e
  ·rename_i hb
   obtain⟨o',c,g⟩:=Option.map_eq_some_iff.mp e;cases g;exact⟨λq=>hb (.inl q),λq=>hb (.inr q),c⟩
 ·rintro⟨f,i,c⟩
  refine⟨a,List.mem_range.mpr (ZI c),?_⟩;rw[x3 (show ¬(a=L\/a=d) from λq=>q.elim f i),c]<;>rfl
theorem fr_all {h:Heap}{L:Addr}{m:Str->Option T0}(n:h.Ns L m):Fr (noObjs h) L h m :=
 ⟨n,λb o e=>(by rw[noObjs_get]at e;cases e),YG _⟩
end
end Att
namespace L2
open PySem PySem.Spec PyProof.Rows
theorem rW:∀{a:List T0} {ns:List Int},IntsAre a ns->aR (ns.map V.int) a
 | _,_,.nil=>.nil
 | _,_,.cons n t h=>.cons ⟨t,rfl⟩ (rW h)
def Hk (H:Hp):Prop:=∀b,H b=none\/∃o xs,H b=some (.frz o (.lst xs))
theorem Cd {P:T3}{w:T4}{K:ZX}{mg E:Str->Option T0}{CX:CXT}{k:Nat}{fa a:Addr}{fd:FuncData}{x:Str}{sp:Sp}{c : T1}{vs:List T0}{ns:List Int}
  (KX:K.In c.heap) (p:c.heap.Ns mainGlobals mg) (hb:c.heap.Ns builtinsNs E) (L:∀x:Str,x ≠ "__name__"->E x=bootBuiltins x) (B:c.heap.NoLimit) (Y:c.gens = #[])
  (ha:c.heap.get? a=some { cls:=.type "list",data:=.seq vs.toArray }) (hi:IntsAre vs ns) (N:ns.length<=sizeLine) (X:ip k callerA)
  (F:∀base:Heap,K.In base->base.Ns mainGlobals mg->bN P w K mg base CX k fa fd [x] sp) (l:∀(s:T1) (u:T0),BindsTo s fd ⟨[u],[]⟩ [(x,u)])
  (G:∀H:Hp,Hk H->SqL K H a (ns.map V.int)->sp [.ref a] H (λv _=>v=.bl true) λ_ _ _=>False)
  (J:∀H e g,CX [] H c (λ_ _ _=>False) e g->False) :
  codeAny (model P w) callerA (.call (.ref fa) ⟨[.ref a],[]⟩) (λr g=>r=.ok (.ret (.bool true))/\OldK c.heap g.heap/\g.os=c.os/\AllBare g.gens) c := by
 have rv:=rW hi;have A:=hi.length;have j:∀H:Hp,Hk H->SqL K H a (ns.map V.int)->HOk P w H c.heap->(∀b,H b≠none->b=a)->(H a≠none->K.lookup a=none)->
   codeAny (model P w) callerA (.call (.ref fa) ⟨[.ref a],[]⟩) (λr g=>r=.ok (.ret (.bool true))/\OldK c.heap g.heap/\g.os=c.os/\AllBare g.gens) c := by
  intro H O hS hok M W;have f:∀{b:Addr} {o:Obj},c.heap.get? b=some o->H b=none->(tw c.heap H).get? b=some o:=λe n=>BS e n;have I:∀{b:Addr} {o:Obj} {es:Array DictEntry} {ep:Nat},c.heap.get? b=some o->o.data=.dict es ep->H b=none:=λ{b o es ep} e d=>by
   cases q:H b with
   | none=>rfl
   | some u =>
    have D:b=a:=M b (by rw[q];simp);subst D;rw[ha]at e;cases e;have U:Data.seq vs.toArray _=Data.dict es ep:=d;cases U
  have i:∀{b:Addr} {m:Str->Option T0},c.heap.Ns b m->(tw c.heap H).Ns b m:=λ{b m} ⟨o,es,ep,e,d,r⟩=>⟨o,es,ep,f e (I e d),d,r⟩;have C:K.In (tw c.heap H):=λb o e=>f (KX b o e) (by
   cases q:H b with
   | none=>rfl
   | some u =>
    have D:b=a:=M b (by rw[q];simp);subst D;rw[W (by rw[q];simp)]at e;cases e)
  have hM:Mod K mg (tw c.heap H):=⟨C,i p,⟨E,i hb,L⟩,let ⟨mc,h1,h2⟩:=B;⟨mc,i h1,h2⟩⟩;have Z:EH P w K mg (tw c.heap H) callerA [] c H:=⟨rfl,hM,λb o e=>Et e,Nat.le_of_eq (AA _ _),trivial,λb hb=>absurd (show b∈([] : List Addr) from hb) (by simp),hok,.of_eq Y⟩;refine VV ((F _ C (i p)).run callerA [] c H ⟨[.ref a],[]⟩ [.ref a] [.ref a] _ _ X Z (l c (.ref a)) (.cons rfl .nil) (G H O hS)) λr g h => ?_;cases r with
  | error e=>exact(J H e g h).elim
  | ok fl =>
   cases fl with
   | next=>exact False.elim h
   | brk=>exact False.elim h
   | cont=>exact False.elim h
   | ret u =>
    obtain⟨v,H',os,bare,R,y,T,q⟩:=h;have q':v=.bl true:=q;subst q';obtain rfl:u=Value.bool true:=T;refine⟨rfl,OldK.of_keep λb o e => ?_,os,bare⟩;cases q:H b with
    | none=>exact R.keep b o e q (by intro z;exact absurd (show b∈([] : List Addr) from z) (by simp)) (by simp)
    | some u =>
     rcases O b with z|⟨ob,xs,z⟩
     ·rw[q]at z;cases z
     ·have z2:=R.frzs b ob _ z
      obtain⟨Q,_⟩:=hok b _ z;obtain⟨S,_⟩:=y b _ z2;rw[e]at Q;cases Q;exact S
 cases hk:K.lookup a with
 | some o =>
  have e:=KX a o hk;rw[ha]at e;cases e;refine j (λ_=>none) (λ_=>.inl rfl) (.inr ⟨_,vs.toArray,_,hk,rfl,rfl,rfl,by rw[w9,A];exact N,by simpa using rv⟩) (λb u z=>by have t:(none:Option HO)=some u:=z;cases t) (λb z=>absurd rfl z) λz=>absurd rfl z
 | none =>
  refine j (λb=>if b=a then some (.frz { cls:=.type "list",data:=.seq vs.toArray } (.lst (ns.map V.int))) else none) (λb => ?_) (.inl (.inr ⟨{ cls:=.type "list",data:=.seq vs.toArray },yD rfl⟩)) (λb u z => ?_) (λb z => ?_) λ_=>hk
  ·by_cases hb:b=a
   ·exact .inr ⟨_,_,yD hb⟩
   ·exact .inl (x3 hb)
  ·by_cases hb:b=a
   ·have t:=(yD hb).symm.trans z
    cases t;subst hb;exact⟨ha,by rw[ZA];exact N,vs,_,rv,ha⟩
   ·have t:=(x3 hb).symm.trans z
    cases t
  ·by_cases hb:b=a
   ·exact hb
   ·exact absurd (x3 hb) z
theorem ER {l:PySem.W.OpenLaw}{n k:Nat}{q:T3}{g:List Str}{XP:(Str->Option T0)->Heap->Prop}{A:T4->Heap->Prop}{d:DefRec}{K:Params->ZX}{CX:T4->CXT}{sp:T4->Sp}{x:Str}
  (hn:l.most=some n) (t:n<=sizeLine) (y:d.params.defaults=[]) (E:ip k callerA)
  (N:∀(w:T4) (h:Heap),A w h->(K w.params).In h)
  (F:∀(w:T4) (mg:Str->Option T0) (fa:Addr) (h:Heap),(K w.params).In h->h.Ns mainGlobals mg->mg d.name=some (.ref fa)->
   ∃fd:FuncData,(∀(s:T1) (u:T0),BindsTo s fd ⟨[u],[]⟩ [(x,u)])/\
    ∀base:Heap,(K w.params).In base->base.Ns mainGlobals mg->bN l.prog w (K w.params) mg base (CX w) k fa fd [x] (sp w))
  (p:∀(w:T4) (H:Hp) (a:Addr) (ns:List Int),ns.length<=n->Hk H->SqL (K w.params) H a (ns.map V.int)->sp w [.ref a] H (λv _=>v=.bl true) λ_ _ _=>False)
  (r:∀(w:T4) (H:Hp) (s:T1) (e:T0) (m:T1),CX w [] H s (λ_ _ _=>False) e m->False) :
  PySem.W.WalkO q g XP A l.row.toRowW d [] (λf B=>PySem.call f B):=by
 refine Att.attach_call hn y λw z j mg Q fa o P S O a B ns G Y R hd C hmg i c b I => ?_;have KX:=N w _ Y;obtain⟨fd,J,M⟩:=F w mg fa _ KX G.T.g hmg;exact Cd KX G.T.g G.T.b G.T.builtins G.T.nolimit I i c (ZM b t) E M J (λH D L=>p w H a ns b D L) λH e m=>r w H j e m
def dY (s:Stmt):Arguments:=match s with
 | .FunctionDef _ a _ _ _ _ _ _ _ _=>a
 | _=>{ posonlyargs:=[],args:=[],vararg:=none,kwonlyargs:=[],kw_defaults:=[],kwarg:=none,defaults:=[] }
def du (s:Stmt):List Stmt:=match s with
 | .FunctionDef _ _ b _ _ _ _ _ _ _=>b
 | _=>[]
def av (s:Stmt):Scope:=match s with
 | .FunctionDef _ _ _ _ _ _ sc _ _ _=>sc
 | _=>{ kind:=.function,names:=[],isGenerator:=false,isCoroutine:=false }
abbrev CX0:CXT:=λ_ _ _ _ _ _=>False
abbrev E0:XK:=λ_ _ _=>False
theorem JG {X:Cx}:xw CX0 X E0:=λ_ _ _ _ _ _ _ h=>h.elim
structure Fun (K:ZX) (x qual:Str) (st:Stmt) (f:Addr) (fd:FuncData):Prop where
 ex:∃(oc:T0) (od:Option Addr) (kV doc pm:T0) (an:Option Addr) (cdv ct:T0) (osl:Array (Option T0)),
  fd=PySem.W.fnOf x qual (dY st) (du st) (av st) .none kV doc pm an cdv ct/\K.lookup f=some ⟨oc,od,.func fd,osl⟩/\PySem.W.codeIn K cdv qual=true
 kp:PySem.W.keepIn K (.ref f)=true
section
variable {P:T3} {w:T4} {K:ZX} {mg:Str->Option T0} {base:Heap}
theorem Fun.ok {x a:Str}{st:Stmt}{f:Addr}{fd:FuncData}{N ps:List Str}{k:Nat}{sp:Sp}(F:Fun K x a st f fd)(S:aI N ps (av st))(len:∀vs H Q E,sp vs H Q E->vs.length=ps.length)
  (c:∀(b:T0) (A:T2) (outer:List Env) (s:T1) (H:Hp) (vs:List V) (Q:VK) (E:XK),ip k (A.deeper (envOfC a (av st) s.heap.objs.size f b))->sp vs H Q E->
   ∃t,PSs (xx CX0 P w K mg base N a (av st) f b A outer s H E).nox (du st) t/\t { nx:=λ_ H'=>Q .non H',rt:=Q } (jz N vs) H):bN P w K mg base CX0 (k + 1) f fd ps sp:=by
 obtain⟨o,p,kV,l,m,r,b,n,j,rfl,i,d⟩:=F.ex;refine Jy i d S len λA outer s H vs Q E g e => ?_;obtain⟨t,h,q⟩:=c b A outer s H vs Q E g e;exact⟨t,h.nox,q⟩
theorem Fun.binds {x a:Str}{st:Stmt}{f:Addr}{fd:FuncData}{ps:List Str}(F:Fun K x a st f fd)
  (h:∀(kV c pm:T0) (e:Option Addr) (b ct:T0) (d:List T0),d.length=ps.length->bindArgs (PySem.W.fnOf x a (dY st) (du st) (av st) .none kV c pm e b ct) ⟨d,[]⟩ = pure (ps.zip d)):pB K fd ps []:=by
 obtain⟨j,k,kV,c,pm,e,b,ct,i,rfl,l,g⟩:=F.ex;exact .all (h kV c pm e b ct)
theorem Ce {x a:Str}{st:Stmt}{f:Addr}{h:T0}{i g:Option Addr}{e:Array (Option T0)}{kV d pm b ct:T0}(l:K.lookup f=some ⟨h,i,.func (PySem.W.fnOf x a (dY st) (du st) (av st) .none kV d pm g b ct),e⟩)
  (c:PySem.W.codeIn K b a=true) (k:PySem.W.keepIn K (.ref f)=true):Fun K x a st f (PySem.W.fnOf x a (dY st) (du st) (av st) .none kV d pm g b ct):=⟨⟨h,i,kV,d,pm,g,b,ct,e,rfl,l,c⟩,k⟩
end
section
variable {X:Cx}
end
def ju (H H':Hp):Prop:=∀b o,H b=some o->H' b=some o
theorem ju.refl (H:Hp):ju H H:=λ_ _ h=>h
end L2
namespace L2
open PySem PySem.Spec
structure KR (h:Heap) (a D:Addr) (o:Obj):Prop where
 at_:h.get? a=some o
 cls:o.cls=.ref D
def JH (a C:Addr):HO:=.ext λh=>∃o,KR h a C o
end L2
namespace Fm
inductive D where
 | non|bl (b:Bool)|int (i:Int)|str (x:List Nat)|tup (l:List D)|ref (n:Nat)|lit (l:List D)|exn (c:String) (l:List D)
deriving Inhabited
inductive bE where
 | lst (l:List D)|dct (l:List (Int × D))|dcT (l:List (List Int × D))
abbrev Hd:=List bE
inductive Res (α : Type) where
 | ok (a : α) (h:Hd)|exc (x:D) (h:Hd)|bad
def Res.bind {α β : Type} (r:Res α) (f : α->Hd->Res β):Res β := match r with
 | .ok a h=>f a h | .exc x h=>.exc x h | .bad=>.bad
@[simp] theorem aP {α β : Type} (a : α) (h:Hd) (f : α->Hd->Res β):(Res.ok a h).bind f=f a h:=rfl
abbrev Sd:=List (Option D)
abbrev EF:=Sd->Hd->Res D
abbrev TF:=Sd->Hd->Res Bool
abbrev LF:=Sd->Hd->Res (List D)
inductive Out where
 | nx (σ:Sd) (h:Hd)|rt (d:D) (h:Hd)|bk (σ:Sd) (h:Hd)|ct (σ:Sd) (h:Hd)|exc (x:D) (σ:Sd) (h:Hd)|bad
abbrev SF:=Sd->Hd->Out
abbrev Fn:=List D->Hd->Res D
abbrev SZ:Nat:=1000000
@[simp] def slot (σ:Sd) (i:Nat):Option D:=match σ[i]? with|some (some d)=>some d|_=>none
@[simp] def aa (i:Nat):EF:=λσ h=>match slot σ i with|some d=>.ok d h|none=>.bad
@[simp] def fC (d:D):EF:=λ_ h=>.ok d h
abbrev O2:=D->D->Hd->Res D
@[simp] def ag (g:O2) (a b:EF):EF:=λσ h=>(a σ h).bind λx h=>(b σ h).bind λy h=>g x y h
@[simp] def oI (g:Int->Int->Int):O2:=λx y h=>match x,y with | .int i,.int j=>.ok (.int (g i j)) h|_,_=>.bad
@[simp] def oB (g:Int->Int->Bool):O2:=λx y h=>match x,y with | .int i,.int j=>.ok (.bl (g i j)) h|_,_=>.bad
@[simp] def oIc (c:Int->Int->Bool) (g:Int->Int->Int):O2:=λx y h=>match x,y with | .int i,.int j=>if c i j then .ok (.int (g i j)) h else .bad|_,_=>.bad
def sml (i:Int):Bool:=decide (-18446744073709551616 < i) && decide (i < 18446744073709551616)
@[simp] def dy:O2:=λx y h=>match x,y with
 | .int i,.int j=>.ok (.int (i + j)) h
 | .tup (x :: xs),.tup ys=>if (x :: xs).length + ys.length<=SZ then .ok (.tup (x :: xs++ys)) h else .bad
 | _,_=>.bad
@[simp] def jv:O2:=λx y h=>(oI (· - ·)) x y h
@[simp] def bU:O2:=λx y h=>(oIc (λi j=>sml i || sml j) (· * ·)) x y h
@[simp] def cz:O2:=λx y h=>(oIc (λ_ j=>decide (0 < j)) (· % ·)) x y h
@[simp] def g8:O2:=λx y h=>(oIc (λ_ j=>decide (0 < j) && decide (j < 2 ^ 250)) (· / ·)) x y h
@[simp] def KS:O2:=λx y h=>(oIc (λi j=>decide (0<=j) && decide (j<=1000000) && sml i) (λi j=>i ^ j.toNat)) x y h
@[simp] def oLt:O2:=λx y h=>(oB λi j=>decide (i < j)) x y h
@[simp] def oLe:O2:=λx y h=>(oB λi j=>decide (i<=j)) x y h
@[simp] def oGt:O2:=λx y h=>(oB λi j=>decide (j < i)) x y h
@[simp] def Lk:D->Hd->Res D:=λx h=>match x with | .int i=>.ok (.int (-i)) h|_=>.bad
@[simp] def kC:D->Bool | .non=>true|_=>false
@[simp] def iu:O2:=λx y h=>if kC y then .ok (.bl (kC x)) h else .bad
@[simp] def gJ:O2:=λx y h=>if kC y then .ok (.bl (!kC x)) h else .bad
@[simp] def b2i (b:Bool):Int:=if b then 1 else 0
mutual
def peq:D->D->Option Bool
 | .int i,k=>match k with | .int j=>some (decide (i=j)) | .bl c=>some (decide (i=b2i c)) | .non=>some false | .tup _=>some false|_=>none
 | .bl c,k=>match k with | .int j=>some (decide (b2i c=j)) | .bl d=>some (decide (c=d))|_=>none
 | .str x,k=>match k with | .str y=>some (decide (x=y))|_=>none
 | .non,k=>match k with | .non=>some true | .int _=>some false | .tup _=>some false|_=>none
 | .tup xs,k=>match k with | .tup ys=>(iN xs ys).map λb=>b && decide (xs.length=ys.length) | .non=>some false | .int _=>some false|_=>none
 | .ref _,_=>none
 | .lit _,_=>none
 | .exn _ _,_=>none
def iN:List D->List D->Option Bool
 | x :: xs,y :: ys=>match peq x y,iN xs ys with
  | some a,some b=>some (a && b)
  | _,_=>none
 | _,_=>some true
end
mutual
def dep:D->Nat
 | .tup l=>mG l + 1
 | _=>0
def mG:List D->Nat
 | []=>0
 | x :: xs=>max (dep x) (mG xs)
end
def eqL (xs ys:List D):Option Bool:=if mG xs<=20 then (if xs.length=ys.length then iN xs ys else some false) else none
@[simp] def ef (h:Hd):D->Option (List D)
 | .ref n=>match h[n]? with|some (.lst l)=>some l|_=>none
 | .lit l=>some l
 | _=>none
@[simp] def eqG (h:Hd) (x y:D):Option Bool:=match ef h x,ef h y with
 | some xs,some ys=>eqL xs ys
 | none,none=>if dep x<=20 then peq x y else none
 | _,_=>none
@[simp] def oEq:O2:=λx y h=>match eqG h x y with|some b=>.ok (.bl b) h|none=>.bad
@[simp] def oNe:O2:=λx y h=>match eqG h x y with|some b=>.ok (.bl (!b)) h|none=>.bad
@[simp] def dP:D->Bool
 | .non=>true | .bl _=>true | .int _=>true | .str _=>true|_=>false
@[simp] def eqF:D->D->Bool
 | .non,k=>match k with | .non=>true|_=>false
 | .bl a,k=>match k with | .bl b=>a == b | .int b=>b2i a == b|_=>false
 | .int a,k=>match k with | .bl b=>a == b2i b | .int b=>a == b|_=>false
 | .str a,k=>match k with | .str b=>a == b|_=>false
 | .tup _,_=>false
 | .ref _,_=>false
 | .lit _,_=>false
 | .exn _ _,_=>false
@[simp] def asB (r:Res D):Res Bool:=r.bind λx h=>match x with | .bl b=>.ok b h|_=>.bad
@[simp] def tE (a:EF):TF:=λσ h=>asB (a σ h)
@[simp] def eQ (t:TF):TF:=λσ h=>(t σ h).bind λb h=>.ok (!b) h
@[simp] def jy (t u:TF):TF:=λσ h=>(t σ h).bind λb h=>if b then u σ h else .ok false h
@[simp] def tOr (t u:TF):TF:=λσ h=>(t σ h).bind λb h=>if b then .ok true h else u σ h
@[simp] def fT (t:TF):EF:=λσ h=>(t σ h).bind λb h=>.ok (.bl b) h
@[simp] def fIf (t:TF) (a b:EF):EF:=λσ h=>(t σ h).bind λc h=>if c then a σ h else b σ h
@[simp] def pE (g k:O2) (a b c:EF):EF:=λσ h=>(a σ h).bind λx h=>(b σ h).bind λy h=>(g x y h).bind λz h=>match z with
 | .bl true=>(c σ h).bind λw h=>k y w h
 | .bl false=>.ok (.bl false) h
 | _=>.bad
@[simp] def ao:LF:=λ_ h=>.ok [] h
@[simp] def ab (a:EF) (r:LF):LF:=λσ h=>(a σ h).bind λx h=>(r σ h).bind λxs h=>.ok (x :: xs) h
@[simp] def jw (r:LF):EF:=λσ h=>(r σ h).bind λxs h=>if xs.length<=SZ then .ok (.tup xs) h else .bad
@[simp] def aT (r:LF):EF:=λσ h=>(r σ h).bind λxs h=>if xs.length<=SZ then .ok (.ref h.length) (h++[.lst xs]) else .bad
@[simp] def gL (h:Hd):D->Option (List D)
 | .tup l=>some l
 | .lit l=>some l
 | .ref n=>match h[n]? with|some (.lst l)=>some l|_=>none
 | _=>none
@[simp] def lOf (a:EF):LF:=λσ h=>(a σ h).bind λx h=>match gL h x with|some l=>.ok l h|none=>.bad
@[simp] def inL (h:Hd) (x y:D):Option Bool:=match gL h y with
 | some l=>if dP x && l.all dP then some (l.any λz=>eqF z x) else none
 | none=>none
@[simp] def oIn:O2:=λx y h=>match inL h x y with|some b=>.ok (.bl b) h|none=>.bad
@[simp] def hJ:O2:=λx y h=>match inL h x y with|some b=>.ok (.bl (!b)) h|none=>.bad
def ixN (n:Nat) (i:Int):Option Nat:=if 0<=i then (if i < n then some i.toNat else none) else if -(n:Int)<=i then some (i + n).toNat else none
def atI (xs:List D) (i:Int):Option D:=(ixN xs.length i).bind λj=>xs[j]?
@[simp] def fIx (a:LF) (b:EF):EF:=λσ h=>(a σ h).bind λl h=>(b σ h).bind λy h=>match y with
 | .int i=>match atI l i with|some d=>.ok d h|none=>.bad
 | _=>.bad
@[simp] def oAt:O2:=λx y h=>match gL h x,y with
 | some l,.int i=>match atI l i with|some d=>.ok d h|none=>.bad
 | _,_=>.bad
@[simp] def fAt (a b:EF):EF:=λσ h=>ag oAt a b σ h
@[simp] def cj (a:LF):EF:=λσ h=>(a σ h).bind λl h=>.ok (.int l.length) h
def cG:List D->Option (List Int)
 | []=>some []
 | .int i :: r=>(cG r).map (i :: ·)
 | _=>none
@[simp] def pF (a:LF):EF:=λσ h=>(a σ h).bind λl h=>match cG l with|some is=>.ok (.int is.sum) h|none=>.bad
def iw:List D->Option (List Bool)
 | []=>some []
 | .bl b :: r=>(iw r).map (b :: ·)
 | _=>none
@[simp] def vv (a:LF):EF:=λσ h=>(a σ h).bind λl h=>match iw l with|some bs=>.ok (.bl (bs.all id)) h|none=>.bad
@[simp] def fA (a:LF):EF:=λσ h=>(a σ h).bind λl h=>.ok (.tup l) h
@[simp] def qM (a:EF):EF:=λσ h=>(a σ h).bind λx h=>match x with | .int i=>.ok (.int i) h | .bl b=>.ok (.int (b2i b)) h|_=>.bad
inductive Ty where|int|bool|tuple|list|str
deriving DecidableEq
@[simp] def AJ (h:Hd) (t:Ty):D->Option Bool
 | .non=>some false
 | .bl _=>some (t == .bool || t == .int)
 | .int _=>some (t == .int)
 | .str _=>some (t == .str)
 | .tup _=>some (t == .tuple)
 | .lit _=>some (t == .list)
 | .ref n=>match h[n]? with|some (.lst _)=>some (t == .list)|some (.dct _)=>some false|some (.dcT _)=>none|none=>none
 | .exn _ _=>none
@[simp] def iy (t:Ty) (a:EF):EF:=λσ h=>(a σ h).bind λx h=>match AJ h t x with|some b=>.ok (.bl b) h|none=>.bad
def sIx (n d:Nat):Option Int->Nat
 | none=>d
 | some i=>if i < 0 then (i + n).toNat else min i.toNat n
def cut (l:List D) (lo hi:Option Int):List D:=(l.drop (sIx l.length 0 lo)).take (sIx l.length l.length hi - sIx l.length 0 lo)
abbrev OF:=Sd->Hd->Res (Option Int)
@[simp] def pNo:OF:=λ_ h=>.ok none h
@[simp] def pAt (a:EF):OF:=λσ h=>(a σ h).bind λx h=>match x with | .int i=>.ok (some i) h|_=>.bad
@[simp] def iO (a:EF) (lo hi:OF):EF:=λσ h=>(a σ h).bind λx h=>(lo σ h).bind λi h=>(hi σ h).bind λj h=>match x with
 | .tup l=>if sIx l.length 0 i=0/\sIx l.length l.length j=l.length then .bad else .ok (.tup (cut l i j)) h
 | x=>match ef h x with|some l=>.ok (.ref h.length) (h++[.lst (cut l i j)])|none=>.bad
def cx:List Int->List Int->Bool
 | [],[]=>false
 | [],_ :: _=>true
 | _ :: _,[]=>false
 | x :: xs,y :: ys=>if x=y then cx xs ys else decide (x < y)
def KU:List D->Option (List (List Int))
 | []=>some []
 | .tup l :: r=>match cG l,KU r with|some a,some b=>some (a :: b)|_,_=>none
 | _=>none
@[simp] def ar (F:Fn) (r:LF):EF:=λσ h=>(r σ h).bind λxs h=>F xs h
abbrev IF:=Sd->Hd->Res (List D × Option Nat)
@[simp] def br (a:EF):IF:=λσ h=>(a σ h).bind λx h=>match x with
 | .int n=>if -1000000<=n/\n<=1000000 then .ok ((List.range n.toNat).map (λk:Nat=>.int k),none) h else .bad
 | _=>.bad
@[simp] def eM (a:EF):IF:=λσ h=>(a σ h).bind λx h=>match x with
 | .tup l=>.ok (l,none) h
 | .lit l=>.ok (l,none) h
 | .ref n=>match h[n]? with|some (.lst l)=>.ok (l,some n) h|_=>.bad
 | _=>.bad
@[simp] def Cf (a:EF):IF:=λσ h=>(a σ h).bind λx h=>match x with
 | .tup l=>.ok ((List.range l.length).zip l |>.map λp=>.tup [.int (p.1:Nat),p.2],none) h
 | _=>.bad
section
open Classical
def iz (g:Option Nat) (all:List D) (h:Hd):Prop:=match g with|none=>True|some n=>h[n]? = some (.lst all)
abbrev GF:=D->Sd->Option Sd
@[simp] def gN (i:Nat):GF:=λd σ=>some (σ.set i (some d))
@[simp] def gT (l:List Nat):GF:=λd σ=>match d with
 | .tup xs=>if xs.length=l.length then some ((l.zip xs).foldl (λσ p => σ.set p.1 (some p.2)) σ) else none
 | _=>none
@[simp] def ay (a b:SF):SF:=λσ h=>match a σ h with | .nx σ h=>b σ h|r=>r
@[simp] def bA:SF:=λσ h=>.nx σ h
@[simp] def outE (r:Res D) (σ:Sd) (k:D->Hd->Out):Out:=match r with | .ok d h=>k d h | .exc x h=>.exc x σ h | .bad=>.bad
@[simp] def aE (g:GF) (a:EF):SF:=λσ h=>outE (a σ h) σ λd h=>match g d σ with|some σ=>.nx σ h|none=>.bad
@[simp] def bj (a:EF):SF:=λσ h=>outE (a σ h) σ λd h=>.rt d h
@[simp] def iP (a:EF):SF:=λσ h=>outE (a σ h) σ λ_ h=>.nx σ h
@[simp] def sIf (t:TF) (a b:SF):SF:=λσ h=>match t σ h with | .ok c h=>if c then a σ h else b σ h | .exc x h=>.exc x σ h | .bad=>.bad
@[simp] def Hl:SF:=λσ h=>.ct σ h
def li:SF:=λ_ _=>.bad
@[simp] def lm (x i e:EF):SF:=λσ h=>outE (e σ h) σ λd h=>outE (x σ h) σ λp h=>outE (i σ h) σ λj h=>match p,j with
 | .ref n,.int j=>match h[n]? with
  | some (.lst l)=>match ixN l.length j with
   | some k=>.nx σ (h.set n (.lst (l.set k d)))
   | none=>.bad
  | _=>.bad
 | _,_=>.bad
@[simp] def Hm:O2:=λp d h=>match p with
 | .ref n=>match h[n]? with
  | some (.lst l)=>if l.length < SZ then .ok .non (h.set n (.lst (l++[d]))) else .bad
  | _=>.bad
 | _=>.bad
@[simp] def jB (x e:EF):EF:=λσ h=>(x σ h).bind λp h=>match p with
 | .ref n=>match h[n]? with
  | some (.lst _)=>(e σ h).bind λd h=>Hm (.ref n) d h
  | _=>.bad
 | _=>.bad
def eO (g:Option Nat) (all:List D) (tg:GF) (b:SF):List D->SF
 | [],σ,h=>if iz g all h then .nx σ h else .bad
 | x :: xs,σ,h=>if iz g all h then match tg x σ with
   | some σ=>match b σ h with
    | .nx σ h=>eO g all tg b xs σ h
    | .ct σ h=>eO g all tg b xs σ h
    | .bk σ h=>.nx σ h
    | r=>r
   | none=>.bad
  else .bad
@[simp] def eu (it:IF) (tg:GF) (b:SF):SF:=λσ h=>match it σ h with
 | .ok (l,g) h=>eO g l tg b l σ h
 | .exc x h=>.exc x σ h
 | .bad=>.bad
def cY (t:TF) (b:SF):Nat->SF
 | 0,_,_=>.bad
 | n + 1,σ,h=>match t σ h with
  | .ok true h=>match b σ h with
   | .nx σ h=>cY t b n σ h
   | .ct σ h=>cY t b n σ h
   | .bk σ h=>.nx σ h
   | r=>r
  | .ok false h=>.nx σ h
  | .exc x h=>.exc x σ h
  | .bad=>.bad
def kx (t:TF) (b:SF):Sd->Hd->Nat:=λσ h=>if ex:∃n,cY t b n σ h ≠ .bad then Classical.choose ex else 0
def mH (t:TF) (b:SF):SF:=λσ h=>cY t b (kx t b σ h) σ h
@[simp] def gu:List TF->TF
 | [],_,h=>.ok true h
 | t :: r,σ,h=>(t σ h).bind λb h=>if b then gu r σ h else .ok false h
def bT (g:Option Nat) (all:List D) (tg:GF) (cs:List TF) (e:EF):List D->Sd->Hd->Res (List D)
 | [],_,h=>if iz g all h then .ok [] h else .bad
 | x :: xs,σ,h=>if iz g all h then match tg x σ with
   | some σ=>(gu cs σ h).bind λb h=>if b then (e σ h).bind λd h=>(bT g all tg cs e xs σ h).bind λds h=>.ok (d :: ds) h
    else bT g all tg cs e xs σ h
   | none=>.bad
  else .bad
@[simp] def gw (nl:Nat) (caps:List Nat) (σ:Sd):Sd:=List.replicate nl none++caps.map λi=>slot σ i
@[simp] def bO (nl:Nat) (caps:List Nat) (it:IF) (tg:GF) (cs:List TF) (e:EF):LF:=λσ h=>(it σ h).bind λp h =>
 bT p.2 p.1 tg cs e p.1 (gw nl caps σ) h
mutual
def pure? : D->Bool
 | .ref _=>false
 | .tup l=>ev l
 | .lit l=>ev l
 | .exn _ l=>ev l
 | _=>true
def ev:List D->Bool
 | []=>true
 | x :: xs=>pure? x && ev xs
end
def pG:bE->Bool
 | .lst l=>ev l
 | .dct l=>l.all λp=>pure? p.2
 | .dcT l=>l.all λp=>pure? p.2
def zC (h h':Hd):Prop:=∀n c,n < h.length->h'[n]? = some c->h[n]? = some c\/pG c=true
def letGo (h:Hd) (r:Res D):Res D:=match r with
 | .ok d h'=>if pure? d=true/\zC h h' then .ok d (h'.take h.length) else .ok d h'
 | r=>r
def runB (n:Nat) (b:SF):Fn:=λds h=>match b (ds.map some++List.replicate (n - ds.length) none) h with
 | .nx _ h=>.ok .non h
 | .rt d h=>.ok d h
 | .exc x _ h=>.exc x h
 | _=>.bad
def bJ (np n:Nat) (b:SF):Fn:=λds h=>if ds.length=np then letGo h (runB n b ds h) else .bad
end
end Fm
namespace Fm
open PySem PySem.Spec L2
def toS (x:List Nat):Str:=⟨x.toArray⟩
def n5 (K:ZX) (H:Hp) (a:Addr) (xs:List V):Prop :=
 (∃o,H a=some (.frz o (.lst xs)))\/
  ∃(o:Obj) (its:Array T0) (n:Nat),K.lookup a=some o/\o.cls=.type "list"/\o.dict=none/\o.data=.seq its n/\its.size<=sizeLine/\aR xs its.toList
section
variable (K:ZX) (ρ:List Addr) (H:Hp)
mutual
def RD:D->V->Prop
 | .non,v=>v=.non
 | .bl b,v=>v=.bl b
 | .int i,v=>v=.int i
 | .str x,v=>v=.str (toS x)
 | .tup l,v=>∃p vs,v=.ref p/\H p=some (.tup vs)/\RDs l vs
 | .lit l,v=>∃p vs,v=.ref p/\n5 K H p vs/\RDs l vs
 | .ref n,v=>∃a,ρ[n]? = some a/\v=.ref a
 | .exn c l,v=>l=[]/\∃a C,v=.ref a/\H a=some (JH a C)/\PySem.W.nsIn K mainGlobals (Str.ofString c)=some (some (.ref C))
def RDs:List D->List V->Prop
 | [],vs=>vs=[]
 | d :: ds,vs=>∃v r,vs=v :: r/\RD d v/\RDs ds r
end
def RC:bE->Addr->Prop
 | .lst l,a=>∃vs,H a=some (.lst vs)/\RDs K ρ H l vs
 | .dct l,a=>∃kvs,H a=some (.dK kvs)/\kvs.map (·.1)=l.map (λp=>(Sum.inl p.1:Key))/\RDs K ρ H (l.map (·.2)) (kvs.map (·.2))
 | .dcT l,a=>∃kvs,H a=some (.dT kvs)/\kvs.map (·.1)=l.map (λp=>p.1.map λi=>(Sum.inl i:Key))/\RDs K ρ H (l.map (·.2)) (kvs.map (·.2))
structure RH (hd:Hd):Prop where
 len : ρ.length=hd.length
 nd : ρ.Nodup
 cel:∀(n:Nat) c a,hd[n]? = some c->ρ[n]? = some a->RC K ρ H c a
structure RSt (σd:Sd) (σ:St):Prop where
 len : σd.length = σ.length
 at':∀i d,slot σd i=some d->∃v,σ[i]? = some (some v)/\RD K ρ H d v
structure RS (σd:Sd) (hd:Hd) (σ:St):Prop where
 hp:RH K ρ H hd
 st:RSt K ρ H σd σ
end
structure Ext (ρ:List Addr) (H:Hp) (ρ':List Addr) (H':Hp):Prop where
 pre:∃t,ρ' = ρ ++ t
 new:∀a ∈ ρ',a ∈ ρ\/H a=none
 frame:∀p o,H p=some o->p ∉ ρ->H' p=some o
variable {vs:List V}{l:List D}
section
variable {K:ZX} {ρ ρ' ρ'':List Addr} {H H' H'':Hp} {hd hd':Hd} {σd σd':Sd} {σ σ':St}
theorem Ext.refl:Ext ρ H ρ H:=⟨⟨[],by simp⟩,λ_ h=>.inl h,λ_ _ h _=>h⟩
theorem Ext.out (e:Ext ρ H ρ' H'){p:Addr}{o:HO}(h:H p=some o)(n:p ∉ ρ):p ∉ ρ':=λz=>by
 rcases e.new p z with q|q
 ·exact n q
 ·rw[h]at q;cases q
theorem Ext.trans (a:Ext ρ H ρ' H')(b:Ext ρ' H' ρ'' H''):Ext ρ H ρ'' H'' where
 pre:=by
  obtain⟨t,rfl⟩:=a.pre;obtain⟨u,rfl⟩:=b.pre;exact⟨t++u,by simp⟩
 new:=λx c=>by
  rcases b.new x c with q|q
  ·exact a.new x q
  ·cases e:H x with
   | none=>exact .inr rfl
   | some o =>
    by_cases hn:x ∈ ρ
    ·exact .inl hn
    ·rw[a.frame x o e hn]at q;cases q
 frame:=λp o h n=>b.frame p o (a.frame p o h n) (a.out h n)
theorem Ext.same (s:ju H H'):Ext ρ H ρ H':=⟨⟨[],by simp⟩,λ_ h=>.inl h,λp o h _=>s p o h⟩
theorem Ext.get (e:Ext ρ H ρ' H'){n:Nat}{a:Addr}(h : ρ[n]? = some a) : ρ'[n]? = some a:=by
 obtain⟨t,rfl⟩:=e.pre;rw[ZC (List.getElem?_eq_some_iff.mp h).1];exact h
theorem RH.mut (r:RH K ρ H hd){a:Addr}(h:a ∈ ρ):(∃c,H a=some (.lst c))\/(∃b,H a=some (.dK b))\/∃b,H a=some (.dT b):=by
 obtain⟨n,f⟩:=List.getElem?_of_mem h;have d:=(List.getElem?_eq_some_iff.mp f).1;have hc:hd[n]? = some (hd[n]'(by rw[<-r.len];exact d)):=by simp
 have q:=r.cel n _ a hc f;cases e:hd[n]'(by rw[<-r.len];exact d) with
 | lst l=>rw[e]at q;obtain⟨c,h1,_⟩:=q;exact .inl ⟨c,h1⟩
 | dct l=>rw[e]at q;obtain⟨c,h1,_⟩:=q;exact .inr (.inl ⟨c,h1⟩)
 | dcT l=>rw[e]at q;obtain⟨c,h1,_⟩:=q;exact .inr (.inr ⟨c,h1⟩)
theorem RH.noTup (r:RH K ρ H hd){a:Addr}(h:H a=some (.tup vs)):a ∉ ρ:=λz=>by
 rcases r.mut z with ⟨_,q⟩|⟨_,q⟩|⟨_,q⟩<;>(rw[h]at q;cases q)
theorem RH.noFrz (r:RH K ρ H hd){a:Addr}{o:Obj}{u:HO}(h:H a=some (.frz o u)):a ∉ ρ:=λz=>by
 rcases r.mut z with ⟨_,q⟩|⟨_,q⟩|⟨_,q⟩<;>(rw[h]at q;cases q)
theorem RH.noExt (r:RH K ρ H hd){a:Addr}{b : Heap->Prop}(h:H a=some (.ext b)):a ∉ ρ:=λz=>by
 rcases r.mut z with ⟨_,q⟩|⟨_,q⟩|⟨_,q⟩<;>(rw[h]at q;cases q)
structure Kp (ρ:List Addr) (H:Hp) (ρ':List Addr) (H':Hp):Prop where
 get:∀(n:Nat) a,ρ[n]? = some a->ρ'[n]? = some a
 tup:∀a vs,H a=some (.tup vs)->H' a=some (.tup vs)
 frz:∀a o u,H a=some (.frz o u)->H' a=some (.frz o u)
 ext:∀a φ,H a=some (.ext φ)->H' a=some (.ext φ)
theorem RH.kp (r:RH K ρ H hd)(e:Ext ρ H ρ' H'):Kp ρ H ρ' H' :=
 ⟨λ_ _ h=>e.get h,λ_ _ h=>e.frame _ _ h (r.noTup h),λ_ _ _ h=>e.frame _ _ h (r.noFrz h),λ_ _ h=>e.frame _ _ h (r.noExt h)⟩
theorem Kp.same (s:ju H H'):Kp ρ H ρ H':=⟨λ_ _ h=>h,λ_ _ h=>s _ _ h,λ_ _ _ h=>s _ _ h,λ_ _ h=>s _ _ h⟩
theorem n5.mono {a:Addr}{xs:List V}(k:Kp ρ H ρ' H')(h:n5 K H a xs):n5 K H' a xs:=by
 rcases h with ⟨o,h⟩|h
 ·exact .inl ⟨o,k.frz _ _ _ h⟩
 ·exact .inr h
mutual
theorem RD.mono (k:Kp ρ H ρ' H'):∀{d:D} {v:V},RD K ρ H d v->RD K ρ' H' d v
 | .non,_,h=>by simp only[RD]at h ⊢;exact h
 | .bl _,_,h=>by simp only[RD]at h ⊢;exact h
 | .int _,_,h=>by simp only[RD]at h ⊢;exact h
 | .str _,_,h=>by simp only[RD]at h ⊢;exact h
 | .tup l,_,h=>by
  simp only[RD]at h ⊢;obtain⟨p,b,e,h1,h2⟩:=h;exact⟨p,b,e,k.tup _ _ h1,RDs.mono k h2⟩
 | .lit l,_,h=>by
  simp only[RD]at h ⊢;obtain⟨p,b,e,h1,h2⟩:=h;exact⟨p,b,e,h1.mono k,RDs.mono k h2⟩
 | .ref n,_,h=>by
  simp only[RD]at h ⊢;obtain⟨a,h1,h2⟩:=h;exact⟨a,k.get _ _ h1,h2⟩
 | .exn _ _,_,h=>by
  simp only[RD]at h ⊢;obtain⟨c,a,C,e,h1,h2⟩:=h;exact⟨c,a,C,e,k.ext _ _ h1,h2⟩
theorem RDs.mono (k:Kp ρ H ρ' H'):∀{l:List D} {a:List V},RDs K ρ H l a->RDs K ρ' H' l a
 | [],_,h=>by simp only[RDs]at h ⊢;exact h
 | d :: ds,_,h=>by
  simp only[RDs]at h ⊢;obtain⟨v,r,e,h1,h2⟩:=h;exact⟨v,r,e,RD.mono k h1,RDs.mono k h2⟩
end
theorem RDs.nil:RDs K ρ H [] []:=by simp only[RDs]
theorem RDs.cons {d:D}{v:V}{ds:List D}(h:RD K ρ H d v)(t:RDs K ρ H ds vs):RDs K ρ H (d :: ds) (v :: vs):=by
 simp only[RDs];exact⟨v,vs,rfl,h,t⟩
theorem RDs.length:∀{l:List D} {a:List V},RDs K ρ H l a->l.length=a.length
 | [],_,h=>by simp only[RDs]at h;subst h;rfl
 | d :: ds,_,h=>by
  simp only[RDs]at h;obtain⟨v,r,e,h1,h2⟩:=h;subst e;simp[RDs.length h2]
theorem RDs.get:∀{l:List D} {b:List V} {i:Nat} {d:D},RDs K ρ H l b->l[i]? = some d->∃v,b[i]? = some v/\RD K ρ H d v
 | [],_,i,_,_,e=>by simp at e
 | d :: ds,_,0,_,h,e=>by
  simp only[RDs]at h;obtain⟨v,r,a,h1,h2⟩:=h;subst a;simp at e;subst e;exact⟨v,rfl,h1⟩
 | d :: ds,_,i + 1,x,h,e=>by
  simp only[RDs]at h;obtain⟨v,r,a,h1,h2⟩:=h;subst a;obtain⟨w,hw,q⟩:=RDs.get (i:=i) (d:=x) h2 (by simpa using e);exact⟨w,by simpa using hw,q⟩
theorem RDs.set {d:D}{v:V}(h:RD K ρ H d v):∀{l:List D} {a:List V} (i:Nat),RDs K ρ H l a->RDs K ρ H (l.set i d) (a.set i v)
 | [],_,_,q=>by simp only[RDs]at q;subst q;exact RDs.nil
 | x :: xs,_,i,q=>by
  simp only[RDs]at q;obtain⟨w,r,e,h1,h2⟩:=q;subst e;cases i with
  | zero=>exact RDs.cons h h2
  | succ i=>exact RDs.cons h1 (RDs.set h i h2)
theorem RDs.append:∀{l l':List D} {b a:List V},RDs K ρ H l b->RDs K ρ H l' a->RDs K ρ H (l++l') (b++a)
 | [],_,_,_,h,q=>by simp only[RDs]at h;subst h;exact q
 | d :: ds,_,_,_,h,q=>by
  simp only[RDs]at h;obtain⟨v,r,e,h1,h2⟩:=h;subst e;exact RDs.cons h1 (RDs.append h2 q)
theorem RDs.take:∀{l:List D} {a:List V} (n:Nat),RDs K ρ H l a->RDs K ρ H (l.take n) (a.take n)
 | _,_,0,_=>by simp;exact RDs.nil
 | [],_,n + 1,h=>by simp only[RDs]at h;subst h;exact RDs.nil
 | d :: ds,_,n + 1,h=>by
  simp only[RDs]at h;obtain⟨v,r,e,h1,h2⟩:=h;subst e;exact RDs.cons h1 (RDs.take n h2)
theorem RDs.drop:∀{l:List D} {a:List V} (n:Nat),RDs K ρ H l a->RDs K ρ H (l.drop n) (a.drop n)
 | _,_,0,h=>by simpa using h
 | [],_,n + 1,h=>by simp only[RDs]at h;subst h;exact RDs.nil
 | d :: ds,_,n + 1,h=>by
  simp only[RDs]at h;obtain⟨v,r,e,h1,h2⟩:=h;subst e;simpa using RDs.drop n h2
theorem RC.mono {c:bE}{a:Addr}(k:Kp ρ H ρ' H')(e:H' a=H a)(h:RC K ρ H c a):RC K ρ' H' c a:=by
 cases c with
 | lst l=>obtain⟨b,h1,h2⟩:=h;exact⟨b,e.trans h1,h2.mono k⟩
 | dct l=>obtain⟨b,h1,h2,d⟩:=h;exact⟨b,e.trans h1,h2,d.mono k⟩
 | dcT l=>obtain⟨b,h1,h2,d⟩:=h;exact⟨b,e.trans h1,h2,d.mono k⟩
theorem RH.same (r:RH K ρ H hd)(s:ju H H'):RH K ρ H' hd :=
 ⟨r.len,r.nd,λn c a h1 h2=>(r.cel n c a h1 h2).mono (Kp.same s) (by
  rcases r.mut (ZK h2) with ⟨_,q⟩|⟨_,q⟩|⟨_,q⟩<;>rw[q,s _ _ q])⟩
theorem RSt.mono (k:Kp ρ H ρ' H')(r:RSt K ρ H σd σ):RSt K ρ' H' σd σ :=
 ⟨r.len,λi d h=>let ⟨v,h1,h2⟩:=r.at' i d h;⟨v,h1,h2.mono k⟩⟩
theorem RS.same (r:RS K ρ H σd hd σ)(s:ju H H'):RS K ρ H' σd hd σ:=⟨r.hp.same s,r.st.mono (Kp.same s)⟩
theorem bW {p:Addr}{o:HO}(h:H p=none):ju H (upd H p o):=λb u e=>by
 rw[aB (bu e h)];exact e
theorem RH.alloc (r:RH K ρ H hd){p:Addr}(hp:H p=some (.lst vs))(hn:p ∉ ρ)(h:RDs K ρ H l vs):RH K (ρ ++ [p]) H (hd++[.lst l]):=by
 have k:Kp ρ H (ρ ++ [p]) H:=⟨λn a e=>by rw[ZC (List.getElem?_eq_some_iff.mp e).1];exact e,λ_ _ h=>h,λ_ _ _ h=>h,λ_ _ h=>h⟩;refine⟨by simp[r.len],?_,λn c a h1 h2 => ?_⟩
 ·rw[WJ]
  exact⟨r.nd,by simp,λa g b d=>by simp at d;subst d;intro e;subst e;exact hn g⟩
 ·by_cases hlt:n < hd.length
  ·rw[ZC hlt]at h1
   rw[ZC (by rw[r.len];exact hlt)]at h2;exact(r.cel n c a h1 h2).mono k rfl
  ·have f:n=hd.length:=by
    have:=(List.getElem?_eq_some_iff.mp h1).1;simp at this;omega
   subst f;simp at h1;subst h1;rw[<-r.len]at h2;simp at h2;subst h2;exact⟨vs,hp,h.mono k⟩
theorem lp {α : Type}:∀{l:List α},l.Nodup->∀{i j:Nat} {x : α},l[i]? = some x->l[j]? = some x->i=j
 | [],_,i,_,_,e,_=>by simp at e
 | a :: l,nd,0,0,_,_,_=>rfl
 | a :: l,nd,0,j + 1,x,e,e'=>by
  simp at e e';subst e;exact absurd (ZK e') (List.nodup_cons.mp nd).1
 | a :: l,nd,i + 1,0,x,e,e'=>by
  simp at e e';subst e';exact absurd (ZK e) (List.nodup_cons.mp nd).1
 | a :: l,nd,i + 1,j + 1,x,e,e'=>by
  simp at e e';rw[lp (List.nodup_cons.mp nd).2 e e']
theorem RH.write (r:RH K ρ H hd){n:Nat}{p:Addr}(hp : ρ[n]? = some p)(hn:n < hd.length)(h:RDs K ρ H l vs):RH K ρ (upd H p (.lst vs)) (hd.set n (.lst l)):=by
 have k:Kp ρ H ρ (upd H p (.lst vs)):=by
  have b:=ZK hp;refine⟨λ_ _ h=>h,λa f e => ?_,λa o u e => ?_,λa d e => ?_⟩
  ·rw[aB (λz=>r.noTup e (by rw[z];exact b))];exact e
  ·rw[aB (λz=>r.noFrz e (by rw[z];exact b))];exact e
  ·rw[aB (λz=>r.noExt e (by rw[z];exact b))];exact e
 refine⟨by simp[r.len],r.nd,λm c a h1 h2 => ?_⟩
 by_cases e:n=m
 ·subst e
  rw[List.getElem?_set_self hn]at h1;cases h1;rw[hp]at h2;cases h2;exact⟨vs,aY,h.mono k⟩
 ·rw[ZP e]at h1
  have ne:a≠p:=λz=>by
   subst z;exact e (lp r.nd hp h2)
  exact(r.cel m c a h1 h2).mono k (aB ne)
theorem Ext.write {p:Addr}{o:HO}(hp:p ∈ ρ):Ext ρ H ρ (upd H p o) :=
 ⟨⟨[],by simp⟩,λ_ h=>.inl h,λq u e n=>by rw[aB (λz=>n (by rw[z];exact hp))];exact e⟩
theorem Ext.alloc {p:Addr}(h:H p=none){o:HO}:Ext ρ H (ρ ++ [p]) (upd H p o) :=
 ⟨⟨[p],rfl⟩,λa b=>by
  rcases List.mem_append.mp b with q|q
  ·exact .inl q
  ·simp at q;subst q;exact .inr h,λq u e _=>bW h q u e⟩
theorem RS.ext (r:RS K ρ H σd hd σ)(e:Ext ρ H ρ' H')(h:RH K ρ' H' hd'):RS K ρ' H' σd hd' σ:=⟨h,r.st.mono (r.hp.kp e)⟩
end
abbrev VR (α β : Type):=List Addr->Hp->α->β->Prop
section
variable (K:ZX)
def bM {α β : Type} (R:VR α β) (ρ:List Addr) (H:Hp) (σd:Sd) (σ:St) (r:Res α) (Q : β->Hp->Prop):Prop:=match r with
 | .ok a hd'=>∀b H' ρ',Ext ρ H ρ' H'->RS K ρ' H' σd hd' σ->R ρ' H' a b->Q b H'
 | _=>False
def jC {α β : Type} (R:VR α β) (f:Sd->Hd->Res α):St->Hp->(β->Hp->Prop)->Prop:=λσ H Q =>
 ∃ρ σd hd,RS K ρ H σd hd σ/\bM K R ρ H σd σ (f σd hd) Q
abbrev rD:VR D V:=λρ H d v=>RD K ρ H d v
abbrev rDs:VR (List D) (List V):=λρ H d v=>RDs K ρ H d v
abbrev rB:VR Bool Bool:=λ_ _ a b=>a=b
abbrev rO:VR (Option Int) (Option Int):=λ_ _ a b=>a=b
def rQ:VR (List D) V:=λρ H l v=>∃p vs,v=.ref p/\(SqL K H p vs\/H p=some (.tup vs))/\RDs K ρ H l vs
def vw (ρ:List Addr) (H:Hp) (σd:Sd) (σ:St) (r:Res (List D)) (Q:VK):Prop:=match r with
 | .ok l hd'=>∀q vs H' ρ',Ext ρ H ρ' H'->RS K ρ' H' σd hd' σ->H q=none->H' q=some (.lst vs)->q ∉ ρ'->RDs K ρ' H' l vs->Q (.ref q) H'
 | _=>False
def JI (f:LF):TE:=λσ H Q=>∃ρ σd hd,RS K ρ H σd hd σ/\vw K ρ H σd σ (f σd hd) Q
def bX (ρ:List Addr) (H:Hp) (o:Out) (E:px):Prop:=match o with
 | .nx σd hd=>∀σ H' ρ',Ext ρ H ρ' H'->RS K ρ' H' σd hd σ->E.nx σ H'
 | .bk σd hd=>∀σ H' ρ',Ext ρ H ρ' H'->RS K ρ' H' σd hd σ->E.bk σ H'
 | .ct σd hd=>∀σ H' ρ',Ext ρ H ρ' H'->RS K ρ' H' σd hd σ->E.ct σ H'
 | .rt d hd=>∀v H' ρ',Ext ρ H ρ' H'->RH K ρ' H' hd->RD K ρ' H' d v->E.rt v H'
 | _=>False
def Gi (f:SF):TS:=λE σ H=>∃ρ σd hd,RS K ρ H σd hd σ/\bX K ρ H (f σd hd) E
end
def ME (X:Cx) (e:Expr) (f:EF):Prop:=PE X e (jC X.K (rD X.K) f)
def MQ (X:Cx) (e:Expr) (f:LF):Prop:=PE X e (jC X.K (rQ X.K) f)
def MF (X:Cx) (e:Expr) (f:LF):Prop:=PE X e (JI X.K f)
def MT (X:Cx) (e:Expr) (f:TF):Prop:=PT X e (jC X.K rB f)
def MW (X:Cx) (e:Expr) (f:TF):Prop:=PW X e (jC X.K rB f)
def MA (X:Cx) (es:List Expr) (f:LF):Prop:=PA X es (jC X.K (rDs X.K) f)
def MS (X:Cx) (s:Stmt) (f:SF):Prop:=PS X s (Gi X.K f)
def MSs (X:Cx) (s:List Stmt) (f:SF):Prop:=PSs X s (Gi X.K f)
variable {e:Expr}
section
variable {X:Cx}
theorem PE.imp {t u:TE}(h:PE X e t)(i:∀σ H Q,u σ H Q->t σ H Q):PE X e u:=λpins s σ H Q I q=>h pins s σ H Q I (i σ H Q q)
theorem PT.imp {t u:TT}(h:PT X e t)(i:∀σ H Q,u σ H Q->t σ H Q):PT X e u:=λpins s σ H Q I q=>h pins s σ H Q I (i σ H Q q)
theorem PW.imp {t u:TT}(h:PW X e t)(i:∀σ H Q,u σ H Q->t σ H Q):PW X e u:=λw pins s σ H Q I q=>h w pins s σ H Q I (i σ H Q q)
theorem PA.imp {e:List Expr}{t u:TA}(h:PA X e t)(i:∀σ H Q,u σ H Q->t σ H Q):PA X e u:=λp pins s σ H Q I q=>h p pins s σ H Q I (i σ H Q q)
theorem PS.imp {e:Stmt}{t u:TS}(h:PS X e t)(i:∀D σ H,u D σ H->t D σ H):PS X e u:=λpins s σ H D I q=>h pins s σ H D I (i D σ H q)
theorem PSs.imp {e:List Stmt}{t u:TS}(h:PSs X e t)(i:∀D σ H,u D σ H->t D σ H):PSs X e u:=λpins s σ H D I q=>h pins s σ H D I (i D σ H q)
end
section
variable {K:ZX} {ρ ρ':List Addr} {H H':Hp} {hd hd':Hd} {σd:Sd} {σ:St} {α β α' β':Type} {R:VR α β} {R':VR α' β'}
theorem bM.here {a : α}{b : β}{Q : β->Hp->Prop}(h:bM K R ρ H σd σ (.ok a hd) Q)(r:RS K ρ H σd hd σ)(q:R ρ H a b):Q b H:=h b H ρ Ext.refl r q
theorem bM.at {a : α}{b : β}{Q : β->Hp->Prop}(h:bM K R ρ H σd σ (.ok a hd) Q)(e:Ext ρ H ρ' H')(r:RS K ρ' H' σd hd σ)(q:R ρ' H' a b):Q b H':=h b H' ρ' e r q
theorem bM.imp {r:Res α}{Q c : β->Hp->Prop}(h:bM K R ρ H σd σ r Q)(i:∀b H',Q b H'->c b H'):bM K R ρ H σd σ r c:=by
 cases r with
 | ok a h'=>exact λb H' ρ' e s q=>i b H' (h b H' ρ' e s q)
 | exc x h'=>exact h
 | bad=>exact h
theorem bM.ext {r:Res α}{Q : β->Hp->Prop}(e:Ext ρ H ρ' H')(h:bM K R ρ H σd σ r Q):bM K R ρ' H' σd σ r Q:=by
 cases r with
 | ok a h'=>exact λb H'' ρ'' c s q=>h b H'' ρ'' (e.trans c) s q
 | exc x h'=>exact h
 | bad=>exact h
theorem bM.bind {r:Res α}{k : α->Hd->Res α'}{Q : β'->Hp->Prop}(h:bM K R' ρ H σd σ (r.bind k) Q) :
  bM K R ρ H σd σ r (λb H'=>∃ρ' a hd',Ext ρ H ρ' H'/\RS K ρ' H' σd hd' σ/\R ρ' H' a b/\bM K R' ρ' H' σd σ (k a hd') Q):=by
 cases r with
 | ok a h'=>exact λb H' ρ' e s q=>⟨ρ',a,h',e,s,q,bM.ext e h⟩
 | exc x h'=>exact h
 | bad=>exact h
theorem bX.ext {o:Out}{E:px}(e:Ext ρ H ρ' H')(h:bX K ρ H o E):bX K ρ' H' o E:=by
 cases o with
 | nx σ h'=>exact λa H'' ρ'' b s=>h a H'' ρ'' (e.trans b) s
 | bk σ h'=>exact λa H'' ρ'' b s=>h a H'' ρ'' (e.trans b) s
 | ct σ h'=>exact λa H'' ρ'' b s=>h a H'' ρ'' (e.trans b) s
 | rt d h'=>exact λv H'' ρ'' b s q=>h v H'' ρ'' (e.trans b) s q
 | exc x σ h'=>exact h
 | bad=>exact h
end
variable {x:Str}{K:ZX}{fa f:EF}{b:Expr}{H:Hp}{ρ:List Addr}
section
variable {X:Cx} {pos:Pos}
theorem Hn {i:Nat}  (b:X.N[i]? = some x) (c:Vis X.env.scope x) (hd:(x == ("__debug__" : Str))=false:=by decide) (a:(x == ("__classdict__" : Str))=false:=by decide):ME X (.Name x pos) (aa i):=by
 refine PE.imp (GE b c hd a) λσ H Q ⟨ρ,σd,hd,r,h⟩ => ?_;unfold aa at h;cases e:slot σd i with
 | none=>rw[e]at h;exact h.elim
 | some d =>
  rw[e]at h;obtain⟨v,h1,h2⟩:=r.st.at' i d e;exact⟨v,h1,h.here r h2⟩
theorem pH {d:D}{v:V}(a:∀ρ H,RD K ρ H d v):∀σ H Q,jC K (rD K) (fC d) σ H Q->tC v σ H Q:=λ_ H _ ⟨ρ,_,_,r,h⟩=>h.here r (a ρ H)
theorem ak {i:Int}{j}:ME X (.Constant (.int i) j pos) (fC (.int i)):=PE.imp BT (pH λ_ _=>by simp only[RD])
theorem iA {b j}:ME X (.Constant (.bool b) j pos) (fC (.bl b)):=PE.imp Jg (pH λ_ _=>by simp only[RD])
theorem cr {j}:ME X (.Constant .none j pos) (fC .non):=PE.imp GG (pH λ_ _=>by simp only[RD])
theorem fK {j}(l:List Nat)(h:x=toS l):ME X (.Constant (.str x) j pos) (fC (.str l)):=PE.imp GH (pH λ_ _=>by simp only[RD];rw[h])
theorem pI  {i:Int} {t:Tok} (a:Gl X x) (hm:X.mg x=some (.int i t)) (hd:(x == ("__debug__" : Str))=false:=by decide):ME X (.Name x pos) (fC (.int i)) :=
 PE.imp (Ev (v:=.int i) a hm ⟨t,rfl⟩ hd) (pH λ_ _=>by simp only[RD])
theorem me2 {a b:Expr}{o:EF}{r:R2}{g:O2}(h:PE X e (tOp r (jC X.K (rD X.K) fa) (jC X.K (rD X.K) o)))
  (t:∀ρ H σd hd σ d k v w Q,RS X.K ρ H σd hd σ->RD X.K ρ H d v->RD X.K ρ H k w->bM X.K (rD X.K) ρ H σd σ (g d k hd) Q->r v w H Q):ME X e (ag g fa o):=by
 refine PE.imp h λσ H Q ⟨ρ,σd,hd,u,p⟩ => ?_;refine⟨ρ,σd,hd,u,(bM.bind (R:=rD X.K) p).imp λv H1 ⟨f,d,n,y,c,rv,x⟩ => ?_⟩;refine⟨f,σd,n,c,(bM.bind (R:=rD X.K) x).imp λw s ⟨l,k,j,q,i,m,p2⟩ => ?_⟩;exact t l s σd j σ d k v w Q i (rv.mono (c.hp.kp q)) m p2
def Og (K:ZX) (g:O2) (r:R2):Prop:=∀ρ H σd hd σ d k v w Q,RS K ρ H σd hd σ->RD K ρ H d v->RD K ρ H k w->bM K (rD K) ρ H σd σ (g d k hd) Q->r v w H Q
theorem bc {a:Expr}{c:EF}{op:Operator}{r:R2}{g:O2}(d:OpR X (binaryOp op) r)(e:Og X.K g r)(ha:ME X a fa)(hb:ME X b c):ME X (.BinOp a op b pos) (ag g fa c) :=
 me2 (a:=a) (b:=b) (B3 d ha hb) e
theorem gx {a:Expr}{c:EF}{op:CmpOp}{r:R2}{g:O2}(d:OpR X (compareOp op) r)(e:Og X.K g r)(ha:ME X a fa)(hb:ME X b c)(hm:behindInMarks op b=false):ME X (.Compare a [op] [b] pos) (ag g fa c) :=
 me2 (a:=a) (b:=b) (EE d ha hb hm) e
theorem qN {g:Int->Int->Int}:Og K (oI g) (rI0 λi j=>.int (g i j)):=by
 intro ρ H σd hd σ d k v w Q b rv a p;cases d<;>cases k<;>first|exact p.elim|skip
 simp only[RD]at rv a;exact⟨_,_,rv,a,p.here b (by simp only[rD,RD])⟩
theorem qO {g:Int->Int->Bool}:Og K (oB g) (rI0 λi j=>.bl (g i j)):=by
 intro ρ H σd hd σ d k v w Q b rv a p;cases d<;>cases k<;>first|exact p.elim|skip
 simp only[RD]at rv a;exact⟨_,_,rv,a,p.here b (by simp only[rD,RD])⟩
theorem vx {c:Int->Int->Bool}{C:Int->Int->Prop}{g:Int->Int->Int}(hc:∀i j,c i j=true->C i j):Og K (oIc c g) (rI C λi j=>.int (g i j)):=by
 intro ρ H σd hd σ d k v w Q b rv a p;cases d<;>cases k<;>first|exact p.elim|skip
 rename_i i j
 simp only[RD]at rv a;cases e:c i j with
 | false=>simp only[oIc,e]at p;exact p.elim
 | true =>
  simp only[oIc,e,Uz]at p;exact⟨i,j,rv,a,hc i j e,p.here b (by simp only[rD,RD])⟩
theorem zD {i:Int}(h:sml i=true) : -(2 ^ 64) < i/\i < 2 ^ 64:=by
 simp only[sml,Z7,Y8]at h;exact h
theorem eS:Og K bU (rI ED λi j=>.int (i * j)):=vx λi j h=>by
 rcases (Bool.or_eq_true _ _).mp h with q|q
 ·exact .inl (zD q)
 ·exact .inr (zD q)
theorem d7:Og K cz (rI (λ_ j=>0 < j) λi j=>.int (i % j)):=vx λi j h=>Y9 h
def JJ (_ j:Int):Prop:=0 < j/\j < 2 ^ 250
theorem fB:OpR X (binaryOp .FloorDiv) (rI JJ λi j=>.int (i / j)):=opI λi j _ _ _ _ _ hc q=>by
 have h0:j≠0:=by have:=hc.1;omega
 refine PyProof.Rows.floordiv_int h0 (by rw[Int.fdiv_eq_ediv_of_nonneg _ (Int.le_of_lt hc.1)];exact q) (.inl (PyProof.noPylong_of_log2 ?_));have h2:j.natAbs < 2 ^ 250:=by have:=hc.2;have:=hc.1;omega
 have a:j.natAbs≠0:=by omega
 have:=(Nat.log2_lt a).mpr h2;omega
theorem jD:Og K g8 (rI JJ λi j=>.int (i / j)):=vx λi j h=>by
 simp only[Z7,Y8]at h;exact h
theorem tK {d:D}{v:V}(h:RD K ρ H d v):kC d=decide (v=.non):=by
 cases d<;>simp only[RD]at h
 ·subst h;rfl
 ·subst h;rfl
 ·subst h;rfl
 ·subst h;rfl
 ·obtain⟨p,a,rfl,_⟩:=h;rfl
 ·obtain⟨p,a,rfl⟩:=h;rfl
 ·obtain⟨p,a,rfl,_⟩:=h;rfl
 ·obtain⟨_,p,a,rfl,_⟩:=h;rfl
theorem hU:Og K iu (λx y H Q=>y=.non/\Q (.bl (decide (x=.non))) H):=by
 intro ρ H σd hd σ d k v w Q b rv a p;unfold iu at p;cases e:kC k with
 | false=>rw[e]at p;exact p.elim
 | true =>
  rw[e,yD rfl]at p;refine⟨Y9 ((tK a).symm.trans e),?_⟩;rw[<-tK rv];exact p.here b (by simp only[rD,RD])
theorem kc:Og K gJ (λx y H Q=>y=.non/\Q (.bl (!decide (x=.non))) H):=by
 intro ρ H σd hd σ d k v w Q b rv a p;unfold gJ at p;cases e:kC k with
 | false=>rw[e]at p;exact p.elim
 | true =>
  rw[e,yD rfl]at p;refine⟨Y9 ((tK a).symm.trans e),?_⟩;rw[<-tK rv];exact p.here b (by simp only[rD,RD])
theorem mI {σd:Sd}{σ:St}{r:Res D}{Q:Bool->Hp->Prop}(h:bM K rB ρ H σd σ (asB r) Q):bM K (rD K) ρ H σd σ r (λx H'=>∃c,x=.bl c/\Q c H'):=by
 refine(bM.bind (R:=rD K) h).imp λv H1 ⟨e,d,f,g,a,rv,b⟩ => ?_;cases d<;>first|exact b.elim|skip
 simp only[rD,RD]at rv;exact⟨_,rv,b.here a rfl⟩
theorem cP (h:ME X e f)(he:∀a,isTrue e X.env a=(do let v <-a;standAt e.pos;holding [v] (truthy v)):=by intro _;rfl):MT X e (tE f) :=
 PT.imp (GI h he) λσ H Q ⟨ρ,σd,hd,b,p⟩=>⟨ρ,σd,hd,b,mI p⟩
theorem aW {a:Expr}{m:EF}{op:CmpOp}{r:R2}{g:O2}(q:OpR X (compareOp op) r)(s:Og X.K g r)(ha:ME X a fa)(hb:ME X b m)(hm:behindInMarks op b=false):MT X (.Compare a [op] [b] pos) (tE (ag g fa m)):=by
 refine PT.imp (EG q ha hb hm) λσ H Q ⟨ρ,σd,hd,t,p⟩ => ?_;have p:=mI p;refine⟨ρ,σd,hd,t,(bM.bind (R:=rD X.K) p).imp λv H1 ⟨e,d,l,x,c,rv,u⟩ => ?_⟩;refine⟨e,σd,l,c,(bM.bind (R:=rD X.K) u).imp λw o ⟨i,k,h,n,f,j,p2⟩ => ?_⟩;exact s i o σd h σ d k v w _ f (rv.mono (c.hp.kp n)) j p2
theorem dI {a:Expr}{t:TF}(h:MT X a t):MT X (.UnaryOp .Not a pos) (eQ t):=by
 refine PT.imp (GL h) λσ H Q ⟨ρ,σd,hd,f,p⟩=>⟨ρ,σd,hd,f,(bM.bind (R:=rB) p).imp λc H1 ⟨e,d,i,j,b,rv,g⟩ => ?_⟩;cases rv;exact g.here b rfl
theorem fL {op a}{t:TF}(h:MT X a t)(b:op=BoolOp.And\/op=BoolOp.Or):MW X (.BoolOp op [a] pos) t:=by
 rcases b with rfl|rfl
 ·exact Ex h
 ·exact GJ h
theorem xB {a:Expr}{rest:List Expr}{t u:TF}(ha:MT X a t)(hb:MW X (.BoolOp .And (b :: rest) pos) u):MW X (.BoolOp .And (a :: b :: rest) pos) (jy t u):=by
 refine PW.imp (GK ha hb) λσ H Q ⟨ρ,σd,hd,i,p⟩=>⟨ρ,σd,hd,i,(bM.bind (R:=rB) p).imp λc H1 ⟨g,d,h,j,e,rv,f⟩ => ?_⟩;cases rv;cases c with
 | true=>simp only[Uz]at f ⊢;exact⟨g,σd,h,e,f⟩
 | false=>simp only[YA,XF]at f ⊢;exact f.here e rfl
theorem lu {a:Expr}{rest:List Expr}{t u:TF}(ha:MT X a t)(hb:MW X (.BoolOp .Or (b :: rest) pos) u):MW X (.BoolOp .Or (a :: b :: rest) pos) (tOr t u):=by
 refine PW.imp (Jh ha hb) λσ H Q ⟨ρ,σd,hd,i,p⟩=>⟨ρ,σd,hd,i,(bM.bind (R:=rB) p).imp λc H1 ⟨g,d,h,j,e,rv,f⟩ => ?_⟩;cases rv;cases c with
 | true=>simp only[Uz]at f ⊢;exact f.here e rfl
 | false=>simp only[YA,XF]at f ⊢;exact⟨g,σd,h,e,f⟩
theorem MW.mt {t:TF}(h:MW X e t):MT X e t:=h.pt
theorem ES {t:TF}{σ:St}{Q:VK}(h:jC K (rD K) (fT t) σ H Q):jC K rB t σ H (λb H'=>Q (.bl b) H'):=by
 obtain⟨ρ,σd,hd,f,p⟩:=h;refine⟨ρ,σd,hd,f,(bM.bind (R:=rB) p).imp λc H1 ⟨e,d,i,j,a,rv,g⟩ => ?_⟩;cases rv;exact g.here a (by simp only[rD,RD])
def MB (X:Cx) (e:Expr) (t:TF):Prop:=PE X e (λσ H Q=>jC X.K rB t σ H λb H'=>Q (.bl b) H')
theorem MB.me {t:TF}(h:MB X e t):ME X e (fT t):=PE.imp h λ_ _ _ q=>ES q
theorem gM (h:ME X e f):MB X e (tE f):=by
 refine PE.imp h λσ H Q ⟨ρ,σd,hd,a,p⟩=>⟨ρ,σd,hd,a,(mI p).imp ?_⟩;rintro v H1 ⟨c,rfl,q⟩;exact q
theorem kH {op a}{t:TF}(h:MB X a t):MB X (.BoolOp op [a] pos) t:=GM h
theorem mJ {a:Expr}{rest:List Expr}{t u:TF}(ha:MB X a t)(hb:MB X (.BoolOp .And (b :: rest) pos) u):MB X (.BoolOp .And (a :: b :: rest) pos) (jy t u):=by
 refine PE.imp (GN ha hb) λσ H Q ⟨ρ,σd,hd,i,p⟩=>⟨ρ,σd,hd,i,(bM.bind (R:=rB) p).imp λc H1 ⟨g,d,h,j,e,rv,f⟩=>⟨c,rfl,?_⟩⟩;cases rv;cases c with
 | true=>simp only[Uz]at f ⊢;exact⟨g,σd,h,e,f⟩
 | false=>simp only[YA,XF]at f ⊢;exact f.here e rfl
theorem JK {a:Expr}{rest:List Expr}{t u:TF}(ha:MB X a t)(hb:MB X (.BoolOp .Or (b :: rest) pos) u):MB X (.BoolOp .Or (a :: b :: rest) pos) (tOr t u):=by
 refine PE.imp (Jk ha hb) λσ H Q ⟨ρ,σd,hd,i,p⟩=>⟨ρ,σd,hd,i,(bM.bind (R:=rB) p).imp λc H1 ⟨g,d,h,j,e,rv,f⟩=>⟨c,rfl,?_⟩⟩;cases rv;cases c with
 | true=>simp only[Uz]at f ⊢;exact f.here e rfl
 | false=>simp only[YA,XF]at f ⊢;exact⟨g,σd,h,e,f⟩
theorem Hq {a:Expr}{t:TF}(h:MB X a t):MB X (.UnaryOp .Not a pos) (eQ t):=by
 refine PE.imp (GO h) λσ H Q ⟨ρ,σd,hd,f,p⟩=>⟨ρ,σd,hd,f,(bM.bind (R:=rB) p).imp λc H1 ⟨e,d,i,j,b,rv,g⟩=>⟨c,rfl,?_⟩⟩;cases rv;exact g.here b rfl
theorem zE {c a:Expr}{t:TF}{i:EF}(hc:MT X c t)(ha:ME X a fa)(hb:ME X b i):ME X (.IfExp c a b pos) (fIf t fa i):=by
 refine PE.imp (BU hc ha hb) λσ H Q ⟨ρ,σd,hd,j,p⟩=>⟨ρ,σd,hd,j,(bM.bind (R:=rB) p).imp λc H1 ⟨e,d,g,k,f,rv,h⟩ => ?_⟩;cases rv;cases c with
 | true=>simp only[Uz]at h ⊢;exact⟨e,σd,g,f,h⟩
 | false=>simp only[YA,XF]at h ⊢;exact⟨e,σd,g,f,h⟩
end
variable {es:List Expr}
section
variable {X:Cx} {pos:Pos}
theorem xC {σd:Sd}{hd:Hd}{σ:St}{r y:R2}{g k:O2}{A C:EF}{Q:VK}(N:Og K g r)(D:Og K k y)(rs:RS K ρ H σd hd σ)
  (p:bM K (rD K) ρ H σd σ (pE g k fa A C σd hd) Q):B5 r y (jC K (rD K) fa) (jC K (rD K) A) (jC K (rD K) C) σ H Q:=by
 refine⟨ρ,σd,hd,rs,(bM.bind (R:=rD K) p).imp λv H1 ⟨i,d,n,T,f,rv,P⟩ => ?_⟩;refine⟨i,σd,n,f,(bM.bind (R:=rD K) P).imp λw G ⟨s,B,o,E,e,c,p2⟩ => ?_⟩;refine N s G σd o σ d B v w _ e (rv.mono (f.hp.kp E)) c ((bM.bind (R:=rD K) p2).imp λz U ⟨q,F,j,O,a,x,l⟩ => ?_);cases F<;>first|exact l.elim|skip
 rename_i b
 simp only[rD,RD]at x;refine⟨b,x,?_⟩;cases b with
 | false =>
  rw[x3 Z0];exact l.here a (by simp only[rD,RD])
 | true =>
  rw[yD rfl];refine⟨q,σd,j,a,(bM.bind (R:=rD K) l).imp λu J ⟨h,S,t,M,m,L,I⟩ => ?_⟩;exact D h J σd t σ B S w u Q m ((c.mono (e.hp.kp O)).mono (a.hp.kp M)) L I
theorem Cg {a c:Expr}{h i:EF}{op d:CmpOp}{r f:R2}{g k:O2}(l:OpR X (compareOp op) r)(e:OpR X (compareOp d) f)(m:Og X.K g r)(j:Og X.K k f)(ha:ME X a fa)(hb:ME X b h)(hc:ME X c i)
  (hm:lastMarks [op,d] [b,c] = false:=by with_unfolding_all rfl):ME X (.Compare a [op,d] [b,c] pos) (pE g k fa h i) :=
 PE.imp (B6 l e ha hb hc hm) λ_ _ _ ⟨_,_,_,n,p⟩=>xC m j n p
theorem aq:MA X [] ao:=PA.imp d6 λ_ _ _ ⟨_,_,_,a,p⟩=>p.here a RDs.nil
theorem ae {r:LF}(he:ME X e f)(k:MA X es r)(j:starEach (e :: es) X.env=(false,eval e X.env) :: starEach es X.env:=by rfl):MA X (e :: es) (ab f r):=by
 refine PA.imp (cF he k j) λσ H Q ⟨ρ,σd,hd,m,p⟩ => ?_;refine⟨ρ,σd,hd,m,(bM.bind (R:=rD X.K) p).imp λv H1 ⟨b,d,h,s,a,rv,n⟩ => ?_⟩;refine⟨b,σd,h,a,(bM.bind (R:=rDs X.K) n).imp λt q ⟨o,ds,l,i,c,g,p2⟩ => ?_⟩;exact p2.here c (RDs.cons (rv.mono (a.hp.kp i)) g)
theorem oV {n:Nat}(h:n<=SZ):n<=sizeLine:=ZM h (by show 1000000<=2 ^ 24;decide)
theorem hV {k}{r:LF}(h:MA X es r):ME X (.Tuple es k pos) (jw r):=by
 refine PE.imp (G7 h) λσ H Q ⟨ρ,σd,hd,g,p⟩ => ?_;refine⟨ρ,σd,hd,g,(bM.bind (R:=rDs X.K) p).imp λe H1 ⟨f,ds,j,l,c,a,b⟩ => ?_⟩
 by_cases hz:ds.length<=SZ
 ·rw[yD hz]at b
  refine⟨by rw[<-a.length];exact oV hz,λq i => ?_⟩;have d:=bW (o:=HO.tup e) i;exact b.at (Ext.same d) (c.same d) (by simp only[rD,RD];exact⟨q,e,rfl,aY,a.mono (Kp.same d)⟩)
 ·rw[x3 hz]at b;exact b.elim
theorem Ext.fresh {ρ':List Addr}{H':Hp}{q:Addr}(e:Ext ρ H ρ' H')(h:H' q=none)(n:q ∉ ρ'):H q=none:=by
 cases z:H q with
 | none=>rfl
 | some o =>
  by_cases hq:q ∈ ρ
  ·obtain⟨t,rfl⟩:=e.pre
   exact absurd (WI t hq) n
  ·rw[e.frame q o z hq]at h;cases h
theorem RH.free {hd:Hd}(r:RH K ρ H hd){q:Addr}(h:H q=none):q ∉ ρ:=λz=>by
 rcases r.mut z with ⟨_,e⟩|⟨_,e⟩|⟨_,e⟩<;>(rw[h]at e;cases e)
theorem vw.mk {a:List Addr}{H1:Hp}{c:Hd}{σd:Sd}{σ:St}{Q:VK}(p:vw K ρ H σd σ (.ok l c) Q)(f:Ext ρ H a H1)(b:RS K a H1 σd c σ)(r:RDs K a H1 l vs) :
  ∀q,H1 q=none->Q (.ref q) (upd H1 q (.lst vs)):=λq e=>by
 have d:=bW (o:=HO.lst vs) e;have g:=b.hp.free e;exact p q vs _ a (f.trans (Ext.same d)) (b.same d) (f.fresh e g) aY g (r.mono (Kp.same d))
theorem cI {r:LF}(h:MA X es r)(hz:∀σd hd ds hd',r σd hd=.ok ds hd'->ds.length<=SZ):MF X (.List es pos) r:=by
 refine PE.imp (G8 h) λσ H Q ⟨ρ,σd,hd,f,p⟩ => ?_;refine⟨ρ,σd,hd,f,?_⟩;cases e:r σd hd with
 | exc x h'=>rw[e]at p;exact p
 | bad=>rw[e]at p;exact p
 | ok ds hd1 =>
  rw[e]at p;intro g H1 c d b a;exact⟨by rw[<-RDs.length a];exact oV (hz _ _ _ _ e),p.mk d b a⟩
theorem aU {r:LF}{n:Nat}(h:∀σd hd ds hd',r σd hd=.ok ds hd'->ds.length=n):∀σd hd ds hd',ab f r σd hd=.ok ds hd'->ds.length=n + 1:=by
 intro σd hd ds hd' e;simp only[ab]at e;cases e1:f σd hd with
 | exc x h'=>rw[e1]at e;cases e
 | bad=>rw[e1]at e;cases e
 | ok d h1 =>
  rw[e1]at e;simp only[aP]at e;cases e2:r σd h1 with
  | exc x h'=>rw[e2]at e;cases e
  | bad=>rw[e2]at e;cases e
  | ok ds2 h2 =>
   rw[e2]at e;simp only[aP]at e;cases e;simp[h _ _ _ _ e2]
theorem bF:∀σd hd ds hd',ao σd hd=.ok ds hd'->ds.length=0:=by
 intro σd hd ds hd' e;simp only[ao]at e;cases e;rfl
theorem bG {r:LF}(h:MF X e r):ME X e (aT r):=by
 refine PE.imp h λσ H Q ⟨ρ,σd,hd,i,p⟩=>⟨ρ,σd,hd,i,?_⟩;unfold aT at p;cases e:r σd hd with
 | exc x h'=>rw[e]at p;exact p
 | bad=>rw[e]at p;exact p
 | ok ds hd1 =>
  rw[e]at p;simp only[aP]at p;intro q n H1 c f b d l k g
  by_cases hz:ds.length<=SZ
  ·rw[yD hz]at p
   have m:=b.hp.alloc l k g;have ex:Ext ρ H (c++[q]) H1:=⟨by obtain⟨t,rfl⟩:=f.pre;exact⟨t++[q],by simp⟩,λa j=>by
    rcases List.mem_append.mp j with z|z
    ·exact f.new a z
    ·simp at z;subst z;exact .inr d,f.frame⟩
   refine p.at ex (i.ext ex m) ?_;simp only[rD,RD];refine⟨q,?_,rfl⟩;rw[<-b.hp.len];simp
  ·rw[x3 hz]at p;exact p.elim
theorem fM {r:LF}(h:MF X e r):MQ X e r:=by
 refine PE.imp h λσ H Q ⟨ρ,σd,hd,i,p⟩=>⟨ρ,σd,hd,i,?_⟩;cases e:r σd hd with
 | exc x h'=>rw[e]at p;exact p
 | bad=>rw[e]at p;exact p
 | ok ds hd1 =>
  rw[e]at p;intro q g H1 a f b d j k c;exact p (.ref q) H1 a f b ⟨q,g,rfl,.inl (SqL.of j),c⟩
theorem n5.sq {a:Addr}{xs:List V}(h:n5 K H a xs):SqL K H a xs:=by
 rcases h with ⟨o,h⟩|h
 ·exact .inl (.inr ⟨o,h⟩)
 ·exact .inr h
theorem tL {hd:Hd}{d:D}{v:V}(r:RH K ρ H hd)(h:RD K ρ H d v)(e:gL hd d=some l):∃p b,v=.ref p/\(SqL K H p b\/H p=some (.tup b))/\RDs K ρ H l b:=by
 cases d<;>simp only[gL]at e<;>try (cases e;done)
 ·cases e
  simp only[RD]at h;obtain⟨p,b,f,g,i⟩:=h;exact⟨p,b,f,.inr g,i⟩
 ·rename_i n
  simp only[RD]at h;obtain⟨a,f,g⟩:=h;cases c:hd[n]? with
  | none=>rw[c]at e;cases e
  | some x =>
   rw[c]at e;cases x with
   | dct l=>cases e
   | dcT l=>cases e
   | lst l' =>
    cases e;obtain⟨b,q1,q2⟩:=r.cel n _ a c f;exact⟨a,b,g,.inl (SqL.of q1),q2⟩
 ·cases e
  simp only[RD]at h;obtain⟨p,b,f,g,i⟩:=h;exact⟨p,b,f,.inl g.sq,i⟩
theorem ce (h:ME X e f):MQ X e (lOf f):=by
 refine PE.imp h λσ H Q ⟨ρ,σd,hd,i,p⟩=>⟨ρ,σd,hd,i,(bM.bind (R:=rD X.K) p).imp λv H1 ⟨g,d,c,j,a,rv,b⟩ => ?_⟩;cases e:gL c d with
 | none=>rw[e]at b;exact b.elim
 | some l=>rw[e]at b;exact b.here a (tL a.hp rv e)
theorem zF {i:Int}{d:D}(r:RDs K ρ H l vs)(e:atI l i=some d):∃v,L2.atI vs i=some v/\RD K ρ H d v:=by
 unfold atI at e;unfold L2.atI;have b:=r.length;have a:ixN l.length i=L2.ixN vs.length i:=by rw[b];rfl
 rw[a]at e;cases c:L2.ixN vs.length i with
 | none=>rw[c]at e;cases e
 | some j =>
  rw[c]at e;simp only[Option.bind_some]at e ⊢;exact r.get e
theorem aJ {a:Expr}{n:EF}(ha:ME X a fa)(hb:ME X b n)(t:tG b):ME X (.Subscript a b pos) (fAt fa n):=by
 refine me2 (a:=a) (b:=b) (g:=oAt) (Gh Hf ha hb t) λρ H σd hd σ d k v w Q h rv c p => ?_;unfold oAt at p;cases e:gL hd d with
 | none=>rw[e]at p;exact p.elim
 | some l =>
  rw[e]at p;cases k<;>first|exact p.elim|skip
  rename_i i
  simp only at p;cases e2:atI l i with
  | none=>rw[e2]at p;exact p.elim
  | some x =>
   rw[e2]at p;simp only[RD]at c;obtain⟨q,o,s,f,j⟩:=tL h.hp rv e;obtain⟨u,r,m⟩:=zF j e2;rcases f with f|f
   ·exact .inl ⟨q,o,i,u,s,c,f,r,p.here h m⟩
   ·exact .inr (.inl ⟨q,o,i,u,s,c,SqT.of f,r,p.here h m⟩)
theorem zG {a:Expr}{h:LF}{n:EF}(ha:MF X a h)(hb:ME X b n)(r:tG b):ME X (.Subscript a b pos) (fIx h n):=by
 refine PE.imp (Gh zB ha hb r) λσ H Q ⟨ρ,σd,hd,A,p⟩=>⟨ρ,σd,hd,A,?_⟩;unfold fIx at p;cases e:h σd hd with
 | exc x h'=>rw[e]at p;exact p
 | bad=>rw[e]at p;exact p
 | ok l hd1 =>
  rw[e]at p;simp only[aP]at p;intro q v H1 f t c o C B j;refine⟨f,σd,hd1,c,(bM.bind (R:=rD X.K) (p.ext t)).imp λw E ⟨D,k,z,m,g,d,p2⟩ => ?_⟩;cases k<;>first|exact p2.elim|skip
  rename_i i
  simp only at p2;cases e3:atI l i with
  | none=>rw[e3]at p2;exact p2.elim
  | some x =>
   rw[e3]at p2;simp only[rD,RD]at d;obtain⟨u,y,s⟩:=zF (j.mono (c.hp.kp m)) e3;exact⟨q,v,i,u,rfl,d,SqL.of (m.frame q _ C B),y,p2.here g s⟩
end
variable {p:Pos}
section
variable {X:Cx} {pos:Pos}
def B1 (X:Cx) (r:List V->Hp->VK->Prop) (x:Str) (p pos:Pos) (a:Expr):Prop:=∀t,PA X [a] t->PE X (.Call (.Name x p) [a] [] pos) (tCB r t)
theorem Ci   {a:Expr} {id:String} {r:List V->Hp->VK->Prop} (hc:fS X (.builtin id) r) (e:Gl X x) (hm:X.mg x=none) (d:bootBuiltins x=some (.builtin id)) (hn:x ≠ "__name__" := by decide) (b:(x == ("__debug__" : Str))=false:=by decide)
  (he:starEach [a] X.env=(false,eval a X.env) :: starEach [] X.env:=by rfl):B1 X r x p pos a:=λ_ c=>iq hc e hm d c hn b he
theorem Gj   {a:Expr} {T:String} {r:List V->Hp->VK->Prop} (hc:fS X (.type T) r) (d:Gl X x) (hm:X.mg x=none) (e:bootBuiltins x=some (.type T)) (hn:x ≠ "__name__" := by decide) (b:(x == ("__debug__" : Str))=false:=by decide)
  (he:starEach [a] X.env=(false,eval a X.env) :: starEach [] X.env:=by rfl):B1 X r x p pos a:=λ_ c=>mE hc d hm e c hn b he
theorem tM {a:Expr}{f:LF}{r:List V->Hp->VK->Prop}{g:List D->Hd->Res D}(hb:B1 X r x p pos a)(ha:MQ X a f)
  (m:∀ρ H σd hd σ l q vs Q,RS X.K ρ H σd hd σ->(SqL X.K H q vs\/H q=some (.tup vs))->RDs X.K ρ H l vs->bM X.K (rD X.K) ρ H σd σ (g l hd) Q->r [.ref q] H Q)
  (i:starEach [a] X.env=(false,eval a X.env) :: starEach [] X.env:=by rfl):ME X (.Call (.Name x p) [a] [] pos) (λσ h=>(f σ h).bind λl h=>g l h):=by
 refine PE.imp (hb _ (cF ha d6 i)) λσ H Q ⟨ρ,σd,hd,n,k⟩=>⟨ρ,σd,hd,n,(bM.bind (R:=rQ X.K) k).imp λv H1 ⟨b,l,e,t,c,⟨q,vs,o,j,d⟩,s⟩ => ?_⟩;subst o;exact m b H1 σd e σ l q vs Q c j d s
theorem JL {a:Expr}{r:List V->Hp->VK->Prop}{g:D->Hd->Res D}(hb:B1 X r x p pos a)(ha:ME X a fa)
  (j:∀ρ H σd hd σ d v Q,RS X.K ρ H σd hd σ->RD X.K ρ H d v->bM X.K (rD X.K) ρ H σd σ (g d hd) Q->r [v] H Q)
  (f:starEach [a] X.env=(false,eval a X.env) :: starEach [] X.env:=by rfl):ME X (.Call (.Name x p) [a] [] pos) (λσ h=>(fa σ h).bind λx h=>g x h):=by
 refine PE.imp (hb _ (cF ha d6 f)) λσ H Q ⟨ρ,σd,hd,k,i⟩=>⟨ρ,σd,hd,k,(bM.bind (R:=rD X.K) i).imp λv H1 ⟨b,d,e,m,c,rv,l⟩ => ?_⟩;exact j b H1 σd e σ d v Q c rv l
theorem cu  {a:Expr} {d:LF} (i:Gl X "len") (hm:X.mg "len" = none) (ha:MQ X a d) (c:starEach [a] X.env=(false,eval a X.env) :: starEach [] X.env:=by rfl):ME X (.Call (.Name "len" p) [a] [] pos) (cj d) :=
 tM (g:=λl h=>.ok (.int l.length) h) (Ci tI i hm PySem.boot_len (he:=c)) ha (λρ H σd hd σ l q f Q j e b p=>⟨q,f,rfl,e.imp id SqT.of,by rw[<-b.length];exact p.here j (by simp only[rD,RD])⟩) c
theorem fj  {a:Expr} {j:LF} (k:Gl X "tuple") (hm:X.mg "tuple" = none) (ha:MQ X a j) (f:starEach [a] X.env=(false,eval a X.env) :: starEach [] X.env:=by rfl):ME X (.Call (.Name "tuple" p) [a] [] pos) (fA j):=by
 refine tM (g:=λl h=>.ok (.tup l) h) (Gj qL k hm (by decide +kernel) (he:=f)) ha (λρ H σd hd σ l q d Q i b c p=>⟨q,d,rfl,?_⟩) f;rcases b with b|b
 ·refine .inl ⟨b,λn m => ?_⟩
  have e:=bW (o:=HO.tup d) m;exact p.at (Ext.same e) (i.same e) (by simp only[rD,RD];exact⟨n,d,rfl,aY,c.mono (Kp.same e)⟩)
 ·exact .inr ⟨SqT.of b,p.here i (by simp only[rD,RD];exact⟨q,d,rfl,b,c⟩)⟩
theorem zH  {a:Expr}  (f:Gl X "int") (hm:X.mg "int" = none) (ha:ME X a fa) (c:starEach [a] X.env=(false,eval a X.env) :: starEach [] X.env:=by rfl):ME X (.Call (.Name "int" p) [a] [] pos) (qM fa):=by
 refine JL (g:=λx h=>match x with | .int i=>.ok (.int i) h | .bl b=>.ok (.int (b2i b)) h|_=>.bad) (Gj AF f hm (by decide +kernel) (he:=c)) ha (λρ H σd hd σ d v Q e rv p => ?_) c;cases d<;>first|exact p.elim|skip
 ·simp only[RD]at rv;subst rv
  exact .inr ⟨_,rfl,p.here e (by simp only[rD,RD];rfl)⟩
 ·simp only[RD]at rv;subst rv
  exact .inl ⟨_,rfl,p.here e (by simp only[rD,RD])⟩
theorem vy (ns:List Int):PySem.preSum (λi=>ns.getD i 0) ns.length=ns.sum:=by
 have a:∀k,k<=ns.length->PySem.preSum (λi=>ns.getD i 0) k=(ns.take k).sum:=by
  intro k
  induction k with
  | zero=>intro _;simp[PySem.preSum]
  | succ k ih =>
   intro b;rw[PySem.preSum,ih (by omega),List.take_add_one,ZE (by omega),List.sum_append];simp[List.getD,ZE (show k < ns.length by omega)]
 rw[a _ (ZL _),WA]
theorem lx {a:List T0}{ns:List Int}(r:aR (ns.map V.int) a)(i:Nat)(v:T0)(h:a.toArray[i]? = some v):∃t,v=.int (ns.getD i 0) t:=by
 have c:a[i]? = some v:=by simpa using h
 have g:=r.length;have hi:i < a.length:=(List.getElem?_eq_some_iff.mp c).1;have b:i < ns.length:=by rw[<-g]at hi;simpa using hi
 obtain⟨u,d,f⟩:=r.get (i:=i) (x:=.int ns[i]) (by simp[b]);rw[c]at d;cases d;obtain⟨t,e⟩:=f;exact⟨t,by rw[e];simp[List.getD,b]⟩
theorem AK (hc:X.calm=true):fS X (.builtin "sum") (λxs H Q=>∃(p:Addr) (ns:List Int),xs=[.ref p]/\(SqL X.K H p (ns.map V.int)\/SqT X.K H p (ns.map V.int))/\Q (.int ns.sum) H):=by
 intro pins s σ H xs z Q I r q;obtain⟨p,ns,rfl,j,q⟩:=q;obtain⟨u,rfl,w⟩:=aR.one r;cases (show u=Value.ref p from w);have k:∀{v:Obj} {l:Heap} {tk:Nat} {t':Tok} {n:Nat},n=ns.length->(∀b o,b∉[s.heap.objs.size]->(s.heap.push v).get? b=some o->l.get? b=some o)->EP X pins σ Q (.int (PySem.preSum (λi=>ns.getD i 0) n) t') { s with heap:=l,toks:=tk }:=by
  intro v l tk t' n x h;subst x;refine⟨.int ns.sum,H,I.kept (t':=tk) λb o e=>h b o (by simp;exact ZN (ZI e)) (ZH _ e),⟨t',by rw[vy]⟩,q⟩
 have t:(X.A.in1).handled=none:=I.ok.hd hc;rcases j with j|j
 ·obtain⟨a,rv,m,y⟩:=I.list j
  have f:s.heap.IsList p a.toArray:=m.isList;have c:p < s.heap.objs.size:=by obtain⟨o,g,_⟩:=f;exact ZI g
  refine PySem.call_sum_walkG (PySem.wpAny_pyIter_list f ?_);refine⟨s.heap.objs.size,_,[s.heap.objs.size],_,_,_,λi=>ns.getD i 0,rfl,PySem.Walks.list t s.heap.objs.size p (ZN c) a.toArray,⟨⟨_,ZJ _ rfl,rfl,rfl⟩,?_⟩,?_,lx rv,?_⟩
  ·obtain⟨o,g,r⟩:=f;exact⟨o,ZH _ g,r⟩
  ·intro b d
   rcases VI.mp d with rfl|d
   ·rw[YQ];exact Z4 _
   ·simp at d;subst d;rw[YQ];exact v4 c
  ·exact λl tk t' h=>k (by simpa using rv.length.symm) h
 ·obtain⟨a,rv,m,y⟩:=I.tuple j
  have f:s.heap.IsTuple p a.toArray:=m;have c:p < s.heap.objs.size:=by obtain⟨o,g,_⟩:=f;exact ZI g
  refine PySem.call_sum_walkG (PySem.wpAny_pyIter_tuple f ?_);refine⟨s.heap.objs.size,_,[s.heap.objs.size],_,_,_,λi=>ns.getD i 0,rfl,PySem.Walks.tuple t s.heap.objs.size p (ZN c) a.toArray,⟨⟨_,ZJ _ rfl,rfl,rfl⟩,?_⟩,?_,lx rv,?_⟩
  ·obtain⟨o,g,r⟩:=f;exact⟨o,ZH _ g,r⟩
  ·intro b d
   rcases VI.mp d with rfl|d
   ·rw[YQ];exact Z4 _
   ·simp at d;subst d;rw[YQ];exact v4 c
  ·exact λl tk t' h=>k (by simpa using rv.length.symm) h
theorem jE {K:ZX}{ρ:List Addr}{H:Hp}:∀{l:List D} {b:List V} {a:List Int},RDs K ρ H l b->cG l=some a->b=a.map V.int
 | [],_,a,r,e=>by simp only[cG]at e;cases e;simp only[RDs]at r;subst r;rfl
 | d :: l,_,a,r,e=>by
  simp only[RDs]at r;obtain⟨v,b,rfl,h1,h2⟩:=r;cases d<;>simp only[cG]at e<;>try (cases e;done)
  rename_i i
  cases c:cG l with
  | none=>rw[c]at e;cases e
  | some js =>
   rw[c]at e;cases e;simp only[RD]at h1;rw[h1,jE h2 c];rfl
theorem xD  {a:Expr} {f:LF} (hc:X.calm=true) (j:Gl X "sum") (hm:X.mg "sum" = none) (ha:MQ X a f) (d:starEach [a] X.env=(false,eval a X.env) :: starEach [] X.env:=by rfl):ME X (.Call (.Name "sum" p) [a] [] pos) (pF f):=by
 refine tM (g:=λl h=>match cG l with|some is=>.ok (.int is.sum) h|none=>.bad) (Ci (AK hc) j hm (by decide +kernel) (he:=d)) ha (λρ H σd hd σ l q m Q k i b p => ?_) d;cases c:cG l with
 | none=>simp only[c]at p;exact p.elim
 | some is =>
  simp only[c]at p;have e:=jE b c;subst e;exact⟨q,is,rfl,i.imp id SqT.of,p.here k (by simp only[rD,RD])⟩
end
section
variable {K:ZX} {ρ:List Addr} {H:Hp}
mutual
theorem vz:∀{d k:D} {v:V} {b:Bool},RD K ρ H d v->RD K ρ H k v->peq d k=some b->b=true
 | .int i,k,v,b,h1,h2,e=>by
  simp only[RD]at h1;subst h1;cases k<;>simp only[RD]at h2<;>try (cases h2;done)
  all_goals first
   | (cases h2;simp only[peq]at e;simpa using e.symm)
   | (obtain⟨_,_,z,_⟩:=h2;cases z;done)
   | (obtain⟨_,_,z⟩:=h2;cases z;done)
   | (obtain⟨_,_,_,z,_⟩:=h2;cases z;done)
 | .bl i,k,v,b,h1,h2,e=>by
  simp only[RD]at h1;subst h1;cases k<;>simp only[RD]at h2<;>try (cases h2;done)
  all_goals first
   | (cases h2;simp only[peq]at e;simpa using e.symm)
   | (obtain⟨_,_,z,_⟩:=h2;cases z;done)
   | (obtain⟨_,_,z⟩:=h2;cases z;done)
   | (obtain⟨_,_,_,z,_⟩:=h2;cases z;done)
 | .str x,k,v,b,h1,h2,e=>by
  simp only[RD]at h1;subst h1;cases k<;>simp only[RD]at h2<;>try (cases h2;done)
  all_goals first
   | (simp only[peq]at e;simp only[toS,V.str.injEq,PySem.Str.mk.injEq]at h2;have f:=congrArg Array.toList h2;simp at f;subst f;simpa using e.symm)
   | (obtain⟨_,_,z,_⟩:=h2;cases z;done)
   | (obtain⟨_,_,z⟩:=h2;cases z;done)
   | (obtain⟨_,_,_,z,_⟩:=h2;cases z;done)
 | .non,k,v,b,h1,h2,e=>by
  simp only[RD]at h1;subst h1;cases k<;>simp only[RD]at h2<;>try (cases h2;done)
  all_goals first
   | (simp only[peq]at e;simpa using e.symm)
   | (obtain⟨_,_,z,_⟩:=h2;cases z;done)
   | (obtain⟨_,_,z⟩:=h2;cases z;done)
   | (obtain⟨_,_,_,z,_⟩:=h2;cases z;done)
 | .tup xs,k,v,b,h1,h2,e=>by
  simp only[RD]at h1;obtain⟨p,o,rfl,m,h⟩:=h1;cases k<;>simp only[peq]at e<;>try (cases e;done)
  ·simp only[RD]at h2;cases h2
  ·simp only[RD]at h2;cases h2
  ·rename_i ys
   simp only[RD]at h2;obtain⟨q,j,z,a,g⟩:=h2;cases z;rw[m]at a;cases a;cases c:iN xs ys with
   | none=>rw[c]at e;cases e
   | some b' =>
    rw[c]at e;simp only[X3,YR]at e;have:=rX h g c;subst this;rw[<-e,h.length,g.length];simp
 | .ref n,k,v,b,h1,h2,e=>by cases k<;>simp only[peq]at e<;>cases e
 | .lit l,k,v,b,h1,h2,e=>by cases k<;>simp only[peq]at e<;>cases e
 | .exn c l,k,v,b,h1,h2,e=>by simp only[peq]at e<;>cases e
theorem rX:∀{xs ys:List D} {a:List V} {b:Bool},RDs K ρ H xs a->RDs K ρ H ys a->iN xs ys=some b->b=true
 | [],_,_,_,_,_,e=>by simp only[iN]at e;cases e;rfl
 | x :: xs,[],_,_,_,_,e=>by simp only[iN]at e;cases e;rfl
 | x :: xs,y :: ys,_,b,h1,h2,e=>by
  simp only[RDs]at h1 h2;obtain⟨v,r,rfl,g,h⟩:=h1;obtain⟨i,j,z,f,d⟩:=h2;cases z;simp only[iN]at e;cases c:peq x y with
  | none=>rw[c]at e;cases e
  | some p =>
   cases c2:iN xs ys with
   | none=>rw[c,c2]at e;cases e
   | some q =>
    rw[c,c2]at e;simp only[YR]at e;rw[<-e,vz g f c,rX h d c2];rfl
end
end
section
variable {K:ZX} {ρ:List Addr} {H:Hp} {P:T3} {w:T4} {s:T1}
theorem hW (hok:HOk P w H s.heap){p:Addr}(h:H p=some (.tup vs)):∃a:List T0,aR vs a/\s.heap.IsTuple p a.toArray:=by
 obtain⟨z,a,r,t⟩:=hok p _ h;exact⟨a,r,t⟩
mutual
theorem Hr (hok:HOk P w H s.heap):∀{d k:D} {v g:V} {u a:T0} {b:Bool} {A:T2},RD K ρ H d v->RD K ρ H k g->bx v u->bx g a->peq d k=some b->A.units + dep d < cLine->SeqAt.EqAt A s u a b
 | .int i,k,v,g,u,a,b,A,h1,h2,r1,r2,e,hu=>by
  simp only[RD]at h1;subst h1;obtain⟨t,rfl⟩:=r1;cases k<;>simp only[peq]at e<;>try (cases e;done)
  all_goals cases e
  ·simp only[RD]at h2;subst h2;cases r2;exact SeqAt.EqAt.int_none i t
  ·simp only[RD]at h2;subst h2;cases r2;exact SeqAt.EqAt.int_bool i t _
  ·simp only[RD]at h2;subst h2;obtain⟨m,rfl⟩:=r2;exact SeqAt.EqAt.int_int i t _ m
  ·simp only[RD]at h2;obtain⟨p,L,rfl,C,_⟩:=h2;cases r2
   obtain⟨h,_,r⟩:=hW hok C;exact SeqAt.EqAt.int_tuple i t r (ZS (XZ _ _) hu)
 | .bl i,k,v,g,u,a,b,A,h1,h2,r1,r2,e,hu=>by
  simp only[RD]at h1;subst h1;cases r1;cases k<;>simp only[peq]at e<;>try (cases e;done)
  all_goals cases e
  ·simp only[RD]at h2;subst h2;cases r2;exact SeqAt.EqAt.bool_bool i _
  ·simp only[RD]at h2;subst h2;obtain⟨m,rfl⟩:=r2;exact SeqAt.EqAt.bool_int i _ m
 | .str x,k,v,g,u,a,b,A,h1,h2,r1,r2,e,hu=>by
  simp only[RD]at h1;subst h1;obtain⟨t,rfl⟩:=r1;cases k<;>simp only[peq]at e<;>try (cases e;done)
  all_goals cases e
  rename_i y
  simp only[RD]at h2;subst h2;obtain⟨m,rfl⟩:=r2;have:decide (x=y)=(toS x == toS y):=by
   by_cases z:x=y
   ·subst z;simp
   ·have : ¬toS x=toS y:=λq=>z (by have:=congrArg (λ(s:Str)=>s.cps.toList) q;simpa[toS] using this)
    simp[z,this]
  rw[this];exact SeqAt.EqAt.str_str _ t _ m
 | .non,k,v,g,u,a,b,A,h1,h2,r1,r2,e,hu=>by
  simp only[RD]at h1;subst h1;cases r1;cases k<;>simp only[peq]at e<;>try (cases e;done)
  all_goals cases e
  ·simp only[RD]at h2;subst h2;cases r2;exact SeqAt.EqAt.same _
  ·simp only[RD]at h2;subst h2;obtain⟨m,rfl⟩:=r2;exact SeqAt.EqAt.none_int _ m
  ·simp only[RD]at h2;obtain⟨p,L,rfl,C,_⟩:=h2;cases r2
   obtain⟨h,_,r⟩:=hW hok C;exact SeqAt.EqAt.none_tuple r (ZS (XZ _ _) hu)
 | .tup xs,k,v,g,u,a,b,A,h1,h2,r1,r2,e,hu=>by
  have J:=h1;simp only[RD]at h1;obtain⟨p,L,rfl,C,q1⟩:=h1;cases r1;obtain⟨h,rv,r⟩:=hW hok C;have B:A.units < cLine:=ZS (XZ _ _) hu;cases k<;>simp only[peq]at e<;>try (cases e;done)
  ·cases e;simp only[RD]at h2;subst h2;cases r2;exact SeqAt.EqAt.tuple_none r B
  ·cases e;simp only[RD]at h2;subst h2;obtain⟨m,rfl⟩:=r2;exact SeqAt.EqAt.tuple_int _ m r B
  ·rename_i ys
   have F:=h2;simp only[RD]at h2;obtain⟨N,O,rfl,I,q2⟩:=h2;cases r2
   by_cases hpp:p=N
   ·subst hpp
    have:b=true:=vz J F (by simp only[peq];exact e);subst this;exact SeqAt.EqAt.same _
   ·obtain⟨o,E,G⟩:=hW hok I
    cases c:iN xs ys with
    | none=>rw[c]at e;cases e
    | some b' =>
     rw[c]at e;simp only[X3,YR]at e;obtain⟨f,Q,M⟩:=oW hok (A:=A.in1) q1 q2 rv E c (by simp only[dep]at hu;show A.units + 1 + mG xs < cLine;omega);have:=SeqAt.RcAt.tuples (s:=s) (A:=A) (e:=f) r G B (λj h1 h2=>by simpa using Q j (by simpa using h1) (by simpa using h2));rw[<-e,<-M,q1.length,q2.length,rv.length,E.length];refine SeqAt.EqAt.of_refs hpp ?_;rw[show (decide (h.length=o.length))=(h.length == o.length) from rfl];simpa using this
 | .ref n,k,v,g,u,a,b,A,h1,h2,r1,r2,e,hu=>by cases k<;>simp only[peq]at e<;>cases e
 | .lit l,k,v,g,u,a,b,A,h1,h2,r1,r2,e,hu=>by cases k<;>simp only[peq]at e<;>cases e
 | .exn c l,k,v,g,u,a,b,A,h1,h2,r1,r2,e,hu=>by simp only[peq]at e<;>cases e
theorem oW (hok:HOk P w H s.heap):∀{xs ys:List D} {h d:List V} {g a:List T0} {b:Bool} {A:T2},RDs K ρ H xs h->RDs K ρ H ys d->aR h g->aR d a->iN xs ys=some b->A.units + mG xs < cLine->
  ∃f:Nat->Bool,(∀j (h1:j < g.length) (h2:j < a.length),SeqAt.EqAt A s g[j] a[j] (f j))/\(List.range (min g.length a.length)).all f=b
 | [],ys,h,d,g,a,b,A,h1,h2,r1,r2,e,hu=>by
  simp only[RDs]at h1;subst h1;cases r1;simp only[iN]at e;cases e;exact⟨λ_=>true,λj h1=>by simp at h1,by simp⟩
 | x :: xs,[],h,d,g,a,b,A,h1,h2,r1,r2,e,hu=>by
  simp only[RDs]at h2;subst h2;cases r2;simp only[iN]at e;cases e;exact⟨λ_=>true,λj h1 h2=>by simp at h2,by simp⟩
 | x :: xs,y :: ys,h,d,g,a,b,A,h1,h2,r1,r2,e,hu=>by
  simp only[RDs]at h1 h2;obtain⟨v,r,rfl,l,k⟩:=h1;obtain⟨z,u,rfl,t,m⟩:=h2;cases r1 with
  | cons p1 p2 =>
   cases r2 with
   | cons s1 s2 =>
    simp only[iN]at e;cases c:peq x y with
    | none=>rw[c]at e;cases e
    | some p =>
     cases c2:iN xs ys with
     | none=>rw[c,c2]at e;cases e
     | some q =>
      rw[c,c2]at e;simp only[YR]at e;simp only[mG]at hu;have n:=Hr hok (A:=A) l t p1 s1 c (by omega);obtain⟨f,o,i⟩:=oW hok (A:=A) k m p2 s2 c2 (by omega);refine⟨λj=>match j with|0=>p|j + 1=>f j,λj h1 h2 => ?_,?_⟩
      ·cases j with
       | zero=>exact n
       | succ j=>exact o j (by simpa using h1) (by simpa using h2)
      ·rw[<-e,<-i,Y7,Y7,Nat.succ_min_succ,List.range_succ_eq_map,WO,List.all_map]
       rfl
end
theorem Hs (hok:HOk P w H s.heap){d k:D}{v I:V}{u C:T0}{b:Bool}{A:T2}(h1:RD K ρ H d v)(h2:RD K ρ H k I)(B:bx v u)(h:bx I C)(e:peq d k=some b)(G:A.units + dep d < cLine) :
  SeqAt.RcAt A s u C b/\SeqAt.RcNeAt A s u C (!b):=by
 have a:A.units < cLine:=ZS (XZ _ _) G;cases d<;>simp only[RD]at h1
 ·subst h1;cases B
  cases k<;>simp only[peq]at e<;>try (cases e;done)
  all_goals cases e
  ·simp only[RD]at h2;subst h2;cases h;exact⟨SeqAt.RcAt.none_none,SeqAt.RcNeAt.none_none⟩
  ·simp only[RD]at h2;subst h2;obtain⟨g,rfl⟩:=h;exact⟨SeqAt.RcAt.none_int _ g,SeqAt.RcNeAt.none_int _ g⟩
  ·simp only[RD]at h2;obtain⟨p,F,rfl,n,_⟩:=h2;cases h
   obtain⟨l,_,i⟩:=hW hok n;exact⟨SeqAt.RcAt.none_tuple i a,SeqAt.RcNeAt.none_tuple i a⟩
 ·subst h1;cases B
  cases k<;>simp only[peq]at e<;>try (cases e;done)
  all_goals cases e
  ·simp only[RD]at h2;subst h2;cases h;exact⟨SeqAt.RcAt.bool_bool _ _,SeqAt.RcNeAt.bool_bool _ _⟩
  ·simp only[RD]at h2;subst h2;obtain⟨g,rfl⟩:=h;exact⟨SeqAt.RcAt.bool_int _ _ g,SeqAt.RcNeAt.bool_int _ _ g⟩
 ·subst h1;obtain⟨t,rfl⟩:=B
  cases k<;>simp only[peq]at e<;>try (cases e;done)
  all_goals cases e
  ·simp only[RD]at h2;subst h2;cases h;exact⟨SeqAt.RcAt.int_none _ t,SeqAt.RcNeAt.int_none _ t⟩
  ·simp only[RD]at h2;subst h2;cases h;exact⟨SeqAt.RcAt.int_bool _ t _,SeqAt.RcNeAt.int_bool _ t _⟩
  ·simp only[RD]at h2;subst h2;obtain⟨g,rfl⟩:=h;exact⟨SeqAt.RcAt.int_int _ t _ g,SeqAt.RcNeAt.int_int _ t _ g⟩
  ·simp only[RD]at h2;obtain⟨p,F,rfl,n,_⟩:=h2;cases h
   obtain⟨l,_,i⟩:=hW hok n;exact⟨SeqAt.RcAt.int_tuple _ t i a,SeqAt.RcNeAt.int_tuple _ t i a⟩
 ·subst h1;obtain⟨t,rfl⟩:=B
  cases k<;>simp only[peq]at e<;>try (cases e;done)
  all_goals cases e
  rename_i x y
  simp only[RD]at h2;subst h2;obtain⟨g,rfl⟩:=h;have:decide (x=y)=(toS x == toS y):=by
   by_cases z:x=y
   ·subst z;simp
   ·have : ¬toS x=toS y:=λq=>z (by have:=congrArg (λ(s:Str)=>s.cps.toList) q;simpa[toS] using this)
    simp[z,this]
  rw[this];exact⟨SeqAt.RcAt.str_str _ t _ g,SeqAt.RcNeAt.str_str _ t _ g⟩
 ·rename_i xs
  obtain⟨p,F,rfl,n,q1⟩:=h1;cases B;obtain⟨l,rv,i⟩:=hW hok n;cases k<;>simp only[peq]at e<;>try (cases e;done)
  ·cases e;simp only[RD]at h2;subst h2;cases h;exact⟨SeqAt.RcAt.tuple_none i a,SeqAt.RcNeAt.tuple_none i a⟩
  ·cases e;simp only[RD]at h2;subst h2;obtain⟨g,rfl⟩:=h;exact⟨SeqAt.RcAt.tuple_int _ g i a,SeqAt.RcNeAt.tuple_int _ g i a⟩
  ·rename_i ys
   simp only[RD]at h2;obtain⟨Q,M,rfl,E,q2⟩:=h2;cases h;obtain⟨m,o,r⟩:=hW hok E;cases c:iN xs ys with
   | none=>rw[c]at e;cases e
   | some b' =>
    rw[c]at e;simp only[X3,YR]at e;obtain⟨f,J,L⟩:=oW hok (A:=A.in1) q1 q2 rv o c (by simp only[dep]at G;show A.units + 1 + mG xs < cLine;omega);have N:=SeqAt.RcAt.tuples (s:=s) (A:=A) (e:=f) i r a (λj h1 h2=>by simpa using J j (by simpa using h1) (by simpa using h2));have O:=SeqAt.RcNeAt.tuples (s:=s) (A:=A) (e:=f) i r a (λj h1 h2=>by simpa using J j (by simpa using h1) (by simpa using h2));rw[<-e,<-L,q1.length,q2.length,rv.length,o.length,show (decide (l.length=m.length))=(l.length == m.length) from rfl];exact⟨by simpa using N,by simpa using O⟩
 ·cases k<;>simp only[peq]at e<;>cases e
 ·cases k<;>simp only[peq]at e<;>cases e
 ·simp only[peq]at e<;>cases e
end
section
variable {X:Cx}
theorem ly {hd:Hd}{d:D}{v:V}(r:RH K ρ H hd)(h:RD K ρ H d v)(e:ef hd d=some l):∃p b,v=.ref p/\SqL K H p b/\RDs K ρ H l b:=by
 cases d<;>simp only[ef]at e<;>try (cases e;done)
 ·rename_i n
  simp only[RD]at h;obtain⟨a,f,g⟩:=h;cases c:hd[n]? with
  | none=>rw[c]at e;cases e
  | some x =>
   rw[c]at e;cases x with
   | dct l=>cases e
   | dcT l=>cases e
   | lst l' =>
    cases e;obtain⟨b,q1,q2⟩:=r.cel n _ a c f;exact⟨a,b,g,SqL.of q1,q2⟩
 ·cases e
  simp only[RD]at h;obtain⟨p,b,f,g,i⟩:=h;exact⟨p,b,f,g.sq,i⟩
theorem Cj {pins:List (Addr × Obj)}{σ:St}{s:T1}{hd:Hd}{d k:D}{v w:V}{u o:T0}{b:Bool}(P:X.A.units + 24 < cLine)(I:Inv X pins σ H s)(r:RH X.K ρ H hd)(h1:RD X.K ρ H d v)(h2:RD X.K ρ H k w)
  (z:bx v u) (x:bx w o) (e:eqG hd d k=some b):SeqAt.RcAt X.A s u o b/\SeqAt.RcNeAt X.A s u o (!b):=by
 have h:X.A.units < cLine:=by omega
 simp only[eqG]at e;cases c1:ef hd d with
 | none =>
  cases c2:ef hd k with
  | some l=>rw[c1,c2]at e;cases e
  | none =>
   rw[c1,c2]at e;simp only at e;split at e
   ·rename_i hd20
    exact Hs I.hok h1 h2 z x e (by omega)
   ·cases e
 | some xs =>
  cases c2:ef hd k with
  | none=>rw[c1,c2]at e;cases e
  | some ys =>
   rw[c1,c2]at e;simp only[eqL]at e;obtain⟨p,O,rfl,G,q1⟩:=ly r h1 c1;obtain⟨B,F,rfl,C,q2⟩:=ly r h2 c2;cases z;cases x;obtain⟨c,rv,E,_⟩:=I.list G;obtain⟨a,m,q,_⟩:=I.list C;have n:s.heap.IsList p c.toArray:=E.isList;have g:s.heap.IsList B a.toArray:=q.isList;have N:xs.length=c.length:=q1.length.trans rv.length;have M:ys.length=a.length:=q2.length.trans m.length;split at e
   ·rename_i hd20
    split at e
    ·rename_i hl
     obtain⟨f,y,t⟩:=oW I.hok (A:=X.A.in1) q1 q2 rv m e (by show X.A.units + 1 + mG xs < cLine;omega);have i:c.toArray.size=a.toArray.size:=by simp;omega
     have J:=SeqAt.RcAt.lists (s:=s) (A:=X.A) (e:=f) n g i h (λj h1 h2=>by simpa using y j (by simpa using h1) (by simpa using h2));have K:=SeqAt.RcNeAt.lists (s:=s) (A:=X.A) (e:=f) n g i h (λj h1 h2=>by simpa using y j (by simpa using h1) (by simpa using h2));have L:min c.length a.length=c.length:=by omega
     rw[L]at t;rw[<-t];exact⟨by simpa using J,by simpa using K⟩
    ·rename_i hl
     cases e;have i:(c.toArray.size != a.toArray.size)=true:=by simp;omega
     exact⟨SeqAt.RcAt.lists_lengths n g i h,SeqAt.RcNeAt.lists_lengths n g i h⟩
   ·cases e
def ET (K:ZX) (f:Bool->Bool):R2:=λx y H Q=>∃ρ hd d k b,RH K ρ H hd/\RD K ρ H d x/\RD K ρ H k y/\eqG hd d k=some b/\Q (.bl (f b)) H
theorem dJ (c:X.A.units + 24 < cLine):OpR X (compareOp .Eq) (ET X.K id):=by
 intro pins s σ H x y v u Q I a f h;obtain⟨ρ,hd,d,k,b,r,h1,h2,e,q⟩:=h;exact(Cj c I r h1 h2 a f e).1 _ _ _ _ ⟨.bl b,H,I,rfl,q⟩
theorem eA (c:X.A.units + 24 < cLine):OpR X (compareOp .NotEq) (ET X.K not):=by
 intro pins s σ H x y v u Q I a f h;obtain⟨ρ,hd,d,k,b,r,h1,h2,e,q⟩:=h;exact(Cj c I r h1 h2 a f e).2 _ _ _ _ ⟨.bl (!b),H,I,rfl,q⟩
theorem fU:Og K oEq (ET K id):=by
 intro ρ H σd hd σ d k v w Q c rv a p;unfold oEq at p;cases e:eqG hd d k with
 | none=>rw[e]at p;exact p.elim
 | some b=>rw[e]at p;exact⟨ρ,hd,d,k,b,c.hp,rv,a,e,p.here c (by simp only[rD,RD];rfl)⟩
theorem gO:Og K oNe (ET K not):=by
 intro ρ H σd hd σ d k v w Q c rv a p;unfold oNe at p;cases e:eqG hd d k with
 | none=>rw[e]at p;exact p.elim
 | some b=>rw[e]at p;exact⟨ρ,hd,d,k,b,c.hp,rv,a,e,p.here c (by simp only[rD,RD])⟩
end
section
variable {K:ZX} {ρ ρ':List Addr} {H H':Hp} {hd hd':Hd} {σd:Sd} {σ:St}
theorem bX.outE {r:Res D}{k:D->Hd->Out}{En:px}(p:bX K ρ H (outE r σd k) En) :
  bM K (rD K) ρ H σd σ r (λv H'=>∃ρ' d hd',Ext ρ H ρ' H'/\RS K ρ' H' σd hd' σ/\RD K ρ' H' d v/\bX K ρ' H' (k d hd') En):=by
 cases r with
 | ok d h'=>exact λb H' ρ' ex a q=>⟨ρ',d,h',ex,a,q,bX.ext ex p⟩
 | exc x h'=>exact p
 | bad=>exact p
theorem RSt.set (r:RSt K ρ H σd σ){d:D}{v:V}(i:Nat)(h:RD K ρ H d v):RSt K ρ H (σd.set i (some d)) (σ.set i (some v)):=by
 refine⟨by simp[r.len],λj x e => ?_⟩
 by_cases hj:i=j
 ·subst hj
  by_cases hl:i < σd.length
  ·simp only[slot,List.getElem?_set_self hl]at e
   cases e;exact⟨v,by rw[List.getElem?_set_self (by rw[<-r.len];exact hl)],h⟩
  ·simp only[slot]at e
   rw[List.getElem?_eq_none (by simp;omega)]at e;cases e
 ·simp only[slot,ZP hj]at e
  rw[ZP hj];exact r.at' j x (by simpa only[slot] using e)
def JM (K:ZX) (g:GF):TG:=λv σ H Q=>∃ρ σd hd d σd',RS K ρ H σd hd σ/\RD K ρ H d v/\g d σd=some σd'/\∀σ',RS K ρ H σd' hd σ'->Q σ' H
def Ht (σ:Sd) (l:List Nat) (xs:List D):Sd:=(l.zip xs).foldl (λσ p => σ.set p.1 (some p.2)) σ
def Hu (K:ZX) (l:List Nat):TGs:=λvs σ H Q=>∃ρ σd hd ds,RS K ρ H σd hd σ/\RDs K ρ H ds vs/\ds.length=l.length/\∀σ',RS K ρ H (Ht σd l ds) hd σ'->Q σ' H
end
def MG (X:Cx) (tg:Expr) (g:GF):Prop:=PG X tg (JM X.K g)
def MGs (X:Cx) (ts:List Expr) (l:List Nat):Prop:=PGs X ts (Hu X.K l)
section
variable {X:Cx} {pos:Pos}
theorem PG.imp {tg:Expr}{t u:TG}(h:PG X tg t)(i:∀v σ H Q,u v σ H Q->t v σ H Q):PG X tg u:=λpins s σ H v w Q I r q=>h pins s σ H v w Q I r (i v σ H Q q)
theorem PGs.imp {tg:List Expr}{t u:TGs}(h:PGs X tg t)(i:∀v σ H Q,u v σ H Q->t v σ H Q):PGs X tg u:=λpins s σ H v w Q I r q=>h pins s σ H v w Q I r (i v σ H Q q)
theorem aN {i:Nat}(c:X.N.Nodup)(hi:X.N[i]? = some x)(hx:Loc X.env.scope x)(f:X.fn x=true\/X.env.scope.names.lookup x=some .local:=by first|exact .inl rfl|exact .inr rfl|assumption):MG X (.Name x pos) (gN i):=by
 refine PG.imp (EB c hi hx f) λv σ H Q ⟨ρ,σd,hd,d,a,b,rv,e,q⟩ => ?_;simp only[gN,YR]at e;subst e;exact q _ ⟨b.hp,b.st.set i rv⟩
theorem lA:MGs X [] []:=by
 refine PGs.imp EC λb σ H Q ⟨ρ,σd,hd,ds,a,rv,e,q⟩ => ?_;have:ds=[]:=by simpa using e
 subst this;simp only[RDs]at rv;exact⟨rv,q σ a⟩
theorem dA {i:Nat}{l:List Nat}(h1:MG X e (gN i))(h2:MGs X es l)
  (f:(assignEach (e :: es) X.env).map (·.2)=assign e X.env :: (assignEach es X.env).map (·.2):=by rfl):MGs X (e :: es) (i :: l):=by
 refine PGs.imp (BX h1 h2 f) λj σ H Q ⟨ρ,σd,hd,ds,h,rv,e,q⟩ => ?_;cases ds with
 | nil=>simp at e
 | cons d ds =>
  simp only[RDs]at rv;obtain⟨v,r,rfl,h1,h2⟩:=rv;refine⟨v,r,rfl,ρ,σd,hd,d,_,h,h1,rfl,λg c => ?_⟩;exact⟨ρ,_,hd,ds,c,h2,by simpa using e,λb a=>q b a⟩
theorem pJ {k:Nat}{l:List Nat}(hc:X.calm=true)(h:MGs X es l)
  (hn:(assignEach es X.env).length=l.length:=by rfl) (a:(assignEach es X.env).findIdx? (·.1)=none:=by rfl):MG X (.Tuple es k pos) (gT l):=by
 refine PG.imp (GU hc h hn a) λv σ H Q ⟨ρ,σd,hd,d,b,g,rv,e,q⟩ => ?_;cases d<;>simp only[gT]at e<;>try (cases e;done)
 rename_i xs
 split at e
 ·rename_i hl
  cases e;simp only[RD]at rv;obtain⟨p,f,rfl,c,r⟩:=rv;exact⟨p,f,rfl,SqT.of c,by rw[<-r.length];exact hl,ρ,σd,hd,xs,g,r,hl,q⟩
 ·cases e
theorem aO:MSs X [] bA:=PSs.imp Ey λEn σ H ⟨ρ,σd,hd,a,p⟩=>p σ H ρ Ext.refl a
theorem af {st:Stmt}{rest:List Stmt}{a b:SF}(h1:MS X st a)(h2:MSs X rest b):MSs X (st :: rest) (ay a b):=by
 refine PSs.imp (BV h1 h2) λEn σ H ⟨ρ,σd,hd,g,p⟩=>⟨ρ,σd,hd,g,?_⟩;unfold ay at p;cases e:a σd hd with
 | nx σ1 h1=>rw[e]at p;exact λf H' ρ' ex c=>⟨ρ',σ1,h1,c,bX.ext ex p⟩
 | rt d h1=>rw[e]at p;exact p
 | bk σ1 h1=>rw[e]at p;exact p
 | ct σ1 h1=>rw[e]at p;exact p
 | exc x σ1 h1=>rw[e]at p;exact p
 | bad=>rw[e]at p;exact p
theorem aj {st:Stmt}{a:SF}(h:MS X st a):MSs X [st] a:=Ez h
theorem vA:MS X (.Continue pos) Hl:=PS.imp vk λEn σ H ⟨ρ,σd,hd,a,p⟩=>p σ H ρ Ext.refl a
theorem fN {st:Stmt}:MS X st li:=PS.imp BW λEn σ H ⟨ρ,σd,hd,a,p⟩=>p.elim
theorem aG (h:ME X e f):MS X (.Return (some e) pos) (bj f):=by
 refine PS.imp (GP h) λEn σ H ⟨ρ,σd,hd,c,p⟩=>⟨ρ,σd,hd,c,(bX.outE p).imp λv H1 ⟨a,d,i,j,b,rv,g⟩ => ?_⟩;exact g v H1 a Ext.refl b.hp rv
theorem fX (h:ME X e f)(c:swapsWith e none pos.line X.env=pure false:=by rfl):MS X (.Expr e pos) (iP f):=by
 refine PS.imp (EA h c) λEn σ H ⟨ρ,σd,hd,g,p⟩=>⟨ρ,σd,hd,g,(bX.outE p).imp λv H1 ⟨a,d,j,k,b,rv,i⟩ => ?_⟩;exact i σ H1 a Ext.refl b
theorem bB {c:Expr}{a b:List Stmt}{t:TF}{fa f:SF}(hc:MT X c t)(ha:MSs X a fa)(hb:MSs X b f):MS X (.If c a b pos) (sIf t fa f):=by
 refine PS.imp (Jo hc ha hb) λEn σ H ⟨ρ,σd,hd,g,p⟩=>⟨ρ,σd,hd,g,?_⟩;unfold sIf at p;cases e:t σd hd with
 | ok c h1 =>
  rw[e]at p;intro b H' ρ' ex d q;cases q;cases c with
  | true=>simp only[Uz]at p ⊢;exact⟨ρ',σd,h1,d,bX.ext ex p⟩
  | false=>simp only[YA,XF]at p ⊢;exact⟨ρ',σd,h1,d,bX.ext ex p⟩
 | exc x h1=>rw[e]at p;exact p
 | bad=>rw[e]at p;exact p
theorem aF {i:Nat}{a:Pos}(h:X.N.Nodup)(hi:X.N[i]? = some x)(hx:Loc X.env.scope x)(he:ME X e f)(g:swapsWith e (some (.Name x a)) pos.line X.env=pure false:=by rfl)(l:X.fn x=true\/X.env.scope.names.lookup x=some .local:=by first|exact .inl rfl|exact .inr rfl|assumption) :
  MS X (.Assign [.Name x a] e pos) (aE (gN i) f):=by
 refine PS.imp (GV h hi hx he g l) λEn σ H ⟨ρ,σd,hd,j,p⟩=>⟨ρ,σd,hd,j,(bX.outE p).imp λv H1 ⟨c,d,m,n,b,rv,k⟩ => ?_⟩;exact k _ H1 c Ext.refl ⟨b.hp,b.st.set i rv⟩
theorem Hv {tg:Expr}{g:GF}(he:ME X e f)(m:MG X tg g)(l:swapsWithSole [tg] e pos.line X.env=pure false:=by rfl)(hw:swappedStores [tg] e X.env=pure none:=by rfl)
  (h1:(assignEach [tg] X.env).map (·.2)=[assign tg X.env]:=by rfl):MS X (.Assign [tg] e pos) (aE g f):=by
 refine PS.imp (tD he m l hw h1) λEn σ H ⟨ρ,σd,hd,n,p⟩=>⟨ρ,σd,hd,n,(bX.outE p).imp λv H1 ⟨a,d,k,o,i,rv,b⟩ => ?_⟩;cases c:g d σd with
 | none=>rw[c]at b;exact b.elim
 | some σ1=>rw[c]at b;exact⟨a,σd,k,d,σ1,i,rv,c,λh j=>b h H1 a Ext.refl j⟩
theorem Hw:Fm.ixN=L2.ixN:=rfl
theorem tN {o i:Expr}{E z D:EF}{p2:Pos}(he:ME X e D)(L:ME X o E)(hi:ME X i z)(I:swapsWithSole [.Subscript o i p2] e pos.line X.env=pure false:=by rfl)(hw:swappedStores [.Subscript o i p2] e X.env=pure none:=by rfl)
  (h1:(assignEach [.Subscript o i p2] X.env).map (·.2)=[assign (.Subscript o i p2) X.env]:=by rfl) (ha:∀v,assign (.Subscript o i p2) X.env v=(do
   let ov <-holding [v] (eval o X.env)
   let iv <-holding [v,ov] (eval i X.env)
   standAt p2
   holding [v,ov,iv] (setItem ov iv v)
   release [v,ov,iv] []):=by intro _;rfl):MS X (.Assign [.Subscript o i p2] e pos) (lm E z D):=by
 refine PS.imp (tD he (xq L hi Ca ha) I hw h1) λEn σ H ⟨ρ,σd,hd,M,p⟩=>⟨ρ,σd,hd,M,(bX.outE p).imp λv H1 ⟨t,d,u,U,q,rv,Q⟩ => ?_⟩;refine⟨t,σd,u,q,(bX.outE Q).imp λS T ⟨y,K,w,G,g,J,p2⟩ => ?_⟩;refine⟨y,σd,w,g,(bX.outE p2).imp λV F ⟨h,N,m,C,f,A,b⟩ => ?_⟩;have x:=(rv.mono (q.hp.kp G)).mono (g.hp.kp C);have r:=J.mono (g.hp.kp C);cases K with
 | ref n =>
  cases N with
  | int j =>
   simp only at b;cases c:m[n]? with
   | none=>rw[c]at b;exact b.elim
   | some cell =>
    rw[c]at b;cases cell with
    | dct l=>exact b.elim
    | dcT l=>exact b.elim
    | lst l =>
     simp only at b;cases c2:ixN l.length j with
     | none=>rw[c2]at b;exact b.elim
     | some k =>
      rw[c2]at b;simp only[RD]at r A;obtain⟨a,ha,rfl⟩:=r;obtain⟨B,P,s⟩:=f.hp.cel n _ a c ha;refine⟨a,B,j,k,rfl,A,P,by rw[<-s.length,<-Hw];exact c2,?_⟩;have O:n < m.length:=(List.getElem?_eq_some_iff.mp c).1;have R:=f.hp.write ha O (RDs.set x k s);have ex:Ext h F h (upd F a (.lst (B.set k v))):=Ext.write (ZK ha);exact b σ _ h ex (f.ext ex R)
  | _=>exact b.elim
 | _=>exact b.elim
end
section
variable (K:ZX)
structure qP (ρ0:List Addr) (H0:Hp) (J:It) (l:List D) (g:Option Nat):Prop where
 go:∀ρ H hd (i:Nat) d,Ext ρ0 H0 ρ H->RH K ρ H hd->iz g l hd->l[i]? = some d->J.go i H/\∀x H',J.yld i H x H'->ju H H'/\RD K ρ H' d x
 stop:∀ρ H hd,Ext ρ0 H0 ρ H->RH K ρ H hd->iz g l hd->J.stop l.length H
 sz:l.length<=sizeLine
def JN (ρ:List Addr) (H:Hp) (σd:Sd) (σ:St) (r:Res (List D × Option Nat)) (R:It->Hp->Prop):Prop:=match r with
 | .ok p hd'=>∀J H' ρ',Ext ρ H ρ' H'->RS K ρ' H' σd hd' σ->qP K ρ' H' J p.1 p.2->R J H'
 | _=>False
def JO (f:IF):TI:=λσ H R=>∃ρ σd hd,RS K ρ H σd hd σ/\JN K ρ H σd σ (f σd hd) R
end
def MI (X:Cx) (tg e:Expr) (f:IF):Prop:=PI X tg e (JO X.K f)
section
variable {X:Cx} {pos:Pos} {tg:Expr}
theorem PI.imp {t u:TI}(h:PI X tg e t)(i:∀σ H R,u σ H R->t σ H R):PI X tg e u:=λpins s σ H R I q=>h pins s σ H R I (i σ H R q)
theorem d8 {t:Expr}{z:List Stmt}{f:IF}{g:GF}{b:SF}(hp:PassesOwn (model X.prog X.w) X.A X.env X.xe)(hc:X.calm=true)(hi:MI X tg t f)(W:MG X tg g)(hb:MSs X z b)
  (R:∀x,foldedSetIterable t X.env x=pure x:=by intro _;rfl):MS X (.For tg t z [] pos) (eu f g b):=by
 refine PS.imp (GX hp hc hi W hb R) λEn σ H ⟨ρ,σd,hd,Y,p⟩=>⟨ρ,σd,hd,Y,?_⟩;unfold eu at p;cases e:f σd hd with
 | exc x h'=>rw[e]at p;exact p
 | bad=>rw[e]at p;exact p
 | ok q hd1 =>
  rw[e]at p;obtain⟨l,I⟩:=q;intro J H1 A O M K;simp only at p K;refine⟨λi m C H'=>∃ρ' k hd',Ext A H1 ρ' H'/\RS X.K ρ' H' k hd' C/\i<=l.length/\m=l.length - i/\bX X.K ρ' H' (eO I l g b (l.drop i) k hd') En,
   ⟨l.length,A,σd,hd1,Ext.refl,M,YG _,by simp,by simpa using bX.ext O p⟩,?_⟩
  rintro i m C H' ⟨ρ',k,hd',ex,w,a0,rfl,a⟩
  by_cases F:i < l.length
  ·have N:l[i]? = some l[i]:=by simp[F]
   rw[YT F]at a;unfold eO at a
   by_cases hh:iz I l hd'
   ·rw[yD hh]at a
    obtain⟨go,Q⟩:=K.go ρ' H' hd' i _ ex w.hp hh N;refine .inr ⟨go,λD B=>∃s h u,Ext A H1 s B/\RS X.K s B h u D/\bX X.K s B (eO I l g b (l.drop (i + 1)) h u) En,
     λD B ⟨s,h,u,U,S,V⟩=>⟨l.length - (i + 1),by omega,s,h,u,U,S,F,rfl,V⟩,λx B y => ?_⟩
    obtain⟨P,T⟩:=Q x B y;cases c:g l[i] k with
    | none=>rw[c]at a;exact a.elim
    | some h =>
     rw[c]at a;simp only at a;refine⟨ρ',k,hd',l[i],h,w.same P,T,c,λD L=>⟨ρ',h,hd',L,?_⟩⟩;have r:Ext ρ' H' ρ' B:=Ext.same P;cases c2:b h hd' with
     | nx σ3 h3=>rw[c2]at a;exact λE G n j o=>⟨n,σ3,h3,ex.trans (r.trans j),o,bX.ext (r.trans j) a⟩
     | ct σ3 h3=>rw[c2]at a;exact λE G n j o=>⟨n,σ3,h3,ex.trans (r.trans j),o,bX.ext (r.trans j) a⟩
     | bk σ3 h3=>rw[c2]at a;exact λE G n j o=>a E G n (r.trans j) o
     | rt d h3=>rw[c2]at a;exact λv G n j o rv=>a v G n (r.trans j) o rv
     | exc x σ3 h3=>rw[c2]at a;exact a
     | bad=>rw[c2]at a;exact a
   ·rw[x3 hh]at a;exact a.elim
  ·have Z:i=l.length:=by omega
   subst Z;rw[List.drop_length]at a;unfold eO at a
   by_cases hh:iz I l hd'
   ·rw[yD hh]at a
    exact .inl ⟨K.stop ρ' H' hd' ex w.hp hh,a C H' ρ' Ext.refl w⟩
   ·rw[x3 hh]at a;exact a.elim
theorem vB {c:Expr}{l:List Stmt}{t:TF}{b:SF}(hp:PassesOwn (model X.prog X.w) X.A X.env X.xe)(hc:MT X c t)(hb:MSs X l b):MS X (.While c l [] pos) (mH t b):=by
 refine PS.imp (BY hp hc hb) λEn σ H ⟨ρ,σd,hd,D,p⟩ => ?_;unfold mH at p;refine⟨λm o H'=>∃ρ' a hd',RS X.K ρ' H' a hd' o/\bX X.K ρ' H' (cY t b m a hd') En,⟨kx t b σd hd,ρ,σd,hd,D,p⟩,?_⟩;rintro m o H' ⟨ρ',a,hd',A,f⟩;cases m with
 | zero=>exact f.elim
 | succ m =>
  unfold cY at f;refine⟨ρ',a,hd',A,?_⟩;cases e:t a hd' with
  | exc x h1=>rw[e]at f;exact f
  | bad=>rw[e]at f;exact f
  | ok c h1 =>
   rw[e]at f;intro E C z k w q;cases q;cases c with
   | false=>simp only[YA,XF]at f ⊢;exact f o C z k w
   | true =>
    simp only[Uz]at f ⊢;refine⟨λg B=>∃y n s,RS X.K y B n s g/\bX X.K y B (cY t b m n s) En,λg B q=>⟨m,Z4 _,q⟩,z,a,h1,w,?_⟩;cases c2:b a h1 with
    | nx g h3=>rw[c2]at f;exact λr u h i j=>⟨h,g,h3,j,bX.ext (k.trans i) f⟩
    | ct g h3=>rw[c2]at f;exact λr u h i j=>⟨h,g,h3,j,bX.ext (k.trans i) f⟩
    | bk g h3=>rw[c2]at f;exact λr u h i j=>f r u h (k.trans i) j
    | rt d h3=>rw[c2]at f;exact λv u h i j rv=>f v u h (k.trans i) j rv
    | exc x g h3=>rw[c2]at f;exact f
    | bad=>rw[c2]at f;exact f
theorem Ck {hd:Hd}{q:Addr}(r:RH K ρ H hd)(hq:H q=some (.tup vs))(rv:RDs K ρ H l vs)(hz:vs.length<=sizeLine):qP K ρ H (Itt K q) l none where
 go:=λρ' H' hd' i d ex e _ hi=>by
  have k:=r.kp ex;obtain⟨v,b,c⟩:=(rv.mono k).get hi;have a:SqT K H' q vs:=SqT.of (k.tup q vs hq);refine⟨⟨vs,v,a,b⟩,λx f y => ?_⟩;obtain⟨rfl,y⟩:=y;have:=y vs a;rw[b]at this;cases this;exact⟨ju.refl _,c⟩
 stop:=λρ' H' hd' ex e _=>⟨vs,SqT.of ((r.kp ex).tup q vs hq),by rw[rv.length];exact ZL _⟩
 sz:=by rw[rv.length];exact hz
theorem Cl {hd:Hd}{q:Addr}(r:RH K ρ H hd)(hq:n5 K H q vs)(rv:RDs K ρ H l vs)(hz:vs.length<=sizeLine):qP K ρ H (Itl K q) l none where
 go:=λρ' H' hd' i d ex e _ hi=>by
  have k:=r.kp ex;obtain⟨v,b,c⟩:=(rv.mono k).get hi;have a:SqL K H' q vs:=(hq.mono k).sq;refine⟨⟨vs,v,a,b⟩,λx f y => ?_⟩;obtain⟨rfl,y⟩:=y;have:=y vs a;rw[b]at this;cases this;exact⟨ju.refl _,c⟩
 stop:=λρ' H' hd' ex e _=>⟨vs,(hq.mono (r.kp ex)).sq,by rw[rv.length];exact ZL _⟩
 sz:=by rw[rv.length];exact hz
theorem Cm {n:Nat}{q:Addr}(hq : ρ[n]? = some q)(hz:l.length<=sizeLine):qP K ρ H (Itl K q) l (some n) where
 sz:=hz
 go:=λρ' H' hd' i d ex c b hi=>by
  obtain⟨a,e,rv⟩:=c.cel n _ q b (ex.get hq);obtain⟨v,g,h⟩:=rv.get hi;have f:SqL K H' q a:=SqL.of e;refine⟨⟨a,v,f,g⟩,λx j y => ?_⟩;obtain⟨rfl,y⟩:=y;have:=y a f;rw[g]at this;cases this;exact⟨ju.refl _,h⟩
 stop:=λρ' H' hd' ex c b=>by
  obtain⟨a,e,rv⟩:=c.cel n _ q b (ex.get hq);exact⟨a,SqL.of e,by rw[rv.length];exact ZL _⟩
theorem Hx {l:Expr}{tl:TE}(k:PE X l tl):PI X tg l (λσ H R=>tl σ H λx H1=>(∃a xs,x=.ref a/\SqL X.K H1 a xs/\(xs.length<=sizeLine->R (Itl X.K a) H1))\/∃a xs,x=.ref a/\SqT X.K H1 a xs/\(xs.length<=sizeLine->R (Itt X.K a) H1)):=by
 intro pins s σ H R I h;refine thn (k pins s σ H _ I h) λv c ⟨x,H1,d,j,q1⟩ => ?_;rcases q1 with ⟨a,xs,e,hq,q⟩|⟨a,xs,e,hq,q⟩
 ·subst e
  cases j;obtain⟨f,rv,p,i⟩:=d.list hq;refine wpAny_pyIter_list p.isList ?_;refine⟨c.heap.objs.size,[c.heap.objs.size],_,_,H1,rfl,d.kept (t':=c.toks) λb o e=>ZH _ e,AB a _,⟨_,ZJ _ rfl,rfl,rfl⟩,λb g => ?_,q i⟩;have e:b=c.heap.objs.size:=by simpa using g
  subst e;exact d.fpOk (ZL _) (d.hok.fresh (ZL _))
 ·subst e
  cases j;obtain⟨f,rv,p,i⟩:=d.tuple hq;refine VO (show c.heap.IsTuple a f.toArray from p) ?_;refine⟨c.heap.objs.size,[c.heap.objs.size],_,_,H1,rfl,d.kept (t':=c.toks) λb o e=>ZH _ e,xt a _,⟨_,ZJ _ rfl,rfl,rfl⟩,λb g => ?_,q i⟩;have e:b=c.heap.objs.size:=by simpa using g
  subst e;exact d.fpOk (ZL _) (d.hok.fresh (ZL _))
theorem d9 (h:ME X e f):MI X tg e (eM f):=by
 refine PI.imp (Hx h) λσ H R ⟨ρ,σd,hd,s,p⟩=>⟨ρ,σd,hd,s,?_⟩;unfold eM at p;cases e:f σd hd with
 | exc x h1=>rw[e]at p;exact p
 | bad=>rw[e]at p;exact p
 | ok d hd1 =>
  rw[e]at p;simp only[aP]at p;intro v H1 i j b rv;cases d<;>try exact p.elim
  ·rename_i l
   simp only[rD,RD]at rv;obtain⟨q,k,rfl,m,g⟩:=rv;exact .inr ⟨q,k,rfl,SqT.of m,λo=>p _ H1 i j b (Ck b.hp m g o)⟩
  ·rename_i n
   simp only[rD,RD]at rv;obtain⟨a,r,rfl⟩:=rv;cases c:hd1[n]? with
   | none=>simp only[c]at p;exact p.elim
   | some cell =>
    cases cell with
    | dct l=>simp only[c]at p;exact p.elim
    | dcT l=>simp only[c]at p;exact p.elim
    | lst l =>
     simp only[c]at p;obtain⟨k,t,g⟩:=b.hp.cel n _ a c r;exact .inl ⟨a,k,rfl,SqL.of t,λo=>p _ H1 i j b (Cm r (by rw[g.length];exact o))⟩
  ·rename_i l
   simp only[rD,RD]at rv;obtain⟨q,k,rfl,m,g⟩:=rv;exact .inl ⟨q,k,rfl,m.sq,λo=>p _ H1 i j b (Cl b.hp m g o)⟩
theorem xE (lo:Int)(n:Nat)(hz:n<=2000000):qP K ρ H (Itr lo n) ((List.range n).map λk:Nat=>.int (lo + k)) none where
 go:=λρ' H' hd' i d ex b _ hi=>by
  have a:i < n:=by
   have:=(List.getElem?_eq_some_iff.mp hi).1;simpa using this
  refine⟨a,λx c y => ?_⟩;obtain⟨rfl,rfl⟩:=y;have e:d=.int (lo + i):=by simpa[a] using hi.symm
  subst e;exact⟨ju.refl _,by simp only[RD]⟩
 stop:=λρ' H' hd' ex b _=>by
  show n<=_;simp
 sz:=by
  have:(2000000:Nat)<=sizeLine:=by rw[YF];decide
  simp;omega
theorem bP {a:Expr}   (j:Gl X "range") (hm:X.mg "range" = none) (ha:ME X a f) (i:starEach [a] X.env=[(false,eval a X.env)]:=by rfl):MI X tg (.Call (.Name "range" p) [a] [] pos) (br f):=by
 refine PI.imp (AC j hm (cF ha d6 i) i) λσ H R ⟨ρ,σd,hd,k,b⟩=>⟨ρ,σd,hd,k,?_⟩;unfold br at b;cases e:f σd hd with
 | exc x h1=>rw[e]at b;exact b
 | bad=>rw[e]at b;exact b
 | ok d hd1 =>
  rw[e]at b;simp only[aP]at b;intro v H1 c h g rv;cases d<;>try exact b.elim
  rename_i n
  simp only at b;simp only[rD,RD]at rv;subst rv;split at b
  ·rename_i hb
   refine⟨n,rfl,by omega,by omega,b _ H1 c h g ?_⟩;have:=xE (K:=X.K) (ρ := c) (H:=H1) 0 n.toNat (by omega);simpa using this
  ·exact b.elim
end
end Fm
namespace Fm
section
open Classical
def dQ (G:Hd->Prop) (tg:GF) (cs:List TF) (e:EF):List D->Sd->Hd->Res (List D)
 | [],_,h=>if G h then .ok [] h else .bad
 | x :: xs,σ,h=>if G h then match tg x σ with
   | some σ=>(gu cs σ h).bind λb h=>if b then (e σ h).bind λd h=>(dQ G tg cs e xs σ h).bind λds h=>.ok (d :: ds) h
    else dQ G tg cs e xs σ h
   | none=>.bad
  else .bad
end
theorem tO {g:Option Nat}{all:List D}{tg:GF}{cs:List TF}{e:EF}:∀(xs:List D) (σ:Sd) (h:Hd),bT g all tg cs e xs σ h=dQ (iz g all) tg cs e xs σ h
 | [],_,h=>by unfold bT dQ;rfl
 | x :: xs,σ,h=>by
  unfold bT dQ
  by_cases hh:iz g all h
  ·rw[yD hh,yD hh]
   cases tg x σ with
   | none=>rfl
   | some σ'=>simp only[tO xs]
  ·rw[x3 hh,x3 hh]
end Fm
namespace Fm
open PySem PySem.Spec L2
section
variable {prog:T3} {w:T4} {A:T2} {R:Result->T1->Prop} {s:T1}
theorem tP {q b o:Expr}{p:List Expr}{scope:Scope}{pos:Pos}{it acc:T0}{env:Env}{E:T0->T1->Prop}(D:∀e s,¬E e s)(I:Nat->T1->Prop)
  (turn:∀n s,I n s->wpAny (model prog w) A (pyNext it) (λr d => match r with
   | none=>R (.ok .next) d
   | some v=>wpAny (model prog w) A (letOwnedTupleGo b it v) (λ_ d => wpAny (model prog w) A (assign b env v) (λ_ j =>
     wpAny (model prog w) A (forIn p true λc r=>if r=true then do let ok <-isTrue c env (eval c env);pure (ForInStep.yield ok) else pure (ForInStep.yield r)) (λok g =>
      if ok=true then wpAny (model prog w) A (eval q env) (λx i =>
       wpAny (model prog w) A (call (.builtin "list.append") [acc,x]) (λ_ k => ∃m,m < n/\I m k) E i) E g
      else ∃m,m < n/\I m g) E j) E d) E d) E s)
  (n:Nat) (h:I n s) :
  codeAny (model prog w) A (.compLoop (.ListComp q [⟨b,o,p,0⟩] scope pos) 0 it acc env) R s:=by
 refine codeAny_loop rfl I (λn s H => ?_) n h;show wpAny _ A ((compTurn (.ListComp q [⟨b,o,p,0⟩] scope pos) 0 it acc env).onRaise (λx=>do noteFrame x env;theTreesLotGoes x)) _ _ s;refine wpAny_noted ?_;rw[compTurn_list];have no:∀{α : Type} {t:Sem α} {Q C : α->T1->Prop} {G:T0->T1->Prop} {s:T1},wpAny (model prog w) A t Q E s->(∀a s,Q a s->C a s)->wpAny (model prog w) A t C G s:=λh F=>WB h F λe s z=>(D e s z).elim;refine z0 (wpAny_standAt (z0 (no (turn n s H) λr d f => ?_)));cases r with
 | none=>exact y3 f
 | some v =>
  refine z0 (no f λ_ d f => ?_);refine z0 (no f λ_ j y => z0 (no y λok g l => ?_));cases ok with
  | false=>exact y3 ⟨rfl,l⟩
  | true =>
   exact z0 (z0 (no l λx i u => z0 (no u λ_ k B => y3 (y3 ⟨rfl,B⟩))))
end
theorem kI {env:Env}:∀(l:List (Str × NameKind)) (g:List (Str × Addr)),(∀y∈l,y.2=.free->∃c,env.cells.lookup y.1=some c)->
  ∃i,(forIn l g λ(x:Str × NameKind) (r:List (Str × Addr))=>if (x.2 == .free)=true then do let a <-cellOf env x.1;pure (ForInStep.yield ((x.1,a) :: r)) else pure (ForInStep.yield r))=(pure i:Sem _)/\
   (∀x c,i.lookup x=some c->g.lookup x=some c\/env.cells.lookup x=some c)/\(∀y∈l,y.2=.free->∃c,i.lookup y.1=some c)/\∀x c,g.lookup x=some c->∃o,i.lookup x=some o
 | [],g,_=>⟨g,by simp,λx c h=>.inl h,λy b=>by simp at b,λx c h=>⟨c,h⟩⟩
 | (n,k) :: l,g,hf=>by
  by_cases hk:k=.free
  ·subst hk
   obtain⟨c,hc⟩:=hf (n,.free) (by simp) rfl;obtain⟨i,h1,h2,m,j⟩:=kI l ((n,c) :: g) λy b=>hf y (by simp[b]);refine⟨i,?_,λx d h => ?_,λy b f => ?_,λx d h => ?_⟩
   ·rw[List.forIn_cons]
    simp only[beq_self_eq_true,Uz,cellOf,hc];exact h1
   ·rcases h2 x d h with q|q
    ·rw[YD]at q
     cases e:x == n with
     | true =>
      rw[e]at q;have:x=n:=by simpa using e
      subst this;cases q;exact .inr hc
     | false=>rw[e]at q;exact .inl q
    ·exact .inr q
   ·rcases VI.mp b with e|e
    ·subst e
     exact j n c (by simp[YD])
    ·exact m y e f
   ·by_cases e:x=n
    ·subst e
     exact j x c (by simp[YD])
    ·exact j x d (by rw[YD,beq_eq_false_iff_ne.mpr e];exact h)
  ·obtain⟨i,h1,h2,m,j⟩:=kI l g λy b=>hf y (by simp[b])
   refine⟨i,?_,h2,λy b f => ?_,j⟩
   ·rw[List.forIn_cons]
    have:(k == NameKind.free)=false:=by simpa using hk
    simp only[this,YA,XF];exact h1
   ·rcases VI.mp b with e|e
    ·subst e;exact absurd f hk
    ·exact m y e f
theorem kJ {scope:Scope}{env:Env}(d:∀y∈scope.names,y.2=.free->∃c,env.cells.lookup y.1=some c) :
  ∃b,closureFor scope env=pure b/\(∀x c,b.lookup x=some c->env.cells.lookup x=some c)/\∀y∈scope.names,y.2=.free->∃c,b.lookup y.1=some c:=by
 obtain⟨b,h1,h2,f,_⟩:=kI scope.names [] d;refine⟨b,?_,λx c h=>(h2 x c h).elim (λz=>by simp at z) id,f⟩;unfold closureFor;have e:(forIn scope.names ([] : List (Str × Addr)) λ(x:Str × NameKind) (r:List (Str × Addr))=>if (x.2 == .free)=true then do let a <-cellOf env x.1;pure (ForInStep.yield ((x.1,a) :: r)) else pure (ForInStep.yield r))=(pure b:Sem _):=h1;exact(congrArg (λt:Sem (List (Str × Addr))=>t >>= λr=>pure r) e).trans rfl
def cxC (X:Cx) (N:List Str) (scope:Scope) (cl:List (Str × Addr)) (C:Addr) (s:T1) (H:Hp) (ex:List Addr):Cx where
 prog:=X.prog
 w:=X.w
 K:=X.K
 mg:=X.mg
 base:=X.base
 A:=X.A
 N:=N
 s₀ := s
 H₀ := H
 env:=compEnvC scope cl C X.env
 outer:=X.stack
 stack:=X.stack
 ex:=ex
 fn:=λ_=>false
 calm:=X.calm
 pn:=[]
 xe:=λ_ _=>False
def MTs (X:Cx) (ifs:List Expr) (cs:List TF):Prop :=
 ∀(pins:List (Addr × Obj)) (s:T1) (σ:St) (H:Hp) (Q:Bool->Hp->Prop),Inv X pins σ H s->jC X.K rB (gu cs) σ H Q->
  wpAny (model X.prog X.w) X.A (forIn ifs true λc r=>if r=true then do let ok <-isTrue c X.env (eval c X.env);pure (ForInStep.yield ok) else pure (ForInStep.yield r)) (TP X pins σ Q) X.xe s
theorem cO {X:Cx}:MTs X [] []:=λpins s σ H Q I ⟨ρ,σd,hd,a,p⟩=>wpAny_tests_nil ⟨H,I,p.here a rfl⟩
theorem ke {X:Cx}{c:Expr}{t:TF}(h:MT X c t):MTs X [c] [t]:=λpins s σ H Q I ⟨ρ,σd,hd,a,p⟩=>wpAny_tests_one (h pins s σ H Q I ⟨ρ,σd,hd,a,by
 have e:gu [t] σd hd=t σd hd:=by
  simp only[gu];cases c:t σd hd with
  | ok b h'=>cases b<;>simp
  | exc x h'=>rfl
  | bad=>rfl
 rw[e]at p;exact p⟩)
theorem jF {env:Env}{x:Str}:∀{a:List (Str × NameKind)} {k:NameKind},(a.map λ(n,k)=>if (k == NameKind.free && env.scope.kind == .function && env.kindOf n == some .cell) then (n,NameKind.cell) else (n,k)).lookup x=some k->
  ∃c,a.lookup x=some c/\(k=c\/(c=.free/\k=.cell))
 | [],_,h=>by simp at h
 | (n,k') :: r,k,h=>by
  have d := @jF env x r k;have b:List.lookup x ((if (k' == NameKind.free && env.scope.kind == .function && env.kindOf n == some .cell)=true then (n,NameKind.cell) else (n,k')) :: _)=some k:=h;cases hx:x == n with
  | true =>
   refine⟨k',by simp[YD,hx],?_⟩
   by_cases hc:(k' == NameKind.free && env.scope.kind == .function && env.kindOf n == some .cell)=true
   ·rw[yD hc]at b
    simp only[YD,hx,YR]at b;simp only[Z7,beq_iff_eq]at hc;exact .inr ⟨hc.1.1,b.symm⟩
   ·rw[x3 hc]at b
    simp only[YD,hx,YR]at b;exact .inl b.symm
  | false =>
   have:List.lookup x ((n,k') :: r)=List.lookup x r:=by simp[YD,hx]
   rw[this];refine d ?_
   by_cases hc:(k' == NameKind.free && env.scope.kind == .function && env.kindOf n == some .cell)=true
   ·rw[yD hc]at b;simpa only[YD,hx] using b
   ·rw[x3 hc]at b;simpa only[YD,hx] using b
theorem gy {x:Str}{k:NameKind}:∀{l:List (Str × NameKind)},l.lookup x=some k->(x,k)∈l
 | [],h=>by simp at h
 | (n,k') :: r,h=>by
  rw[YD]at h;cases e:x == n with
  | true =>
   rw[e]at h;have:x=n:=by simpa using e
   subst this;cases h;exact ZV
  | false=>rw[e]at h;exact ZW _ (gy h)
structure bC (X:Cx) (scope:Scope) (own capn:List Str) (caps:List Nat):Prop where
 kind:scope.kind=.function
 cell:∀y∈scope.names,y.2 ≠ .cell
 names:∀y∈scope.names,y.2=.local->scope.names.lookup y.1=some .local
 free:∀y∈scope.names,y.2=.free->X.env.kindOf y.1=some .cell\/X.env.kindOf y.1=some .free
 cap:∀(j:Nat) x,capn[j]? = some x->∃i,caps[j]? = some i/\X.N[i]? = some x/\scope.names.lookup x=some .free
 len:capn.length=caps.length
section
variable {X:Cx} {pins:List (Addr × Obj)} {σ:St} {H1:Hp} {s2:T1} {scope:Scope} {own capn:List Str} {caps:List Nat} {cl:List (Str × Addr)} {C:Addr} {ex:List Addr}
def stC (own:List Str) (caps:List Nat) (σ:St):St:=List.replicate own.length none++caps.map λi=>(σ[i]?).join
theorem Hy (I:Inv X pins σ H1 s2)(S:bC X scope own capn caps)(t:s2.heap.objs.size<=C)(a:∀x c,cl.lookup x=some c->X.env.cells.lookup x=some c)(f:∀y∈scope.names,y.2=.free->∃c,cl.lookup y.1=some c)
  (m:∀b∈ex,qJ X pins H1 b) (p:∀b∈ex,b < s2.heap.objs.size):(cxC X (own++capn) scope cl C s2 H1 ex).Ok where
 mod:=I.ok.mod
 kind:=S.kind
 glob:=I.ok.glob
 blt:=I.ok.blt
 above:=t
 inj:=λx y c h1 h2=>I.ok.inj x y c (a x c h1) (a y c h2)
 has:=λx A=>by
  have g:∀k,(relabel scope X.env).names.lookup x=some k->k=.cell\/k=.free->∃c,cl.lookup x=some c:=λk h v=>by
   obtain⟨B,h0,q⟩:=jF h;have u:=gy h0;have:B=.free:=by
    rcases q with q|q
    ·subst q
     rcases v with e|e
     ·exact absurd e (S.cell _ u)
     ·exact e
    ·exact q.1
   exact f _ u this
  rcases A with h|h
  ·exact g _ h (.inl rfl)
  ·exact g _ h (.inr rfl)
 cab:=λx c h=>by cases h
 hd:=I.ok.hd
 frames:=I.ok.frames
 stk:=.inl rfl
 exf:=λb d=>by
  obtain⟨s,j,i,l,n,r⟩:=m b d;exact⟨λz=>absurd (ZZ (p b d) t) (by rw[z];exact Z9 _),λx c e=>n x c (a x c e)⟩
 bs:=I.bs
 bsz:=ZM I.ok.bsz I.sz
 noex:=λb o e d=>by
  obtain⟨s,j,i,l,n,r⟩:=m b d;rcases l with z|z
  ·exact I.ok.noex b o e z
  ·exact absurd (ZZ (ZI (I.ok.bs b o e).1) z) (Z9 _)
 exfs:=λb d w=>by
  obtain⟨s,j,i,l,n,r⟩:=m b d;rcases VI.mp (I.stkSub b w) with z|z
  ·exact j z
  ·exact i z
 funs:=I.stack
 frf:=I.stkFree
theorem lB {env:Env}{x:Str}:∀{a:List (Str × NameKind)},a.lookup x=some .free->
  (a.map λ(n,k)=>if (k == NameKind.free && env.scope.kind == .function && env.kindOf n == some .cell) then (n,NameKind.cell) else (n,k)).lookup x=some .cell\/
  (a.map λ(n,k)=>if (k == NameKind.free && env.scope.kind == .function && env.kindOf n == some .cell) then (n,NameKind.cell) else (n,k)).lookup x=some .free
 | [],h=>by simp at h
 | (n,k') :: r,h=>by
  have b := @lB env x r;show List.lookup x ((if (k' == NameKind.free && env.scope.kind == .function && env.kindOf n == some .cell)=true then (n,NameKind.cell) else (n,k')) :: _)=_\/List.lookup x ((if (k' == NameKind.free && env.scope.kind == .function && env.kindOf n == some .cell)=true then (n,NameKind.cell) else (n,k')) :: _)=_;cases hx:x == n with
  | true =>
   simp only[YD,hx,YR]at h;subst h
   by_cases hc:(NameKind.free == NameKind.free && env.scope.kind == .function && env.kindOf n == some .cell)=true
   ·rw[yD hc];exact .inl (by simp only[YD,hx])
   ·rw[x3 hc];exact .inr (by simp only[YD,hx])
  | false =>
   simp only[YD,hx]at h
   by_cases hc:(k' == NameKind.free && env.scope.kind == .function && env.kindOf n == some .cell)=true
   ·rw[yD hc];simp only[YD,hx];exact b h
   ·rw[x3 hc];simp only[YD,hx];exact b h
theorem EU {i:Nat}{v:V}(h:(stC own caps σ)[i]? = some (some v)):∃j k,i=own.length + j/\caps[j]? = some k/\σ[k]? = some (some v):=by
 unfold stC at h
 by_cases hi:i < own.length
 ·rw[ZC (by simpa using hi)]at h
  simp[hi]at h
 ·rw[ZD (by simpa using WU hi)]at h
  simp only[XY,ZQ]at h;cases c:caps[i - own.length]? with
  | none=>rw[c]at h;cases h
  | some k =>
   rw[c]at h;simp only[X3,YR]at h;refine⟨i - own.length,k,by omega,c,?_⟩;cases e : σ[k]? with
   | none=>rw[e]at h;cases h
   | some o=>rw[e]at h;simp only[Option.join_some]at h;rw[h]
theorem AL (I:Inv X pins σ H1 s2)(S:bC X scope own capn caps)(q:s2.heap.objs.size < C)(a:∀x c,cl.lookup x=some c->X.env.cells.lookup x=some c)(d:∀y∈scope.names,y.2=.free->∃c,cl.lookup y.1=some c)
  (H:∀b∈ex,qJ X pins H1 b) (s:∀b∈ex,b < s2.heap.objs.size) {h1:Heap} {m:Str->Option T0} {tk:Nat} (hn:h1.Ns C m) (h:∀b o,s2.heap.get? b=some o->h1.get? b=some o)
  (F:h1.get? s2.heap.objs.size=some { cls:=.type "list",data:=.seq #[] }) :
  Inv (cxC X (own++capn) scope cl C s2 H1 ex) [] (stC own caps σ) (upd H1 s2.heap.objs.size (.lst [])) { s2 with heap:=h1,toks:=tk } where
 ok:=Hy I S (Y6 q) a d H s
 os:=rfl
 bare:=I.bare
 base:=Un.laid h (ZL _) (I.hok.fresh (ZL _))
 loc:=by
  refine⟨m,hn,λi x v D A N => ?_⟩;obtain⟨j,k,rfl,E,n⟩:=EU A;have l:capn[j]? = some x:=by
   have:(own++capn)[own.length + j]? = some x:=D;rw[ZD (by omega)]at this;simpa using this
  obtain⟨L,q1,q2,q3⟩:=S.cap j x l;rw[E]at q1;cases q1;have t:=gy q3;have kd:=S.free _ t rfl;obtain⟨M,J,w⟩:=I.loc;obtain⟨u,r,G⟩:=w k x v q2 n (.inr kd);refine⟨u,r,.inr ⟨lB q3,?_⟩⟩;rcases G with ⟨z,_⟩|⟨_,c,hc,o,f,hd⟩
  ·rcases kd with e|e<;>(rw[z]at e;cases e)
  ·obtain⟨K,g⟩:=d _ t rfl
   have:=a _ _ g;rw[hc]at this;cases this;exact⟨c,g,o,h c o f,hd⟩
 cell:=λx c e=>by
  obtain⟨v,o,f,hd⟩:=I.cell x c (a x c e);exact⟨v,o,h c o f,hd⟩
 free:=by
  show upd H1 _ _ C=none;rw[aB (Z6 q)];exact I.hok.fresh (Y6 q)
 freeC:=λx c e=>by
  obtain⟨v,o,f,hd⟩:=I.cell x c (a x c e);rw[aB (ZN (ZI f))];exact I.freeC x c (a x c e)
 pin:=λp B=>absurd (show p∈([] : List (Addr × Obj)) from B) (by simp)
 hok:=I.hok.laid h (ZL _) ⟨YG _,[],0,.nil,F⟩
 len:=by
  show (stC own caps σ).length=(own++capn).length;simp[stC,S.len]
end
theorem RS.other {K:ZX}{ρ:List Addr}{H:Hp}{σd:Sd}{hd:Hd}{σ:St}{d:Addr}{ys zs:List V}(r:RS K ρ H σd hd σ)(h:H d=some (.lst ys))(n:d ∉ ρ):RS K ρ (upd H d (.lst zs)) σd hd σ/\Kp ρ H ρ (upd H d (.lst zs)):=by
 have k:Kp ρ H ρ (upd H d (.lst zs)):=⟨λ_ _ h=>h,λa f e=>by
  rw[aB (λz=>by rw[z,h]at e;cases e)];exact e,λa o u e=>by
  rw[aB (λz=>by rw[z,h]at e;cases e)];exact e,λa b e=>by
  rw[aB (λz=>by rw[z,h]at e;cases e)];exact e⟩
 refine⟨⟨⟨r.hp.len,r.hp.nd,λm c a h1 h2=>(r.hp.cel m c a h1 h2).mono k (aB λz=>n (by rw[<-z];exact ZK h2))⟩,r.st.mono k⟩,k⟩
theorem Ext.other {ρ ρ':List Addr}{H H':Hp}{d:Addr}{o:HO}(e:Ext ρ H ρ' H')(h:H d=none):Ext ρ H ρ' (upd H' d o) :=
 ⟨e.pre,e.new,λp u a n=>by rw[aB (bu a h)];exact e.frame p u a n⟩
theorem vC {a:Nat}{caps:List Nat}{σd:Sd}{i:Nat}{d:D}(h:slot (gw a caps σd) i=some d):∃j k,i=a + j/\caps[j]? = some k/\slot σd k=some d:=by
 unfold gw at h;simp only[slot]at h
 by_cases hi:i < a
 ·rw[ZC (by simpa using hi)]at h
  simp[hi]at h
 ·rw[ZD (by simpa using WU hi)]at h
  simp only[XY,ZQ]at h;cases c:caps[i - a]? with
  | none=>rw[c]at h;cases h
  | some k =>
   rw[c]at h;simp only[X3]at h;refine⟨i - a,k,by omega,c,?_⟩;simp only[slot]
   revert h
   cases e : σd[k]? with
   | none=>simp
   | some o=>cases o<;>simp
structure vD (K:ZX) (ρ0:List Addr) (H0:Hp) (J:It) (l:List D) (G:Hd->Prop):Prop where
 go:∀ρ H hd (i:Nat) d,Ext ρ0 H0 ρ H->RH K ρ H hd->G hd->l[i]? = some d->J.go i H/\∀x H',J.yld i H x H'->ju H H'/\RD K ρ H' d x
 stop:∀ρ H hd,Ext ρ0 H0 ρ H->RH K ρ H hd->G hd->J.stop l.length H
 sz:l.length<=sizeLine
theorem qP.g {K:ZX}{ρ:List Addr}{H:Hp}{J:It}{l:List D}{g:Option Nat}(w:qP K ρ H J l g):vD K ρ H J l (iz g l):=⟨w.go,w.stop,w.sz⟩
structure CD where
 i:Nat
 ys:List V
 acc:List D
 rest:List D
 ρ:List Addr
 σd:Sd
 hd:Hd
 H:Hp
 σ:St
structure CI (X:Cx) (own capn:List Str) (scope:Scope) (cl:List (Str × Addr)) (s2:T1) (C:Addr) (H1:Hp) (ρ1:List Addr) (fp:List Addr) (tn:Nat->Heap->Prop) (G:Hd->Prop) (g:GF) (cs:List TF) (e:EF) (l:List D) (hdF:Hd) (ds:List D) (d:CD) (s':T1):Prop where
 le:d.i<=l.length
 inv:Inv (cxC X (own++capn) scope cl C s2 H1 fp) [] d.σ d.H s'
 st:tn d.i s'.heap
 fr:∀b∈fp,d.H b=none
 at':d.H s2.heap.objs.size=some (.lst d.ys)
 out:s2.heap.objs.size∉d.ρ
 yl:d.ys.length<=d.i
 ex:Ext ρ1 H1 d.ρ d.H
 rs:RS X.K d.ρ d.H d.σd d.hd d.σ
 ac:RDs X.K d.ρ d.H d.acc d.ys
 run:dQ G g cs e (l.drop d.i) d.σd d.hd=.ok d.rest hdF
 eq:d.acc++d.rest=ds
section
variable {X:Cx} {pins:List (Addr × Obj)} {σ:St} {H1:Hp} {s2:T1} {scope:Scope} {own capn:List Str} {caps:List Nat} {cl:List (Str × Addr)}
theorem xF {a:List Addr}{σd:Sd}{b:Hd}(S:bC X scope own capn caps)(r:RS X.K a H1 σd b σ){d:Addr}(hd:H1 d=none):RS X.K a (upd H1 d (.lst [])) (gw own.length caps σd) b (stC own caps σ):=by
 have c:=bW (o:=HO.lst []) hd;refine⟨r.hp.same c,⟨by simp[stC,gw],λi x e => ?_⟩⟩;obtain⟨j,k,rfl,f,g⟩:=vC e;obtain⟨v,h1,h2⟩:=r.st.at' k x g;refine⟨v,?_,h2.mono (Kp.same c)⟩;unfold stC;rw[ZD (by simp)];simp[f,h1]
theorem mK {b2 tg a7:Expr}{b9:List Expr}{pos:Pos}{it:Addr}{fp:List Addr}{tn:Nat->Heap->Prop}{J:It}{l:List D}{G:Hd->Prop}{g:GF}{cs:List TF}{e:EF}{F:List Addr}{σd:Sd}{c1 a1:Hd}{ds:List D}{E:T0->T1->Prop}{RR:T0->Addr->Result->T1->Prop}
  (hc:X.calm=true) (S:bC X scope own capn caps) (f7:∀cl C s H ex,MG (cxC X (own++capn) scope cl C s H ex) tg g/\MTs (cxC X (own++capn) scope cl C s H ex) b9 cs/\ME (cxC X (own++capn) scope cl C s H ex) b2 e)
  (I1:Inv X pins σ H1 s2) (T:xr X.prog X.w X.K tg J fp it tn) (d4:tn 0 s2.heap) (hf:∀b∈fp,qJ X pins H1 b) (c5:RS X.K F H1 σd c1 σ) (wk:vD X.K F H1 J l G)
  (b0:∀x c,cl.lookup x=some c->X.env.cells.lookup x=some c) (c8:∀y∈scope.names,y.2=.free->∃c,cl.lookup y.1=some c)
  (run:dQ G g cs e l (gw own.length caps σd) c1=.ok ds a1)
  (e6:∀C s' m H' ρ' vs,s2.heap.objs.size < C->s'.heap.Ns C m->Inv X pins σ H' s'->H' C=none->Ext F H1 ρ' H'->RH X.K ρ' H' a1->H1 s2.heap.objs.size=none->H' s2.heap.objs.size=some (.lst vs)->s2.heap.objs.size ∉ ρ'->RDs X.K ρ' H' ds vs->
   RR (.ref s2.heap.objs.size) C (.ok .next) s') :
  wpAny (model X.prog X.w) X.A (newList []) (λA w => wpAny (model X.prog X.w) X.A (newFunctionEnv scope X.env.globals cl [] X.env.qual none .none (some X.env)) (λa3 d3 =>
   codeAny (model X.prog X.w) X.A (.compStart (.ListComp b2 [⟨tg,a7,b9,0⟩] scope pos) 0 (.ref it) A { a3 with scope:=relabel scope X.env }) (RR A a3.locals) d3) E w) E s2:=by
 refine YJ (wpAny_newFunctionEnv S.cell (by intro y hy;simp at hy) (λL j f => ?_) S.kind);dsimp only at j f ⊢;generalize hH2:s2.heap.push { cls:=.type "list",dict:=none,data:=.seq ([] : List T0).toArray } = H2 at j f ⊢;have hC:H2.objs.size=s2.heap.objs.size + 1:=by rw[<-hH2,YQ]
 have e3:s2.heap.objs.size≠H2.objs.size:=by rw[hC];exact ZN (Z4 _)
 have c7:∀b o,s2.heap.get? b=some o->L.get? b=some o:=λb o e=>f.extBut b o (by rw[hC];exact ZN (v4 (ZI e))) (ZH _ (hH2 ▸ ZH _ e));have c9:L.get? s2.heap.objs.size=some { cls:=.type "list",data:=.seq #[] }:=f.extBut _ _ e3 (ZH _ (hH2 ▸ ZJ _ rfl));have b6:∀b∈fp,b < s2.heap.objs.size:=λb t=>by
  obtain⟨o,ho,_⟩:=T.obj 0 _ d4 b t;exact ZI ho
 have c6:s2.heap.objs.size < H2.objs.size:=by rw[hC];exact Z4 _
 have U:H1 s2.heap.objs.size=none:=I1.hok.fresh (ZL _);have d6:tn 0 L := T.keep 0 _ _ d4 λb t o e=>c7 b o e;have e7:s2.heap.objs.size ∉ F:=c5.hp.free U;obtain⟨hG,hT,hE⟩:=f7 cl H2.objs.size s2 H1 fp;have I':=AL (tk:=s2.toks + ([] : List (Str × T0)).length) I1 S c6 b0 c8 hf b6 j c7 c9;have b7:∀{pins':List (Addr × Obj)} {H':Hp},(∀b∈fp,H' b=none)->∀b∈fp,qJ (cxC X (own++capn) scope cl H2.objs.size s2 H1 fp) [] H' b:=λ{pins' H'} hn b t=>by
  obtain⟨f0,f1,f2,f3,f4,f5⟩:=hf b t;have lt:=b6 b t;refine⟨hn b t,λz=>absurd lt (by rw[show b=H2.objs.size from z,hC];exact Nat.not_lt.mpr (VT _)),λz => ?_,.inl t,λx c e=>f4 x c (b0 x c e),λp hp=>absurd (show p∈([] : List (Addr × Obj)) from hp) (by simp)⟩;rcases VI.mp (I1.stkSub b z) with q|q
  ·exact f1 q
  ·exact f2 q
 have a5:∀w : T1,w = { s2 with heap:=L,toks:=s2.toks + ([] : List (Str × T0)).length }->
   codeAny (model X.prog X.w) X.A (.compLoop (.ListComp b2 [⟨tg,a7,b9,0⟩] scope pos) 0 (.ref it) (.ref s2.heap.objs.size) (compEnvC scope cl H2.objs.size X.env)) (RR (.ref s2.heap.objs.size) H2.objs.size) w := by
  rintro w rfl;refine tP (E:=λ_ _=>False) (λ_ _ z=>z) (λn s'=>∃d:CD,n=l.length - d.i/\CI X own capn scope cl s2 H2.objs.size H1 F fp tn G g cs e l a1 ds d s') ?_ l.length
   ⟨⟨0,[],[],ds,F,_,c1,_,_⟩,by simp,YG _,I',d6,λb t => ?_,aY,e7,ZL _,Ext.same (bW U),xF S c5 U,RDs.nil,by simpa using run,rfl⟩
  ·rintro n s' ⟨⟨i,ys,A,rest,ρ',K,hd',H',Y⟩,rfl,O⟩
   have g1:i<=l.length:=O.le;have I':Inv (cxC X (own++capn) scope cl H2.objs.size s2 H1 fp) [] Y H' s':=O.inv;have d0:tn i s'.heap:=O.st;have d1:∀b∈fp,H' b=none:=O.fr;have a2:H' s2.heap.objs.size=some (.lst ys):=O.at';have c0:s2.heap.objs.size ∉ ρ':=O.out;have d5:ys.length<=i:=O.yl;have ex:Ext F H1 ρ' H':=O.ex;have Q:RS X.K ρ' H' K hd' Y:=O.rs;have b1:RDs X.K ρ' H' A ys:=O.ac;have a:dQ G g cs e (l.drop i) K hd'=.ok rest a1:=O.run;have a0:A++rest=ds:=O.eq
   by_cases hlt':i < l.length
   ·have e1:l[i]? = some l[i]:=by simp[hlt']
    rw[YT hlt']at a;unfold dQ at a
    by_cases hh:G hd'
    ·rw[yD hh]at a
     obtain⟨go,yl⟩:=wk.go ρ' H' hd' i _ ex Q.hp hh e1;cases c:g l[i] K with
     | none=>rw[c]at a;cases a
     | some σd2 =>
      rw[c]at a;simp only at a;refine thn (T.item (cxC X (own++capn) scope cl H2.objs.size s2 H1 fp) rfl rfl rfl hc i [] s' Y H' (λ_ _=>False) I' (b7 (pins':=[]) d1) d0 go) λr a4 ⟨u,hr,h4⟩ => ?_;subst hr;refine thn h4 λ_ s5 ⟨x,H5,I5,r5,y5,b3,d7⟩ => ?_;obtain⟨sm,rx⟩:=yl x H5 y5;have d9:=I5.pinned (b7 (pins':=[]) d7) (T.obj _ _ b3);have e4:=Q.same sm;have g0:=sm _ _ a2;refine thn (hG _ s5 Y H5 x u (λh H6=>H6=H5/\RS X.K ρ' H5 σd2 hd' h) d9 r5 ⟨ρ',K,hd',l[i],σd2,e4,rx,c,λh b8=>⟨rfl,b8⟩⟩) λ_ s6 ⟨h,H6,I6,f6,b8⟩ => ?_;subst f6;cases c2:gu cs σd2 hd' with
      | exc z h7=>rw[c2]at a;cases a
      | bad=>rw[c2]at a;cases a
      | ok b hd7 =>
       rw[c2]at a;simp only[aP]at a;refine thn (hT _ s6 h H6 (λb' H7=>b'=b/\∃k,Ext ρ' H6 k H7/\RS X.K k H7 σd2 hd7 h) I6 ⟨ρ',σd2,hd',b8,by
        rw[c2];exact λb' H7 k b4 W q=>⟨q.symm,k,b4,W⟩⟩) λb' s7 ⟨H7,I7,e8,k,b4,W⟩ => ?_
       subst e8;have a6:∀{d2:St} {N:Hp} {s8:T1},Inv (cxC X (own++capn) scope cl H2.objs.size s2 H1 fp) ([]++pz fp s5.heap) d2 N s8->tn (i + 1) s8.heap/\∀b∈fp,N b=none:=λ{d2 N s8} I8 =>
        ⟨T.keep _ _ _ b3 λb t o e=>(I8.pin (b,o) (Z5 _ (Z5 _ (iM t e)))).1,λb t=>by
         obtain⟨o,e,d⟩:=T.obj _ _ b3 b t;exact(I8.pin (b,o) (Z5 _ (Z5 _ (iM t e)))).2.1⟩
       have P:Ext ρ' H' k H7:=(Ext.same sm).trans b4;have Z:H7 s2.heap.objs.size=some (.lst ys):=P.frame _ _ a2 c0;have V:=P.out a2 c0;have R:=b1.mono (Q.hp.kp P);cases b' with
       | false =>
        simp only[YA,XF]at a ⊢;obtain⟨e9,f8⟩:=a6 I7;exact⟨l.length - (i + 1),by omega,⟨i + 1,ys,A,rest,k,σd2,hd7,H7,h⟩,rfl,hlt',I7.unpinned,e9,f8,Z,V,WK d5,ex.trans P,W,R,a,a0⟩
       | true =>
        simp only[Uz]at a ⊢;cases c3:e σd2 hd7 with
        | exc z h7=>rw[c3]at a;cases a
        | bad=>rw[c3]at a;cases a
        | ok d hd8 =>
         rw[c3]at a;simp only[aP]at a;cases c4:dQ G g cs e (l.drop (i + 1)) σd2 hd8 with
         | exc z h7=>rw[c4]at a;cases a
         | bad=>rw[c4]at a;cases a
         | ok rest' hd9 =>
          rw[c4]at a;simp only[aP,Res.ok.injEq]at a;obtain⟨B,hF⟩:=a;subst B hF;refine thn (hE _ s7 h H7 (λv N=>∃I,Ext k H7 I N/\RS X.K I N σd2 hd8 h/\RD X.K I N d v) I7 ⟨k,σd2,hd7,W,by
           rw[c3];exact λv N I M b5 q=>⟨I,M,b5,q⟩⟩) λu8 s8 ⟨v8,N,I8,r8,I,M,b5,d8⟩ => ?_
          have a9:N s2.heap.objs.size=some (.lst ys):=M.frame _ _ Z V;have a8:=M.out Z V;refine thn (rV _ s8 h N (.ref s2.heap.objs.size) [v8] (.ref s2.heap.objs.size) [u8] (λ_ H9=>H9=upd N s2.heap.objs.size (.lst (ys++[v8]))) I8 rfl (.cons r8 .nil) ⟨_,ys,v8,rfl,rfl,a9,by have:=wk.sz;omega,rfl⟩) λu9 s9 ⟨v9,H9,I9,r9,q9⟩ => ?_;subst q9;obtain⟨e5,f9⟩:=a6 I9;obtain⟨e2,k9⟩:=b5.other (zs:=ys++[v8]) a9 a8;exact⟨l.length - (i + 1),by omega,⟨i + 1,ys++[v8],A++[d],rest',I,σd2,hd8,_,h⟩,rfl,hlt',I9.unpinned,e5,f9,aY,a8,by simp;exact d5,(ex.trans (P.trans M)).other U,e2,
           ((R.mono (W.hp.kp M)).mono k9).append (RDs.cons (d8.mono k9) RDs.nil),c4,by rw[<-a0];simp⟩
    ·rw[x3 hh]at a;cases a
   ·have e0:i=l.length:=by omega
    subst e0;rw[List.drop_length]at a;unfold dQ at a
    by_cases hh:G hd'
    ·rw[yD hh]at a
     simp only[Res.ok.injEq]at a;obtain⟨B,hF⟩:=a;subst B hF;rw[Y3]at a0;subst a0;refine thn (T.done (cxC X (own++capn) scope cl H2.objs.size s2 H1 fp) rfl rfl rfl hc _ [] s' Y H' (λ_ _=>False) I' (b7 (pins':=[]) d1) d0 (wk.stop ρ' H' hd' ex Q.hp hh)) λr a4 ⟨hr,I4⟩ => ?_;subst hr;obtain⟨m,hm,_⟩:=I4.loc;refine e6 H2.objs.size a4 m H' ρ' ys c6 hm ?_ I4.free ex Q.hp U a2 c0 b1;exact I1.call' I4.os I4.base I4.hok I4.bare λb t=>by
      obtain⟨f0,f1,f2,f3,f4,f5⟩:=hf b t;exact⟨f3,f1,f4,f5⟩
    ·rw[x3 hh]at a;cases a
  ·show upd H1 _ _ b=none
   rw[aB (ZN (b6 b t))];exact(hf b t).1
 exact codeAny_compStart_list (a5 _ rfl) (T.self _ 0 _ _ _ d6 (a5 _ rfl))
end
section
variable {X:Cx} {pos:Pos} {scope:Scope} {own capn:List Str} {caps:List Nat}
theorem dD {t tg a:Expr}{u:List Expr}{f:IF}{g:GF}{cs:List TF}{e:EF}(hc:X.calm=true)(S:bC X scope own capn caps)(hi:MI X tg a f)
  (G:∀w C s H ex,MG (cxC X (own++capn) scope w C s H ex) tg g/\MTs (cxC X (own++capn) scope w C s H ex) u cs/\ME (cxC X (own++capn) scope w C s H ex) t e)
  (R:∀x,foldedSetIterable a X.env x=pure x:=by intro _;rfl):MF X (.ListComp t [⟨tg,a,u,0⟩] scope pos) (bO own.length caps f g cs e):=by
 intro pins s σ H Q I ⟨ρ,σd,hd,rs,p⟩;rw[eval_ListComp];unfold bO at p;cases c:f σd hd with
 | exc z h7=>rw[c]at p;exact p.elim
 | bad=>rw[c]at p;exact p.elim
 | ok q hd1 =>
  obtain⟨l,O⟩:=q;rw[c]at p;simp only[aP]at p;obtain⟨w,h1,i,k⟩:=kJ (scope:=scope) (env:=X.env) λy Z K=>I.ok.has y.1 (S.free y Z K);refine VE (use:=none) rfl R h1 S.kind S.names (thn (hi pins s σ H (λJ H1=>∃d,Ext ρ H d H1/\RS X.K d H1 σd hd1 σ/\qP X.K d H1 J l O) I ⟨ρ,σd,hd,rs,by
   rw[c];exact λJ H' ρ' ex M E=>⟨ρ',ex,M,E⟩⟩) λv s1 h1=>thn h1 λa0 Y h2 => ?_)
  obtain⟨it,fp,tn,J,H1,rfl,r,T,D,hf,d,h,n,E⟩:=h2;cases c2:bT O l g cs e l (gw own.length caps σd) hd1 with
  | exc z h7=>rw[c2]at p;exact p.elim
  | bad=>rw[c2]at p;exact p.elim
  | ok ds hdF =>
   rw[c2]at p;refine mK (RR:=λN C=>compPost (model X.prog X.w) X.A X.xe none (EP X pins σ Q) N C) hc S G r T D hf n E.g i k ((tO _ _ _).symm.trans c2) λC P m H' ρ' V A hn U F ex rh j hD L B => ?_;refine⟨m,hn,λh' sb=>⟨.ref Y.heap.objs.size,H',?_,rfl,?_⟩⟩
   ·refine U.turned (it:=C) (t':=P.toks) (λb o hb e=>(sb.2 b hb).trans e) F ?_ (.inr (Y6 (ZS r.sz A))) (λx c e z => ?_) λq hq z => ?_
    ·exact Z6 (Z1 r.lt A)
    ·obtain⟨v,o,W,hd⟩:=r.cell x c e
     exact absurd (Z1 (ZI W) A) (by rw[z];exact Z9 _)
    ·exact absurd (Z1 (ZI (r.pin q hq).1) A) (by rw[z];exact Z9 _)
   ·exact p _ V H' ρ' (h.trans ex) (rs.ext (h.trans ex) rh) (h.fresh j (n.hp.free j)) hD L B
theorem iQ {i:Nat}{x:Str}{j:Pos}{w tg h:Expr}{A:List Expr}{f:IF}{g:GF}{cs:List TF}{e:EF}{n:Pos}(hN:X.N.Nodup)(W:X.N[i]? = some x)(hx:Loc X.env.scope x)(hc:X.calm=true)(S:bC X scope own capn caps)(hi:MI X tg h f)
  (b3:∀U C s H ex,MG (cxC X (own++capn) scope U C s H ex) tg g/\MTs (cxC X (own++capn) scope U C s H ex) A cs/\ME (cxC X (own++capn) scope U C s H ex) w e)
  (b1:swapsWith (.ListComp w [⟨tg,h,A,0⟩] scope n) (some (.Name x j)) pos.line X.env=pure true:=by rfl)
  (hs:∀x,foldedSetIterable h X.env x=pure x:=by intro _;rfl) (Z:X.fn x=true\/X.env.scope.names.lookup x=some .local:=by first|exact .inl rfl|exact .inr rfl|assumption) :
  MS X (.Assign [.Name x j] (.ListComp w [⟨tg,h,A,0⟩] scope n) pos) (aE (gN i) (aT (bO own.length caps f g cs e))):=by
 intro pins s σ H En I ⟨ρ,σd,hd,rs,p⟩;rw[exec_Assign_Name_used _ _ _ _ b1];refine z0 (wpAny_standAt ?_);show wpAny _ _ ((comprehension _ scope X.env _ (newList []) _ _ _ >>= λ_=>pure ()) >>= λ_=>pure Flow.next) _ _ _;have d:=bX.outE (σ := σ) p;unfold aT bO at d;cases c:f σd hd with
 | exc z h7=>rw[c]at d;exact d.elim
 | bad=>rw[c]at d;exact d.elim
 | ok q hd1 =>
  obtain⟨l,gd⟩:=q;rw[c]at d;simp only[aP]at d;obtain⟨U,h1,M,L⟩:=kJ (scope:=scope) (env:=X.env) λy hy a9=>I.ok.has y.1 (S.free y hy a9);refine z0 (z0 (VE (Q:=λ_ R=>wpAny (model X.prog X.w) X.A (pure ()) (λ_ R=>wpAny (model X.prog X.w) X.A (pure Flow.next) (SP X pins En) X.xe R) X.xe R) (use:=some (assign (.Name x j) X.env)) rfl hs h1 S.kind S.names (thn (hi pins s σ H (λJ H1=>∃k,Ext ρ H k H1/\RS X.K k H1 σd hd1 σ/\qP X.K k H1 J l gd) I ⟨ρ,σd,hd,rs,by
   rw[c];exact λJ H' ρ' ex a1 Y=>⟨ρ',ex,a1,Y⟩⟩) λv s1 h1=>thn h1 λb6 r h2 => ?_)))
  obtain⟨it,fp,tn,J,H1,rfl,D,T,b2,hf,k,P,B,Y⟩:=h2;cases c2:bT gd l g cs e l (gw own.length caps σd) hd1 with
  | exc z h7=>rw[c2]at d;exact d.elim
  | bad=>rw[c2]at d;exact d.elim
  | ok ds hdF =>
   rw[c2]at d;simp only[aP]at d
   by_cases hz:ds.length<=SZ
   ·rw[yD hz]at d
    refine mK (RR:=λa2 C=>compPost (model X.prog X.w) X.A X.xe (some (assign (.Name x j) X.env)) _ a2 C) hc S b3 D T b2 hf B Y.g M L ((tO _ _ _).symm.trans c2) λC R m H' ρ' vs V hn I' a7 ex rh K hD b4 a4 => ?_;refine wpAny_assign_Name (rM I' hN W hx (v:=.ref r.heap.objs.size) rfl (λN a6 a0 => ?_) Z);have E:C≠X.env.locals:=Z6 (Z1 D.lt V);have O:∀y c,X.env.cells.lookup y=some c->c≠C:=λy c e z=>by
     obtain⟨v,o,ho,hd⟩:=D.cell y c e;exact absurd (Z1 (ZI ho) V) (by rw[z];exact Z9 _)
    refine⟨m,?_,λh' sb=>y3 (y3 ?_)⟩
    ·obtain⟨a,sa,ha⟩:=a0
     refine hn.sameBut sa ?_;rcases ha with z|z
     ·rw[z];exact E
     ·exact XO (O _ _ z)
    ·have I3:Inv X pins (σ.set i (some (.ref r.heap.objs.size))) H' { N with heap:=h' }:=a6.turned (it:=C) (t':=N.toks) (λb o hb e=>(sb.2 b hb).trans e) a7 E (.inr (Y6 (ZS D.sz V))) O λq hq z =>
      absurd (Z1 (ZI (D.pin q hq).1) V) (by rw[z];exact Z9 _)
     have u:Ext ρ H ρ' H':=P.trans ex;have a8:=rh.alloc hD b4 a4;have a5:H r.heap.objs.size=none:=P.fresh K (B.hp.free K);have F:Ext ρ H (ρ'++[r.heap.objs.size]) H':=⟨by obtain⟨t,rfl⟩:=u.pre;exact⟨t++[r.heap.objs.size],by simp⟩,λa ha=>by
      rcases List.mem_append.mp ha with z|z
      ·exact u.new a z
      ·simp at z;subst z;exact .inr a5,u.frame⟩
     obtain⟨b0,d2,b5,e2,G,a3,pn⟩:=d (.ref r.heap.objs.size) H' (ρ'++[r.heap.objs.size]) F (rs.ext F a8) (by
      simp only[rD,RD];refine⟨r.heap.objs.size,?_,rfl⟩;rw[<-rh.len];simp)
     exact⟨_,H',I3,pn _ H' b0 Ext.refl ⟨G.hp,G.st.set i a3⟩⟩
   ·rw[x3 hz]at d;exact d.elim
end
end Fm
namespace Fm
open PySem PySem.Spec L2 PyProof.Rows
mutual
def rfs (k:Nat):D->Prop
 | .ref n=>n < k
 | .tup l=>gH k l
 | .lit l=>gH k l
 | .exn _ l=>gH k l
 | _=>True
def gH (k:Nat):List D->Prop
 | []=>True
 | x :: xs=>rfs k x/\gH k xs
end
section
variable {K:ZX} {ρ ρ' t:List Addr} {H H':Hp} {hd hd':Hd}
mutual
theorem RD.rfs:∀{d:D} {v:V},RD K ρ H d v->Fm.rfs ρ.length d
 | .non,_,_=>by simp only[Fm.rfs]
 | .bl _,_,_=>by simp only[Fm.rfs]
 | .int _,_,_=>by simp only[Fm.rfs]
 | .str _,_,_=>by simp only[Fm.rfs]
 | .tup l,_,h=>by
  simp only[RD]at h;obtain⟨p,b,_,_,h2⟩:=h;simp only[Fm.rfs];exact RDs.rfs h2
 | .lit l,_,h=>by
  simp only[RD]at h;obtain⟨p,b,_,_,h2⟩:=h;simp only[Fm.rfs];exact RDs.rfs h2
 | .ref n,_,h=>by
  simp only[RD]at h;obtain⟨a,h1,_⟩:=h;simp only[Fm.rfs];exact(List.getElem?_eq_some_iff.mp h1).1
 | .exn _ _,_,h=>by simp only[RD]at h;obtain⟨rfl,_⟩:=h;simp only[Fm.rfs,Fm.gH]
theorem RDs.rfs:∀{l:List D} {a:List V},RDs K ρ H l a->Fm.gH ρ.length l
 | [],_,_=>by simp only[Fm.gH]
 | d :: ds,_,h=>by
  simp only[RDs]at h;obtain⟨v,r,_,h1,h2⟩:=h;simp only[Fm.gH];exact⟨RD.rfs h1,RDs.rfs h2⟩
end
mutual
theorem RD.cut:∀{d:D} {v:V},RD K (ρ ++ t) H d v->Fm.rfs ρ.length d->RD K ρ H d v
 | .non,_,h,_=>by simp only[RD]at h ⊢;exact h
 | .bl _,_,h,_=>by simp only[RD]at h ⊢;exact h
 | .int _,_,h,_=>by simp only[RD]at h ⊢;exact h
 | .str _,_,h,_=>by simp only[RD]at h ⊢;exact h
 | .tup l,_,h,q=>by
  simp only[RD]at h ⊢;simp only[Fm.rfs]at q;obtain⟨p,b,e,h1,h2⟩:=h;exact⟨p,b,e,h1,RDs.cut h2 q⟩
 | .lit l,_,h,q=>by
  simp only[RD]at h ⊢;simp only[Fm.rfs]at q;obtain⟨p,b,e,h1,h2⟩:=h;exact⟨p,b,e,h1,RDs.cut h2 q⟩
 | .ref n,_,h,q=>by
  simp only[RD]at h ⊢;simp only[Fm.rfs]at q;obtain⟨a,h1,h2⟩:=h;exact⟨a,by rwa[ZC q]at h1,h2⟩
 | .exn _ _,_,h,_=>by simp only[RD]at h ⊢;exact h
theorem RDs.cut:∀{l:List D} {a:List V},RDs K (ρ ++ t) H l a->Fm.gH ρ.length l->RDs K ρ H l a
 | [],_,h,_=>by simp only[RDs]at h ⊢;exact h
 | d :: ds,_,h,q=>by
  simp only[RDs]at h ⊢;simp only[Fm.gH]at q;obtain⟨v,r,e,h1,h2⟩:=h;exact⟨v,r,e,RD.cut h1 q.1,RDs.cut h2 q.2⟩
end
mutual
theorem lC {k:Nat}:∀{d:D},pure? d=true->Fm.rfs k d
 | .non,_=>by simp only[Fm.rfs]
 | .bl _,_=>by simp only[Fm.rfs]
 | .int _,_=>by simp only[Fm.rfs]
 | .str _,_=>by simp only[Fm.rfs]
 | .tup l,h=>by simp only[pure?]at h;simp only[Fm.rfs];exact iB h
 | .lit l,h=>by simp only[pure?]at h;simp only[Fm.rfs];exact iB h
 | .exn _ l,h=>by simp only[pure?]at h;simp only[Fm.rfs];exact iB h
 | .ref _,h=>by simp only[pure?]at h;cases h
theorem iB {k:Nat}:∀{l:List D},ev l=true->Fm.gH k l
 | [],_=>by simp only[Fm.gH]
 | x :: xs,h=>by
  simp only[ev,Z7]at h;simp only[Fm.gH];exact⟨lC h.1,iB h.2⟩
end
def Cn (k:Nat):bE->Prop
 | .lst l=>Fm.gH k l
 | .dct l=>Fm.gH k (l.map (·.2))
 | .dcT l=>Fm.gH k (l.map (·.2))
theorem RC.rfs {c:bE}{a:Addr}(h:RC K ρ H c a):Cn ρ.length c:=by
 cases c with
 | lst l=>obtain⟨b,_,h2⟩:=h;exact h2.rfs
 | dct l=>obtain⟨b,_,_,h2⟩:=h;exact h2.rfs
 | dcT l=>obtain⟨b,_,_,h2⟩:=h;exact h2.rfs
theorem RC.cut {c:bE}{a:Addr}(h:RC K (ρ ++ t) H c a)(q:Cn ρ.length c):RC K ρ H c a:=by
 cases c with
 | lst l=>obtain⟨b,h1,h2⟩:=h;exact⟨b,h1,h2.cut q⟩
 | dct l=>obtain⟨b,h1,h2,d⟩:=h;exact⟨b,h1,h2,d.cut q⟩
 | dcT l=>obtain⟨b,h1,h2,d⟩:=h;exact⟨b,h1,h2,d.cut q⟩
theorem tQ {k:Nat}{c:bE}(h:pG c=true):Cn k c:=by
 cases c with
 | lst l=>exact iB h
 | dcT l =>
  have:∀l:List (List Int × D),(l.all λp=>pure? p.2)=true->Fm.gH k (l.map (·.2)):=by
   intro l
   induction l with
   | nil=>intro _;simp only[VW,Fm.gH]
   | cons x l ih=>intro h;simp only[WO,Z7]at h;simp only[x8,Fm.gH];exact⟨lC h.1,ih h.2⟩
  exact this l h
 | dct l =>
  have:∀l:List (Int × D),(l.all λp=>pure? p.2)=true->Fm.gH k (l.map (·.2)):=by
   intro l
   induction l with
   | nil=>intro _;simp only[VW,Fm.gH]
   | cons x l ih=>intro h;simp only[WO,Z7]at h;simp only[x8,Fm.gH];exact⟨lC h.1,ih h.2⟩
  exact this l h
theorem RH.back (r:RH K ρ H hd)(d:RH K (ρ ++ t) H' hd')(o:zC hd hd'):RH K ρ H' (hd'.take hd.length):=by
 have e:(ρ ++ t).length=hd'.length:=d.len;refine⟨by rw[X9,<-e,ZB,<-r.len];omega,(WJ.mp d.nd).1,λn c a h1 h2 => ?_⟩;have b:n < hd.length:=by rw[<-r.len];exact(List.getElem?_eq_some_iff.mp h2).1
 rw[List.getElem?_take_of_lt b]at h1;have q:=d.cel n c a h1 (by rw[ZC (by rw[r.len];exact b)];exact h2);refine q.cut ?_;rcases o n c b h1 with z|z
 ·exact(r.cel n c a z h2).rfs
 ·exact tQ z
def pK (K:ZX) (ρ:List Addr) (H:Hp) (r:Res D) (Q:VK):Prop:=match r with
 | .ok d hd'=>∀v H' ρ',Ext ρ H ρ' H'->RH K ρ' H' hd'->RD K ρ' H' d v->Q v H'
 | _=>False
def spF (K:ZX) (F:Fn) (np:Nat):Sp:=λvs H Q _=>∃ρ hd ds,RH K ρ H hd/\RDs K ρ H ds vs/\ds.length=np/\pK K ρ H (F ds hd) Q
theorem Ext.short (e:Ext ρ H (ρ ++ t) H'):Ext ρ H ρ H':=⟨⟨[],by simp⟩,λ_ h=>.inl h,e.frame⟩
theorem pK.letGo {r:Res D}{Q:VK}(c:RH K ρ H hd)(p:pK K ρ H (letGo hd r) Q):pK K ρ H r Q:=by
 cases r with
 | exc x h'=>exact p
 | bad=>exact p
 | ok d h' =>
  intro v H' ρ' ex a b;simp only[Fm.letGo]at p;split at p
  ·rename_i hc
   obtain⟨t,rfl⟩:=ex.pre;exact p v H' ρ ex.short (c.back a hc.2) (b.cut (lC hc.1))
  ·exact p v H' ρ' ex a b
theorem pK.runB {n:Nat}{b:SF}{ds:List D}{Q:VK}(p:pK K ρ H (runB n b ds hd) Q):bX K ρ H (b (ds.map some++List.replicate (n - ds.length) none) hd) { nx:=λ_ H'=>Q .non H',rt:=Q }:=by
 unfold Fm.runB at p;cases e:b (ds.map some++List.replicate (n - ds.length) none) hd with
 | nx σ h'=>rw[e]at p;exact λc H' ρ' ex a=>p .non H' ρ' ex a.hp (by simp only[RD])
 | rt d h'=>rw[e]at p;exact p
 | bk σ h'=>rw[e]at p;exact p.elim
 | ct σ h'=>rw[e]at p;exact p.elim
 | exc x σ h'=>rw[e]at p;exact p.elim
 | bad=>rw[e]at p;exact p.elim
theorem AM {N:List Str}{ds:List D}{vs:List V}(r:RDs K ρ H ds vs):RSt K ρ H (ds.map some++List.replicate (N.length - ds.length) none) (L2.jz N vs):=by
 have a:=r.length;refine⟨by simp[L2.jz,a],λi d e => ?_⟩;simp only[slot]at e
 by_cases hi:i < ds.length
 ·rw[ZC (by simpa using hi)]at e
  simp only[ZQ,ZE hi,X3]at e;cases e;obtain⟨v,b,q⟩:=r.get (i:=i) (d:=ds[i]) (by simp[hi]);refine⟨v,?_,q⟩;unfold L2.jz;rw[ZC (by simp;omega)];simp[b]
 ·rw[ZD (by simpa using WU hi)]at e
  simp only[List.getElem?_replicate]at e
  by_cases hq:i - (List.map some ds).length < N.length - ds.length
  ·simp only[hq,Uz]at e;cases e
  ·simp only[hq,XF]at e;cases e
end
structure Def (P:T3) (w:T4) (K:ZX) (mg:Str->Option T0) (base:Heap) (x:Str) (k np:Nat) (F:Fn):Prop where
 ex:∃f fd ps,mg x=some (.ref f)/\PySem.W.keepIn K (.ref f)=true/\pB K fd ps []/\bN P w K mg base CX0 k f fd ps (spF K F np)
section
variable {P:T3} {w:T4} {K:ZX} {mg:Str->Option T0} {base:Heap}
theorem bH {x:Str}{st:Stmt}{f:Addr}{fd:FuncData}{N ps:List Str}{k:Nat}{b:SF}(F:Fun K x x st f fd)(S:aI N ps (av st))
  (c:∀(a:T0) (A:T2) (outer:List Env) (s:T1) (H:Hp) (E:XK),ip k (A.deeper (envOfC x (av st) s.heap.objs.size f a))->MSs (xx CX0 P w K mg base N x (av st) f a A outer s H E).nox (du st) b) :
  bN P w K mg base CX0 (k + 1) f fd ps (spF K (bJ ps.length N.length b) ps.length):=by
 refine F.ok S (λh H Q E ⟨ρ,hd,ds,g,e,d,p⟩=>by rw[<-e.length];exact d) λa A outer s H h Q E i ⟨ρ,hd,ds,g,e,d,p⟩=>⟨_,c a A outer s H E i,ρ,_,hd,⟨g,AM e⟩,?_⟩;simp only[bJ,d,Uz]at p;exact(pK.letGo g p).runB
theorem Def.mk' {x:Str}{f:Addr}{fd:FuncData}{ps:List Str}{k np:Nat}{F:Fn}(hm:mg x=some (.ref f))(a:PySem.W.keepIn K (.ref f)=true)(hb:pB K fd ps [])(h:bN P w K mg base CX0 k f fd ps (spF K F np)):Def P w K mg base x k np F:=⟨f,fd,ps,hm,a,hb,h⟩
end
section
variable {X:Cx} {pos p:Pos}
theorem oX {x:Str}{k np:Nat}{F:Fn}{e:Expr}{es:List Expr}{r:LF}(hd:Def X.prog X.w X.K X.mg X.base x k np F)(o:ip k X.A)(q:Gl X x)(ha:MA X (e :: es) r)(l:∀ds h d h',F ds h=.ok d h'->ds.length=np)
  (j:(x == ("__debug__" : Str))=false:=by decide) (he:starEach (e :: es) X.env=(false,eval e X.env) :: starEach es X.env:=by rfl) (hpl:(backTo pos (starEach es X.env)).any (·.1)=false:=by rfl) :
  ME X (.Call (.Name x p) (e :: es) [] pos) (ar F r):=by
 obtain⟨f,fd,ps,h1,h2,m,s⟩:=hd.ex;refine PE.imp (EI s o q h1 h2 m .nil JG ha j he hpl) λσ H Q ⟨ρ,σd,hd,t,n⟩=>⟨ρ,σd,hd,t,(bM.bind (R:=rDs X.K) n).imp λA H1 ⟨i,ds,g,y,b,rv,a⟩ => ?_⟩;rw[Y3];cases c:F ds g with
 | exc z h'=>rw[c]at a;exact a.elim
 | bad=>rw[c]at a;exact a.elim
 | ok d hd2 =>
  rw[c]at a;refine⟨i,g,ds,b.hp,rv,l _ _ _ _ c,?_⟩;rw[c];exact λv H' ρ' ex w u=>a v H' ρ' ex (b.ext ex w) u
theorem tR {np n:Nat}{b:SF}:∀ds h d a,bJ np n b ds h=.ok d a->ds.length=np:=by
 intro ds h d a e;unfold bJ at e;split at e
 ·assumption
 ·cases e
end
theorem JP {l:PySem.W.OpenLaw}{q:T3}{b:List Str}{XP:(Str->Option T0)->Heap->Prop}{m:T4->Heap->Prop}{d:DefRec}{K:Params->ZX}{F:Fn}{k:Nat}{x:Str}(hn:l.most=some 63)(i:d.params.defaults=[])(B:ip k callerA)
  (G:∀(w:T4) (h:Heap),m w h->(K w.params).In h)
  (E:∀(w:T4) (mg:Str->Option T0) (fa:Addr) (h:Heap),(K w.params).In h->h.Ns mainGlobals mg->mg d.name=some (.ref fa)->
   ∃fd:FuncData,(∀(s:T1) (u:T0),BindsTo s fd ⟨[u],[]⟩ [(x,u)])/\∀base:Heap,(K w.params).In base->base.Ns mainGlobals mg->bN l.prog w (K w.params) mg base CX0 k fa fd [x] (spF (K w.params) F 1))
  (g:∀ns:List Int,ns.length<=63->∃h,F [.lit (ns.map .int)] []=.ok (.bl true) h) :
  PySem.W.WalkO q b XP m l.row.toRowW d [] (λf A=>PySem.call f A):=by
 refine L2.ER (n:=63) (k:=k) (x:=x) (CX:=λ_=>CX0) (sp:=λw=>spF (K w.params) F 1) hn (by decide) i B G E (λw H a ns j t r => ?_) λ_ _ _ _ _ z=>z;obtain⟨h,e⟩:=g ns j;have p:n5 (K w.params) H a (ns.map V.int):=by
  rcases r with (z|⟨o,z⟩)|z
  ·rcases t a with y|⟨o,xs,y⟩<;>(rw[z]at y;cases y)
  ·exact .inl ⟨o,z⟩
  ·exact .inr z
 have I:RDs (K w.params) [] H (ns.map D.int) (ns.map V.int):=by
  clear j r e p g
  induction ns with
  | nil=>exact RDs.nil
  | cons n ns ih=>exact RDs.cons (by simp only[RD]) ih
 refine⟨[],[],[.lit (ns.map .int)],⟨rfl,VX,λn c a h1=>by simp at h1⟩,RDs.cons (by simp only[RD];exact⟨a,_,rfl,p,I⟩) RDs.nil,rfl,?_⟩;rw[e];intro v H' ρ' ex J C;simpa only[RD] using C
end Fm
namespace Fm
open PySem PySem.Spec L2
open PyProof.Rows (Subscript_ tail_any)
def tyS:Ty->String
 | .int => "int" | .bool => "bool" | .tuple => "tuple" | .list => "list" | .str => "str"
theorem fY (t:Ty):typeOf (.type (tyS t))=pure (.type "type"):=by
 cases t
 ·exact F.isi_meta_int
 ·exact F.isi_meta_bool
 ·exact F.isi_meta_tuple
 ·exact F.isi_meta_list
 ·exact F.isi_meta_str
theorem EV (t:Ty):isSubtype (.type "NoneType") (.type (tyS t))=pure false:=by cases t<;>(rw[Y2];kernel_rfl)
theorem Hz {t:Ty} (h:t ≠ .int):isSubtype (.type "int") (.type (tyS t))=pure false:=by cases t<;>first|exact absurd rfl h|(rw[Y2];kernel_rfl)
theorem EW {t:Ty} (h:t ≠ .int) (h2:t ≠ .bool):isSubtype (.type "bool") (.type (tyS t))=pure false:=by cases t<;>first|exact absurd rfl h|exact absurd rfl h2|(rw[Y2];kernel_rfl)
theorem HA {t:Ty} (h:t ≠ .str):isSubtype (.type "str") (.type (tyS t))=pure false:=by cases t<;>first|exact absurd rfl h|(rw[Y2];kernel_rfl)
theorem Co {t:Ty} (h:t ≠ .tuple):isSubtype (.type "tuple") (.type (tyS t))=pure false:=by cases t<;>first|exact absurd rfl h|(rw[Y2];kernel_rfl)
theorem zI {t:Ty} (h:t ≠ .list):isSubtype (.type "list") (.type (tyS t))=pure false:=by cases t<;>first|exact absurd rfl h|(rw[Y2];kernel_rfl)
theorem EX (t:Ty):isSubtype (.type "dict") (.type (tyS t))=pure false:=by cases t<;>(rw[Y2];kernel_rfl)
theorem kf (t:Ty):isSubtype (.type (tyS t)) (.type (tyS t))=pure true:=by cases t<;>(rw[Y2];kernel_rfl)
theorem vE:isSubtype (.type "bool") (.type (tyS .int))=pure true:=by rw[Y2];kernel_rfl
theorem n9 {n:String}{t:Ty}(h:n≠tyS t):(Value.type n == Value.type (tyS t))=false:=by
 rw[beq_eq_false_iff_ne];intro e;cases e;exact h rfl
theorem xG {a b:Ty}(h:a≠b):(a == b)=false:=by cases a<;>cases b<;>first|rfl|exact absurd rfl h
section
variable {X:Cx} {pos p:Pos}
theorem HB {pins:List (Addr × Obj)}{σ:St}{H:Hp}{s:T1}{ρ:List Addr}{hd:Hd}{d:D}{v:V}{u:T0}{t:Ty}{b:Bool}{Q:T0->T1->Prop}{E:T0->T1->Prop}(I:Inv X pins σ H s)(A:RH X.K ρ H hd)(h:RD X.K ρ H d v)(r:bx v u)(e:AJ hd t d=some b)
  (q:∀y,Inv X pins σ H y->Q (.bool b) y):wpAny (model X.prog X.w) X.A (call (.builtin "isinstance") [u,.type (tyS t)]) Q E s:=by
 have i:=q s I;have q1:=q { s with toks:=s.toks + 1 } (I.tok _);have f:∀{n:String},s.TypeIs u n->isSubtype (.type n) (.type (tyS t))=pure true->Q (.bool true) s->wpAny (model X.prog X.w) X.A (call (.builtin "isinstance") [u,.type (tyS t)]) Q E s:=λh1 h2 B=>XV (isinstance_true (fY t) h2) ⟨h1,B⟩;cases d<;>simp only[RD]at h<;>simp only[AJ]at e
 ·subst h;cases r;cases e
  exact XV (isinstance_false_none (by cases t<;>exact n9 (by decide)) (fY t) (EV t)) q1
 ·subst h;cases r
  by_cases h1:t=.int
  ·subst h1;cases e;exact f (n := "bool") rfl vE i
  ·by_cases h2:t=.bool
   ·subst h2;cases e;exact f (n := "bool") rfl (kf .bool) i
   ·rw[xG h1,xG h2]at e;cases e
    exact XV (isinstance_false_bool (by cases t<;>first|exact absurd rfl h1|exact absurd rfl h2|exact n9 (by decide)) (fY t) (EW h1 h2)) q1
 ·subst h;obtain⟨tk,rfl⟩:=r
  by_cases h1:t=.int
  ·subst h1;cases e;exact f (n := "int") rfl (kf .int) i
  ·rw[xG h1]at e;cases e
   exact XV (isinstance_false_int (by cases t<;>first|exact absurd rfl h1|exact n9 (by decide)) (fY t) (Hz h1)) q1
 ·subst h;obtain⟨tk,rfl⟩:=r
  by_cases h1:t=.str
  ·subst h1;cases e;exact f (n := "str") rfl (kf .str) i
  ·rw[xG h1]at e;cases e
   exact XV (isinstance_false_str (by cases t<;>first|exact absurd rfl h1|exact n9 (by decide)) (fY t) (HA h1)) q1
 ·obtain⟨a,w,rfl,j,_⟩:=h
  cases r;obtain⟨m,_,o,g,hc,_⟩:=hW I.hok j
  by_cases h1:t=.tuple
  ·subst h1;cases e;exact f (n := "tuple") ⟨o,g,hc⟩ (kf .tuple) i
  ·rw[xG h1]at e;cases e
   exact XV (isinstance_false_tuple (by cases t<;>first|exact absurd rfl h1|exact n9 (by decide)) (fY t) (Co h1)) ⟨⟨o,g,hc⟩,q1⟩
 ·rename_i n
  obtain⟨a,j,rfl⟩:=h;cases r;cases c:hd[n]? with
  | none=>rw[c]at e;cases e
  | some cell =>
   rw[c]at e;cases cell with
   | lst l =>
    obtain⟨w,x,_⟩:=A.cel n _ a c j;obtain⟨z,m,k,_,g⟩:=I.hok a _ x
    by_cases h1:t=.list
    ·subst h1;cases e;exact f (n := "list") ⟨_,g,rfl⟩ (kf .list) i
    ·simp only[xG h1]at e;cases e
     exact XV (isinstance_false_list (by cases t<;>first|exact absurd rfl h1|exact n9 (by decide)) (fY t) (zI h1)) ⟨⟨_,g,rfl⟩,q1⟩
   | dcT _=>cases e
   | dct l =>
    obtain⟨w,x,_,_⟩:=A.cel n _ a c j;obtain⟨_,_,_,_,o,_,_,g,ex,_⟩:=I.hok a _ x;cases e;exact XV (isinstance_false_dict (by cases t<;>exact n9 (by decide)) (fY t) (EX t)) ⟨⟨o,g,ex.1⟩,q1⟩
 ·obtain⟨a,w,rfl,j,_⟩:=h
  cases r;obtain⟨m,_,C,_⟩:=I.list j.sq;obtain⟨o,g,hc,_⟩:=C.isList
  by_cases h1:t=.list
  ·subst h1;cases e;exact f (n := "list") ⟨o,g,hc⟩ (kf .list) i
  ·simp only[xG h1]at e;cases e
   exact XV (isinstance_false_list (by cases t<;>first|exact absurd rfl h1|exact n9 (by decide)) (fY t) (zI h1)) ⟨⟨o,g,hc⟩,q1⟩
 ·cases e
def KW (K:ZX) (t:Ty):List V->Hp->VK->Prop:=λxs H Q=>∃ρ hd d v b,xs=[v,.ty (tyS t)]/\RH K ρ H hd/\RD K ρ H d v/\AJ hd t d=some b/\Q (.bl b) H
theorem Cp (t:Ty):fS X (.builtin "isinstance") (KW X.K t):=by
 intro pins s σ H xs l Q I r h;obtain⟨ρ,hd,d,v,b,rfl,j,i,e,q⟩:=h;obtain⟨u,g,rfl,f,a⟩:=aR.two r;cases (show g=Value.type (tyS t) from a);exact HB I j i f e λk c=>⟨.bl b,H,c,rfl,q⟩
theorem gP {t:Ty} {a:Expr} {fa:EF} {p2:Pos} {n:Str} (o:Gl X "isinstance") (hm:X.mg "isinstance" = none) (k:Gl X n) (j:X.mg n=none) (r:bootBuiltins n=some (.type (tyS t))) (ha:ME X a fa)
  (l:starEach [a,.Name n p2] X.env=(false,eval a X.env) :: starEach [.Name n p2] X.env:=by rfl) (i:starEach [.Name n p2] X.env=(false,eval (.Name n p2) X.env) :: starEach [] X.env:=by rfl) (hn:n ≠ "__name__" := by decide) (hd:(n == ("__debug__" : Str))=false:=by decide) :
  ME X (.Call (.Name "isinstance" p) [a,.Name n p2] [] pos) (iy t fa):=by
 refine PE.imp (iq (Cp t) o hm (by decide +kernel) (cF ha (cF (Ew (v:=.ty (tyS t)) k j r rfl hn hd) d6 i) l) (he:=l)) λσ H Q ⟨ρ,σd,hd,q,m⟩=>⟨ρ,σd,hd,q,(bM.bind (R:=rD X.K) m).imp λv H1 ⟨h,d,f,s,e,rv,g⟩ => ?_⟩;cases c:AJ f t d with
 | none=>simp only[c]at g;exact g.elim
 | some b=>simp only[c]at g;exact⟨h,f,d,v,b,rfl,e.hp,rv,c,g.here e (by simp only[rD,RD])⟩
theorem fZ:OpR X (binaryOp .Add) (λx y H Q=>rI0 (λi j=>.int (i + j)) x y H Q\/B9 X.K x y H Q):=G0.or EM
theorem iR {K:ZX}:Og K dy (λx y H Q=>rI0 (λi j=>.int (i + j)) x y H Q\/B9 K x y H Q):=by
 intro ρ H σd hd σ d k v w Q m rv f c;cases d<;>try exact c.elim
 ·cases k<;>try exact c.elim
  simp only[RD]at rv f;exact .inl ⟨_,_,rv,f,c.here m (by simp only[rD,RD])⟩
 ·rename_i l
  cases l with
  | nil=>exact c.elim
  | cons x xs =>
   cases k<;>try exact c.elim
   rename_i ys
   simp only[dy]at c;split at c
   ·rename_i hz
    simp only[RD]at rv f;obtain⟨a,h,rfl,r,e⟩:=rv;obtain⟨b,s,rfl,u,g⟩:=f;refine .inr ⟨a,b,h,s,rfl,rfl,SqT.of r,SqT.of u,?_,?_,λz => ?_,λ_ q A => ?_⟩
    ·intro z;subst z;have:=e.length;simp at this
    ·rw[<-e.length,<-g.length];exact oV hz
    ·subst z
     have t:ys=[]:=by have:=g.length;simpa using this
     subst t;exact c.here m (by simp only[rD,RD];exact⟨a,h,rfl,r,by simpa using e⟩)
    ·have n:=bW (o:=HO.tup (h++s)) A
     exact c.at (Ext.same n) (m.same n) (by simp only[rD,RD];exact⟨q,_,rfl,aY,(RDs.append e g).mono (Kp.same n)⟩)
   ·exact c.elim
theorem oY {a:Expr} {d:LF} (i:Gl X "list") (hm:X.mg "list" = none) (ha:MQ X a d) (f:starEach [a] X.env=(false,eval a X.env) :: starEach [] X.env:=by rfl):MF X (.Call (.Name "list" p) [a] [] pos) d:=by
 refine PE.imp (mE tJ i hm (by decide +kernel) (cF ha d6 f) (he:=f)) λσ H Q ⟨ρ,σd,hd,j,b⟩=>⟨ρ,σd,hd,j,?_⟩;cases e:d σd hd with
 | exc x h'=>rw[e]at b;exact b
 | bad=>rw[e]at b;exact b
 | ok l hd1 =>
  rw[e]at b;intro v H1 g h c ⟨q,vs,hv,sq,rvs⟩;subst hv;exact⟨q,vs,rfl,sq.imp id SqT.of,b.mk h c rvs⟩
def MO (X:Cx) (e:Option Expr) (f:OF):Prop:=PO X e (jC X.K rO f)
theorem Cq:MO X none pNo:=λpins s σ H Q I ⟨ρ,σd,hd,b,a⟩=>EK pins s σ H Q I (a.here b rfl)
theorem Cr {e:Expr}{f:EF}(h:ME X e f):MO X (some e) (pAt f):=λpins s σ H Q I ⟨ρ,σd,hd,i,g⟩=>EL h pins s σ H Q I ⟨ρ,σd,hd,i,(bM.bind (R:=rD X.K) g).imp λv H1 ⟨c,d,j,k,a,rv,b⟩=>by
 cases d<;>try exact b.elim
 simp only[rD,RD]at rv;exact⟨_,rv,b.here a rfl⟩⟩
theorem zJ {K:ZX}{ρ:List Addr}{H:Hp}{l:List D}{vs:List V}{lo hi:Option Int}(r:RDs K ρ H l vs):RDs K ρ H (cut l lo hi) (pD vs lo hi):=by
 have e:∀(n d:Nat) (o:Option Int),Fm.sIx n d o=HT.sIx n d o:=λn d o=>by cases o<;>rfl
 unfold cut pD;rw[r.length,e,e];exact(r.drop _).take _
theorem pL {a:Expr}{fa:EF}{lo hi:Option Expr}{fl G:OF}{p2:Pos}(ha:ME X a fa)(J:MO X lo fl)(M:MO X hi G):ME X (.Subscript a (.Slice lo hi none p2) pos) (iO fa fl G):=by
 refine PE.imp (B8 (SlR.or EN Hb) ha J M) λσ H Q ⟨ρ,σd,hd,N,F⟩ => ?_;unfold iO at F;refine⟨ρ,σd,hd,N,(bM.bind (R:=rD X.K) F).imp λv H1 ⟨A,d,B,Y,t,rv,S⟩ => ?_⟩;refine⟨A,σd,B,t,(bM.bind (R:=rO) S).imp λu W ⟨D,V,C,K,s,q2,p2⟩ => ?_⟩;cases q2;refine⟨D,σd,C,s,(bM.bind (R:=rO) p2).imp λx z ⟨k,I,g,O,f,q3,b⟩ => ?_⟩;cases q3;have j:=(rv.mono (t.hp.kp K)).mono (s.hp.kp O);have i:∀l,ef g d=some l->bM X.K (rD X.K) k z σd σ (.ok (.ref g.length) (g++[.lst (cut l u x)])) Q->JE X.K v u x z Q:=λl c p=>by
  obtain⟨q,m,P,L,h⟩:=ly f.hp j c;refine⟨q,m,P,L,λy w => ?_⟩;have r:=bW (o:=HO.lst (pD m u x)) w;have T:=f.hp.free w;have U:=(f.hp.same r).alloc aY T ((zJ h).mono (Kp.same r));have ex:Ext k z (k++[y]) (upd z y (.lst (pD m u x))):=Ext.alloc w;refine p.at ex (f.ext ex U) ?_;simp only[rD,RD];exact⟨y,by rw[<-f.hp.len];simp,rfl⟩
 cases d with
 | tup l =>
  simp only at b;split at b
  ·exact b.elim
  ·rename_i hw
   simp only[RD]at j;obtain⟨q,m,rfl,w,h⟩:=j;have e:∀(n d:Nat) (o:Option Int),Fm.sIx n d o=HT.sIx n d o:=λn d o=>by cases o<;>rfl
   refine .inr ⟨q,m,rfl,SqT.of w,by rw[<-h.length,<-e,<-e];exact hw,λy E => ?_⟩;have r:=bW (o:=HO.tup (pD m u x)) E;exact b.at (Ext.same r) (f.same r) (by simp only[rD,RD];exact⟨y,_,rfl,aY,(zJ h).mono (Kp.same r)⟩)
 | ref n =>
  simp only at b;cases c:ef g (.ref n) with
  | none=>rw[c]at b;exact b.elim
  | some l=>rw[c]at b;exact .inl (i l c b)
 | lit l' =>
  simp only at b;cases c:ef g (.lit l') with
  | none=>rw[c]at b;exact b.elim
  | some l=>rw[c]at b;exact .inl (i l c b)
 | _=>exact b.elim
theorem jG {o e:Expr} {I G:EF} {apos b:Pos} (L:ME X o I) (he:ME X e G) (j:attributeBase o "append" X.env (eval o X.env)=eval o X.env:=by rfl)
  (r:((backTo b (starEach [e] X.env)).all (λx => !x.1) && (backToKw b (keywordEach [] X.env)).all (λx=>x.1.isSome)
   && decide (([e] : List Expr).length + ([] : List Keyword).length + (if ([] : List Keyword).isEmpty then 0 else 1) < 30))=true:=by rfl)
  (m:(apos.endLine == b.line)=true:=by rfl) (D:starEach [e] X.env=(false,eval e X.env) :: starEach [] X.env:=by rfl) :
  ME X (.Call (.Attribute o "append" apos) [e] [] b) (jB I G):=by
 refine PE.imp (JF PySem.F.plainAttrs_list PySem.F.slot_list_append PySem.F.type_list_append rV L (cF he d6 D) j r m D) λσ H Q ⟨ρ,σd,hd,M,F⟩=>⟨ρ,σd,hd,M,?_⟩;unfold jB at F;refine(bM.bind (R:=rD X.K) F).imp λv H1 ⟨z,d,y,S,s,rv,f⟩ => ?_;cases d<;>try exact f.elim
 rename_i n
 simp only[rD,RD]at rv;obtain⟨a,C,rfl⟩:=rv;simp only at f;cases c1:y[n]? with
 | none=>rw[c1]at f;exact f.elim
 | some cell1 =>
  rw[c1]at f;cases cell1 with
  | dct l=>exact f.elim
  | dcT l=>exact f.elim
  | lst l1 =>
   obtain⟨K,O,_⟩:=s.hp.cel n _ a c1 C;simp only at f;refine⟨.inl ⟨rfl,K,SqL.of O⟩,z,σd,y,s,(bM.bind (R:=rD X.K) f).imp λw E ⟨u,k,t,J,h,A,p2⟩ => ?_⟩;simp only[Hm]at p2;cases c:t[n]? with
   | none=>rw[c]at p2;exact p2.elim
   | some cell =>
    rw[c]at p2;cases cell with
    | dct l=>exact p2.elim
    | dcT l=>exact p2.elim
    | lst l =>
     simp only at p2;split at p2
     ·rename_i hz
      have i:=J.get C;obtain⟨q,B,g⟩:=h.hp.cel n _ a c i;refine⟨a,q,w,rfl,rfl,B,?_,?_⟩
      ·rw[<-g.length];exact ZZ hz (by rw[YF];decide)
      ·have N:n < t.length:=(List.getElem?_eq_some_iff.mp c).1
       have P:=h.hp.write i N (RDs.append g (RDs.cons A RDs.nil));have ex:Ext u E u (upd E a (.lst (q++[w]))):=Ext.write (ZK i);exact p2.at ex (h.ext ex P) (by simp only[rD,RD])
     ·exact p2.elim
end
end Fm
namespace Fm
open PySem PySem.Spec L2
open AutoSeq1 (wpAny_loadPart')
open PyProof.Rows (Call_)
theorem vF {a b:String}(h:Value.type a=Value.type b)(n:a≠b):False:=by injection h with h;exact n h
theorem jH (l:Addr)(items:Array T0)(n:Nat)(e:Option Addr)(sl:Array (Option T0)) :
  Meets (Builtin.«enumerate.__new__» ⟨[.type "enumerate",.ref l],[]⟩) (λ_ R s=>s.heap.get? l=some { cls:=.type "tuple",dict:=e,data:=.seq items n,slots:=sl }/\
   R (.ok (.ret (.ref (s.heap.push { cls:=.type "tuple_iterator",data:=.fields #[.ref l,.int 0 0] }).objs.size)))
    { s with heap:=(s.heap.push { cls:=.type "tuple_iterator",data:=.fields #[.ref l,.int 0 0] }).push { cls:=.type "enumerate",data:=.fields #[.none,.bool false,.ref s.heap.objs.size,rawInt 0,.none,.none] } }) :=
 .of_wp λprog w A R s h=>by
  obtain⟨i,g,d,tk,os⟩:=s;obtain⟨a,h⟩:=h;have f:=sub_enumerate;have b:Heap.IsTuple (Shared.heap ⟨i,g,d,tk,os⟩) l items:=⟨_,a,rfl,n,rfl⟩
  wp_walk using WH a
  refine wpAny_stack_any λst=>y3 ?_;split
  ·rename_i c _ _ _ _ _
   cases (c == Value.type "enumerate")
   ·wp_walk using WH a,VO b
    exact⟨_,rfl,h⟩
   ·wp_walk using WH a,VO b
    exact⟨_,rfl,h⟩
  ·wp_walk using WH a,VO b
   exact⟨_,rfl,h⟩
section
variable {prog:T3} {w:T4} {A:T2} {E:T0->T1->Prop} {s:T1}
theorem jI {l:Addr}{items:Array T0}{Q:T0->T1->Prop}(i:s.heap.IsTuple l items)
  (h:∀h',IsEnum h' (s.heap.objs.size + 1) s.heap.objs.size 0 .none->h'.IsTupleIter s.heap.objs.size l 0->h'.objs.size=s.heap.objs.size + 2->
   (∀b o,s.heap.get? b=some o->h'.get? b=some o)->Q (.ref (s.heap.objs.size + 1)) { s with heap:=h' }) :
  wpAny (model prog w) A (call (.type "enumerate") [.ref l]) Q E s:=by
 obtain⟨⟨c,d,g,sl⟩,f,hc,n,hd⟩:=i;replace hc:c=.type "tuple" := hc;replace hd:g=.seq items n:=hd;subst hc hd;refine callType_new F.called_enumerate (by decide) (F.typeCall_enumerate_1 _) (F.newCall_enumerate_1 _) (λobj=>F.args_object_init_2 obj _) F.entry_enumerate_new
  (jH l items n d sl) ⟨f,?_⟩
 have a:(s.heap.push { cls:=.type "tuple_iterator",data:=.fields #[.ref l,.int 0 0] }).objs.size=s.heap.objs.size + 1:=YQ ..;show _/\_;rw[a];have e:IsEnum ((s.heap.push { cls:=.type "tuple_iterator",data:=.fields #[.ref l,.int 0 0] }).push
   { cls:=.type "enumerate",data:=.fields #[.none,.bool false,.ref s.heap.objs.size,rawInt 0,.none,.none] }) (s.heap.objs.size + 1) s.heap.objs.size 0 .none:=by
  have:=ZJ (s.heap.push { cls:=.type "tuple_iterator",data:=.fields #[.ref l,.int 0 0] })
   (o:={ cls:=.type "enumerate",data:=.fields #[.none,.bool false,.ref s.heap.objs.size,rawInt 0,.none,.none] }) rfl
  rw[a]at this;exact this
 refine⟨⟨_,e,rfl⟩,h _ e ⟨_,ZH _ (ZJ _ rfl),rfl,rfl⟩ (by rw[YQ,a]) λb o x=>ZH _ (ZH _ x)⟩
theorem lF {it l:Addr}{i:Nat}{items:Array T0}{x:T0}{Q:T0->T1->Prop}(a:s.heap.IsTupleIter it l i)
  (e:s.heap.IsTuple l items) (hx:items[i]? = some x)
  (f:∀h',h'.IsTupleIter it l (i + 1)->Heap.SameBut it s.heap h'->Q x { s with heap:=h' }) :
  wpAny (model prog w) A (Builtin.SmallTypes.nextOf (.ref it)) Q E s:=by
 obtain⟨o,b,hc,hd⟩:=id a;obtain⟨h,c,_,g,d⟩:=e;unfold Builtin.SmallTypes.nextOf;refine z0 (wpAny_callSpecial?_slot (name:=Str.ofString "__next__") a.typeIs WC
  (YP WC a.typeIs F.entry_tuple_iterator_next ?_ (F.args_tuple_iterator_next_1 _)))
 show wpAny _ _ (field (.ref it) 0 >>= _) _ _ s;refine z0 (VS b hd (x:=.ref l) rfl ?_);show wpAny _ _ (if (Value.ref l == Value.none)=true then _ else _) _ _ s;rw[x3 (show ¬((Value.ref l == Value.none)=true) from Z0)];show wpAny _ _ (field (.ref it) 1 >>= _) _ _ s;refine z0 (VS b hd (x:=.int i 0) rfl ?_);show wpAny _ _ (seqItems? (.ref l) >>= _) _ _ s;refine z0 (wpAny_seqItems c d ?_);simp only[X1,hx];refine z0 (WD b hd (by simp) (y3 ⟨x,rfl,y3 (f _ ?_ (XS ..))⟩));exact⟨_,Heap.get?_update_self _ b (Obj.isFreed_of_fields (Obj.data_mapFields hd _)),(Obj.cls_mapFields ..).trans hc,by
  rw[Obj.data_mapFields hd];simp[rawInt]⟩
theorem mL {it l:Addr}{i:Nat}{items:Array T0}{Q:T0->T1->Prop}(g:A.handled=none)
  (b:s.heap.IsTupleIter it l i) (h:s.heap.IsTuple l items) (hx:items[i]? = none)
  (j:∀h' e,Heap.ExtBut it s.heap h'->(∃o,h'.get? e=some o/\o.cls=.type "StopIteration")->E (.ref e) { s with heap:=h' }) :
  wpAny (model prog w) A (Builtin.SmallTypes.nextOf (.ref it)) Q E s:=by
 obtain⟨o,d,hc,hd⟩:=id b;obtain⟨n,c,_,k,f⟩:=h;unfold Builtin.SmallTypes.nextOf;refine z0 (wpAny_callSpecial?_slot (name:=Str.ofString "__next__") b.typeIs WC
  (YP WC b.typeIs F.entry_tuple_iterator_next ?_ (F.args_tuple_iterator_next_1 _)))
 show wpAny _ _ (field (.ref it) 0 >>= _) _ _ s;refine z0 (VS d hd (x:=.ref l) rfl ?_);show wpAny _ _ (if (Value.ref l == Value.none)=true then _ else _) _ _ s;rw[x3 (show ¬((Value.ref l == Value.none)=true) from Z0)];show wpAny _ _ (field (.ref it) 1 >>= _) _ _ s;refine z0 (VS d hd (x:=.int i 0) rfl ?_);show wpAny _ _ (seqItems? (.ref l) >>= _) _ _ s;refine z0 (wpAny_seqItems c f ?_);simp only[X1,hx];refine z0 (wpAny_rule (z0 (WD d hd (by simp) ?_)));show wpAny _ _ (newExc (.type "StopIteration") [] >>= _) _ _ _;refine z0 ?_;simp only[newExc,newTuple];refine z0 (YJ ?_ (by size_fits));refine z0 (m:=firstArgMember _ _) (wpAny_of_eq (a:=Value.none) (by first|rfl|(simp only[firstArgMember];rfl)) ?_);refine YJ ?_ (by size_fits);simp only[raiseNew];refine z0 (wpAny_handled ?_)
 first|rw[show A.in1.handled=none from g] | rw[g]
 refine z0 (y3 (wpAny_throw ?_));exact j _ _ (((XS ..).extBut.push _).push _) ⟨_,ZJ _ rfl,rfl⟩
end
theorem oe {prog:T3}{w:T4}{A:T2}(m:A.handled=none)(it l:Addr)(d:l≠it)(items:Array T0) :
  Draws prog w A it [it,l] items.size (λi v=>items[i]? = some v) (λi h=>h.IsTupleIter it l i/\h.IsTuple l items) where
 live:=λ_ _ st=>let ⟨o,c,_⟩:=st.1;⟨o,c⟩
 frame:=λ_ _ _ st f=>⟨st.1.at λo e=>f it (by simp) o e,let ⟨o,c,r⟩:=st.2;⟨o,f l (by simp) o c,r⟩⟩
 item:=λi s Q E hi st j=>by
  have g:items[i]? = some items[i]:=by simp[hi]
  refine lF st.1 st.2 g λn a b => ?_;refine j _ n s.toks g ⟨a,?_⟩ b;obtain⟨o,c,r⟩:=st.2;exact⟨o,(b.2 l d).trans c,r⟩
 done:=λs Q E st k=>mL m st.1 st.2 (by simp) k
def Ite (K:ZX) (a:Addr):It :=
 ⟨λi H=>∃xs x,SqT K H a xs/\xs[i]? = some x,λi H x H'=>∃q v,x=.ref q/\H q=none/\H'=upd H q (.tup [.int (i:Nat),v])/\∀xs,SqT K H a xs->xs[i]? = some v,λi H=>∃xs,SqT K H a xs/\xs.length=i⟩
theorem AN {P:T3}{w:T4}{K:ZX}{elts:List Expr}{k:Nat}{pos:Pos}(e it a:Addr):xr P w K (.Tuple elts k pos) (Ite K a) [e,it] e (λi h=>(∃g,IsEnum h e it (i:Nat) g)/\h.IsTupleIter it a i) where
 mem:=by simp
 obj:=λi h st b d=>by
  obtain⟨⟨g,B⟩,o,ho,hc,hd⟩:=st;rcases VI.mp d with rfl|d
  ·exact⟨_,B,λv z=>by
    have z':Data.fields _=Data.cell v:=z;cases z'⟩
  ·have:b=it:=by simpa using d
   subst this;exact⟨o,ho,λv z=>by rw[hd]at z;cases z⟩
 keep:=λi h h' st kk=>by
  obtain⟨⟨g,B⟩,st⟩:=st;exact⟨⟨g,kk e (by simp) _ B⟩,st.at λo x=>kk it (by simp) o x⟩
 item:=by
  intro X hP hw hK hc i pins s σ H E I U st hg;subst hP hw hK;obtain⟨⟨g,B⟩,G⟩:=st;obtain⟨xs,x,hq,Z⟩:=hg;obtain⟨f,rv,p,hz⟩:=I.tuple hq;have W:s.heap.IsTuple a f.toArray:=p;obtain⟨oi,C,J,a0⟩:=id G;obtain⟨oa,l,j,na,a6⟩:=id W;have L:e≠it:=λz=>by
   subst z;have D:s.heap.get? e=_:=B;rw[C]at D;cases D;exact vF J (by decide)
  have a4:e≠a:=λz=>by
   subst z;have D:s.heap.get? e=_:=B;rw[l]at D;cases D;exact vF j (by decide)
  have N:a≠it:=λz=>by
   subst z;rw[C]at l;cases l;rw[J]at j;exact vF j (by decide)
  obtain⟨e0,e1,e2,e3,e4,e5⟩:=U e (by simp);obtain⟨f0,f1,f2,f3,f4,f5⟩:=U it (by simp);have a5:i < f.toArray.size:=by
   have:=(List.getElem?_eq_some_iff.mp Z).1;have hl:=rv.length;simp;omega
  refine wpAny_pyNext_enum_itemD (oe (prog:=X.prog) (w:=X.w) (A:=X.A.in1) (I.ok.hd hc) it a N f.toArray) B ⟨G,W⟩ a5 L (by simp;exact⟨L,a4⟩) λy h' tk hy a8 R Y V hk => ?_;refine⟨_,rfl,wpAny_letOwnedTupleGo_enum a8 λh2 a9 F => ?_⟩;replace F:Heap.SameBut e h' h2:=F;obtain⟨u,hu,ru⟩:=rv.get Z;have a2:y=u:=by
   have:f.toArray[i]? = some u:=by simpa using hu
   rw[hy]at this;exact ZT this
  subst a2;have Q:e < s.heap.objs.size:=ZI B;have b0:it < s.heap.objs.size:=ZI C;have O:H s.heap.objs.size=none:=I.hok.fresh (ZL _);have keep:∀b o,b≠e->b≠it->s.heap.get? b=some o->h2.get? b=some o:=λb o b1 b2 q=>(F.2 b b1).trans (hk b o b1 b2 q);have M:h2.get? s.heap.objs.size=some { cls:=.type "tuple",data:=.seq #[.int i tk,y] }:=(F.2 _ (Z6 Q)).trans Y;have t:∀b,b∉([e,it] : List Addr)->b≠e/\b≠it:=λb d=>by simpa using d
  refine⟨.ref s.heap.objs.size,upd H s.heap.objs.size (.tup [.int (i:Nat),x]),?_,rfl,⟨_,x,rfl,O,rfl,λys a3=>by rw[I.tuple_inj a3 hq];exact Z⟩,⟨⟨_,by simpa using a9⟩,R.1.extBut F.extBut (XO L)⟩,λb d => ?_⟩
  ·suffices I2:L2.Inv X pins σ (upd H s.heap.objs.size (.tup [.int (i:Nat),x])) { s with heap:=h2,gens:=s.gens,drawn:=s.drawn,toks:=tk + 1 } from I2
   refine I.step (g':=s.gens) (d':=s.drawn) (t':=tk + 1) (ch:=[e,it]) (λb d => ?_) (λb o _ _ d q _=>keep b o (t b d).1 (t b d).2 q) (λb o _ _ d q _=>⟨o.slots,keep b o (t b d).1 (t b d).2 q⟩) (λb o _ q n => ?_) (λb o d q=>⟨o,keep b o (t b d).1 (t b d).2 q⟩)
    (λb ys q => ?_) (λb o u q => ?_) (λb ps q=>⟨#[],?_⟩) (λm hm => ?_) (λb u q => ?_) I.bare
   ·rcases VI.mp d with rfl|d
    ·exact⟨e3,e1,e4,e5⟩
    ·have:b=it:=by simpa using d
     subst this;exact⟨f3,f1,f4,f5⟩
   ·rw[aB (ZN (ZI q))];exact n
   ·rw[aB (bu q O)];exact q
   ·rw[aB (bu q O)];exact q
   ·rw[aB (bu q O),q];simp
   ·obtain⟨o,es,ep,ho,r⟩:=hm
    exact⟨o,es,ep,keep _ o (XO e1) (XO f1) ho,r⟩
   ·by_cases d:b=s.heap.objs.size
    ·subst d
     rw[aY]at q;cases q;exact⟨by show 2<=sizeLine;rw[YF];decide,[.int i tk,y],.cons ⟨tk,rfl⟩ (.cons ru .nil),_,M,rfl,_,rfl⟩
    ·rw[aB d]at q
     have T:∀c v,H c=some v->c≠e:=λc v z w=>by rw[w,e0]at z;cases z
     have S:∀c v,H c=some v->c≠it:=λc v z w=>by rw[w,f0]at z;cases z
     refine(I.hok b u q).stay (λc v a1 z => ?_) (λc z=>by rw[aB (bu z O)];exact z) λc ys z=>by rw[aB (bu z O)];exact z
     rcases a1 with w|w
     ·subst w;exact keep c v (T c _ q) (S c _ q) z
     ·exact keep c v (T c _ w) (S c _ w) z
  ·have:b≠s.heap.objs.size:=by
    rcases VI.mp d with rfl|d
    ·exact ZN Q
    ·have:b=it:=by simpa using d
     subst this;exact ZN b0
   rw[aB this];exact(U b d).1
 done:=by
  intro X hP hw hK hc i pins s σ H E I U st hg;subst hP hw hK;obtain⟨⟨g,B⟩,G⟩:=st;obtain⟨xs,hq,Z⟩:=hg;obtain⟨f,rv,p,hz⟩:=I.tuple hq;have W:s.heap.IsTuple a f.toArray:=p;obtain⟨oi,C,J,a0⟩:=id G;obtain⟨oa,l,j,na,a6⟩:=id W;have N:a≠it:=λz=>by
   subst z;rw[C]at l;cases l;rw[J]at j;exact vF j (by decide)
  obtain⟨f0,f1,f2,f3,f4,f5⟩:=U it (by simp);have V:f.toArray.size=i:=by have:=rv.length;simp;omega
  refine wpAny_pyNext_enum_endD (oe (prog:=X.prog) (w:=X.w) (A:=X.A.in1) (I.ok.hd hc) it a N f.toArray) B ⟨by rw[V];exact G,W⟩ λh' a7=>⟨rfl,I.turned (t':=s.toks) (λb o d e=>a7 b o d e) f0 f1 f3 f4 f5⟩
 self:=λ_ _ _ _ _ st h=>by
  obtain⟨⟨g,B⟩,_⟩:=st;exact VY B h
section
variable {X:Cx} {pos p tp:Pos} {elts:List Expr} {tk:Nat}
def iEn (K:ZX) (ta:TE):TI:=λσ H R=>ta σ H λx H1=>∃a xs,x=.ref a/\SqT K H1 a xs/\(xs.length<=sizeLine->R (Ite K a) H1)
theorem EY {a:Expr} {ta:TE} (z:Gl X "enumerate") (hm:X.mg "enumerate" = none) (ha:PE X a ta) (n:starEach [a] X.env=[(false,eval a X.env)]:=by rfl):PI X (.Tuple elts tk tp) (.Call (.Name "enumerate" p) [a] [] pos) (iEn X.K ta):=by
 intro pins s σ H R I h;have l:=cF ha d6 n;refine Call_ (jx I z hm PyProof.Rows.boot_enumerate (X7 (thn (l pos pins s σ H (λo H1=>∃a xs,o=[.ref a]/\SqT X.K H1 a xs/\(xs.length<=sizeLine->R (Ite X.K a) H1)) I ?_) λE c ⟨o,H1,g,D,q1⟩ => ?_) n rfl))
 ·show ta σ H λx H1=>_
  have m:∀(x:V) (H1:Hp),(∃a xs,x=.ref a/\SqT X.K H1 a xs/\(xs.length<=sizeLine->R (Ite X.K a) H1))=(∃a xs,[x] = [.ref a]/\SqT X.K H1 a xs/\(xs.length<=sizeLine->R (Ite X.K a) H1)):=λx H1=>by simp
  have f:ta σ H λx H1=>∃a xs,x=.ref a/\SqT X.K H1 a xs/\(xs.length<=sizeLine->R (Ite X.K a) H1):=h;simp only[m]at f;exact f
 ·obtain⟨a,xs,e,A,q⟩:=q1
  subst e;obtain⟨u,rfl,v⟩:=aR.one D;cases (show u=Value.ref a from v);obtain⟨i,rv,w,B⟩:=g.tuple A;refine jI (show c.heap.IsTuple a i.toArray from w) λf r k C t => ?_;refine VY (s:={ c with heap:=f }) r ?_;have y:Inv X pins σ H1 { c with heap:=f }:=g.kept (t':=c.toks) t;refine⟨c.heap.objs.size + 1,[c.heap.objs.size + 1,c.heap.objs.size],_,_,H1,rfl,y,AN (c.heap.objs.size + 1) c.heap.objs.size a,⟨⟨_,by simpa using r⟩,k⟩,λb j => ?_,q B⟩;have d:c.heap.objs.size<=b:=by
   rcases VI.mp j with e|j
   ·rw[e];exact VT _
   ·have:b=c.heap.objs.size:=by simpa using j
    rw[this];exact ZL _
  exact g.fpOk d (g.hok.fresh d)
theorem AO {K:ZX}{ρ:List Addr}{H:Hp}{hd:Hd}{q:Addr}{l:List D}{vs:List V}(r:RH K ρ H hd)(hq:H q=some (.tup vs))(rv:RDs K ρ H l vs)(hz:vs.length<=sizeLine) :
  qP K ρ H (Ite K q) ((List.range l.length).zip l |>.map λp=>.tup [.int (p.1:Nat),p.2]) none where
 go:=λρ' H' hd' i d ex j _ hi=>by
  have k:=r.kp ex;obtain⟨a,hi2⟩:=List.getElem?_eq_some_iff.mp hi;have f:i < l.length:=by simpa using a
  have hd:d=.tup [.int (i:Nat),l[i]]:=by rw[<-hi2];simp
  subst hd;obtain⟨v,e,h⟩:=(rv.mono k).get (i:=i) (d:=l[i]) (by simp[f]);have b:SqT K H' q vs:=SqT.of (k.tup q vs hq);refine⟨⟨vs,v,b,e⟩,λx m y => ?_⟩;obtain⟨q2,n,rfl,g,rfl,y⟩:=y;have:=y vs b;rw[e]at this;cases this;have c:=bW (o:=HO.tup [.int (i:Nat),v]) g;refine⟨c,?_⟩;simp only[RD];exact⟨q2,_,rfl,aY,RDs.cons (by simp only[RD]) (RDs.cons (h.mono (Kp.same c)) RDs.nil)⟩
 stop:=λρ' H' hd' ex j _=>⟨vs,SqT.of ((r.kp ex).tup q vs hq),by rw[<-rv.length];simp⟩
 sz:=by
  have:=rv.length;simp;omega
theorem EZ {a:Expr} {f:EF} (n:Gl X "enumerate") (hm:X.mg "enumerate" = none) (ha:ME X a f) (k:starEach [a] X.env=[(false,eval a X.env)]:=by rfl):MI X (.Tuple elts tk tp) (.Call (.Name "enumerate" p) [a] [] pos) (Cf f):=by
 refine PI.imp (EY n hm ha k) λσ H R ⟨ρ,σd,hd,o,b⟩=>⟨ρ,σd,hd,o,?_⟩;unfold Cf at b;cases e:f σd hd with
 | exc x h1=>rw[e]at b;exact b
 | bad=>rw[e]at b;exact b
 | ok d hd1 =>
  rw[e]at b;simp only[aP]at b;intro v H1 g i c rv;cases d<;>try exact b.elim
  rename_i l
  simp only[rD,RD]at rv;obtain⟨q,m,rfl,j,h⟩:=rv;exact⟨q,m,rfl,SqT.of j,λr=>b _ H1 g i c (AO c.hp j h r)⟩
end
end Fm
namespace Fm
open PySem PySem.Spec L2 PySem.W PyProof.Rows
section
variable {prog:T3} {w:T4} {A:T2} {E:T0->T1->Prop} {s:T1}
theorem xH {a:Addr} {vs:List T0} {n:Nat} {P:PySem.Fin->T1->Prop} (f:s.heap.get? a=some (seqObj "list" vs.toArray n)) (h2:vs.length < 2)
  (h:P (.done (.ret .none)) { s with heap:=sortedHeap s.heap a vs vs.toArray }):wpAny (model prog w) A (Builtin.«list.sort» ⟨[.ref a],[]⟩) P E s:=by
 rw[list_sort_plain];have k:a < s.heap.objs.size:=ZI f;refine z0 (listItems_at f rfl ?_);refine z0 (VF f rfl ?_);obtain⟨g,b⟩ : ∃g,(s.heap.update a (Obj.mapSeq λ_ => #[])).get? a=some (seqObj "list" #[] g):=⟨_,get?_update_seq f (λ_ => #[])⟩;refine z0 (seqEpoch_at b rfl ?_);refine z0 (wpAny_newTuple ?_);refine z0 (VG ?_);refine YV ?_;have d:(((s.heap.update a (Obj.mapSeq λ_ => #[])).push (seqObj "tuple" vs.toArray 0)).push (seqObj "list" #[] 0)).get? a=some (seqObj "list" #[] g):=by
  rw[Heap.get?_push_ne _ _ _ (by rw[WQ,YK];exact ZN (v4 k)),Heap.get?_push_ne _ _ _ (by rw[YK];exact ZN k)];exact b
 show wpAny (model prog w) A _ P E { s with heap:=((s.heap.update a (Obj.mapSeq λ_ => #[])).push (seqObj "tuple" vs.toArray 0)).push (seqObj "list" #[] 0) };dsimp only;have j:vs.toArray.size=vs.length:=by simp
 have c:vs.toArray.size < 2:=by rw[j];exact h2
 rw[yD c,yD c];refine z0 (y3 ?_);rw[StateT.run_pure];refine z0 (y3 ?_);dsimp only;refine z0 (seqEpoch_at d rfl ?_);refine z0 (VF d rfl ?_ (hsz2:=by rw[Array.size_map];show (pairsOf vs).size<=_;rw[pairsOf_size,YF];omega));simp only[bne_self_eq_false,YA,XF];have e:(arrOf (SortSt.mk' general' (vs.toArray.zip vs.toArray) #[] 7 none)).map (·.2)=vs.toArray:=by
  show (vs.toArray.zip vs.toArray).map (·.2)=vs.toArray;apply Array.ext
  ·simp
  ·intro i h1 h2
   simp
 refine y3 ?_;have l:=h;unfold sortedHeap at l;rw[e];exact l
theorem HC {Q:Bool->T1->Prop}:∀(ns a:List Int) {xs ys:List T0} (i:Nat),IntsAre xs ns->IntsAre ys a->Q (Fm.cx ns a) s->KatLex prog w A true (decide (xs.length < ys.length)) Q (xs.zip ys) i s:=by
 intro ns
 induction ns with
 | nil =>
  intro a xs ys i d c h;cases d;cases a with
  | nil=>cases c;exact h
  | cons m a =>
   cases c;have b:Q true s:=h;exact b
 | cons n ns ih =>
  intro a xs ys i d c h;cases d with
  | cons _ t r =>
   cases a with
   | nil =>
    cases c;have b:Q false s:=h;exact b
   | cons m a =>
    cases c with
    | cons _ t' r' =>
     rename_i xs ys
     refine kat_cons (SeqAt.EqAt.int_int n t m t' prog w _ _ ?_)
     by_cases e:n=m
     ·subst e
      rw[show (n == n)=true by simp];refine kat_yes ?_;have b:Q (Fm.cx ns a) s:=by simpa[Fm.cx] using h
      have:=ih a (i + 1) r r' b;have f:decide ((Value.int n t :: xs).length < (Value.int n t' :: ys).length)=decide (xs.length < ys.length):=by simp
      rw[f];exact this
     ·rw[show (n == m)=false by simpa using e]
      refine kat_no ?_;have b:Q (decide (n < m)) s:=by simpa[Fm.cx,e] using h
      cases i with
      | zero=>exact oneLt_int b
      | succ i =>
       have:(true && (i + 1 == 0))=false:=by simp
       rw[this];exact kat_one _ _ (lt_int (by first|exact⟨_,rfl,b⟩|exact b))
end
theorem HD {h:Heap}{a:Addr}{m m':Str->Option T0}(x:h.Ns a m)(y:h.Ns a m'):m=m':=by
 obtain⟨o,es,ep,e,hd,_,r⟩:=x;obtain⟨o',c,f,b,hd',_,d⟩:=y;rw[e]at b;cases b;rw[hd]at hd';cases hd';funext z;rw[<-r z,<-d z]
inductive cK (H:Hp):List V->List (List Int)->Prop
 | nil:cK H [] []
 | cons {a:Addr} {r:List Int} {vs:List V} {rs:List (List Int)}:H a=some (.tup (r.map V.int))->cK H vs rs->cK H (.ref a :: vs) (r :: rs)
theorem cK.get {H:Hp}:∀{c:List V} {b:List (List Int)} {i:Nat} {v:V},cK H c b->c[i]? = some v->∃a,v=.ref a/\H a=some (.tup ((b.getD i []).map V.int))
 | _,_,_,_,.nil,e=>by simp at e
 | _,_,0,_,.cons h t,e=>by simp at e;subst e;exact⟨_,rfl,h⟩
 | _,_,i + 1,v,.cons h t,e=>by
  obtain⟨a,h1,h2⟩:=cK.get (i:=i) (v:=v) t (by simpa using e);exact⟨a,h1,by simpa using h2⟩
theorem cK.length {H:Hp}:∀{b:List V} {a:List (List Int)},cK H b a->b.length=a.length
 | _,_,.nil=>rfl
 | _,_,.cons _ t=>by simp[cK.length t]
section
variable {X:Cx} {pos p:Pos}
theorem zK {i:Int}{u:T0}(r:bx (.int i) u):∃t,u=.int i t:=r
end
end Fm
namespace Fm
open PySem PySem.Spec L2
section
variable {X:Cx}
theorem mv (i:Nat) {x:Str} {pos:Pos} (b:X.N[i]? = some x:=by rfl) (c:Vis X.env.scope x:=by first|exact Or.inl rfl|exact Or.inr (Or.inl rfl)|exact Or.inr (Or.inr rfl)) (hd:(x == ("__debug__" : Str))=false:=by decide)
  (a:(x == ("__classdict__" : Str))=false:=by decide):ME X (.Name x pos) (aa i):=Hn b c hd a
end
theorem cL {k:Nat}{A:T2}(r:ip k A):A.units + 24 < cLine:=by have:=r.un;omega
def eU (X:Cx):List (Str × NameKind)->Prop
 | []=>True
 | y :: r=>(y.2=.free->X.env.kindOf y.1=some .cell\/X.env.kindOf y.1=some .free)/\eU X r
def bn (X:Cx) (scope:Scope):List Str->List Nat->Prop
 | [],[]=>True
 | x :: xs,i :: is=>(X.N[i]? = some x/\scope.names.lookup x=some .free)/\bn X scope xs is
 | _,_=>False
theorem eU.get {X:Cx}:∀{l:List (Str × NameKind)},eU X l->∀y∈l,y.2=.free->X.env.kindOf y.1=some .cell\/X.env.kindOf y.1=some .free
 | [],_,y,hy=>by simp at hy
 | z :: r,h,y,hy=>by
  rcases VI.mp hy with rfl|hy
  ·exact h.1
  ·exact eU.get h.2 y hy
theorem bn.get {X:Cx}{scope:Scope}:∀{capn:List Str} {caps:List Nat},bn X scope capn caps->(∀(j:Nat) x,capn[j]? = some x->∃i,caps[j]? = some i/\X.N[i]? = some x/\scope.names.lookup x=some .free)/\capn.length=caps.length
 | [],[],_=>⟨λj x e=>by simp at e,rfl⟩
 | x :: xs,i :: is,h=>by
  obtain⟨h1,h2⟩:=bn.get h.2;refine⟨λj y e => ?_,by simp[h2]⟩;cases j with
  | zero=>simp at e;subst e;exact⟨i,rfl,h.1⟩
  | succ j=>exact h1 j y (by simpa using e)
 | [],_ :: _,h=>h.elim
 | _ :: _,[],h=>h.elim
theorem eU.nil {X:Cx}:eU X []:=trivial
theorem eU.cons {X:Cx}{y:Str × NameKind}{r:List (Str × NameKind)}(h:y.2=.free->X.env.kindOf y.1=some .cell\/X.env.kindOf y.1=some .free)(t:eU X r):eU X (y :: r):=⟨h,t⟩
theorem bn.nil {X:Cx}{scope:Scope}:bn X scope [] []:=trivial
theorem bn.cons {X:Cx}{scope:Scope}{x:Str}{xs:List Str}{i:Nat}{a:List Nat}(h1:X.N[i]? = some x)(h2:scope.names.lookup x=some .free)(t:bn X scope xs a):bn X scope (x :: xs) (i :: a):=⟨⟨h1,h2⟩,t⟩
theorem bC.mk' {X:Cx}{scope:Scope}{own capn:List Str}{caps:List Nat}(k:scope.kind=.function)(c:∀y∈scope.names,y.2 ≠ .cell)(n:∀y∈scope.names,y.2=.local->scope.names.lookup y.1=some .local)(f:eU X scope.names)(cp:bn X scope capn caps):bC X scope own capn caps :=
 ⟨k,c,n,f.get,cp.get.1,cp.get.2⟩
section
variable {K:ZX} {ρ:List Addr} {H:Hp}
theorem vG {d:D}{v:V}(h:RD K ρ H d v)(f:dP d=true):kB v=true:=by
 cases d<;>simp only[RD]at h<;>first|(subst h;rfl)|(simp[dP]at f)
theorem eqS {x y:List Nat}:(x == y)=(toS x == toS y):=by
 by_cases z:x=y
 ·subst z;rw[beq_self_eq_true,beq_self_eq_true]
 ·have : ¬toS x=toS y:=λq=>z (by have:=congrArg (λ(s:Str)=>s.cps.toList) q;simpa[toS] using this)
  rw[beq_eq_false_iff_ne.mpr z,beq_eq_false_iff_ne.mpr this]
theorem E1 {d k:D}{v w:V}(h:RD K ρ H d v)(g:RD K ρ H k w)(f:dP d=true)(b:dP k=true):eqF d k=eqV v w:=by
 cases d with
 | non=>simp only[RD]at h;subst h;cases k<;>simp only[RD]at g<;>first|(subst g;rfl)|(simp[dP]at b)
 | bl a=>simp only[RD]at h;subst h;cases k<;>simp only[RD]at g<;>first|(subst g;rfl)|(simp[dP]at b)
 | int a=>simp only[RD]at h;subst h;cases k<;>simp only[RD]at g<;>first|(subst g;rfl)|(simp[dP]at b)
 | str a=>simp only[RD]at h;subst h;cases k<;>simp only[RD]at g<;>first|(subst g;rfl)|(subst g;exact eqS)|(simp[dP]at b)
 | tup l=>simp[dP]at f
 | ref n=>simp[dP]at f
 | lit l=>simp[dP]at f
 | exn c l=>simp[dP]at f
theorem rY:∀{l:List D} {a:List V},RDs K ρ H l a->l.all dP=true->a.all kB=true
 | [],_,h,_=>by simp only[RDs]at h;subst h;rfl
 | d :: l,_,h,f=>by
  simp only[RDs]at h;obtain⟨v,r,rfl,h1,h2⟩:=h;simp only[WO,Z7]at f ⊢;exact⟨vG h1 f.1,rY h2 f.2⟩
theorem zL {k:D}{w:V}(g:RD K ρ H k w)(a:dP k=true):∀{l:List D} {b:List V},RDs K ρ H l b->l.all dP=true->(l.any λz=>eqF z k)=b.any λz=>eqV z w
 | [],_,h,_=>by simp only[RDs]at h;subst h;rfl
 | d :: l,_,h,f=>by
  simp only[RDs]at h;obtain⟨v,r,rfl,h1,h2⟩:=h;simp only[WO,Z7]at f;rw[WP,WP,E1 h1 g f.1 a,zL g a h2 f.2]
end
section
variable {X:Cx} {pos:Pos}
theorem zM {K:ZX}{a:Bool}{ρ:List Addr}{H:Hp}{σd:Sd}{hd:Hd}{σ:St}{d k:D}{v w:V}{Q:VK}{b:Bool}(rs:RS K ρ H σd hd σ)(rv:RD K ρ H d v)(g:RD K ρ H k w)(e:inL hd d k=some b)
  (q:Q (.bl (if a then !b else b)) H):rIn K a v w H Q:=by
 simp only[inL]at e;cases c:gL hd k with
 | none=>rw[c]at e;cases e
 | some l =>
  rw[c]at e;simp only at e;split at e
  ·rename_i hf
   cases e;rw[Z7]at hf;obtain⟨p,i,rfl,h,f⟩:=tL rs.hp g c;refine⟨p,i,rfl,h.imp id SqT.of,vG rv hf.1,rY f hf.2,?_⟩;unfold inV;rw[<-zL rv hf.1 f hf.2];exact q
  ·cases e
theorem vH {K:ZX}:Og K oIn (rIn K false):=by
 intro ρ H σd hd σ d k v w Q c rv a p;unfold oIn at p;cases e:inL hd d k with
 | none=>rw[e]at p;exact p.elim
 | some b=>rw[e]at p;exact zM c rv a e (p.here c (by simp only[rD,RD];rfl))
theorem vI {K:ZX}:Og K hJ (rIn K true):=by
 intro ρ H σd hd σ d k v w Q c rv a p;unfold hJ at p;cases e:inL hd d k with
 | none=>rw[e]at p;exact p.elim
 | some b=>rw[e]at p;exact zM c rv a e (p.here c (by simp only[rD,RD];rfl))
theorem eB {i:Int}{j:Nat}{p2:Pos}:ME X (.UnaryOp .USub (.Constant (.int i) j p2) pos) (fC (.int (-i))) :=
 PE.imp (Js G6 BT) λσ H Q ⟨ρ,σd,hd,a,p⟩=>⟨i,rfl,p.here a (by simp only[rD,RD])⟩
end
end Fm
namespace Fm
open PySem PySem.Spec L2 PySem.W PyProof.Rows
theorem HE {l r:Nat}(h:l < r):l<=(l + r) / 2/\(l + r) / 2 < r:=by omega
variable {p:Array Nat}
section
variable {cmp:Nat->Nat->(Bool->T1->Prop)->T1->Prop} {n:Nat} {s:T1} {lt:Nat->Nat->Bool}
structure Ord (lt:Nat->Nat->Bool) (n:Nat):Prop where
 asy:∀i j,i < n->j < n->lt i j=true->lt j i=false
 tr:∀i j k,i < n->j < n->k < n->lt i j=true->lt j k=true->lt i k=true
 tot:∀i j,i < n->j < n->i≠j->lt i j=false->lt j i=true
structure Gd (n:Nat) (p:Array Nat):Prop where
 sz:p.size=n
 pm:p.Perm (List.toArray (List.range n))
theorem Gd.below (g:Gd n p){i:Nat}(hi:i < n):p.getD i 0 < n:=by
 have h1:i < p.size:=by rw[g.sz];exact hi
 have e:p.getD i 0=p[i]:=by simp[Array.getD,h1]
 rw[e];have m:p[i]∈p.toList:=by simp
 have:=(Array.perm_iff_toList_perm.mp g.pm).mem_iff.mp m;simpa using this
theorem Gd.ne (g:Gd n p){i j:Nat}(hi:i < n)(hj:j < n)(h:i≠j):p.getD i 0≠p.getD j 0:=by
 have h1:i < p.size:=by rw[g.sz];exact hi
 have h2:j < p.size:=by rw[g.sz];exact hj
 have e:p.getD i 0=p[i]:=by simp[Array.getD,h1]
 have b:p.getD j 0=p[j]:=by simp[Array.getD,h2]
 rw[e,b];have a:p.toList.Nodup:=(Array.perm_iff_toList_perm.mp g.pm).nodup_iff.mpr (by simpa using List.nodup_range);intro z;have:=(List.getElem_inj (xs:=p.toList) a (i:=i) (j:=j) (h₀ := by simpa using h1) (h₁ := by simpa using h2)).mp (by simpa using z);exact h this
def Srt (lt:Nat->Nat->Bool) (p:Array Nat) (m:Nat):Prop:=∀i j,i < j->j < m->lt (p.getD i 0) (p.getD j 0)=true
def Dsc (lt:Nat->Nat->Bool) (p:Array Nat) (m:Nat):Prop:=∀i j,i < j->j < m->lt (p.getD j 0) (p.getD i 0)=true
theorem gz:Gd n (List.toArray (List.range n)):=⟨by simp,Array.Perm.refl _⟩
theorem Srt.next {m:Nat}(O:Ord lt n)(g:Gd n p)(h:Srt lt p m)(h1:1<=m)(hm:m < n)(c:lt (p.getD (m - 1) 0) (p.getD m 0)=true):Srt lt p (m + 1):=by
 intro i j a b
 by_cases e:j < m
 ·exact h i j a e
 ·have:j=m:=by omega
  subst this
  by_cases e2:i=j - 1
  ·subst e2;exact c
  ·exact O.tr _ _ _ (g.below (by omega)) (g.below (by omega)) (g.below hm) (h i (j - 1) (by omega) (by omega)) c
theorem Dsc.next {m:Nat}(O:Ord lt n)(g:Gd n p)(h:Dsc lt p m)(h1:1<=m)(hm:m < n)(c:lt (p.getD m 0) (p.getD (m - 1) 0)=true):Dsc lt p (m + 1):=by
 intro i j a b
 by_cases e:j < m
 ·exact h i j a e
 ·have:j=m:=by omega
  subst this
  by_cases e2:i=j - 1
  ·subst e2;exact c
  ·exact O.tr _ _ _ (g.below hm) (g.below (by omega)) (g.below (by omega)) c (h i (j - 1) (by omega) (by omega))
variable (O:Ord lt n) (hc:∀i j,i < n->j < n->∀C:Bool->T1->Prop,C (lt i j) s->cmp i j C s)
include O hc
theorem kK {p:Array Nat}(g:Gd n p){Q:Nat->T1->Prop}(q:∀m,1<=m->m<=n->Srt lt p m->(m < n->lt (p.getD m 0) (p.getD (m - 1) 0)=true)->Q m s) :
  ∀(f m:Nat),1<=m->m + f=n->Srt lt p m->(kas_asc p f m).kasWp cmp Q s
 | 0,m,h1,e,h=>q m h1 (by omega) h λz=>by omega
 | f + 1,m,h1,e,h=>by
  refine hc _ _ (g.below (by omega)) (g.below (by omega)) _ ?_;cases c:lt (p.getD m 0) (p.getD (m - 1) 0) with
  | true=>((try dsimp only);(try rw[yD rfl]));exact q m h1 (by omega) h λ_=>c
  | false =>
   ((try dsimp only);(try rw[x3 Z0]))
   have a:=O.tot _ _ (g.below (by omega)) (g.below (by omega)) (g.ne (i:=m) (j:=m - 1) (by omega) (by omega) (by omega)) c;exact kK g q f (m + 1) (by omega) (by omega) (h.next O g h1 (by omega) a)
theorem og {p:Array Nat}(g:Gd n p){Q:Array Nat × Nat × Nat->T1->Prop}(q:∀m,1<=m->m<=n->Dsc lt p m->Q (p,m,0) s) :
  ∀(f m:Nat),1<=m->m + f=n->Dsc lt p m->(kas_desc f p m 0).kasWp cmp Q s
 | 0,m,h1,e,h=>q m h1 (by omega) h
 | f + 1,m,h1,e,h=>by
  refine hc _ _ (g.below (by omega)) (g.below (by omega)) _ ?_;cases c:lt (p.getD m 0) (p.getD (m - 1) 0) with
  | true =>
   ((try dsimp only);(try rw[yD rfl]));(try rw[x3 (by omega)])
   exact og g q f (m + 1) (by omega) (by omega) (h.next O g h1 (by omega) c)
  | false =>
   ((try dsimp only);(try rw[x3 Z0]))
   have a:=O.tot _ _ (g.below (by omega)) (g.below (by omega)) (g.ne (i:=m) (j:=m - 1) (by omega) (by omega) (by omega)) c;refine hc _ _ (g.below (by omega)) (g.below (by omega)) _ ?_;rw[a];((try dsimp only);(try rw[yD rfl]));exact q m h1 (by omega) h
omit hc in
theorem HF (g:Gd n p){m:Nat}(hm:m<=n)(h:Dsc lt p m):Gd n (kas_rev p 0 m)/\Srt lt (kas_rev p 0 m) m:=by
 have a:∀k,k < m->(kas_rev p 0 m).getD k 0=p.getD (m - 1 - k) 0:=λk c=>by
  have e:=getElem?_mirror_all (xs:=p) (i:=0) (j:=m) (by rw[g.sz];exact hm) k;rw[yD ⟨YG _,c⟩]at e;unfold kas_rev;rw[W3,W3,e,Z3]
 refine⟨⟨by unfold kas_rev;rw[mirror_size,g.sz],(mirror_perm _ _ _ _).trans g.pm⟩,λi j b d => ?_⟩;rw[a i (by omega),a j d];exact h _ _ (by omega) (by omega)
theorem tS (h2:2<=n){Q:Nat × Array Nat->T1->Prop}(q:∀m p,Gd n p->1<=m->m<=n->Srt lt p m->Q (m,p) s):(kas_count n (List.toArray (List.range n))).kasWp cmp Q s:=by
 unfold kas_count;rw[VJ];refine kK O hc gz (λm h1 k a hd => ?_) (n - 1) 1 (ZL _) (by omega) (λi j f h=>by omega)
 by_cases e:m=n
 ·subst e
  rw[yD (by simp)];exact q m _ gz h1 (ZL _) a
 ·rw[x3 (by simpa using e)]
  by_cases e1:m > 1
  ·rw[yD e1]
   refine hc _ _ (gz.below (by omega)) (gz.below (by omega)) _ ?_;have:=a 0 (m - 1) (by omega) (by omega);rw[this];((try dsimp only);(try rw[yD rfl]));exact q m _ gz h1 k a
  ·rw[x3 e1]
   have:m=1:=by omega
   subst this;have c:=hd (by omega);unfold kas_descPart;rw[VJ];refine og O hc gz (λm h1 k a => ?_) (n - 2) 2 (by omega) (by omega) (λi j f h => ?_)
   ·rw[x3 (by simp)]
    unfold kas_tail3;rw[VJ];obtain⟨l,o⟩:=HF O gz k a;exact kK O hc l (λm' g d b _=>q m' _ l g d b) (n - m) m h1 (by omega) o
   ·have hi:i=0:=by omega
    have h:j=1:=by omega
    subst hi h;exact c
theorem iS {p:Array Nat}(g:Gd n p){k:Nat}(h:k < n)(o:Srt lt p k){Q:Nat->T1->Prop}(q:∀l,l<=k->(∀i,i < l->lt (p.getD i 0) (p.getD k 0)=true)->(∀i,l<=i->i < k->lt (p.getD k 0) (p.getD i 0)=true)->Q l s) :
  ∀(f l r:Nat),r - l<=f->l<=r->r<=k->(∀i,i < l->lt (p.getD i 0) (p.getD k 0)=true)->(∀i,r<=i->i < k->lt (p.getD k 0) (p.getD i 0)=true)->(kas_place p k f l r).kasWp cmp Q s
 | 0,l,r,hf,hl,hr,a,b=>q l (ZM hl hr) a λi h1 h2=>b i (ZM (Nat.le_of_sub_eq_zero (Nat.le_zero.mp hf)) h1) h2
 | f + 1,l,r,hf,hl,hr,a,b=>by
  unfold kas_place
  by_cases e:l ≥ r
  ·rw[yD e]
   exact q l (ZM hl hr) a λi h1 h2=>b i (ZM e h1) h2
  ·rw[x3 e]
   have u:l < r:=Nat.not_le.mp e;have m:=HE u;generalize (l + r) / 2=M at m;have t:M < k:=ZZ m.2 hr;have d:M < n:=Z1 t h;refine hc _ _ (g.below h) (g.below d) _ ?_;cases c:lt (p.getD k 0) (p.getD M 0) with
   | true =>
    ((try dsimp only);(try rw[yD rfl]))
    refine iS g h o q f l M (XR (ZZ (Nat.sub_lt_sub_right m.1 m.2) hf)) m.1 (Y6 t) a λi h1 h2 => ?_
    by_cases z:i=M
    ·subst z;exact c
    ·exact O.tr _ _ _ (g.below h) (g.below d) (g.below (Z1 h2 h)) c (o _ i (WE h1 (XO z)) h2)
   | false =>
    ((try dsimp only);(try rw[x3 Z0]))
    have v:=O.tot _ _ (g.below h) (g.below d) (g.ne (i:=k) (j:=M) h d (Z6 t)) c;refine iS g h o q f (M + 1) r (XR (ZZ (Nat.sub_lt_sub_left u (Nat.lt_succ_of_le m.1)) hf)) m.2 hr (λi h1 => ?_) b
    by_cases z:i=M
    ·subst z;exact v
    ·have hi:i < M:=WE (XR h1) z
     exact O.tr _ _ _ (g.below (Z1 hi d)) (g.below d) (g.below h) (o i _ hi t) v
theorem pM {Q:Array Nat->T1->Prop}(q:∀p,Gd n p->Srt lt p n->Q p s):∀(f:Nat) (p:Array Nat) (k:Nat),Gd n p->k + f=n->Srt lt p k->(kas_bin f p k).kasWp cmp Q s
 | 0,p,k,g,e,h=>by
  have:k=n:=e;subst this;exact q p g h
 | f + 1,p,k,g,e,h=>by
  unfold kas_bin;rw[VJ];have v:k < n:=e ▸ Nat.lt_add_of_pos_right (Nat.succ_pos f);refine iS O hc g v h (λl u a b => ?_) k 0 k (ZL _) (YG _) (ZL _) (λi z=>absurd z (XC _)) (λi z x=>absurd x (Nat.not_lt.mpr z));have r:k < p.size:=by rw[g.sz];exact v
  have m:∀i,(bubble p k (k - l)).getD i 0=if i=l then p.getD k 0 else if l < i/\i<=k then p.getD (i - 1) 0 else p.getD i 0:=λi=>by
   have:=getElem?_bubble r (k - l) (Nat.sub_le _ _) i;rw[Nat.sub_sub_self u]at this;simp only[W3];rw[this]
   by_cases c1:i=l
   ·rw[yD c1,yD c1]
   ·rw[x3 c1,x3 c1]
    by_cases c2:l < i/\i<=k
    ·rw[yD c2,yD c2]
    ·rw[x3 c2,x3 c2]
  refine pM q f _ (k + 1) ⟨by rw[bubble_size,g.sz],(bubble_perm _ _ _).trans g.pm⟩ (by rw[WY];exact e) λi j c y => ?_;have o:j<=k:=XR y;have t:j - 1 < k:=Nat.sub_one_lt_of_le (Nat.zero_lt_of_lt c) o;rw[m i,m j]
  by_cases c1:i=l
  ·have d:l < j:=c1 ▸ c
   rw[yD c1,x3 (Z6 d),yD ⟨d,o⟩];exact b _ (Nat.le_sub_one_of_lt d) t
  ·rw[x3 c1]
   by_cases c2:l < i/\i<=k
   ·have d:l < j:=Z1 c2.1 c
    rw[yD c2,x3 (Z6 d),yD ⟨d,o⟩];exact h _ _ (Nat.sub_lt_sub_right (Nat.zero_lt_of_lt c2.1) c) t
   ·rw[x3 c2]
    have w:i < l:=WE (Nat.not_lt.mp λz=>c2 ⟨z,ZM (Y6 c) o⟩) c1
    by_cases c3:j=l
    ·rw[yD c3];exact a _ w
    ·rw[x3 c3]
     by_cases c4:l < j/\j<=k
     ·rw[yD c4]
      exact h _ _ (ZZ w (Nat.le_sub_one_of_lt c4.1)) t
     ·rw[x3 c4]
      have A:j < l:=WE (Nat.not_lt.mp λz=>c4 ⟨z,o⟩) c3;exact h _ _ c (ZZ A u)
theorem vJ (h2:2<=n){Q:Array Nat->T1->Prop}(q:∀p,Gd n p->Srt lt p n->Q p s):(kas_sort n).kasWp cmp Q s:=by
 unfold kas_sort;rw[VJ];refine tS O hc h2 λm p g h1 b a => ?_
 by_cases e:m < n
 ·rw[yD e]
  have:max m 1=m:=by omega
  show KasT.kasWp cmp (kas_bin (n - max m 1) p (max m 1)) Q s;rw[this];exact pM O hc q (n - m) p m g (by omega) a
 ·rw[x3 e]
  have:m=n:=by omega
  subst this;exact q p g a
end
end Fm
namespace Fm
def tT (x:List Int):List (List Int)->List (List Int)
 | []=>[x]
 | y :: r=>if cx x y=true then x :: y :: r else y :: tT x r
def cQ:List (List Int)->List (List Int)
 | []=>[]
 | x :: r=>tT x (cQ r)
def tU (r:List Int):D:=.tup (r.map .int)
@[simp] def xI:O2:=λx y h=>(oIc (λ_ j=>decide (0<=j)) (λi j=>i / 2 ^ j.toNat)) x y h
@[simp] def oh:O2:=λx y h=>(oIc (λi j=>decide (0<=i) && decide (j=1)) (λi _=>i % 2)) x y h
theorem lH:∀a,cx a a=false
 | []=>rfl
 | x :: a=>by simp[cx,lH a]
theorem gQ:∀{a b c},cx a b=true->cx b c=true->cx a c=true
 | [],[],_,h,_=>by simp[cx]at h
 | [],_ :: _,[],_,h=>by simp[cx]at h
 | [],_ :: _,_ :: _,_,_=>rfl
 | _ :: _,[],_,h,_=>by simp[cx]at h
 | _ :: _,_ :: _,[],_,h=>by simp[cx]at h
 | x :: a,y :: b,z :: c,h,h'=>by
  simp only[cx]at h h' ⊢
  by_cases e:x=y
  ·subst e
   rw[yD rfl]at h
   by_cases e2:x=z
   ·subst e2
    rw[yD rfl]at h' ⊢;exact gQ h h'
   ·rw[x3 e2]at h' ⊢;exact h'
  ·rw[x3 e]at h
   by_cases e2:y=z
   ·subst e2
    rw[x3 e];exact h
   ·rw[x3 e2]at h'
    simp at h h';rw[x3 (by omega)];simp;omega
theorem mM:∀{a b},a≠b->cx a b=false->cx b a=true
 | [],[],h,_=>absurd rfl h
 | [],_ :: _,_,h=>by simp[cx]at h
 | _ :: _,[],_,_=>rfl
 | x :: a,y :: b,h,h'=>by
  simp only[cx]at h' ⊢
  by_cases e:x=y
  ·subst e
   rw[yD rfl]at h' ⊢;exact mM (λz=>h (by rw[z])) h'
  ·rw[x3 e]at h'
   rw[x3 (XO e)];simp at h' ⊢;omega
theorem oj {a b:List Int}(h:cx a b=true):cx b a=false:=by
 cases c:cx b a with
 | false=>rfl
 | true=>have:=gQ h c;rw[lH]at this;cases this
theorem mN (x:List Int):∀r,(tT x r).Perm (x :: r)
 | []=>.refl _
 | y :: r=>by
  simp only[tT];split
  ·exact .refl _
  ·exact((mN x r).cons y).trans (.swap x y r)
theorem hX:∀r,(cQ r).Perm r
 | []=>.refl _
 | x :: r=>(mN x _).trans ((hX r).cons x)
theorem pN {x:List Int}:∀{r:List (List Int)},x∉r->r.Pairwise (λa b=>cx a b=true)->(tT x r).Pairwise (λa b=>cx a b=true)
 | [],_,_=>by simp[tT]
 | y :: r,hx,h=>by
  simp only[tT];have e : ¬x=y:=λz=>hx (by simp[z]);have g:x∉r:=λz=>hx (by simp[z]);obtain⟨h1,h2⟩:=List.pairwise_cons.mp h;split
  ·rename_i c
   refine List.pairwise_cons.mpr ⟨λb d => ?_,h⟩;rcases VI.mp d with rfl|d
   ·exact c
   ·exact gQ c (h1 b d)
  ·rename_i c
   have f:=mM e (by simpa using c);refine List.pairwise_cons.mpr ⟨λb d => ?_,pN g h2⟩;rcases VI.mp ((mN x r).mem_iff.mp d) with rfl|d
   ·exact f
   ·exact h1 b d
theorem jJ:∀{r:List (List Int)},r.Nodup->(cQ r).Pairwise (λa b=>cx a b=true)
 | [],_=>.nil
 | x :: r,h=>by
  obtain⟨h1,h2⟩:=List.nodup_cons.mp h;exact pN (λz=>h1 ((hX r).mem_iff.mp z)) (jJ h2)
theorem AQ {a b:List (List Int)}(p:a.Perm b)(ha:a.Pairwise (λa b=>cx a b=true))(hb:b.Pairwise (λa b=>cx a b=true)):a=b :=
 List.Perm.eq_of_pairwise (λx y _ _ h c=>by have:=oj h;rw[c]at this;cases this) ha hb p
end Fm
namespace Fm
open PySem PySem.Spec L2 PySem.W PyProof.Rows
section
variable {X:Cx} {pos p:Pos}
theorem cK.rds {K:ZX}{ρ:List Addr}{H:Hp}:∀{c:List V} {b:List (List Int)},cK H c b->RDs K ρ H (b.map tU) c
 | _,_,.nil=>RDs.nil
 | _,_,.cons (a:=a) (r:=r) h t=>by
  refine RDs.cons ?_ (cK.rds t);unfold tU;simp only[RD];refine⟨a,_,rfl,h,?_⟩;clear h
  induction r with
  | nil=>exact RDs.nil
  | cons x r ih=>exact RDs.cons (by simp only[RD]) ih
theorem cK.pick {H:Hp}{vs:List V}{rs:List (List Int)}(h:cK H vs rs):∀(l:List Nat),(∀i∈l,i < vs.length)->cK H (l.map λi=>vs.getD i .non) (l.map λi=>rs.getD i [])
 | [],_=>.nil
 | i :: l,hl=>by
  have hi:i < vs.length:=hl i (by simp);obtain⟨a,e,b⟩:=h.get (i:=i) (v:=vs[i]) (by simp[hi]);have t:=cK.pick h l λj c=>hl j (by simp[c]);have:vs.getD i .non=.ref a:=by simp[List.getD,hi,e]
  simp only[x8,this];exact .cons b t
theorem aR.pick {vs:List V}{a:List T0}(h:aR vs a):∀(l:List Nat),(∀i∈l,i < vs.length)->aR (l.map λi=>vs.getD i .non) (l.map λi=>a.getD i Value.none)
 | [],_=>.nil
 | i :: l,hl=>by
  have hi:i < vs.length:=hl i (by simp);obtain⟨u,e,b⟩:=h.get (i:=i) (x:=vs[i]) (by simp[hi]);have t:=aR.pick h l λj c=>hl j (by simp[c]);simp only[x8];refine .cons ?_ t;simp[List.getD,hi,e];exact b
end
section
variable {X:Cx} {pos p:Pos}
theorem HG {K:ZX}:Og K xI (rI (λ_ j=>0<=j) λi j=>.int (i / 2 ^ j.toNat)):=vx λi j h=>Y9 h
theorem E2 {i:Int}(h:0<=i):Builtin.bitAnd i 1=i % 2:=by
 unfold Builtin.bitAnd;rw[w8 h];show ((i.toNat &&& 1:Nat):Int)=i % 2;rw[Nat.and_one_is_mod];omega
theorem E3 {K:ZX}:Og K oh (rI0 λi j=>.int (Builtin.bitAnd i j)):=by
 intro ρ H σd hd σ d k v w Q b rv a p;cases d<;>cases k<;>first|exact p.elim|skip
 rename_i i j
 simp only[oh,oIc]at p;split at p
 ·rename_i hc
  simp at hc;obtain⟨h1,rfl⟩:=hc;simp only[RD]at rv a;refine⟨_,_,rv,a,?_⟩;show Q (V.int (Builtin.bitAnd i 1)) H;rw[E2 h1];exact p.here b (by simp only[rD,RD])
 ·exact p.elim
theorem RDs.rep {K:ZX}{ρ:List Addr}{H:Hp}{l:List D}{vs:List V}(r:RDs K ρ H l vs):∀k,RDs K ρ H (List.replicate k l).flatten (List.replicate k vs).flatten
 | 0=>RDs.nil
 | k + 1=>by
  rw[YW,YW,YZ,YZ];exact RDs.append r (RDs.rep r k)
end
end Fm
namespace Fm
@[simp] def zN:EF:=λ_ h=>.ok (.ref h.length) (h++[.dct []])
def pO (l:List (Int × D)) (k:Int):Option D:=(l.find? λp=>decide (p.1=k)).map (·.2)
def xJ (l:List (Int × D)) (k:Int) (v:D):List (Int × D):=if (l.any λp=>decide (p.1=k))=true then l.map (λp=>if p.1=k then (p.1,v) else p) else l++[(k,v)]
@[simp] def Cs:O2:=λx y h=>match x,y with
 | .int k,.ref n=>match h[n]? with|some (.dct l)=>.ok (.bl (pO l k).isSome) h|_=>.bad
 | _,_=>.bad
@[simp] def vK (x i e:EF):SF:=λσ h=>outE (e σ h) σ λd h=>outE (x σ h) σ λp h=>outE (i σ h) σ λj h=>match p,j with
 | .ref n,.int k=>match h[n]? with
  | some (.dct l)=>if l.length < SZ then .nx σ (h.set n (.dct (xJ l k d))) else .bad
  | _=>.bad
 | _,_=>.bad
def eC:List (Int × D)->Option (List (List Int))
 | []=>some []
 | (k,.int v) :: r=>(eC r).map λl=>[k,v] :: l
 | _=>none
@[simp] def mO (a:EF):LF:=λσ h=>(a σ h).bind λx h=>match x with
 | .ref n=>match h[n]? with
  | some (.dct l)=>match eC l with
   | some r=>if r.length < 64/\r.Nodup then .ok ((cQ r).map tU) h else .bad
   | none=>.bad
  | _=>.bad
 | _=>.bad
end Fm
namespace L2
open PySem PySem.Spec PyProof.Rows
section
variable {κ : Type} [DecidableEq κ]
def fD (kvs:List (κ × V)) (k : κ):Option V:=(kvs.find? λkv=>decide (kv.1=k)).map (·.2)
def iC (kvs:List (κ × V)) (k : κ) (v:V):List (κ × V) :=
 if (kvs.any λkv=>decide (kv.1=k))=true then kvs.map (λkv=>if kv.1=k then (kv.1,v) else kv) else kvs++[(k,v)]
theorem pP {p : κ × V}{r:List (κ × V)}{k : κ}(e:p.1=k):fD (p :: r) k=some p.2:=by simp[fD,List.find?_cons,e]
theorem jK {p : κ × V}{r:List (κ × V)}{k : κ}(e : ¬p.1=k):fD (p :: r) k=fD r k:=by simp[fD,List.find?_cons,e]
theorem vL (k : κ):∀a:List (κ × V),(a.any λb=>decide (b.1=k))=(fD a k).isSome
 | []=>rfl
 | p :: r=>by
  rw[WP]
  by_cases e:p.1=k
  ·simp only[pP e,w8 e,Bool.true_or,Option.isSome_some]
  ·rw[jK e,ZY e,Bool.false_or];exact vL k r
theorem om (kvs:List (κ × V))(k : κ)(v:V):(iC kvs k v).length<=kvs.length + 1:=by
 unfold iC;split
 ·rw[ZA];omega
 ·rw[ZB,Y7,List.length_nil];omega
theorem qI.isSome_eq {o:Option V}{u:Option T0}(r:qI o u):o.isSome=u.isSome:=by
 cases o with
 | none=>cases u with
  | none=>rfl
  | some _=>exact(show False from r).elim
 | some _=>cases u with
  | none=>exact(show False from r).elim
  | some _=>rfl
theorem KV.val {kvs:List (κ × V)}{vs:List (κ × T0)}(r:KV kvs vs)(k : κ):qI (fD kvs k) (valueAt vs k):=by
 unfold KV at r
 induction r with
 | nil=>exact True.intro
 | @cons p q ps qs h t ih =>
  obtain⟨h1,h2⟩:=h
  by_cases e:p.1=k
  ·have a:q.1=k:=h1.symm.trans e
   have b:valueAt (q :: qs) k=some q.2:=by simp[valueAt,List.find?_cons,a]
   rw[pP e,b];exact h2
  ·have a : ¬q.1=k:=λz=>e (h1.trans z)
   have b:valueAt (q :: qs) k=valueAt qs k:=by simp[valueAt,List.find?_cons,a]
   rw[jK e,b];exact ih
theorem KV.any {kvs:List (κ × V)}{vs:List (κ × T0)}(r:KV kvs vs)(k : κ):(kvs.any λa=>decide (a.1=k))=vs.any λa=>decide (a.1=k):=by
 unfold KV at r
 induction r with
 | nil=>rfl
 | cons h t ih=>rw[WP,WP,ih,h.1]
theorem KV.repl {kvs:List (κ × V)}{vs:List (κ × T0)}(r:KV kvs vs)(k : κ){y:V}{u:T0}(b:bx y u) :
  KV (kvs.map λa=>if a.1=k then (a.1,y) else a) (vs.map λa=>if a.1=k then (a.1,u) else a):=by
 unfold KV at r ⊢
 induction r with
 | nil=>exact .nil
 | @cons p q ps qs h t ih =>
  rw[x8,x8];refine .cons ?_ ih;obtain⟨h1,h2⟩:=h
  by_cases e:p.1=k
  ·rw[yD e,yD (h1.symm.trans e)];exact⟨h1,b⟩
  ·rw[x3 e,x3 (λz=>e (h1.trans z))];exact⟨h1,h2⟩
theorem KV.put {kvs:List (κ × V)}{vs:List (κ × T0)}(r:KV kvs vs)(k : κ){y:V}{u:T0}(a:bx y u):KV (iC kvs k y) (stored vs k u):=by
 unfold iC stored;rw[r.any k]
 by_cases e:(vs.any λb=>decide (b.1=k))=true
 ·rw[yD e,yD e];exact r.repl k a
 ·rw[x3 e,x3 e];exact Paired.snoc r ⟨rfl,a⟩
theorem KV.length {kvs:List (κ × V)}{vs:List (κ × T0)}(r:KV kvs vs):kvs.length=vs.length:=Paired.length r
end
theorem vM {P:T3}{w:T4}{k:Key}{u:T0}(r:bx (kV k) u):(cN P w).is k u=true:=by
 cases k with
 | inl i=>obtain⟨t,e⟩:=(show ∃t,u=Value.int i t from r);subst e;exact vf P w i t
 | inr x=>obtain⟨t,e⟩:=(show ∃t,u=Value.str x t from r);subst e;exact vg P w x t
theorem rZ {P:T3}{w:T4}:∀{a:List Key} {b:List T0},aR (a.map kV) b->ItemsAre (cN P w) a b
 | [],_,r=>by rw[VW]at r;cases r;exact .nil
 | k :: a,_,r=>by
  rw[x8]at r;cases r with
  | cons h t=>exact .cons (vM h) (rZ t)
abbrev KT (H:Hp):List (List Key × V)->List (List Key × Addr × T0)->Prop:=Paired λp q=>p.1=q.1/\H q.2.1=some (.tup (p.1.map kV))/\bx p.2 q.2.2
variable {H:Hp}
theorem KT.val {kvs:List (List Key × V)}{xs:List (List Key × Addr × T0)}(r:KT H kvs xs)(k:List Key):qI (fD kvs k) ((atKey xs k).map (·.2)):=by
 induction r with
 | nil=>exact True.intro
 | @cons p q ps qs h t ih =>
  obtain⟨h1,_,h2⟩:=h
  by_cases e:p.1=k
  ·have a:q.1=k:=h1.symm.trans e
   have b:atKey (q :: qs) k=some q.2:=by simp[atKey,List.find?_cons,a]
   rw[pP e,b];exact h2
  ·have a : ¬q.1=k:=λz=>e (h1.trans z)
   have b:atKey (q :: qs) k=atKey qs k:=by simp[atKey,List.find?_cons,a]
   rw[jK e,b];exact ih
theorem KT.repl {kvs:List (List Key × V)}{xs:List (List Key × Addr × T0)}(r:KT H kvs xs)(k:List Key){y:V}{u:T0}(b:bx y u) :
  KT H (kvs.map λa=>if a.1=k then (a.1,y) else a) (xs.map (putAt k u)):=by
 induction r with
 | nil=>exact .nil
 | @cons p q ps qs h t ih =>
  rw[x8,x8];refine .cons ?_ ih;obtain⟨h1,h2,c⟩:=h;unfold putAt
  by_cases e:p.1=k
  ·rw[yD e,yD (h1.symm.trans e)];exact⟨h1,h2,b⟩
  ·rw[x3 e,x3 (λz=>e (h1.trans z))];exact⟨h1,h2,c⟩
theorem KT.put {kvs:List (List Key × V)}{xs:List (List Key × Addr × T0)}(r:KT H kvs xs)(k:List Key){b:Addr}{y:V}{u:T0}(hb:H b=some (.tup (k.map kV)))(a:bx y u) :
  KT H (iC kvs k y) (storedH xs k b u):=by
 have e:(kvs.any λc=>decide (c.1=k))=(atKey xs k).isSome:=by
  rw[vL,(r.val k).isSome_eq,Option.isSome_map]
 unfold iC storedH;rw[e]
 by_cases q:(atKey xs k).isSome=true
 ·rw[yD q,yD q];exact r.repl k a
 ·rw[x3 q,x3 q];exact Paired.snoc r ⟨rfl,hb,a⟩
theorem KT.keeps {H':Hp}{kvs:List (List Key × V)}{xs:List (List Key × Addr × T0)}(r:KT H kvs xs)(ht:∀b ys,H b=some (.tup ys)->H' b=some (.tup ys)):KT H' kvs xs :=
 Paired.mapP r λ_ _ z=>⟨z.1,ht _ _ z.2.1,z.2.2⟩
variable {kvs:List (Key × V)}
section
variable {P:T3} {w:T4} {H:Hp} {h:Heap} {a:Addr}
theorem Gk {u:HO}(ok:HOk P w H h)(e:Rd H a u):dz P w H h a u:=e.ok ok
theorem r6 (ok:HOk P w H h)(e:Rd H a (.dK kvs)):kvs.length<=sizeLine/\(a == sysModules)=false/\∃b,KV kvs b/\h.DictOf (cN P w) a b :=
 show dz P w H h a (.dK kvs) from Gk ok e
theorem Ct (ok:HOk P w H h)(e:H a=some (.dK kvs)):kvs.length<=sizeLine/\(a == sysModules)=false/\∃b,KV kvs b/\h.DictOf (cN P w) a b:=r6 ok (.inl e)
theorem pQ {ks:List Key}(ok:HOk P w H h)(e:H a=some (.tup (ks.map kV))):(tupleKind (cN P w)).is h ks a:=by
 obtain⟨_,b,r,o,h1,h2,n,c⟩:=(show dz P w H h a (.tup (ks.map kV)) from ok a _ e);exact⟨o,b.toArray,n,h1,h2,c,by simpa using rZ r⟩
theorem sf {kvs:List (List Key × V)}(ok:HOk P w H h)(e:Rd H a (.dT kvs)):kvs.length<=sizeLine/\(a == sysModules)=false/\
  ∃xs,KT H kvs xs/\h.DictOfH (tupleKind (cN P w)) a xs:=by
 obtain⟨z,y,xs,r,o,es,ep,h1,h2,f,g,d⟩:=(show dz P w H h a (.dT kvs) from Gk ok e);refine⟨z,y,xs,r,o,es,ep,h1,h2,f,g,λx b => ?_,d⟩;have c:∀{l:List (List Key × V)} {m:List (List Key × Addr × T0)},KT H l m->∀x∈m,(tupleKind (cN P w)).is h x.1 x.2.1:=by
  intro l m q
  induction q with
  | nil=>intro x b;exact nomatch b
  | @cons p q ps qs hq t ih =>
   intro x b;rcases VI.mp b with e|b
   ·subst e
    exact pQ ok (by rw[<-hq.1];exact hq.2.1)
   ·exact ih x b
 exact c r x b
theorem JQ {kvs:List (List Key × V)}(ok:HOk P w H h)(e:H a=some (.dT kvs)):kvs.length<=sizeLine/\(a == sysModules)=false/\
  ∃xs,KT H kvs xs/\h.DictOfH (tupleKind (cN P w)) a xs:=sf ok (.inl e)
end
def lI (H:Hp) (a:Addr) (y:V) (r:Option V):Prop :=
 (∃kvs k,Rd H a (.dK kvs)/\y=kV k/\r=fD kvs k)\/∃kvs k b,Rd H a (.dT kvs)/\y=.ref b/\H b=some (.tup (k.map kV))/\r=fD kvs k
def vN (H:Hp) (a:Addr) (y v:V) (H':Hp):Prop :=
 (∃kvs k,H a=some (.dK kvs)/\y=kV k/\kvs.length < sizeLine/\H'=upd H a (.dK (iC kvs k v)))\/
 ∃kvs k b,H a=some (.dT kvs)/\y=.ref b/\H b=some (.tup (k.map kV))/\kvs.length < sizeLine/\H'=upd H a (.dT (iC kvs k v))
theorem lI.k {a:Addr}{k:Key}(e:H a=some (.dK kvs)):lI H a (kV k) (fD kvs k):=.inl ⟨kvs,k,.inl e,rfl,rfl⟩
theorem lI.t {a b:Addr}{kvs:List (List Key × V)}{k:List Key}(e:H a=some (.dT kvs))(c:H b=some (.tup (k.map kV))):lI H a (.ref b) (fD kvs k):=.inr ⟨kvs,k,b,.inl e,rfl,c,rfl⟩
theorem vN.k {a:Addr}{k:Key}{v:V}(e:H a=some (.dK kvs))(b:kvs.length < sizeLine):vN H a (kV k) v (upd H a (.dK (iC kvs k v))):=.inl ⟨kvs,k,e,rfl,b,rfl⟩
theorem vN.t {a b:Addr}{kvs:List (List Key × V)}{k:List Key}{v:V}(e:H a=some (.dT kvs))(c:H b=some (.tup (k.map kV)))(d:kvs.length < sizeLine) :
  vN H a (.ref b) v (upd H a (.dT (iC kvs k v))):=.inr ⟨kvs,k,b,e,rfl,c,d,rfl⟩
section
variable {X:Cx} {pins:List (Addr × Obj)} {σ:St} {H:Hp} {s:T1} {a:Addr} {y v:V} {u r:T0} {o:Option V} {A:T2} {E:T0->T1->Prop}
theorem Inv.big (I:Inv X pins σ H s):sysModules < s.heap.objs.size:=by
 have h:mainGlobals < s.heap.objs.size:=(I.mod.glob.keeps I.bk).lt;exact Z1 (by decide) h
theorem AR {Q:T0->T1->Prop}(t:A.units + 1 < cLine)(I:Inv X pins σ H s)(g:lI H a y (some v))(m:bx y u)(h:∀w' j,Inv X pins σ H j->bx v w'->Q w' j) :
  wpAny (model X.prog X.w) A (getItem (.ref a) u) Q E s:=by
 rcases g with ⟨kvs,k,e,ey,l⟩|⟨kvs,k,b,e,ey,eb,l⟩
 ·subst ey
  obtain⟨z,hd,q,c,f⟩:=r6 I.hok e;obtain⟨w',hw,d⟩:=qI.some_of (v:=v) (o:=valueAt q k) (by rw[l];exact c.val k);exact wpAny_getItem_of (vM m) f.mapOf hw (h w' _ (I.tok _) d)
 ·subst ey
  cases (show u=Value.ref b from m);obtain⟨z,hd,xs,c,f⟩:=sf I.hok e;obtain⟨w',hw,d⟩:=qI.some_of (v:=v) (o:=(atKey xs k).map (·.2)) (by rw[l];exact c.val k);obtain⟨p,n,i⟩:=Option.map_eq_some_iff.mp hw;refine wpAny_getItem_heap (VP t) (pQ I.hok eb) f n ?_;rw[i];exact h w' _ (I.tok _) d
theorem KY {Q:T0->T1->Prop}(j:A.units + 1 < cLine)(I:Inv X pins σ H s)(g:lI H a y o)(i:bx y u)(h:∀f,Inv X pins σ H f->Q (.bool o.isSome) f) :
  wpAny (model X.prog X.w) A (compareOp .In u (.ref a)) Q E s:=by
 rcases g with ⟨kvs,k,e,ey,l⟩|⟨kvs,k,b,e,ey,eb,l⟩
 ·subst ey
  obtain⟨z,hd,m,c,d⟩:=r6 I.hok e;refine wpAny_in_of (vM i) hd d.mapOf ?_;rw[<-(c.val k).isSome_eq,<-l];exact h _ (I.tok _)
 ·subst ey
  cases (show u=Value.ref b from i);obtain⟨z,hd,xs,c,d⟩:=sf I.hok e;refine wpAny_in_heap (VP j) (pQ I.hok eb) hd d ?_;have q:=(c.val k).isSome_eq;rw[Option.isSome_map]at q;rw[<-q,<-l];exact h _ (I.tok _)
theorem E4 {Q:T0->T1->Prop}(j:A.units + 1 < cLine)(I:Inv X pins σ H s)(g:lI H a y o)(i:bx y u)(h:∀f,Inv X pins σ H f->Q (.bool (!o.isSome)) f) :
  wpAny (model X.prog X.w) A (compareOp .NotIn u (.ref a)) Q E s:=by
 rcases g with ⟨kvs,k,e,ey,l⟩|⟨kvs,k,b,e,ey,eb,l⟩
 ·subst ey
  obtain⟨z,hd,m,c,d⟩:=r6 I.hok e;refine wpAny_notIn_of (vM i) hd d.mapOf ?_;rw[<-(c.val k).isSome_eq,<-l];exact h _ (I.tok _)
 ·subst ey
  cases (show u=Value.ref b from i);obtain⟨z,hd,xs,c,d⟩:=sf I.hok e;refine wpAny_notIn_heap (VP j) (pQ I.hok eb) hd d ?_;have q:=(c.val k).isSome_eq;rw[Option.isSome_map]at q;rw[<-q,<-l];exact h _ (I.tok _)
theorem zO {h':Heap}{t':Nat}{c:HO}(I:Inv X pins σ H s)(f:Mut (H a))(g:Heap.SameBut a s.heap h')(he:∃q,h'.get? a=some q)(new:dz X.prog X.w (upd H a c) h' a c) :
  Inv X pins σ (upd H a c) { s with heap:=h',toks:=t' } :=
 I.write (x:=a) (e:=a) f (.inl rfl) (λb q d z=>(g.2 b d).trans z) he new
theorem HJ {P:T3}{w:T4}{H':Hp}{h':Heap}{vs:List (Key × T0)}(z:kvs.length<=sizeLine)(hd:(a == sysModules)=false)(rel:KV kvs vs)(b:h'.DictOf (cN P w) a vs) :
  dz P w H' h' a (.dK kvs):=⟨z,hd,vs,rel,b⟩
theorem AS {H':Hp}{Q:Unit->T1->Prop}(G:A.units + 1 < cLine)(I:Inv X pins σ H s)(g:vN H a y v H')(x:bx y u)(rv:bx v r)(h:∀t,Inv X pins σ H' t->Q () t) :
  wpAny (model X.prog X.w) A (setItem (.ref a) u r) Q E s:=by
 rcases g with ⟨kvs,k,e,ey,l,eH⟩|⟨kvs,k,b,e,ey,eb,l,eH⟩
 ·subst ey eH
  obtain⟨z,hd,F,d,j⟩:=Ct I.hok e;have p:F.length<=sizeLine:=by rw[<-d.length];exact z
  have m:(iC kvs k v).length<=sizeLine:=by have:=om kvs k v;omega
  refine wpAny_setItem_pairs (hsz:=p) (vM x) j λB f n=>h _ ?_;have K:∃q,B.get? a=some q:=let ⟨q,_,_,i,_⟩:=f;⟨q,i⟩;exact zO I (by rw[e];exact True.intro) n K (HJ m hd (d.put k rv) f)
 ·subst ey eH
  cases (show u=Value.ref b from x);obtain⟨z,hd,xs,d,j⟩:=JQ I.hok e;have p:xs.length<=sizeLine:=by rw[<-Paired.length d];exact z
  have m:(iC kvs k v).length<=sizeLine:=by have:=om kvs k v;omega
  refine wpAny_setItem_heap (hsz:=p) (VP G) (pQ I.hok eb) j λB f n=>h _ ?_;obtain⟨q,es,ep,i,h2,D,J,_,C⟩:=f;refine zO I (by rw[e];exact True.intro) n ⟨q,i⟩ ⟨m,hd,_,(d.put k eb rv).keeps λc ys w => ?_,q,es,ep,i,h2,D,J,C⟩;rw[aB (Jf w e (λz=>nomatch z))];exact w
end
section
variable {X:Cx} {pins:List (Addr × Obj)} {σ:St} {H:Hp} {s:T1} {a:Addr} {kvs:List (Key × V)} {k:Key} {u:T0} {A:T2} {E:T0->T1->Prop}
end
def HK (i:Expr):Prop:=∀ov iv,subscripted i false ov iv=operate [ov,iv] (getItem ov iv)
theorem E5 {prog:T3}{w:T4}{A:T2}{E:T0->T1->Prop}{s:T1}{env:Env}{b a:Expr}{pos:Pos}{T id:String}{Q:T0->T1->Prop}
  (m:typeLookup (.type T) "__getitem__" = pure (some (.builtin id))) (n:HK a)
  (h:wpAny (model prog w) A (eval b env) (λo f => wpAny (model prog w) A (eval a env) (λi c => c.TypeIs o T/\wpAny (model prog w) A (getItem o i) Q E c) E f) E s) :
  wpAny (model prog w) A (eval (.Subscript b a pos) env) Q E s:=by
 refine Subscript_ (WB h (λo f j => WB j (λi c d => ?_) λ_ _ x=>x) λ_ _ x=>x);obtain⟨l,d⟩:=d;unfold subscriptTail;refine z0 ?_;rw[getitemInPython_of_ne l.not_modules];refine z0 (wpAny_specialOf l m ?_);have g:wpAny (model prog w) A (subscripted a false o i) (λr e => wpAny (model prog w) A (letTemporaryGo b o r >>= λ_=>pure r) Q E e) E c := by
  rw[n o i];exact wpAny_operating (WB d (λr e k => z0 (wpAny_letTemporaryGo (y3 k))) λ_ _ x=>x)
 first
  | exact y3 (z0 g)
  | exact z0 (y3 (z0 g))
  | exact z0 g
theorem vO {X:Cx} {pins:List (Addr × Obj)} {σ:St}  {s:T1} {a:Addr} {y:V} {o:Option V} (I:Inv X pins σ H s) (g:lI H a y o):s.TypeIs (.ref a) "dict" := by
 rcases g with ⟨kvs,k,e,_,_⟩|⟨kvs,k,b,e,_,_,_⟩
 ·obtain⟨_,_,d,_,c⟩:=r6 I.hok e
  exact c.typeIs
 ·obtain⟨_,_,xs,_,c⟩:=sf I.hok e
  exact c.typeIs
def JR (td ty:TE):TE:=λσ H Q=>td σ H λx H1=>ty σ H1 λy H2=>∃a v,x=.ref a/\lI H2 a y (some v)/\Q v H2
section
variable {X:Cx} {o i e value:Expr} {pos pos' tpos:Pos} {td ty tv:TE}
theorem E6 (l:X.A.units + 1 < cLine)(m:PE X o td)(hi:PE X i ty)(f:HK i):PE X (.Subscript o i pos) (JR td ty):=by
 intro pins s σ H Q I h;refine E5 PySem.F.slot_dict_getitem.lookup f (thn (m pins s σ H _ I h) λu p ⟨x,H1,n,k,q1⟩=>thn (hi pins p σ H1 _ n q1) λz w ⟨y,j,c,q,a,v,ex,g,q2⟩ => ?_);subst ex;obtain rfl:u=Value.ref a:=k;exact⟨vO c g,AR l c g q λr t d b=>⟨v,j,d,b,q2⟩⟩
end
theorem Cu {P:T3} {w:T4}  (h:Heap) (hb:sysModules < h.objs.size):dz P w H (h.push { cls:=.type "dict",data:=.dict #[] }) h.objs.size (.dK []) :=
 ⟨YG _,beq_eq_false_iff_ne.mpr (XO (ZN hb)),[],.nil,Heap.DictOf.new h⟩
theorem Cv {P:T3} {w:T4}  (h:Heap) (hb:sysModules < h.objs.size):dz P w H (h.push { cls:=.type "dict",data:=.dict #[] }) h.objs.size (.dT []) :=
 ⟨YG _,beq_eq_false_iff_ne.mpr (XO (ZN hb)),[],.nil,_,#[],0,ZJ _ rfl,⟨rfl,rfl,rfl⟩,rfl,rfl,VX⟩
def HL:TE:=λ_ H Q=>∀p,H p=none->Q (.ref p) (upd H p (.dK []))
def HM:TE:=λ_ H Q=>∀p,H p=none->Q (.ref p) (upd H p (.dT []))
section
variable {X:Cx} {pos:Pos}
theorem Cw:PE X (.Dict [] [] pos) HL:=λpins s σ H Q I h =>
 wpAny_Dict_empty ⟨.ref s.heap.objs.size,_,I.laid (a:=s.heap.objs.size) (o:=.dK []) (t':=s.toks) (λ_ _ q=>ZH _ q) (ZL _) (Cu s.heap I.big),rfl,h _ (I.hok.fresh (ZL _))⟩
theorem Cy:PE X (.Dict [] [] pos) HM:=λpins s σ H Q I h =>
 wpAny_Dict_empty ⟨.ref s.heap.objs.size,_,I.laid (a:=s.heap.objs.size) (o:=.dT []) (t':=s.toks) (λ_ _ q=>ZH _ q) (ZL _) (Cv s.heap I.big),rfl,h _ (I.hok.fresh (ZL _))⟩
end
structure M1 (X:Cx) (o:Expr) (m:Str) (apos:Pos) (e:Expr) (cpos:Pos):Prop where
 base:attributeBase o m X.env (eval o X.env)=eval o X.env
 few:((backTo cpos (starEach [e] X.env)).all (λx => !x.1) && (backToKw cpos (keywordEach [] X.env)).all (λx=>x.1.isSome)
  && decide (([e] : List Expr).length + ([] : List Keyword).length + (if ([] : List Keyword).isEmpty then 0 else 1) < 30))=true
 line:(apos.endLine == cpos.line)=true
 trees:backTo cpos (starEach [e] X.env)=[(false,eval e X.env)]
structure M2 (X:Cx) (o:Expr) (m:Str) (apos:Pos) (e f:Expr) (cpos:Pos):Prop where
 base:attributeBase o m X.env (eval o X.env)=eval o X.env
 few:((backTo cpos (starEach [e,f] X.env)).all (λx => !x.1) && (backToKw cpos (keywordEach [] X.env)).all (λx=>x.1.isSome)
  && decide (([e,f] : List Expr).length + ([] : List Keyword).length + (if ([] : List Keyword).isEmpty then 0 else 1) < 30))=true
 line:(apos.endLine == cpos.line)=true
 trees:backTo cpos (starEach [e,f] X.env)=[(false,eval e X.env),(false,eval f X.env)]
def IsD (H:Hp) (a:Addr):Prop:=(∃kvs,Rd H a (.dK kvs))\/∃kvs,Rd H a (.dT kvs)
theorem HN {X:Cx}{pins:List (Addr × Obj)}{σ:St}{s:T1}{a:Addr}(I:Inv X pins σ H s)(d:IsD H a) :
  s.TypeIs (.ref a) "dict"/\(∀b,Value.ref a=.ref b->∃c,s.heap.get? b=some c/\c.dict=none)/\(a == sysModules)=false:=by
 rcases d with ⟨kvs,e⟩|⟨kvs,e⟩
 ·obtain⟨_,hd,g,_,f⟩:=r6 I.hok e
  refine⟨f.typeIs,λb q => ?_,hd⟩;cases q;obtain⟨c,_,_,h1,h2,_⟩:=f;exact⟨c,h1,h2.2.1⟩
 ·obtain⟨_,hd,xs,_,f⟩:=sf I.hok e
  refine⟨f.typeIs,λb q => ?_,hd⟩;cases q;obtain⟨c,_,_,h1,h2,_⟩:=f;exact⟨c,h1,h2.2.1⟩
section
variable {X:Cx} {pins:List (Addr × Obj)} {σ:St} {H:Hp} {s:T1} {a:Addr} {y d:V} {u r:T0} {o:Option V} {A:T2} {E:T0->T1->Prop}
end
section
variable {X:Cx} {o e f:Expr} {apos cpos:Pos} {td ty tx:TE}
end
section
variable {X:Cx} {pins:List (Addr × Obj)} {σ:St} {H:Hp} {s:T1} {a:Addr} {kvs:List (Key × V)} {A:T2} {E:T0->T1->Prop}
end
section
variable {X:Cx} {pins:List (Addr × Obj)} {σ:St} {H:Hp} {s:T1} {a:Addr} {y:V} {u:T0} {A:T2} {E:T0->T1->Prop}
end
end L2
namespace Fm
open PySem PySem.Spec L2 PySem.W PyProof.Rows
section
variable {K:ZX} {ρ:List Addr} {H:Hp} {hd:Hd}
theorem RH.allocD (r:RH K ρ H hd){p:Addr}{l:List (Int × D)}(hp:RC K ρ H (.dct l) p)(hn:p ∉ ρ):RH K (ρ ++ [p]) H (hd++[.dct l]):=by
 have k:Kp ρ H (ρ ++ [p]) H:=⟨λn a e=>by rw[ZC (List.getElem?_eq_some_iff.mp e).1];exact e,λ_ _ h=>h,λ_ _ _ h=>h,λ_ _ h=>h⟩;refine⟨by simp[r.len],?_,λn c a h1 h2 => ?_⟩
 ·rw[WJ]
  exact⟨r.nd,by simp,λa g b f=>by simp at f;subst f;intro e;subst e;exact hn g⟩
 ·by_cases hlt:n < hd.length
  ·rw[ZC hlt]at h1
   rw[ZC (by rw[r.len];exact hlt)]at h2;exact(r.cel n c a h1 h2).mono k rfl
  ·have i:n=hd.length:=by
    have:=(List.getElem?_eq_some_iff.mp h1).1;simp at this;omega
   subst i;simp at h1;subst h1;rw[<-r.len]at h2;simp at h2;subst h2;obtain⟨d,q1,q2,q3⟩:=hp;exact⟨d,q1,q2,q3.mono k⟩
theorem RH.writeD (r:RH K ρ H hd){n:Nat}{p:Addr}{l:List (Int × D)}{kvs:List (Key × V)}(hp : ρ[n]? = some p)(hn:n < hd.length)(h1:kvs.map (·.1)=l.map (λp=>(Sum.inl p.1:Key)))(h2:RDs K ρ H (l.map (·.2)) (kvs.map (·.2))):RH K ρ (upd H p (.dK kvs)) (hd.set n (.dct l)):=by
 have k:Kp ρ H ρ (upd H p (.dK kvs)):=by
  have b:=ZK hp;refine⟨λ_ _ h=>h,λa f e => ?_,λa o u e => ?_,λa d e => ?_⟩
  ·rw[aB (λz=>r.noTup e (by rw[z];exact b))];exact e
  ·rw[aB (λz=>r.noFrz e (by rw[z];exact b))];exact e
  ·rw[aB (λz=>r.noExt e (by rw[z];exact b))];exact e
 refine⟨by simp[r.len],r.nd,λm c a q1 q2 => ?_⟩
 by_cases e:n=m
 ·subst e
  rw[List.getElem?_set_self hn]at q1;cases q1;rw[hp]at q2;cases q2;exact⟨kvs,aY,h1,h2.mono k⟩
 ·rw[ZP e]at q1
  have ne:a≠p:=λz=>by
   subst z;exact e (lp r.nd hp q2)
  exact(r.cel m c a q1 q2).mono k (aB ne)
theorem vP (k:Int):∀{l:List (Int × D)} {a:List (Key × V)},a.map (·.1)=l.map (λp=>(Sum.inl p.1:Key))->RDs K ρ H (l.map (·.2)) (a.map (·.2))->
  (pO l k=none/\fD a (Sum.inl k)=none)\/∃d v,pO l k=some d/\fD a (Sum.inl k)=some v/\RD K ρ H d v
 | [],[],_,_=>.inl ⟨rfl,rfl⟩
 | [],_ :: _,h,_=>by simp at h
 | _ :: _,[],h,_=>by simp at h
 | (j,d) :: l,(kk,v) :: a,h1,h2=>by
  simp only[x8,XW]at h1;simp only[x8,RDs]at h2;obtain⟨n,m,e,q1,q2⟩:=h2;cases e;obtain⟨f,b⟩:=h1;subst f
  by_cases e:j=k
  ·subst e
   exact .inr ⟨d,v,by simp[pO],by simp[fD],q1⟩
  ·have i:=vP k b q2
   have g:pO ((j,d) :: l) k=pO l k:=by simp[pO,e]
   have c:fD ((Sum.inl j,v) :: a) (Sum.inl k)=fD a (Sum.inl k):=jK (λz=>e (by cases z;rfl));rw[g,c];exact i
theorem vQ (k:Int):∀{l:List (Int × D)} {a:List (Key × V)},a.map (·.1)=l.map (λp=>(Sum.inl p.1:Key))->(a.any λb=>decide (b.1=(Sum.inl k:Key)))=l.any λp=>decide (p.1=k)
 | [],[],_=>rfl
 | [],_ :: _,h=>by simp at h
 | _ :: _,[],h=>by simp at h
 | (j,d) :: l,(kk,v) :: a,h1=>by
  simp only[x8,XW]at h1;obtain⟨c,e⟩:=h1;subst c;simp[vQ k e]
theorem vR (k:Int){c:D}{v0:V}(i:RD K ρ H c v0):∀{l:List (Int × D)} {a:List (Key × V)},a.map (·.1)=l.map (λp=>(Sum.inl p.1:Key))->RDs K ρ H (l.map (·.2)) (a.map (·.2))->
  (a.map λb=>if b.1=(Sum.inl k:Key) then (b.1,v0) else b).map (·.1)=(l.map λp=>if p.1=k then (p.1,c) else p).map (λp=>(Sum.inl p.1:Key))/\RDs K ρ H ((l.map λp=>if p.1=k then (p.1,c) else p).map (·.2)) ((a.map λb=>if b.1=(Sum.inl k:Key) then (b.1,v0) else b).map (·.2))
 | [],[],_,_=>⟨rfl,RDs.nil⟩
 | [],_ :: _,h,_=>by simp at h
 | _ :: _,[],h,_=>by simp at h
 | (j,d) :: l,(kk,v) :: a,h1,h2=>by
  simp only[x8,XW]at h1;simp only[x8,RDs]at h2;obtain⟨r,q,e,q1,q2⟩:=h2;cases e;obtain⟨o,m⟩:=h1;subst o;obtain⟨f,g⟩:=vR k i m q2
  by_cases e:j=k
  ·subst e
   simp only[x8,Uz];exact⟨by rw[f],RDs.cons i g⟩
  ·have n : ¬(Sum.inl j:Key)=Sum.inl k:=λz=>e (by cases z;rfl)
   simp only[x8,x3 e,x3 n];exact⟨by rw[f],RDs.cons q1 g⟩
theorem Cz (k:Int){a:D}{v0:V}(b:RD K ρ H a v0){l:List (Int × D)}{kvs:List (Key × V)}(h1:kvs.map (·.1)=l.map (λp=>(Sum.inl p.1:Key)))(h2:RDs K ρ H (l.map (·.2)) (kvs.map (·.2))) :
  (iC kvs (Sum.inl k) v0).map (·.1)=(xJ l k a).map (λp=>(Sum.inl p.1:Key))/\RDs K ρ H ((xJ l k a).map (·.2)) ((iC kvs (Sum.inl k) v0).map (·.2)):=by
 unfold iC xJ;rw[vQ k h1];split
 ·exact vR k b h1 h2
 ·refine⟨by simp[h1],?_⟩
  rw[ZR,ZR];exact RDs.append h2 (RDs.cons b RDs.nil)
end
section
variable {X:Cx} {pos p:Pos}
theorem E7:ME X (.Dict [] [] pos) zN:=by
 refine PE.imp Cw λσ H Q ⟨ρ,σd,hd,b,d⟩=>λq c => ?_;have e:=bW (o:=HO.dK []) c;have g:=b.hp.free c;have f:=(b.hp.same e).allocD (p:=q) (l:=[]) ⟨[],aY,rfl,RDs.nil⟩ g;have ex:Ext ρ H (ρ ++ [q]) (upd H q (.dK [])):=Ext.alloc c;refine bM.at (R:=rD X.K) (a:=.ref hd.length) d ex (b.ext ex f) ?_;simp only[rD,RD];refine⟨q,?_,rfl⟩;rw[<-b.hp.len];simp
def JS (K:ZX):R2:=λx y H Q=>∃a o,y=.ref a/\lI H a x o/\Q (.bl o.isSome) H
theorem HP (d:X.A.units + 1 < cLine):OpR X (compareOp .In) (JS X.K):=by
 intro pins s σ H x y v u Q I c e h;obtain⟨a,o,rfl,g,q⟩:=h;obtain rfl:u=Value.ref a:=e;exact KY d I g c λf b=>⟨.bl o.isSome,H,b,rfl,q⟩
theorem HQ {K:ZX}:Og K Cs (JS K):=by
 intro ρ H σd hd σ d k v w Q h rv g b;cases d<;>try exact b.elim
 cases k<;>try exact b.elim
 rename_i i n
 simp only[Cs]at b;simp only[RD]at rv g;subst rv;obtain⟨a,j,rfl⟩:=g;cases c:hd[n]? with
 | none=>rw[c]at b;exact b.elim
 | some cell =>
  rw[c]at b;cases cell with
  | lst l=>exact b.elim
  | dcT _=>exact b.elim
  | dct l =>
   simp only at b;obtain⟨f,q1,q2,q3⟩:=h.hp.cel n _ a c j;refine⟨a,fD f (Sum.inl i),rfl,lI.k (k:=Sum.inl i) q1,?_⟩;have e:(fD f (Sum.inl i)).isSome=(pO l i).isSome:=by
    rcases vP i q2 q3 with ⟨e1,e2⟩|⟨d,v,e1,e2,_⟩<;>rw[e1,e2]<;>rfl
   rw[e];exact b.here h (by simp only[rD,RD])
def JT:V->V->V->Hp->(Hp->Prop)->Prop:=λo i v H Q=>∃a H',o=.ref a/\vN H a i v H'/\Q H'
theorem vS (e:X.A.units + 1 < cLine):GS X JT:=by
 intro pins s σ H o i v ov j u Q I c d rv h;obtain⟨a,H',rfl,g,q⟩:=h;obtain rfl:ov=Value.ref a:=c;exact AS e I g d rv λf b=>⟨H',b,q⟩
theorem zP {o i e:Expr}{D z C:EF}{p2:Pos}(M:X.A.units + 1 < cLine)(he:ME X e C)(O:ME X o D)(hi:ME X i z)(I:swapsWithSole [.Subscript o i p2] e pos.line X.env=pure false:=by rfl)(hw:swappedStores [.Subscript o i p2] e X.env=pure none:=by rfl)
  (h1:(assignEach [.Subscript o i p2] X.env).map (·.2)=[assign (.Subscript o i p2) X.env]:=by rfl) (ha:∀v,assign (.Subscript o i p2) X.env v=(do
   let ov <-holding [v] (eval o X.env)
   let iv <-holding [v,ov] (eval i X.env)
   standAt p2
   holding [v,ov,iv] (setItem ov iv v)
   release [v,ov,iv] []):=by intro _;rfl):MS X (.Assign [.Subscript o i p2] e pos) (vK D z C):=by
 refine PS.imp (tD he (xq O hi (vS M) ha) I hw h1) λEn σ H ⟨ρ,σd,hd,P,p⟩=>⟨ρ,σd,hd,P,(bX.outE p).imp λv H1 ⟨t,d,u,W,q,rv,S⟩ => ?_⟩;refine⟨t,σd,u,q,(bX.outE S).imp λU V ⟨y,L,w,G,g,J,p2⟩ => ?_⟩;refine⟨y,σd,w,g,(bX.outE p2).imp λY E ⟨h,Q,m,B,f,A,b⟩ => ?_⟩;have x:=(rv.mono (q.hp.kp G)).mono (g.hp.kp B);have r:=J.mono (g.hp.kp B);cases L with
 | ref n =>
  cases Q with
  | int j =>
   simp only at b;cases c:m[n]? with
   | none=>rw[c]at b;exact b.elim
   | some cell =>
    rw[c]at b;cases cell with
    | lst l=>exact b.elim
    | dcT _=>exact b.elim
    | dct l =>
     simp only at b;split at b
     ·rename_i hz
      simp only[RD]at r A;subst A;obtain⟨a,ha,rfl⟩:=r;obtain⟨s,q1,q2,q3⟩:=f.hp.cel n _ a c ha;have F:s.length=l.length:=by have:=congrArg List.length q2;simpa using this
      refine⟨a,_,rfl,vN.k (k:=Sum.inl j) q1 (by rw[F];exact ZZ hz (by rw[YF];decide)),?_⟩;have R:n < m.length:=(List.getElem?_eq_some_iff.mp c).1;obtain⟨K,N⟩:=Cz j x q2 q3;have T:=f.hp.writeD ha R K N;have ex:Ext h E h (upd E a (.dK (iC s (Sum.inl j) v))):=Ext.write (ZK ha);exact b σ _ h ex (f.ext ex T)
     ·exact b.elim
  | _=>exact b.elim
 | _=>exact b.elim
end
section
variable {X:Cx} {pos p:Pos}
theorem sj {P:T3}{w:T4}{H:Hp}{h h':Heap}(hok:HOk P w H h)(e:∀b o xs,H b=some (.tup xs)->h.get? b=some o->h'.get? b=some o):∀{g:List V} {j:List (List Int)} {c:List T0},cK H g j->aR g c->(j.all λx => !x.isEmpty)=true->
  ∃fs,KatTups h' c fs/\fs.length=c.length/\∀v∈fs,∃i t,v=Value.int i t
 | _,_,_,.nil,.nil,_=>⟨[],.nil,rfl,λv d=>by simp at d⟩
 | _,_,_,.cons (a:=a) (r:=r) ha t,.cons rv rt,hne=>by
  simp only[WO,Z7,Bool.not_eq_true']at hne;obtain⟨fs,h1,h2,k⟩:=sj hok e t rt hne.2;obtain⟨z,f,m,o,l,hc,n,hd⟩:=hok a _ ha;cases r with
  | nil=>simp at hne
  | cons i r =>
   cases m with
   | cons q0 qr =>
    rename_i u us
    obtain⟨tk,rfl⟩:=zK q0;cases rv;refine⟨.int i tk :: fs,KatTups.cons (e a o _ ha l) hc hd (by simp) h1,by simp[h2],λv d => ?_⟩;rcases VI.mp d with rfl|d
    ·exact⟨i,tk,rfl⟩
    ·exact k v d
theorem HR {pins:List (Addr × Obj)}{σ:L2.St}{H:Hp}{s:T1}{B:Addr}{vs:List V}{rs:List (List Int)}{A:T2}{E:T0->T1->Prop}{Q:T0->T1->Prop}(I:Inv X pins σ H s)(G:H B=some (.lst vs))(c0:vs.length < 64)(rv:cK H vs rs)(nd:rs.Nodup)(b4:(rs.all λx => !x.isEmpty)=true)
  (q:∀d s',cK H d (cQ rs)->Inv X pins σ (upd H B (.lst d)) s'->Q .none s'):wpAny (model X.prog X.w) A (call (.builtin "list.sort") [.ref B]) Q E s:=by
 obtain⟨hz,a,n0,S,ho⟩:=I.hok B _ G;have R:a.length=vs.length:=S.length.symm;obtain⟨m,hm,_⟩:=id I.loc;have nL:∀b u,H b=some u->b≠X.env.locals:=λb u e z=>by rw[z,I.free]at e;cases e
 have BL:=nL B _ G;have a9:∀d,d=vs->upd H B (.lst d)=H:=λd e=>by
  subst e;funext b
  by_cases z:b=B
  ·subst z;rw[aY,G]
  ·rw[aB z]
 have after:∀(h2:Heap) (f:List T0) (d:List V) (c t':Nat),cK H d (cQ rs)->aR d f->d.length<=sizeLine->h2.get? B=some (PySem.W.listOf f.toArray c)->(∀b o,b≠X.env.locals->b≠B->s.heap.get? b=some o->h2.get? b=some o)->h2.Ns X.env.locals m->Inv X pins σ (upd H B (.lst d)) { s with heap:=h2,toks:=t' }:=λh2 f d c t' a1 U a0 a5 l W=>by
  have I2:L2.Inv X pins σ (upd H B (.lst d)) { s with heap:=h2,gens:=s.gens,drawn:=s.drawn,toks:=t' }:=by
   refine I.step (g':=s.gens) (d':=s.drawn) (t':=t') (ch:=[]) (λ_ z=>nomatch z) (λb o D _ _ e n=>l b o D (λz=>by subst z;rw[G]at n;cases n) e) (λb o D _ _ e n=>⟨o.slots,l b o D (λz=>by subst z;rw[G]at n;cases n) e⟩) (λb o _ e n=>by rw[aB (λz=>by subst z;rw[G]at n;cases n)];exact n) (λb o _ e => ?_)
    (λb ys e=>by rw[aB (λz=>by subst z;rw[G]at e;cases e)];exact e) (λb o u e=>by rw[aB (λz=>by subst z;rw[G]at e;cases e)];exact e) (λb ps e=>⟨#[],by rw[aB (λz=>by subst z;rw[G]at e;cases e),e];simp⟩) (λm' b7=>by rw[HD b7 hm];exact W) (λb u e => ?_) I.bare
   ·by_cases D:b=X.env.locals
    ·obtain⟨o',_,_,Y,_⟩:=W
     rw[D];exact⟨o',Y⟩
    ·by_cases F:b=B
     ·subst F;exact⟨_,a5⟩
     ·exact⟨o,l b o D F e⟩
   ·by_cases D:b=B
    ·subst D
     rw[aY]at e;cases e;exact⟨a0,f,c,U,a5⟩
    ·rw[aB D]at e
     refine(I.hok b u e).stay (λc v hc z => ?_) (λc z=>by rw[aB (λy=>by subst y;rw[G]at z;cases z)];exact z) λc ys z=>by rw[aB (λy=>by subst y;rw[G]at z;cases z)];exact z
     rcases hc with w|w
     ·subst w;exact l c v (nL c _ e) D z
     ·exact l c v (nL c _ w) (λy=>by subst y;rw[G]at w;cases w) z
  exact I2
 by_cases h2:a.length < 2
 ·have hs:cQ rs=rs:=by
   have:rs.length < 2:=by rw[<-rv.length];omega
   match rs,this with
   | [],_=>rfl
   | [_],_=>rfl
  have ha:B < s.heap.objs.size:=ZI ho;have Y:s.heap.get? B=some (seqObj "list" a.toArray n0):=ho;refine YP slot_list_sort ⟨_,ho,rfl⟩ entry_list_sort (xH Y h2 ⟨_,rfl,?_⟩) (args_list_sort _);obtain⟨Z,b8⟩ : ∃Z,(s.heap.update B (Obj.mapSeq λ_ => #[])).get? B=some (seqObj "list" #[] Z):=⟨_,get?_update_seq Y (λ_ => #[])⟩;have b3:(((s.heap.update B (Obj.mapSeq λ_ => #[])).push (seqObj "tuple" a.toArray 0)).push (seqObj "list" #[] 0)).get? B=some (seqObj "list" #[] Z):=by
   rw[Heap.get?_push_ne _ _ _ (by rw[WQ,YK];exact ZN (v4 ha)),Heap.get?_push_ne _ _ _ (by rw[YK];exact ZN ha)];exact b8
  have M:∀b o,b≠B->s.heap.get? b=some o->(sortedHeap s.heap B a a.toArray).get? b=some o:=λb o D e=>by
   have a6:b < s.heap.objs.size:=ZI e;unfold sortedHeap;rw[Heap.get?_update_ne _ _ _ _ D,Heap.get?_push_ne _ _ _ (by rw[WQ,YK];exact ZN (v4 a6)),Heap.get?_push_ne _ _ _ (by rw[YK];exact ZN a6),Heap.get?_update_ne _ _ _ _ D];exact e
  have W:(sortedHeap s.heap B a a.toArray).Ns X.env.locals m:=by
   obtain⟨o',es,ep,h1,r⟩:=hm;exact⟨o',es,ep,M _ _ (XO BL) h1,r⟩
  refine q vs _ (by rw[hs];exact rv) (after _ a vs _ s.toks (by rw[hs];exact rv) S hz (get?_update_seq b3 _) (λb o _ D e=>M b o D e) W)
 ·have N0:News (Att.noObjs s.heap) X.env.locals s.heap ((B,PySem.W.listOf a.toArray n0) :: Att.ledger s.heap X.env.locals B):=λ⟨b,o⟩ D=>by
   rcases VI.mp D with e|D
   ·cases e
    exact⟨ho,BL,Att.noObjs_get _ _⟩
   ·obtain⟨n1,n2,e⟩:=Att.mem_ledger.mp D
    exact⟨e,n1,Att.noObjs_get _ _⟩
  have a8:∀q∈Att.ledger s.heap X.env.locals B,q.1≠B:=λ⟨b,o⟩ hq=>(Att.mem_ledger.mp hq).2.1;refine kat_lsort (vs:=a) (Att.fr_all hm) N0 (UpdF.head a8) (by simp) (by omega) (by omega) λZ h' F' N' => ?_;have a7:∀b o,b≠X.env.locals->b≠B->s.heap.get? b=some o->(b,o)∈Att.ledger s.heap X.env.locals B:=λb o D F e=>Att.mem_ledger.mpr ⟨D,F,e⟩;have L:∀b o,b≠X.env.locals->b≠B->s.heap.get? b=some o->h'.get? b=some o:=λb o D F e=>(N' (b,o) (ZW _ (a7 b o D F e))).1;obtain⟨fs,t1,t2,t3⟩:=sj I.hok (h':=h') (λb o xs D e=>L b o (nL b _ D) (λz=>by subst z;rw[G]at D;cases D) e) rv S b4;refine kat_kind (s:={ s with heap:=h' }) (T:=.type "int") t1 (by omega) (λv hv => ?_) rfl ?_
  ·obtain⟨i,t,rfl⟩:=t3 v hv
   exact Looks.of_pure rfl
  ·have hT:(Value.type "int" != Value.type "tuple")=true:=by decide
   rw[hT];have b9:rs.length=a.length:=by rw[<-rv.length,R]
   have b6:∀i j,i < a.length->j < a.length->i≠j->rs.getD i []≠rs.getD j []:=λi j hi hj P z=>by
    have Z:rs.getD i [] = rs[i]'(by omega):=by simp[List.getD,show i < rs.length by omega]
    have e2:rs.getD j [] = rs[j]'(by omega):=by simp[List.getD,show j < rs.length by omega]
    rw[Z,e2]at z;exact P ((List.getElem_inj nd).mp z)
   have O:Ord (λi j=>Fm.cx (rs.getD i []) (rs.getD j [])) a.length:=⟨λi j _ _ h=>oj h,λi j k _ _ _ h h'=>gQ h h',λi j hi hj P h=>mM (b6 i j hi hj P) h⟩;refine vJ O (λi j hi hj C hC => ?_) (by omega) λJ g b5 => ?_
   ·unfold kas_ask
    have a3:∀i,i < a.length->∃b,a.getD i Value.none=.ref b/\∃(o:Obj) (zs:List T0) (n:Nat),h'.get? b=some o/\o.data=.seq zs.toArray n/\IntsAre zs (rs.getD i []):=λi hi=>by
     have hv:vs[i]? = some (vs[i]'(by omega)):=by simp[show i < vs.length by omega]
     obtain⟨b,Z,e2⟩:=rv.get hv;obtain⟨u,hu,ru⟩:=S.get hv;rw[Z]at ru;cases (show u=Value.ref b from ru);obtain⟨z,zs,r0,o,ho,hc,n,hd⟩:=I.hok b _ e2;exact⟨b,by simp[List.getD,hu],o,zs,n,L b o (nL b _ e2) (λz=>by subst z;rw[G]at e2;cases e2) ho,hd,kG r0⟩
    obtain⟨b1,x1,o1,z1,n1,y1,d1,i1⟩:=a3 i hi;obtain⟨b2,x2,o2,z2,n2,y2,d2,i2⟩:=a3 j hj;rw[x1,x2];refine kat_lt (s:={ s with heap:=h' }) y1 d1 y2 d2 ?_;have:=HC (prog:=X.prog) (w:=X.w) (A:=A.in1) (s:={ s with heap:=h' }) (Q:=C) (rs.getD i []) (rs.getD j []) 0 i1 i2 hC;simpa using this
   ·have a2:J.toList.Perm (List.range a.length):=by simpa using Array.perm_iff_toList_perm.mp g.pm
    have a4:∀i∈J.toList,i < vs.length:=λi hi=>by
     have:=a2.mem_iff.mp hi;rw[<-R];simpa using this
    obtain⟨d,N⟩ : ∃d,d=J.toList.map λi=>vs.getD i .non:=⟨_,rfl⟩;obtain⟨f,K⟩ : ∃f,f=J.toList.map λi=>a.getD i Value.none:=⟨_,rfl⟩;have a1:cK H d (cQ rs):=by
     have e:(J.toList.map λi=>rs.getD i [])=cQ rs:=by
      refine AQ (?_:List.Perm _ _) ?_ (jJ nd)
      ·refine((a2.map λi=>rs.getD i []).trans ?_).trans (hX rs).symm
       have:((List.range a.length).map λi=>rs.getD i [])=rs:=by
        apply YB;intro i
        by_cases hi:i < rs.length
        ·have:i < a.length:=by omega
         simp[List.getD,hi,this]
        ·have : ¬i < a.length:=by omega
         simp[hi,this]
       rw[this]
      ·rw[WL]
       rw[List.pairwise_iff_getElem];intro i j hi hj P;have s1:=b5 i j P (by rw[<-g.sz];simpa using hj);have g1:J.getD i 0=J.toList[i]:=by simp[Array.getD,show i < J.size by simpa using hi]
       have g2:J.getD j 0=J.toList[j]:=by simp[Array.getD,show j < J.size by simpa using hj]
       rw[g1,g2]at s1;exact s1
     have:=rv.pick J.toList a4;rw[e,<-N]at this;exact this
    have U:aR d f:=by rw[N,K];exact aR.pick S J.toList a4
    have a0:d.length<=sizeLine:=by
     have l1:d.length=a.length:=by rw[N,ZA,a2.length_eq,ZO]
     rw[l1,R];exact hz
    rw[<-K];refine KasFin.intro F' N' (UpdF.head a8) λh2 c F2 N2 => ?_;have b0:h2.get? B=some (PySem.W.listOf f.toArray c):=(N2 (B,_) (ZV ..)).1;have l:∀b o,b≠X.env.locals->b≠B->s.heap.get? b=some o->h2.get? b=some o:=λb o D F e=>(N2 (b,o) (ZW _ (a7 b o D F e))).1;exact q d _ a1 (after h2 f d c s.toks a1 U a0 b0 l F2.ns)
end
section
variable {X:Cx} {pos p:Pos}
def tV (p d:Addr):Heap->Prop:=λh=>h.get? p=some { cls:=.type "dict_items",data:=.fields #[.ref d] }
def HS (td:TE):TE:=λσ H Q=>td σ H λx H1=>∃a kvs,x=.ref a/\H1 a=some (.dK kvs)/\∀p,H1 p=none->Q (.ref p) (upd H1 p (.ext (tV p a)))
theorem CA {o:Expr} {td:TE} {apos c:Pos} (t:PE X o td) (d:attributeBase o "items" X.env (eval o X.env)=eval o X.env:=by rfl) (g:(apos.endLine == c.line)=true:=by rfl) :
  PE X (.Call (.Attribute o "items" apos) [] [] c) (HS td):=by
 intro pins s σ H Q I h;refine wpAny_Call_method0_late d g (thn (t pins s σ H _ I h) λv j ⟨x,H1,i,u,a,l,ex,e,q1⟩ => ?_);subst ex;obtain rfl:v=Value.ref a:=u;obtain⟨m,w,y⟩:=HN i (.inl ⟨l,.inl e⟩);obtain⟨_,hd,r,_,n⟩:=Ct i.hok e;refine⟨"dict", "dict.items",PySem.F.plainAttrs_dict,PySem.F.slot_dict_items,PySem.F.type_dict_items,m,w,Calls.callWith_builtin rfl (PySem.evalArgs_none ?_)⟩;refine call_meetsIn PySem.F.slot_dict_items m PySem.F.entry_dict_items (PySem.F.args_dict_items_1 _) (meets_dict_items (cN X.prog X.w) a hd) ⟨⟨r,n⟩,?_⟩;refine⟨.ref j.heap.objs.size,_,i.laid (t':=j.toks) (o:=.ext (tV j.heap.objs.size a)) (λb z q=>ZH _ q) (ZL _) ⟨ZJ _ rfl,⟨_,ZJ _ rfl⟩,λh1 h2 f k=>k _ f⟩,rfl,q1 _ (i.hok.fresh (ZL _))⟩
theorem CB {pins:List (Addr × Obj)}{σ:L2.St}{H H':Hp}{s:T1}{h':Heap}{t':Nat}(I:Inv X pins σ H s)(keep:∀b o,s.heap.get? b=some o->h'.get? b=some o)(d:ju H H')(a:∀b,b < s.heap.objs.size->H' b=H b)(new:∀b u,s.heap.objs.size<=b->H' b=some u->dz X.prog X.w H' h' b u/\∀c,u ≠ .own c):Inv X pins σ H' { s with heap:=h',toks:=t' }:=by
 have f:L2.Inv X pins σ H' { s with heap:=h',gens:=s.gens,drawn:=s.drawn,toks:=t' }:=by
  refine I.step (g':=s.gens) (d':=s.drawn) (t':=t') (ch:=[]) (λ_ z=>nomatch z) (λb o _ _ _ e _=>keep b o e) (λb o _ _ _ e _=>⟨o.slots,keep b o e⟩) (λb o _ e n=>by rw[a b (ZI e)];exact n) (λb o _ e=>⟨o,keep b o e⟩)
   (λb ys e=>d _ _ e) (λb o u e=>d _ _ e) (λb ps e=>⟨#[],by rw[d _ _ e];simp⟩) (λm g => ?_) (λb u e => ?_) I.bare
  ·obtain⟨o',es,ep,h1,r⟩:=g
   exact⟨o',es,ep,keep _ _ h1,r⟩
  ·by_cases hb:b < s.heap.objs.size
   ·rw[a b hb]at e
    refine(I.hok b u e).stay (λc v hc z=>keep c v z) (λc z=>d _ _ z) λc ys z=>d _ _ z
   ·exact(new b u (WU hb) e).1
 exact f
def ov:List Addr->List (List Int)->Hp->Hp
 | a :: as,r :: rs,H=>upd (ov as rs H) a (.tup (r.map V.int))
 | _,_,H=>H
theorem zQ {b:Addr}{H:Hp}:∀{c:List Addr} {d:List (List Int)},b∉c->ov c d H b=H b
 | [],_,_=>rfl
 | a :: c,[],_=>rfl
 | a :: c,r :: d,h=>by
  have h1:b≠a:=λz=>h (by simp[z]);have h2:b∉c:=λz=>h (by simp[z]);show upd _ _ _ b=_;rw[aB h1,zQ h2]
theorem CC {H:Hp}:∀{c:List Addr} {d:List (List Int)} {j:Nat} {a:Addr} {r:List Int},c.Nodup->c[j]? = some a->d[j]? = some r->ov c d H a=some (.tup (r.map V.int))
 | [],_,_,_,_,_,e,_=>by simp at e
 | a :: c,[],_,_,_,_,_,e=>by simp at e
 | a :: c,r :: d,0,_,_,_,e,e'=>by simp at e e';subst e e';exact aY
 | a :: c,r :: d,j + 1,b,q,nd,e,e'=>by
  obtain⟨f,h⟩:=List.nodup_cons.mp nd;have e:c[j]? = some b:=by simpa using e
  have g:b≠a:=λz=>f (by rw[<-z];exact ZK e);show upd _ _ _ b=_;rw[aB g];exact CC h e (by simpa using e')
theorem cK.mono {H H':Hp}(k:∀a xs,H a=some (.tup xs)->H' a=some (.tup xs)):∀{c:List V} {b:List (List Int)},cK H c b->cK H' c b
 | _,_,.nil=>.nil
 | _,_,.cons h t=>.cons (k _ _ h) (cK.mono k t)
theorem zR {H':Hp}:∀{d:List Addr} {c:List (List Int)},d.length=c.length->(∀(j:Nat) a r,d[j]? = some a->c[j]? = some r->H' a=some (.tup (r.map V.int)))->cK H' (d.map V.ref) c
 | [],[],_,_=>.nil
 | [],_ :: _,h,_=>by simp at h
 | _ :: _,[],h,_=>by simp at h
 | a :: d,r :: c,h,f=>.cons (f 0 a r rfl rfl) (zR (by simpa using h) λj b q e g=>f (j + 1) b q (by simpa using e) (by simpa using g))
def HU:List V->Hp->VK->Prop:=λxs H Q=>∃(p a:Addr) (ps:List (Int × Int)),xs=[.ref p]/\H p=some (.ext (tV p a))/\H a=some (.dK (ps.map λq=>((Sum.inl q.1:Key),V.int q.2)))/\ps.length < 64/\(ps.map λq=>[q.1,q.2]).Nodup/\
 ∀H' q vs',ju H H'->H q=none->H' q=some (.lst vs')->cK H' vs' (cQ (ps.map λq=>[q.1,q.2]))->Q (.ref q) H'
theorem JU {κ : Type}{kvs:List (κ × V)}{vs:List (κ × T0)}(r:KV kvs vs):∀{j:Nat} {k : κ} {x:T0} {a : κ} {v:V},vs[j]? = some (k,x)->kvs[j]? = some (a,v)->a=k/\bx v x:=by
 induction r with
 | nil=>intro j k x a v e;simp at e
 | cons h t ih =>
  intro j k x a v e b;cases j with
  | zero=>simp at e b;subst e b;exact h
  | succ j=>exact ih (by simpa using e) (by simpa using b)
theorem xK (hc:X.calm=true):fS X (.builtin "sorted") HU:=by
 intro pins s σ H xs us Q I r h;obtain⟨p,a,ps,rfl,hp,ha,R,Z,q⟩:=h;obtain⟨u,rfl,ru⟩:=aR.one r;cases (show u=Value.ref p from ru);obtain⟨f,l⟩ : ∃f,f=ps.map λq=>[q.1,q.2]:=⟨_,rfl⟩;rw[<-l]at Z q;have C:tV p a s.heap:=(I.hok p _ hp).1;obtain⟨hz,_,T,G,dd⟩:=Ct I.hok ha;have F:T.length=ps.length:=by rw[<-G.length];simp
 obtain⟨o,es,ep,d1,d2⟩:=id dd;have U:s.heap.DictAt (cN X.prog X.w) a T ep:=⟨o,es,d1,d2⟩;refine VA kind_sorted plain_sorted entry_sorted (args_sorted1 _) ?_;unfold Builtin.«sorted»;refine z0 (m:=checkCount "sorted" 1 1 _) (y3 ?_);refine z0 (kdx_collect (A:=X.A.in1) (knd:=cN X.prog X.w) (kvs:=T) (ep:=ep) (I.ok.hd hc) ⟨_,C,rfl,rfl⟩ U (by rw[F,YF];omega) λg tk d hk E J => ?_);have y:d.Nodup:=J.rise.imp λh=>ZN h;have lr:d.length=f.length:=by rw[E,F,l];simp
 have i:∀b∈d,s.heap.objs.size<=b:=λb w=>Y6 (J.above b w);have K:ju H (ov d f H):=λb u e=>by
  rw[zQ]
  ·exact e
  ·intro z
   exact absurd (I.hok.lt e) (Nat.not_lt.mpr (i b z))
 have L:Inv X pins σ (ov d f H) { s with heap:=g,toks:=tk }:=by
  refine CB I hk K (λb w=>zQ λz=>absurd w (Nat.not_lt.mpr (i b z))) λb u w e => ?_
  by_cases hm:b∈d
  ·obtain⟨j,P⟩:=List.getElem?_of_mem hm
   have a0:j < d.length:=(List.getElem?_eq_some_iff.mp P).1;obtain⟨Y,k,x,e1,e2,e3⟩:=J.pairs j b P;obtain⟨v,D⟩ : ∃v,ps[j]? = some v:=⟨ps[j]'(by omega),by simp[show j < ps.length by omega]⟩;have hr:f[j]? = some [v.1,v.2]:=by rw[l,ZQ,D];rfl
   rw[CC y P hr]at e;cases e;refine⟨?_,λc z=>by cases z⟩;obtain⟨W,rx⟩:=JU G e1 (show (ps.map λq=>((Sum.inl q.1:Key),V.int q.2))[j]? = some (Sum.inl v.1,V.int v.2) by rw[ZQ,D];rfl);obtain⟨t,rfl⟩:=zK rx;subst W;have:∃t',Y=Value.int v.1 t':=VU e2;obtain⟨t',rfl⟩:=this;exact⟨by simp[YF],[_,_],.cons ⟨t',rfl⟩ (.cons ⟨t,rfl⟩ .nil),_,e3,rfl,_,rfl⟩
  ·rw[zQ hm]at e
   exact absurd (I.hok.lt e) (Nat.not_lt.mpr w)
 refine z0 (VG ?_ (by rw[ZA,E,F,YF];omega));have N:aR (d.map V.ref) (d.map Value.ref):=by
  clear E J y lr i K L q
  induction d with
  | nil=>exact .nil
  | cons a d ih=>exact .cons rfl ih
 have I2:Inv X pins σ (upd (ov d f H) g.objs.size (.lst (d.map V.ref))) { s with heap:=g.push { cls:=.type "list",data:=.seq (d.map Value.ref).toArray },toks:=tk }:=L.lnew (t':=tk) N (by rw[ZA,E,F,YF];omega);have fr:ov d f H g.objs.size=none:=L.hok.fresh (ZL _);have M:ju (ov d f H) (upd (ov d f H) g.objs.size (.lst (d.map V.ref))):=bW fr;have n:cK (upd (ov d f H) g.objs.size (.lst (d.map V.ref))) (d.map V.ref) f:=zR lr λj b r e e'=>M _ _ (CC y e e');have O:(f.all λx => !x.isEmpty)=true:=by rw[l,List.all_map,List.all_eq_true];intro q _;rfl
 refine z0 (YV (HR (A:=X.A.in1) I2 aY (by rw[ZA,E,F];exact R) n Z O λB s' S I3=>y3 ⟨_,rfl,?_⟩));have uu:upd (upd (ov d f H) g.objs.size (.lst (d.map V.ref))) g.objs.size (.lst B)=upd (ov d f H) g.objs.size (.lst B):=by
  funext b
  by_cases z:b=g.objs.size
  ·subst z;rw[aY,aY]
  ·rw[aB z,aB z,aB z]
 rw[uu]at I3;refine⟨.ref g.objs.size,_,I3,rfl,q _ _ B (λb u e=>bW fr _ _ (K _ _ e)) ?_ aY ?_⟩
 ·cases e:H g.objs.size with
  | none=>rfl
  | some u=>rw[K _ _ e]at fr;cases fr
 ·refine S.mono λb ys e => ?_
  have w:b≠g.objs.size:=λz=>by subst z;rw[aY]at e;cases e
  rw[aB w]at e ⊢;exact e
theorem oo:∀{l:List (Int × D)} {r:List (List Int)},eC l=some r->∃ps:List (Int × Int),l=ps.map (λq=>(q.1,D.int q.2))/\r=ps.map λq=>[q.1,q.2]
 | [],r,e=>by simp only[eC]at e;cases e;exact⟨[],rfl,rfl⟩
 | (k,d) :: l,r,e=>by
  cases d<;>simp only[eC]at e<;>try (cases e;done)
  rename_i v
  cases c:eC l with
  | none=>rw[c]at e;cases e
  | some r' =>
   rw[c]at e;cases e;obtain⟨ps,rfl,rfl⟩:=oo c;exact⟨(k,v) :: ps,rfl,rfl⟩
theorem CF {K:ZX}{ρ:List Addr}{H:Hp}:∀{ps:List (Int × Int)} {a:List (Key × V)},a.map (·.1)=(ps.map λq=>(q.1,D.int q.2)).map (λp=>(Sum.inl p.1:Key))->RDs K ρ H ((ps.map λq=>(q.1,D.int q.2)).map (·.2)) (a.map (·.2))->a=ps.map λq=>((Sum.inl q.1:Key),V.int q.2)
 | [],[],_,_=>rfl
 | [],_ :: _,h,_=>by simp at h
 | _ :: _,[],h,_=>by simp at h
 | (j,d) :: ps,(kk,v) :: a,h1,h2=>by
  simp only[x8,XW]at h1;simp only[x8,RDs]at h2;obtain⟨f,g,e,q1,q2⟩:=h2;cases e;obtain⟨b,c⟩:=h1;subst b;simp only[RD]at q1;subst q1;rw[CF c q2];rfl
theorem CG {o:Expr} {A:EF} {apos g:Pos} (hc:X.calm=true) (K:Gl X "sorted") (hm:X.mg "sorted" = none) (J:ME X o A)
  (B:starEach [.Call (.Attribute o "items" apos) [] [] g] X.env=(false,eval (.Call (.Attribute o "items" apos) [] [] g) X.env) :: starEach [] X.env:=by rfl)
  (j:attributeBase o "items" X.env (eval o X.env)=eval o X.env:=by rfl) (k:(apos.endLine == g.line)=true:=by rfl) :
  MF X (.Call (.Name "sorted" p) [.Call (.Attribute o "items" apos) [] [] g] [] pos) (mO A):=by
 refine PE.imp (iq (xK hc) K hm (by decide +kernel) (cF (CA J j k) d6 B) (he:=B)) λσ H Q ⟨ρ,σd,hd,L,f⟩=>⟨ρ,σd,hd,L,?_⟩;unfold mO at f;cases e:A σd hd with
 | exc x h'=>rw[e]at f;exact f
 | bad=>rw[e]at f;exact f
 | ok d hd1 =>
  rw[e]at f;simp only[aP]at f;intro v H1 s C i rv;cases d<;>try exact f.elim
  rename_i n
  simp only at f;simp only[rD,RD]at rv;obtain⟨a,I,rfl⟩:=rv;cases c:hd1[n]? with
  | none=>rw[c]at f;exact f.elim
  | some cell =>
   rw[c]at f;cases cell with
   | lst l=>exact f.elim
   | dcT _=>exact f.elim
   | dct l =>
    simp only at f;cases c2:eC l with
    | none=>rw[c2]at f;exact f.elim
    | some r =>
     rw[c2]at f;simp only at f;split at f
     ·rename_i hz
      obtain⟨ps,rfl,rfl⟩:=oo c2;obtain⟨N,q1,q2,q3⟩:=i.hp.cel n _ a c I;have G:=CF q2 q3;subst G;refine⟨a,_,rfl,q1,λq E=>⟨q,a,ps,rfl,aY,by rw[aB (bu q1 E)];exact q1,by simpa using hz.1,hz.2,λH' F w M h y t => ?_⟩⟩;have m:ju H1 H':=λb u P=>M _ _ (bW E _ _ P);have O:F≠q:=λz=>by subst z;rw[aY]at h;cases h
      rw[aB O]at h;have D:=i.hp.free h;exact f F w H' s (C.trans (Ext.same m)) (i.same m) (C.fresh h D) y D t.rds
     ·exact f.elim
end
end Fm
namespace Fm
@[simp] def pR (la:LF) (b:EF):LF:=λσ h=>(la σ h).bind λl h=>(b σ h).bind λy h=>match y with
 | .int n=>if 0<=n/\n<=1000/\l.length * n.toNat<=1000 then .ok (List.replicate n.toNat l).flatten h else .bad
 | _=>.bad
@[simp] def KZ (x i e:EF):EF:=λσ h=>(x σ h).bind λp h=>match p with
 | .ref n=>match h[n]? with
  | some (.lst _)=>(i σ h).bind λj h=>(e σ h).bind λd h=>match j with
   | .int k=>match h[n]? with
    | some (.lst l)=>if 0<=k/\k<=l.length/\l.length < SZ then .ok .non (h.set n (.lst (l.take k.toNat++[d]++l.drop k.toNat))) else .bad
    | _=>.bad
   | _=>.bad
  | _=>.bad
 | _=>.bad
@[simp] def xL (a b:EF):EF:=λσ h=>(a σ h).bind λx h=>(b σ h).bind λy h=>match x,y with
 | .int i,.int j=>.ok (.int (if j > i then j else i)) h
 | _,_=>.bad
@[simp] def dB (a b:EF):LF:=λσ h=>(a σ h).bind λx h=>(b σ h).bind λy h=>match x,y with
 | .ref n,.ref m=>match h[n]?,h[m]? with
  | some (.lst l),some (.lst k)=>if l.length + k.length<=SZ then .ok (l++k) h else .bad
  | _,_=>.bad
 | _,_=>.bad
end Fm
namespace Fm
open PySem PySem.Spec L2 PySem.W PyProof.Rows
section
variable {X:Cx} {pos p:Pos}
theorem sr {K:ZX}{ρ:List Addr}{H:Hp}:∀{l:List D} {a:List V} {bs:List Bool},RDs K ρ H l a->iw l=some bs->a=bs.map V.bl
 | [],_,is,r,e=>by simp only[iw]at e;cases e;simp only[RDs]at r;subst r;rfl
 | d :: l,_,is,r,e=>by
  simp only[RDs]at r;obtain⟨v,a,rfl,h1,h2⟩:=r;cases d<;>simp only[iw]at e<;>try (cases e;done)
  rename_i i
  cases c:iw l with
  | none=>rw[c]at e;cases e
  | some js =>
   rw[c]at e;cases e;simp only[RD]at h1;rw[h1,sr h2 c];rfl
theorem CH {bs:List Bool}{a:List T0}(r:aR (bs.map V.bl) a):∀(i:Nat) (v:T0),a.toArray[i]? = some v->v=.bool (bs.getD i false):=by
 intro i v e;have b:a[i]? = some v:=by simpa using e
 have hi:i < bs.length:=by
  have:=(List.getElem?_eq_some_iff.mp b).1;have:=r.length;simp at this;omega
 obtain⟨u,d,c⟩:=r.get (i:=i) (x:=V.bl bs[i]) (by simp[hi]);rw[d]at b;cases b;rw[show v=Value.bool bs[i] from c];simp[List.getD,hi]
theorem CJ (bs:List Bool):(List.range bs.length).all (λi=>bs.getD i false)=bs.all id:=by
 have:bs=(List.range bs.length).map λi=>bs.getD i false:=by
  apply YB;intro i
  by_cases hi:i < bs.length<;>simp[List.getD,hi]
 conv=>rhs;rw[this]
 rw[List.all_map];rfl
theorem AT (hc:X.calm=true):fS X (.builtin "all") (λxs H Q=>∃(p:Addr) (bs:List Bool),xs=[.ref p]/\(SqL X.K H p (bs.map V.bl)\/SqT X.K H p (bs.map V.bl))/\Q (.bl (bs.all id)) H):=by
 intro pins s σ H xs C Q I r q;obtain⟨p,bs,rfl,h,q⟩:=q;obtain⟨u,rfl,y⟩:=aR.one r;cases (show u=Value.ref p from y);have m:(X.A.in1).handled=none:=I.ok.hd hc;have t:∀(a:List T0),aR (bs.map V.bl) a->TruthOf X.prog X.w X.A.in1 (λi v=>a.toArray[i]? = some v) (λi=>bs.getD i false):=λa rv i v s Q E A x=>by
  rw[CH rv i v A];exact X0 x
 have j:∀{w:Obj} {k:Heap} {tk:Nat} {n:Nat},n=bs.length->(∀b o,b∉[s.heap.objs.size]->(s.heap.push w).get? b=some o->k.get? b=some o)->EP X pins σ Q (.bool ((List.range n).all λi=>bs.getD i false)) { s with heap:=k,toks:=tk }:=by
  intro w k tk n z g;subst z;refine⟨.bl (bs.all id),H,I.kept (t':=tk) λb o e=>g b o (by simp;exact ZN (ZI e)) (ZH _ e),by rw[CJ];rfl,q⟩
 rcases h with h|h
 ·obtain⟨a,rv,l,B⟩:=I.list h
  have c:s.heap.IsList p a.toArray:=l.isList;have f:p < s.heap.objs.size:=by obtain⟨o,d,_⟩:=c;exact ZI d
  refine PySem.call_all_walk (PySem.wpAny_pyIter_list c ?_);refine⟨s.heap.objs.size,_,[s.heap.objs.size],_,_,_,λi=>bs.getD i false,rfl,PySem.Walks.list m s.heap.objs.size p (ZN f) a.toArray,⟨⟨_,ZJ _ rfl,rfl,rfl⟩,?_⟩,t a rv,?_⟩
  ·obtain⟨o,d,r⟩:=c;exact⟨o,ZH _ d,r⟩
  ·exact λk tk g=>j (by simpa using rv.length.symm) g
 ·obtain⟨a,rv,l,B⟩:=I.tuple h
  have c:s.heap.IsTuple p a.toArray:=l;have f:p < s.heap.objs.size:=by obtain⟨o,d,_⟩:=c;exact ZI d
  refine PySem.call_all_walk (PySem.wpAny_pyIter_tuple c ?_);refine⟨s.heap.objs.size,_,[s.heap.objs.size],_,_,_,λi=>bs.getD i false,rfl,PySem.Walks.tuple m s.heap.objs.size p (ZN f) a.toArray,⟨⟨_,ZJ _ rfl,rfl,rfl⟩,?_⟩,t a rv,?_⟩
  ·obtain⟨o,d,r⟩:=c;exact⟨o,ZH _ d,r⟩
  ·exact λk tk g=>j (by simpa using rv.length.symm) g
theorem tW {a:Expr} {f:LF} (hc:X.calm=true) (j:Gl X "all") (hm:X.mg "all" = none) (ha:MQ X a f) (d:starEach [a] X.env=(false,eval a X.env) :: starEach [] X.env:=by rfl):ME X (.Call (.Name "all" p) [a] [] pos) (vv f):=by
 refine tM (g:=λl h=>match iw l with|some bs=>.ok (.bl (bs.all id)) h|none=>.bad) (Ci (AT hc) j hm (by decide +kernel) (he:=d)) ha (λρ H σd hd σ l q m Q k i b p => ?_) d;cases c:iw l with
 | none=>simp only[c]at p;exact p.elim
 | some is =>
  simp only[c]at p;have e:=sr b c;subst e;exact⟨q,is,rfl,i.imp id SqT.of,p.here k (by simp only[rD,RD])⟩
theorem CK {a b:Expr}{r:LF}{m:EF}(ha:MF X a r)(hb:ME X b m):MF X (.BinOp a .Mult b pos) (pR r m):=by
 refine PE.imp (B3 Hj ha hb) λσ H Q ⟨ρ,σd,hd,A,c⟩=>⟨ρ,σd,hd,A,?_⟩;unfold pR at c;cases e:r σd hd with
 | exc x h'=>rw[e]at c;exact c
 | bad=>rw[e]at c;exact c
 | ok l hd1 =>
  rw[e]at c;simp only[aP]at c;intro q s H1 i z f t C B g;refine⟨i,σd,hd1,f,?_⟩;cases e2:m σd hd1 with
  | exc x h'=>rw[e2]at c;exact c
  | bad=>rw[e2]at c;exact c
  | ok y hd2 =>
   rw[e2]at c;simp only[aP]at c;intro v w D d k rv;cases y<;>try exact c.elim
   rename_i n
   simp only at c;split at c
   ·rename_i hz
    simp only[rD,RD]at rv;subst rv;have j:w q=some (.lst s):=d.frame q _ C B;have h:=g.mono (f.hp.kp d);refine⟨q,n,s,rfl,rfl,j,by omega,by omega,by rw[<-g.length,YF];omega,λu o => ?_⟩;exact vw.mk c (z.trans d) k (RDs.rep h n.toNat) u o
   ·exact c.elim
theorem HV {a b:Expr} {fa m:EF} (hc:X.calm=true) (o:Gl X "max") (hm:X.mg "max" = none) (ha:ME X a fa) (hb:ME X b m) (j:starEach [a,b] X.env=(false,eval a X.env) :: starEach [b] X.env:=by rfl) (h:starEach [b] X.env=(false,eval b X.env) :: starEach [] X.env:=by rfl) (hpl:(backTo pos (starEach [b] X.env)).any (λx=>x.1)=false:=by rfl):ME X (.Call (.Name "max" p) [a,b] [] pos) (xL fa m):=by
 refine PE.imp (iq (AE hc) o hm (by decide +kernel) (cF ha (cF hb d6 h) j) (he:=j) (hpl:=hpl)) λσ H Q ⟨ρ,σd,hd,q,l⟩=>⟨ρ,σd,hd,q,?_⟩;unfold xL at l;refine(bM.bind (R:=rD X.K) l).imp λv H1 ⟨e,d,i,y,g,rv,r⟩ => ?_;refine⟨e,σd,i,g,(bM.bind (R:=rD X.K) r).imp λw u ⟨s,k,n,t,f,c,p2⟩ => ?_⟩;cases d<;>try exact p2.elim
 cases k<;>try exact p2.elim
 simp only[rD,RD]at rv c;subst rv c;exact⟨_,_,rfl,p2.here f (by simp only[rD,RD])⟩
theorem lJ {a b:Expr}{fa s:EF}(ha:ME X a fa)(hb:ME X b s):MF X (.BinOp a .Add b pos) (dB fa s):=by
 refine PE.imp (B3 Hi ha hb) λσ H Q ⟨ρ,σd,hd,I,c⟩=>⟨ρ,σd,hd,I,?_⟩;unfold dB at c;cases e:fa σd hd with
 | exc x h'=>rw[e]at c;exact c
 | bad=>rw[e]at c;exact c
 | ok d hd1 =>
  rw[e]at c;simp only[aP]at c;intro v H1 o G t rv;refine⟨o,σd,hd1,t,?_⟩;cases e2:s σd hd1 with
  | exc x h'=>rw[e2]at c;exact c
  | bad=>rw[e2]at c;exact c
  | ok k hd2 =>
   rw[e2]at c;simp only[aP]at c;intro w K J i h j;cases d with
   | ref n =>
    cases k with
    | ref m =>
     simp only at c;simp only[rD,RD]at rv j;obtain⟨D,z,rfl⟩:=rv;obtain⟨E,r,rfl⟩:=j;have y:=i.get z;cases c1:hd2[n]? with
     | none=>rw[c1]at c;exact c.elim
     | some x1 =>
      cases c2:hd2[m]? with
      | none=>rw[c1,c2]at c;cases x1<;>exact c.elim
      | some x2 =>
       rw[c1,c2]at c;cases x1 with
       | dct _=>exact c.elim
       | dcT _=>exact c.elim
       | lst l =>
        cases x2 with
        | dct _=>exact c.elim
        | dcT _=>exact c.elim
        | lst k =>
         simp only at c;split at c
         ·rename_i hz
          obtain⟨u,A,f⟩:=h.hp.cel n _ D c1 y;obtain⟨q,C,g⟩:=h.hp.cel m _ E c2 r;refine⟨D,E,u,q,rfl,rfl,A,C,by rw[<-f.length,<-g.length];exact oV hz,λF B => ?_⟩;exact vw.mk c (G.trans i) h (RDs.append f g) F B
         ·exact c.elim
    | _=>exact c.elim
   | _=>exact c.elim
end
end Fm
namespace Fm
@[simp] def HW:O2:=λx y h=>(oIc (λi j=>decide (i=1) && (decide (0<=j) && decide (j<=1000))) (λi j=>i * 2 ^ j.toNat)) x y h
section
open Classical
def eD (l:List D):List D:=(List.range l.length).zip l |>.map λp=>.tup [.int (p.1:Nat),p.2]
end
end Fm
namespace Fm
open PySem PySem.Spec L2
open PyProof.Rows (Call_)
section
variable {prog:T3} {w:T4} {A:T2} {E:T0->T1->Prop} {s:T1} {z TI TO i1 i2 l1 l2:Addr} {k:Nat} {xs ys:Array T0} {a b:T0}
end
section
variable {prog:T3} {w:T4} {A:T2} {E:T0->T1->Prop} {s:T1}
end
section
variable {X:Cx} {pos p tp:Pos} {elts:List Expr} {tk:Nat}
end
end Fm
namespace Fm
open PySem PySem.Spec L2 PySem.W PyProof.Rows
section
variable {X:Cx} {pos p:Pos}
theorem HX {K:ZX}:Og K HW (rI Jt λi j=>.int (i * 2 ^ j.toNat)):=vx λi j h=>by
 simp only[Z7,Y8]at h;obtain⟨rfl,h1,h2⟩:=h;exact⟨h1,by omega,by decide⟩
end
section
variable {prog:T3} {w:T4} {A:T2} {E:T0->T1->Prop} {s:T1}
end
section
variable {X:Cx} {pos p:Pos}
end
end Fm
namespace Fm
open PySem PySem.Spec L2
open AutoSeq1 (wpAny_loadPart')
open PyProof.Rows (Call_)
def ItL (K:ZX) (a:Addr):It :=
 ⟨λi H=>∃xs x,SqL K H a xs/\xs[i]? = some x,λi H x H'=>∃q v,x=.ref q/\H q=none/\H'=upd H q (.tup [.int (i:Nat),v])/\∀xs,SqL K H a xs->xs[i]? = some v,λi H=>∃xs,SqL K H a xs/\xs.length=i⟩
theorem xM {P:T3}{w:T4}{K:ZX}{elts:List Expr}{k:Nat}{pos:Pos}(e it a:Addr):xr P w K (.Tuple elts k pos) (ItL K a) [e,it] e (λi h=>(∃g,IsEnum h e it (i:Nat) g)/\h.IsListIter it a i) where
 mem:=by simp
 obj:=λi h st b d=>by
  obtain⟨⟨g,B⟩,o,ho,hc,hd⟩:=st;rcases VI.mp d with rfl|d
  ·exact⟨_,B,λv z=>by
    have z':Data.fields _=Data.cell v:=z;cases z'⟩
  ·have:b=it:=by simpa using d
   subst this;exact⟨o,ho,λv z=>by rw[hd]at z;cases z⟩
 keep:=λi h h' st kk=>by
  obtain⟨⟨g,B⟩,st⟩:=st;exact⟨⟨g,kk e (by simp) _ B⟩,st.at λo x=>kk it (by simp) o x⟩
 item:=by
  intro X hP hw hK hc i pins s σ H E I U st hg;subst hP hw hK;obtain⟨⟨g,B⟩,G⟩:=st;obtain⟨xs,x,hq,Z⟩:=hg;obtain⟨f,rv,p,hz⟩:=I.list hq;have W:s.heap.IsList a f.toArray:=p.isList;obtain⟨oi,C,J,a0⟩:=id G;obtain⟨oa,l,j,na,a6⟩:=id W;have L:e≠it:=λz=>by
   subst z;have D:s.heap.get? e=_:=B;rw[C]at D;cases D;exact vF J (by decide)
  have a4:e≠a:=λz=>by
   subst z;have D:s.heap.get? e=_:=B;rw[l]at D;cases D;exact vF j (by decide)
  have N:a≠it:=λz=>by
   subst z;rw[C]at l;cases l;rw[J]at j;exact vF j (by decide)
  obtain⟨e0,e1,e2,e3,e4,e5⟩:=U e (by simp);obtain⟨f0,f1,f2,f3,f4,f5⟩:=U it (by simp);have a5:i < f.toArray.size:=by
   have:=(List.getElem?_eq_some_iff.mp Z).1;have hl:=rv.length;simp;omega
  refine wpAny_pyNext_enum_itemD (Draws.list (prog:=X.prog) (w:=X.w) (A:=X.A.in1) (I.ok.hd hc) it a N f.toArray) B ⟨G,W⟩ a5 L (by simp;exact⟨L,a4⟩) λy h' tk hy a8 R Y V hk => ?_;refine⟨_,rfl,wpAny_letOwnedTupleGo_enum a8 λh2 a9 F => ?_⟩;replace F:Heap.SameBut e h' h2:=F;obtain⟨u,hu,ru⟩:=rv.get Z;have a2:y=u:=by
   have:f.toArray[i]? = some u:=by simpa using hu
   rw[hy]at this;exact ZT this
  subst a2;have Q:e < s.heap.objs.size:=ZI B;have b0:it < s.heap.objs.size:=ZI C;have O:H s.heap.objs.size=none:=I.hok.fresh (ZL _);have keep:∀b o,b≠e->b≠it->s.heap.get? b=some o->h2.get? b=some o:=λb o b1 b2 q=>(F.2 b b1).trans (hk b o b1 b2 q);have M:h2.get? s.heap.objs.size=some { cls:=.type "tuple",data:=.seq #[.int i tk,y] }:=(F.2 _ (Z6 Q)).trans Y;have t:∀b,b∉([e,it] : List Addr)->b≠e/\b≠it:=λb d=>by simpa using d
  refine⟨.ref s.heap.objs.size,upd H s.heap.objs.size (.tup [.int (i:Nat),x]),?_,rfl,⟨_,x,rfl,O,rfl,λys a3=>by rw[I.list_inj a3 hq];exact Z⟩,⟨⟨_,by simpa using a9⟩,R.1.extBut F.extBut (XO L)⟩,λb d => ?_⟩
  ·suffices I2:L2.Inv X pins σ (upd H s.heap.objs.size (.tup [.int (i:Nat),x])) { s with heap:=h2,gens:=s.gens,drawn:=s.drawn,toks:=tk + 1 } from I2
   refine I.step (g':=s.gens) (d':=s.drawn) (t':=tk + 1) (ch:=[e,it]) (λb d => ?_) (λb o _ _ d q _=>keep b o (t b d).1 (t b d).2 q) (λb o _ _ d q _=>⟨o.slots,keep b o (t b d).1 (t b d).2 q⟩) (λb o _ q n => ?_) (λb o d q=>⟨o,keep b o (t b d).1 (t b d).2 q⟩)
    (λb ys q => ?_) (λb o u q => ?_) (λb ps q=>⟨#[],?_⟩) (λm hm => ?_) (λb u q => ?_) I.bare
   ·rcases VI.mp d with rfl|d
    ·exact⟨e3,e1,e4,e5⟩
    ·have:b=it:=by simpa using d
     subst this;exact⟨f3,f1,f4,f5⟩
   ·rw[aB (ZN (ZI q))];exact n
   ·rw[aB (bu q O)];exact q
   ·rw[aB (bu q O)];exact q
   ·rw[aB (bu q O),q];simp
   ·obtain⟨o,es,ep,ho,r⟩:=hm
    exact⟨o,es,ep,keep _ o (XO e1) (XO f1) ho,r⟩
   ·by_cases d:b=s.heap.objs.size
    ·subst d
     rw[aY]at q;cases q;exact⟨by show 2<=sizeLine;rw[YF];decide,[.int i tk,y],.cons ⟨tk,rfl⟩ (.cons ru .nil),_,M,rfl,_,rfl⟩
    ·rw[aB d]at q
     have T:∀c v,H c=some v->c≠e:=λc v z w=>by rw[w,e0]at z;cases z
     have S:∀c v,H c=some v->c≠it:=λc v z w=>by rw[w,f0]at z;cases z
     refine(I.hok b u q).stay (λc v a1 z => ?_) (λc z=>by rw[aB (bu z O)];exact z) λc ys z=>by rw[aB (bu z O)];exact z
     rcases a1 with w|w
     ·subst w;exact keep c v (T c _ q) (S c _ q) z
     ·exact keep c v (T c _ w) (S c _ w) z
  ·have:b≠s.heap.objs.size:=by
    rcases VI.mp d with rfl|d
    ·exact ZN Q
    ·have:b=it:=by simpa using d
     subst this;exact ZN b0
   rw[aB this];exact(U b d).1
 done:=by
  intro X hP hw hK hc i pins s σ H E I U st hg;subst hP hw hK;obtain⟨⟨g,B⟩,G⟩:=st;obtain⟨xs,hq,Z⟩:=hg;obtain⟨f,rv,p,hz⟩:=I.list hq;have W:s.heap.IsList a f.toArray:=p.isList;obtain⟨oi,C,J,a0⟩:=id G;obtain⟨oa,l,j,na,a6⟩:=id W;have N:a≠it:=λz=>by
   subst z;rw[C]at l;cases l;rw[J]at j;exact vF j (by decide)
  obtain⟨f0,f1,f2,f3,f4,f5⟩:=U it (by simp);have V:f.toArray.size=i:=by have:=rv.length;simp;omega
  refine wpAny_pyNext_enum_endD (Draws.list (prog:=X.prog) (w:=X.w) (A:=X.A.in1) (I.ok.hd hc) it a N f.toArray) B ⟨by rw[V];exact G,W⟩ λh' a7=>⟨rfl,I.turned (t':=s.toks) (λb o d e=>a7 b o d e) f0 f1 f3 f4 f5⟩
 self:=λ_ _ _ _ _ st h=>by
  obtain⟨⟨g,B⟩,_⟩:=st;exact VY B h
section
variable {X:Cx} {pos p tp:Pos} {elts:List Expr} {tk:Nat}
def K2 (K:ZX) (ta:TE):TI:=λσ H R=>ta σ H λx H1=>∃a xs,x=.ref a/\SqL K H1 a xs/\(xs.length<=sizeLine->R (ItL K a) H1)
theorem CL {a:Expr} {ta:TE} (z:Gl X "enumerate") (hm:X.mg "enumerate" = none) (ha:PE X a ta) (n:starEach [a] X.env=[(false,eval a X.env)]:=by rfl):PI X (.Tuple elts tk tp) (.Call (.Name "enumerate" p) [a] [] pos) (K2 X.K ta):=by
 intro pins s σ H R I h;have l:=cF ha d6 n;refine Call_ (jx I z hm PyProof.Rows.boot_enumerate (X7 (thn (l pos pins s σ H (λo H1=>∃a xs,o=[.ref a]/\SqL X.K H1 a xs/\(xs.length<=sizeLine->R (ItL X.K a) H1)) I ?_) λE c ⟨o,H1,g,D,q1⟩ => ?_) n rfl))
 ·show ta σ H λx H1=>_
  have m:∀(x:V) (H1:Hp),(∃a xs,x=.ref a/\SqL X.K H1 a xs/\(xs.length<=sizeLine->R (ItL X.K a) H1))=(∃a xs,[x] = [.ref a]/\SqL X.K H1 a xs/\(xs.length<=sizeLine->R (ItL X.K a) H1)):=λx H1=>by simp
  have f:ta σ H λx H1=>∃a xs,x=.ref a/\SqL X.K H1 a xs/\(xs.length<=sizeLine->R (ItL X.K a) H1):=h;simp only[m]at f;exact f
 ·obtain⟨a,xs,e,A,q⟩:=q1
  subst e;obtain⟨u,rfl,v⟩:=aR.one D;cases (show u=Value.ref a from v);obtain⟨i,rv,w,B⟩:=g.list A;refine call_enumerate_list (show c.heap.IsList a i.toArray from w.isList) λf r k C t => ?_;refine VY (s:={ c with heap:=f }) r ?_;have y:Inv X pins σ H1 { c with heap:=f }:=g.kept (t':=c.toks) t;refine⟨c.heap.objs.size + 1,[c.heap.objs.size + 1,c.heap.objs.size],_,_,H1,rfl,y,xM (c.heap.objs.size + 1) c.heap.objs.size a,⟨⟨_,by simpa using r⟩,k⟩,λb j => ?_,q B⟩;have d:c.heap.objs.size<=b:=by
   rcases VI.mp j with e|j
   ·rw[e];exact VT _
   ·have:b=c.heap.objs.size:=by simpa using j
    rw[this];exact ZL _
  exact g.fpOk d (g.hok.fresh d)
theorem xN {K:ZX}{ρ:List Addr}{H:Hp}{n:Nat}{q:Addr}{l:List D}(hq : ρ[n]? = some q)(hz:(eD l).length<=sizeLine):vD K ρ H (ItL K q) (eD l) (λh=>h[n]? = some (.lst l)) where
 go:=λρ' H' hd' i d ex k f hi=>by
  have b:=ex.get hq;obtain⟨c,g,a⟩:=k.cel n _ q f b;unfold eD at hi;obtain⟨j,hi2⟩:=List.getElem?_eq_some_iff.mp hi;have s:i < l.length:=by simpa using j
  have hd:d=.tup [.int (i:Nat),l[i]]:=by rw[<-hi2];simp
  subst hd;obtain⟨v,e,u⟩:=a.get (i:=i) (d:=l[i]) (by simp[s]);have m:SqL K H' q c:=SqL.of g;refine⟨⟨c,v,m,e⟩,λx w y => ?_⟩;obtain⟨q2,z,rfl,t,rfl,y⟩:=y;have:=y c m;rw[e]at this;cases this;have r:=bW (o:=HO.tup [.int (i:Nat),v]) t;refine⟨r,?_⟩;simp only[RD];exact⟨q2,_,rfl,aY,RDs.cons (by simp only[RD]) (RDs.cons (u.mono (Kp.same r)) RDs.nil)⟩
 stop:=λρ' H' hd' ex k f=>by
  have b:=ex.get hq;obtain⟨c,g,a⟩:=k.cel n _ q f b;exact⟨c,SqL.of g,by rw[<-a.length];simp[eD]⟩
 sz:=hz
def CM (K:ZX) (ρ:List Addr) (H:Hp) (σd:Sd) (σ:St) (r:Res D) (R:It->Hp->Prop):Prop:=match r with
 | .ok (.ref n) hd'=>match hd'[n]? with
  | some (.lst l)=>∀J H' ρ',Ext ρ H ρ' H'->RS K ρ' H' σd hd' σ->vD K ρ' H' J (eD l) (λh=>h[n]? = some (.lst l))->R J H'
  | _=>False
 | _=>False
def JV (K:ZX) (f:EF):TI:=λσ H R=>∃ρ σd hd,RS K ρ H σd hd σ/\CM K ρ H σd σ (f σd hd) R
def MIE (X:Cx) (tg e:Expr) (f:EF):Prop:=PI X tg e (JV X.K f)
theorem vT {a:Expr} {f:EF} (o:Gl X "enumerate") (hm:X.mg "enumerate" = none) (ha:ME X a f) (m:starEach [a] X.env=[(false,eval a X.env)]:=by rfl):MIE X (.Tuple elts tk tp) (.Call (.Name "enumerate" p) [a] [] pos) f:=by
 refine PI.imp (CL o hm ha m) λσ H R ⟨ρ,σd,hd,r,b⟩=>⟨ρ,σd,hd,r,?_⟩;unfold CM at b;cases e:f σd hd with
 | exc x h1=>rw[e]at b;exact b
 | bad=>rw[e]at b;exact b
 | ok d hd1 =>
  rw[e]at b;intro v H1 g i c rv;cases d<;>try exact b.elim
  rename_i n
  cases c1:hd1[n]? with
  | none=>simp only[c1]at b
  | some cell =>
   simp only[c1]at b;cases cell with
   | dct l=>exact b.elim
   | dcT l=>exact b.elim
   | lst l =>
    simp only at b;simp only[rD,RD]at rv;obtain⟨q,k,rfl⟩:=rv;obtain⟨j,s,h⟩:=c.hp.cel n _ q c1 k;exact⟨q,j,rfl,SqL.of s,λt=>b _ H1 g i c (xN k (by rw[show (eD l).length=j.length by rw[<-h.length];simp[eD]];exact t))⟩
end
section
variable {X:Cx} {pos:Pos} {tg:Expr}
end
end Fm
namespace Fm
end Fm
namespace Fm
open PySem PySem.Spec L2
open PyProof.Rows (Call_)
section
variable {X:Cx} {pos p p2 pos2:Pos}
end
end Fm
namespace Fm
section
open Classical
@[simp] def jL (nl:Nat) (caps:List Nat) (a:EF) (tg:GF) (cs:List TF) (e:EF):LF:=λσ h=>match a σ h with
 | .ok (.ref n) h=>match h[n]? with
  | some (.lst l)=>dQ (λh=>h[n]? = some (.lst l)) tg cs e (eD l) (gw nl caps σ) h
  | _=>.bad
 | .ok _ _=>.bad
 | .exc x h=>.exc x h
 | .bad=>.bad
end
theorem pS {G:Hd->Prop}{tg:GF}{cs:List TF}{e:EF}{h:Hd}(I:Sd->Prop)(p:D->Bool)(f:D->D)(b:G h) :
  ∀{xs:List D} {σ:Sd},(∀x∈xs,∀σ,I σ->∃a,tg x σ = some a/\I a/\gu cs a h=.ok (p x) h/\(p x=true->e a h=.ok (f x) h))->I σ->
   dQ G tg cs e xs σ h=.ok ((xs.filter p).map f) h
 | [],_,_,_=>by simp[dQ,b]
 | x :: xs,σ,st,i=>by
  obtain⟨a,h1,h2,c,g⟩:=st x (by simp) σ i;have d:=pS I p f b (xs:=xs) (σ := a) (λy j=>st y (by simp[j])) h2;cases hp:p x with
  | true=>simp[dQ,b,h1,c,hp,g hp,d]
  | false=>simp[dQ,b,h1,c,hp,d]
end Fm
namespace Fm
open PySem PySem.Spec L2
section
variable {X:Cx} {pos:Pos} {scope:Scope} {own capn:List Str} {caps:List Nat}
theorem vU {B tg a:Expr}{w:List Expr}{f:EF}{g:GF}{cs:List TF}{e:EF}(hc:X.calm=true)(S:bC X scope own capn caps)(hi:MIE X tg a f)
  (N:∀E C s H ex,MG (cxC X (own++capn) scope E C s H ex) tg g/\MTs (cxC X (own++capn) scope E C s H ex) w cs/\ME (cxC X (own++capn) scope E C s H ex) B e)
  (W:∀x,foldedSetIterable a X.env x=pure x:=by intro _;rfl):MF X (.ListComp B [⟨tg,a,w,0⟩] scope pos) (jL own.length caps f g cs e):=by
 intro pins s σ H Q I ⟨ρ,σd,hd,rs,p⟩;rw[eval_ListComp];unfold jL at p;cases c:f σd hd with
 | exc z h7=>rw[c]at p;exact p.elim
 | bad=>rw[c]at p;exact p.elim
 | ok d hd1 =>
  rw[c]at p;cases d<;>try exact p.elim
  rename_i n
  simp only at p;cases c1:hd1[n]? with
  | none=>rw[c1]at p;exact p.elim
  | some cell =>
   rw[c1]at p;cases cell with
   | dct l=>exact p.elim
   | dcT l=>exact p.elim
   | lst l0 =>
    simp only at p;obtain⟨E,h1,k,t⟩:=kJ (scope:=scope) (env:=X.env) λy hy O=>I.ok.has y.1 (S.free y hy O);refine VE (use:=none) rfl W h1 S.kind S.names (thn (hi pins s σ H (λJ H1=>∃i,Ext ρ H i H1/\RS X.K i H1 σd hd1 σ/\vD X.K i H1 J (eD l0) (λh=>h[n]? = some (.lst l0))) I ⟨ρ,σd,hd,rs,by
     unfold CM;rw[c];simp only[c1];exact λJ H' ρ' ex R D=>⟨ρ',ex,R,D⟩⟩) λv s1 h1=>thn h1 λa0 s2 h2 => ?_)
    obtain⟨it,fp,tn,J,H1,rfl,A,T,L,hf,i,j,u,D⟩:=h2;generalize hG:(λh:Hd=>h[n]? = some (.lst l0))=G at p D;cases c2:dQ G g cs e (eD l0) (gw own.length caps σd) hd1 with
    | exc z h7=>rw[c2]at p;exact p.elim
    | bad=>rw[c2]at p;exact p.elim
    | ok ds hdF =>
     rw[c2]at p;refine mK (RR:=λU C=>compPost (model X.prog X.w) X.A X.xe none (EP X pins σ Q) U C) hc S N A T L hf u D k t c2 λC V m H' ρ' Z F hn Y M ex rh r hD P K => ?_;refine⟨m,hn,λh' sb=>⟨.ref s2.heap.objs.size,H',?_,rfl,?_⟩⟩
     ·refine Y.turned (it:=C) (t':=V.toks) (λb o hb e=>(sb.2 b hb).trans e) M ?_ (.inr (Y6 (ZS A.sz F))) (λx c e z => ?_) λq hq z => ?_
      ·exact Z6 (Z1 A.lt F)
      ·obtain⟨v,o,ho,hd⟩:=A.cell x c e
       exact absurd (Z1 (ZI ho) F) (by rw[z];exact Z9 _)
      ·exact absurd (Z1 (ZI (A.pin q hq).1) F) (by rw[z];exact Z9 _)
     ·exact p _ Z H' ρ' (j.trans ex) (rs.ext (j.trans ex) rh) (j.fresh r (u.hp.free r)) hD P K
end
section
variable {X:Cx}
end
theorem lc {p q:Prop}(h:p\/q:=by first|exact .inl rfl|exact .inr rfl):p\/q:=h
theorem bC.a {X:Cx}{scope:Scope}{own capn:List Str}{caps:List Nat}(cp:bn X scope capn caps)(k:scope.kind=.function:=by rfl)(c:∀y∈scope.names,y.2 ≠ .cell:=by decide +kernel)(n:∀y∈scope.names,y.2=.local->scope.names.lookup y.1=some .local:=by decide +kernel)
  (f:eU X scope.names:=by repeat' (first|exact eU.nil|refine eU.cons (by first|exact(λ_=>.inl rfl)|exact(λ_=>.inr rfl)|(intro z;cases z;done)) ?_)):bC X scope own capn caps:=bC.mk' k c n f cp
section
variable {X:Cx} {pos p:Pos}
theorem au {x:Str}{k j np:Nat}{F:Fn}{e:Expr}{es:List Expr}{r:LF}(hd:Def X.prog X.w X.K X.mg X.base x k np F)(c:ip j X.A)(ha:MA X (e :: es) r)(hj:k<=j:=by decide)(f:Gl X x:=by rfl)(b:∀ds h d h',F ds h=.ok d h'->ds.length=np:=by exact tR)
  (a:(x == ("__debug__" : Str))=false:=by decide) (he:starEach (e :: es) X.env=(false,eval e X.env) :: starEach es X.env:=by rfl) (hpl:(backTo pos (starEach es X.env)).any (·.1)=false:=by rfl) :
  ME X (.Call (.Name x p) (e :: es) [] pos) (ar F r):=oX hd (c.mono hj) f ha b a he hpl
end
def At (K:ZX) (n:Str) (st:Stmt):Prop:=∃(f:Addr) (od an:Option Addr) (sl:Array (Option T0)) (oc kV dc pm cd ct:T0),PySem.W.nsIn K mainGlobals n=some (some (.ref f))/\K.lookup f=some ⟨oc,od,.func (PySem.W.fnOf n n (dY st) (du st) (av st) .none kV dc pm an cd ct),sl⟩/\PySem.W.codeIn K cd n=true/\PySem.W.keepIn K (.ref f)=true
def Nb (K:ZX) (n:Str):Prop:=PySem.W.nsIn K mainGlobals n=some none
structure En (P:T3) (w:T4) (K:ZX) (mg:Str->Option T0) (base:Heap):Prop where
 ex:∃h:Heap,K.In h/\h.Ns mainGlobals mg
section
variable {P:T3} {w:T4} {K:ZX} {mg:Str->Option T0} {base h:Heap} {n:Str} {st:Stmt} {ps:List Str} {k np:Nat} {F:Fn}
theorem At.i {f:Addr}{d b:Option Addr}{sl:Array (Option T0)}{c kV dc pm a ct:T0}(h1:PySem.W.nsIn K mainGlobals n=some (some (.ref f)))(h2:K.lookup f=some ⟨c,d,.func (PySem.W.fnOf n n (dY st) (du st) (av st) .none kV dc pm b a ct),sl⟩)(g:PySem.W.codeIn K a n=true)(e:PySem.W.keepIn K (.ref f)=true):At K n st:=⟨f,d,b,sl,c,kV,dc,pm,a,ct,h1,h2,g,e⟩
theorem At.out (a:At K n st)(X:K.In h)(G:h.Ns mainGlobals mg):∃f fd,mg n=some (.ref f)/\PySem.W.keepIn K (.ref f)=true/\Fun K n n st f fd:=by
 obtain⟨f,m,d,sl,l,kV,g,j,i,e,h1,h2,c,b⟩:=a;exact⟨f,_,V1 X G h1,b,Ce (st:=st) h2 c b⟩
theorem At.df (a:At K n st)(q:En P w K mg base)(ok:∀{f fd},Fun K n n st f fd->bN P w K mg base CX0 k f fd ps (spF K F np))
  (hb:∀(kV d pm:T0) (e:Option Addr) (c ct:T0) (b:List T0),b.length=ps.length->bindArgs (PySem.W.fnOf n n (dY st) (du st) (av st) .none kV d pm e c ct) ⟨b,[]⟩ = pure (ps.zip b)):Def P w K mg base n k np F:=by
 obtain⟨h,X,G⟩:=q.ex;obtain⟨f,fd,h1,h2,U⟩:=a.out X G;exact Def.mk' h1 h2 (U.binds hb) (ok U)
theorem kD {α : Type}{l:List α}{n:Nat}(h:l.length=n + 1):∃a t,l=a :: t/\t.length=n:=by
 cases l with
 | nil=>cases h
 | cons a t=>exact⟨a,t,rfl,Nat.succ.inj h⟩
theorem zS {α : Type}{l:List α}(h:l.length=0):l=[]:=List.length_eq_zero_iff.mp h
theorem At.df1 (a:At K n st)(q:En P w K mg base)(ok:∀{f fd},Fun K n n st f fd->bN P w K mg base CX0 k f fd ps (spF K F np))(e:ps.length=1:=by rfl)
  (hb:∀(kV c pm:T0) (d:Option Addr) (b ct a:T0),bindArgs (PySem.W.fnOf n n (dY st) (du st) (av st) .none kV c pm d b ct) ⟨[a],[]⟩ = pure (ps.zip [a]):=by intros;rfl):Def P w K mg base n k np F :=
 a.df q ok λkV c pm d b ct i h=>by obtain⟨a,j,rfl,g⟩:=kD (h.trans e);cases zS g;exact hb kV c pm d b ct a
theorem At.df2 (a:At K n st)(q:En P w K mg base)(ok:∀{f fd},Fun K n n st f fd->bN P w K mg base CX0 k f fd ps (spF K F np))(g:ps.length=2:=by rfl)
  (hb:∀(kV d pm:T0) (e:Option Addr) (c ct a b:T0),bindArgs (PySem.W.fnOf n n (dY st) (du st) (av st) .none kV d pm e c ct) ⟨[a,b],[]⟩ = pure (ps.zip [a,b]):=by intros;rfl):Def P w K mg base n k np F :=
 a.df q ok λkV d pm e c ct o h=>by obtain⟨a,m,rfl,j⟩:=kD (h.trans g);obtain⟨b,l,rfl,i⟩:=kD (j);cases zS i;exact hb kV d pm e c ct a b
theorem At.df3 (a:At K n st)(q:En P w K mg base)(ok:∀{f fd},Fun K n n st f fd->bN P w K mg base CX0 k f fd ps (spF K F np))(i:ps.length=3:=by rfl)
  (hb:∀(kV e pm:T0) (g:Option Addr) (d ct a b c:T0),bindArgs (PySem.W.fnOf n n (dY st) (du st) (av st) .none kV e pm g d ct) ⟨[a,b,c],[]⟩ = pure (ps.zip [a,b,c]):=by intros;rfl):Def P w K mg base n k np F :=
 a.df q ok λkV e pm g d ct s h=>by obtain⟨a,r,rfl,m⟩:=kD (h.trans i);obtain⟨b,o,rfl,l⟩:=kD (m);obtain⟨c,p,rfl,j⟩:=kD (l);cases zS j;exact hb kV e pm g d ct a b c
theorem At.df4 (a:At K n st)(q:En P w K mg base)(ok:∀{f fd},Fun K n n st f fd->bN P w K mg base CX0 k f fd ps (spF K F np))(j:ps.length=4:=by rfl)
  (hb:∀(kV g pm:T0) (i:Option Addr) (e ct a b c d:T0),bindArgs (PySem.W.fnOf n n (dY st) (du st) (av st) .none kV g pm i e ct) ⟨[a,b,c,d],[]⟩ = pure (ps.zip [a,b,c,d]):=by intros;rfl):Def P w K mg base n k np F :=
 a.df q ok λkV g pm i e ct v h=>by obtain⟨a,u,rfl,p⟩:=kD (h.trans j);obtain⟨b,r,rfl,m⟩:=kD (p);obtain⟨c,t,rfl,l⟩:=kD (m);obtain⟨d,s,rfl,o⟩:=kD (l);cases zS o;exact hb kV g pm i e ct a b c d
theorem fsc {N P:List Str}{a:Scope}(h1:a.kind=.function:=by rfl)(h2:a.isCoroutine=false:=by rfl)(f:a.isGenerator=false:=by rfl)(b:N.Nodup:=by decide +kernel)(e:N.take P.length=P:=by rfl)(c:∀x∈P,a.names.lookup x=some .local\/a.names.lookup x=some .cell:=by decide +kernel)(d:∀y∈a.names,y.2 ≠ .free:=by decide +kernel):aI N P a:=⟨h1,h2,f,b,e,c,d⟩
end
end Fm
namespace Fm
def dG (l:List (List Int × D)) (k:List Int):Option D:=(l.find? λp=>decide (p.1=k)).map (·.2)
def pT (l:List (List Int × D)) (k:List Int) (v:D):List (List Int × D):=if (l.any λp=>decide (p.1=k))=true then l.map (λp=>if p.1=k then (p.1,v) else p) else l++[(k,v)]
def xO:EF:=λ_ h=>.ok (.ref h.length) (h++[.dcT []])
def lK:O2:=λx y h=>match x,y with
 | .tup l,.ref n=>match cG l,h[n]? with
  | some k,some (.dcT m)=>.ok (.bl (!(dG m k).isSome)) h
  | _,_=>.bad
 | _,_=>.bad
def zT (x i e:EF):SF:=λσ h=>outE (e σ h) σ λd h=>outE (x σ h) σ λp h=>outE (i σ h) σ λj h=>match p,j with
 | .ref n,.tup l=>match cG l,h[n]? with
  | some k,some (.dcT m)=>if m.length < SZ then .nx σ (h.set n (.dcT (pT m k d))) else .bad
  | _,_=>.bad
 | _,_=>.bad
def zU:O2:=λx y h=>match x,y with
 | .ref n,.tup l=>match cG l,h[n]? with
  | some k,some (.dcT m)=>match dG m k with|some d=>.ok d h|none=>.bad
  | _,_=>.bad
 | _,_=>.bad
def CN (a b:EF):EF:=ag zU a b
end Fm
namespace Fm
open PySem PySem.Spec L2 PySem.W PyProof.Rows
section
variable {K:ZX} {ρ:List Addr} {H:Hp} {hd:Hd}
abbrev kyT (k:List Int):List Key:=k.map λi=>(Sum.inl i:Key)
theorem tX {a b:List Int}(e:kyT a=kyT b):a=b:=by
 have:=congrArg (List.map λx:Key=>match x with | .inl i=>i|_=>0) e;simpa[kyT,Z2,Function.comp_def] using this
theorem HY (k:List Int):(kyT k).map kV=k.map V.int:=by
 rw[kyT,Z2];rfl
theorem RH.allocT (r:RH K ρ H hd){p:Addr}{l:List (List Int × D)}(hp:RC K ρ H (.dcT l) p)(hn:p ∉ ρ):RH K (ρ ++ [p]) H (hd++[.dcT l]):=by
 have k:Kp ρ H (ρ ++ [p]) H:=⟨λn a e=>by rw[ZC (List.getElem?_eq_some_iff.mp e).1];exact e,λ_ _ h=>h,λ_ _ _ h=>h,λ_ _ h=>h⟩;refine⟨by simp[r.len],?_,λn c a h1 h2 => ?_⟩
 ·rw[WJ]
  exact⟨r.nd,by simp,λa g b f=>by simp at f;subst f;intro e;subst e;exact hn g⟩
 ·by_cases hlt:n < hd.length
  ·rw[ZC hlt]at h1
   rw[ZC (by rw[r.len];exact hlt)]at h2;exact(r.cel n c a h1 h2).mono k rfl
  ·have i:n=hd.length:=by
    have:=(List.getElem?_eq_some_iff.mp h1).1;simp at this;omega
   subst i;simp at h1;subst h1;rw[<-r.len]at h2;simp at h2;subst h2;obtain⟨d,q1,q2,q3⟩:=hp;exact⟨d,q1,q2,q3.mono k⟩
theorem RH.writeT (r:RH K ρ H hd){n:Nat}{p:Addr}{l:List (List Int × D)}{kvs:List (List Key × V)}(hp : ρ[n]? = some p)(hn:n < hd.length)(h1:kvs.map (·.1)=l.map (λp=>kyT p.1))(h2:RDs K ρ H (l.map (·.2)) (kvs.map (·.2))):RH K ρ (upd H p (.dT kvs)) (hd.set n (.dcT l)):=by
 have k:Kp ρ H ρ (upd H p (.dT kvs)):=by
  have b:=ZK hp;refine⟨λ_ _ h=>h,λa f e => ?_,λa o u e => ?_,λa d e => ?_⟩
  ·rw[aB (λz=>r.noTup e (by rw[z];exact b))];exact e
  ·rw[aB (λz=>r.noFrz e (by rw[z];exact b))];exact e
  ·rw[aB (λz=>r.noExt e (by rw[z];exact b))];exact e
 refine⟨by simp[r.len],r.nd,λm c a q1 q2 => ?_⟩
 by_cases e:n=m
 ·subst e
  rw[List.getElem?_set_self hn]at q1;cases q1;rw[hp]at q2;cases q2;exact⟨kvs,aY,h1,h2.mono k⟩
 ·rw[ZP e]at q1
  have ne:a≠p:=λz=>by
   subst z;exact e (lp r.nd hp q2)
  exact(r.cel m c a q1 q2).mono k (aB ne)
theorem mP (k:List Int):∀{l:List (List Int × D)} {a:List (List Key × V)},a.map (·.1)=l.map (λp=>kyT p.1)->RDs K ρ H (l.map (·.2)) (a.map (·.2))->
  (dG l k=none/\fD a (kyT k)=none)\/∃d v,dG l k=some d/\fD a (kyT k)=some v/\RD K ρ H d v
 | [],[],_,_=>.inl ⟨rfl,rfl⟩
 | [],_ :: _,h,_=>by simp at h
 | _ :: _,[],h,_=>by simp at h
 | (j,d) :: l,(kk,v) :: a,h1,h2=>by
  simp only[x8,XW]at h1;simp only[x8,RDs]at h2;obtain⟨n,m,e,q1,q2⟩:=h2;cases e;obtain⟨f,b⟩:=h1;subst f
  by_cases e:j=k
  ·subst e
   exact .inr ⟨d,v,by simp[dG],by simp[fD],q1⟩
  ·have i:=mP k b q2
   have g:dG ((j,d) :: l) k=dG l k:=by simp[dG,e]
   have c:fD ((kyT j,v) :: a) (kyT k)=fD a (kyT k):=jK (λz=>e (tX z));rw[g,c];exact i
theorem vV (k:List Int):∀{l:List (List Int × D)} {a:List (List Key × V)},a.map (·.1)=l.map (λp=>kyT p.1)->(a.any λb=>decide (b.1=kyT k))=l.any λp=>decide (p.1=k)
 | [],[],_=>rfl
 | [],_ :: _,h=>by simp at h
 | _ :: _,[],h=>by simp at h
 | (j,d) :: l,(kk,v) :: a,h1=>by
  simp only[x8,XW]at h1;obtain⟨c,f⟩:=h1;subst c;have:decide (kyT j=kyT k)=decide (j=k):=by
   by_cases e:j=k
   ·simp[e]
   ·rw[ZY e,ZY λz=>e (tX z)]
  simp only[WP,this,vV k f]
theorem sw (k:List Int){c:D}{v0:V}(i:RD K ρ H c v0):∀{l:List (List Int × D)} {a:List (List Key × V)},a.map (·.1)=l.map (λp=>kyT p.1)->RDs K ρ H (l.map (·.2)) (a.map (·.2))->
  (a.map λb=>if b.1=kyT k then (b.1,v0) else b).map (·.1)=(l.map λp=>if p.1=k then (p.1,c) else p).map (λp=>kyT p.1)/\RDs K ρ H ((l.map λp=>if p.1=k then (p.1,c) else p).map (·.2)) ((a.map λb=>if b.1=kyT k then (b.1,v0) else b).map (·.2))
 | [],[],_,_=>⟨rfl,RDs.nil⟩
 | [],_ :: _,h,_=>by simp at h
 | _ :: _,[],h,_=>by simp at h
 | (j,d) :: l,(kk,v) :: a,h1,h2=>by
  simp only[x8,XW]at h1;simp only[x8,RDs]at h2;obtain⟨r,q,e,q1,q2⟩:=h2;cases e;obtain⟨o,m⟩:=h1;subst o;obtain⟨f,g⟩:=sw k i m q2
  by_cases e:j=k
  ·subst e
   simp only[x8,Uz];exact⟨by rw[f],RDs.cons i g⟩
  ·have n : ¬kyT j=kyT k:=λz=>e (tX z)
   simp only[x8,x3 e,x3 n];exact⟨by rw[f],RDs.cons q1 g⟩
theorem AU (k:List Int){a:D}{v0:V}(b:RD K ρ H a v0){l:List (List Int × D)}{kvs:List (List Key × V)}(h1:kvs.map (·.1)=l.map (λp=>kyT p.1))(h2:RDs K ρ H (l.map (·.2)) (kvs.map (·.2))) :
  (iC kvs (kyT k) v0).map (·.1)=(pT l k a).map (λp=>kyT p.1)/\RDs K ρ H ((pT l k a).map (·.2)) ((iC kvs (kyT k) v0).map (·.2)):=by
 unfold iC pT;rw[vV k h1];split
 ·exact sw k b h1 h2
 ·refine⟨by simp[h1],?_⟩
  rw[ZR,ZR];exact RDs.append h2 (RDs.cons b RDs.nil)
theorem tY {l:List D}{v:V}{k:List Int}(rv:RD K ρ H (.tup l) v)(e:cG l=some k):∃b,v=.ref b/\H b=some (.tup ((kyT k).map kV)):=by
 simp only[RD]at rv;obtain⟨b,a,rfl,h1,h2⟩:=rv;rw[jE h2 e]at h1;exact⟨b,rfl,by rw[HY];exact h1⟩
end
section
variable {X:Cx} {pos p:Pos}
theorem CO:ME X (.Dict [] [] pos) xO:=by
 refine PE.imp Cy λσ H Q ⟨ρ,σd,hd,b,d⟩=>λq c => ?_;have e:=bW (o:=HO.dT []) c;have g:=b.hp.free c;have f:=(b.hp.same e).allocT (p:=q) (l:=[]) ⟨[],aY,rfl,RDs.nil⟩ g;have ex:Ext ρ H (ρ ++ [q]) (upd H q (.dT [])):=Ext.alloc c;refine bM.at (R:=rD X.K) (a:=.ref hd.length) d ex (b.ext ex f) ?_;simp only[rD,RD];refine⟨q,?_,rfl⟩;rw[<-b.hp.len];simp
def zV (K:ZX):R2:=λx y H Q=>∃a o,y=.ref a/\lI H a x o/\Q (.bl (!o.isSome)) H
theorem AV (d:X.A.units + 1 < cLine):OpR X (compareOp .NotIn) (zV X.K):=by
 intro pins s σ H x y v u Q I c e h;obtain⟨a,o,rfl,g,q⟩:=h;obtain rfl:u=Value.ref a:=e;exact E4 d I g c λf b=>⟨.bl (!o.isSome),H,b,rfl,q⟩
theorem AW {K:ZX}:Og K lK (zV K):=by
 intro ρ H σd hd σ d k v w Q i rv h f;unfold lK at f;cases d<;>try exact f.elim
 cases k<;>try exact f.elim
 rename_i l n
 simp only at f;cases c1:cG l with
 | none=>rw[c1]at f;exact f.elim
 | some k =>
  rw[c1]at f;obtain⟨b,rfl,o⟩:=tY rv c1;simp only[RD]at h;obtain⟨a,j,rfl⟩:=h;cases c:hd[n]? with
  | none=>rw[c]at f;exact f.elim
  | some cell =>
   rw[c]at f;cases cell with
   | lst l=>exact f.elim
   | dct _=>exact f.elim
   | dcT m =>
    simp only at f;obtain⟨g,q1,q2,q3⟩:=i.hp.cel n _ a c j;refine⟨a,fD g (kyT k),rfl,lI.t q1 o,?_⟩;have e:(fD g (kyT k)).isSome=(dG m k).isSome:=by
     rcases mP k q2 q3 with ⟨e1,e2⟩|⟨d,v,e1,e2,_⟩<;>rw[e1,e2]<;>rfl
    rw[e];exact f.here i (by simp only[rD,RD])
theorem E8 {o i e:Expr}{D A C:EF}{p2:Pos}(N:X.A.units + 1 < cLine)(he:ME X e C)(O:ME X o D)(hi:ME X i A)(I:swapsWithSole [.Subscript o i p2] e pos.line X.env=pure false:=by rfl)(hw:swappedStores [.Subscript o i p2] e X.env=pure none:=by rfl)
  (h1:(assignEach [.Subscript o i p2] X.env).map (·.2)=[assign (.Subscript o i p2) X.env]:=by rfl) (ha:∀v,assign (.Subscript o i p2) X.env v=(do
   let ov <-holding [v] (eval o X.env)
   let iv <-holding [v,ov] (eval i X.env)
   standAt p2
   holding [v,ov,iv] (setItem ov iv v)
   release [v,ov,iv] []):=by intro _;rfl):MS X (.Assign [.Subscript o i p2] e pos) (zT D A C):=by
 refine PS.imp (tD he (xq O hi (vS N) ha) I hw h1) λEn σ H ⟨ρ,σd,hd,Q,p⟩=>⟨ρ,σd,hd,Q,(bX.outE p).imp λv H1 ⟨u,d,w,Z,r,rv,U⟩ => ?_⟩;refine⟨u,σd,w,r,(bX.outE U).imp λW Y ⟨z,L,x,G,h,J,p2⟩ => ?_⟩;refine⟨z,σd,x,h,(bX.outE p2).imp λvi E ⟨j,R,q,B,g,M,f⟩ => ?_⟩;have y:=(rv.mono (r.hp.kp G)).mono (h.hp.kp B);have s:=J.mono (h.hp.kp B);cases L with
 | ref n =>
  cases R with
  | tup l =>
   simp only at f;cases c1:cG l with
   | none=>rw[c1]at f;exact f.elim
   | some k =>
    rw[c1]at f;obtain⟨b,rfl,S⟩:=tY M c1;cases c:q[n]? with
    | none=>rw[c]at f;exact f.elim
    | some cell =>
     rw[c]at f;cases cell with
     | lst l=>exact f.elim
     | dct _=>exact f.elim
     | dcT m =>
      simp only at f;split at f
      ·rename_i hz
       simp only[RD]at s;obtain⟨a,ha,rfl⟩:=s;obtain⟨t,q1,q2,q3⟩:=g.hp.cel n _ a c ha;have F:t.length=m.length:=by have:=congrArg List.length q2;simpa using this
       refine⟨a,_,rfl,vN.t q1 S (by rw[F];exact ZZ hz (by rw[YF];decide)),?_⟩;have T:n < q.length:=(List.getElem?_eq_some_iff.mp c).1;obtain⟨K,P⟩:=AU k y q2 q3;have V:=g.hp.writeT ha T K P;have ex:Ext j E j (upd E a (.dT (iC t (kyT k) v))):=Ext.write (ZK ha);exact f σ _ j ex (g.ext ex V)
      ·exact f.elim
  | _=>exact f.elim
 | _=>exact f.elim
theorem E9 {a b:Expr}{fa f:EF}(j:X.A.units + 1 < cLine)(ha:ME X a fa)(hb:ME X b f)(i:HK b:=by intro _ _;rfl):ME X (.Subscript a b pos) (CN fa f):=by
 refine me2 (a:=a) (b:=b) (g:=zU) (E6 j ha hb i) λρ H σd hd σ d k v w Q h rv e p => ?_;unfold zU at p;cases d<;>try exact p.elim
 cases k<;>try exact p.elim
 rename_i n l
 simp only at p;cases c1:cG l with
 | none=>rw[c1]at p;exact p.elim
 | some k =>
  rw[c1]at p;obtain⟨b,rfl,hb⟩:=tY e c1;simp only[RD]at rv;obtain⟨a,ha,rfl⟩:=rv;cases c:hd[n]? with
  | none=>rw[c]at p;exact p.elim
  | some cell =>
   rw[c]at p;cases cell with
   | lst l=>exact p.elim
   | dct _=>exact p.elim
   | dcT m =>
    simp only at p;obtain⟨o,q1,q2,q3⟩:=h.hp.cel n _ a c ha;rcases mP k q2 q3 with ⟨e1,e2⟩|⟨d,v,e1,e2,rd⟩
    ·rw[e1]at p;exact p.elim
    ·rw[e1]at p
     exact⟨a,v,rfl,by have z:=lI.t q1 hb;rw[e2]at z;exact z,p.here h rd⟩
end
end Fm
namespace Ts
open PySem PyProof.Rows
def jM:Bool->Keyed->Array Keyed->Nat->Nat->Nat->StateT SortSt Sem (Option Nat):=sortPriv% PySem.Builtin.gallop
def xP (lf:Bool) (ky:Keyed) (xs:Array Keyed) (b i:Nat):StateT SortSt Sem (Option Bool):=do
 let z <-elem' xs (b + i)
 if lf then lt' z ky else return (<-lt' ky z).map (!·)
def vn (lf:Bool) (ky:Keyed) (xs:Array Keyed) (b n x0 y0:Nat):StateT SortSt Sem (Option Nat):=do
 let mut x:=x0
 let mut y:=y0
 for _ in [0:n] do
  if x ≥ y then break
  let m:=x + (y - x) / 2
  let some e <-xP lf ky xs b m|return none
  if e then x:=m + 1 else y:=m
 return some y
theorem Fc (lf:Bool)(a:Keyed)(xs:Array Keyed)(b n ht:Nat):jM lf a xs b n ht=(do
  let mut u:=0
  let mut v:=1
  let some rt <-xP lf a xs b ht|return none
  if rt then
   let w:=n - ht
   for _ in [0:n] do
    if v ≥ w then break
    let some e <-xP lf a xs b (ht + v)|return none
    if !e then break
    u:=v
    v:=2 * v + 1
   vn lf a xs b n (ht + u + 1) (ht + min v w)
  else
   let w:=ht + 1
   for _ in [0:n] do
    if v ≥ w then break
    let some e <-xP lf a xs b (ht - v)|return none
    if e then break
    u:=v
    v:=2 * v + 1
   vn lf a xs b n (ht + 1 - min v w) (ht - u)):=rfl
section
variable {M:Model} {A:T2} {E:T0->T1->Prop} {s:T1}
structure Cmp (M:Model) (A:T2) (E:T0->T1->Prop) (s:T1) (kd:SortKind) (S:Keyed->Prop) (r:Keyed->Keyed->Bool):Prop where
 ask:∀{x y:Keyed} {st:SortSt} {Q:Option Bool->SortSt->Prop},S x->S y->kindOf st=kd->Q (some (r x y)) st->wpS M A E s (lt' x y) Q st
 asym:∀{x y:Keyed},r x y=true->r y x=false
 tr:∀{x y z:Keyed},r y x=false->r z y=false->r z x=false
end
variable {x:Keyed}{xs:Array Keyed}{n:Nat}
section
variable {M:Model} {A:T2} {E:T0->T1->Prop} {s:T1} {kd:SortKind} {S:Keyed->Prop} {r:Keyed->Keyed->Bool}
theorem bQ {i:Nat}{st:SortSt}{Q:Keyed->SortSt->Prop}(e:xs[i]? = some x)(h:Q x st):wpS M A E s (elem' xs i) Q st:=by
 rw[elem'_eq,e];exact v3 h
theorem HZ (C:Cmp M A E s kd S r){lf:Bool}{a:Keyed}{b i:Nat}{st:SortSt}{Q:Option Bool->SortSt->Prop}(c:kindOf st=kd)(e:xs[b + i]? = some x)(f:S x)(d:S a)(h:Q (some (if lf then r x a else !r a x)) st):wpS M A E s (xP lf a xs b i) Q st:=by
 unfold xP;refine x4 (bQ e ?_);cases lf with
 | true=>exact C.ask f d c h
 | false=>exact x4 (C.ask d f c (v3 h))
theorem tZ (C:Cmp M A E s kd S r){lf:Bool}{B:Keyed}{b ht:Nat}{st:SortSt}{Q:Option Nat->SortSt->Prop}(J:kindOf st=kd)(p:Nat->Bool)(hp:∀i,i < n->∃x,xs[b + i]? = some x/\S x/\p i=(if lf then r x B else !r B x))(P:S B)(f:∀i j,i<=j->j < n->p j=true->p i=true)(N:ht < n)
  (q:∀k,k<=n->(∀i,i < k->p i=true)->(∀i,k<=i->i < n->p i=false)->Q (some k) st):wpS M A E s (jM lf B xs b n ht) Q st:=by
 have G:∀{i:Nat} {R:Option Bool->SortSt->Prop},i < n->R (some (p i)) st->wpS M A E s (xP lf B xs b i) R st:=λ{i R} hi h=>by
  obtain⟨x,e,K,T⟩:=hp i hi;exact HZ C J e K P (by rw[<-T];exact h)
 have bin:∀D z,D<=z->z<=n->(∀i,i < D->p i=true)->(∀i,z<=i->i < n->p i=false)->
   wpS M A E s (vn lf B xs b n D z) Q st:=by
  intro D z h1 h2 L O;unfold vn;refine x4 (WF (YU (I:=λi c a=>a=st/\∃x y,c=(none,x,y)/\x<=y/\y<=n/\(∀i,i < x->p i=true)/\(∀i,y<=i->i < n->p i=false)/\y - x + i<=n)
   (Q:=λc a=>a=st/\∃y,c=(none,y,y)/\y<=n/\(∀i,i < y->p i=true)/\(∀i,y<=i->i < n->p i=false)) ?m ?fin ⟨rfl,D,z,rfl,h1,h2,L,O,by omega⟩) λc a h => ?_)
  case fin =>
   rintro c a ⟨rfl,x,y,rfl,l,o,g,d,t⟩;have:x=y:=by omega
   subst this;exact⟨rfl,x,rfl,o,g,d⟩
  case m =>
   rintro i c a _ hi ⟨rfl,x,y,rfl,l,o,g,d,t⟩;dsimp only
   by_cases c:x ≥ y
   ·rw[yD c]
    have:x=y:=by omega
    subst this;exact v3 ⟨rfl,x,rfl,o,g,d⟩
   ·rw[x3 c]
    have V:x + (y - x) / 2 < y:=by omega
    refine x4 (G (by omega) ?_);dsimp only;cases pm:p (x + (y - x) / 2) with
    | true =>
     rw[yD rfl];exact v3 ⟨rfl,_,_,rfl,by omega,o,λj U=>f j _ (by omega) (by omega) pm,d,by omega⟩
    | false =>
     rw[x3 Z0];refine v3 ⟨rfl,_,_,rfl,by omega,by omega,g,λj H F => ?_,by omega⟩;cases pj:p j with
     | false=>rfl
     | true=>rw[f _ j H F pj]at pm;cases pm
  ·obtain⟨rfl,y,rfl,o,g,d⟩:=h
   exact v3 (q y o g d)
 rw[Fc];refine x4 (G N ?_);dsimp only;cases ph:p ht with
 | true =>
  rw[yD rfl];refine x4 (WF (YU (I:=λi c a=>a=st/\∃u v,c=(none,u,v)/\u < v/\i < v/\ht + u < n/\p (ht + u)=true)
   (Q:=λc a=>a=st/\∃u v,c=(none,u,v)/\u < v/\ht + u < n/\p (ht + u)=true/\(n - ht<=v\/ht + v < n/\p (ht + v)=false)) ?m ?fin ⟨rfl,0,1,rfl,by omega,by omega,by omega,ph⟩) λc a h => ?_)
  case fin =>
   rintro c a ⟨rfl,u,v,rfl,l,o,g,d⟩;exact⟨rfl,u,v,rfl,l,g,d,.inl (by omega)⟩
  case m =>
   rintro i c a _ hi ⟨rfl,u,v,rfl,l,o,g,d⟩;dsimp only
   by_cases c:v ≥ n - ht
   ·rw[yD c]
    exact v3 ⟨rfl,u,v,rfl,l,g,d,.inl c⟩
   ·rw[x3 c]
    refine x4 (G (by omega) ?_);dsimp only;cases pm:p (ht + v) with
    | false =>
     rw[yD (by decide)];exact v3 ⟨rfl,u,v,rfl,l,g,d,.inr ⟨by omega,pm⟩⟩
    | true =>
     rw[x3 (by decide)];exact v3 ⟨rfl,_,_,rfl,by omega,by omega,by omega,pm⟩
  ·obtain⟨rfl,u,v,rfl,l,g,d,t⟩:=h
   dsimp only;refine bin (ht + u + 1) (ht + min v (n - ht)) (by omega) (by omega) (λi hi=>f i _ (by omega) g d) λi H F => ?_;rcases t with t|⟨t,g6⟩
   ·omega
   ·cases pj:p i with
    | false=>rfl
    | true=>rw[f _ i (by omega) F pj]at g6;cases g6
 | false =>
  rw[x3 Z0];refine x4 (WF (YU (I:=λi c a=>a=st/\∃u v,c=(none,u,v)/\u < v/\i < v/\u<=ht/\p (ht - u)=false)
   (Q:=λc a=>a=st/\∃u v,c=(none,u,v)/\u < v/\u<=ht/\p (ht - u)=false/\(ht + 1<=v\/v<=ht/\p (ht - v)=true)) ?w ?fin2 ⟨rfl,0,1,rfl,by omega,by omega,by omega,ph⟩) λc a h => ?_)
  case fin2 =>
   rintro c a ⟨rfl,u,v,rfl,l,o,g,d⟩;exact⟨rfl,u,v,rfl,l,g,d,.inl (by omega)⟩
  case w =>
   rintro i c a _ hi ⟨rfl,u,v,rfl,l,o,g,d⟩;dsimp only
   by_cases c:v ≥ ht + 1
   ·rw[yD c]
    exact v3 ⟨rfl,u,v,rfl,l,g,d,.inl c⟩
   ·rw[x3 c]
    refine x4 (G (by omega) ?_);dsimp only;cases pm:p (ht - v) with
    | true =>
     rw[yD rfl];exact v3 ⟨rfl,u,v,rfl,l,g,d,.inr ⟨by omega,pm⟩⟩
    | false =>
     rw[x3 Z0];exact v3 ⟨rfl,_,_,rfl,by omega,by omega,by omega,pm⟩
  ·obtain⟨rfl,u,v,rfl,l,g,d,t⟩:=h
   dsimp only;refine bin (ht + 1 - min v (ht + 1)) (ht - u) (by omega) (by omega) (λi hi => ?_) λi H F => ?_
   ·rcases t with t|⟨t,g6⟩
    ·omega
    ·exact f i _ (by omega) (by omega) g6
   ·cases pj:p i with
    | false=>rfl
    | true=>rw[f _ i (by omega) F pj]at d;cases d
end
section
variable {r:Keyed->Keyed->Bool}
abbrev lE (r:Keyed->Keyed->Bool) (x y:Keyed):Prop:=r y x=false
def jp (r:Keyed->Keyed->Bool) (k x:Keyed):Bool := !(r x k || r k x)
structure Stb (r:Keyed->Keyed->Bool) (l m:List Keyed):Prop where
 pm:l.Perm m
 fl:∀k,l.filter (jp r k)=m.filter (jp r k)
namespace Stb
variable {l m l' m' n:List Keyed}
theorem refl (l:List Keyed):Stb r l l:=⟨.refl _,λ_=>rfl⟩
theorem trans (h:Stb r l m)(g:Stb r m n):Stb r l n:=⟨h.pm.trans g.pm,λk=>(h.fl k).trans (g.fl k)⟩
theorem symm (h:Stb r l m):Stb r m l:=⟨h.pm.symm,λk=>(h.fl k).symm⟩
theorem append (h:Stb r l m)(g:Stb r l' m'):Stb r (l++l') (m++m'):=⟨h.pm.append g.pm,λk=>by rw[XE,XE,h.fl,g.fl]⟩
theorem append_left (l:List Keyed)(g:Stb r l' m'):Stb r (l++l') (l++m'):=(refl l).append g
theorem append_right (l:List Keyed)(g:Stb r l' m'):Stb r (l'++l) (m'++l):=g.append (refl l)
theorem flip (tr:∀{x y z:Keyed},r y x=false->r z y=false->r z x=false){A B:List Keyed}(h:∀b∈B,∀a∈A,r b a=true):Stb r (B++A) (A++B):=by
 refine⟨List.perm_append_comm,λk => ?_⟩;rw[XE,XE];cases hB:B.filter (jp r k) with
 | nil=>simp
 | cons b B' =>
  have g:b∈B.filter (jp r k):=by rw[hB];exact .head _
  have e:A.filter (jp r k)=[]:=by
   rw[List.filter_eq_nil_iff];intro a f d;obtain⟨i,c⟩:=List.mem_filter.mp g;have z:=h b i a f;simp only[jp,Bool.not_eq_true',Bool.or_eq_false_iff]at d c;rw[tr d.2 c.1]at z;cases z
  rw[e];simp
theorem turn {l m:List Keyed}(h:Stb (λx y=>r y x) l m):Stb r l.reverse m.reverse:=by
 refine⟨(List.reverse_perm _).trans (h.pm.trans (List.reverse_perm _).symm),λk => ?_⟩;rw[List.filter_reverse,List.filter_reverse];congr 1;have:=h.fl k;have e:jp (λx y=>r y x) k=jp r k:=by funext x;simp only[jp,Bool.or_comm]
 rwa[e]at this
theorem length_eq (h:Stb r l m):l.length=m.length:=h.pm.length_eq
theorem mem_iff (h:Stb r l m):x∈l ↔ x∈m:=h.pm.mem_iff
end Stb
structure MI (r:Keyed->Keyed->Bool) (a b out:Array Keyed) (i j:Nat):Prop where
 tr:∀{x y z:Keyed},r y x=false->r z y=false->r z x=false
 as:∀{x y:Keyed},r x y=true->r y x=false
 pm:Stb r out.toList (a.toList.take i++b.toList.take j)
 st:∀y∈b.toList.take j,∀x∈a.toList.drop i,r y x=true
 so:out.toList.Pairwise (lE r)
 lo:∀x∈out.toList,(∀y∈a.toList.drop i,lE r x y)/\∀y∈b.toList.drop j,lE r x y
 ha:i<=a.size
 hb:j<=b.size
variable {a b out:Array Keyed} {i j k:Nat}
theorem mQ {α : Type}(xs:Array α)(i k:Nat):(xs.extract i (i + k)).toList=(xs.toList.drop i).take k:=by
 rw[Array.toList_extract,List.extract_eq_take_drop];simp
theorem pU {α : Type}(l:List α)(i k:Nat):l.take (i + k)=l.take i++(l.drop i).take k:=by
 rw[List.take_add]
theorem MI.segA (m:MI r a b out i j)(sa:a.toList.Pairwise (lE r))(g:i + k<=a.size)(h:∀x∈(a.toList.drop i).take k,∀y∈b.toList.drop j,lE r x y):MI r a b (out++a.extract i (i + k)) (i + k) j:=by
 have e:(out++a.extract i (i + k)).toList=out.toList++(a.toList.drop i).take k:=by rw[Array.toList_append,mQ]
 have l:(a.toList.drop i).Pairwise (lE r):=sa.sublist (VZ _ _);have f:(a.toList.drop i)=(a.toList.drop i).take k++a.toList.drop (i + k):=by rw[<-List.drop_drop];exact(YO _ _).symm
 have sx:=l;rw[f,Z8]at sx;refine⟨m.tr,m.as,?_,λy d x c=>m.st y d x (by rw[f];exact Z5 _ c),?_,λx c => ?_,g,m.hb⟩
 ·rw[e,pU]
  refine(m.pm.append_right _).trans ?_;rw[ZU,ZU];exact Stb.append_left _ (Stb.flip (r:=r) m.tr λy d x c=>m.st y d x (YS c))
 ·rw[e,Z8]
  exact⟨m.so,sx.1,λx c y d=>(m.lo x c).1 y (YS d)⟩
 ·rw[e]at c
  rcases List.mem_append.mp c with c|c
  ·refine⟨λy d=>(m.lo x c).1 y ?_,(m.lo x c).2⟩
   rw[f];exact Z5 _ d
  ·exact⟨λy d=>sx.2.2 x c y d,h x c⟩
theorem MI.segB (m:MI r a b out i j)(sb:b.toList.Pairwise (lE r))(g:j + k<=b.size)(h:∀x∈(b.toList.drop j).take k,∀y∈a.toList.drop i,r x y=true):MI r a b (out++b.extract j (j + k)) i (j + k):=by
 have e:(out++b.extract j (j + k)).toList=out.toList++(b.toList.drop j).take k:=by rw[Array.toList_append,mQ]
 have l:(b.toList.drop j).Pairwise (lE r):=sb.sublist (VZ _ _);have f:(b.toList.drop j)=(b.toList.drop j).take k++b.toList.drop (j + k):=by rw[<-List.drop_drop];exact(YO _ _).symm
 have sx:=l;rw[f,Z8]at sx;refine⟨m.tr,m.as,?_,λy c x d => ?_,?_,λx d => ?_,m.ha,g⟩
 ·rw[e,pU,<-ZU]
  exact m.pm.append_right _
 ·rw[pU]at c
  rcases List.mem_append.mp c with c|c
  ·exact m.st y c x d
  ·exact h y c x d
 ·rw[e,Z8]
  exact⟨m.so,sx.1,λx d y c=>(m.lo x d).2 y (YS c)⟩
 ·rw[e]at d
  rcases List.mem_append.mp d with d|d
  ·refine⟨(m.lo x d).1,λy c=>(m.lo x d).2 y ?_⟩
   rw[f];exact Z5 _ c
  ·exact⟨λy c=>m.as (h x d y c),λy c=>sx.2.2 x d y c⟩
theorem vW (e:a[i]? = some x):out.push x=out++a.extract i (i + 1):=by
 obtain⟨h,rfl⟩:=Array.getElem?_eq_some_iff.mp e;apply Array.ext';rw[X2,Array.toList_append,mQ];congr 1;rw[YT (by simpa using h)];simp
theorem t7 (tr:∀{x y z:Keyed},r y x=false->r z y=false->r z x=false)(sa:a.toList.Pairwise (lE r)){u:Keyed}(e:a[i]? = some u)(h:lE r x u):∀y∈a.toList.drop i,lE r x y:=by
 obtain⟨hi,rfl⟩:=Array.getElem?_eq_some_iff.mp e;have d:a.toList.drop i=a[i] :: a.toList.drop (i + 1):=by rw[YT (by simpa using hi)];rfl
 have f:(a.toList.drop i).Pairwise (lE r):=sa.sublist (VZ _ _);rw[d]at f ⊢;intro y c;rcases VI.mp c with rfl|c
 ·exact h
 ·exact tr h ((List.pairwise_cons.mp f).1 y c)
theorem t8 (tr:∀{x y z:Keyed},r y x=false->r z y=false->r z x=false)(sa:a.toList.Pairwise (lE r)){u:Keyed}(e:a[i]? = some u)(h:r x u=true):∀y∈a.toList.drop i,r x y=true:=by
 obtain⟨hi,rfl⟩:=Array.getElem?_eq_some_iff.mp e;have d:a.toList.drop i=a[i] :: a.toList.drop (i + 1):=by rw[YT (by simpa using hi)];rfl
 have f:(a.toList.drop i).Pairwise (lE r):=sa.sublist (VZ _ _);rw[d]at f ⊢;intro y c;rcases VI.mp c with rfl|c
 ·exact h
 ·cases w:r x y with
  | true=>rfl
  | false=>rw[tr ((List.pairwise_cons.mp f).1 y c) w]at h;cases h
theorem CP (e:a[i]? = some x):(a.toList.drop i).take 1=[x]:=by
 have d:a.toList[i]? = some x:=by rw[Array.getElem?_toList];exact e
 obtain⟨f,c⟩:=List.getElem?_eq_some_iff.mp d;rw[YT f,c];rfl
theorem MI.pushA (m:MI r a b out i j)(sa:a.toList.Pairwise (lE r))(e:a[i]? = some x)(h:∀y∈b.toList.drop j,lE r x y):MI r a b (out.push x) (i + 1) j:=by
 have hi:=(Array.getElem?_eq_some_iff.mp e).1;rw[vW e];refine m.segA sa hi λz c => ?_;have:(a.toList.drop i).take 1=[x]:=by
  have f:a.toList[i]? = some x:=by rw[Array.getElem?_toList];exact e
  obtain⟨g,d⟩:=List.getElem?_eq_some_iff.mp f;rw[YT g,d];rfl
 rw[this,YL]at c;subst c;exact h
theorem MI.pushB (m:MI r a b out i j)(sb:b.toList.Pairwise (lE r))(e:b[j]? = some x)(h:∀y∈a.toList.drop i,r x y=true):MI r a b (out.push x) i (j + 1):=by
 have hi:=(Array.getElem?_eq_some_iff.mp e).1;rw[vW e];refine m.segB sb hi λz c => ?_;rw[CP e,YL]at c;subst c;exact h
theorem MI.endA (m:MI r a b out i j)(sa:a.toList.Pairwise (lE r))(h:j=b.size):Stb r (out++a.extract i a.size).toList (a.toList++b.toList)/\(out++a.extract i a.size).toList.Pairwise (lE r):=by
 have d:i + (a.size - i)=a.size:=by have:=m.ha;omega
 have z:b.toList.drop j=[]:=by rw[h];simp
 have q:=m.segA (k:=a.size - i) sa (by omega) λx _ y c=>by rw[z]at c;cases c
 rw[d]at q;have p:=q.pm;rw[show a.toList.take a.size=a.toList from YN (by simp),h,show b.toList.take b.size=b.toList from YN (by simp)]at p;exact⟨p,q.so⟩
theorem MI.endB (m:MI r a b out i j)(sb:b.toList.Pairwise (lE r))(h:i=a.size):Stb r (out++b.extract j b.size).toList (a.toList++b.toList)/\(out++b.extract j b.size).toList.Pairwise (lE r):=by
 have d:j + (b.size - j)=b.size:=by have:=m.hb;omega
 have z:a.toList.drop i=[]:=by rw[h];simp
 have q:=m.segB (k:=b.size - j) sb (by omega) λx _ y c=>by rw[z]at c;cases c
 rw[d]at q;have p:=q.pm;rw[show b.toList.take b.size=b.toList from YN (by simp),h,show a.toList.take a.size=a.toList from YN (by simp)]at p;exact⟨p,q.so⟩
theorem MI.endBA (m:MI r a b out i j)(sa:a.toList.Pairwise (lE r))(sb:b.toList.Pairwise (lE r))(h:∀x∈b.toList.drop j,∀y∈a.toList.drop i,r x y=true) :
  Stb r (out++b.extract j b.size++a.extract i a.size).toList (a.toList++b.toList)/\(out++b.extract j b.size++a.extract i a.size).toList.Pairwise (lE r):=by
 have c:j + (b.size - j)=b.size:=by have:=m.hb;omega
 have q:=m.segB (k:=b.size - j) sb (by omega) λx d=>h x (YS d);rw[c]at q;exact q.endA sa rfl
end
def mLo:Array Keyed->Array Keyed->StateT SortSt Sem (Array Keyed):=sortPriv% PySem.Builtin.mergeLo
abbrev cV (st:SortSt) (g:Nat):SortSt:=SortSt.mk' (kindOf st) (arrOf st) (pendingOf st) g (failedOf st)
def dR (a b o:Array Keyed) (i j:Nat):Array Keyed:=o++a.extract i a.size++b.extract j b.size
def eV (a b o:Array Keyed) (i j:Nat):Array Keyed:=o++b.extract j b.size++a.extract i a.size
abbrev C2:=Option (Array Keyed) × Array Keyed × Nat × Nat × Nat × Nat
abbrev C3:=Option (Array Keyed) × Array Keyed × Nat × Nat × Nat × Nat × Nat
abbrev SM:=StateT SortSt Sem
def lo1 (a b:Array Keyed) (g:Nat) (o:Array Keyed) (i j u v:Nat):SM (ForInStep C2):=do
 let x <-elem' b j
 let y <-elem' a i
 let some w <-lt' x y|pure (.done (some (dR a b o i j),o,i,j,u,v))
 if w then do
  let x <-elem' b j
  if j + 1 == b.size then pure (.done (some (dR a b (o.push x) i (j + 1)),o.push x,i,j + 1,0,v + 1))
  else if v + 1 ≥ g then pure (.done (none,o.push x,i,j + 1,0,v + 1)) else pure (.yield (none,o.push x,i,j + 1,0,v + 1))
 else do
  let y <-elem' a i
  if i + 1 + 1 == a.size then pure (.done (some (eV a b (o.push y) (i + 1) j),o.push y,i + 1,j,u + 1,0))
  else if u + 1 ≥ g then pure (.done (none,o.push y,i + 1,j,u + 1,0)) else pure (.yield (none,o.push y,i + 1,j,u + 1,0))
def lo4 (a b o:Array Keyed) (i j g u v:Nat):SM (ForInStep C3):=do
 let y <-elem' a i
 if i + 1 + 1 == a.size then pure (.done (some (eV a b (o.push y) (i + 1) j),o.push y,i + 1,j,g,u,v))
 else if (decide (u < 7) && decide (v < 7))=true then pure (.done (none,o.push y,i + 1,j,g,u,v)) else pure (.yield (none,o.push y,i + 1,j,g,u,v))
def lo3 (a b o:Array Keyed) (i j g u v:Nat):SM (ForInStep C3):=do
 let x <-elem' b j
 if j + 1 == b.size then pure (.done (some (dR a b (o.push x) i (j + 1)),o.push x,i,j + 1,g,u,v))
 else do
  let y <-elem' a i
  let some k <-jM true y b (j + 1) (b.size - (j + 1)) 0|pure (.done (some (dR a b (o.push x) i (j + 1)),o.push x,i,j + 1,g,u,v))
  if k > 0 then
   if j + 1 + k == b.size then pure (.done (some (dR a b (o.push x++b.extract (j + 1) (j + 1 + k)) i (j + 1 + k)),o.push x++b.extract (j + 1) (j + 1 + k),i,j + 1 + k,g,u,k))
   else lo4 a b (o.push x++b.extract (j + 1) (j + 1 + k)) i (j + 1 + k) g u k
  else lo4 a b (o.push x) i (j + 1) g u k
def lo2 (a b o:Array Keyed) (i j u v g:Nat):SM (ForInStep C3):=do
 modify (cV · g)
 let x <-elem' b j
 let some k <-jM false x a i (a.size - i) 0|pure (.done (some (dR a b o i j),o,i,j,g,u,v))
 if k > 0 then
  if i + k + 1 == a.size then pure (.done (some (eV a b (o++a.extract i (i + k)) (i + k) j),o++a.extract i (i + k),i + k,j,g,k,v))
  else if i + k == a.size then pure (.done (some (dR a b (o++a.extract i (i + k)) (i + k) j),o++a.extract i (i + k),i + k,j,g,k,v))
  else lo3 a b (o++a.extract i (i + k)) (i + k) j g k v
 else lo3 a b o i j g k v
section
variable {M:Model} {A:T2} {E:T0->T1->Prop} {s:T1} {kd:SortKind} {S:Keyed->Prop} {r:Keyed->Keyed->Bool}
def Mgd (r:Keyed->Keyed->Bool) (a b o:Array Keyed):Prop:=Stb r o.toList (a.toList++b.toList)/\o.toList.Pairwise (lE r)
structure Two (M:Model) (A:T2) (E:T0->T1->Prop) (s:T1) (kd:SortKind) (S:Keyed->Prop) (r:Keyed->Keyed->Bool) (a b:Array Keyed):Prop where
 C:Cmp M A E s kd S r
 Sa:∀x∈a.toList,S x
 Sb:∀x∈b.toList,S x
 sa:a.toList.Pairwise (lE r)
 sb:b.toList.Pairwise (lE r)
structure LI (r:Keyed->Keyed->Bool) (a b o:Array Keyed) (i j:Nat):Prop where
 m:MI r a b o i j
 hi:i + 1 < a.size
 hj:j < b.size
variable {a b o:Array Keyed} {i j g u v:Nat} {st:SortSt}
theorem lL {α : Type}(xs:Array α){i:Nat}(h:i=xs.size):xs.extract i xs.size = #[]:=by subst h;simp
theorem lM (T:Two M A E s kd S r a b)(m:MI r a b o i j)(h:j=b.size\/i=a.size):Mgd r a b (dR a b o i j):=by
 unfold dR;rcases h with h|h
 ·rw[lL b h,VQ];exact m.endA T.sa h
 ·rw[lL a h,VQ];exact m.endB T.sb h
theorem hZ {α : Type}{xs:Array α}{i:Nat}(h:i < xs.size):∃x,xs[i]? = some x/\x∈xs.toList:=⟨xs[i],Array.getElem?_eq_getElem h,by simp⟩
theorem ua (T:Two M A E s kd S r a b)(c:∀x∈b.toList,∀y∈a.toList.drop (a.size - 1),r x y=true)(m:MI r a b o i j)(h:i + 1=a.size):Mgd r a b (eV a b o i j):=by
 unfold eV;refine m.endBA T.sa T.sb λx e y d=>c x (XG e) y ?_;rw[show a.size - 1=i by omega];exact d
theorem Ia (T:Two M A E s kd S r a b)(n:∀x∈b.toList,∀y∈a.toList.drop (a.size - 1),r x y=true)(L:LI r a b o i j)(p:kindOf st=kd){Q:ForInStep C2->SortSt->Prop}
  (q1:∀x o' c d f k,Mgd r a b x->Q (.done (some x,o',c,d,f,k)) st) (q2:∀o' c d f k,LI r a b o' c d->o.size < o'.size->Q (.done (none,o',c,d,f,k)) st) (q3:∀o' c d f k,LI r a b o' c d->o.size < o'.size->Q (.yield (none,o',c,d,f,k)) st) :
  wpS M A E s (lo1 a b g o i j u v) Q st:=by
 have ⟨m,hi,hj⟩:=L;obtain⟨x,ex,q⟩:=hZ hj;obtain⟨y,l,t⟩:=hZ (show i < a.size by omega);unfold lo1;refine x4 (bQ ex (x4 (bQ l (x4 (T.C.ask (T.Sb x q) (T.Sa y t) p ?_)))));dsimp only;cases w:r x y with
 | true =>
  rw[yD rfl];refine x4 (bQ ex ?_);have e:=m.pushB T.sb ex (t8 T.C.tr T.sa l w);have z:o.size < (o.push x).size:=by simp
  by_cases h:j + 1=b.size
  ·rw[yD (by simpa using h)]
   exact v3 (q1 _ _ _ _ _ _ (lM T e (.inl h)))
  ·rw[x3 (by simpa using h)]
   have L2:LI r a b (o.push x) i (j + 1):=⟨e,hi,by omega⟩;split
   ·exact v3 (q2 _ _ _ _ _ L2 z)
   ·exact v3 (q3 _ _ _ _ _ L2 z)
 | false =>
  rw[x3 Z0];refine x4 (bQ l ?_);have e:=m.pushA T.sa l (t7 T.C.tr T.sb ex w);have z:o.size < (o.push y).size:=by simp
  by_cases h:i + 1 + 1=a.size
  ·rw[yD (by simpa using h)]
   exact v3 (q1 _ _ _ _ _ _ (ua T n e h))
  ·rw[x3 (by simpa using h)]
   have L2:LI r a b (o.push y) (i + 1) j:=⟨e,by omega,hj⟩;split
   ·exact v3 (q2 _ _ _ _ _ L2 z)
   ·exact v3 (q3 _ _ _ _ _ L2 z)
theorem sy (C:Cmp M A E s kd S r){i ht:Nat}{Q:Option Nat->SortSt->Prop}(B:kindOf st=kd)(D:S x)(Sa:∀x∈xs.toList,S x)(sa:xs.toList.Pairwise (lE r))(hn:i + n<=xs.size)(G:ht < n)
  (q:∀k,k<=n->(∀y∈(xs.toList.drop i).take k,lE r y x)->(∀y∈((xs.toList.drop i).take n).drop k,r x y=true)->Q (some k) st):wpS M A E s (jM false x xs i n ht) Q st:=by
 have f:∀d,d < n->i + d < xs.size:=λd hd=>by omega
 have J:∀d,(hd:d < n)->xs.toList[i + d]? = some (xs[i + d]'(f d hd)):=λd hd=>by rw[Array.getElem?_toList];exact Array.getElem?_eq_getElem (f d hd)
 have I:∀d e,(h:d<=e)->(l:e < n)->lE r (xs[i + d]'(f d (by omega))) (xs[i + e]'(f e l))\/d=e:=λd e h l=>by
  by_cases z:d=e
  ·exact .inr z
  ·have:=List.pairwise_iff_getElem.mp sa (i + d) (i + e) (by simp;have:=f d (by omega);omega) (by simp;have:=f e l;omega) (by omega)
   exact .inl (by simpa using this)
 refine tZ C B (λd=>if h:d < n then !r x (xs[i + d]'(f d h)) else false) (λd hd=>⟨xs[i + d]'(f d hd),Array.getElem?_eq_getElem (f d hd),Sa _ (by simp),by simp[hd]⟩) D (λd e h l w => ?_) G λk t H p2=>q k t (λy p => ?_) λy p => ?_
 ·have hd:d < n:=by omega
  simp only[l,dif_pos]at w;simp only[hd,dif_pos];rcases I d e h l with z|z
  ·have F:r x (xs[i + e]'(f e l))=false:=by simpa using w
   have:=C.tr z F;simp[this]
  ·subst z;exact w
 ·obtain⟨d,hd,e⟩:=List.mem_take_iff_getElem.mp p
  have hd':d < k:=by omega
  have c:d < n:=by omega
  have:=H d hd';simp only[c,dif_pos]at this;have m:y=xs[i + d]'(f d c):=by rw[<-e];simp
  rw[m];simpa using this
 ·obtain⟨d,hd,e⟩:=List.mem_drop_iff_getElem.mp p
  have c:d + k < n:=by simp at hd;omega
  have:=p2 (d + k) (by omega) c;simp only[c,dif_pos]at this;have m:y=xs[i + (d + k)]'(f _ c):=by rw[<-e];simp;congr 1;omega
  rw[m];simpa using this
theorem vX (C:Cmp M A E s kd S r){i ht:Nat}{Q:Option Nat->SortSt->Prop}(D:kindOf st=kd)(F:S x)(Sa:∀x∈xs.toList,S x)(sa:xs.toList.Pairwise (lE r))(hn:i + n<=xs.size)(G:ht < n)
  (q:∀k,k<=n->(∀y∈(xs.toList.drop i).take k,r y x=true)->(∀y∈((xs.toList.drop i).take n).drop k,lE r x y)->Q (some k) st):wpS M A E s (jM true x xs i n ht) Q st:=by
 have f:∀d,d < n->i + d < xs.size:=λd hd=>by omega
 have I:∀d e,(h:d<=e)->(l:e < n)->lE r (xs[i + d]'(f d (by omega))) (xs[i + e]'(f e l))\/d=e:=λd e h l=>by
  by_cases z:d=e
  ·exact .inr z
  ·have:=List.pairwise_iff_getElem.mp sa (i + d) (i + e) (by simp;have:=f d (by omega);omega) (by simp;have:=f e l;omega) (by omega)
   exact .inl (by simpa using this)
 refine tZ C D (λd=>if h:d < n then r (xs[i + d]'(f d h)) x else false) (λd hd=>⟨xs[i + d]'(f d hd),Array.getElem?_eq_getElem (f d hd),Sa _ (by simp),by simp[hd]⟩) F (λd e h l m => ?_) G λk B H p2=>q k B (λy t => ?_) λy t => ?_
 ·have hd:d < n:=by omega
  simp only[l,dif_pos]at m;simp only[hd,dif_pos];rcases I d e h l with z|z
  ·cases w:r (xs[i + d]'(f d hd)) x with
   | true=>rfl
   | false =>
    have:=C.tr w z;rw[this]at m;cases m
  ·subst z;exact m
 ·obtain⟨d,hd,e⟩:=List.mem_take_iff_getElem.mp t
  have hd':d < k:=by omega
  have c:d < n:=by omega
  have:=H d hd';simp only[c,dif_pos]at this;have p:y=xs[i + d]'(f d c):=by rw[<-e];simp
  rw[p];exact this
 ·obtain⟨d,hd,e⟩:=List.mem_drop_iff_getElem.mp t
  have c:d + k < n:=by simp at hd;omega
  have:=p2 (d + k) (by omega) c;simp only[c,dif_pos]at this;have p:y=xs[i + (d + k)]'(f _ c):=by rw[<-e];simp;congr 1;omega
  rw[p];exact this
end
variable {y:Keyed}
section
variable {M:Model} {A:T2} {E:T0->T1->Prop} {s:T1} {kd:SortKind} {S:Keyed->Prop} {r:Keyed->Keyed->Bool} {a b o:Array Keyed} {i j g u v:Nat} {st:SortSt}
structure CQ (r:Keyed->Keyed->Bool) (a b:Array Keyed) (n:Nat) (Q:ForInStep C3->SortSt->Prop) (st:SortSt):Prop where
 q1:∀x o' i' j' g' u' v',Mgd r a b x->Q (.done (some x,o',i',j',g',u',v')) st
 q2:∀o' i' j' g' u' v',LI r a b o' i' j'->n<=o'.size->Q (.done (none,o',i',j',g',u',v')) st
 q3:∀o' i' j' g' u' v',LI r a b o' i' j'->n<=o'.size->Q (.yield (none,o',i',j',g',u',v')) st
theorem CS (T:Two M A E s kd S r a b)(d:∀x∈b.toList,∀y∈a.toList.drop (a.size - 1),r x y=true)(m:MI r a b o i j)(hi:i + 1 < a.size)(hj:j < b.size)(e:a[i]? = some y)(h:∀z∈b.toList.drop j,lE r y z)(hn:n<=o.size){Q:ForInStep C3->SortSt->Prop}(q:CQ r a b n Q st):wpS M A E s (lo4 a b o i j g u v) Q st:=by
 unfold lo4;refine x4 (bQ e ?_);have f:=m.pushA T.sa e h;have z:n<=(o.push y).size:=by simp;omega
 by_cases c:i + 1 + 1=a.size
 ·rw[yD (by simpa using c)]
  exact v3 (q.q1 _ _ _ _ _ _ _ (ua T d f c))
 ·rw[x3 (by simpa using c)]
  have L2:LI r a b (o.push y) (i + 1) j:=⟨f,by omega,hj⟩;split
  ·exact v3 (q.q2 _ _ _ _ _ _ L2 z)
  ·exact v3 (q.q3 _ _ _ _ _ _ L2 z)
theorem CT (T:Two M A E s kd S r a b)(d:∀x∈b.toList,∀y∈a.toList.drop (a.size - 1),r x y=true)(m:MI r a b o i j)(hi:i + 1 < a.size)(hj:j < b.size)(t:kindOf st=kd)(ex:b[j]? = some x)(h:∀z∈a.toList.drop i,r x z=true)(hn:n<=o.size){Q:ForInStep C3->SortSt->Prop}(q:CQ r a b n Q st):wpS M A E s (lo3 a b o i j g u v) Q st:=by
 obtain⟨y,e,D⟩:=hZ (show i < a.size by omega);unfold lo3;refine x4 (bQ ex ?_);have f:=m.pushB T.sb ex h
 by_cases c:j + 1=b.size
 ·rw[yD (by simpa using c)]
  exact v3 (q.q1 _ _ _ _ _ _ _ (lM T f (.inl c)))
 ·rw[x3 (by simpa using c)]
  refine x4 (bQ e (x4 (vX T.C t (T.Sa y D) T.Sb T.sb (n:=b.size - (j + 1)) (by omega) (by omega) λk C B p2 => ?_)));dsimp only;have p2:∀z∈b.toList.drop (j + 1 + k),lE r y z:=λz l=>p2 z (by
   rw[YN (by simp),List.drop_drop];exact l)
  by_cases c2:k > 0
  ·rw[yD c2]
   have p:=f.segB (k:=k) T.sb (by omega) λz l=>t8 T.C.tr T.sa e (B z l)
   by_cases c3:j + 1 + k=b.size
   ·rw[yD (by simpa using c3)]
    exact v3 (q.q1 _ _ _ _ _ _ _ (lM T p (.inl c3)))
   ·rw[x3 (by simpa using c3)]
    exact CS T d p hi (by omega) e p2 (by simp;omega) q
  ·rw[x3 c2]
   have w:k=0:=by omega
   subst w;exact CS T d f hi (by omega) e p2 (by simp;omega) q
theorem CU (T:Two M A E s kd S r a b)(c:∀x∈b.toList,∀y∈a.toList.drop (a.size - 1),r x y=true)(L:LI r a b o i j)(d:kindOf st=kd)(hn:n<=o.size){Q:ForInStep C3->SortSt->Prop}(q:CQ r a b n Q (cV st g)):wpS M A E s (lo2 a b o i j u v g) Q st:=by
 have ⟨m,hi,hj⟩:=L;obtain⟨x,ex,h⟩:=hZ hj;unfold lo2;refine x4 (X4 (x4 (bQ ex (x4 (sy T.C (st:=cV st g) d (T.Sb x h) T.Sa T.sa (n:=a.size - i) (by omega) (by omega) λk t p p2 => ?_)))));dsimp only;have p2:∀z∈a.toList.drop (i + k),r x z=true:=λz f=>p2 z (by
  rw[YN (by simp),List.drop_drop];exact f)
 by_cases c2:k > 0
 ·rw[yD c2]
  have e:=m.segA (k:=k) T.sa (by omega) λz f=>t7 T.C.tr T.sb ex (p z f)
  by_cases c3:i + k + 1=a.size
  ·rw[yD (by simpa using c3)]
   exact v3 (q.q1 _ _ _ _ _ _ _ (ua T c e c3))
  ·rw[x3 (by simpa using c3)]
   by_cases c4:i + k=a.size
   ·rw[yD (by simpa using c4)]
    exact v3 (q.q1 _ _ _ _ _ _ _ (lM T e (.inr c4)))
   ·rw[x3 (by simpa using c4)]
    exact CT (st:=cV st g) (n:=n) T c e (by omega) hj d ex p2 (by simp;omega) q
 ·rw[x3 c2]
  have l:k=0:=by omega
  subst l;exact CT (st:=cV st g) T c m hi hj d ex p2 hn q
theorem MI.len (m:MI r a b o i j):o.size=i + j:=by
 have:=m.pm.length_eq;have h1:=m.ha;have h2:=m.hb;simp at this;omega
theorem Ib (a b:Array Keyed):mLo a b=(do
  rule "list.sort.merge-lo"
  let t:=a.size + b.size
  let mut o:Array Keyed := #[<-elem' b 0]
  let mut i:=0
  let mut j:=1
  if j == b.size then return dR a b o i j
  if i + 1 == a.size then return eV a b o i j
  let mut g:=gallopOf (<-get)
  for _ in [0:t] do
   let mut u:=0
   let mut v:=0
   for _ in [0:t] do
    let some w <-lt' (<-elem' b j) (<-elem' a i)|return dR a b o i j
    if w then
     o:=o.push (<-elem' b j);j:=j + 1;v:=v + 1;u:=0
     if j == b.size then return dR a b o i j
     if v ≥ g then break
    else
     o:=o.push (<-elem' a i);i:=i + 1;u:=u + 1;v:=0
     if i + 1 == a.size then return eV a b o i j
     if u ≥ g then break
   rule "list.sort.gallop"
   g:=g + 1
   for _ in [0:t] do
    if g > 1 then g:=g - 1
    modify (cV · g)
    let some k <-jM false (<-elem' b j) a i (a.size - i) 0|return dR a b o i j
    u:=k
    if k > 0 then
     o:=o++a.extract i (i + k);i:=i + k
     if i + 1 == a.size then return eV a b o i j
     if i == a.size then return dR a b o i j
    o:=o.push (<-elem' b j);j:=j + 1
    if j == b.size then return dR a b o i j
    let some k <-jM true (<-elem' a i) b j (b.size - j) 0|return dR a b o i j
    v:=k
    if k > 0 then
     o:=o++b.extract j (j + k);j:=j + k
     if j == b.size then return dR a b o i j
    o:=o.push (<-elem' a i);i:=i + 1
    if i + 1 == a.size then return eV a b o i j
    if u < 7 && v < 7 then break
   g:=g + 1
   modify (cV · g)
  unsupported "internal:list.sort.merge-bound"):=rfl
theorem iD {σ:Type}{x:String}{st : σ}{Q:Unit->σ->Prop}(h:Q () st):wpS M A E s (liftM (rule x):StateT σ Sem Unit) Q st:=wpS_lift (wpAny_rule ⟨rfl,h⟩)
theorem dq {σ α : Type}{c:Prop} [Decidable c] {x y:StateT σ Sem α}{st : σ}{Q : α->σ->Prop}(h1:c->wpS M A E s x Q st)(h2 : ¬c->wpS M A E s y Q st):wpS M A E s (if c then x else y) Q st:=by
 by_cases h:c
 ·rw[yD h];exact h1 h
 ·rw[x3 h];exact h2 h
theorem Ic (T:Two M A E s kd S r a b)(C:∀x∈b.toList,∀y∈a.toList.drop (a.size - 1),r x y=true)(h0:∀x,b[0]? = some x->∀y∈a.toList,r x y=true)(za:0 < a.size)(zb:0 < b.size)(U:kindOf st=kd){Q:Array Keyed->SortSt->Prop}(q:∀x k,Mgd r a b x->Q x (cV st k)):wpS M A E s (mLo a b) Q st:=by
 obtain⟨x,ex,mx⟩:=hZ zb;have W:MI r a b #[x] 0 1:=by
  have mm:MI r a b #[] 0 0:=⟨T.C.tr,T.C.asym,by simpa using Stb.refl (r:=r) [],by simp,by simp,λ_ h=>by simp at h,YG _,YG _⟩;exact mm.pushB T.sb ex (by simpa using h0 x ex)
 have D:st=cV st (gallopOf st):=by cases st;rfl
 rw[Ib];refine x4 (iD (x4 (bQ ex (dq (λc => ?_) λc=>dq (λX => ?_) λX => ?_))))
 ·refine v3 ?_
  rw[D];exact q _ _ (lM T W (.inl (by simpa using c)))
 ·refine v3 ?_
  rw[D];exact q _ _ (ua T C W (by simpa using X))
 ·have L0:LI r a b #[x] 0 1:=⟨W,by simp at X;omega,by simp at c;omega⟩
  refine x4 (V2 (x4 (WF (YU
   (I:=λn c d=>(∃k,d=cV st k)/\∃o i j g,c=(none,o,i,j,g)/\LI r a b o i j/\n + 1<=o.size)
   (Q:=λc d=>(∃k,d=cV st k)/\∃x o i j g,c=(some x,o,i,j,g)/\Mgd r a b x) ?step ?fin ⟨⟨_,D⟩,#[x],0,1,gallopOf st,rfl,L0,by simp⟩) λc d h => ?_)))
  case fin =>
   rintro c d ⟨_,o,i,j,g,_,L,z⟩;have:=L.m.len;have:=L.hi;have:=L.hj;omega
  case step =>
   rintro n c d _ hn ⟨⟨k,rfl⟩,o,i,j,g,rfl,L,z⟩;refine x4 (WF (YU
    (I:=λV c d=>d=cV st k/\∃o' i j u v,c=(none,o',i,j,u,v)/\LI r a b o' i j/\o.size + V<=o'.size)
    (Q:=λc d=>d=cV st k/\((∃x o' i j u v,c=(some x,o',i,j,u,v)/\Mgd r a b x)\/∃o' i j u v,c=(none,o',i,j,u,v)/\LI r a b o' i j/\o.size < o'.size)) ?s1 ?Z ⟨rfl,o,i,j,0,0,rfl,L,by simp⟩) λc d h => ?_)
   case Z =>
    rintro c d ⟨rfl,o',i,j,u,v,rfl,J,Y⟩;exact⟨rfl,.inr ⟨o',i,j,u,v,rfl,J,by omega⟩⟩
   case s1 =>
    rintro V c d _ _ ⟨rfl,o',i,j,u,v,rfl,J,Y⟩;show wpS M A E s (lo1 a b g o' i j u v) _ _;exact Ia (st:=cV st k) T C J U (λx f N P O K R=>⟨rfl,.inl ⟨x,f,N,P,O,K,rfl,R⟩⟩) (λf N P O K L2 H=>⟨rfl,.inr ⟨f,N,P,O,K,rfl,L2,by omega⟩⟩) λf N P O K L2 H=>⟨rfl,f,N,P,O,K,rfl,L2,by omega⟩
   ·obtain⟨rfl,⟨x,o',i,j,u,v,rfl,R⟩|⟨o',i,j,u,v,rfl,J,Y⟩⟩:=h
    ·exact v3 ⟨⟨k,rfl⟩,x,o',i,j,g,rfl,R⟩
    ·refine x4 (iD (x4 (WF (YU
      (I:=λ_ c d=>(∃k,d=cV st k)/\∃f i j g u v,c=(none,f,i,j,g,u,v)/\LI r a b f i j/\n + 2<=f.size)
      (Q:=λc d=>(∃k,d=cV st k)/\((∃x f i j g u v,c=(some x,f,i,j,g,u,v)/\Mgd r a b x)\/∃f i j g u v,c=(none,f,i,j,g,u,v)/\LI r a b f i j/\n + 2<=f.size)) ?s2 ?f2 ⟨⟨k,rfl⟩,o',i,j,g + 1,u,v,rfl,J,by omega⟩) λc d h => ?_)))
     case f2 =>
      rintro c d ⟨e,f,i,j,g,u,v,rfl,L2,H⟩;exact⟨e,.inr ⟨f,i,j,g,u,v,rfl,L2,H⟩⟩
     case s2 =>
      rintro V c d _ _ ⟨⟨k,rfl⟩,f,i,j,g,u,v,rfl,L2,H⟩;show wpS M A E s (if g > 1 then lo2 a b f i j u v (g - 1) else lo2 a b f i j u v g) _ _;exact dq (λ_=>CU (st:=cV st k) (n:=n + 2) T C L2 U H ⟨λx w p t B l m R=>⟨⟨_,rfl⟩,.inl ⟨x,w,p,t,B,l,m,rfl,R⟩⟩,λw p t B l m F G=>⟨⟨_,rfl⟩,.inr ⟨w,p,t,B,l,m,rfl,F,G⟩⟩,λw p t B l m F G=>⟨⟨_,rfl⟩,w,p,t,B,l,m,rfl,F,G⟩⟩) λ_=>CU (st:=cV st k) (n:=n + 2) T C L2 U H ⟨λx w p t B l m R=>⟨⟨_,rfl⟩,.inl ⟨x,w,p,t,B,l,m,rfl,R⟩⟩,λw p t B l m F G=>⟨⟨_,rfl⟩,.inr ⟨w,p,t,B,l,m,rfl,F,G⟩⟩,λw p t B l m F G=>⟨⟨_,rfl⟩,w,p,t,B,l,m,rfl,F,G⟩⟩
     ·obtain⟨⟨k,rfl⟩,⟨x,f,i,j,g,u,v,rfl,R⟩|⟨f,i,j,g,u,v,rfl,L2,H⟩⟩:=h
      ·exact v3 ⟨⟨k,rfl⟩,x,f,i,j,g,rfl,R⟩
      ·refine x4 (X4 (v3 ⟨⟨g + 1,rfl⟩,f,i,j,g + 1,rfl,L2,by omega⟩))
  ·obtain⟨⟨k,rfl⟩,x,o,i,j,g,rfl,R⟩:=h
   exact v3 (q x k R)
end
variable {q:Nat}
section
theorem oZ {α : Type}(a:Array α){p:Nat}(h:p<=q)(hq:q<=a.size):(a.extract p q).reverse=a.reverse.extract (a.size - q) (a.size - q + (q - p)):=by
 rw[Array.reverse_extract];congr 1;omega
theorem ub {α : Type}(a:Array α)(h:1<=q)(hq:q<=a.size):a.reverse[a.size - q]? = a[q - 1]? := by
 rw[Array.getElem?_eq_getElem (by simp;omega),Array.getElem?_eq_getElem (by omega),Array.getElem_reverse];congr 2;omega
theorem uc {α : Type}(a:Array α){p:Nat}(h:p<=q)(hq:q<=a.size){y : α}(hy:y∈(a.reverse.toList.drop (a.size - q)).take (q - p)):y∈((a.toList.drop 0).take q).drop p:=by
 rw[<-mQ,<-oZ a h hq,XH,List.mem_reverse,Array.toList_extract,List.extract_eq_take_drop]at hy;rw[List.drop_zero];rw[List.drop_take];exact hy
variable {r:Keyed->Keyed->Bool}
abbrev rv (r:Keyed->Keyed->Bool):Keyed->Keyed->Bool:=λx y=>r y x
theorem fm {a:Array Keyed}(h:a.toList.Pairwise (lE r)):a.reverse.toList.Pairwise (lE (rv r)):=by
 rw[XH,List.pairwise_reverse];exact h
def eP (a b o:Array Keyed) (n m:Nat):Array Keyed:=a.extract 0 n++b.extract 0 m++o.reverse
def fu (a b o:Array Keyed) (n m:Nat):Array Keyed:=b.extract 0 m++a.extract 0 n++o.reverse
theorem o4 {α : Type}(a:Array α)(h:n<=a.size):a.extract 0 n=(a.reverse.extract (a.size - n) a.reverse.size).reverse:=by
 have:=oZ a (YG n) h;have e:a.size - n + (n - 0)=a.reverse.size:=by simp;omega
 rw[e]at this;rw[<-this,Array.reverse_reverse]
theorem CV (a b o:Array Keyed){m:Nat}(hn:n<=a.size)(hm:m<=b.size):eP a b o n m=(dR b.reverse a.reverse o (b.size - m) (a.size - n)).reverse:=by
 unfold eP dR;rw[W4,W4,<-o4 b hm,<-o4 a hn,Array.append_assoc]
theorem xQ (a b o:Array Keyed){m:Nat}(hn:n<=a.size)(hm:m<=b.size):fu a b o n m=(eV b.reverse a.reverse o (b.size - m) (a.size - n)).reverse:=by
 unfold fu eV;rw[W4,W4,<-o4 b hm,<-o4 a hn,Array.append_assoc]
theorem zW {a b o:Array Keyed}(h:Mgd (rv r) b.reverse a.reverse o):Mgd r a b o.reverse:=by
 obtain⟨p,q⟩:=h;refine⟨?_,?_⟩
 ·rw[XH]
  have:=Stb.turn p;rwa[List.reverse_append,XH,XH,W5,W5]at this
 ·rw[XH,List.pairwise_reverse]
  exact q
variable {a b o:Array Keyed} {i j:Nat}
theorem CW (sa:a.toList.Pairwise (lE r))(sb:b.toList.Pairwise (lE r))(m:MI r a b o i j)(h:j=b.size\/i=a.size):Mgd r a b (dR a b o i j):=by
 unfold dR;rcases h with h|h
 ·rw[lL b h,VQ];exact m.endA sa h
 ·rw[lL a h,VQ];exact m.endB sb h
theorem Fd (sa:a.toList.Pairwise (lE r))(sb:b.toList.Pairwise (lE r))(c:∀x∈b.toList,∀y∈a.toList.drop (a.size - 1),r x y=true)(m:MI r a b o i j)(h:i + 1=a.size):Mgd r a b (eV a b o i j):=by
 unfold eV;refine m.endBA sa sb λx e y d=>c x (XG e) y ?_;rw[show a.size - 1=i by omega];exact d
abbrev MH (r:Keyed->Keyed->Bool) (a b o:Array Keyed) (n m:Nat):Prop:=n<=a.size/\m<=b.size/\MI (rv r) b.reverse a.reverse o (b.size - m) (a.size - n)
variable {M:Model} {A:T2} {E:T0->T1->Prop} {s:T1} {kd:SortKind} {S:Keyed->Prop} {n m:Nat}
theorem lN (T:Two M A E s kd S r a b)(h:MH r a b o n m)(z:n=0\/m=0):Mgd r a b (eP a b o n m):=by
 rw[CV a b o h.1 h.2.1];refine zW (CW (fm T.sb) (fm T.sa) h.2.2 ?_);rcases z with z|z
 ·exact .inl (by rw[z];simp)
 ·exact .inr (by rw[z];simp)
theorem kg (T:Two M A E s kd S r a b)(c:∀x,b[0]? = some x->∀y∈a.toList,r x y=true)(h:MH r a b o n m)(z:m=1):Mgd r a b (fu a b o n m):=by
 rw[xQ a b o h.1 h.2.1];have g:=h.2.1;refine zW (Fd (fm T.sb) (fm T.sa) (λx f y d => ?_) h.2.2 (by simp;omega));have e:b.reverse.toList.drop (b.reverse.size - 1)=[b[0]]:=by
  rw[XH,Array.size_reverse];apply List.ext_getElem
  ·simp;omega
  ·intro i h1 h2
   simp at h1 h2;subst h2;simp[List.getElem_drop,List.getElem_reverse]
 rw[e,YL]at d;subst d;exact c _ (Array.getElem?_eq_getElem (by omega)) x (by simpa using f)
theorem MH.pushB (T:Two M A E s kd S r a b)(h:MH r a b o n m)(hm:1<=m)(c:b[m - 1]? = some y)(w:∀z∈a.reverse.toList.drop (a.size - n),lE r z y):MH r a b (o.push y) n (m - 1):=by
 obtain⟨h1,h2,d⟩:=h;have e:b.size - (m - 1)=b.size - m + 1:=by omega
 refine⟨h1,by omega,?_⟩;rw[e];exact d.pushA (fm T.sb) ((ub b hm h2).trans c) w
end
def mHi:Array Keyed->Array Keyed->StateT SortSt Sem (Array Keyed):=sortPriv% PySem.Builtin.mergeHi
theorem Id (a b:Array Keyed):mHi a b=(do
  rule "list.sort.merge-hi"
  let t:=a.size + b.size
  let mut n:=a.size - 1
  let mut m:=b.size
  let mut o:Array Keyed := #[<-elem' a n]
  if n == 0 then return eP a b o n m
  if m == 1 then return fu a b o n m
  let mut g:=gallopOf (<-get)
  for _ in [0:t] do
   let mut u:=0
   let mut v:=0
   for _ in [0:t] do
    let some w <-lt' (<-elem' b (m - 1)) (<-elem' a (n - 1))|return eP a b o n m
    if w then
     n:=n - 1;o:=o.push (<-elem' a n);u:=u + 1;v:=0
     if n == 0 then return eP a b o n m
     if u ≥ g then break
    else
     m:=m - 1;o:=o.push (<-elem' b m);v:=v + 1;u:=0
     if m == 1 then return fu a b o n m
     if v ≥ g then break
   rule "list.sort.gallop"
   g:=g + 1
   for _ in [0:t] do
    if g > 1 then g:=g - 1
    modify (cV · g)
    let some p <-jM false (<-elem' b (m - 1)) a 0 n (n - 1)|return eP a b o n m
    let k:=n - p
    u:=k
    if k > 0 then
     o:=o++(a.extract p n).reverse;n:=p
     if n == 0 then return eP a b o n m
    m:=m - 1;o:=o.push (<-elem' b m)
    if m == 1 then return fu a b o n m
    let some p <-jM true (<-elem' a (n - 1)) b 0 m (m - 1)|return eP a b o n m
    let k:=m - p
    v:=k
    if k > 0 then
     o:=o++(b.extract p m).reverse;m:=p
     if m == 1 then return fu a b o n m
     if m == 0 then return eP a b o n m
    n:=n - 1;o:=o.push (<-elem' a n)
    if n == 0 then return eP a b o n m
    if u < 7 && v < 7 then break
   g:=g + 1
   modify (cV · g)
  unsupported "internal:list.sort.merge-bound"):=rfl
abbrev D1:=Option (Array Keyed) × Nat × Nat × Array Keyed × Nat
abbrev D2:=Option (Array Keyed) × Nat × Nat × Array Keyed × Nat × Nat
abbrev D3:=Option (Array Keyed) × Nat × Nat × Array Keyed × Nat × Nat × Nat
def hi1 (a b:Array Keyed) (g n m:Nat) (o:Array Keyed) (u v:Nat):SM (ForInStep D2):=do
 let x <-elem' b (m - 1)
 let y <-elem' a (n - 1)
 let some w <-lt' x y|pure (.done (some (eP a b o n m),n,m,o,u,v))
 if w then do
  let y <-elem' a (n - 1)
  if n - 1 == 0 then pure (.done (some (eP a b (o.push y) (n - 1) m),n - 1,m,o.push y,u + 1,0))
  else if u + 1 ≥ g then pure (.done (none,n - 1,m,o.push y,u + 1,0)) else pure (.yield (none,n - 1,m,o.push y,u + 1,0))
 else do
  let x <-elem' b (m - 1)
  if m - 1 == 1 then pure (.done (some (fu a b (o.push x) n (m - 1)),n,m - 1,o.push x,0,v + 1))
  else if v + 1 ≥ g then pure (.done (none,n,m - 1,o.push x,0,v + 1)) else pure (.yield (none,n,m - 1,o.push x,0,v + 1))
def hi4 (a b:Array Keyed) (n m:Nat) (o:Array Keyed) (g u v:Nat):SM (ForInStep D3):=do
 let y <-elem' a (n - 1)
 if n - 1 == 0 then pure (.done (some (eP a b (o.push y) (n - 1) m),n - 1,m,o.push y,g,u,v))
 else if (decide (u < 7) && decide (v < 7))=true then pure (.done (none,n - 1,m,o.push y,g,u,v)) else pure (.yield (none,n - 1,m,o.push y,g,u,v))
def hi3 (a b:Array Keyed) (n m:Nat) (o:Array Keyed) (g u v:Nat):SM (ForInStep D3):=do
 let x <-elem' b (m - 1)
 if m - 1 == 1 then pure (.done (some (fu a b (o.push x) n (m - 1)),n,m - 1,o.push x,g,u,v))
 else do
  let y <-elem' a (n - 1)
  let some p <-jM true y b 0 (m - 1) (m - 1 - 1)|pure (.done (some (eP a b (o.push x) n (m - 1)),n,m - 1,o.push x,g,u,v))
  if m - 1 - p > 0 then
   if p == 1 then pure (.done (some (fu a b (o.push x++(b.extract p (m - 1)).reverse) n p),n,p,o.push x++(b.extract p (m - 1)).reverse,g,u,m - 1 - p))
   else if p == 0 then pure (.done (some (eP a b (o.push x++(b.extract p (m - 1)).reverse) n p),n,p,o.push x++(b.extract p (m - 1)).reverse,g,u,m - 1 - p))
   else hi4 a b n p (o.push x++(b.extract p (m - 1)).reverse) g u (m - 1 - p)
  else hi4 a b n (m - 1) (o.push x) g u (m - 1 - p)
def hi2 (a b:Array Keyed) (n m:Nat) (o:Array Keyed) (u v g:Nat):SM (ForInStep D3):=do
 modify (cV · g)
 let x <-elem' b (m - 1)
 let some p <-jM false x a 0 n (n - 1)|pure (.done (some (eP a b o n m),n,m,o,g,u,v))
 if n - p > 0 then
  if p == 0 then pure (.done (some (eP a b (o++(a.extract p n).reverse) p m),p,m,o++(a.extract p n).reverse,g,n - p,v))
  else hi3 a b p m (o++(a.extract p n).reverse) g (n - p) v
 else hi3 a b n m o g (n - p) v
section
variable {M:Model} {A:T2} {E:T0->T1->Prop} {s:T1} {kd:SortKind} {S:Keyed->Prop} {r:Keyed->Keyed->Bool} {a b o:Array Keyed} {n m g u v p:Nat} {st:SortSt}
theorem MH.len (h:MH r a b o n m):o.size + n + m=a.size + b.size:=by
 have:=h.2.2.len;have:=h.1;have:=h.2.1;omega
theorem pV {α : Type}(a:Array α)(hq:p<=a.size){y : α}(hy:y∈a.reverse.toList.drop (a.size - p)):y∈(a.toList.drop 0).take p:=by
 have:=uc a (YG p) hq (y:=y) (by rw[YN (by simp;omega)];exact hy);simpa using this
theorem MH.low (T:Two M A E s kd S r a b)(h:MH r a b o n m)(hm:1<=m)(c:b[m - 1]? = some y)(w:r y x=true):∀z∈b.reverse.toList.drop (b.size - m),r z x=true :=
 t8 (r:=rv r) (λp q=>T.C.tr q p) (fm T.sb) ((ub b hm h.2.1).trans c) w
theorem MH.lowA (T:Two M A E s kd S r a b)(h:MH r a b o n m)(hn:1<=n)(c:a[n - 1]? = some y)(w:lE r y x):∀z∈a.reverse.toList.drop (a.size - n),lE r z x :=
 t7 (r:=rv r) (λp q=>T.C.tr q p) (fm T.sa) ((ub a hn h.1).trans c) w
theorem MH.putA (T:Two M A E s kd S r a b)(h:MH r a b o n m)(hn:1<=n)(ex:a[n - 1]? = some x)(w:∀z∈b.reverse.toList.drop (b.size - m),r z x=true):MH r a b (o.push x) (n - 1) m:=by
 obtain⟨h1,h2,c⟩:=h;have e:a.size - (n - 1)=a.size - n + 1:=by omega
 refine⟨by omega,h2,?_⟩;rw[e];exact c.pushB (fm T.sa) ((ub a hn h1).trans ex) w
theorem MH.segA (T:Two M A E s kd S r a b)(h:MH r a b o n m)(hp:p<=n)(w:∀y∈((a.toList.drop 0).take n).drop p,∀z∈b.reverse.toList.drop (b.size - m),r z y=true):MH r a b (o++(a.extract p n).reverse) p m:=by
 obtain⟨h1,h2,d⟩:=h;have e:a.size - p=a.size - n + (n - p):=by omega
 refine⟨by omega,h2,?_⟩;rw[e,oZ a hp h1];exact d.segB (fm T.sa) (by simp;omega) λy c=>w y (uc a hp h1 c)
theorem MH.segB (T:Two M A E s kd S r a b)(h:MH r a b o n m)(hp:p<=m)(w:∀y∈((b.toList.drop 0).take m).drop p,∀z∈a.reverse.toList.drop (a.size - n),lE r z y):MH r a b (o++(b.extract p m).reverse) n p:=by
 obtain⟨h1,h2,d⟩:=h;have e:b.size - p=b.size - m + (m - p):=by omega
 refine⟨h1,by omega,?_⟩;rw[e,oZ b hp h2];exact d.segA (fm T.sb) (by simp;omega) λy c=>w y (uc b hp h2 c)
structure HI (r:Keyed->Keyed->Bool) (a b o:Array Keyed) (n m:Nat):Prop where
 h:MH r a b o n m
 hn:1<=n
 hm:2<=m
theorem Ie (T:Two M A E s kd S r a b)(l:∀x,b[0]? = some x->∀y∈a.toList,r x y=true)(L:HI r a b o n m)(q:kindOf st=kd){Q:ForInStep D2->SortSt->Prop}
  (q1:∀x o' d e i j,Mgd r a b x->Q (.done (some x,d,e,o',i,j)) st) (q2:∀o' d e i j,HI r a b o' d e->o.size < o'.size->Q (.done (none,d,e,o',i,j)) st) (q3:∀o' d e i j,HI r a b o' d e->o.size < o'.size->Q (.yield (none,d,e,o',i,j)) st) :
  wpS M A E s (hi1 a b g n m o u v) Q st:=by
 have ⟨h,hn,hm⟩:=L;have h1:=h.1;have h2:=h.2.1;obtain⟨x,ex,t⟩:=hZ (show m - 1 < b.size by omega);obtain⟨y,k,B⟩:=hZ (show n - 1 < a.size by omega);unfold hi1;refine x4 (bQ ex (x4 (bQ k (x4 (T.C.ask (T.Sb x t) (T.Sa y B) q ?_)))));dsimp only;cases w:r x y with
 | true =>
  rw[yD rfl];refine x4 (bQ k ?_);have f:=h.putA T hn k (h.low T (by omega) ex w);have z:o.size < (o.push y).size:=by simp
  by_cases c:n - 1=0
  ·rw[yD (by simpa using c)]
   exact v3 (q1 _ _ _ _ _ _ (lN T f (.inl c)))
  ·rw[x3 (by simpa using c)]
   have L2:HI r a b (o.push y) (n - 1) m:=⟨f,by omega,hm⟩;split
   ·exact v3 (q2 _ _ _ _ _ L2 z)
   ·exact v3 (q3 _ _ _ _ _ L2 z)
 | false =>
  rw[x3 Z0];refine x4 (bQ ex ?_);have f:=MH.pushB T h (by omega) ex (h.lowA T hn k w);have z:o.size < (o.push x).size:=by simp
  by_cases c:m - 1=1
  ·rw[yD (by simpa using c)]
   exact v3 (q1 _ _ _ _ _ _ (kg T l f c))
  ·rw[x3 (by simpa using c)]
   have L2:HI r a b (o.push x) n (m - 1):=⟨f,hn,by omega⟩;split
   ·exact v3 (q2 _ _ _ _ _ L2 z)
   ·exact v3 (q3 _ _ _ _ _ L2 z)
structure CY (r:Keyed->Keyed->Bool) (a b:Array Keyed) (l:Nat) (Q:ForInStep D3->SortSt->Prop) (st:SortSt):Prop where
 q1:∀x o' i' j' g' u' v',Mgd r a b x->Q (.done (some x,i',j',o',g',u',v')) st
 q2:∀o' i' j' g' u' v',HI r a b o' i' j'->l<=o'.size->Q (.done (none,i',j',o',g',u',v')) st
 q3:∀o' i' j' g' u' v',HI r a b o' i' j'->l<=o'.size->Q (.yield (none,i',j',o',g',u',v')) st
theorem CZ (T:Two M A E s kd S r a b)(h:MH r a b o n m)(hn:1<=n)(hm:2<=m)(d:a[n - 1]? = some y)(w:∀z∈b.reverse.toList.drop (b.size - m),r z y=true){l:Nat}(f:l<=o.size){Q:ForInStep D3->SortSt->Prop}(q:CY r a b l Q st):wpS M A E s (hi4 a b n m o g u v) Q st:=by
 unfold hi4;refine x4 (bQ d ?_);have e:=h.putA T hn d w;have z:l<=(o.push y).size:=by simp;omega
 by_cases c:n - 1=0
 ·rw[yD (by simpa using c)]
  exact v3 (q.q1 _ _ _ _ _ _ _ (lN T e (.inl c)))
 ·rw[x3 (by simpa using c)]
  have L2:HI r a b (o.push y) (n - 1) m:=⟨e,by omega,hm⟩;split
  ·exact v3 (q.q2 _ _ _ _ _ _ L2 z)
  ·exact v3 (q.q3 _ _ _ _ _ _ L2 z)
theorem C0 (T:Two M A E s kd S r a b)(d:∀x,b[0]? = some x->∀y∈a.toList,r x y=true)(h:MH r a b o n m)(hn:1<=n)(hm:2<=m)(C:kindOf st=kd)(ex:b[m - 1]? = some x)(w:∀z∈a.reverse.toList.drop (a.size - n),lE r z x){l:Nat}(H:l<=o.size){Q:ForInStep D3->SortSt->Prop}(q:CY r a b l Q st):wpS M A E s (hi3 a b n m o g u v) Q st:=by
 have h1:=h.1;have h2:=h.2.1;obtain⟨y,f,G⟩:=hZ (show n - 1 < a.size by omega);unfold hi3;refine x4 (bQ ex ?_);have e:=MH.pushB T h (by omega) ex w
 by_cases c:m - 1=1
 ·rw[yD (by simpa using c)]
  exact v3 (q.q1 _ _ _ _ _ _ _ (kg T d e c))
 ·rw[x3 (by simpa using c)]
  refine x4 (bQ f (x4 (vX T.C C (T.Sa y G) T.Sb T.sb (n:=m - 1) (by omega) (by omega) λk t F p2 => ?_)));dsimp only;have B:∀z∈b.reverse.toList.drop (b.size - k),r z y=true:=λz j=>F z (pV b (by omega) j)
  by_cases c2:m - 1 - k > 0
  ·rw[yD c2]
   have i:=MH.segB T e (p:=k) t λz j=>e.lowA T hn f (p2 z j)
   by_cases c3:k=1
   ·rw[yD (by simpa using c3)]
    exact v3 (q.q1 _ _ _ _ _ _ _ (kg T d i c3))
   ·rw[x3 (by simpa using c3)]
    by_cases c4:k=0
    ·rw[yD (by simpa using c4)]
     exact v3 (q.q1 _ _ _ _ _ _ _ (lN T i (.inr c4)))
    ·rw[x3 (by simpa using c4)]
     exact CZ (l:=l) T i hn (by omega) f B (by simp;omega) q
  ·rw[x3 c2]
   have D:k=m - 1:=by omega
   subst D;exact CZ (l:=l) T e hn (by omega) f B (by simp;omega) q
theorem C1 (T:Two M A E s kd S r a b)(c:∀x,b[0]? = some x->∀y∈a.toList,r x y=true)(L:HI r a b o n m)(d:kindOf st=kd){l:Nat}(t:l<=o.size){Q:ForInStep D3->SortSt->Prop}(q:CY r a b l Q (cV st g)):wpS M A E s (hi2 a b n m o u v g) Q st:=by
 have ⟨h,hn,hm⟩:=L;have h1:=h.1;have h2:=h.2.1;obtain⟨x,ex,w⟩:=hZ (show m - 1 < b.size by omega);unfold hi2;refine x4 (X4 (x4 (bQ ex (x4 (sy T.C (st:=cV st g) d (T.Sb x w) T.Sa T.sa (n:=n) (by omega) (by omega) λk f C p2 => ?_)))));dsimp only;have j:∀z∈a.reverse.toList.drop (a.size - k),lE r z x:=λz e=>C z (pV a (by omega) e)
 by_cases c2:n - k > 0
 ·rw[yD c2]
  have i:=MH.segA T h (p:=k) f λz e=>h.low T (by omega) ex (p2 z e)
  by_cases c3:k=0
  ·rw[yD (by simpa using c3)]
   exact v3 (q.q1 _ _ _ _ _ _ _ (lN T i (.inl c3)))
  ·rw[x3 (by simpa using c3)]
   exact C0 (st:=cV st g) (l:=l) T c i (by omega) hm d ex j (by simp;omega) q
 ·rw[x3 c2]
  have B:k=n:=by omega
  subst B;exact C0 (st:=cV st g) (l:=l) T c h hn hm d ex j t q
theorem Ig (T:Two M A E s kd S r a b)(G:∀x,b[0]? = some x->∀y∈a.toList,r x y=true)(a0:∀y,a[a.size - 1]? = some y->∀x∈b.toList,r x y=true)(za:0 < a.size)(zb:0 < b.size)(X:kindOf st=kd){Q:Array Keyed->SortSt->Prop}(q:∀x k,Mgd r a b x->Q x (cV st k)):wpS M A E s (mHi a b) Q st:=by
 obtain⟨y,Y,my⟩:=hZ (show a.size - 1 < a.size by omega);have Z:MH r a b #[y] (a.size - 1) b.size:=by
  have mm:MH r a b #[] a.size b.size:=⟨ZL _,ZL _,λp q=>T.C.tr q p,T.C.asym,by simpa using Stb.refl (r:=rv r) [],by simp,by simp,λ_ h=>by simp at h,by simp,by simp⟩;exact mm.putA T za Y λz hz=>a0 y Y z (by
   have:=pV b (ZL _) hz;rw[List.drop_zero]at this;exact YS this)
 have K:st=cV st (gallopOf st):=by cases st;rfl
 rw[Id];refine x4 (iD (x4 (bQ Y (dq (λc => ?_) λc=>dq (λc2 => ?_) λc2 => ?_))))
 ·refine v3 ?_
  rw[K];exact q _ _ (lN T Z (.inl (by simpa using c)))
 ·refine v3 ?_
  rw[K];exact q _ _ (kg T G Z (by simpa using c2))
 ·have L0:HI r a b #[y] (a.size - 1) b.size:=⟨Z,by simp at c;omega,by simp at c2;omega⟩
  refine x4 (V2 (x4 (WF (YU
   (I:=λn c d=>(∃k,d=cV st k)/\∃o i j g,c=(none,i,j,o,g)/\HI r a b o i j/\n + 1<=o.size)
   (Q:=λc d=>(∃k,d=cV st k)/\∃x o i j g,c=(some x,i,j,o,g)/\Mgd r a b x) ?step ?fin ⟨⟨_,K⟩,#[y],a.size - 1,b.size,gallopOf st,rfl,L0,by simp⟩) λc d h => ?_)))
  case fin =>
   rintro c d ⟨_,o,i,j,g,_,L,z⟩;have:=L.h.len;have:=L.hn;have:=L.hm;omega
  case step =>
   rintro n c d _ hn ⟨⟨k,rfl⟩,o,i,j,g,rfl,L,z⟩;refine x4 (WF (YU
    (I:=λn' c d=>d=cV st k/\∃o' i j u v,c=(none,i,j,o',u,v)/\HI r a b o' i j/\o.size + n'<=o'.size)
    (Q:=λc d=>d=cV st k/\((∃x o' i j u v,c=(some x,i,j,o',u,v)/\Mgd r a b x)\/∃o' i j u v,c=(none,i,j,o',u,v)/\HI r a b o' i j/\o.size < o'.size)) ?s1 ?f1 ⟨rfl,o,i,j,0,0,rfl,L,by simp⟩) λc d h => ?_)
   case f1 =>
    rintro c d ⟨rfl,o',i,j,u,v,rfl,W,z'⟩;exact⟨rfl,.inr ⟨o',i,j,u,v,rfl,W,by omega⟩⟩
   case s1 =>
    rintro n' c d _ _ ⟨rfl,o',i,j,u,v,rfl,W,z'⟩;show wpS M A E s (hi1 a b g i j o' u v) _ _;exact Ie (st:=cV st k) T G W X (λx f P V U O R=>⟨rfl,.inl ⟨x,f,P,V,U,O,rfl,R⟩⟩) (λf P V U O L2 N=>⟨rfl,.inr ⟨f,P,V,U,O,rfl,L2,by omega⟩⟩) λf P V U O L2 N=>⟨rfl,f,P,V,U,O,rfl,L2,by omega⟩
   ·obtain⟨rfl,⟨x,o',i,j,u,v,rfl,R⟩|⟨o',i,j,u,v,rfl,W,z'⟩⟩:=h
    ·exact v3 ⟨⟨k,rfl⟩,x,o',i,j,g,rfl,R⟩
    ·refine x4 (iD (x4 (WF (YU
      (I:=λ_ c d=>(∃k,d=cV st k)/\∃f i j g u v,c=(none,i,j,f,g,u,v)/\HI r a b f i j/\n + 2<=f.size)
      (Q:=λc d=>(∃k,d=cV st k)/\((∃x f i j g u v,c=(some x,i,j,f,g,u,v)/\Mgd r a b x)\/∃f i j g u v,c=(none,i,j,f,g,u,v)/\HI r a b f i j/\n + 2<=f.size)) ?s2 ?f2 ⟨⟨k,rfl⟩,o',i,j,g + 1,u,v,rfl,W,by omega⟩) λc d h => ?_)))
     case f2 =>
      rintro c d ⟨e,f,i,j,g,u,v,rfl,L2,N⟩;exact⟨e,.inr ⟨f,i,j,g,u,v,rfl,L2,N⟩⟩
     case s2 =>
      rintro n' c d _ _ ⟨⟨k,rfl⟩,f,i,j,g,u,v,rfl,L2,N⟩;show wpS M A E s (if g > 1 then hi2 a b i j f u v (g - 1) else hi2 a b i j f u v g) _ _;exact dq (λ_=>C1 (st:=cV st k) (l:=n + 2) T G L2 X N ⟨λx F B C t w D R=>⟨⟨_,rfl⟩,.inl ⟨x,F,B,C,t,w,D,rfl,R⟩⟩,λF B C t w D H J=>⟨⟨_,rfl⟩,.inr ⟨F,B,C,t,w,D,rfl,H,J⟩⟩,λF B C t w D H J=>⟨⟨_,rfl⟩,F,B,C,t,w,D,rfl,H,J⟩⟩) λ_=>C1 (st:=cV st k) (l:=n + 2) T G L2 X N ⟨λx F B C t w D R=>⟨⟨_,rfl⟩,.inl ⟨x,F,B,C,t,w,D,rfl,R⟩⟩,λF B C t w D H J=>⟨⟨_,rfl⟩,.inr ⟨F,B,C,t,w,D,rfl,H,J⟩⟩,λF B C t w D H J=>⟨⟨_,rfl⟩,F,B,C,t,w,D,rfl,H,J⟩⟩
     ·obtain⟨⟨k,rfl⟩,⟨x,f,i,j,g,u,v,rfl,R⟩|⟨f,i,j,g,u,v,rfl,L2,N⟩⟩:=h
      ·exact v3 ⟨⟨k,rfl⟩,x,f,i,j,g,rfl,R⟩
      ·refine x4 (X4 (v3 ⟨⟨g + 1,rfl⟩,f,i,j,g + 1,rfl,L2,by omega⟩))
  ·obtain⟨⟨k,rfl⟩,x,o,i,j,g,rfl,R⟩:=h
   exact v3 (q x k R)
end
def vY (l:List Keyed) (base:Nat) (xs:Array Keyed):Array Keyed:=l.zipIdx.foldl (λxs q=>xs.setIfInBounds (base + q.2) q.1) xs
theorem Ih (i:Nat):mergeAt' i=(do
  let st <-get
  let (some (p,n,e),some (q,m,_)):=((pendingOf st)[i]?,(pendingOf st)[i + 1]?)|unsupported "internal:list.sort.pending"
  set (setPending st (((pendingOf st).setIfInBounds i (p,n + m,e)).eraseIdxIfInBounds (i + 1)))
  let some k <-jM false (<-elem' (arrOf st) q) (arrOf st) p n 0|return false
  let (p,n):=(p + k,n - k)
  if n == 0 then return true
  let some m <-jM true (<-elem' (arrOf st) (p + n - 1)) (arrOf st) q m (m - 1)|return false
  if m == 0 then return true
  let x:=(arrOf st).extract p q
  let y:=(arrOf st).extract q (q + m)
  let z <-if n<=m then mLo x y else mHi x y
  modify λst=>setArr st (vY z.toList p (arrOf st))
  return (failedOf (<-get)).isNone):=rfl
theorem C4 (base:Nat):∀(l:List Keyed) (n:Nat) (xs:Array Keyed) (P W R:List Keyed),xs.toList=P++W++R->P.length=base + n->W.length=l.length->((l.zipIdx n).foldl (λxs q=>xs.setIfInBounds (base + q.2) q.1) xs).toList=P++l++R
 | [],n,xs,P,W,R,h,hp,hw=>by
  have:W=[]:=List.length_eq_zero_iff.mp hw;subst this;simpa using h
 | x :: l,n,xs,P,[],R,h,hp,hw=>by simp at hw
 | x :: l,n,xs,P,w :: W,R,h,hp,hw=>by
  rw[List.zipIdx_cons,XB];have:=C4 base l (n + 1) (xs.setIfInBounds (base + n) x) (P++[x]) W R (by
   rw[Array.toList_setIfInBounds,h,<-hp,ZU,ZU];simp[List.set_append]) (by simp[hp];omega) (by simpa using hw)
  rw[this];simp
variable {P R:List Keyed}
theorem Ii {l:List Keyed}{base:Nat}{W:List Keyed}(h:xs.toList=P++W++R)(hp:P.length=base)(hw:W.length=l.length):(vY l base xs).toList=P++l++R:=C4 base l 0 xs P W R h (by omega) hw
section
variable {M:Model} {A:T2} {E:T0->T1->Prop} {s:T1} {kd:SortKind} {S:Keyed->Prop} {r:Keyed->Keyed->Bool} {st:SortSt}
theorem Cmp.refl (C:Cmp M A E s kd S r)(x:Keyed):lE r x x:=by
 cases w:r x x with
 | false=>exact w
 | true=>rw[C.asym w]at w;cases w
theorem pW {α : Type}{xs:Array α}{P X R:List α}(h:xs.toList=P++(X++R))(i:Nat)(hi:i < X.length):xs[P.length + i]? = X[i]? := by
 rw[<-Array.getElem?_toList,h,ZD (by omega),ZC (by omega)];congr 1;omega
theorem xR (C:Cmp M A E s kd S r){X:List Keyed}(h:xs.toList=P++(X++R)){ht:Nat}{Q:Option Nat->SortSt->Prop}(i:kindOf st=kd)(m:S x)(g:∀y∈X,S y)(t:X.Pairwise (lE r))(p:ht < X.length)
  (q:∀k,k<=X.length->(∀y∈X.take k,lE r y x)->(∀y∈X.drop k,r x y=true)->Q (some k) st):wpS M A E s (jM false x xs P.length X.length ht) Q st:=by
 have u:∀d (hd:d < X.length),xs[P.length + d]? = some X[d]:=λd hd=>by rw[pW h d hd];exact ZE hd
 refine tZ C i (λd => !r x (X.getD d x)) (λd hd=>⟨X[d],u d hd,g _ (YE hd),by simp[List.getD,hd]⟩) m (λd e n f c => ?_) p λk b v p2=>q k b (λy a => ?_) λy a => ?_
 ·have hd:d < X.length:=by omega
  simp only[List.getD,ZE f,ZE hd,WV]at c ⊢
  by_cases z:d=e
  ·subst z;exact c
  ·have l:=List.pairwise_iff_getElem.mp t d e hd f (by omega)
   have o:r x X[e] = false:=by simpa using c
   have:=C.tr l o;simp[this]
 ·obtain⟨d,hd,e⟩:=List.mem_take_iff_getElem.mp a
  have hd':d < X.length:=by omega
  have:=v d (by omega);simp only[List.getD,ZE hd',WV]at this;rw[<-e];simpa using this
 ·obtain⟨d,hd,e⟩:=List.mem_drop_iff_getElem.mp a
  have:=p2 (k + d) (by omega) (by omega);simp only[List.getD,ZE (show k + d < X.length by omega),WV]at this;have j:y=X[k + d]'(by omega):=by rw[<-e]
  rw[j];simpa using this
theorem AX (C:Cmp M A E s kd S r){X:List Keyed}(h:xs.toList=P++(X++R)){ht:Nat}{Q:Option Nat->SortSt->Prop}(i:kindOf st=kd)(m:S x)(g:∀y∈X,S y)(p:X.Pairwise (lE r))(o:ht < X.length)
  (q:∀k,k<=X.length->(∀y∈X.take k,r y x=true)->(∀y∈X.drop k,lE r x y)->Q (some k) st):wpS M A E s (jM true x xs P.length X.length ht) Q st:=by
 have t:∀d (hd:d < X.length),xs[P.length + d]? = some X[d]:=λd hd=>by rw[pW h d hd];exact ZE hd
 refine tZ C i (λd=>r (X.getD d x) x) (λd hd=>⟨X[d],t d hd,g _ (YE hd),by simp[List.getD,hd]⟩) m (λd e n f a => ?_) o λk c u p2=>q k c (λy b => ?_) λy b => ?_
 ·have hd:d < X.length:=by omega
  simp only[List.getD,ZE f,ZE hd,WV]at a ⊢
  by_cases z:d=e
  ·subst z;exact a
  ·have l:=List.pairwise_iff_getElem.mp p d e hd f (by omega)
   cases w:r X[d] x with
   | true=>rfl
   | false =>
    have:=C.tr w l;rw[this]at a;cases a
 ·obtain⟨d,hd,e⟩:=List.mem_take_iff_getElem.mp b
  have hd':d < X.length:=by omega
  have:=u d (by omega);simp only[List.getD,ZE hd',WV]at this;rw[<-e];exact this
 ·obtain⟨d,hd,e⟩:=List.mem_drop_iff_getElem.mp b
  have:=p2 (k + d) (by omega) (by omega);simp only[List.getD,ZE (show k + d < X.length by omega),WV]at this;have j:y=X[k + d]'(by omega):=by rw[<-e]
  rw[j];exact this
theorem Fe {σ:Type}{a st : σ}{Q:PUnit->σ->Prop}(h:Q ⟨⟩ a):wpS M A E s (set a:StateT σ Sem PUnit) Q st:=by
 unfold wpS;rw[StateT.run_set];exact y3 ⟨rfl,h⟩
theorem Ij (C:Cmp M A E s kd S r){i:Nat}{X Y:List Keyed}{e e':Nat}(hk:kindOf st=kd)(hf:failedOf st=none)(ha:(arrOf st).toList=P++(X++(Y++R)))(p1:(pendingOf st)[i]? = some (P.length,X.length,e))(p2:(pendingOf st)[i + 1]? = some (P.length + X.length,Y.length,e'))
  (SX:∀y∈X,S y) (SY:∀y∈Y,S y) (O:X.Pairwise (lE r)) (K:Y.Pairwise (lE r)) (nX:X≠[]) (nY:Y≠[]) {Q:Bool->SortSt->Prop}
  (q:∀Z n xs,Stb r Z (X++Y)->Z.Pairwise (lE r)->xs.toList=P++(Z++R)->Q true (SortSt.mk' kd xs (((pendingOf st).setIfInBounds i (P.length,X.length + Y.length,e)).eraseIdxIfInBounds (i + 1)) n none)):wpS M A E s (mergeAt' i) Q st:=by
 have lX:0 < X.length:=List.length_pos_iff.mpr nX;have lY:0 < Y.length:=List.length_pos_iff.mpr nY;have G:(arrOf st).toList=(P++X)++(Y++R):=by rw[ha,ZU]
 have F:(P++X).length=P.length + X.length:=ZB;rw[Ih];refine x4 (V2 ?_);simp only[p1,p2];obtain⟨a,j⟩ : ∃a,a=setPending st (((pendingOf st).setIfInBounds i (P.length,X.length + Y.length,e)).eraseIdxIfInBounds (i + 1)):=⟨_,rfl⟩;have D:∀Z n xs,Stb r Z (X++Y)->Z.Pairwise (lE r)->xs.toList=P++(Z++R)->Q true (cV (setArr a xs) n):=λZ n xs U z2 z3=>by
  have:=q Z n xs U z2 z3;rw[j];show Q true (SortSt.mk' (kindOf st) xs _ n (failedOf st));rw[hk,hf];exact this
 have v:kindOf a=kd:=by rw[j];exact hk
 have a7:failedOf a=none:=by rw[j];exact hf
 have a2:arrOf a=arrOf st:=by rw[j]
 rw[<-j];refine x4 (Fe ?_);have ey:(arrOf st)[P.length + X.length]? = some Y[0]:=by
  have:=pW G 0 lY;rw[F]at this;rw[show P.length + X.length=P.length + X.length + 0 from rfl,this];exact ZE lY
 refine x4 (bQ ey (x4 (xR C ha v (SY _ (YE lY)) SX O lX λk a6 b1 b2 => ?_)));dsimp only;have y0:∀y∈Y,lE r Y[0] y:=λy f=>by
  obtain⟨d,hd,e⟩:=VC f
  by_cases z:d=0
  ·subst z;rw[<-e];exact C.refl _
  ·rw[<-e];exact List.pairwise_iff_getElem.mp K 0 d lY hd (by omega)
 have L:∀xs:Array Keyed,xs=arrOf st->∀g,g=gallopOf a->cV (setArr a xs) g=a:=λxs e g eg=>by subst e;subst eg;rw[j]
 have H:X=X.take k++X.drop k:=(YO k X).symm;have w:=O;rw[H,Z8]at w;refine dq (λc => ?_) λc => ?_
 ·have kk:k=X.length:=by simp at c;omega
  refine v3 ?_;have:=D (X++Y) (gallopOf a) (arrOf st) (Stb.refl _) (Z8.mpr ⟨O,K,λx b y f=>C.tr (b1 x (by rw[kk,WA];exact b)) (y0 y f)⟩) (by rw[ha,ZU]);rw[L _ rfl _ rfl]at this;exact this
 ·have kl:k < X.length:=by simp at c;omega
  have ex:(arrOf st)[P.length + k + (X.length - k) - 1]? = some (X[X.length - 1]'(by omega)):=by
   have:=pW ha (X.length - 1) (by omega);rw[show P.length + k + (X.length - k) - 1=P.length + (X.length - 1) by omega,this];exact ZE (by omega)
  have xl:∀x∈X,lE r x (X[X.length - 1]'(by omega)):=λx b=>by
   obtain⟨d,hd,e⟩:=VC b
   by_cases z:d=X.length - 1
   ·subst z;rw[<-e];exact C.refl _
   ·rw[<-e];exact List.pairwise_iff_getElem.mp O d (X.length - 1) hd (by omega) (by omega)
  have g2:∀{R2:Option Nat->SortSt->Prop},(∀m,m<=Y.length->(∀y∈Y.take m,r y (X[X.length - 1]'(by omega))=true)->(∀y∈Y.drop m,lE r (X[X.length - 1]'(by omega)) y)->R2 (some m) a)->wpS M A E s (jM true (X[X.length - 1]'(by omega)) (arrOf st) (P.length + X.length) Y.length (Y.length - 1)) R2 a:=λ{R2} q2=>by
   have:=AX (M:=M) (A:=A) (E:=E) (s:=s) (st:=a) (Q:=R2) C G (ht:=Y.length - 1) v (SX _ (YE (show X.length - 1 < X.length by omega))) SY K (by omega) q2;rw[F]at this;exact this
  refine x4 (bQ ex (x4 (g2 λm a3 d1 d2 => ?_)));dsimp only;have I:Y=Y.take m++Y.drop m:=(YO m Y).symm;have u:=K;rw[I,Z8]at u;refine dq (λc2 => ?_) λc2 => ?_
  ·have m0:m=0:=by simpa using c2
   refine v3 ?_;have:=D (X++Y) (gallopOf a) (arrOf st) (Stb.refl _) (Z8.mpr ⟨O,K,λx b y f=>C.tr (xl x b) (d2 y (by rw[m0];exact f))⟩) (by rw[ha,ZU]);rw[L _ rfl _ rfl]at this;exact this
  ·have m0:0 < m:=by simp at c2;omega
   have p:((arrOf st).extract (P.length + k) (P.length + X.length)).toList=X.drop k:=by
    have:=mQ (arrOf st) (P.length + k) (X.length - k);rw[show P.length + k + (X.length - k)=P.length + X.length by omega]at this;rw[this,ha,<-List.drop_drop,List.drop_left,List.drop_append_of_le_length a6,List.take_left' (by simp)]
   have t:((arrOf st).extract (P.length + X.length) (P.length + X.length + m)).toList=Y.take m:=by
    rw[mQ,G,<-F,List.drop_left,List.take_append_of_le_length a3]
   obtain⟨l,a0⟩ : ∃l,l=(arrOf st).extract (P.length + k) (P.length + X.length):=⟨_,rfl⟩;obtain⟨B,J⟩ : ∃B,B=(arrOf st).extract (P.length + X.length) (P.length + X.length + m):=⟨_,rfl⟩;rw[<-a0]at p;rw[<-J]at t;have T:Two M A E s kd S r l B:=⟨C,λx b=>SX x (XG (by rw[<-p];exact b)),λx b=>SY x (YS (by rw[<-t];exact b)),by rw[p];exact w.2.1,by rw[t];exact u.1⟩;have za:0 < l.size:=by rw[<-Array.length_toList,p];simp;omega
   have zb:0 < B.size:=by rw[<-Array.length_toList,t];simp;omega
   have a1:∀x,B[0]? = some x->∀y∈l.toList,r x y=true:=λx b y f=>by
    rw[<-Array.getElem?_toList,t,List.getElem?_take_of_lt m0,ZE lY]at b;cases b;exact b2 y (by rw[<-p];exact f)
   have N:∀x∈B.toList,r x (X[X.length - 1]'(by omega))=true:=λx b=>d1 x (by rw[<-t];exact b);have a4:l.size=X.length - k:=by rw[<-Array.length_toList,p];simp
   have o:l[l.size - 1]? = some (X[X.length - 1]'(by omega)):=by
    rw[<-Array.getElem?_toList,p,a4,List.getElem?_drop,show k + (X.length - k - 1)=X.length - 1 by omega];exact ZE (by omega)
   have V:∀x∈B.toList,∀y∈l.toList.drop (l.size - 1),r x y=true:=λx b y f=>by
    obtain⟨d,hd,e⟩:=List.mem_drop_iff_getElem.mp f;have a5:d=0:=by simp at hd;omega
    subst a5;have:y=X[X.length - 1]'(by omega):=by
     have h3:l.toList[l.size - 1 + 0]? = some y:=by rw[<-e];exact ZE (by omega)
     rw[Nat.add_zero,Array.getElem?_toList,o]at h3;exact(ZT h3).symm
    rw[this];exact N x b
   have mg:∀z n,Mgd r l B z->wpS M A E s (modify (λst=>setArr st (vY z.toList (P.length + k) (arrOf st))) >>= λ_=>(get >>= λst=>pure (failedOf st).isNone:StateT SortSt Sem Bool)) Q (cV a n):=λz n ⟨U,z2⟩=>by
    refine x4 (X4 (x4 (V2 (v3 ?_))));show Q (failedOf a).isNone _;rw[a7];have zl:z.toList.length=(X.drop k++Y.take m).length:=by rw[U.length_eq,p,t]
    have la:(vY z.toList (P.length + k) (arrOf st)).toList=(P++X.take k)++z.toList++(Y.drop m++R):=Ii (W:=X.drop k++Y.take m) (by
     rw[ha]
     conv=>lhs;rw[H,I]
     simp only[ZU]) (by simp;omega) zl.symm
    have mem:∀x∈z.toList,x∈X.drop k\/x∈Y.take m:=λx b=>by
     have:=U.mem_iff.mp b;rw[p,t]at this;exact List.mem_append.mp this
    have:=D (X.take k++(z.toList++Y.drop m)) n (vY z.toList (P.length + k) (arrOf st)) (by
     conv=>rhs;rw[H,I]
     rw[ZU];refine Stb.append_left _ ?_;rw[<-ZU];refine Stb.append_right _ ?_;rw[<-p,<-t];exact U) (by
     rw[Z8,Z8];refine⟨w.1,⟨z2,u.2.1,λx b y f => ?_⟩,λx b y f => ?_⟩
     ·rcases mem x b with h|h
      ·exact C.tr (xl x (XG h)) (d2 y f)
      ·exact u.2.2 x h y f
     ·rcases List.mem_append.mp f with f|f
      ·rcases mem y f with h|h
       ·exact w.2.2 x b y h
       ·exact C.tr (b1 x b) (y0 y (YS h))
      ·exact C.tr (b1 x b) (y0 y (XG f))) (by rw[la];simp only[ZU])
    have e3:arrOf (cV a n)=arrOf st:=a2;rw[e3];exact this
   rw[<-a0,<-J];refine dq (λ_=>x4 ?_) λ_=>x4 ?_
   ·exact Ic T V a1 za zb v mg
   ·exact Ig T a1 (λy f x b=>by rw[o]at f;cases f;exact N x b) za zb v mg
end
variable {ys:Array Keyed}
section
variable {M:Model} {A:T2} {E:T0->T1->Prop} {s:T1} {kd:SortKind} {S:Keyed->Prop} {r:Keyed->Keyed->Bool} {st:SortSt}
theorem Ik {α : Type}{xs:Array α}{P B R:List α}(h:xs.toList=P++(B++R)){i j:Nat}(hi:i=P.length)(hj:j=P.length + B.length):(mirror xs i j ((j - i) / 2)).toList=P++(B.reverse++R):=by
 have sz:xs.size=P.length + (B.length + R.length):=by rw[<-Array.length_toList,h];simp
 apply YB;intro k;rw[Array.getElem?_toList,getElem?_mirror_all (by omega)];subst hi hj
 by_cases c:P.length<=k/\k < P.length + B.length
 ·rw[yD c,<-Array.getElem?_toList,h,ZD (by omega),ZC (by omega),ZD (by omega),ZC (by simp;omega),List.getElem?_reverse (by omega)]
  congr 1;omega
 ·rw[x3 c,<-Array.getElem?_toList,h]
  by_cases c2:k < P.length
  ·rw[ZC c2,ZC c2]
  ·rw[ZD (by omega),ZD (by omega),ZD (by omega),ZD (by simp;omega)]
   simp
theorem vZ (C:Cmp M A E s kd S r){i j:Nat}{Q:Option Bool->SortSt->Prop}(b:kindOf st=kd)(ex:xs[i]? = some x)(a:xs[j]? = some y)(c:S x)(d:S y)(h:Q (some (r x y)) (setArr st xs)):wpS M A E s (ltAt' i j) Q (setArr st xs):=by
 rw[ltAt'_eq];refine x4 (V2 (x4 (bQ ex (x4 (bQ a (C.ask c d b h))))))
theorem ud {B:List Keyed}(h:xs.toList=P++(B++R)){i j:Nat}(hi:i=P.length)(hj:j=P.length + B.length){Q:Unit->SortSt->Prop}(q:∀ys:Array Keyed,ys.toList=P++(B.reverse++R)->Q () (setArr st ys)):wpS M A E s (reverseSlice' i j) Q (setArr st xs):=by
 rw[reverseSlice'_eq];exact X4 (q _ (Ik h hi hj))
abbrev lG (r:Keyed->Keyed->Bool) (x y:Keyed):Prop:=r x y=false
def xS (lo n:Nat):SM (ForInStep (Option (Option Nat) × Nat)):=do
 let some e <-ltAt' (lo + n) (lo + n - 1)|pure (.done (some none,n))
 if e then pure (.done (none,n)) else pure (.yield (none,n + 1))
def Il (lo n q:Nat):SM (ForInStep (Option (Option Nat) × Nat × Nat)):=do
 let some e <-ltAt' (lo + n) (lo + n - 1)|pure (.done (some none,n,q))
 if e then
  if q > 0 then do
   reverseSlice' (lo + n - (q + 1)) (lo + n)
   pure (.yield (none,n + 1,0))
  else pure (.yield (none,n + 1,0))
 else do
  let some f <-ltAt' (lo + n - 1) (lo + n)|pure (.done (some none,n,q))
  if f then pure (.done (none,n,q)) else pure (.yield (none,n + 1,q + 1))
theorem ue {α : Type}{R : α->α->Prop}(tr:∀{a b c},R a b->R b c->R a c){D:List α}{y x : α}(h:(D++[y]).Pairwise R)(hx:R y x):(D++[y]++[x]).Pairwise R:=by
 rw[Z8];refine⟨h,Y1 _ _,λa d b e => ?_⟩;rw[YL]at e;subst e;rcases List.mem_append.mp d with d|d
 ·exact tr ((Z8.mp h).2.2 a d y (by simp)) hx
 ·rw[YL]at d;subst d;exact hx
theorem kL {α : Type}{D:List α}(h:0 < D.length):∃F y,D=F++[y]:=⟨D.dropLast,D.getLast (List.ne_nil_of_length_pos h),(List.dropLast_concat_getLast _).symm⟩
theorem xT {α : Type}{xs:Array α}{P F:List α}{y : α}{R:List α}(h:xs.toList=P++(F++[y]++R)):xs[P.length + (F.length + 1) - 1]? = some y:=by
 rw[<-Array.getElem?_toList,h,ZD (by omega),ZC (by simp),ZD (by omega)];simp
theorem o5 {α : Type}{xs:Array α}{P D:List α}{x : α}{R:List α}(h:xs.toList=P++(D++(x :: R))):xs[P.length + D.length]? = some x:=by
 rw[<-Array.getElem?_toList,h,ZD (by omega),ZD (by omega)];simp
theorem C5 (C:Cmp M A E s kd S r)(t:kindOf st=kd){D:List Keyed}(u:∀x∈D++R,S x)(hx:xs.toList=P++(D++R))(h1:0 < D.length)(H:D.Pairwise (lE r)){j:Nat}(hn:j=D.length + R.length){β : Type}{f:(Option (Option Nat) × Nat)->SM β}{Q : β->SortSt->Prop}
  (q:∀a b,a++b=D++R->0 < a.length->a.Pairwise (lE r)->(∀y z F T,a=F++[y]->b=z :: T->r z y=true)->wpS M A E s (f (none,a.length)) Q (setArr st xs)) :
  wpS M A E s (forIn [D.length:j] ((none,D.length):Option (Option Nat) × Nat) (λ_ c=>xS P.length c.2) >>= f) Q (setArr st xs):=by
 refine x4 (WF (YU (I:=λi c d=>d=setArr st xs/\∃a b,c=(none,a.length)/\i=a.length/\a++b=D++R/\0 < a.length/\a.Pairwise (lE r))
  (Q:=λc d=>d=setArr st xs/\∃a b,c=(none,a.length)/\a++b=D++R/\0 < a.length/\a.Pairwise (lE r)/\(∀y z F T,a=F++[y]->b=z :: T->r z y=true)) ?step ?fin ⟨rfl,D,R,rfl,rfl,rfl,h1,H⟩) λc d h => ?_)
 case fin =>
  rintro c d ⟨rfl,a,b,rfl,e,g,l,k⟩;refine⟨rfl,a,b,rfl,g,l,k,λy z F T _ J => ?_⟩;have:=congrArg List.length g;rw[J]at this;simp at this;omega
 case step =>
  rintro i c d _ hi ⟨rfl,a,b,rfl,e,g,l,k⟩;have n:=congrArg List.length g;simp at n;obtain⟨F,y,rfl⟩:=kL l;cases b with
  | nil=>simp at n e;omega
  | cons z T =>
   have m:xs.toList=P++(F++[y]++(z :: T)):=by rw[hx,<-g]
   have mem:∀w,w∈F++[y]++(z :: T)->S w:=λw hw=>u w (by rw[<-g];exact hw);show wpS M A E s (xS P.length (F++[y]).length) _ _;unfold xS;have v:=o5 m;have o:=xT m;rw[show P.length + (F.length + 1) - 1=P.length + (F++[y]).length - 1 by simp]at o;refine x4 (vZ C t v o (mem z (by simp)) (mem y (by simp)) ?_);dsimp only;cases w:r z y with
   | true =>
    rw[yD rfl];refine v3 ⟨rfl,F++[y],z :: T,rfl,g,l,k,λN K L O h1 h2 => ?_⟩;have G:=List.append_inj_right' h1 rfl;cases h2;cases G;exact w
   | false =>
    rw[x3 Z0];refine v3 ⟨rfl,F++[y]++[z],T,by simp,by simp at e ⊢;omega,by rw[<-g];simp,by simp,ue (R:=lE r) (λp q=>C.tr p q) k w⟩
 ·obtain⟨rfl,a,b,rfl,g,l,k,B⟩:=h
  exact q a b g l k B
theorem Im (C:Cmp M A E s kd S r)(j:kindOf st=kd){D:List Keyed}(l:∀x∈D++R,S x)(hx:xs.toList=P++(D++R))(h1:0 < D.length)(o:D.Pairwise (lG r)){a:Nat}(hn:a=D.length + R.length)(hd:n=D.length){Q:Option Nat->SortSt->Prop}{f:(Option (Option Nat) × Nat)->SM (Option Nat)}(p:∀n st,Q (some n) st->wpS M A E s (f (none,n)) Q st)
  (q:∀ys b d,ys.toList=P++(b++d)->b++d=D.reverse++R->0 < b.length->b.Pairwise (lE r)->Q (some b.length) (setArr st ys)) :
  wpS M A E s (reverseSlice' P.length (P.length + n) >>= λ_=>forIn [n:a] ((none,n):Option (Option Nat) × Nat) (λ_ c=>xS P.length c.2) >>= f) Q (setArr st xs):=by
 subst hd;refine x4 (ud hx rfl rfl λys i => ?_);have e:D.reverse.length=D.length:=List.length_reverse;rw[<-e];refine C5 C j (λx hx=>l x ?_) i (by rw[e];exact h1) (List.pairwise_reverse.mpr o) (by rw[e];exact hn) λb d g k m _=>p _ _ (q ys b d (by rw[i,g]) g k m);rcases List.mem_append.mp hx with h|h
 ·exact WI _ (List.mem_reverse.mp h)
 ·exact Z5 _ h
structure DI (r:Keyed->Keyed->Bool) (P W:List Keyed) (ys:Array Keyed) (n q:Nat) (D1 D2 R:List Keyed):Prop where
 hy:ys.toList=P++(D1++D2++R)
 hn:n=D1.length + D2.length
 hq:D2.length=q + 1
 so:(D1++D2).Pairwise (lG r)
 eq:∀x∈D2,∀y∈D2,r x y=false
 lt:∀b∈D2,∀a∈D1,r b a=true
 pm:Stb r (D1.reverse++(D2++R)) W
theorem zX {l:List Keyed}(h:l.length=q + 1)(z:q=0):l.reverse=l:=by
 subst z;obtain⟨a,rfl⟩:=List.length_eq_one_iff.mp h;rfl
theorem DI.pw {W:List Keyed}{D1 D2:List Keyed}(d:DI r P W ys n q D1 D2 R):(D1++D2.reverse).Pairwise (lG r):=by
 have c:=Z8.mp d.so;exact Z8.mpr ⟨c.1,List.Pairwise.imp_of_mem (R:=λ_ _=>True) (λ{a b} h f _=>d.eq a (List.mem_reverse.mp h) b (List.mem_reverse.mp f)) (List.pairwise_of_forall λ_ _=>trivial),λx g y e=>c.2.2 x g y (List.mem_reverse.mp e)⟩
theorem DI.turn (C:Cmp M A E s kd S r){W:List Keyed}{D1 D2:List Keyed}(d:DI r P W ys n q D1 D2 R):Stb r ((D1++D2.reverse).reverse++R) W:=by
 rw[List.reverse_append,W5];refine((Stb.flip (r:=r) C.tr λb c a e=>d.lt b c a (List.mem_reverse.mp e)).append_right R).trans ?_;rw[ZU];exact d.pm
theorem DI.down (C:Cmp M A E s kd S r){W:List Keyed}{zs:Array Keyed}{D1 D2:List Keyed}{h:Keyed}(d:DI r P W ys n q D1 D2 (h :: R))(hz:zs.toList=P++(D1++D2.reverse++(h :: R)))(hy:y∈D2)(w:r h y=true):DI r P W zs (n + 1) 0 (D1++D2.reverse) [h] R:=by
 have lt:∀a∈D1++D2.reverse,r h a=true:=λa c=>by
  cases z:r h a with
  | true=>rfl
  | false =>
   rcases List.mem_append.mp c with c|c
   ·have:=d.lt y hy a c
    rw[C.tr z (C.asym w)]at this;cases this
   ·rw[C.tr (d.eq a (List.mem_reverse.mp c) y hy) z]at w
    cases w
 refine⟨by rw[hz];simp,by rw[d.hn];simp,rfl,Z8.mpr ⟨d.pw,Y1 _ _,λx e z hz => ?_⟩,λx e z hz => ?_,λb f a c => ?_,d.turn C⟩
 ·rw[YL.mp hz];exact C.asym (lt x e)
 ·rw[YL]at e hz;subst e hz;exact C.refl _
 ·rw[YL.mp f];exact lt a c
theorem DI.same (C:Cmp M A E s kd S r){W:List Keyed}{D1 D2:List Keyed}{h:Keyed}(d:DI r P W ys n q D1 D2 (h :: R))(hy:y∈D2)(w:r y h=false)(k:r h y=false):DI r P W ys (n + 1) (q + 1) D1 (D2++[h]) R:=by
 have l:=Z8.mp d.so;have i:∀x∈D2,r x h=false:=λx c=>C.tr w (d.eq x c y hy);have j:∀x∈D2,r h x=false:=λx c=>C.tr (d.eq y hy x c) k;refine⟨by rw[d.hy];simp,by rw[d.hn];simp;omega,by simp[d.hq],?_,λx c z e => ?_,λb f a g => ?_,by simpa using d.pm⟩
 ·rw[<-ZU]
  refine Z8.mpr ⟨d.so,Y1 _ _,λx c z e => ?_⟩;rw[YL]at e;subst e;rcases List.mem_append.mp c with c|c
  ·exact C.tr w (l.2.2 x c y hy)
  ·exact i x c
 ·rcases List.mem_append.mp c with c|c<;>rcases List.mem_append.mp e with e|e
  ·exact d.eq x c z e
  ·rw[YL]at e;rw[e];exact i x (by assumption)
  ·rw[YL]at c;rw[c];exact j z (by assumption)
  ·rw[YL]at c e;subst c e;exact C.refl _
 ·rcases List.mem_append.mp f with f|f
  ·exact d.lt b f a g
  ·rw[YL.mp f]
   cases z:r h a with
   | true=>rfl
   | false =>
    have:=d.lt y hy a g;rw[C.tr z w]at this;cases this
theorem C7 (C:Cmp M A E s kd S r)(t:kindOf st=kd){D W:List Keyed}{z:Keyed}(J:∀x∈W,S x)(hx:xs.toList=P++(D++(z :: R)))(hp:Stb r (D.reverse++(z :: R)) W)(p:∀a∈D,r z a=true)(V:(D++[z]).Pairwise (lG r)){k:Nat}(hn:k=W.length)(hd:n=D.length){Q:Option Nat->SortSt->Prop}{g:(Option (Option Nat) × Nat × Nat)->SM (Option Nat)}
  (O:∀ys D1 D2 f n q,DI r P W ys n q D1 D2 f->wpS M A E s (g (none,n,q)) Q (setArr st ys)) :
  wpS M A E s (liftM (rule "list.sort.descending-run") >>= λ_=>forIn [n + 1:k] ((none,n + 1,0):Option (Option Nat) × Nat × Nat) (λ_ c=>Il P.length c.2.1 c.2.2) >>= g) Q (setArr st xs):=by
 subst hd;have Z:DI r P W xs (D.length + 1) 0 D [z] R:=⟨by rw[hx];simp,rfl,rfl,V,λx hx y H=>by rw[YL]at hx H;subst hx H;exact C.refl _,λb U a K=>by rw[YL.mp U];exact p a K,hp⟩;refine x4 (iD (x4 (WF (YU (I:=λi c e=>∃ys D1 D2 f n q,e=setArr st ys/\c=(none,n,q)/\i=n/\DI r P W ys n q D1 D2 f)
  (Q:=λc e=>∃ys D1 D2 f n q,e=setArr st ys/\c=(none,n,q)/\DI r P W ys n q D1 D2 f) ?l ?fin ⟨xs,D,[z],R,D.length + 1,0,rfl,rfl,rfl,Z⟩) λc e h => ?_)))
 case fin =>
  rintro c e ⟨ys,D1,D2,f,n,q,rfl,rfl,_,d⟩;exact⟨ys,D1,D2,f,n,q,rfl,rfl,d⟩
 case l =>
  rintro i c e _ hi ⟨ys,D1,D2,f,n,q,rfl,rfl,rfl,d⟩;have u:=d.pm.length_eq;have j:=d.hn;simp at u;have L:0 < D2.length:=by rw[d.hq];omega
  cases f with
  | nil=>simp at u;omega
  | cons h T =>
   have mem:∀w,w∈D1++D2++(h :: T)->S w:=λw hw=>J w (d.pm.mem_iff.mp (by simpa using hw));obtain⟨F,y,o⟩:=kL L;have m:y∈D2:=by rw[o];simp
   have v:ys[P.length + i]? = some h:=by
    have:=o5 (P:=P) (D:=D1++D2) d.hy;rw[ZB,<-j]at this;exact this
   have G:ys[P.length + i - 1]? = some y:=by
    have:=xT (P:=P) (F:=D1++F) (y:=y) (R:=h :: T) (xs:=ys) (by rw[d.hy,o];simp);rw[<-this];congr 1;rw[j,o];simp;omega
   show wpS M A E s (Il P.length i q) _ _;unfold Il;refine x4 (vZ C t v G (mem h (by simp)) (mem y (by simp[m])) ?_);dsimp only;cases w:r h y with
   | true =>
    rw[yD rfl];refine dq (λ_ => ?_) λcq => ?_
    ·refine x4 (ud (P:=P++D1) (B:=D2) (R:=h :: T) (by rw[d.hy];simp only[ZU]) (by rw[ZB,j,d.hq];omega) (by rw[ZB,j];omega) λN X=>v3 ?_)
     exact⟨N,D1++D2.reverse,[h],T,i + 1,0,rfl,rfl,rfl,d.down C (by rw[X];simp only[ZU]) m w⟩
    ·exact v3 ⟨ys,D1++D2.reverse,[h],T,i + 1,0,rfl,rfl,rfl,d.down C (by rw[zX d.hq (by omega),d.hy]) m w⟩
   | false =>
    rw[x3 Z0];refine x4 (vZ C t G v (mem y (by simp[m])) (mem h (by simp)) ?_);dsimp only;cases w2:r y h with
    | true=>rw[yD rfl];exact v3 ⟨ys,D1,D2,h :: T,i,q,rfl,rfl,d⟩
    | false=>rw[x3 Z0];exact v3 ⟨ys,D1,D2++[h],T,i + 1,q + 1,rfl,rfl,rfl,d.same C m w2 w⟩
 ·obtain⟨ys,D1,D2,f,n,Y,rfl,rfl,d⟩:=h
  exact O ys D1 D2 f n Y d
theorem C8 (C:Cmp M A E s kd S r)(m:kindOf st=kd){W:List Keyed}(k:∀x∈W,S x){a:Nat}(hn:a=W.length){Q:Option Nat->SortSt->Prop}{D1 D2 b:List Keyed}{j:Nat}(d:DI r P W ys n j D1 D2 b){f:(Option (Option Nat) × Nat)->SM (Option Nat)}(y:∀n st,Q (some n) st->wpS M A E s (f (none,n)) Q st)
  (q:∀ys e b,ys.toList=P++(e++b)->Stb r (e++b) W->0 < e.length->e.Pairwise (lE r)->Q (some e.length) (setArr st ys)) :
  wpS M A E s (if j > 0 then (reverseSlice' (P.length + n - (j + 1)) (P.length + n) >>= λ_=>reverseSlice' P.length (P.length + n) >>= λ_=>forIn [n:a] ((none,n):Option (Option Nat) × Nat) (λ_ c=>xS P.length c.2) >>= f)
   else (reverseSlice' P.length (P.length + n) >>= λ_=>forIn [n:a] ((none,n):Option (Option Nat) × Nat) (λ_ c=>xS P.length c.2) >>= f)) Q (setArr st ys):=by
 have l:=d.pm.length_eq;have z:0 < D2.length:=by rw[d.hq];omega
 have g:=d.hn;have v:a=(D1++D2.reverse).length + b.length:=by rw[hn,<-l];simp;omega
 have mem:∀w,w∈D1++D2.reverse++b->S w:=λw hw=>k w (d.pm.mem_iff.mp (by simpa using hw));have go:∀{h:Array Keyed},h.toList=P++(D1++D2.reverse++b)->wpS M A E s (reverseSlice' P.length (P.length + n) >>= λ_=>forIn [n:a] ((none,n):Option (Option Nat) × Nat) (λ_ c=>xS P.length c.2) >>= f) Q (setArr st h):=λ{h} i =>
  Im C m mem i (by simp;omega) d.pw v (by rw[g];simp) y λys e R2 p o u t=>q ys e R2 p (by rw[o];exact d.turn C) u t
 refine dq (λ_ => ?_) λD => ?_
 ·refine x4 (ud (P:=P++D1) (B:=D2) (R:=b) (by rw[d.hy];simp only[ZU]) (by rw[ZB,g,d.hq];omega) (by rw[ZB,g];omega) λh i=>go (by rw[i];simp only[ZU]))
 ·exact go (by rw[zX d.hq (by omega),d.hy])
theorem JW (C:Cmp M A E s kd S r)(m:kindOf st=kd){W:List Keyed}(l:∀x∈W,S x)(hx:xs.toList=P++W)(h1:0 < W.length){Q:Option Nat->SortSt->Prop}
  (q:∀ys e j,ys.toList=P++(e++j)->Stb r (e++j) W->0 < e.length->e.Pairwise (lE r)->Q (some e.length) (setArr st ys)):wpS M A E s (countRun' P.length W.length) Q (setArr st xs):=by
 obtain⟨H,K,rfl⟩ : ∃H K,W=H :: K:=by cases W with|nil=>simp at h1|cons a b=>exact⟨a,b,rfl⟩
 rw[countRun'_eq];refine C5 (D:=[H]) (R:=K) C m l hx (by simp) (Y1 _ _) (by simp;omega) (f:=_) λe j L G t U => ?_;dsimp only;have g:xs.toList=P++(e++j):=by rw[hx,L];rfl
 have o:Stb r (e++j) (H :: K):=by rw[L];exact Stb.refl _
 have N:=congrArg List.length L;simp at N;refine dq (λc=>v3 (q xs e j g o G t)) λc => ?_;cases j with
 | nil=>simp at c N;omega
 | cons z T =>
  obtain⟨F,y,B⟩:=kL G;have w:=U y z F T B rfl;have mem:∀v,v∈e++(z :: T)->S v:=λv X=>l v (o.mem_iff.mp X);have O:xs[P.length + e.length - 1]? = some y:=by
   have:=xT (P:=P) (F:=F) (y:=y) (R:=z :: T) (xs:=xs) (by rw[g,B]);rw[<-this,B];simp
  refine dq (λZ => ?_) λZ => ?_
  ·obtain⟨k,D2,u⟩ : ∃k D2,e=k :: D2:=by cases e with|nil=>simp at G|cons a b=>exact⟨a,b,rfl⟩
   have ex:xs[P.length]? = some k:=by
    have:=o5 (P:=P) (D:=[]) (x:=k) (R:=D2++(z :: T)) (xs:=xs) (by rw[g,u];rfl);simpa using this
   refine x4 (vZ C m ex O (mem k (by rw[u];simp)) (mem y (by rw[B];simp)) ?_);dsimp only;cases w2:r k y with
   | true=>rw[yD rfl];exact v3 (q xs e (z :: T) g o G t)
   | false =>
    rw[x3 Z0];refine x4 (ud g rfl rfl λys V => ?_);have I:r z k=true:=by
     cases h:r z k with
     | true=>rfl
     | false=>rw[C.tr w2 h]at w;cases w
    refine C7 (D:=e.reverse) C m l V (by rw[W5];exact o) (λa i => ?_) ?_ rfl (by simp) λys D1 D2 j n Y d=>C8 C m l rfl d (λn st h=>v3 h) q
    ·cases za:r z a with
     | true=>rfl
     | false =>
      have i:=List.mem_reverse.mp i;rw[u]at i t;rcases VI.mp i with rfl|i
      ·rw[I]at za;cases za
      ·rw[C.tr ((List.pairwise_cons.mp t).1 a i) za]at I;cases I
    rw[u,List.reverse_cons];refine ue (R:=lG r) (λp q=>C.tr q p) ?_ (C.asym I);rw[<-List.reverse_cons,<-u];exact List.pairwise_reverse.mpr t
  ·have J:e=[y]:=by
    have:e.length=1:=by omega
    rw[B]at this ⊢;have:F=[]:=by simpa using this
    rw[this];rfl
   refine C7 (D:=e) C m l g (by rw[J];rw[J]at o;exact o) (λa i=>by rw[J]at i;rw[YL.mp i];exact w) ?_ rfl rfl λys D1 D2 j n Y d=>C8 C m l rfl d (λn st h=>v3 h) q;rw[J];exact ue (R:=lG r) (D:=[]) (λp q=>C.tr q p) (Y1 _ _) (C.asym w)
end
section
variable {M:Model} {A:T2} {E:T0->T1->Prop} {s:T1} {kd:SortKind} {S:Keyed->Prop} {r:Keyed->Keyed->Bool} {st:SortSt}
theorem Io {α : Type}{xs:Array α}{P B R:List α}{x : α}(h:xs.toList=P++(B++(x :: R))){i d:Nat}(hi:i=P.length + B.length)(hd:d=B.length):(bubble xs i d).toList=P++(x :: (B++R)):=by
 have sz:xs.size=P.length + (B.length + (R.length + 1)):=by rw[<-Array.length_toList,h];simp
 subst hi hd;apply YB;intro k;rw[Array.getElem?_toList,getElem?_bubble (by omega) _ (by omega),show P.length + B.length - B.length=P.length by omega]
 by_cases c:k=P.length
 ·rw[yD c,<-Array.getElem?_toList,h,c,ZD (by omega),ZD (by omega),ZD (by omega)]
  simp
 ·rw[x3 c]
  by_cases c2:P.length < k/\k<=P.length + B.length
  ·rw[yD c2,<-Array.getElem?_toList,h,ZD (by omega),ZC (by omega),ZD (by omega)]
   obtain⟨m,a⟩ : ∃m,k=P.length + (m + 1):=⟨k - P.length - 1,by omega⟩;subst a;rw[show P.length + (m + 1) - P.length=m + 1 by omega,List.getElem?_cons_succ,ZC (by omega)];congr 1;omega
  ·rw[x3 c2,<-Array.getElem?_toList,h]
   by_cases c3:k < P.length
   ·rw[ZC c3,ZC c3]
   ·obtain⟨m,a⟩ : ∃m,k=P.length + (B.length + (m + 1)):=⟨k - P.length - B.length - 1,by omega⟩
    subst a;rw[ZD (by omega),ZD (by omega),ZD (by omega)];rw[show P.length + (B.length + (m + 1)) - P.length - B.length=m + 1 by omega,List.getElem?_cons_succ,show P.length + (B.length + (m + 1)) - P.length=(B.length + m) + 1 by omega,List.getElem?_cons_succ,ZD (by omega)];congr 1;omega
def JX (lo k l u:Nat):SM (ForInStep (Option Bool × Nat × Nat)):=do
 let some e <-ltAt' (lo + k) (lo + (l + u) / 2)|pure (.done (some false,l,u))
 if e then pure (.yield (none,l,(l + u) / 2)) else pure (.yield (none,(l + u) / 2 + 1,u))
theorem JY (C:Cmp M A E s kd S r)(hk:kindOf st=kd){W:List Keyed}(SW:∀x∈W,S x){D:List Keyed}(hx:xs.toList=P++(D++R))(pm:Stb r (D++R) W)(h1:0 < D.length)(sD:D.Pairwise (lE r))(hn:D.length<=n)(a3:n<=W.length){Q:Bool->SortSt->Prop}
  (q:∀ys f j,ys.toList=P++(f++j)->Stb r (f++j) W->f.length=n->f.Pairwise (lE r)->Q true (setArr st ys)):wpS M A E s (binarySort' P.length n D.length) Q (setArr st xs):=by
 rw[binarySort'_eq];refine x4 (WF (YU (I:=λk c g=>∃ys f j,g=setArr st ys/\c=(none,())/\ys.toList=P++(f++j)/\Stb r (f++j) W/\f.length=k/\f.Pairwise (lE r))
  (Q:=λc g=>∃ys f j,g=setArr st ys/\c=(none,())/\ys.toList=P++(f++j)/\Stb r (f++j) W/\f.length=n/\f.Pairwise (lE r)) ?J ?fin ⟨xs,D,R,rfl,rfl,hx,pm,by omega,sD⟩) λc g h => ?_)
 case fin =>
  rintro c g ⟨ys,f,j,rfl,rfl,t,p,O,v⟩;exact⟨ys,f,j,rfl,rfl,t,p,by omega,v⟩
 case J =>
  rintro k c g a0 a1 ⟨ys,f,j,rfl,rfl,t,p,O,v⟩;have X:=p.length_eq;simp at X;cases j with
  | nil=>simp at X;omega
  | cons x T =>
   have mem:∀w,w∈f++(x :: T)->S w:=λw hw=>SW w (p.mem_iff.mp hw);have ex:ys[P.length + k]? = some x:=by have:=o5 t;rw[O]at this;exact this
   refine x4 (WF (YU (I:=λi c g=>g=setArr st ys/\∃l u,c=(none,l,u)/\l<=u/\u<=k/\(∀d (hd:d < f.length),d < l->lE r f[d] x)/\(∀d (hd:d < f.length),u<=d->r x f[d] = true)/\u - l + i<=k)
    (Q:=λc g=>g=setArr st ys/\∃l,c=(none,l,l)/\l<=k/\(∀d (hd:d < f.length),d < l->lE r f[d] x)/\(∀d (hd:d < f.length),l<=d->r x f[d] = true)) ?s2 ?f2 ⟨rfl,0,k,rfl,YG _,ZL _,λd hd h=>absurd h (XC _),λd hd h=>by omega,by omega⟩) λc g h => ?_)
   case f2 =>
    rintro c g ⟨rfl,l,u,rfl,g1,K,G,o,g5⟩;have:l=u:=by omega
    subst this;exact⟨rfl,l,rfl,K,G,o⟩
   case s2 =>
    rintro i c g _ _ ⟨rfl,l,u,rfl,g1,K,G,o,g5⟩;dsimp only
    by_cases Z:l ≥ u
    ·rw[yD Z]
     have:l=u:=by omega
     subst this;exact v3 ⟨rfl,l,rfl,K,G,o⟩
    ·rw[x3 Z]
     have L:(l + u) / 2 < f.length:=by omega
     have em:ys[P.length + (l + u) / 2]? = some (f[(l + u) / 2]):=by
      rw[pW t _ L];exact ZE L
     show wpS M A E s (JX P.length k l u) _ _;unfold JX;refine x4 (vZ C hk ex em (mem x (by simp)) (mem _ (WI _ (YE L))) ?_);dsimp only;have m:∀d e (hd:d < f.length) (Y:e < f.length),d<=e->lE r f[d] f[e]:=λd e hd Y a2=>by
      by_cases z:d=e
      ·subst z;exact C.refl _
      ·exact List.pairwise_iff_getElem.mp v d e hd Y (by omega)
     cases w:r x f[(l + u) / 2] with
     | true =>
      rw[yD rfl];refine v3 ⟨rfl,l,(l + u) / 2,rfl,by omega,by omega,G,λd hd h => ?_,by omega⟩;cases w2:r x f[d] with
      | true=>rfl
      | false=>rw[C.tr (m _ d L hd h) w2]at w;cases w
     | false =>
      rw[x3 Z0];exact v3 ⟨rfl,(l + u) / 2 + 1,u,rfl,by omega,K,λd hd h=>C.tr (m d _ hd L (by omega)) w,o,by omega⟩
   ·obtain⟨rfl,l,rfl,K,G,o⟩:=h
    dsimp only;rw[moveDown'_eq];have lk:l<=f.length:=by omega
    have H:f=f.take l++f.drop l:=(YO l f).symm;have tl:(f.take l).length=l:=by simp;omega
    have U:=Io (xs:=ys) (P:=P++f.take l) (B:=f.drop l) (x:=x) (R:=T) (i:=P.length + k) (d:=P.length + k - (P.length + l)) (by
     rw[t];conv=>lhs;rw[H]
     simp only[ZU]) (by simp;omega) (by simp;omega)
    have N:=v;rw[H,Z8]at N;refine x4 (X4 (v3 ⟨_,f.take l++(x :: f.drop l),T,rfl,rfl,by rw[U];simp only[ZU,W7],?_,by simp;omega,?_⟩))
    ·refine Stb.trans ?_ p
     have fl:Stb r ([x]++f.drop l) (f.drop l++[x]):=Stb.flip (r:=r) C.tr λb U a ha=>by
      obtain⟨d,hd,e⟩:=List.mem_drop_iff_getElem.mp ha;rw[YL.mp U,<-e];exact o (l + d) (by omega) (by omega)
     have:=(fl.append_left (f.take l)).append_right T;rw[<-ZU (f.take l) (f.drop l),YO]at this;simpa using this
    ·rw[Z8]
     have dm:∀y∈f.drop l,lE r x y:=λy F=>by
      obtain⟨d,hd,e⟩:=List.mem_drop_iff_getElem.mp F;rw[<-e];exact C.asym (o (l + d) (by omega) (by omega))
     have tm:∀y∈f.take l,lE r y x:=λy F=>by
      obtain⟨d,hd,e⟩:=List.mem_take_iff_getElem.mp F;rw[<-e];exact G d (by omega) (by omega)
     refine⟨N.1,List.pairwise_cons.mpr ⟨dm,N.2.1⟩,λy F z V => ?_⟩;rcases VI.mp V with rfl|V
     ·exact tm y F
     ·exact N.2.2 y F z V
 ·obtain⟨ys,f,j,rfl,rfl,t,p,O,v⟩:=h
  exact v3 (q ys f j t p O v)
end
section
variable {M:Model} {A:T2} {E:T0->T1->Prop} {s:T1} {kd:SortKind} {S:Keyed->Prop} {r:Keyed->Keyed->Bool} {st:SortSt}
inductive Rn (r:Keyed->Keyed->Bool):Nat->List (List Keyed)->List (Nat × Nat × Nat)->Prop
 | nil (b:Nat):Rn r b [] []
 | cons {b e:Nat} {D:List Keyed} {Ds:List (List Keyed)} {ps:List (Nat × Nat × Nat)}:D≠[]->D.Pairwise (lE r)->Rn r (b + D.length) Ds ps->Rn r b (D :: Ds) ((b,D.length,e) :: ps)
theorem Rn.split {ps:List (Nat × Nat × Nat)}:∀{i b:Nat} {k:List (List Keyed)} {ps:List (Nat × Nat × Nat)},Rn r b k ps->i < ps.length->∃a g c d,k=a++g/\ps=c++d/\c.length=i/\Rn r (b + a.flatten.length) g d/\∀j f,Rn r (b + a.flatten.length) j f->Rn r b (a++j) (c++f)
 | 0,b,k,ps,h,_=>⟨[],k,[],ps,rfl,rfl,rfl,h,λ_ _ h=>h⟩
 | i + 1,b,_,_,.nil _,hi=>by simp at hi
 | i + 1,b,_,_,.cons (D:=D) (e:=e) nD sD h,hi=>by
  obtain⟨a,g,c,d,o,m,q,p,n⟩:=Rn.split (ps:=[]) (i:=i) h (by simpa using hi);refine⟨D :: a,g,(b,D.length,e) :: c,d,by rw[o];rfl,by rw[m];rfl,by simp[q],?_,λj f l=>.cons nD sD (n j f ?_)⟩
  ·rw[YZ,ZB,<-Nat.add_assoc];exact p
  ·rw[YZ,ZB,<-Nat.add_assoc]at l;exact l
theorem Rn.len {b:Nat}{a:List (List Keyed)}{ps:List (Nat × Nat × Nat)}(h:Rn r b a ps):ps.length=a.length/\ps.length<=a.flatten.length:=by
 induction h with
 | nil=>simp
 | @cons b e D a ps nD sD h ih =>
  have:=List.length_pos_iff.mpr nD;simp;simp at ih;omega
theorem Rn.snoc {e:Nat}{D:List Keyed}(c:D≠[])(d:D.Pairwise (lE r)){b:Nat}{a:List (List Keyed)}{ps:List (Nat × Nat × Nat)}(h:Rn r b a ps):Rn r b (a++[D]) (ps++[(b + a.flatten.length,D.length,e)]):=by
 induction h with
 | nil b=>exact .cons c d (.nil _)
 | @cons b e' D' a ps nD' sD' h ih =>
  refine .cons nD' sD' ?_;rw[YZ,ZB,<-Nat.add_assoc];exact ih
theorem Rn.mod {w:Nat}{b:Nat}{a:List (List Keyed)}{ps:List (Nat × Nat × Nat)}(h:Rn r b a ps):∀i,Rn r b a (ps.modify i λq=>(q.1,q.2.1,w)):=by
 induction h with
 | nil b=>intro i;cases i<;>exact .nil _
 | @cons b e' D' a ps nD' sD' h ih =>
  intro i;cases i with
  | zero=>exact .cons nD' sD' h
  | succ i=>exact .cons nD' sD' (ih i)
structure SI (r:Keyed->Keyed->Bool) (a0 W:List Keyed) (xs:Array Keyed) (pd:Array (Nat × Nat × Nat)) (Ds:List (List Keyed)):Prop where
 hx:xs.toList=Ds.flatten++W
 rn:Rn r 0 Ds pd.toList
 pm:Stb r xs.toList a0
abbrev sta (kd:SortKind) (xs:Array Keyed) (pd:Array (Nat × Nat × Nat)) (g:Nat):SortSt:=SortSt.mk' kd xs pd g none
theorem Gm (C:Cmp M A E s kd S r){a0 W:List Keyed}(S0:∀x∈a0,S x){c:Array (Nat × Nat × Nat)}{G:List (List Keyed)}{g i:Nat}(h:SI r a0 W xs c G)(hi:i + 1 < c.size){Q:Bool->SortSt->Prop}
  (q:∀j d k g',SI r a0 W j d k->d.size + 1=c.size->k.flatten.length=G.flatten.length->Q true (sta kd j d g')):wpS M A E s (mergeAt' i) Q (sta kd xs c g):=by
 obtain⟨a,I,f,o,v,m,p,B,u⟩:=Rn.split (ps:=[]) (i:=i) h.rn (by simp;omega);rw[Z3]at B u;have n:c.size=f.length + o.length:=by rw[<-Array.length_toList,m,ZB]
 cases B with
 | nil=>simp at n;omega
 | @cons _ e X Ds3 ps3 nX sX h3 =>
  cases h3 with
  | nil=>simp at n;omega
  | @cons _ e' Y Ds4 ps4 nY sY h4 =>
   have b:xs.toList=a.flatten++(X++(Y++(Ds4.flatten++W))):=by rw[h.hx,v];simp
   have mem:∀x∈xs.toList,S x:=λx H=>S0 x (h.pm.mem_iff.mp H);have K:c[i]? = some (a.flatten.length,X.length,e):=by
    rw[<-Array.getElem?_toList,m,ZD (by omega),p];simp
   have p2:c[i + 1]? = some (a.flatten.length + X.length,Y.length,e'):=by
    rw[<-Array.getElem?_toList,m,ZD (by omega),p];simp
   refine Ij (st:=sta kd xs c g) C rfl rfl b K p2 (λy t=>mem y (by rw[b];simp[t])) (λy t=>mem y (by rw[b];simp[t])) sX sY nX nY λZ J ys F L D => ?_;have l:Z.length=X.length + Y.length:=by rw[F.length_eq,ZB]
   have w:((c.setIfInBounds i (a.flatten.length,X.length + Y.length,e)).eraseIdxIfInBounds (i + 1)).toList=f++(a.flatten.length,Z.length,e) :: ps4:=by
    rw[Array.toList_eraseIdxIfInBounds,Array.toList_setIfInBounds,m,<-p,l];simp[List.set_append,List.eraseIdx_append];intro z;omega
   refine q ys _ (a++Z :: Ds4) J ⟨by rw[D];simp,?_,?_⟩ ?_ ?_
   ·show Rn r 0 _ (Array.toList _)
    rw[w];refine u (Z :: Ds4) _ (.cons ?_ L ?_)
    ·intro z;rw[z]at l;have:=List.length_pos_iff.mpr nX;simp at l;omega
    ·rw[l,<-Nat.add_assoc];exact h4
   ·refine Stb.trans ?_ h.pm
    rw[D,b];refine Stb.append_left _ ?_;have:=F.append_right (Ds4.flatten++W);simpa only[ZU] using this
   ·have:=congrArg List.length w
    rw[YC]at this;show (Array.size _) + 1=_;rw[this,n];simp;omega
   ·rw[v];simp[l];omega
def mB (pw:Nat):SM (ForInStep (Option Unit × Unit)):=do
 let st <-get
 let some (_,_,older):=(if (pendingOf st).size > 1 then (pendingOf st)[(pendingOf st).size - 2]? else none)|pure (.done (none,()))
 if older<=pw then pure (.done (none,()))
 else do
  let b <-mergeAt' ((pendingOf st).size - 2)
  if !b then pure (.done (some (),())) else pure (.yield (none,()))
theorem C9 (C:Cmp M A E s kd S r){a0 W:List Keyed}(S0:∀x∈a0,S x){v:Array (Nat × Nat × Nat)}{m:List (List Keyed)}{g:Nat}(h:SI r a0 W xs v m){k w:Nat}{β : Type}{K:(Option Unit × Unit)->SM β}{Q : β->SortSt->Prop}
  (q:∀b a d g',SI r a0 W b a d->d.flatten.length=m.flatten.length->wpS M A E s (K (none,())) Q (sta kd b a g')):wpS M A E s (forIn [:k] ((none,()):Option Unit × Unit) (λ_ _=>mB w) >>= K) Q (sta kd xs v g):=by
 refine x4 (WF (YU (I:=λ_ c f=>∃b a d g',f=sta kd b a g'/\c=(none,())/\SI r a0 W b a d/\d.flatten.length=m.flatten.length)
  (Q:=λc f=>∃b a d g',f=sta kd b a g'/\c=(none,())/\SI r a0 W b a d/\d.flatten.length=m.flatten.length) ?step ?fin ⟨xs,v,m,g,rfl,rfl,h,rfl⟩) λc f h => ?_)
 case fin=>exact λc f h=>h
 case step =>
  rintro i c f _ _ ⟨b,a,d,g',rfl,rfl,l,j⟩;unfold mB;refine x4 (V2 ?_)
  by_cases c:a.size > 1
  ·have e:(if (pendingOf (sta kd b a g')).size > 1 then (pendingOf (sta kd b a g'))[(pendingOf (sta kd b a g')).size - 2]? else none)=some (a[a.size - 2]'(by omega)):=by
    rw[yD c];exact Array.getElem?_eq_getElem (show a.size - 2 < a.size by omega)
   rw[e];refine dq (λ_=>v3 ⟨b,a,d,g',rfl,rfl,l,j⟩) λ_ => ?_;refine x4 (Gm (i:=a.size - 2) C S0 l (by omega) λu n p y t _ o => ?_);exact v3 ⟨u,n,p,y,rfl,rfl,t,o.trans j⟩
  ·have e:(if (pendingOf (sta kd b a g')).size > 1 then (pendingOf (sta kd b a g'))[(pendingOf (sta kd b a g')).size - 2]? else none)=none:=x3 c
   rw[e];exact v3 ⟨b,a,d,g',rfl,rfl,l,j⟩
 ·obtain⟨b,a,d,g',rfl,rfl,l,j⟩:=h
  exact q b a d g' l j
theorem Fg (C:Cmp M A E s kd S r){a0:Array Keyed}(S0:∀x∈a0.toList,S x)(h1:0 < a0.size){g0:Nat}{Q:Unit->SortSt->Prop}
  (q:∀xs a g,Stb r xs.toList a0.toList->xs.toList.Pairwise (lE r)->Q () (sta kd xs a g)):wpS M A E s sortRuns' Q (sta kd a0 #[] g0):=by
 obtain⟨k,K⟩ : ∃l,l=a0.toList:=⟨_,rfl⟩;rw[sortRuns'_eq];refine x4 (V2 ?_);have b0:a0.size=k.length:=by rw[K];simp
 have a7:SI r k k a0 #[] []:=⟨by rw[K];rfl,.nil 0,by rw[K];exact Stb.refl _⟩;rw[<-K]at S0;show wpS M A E s (forIn [:a0.size] ((none,0):Option Unit × Nat) _ >>= _) _ _;refine x4 (WF (YU (I:=λi c f=>∃xs a b W g,f=sta kd xs a g/\c=(none,b.flatten.length)/\SI r k W xs a b/\i<=b.flatten.length)
  (Q:=λc f=>∃xs a b g,f=sta kd xs a g/\c=(none,b.flatten.length)/\SI r k [] xs a b) ?step ?fin ⟨a0,#[],[],k,g0,rfl,rfl,a7,YG _⟩) λc f h => ?_)
 case fin =>
  rintro c f ⟨xs,a,b,W,g,rfl,rfl,d,N⟩;have m:=d.pm.length_eq;rw[d.hx,ZB]at m;have:W=[]:=List.length_eq_zero_iff.mp (by omega);subst this;exact⟨xs,a,b,g,rfl,rfl,d⟩
 case step =>
  rintro i c f _ hi ⟨xs,a,b,W,g,rfl,rfl,d,N⟩;have m:=d.pm.length_eq;rw[d.hx,ZB]at m;refine dq (λc=>v3 ?_) λc => ?_
  ·have c:b.flatten.length ≥ a0.size:=c
   have:W=[]:=List.length_eq_zero_iff.mp (by omega);subst this;exact⟨xs,a,b,g,rfl,rfl,d⟩
  ·have c : ¬b.flatten.length ≥ a0.size:=c
   have e:a0.size - b.flatten.length=W.length:=by omega
   have SW:∀x∈W,S x:=λx hx=>S0 x (d.pm.mem_iff.mp (by rw[d.hx];exact Z5 _ hx));show wpS M A E s (countRun' b.flatten.length (a0.size - b.flatten.length) >>= _) _ _;rw[e];refine x4 (JW (st:=sta kd xs a g) C rfl SW d.hx (by omega) λys D R hy Y l0 sD => ?_);dsimp only;have X:=Y.length_eq;rw[ZB]at X;have pY:∀{zs:Array Keyed} {D2 R2:List Keyed},zs.toList=b.flatten++(D2++R2)->Stb r (D2++R2) W->Stb r zs.toList xs.toList:=λ{zs D2 R2} h1 h2=>by rw[h1,d.hx];exact h2.append_left _
   refine dq (λc2 => ?_) λc2 => ?_
   ·obtain⟨G,Z⟩ : ∃G,G=min W.length (minRun' (arrOf (sta kd a0 #[] g0)).size (arrOf (sta kd a0 #[] g0)).size 0):=⟨_,rfl⟩
    refine x4 (iD ?_);rw[<-Z];refine x4 (JY (st:=sta kd xs a g) C rfl SW hy Y l0 sD (n:=G) (by omega) (by omega) λYY u U H a3 J L => ?_);have j:G=u.length:=J.symm;have v:u≠[]:=λz=>by rw[z]at J;simp at J;omega
    have O:=pY H a3;refine dq (λz=>by simp at z) λ_ => ?_;have B:SI r k (u++U) YY a b:=⟨H,d.rn,O.trans d.pm⟩;have lD:=List.length_pos_iff.mpr v;refine x4 (V2 ?_);cases hb:a.back? with
    | none =>
     dsimp only;refine x4 (X4 (v3 ⟨YY,a.push (b.flatten.length,G,0),b++[u],U,g,rfl,by rw[j];simp,⟨by rw[H];simp,?_,B.pm⟩,by simp;simp at N;omega⟩));have:=d.rn.snoc (e:=0) (D:=u) v L;rw[Z3]at this;rw[X2,j];exact this
    | some z =>
     obtain⟨T,F,w1⟩:=z;dsimp only;refine C9 C S0 B λV t P g' o y => ?_;refine x4 (X4 (x4 (X4 (v3 ⟨V,(t.modify (t.size - 1) λq=>(q.1,q.2.1,power' a0.size (2 * T + F) (2 * T + F + F + G) a0.size)).push (b.flatten.length,G,0),P++[u],U,g',rfl,by rw[j,VD,ZB,y];simp,⟨by rw[o.hx];simp,?_,o.pm⟩,by rw[VD,ZB,y];simp;simp at N;omega⟩))));have:=(o.rn.mod (w:=power' a0.size (2 * T + F) (2 * T + F + F + G) a0.size) (t.size - 1)).snoc (e:=0) (D:=u) v L;rw[Z3,y,<-j]at this;rw[X2,Array.toList_modify];exact this
   ·obtain⟨YY,a6⟩ : ∃z,z=ys:=⟨_,rfl⟩
    obtain⟨u,a9⟩ : ∃z,z=D:=⟨_,rfl⟩;obtain⟨U,a5⟩ : ∃z,z=R:=⟨_,rfl⟩;subst a6 a9 a5;have H:=hy;have L:=sD;have v:u≠[]:=List.ne_nil_of_length_pos l0;have O:=pY hy Y;obtain⟨G,j⟩ : ∃z,z=u.length:=⟨_,rfl⟩;show wpS M A E s (get >>= _) _ _;rw[<-j];have B:SI r k (u++U) YY a b:=⟨H,d.rn,O.trans d.pm⟩;have lD:=List.length_pos_iff.mpr v;refine x4 (V2 ?_);cases hb:a.back? with
    | none =>
     dsimp only;refine x4 (X4 (v3 ⟨YY,a.push (b.flatten.length,G,0),b++[u],U,g,rfl,by rw[j];simp,⟨by rw[H];simp,?_,B.pm⟩,by simp;simp at N;omega⟩));have:=d.rn.snoc (e:=0) (D:=u) v L;rw[Z3]at this;rw[X2,j];exact this
    | some z =>
     obtain⟨T,F,w1⟩:=z;dsimp only;refine C9 C S0 B λV t P g' o y => ?_;refine x4 (X4 (x4 (X4 (v3 ⟨V,(t.modify (t.size - 1) λq=>(q.1,q.2.1,power' a0.size (2 * T + F) (2 * T + F + F + G) a0.size)).push (b.flatten.length,G,0),P++[u],U,g',rfl,by rw[j,VD,ZB,y];simp,⟨by rw[o.hx];simp,?_,o.pm⟩,by rw[VD,ZB,y];simp;simp at N;omega⟩))));have:=(o.rn.mod (w:=power' a0.size (2 * T + F) (2 * T + F + F + G) a0.size) (t.size - 1)).snoc (e:=0) (D:=u) v L;rw[Z3,y,<-j]at this;rw[X2,Array.toList_modify];exact this
 ·obtain⟨xs,a,b,g,rfl,rfl,d⟩:=h
  have m:=d.pm.length_eq;have X:=d.hx;rw[Y3]at X;rw[X]at m;have rl:=d.rn.len;rw[YC]at rl;refine x4 (WF (YU (I:=λi c f=>∃xs a b g,f=sta kd xs a g/\c=(none,())/\SI r k [] xs a b/\a.size + i<=a0.size)
   (Q:=λc f=>∃xs a b g,f=sta kd xs a g/\c=(none,())/\SI r k [] xs a b/\a.size<=1) ?step2 ?fin2 ⟨xs,a,b,g,rfl,rfl,d,by omega⟩) λc f h => ?_)
  case fin2 =>
   rintro c f ⟨xs,a,b,g,rfl,rfl,d,h⟩;refine⟨xs,a,b,g,rfl,rfl,d,?_⟩;have h:a.size + max 0 a0.size<=a0.size:=h;omega
  case step2 =>
   rintro i c f _ hi ⟨xs,a,b,g,rfl,rfl,d,h⟩;refine x4 (V2 (dq (λc=>v3 ⟨xs,a,b,g,rfl,rfl,d,c⟩) λc => ?_));have c : ¬a.size<=1:=c;refine x4 (Gm C S0 d ?_ λa4 a2 a8 g2 B hp _ => ?_)
   ·have hh:∀(p:Prop) [Decidable p],(if p then a.size - 2 - 1 else a.size - 2) + 1 < a.size:=λp _=>by split<;>omega
    exact hh _
   ·exact v3 ⟨a4,a2,a8,g2,rfl,rfl,B,by omega⟩
  ·obtain⟨xs,a,b,g,rfl,rfl,d,h⟩:=h
   refine v3 (q xs a g (by rw[<-K];exact d.pm) ?_);have X:=d.hx;rw[Y3]at X;have m:=d.pm.length_eq;have rn:=d.rn;obtain⟨ps,a1⟩ : ∃ps,ps=a.toList:=⟨_,rfl⟩;have pl:ps.length=a.size:=by rw[a1];simp
   rw[<-a1]at rn;rw[X]at m ⊢;cases rn with
   | nil=>simp at m;omega
   | @cons _ e D P ps nD sD h3 =>
    cases h3 with
    | nil=>simpa using sD
    | cons _ _ _=>simp at pl;omega
end
end Ts
namespace Fm
def xU (x:Int):List Int->List Int
 | []=>[x]
 | y :: r=>if x<=y then x :: y :: r else y :: xU x r
def dH:List Int->List Int
 | []=>[]
 | x :: r=>xU x (dH r)
theorem mR (x:Int):∀r,(xU x r).Perm (x :: r)
 | []=>.refl _
 | y :: r=>by
  unfold xU;split
  ·exact .refl _
  ·exact((mR x r).cons y).trans (.swap x y r)
theorem eW:∀r,(dH r).Perm r
 | []=>.refl _
 | x :: r=>(mR x _).trans ((eW r).cons x)
theorem sA {x:Int}:∀{r:List Int},r.Pairwise (·<=·)->(xU x r).Pairwise (·<=·)
 | [],_=>by simp[xU]
 | y :: r,h=>by
  obtain⟨h1,h2⟩:=List.pairwise_cons.mp h;unfold xU;split
  ·rename_i c
   refine List.pairwise_cons.mpr ⟨λb a => ?_,h⟩;rcases VI.mp a with e|a
   ·rw[e];exact c
   ·exact W8 c (h1 b a)
  ·rename_i c
   refine List.pairwise_cons.mpr ⟨λb a => ?_,sA h2⟩;rcases VI.mp ((mR x r).mem_iff.mp a) with e|a
   ·rw[e];omega
   ·exact h1 b a
theorem iT:∀{r:List Int},(dH r).Pairwise (·<=·)
 | []=>by simp[dH]
 | x :: r=>sA iT
theorem sB {a r:List Int}(p:a.Perm r)(h:a.Pairwise (·<=·)):a=dH r :=
 List.Perm.eq_of_pairwise (λx y _ _ h b=>Int.le_antisymm h b) h iT (p.trans (eW r).symm)
@[simp] def mS (L:LF):LF:=λσ h=>(L σ h).bind λl h=>match cG l with
 | some xs=>if xs.length < 64 then .ok ((dH xs).map .int) h else .bad
 | none=>.bad
end Fm
namespace Fm
open PySem PySem.Spec L2 PySem.W PyProof.Rows
section
variable {prog:T3} {w:T4} {A:T2} {E:T0->T1->Prop} {s:T1}
theorem Da {it:Addr} {T:String} {o:Obj} {vs:List T0} {ns:List Int} {n:Nat} {Q:T0->T1->Prop} (D:T = "list"\/T = "tuple") (B:s.heap.get? it=some o) (hc:o.cls=.type T) (hd:o.data=.seq vs.toArray n) (hi:IntsAre vs ns) (j:vs.length < 64)
  (h:∀(h1 h':Heap) (e:Nat) (f:List T0) (a:List Int),(∀b u,s.heap.get? b=some u->h1.get? b=some u)->(∀b u,h1.get? b=some u->h'.get? b=some u)->h'.get? h1.objs.size=some (seqObj "list" f.toArray e)->IntsAre f a->a.Perm ns->a.Pairwise (·<=·)->Q (.ref h1.objs.size) { s with heap:=h' }) :
  wpAny (model prog w) A (call (.builtin "sorted") [.ref it]) Q E s:=by
 refine VA kind_sorted plain_sorted entry_sorted (args_sorted1 _) ?_;unfold Builtin.«sorted»;refine z0 (m:=checkCount "sorted" 1 1 _) (y3 ?_);refine z0 (wpAny_collect_seq it D B hc hd (λh1 C => ?_) (by rw[w9,YF];omega));have v:vs.toArray.toList=vs:=by simp
 rw[v];refine z0 (VG ?_ (by rw[YF];omega));have d:(h1.push (seqObj "list" vs.toArray 0)).get? h1.objs.size=some (seqObj "list" vs.toArray 0):=ZJ _ rfl;have keep:∀b u,h1.get? b=some u->(h1.push (seqObj "list" vs.toArray 0)).get? b=some u:=λb u q=>ZH _ q;show wpAny _ _ _ _ _ { s with heap:=h1.push (seqObj "list" vs.toArray 0) };show wpAny _ _ (holding [Value.ref h1.objs.size] _ >>= λ_=>_) _ _ { s with heap:=h1.push (seqObj "list" vs.toArray 0) };generalize hG:h1.push (seqObj "list" vs.toArray 0)=G at d keep;have F:G.objs.size=h1.objs.size + 1:=by rw[<-hG,WQ]
 refine z0 (YV (YP slot_list_sort (s:={ s with heap:=G }) ⟨_,d,rfl⟩ entry_list_sort (list_sort_tree d hi j λout a x z y=>⟨_,rfl,?_⟩) (args_list_sort _)));refine y3 ⟨_,rfl,?_⟩;have c:h1.objs.size < G.objs.size:=by omega
 obtain⟨i,p⟩ : ∃i,(G.update h1.objs.size (Obj.mapSeq λ_ => #[])).get? h1.objs.size=some (seqObj "list" #[] i):=⟨_,get?_update_seq d (λ_ => #[])⟩;have k:(((G.update h1.objs.size (Obj.mapSeq λ_ => #[])).push (seqObj "tuple" vs.toArray 0)).push (seqObj "list" #[] 0)).get? h1.objs.size=some (seqObj "list" #[] i):=by
  rw[Heap.get?_push_ne _ _ _ (by rw[WQ,YK];exact ZN (v4 c)),Heap.get?_push_ne _ _ _ (by rw[YK];exact ZN c)];exact p
 have l:=get?_update_seq k (λ_=>out);refine h h1 (sortedHeap G h1.objs.size vs out) _ out.toList a C (λb u q => ?_) (by unfold sortedHeap;simpa using l) x z y;have g:b < h1.objs.size:=ZI q;have r:b≠h1.objs.size:=ZN g;have t:b < G.objs.size:=Z1 g c;unfold sortedHeap;rw[Heap.get?_update_ne _ _ _ _ r,Heap.get?_push_ne _ _ _ (by rw[WQ,YK];exact ZN (v4 t)),Heap.get?_push_ne _ _ _ (by rw[YK];exact ZN t),Heap.get?_update_ne _ _ _ _ r];exact keep b u q
end
theorem pX:∀{a:List T0} {ns:List Int},IntsAre a ns->aR (ns.map V.int) a
 | _,_,.nil=>.nil
 | _,_,.cons n t r=>.cons ⟨t,rfl⟩ (pX r)
section
variable {X:Cx} {pos p:Pos}
def Ip (K:ZX):List V->Hp->VK->Prop:=λxs H Q=>∃(a:Addr) (ns:List Int),xs=[.ref a]/\(SqL K H a (ns.map V.int)\/H a=some (.tup (ns.map V.int)))/\ns.length < 64/\∀q,H q=none->Q (.ref q) (upd H q (.lst ((dH ns).map V.int)))
theorem xV:fS X (.builtin "sorted") (Ip X.K):=by
 intro pins s σ H xs G Q I r h;obtain⟨a,ns,rfl,i,y,q⟩:=h;obtain⟨u,rfl,v⟩:=aR.one r;cases (show u=Value.ref a from v);have d:∀{T:String} {o:Obj} {f:List T0} {n:Nat},T = "list"\/T = "tuple"->s.heap.get? a=some o->o.cls=.type T->o.data=.seq f.toArray n->aR (ns.map V.int) f->wpAny (model X.prog X.w) X.A (call (.builtin "sorted") [.ref a]) (EP X pins σ Q) X.xe s:=λ{T o f n} B c hc hd rv=>by
  have E:f.length=ns.length:=by have:=rv.length;simpa using this.symm
  refine Da B c hc hd (L2.kG rv) (by omega) λh1 K e j w z x D l t m => ?_;have C:=sB t m;subst C;have k:Inv X pins σ H { s with heap:=h1 }:=I.kept (t':=s.toks) z;have F:(dH ns).length=ns.length:=(eW ns).length_eq;exact⟨.ref h1.objs.size,_,k.laid (t':=s.toks) (o:=.lst ((dH ns).map V.int)) x (ZL _) ⟨by rw[ZA,YF];omega,j,e,pX l,D⟩,rfl,q _ (k.hok.fresh (ZL _))⟩
 rcases i with i|ha
 ·obtain⟨g,b,A,J⟩:=I.list i
  obtain⟨o,c,hc,n,hd⟩:=A.isList;exact d (.inl rfl) c hc hd b
 ·obtain⟨g,b,o,c,hc,n,hd⟩:=hW I.hok ha
  exact d (.inr rfl) c hc hd b
theorem Iq {K:ZX}{ρ:List Addr}{H:Hp}:∀l:List Int,RDs K ρ H (l.map D.int) (l.map V.int)
 | []=>RDs.nil
 | x :: l=>RDs.cons (by simp only[RD]) (Iq l)
theorem Db {a:Expr} {g:LF} (k:Gl X "sorted") (hm:X.mg "sorted" = none) (ha:MQ X a g) (h:starEach [a] X.env=(false,eval a X.env) :: starEach [] X.env:=by rfl):MF X (.Call (.Name "sorted" p) [a] [] pos) (mS g):=by
 refine PE.imp (iq xV k hm (by decide +kernel) (cF ha d6 h) (he:=h)) λσ H Q ⟨ρ,σd,hd,m,b⟩=>⟨ρ,σd,hd,m,?_⟩;unfold mS at b;cases e:g σd hd with
 | exc x h'=>rw[e]at b;exact b
 | bad=>rw[e]at b;exact b
 | ok l hd1 =>
  rw[e]at b;simp only[aP]at b;intro v H1 i j f ⟨q,vs,hv,sq,rvs⟩;subst hv;cases c:cG l with
  | none=>rw[c]at b;exact b.elim
  | some ns =>
   rw[c]at b;simp only at b;split at b
   ·rename_i hz
    have d:=jE rvs c;subst d;exact⟨q,ns,rfl,sq,hz,λo n=>b.mk j f (Iq _) o n⟩
   ·exact b.elim
end
end Fm
namespace Ts
section
theorem sC {α : Type}(a : α->Int):∀{l m:List α},l.Pairwise (λx y=>a x<=a y)->m.Pairwise (λx y=>a x<=a y)->(∀k,l.filter (λx=>decide (a x=k))=m.filter (λx=>decide (a x=k)))->l=m
 | [],[],_,_,_=>rfl
 | [],y :: m,_,_,h=>by have:=h (a y);simp at this
 | x :: l,[],_,_,h=>by have:=h (a x);simp at this
 | x :: l,y :: m,h1,h2,h=>by
  have d:=List.pairwise_cons.mp h1;have p2:=List.pairwise_cons.mp h2;have e:a x=a y:=by
   have g:x∈(y :: m).filter (λz=>decide (a z=a x)):=by rw[<-h];simp
   have f:y∈(x :: l).filter (λz=>decide (a z=a y)):=by rw[h];simp
   have n:=(List.mem_filter.mp g).1;have i:=(List.mem_filter.mp f).1;have o:a y<=a x:=by
    rcases VI.mp n with z|z
    ·rw[z];exact XI _
    ·exact p2.1 x z
   have p:a x<=a y:=by
    rcases VI.mp i with z|z
    ·rw[z];exact XI _
    ·exact d.1 y z
   omega
  have b:=h (a x);rw[WW (by simp),WW (by simp[e])]at b;obtain⟨rfl,j⟩:=List.cons.inj b;congr 1;refine sC a d.2 p2.2 λk => ?_
  by_cases c:a x=k
  ·subst c;exact j
  ·have:=h k
   rwa[WX (by simpa using c),WX (by simpa using c)]at this
def insK {α : Type} (key : α->Int) (x : α):List α->List α
 | []=>[x]
 | y :: l=>if key x < key y then x :: y :: l else y :: insK key x l
def byK {α : Type} (key : α->Int) (l:List α):List α := l.foldl (λacc x=>insK key x acc) []
theorem mT {α : Type}(a : α->Int)(x : α):∀l:List α,(insK a x l).Perm (x :: l)
 | []=>.refl _
 | y :: l=>by
  unfold insK;split
  ·exact .refl _
  ·exact((mT a x l).cons y).trans (.swap _ _ _)
theorem pZ {α : Type}(a : α->Int)(x : α):∀{l:List α},l.Pairwise (λx y=>a x<=a y)->(insK a x l).Pairwise (λx y=>a x<=a y)
 | [],_=>Y1 _ _
 | y :: l,h=>by
  have p:=List.pairwise_cons.mp h;unfold insK;split
  ·rename_i c
   refine List.pairwise_cons.mpr ⟨λz b => ?_,h⟩;rcases VI.mp b with rfl|b
   ·omega
   ·have:=p.1 z b;omega
  ·rename_i c
   refine List.pairwise_cons.mpr ⟨λz b => ?_,pZ a x p.2⟩;rcases VI.mp ((mT a x l).mem_iff.mp b) with rfl|b
   ·omega
   ·exact p.1 z b
theorem oq {α : Type}(a : α->Int)(x : α)(k:Int):∀{l:List α},l.Pairwise (λx y=>a x<=a y)->(insK a x l).filter (λz=>decide (a z=k))=(l++[x]).filter (λz=>decide (a z=k))
 | [],_=>rfl
 | y :: l,h=>by
  have p:=List.pairwise_cons.mp h;unfold insK;split
  ·rename_i c
   rw[W7,XJ,XJ (x:=y),XJ (x:=y),XE]
   by_cases e:a x=k
   ·have n : ¬a y=k:=by omega
    have d:l.filter (λz=>decide (a z=k))=[]:=by
     rw[List.filter_eq_nil_iff];intro z b;have:=p.1 z b;simp;omega
    simp[e,n,d]
   ·simp[e]
  ·rw[W7,XJ,XJ (x:=y),oq a x k p.2]
theorem uf {α : Type}(b : α->Int):∀(l a:List α),a.Pairwise (λx y=>b x<=b y)->
  (l.foldl (λa x=>insK b x a) a).Perm (a++l)/\(l.foldl (λa x=>insK b x a) a).Pairwise (λx y=>b x<=b y)/\∀k,(l.foldl (λa x=>insK b x a) a).filter (λz=>decide (b z=k))=(a++l).filter (λz=>decide (b z=k))
 | [],a,h=>by simp[h]
 | x :: l,a,h=>by
  obtain⟨h1,h2,c⟩:=uf b l (insK b x a) (pZ b x h);refine⟨h1.trans ?_,h2,λk => ?_⟩
  ·exact((mT b x a).append_right l).trans (List.perm_middle.symm)
  ·rw[XB,c k,XE,oq b x k h,<-List.filter_append,ZU];rfl
theorem byK_perm {α : Type}(a : α->Int)(l:List α):(byK a l).Perm l:=(uf a l [] .nil).1
theorem byK_rises {α : Type}(a : α->Int)(l:List α):(byK a l).Pairwise (λx y=>a x<=a y):=(uf a l [] .nil).2.1
theorem xW {α : Type}(a : α->Int)(l:List α)(k:Int):(byK a l).filter (λz=>decide (a z=k))=l.filter (λz=>decide (a z=k)):=(uf a l [] .nil).2.2 k
theorem Ir {α : Type}(a : α->Int){l m:List α}(h1:m.Pairwise (λx y=>a x<=a y))(h2:∀k,m.filter (λz=>decide (a z=k))=l.filter (λz=>decide (a z=k))):m=byK a l :=
 sC a h1 (byK_rises a l) λk=>(h2 k).trans (xW a l k).symm
theorem v5 {α β : Type}(f : α->β)(a : α->Int)(b : β->Int)(h:∀x,b (f x)=a x)(x : α):∀l:List α,insK b (f x) (l.map f)=(insK a x l).map f
 | []=>rfl
 | y :: l=>by
  simp only[x8,insK,h];split
  ·rfl
  ·rw[v5 f a b h x l];rfl
theorem byK_map {α β : Type}(f : α->β)(b : α->Int)(c : β->Int)(h:∀x,c (f x)=b x)(l:List α):byK c (l.map f)=(byK b l).map f:=by
 have:∀(l:List α) a,(l.map f).foldl (λa x=>insK c x a) (a.map f)=(l.foldl (λa x=>insK b x a) a).map f:=by
  intro l
  induction l with
  | nil=>intro a;rfl
  | cons x l ih =>
   intro a;rw[x8,XB,XB,v5 f b c h,ih]
 exact this l []
end
end Ts
namespace Fm
def v6 (h:Hd):D->Option Int
 | .ref n=>match h[n]? with|some (.lst l)=>some (l.length:Int)|_=>none
 | _=>none
def v7 (h:Hd):List D->Option (List Int)
 | []=>some []
 | x :: l=>match v6 h x,v7 h l with|some k,some kz=>some (k :: kz)|_,_=>none
def jN (a:EF):LF:=λσ h=>(a σ h).bind λx h=>match ef h x with
 | some l=>match v7 h l with
  | some kz=>if l.length<=1000 then .ok ((Ts.byK (·.1) (kz.zip l)).map (·.2)) h else .bad
  | none=>.bad
 | none=>.bad
end Fm
namespace Ts
open PySem PyProof.Rows
section
variable {prog:T3} {w:T4} {A:T2} {E:T0->T1->Prop} {s:T1}
def kvI:T0->Int
 | .int i _=>i
 | _=>0
abbrev rK:Keyed->Keyed->Bool:=λx y=>decide (kvI x.1 < kvI y.1)
theorem K4:Cmp (model prog w) A E s oneType' (λx=>∃i t,x.1=.int i t) rK:=by
 refine⟨λ{x y st Q} d e c a => ?_,λ{x y} h => ?_,λ{x y z} h1 h2 => ?_⟩
 ·obtain⟨i,t,ex⟩:=d
  obtain⟨j,u,b⟩:=e;rw[lt'_eq];refine x4 (V2 ?_);rw[c];refine x4 (wpS_lift (VH ?_));rw[keyLt'_oneType];simp only[rK,ex,b,kvI]at a ⊢;exact oneLt_int ⟨rfl,v3 a⟩
 ·simp only[rK,Y8,decide_eq_false_iff_not]at h ⊢;omega
 ·simp only[rK,decide_eq_false_iff_not]at h1 h2 ⊢;omega
theorem Dc (k x:Keyed):jp rK k x=decide (kvI x.1=kvI k.1):=by
 simp only[jp,rK]
 by_cases c:kvI x.1=kvI k.1
 ·simp[c]
 ·rcases Int.lt_or_gt_of_ne c with h|h
  ·simp[h,c]
  ·have:kvI k.1 < kvI x.1:=h
   simp[this,c]
theorem lx:∀{b:List T0} {a:List Int},IntsAre b a->b.map kvI=a
 | _,_,.nil=>rfl
 | _,_,.cons n t h=>by rw[x8,lx h];rfl
theorem wb:∀{a:List T0} {b:List Int},IntsAre a b->∀v∈a,∃i t,v=.int i t
 | _,_,.cons n t h,v,hv=>by
  rcases VI.mp hv with rfl|hv
  ·exact⟨n,t,rfl⟩
  ·exact wb h v hv
theorem Iu {ks vs:List T0}{kz:List Int}(a:IntsAre ks kz){xs:List Keyed}(h:Stb rK xs (ks.zip vs))(so:xs.Pairwise (lE rK)):xs.map (·.2)=(byK (·.1) (kz.zip vs)).map (·.2):=by
 have e:xs=byK (λx:Keyed=>kvI x.1) (ks.zip vs):=by
  refine Ir _ (so.imp λ{x y} z => ?_) λk => ?_
  ·simp only[lE,rK,decide_eq_false_iff_not]at z;omega
  ·have:=h.fl (.int k (default:Tok),.none)
   have f:(jp rK (.int k (default:Tok),.none))=λz=>decide (kvI z.1=k):=by funext z;rw[Dc];rfl
   rwa[f]at this
 have b:kz.zip vs=(ks.zip vs).map λx=>(kvI x.1,x.2):=by
  rw[<-lx a,List.zip_map_left];rfl
 rw[e,b,byK_map (λx:Keyed=>(kvI x.1,x.2)) (λx=>kvI x.1) (·.1) (λ_=>rfl),Z2];rfl
theorem Fh {α : Type}{R : α × α->α × α->Prop}{ks vs:List α}(h:vs.length < 2):(ks.zip vs).Pairwise R:=by
 cases ks with
 | nil=>exact .nil
 | cons k ks =>
  cases vs with
  | nil=>exact .nil
  | cons v vs =>
   cases vs with
   | nil=>rw[List.zip_cons_cons,List.zip_nil_right];exact Y1 _ _
   | cons u vs=>simp only[Y7]at h;omega
theorem sort_keyed {f:T0} {a:Addr} {vs:List T0} {kz:List Int} {n:Nat} {P:PySem.Fin->T1->Prop} (W:s.heap.get? a=some (seqObj "list" vs.toArray n)) (hz:vs.length<=100000) (lk:kz.length=vs.length)
  (hf:∀(i:Nat) v k,vs[i]? = some v->kz[i]? = some k->∀(G:Heap) (tk:Nat),(∀b u,b≠a->s.heap.get? b=some u->G.get? b=some u)->∀Q:T0->T1->Prop,(∀t d,Q (.int k t) { s with heap:=G,toks:=d })->wpAny (model prog w) A (call f [v]) Q (λ_ _=>False) { s with heap:=G,toks:=tk })
  (h:∀(G:Heap) (tk c:Nat),(∀b u,b≠a->s.heap.get? b=some u->G.get? b=some u)->G.get? a=some (seqObj "list" ((byK (·.1) (kz.zip vs)).map (·.2)).toArray c)->P (.done (.ret .none)) { s with heap:=G,toks:=tk }) :
  wpAny (model prog w) A (ksk_tree a f false) P E s:=by
 unfold ksk_tree;have ha:a < s.heap.objs.size:=ZI W;refine z0 (listItems_at W rfl (z0 (VF W rfl ?_)));obtain⟨y,C⟩ : ∃y,(s.heap.update a (Obj.mapSeq λ_ => #[])).get? a=some (seqObj "list" #[] y):=⟨_,get?_update_seq W (λ_ => #[])⟩;refine z0 (seqEpoch_at C rfl (z0 (wpAny_newTuple ?_ (by rw[YF];simp;omega))));refine z0 (VG ?_);refine YV ?_;obtain⟨H1,p⟩ : ∃H1,H1=s.heap.update a (Obj.mapSeq λ_ => #[]):=⟨_,rfl⟩;rw[<-p]at C;have B:H1.objs.size=s.heap.objs.size:=by rw[p,YK]
 have n1:a≠H1.objs.size:=by rw[B];exact ZN ha
 obtain⟨l,o⟩ : ∃l,l=H1.push (seqObj "tuple" vs.toArray 0):=⟨_,rfl⟩;have X:a≠l.objs.size:=by rw[o,WQ,B];exact ZN (v4 ha)
 have Y:(l.push (seqObj "list" #[] 0)).get? a=some (seqObj "list" #[] y):=by
  rw[Heap.get?_push_ne _ _ _ X,o,Heap.get?_push_ne _ _ _ n1];exact C
 have a2:(l.push (seqObj "list" #[] 0)).get? l.objs.size=some (seqObj "list" #[] 0):=ZJ _ rfl;have a1:∀b u,b≠a->s.heap.get? b=some u->(l.push (seqObj "list" #[] 0)).get? b=some u:=λb u H e=>ZH _ (by rw[o];exact ZH _ (by rw[p];exact(Heap.get?_update_ne _ _ _ _ H).trans e));have Z:∀b u,s.heap.get? b=some u->b≠l.objs.size:=λb u e=>by rw[o,WQ,B];exact ZN (v4 (ZI e))
 have a3:∀b u,s.heap.get? b=some u->b≠l.objs.size:=Z;show wpAny (model prog w) A (ksk_rest a f false vs.toArray y (.ref (Heap.objs (Heap.push (Heap.update s.heap a (Obj.mapSeq λ_ => #[])) (seqObj "tuple" vs.toArray 0))).size)) P E { s with heap:=(Heap.push (Heap.push (Heap.update s.heap a (Obj.mapSeq λ_ => #[])) (seqObj "tuple" vs.toArray 0)) (seqObj "list" #[] 0)) };rw[<-p,<-o];unfold ksk_rest;refine z0 (wpAny_rule ?_);rw[List.forIn_toArray];refine z0 (ksk_fold (I:=λj T=>∃G tk m e,T = { s with heap:=G,toks:=tk }/\G.get? l.objs.size=some (seqObj "list" (List.toArray m) e)/\IntsAre m (kz.take j)/\G.get? a=some (seqObj "list" #[] y)/\∀b u,b≠a->s.heap.get? b=some u->G.get? b=some u) vs 0 _ ⟨_,s.toks,[],0,rfl,a2,by rw[List.take_zero];exact .nil,Y,a1⟩ ?_ ?_)
 ·rintro j x T L ⟨G,tk,m,e,rfl,O,q,g3,U⟩
  rw[Z3]at q ⊢;have hj:j < vs.length:=(List.getElem?_eq_some_iff.mp L).1;have K:j < kz.length:=by rw[lk];exact hj
  refine z0 (VH (WB (hf j x kz[j] L (ZE K) G tk U (λv N=>∃t d,v=.int kz[j] t/\N = { s with heap:=G,toks:=d }) λt d=>⟨t,d,rfl,rfl⟩) ?_ λ_ _ z=>z.elim));rintro v N ⟨t,d,rfl,rfl⟩;dsimp only;have kl:m.length=j:=by rw[q.length,X9];omega
  refine z0 (VF (s:={ s with heap:=G,toks:=d }) O rfl (y3 ⟨rfl,?_⟩) (by simp only[w9,YF];omega) (by simp only[Array.size_push,w9,YF];omega));have up:=get?_update_seq O (λxs=>xs.push (.int kz[j] t));refine⟨_,d,m++[.int kz[j] t],_,rfl,by rw[up];simp only[List.push_toArray];rfl,?_,?_,λb u H R => ?_⟩
  ·rw[Y0 K];exact ksk_snoc q
  ·rw[Heap.get?_update_ne _ _ _ _ X];exact g3
  ·rw[Heap.get?_update_ne _ _ _ _ (Z b u R)];exact U b u H R
 rintro T ⟨G,tk,m,e,rfl,O,q,g3,U⟩;rw[Z3,<-lk,WA]at q;refine z0 (listItems_at (s:={ s with heap:=G,toks:=tk }) O rfl ?_);have kl:m.length=vs.length:=by rw[q.length,lk]
 have r:∀{kd:SortKind} {xs:Array Keyed} {F:Array (Nat × Nat × Nat)} {g:Nat},Stb rK xs.toList (m.zip vs)->xs.toList.Pairwise (lE rK)->wpAny (model prog w) A (ksk_tail a false y (.ref l.objs.size) (SortSt.mk' kd xs F g none)) P E { s with heap:=G,toks:=tk }:=λ{kd xs F g} J S=>by
  have zl:xs.size=vs.length:=by
   have:=J.length_eq;rw[YC,List.length_zip,kl,Nat.min_self]at this;exact this
  unfold ksk_tail;dsimp only;refine z0 (VF (s:={ s with heap:=G,toks:=tk }) O rfl (z0 (wpAny_letGo ?_)) (by simp only[w9,YF];omega) (by simp));have D:(G.update l.objs.size (Obj.mapSeq λ_ => #[])).get? a=some (seqObj "list" #[] y):=by rw[Heap.get?_update_ne _ _ _ _ X];exact g3
  refine z0 (seqEpoch_at (s:={ s with heap:=G.update l.objs.size (Obj.mapSeq λ_ => #[]),toks:=tk }) D rfl ?_);refine z0 (VF (s:={ s with heap:=G.update l.objs.size (Obj.mapSeq λ_ => #[]),toks:=tk }) D rfl ?_ (by simp) (by show (xs.map (·.2)).size<=_;rw[Array.size_map,zl,YF];omega));simp only[bne_self_eq_false,YA,XF];show wpAny (model prog w) A (PySem.ret Value.none) P E _;have e0:xs.map (·.2)=((byK (·.1) (kz.zip vs)).map (·.2)).toArray:=by
   rw[<-Iu q J S,<-Array.toList_map]
  obtain⟨c,hc⟩ : ∃c,((G.update l.objs.size (Obj.mapSeq λ_ => #[])).update a (Obj.mapSeq λ_=>xs.map (·.2))).get? a=some (seqObj "list" ((byK (·.1) (kz.zip vs)).map (·.2)).toArray c):=⟨_,by
   have:=get?_update_seq D (λ_=>xs.map (·.2));rw[this,<-e0]⟩
  refine y3 (h _ tk c (λb u H R => ?_) hc);show ((G.update _ _).update a _).get? b=_;rw[Heap.get?_update_ne _ _ _ _ H,Heap.get?_update_ne _ _ _ _ (Z b u R)];exact U b u H R
 unfold ksk_end;dsimp only;simp only[YA,XF];have V:((List.toArray m).zip vs.toArray).toList=m.zip vs:=ksk_zip _ _
 by_cases h2:vs.toArray.size < 2
 ·rw[yD h2,yD h2]
  refine z0 (y3 (z0 (y3 ?_)));refine r (by rw[V];exact Stb.refl _) ?_;rw[V];exact Fh (by simpa using h2)
 ·rw[x3 h2,x3 h2]
  have a4:2<=vs.length:=by simp at h2;omega
  rw[ksk_kind (keys:=m.toArray) q (by simp;omega)];refine z0 (y3 ?_);refine z0 (WB (Fg K4 (a0:=(List.toArray m).zip vs.toArray) (g0:=7) (Q:=λ_ M=>∃xs F g,M=sta oneType' xs F g/\Stb rK xs.toList (m.zip vs)/\xs.toList.Pairwise (lE rK)) (λx L => ?_) (by simp;omega) λxs F g J S=>⟨xs,F,g,rfl,by rw[<-V];exact J,S⟩) ?_ λ_ _ e=>e)
  ·rw[V]at L
   exact wb q x.1 (List.of_mem_zip (a:=x.1) (b:=x.2) L).1
  ·rintro⟨⟨⟩,M⟩ T ⟨rfl,xs,F,g,rfl,J,S⟩
   exact r J S
end
end Ts
namespace Fm
open PySem PySem.Spec L2 PySem.W PyProof.Rows
section
variable {X:Cx} {pos p p2 kpos:Pos}
inductive lO (K:ZX) (H:Hp):List V->List Int->Prop
 | nil:lO K H [] []
 | cons {b:Addr} {ys vs:List V} {kz:List Int} (h:SqL K H b ys) (t:lO K H vs kz):lO K H (.ref b :: vs) ((ys.length:Int) :: kz)
theorem lO.length {K:ZX}{H:Hp}:∀{a:List V} {b:List Int},lO K H a b->b.length=a.length
 | _,_,.nil=>rfl
 | _,_,.cons _ t=>by simp[t.length]
theorem lO.at {K:ZX}{H:Hp}:∀{d:List V} {c:List Int} {a:List T0},lO K H d c->aR d a->∀(i:Nat) v k,a[i]? = some v->c[i]? = some k->∃b ys,v=.ref b/\SqL K H b ys/\k=(ys.length:Int)
 | _,_,_,.nil,.nil,i,v,k,h,_=>by simp at h
 | _,_,_,.cons (b:=b) (ys:=ys) h0 t,.cons rv rt,i,v,k,h1,h2=>by
  cases rv;cases i with
  | zero=>simp at h1 h2;exact⟨b,ys,h1.symm,h0,h2.symm⟩
  | succ i=>exact t.at rt i v k (by simpa using h1) (by simpa using h2)
theorem Dd:∀{f:List V} {c:List T0} (d:List Int),aR f c->aR ((Ts.byK (·.1) (d.zip f)).map (·.2)) ((Ts.byK (·.1) (d.zip c)).map (·.2)):=by
 have h:∀{x:Int × V} {y:Int × T0} (e:x.1=y.1) (rv:bx x.2 y.2) {l:List (Int × V)} {m:List (Int × T0)},l.map (·.1)=m.map (·.1)->aR (l.map (·.2)) (m.map (·.2))->(Ts.insK (·.1) x l).map (·.1)=(Ts.insK (·.1) y m).map (·.1)/\aR ((Ts.insK (·.1) x l).map (·.2)) ((Ts.insK (·.1) y m).map (·.2)):=by
  intro x y e rv l
  induction l with
  | nil =>
   intro m h1 h2;cases m with
   | nil=>exact⟨by simp[Ts.insK,e],.cons rv .nil⟩
   | cons _ _=>simp at h1
  | cons a l ih =>
   intro m h1 h2;cases m with
   | nil=>simp at h1
   | cons b m =>
    simp only[x8,XW]at h1;cases h2 with
    | cons r1 r2 =>
     unfold Ts.insK;rw[e,h1.1];split
     ·exact⟨by simp[e,h1.1,h1.2],.cons rv (.cons r1 r2)⟩
     ·obtain⟨q1,q2⟩:=ih h1.2 r2
      exact⟨by simp[h1.1,q1],.cons r1 q2⟩
 have go:∀{f:List V} {c:List T0} (d:List Int),aR f c->∀{l:List (Int × V)} {m:List (Int × T0)},l.map (·.1)=m.map (·.1)->aR (l.map (·.2)) (m.map (·.2))->aR (((d.zip f).foldl (λg x=>Ts.insK (·.1) x g) l).map (·.2)) (((d.zip c).foldl (λg x=>Ts.insK (·.1) x g) m).map (·.2)):=by
  intro f
  induction f with
  | nil =>
   intro c d r l m h1 h2;cases r;cases d<;>exact h2
  | cons v f ih =>
   intro c d r l m h1 h2;cases r with
   | cons r1 r2 =>
    cases d with
    | nil=>exact h2
    | cons k d =>
     simp only[List.zip_cons_cons,XB];obtain⟨q1,q2⟩:=h (x:=(k,_)) (y:=(k,_)) rfl r1 h1 h2;exact ih d r2 q1 q2
 intro f c d r;exact go d r (l:=[]) (m:=[]) rfl .nil
def De (K:ZX):List V->Hp->VK->Prop:=λxs H Q=>∃(a:Addr) (vs:List V) (kz:List Int),xs=[.ref a]/\SqL K H a vs/\vs.length<=1000/\lO K H vs kz/\∀q,H q=none->Q (.ref q) (upd H q (.lst ((Ts.byK (·.1) (kz.zip vs)).map (·.2))))
theorem xX {pins:List (Addr × Obj)}{s:T1}{σ:L2.St}{H:Hp}{xs:List V}{N:List T0}{Q:VK}(I:Inv X pins σ H s)(r:aR xs N)(h:De X.K xs H Q) :
  wpAny (model X.prog X.w) X.A (call (.builtin "sorted") N [(Str.ofString "key",.builtin "len")]) (EP X pins σ Q) X.xe s:=by
 obtain⟨a,A,kz,rfl,U,a0,K,q⟩:=h;obtain⟨u,rfl,W⟩:=aR.one r;cases (show u=Value.ref a from W);obtain⟨d,f,pl,hz⟩:=I.list U;have P:s.heap.IsList a d.toArray:=pl.isList;have j:d.length=A.length:=f.length.symm;obtain⟨o,Z,hc,n,hd⟩:=P;refine call_function_entry_kw kind_sorted plain_sorted entry_sorted (ksk_s1 _ _) ?_;unfold Builtin.«sorted»;refine z0 (m:=checkCount "sorted" 1 1 _) (y3 ?_);refine z0 (wpAny_collect_seq a (.inl rfl) Z hc hd (λh1 L => ?_) (by rw[w9,YF];omega));have O:d.toArray.toList=d:=by simp
 rw[O];refine z0 (VG ?_ (by rw[YF];omega));have e:(h1.push (seqObj "list" d.toArray 0)).get? h1.objs.size=some (seqObj "list" d.toArray 0):=ZJ _ rfl;have keep:∀b u,h1.get? b=some u->(h1.push (seqObj "list" d.toArray 0)).get? b=some u:=λb u z=>ZH _ z;show wpAny _ _ (holding [Value.ref h1.objs.size] _ >>= λ_=>_) _ _ { s with heap:=h1.push (seqObj "list" d.toArray 0) };generalize hG:h1.push (seqObj "list" d.toArray 0)=G at e keep;have M:Inv X pins σ H { s with heap:=h1 }:=I.kept (t':=s.toks) L;refine z0 (YV (wpAny_call_entry_kw slot_list_sort (s:={ s with heap:=G }) ⟨_,e,rfl⟩ entry_list_sort (by
  rw[ksk_t4];refine Ts.sort_keyed (s:={ s with heap:=G }) (kz:=kz) e (by omega) (by rw[K.length,j]) (λi v k hv R w tk F Q2 y => ?_) λw tk c F E=>⟨_,rfl,?_⟩
  ·obtain⟨b,ys,rfl,sb,rfl⟩:=K.at f i v k hv R
   obtain⟨t,g,D,Y⟩:=I.list sb;obtain⟨l,x,C,T,B⟩:=D.isList;have J:=L b l x;have S:w.get? b=some l:=F b l (ZN (ZI J)) (keep b l J);have hn:=mD;refine Calls.call_len_list (s:={ s with heap:=w,toks:=tk }) (items:=t.toArray) ⟨l,S,C,T,B⟩ (by rw[w9,<-g.length];omega) ?_;rw[w9,<-g.length];exact y _ _
  ·refine y3 ⟨_,rfl,?_⟩
   have k2:∀b u,h1.get? b=some u->w.get? b=some u:=λb u z=>F b u (ZN (ZI z)) (keep b u z);have rv:=Dd kz f;have vl:((Ts.byK (·.1) (kz.zip A)).map (·.2)).length<=1000:=by
    rw[ZA,(Ts.byK_perm _ _).length_eq,List.length_zip];omega
   exact⟨.ref h1.objs.size,_,M.laid (t':=tk) (o:=.lst ((Ts.byK (·.1) (kz.zip A)).map (·.2))) k2 (ZL _) ⟨by rw[YF];omega,_,c,rv,E⟩,rfl,q _ (M.hok.fresh (ZL _))⟩) (ksk_l1 _ _)))
theorem Fk {K:ZX}{ρ:List Addr}{H:Hp}:∀{l:List D} {f:List V} (c:List Int),RDs K ρ H l f->RDs K ρ H ((Ts.byK (·.1) (c.zip l)).map (·.2)) ((Ts.byK (·.1) (c.zip f)).map (·.2)):=by
 have n:∀{x:Int × D} {y:Int × V} (e:x.1=y.1) (rv:RD K ρ H x.2 y.2) {l:List (Int × D)} {m:List (Int × V)},l.map (·.1)=m.map (·.1)->RDs K ρ H (l.map (·.2)) (m.map (·.2))->(Ts.insK (·.1) x l).map (·.1)=(Ts.insK (·.1) y m).map (·.1)/\RDs K ρ H ((Ts.insK (·.1) x l).map (·.2)) ((Ts.insK (·.1) y m).map (·.2)):=by
  intro x y e rv l
  induction l with
  | nil =>
   intro m h1 h2;cases m with
   | nil=>exact⟨by simp[Ts.insK,e],⟨_,_,rfl,rv,rfl⟩⟩
   | cons _ _=>simp at h1
  | cons a l ih =>
   intro m h1 h2;cases m with
   | nil=>simp at h1
   | cons b m =>
    simp only[x8,XW]at h1;obtain⟨v,r,j,i,h⟩:=h2;cases j;unfold Ts.insK;rw[e,h1.1];split
    ·exact⟨by simp[e,h1.1,h1.2],⟨_,_,rfl,rv,⟨_,_,rfl,i,h⟩⟩⟩
    ·obtain⟨q1,q2⟩:=ih h1.2 h
     exact⟨by simp[h1.1,q1],⟨_,_,rfl,i,q2⟩⟩
 have go:∀{f:List D} {d:List V} (c:List Int),RDs K ρ H f d->∀{l:List (Int × D)} {m:List (Int × V)},l.map (·.1)=m.map (·.1)->RDs K ρ H (l.map (·.2)) (m.map (·.2))->RDs K ρ H (((c.zip f).foldl (λg x=>Ts.insK (·.1) x g) l).map (·.2)) (((c.zip d).foldl (λg x=>Ts.insK (·.1) x g) m).map (·.2)):=by
  intro f
  induction f with
  | nil =>
   intro d c r l m h1 h2;cases r;cases c<;>exact h2
  | cons v f ih =>
   intro d c r l m h1 h2;obtain⟨q,o,j,i,h⟩:=r;cases j;cases c with
   | nil=>exact h2
   | cons k c =>
    simp only[List.zip_cons_cons,XB];obtain⟨q1,q2⟩:=n (x:=(k,_)) (y:=(k,_)) rfl i h1 h2;exact ih c h q1 q2
 intro l f c r;exact go c r (l:=[]) (m:=[]) rfl rfl
theorem wc {K:ZX}{ρ:List Addr}{H:Hp}{hd:Hd}(r:RH K ρ H hd):∀{l:List D} {d:List V} {b:List Int},RDs K ρ H l d->v7 hd l=some b->lO K H d b
 | [],_,_,h,e=>by cases h;cases e;exact .nil
 | x :: l,_,_,h,e=>by
  obtain⟨v,m,rfl,g,i⟩:=h;unfold v7 at e;cases e1:v6 hd x with
  | none=>rw[e1]at e;cases e
  | some k =>
   cases e2:v7 hd l with
   | none=>rw[e1,e2]at e;cases e
   | some kz' =>
    rw[e1,e2]at e;cases e;have t:=wc r i e2;cases x with
    | ref n =>
     replace e1:(match hd[n]? with|some (.lst l)=>some (l.length:Int)|_=>none)=some k:=e1;cases c:hd[n]? with
     | none=>rw[c]at e1;cases e1
     | some cl =>
      rw[c]at e1;cases cl with
      | lst l' =>
       cases e1;obtain⟨q,j,rfl,f,a⟩:=ly r g (l:=l') (by simp[ef,c]);rw[RDs.length a];exact .cons f t
      | dct _=>cases e1
      | dcT _=>cases e1
    | _=>cases e1
theorem xY {a:Expr} {fa:EF} (w:Gl X "sorted") (hm:X.mg "sorted" = none) (k:Gl X "len") (i:X.mg "len" = none) (ha:ME X a fa) (j:starEach [a] X.env=(false,eval a X.env) :: starEach [] X.env:=by rfl):MF X (.Call (.Name "sorted" p) [a] [⟨some "key",.Name "len" p2,kpos⟩] pos) (jN fa):=by
 have D:PE X (.Call (.Name "sorted" p) [a] [⟨some "key",.Name "len" p2,kpos⟩] pos) (tCB (De X.K) (Gg (jC X.K (rD X.K) fa) Jw)):=by
  intro pins s σ H Q I h;refine VN (jx (u:=.builtin "sorted") I w hm (by decide +kernel) ?_);refine callWith_kw (thn ((cF ha d6 j) pos pins s σ H _ I h) λE z ⟨m,H1,n,C,q1⟩ => ?_) (by rw[j];rfl) (by rw[j];rfl) rfl rfl;show wpAny _ _ (evalAll [(do let v <-eval (.Name "len" p2) X.env;standAt pos;pure v)]) _ _ z;refine wpAny_evalAll_cons (z0 (jx (u:=.builtin "len") n k i (by decide +kernel) (z0 (wpAny_standAt (y3 ?_)))));refine wpAny_evalAll_nil ?_;exact xX n C q1
 refine PE.imp D λσ H Q ⟨ρ,σd,hd,y,b⟩=>⟨ρ,σd,hd,y,?_⟩;unfold jN at b;cases e:fa σd hd with
 | exc x h'=>rw[e]at b;exact b
 | bad=>rw[e]at b;exact b
 | ok d hd1 =>
  rw[e]at b;simp only[aP]at b;intro v H1 o t f rv;cases c:ef hd1 d with
  | none=>rw[c]at b;exact b.elim
  | some l =>
   rw[c]at b;simp only at b;cases c2:v7 hd1 l with
   | none=>rw[c2]at b;exact b.elim
   | some kz =>
    rw[c2]at b;simp only at b;split at b
    ·rename_i hc
     obtain⟨q,m,rfl,r,g⟩:=ly f.hp rv c;exact⟨q,m,kz,rfl,r,by rw[<-g.length];exact hc,wc f.hp g c2,λB A=>b.mk t f (Fk kz g) B A⟩
    ·exact b.elim
end
end Fm
namespace Fm
open PySem
abbrev qQ (xs:Array Nat):Prop:=xs.toList.Pairwise (· < ·)
variable {xs:Array Nat}
theorem qQ.lt (r:qQ xs){i j:Nat}(hj:j < xs.size)(h:i < j):xs[i]'(by omega) < xs[j]:=by
 have:=List.pairwise_iff_getElem.mp r i j (by simpa using Z1 h hj) (by simpa using hj) h;simpa using this
theorem p0 {xs:Array Nat}{j:Nat}(r:qQ xs):∀(kx lo hi:Nat),lo<=hi->hi<=xs.size->hi - lo<=kx->(∀i (q:i < xs.size),i < lo->xs[i] < j)->(∀i (q:i < xs.size),hi<=i->j<=xs[i])->
  SetTable.below.go xs j kx lo hi<=xs.size/\(∀i (q:i < xs.size),i < SetTable.below.go xs j kx lo hi->xs[i] < j)/\(∀i (q:i < xs.size),SetTable.below.go xs j kx lo hi<=i->j<=xs[i])
 | 0,lo,hi,h1,h2,h3,h4,h5=>by
  have:lo=hi:=by omega
  subst this;exact⟨h2,h4,h5⟩
 | kx + 1,lo,hi,h1,h2,h3,h4,h5=>by
  unfold SetTable.below.go
  by_cases c:lo < hi
  ·rw[yD c]
   have a:(lo + hi) / 2 < xs.size:=by omega
   have e:xs.getD ((lo + hi) / 2) j=xs[(lo + hi) / 2]:=by simp[Array.getD,a]
   simp only[e]
   by_cases c2:xs[(lo + hi) / 2] < j
   ·rw[yD c2]
    refine p0 r kx _ _ (by omega) h2 (by omega) (λi q l => ?_) h5
    by_cases e2:i=(lo + hi) / 2
    ·subst e2;exact c2
    ·exact Z1 (r.lt a (by omega)) c2
   ·rw[x3 c2]
    refine p0 r kx _ _ (by omega) (by omega) (by omega) h4 λi q l => ?_
    by_cases e2:i=(lo + hi) / 2
    ·subst e2;omega
    ·have:=r.lt q (i:=(lo + hi) / 2) (by omega)
     omega
  ·rw[x3 c]
   have:lo=hi:=by omega
   subst this;exact⟨h2,h4,h5⟩
theorem p5 {j:Nat}(r:qQ xs):SetTable.below xs j<=xs.size/\(∀i (q:i < xs.size),i < SetTable.below xs j->xs[i] < j)/\(∀i (q:i < xs.size),SetTable.below xs j<=i->j<=xs[i]) :=
 p0 r _ _ _ (YG _) (ZL _) (by omega) (λi q l=>absurd l (XC _)) λi q l=>absurd q (Nat.not_lt.mpr l)
theorem p6 (r:qQ xs){k:Nat}(d:k < xs.size):SetTable.below xs (xs[k] + 1)=k + 1:=by
 obtain⟨a,b,c⟩:=p5 (j:=xs[k] + 1) r;rcases Nat.lt_trichotomy (SetTable.below xs (xs[k] + 1)) (k + 1) with h|h|h
 ·have:=c k d (by omega);omega
 ·exact h
 ·have h1:k + 1 < xs.size:=by omega
  have:=b (k + 1) h1 h;have:=r.lt h1 (Z4 k);omega
theorem p7 (r:qQ xs):SetTable.below xs 0=0:=by
 obtain⟨a,b,c⟩:=p5 (j:=0) r
 by_cases h:SetTable.below xs 0=0
 ·exact h
 ·exact absurd (b 0 (by omega) (by omega)) (by omega)
theorem we {j:Nat}(r:qQ xs)(n:xs[SetTable.below xs j]? ≠some j):qQ (SetTable.insertAt xs (SetTable.below xs j) j):=by
 obtain⟨a,b,c⟩:=p5 (j:=j) r;generalize SetTable.below xs j=p at a b c n;show List.Pairwise _ _;rw[SetTable.toList_insertAt];have g:(xs.toList.take p++xs.toList.drop p).Pairwise (· < ·):=by rw[YO];exact r
 rw[Z8]at g ⊢;have lo:∀x∈xs.toList.take p,x < j:=λx d=>by
  obtain⟨i,hi,e⟩:=List.mem_take_iff_getElem.mp d;have q:i < xs.size:=by simp at hi;omega
  have:=b i q (by omega);simpa[<-e] using this
 have l:∀x∈xs.toList.drop p,j < x:=λx d=>by
  obtain⟨i,hi,e⟩:=List.mem_drop_iff_getElem.mp d;have q:i + p < xs.size:=by simp at hi;omega
  have h1:=c (i + p) q (by omega);have m:x=xs[i + p]:=by rw[<-e];simp;congr 1;omega
  rcases Nat.lt_or_ge j x with h|h
  ·exact h
  ·exfalso
   have h2:x=j:=by omega
   by_cases i0:i=0
   ·subst i0
    apply n;have k:p < xs.size:=by omega
    rw[Array.getElem?_eq_getElem k,<-h2,m];congr 1;congr 1;omega
   ·have k:p < xs.size:=by omega
    have o:=r.lt q (i:=p) (by omega);have s:=c p k (ZL _);omega
 exact⟨g.1,List.pairwise_cons.mpr ⟨l,g.2.1⟩,λx d y f=>by
  rcases VI.mp f with rfl|f
  ·exact lo x d
  ·exact Z1 (lo x d) (l y f)⟩
theorem xZ (n:Nat):qQ (Array.range n):=by
 show List.Pairwise _ _;rw[Array.toList_range];exact WZ
structure GT (led:Bool) (t:SetTable):Prop where
 up:qQ t.place
 no:t.dummies = #[]
 le:t.led=led
theorem GT.fresh (led:Bool):GT led (.fresh 0 0 led):=⟨List.Pairwise.nil,rfl,rfl⟩
theorem GT.standIn {led:Bool}{t:SetTable}(g:GT led t)(n:Nat):GT led (t.standIn n):=⟨xZ n,rfl,g.le⟩
theorem Df (j:Nat):SetTable.has #[] j=false:=rfl
theorem AY {t:SetTable}{j:Nat}(h:t.slot j=.empty):t.place[SetTable.below t.place j]? ≠some j:=λe=>by
 unfold SetTable.slot at h;simp[e]at h
theorem ug {t:SetTable}{j:Nat}(n:t.dummies = #[]):t.slot j ≠ .dummy:=λe=>by
 unfold SetTable.slot at e;rw[n]at e;simp only[Df]at e;split at e<;>simp at e
theorem qR (t:SetTable)(p:SetTable.Probe):(t.advance p).dummy=p.dummy:=by
 unfold SetTable.advance;split<;>rfl
theorem p8 {t:SetTable}(n:t.dummies = #[])(f:Nat->Int)(h:Int):∀(kx:Nat) (p:SetTable.Probe) {j:Nat} {d:Option Nat},p.dummy=none->SetTable.probe.go t f h kx p=some (.empty j d)->d=none/\t.slot j=.empty
 | 0,_,_,_,_,e=>by cases e
 | kx + 1,p,j,d,pd,e=>by
  unfold SetTable.probe.go at e;cases c:t.slot p.j with
  | empty =>
   rw[c]at e;simp only[YR,SetTable.Met.empty.injEq]at e;obtain⟨rfl,rfl⟩:=e;exact⟨pd,c⟩
  | dummy=>exact absurd c (ug n)
  | live i =>
   rw[c]at e;simp only at e;split at e
   ·simp at e
   ·exact p8 n f h kx _ (by rw[qR];exact pd) e
theorem Fl {t:SetTable}(n:t.dummies = #[]){h:Int}{j:Nat}{b:Bool}(e:t.freeSlot h=some (j,b)):t.slot j=.empty:=by
 unfold SetTable.freeSlot at e;split at e
 ·rename_i j' d q
  obtain⟨rfl,s⟩:=p8 n _ h _ _ rfl q;cases e;exact s
 ·cases e
theorem GT.layNew {led:Bool}{t:SetTable}(g:GT led t)(es:Array (Int × T0))(h:Int)(x:T0):GT led (layNew t es h x).2.1:=by
 unfold PySem.layNew;split
 ·rename_i slot wd e
  have f:=Fl g.no e;have a:GT led (t.put slot).1:=⟨we g.up (AY f),by
   show (if SetTable.has t.dummies slot then _ else t.dummies) = #[];rw[g.no,Df];rfl,g.le⟩
  show GT led (SetTable.orStandIn _ _);unfold SetTable.orStandIn;split
  ·exact a
  ·exact a.standIn _
 ·exact g.standIn _
theorem GT.relayAll {led:Bool}{t:SetTable}(g:GT led t)(es:Array (Int × T0))(n:Nat):GT led (relayAll t es n).2.1:=by
 unfold PySem.relayAll;split
 ·rename_i t' order e
  dsimp only;split
  ·unfold SetTable.relaid SetTable.laid at e
   cases c:SetTable.layClean (SetTable.sizeAbove n - 1) (es.map (·.1)) with
   | none=>rw[c]at e;cases e
   | some owner =>
    rw[c]at e;cases e;refine⟨?_,rfl,g.le⟩;show List.Pairwise _ _;simp only[List.map_filterMap];rw[List.pairwise_filterMap];refine List.Pairwise.imp ?_ WZ;intro a b h x f y d;have ex:x=a:=by
     cases q:owner.getD a none with
     | none=>rw[q]at f;cases f
     | some k=>rw[q]at f;cases f;rfl
    have i:y=b:=by
     cases q:owner.getD b none with
     | none=>rw[q]at d;cases d
     | some k=>rw[q]at d;cases d;rfl
    subst ex;subst i;exact h
  ·exact g.standIn _
 ·exact g.standIn _
end Fm
namespace Fm
open PySem PySem.Spec
def kE:Int × T0->Int
 | (_,.int n _)=>n
 | _=>0
section
variable (prog:T3) (w:T4)
structure uh (led:Bool) (es:Array (Int × T0)) (t:SetTable) (ns:List Int):Prop where
 el:ElemsOf (intKind prog w) es.toList
 ks:(es.toList.map kE).Perm ns
 fit:t.fits es.size=true
 gt:GT led t
def cW (led:Bool) (a:Addr) (ns:List Int) (h:Heap):Prop :=
 ∃es ep t,h.get? a=some { cls:=.type "set",dict:=none,data:=.set es ep t }/\uh prog w led es t ns
end
section
variable {prog:T3} {w:T4} {A:T2} {E:T0->T1->Prop} {s:T1} {led:Bool} {es:Array (Int × T0)} {t:SetTable} {ns:List Int} {a:Addr}
theorem uh.len (g:uh prog w led es t ns):es.size=ns.length:=by
 have:=g.ks.length_eq;simpa using this
theorem ui {e:Int × T0}{k:Int}(h:(intKind prog w).is k e.2=true):kE e=k:=by
 obtain⟨x,y⟩:=e;obtain⟨t,e⟩:=VU (show Value.isInt k y=true from h);subst e;rfl
theorem uh.mem (g:uh prog w led es t ns)(k:Int):k∈ns ↔ ∃e∈es.toList,(intKind prog w).is k e.2=true:=by
 rw[<-g.ks.mem_iff,List.mem_map];constructor
 ·rintro⟨e,b,rfl⟩
  obtain⟨⟨c,h1,_⟩,_⟩:=g.el e b;exact⟨e,b,by rw[ui h1];exact h1⟩
 ·rintro⟨e,b,q⟩
  exact⟨e,b,ui q⟩
theorem cW.put {h:Heap} {o:Obj} {es':Array (Int × T0)} {ep:Nat} {t':SetTable} (b:h.get? a=some { cls:=.type "set",dict:=none,data:=.set es ep t }) :
  (h.update a (Obj.putSet es' t')).get? a=some { cls:=.type "set",dict:=none,data:=.set es' (ep + 1) t' }:=by
 have:=Heap.get?_update_self (Obj.putSet es' t') b rfl;exact this
theorem zY {g:Bool->Sem Unit}(u:∀(b:Bool) (f : T1) (n:Unit->T1->Prop),n () f->wpAny (model prog w) A (g b) n E f){ep:Nat}{c:Array (Int × T0)}{d:SetTable}
  (q:s.heap.get? a=some { cls:=.type "set",dict:=none,data:=.set es ep t }) (G:uh prog w led c d ns) (hb:ns.length < scanBound) {x:Bool} {R:Option Bool->T1->Prop}
  (h:∀h',Heap.SameBut a s.heap h'->cW prog w led a ns h'->R (some true) { s with heap:=h' }) :
  wpAny (model prog w) A (storeSet a c d >>= λ_=>if (!x && d.tooFull)=true then g (relayAll d c (SetTable.grown c.size)).2.2 >>= λ_=>storeSet a (relayAll d c (SetTable.grown c.size)).1 (relayAll d c (SetTable.grown c.size)).2.1 >>= λ_=>pure (some true) else pure (some true)) R E s:=by
 have v:c.size < scanBound:=by rw[G.len];exact hb
 refine z0 (wpAny_storeSet_of q rfl ?_ (V0 v));have k:=cW.put (o:=default) (es':=c) (t':=d) q;have r:=XS s.heap a (Obj.putSet c d);split
 ·have i:=relayAll_perm d c (SetTable.grown c.size)
  have m:=relayAll_fits d c (SetTable.grown c.size);have l:=G.gt.relayAll c (SetTable.grown c.size);generalize relayAll d c (SetTable.grown c.size)=L at i m l;obtain⟨e,j,y⟩:=L;dsimp only at i m l ⊢;have p:uh prog w led e j ns:=⟨G.el.perm i,(i.map kE).trans G.ks,m,l⟩;refine z0 (u _ _ _ ?_);refine z0 (wpAny_storeSet_of k rfl ?_ (V0 (by rw[p.len];exact hb)));refine y3 ?_;refine h ((s.heap.update a (Obj.putSet c d)).update a (Obj.putSet e j)) (r.trans (XS _ a (Obj.putSet e j))) ?_;exact⟨e,_,j,cW.put (o:=default) k,p⟩
 ·exact y3 (h _ r ⟨c,_,d,k,G⟩)
theorem Dg {k:Int}{tk:Tok}{Q:Bool->T1->Prop}(F:cW prog w led a ns s.heap)(hb:ns.length + 1 < scanBound)
  (h:∀h' b,Heap.SameBut a s.heap h'->cW prog w led a (if k∈ns then ns else k :: ns) h'->Q b { s with heap:=h' }) :
  wpAny (model prog w) A (setAddHashed a (.int k tk) (hashInt k)) Q E s:=by
 obtain⟨es,ep,t,l,G⟩:=F;have f:(intKind prog w).is k (.int k tk)=true:=by show Value.isInt k (Value.int k tk)=true;simp[Value.isInt]
 have H:es.size < scanBound:=by rw[G.len];omega
 unfold setAddHashed setAddHashedIn;refine YV (z0 (XA l rfl G.fit ?_));dsimp only;rw[byScan_of (knd:=intKind prog w) (x:=.int k tk) rfl H G.el];simp only[↓reduceIte];unfold setAddByScan;refine z0 (z0 (wpAny_rule (z0 (wpAny_setScan_of (knd:=intKind prog w) f l rfl G.fit G.el ?_))));cases hr:List.findIdx? (λe=>(intKind prog w).is k e.2) es.toList with
 | some j =>
  dsimp only;obtain⟨D,z,_⟩:=List.findIdx?_eq_some_iff_getElem.mp hr;have o:k∈ns:=(G.mem k).mpr ⟨_,YE D,z⟩;refine y3 (y3 ?_);have:=h s.heap false (Heap.SameBut.refl a s.heap);rw[yD o]at this;exact this ⟨es,ep,t,l,G⟩
 | none =>
  dsimp only;have o:k∉ns:=λq=>by
   obtain⟨e,C,q⟩:=(G.mem k).mp q;have:=List.findIdx?_eq_none_iff.mp hr e C;rw[q]at this;cases this
  have i:=layNew_perm t es ((intKind prog w).hash k) (.int k tk);have r:=layNew_fits t es ((intKind prog w).hash k) (.int k tk);have p:=G.gt.layNew es ((intKind prog w).hash k) (.int k tk);show wpAny (model prog w) A (_ >>= λ_=>_) _ _ _;have B:layNew t es (hashInt k) (.int k tk)=layNew t es ((intKind prog w).hash k) (.int k tk):=rfl;simp only[B];generalize layNew t es ((intKind prog w).hash k) (.int k tk)=L at i r p ⊢;obtain⟨u,y,I,J⟩:=L;dsimp only at i r p ⊢;rw[X2]at i;have v:uh prog w led u y (k :: ns):=⟨(G.el.push f rfl).perm i,(i.map kE).trans (by
   rw[ZR];exact(List.perm_append_comm (l₁ := es.toList.map kE) (l₂ := [kE ((intKind prog w).hash k,Value.int k tk)])).trans (List.Perm.cons k G.ks)),r,p⟩
  have g:∀(b:Bool) (d : T1) (n:Unit->T1->Prop),n () d->wpAny (model prog w) A (match b with|true=>rule "set.scan.the-table-gave-way" | false=>pure ()) n E d := λb d n q=>by
   cases b
   ·exact y3 q
   ·exact wpAny_rule q
  have m:∀{c:Bool} h',Heap.SameBut a s.heap h'->cW prog w led a (k :: ns) h'->Q c { s with heap:=h' }:=λ{c} h' q1 q2=>h h' c q1 (by rw[x3 o];exact q2);refine z0 (g _ _ _ ?_);split
  ·refine z0 ?_
   rw[hashByValue_scannable 8 (show (Value.int k tk).scannable=true from rfl)];refine y3 ?_;simp only[plainKind,↓reduceIte];exact zY g l v hb λh' q1 q2=>y3 (m h' q1 q2)
  ·refine z0 (y3 ?_)
   simp only[↓reduceIte];exact zY g l v hb λh' q1 q2=>y3 (m h' q1 q2)
end
end Fm
namespace Fm
def oH (ns:List Int) (k:Int):List Int:=if k∈ns then ns else k :: ns
def cR (l:List Int):List Int:=l.foldl oH []
theorem Dh (ns:List Int)(k x:Int):x∈oH ns k ↔ x∈ns\/x=k:=by
 unfold oH;split
 ·rename_i h
  exact⟨.inl,λq=>q.elim id λe=>e ▸ h⟩
 ·rw[VI];exact Or.comm
theorem x9 {ns:List Int}(h:ns.Nodup)(k:Int):(oH ns k).Nodup:=by
 unfold oH;split
 ·exact h
 ·exact List.nodup_cons.mpr ⟨by assumption,h⟩
theorem wf:∀(l a:List Int) (x:Int),x∈l.foldl oH a ↔ x∈a\/x∈l
 | [],a,x=>by simp
 | k :: l,a,x=>by
  rw[XB,wf l,Dh,VI,or_assoc]
theorem p9:∀(l a:List Int),a.Nodup->(l.foldl oH a).Nodup
 | [],a,h=>h
 | k :: l,a,h=>p9 l _ (x9 h k)
theorem wg:∀(l a:List Int),(l.foldl oH a).length<=a.length + l.length
 | [],a=>by simp
 | k :: l,a=>by
  have:=wg l (oH a k);have h:(oH a k).length<=a.length + 1:=by unfold oH;split<;>simp
  rw[XB,Y7];omega
theorem AZ (l:List Int)(x:Int):x∈cR l ↔ x∈l:=by unfold cR;rw[wf];simp
theorem wj (l:List Int):(cR l).Nodup:=p9 l [] VX
theorem mU (l:List Int):(cR l).length<=l.length:=by unfold cR;have:=wg l [];simpa using this
theorem yb {l:List Int}{i:Nat}(h:i < l.length):cR (l.take (i + 1))=oH (cR (l.take i)) (l.getD i 0):=by
 unfold cR;have e:l.take (i + 1)=l.take i++[l.getD i 0]:=by
  rw[List.take_add_one,ZE h];simp[List.getD,h]
 rw[e,List.foldl_append];rfl
@[simp] def kM (L:LF):LF:=λσ h=>(L σ h).bind λl h=>match cG l with
 | some xs=>if xs.length < 64 then .ok ((dH (cR xs)).map .int) h else .bad
 | none=>.bad
end Fm
namespace Fm
open PySem PySem.Spec
section
variable {prog:T3} {w:T4} {A:T2} {R:Result->T1->Prop} {I:Addr} {fp wr:List Addr} {G:Array GenState->Array GenState->Prop} {P:Nat->T0->Prop} {St:Nat->T1->Prop} {led:Bool}
theorem cW.kept {a:Addr}{ns:List Int}{h h':Heap}(x:cW prog w led a ns h)(k:∀o,h.get? a=some o->h'.get? a=some o):cW prog w led a ns h':=by
 obtain⟨es,ep,t,b,g⟩:=x;exact⟨es,ep,t,k _ b,g⟩
theorem Di (ns:List Int)(W:WalksS prog w A.in1 I fp wr G ns.length P St)(S:Addr)(d:S∉fp)(f:∀i v,P i v->∃t,v=.int (ns.getD i 0) t)(hb:ns.length + 1 < scanBound) :
  ∀(k i:Nat) (s:T1),ns.length - i=k->i<=ns.length->St i s->cW prog w led S (cR (ns.take i)) s.heap->
   (∀a,Moved (S :: wr) G s a->cW prog w led S (cR ns) a.heap->R (.ok (.ret .none)) a)->codeAny (model prog w) A (.builtin "set.update.loop" ⟨[.ref S,.ref I],[]⟩) R s:=by
 have j:S∉wr:=λh=>d (W.sub _ h);have D:∀b∈wr,b∈S :: wr:=λb q=>ZW _ q;intro k
 induction k with
 | zero =>
  intro i s E hi st m B;have e:i=ns.length:=by omega
  subst e;rw[WA]at m;refine W1 PyProof.Rows.F.entry_set_update_loop ?_;rw[WM X6 _];show wpAny _ A.in1 (pyNext (.ref I) >>= _) _ _ s;refine z0 (W.done s _ _ st λa l => ?_);show wpAny _ A.in1 (ret Value.none) _ _ a;exact y3 (B a (l.mono D) (m.kept λo q=>l.heap S o j q))
 | succ k ih =>
  intro i s E hi st m B;have c:i < ns.length:=by omega
  refine W1 PyProof.Rows.F.entry_set_update_loop ?_;rw[WM X6 _];show wpAny _ A.in1 (pyNext (.ref I) >>= _) _ _ s;refine z0 (W.item i s _ _ c st λv a F r l => ?_);obtain⟨t,rfl⟩:=f i v F;have p:cW prog w led S (cR (ns.take i)) a.heap:=m.kept λo q=>l.heap S o j q;show wpAny _ A.in1 (holding [Value.int (ns.getD i 0) t] (setAdd S (.int (ns.getD i 0) t)) >>= _) _ _ a;unfold setAdd;refine z0 (YV (YV (z0 (wpAny_pyHash_int ?_))));have g:(cR (ns.take i)).length + 1 < scanBound:=by
   have h1:=mU (ns.take i);rw[X9]at h1;omega
  refine Dg (s:={ a with toks:=a.toks + 1 }) p g λH b C x => ?_;have z:cW prog w led S (cR (ns.take (i + 1))) H:=by rw[yb c];exact x
  refine y3 ⟨V3 X6 _,ih (i + 1) _ (by omega) c (W.frame _ a _ _ r (VT _) λb hb o e => ?_) z λu n y => ?_⟩
  ·rw[C.2 b (λq:b=S=>d (q ▸ hb))];exact e
  ·refine B u (Moved.trans W.gtrans ((l.mono D).then_heap (VT _) λb o hb e => ?_) n) y
   rw[C.2 b (λq:b=S=>hb (q ▸ ZV))];exact e
end
def fV (w:T4):Bool := !(w.params.followText "set-order")
def cS (w:T4):Obj:={ cls:=.type "set",dict:=none,data:=.set #[] 0 (.fresh 0 0 (fV w)) }
section
variable {prog:T3} {w:T4} {A:T2} {E:T0->T1->Prop} {s:T1}
theorem Fo (a:T0){Q:T0->T1->Prop}(h:Q (.ref s.heap.objs.size) { s with heap:=s.heap.push (cS w) }) :
  codeAny (model prog w) A (.call (.builtin "set.__new__") ⟨[.type "set",a],[]⟩) (wants Q E) s:=by
 refine codeAny_of_tree ?_;show wpAny _ A.in1 (checkBuiltinCall "set.__new__" ⟨[.type "set",a],[]⟩ >>= λ_=>again (.builtin "set.__new__" ⟨[.type "set",a],[]⟩)) _ _ s;refine z0 (wpAny_of_eq (F.newCall_set_1 a) (y3 ⟨V3 F.plain_set_new _,W1 F.entry_set_new ?_⟩));rw[WM F.plain_set_new _];unfold Builtin.«set.__new__» Builtin.Frozenset.newClass;have b:=sub_set_self;obtain⟨c,g,d,tk,os⟩:=s;dsimp only
 wp_walk
 refine wpAny_askSetting (y3 ?_);dsimp only;simp only[newObj];exact z0 (wpAny_alloc (y3 (y3 h)))
theorem A0 (ns:List Int)(e:ns=[]):cW prog w (fV w) s.heap.objs.size ns (s.heap.push (cS w)):=by
 subst e;exact⟨#[],0,_,ZJ _ rfl,λe a=>by simp at a,List.Perm.nil,rfl,GT.fresh _⟩
set_option maxHeartbeats 3200000 in
theorem wm {l:Addr}{items:Array T0}{ns:List Int}{Q:T0->T1->Prop}(hh:A.handled=none)(X:s.heap.IsList l items)(hi:PyProof.Rows.IntsAre items.toList ns)(hb:ns.length + 1 < scanBound)
  (h:∀(h':Heap) (tk:Nat),cW prog w (fV w) s.heap.objs.size (cR ns) h'->(∀b o,s.heap.get? b=some o->h'.get? b=some o)->Q (.ref s.heap.objs.size) { s with heap:=h',toks:=tk }) :
  wpAny (model prog w) A (call (.type "set") [.ref l]) Q E s:=by
 obtain⟨c,tl,T⟩:=F.called_set.mro;have K:=F.called_set.made;have S:=F.called_set.sub;refine wpAny_call (codeAny_of_tree ?_);show wpAny _ _ (callAny (.type "set") _) _ _ _;refine y3 ⟨Code.quiet_builtin _ (by decide +kernel),W1 F.entry_type_call ?_⟩;rw[Around.under_plain (weight_type_call_type "set" [.ref l] []) rfl];have h1:=F.called_set.notType;have h2:=F.called_set.canCreate;have a2:=F.typeCall_set_1 (.ref l)
 repeat (any_goals (first|assumption|wp_step))
 refine VV (Fo (.ref l) (E:=E) (Q:=λv g => v=.ref s.heap.objs.size/\g = { s with heap:=s.heap.push (cS w) }) ⟨rfl,rfl⟩) λr g G => ?_;cases r with
 | error e=>exact G
 | ok fl =>
  cases fl with
  | ret obj =>
   obtain⟨rfl,rfl⟩:=G;have hS:(s.heap.push (cS w)).get? s.heap.objs.size=some (cS w):=ZJ _ rfl;have hT:Shared.TypeIs { s with heap:=s.heap.push (cS w) } (.ref s.heap.objs.size) "set" := ⟨_,hS,rfl⟩;have a0:=F.called_set.init.lookup;have Y:=F.called_set.init.bind (.ref s.heap.objs.size)
   repeat (any_goals (first|assumption|wp_step))
   refine VV (codeAny_call_builtin (R:=wants (λr f => r=.none/\∃h' tk,f = { s with heap:=h',toks:=tk }/\cW prog w (fV w) s.heap.objs.size (cR ns) h'/\(∀b o,s.heap.get? b=some o->h'.get? b=some o)) E) F.called_set.init.plain F.entry_set_init (check_set_init_1 hT ?_)) λy f a => ?_
   ·obtain⟨ol,n,x,O,p⟩:=X
    obtain⟨U,j,M,d⟩:=ol;simp only at x p;subst x;subst p;have I:(s.heap.push (cS w)).get? l=some { cls:=.type "list",dict:=j,data:=.seq items O,slots:=d }:=ZH _ n;have N:=F.sub_list_set;have P:=F.sub_list_frozenset;have a1:(Value.type "list" == Value.type "dict")=false:=by decide
    have B:(s.heap.push (cS w)).IsList l items:=⟨_,I,rfl,O,rfl⟩;unfold Builtin.«set.__init__» noKeywords Builtin.Frozenset.updateFrom;generalize hPI:pyIter=PI
    wp_walk
    subst hPI;refine wpAny_pyIter_list B ?_;refine z0 (wpAny_runValue ?_);have lt:l < s.heap.objs.size:=ZI n;have J:A.in1.in1.in1.handled=none:=by simp[hh]
    have nI:l≠(s.heap.push (cS w)).objs.size:=by rw[YQ];exact ZN (v4 lt)
    have nS:s.heap.objs.size∉[(s.heap.push (cS w)).objs.size,l]:=by
     rw[YQ];simp only[VI,List.not_mem_nil,or_false,not_or];exact⟨ZN (Z4 _),Z6 lt⟩
    have u:items.size=ns.length:=by have:=PyProof.Rows.IntsAre.length hi;simpa using this
    have m:∀(i:Nat) (v:T0),items[i]? = some v->∃t,v=.int (ns.getD i 0) t:=λi v hv=>PyProof.Rows.IntsAre.int_at hi i v (by rw[Array.getElem?_toList];exact hv);have W:=(Walks.list (prog:=prog) (w:=w) J (s.heap.push (cS w)).objs.size l nI items).toS;rw[u]at W;refine Di (led:=fV w) ns W s.heap.objs.size nS m hb (ns.length - 0) 0 _ rfl (YG _) ⟨⟨_,ZJ _ rfl,rfl,rfl⟩,B.push _⟩ ((A0 _ rfl).kept λo q=>ZH _ q) λV C k => ?_;obtain⟨h',g',Z,H,D⟩:=V;have eg:g'=s.gens:=C.gens;have ed:Z=s.drawn:=C.drawn;have eo:D=s.os:=C.os;subst eg;subst ed;subst eo;show wpAny _ _ _ _ _ _;refine y3 ?_;show wpAny _ _ (ret Value.none) _ _ _;refine y3 ⟨rfl,h',H,rfl,k,λb o e => ?_⟩;have z:=ZI e;exact C.heap b o (by rw[YQ];simp only[VI,List.not_mem_nil,or_false,not_or];exact⟨ZN z,ZN (v4 z)⟩) (ZH _ (ZH _ e))
   ·cases y with
    | error e=>exact a
    | ok fl₂ =>
     cases fl₂ with
     | ret r =>
      obtain⟨rfl,h',tk,rfl,k,L⟩:=a
      repeat (any_goals (first|assumption|wp_step))
      exact h _ _ k L
     | _=>exact a.elim
  | _=>exact G.elim
end
theorem cD:Slot "set_iterator" "__next__" "set_iterator.__next__" :=
 .of (owner := "set_iterator") (n := "__next__") (by rw[typeLookup_type,builtinLookup_eq_fast];kernel_rfl) (by decide +kernel) (by decide +kernel) (by decide +kernel) (by first|exact .inl (by decide +kernel)|exact .inr (by decide +kernel)) (by rw[Y2];kernel_rfl)
theorem qa:Slot "set_iterator" "__iter__" "set_iterator.__iter__" :=
 .of (owner := "set_iterator") (n := "__iter__") (by rw[typeLookup_type,builtinLookup_eq_fast];kernel_rfl) (by decide +kernel) (by decide +kernel) (by decide +kernel) (by first|exact .inl (by decide +kernel)|exact .inr (by decide +kernel)) (by rw[Y2];kernel_rfl)
theorem iU:entryFor table "set_iterator.__next__" = some Builtin.«set_iterator.__next__» := entryFor_of_tree (by kernel_rfl)
theorem kh (a:T0):argsOk "set_iterator.__next__" ⟨[a],[]⟩:=by unfold argsOk;kernel_rfl
theorem yc:entryFor table "set.__iter__" = some Builtin.«frozenset.__iter__» := entryFor_alias (id' := "frozenset.__iter__") (by kernel_rfl) rfl (by decide +kernel) (by kernel_rfl)
theorem wn:entryFor table "set_iterator.__iter__" = some Builtin.«dict_keyiterator.__iter__» := entryFor_alias (id' := "dict_keyiterator.__iter__") (by kernel_rfl) rfl (by decide +kernel) (by kernel_rfl)
theorem yd (a:T0):argsOk "set_iterator.__iter__" ⟨[a],[]⟩:=by unfold argsOk;kernel_rfl
def jO (first:T0) (i:Nat) (q:Addr) (n ep:Nat):Obj:={ cls:=.type "set_iterator",data:=.fields #[first,.int i 0,.ref q,.int n 0,.int ep 0] }
def jP (es:Array (Int × T0)) (ep:Nat) (t:SetTable):Obj:={ cls:=.type "set",dict:=none,data:=.set es ep t }
section
variable {prog:T3} {w:T4} {A:T2} {E:T0->T1->Prop} {s:T1} {I q:Addr} {i n ep sl sl':Nat} {es:Array (Int × T0)} {t:SetTable} {x:T0}
def mV (prog:T3) (w:T4) (q:Addr) (es:Array (Int × T0)) (ep:Nat) (t:SetTable) (sl i:Nat) (r:Option (T0 × Nat)):Prop :=
 ∀(A:T2) (Q:Option (T0 × Nat)->T1->Prop) (E:T0->T1->Prop) (s:T1),s.heap.get? q=some (jP es ep t)->Q r s->wpAny (model prog w) A (setNext q sl i ep) Q E s
theorem ye {Q:Option T0->T1->Prop}(a:s.heap.get? I=some (jO (.int sl 0) i q n ep))(hq:s.heap.get? q=some (jP es ep t))(fit:t.fits es.size=true)(hn:es.size=n)(N:mV prog w q es ep t sl i (some (x,sl')))
  (c:∀h',h'.get? I=some (jO (.int sl' 0) (i + 1) q n ep)->Heap.SameBut I s.heap h'->Q (some x) { s with heap:=h' }):wpAny (model prog w) A (pyNext (.ref I)) Q E s:=by
 have b:s.TypeIs (.ref I) "set_iterator" := ⟨_,a,rfl⟩;unfold pyNext;refine z0 (VH (wpAny_callSpecial?_slot (name:=Str.ofString "__next__") b cD (YP cD b iU ?_ (kh _))));unfold Builtin.«set_iterator.__next__»;refine z0 (y3 ?_);refine z0 (wpAny_fieldsOf a rfl ?_);show wpAny _ _ (setEntries q >>= _) _ _ s;refine z0 (WS hq rfl fit ?_);rw[x3 (by rw[hn];simp)];show wpAny _ _ (setNext q sl i ep >>= _) _ _ s;refine z0 (N _ _ _ _ hq ?_);dsimp only;refine z0 (WD a rfl (by simp) ?_);have h1:(s.heap.update I (Obj.mapFields (·.setIfInBounds 0 (rawInt sl')))).get? I=some (jO (.int sl' 0) i q n ep):=Heap.get?_update_self _ a rfl;refine z0 (WD h1 rfl (by simp) ?_);have h2:=Heap.get?_update_self (Obj.mapFields (·.setIfInBounds 1 (rawInt ((i:Int) + 1)))) h1 rfl;refine y3 ⟨x,rfl,y3 (c _ h2 ((XS ..).trans (XS ..)))⟩
theorem sE {h0:Heap}{Q:Option T0->T1->Prop}(d:A.handled=none)(g:∀h',(∀b o,b≠I->s.heap.get? b=some o->h'.get? b=some o)->Q none { s with heap:=h' })(k:∀b o,b≠I->s.heap.get? b=some o->h0.get? b=some o) :
  wpAny (model prog w) A.in1 (newExc (.type "StopIteration") [] >>= λe=>(raiseNew e:Sem Fin)) (λ_ _=>False) (λe c=>wpAny (model prog w) A (isInstance e (.type "StopIteration") >>= λb=>if b=true then (pure none:Sem (Option T0)) else throw e) Q E c) { s with heap:=h0 }:=by
 refine z0 ?_;simp only[newExc,newTuple];refine z0 (YJ ?_ (by size_fits));refine z0 (m:=firstArgMember _ _) (wpAny_of_eq (a:=Value.none) (by first|rfl|(simp only[firstArgMember];rfl)) ?_);refine YJ ?_ (by size_fits);simp only[raiseNew];refine z0 (wpAny_handled ?_);rw[show A.in1.handled=none from d];refine z0 (y3 (wpAny_throw ?_));refine z0 (wpAny_isInstance (T := "StopIteration") (b:=true) ⟨_,ZJ _ rfl,rfl⟩ isSubtype_stop ?_);exact y3 (g _ λb o f e=>ZH _ (ZH _ (k b o f e)))
theorem A1 {Q:Option T0->T1->Prop}(d:A.handled=none)(a:s.heap.get? I=some (jO (.int sl 0) i q n ep))(hq:s.heap.get? q=some (jP es ep t))(fit:t.fits es.size=true)(hn:es.size=n)(N:mV prog w q es ep t sl i none)
  (g:∀h',(∀b o,b≠I->s.heap.get? b=some o->h'.get? b=some o)->Q none { s with heap:=h' }):wpAny (model prog w) A (pyNext (.ref I)) Q E s:=by
 have c:s.TypeIs (.ref I) "set_iterator" := ⟨_,a,rfl⟩;unfold pyNext;refine z0 (VH (wpAny_callSpecial?_slot (name:=Str.ofString "__next__") c cD (YP cD c iU ?_ (kh _))));unfold Builtin.«set_iterator.__next__»;refine z0 (y3 ?_);refine z0 (wpAny_fieldsOf a rfl ?_);show wpAny _ _ (setEntries q >>= _) _ _ s;refine z0 (WS hq rfl fit ?_);rw[x3 (by rw[hn];simp)];show wpAny _ _ (setNext q sl i ep >>= _) _ _ s;refine z0 (N _ _ _ _ hq ?_);dsimp only;refine z0 (WD a rfl (by simp) ?_);refine WB (sE (s:=s) (I:=I) (E:=E) d g λb o f e=>(Heap.get?_update_ne _ _ _ _ f).trans e) (λ_ _ z=>z.elim) λe h z=>z
theorem yf {T:Addr} {ps:List Nat} {m p:Nat} {y:Int} {Q:Option T0->T1->Prop} (a:s.heap.get? I=some (jO (.ref T) i q n ep)) (hq:s.heap.get? q=some (jP es ep t)) (c:s.heap.get? T=some { cls:=.type "tuple",data:=.seq (ps.map λ(k:Nat)=>Value.int k 0).toArray m }) (fit:t.fits es.size=true) (hn:es.size=n) (hp:ps[i]? = some p) (hx:es[p]? = some (y,x))
  (e:∀h',h'.get? I=some (jO (.ref T) (i + 1) q n ep)->Heap.SameBut I s.heap h'->Q (some x) { s with heap:=h' }):wpAny (model prog w) A (pyNext (.ref I)) Q E s:=by
 have d:s.TypeIs (.ref I) "set_iterator" := ⟨_,a,rfl⟩;unfold pyNext;refine z0 (VH (wpAny_callSpecial?_slot (name:=Str.ofString "__next__") d cD (YP cD d iU ?_ (kh _))));unfold Builtin.«set_iterator.__next__»;refine z0 (y3 ?_);refine z0 (wpAny_fieldsOf a rfl ?_);show wpAny _ _ (setEntries q >>= _) _ _ s;refine z0 (WS hq rfl fit ?_);rw[x3 (by rw[hn];simp)];show wpAny _ _ (seqItems? (.ref T) >>= _) _ _ s;refine z0 (wpAny_seqItems c rfl ?_);have b:(ps.map λ(k:Nat)=>Value.int k 0).toArray[((i:Int)).toNat]? = some (.int p 0):=by simp[hp]
 simp only[b];show wpAny _ _ (setNextDrawn q p ep >>= _) _ _ s;unfold setNextDrawn;refine z0 (z0 (XA hq rfl fit ?_));simp only[bne_self_eq_false,YA,XF,hx];refine y3 ?_;refine z0 (WD a rfl (by simp) ?_);have h2:=Heap.get?_update_self (Obj.mapFields (·.setIfInBounds 1 (rawInt ((i:Int) + 1)))) a rfl;refine y3 ⟨x,rfl,y3 (e _ h2 (XS ..))⟩
theorem A2 {T:Addr} {ps:List Nat} {m:Nat} {Q:Option T0->T1->Prop} (j:A.handled=none) (a:s.heap.get? I=some (jO (.ref T) i q n ep)) (hq:s.heap.get? q=some (jP es ep t)) (d:s.heap.get? T=some { cls:=.type "tuple",data:=.seq (ps.map λ(k:Nat)=>Value.int k 0).toArray m }) (fit:t.fits es.size=true) (hn:es.size=n) (hp:ps[i]? = none)
  (h:∀h',(∀b o,b≠I->s.heap.get? b=some o->h'.get? b=some o)->Q none { s with heap:=h' }):wpAny (model prog w) A (pyNext (.ref I)) Q E s:=by
 have g:s.TypeIs (.ref I) "set_iterator" := ⟨_,a,rfl⟩;unfold pyNext;refine z0 (VH (wpAny_callSpecial?_slot (name:=Str.ofString "__next__") g cD (YP cD g iU ?_ (kh _))));unfold Builtin.«set_iterator.__next__»;refine z0 (y3 ?_);refine z0 (wpAny_fieldsOf a rfl ?_);show wpAny _ _ (setEntries q >>= _) _ _ s;refine z0 (WS hq rfl fit ?_);rw[x3 (by rw[hn];simp)];show wpAny _ _ (seqItems? (.ref T) >>= _) _ _ s;refine z0 (wpAny_seqItems d rfl ?_);have c:(ps.map λ(k:Nat)=>Value.int k 0).toArray[((i:Int)).toNat]? = none:=by
  rw[List.getElem?_eq_none_iff]at hp;simp[hp]
 simp only[c];refine z0 (WD a rfl (by simp) ?_);have h1:(s.heap.update I (Obj.mapFields (·.setIfInBounds 0 (rawInt 0)))).get? I=some (jO (.int 0 0) i q n ep):=Heap.get?_update_self _ a rfl;refine z0 (WD h1 rfl (by simp) ?_);refine WB (sE (s:=s) (I:=I) (E:=E) j h λb o f e=>(Heap.get?_update_ne _ _ _ _ f).trans ((Heap.get?_update_ne _ _ _ _ f).trans e)) (λ_ _ z=>z.elim) λe l z=>z
theorem wo {first:T0}{Q:T0->T1->Prop}(a:s.heap.get? I=some (jO first i q n ep))(h:Q (.ref I) s):wpAny (model prog w) A (pyIter (.ref I)) Q E s:=by
 have b:s.TypeIs (.ref I) "set_iterator" := ⟨_,a,rfl⟩;refine wpAny_pyIter_slot b qa (YP qa b wn ?_ (yd _));unfold Builtin.«dict_keyiterator.__iter__»;refine z0 (y3 ?_);exact y3 ⟨_,rfl, "set_iterator",_,b,cD.lookup,h⟩
theorem Gn (m:A.handled=none)(d:q≠I)(fit:t.fits es.size=true)(sl:Nat->Nat)(v:Nat->T0)(N:∀i,i < es.size->mV prog w q es ep t (sl i) i (some (v i,sl (i + 1))))(Ne:mV prog w q es ep t (sl es.size) es.size none) :
  Walks prog w A I [I,q] [I] es.size (λi x=>x=v i) (λi h=>h.get? I=some (jO (.int (sl i) 0) i q es.size ep)/\h.get? q=some (jP es ep t)) where
 sub:=λb a=>by simp at a;simp[a]
 frame:=λ_ _ _ st j=>⟨j I (by simp) _ st.1,j q (by simp) _ st.2⟩
 item:=λi s Q E hi st c=>ye st.1 st.2 fit rfl (N i hi) λg f l=>c _ g s.toks rfl ⟨f,(l.2 q d).trans st.2⟩ λb o a e=>(l.2 b λz=>a (by simp[z])).trans e
 done:=λs Q E st c=>A1 m st.1 st.2 fit rfl Ne λg k=>c g s.toks λb o a e=>k b o (λz=>a (by simp[z])) e
 self:=λ_ _ _ _ st c=>wo st.1 c
theorem JZ {T:Addr}{ps:List Nat}(v:A.handled=none)(g:q≠I)(m:T≠I)(fit:t.fits es.size=true)(C:ps.length=es.size)(hp:∀(i p:Nat),ps[i]? = some p->p < es.size) :
  Walks prog w A I [I,q,T] [I] es.size (λi x=>∃p y,ps[i]? = some p/\es[p]? = some (y,x)) (λi h=>h.get? I=some (jO (.ref T) i q es.size ep)/\h.get? q=some (jP es ep t)/\h.get? T=some { cls:=.type "tuple",data:=.seq (ps.map λ(k:Nat)=>Value.int k 0).toArray 0 }) where
 sub:=λb a=>by simp at a;simp[a]
 frame:=λ_ _ _ st d=>⟨d I (by simp) _ st.1,d q (by simp) _ st.2.1,d T (by simp) _ st.2.2⟩
 item:=λi s Q E hi st c=>by
  have hi2:i < ps.length:=by omega
  have f:ps[i]? = some ps[i]:=ZE hi2;have B:=hp i _ f;have u:es[ps[i]]? = some (es[ps[i]].1,es[ps[i]].2):=Array.getElem?_eq_getElem B;exact yf st.1 st.2.1 st.2.2 fit rfl f u λr j l=>c _ r s.toks ⟨_,_,f,u⟩ ⟨j,(l.2 q g).trans st.2.1,(l.2 T m).trans st.2.2⟩ λb o a e=>(l.2 b λz=>a (by simp[z])).trans e
 done:=λs Q E st c=>A2 v st.1 st.2.1 st.2.2 fit rfl (List.getElem?_eq_none (by omega)) λr k=>c r s.toks λb o a e=>k b o (λz=>a (by simp[z])) e
 self:=λ_ _ _ _ st c=>wo st.1 c
end
theorem kN {α : Type}:∀(l:List α) (i:Nat) (x : α),l[i]? = some x->(x :: l.eraseIdx i).Perm l
 | [],_,_,e=>by simp at e
 | y :: l,0,x,e=>by simp at e;subst e;exact List.Perm.refl _
 | y :: l,i + 1,x,e=>by
  rw[List.eraseIdx_cons_succ];exact(List.Perm.swap y x _).trans (List.Perm.cons y (kN l i x (by simpa using e)))
theorem zZ {α : Type}(f:Nat->Nat):∀(n k:Nat) (left:List α) (out:Array α),left.length=n->(pickOrder.go f n k left out).toList.Perm (out.toList++left)
 | 0,k,left,out,h=>by
  have:left=[]:=List.length_eq_zero_iff.mp h;subst this;simp[pickOrder.go]
 | n + 1,k,left,out,h=>by
  unfold pickOrder.go;have hi:f k % left.length < left.length:=Nat.mod_lt _ (by omega);have e:left[f k % left.length]? = some (left[f k % left.length]):=ZE hi;rw[e];refine(zZ f n (k + 1) _ _ (by rw[List.length_eraseIdx_of_lt hi];omega)).trans ?_;rw[X2,ZU];exact List.Perm.append_left _ (kN _ _ _ e)
theorem A3 {α : Type}(f:Nat->Nat)(xs:Array α):(pickOrder f xs).toList.Perm xs.toList:=by
 have:=zZ f xs.size 0 xs.toList #[] (by simp);simpa[pickOrder] using this
section
variable {M:Model} {prog:T3} {w:T4} {A:T2} {E:T0->T1->Prop} {s:T1}
theorem A4 {a:Source}{n:Nat}{Q:Nat->T1->Prop}(hn:n≠0)(h:∀i b,i < n->Q i { s with drawn:=b }):wpAny M A (choose a n) Q E s:=by
 intro c p _;exact⟨hn,h _ _ (Nat.mod_lt _ (Nat.pos_of_ne_zero hn))⟩
theorem sF {α : Type}:∀(n:Nat) (xs:List α) {s:T1} {Q:List α->T1->Prop},xs.length=n->(∀ys b,ys.Perm xs->Q ys { s with drawn:=b })->wpAny M A (drawOrder n xs) Q E s
 | 0,xs,s,Q,hl,h=>by
  have e:xs=[]:=List.length_eq_zero_iff.mp hl;subst e;exact y3 (h [] s.drawn (List.Perm.refl _))
 | n + 1,[],s,Q,hl,h=>by simp at hl
 | n + 1,x :: xs,s,Q,hl,h=>by
  unfold drawOrder;refine z0 (A4 (by simp) λi b hi => ?_);have e:(x :: xs)[i]? = some (x :: xs)[i]:=ZE hi;rw[e];dsimp only;refine z0 (sF n _ (s:={ s with drawn:=b }) (by rw[List.length_eraseIdx_of_lt hi];omega) λys a p => ?_);exact y3 (h _ a ((List.Perm.cons _ p).trans (kN _ _ _ e)))
theorem o6 {Q:Bool->T1->Prop} (h:Q (w.params.followText "set-order") s):wpAny (model prog w) A setsByText Q E s:=by
 unfold setsByText;exact z0 (wpAny_askSetting (y3 h))
variable {q:Addr} {es:Array (Int × T0)} {ep:Nat} {t:SetTable} {ns:List Int}
theorem Gp (hb:w.params.followText "set-order" = true) (fit:t.fits es.size=true) (i:Nat):mV prog w q es ep t 0 i (((pickOrder (w.params.setOrder q ep) es)[i]?).map λe=>(e.2,0)):=by
 intro A Q E s a h;unfold setNext;refine z0 (XA a rfl fit ?_);refine z0 (o6 ?_);refine Y5 (λ_ => ?_) λz=>absurd hb z;refine Y5 (λz=>by simp at z) λ_ => ?_;unfold setWalk;refine z0 (z0 (XA a rfl fit ?_));refine z0 (o6 ?_);refine Y5 (λ_ => ?_) λz=>absurd hb z;exact z0 (wpAny_askSetting (y3 (y3 h)))
theorem Gq (hb:w.params.followText "set-order" = false) (fit:t.fits es.size=true) (g:GT true t) (hd:(!t.plain && decide (es.size > 1))=false) (sl i:Nat):mV prog w q es ep t sl i (match es[SetTable.below t.place sl]?,t.place[SetTable.below t.place sl]? with|some (_,x),some j=>some (x,j + 1)|_,_=>none):=by
 intro A Q E s a h;unfold setNext;refine z0 (XA a rfl fit ?_);refine z0 (o6 ?_);refine Y5 (λz=>by rw[hb]at z;cases z) λ_ => ?_;refine Y5 (λz=>absurd (show (!t.plain && decide (es.size > 1))=true from z) (by rw[hd];simp)) λ_ => ?_;refine z0 (m:=if (!t.led && !es.isEmpty)=true then unsupported "set:maker-not-led" else pure ()) ?_;rw[g.le];exact y3 (y3 h)
end
section
variable {prog:T3} {w:T4} {A:T2} {E:T0->T1->Prop} {s:T1} {q:Addr} {es:Array (Int × T0)} {ep:Nat} {t:SetTable} {ns:List Int} {led:Bool}
theorem z4:∀(l:List (Int × T0)),ElemsOf (intKind prog w) l->PyProof.Rows.IntsAre (l.map (·.2)) (l.map kE)
 | [],_=>.nil
 | e :: l,h=>by
  obtain⟨⟨k,h1,_⟩,_⟩:=h e (.head _);obtain⟨tk,h2⟩:=VU (show Value.isInt k e.2=true from h1);have b:kE e=k:=ui h1;rw[x8,x8,b,h2];exact .cons k tk (z4 l λx a=>h x (.tail _ a))
theorem qb (G:uh prog w led es t ns){l:List (Int × T0)}(p:l.Perm es.toList){P:Nat->T0->Prop}(b:∀j v,P j v->j < l.length->v=(l.getD j (0,.none)).2){acc:Array T0}(h:ItemsOf P acc ns.length) :
  ∃a,PyProof.Rows.IntsAre acc.toList a/\a.Perm ns:=by
 have d:l.length=ns.length:=by rw[p.length_eq,YC,G.len]
 have e:acc.toList=l.map (·.2):=by
  apply YB;intro j
  by_cases hj:j < ns.length
  ·have h1:j < acc.size:=by rw[h.1];exact hj
   have h2:j < l.length:=by omega
   have c:=b j acc[j] (h.2 j _ (Array.getElem?_eq_getElem h1)) h2;rw[Array.getElem?_toList,Array.getElem?_eq_getElem h1,c];simp[List.getD,h2]
  ·rw[List.getElem?_eq_none (by rw[YC,h.1];omega),List.getElem?_eq_none (by simp;omega)]
 refine⟨l.map kE,?_,(p.map kE).trans G.ks⟩;rw[e];exact z4 (prog:=prog) (w:=w) l (G.el.perm p)
theorem Dj {α : Type}(d : α)(es:Array α):(List.range es.size).map (λp=>es.getD p d)=es.toList:=by
 apply YB;intro j
 by_cases hj:j < es.size
 ·simp[hj,Array.getD]
 ·simp[hj]
theorem Dk (h:t.fits es.size=true):t.place.size=es.size:=by
 simp only[SetTable.fits,Z7,beq_iff_eq]at h;exact h.1
def ot (t:SetTable):Nat->Nat
 | 0=>0
 | i + 1=>t.place.getD i 0 + 1
theorem Dl {Q:T0->T1->Prop}(Y:cW prog w (fV w) q ns s.heap)(hb:ns.length < scanBound)
  (h:∀(I:Addr) (h':Heap) (O:Drawn) (fp:List Addr) (P:Nat->T0->Prop) (St:Nat->Heap->Prop),(∀b o,s.heap.get? b=some o->h'.get? b=some o)->s.heap.objs.size<=I->(∀b∈fp,b=q\/s.heap.objs.size<=b)->
   (∀f:T2,f.handled=none->Walks prog w f I fp [I] ns.length P St)->St 0 h'->(∀acc,ItemsOf P acc ns.length->∃R,PyProof.Rows.IntsAre acc.toList R/\R.Perm ns)->Q (.ref I) { s with heap:=h',drawn:=O }) :
  wpAny (model prog w) A (pyIter (.ref q)) Q E s:=by
 obtain⟨es,ep,t,g,G⟩:=Y;have T:s.TypeIs (.ref q) "set" := ⟨_,g,rfl⟩;have K:q < s.heap.objs.size:=ZI g;have H:q≠s.heap.objs.size:=ZN K;have d:=G.len;have V:=Dk G.fit;refine wpAny_pyIter_slot T F.slot_set_iter (YP F.slot_set_iter T yc ?_ (F.args_set_iter_1 _));unfold Builtin.«frozenset.__iter__» Builtin.Frozenset.slot0 Builtin.Frozenset.sizeOf;refine z0 (z0 (y3 (y3 ?_)));refine z0 (z0 (WS g rfl G.fit (y3 ?_)));unfold setDrawn;refine z0 (z0 (XA g rfl G.fit ?_));refine z0 (o6 (y3 ?_));cases hB:w.params.followText "set-order" with
 | true =>
  refine Y5 (λz=>by simp at z) λ_ => ?_;refine z0 (y3 (z0 ?_));unfold setEpoch;refine z0 (XA g rfl G.fit (y3 ?_));refine z0 (YJ ?_ (by size_fits));refine y3 ⟨_,rfl, "set_iterator",_,⟨_,ZJ _ rfl,rfl⟩,cD.lookup,?_⟩;have m:=A3 (w.params.setOrder q ep) es;have X:(pickOrder (w.params.setOrder q ep) es).size=es.size:=by have:=m.length_eq;simpa using this
  have W:=λ(f:T2) (u:f.handled=none)=>Gn (prog:=prog) (w:=w) (A:=f) (ep:=ep) u H G.fit (λ_=>0) (λi=>((pickOrder (w.params.setOrder q ep) es).toList.getD i (0,.none)).2) (λi hi=>by
   have z:=Gp (prog:=prog) (q:=q) (ep:=ep) hB G.fit i;have e:((pickOrder (w.params.setOrder q ep) es)[i]?).map (λe=>(e.2,0))=some (((pickOrder (w.params.setOrder q ep) es).toList.getD i (0,Value.none)).2,0):=by
    have hi2:i < (pickOrder (w.params.setOrder q ep) es).size:=by omega
    simp[List.getD,hi2]
   rw[e]at z;exact z) (by
   have z:=Gp (prog:=prog) (q:=q) (ep:=ep) hB G.fit es.size;rw[Array.getElem?_eq_none (by omega)]at z;exact z)
  rw[d]at W;refine h s.heap.objs.size _ s.drawn _ _ _ (λb o e=>ZH _ e) (ZL _) (λb hb => ?_) W ⟨?_,ZH _ g⟩ λacc x=>qb G m (λj v e _=>e) x
  ·rcases VI.mp hb with rfl|hb
   ·exact .inr (ZL _)
   ·exact .inl (YL.mp hb)
  ·rw[<-d];exact ZJ _ rfl
 | false =>
  have n:GT true t:=by have:=G.gt;rw[show fV w=true from by unfold fV;rw[hB];rfl]at this;exact this
  cases hD:(!t.plain && decide (es.size > 1)) with
  | true =>
   refine Y5 (λ_ => ?_) λz=>absurd (show (!false && (!t.plain && decide (es.size > 1)))=true from by rw[hD];rfl) z;refine z0 (sF es.size (List.range es.size) (by simp) λps O m => ?_);have C:ps.length=es.size:=by rw[m.length_eq,ZO]
   simp only[newTuple];refine z0 (YJ ?_ (show (List.map (λ(i:Nat)=>rawInt i) ps).toArray.size<=sizeLine by rw[w9,ZA,C];exact V0 (by omega)));refine z0 ?_;unfold setEpoch;have B:∀o:Obj,(s.heap.push o).get? q=some (jP es ep t):=λo=>ZH _ g;refine z0 (XA (B _) rfl G.fit (y3 ?_));refine z0 (YJ ?_ (by size_fits));refine y3 ⟨_,rfl, "set_iterator",_,⟨_,ZJ _ rfl,rfl⟩,cD.lookup,?_⟩;have D:∀o:Obj,q≠(s.heap.push o).objs.size:=λo=>by rw[YQ];exact ZN (v4 K)
   have N:∀o:Obj,s.heap.objs.size≠(s.heap.push o).objs.size:=λo=>by rw[YQ];exact ZN (Z4 _)
   have W:=λ(f:T2) (u:f.handled=none)=>JZ (prog:=prog) (w:=w) (A:=f) (ep:=ep) (t:=t) u (D { cls:=.type "tuple",data:=.seq (ps.map λ(k:Nat)=>rawInt k).toArray }) (N { cls:=.type "tuple",data:=.seq (ps.map λ(k:Nat)=>rawInt k).toArray }) G.fit C λi p e=>by
    have:=(m.mem_iff (a:=p)).mp (ZK e);simpa using this
   rw[d]at W;refine h _ _ O _ _ _ (λb o e=>ZH _ (ZH _ e)) (by rw[YQ];exact VT _) (λb hb => ?_) W ⟨?_,ZH _ (B _),ZH _ (ZJ _ rfl)⟩ λacc x=>qb G (l:=ps.map λp=>es.getD p (0,.none)) ?_ (λj v e r => ?_) x
   ·rcases VI.mp hb with rfl|hb
    ·exact .inr (by rw[YQ];exact VT _)
    ·rcases VI.mp hb with rfl|hb
     ·exact .inl rfl
     ·rw[YL.mp hb];exact .inr (ZL _)
   ·rw[<-d];exact ZJ _ rfl
   ·have:=m.map λp=>es.getD p (0,Value.none)
    rw[Dj]at this;exact this
   ·obtain⟨p,y,S,L⟩:=e
    have U:p < es.size:=by
     have:=(m.mem_iff (a:=p)).mp (ZK S);simpa using this
    rw[Array.getElem?_eq_getElem U]at L;have M:(ps.map λp=>es.getD p (0,Value.none)).getD j (0,Value.none)=es[p]:=by simp[List.getD,S,Array.getD,U]
    rw[M,ZT L]
  | false =>
   refine Y5 (λz=>absurd (show (!false && (!t.plain && decide (es.size > 1)))=true from z) (by rw[hD];simp)) λ_ => ?_;refine z0 (y3 (z0 ?_));unfold setEpoch;refine z0 (XA g rfl G.fit (y3 ?_));refine z0 (YJ ?_ (by size_fits));refine y3 ⟨_,rfl, "set_iterator",_,⟨_,ZJ _ rfl,rfl⟩,cD.lookup,?_⟩;have W:=λ(f:T2) (u:f.handled=none)=>Gn (prog:=prog) (w:=w) (A:=f) (ep:=ep) (t:=t) u H G.fit (ot t) (λi=>(es.toList.getD i (0,.none)).2) (λi hi=>by
    have z:=Gq (prog:=prog) (q:=q) (ep:=ep) hB G.fit n hD (ot t i) i;have J:i < t.place.size:=by omega
    have e:SetTable.below t.place (ot t i)=i:=by
     cases i with
     | zero=>exact p7 n.up
     | succ j =>
      have r:j < t.place.size:=by omega
      have:=p6 n.up r;simpa[ot,Array.getD,r] using this
    rw[e,Array.getElem?_eq_getElem hi,Array.getElem?_eq_getElem J]at z;have L:(es.toList.getD i (0,Value.none)).2=es[i].2:=by simp[List.getD,hi]
    have M:t.place.getD i 0=t.place[i]:=by simp[Array.getD,J]
    rw[L,show ot t (i + 1)=t.place[i] + 1 from by rw[<-M];rfl];exact z) (by
    have z:=Gq (prog:=prog) (q:=q) (ep:=ep) hB G.fit n hD (ot t es.size) es.size;have e:SetTable.below t.place (ot t es.size)=es.size:=by
     cases c:es.size with
     | zero=>exact p7 n.up
     | succ j =>
      have r:j < t.place.size:=by omega
      have:=p6 n.up r;simpa[ot,Array.getD,r] using this
    rw[e,Array.getElem?_eq_none (ZL _)]at z;exact z)
   rw[d]at W;refine h s.heap.objs.size _ s.drawn _ _ _ (λb o e=>ZH _ e) (ZL _) (λb hb => ?_) W ⟨?_,ZH _ g⟩ λacc x=>qb G (List.Perm.refl _) (λj v e _=>e) x
   ·rcases VI.mp hb with rfl|hb
    ·exact .inr (ZL _)
    ·exact .inl (YL.mp hb)
   ·rw[<-d];exact ZJ _ rfl
end
end Fm
namespace Fm
open PySem PySem.Spec L2 PySem.W PyProof.Rows
section
variable {prog:T3} {w:T4} {A:T2} {E:T0->T1->Prop} {s:T1} {q:Addr} {ns:List Int}
theorem Dm {Q:Bool->T1->Prop} (a:s.TypeIs (.ref q) "set") (h:Q false s):wpAny (model prog w) A (Builtin.List.listLengthHint (.ref q)) Q E s:=by
 unfold Builtin.List.listLengthHint;refine z0 (wpAny_specialOf a PySem.F.slot_set_len.lookup ?_);generalize hid:("set.__len__" : String)=id0
 wp_delta
 rw[show splitId id0=some ("set", "__len__") from by subst hid;decide +kernel];subst hid;refine z0 (wpAny_isInstance (T := "set") (b:=true) a (by rw[Y2];kernel_rfl) ?_);refine Y5 (λz=>absurd z (by decide)) λ_ => ?_;refine Y5 (λ_ => ?_) λz=>absurd (by decide +kernel) z;exact z0 (wpAny_typeOf a (y3 h))
theorem yg {R:Result->T1->Prop} (K:A.handled=none) (hq:cW prog w (fV w) q ns s.heap) (hb:ns.length < scanBound) (S:Addr) (y:S≠q) (res:T0) (c:Nat) (L:s.heap.get? S=some { cls:=.type "list",data:=.seq #[] c })
  (X:∀d (acc:Array T0) r C,(∀b o,b≠S->s.heap.get? b=some o->d.heap.get? b=some o)->d.os=s.os->d.gens=s.gens->d.heap.get? S=some { cls:=.type "list",dict:=none,data:=.seq acc r,slots := #[] }->IntsAre acc.toList C->C.Perm ns->R (.ok (.ret res)) d) :
  wpAny (model prog w) A.in1 (Builtin.List.listExtendWith (.ref S) (.ref q) res) (λn d=>match n with | .done f=>R (.ok f) d | .again r=>r.quiet=true/\codeAny (model prog w) A r R d) (λe d=>R (.error e) d) s:=by
 have V:s.TypeIs (.ref q) "set" := by obtain⟨es,ep,t,e,_⟩:=hq;exact⟨_,e,rfl⟩
 have J:S < s.heap.objs.size:=ZI L;unfold Builtin.List.listExtendWith;refine z0 (wpAny_typeOf V ?_);have h1:Builtin.List.listSameRef (.ref S) (.ref q)=false:=by simp[Builtin.List.listSameRef,y]
 have h2:(Value.type "set" == Value.type "list")=false:=by decide
 have Q:(Value.type "set" == Value.type "tuple")=false:=by decide
 simp only[h1,h2,Q,Bool.or_false,YA,XF];refine z0 (Dl hq hb λI F M fp P St k U Y W st n => ?_);have u:S∉fp:=λz=>(Y S z).elim y λz=>absurd z (Nat.not_le.mpr J);have B:∀(h:Heap) (j : Nat),St 0 h->(∀b o,b≠S->s.heap.get? b=some o->h.get? b=some o)->h.get? S=some { cls:=.type "list",data:=.seq #[] j }->
   codeAny (model prog w) A (.builtin "list.extend.loop" ⟨[.ref S,.ref I,res],[]⟩) R { s with heap:=h,drawn:=M }:=by
  intro h j H N a;refine codeAny_extend_loopS (W A.in1 K).toS (V0 hb) S u res ns.length 0 _ #[] j rfl (YG _) H a (ItemsOf.nil _) λd l r G D x => ?_;obtain⟨C,O,T⟩:=n l x;refine X d l r C (λb o m e=>G.heap b o (λg => ?_) (N b o m e)) G.os G.gens D O T;rcases VI.mp g with e'|g
  ·exact m e'
  ·rw[YL.mp g]at e
   exact absurd (ZI e) (Nat.not_lt.mpr U)
 have a := k _ _ L;refine z0 (YV (Dm (s:={ s with heap:=F,drawn:=M }) (q:=q) (by obtain⟨es,ep,t,e,_⟩:=hq;exact⟨_,k _ _ e,rfl⟩) ?_));refine Y5 (λ_ => ?_) (λ_=>y3 ⟨V3 PySem.F.plain_extend_loop _,B _ c st (λb o _ e=>k b o e) a⟩);refine z0 (wpAny_rule (z0 ?_));show wpAny _ _ (updateSeq S (·.push .none) >>= λ_=>updateSeq S (·.pop)) _ _ _;refine z0 (wpAny_updateSeq a rfl ?_);have i := Heap.get?_update_self (Obj.mapSeq (·.push Value.none)) a rfl;refine wpAny_updateSeq (hz:=by seq_fits) i rfl ?_;have p := Heap.get?_update_self (Obj.mapSeq (·.pop)) i rfl;have v:∀b o,b≠S->F.get? b=some o->((F.update S (Obj.mapSeq (·.push Value.none))).update S (Obj.mapSeq (·.pop))).get? b=some o:=λb o m e=>(Heap.get?_update_other _ _ (XO m)).trans ((Heap.get?_update_other _ _ (XO m)).trans e);exact y3 ⟨V3 PySem.F.plain_extend_loop _,B _ _ ((W A.in1 K).frame 0 _ _ st λb hb o e=>v b o (λz=>u (z ▸ hb)) e) (λb o m e=>v b o m (k b o e)) p⟩
theorem wp {R:List T0->T1->Prop}(D:A.handled=none)(hq:cW prog w (fV w) q ns s.heap)(hb:ns.length < scanBound)
  (h:∀a (vs:List T0) d,(∀b o,s.heap.get? b=some o->a.heap.get? b=some o)->a.os=s.os->a.gens=s.gens->IntsAre vs d->d.Perm ns->R vs a):wpAny (model prog w) A (collect (.ref q)) R E s:=by
 have B:q < s.heap.objs.size:=by obtain⟨es,ep,t,e,_⟩:=hq;exact ZI e
 unfold collect;refine z0 (wpAny_runValue (W1 PySem.F.entry_proto_collect ?_));rw[WM PySem.F.plain_proto_collect _];show wpAny _ A.in1 (newList [] >>= λl=>again (.builtin "list.__iadd__" ⟨[l,.ref q],[]⟩)) _ _ s;refine z0 (YJ ?_);refine y3 ⟨V3 PySem.F.plain_list_iadd _,W1 PySem.F.entry_list_iadd ?_⟩;rw[WM PySem.F.plain_list_iadd _];have F:(s.heap.push { cls:=.type "list",data:=.seq ([] : List T0).toArray }).get? s.heap.objs.size=some { cls:=.type "list",data:=.seq #[] 0 }:=ZJ _ rfl;show wpAny _ A.in1 (Builtin.List.listExtendWith (.ref s.heap.objs.size) (.ref q) (.ref s.heap.objs.size)) _ _ _;have z:=yg (A:=A) (s:={ s with heap:=s.heap.push { cls:=.type "list",data:=.seq ([] : List T0).toArray } })
  (R:=λ(r:Result) (a:T1)=>∃(c:Array T0) (u:Nat) (d:List Int),r=.ok (.ret (.ref s.heap.objs.size))/\(∀b o,s.heap.get? b=some o->a.heap.get? b=some o)/\a.os=s.os/\a.gens=s.gens/\a.heap.get? s.heap.objs.size=some { cls:=.type "list",dict:=none,data:=.seq c u,slots := #[] }/\IntsAre c.toList d/\d.Perm ns)
  D (hq.kept λo e=>ZH _ e) hb s.heap.objs.size (Z6 B) (.ref s.heap.objs.size) 0 F
  (λa c u d k n j g m p=>⟨c,u,d,rfl,λb o e=>k b o (ZN (ZI e)) (ZH _ e),n,j,g,m,p⟩)
 refine WB z (λv a x => ?_) λe a x => ?_
 ·cases v with
  | done f =>
   obtain⟨c,u,d,e,k,n,j,g,m,p⟩:=x;cases e;show wpAny _ A (load s.heap.objs.size >>= _) _ _ _;exact z0 (wpAny_load g (y3 (h a _ d k n j m p)))
  | again c₁ =>
   refine⟨x.1,VV x.2 λr i y => ?_⟩;obtain⟨c,u,d,rfl,k,n,j,g,m,p⟩:=y;show wpAny _ A (load s.heap.objs.size >>= _) _ _ _;exact z0 (wpAny_load g (y3 (h i _ d k n j m p)))
 ·obtain⟨_,_,_,C,_⟩:=x
  cases C
theorem Dn {Q:T0->T1->Prop}(C:A.handled=none)(hq:cW prog w (fV w) q ns s.heap)(l:ns.length < 64)
  (h:∀(a:T1) (h':Heap) (e:Nat) (i:List T0) (c:List Int),(∀b u,s.heap.get? b=some u->a.heap.get? b=some u)->a.os=s.os->a.gens=s.gens->(∀b u,a.heap.get? b=some u->h'.get? b=some u)->h'.get? a.heap.objs.size=some (seqObj "list" i.toArray e)->IntsAre i c->c.Perm ns->c.Pairwise (·<=·)->Q (.ref a.heap.objs.size) { a with heap:=h' }) :
  wpAny (model prog w) A (call (.builtin "sorted") [.ref q]) Q E s:=by
 refine VA kind_sorted plain_sorted entry_sorted (args_sorted1 _) ?_;unfold Builtin.«sorted»;refine z0 (m:=checkCount "sorted" 1 1 _) (y3 ?_);refine z0 (wp (A:=A.in1) C hq (Z1 l (by decide)) λa g J D F H hi t => ?_);have K:g.length=ns.length:=by rw[IntsAre.length hi,t.length_eq]
 refine z0 (VG ?_ (by rw[YF];omega));have f:(a.heap.push (seqObj "list" g.toArray 0)).get? a.heap.objs.size=some (seqObj "list" g.toArray 0):=ZJ _ rfl;have keep:∀b u,a.heap.get? b=some u->(a.heap.push (seqObj "list" g.toArray 0)).get? b=some u:=λb u z=>ZH _ z;show wpAny _ _ (holding [Value.ref a.heap.objs.size] _ >>= λ_=>_) _ _ { a with heap:=a.heap.push (seqObj "list" g.toArray 0) };generalize hG:a.heap.push (seqObj "list" g.toArray 0)=G at f keep;have I:G.objs.size=a.heap.objs.size + 1:=by rw[<-hG,WQ]
 refine z0 (YV (YP slot_list_sort (s:={ a with heap:=G }) ⟨_,f,rfl⟩ entry_list_sort (list_sort_tree f hi (by omega) λout c x B y=>⟨_,rfl,?_⟩) (args_list_sort _)));refine y3 ⟨_,rfl,?_⟩;have d:a.heap.objs.size < G.objs.size:=by omega
 obtain⟨k,p⟩ : ∃k,(G.update a.heap.objs.size (Obj.mapSeq λ_ => #[])).get? a.heap.objs.size=some (seqObj "list" #[] k):=⟨_,get?_update_seq f (λ_ => #[])⟩;have n:(((G.update a.heap.objs.size (Obj.mapSeq λ_ => #[])).push (seqObj "tuple" g.toArray 0)).push (seqObj "list" #[] 0)).get? a.heap.objs.size=some (seqObj "list" #[] k):=by
  rw[Heap.get?_push_ne _ _ _ (by rw[WQ,YK];exact ZN (v4 d)),Heap.get?_push_ne _ _ _ (by rw[YK];exact ZN d)];exact p
 have o:=get?_update_seq n (λ_=>out);refine h a (sortedHeap G a.heap.objs.size g out) _ out.toList c D F H (λb u z => ?_) (by unfold sortedHeap;simpa using o) x (B.trans t) y;have j:b < a.heap.objs.size:=ZI z;have r:b≠a.heap.objs.size:=ZN j;have v:b < G.objs.size:=Z1 j d;unfold sortedHeap;rw[Heap.get?_update_ne _ _ _ _ r,Heap.get?_push_ne _ _ _ (by rw[WQ,YK];exact ZN (v4 v)),Heap.get?_push_ne _ _ _ (by rw[YK];exact ZN v),Heap.get?_update_ne _ _ _ _ r];exact keep b u z
end
section
variable {X:Cx} {pos p pos2 p2:Pos}
def K5 (X:Cx):List V->Hp->VK->Prop:=λxs H Q=>∃(a:Addr) (ns:List Int),xs=[.ref a]/\SqL X.K H a (ns.map V.int)/\ns.length < 64/\∀q,H q=none->Q (.ref q) (upd H q (.ext (cW X.prog X.w (fV X.w) q (cR ns))))
theorem A5 (hc:X.calm=true):fS X (.type "set") (K5 X):=by
 intro pins s σ H xs l Q I r h;obtain⟨a,ns,rfl,d,i,q⟩:=h;obtain⟨u,rfl,g⟩:=aR.one r;cases (show u=Value.ref a from g);obtain⟨c,b,j,m⟩:=I.list d;refine wm (I.ok.hd hc) j.isList (by simpa using L2.kG b) (Z1 (show ns.length + 1 < 65 by omega) (by decide)) λn tk st k => ?_;exact⟨.ref s.heap.objs.size,_,I.laid (t':=tk) (o:=.ext (cW X.prog X.w (fV X.w) s.heap.objs.size (cR ns))) k (ZL _) ⟨st,by obtain⟨es,ep,t,e,_⟩:=st;exact⟨_,e⟩,λh1 h2 f k=>f.kept k⟩,rfl,q _ (I.hok.fresh (ZL _))⟩
def Iv (X:Cx):List V->Hp->VK->Prop:=λxs H Q=>∃(a:Addr) (ns:List Int),xs=[.ref a]/\H a=some (.ext (cW X.prog X.w (fV X.w) a ns))/\ns.length < 64/\∀q,H q=none->Q (.ref q) (upd H q (.lst ((dH ns).map V.int)))
theorem yh (hc:X.calm=true):fS X (.builtin "sorted") (Iv X):=by
 intro pins s σ H xs B Q I r h;obtain⟨a,ns,rfl,i,d,q⟩:=h;obtain⟨u,rfl,m⟩:=aR.one r;cases (show u=Value.ref a from m);have st:cW X.prog X.w (fV X.w) a ns s.heap:=(I.hok a _ i).1;refine Dn (I.ok.hd hc) st d λc C e f n v x y t z j l k => ?_;have w:=sB l k;subst w;have b:Inv X pins σ H { s with heap:=c.heap,toks:=c.toks }:=I.kept (t':=c.toks) v;have g:Inv X pins σ H c:=⟨b.ok,x.trans b.os,by rw[y];exact b.bare,b.base,b.loc,b.cell,b.free,b.freeC,b.pin,b.hok,b.len⟩;have A:(dH ns).length=ns.length:=(eW ns).length_eq;exact⟨.ref c.heap.objs.size,_,g.laid (t':=c.toks) (o:=.lst ((dH ns).map V.int)) t (ZL _) ⟨by rw[ZA,YF];omega,f,e,pX j,z⟩,rfl,q _ (g.hok.fresh (ZL _))⟩
theorem Do {a:Expr} {k:LF} (hc:X.calm=true) (v:Gl X "sorted") (hm:X.mg "sorted" = none) (n:Gl X "set") (j:X.mg "set" = none) (ha:MF X a k)
  (r:starEach [.Call (.Name "set" p2) [a] [] pos2] X.env=(false,eval (.Call (.Name "set" p2) [a] [] pos2) X.env) :: starEach [] X.env:=by rfl)
  (d:starEach [a] X.env=(false,eval a X.env) :: starEach [] X.env:=by rfl) :
  MF X (.Call (.Name "sorted" p) [.Call (.Name "set" p2) [a] [] pos2] [] pos) (kM k):=by
 refine PE.imp (iq (yh hc) v hm (by decide +kernel) (cF (mE (A5 hc) n j (by decide +kernel) (cF ha d6 d) (he:=d)) d6 r) (he:=r)) λσ H Q ⟨ρ,σd,hd,w,b⟩=>⟨ρ,σd,hd,w,?_⟩;unfold kM at b;cases e:k σd hd with
 | exc x h'=>rw[e]at b;exact b
 | bad=>rw[e]at b;exact b
 | ok l hd1 =>
  rw[e]at b;simp only[aP]at b;intro q z H1 t u h _ y _ m;cases c:cG l with
  | none=>rw[c]at b;exact b.elim
  | some ns =>
   rw[c]at b;simp only at b;split at b
   ·rename_i hz
    have g:=jE m c;subst g;refine⟨q,ns,rfl,.inl (.inl y),hz,λq1 i => ?_⟩;have s:=bW (o:=HO.ext (cW X.prog X.w (fV X.w) q1 (cR ns))) i;exact⟨q1,cR ns,rfl,aY,ZS (mU ns) hz,λq2 f=>b.mk (u.trans (Ext.same s)) (h.same s) (Iq _) q2 f⟩
   ·exact b.elim
end
end Fm
namespace Fm
variable {d:D}{h h':Hd}
theorem A6 (e:h'.length<=h.length):letGo h (.ok d h')=.ok d h':=by
 simp only[letGo];split
 ·rw[YN e]
 ·rfl
@[simp] theorem a4 {h:Hd} {d:D}:letGo h (.ok d h)=.ok d h:=A6 (ZL _)
theorem iE (e:pure? d=false):letGo h (.ok d h')=.ok d h':=by
 simp[letGo,e]
@[simp] theorem cZ {h h':Hd} {n:Nat}:letGo h (.ok (.ref n) h')=.ok (.ref n) h':=iE rfl
theorem cJ {g:Hd}(e:pure? d=true):letGo h (.ok d (h++g))=.ok d h:=by
 have:zC h (h++g):=λn c a hc=>.inl (by rwa[ZC a]at hc);simp[letGo,e,this]
theorem A7 {g:Hd}(e:pure? d=true)(a:h'.length=h.length)(b:zC h (h'++g)):letGo h (.ok d (h'++g))=.ok d h':=by
 simp[letGo,e,b,<-a]
structure Web where
 ties:List (List (Nat × Int))
 bars:List Int
 stays:List (Option Int)
def bp:Option Int->D
 | none=>.non
 | some i=>.int i
def yi (p:Nat × Int):D:=.tup [.int p.1,.int p.2]
def qS (r:List (Nat × Int)):D:=.tup (r.map yi)
def aw (l:List Int):D:=.tup (l.map .int)
def Web.enc (w:Web):D:=.tup [.tup (w.ties.map qS),.tup (w.bars.map .int),.tup (w.stays.map bp)]
structure Web.Ok (w:Web) (n:Nat):Prop where
 t:w.ties.length=n
 b:w.bars.length=n
 s:w.stays.length=n
 lt:∀r∈w.ties,∀p∈r,p.1 < n
 sz:n<=1000
structure c0 (w:Web) (n:Nat) (s:List Int):Prop where
 len:s.length=n
 op:∀x∈s,x=0\/x=1
 st:∀(i:Nat) (x:Int),w.stays[i]? = some (some x)->s[i]? = some x
variable {l:List D}
theorem cX {i:Nat}(e:l[i]? = some d):atI l (i:Int)=some d:=by
 have:=(List.getElem?_eq_some_iff.mp e).1;simp[atI,ixN,this];simpa[ZE this] using e
theorem bK {g:Option Nat}{all:List D}{tg:GF}{cs:List TF}{e:EF}{h:Hd}(I:Sd->Prop)(p:D->Bool)(f:D->D)(b:iz g all h) :
  ∀{xs:List D} {σ:Sd},(∀x∈xs,∀σ,I σ->∃a,tg x σ = some a/\I a/\gu cs a h=.ok (p x) h/\(p x=true->e a h=.ok (f x) h))->I σ->
   bT g all tg cs e xs σ h=.ok ((xs.filter p).map f) h
 | [],_,_,_=>by simp[bT,b]
 | x :: xs,σ,st,i=>by
  obtain⟨a,h1,h2,c,j⟩:=st x (by simp) σ i;have d:=bK I p f b (xs:=xs) (σ := a) (λy k=>st y (by simp[k])) h2;cases hp:p x with
  | true=>simp[bT,b,h1,c,hp,j hp,d]
  | false=>simp[bT,b,h1,c,hp,d]
theorem sG {g:Option Nat}{all:List D}{tg:GF}{b:SF}{rest:List D}(P:Nat->Sd->Hd->Prop)(m:∀i σ h,P i σ h->iz g all h) :
  ∀{xs:List D} {k:Nat} {σ:Sd} {h:Hd},(∀(i:Nat) x σ h,xs[i]? = some x->P (k + i) σ h->∃a,tg x σ = some a/\∃c d,b a h=.nx c d/\P (k + i + 1) c d)->P k σ h->
   ∃a n,eO g all tg b (xs++rest) σ h=eO g all tg b rest a n/\P (k + xs.length) a n
 | [],k,σ,h,_,p=>⟨σ,h,rfl,by simpa using p⟩
 | x :: xs,k,σ,h,st,p=>by
  obtain⟨a,h1,s,h2,r,t⟩:=st 0 x σ h (by simp) (by simpa using p);have l:∀(i:Nat) y σ h,xs[i]? = some y->P (k + 1 + i) σ h->∃a,tg y σ = some a/\∃c d,b a h=.nx c d/\P (k + 1 + i + 1) c d:=λi y σ h e q=>by
   have j:k + 1 + i=k + (i + 1):=by omega
   rw[j]at q ⊢;exact st (i + 1) y σ h (by simpa using e) q
  obtain⟨f,o,u,v⟩:=sG P m l (by simpa using t);refine⟨f,o,?_,?_⟩
  ·rw[<-u,W7,eO,yD (m _ _ _ p),h1]
   simp only[r]
  ·have j:k + (x :: xs).length=k + 1 + xs.length:=by simp;omega
   rw[j];exact v
variable {σ:Sd}{b:SF}
theorem cy {g:Option Nat}{all:List D}{tg:GF}(P:Nat->Sd->Hd->Prop)(e:∀i σ h,P i σ h->iz g all h)
  {xs:List D} {k:Nat}   (st:∀(i:Nat) x σ h,xs[i]? = some x->P (k + i) σ h->∃σ',tg x σ = some σ'/\∃a c,b σ' h=.nx a c/\P (k + i + 1) a c) (p:P k σ h) :
   ∃σ' d,eO g all tg b xs σ h=.nx σ' d/\P (k + xs.length) σ' d:=by
 obtain⟨σ',d,q,z⟩:=sG (rest:=[]) P e st p;rw[Y3]at q;exact⟨σ',d,q.trans (by unfold eO;exact yD (e _ _ _ z)),z⟩
theorem iV {g:Option Nat}{all:List D}{tg:GF}{e:EF}(P:Nat->Sd->Hd->Prop)(V:Nat->D->Prop)(j:∀i σ h,P i σ h->iz g all h) :
  ∀{xs:List D} {k:Nat} {σ:Sd} {h:Hd},(∀(i:Nat) x σ h,xs[i]? = some x->P (k + i) σ h->∃a,tg x σ = some a/\∃d b,e a h=.ok d b/\V (k + i) d/\P (k + i + 1) a b)->P k σ h->
   ∃ds n,bT g all tg [] e xs σ h=.ok ds n/\ds.length=xs.length/\(∀(i:Nat) d,ds[i]? = some d->V (k + i) d)/\∃a,P (k + xs.length) a n
 | [],k,σ,h,_,p=>⟨[],h,by simp[bT,j _ _ _ p],rfl,by simp,σ,by simpa using p⟩
 | x :: xs,k,σ,h,st,p=>by
  obtain⟨a,h1,d,h2,t,z,u⟩:=st 0 x σ h (by simp) (by simpa using p);have m:∀(i:Nat) y σ h,xs[i]? = some y->P (k + 1 + i) σ h->∃a,tg y σ = some a/\∃d b,e a h=.ok d b/\V (k + 1 + i) d/\P (k + 1 + i + 1) a b:=λi y σ h e q=>by
   have f:k + 1 + i=k + (i + 1):=by omega
   rw[f]at q ⊢;exact st (i + 1) y σ h (by simpa using e) q
  obtain⟨ds,r,v,o,l,c,w⟩:=iV P V j m (by simpa using u);refine⟨d :: ds,r,?_,by simp[o],λi s hd => ?_,c,?_⟩
  ·simp[bT,j _ _ _ p,h1,gu,t,v]
  ·cases i with
   | zero=>simp at hd;subst hd;simpa using z
   | succ i =>
    have:=l i s (by simpa using hd);rwa[show k + 1 + i=k + (i + 1) by omega]at this
  ·have f:k + (x :: xs).length=k + 1 + xs.length:=by simp;omega
   rw[f];exact w
variable {n:Nat}
theorem qc {α : Type}{ds:List α}{f:Nat->α}(a:ds.length=n)(h:∀(i:Nat) d,ds[i]? = some d->d=f i):ds=(List.range n).map f:=by
 apply YB;intro i
 by_cases hi:i < n
 ·have:ds[i]? = some (ds[i]'(by omega)):=by simp[a,hi]
  rw[this,h i _ this];simp[hi]
 ·simp[hi,a]
theorem gR {t:TF}{b:SF}:∀{n:Nat} {σ:Sd} {h:Hd} {r:Out},cY t b n σ h=r->r ≠ .bad->∀{m:Nat},n<=m->cY t b m σ h=r
 | 0,σ,h,r,e,hr,m,_=>by simp only[cY]at e;exact absurd e.symm hr
 | n + 1,σ,h,r,e,hr,m,hm=>by
  cases m with
  | zero=>omega
  | succ m =>
   simp only[cY]at e ⊢;cases c:t σ h with
   | bad=>rw[c]at e;exact e
   | exc x h1=>rw[c]at e;exact e
   | ok cb h1 =>
    rw[c]at e;cases cb with
    | false=>exact e
    | true =>
     simp only at e ⊢;cases c2:b σ h1 with
     | nx σ2 h2=>rw[c2]at e;exact gR e hr (by omega)
     | ct σ2 h2=>rw[c2]at e;exact gR e hr (by omega)
     | bk σ2 h2=>rw[c2]at e;exact e
     | rt d h2=>rw[c2]at e;exact e
     | exc x σ2 h2=>rw[c2]at e;exact e
     | bad=>rw[c2]at e;exact e
theorem sH {t:TF}{r:Out}(e:cY t b n σ h=r)(a:r ≠ .bad):mH t b σ h=r:=by
 have ex:∃n,cY t b n σ h ≠ .bad:=⟨n,by rw[e];exact a⟩;have c:kx t b σ h=Classical.choose ex:=by simp[kx,ex]
 have h2:=Classical.choose_spec ex;unfold mH;rw[c]
 by_cases hle:n<=Classical.choose ex
 ·exact gR e a hle
 ·have:=gR (n:=Classical.choose ex) rfl h2 (m:=n) (by omega)
  rw[<-this,e]
variable {h1:Hd}
theorem ax {F:Fn}{r:LF}{ds:List D}(a:r σ h=.ok ds h1)(b:F ds h1=.ok d h'):ar F r σ h=.ok d h':=by
 show Res.bind _ _=_;rw[a];exact b
variable {h2:Hd}
theorem am {a:EF}{r:LF}{ds:List D}(p:a σ h=.ok d h1)(q:r σ h1=.ok ds h2):ab a r σ h=.ok (d :: ds) h2:=by
 show Res.bind _ _=_;rw[p,aP,q];rfl
theorem ah {g:O2}{a b:EF}{c:Hd}{x y z:D}(p:a σ h=.ok x h1)(q:b σ h1=.ok y h2)(r:g x y h2=.ok z c):ag g a b σ h=.ok z c:=by
 show Res.bind _ _=_;rw[p,aP,q];exact r
theorem ia {r:LF}{xs:List D}(p:r σ h=.ok xs h')(q:xs.length<=SZ:=by exact Y9 rfl):jw r σ h=.ok (.tup xs) h':=by
 show Res.bind _ _=_;rw[p];exact yD q
theorem bD {r:LF}{xs:List D}(p:r σ h=.ok xs h')(q:xs.length<=SZ:=by exact Y9 rfl):aT r σ h=.ok (.ref h'.length) (h'++[.lst xs]):=by
 show Res.bind _ _=_;rw[p];exact yD q
theorem wu {a:LF}{b:EF}{i:Int}(p:a σ h=.ok l h1)(q:b σ h1=.ok (.int i) h2)(r:atI l i=some d):fIx a b σ h=.ok d h2:=by
 show Res.bind _ _=_;rw[p,aP,q];simp only[aP,r]
theorem aK {a b:EF}{x:D}{i:Int}(p:a σ h=.ok x h1)(q:b σ h1=.ok (.int i) h2)(s:gL h2 x=some l)(r:atI l i=some d):fAt a b σ h=.ok d h2:=by
 show ag _ _ _ _ _=_;exact ah p q (by simp only[oAt,s,r])
theorem aC (p:h[n]? = some (.lst l)):gL h (.ref n)=some l:=by simp only[gL,p]
variable {e:EF}
theorem aA {i:Nat}(p:e σ h=.ok d h'):aE (gN i) e σ h=.nx (σ.set i (some d)) h':=by
 show outE _ _ _=_;rw[p];rfl
theorem aX (p:e σ h=.ok d h'):bj e σ h=.rt d h':=by
 show outE _ _ _=_;rw[p];rfl
theorem iW (p:e σ h=.ok d h'):iP e σ h=.nx σ h':=by
 show outE _ _ _=_;rw[p];rfl
theorem ib {t:TF}{a:SF}(p:t σ h=.ok true h1):sIf t a b σ h=a σ h1:=by
 unfold sIf;rw[p];rfl
theorem cA {t:TF}{a:SF}(p:t σ h=.ok false h1):sIf t a b σ h=b σ h1:=by
 unfold sIf;rw[p];rfl
theorem aV {a:EF}{b:Bool}(p:a σ h=.ok (.bl b) h'):tE a σ h=.ok b h':=by
 show asB _=_;rw[p];rfl
theorem dL {t:TF}{b:Bool}(p:t σ h=.ok b h'):eQ t σ h=.ok (!b) h':=by
 show Res.bind _ _=_;rw[p];rfl
theorem iX {t u:TF}{b:Bool}(p:t σ h=.ok true h1)(q:u σ h1=.ok b h'):jy t u σ h=.ok b h':=by
 show Res.bind _ _=_;rw[p];exact q
theorem o7 {t u:TF}(p:t σ h=.ok false h1):jy t u σ h=.ok false h1:=by
 show Res.bind _ _=_;rw[p];rfl
theorem jq {t u:TF}{b:Bool}(p:t σ h=.ok false h1)(q:u σ h1=.ok b h'):tOr t u σ h=.ok b h':=by
 show Res.bind _ _=_;rw[p];exact q
theorem uj {t u:TF}(p:t σ h=.ok true h1):tOr t u σ h=.ok true h1:=by
 show Res.bind _ _=_;rw[p];rfl
variable {j:Int}
theorem qd {i:Int}:oEq (.int i) (.int j) h=.ok (.bl (decide (i=j))) h:=rfl
theorem c5 {a:LF}(p:a σ h=.ok l h1):cj a σ h=.ok (.int l.length) h1:=by
 show Res.bind _ _=_;rw[p];rfl
theorem bL {a:EF}{x:D}(p:a σ h=.ok x h1)(s:gL h1 x=some l):lOf a σ h=.ok l h1:=by
 show Res.bind _ _=_;rw[p];simp only[aP,s]
theorem qe {x i:EF}{a:Hd}{k:Nat}(p:e σ h=.ok d h1)(q:x σ h1=.ok (.ref n) h2)(r:i σ h2=.ok (.int j) a)(s:a[n]? = some (.lst l))(t:ixN l.length j=some k):lm x i e σ h=.nx σ (a.set n (.lst (l.set k d))):=by
 simp only[lm,p,q,r,outE,s,t]
theorem jQ {x:EF}{a:List D}(p:x σ h=.ok (.ref n) h1)(q:h1[n]? = some (.lst a))(r:e σ h1=.ok d h2)(s:h2[n]? = some (.lst l))(t:l.length < SZ):jB x e σ h=.ok .non (h2.set n (.lst (l++[d]))):=by
 simp only[jB,p,aP,q,r,Hm,s,yD t]
theorem c6 {i:Int}(p:0 < j):cz (.int i) (.int j) h=.ok (.int (i % j)) h:=by
 simp only[cz,oIc,w8 p,Uz]
theorem iY {i:Int}(p:0 < j)(q:j < 2 ^ 250):g8 (.int i) (.int j) h=.ok (.int (i / j)) h:=by
 simp only[g8,oIc,w8 p,w8 q,Bool.and_self,Uz]
theorem uk {i:Int}(e:i=j):oEq (.int i) (.int j) h=.ok (.bl true) h:=by rw[qd,w8 e]
theorem mW {i:Int}(e : ¬i=j):oEq (.int i) (.int j) h=.ok (.bl false) h:=by rw[qd,ZY e]
theorem Dp {i:Int}(e : ¬i < j):oLt (.int i) (.int j) h=.ok (.bl false) h:=by show Res.ok (D.bl (decide (i < j))) h=_;rw[ZY e]
theorem yj {i:Int}(e:i < j):oLt (.int i) (.int j) h=.ok (.bl true) h:=by show Res.ok (D.bl (decide (i < j))) h=_;rw[w8 e]
theorem Dq {i:Int}(p:(sml i || sml j)=true):bU (.int i) (.int j) h=.ok (.int (i * j)) h:=by
 show (if (sml i || sml j)=true then _ else _)=_;exact yD p
theorem lP {i:Int}(p:sml i=true):bU (.int i) (.int j) h=.ok (.int (i * j)) h:=Dq (by rw[p];rfl)
theorem Fp {i:Int}(p:sml j=true):bU (.int i) (.int j) h=.ok (.int (i * j)) h:=Dq (by rw[p,W9])
theorem ou {t:TF}{b:Bool}(p:t σ h=.ok b h'):fT t σ h=.ok (.bl b) h':=by
 show Res.bind _ _=_;rw[p];rfl
variable {A:Nat}
theorem ki {h0 g:Hd}(a:A=h0.length)(k:Nat)(c:bE):(h0++g).set (A + k) c=h0++g.set k c:=by
 subst a;rw[List.set_append_right _ _ (by omega)];congr 2;omega
theorem z5 {h0 g:Hd}(a:A=h0.length)(k:Nat):(h0++g)[A + k]? = g[k]? := by
 subst a;rw[ZD (by omega),Nat.add_sub_cancel_left]
theorem aH {h0:Hd}{j:Nat}{c:bE}(g:Hd)(e:h0[j]? = some c):(h0++g)[j]? = some c:=(ZC (List.getElem?_eq_some_iff.mp e).1).trans e
theorem bY {a:EF}(p:a σ h=.ok (.int n) h1)(hn:n<=1000):br a σ h=.ok ((List.range n).map (λk:Nat=>D.int k),none) h1:=by
 show Res.bind _ _=_;rw[p];exact yD ⟨W8 (by decide) (XD n),W8 (Int.ofNat_le.mpr hn) (by decide)⟩
theorem ee {it:IF}{tg:GF}{g:Option Nat}{o:Out}(p:it σ h=.ok (l,g) h1)(q:eO g l tg b l σ h1=o):eu it tg b σ h=o:=by
 unfold eu;rw[p];exact q
theorem cv {a:Nat}{caps:List Nat}{it:IF}{tg:GF}{cs:List TF}{ds:List D}{g:Option Nat}(p:it σ h=.ok (l,g) h1)(q:bT g l tg cs e l (gw a caps σ) h1=.ok ds h2):bO a caps it tg cs e σ h=.ok ds h2:=by
 show Res.bind _ _=_;rw[p];exact q
theorem Iw {a:LF}{b:EF}{n:Int}(p:a σ h=.ok l h1)(q:b σ h1=.ok (.int n) h2)(r:0<=n/\n<=1000/\l.length * n.toNat<=1000):pR a b σ h=.ok (List.replicate n.toNat l).flatten h2:=by
 simp only[pR,p,aP,q,yD r]
theorem Ix {k:Int}{l:List (Int × D)}(p:h[n]? = some (.dct l)):Cs (.int k) (.ref n) h=.ok (.bl (pO l k).isSome) h:=by simp only[Cs,p]
theorem z6 {x i:EF}{a:Hd}{l:List (Int × D)}(p:e σ h=.ok d h1)(q:x σ h1=.ok (.ref n) h2)(r:i σ h2=.ok (.int j) a)(s:a[n]? = some (.dct l))(t:l.length < SZ):vK x i e σ h=.nx σ (a.set n (.dct (xJ l j d))):=by
 simp only[vK,p,q,r,outE,s,yD t]
theorem ul {a:EF}(p:a σ h=.ok (.ref n) h1)(q:h1[n]? = some (.lst l)):iy .list a σ h=.ok (.bl true) h1:=by
 simp only[iy,p,aP,AJ,q];rfl
theorem dv {a:EF}(p:a σ h=.ok (.ref n) h1)(q:h1[n]? = some (.lst l)):eM a σ h=.ok (l,some n) h1:=by
 simp only[eM,p,aP,q]
theorem Iy {a b:EF}{i:Int}(p:a σ h=.ok (.int i) h1)(q:b σ h1=.ok (.int j) h2):xL a b σ h=.ok (.int (if j > i then j else i)) h2:=by
 simp only[xL,p,aP,q]
theorem Dr {a:EF}{b:Bool}(p:a σ h=.ok (.bl b) h1):qM a σ h=.ok (.int (b2i b)) h1:=by
 simp only[qM,p,aP]
theorem yk {a:LF}{b:List Int}(p:a σ h=.ok l h1)(q:cG l=some b):pF a σ h=.ok (.int b.sum) h1:=by
 simp only[pF,p,aP,q]
theorem f6 {a:LF}(p:a σ h=.ok l h1):fA a σ h=.ok (.tup l) h1:=by
 show Res.bind _ _=_;rw[p];rfl
theorem Dt {i:Int}(e:j < i):oGt (.int i) (.int j) h=.ok (.bl true) h:=by show Res.ok (D.bl (decide (j < i))) h=_;rw[w8 e]
theorem ym {i:Int}(e : ¬j < i):oGt (.int i) (.int j) h=.ok (.bl false) h:=by show Res.ok (D.bl (decide (j < i))) h=_;rw[ZY e]
theorem f7 (a:A=h.length)(c:bE):(h++[c])[A]? = some c:=by rw[a];exact ZG
theorem kj (a:A=h.length)(c d:bE):(h++[c]).set A d=h++[d]:=by
 have:=ki (g:=[c]) a 0 d;rwa[Nat.add_zero]at this
theorem lQ {r:LF}{xs:List D}(a:A=h'.length)(p:r σ h=.ok xs h')(q:xs.length<=SZ):aT r σ h=.ok (.ref A) (h'++[.lst xs]):=by rw[a];exact bD p q
theorem lR {l:List Int}{i:Nat}(h:i < l.length):atI (l.map D.int) (i:Int)=some (.int (l.getD i 0)):=cX (by rw[ZQ,ZE h,ZF,ZE h];rfl)
theorem qf {t:TF}{a b:EF}(p:t σ h=.ok true h1):fIf t a b σ h=a σ h1:=by
 show Res.bind _ _=_;rw[p];rfl
theorem um {t:TF}{a b:EF}(p:t σ h=.ok false h1):fIf t a b σ h=b σ h1:=by
 show Res.bind _ _=_;rw[p];rfl
theorem c9 {a:SF}{σ':Sd}(e:a σ h=.nx σ' h'):ay a b σ h=b σ' h':=by simp only[ay,e]
theorem ow {a:SF}(e:a σ h=.rt d h'):ay a b σ h=.rt d h':=by simp only[ay,e]
theorem bI {np:Nat}{ds:List D}(a:ds.length=np)(st:(ds.map some++List.replicate (n - ds.length) none:Sd) = σ)(e:b σ h=.rt d h'):bJ np n b ds h=letGo h (.ok d h'):=by
 unfold bJ runB;rw[yD a,st,e]
theorem J0 {np:Nat}{ds:List D}{σ':Sd}(a:ds.length=np)(st:(ds.map some++List.replicate (n - ds.length) none:Sd) = σ)(e:b σ h=.nx σ' h'):bJ np n b ds h=letGo h (.ok .non h'):=by
 unfold bJ runB;rw[yD a,st,e]
theorem iF {t:TF}{b:Bool}(p:t σ h=.ok b h):gu [t] σ h=.ok b h:=by
 simp only[gu,p,aP];cases b<;>rfl
theorem Du {a:EF}(p:a σ h=.ok (.tup l) h1):eM a σ h=.ok (l,none) h1:=by
 show Res.bind _ _=_;rw[p];rfl
theorem uo {a:LF}{bs:List Bool}(p:a σ h=.ok l h1)(q:iw l=some bs):vv a σ h=.ok (.bl (bs.all id)) h1:=by
 simp only[vv,p,aP,q]
theorem mX (a b:Int)(h:Hd):oNe (.int a) (.int b) h=.ok (.bl (!decide (a=b))) h:=rfl
theorem cm {a b:EF}{e:D}(p:a σ h=.ok d h1)(q:b σ h1=.ok e h2):ab a (ab b ao) σ h=.ok [d,e] h2:=am p (am q rfl)
theorem gI {m:Nat}(h:n<=30)(q:30<=m:=by decide):n<=m:=ZM h q
theorem sx {a:SF}{σ':Sd}{o:Out}(p:a σ h=.nx σ' h')(q:b σ' h'=o):ay a b σ h=o:=(c9 p).trans q
def c7:Fn:=bJ 1 1 (bj (fT (jy (tE (iy .int (aa 0))) (eQ (tE (iy .bool (aa 0)))))))
def bw:Fn:=bJ 3 3 (bj (fT (jy (tE (ar c7 (ab (aa 0) ao))) (tE (pE oLe oLe (aa 1) (aa 0) (aa 2))))))
def bV:Fn:=bJ 1 1 (bj (ar bw (ab (aa 0) (ab (fC (.int 0)) (ab (fC (.int 1)) ao)))))
def cT:Fn:=bJ 1 1 (bj (cj (lOf (fAt (aa 0) (fC (.int 0))))))
def ko:Fn:=bJ 2 2 (bj (fAt (fAt (aa 0) (fC (.int 0))) (aa 1)))
def lS:Fn:=bJ 2 2 (bj (fAt (fAt (aa 0) (fC (.int 1))) (aa 1)))
def dE:Fn:=bJ 2 2 (bj (fAt (fAt (aa 0) (fC (.int 2))) (aa 1)))
abbrev z7:SF:=(ay (sIf (eQ (tE (ar bV (ab (aa 3) ao)))) (bj (fC (.bl false))) bA)
  (ay (aE (gN 4) (ar dE (ab (aa 0) (ab (aa 2) ao))))
  (sIf (jy (tE (ag gJ (aa 4) (fC .non))) (tE (ag oNe (aa 3) (aa 4)))) (bj (fC (.bl false))) bA)))
def uq:Fn:=bJ 2 5 (ay (sIf (tOr (eQ (tE (iy .tuple (aa 1)))) (tE (ag oNe (cj (lOf (aa 1))) (ar cT (ab (aa 0) ao))))) (bj (fC (.bl false))) bA)
  (ay (eu (Cf (aa 1)) (gT [2,3]) z7)
  (bj (fC (.bl true)))))
def dS:Fn:=bJ 2 2 (sIf (eQ (tE (ar uq (ab (aa 0) (ab (aa 1) ao))))) li bA)
def kq:Fn:=bJ 3 3 (bj (ag bU (fC (.int 2)) (pF (bO 2 [1] (eM (ar ko (ab (aa 0) (ab (aa 2) ao)))) (gT [0,1]) [(tE (ag oEq (fAt (aa 2) (aa 0)) (fC (.int 1))))] (aa 1)))))
theorem lT (i:Int)(h:Hd):c7 [.int i] h=.ok (.bl true) h:=(bI (d:=.bl true) (h':=h) rfl rfl rfl).trans a4
theorem eE (i a b:Int)(h:Hd):bw [.int i,.int a,.int b] h=.ok (.bl (decide (a<=i) && decide (i<=b))) h:=by
 have c:pE oLe oLe (aa 1) (aa 0) (aa 2) [some (.int i),some (.int a),some (.int b)] h=.ok (.bl (decide (a<=i) && decide (i<=b))) h:=by
  show (match D.bl (decide (a<=i)) with | .bl true=>Res.ok (D.bl (decide (i<=b))) h | .bl false=>.ok (.bl false) h|_=>.bad)=_;cases decide (a<=i)<;>rfl
 have t:jy (tE (ar c7 (ab (aa 0) ao))) (tE (pE oLe oLe (aa 1) (aa 0) (aa 2))) [some (.int i),some (.int a),some (.int b)] h=.ok (decide (a<=i) && decide (i<=b)) h:=iX (aV (ax (am rfl rfl) (lT i h))) (aV c);exact(bI rfl rfl (aX (ou t))).trans a4
theorem gB (i:Int)(h:Hd):bV [.int i] h=.ok (.bl (decide (0<=i) && decide (i<=1))) h:=by
 exact(bI rfl rfl (aX (ax (am rfl (cm rfl rfl)) (eE i 0 1 h)))).trans a4
theorem jR (w:Web)(h:Hd):cT [w.enc] h=.ok (.int w.ties.length) h:=by
 have:=(bI (np:=1) (n:=1) (b:=bj (cj (lOf (fAt (aa 0) (fC (.int 0)))))) (ds:=[w.enc]) (h:=h) rfl rfl (aX (c5 (bL (aK rfl rfl rfl rfl) rfl)))).trans a4;rwa[ZA]at this
variable {p:Nat}
theorem wv (w:Web)(h:Hd){r:List (Nat × Int)}(e:w.ties[p]? = some r):ko [w.enc,.int p] h=.ok (qS r) h:=by
 have q:atI (w.ties.map qS) (p:Int)=some (qS r):=cX (by simp[e]);exact(bI rfl rfl (aX (aK (aK rfl rfl rfl rfl) rfl rfl q))).trans a4
theorem yn (w:Web)(h:Hd){r:Int}(e:w.bars[p]? = some r):lS [w.enc,.int p] h=.ok (.int r) h:=by
 have q:atI (w.bars.map .int) (p:Int)=some (.int r):=cX (by simp[e]);exact(bI rfl rfl (aX (aK (aK rfl rfl rfl rfl) rfl rfl q))).trans a4
theorem jS (w:Web)(h:Hd){r:Option Int}(e:w.stays[p]? = some r):dE [w.enc,.int p] h=.ok (bp r) h:=by
 have q:atI (w.stays.map bp) (p:Int)=some (bp r):=cX (by simp[e]);exact(bI rfl rfl (aX (aK (aK rfl rfl rfl rfl) rfl rfl q))).trans a4
variable {s:List Int}{w:Web}
theorem Fq (W:w.Ok n)(F:c0 w n s)(h:Hd):uq [w.enc,aw s] h=.ok (.bl true) h:=by
 obtain⟨r,o,h1,h2,a,b,c,q⟩:=cy (P:=λ_ σ o=>o=h/\∃a b c,σ = [some w.enc,some (aw s),a,b,c]) (g:=none) (k:=0)
   (all:=((List.range (s.map D.int).length).zip (s.map D.int)).map λp=>D.tup [.int (p.1:Nat),p.2]) (λ_ _ _ _=>trivial)
   (xs:=((List.range (s.map D.int).length).zip (s.map D.int)).map λp=>D.tup [.int (p.1:Nat),p.2]) (tg:=gT [2,3]) (σ:=[some w.enc,some (aw s),none,none,none]) (h:=h)
   (b:=z7) (by
   rintro i x σ h0 l ⟨rfl,a,b,c,rfl⟩;have hi:i < s.length:=by
    have:=(List.getElem?_eq_some_iff.mp l).1;simpa using this
   have f:x=.tup [.int (i:Nat),.int s[i]]:=by simpa[hi,ZE] using l.symm
   subst f;have j:w.stays[i]? = some (w.stays[i]'(by rw[W.s,<-F.len];exact hi)):=ZE _;generalize w.stays[i]'(by rw[W.s,<-F.len];exact hi)=st at j;have op:bV [.int s[i]] h0=.ok (.bl true) h0:=by
    rw[gB];rcases F.op _ (YE hi) with e|e<;>rw[e]<;>rfl
   have d:sIf (eQ (tE (ar bV (ab (aa 3) ao)))) (bj (fC (.bl false))) bA [some w.enc,some (aw s),some (.int i),some (.int s[i]),c] h0=.nx [some w.enc,some (aw s),some (.int i),some (.int s[i]),c] h0:=cA (dL (aV (ax (am rfl rfl) op)));have m:=jS w h0 j;cases st with
   | none=>exact⟨_,rfl,_,h0,(c9 d).trans ((c9 (aA (ax (cm rfl rfl) m))).trans (cA (o7 (aV (ah rfl rfl rfl))))),rfl,_,_,_,rfl⟩
   | some y =>
    have t:s[i] = y:=by have:=F.st i y j;rw[ZE hi]at this;exact ZT this
    exact⟨_,rfl,_,h0,(c9 d).trans ((c9 (aA (ax (cm rfl rfl) m))).trans (cA (iX (aV (ah rfl rfl rfl)) (aV (ah rfl rfl (by rw[show bp (some y)=D.int y from rfl,mX,w8 t];rfl)))))),rfl,_,_,_,rfl⟩) ⟨rfl,_,_,_,rfl⟩
 rw[h2,q]at h1;have d:sIf (tOr (eQ (tE (iy .tuple (aa 1)))) (tE (ag oNe (cj (lOf (aa 1))) (ar cT (ab (aa 0) ao))))) (bj (fC (.bl false))) bA [some w.enc,some (aw s),none,none,none] h=.nx [some w.enc,some (aw s),none,none,none] h :=
  cA (jq (dL (b:=true) (aV rfl)) (aV (ah (c5 (bL rfl rfl)) (ax (am rfl rfl) (jR w h)) (by rw[mX,ZA,F.len,W.t,w8 rfl];rfl))))
 exact(bI rfl rfl ((c9 d).trans ((c9 (ee rfl h1)).trans (aX rfl)))).trans a4
theorem Dv (W:w.Ok n)(F:c0 w n s)(h:Hd):dS [w.enc,aw s] h=.ok .non h:=by
 exact(J0 rfl rfl (cA (dL (aV (ax (cm rfl rfl) (Fq W F h)))))).trans a4
theorem mY (l:List Int):cG (l.map .int)=some l:=by
 induction l with
 | nil=>rfl
 | cons x xs ih=>simp[cG,ih]
theorem Iz {i:Nat}(h:i < s.length):atI (s.map .int) (i:Int)=some (.int s[i]):=cX (by simp[h])
def dZ (r:List (Nat × Int)) (s:List Int):List Int:=(r.filter λp=>decide (s.getD p.1 0=1)).map (·.2)
def bq (r:List (Nat × Int)) (s:List Int):Int:=(dZ r s).sum
theorem Dw {r:List (Nat × Int)}(f:∀q∈r,q.1 < s.length)(h:Hd):bT none (r.map yi) (gT [0,1]) [(tE (ag oEq (fAt (aa 2) (aa 0)) (fC (.int 1))))] (aa 1) (r.map yi) [none,none,some (aw s)] h=.ok ((dZ r s).map D.int) h:=by
 have c:bT none (r.map yi) (gT [0,1]) [(tE (ag oEq (fAt (aa 2) (aa 0)) (fC (.int 1))))] (aa 1) (r.map yi) [none,none,some (aw s)] h
   = .ok (((r.map yi).filter λd=>match d with | .tup [.int i,_]=>decide (s.getD i.toNat 0=1)|_=>false).map λd=>match d with | .tup [_,x]=>x|_=>.non) h:=by
  refine bK (g:=none) (I:=λσ=>∃a b,σ = [a,b,some (aw s)]) _ _ trivial ?_ ⟨_,_,rfl⟩;rintro x e σ ⟨a,b,rfl⟩;obtain⟨⟨q,wt⟩,j,rfl⟩:=List.mem_map.mp e;exact⟨_,rfl,⟨_,_,rfl⟩,iF (aV (ah (aK rfl rfl rfl (lR (f _ j))) rfl qd)),λ_=>rfl⟩
 rw[c,dZ,VL,Z2,Z2];rfl
theorem yo (W:w.Ok n)(a:s.length=n){r:List (Nat × Int)}(e:w.ties[p]? = some r)(h:Hd) :
  kq [w.enc,aw s,.int p] h=.ok (.int (2 * bq r s)) h:=by
 have b:∀q∈r,q.1 < s.length:=λq c=>by rw[a];exact W.lt r (ZK e) q c
 exact(bI rfl rfl (aX (ah rfl (yk (cv (Du (ax (cm rfl rfl) (wv w h e))) (Dw b h)) (mY _)) (lP (by decide))))).trans a4
def kr (w:Web) (f s:List Int) (p:Nat):Int:=(2 * w.bars.getD p 0 + 1) * (f.getD p 0 + s.getD p 0) - (if s.getD p 0=1 then 2 * (2 * bq (w.ties.getD p []) f) + 2 * f.getD p 0 else 0)
def eF (w:Web) (f s:List Int):Nat->Int
 | 0=>0
 | k + 1=>eF w f s k + kr w f s k
theorem Ft {x:Int}(h:x=0\/x=1):sml x=true:=by rcases h with e|e<;>subst e<;>decide
def gj:Fn:=bJ 3 6 (ay (aE (gN 3) (ar dE (ab (aa 0) (ab (aa 2) ao))))
  (ay (sIf (tE (ag gJ (aa 3) (fC .non))) (bj (aa 3)) bA)
  (ay (aE (gN 4) (ar kq (ab (aa 0) (ab (aa 1) (ab (aa 2) ao)))))
  (ay (aE (gN 5) (ar lS (ab (aa 0) (ab (aa 2) ao))))
  (ay (sIf (tE (ag oEq (aa 4) (aa 5))) (bj (fAt (aa 1) (aa 2))) bA)
  (bj (fIf (tE (ag oGt (aa 4) (aa 5))) (fC (.int 1)) (fC (.int 0)))))))))
def eh:Fn:=bJ 2 2 (bj (fA (bO 1 [0,1] (br (ar cT (ab (aa 0) ao))) (gN 0) [] (ar gj (ab (aa 1) (ab (aa 2) (ab (aa 0) ao)))))))
abbrev qg:SF:=(ay (iP (jB (aa 2) (aa 3)))
  (aE (gN 3) (ar eh (ab (aa 0) (ab (aa 3) ao)))))
def kt:Fn:=bJ 2 5 (ay (iP (ar dS (ab (aa 0) (ab (aa 1) ao))))
  (ay (aE (gN 2) (aT (ab (aa 1) (ab (ar eh (ab (aa 0) (ab (aa 1) ao))) ao))))
  (ay (aE (gN 3) (ar eh (ab (aa 0) (ab (fAt (aa 2) (fC (.int 1))) ao))))
  (ay (mH (tE (ag oNe (aa 3) (fAt (aa 2) (fC (.int (-2)))))) qg)
  (ay (aE (gN 4) (fIf (tE (ag oEq (fAt (aa 2) (fC (.int (-1)))) (fAt (aa 2) (fC (.int (-2)))))) (fC (.str [114,101,115,116])) (fC (.str [112,97,105,114]))))
  (bj (jw (ab (ag jv (cj (lOf (aa 2))) (fC (.int 2))) (ab (aa 4) (ab (aa 2) ao))))))))))
def bZ (w:Web) (s:List Int) (p:Nat):Int:=match w.stays.getD p none with
 | some x=>x
 | none=>if 2 * bq (w.ties.getD p []) s=w.bars.getD p 0 then s.getD p 0 else if w.bars.getD p 0 < 2 * bq (w.ties.getD p []) s then 1 else 0
def b4 (w:Web) (n:Nat) (s:List Int):List Int:=(List.range n).map (bZ w s)
theorem yp (W:w.Ok n)(F:c0 w n s)(hp:p < n)(h:Hd):gj [w.enc,aw s,.int p] h=.ok (.int (bZ w s p)) h:=by
 have f:p < w.ties.length:=by rw[W.t];exact hp
 have g:p < w.bars.length:=by rw[W.b];exact hp
 have b:p < w.stays.length:=by rw[W.s];exact hp
 have d:p < s.length:=by rw[F.len];exact hp
 have j:w.ties[p]? = some w.ties[p]:=by simp[f]
 have t:w.bars[p]? = some w.bars[p]:=by simp[g]
 have es:w.stays[p]? = some w.stays[p]:=by simp[b]
 have a:=yo W F.len j h;have m:w.ties.getD p [] = w.ties[p]:=by simp[List.getD,f]
 have q:w.bars.getD p 0=w.bars[p]:=by simp[List.getD,g]
 have i:w.stays.getD p none=w.stays[p]:=by simp[List.getD,b]
 have l:s.getD p 0=s[p]:=by simp[List.getD,d]
 have k:=Iz d;cases c:w.stays[p] with
 | some x =>
  rw[c]at es;have o:bZ w s p=x:=by unfold bZ;rw[i,c]
  rw[o];exact(bI rfl rfl ((c9 (aA (ax (cm rfl rfl) (jS w h es)))).trans (ow ((ib (aV (ah rfl rfl rfl))).trans (aX rfl))))).trans a4
 | none =>
  rw[c]at es;have r:=jS w h es;have u:=yn w h t;simp only[bZ,i,c,m,q,l];generalize 2 * bq w.ties[p] s=P at a;have go:∀{v:Int},ay (sIf (tE (ag oEq (aa 4) (aa 5))) (bj (fAt (aa 1) (aa 2))) bA) (bj (fIf (tE (ag oGt (aa 4) (aa 5))) (fC (.int 1)) (fC (.int 0)))) [some w.enc,some (aw s),some (.int p),some .non,some (.int P),some (.int w.bars[p])] h=.rt (.int v) h->gj [w.enc,aw s,.int p] h=.ok (.int v) h:=λe=>YI (bI (σ:=[some w.enc,some (aw s),some (.int p),none,none,none]) rfl rfl (sx (aA (ax (cm rfl rfl) r)) (sx (cA (aV (ah rfl rfl rfl))) (sx (aA (ax (am rfl (cm rfl rfl)) a)) (sx (aA (ax (cm rfl rfl) u)) e))))) a4
  by_cases e1:P=w.bars[p]
  ·rw[yD e1];exact go (ow ((ib (aV (ah rfl rfl (uk e1)))).trans (aX (aK rfl rfl rfl k))))
  ·rw[x3 e1]
   by_cases e2:w.bars[p] < P
   ·rw[yD e2];exact go ((c9 (cA (aV (ah rfl rfl (mW e1))))).trans (aX ((qf (aV (ah rfl rfl (Dt e2)))).trans rfl)))
   ·rw[x3 e2];exact go ((c9 (cA (aV (ah rfl rfl (mW e1))))).trans (aX ((um (aV (ah rfl rfl (ym e2)))).trans rfl)))
theorem kO (W:w.Ok n)(F:c0 w n s)(h:Hd):eh [w.enc,aw s] h=.ok (aw (b4 w n s)) h:=by
 have b:bT none ((List.range n).map λk:Nat=>D.int k) (gN 0) [] (ar gj (ab (aa 1) (ab (aa 2) (ab (aa 0) ao)))) ((List.range n).map λk:Nat=>D.int k) [none,some w.enc,some (aw s)] h
   = .ok (((((List.range n).map λk:Nat=>D.int k).filter λ_=>true)).map λd=>match d with | .int i=>.int (bZ w s i.toNat)|_=>.non) h:=by
  refine bK (g:=none) (I:=λσ=>∃a,σ = [a,some w.enc,some (aw s)]) _ _ trivial ?_ ⟨_,rfl⟩;rintro x c σ ⟨a,rfl⟩;obtain⟨i,hi,rfl⟩:=List.mem_map.mp c;have hi:=List.mem_range.mp hi;exact⟨_,rfl,⟨_,rfl⟩,by simp,λ_=>ax (am rfl (cm rfl rfl)) (yp W F hi h)⟩
 have f:((((List.range n).map λk:Nat=>D.int k).filter λ_=>true)).map (λd=>match d with | .int i=>D.int (bZ w s i.toNat)|_=>.non)=(b4 w n s).map D.int:=by
  rw[List.filter_eq_self.mpr (by simp),Z2,b4,Z2];rfl
 rw[f]at b;have e:cT [w.enc] h=.ok (.int n) h:=W.t ▸ jR w h;exact(bI rfl rfl (aX (f6 (cv (bY (ax (am rfl rfl) e) W.sz) b)))).trans a4
def dM (w:Web):Prop:=∀x∈w.stays,x=none\/x=some 0\/x=some 1
theorem fE (F:c0 w n s)(i:Nat):s.getD i 0=0\/s.getD i 0=1:=by
 by_cases hi:i < s.length
 ·rw[List.getD,ZE hi];exact F.op _ (YE hi)
 ·rw[List.getD,List.getElem?_eq_none (by omega)];exact .inl rfl
theorem qh (F:c0 w n s)(S:dM w)(p:Nat):bZ w s p=0\/bZ w s p=1:=by
 unfold bZ;cases c:w.stays.getD p none with
 | some x =>
  have:some x∈w.stays:=by
   rw[List.getD]at c;cases e:w.stays[p]? with
   | none=>rw[e]at c;cases c
   | some y=>rw[e]at c;simp at c;subst c;exact ZK e
  have:=S _ this;simp at this;exact this
 | none =>
  simp only;split
  ·exact fE F p
  ·split<;>simp
theorem A8 (W:w.Ok n)(S:dM w)(F:c0 w n s):c0 w n (b4 w n s) where
 len:=by simp[b4]
 op:=λx a=>by
  obtain⟨p,c,rfl⟩:=List.mem_map.mp a;exact qh F S p
 st:=λi x e=>by
  have hi:i < n:=by rw[<-W.s];exact(List.getElem?_eq_some_iff.mp e).1
  have:w.stays.getD i none=some x:=by simp[List.getD,e]
  have b:bZ w s i=x:=by unfold bZ;rw[this]
  simp[b4,hi,b]
def aD (w:Web) (n:Nat) (s:List Int):Nat->List Int
 | 0=>s
 | k + 1=>b4 w n (aD w n s k)
theorem bh {w:Web}{n:Nat}{s:List Int}(W:w.Ok n)(S:dM w)(F:c0 w n s):∀k,c0 w n (aD w n s k)
 | 0=>F
 | k + 1=>A8 W S (bh W S F k)
def aL (w:Web) (n:Nat) (s:List Int) (m:Nat):List (List Int):=(List.range m).map (aD w n s)
theorem qi (m:Nat):aL w n s (m + 1)=aL w n s m++[aD w n s m]:=by simp[aL,XX]
theorem gm (m:Nat):(aL w n s m).length=m:=by simp[aL]
theorem Dx {m i:Nat}(h:i < m):atI ((aL w n s m).map aw) (i:Int)=some (aw (aD w n s i)):=cX (by simp[aL,h])
def lU:Fn:=bJ 2 4 (ay (sIf (tOr (eQ (tE (iy .tuple (aa 1)))) (tE (ag oNe (cj (lOf (aa 1))) (fC (.int 3))))) (bj (fC (.bl false))) bA)
  (ay (aE (gN 2) (fAt (aa 1) (fC (.int 0))))
  (ay (aE (gN 3) (fAt (aa 1) (fC (.int 1))))
  (ay (sIf (tOr (eQ (tE (ar bw (ab (aa 2) (ab (fC (.int 0)) (ab (ag jv (aa 0) (fC (.int 1))) ao)))))) (eQ (tE (ar bw (ab (aa 3) (ab (fC (.int 0)) (ab (ag jv (aa 0) (fC (.int 1))) ao))))))) (bj (fC (.bl false))) bA)
  (bj (fT (jy (tE (ag oNe (aa 2) (aa 3))) (tE (ar bw (ab (fAt (aa 1) (fC (.int 2))) (ab (fC (.int 1)) (ab (fC (.int 400)) ao))))))))))))
abbrev ic:SF:=(ay (sIf (eQ (tE (ar lU (ab (aa 0) (ab (aa 3) ao))))) li bA)
  (ay (aE (gN 4) (fAt (aa 3) (fC (.int 0))))
  (ay (aE (gN 5) (fAt (aa 3) (fC (.int 1))))
  (ay (sIf (tE (ag Cs (aa 5) (fAt (aa 2) (aa 4)))) li bA)
  (ay (vK (fAt (aa 2) (aa 4)) (aa 5) (fAt (aa 3) (fC (.int 2))))
  (vK (fAt (aa 2) (aa 5)) (aa 4) (fAt (aa 3) (fC (.int 2)))))))))
def gc:Fn:=bJ 2 6 (ay (sIf (eQ (tE (iy .list (aa 1)))) li bA)
  (ay (aE (gN 2) (aT (bO 1 [] (br (aa 0)) (gN 0) [] zN)))
  (ay (eu (eM (aa 1)) (gN 3) ic)
  (bj (aa 2)))))
def gS:Fn:=bJ 2 2 (ay (sIf (tE (ag iu (aa 1) (fC .non))) li bA)
  (ay (sIf (tOr (eQ (tE (iy .list (aa 1)))) (tE (ag oNe (cj (lOf (aa 1))) (cj (lOf (aa 0)))))) li bA)
  (ay (sIf (eQ (tE (vv (bO 1 [] (eM (aa 1)) (gN 0) [] (ar c7 (ab (aa 0) ao)))))) li bA)
  (bj (fA (lOf (aa 1)))))))
def ge:Fn:=bJ 2 2 (ay (sIf (tE (ag iu (aa 1) (fC .non))) (bj (fA (bO 1 [] (br (aa 0)) (gN 0) [] (fC .non)))) bA)
  (ay (sIf (tOr (eQ (tE (iy .list (aa 1)))) (tE (ag oNe (cj (lOf (aa 1))) (aa 0)))) li bA)
  (ay (sIf (eQ (tE (vv (bO 1 [] (eM (aa 1)) (gN 0) [] (fT (tOr (tE (ag iu (aa 0) (fC .non))) (tE (ar bV (ab (aa 0) ao))))))))) li bA)
  (bj (fA (lOf (aa 1)))))))
def iG:Fn:=bJ 4 6 (ay (sIf (eQ (tE (ar bw (ab (aa 0) (ab (fC (.int 1)) (ab (fC (.int 30)) ao)))))) li bA)
  (ay (aE (gN 4) (ar gc (ab (aa 0) (ab (aa 1) ao))))
  (ay (aE (gN 5) (fA (bO 1 [] (eM (aa 4)) (gN 0) [] (fA (mO (aa 0))))))
  (bj (jw (ab (aa 5) (ab (ar gS (ab (aa 4) (ab (aa 2) ao))) (ab (ar ge (ab (aa 0) (ab (aa 3) ao))) ao))))))))
def sI:Fn:=bJ 2 4 (ay (aE (gN 2) (fC (.int 0)))
  (ay (sIf (tE (ag oLt (aa 1) (cj (lOf (aa 0))))) (aE (gN 2) (fAt (aa 0) (aa 1))) bA)
  (ay (aE (gN 3) (fT (tOr (tE (ag oEq (cj (lOf (aa 0))) (fC (.int 0)))) (tE (ag oEq (ag cz (fAt (aa 0) (fC (.int 0))) (fC (.int 2))) (fC (.int 1)))))))
  (ay (sIf (tE (aa 3)) (aE (gN 2) (ag dy (ag cz (aa 2) (fC (.int 2147483647))) (ag bU (fC (.int 1000003)) (aa 1)))) bA)
  (bj (aT (ab (aa 2) (ab (fC (.int 0)) (ab (aa 3) ao)))))))))
def cU:Fn:=bJ 2 4 (ay (lm (aa 0) (fC (.int 1)) (ag dy (fAt (aa 0) (fC (.int 1))) (fC (.int 1))))
  (ay (sIf (tE (fAt (aa 0) (fC (.int 2)))) (ay (aE (gN 2) (ag cz (ag bU (ag dy (ag dy (fAt (aa 0) (fC (.int 0))) (ag bU (fC (.int 7919)) (fAt (aa 0) (fC (.int 1))))) (fC (.int 1))) (fC (.int 48271))) (fC (.int 2147483647))))
  (ay (aE (gN 2) (ag cz (ag bU (aa 2) (ag dy (ag cz (aa 2) (fC (.int 65521))) (fAt (aa 0) (fC (.int 1))))) (fC (.int 2147483629))))
  (bj (ag cz (ag cz (ag dy (ag bU (aa 2) (aa 2)) (ag bU (fC (.int 69621)) (aa 2))) (fC (.int 2147483563))) (aa 1))))) bA)
  (ay (aE (gN 3) (ag cz (fAt (aa 0) (fC (.int 0))) (aa 1)))
  (ay (lm (aa 0) (fC (.int 0)) (ag g8 (fAt (aa 0) (fC (.int 0))) (aa 1)))
  (bj (aa 3))))))
def Fu:Fn:=bJ 3 3 (ay (sIf (tE (ag oEq (aa 0) (fC (.int 0)))) (bj (aa 2)) bA)
  (ay (sIf (tE (ag oEq (aa 0) (fC (.int 1)))) (bj (ag jv (aa 1) (fC (.int 60)))) bA)
  (ay (sIf (tE (ag oEq (aa 0) (fC (.int 2)))) (bj (ag jv (ag dy (aa 2) (ag cz (aa 1) (fC (.int 5)))) (fC (.int 2)))) bA)
  (ay (sIf (tE (ag oEq (aa 0) (fC (.int 3)))) (bj (ag bU (fC (.int 2)) (ag cz (aa 1) (ag dy (aa 2) (fC (.int 1)))))) bA)
  (bj (ag bU (ag dy (ag KS (fC (.int 10)) (fC (.int 59))) (aa 1)) (fIx (ab (fC (.int 1)) (ab (fC (.int (-1))) ao)) (ag cz (aa 1) (fC (.int 2))))))))))
abbrev ww:SF:=(sIf (tE (ag oEq (ar cU (ab (aa 9) (ab (aa 3) ao))) (fC (.int 0)))) (ay (aE (gN 11) (ag dy (fC (.int 1)) (ar cU (ab (aa 9) (ab (fIx (ab (fC (.int 3)) (ab (fC (.int 400)) ao)) (ar cU (ab (aa 9) (ab (fC (.int 2)) ao)))) ao)))))
  (ay (iP (KZ (aa 4) (ar cU (ab (aa 9) (ab (ag dy (cj (lOf (aa 4))) (fC (.int 1))) ao))) (fIx (ab (jw (ab (aa 8) (ab (aa 10) (ab (aa 11) ao)))) (ab (jw (ab (aa 10) (ab (aa 8) (ab (aa 11) ao)))) ao)) (ag cz (aa 11) (fC (.int 2))))))
  (ay (lm (aa 7) (aa 8) (ag dy (fAt (aa 7) (aa 8)) (aa 11)))
  (lm (aa 7) (aa 10) (ag dy (fAt (aa 7) (aa 10)) (aa 11)))))) bA)
abbrev wx:SF:=(ay (aE (gN 9) (ar sI (ab (aa 0) (ab (ag dy (fC (.int 1)) (aa 8)) ao))))
  (ay (iP (jB (aa 6) (fIx (ab (fC .non) (ab (fC .non) (ab (fC .non) (ab (fC (.int 0)) (ab (fC (.int 1)) ao))))) (ar cU (ab (aa 9) (ab (fC (.int 5)) ao))))))
  (ay (iP (jB (aa 5) (jw (ab (ar cU (ab (aa 9) (ab (fC (.int 5)) ao))) (ab (ar cU (ab (aa 9) (ab (fC (.int 200)) ao))) ao)))))
  (eu (br (aa 8)) (gN 10) ww))))
def yq:Fn:=bJ 1 12 (ay (aE (gN 1) (ar sI (ab (aa 0) (ab (fC (.int 0)) ao))))
  (ay (iP (ar cU (ab (aa 1) (ab (fC (.int 2)) ao))))
  (ay (aE (gN 2) (ag dy (fC (.int 1)) (ar cU (ab (aa 1) (ab (fIx (ab (fC (.int 6)) (ab (fC (.int 12)) (ab (fC (.int 30)) ao))) (ar cU (ab (aa 1) (ab (fC (.int 3)) ao)))) ao)))))
  (ay (aE (gN 3) (fIx (ab (fC (.int 1)) (ab (fC (.int 2)) (ab (fC (.int 5)) ao))) (ar cU (ab (aa 1) (ab (fC (.int 3)) ao)))))
  (ay (aE (gN 4) (aT ao))
  (ay (aE (gN 5) (aT ao))
  (ay (aE (gN 6) (aT ao))
  (ay (aE (gN 7) (aT (pR (ab (fC (.int 0)) ao) (aa 2))))
  (ay (eu (br (aa 2)) (gN 8) wx)
  (ay (aE (gN 5) (aT (bO 1 [7,5] (br (aa 2)) (gN 0) [] (ar Fu (ab (fAt (fAt (aa 2) (aa 0)) (fC (.int 0))) (ab (fAt (fAt (aa 2) (aa 0)) (fC (.int 1))) (ab (fAt (aa 1) (aa 0)) ao)))))))
  (bj (jw (ab (aa 2) (ab (aa 4) (ab (aa 5) (ab (aa 6) (ab (aa 7) ao)))))))))))))))))
theorem bm {a:SF}{σ':Sd}(e:a σ h=.nx σ' h'):ay a b σ h=b σ' h':=by simp[ay,e]
theorem o8 {x:Int}(h0:0<=x)(h1:x < 4611686018427387904):sml x=true:=by
 simp only[sml,Z7,Y8];omega
theorem gU {α : Type}{f : α->D}{l:List α}{i:Nat}(h:i < l.length):atI (l.map f) (i:Int)=some (f l[i]):=cX (by simp[h])
theorem dh {i:Nat}{x:D}(hx:((List.range n).map λk:Nat=>D.int k)[i]? = some x):i < n/\x=.int (i:Nat):=by
 have hi:i < n:=by
  have:=(List.getElem?_eq_some_iff.mp hx).1;simpa using this
 exact⟨hi,by simpa[hi,ZE] using hx.symm⟩
theorem J1 {α : Type}(f : α->D)(l:List α){x:Int}(h0:0<=x)(h:x < l.length):∃v∈l,atI (l.map f) x=some (f v):=by
 have a:x.toNat < l.length:=by omega
 refine⟨l[x.toNat],YE a,?_⟩;have:=gU (f:=f) a;rwa[show ((x.toNat:Nat):Int)=x by omega]at this
structure Tie where
 a:Nat
 b:Nat
 w:Int
def fO (t:Tie):D:=.tup [.int t.a,.int t.b,.int t.w]
def far (i:Nat) (t:Tie):Option Nat:=if t.a=i then some t.b else if t.b=i then some t.a else none
def wOf (i:Nat) (t:Tie):Int:=if t.a=i\/t.b=i then t.w else 0
def Gr (T:List Tie) (i:Nat):Int:=(T.map (wOf i)).sum
def J2 (one other:Nat) (t:Tie):Prop:=(t.a < one/\t.b < one)\/(t.a=one/\t.b < other)\/(t.b=one/\t.a < other)
def iZ (s t:Tie):Prop:=¬(s.a=t.a/\s.b=t.b)/\¬(s.a=t.b/\s.b=t.a)
structure TOk (n one other:Nat) (T:List Tie):Prop where
 ne:∀t∈T,t.a≠t.b
 lt:∀t∈T,t.a < n/\t.b < n
 wt:∀t∈T,1<=t.w/\t.w<=400
 be:∀t∈T,J2 one other t
 un:T.Pairwise iZ
 len:T.length<=30 * one + other
theorem iZ.symm {s t:Tie}(h:iZ s t):iZ t s:=⟨λz=>h.1 ⟨z.1.symm,z.2.symm⟩,λz=>h.2 ⟨z.2.symm,z.1.symm⟩⟩
variable {T:List Tie}
theorem TOk.skip {one other:Nat}(o:TOk n one other T):TOk n one (other + 1) T :=
 ⟨o.ne,o.lt,o.wt,λt a=>by
  rcases o.be t a with h|h|h
  ·exact .inl h
  ·exact .inr (.inl ⟨h.1,v4 h.2⟩)
  ·exact .inr (.inr ⟨h.1,v4 h.2⟩),o.un,WK o.len⟩
theorem TOk.step {one:Nat}(o:TOk n one one T)(h:one < n)(hn:n<=30):TOk n (one + 1) 0 T :=
 ⟨o.ne,o.lt,o.wt,λt a=>by
  rcases o.be t a with h|h|h
  ·exact .inl ⟨v4 h.1,v4 h.2⟩
  ·exact .inl ⟨Nat.lt_succ_of_le (Nat.le_of_eq h.1),v4 h.2⟩
  ·exact .inl ⟨v4 h.2,Nat.lt_succ_of_le (Nat.le_of_eq h.1)⟩,o.un,ZM o.len (XU (ZM (Y6 h) hn) _)⟩
theorem o9 {α : Type}{x y : α}{l:List α}{k:Nat}(h:y∈l.take k++[x]++l.drop k):y=x\/y∈l:=by
 simp only[ZU,List.mem_append,YL]at h;rcases h with h|h|h
 ·exact .inr (YS h)
 ·exact .inl h
 ·exact .inr (XG h)
theorem Dy {α : Type}{R : α->α->Prop}(sym:∀a b,R a b->R b a){x : α}{l:List α}(k:Nat)(h:l.Pairwise R)(hx:∀y∈l,R x y):(l.take k++[x]++l.drop k).Pairwise R:=by
 have d:(l.take k++l.drop k).Pairwise R:=by rw[YO];exact h
 rw[Z8]at d;obtain⟨h1,h2,g⟩:=d;rw[ZU,Z8];refine⟨h1,?_,λa e b c => ?_⟩
 ·rw[List.singleton_append,List.pairwise_cons]
  exact⟨λy f=>hx y (XG f),h2⟩
 ·rcases List.mem_append.mp c with c|c
  ·simp at c;subst c;exact sym _ _ (hx a (YS e))
  ·exact g a e b c
theorem TOk.put {one other:Nat}(o:TOk n one other T)(h1:one < n)(h2:other < one){w:Int}(c:1<=w)(d:w<=400){t:Tie}(ht:t=⟨one,other,w⟩\/t=⟨other,one,w⟩)(k:Nat):TOk n one (other + 1) (T.take k++[t]++T.drop k) where
 ne:=λs a=>by
  rcases o9 a with rfl|a
  ·rcases ht with e|e<;>subst e
   ·exact Z6 h2
   ·exact ZN h2
  ·exact o.ne s a
 lt:=λs a=>by
  rcases o9 a with rfl|a
  ·rcases ht with e|e<;>subst e
   ·exact⟨h1,Z1 h2 h1⟩
   ·exact⟨Z1 h2 h1,h1⟩
  ·exact o.lt s a
 wt:=λs a=>by
  rcases o9 a with rfl|a
  ·rcases ht with e|e<;>subst e<;>exact⟨c,d⟩
  ·exact o.wt s a
 be:=λs a=>by
  rcases o9 a with rfl|a
  ·rcases ht with e|e<;>subst e
   ·exact .inr (.inl ⟨rfl,Z4 _⟩)
   ·exact .inr (.inr ⟨rfl,Z4 _⟩)
  ·exact o.skip.be s a
 un:=Dy (λ_ _=>iZ.symm) k o.un λs a=>by
  have b:=o.be s a;rcases ht with e|e<;>subst e<;>rcases b with b|b|b
  ·exact⟨λz=>Z6 b.1 z.1,λz=>Z6 b.2 z.1⟩
  ·exact⟨λz=>Z6 b.2 z.2,λz=>Z6 (Z1 b.2 h2) z.1⟩
  ·exact⟨λz=>Z6 (Z1 b.2 h2) z.1,λz=>Z6 b.2 z.2⟩
  ·exact⟨λz=>Z6 b.2 z.2,λz=>Z6 b.1 z.2⟩
  ·exact⟨λz=>Z6 (Z1 b.2 h2) z.2,λz=>Z6 b.2 z.1⟩
  ·exact⟨λz=>Z6 b.2 z.1,λz=>Z6 (Z1 b.2 h2) z.2⟩
 len:=by
  have e:(T.take k).length + (T.drop k).length=T.length:=by rw[<-ZB,YO]
  rw[ZB,ZB,List.length_singleton,WY,e];exact Nat.succ_le_succ o.len
def K6 (p:Int × Int):D:=.tup [.int p.1,.int p.2]
structure PH (n i:Nat) (T:List Tie) (bs:List (Int × Int)) (ss:List (Option Int)) (h:Hd):Prop where
 ti:h[1]? = some (.lst (T.map fO))
 ba:h[2]? = some (.lst (bs.map K6))
 st:h[3]? = some (.lst (ss.map bp))
 to:h[4]? = some (.lst (((List.range n).map (Gr T)).map .int))
 len:h.length=5 + i
 lb:bs.length=i
 ls:ss.length=i
 os:∀x∈ss,x=none\/x=some 0\/x=some 1
theorem IA {g:Hd}{k:Nat}{c:bE}(a:bE)(h:g[k]? = some c):(g.set k a)[k]? = some a:=List.getElem?_set_self (List.getElem?_eq_some_iff.mp h).1
theorem pf {j:Nat}(h:j < n):ixN n (j:Int)=some j:=by simp[ixN,h]
abbrev XP (lit:D) (hd:Option D) (n thin one:Nat) (a b:Option D):Sd:=[some lit,hd,some (.int n),some (.int thin),some (.ref 1),some (.ref 2),some (.ref 3),some (.ref 4),some (.int one),some (.ref (5 + one)),a,b]
abbrev SC (c t:Int) (b:Bool):bE:=.lst [.int c,.int t,.bl b]
inductive PI (lit:D) (hd:Option D) (n thin one:Nat) (bs:List (Int × Int)) (ss:List (Option Int)) (m:Bool):Nat->Sd->Hd->Prop
 | mk {i:Nat} {h:Hd} {T:List Tie} {a b:Option D} {c t:Int} (P:PH n (one + 1) T bs ss h) (O:TOk n one i T) (hs:h[5 + one]? = some (SC c t m)):PI lit hd n thin one bs ss m i (XP lit hd n thin one a b) h
theorem few {l one i:Nat}(h:l<=30 * one + i)(h1:one < n)(hn:n<=30)(hi:i < one):l < 1000:=by omega
abbrev XQ (lit:D) (hd:Option D) (n thin:Nat) (a b c d:Option D):Sd:=[some lit,hd,some (.int n),some (.int thin),some (.ref 1),some (.ref 2),some (.ref 3),some (.ref 4),a,b,c,d]
theorem Kw {u:Option Int}(h:u∈[none,none,none,some 0,some 1]):u=none\/u=some 0\/u=some 1:=by
 simp at h;exact h
inductive PO (ns:List Int) (hd:Option D) (n thin:Nat):Nat->Sd->Hd->Prop
 | mk {i:Nat} {h:Hd} {a b c d:Option D} {T:List Tie} {bs:List (Int × Int)} {ss:List (Option Int)} (P:PH n i T bs ss h) (O:TOk n i 0 T):PO ns hd n thin i (XQ (.lit (ns.map .int)) hd n thin a b c d) h
structure K7 (ns:List Int) (n:Nat) (T:List Tie) (bs:List Int) (ss:List (Option Int)) (h:Hd):Prop where
 run:yq [.lit (ns.map .int)] []=.ok (.tup [.int n,.ref 1,.ref (5 + n),.ref 3,.ref 4]) h
 n1:1<=n
 n30:n<=30
 ok:TOk n n 0 T
 ti:h[1]? = some (.lst (T.map fO))
 ba:h[5 + n]? = some (.lst (bs.map .int))
 st:h[3]? = some (.lst (ss.map bp))
 to:h[4]? = some (.lst (((List.range n).map (Gr T)).map .int))
 len:h.length=6 + n
 lb:bs.length=n
 ls:ss.length=n
 os:∀x∈ss,x=none\/x=some 0\/x=some 1
theorem gp {α : Type}{f : α->D}:∀{l:List α},(∀x∈l,pure? (f x)=true)->ev (l.map f)=true
 | [],_=>rfl
 | x :: l,h=>by
  simp only[x8,ev,Z7];exact⟨h x (by simp),gp λy a=>h y (by simp[a])⟩
theorem wy (w:Web):pure? w.enc=true:=by
 have h1:∀r:List (Nat × Int),pure? (qS r)=true:=λr=>by
  unfold qS;simp only[pure?];exact gp λp _=>rfl
 have h2:ev (w.ties.map qS)=true:=gp λr _=>h1 r;have b:ev (w.bars.map D.int)=true:=gp λr _=>rfl;have a:ev (w.stays.map bp)=true:=gp λr _=>by cases r<;>rfl
 unfold Web.enc;simp only[pure?,ev,h2,b,a];rfl
def qj (p:Nat × Int):List Int:=[(p.1:Int),p.2]
def oJ (x:Nat × Int):List (Nat × Int)->List (Nat × Int)
 | []=>[x]
 | y :: r=>if cx (qj x) (qj y)=true then x :: y :: r else y :: oJ x r
def fF:List (Nat × Int)->List (Nat × Int)
 | []=>[]
 | x :: r=>oJ x (fF r)
theorem wA (x:Nat × Int):∀r,(oJ x r).map qj=tT (qj x) (r.map qj)
 | []=>rfl
 | y :: r=>by
  simp only[oJ,tT,x8];split
  ·rfl
  ·simp[wA x r]
theorem sJ:∀r,(fF r).map qj=cQ (r.map qj)
 | []=>rfl
 | x :: r=>by simp only[fF,cQ,x8,wA,sJ r]
theorem wB {x p:Nat × Int}:∀{r},p∈oJ x r ↔ p=x\/p∈r
 | []=>by simp[oJ]
 | y :: r=>by
  simp only[oJ];split
  ·simp
  ·simp only[VI,wB (r:=r)]
   constructor
   ·rintro (h|h|h)
    ·exact .inr (.inl h)
    ·exact .inl h
    ·exact .inr (.inr h)
   ·rintro (h|h|h)
    ·exact .inr (.inl h)
    ·exact .inl h
    ·exact .inr (.inr h)
theorem mZ {p:Nat × Int}:∀{r},p∈fF r ↔ p∈r
 | []=>by simp[fF]
 | x :: r=>by simp only[fF,wB,mZ (r:=r),VI]
theorem wC (f:Nat × Int->Int)(x:Nat × Int):∀r,((oJ x r).map f).sum=f x + (r.map f).sum
 | []=>by simp[oJ]
 | y :: r=>by
  simp only[oJ];split
  ·simp
  ·simp[wC f x r];omega
theorem sK (f:Nat × Int->Int):∀r,((fF r).map f).sum=(r.map f).sum
 | []=>rfl
 | x :: r=>by simp[fF,wC,sK f r]
def nbs (T:List Tie) (i:Nat):List (Nat × Int):=T.filterMap λt=>(far i t).map λj=>(j,t.w)
def oK (p:Nat × Int):Int × D:=((p.1:Int),.int p.2)
theorem wD (T:List Tie)(t:Tie)(i:Nat):nbs (T++[t]) i=nbs T i++(match far i t with|some j=>[(j,t.w)] | none=>[]):=by
 unfold nbs;rw[List.filterMap_append];congr 1;cases e:far i t<;>simp[e]
theorem A9 {l:List (Nat × Int)}{k:Nat}(h:∀p∈l,p.1≠k):pO (l.map oK) k=none:=by
 unfold pO;rw[List.find?_eq_none.mpr]
 ·rfl
 ·intro x b
  obtain⟨p,c,rfl⟩:=List.mem_map.mp b;have a:=h p c;have : ¬((p.1:Int)=(k:Int)):=λz=>a (by omega);show ¬(decide ((p.1:Int)=(k:Int))=true);rw[Y8];exact this
theorem wE {l:List (Nat × Int)}{k:Nat}{v:Int}(h:∀p∈l,p.1≠k):xJ (l.map oK) k (.int v)=(l++[(k,v)]).map oK:=by
 unfold xJ;rw[x3]
 ·simp[oK]
 ·simp only[List.any_eq_true,List.mem_map,Y8]
  rintro⟨x,⟨p,b,rfl⟩,e⟩;have a:=h p b;have e:(p.1:Int)=(k:Int):=e;exact a (by omega)
theorem wF {i j:Nat}{t:Tie}(h:far i t=some j):(t.a=i/\t.b=j)\/(t.b=i/\t.a=j):=by
 unfold far at h
 by_cases a:t.a=i
 ·rw[yD a]at h;exact .inl ⟨a,ZT h⟩
 ·rw[x3 a]at h
  by_cases b:t.b=i
  ·rw[yD b]at h;exact .inr ⟨b,ZT h⟩
  ·rw[x3 b]at h;cases h
theorem yr {t:Tie}{i j:Nat}(b:far i t=some j)(un:∀s∈T,iZ s t):∀p∈nbs T i,p.1≠j:=λp d e=>by
 obtain⟨s,c,q⟩:=List.mem_filterMap.mp d;obtain⟨k,a,rfl⟩:=Option.map_eq_some_iff.mp q;have u:=un s c;rw[show k=j from e]at a;rcases wF b with ⟨a1,a2⟩|⟨a1,a2⟩<;>rcases wF a with ⟨b1,b2⟩|⟨b1,b2⟩
 ·exact u.1 ⟨b1.trans a1.symm,b2.trans a2.symm⟩
 ·exact u.2 ⟨b2.trans a2.symm,b1.trans a1.symm⟩
 ·exact u.2 ⟨b1.trans a1.symm,b2.trans a2.symm⟩
 ·exact u.1 ⟨b2.trans a2.symm,b1.trans a1.symm⟩
theorem Ba {t:Tie}(h1:t.a≠t.b)(h2:t.a < n)(j:t.b < n)(d:1<=t.w/\t.w<=400)(h:Hd):lU [.int n,fO t] h=.ok (.bl true) h:=by
 have f:(t.a:Int)<=n - 1:=Int.le_sub_one_of_lt (Int.ofNat_lt.mpr h2);have g:(t.b:Int)<=n - 1:=Int.le_sub_one_of_lt (Int.ofNat_lt.mpr j);have e : ¬(t.a:Int)=t.b:=λz=>h1 (Int.ofNat.inj z);have c:∀{i a b:Int},a<=i->i<=b->bw [.int i,.int a,.int b] h=.ok (.bl true) h:=λx y=>by rw[eE,w8 x,w8 y];rfl
 exact YI (bI (σ:=[some (.int n),some (fO t),none,none]) rfl rfl (sx (cA (jq (dL (b:=true) (aV rfl)) (aV (ah (c5 (bL rfl rfl)) rfl rfl)))) (sx (aA (aK rfl rfl rfl rfl)) (sx (aA (aK rfl rfl rfl rfl)) (sx (cA (jq (dL (b:=true) (aV (ax (am rfl (am rfl (am (ah rfl rfl rfl) rfl))) (c (XD _) f)))) (dL (b:=true) (aV (ax (am rfl (am rfl (am (ah rfl rfl rfl) rfl))) (c (XD _) g)))))) (aX (ou (iX (aV (ah rfl rfl (by rw[mX,ZY e];rfl))) (aV (ax (am (aK rfl rfl rfl rfl) (am rfl (am rfl rfl))) (c d.1 d.2))))))))))) a4
structure NH (n A:Nat) (h0:Hd) (T:List Tie) (h:Hd):Prop where
 pre:∃g,h=h0++g/\g.length=n + 1
 dc:∀j,j < n->h[A + j]? = some (.dct ((nbs T j).map oK))
 rf:h[A + n]? = some (.lst ((List.range n).map λi=>.ref (A + i)))
theorem NH.put {h0:Hd}(a:A=h0.length)(N:NH n A h0 T h){j:Nat}(hj:j < n)(c:bE):(∃g,h.set (A + j) c=h0++g/\g.length=n + 1)/\(h.set (A + j) c)[A + j]? = some c/\(∀k,k≠j->(h.set (A + j) c)[A + k]? = h[A + k]?):=by
 obtain⟨g,e,l⟩:=N.pre;have lt:=(List.getElem?_eq_some_iff.mp (N.dc j hj)).1;exact⟨⟨g.set j c,by rw[e,ki a],by rw[Y4];exact l⟩,List.getElem?_set_self lt,λk b=>ZP λz=>b (WT z).symm⟩
theorem Dz {i j:Nat}(hn:n<=30)(O:TOk n n 0 T):((nbs (T.take i) j).map oK).length < SZ:=by
 rw[ZA];exact ZS (ZM (List.length_filterMap_le _ _) (ZM (List.length_take_le' _ _) (ZM O.len (Nat.add_le_add_right (Nat.mul_le_mul_left 30 hn) 0)))) (by decide)
abbrev XN (n tk A:Nat) (a b c:Option D):Sd:=[some (.int n),some (.ref tk),some (.ref (A + n)),a,b,c]
theorem Fv {tk i:Nat}(hn:n<=30)(O:TOk n n 0 T){h0:Hd}(w:A=h.length)(N:NH n A h (T.take i) h0){t:Tie}(mt:t∈T)(un:∀s∈T.take i,iZ s t)(u:T.take (i + 1)=T.take i++[t])(b c:Option D) :
  ∃m,ic (XN n tk A (some (fO t)) b c) h0=.nx (XN n tk A (some (fO t)) (some (.int t.a)) (some (.int t.b))) m/\NH n A h (T.take (i + 1)) m:=by
 have f:=O.ne t mt;have a:=O.lt t mt;have fa:far t.a t=some t.b:=yD rfl;have B:far t.b t=some t.a:=(x3 f).trans (yD rfl);have y:=yr fa un;have H:=yr B un;have p:∀j:Nat,j < n->atI ((List.range n).map λi=>D.ref (A + i)) (j:Int)=some (.ref (A + j)):=λj v=>cX (by rw[ZQ,List.getElem?_range v];rfl);have E:=p t.a a.1;have G:=p t.b a.2;have C:=N.dc t.a a.1;obtain⟨F,p2,r⟩:=N.put w a.1 (.dct ((nbs (T.take i) t.a++[(t.b,t.w)]).map oK));obtain⟨k,o⟩ : ∃k,k=h0.set (A + t.a) (.dct ((nbs (T.take i) t.a++[(t.b,t.w)]).map oK)):=⟨_,rfl⟩;rw[<-o]at F p2 r;have q:k[A + n]? = some (.lst ((List.range n).map λi=>.ref (A + i))):=(r n (Z6 a.1)).trans N.rf;have x:k[A + t.b]? = some (.dct ((nbs (T.take i) t.b).map oK)):=(r t.b (XO f)).trans (N.dc t.b a.2);obtain⟨m,d⟩ : ∃m,m=k.set (A + t.b) (.dct ((nbs (T.take i) t.b++[(t.a,t.w)]).map oK)):=⟨_,rfl⟩;refine⟨m,sx (cA (dL (aV (ax (am rfl (am rfl rfl)) (Ba f a.1 a.2 (O.wt t mt) h0))))) (sx (aA (aK rfl rfl rfl rfl)) (sx (aA (aK rfl rfl rfl rfl)) (sx (cA (aV (ah rfl (aK rfl rfl (aC N.rf) E) (by rw[Ix C,A9 y];rfl)))) (sx (h':=k) (by
  rw[o,<-wE y];exact z6 (aK rfl rfl rfl rfl) (aK rfl rfl (aC N.rf) E) rfl C (Dz hn O)) (by
  rw[d,<-wE H];exact z6 (aK rfl rfl rfl rfl) (aK rfl rfl (aC q) G) rfl x (Dz hn O)))))),?_,λj v => ?_,?_⟩
 ·obtain⟨g,e,l⟩:=F
  exact⟨_,by rw[d,e,ki w],by rw[Y4];exact l⟩
 ·rw[u,wD]
  by_cases e1:t.b=j
  ·subst e1
   rw[d,IA _ x,B]
  ·rw[d,ZP (λz=>e1 (WT z))]
   by_cases e2:t.a=j
   ·subst e2
    rw[p2,fa]
   ·have:far j t=none:=(x3 e2).trans (x3 e1)
    rw[r j (XO e2),this,N.dc j v];simp only[Y3]
 ·rw[d];exact(ZP (λz=>ZN a.2 (WT z))).trans q
theorem Bb (r:A=h.length):∃h1 g,bT none ((List.range n).map λk:Nat=>D.int k) (gN 0) [] zN ((List.range n).map λk:Nat=>D.int k) [none] h=.ok ((List.range n).map λi=>.ref (A + i)) h1/\h1=h++g/\g.length=n/\∀j,j < n->h1[A + j]? = some (.dct []):=by
 obtain⟨ds,h1,t,m,w,s,-,g,u,b,p⟩:=iV (g:=none) (all:=(List.range n).map λk:Nat=>D.int k) (tg:=gN 0) (xs:=(List.range n).map λk:Nat=>D.int k) (k:=0)
  (e:=zN) (σ:=[none]) (h:=h)
  (P:=λi σ q=>(∃a,σ = [a])/\∃g,q=h++g/\g.length=i/\∀j,j < i->q[A + j]? = some (.dct [])) (V:=λi d=>d=.ref (A + i)) (λ_ _ _ _=>trivial) (by
   rintro i x σ h0 v ⟨⟨a,rfl⟩,g,o,b,c⟩;obtain⟨hi,rfl⟩:=dh v;rw[Z3]at b c ⊢;have l:h0.length=A + i:=by rw[o,ZB,b,r]
   refine⟨_,rfl,.ref h0.length,h0++[.dct []],rfl,by rw[l],⟨_,rfl⟩,g++[.dct []],by rw[o,ZU],by rw[ZB,b];rfl,λj f => ?_⟩
   by_cases hji:j < i
   ·exact aH _ (c j hji)
   ·rw[Nat.le_antisymm (XR f) (Nat.not_lt.mp hji),<-l];exact ZG) ⟨⟨_,rfl⟩,[],(Y3 _).symm,rfl,λj f=>absurd f (XC _)⟩
 rw[ZA,ZO]at m;rw[Z3,ZA,ZO]at b p;have c:ds=(List.range n).map λi=>.ref (A + i):=qc m λi d hd=>by have:=w i d hd;rwa[Z3]at this
 exact⟨h1,g,by rw[t,c],u,b,p⟩
inductive NI (n A tk:Nat) (h:Hd) (T:List Tie):Nat->Sd->Hd->Prop
 | mk {i:Nat} {h':Hd} {a b c:Option D} (N:NH n A h (T.take i) h'):NI n A tk h T i (XN n tk A a b c) h'
theorem qT (C:1<=n)(hn:n<=30)(O:TOk n n 0 T){tk:Nat}(ht:h[tk]? = some (.lst (T.map fO))) :
  ∃h',gc [.int n,.ref tk] h=.ok (.ref (h.length + n)) h'/\NH n h.length h T h':=by
 obtain⟨A,m⟩ : ∃A,A=h.length:=⟨_,rfl⟩;rw[<-m];obtain⟨h1,g,D,o,u,H⟩:=Bb (n:=n) m;obtain⟨h2,d⟩ : ∃h2,h2=h1++[.lst ((List.range n).map λi=>.ref (A + i))]:=⟨_,rfl⟩;have l:h1.length=A + n:=by rw[o,ZB,u,m]
 have v:NH n A h [] h2:=⟨⟨g++[.lst ((List.range n).map λi=>.ref (A + i))],by rw[d,o,ZU],by rw[ZB,u];rfl⟩,λj I=>by rw[d];exact aH _ (H j I),by rw[d,<-l];exact ZG⟩;obtain⟨_,y,J,@⟨_,Q,L,M,t⟩⟩:=cy (P:=NI n A tk h T) (g:=some tk) (k:=0)
   (all:=T.map fO) (λ_ _ h' q=>by
    obtain⟨N⟩:=q;obtain⟨g,e,_⟩:=N.pre;show h'[tk]? = _;rw[e];exact aH _ ht)
   (xs:=T.map fO) (tg:=gN 3) (σ:=XN n tk A none none none) (h:=h2) (b:=ic) (by
   intro i x σ h0 p z;rw[Z3]at z ⊢;obtain @⟨_,a,b,c,N⟩:=z;have f:i < T.length:=by have:=(List.getElem?_eq_some_iff.mp p).1;rwa[ZA]at this
   rw[ZQ,ZE f]at p;cases p;have G:T[i]∈T:=YE f;have K:∀s∈T.take i,iZ s T[i]:=λs w=>by
    obtain⟨k,r,rfl⟩:=VC w;rw[X9]at r;rw[List.getElem_take];exact List.pairwise_iff_getElem.mp O.un k i _ f (ZZ r (Nat.min_le_left _ _))
   obtain⟨F,B,E⟩:=Fv (tk:=tk) hn O m N G K (Y0 f) b c;exact⟨_,rfl,_,F,B,.mk E⟩) (.mk v)
 rw[Z3,ZA,WA]at t;refine⟨y,YI (bI (σ:=[some (.int n),some (.ref tk),none,none,none,none]) rfl rfl (sx (cA (dL (aV (ul rfl ht)))) (sx (σ':=[some (.int n),some (.ref tk),some (.ref (A + n)),none,none,none]) (h':=h2) (by
  rw[d,<-l];exact aA (bD (cv (bY rfl (ZM hn (by decide))) D) (by rw[ZA,ZO];exact ZM hn (by decide)))) (sx (ee (dv rfl (by rw[d,o];exact aH _ (aH _ ht))) J) (aX rfl))))) (by simp[letGo,pure?]),t⟩
theorem J3 (a b:Int)(h:Hd):oNe (.int a) (.int b) h=.ok (.bl (!decide (a=b))) h:=rfl
theorem IB {l:List Nat}(nd:l.Nodup)(h:∀x∈l,x < n):l.length<=n:=by
 induction n generalizing l with
 | zero=>match l,h with
  | [],_=>exact ZL _
  | x :: _,h=>exact absurd (h x ZV) (XC _)
 | succ n ih =>
  by_cases m:n∈l
  ·have:=ih (nd.erase n) λx a=>by
    have z:=(List.Nodup.mem_erase_iff nd).mp a;exact WE (XR (h x z.2)) z.1
   rw[List.length_erase_of_mem m]at this;exact Nat.le_add_of_sub_le this
  ·exact WK (ih nd λx a=>WE (XR (h x a)) λz=>m (z ▸ a))
def dw (n:Nat) (T:List Tie) (bs:List Int) (ss:List (Option Int)):Web:=⟨(List.range n).map λi=>fF (nbs T i),bs,ss⟩
theorem lV:∀l:List (Nat × Int),eC (l.map oK)=some (l.map qj)
 | []=>rfl
 | p :: l=>by
  have a:=lV l;simp only[x8];show (eC (l.map oK)).map _=_;rw[a];rfl
theorem IC (un:T.Pairwise iZ)(i:Nat):((nbs T i).map (·.1)).Nodup:=by
 unfold nbs
 induction T with
 | nil=>simp
 | cons t T a =>
  obtain⟨h1,h2⟩:=List.pairwise_cons.mp un;have a:=a h2;cases e:far i t with
  | none=>simp only[X5,e,Option.map_none];exact a
  | some j =>
   simp only[X5,e,X3,x8,List.nodup_cons];refine⟨λz => ?_,a⟩;obtain⟨p,d,b⟩:=List.mem_map.mp z;exact yr (T:=T) e (λs c=>(h1 s c).symm) p d b
theorem Fw {l:List (Nat × Int)}(nd:(l.map (·.1)).Nodup):(l.map qj).Nodup:=by
 rw[List.nodup_iff_pairwise_ne,WL]at nd ⊢;exact nd.imp λ{a b} h e=>h (by have:=(List.cons.inj e).1;omega)
theorem sL {α : Type}{l:List α}:iw (l.map λ_=>D.bl true)=some (l.map λ_=>true):=by
 induction l with
 | nil=>rfl
 | cons x l ih=>simp[iw,ih]
theorem ur {d bk:Nat}{bs:List Int}(hn:h[d]? = some (.lst l))(f:l.length=n)(hb:h[bk]? = some (.lst (bs.map .int)))(lb:bs.length=n):gS [.ref d,.ref bk] h=.ok (.tup (bs.map .int)) h:=by
 have c:bT (some bk) (bs.map D.int) (gN 0) [] (ar c7 (ab (aa 0) ao)) (bs.map D.int) [none] h=.ok ((bs.map D.int).map λ_=>D.bl true) h:=by
  have:=bK (g:=some bk) (all:=bs.map D.int) (tg:=gN 0) (cs:=[]) (e:=ar c7 (ab (aa 0) ao)) (h:=h) (I:=λσ=>∃a,σ = [a]) (λ_=>true) (λ_=>.bl true) hb (xs:=bs.map D.int) (σ:=[none]) (by
   rintro x j σ ⟨a,rfl⟩;obtain⟨i,_,rfl⟩:=List.mem_map.mp j;exact⟨_,rfl,⟨_,rfl⟩,rfl,λ_=>ax (am rfl rfl) (lT _ _)⟩) ⟨_,rfl⟩
  rw[this,List.filter_eq_self.mpr (by simp)]
 have k:((bs.map D.int).map λ_=>true).all id=true:=by simp
 exact YI (bI (σ:=[some (.ref d),some (.ref bk)]) rfl rfl (sx (cA (aV (ah rfl rfl rfl))) (sx (cA (jq (dL (b:=true) (aV (ul rfl hb))) (aV (ah (c5 (bL rfl (aC hb))) (c5 (bL rfl (aC hn))) (by rw[J3,ZA,lb,f,w8 rfl];rfl))))) (sx (cA (dL (b:=true) (aV (YI (uo (cv (dv rfl hb) c) sL) (by rw[k]))))) (aX (f6 (bL rfl (aC hb)))))))) a4
theorem qU {sk:Nat}{ss:List (Option Int)}(d:h[sk]? = some (.lst (ss.map bp)))(ls:ss.length=n)(os:∀x∈ss,x=none\/x=some 0\/x=some 1):ge [.int n,.ref sk] h=.ok (.tup (ss.map bp)) h:=by
 have c:bT (some sk) (ss.map bp) (gN 0) [] (fT (tOr (tE (ag iu (aa 0) (fC .non))) (tE (ar bV (ab (aa 0) ao))))) (ss.map bp) [none] h=.ok ((ss.map bp).map λ_=>D.bl true) h:=by
  have:=bK (g:=some sk) (all:=ss.map bp) (tg:=gN 0) (cs:=[]) (e:=fT (tOr (tE (ag iu (aa 0) (fC .non))) (tE (ar bV (ab (aa 0) ao))))) (h:=h) (I:=λσ=>∃a,σ = [a]) (λ_=>true) (λ_=>.bl true) d (xs:=ss.map bp) (σ:=[none]) (by
   rintro x f σ ⟨a,rfl⟩;obtain⟨i,hi,rfl⟩:=List.mem_map.mp f;refine⟨_,rfl,⟨_,rfl⟩,rfl,λ_ => ?_⟩;rcases os i hi with e|e|e<;>subst e
   ·exact ou (uj (aV (ah rfl rfl rfl)))
   ·exact ou (jq (aV (ah rfl rfl rfl)) (aV (ax (am rfl rfl) (gB 0 h))))
   ·exact ou (jq (aV (ah rfl rfl rfl)) (aV (ax (am rfl rfl) (gB 1 h))))) ⟨_,rfl⟩
  rw[this,List.filter_eq_self.mpr (by simp)]
 exact YI (bI (σ:=[some (.int n),some (.ref sk)]) rfl rfl (sx (cA (aV (ah rfl rfl rfl))) (sx (cA (jq (dL (b:=true) (aV (ul rfl d))) (aV (ah (c5 (bL rfl (aC d))) rfl (by rw[J3,ZA,ls,w8 rfl];rfl))))) (sx (cA (dL (b:=true) (aV (YI (uo (cv (dv rfl d) c) sL) (by rw[List.all_map];simp))))) (aX (f6 (bL rfl (aC d)))))))) a4
theorem Fx (hn:n<=30)(O:TOk n n 0 T)(N:NH n A h T h1) :
  bT (some (A + n)) ((List.range n).map λi=>.ref (A + i)) (gN 0) [] (fA (mO (aa 0))) ((List.range n).map λi=>.ref (A + i)) [none] h1=.ok (((List.range n).map λi=>fF (nbs T i)).map qS) h1:=by
 have:=bK (g:=some (A + n)) (all:=(List.range n).map λi=>.ref (A + i)) (tg:=gN 0) (cs:=[]) (e:=fA (mO (aa 0))) (h:=h1) (I:=λσ=>∃a,σ = [a]) (λ_=>true)
  (λd=>match d with | .ref k=>qS (fF (nbs T (k - A)))|_=>.non) N.rf (xs:=(List.range n).map λi=>.ref (A + i)) (σ:=[none]) (by
   rintro x f σ ⟨a,rfl⟩;obtain⟨i,hi,rfl⟩:=List.mem_map.mp f;have hi:=List.mem_range.mp hi;refine⟨_,rfl,⟨_,rfl⟩,rfl,λ_ => ?_⟩;have l:=IC O.un i;have j:((nbs T i).map qj).length < 64:=by
    have lt:∀p∈nbs T i,p.1 < n:=λp b=>by
     unfold nbs at b;obtain⟨t,c,q⟩:=List.mem_filterMap.mp b;have:=O.lt t c;unfold far at q
     by_cases a1:t.a=i
     ·rw[yD a1]at q;simp at q;subst q;exact this.2
     ·rw[x3 a1]at q
      by_cases a2:t.b=i
      ·rw[yD a2]at q;simp at q;subst q;exact this.1
      ·rw[x3 a2]at q;cases q
    have:=IB l (n:=n) (λx f=>by
     obtain⟨p,b,rfl⟩:=List.mem_map.mp f;exact lt p b)
    simp at this ⊢;omega
   have e:((cQ ((nbs T i).map qj)).map tU)=(fF (nbs T i)).map yi:=by rw[<-sJ,Z2];rfl
   simp only[List.set_cons_zero,fA,mO,aa,slot,List.getElem?_cons_zero,aP,N.dc i hi,lV,yD (And.intro j (Fw l)),e,qS,Nat.add_sub_cancel_left]) ⟨_,rfl⟩
 rw[this,List.filter_eq_self.mpr (by simp),Z2,Z2];congr 1;apply YX;intro i _;simp
theorem Bc (d:1<=n)(hn:n<=30)(O:TOk n n 0 T){bs:List Int}{ss:List (Option Int)}(lb:bs.length=n)(ls:ss.length=n)(os:∀x∈ss,x=none\/x=some 0\/x=some 1){tk bk sk:Nat}
  (ht:h[tk]? = some (.lst (T.map fO))) (hb:h[bk]? = some (.lst (bs.map .int))) (r:h[sk]? = some (.lst (ss.map bp))):iG [.int n,.ref tk,.ref bk,.ref sk] h=.ok (dw n T bs ss).enc h:=by
 obtain⟨h1,o,N⟩:=qT d hn O ht;obtain⟨A,p⟩ : ∃A,A=h.length:=⟨_,rfl⟩;rw[<-p]at o N;obtain⟨g,m,u⟩:=N.pre;have f:∀{k:Nat} {c:bE},h[k]? = some c->h1[k]? = some c:=λ{k c} e=>by rw[m,ZC (List.getElem?_eq_some_iff.mp e).1];exact e
 have a:=Fx hn O N;have t:=ur (n:=n) (l:=(List.range n).map λi=>.ref (A + i)) N.rf (by simp) (f hb) lb;have j:=qU (n:=n) (f r) ls os;have q:(1:Int)<=n:=Int.ofNat_le.mpr d;have s:(n:Int)<=30:=Int.ofNat_le.mpr hn;have rf:=N.rf;refine YI (bI (σ:=[some (.int n),some (.ref tk),some (.ref bk),some (.ref sk),none,none]) rfl rfl (sx (cA (dL (b:=true) (aV (ax (am rfl (am rfl (am rfl rfl))) (by rw[eE,w8 q,w8 s];rfl))))) (sx (aA (ax (am rfl (am rfl rfl)) o)) (sx (aA (f6 (cv (dv rfl rf) a))) (aX (ia (am rfl (am (ax (am rfl (am rfl rfl)) t) (am (ax (am rfl (am rfl rfl)) j) rfl))) (by exact Y9 rfl))))))) ?_;show letGo h (.ok (dw n T bs ss).enc h1)=_;rw[m];exact cJ (wy _)
theorem kP (s:List Int):∀r:List (Nat × Int),bq r s=(r.map λp=>if s.getD p.1 0=1 then p.2 else 0).sum
 | []=>rfl
 | p :: r=>by
  have a:=kP s r;simp only[bq,dZ,XJ,x8,W2]at a ⊢
  by_cases e:s.getD p.1 0=1
  ·simp only[e,decide_true,Uz,x8,W2];rw[a]
  ·simp only[e,decide_false,XF,YA];rw[a];omega
theorem wG (s:List Int)(r:List (Nat × Int)):bq (fF r) s=bq r s:=by rw[kP,kP,sK]
theorem ID (lt:∀t∈T,t.a < n/\t.b < n){i:Nat}:∀p∈nbs T i,p.1 < n:=λp b=>by
 unfold nbs at b;obtain⟨t,a,q⟩:=List.mem_filterMap.mp b;have:=lt t a;unfold far at q
 by_cases a1:t.a=i
 ·rw[yD a1]at q;simp at q;subst q;exact this.2
 ·rw[x3 a1]at q
  by_cases a2:t.b=i
  ·rw[yD a2]at q;simp at q;subst q;exact this.1
  ·rw[x3 a2]at q;cases q
theorem DA (hn:n<=30)(O:TOk n n 0 T){bs:List Int}{ss:List (Option Int)}(lb:bs.length=n)(ls:ss.length=n):(dw n T bs ss).Ok n:=by
 refine⟨by simp[dw],lb,ls,λr a p b => ?_,by omega⟩;obtain⟨i,_,rfl⟩:=List.mem_map.mp a;exact ID O.lt p (mZ.mp b)
structure Ll (n:Nat) (T:List Tie) (bs:List Int) (ss:List (Option Int)) (tk bk sk:Nat) (h:Hd):Prop where
 ti:h[tk]? = some (.lst (T.map fO))
 ba:h[bk]? = some (.lst (bs.map .int))
 st:h[sk]? = some (.lst (ss.map bp))
theorem yt {bs:List Int}{ss:List (Option Int)}{one:Nat}(h1:one < n):bZ (dw n T bs ss) s one=match ss.getD one none with
  | some x=>x
  | none=>if 2 * bq (nbs T one) s=bs.getD one 0 then s.getD one 0 else if bs.getD one 0 < 2 * bq (nbs T one) s then 1 else 0:=by
 have e:((dw n T bs ss).ties.getD one [])=fF (nbs T one):=by simp[dw,List.getD,h1]
 unfold bZ;rw[e,wG];rfl
structure Lm (n:Nat) (ss:List (Option Int)) (s:List Int):Prop where
 len:s.length=n
 op:∀x∈s,x=0\/x=1
 st:∀(i:Nat) x,ss[i]? = some (some x)->s[i]? = some x
def LeS (a b:List Int):Prop:=∀i:Nat,a.getD i 0<=b.getD i 0
def ut (a:List Int):Prop:=∀i:Nat,a.getD i 0=0\/a.getD i 0=1
theorem ei (p:Nat × Int)(r:List (Nat × Int))(s:List Int):bq (p :: r) s=(if s.getD p.1 0=1 then p.2 else 0) + bq r s:=by
 unfold bq dZ
 by_cases e:s.getD p.1 0=1
 ·rw[XJ,yD (by simp only[Y8];exact e),yD e];rfl
 ·rw[XJ,x3 (by simp only[Y8];exact e),x3 e];omega
theorem oy {a b:List Int}(B:ut b)(l:LeS a b):∀{r:List (Nat × Int)},(∀p∈r,0<=p.2)->bq r a<=bq r b
 | [],_=>XI _
 | p :: r,h=>by
  have f:=oy B l (r:=r) λq d=>h q (by simp[d]);have h0:=h p (by simp);have g:=l p.1;have i:=B p.1;rw[ei,ei]
  by_cases e:a.getD p.1 0=1
  ·have c:b.getD p.1 0=1:=by omega
   rw[yD e,yD c];omega
  ·rw[x3 e]
   by_cases c:b.getD p.1 0=1
   ·rw[yD c];omega
   ·rw[x3 c];omega
theorem Fy {b d c a x y:Int}(hp:b<=d)(hb:a<=c)(l:x<=y)(h:x=0\/x=1)(g:y=0\/y=1):(if 2 * b=c then x else if c < 2 * b then 1 else 0)<=(if 2 * d=a then y else if a < 2 * d then (1:Int) else 0):=by
 have f:0<=y:=by rcases g with rfl|rfl<;>decide
 have x1:x<=1:=by rcases h with rfl|rfl<;>decide
 have q:2 * b<=2 * d:=Int.mul_le_mul_of_nonneg_left hp (by decide);generalize 2 * b=A at q;generalize 2 * d=B at q
 by_cases e1:A=c
 ·rw[yD e1]
  by_cases e2:B=a
  ·rw[yD e2];exact l
  ·rw[x3 e2,yD (Int.lt_iff_le_and_ne.mpr ⟨W8 hb (e1 ▸ q),XO e2⟩)];exact x1
 ·rw[x3 e1]
  by_cases e3:c < A
  ·have e:a < B:=Int.lt_of_le_of_lt hb (Int.lt_of_lt_of_le e3 q)
   rw[yD e3,x3 (Int.ne_of_gt e),yD e];exact XI _
  ·rw[x3 e3]
   by_cases e2:B=a
   ·rw[yD e2];exact f
   ·rw[x3 e2]
    split
    ·decide
    ·exact XI _
theorem yu {c d:Web}{a b:List Int}(hp:bq (c.ties.getD p []) a<=bq (d.ties.getD p []) b)(hb:d.bars.getD p 0<=c.bars.getD p 0)(B1:ut a)(g:ut b)(le:LeS a b)
  (st:(c.stays.getD p none=none/\d.stays.getD p none=none)\/c.stays.getD p none=some 0\/d.stays.getD p none=some 1) (n1:bZ c a p=0\/bZ c a p=1) (h:bZ d b p=0\/bZ d b p=1):bZ c a p<=bZ d b p:=by
 rcases st with ⟨s1,s2⟩|s|s
 ·have f:=B1 p
  have e:=g p;have l:=le p;unfold bZ;rw[s1,s2];generalize bq (c.ties.getD p []) a=P1 at *;generalize bq (d.ties.getD p []) b=P2 at *;generalize c.bars.getD p 0=c1 at *;generalize d.bars.getD p 0=c2 at *;generalize a.getD p 0=x at *;generalize b.getD p 0=y at *;exact Fy hp hb l f e
 ·have:bZ c a p=0:=by unfold bZ;rw[s]
  omega
 ·have:bZ d b p=1:=by unfold bZ;rw[s]
  omega
theorem sM (w:Web)(n:Nat)(s:List Int)(i:Nat):(b4 w n s).getD i 0=if i < n then bZ w s i else 0:=by
 unfold b4
 by_cases h:i < n<;>simp[List.getD,h]
theorem c0.bits (F:c0 w n s):ut s:=λi=>fE F i
structure Fz (w1 w2:Web) (n:Nat):Prop where
 go:∀a b,c0 w1 n a->c0 w2 n b->LeS a b->LeS (b4 w1 n a) (b4 w2 n b)
theorem FA {c d:Web}(j:dM c)(S2:dM d)(hp:∀p,p < n->∀a b,ut a->ut b->LeS a b->bq (c.ties.getD p []) a<=bq (d.ties.getD p []) b)(hb:∀p,p < n->d.bars.getD p 0<=c.bars.getD p 0)
  (st:∀p,p < n->(c.stays.getD p none=none/\d.stays.getD p none=none)\/c.stays.getD p none=some 0\/d.stays.getD p none=some 1):Fz c d n :=
 ⟨λa b e f g i=>by
  rw[sM,sM]
  by_cases h:i < n
  ·rw[yD h,yD h]
   exact yu (hp i h a b e.bits f.bits g) (hb i h) e.bits f.bits g (st i h) (qh e j i) (qh f S2 i)
  ·rw[x3 h,x3 h];exact XI _⟩
theorem sN {c d:Web}{n:Nat}(f:c.Ok n)(g:d.Ok n)(i:dM c)(S2:dM d)(M:Fz c d n){a b:List Int}(e:c0 c n a)(h:c0 d n b)(le:LeS a b):∀k,LeS (aD c n a k) (aD d n b k)
 | 0=>le
 | k + 1=>M.go _ _ (bh f i e k) (bh g S2 h k) (sN f g i S2 M e h le k)
def S2 (R:Nat->List (Nat × Int)) (f s:Nat->Int):Nat->Int
 | 0=>0
 | k + 1=>S2 R f s k + ((R k).map λp=>p.2 * f p.1 * s k).sum
def dN (g:Nat->Int):Nat->Int
 | 0=>0
 | n + 1=>dN g n + g n
theorem sO (g:Nat->Int)(n:Nat):((List.range n).map g).sum=dN g n:=by
 induction n with
 | zero=>rfl
 | succ n ih=>rw[XX,ZR,List.sum_append,ih];simp[dN]
theorem wH (l:List Int):l.sum=dN (λk=>l.getD k 0) l.length:=by
 rw[<-sO];congr 1;apply YB;intro i
 by_cases hi:i < l.length<;>simp[List.getD,hi]
def nc (w:Web) (n:Nat) (f s:List Int):Int :=
 2 * dN (λk=>(f.getD k 0 + s.getD k 0) * w.bars.getD k 0) n + f.sum + s.sum - 4 * S2 (λi=>w.ties.getD i []) (λk=>f.getD k 0) (λk=>s.getD k 0) n - 2 * dN (λk=>f.getD k 0 * s.getD k 0) n
theorem Bd {r:List (Nat × Int)}{f:List Int}(a:∀p∈r,f.getD p.1 0=0\/f.getD p.1 0=1):bq r f=(r.map λp=>p.2 * f.getD p.1 0).sum:=by
 induction r with
 | nil=>rfl
 | cons p r ih =>
  have h1:=a p (by simp);have h2:=ih λq b=>a q (by simp[b]);simp only[bq,dZ]at h2 ⊢;rcases h1 with e|e
  ·simp[-List.getD_eq_getElem?_getD,e,h2]
  ·simp[-List.getD_eq_getElem?_getD,e,h2]
theorem sP {f:List Int}(W:w.Ok n)(c:c0 w n f)(h:c0 w n s):eF w f s n=nc w n f s:=by
 have a:∀{l:List Int} (F:c0 w n l) (i:Nat),l.getD i 0=0\/l.getD i 0=1:=λ{l} F i=>by
  by_cases hi:i < l.length
  ·rw[List.getD,ZE hi];exact F.op _ (YE hi)
  ·rw[List.getD,List.getElem?_eq_none (by omega)];exact .inl rfl
 have g:∀m,m<=n->eF w f s m=2 * dN (λk=>(f.getD k 0 + s.getD k 0) * w.bars.getD k 0) m + dN (λk=>f.getD k 0) m + dN (λk=>s.getD k 0) m
   - 4 * S2 (λi=>w.ties.getD i []) (λk=>f.getD k 0) (λk=>s.getD k 0) m - 2 * dN (λk=>f.getD k 0 * s.getD k 0) m:=by
  intro m
  induction m with
  | zero=>intro _;rfl
  | succ m b =>
   intro q;have b:=b (by omega);simp only[eF,dN,S2,kr,b];have o:=Bd (r:=w.ties.getD m []) (f:=f) λp _=>a c p.1;have j:=a c m;have bs:=a h m;have d:((w.ties.getD m []).map λp=>p.2 * f.getD p.1 0 * s.getD m 0).sum=bq (w.ties.getD m []) f * s.getD m 0:=by
    rw[o];generalize w.ties.getD m [] = r
    induction r with
    | nil=>simp
    | cons p r b=>simp only[x8,W2,b,Int.add_mul]
   rw[d];rcases j with e|e<;>rcases bs with e'|e'<;>simp only[e,e']<;>simp<;>omega
 rw[g n (ZL _),nc,wH f,wH s,c.len,h.len]
theorem yv {f:List Int}(sym:∀f s,S2 (λi=>w.ties.getD i []) f s n=S2 (λi=>w.ties.getD i []) s f n):nc w n f s=nc w n s f:=by
 have a:(λk=>(f.getD k 0 + s.getD k 0) * w.bars.getD k 0)=λk=>(s.getD k 0 + f.getD k 0) * w.bars.getD k 0:=by funext k;rw[Int.add_comm]
 have b:(λk=>f.getD k 0 * s.getD k 0)=λk=>s.getD k 0 * f.getD k 0:=by funext k;rw[Int.mul_comm]
 rw[nc,nc,a,b,sym];omega
theorem Be {f:List Int}(W:w.Ok n)(a:c0 w n f)(b:c0 w n s)(sym:∀f s,S2 (λi=>w.ties.getD i []) f s n=S2 (λi=>w.ties.getD i []) s f n):eF w f s n=eF w s f n:=by
 rw[sP W a b,sP W b a,yv sym]
def unl (a b:List Int) (n:Nat):Int:=dN (λp=>if a.getD p 0=b.getD p 0 then 0 else 1) n
theorem kQ (a b:List Int):∀n,0<=unl a b n
 | 0=>by simp[unl,dN]
 | n + 1=>by
  have:=kQ a b n;simp only[unl,dN]at this ⊢;split<;>omega
theorem z8 {a b:List Int}:∀{n:Nat},(∃p,p < n/\a.getD p 0≠b.getD p 0)->1<=unl a b n
 | 0,⟨p,hp,_⟩=>by omega
 | n + 1,⟨p,hp,hne⟩=>by
  have h0:=kQ a b n
  by_cases e:p=n
  ·subst e
   simp only[unl,dN]at h0 ⊢;rw[x3 hne];omega
  ·have:=z8 (a:=a) (b:=b) (n:=n) ⟨p,by omega,hne⟩
   simp only[unl,dN]at this ⊢;split<;>omega
theorem FB {a b:List Int}(ha:a.length=n)(hb:b.length=n)(h:a≠b):∃p,p < n/\a.getD p 0≠b.getD p 0:=by
 refine VB λq=>h ?_;apply List.ext_getElem (by omega);intro i h1 h2;refine VB λz=>q ⟨i,by omega,?_⟩;simpa[List.getD,h1,h2] using z
theorem Bf (hp:p < n):(b4 w n s).getD p 0=bZ w s p:=by simp[b4,List.getD,hp]
theorem Bg (F:c0 w n s){x:Int}(e:w.stays.getD p none=some x):s.getD p 0=x:=by
 have:w.stays[p]? = some (some x):=by
  rw[List.getD]at e;cases c:w.stays[p]? with
  | none=>rw[c]at e;cases e
  | some y=>rw[c]at e;simp at e;rw[e]
 have:=F.st p x this;simp[List.getD,this]
theorem K8 {d a:List Int}(W:w.Ok n)(h:c0 w n d)(o:c0 w n a)(sym:∀f s,S2 (λi=>w.ties.getD i []) f s n=S2 (λi=>w.ties.getD i []) s f n) :
  eF w a (b4 w n a) n + unl d (b4 w n a) n<=eF w d a n:=by
 rw[Be W h o sym];have k:∀m,m<=n->eF w a (b4 w n a) m + unl d (b4 w n a) m<=eF w a d m:=by
  intro m
  induction m with
  | zero=>intro _;simp[eF,unl,dN]
  | succ m j =>
   intro r;have j:=j (by omega);have e:=fE h m;have g:=fE o m;have q:=Bf (w:=w) (s:=a) (p:=m) (n:=n) (by omega);have l:kr w a (b4 w n a) m + (if d.getD m 0=(b4 w n a).getD m 0 then 0 else 1)<=kr w a d m:=by
    unfold kr;rw[q];unfold bZ;cases c:w.stays.getD m none with
    | some x =>
     have:=Bg h c;simp only[this];simp
    | none =>
     simp only;generalize w.bars.getD m 0=b;generalize bq (w.ties.getD m []) a=P;generalize d.getD m 0=x0 at e ⊢;generalize a.getD m 0=x1 at g ⊢
     by_cases h1:2 * P=b
     ·rw[yD h1]
      rcases e with z|z<;>rcases g with y|y<;>subst z y<;>simp<;>omega
     ·rw[x3 h1]
      by_cases h2:b < 2 * P
      ·rw[yD h2]
       rcases e with z|z<;>rcases g with y|y<;>subst z y<;>simp<;>omega
      ·rw[x3 h2]
       rcases e with z|z<;>rcases g with y|y<;>subst z y<;>simp<;>omega
   simp only[eF,unl,dN]at j ⊢;omega
 exact k n (ZL _)
def Bh (r:List (Nat × Int)):Int:=(r.map λp=>(p.2.natAbs:Int)).sum
theorem Bi (r:List (Nat × Int))(f:List Int):bq r f<=Bh r:=by
 induction r with
 | nil=>simp[bq,dZ,Bh]
 | cons p r ih =>
  simp only[bq,dZ,Bh,XJ,x8,W2]at ih ⊢;split
  ·simp only[x8,W2];omega
  ·omega
theorem DB {w:Web}{n:Nat}:∀m,∃C:Int,∀f s,c0 w n f->c0 w n s->-C<=eF w f s m
 | 0=>⟨0,λf s _ _=>by simp[eF]⟩
 | m + 1=>by
  obtain⟨C,d⟩:=DB (w:=w) (n:=n) m;refine⟨C + (2 * ((2 * w.bars.getD m 0 + 1).natAbs:Int) + 4 * Bh (w.ties.getD m []) + 2 + 4 * ((Bh (w.ties.getD m [])).natAbs:Int)),λf s a c => ?_⟩;have h:=d f s a c;have g:=fE a m;have e:=fE c m;have i:=Bi (w.ties.getD m []) f;simp only[eF,kr];generalize w.bars.getD m 0=b at *;generalize bq (w.ties.getD m []) f=P at *;generalize Bh (w.ties.getD m [])=A at *;generalize eF w f s m=T at *;rcases g with z|z<;>rcases e with y|y<;>simp only[z,y]<;>simp<;>omega
theorem yw {P:Nat->Prop}(h:∃t,P t):∃t,P t/\∀k,k < t->¬P k:=by
 obtain⟨t,c⟩:=h
 induction t using Nat.strongRecOn with
 | ind t ih =>
  by_cases q:∃k,k < t/\P k
  ·obtain⟨k,b,a⟩:=q
   exact ih k b a
  ·exact⟨t,c,λk b a=>q ⟨k,b,a⟩⟩
def eN (w:Web) (n:Nat) (s:List Int) (k:Nat):Int:=eF w (aD w n s k) (aD w n s (k + 1)) n
theorem z9 (W:w.Ok n)(S:dM w)(F:c0 w n s)(sym:∀f s,S2 (λi=>w.ties.getD i []) f s n=S2 (λi=>w.ties.getD i []) s f n)(k:Nat) :
  eN w n s (k + 1) + unl (aD w n s k) (aD w n s (k + 2)) n<=eN w n s k:=K8 W (bh W S F k) (bh W S F (k + 1)) sym
theorem Gs (W:w.Ok n)(S:dM w)(F:c0 w n s)(sym:∀f s,S2 (λi=>w.ties.getD i []) f s n=S2 (λi=>w.ties.getD i []) s f n){k:Nat}(h:aD w n s (k + 2)≠aD w n s k):eN w n s (k + 1) + 1<=eN w n s k:=by
 have:=z9 W S F sym k;have:=z8 (n:=n) (FB (bh W S F k).len (bh W S F (k + 2)).len (XO h));omega
theorem Gu {w:Web}{n:Nat}{s:List Int}(W:w.Ok n)(S:dM w)(F:c0 w n s)(sym:∀f s,S2 (λi=>w.ties.getD i []) f s n=S2 (λi=>w.ties.getD i []) s f n){k:Nat}:∀{m:Nat},k<=m->eN w n s m<=eN w n s k
 | 0,h=>by
  have:k=0:=by omega
  subst this;exact XI _
 | m + 1,h=>by
  by_cases e:k=m + 1
  ·subst e;exact XI _
  ·have h1:=Gu W S F sym (k:=k) (m:=m) (by omega)
   have h2:=z9 W S F sym m;have a:=kQ (aD w n s m) (aD w n s (m + 2)) n;omega
theorem K9 (W:w.Ok n)(S:dM w)(F:c0 w n s)(sym:∀f s,S2 (λi=>w.ties.getD i []) f s n=S2 (λi=>w.ties.getD i []) s f n):∃t,aD w n s (t + 2)=aD w n s t/\∀k,k < t->aD w n s (k + 2)≠aD w n s k:=by
 refine yw (P:=λt=>aD w n s (t + 2)=aD w n s t) ?_;refine VB λq => ?_;obtain⟨C,b⟩:=DB (w:=w) (n:=n) n;have a:∀k:Nat,eN w n s k + k<=eN w n s 0:=by
  intro k
  induction k with
  | zero=>simp
  | succ k ih =>
   have:=Gs W S F sym (k:=k) λz=>q ⟨k,z⟩;omega
 have h1:=a (eN w n s 0 + C + 1).toNat;have h2 : -C<=eN w n s (eN w n s 0 + C + 1).toNat:=b _ _ (bh W S F _) (bh W S F _);have c : -C<=eN w n s 0:=b _ _ (bh W S F _) (bh W S F _);omega
theorem sQ:∀(a b:List Int),a.length=b.length->iN (a.map .int) (b.map .int)=some (decide (a=b))
 | [],[],_=>by simp[iN]
 | x :: a,y :: b,h=>by
  have c:=sQ a b (by simpa using h);simp only[x8,iN,peq,c]
  by_cases e:x=y<;>by_cases e2:a=b<;>simp[e,e2]
 | [],_ :: _,h=>by simp at h
 | _ :: _,[],h=>by simp at h
theorem Bj (l:List Int):mG (l.map .int)=0:=by
 induction l with
 | nil=>rfl
 | cons x l ih=>simp[mG,dep,ih]
theorem FC (l:List Int):dep (aw l)=1:=by simp[aw,dep,Bj]
theorem FD {a b:List Int}(h:a.length=b.length):peq (aw a) (aw b)=some (decide (a=b)):=by
 simp only[aw,peq,sQ a b h,X3,ZA,h];simp
theorem Aa {a b:List Int}(h:a.length=b.length)(hd:Hd):eqG hd (aw a) (aw b)=some (decide (a=b)):=by
 have c:∀l,ef hd (aw l)=none:=λl=>rfl;simp only[eqG,c,FC,FD h];rfl
theorem Ab {a b:List Int}(h:a.length=b.length)(hd:Hd):oNe (aw a) (aw b) hd=.ok (.bl (!decide (a=b))) hd:=by
 unfold oNe;rw[Aa h]
theorem Ac {a b:List Int}(h:a.length=b.length)(hd:Hd):oEq (aw a) (aw b) hd=.ok (.bl (decide (a=b))) hd:=by
 unfold oEq;rw[Aa h]
theorem J4 {k:Nat}(h1:1<=k)(h2:k<=n) : ¬ 0<=-(k:Int)/\-(n:Int)<=-(k:Int)/\(-(k:Int) + (n:Int)).toNat=n - k:=by omega
theorem FE {k:Nat}(h1:1<=k)(h2:k<=l.length):atI l (-(k:Int))=l[l.length - k]? := by
 have q:=J4 h1 h2;unfold atI ixN;rw[x3 q.1,yD q.2.1,q.2.2];rfl
theorem eG (k j:Nat)(h1:1<=j):atI ((aL w n s (k + j)).map aw) (-(j:Int))=some (aw (aD w n s k)):=by
 rw[FE h1 (by rw[ZA,gm];exact Nat.le_add_left j k),ZA,gm,Nat.add_sub_cancel,ZQ,aL,ZQ,List.getElem?_range (Nat.lt_add_of_pos_right h1)];rfl
theorem ng {a:SF}{σ':Sd}(e:a σ h=.nx σ' h'):ay a b σ h=b σ' h':=by simp[ay,e]
theorem DC (W:w.Ok n)(S:dM w)(F:c0 w n s){t:Nat}(ht:aD w n s (t + 2)=aD w n s t)(hm:∀k,k < t->aD w n s (k + 2)≠aD w n s k)(hz:t<=900000)(h:Hd) :
  kt [w.enc,aw s] h=.ok (.tup [.int t,.str (if aD w n s (t + 1)=aD w n s t then [114,101,115,116] else [112,97,105,114]),.ref h.length]) (h++[.lst ((aL w n s (t + 2)).map aw)]):=by
 have L:∀k,(aD w n s k).length=n:=λk=>(bh W S F k).len;have l:∀j k,k + j=t->cY (tE (ag oNe (aa 3) (fAt (aa 2) (fC (.int (-2)))))) qg (j + 1) [some w.enc,some (aw s),some (.ref h.length),some (aw (aD w n s (k + 2))),none] (h++[.lst ((aL w n s (k + 2)).map aw)])
   = .nx [some w.enc,some (aw s),some (.ref h.length),some (aw (aD w n s (t + 2))),none] (h++[.lst ((aL w n s (t + 2)).map aw)]):=by
  intro j
  induction j with
  | zero =>
   intro k e;have:k=t:=e;subst this;have p:atI ((aL w n s (k + 2)).map aw) (-2)=some (aw (aD w n s k)):=eG k 2 (by decide);have c:tE (ag oNe (aa 3) (fAt (aa 2) (fC (.int (-2))))) [some w.enc,some (aw s),some (.ref h.length),some (aw (aD w n s (k + 2))),none] (h++[.lst ((aL w n s (k + 2)).map aw)])=.ok false (h++[.lst ((aL w n s (k + 2)).map aw)]):=by
    rw[ht];exact aV (ah rfl (aK rfl rfl (aC ZG) p) (by rw[Ab rfl,w8 rfl];rfl))
   simp only[cY,c]
  | succ j ih =>
   intro k e;have p:atI ((aL w n s (k + 2)).map aw) (-2)=some (aw (aD w n s k)):=eG k 2 (by decide);have c:tE (ag oNe (aa 3) (fAt (aa 2) (fC (.int (-2))))) [some w.enc,some (aw s),some (.ref h.length),some (aw (aD w n s (k + 2))),none] (h++[.lst ((aL w n s (k + 2)).map aw)])=.ok true (h++[.lst ((aL w n s (k + 2)).map aw)]):=by
    exact aV (ah rfl (aK rfl rfl (aC ZG) p) (by rw[Ab ((L (k + 2)).trans (L k).symm),ZY (hm k (e ▸ Nat.lt_add_of_pos_right (Nat.succ_pos j)))];rfl))
   have B:((aL w n s (k + 2)).map aw).length < SZ:=by rw[ZA,gm];exact ZS (Nat.add_le_add_right (ZM (e ▸ XZ k (j + 1)) hz) 2) (by decide)
   have tk:=kO W (bh W S F (k + 2)) (h++[.lst ((aL w n s (k + 3)).map aw)]);have f:qg [some w.enc,some (aw s),some (.ref h.length),some (aw (aD w n s (k + 2))),none] (h++[.lst ((aL w n s (k + 2)).map aw)])=.nx [some w.enc,some (aw s),some (.ref h.length),some (aw (aD w n s (k + 3))),none] (h++[.lst ((aL w n s (k + 3)).map aw)]):=by
    have u:iP (jB (aa 2) (aa 3)) [some w.enc,some (aw s),some (.ref h.length),some (aw (aD w n s (k + 2))),none] (h++[.lst ((aL w n s (k + 2)).map aw)])=.nx [some w.enc,some (aw s),some (.ref h.length),some (aw (aD w n s (k + 2))),none] (h++[.lst ((aL w n s (k + 3)).map aw)]):=by
     rw[show aL w n s (k + 3)=aL w n s (k + 2)++[aD w n s (k + 2)] from qi (k + 2),ZR];exact(iW (jQ rfl ZG rfl ZG B)).trans (by rw[kj rfl];rfl)
    exact(ng u).trans (aA (ax (cm rfl rfl) tk))
   rw[cY,c];simp only[f];exact ih (k + 1) (by rw[WY];exact e)
 have y:=sH (l t 0 (Z3 t)) (by simp);have I:=kO W F h;have v:=kO W (bh W S F 1) (h++[.lst ((aL w n s 2).map aw)]);have D : [aw s,aw (b4 w n s)] = (aL w n s 2).map aw:=by simp[aL,XX,aD]
 have x:atI ((aL w n s 2).map aw) 1=some (aw (aD w n s 1)):=Dx (w:=w) (n:=n) (s:=s) (m:=2) (i:=1) (by decide);have g:atI ((aL w n s (t + 2)).map aw) (-1)=some (aw (aD w n s (t + 1))):=eG (t + 1) 1 (by decide);have o:atI ((aL w n s (t + 2)).map aw) (-2)=some (aw (aD w n s t)):=eG t 2 (by decide);have A:(aL w n s (t + 2)).length=t + 2:=gm _;have d:=Ac (a:=aD w n s (t + 1)) (b:=aD w n s t) ((L (t + 1)).trans (L t).symm) (h++[.lst ((aL w n s (t + 2)).map aw)]);simp only[aD]at v;simp only[aD]at x;have r:aD w n s (0 + 2)=b4 w n (b4 w n s):=rfl;rw[r,show 0 + 2=2 from rfl]at y;have H:aE (gN 2) (aT (ab (aa 1) (ab (ar eh (ab (aa 0) (ab (aa 1) ao))) ao))) [some w.enc,some (aw s),none,none,none] h
   = .nx [some w.enc,some (aw s),some (.ref h.length),none,none] (h++[.lst ((aL w n s 2).map aw)]):=by
  rw[<-D];exact aA (bD (am rfl (am (ax (cm rfl rfl) I) rfl)))
 have E:aE (gN 3) (ar eh (ab (aa 0) (ab (fAt (aa 2) (fC (.int 1))) ao))) [some w.enc,some (aw s),some (.ref h.length),none,none] (h++[.lst ((aL w n s 2).map aw)])
   = .nx [some w.enc,some (aw s),some (.ref h.length),some (aw (b4 w n (b4 w n s))),none] (h++[.lst ((aL w n s 2).map aw)]):=by
  exact aA (ax (am rfl (am (aK rfl rfl (aC ZG) x) rfl)) v)
 have C:aE (gN 4) (fIf (tE (ag oEq (fAt (aa 2) (fC (.int (-1)))) (fAt (aa 2) (fC (.int (-2)))))) (fC (.str [114,101,115,116])) (fC (.str [112,97,105,114]))) [some w.enc,some (aw s),some (.ref h.length),some (aw (aD w n s (t + 2))),none] (h++[.lst ((aL w n s (t + 2)).map aw)])
   = .nx [some w.enc,some (aw s),some (.ref h.length),some (aw (aD w n s (t + 2))),some (.str (if aD w n s (t + 1)=aD w n s t then [114,101,115,116] else [112,97,105,114]))] (h++[.lst ((aL w n s (t + 2)).map aw)]):=by
  by_cases q:aD w n s (t + 1)=aD w n s t
  ·rw[yD q];rw[w8 q]at d
   exact aA ((qf (aV (ah (aK rfl rfl (aC ZG) g) (aK rfl rfl (aC ZG) o) d))).trans rfl)
  ·rw[x3 q];rw[ZY q]at d
   exact aA ((um (aV (ah (aK rfl rfl (aC ZG) g) (aK rfl rfl (aC ZG) o) d))).trans rfl)
 have G:iP (ar dS (ab (aa 0) (ab (aa 1) ao))) [some w.enc,some (aw s),none,none,none] h=.nx [some w.enc,some (aw s),none,none,none] h:=iW (ax (cm rfl rfl) (Dv W F h));have st:([w.enc,aw s].map some++List.replicate (5 - [w.enc,aw s].length) none:Sd)=[some w.enc,some (aw s),none,none,none]:=rfl;unfold kt bJ runB;rw[yD (show [w.enc,aw s].length=2 from rfl),st,ng G,ng H,ng E,ng y,ng C];have z:((t:Int) + 2) - 2=t:=by omega
 simp[A,SZ,z,letGo,pure?,ev]
def cB:Fn:=bJ 1 1 (bj (aT (lOf (fAt (aa 0) (fC (.int 2))))))
theorem sR (l:List Int):pure? (aw l)=true:=by
 unfold aw;simp only[pure?]
 induction l with
 | nil=>rfl
 | cons x l ih=>simp[ev,pure?,ih]
section
variable {w:Web} {n:Nat} {s:List Int}
end
section
variable {w:Web} {n:Nat} {s:List Int}
end
section
variable {w:Web} {n:Nat} {a b:List Int}
end
def bi:Fn:=bJ 2 2 (ay (sIf (tE (ag oLt (aa 1) (cj (lOf (aa 0))))) (bj (fAt (aa 0) (aa 1))) bA)
  (bj (ag dy (ag bU (ag bU (fC (.int 71)) (aa 1)) (aa 1)) (ag bU (fC (.int 7)) (aa 1)))))
abbrev qk:SF:=(sIf (tE (ag oEq (ag cz (aa 1) (fC (.int 2))) (fC (.int 1)))) (ay (aE (gN 5) (ag cz (ag dy (ag dy (ag dy (ag bU (aa 5) (aa 5)) (ag bU (fC (.int 69621)) (aa 5))) (ag bU (fC (.int 11)) (aa 6))) (fC (.int 5))) (fC (.int 2147483549))))
  (iP (jB (aa 4) (ag cz (ag g8 (aa 5) (fC (.int 7))) (aa 3))))) (ay (iP (jB (aa 4) (ag cz (aa 5) (aa 3))))
  (aE (gN 5) (ag g8 (aa 5) (aa 3)))))
def c8:Fn:=bJ 4 7 (ay (aE (gN 4) (aT ao))
  (ay (aE (gN 5) (aa 0))
  (ay (sIf (tE (ag oEq (ag cz (aa 1) (fC (.int 2))) (fC (.int 1)))) (aE (gN 5) (ag cz (ag bU (ag cz (aa 0) (fC (.int 2147483629))) (fC (.int 48271))) (fC (.int 2147483647)))) bA)
  (ay (eu (br (aa 2)) (gN 6) qk)
  (bj (aa 4))))))
abbrev gC:SF:=(lm (aa 9) (aa 6) (fIx (ab (ag jv (fAt (aa 10) (aa 6)) (fC (.int 1000))) (ab (ag jv (ag dy (fAt (aa 9) (aa 6)) (ag cz (fAt (aa 10) (aa 6)) (fC (.int 7)))) (fC (.int 3))) ao)) (ag cz (ag g8 (aa 2) (fC (.int 256))) (fC (.int 2)))))
abbrev kR:SF:=(ay (aE (gN 8) (xL (fC (.int 0)) (ag jv (fAt (aa 5) (ag dy (ag bU (aa 6) (aa 3)) (aa 7))) (fC (.int 402)))))
  (ay (sIf (tE (ag oEq (ag cz (ag g8 (aa 2) (fC (.int 64))) (fC (.int 2))) (fC (.int 1)))) (aE (gN 8) (fIx (ab (fC (.int 0)) (ab (fC (.int 0)) (ab (fC (.int 1)) (ab (fC (.int 1)) (ab (fC (.int 2)) (ab (fC (.int 3)) (ab (fC (.int 1)) ao))))))) (ag cz (fAt (aa 5) (ag dy (ag bU (aa 6) (aa 3)) (aa 7))) (fC (.int 7))))) bA)
  (ay (lm (fAt (aa 4) (aa 6)) (aa 7) (aa 8))
  (lm (fAt (aa 4) (aa 7)) (aa 6) (aa 8)))))
abbrev i4:SF:=(eu (br (aa 6)) (gN 7) kR)
def iH:Fn:=bJ 2 12 (ay (aE (gN 2) (ar bi (ab (aa 0) (ab (fC (.int 0)) ao))))
  (ay (aE (gN 3) (ag dy (fC (.int 1)) (ag cz (ag g8 (aa 2) (fC (.int 2))) (aa 1))))
  (ay (aE (gN 4) (aT (bO 1 [3] (br (aa 3)) (gN 0) [] (aT (pR (ab (fC (.int 0)) ao) (aa 1))))))
  (ay (aE (gN 5) (ar c8 (ab (ar bi (ab (aa 0) (ab (fC (.int 1)) ao))) (ab (aa 2) (ab (ag bU (aa 3) (aa 3)) (ab (fC (.int 803)) ao))))))
  (ay (eu (br (aa 3)) (gN 6) i4)
  (ay (aE (gN 9) (aT (bO 1 [] (eM (aa 4)) (gN 0) [] (pF (lOf (aa 0))))))
  (ay (sIf (tE (ag oEq (ag cz (ag g8 (aa 2) (fC (.int 128))) (fC (.int 2))) (fC (.int 1)))) (ay (aE (gN 10) (ar c8 (ab (ar bi (ab (aa 0) (ab (fC (.int 2)) ao))) (ab (aa 2) (ab (aa 3) (ab (fC (.int 2001)) ao))))))
  (eu (br (aa 3)) (gN 6) gC)) bA)
  (ay (aE (gN 11) (aT (pR (ab (fC .non) ao) (aa 3))))
  (ay (sIf (tE (ag oEq (ag cz (ag g8 (aa 2) (fC (.int 512))) (fC (.int 2))) (fC (.int 1)))) (ay (aE (gN 5) (ar c8 (ab (ar bi (ab (aa 0) (ab (fC (.int 3)) ao))) (ab (aa 2) (ab (aa 3) (ab (fC (.int 7)) ao))))))
  (aE (gN 11) (aT (bO 1 [] (eM (aa 5)) (gN 0) [] (fIx (ab (fC (.int 0)) (ab (fC (.int 1)) (ab (fC .non) (ab (fC .non) (ab (fC .non) (ab (fC .non) (ab (fC .non) ao))))))) (aa 0)))))) bA)
  (bj (jw (ab (aa 4) (ab (aa 9) (ab (aa 11) ao))))))))))))))
abbrev qm:SF:=(sIf (tE (ag oGt (fAt (fAt (fAt (aa 0) (fC (.int 0))) (aa 2)) (aa 3)) (fC (.int 0)))) (iP (jB (aa 1) (jw (ab (aa 3) (ab (aa 2) (ab (fAt (fAt (fAt (aa 0) (fC (.int 0))) (aa 2)) (aa 3)) ao)))))) bA)
abbrev kS:SF:=(eu (br (aa 2)) (gN 3) qm)
def eX:Fn:=bJ 1 4 (ay (aE (gN 1) (aT ao))
  (ay (eu (br (cj (lOf (fAt (aa 0) (fC (.int 1)))))) (gN 2) kS)
  (bj (aa 1))))
abbrev nh:SF:=(ay (aE (gN 7) (ag bU (fC (.int 2)) (pF (bO 1 [1,2,6] (br (cj (lOf (aa 3)))) (gN 0) [] (ag bU (fAt (fAt (aa 2) (aa 3)) (aa 0)) (fAt (aa 1) (aa 0)))))))
  (ay (aE (gN 8) (fAt (aa 1) (aa 6)))
  (ay (sIf (tE (ag oGt (aa 7) (fAt (aa 3) (aa 6)))) (aE (gN 8) (fC (.int 1))) bA)
  (ay (sIf (tE (ag oLt (aa 7) (fAt (aa 3) (aa 6)))) (aE (gN 8) (fC (.int 0))) bA)
  (ay (sIf (tE (ag gJ (fAt (aa 4) (aa 6)) (fC .non))) (aE (gN 8) (fAt (aa 4) (aa 6))) bA)
  (iP (jB (aa 5) (aa 8))))))))
def eI:Fn:=bJ 2 9 (ay (aE (gT [2,3,4]) (aa 0))
  (ay (aE (gN 5) (aT ao))
  (ay (eu (br (cj (lOf (aa 3)))) (gN 6) nh)
  (bj (fA (lOf (aa 5)))))))
abbrev i5:SF:=(ay (iP (jB (aa 2) (fAt (aa 1) (aa 3))))
  (sIf (tE (ag gJ (fAt (fAt (aa 0) (fC (.int 2))) (aa 3)) (fC .non))) (lm (aa 2) (aa 3) (fAt (fAt (aa 0) (fC (.int 2))) (aa 3))) bA))
def fG:Fn:=bJ 2 4 (ay (aE (gN 2) (aT ao))
  (ay (eu (br (cj (lOf (aa 1)))) (gN 3) i5)
  (bj (fA (lOf (aa 2))))))
def jT:Fn:=bJ 1 1 (bj (ar iG (ab (cj (lOf (fAt (aa 0) (fC (.int 1))))) (ab (ar eX (ab (aa 0) ao)) (ab (aT (lOf (fAt (aa 0) (fC (.int 1))))) (ab (aT (lOf (fAt (aa 0) (fC (.int 2))))) ao))))))
section
open Classical
end
def gq:Fn:=bJ 1 1 (bj (aT (jL 2 [] (ar cB (ab (aa 0) ao)) (gT [0,1]) [(tE (ag iu (aa 1) (fC .non)))] (aa 0))))
def gW:Fn:=bJ 2 2 (bj (ar bw (ab (aa 1) (ab (fC (.int 0)) (ab (ag jv (ar cT (ab (aa 0) ao)) (fC (.int 1))) ao)))))
def cf:Fn:=bJ 2 2 (bj (fT (jy (tE (ar gW (ab (aa 0) (ab (aa 1) ao)))) (tE (ag oNe (ar dE (ab (aa 0) (ab (aa 1) ao))) (fC (.int 0)))))))
def de:Fn:=bJ 2 2 (ay (sIf (eQ (tE (iy .list (aa 1)))) (bj (fC (.bl false))) bA)
  (ay (sIf (eQ (tE (vv (bO 1 [0] (eM (aa 1)) (gN 0) [] (ar cf (ab (aa 1) (ab (aa 0) ao))))))) (bj (fC (.bl false))) bA)
  (bj (vv (bO 1 [1] (br (ag jv (cj (lOf (aa 1))) (fC (.int 1)))) (gN 0) [] (ag oLt (fAt (aa 1) (aa 0)) (fAt (aa 1) (ag dy (aa 0) (fC (.int 1))))))))))
def lW:Fn:=bJ 2 2 (ay (sIf (eQ (tE (ar de (ab (aa 0) (ab (aa 1) ao))))) li bA)
  (bj (fA (jL 2 [1] (ar cB (ab (aa 0) ao)) (gT [0,1]) [] (fIf (tOr (tE (ag oIn (aa 0) (aa 2))) (tE (ag oEq (aa 1) (fC (.int 1))))) (fC (.int 1)) (fC (.int 0)))))))
def b5:Fn:=bJ 2 5 (ay (aE (gN 2) (ar kt (ab (aa 0) (ab (ar lW (ab (aa 0) (ab (aa 1) ao))) ao))))
  (ay (aE (gN 3) (fAt (aa 2) (fC (.int 1))))
  (ay (aE (gN 4) (fAt (aa 2) (fC (.int 2))))
  (ay (sIf (tE (ag oEq (aa 3) (fC (.str [112,97,105,114])))) (bj (jw (ab (fC (.str [110,111,116])) (ab (iO (aa 4) (pAt (fC (.int (-2)))) pNo) ao)))) bA)
  (ay (sIf (tE (ag oIn (fC (.int 0)) (fAt (aa 4) (fC (.int (-1)))))) (bj (jw (ab (fC (.str [110,111,116])) (ab (iO (aa 4) (pAt (fC (.int (-1)))) pNo) ao)))) bA)
  (bj (jw (ab (fC (.str [116,117,114,110])) (ab (iO (aa 4) pNo (pAt (fC (.int (-1))))) ao)))))))))
abbrev oz:SF:=(aE (gN 1) (aT (dB (aa 1) (aT (bO 1 [2] (eM (aa 1)) (gN 0) [] (aT (dB (aa 0) (aT (ab (aa 1) ao)))))))))
def gD:Fn:=bJ 1 3 (ay (aE (gN 1) (aT (ab (aT ao) ao)))
  (ay (eu (eM (aa 0)) (gN 2) oz)
  (bj (aT (jN (aa 1))))))
def dF:Fn:=bJ 3 4 (ay (aE (gN 3) (fA (lOf (aa 1))))
  (ay (sIf (tE (ag lK (aa 3) (aa 2))) (zT (aa 2) (aa 3) (ag oEq (fAt (ar b5 (ab (aa 0) (ab (aa 1) ao))) (fC (.int 0))) (fC (.str [116,117,114,110])))) bA)
  (bj (CN (aa 2) (aa 3)))))
abbrev gX:SF:=(ay (sIf (tE (ag oIn (aa 5) (aa 3))) Hl bA)
  (ay (aE (gN 6) (aT (mS (dB (aa 3) (aT (ab (aa 5) ao))))))
  (sIf (tE (ar dF (ab (aa 0) (ab (aa 6) (ab (aa 2) ao))))) (iP (jB (aa 4) (aa 5))) (aE (gN 3) (aa 6)))))
def i6:Fn:=bJ 3 7 (ay (aE (gN 3) (aa 1))
  (ay (aE (gN 4) (aT ao))
  (ay (eu (eM (ar gq (ab (aa 0) ao))) (gN 5) gX)
  (bj (aa 4)))))
def bR:Nat->Fn
 | 0=>λ_ _=>.bad
 | j + 1=>bJ 4 6 (ay (sIf (tE (ag oEq (aa 1) (fC (.int 0)))) (bj (jw (ab (fC (.str [108,101,97,102])) ao))) bA)
  (ay (aE (gN 4) (ar i6 (ab (aa 0) (ab (aa 2) (ab (aa 3) ao)))))
  (ay (aE (gN 5) (aT (bO 1 [0,3,1,2] (eM (aa 4)) (gN 0) [] (ar (bR j) (ab (aa 1) (ab (ag jv (aa 3) (fC (.int 1))) (ab (aT (dB (aa 4) (aT (ab (aa 0) ao)))) (ab (aa 2) ao))))))))
  (bj (jw (ab (fC (.str [112,97,114,116])) (ab (aa 4) (ab (aa 5) ao))))))))
abbrev eY:SF:=(sIf (tE (ar dF (ab (aa 0) (ab (aa 3) (ab (aa 2) ao))))) (ay (aE (gN 4) (fIf (tE (ag oEq (aa 3) (aT ao))) (fC .non) (ar (bR 9) (ab (aa 0) (ab (ag jv (cj (lOf (aa 3))) (fC (.int 1))) (ab (aT ao) (ab (aa 2) ao)))))))
  (bj (jw (ab (aa 3) (ab (aa 4) ao))))) bA)
def jU:Fn:=bJ 1 5 (ay (aE (gN 1) (ar gq (ab (aa 0) ao)))
  (ay (sIf (tE (ag oGt (cj (lOf (aa 1))) (fC (.int 9)))) li bA)
  (ay (aE (gN 2) xO)
  (ay (eu (eM (ar gD (ab (aa 1) ao))) (gN 3) eY)
  (bj (fC .non))))))
abbrev i7:SF:=(ay (aE (gN 3) (ar eI (ab (aa 0) (ab (fAt (aa 2) (fC (.int (-1)))) ao))))
  (ay (sIf (tE (ag oEq (aa 3) (fAt (aa 2) (fC (.int (-2)))))) (bj (aa 2)) bA)
  (iP (jB (aa 2) (aa 3)))))
def ku:Fn:=bJ 2 4 (ay (aE (gN 2) (aT (ab (aa 1) (ab (ar eI (ab (aa 0) (ab (aa 1) ao))) ao))))
  (mH (tE (fC (.bl true))) i7))
def fv:Fn:=bJ 1 1 (bj (aT (bO 1 [0] (br (cj (lOf (fAt (aa 0) (fC (.int 1)))))) (gN 0) [(tE (ag oNe (fAt (fAt (aa 1) (fC (.int 2))) (aa 0)) (fC (.int 0))))] (aa 0))))
def dU:Fn:=bJ 2 4 (ay (aE (gN 2) (ar fG (ab (aa 0) (ab (aT (bO 1 [1] (br (cj (lOf (fAt (aa 0) (fC (.int 1)))))) (gN 0) [] (qM (ag oIn (aa 0) (aa 1))))) ao))))
  (ay (aE (gN 3) (ar ku (ab (aa 0) (ab (aa 2) ao))))
  (bj (fT (jy (tE (ag hJ (fC (.int 0)) (fAt (aa 3) (fC (.int (-1)))))) (tE (ag hJ (fC (.int 0)) (fAt (aa 3) (fC (.int (-2)))))))))))
abbrev i8:SF:=(ay (aE (gN 4) (aT (bO 1 [1,3] (br (cj (lOf (aa 1)))) (gN 0) [(tE (ag oEq (ag oh (ag xI (aa 2) (aa 0)) (fC (.int 1))) (fC (.int 1))))] (fAt (aa 1) (aa 0)))))
  (sIf (jy (tOr (tE (ag iu (aa 2) (fC .non))) (tE (ag oLt (cj (lOf (aa 4))) (aa 2)))) (tE (ar dU (ab (aa 0) (ab (aa 4) ao))))) (aE (gN 2) (cj (lOf (aa 4)))) bA))
def kw:Fn:=bJ 1 5 (ay (aE (gN 1) (aT (bO 1 [0] (br (cj (lOf (fAt (aa 0) (fC (.int 1)))))) (gN 0) [(tE (ag iu (fAt (fAt (aa 1) (fC (.int 2))) (aa 0)) (fC .non)))] (aa 0))))
  (ay (aE (gN 2) (fC .non))
  (ay (eu (br (ag HW (fC (.int 1)) (cj (lOf (aa 1))))) (gN 3) i8)
  (bj (aa 2)))))
abbrev DE:SF:=(aE (gN 1) (ar iH (ab (aa 0) (ab (fIx (ab (fC (.int 6)) (ab (fC (.int 8)) ao)) (qM (ag oEq (ag cz (ag g8 (ar bi (ab (aa 0) (ab (fC (.int 0)) ao))) (fC (.int 1024))) (fC (.int 8))) (fC (.int 3))))) ao))))
abbrev DF:SF:=(aE (gN 2) (ar jT (ab (aa 1) ao)))
abbrev DG:SF:=(aE (gN 3) (ar kw (ab (aa 1) ao)))
abbrev yx:SF:=(aE (gN 4) (ar jU (ab (aa 2) ao)))
abbrev yy:SF:=(sIf (tOr (tE (ag iu (aa 4) (fC .non))) (tE (ag iu (aa 3) (fC .non)))) (bj (fT (jy (tE (ag iu (aa 4) (fC .non))) (tE (ag iu (aa 3) (fC .non)))))) bA)
abbrev DH:SF:=(aE (gN 5) (fAt (aa 4) (fC (.int 0))))
abbrev DJ:SF:=(sIf (tOr (tE (ag oNe (cj (lOf (aa 5))) (aa 3))) (tE (ag oNe (fAt (ar b5 (ab (aa 2) (ab (aT (lOf (aa 5))) ao))) (fC (.int 0))) (fC (.str [116,117,114,110]))))) (bj (fC (.bl false))) bA)
abbrev yz:SF:=(ay (sIf (tE (ag oNe (fAt (ar b5 (ab (aa 2) (ab (aT (kM (dB (aa 5) (aT (ab (aa 6) ao))))) ao))) (fC (.int 0))) (fC (.str [116,117,114,110])))) (bj (fC (.bl false))) bA)
  (ay (aE (gN 7) (aT (bO 1 [6] (eM (aa 5)) (gN 0) [(tE (ag oNe (aa 0) (aa 1)))] (aa 0))))
  (sIf (jy (tE (ag oIn (aa 6) (aa 5))) (tE (ag oNe (fAt (ar b5 (ab (aa 2) (ab (aa 7) ao))) (fC (.int 0))) (fC (.str [110,111,116]))))) (bj (fC (.bl false))) bA)))
abbrev DK:SF:=(eu (eM (ar fv (ab (aa 1) ao))) (gN 6) yz)
abbrev DL:SF:=(bj (fC (.bl true)))
def Ad:Fn:=bJ 1 8 (ay DE (ay DF (ay DG (ay yx (ay yy (ay DH (ay DJ (ay DK DL))))))))
end Fm
set_option maxHeartbeats 4000000
namespace Fm
open PySem PySem.Spec L2
section
abbrev cM (i : Nat) : Stmt := PySem.Challenge.pw_followmost_k38_no_fewer_by_all_sets.main.body.getD i (.Pass ⟨0, 0, 0, 0⟩)
abbrev kT:Stmt:=cM 7
abbrev i9:Stmt:=cM 8
abbrev ja:Stmt:=cM 9
abbrev qo:Stmt:=cM 22
abbrev jb:Stmt:=cM 21
abbrev jV:Stmt:=cM 23
abbrev jc:Stmt:=cM 24
abbrev qp:Stmt:=cM 13
abbrev ni:Stmt:=cM 14
abbrev nj:Stmt:=cM 15
abbrev qq:Stmt:=cM 16
abbrev nn:Stmt:=cM 17
abbrev kU:Stmt:=cM 18
abbrev nr:Stmt:=cM 19
abbrev jW:Stmt:=cM 20
abbrev yA:Stmt:=cM 26
abbrev ie:Stmt:=cM 27
abbrev nt:Stmt:=cM 28
abbrev nu:Stmt:=cM 29
abbrev nv:Stmt:=cM 30
abbrev uv:Stmt:=cM 32
abbrev fP:Stmt:=cM 37
abbrev fQ:Stmt:=cM 36
abbrev uw:Stmt:=cM 34
abbrev jX:Stmt:=cM 35
abbrev kW:Stmt:=cM 41
abbrev nz:Stmt:=cM 42
abbrev kX:Stmt:=cM 44
abbrev jd:Stmt:=cM 43
abbrev qt:Stmt:=cM 40
abbrev jY:Stmt:=cM 46
abbrev kY:Stmt:=cM 47
abbrev je:Stmt:=cM 48
abbrev jf:Stmt:=cM 49
abbrev jZ:Stmt:=cM 50
abbrev gE:Stmt:=cM 51
abbrev j0:Stmt:=cM 52
abbrev jg:Stmt:=cM 53
abbrev eZ:Stmt:=cM 54
abbrev fg:Stmt:=cM 55
abbrev jh:Stmt:=cM 56
abbrev qu:Stmt:=cM 57
variable {P:T3} {w:T4} {K:ZX} {mg:Str->Option T0} {base:Heap} {f:Addr} {fd:FuncData}
theorem DM {ps:List Str}{k np:Nat}:bN P w K mg base CX0 k f fd ps (spF K (λ_ _=>.bad) np) :=
 ⟨λc H Q E ⟨_,_,_,_,_,_,p⟩=>p.elim,λA a s H b g c Q E h d e r ⟨_,_,_,_,_,_,p⟩=>p.elim⟩
theorem jr:∀j ds h d a,bR j ds h=.ok d a->ds.length=4
 | 0=>λ_ _ _ _ e=>nomatch e
 | j + 1=>tR
theorem wI:aI ["thing"] ["thing"] (av kT):=fsc
theorem wJ (F:Fun K "is_whole" "is_whole" kT f fd) (a:mg "isinstance" = none) (d:mg "bool" = none) (b:mg "int" = none):bN P w K mg base CX0 1 f fd ["thing"] (spF K c7 1):=bH F wI λ_ _ _ _ _ _ c=>have e:=cL c;(aj (aG (MB.me (mJ (gM (gP (t:=.int) rfl a rfl b (by decide +kernel) (mv 0))) (kH (Hq (gM (gP (t:=.bool) rfl a rfl d (by decide +kernel) (mv 0)))))))))
theorem qV:aI ["thing", "least", "most"] ["thing", "least", "most"] (av i9):=fsc
theorem qW (F:Fun K "is_between" "is_between" i9 f fd) (b:Def P w K mg base "is_whole" 1 1 c7):bN P w K mg base CX0 2 f fd ["thing", "least", "most"] (spF K bw 3):=bH F qV λ_ _ _ _ _ _ a=>have c:=cL a;(aj (aG (MB.me (mJ (gM (au b a (ae (mv 0) aq))) (kH (gM (Cg Gf Gf qO qO (mv 1) (mv 0) (mv 2))))))))
theorem qX:aI ["thing"] ["thing"] (av ja):=fsc
theorem qY (F:Fun K "is_opinion" "is_opinion" ja f fd) (b:Def P w K mg base "is_between" 2 3 bw):bN P w K mg base CX0 3 f fd ["thing"] (spF K bV 1):=bH F qX λ_ _ _ _ _ _ a=>have c:=cL a;(aj (aG (au b a (ae (mv 0) (ae ak (ae ak aq))))))
theorem nA:aI ["many", "thing", "one", "other"] ["many", "thing"] (av qo):=fsc
theorem Bk (F:Fun K "is_tie" "is_tie" qo f fd) (j:mg "len" = none) (e:mg "isinstance" = none) (d:mg "tuple" = none) {g:Tok} (h:mg "MOST_WEIGHT" = some (.int 400 g)) (b:Def P w K mg base "is_between" 2 3 bw):bN P w K mg base CX0 3 f fd ["many", "thing"] (spF K lU 2):=bH F nA λ_ _ _ _ _ _ a=>have c:=cL a;(af (bB (MW.mt (lu (dI (cP (gP (t:=.tuple) rfl e rfl d (by decide +kernel) (mv 1)))) (fL (aW (eA c) gO (cu rfl j (ce (mv 1))) ak (aS _)) (.inr rfl)))) (aj (aG iA)) aO)
  (af (aF (i:=2) nA.nd rfl lc (aJ (mv 1) ak (λ_ _=>rfl)))
  (af (aF (i:=3) nA.nd rfl lc (aJ (mv 1) ak (λ_ _=>rfl)))
  (af (bB (MW.mt (lu (dI (cP (au b a (ae (mv 2) (ae ak (ae (bc gZ qN (mv 0) ak) aq)))))) (fL (dI (cP (au b a (ae (mv 3) (ae ak (ae (bc gZ qN (mv 0) ak) aq)))))) (.inr rfl)))) (aj (aG iA)) aO)
  (aj (aG (MB.me (mJ (gM (gx (eA c) gO (mv 2) (mv 3) (aS _))) (kH (gM (au b a (ae (aJ (mv 1) ak (λ_ _=>rfl)) (ae ak (ae (pI rfl h) aq))))))))))))))
theorem dW:aI ["many", "ties", "near", "tie", "one", "other"] ["many", "ties"] (av jb):=fsc
theorem qZ (F:Fun K "neighbours" "neighbours" jb f fd) (g:mg "range" = none) (c:mg "isinstance" = none) (e:mg "list" = none) (d:Def P w K mg base "is_tie" 3 2 lU):bN P w K mg base CX0 4 f fd ["many", "ties"] (spF K gc 2):=bH F dW λ_ _ _ _ _ _ b=>have a:=cL b;(af (bB (dI (cP (gP (t:=.list) rfl c rfl e (by decide +kernel) (mv 1)))) (aj fN) aO)
  (af (iQ (i:=2) dW.nd rfl lc (own:=["person"]) (capn:=[]) (caps:=[]) rfl (bC.a bn.nil) (bP rfl g (mv 0))
   (λh C s H ex=>⟨(aN (i:=0) (show ((["person"] : List Str)++([] : List Str)).Nodup by decide +kernel) rfl lc),cO,E7⟩))
  (af (d8 YH rfl (d9 (mv 1)) (aN (i:=3) dW.nd rfl lc) (af (bB (dI (cP (au d b (ae (mv 0) (ae (mv 3) aq))))) (aj fN) aO)
  (af (aF (i:=4) dW.nd rfl lc (aJ (mv 3) ak (λ_ _=>rfl)))
  (af (aF (i:=5) dW.nd rfl lc (aJ (mv 3) ak (λ_ _=>rfl)))
  (af (bB (aW (HP (ZS (XU (by decide) _) a)) HQ (mv 5) (aJ (mv 2) (mv 4) (λ_ _=>rfl)) rfl) (aj fN) aO)
  (af (zP (ZS (XU (by decide) _) a) (aJ (mv 3) ak (λ_ _=>rfl)) (aJ (mv 2) (mv 4) (λ_ _=>rfl)) (mv 5))
  (aj (zP (ZS (XU (by decide) _) a) (aJ (mv 3) ak (λ_ _=>rfl)) (aJ (mv 2) (mv 5) (λ_ _=>rfl)) (mv 4)))))))))
  (aj (aG (mv 2))))))
theorem ux:aI ["near", "bars"] ["near", "bars"] (av jV):=fsc
theorem uy (F:Fun K "bars_told" "bars_told" jV f fd) (j:mg "tuple" = none) (d:mg "all" = none) (b:mg "len" = none) (c:mg "isinstance" = none) (h:mg "list" = none) (e:Def P w K mg base "is_whole" 1 1 c7):bN P w K mg base CX0 2 f fd ["near", "bars"] (spF K gS 2):=bH F ux λ_ _ _ _ _ _ a=>have g:=cL a;(af (bB (aW g7 hU (mv 1) cr (aS _)) (aj fN) aO)
  (af (bB (MW.mt (lu (dI (cP (gP (t:=.list) rfl c rfl h (by decide +kernel) (mv 1)))) (fL (aW (eA g) gO (cu rfl b (ce (mv 1))) (cu rfl b (ce (mv 0))) (aS _)) (.inr rfl)))) (aj fN) aO)
  (af (bB (dI (cP (tW rfl rfl d (fM (dD (own:=["bar"]) (capn:=[]) (caps:=[]) rfl (bC.a bn.nil) (d9 (mv 1))
   (λk C s H ex=>⟨(aN (i:=0) (show ((["bar"] : List Str)++([] : List Str)).Nodup by decide +kernel) rfl lc),cO,(au e a (ae (mv 0) aq))⟩)))))) (aj fN) aO)
  (aj (aG (fj rfl j (ce (mv 1))))))))
theorem rc:aI ["many", "stays"] ["many", "stays"] (av jc):=fsc
theorem rg (F:Fun K "stays_told" "stays_told" jc f fd) (a:mg "tuple" = none) (e:mg "all" = none) (l:mg "len" = none) (c:mg "isinstance" = none) (h:mg "list" = none) (j:mg "range" = none) (k:Def P w K mg base "is_opinion" 3 1 bV):bN P w K mg base CX0 4 f fd ["many", "stays"] (spF K ge 2):=bH F rc λ_ _ _ _ _ _ b=>have g:=cL b;(af (bB (aW g7 hU (mv 1) cr (aS _)) (aj (aG (fj rfl a (fM (dD (own:=["person"]) (capn:=[]) (caps:=[]) rfl (bC.a bn.nil) (bP rfl j (mv 0))
   (λd C s H ex=>⟨(aN (i:=0) (show ((["person"] : List Str)++([] : List Str)).Nodup by decide +kernel) rfl lc),cO,cr⟩)))))) aO)
  (af (bB (MW.mt (lu (dI (cP (gP (t:=.list) rfl c rfl h (by decide +kernel) (mv 1)))) (fL (aW (eA g) gO (cu rfl l (ce (mv 1))) (mv 0) (aS _)) (.inr rfl)))) (aj fN) aO)
  (af (bB (dI (cP (tW rfl rfl e (fM (dD (own:=["stay"]) (capn:=[]) (caps:=[]) rfl (bC.a bn.nil) (d9 (mv 1))
   (λd C s H ex=>⟨(aN (i:=0) (show ((["stay"] : List Str)++([] : List Str)).Nodup by decide +kernel) rfl lc),cO,(MB.me (JK (gM (gx g7 hU (mv 0) cr (aS _))) (kH (gM (au k b (ae (mv 0) aq))))))⟩)))))) (aj fN) aO)
  (aj (aG (fj rfl a (ce (mv 1))))))))
theorem nB:aI ["many", "ties", "bars", "stays", "near", "rows"] ["many", "ties", "bars", "stays"] (av qp):=fsc
theorem Bl (F:Fun K "web_of" "web_of" qp f fd) (b:mg "tuple" = none) (g:mg "sorted" = none) {e:Tok} (h:mg "MOST_PEOPLE" = some (.int 30 e)) (d:Def P w K mg base "stays_told" 4 2 ge) (c:Def P w K mg base "bars_told" 2 2 gS) (k:Def P w K mg base "neighbours" 4 2 gc) (j:Def P w K mg base "is_between" 2 3 bw):bN P w K mg base CX0 5 f fd ["many", "ties", "bars", "stays"] (spF K iG 4):=bH F nB λ_ _ _ _ _ _ a=>have m:=cL a;(af (bB (dI (cP (au j a (ae (mv 0) (ae ak (ae (pI rfl h) aq)))))) (aj fN) aO)
  (af (aF (i:=4) nB.nd rfl lc (au k a (ae (mv 0) (ae (mv 1) aq))))
  (af (aF (i:=5) nB.nd rfl lc (fj rfl b (fM (dD (own:=["row"]) (capn:=[]) (caps:=[]) rfl (bC.a bn.nil) (d9 (mv 4))
   (λl C s H ex=>⟨(aN (i:=0) (show ((["row"] : List Str)++([] : List Str)).Nodup by decide +kernel) rfl lc),cO,(fj rfl b (fM (CG rfl rfl g (mv 0))))⟩)))))
  (aj (aG (hV (ae (mv 5) (ae (au c a (ae (mv 4) (ae (mv 2) aq))) (ae (au d a (ae (mv 0) (ae (mv 3) aq))) aq)))))))))
theorem yB:aI ["web"] ["web"] (av ni):=fsc
theorem yC (F:Fun K "many_of" "many_of" ni f fd) (b:mg "len" = none):bN P w K mg base CX0 1 f fd ["web"] (spF K cT 1):=bH F yB λ_ _ _ _ _ _ a=>have c:=cL a;(aj (aG (cu rfl b (ce (aJ (mv 0) ak (λ_ _=>rfl))))))
theorem yE:aI ["web", "person"] ["web", "person"] (av nj):=fsc
theorem yF (F:Fun K "ties_of" "ties_of" nj f fd):bN P w K mg base CX0 1 f fd ["web", "person"] (spF K ko 2):=bH F yE λ_ _ _ _ _ _ a=>have b:=cL a;(aj (aG (aJ (aJ (mv 0) ak (λ_ _=>rfl)) (mv 1) (λ_ _=>rfl))))
theorem Bm:aI ["web", "person"] ["web", "person"] (av qq):=fsc
theorem Bn (F:Fun K "bar_of" "bar_of" qq f fd):bN P w K mg base CX0 1 f fd ["web", "person"] (spF K lS 2):=bH F Bm λ_ _ _ _ _ _ a=>have b:=cL a;(aj (aG (aJ (aJ (mv 0) ak (λ_ _=>rfl)) (mv 1) (λ_ _=>rfl))))
theorem yG:aI ["web", "person"] ["web", "person"] (av nn):=fsc
theorem yH (F:Fun K "stay_of" "stay_of" nn f fd):bN P w K mg base CX0 1 f fd ["web", "person"] (spF K dE 2):=bH F yG λ_ _ _ _ _ _ a=>have b:=cL a;(aj (aG (aJ (aJ (mv 0) ak (λ_ _=>rfl)) (mv 1) (λ_ _=>rfl))))
theorem wK:aI ["web"] ["web"] (av kU):=fsc
theorem wL (F:Fun K "stays_of" "stays_of" kU f fd) (a:mg "list" = none):bN P w K mg base CX0 1 f fd ["web"] (spF K cB 1):=bH F wK λ_ _ _ _ _ _ b=>have c:=cL b;(aj (aG (bG (oY rfl a (ce (aJ (mv 0) ak (λ_ _=>rfl)))))))
theorem yI:aI ["web"] ["web"] (av nr):=fsc
theorem yJ (F:Fun K "free_of" "free_of" nr f fd) (c:mg "enumerate" = none) (b:Def P w K mg base "stays_of" 1 1 cB):bN P w K mg base CX0 2 f fd ["web"] (spF K gq 1):=bH F yI λ_ _ _ _ _ _ a=>have e:=cL a;(aj (aG (bG (vU (own:=["person", "stay"]) (capn:=[]) (caps:=[]) rfl (bC.a bn.nil) (vT rfl c (au b a (ae (mv 0) aq)))
   (λd C s H ex=>⟨(pJ rfl (dA (aN (i:=0) (show ((["person", "stay"] : List Str)++([] : List Str)).Nodup by decide +kernel) rfl lc) (dA (aN (i:=1) (show ((["person", "stay"] : List Str)++([] : List Str)).Nodup by decide +kernel) rfl lc) lA))),(ke (aW g7 hU (mv 1) cr (aS _))),(mv 0)⟩)))))
theorem uz:aI ["web", "thing"] ["web", "thing"] (av jW):=fsc
theorem uA (F:Fun K "is_person" "is_person" jW f fd) (b:Def P w K mg base "is_between" 2 3 bw) (c:Def P w K mg base "many_of" 1 1 cT):bN P w K mg base CX0 3 f fd ["web", "thing"] (spF K gW 2):=bH F uz λ_ _ _ _ _ _ a=>have d:=cL a;(aj (aG (au b a (ae (mv 1) (ae ak (ae (bc gZ qN (au c a (ae (mv 0) aq)) ak) aq))))))
theorem pi:aI ["web", "thing", "person", "opinion", "stay"] ["web", "thing"] (av yA):=fsc
theorem FF (F:Fun K "fits" "fits" yA f fd) (e:mg "enumerate" = none) (k:mg "len" = none) (c:mg "isinstance" = none) (h:mg "tuple" = none) (g:Def P w K mg base "stay_of" 1 2 dE) (d:Def P w K mg base "is_opinion" 3 1 bV) (j:Def P w K mg base "many_of" 1 1 cT):bN P w K mg base CX0 4 f fd ["web", "thing"] (spF K uq 2):=bH F pi λ_ _ _ _ _ _ a=>have b:=cL a;(af (bB (MW.mt (lu (dI (cP (gP (t:=.tuple) rfl c rfl h (by decide +kernel) (mv 1)))) (fL (aW (eA b) gO (cu rfl k (ce (mv 1))) (au j a (ae (mv 0) aq)) (aS _)) (.inr rfl)))) (aj (aG iA)) aO)
  (af (d8 YH rfl (EZ rfl e (mv 1)) (pJ rfl (dA (aN (i:=2) pi.nd rfl lc) (dA (aN (i:=3) pi.nd rfl lc) lA))) (af (bB (dI (cP (au d a (ae (mv 3) aq)))) (aj (aG iA)) aO)
  (af (aF (i:=4) pi.nd rfl lc (au g a (ae (mv 0) (ae (mv 2) aq))))
  (aj (bB (MW.mt (xB (aW oU kc (mv 4) cr (aS _)) (fL (aW (eA b) gO (mv 3) (mv 4) (aS _)) (.inl rfl)))) (aj (aG iA)) aO)))))
  (aj (aG iA))))
theorem qv:aI ["web", "thing"] ["web", "thing"] (av ie):=fsc
theorem qw (F:Fun K "check_stand" "check_stand" ie f fd) (b:Def P w K mg base "fits" 4 2 uq):bN P w K mg base CX0 5 f fd ["web", "thing"] (spF K dS 2):=bH F qv λ_ _ _ _ _ _ a=>have c:=cL a;(aj (bB (dI (cP (au b a (ae (mv 0) (ae (mv 1) aq))))) (aj fN) aO))
theorem yK:aI ["web", "stand", "person"] ["web", "stand", "person"] (av nt):=fsc
theorem yL (F:Fun K "pull_at" "pull_at" nt f fd) (b:mg "sum" = none) (c:Def P w K mg base "ties_of" 1 2 ko):bN P w K mg base CX0 2 f fd ["web", "stand", "person"] (spF K kq 3):=bH F yK λ_ _ _ _ _ _ a=>have d:=cL a;(aj (aG (bc eR eS ak (xD rfl rfl b (fM (dD (own:=["other", "weight"]) (capn:=["stand"]) (caps:=[1]) rfl (bC.a (bn.cons rfl rfl bn.nil)) (d9 (au c a (ae (mv 0) (ae (mv 2) aq))))
   (λe C s H ex=>⟨(pJ rfl (dA (aN (i:=0) (show ((["other", "weight"] : List Str)++(["stand"] : List Str)).Nodup by decide +kernel) rfl lc) (dA (aN (i:=1) (show ((["other", "weight"] : List Str)++(["stand"] : List Str)).Nodup by decide +kernel) rfl lc) lA))),(ke (aW (dJ d) fU (aJ (mv 2) (mv 0) (λ_ _=>rfl)) ak (aS _))),(mv 1)⟩)))))))
theorem ji:aI ["web", "stand", "person", "stay", "strength", "bar"] ["web", "stand", "person"] (av nu):=fsc
theorem yM (F:Fun K "next_at" "next_at" nu f fd) (b:Def P w K mg base "bar_of" 1 2 lS) (d:Def P w K mg base "pull_at" 2 3 kq) (e:Def P w K mg base "stay_of" 1 2 dE):bN P w K mg base CX0 3 f fd ["web", "stand", "person"] (spF K gj 3):=bH F ji λ_ _ _ _ _ _ a=>have c:=cL a;(af (aF (i:=3) ji.nd rfl lc (au e a (ae (mv 0) (ae (mv 2) aq))))
  (af (bB (aW oU kc (mv 3) cr (aS _)) (aj (aG (mv 3))) aO)
  (af (aF (i:=4) ji.nd rfl lc (au d a (ae (mv 0) (ae (mv 1) (ae (mv 2) aq)))))
  (af (aF (i:=5) ji.nd rfl lc (au b a (ae (mv 0) (ae (mv 2) aq))))
  (af (bB (aW (dJ c) fU (mv 4) (mv 5) (aS _)) (aj (aG (aJ (mv 1) (mv 2) (λ_ _=>rfl)))) aO)
  (aj (aG (zE (aW zy qO (mv 4) (mv 5) (aS _)) ak ak))))))))
theorem yN:aI ["web", "stand"] ["web", "stand"] (av nv):=fsc
theorem yO (F:Fun K "turn_at" "turn_at" nv f fd) (d:mg "tuple" = none) (c:mg "range" = none) (e:Def P w K mg base "many_of" 1 1 cT) (b:Def P w K mg base "next_at" 3 3 gj):bN P w K mg base CX0 4 f fd ["web", "stand"] (spF K eh 2):=bH F yN λ_ _ _ _ _ _ a=>have h:=cL a;(aj (aG (fj rfl d (fM (dD (own:=["person"]) (capn:=["web", "stand"]) (caps:=[0,1]) rfl (bC.a (bn.cons rfl rfl (bn.cons rfl rfl bn.nil))) (bP rfl c (au e a (ae (mv 0) aq)))
   (λg C s H ex=>⟨(aN (i:=0) (show ((["person"] : List Str)++(["web", "stand"] : List Str)).Nodup by decide +kernel) rfl lc),cO,(au b a (ae (mv 1) (ae (mv 2) (ae (mv 0) aq))))⟩))))))
theorem j5:aI ["web", "stand", "stands", "later", "word"] ["web", "stand"] (av uv):=fsc
theorem DN (F:Fun K "ended" "ended" uv f fd) (e:mg "len" = none) (b:Def P w K mg base "turn_at" 4 2 eh) (d:Def P w K mg base "check_stand" 5 2 dS):bN P w K mg base CX0 6 f fd ["web", "stand"] (spF K kt 2):=bH F j5 λ_ _ _ _ _ _ a=>have c:=cL a;(af (fX (au d a (ae (mv 0) (ae (mv 1) aq))))
  (af (aF (i:=2) j5.nd rfl lc (bG (cI (ae (mv 1) (ae (au b a (ae (mv 0) (ae (mv 1) aq))) aq)) (λ_ _ _ _ z=>by rw[(aU (aU bF)) _ _ _ _ z];decide))))
  (af (aF (i:=3) j5.nd rfl lc (au b a (ae (mv 0) (ae (aJ (mv 2) ak (λ_ _=>rfl)) aq))))
  (af (vB YH (aW (eA c) gO (mv 3) (aJ (mv 2) eB (λ_ _=>rfl)) (aS _)) (af (fX (jG (mv 2) (mv 3)))
  (aj (aF (i:=3) j5.nd rfl lc (au b a (ae (mv 0) (ae (mv 3) aq)))))))
  (af (aF (i:=4) j5.nd rfl lc (zE (aW (dJ c) fU (aJ (mv 2) eB (λ_ _=>rfl)) (aJ (mv 2) eB (λ_ _=>rfl)) (aS _)) (fK [114,101,115,116] rfl) (fK [112,97,105,114] rfl)))
  (aj (aG (hV (ae (bc gZ qN (cu rfl e (ce (mv 2))) ak) (ae (mv 4) (ae (mv 2) aq)))))))))))
theorem nC:aI ["web", "thing"] ["web", "thing"] (av fP):=fsc
theorem nE (F:Fun K "may_be_chosen" "may_be_chosen" fP f fd) (c:Def P w K mg base "stay_of" 1 2 dE) (d:Def P w K mg base "is_person" 3 2 gW):bN P w K mg base CX0 4 f fd ["web", "thing"] (spF K cf 2):=bH F nC λ_ _ _ _ _ _ a=>have b:=cL a;(aj (aG (MB.me (mJ (gM (au d a (ae (mv 0) (ae (mv 1) aq)))) (kH (gM (gx (eA b) gO (au c a (ae (mv 0) (ae (mv 1) aq))) ak (aS _))))))))
theorem nF:aI ["web", "thing"] ["web", "thing"] (av fQ):=fsc
theorem nG (F:Fun K "are_choosable" "are_choosable" fQ f fd) (a:mg "all" = none) (g:mg "range" = none) (j:mg "len" = none) (c:mg "isinstance" = none) (h:mg "list" = none) (d:Def P w K mg base "may_be_chosen" 4 2 cf):bN P w K mg base CX0 5 f fd ["web", "thing"] (spF K de 2):=bH F nF λ_ _ _ _ _ _ b=>have k:=cL b;(af (bB (dI (cP (gP (t:=.list) rfl c rfl h (by decide +kernel) (mv 1)))) (aj (aG iA)) aO)
  (af (bB (dI (cP (tW rfl rfl a (fM (dD (own:=["person"]) (capn:=["web"]) (caps:=[0]) rfl (bC.a (bn.cons rfl rfl bn.nil)) (d9 (mv 1))
   (λe C s H ex=>⟨(aN (i:=0) (show ((["person"] : List Str)++(["web"] : List Str)).Nodup by decide +kernel) rfl lc),cO,(au d b (ae (mv 1) (ae (mv 0) aq)))⟩)))))) (aj (aG iA)) aO)
  (aj (aG (tW rfl rfl a (fM (dD (own:=["place"]) (capn:=["thing"]) (caps:=[1]) rfl (bC.a (bn.cons rfl rfl bn.nil)) (bP rfl g (bc gZ qN (cu rfl j (ce (mv 1))) ak))
   (λe C s H ex=>⟨(aN (i:=0) (show ((["place"] : List Str)++(["thing"] : List Str)).Nodup by decide +kernel) rfl lc),cO,(gx zx qO (aJ (mv 1) (mv 0) (λ_ _=>rfl)) (aJ (mv 1) (bc fZ iR (mv 0) ak) (λ_ _=>rfl)) (aS _))⟩))))))))
theorem DO:aI ["web", "some"] ["web", "some"] (av uw):=fsc
theorem DP (F:Fun K "begun" "begun" uw f fd) (e:mg "tuple" = none) (c:mg "enumerate" = none) (b:Def P w K mg base "stays_of" 1 1 cB) (g:Def P w K mg base "are_choosable" 5 2 de):bN P w K mg base CX0 6 f fd ["web", "some"] (spF K lW 2):=bH F DO λ_ _ _ _ _ _ a=>have d:=cL a;(af (bB (dI (cP (au g a (ae (mv 0) (ae (mv 1) aq))))) (aj fN) aO)
  (aj (aG (fj rfl e (fM (vU (own:=["person", "stay"]) (capn:=["some"]) (caps:=[1]) rfl (bC.a (bn.cons rfl rfl bn.nil)) (vT rfl c (au b a (ae (mv 0) aq)))
   (λh C s H ex=>⟨(pJ rfl (dA (aN (i:=0) (show ((["person", "stay"] : List Str)++(["some"] : List Str)).Nodup by decide +kernel) rfl lc) (dA (aN (i:=1) (show ((["person", "stay"] : List Str)++(["some"] : List Str)).Nodup by decide +kernel) rfl lc) lA))),cO,(zE (MW.mt (lu (aW ir vH (mv 0) (mv 2) rfl) (fL (aW (dJ d) fU (mv 1) ak (aS _)) (.inr rfl)))) ak ak)⟩)))))))
theorem gf:aI ["web", "some", "end", "word", "stands"] ["web", "some"] (av jX):=fsc
theorem uB (F:Fun K "turns_all" "turns_all" jX f fd) (c:Def P w K mg base "ended" 6 2 kt) (b:Def P w K mg base "begun" 6 2 lW):bN P w K mg base CX0 7 f fd ["web", "some"] (spF K b5 2):=bH F gf λ_ _ _ _ _ _ a=>have d:=cL a;(af (aF (i:=2) gf.nd rfl lc (au c a (ae (mv 0) (ae (au b a (ae (mv 0) (ae (mv 1) aq))) aq))))
  (af (aF (i:=3) gf.nd rfl lc (aJ (mv 2) ak (λ_ _=>rfl)))
  (af (aF (i:=4) gf.nd rfl lc (aJ (mv 2) ak (λ_ _=>rfl)))
  (af (bB (aW (dJ d) fU (mv 3) (fK [112,97,105,114] rfl) (aS _)) (aj (aG (hV (ae (fK [110,111,116] rfl) (ae (pL (mv 4) (Cr eB) Cq) aq))))) aO)
  (af (bB (aW ir vH ak (aJ (mv 4) eB (λ_ _=>rfl)) rfl) (aj (aG (hV (ae (fK [110,111,116] rfl) (ae (pL (mv 4) (Cr eB) Cq) aq))))) aO)
  (aj (aG (hV (ae (fK [116,117,114,110] rfl) (ae (pL (mv 4) Cq (Cr eB)) aq))))))))))
theorem gY:aI ["people", "lists", "person"] ["people"] (av kW):=fsc
theorem wM (F:Fun K "lists_of" "lists_of" kW f fd) (a:mg "sorted" = none) (c:mg "len" = none):bN P w K mg base CX0 1 f fd ["people"] (spF K gD 1):=bH F gY λ_ _ _ _ _ _ b=>have e:=cL b;(af (aF (i:=1) gY.nd rfl lc (bG (cI (ae (bG (cI aq (λ_ _ _ _ z=>by rw[bF _ _ _ _ z];decide))) aq) (λ_ _ _ _ z=>by rw[(aU bF) _ _ _ _ z];decide))))
  (af (d8 YH rfl (d9 (mv 0)) (aN (i:=2) gY.nd rfl lc) (aj (aF (i:=1) gY.nd rfl lc (bG (lJ (mv 1) (bG (dD (own:=["some"]) (capn:=["person"]) (caps:=[2]) rfl (bC.a (bn.cons rfl rfl bn.nil)) (d9 (mv 1))
   (λd C s H ex=>⟨(aN (i:=0) (show ((["some"] : List Str)++(["person"] : List Str)).Nodup by decide +kernel) rfl lc),cO,(bG (lJ (mv 0) (bG (cI (ae (mv 1) aq) (λ_ _ _ _ z=>by rw[(aU bF) _ _ _ _ z];decide)))))⟩))))))))
  (aj (aG (bG (xY rfl a rfl c (mv 1)))))))
theorem qx:aI ["web", "some", "known", "people"] ["web", "some", "known"] (av nz):=fsc
theorem yP (F:Fun K "do_turn" "do_turn" nz f fd) (d:mg "tuple" = none) (c:Def P w K mg base "turns_all" 7 2 b5):bN P w K mg base CX0 8 f fd ["web", "some", "known"] (spF K dF 3):=bH F qx λ_ _ _ _ _ _ b=>have a:=cL b;(af (aF (i:=3) qx.nd rfl lc (fj rfl d (ce (mv 1))))
  (af (bB (aW (AV (ZS (XU (by decide) _) a)) AW (mv 3) (mv 2) rfl) (aj (E8 (ZS (XU (by decide) _) a) (gx (dJ a) fU (aJ (au c b (ae (mv 0) (ae (mv 1) aq))) ak (λ_ _=>rfl)) (fK [116,117,114,110] rfl) (aS _)) (mv 2) (mv 3))) aO)
  (aj (aG (E9 (ZS (XU (by decide) _) a) (mv 2) (mv 3))))))
theorem ek:aI ["web", "chosen", "known", "grown", "left", "person", "more"] ["web", "chosen", "known"] (av kX):=fsc
theorem wN (F:Fun K "left_out" "left_out" kX f fd) (d:mg "sorted" = none) (b:Def P w K mg base "free_of" 2 1 gq) (c:Def P w K mg base "do_turn" 8 3 dF):bN P w K mg base CX0 9 f fd ["web", "chosen", "known"] (spF K i6 3):=bH F ek λ_ _ _ _ _ _ a=>have e:=cL a;(af (aF (i:=3) ek.nd rfl lc (mv 1))
  (af (aF (i:=4) ek.nd rfl lc (bG (cI aq (λ_ _ _ _ z=>by rw[bF _ _ _ _ z];decide))))
  (af (d8 YH rfl (d9 (au b a (ae (mv 0) aq))) (aN (i:=5) ek.nd rfl lc) (af (bB (aW ir vH (mv 5) (mv 3) rfl) (aj vA) aO)
  (af (aF (i:=6) ek.nd rfl lc (bG (Db rfl d (fM (lJ (mv 3) (bG (cI (ae (mv 5) aq) (λ_ _ _ _ z=>by rw[(aU bF) _ _ _ _ z];decide))))))))
  (aj (bB (cP (au c a (ae (mv 0) (ae (mv 6) (ae (mv 2) aq))))) (aj (fX (jG (mv 4) (mv 5)))) (aj (aF (i:=3) ek.nd rfl lc (mv 6))))))))
  (aj (aG (mv 4))))))
theorem ig:aI ["web", "m", "chosen", "known", "some", "trees"] ["web", "m", "chosen", "known"] (av jd):=fsc
theorem rj (j:Nat) (F:Fun K "tree_above" "tree_above" jd f fd) (c:Def P w K mg base "left_out" 9 3 i6) (d:Def P w K mg base "tree_above" (9 + j) 4 (bR j)):bN P w K mg base CX0 (9 + (j + 1)) f fd ["web", "m", "chosen", "known"] (spF K (bR (j + 1)) 4):=bH F ig λ_ _ _ _ _ _ a=>have b:=cL a;(af (bB (aW (dJ b) fU (mv 1) ak (aS _)) (aj (aG (hV (ae (fK [108,101,97,102] rfl) aq)))) aO)
  (af (aF (i:=4) ig.nd rfl lc (oX c (a.mono (ZM (by decide) (XZ 9 j))) rfl (ae (mv 0) (ae (mv 2) (ae (mv 3) aq))) (tR)))
  (af (iQ (i:=5) ig.nd rfl lc (own:=["person"]) (capn:=["web", "known", "m", "chosen"]) (caps:=[0,3,1,2]) rfl (bC.a (bn.cons rfl rfl (bn.cons rfl rfl (bn.cons rfl rfl (bn.cons rfl rfl bn.nil))))) (d9 (mv 4))
   (λe C s H ex=>⟨(aN (i:=0) (show ((["person"] : List Str)++(["web", "known", "m", "chosen"] : List Str)).Nodup by decide +kernel) rfl lc),cO,(oX d (a.mono (ZL _)) rfl (ae (mv 1) (ae (bc gZ qN (mv 3) ak) (ae (bG (lJ (mv 4) (bG (cI (ae (mv 0) aq) (λ_ _ _ _ z=>by rw[(aU bF) _ _ _ _ z];decide))))) (ae (mv 2) aq)))) (jr j))⟩))
  (aj (aG (hV (ae (fK [112,97,114,116] rfl) (ae (mv 4) (ae (mv 5) aq)))))))))
theorem iI:aI ["web", "free", "known", "some", "tree"] ["web"] (av qt):=fsc
theorem Bo (F:Fun K "fewest" "fewest" qt f fd) (b:mg "len" = none) {e:Tok} (h:mg "MOST_FREE_TRIED" = some (.int 9 e)) (j:Def P w K mg base "lists_of" 1 1 gD) (d:Def P w K mg base "do_turn" 8 3 dF) (k:Def P w K mg base "tree_above" 18 4 (bR 9)) (c:Def P w K mg base "free_of" 2 1 gq):bN P w K mg base CX0 19 f fd ["web"] (spF K jU 1):=bH F iI λ_ _ _ _ _ _ a=>have g:=cL a;(af (aF (i:=1) iI.nd rfl lc (au c a (ae (mv 0) aq)))
  (af (bB (aW zy qO (cu rfl b (ce (mv 1))) (pI rfl h) (aS _)) (aj fN) aO)
  (af (aF (i:=2) iI.nd rfl lc CO)
  (af (d8 YH rfl (d9 (au j a (ae (mv 1) aq))) (aN (i:=3) iI.nd rfl lc) (aj (bB (cP (au d a (ae (mv 0) (ae (mv 3) (ae (mv 2) aq))))) (af (aF (i:=4) iI.nd rfl lc (zE (aW (dJ g) fU (mv 3) (bG (cI aq (λ_ _ _ _ z=>by rw[bF _ _ _ _ z];decide))) (aS _)) cr (oX k (a.mono (by decide)) rfl (ae (mv 0) (ae (bc gZ qN (cu rfl b (ce (mv 3))) ak) (ae (bG (cI aq (λ_ _ _ _ z=>by rw[bF _ _ _ _ z];decide))) (ae (mv 2) aq)))) (jr 9))))
  (aj (aG (hV (ae (mv 3) (ae (mv 4) aq)))))) aO)))
  (aj (aG cr))))))
theorem uC:aI ["_law_script", "_law_k"] ["_law_script", "_law_k"] (av jY):=fsc
theorem uD (F:Fun K "_law_cell" "_law_cell" jY f fd) (b:mg "len" = none):bN P w K mg base CX0 1 f fd ["_law_script", "_law_k"] (spF K bi 2):=bH F uC λ_ _ _ _ _ _ a=>have c:=cL a;(af (bB (aW zx qO (mv 1) (cu rfl b (ce (mv 0))) (aS _)) (aj (aG (aJ (mv 0) (mv 1) (λ_ _=>rfl)))) aO)
  (aj (aG (bc fZ iR (bc eR eS (bc eR eS ak (mv 1)) (mv 1)) (bc eR eS ak (mv 1))))))
theorem dC:aI ["_law_cell_here", "_law_way", "_law_many", "_law_base", "_law_found", "_law_number", "_law_k"] ["_law_cell_here", "_law_way", "_law_many", "_law_base"] (av kY):=fsc
theorem wO (F:Fun K "_law_row" "_law_row" kY f fd) (b:mg "range" = none):bN P w K mg base CX0 1 f fd ["_law_cell_here", "_law_way", "_law_many", "_law_base"] (spF K c8 4):=bH F dC λ_ _ _ _ _ _ c=>have a:=cL c;(af (aF (i:=4) dC.nd rfl lc (bG (cI aq (λ_ _ _ _ z=>by rw[bF _ _ _ _ z];decide))))
  (af (aF (i:=5) dC.nd rfl lc (mv 0))
  (af (bB (aW (dJ a) fU (bc d5 d7 (mv 1) ak) ak (aS _)) (aj (aF (i:=5) dC.nd rfl lc (bc d5 d7 (bc eR eS (bc d5 d7 (mv 0) ak) ak) ak))) aO)
  (af (d8 YH rfl (bP rfl b (mv 2)) (aN (i:=6) dC.nd rfl lc) (aj (bB (aW (dJ a) fU (bc d5 d7 (mv 1) ak) ak (aS _)) (af (aF (i:=5) dC.nd rfl lc (bc d5 d7 (bc fZ iR (bc fZ iR (bc fZ iR (bc eR eS (mv 5) (mv 5)) (bc eR eS ak (mv 5))) (bc eR eS ak (mv 6))) ak) ak))
  (aj (fX (jG (mv 4) (bc d5 d7 (bc fB jD (mv 5) ak) (mv 3)))))) (af (fX (jG (mv 4) (bc d5 d7 (mv 5) (mv 3))))
  (aj (aF (i:=5) dC.nd rfl lc (bc fB jD (mv 5) (mv 3))))))))
  (aj (aG (mv 4)))))))
theorem bg:aI ["_law_script", "_law_most", "_law_way", "_law_many", "_law_tied", "_law_told", "_law_one", "_law_other", "_law_heavy", "_law_levels", "_law_steps", "_law_holders"] ["_law_script", "_law_most"] (av je):=fsc
theorem rk (F:Fun K "_law_model" "_law_model" je f fd) (b:mg "range" = none) (h:mg "sum" = none) (j:mg "max" = none) (e:Def P w K mg base "_law_row" 1 4 c8) (c:Def P w K mg base "_law_cell" 1 2 bi):bN P w K mg base CX0 2 f fd ["_law_script", "_law_most"] (spF K iH 2):=bH F bg λ_ _ _ _ _ _ a=>have d:=cL a;(af (aF (i:=2) bg.nd rfl lc (au c a (ae (mv 0) (ae ak aq))))
  (af (aF (i:=3) bg.nd rfl lc (bc fZ iR ak (bc d5 d7 (bc fB jD (mv 2) ak) (mv 1))))
  (af (iQ (i:=4) bg.nd rfl lc (own:=["_law_one"]) (capn:=["_law_many"]) (caps:=[3]) rfl (bC.a (bn.cons rfl rfl bn.nil)) (bP rfl b (mv 3))
   (λg C s H ex=>⟨(aN (i:=0) (show ((["_law_one"] : List Str)++(["_law_many"] : List Str)).Nodup by decide +kernel) rfl lc),cO,(bG (CK (cI (ae ak aq) (λ_ _ _ _ z=>by rw[(aU bF) _ _ _ _ z];decide)) (mv 1)))⟩))
  (af (aF (i:=5) bg.nd rfl lc (au e a (ae (au c a (ae (mv 0) (ae ak aq))) (ae (mv 2) (ae (bc eR eS (mv 3) (mv 3)) (ae ak aq))))))
  (af (d8 YH rfl (bP rfl b (mv 3)) (aN (i:=6) bg.nd rfl lc) (aj (d8 YH rfl (bP rfl b (mv 6)) (aN (i:=7) bg.nd rfl lc) (af (aF (i:=8) bg.nd rfl lc (HV rfl rfl j ak (bc gZ qN (aJ (mv 5) (bc fZ iR (bc eR eS (mv 6) (mv 3)) (mv 7)) (λ_ _=>rfl)) ak)))
  (af (bB (aW (dJ d) fU (bc d5 d7 (bc fB jD (mv 2) ak) ak) ak (aS _)) (aj (aF (i:=8) bg.nd rfl lc (zG (cI (ae ak (ae ak (ae ak (ae ak (ae ak (ae ak (ae ak aq))))))) (λ_ _ _ _ z=>by rw[(aU (aU (aU (aU (aU (aU (aU bF))))))) _ _ _ _ z];decide)) (bc d5 d7 (aJ (mv 5) (bc fZ iR (bc eR eS (mv 6) (mv 3)) (mv 7)) (λ_ _=>rfl)) ak) (λ_ _=>rfl)))) aO)
  (af (tN (mv 8) (aJ (mv 4) (mv 6) (λ_ _=>rfl)) (mv 7))
  (aj (tN (mv 8) (aJ (mv 4) (mv 7) (λ_ _=>rfl)) (mv 6)))))))))
  (af (iQ (i:=9) bg.nd rfl lc (own:=["_law_row_here"]) (capn:=[]) (caps:=[]) rfl (bC.a bn.nil) (d9 (mv 4))
   (λg C s H ex=>⟨(aN (i:=0) (show ((["_law_row_here"] : List Str)++([] : List Str)).Nodup by decide +kernel) rfl lc),cO,(xD rfl rfl h (ce (mv 0)))⟩))
  (af (bB (aW (dJ d) fU (bc d5 d7 (bc fB jD (mv 2) ak) ak) ak (aS _)) (af (aF (i:=10) bg.nd rfl lc (au e a (ae (au c a (ae (mv 0) (ae ak aq))) (ae (mv 2) (ae (mv 3) (ae ak aq))))))
  (aj (d8 YH rfl (bP rfl b (mv 3)) (aN (i:=6) bg.nd rfl lc) (aj (tN (zG (cI (ae (bc gZ qN (aJ (mv 10) (mv 6) (λ_ _=>rfl)) ak) (ae (bc gZ qN (bc fZ iR (aJ (mv 9) (mv 6) (λ_ _=>rfl)) (bc d5 d7 (aJ (mv 10) (mv 6) (λ_ _=>rfl)) ak)) ak) aq)) (λ_ _ _ _ z=>by rw[(aU (aU bF)) _ _ _ _ z];decide)) (bc d5 d7 (bc fB jD (mv 2) ak) ak) (λ_ _=>rfl)) (mv 9) (mv 6)))))) aO)
  (af (aF (i:=11) bg.nd rfl lc (bG (CK (cI (ae cr aq) (λ_ _ _ _ z=>by rw[(aU bF) _ _ _ _ z];decide)) (mv 3))))
  (af (bB (aW (dJ d) fU (bc d5 d7 (bc fB jD (mv 2) ak) ak) ak (aS _)) (af (aF (i:=5) bg.nd rfl lc (au e a (ae (au c a (ae (mv 0) (ae ak aq))) (ae (mv 2) (ae (mv 3) (ae ak aq))))))
  (aj (iQ (i:=11) bg.nd rfl lc (own:=["_law_number"]) (capn:=[]) (caps:=[]) rfl (bC.a bn.nil) (d9 (mv 5))
   (λg C s H ex=>⟨(aN (i:=0) (show ((["_law_number"] : List Str)++([] : List Str)).Nodup by decide +kernel) rfl lc),cO,(zG (cI (ae ak (ae ak (ae cr (ae cr (ae cr (ae cr (ae cr aq))))))) (λ_ _ _ _ z=>by rw[(aU (aU (aU (aU (aU (aU (aU bF))))))) _ _ _ _ z];decide)) (mv 0) (λ_ _=>rfl))⟩)))) aO)
  (aj (aG (hV (ae (mv 4) (ae (mv 9) (ae (mv 11) aq)))))))))))))))
theorem fz:aI ["_law_model_here", "_law_found", "_law_one", "_law_other"] ["_law_model_here"] (av jf):=fsc
theorem rm (F:Fun K "_law_lines" "_law_lines" jf f fd) (a:mg "range" = none) (c:mg "len" = none):bN P w K mg base CX0 1 f fd ["_law_model_here"] (spF K eX 1):=bH F fz λ_ _ _ _ _ _ b=>have d:=cL b;(af (aF (i:=1) fz.nd rfl lc (bG (cI aq (λ_ _ _ _ z=>by rw[bF _ _ _ _ z];decide))))
  (af (d8 YH rfl (bP rfl a (cu rfl c (ce (aJ (mv 0) ak (λ_ _=>rfl))))) (aN (i:=2) fz.nd rfl lc) (aj (d8 YH rfl (bP rfl a (mv 2)) (aN (i:=3) fz.nd rfl lc) (aj (bB (aW zy qO (aJ (aJ (aJ (mv 0) ak (λ_ _=>rfl)) (mv 2) (λ_ _=>rfl)) (mv 3) (λ_ _=>rfl)) ak (aS _)) (aj (fX (jG (mv 1) (hV (ae (mv 3) (ae (mv 2) (ae (aJ (aJ (aJ (mv 0) ak (λ_ _=>rfl)) (mv 2) (λ_ _=>rfl)) (mv 3) (λ_ _=>rfl)) aq))))))) aO)))))
  (aj (aG (mv 1)))))
theorem bS:aI ["_law_model_here", "_law_stand", "_law_tied", "_law_levels", "_law_holders", "_law_found", "_law_one", "_law_force", "_law_held"] ["_law_model_here", "_law_stand"] (av jZ):=fsc
theorem uE (F:Fun K "_law_turn" "_law_turn" jZ f fd) (d:mg "tuple" = none) (a:mg "range" = none) (b:mg "len" = none) (c:mg "sum" = none):bN P w K mg base CX0 1 f fd ["_law_model_here", "_law_stand"] (spF K eI 2):=bH F bS λ_ _ _ _ _ _ e=>have h:=cL e;(af (Hv (mv 0) (pJ rfl (dA (aN (i:=2) bS.nd rfl lc) (dA (aN (i:=3) bS.nd rfl lc) (dA (aN (i:=4) bS.nd rfl lc) lA)))))
  (af (aF (i:=5) bS.nd rfl lc (bG (cI aq (λ_ _ _ _ z=>by rw[bF _ _ _ _ z];decide))))
  (af (d8 YH rfl (bP rfl a (cu rfl b (ce (mv 3)))) (aN (i:=6) bS.nd rfl lc) (af (aF (i:=7) bS.nd rfl lc (bc eR eS ak (xD rfl rfl c (fM (dD (own:=["_law_other"]) (capn:=["_law_stand", "_law_tied", "_law_one"]) (caps:=[1,2,6]) rfl (bC.a (bn.cons rfl rfl (bn.cons rfl rfl (bn.cons rfl rfl bn.nil)))) (bP rfl a (cu rfl b (ce (mv 3))))
   (λg C s H ex=>⟨(aN (i:=0) (show ((["_law_other"] : List Str)++(["_law_stand", "_law_tied", "_law_one"] : List Str)).Nodup by decide +kernel) rfl lc),cO,(bc eR eS (aJ (aJ (mv 2) (mv 3) (λ_ _=>rfl)) (mv 0) (λ_ _=>rfl)) (aJ (mv 1) (mv 0) (λ_ _=>rfl)))⟩))))))
  (af (aF (i:=8) bS.nd rfl lc (aJ (mv 1) (mv 6) (λ_ _=>rfl)))
  (af (bB (aW zy qO (mv 7) (aJ (mv 3) (mv 6) (λ_ _=>rfl)) (aS _)) (aj (aF (i:=8) bS.nd rfl lc ak)) aO)
  (af (bB (aW zx qO (mv 7) (aJ (mv 3) (mv 6) (λ_ _=>rfl)) (aS _)) (aj (aF (i:=8) bS.nd rfl lc ak)) aO)
  (af (bB (aW oU kc (aJ (mv 4) (mv 6) (λ_ _=>rfl)) cr (aS _)) (aj (aF (i:=8) bS.nd rfl lc (aJ (mv 4) (mv 6) (λ_ _=>rfl)))) aO)
  (aj (fX (jG (mv 5) (mv 8))))))))))
  (aj (aG (fj rfl d (ce (mv 5))))))))
theorem fR:aI ["_law_model_here", "_law_some", "_law_found", "_law_one"] ["_law_model_here", "_law_some"] (av gE):=fsc
theorem oM (F:Fun K "_law_fitting" "_law_fitting" gE f fd) (b:mg "tuple" = none) (a:mg "range" = none) (d:mg "len" = none):bN P w K mg base CX0 1 f fd ["_law_model_here", "_law_some"] (spF K fG 2):=bH F fR λ_ _ _ _ _ _ c=>have e:=cL c;(af (aF (i:=2) fR.nd rfl lc (bG (cI aq (λ_ _ _ _ z=>by rw[bF _ _ _ _ z];decide))))
  (af (d8 YH rfl (bP rfl a (cu rfl d (ce (mv 1)))) (aN (i:=3) fR.nd rfl lc) (af (fX (jG (mv 2) (aJ (mv 1) (mv 3) (λ_ _=>rfl))))
  (aj (bB (aW oU kc (aJ (aJ (mv 0) ak (λ_ _=>rfl)) (mv 3) (λ_ _=>rfl)) cr (aS _)) (aj (tN (aJ (aJ (mv 0) ak (λ_ _=>rfl)) (mv 3) (λ_ _=>rfl)) (mv 2) (mv 3))) aO))))
  (aj (aG (fj rfl b (ce (mv 2)))))))
theorem uF:aI ["_law_model_here"] ["_law_model_here"] (av j0):=fsc
theorem uG (F:Fun K "_law_made" "_law_made" j0 f fd) (b:mg "list" = none) (e:mg "len" = none) (d:Def P w K mg base "web_of" 5 4 iG) (c:Def P w K mg base "_law_lines" 1 1 eX):bN P w K mg base CX0 6 f fd ["_law_model_here"] (spF K jT 1):=bH F uF λ_ _ _ _ _ _ a=>have g:=cL a;(aj (aG (au d a (ae (cu rfl e (ce (aJ (mv 0) ak (λ_ _=>rfl)))) (ae (au c a (ae (mv 0) aq)) (ae (bG (oY rfl b (ce (aJ (mv 0) ak (λ_ _=>rfl))))) (ae (bG (oY rfl b (ce (aJ (mv 0) ak (λ_ _=>rfl))))) aq)))))))
theorem ii:aI ["_law_model_here", "_law_stand", "_law_stands", "_law_later"] ["_law_model_here", "_law_stand"] (av jg):=fsc
theorem rp (F:Fun K "_law_ended" "_law_ended" jg f fd) (b:Def P w K mg base "_law_turn" 1 2 eI):bN P w K mg base CX0 2 f fd ["_law_model_here", "_law_stand"] (spF K ku 2):=bH F ii λ_ _ _ _ _ _ a=>have c:=cL a;(af (aF (i:=2) ii.nd rfl lc (bG (cI (ae (mv 1) (ae (au b a (ae (mv 0) (ae (mv 1) aq))) aq)) (λ_ _ _ _ z=>by rw[(aU (aU bF)) _ _ _ _ z];decide))))
  (aj (vB YH (cP iA) (af (aF (i:=3) ii.nd rfl lc (au b a (ae (mv 0) (ae (aJ (mv 2) eB (λ_ _=>rfl)) aq))))
  (af (bB (aW (dJ c) fU (mv 3) (aJ (mv 2) eB (λ_ _=>rfl)) (aS _)) (aj (aG (mv 2))) aO)
  (aj (fX (jG (mv 2) (mv 3)))))))))
theorem lZ:aI ["_law_model_here"] ["_law_model_here"] (av eZ):=fsc
theorem l4 (F:Fun K "_law_choosable" "_law_choosable" eZ f fd) (b:mg "range" = none) (d:mg "len" = none):bN P w K mg base CX0 1 f fd ["_law_model_here"] (spF K fv 1):=bH F lZ λ_ _ _ _ _ _ c=>have a:=cL c;(aj (aG (bG (dD (own:=["_law_one"]) (capn:=["_law_model_here"]) (caps:=[0]) rfl (bC.a (bn.cons rfl rfl bn.nil)) (bP rfl b (cu rfl d (ce (aJ (mv 0) ak (λ_ _=>rfl)))))
   (λe C s H ex=>⟨(aN (i:=0) (show ((["_law_one"] : List Str)++(["_law_model_here"] : List Str)).Nodup by decide +kernel) rfl lc),(ke (aW (eA a) gO (aJ (aJ (mv 1) ak (λ_ _=>rfl)) (mv 0) (λ_ _=>rfl)) ak (aS _))),(mv 0)⟩)))))
theorem eJ:aI ["_law_model_here", "_law_some", "_law_stand", "_law_stands"] ["_law_model_here", "_law_some"] (av fg):=fsc
theorem l8 (F:Fun K "_law_turns_all" "_law_turns_all" fg f fd) (d:mg "range" = none) (g:mg "len" = none) (e:mg "int" = none) (c:Def P w K mg base "_law_ended" 2 2 ku) (b:Def P w K mg base "_law_fitting" 1 2 fG):bN P w K mg base CX0 3 f fd ["_law_model_here", "_law_some"] (spF K dU 2):=bH F eJ λ_ _ _ _ _ _ a=>have j:=cL a;(af (aF (i:=2) eJ.nd rfl lc (au b a (ae (mv 0) (ae (bG (dD (own:=["_law_one"]) (capn:=["_law_some"]) (caps:=[1]) rfl (bC.a (bn.cons rfl rfl bn.nil)) (bP rfl d (cu rfl g (ce (aJ (mv 0) ak (λ_ _=>rfl)))))
   (λh C s H ex=>⟨(aN (i:=0) (show ((["_law_one"] : List Str)++(["_law_some"] : List Str)).Nodup by decide +kernel) rfl lc),cO,(zH rfl e (gx ir vH (mv 0) (mv 1) rfl))⟩))) aq))))
  (af (aF (i:=3) eJ.nd rfl lc (au c a (ae (mv 0) (ae (mv 2) aq))))
  (aj (aG (MB.me (mJ (gM (gx lh vI ak (aJ (mv 3) eB (λ_ _=>rfl)) rfl)) (kH (gM (gx lh vI ak (aJ (mv 3) eB (λ_ _=>rfl)) rfl)))))))))
theorem dj:aI ["_law_model_here", "_law_free", "_law_least_here", "_law_number", "_law_some"] ["_law_model_here"] (av jh):=fsc
theorem rq (F:Fun K "_law_least" "_law_least" jh f fd) (b:mg "range" = none) (a:mg "len" = none) (g:Def P w K mg base "_law_turns_all" 3 2 dU):bN P w K mg base CX0 4 f fd ["_law_model_here"] (spF K kw 1):=bH F dj λ_ _ _ _ _ _ c=>have e:=cL c;(af (aF (i:=1) dj.nd rfl lc (bG (dD (own:=["_law_one"]) (capn:=["_law_model_here"]) (caps:=[0]) rfl (bC.a (bn.cons rfl rfl bn.nil)) (bP rfl b (cu rfl a (ce (aJ (mv 0) ak (λ_ _=>rfl)))))
   (λd C s H ex=>⟨(aN (i:=0) (show ((["_law_one"] : List Str)++(["_law_model_here"] : List Str)).Nodup by decide +kernel) rfl lc),(ke (aW g7 hU (aJ (aJ (mv 1) ak (λ_ _=>rfl)) (mv 0) (λ_ _=>rfl)) cr (aS _))),(mv 0)⟩))))
  (af (aF (i:=2) dj.nd rfl lc cr)
  (af (d8 YH rfl (bP rfl b (bc G3 HX ak (cu rfl a (ce (mv 1))))) (aN (i:=3) dj.nd rfl lc) (af (iQ (i:=4) dj.nd rfl lc (own:=["_law_k"]) (capn:=["_law_free", "_law_number"]) (caps:=[1,3]) rfl (bC.a (bn.cons rfl rfl (bn.cons rfl rfl bn.nil))) (bP rfl b (cu rfl a (ce (mv 1))))
   (λd C s H ex=>⟨(aN (i:=0) (show ((["_law_k"] : List Str)++(["_law_free", "_law_number"] : List Str)).Nodup by decide +kernel) rfl lc),(ke (aW (dJ e) fU (bc G5 E3 (bc G4 HG (mv 2) (mv 0)) ak) ak (aS _))),(aJ (mv 1) (mv 0) (λ_ _=>rfl))⟩))
  (aj (bB (MW.mt (xB (MW.mt (lu (aW g7 hU (mv 2) cr (aS _)) (fL (aW zx qO (cu rfl a (ce (mv 4))) (mv 2) (aS _)) (.inr rfl)))) (fL (cP (au g c (ae (mv 0) (ae (mv 4) aq)))) (.inl rfl)))) (aj (aF (i:=2) dj.nd rfl lc (cu rfl a (ce (mv 4))))) aO))))
  (aj (aG (mv 2))))))
theorem j6:aI ["_law_script", "_law_model_here", "_law_web", "_law_least_here", "_law_found", "_law_some", "_law_one", "_law_fewer"] ["_law_script"] (av qu):=fsc
theorem IE (F:Fun K "law" "law" qu f fd) (e:mg "sorted" = none) (m:mg "set" = none) (g:mg "list" = none) (p:mg "len" = none) (k:mg "int" = none) (h:Def P w K mg base "_law_choosable" 1 1 fv) (c:Def P w K mg base "turns_all" 7 2 b5) (j:Def P w K mg base "fewest" 19 1 jU) (n:Def P w K mg base "_law_least" 4 1 kw) (d:Def P w K mg base "_law_made" 6 1 jT) (o:Def P w K mg base "_law_model" 2 2 iH) (l:Def P w K mg base "_law_cell" 1 2 bi):bN P w K mg base CX0 20 f fd ["_law_script"] (spF K Ad 1):=bH F j6 λ_ _ _ _ _ _ a=>have b:=cL a;(af (aF (i:=1) j6.nd rfl lc (au o a (ae (mv 0) (ae (zG (cI (ae ak (ae ak aq)) (λ_ _ _ _ z=>by rw[(aU (aU bF)) _ _ _ _ z];decide)) (zH rfl k (gx (dJ b) fU (bc d5 d7 (bc fB jD (au l a (ae (mv 0) (ae ak aq))) ak) ak) ak (aS _))) (λ_ _=>rfl)) aq))))
  (af (aF (i:=2) j6.nd rfl lc (au d a (ae (mv 1) aq)))
  (af (aF (i:=3) j6.nd rfl lc (au n a (ae (mv 1) aq)))
  (af (aF (i:=4) j6.nd rfl lc (au j a (ae (mv 2) aq)))
  (af (bB (MW.mt (lu (aW g7 hU (mv 4) cr (aS _)) (fL (aW g7 hU (mv 3) cr (aS _)) (.inr rfl)))) (aj (aG (MB.me (mJ (gM (gx g7 hU (mv 4) cr (aS _))) (kH (gM (gx g7 hU (mv 3) cr (aS _)))))))) aO)
  (af (aF (i:=5) j6.nd rfl lc (aJ (mv 4) ak (λ_ _=>rfl)))
  (af (bB (MW.mt (lu (aW (eA b) gO (cu rfl p (ce (mv 5))) (mv 3) (aS _)) (fL (aW (eA b) gO (aJ (au c a (ae (mv 2) (ae (bG (oY rfl g (ce (mv 5)))) aq))) ak (λ_ _=>rfl)) (fK [116,117,114,110] rfl) (aS _)) (.inr rfl)))) (aj (aG iA)) aO)
  (af (d8 YH rfl (d9 (au h a (ae (mv 1) aq))) (aN (i:=6) j6.nd rfl lc) (af (bB (aW (eA b) gO (aJ (au c a (ae (mv 2) (ae (bG (Do rfl rfl e rfl m (lJ (mv 5) (bG (cI (ae (mv 6) aq) (λ_ _ _ _ z=>by rw[(aU bF) _ _ _ _ z];decide)))))) aq))) ak (λ_ _=>rfl)) (fK [116,117,114,110] rfl) (aS _)) (aj (aG iA)) aO)
  (af (iQ (i:=7) j6.nd rfl lc (own:=["_law_other"]) (capn:=["_law_one"]) (caps:=[6]) rfl (bC.a (bn.cons rfl rfl bn.nil)) (d9 (mv 5))
   (λq C s H ex=>⟨(aN (i:=0) (show ((["_law_other"] : List Str)++(["_law_one"] : List Str)).Nodup by decide +kernel) rfl lc),(ke (aW (eA b) gO (mv 0) (mv 1) (aS _))),(mv 0)⟩))
  (aj (bB (MW.mt (xB (aW ir vH (mv 6) (mv 5) rfl) (fL (aW (eA b) gO (aJ (au c a (ae (mv 2) (ae (mv 7) aq))) ak (λ_ _=>rfl)) (fK [110,111,116] rfl) (aS _)) (.inl rfl)))) (aj (aG iA)) aO)))))
  (aj (aG iA))))))))))
end
theorem IG {l:PySem.W.OpenLaw} {w:T4} {K:ZX} {h:Heap} {mg:Str->Option T0} {fa:Addr} (X:K.In h) (G:h.Ns mainGlobals mg) (m:mg "law" = some (.ref fa)) (zk:At K "is_whole" kT) (uS:At K "is_between" i9) (uT:At K "is_opinion" ja) (Ei:At K "is_tie" qo) (M:At K "neighbours" jb) (xc:At K "bars_told" jV) (uV:At K "stays_told" jc) (Ej:At K "web_of" qp) (W:At K "many_of" ni) (BG:At K "ties_of" nj) (S:At K "bar_of" qq) (O:At K "stay_of" nn) (zm:At K "stays_of" kU) (BI:At K "free_of" nr) (xf:At K "is_person" jW) (Q:At K "fits" yA) (L:At K "check_stand" ie) (BJ:At K "pull_at" nt) (BK:At K "next_at" nu) (BM:At K "turn_at" nv) (F7:At K "ended" uv) (oQ:At K "may_be_chosen" fP) (oR:At K "are_choosable" fQ) (F8:At K "begun" uw) (xg:At K "turns_all" jX) (zn:At K "lists_of" kW) (BN:At K "do_turn" nz) (V:At K "left_out" kX) (B:At K "tree_above" jd) (El:At K "fewest" qt) (Y:At K "_law_cell" jY) (zr:At K "_law_row" kY) (uW:At K "_law_model" je) (uX:At K "_law_lines" jf) (xi:At K "_law_turn" jZ) (qE:At K "_law_fitting" gE) (xj:At K "_law_made" j0) (uY:At K "_law_ended" jg) (nR:At K "_law_choosable" eZ) (N:At K "_law_turns_all" fg) (uZ:At K "_law_least" jh) (Ki:At K "law" qu) (u4:Nb K "isinstance") (IW:Nb K "bool") (Kj:Nb K "int") (Kl:Nb K "len") (F9:Nb K "tuple") (Ga:Nb K "range") (IX:Nb K "list") (Km:Nb K "all") (Em:Nb K "sorted") (xk:Nb K "enumerate") (Ko:Nb K "sum") (Kq:Nb K "max") (J:Nb K "set") {ij:Tok} (rG:PySem.W.nsIn K mainGlobals "MOST_WEIGHT" = some (some (.int 400 ij))) {im:Tok} (rH:PySem.W.nsIn K mainGlobals "MOST_PEOPLE" = some (some (.int 30 im))) {eK:Tok} (mz:PySem.W.nsIn K mainGlobals "MOST_FREE_TRIED" = some (some (.int 9 eK))):∃fd:FuncData,(∀(s:T1) (v:T0),BindsTo s fd ⟨[v],[]⟩ [("_law_script",v)])/\∀base:Heap,K.In base->base.Ns mainGlobals mg->bN l.prog w K mg base CX0 20 fa fd ["_law_script"] (spF K Ad 1):=by
 obtain⟨f,od,IY,sl,oc,T,Ja,Jb,Jc,Jd,e,Ks,Kt,H⟩:=Ki;have e:=m.symm.trans (V1 X G e);cases e;have Kv:=Ce (st:=qu) Ks Kt H;have g:=YM X G u4;have zh:=YM X G IW;have n:=YM X G Kj;have a:=YM X G Kl;have c:=YM X G F9;have b:=YM X G Ga;have d:=YM X G IX;have u:=YM X G Km;have i:=YM X G Em;have x:=YM X G xk;have t:=YM X G Ko;have Ee:=YM X G Kq;have Eg:=YM X G J;have ik:=V1 X G rG;have io:=V1 X G rH;have eL:=V1 X G mz;refine⟨PySem.W.fnOf "law" "law" (dY qu) (du qu) (av qu) .none T Ja Jb IY Jc Jd,λs v=>.of_eq rfl,λbase KB _ => ?_⟩;have q:En l.prog w K mg base:=⟨h,X,G⟩;have F:=zk.df1 q λU=>wJ U g zh n;have k:=uS.df3 q λU=>qW U F;have E:=uT.df1 q λU=>qY U k;have Eo:=Ei.df2 q λU=>Bk U a g c ik k;have u5:=M.df2 q λU=>qZ U b g d Eo;have xm:=xc.df2 q λU=>uy U c u a g d F;have u6:=uV.df2 q λU=>rg U c u a g d b E;have Ep:=Ej.df4 q λU=>Bl U c i io u6 xm u5 k;have p:=W.df1 q λU=>yC U a;have BO:=BG.df2 q λU=>yF U;have Er:=S.df2 q λU=>Bn U;have o:=O.df2 q λU=>yH U;have z:=zm.df1 q λU=>wL U d;have C:=BI.df1 q λU=>yJ U x z;have xn:=xf.df2 q λU=>uA U k p;have Je:=Q.df2 q λU=>FF U x a g c o E p;have rJ:=L.df2 q λU=>qw U Je;have BP:=BJ.df3 q λU=>yL U t BO;have BQ:=BK.df3 q λU=>yM U Er BP o;have BR:=BM.df2 q λU=>yO U c b p BQ;have I:=F7.df2 q λU=>DN U a BR rJ;have oS:=oQ.df2 q λU=>nE U o xn;have oT:=oR.df2 q λU=>nG U u b a g d oS;have Z:=F8.df2 q λU=>DP U c x z oT;have A:=xg.df2 q λU=>uB U I Z;have zt:=zn.df1 q λU=>wM U i a;have y:=BN.df3 q λU=>yP U c A;have zu:=V.df3 q λU=>wN U i C y;have r:∀j,Def l.prog w K mg base "tree_above" (9 + j) 4 (bR j):=λj=>by
  induction j with
  | zero=>exact B.df4 (ps:=["web", "m", "chosen", "known"]) q λ_=>DM
  | succ j ih=>exact B.df4 q λU=>rj j U zu ih
 replace r:=r 9;have Es:=El.df1 q λU=>Bo U a eL zt y r C;have D:=Y.df2 q λU=>uD U a;have zv:=zr.df4 q λU=>wO U b;have u7:=uW.df2 q λU=>rk U b t Ee zv D;have R:=uX.df1 q λU=>rm U b a;have xo:=xi.df2 q λU=>uE U c b a t;have qH:=qE.df2 q λU=>oM U c b a;have xp:=xj.df1 q λU=>uG U d a Ep R;have vd:=uY.df2 q λU=>rp U xo;have nW:=nR.df1 q λU=>l4 U b a;have nZ:=N.df2 q λU=>l8 U b a n vd qH;have ve:=uZ.df1 q λU=>rq U b a nZ;exact IE (P:=l.prog) (w:=w) (base:=base) Kv i Eg d a n nW A Es ve xp u7 D
end Fm
namespace Fm
theorem yQ (l:List Int):ev (l.map D.int)=true:=gp λ_ _=>rfl
abbrev NL (l:List Nat):List D:=l.map λk:Nat=>D.int k
structure Ch (w:Web) (n:Nat) (l:List Nat):Prop where
 up:l.Pairwise (· < ·)
 lt:∀p∈l,p < n
 no:∀p∈l,w.stays.getD p none≠some 0
def ca (w:Web) (n:Nat) (l:List Nat):List Int:=(List.range n).map λi=>if i∈l\/w.stays.getD i none=some 1 then 1 else 0
theorem Ae (u:Option Int)(h:Hd):oNe (bp u) (.int 0) h=.ok (.bl (decide (u≠some 0))) h:=by
 cases u with
 | none=>rfl
 | some v =>
  show oNe (.int v) (.int 0) h=_;rw[mX]
  by_cases e:v=0
  ·rw[w8 e,ZY (λz=>z (by rw[e]))];rfl
  ·rw[ZY e,w8 (show (some v≠some (0:Int)) from λz=>e (ZT z))];rfl
theorem DQ (u:Option Int)(h:Hd):oEq (bp u) (.int 1) h=.ok (.bl (decide (u=some 1))) h:=by
 cases u with
 | none=>rfl
 | some v =>
  show oEq (.int v) (.int 1) h=_;rw[qd]
  by_cases e:v=1
  ·rw[w8 e,w8 (by rw[e])]
  ·rw[ZY e,ZY (λz=>e (ZT z))]
variable {l:List Nat}{h:Hd}
theorem Af {k:Nat}(c:h[k]? = some (.lst (NL l)))(i:Nat):oIn (.int (i:Nat)) (.ref k) h=.ok (.bl (decide (i∈l))) h:=by
 have f:(NL l).all dP=true:=by
  rw[List.all_eq_true];intro x b;obtain⟨j,_,rfl⟩:=List.mem_map.mp b;rfl
 have a:((NL l).any λz=>eqF z (.int (i:Nat)))=decide (i∈l):=by
  by_cases e:i∈l
  ·rw[w8 e,List.any_eq_true]
   exact⟨.int (i:Nat),List.mem_map.mpr ⟨i,e,rfl⟩,by simp⟩
  ·rw[ZY e,List.any_eq_false]
   intro x b z;obtain⟨j,d,rfl⟩:=List.mem_map.mp b;have z:((j:Int) == (i:Int))=true:=z;have:j=i:=by have:=eq_of_beq z;omega
   exact e (this ▸ d)
 simp only[oIn,inL,gL,c,dP,f,Bool.and_self,Uz,a]
variable {p:Nat}{σ:Sd}
section
variable {w:Web} {n:Nat} {l:List Nat}
theorem J5 (W:w.Ok n)(hp:p < n):atI (w.stays.map bp) (p:Int)=some (bp (w.stays.getD p none)):=by
 have h:p < w.stays.length:=W.s.symm ▸ hp;rw[ZF,ZE h];exact cX (by rw[ZQ,ZE h];rfl)
theorem Bp (W:w.Ok n)(hp:p < n)(h:Hd):gW [w.enc,.int (p:Nat)] h=.ok (.bl true) h:=by
 have m:cT [w.enc] h=.ok (.int n) h:=by rw[jR,W.t]
 have b:bw [.int (p:Nat),.int 0,.int ((n:Int) - 1)] h=.ok (.bl true) h:=by
  have:=eE (p:Int) 0 ((n:Int) - 1) h;rw[this,w8 (show (0:Int)<=p by omega),w8 (show (p:Int)<=(n:Int) - 1 by omega)];rfl
 exact(bI rfl rfl (aX (ax (am rfl (cm rfl (ah (ax (am rfl rfl) m) rfl rfl))) b))).trans a4
theorem Bq (W:w.Ok n)(hp:p < n)(no:w.stays.getD p none≠some 0)(h:Hd):cf [w.enc,.int (p:Nat)] h=.ok (.bl true) h:=by
 have s:dE [w.enc,.int (p:Nat)] h=.ok (bp (w.stays.getD p none)) h:=(bI rfl rfl (aX (aK (aK rfl rfl rfl rfl) rfl rfl (J5 W hp)))).trans a4;exact(bI rfl rfl (aX (ou (iX (aV (ax (cm rfl rfl) (Bp W hp h))) (aV (ah (ax (cm rfl rfl) s) rfl (by rw[Ae,w8 no]))))))).trans a4
theorem DR {α : Type}(l:List α):iw (l.map λ_=>D.bl true)=some (l.map λ_=>true):=by
 induction l with
 | nil=>rfl
 | cons x l ih=>simp[iw,ih]
theorem J6 {α : Type}(l:List α):(l.map λ_=>true).all id=true:=by simp
theorem FG {a:EF}{m:Nat}(hm:m<=1000)(p:a σ h=.ok (.int ((m:Int) - 1)) h):br a σ h=.ok ((List.range (m - 1)).map (λk:Nat=>D.int k),none) h:=by
 show Res.bind _ _=_;rw[p];show (if -1000000<=(m:Int) - 1/\(m:Int) - 1<=1000000 then Res.ok ((List.range ((m:Int) - 1).toNat).map (λk:Nat=>D.int k),(none:Option Nat)) h else Res.bad)=_;rw[yD ⟨by omega,by omega⟩,show ((m:Int) - 1).toNat=m - 1 by omega]
theorem wP:∀{m:Nat} {l:List Nat},l.Pairwise (· < ·)->(∀x∈l,x < m)->l.length<=m
 | m,[],_,_=>YG _
 | 0,x :: l,_,h=>absurd (h x (by simp)) (by omega)
 | m + 1,x :: l,p,h=>by
  have c:=List.pairwise_cons.mp p;have:=wP (m:=m) (l:=l.map (· - 1)) (by
   rw[WL];refine c.2.imp_of_mem λ{a b} g f q => ?_;have:=c.1 a g;have:=c.1 b f;omega) (λy e=>by
   obtain⟨z,d,rfl⟩:=List.mem_map.mp e;have:=h z (by simp[d]);have:=c.1 z d;omega)
  simp at this ⊢;omega
theorem Ag (C:Ch w n l):l.length<=n:=wP C.up C.lt
theorem uH (W:w.Ok n)(n30:n<=30)(C:Ch w n l){k:Nat}(c:h[k]? = some (.lst (NL l))):de [w.enc,.ref k] h=.ok (.bl true) h:=by
 have q:bT (some k) (NL l) (gN 0) [] (ar cf (ab (aa 1) (ab (aa 0) ao))) (NL l) [none,some w.enc] h=.ok ((NL l).map λ_=>D.bl true) h:=by
  have:=bK (g:=some k) (all:=NL l) (tg:=gN 0) (cs:=[]) (e:=ar cf (ab (aa 1) (ab (aa 0) ao))) (h:=h) (I:=λσ=>∃a,σ = [a,some w.enc]) (λ_=>true) (λ_=>.bl true) c (xs:=NL l) (σ:=[none,some w.enc]) (by
   rintro x d σ ⟨a,rfl⟩;obtain⟨i,hi,rfl⟩:=List.mem_map.mp d;exact⟨_,rfl,⟨_,rfl⟩,rfl,λ_=>ax (cm rfl rfl) (Bq W (C.lt i hi) (C.no i hi) h)⟩) ⟨_,rfl⟩
  rw[this,List.filter_eq_self.mpr (λ_ _=>rfl)]
 have r:bT none ((List.range (l.length - 1)).map λk:Nat=>D.int k) (gN 0) [] (ag oLt (fAt (aa 1) (aa 0)) (fAt (aa 1) (ag dy (aa 0) (fC (.int 1))))) ((List.range (l.length - 1)).map λk:Nat=>D.int k) [none,some (.ref k)] h=.ok (((List.range (l.length - 1)).map λk:Nat=>D.int k).map λ_=>D.bl true) h:=by
  have:=bK (g:=none) (all:=(List.range (l.length - 1)).map λk:Nat=>D.int k) (tg:=gN 0) (cs:=[]) (e:=ag oLt (fAt (aa 1) (aa 0)) (fAt (aa 1) (ag dy (aa 0) (fC (.int 1))))) (h:=h) (I:=λσ=>∃a,σ = [a,some (.ref k)]) (λ_=>true) (λ_=>.bl true) trivial (xs:=(List.range (l.length - 1)).map λk:Nat=>D.int k) (σ:=[none,some (.ref k)]) (by
   rintro x d σ ⟨a,rfl⟩;obtain⟨i,hi,rfl⟩:=List.mem_map.mp d;have hi:=List.mem_range.mp hi;have h1:i < l.length:=by omega
   have h2:i + 1 < l.length:=by omega
   have m:atI (NL l) (i:Int)=some (.int (l[i] : Nat)):=cX (by rw[ZQ,ZE h1];rfl);have f:atI (NL l) ((i:Int) + 1)=some (.int (l[i + 1] : Nat)):=by
    have:atI (NL l) ((i + 1:Nat):Int)=some (.int (l[i + 1] : Nat)):=cX (by rw[ZQ,ZE h2];rfl);exact this
   have lt:=List.pairwise_iff_getElem.mp C.up i (i + 1) h1 h2 (Z4 _);exact⟨_,rfl,⟨_,rfl⟩,rfl,λ_=>ah (aK rfl rfl (aC c) m) (aK rfl (ah rfl rfl rfl) (aC c) f) (yj (by omega))⟩) ⟨_,rfl⟩
  rw[this,List.filter_eq_self.mpr (λ_ _=>rfl)]
 have s:=Ag C;have p:sIf (eQ (tE (iy .list (aa 1)))) (bj (fC (.bl false))) bA [some w.enc,some (.ref k)] h=.nx [some w.enc,some (.ref k)] h:=(cA (dL (b:=true) (aV (ul rfl c)))).trans rfl;have j:sIf (eQ (tE (vv (bO 1 [0] (eM (aa 1)) (gN 0) [] (ar cf (ab (aa 1) (ab (aa 0) ao))))))) (bj (fC (.bl false))) bA [some w.enc,some (.ref k)] h=.nx [some w.enc,some (.ref k)] h:=(cA (dL (b:=true) (aV ((uo (cv (dv rfl c) q) (DR _)).trans (by rw[J6]))))).trans rfl;have o:ag jv (cj (lOf (aa 1))) (fC (.int 1)) [some w.enc,some (.ref k)] h=.ok (.int ((l.length:Int) - 1)) h:=ah (x:=.int (l.length:Nat)) ((c5 (bL rfl (aC c))).trans (by rw[ZA])) rfl rfl;exact(bI rfl rfl ((c9 p).trans ((c9 j).trans (aX ((uo (cv (FG (by omega) o) r) (DR _)).trans (by rw[J6])))))).trans a4
theorem dk (W:w.Ok n)(S:dM w)(C:Ch w n l):c0 w n (ca w n l):=by
 refine⟨by simp[ca],λx a => ?_,λi x e => ?_⟩
 ·obtain⟨i,_,rfl⟩:=List.mem_map.mp a
  split
  ·exact .inr rfl
  ·exact .inl rfl
 ·have hi:i < n:=by have:=(List.getElem?_eq_some_iff.mp e).1;rwa[W.s]at this
  have g:w.stays.getD i none=some x:=by rw[ZF,e];rfl
  have b:=S (some x) (ZK e);show ((List.range n).map _)[i]? = _;rw[ZQ,List.getElem?_range hi];show some (if i∈l\/w.stays.getD i none=some 1 then (1:Int) else 0)=_;rcases b with z|z|z
  ·cases z
  ·have z:=ZT z
   subst z;rw[x3];rintro (q|q)
   ·exact C.no i q g
   ·rw[g]at q;cases q
  ·have z:=ZT z
   subst z;rw[yD (.inr g)]
theorem DS {l:List D}{x:D}(hx:x∈eD l):∃(i:Nat) (d:D),l[i]? = some d/\x=.tup [.int (i:Nat),d]:=by
 unfold eD at hx;obtain⟨p,c,rfl⟩:=List.mem_map.mp hx;obtain⟨k,a⟩:=List.getElem?_of_mem c;rw[List.getElem?_zip_eq_some]at a;obtain⟨h1,h2⟩:=a;have:p.1=k:=by
  obtain⟨e,b⟩:=List.getElem?_eq_some_iff.mp h1;simpa using b.symm
 exact⟨k,p.2,h2,by rw[this]⟩
theorem DT (ss:List (Option Int))(f:Nat->Option Int->D):(eD (ss.map bp)).map (λd=>match d with | .tup [.int i,_]=>f i.toNat (ss.getD i.toNat none)|_=>.non)=(List.range ss.length).map λi=>f i (ss.getD i none):=by
 unfold eD;rw[Z2];apply YB;intro i
 by_cases hi:i < ss.length
 ·rw[ZQ,ZQ,List.getElem?_range hi]
  have:((List.range (ss.map bp).length).zip (ss.map bp))[i]? = some (i,bp ss[i]):=by
   rw[List.getElem?_zip_eq_some];exact⟨List.getElem?_range (by simpa using hi),by rw[ZQ,ZE hi];rfl⟩
  rw[this];rfl
 ·rw[List.getElem?_eq_none (by simp;omega),List.getElem?_eq_none (by simp;omega)]
theorem DU (W:w.Ok n)(n30:n<=30)(C:Ch w n l){k:Nat}(s:h[k]? = some (.lst (NL l))):lW [w.enc,.ref k] h=.ok (aw (ca w n l)) h:=by
 obtain⟨A,q⟩ : ∃A,A=h.length:=⟨_,rfl⟩;have t:cB [w.enc] h=.ok (.ref A) (h++[.lst (w.stays.map bp)]):=(bI rfl rfl (aX (lQ q (bL (aK rfl rfl rfl rfl) rfl) (by rw[ZA,W.s];exact ZM n30 (by decide))))).trans cZ;obtain⟨h1,g⟩ : ∃h1:Hd,h1=h++[.lst (w.stays.map bp)]:=⟨_,rfl⟩;rw[<-g]at t;have v:h1[A]? = some (.lst (w.stays.map bp)):=by rw[g];exact f7 q _
 have p:h1[k]? = some (.lst (NL l)):=by rw[g];exact aH _ s
 have c:=pS (G:=λH=>H[A]? = some (.lst (w.stays.map bp))) (tg:=gT [0,1]) (cs:=[]) (e:=fIf (tOr (tE (ag oIn (aa 0) (aa 2))) (tE (ag oEq (aa 1) (fC (.int 1))))) (fC (.int 1)) (fC (.int 0))) (h:=h1) (I:=λσ=>∃a b,σ = [a,b,some (.ref k)]) (λ_=>true)
  (λd=>match d with | .tup [.int i,_]=>(λi u=>D.int (if i∈l\/u=some 1 then 1 else 0)) i.toNat (w.stays.getD i.toNat none)|_=>.non) v (xs:=eD (w.stays.map bp)) (σ:=[none,none,some (.ref k)]) (by
   rintro x B σ ⟨a,b,rfl⟩;obtain⟨i,d,hd,rfl⟩:=DS B;have m:i < w.stays.length:=by have:=(List.getElem?_eq_some_iff.mp hd).1;rwa[ZA]at this
   have hd':d=bp (w.stays.getD i none):=by
    rw[ZQ,ZE m]at hd;rw[ZF,ZE m];exact(ZT hd).symm
   subst hd';refine⟨_,rfl,⟨_,_,rfl⟩,rfl,λ_ => ?_⟩;show fIf (tOr (tE (ag oIn (aa 0) (aa 2))) (tE (ag oEq (aa 1) (fC (.int 1))))) (fC (.int 1)) (fC (.int 0)) [some (.int i),some (bp (w.stays.getD i none)),some (.ref k)] h1=.ok (.int (if ((i:Int)).toNat∈l\/w.stays.getD ((i:Int)).toNat none=some 1 then 1 else 0)) h1;rw[X1];have j:tE (ag oIn (aa 0) (aa 2)) [some (.int i),some (bp (w.stays.getD i none)),some (.ref k)] h1=.ok (decide (i∈l)) h1:=aV (ah rfl rfl (Af p i));have o:tE (ag oEq (aa 1) (fC (.int 1))) [some (.int i),some (bp (w.stays.getD i none)),some (.ref k)] h1=.ok (decide (w.stays.getD i none=some 1)) h1:=aV (ah rfl rfl (DQ _ _))
   by_cases c1:i∈l
   ·rw[w8 c1]at j
    rw[yD (.inl c1)];exact(qf (uj j)).trans rfl
   ·rw[ZY c1]at j
    by_cases c2:w.stays.getD i none=some 1
    ·rw[w8 c2]at o
     rw[yD (.inr c2)];exact(qf (jq j o)).trans rfl
    ·rw[ZY c2]at o
     rw[x3 (λz=>z.elim c1 c2)];exact(um (jq j o)).trans rfl) ⟨_,_,rfl⟩
 rw[List.filter_eq_self.mpr (λ_ _=>rfl),DT w.stays (λi u=>D.int (if i∈l\/u=some 1 then 1 else 0)),W.s]at c;have y:jL 2 [1] (ar cB (ab (aa 0) ao)) (gT [0,1]) [] (fIf (tOr (tE (ag oIn (aa 0) (aa 2))) (tE (ag oEq (aa 1) (fC (.int 1))))) (fC (.int 1)) (fC (.int 0))) [some w.enc,some (.ref k)] h=.ok ((ca w n l).map .int) h1:=by
  have f:=ax (F:=cB) (r:=ab (aa 0) ao) (σ:=[some w.enc,some (.ref k)]) (am rfl rfl) t;unfold jL;rw[f];simp only[v];refine c.trans ?_;unfold ca;rw[Z2];rfl
 have E:sIf (eQ (tE (ar de (ab (aa 0) (ab (aa 1) ao))))) li bA [some w.enc,some (.ref k)] h=.nx [some w.enc,some (.ref k)] h:=(cA (dL (b:=true) (aV (ax (cm rfl rfl) (uH W n30 C s))))).trans rfl;refine(bI rfl rfl ((c9 E).trans (aX (f6 y)))).trans ?_;rw[g];exact cJ (by simp only[pure?];exact yQ _)
end
theorem DV {l:List D}{k:Nat}(a:1<=k):cut l (some (-(k:Int))) none=l.drop (l.length - k):=by
 have e:sIx l.length 0 (some (-(k:Int)))=l.length - k:=by
  show (if -(k:Int) < 0 then (-(k:Int) + (l.length:Nat)).toNat else _)=_;rw[yD (by omega)];omega
 unfold cut;rw[e];exact YN (by rw[List.length_drop];exact ZL _)
theorem Br {l:List D}{k:Nat}(a:1<=k):cut l none (some (-(k:Int)))=l.take (l.length - k):=by
 have e:sIx l.length l.length (some (-(k:Int)))=l.length - k:=by
  show (if -(k:Int) < 0 then (-(k:Int) + (l.length:Nat)).toNat else _)=_;rw[yD (by omega)];omega
 unfold cut;rw[e];rfl
variable {n:Nat}
theorem wQ {a:EF}{lo hi:OF}{h1 h2 b:Hd}{i j:Option Int}{l:List D}(p:a σ h=.ok (.ref n) h1)(q:lo σ h1=.ok i h2)(r:hi σ h2=.ok j b)(s:b[n]? = some (.lst l)):iO a lo hi σ h=.ok (.ref b.length) (b++[.lst (cut l i j)]):=by
 simp only[iO,p,aP,q,r,ef,s]
variable {A:Nat}
section
variable {w:Web} {n:Nat} {s:List Int}
theorem qy (t j:Nat):(aL w n s (t + j)).drop t=(List.range j).map λi=>aD w n s (t + i):=by
 unfold aL;apply YB;intro i;rw[List.getElem?_drop,ZQ,ZQ]
 by_cases hi:i < j
 ·rw[List.getElem?_range (by omega),List.getElem?_range hi];rfl
 ·rw[List.getElem?_eq_none (by simp;omega),List.getElem?_eq_none (by simp;omega)];rfl
theorem yR (t j:Nat):(aL w n s (t + j)).take t=aL w n s t:=by
 unfold aL;rw[<-List.map_take,List.take_range,Nat.min_eq_left (XZ t j)]
def NOT:D:=.str [110,111,116]
def TRN:D:=.str [116,117,114,110]
def wR (w:Web) (n:Nat) (s:List Int) (t:Nat):D:=if aD w n s (t + 1)=aD w n s t then (if (0:Int)∈aD w n s (t + 1) then NOT else TRN) else NOT
def DW (w:Web) (n:Nat) (s:List Int) (t:Nat):List (List Int):=if aD w n s (t + 1)=aD w n s t then (if (0:Int)∈aD w n s (t + 1) then [aD w n s (t + 1)] else aL w n s (t + 1)) else [aD w n s t,aD w n s (t + 1)]
theorem Ah (l:List Int)(x:Int)(h:Hd):inL h (.int x) (aw l)=some (decide (x∈l)):=by
 have f:(l.map D.int).all dP=true:=by
  rw[List.all_eq_true];intro x c;obtain⟨j,_,rfl⟩:=List.mem_map.mp c;rfl
 have a:((l.map D.int).any λz=>eqF z (.int x))=decide (x∈l):=by
  by_cases e:x∈l
  ·rw[w8 e,List.any_eq_true]
   exact⟨.int x,List.mem_map.mpr ⟨x,e,rfl⟩,by simp⟩
  ·rw[ZY e,List.any_eq_false]
   intro y b z;obtain⟨j,d,rfl⟩:=List.mem_map.mp b;have z:(j == x)=true:=z;exact e (eq_of_beq z ▸ d)
 simp only[inL,aw,gL,dP,f,Bool.and_self,Uz,a]
theorem IH (l:List Int)(x:Int)(h:Hd):oIn (.int x) (aw l) h=.ok (.bl (decide (x∈l))) h:=by
 unfold oIn;rw[Ah]
theorem sS (l:List Int)(x:Int)(h:Hd):hJ (.int x) (aw l) h=.ok (.bl (!decide (x∈l))) h:=by
 unfold hJ;rw[Ah]
theorem md (W:w.Ok n)(n30:n<=30)(S:dM w)(C:Ch w n l){k:Nat}(I:h[k]? = some (.lst (NL l)))(o:A=h.length){t:Nat}(ht:aD w n (ca w n l) (t + 2)=aD w n (ca w n l) t)(hm:∀k,k < t->aD w n (ca w n l) (k + 2)≠aD w n (ca w n l) k)(hz:t<=900000) :
  b5 [w.enc,.ref k] h=.ok (.tup [wR w n (ca w n l) t,.ref (A + 1)]) (h++[.lst ((aL w n (ca w n l) (t + 2)).map aw),.lst ((DW w n (ca w n l) t).map aw)]):=by
 have F:=dk W S C;obtain⟨s,J⟩ : ∃s,s=ca w n l:=⟨_,rfl⟩;have E:=DU W n30 C I;rw[<-J]at ht hm F E ⊢;have m:=DC W S F ht hm hz h;rw[<-o]at m;obtain⟨b,hw⟩ : ∃b,b=if aD w n s (t + 1)=aD w n s t then [114,101,115,116] else [112,97,105,114]:=⟨_,rfl⟩
 rw[<-hw]at m;obtain⟨h1,c⟩ : ∃h1,h1=h++[bE.lst ((aL w n s (t + 2)).map aw)]:=⟨_,rfl⟩;rw[<-c]at m;have x:h1[A]? = some (.lst ((aL w n s (t + 2)).map aw)):=by rw[c];exact f7 o _
 have y:h1.length=A + 1:=by rw[c,ZB,o];rfl
 have B:((aL w n s (t + 2)).map aw).length=t + 2:=by rw[ZA,gm]
 have X:=[some w.enc,some (.ref k),some (D.tup [.int t,.str b,.ref A]),some (.str b),some (.ref A)];have v:aE (gN 2) (ar kt (ab (aa 0) (ab (ar lW (ab (aa 0) (ab (aa 1) ao))) ao))) [some w.enc,some (.ref k),none,none,none] h=.nx [some w.enc,some (.ref k),some (D.tup [.int t,.str b,.ref A]),none,none] h1:=aA (ax (cm rfl (ax (cm rfl rfl) E)) m);have u:aE (gN 3) (fAt (aa 2) (fC (.int 1))) [some w.enc,some (.ref k),some (D.tup [.int t,.str b,.ref A]),none,none] h1=.nx [some w.enc,some (.ref k),some (D.tup [.int t,.str b,.ref A]),some (.str b),none] h1:=aA (aK rfl rfl rfl rfl);have p:aE (gN 4) (fAt (aa 2) (fC (.int 2))) [some w.enc,some (.ref k),some (D.tup [.int t,.str b,.ref A]),some (.str b),none] h1=.nx [some w.enc,some (.ref k),some (D.tup [.int t,.str b,.ref A]),some (.str b),some (.ref A)] h1:=aA (aK rfl rfl rfl rfl);have M:atI ((aL w n s (t + 2)).map aw) (-1)=some (aw (aD w n s (t + 1))):=eG (t + 1) 1 (by decide);have f:∀(d:D) (L:List D),(h1++[bE.lst L])=h++[.lst ((aL w n s (t + 2)).map aw),.lst L]:=λd L=>by rw[c,ZU];rfl
 have go:∀{d:D} {g:Hd},letGo h (.ok (.tup [d,.ref (A + 1)]) g)=.ok (.tup [d,.ref (A + 1)]) g:=λ{d g}=>iE (by simp[pure?,ev]);have sl:∀{j:Nat} (G:1<=j) (σ:Sd) (e:aa 4 σ h1=.ok (.ref A) h1),iO (aa 4) (pAt (fC (.int (-(j:Int))))) pNo σ h1=.ok (.ref (A + 1)) (h1++[.lst (((aL w n s (t + 2)).map aw).drop (t + 2 - j))]):=λ{j} G σ e=>by
  have:=wQ (a:=aa 4) (lo:=pAt (fC (.int (-(j:Int))))) (hi:=pNo) (σ := σ) e rfl rfl x;rw[DV G,B,y]at this;exact this
 by_cases q:aD w n s (t + 1)=aD w n s t
 ·rw[yD q]at hw
  have H:sIf (tE (ag oEq (aa 3) (fC (.str [112,97,105,114])))) (bj (jw (ab (fC (.str [110,111,116])) (ab (iO (aa 4) (pAt (fC (.int (-2)))) pNo) ao)))) bA [some w.enc,some (.ref k),some (D.tup [.int t,.str b,.ref A]),some (.str b),some (.ref A)] h1=.nx [some w.enc,some (.ref k),some (D.tup [.int t,.str b,.ref A]),some (.str b),some (.ref A)] h1:=by
   rw[hw];exact(cA (aV (ah rfl rfl rfl))).trans rfl
  have i:tE (ag oIn (fC (.int 0)) (fAt (aa 4) (fC (.int (-1))))) [some w.enc,some (.ref k),some (D.tup [.int t,.str b,.ref A]),some (.str b),some (.ref A)] h1=.ok (decide ((0:Int)∈aD w n s (t + 1))) h1:=aV (ah rfl (aK rfl rfl (aC x) M) (IH _ _ _))
  by_cases z:(0:Int)∈aD w n s (t + 1)
  ·rw[w8 z]at i
   have r:=sl (j:=1) (ZL _) [some w.enc,some (.ref k),some (D.tup [.int t,.str b,.ref A]),some (.str b),some (.ref A)] rfl;rw[show t + 2 - 1=t + 1 from rfl,<-List.map_drop,show t + 2=(t + 1) + 1 from rfl,qy]at r;unfold wR DW;rw[yD q,yD z,yD q,yD z];refine(bI rfl rfl ((c9 v).trans ((c9 u).trans ((c9 p).trans ((c9 H).trans (ow ((ib i).trans (aX (ia (cm rfl r)))))))))).trans (go.trans ?_);rw[f .non];rfl
  ·rw[ZY z]at i
   have r:=wQ (a:=aa 4) (lo:=pNo) (hi:=pAt (fC (.int (-((1:Nat):Int))))) (σ:=[some w.enc,some (.ref k),some (D.tup [.int t,.str b,.ref A]),some (.str b),some (.ref A)]) (h:=h1) rfl rfl rfl x;rw[Br (ZL 1),B,y,<-List.map_take,show t + 2 - 1=t + 1 from rfl,show t + 2=(t + 1) + 1 from rfl,yR]at r;unfold wR DW;rw[yD q,x3 z,yD q,x3 z];refine(bI rfl rfl ((c9 v).trans ((c9 u).trans ((c9 p).trans ((c9 H).trans ((c9 ((cA i).trans rfl)).trans (aX (ia (cm rfl r))))))))).trans (go.trans ?_);rw[f .non];rfl
 ·rw[x3 q]at hw
  have K:tE (ag oEq (aa 3) (fC (.str [112,97,105,114]))) [some w.enc,some (.ref k),some (D.tup [.int t,.str b,.ref A]),some (.str b),some (.ref A)] h1=.ok true h1:=by
   rw[hw];exact aV (ah rfl rfl rfl)
  have r:=sl (j:=2) (by decide) [some w.enc,some (.ref k),some (D.tup [.int t,.str b,.ref A]),some (.str b),some (.ref A)] rfl;rw[show t + 2 - 2=t from rfl,<-List.map_drop,qy]at r;unfold wR DW;rw[x3 q,x3 q];refine(bI rfl rfl ((c9 v).trans ((c9 u).trans ((c9 p).trans (ow ((ib K).trans (aX (ia (cm rfl r))))))))).trans (go.trans ?_);rw[f .non];rfl
theorem qz (a b:Nat)(e:aD w n s a=aD w n s b):∀k,aD w n s (a + k)=aD w n s (b + k)
 | 0=>e
 | k + 1=>by
  show b4 w n (aD w n s (a + k))=b4 w n (aD w n s (b + k));rw[qz a b e k]
end
structure px (w:Web) (n:Nat) (s:List Int) (b:Bool):Prop where
 go:∃t,t<=900000/\aD w n s (t + 2)=aD w n s t/\(∀k,k < t->aD w n s (k + 2)≠aD w n s k)/\wR w n s t=if b=true then TRN else NOT
def kyL (l:List Nat):List Int:=l.map λk:Nat=>(k:Int)
theorem fH:∀l:List Nat,cG (NL l)=some (kyL l)
 | []=>rfl
 | x :: l=>by
  show (cG (NL l)).map ((x:Int) :: ·)=_;rw[fH l];rfl
theorem FH {a b:List Nat}(e:kyL a=kyL b):a=b:=by
 have:=congrArg (List.map Int.toNat) e;simpa[kyL,Z2,Function.comp_def] using this
theorem yS {mm:List (List Int × D)}{k a:List Int}{v:D}(h:dG mm k=none):dG (mm++[(k,v)]) a=if a=k then some v else dG mm a:=by
 unfold dG at h ⊢;rw[List.find?_append]
 by_cases c:a=k
 ·subst c
  have:mm.find? (λp=>decide (p.1=a))=none:=Option.map_eq_none_iff.mp h;rw[this];simp
 ·have : ¬k=a:=λz=>c z.symm
  rw[x3 c];simp[this]
theorem Bs {mm:List (List Int × D)}{k:List Int}{v:D}(h:dG mm k=none):pT mm k v=mm++[(k,v)]:=by
 unfold pT;rw[x3];intro z;obtain⟨p,a,e⟩:=List.any_eq_true.mp z;have h2:mm.find? (λp=>decide (p.1=k))=none:=Option.map_eq_none_iff.mp h;exact List.find?_eq_none.mp h2 p a e
theorem sT {k:List Int}{l:List D}{mm:List (List Int × D)}(e:cG l=some k)(p:h[n]? = some (.dcT mm)):lK (.tup l) (.ref n) h=.ok (.bl (!(dG mm k).isSome)) h:=by
 simp only[lK,e,p]
theorem FI {x i e:EF}{h1 h2 a:Hd}{v:D}{l:List D}{k:List Int}{mm:List (List Int × D)}(p:e σ h=.ok v h1)(q:x σ h1=.ok (.ref n) h2)(r:i σ h2=.ok (.tup l) a)(c:cG l=some k)(g:a[n]? = some (.dcT mm))(z:mm.length < SZ):zT x i e σ h=.nx σ (a.set n (.dcT (pT mm k v))):=by
 simp only[zT,outE,p,q,r,c,g,yD z]
theorem Ai {a b:EF}{h1 h2:Hd}{l:List D}{k:List Int}{mm:List (List Int × D)}{v:D}(p:a σ h=.ok (.ref n) h1)(q:b σ h1=.ok (.tup l) h2)(c:cG l=some k)(g:h2[n]? = some (.dcT mm))(z:dG mm k=some v):CN a b σ h=.ok v h2 :=
 ah p q (by simp only[zU,c,g,z])
def Kn (b:Bool) (l:List Nat) (mm mm':List (List Int × D)):Prop:=mm'=mm\/dG mm (kyL l)=none/\mm'=mm++[(kyL l,.bl b)]
theorem yT {w:Web}{b:Bool}(W:w.Ok n)(n30:n<=30)(S:dM w)(C:Ch w n l){k d:Nat}{mm:List (List Int × D)}(m:h[k]? = some (.lst (NL l)))(hd:h[d]? = some (.dcT mm))(hz:mm.length < 1000)(z:(mm.all λp=>pure? p.2)=true)(E:px w n (ca w n l) b)(a:dG mm (kyL l)=none\/dG mm (kyL l)=some (.bl b)) :
  ∃f,dF [w.enc,.ref k,.ref d] h=.ok (.bl b) (h.set d (.dcT f))/\Kn b l mm f:=by
 have j:d < h.length:=(List.getElem?_eq_some_iff.mp hd).1;rcases a with a|a
 ·obtain⟨t,q,A,v,y⟩:=E.go
  have ta:=md W n30 S C m rfl A v q;obtain⟨g,s⟩ : ∃g:Hd,g=[.lst ((aL w n (ca w n l) (t + 2)).map aw),.lst ((DW w n (ca w n l) t).map aw)]:=⟨_,rfl⟩;rw[<-s]at ta;have o:(h++g)[d]? = some (.dcT mm):=aH _ hd;have u:oEq (wR w n (ca w n l) t) (.str [116,117,114,110]) (h++g)=.ok (.bl b) (h++g):=by
   rw[y];cases b<;>rfl
  have x:(h++g).set d (.dcT (mm++[(kyL l,.bl b)]))=h.set d (.dcT (mm++[(kyL l,.bl b)]))++g:=W6 _ _ j;refine⟨mm++[(kyL l,.bl b)],?_,.inr ⟨a,rfl⟩⟩;refine YI (bI (σ:=[some w.enc,some (.ref k),some (.ref d),none]) rfl rfl (sx (aA (f6 (bL rfl (aC m)))) (sx (YI (ib (aV (ah rfl rfl (YI (sT (fH l) hd) (by rw[a];rfl))))) (YI (FI (ah (aK (ax (cm rfl rfl) ta) rfl rfl rfl) rfl u) rfl rfl (fH l) o (Z1 hz (by decide))) (by rw[Bs a,x]))) (aX (Ai rfl rfl (fH l) (aH _ (List.getElem?_set_self j)) (by rw[yS a,yD rfl])))))) ?_;refine A7 rfl (by simp) λi c hi hc => ?_;rw[ZC (by simpa using hi)]at hc
  by_cases e:d=i
  ·subst e
   rw[List.getElem?_set_self j]at hc;cases hc;exact .inr (by simp[pG,z,pure?])
  ·rw[ZP e]at hc
   exact .inl hc
 ·refine⟨mm,?_,.inl rfl⟩
  have r:h.set d (.dcT mm)=h:=by
   apply YB;intro i
   by_cases e:d=i
   ·subst e;rw[List.getElem?_set_self j,hd]
   ·rw[ZP e]
  rw[r];exact YI (bI (σ:=[some w.enc,some (.ref k),some (.ref d),none]) rfl rfl (sx (aA (f6 (bL rfl (aC m)))) (sx (cA (aV (ah rfl rfl (YI (sT (fH l) hd) (by rw[a];rfl))))) (aX (Ai rfl rfl (fH l) hd a))))) a4
abbrev rf (Z:List (Nat × List Nat)):List D:=Z.map λz=>D.ref z.1
abbrev LZ (h:Hd) (Z:List (Nat × List Nat)):Prop:=∀z∈Z,h[z.1]? = some (.lst (NL z.2))
theorem LZ.more {Z:List (Nat × List Nat)}(z:LZ h Z)(g:Hd):LZ (h++g) Z:=λx a=>aH g (z x a)
theorem yU {g:Option Nat}{all:List D}{tg:GF}{e:EF}{x:D}{xs ds:List D}{σ':Sd}{h1 h2:Hd}{d:D}(b:iz g all h)(t:tg x σ = some σ')(a:e σ' h=.ok d h1)(r:bT g all tg [] e xs σ' h1=.ok ds h2):bT g all tg [] e (x :: xs) σ h=.ok (d :: ds) h2:=by
 simp[bT,b,t,gu,a,r]
theorem mf {a b:EF}{h1 h2:Hd}{m:Nat}{l k:List D}(p:a σ h=.ok (.ref n) h1)(q:b σ h1=.ok (.ref m) h2)(c:h2[n]? = some (.lst l))(d:h2[m]? = some (.lst k))(z:l.length + k.length<=SZ):dB a b σ h=.ok (l++k) h2:=by
 simp only[dB,p,aP,q,c,d,yD z]
theorem mh (v:List Nat)(p:Nat):NL v++[.int (p:Nat)] = NL (v++[p]):=by simp
theorem J7 {L p:Nat}{all:List D}:∀{Z:List (Nat × List Nat)} {h:Hd} {a:Option D},h[L]? = some (.lst all)->LZ h Z->(∀z∈Z,z.2.length<=30)->
  ∃d g,bT (some L) all (gN 0) [] (aT (dB (aa 0) (aT (ab (aa 1) ao)))) (rf Z) [a,some (.int (p:Nat))] h=.ok (rf d) (h++g)/\LZ (h++g) d/\d.map (·.2)=(Z.map (·.2)).map (· ++ [p])
 | [],h,a,hL,_,_=>⟨[],[],(by simp[bT,iz,hL]),(λz e=>nomatch e),rfl⟩
 | (b,v) :: Z,h,a,hL,e,hl=>by
  have k:h[b]? = some (.lst (NL v)):=e (b,v) (.head _);have l:v.length<=30:=hl (b,v) (.head _);have j:aT (ab (aa 1) ao) [some (.ref b),some (.int (p:Nat))] h=.ok (.ref h.length) (h++[.lst [.int (p:Nat)]]):=bD (am rfl rfl) (by simp[SZ]);have f:aT (dB (aa 0) (aT (ab (aa 1) ao))) [some (.ref b),some (.int (p:Nat))] h=.ok (.ref (h++[bE.lst [.int (p:Nat)]]).length) (h++[.lst [.int (p:Nat)]]++[.lst (NL (v++[p]))]):=by
   refine YI (bD (mf rfl j (aH _ k) ZG (by simp[SZ];omega)) (by simp[SZ];omega)) ?_;rw[mh]
  obtain⟨d,g,q1,q2,q3⟩:=J7 (p:=p) (all:=all) (Z:=Z) (h:=h++[.lst [.int (p:Nat)]]++[.lst (NL (v++[p]))]) (a:=some (.ref b)) (aH _ (aH _ hL)) (LZ.more (LZ.more (λz c=>e z (.tail _ c)) _) _) (λz c=>hl z (.tail _ c));refine⟨((h++[bE.lst [.int (p:Nat)]]).length,v++[p]) :: d,[.lst [.int (p:Nat)],.lst (NL (v++[p]))]++g,?_,?_,?_⟩
  ·refine YI (yU (σ':=[some (.ref b),some (.int (p:Nat))]) hL rfl f q1) ?_
   simp
  ·have i:h++([.lst [.int (p:Nat)],.lst (NL (v++[p]))]++g)=h++[.lst [.int (p:Nat)]]++[.lst (NL (v++[p]))]++g:=by simp
   rw[i];intro z c;rcases VI.mp c with rfl|c
   ·exact aH _ ZG
   ·exact q2 z c
  ·simp[q3]
def dX (l:List Nat):List (List Nat):=l.foldl (λacc p=>acc++acc.map (· ++ [p])) [[]]
theorem nH (l:List Nat)(p:Nat):dX (l++[p])=dX l++(dX l).map (· ++ [p]):=by simp[dX]
theorem j7 (l:List Nat):∀k,k=l.length->(dX l).length=2 ^ k:=by
 intro k
 induction k generalizing l with
 | zero=>intro h;rw[List.length_eq_zero_iff.mp h.symm];rfl
 | succ k ih =>
  intro h;have:l≠[]:=λz=>by rw[z]at h;cases h
  rw[<-List.dropLast_concat_getLast this,nH,ZB,ZA,ih l.dropLast (by rw[List.length_dropLast];omega),Nat.pow_succ];omega
theorem Aj {h:Hd}:∀{Z:List (Nat × List Nat)},LZ h Z->v7 h (rf Z)=some (Z.map λz=>(z.2.length:Int))
 | [],_=>rfl
 | (b,v) :: Z,hz=>by
  have c:h[b]? = some (.lst (NL v)):=hz (b,v) (.head _);have e:v6 h (.ref b)=some (v.length:Int):=by simp[v6,c]
  show (match v6 h (.ref b),v7 h (rf Z) with|some k,some kz=>some (k :: kz)|_,_=>none)=_;rw[e,Aj λz a=>hz z (.tail _ a)];rfl
theorem FJ (Z:List (Nat × List Nat)):(Ts.byK (·.1) ((Z.map λz=>(z.2.length:Int)).zip (rf Z))).map (·.2)=rf (Ts.byK (λz:Nat × List Nat=>(z.2.length:Int)) Z):=by
 have:(Z.map λz=>(z.2.length:Int)).zip (rf Z)=Z.map λz=>((z.2.length:Int),D.ref z.1):=by
  rw[List.zip_map']
 rw[this,Ts.byK_map (λz:Nat × List Nat=>((z.2.length:Int),D.ref z.1)) (λz=>(z.2.length:Int)) (·.1) (λ_=>rfl),Z2];rfl
def La (f:Nat) (fr:List Nat) (h:Hd) (i:Nat) (σ:Sd) (h':Hd):Prop:=∃L g Z y,σ = [some (.ref f),some (.ref L),y]/\h'=h++g/\h'[L]? = some (.lst (rf Z))/\LZ h' Z/\Z.map (·.2)=dX (fr.take i)/\∀z∈Z,z.2.length<=i
theorem wS {f:Nat}{fr:List Nat}(t:h[f]? = some (.lst (NL fr)))(J:fr.length<=9) :
  ∃g K Z,gD [.ref f] h=.ok (.ref K) (h++g)/\(h++g)[K]? = some (.lst (rf Z))/\LZ (h++g) Z/\Z.map (·.2)=Ts.byK (λv:List Nat=>(v.length:Int)) (dX fr):=by
 obtain⟨_,_,G,L,g,Z,y,rfl,rfl,o,j,e,n⟩:=cy (P:=La f fr h) (g:=some f) (k:=0) (all:=NL fr) (λ_ _ _ p=>by obtain⟨_,_,_,_,_,rfl,_⟩:=p;exact aH _ t) (xs:=NL fr) (tg:=gN 2) (σ:=[some (.ref f),some (.ref (h.length + 1)),none]) (h:=h++[.lst [],.lst [.ref h.length]]) (b:=oz) (by
   rintro i x _ _ q ⟨L,g,Z,y,rfl,rfl,o,j,e,n⟩;have hi:i < fr.length:=by have:=(List.getElem?_eq_some_iff.mp q).1;rwa[ZA]at this
   rw[ZQ,ZE hi]at q;cases q;rw[Z3]at e n ⊢;obtain⟨d,m,q1,q2,q3⟩:=J7 (p:=fr[i]) (a:=none) o j (λz c=>ZM (n z c) (by omega));have E:Z.length<=512:=by
    have:=congrArg List.length e;rw[ZA,j7 _ i (by simp;omega)]at this;rw[this];exact WN (by decide) (show i<=9 by omega)
   have F:d.length=Z.length:=by have:=congrArg List.length q3;simpa using this
   have D:aT (bO 1 [2] (eM (aa 1)) (gN 0) [] (aT (dB (aa 0) (aT (ab (aa 1) ao))))) [some (.ref f),some (.ref L),some (.int (fr[i] : Nat))] (h++g)=.ok (.ref (h++g++m).length) (h++g++m++[.lst (rf d)]):=bD (cv (dv rfl o) q1) (by simp[SZ];omega);have A:aT (dB (aa 1) (aT (bO 1 [2] (eM (aa 1)) (gN 0) [] (aT (dB (aa 0) (aT (ab (aa 1) ao))))))) [some (.ref f),some (.ref L),some (.int (fr[i] : Nat))] (h++g)=.ok (.ref (h++g++m++[bE.lst (rf d)]).length) (h++g++m++[.lst (rf d)]++[.lst (rf Z++rf d)]):=bD (mf rfl D (aH _ (aH _ o)) ZG (by simp[SZ];omega)) (by simp[SZ];omega);refine⟨_,rfl,_,_,aA A,?_⟩;have C:h++g++m++[.lst (rf d)]++[.lst (rf Z++rf d)] = h++(g++(m++([.lst (rf d)]++[.lst (rf Z++rf d)]))):=by simp
   have s:(h++g++m++[.lst (rf d)]++[.lst (rf Z++rf d)])[(h++g++m++[bE.lst (rf d)]).length]? = some (.lst (rf (Z++d))):=by rw[ZG,show rf (Z++d)=rf Z++rf d from ZR]
   have u:LZ (h++g++m++[.lst (rf d)]++[.lst (rf Z++rf d)]) (Z++d):=λz c=>by
    rcases List.mem_append.mp c with c|c
    ·exact aH _ (aH _ (aH _ (j z c)))
    ·exact aH _ (aH _ (q2 z c))
   rw[C]at s u ⊢;refine⟨_,_,Z++d,_,rfl,rfl,s,u,?_,λz c => ?_⟩
   ·rw[ZR,q3,e,Y0 hi,nH]
   ·rcases List.mem_append.mp c with c|c
    ·exact WK (n z c)
    ·have:z.2∈d.map (·.2):=List.mem_map.mpr ⟨z,c,rfl⟩
     rw[q3,Z2]at this;obtain⟨w,h0,I⟩:=List.mem_map.mp this;have:=n w h0;rw[<-I];simp;omega) ⟨_,_,[(h.length,[])],_,rfl,rfl,by simp,λz j=>by
    rw[YL.mp j];simp,rfl,λz j=>by rw[YL.mp j];exact ZL _⟩
 rw[Z3,ZA,WA]at e;have E:Z.length<=512:=by
  have:=congrArg List.length e;rw[ZA,j7 _ _ rfl]at this;rw[this];exact WN (by decide) J
 have H:jN (aa 1) [some (.ref f),some (.ref L),y] (h++g)=.ok (rf (Ts.byK (λz:Nat × List Nat=>(z.2.length:Int)) Z)) (h++g):=by
  unfold jN;have B:ef (h++g) (.ref L)=some (rf Z):=by simp[ef,o]
  show (match ef (h++g) (.ref L) with|some l=>_|none=>_)=_;rw[B];simp only[Aj j];rw[yD (by simp;omega),FJ]
 have r:=Ts.byK_perm (λz:Nat × List Nat=>(z.2.length:Int)) Z;refine⟨g++[.lst (rf (Ts.byK (λz:Nat × List Nat=>(z.2.length:Int)) Z))],(h++g).length,Ts.byK (λz:Nat × List Nat=>(z.2.length:Int)) Z,?_,?_,?_,?_⟩
 ·have b:aT (ab (aT ao) ao) [some (.ref f),none,none] h=.ok (.ref (h.length + 1)) (h++[.lst [],.lst [.ref h.length]]):=by
   refine YI (bD (am (bD rfl (by decide)) rfl) (by simp[SZ])) ?_;simp
  refine YI (bI (σ:=[some (.ref f),none,none]) rfl rfl (sx (aA b) (sx (ee (dv rfl (aH _ t)) G) (aX (bD H (by rw[ZA,r.length_eq];simp[SZ];omega)))))) (cZ.trans ?_);rw[ZU]
 ·rw[<-ZU];exact ZG
 ·rw[<-ZU]
  exact LZ.more (λz c=>j z (r.mem_iff.mp c)) _
 ·rw[<-e,Ts.byK_map (λz:Nat × List Nat=>z.2) (λz=>(z.2.length:Int)) (λv:List Nat=>(v.length:Int)) (λ_=>rfl)]
theorem J8 {t:TF}{a b:SF}{h':Hd}(e:t σ h=.ok true h'):sIf t a b σ h=a σ h':=by simp[sIf,e]
theorem FK {t:TF}{a b:SF}{h':Hd}(e:t σ h=.ok false h'):sIf t a b σ h=b σ h':=by simp[sIf,e]
theorem yc1 (ns:List Int)(k:Nat)(e:k < ns.length)(h:Hd):bi [.lit (ns.map .int),.int k] h=.ok (.int ns[k]) h:=by
 have a:=gU (f:=D.int) e;simp[bi,bJ,runB,e,a]
theorem Bt {x y:Int}(e:(sml x || sml y)=true)(h:Hd):bU (.int x) (.int y) h=.ok (.int (x * y)) h:=by
 simp only[bU,oIc,e,Uz]
theorem yc2 (ns:List Int)(K:Int)(e : ¬K < (ns.length:Int))(f:sml K=true)(h:Hd):bi [.lit (ns.map .int),.int K] h=.ok (.int (71 * K * K + 7 * K)) h:=by
 have i:∀h,bU (.int 71) (.int K) h=.ok (.int (71 * K)) h:=λh=>Bt (by rw[f,W9]) h;have d:∀h,bU (.int (71 * K)) (.int K) h=.ok (.int (71 * K * K)) h:=λh=>Bt (by rw[f,W9]) h;have g:∀h,bU (.int 7) (.int K) h=.ok (.int (7 * K)) h:=λh=>Bt (by rw[f,W9]) h;generalize 71 * K=a at i d ⊢;generalize a * K=b at d ⊢;generalize 7 * K=c at g ⊢;simp[-bU,bi,bJ,runB,e,i,d,g]
theorem wT (ns:List Int)(k:Nat)(a:k<=63):∃v,∀h,bi [.lit (ns.map .int),.int k] h=.ok (.int v) h:=by
 by_cases e:k < ns.length
 ·exact⟨_,yc1 ns k e⟩
 ·exact⟨_,yc2 ns k (by omega) (o8 (by omega) (by omega))⟩
theorem II (c way base:Int)(m:Nat)(hm:m<=1000)(p:0 < base)(b1:base < 2 ^ 250)(h:Hd):∃l:List Int,c8 [.int c,.int way,.int m,.int base] h=.ok (.ref h.length) (h++[.lst (l.map .int)])/\l.length=m/\∀x∈l,0<=x/\x < base:=by
 obtain⟨A,s⟩ : ∃A,A=h.length:=⟨_,rfl⟩;obtain⟨d,n⟩ : ∃d:Int,d=if way % 2=1 then c % 2147483629 * 48271 % 2147483647 else c:=⟨_,rfl⟩
 have O:way % 2=1->0<=d/\d < 4611686018427387904:=λe=>by
  rw[n,yD e];exact⟨VM _ (by decide),Int.lt_trans (W0 _ (by decide)) (by decide)⟩
 obtain⟨N,J,H,l,z,y,Q,Y,I,S,k6⟩:=cy (P:=λi σ J=>∃(l:List Int) (z:Int) (y:Option D),σ = [some (.int c),some (.int way),some (.int m),some (.int base),some (.ref A),some (.int z),y]/\J=h++[.lst (l.map .int)]/\l.length=i/\(∀x∈l,0<=x/\x < base)/\(way % 2=1->0<=z/\z < 4611686018427387904)) (g:=none) (k:=0)
   (all:=(List.range m).map λk:Nat=>D.int k) (λ_ _ _ _=>trivial)
   (xs:=(List.range m).map λk:Nat=>D.int k) (tg:=gN 6) (σ:=[some (.int c),some (.int way),some (.int m),some (.int base),some (.ref A),some (.int d),none]) (h:=h++[.lst []]) (b:=qk) (by
   rintro i x σ h0 a ⟨l,z,y,rfl,r,t,E,U⟩;obtain⟨hi,rfl⟩:=dh a;rw[Z3]at t ⊢;have u:h0[A]? = some (.lst (l.map .int)):=by rw[r];exact f7 s _
   have F:(l.map D.int).length < SZ:=by rw[ZA,t];exact Z1 hi (ZS hm (by decide))
   have st:∀v:Int,h0.set A (.lst (l.map .int++[.int v]))=h++[.lst ((l++[v]).map .int)]:=λv=>by rw[r,kj s,ZR];rfl
   have G:∀q:Int,(0<=q % base/\q % base < base):=λq=>⟨VM q (Int.ne_of_gt p),W0 q p⟩
   by_cases e:way % 2=1
   ·have o:=U e
    have sz:sml z=true:=o8 o.1 o.2;have M:sml 69621=true:=by decide
    have w:sml 11=true:=by decide
    obtain⟨f,j⟩ : ∃f,f=(z * z + 69621 * z + 11 * i + 5) % 2147483549:=⟨_,rfl⟩;have X:0<=f:=by rw[j];exact VM _ (by decide)
    have c2:f < 2147483549:=by rw[j];exact W0 _ (by decide)
    refine⟨_,rfl,[some (.int c),some (.int way),some (.int m),some (.int base),some (.ref A),some (.int f),some (.int i)],_,?_,l++[f / 7 % base],f,_,rfl,rfl,by simp[t],λx a => ?_,λ_=>⟨X,Int.lt_trans c2 (by decide)⟩⟩
    ·rw[<-st]
     have K:aE (gN 5) (ag cz (ag dy (ag dy (ag dy (ag bU (aa 5) (aa 5)) (ag bU (fC (.int 69621)) (aa 5))) (ag bU (fC (.int 11)) (aa 6))) (fC (.int 5))) (fC (.int 2147483549))) [some (.int c),some (.int way),some (.int m),some (.int base),some (.ref A),some (.int z),some (.int i)] h0=.nx [some (.int c),some (.int way),some (.int m),some (.int base),some (.ref A),some (.int f),some (.int i)] h0:=by
      rw[j];exact aA (ah (ah (ah (ah (ah rfl rfl (lP sz)) (ah rfl rfl (lP M)) rfl) (ah rfl rfl (lP w)) rfl) rfl rfl) rfl (c6 (by decide)))
     have C:tE (ag oEq (ag cz (aa 1) (fC (.int 2))) (fC (.int 1))) [some (.int c),some (.int way),some (.int m),some (.int base),some (.ref A),some (.int z),some (.int i)] h0=.ok true h0:=aV (ah (ah rfl rfl (c6 (by decide))) rfl (uk e));show sIf _ _ _ [some (.int c),some (.int way),some (.int m),some (.int base),some (.ref A),some (.int z),some (.int i)] h0=_;rw[J8 C,bm K];exact iW (jQ rfl u (ah (ah rfl rfl (iY (by decide) (by decide))) rfl (c6 p)) u F)
    ·rcases List.mem_append.mp a with a|a
     ·exact E x a
     ·simp at a;subst a;exact G _
   ·refine⟨_,rfl,[some (.int c),some (.int way),some (.int m),some (.int base),some (.ref A),some (.int (z / base)),some (.int i)],_,?_,l++[z % base],z / base,_,rfl,rfl,by simp[t],λx a => ?_,λq=>absurd q e⟩
    ·rw[<-st]
     have C:tE (ag oEq (ag cz (aa 1) (fC (.int 2))) (fC (.int 1))) [some (.int c),some (.int way),some (.int m),some (.int base),some (.ref A),some (.int z),some (.int i)] h0=.ok false h0:=aV (ah (ah rfl rfl (c6 (by decide))) rfl (mW e));show sIf _ _ _ [some (.int c),some (.int way),some (.int m),some (.int base),some (.ref A),some (.int z),some (.int i)] h0=_;rw[FK C];exact(bm (iW (jQ rfl u (ah rfl rfl (c6 p)) u F))).trans (aA (ah rfl rfl (iY p b1)))
    ·rcases List.mem_append.mp a with a|a
     ·exact E x a
     ·simp at a;subst a;exact G _) ⟨[],d,none,rfl,rfl,rfl,by simp,O⟩
 have T:0 + ((List.range m).map λk:Nat=>D.int k).length=m:=by simp
 rw[T]at I;refine⟨l,?_,I,S⟩;have V:aE (gN 4) (aT ao) [some (.int c),some (.int way),some (.int m),some (.int base),none,none,none] h=.nx [some (.int c),some (.int way),some (.int m),some (.int base),some (.ref A),none,none] (h++[.lst []]):=aA (lQ s rfl (YG _));have R:aE (gN 5) (aa 0) [some (.int c),some (.int way),some (.int m),some (.int base),some (.ref A),none,none] (h++[.lst []])=.nx [some (.int c),some (.int way),some (.int m),some (.int base),some (.ref A),some (.int c),none] (h++[.lst []]):=rfl;have L:sIf (tE (ag oEq (ag cz (aa 1) (fC (.int 2))) (fC (.int 1)))) (aE (gN 5) (ag cz (ag bU (ag cz (aa 0) (fC (.int 2147483629))) (fC (.int 48271))) (fC (.int 2147483647)))) bA [some (.int c),some (.int way),some (.int m),some (.int base),some (.ref A),some (.int c),none] (h++[.lst []])=.nx [some (.int c),some (.int way),some (.int m),some (.int base),some (.ref A),some (.int d),none] (h++[.lst []]):=by
  have B:sml 48271=true:=by decide
  rw[n]
  by_cases e:way % 2=1
  ·rw[yD e];exact(ib (aV (ah (ah rfl rfl (c6 (by decide))) rfl (uk e)))).trans (aA (ah (ah (ah rfl rfl (c6 (by decide))) rfl (Fp B)) rfl (c6 (by decide))))
  ·rw[x3 e];exact cA (aV (ah (ah rfl rfl (c6 (by decide))) rfl (mW e)))
 have W:eu (br (aa 2)) (gN 6) qk [some (.int c),some (.int way),some (.int m),some (.int base),some (.ref A),some (.int d),none] (h++[.lst []])=.nx [some (.int c),some (.int way),some (.int m),some (.int base),some (.ref A),some (.int z),y] (h++[.lst (l.map .int)]):=by
  rw[Q,Y]at H;exact ee (bY rfl hm) H
 have Z:bj (aa 4) [some (.int c),some (.int way),some (.int m),some (.int base),some (.ref A),some (.int z),y] (h++[.lst (l.map .int)])=.rt (.ref A) (h++[.lst (l.map .int)]):=aX rfl;have st:([D.int c,D.int way,D.int m,D.int base].map some++List.replicate (7 - [D.int c,D.int way,D.int m,D.int base].length) none:Sd)=[some (.int c),some (.int way),some (.int m),some (.int base),none,none,none]:=rfl;unfold c8 bJ runB;rw[yD (by rfl),st,bm V,bm R,bm L,bm W,Z,<-s];exact cZ
def fI (M:Nat->Nat->Int) (n i:Nat):List Int:=(List.range n).map (M i)
def nJ (M:Nat->Nat->Int) (a b:Nat) (v:Int):Nat->Nat->Int:=λi j=>if i=a/\j=b then v else M i j
structure gF (A n:Nat) (M:Nat->Nat->Int) (h:Hd):Prop where
 ro:∀i,i < n->h[A + i]? = some (.lst ((fI M n i).map .int))
 ti:h[A + n]? = some (.lst ((List.range n).map λi=>.ref (A + i)))
structure MOk (M:Nat->Nat->Int):Prop where
 sym:∀i j,M i j=M j i
 bd:∀i j,0<=M i j/\M i j<=400
 no:∀i,M i i=0
theorem DX (M:Nat->Nat->Int)(n a b:Nat)(v:Int)(i:Nat):fI (nJ M a b v) n i=if i=a then (fI M n a).set b v else fI M n i:=by
 by_cases e:i=a
 ·subst e
  rw[yD rfl];apply YB;intro j
  by_cases hj:j < n
  ·by_cases ej:j=b
   ·subst ej
    rw[List.getElem?_set_self (by simp[fI,hj])];simp[fI,nJ,hj]
   ·rw[ZP (by omega)]
    simp[fI,nJ,hj,ej]
  ·rw[List.getElem?_eq_none (by simp[fI];omega),List.getElem?_eq_none (by simp[fI];omega)]
 ·rw[x3 e]
  apply YX;intro j _;simp[nJ,e]
theorem gF.put {M:Nat->Nat->Int}(m:gF A n M h){a b:Nat}(ha:a < n)(v:Int):gF A n (nJ M a b v) (h.set (A + a) (.lst (((fI M n a).map .int).set b (.int v)))) where
 ro:=λi hi=>by
  rw[DX]
  by_cases e:i=a
  ·subst e
   rw[yD rfl,List.getElem?_set_self (List.getElem?_eq_some_iff.mp (m.ro i hi)).1,List.map_set]
  ·rw[x3 e,ZP (λz=>e (WT z).symm)];exact m.ro i hi
 ti:=by rw[ZP (λz=>ZN ha (WT z))];exact m.ti
theorem gF.more {M:Nat->Nat->Int}(m:gF A n M h)(g:Hd):gF A n M (h++g):=by
 have k:∀{i:Nat} {x:bE},h[i]? = some x->(h++g)[i]? = some x:=λ{i x} e=>by
  rw[ZC (List.getElem?_eq_some_iff.mp e).1];exact e
 exact⟨λi hi=>k (m.ro i hi),k m.ti⟩
theorem gF.set {M:Nat->Nat->Int}(m:gF A n M h){k:Nat}(a:A + n < k)(c:bE):gF A n M (h.set k c) :=
 ⟨λi hi=>by rw[ZP (by omega)];exact m.ro i hi,by rw[ZP (by omega)];exact m.ti⟩
theorem MOk.put {M:Nat->Nat->Int}(o:MOk M){a b:Nat}(ne:a≠b){v:Int}(h0:0<=v)(h1:v<=400):MOk (nJ (nJ M a b v) b a v) where
 sym:=λi j=>by
  simp only[nJ]
  by_cases q:i=b/\j=a
  ·rw[yD q]
   by_cases r:j=b/\i=a
   ·rw[yD r]
   ·rw[x3 r,yD ⟨q.2,q.1⟩]
  ·rw[x3 q]
   by_cases p:i=a/\j=b
   ·rw[yD p,yD ⟨p.2,p.1⟩]
   ·rw[x3 p,x3 λz=>p ⟨z.2,z.1⟩,x3 λz=>q ⟨z.2,z.1⟩];exact o.sym i j
 bd:=λi j=>by
  simp only[nJ];split
  ·exact⟨h0,h1⟩
  ·split
   ·exact⟨h0,h1⟩
   ·exact o.bd i j
 no:=λi=>by
  simp only[nJ];rw[x3 λz=>ne (z.2.symm.trans z.1),x3 λz=>ne (z.1.symm.trans z.2)];exact o.no i
theorem Lb {t:Int}(h:0<=t/\t < 803):0<=(if t - 402 > 0 then t - 402 else 0)/\(if t - 402 > 0 then t - 402 else 0)<=400:=by split<;>omega
theorem DY {M:Nat->Nat->Int}{i j:Nat}(hj:j < n):atI ((fI M n i).map D.int) (j:Int)=some (.int (M i j)):=by
 rw[gU (by simp[fI,hj])];simp[fI]
theorem Ak {i:Nat}(hi:i < n):atI ((List.range n).map λi=>D.ref (A + i)) (i:Int)=some (.ref (A + i)):=by
 refine cX ?_;simp[hi]
variable {b c:Option D}
theorem Gv {x1 a d:Option D}{r:Sd}{N O:Int}(e:(sml O || sml N)=true)(h:Hd):ag bU (aa 6) (aa 3) (b :: x1 :: a :: some (.int N) :: d :: c :: some (.int O) :: r) h=.ok (.int (O * N)) h:=by
 rw[show ag bU (aa 6) (aa 3) (b :: x1 :: a :: some (.int N) :: d :: c :: some (.int O) :: r) h=bU (.int O) (.int N) h from rfl];exact Bt e h
variable {way:Int}
theorem q1 {tk one i:Nat}{S0 p1:D}{t q:Int}{td:List D}{h0:Hd}{E:EF}(e:E [some S0,some p1,some (.int way),some (.int n),c,some (.ref tk),some (.int one),some (.int i),b,none,none,none] h0=.ok (.int q) h0)(d:h0[tk]? = some (.lst td))(a:atI td (q + i)=some (.int t)):aE (gN 8) (xL (fC (.int 0)) (ag jv (fAt (aa 5) (ag dy E (aa 7))) (fC (.int 402)))) [some S0,some p1,some (.int way),some (.int n),c,some (.ref tk),some (.int one),some (.int i),b,none,none,none] h0=.nx [some S0,some p1,some (.int way),some (.int n),c,some (.ref tk),some (.int one),some (.int i),some (.int (if t - 402 > 0 then t - 402 else 0)),none,none,none] h0:=by
 exact aA (Iy rfl (ah (aK rfl (ah e rfl rfl) (aC d) a) rfl rfl))
theorem q2 {tk one i:Nat}{S0 p1:D}{t y q v0:Int}{td:List D}{h0:Hd}{E:EF}(f:E [some S0,some p1,some (.int way),some (.int n),c,some (.ref tk),some (.int one),some (.int i),some (.int v0),none,none,none] h0=.ok (.int q) h0)(b:h0[tk]? = some (.lst td))(a:atI td (q + i)=some (.int t))(e:way / 64 % 2=1)(d:atI [D.int 0,.int 0,.int 1,.int 1,.int 2,.int 3,.int 1] (t % 7)=some (.int y)):sIf (tE (ag oEq (ag cz (ag g8 (aa 2) (fC (.int 64))) (fC (.int 2))) (fC (.int 1)))) (aE (gN 8) (fIx (ab (fC (.int 0)) (ab (fC (.int 0)) (ab (fC (.int 1)) (ab (fC (.int 1)) (ab (fC (.int 2)) (ab (fC (.int 3)) (ab (fC (.int 1)) ao))))))) (ag cz (fAt (aa 5) (ag dy E (aa 7))) (fC (.int 7))))) bA [some S0,some p1,some (.int way),some (.int n),c,some (.ref tk),some (.int one),some (.int i),some (.int v0),none,none,none] h0=.nx [some S0,some p1,some (.int way),some (.int n),c,some (.ref tk),some (.int one),some (.int i),some (.int y),none,none,none] h0:=by
 exact(ib (aV (ah (ah (ah rfl rfl (iY (by decide) (by decide))) rfl (c6 (by decide))) rfl (uk e)))).trans (aA (wu (am rfl (am rfl (am rfl (am rfl (am rfl (cm rfl rfl)))))) (ah (aK rfl (ah f rfl rfl) (aC b) a) rfl (c6 (by decide))) d))
theorem q3 {tk one i:Nat}{S0 p1:D}{v0:Int}{h0:Hd}{B:SF}(e : ¬way / 64 % 2=1):sIf (tE (ag oEq (ag cz (ag g8 (aa 2) (fC (.int 64))) (fC (.int 2))) (fC (.int 1)))) B bA [some S0,some p1,some (.int way),some (.int n),c,some (.ref tk),some (.int one),some (.int i),some (.int v0),none,none,none] h0=.nx [some S0,some p1,some (.int way),some (.int n),c,some (.ref tk),some (.int one),some (.int i),some (.int v0),none,none,none] h0:=by
 exact cA (aV (ah (ah (ah rfl rfl (iY (by decide) (by decide))) rfl (c6 (by decide))) rfl (mW e)))
theorem FM {one tk:Nat}{td:List Int}(h1:one < n)(hn:n<=30)(tl:td.length=n * n)(tb:∀x∈td,0<=x/\x < 803)(G:A + n < tk){M:Nat->Nat->Int}(O:MOk M)(m:gF A n M h)(ht:h[tk]? = some (.lst (td.map .int))){S0 p1:D}{a:Option D}{L:Nat}(hL:h.length=L) :
  ∃l d C s,eO none ((List.range one).map λk:Nat=>D.int k) (gN 7) kR ((List.range one).map λk:Nat=>D.int k) [some S0,some p1,some (.int way),some (.int n),some (.ref (A + n)),some (.ref tk),some (.int one),a,b,none,none,none] h
   = .nx [some S0,some p1,some (.int way),some (.int n),some (.ref (A + n)),some (.ref tk),some (.int one),C,s,none,none,none] d/\MOk l/\gF A n l d/\d[tk]? = some (.lst (td.map .int))/\d.length=L:=by
 obtain⟨T,d,U,l,C,s,V,k3,k4,Y,k6⟩:=cy (P:=λi σ d=>∃(l:Nat->Nat->Int) (a b:Option D),σ = [some S0,some p1,some (.int way),some (.int n),some (.ref (A + n)),some (.ref tk),some (.int one),a,b,none,none,none]/\MOk l/\gF A n l d/\d[tk]? = some (.lst (td.map .int))/\d.length=L) (g:=none) (k:=0)
   (all:=(List.range one).map λk:Nat=>D.int k) (λ_ _ _ _=>trivial)
   (xs:=(List.range one).map λk:Nat=>D.int k) (tg:=gN 7) (σ:=[some S0,some p1,some (.int way),some (.int n),some (.ref (A + n)),some (.ref tk),some (.int one),a,b,none,none,none]) (h:=h) (b:=kR) (by
   rintro i x σ h0 Z ⟨M1,a,b,rfl,O1,B,r,Q⟩;obtain⟨hi,rfl⟩:=dh Z;have c:i < n:=Z1 hi h1;have lt:one * n + i < td.length:=by
    rw[tl];exact ZZ (Nat.add_lt_add_left c _) (by rw[<-Nat.succ_mul];exact Nat.mul_le_mul_right n h1)
   have j:atI (td.map D.int) ((one:Int) * n + i)=some (.int td[one * n + i]):=by
    have:=gU (f:=D.int) lt;rw[show (one:Int) * n + i=((one * n + i:Nat):Int) by rw[Int.natCast_add,Int.natCast_mul]];exact this
   have q:=tb _ (YE lt);generalize td[one * n + i] = t at j q;have N:sml (n:Int)=true:=o8 (XD n) (Int.lt_of_le_of_lt (Int.ofNat_le.mpr hn) (by decide));obtain⟨o,p⟩ : ∃o:Int,o=if t - 402 > 0 then t - 402 else 0:=⟨_,rfl⟩
   have w:0<=o/\o<=400:=by rw[p];exact Lb q
   have s1:aE (gN 8) (xL (fC (.int 0)) (ag jv (fAt (aa 5) (ag dy (ag bU (aa 6) (aa 3)) (aa 7))) (fC (.int 402)))) [some S0,some p1,some (.int way),some (.int n),some (.ref (A + n)),some (.ref tk),some (.int one),some (.int i),b,none,none,none] h0=.nx [some S0,some p1,some (.int way),some (.int n),some (.ref (A + n)),some (.ref tk),some (.int one),some (.int i),some (.int o),none,none,none] h0:=by
    rw[p];exact q1 (E:=ag bU (aa 6) (aa 3)) (Gv (by rw[N,W9]) h0) r j
   obtain⟨v,J,W⟩ : ∃v:Int,(0<=v/\v<=400)/\sIf (tE (ag oEq (ag cz (ag g8 (aa 2) (fC (.int 64))) (fC (.int 2))) (fC (.int 1)))) (aE (gN 8) (fIx (ab (fC (.int 0)) (ab (fC (.int 0)) (ab (fC (.int 1)) (ab (fC (.int 1)) (ab (fC (.int 2)) (ab (fC (.int 3)) (ab (fC (.int 1)) ao))))))) (ag cz (fAt (aa 5) (ag dy (ag bU (aa 6) (aa 3)) (aa 7))) (fC (.int 7))))) bA [some S0,some p1,some (.int way),some (.int n),some (.ref (A + n)),some (.ref tk),some (.int one),some (.int i),some (.int o),none,none,none] h0=.nx [some S0,some p1,some (.int way),some (.int n),some (.ref (A + n)),some (.ref tk),some (.int one),some (.int i),some (.int v),none,none,none] h0:=by
    by_cases e:way / 64 % 2=1
    ·obtain⟨y,K,H⟩:=J1 D.int [0,0,1,1,2,3,1] (x:=t % 7) (VM t (by decide)) (W0 t (by decide))
     simp only[x8,VW]at H;refine⟨y,by simp at K;rcases K with rfl|rfl|rfl|rfl|rfl<;>decide,?_⟩;exact q2 (E:=ag bU (aa 6) (aa 3)) (Gv (by rw[N,W9]) h0) r j e H
    ·refine⟨o,w,?_⟩
     exact q3 e
   have I:∀(M:Nat->Nat->Int) (i:Nat),(fI M n i).length=n:=λM i=>by simp[fI]
   have ne:one≠i:=Z6 hi;have u:=B.put (b:=i) h1 v;have m3:=u.put (b:=one) c v;have z:=B.ro one h1;have F:=u.ro i c;have X:=Ak (A:=A) h1;have S:=Ak (A:=A) c;have R:lm (fAt (aa 4) (aa 6)) (aa 7) (aa 8) [some S0,some p1,some (.int way),some (.int n),some (.ref (A + n)),some (.ref tk),some (.int one),some (.int i),some (.int v),none,none,none] h0=.nx [some S0,some p1,some (.int way),some (.int n),some (.ref (A + n)),some (.ref tk),some (.int one),some (.int i),some (.int v),none,none,none] (h0.set (A + one) (.lst (((fI M1 n one).map .int).set i (.int v)))):=by
    exact qe rfl (aK rfl rfl (aC B.ti) X) rfl z (pf (by rw[ZA,I];exact c))
   have s4:lm (fAt (aa 4) (aa 7)) (aa 6) (aa 8) [some S0,some p1,some (.int way),some (.int n),some (.ref (A + n)),some (.ref tk),some (.int one),some (.int i),some (.int v),none,none,none] (h0.set (A + one) (.lst (((fI M1 n one).map .int).set i (.int v))))=.nx [some S0,some p1,some (.int way),some (.int n),some (.ref (A + n)),some (.ref tk),some (.int one),some (.int i),some (.int v),none,none,none] ((h0.set (A + one) (.lst (((fI M1 n one).map .int).set i (.int v)))).set (A + i) (.lst (((fI (nJ M1 one i v) n i).map .int).set one (.int v)))):=by
    exact qe rfl (aK rfl rfl (aC u.ti) S) rfl F (pf (by rw[ZA,I];exact h1))
   refine⟨_,rfl,[some S0,some p1,some (.int way),some (.int n),some (.ref (A + n)),some (.ref tk),some (.int one),some (.int i),some (.int v),none,none,none],_,?_,nJ (nJ M1 one i v) i one v,_,_,rfl,O1.put ne J.1 J.2,m3,?_,by simp[Q]⟩
   ·show ay _ _ [some S0,some p1,some (.int way),some (.int n),some (.ref (A + n)),some (.ref tk),some (.int one),some (.int i),b,none,none,none] h0=_
    rw[bm s1,bm W,bm R,s4]
   ·exact(ZP (ZN (Z1 (Nat.add_lt_add_left c A) G))).trans ((ZP (ZN (Z1 (Nat.add_lt_add_left h1 A) G))).trans r)) ⟨M,a,b,rfl,O,m,ht,hL⟩
 exact⟨l,d,C,s,by rw[U,V],k3,k4,Y,k6⟩
theorem FN {tk:Nat}{td:List Int}(hn:n<=30)(tl:td.length=n * n)(tb:∀x∈td,0<=x/\x < 803)(f:A + n < tk){M:Nat->Nat->Int}(O:MOk M)(m:gF A n M h)(ht:h[tk]? = some (.lst (td.map .int))){S0 p1:D}{L:Nat}(C:h.length=L) :
  ∃e d c a b,eO none ((List.range n).map λk:Nat=>D.int k) (gN 6) i4 ((List.range n).map λk:Nat=>D.int k) [some S0,some p1,some (.int way),some (.int n),some (.ref (A + n)),some (.ref tk),none,none,none,none,none,none] h
   = .nx [some S0,some p1,some (.int way),some (.int n),some (.ref (A + n)),some (.ref tk),c,a,b,none,none,none] d/\MOk e/\gF A n e d/\d.length=L:=by
 obtain⟨t,d,v,e,u,E,l,w,H,F,K,G⟩:=cy (P:=λi σ d=>∃(e:Nat->Nat->Int) (c a b:Option D),σ = [some S0,some p1,some (.int way),some (.int n),some (.ref (A + n)),some (.ref tk),c,a,b,none,none,none]/\MOk e/\gF A n e d/\d[tk]? = some (.lst (td.map .int))/\d.length=L) (g:=none) (k:=0)
   (all:=(List.range n).map λk:Nat=>D.int k) (λ_ _ _ _=>trivial)
   (xs:=(List.range n).map λk:Nat=>D.int k) (tg:=gN 6) (σ:=[some S0,some p1,some (.int way),some (.int n),some (.ref (A + n)),some (.ref tk),none,none,none,none,none,none]) (h:=h) (b:=i4) (by
   rintro i x σ h0 B ⟨M1,c,a,b,rfl,I,y,j,p⟩;obtain⟨hi,rfl⟩:=dh B;obtain⟨M2,h2,s,z,q,O2,r,J,o⟩:=FM hi hn tl tb f I y j (S0:=S0) (p1:=p1) (way:=way) (a:=a) (b:=b) p;refine⟨_,rfl,_,h2,?_,M2,some (.int i),s,z,rfl,O2,r,J,o⟩;show eu _ _ _ [some S0,some p1,some (.int way),some (.int n),some (.ref (A + n)),some (.ref tk),some (.int i),a,b,none,none,none] h0=_;exact ee (bY rfl (ZM (Y6 hi) (gI hn))) q) ⟨M,none,none,none,rfl,O,m,ht,C⟩
 exact⟨e,d,u,E,l,by rw[v,w],H,F,G⟩
structure Mdl (ns:List Int) (mo:Int) (n:Nat) (M:Nat->Nat->Int) (bs:List Int) (ss:List (Option Int)) (bk sk:Nat) (h:Hd):Prop where
 run:iH [.lit (ns.map .int),.int mo] []=.ok (.tup [.ref (0 + n),.ref bk,.ref sk]) h
 n1:1<=n
 n30:n<=30
 nmo:(n:Int)<=mo
 bkn:n < bk
 skn:n < sk
 mt:gF 0 n M h
 mo:MOk M
 ba:h[bk]? = some (.lst (bs.map .int))
 st:h[sk]? = some (.lst (ss.map bp))
 lb:bs.length=n
 ls:ss.length=n
 os:∀x∈ss,x=none\/x=some 0\/x=some 1
 bb:∀x∈bs,-20000<=x/\x<=20000
theorem wU {d:Int}{i:Nat}(hi : σ[i]? = some (some (.int way)))(a:0 < d)(b:d < 2 ^ 250):tE (ag oEq (ag cz (ag g8 (aa i) (fC (.int d))) (fC (.int 2))) (fC (.int 1))) σ h=.ok (decide (way / d % 2=1)) h:=by
 have v:aa i σ h=.ok (.int way) h:=by simp only[aa,slot,hi]
 exact aV (ah (ah (ah v rfl (iY a b)) rfl (c6 (by decide))) rfl qd)
theorem IJ (x:Int):x % 2=0\/x % 2=1:=Int.emod_two_eq x
theorem lv1 {x:Int}(h:0<=x/\x < 2001) : -20000<=x - 1000/\x - 1000<=20000:=by omega
theorem lv2 {x y:Int}(h:0<=x/\x<=12000) : -20000<=x + y % 7 - 3/\x + y % 7 - 3<=20000:=by omega
theorem lv3 {x:Int}(h:0<=x/\x<=12000) : -20000<=x/\x<=20000:=by omega
theorem DZ {A lk tk:Nat}{f:List Int}(hn:n<=30)(sl:f.length=n)(ne:lk≠tk){bs:List Int}(lb:bs.length=n)(sb:∀x∈f,0<=x/\x < 2001)(bb:∀x∈bs,0<=x/\x<=12000)(E:h[lk]? = some (.lst (bs.map .int)))(ht:h[tk]? = some (.lst (f.map .int))){S0 p1 q4 q5:D}{a:Option D} :
  ∃(d:List Int) (s:Option D),eO none ((List.range n).map λk:Nat=>D.int k) (gN 6) gC ((List.range n).map λk:Nat=>D.int k) [some S0,some p1,some (.int way),some (.int n),some q4,some q5,c,a,b,some (.ref lk),some (.ref tk),none] h
   = .nx [some S0,some p1,some (.int way),some (.int n),some q4,some q5,s,a,b,some (.ref lk),some (.ref tk),none] (h.set lk (.lst (d.map .int)))/\d.length=n/\∀x∈d,-20000<=x/\x<=20000:=by
 have v:lk < h.length:=(List.getElem?_eq_some_iff.mp E).1;obtain⟨J,H,L,d,s,K,T,R,M⟩:=cy (P:=λi σ H=>∃(d:List Int) (s:Option D),σ = [some S0,some p1,some (.int way),some (.int n),some q4,some q5,s,a,b,some (.ref lk),some (.ref tk),none]/\H=h.set lk (.lst (d.map .int))/\d.length=n/\∀(j:Nat) x,d[j]? = some x->(-20000<=x/\x<=20000)/\(i<=j->0<=x/\x<=12000)) (g:=none) (k:=0)
   (all:=(List.range n).map λk:Nat=>D.int k) (λ_ _ _ _=>trivial)
   (xs:=(List.range n).map λk:Nat=>D.int k) (tg:=gN 6) (σ:=[some S0,some p1,some (.int way),some (.int n),some q4,some q5,c,a,b,some (.ref lk),some (.ref tk),none]) (h:=h) (b:=gC) (by
   rintro i x σ h0 O ⟨l,V,rfl,p,F,o⟩;rw[Z3]at o ⊢;obtain⟨hi,rfl⟩:=dh O;have w:h0[lk]? = some (.lst (l.map .int)):=by rw[p,List.getElem?_set_self v]
   have B:h0[tk]? = some (.lst (f.map .int)):=by rw[p,ZP ne];exact ht
   have hi1:i < l.length:=F ▸ hi;have C:atI (l.map D.int) (i:Int)=some (.int l[i]):=gU hi1;have r:atI (f.map D.int) (i:Int)=some (.int f[i]):=gU (sl ▸ hi);have u:=(o i l[i] (by simp[hi1])).2 (ZL _);have t:=sb f[i] (YE _);generalize l[i] = x1 at C u;generalize f[i] = x2 at r t;have I:=IJ (way / 256);have G:ixN (l.map D.int).length (i:Int)=some i:=pf (by rw[ZA];exact hi1);obtain⟨y,N,Q⟩ : ∃y:Int,(-20000<=y/\y<=20000)/\gC [some S0,some p1,some (.int way),some (.int n),some q4,some q5,some (.int i),a,b,some (.ref lk),some (.ref tk),none] h0=.nx [some S0,some p1,some (.int way),some (.int n),some q4,some q5,some (.int i),a,b,some (.ref lk),some (.ref tk),none] (h0.set lk (.lst ((l.map .int).set i (.int y)))):=by
    rcases I with e|e
    ·exact⟨x2 - 1000,lv1 t,(qe (wu (am (ah (aK rfl rfl (aC B) r) rfl rfl) (am (ah (ah (aK rfl rfl (aC w) C) (ah (aK rfl rfl (aC B) r) rfl (c6 (by decide))) rfl) rfl rfl) rfl)) (ah (ah rfl rfl (iY (by decide) (by decide))) rfl (c6 (by decide))) (by rw[e];rfl)) rfl rfl w G)⟩
    ·exact⟨x1 + x2 % 7 - 3,lv2 u,(qe (wu (am (ah (aK rfl rfl (aC B) r) rfl rfl) (am (ah (ah (aK rfl rfl (aC w) C) (ah (aK rfl rfl (aC B) r) rfl (c6 (by decide))) rfl) rfl rfl) rfl)) (ah (ah rfl rfl (iY (by decide) (by decide))) rfl (c6 (by decide))) (by rw[e];rfl)) rfl rfl w G)⟩
   refine⟨_,rfl,_,_,Q,l.set i y,some (.int i),rfl,?_,by simp[F],λj z m => ?_⟩
   ·rw[p,List.set_set,List.map_set]
   ·by_cases e:i=j
    ·subst e
     rw[List.getElem?_set_self hi1]at m;cases m;exact⟨N,λq=>absurd q (Nat.not_succ_le_self _)⟩
    ·rw[ZP e]at m
     have q:=o j z m;exact⟨q.1,λU=>q.2 (Nat.le_of_succ_le U)⟩) ⟨bs,c,rfl,by
    apply YB;intro j
    by_cases e:lk=j
    ·subst e;rw[List.getElem?_set_self v];exact E
    ·rw[ZP e],lb,λj z m=>by
     have q:=bb z (ZK m);exact⟨lv3 q,λ_=>q⟩⟩
 exact⟨d,s,by rw[L,K,T],R,λz m=>by
  obtain⟨j,S⟩:=List.getElem?_of_mem m;exact(M j z S).1⟩
theorem Al (v:D):∀n,(List.replicate n [v]).flatten=List.replicate n v
 | 0=>rfl
 | n + 1=>by rw[YW,YW,YZ,Al v n];rfl
theorem Bu {l:List Int}(hb:∀x∈l,0<=x/\x < 7){k:Nat}(i:h[k]? = some (.lst (l.map .int)))(a:Option D):∃ss:List (Option Int),bT (some k) (l.map .int) (gN 0) [] (fIx (ab (fC (.int 0)) (ab (fC (.int 1)) (ab (fC .non) (ab (fC .non) (ab (fC .non) (ab (fC .non) (ab (fC .non) ao))))))) (aa 0)) (l.map .int) [a] h=.ok (ss.map bp) h/\ss.length=l.length/\∀x∈ss,x=none\/x=some 0\/x=some 1:=by
 have:=bK (g:=some k) (all:=l.map .int) (tg:=gN 0) (cs:=[]) (e:=fIx (ab (fC (.int 0)) (ab (fC (.int 1)) (ab (fC .non) (ab (fC .non) (ab (fC .non) (ab (fC .non) (ab (fC .non) ao))))))) (aa 0)) (h:=h) (I:=λσ=>∃a,σ = [a]) (λ_=>true) (λd=>match d with | .int x=>bp (if x=0 then some 0 else if x=1 then some 1 else none)|_=>.non) i
  (xs:=l.map .int) (σ:=[a]) (by
   rintro x f σ ⟨c,rfl⟩;obtain⟨u,j,rfl⟩:=List.mem_map.mp f;have b:=hb u j;refine⟨_,rfl,⟨_,rfl⟩,rfl,λ_ => ?_⟩;obtain⟨u,rfl⟩:=Int.eq_ofNat_of_zero_le b.1
   match u,Int.ofNat_lt.mp b.2 with
   | 0,_|1,_|2,_|3,_|4,_|5,_|6,_=>rfl
   | k + 7,z=>exact absurd z (Nat.not_lt.mpr (Nat.le_add_left 7 k))) ⟨_,rfl⟩
 refine⟨l.map λx=>if x=0 then some 0 else if x=1 then some 1 else none,?_,by simp,λx f => ?_⟩
 ·rw[this,List.filter_eq_self.mpr (by simp),Z2,Z2];rfl
 ·obtain⟨u,_,rfl⟩:=List.mem_map.mp f
  split
  ·exact .inr (.inl rfl)
  ·split
   ·exact .inr (.inr rfl)
   ·exact .inl rfl
theorem J9 {a x1:Option D}{r:Sd}{N:Int}(e:(sml N || sml N)=true)(h:Hd):ag bU (aa 3) (aa 3) (a :: x1 :: b :: some (.int N) :: r) h=.ok (.int (N * N)) h:=by
 rw[show ag bU (aa 3) (aa 3) (a :: x1 :: b :: some (.int N) :: r) h=bU (.int N) (.int N) h from rfl];exact Bt e h
theorem IK {S0:D}{x1 c d:D}{f q:Int}{k:Nat}{E:EF}{a e:Hd}(b:bi [S0,.int 1] a=.ok (.int f) a)(g:E [some S0,some x1,some (.int way),some c,some d,none,none,none,none,none,none,none] a=.ok (.int q) a)(q4:c8 [.int f,.int way,.int q,.int 803] a=.ok (.ref k) e) :
  aE (gN 5) (ar c8 (ab (ar bi (ab (aa 0) (ab (fC (.int 1)) ao))) (ab (aa 2) (ab E (ab (fC (.int 803)) ao))))) [some S0,some x1,some (.int way),some c,some d,none,none,none,none,none,none,none] a=.nx [some S0,some x1,some (.int way),some c,some d,some (.ref k),none,none,none,none,none,none] e:=by
 exact aA (ax (am (ax (cm rfl rfl) b) (am rfl (am g (am rfl rfl)))) q4)
theorem Gw (hn:n<=30){v:D}{b:EF}(hb:b σ h=.ok (.int n) h):aT (pR (ab (fC v) ao) b) σ h=.ok (.ref h.length) (h++[.lst (List.replicate n v)]) :=
 bD (by rw[Iw (l:=[v]) rfl hb ⟨XD n,W8 (Int.ofNat_le.mpr hn) (by decide),by rw[X1];exact ZM (Nat.le_of_eq (Nat.one_mul n)) (gI hn)⟩,X1,Al]) (by rw[XY];exact gI hn)
theorem IL (way:Int){mo:Int}(h0:0 < mo)(h1:mo<=17):∃n:Nat,(n:Int)=1 + way / 2 % mo/\1<=n/\n<=30/\(n:Int)<=mo:=by
 have a:=VM (way / 2) (Int.ne_of_gt h0);have b:=W0 (way / 2) h0;generalize way / 2 % mo=x at a b;obtain⟨k,rfl⟩:=Int.eq_ofNat_of_zero_le a;exact⟨1 + k,rfl,XZ 1 k,by omega,by have b:(k:Int) < mo:=b;omega⟩
theorem Gx:∀l:List Int,(∀y∈l,0<=y/\y<=400)->0<=l.sum/\l.sum<=400 * l.length
 | [],_=>⟨XI _,XI _⟩
 | y :: l,h=>by
  have a:=h y ZV;have b:=Gx l λz c=>h z (ZW _ c);rw[W2,Y7];omega
theorem Lc {x:Int}(hn:n<=30)(h:0<=x/\x<=400 * n):0<=x/\x<=12000:=⟨h.1,W8 h.2 (Int.mul_le_mul_of_nonneg_left (Int.ofNat_le.mpr hn) (by decide))⟩
abbrev XM (S0:D) (mo way:Int) (n:Nat) (a5 a6 a7 a8 a9 a10 a11:Option D):Sd:=[some S0,some (.int mo),some (.int way),some (.int n),some (.ref (0 + n)),a5,a6,a7,a8,a9,a10,a11]
theorem D0 (ns:List Int){mo:Int}(h0:0 < mo)(b5:mo<=17):∃n M bs ss bk sk h,Mdl ns mo n M bs ss bk sk h:=by
 obtain⟨way,B⟩:=wT ns 0 (by decide);obtain⟨c1,Z⟩:=wT ns 1 (by decide);obtain⟨c2,a0⟩:=wT ns 2 (by decide);obtain⟨c3,Y⟩:=wT ns 3 (by decide);obtain⟨S0,G⟩ : ∃S0:D,S0=.lit (ns.map .int):=⟨_,rfl⟩;have B:∀h,bi [S0,.int 0] h=.ok (.int way) h:=by rw[G];exact B
 have Z:∀h,bi [S0,.int 1] h=.ok (.int c1) h:=by rw[G];exact Z
 have a0:∀h,bi [S0,.int 2] h=.ok (.int c2) h:=by rw[G];exact a0
 have Y:∀h,bi [S0,.int 3] h=.ok (.int c3) h:=by rw[G];exact Y
 obtain⟨n,hn,n1,f,a9⟩:=IL way h0 b5;have e0:aE (gN 2) (ar bi (ab (aa 0) (ab (fC (.int 0)) ao))) [some S0,some (.int mo),none,none,none,none,none,none,none,none,none,none] []=.nx [some S0,some (.int mo),some (.int way),none,none,none,none,none,none,none,none,none] []:=aA (ax (cm rfl rfl) (B _));have e1:aE (gN 3) (ag dy (fC (.int 1)) (ag cz (ag g8 (aa 2) (fC (.int 2))) (aa 1))) [some S0,some (.int mo),some (.int way),none,none,none,none,none,none,none,none,none] []=.nx [some S0,some (.int mo),some (.int way),some (.int n),none,none,none,none,none,none,none,none] []:=by rw[hn];exact aA (ah rfl (ah (ah rfl rfl (iY (by decide) (by decide))) rfl (c6 h0)) rfl)
 obtain⟨ds,h2,k2,l2,v2,c0,q2,Q,g2⟩:=iV (g:=none) (all:=(List.range n).map λk:Nat=>D.int k) (tg:=gN 0) (xs:=(List.range n).map λk:Nat=>D.int k) (k:=0)
  (e:=aT (pR (ab (fC (.int 0)) ao) (aa 1))) (σ:=[none,some (.int n)]) (h:=[])
  (P:=λi σ h=>(∃a,σ = [a,some (.int n)])/\h.length=i/\∀j,j < i->h[j]? = some (.lst ((List.replicate n 0).map .int))) (V:=λi d=>d=.ref i) (λ_ _ _ _=>trivial) (by
   rintro i x σ h0 H ⟨⟨a,rfl⟩,hl,e1⟩;obtain⟨hi,rfl⟩:=dh H;rw[Z3]at hl e1 ⊢;refine⟨_,rfl,.ref h0.length,h0++[.lst ((List.replicate n 0).map .int)],?_,by rw[hl],⟨_,rfl⟩,by simp[hl],λj hj => ?_⟩
   ·rw[List.map_replicate];exact Gw f rfl
   ·by_cases hji:j < i
    ·exact aH _ (e1 j hji)
    ·have:j=i:=Nat.le_antisymm (XR hj) (Nat.not_lt.mp hji)
     subst this;rw[<-hl];exact ZG) ⟨⟨_,rfl⟩,rfl,λj hj=>absurd hj (XC _)⟩
 simp at l2 Q g2;have b2:ds=(List.range n).map λi=>.ref (0 + i):=qc l2 λi d hd=>by simpa using v2 i d hd
 subst b2;obtain⟨w,S⟩ : ∃w,w=h2++[bE.lst ((List.range n).map λi=>.ref (0 + i))]:=⟨_,rfl⟩;have l3:w.length=n + 1:=by rw[S];simp[Q]
 have e2:aE (gN 4) (aT (bO 1 [3] (br (aa 3)) (gN 0) [] (aT (pR (ab (fC (.int 0)) ao) (aa 1))))) [some S0,some (.int mo),some (.int way),some (.int n),none,none,none,none,none,none,none,none] []=.nx (XM S0 mo way n none none none none none none none) w:=by
  rw[S];show _=Out.nx [some S0,some (.int mo),some (.int way),some (.int n),some (.ref (0 + n)),none,none,none,none,none,none,none] _;rw[show D.ref (0 + n)=.ref h2.length by rw[Q,Z3]];exact aA (bD (cv (bY rfl (gI f)) k2) (by rw[ZA,ZO];exact(gI f)))
 have m3:gF 0 n (λ_ _=>0) w:=by
  refine⟨λi hi => ?_,?_⟩
  ·rw[S,Z3,aH _ (g2 i hi)]
   congr 2;simp only[fI,Z2];apply YB;intro j
   by_cases hj:j < n<;>simp[hj]
  ·rw[S,Z3,<-Q];exact ZG
 have O3:MOk (λ_ _=>0):=⟨λ_ _=>rfl,λ_ _=>⟨XI _,by decide⟩,λ_=>rfl⟩;obtain⟨td,q4,tl,tb⟩:=II c1 way 803 (n * n) (ZM (Nat.mul_le_mul f f) (by decide)) (by decide) (by decide) w;obtain⟨h4,O⟩ : ∃h4,h4=w++[bE.lst (td.map .int)]:=⟨_,rfl⟩;rw[<-O,l3]at q4;have sn:sml (n:Int)=true:=o8 (XD n) (Int.lt_of_le_of_lt (Int.ofNat_le.mpr f) (by decide));have e3:aE (gN 5) (ar c8 (ab (ar bi (ab (aa 0) (ab (fC (.int 1)) ao))) (ab (aa 2) (ab (ag bU (aa 3) (aa 3)) (ab (fC (.int 803)) ao))))) (XM S0 mo way n none none none none none none none) w=.nx (XM S0 mo way n (some (.ref (n + 1))) none none none none none none) h4:=by
  have a5:c8 [.int c1,.int way,.int ((n:Int) * n),.int 803] w=.ok (.ref (n + 1)) h4:=by rw[<-Int.natCast_mul];exact q4
  exact IK (E:=ag bU (aa 3) (aa 3)) (Z w) (J9 (by rw[sn,Bool.or_self]) w) a5
 have m4:gF 0 n (λ_ _=>0) h4:=by rw[O];exact m3.more _
 have t4:h4[n + 1]? = some (.lst (td.map .int)):=by rw[O,<-l3];exact ZG
 obtain⟨M,U,J,q,p,q5,O5,m5,l5⟩:=FN (A:=0) (tk:=n + 1) (way:=way) f tl tb (by omega) O3 m4 t4 (S0:=S0) (p1:=.int mo) (L:=n + 2) (by rw[O];simp[l3]);have e4:eu (br (aa 3)) (gN 6) i4 (XM S0 mo way n (some (.ref (n + 1))) none none none none none none) h4=.nx (XM S0 mo way n (some (.ref (n + 1))) J q p none none none) U:=ee (bY rfl (gI f)) q5;have cs:bT (some (0 + n)) ((List.range n).map λi=>.ref (0 + i)) (gN 0) [] (pF (lOf (aa 0))) ((List.range n).map λi=>.ref (0 + i)) [none] U=.ok (((List.range n).map λi=>(fI M n i).sum).map D.int) U:=by
  have:=bK (g:=some (0 + n)) (all:=(List.range n).map λi=>.ref (0 + i)) (tg:=gN 0) (cs:=[]) (e:=pF (lOf (aa 0))) (h:=U) (I:=λσ=>∃a,σ = [a]) (λ_=>true) (λd=>match d with | .ref k=>.int (fI M n k).sum|_=>.non) m5.ti (xs:=(List.range n).map λi=>.ref (0 + i)) (σ:=[none]) (by
   rintro x H σ ⟨a,rfl⟩;obtain⟨i,hi,rfl⟩:=List.mem_map.mp H;have hi:=List.mem_range.mp hi;have r:=m5.ro i hi;simp only[Z3]at r ⊢;refine⟨_,rfl,⟨_,rfl⟩,rfl,λ_ => ?_⟩;exact yk (bL rfl (aC r)) (mY _)) ⟨_,rfl⟩
  rw[this,List.filter_eq_self.mpr (by simp),Z2,Z2];refine congrArg (λl=>Res.ok l U) ?_;apply YX;intro i _;simp
 obtain⟨t,F⟩ : ∃t,t=(List.range n).map λi=>(fI M n i).sum:=⟨_,rfl⟩;rw[<-F]at cs;have X:t.length=n:=by rw[F];simp
 have a1:∀x∈t,0<=x/\x<=12000:=λx H=>by
  rw[F]at H;obtain⟨i,_,rfl⟩:=List.mem_map.mp H;have:=Gx (fI M n i) λy hy=>by
   obtain⟨j,_,rfl⟩:=List.mem_map.mp hy;exact O5.bd i j
  have ll:(fI M n i).length=n:=by simp[fI]
  rw[ll]at this;exact Lc f this
 obtain⟨v,N⟩ : ∃v,v=U++[bE.lst (t.map .int)]:=⟨_,rfl⟩;have l6:v.length=n + 3:=by rw[N];simp[l5]
 have e5:aE (gN 9) (aT (bO 1 [] (eM (aa 4)) (gN 0) [] (pF (lOf (aa 0))))) (XM S0 mo way n (some (.ref (n + 1))) J q p none none none) U=.nx (XM S0 mo way n (some (.ref (n + 1))) J q p (some (.ref (n + 2))) none none) v:=by
  rw[N,<-l5];exact aA (bD (cv (dv rfl m5.ti) cs) (by rw[ZA,X];exact(gI f)))
 have m6:gF 0 n M v:=by rw[N];exact m5.more _
 have b6:v[n + 2]? = some (.lst (t.map .int)):=by rw[N,<-l5];exact ZG
 have e6:∃(bs:List Int) (o m:Option D) (u:Hd),sIf (tE (ag oEq (ag cz (ag g8 (aa 2) (fC (.int 128))) (fC (.int 2))) (fC (.int 1)))) (ay (aE (gN 10) (ar c8 (ab (ar bi (ab (aa 0) (ab (fC (.int 2)) ao))) (ab (aa 2) (ab (aa 3) (ab (fC (.int 2001)) ao))))))
  (eu (br (aa 3)) (gN 6) gC)) bA (XM S0 mo way n (some (.ref (n + 1))) J q p (some (.ref (n + 2))) none none) v=.nx (XM S0 mo way n (some (.ref (n + 1))) o q p (some (.ref (n + 2))) m none) u/\gF 0 n M u/\u[n + 2]? = some (.lst (bs.map .int))/\bs.length=n/\n + 3<=u.length/\∀x∈bs,-20000<=x/\x<=20000:=by
  have R:=wU (way:=way) (d:=128) (σ:=(XM S0 mo way n (some (.ref (n + 1))) J q p (some (.ref (n + 2))) none none)) (h:=v) (i:=2) rfl (by decide) (by decide)
  by_cases e:way / 128 % 2=1
  ·rw[w8 e]at R
   obtain⟨W,q7,sl,sb⟩:=II c2 way 2001 n (gI f) (by decide) (by decide) v;rw[l6]at q7;have t1:aE (gN 10) (ar c8 (ab (ar bi (ab (aa 0) (ab (fC (.int 2)) ao))) (ab (aa 2) (ab (aa 3) (ab (fC (.int 2001)) ao))))) (XM S0 mo way n (some (.ref (n + 1))) J q p (some (.ref (n + 2))) none none) v=.nx (XM S0 mo way n (some (.ref (n + 1))) J q p (some (.ref (n + 2))) (some (.ref (n + 3))) none) (v++[.lst (W.map .int)]):=by
    exact aA (ax (am (ax (cm rfl rfl) (a0 _)) (am rfl (cm rfl rfl))) q7)
   obtain⟨a2,c',q8,b3,b1⟩:=DZ (A:=0) (lk:=n + 2) (tk:=n + 3) (way:=way) f sl (ZN (Z4 _)) (h:=v++[.lst (W.map .int)]) X sb a1 (aH _ b6) (by rw[<-l6];exact ZG) (S0:=S0) (p1:=.int mo) (q4:=.ref (0 + n)) (q5:=.ref (n + 1)) (a:=q) (b:=p) (c:=J);refine⟨a2,c',some (.ref (n + 3)),_,?_,(m6.more [.lst (W.map .int)]).set (k:=n + 2) (by omega) (.lst (a2.map .int)),?_,b3,by simp[l6],b1⟩
   ·exact(ib R).trans ((bm t1).trans (ee (bY rfl (gI f)) q8))
   ·rw[List.getElem?_set_self (by simp[l6])]
  ·rw[ZY e]at R
   exact⟨t,J,none,v,by rw[FK R];rfl,m6,b6,X,Nat.le_of_eq l6.symm,λx H=>lv3 (a1 x H)⟩
 obtain⟨bs,o,m,u,e6,m7,b7,b4,l7,a8⟩:=e6;obtain⟨s,z⟩ : ∃s,s=u++[bE.lst ((List.replicate n (none:Option Int)).map bp)]:=⟨_,rfl⟩;have e7:aE (gN 11) (aT (pR (ab (fC .non) ao) (aa 3))) (XM S0 mo way n (some (.ref (n + 1))) o q p (some (.ref (n + 2))) m none) u=.nx (XM S0 mo way n (some (.ref (n + 1))) o q p (some (.ref (n + 2))) m (some (.ref u.length))) s:=by
  rw[z,List.map_replicate];exact aA (Gw f rfl)
 have m8:gF 0 n M s:=by rw[z];exact m7.more _
 have b8:s[n + 2]? = some (.lst (bs.map .int)):=by rw[z];exact aH _ b7
 have s8:s[u.length]? = some (.lst ((List.replicate n (none:Option Int)).map bp)):=by rw[z];simp
 have e8:∃(ss:List (Option Int)) (x5:D) (sk:Nat) (T:Hd),sIf (tE (ag oEq (ag cz (ag g8 (aa 2) (fC (.int 512))) (fC (.int 2))) (fC (.int 1)))) (ay (aE (gN 5) (ar c8 (ab (ar bi (ab (aa 0) (ab (fC (.int 3)) ao))) (ab (aa 2) (ab (aa 3) (ab (fC (.int 7)) ao))))))
  (aE (gN 11) (aT (bO 1 [] (eM (aa 5)) (gN 0) [] (fIx (ab (fC (.int 0)) (ab (fC (.int 1)) (ab (fC .non) (ab (fC .non) (ab (fC .non) (ab (fC .non) (ab (fC .non) ao))))))) (aa 0)))))) bA (XM S0 mo way n (some (.ref (n + 1))) o q p (some (.ref (n + 2))) m (some (.ref u.length))) s=.nx (XM S0 mo way n (some x5) o q p (some (.ref (n + 2))) m (some (.ref sk))) T/\gF 0 n M T/\T[n + 2]? = some (.lst (bs.map .int))/\T[sk]? = some (.lst (ss.map bp))/\ss.length=n/\(∀x∈ss,x=none\/x=some 0\/x=some 1)/\n < sk:=by
  have R:=wU (way:=way) (d:=512) (σ:=(XM S0 mo way n (some (.ref (n + 1))) o q p (some (.ref (n + 2))) m (some (.ref u.length)))) (h:=s) (i:=2) rfl (by decide) (by decide)
  by_cases e:way / 512 % 2=1
  ·rw[w8 e]at R
   obtain⟨a3,q9,sl,sb⟩:=II c3 way 7 n (gI f) (by decide) (by decide) s;obtain⟨K,C⟩ : ∃K,K=s++[bE.lst (a3.map .int)]:=⟨_,rfl⟩;rw[<-C]at q9;have g9:K[s.length]? = some (.lst (a3.map .int)):=by rw[C];simp
   obtain⟨ss,cq,a4,b0⟩:=Bu sb g9 none;have t1:aE (gN 5) (ar c8 (ab (ar bi (ab (aa 0) (ab (fC (.int 3)) ao))) (ab (aa 2) (ab (aa 3) (ab (fC (.int 7)) ao))))) (XM S0 mo way n (some (.ref (n + 1))) o q p (some (.ref (n + 2))) m (some (.ref u.length))) s=.nx (XM S0 mo way n (some (.ref s.length)) o q p (some (.ref (n + 2))) m (some (.ref u.length))) K:=by
    exact aA (ax (am (ax (cm rfl rfl) (Y _)) (am rfl (cm rfl rfl))) q9)
   have t2:aE (gN 11) (aT (bO 1 [] (eM (aa 5)) (gN 0) [] (fIx (ab (fC (.int 0)) (ab (fC (.int 1)) (ab (fC .non) (ab (fC .non) (ab (fC .non) (ab (fC .non) (ab (fC .non) ao))))))) (aa 0)))) (XM S0 mo way n (some (.ref s.length)) o q p (some (.ref (n + 2))) m (some (.ref u.length))) K=.nx (XM S0 mo way n (some (.ref s.length)) o q p (some (.ref (n + 2))) m (some (.ref K.length))) (K++[.lst (ss.map bp)]):=by
    exact aA (bD (cv (dv rfl g9) cq) (by rw[ZA,a4,sl];exact(gI f)))
   refine⟨ss,.ref s.length,K.length,K++[.lst (ss.map bp)],?_,by rw[C];exact(m8.more _).more _,?_,by simp,a4.trans sl,b0,by rw[C,z];simp;omega⟩
   ·exact(ib R).trans ((bm t1).trans t2)
   ·exact aH _ (by rw[C];exact aH _ b8)
  ·rw[ZY e]at R
   exact⟨List.replicate n none,.ref (n + 1),u.length,s,by rw[FK R];rfl,m8,b8,s8,by simp,λx H=>.inl (List.eq_of_mem_replicate H),by omega⟩
 obtain⟨ss,x5,sk,T,e8,m9,b9,s9,a6,a7,k9⟩:=e8;have e9:bj (jw (ab (aa 4) (ab (aa 9) (ab (aa 11) ao)))) (XM S0 mo way n (some x5) o q p (some (.ref (n + 2))) m (some (.ref sk))) T=.rt (.tup [.ref (0 + n),.ref (n + 2),.ref sk]) T:=aX (ia (am rfl (cm rfl rfl)));refine⟨n,M,bs,ss,n + 2,sk,T,?_,n1,f,a9,by omega,k9,m9,O5,b9,s9,b4,a6,a7,a8⟩;have st:([S0,D.int mo].map some++List.replicate (12 - [S0,D.int mo].length) none:Sd)=[some S0,some (.int mo),none,none,none,none,none,none,none,none,none,none]:=rfl;rw[<-G];unfold iH bJ runB;rw[yD (by rfl),st,bm e0,bm e1,bm e2,bm e3,bm e4,bm e5,bm e6,bm e7,bm e8,e9];exact iE rfl
def kA (one other i j:Nat):Prop:=(i < one/\j < one)\/(i=one/\j < other)\/(j=one/\i < other)
instance (one other i j:Nat):Decidable (kA one other i j):=by unfold kA;infer_instance
def fW (M:Nat->Nat->Int) (s:List Int) (one other i j:Nat):Int:=if kA one other i j/\s.getD j 0=1 then M i j else 0
structure LP (n:Nat) (M:Nat->Nat->Int) (one other:Nat) (T:List Tie):Prop where
 ok:TOk n one other T
 pl:∀i,i < n->∀s,bq (nbs T i) s=dN (fW M s one other i) n
theorem pa1 (a b c:Int):a + (b + c)=a + b + c:=(Int.add_assoc a b c).symm
theorem yV (r a:List (Nat × Int))(s:List Int):bq (r++a) s=bq r s + bq a s:=by
 induction r with
 | nil=>simp[bq,dZ]
 | cons p r ih=>rw[W7,ei,ei,ih];exact pa1 _ _ _
theorem sr1 (S x y:Int):S + 0 + x=S + y + (x - y):=by omega
theorem uI {f g:Nat->Int}{p:Nat}(h:∀j,j≠p->f j=g j):∀n,dN f n=dN g n + if p < n then f p - g p else 0
 | 0=>by simp[dN]
 | n + 1=>by
  rw[dN,dN,uI h n]
  by_cases e:n=p
  ·subst e
   rw[x3 (Z9 _),yD (Z4 _)];exact sr1 _ _ _
  ·rw[h n e]
   by_cases l:p < n
   ·rw[yD l,yD (v4 l)];exact Int.add_right_comm _ _ _
   ·rw[x3 l,x3 λz=>(Nat.lt_succ_iff_lt_or_eq.mp z).elim l λz=>e z.symm,Int.add_zero,Int.add_zero]
theorem jj {f g:Nat->Int}:∀n,(∀j,j < n->f j=g j)->dN f n=dN g n
 | 0,_=>rfl
 | n + 1,h=>by rw[dN,dN,jj n λj a=>h j (by omega),h n (by omega)]
theorem Bv {one other i j:Nat}:kA one (other + 1) i j ↔ kA one other i j\/(i=one/\j=other)\/(j=one/\i=other):=by
 constructor
 ·rintro (h|⟨a,b⟩|⟨a,b⟩)
  ·exact .inl (.inl h)
  ·exact(Nat.lt_succ_iff_lt_or_eq.mp b).elim (λb=>.inl (.inr (.inl ⟨a,b⟩))) λb=>.inr (.inl ⟨a,b⟩)
  ·exact(Nat.lt_succ_iff_lt_or_eq.mp b).elim (λb=>.inl (.inr (.inr ⟨a,b⟩))) λb=>.inr (.inr ⟨a,b⟩)
 ·rintro ((h|⟨a,b⟩|⟨a,b⟩)|⟨a,b⟩|⟨a,b⟩)
  ·exact .inl h
  ·exact .inr (.inl ⟨a,v4 b⟩)
  ·exact .inr (.inr ⟨a,v4 b⟩)
  ·exact .inr (.inl ⟨a,b ▸ Z4 _⟩)
  ·exact .inr (.inr ⟨a,b ▸ Z4 _⟩)
theorem nK {one other i j:Nat}(h1 : ¬(i=one/\j=other))(h2 : ¬(j=one/\i=other)):kA one (other + 1) i j ↔ kA one other i j :=
 Bv.trans ⟨λz=>z.elim id λz=>z.elim (λz=>absurd z h1) λz=>absurd z h2,.inl⟩
theorem Am {one other:Nat}(a:other < one) : ¬kA one other one other/\¬kA one other other one:=by
 refine⟨?_,?_⟩
 ·rintro (h|h|h)
  ·exact Z9 _ h.1
  ·exact Z9 _ h.2
  ·exact Z9 _ (h.1 ▸ a)
 ·rintro (h|h|h)
  ·exact Z9 _ h.2
  ·exact Z9 _ (h.1 ▸ a)
  ·exact Z9 _ h.2
theorem Bw {one i j:Nat}(e : ¬(i=one/\j=one)):kA one one i j ↔ kA (one + 1) 0 i j:=by
 constructor
 ·rintro (h|h|h)
  ·exact .inl ⟨v4 h.1,v4 h.2⟩
  ·exact .inl ⟨h.1 ▸ Z4 _,v4 h.2⟩
  ·exact .inl ⟨v4 h.2,h.1 ▸ Z4 _⟩
 ·rintro (⟨a,b⟩|h|h)
  ·rcases Nat.lt_succ_iff_lt_or_eq.mp a with a|a<;>rcases Nat.lt_succ_iff_lt_or_eq.mp b with b|b
   ·exact .inl ⟨a,b⟩
   ·exact .inr (.inr ⟨b,a⟩)
   ·exact .inr (.inl ⟨a,b⟩)
   ·exact absurd ⟨a,b⟩ e
  ·exact absurd h.2 (XC _)
  ·exact absurd h.2 (XC _)
theorem sU {M:Nat->Nat->Int}(O:MOk M){one other:Nat}(a:other < one)(hn:one < n)(i:Nat)(s:List Int) :
  dN (fW M s one (other + 1) i) n=dN (fW M s one other i) n + (if i=one then (if s.getD other 0=1 then M one other else 0) else if i=other then (if s.getD one 0=1 then M one other else 0) else 0):=by
 by_cases e1:i=one
 ·subst e1
  rw[yD rfl,uI (p:=other) (g:=fW M s i other i) (λj c => ?_),yD (Z1 a hn)]
  ·have b:kA i (other + 1) i other:=.inr (.inl ⟨rfl,Z4 _⟩)
   have p2:=(Am a).1;simp only[fW,b,p2,true_and,false_and,XF,Int.sub_zero]
  ·have:=nK (one:=i) (i:=i) (λz=>c z.2) λz=>Z6 a z.2
   simp only[fW,this]
 ·rw[x3 e1]
  by_cases e2:i=other
  ·subst e2
   rw[yD rfl,uI (p:=one) (g:=fW M s one i i) (λj c => ?_),yD hn]
   ·have b:kA one (i + 1) i one:=.inr (.inr ⟨rfl,Z4 _⟩)
    have p2:=(Am a).2;simp only[fW,b,p2,true_and,false_and,XF,O.sym i one,Int.sub_zero]
   ·have:=nK (i:=i) (other:=i) (λz=>e1 z.1) λz=>c z.1
    simp only[fW,this]
  ·rw[x3 e2,jj n (g:=fW M s one other i) λj _ => ?_]
   ·exact(Int.add_zero _).symm
   ·have:=nK (i:=i) (j:=j) (λz=>e1 z.1) λz=>e2 z.2
    simp only[fW,this]
variable {T:List Tie}
theorem LP.skip {M:Nat->Nat->Int}(O:MOk M){one other:Nat}(L:LP n M one other T)(a:other < one)(hn:one < n)(z:M one other=0):LP n M one (other + 1) T :=
 ⟨L.ok.skip,λi hi s=>by
  rw[L.pl i hi s,sU O a hn i s,z];split<;>(try split)<;>(try split)<;>omega⟩
theorem LP.put {M:Nat->Nat->Int}(O:MOk M){one other:Nat}(L:LP n M one other T)(a:other < one)(hn:one < n)(z:0 < M one other):LP n M one (other + 1) (T++[⟨other,one,M one other⟩]):=by
 have b:=O.bd one other;refine⟨?_,λi hi s => ?_⟩
 ·have:=L.ok.put hn a (w:=M one other) z b.2 (t:=⟨other,one,M one other⟩) (.inr rfl) T.length
  simpa using this
 ·rw[wD,yV,L.pl i hi s,sU O a hn i s]
  congr 1
  by_cases e1:i=one
  ·have f:far i ⟨other,one,M one other⟩ = some other:=by
    unfold far;rw[x3 (λz:other=i=>ZN a (z.trans e1)),yD e1.symm]
   rw[f,yD e1];simp only;rw[ei];simp[bq,dZ]
  ·rw[x3 e1]
   by_cases e2:i=other
   ·have f:far i ⟨other,one,M one other⟩ = some one:=by unfold far;rw[yD e2.symm]
    rw[f,yD e2];simp only;rw[ei];simp[bq,dZ]
   ·have f:far i ⟨other,one,M one other⟩ = none:=by
     unfold far;rw[x3 (λz:other=i=>e2 z.symm),x3 (λz:one=i=>e1 z.symm)]
    rw[f,x3 e2];simp[bq,dZ]
theorem LP.step {M:Nat->Nat->Int}(O:MOk M){one:Nat}(L:LP n M one one T)(h:one < n)(hn:n<=30):LP n M (one + 1) 0 T :=
 ⟨L.ok.step h hn,λi hi s=>by
  rw[L.pl i hi s];refine jj n λj _ => ?_;unfold fW
  by_cases e:i=one/\j=one
  ·rw[e.1,e.2,O.no one];split<;>split<;>rfl
  ·have:=Bw e
   simp only[this]⟩
structure Md (Z n:Nat) (M:Nat->Nat->Int) (bs:List Int) (ss:List (Option Int)) (bk sk:Nat) (h:Hd):Prop where
 n1:1<=n
 n30:n<=30
 mt:gF Z n M h
 mo:MOk M
 ba:h[bk]? = some (.lst (bs.map .int))
 st:h[sk]? = some (.lst (ss.map bp))
 lb:bs.length=n
 ls:ss.length=n
 os:∀x∈ss,x=none\/x=some 0\/x=some 1
theorem Md.more {Z:Nat}{M:Nat->Nat->Int}{bs:List Int}{ss:List (Option Int)}{bk sk:Nat}(m:Md Z n M bs ss bk sk h)(g:Hd):Md Z n M bs ss bk sk (h++g):=by
 have k:∀{i:Nat} {x:bE},h[i]? = some x->(h++g)[i]? = some x:=λ{i x} e=>by
  rw[ZC (List.getElem?_eq_some_iff.mp e).1];exact e
 exact⟨m.n1,m.n30,m.mt.more g,m.mo,k m.ba,k m.st,m.lb,m.ls,m.os⟩
theorem D4 {Z:Nat}{M:Nat->Nat->Int}{bs:List Int}{ss:List (Option Int)}{bk sk:Nat}(m:Md Z n M bs ss bk sk h) :
  ∃T,eX [.tup [.ref (Z + n),.ref bk,.ref sk]] h=.ok (.ref h.length) (h++[.lst (T.map fO)])/\LP n M n 0 T:=by
 have f:=m.n30;obtain⟨td,l⟩ : ∃td:D,td=.tup [.ref (Z + n),.ref bk,.ref sk]:=⟨_,rfl⟩;obtain⟨A,q⟩ : ∃A,A=h.length:=⟨_,rfl⟩;have t0:∀g,fAt (aa 0) (fC (.int 0)) (some td :: g)=λh=>.ok (.ref (Z + n)) h:=λg=>by
  funext h;rw[l];exact aK rfl rfl rfl rfl
 obtain⟨O,u,E,T,a,b,R,k3,G⟩:=cy (P:=λi σ u=>∃(T:List Tie) (a b:Option D),σ = [some td,some (.ref A),a,b]/\u=h++[.lst (T.map fO)]/\LP n M i 0 T) (g:=none) (k:=0)
   (all:=(List.range n).map λk:Nat=>D.int k) (λ_ _ _ _=>trivial)
   (xs:=(List.range n).map λk:Nat=>D.int k) (tg:=gN 2) (σ:=[some td,some (.ref A),none,none]) (h:=h++[.lst []]) (b:=kS) (by
   rintro i x σ h0 y ⟨T,a,b,rfl,B,L⟩;obtain⟨hi,rfl⟩:=dh y;rw[Z3]at L ⊢;obtain⟨Q,h2,S,J,X,j2,j3,C⟩:=cy (P:=λj σ u=>∃(T:List Tie) (b:Option D),σ = [some td,some (.ref A),some (.int i),b]/\u=h++[.lst (T.map fO)]/\LP n M i j T) (g:=none) (k:=0)
     (all:=(List.range i).map λk:Nat=>D.int k) (λ_ _ _ _=>trivial)
     (xs:=(List.range i).map λk:Nat=>D.int k) (tg:=gN 3) (σ:=[some td,some (.ref A),some (.int i),b]) (h:=h0) (b:=qm) (by
     rintro j x σ h1 y ⟨o,I,rfl,e,t⟩;obtain⟨r,rfl⟩:=dh y;rw[Z3]at t ⊢;have F:Md Z n M bs ss bk sk h1:=by rw[e];exact m.more _
     have U:=Ak (A:=Z) hi;have r1:=F.mt.ro i hi;have v1:=DY (M:=M) (n:=n) (i:=i) (j:=j) (Z1 r hi);have w:=F.mt.ti;have d:fAt (fAt (fAt (aa 0) (fC (.int 0))) (aa 2)) (aa 3) [some td,some (.ref A),some (.int i),some (.int j)] h1=.ok (.int (M i j)) h1:=by
      have p:=congrFun (t0 [some (.ref A),some (.int i),some (.int j)]) h1;exact aK (aK p rfl (aC w) U) rfl (aC r1) v1
     have H:h1[A]? = some (.lst (o.map fO)):=by rw[e];exact f7 q _
     have V:(o.map fO).length < SZ:=by rw[ZA];exact Z1 (few t.ok.len hi f r) (by decide)
     have v:tE (ag oGt (fAt (fAt (fAt (aa 0) (fC (.int 0))) (aa 2)) (aa 3)) (fC (.int 0))) [some td,some (.ref A),some (.int i),some (.int j)] h1=.ok (decide (0 < M i j)) h1:=by
      exact aV (ah d rfl rfl)
     by_cases c:0 < M i j
     ·refine⟨_,rfl,[some td,some (.ref A),some (.int i),some (.int j)],h++[.lst ((o++[(⟨j,i,M i j⟩ : Tie)]).map fO)],?_,o++[(⟨j,i,M i j⟩ : Tie)],_,rfl,rfl,t.put m.mo r hi c⟩
      rw[w8 c]at v;show sIf _ _ _ [some td,some (.ref A),some (.int i),some (.int j)] h1=_;rw[J8 v];have st:h1.set A (.lst (o.map fO++[.tup [.int j,.int i,.int (M i j)]]))=h++[.lst ((o++[(⟨j,i,M i j⟩ : Tie)]).map fO)]:=by rw[e,kj q,ZR];rfl
      rw[<-st];exact iW (jQ rfl H (ia (am rfl (am rfl (am d rfl)))) H V)
     ·have z:M i j=0:=Int.le_antisymm (Int.not_lt.mp c) (m.mo.bd i j).1
      refine⟨_,rfl,[some td,some (.ref A),some (.int i),some (.int j)],h1,?_,o,_,rfl,e,t.skip m.mo r hi z⟩;rw[ZY c]at v;show sIf _ _ _ [some td,some (.ref A),some (.int i),some (.int j)] h1=_;rw[FK v];rfl) ⟨T,b,rfl,B,L⟩
   have p:0 + ((List.range i).map λk:Nat=>D.int k).length=i:=by simp
   rw[p]at C;refine⟨_,rfl,[some td,some (.ref A),some (.int i),X],h2,?_,J,_,_,rfl,j3,C.step m.mo hi f⟩;show eu _ _ _ [some td,some (.ref A),some (.int i),b] h0=_;exact(ee (bY rfl (ZM (Y6 hi) (gI f))) S).trans (by rw[j2])) ⟨[],none,none,rfl,rfl,⟨⟨by simp,by simp,by simp,by simp,List.Pairwise.nil,by simp⟩,λi hi s=>by
    have:∀k,dN (fW M s 0 0 i) k=0:=λk=>by
     induction k with
     | zero=>rfl
     | succ k ih =>
      rw[dN,ih];have : ¬kA 0 0 i k:=by unfold kA;omega
      simp[fW,this]
    rw[this];rfl⟩⟩
 have p:0 + ((List.range n).map λk:Nat=>D.int k).length=n:=by simp
 rw[p]at G;refine⟨T,?_,G⟩;have Y:aE (gN 1) (aT ao) [some td,none,none,none] h=.nx [some td,some (.ref A),none,none] (h++[.lst []]):=aA (lQ q rfl (YG _));have I:=(m.more [.lst []]).ba;have K:cj (lOf (fAt (aa 0) (fC (.int 1)))) [some td,some (.ref A),none,none] (h++[.lst []])=.ok (.int n) (h++[.lst []]):=by
  rw[l];exact(c5 (bL (aK rfl rfl rfl rfl) (aC I))).trans (by rw[ZA,m.lb])
 have W:eu (br (cj (lOf (fAt (aa 0) (fC (.int 1)))))) (gN 2) kS [some td,some (.ref A),none,none] (h++[.lst []])=.nx [some td,some (.ref A),a,b] (h++[.lst (T.map fO)]):=by
  rw[R,k3]at E;exact ee (bY K (gI f)) E
 have N:bj (aa 1) [some td,some (.ref A),a,b] (h++[.lst (T.map fO)])=.rt (.ref A) (h++[.lst (T.map fO)]):=aX rfl;have st:([td].map some++List.replicate (4 - [td].length) none:Sd)=[some td,none,none,none]:=rfl;rw[<-l];unfold eX bJ runB;rw[yD (by rfl),st,bm Y,bm W,N,<-q];exact cZ
variable {s:List Int}
section
variable {Z n:Nat} {M:Nat->Nat->Int} {bs:List Int} {ss:List (Option Int)} {bk sk:Nat} {h:Hd}
abbrev XT (td:D) (s:List Int) (Z n bk sk:Nat) (a5 a6 a7 a8:Option D):Sd:=[some td,some (aw s),some (.ref (Z + n)),some (.ref bk),some (.ref sk),a5,a6,a7,a8]
theorem D5 (L:LP n M n 0 T)(B:ut s){i:Nat}(hi:i < n):dN (λj=>M i j * s.getD j 0) n=bq (nbs T i) s:=by
 rw[L.pl i hi s];refine jj n λj a => ?_;have p:kA n 0 i j:=.inl ⟨hi,a⟩;rcases B j with e|e
 ·simp only[fW,e];simp
 ·simp only[fW,p,e];simp
theorem FO (m:Md Z n M bs ss bk sk h)(q:eX [.tup [.ref (Z + n),.ref bk,.ref sk]] h=.ok (.ref h.length) (h++[.lst (T.map fO)]))(L:LP n M n 0 T) :
  jT [.tup [.ref (Z + n),.ref bk,.ref sk]] h=.ok (dw n T bs ss).enc h:=by
 have j:=m.n30;obtain⟨td,i⟩ : ∃td:D,td=.tup [.ref (Z + n),.ref bk,.ref sk]:=⟨_,rfl⟩;have t:∀g,fAt (aa 0) (fC (.int 1)) [some td] g=.ok (.ref bk) g:=λg=>by
  rw[i];exact(aK rfl rfl rfl rfl)
 have v:∀g,fAt (aa 0) (fC (.int 2)) [some td] g=.ok (.ref sk) g:=λg=>by
  rw[i];exact(aK rfl rfl rfl rfl)
 obtain⟨h1,f⟩ : ∃h1,h1=h++[bE.lst (T.map fO)]:=⟨_,rfl⟩;have u:Md Z n M bs ss bk sk h1:=by rw[f];exact m.more _
 obtain⟨h2,a⟩ : ∃h2,h2=h1++[bE.lst (bs.map .int)]:=⟨_,rfl⟩;have B:Md Z n M bs ss bk sk h2:=by rw[a];exact u.more _
 obtain⟨c,b⟩ : ∃c,c=h2++[bE.lst (ss.map bp)]:=⟨_,rfl⟩;have l:∀{k:Nat} {x:bE},h1[k]? = some x->c[k]? = some x:=λ{k x} e=>by
  have z:=(List.getElem?_eq_some_iff.mp e).1;rw[b,a,ZU,ZC z];exact e
 have H:c[h.length]? = some (.lst (T.map fO)):=l (by rw[f];simp);have I:c[h1.length]? = some (.lst (bs.map .int)):=by rw[b,a];exact aH _ ZG
 have J:c[h2.length]? = some (.lst (ss.map bp)):=by rw[b];simp
 have E:=Bc m.n1 j L.ok m.lb m.ls m.os H I J;have F:(bs.map D.int).length<=SZ:=by rw[ZA,m.lb];exact(gI j)
 have y:(ss.map bp).length<=SZ:=by rw[ZA,m.ls];exact(gI j)
 have A:=m.ba;have p:=u.ba;have o:=B.st;rw[<-i,<-f]at q;have r:ar iG (ab (cj (lOf (fAt (aa 0) (fC (.int 1))))) (ab (ar eX (ab (aa 0) ao)) (ab (aT (lOf (fAt (aa 0) (fC (.int 1))))) (ab (aT (lOf (fAt (aa 0) (fC (.int 2))))) ao)))) [some td] h=.ok (dw n T bs ss).enc c:=by
  have C:aT (lOf (fAt (aa 0) (fC (.int 1)))) [some td] h1=.ok (.ref h1.length) h2:=by rw[a];exact bD (bL (t _) (aC p)) F
  have w:aT (lOf (fAt (aa 0) (fC (.int 2)))) [some td] h2=.ok (.ref h2.length) c:=by rw[b];exact bD (bL (v _) (aC o)) y
  have G:cj (lOf (fAt (aa 0) (fC (.int 1)))) [some td] h=.ok (.int n) h:=by
   have:=c5 (bL (t h) (aC A));rwa[ZA,m.lb]at this
  exact ax (am G (am (ax (am rfl rfl) q) (am C (am w rfl)))) E
 have s:letGo h (.ok (dw n T bs ss).enc c)=.ok (dw n T bs ss).enc h:=by
  rw[b,a,f,ZU,ZU];exact cJ (wy _)
 rw[<-i];unfold jT bJ runB;rw[yD (by rfl)];show letGo h (match outE (ar iG _ [some td] h) _ _ with | .nx _ h=>_ | .rt d h=>_ | .exc x _ h=>_|_=>_)=_;rw[r];exact s
theorem Ld {x y:Int}(e:y=0\/y=1)(h:Hd):bU (.int x) (.int y) h=.ok (.int (x * y)) h:=Bt (by rw[Ft e,W9]) h
theorem yW (m:Md Z n M bs ss bk sk h)(ls:s.length=n)(B:ut s){i:Nat}(hi:i < n)(a:Option D) :
  bT none ((List.range n).map λk:Nat=>D.int k) (gN 0) [] (ag bU (fAt (fAt (aa 2) (aa 3)) (aa 0)) (fAt (aa 1) (aa 0))) ((List.range n).map λk:Nat=>D.int k) [a,some (aw s),some (.ref (Z + n)),some (.int i)] h=.ok (((List.range n).map λj=>M i j * s.getD j 0).map .int) h:=by
 have:=bK (g:=none) (all:=(List.range n).map λk:Nat=>D.int k) (tg:=gN 0) (cs:=[]) (e:=ag bU (fAt (fAt (aa 2) (aa 3)) (aa 0)) (fAt (aa 1) (aa 0))) (h:=h) (I:=λσ=>∃a,σ = [a,some (aw s),some (.ref (Z + n)),some (.int i)]) (λ_=>true) (λd=>match d with | .int j=>.int (M i j.toNat * s.getD j.toNat 0)|_=>.non) trivial
  (xs:=(List.range n).map λk:Nat=>D.int k) (σ:=[a,some (aw s),some (.ref (Z + n)),some (.int i)]) (by
   rintro x t σ ⟨c,rfl⟩;obtain⟨j,b,rfl⟩:=List.mem_map.mp t;have b:=List.mem_range.mp b;refine⟨_,rfl,⟨_,rfl⟩,rfl,λ_ => ?_⟩;have r:=Ak (A:=Z) hi;have v:=m.mt.ro i hi;have u:=DY (M:=M) (n:=n) (i:=i) b;have f:=m.mt.ti;have p:=lR (l:=s) (i:=j) (ls ▸ b);have q:fAt (fAt (aa 2) (aa 3)) (aa 0) [some (.int (j:Nat)),some (aw s),some (.ref (Z + n)),some (.int i)] h=.ok (.int (M i j)) h:=by
    exact aK (aK rfl rfl (aC f) r) rfl (aC v) u
   have o:fAt (aa 1) (aa 0) [some (.int (j:Nat)),some (aw s),some (.ref (Z + n)),some (.int i)] h=.ok (.int (s.getD j 0)) h:=by
    exact aK rfl rfl rfl p
   show ag bU (fAt (fAt (aa 2) (aa 3)) (aa 0)) (fAt (aa 1) (aa 0)) [some (.int (j:Nat)),some (aw s),some (.ref (Z + n)),some (.int i)] h=_;exact ah q o (Ld (B j) h)) ⟨_,rfl⟩
 rw[this,List.filter_eq_self.mpr (by simp),Z2,Z2];rfl
theorem IM (m:Md Z n M bs ss bk sk h)(L:LP n M n 0 T)(ls:s.length=n)(B:ut s) :
  eI [.tup [.ref (Z + n),.ref bk,.ref sk],aw s] h=.ok (aw (b4 (dw n T bs ss) n s)) h:=by
 have p:=m.n30;obtain⟨w,hw⟩ : ∃w,w=dw n T bs ss:=⟨_,rfl⟩;obtain⟨td,G⟩ : ∃td:D,td=.tup [.ref (Z + n),.ref bk,.ref sk]:=⟨_,rfl⟩;obtain⟨A,H⟩ : ∃A,A=h.length:=⟨_,rfl⟩;obtain⟨a0,h',Y,x6,x7,V,k2,k3⟩:=cy (P:=λi σ h'=>∃(a b c:Option D),σ = (XT td s Z n bk sk (some (.ref A)) a b c)/\h'=h++[.lst (((List.range i).map (bZ w s)).map .int)]) (g:=none) (k:=0)
   (all:=(List.range n).map λk:Nat=>D.int k) (λ_ _ _ _=>trivial)
   (xs:=(List.range n).map λk:Nat=>D.int k) (tg:=gN 6) (σ:=(XT td s Z n bk sk (some (.ref A)) none none none)) (h:=h++[.lst []]) (b:=nh) (by
   rintro i x σ h0 hx ⟨a,b,c,rfl,d⟩;obtain⟨hi,rfl⟩:=dh hx;rw[Z3]at d ⊢;have Q:Md Z n M bs ss bk sk h0:=by rw[d];exact m.more _
   have fc:=yW Q ls B hi none;have W:=lR (l:=s) (i:=i) (ls ▸ hi);have l3:i < ss.length:=by rw[m.ls];exact hi
   have C:=lR (l:=bs) (i:=i) (m.lb ▸ hi);have J:atI (ss.map bp) (i:Int)=some (bp (ss.getD i none)):=by rw[gU l3];simp[List.getD,l3]
   have r:=Q.ba;have st:=Q.st;have o:=yt (T:=T) (bs:=bs) (ss:=ss) (s:=s) hi;rw[<-hw]at o;obtain⟨P,hP⟩ : ∃P,P=bq (nbs T i) s:=⟨_,rfl⟩;have fe:=D5 L B hi;rw[<-hP]at fe o;have sm:cG (((List.range n).map λj=>M i j * s.getD j 0).map .int)=some ((List.range n).map λj=>M i j * s.getD j 0):=mY _;have X:((List.range n).map λj=>M i j * s.getD j 0).sum=P:=by rw[sO];exact fe
   generalize (List.range n).map (λj=>M i j * s.getD j 0)=FL at fc sm X;have K:aE (gN 7) (ag bU (fC (.int 2)) (pF (bO 1 [1,2,6] (br (cj (lOf (aa 3)))) (gN 0) [] (ag bU (fAt (fAt (aa 2) (aa 3)) (aa 0)) (fAt (aa 1) (aa 0)))))) (XT td s Z n bk sk (some (.ref A)) (some (.int i)) b c) h0=.nx (XT td s Z n bk sk (some (.ref A)) (some (.int i)) (some (.int (2 * P))) c) h0:=by
    have R:pF (bO 1 [1,2,6] (br (cj (lOf (aa 3)))) (gN 0) [] (ag bU (fAt (fAt (aa 2) (aa 3)) (aa 0)) (fAt (aa 1) (aa 0)))) (XT td s Z n bk sk (some (.ref A)) (some (.int i)) b c) h0=.ok (.int P) h0:=by
     rw[<-X];have I:=c5 (bL (a:=aa 3) (σ:=(XT td s Z n bk sk (some (.ref A)) (some (.int i)) b c)) rfl (aC r));rw[ZA,m.lb]at I;exact yk (cv (bY I (gI p)) fc) sm
    exact aA (ah rfl R (lP (by decide)))
   generalize ss.getD i none=u at J o;generalize bs.getD i 0=bb at C o;generalize s.getD i 0=x at W o;generalize 2 * P=F at K o;obtain⟨v,t⟩ : ∃v:Int,v=if bb < F then 1 else x:=⟨_,rfl⟩
   obtain⟨E,q⟩ : ∃E:Int,E=if F < bb then 0 else v:=⟨_,rfl⟩
   obtain⟨f,y⟩ : ∃f:Int,f=u.getD E:=⟨_,rfl⟩;have ny:bZ w s i=f:=by
    rw[o,y];cases u with
    | some z=>rfl
    | none =>
     simp only[Option.getD_none];rw[q,t];split<;>split<;>(try split)<;>omega
   have O:aE (gN 8) (fAt (aa 1) (aa 6)) (XT td s Z n bk sk (some (.ref A)) (some (.int i)) (some (.int F)) c) h0=.nx (XT td s Z n bk sk (some (.ref A)) (some (.int i)) (some (.int F)) (some (.int x))) h0:=aA (aK rfl rfl rfl W);have N:sIf (tE (ag oGt (aa 7) (fAt (aa 3) (aa 6)))) (aE (gN 8) (fC (.int 1))) bA (XT td s Z n bk sk (some (.ref A)) (some (.int i)) (some (.int F)) (some (.int x))) h0=.nx (XT td s Z n bk sk (some (.ref A)) (some (.int i)) (some (.int F)) (some (.int v))) h0:=by
    rw[t]
    by_cases e:bb < F
    ·rw[yD e];exact(ib (aV (ah rfl (aK rfl rfl (aC r) C) (Dt e)))).trans (aA rfl)
    ·rw[x3 e];exact cA (aV (ah rfl (aK rfl rfl (aC r) C) (ym e)))
   have S:sIf (tE (ag oLt (aa 7) (fAt (aa 3) (aa 6)))) (aE (gN 8) (fC (.int 0))) bA (XT td s Z n bk sk (some (.ref A)) (some (.int i)) (some (.int F)) (some (.int v))) h0=.nx (XT td s Z n bk sk (some (.ref A)) (some (.int i)) (some (.int F)) (some (.int E))) h0:=by
    rw[q]
    by_cases e:F < bb
    ·rw[yD e];exact(ib (aV (ah rfl (aK rfl rfl (aC r) C) (yj e)))).trans (aA rfl)
    ·rw[x3 e];exact cA (aV (ah rfl (aK rfl rfl (aC r) C) (Dp e)))
   have s5:sIf (tE (ag gJ (fAt (aa 4) (aa 6)) (fC .non))) (aE (gN 8) (fAt (aa 4) (aa 6))) bA (XT td s Z n bk sk (some (.ref A)) (some (.int i)) (some (.int F)) (some (.int E))) h0=.nx (XT td s Z n bk sk (some (.ref A)) (some (.int i)) (some (.int F)) (some (.int f))) h0:=by
    rw[y];cases u with
    | none=>exact cA (aV (ah (aK rfl rfl (aC st) J) rfl rfl))
    | some z=>exact(ib (aV (ah (aK rfl rfl (aC st) J) rfl rfl))).trans (aA (aK rfl rfl (aC st) J))
   have gA:h0[A]? = some (.lst (((List.range i).map (bZ w s)).map .int)):=by rw[d];exact f7 H _
   have lz:(((List.range i).map (bZ w s)).map D.int).length < SZ:=by rw[ZA,ZA,ZO];exact Z1 hi (ZS p (by decide))
   have U:h0.set A (.lst (((List.range i).map (bZ w s)).map .int++[.int f]))=h++[.lst (((List.range (i + 1)).map (bZ w s)).map .int)]:=by
    rw[d,kj H,XX,<-ny,ZR,ZR];rfl
   have s6:iP (jB (aa 5) (aa 8)) (XT td s Z n bk sk (some (.ref A)) (some (.int i)) (some (.int F)) (some (.int f))) h0=.nx (XT td s Z n bk sk (some (.ref A)) (some (.int i)) (some (.int F)) (some (.int f))) (h++[.lst (((List.range (i + 1)).map (bZ w s)).map .int)]):=by
    rw[<-U];exact iW (jQ rfl gA rfl gA lz)
   refine⟨_,rfl,(XT td s Z n bk sk (some (.ref A)) (some (.int i)) (some (.int F)) (some (.int f))),_,?_,_,_,_,rfl,rfl⟩;show ay _ _ (XT td s Z n bk sk (some (.ref A)) (some (.int i)) b c) h0=_;rw[bm K,bm O,bm N,bm S,bm s5,s6]) ⟨none,none,none,rfl,by simp⟩
 have e0:0 + ((List.range n).map λk:Nat=>D.int k).length=n:=by simp
 rw[e0]at k3;have b1:=(m.more [.lst []]).ba;have K:aE (gT [2,3,4]) (aa 0) [some td,some (aw s),none,none,none,none,none,none,none] h=.nx (XT td s Z n bk sk none none none none) h:=by rw[G];rfl
 have O:aE (gN 5) (aT ao) (XT td s Z n bk sk none none none none) h=.nx (XT td s Z n bk sk (some (.ref A)) none none none) (h++[.lst []]):=aA (lQ H rfl (YG _));have N:eu (br (cj (lOf (aa 3)))) (gN 6) nh (XT td s Z n bk sk (some (.ref A)) none none none) (h++[.lst []])=.nx (XT td s Z n bk sk (some (.ref A)) x6 x7 V) (h++[.lst ((b4 w n s).map .int)]):=by
  rw[k2,k3]at Y;have I:cj (lOf (aa 3)) (XT td s Z n bk sk (some (.ref A)) none none none) (h++[.lst []])=.ok (.int n) (h++[.lst []]):=by
   exact(c5 (bL rfl (aC b1))).trans (by rw[ZA,m.lb])
  exact ee (bY I (gI p)) Y
 have S:bj (fA (lOf (aa 5))) (XT td s Z n bk sk (some (.ref A)) x6 x7 V) (h++[.lst ((b4 w n s).map .int)])=.rt (aw (b4 w n s)) (h++[.lst ((b4 w n s).map .int)]):=by
  exact aX (f6 (bL rfl (aC (f7 H _))))
 have st:([td,aw s].map some++List.replicate (9 - [td,aw s].length) none:Sd)=[some td,some (aw s),none,none,none,none,none,none,none]:=rfl;rw[<-G,<-hw];unfold eI bJ runB;rw[yD (by rfl),st,bm K,bm O,bm N,S];exact cJ (sR _)
def wV (ss:List (Option Int)) (l:List Int):List Int:=(List.range l.length).map λi=>(ss.getD i none).getD (l.getD i 0)
theorem yX (m:Md Z n M bs ss bk sk h){l:List Int}(ll:l.length=n){k:Nat}(t:h[k]? = some (.lst (l.map .int))) :
  fG [.tup [.ref (Z + n),.ref bk,.ref sk],.ref k] h=.ok (aw (wV ss l)) h:=by
 have q:=m.n30;obtain⟨td,o⟩ : ∃td:D,td=.tup [.ref (Z + n),.ref bk,.ref sk]:=⟨_,rfl⟩;obtain⟨A,j⟩ : ∃A,A=h.length:=⟨_,rfl⟩;obtain⟨f,K⟩ : ∃f:Nat->Int,f=λi=>(ss.getD i none).getD (l.getD i 0):=⟨_,rfl⟩;have p:k < h.length:=(List.getElem?_eq_some_iff.mp t).1;obtain⟨U,L,G,H,V,J⟩:=cy (P:=λi σ L=>∃(a:Option D),σ = [some td,some (.ref k),some (.ref A),a]/\L=h++[.lst (((List.range i).map f).map .int)]) (g:=none) (k:=0)
   (all:=(List.range n).map λk:Nat=>D.int k) (λ_ _ _ _=>trivial)
   (xs:=(List.range n).map λk:Nat=>D.int k) (tg:=gN 3) (σ:=[some td,some (.ref k),some (.ref A),none]) (h:=h++[.lst []]) (b:=i5) (by
   rintro i x σ h0 Y ⟨a,rfl,d⟩;obtain⟨hi,rfl⟩:=dh Y;rw[Z3]at d ⊢;have m0:Md Z n M bs ss bk sk h0:=by rw[d];exact m.more _
   have O:h0[k]? = some (.lst (l.map .int)):=by rw[d,ZC p];exact t
   have I:i < ss.length:=by rw[m.ls];exact hi
   have F:=lR (l:=l) (i:=i) (ll ▸ hi);have E:atI (ss.map bp) (i:Int)=some (bp (ss.getD i none)):=by rw[gU I];simp[List.getD,I]
   have r:f i=(ss.getD i none).getD (l.getD i 0):=by rw[K]
   generalize l.getD i 0=x at F r;generalize ss.getD i none=u at E r;have N:h0[A]? = some (.lst (((List.range i).map f).map .int)):=by rw[d];exact f7 j _
   have S:(((List.range i).map f).map D.int).length < SZ:=by rw[ZA,ZA,ZO];exact Z1 hi (ZS q (by decide))
   have y:h0.set A (.lst (((List.range i).map f).map .int++[.int x]))=h++[.lst (((List.range i).map f++[x]).map .int)]:=by rw[d,kj j,ZR];rfl
   have B:iP (jB (aa 2) (fAt (aa 1) (aa 3))) [some td,some (.ref k),some (.ref A),some (.int i)] h0=.nx [some td,some (.ref k),some (.ref A),some (.int i)] (h++[.lst (((List.range i).map f++[x]).map .int)]):=by
    rw[<-y];exact iW (jQ rfl N (aK rfl rfl (aC O) F) N S)
   obtain⟨h1,c⟩ : ∃h1,h1=h++[bE.lst (((List.range i).map f++[x]).map .int)]:=⟨_,rfl⟩;have W:Md Z n M bs ss bk sk h1:=by rw[c];exact m.more _
   have s:fAt (fAt (aa 0) (fC (.int 2))) (aa 3) [some td,some (.ref k),some (.ref A),some (.int i)] h1=.ok (bp u) h1:=by
    have st:=W.st;rw[o];exact aK (aK rfl rfl rfl rfl) rfl (aC st) E
   have g1:h1[A]? = some (.lst (((List.range i).map f++[x]).map .int)):=by rw[c];exact f7 j _
   have w:sIf (tE (ag gJ (fAt (fAt (aa 0) (fC (.int 2))) (aa 3)) (fC .non))) (lm (aa 2) (aa 3) (fAt (fAt (aa 0) (fC (.int 2))) (aa 3))) bA [some td,some (.ref k),some (.ref A),some (.int i)] h1=.nx [some td,some (.ref k),some (.ref A),some (.int i)] (h++[.lst (((List.range (i + 1)).map f).map .int)]):=by
    have C:((List.range i).map f).length=i:=by simp
    cases u with
    | none =>
     have e:h1=h++[.lst (((List.range (i + 1)).map f).map .int)]:=by rw[c,XX];simp[r]
     rw[<-e];exact cA (aV (ah s rfl rfl))
    | some z =>
     have ix:ixN (((List.range i).map f++[x]).map D.int).length (i:Int)=some i:=pf (by rw[ZA,ZB,C];exact Z4 _);have e:h1.set A (.lst ((((List.range i).map f++[x]).map .int).set i (.int z)))=h++[.lst (((List.range (i + 1)).map f).map .int)]:=by
      have Q:f i=z:=r;rw[c,j,XX];simp[Q,List.set_append_right]
     rw[<-e];exact(ib (aV (ah s rfl rfl))).trans (qe s rfl rfl g1 ix)
   refine⟨_,rfl,[some td,some (.ref k),some (.ref A),some (.int i)],_,?_,_,rfl,rfl⟩;show ay _ _ [some td,some (.ref k),some (.ref A),some (.int i)] h0=_;rw[bm B,<-c,w]) ⟨none,rfl,by simp⟩
 have X:0 + ((List.range n).map λk:Nat=>D.int k).length=n:=by simp
 rw[X]at J;have v:(h++[bE.lst []])[k]? = some (.lst (l.map .int)):=by rw[ZC p];exact t
 have B:aE (gN 2) (aT ao) [some td,some (.ref k),none,none] h=.nx [some td,some (.ref k),some (.ref A),none] (h++[.lst []]):=aA (lQ j rfl (YG _));have w:eu (br (cj (lOf (aa 1)))) (gN 3) i5 [some td,some (.ref k),some (.ref A),none] (h++[.lst []])=.nx [some td,some (.ref k),some (.ref A),H] (h++[.lst ((wV ss l).map .int)]):=by
  rw[V,J]at G;have R:cj (lOf (aa 1)) [some td,some (.ref k),some (.ref A),none] (h++[.lst []])=.ok (.int n) (h++[.lst []]):=by
   exact(c5 (bL rfl (aC v))).trans (by rw[ZA,ll])
  exact(ee (bY R (gI q)) G).trans (by rw[wV,ll,K])
 have T:bj (fA (lOf (aa 2))) [some td,some (.ref k),some (.ref A),H] (h++[.lst ((wV ss l).map .int)])=.rt (aw (wV ss l)) (h++[.lst ((wV ss l).map .int)]):=by
  exact aX (f6 (bL rfl (aC (f7 j _))))
 have st:([td,D.ref k].map some++List.replicate (4 - [td,D.ref k].length) none:Sd)=[some td,some (.ref k),none,none]:=rfl;rw[<-o];unfold fG bJ runB;rw[yD (by rfl),st,bm B,bm w,T];exact cJ (sR _)
end
theorem yY (A B:Nat->List (Nat × Int))(f s:Nat->Int):∀n,S2 (λk=>A k++B k) f s n=S2 A f s n + S2 B f s n
 | 0=>rfl
 | k + 1=>by
  simp only[S2,yY A B f s k,ZR,List.sum_append];omega
theorem yZ (f s:Nat->Int):∀n,S2 (λ_=>[]) f s n=0
 | 0=>rfl
 | k + 1=>by simp[S2,yZ f s k]
theorem Le {l m:List Int}(p:l.Perm m):l.sum=m.sum:=by
 induction p with
 | nil=>rfl
 | cons x _ ih=>simp[ih]
 | swap x y l=>simp only[W2];omega
 | trans _ _ a b=>exact a.trans b
theorem An {A B:Nat->List (Nat × Int)}(f s:Nat->Int):∀n,(∀i,i < n->(A i).Perm (B i))->S2 A f s n=S2 B f s n
 | 0,_=>rfl
 | k + 1,h=>by
  have p:=Le ((h k (Z4 k)).map λp:Nat × Int=>p.2 * f p.1 * s k);simp only[S2,An f s k λi hi=>h i (v4 hi),p]
def uJ (t:Tie) (i:Nat):List (Nat × Int):=match far i t with|some j=>[(j,t.w)] | none=>[]
theorem Ka (t:Tie):uJ t t.a=[(t.b,t.w)]:=by simp[uJ,far]
theorem Kb {t:Tie}(h:t.a≠t.b):uJ t t.b=[(t.a,t.w)]:=by simp[uJ,far,h]
theorem Kc {t:Tie}{i:Nat}(h1:t.a≠i)(h2:t.b≠i):uJ t i=[]:=by simp[uJ,far,h1,h2]
theorem y4 (t:Tie)(d:t.a≠t.b)(f s:Nat->Int):∀n,S2 (uJ t) f s n=(if t.a < n then t.w * f t.b * s t.a else 0) + (if t.b < n then t.w * f t.a * s t.b else 0)
 | 0=>rfl
 | k + 1=>by
  simp only[S2,y4 t d f s k]
  by_cases a:t.a=k
  ·subst a
   rw[Ka];have h1 : ¬t.a < t.a:=Z9 _
   by_cases b:t.b < t.a
   ·simp[b,v4 b];omega
   ·have : ¬t.b < t.a + 1:=by omega
    simp[b,this]
  ·by_cases b:t.b=k
   ·subst b
    rw[Kb d]
    by_cases c:t.a < t.b
    ·simp[c,v4 c]
    ·have : ¬t.a < t.b + 1:=by omega
     simp[c,this]
   ·rw[Kc a b]
    have h1:t.a < k + 1 ↔ t.a < k:=by omega
    have h2:t.b < k + 1 ↔ t.b < k:=by omega
    simp[h1,h2]
theorem D6 {n:Nat}(f s:Nat->Int):∀T:List Tie,(∀t∈T,t.a≠t.b)->(∀t∈T,t.a < n/\t.b < n)->S2 (nbs T) f s n=S2 (nbs T) s f n
 | [],_,_=>by
  have:nbs [] = λ_=>[]:=by funext i;rfl
  rw[this,yZ,yZ]
 | t :: T,h,l=>by
  have e:nbs (t :: T)=λk=>uJ t k++nbs T k:=by
   funext i;unfold nbs uJ;rw[X5];cases far i t<;>rfl
  obtain⟨d,c⟩:=l t (.head _);rw[e,yY,yY,D6 f s T (λa b=>h a (.tail _ b)) (λa b=>l a (.tail _ b)),y4 t (h t (.head _)),y4 t (h t (.head _)),yD d,yD c,yD d,yD c];rw[Int.mul_right_comm t.w (f t.b),Int.mul_right_comm t.w (f t.a)];omega
theorem Kd (x:Nat × Int):∀r,(oJ x r).Perm (x :: r)
 | []=>.refl _
 | y :: r=>by
  unfold oJ;split
  ·exact .refl _
  ·exact((Kd x r).cons y).trans (.swap x y r)
theorem Gy:∀r,(fF r).Perm r
 | []=>.refl _
 | x :: r=>(Kd x _).trans ((Gy r).cons x)
theorem FP (O:TOk n n 0 T)(bs:List Int)(ss:List (Option Int))(f s:Nat->Int):S2 (λi=>(dw n T bs ss).ties.getD i []) f s n=S2 (λi=>(dw n T bs ss).ties.getD i []) s f n:=by
 have c:∀f s,S2 (λi=>(dw n T bs ss).ties.getD i []) f s n=S2 (nbs T) f s n:=λf s=>An f s n λi hi=>by
  have e:(dw n T bs ss).ties.getD i [] = fF (nbs T i):=by simp[dw,List.getD,hi]
  rw[e];exact Gy _
 rw[c,c,D6 f s T O.ne O.lt]
theorem php:∀(N t:Nat) (f:Nat->Nat),(∀i,i<=t->f i < N)->(∀i j,i < j->j<=t->f i≠f j)->t + 1<=N
 | 0,t,f,h,_=>by have:=h 0 (YG _);omega
 | N + 1,0,f,_,_=>by omega
 | N + 1,t + 1,f,h,d=>by
  have b:=h (t + 1) (ZL _);have:=php N t (λi=>if f i < f (t + 1) then f i else f i - 1) (λi hi=>by
   have h1:=h i (by omega);have h2:=d i (t + 1) (by omega) (ZL _);split<;>omega) (λi j a c=>by
   have h1:=d i j a (by omega);have h2:=d i (t + 1) (by omega) (ZL _);have e:=d j (t + 1) (by omega) (ZL _);split<;>split<;>omega)
  omega
def rA:List Int->Nat
 | []=>0
 | x :: xs=>2 * rA xs + x.toNat
theorem Ao:∀xs:List Int,(∀x∈xs,x=0\/x=1)->rA xs < 2 ^ xs.length
 | [],_=>by decide
 | x :: xs,h=>by
  have b:=Ao xs λy a=>h y (.tail _ a);rw[Y7,Nat.pow_succ];show 2 * rA xs + x.toNat < _;rcases h x (.head _) with e|e<;>subst e<;>simp<;>omega
theorem wW:∀xs ys:List Int,xs.length=ys.length->(∀x∈xs,x=0\/x=1)->(∀x∈ys,x=0\/x=1)->rA xs=rA ys->xs=ys
 | [],[],_,_,_,_=>rfl
 | [],_ :: _,h,_,_,_=>by simp at h
 | _ :: _,[],h,_,_,_=>by simp at h
 | x :: xs,y :: ys,h,b1,b2,c=>by
  have c:2 * rA xs + x.toNat=2 * rA ys + y.toNat:=c;have e:x=y/\rA xs=rA ys:=by
   rcases b1 x (.head _) with e|e<;>rcases b2 y (.head _) with e'|e'<;>subst e e'<;>simp at c ⊢<;>omega
  rw[e.1,wW xs ys (by simpa using h) (λz a=>b1 z (.tail _ a)) (λz a=>b2 z (.tail _ a)) e.2]
structure Go (w:Web) (n:Nat):Prop where
 W:w.Ok n
 n8:n<=8
 S:dM w
 more:Fz w w n
 sym:∀f s,S2 (λi=>w.ties.getD i []) f s n=S2 (λi=>w.ties.getD i []) s f n
theorem Go.n30 {w:Web}(G:Go w n):n<=30:=ZM G.n8 (by decide)
structure rC (w:Web) (n:Nat) (s:List Int) (t:Nat):Prop where
 ht:aD w n s (t + 2)=aD w n s t
 hm:∀k,k < t->aD w n s (k + 2)≠aD w n s k
 hz:t<=900000
theorem Go.fin {w:Web}(G:Go w n)(F:c0 w n s):∃t,rC w n s t:=by
 obtain⟨t,f,c⟩:=K9 G.W G.S F G.sym;have:=php 256 t (λi=>rA (aD w n s i)) (λi _=>by
  have h1:=Ao (aD w n s i) (bh G.W G.S F i).op;rw[(bh G.W G.S F i).len]at h1;exact ZZ h1 (WN (by decide) G.n8)) (λi j d o e=>by
  have a:=bh G.W G.S F i;have b:=bh G.W G.S F j;have q:=wW _ _ (by rw[a.len,b.len]) a.op b.op e;have h:=Gs G.W G.S F G.sym (k:=i) (c i (by omega));have g:=Gu G.W G.S F G.sym (k:=i + 1) (m:=j) (by omega);have l:eN w n s i=eN w n s j:=by
   unfold eN;show eF w (aD w n s i) (b4 w n (aD w n s i)) n=eF w (aD w n s j) (b4 w n (aD w n s j)) n;rw[q]
  omega)
 exact⟨t,f,c,by omega⟩
structure Ap (w:Web) (n:Nat) (s:List Int) (t:Nat):Prop where
 re:aD w n s (t + 1)=aD w n s t
 no:(0:Int)∉aD w n s (t + 1)
section
variable {w:Web} {n:Nat} {s s':List Int} {t t':Nat}
theorem pv (F:c0 w n s)(no:(0:Int)∉s):s=List.replicate n 1:=by
 have l:s.length=n:=F.len;apply List.ext_getElem (by rw[l,XY]);intro i h1 h2;have b:=fE F i;rw[ZF,ZE h1]at b;rw[List.getElem_replicate];rcases b with b|b
 ·exact absurd (b ▸ YE h1) no
 ·exact b
theorem Aq (e:aD w n s (t + 1)=aD w n s t):∀j,aD w n s (t + j)=aD w n s t
 | 0=>rfl
 | j + 1=>by
  have:=qz (t + 1) t e j;rw[<-Aq e j,<-this];congr 1;omega
theorem y6 (e:aD w n s (t + 2)=aD w n s t)(i:Nat):∀m,aD w n s (t + i + 2 * m)=aD w n s (t + i)
 | 0=>rfl
 | m + 1=>by
  have h1:=qz (t + 2) t e (i + 2 * m);have h2:=y6 e i m;rw[<-h2];rw[show t + i + 2 * (m + 1)=t + 2 + (i + 2 * m) by omega,h1];congr 1;omega
theorem FQ {x:List Int}(F:c0 w n x)(le:LeS (List.replicate n 1) x):x=List.replicate n 1:=by
 refine pv F λz => ?_;obtain⟨i,hi,e⟩:=VC z;have h1:=le i;have a:i < n:=by rw[<-F.len];exact hi
 rw[ZF,ZF,ZE hi,ZE (by rw[XY];exact a),List.getElem_replicate,e]at h1;simp at h1
theorem Bx (G:Go w n)(F:c0 w n s)(d:c0 w n s')(le:LeS s s')(T:Ap w n s t)(a:rC w n s' t'):Ap w n s' t':=by
 have g:=sN G.W G.W G.S G.S G.more F d le;have f:∀j,aD w n s (t + j)=List.replicate n 1:=λj=>by
  rw[Aq T.re j,<-T.re];exact pv (bh G.W G.S F _) T.no
 have c:∀j,aD w n s' (t + j)=List.replicate n 1:=λj=>FQ (bh G.W G.S d _) (by rw[<-f j];exact g _);have e:aD w n s' t'=List.replicate n 1:=by
  have h1:=y6 a.ht 0 t;rw[<-show t' + 0=t' from rfl,<-h1,<-c (t' + t)];congr 1;omega
 have b:aD w n s' (t' + 1)=List.replicate n 1:=by
  rw[<-y6 a.ht 1 t,<-c (t' + 1 + t)];congr 1;omega
 exact⟨b.trans e.symm,λz=>by rw[b]at z;exact absurd (List.eq_of_mem_replicate z) (by decide)⟩
theorem IN {l':List Nat}(h:∀x∈l,x∈l'):LeS (ca w n l) (ca w n l'):=λi=>by
 by_cases hi:i < n
 ·have e:∀m:List Nat,(ca w n m).getD i 0=if i∈m\/w.stays.getD i none=some 1 then 1 else 0:=λm=>by
   unfold ca;rw[ZF,ZQ,List.getElem?_range hi];rfl
  rw[e,e]
  by_cases c:i∈l\/w.stays.getD i none=some 1
  ·rw[yD c,yD (c.imp (h i) id)];exact XI _
  ·rw[x3 c]
   split<;>decide
 ·have e:∀m:List Nat,(ca w n m).getD i 0=0:=λm=>by
   unfold ca;rw[ZF,List.getElem?_eq_none (by simp;omega)];rfl
  rw[e,e];exact XI _
theorem rC.one (a:rC w n s t)(b:rC w n s t'):t=t':=by
 rcases Nat.lt_trichotomy t t' with c|c|c
 ·exact absurd a.ht (b.hm t c)
 ·exact c
 ·exact absurd b.ht (a.hm t' c)
open Classical in
def tb (w:Web) (n:Nat) (l:List Nat):Bool:=decide (∃t,rC w n (ca w n l) t/\Ap w n (ca w n l) t)
theorem oA (E:rC w n (ca w n l) t):tb w n l=true ↔ Ap w n (ca w n l) t:=by
 unfold tb;exact(@decide_eq_true_iff _ (Classical.propDecidable _)).trans ⟨λ⟨t',a,T⟩=>E.one a ▸ T,λT=>⟨t,E,T⟩⟩
theorem Ke (E:rC w n (ca w n l) t):wR w n (ca w n l) t=if tb w n l=true then TRN else NOT:=by
 unfold wR
 by_cases c:aD w n (ca w n l) (t + 1)=aD w n (ca w n l) t
 ·rw[yD c]
  by_cases z:(0:Int)∈aD w n (ca w n l) (t + 1)
  ·rw[yD z,x3 λq=>((oA E).mp q).no z]
  ·rw[x3 z,yD ((oA E).mpr ⟨c,z⟩)]
 ·rw[x3 c,x3 λq=>c ((oA E).mp q).re]
theorem FR (G:Go w n)(C:Ch w n l):px w n (ca w n l) (tb w n l):=by
 obtain⟨t,E⟩:=G.fin (dk G.W G.S C);exact⟨t,E.hz,E.ht,E.hm,Ke E⟩
theorem FS (G:Go w n){l':List Nat}(C:Ch w n l)(b:Ch w n l')(h:∀x∈l,x∈l')(q:tb w n l=true):tb w n l'=true:=by
 obtain⟨t,E⟩:=G.fin (dk G.W G.S C);obtain⟨t',a⟩:=G.fin (dk G.W G.S b);exact(oA a).mpr (Bx G (dk G.W G.S C) (dk G.W G.S b) (IN h) ((oA E).mp q) a)
theorem FT (G:Go w n)(C:Ch w n l)(E:rC w n (ca w n l) t):(!decide ((0:Int)∈aD w n (ca w n l) (t + 1)) && !decide ((0:Int)∈aD w n (ca w n l) t))=tb w n l:=by
 have F:=dk G.W G.S C
 by_cases a:(0:Int)∈aD w n (ca w n l) (t + 1)
 ·rw[w8 a]
  cases c:tb w n l with
  | false=>rfl
  | true=>exact absurd a ((oA E).mp c).no
 ·rw[ZY a]
  by_cases b:(0:Int)∈aD w n (ca w n l) t
  ·rw[w8 b]
   cases c:tb w n l with
   | false=>rfl
   | true=>have:=((oA E).mp c).re;rw[this]at a;exact absurd b a
  ·rw[ZY b]
   exact((oA E).mpr ⟨(pv (bh G.W G.S F _) a).trans (pv (bh G.W G.S F _) b).symm,a⟩).symm
theorem D7 (G:Go w n)(C:Ch w n l){k:Nat}(a:h[k]? = some (.lst (NL l))):∃L g,b5 [w.enc,.ref k] h=.ok (.tup [if tb w n l=true then TRN else NOT,L]) (h++g):=by
 obtain⟨t,E⟩:=G.fin (dk G.W G.S C);have:=md G.W G.n30 G.S C a rfl E.ht E.hm E.hz;rw[Ke E]at this;exact⟨_,_,this⟩
end
section
variable {Z n:Nat} {M:Nat->Nat->Int} {bs:List Int} {ss:List (Option Int)} {bk sk:Nat} {h:Hd} {T:List Tie} {w:Web} {td:D}
structure Lw (Z n:Nat) (M:Nat->Nat->Int) (bs:List Int) (ss:List (Option Int)) (bk sk:Nat) (T:List Tie) (w:Web) (td:D) (h:Hd):Prop where
 m:Md Z n M bs ss bk sk h
 L:LP n M n 0 T
 w':w=dw n T bs ss
 t':td=.tup [.ref (Z + n),.ref bk,.ref sk]
theorem Lw.more (l:Lw Z n M bs ss bk sk T w td h)(g:Hd):Lw Z n M bs ss bk sk T w td (h++g):=⟨l.m.more g,l.L,l.w',l.t'⟩
theorem Lw.turn (l:Lw Z n M bs ss bk sk T w td h)(F:c0 w n s):eI [td,aw s] h=.ok (aw (b4 w n s)) h:=by
 rw[l.w',l.t'];exact IM l.m l.L F.len λi=>fE F i
theorem Lw.many (l:Lw Z n M bs ss bk sk T w td h)(e : σ[0]? = some (some td)):cj (lOf (fAt (aa 0) (fC (.int 1)))) σ h=.ok (.int (n:Nat)) h:=by
 have v:aa 0 σ h=.ok td h:=by simp only[aa,slot,e]
 rw[l.t']at v;refine YI (c5 (bL (aK v rfl rfl rfl) (aC l.m.ba))) ?_;rw[ZA,l.m.lb]
theorem y7 (G:Go w n)(l:Lw Z n M bs ss bk sk T w td h){t:Nat}(F:c0 w n s)(E:rC w n s t):ku [td,aw s] h=.ok (.ref h.length) (h++[.lst ((aL w n s (t + 2)).map aw)]):=by
 have len:∀k,(aD w n s k).length=n:=λk=>(bh G.W G.S F k).len;have d:∀k x,aE (gN 3) (ar eI (ab (aa 0) (ab (fAt (aa 2) (fC (.int (-1)))) ao))) [some td,some (aw s),some (.ref h.length),x] (h++[.lst ((aL w n s (k + 2)).map aw)])=.nx [some td,some (aw s),some (.ref h.length),some (aw (aD w n s (k + 2)))] (h++[.lst ((aL w n s (k + 2)).map aw)]):=λk x=>by
  have q:atI ((aL w n s (k + 2)).map aw) (-1)=some (aw (aD w n s (k + 1))):=eG (k + 1) 1 (by decide);exact aA (ax (cm rfl (aK rfl rfl (aC ZG) q)) ((l.more _).turn (bh G.W G.S F (k + 1))))
 have c:∀k,tE (ag oEq (aa 3) (fAt (aa 2) (fC (.int (-2))))) [some td,some (aw s),some (.ref h.length),some (aw (aD w n s (k + 2)))] (h++[.lst ((aL w n s (k + 2)).map aw)])=.ok (decide (aD w n s (k + 2)=aD w n s k)) (h++[.lst ((aL w n s (k + 2)).map aw)]):=λk=>by
  have m:atI ((aL w n s (k + 2)).map aw) (-2)=some (aw (aD w n s k)):=eG k 2 (by decide);exact aV (ah rfl (aK rfl rfl (aC ZG) m) (Ac ((len _).trans (len _).symm) _))
 have e:∀j k x,k + j=t->cY (tE (fC (.bl true))) i7 (j + 1) [some td,some (aw s),some (.ref h.length),x] (h++[.lst ((aL w n s (k + 2)).map aw)])=.rt (.ref h.length) (h++[.lst ((aL w n s (t + 2)).map aw)]):=by
  intro j
  induction j with
  | zero =>
   intro k x f;have f:k=t:=f;subst f;have b:=c k;rw[w8 E.ht]at b;have a:i7 [some td,some (aw s),some (.ref h.length),x] (h++[.lst ((aL w n s (k + 2)).map aw)])=.rt (.ref h.length) (h++[.lst ((aL w n s (k + 2)).map aw)]):=sx (d k x) (ow ((ib b).trans (aX rfl)));rw[cY];simp only[tE,asB,fC,aP,a]
  | succ j ih =>
   intro k x f;have b:=c k;rw[ZY (E.hm k (by omega))]at b;have g:((aL w n s (k + 2)).map aw).length < SZ:=by rw[ZA,gm];have:=E.hz;simp only[SZ];omega
   have a:i7 [some td,some (aw s),some (.ref h.length),x] (h++[.lst ((aL w n s (k + 2)).map aw)])=.nx [some td,some (aw s),some (.ref h.length),some (aw (aD w n s (k + 2)))] (h++[.lst ((aL w n s (k + 1 + 2)).map aw)]):=by
    rw[show aL w n s (k + 1 + 2)=aL w n s (k + 2)++[aD w n s (k + 2)] from qi (k + 2),ZR];exact sx (d k x) (sx (cA b) ((iW (jQ rfl ZG rfl ZG g)).trans (by rw[kj rfl];rfl)))
   rw[cY];simp only[tE,asB,fC,aP,a];exact ih (k + 1) _ (by omega)
 have o:=sH (e t 0 none (Z3 t)) (by simp);have i : [aw s,aw (b4 w n s)] = (aL w n s 2).map aw:=by simp[aL,XX,aD]
 have p:aE (gN 2) (aT (ab (aa 1) (ab (ar eI (ab (aa 0) (ab (aa 1) ao))) ao))) [some td,some (aw s),none,none] h=.nx [some td,some (aw s),some (.ref h.length),none] (h++[.lst ((aL w n s (0 + 2)).map aw)]):=by
  rw[show 0 + 2=2 from rfl,<-i];exact aA (bD (am rfl (am (ax (cm rfl rfl) (l.turn F)) rfl)))
 exact(bI (σ:=[some td,some (aw s),none,none]) rfl rfl (sx p o)).trans cZ
theorem FU (G:Go w n)(b:w.stays=ss){c:List Nat}(C:Ch w n c):wV ss ((List.range n).map λi=>b2i (decide (i∈c)))=ca w n c:=by
 subst b;unfold wV ca;rw[ZA,ZO];refine YX λi hi => ?_;have hi:=List.mem_range.mp hi;have e:((List.range n).map λi=>b2i (decide (i∈c))).getD i 0=b2i (decide (i∈c)):=by simp[List.getD,hi]
 rw[e];have mem:w.stays.getD i none∈w.stays:=by
  have a:i < w.stays.length:=by rw[G.W.s];exact hi
  rw[ZF,ZE a];exact YE a
 have no:=λhc=>C.no i hc;rcases G.S _ mem with z|z|z<;>rw[z]at no ⊢
 ·by_cases c':i∈c
  ·simp[c']
  ·simp[c']
 ·by_cases c':i∈c
  ·exact absurd rfl (no c')
  ·simp[c']
 ·simp
theorem FV {c:List Nat}{k:Nat}(f:h[k]? = some (.lst (NL c)))(a:Option D):bT none ((List.range n).map λk:Nat=>D.int k) (gN 0) [] (qM (ag oIn (aa 0) (aa 1))) ((List.range n).map λk:Nat=>D.int k) [a,some (.ref k)] h=.ok (((List.range n).map λi=>b2i (decide (i∈c))).map D.int) h:=by
 have:=bK (g:=none) (all:=(List.range n).map λk:Nat=>D.int k) (tg:=gN 0) (cs:=[]) (e:=qM (ag oIn (aa 0) (aa 1))) (h:=h) (I:=λσ=>∃a,σ = [a,some (.ref k)]) (λ_=>true) (λd=>match d with | .int i=>.int (b2i (decide (i.toNat∈c)))|_=>.non) trivial (xs:=(List.range n).map λk:Nat=>D.int k) (σ:=[a,some (.ref k)]) (by
  rintro x b σ ⟨a,rfl⟩;obtain⟨i,hi,rfl⟩:=List.mem_map.mp b;exact⟨_,rfl,⟨_,rfl⟩,rfl,λ_=>Dr (ah rfl rfl (Af f i))⟩) ⟨_,rfl⟩
 rw[this,List.filter_eq_self.mpr (λ_ _=>rfl),Z2,Z2];rfl
theorem y8 (G:Go w n)(l:Lw Z n M bs ss bk sk T w td h){c:List Nat}(C:Ch w n c){k:Nat}(m:h[k]? = some (.lst (NL c))):dU [td,.ref k] h=.ok (.bl (tb w n c)) h:=by
 obtain⟨t,E⟩:=G.fin (dk G.W G.S C);have o:w.stays=ss:=by rw[l.w'];rfl
 have r:=G.n30;have j:aT (bO 1 [1] (br (cj (lOf (fAt (aa 0) (fC (.int 1)))))) (gN 0) [] (qM (ag oIn (aa 0) (aa 1)))) [some td,some (.ref k),none,none] h=.ok (.ref h.length) (h++[.lst (((List.range n).map λi=>b2i (decide (i∈c))).map D.int)]):=bD (cv (bY (l.many rfl) (by omega)) (FV m none)) (by simp[SZ];omega);have f:=yX (l.more [.lst (((List.range n).map λi=>b2i (decide (i∈c))).map D.int)]).m (by simp) ZG;rw[FU G o C,<-l.t']at f;have e:=y7 G (l.more [.lst (((List.range n).map λi=>b2i (decide (i∈c))).map D.int)]) (dk G.W G.S C) E;have s:atI ((aL w n (ca w n c) (t + 2)).map aw) (-1)=some (aw (aD w n (ca w n c) (t + 1))):=eG (t + 1) 1 (by decide);have q:atI ((aL w n (ca w n c) (t + 2)).map aw) (-2)=some (aw (aD w n (ca w n c) t)):=eG t 2 (by decide);obtain⟨a,b⟩ : ∃a,a=h++[bE.lst (((List.range n).map λi=>b2i (decide (i∈c))).map D.int)]++[bE.lst ((aL w n (ca w n c) (t + 2)).map aw)]:=⟨_,rfl⟩;obtain⟨A,d⟩ : ∃A,A=(h++[bE.lst (((List.range n).map λi=>b2i (decide (i∈c))).map D.int)]).length:=⟨_,rfl⟩;have g:a[A]? = some (.lst ((aL w n (ca w n c) (t + 2)).map aw)):=by rw[b,d];exact ZG
 rw[<-d,<-b]at e;have x1:tE (ag hJ (fC (.int 0)) (fAt (aa 3) (fC (.int (-1))))) [some td,some (.ref k),some (aw (ca w n c)),some (.ref A)] a=.ok (!decide ((0:Int)∈aD w n (ca w n c) (t + 1))) a:=aV (ah rfl (aK rfl rfl (aC g) s) (sS _ 0 _));have p:tE (ag hJ (fC (.int 0)) (fAt (aa 3) (fC (.int (-2))))) [some td,some (.ref k),some (aw (ca w n c)),some (.ref A)] a=.ok (!decide ((0:Int)∈aD w n (ca w n c) t)) a:=aV (ah rfl (aK rfl rfl (aC g) q) (sS _ 0 _));have u:jy (tE (ag hJ (fC (.int 0)) (fAt (aa 3) (fC (.int (-1)))))) (tE (ag hJ (fC (.int 0)) (fAt (aa 3) (fC (.int (-2)))))) [some td,some (.ref k),some (aw (ca w n c)),some (.ref A)] a=.ok (tb w n c) a:=by
  rw[<-FT G C E];cases c1:decide ((0:Int)∈aD w n (ca w n c) (t + 1)) with
  | true=>rw[c1]at x1;exact o7 x1
  | false=>rw[c1]at x1;exact iX x1 p
 refine YI (bI (σ:=[some td,some (.ref k),none,none]) rfl rfl (sx (aA (ax (cm rfl j) f)) (sx (aA (ax (cm rfl rfl) e)) (aX (ou u))))) ?_;rw[b,ZU];exact cJ rfl
end
theorem wX:∀(l:List Nat) (a:List (List Nat)) (v:List Nat),v∈l.foldl (λa p=>a++a.map (· ++ [p])) a ↔ ∃u∈a,∃s,s.Sublist l/\v=u++s
 | [],a,v=>by
  constructor
  ·intro h;exact⟨v,h,[],.slnil,by simp⟩
  ·rintro⟨u,b,s,c,rfl⟩
   rw[List.sublist_nil.mp c,Y3];exact b
 | p :: l,a,v=>by
  rw[XB,wX l];constructor
  ·rintro⟨u,b,s,c,rfl⟩
   rcases List.mem_append.mp b with b|b
   ·exact⟨u,b,s,c.cons p,rfl⟩
   ·obtain⟨e,d,rfl⟩:=List.mem_map.mp b
    exact⟨e,d,p :: s,c.cons₂ p,by simp⟩
  ·rintro⟨u,b,s,c,rfl⟩
   rcases List.sublist_cons_iff.mp c with c|⟨r,rfl,hr⟩
   ·exact⟨u,List.mem_append.mpr (.inl b),s,c,rfl⟩
   ·exact⟨u++[p],List.mem_append.mpr (.inr (List.mem_map.mpr ⟨u,b,rfl⟩)),r,hr,by simp⟩
theorem iJ {v:List Nat}:v∈dX l ↔ v.Sublist l:=by
 unfold dX;rw[wX];constructor
 ·rintro⟨u,a,s,b,rfl⟩
  rw[YL.mp a];exact b
 ·intro h;exact⟨[],.head _,v,h,rfl⟩
def mi (j i:Nat):Bool:=decide (j / 2 ^ i % 2=1)
def pick (l:List Nat) (j:Nat):List Nat:=((List.range l.length).filter (mi j)).map λi=>l.getD i 0
theorem FW {j k:Nat}(h:j < 2 ^ k):mi j k=false:=by unfold mi;rw[Nat.div_eq_of_lt h];rfl
theorem FX {j k:Nat}(h:j < 2 ^ k):mi (2 ^ k + j) k=true:=by
 unfold mi;rw[Nat.add_div_left _ (Nat.two_pow_pos k),Nat.div_eq_of_lt h];rfl
theorem D8 {j k i:Nat}(h:i < k):mi (2 ^ k + j) i=mi j i:=by
 unfold mi;have e:2 ^ k=2 ^ i * (2 * 2 ^ (k - i - 1)):=by
  rw[<-Nat.pow_succ',<-Nat.pow_add];congr 1;omega
 rw[e,Nat.mul_add_div (Nat.two_pow_pos i)];congr 1;rw[Nat.add_comm,Nat.add_mul_mod_self_left]
theorem sV (l:List Nat)(p j:Nat):pick (l++[p]) j=((List.range l.length).filter (mi j)).map (λi=>l.getD i 0)++if mi j l.length=true then [p] else []:=by
 unfold pick;rw[ZB,List.length_singleton,XX,XE,ZR];congr 1
 ·refine YX λi hi => ?_
  have hi:=List.mem_range.mp (List.mem_filter.mp hi).1;simp[List.getD,hi,ZC]
 ·cases c:mi j l.length with
  | true=>rw[WW c];simp
  | false=>rw[WX (by rw[c];decide)];simp
theorem sW (l:List Nat):∀i,i<=l.length->dX (l.take i)=(List.range (2 ^ i)).map (pick (l.take i))
 | 0,_=>by simp[dX,pick,XX]
 | i + 1,h=>by
  have a:(l.take i).length=i:=by simp;omega
  rw[Y0 (by omega),nH,sW l i (by omega),Nat.pow_succ,Nat.mul_two,List.range_add,ZR,Z2,Z2];congr 1
  ·refine YX λj b => ?_
   rw[sV,a,FW (List.mem_range.mp b)];simp[pick,a]
  ·refine YX λj b => ?_
   show pick (l.take i) j++[l[i]] = pick (l.take i++[l[i]]) (2 ^ i + j);rw[sV,a,FX (List.mem_range.mp b),yD rfl];congr 1;unfold pick;rw[a];congr 1;refine List.filter_congr λk c=>(D8 (List.mem_range.mp c)).symm
theorem wY (l:List Nat):dX l=(List.range (2 ^ l.length)).map (pick l):=by
 have:=sW l l.length (ZL _);rwa[WA]at this
def fr (ss:List (Option Int)) (n:Nat):List Nat:=(List.range n).filter λi=>(ss.getD i none).isNone
theorem qA {w:Web}{v:List Nat}(h:v.Sublist (fr w.stays n)):Ch w n v:=by
 have b:(fr w.stays n).Pairwise (· < ·):=List.Pairwise.filter _ WZ;refine⟨b.sublist h,λp a=>List.mem_range.mp (List.mem_filter.mp (h.subset a)).1,λp a e => ?_⟩;have:=(List.mem_filter.mp (h.subset a)).2;rw[e]at this;cases this
theorem gG (ss:List (Option Int))(n:Nat):(fr ss n).length<=n:=by
 have:=List.length_filter_le (λi=>(ss.getD i none).isNone) (List.range n);rwa[ZO]at this
section
variable {Z n:Nat} {M:Nat->Nat->Int} {bs:List Int} {ss:List (Option Int)} {bk sk:Nat} {h:Hd} {T:List Tie} {w:Web} {td:D}
theorem y9 (p:Nat->Bool)(q:D->Bool)(hq:∀i:Nat,q (.int i)=p i):(((List.range n).map λk:Nat=>D.int k).filter q).map (λd=>d)=NL ((List.range n).filter p):=by
 rw[List.map_id',VL];congr 2;funext i;exact hq i
theorem sZ (l:Lw Z n M bs ss bk sk T w td h){t:EF->TF}(p:Option Int->Bool)(ht:∀i:Nat,i < n->t (fAt (fAt (aa 1) (fC (.int 2))) (aa 0)) [some (.int i),some td] h=.ok (p (ss.getD i none)) h):bT none ((List.range n).map λk:Nat=>D.int k) (gN 0) [t (fAt (fAt (aa 1) (fC (.int 2))) (aa 0))] (aa 0) ((List.range n).map λk:Nat=>D.int k) [none,some td] h=.ok (NL ((List.range n).filter λi=>p (ss.getD i none))) h:=by
 have:=bK (g:=none) (all:=(List.range n).map λk:Nat=>D.int k) (tg:=gN 0) (cs:=[t (fAt (fAt (aa 1) (fC (.int 2))) (aa 0))]) (e:=aa 0) (h:=h) (I:=λσ=>∃a,σ = [a,some td]) (λd=>match d with | .int i=>p (ss.getD i.toNat none)|_=>false) (λd=>d) trivial (xs:=(List.range n).map λk:Nat=>D.int k) (σ:=[none,some td]) (by
  rintro x b σ ⟨a,rfl⟩;obtain⟨i,hi,rfl⟩:=List.mem_map.mp b;exact⟨_,rfl,⟨_,rfl⟩,iF (ht i (List.mem_range.mp hi)),λ_=>rfl⟩) ⟨_,rfl⟩
 rw[this,y9 (λi=>p (ss.getD i none)) _ λi=>rfl]
theorem Ar (l:Lw Z n M bs ss bk sk T w td h){i:Nat}(hi:i < n):fAt (fAt (aa 1) (fC (.int 2))) (aa 0) [some (.int i),some td] h=.ok (bp (ss.getD i none)) h:=by
 have a:i < ss.length:=by rw[l.m.ls];exact hi
 rw[l.t'];refine aK (aK rfl rfl rfl rfl) rfl (aC l.m.st) (cX ?_);rw[ZQ,ZF,ZE a];rfl
theorem As (u:Option Int):kC (bp u)=u.isNone:=by cases u<;>rfl
theorem By (l:Lw Z n M bs ss bk sk T w td h)(n30:n<=30)(x y z u:Option D):aT (bO 1 [0] (br (cj (lOf (fAt (aa 0) (fC (.int 1)))))) (gN 0) [(tE (ag iu (fAt (fAt (aa 1) (fC (.int 2))) (aa 0)) (fC .non)))] (aa 0)) [some td,x,y,z,u] h=.ok (.ref h.length) (h++[.lst (NL (fr ss n))]):=by
 have c:=sZ l (t:=λa=>tE (ag iu a (fC .non))) (λu=>u.isNone) (λi hi=>aV (ah (Ar l hi) rfl (by rw[<-As];rfl)));exact bD (cv (bY (l.many rfl) (by omega)) c) (by have:=gG ss n;rw[ZA];exact ZM this (gI n30))
def chL (ss:List (Option Int)) (n:Nat):List Nat:=(List.range n).filter λi=>decide (ss.getD i none≠some 0)
theorem wZ (l:Lw Z n M bs ss bk sk T w td h)(n30:n<=30):fv [td] h=.ok (.ref h.length) (h++[.lst (NL (chL ss n))]):=by
 have c:=sZ l (t:=λa=>tE (ag oNe a (fC (.int 0)))) (λu=>decide (u≠some 0)) (λi hi=>aV (ah (Ar l hi) rfl (Ae _ _)));have b:(chL ss n).length<=n:=by
  have:=List.length_filter_le (λi=>decide (ss.getD i none≠some 0)) (List.range n);rwa[ZO]at this
 exact(bI (σ:=[some td]) rfl rfl (aX (bD (cv (bY (l.many rfl) (by omega)) c) (by rw[ZA];exact ZM b (gI n30))))).trans cZ
theorem w4 (ss:List (Option Int)):eD (ss.map bp)=(List.range ss.length).map λi=>D.tup [.int (i:Nat),bp (ss.getD i none)]:=by
 unfold eD;rw[ZA];apply YB;intro i
 by_cases hi:i < ss.length
 ·have z:((List.range ss.length).zip (ss.map bp))[i]? = some (i,bp (ss.getD i none)):=by
   rw[List.getElem?_zip_eq_some];exact⟨List.getElem?_range hi,by rw[ZQ,ZF,ZE hi];rfl⟩
  rw[ZQ,z,ZQ,List.getElem?_range hi];rfl
 ·rw[List.getElem?_eq_none (by simp;omega),List.getElem?_eq_none (by simp;omega)]
theorem oC {G:Hd->Prop}{tg:GF}{cs:List TF}{e:EF}{h:Hd}(I:Sd->Prop)(p:D->Bool)(f:D->D)(b:G h) :
  ∀{xs:List D} {σ:Sd},(∀x∈xs,∀σ,I σ->∃a,tg x σ = some a/\I a/\gu cs a h=.ok (p x) h/\(p x=true->e a h=.ok (f x) h))->I σ->dQ G tg cs e xs σ h=.ok ((xs.filter p).map f) h
 | [],_,_,_=>by unfold dQ;rw[yD b];rfl
 | x :: xs,σ,st,i=>by
  obtain⟨a,h1,h2,g,j⟩:=st x ZV σ i;have d:=oC I p f b (xs:=xs) (σ := a) (λy k=>st y (ZW _ k)) h2;unfold dQ;rw[yD b,h1];simp only[g,aP];cases c:p x with
  | true=>rw[WW c,x8,j c];simp[d]
  | false=>rw[WX (by rw[c];decide),d];simp
theorem qB (W:w.Ok n)(n30:n<=30)(h:Hd):gq [w.enc] h=.ok (.ref (h.length + 1)) (h++[.lst (w.stays.map bp),.lst (NL (fr w.stays n))]):=by
 have k:(w.stays.map bp).length<=SZ:=by rw[ZA,W.s];exact gI n30
 have m:cB [w.enc] h=.ok (.ref h.length) (h++[.lst (w.stays.map bp)]):=(bI rfl rfl (aX (bD (bL (aK rfl rfl rfl rfl) rfl) k))).trans cZ;have g:(h++[.lst (w.stays.map bp)])[h.length]? = some (.lst (w.stays.map bp)):=ZG;have l:dQ (λc=>c[h.length]? = some (.lst (w.stays.map bp))) (gT [0,1]) [(tE (ag iu (aa 1) (fC .non)))] (aa 0) (eD (w.stays.map bp)) [none,none] (h++[.lst (w.stays.map bp)])=.ok (NL (fr w.stays n)) (h++[.lst (w.stays.map bp)]):=by
  have:=oC (G:=λc=>c[h.length]? = some (.lst (w.stays.map bp))) (tg:=gT [0,1]) (cs:=[(tE (ag iu (aa 1) (fC .non)))]) (e:=aa 0) (h:=h++[.lst (w.stays.map bp)]) (I:=λσ=>∃a b,σ = [a,b]) (λd=>match d with | .tup [_,x]=>kC x|_=>false) (λd=>match d with | .tup [x,_]=>x|_=>.non) g (xs:=eD (w.stays.map bp)) (σ:=[none,none]) (λy f σ ⟨a,b,e⟩=>by
   subst e;rw[w4]at f;obtain⟨i,_,rfl⟩:=List.mem_map.mp f;exact⟨_,rfl,⟨_,_,rfl⟩,iF (aV (ah rfl rfl rfl)),λ_=>rfl⟩) ⟨_,_,rfl⟩
  rw[this];congr 1;rw[w4,VL,Z2,W.s];have e:((λd=>match d with | .tup [_,x]=>kC x|_=>false) ∘ λi:Nat=>D.tup [.int (i:Nat),bp (w.stays.getD i none)])=λi=>(w.stays.getD i none).isNone:=by
   funext i;exact As _
  rw[e];rfl
 have j:jL 2 [] (ar cB (ab (aa 0) ao)) (gT [0,1]) [(tE (ag iu (aa 1) (fC .non)))] (aa 0) [some w.enc] h=.ok (NL (fr w.stays n)) (h++[.lst (w.stays.map bp)]):=by
  have e:ar cB (ab (aa 0) ao) [some w.enc] h=.ok (.ref h.length) (h++[.lst (w.stays.map bp)]):=ax (am rfl rfl) m;unfold jL;rw[e];simp only[g];exact l
 refine(bI rfl rfl (aX (bD j (by rw[ZA];exact ZM (gG _ _) (gI n30))))).trans (cZ.trans ?_);simp
end
section
variable {Z n:Nat} {M:Nat->Nat->Int} {bs:List Int} {ss:List (Option Int)} {bk sk:Nat} {h:Hd} {T:List Tie} {w:Web} {td:D}
def oN:Option Nat->D
 | none=>.non
 | some k=>.int (k:Nat)
def jt (w:Web) (n:Nat) (L:List (List Nat)):Option Nat->Prop
 | none=>∀v∈L,tb w n v=false
 | some k=>(∃v∈L,tb w n v=true/\v.length=k)/\∀v∈L,tb w n v=true->k<=v.length
theorem jt.skip {L:List (List Nat)}{o:Option Nat}{v:List Nat}(l:jt w n L o)(h:tb w n v=true->∃k,o=some k/\k<=v.length):jt w n (L++[v]) o:=by
 cases o with
 | none =>
  intro u b;rcases List.mem_append.mp b with b|b
  ·exact l u b
  ·rw[YL.mp b]
   cases c:tb w n v with
   | false=>rfl
   | true=>obtain⟨_,z,_⟩:=h c;cases z
 | some k =>
  obtain⟨⟨u,h1,h2,e⟩,d⟩:=l;refine⟨⟨u,List.mem_append.mpr (.inl h1),h2,e⟩,λx a t => ?_⟩;rcases List.mem_append.mp a with a|a
  ·exact d x a t
  ·rw[YL.mp a]at t ⊢
   obtain⟨_,z,q⟩:=h t;cases z;exact q
theorem jt.put {L:List (List Nat)}{o:Option Nat}{v:List Nat}(l:jt w n L o)(t:tb w n v=true)(h:∀k,o=some k->v.length < k):jt w n (L++[v]) (some v.length):=by
 refine⟨⟨v,List.mem_append.mpr (.inr (.head _)),t,rfl⟩,λx a q => ?_⟩;rcases List.mem_append.mp a with a|a
 ·cases o with
  | none=>rw[l x a]at q;cases q
  | some k =>
   have:=l.2 x a q;have:=h k rfl;omega
 ·rw[YL.mp a];exact ZL _
theorem IO (j i:Nat)(x:Option D)(h:Hd):gu [(tE (ag oEq (ag oh (ag xI (aa 2) (aa 0)) (fC (.int 1))) (fC (.int 1))))] [some (.int i),x,some (.int j)] h=.ok (mi j i) h:=by
 have a:xI (.int (j:Nat)) (.int (i:Nat)) h=.ok (.int ((j / 2 ^ i:Nat):Int)) h:=by
  have:(2:Int) ^ ((i:Int)).toNat=((2 ^ i:Nat):Int):=by rw[X1];norm_cast
  show (if (decide (0<=(i:Int)))=true then Res.ok (D.int ((j:Int) / 2 ^ ((i:Int)).toNat)) h else Res.bad)=_;rw[yD (by simp),this];norm_cast
 have b:oh (.int ((j / 2 ^ i:Nat):Int)) (.int 1) h=.ok (.int ((j / 2 ^ i % 2:Nat):Int)) h:=by
  show (if (decide (0<=((j / 2 ^ i:Nat):Int)) && decide ((1:Int)=1))=true then Res.ok (D.int (((j / 2 ^ i:Nat):Int) % 2)) h else Res.bad)=_;rw[yD (by rw[w8 (XD _)];rfl)];norm_cast
 refine iF (aV (ah (ah (ah rfl rfl a) rfl b) rfl ?_));rw[qd];unfold mi;congr 3;exact propext ⟨λz=>by omega,λz=>by omega⟩
theorem Bz {f:Nat}(c:h[f]? = some (.lst (NL l)))(j:Nat):bT none ((List.range l.length).map λk:Nat=>D.int k) (gN 0) [(tE (ag oEq (ag oh (ag xI (aa 2) (aa 0)) (fC (.int 1))) (fC (.int 1))))] (fAt (aa 1) (aa 0)) ((List.range l.length).map λk:Nat=>D.int k) [none,some (.ref f),some (.int j)] h=.ok (NL (pick l j)) h:=by
 have:=bK (g:=none) (all:=(List.range l.length).map λk:Nat=>D.int k) (tg:=gN 0) (cs:=[(tE (ag oEq (ag oh (ag xI (aa 2) (aa 0)) (fC (.int 1))) (fC (.int 1))))]) (e:=fAt (aa 1) (aa 0)) (h:=h) (I:=λσ=>∃a,σ = [a,some (.ref f),some (.int j)]) (λd=>match d with | .int i=>mi j i.toNat|_=>false) (λd=>match d with | .int i=>.int ((l.getD i.toNat 0:Nat):Int)|_=>.non) trivial (xs:=(List.range l.length).map λk:Nat=>D.int k) (σ:=[none,some (.ref f),some (.int j)]) (by
  rintro x b σ ⟨a,rfl⟩;obtain⟨i,hi,rfl⟩:=List.mem_map.mp b;have hi:=List.mem_range.mp hi;refine⟨_,rfl,⟨_,rfl⟩,IO j i _ h,λ_=>aK rfl rfl (aC c) (cX ?_)⟩;rw[ZQ,ZE hi];simp[List.getD,hi]) ⟨_,rfl⟩
 rw[this,VL,Z2];unfold pick NL;rw[Z2];rfl
def LS (Z n:Nat) (M:Nat->Nat->Int) (bs:List Int) (ss:List (Option Int)) (bk sk:Nat) (T:List Tie) (w:Web) (td:D) (h:Hd) (i:Nat) (σ:Sd) (h':Hd):Prop:=∃o g y z,σ = [some td,some (.ref h.length),some (oN o),y,z]/\h'=h++[.lst (NL (fr ss n))]++g/\jt w n ((dX (fr ss n)).take i) o
theorem zc (G:Go w n)(l:Lw Z n M bs ss bk sk T w td h){g:Hd}{o:Option Nat}{i:Nat}(hi:i < 2 ^ (fr ss n).length){z:Option D}(lo:jt w n ((dX (fr ss n)).take i) o):∃o' s r,i8 [some td,some (.ref h.length),some (oN o),some (.int (i:Nat)),z] (h++[.lst (NL (fr ss n))]++g)=.nx [some td,some (.ref h.length),some (oN o'),some (.int (i:Nat)),r] (h++[.lst (NL (fr ss n))]++s)/\jt w n ((dX (fr ss n)).take (i + 1)) o':=by
 obtain⟨h1,d⟩ : ∃h1,h1=h++[bE.lst (NL (fr ss n))]++g:=⟨_,rfl⟩;have F:h1[h.length]? = some (.lst (NL (fr ss n))):=by rw[d];exact aH _ ZG
 have J:Lw Z n M bs ss bk sk T w td h1:=by rw[d];exact(l.more _).more _
 have N:w.stays=ss:=by rw[l.w'];rfl
 obtain⟨v,x⟩ : ∃v,v=pick (fr ss n) i:=⟨_,rfl⟩;have P:(dX (fr ss n)).take (i + 1)=(dX (fr ss n)).take i++[v]:=by
  have y:i < (dX (fr ss n)).length:=by rw[j7 _ _ rfl];exact hi
  rw[Y0 y];congr 2;have:=wY (fr ss n);have e:(dX (fr ss n))[i]? = some (pick (fr ss n) i):=by rw[this,ZQ,List.getElem?_range hi];rfl
  rw[ZE y]at e;rw[x];exact ZT e
 have C:Ch w n v:=by
  have m:v∈dX (fr ss n):=by rw[wY,x];exact List.mem_map.mpr ⟨i,List.mem_range.mpr hi,rfl⟩
  rw[<-N]at m;exact qA (iJ.mp m)
 have L:v.length<=30:=ZM (Ag C) G.n30;have Q:=G.n30;have R:=gG ss n;obtain⟨K,A⟩ : ∃K,K=h1.length:=⟨_,rfl⟩;obtain⟨h2,a⟩ : ∃h2,h2=h1++[bE.lst (NL v)]:=⟨_,rfl⟩;have t:aT (bO 1 [1,3] (br (cj (lOf (aa 1)))) (gN 0) [(tE (ag oEq (ag oh (ag xI (aa 2) (aa 0)) (fC (.int 1))) (fC (.int 1))))] (fAt (aa 1) (aa 0))) [some td,some (.ref h.length),some (oN o),some (.int (i:Nat)),z] h1=.ok (.ref K) h2:=by
  have B:=Bz (h:=h1) F i;rw[<-x]at B;rw[A,a];refine bD (cv (bY (n:=(fr ss n).length) ((c5 (bL rfl (aC F))).trans (by rw[ZA])) (by omega)) B) (by rw[ZA];exact ZM L (by decide))
 have E:h2[K]? = some (.lst (NL v)):=by rw[a,A];exact ZG
 have I:Lw Z n M bs ss bk sk T w td h2:=by rw[a];exact J.more _
 have ty:=y8 G I C E;have H:∀σ:Sd,σ[4]? = some (some (.ref K))->cj (lOf (aa 4)) σ h2=.ok (.int (v.length:Nat)) h2:=λσ e=>by
  have q:aa 4 σ h2=.ok (.ref K) h2:=by simp only[aa,slot,e]
  exact(c5 (bL q (aC E))).trans (by rw[ZA])
 have p:tE (ar dU (ab (aa 0) (ab (aa 4) ao))) [some td,some (.ref h.length),some (oN o),some (.int (i:Nat)),some (.ref K)] h2=.ok (tb w n v) h2:=aV (ax (cm rfl rfl) ty);have O:h2=h++[bE.lst (NL (fr ss n))]++(g++[.lst (NL v)]):=by rw[a,d,ZU]
 rw[<-d,P];have go:∀{b:Bool} {o':Option Nat},tOr (tE (ag iu (aa 2) (fC .non))) (tE (ag oLt (cj (lOf (aa 4))) (aa 2))) [some td,some (.ref h.length),some (oN o),some (.int (i:Nat)),some (.ref K)] h2=.ok b h2->o'=(if b=true/\tb w n v=true then some v.length else o)->jt w n ((dX (fr ss n)).take i++[v]) o'->∃o' s r,i8 [some td,some (.ref h.length),some (oN o),some (.int (i:Nat)),z] h1=.nx [some td,some (.ref h.length),some (oN o'),some (.int (i:Nat)),r] (h++[.lst (NL (fr ss n))]++s)/\jt w n ((dX (fr ss n)).take i++[v]) o':=λ{b o'} f j u=>by
  refine⟨o',g++[.lst (NL v)],some (.ref K),?_,u⟩;rw[<-O];cases b with
  | false =>
   rw[x3 (λz=>by cases z.1)]at j;subst j;exact sx (aA t) ((cA (o7 f)).trans rfl)
  | true =>
   cases c:tb w n v with
   | false =>
    rw[c,x3 (λz=>by cases z.2)]at j;subst j;rw[c]at p;exact sx (aA t) ((cA (iX f p)).trans rfl)
   | true =>
    rw[c,yD ⟨rfl,rfl⟩]at j;subst j;rw[c]at p;exact sx (aA t) ((ib (iX f p)).trans (aA (H _ rfl)))
 cases o with
 | none =>
  refine go (b:=true) (o':=if tb w n v=true then some v.length else none) (uj (aV (ah rfl rfl rfl))) (by simp) ?_
  by_cases c:tb w n v=true
  ·rw[yD c];exact lo.put c λk e=>nomatch e
  ·rw[x3 c];exact lo.skip λe=>absurd e c
 | some k =>
  have lt:oLt (.int (v.length:Nat)) (.int (k:Nat)) h2=.ok (.bl (decide (v.length < k))) h2:=by
   by_cases c:v.length < k
   ·rw[w8 c];exact yj (by omega)
   ·rw[ZY c];exact Dp (by omega)
  refine go (b:=decide (v.length < k)) (o':=if v.length < k/\tb w n v=true then some v.length else some k) (jq (aV (ah rfl rfl rfl)) (aV (ah (H _ rfl) rfl lt))) (by simp) ?_
  by_cases c:v.length < k/\tb w n v=true
  ·rw[yD c];exact lo.put c.2 λS e=>by cases e;exact c.1
  ·rw[x3 c];exact lo.skip λe=>⟨k,rfl,WU λz=>c ⟨z,e⟩⟩
theorem D9 (G:Go w n)(l:Lw Z n M bs ss bk sk T w td h):∃o,kw [td] h=.ok (oN o) h/\jt w n (dX (fr ss n)) o:=by
 have c:=G.n30;have u:=G.n8;have t:=gG ss n;have A:2 ^ (fr ss n).length<=256:=WN (i:=(fr ss n).length) (j:=8) (by decide) (by omega);have f:=By l c none none none none;obtain⟨_,_,m,o,g,y,z,rfl,rfl,lo⟩:=cy (P:=LS Z n M bs ss bk sk T w td h) (g:=none) (k:=0) (all:=(List.range (2 ^ (fr ss n).length)).map λk:Nat=>D.int k) (λ_ _ _ _=>trivial) (xs:=(List.range (2 ^ (fr ss n).length)).map λk:Nat=>D.int k) (tg:=gN 3) (σ:=[some td,some (.ref h.length),some .non,none,none]) (h:=h++[.lst (NL (fr ss n))]) (b:=i8) (by
  rintro i x _ _ a ⟨o,g,y,z,rfl,rfl,lo⟩;have hi:i < 2 ^ (fr ss n).length:=by have:=(List.getElem?_eq_some_iff.mp a).1;simpa using this
  rw[ZQ,List.getElem?_range hi]at a;cases a;rw[Z3]at lo ⊢;obtain⟨o',s,e,q1,q2⟩:=zc G l hi (z:=z) lo;exact⟨_,rfl,_,_,q1,o',s,_,e,rfl,rfl,q2⟩) ⟨none,[],none,none,rfl,by simp,λv q=>by cases q⟩
 have tk:(dX (fr ss n)).take (0 + ((List.range (2 ^ (fr ss n).length)).map λk:Nat=>D.int k).length)=dX (fr ss n):=by
  rw[ZA,ZO,Z3];exact YN (by rw[j7 _ _ rfl];exact ZL _)
 rw[tk]at lo;refine⟨o,?_,lo⟩;have r:(h++[bE.lst (NL (fr ss n))])[h.length]? = some (.lst (NL (fr ss n))):=ZG;have p:ag HW (fC (.int 1)) (cj (lOf (aa 1))) [some td,some (.ref h.length),some .non,none,none] (h++[.lst (NL (fr ss n))])=.ok (.int ((2 ^ (fr ss n).length:Nat):Int)) (h++[.lst (NL (fr ss n))]):=by
  refine ah (y:=.int ((fr ss n).length:Nat)) rfl ((c5 (bL rfl (aC r))).trans (by rw[ZA])) ?_;show (if (decide ((1:Int)=1) && (decide (0<=((fr ss n).length:Int)) && decide (((fr ss n).length:Int)<=1000)))=true then Res.ok (D.int (1 * 2 ^ (((fr ss n).length:Int)).toNat)) _ else Res.bad)=_;rw[yD (by simp;omega),X1,Int.one_mul];norm_cast
 refine YI (bI (σ:=[some td,none,none,none,none]) rfl rfl (sx (aA f) (sx (aA (d:=.non) rfl) (sx (ee (bY p (by omega)) m) (aX rfl))))) ?_;rw[ZU];exact cJ (by cases o<;>rfl)
end
theorem zd:∀{b a:List Nat},a.Pairwise (· < ·)->b.Pairwise (· < ·)->(∀x∈a,x∈b)->a.Sublist b
 | [],a,_,_,h=>by
  cases a with
  | nil=>exact .slnil
  | cons x a=>exact absurd (h x (.head _)) (by simp)
 | y :: b,[],_,_,_=>List.nil_sublist _
 | y :: b,x :: a,pa,pb,h=>by
  have d:=List.pairwise_cons.mp pa;have c:=List.pairwise_cons.mp pb
  by_cases e:x=y
  ·subst e
   refine(zd d.2 c.2 λz f => ?_).cons₂ x;rcases VI.mp (h z (.tail _ f)) with q|q
   ·exact absurd (d.1 z f) (by rw[q];exact Z9 _)
   ·exact q
  ·refine(zd pa c.2 λz f => ?_).cons y
   rcases VI.mp (h z f) with q|q
   ·have g:x∈b:=(VI.mp (h x (.head _))).resolve_left e
    have h1:=c.1 x g;rcases VI.mp f with r|r
    ·exact absurd (r.symm.trans q) e
    ·have:=d.1 z r
     rw[q]at this;omega
   ·exact q
theorem Au:∀{α : Type} [DecidableEq α] {a b:List α},a.Nodup->(∀x∈a,x∈b)->a.length<=b.length
 | _,_,[],_,_,_=>YG _
 | _,_,x :: a,b,nd,h=>by
  have c:=List.nodup_cons.mp nd;have:=Au (a:=a) (b:=b.erase x) c.2 λy d=>(List.mem_erase_of_ne (λe:y=x=>c.1 (e ▸ d))).mpr (h y (.tail _ d));rw[List.length_erase_of_mem (h x (.head _))]at this;have p:=List.length_pos_of_mem (h x (.head _));rw[Y7];omega
theorem FY (nd:l.Nodup):∃g:List Nat,(dH (kyL l)).map D.int=NL g/\g.Pairwise (· < ·)/\∀x,x∈g ↔ x∈l:=by
 have d:=eW (kyL l);have f:∀z∈dH (kyL l),0<=z:=λz c=>by
  obtain⟨k,_,rfl⟩:=List.mem_map.mp (d.mem_iff.mp c);omega
 have i:(dH (kyL l)).Nodup:=d.nodup_iff.mpr (by
  unfold kyL;rw[List.nodup_iff_pairwise_ne,WL];exact(List.nodup_iff_pairwise_ne.mp nd).imp λ{a b} h e=>h (Int.ofNat.inj e))
 refine⟨(dH (kyL l)).map Int.toNat,?_,?_,λx => ?_⟩
 ·unfold NL
  rw[Z2];refine YX λz c => ?_;show D.int z=D.int ((z.toNat:Nat):Int);rw[Int.toNat_of_nonneg (f z c)]
 ·rw[WL]
  refine((iT (r:=kyL l)).and (List.nodup_iff_pairwise_ne.mp i)).imp_of_mem ?_;intro a b n j ⟨h1,h2⟩;have:=f a n;have:=f b j;omega
 ·rw[List.mem_map]
  constructor
  ·rintro⟨z,c,rfl⟩
   obtain⟨k,m,rfl⟩:=List.mem_map.mp (d.mem_iff.mp c);simpa using m
  ·intro o
   exact⟨(x:Int),d.mem_iff.mpr (List.mem_map.mpr ⟨x,o,rfl⟩),by simp⟩
section
variable {w:Web} {n:Nat}
structure Kk (w:Web) (n:Nat) (mm:List (List Int × D)):Prop where
 nd:(mm.map (·.1)).Nodup
 en:∀p∈mm,∃l,l.Sublist (fr w.stays n)/\p=(kyL l,.bl (tb w n l))
theorem Kk.len (K:Kk w n mm)(n8:n<=8):mm.length < 1000:=by
 have:=Au (b:=(dX (fr w.stays n)).map kyL) K.nd λx a=>by
  obtain⟨p,d,rfl⟩:=List.mem_map.mp a;obtain⟨l,c,rfl⟩:=K.en p d;exact List.mem_map.mpr ⟨l,iJ.mpr c,rfl⟩
 rw[ZA,ZA,j7 _ _ rfl]at this;have p:2 ^ (fr w.stays n).length<=2 ^ 8:=WN (by decide) (ZM (gG _ _) n8);omega
theorem Kk.pu (K:Kk w n mm):(mm.all λp=>pure? p.2)=true:=by
 rw[List.all_eq_true];intro p a;obtain⟨l,_,rfl⟩:=K.en p a;rfl
theorem Kk.val (K:Kk w n mm):dG mm (kyL l)=none\/dG mm (kyL l)=some (.bl (tb w n l)):=by
 unfold dG;cases c:mm.find? (λp=>decide (p.1=kyL l)) with
 | none=>exact .inl rfl
 | some p =>
  have h1:=List.mem_of_find?_eq_some c;have h2:=List.find?_some c;obtain⟨l',_,rfl⟩:=K.en p h1;have e:kyL l'=kyL l:=Y9 h2;rw[FH e];exact .inr rfl
theorem Gz (G:Go w n)(g:l.Sublist (fr w.stays n)){k d:Nat}{mm:List (List Int × D)}(j:h[k]? = some (.lst (NL l)))(hd:h[d]? = some (.dcT mm))(K:Kk w n mm) :
  ∃c,dF [w.enc,.ref k,.ref d] h=.ok (.bl (tb w n l)) (h.set d (.dcT c))/\Kk w n c:=by
 obtain⟨c,q,i⟩:=yT G.W G.n30 G.S (qA g) j hd (K.len G.n8) K.pu (FR G (qA g)) K.val;refine⟨c,q,?_⟩;rcases i with e|⟨e1,e2⟩
 ·rw[e];exact K
 ·rw[e2]
  refine⟨?_,λp f => ?_⟩
  ·rw[ZR,WJ]
   refine⟨K.nd,by simp,λa m b o e => ?_⟩;rw[YL.mp o]at e;obtain⟨p,f,rfl⟩:=List.mem_map.mp m;have:=List.find?_eq_none.mp (Option.map_eq_none_iff.mp e1) p f;exact this (w8 e)
  ·rcases List.mem_append.mp f with f|f
   ·exact K.en p f
   ·exact⟨l,g,YL.mp f⟩
end
theorem qC {g:Option Nat}{all:List D}{tg:GF}{b:SF}(P:Nat->Sd->Hd->Prop)(j:∀i σ h,P i σ h->iz g all h) :
  ∀{xs:List D} {k:Nat} {σ:Sd} {h:Hd},(∀(i:Nat) x σ h,xs[i]? = some x->P (k + i) σ h->∃a,tg x σ = some a/\∃c d,(b a h=.nx c d\/b a h=.ct c d)/\P (k + i + 1) c d)->P k σ h->
   ∃a m,eO g all tg b xs σ h=.nx a m/\P (k + xs.length) a m
 | [],k,σ,h,_,p=>⟨σ,h,by unfold eO;exact yD (j _ _ _ p),p⟩
 | x :: xs,k,σ,h,st,p=>by
  obtain⟨a,h1,l,h2,o,r⟩:=st 0 x σ h rfl p;obtain⟨f,n,q,z⟩:=qC P j (xs:=xs) (k:=k + 1) (σ := l) (h:=h2) (λi y σ h e q=>by
   rw[WY k 1 i]at q ⊢;exact st (i + 1) y σ h e q) r
  refine⟨f,n,?_,by rw[Y7,<-Nat.add_assoc,WY];exact z⟩;rw[eO,yD (j _ _ _ p),h1];rcases o with e|e<;>simp only[e,q]
theorem uK {i:Nat}{x:D}(e : σ[i]? = some (some x)):aa i σ h=.ok x h:=by simp only[aa,slot,e]
theorem j8 {g:Hd}{d:Nat}(hd:d < h.length)(x y:bE):(h.set d x++g).set d y=h.set d y++g:=by
 rw[W6 _ _ (by rw[Y4];exact hd),List.set_set]
variable {lf:List Nat}
section
variable {w:Web} {n:Nat} {h:Hd} {c d:Nat} {ch:List Nat}
abbrev Ho (w:Web) (n:Nat) (h:Hd) (d:Nat) (mm:List (List Int × D)) (lf:List Nat) (g:Hd):Hd:=h.set d (.dcT mm)++(.lst (NL lf) :: .lst (w.stays.map bp) :: .lst (NL (fr w.stays n)) :: g)
structure LO (w:Web) (n:Nat) (h:Hd) (c d:Nat) (ch:List Nat) (i gk:Nat) (gr lf:List Nat) (mm:List (List Int × D)) (g:Hd):Prop where
 K:Kk w n mm
 gn:gr.Nodup
 gs:∀x∈gr,x∈fr w.stays n
 cg:∀x∈ch,x∈gr
 g1:gk≠d
 g2:gk≠h.length
 ga:(Ho w n h d mm lf g)[gk]? = some (.lst (NL gr))
 ls:∀x∈lf,x∈fr w.stays n/\x∉ch
 ll:lf.length<=i
theorem ze (hd:d < h.length){mm a:List (List Int × D)}{g:Hd}:(Ho w n h d mm lf g).set d (.dcT a)=Ho w n h d a lf g:=j8 hd _ _
theorem Lf (hd:d < h.length){mm:List (List Int × D)}{g:Hd}:(Ho w n h d mm lf g)[d]? = some (.dcT mm):=aH _ (List.getElem?_set_self hd)
theorem Ea {mm:List (List Int × D)}{a:List Nat}{g:Hd}:(Ho w n h d mm lf g).set h.length (.lst (NL a))=Ho w n h d mm a g:=by
 unfold Ho;have:=ki (h0:=h.set d (.dcT mm)) (g:=.lst (NL lf) :: .lst (w.stays.map bp) :: .lst (NL (fr w.stays n)) :: g) (A:=h.length) (by rw[Y4]) 0 (.lst (NL a));exact this
theorem IP {mm:List (List Int × D)}{g:Hd}:(Ho w n h d mm lf g)[h.length]? = some (.lst (NL lf)):=z5 (h0:=h.set d (.dcT mm)) (A:=h.length) (by rw[Y4]) 0
theorem Kf {mm:List (List Int × D)}{g:Hd}:(Ho w n h d mm lf g)[h.length + 2]? = some (.lst (NL (fr w.stays n))):=z5 (h0:=h.set d (.dcT mm)) (A:=h.length) (by rw[Y4]) 2
theorem IQ {mm:List (List Int × D)}{g g':Hd}:Ho w n h d mm lf g++g'=Ho w n h d mm lf (g++g'):=by unfold Ho;simp
theorem BA (G:Go w n)(hd:d < h.length){i l:Nat}{r:List Nat}{mm:List (List Int × D)}{g:Hd}(L:LO w n h c d ch i l r lf mm g)(hp:p∈fr w.stays n)(X:i < 30)(y:Option D) :
  ∃v E u f H K,(gX [some w.enc,some (.ref c),some (.ref d),some (.ref l),some (.ref h.length),some (.int (p:Nat)),y] (Ho w n h d mm lf g)=.nx [some w.enc,some (.ref c),some (.ref d),some (.ref v),some (.ref h.length),some (.int (p:Nat)),K] (Ho w n h d f u H)\/gX [some w.enc,some (.ref c),some (.ref d),some (.ref l),some (.ref h.length),some (.int (p:Nat)),y] (Ho w n h d mm lf g)=.ct [some w.enc,some (.ref c),some (.ref d),some (.ref v),some (.ref h.length),some (.int (p:Nat)),K] (Ho w n h d f u H))/\LO w n h c d ch (i + 1) v E u f H:=by
 have A:tE (ag oIn (aa 5) (aa 3)) [some w.enc,some (.ref c),some (.ref d),some (.ref l),some (.ref h.length),some (.int (p:Nat)),y] (Ho w n h d mm lf g)=.ok (decide (p∈r)) (Ho w n h d mm lf g):=aV (ah rfl rfl (Af L.ga p))
 by_cases cp:p∈r
 ·rw[w8 cp]at A
  refine⟨l,r,lf,mm,g,y,.inr ?_,{ L with ll:=WK L.ll }⟩;have:sIf (tE (ag oIn (aa 5) (aa 3))) Hl bA [some w.enc,some (.ref c),some (.ref d),some (.ref l),some (.ref h.length),some (.int (p:Nat)),y] (Ho w n h d mm lf g)=.ct [some w.enc,some (.ref c),some (.ref d),some (.ref l),some (.ref h.length),some (.int (p:Nat)),y] (Ho w n h d mm lf g):=(ib A).trans rfl;show ay _ _ _ _=_;unfold ay;rw[this]
 ·rw[ZY cp]at A
  have Z:r.length<=8:=ZM (Au L.gn L.gs) (ZM (gG _ _) G.n8);have Q:(r++[p]).Nodup:=by
   rw[WJ];exact⟨L.gn,by simp,λa R b W e=>cp (by rw[YL.mp W]at e;exact e ▸ R)⟩
  obtain⟨j,T,I,N⟩:=FY Q;have C:j.Sublist (fr w.stays n):=zd I (List.Pairwise.filter _ WZ) λx t=>by
   rcases List.mem_append.mp ((N x).mp t) with z|z
   ·exact L.gs x z
   ·rw[YL.mp z];exact hp
  have ml:j.length<=8:=ZM C.length_le (ZM (gG _ _) G.n8);obtain⟨h1,m⟩ : ∃h1,h1=Ho w n h d mm lf g++[bE.lst [.int (p:Nat)]]:=⟨_,rfl⟩;obtain⟨o,s⟩ : ∃o,o=h1.length:=⟨_,rfl⟩;have S:∀σ:Sd,σ[5]? = some (some (.int (p:Nat)))->aT (ab (aa 5) ao) σ (Ho w n h d mm lf g)=.ok (.ref (Ho w n h d mm lf g).length) h1:=λσ e=>by
   rw[m];exact bD (am (uK e) rfl) (by simp[SZ])
  have U:mS (dB (aa 3) (aT (ab (aa 5) ao))) [some w.enc,some (.ref c),some (.ref d),some (.ref l),some (.ref h.length),some (.int (p:Nat)),y] (Ho w n h d mm lf g)=.ok (NL j) h1:=by
   have V:dB (aa 3) (aT (ab (aa 5) ao)) [some w.enc,some (.ref c),some (.ref d),some (.ref l),some (.ref h.length),some (.int (p:Nat)),y] (Ho w n h d mm lf g)=.ok (NL (r++[p])) h1:=by
    rw[<-mh];exact mf rfl (S _ rfl) (by rw[m];exact aH _ L.ga) (by rw[m];exact ZG) (by simp[SZ];omega)
   unfold mS;rw[V];simp only[aP,fH];rw[yD (by simp[kyL];omega),T]
  have O:Ho w n h d mm lf (g++[.lst [.int (p:Nat)],.lst (NL j)])=h1++[.lst (NL j)]:=by rw[m];simp[Ho]
  have J:aT (mS (dB (aa 3) (aT (ab (aa 5) ao)))) [some w.enc,some (.ref c),some (.ref d),some (.ref l),some (.ref h.length),some (.int (p:Nat)),y] (Ho w n h d mm lf g)=.ok (.ref o) (Ho w n h d mm lf (g++[.lst [.int (p:Nat)],.lst (NL j)])):=by
   rw[O,s];exact bD U (by simp[SZ];omega)
  have M:(Ho w n h d mm lf (g++[.lst [.int (p:Nat)],.lst (NL j)]))[o]? = some (.lst (NL j)):=by
   rw[O,s];exact ZG
  obtain⟨f,q,P⟩:=Gz G C M (Lf hd) L.K;rw[ze hd]at q;have kl:h.length + 2 < o:=by rw[s,m,ZB];simp only[Ho,ZB,Y4,Y7];omega
  have kd:o≠d:=by omega
  have Y:∀{k:Nat} {F:bE},k≠d->(Ho w n h d mm lf g)[k]? = some F->(Ho w n h d f lf (g++[.lst [.int (p:Nat)],.lst (NL j)]))[k]? = some F:=λ{k F} z e=>by
   rw[<-ze hd (mm:=mm),ZP z.symm,<-IQ];exact aH _ e
  have B:∀σ:Sd,σ[0]? = some (some w.enc)->σ[6]? = some (some (.ref o))->σ[2]? = some (some (.ref d))->tE (ar dF (ab (aa 0) (ab (aa 6) (ab (aa 2) ao)))) σ (Ho w n h d mm lf (g++[.lst [.int (p:Nat)],.lst (NL j)]))=.ok (tb w n j) (Ho w n h d f lf (g++[.lst [.int (p:Nat)],.lst (NL j)])):=λσ a b e =>
   aV (ax (am (uK a) (cm (uK b) (uK e))) q)
  cases cb:tb w n j with
  | true =>
   rw[cb]at B;refine⟨l,r,lf++[p],f,g++[.lst [.int (p:Nat)],.lst (NL j)],some (.ref o),.inl ?_,⟨P,L.gn,L.gs,L.cg,L.g1,L.g2,?_,?_,by rw[ZB];exact Nat.add_le_add_right L.ll 1⟩⟩
   ·refine sx (cA A) (sx (aA J) ((ib (B _ rfl rfl rfl)).trans ((iW (jQ rfl IP rfl IP (by have:=L.ll;simp[SZ];omega))).trans ?_)))
    rw[mh,Ea];rfl
   ·rw[<-Ea (lf:=lf),ZP L.g2.symm]
    exact Y L.g1 L.ga
   ·intro x t
    rcases List.mem_append.mp t with z|z
    ·exact L.ls x z
    ·rw[YL.mp z];exact⟨hp,λe=>cp (L.cg p e)⟩
  | false =>
   rw[cb]at B;refine⟨o,j,lf,f,g++[.lst [.int (p:Nat)],.lst (NL j)],some (.ref o),.inl ?_,⟨P,I.imp λh=>ZN h,λx t=>C.subset t,λx t=>(N x).mpr (List.mem_append.mpr (.inl (L.cg x t))),kd,by omega,?_,L.ls,WK L.ll⟩⟩
   ·exact sx (cA A) (sx (aA J) ((cA (B _ rfl rfl rfl)).trans (aA rfl)))
   ·rw[<-ze hd (mm:=mm),ZP kd.symm];exact M
def LOi (w:Web) (n:Nat) (h:Hd) (c d:Nat) (ch:List Nat) (i:Nat) (σ:Sd) (h':Hd):Prop:=∃gk gr lf mm g x y,σ = [some w.enc,some (.ref c),some (.ref d),some (.ref gk),some (.ref h.length),x,y]/\h'=Ho w n h d mm lf g/\LO w n h c d ch i gk gr lf mm g
theorem j9 {h:Hd}{d:Nat}{x:bE}(hd:h[d]? = some x):h.set d x=h:=by
 apply YB;intro i
 by_cases e:d=i
 ·subst e;rw[List.getElem?_set_self (List.getElem?_eq_some_iff.mp hd).1,hd]
 ·rw[ZP e]
theorem w5 (G:Go w n){mm:List (List Int × D)}(hd:h[d]? = some (.dcT mm))(K:Kk w n mm)(hc:h[c]? = some (.lst (NL ch)))(v:ch.Nodup)(cs:∀x∈ch,x∈fr w.stays n) :
  ∃f a g,i6 [w.enc,.ref c,.ref d] h=.ok (.ref h.length) (h.set d (.dcT a)++g)/\(h.set d (.dcT a)++g)[h.length]? = some (.lst (NL f))/\Kk w n a/\(∀x∈f,x∈fr w.stays n/\x∉ch)/\f.length<=8:=by
 have E:=(List.getElem?_eq_some_iff.mp hd).1;have B:=(List.getElem?_eq_some_iff.mp hc).1;have C:c≠d:=λe=>by rw[e,hd]at hc;cases hc
 have J:=G.n8;have I:=gG w.stays n;have r:=qB G.W G.n30 (h++[.lst (NL [])]);have F:h++[bE.lst (NL [])]++[.lst (w.stays.map bp),.lst (NL (fr w.stays n))] = Ho w n h d mm [] []:=by unfold Ho;rw[j9 hd];simp
 rw[F,ZB]at r;obtain⟨_,_,u,t,A,f,a,g,x,y,rfl,rfl,L⟩:=qC (P:=LOi w n h c d ch) (g:=some (h.length + 2)) (k:=0) (all:=NL (fr w.stays n)) (λ_ _ _ p=>by obtain⟨_,_,_,_,_,_,_,_,rfl,_⟩:=p;exact Kf) (xs:=NL (fr w.stays n)) (tg:=gN 5) (σ:=[some w.enc,some (.ref c),some (.ref d),some (.ref c),some (.ref h.length),none,none]) (h:=Ho w n h d mm [] []) (b:=gX) (by
  rintro i x _ _ j ⟨t,A,f,mm,g,x,y,rfl,rfl,L⟩;have hi:i < (fr w.stays n).length:=by have:=(List.getElem?_eq_some_iff.mp j).1;rwa[ZA]at this
  rw[ZQ,ZE hi]at j;cases j;obtain⟨m,o,l,a,H,z,q,s⟩:=BA G E L (YE hi) (by omega) y;exact⟨_,rfl,_,_,q,m,o,l,a,H,_,z,rfl,rfl,s⟩) ⟨c,ch,[],mm,[],none,none,rfl,rfl,⟨K,v,cs,λ_ h=>h,C,ZN B,by unfold Ho;rw[j9 hd];exact aH _ hc,λx j=>(by cases j),YG _⟩⟩
 refine⟨f,a,.lst (NL f) :: .lst (w.stays.map bp) :: .lst (NL (fr w.stays n)) :: g,?_,IP (w:=w) (n:=n) (g:=g),L.K,L.ls,by have:=L.ll;rw[ZA]at this;omega⟩;exact YI (bI (σ:=[some w.enc,some (.ref c),some (.ref d),none,none,none,none]) rfl rfl (sx (aA rfl) (sx (aA (bD (xs:=[]) rfl (by decide))) (sx (ee (dv (ax (am rfl rfl) r) Kf) u) (aX rfl))))) cZ
end
section
variable {w:Web} {n d:Nat}
def Lg:D:=.tup [.str [108,101,97,102]]
def TC (w:Web) (n d c k:Nat) (h1:Hd) (i:Nat) (σ:Sd) (h':Hd):Prop:=∃a mm g,σ = [a,some w.enc,some (.ref d),some (.int (k + 1:Nat)),some (.ref c)]/\h'=h1.set d (.dcT mm)++g/\Kk w n mm
theorem Av (G:Go w n):∀j m:Nat,m < j->∀(h:Hd) (c:Nat) (r:List Nat) (mm:List (List Int × D)),h[d]? = some (.dcT mm)->Kk w n mm->h[c]? = some (.lst (NL r))->r.Nodup->(∀x∈r,x∈fr w.stays n)->
  ∃t f g,bR j [w.enc,.int (m:Nat),.ref c,.ref d] h=.ok t (h.set d (.dcT f)++g)/\Kk w n f
 | 0,m,hm,_,_,_,_,_,_,_,_,_=>absurd hm (XC m)
 | j + 1,0,_,h,c,r,mm,hd,K,_,_,_=>by
  refine⟨Lg,mm,[],?_,K⟩;rw[j9 hd,Y3];unfold bR;exact YI (bI (σ:=[some w.enc,some (.int (0:Nat)),some (.ref c),some (.ref d),none,none]) rfl rfl (ow (YI (ib (aV (ah rfl rfl rfl))) (aX (ia (am rfl rfl) (by decide)))))) a4
 | j + 1,k + 1,hm,h,c,r,mm,hd,K,hc,cn,cs=>by
  obtain⟨M,y,H,q,F,Q,U,ll⟩:=w5 G hd K hc cn cs;have I:=(List.getElem?_eq_some_iff.mp hd).1;have cl:=(List.getElem?_eq_some_iff.mp hc).1;have O:d≠c:=λe=>by rw[<-e,hd]at hc;cases hc
  have Z:r.length<=8:=ZM (Au cn cs) (ZM (gG _ _) G.n8);obtain⟨h1,o⟩ : ∃h1,h1=h.set d (.dcT y)++H:=⟨_,rfl⟩;rw[<-o]at q F;have N:d < h1.length:=by rw[o,ZB,Y4];omega
  have v:h1[c]? = some (.lst (NL r)):=by rw[o];exact aH _ (by rw[ZP O];exact hc)
  have L:h1[d]? = some (.dcT y):=by rw[o];exact aH _ (List.getElem?_set_self I)
  obtain⟨ds,h',cp,s,_,Y,a,f,g,rfl,rfl,R⟩:=iV (P:=TC w n d c k h1) (V:=λ_ _=>True) (g:=some h.length) (all:=NL M) (tg:=gN 0) (e:=ar (bR j) (ab (aa 1) (ab (ag jv (aa 3) (fC (.int 1))) (ab (aT (dB (aa 4) (aT (ab (aa 0) ao)))) (ab (aa 2) ao))))) (λ_ _ _ p=>by
   obtain⟨_,_,_,_,rfl,_⟩:=p;exact aH _ (by rw[ZP (ZN I)];exact F)) (xs:=NL M) (k:=0) (σ:=[none,some w.enc,some (.ref d),some (.int (k + 1:Nat)),some (.ref c)]) (h:=h1) (by
   rintro i x _ _ E ⟨a,mm,g,rfl,rfl,K⟩;obtain⟨p,W,rfl⟩:=List.mem_map.mp (ZK E);obtain⟨J,u⟩:=U p W;obtain⟨h2,l⟩ : ∃h2,h2=h1.set d (.dcT mm)++g:=⟨_,rfl⟩;have d2:d < h2.length:=by rw[l,ZB,Y4];omega
   have B:h2[c]? = some (.lst (NL r)):=by rw[l];exact aH _ (by rw[ZP O];exact v)
   have A:h2[d]? = some (.dcT mm):=by rw[l];exact aH _ (List.getElem?_set_self N)
   rw[<-l];have X:aT (ab (aa 0) ao) [some (.int (p:Nat)),some w.enc,some (.ref d),some (.int (k + 1:Nat)),some (.ref c)] h2=.ok (.ref h2.length) (h2++[.lst [.int (p:Nat)]]):=bD (am rfl rfl) (by simp[SZ]);have S:aT (dB (aa 4) (aT (ab (aa 0) ao))) [some (.int (p:Nat)),some w.enc,some (.ref d),some (.int (k + 1:Nat)),some (.ref c)] h2=.ok (.ref (h2++[bE.lst [.int (p:Nat)]]).length) (h2++[.lst [.int (p:Nat)]]++[.lst (NL (r++[p]))]):=by
    refine YI (bD (mf rfl X (aH _ B) ZG (by simp[SZ];omega)) (by simp[SZ];omega)) ?_;rw[mh]
   obtain⟨t,m3,g3,q3,K3⟩:=Av G j k (Nat.lt_of_succ_lt_succ hm) (h2++[.lst [.int (p:Nat)]]++[.lst (NL (r++[p]))]) _ _ _ (aH _ (aH _ A)) K ZG (by
    rw[WJ];exact⟨cn,by simp,λa T b hb e=>u (by rw[YL.mp hb]at e;exact e ▸ T)⟩) (λx E=>(List.mem_append.mp E).elim (cs x) λz=>by rw[YL.mp z];exact J)
   have sb:jv (.int ((k + 1:Nat):Int)) (.int 1) h2=.ok (.int (k:Nat)) h2:=by
    show Res.ok (D.int (((k + 1:Nat):Int) - 1)) h2=_;rw[show ((k + 1:Nat):Int) - 1=(k:Int) by omega]
   refine⟨_,rfl,t,_,ax (am rfl (am (ah rfl rfl sb) (cm S rfl))) q3,trivial,_,m3,g++([.lst [.int (p:Nat)]]++[.lst (NL (r++[p]))]++g3),rfl,?_,K3⟩;rw[ZU h2,W6 _ _ d2,l,j8 N];simp) ⟨none,y,[],rfl,by rw[j9 L,Y3],Q⟩
  rw[ZA]at s;refine⟨.tup [.str [112,97,114,116],.ref h.length,.ref (h1.set d (.dcT f)++g).length],f,H++g++[.lst ds],?_,R⟩;have C:h.set d (.dcT f)++(H++g++[bE.lst ds])=h1.set d (.dcT f)++g++[.lst ds]:=by rw[o,j8 I];simp
  rw[C];unfold bR;have t0:tE (ag oEq (aa 1) (fC (.int 0))) [some w.enc,some (.int (k + 1:Nat)),some (.ref c),some (.ref d),none,none] h=.ok false h:=aV (ah rfl rfl (mW (by omega)));exact YI (bI (σ:=[some w.enc,some (.int (k + 1:Nat)),some (.ref c),some (.ref d),none,none]) rfl rfl (sx (cA t0) (sx (aA (ax (am rfl (cm rfl rfl)) q)) (sx (aA (bD (cv (dv rfl F) cp) (by rw[s];simp[SZ];omega))) (aX (ia (am rfl (cm rfl rfl)) (by simp[SZ]))))))) (iE (by simp[pure?,ev]))
end
theorem FZ {g:Option Nat}{all:List D}{tg:GF}{b:SF}{x:D}{xs:List D}{σ':Sd}{h':Hd}{d:D}(a:iz g all h)(t:tg x σ = some σ')(e:b σ' h=.rt d h'):eO g all tg b (x :: xs) σ h=.rt d h':=by
 rw[eO,yD a,t];simp only[e]
theorem Aw {g:Option Nat}{all:List D}{tg:GF}{b:SF}{x:D}{xs:List D}{σ' a:Sd}{h':Hd}(c:iz g all h)(t:tg x σ = some σ')(e:b σ' h=.nx a h'):eO g all tg b (x :: xs) σ h=eO g all tg b xs a h':=by
 rw[eO,yD c,t];simp only[e]
theorem Ax {a c:Nat}{l k:List D}{b:Bool}(h1:h[a]? = some (.lst l))(h2:h[c]? = some (.lst k))(e:eqL l k=some b):oEq (.ref a) (.ref c) h=.ok (.bl b) h:=by
 simp only[oEq,eqG,ef,h1,h2,e]
section
variable {w:Web} {n:Nat} {hb:Hd} {d K f:Nat}
structure Zo (w:Web) (n d:Nat) (hb:Hd) (z:Nat × List Nat):Prop where
 ne:d≠z.1
 at':hb[z.1]? = some (.lst (NL z.2))
 su:z.2.Sublist (fr w.stays n)
theorem Kg (h:l≠[]):eqL (NL l) [] = some false:=by
 cases l with
 | nil=>exact absurd rfl h
 | cons x l =>
  have:mG (NL (x :: l))<=20:=by
   have e:mG (NL (x :: l))=0:=by
    unfold NL
    induction (x :: l) with
    | nil=>rfl
    | cons y l ih=>simp only[x8,mG,dep,ih];rfl
   rw[e];decide
  unfold eqL;rw[yD this];rfl
theorem Eb (G:Go w n)(hd:d < hb.length){z:Nat × List Nat}(Z:Zo w n d hb z){mm:List (List Int × D)}(B:Kk w n mm) :
  (tb w n z.2=false/\∃a,eY [some w.enc,some (.ref f),some (.ref d),some (.ref z.1),none] (hb.set d (.dcT mm))=.nx [some w.enc,some (.ref f),some (.ref d),some (.ref z.1),none] (hb.set d (.dcT a))/\Kk w n a)\/
  (tb w n z.2=true/\∃t a g,eY [some w.enc,some (.ref f),some (.ref d),some (.ref z.1),none] (hb.set d (.dcT mm))=.rt (.tup [.ref z.1,t]) (hb.set d (.dcT a)++g)):=by
 obtain⟨a,q,p⟩:=Gz (h:=hb.set d (.dcT mm)) G Z.su (by rw[ZP Z.ne];exact Z.at') (List.getElem?_set_self hd) B;rw[List.set_set]at q;obtain⟨j,i⟩ : ∃j,j=hb.set d (.dcT a):=⟨_,rfl⟩;have l:j[z.1]? = some (.lst (NL z.2)):=by rw[i,ZP Z.ne];exact Z.at'
 have u:j[d]? = some (.dcT a):=by rw[i];exact List.getElem?_set_self hd
 have A:d < j.length:=by rw[i,Y4];exact hd
 rw[<-i]at q;have t:tE (ar dF (ab (aa 0) (ab (aa 3) (ab (aa 2) ao)))) [some w.enc,some (.ref f),some (.ref d),some (.ref z.1),none] (hb.set d (.dcT mm))=.ok (tb w n z.2) j:=aV (ax (am rfl (cm rfl rfl)) q);cases c:tb w n z.2 with
 | false =>
  rw[c]at t;refine .inl ⟨rfl,a,?_,p⟩;rw[<-i];exact(cA t).trans rfl
 | true =>
  rw[c]at t;refine .inr ⟨rfl,?_⟩;have k:∀(σ:Sd) (h:Hd),aT ao σ h=.ok (.ref h.length) (h++[.lst []]):=λσ h=>bD rfl (by decide)
  by_cases e:z.2=[]
  ·refine⟨.non,a,[.lst []],?_⟩
   rw[<-i];exact YI (ib t) (sx (aA (YI (qf (aV (ah rfl (k _ j) (Ax (b:=true) (aH _ l) ZG (by rw[e];rfl))))) rfl)) (aX (ia (cm rfl rfl) (by simp[SZ]))))
  ·have E:z.2.length<=8:=ZM Z.su.length_le (ZM (gG _ _) G.n8)
   have C:z.2.length≠0:=λq=>e (List.length_eq_zero_iff.mp q);obtain⟨r,m,o,q3,_⟩:=Av G 9 (z.2.length - 1) (by omega) (j++[.lst []]++[.lst []]) _ [] _ (aH _ (aH _ u)) p ZG VX (λx v=>by cases v);have y:jv (.int ((NL z.2).length:Nat)) (.int 1) (j++[.lst []])=.ok (.int (z.2.length - 1:Nat)) (j++[.lst []]):=by
    rw[ZA];show Res.ok (D.int ((z.2.length:Int) - 1)) _=_;rw[show (z.2.length:Int) - 1=((z.2.length - 1:Nat):Int) by omega]
   refine⟨r,m,[.lst [],.lst []]++o,?_⟩;have s:(j++[bE.lst []]++[bE.lst []]).set d (.dcT m)++o=hb.set d (.dcT m)++([bE.lst [],bE.lst []]++o):=by
    rw[ZU j,W6 _ _ A,i,List.set_set];simp
   rw[s]at q3;exact YI (ib t) (sx (aA (YI (um (aV (ah rfl (k _ j) (Ax (b:=false) (aH _ l) ZG (Kg e))))) (ax (am rfl (am (ah (c5 (bL rfl (aC (aH _ l)))) rfl y) (cm (k _ _) rfl))) q3))) (aX (ia (cm rfl rfl) (by simp[SZ]))))
theorem w6 (G:Go w n)(hd:d < hb.length){Z:List (Nat × List Nat)}(kd:d≠K)(e:hb[K]? = some (.lst (rf Z))) :
  ∀{Zs:List (Nat × List Nat)} {mm:List (List Int × D)} {y:Option D},(∀z∈Zs,Zo w n d hb z)->Kk w n mm->
   (∃a h,eO (some K) (rf Z) (gN 3) eY (rf Zs) [some w.enc,some (.ref f),some (.ref d),y,none] (hb.set d (.dcT mm))=.nx [some w.enc,some (.ref f),some (.ref d),h,none] (hb.set d (.dcT a))/\∀z∈Zs,tb w n z.2=false)\/
   (∃A z B t a g,Zs=A++z :: B/\(∀x∈A,tb w n x.2=false)/\tb w n z.2=true/\eO (some K) (rf Z) (gN 3) eY (rf Zs) [some w.enc,some (.ref f),some (.ref d),y,none] (hb.set d (.dcT mm))=.rt (.tup [.ref z.1,t]) (hb.set d (.dcT a)++g))
 | [],mm,y,_,_=>.inl ⟨mm,y,by
   unfold eO;exact yD (show (hb.set d (.dcT mm))[K]? = _ by rw[ZP kd];exact e),λz c=>by cases c⟩
 | z :: Zs,mm,y,c,K0=>by
  have i:(hb.set d (.dcT mm))[K]? = some (.lst (rf Z)):=by rw[ZP kd];exact e
  rcases Eb (f:=f) G hd (c z (.head _)) K0 with ⟨z1,mm1,q,K1⟩|⟨z1,t,mm1,g,q⟩
  ·rcases w6 G hd kd e (Zs:=Zs) (mm:=mm1) (y:=some (.ref z.1)) (λj k=>c j (.tail _ k)) K1 with ⟨a,h,q2,al⟩|⟨A,z2,B,t,a,g,rfl,al,z3,q2⟩
   ·refine .inl ⟨a,h,YI (Aw i rfl q) q2,λx b => ?_⟩
    rcases VI.mp b with rfl|b
    ·exact z1
    ·exact al x b
   ·refine .inr ⟨z :: A,z2,B,t,a,g,rfl,λx b => ?_,z3,YI (Aw i rfl q) q2⟩
    rcases VI.mp b with rfl|b
    ·exact z1
    ·exact al x b
  ·exact .inr ⟨[],z,Zs,t,mm1,g,rfl,λx b=>(by cases b),z1,FZ i rfl q⟩
theorem BB (G:Go w n)(h:Hd) :
  (jU [w.enc] h=.ok .non h/\∀u∈dX (fr w.stays n),tb w n u=false)\/
  (∃a t g v,jU [w.enc] h=.ok (.tup [.ref a,t]) (h++g)/\(h++g)[a]? = some (.lst (NL v))/\v.Sublist (fr w.stays n)/\tb w n v=true/\∀u∈dX (fr w.stays n),tb w n u=true->v.length<=u.length):=by
 have Q:=G.n8;have R:=gG w.stays n;obtain⟨h1,c⟩ : ∃h1:Hd,h1=h++[.lst (w.stays.map bp),.lst (NL (fr w.stays n))]:=⟨_,rfl⟩;have D:h1.length=h.length + 2:=by rw[c];simp
 have C:=qB G.W G.n30 h;rw[<-c]at C;have F:h1[h.length + 1]? = some (.lst (NL (fr w.stays n))):=by rw[c];simp
 have J:xO [some w.enc,some (.ref (h.length + 1)),none,none,none] h1=.ok (.ref (h.length + 2)) (h1++[.dcT []]):=by rw[<-D];rfl
 obtain⟨g,K,Z,q1,q2,q3,s⟩:=wS (f:=h.length + 1) (fr:=fr w.stays n) (h:=h1++[.dcT []]) (aH _ F) (by omega);obtain⟨hb,k⟩ : ∃hb,hb=h1++[.dcT []]++g:=⟨_,rfl⟩;rw[<-k]at q1 q2 q3;have m:hb[h.length + 2]? = some (.dcT []):=by rw[k];exact aH _ (by rw[<-D];exact ZG)
 have P:=(List.getElem?_eq_some_iff.mp m).1;have kd:h.length + 2≠K:=λe=>by rw[<-e,m]at q2;cases q2
 have E:hb=h++([.lst (w.stays.map bp),.lst (NL (fr w.stays n)),.dcT []]++g):=by rw[k,c];simp
 have M:=j9 m;have r:∀z∈Z,Zo w n (h.length + 2) hb z:=λz b=>⟨λe=>(by have:=q3 z b;rw[<-e,m]at this;cases this),q3 z b,by
  have:z.2∈Ts.byK (λv:List Nat=>(v.length:Int)) (dX (fr w.stays n)):=by rw[<-s];exact List.mem_map.mpr ⟨z,b,rfl⟩
  exact iJ.mp ((Ts.byK_perm _ _).mem_iff.mp this)⟩
 have st:∀{o:Out},eO (some K) (rf Z) (gN 3) eY (rf Z) [some w.enc,some (.ref (h.length + 1)),some (.ref (h.length + 2)),none,none] hb=o->eu (eM (ar gD (ab (aa 1) ao))) (gN 3) eY [some w.enc,some (.ref (h.length + 1)),some (.ref (h.length + 2)),none,none] (h1++[.dcT []])=o:=λ{o} e=>ee (dv (ax (am rfl rfl) q1) q2) e;have I:tE (ag oGt (cj (lOf (aa 1))) (fC (.int 9))) [some w.enc,some (.ref (h.length + 1)),none,none,none] h1=.ok false h1:=aV (ah (c5 (bL rfl (aC F))) rfl (ym (by rw[ZA];omega)));have mem:∀u,u∈dX (fr w.stays n)->∃z∈Z,z.2=u:=λu l=>by
  have:u∈Z.map (·.2):=by rw[s];exact(Ts.byK_perm _ _).mem_iff.mpr l
  obtain⟨z,b,e⟩:=List.mem_map.mp this;exact⟨z,b,e⟩
 rcases w6 (f:=h.length + 1) G P kd q2 (Zs:=Z) (mm:=[]) (y:=none) r ⟨VX,λp N=>by cases N⟩ with ⟨mm',y',q,al⟩|⟨A,z,B,t,mm',g',e,al,z1,q⟩
 ·rw[M]at q
  refine .inl ⟨?_,λu l=>by obtain⟨z,b,rfl⟩:=mem u l;exact al z b⟩;refine YI (bI (σ:=[some w.enc,none,none,none,none]) rfl rfl (sx (aA (ax (am rfl rfl) C)) (sx (cA I) (sx (aA J) (sx (st q) (aX rfl)))))) ?_;rw[E,ki rfl];exact cJ rfl
 ·rw[M]at q
  have b:z∈Z:=by rw[e];exact List.mem_append.mpr (.inr (.head _))
  have H:hb.set (h.length + 2) (.dcT mm')++g'=h++(([bE.lst (w.stays.map bp),bE.lst (NL (fr w.stays n)),bE.dcT []]++g).set 2 (.dcT mm')++g'):=by rw[E,ki rfl,ZU]
  refine .inr ⟨z.1,t,([bE.lst (w.stays.map bp),bE.lst (NL (fr w.stays n)),bE.dcT []]++g).set 2 (.dcT mm')++g',z.2,?_,?_,(r z b).su,z1,λu l L => ?_⟩
  ·rw[<-H]
   exact YI (bI (σ:=[some w.enc,none,none,none,none]) rfl rfl (sx (aA (ax (am rfl rfl) C)) (sx (cA I) (sx (aA J) (ow (st q)))))) (iE (by simp[pure?,ev]))
  ·rw[<-H]
   exact aH _ (by rw[ZP (r z b).ne];exact(r z b).at')
  ·obtain⟨x,j,rfl⟩:=mem u l
   have i:=Ts.byK_rises (λv:List Nat=>(v.length:Int)) (dX (fr w.stays n));rw[<-s,e,ZR,x8]at i;have O:=(List.pairwise_cons.mp (Z8.mp i).2.1).1;rw[e]at j;rcases List.mem_append.mp j with j|j
   ·rw[al x j]at L;cases L
   ·rcases VI.mp j with rfl|j
    ·exact ZL _
    ·have:=O x.2 (List.mem_map.mpr ⟨x,j,rfl⟩)
     omega
end
theorem zf (O:TOk n n 0 T){bs:List Int}{ss:List (Option Int)}(os:∀x∈ss,x=none\/x=some 0\/x=some 1):Fz (dw n T bs ss) (dw n T bs ss) n:=by
 refine FA os os (λp f a b _ B l=>oy B l λq c => ?_) (λ_ _=>XI _) λp _ => ?_
 ·have e:(dw n T bs ss).ties.getD p [] = fF (nbs T p):=by simp[dw,List.getD,f]
  rw[e]at c;have c:=mZ.mp c;unfold nbs at c;obtain⟨t,d,z⟩:=List.mem_filterMap.mp c;have:=O.wt t d;cases e:far p t with
  | none=>rw[e]at z;cases z
  | some j=>rw[e]at z;simp at z;subst z;simp only;omega
 ·show (ss.getD p none=none/\ss.getD p none=none)\/ss.getD p none=some 0\/ss.getD p none=some 1
  by_cases h:p < ss.length
  ·have:=os _ (YE h)
   rw[show ss.getD p none=ss[p] by simp[List.getD,h]];rcases this with e|e|e
   ·exact .inl ⟨e,e⟩
   ·exact .inr (.inl e)
   ·exact .inr (.inr e)
  ·left;simp[List.getD,List.getElem?_eq_none (show ss.length<=p by omega)]
theorem F3 {S0:D}{v0:Int}(hc:∀h,bi [S0,.int 0] h=.ok (.int v0) h):∃a:Int,fIx (ab (fC (.int 6)) (ab (fC (.int 8)) ao)) (qM (ag oEq (ag cz (ag g8 (ar bi (ab (aa 0) (ab (fC (.int 0)) ao))) (fC (.int 1024))) (fC (.int 8))) (fC (.int 3)))) [some S0,none,none,none,none,none,none,none] []=.ok (.int a) []/\0 < a/\a<=8:=by
 have i:∀b:Bool,b=decide (v0 / 1024 % 8=3)->qM (ag oEq (ag cz (ag g8 (ar bi (ab (aa 0) (ab (fC (.int 0)) ao))) (fC (.int 1024))) (fC (.int 8))) (fC (.int 3))) [some S0,none,none,none,none,none,none,none] []=.ok (.int (b2i b)) []:=λb e=>by
  rw[e];exact Dr (ah (ah (ah (ax (cm rfl rfl) (hc _)) rfl (iY (by decide) (by decide))) rfl (c6 (by decide))) rfl qd)
 cases c:decide (v0 / 1024 % 8=3) with
 | true=>exact⟨8,wu (cm rfl rfl) (i true c.symm) rfl,by decide,by decide⟩
 | false=>exact⟨6,wu (cm rfl rfl) (i false c.symm) rfl,by decide,by decide⟩
section
variable {Z n:Nat} {M:Nat->Nat->Int} {bs:List Int} {ss:List (Option Int)} {bk sk:Nat} {T:List Tie} {w:Web} {td:D}
theorem uL (G:Go w n)(C:Ch w n l){h1:Hd}{k:Nat}{b:EF}(v:aa 2 σ h=.ok w.enc h)(e:b σ h=.ok (.ref k) h1)(a:h1[k]? = some (.lst (NL l))):∃g,fAt (ar b5 (ab (aa 2) (ab b ao))) (fC (.int 0)) σ h=.ok (if tb w n l=true then TRN else NOT) (h1++g):=by
 obtain⟨L,g,q⟩:=D7 G C a;exact⟨g,aK (ax (cm v e) q) rfl rfl rfl⟩
theorem Kh (h:Hd):oNe TRN (.str [116,117,114,110]) h=.ok (.bl false) h:=rfl
theorem Lh (h:Hd):oNe NOT (.str [110,111,116]) h=.ok (.bl false) h:=rfl
theorem IR (hp:p∈chL w.stays n):p < n/\w.stays.getD p none≠some 0:=by
 obtain⟨a,b⟩:=List.mem_filter.mp hp;exact⟨List.mem_range.mp a,Y9 b⟩
theorem F4 (C:Ch w n l)(hp:p∈chL w.stays n):∃e,(dH (cR (kyL (l++[p])))).map D.int=NL e/\Ch w n e/\(∀x∈l,x∈e)/\e.length<=l.length + 1:=by
 have f:=eW (cR (kyL (l++[p])));have m:∀z:Int,z∈dH (cR (kyL (l++[p]))) ↔ ∃k:Nat,(k∈l\/k=p)/\(k:Int)=z:=λz=>by
  rw[f.mem_iff,AZ];unfold kyL;rw[List.mem_map];simp only[List.mem_append,YL]
 have g:∀z∈dH (cR (kyL (l++[p]))),0<=z:=λz d=>by obtain⟨k,_,rfl⟩:=(m z).mp d;omega
 have i:∀k:Nat,k∈(dH (cR (kyL (l++[p])))).map Int.toNat ↔ k∈l\/k=p:=λk=>by
  rw[List.mem_map];constructor
  ·rintro⟨z,d,rfl⟩
   obtain⟨j,s,rfl⟩:=(m z).mp d;simpa using s
  ·intro h
   exact⟨(k:Int),(m _).mpr ⟨k,h,rfl⟩,by simp⟩
 obtain⟨t,p2⟩:=IR hp;refine⟨(dH (cR (kyL (l++[p])))).map Int.toNat,?_,⟨?_,λx c => ?_,λx c => ?_⟩,λx c=>(i x).mpr (.inl c),?_⟩
 ·unfold NL
  rw[Z2];refine YX λz d => ?_;show D.int z=D.int ((z.toNat:Nat):Int);rw[Int.toNat_of_nonneg (g z d)]
 ·rw[WL]
  refine((iT (r:=cR (kyL (l++[p])))).and (List.nodup_iff_pairwise_ne.mp (f.nodup_iff.mpr (wj _)))).imp_of_mem ?_;intro a b o q ⟨h1,h2⟩;have:=g a o;have:=g b q;omega
 ·rcases (i x).mp c with z|z
  ·exact C.lt x z
  ·rw[z];exact t
 ·rcases (i x).mp c with z|z
  ·exact C.no x z
  ·rw[z];exact p2
 ·rw[ZA,f.length_eq]
  refine ZM (mU _) ?_;unfold kyL;simp
abbrev X8 (S0 td:D) (w:Web) (o v:Nat) (found:D) (a b:Option D):Sd:=[some S0,some td,some w.enc,some (.int (o:Nat)),some found,some (.ref v),a,b]
theorem zg {k:Nat}(c:h[k]? = some (.lst (NL l))):bT (some k) (NL l) (gN 0) [(tE (ag oNe (aa 0) (aa 1)))] (aa 0) (NL l) [none,some (.int (p:Nat))] h=.ok (NL (l.filter λx => !decide (x=p))) h:=by
 have:=bK (g:=some k) (all:=NL l) (tg:=gN 0) (cs:=[(tE (ag oNe (aa 0) (aa 1)))]) (e:=aa 0) (h:=h) (I:=λσ=>∃a,σ = [a,some (.int (p:Nat))]) (λd=>match d with | .int i => !decide (i=(p:Int))|_=>false) (λd=>d) c (xs:=NL l) (σ:=[none,some (.int (p:Nat))]) (by
  rintro x b σ ⟨a,rfl⟩;obtain⟨i,hi,rfl⟩:=List.mem_map.mp b;exact⟨_,rfl,⟨_,rfl⟩,iF (aV (ah rfl rfl (mX _ _ _))),λ_=>rfl⟩) ⟨_,rfl⟩
 rw[this,List.map_id',VL];congr 3;funext i;show (!decide ((i:Int)=(p:Int))) = !decide (i=p);congr 1;exact decide_eq_decide.mpr ⟨λz=>by omega,λz=>by omega⟩
theorem IS (G:Go w n)(su:l.Sublist (fr w.stays n))(tl:tb w n l=true)(N:∀u∈dX (fr w.stays n),tb w n u=true->l.length<=u.length){v o:Nat}(hp:p∈chL w.stays n)(z:h[v]? = some (.lst (NL l))){S0 fd:D} :
  ∃E g,yz (X8 S0 td w o v fd (some (.int (p:Nat))) b) h=.nx (X8 S0 td w o v fd (some (.int (p:Nat))) E) (h++g):=by
 have C:=qA su;have B:l.length<=8:=ZM (Ag C) G.n8;obtain⟨m,L,A,H,Q⟩:=F4 C hp;have I:=FS G C A H tl;obtain⟨h1,f⟩ : ∃h1,h1=h++[bE.lst [.int (p:Nat)]]:=⟨_,rfl⟩;have J:kM (dB (aa 5) (aT (ab (aa 6) ao))) (X8 S0 td w o v fd (some (.int (p:Nat))) b) h=.ok (NL m) h1:=by
  have K:dB (aa 5) (aT (ab (aa 6) ao)) (X8 S0 td w o v fd (some (.int (p:Nat))) b) h=.ok (NL (l++[p])) h1:=by
   rw[<-mh,f];exact mf rfl (bD (am rfl rfl) (by simp[SZ])) (aH _ z) ZG (by simp[SZ];omega)
  unfold kM;rw[K];simp only[aP,fH];rw[yD (by simp[kyL];omega),L]
 have P:aT (kM (dB (aa 5) (aT (ab (aa 6) ao)))) (X8 S0 td w o v fd (some (.int (p:Nat))) b) h=.ok (.ref h1.length) (h1++[.lst (NL m)]):=bD J (by simp[SZ];omega);obtain⟨r,q2⟩:=uL G A (σ:=X8 S0 td w o v fd (some (.int (p:Nat))) b) (h:=h) rfl P ZG;rw[yD I]at q2;obtain⟨h2,d⟩ : ∃h2,h2=h1++[bE.lst (NL m)]++r:=⟨_,rfl⟩;rw[<-d]at q2;have j:h2[v]? = some (.lst (NL l)):=by rw[d,f];exact aH _ (aH _ (aH _ z))
 obtain⟨a,i⟩ : ∃a,a=l.filter λx => !decide (x=p):=⟨_,rfl⟩;have fs:a.Sublist l:=by rw[i];exact List.filter_sublist
 have t:aT (bO 1 [6] (eM (aa 5)) (gN 0) [(tE (ag oNe (aa 0) (aa 1)))] (aa 0)) (X8 S0 td w o v fd (some (.int (p:Nat))) b) h2=.ok (.ref h2.length) (h2++[.lst (NL a)]):=by
  rw[i];refine bD (cv (dv rfl j) (zg j)) ?_;rw[<-i,ZA];exact ZM fs.length_le (ZM B (by decide))
 have s:(h2++[bE.lst (NL a)])[v]? = some (.lst (NL l)):=aH _ j;have q:tE (ag oIn (aa 6) (aa 5)) (X8 S0 td w o v fd (some (.int (p:Nat))) (some (.ref h2.length))) (h2++[.lst (NL a)])=.ok (decide (p∈l)) (h2++[.lst (NL a)]):=aV (ah rfl rfl (Af s p));have k:sIf (tE (ag oNe (fAt (ar b5 (ab (aa 2) (ab (aT (kM (dB (aa 5) (aT (ab (aa 6) ao))))) ao))) (fC (.int 0))) (fC (.str [116,117,114,110])))) (bj (fC (.bl false))) bA (X8 S0 td w o v fd (some (.int (p:Nat))) b) h=.nx (X8 S0 td w o v fd (some (.int (p:Nat))) b) h2:=(cA (aV (ah q2 rfl (Kh _)))).trans rfl
 by_cases c:p∈l
 ·rw[w8 c]at q
  have lt:a.length < l.length:=by
   have:a.length≠l.length:=λe=>by
    have:=fs.eq_of_length e;rw[i]at this;have:=List.filter_eq_self.mp this p c;simp at this
   have:=fs.length_le;omega
  have O : ¬tb w n a=true:=λe=>by
   have:=N a (iJ.mpr (fs.trans su)) e;omega
  obtain⟨F,y⟩:=uL G (qA (fs.trans su)) (σ:=X8 S0 td w o v fd (some (.int (p:Nat))) (some (.ref h2.length))) (h:=h2++[.lst (NL a)]) (b:=aa 7) rfl rfl ZG;rw[x3 O]at y;refine⟨some (.ref h2.length),[.lst [.int (p:Nat)]]++[.lst (NL m)]++r++[.lst (NL a)]++F,?_⟩;refine sx k (sx (aA t) ((cA (iX q (aV (ah y rfl (Lh _))))).trans ?_));rw[d,f];show Out.nx _ _=_;simp
 ·rw[ZY c]at q
  refine⟨some (.ref h2.length),[.lst [.int (p:Nat)]]++[.lst (NL m)]++r++[.lst (NL a)],?_⟩;refine sx k (sx (aA t) ((cA (o7 q)).trans ?_));rw[d,f];show Out.nx _ _=_;simp
def LF8 (S0 td:D) (w:Web) (o v:Nat) (fd:D) (h:Hd) (i:Nat) (σ:Sd) (h':Hd):Prop:=∃a b g,σ = X8 S0 td w o v fd a b/\h'=h++g
end
theorem IT (ns:List Int)(X:ns.length<=63):∃h,Ad [.lit (ns.map .int)] []=.ok (.bl true) h:=by
 obtain⟨v0,C⟩:=wT ns 0 (by decide);obtain⟨mo,Q,m1,Y⟩:=F3 (S0:=.lit (ns.map .int)) (v0:=v0) λh=>C h;obtain⟨n,M,bs,ss,bk,sk,h0,P⟩:=D0 ns (mo:=mo) m1 (W8 Y (by decide));have I:n<=8:=by have:=P.nmo;omega
 obtain⟨td,e⟩ : ∃td:D,td=.tup [.ref (0 + n),.ref bk,.ref sk]:=⟨_,rfl⟩;obtain⟨S0,d⟩ : ∃S0:D,S0=.lit (ns.map .int):=⟨_,rfl⟩;have j:=P.run;rw[<-e,<-d]at j;rw[<-d]at Q;have m:Md 0 n M bs ss bk sk h0:=⟨P.n1,P.n30,P.mt,P.mo,P.ba,P.st,P.lb,P.ls,P.os⟩;obtain⟨T,ql,l⟩:=D4 m;have R:=FO m ql l;obtain⟨w,hw⟩ : ∃w,w=dw n T bs ss:=⟨_,rfl⟩;rw[<-e,<-hw]at R;have K:w.stays=ss:=by rw[hw];rfl
 have G:Go w n:=⟨by rw[hw];exact DA P.n30 l.ok P.lb P.ls,I,by rw[hw];exact P.os,by rw[hw];exact zf l.ok P.os,λf s=>by rw[hw];exact FP l.ok bs ss f s⟩;have L:Lw 0 n M bs ss bk sk T w td h0:=⟨m,l,hw,e⟩;obtain⟨o,Z,lo⟩:=D9 G L;rw[<-K]at lo;have U:DE [some S0,none,none,none,none,none,none,none] []=.nx [some S0,some td,none,none,none,none,none,none] h0:=aA (ax (cm rfl Q) j);have S:DF [some S0,some td,none,none,none,none,none,none] h0=.nx [some S0,some td,some w.enc,none,none,none,none,none] h0:=aA (ax (am rfl rfl) R);have N:DG [some S0,some td,some w.enc,none,none,none,none,none] h0=.nx [some S0,some td,some w.enc,some (oN o),none,none,none,none] h0:=aA (ax (am rfl rfl) Z);rw[<-d];rcases BB G h0 with ⟨fq,al⟩|⟨a,t,g,v,fq,va,vs,vt,vm⟩
 ·have on:o=none:=by
   cases o with
   | none=>rfl
   | some k=>obtain⟨⟨u,h1,h2,_⟩,_⟩:=lo;rw[al u h1]at h2;cases h2
  subst on;have B:yx [some S0,some td,some w.enc,some (oN none),none,none,none,none] h0=.nx [some S0,some td,some w.enc,some .non,some .non,none,none,none] h0:=aA (ax (am rfl rfl) fq);have E:yy [some S0,some td,some w.enc,some .non,some .non,none,none,none] h0=.rt (.bl true) h0:=(ib (uj (aV (ah rfl rfl rfl)))).trans (aX (ou (iX (aV (ah rfl rfl rfl)) (aV (ah rfl rfl rfl)))));exact⟨[],YI (bI (np:=1) (n:=8) (ds:=[S0]) (σ:=[some S0,none,none,none,none,none,none,none]) rfl rfl (sx U (sx S (sx N (sx B (ow E)))))) (cJ (h:=[]) rfl)⟩
 ·have os:o=some v.length:=by
   cases o with
   | none=>rw[lo v (iJ.mpr vs)]at vt;cases vt
   | some k =>
    obtain⟨⟨u,h1,h2,h3⟩,h4⟩:=lo;have:=h4 v (iJ.mpr vs) vt;have:=vm u h1 h2;congr 1;omega
  subst os;obtain⟨h1,r⟩ : ∃h1,h1=h0++g:=⟨_,rfl⟩;rw[<-r]at fq va;have B:yx [some S0,some td,some w.enc,some (oN (some v.length)),none,none,none,none] h0=.nx [some S0,some td,some w.enc,some (.int (v.length:Nat)),some (.tup [.ref a,t]),none,none,none] h1:=aA (ax (am rfl rfl) fq);have E:yy [some S0,some td,some w.enc,some (.int (v.length:Nat)),some (.tup [.ref a,t]),none,none,none] h1=.nx [some S0,some td,some w.enc,some (.int (v.length:Nat)),some (.tup [.ref a,t]),none,none,none] h1:=(cA (jq (aV (ah rfl rfl rfl)) (aV (ah rfl rfl rfl)))).trans rfl;have s5:DH [some S0,some td,some w.enc,some (.int (v.length:Nat)),some (.tup [.ref a,t]),none,none,none] h1=.nx (X8 S0 td w v.length a (.tup [.ref a,t]) none none) h1:=aA (aK rfl rfl rfl rfl);have vl:v.length<=8:=ZM (Ag (qA vs)) I;have W:aT (lOf (aa 5)) (X8 S0 td w v.length a (.tup [.ref a,t]) none none) h1=.ok (.ref h1.length) (h1++[.lst (NL v)]):=bD (bL rfl (aC va)) (by simp[SZ];omega);obtain⟨H,J⟩:=uL G (qA vs) (σ:=X8 S0 td w v.length a (.tup [.ref a,t]) none none) (h:=h1) rfl W ZG;rw[yD vt]at J;have F:DJ (X8 S0 td w v.length a (.tup [.ref a,t]) none none) h1=.nx (X8 S0 td w v.length a (.tup [.ref a,t]) none none) (h1++[.lst (NL v)]++H):=(cA (jq (aV (ah (c5 (bL rfl (aC va))) rfl (by rw[ZA,mX,w8 rfl];rfl))) (aV (ah J rfl (Kh _))))).trans rfl;obtain⟨h2,c⟩ : ∃h2,h2=h1++[bE.lst (NL v)]++H:=⟨_,rfl⟩;rw[<-c]at F;have z:h2[a]? = some (.lst (NL v)):=by rw[c];exact aH _ (aH _ va)
  have L2:Lw 0 n M bs ss bk sk T w td h2:=by rw[c,r];exact((L.more _).more _).more _
  have O:=wZ L2 G.n30;rw[<-K]at O;obtain⟨_,_,k1,x,y,A,rfl,rfl⟩:=cy (P:=LF8 S0 td w v.length a (.tup [.ref a,t]) (h2++[.lst (NL (chL w.stays n))])) (g:=some h2.length) (k:=0) (all:=NL (chL w.stays n)) (λ_ _ _ p=>by obtain⟨_,_,_,_,rfl⟩:=p;exact aH _ ZG) (xs:=NL (chL w.stays n)) (tg:=gN 6) (σ:=X8 S0 td w v.length a (.tup [.ref a,t]) none none) (h:=h2++[.lst (NL (chL w.stays n))]) (b:=yz) (by
   rintro i x _ _ hx ⟨y,b,g,rfl,rfl⟩;obtain⟨p,hp,rfl⟩:=List.mem_map.mp (ZK hx);obtain⟨V,g',q⟩:=IS (td:=td) (o:=v.length) (S0:=S0) (fd:=.tup [.ref a,t]) (b:=b) G vs vt vm hp (h:=h2++[.lst (NL (chL w.stays n))]++g) (aH _ (aH _ z));exact⟨_,rfl,_,_,q,_,V,g++g',rfl,by rw[ZU]⟩) ⟨none,none,[],rfl,by simp⟩
  have s7:DK (X8 S0 td w v.length a (.tup [.ref a,t]) none none) h2=.nx (X8 S0 td w v.length a (.tup [.ref a,t]) x y) (h2++[.lst (NL (chL w.stays n))]++A):=ee (dv (ax (am rfl rfl) O) ZG) k1;have s8:DL (X8 S0 td w v.length a (.tup [.ref a,t]) x y) (h2++[.lst (NL (chL w.stays n))]++A)=.rt (.bl true) (h2++[.lst (NL (chL w.stays n))]++A):=rfl;exact⟨[],YI (bI (np:=1) (n:=8) (ds:=[S0]) (σ:=[some S0,none,none,none,none,none,none,none]) rfl rfl (sx U (sx S (sx N (sx B (sx E (sx s5 (sx F (sx s7 s8))))))))) (cJ (h:=[]) rfl)⟩
end Fm
def PySem.W.Fast.tw90343872475197607 : Type := PySem.Params
theorem PySem.W.Fast.te90343872475197607 : PySem.Params = PySem.W.Fast.tw90343872475197607 := rfl
open PySem PySem.W PyProof.Rows
set_option maxRecDepth 100000 in
set_option maxHeartbeats 0 in
theorem PySem.Challenge.cw_followmost_k38_no_fewer_by_all_sets_holds : PySem.Challenge.rw_followmost_k38_no_fewer_by_all_sets.Holds := by
 w_on;o_law;k_head;(case hw=>w_witness2)
 k_fill
 refine Fm.JP (l := PySem.Challenge.rw_followmost_k38_no_fewer_by_all_sets) (F := Fm.Ad) (k := 20) (x := "_law_script") rfl rfl ⟨rfl, by decide, by decide, rfl⟩ (fun w h Y => PySem.W.kIn_of Y) ?F Fm.IT
 case F =>
  intro w mg fa h KX G hmg
  refine' Fm.IG KX G hmg ?_ ?_ ?_ ?_ ?_ ?_ ?_ ?_ ?_ ?_ ?_ ?_ ?_ ?_ ?_ ?_ ?_ ?_ ?_ ?_ ?_ ?_ ?_ ?_ ?_ ?_ ?_ ?_ ?_ ?_ ?_ ?_ ?_ ?_ ?_ ?_ ?_ ?_ ?_ ?_ ?_ ?_ ?_ ?_ ?_ ?_ ?_ ?_ ?_ ?_ ?_ ?_ ?_ ?_ ?_ ?_ ?_ ?_
  all_goals first|refine' Fm.At.i ?_ ?_ ?_ ?_|unfold Fm.Nb|skip
  all_goals try first|k_is|k_exc|kit_is
