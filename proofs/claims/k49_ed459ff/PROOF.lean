import PyProof.Rows.All
import Wide.All
import OpenK.AllK
import Wide.FinOn
import Lean
import PyProof.EqAt
import PyProof.EqKinds
import PyProof.TupleCall
import PyProof.NeKinds
import PyProof.IsInstanceH
import PyProof.IsiNone
import PyProof.EnumMake
import PyProof.Draws
import PyProof.ZipIter
import PyProof.ListRange
import PyProof.Rows.StrJoin2
import KE.RegKIsAll
import PyProof.ExcAttrAll.ValueError
import PyProof.NsDelKeeps
import KE.KTops
import KE.KIntText
import KE.IntTextLaws
import PyProof.Rows.StrSplitCount
import PyProof.StrBlock2
import PyProof.StationsW
import PyProof.ExcClass2
import OpenK.KMake
import PySem.Challenge.RW_followmost_k49_texts_of_no_web
set_option Elab.async false
set_option linter.all false
set_option maxRecDepth 100000
abbrev ZA:=@List.length_map
abbrev ZB:=@List.length_append
abbrev ZC:=@List.getElem?_append_left
abbrev ZD:=@List.getElem?_append_right
abbrev ZE:=@List.getElem?_eq_getElem
abbrev ZF:=@List.getElem?_concat_length
abbrev ZG:=@PySem.Heap.get?_push_of_some
abbrev ZH:=@PySem.Heap.lt_size
abbrev ZI:=@PySem.Heap.get?_push_size
abbrev ZJ:=@List.mem_of_getElem?
abbrev ZK:=@Nat.le_refl
abbrev ZL:=@Nat.le_trans
abbrev ZM:=@Nat.ne_of_lt
abbrev ZN:=@List.length_range
abbrev ZO:=@List.getElem?_set_ne
abbrev ZP:=@List.getElem?_map
abbrev ZQ:=@List.map_append
abbrev ZR:=@Nat.lt_of_le_of_lt
abbrev ZS:=@Option.some.inj
abbrev ZT:=@List.append_assoc
abbrev ZU:=@List.mem_cons_self
abbrev ZV:=@List.mem_cons_of_mem
abbrev ZW:=PySem.W.Frag
abbrev yC:=@PySem.wpAny_bind
abbrev yD:=@if_pos
abbrev yE:=@List.getElem?_eq_some_iff
abbrev y0:=@decide_eq_false
abbrev x8:=@decide_eq_true
abbrev wR:=@if_neg
abbrev wU:=@List.mem_cons
abbrev wV:=@Bool.false_ne_true
abbrev wW:=@PySem.wpAny_pure
abbrev v7:=@List.size_toArray
abbrev ZX:=@List.length_cons
abbrev ZY:=@Nat.lt_of_lt_of_le
abbrev ZZ:=@List.map_cons
abbrev Z0:=@List.mem_append
abbrev Z1:=@List.getElem?_set_self
abbrev Z2:=@List.mem_map
abbrev Z3:=@List.length_nil
abbrev Z4:=@Bool.and_eq_true
abbrev Z5:=@List.mem_singleton
abbrev Z6:=@List.lookup_cons
abbrev Z7:=@Nat.lt_succ_of_lt
abbrev Z8:=@Nat.lt_trans
abbrev Z9:=@List.length_drop
abbrev YA:=@Nat.ne_of_gt
abbrev YB:=@Option.isSome_iff_exists
abbrev YC:=@of_decide_eq_true
abbrev YD:=@List.length_set
abbrev YE:=@PySem.W.mg_none_of
abbrev YF:=@List.pairwise_cons
abbrev YG:=@List.mem_append_right
abbrev YH:=@Nat.zero_add
abbrev YI:=@List.map_map
abbrev YJ:=@List.replicate_succ
abbrev YK:=@PySem.W.mg_of
abbrev YL:=@List.append_nil
abbrev YM:=@PySem.sizeLine_eq
abbrev YN:=@decide_eq_true_eq
abbrev YO:=@PySem.Heap.get?_push_ne
abbrev YP:=@Bool.false_eq_true
abbrev YQ:=@List.length_singleton
abbrev YR:=@List.filter_eq_self
abbrev YS:=@Option.map_eq_some_iff
abbrev YT:=@List.take_of_length_le
abbrev YU:=@PySem.Heap.size_update
abbrev YV:=@Ne.symm
abbrev YW:=@Option.some.injEq
abbrev YX:=@List.pairwise_map
abbrev YY:=@PySem.wpAny_mono
abbrev YZ:=@List.pairwise_append
abbrev Y0:=@Nat.lt_irrefl
abbrev Y1:=@PySem.wpAny_holding
abbrev Y2:=@List.nodup_cons
abbrev Y3:=@List.map_congr_left
abbrev Y4:=@PySem.wpAny_truthy_bool
abbrev Y5:=@List.getElem?_eq_none
abbrev Y6:=@List.all_cons
abbrev Y7:=@if_true
abbrev Y8:=@List.map_nil
abbrev Y9:=@List.mem_filterMap
abbrev XA:=@PySem.W.looks_findIn
abbrev XB:=@Nat.le_of_lt
abbrev XD:=@PySem.Heap.get?_update_ne
abbrev XE:=@Option.map_some
abbrev XG:=@PySem.call_isinstance
abbrev XH:=@PyProof.Rows.slot_tuple_getitem
abbrev XI:=@List.cons_append
abbrev XJ:=@Int.emod_lt_of_pos
abbrev XM:=@PySem.isSubtype_type
abbrev XO:=@List.flatten_cons
abbrev XR:=@Nat.le_of_lt_succ
abbrev XS:=@List.ext_getElem?
abbrev XT:=@PySem.wpAny_loadPart_at
abbrev XU:=@PySem.wpAny_getItem_str_slice
abbrev XW:=@Int.toNat_natCast
abbrev XX:=@PySem.wpAny_loadPart'
abbrev XY:=@List.getElem?_range
abbrev XZ:=@Nat.zero_le
abbrev X0:=@List.length_take
abbrev X1:=@List.drop_length
abbrev X2:=@List.all_eq_true
abbrev X3:=@Array.perm_iff_toList_perm
abbrev X4:=@Nat.lt_of_le_of_ne
abbrev X5:=@List.nodup_iff_pairwise_ne
abbrev X6:=@List.concat_eq_append
abbrev X7:=@List.drop_eq_getElem_cons
abbrev X8:=@PySem.wpAny_passesOwn
abbrev X9:=@Int.emod_nonneg
abbrev WA:=@PySem.PassesOwn.never
abbrev WB:=@if_false
abbrev WC:=@List.filterMap_cons
abbrev WD:=@PySem.mem_of_lookup
abbrev WE:=@PySem.F.plainAttrs_list
abbrev WG:=@List.getElem_mem
abbrev WH:=@Nat.add_sub_cancel_left
abbrev WI:=@PySem.codeAny_mono
abbrev WJ:=@PySem.wpAny_Call_Name_kw
abbrev WK:=@List.drop_of_length_le
abbrev WL:=@List.set_set
abbrev WM:=@Int.natCast_nonneg
abbrev WN:=@List.nil_append
abbrev WO:=@List.find?_cons
abbrev WQ:=@List.any_cons
abbrev WR:=@List.set_append_right
abbrev WS:=@List.take_append_drop
abbrev WT:=@PyProof.Rows.callWith_type1
abbrev WU:=@PySem.wpAny_newObj_type
abbrev WV:=@List.mem_append_left
abbrev WW:=@PySem.Calls.Name_function_global
abbrev WX:=@PySem.call_meets
abbrev WY:=@Nat.not_lt
abbrev WZ:=@PySem.codeAny_call_builtin
abbrev W0:=@List.mem_of_mem_take
abbrev W1:=@List.mem_of_mem_drop
abbrev W2:=@List.drop_drop
abbrev W3:=@PySem.wpAny_call_entry
abbrev W4:=@Nat.le_of_not_lt
abbrev W5:=@Nat.lt_succ_self
abbrev W6:=@Int.le_trans
abbrev W7:=@List.pairwise_iff_getElem
abbrev W8:=@PySem.W.hideAll_get
abbrev W9:=@Nat.add_le_add_left
abbrev VA:=@List.drop_succ_cons
abbrev VB:=@PySem.wpAny_standAt
abbrev VC:=@List.mem_filter
abbrev VD:=@PyProof.Rows.get?_update_seq
abbrev VE:=@PySem.W.KasT.kasWp_bind
abbrev VF:=@List.cons.injEq
abbrev VG:=@PySem.post_val_or_str
abbrev VH:=@PySem.SeqAt.EqAt.int_int
abbrev VI:=@List.zip_cons_cons
abbrev VJ:=@PySem.typeIs_str
abbrev VL:=@Bool.not_eq_true'
abbrev VM:=@List.findIdx_cons
abbrev VN:=@List.map_set
abbrev VO:=@PyProof.Rows.size_push'
abbrev T0:=PySem.Value
abbrev T1:=PySem.Shared
abbrev T2:=PySem.Around
abbrev T3:=PySem.Program
abbrev T4:=PySem.World
noncomputable section
namespace L2
open PySem PySem.Spec PyProof.Rows
abbrev Key:=Sum Int Str
def rm:Key->T0->Bool
 | .inl k,v=>Value.isInt k v
 | .inr x,v=>Value.isStrOf x v
def Jo (w:T4):Key->Int
 | .inl k=>hashInt k
 | .inr x=>hashStr w x
theorem cL:∀{k:Key} {v:T0},rm k v=true->(∃i t,k=Sum.inl i/\v=Value.int i t)\/(∃x t,k=Sum.inr x/\v=Value.str x t)
 | .inl i,v,h=>by
  obtain⟨t,e⟩:=Value.isInt_shape (k:=i) (v:=v) h;exact .inl ⟨i,t,rfl,e⟩
 | .inr x,v,h=>by
  obtain⟨t,e⟩:=Value.isStrOf_shape (x:=x) (v:=v) h;exact .inr ⟨x,t,rfl,e⟩
theorem zQ (i:Int)(t:Tok):rm (.inl i) (.int i t)=true:=by simp[rm,Value.isInt]
theorem zR (x:Str)(t:Tok):rm (.inr x) (.str x t)=true:=by simp[rm,Value.isStrOf]
theorem Fj (a b:Int):decide ((Sum.inl a:Key)=Sum.inl b)=(a == b):=by
 by_cases e:a=b
 ·subst e;simp
 ·have h : ¬(Sum.inl a:Key)=Sum.inl b:=λq=>e (Sum.inl.inj q)
  rw[y0 h];exact(beq_eq_false_iff_ne.mpr e).symm
theorem Fk (a b:Str):decide ((Sum.inr a:Key)=Sum.inr b)=decide (a=b):=by
 by_cases e:a=b
 ·subst e;simp
 ·have h : ¬(Sum.inr a:Key)=Sum.inr b:=λq=>e (Sum.inr.inj q)
  rw[y0 h,y0 e]
theorem Fl (a:Int)(b:Str):decide ((Sum.inl a:Key)=Sum.inr b)=false:=y0 (λq=>nomatch q)
theorem Fo (a:Str)(b:Int):decide ((Sum.inr a:Key)=Sum.inl b)=false:=y0 (λq=>nomatch q)
def dq (prog:T3) (w:T4):PySem.KeyKind prog w Key where
 is:=rm
 hash:=Jo w
 inj:=λv a b ha hb=>by
  rcases cL ha with ⟨i,t,rfl,rfl⟩|⟨x,t,rfl,rfl⟩
  ·rcases cL hb with ⟨j,u,rfl,e⟩|⟨y,u,rfl,e⟩
   ·injection e with e1 _;rw[e1]
   ·exact nomatch e
  ·rcases cL hb with ⟨j,u,rfl,e⟩|⟨y,u,rfl,e⟩
   ·exact nomatch e
   ·injection e with e1 _;rw[e1]
 byValue:=λk v h=>by
  rcases cL h with ⟨i,t,rfl,rfl⟩|⟨x,t,rfl,rfl⟩<;>rfl
 pyHash:=λhv h=>by
  rcases cL hv with ⟨i,t,rfl,rfl⟩|⟨x,t,rfl,rfl⟩
  ·exact wpAny_pyHash_int h
  ·exact wpAny_pyHash_str h
 eqBool:=λhu hv h=>by
  rcases cL hu with ⟨i,t,rfl,rfl⟩|⟨x,t,rfl,rfl⟩
  ·rcases cL hv with ⟨j,u,rfl,rfl⟩|⟨y,u,rfl,rfl⟩
   ·rw[Fj]at h;exact wpAny_eqBool_int h
   ·rw[Fl]at h;exact SeqAt.EqAt.int_str i t y u _ _ _ _ h
  ·rcases cL hv with ⟨j,u,rfl,rfl⟩|⟨y,u,rfl,rfl⟩
   ·rw[Fo]at h;exact SeqAt.EqAt.str_int x t j u _ _ _ _ h
   ·rw[Fk]at h;exact wpAny_eqBool_str h
 «strs» := λk x t v h=>by
  rcases cL h with ⟨i,u,rfl,e⟩|⟨y,u,rfl,e⟩
  ·exact nomatch e
  ·injection e with e1 _
   subst e1
   cases v<;>rfl
theorem vt (prog:T3)(w:T4)(i:Int)(t:Tok):(dq prog w).is (.inl i) (.int i t)=true:=zQ i t
theorem vv (prog:T3)(w:T4)(x:Str)(t:Tok):(dq prog w).is (.inr x) (.str x t)=true:=zR x t
inductive V where
 | non|bl (b:Bool)|int (i:Int)|str (x:Str)|byt (b:Array UInt8)|flt (b:UInt64)|ref (a:Addr)|ty (n:String)
 deriving DecidableEq
def bF:V->T0->Prop
 | .non,u=>u=Value.none
 | .bl b,u=>u=Value.bool b
 | .int i,u=>∃t,u=Value.int i t
 | .str x,u=>∃t,u=Value.str x t
 | .byt b,u=>∃t,u=Value.bytes b t
 | .flt b,u=>∃t,u=Value.float b t
 | .ref a,u=>u=Value.ref a
 | .ty n,u=>u=Value.type n
abbrev aY:List V->List T0->Prop:=Paired bF
variable {us:List T0}
theorem aY.length {xs:List V}(r:aY xs us):xs.length=us.length:=Paired.length r
theorem aY.get:∀{xs:List V} {us:List T0} {i:Nat} {x:V},aY xs us->xs[i]? = some x->∃u,us[i]? = some u/\bF x u
 | _,_,_,_,.nil,e=>by simp at e
 | _,_,0,_,.cons r _,e=>by simp at e;subst e;exact⟨_,rfl,r⟩
 | _,_,i + 1,x,.cons _ t,e=>by
  obtain⟨u,h1,a⟩:=aY.get (i:=i) (x:=x) t (by simpa using e);exact⟨u,by simpa using h1,a⟩
theorem aY.set {x:V}{u:T0}(r:bF x u):∀{xs:List V} {us:List T0} (i:Nat),aY xs us->aY (xs.set i x) (us.set i u)
 | _,_,_,.nil=>.nil
 | _,_,0,.cons _ t=>.cons r t
 | _,_,i + 1,.cons q t=>.cons q (aY.set r i t)
theorem aY.append:∀{xs ys:List V} {us a:List T0},aY xs us->aY ys a->aY (xs++ys) (us++a)
 | _,_,_,_,.nil,s=>s
 | _,_,_,_,.cons r t,s=>.cons r (aY.append t s)
theorem aY.take:∀{xs:List V} {us:List T0} (n:Nat),aY xs us->aY (xs.take n) (us.take n)
 | _,_,0,_=>.nil
 | _,_,_ + 1,.nil=>.nil
 | _,_,n + 1,.cons r t=>.cons r (aY.take n t)
theorem aY.drop:∀{xs:List V} {us:List T0} (n:Nat),aY xs us->aY (xs.drop n) (us.drop n)
 | _,_,0,r=>r
 | _,_,_ + 1,.nil=>.nil
 | _,_,n + 1,.cons _ t=>aY.drop n t
def qt:Option V->Option T0->Prop
 | some v,some u=>bF v u
 | none,none=>True
 | _,_=>False
def KV {κ : Type}:List (κ × V)->List (κ × T0)->Prop:=Paired λ(p : κ × V) (q : κ × T0)=>p.1=q.1/\bF p.2 q.2
def kV:Key->V
 | .inl i=>.int i
 | .inr x=>.str x
inductive HO where
  | lst (xs:List V)
  | tup (xs:List V)
  | dK (kvs:List (Key × V))|dT (kvs:List (List Key × V))
  | set (S:Int->Bool) (n:Nat)
  | ins (C dx:Addr) (fs:List (Str × V))
  | own (x:Addr)
  | xd (fs:List (Str × V))
  | met (f x:Addr)
  | rng (lo hi:Int)
  | frz (o:Obj) (u:HO)
  | tbl (ps:Array T0)
  | ext (φ : Heap->Prop)
abbrev Hp:=Addr->Option HO
def upd (H:Hp) (a:Addr) (o:HO):Hp:=λb=>if b=a then some o else H b
variable {H:Hp}
theorem aM {a:Addr}{o:HO}:upd H a o a=some o:=by unfold upd;rw[yD rfl]
variable {b:Addr}
theorem aF {a:Addr}{o:HO}(h:b≠a):upd H a o b=H b:=by unfold upd;rw[wR h]
theorem ne_of {a:Addr}{o u:HO}(h:H a=some o)(h':H b=some u)(d:o≠u):a≠b:=by
 intro e;subst e;rw[h]at h';exact d (ZS h')
theorem bM {a:Addr}{o:HO}(h:H a=some o)(h':H b=none):a≠b:=by
 intro e;subst e;rw[h]at h';cases h'
section
variable (P:T3) (w:T4)
def dk (H:Hp) (h:Heap) (a:Addr):HO->Prop
 | .lst xs=>xs.length<=sizeLine/\∃(its:List T0) (n:Nat),aY xs its/\h.get? a=some { cls:=.type "list",data:=.seq its.toArray n }
 | .tup xs=>xs.length<=sizeLine/\∃its:List T0,aY xs its/\IsTup h a its.toArray
 | .dK kvs=>kvs.length<=sizeLine/\(a == sysModules)=false/\∃vs,KV kvs vs/\h.DictOf (dq P w) a vs
 | .dT kvs=>kvs.length<=sizeLine/\(a == sysModules)=false/\∃xs:List (List Key × Addr × T0),
   Paired (λ(p:List Key × V) (q:List Key × Addr × T0)=>p.1=q.1/\H q.2.1=some (.tup (p.1.map kV))/\bF p.2 q.2.2) kvs xs/\
   ∃o es ep,h.get? a=some o/\o.ExactDict/\o.data=.dict es ep/\es.toList=xs.map (entryOfKey (tupleKind (dq P w)))/\(xs.map (·.1)).Nodup
 | .set S n=>h.SetOf (intKind P w) a S n
 | .ins C dx fs=>H dx=some (.own a)/\fs.length<=1000/\dx≠a/\h.get? a=some (PySem.W.instObj C dx)/\
   ∃mA,h.Ns1 dx mA/\(∀f,qt (fs.lookup f) (mA f))/\PySem.Within mA (fs.map (·.1))
 | .own _=>∃o,h.get? a=some o
 | .xd fs=>∃mA,h.Ns1 a mA/\∀f,qt (fs.lookup f) (mA f)
 | .rng lo hi=>∃t u v,h.get? a=some { cls:=.type "range",data:=.fields #[.int lo t,.int hi u,.int 1 v] }
 | .frz o u=>h.get? a=some o/\dk H h a u
 | .tbl ps=>h.get? a=some { cls:=.none,data:=.fields ps }
 | .met f x=>h.get? a=some (PySem.W.methodObj (.ref f) (.ref x))
 | .ext φ => φ h/\(∃o,h.get? a=some o)/\∀h1 h2:Heap,φ h1->(∀o,h1.get? a=some o->h2.get? a=some o)->φ h2
def HOk (H:Hp) (h:Heap):Prop:=∀a o,H a=some o->dk P w H h a o
end
section
variable {P:T3} {w:T4} {H H':Hp} {h h':Heap} {a:Addr} {o:HO}
theorem dk.lt (x:dk P w H h a o):a < h.objs.size:=by
 cases o with
 | lst b=>obtain⟨_,_,_,_,e⟩:=x;exact ZH e
 | tup b=>obtain⟨_,_,_,p⟩:=x;exact p.lt
 | dK kvs=>obtain⟨_,_,_,_,o,_,_,e,_⟩:=x;exact ZH e
 | dT kvs=>obtain⟨_,_,_,_,o,_,_,e,_⟩:=x;exact ZH e
 | set S n=>obtain⟨o,_,_,_,e,_⟩:=x;exact ZH e
 | ins C g c=>obtain⟨_,_,_,e,_⟩:=x;exact ZH e
 | own y=>obtain⟨_,e⟩:=x;exact ZH e
 | xd c=>obtain⟨_,⟨_,_,_,e,_⟩,_⟩:=x;exact ZH e
 | rng k j=>obtain⟨_,_,_,e⟩:=x;exact ZH e
 | frz i u=>obtain⟨e,_⟩:=x;exact ZH e
 | tbl d=>exact ZH (show h.get? a=some _ from x)
 | met f y=>exact ZH (show h.get? a=some _ from x)
 | ext φ => obtain⟨_,⟨_,e⟩,_⟩:=x;exact ZH e
theorem Paired.mapP {α β : Type}{F G : α->β->Prop}:∀{c : List α} {d : List β},Paired F c d->(∀a b,F a b->G a b)->Paired G c d
 | _,_,.nil,_=>.nil
 | _,_,.cons r t,f=>.cons (f _ _ r) (Paired.mapP t f)
theorem dk.stay (x:dk P w H h a o)(k:∀b u,(b=a\/H b=some (.own a))->h.get? b=some u->h'.get? b=some u)
  (F:∀b,H b=some (.own a)->H' b=some (.own a)) (B:∀b xs,H b=some (.tup xs)->H' b=some (.tup xs)):dk P w H' h' a o:=by
 induction o with
 | lst xs=>obtain⟨z,l,n,r,e⟩:=x;exact⟨z,l,n,r,k _ _ (.inl rfl) e⟩
 | tup xs=>obtain⟨z,l,r,g,e,c⟩:=x;exact⟨z,l,r,g,k _ _ (.inl rfl) e,c⟩
 | dK kvs=>obtain⟨z,y,I,r,g,j,i,e,c⟩:=x;exact⟨z,y,I,r,g,j,i,k _ _ (.inl rfl) e,c⟩
 | dT kvs =>
  obtain⟨z,y,xs,r,g,j,i,e,c⟩:=x;exact⟨z,y,xs,Paired.mapP r λp q z=>⟨z.1,B _ _ z.2.1,z.2.2⟩,g,j,i,k _ _ (.inl rfl) e,c⟩
 | set S n=>obtain⟨g,j,i,t,e,c⟩:=x;exact⟨g,j,i,t,k _ _ (.inl rfl) e,c⟩
 | ins C J D =>
  obtain⟨d,z,ne,e,mA,⟨m,j,i,G,c⟩,r⟩:=x;exact⟨F _ d,z,ne,k _ _ (.inl rfl) e,mA,⟨m,j,i,k _ _ (.inr d) G,c⟩,r⟩
 | own y=>obtain⟨g,e⟩:=x;exact⟨g,k _ _ (.inl rfl) e⟩
 | xd D=>obtain⟨mA,⟨m,j,i,e,c⟩,r⟩:=x;exact⟨mA,⟨m,j,i,k _ _ (.inl rfl) e,c⟩,r⟩
 | rng K L=>obtain⟨t,u,v,e⟩:=x;exact⟨t,u,v,k _ _ (.inl rfl) e⟩
 | frz g u E=>obtain⟨e,q⟩:=x;exact⟨k _ _ (.inl rfl) e,E q⟩
 | tbl s =>
  have e:h.get? a=some { cls:=.none,data:=.fields s }:=x;show h'.get? a=some { cls:=.none,data:=.fields s };exact k a _ (.inl rfl) e
 | met f y =>
  have e:h.get? a=some (PySem.W.methodObj (.ref f) (.ref y)):=x;show h'.get? a=some (PySem.W.methodObj (.ref f) (.ref y));exact k a _ (.inl rfl) e
 | ext φ => obtain⟨p,⟨o,e⟩,A⟩:=x;exact⟨A _ _ p λo q=>k _ _ (.inl rfl) q,⟨o,k _ _ (.inl rfl) e⟩,A⟩
theorem HOk.lt (x:HOk P w H h)(e:H a=some o):a < h.objs.size:=(x a o e).lt
theorem HOk.fresh (x:HOk P w H h)(e:h.objs.size<=a):H a=none:=by
 cases q:H a with
 | none=>rfl
 | some u=>exact absurd (ZY (x.lt q) e) (Y0 _)
theorem HOk.kept (x:HOk P w H h)(k:∀b u,h.get? b=some u->h'.get? b=some u):HOk P w H h':=λa o e =>
 (x a o e).stay (λb u _ q=>k b u q) (λ_ q=>q) λ_ _ q=>q
theorem HOk.laid (x:HOk P w H h)(k:∀b u,h.get? b=some u->h'.get? b=some u)(hp:h.objs.size<=a)(new:dk P w (upd H a o) h' a o):HOk P w (upd H a o) h':=λb u e=>by
 have f:=x.fresh hp
 by_cases d:b=a
 ·subst d;rw[aM]at e;cases e;exact new
 ·rw[aF d]at e
  exact(x b u e).stay (λc v _ q=>k c v q) (λc q=>by rw[aF (bM q f)];exact q) λc g q=>by rw[aF (bM q f)];exact q
end
def Rd (H:Hp) (a:Addr) (u:HO):Prop:=H a=some u\/∃o,H a=some (.frz o u)
theorem Rd.ok {P:T3}{w:T4}{h:Heap}{a:Addr}{u:HO}(r:Rd H a u)(x:HOk P w H h):dk P w H h a u:=by
 rcases r with r|⟨o,r⟩
 ·exact x a u r
 ·obtain⟨_,q⟩:=x a _ r
  exact q
def Mut:Option HO->Prop
 | some (.lst _)=>True
 | some (.dK _)=>True
 | some (.dT _)=>True
 | some (.set _ _)=>True
 | some (.ins _ _ _)=>True
 | some (.ext _)=>True
 | _=>False
section
variable {P:T3} {w:T4} {H:Hp} {h h':Heap} {x e:Addr} {o':HO}
theorem HOk.write (ok:HOk P w H h)(j:Mut (H x))(he:e=x\/H e=some (.own x))(k:∀b u,b≠e->h.get? b=some u->h'.get? b=some u)(l:∃u,h'.get? e=some u)
  (new:dk P w (upd H x o') h' x o'):HOk P w (upd H x o') h':=λb u q=>by
 have a:∀c y,H c=some (.own y)->c≠x:=λc y r z=>by subst z;rw[r]at j;exact j
 have d:∀c f,H c=some (.tup f)->c≠x:=λc f r z=>by subst z;rw[r]at j;exact j
 by_cases g:b=x
 ·subst g;rw[aM]at q;cases q;exact new
 ·rw[aF g]at q
  by_cases hbe:b=e
  ·have m:H b=some (.own x):=by
    rcases he with z|z
    ·exact absurd (hbe.trans z) g
    ·rw[hbe];exact z
   rw[q]at m;cases m;obtain⟨v,n⟩:=l;exact⟨v,by rw[hbe];exact n⟩
  ·refine(ok b u q).stay (λc v i r=>k c v ?_ r) (λc r=>by rw[aF (a c b r)];exact r) λc f r=>by rw[aF (d c f r)];exact r
   rcases i with rfl|i
   ·exact hbe
   ·rintro rfl
    rcases he with z|z
    ·exact a c b i z
    ·rw[i]at z;cases z;exact g rfl
end
structure Un (fs ex:List Addr) (H H':Hp) (h h':Heap):Prop where
 keep:∀b o,h.get? b=some o->H b=none->b∉fs->b∉ex->h'.get? b=some o
 slot:∀b o,h.get? b=some o->H b=none->b∈fs->b∉ex->∃sl,h'.get? b=some { o with slots:=sl }
 free:∀b o,h.get? b=some o->H b=none->b∉ex->H' b=none
 there:∀b o,h.get? b=some o->b∉ex->∃o',h'.get? b=some o'
 tups:∀b xs,H b=some (.tup xs)->H' b=some (.tup xs)
 frzs:∀b o u,H b=some (.frz o u)->H' b=some (.frz o u)
 tbls:∀b ps,H b=some (.tbl ps)->∃more,H' b=some (.tbl (ps++more))
section
variable {fs fs' ex ex':List Addr} {H H1 H2:Hp} {h h1 h2 h':Heap} {a x e:Addr} {o:HO}
theorem Un.any (u:Un fs ex H H1 h h1){ob:Obj}(q:h.get? b=some ob)(n:H b=none)(d:b∉ex):∃f,h1.get? b=some { ob with slots:=f }:=by
 by_cases c:b∈fs
 ·exact u.slot b ob q n c d
 ·exact⟨ob.slots,u.keep b ob q n c d⟩
theorem Un.kept (k:∀b u,h.get? b=some u->h'.get? b=some u):Un fs ex H H h h' :=
 ⟨λb c q _ _ _=>k b c q,λb c q _ _ _=>⟨c.slots,k b c q⟩,λ_ _ _ n _=>n,λb c q _=>⟨c,k b c q⟩,λ_ _ q=>q,λ_ _ _ q=>q,λ_ d q=>⟨#[],by rw[q];simp⟩⟩
theorem Un.refl:Un fs ex H H h h:=Un.kept λ_ _ q=>q
theorem Un.laid (k:∀b u,h.get? b=some u->h'.get? b=some u)(hp:h.objs.size<=a)(c:H a=none):Un fs ex H (upd H a o) h h' where
 keep:=λb u q _ _ _=>k b u q
 slot:=λb u q _ _ _=>⟨u.slots,k b u q⟩
 free:=λb u q n _=>by rw[aF (ZM (ZY (ZH q) hp))];exact n
 there:=λb u q _=>⟨u,k b u q⟩
 tups:=λb d q=>by rw[aF (bM q c)];exact q
 frzs:=λb u d q=>by rw[aF (bM q c)];exact q
 tbls:=λb f q=>⟨#[],by rw[aF (bM q c),q];simp⟩
theorem Un.write (c:Mut (H x))(he:e=x\/H e=some (.own x))(k:∀b u,b≠e->h.get? b=some u->h'.get? b=some u)(d:∃u,h'.get? e=some u):Un fs ex H (upd H x o) h h':=by
 have i:∀b,H b=none->b≠x:=λb n z=>by subst z;rw[n]at c;exact c
 have g:∀b,H b=none->b≠e:=λb n z=>by
  subst z;rcases he with r|r
  ·exact i b n r
  ·rw[n]at r;cases r
 have f:∀b u,H b=some u->¬Mut (some u)->b≠x:=λb u q l z=>by subst z;rw[q]at c;exact l c
 refine⟨λb u q n _ _=>k b u (g b n) q,λb u q n _ _=>⟨u.slots,k b u (g b n) q⟩,λb u q n _=>by rw[aF (i b n)];exact n,λb u q _ => ?_,
  λb j q=>by rw[aF (f b _ q λz=>z)];exact q,λb u j q=>by rw[aF (f b _ q λz=>z)];exact q,λb m q=>⟨#[],by rw[aF (f b _ q λz=>z),q];simp⟩⟩
 by_cases hbe:b=e
 ·subst hbe;exact d
 ·exact⟨u,k b u hbe q⟩
end
def trk (h:Heap) (H:Hp):List Addr:=(List.range h.objs.size).filter λa=>(H a).isSome
def sQ (h:Heap) (H:Hp):Heap:=PySem.W.hideAll h (trk h H)
theorem zS (h:Heap)(H:Hp):(sQ h H).objs.size=h.objs.size:=PySem.W.hideAll_size _ _
theorem Bg {h:Heap}{o:Obj}(e:h.get? b=some o)(n:H b=none):(sQ h H).get? b=some o :=
 W8 _ e λa=>by
  have q:(H b).isSome=true:=(VC.mp a).2;rw[n]at q;simp at q
theorem DH {h:Heap}{o:Obj}(e:(sQ h H).get? b=some o):h.get? b=some o/\H b=none:=by
 have a:h.get? b=some o:=PySem.W.of_hideAll (trk h H) e;refine⟨a,?_⟩;cases q:H b with
 | none=>rfl
 | some x =>
  have c:b∈trk h H:=VC.mpr ⟨List.mem_range.mpr (ZH a),by simp[q]⟩;have z:(sQ h H).get? b=none:=PySem.W.hideAll_none (trk h H) c;rw[z]at e;cases e
def DI (g h:Heap) (L:Addr):List (Addr × Obj):=(List.range h.objs.size).filterMap λa=>if a=L\/(g.get? a).isSome=true then none else (h.get? a).map λo=>(a,o)
def rest (g h:Heap) (L d:Addr):List (Addr × Obj):=(DI g h L).filter λp=>decide (p.1≠d)
structure Mod (K:ZW) (mg:Str->Option T0) (base:Heap):Prop where
 kin:K.In base
 glob:base.Ns mainGlobals mg
 blt:∃mb,base.Ns builtinsNs mb/\∀x:Str,x ≠ "__name__"->mb x=bootBuiltins x
 nolimit:base.NoLimit
structure Cx where
 prog:T3
 w:T4
 K:ZW
 mg:Str->Option T0
 base:Heap
 A:T2
 N:List Str
 s₀ : T1
 H₀ : Hp
 env:Env
 outer:List Env
 stack:List Env
 ex:List Addr
 fn:Str->Bool
 calm:Bool
 pn:List (Addr × Obj)
 xe:T0->T1->Prop
def frs (l:List Env):List Addr:=l.filterMap (·.frame)
abbrev Cx.fs (X:Cx):List Addr:=frs X.outer
def Vis (sc:Scope) (x:Str):Prop:=sc.names.lookup x=some .local\/sc.names.lookup x=some .cell\/sc.names.lookup x=some .free
def Loc (sc:Scope) (x:Str):Prop:=sc.names.lookup x=some .local\/sc.names.lookup x=some .cell
def Jp (env:Env) (h:Heap) (m:Str->Option T0) (x:Str) (u:T0):Prop :=
 (env.kindOf x=some .local/\m x=some u)\/((env.kindOf x=some .cell\/env.kindOf x=some .free)/\∃c,env.cells.lookup x=some c/\h.IsCell c (some u))
structure Cx.Ok (X:Cx):Prop where
 mod:Mod X.K X.mg X.base
 kind:X.env.scope.kind=.function
 glob:X.env.globals=mainGlobals
 blt:X.env.builtins=builtinsNs
 above:X.s₀.heap.objs.size<=X.env.locals
 inj:∀x y c,X.env.cells.lookup x=some c->X.env.cells.lookup y=some c->x=y
 has:∀x,(X.env.kindOf x=some .cell\/X.env.kindOf x=some .free)->∃c,X.env.cells.lookup x=some c
 cab:∀x c,X.fn x=true->X.env.cells.lookup x=some c->X.s₀.heap.objs.size<=c
 hd:X.calm=true->X.A.handled=none
 frames:X.A.frames=some X.stack
 stk:X.stack=X.outer\/(X.stack=X.env :: X.outer/\X.env.frame=some X.env.locals)
 exf:∀b∈X.ex,b≠X.env.locals/\∀x c,X.env.cells.lookup x=some c->c≠b
 bs:∀b o,X.base.get? b=some o->X.s₀.heap.get? b=some o/\X.H₀ b=none
 bsz:X.base.objs.size<=X.s₀.heap.objs.size
 noex:∀b o,X.base.get? b=some o->b∉X.ex
 exfs:∀b∈X.ex,b∉X.fs
 funs:X.s₀.heap.FunFrames X.base X.outer
 frf:∀b∈X.fs,X.H₀ b=none
structure Inv (X:Cx) (pins:List (Addr × Obj)) (σ:List (Option V)) (H:Hp) (s:T1):Prop where
 ok:X.Ok
 os:s.os=X.s₀.os
 bare:AllBare s.gens
 base:Un X.fs X.ex X.H₀ H X.s₀.heap s.heap
 loc:∃m,s.heap.Ns X.env.locals m/\∀(i:Nat) (x:Str) (v:V),X.N[i]? = some x->σ[i]? = some (some v)->Vis X.env.scope x->∃u,bF v u/\Jp X.env s.heap m x u
 cell:∀x c,X.env.cells.lookup x=some c->∃v,s.heap.IsCell c v
 free:H X.env.locals=none
 freeC:∀x c,X.env.cells.lookup x=some c->H c=none
 pin:∀p∈X.pn++pins,s.heap.get? p.1=some p.2/\H p.1=none/\p.1≠X.env.locals/\p.1∉X.fs/\∀v,p.2.data ≠ .cell v
 hok:HOk X.prog X.w H s.heap
 len : σ.length=X.N.length
variable {x:Str}{u:T0}{E:T0->T1->Prop}{A:T2}
section
variable {X:Cx} {pins:List (Addr × Obj)} {σ:List (Option V)} {H H':Hp} {s:T1} {h':Heap}
theorem Cx.Ok.nofr (ok:X.Ok){o:Obj}(e:X.base.get? b=some o):b∉X.fs:=λa=>by
 have:=(ok.funs.mem a).1;rw[e]at this;cases this
theorem Inv.bs (I:Inv X pins σ H s):∀b o,X.base.get? b=some o->s.heap.get? b=some o/\H b=none:=λb o e =>
 ⟨I.base.keep b o (I.ok.bs b o e).1 (I.ok.bs b o e).2 (I.ok.nofr e) (I.ok.noex b o e),I.base.free b o (I.ok.bs b o e).1 (I.ok.bs b o e).2 (I.ok.noex b o e)⟩
theorem Inv.bk (I:Inv X pins σ H s):∀b o,X.base.get? b=some o->s.heap.get? b=some o:=λb o e=>(I.bs b o e).1
theorem Inv.mod (I:Inv X pins σ H s):Mod X.K X.mg X.base:=I.ok.mod
theorem Inv.kIn (I:Inv X pins σ H s):X.K.In s.heap:=I.ok.mod.kin.keeps I.bk
theorem Inv.lt (I:Inv X pins σ H s):X.env.locals < s.heap.objs.size:=let ⟨_,a,_⟩:=I.loc;a.lt
theorem Inv.sz (I:Inv X pins σ H s):X.s₀.heap.objs.size<=s.heap.objs.size:=ZL I.ok.above (XB I.lt)
theorem Inv.nofs (I:Inv X pins σ H s){a:Addr}(h:s.heap.objs.size<=a):a∉X.fs:=λb=>by
 obtain⟨_,o,c,_⟩:=I.ok.funs.mem b;exact absurd (ZY (ZH c) (ZL I.sz h)) (Y0 _)
theorem Inv.cne (I:Inv X pins σ H s):∀x c,X.env.cells.lookup x=some c->c≠X.env.locals:=λx c e z=>by
 obtain⟨v,o,b,d⟩:=I.cell x c e;obtain⟨m,⟨g,f,h,a,hd',_⟩,_⟩:=I.loc;rw[z,a]at b;cases b;rw[hd']at d;cases d
theorem Inv.funs (I:Inv X pins σ H s):s.heap.FunFrames X.base X.outer:=by
 have f:∀(l:List Env),(∀b∈frs l,b∈X.fs)->X.s₀.heap.FunFrames X.base l->s.heap.FunFrames X.base l:=by
  intro l
  induction l with
  | nil=>intro _ _;trivial
  | cons env r n =>
   intro g i;obtain⟨p,⟨L,o,a,k,h,j⟩,m⟩:=i;have c:L∈X.fs:=g L (by unfold frs;rw[WC,a];exact ZU);obtain⟨q,e⟩:=I.base.slot L o h (I.ok.frf L c) c λz=>I.ok.exfs L z c;exact⟨p,⟨L,_,a,k,e,j⟩,n (λb d=>g b (by unfold frs;rw[WC,a];exact ZV _ d)) m⟩
 exact f X.outer (λ_ d=>d) I.ok.funs
theorem Inv.stack (I:Inv X pins σ H s):s.heap.FunFrames X.base X.stack:=by
 rcases I.ok.stk with e|⟨e,a⟩
 ·rw[e];exact I.funs
 ·rw[e]
  obtain⟨m,b,_⟩:=I.loc;refine .cons (by rw[I.ok.kind];decide) a b ?_ I.funs;exact Heap.get?_none_of_le (ZL I.ok.bsz I.ok.above)
theorem Inv.stkSub (I:Inv X pins σ H s):∀b∈frs X.stack,b∈X.env.locals :: X.fs:=λb a=>by
 rcases I.ok.stk with e|⟨e,c⟩
 ·rw[e]at a;exact ZV _ a
 ·rw[e]at a
  unfold frs at a;rw[WC,c]at a;exact a
theorem Inv.stkFree (I:Inv X pins σ H s):∀b∈frs X.stack,H b=none:=λb a=>by
 rcases wU.mp (I.stkSub b a) with e|a
 ·rw[e];exact I.free
 ·obtain⟨_,o,c,_⟩:=I.ok.funs.mem a
  exact I.base.free b o c (I.ok.frf b a) λz=>I.ok.exfs b z a
theorem Inv.step {g':Array GenState}{t':Nat}{d':Drawn}{ch:List Addr}(I:Inv X pins σ H s)
  (g:∀b∈ch,(b∈X.ex\/X.s₀.heap.objs.size<=b)/\b≠X.env.locals/\(∀x c,X.env.cells.lookup x=some c->c≠b)/\∀p∈X.pn++pins,p.1≠b)
  (keep:∀b o,b≠X.env.locals->b∉X.fs->b∉ch->s.heap.get? b=some o->H b=none->h'.get? b=some o)
  (slot:∀b o,b≠X.env.locals->b∈X.fs->b∉ch->s.heap.get? b=some o->H b=none->∃F,h'.get? b=some { o with slots:=F }) (free:∀b o,b∉ch->s.heap.get? b=some o->H b=none->H' b=none)
  (there:∀b o,b∉ch->s.heap.get? b=some o->∃C,h'.get? b=some C)
  (tups:∀b xs,H b=some (.tup xs)->H' b=some (.tup xs)) (frzs:∀b o u,H b=some (.frz o u)->H' b=some (.frz o u)) (tbls:∀b ps,H b=some (.tbl ps)->∃D,H' b=some (.tbl (ps++D)))
  (ns:∀m,s.heap.Ns X.env.locals m->h'.Ns X.env.locals m) (hok:HOk X.prog X.w H' h') (P:AllBare g') :
  Inv X pins σ H' { s with heap:=h',gens:=g',drawn:=d',toks:=t' }:=by
 have A:∀b o,X.s₀.heap.get? b=some o->b≠X.env.locals:=λb o e=>ZM (ZY (ZH e) I.ok.above);have j:∀b o,X.s₀.heap.get? b=some o->b∉X.ex->b∉ch:=λb o e a w=>by
  rcases (g b w).1 with z|z
  ·exact a z
  ·exact absurd (ZY (ZH e) z) (Y0 _)
 have h:∀x c,X.env.cells.lookup x=some c->∀v,s.heap.IsCell c v->h'.IsCell c v:=λx c e v ⟨o,y,E⟩=>by
  have f:c∉ch:=λz=>(g c z).2.2.1 x c e rfl
  by_cases L:c∈X.fs
  ·obtain⟨F,q⟩:=slot c o (I.cne x c e) L f y (I.freeC x c e)
   exact⟨_,q,E⟩
  ·exact⟨o,keep c o (I.cne x c e) L f y (I.freeC x c e),E⟩
 refine⟨I.ok,I.os,P,⟨λb o e n w a => ?_,λb o e n w a => ?_,λb o e n a => ?_,λb o e a => ?_,λb xs e=>tups b xs (I.base.tups b xs e),λb o xs e=>frzs b o xs (I.base.frzs b o xs e),λb ps e => ?_⟩,?_,λx c e => ?_,?_,λx c e => ?_,λp K => ?_,hok,I.len⟩
 ·exact keep b o (A b o e) w (j b o e a) (I.base.keep b o e n w a) (I.base.free b o e n a)
 ·obtain⟨F,t⟩:=I.base.slot b o e n w a
  obtain⟨G,B⟩:=slot b _ (A b o e) w (j b o e a) t (I.base.free b o e n a);exact⟨G,B⟩
 ·obtain⟨C,t⟩:=I.base.there b o e a
  exact free b C (j b o e a) t (I.base.free b o e n a)
 ·obtain⟨C,t⟩:=I.base.there b o e a
  exact there b C (j b o e a) t
 ·obtain⟨N,t⟩:=I.base.tbls b ps e
  obtain⟨Q,B⟩:=tbls b _ t;exact⟨N++Q,by rw[B,Array.append_assoc]⟩
 ·obtain⟨m,R,O⟩:=I.loc
  refine⟨m,ns m R,λi x v t B M => ?_⟩;obtain⟨u,r,l⟩:=O i x v t B M;refine⟨u,r,?_⟩;rcases l with l|⟨k,c,e,z⟩
  ·exact .inl l
  ·exact .inr ⟨k,c,e,h x c e _ z⟩
 ·obtain⟨v,z⟩:=I.cell x c e
  exact⟨v,h x c e v z⟩
 ·obtain⟨m,⟨o,_,_,y,_⟩,_⟩:=I.loc
  exact free _ o (λz=>(g _ z).2.1 rfl) y I.free
 ·obtain⟨v,o,y,E⟩:=I.cell x c e
  exact free c o (λz=>(g c z).2.2.1 x c e rfl) y (I.freeC x c e)
 ·obtain⟨e,n,ne,J,d⟩:=I.pin p K
  have f:p.1∉ch:=λz=>(g p.1 z).2.2.2 p K rfl;exact⟨keep p.1 p.2 ne J f e n,free p.1 p.2 f e n,ne,J,d⟩
theorem Inv.un {t':Nat}(I:Inv X pins σ H s)(u:Un X.fs [] H H' s.heap h')(hok:HOk X.prog X.w H' h'):Inv X pins σ H' { s with heap:=h',toks:=t' }:=by
 obtain⟨m,⟨o,l,k,g,r⟩,_⟩:=id I.loc;obtain⟨p,h⟩:=u.any g I.free (by simp);exact I.step (g':=s.gens) (d':=s.drawn) (ch:=[]) (λ_ z=>nomatch z) (λb o _ c _ e n=>u.keep b o e n c (by simp)) (λb o _ c _ e n=>u.slot b o e n c (by simp)) (λb o _ e n=>u.free b o e n (by simp)) (λb o _ e=>u.there b o e (by simp)) u.tups u.frzs u.tbls (λt i=>by
  obtain⟨q,f,d,a,j⟩:=i;rw[g]at a;cases a;exact⟨_,f,d,h,j⟩) hok I.bare
theorem Inv.call {g':Array GenState}{t':Nat}{d':Drawn}{ch:List Addr}(I:Inv X pins σ H s)(u:Un (frs X.stack) ch H H' s.heap h')(hok:HOk X.prog X.w H' h')(t:AllBare g')
  (d:∀b∈ch,(b∈X.ex\/X.s₀.heap.objs.size<=b)/\b≠X.env.locals/\(∀x c,X.env.cells.lookup x=some c->c≠b)/\∀p∈X.pn++pins,p.1≠b) :
  Inv X pins σ H' { s with heap:=h',gens:=g',drawn:=d',toks:=t' }:=by
 obtain⟨m,⟨o,w,v,j,r⟩,_⟩:=id I.loc;obtain⟨y,g⟩:=u.any j I.free λz=>(d _ z).2.1 rfl;exact I.step (ch:=ch) d (λb o g k a e n=>u.keep b o e n (λz=>(wU.mp (I.stkSub b z)).elim g k) a) (λb o _ _ a e n=>u.any e n a) (λb o a e n=>u.free b o e n a) (λb o a e=>u.there b o e a) u.tups u.frzs u.tbls (λB l=>by
  obtain⟨A,i,h,f,q⟩:=l;rw[j]at f;cases f;exact⟨_,i,h,g,q⟩) hok t
theorem Inv.turned {t':Nat}{a:Addr}(I:Inv X pins σ H s)(k:∀b o,b≠a->s.heap.get? b=some o->h'.get? b=some o)(j:H a=none)(g:a≠X.env.locals)
  (h1:a∈X.ex\/X.s₀.heap.objs.size<=a) (h:∀x c,X.env.cells.lookup x=some c->c≠a) (y:∀p∈X.pn++pins,p.1≠a):Inv X pins σ H { s with heap:=h',toks:=t' }:=by
 have f:∀b u,H b=some u->b≠a:=λb u e z=>by rw[z,j]at e;cases e
 refine I.step (g':=s.gens) (d':=s.drawn) (ch:=[a]) (λb i => ?_) (λb o _ _ d e _=>k b o (λz=>d (by simp[z])) e) (λb o _ _ d e _=>⟨o.slots,k b o (λz=>d (by simp[z])) e⟩) (λ_ _ _ _ n=>n)
  (λb o d e=>⟨o,k b o (λz=>d (by simp[z])) e⟩) (λ_ _ e=>e) (λ_ _ _ e=>e) (λb B e=>⟨#[],by rw[e];simp⟩) (λm A => ?_) (λb u e => ?_) I.bare
 ·have e:b=a:=by simpa using i
  subst e;exact⟨h1,g,h,y⟩
 ·obtain⟨o,w,l,t,r⟩:=A
  exact⟨o,w,l,k _ o (YV g) t,r⟩
 ·refine(I.hok b u e).stay (λc v d q=>k c v ?_ q) (λ_ q=>q) λ_ _ q=>q
  rcases d with z|z
  ·rw[z];exact f b u e
  ·exact f c _ z
theorem Inv.tok (I:Inv X pins σ H s)(t:Nat):Inv X pins σ H { s with toks:=t }:=I.un (h':=s.heap) (t':=t) Un.refl I.hok
theorem Inv.kept {t':Nat}(I:Inv X pins σ H s)(k:∀b u,s.heap.get? b=some u->h'.get? b=some u):Inv X pins σ H { s with heap:=h',toks:=t' }:=I.un (Un.kept k) (I.hok.kept k)
theorem Inv.laid {a:Addr}{o:HO}{t':Nat}(I:Inv X pins σ H s)(k:∀b u,s.heap.get? b=some u->h'.get? b=some u)(hp:s.heap.objs.size<=a)(new:dk X.prog X.w (upd H a o) h' a o) :
  Inv X pins σ (upd H a o) { s with heap:=h',toks:=t' }:=I.un (Un.laid k hp (I.hok.fresh hp)) (I.hok.laid k hp new)
theorem Inv.write {x e:Addr}{o:HO}{t':Nat}(I:Inv X pins σ H s)(c:Mut (H x))(he:e=x\/H e=some (.own x))(k:∀b u,b≠e->s.heap.get? b=some u->h'.get? b=some u)(a:∃u,h'.get? e=some u)
  (new:dk X.prog X.w (upd H x o) h' x o):Inv X pins σ (upd H x o) { s with heap:=h',toks:=t' }:=I.un (Un.write c he k a) (I.hok.write c he k a new)
theorem Inv.pins_of {pins':List (Addr × Obj)}(I:Inv X pins σ H s)(h:∀p∈pins',s.heap.get? p.1=some p.2/\H p.1=none/\p.1≠X.env.locals/\p.1∉X.fs/\∀v,p.2.data ≠ .cell v):Inv X pins' σ H s :=
 ⟨I.ok,I.os,I.bare,I.base,I.loc,I.cell,I.free,I.freeC,λp a=>(Z0.mp a).elim (λz=>I.pin p (WV _ z)) (h p),I.hok,I.len⟩
theorem ot {N:List Str}(e:N.Nodup){i j:Nat}(a:N[i]? = some x)(b:N[j]? = some x):i=j:=by
 obtain⟨g,c⟩:=yE.mp a;obtain⟨f,d⟩:=yE.mp b;exact(List.getElem_inj e).mp (c.trans d.symm)
theorem rn {M:Model}{i:Nat}{v:V}{Q:Unit->T1->Prop}(I:Inv X pins σ H s)(hN:X.N.Nodup)(hi:X.N[i]? = some x)(w:Loc X.env.scope x)(r:bF v u)
  (h:∀s',Inv X pins (σ.set i (some v)) H s'->(∃a,Heap.SameBut a s.heap s'.heap/\(a=X.env.locals\/X.env.cells.lookup x=some a))->Q () s') (hf:X.fn x=true\/X.env.scope.names.lookup x=some .local:=by first|exact .inl rfl|exact .inr rfl|assumption):wpAny M A (storeName X.env x u) Q E s:=by
 obtain⟨m,hn,hl⟩:=id I.loc;have R:(X.env.scope.kind == .class || (X.env.scope.kind == .module && X.env.locals != X.env.globals))=false:=by rw[I.ok.kind];rfl
 have D:i < σ.length:=by rw[I.len];exact(yE.mp hi).1
 have J:=I.cne;have g:∀{a:Addr} {h':Heap},(∃o,s.heap.get? a=some o/\H a=none)->Heap.SameBut a s.heap h'->HOk X.prog X.w H h':=λ{a h'} ha f b ob e=>by
  obtain⟨_,_,B⟩:=ha;refine(I.hok b ob e).stay (λc S t q=>(f.2 c ?_).trans q) (λ_ q=>q) λ_ _ q=>q;rintro rfl;rcases t with rfl|t
  ·rw[B]at e;cases e
  ·rw[B]at t;cases t
 rcases w with F|F
 ·refine wpAny_storeName_local F hn (λh' a0 f => ?_) R
  obtain⟨oL,_,_,a1,_⟩:=id hn;refine h _ ⟨I.ok,I.os,I.bare,⟨λb o e n K w => ?_,λb o e n K w => ?_,I.base.free,λb o e w => ?_,I.base.tups,I.base.frzs,I.base.tbls⟩,⟨_,a0,λj y U l C W => ?_⟩,λy c e => ?_,I.free,I.freeC,λp Z => ?_,g ⟨oL,a1,I.free⟩ f,by simpa using I.len⟩ ⟨_,f,.inl rfl⟩
  ·exact(f.2 b (ZM (ZY (ZH e) I.ok.above))).trans (I.base.keep b o e n K w)
  ·obtain⟨sl,l⟩:=I.base.slot b o e n K w
   exact⟨sl,(f.2 b (ZM (ZY (ZH e) I.ok.above))).trans l⟩
  ·obtain⟨o',l⟩:=I.base.there b o e w
   exact⟨o',(f.2 b (ZM (ZY (ZH e) I.ok.above))).trans l⟩
  ·by_cases L:j=i
   ·subst L
    rw[hi]at l;cases l;rw[Z1 D]at C;cases C;exact⟨u,r,.inl ⟨F,by simp⟩⟩
   ·rw[ZO (YV L)]at C
    obtain⟨u',r',q⟩:=hl j y U l C W;refine⟨u',r',?_⟩;rcases q with ⟨k,e⟩|⟨k,c,e,z⟩
    ·refine .inl ⟨k,?_⟩
     have:y≠x:=λe=>L (ot hN l (e ▸ hi));simp[this,e]
    ·exact .inr ⟨k,c,e,z.sameBut f (J y c e)⟩
  ·obtain⟨S,z⟩:=I.cell y c e
   exact⟨S,z.sameBut f (J y c e)⟩
  ·obtain⟨e,n,ne,Y,d⟩:=I.pin p Z
   exact⟨(f.2 p.1 ne).trans e,n,ne,Y,d⟩
 ·have G:X.fn x=true:=by
   rcases hf with z|z
   ·exact z
   ·rw[z]at F;cases F
  obtain⟨c,t⟩:=I.ok.has x (.inl F);obtain⟨S,z⟩:=I.cell x c t;refine wpAny_storeName_cell I.ok.kind F t z (λh' N f => ?_);obtain⟨oc,O,P⟩:=id z;refine h { s with heap:=h' } ⟨I.ok,I.os,I.bare,⟨λb o e n K w => ?_,λb o e n K w => ?_,I.base.free,λb o e w => ?_,I.base.tups,I.base.frzs,I.base.tbls⟩,⟨m,hn.sameBut f (YV (J x c t)),λj y U l C W => ?_⟩,λy T e => ?_,I.free,I.freeC,λp Z => ?_,g ⟨oc,O,I.freeC x c t⟩ f,by simpa using I.len⟩ ⟨c,f,.inr t⟩
  ·exact(f.2 b (ZM (ZY (ZH e) (I.ok.cab x c G t)))).trans (I.base.keep b o e n K w)
  ·obtain⟨sl,l⟩:=I.base.slot b o e n K w
   exact⟨sl,(f.2 b (ZM (ZY (ZH e) (I.ok.cab x c G t)))).trans l⟩
  ·obtain⟨o',l⟩:=I.base.there b o e w
   exact⟨o',(f.2 b (ZM (ZY (ZH e) (I.ok.cab x c G t)))).trans l⟩
  ·by_cases L:j=i
   ·subst L
    rw[hi]at l;cases l;rw[Z1 D]at C;cases C;exact⟨u,r,.inr ⟨.inl F,c,t,N⟩⟩
   ·rw[ZO (YV L)]at C
    obtain⟨u',r',q⟩:=hl j y U l C W;refine⟨u',r',?_⟩;rcases q with q|⟨k,T,e,z'⟩
    ·exact .inl q
    ·refine .inr ⟨k,T,e,z'.sameBut f ?_⟩
     rintro rfl;exact L (ot hN l (I.ok.inj _ _ _ e t ▸ hi))
  ·by_cases hcc:T=c
   ·subst hcc;exact⟨_,N⟩
   ·obtain⟨w2,z2⟩:=I.cell y T e
    exact⟨w2,z2.sameBut f hcc⟩
  ·obtain⟨e,n,ne,Y,d⟩:=I.pin p Z
   refine⟨(f.2 p.1 ?_).trans e,n,ne,Y,d⟩;intro q;rw[q,O]at e;have q':oc=p.2:=ZS e;exact d S (by rw[<-q'];exact P)
theorem ou {M:Model}{i:Nat}{v:V}{Q:Unit->T1->Prop}(I:Inv X pins σ H s)(b:X.N.Nodup)(hi:X.N[i]? = some x)(d:Loc X.env.scope x)(r:bF v u)
  (h:∀a,Inv X pins (σ.set i (some v)) H a->Q () a) (c:X.fn x=true\/X.env.scope.names.lookup x=some .local:=by first|exact .inl rfl|exact .inr rfl|assumption):wpAny M A (storeName X.env x u) Q E s :=
 rn I b hi d r (λa e _=>h a e) c
theorem Inv.call' {a:T1}{ch:List Addr}(I:Inv X pins σ H s)(f:a.os=s.os)(u:Un (frs X.stack) ch H H' s.heap a.heap)(hok:HOk X.prog X.w H' a.heap)(h:AllBare a.gens)
  (d:∀b∈ch,(b∈X.ex\/X.s₀.heap.objs.size<=b)/\b≠X.env.locals/\(∀x c,X.env.cells.lookup x=some c->c≠b)/\∀p∈X.pn++pins,p.1≠b):Inv X pins σ H' a:=by
 obtain⟨h',g',d',t',g⟩:=a;have e:g=s.os:=f;subst e;exact I.call (g':=g') (t':=t') (d':=d') u hok h d
end
abbrev XK:=T0->Option Addr->Hp->Prop
abbrev St:=List (Option V)
abbrev VK:=V->Hp->Prop
abbrev TE:=St->Hp->VK->Prop
abbrev TT:=St->Hp->(Bool->Hp->Prop)->Prop
abbrev TA:=St->Hp->(List V->Hp->Prop)->Prop
structure mf where
 nx:St->Hp->Prop
 rt:VK
 bk:St->Hp->Prop:=λ_ _=>False
 ct:St->Hp->Prop:=λ_ _=>False
abbrev TS:=mf->St->Hp->Prop
def EP (X:Cx) (pins:List (Addr × Obj)) (σ:St) (Q:VK) (u:T0) (s':T1):Prop:=∃v H',Inv X pins σ H' s'/\bF v u/\Q v H'
def TP (X:Cx) (pins:List (Addr × Obj)) (σ:St) (Q:Bool->Hp->Prop) (b:Bool) (s':T1):Prop:=∃H',Inv X pins σ H' s'/\Q b H'
def AP (X:Cx) (pins:List (Addr × Obj)) (σ:St) (Q:List V->Hp->Prop) (us:List T0) (s':T1):Prop:=∃vs H',Inv X pins σ H' s'/\aY vs us/\Q vs H'
def SP (X:Cx) (pins:List (Addr × Obj)) (D:mf) (f:Flow) (s':T1):Prop :=
 match f with
 | .next=>∃σ' H',Inv X pins σ' H' s'/\D.nx σ' H'
 | .brk=>∃σ' H',Inv X pins σ' H' s'/\D.bk σ' H'
 | .cont=>∃σ' H',Inv X pins σ' H' s'/\D.ct σ' H'
 | .ret u=>∃v σ' H',Inv X pins σ' H' s'/\bF v u/\D.rt v H'
def PE (X:Cx) (e:Expr) (t:TE):Prop :=
 ∀(pins:List (Addr × Obj)) (s:T1) (σ:St) (H:Hp) (Q:VK),Inv X pins σ H s->t σ H Q->wpAny (model X.prog X.w) X.A (eval e X.env) (EP X pins σ Q) X.xe s
def PT (X:Cx) (e:Expr) (t:TT):Prop :=
 ∀(pins:List (Addr × Obj)) (s:T1) (σ:St) (H:Hp) (Q:Bool->Hp->Prop),Inv X pins σ H s->t σ H Q->wpAny (model X.prog X.w) X.A (isTrue e X.env (eval e X.env)) (TP X pins σ Q) X.xe s
def PW (X:Cx) (e:Expr) (t:TT):Prop :=
 ∀(whole:Sem T0) (pins:List (Addr × Obj)) (s:T1) (σ:St) (H:Hp) (Q:Bool->Hp->Prop),Inv X pins σ H s->t σ H Q->wpAny (model X.prog X.w) X.A (isTrue e X.env whole) (TP X pins σ Q) X.xe s
theorem PW.pt {X:Cx}{e:Expr}{t:TT}(h:PW X e t):PT X e t:=h _
def PA (X:Cx) (es:List Expr) (t:TA):Prop :=
 ∀(pos:Pos) (pins:List (Addr × Obj)) (s:T1) (σ:St) (H:Hp) (Q:List V->Hp->Prop),Inv X pins σ H s->t σ H Q->wpAny (model X.prog X.w) X.A (spliced (backTo pos (starEach es X.env))) (AP X pins σ Q) X.xe s
def PS (X:Cx) (st:Stmt) (t:TS):Prop :=
 ∀(pins:List (Addr × Obj)) (s:T1) (σ:St) (H:Hp) (D:mf),Inv X pins σ H s->t D σ H->wpAny (model X.prog X.w) X.A (exec st X.env) (SP X pins D) X.xe s
def PSs (X:Cx) (st:List Stmt) (t:TS):Prop :=
 ∀(pins:List (Addr × Obj)) (s:T1) (σ:St) (H:Hp) (D:mf),Inv X pins σ H s->t D σ H->wpAny (model X.prog X.w) X.A (execs st X.env) (SP X pins D) X.xe s
variable {s:T1}
theorem thn {α : Type}{t:Sem α}{Q b : α->T1->Prop}{M:Model}(h:wpAny M A t Q E s)(c:∀a s,Q a s->b a s):wpAny M A t b E s:=YY h c λ_ _ x=>x
variable {pos:Pos}{σ:St}{pins:List (Addr × Obj)}
section
variable {X:Cx}
def Fp (i:Nat):TE:=λσ H Q=>∃v,σ[i]? = some (some v)/\Q v H
def tC (v:V):TE:=λ_ H Q=>Q v H
theorem ow {i:Nat}   (f:X.N[i]? = some x) (n:Vis X.env.scope x) (hd:(x == ("__debug__" : Str))=false:=by decide) (b:(x == ("__classdict__" : Str))=false:=by decide):PE X (.Name x pos) (Fp i):=by
 intro pins s σ H Q I h;obtain⟨v,e,h⟩:=h;obtain⟨m,j,g⟩:=I.loc;obtain⟨u,r,l⟩:=g i x v f e n;have fin:EP X pins σ Q u s:=⟨v,H,I,r,h⟩;rcases l with ⟨a,k⟩|⟨a,c,d,hcell⟩
 ·exact wpAny_Name (wpAny_loadName_local I.ok.kind a j k fin) hd
 ·rcases a with a|a
  ·exact wpAny_Name (wpAny_loadName_cell I.ok.kind a d hcell fin) hd
  ·exact wpAny_Name (wpAny_loadName_free I.ok.kind a d hcell fin b) hd
theorem Bh {i j pos}:PE X (.Constant (.int i) j pos) (tC (.int i)):=λ_ _ _ H _ I h=>wpAny_Constant_int ⟨.int i,H,I.tok _,⟨_,rfl⟩,h⟩
theorem HL {b j pos}:PE X (.Constant (.bool b) j pos) (tC (.bl b)):=λ_ _ _ H _ I h=>Constant_bool ⟨.bl b,H,I,rfl,h⟩
theorem Fq {j pos}:PE X (.Constant .none j pos) (tC .non):=λ_ _ _ H _ I h=>Constant_none ⟨.non,H,I,rfl,h⟩
theorem oy {x j pos}:PE X (.Constant (.str x) j pos) (tC (.str x)):=λ_ _ _ H _ I h=>Calls.Constant_str ⟨.str x,H,I.tok _,⟨_,rfl⟩,h⟩
def Gl (X:Cx) (x:Str):Prop:=X.env.kindOf x=some .globalImplicit
theorem kN {Q:T0->T1->Prop}(I:Inv X pins σ H s)(a:Gl X x)(b:X.mg x=some u)(h:Q u s)
  (hd:(x == ("__debug__" : Str))=false:=by decide):wpAny (model X.prog X.w) X.A (eval (.Name x pos) X.env) Q E s :=
 WW I.ok.kind a (Calls.loadGlobal_global (by rw[I.ok.glob];exact I.mod.glob.keeps I.bk) b h) hd
theorem oz {Q:T0->T1->Prop}(I:Inv X pins σ H s)(d:Gl X x)(e:X.mg x=none)(f:bootBuiltins x=some u)(h:Q u s)
  (b:x ≠ "__name__" := by decide) (hd:(x == ("__debug__" : Str))=false:=by decide):wpAny (model X.prog X.w) X.A (eval (.Name x pos) X.env) Q E s:=by
 obtain⟨g,c,a⟩:=I.mod.blt;exact WW I.ok.kind d (Calls.loadGlobal_builtin (by rw[I.ok.glob];exact I.mod.glob.keeps I.bk) e (by rw[I.ok.blt];exact c.keeps I.bk) ((a x b).trans f) h) hd
theorem j0  {v:V}   (a:Gl X x) (b:X.mg x=some u) (r:bF v u) (hd:(x == ("__debug__" : Str))=false:=by decide):PE X (.Name x pos) (tC v) :=
 λ_ _ _ H _ I h=>kN I a b ⟨v,H,I,r,h⟩ hd
theorem sR  {v:V}   (b:Gl X x) (c:X.mg x=none) (d:bootBuiltins x=some u) (r:bF v u) (a:x ≠ "__name__" := by decide) (hd:(x == ("__debug__" : Str))=false:=by decide):PE X (.Name x pos) (tC v) :=
 λ_ _ _ H _ I h=>oz I b c d ⟨v,H,I,r,h⟩ a hd
variable {a b:Expr} {ta tb:TE} {pos:Pos}
def tB (t:TE):TT:=λσ H Q=>t σ H λx H1=>∃c,x=.bl c/\Q c H1
theorem oA {e:Expr}{t:TE}(h:PE X e t)(he:∀c,isTrue e X.env c=(do let v <-c;standAt e.pos;holding [v] (truthy v)):=by intro _;rfl):PT X e (tB t):=by
 intro pins s σ H Q I g;refine isTrue_plain (thn (h pins s σ H _ I g) λv l ⟨x,j,i,k,f⟩ => ?_) (he _);obtain⟨d,rfl,q⟩:=f;cases k;exact Y4 ⟨j,i,q⟩
variable {tA tB':TT} {rest:List Expr}
def jr (t u:TT):TT:=λσ H Q=>t σ H λc H1=>if c=true then u σ H1 Q else Q false H1
def tOr (t u:TT):TT:=λσ H Q=>t σ H λc H1=>if c=true then Q true H1 else u σ H1 Q
def dh (t:TT):TT:=λσ H Q=>t σ H λc H1=>Q (!c) H1
theorem yN (d:PT X a tA):PW X (.BoolOp .And [a] pos) tA:=by
 intro f pins s σ H Q I h;refine isTrue_and (thn (d pins s σ H Q I h) λc g e => ?_);cases c with
 | true=>exact isTrue_and_nil e
 | false=>exact e
theorem Fs (d:PT X a tA):PW X (.BoolOp .Or [a] pos) tA:=by
 intro f pins s σ H Q I h;refine isTrue_or (thn (d pins s σ H Q I h) λc g e => ?_);cases c with
 | false=>exact isTrue_or_nil e
 | true=>exact e
theorem xr (k:PT X a tA)(j:PW X (.BoolOp .And (b :: rest) pos) tB'):PW X (.BoolOp .And (a :: b :: rest) pos) (jr tA tB'):=by
 intro g pins s σ H Q I h;refine isTrue_and (thn (k pins s σ H _ I h) λc i ⟨f,e,d⟩ => ?_);cases c with
 | true=>exact j g pins i σ f Q e d
 | false=>exact⟨f,e,d⟩
theorem HM (k:PT X a tA)(j:PW X (.BoolOp .Or (b :: rest) pos) tB'):PW X (.BoolOp .Or (a :: b :: rest) pos) (tOr tA tB'):=by
 intro g pins s σ H Q I h;refine isTrue_or (thn (k pins s σ H _ I h) λc i ⟨f,e,d⟩ => ?_);cases c with
 | true=>exact⟨f,e,d⟩
 | false=>exact j g pins i σ f Q e d
theorem Bi (e:PT X a tA):PT X (.UnaryOp .Not a pos) (dh tA):=by
 intro pins s σ H Q I h;exact isTrue_not (e pins s σ H (λc d=>Q (!c) d) I h)
def HN (ta tb:TE):TE:=λσ H Q=>ta σ H λx H1=>∃c,x=.bl c/\if c=true then tb σ H1 Q else Q (.bl false) H1
def Jq (ta tb:TE):TE:=λσ H Q=>ta σ H λx H1=>∃c,x=.bl c/\if c=true then Q (.bl true) H1 else tb σ H1 Q
def HP (ta:TE):TE:=λσ H Q=>ta σ H λx H1=>∃c,x=.bl c/\Q (.bl (!c)) H1
theorem Ft {op}{t:TE}(h:PE X a t):PE X (.BoolOp op [a] pos) t:=λpins s σ H Q I c=>BoolOp_one (h pins s σ H Q I c)
theorem Fu (j:PE X a ta)(i:PE X (.BoolOp .And (b :: rest) pos) tb):PE X (.BoolOp .And (a :: b :: rest) pos) (HN ta tb):=by
 intro pins s σ H Q I h;refine BoolOp_and (thn (j pins s σ H _ I h) λv g ⟨x,f,e,k,d⟩ => ?_);obtain⟨c,rfl,d⟩:=d;cases k;refine Y4 ?_;cases c with
 | true=>exact i pins g σ f Q e d
 | false=>exact⟨.bl false,f,e,rfl,d⟩
theorem HQ (j:PE X a ta)(i:PE X (.BoolOp .Or (b :: rest) pos) tb):PE X (.BoolOp .Or (a :: b :: rest) pos) (Jq ta tb):=by
 intro pins s σ H Q I h;refine BoolOp_or (thn (j pins s σ H _ I h) λv g ⟨x,f,e,k,d⟩ => ?_);obtain⟨c,rfl,d⟩:=d;cases k;refine Y4 ?_;cases c with
 | false=>exact i pins g σ f Q e d
 | true=>exact⟨.bl true,f,e,rfl,d⟩
theorem Fv (f:PE X a ta):PE X (.UnaryOp .Not a pos) (HP ta):=by
 intro pins s σ H Q I h;refine UnaryOp_ (thn (f pins s σ H _ I h) λv j ⟨x,g,e,i,d⟩ => ?_);obtain⟨c,rfl,d⟩:=d;cases i;exact not_of (Y4 ⟨.bl (!c),g,e,rfl,d⟩)
def tIf (t:TT) (ta tb:TE):TE:=λσ H Q=>t σ H λc H1=>if c=true then ta σ H1 Q else tb σ H1 Q
theorem Bj {c:Expr}(l:PT X c tA)(k:PE X a ta)(j:PE X b tb):PE X (.IfExp c a b pos) (tIf tA ta tb):=by
 intro pins s σ H Q I h;refine wpAny_IfExp (thn (l pins s σ H _ I h) λd f ⟨i,g,e⟩ => ?_);cases d with
 | true=>exact k pins f σ i Q g e
 | false=>exact j pins f σ i Q g e
end
def SqL (K:ZW) (H:Hp) (a:Addr) (xs:List V):Prop :=
 Rd H a (.lst xs)\/
  ∃(o:Obj) (its:Array T0) (n:Nat),K.lookup a=some o/\o.cls=.type "list"/\o.dict=none/\o.data=.seq its n/\its.size<=sizeLine/\aY xs its.toList
def SqT (K:ZW) (H:Hp) (a:Addr) (xs:List V):Prop :=
 Rd H a (.tup xs)\/
  ∃(o:Obj) (its:Array T0) (n:Nat),K.lookup a=some o/\o.cls=.type "tuple"/\o.data=.seq its n/\its.size<=sizeLine/\aY xs its.toList
def Jr:T0->Option V
 | .none=>some .non
 | .bool b=>some (.bl b)
 | .int i _=>some (.int i)
 | .str x _=>some (.str x)
 | .bytes b _=>some (.byt b)
 | .float b _=>some (.flt b)
 | .ref a=>some (.ref a)
 | .type n=>some (.ty n)
 | _=>none
theorem bF.abs {x:V}(r:bF x u):Jr u=some x:=by
 cases x with
 | non=>cases r;rfl
 | bl _=>cases r;rfl
 | int _=>obtain⟨t,rfl⟩:=r;rfl
 | str _=>obtain⟨t,rfl⟩:=r;rfl
 | byt _=>obtain⟨t,rfl⟩:=r;rfl
 | flt _=>obtain⟨t,rfl⟩:=r;rfl
 | ref _=>cases r;rfl
 | ty _=>cases r;rfl
theorem bF.inj {x y:V}(r:bF x u)(q:bF y u):x=y:=ZS (r.abs.symm.trans q.abs)
theorem aY.inj:∀{xs ys:List V} {us:List T0},aY xs us->aY ys us->xs=ys
 | _,_,_,.nil,.nil=>rfl
 | _,_,_,.cons r t,.cons a t'=>by rw[r.inj a,aY.inj t t']
variable {K:ZW}
section
variable {X:Cx} {pins:List (Addr × Obj)} {σ:St} {H:Hp} {s:T1} {a:Addr} {xs ys:List V}
theorem SqL.of (h:H a=some (.lst xs)):SqL K H a xs:=.inl (.inl h)
theorem SqT.of (h:H a=some (.tup xs)):SqT K H a xs:=.inl (.inl h)
theorem Inv.list (I:Inv X pins σ H s)(h:SqL X.K H a xs):∃b:List T0,aY xs b/\PlainL s.heap a b.toArray/\xs.length<=sizeLine:=by
 rcases h with h|⟨o,b,n,f,d,c,g,i,r⟩
 ·obtain⟨z,b,n,r,e⟩:=h.ok I.hok
  exact⟨b,r,⟨_,n,e,rfl,rfl,rfl⟩,z⟩
 ·refine⟨b.toList,r,⟨o,n,I.kIn a o f,d,c,by simpa using g⟩,?_⟩
  have e:=r.length;simp only[Array.length_toList]at e;omega
theorem Inv.tuple (I:Inv X pins σ H s)(h:SqT X.K H a xs):∃b:List T0,aY xs b/\IsTup s.heap a b.toArray/\xs.length<=sizeLine:=by
 rcases h with h|⟨o,b,n,d,c,f,g,r⟩
 ·obtain⟨z,b,r,p⟩:=h.ok I.hok
  exact⟨b,r,p,z⟩
 ·refine⟨b.toList,r,⟨o,I.kIn a o d,c,n,by simpa using f⟩,?_⟩
  have e:=r.length;simp only[Array.length_toList]at e;omega
theorem Inv.list_inj (I:Inv X pins σ H s)(h:SqL X.K H a xs)(h':SqL X.K H a ys):xs=ys:=by
 obtain⟨c,r,⟨o,n,e,_,_,d⟩,_⟩:=I.list h;obtain⟨b,j,⟨k,l,f,_,_,g⟩,_⟩:=I.list h';rw[e]at f;cases f;rw[d]at g;injection g with i _
 have:c=b:=by simpa using congrArg Array.toList i
 subst this;exact r.inj j
theorem Inv.tuple_inj (I:Inv X pins σ H s)(h:SqT X.K H a xs)(h':SqT X.K H a ys):xs=ys:=by
 obtain⟨c,r,⟨o,e,_,n,d⟩,_⟩:=I.tuple h;obtain⟨b,j,⟨k,f,_,l,g⟩,_⟩:=I.tuple h';rw[e]at f;cases f;rw[d]at g;injection g with i _
 have:c=b:=by simpa using congrArg Array.toList i
 subst this;exact r.inj j
end
abbrev Cx.wish (X:Cx) (E:T0->T1->Prop):Cx:={ X with xe:=E }
abbrev Cx.nox (X:Cx):Cx:=X.wish λ_ _=>False
theorem Cx.Ok.wish {X:Cx}(ok:X.Ok)(E:T0->T1->Prop):(X.wish E).Ok :=
 ⟨ok.mod,ok.kind,ok.glob,ok.blt,ok.above,ok.inj,ok.has,ok.cab,ok.hd,ok.frames,ok.stk,ok.exf,ok.bs,ok.bsz,ok.noex,ok.exfs,ok.funs,ok.frf⟩
theorem Cx.Ok.unwish {X:Cx}(ok:(X.wish E).Ok):X.Ok :=
 ⟨ok.mod,ok.kind,ok.glob,ok.blt,ok.above,ok.inj,ok.has,ok.cab,ok.hd,ok.frames,ok.stk,ok.exf,ok.bs,ok.bsz,ok.noex,ok.exfs,ok.funs,ok.frf⟩
section
variable {X:Cx} {pins:List (Addr × Obj)} {σ:St} {H:Hp} {s:T1} {E:T0->T1->Prop}
theorem Inv.wish (I:Inv X pins σ H s)(E:T0->T1->Prop):Inv (X.wish E) pins σ H s:=⟨I.ok.wish E,I.os,I.bare,I.base,I.loc,I.cell,I.free,I.freeC,I.pin,I.hok,I.len⟩
theorem Inv.unwish (I:Inv (X.wish E) pins σ H s):Inv X pins σ H s:=⟨I.ok.unwish,I.os,I.bare,I.base,I.loc,I.cell,I.free,I.freeC,I.pin,I.hok,I.len⟩
theorem SP.unwish {D:mf}{f:Flow}{c:T1}(h:SP (X.wish E) pins D f c):SP X pins D f c:=by
 cases f with
 | next=>obtain⟨a,b,I,q⟩:=h;exact⟨a,b,I.unwish,q⟩
 | brk=>obtain⟨a,b,I,q⟩:=h;exact⟨a,b,I.unwish,q⟩
 | cont=>obtain⟨a,b,I,q⟩:=h;exact⟨a,b,I.unwish,q⟩
 | ret u=>obtain⟨v,a,b,I,r,q⟩:=h;exact⟨v,a,b,I.unwish,r,q⟩
theorem PSs.nox {st:List Stmt}{t:TS}(h:PSs X.nox st t):PSs X st t:=λpins s σ H D I a =>
 YY (h pins s σ H D (I.wish _) a) (λ_ _ q=>q.unwish) λ_ _ z=>False.elim z
end
section
variable {X:Cx} {st:Stmt} {rest:List Stmt} {t u:TS} {e:Expr} {te:TE} {pos:Pos}
def HR:TS:=λD σ H=>D.nx σ H
def Js (t u:TS):TS:=λD σ H=>t { D with nx:=u D } σ H
theorem kO:PSs X [] HR:=λ_ _ σ H _ I h=>wpAny_execs_nil ⟨σ,H,I,h⟩
theorem kP (h1:PS X st t)(d:PSs X rest u):PSs X (st :: rest) (Js t u):=by
 intro pins s σ H D I h;refine wpAny_execs_cons (thn (h1 pins s σ H { D with nx:=u D } I h) λf c q => ?_);cases f with
 | next =>
  obtain⟨a,b,g,q⟩:=q;exact d pins c a b D g q
 | ret v=>exact q
 | brk=>exact q
 | cont=>exact q
theorem fW (h1:PS X st t):PSs X [st] t:=by
 intro pins s σ H D I h;refine wpAny_execs_cons (thn (h1 pins s σ H D I h) λf a q => ?_);cases f with
 | next=>exact wpAny_execs_nil q
 | ret v=>exact q
 | brk=>exact q
 | cont=>exact q
def Fw:TS:=λD σ H=>D.bk σ H
theorem Bk:PS X (.Break pos) Fw:=λ_ _ σ H _ I h=>wpAny_Break ⟨σ,H,I,h⟩
theorem Inv.quiet (I:Inv X pins σ H s):interactive X.env=false:=by simp[interactive,I.ok.kind]
def HS (te:TE):TS:=λD σ H=>te σ H λ_ H1=>D.nx σ H1
theorem DJ (he:PE X e te)(b:swapsWith e none pos.line X.env=pure false:=by rfl):PS X (.Expr e pos) (HS te):=by
 intro pins s σ H D I h;exact wpAny_Expr_any (thn (he pins s σ H _ I h) λv f ⟨x,d,c,g,a⟩=>⟨σ,d,c,a⟩) I.quiet b
def Jt (te:TE):TS:=λD σ H=>te σ H D.rt
theorem Fx (he:PE X e te):PS X (.Return (some e) pos) (Jt te):=by
 intro pins s σ H D I h;exact wpAny_Return_some (thn (he pins s σ H _ I h) λv f ⟨x,c,b,d,a⟩=>⟨x,σ,c,b,d,a⟩)
def Ju (c:TT) (t u:TS):TS:=λD σ H=>c σ H λb H1=>if b=true then t D σ H1 else u D σ H1
theorem vx {c:Expr}{a b:List Stmt}{tc:TT}(m:PT X c tc)(l:PSs X a t)(k:PSs X b u):PS X (.If c a b pos) (Ju tc t u):=by
 intro pins s σ H D I h;refine wpAny_If (thn (m pins s σ H _ I h) λd g ⟨j,i,f⟩ => ?_);cases d with
 | true=>exact l pins g σ j D i f
 | false=>exact k pins g σ j D i f
def Fz:TS:=λ_ _ _=>False
theorem Bl:PS X st Fz:=λ_ _ _ _ _ _ h=>h.elim
end
abbrev TG:=V->St->Hp->(St->Hp->Prop)->Prop
abbrev TGs:=List V->St->Hp->(St->Hp->Prop)->Prop
def PG (X:Cx) (target:Expr) (t:TG):Prop :=
 ∀(pins:List (Addr × Obj)) (s:T1) (σ:St) (H:Hp) (v:V) (u:T0) (Q:St->Hp->Prop),Inv X pins σ H s->bF v u->t v σ H Q->
  wpAny (model X.prog X.w) X.A (assign target X.env u) (λ_ s'=>∃σ' H',Inv X pins σ' H' s'/\Q σ' H') X.xe s
def PGs (X:Cx) (ts:List Expr) (t:TGs):Prop :=
 ∀(pins:List (Addr × Obj)) (s:T1) (σ:St) (H:Hp) (vs:List V) (us:List T0) (Q:St->Hp->Prop),Inv X pins σ H s->aY vs us->t vs σ H Q->
  wpAny (model X.prog X.w) X.A (assignInOrder ((assignEach ts X.env).map (·.2)) us) (λ_ s'=>∃σ' H',Inv X pins σ' H' s'/\Q σ' H') X.xe s
abbrev FA:=V->V->V->Hp->(Hp->Prop)->Prop
def FC (X:Cx) (t:FA):Prop :=
 ∀(pins:List (Addr × Obj)) (s:T1) (σ:St) (H:Hp) (o i v:V) (ov iv u:T0) (Q:Hp->Prop),Inv X pins σ H s->bF o ov->bF i iv->bF v u->t o i v H Q->
  wpAny (model X.prog X.w) X.A (setItem ov iv u) (λ_ s'=>∃H',Inv X pins σ H' s'/\Q H') X.xe s
section
variable {X:Cx} {pos:Pos}
def Bm (i:Nat):TG:=λv σ H Q=>Q (σ.set i (some v)) H
theorem DK {i:Nat}(a:X.N.Nodup)(hi:X.N[i]? = some x)(c:Loc X.env.scope x)(b:X.fn x=true\/X.env.scope.names.lookup x=some .local:=by first|exact .inl rfl|exact .inr rfl|assumption):PG X (.Name x pos) (Bm i):=by
 intro pins s σ H v u Q I r h;exact wpAny_assign_Name (ou I a hi c r (λe d=>⟨_,H,d,h⟩) b)
def Jv:TGs:=λvs σ H Q=>vs=[]/\Q σ H
def HU (t:TG) (u:TGs):TGs:=λvs σ H Q=>∃v r,vs=v :: r/\t v σ H λσ' H'=>u r σ' H' Q
theorem yO:PGs X [] Jv:=by
 intro pins s σ H b a Q I r h;obtain⟨e,h⟩:=h;subst e;cases r;exact assignInOrder_nil ⟨σ,H,I,h⟩
theorem oC {e:Expr}{a:List Expr}{t:TG}{u:TGs}(h1:PG X e t)(d:PGs X a u)
  (i:(assignEach (e :: a) X.env).map (·.2)=assign e X.env :: (assignEach a X.env).map (·.2):=by rfl):PGs X (e :: a) (HU t u):=by
 intro pins s σ H o m Q I r h;obtain⟨v,n,j,h⟩:=h;subst j;cases r with
 | cons r l =>
  rw[i];refine assignInOrder_cons (thn (h1 pins s σ H _ _ _ I r h) λ_ g ⟨b,k,f,c⟩ => ?_);exact d pins g b k _ _ Q f l c
def Jw (K:ZW) (n:Nat) (t:TGs):TG:=λv σ H Q=>∃a xs,v=.ref a/\SqT K H a xs/\xs.length=n/\t xs σ H Q
theorem Bn {c:List Expr}{k:Nat}{t:TGs}{n:Nat}(w:X.calm=true)(h:PGs X c t)
  (q:(assignEach c X.env).length=n:=by rfl) (d:(assignEach c X.env).findIdx? (·.1)=none:=by rfl):PG X (.Tuple c k pos) (Jw X.K n t):=by
 intro pins s σ H v u Q I r f;obtain⟨a,x,z,j,y,f⟩:=f;subst z;cases r;obtain⟨m,g,i,B⟩:=I.tuple j;refine assign_Tuple_tuple (I.ok.hd w) i (by simp[q,<-y,g.length]) d λp A => ?_;have l:Inv X pins σ H { s with heap:=p }:=I.kept (t':=s.toks) λb o e=>A b o (ZM (ZH e)) e;exact h pins _ σ H x _ Q l (by simpa using g) f
def Jx (to ti:TE) (t:FA):TG:=λv σ H Q=>to σ H λo H1=>ti σ H1 λi H2=>t o i v H2 λH3=>Q σ H3
theorem sS {o i:Expr}{to ti:TE}{t:FA}(k:PE X o to)(hi:PE X i ti)(p:FC X t)
  (f:∀v,assign (.Subscript o i pos) X.env v=(do
   let ov <-holding [v] (eval o X.env)
   let a <-holding [v,ov] (eval i X.env)
   standAt pos
   holding [v,ov,a] (setItem ov a v)
   release [v,ov,a] []):=by intro _;rfl):PG X (.Subscript o i pos) (Jx to ti t):=by
 intro pins s σ H v u Q I r h;rw[f];refine yC (Y1 (thn (k pins s σ H _ I h) λov n ⟨x,A,e,j,b⟩ => ?_));refine yC (Y1 (thn (hi pins n σ A _ e b) λa g ⟨y,c,w,q,l⟩ => ?_));refine yC (VB (yC (Y1 (thn (p pins g σ c x y v ov a u _ w j q r l) λ_ B ⟨m,z,d⟩ => ?_))));exact wpAny_release ⟨σ,m,z,d⟩
def FD (te:TE) (g:TG):TS:=λD σ H=>te σ H λx H1=>g x σ H1 D.nx
theorem sT {tg e:Expr}{a:TE}{g:TG}(he:PE X e a)(l:PG X tg g)(j:swapsWithSole [tg] e pos.line X.env=pure false:=by rfl)(i:swappedStores [tg] e X.env=pure none:=by rfl)
  (h1:(assignEach [tg] X.env).map (·.2)=[assign tg X.env]:=by rfl):PS X (.Assign [tg] e pos) (FD a g):=by
 intro pins s σ H D I h;refine wpAny_Assign_stores (thn (he pins s σ H _ I h) λv f ⟨x,k,c,d,b⟩ => ?_) j i;rw[h1];exact thn (l pins f σ k x v _ c d b) λ_ m q=>q
theorem kz {i:Nat}{e:Expr}{b:TE}{a:Pos}(g:X.N.Nodup)(hi:X.N[i]? = some x)(n:Loc X.env.scope x)(he:PE X e b)(j:swapsWith e (some (.Name x a)) pos.line X.env=pure false:=by rfl)(k:X.fn x=true\/X.env.scope.names.lookup x=some .local:=by first|exact .inl rfl|exact .inr rfl|assumption) :
  PS X (.Assign [.Name x a] e pos) (FD b (Bm i)):=by
 intro pins s σ H D I h;refine wpAny_Assign_Name (thn (he pins s σ H _ I h) λv p ⟨y,m,d,f,c⟩ => ?_) j;exact ou d g hi n f (λo l=>⟨_,m,l,c⟩) k
end
section
variable {X:Cx} {pos:Pos}
def FE (c:TT) (tb:TS):TS:=λD σ H=>∃W:Nat->St->Hp->Prop,(∃m,W m σ H)/\∀m σ H,W m σ H->
 c σ H λb H1=>if b=true then ∃N:St->Hp->Prop,(∀σ' H',N σ' H'->∃m',m' < m/\W m' σ' H')/\tb { D with nx:=N,ct:=N,bk:=D.nx } σ H1 else D.nx σ H1
theorem Bo {c:Expr}{e:List Stmt}{tc:TT}{y:TS}(hp:PassesOwn (model X.prog X.w) X.A X.env X.xe)(E:PT X c tc)(A:PSs X e y):PS X (.While c e [] pos) (FE tc y):=by
 intro pins s σ H D I h;obtain⟨W,⟨G,J⟩,turn⟩:=h;refine wpAny_While (codeAny_whileLoop (λn K=>∃g t,Inv X pins g t K/\W n g t) ?_ G ⟨σ,H,I,J⟩);rintro n F ⟨d,x,z,B⟩;refine X8 hp (thn (E pins F d x _ z (turn n d x B)) λb C ⟨r,w,k⟩ => ?_);cases b with
 | true =>
  obtain⟨N,u,k⟩:=k;rw[yD rfl];refine X8 hp (thn (A pins C d r _ w k) λf L j => ?_);cases f with
  | next =>
   obtain⟨a,i,o,l⟩:=j;obtain⟨m,q,p⟩:=u a i l;exact⟨m,q,a,i,o,p⟩
  | cont =>
   obtain⟨a,i,o,l⟩:=j;obtain⟨m,q,p⟩:=u a i l;exact⟨m,q,a,i,o,p⟩
  | brk=>exact j
  | ret v=>exact j
 | false =>
  rw[wR wV];exact wpAny_execs_nil ⟨d,r,w,k⟩
end
structure It where
 go:Nat->Hp->Prop
 yld:Nat->Hp->V->Hp->Prop
 stop:Nat->Hp->Prop
def qu (X:Cx) (pins:List (Addr × Obj)) (H:Hp) (b:Addr):Prop :=
 H b=none/\b≠X.env.locals/\b∉X.fs/\(b∈X.ex\/X.s₀.heap.objs.size<=b)/\(∀x c,X.env.cells.lookup x=some c->c≠b)/\∀p∈X.pn++pins,p.1≠b
theorem Inv.fpOk {X:Cx}{d:Hp}(I:Inv X pins σ H s)(a:s.heap.objs.size<=b)(f:d b=none):qu X pins d b:=by
 refine⟨f,YA (ZY I.lt a),I.nofs a,.inr (ZL I.sz a),λx c e z => ?_,λp g z => ?_⟩
 ·obtain⟨v,q⟩:=I.cell x c e
  exact absurd (ZY q.lt (by rw[z];exact a)) (Y0 _)
 ·exact absurd (ZY (ZH (I.pin p g).1) (by rw[z];exact a)) (Y0 _)
structure zT (P:T3) (w:T4) (K:ZW) (tg:Expr) (J:It) (fp:List Addr) (it:Addr) (tn:Nat->Heap->Prop):Prop where
 mem:it∈fp
 obj:∀i h,tn i h->∀b∈fp,∃o,h.get? b=some o/\∀v,o.data ≠ .cell v
 keep:∀i h h',tn i h->(∀b∈fp,∀o,h.get? b=some o->h'.get? b=some o)->tn i h'
 item:∀(X:Cx),X.prog=P->X.w=w->X.K=K->X.calm=true->∀(i:Nat) (pins:List (Addr × Obj)) (s:T1) (σ:St) (H:Hp) (E:T0->T1->Prop),Inv X pins σ H s->(∀b∈fp,qu X pins H b)->tn i s.heap->J.go i H->
  wpAny (model P w) X.A (pyNext (.ref it)) (λr s1=>∃u,r=some u/\
   wpAny (model P w) X.A (letOwnedTupleGo tg (.ref it) u) (λ_ s2=>∃x H',Inv X pins σ H' s2/\bF x u/\J.yld i H x H'/\tn (i + 1) s2.heap/\∀b∈fp,H' b=none) E s1) E s
 done:∀(X:Cx),X.prog=P->X.w=w->X.K=K->X.calm=true->∀(i:Nat) (pins:List (Addr × Obj)) (s:T1) (σ:St) (H:Hp) (E:T0->T1->Prop),Inv X pins σ H s->(∀b∈fp,qu X pins H b)->tn i s.heap->J.stop i H->
  wpAny (model P w) X.A (pyNext (.ref it)) (λr s1=>r=none/\Inv X pins σ H s1) E s
 self:∀(A:T2) (i:Nat) (s:T1) (Q:T0->T1->Prop) (E:T0->T1->Prop),tn i s.heap->Q (.ref it) s->wpAny (model P w) A (pyIter (.ref it)) Q E s
abbrev TI:=St->Hp->(It->Hp->Prop)->Prop
def PIE (X:Cx) (pins:List (Addr × Obj)) (σ:St) (tg:Expr) (R:It->Hp->Prop) (itv:T0) (s2:T1):Prop :=
 ∃(it:Addr) (fp:List Addr) (tn:Nat->Heap->Prop) (J:It) (H':Hp),itv=.ref it/\Inv X pins σ H' s2/\zT X.prog X.w X.K tg J fp it tn/\tn 0 s2.heap/\(∀b∈fp,qu X pins H' b)/\R J H'
def PI (X:Cx) (tg iter:Expr) (wi:TI):Prop :=
 ∀(pins:List (Addr × Obj)) (s:T1) (σ:St) (H:Hp) (R:It->Hp->Prop),Inv X pins σ H s->wi σ H R->
  wpAny (model X.prog X.w) X.A (eval iter X.env) (λv s1=>wpAny (model X.prog X.w) X.A (pyIter v) (PIE X pins σ tg R) X.xe s1) X.xe s
theorem yP {M:Model}{tg:Expr}{o:Obj}{n:String}{vs:Array T0}{Q:Unit->T1->Prop}(c:s.heap.get? b=some o)(e:o.cls=.type n)(hd:o.data=.fields vs)
  (d : ["enumerate", "zip", "dict_itemiterator", "dict_reverseitemiterator", "odict_iterator", "itertools.zip_longest", "itertools.pairwise"].contains n=false) (a:Q () s):wpAny M A (letOwnedTupleGo tg (.ref b) u) Q E s:=by
 unfold letOwnedTupleGo;cases tg<;>first
  | exact wW a
  | (cases u<;>first
    | exact wW a
    | (refine yC (wpAny_load c ?_)
       rw[e,hd];show wpAny M A (if (["enumerate", "zip", "dict_itemiterator", "dict_reverseitemiterator", "odict_iterator", "itertools.zip_longest", "itertools.pairwise"].contains n && vs[0]? == some (rawInt _))=true then _ else _) Q E s;rw[wR (by intro h;rw[d,Bool.false_and]at h;cases h)];exact wW a))
def Itl (K:ZW) (a:Addr):It :=
 ⟨λi H=>∃xs x,SqL K H a xs/\xs[i]? = some x,λi H x H'=>H'=H/\∀xs,SqL K H a xs->xs[i]? = some x,λi H=>∃xs,SqL K H a xs/\xs.length<=i⟩
def Itt (K:ZW) (a:Addr):It :=
 ⟨λi H=>∃xs x,SqT K H a xs/\xs[i]? = some x,λi H x H'=>H'=H/\∀xs,SqT K H a xs->xs[i]? = some x,λi H=>∃xs,SqT K H a xs/\xs.length<=i⟩
def Itr (lo:Int) (n:Nat):It:=⟨λi _=>i < n,λi H x H'=>H'=H/\x=.int (lo + i),λi _=>n<=i⟩
theorem zU {P:T3}{w:T4}{tg:Expr}(a g:Addr):zT P w K tg (Itl K a) [g] g (λi h=>h.IsListIter g a i) where
 mem:=by simp
 obj:=λi h f b j=>by
  have e:b=g:=by simpa using j
  subst e;obtain⟨o,e,c,d⟩:=f;exact⟨o,e,λv z=>by rw[d]at z;cases z⟩
 keep:=λi h n f k=>f.at λo e=>k g (by simp) o e
 item:=by
  intro X F M G N i pins s σ H E I q f C;subst F M G;obtain⟨V,x,m,B⟩:=C;obtain⟨J,t,p,U⟩:=I.list m;obtain⟨u,W,S⟩:=t.get B;obtain⟨y,D,T,L,r,A⟩:=q g (by simp);refine wpAny_pyNext_list_item f p.isList (x:=u) (by simpa using W) λn l O => ?_;have R:Inv X pins σ H { s with heap:=n }:=I.turned (t':=s.toks) (λb o j e=>(O.2 b j).trans e) y D L r A;obtain⟨o,e,c,d⟩:=id l;exact⟨u,rfl,yP (s:={ s with heap:=n }) e c d (by decide) ⟨x,H,R,S,⟨rfl,λys Q=>by rw[I.list_inj Q m];exact B⟩,l,λb j=>(q b j).1⟩⟩
 done:=by
  intro X F M G N i pins s σ H E I q f C;subst F M G;obtain⟨V,m,B⟩:=C;obtain⟨J,t,p,U⟩:=I.list m;obtain⟨y,D,T,L,r,A⟩:=q g (by simp);have Z:=t.length;exact wpAny_pyNext_list_end (I.ok.hd N) f p.isList (by simp;omega) λn Y=>⟨rfl,I.turned (t':=s.toks) (λb o j e=>Y b o j e) y D L r A⟩
 self:=λ_ _ _ _ _ f h=>wpAny_pyIter_listiter f h
theorem xt {P:T3}{w:T4}{tg:Expr}(a g:Addr):zT P w K tg (Itt K a) [g] g (λi h=>h.IsTupleIter g a i) where
 mem:=by simp
 obj:=λi h f b j=>by
  have e:b=g:=by simpa using j
  subst e;obtain⟨o,e,c,d⟩:=f;exact⟨o,e,λv z=>by rw[d]at z;cases z⟩
 keep:=λi h q f k=>f.at λo e=>k g (by simp) o e
 item:=by
  intro X G M J N i pins s σ H E I r f D;subst G M J;obtain⟨V,x,n,C⟩:=D;obtain⟨l,y,p,U⟩:=I.tuple n;obtain⟨u,W,S⟩:=y.get C;obtain⟨A,F,T,L,t,B⟩:=r g (by simp);refine wpAny_pyNext_tuple_item f (show s.heap.IsTuple a l.toArray from p) (x:=u) (by simpa using W) λq m O => ?_;have R:Inv X pins σ H { s with heap:=q }:=I.turned (t':=s.toks) (λb o j e=>(O.2 b j).trans e) A F L t B;obtain⟨o,e,c,d⟩:=id m;exact⟨u,rfl,yP (s:={ s with heap:=q }) e c d (by decide) ⟨x,H,R,S,⟨rfl,λys Q=>by rw[I.tuple_inj Q n];exact C⟩,m,λb j=>(r b j).1⟩⟩
 done:=by
  intro X G M J N i pins s σ H E I r f D;subst G M J;obtain⟨V,n,C⟩:=D;obtain⟨l,y,p,U⟩:=I.tuple n;obtain⟨A,F,T,L,t,B⟩:=r g (by simp);have Z:=y.length;exact wpAny_pyNext_tuple_end (I.ok.hd N) f (show s.heap.IsTuple a l.toArray from p) (by simp;omega) λq Y=>⟨rfl,I.turned (t':=s.toks) (λb o j e=>Y b o j e) A F L t B⟩
 self:=λ_ _ _ _ _ f h=>wpAny_pyIter_tupleiter f h
theorem xu {P:T3}{w:T4}{tg:Expr}(c:Addr)(lo:Int)(n:Nat):zT P w K tg (Itr lo n) [c] c (λi h=>IsRangeIter h c (lo + (i:Nat) * 1) ((n:Int) - (i:Nat)) 1) where
 mem:=by simp
 obj:=λi h a b d=>by
  have e:b=c:=by simpa using d
  subst e;exact⟨_,a,λv z=>by
   have J:Data.fields _=Data.cell v:=z;cases J⟩
 keep:=λi h g a k=>k c (by simp) _ a
 item:=by
  intro X p y r u i pins s σ H E I j a B;subst p y r;obtain⟨q,l,D,x,m,A⟩:=j c (by simp);have W:=Walks.range (prog:=X.prog) (w:=X.w) (I.ok.hd u) c lo 1 n;refine W.item i s _ _ B a λv g C M f G => ?_;obtain⟨t,rfl⟩:=M;have F:Inv X pins σ H { s with heap:=g,toks:=C }:=I.turned (λb o d e=>G b o (by simpa using d) e) q l x m A;refine⟨_,rfl,yP (s:={ s with heap:=g,toks:=C }) (n := "range_iterator") f rfl rfl (by decide) ⟨.int (lo + i),H,F,⟨t,?_⟩,⟨rfl,rfl⟩,f,λb d=>(j b d).1⟩⟩;rw[Int.mul_one]
 done:=by
  intro X p y r u i pins s σ H E I j a B;subst p y r;obtain⟨q,l,D,x,m,A⟩:=j c (by simp);exact wpAny_pyNext_range_end (I.ok.hd u) a (by have:n<=i:=B;omega) λg L=>⟨rfl,I.turned (t':=s.toks) (λb o d e=>L b o d e) q l x m A⟩
 self:=λ_ _ _ _ _ a h=>wpAny_pyIter_rangeiter a h
section
variable {X:Cx} {tg:Expr}
theorem vy {R:It->Hp->Prop}{lo hi:Int}{t u v:Tok}{tk:Nat}(I:Inv X pins σ H s)(h1 : -(2 ^ 62)<=lo)(c:lo < 2 ^ 62)(g : -(2 ^ 62)<=hi)(f:hi < 2 ^ 62)
  (q:R (Itr lo (hi - lo).toNat) H):wpAny (model X.prog X.w) X.A (pyIter (.ref s.heap.objs.size)) (PIE X pins σ tg R) E { s with heap:=s.heap.push { cls:=.type "range",data:=.fields #[.int lo t,.int hi u,.int 1 v] },toks:=tk }:=by
 refine wpAny_pyIter_range (IsRange.new ..) (small_one h1 c g f) ?_;have a:Inv X pins σ H { s with heap:=s.heap.push { cls:=.type "range",data:=.fields #[.int lo t,.int hi u,.int 1 v] },toks:=tk }:=I.kept λb o e=>ZG _ e;refine⟨(s.heap.push { cls:=.type "range",data:=.fields #[.int lo t,.int hi u,.int 1 v] }).objs.size,[(s.heap.push { cls:=.type "range",data:=.fields #[.int lo t,.int hi u,.int 1 v] }).objs.size],_,_,H,rfl,
  a.kept (t':=tk) λb o e=>ZG _ e,xu _ lo (hi - lo).toNat,?_,λb d => ?_,q⟩
 ·have h:lo + ((0:Nat):Int) * 1=lo:=by simp
  have i:(((hi - lo).toNat:Nat):Int) - ((0:Nat):Int)=Builtin.Range.rangeSize lo hi 1:=by rw[rangeSize_one];split<;>omega
  show IsRangeIter _ _ (lo + ((0:Nat):Int) * 1) ((((hi - lo).toNat:Nat):Int) - ((0:Nat):Int)) 1;rw[h,i];exact ZI _ rfl
 ·have e:b=(s.heap.push { cls:=.type "range",data:=.fields #[.int lo t,.int hi u,.int 1 v] }).objs.size:=by simpa using d
  subst e;exact a.fpOk (ZK _) (a.hok.fresh (ZK _))
def HV (ta:TA):TI:=λσ H R=>ta σ H λvs H1=>∃j:Int,vs=[.int j]/\-(2 ^ 62)<=j/\j < 2 ^ 62/\R (Itr 0 j.toNat) H1
def HW (ta:TA):TI:=λσ H R=>ta σ H λvs H1=>∃i j:Int,vs=[.int i,.int j]/\(-(2 ^ 62)<=i/\i < 2 ^ 62/\-(2 ^ 62)<=j/\j < 2 ^ 62)/\R (Itr i (j - i).toNat) H1
theorem zV {a:Expr} {c:TA} {p:Pos} (m:Gl X "range") (n:X.mg "range" = none) (f:PA X [a] c) (k:starEach [a] X.env=[(false,eval a X.env)]:=by rfl):PI X tg (.Call (.Name "range" p) [a] [] pos) (HV c):=by
 intro pins s σ H R I h;refine Call_ (oz I m n boot_range (WT (thn (f pos pins s σ H _ I h) λo u ⟨w,v,d,g,b⟩ => ?_) k rfl));obtain⟨j,e,b,i,q⟩:=b;subst e;cases g with
 | cons r l =>
  cases l;obtain⟨t,rfl⟩:=r;exact call_range_1 (vy d (by omega) (by omega) b i (by simpa using q))
theorem zW {a b:Expr} {g:TA} {p:Pos} (x:Gl X "range") (y:X.mg "range" = none) (n:PA X [a,b] g) (v:starEach [a,b] X.env=[(false,eval a X.env),(false,eval b X.env)]:=by rfl) (c:starEach [b] X.env=[(false,eval b X.env)]:=by rfl) :
  PI X tg (.Call (.Name "range" p) [a,b] [] pos) (HW g):=by
 intro pins s σ H R I h;refine Call_ (oz I x y boot_range (WT (thn (n pos pins s σ H _ I h) λA B ⟨D,C,m,o,d⟩ => ?_) (by rw[v,c]) (by rw[c];rfl)));obtain⟨i,j,e,⟨d,u,l,k⟩,q⟩:=d;subst e;cases o with
 | cons r f =>
  cases f with
  | cons w f =>
   cases f;obtain⟨t,rfl⟩:=r;obtain⟨z,rfl⟩:=w;exact call_range_2 (vy m d u l k q)
def Jy (wi:TI) (g:TG) (tb:TS):TS:=λD σ H=>wi σ H λJ H1=>∃W:Nat->Nat->St->Hp->Prop,(∃m,W 0 m σ H1)/\∀i m σ H,W i m σ H->
 (J.stop i H/\D.nx σ H)\/(J.go i H/\∃N:St->Hp->Prop,(∀σ' H',N σ' H'->∃m',m' < m/\W (i + 1) m' σ' H')/\∀x H',J.yld i H x H'->g x σ H' λσ2 H2=>tb { D with nx:=N,ct:=N,bk:=D.nx } σ2 H2)
def oE (fp:List Addr) (h:Heap):List (Addr × Obj):=fp.filterMap λb=>(h.get? b).map λo=>(b,o)
theorem iN {a:List Addr}{h:Heap}{o:Obj}(c:b∈a)(e:h.get? b=some o):(b,o)∈oE a h:=Y9.mpr ⟨b,c,by rw[e];rfl⟩
theorem zX {a:List Addr}{h:Heap}{p:Addr × Obj}(hp:p∈oE a h):p.1∈a/\h.get? p.1=some p.2:=by
 obtain⟨b,c,e⟩:=Y9.mp hp;cases q:h.get? b with
 | none=>rw[q]at e;cases e
 | some o =>
  rw[q]at e;have d:(b,o)=p:=ZS e;subst d;exact⟨c,q⟩
theorem Inv.pinned {a:List Addr}(I:Inv X pins σ H s)(k:∀b∈a,qu X pins H b)(h:∀b∈a,∃o,s.heap.get? b=some o/\∀v,o.data ≠ .cell v):Inv X (pins++oE a s.heap) σ H s :=
 I.pins_of λp l=>(Z0.mp l).elim (λz=>I.pin p (YG _ z)) λz=>by
  obtain⟨f,e⟩:=zX z;obtain⟨j,g,i,_⟩:=k p.1 f;obtain⟨o,c,d⟩:=h p.1 f;rw[e]at c;cases c;exact⟨e,j,g,i,d⟩
theorem Inv.unpinned {b:List (Addr × Obj)}(I:Inv X (pins++b) σ H s):Inv X pins σ H s:=I.pins_of λp a=>I.pin p (YG _ (WV _ a))
theorem xv {t:Expr}{A:List Stmt}{Y:TI}{g:TG}{tb:TS}(hp:PassesOwn (model X.prog X.w) X.A X.env X.xe)(hc:X.calm=true)(hi:PI X tg t Y)(hg:PG X tg g)(l:PSs X A tb)
  (hs:∀x,foldedSetIterable t X.env x=pure x:=by intro _;rfl):PS X (.For tg t A [] pos) (Jy Y g tb):=by
 intro pins s σ H D I h;refine wpAny_For (thn (hi pins s σ H _ I h) λv s1 h1=>thn h1 λa0 s2 h2 => ?_) hs;obtain⟨it,C,tn,J,H2,e,I2,T,O,Z,W,⟨m0,w0⟩,turn⟩:=h2;subst e;have q:∀{y:Hp},(∀b∈C,y b=none)->∀b∈C,qu X pins y b:=λhn b l=>⟨hn b l,(Z b l).2⟩;refine codeAny_forLoop_any (λn V=>∃i k y,Inv X pins k y V/\tn i V.heap/\(∀b∈C,y b=none)/\W i n k y) ?_ m0 ⟨0,σ,H2,I2,O,λb l=>(Z b l).1,w0⟩;rintro n S ⟨i,w,K,U,E,G,w3⟩;rcases turn i n w K w3 with ⟨stop,qn⟩|⟨go,N,hN,step⟩
 ·refine X8 hp (thn (T.done X rfl rfl rfl hc i pins S w K X.xe U (q G) E stop) λr s4 ⟨R,I4⟩ => ?_)
  subst R;exact wpAny_execs_nil ⟨w,K,I4,qn⟩
 ·refine X8 hp (thn (T.item X rfl rfl rfl hc i pins S w K X.xe U (q G) E go) λr s4 ⟨u,R,h4⟩ => ?_)
  subst R;refine X8 hp (thn h4 λ_ s5 ⟨x,H5,I5,r5,y5,B,Q⟩ => ?_);have M:=I5.pinned (q Q) (T.obj _ _ B);refine X8 hp (thn (hg _ s5 w H5 x u _ M r5 (step x H5 y5)) λ_ s6 ⟨P,H6,I6,q6⟩ => ?_);refine X8 hp (thn (l _ s6 P H6 _ I6 q6) λf L z => ?_);have c:∀{a:St} {j:Hp},Inv X (pins++oE C s5.heap) a j L->N a j->∃m,m < n/\∃i k y,Inv X pins k y L/\tn i L.heap/\(∀b∈C,y b=none)/\W i m k y:=λ{a j} p F=>by
   obtain⟨m',hm,w7⟩:=hN a j F;refine⟨m',hm,i + 1,a,j,p.unpinned,T.keep _ _ _ B λb l o e=>(p.pin (b,o) (YG _ (YG _ (iN l e)))).1,λb l => ?_,w7⟩;obtain⟨o,e,d⟩:=T.obj _ _ B b l;exact(p.pin (b,o) (YG _ (YG _ (iN l e)))).2.1
  cases f with
  | next=>obtain⟨a,j,p,F⟩:=z;exact c p F
  | cont=>obtain⟨a,j,p,F⟩:=z;exact c p F
  | brk=>obtain⟨a,j,p,z⟩:=z;exact⟨a,j,p.unpinned,z⟩
  | ret v=>obtain⟨x7,a,j,p,r7,z⟩:=z;exact⟨x7,a,j,p.unpinned,r7,z⟩
end
abbrev R2:=V->V->Hp->VK->Prop
def OpR (X:Cx) (f:T0->T0->Sem T0) (r:R2):Prop :=
 ∀(pins:List (Addr × Obj)) (s:T1) (σ:St) (H:Hp) (x y:V) (v u:T0) (Q:VK),Inv X pins σ H s->bF x v->bF y u->r x y H Q->
  wpAny (model X.prog X.w) X.A (f v u) (EP X pins σ Q) X.xe s
def UnR (X:Cx) (f:T0->Sem T0) (r:V->Hp->VK->Prop):Prop :=
 ∀(pins:List (Addr × Obj)) (s:T1) (σ:St) (H:Hp) (x:V) (v:T0) (Q:VK),Inv X pins σ H s->bF x v->r x H Q->
  wpAny (model X.prog X.w) X.A (f v) (EP X pins σ Q) X.xe s
def fg (X:Cx) (f:T0) (r:List V->Hp->VK->Prop):Prop :=
 ∀(pins:List (Addr × Obj)) (s:T1) (σ:St) (H:Hp) (xs:List V) (us:List T0) (Q:VK),Inv X pins σ H s->aY xs us->r xs H Q->
  wpAny (model X.prog X.w) X.A (call f us) (EP X pins σ Q) X.xe s
def tOp (r:R2) (ta tb:TE):TE:=λσ H Q=>ta σ H λx H1=>tb σ H1 λy H2=>r x y H2 Q
def tUn (r:V->Hp->VK->Prop) (ta:TE):TE:=λσ H Q=>ta σ H λx H1=>r x H1 Q
def rI (C:Int->Int->Prop) (g:Int->Int->V):R2:=λx y H Q=>∃i j,x=.int i/\y=.int j/\C i j/\Q (g i j) H
def rI0 (g:Int->Int->V):R2:=λx y H Q=>∃i j,x=.int i/\y=.int j/\Q (g i j) H
def rU (g:Int->V):V->Hp->VK->Prop:=λx H Q=>∃i,x=.int i/\Q (g i) H
section
variable {X:Cx} {a b c:Expr} {ta tb tc:TE} {pos:Pos}
theorem FF (n:PE X a ta)(m:PE X b tb){R:V->V->Hp->Prop}(I:Inv X pins σ H s)
  (h:ta σ H λx j=>tb σ j λy d=>R x y d) {Q:T0->T1->Prop} {f:T0->T0->Sem T0}
  (r:∀v u i x y d,Inv X pins σ d i->bF x v->bF y u->R x y d->wpAny (model X.prog X.w) X.A (f v u) Q X.xe i) :
  wpAny (model X.prog X.w) X.A (eval a X.env) (λv e => wpAny (model X.prog X.w) X.A (eval b X.env) (λu g => wpAny (model X.prog X.w) X.A (f v u) Q X.xe g) X.xe e) X.xe s:=by
 refine thn (n pins s σ H _ I h) λv q ⟨x,j,l,o,k⟩ => ?_;refine thn (m pins q σ j _ l k) λu i ⟨y,d,w,t,p⟩ => ?_;exact r v u i x y d w o t p
theorem Bp {op:Operator}{r:R2}(d:OpR X (binaryOp op) r)(i:PE X a ta)(f:PE X b tb):PE X (.BinOp a op b pos) (tOp r ta tb):=by
 intro pins s σ H Q I h;exact wpAny_BinOp (FF i f I h λv u j x y e g k l q=>d pins j σ e x y v u Q g k l q)
theorem HX {op:UnaryOp}{r:V->Hp->VK->Prop}(d:UnR X (unaryOp op) r)(i:PE X a ta):PE X (.UnaryOp op a pos) (tUn r ta):=by
 intro pins s σ H Q I h;exact UnaryOp_ (thn (i pins s σ H _ I h) λv f ⟨x,j,g,k,e⟩=>d pins f σ j x v Q g k e)
theorem opI {f:T0->T0->Sem T0}{C:Int->Int->Prop}{g:Int->Int->Int}
  (d:∀(i j:Int) (t u:Tok) (s:T1) (Q:T0->T1->Prop) (E:T0->T1->Prop),C i j->Q (.int (g i j) s.toks) { s with toks:=s.toks + 1 }->wpAny (model X.prog X.w) X.A (f (.int i t) (.int j u)) Q E s) :
  OpR X f (rI C λi j=>.int (g i j)):=by
 intro pins s σ H x y v u Q I l m h;obtain⟨i,j,rfl,rfl,e,q⟩:=h;obtain⟨t,rfl⟩:=l;obtain⟨k,rfl⟩:=m;exact d i j t k s _ _ e ⟨.int (g i j),H,I.tok _,⟨_,rfl⟩,q⟩
theorem HY {f:T0->T0->Sem T0}{g:Int->Int->Int}
  (d:∀(i j:Int) (t u:Tok) (s:T1) (Q:T0->T1->Prop) (E:T0->T1->Prop),Q (.int (g i j) s.toks) { s with toks:=s.toks + 1 }->wpAny (model X.prog X.w) X.A (f (.int i t) (.int j u)) Q E s) :
  OpR X f (rI0 λi j=>.int (g i j)):=by
 intro pins s σ H x y v u Q I k l h;obtain⟨i,j,rfl,rfl,q⟩:=h;obtain⟨t,rfl⟩:=k;obtain⟨e,rfl⟩:=l;exact d i j t e s _ _ ⟨.int (g i j),H,I.tok _,⟨_,rfl⟩,q⟩
theorem FH {f:T0->T0->Sem T0}{g:Int->Int->Bool}
  (d:∀(i j:Int) (t u:Tok) (s:T1) (Q:T0->T1->Prop) (E:T0->T1->Prop),Q (.bool (g i j)) s->wpAny (model X.prog X.w) X.A (f (.int i t) (.int j u)) Q E s) :
  OpR X f (rI0 λi j=>.bl (g i j)):=by
 intro pins s σ H x y v u Q I k l h;obtain⟨i,j,rfl,rfl,q⟩:=h;obtain⟨t,rfl⟩:=k;obtain⟨e,rfl⟩:=l;exact d i j t e s _ _ ⟨.bl (g i j),H,I,rfl,q⟩
def HZ (i j:Int):Prop:=0<=j/\j<=1000000/\i.natAbs < 2 ^ 64
def DM (i j:Int):Prop:=(-(2 ^ 64) < i/\i < 2 ^ 64)\/(-(2 ^ 64) < j/\j < 2 ^ 64)
theorem DM.ok {i j:Int}(h:DM i j):IntMulOk i j:=by
 rcases h with ⟨e,d⟩|⟨e,d⟩
 ·exact .of_left (intBits_le_64 e d)
 ·exact .of_right (intBits_le_64 e d)
theorem FI:OpR X (binaryOp .Add) (rI0 λi j=>.int (i + j)):=HY λ_ _ _ _ _ _ _ q=>add_int q
theorem oF:OpR X (binaryOp .Sub) (rI0 λi j=>.int (i - j)):=HY λ_ _ _ _ _ _ _ q=>sub_int q
theorem iO:OpR X (binaryOp .Mult) (rI DM λi j=>.int (i * j)):=opI λ_ _ _ _ _ _ _ d q=>mul_int q d.ok
theorem fM:OpR X (binaryOp .Mod) (rI (λ_ j=>0 < j) λi j=>.int (i % j)):=opI λi j _ _ _ _ _ d q=>by
 have e:(0:Int) < j:=d;exact mod_int' (by omega) (by rw[Int.fmod_eq_emod_of_nonneg i (by omega)];exact q)
theorem FJ:OpR X (binaryOp .Pow) (rI HZ λi j=>.int (i ^ j.toNat)):=opI λ_ _ _ _ _ _ _ d q=>pow_int_small d.1 d.2.1 d.2.2 q
theorem unI {f:T0->Sem T0}{g:Int->Int}
  (d:∀(i:Int) (t:Tok) (s:T1) (Q:T0->T1->Prop) (E:T0->T1->Prop),Q (.int (g i) s.toks) { s with toks:=s.toks + 1 }->wpAny (model X.prog X.w) X.A (f (.int i t)) Q E s) :
  UnR X f (rU λi=>.int (g i)):=by
 intro pins s σ H x v Q I e h;obtain⟨i,rfl,q⟩:=h;obtain⟨t,rfl⟩:=e;exact d i t s _ _ ⟨.int (g i),H,I.tok _,⟨_,rfl⟩,q⟩
theorem FK:UnR X (unaryOp .USub) (rU λi=>.int (-i)):=unI λ_ _ _ _ _ q=>neg_int q
end
section
variable {X:Cx} {a b c:Expr} {ta tb tc:TE} {pos:Pos}
theorem xw {Q:VK}{k d:Bool}(I:Inv X pins σ H s)(q:Q (.bl k) H)(e:k=d):EP X pins σ Q (.bool d) s:=by
 subst e;exact⟨.bl k,H,I,rfl,q⟩
theorem ji:OpR X (compareOp .Lt) (rI0 λi j=>.bl (decide (i < j))):=FH λ_ _ _ _ _ _ _ q=>lt_int q
theorem E1:OpR X (compareOp .LtE) (rI0 λi j=>.bl (decide (i<=j))):=FH λ_ _ _ _ _ _ _ q=>le_int q
theorem E2:OpR X (compareOp .Gt) (rI0 λi j=>.bl (decide (j < i))):=FH λ_ _ _ _ _ _ _ q=>gt_int q
theorem zY:OpR X (compareOp .In) (λx y H Q=>∃i j,x=.str i/\y=.str j/\Q (.bl (!(Builtin.Str.occurrences j i 0 j.length 1).isEmpty)) H):=by
 intro pins s σ H x y v u Q I d e h;obtain⟨i,j,rfl,rfl,q⟩:=h;obtain⟨t,rfl⟩:=d;obtain⟨f,rfl⟩:=e;exact in_str (xw I q rfl)
theorem kB:OpR X (compareOp .Is) (λx y H Q=>y=.non/\Q (.bl (decide (x=.non))) H):=by
 intro pins s σ H x y v u Q I d e h;obtain⟨rfl,q⟩:=h;cases e;refine is_none_gen (xw I q ?_);cases x<;>first
  | (cases d;rfl)
  | (obtain⟨t,rfl⟩:=d;rfl)
theorem sU:OpR X (compareOp .NotIn) (λx y H Q=>∃i j,x=.str i/\y=.str j/\Q (.bl (!(!(Builtin.Str.occurrences j i 0 j.length 1).isEmpty))) H):=by
 intro pins s σ H x y v u Q I d e h;obtain⟨i,j,rfl,rfl,q⟩:=h;obtain⟨t,rfl⟩:=d;obtain⟨f,rfl⟩:=e;exact notIn_str (xw I q rfl)
theorem OpR.or {f:T0->T0->Sem T0}{r d:R2}(h:OpR X f r)(h':OpR X f d):OpR X f (λx y H Q=>r x y H Q\/d x y H Q):=by
 intro pins s σ H x y v u Q I e g q;rcases q with q|q
 ·exact h pins s σ H x y v u Q I e g q
 ·exact h' pins s σ H x y v u Q I e g q
theorem aN (b:Expr){op:CmpOp}(h:op ≠ .In:=by decide)(e:op ≠ .NotIn:=by decide):behindInMarks op b=false:=by
 have d:(op == CmpOp.In)=false:=by cases op<;>first|rfl|exact absurd rfl h
 have f:(op == CmpOp.NotIn)=false:=by cases op<;>first|rfl|exact absurd rfl e
 cases b<;>simp[behindInMarks,d,f]
theorem DN {op:CmpOp}{r:R2}(d:OpR X (compareOp op) r)(i:PE X a ta)(f:PE X b tb)(m:behindInMarks op b=false):PE X (.Compare a [op] [b] pos) (tOp r ta tb):=by
 intro pins s σ H Q I h;exact wpAny_Compare1 (FF i f I h λv u j x y e g k l q=>d pins j σ e x y v u Q g k l q) m
def E3 (t:TE):TT:=λσ H Q=>t σ H λx H'=>∃k,x=.bl k/\Q k H'
theorem yQ {op:CmpOp}{r:R2}(q:OpR X (compareOp op) r)(m:PE X a ta)(j:PE X b tb)(o:behindInMarks op b=false):PT X (.Compare a [op] [b] pos) (E3 (tOp r ta tb)):=by
 intro pins s σ H Q I h;refine wpAny_isTrue_Compare1 (thn (m pins s σ H _ I h) λv A ⟨x,E,i,p,d⟩=>thn (j pins A σ E _ i d) λu n ⟨y,f,C,B,t⟩ =>
  thn (q pins n σ f x y v u _ C p B t) λc F ⟨z,w,D,l,k,e,g⟩ => ?_) o
 subst e;cases l;exact Y4 ⟨w,D,g⟩
def xx (r r':R2) (ta tb tc:TE):TE:=λσ H Q=>ta σ H λx H1=>tb σ H1 λy H2=>r x y H2 λz H3=>∃k,z=.bl k/\
 (if k=true then tc σ H3 λw' H4=>r' y w' H4 Q else Q (.bl false) H3)
theorem Bq {op f:CmpOp}{r m:R2}(P:OpR X (compareOp op) r)(g:OpR X (compareOp f) m)(q:PE X a ta)(M:PE X b tb)(O:PE X c tc)
  (U:lastMarks [op,f] [b,c] = false:=by with_unfolding_all rfl):PE X (.Compare a [op,f] [b,c] pos) (xx r m ta tb tc):=by
 intro pins s σ H Q I h;refine Compare_chain (thn (q pins s σ H _ I h) λv R ⟨x,G,p,B,J⟩=>chain_link (thn (M pins R σ G _ p J) λu t ⟨y,K,S,n,D⟩ =>
  thn (P pins t σ K x y v u _ S B n D) λd A ⟨z,j,l,N,k,e,i⟩ => ?_)) U
 subst e;cases N;refine Y4 ?_;cases k with
 | false=>exact ite_ff ⟨.bl false,j,l,rfl,i⟩
 | true=>exact ite_tt (chain_last (thn (O pins A σ j _ l i) λC L ⟨T,E,w,F,o⟩=>g pins L σ E y T u C Q w n F o))
theorem Br {op f:CmpOp}{r m:R2}(U:OpR X (compareOp op) r)(g:OpR X (compareOp f) m)(q:PE X a ta)(R:PE X b tb)(T:PE X c tc)
  (hm:lastMarks [op,f] [b,c] = false:=by with_unfolding_all rfl):PT X (.Compare a [op,f] [b,c] pos) (E3 (xx r m ta tb tc)):=by
 intro pins s σ H Q I h;refine isTrue_chain (thn (q pins s σ H _ I h) λv V ⟨x,K,p,C,N⟩=>test_link (thn (R pins V σ K _ p N) λu t ⟨y,O,Z,n,E⟩ =>
  thn (U pins t σ O x y v u _ Z C n E) λd B ⟨z,j,l,S,k,e,i⟩ => ?_)) hm
 subst e;cases S;refine Y4 ?_;cases k with
 | false =>
  obtain⟨k',Y,L⟩:=i;cases Y;exact ite_ff ⟨j,l,L⟩
 | true =>
  refine ite_tt (test_last (thn (T pins B σ j _ l i) λD P ⟨z',G,w,J,o⟩=>thn (g pins P σ G y z' u D _ w n J o) λd' s5 ⟨z2,H5,F,W,k2,M,A⟩ => ?_));subst M;cases W;exact Y4 ⟨H5,F,A⟩
theorem mh:(sizeLine:Nat) < 2 ^ 63:=by rw[YM];decide
theorem xy:OpR X (binaryOp .Add) (λx y H Q=>∃i j,x=.str i/\y=.str j/\i.length + j.length<=sizeLine/\Q (.str (i++j)) H):=by
 intro pins s σ H x y v u Q I f g h;obtain⟨i,j,rfl,rfl,d,q⟩:=h;obtain⟨t,rfl⟩:=f;obtain⟨e,rfl⟩:=g;exact add_str (λe k=>⟨.str (i++j),H,I.tok _,⟨_,rfl⟩,q⟩) d
theorem vz {x:V}(r:aY [x] us):∃u,us=[u]/\bF x u:=by
 cases r with
 | cons e d=>cases d;exact⟨_,rfl,e⟩
theorem E4 {x y:V}(r:aY [x,y] us):∃u d,us=[u,d]/\bF x u/\bF y d:=by
 cases r with
 | cons h e =>
  cases e with
  | cons f g=>cases g;exact⟨_,_,rfl,h,f⟩
theorem zZ (e:X.calm=true):fg X (.builtin "max") (λxs H Q=>∃i j,xs=[.int i,.int j]/\Q (.int (if j > i then j else i)) H):=by
 intro pins s σ H xs g Q I r h;obtain⟨i,j,rfl,q⟩:=h;obtain⟨u,n,rfl,⟨t,rfl⟩,⟨l,rfl⟩⟩:=E4 r;refine max_two_ints (I.ok.hd e) λf m k=>⟨_,H,I.kept k,?_,q⟩
 by_cases d:j > i
 ·rw[yD d,yD d];exact⟨_,rfl⟩
 ·rw[wR d,wR d];exact⟨_,rfl⟩
theorem z0 (e:X.calm=true):fg X (.builtin "min") (λxs H Q=>∃i j,xs=[.int i,.int j]/\Q (.int (if j < i then j else i)) H):=by
 intro pins s σ H xs g Q I r h;obtain⟨i,j,rfl,q⟩:=h;obtain⟨u,n,rfl,⟨t,rfl⟩,⟨l,rfl⟩⟩:=E4 r;refine min_two_ints (I.ok.hd e) λf m k=>⟨_,H,I.kept k,?_,q⟩
 by_cases d:j < i
 ·rw[yD d,yD d];exact⟨_,rfl⟩
 ·rw[wR d,wR d];exact⟨_,rfl⟩
theorem sV:fg X (.type "str") (λxs H Q=>∃i,xs=[.int i]/\i.natAbs.log2 < 1920/\Q (.str (toString i)) H):=by
 intro pins s σ H xs e Q I r h;obtain⟨i,rfl,d,q⟩:=h;obtain⟨u,rfl,t,rfl⟩:=vz r;exact PySem.P.str_of_int d ⟨.str _,H,I.tok _,⟨_,rfl⟩,q⟩
end
structure JT (h:Heap) (x dx C:Addr) (mA:Str->Option T0):Prop where
 obj:h.get? x=some (PySem.W.instObj C dx)
 ns:h.Ns1 dx mA
 ne:dx≠x
theorem Aa {h:Heap}{c:Addr}{mA:Str->Option T0}(n:h.Ns1 c mA):∃f,h.get? c=some f/\∀name,PySem.W.lookIn name f=some (mA name):=by
 obtain⟨o,d,p,g,k,l,_,m⟩:=n;refine⟨o,g,λname => ?_⟩;have e:=m name;unfold nsFind findBy at e;rw[<-Array.find?_toList]at e;unfold PySem.W.lookIn;rw[k];dsimp only;split
 ·rename_i y q
  rw[q]at e;exact congrArg some e
 ·rename_i q
  rw[q]at e;have a:d.toList.any (·.refKey)=false:=by
   rw[List.any_eq_false];intro y i;obtain⟨z,t,b⟩:=l y (Array.mem_toList_iff.mp i);simp[DictEntry.refKey,b]
  have j : ¬d.toList.any (·.refKey)=true:=by rw[a];exact wV
  rw[wR j];exact congrArg some e
section
variable {prog:T3} {w:T4} {A:T2} {E:T0->T1->Prop} {s:T1} {K:ZW} {x dx C f:Addr} {mA:Str->Option T0} {name:Str} {v:T0}
end
theorem qt.some_of {v:V}{o:Option T0}(r:qt (some v) o):∃u,o=some u/\bF v u:=by
 cases o with
 | none=>exact(show False from r).elim
 | some u=>exact⟨u,rfl,r⟩
theorem Ab {v:V}(r:bF v u):PySem.W.handedIn u=true:=by
 cases v with
 | non=>cases (show u=Value.none from r);rfl
 | bl b=>cases (show u=Value.bool b from r);rfl
 | int i=>obtain⟨t,e⟩:=(show ∃t,u=Value.int i t from r);cases e;rfl
 | str x=>obtain⟨t,e⟩:=(show ∃t,u=Value.str x t from r);cases e;rfl
 | byt b=>obtain⟨t,e⟩:=(show ∃t,u=Value.bytes b t from r);cases e;rfl
 | flt b=>obtain⟨t,e⟩:=(show ∃t,u=Value.float b t from r);cases e;rfl
 | ref a=>cases (show u=Value.ref a from r);rfl
 | ty n=>cases (show u=Value.type n from r);rfl
section
variable {P:T3} {w:T4} {H H':Hp} {h h':Heap} {a C dx:Addr} {fs fs':List (Str × V)}
end
structure Cls (K:ZW) (C:Addr):Prop where
 pg:PySem.W.plainGet K C Str.empty=true
 hd:PySem.W.hasDictIn K C=true
 po:PySem.W.plainOver K C=true
 sa:PySem.W.findIn K (.ref C) "__setattr__" = some (some (.builtin "object.__setattr__"))
structure Con (K:ZW) (C:Addr) (f:Str) (v:V) (u:T0):Prop where
 at_:PySem.W.findIn K (.ref C) f=some (some u)
 rel:bF v u
 get:PySem.W.specialIn K u "__get__" = some none
 cp:PySem.W.copiedNames.contains f=false
structure JU (K:ZW) (C:Addr) (m:Str) (f:Addr):Prop where
 at_:PySem.W.findIn K (.ref C) m=some (some (.ref f))
 fn:PySem.W.isFn K (.ref f)=true
 kp:PySem.W.keepIn K (.ref f)=true
section
variable {X:Cx} {pins:List (Addr × Obj)} {σ:St} {H:Hp} {s:T1} {a C dx:Addr} {fs:List (Str × V)} {f:Str} {v:V} {A:T2} {E:T0->T1->Prop}
theorem DO {prog:T3}{w:T4}{env:Env}{e:Expr}{f:Str}{s:T1}{Q:T0->T1->Prop}(c:attributeBase e f env (eval e env)=eval e env)
  (h:wpAny (model prog w) A (eval e env) (λo b => wpAny (model prog w) A (getAttr o f true) Q E b) E s):wpAny (model prog w) A (eval (.Attribute e f pos) env) Q E s :=
 Attribute_any_ h (by rw[arm_eval_Attribute,c])
end
section
variable {X:Cx} {o e value:Expr} {f:Str} {pos pos' tpos:Pos} {ta tv:TE}
end
section
variable {X:Cx} {pins:List (Addr × Obj)} {σ:St} {H:Hp} {s:T1} {A:T2} {E:T0->T1->Prop} {Q:T0->T1->Prop} {c:T0} {b:Bool}
inductive oG (K:ZW) (H:Hp):V->T0->Prop where
 | non:oG K H .non (.type "NoneType")
 | bl (x:Bool):oG K H (.bl x) (.type "bool")
 | int (i:Int):oG K H (.int i) (.type "int")
 | str (x:Str):oG K H (.str x) (.type "str")
 | flt (x:UInt64):oG K H (.flt x) (.type "float")
 | lst {a:Addr} {xs:List V} (e:H a=some (.lst xs)):oG K H (.ref a) (.type "list")
 | frz {a:Addr} {o:Obj} {xs:List V} (e:H a=some (.frz o (.lst xs))):oG K H (.ref a) (.type "list")
 | tup {a:Addr} {xs:List V} (e:H a=some (.tup xs)):oG K H (.ref a) (.type "tuple")
 | dK {a:Addr} {kvs:List (Key × V)} (e:H a=some (.dK kvs)):oG K H (.ref a) (.type "dict")
 | dT {a:Addr} {kvs:List (List Key × V)} (e:H a=some (.dT kvs)):oG K H (.ref a) (.type "dict")
 | ins {a C dx:Addr} {fs:List (Str × V)} (e:H a=some (.ins C dx fs)) (cl:Cls K C) (ha:PySem.W.findIn K (.ref C) "__class__" = some (some (.builtin "object.__class__")))
   (hn:PySem.W.specialIn K (.builtin "object.__class__") "__get__" = some (some (.builtin "getset_descriptor.__get__"))) (htk:PySem.W.takesIn K (.builtin "object.__class__")=some true)
   (hm:PySem.W.mroIn K C (.type "object")=some true):oG K H (.ref a) (.ref C)
end
structure du (k:Nat) (A:T2):Prop where
 hd:A.handled=none
 dp:A.depth + 3 * k + 5 < recursionLimit
 un:A.units + 16 * k + 200 < cLine
 gd:A.guards=some []
theorem du.mono {j k:Nat}(r:du k A)(h:j<=k):du j A:=⟨r.hd,by have:=r.dp;omega,by have:=r.un;omega,r.gd⟩
theorem du.deeper {k:Nat}(r:du (k + 1) A)(env:Env):du k (A.deeper env) :=
 ⟨r.hd,by have:=r.dp;show A.depth + 1 + 3 * k + 5 < _;omega,by have:=r.un;show A.units + 3 + 16 * k + 200 < _;omega,r.gd⟩
theorem xz  {C:Addr}  {a:List (Str × T0)}:(A.under (.builtin "type.__call__" ⟨.ref C :: us,a⟩)).depth=A.depth + 1:=by
 first|rfl|simp[Around.under,Code.weight,Code.isCreation,Code.isGuard,Code.isCaller,Code.frames,Code.isFrame,guardIds]
theorem xA  {C:Addr}  {a:List (Str × T0)}:(A.under (.builtin "type.__call__" ⟨.ref C :: us,a⟩)).units=A.units + 1:=by
 first|rfl|simp[Around.under,Code.cUnits,Code.frames,Code.isFrame]
theorem du.make {k:Nat}  (r:du (k + 1) A) (C:Addr) (us:List T0) (a:List (Str × T0)):du k (A.under (.builtin "type.__call__" ⟨.ref C :: us,a⟩)) :=
 ⟨r.hd,by have:=r.dp;rw[xz];omega,by have:=r.un;rw[xA];omega,by first|exact r.gd|(simp[Around.under,Code.isGuard,guardIds];exact r.gd)⟩
theorem du.depth {k:Nat}(r:du k A):A.depth < recursionLimit:=by have:=r.dp;omega
theorem du.units0 {k:Nat}(r:du k A):A.units < cLine:=by have:=r.un;omega
def Ia:TA:=λ_ H Q=>Q [] H
def Ib (ta:TE) (tr:TA):TA:=λσ H Q=>ta σ H λx H1=>tr σ H1 λxs H2=>Q (x :: xs) H2
section
variable {X:Cx} {e:Expr} {es:List Expr} {te:TE} {t:TA} {pos:Pos}
theorem cy:PA X [] Ia:=λ_ _ _ _ H Q I h=>Calls.spliced_nil ⟨[],H,I,.nil,h⟩
theorem bh (d:PE X e te)(o:PA X es t)(k:starEach (e :: es) X.env=(false,eval e X.env) :: starEach es X.env:=by rfl):PA X (e :: es) (Ib te t):=by
 intro pos pins s σ H Q I h;rw[k];show wpAny _ _ (spliced ((false,eval e X.env) :: backTo pos (starEach es X.env))) _ _ s;refine Calls.spliced_cons (thn (d pins s σ H _ I h) λu j ⟨x,n,c,f,a⟩ => ?_);exact thn (o pos pins j σ n _ c a) λq p ⟨i,b,m,l,g⟩=>⟨x :: i,b,m,.cons f l,g⟩
def Jz (t:TA):TE:=λσ H Q=>t σ H λxs H1=>xs.length<=sizeLine/\∀p,H1 p=none->Q (.ref p) (upd H1 p (.tup xs))
def JA (t:TA):TE:=λσ H Q=>t σ H λxs H1=>xs.length<=sizeLine/\∀p,H1 p=none->Q (.ref p) (upd H1 p (.lst xs))
theorem Bs {i}(h:PA X es t):PE X (.Tuple es i pos) (Jz t):=by
 intro pins s σ H Q I f;refine wpAny_Tuple_spliced (thn (h pos pins s σ H _ I f) λk a ⟨g,d,c,r,z,q⟩=>⟨by rw[<-r.length];exact z,?_⟩);have j:d a.heap.objs.size=none:=c.hok.fresh (ZK _);refine⟨.ref a.heap.objs.size,upd d a.heap.objs.size (.tup g),c.laid (t':=a.toks) (λb u e=>ZG _ e) (ZK _) ?_,rfl,q _ j⟩;exact⟨z,k,r,⟨_,ZI _ rfl,rfl,_,rfl⟩⟩
theorem FL (h:PA X es t):PE X (.List es pos) (JA t):=by
 intro pins s σ H Q I f;refine wpAny_List_spliced (thn (h pos pins s σ H _ I f) λj a ⟨g,d,c,r,z,q⟩=>⟨by rw[<-r.length];exact z,?_⟩);have i:d a.heap.objs.size=none:=c.hok.fresh (ZK _);refine⟨.ref a.heap.objs.size,upd d a.heap.objs.size (.lst g),c.laid (t':=a.toks) (λb u e=>ZG _ e) (ZK _) ?_,rfl,q _ i⟩;exact⟨z,j,0,r,ZI _ rfl⟩
end
abbrev Sp:=List V->Hp->VK->XK->Prop
abbrev CXT:=List Env->Hp->T1->XK->T0->T1->Prop
structure xB (P:T3) (w:T4) (K:ZW) (mg:Str->Option T0) (base:Heap) (A:T2) (outer:List Env) (s:T1) (H:Hp):Prop where
 frames:A.frames=some outer
 mod:Mod K mg base
 bs:∀b o,base.get? b=some o->s.heap.get? b=some o/\H b=none
 bsz:base.objs.size<=s.heap.objs.size
 funs:s.heap.FunFrames base outer
 frf:∀b∈frs outer,H b=none
 hok:HOk P w H s.heap
 bare:AllBare s.gens
def CE (outer:List Env) (P:T3) (w:T4) (H:Hp) (s:T1) (Q:VK) (u:T0) (s':T1):Prop :=
 ∃v H',s'.os=s.os/\AllBare s'.gens/\Un (frs outer) [] H H' s.heap s'.heap/\HOk P w H' s'.heap/\bF v u/\Q v H'
def CR (CX:CXT) (outer:List Env) (P:T3) (w:T4) (H:Hp) (s:T1) (Q:VK) (E:XK) (r:Result) (s':T1):Prop :=
 match r with
 | .ok (.ret u)=>CE outer P w H s Q u s'
 | .ok _=>False
 | .error e=>CX outer H s E e s'
structure cM (P:T3) (w:T4) (K:ZW) (mg:Str->Option T0) (base:Heap) (CX:CXT) (k:Nat) (f:Addr) (fd:FuncData) (ps:List Str) (sp:Sp):Prop where
 len:∀vs H Q E,sp vs H Q E->vs.length=ps.length
 run:∀(A:T2) (outer:List Env) (s:T1) (H:Hp) (args:Args) (us:List T0) (vs:List V) (Q:VK) (E:XK),du k A->xB P w K mg base A outer s H->BindsTo s fd args (ps.zip us)->aY vs us->sp vs H Q E->
  codeAny (model P w) A (.call (.ref f) args) (CR CX outer P w H s Q E) s
theorem xB.make {P:T3}{w:T4}{mg:Str->Option T0}{base:Heap}{outer:List Env}(e:xB P w K mg base A outer s H)(C:Addr)(us:List T0)(a:List (Str × T0)) :
  xB P w K mg base (A.under (.builtin "type.__call__" ⟨.ref C :: us,a⟩)) outer s H:=⟨by first|exact e.frames|(simpa[Around.under,Code.envs,Code.isFrame,pushEnvs] using e.frames),e.mod,e.bs,e.bsz,e.funs,e.frf,e.hok,e.bare⟩
section
variable {X:Cx} {pins:List (Addr × Obj)} {σ:St} {H:Hp} {s s':T1}
theorem Inv.env0 (I:Inv X pins σ H s):xB X.prog X.w X.K X.mg X.base X.A X.stack s H :=
 ⟨I.ok.frames,I.ok.mod,I.bs,ZL I.ok.bsz I.sz,I.stack,I.stkFree,I.hok,I.bare⟩
theorem Inv.after {Q:VK}(I:Inv X pins σ H s)(h:CE X.stack X.prog X.w H s Q u s'):EP X pins σ Q u s':=by
 obtain⟨v,e,f,bare,c,hok,r,q⟩:=h;obtain⟨i,g,d,t,a⟩:=s';obtain rfl:a=s.os:=f;exact⟨v,e,I.call (h':=i) (g':=g) (d':=d) (t':=t) (ch:=[]) c hok bare (λb z=>absurd z (by simp)),r,q⟩
end
def E5 (sp:Sp) (dvs:List V) (E:XK) (t:TA):TE:=λσ H Q=>t σ H λvs H1=>sp (vs++dvs) H1 Q E
def eQ (K:ZW) (fd:FuncData) (ps:List Str) (ds:List T0):Prop :=
 ∀(s:T1) (us:List T0),K.In s.heap->(us++ds).length=ps.length->BindsTo s fd ⟨us,[]⟩ (ps.zip (us++ds))
theorem eQ.all {b:FuncData}{ps:List Str}(h:∀us:List T0,us.length=ps.length->bindArgs b ⟨us,[]⟩ = pure (ps.zip us)):eQ K b ps []:=λs us _ a=>by
 rw[YL]at a ⊢;exact .of_eq (h us a)
def jw (CX:CXT) (X:Cx) (E:XK):Prop:=∀(pins:List (Addr × Obj)) (σ:St) (H:Hp) (s:T1) (e:T0) (s':T1),Inv X pins σ H s->CX X.stack H s E e s'->X.xe e s'
section
variable {X:Cx} {CX:CXT} {k:Nat} {f C:Addr} {fd:FuncData} {ps:List Str} {sp:Sp} {dvs:List V} {ds:List T0} {E:XK} {x m:Str} {p pos apos:Pos} {e o:Expr} {es:List Expr} {ta:TE} {t:TA}
theorem Bt {Q:VK}{vs:List V}(F:cM X.prog X.w X.K X.mg X.base CX k f fd ps sp)(l:du k X.A)(d:eQ X.K fd ps ds)(hd:aY dvs ds)(g:jw CX X E)
  (I:Inv X pins σ H s) (r:aY vs us) (h:sp (vs++dvs) H Q E):wpAny (model X.prog X.w) X.A (call (.ref f) us) (EP X pins σ Q) X.xe s:=by
 have b:aY (vs++dvs) (us++ds):=r.append hd;have c:(us++ds).length=ps.length:=by rw[<-b.length];exact F.len _ _ _ _ h
 refine wpAny_call (WI (F.run X.A X.stack s H ⟨us,[]⟩ (us++ds) (vs++dvs) Q E l I.env0 (d s us I.kIn c) b h) λr j a => ?_);cases r with
 | error e=>exact g pins σ H s e j I a
 | ok i =>
  cases i with
  | ret u=>exact I.after a
  | next=>exact False.elim a
  | brk=>exact False.elim a
  | cont=>exact False.elim a
theorem nS (F:cM X.prog X.w X.K X.mg X.base CX k f fd ps sp)(i:du k X.A)(j:Gl X x)(n:X.mg x=some (.ref f))(l:PySem.W.keepIn X.K (.ref f)=true)(c:eQ X.K fd ps ds)(hd:aY dvs ds)(g:jw CX X E)
  (d:PA X (e :: es) t) (a:(x == ("__debug__" : Str))=false:=by decide) (he:starEach (e :: es) X.env=(false,eval e X.env) :: starEach es X.env:=by rfl) (hpl:(backTo pos (starEach es X.env)).any (·.1)=false:=by rfl) :
  PE X (.Call (.Name x p) (e :: es) [] pos) (E5 sp dvs E t):=by
 intro pins s σ H Q I h;refine WJ (kN I j n ?_ a);refine PySem.W.callWith_K (h₀ := X.base) I.ok.mod.kin l (thn (d pos pins s σ H _ I h) λu v ⟨y,w,b,r,q⟩=>⟨b.kIn,?_⟩) he hpl;exact Bt F i c hd g b r q
theorem Bu (F:cM X.prog X.w X.K X.mg X.base CX k f fd ps sp)(d:du k X.A)(g:Gl X x)(j:X.mg x=some (.ref f))(i:PySem.W.keepIn X.K (.ref f)=true)(b:eQ X.K fd ps ds)(hd:aY dvs ds)(c:jw CX X E)
  (a:(x == ("__debug__" : Str))=false:=by decide):PE X (.Call (.Name x p) [] [] pos) (E5 sp dvs E Ia):=by
 intro pins s σ H Q I h;refine WJ (kN I g j ?_ a);exact PySem.W.callWith_K0 I.kIn i (Bt (us:=[]) F d b hd c I .nil h)
structure Mk (K:ZW) (C f:Addr):Prop where
 makes:PySem.W.makesIn K C=true
 init:PySem.W.findIn K (.ref C) "__init__" = some (some (.ref f))
 fn:PySem.W.isFn K (.ref f)=true
 kp:PySem.W.keepIn K (.ref C)=true
end
section
variable {X:Cx} {CX:CXT} {k:Nat} {f C:Addr} {fd:FuncData} {ps ks:List Str} {sp:Sp} {E:XK} {x m:Str} {p pos apos kpos:Pos} {e o:Expr} {es:List Expr} {kws:List Keyword} {te ta:TE} {t tk:TA} {nm:Option Str}
structure JB (K:ZW) (fd:FuncData) (ps ks:List Str) (g:List T0->List T0->List T0) (gV:List V->List V->List V):Prop where
 to:∀(s:T1) (us ws:List T0),K.In s.heap->(g us ws).length=ps.length->BindsTo s fd ⟨us,ks.zip ws⟩ (ps.zip (g us ws))
 rel:∀{vs:List V} {us:List T0} {zs:List V} {ws:List T0},aY vs us->aY zs ws->aY (gV vs zs) (g us ws)
variable {g:List T0->List T0->List T0} {gV:List V->List V->List V}
end
structure ce (N P:List Str) (sc:Scope):Prop where
 kind:sc.kind=.function
 co:sc.isCoroutine=false
 gen:sc.isGenerator=false
 nd:N.Nodup
 pre:N.take P.length=P
 par:∀x∈P,sc.names.lookup x=some .local\/sc.names.lookup x=some .cell
 nofree:∀y∈sc.names,y.2 ≠ .free
theorem rA {b:Str->Option NameKind}{x:Str}:∀{a:List (Str × T0)} {m:Str->Option T0},(∀v,(x,v)∉a)->bindL b a m x=m x
 | [],_,_=>rfl
 | (n,v) :: r,m,h=>by
  unfold bindL;rw[rA λw c=>h w (ZV _ c)];split
  ·have:x≠n:=by rintro rfl;exact h v ZU
   simp[this]
  ·rfl
theorem rC {b:Str->Option NameKind}{x:Str}:∀{a:List (Str × T0)} {m:Str->Option T0},(∀v,(x,v)∉a)->bindC b a m x=m x
 | [],_,_=>rfl
 | (n,v) :: r,m,h=>by
  unfold bindC;rw[rC λw c=>h w (ZV _ c)];split
  ·rfl
  ·have:x≠n:=by rintro rfl;exact h v ZU
   simp[this]
theorem rE {a:Str->Option NameKind}{x:Str}{v:T0}:∀{P:List Str} {vs:List T0} {i:Nat} {m:Str->Option T0},P.Nodup->P[i]? = some x->vs[i]? = some v->a x=some .local->
  bindL a (P.zip vs) m x=some v
 | [],_,_,_,_,h,_,_=>by simp at h
 | _ :: _,[],_,_,_,_,h,_=>by simp at h
 | p :: P,w :: vs,0,m,nd,h1,b,c=>by
  simp at h1 b;subst h1;subst b;show bindL a ((p,w) :: P.zip vs) m p=_;unfold bindL;rw[rA λv d=>(Y2.mp nd).1 (List.of_mem_zip d).1,yD c];simp
 | p :: P,w :: vs,i + 1,m,nd,h1,b,c=>by
  show bindL a ((p,w) :: P.zip vs) m x=_;unfold bindL;exact rE (i:=i) (Y2.mp nd).2 (by simpa using h1) (by simpa using b) c
theorem rF {a:Str->Option NameKind}{x:Str}{v:T0}:∀{P:List Str} {vs:List T0} {i:Nat} {m:Str->Option T0},P.Nodup->P[i]? = some x->vs[i]? = some v->a x≠some .local->
  bindC a (P.zip vs) m x=some v
 | [],_,_,_,_,h,_,_=>by simp at h
 | _ :: _,[],_,_,_,_,h,_=>by simp at h
 | p :: P,w :: vs,0,m,nd,h1,b,c=>by
  simp at h1 b;subst h1;subst b;show bindC a ((p,w) :: P.zip vs) m p=_;unfold bindC;rw[rC λv d=>(Y2.mp nd).1 (List.of_mem_zip d).1,wR c];simp
 | p :: P,w :: vs,i + 1,m,nd,h1,b,c=>by
  show bindC a ((p,w) :: P.zip vs) m x=_;unfold bindC;exact rF (i:=i) (Y2.mp nd).2 (by simpa using h1) (by simpa using b) c
def jx (N:List Str) (vs:List V):St:=vs.map some++List.replicate (N.length - vs.length) none
def kQ (CX:CXT) (P:T3) (w:T4) (K:ZW) (mg:Str->Option T0) (base:Heap) (N:List Str) (qual:Str) (scope:Scope) (f:Addr) (cd:T0) (A:T2) (outer:List Env) (s:T1) (H:Hp) (E:XK):Cx where
 prog:=P
 w:=w
 K:=K
 mg:=mg
 base:=base
 A:=A.deeper (envOfC qual scope s.heap.objs.size f cd)
 N:=N
 s₀ := s
 H₀ := H
 env:=envOfC qual scope s.heap.objs.size f cd
 outer:=outer
 stack:=envOfC qual scope s.heap.objs.size f cd :: outer
 ex:=[]
 calm:=true
 fn:=λ_=>true
 pn:=[]
 xe:=λe s'=>wpAny (model P w) (A.deeper (envOfC qual scope s.heap.objs.size f cd)) (leaving (envOfC qual scope s.heap.objs.size f cd) e) (λ_ s''=>CX outer H s E e s'') (λe' s''=>CX outer H s E e' s'') s'
theorem vA {a:Scope}{n:Nat}(h:a.names.lookup x=some .cell):∃c,(cellsFrom n a.names []).lookup x=some c:=by
 have q:=PySem.W.cellsFrom_some a.names n [] (.inl h);exact YB.mp q
theorem Ac {CX:CXT}{P:T3}{w:T4}{mg:Str->Option T0}{base:Heap}{N ps:List Str}{d:Str}{scope:Scope}{f:Addr}{C:T0}{outer:List Env}{F:T1}{E:XK}{vs:List V}
  (S:ce N ps scope) (hd:A.handled=none) (j:xB P w K mg base A outer s H) (O:vs.length=ps.length) (r:aY vs us)
  (x:InCallC s s.heap.objs.size (bindL (envOfC d scope s.heap.objs.size f C).kindOf (ps.zip us) λ_=>none) (cellsFrom (s.heap.objs.size + 1) scope.names []) (bindC (envOfC d scope s.heap.objs.size f C).kindOf (ps.zip us) λ_=>none) F) :
  Inv (kQ CX P w K mg base N d scope f C A outer s H E) [] (jx N vs) H F:=by
 have L:ps.length<=N.length:=by have:=congrArg List.length S.pre;rw[X0]at this;omega
 obtain⟨B,R,rfl,I⟩:=x.done;have m:∀b:Addr,b∉(kQ CX P w K mg base N d scope f C A outer s H E).ex:=λb z=>absurd (show b∈([] : List Addr) from z) (by simp);refine⟨⟨j.mod,S.kind,rfl,rfl,ZK _,λy z c B g => ?_,λy l => ?_,λy c _ h => ?_,λ_=>hd,Around.frames_deeper j.frames,.inr ⟨rfl,rfl⟩,λb z=>absurd z (m b),j.bs,j.bsz,λb _ _=>m b,λb z=>absurd z (m b),j.funs,j.frf⟩,
  rfl,j.bare,Un.kept I,⟨_,x.toInCall.ns,λi y v B g Q => ?_⟩,λy c h=>⟨_,x.cell y c h⟩,j.hok.fresh (ZK _),λy c h => ?_,λp o=>absurd (show p∈([] : List (Addr × Obj)) from o) (by simp),j.hok.kept I,?_⟩
 ·exact name_of_addr x.apart (WD B) (WD g)
 ·have l:scope.names.lookup y=some .cell\/scope.names.lookup y=some .free:=l
  rcases l with l|l
  ·exact vA l
  ·exact absurd rfl (S.nofree _ (WD l))
 ·exact XB (x.above y c (WD h))
 ·have D:i < vs.length:=by
   unfold jx at g
   by_cases D:i < vs.length
   ·exact D
   ·rw[ZD (by simpa using D)]at g
    rw[List.getElem?_replicate]at g;split at g<;>cases g
  have M:vs[i]? = some v:=by
   unfold jx at g;rw[ZC (by simpa using D),ZP]at g;cases e:vs[i]? with
   | none=>rw[e]at g;cases g
   | some a=>rw[e]at g;cases g;rfl
  obtain⟨u,G,J⟩:=r.get M;have o:ps[i]? = some y:=by
   rw[<-S.pre,List.getElem?_take_of_lt (by omega)];exact B
  have t:ps.Nodup:=by rw[<-S.pre];exact S.nd.sublist (List.take_sublist _ _)
  refine⟨u,J,?_⟩;rcases S.par y (ZJ o) with k|k
  ·exact .inl ⟨k,rE t o G k⟩
  ·obtain⟨c,e⟩:=vA (n:=s.heap.objs.size + 1) k
   refine .inr ⟨.inl k,c,e,?_⟩;have q:=x.cell y c e;rw[rF t o G (by show scope.names.lookup y≠_;rw[k];decide)]at q;exact q
 ·exact j.hok.fresh (XB (x.above y c (WD h)))
 ·unfold jx
  show _=N.length;rw[ZB,ZA,List.length_replicate];omega
theorem yR {CX:CXT}{P:T3}{w:T4}{mg:Str->Option T0}{base:Heap}{k:Nat}{f:Addr}{name a:Str}{d:Arguments}{g:List Stmt}{scope:Scope}{R kV B pm c ct oc:T0}{O X:Option Addr}
  {F:Array (Option T0)} {N ps:List Str} {sp:Sp} (lk:K.lookup f=some ⟨oc,X,.func (PySem.W.fnOf name a d g scope R kV B pm O c ct),F⟩) (L:PySem.W.codeIn K c a=true) (S:ce N ps scope)
  (len:∀vs H Q E,sp vs H Q E->vs.length=ps.length)
  (l:∀(A:T2) (outer:List Env) (s:T1) (H:Hp) (vs:List V) (Q:VK) (E:XK),du k (A.deeper (envOfC a scope s.heap.objs.size f c))->sp vs H Q E->
   ∃t,PSs (kQ CX P w K mg base N a scope f c A outer s H E) g t/\t { nx:=λ_ i=>Q .non i,rt:=Q } (jx N vs) H) :
  cM P w K mg base CX (k + 1) f (PySem.W.fnOf name a d g scope R kV B pm O c ct) ps sp:=by
 refine⟨len,λA outer s H T us vs Q E M z hb r p => ?_⟩;have Z:=len _ _ _ _ p;have KX:K.In s.heap:=z.mod.kin.keeps λb o e=>(z.bs b o e).1;have C:s.heap.NoLimit:=z.mod.nolimit.keeps λb o e=>(z.bs b o e).1;have j:∀y∈ps.zip us,scope.names.lookup y.1=some .local\/(scope.names.lookup y.1=some .cell/\((cellsFrom (s.heap.objs.size + 1) scope.names []).lookup y.1).isSome=true):=λ⟨n,v⟩ W=>by
  rcases S.par n (List.of_mem_zip W).1 with q|q
  ·exact .inl q
  ·exact .inr ⟨q,PySem.W.cellsFrom_some _ _ _ (.inl q)⟩
 refine codeAny_call_function M.depth (KX _ _ lk) rfl S.co S.gen rfl (PySem.W.codeRec_of KX L) (hb _ _ _ _ ?_);refine wpAny_newFunctionEnv_cells S.kind j λenv Y U x => ?_;subst Y;refine⟨C.keeps x.toInCall.keep,codeAny_func ?_⟩;obtain⟨t,ht,hq⟩:=l A outer s H vs Q E (M.deeper _) p;have I:Inv (kQ CX P w K mg base N a scope f c A outer s H E) [] (jx N vs) H U:=Ac S M.hd z Z r x;refine YY (ht [] U (jx N vs) H _ I hq) (λfl G m => ?_) λe G m=>m;have fin:∀{h:St} {i:Hp} {v:V} {u:T0},Inv (kQ CX P w K mg base N a scope f c A outer s H E) [] h i G->bF v u->Q v i->CE outer P w H s Q u G :=
  λ{h i v u} J D q=>⟨v,i,J.os,J.bare,J.base,J.hok,D,q⟩
 cases fl with
 | ret u =>
  obtain⟨v,h,i,J,D,q⟩:=m;exact fin J D q
 | next =>
  obtain⟨h,i,J,q⟩:=m;exact fin (v:=V.non) (u:=Value.none) J rfl q
 | brk =>
  obtain⟨_,_,_,q⟩:=m;exact False.elim q
 | cont =>
  obtain⟨_,_,_,q⟩:=m;exact False.elim q
section
variable {X:Cx} {x:Str} {p pos:Pos} {e:Expr} {es:List Expr} {t:TA} {id T:String} {r:List V->Hp->VK->Prop}
def tCB (r:List V->Hp->VK->Prop) (t:TA):TE:=λσ H Q=>t σ H λvs H1=>r vs H1 Q
theorem ek (g:fg X (.builtin id) r) (m:Gl X x) (n:X.mg x=none) (q:bootBuiltins x=some (.builtin id)) (d:PA X (e :: es) t) (f:x ≠ "__name__" := by decide) (a:(x == ("__debug__" : Str))=false:=by decide)
  (he:starEach (e :: es) X.env=(false,eval e X.env) :: starEach es X.env:=by rfl) (hpl:(backTo pos (starEach es X.env)).any (·.1)=false:=by rfl):PE X (.Call (.Name x p) (e :: es) [] pos) (tCB r t):=by
 intro pins s σ H Q I h;refine WJ (oz I m n q ?_ f a);exact PyProof.Rows.callWith_builtin1 (thn (d pos pins s σ H _ I h) λi k ⟨o,l,c,j,b⟩=>g pins k σ l o i Q c j b) he hpl
theorem rG (g:fg X (.type T) r) (m:Gl X x) (n:X.mg x=none) (q:bootBuiltins x=some (.type T)) (d:PA X (e :: es) t) (f:x ≠ "__name__" := by decide) (a:(x == ("__debug__" : Str))=false:=by decide)
  (he:starEach (e :: es) X.env=(false,eval e X.env) :: starEach es X.env:=by rfl) (hpl:(backTo pos (starEach es X.env)).any (·.1)=false:=by rfl):PE X (.Call (.Name x p) (e :: es) [] pos) (tCB r t):=by
 intro pins s σ H Q I h;refine WJ (oz I m n q ?_ f a);exact WT (thn (d pos pins s σ H _ I h) λi k ⟨o,l,c,j,b⟩=>g pins k σ l o i Q c j b) he hpl
end
end L2
namespace HT
open PySem PyProof.Rows
def lexLt:List Int->List Int->Bool
 | [],[]=>false
 | [],_ :: _=>true
 | _ :: _,[]=>false
 | x :: xs,y :: ys=>if x=y then lexLt xs ys else decide (x < y)
theorem oH (x y:Int)(xs ys:List Int):lexLt (x :: xs) (y :: ys)=if x=y then lexLt xs ys else decide (x < y):=rfl
theorem qv:lexLt [] [] = false:=rfl
theorem oJ (y:Int)(ys:List Int):lexLt [] (y :: ys)=true:=rfl
theorem oK (x:Int)(xs:List Int):lexLt (x :: xs) [] = false:=rfl
theorem vB (A:T2)(s:T1)(a:Int)(t:Tok)(c:Int)(u:Tok):∃e,SeqAt.EqAt A s (.int a t) (.int c u) e/\(e=true ↔ a=c) :=
 ⟨(a == c),VH a t c u,by simp⟩
theorem Bv (A:T2)(s:T1)(a:Int)(t:Tok)(c:Int)(u:Tok)(prog:T3)(w:T4)(E:T0->T1->Prop)(Q:T0->T1->Prop)(h:Q (.bool (decide (a < c))) s) :
  wpAny (model prog w) A (richCompare .Lt (.int a t) (.int c u)) Q E s :=
 (PyProof.Rows.lt_int h:wpAny (model prog w) A (compareOp .Lt (.int a t) (.int c u)) Q E s)
section
open PySem.SeqAt
open PySem.AutoSeq1 (wpAny_loadPart')
open PySem.MeetsSeq PySem.MeetsSeq2 PySem.MeetsSeq3
theorem qw (l b:Addr)(i f:Array T0)(n Q:Nat)(dd L:Option Addr)(V I:Array (Option T0))(ns C:List Int)(hi:IntsAre i.toList ns)(N:IntsAre f.toList C) :
  Meets (Builtin.«tuple.__lt__» ⟨[.ref l,.ref b],[]⟩)
   (λ_ R s=>s.heap.get? l=some { cls:=.type "tuple",dict:=dd,data:=.seq i n,slots:=V }/\s.heap.get? b=some { cls:=.type "tuple",dict:=L,data:=.seq f Q,slots:=I }/\
    R (.ok (.ret (.bool (lexLt ns C)))) s) :=
 .of_wp λprog w A R s h=>by
  obtain⟨E,g,d,D,G⟩:=s;obtain⟨S,U,h⟩:=h;have f2:=AutoSeq1.sub_tuple_tuple;have Z:i.size=ns.length:=by rw[<-hi.length];simp
  have z2:f.size=C.length:=by rw[<-N.length];simp
  wp_walk using XX S,XX U,wpAny_forIn_list _ (λrest b K=>b.1=none/\K=⟨E,g,d,D,G⟩/\∃(H F:List T0) (k m:List Int),rest=H.zip F/\
   IntsAre H k/\IntsAre F m/\k.length + f.size=m.length + i.size/\R (.ok (.ret (.bool (lexLt k m)))) ⟨E,g,d,D,G⟩) _
  case turn =>
   rintro⟨y,x⟩ rest b K ⟨B,rfl,H,F,k,m,p,z,o,j,v⟩;cases z with
   | nil=>rw[List.zip_nil_left]at p;cases p
   | cons a t hvi' =>
    cases o with
    | nil=>rw[List.zip_nil_right]at p;cases p
    | cons c u hwi' =>
     rw[VI]at p;injection p with hyx hrest
     injection hyx with O T
     subst O T;rw[oH]at v;simp only[ZX]at j;obtain⟨e,P,r⟩:=vB A.in1 ⟨E,g,d,D,G⟩ a t c u;refine yC (P prog w _ _ ?_);cases e with
     | true =>
      rw[yD (r.mp rfl)]at v
      wp_walk
      exact⟨rfl,rfl,_,_,_,_,hrest,hvi',hwi',by omega,v⟩
     | false =>
      rw[wR (λq=>absurd (r.mpr q) wV)]at v;have J:=Bv A.in1 ⟨E,g,d,D,G⟩ a t c u prog w
      wp_walk using J
      exact⟨_,rfl,by simpa using v⟩
  case fin =>
   rintro⟨X,Y⟩ K ⟨B,rfl,H,F,k,m,p,z,o,j,v⟩;simp only at B;subst B;have M:lexLt k m=decide (i.size < f.size):=by
    cases z with
    | nil =>
     cases o with
     | nil =>
      simp only[Z3]at j;rw[qv];exact(y0 (by omega)).symm
     | cons c u W =>
      simp only[Z3,ZX]at j;rw[oJ];exact(x8 (by omega)).symm
    | cons a t M =>
     cases o with
     | nil =>
      simp only[Z3,ZX]at j;rw[oK];exact(y0 (by omega)).symm
     | cons c u W =>
      rw[VI]at p;cases p
   rw[M]at v
   wp_walk
   exact⟨_,rfl,by simpa[Builtin.Tuple.tupleCompareSizes] using v⟩
  case h =>
   exact⟨rfl,rfl,i.toList,f.toList,ns,C,rfl,hi,N,by omega,h⟩
end
section
variable {prog:T3} {w:T4} {A:T2} {E:T0->T1->Prop} {s:T1}
theorem lt_tupInts {l b:Addr}{c a:Array T0}{ns e:List Int}{Q:T0->T1->Prop}(z:IsTup s.heap l c)(t:IsTup s.heap b a)(hi:IntsAre c.toList ns)(y:IntsAre a.toList e)
  (B:A.units < cLine) (h:Q (.bool (lexLt ns e)) s):wpAny (model prog w) A (compareOp .Lt (.ref l) (.ref b)) Q E s:=by
 obtain⟨⟨cls,r,data,u⟩,o,m,n,p⟩:=id z;obtain⟨⟨q,j,i,k⟩,g,d,v,f⟩:=id t;simp only at m p d f;subst m p d f;exact richCompare_meets_room (op:=.Lt) ⟨_,o,rfl⟩ ⟨_,g,rfl⟩ PySem.F.slot_tuple_lt PySem.F.entry_tuple_lt (PySem.F.args_tuple_lt_2 _ _) (qw l b c a n v r j u k ns e hi y)
  ⟨o,g,show Value.bool (lexLt ns e)≠Value.notImplemented/\Q (.bool (lexLt ns e)) s from ⟨(λx=>nomatch x),h⟩⟩ B
theorem cat_tup {t b:Addr}{vs a:List T0}{Q:T0->T1->Prop}(v:IsTup s.heap t vs.toArray)(y:IsTup s.heap b a.toArray)(u:vs≠[])
  (h1:a=[]->Q (.ref t) s) (x:a≠[]->Q (.ref s.heap.objs.size) { s with heap:=s.heap.push { cls:=.type "tuple",data:=.seq (vs++a).toArray } })
  (hsz:vs.length + a.length<=sizeLine):wpAny (model prog w) A (binaryOp .Add (.ref t) (.ref b)) Q E s:=by
 obtain⟨⟨cls,l,data,o⟩,i,m,n,q⟩:=id v;obtain⟨⟨r,d,k,g⟩,c,f,p,h⟩:=id y;simp only at m q f h;subst m q f h;have e:vs.toArray++a.toArray=(vs++a).toArray:=by simp
 by_cases j:a=[]
 ·exact concat_meets ⟨_,i,rfl⟩ ⟨_,c,rfl⟩ noFill_tuple_add seq_tuple_add PySem.F.slot_tuple_add PySem.F.entry_tuple_add (PySem.F.args_tuple_add_2 _ _)
   (tuple_addW1 t b vs.toArray a.toArray n p l d o g (by simpa using u) (by simp[j])) ⟨i,c,h1 j⟩
 ·refine concat_meets ⟨_,i,rfl⟩ ⟨_,c,rfl⟩ noFill_tuple_add seq_tuple_add PySem.F.slot_tuple_add PySem.F.entry_tuple_add (PySem.F.args_tuple_add_2 _ _)
   (tuple_addW2 t b vs.toArray a.toArray n p l d o g (by simpa using u) (by simpa using j) (by rw[v7,v7];exact hsz)) ⟨i,c,?_⟩
  rw[e];exact x j
def sIx (n d:Nat):Option Int->Nat
 | none=>d
 | some v=>if v < 0 then (v + (n:Int)).toNat else min v.toNat n
theorem FM (n d:Nat)(hd:d<=n)(o:Option Int):sIx n d o<=n:=by
 cases o with
 | none=>exact hd
 | some v =>
  show (if v < 0 then (v + (n:Int)).toNat else min v.toNat n)<=n
  by_cases a:v < 0
  ·rw[yD a];omega
  ·rw[wR a];exact Nat.min_le_right _ _
theorem yS (v:Int)(n d:Nat):(if v < 0 then max (v + (n:Int)) 0 else min v (n:Int))=((sIx n d (some v):Nat):Int):=by
 show (if v < 0 then max (v + (n:Int)) 0 else min v (n:Int))=(((if v < 0 then (v + (n:Int)).toNat else min v.toNat n):Nat):Int)
 by_cases a:v < 0
 ·simp only[yD a];omega
 ·simp only[wR a];omega
theorem xC (lo hi:Option Int)(n:Nat):Builtin.Slice.sliceAdjust lo hi 1 (n:Int)=(((sIx n 0 lo:Nat):Int),((sIx n n hi:Nat):Int)):=by
 have a : ¬((1:Int) < 0):=by omega
 unfold Builtin.Slice.sliceAdjust;simp only[a,WB];refine Prod.ext ?_ ?_
 ·cases lo with
  | none=>rfl
  | some v=>exact yS v n 0
 ·cases hi with
  | none=>rfl
  | some v=>exact yS v n n
theorem xD (i j:Nat):Builtin.Slice.slicePlaces (i:Int) (j:Int) 1=j - i:=by
 unfold Builtin.Slice.slicePlaces;have a:(1:Int) > 0:=by omega
 simp only[a,Y7,Int.ediv_one];split<;>omega
theorem oM {v:T0}{o:Option Int}{Q:Option Int->T1->Prop}(p:IsPart v o)(h:Q o s):wpAny (model prog w) A (Builtin.Slice.slicePartIndex v) Q E s:=by
 cases p with
 | none=>exact slicePart_none h
 | int i t=>exact slicePart_int h
theorem ig {e:Addr}{d c:T0}{lo hi:Option Int}{n:Nat}{Q:Int × Int × Nat->T1->Prop}(j:s.heap.IsSliceOf e d c .none)(i:IsPart d lo)(f:IsPart c hi)
  (h:Q (((sIx n 0 lo:Nat):Int),1,sIx n n hi - sIx n 0 lo) s):wpAny (model prog w) A (Builtin.Slice.sliceApplied (.ref e) (pure (n:Int))) Q E s:=by
 obtain⟨k,a,g,b⟩:=id j;unfold Builtin.Slice.sliceApplied Builtin.Slice.sliceFields;refine yC (yC (wpAny_field a b (x:=d) rfl (yC (wpAny_field a b (x:=c) rfl (yC (wpAny_field a b (x:=.none) rfl (wW ?_)))))));refine yC (slicePart_none ?_);show wpAny _ _ (if ((1:Int) == 0)=true then _ else _) _ _ s;rw[wR (by decide)];refine yC (oM i (yC (oM f (yC (wW ?_)))));show wpAny _ _ (match Builtin.Slice.sliceAdjust lo hi 1 (n:Int) with|(lo,hi)=>pure (lo,(1:Int),Builtin.Slice.slicePlaces lo hi 1)) _ _ s;rw[xC lo hi n];show wpAny _ _ (pure (((sIx n 0 lo:Nat):Int),(1:Int),Builtin.Slice.slicePlaces ((sIx n 0 lo:Nat):Int) ((sIx n n hi:Nat):Int) 1)) _ _ s;rw[xD];exact wW h
theorem Bw (xs:Array T0)(i k:Nat):((List.range k).filterMap λ(m:Nat)=>xs[((i:Int) + (m:Int) * 1).toNat]?).toArray=((xs.toList.drop i).take k).toArray:=by
 have e:(λ(m:Nat)=>xs[((i:Int) + (m:Int) * 1).toNat]?)=λm=>xs[i + m]? := by
  funext m;have:((i:Int) + (m:Int) * 1).toNat=i + m:=by omega
  rw[this]
 rw[e];have:=pick_run xs i k;rw[List.filterMap_map]at this;have a:((λx=>xs[x]?) ∘ λx=>i + x)=λm=>xs[i + m]? := rfl;rw[a]at this;rw[this]
theorem getItem_tuple_cut {t f:Addr}{a:Array T0}{j k:T0}{lo hi:Option Int}{Q:T0->T1->Prop}(c:IsTup s.heap t a)(l:s.heap.IsSliceOf f j k .none)(u:IsPart j lo)(o:IsPart k hi)
  (p : ¬(sIx a.size 0 lo=0/\sIx a.size a.size hi=a.size))
  (h:Q (.ref s.heap.objs.size) { s with heap:=s.heap.push { cls:=.type "tuple",data:=.seq ((a.toList.drop (sIx a.size 0 lo)).take (sIx a.size a.size hi - sIx a.size 0 lo)).toArray } })
  (hsz:a.size<=sizeLine):wpAny (model prog w) A (getItem (.ref t) (.ref f)) Q E s:=by
 have b:sizeOk (.seq ((a.toList.drop (sIx a.size 0 lo)).take (sIx a.size a.size hi - sIx a.size 0 lo)).toArray):=by
  show ((a.toList.drop (sIx a.size 0 lo)).take (sIx a.size a.size hi - sIx a.size 0 lo)).toArray.size<=sizeLine;rw[v7,X0,Z9,Array.length_toList];omega
 have y:sIx a.size a.size hi<=a.size:=FM _ _ (ZK _) hi;obtain⟨r,e,g,n⟩:=id l;have d:s.TypeIs (.ref f) "slice" := ⟨r,e,g⟩;unfold getItem
 try with_reducible refine Y1 ?_
 first|refine yC (wW ?_)|skip
 refine yC (wpAny_sequenceKey c.typeIs (by decide) ?_);refine yC (wpAny_callSpecial?_slot (name:=Str.ofString "__getitem__") c.typeIs XH
  (W3 XH c.typeIs entry_tuple_getitem ?_ (args_tuple_getitem _ _)))
 show wpAny _ _ (Builtin.Tuple.tupleItemsOf (.ref t) >>= _) _ _ s;refine yC (tupleItemsOf_ c ?_);refine yC (wpAny_typeOf d ?_);rw[yD (by decide)];refine yC (ig l u o ?_);have i : ¬((((sIx a.size 0 lo:Nat):Int) == 0 && (1:Int) == 1 && (sIx a.size a.size hi - sIx a.size 0 lo) == a.size)=true):=by
  intro q;rw[Z4,Z4]at q;have v:((sIx a.size 0 lo:Nat):Int)=0:=eq_of_beq q.1.1;have x:sIx a.size a.size hi - sIx a.size 0 lo=a.size:=eq_of_beq q.2;exact p ⟨by omega,by omega⟩
 show wpAny _ _ (if (((sIx a.size 0 lo:Nat):Int) == 0 && (1:Int) == 1 && (sIx a.size a.size hi - sIx a.size 0 lo) == a.size)=true then _ else _) _ _ s;rw[wR i,Bw]
 first
  | exact yC (m:=Builtin.Tuple.tupleExact _) (WU (wW ⟨_,rfl,wW h⟩) b)
  | exact yC (m:=Builtin.Tuple.tupleExact _) (WU (yC (wW (wW ⟨_,rfl,wW h⟩))) b)
  | exact yC (yC (m:=Builtin.Tuple.tupleExact _) (WU (wW (wW ⟨_,rfl,wW h⟩)) b))
  | exact yC (yC (m:=Builtin.Tuple.tupleExact _) (WU (wW ⟨_,rfl,wW h⟩) b))
end
end HT
namespace L2
open PySem PySem.Spec PyProof.Rows
abbrev TO:=St->Hp->(Option Int->Hp->Prop)->Prop
def PO (X:Cx) (e:Option Expr) (t:TO):Prop :=
 ∀(pins:List (Addr × Obj)) (s:T1) (σ:St) (H:Hp) (Q:Option Int->Hp->Prop),Inv X pins σ H s->t σ H Q->
  wpAny (model X.prog X.w) X.A (evalPart e X.env) (λu s'=>∃o H',Inv X pins σ H' s'/\IsPart u o/\Q o H') X.xe s
def DP:TO:=λ_ H Q=>Q none H
def Ic (t:TE):TO:=λσ H Q=>t σ H λx H1=>∃i,x=.int i/\Q (some i) H1
theorem fu {ns:List Int}:∀{us:List T0},aY (ns.map V.int) us->IntsAre us ns:=by
 induction ns with
 | nil=>intro us r;rw[Y8]at r;cases r;exact .nil
 | cons n ns b =>
  intro us r;rw[ZZ]at r;cases r with
  | cons c a =>
   obtain⟨t,e⟩:=c;subst e;exact .cons n t (b a)
section
variable {X:Cx} {e:Expr} {te:TE} {lo hi:Option Expr} {tl th:TO} {pos p2:Pos}
theorem DQ:PO X none DP:=by
 intro pins s σ H Q I h;rw[evalPart_none];exact wW ⟨none,H,I,.none,h⟩
theorem DR (h:PE X e te):PO X (some e) (Ic te):=by
 intro pins s σ H Q I b;rw[evalPart_some];refine thn (h pins s σ H _ I b) λu g ⟨x,d,c,f,a⟩ => ?_;obtain⟨i,rfl,q⟩:=a;obtain⟨t,rfl⟩:=f;exact⟨some i,d,c,.int i t,q⟩
def SlR (X:Cx) (r:V->Option Int->Option Int->Hp->VK->Prop):Prop :=
 ∀(pins:List (Addr × Obj)) (s:T1) (σ:St) (H:Hp) (x:V) (v vl vu:T0) (lo hi:Option Int) (sl:Addr) (Q:VK),Inv X pins σ H s->bF x v->s.heap.IsSliceOf sl vl vu .none->IsPart vl lo->IsPart vu hi->r x lo hi H Q->
  ∃T id,typeLookup (.type T) "__getitem__" = pure (some (.builtin id))/\s.TypeIs v T/\wpAny (model X.prog X.w) X.A (getItem v (.ref sl)) (EP X pins σ Q) X.xe s
theorem SlR.or {r g:V->Option Int->Option Int->Hp->VK->Prop}(h:SlR X r)(h':SlR X g):SlR X (λx lo hi H Q=>r x lo hi H Q\/g x lo hi H Q):=by
 intro pins s σ H x v j c lo hi b Q I i f d a q;rcases q with q|q
 ·exact h pins s σ H x v j c lo hi b Q I i f d a q
 ·exact h' pins s σ H x v j c lo hi b Q I i f d a q
def tSl (r:V->Option Int->Option Int->Hp->VK->Prop) (te:TE) (tl th:TO):TE:=λσ H Q=>te σ H λx H1=>tl σ H1 λl H2=>th σ H2 λu H3=>r x l u H3 Q
theorem kR {r:V->Option Int->Option Int->Hp->VK->Prop}(G:SlR X r)(he:PE X e te)(A:PO X lo tl)(B:PO X hi th):PE X (.Subscript e (.Slice lo hi none p2) pos) (tSl r te tl th):=by
 intro pins s σ H Q I h;refine Subscript_ (thn (he pins s σ H _ I h) λv z ⟨x,F,m,t,g⟩ => ?_);refine wpAny_Slice (thn (A pins z σ F _ m g) λc n ⟨l,j,D,C,y⟩=>thn (B pins n σ j _ D y) λd a ⟨u,f,E,w,k⟩ => ?_);rw[evalPart_none];refine wW ?_;have o:Inv X pins σ f { a with heap:=a.heap.push { cls:=.type "slice",data:=.fields #[c,d,.none] } }:=E.kept (t':=a.toks) λb K q=>ZG _ q;obtain⟨T,id,p,i,J⟩:=G pins { a with heap:=a.heap.push { cls:=.type "slice",data:=.fields #[c,d,.none] } } σ f x v c d l u a.heap.objs.size Q o t (Heap.IsSliceOf.new ..) C w k;show wpAny (model X.prog X.w) X.A (subscriptTail e (.Slice lo hi none p2) v (.ref a.heap.objs.size)) (EP X pins σ Q) X.xe { a with heap:=a.heap.push { cls:=.type "slice",data:=.fields #[c,d,.none] } };exact tail_any (ops:=[.ref a.heap.objs.size,v]) i p J (by with_unfolding_all rfl)
def mi (xs:List V) (lo hi:Option Int):List V:=(xs.drop (HT.sIx xs.length 0 lo)).take (HT.sIx xs.length xs.length hi - HT.sIx xs.length 0 lo)
theorem m9 (xs:List V)(lo hi:Option Int):(mi xs lo hi).length<=xs.length:=by
 unfold mi;rw[X0,Z9];omega
def JC (K:ZW):V->Option Int->Option Int->Hp->VK->Prop:=λx lo hi H Q=>∃a xs,x=.ref a/\SqT K H a xs/\
 ¬(HT.sIx xs.length 0 lo=0/\HT.sIx xs.length xs.length hi=xs.length)/\∀p,H p=none->Q (.ref p) (upd H p (.tup (mi xs lo hi)))
theorem Bx:SlR X (JC X.K):=by
 intro pins s σ H x v t w lo hi u Q I j n m k h;obtain⟨a,d,rfl,p,l,q⟩:=h;cases j;obtain⟨f,r,g,i⟩:=I.tuple p;have c:f.toArray.size=d.length:=by rw[v7];exact r.length.symm
 refine⟨"tuple",_,PyProof.Rows.slot_tuple_getitem.lookup,g.typeIs,?_⟩;refine HT.getItem_tuple_cut g n m k (by rw[c];exact l) ?_ (by rw[c];exact i);rw[c];refine⟨.ref s.heap.objs.size,_,I.laid (t':=s.toks) (o:=.tup (mi d lo hi)) (λb y q=>ZG _ q) (ZK _) ?_,rfl,q _ (I.hok.fresh (ZK _))⟩;exact⟨ZL (m9 d lo hi) i,_,(r.drop (HT.sIx d.length 0 lo)).take (HT.sIx d.length d.length hi - HT.sIx d.length 0 lo),IsTup.new _ _⟩
def Ie (K:ZW):R2:=λx y H Q=>∃a b ns ms,x=.ref a/\y=.ref b/\SqT K H a (ns.map V.int)/\SqT K H b (ms.map V.int)/\Q (.bl (HT.lexLt ns ms)) H
theorem FN (o:X.A.units < cLine):OpR X (compareOp .Lt) (Ie X.K):=by
 intro pins s σ H x y v u Q I k l h;obtain⟨a,b,f,g,rfl,rfl,j,i,q⟩:=h;cases k;cases l;obtain⟨d,m,n,_⟩:=I.tuple j;obtain⟨c,p,p2,_⟩:=I.tuple i;have t:IntsAre d.toArray.toList f:=fu m;have r:IntsAre c.toArray.toList g:=fu p;exact HT.lt_tupInts n p2 t r o ⟨.bl (HT.lexLt f g),H,I,rfl,q⟩
def By (K:ZW):R2:=λx y H Q=>∃a b xs ys,x=.ref a/\y=.ref b/\SqT K H a xs/\SqT K H b ys/\xs≠[]/\xs.length + ys.length<=sizeLine/\
 (ys=[]->Q (.ref a) H)/\(ys≠[]->∀p,H p=none->Q (.ref p) (upd H p (.tup (xs++ys))))
theorem aY.nil_iff {xs:List V}{us:List T0}(r:aY xs us):us=[] ↔ xs=[]:=by
 cases r with
 | nil=>simp
 | cons _ _=>simp
theorem DS:OpR X (binaryOp .Add) (By X.K):=by
 intro pins s σ H x y v u Q I m n h;obtain⟨a,b,r,t,rfl,rfl,l,j,B,f,i,p⟩:=h;cases m;cases n;obtain⟨k,d,A,_⟩:=I.tuple l;obtain⟨g,c,p2,_⟩:=I.tuple j;refine HT.cat_tup A p2 (λz=>B (d.nil_iff.mp z)) (λz=>⟨.ref a,H,I,rfl,i (c.nil_iff.mp z)⟩) (λz => ?_) (by rw[<-d.length,<-c.length];exact f);refine⟨.ref s.heap.objs.size,_,I.laid (t':=s.toks) (o:=.tup (r++t)) (λb C q=>ZG _ q) (ZK _) ?_,rfl,p (λw=>z (c.nil_iff.mpr w)) _ (I.hok.fresh (ZK _))⟩;exact⟨by rw[ZB];exact f,_,d.append c,IsTup.new _ _⟩
end
def ixN (n:Nat) (i:Int):Option Nat:=if 0<=i then (if i < n then some i.toNat else none) else if -(n:Int)<=i then some (i + n).toNat else none
def atI {α : Type} (xs:List α) (i:Int):Option α := (ixN xs.length i).bind λj=>xs[j]?
theorem yT {n:Nat}{i:Int}{j:Nat}(h:ixN n i=some j):seqIndex? i n=some j/\j < n/\-(n:Int)<=i/\i < n:=by
 unfold ixN at h
 by_cases b:0<=i
 ·rw[yD b]at h
  by_cases a:i < n
  ·rw[yD a]at h
   have e:i.toNat=j:=ZS h;exact⟨by rw[seqIndex_of b a,e],by omega,by omega,a⟩
  ·rw[wR a]at h;cases h
 ·rw[wR b]at h
  by_cases a : -(n:Int)<=i
  ·rw[yD a]at h
   have e:(i + n).toNat=j:=ZS h;exact⟨by rw[seqIndex_neg (by omega) a,e],by omega,a,by omega⟩
  ·rw[wR a]at h;cases h
theorem sW {α : Type}{xs:List α}{i:Int}{v : α}(h:atI xs i=some v):∃j,seqIndex? i xs.length=some j/\xs[j]? = some v/\j < xs.length/\-(xs.length:Int)<=i/\i < xs.length:=by
 unfold atI at h;cases e:ixN xs.length i with
 | none=>rw[e]at h;cases h
 | some j =>
  rw[e]at h;obtain⟨d,c,a,b⟩:=yT e;exact⟨j,d,h,c,a,b⟩
theorem dw {α : Type}{xs:List α}{j:Nat}{v : α}(h:xs[j]? = some v):atI xs (j:Int)=some v:=by
 have a:j < xs.length:=(yE.mp h).1;have e:ixN xs.length (j:Int)=some j:=by
  unfold ixN;rw[yD (by omega),yD (by omega)];simp
 unfold atI;rw[e];exact h
theorem kS {α : Type}(xs:List α)(v : α):atI (xs++[v]) (-1)=some v:=by
 have a:(xs++[v]).length=xs.length + 1:=by simp
 have e:ixN (xs++[v]).length (-1)=some xs.length:=by
  unfold ixN;rw[a,wR (by decide),yD (by omega)];congr 1;omega
 unfold atI;rw[e];show (xs++[v])[xs.length]? = some v;simp
def nT (b:Expr):Prop:=∀o i,subscripted b false o i=operate [o,i] (getItem o i)
def IxR (X:Cx) (r:R2):Prop :=
 ∀(value slice:Expr) (pins:List (Addr × Obj)) (s:T1) (σ:St) (H:Hp) (x y:V) (v u:T0) (Q:VK),Inv X pins σ H s->bF x v->bF y u->r x y H Q->
  subscripted slice false v u=operate [v,u] (getItem v u)->wpAny (model X.prog X.w) X.A (subscriptTail value slice v u) (EP X pins σ Q) X.xe s
def MtR (X:Cx) (id:String) (r:V->List V->Hp->VK->Prop):Prop :=
 ∀(pins:List (Addr × Obj)) (s:T1) (σ:St) (H:Hp) (x:V) (xs:List V) (v:T0) (us:List T0) (Q:VK),Inv X pins σ H s->bF x v->aY xs us->r x xs H Q->
  wpAny (model X.prog X.w) X.A (call (.builtin id) (v :: us)) (EP X pins σ Q) X.xe s
section
variable {X:Cx} {a b:Expr} {ta tb:TE} {pos:Pos}
theorem IxR.or {r f:R2}(h:IxR X r)(h':IxR X f):IxR X (λx y H Q=>r x y H Q\/f x y H Q):=by
 intro c d pins s σ H x y v u Q I g i q e;rcases q with q|q
 ·exact h c d pins s σ H x y v u Q I g i q e
 ·exact h' c d pins s σ H x y v u Q I g i q e
theorem Bz {r:R2}(l:IxR X r)(g:PE X a ta)(e:PE X b tb)(d:nT b):PE X (.Subscript a b pos) (tOp r ta tb):=by
 intro pins s σ H Q I h;exact Subscript_ (FF g e I h λv u i x y c f j k q=>l a b pins i σ c x y v u Q f j k q (d _ _))
def Ig (K:ZW):R2:=λx y H Q=>∃p xs i v,x=.ref p/\y=.int i/\SqL K H p xs/\atI xs i=some v/\Q v H
def Ih (K:ZW):R2:=λx y H Q=>∃p xs i v,x=.ref p/\y=.int i/\SqT K H p xs/\atI xs i=some v/\Q v H
def Ii:R2:=λx y H Q=>∃z i c,x=.str z/\y=.int i/\z.length<=sizeLine/\atI z.cps.toList i=some c/\Q (.str ⟨#[c]⟩) H
theorem yU:IxR X (Ig X.K):=by
 intro e l pins s σ H x y v u Q I E F h o;obtain⟨p,N,i,z,rfl,rfl,A,G,q⟩:=h;cases E;obtain⟨t,rfl⟩:=F;obtain⟨d,r,k,L⟩:=I.list A;obtain⟨j,c,B,O,D,C⟩:=sW G;obtain⟨w,m,f⟩:=r.get B;have J:=r.length;have M:=mh;have fin:EP X pins σ Q w s:=⟨z,H,I,f,q⟩
 by_cases n:0<=i
 ·have g:i.toNat=j:=by
   rw[seqIndex_of n C]at c;exact ZS c
  exact item_listR k.isList n (by omega) (by rw[g];simpa using m) fin o
 ·have g:(i + (d.toArray.size:Int)).toNat=j:=by
   rw[seqIndex_neg (by omega) D]at c;rw[v7,<-J];exact ZS c
  exact subscriptTail_builtinR (x:=w) k.isList.typeIs slot_list_getitem.lookup
   (wpAny_getItem_list_neg (Q:=λr K=>r=w/\EP X pins σ Q r K) k.isList (by omega) (by rw[v7]<;>omega) (by omega) (by rw[g];simpa using m) ⟨rfl,fin⟩) o
theorem FO:IxR X (Ih X.K):=by
 intro c e pins s σ H x y v u Q I o A h D;obtain⟨p,L,i,z,rfl,rfl,g,B,q⟩:=h;cases o;obtain⟨t,rfl⟩:=A;obtain⟨m,r,f,G⟩:=I.tuple g;obtain⟨j,n,k,M,J,F⟩:=sW B;obtain⟨w,l,d⟩:=r.get k;have C:=r.length;have K:=mh;have fin:EP X pins σ Q w s:=⟨z,H,I,d,q⟩;exact subscriptTail_builtinR (x:=w) f.typeIs slot_tuple_getitem.lookup
  (getItem_tuple (j:=j) (Q:=λr E=>r=w/\EP X pins σ Q r E) f (by omega) (by omega) (by rw[v7,<-C];exact n) (by simpa using l) ⟨rfl,fin⟩) D
theorem BA:IxR X Ii:=by
 intro d e pins s σ H x y v u Q I m n h r;obtain⟨z,i,c,rfl,rfl,B,o,q⟩:=h;obtain⟨t,rfl⟩:=m;obtain⟨D,rfl⟩:=n;obtain⟨j,f,g,E,l,k⟩:=sW o;have p:z.cps.toList.length=z.length:=by simp[Str.length]
 rw[p]at f l k;have C:=mh;exact tail_any (VJ s z t) slot_str_getitem.lookup (getItem_str (c:=c) (by
  have w:decide (i < -(2 ^ 63:Int))=false:=y0 (by omega);have A:decide (i ≥ 2 ^ 63)=false:=y0 (by omega);rw[w,A,Bool.or_false]) (by rw[f];simpa using g) ⟨.str ⟨#[c]⟩,H,I.tok _,⟨_,rfl⟩,q⟩) r
def rIx (K:ZW):R2:=λx y H Q=>Ig K x y H Q\/Ih K x y H Q\/Ii x y H Q
theorem FP:IxR X (rIx X.K):=yU.or (FO.or BA)
theorem xE (c:List T0) (n j:Nat) (u:T0):Obj.mapSeq (·.setIfInBounds j u) { cls:=.type "list",data:=.seq c.toArray n } = { cls:=.type "list",data:=.seq (c.set j u).toArray n }:=by
 simp[Obj.mapSeq]
theorem Inv.lst {pins:List (Addr × Obj)}{σ:St}{H:Hp}{s:T1}{p:Addr}{xs:List V}(I:Inv X pins σ H s)(h:H p=some (.lst xs)) :
  ∃(c:List T0) (n:Nat),aY xs c/\s.heap.get? p=some { cls:=.type "list",data:=.seq c.toArray n }/\xs.length<=sizeLine:=by
 obtain⟨z,c,n,r,e⟩:=I.hok p _ h;exact⟨c,n,r,e,z⟩
theorem Inv.lstUpd {pins:List (Addr × Obj)}{σ:St}{H:Hp}{s:T1}{p:Addr}{xs ys:List V}{c its':List T0}{n d:Nat}{f:Obj->Obj}(I:Inv X pins σ H s)(h:H p=some (.lst xs))
  (i:s.heap.get? p=some { cls:=.type "list",data:=.seq c.toArray n }) (g:f { cls:=.type "list",data:=.seq c.toArray n } = { cls:=.type "list",data:=.seq its'.toArray d }) (r:aY ys its') (j:ys.length<=sizeLine) (t:Nat) :
  Inv X pins σ (upd H p (.lst ys)) { s with heap:=s.heap.update p f,toks:=t }:=by
 have e:(s.heap.update p f).get? p=some { cls:=.type "list",data:=.seq its'.toArray d }:=by
  rw[Heap.get?_update_self f i (by rw[g]<;>rfl),g]
 refine I.write (x:=p) (e:=p) (by rw[h];trivial) (.inl rfl) (λb u k q=>(Heap.get?_update_other _ _ (YV k)).trans q) ⟨_,e⟩ ?_;exact⟨j,its',d,r,e⟩
def E6:V->V->V->Hp->(Hp->Prop)->Prop:=λo i v H Q=>∃p xs k j,o=.ref p/\i=.int k/\H p=some (.lst xs)/\ixN xs.length k=some j/\Q (upd H p (.lst (xs.set j v)))
theorem oN:FC X E6:=by
 intro pins s σ H o i v ov J u Q I z C A h;obtain⟨p,D,k,j,rfl,rfl,y,E,q⟩:=h;cases z;obtain⟨t,rfl⟩:=C;obtain⟨c,n,r,e,B⟩:=I.lst y;obtain⟨d,F,w,l⟩:=yT E;have f:=r.length;have G:=mh;have x:Inv X pins σ (upd H p (.lst (D.set j v))) { s with heap:=s.heap.update p (Obj.mapSeq (·.setIfInBounds j u)) } :=
  I.lstUpd y e (xE c n j u) (r.set A j) (by rw[YD];exact B) s.toks
 by_cases m:0<=k
 ·have g:k.toNat=j:=by
   rw[seqIndex_of m l]at d;exact ZS d
  exact PySem.W.ki_setAt e m (by omega) (by rw[v7,<-f];exact l) (by rw[g];exact⟨_,x,q⟩)
 ·have g:(k + (c.toArray.size:Int)).toNat=j:=by
   rw[seqIndex_neg (by omega) w]at d;rw[v7,<-f];exact ZS d
  exact PySem.W.ki_setBack e (by omega) (by rw[v7,<-f];exact w) (by omega) (by rw[g];exact⟨_,x,q⟩)
theorem sX (lo hi:Option Int)(n:Nat):(sliceBounds lo hi none n).1=((HT.sIx n 0 lo:Nat):Int)/\(sliceBounds lo hi none n).2.1=((HT.sIx n n hi:Nat):Int)/\(sliceBounds lo hi none n).2.2=1:=by
 refine⟨?_,?_,rfl⟩
 ·cases lo with
  | none=>simp[sliceBounds,HT.sIx]
  | some i =>
   simp only[sliceBounds,HT.sIx,Option.getD_none,show (1:Int) > 0 by decide,Y7]
   by_cases h:i < 0
   ·simp only[h,Y7]<;>omega
   ·simp only[h,WB]<;>omega
 ·cases hi with
  | none=>simp[sliceBounds,HT.sIx]
  | some i =>
   simp only[sliceBounds,HT.sIx,Option.getD_none,show (1:Int) > 0 by decide,Y7]
   by_cases h:i < 0
   ·simp only[h,Y7]<;>omega
   ·simp only[h,WB]<;>omega
theorem qx (c:List T0)(lo hi:Option Int):slicePick c.toArray lo hi none=((c.drop (HT.sIx c.length 0 lo)).take (HT.sIx c.length c.length hi - HT.sIx c.length 0 lo)).toArray:=by
 obtain⟨f,e,d⟩:=sX lo hi c.toArray.size;unfold slicePick;rw[f,e,d];simp only[sliceRange_one,pick_run,v7]<;>rfl
def Ij (K:ZW):V->Option Int->Option Int->Hp->VK->Prop:=λx lo hi H Q=>∃a xs,x=.ref a/\SqL K H a xs/\∀p,H p=none->Q (.ref p) (upd H p (.lst (mi xs lo hi)))
theorem DT:SlR X (Ij X.K):=by
 intro pins s σ H x v t w e f u Q I k n m l h;obtain⟨a,c,rfl,p,q⟩:=h;cases k;obtain⟨j,r,g,i⟩:=I.list p;have d:=r.length;refine⟨"list",_,slot_list_getitem.lookup,g.isList.typeIs,?_⟩;refine wpAny_getItem_list_slice g.isList n m l .none (by simp) ?_ (by rw[v7]<;>omega);rw[qx,<-d];refine⟨.ref s.heap.objs.size,_,I.laid (t':=s.toks) (o:=.lst (mi c e f)) (λb y q=>ZG _ q) (ZK _) ?_,rfl,q _ (I.hok.fresh (ZK _))⟩;exact⟨ZL (m9 c e f) i,_,0,(r.drop (HT.sIx c.length 0 e)).take (HT.sIx c.length c.length f - HT.sIx c.length 0 e),ZI _ rfl⟩
def ii:V->Bool
 | .non=>true
 | .bl _=>true
 | .int _=>true
 | .str _=>true
 | _=>false
def eqV:V->V->Bool
 | .non,.non=>true
 | .bl a,.bl b=>a == b
 | .bl a,.int b=>(if a then 1 else 0) == b
 | .int a,.bl b=>a == (if b then 1 else 0)
 | .int a,.int b=>a == b
 | .str a,.str b=>a == b
 | _,_=>false
theorem FQ {A:T2}{s:T1}{y x:V}{u v:T0}(e:bF y u)(c:bF x v)(g:ii y=true)(f:ii x=true):SeqAt.EqAt A s u v (eqV y x):=by
 cases y with
 | non =>
  cases e;cases x with
  | non=>cases c;exact SeqAt.EqAt.same _
  | bl b=>cases c;exact SeqAt.EqAt.none_bool b
  | int b=>obtain⟨t,rfl⟩:=c;exact SeqAt.EqAt.none_int b t
  | str b=>obtain⟨t,rfl⟩:=c;exact SeqAt.EqAt.none_str b t
  | _=>exact absurd (show false=true from f) wV
 | bl a =>
  cases e;cases x with
  | non=>cases c;exact SeqAt.EqAt.bool_none a
  | bl b=>cases c;exact SeqAt.EqAt.bool_bool a b
  | int b=>obtain⟨t,rfl⟩:=c;exact SeqAt.EqAt.bool_int a b t
  | str b=>obtain⟨t,rfl⟩:=c;exact SeqAt.EqAt.bool_str a b t
  | _=>exact absurd (show false=true from f) wV
 | int a =>
  obtain⟨d,rfl⟩:=e;cases x with
  | non=>cases c;exact SeqAt.EqAt.int_none a d
  | bl b=>cases c;exact SeqAt.EqAt.int_bool a d b
  | int b=>obtain⟨t,rfl⟩:=c;exact VH a d b t
  | str b=>obtain⟨t,rfl⟩:=c;exact SeqAt.EqAt.int_str a d b t
  | _=>exact absurd (show false=true from f) wV
 | str a =>
  obtain⟨d,rfl⟩:=e;cases x with
  | non=>cases c;exact SeqAt.EqAt.str_none a d
  | bl b=>cases c;exact SeqAt.EqAt.str_bool a d b
  | int b=>obtain⟨t,rfl⟩:=c;exact SeqAt.EqAt.str_int a d b t
  | str b=>obtain⟨t,rfl⟩:=c;exact SeqAt.EqAt.str_str a d b t
  | _=>exact absurd (show false=true from f) wV
 | _=>exact absurd (show false=true from g) wV
def eqU (x:V) (u:T0):Bool:=match u with
 | .none=>eqV .non x
 | .bool b=>eqV (.bl b) x
 | .int i _=>eqV (.int i) x
 | .str z _=>eqV (.str z) x
 | _=>false
theorem xF {x y:V}{u:T0}(r:bF y u)(f:ii y=true):eqU x u=eqV y x:=by
 cases y with
 | non=>cases r;rfl
 | bl b=>cases r;rfl
 | int i=>obtain⟨t,rfl⟩:=r;rfl
 | str z=>obtain⟨t,rfl⟩:=r;rfl
 | _=>exact absurd (show false=true from f) wV
theorem kT {x:V}:∀{xs:List V} {us:List T0},aY xs us->xs.all ii=true->us.any (eqU x)=xs.any λy=>eqV y x
 | _,_,.nil,_=>rfl
 | y :: xs,u :: us,.cons r t,f=>by
  rw[Y6,Z4]at f;rw[WQ,WQ,xF r f.1,kT t f.2]
theorem ij {A:T2}{s:T1}{x:V}{v:T0}(e:bF x v)(d:ii x=true):∀{xs:List V} {us:List T0},aY xs us->xs.all ii=true->∀u∈us,SeqAt.EqAt A s u v (eqU x u)
 | _,_,.nil,_=>λu c=>by cases c
 | y :: xs,u :: us,.cons r t,f=>λg c=>by
  rw[Y6,Z4]at f;rcases wU.mp c with rfl|c
  ·rw[xF r f.1];exact FQ r e f.1 d
  ·exact ij e d t f.2 g c
def inV (x:V) (xs:List V):Bool:=xs.any λy=>eqV y x
def rIn (K:ZW) (neg:Bool):R2:=λx y H Q=>∃p xs,y=.ref p/\(SqL K H p xs\/SqT K H p xs)/\ii x=true/\xs.all ii=true/\Q (.bl (if neg then !inV x xs else inV x xs)) H
theorem Ad:OpR X (compareOp .In) (rIn X.K false):=by
 intro pins s σ H x y v u Q I i l h;obtain⟨p,m,rfl,d,j,e,q⟩:=h;cases l;rcases d with d|d
 ·obtain⟨c,r,g,k⟩:=I.list d
  refine SeqAt.in_listAt (eqU x) g.isList (λw f=>ij i j r e w (by simpa using f)) ⟨.bl _,H,I,rfl,?_⟩;rw[show c.toArray.any (eqU x)=c.any (eqU x) by simp,kT r e];exact q
 ·obtain⟨c,r,g,k⟩:=I.tuple d
  refine SeqAt.in_tupleAt (eqU x) g (λw f=>ij i j r e w (by simpa using f)) ⟨.bl _,H,I,rfl,?_⟩;rw[show c.toArray.any (eqU x)=c.any (eqU x) by simp,kT r e];exact q
theorem sY:OpR X (compareOp .NotIn) (rIn X.K true):=by
 intro pins s σ H x y v u Q I i l h;obtain⟨p,m,rfl,d,j,e,q⟩:=h;cases l;rcases d with d|d
 ·obtain⟨c,r,g,k⟩:=I.list d
  refine SeqAt.notIn_listAt (eqU x) g.isList (λw f=>ij i j r e w (by simpa using f)) ⟨.bl _,H,I,rfl,?_⟩;rw[show c.toArray.any (eqU x)=c.any (eqU x) by simp,kT r e];exact q
 ·obtain⟨c,r,g,k⟩:=I.tuple d
  refine SeqAt.notIn_tupleAt (eqU x) g (λw f=>ij i j r e w (by simpa using f)) ⟨.bl _,H,I,rfl,?_⟩;rw[show c.toArray.any (eqU x)=c.any (eqU x) by simp,kT r e];exact q
theorem sZ:fg X (.builtin "len") (λxs H Q=>∃p ys,xs=[.ref p]/\(SqL X.K H p ys\/SqT X.K H p ys)/\Q (.int ys.length) H):=by
 intro pins s σ H xs l Q I r h;obtain⟨p,ys,rfl,d,q⟩:=h;obtain⟨u,rfl,j⟩:=vz r;cases j;have k:=mh;rcases d with d|d
 ·obtain⟨f,g,e,i⟩:=I.list d
  have c:=g.length;exact Calls.call_len_list e.isList (by simp only[v7]<;>omega) ⟨.int ys.length,H,I.tok _,⟨s.toks + 1,by rw[v7,c]⟩,q⟩
 ·obtain⟨f,g,e,i⟩:=I.tuple d
  have c:=g.length;exact len_tuple e (by simp only[v7]<;>omega) ⟨.int ys.length,H,I.tok _,⟨s.toks + 1,by rw[v7,c]⟩,q⟩
theorem tm:fg X (.builtin "len") (λxs H Q=>∃z,xs=[.str z]/\z.length<=sizeLine/\Q (.int z.length) H):=by
 intro pins s σ H xs e Q I r h;obtain⟨z,rfl,c,q⟩:=h;obtain⟨u,rfl,t,rfl⟩:=vz r;have d:=mh;exact len_str (by omega) ⟨.int z.length,H,I.tok _,⟨_,rfl⟩,q⟩
theorem tq:fg X (.type "list") (λxs H Q=>∃p ys,xs=[.ref p]/\(SqL X.K H p ys\/SqT X.K H p ys)/\∀l,H l=none->Q (.ref l) (upd H l (.lst ys))):=by
 intro pins s σ H xs A Q I r h;obtain⟨p,ys,rfl,i,q⟩:=h;obtain⟨u,rfl,z⟩:=vz r;cases z;have fin:∀(c:List T0),aY ys c->ys.length<=sizeLine->∀(d:Heap) (g:Nat),(∀b y,s.heap.get? b=some y->d.get? b=some y)->
   d.get? s.heap.objs.size=some { cls:=.type "list",dict:=none,data:=.seq c.toArray g,slots := #[] }->EP X pins σ Q (.ref s.heap.objs.size) { s with heap:=d }:=λc f j d g m e =>
  ⟨.ref s.heap.objs.size,_,I.laid (t':=s.toks) m (ZK _) (show dk X.prog X.w _ d _ (.lst ys) from ⟨j,c,g,f,e⟩),rfl,q _ (I.hok.fresh (ZK _))⟩
 rcases i with i|i
 ·obtain⟨c,f,w,j⟩:=I.list i
  have k:=f.length;obtain⟨o,v,t,n,x⟩:=w.isList;exact call_list_seq p (.inl rfl) v t x (λd g m e=>fin c f j d g m e) (by simp only[v7]<;>omega)
 ·obtain⟨c,f,w,j⟩:=I.tuple i
  have k:=f.length;obtain⟨o,v,t,n,x⟩:=w;exact call_list_seq p (.inr rfl) v t x (λd g m e=>fin c f j d g m e) (by simp only[v7]<;>omega)
theorem qy:fg X (.type "tuple") (λxs H Q=>∃p ys,xs=[.ref p]/\((SqL X.K H p ys/\∀l,H l=none->Q (.ref l) (upd H l (.tup ys)))\/(SqT X.K H p ys/\Q (.ref p) H))):=by
 intro pins s σ H xs w Q I r h;obtain⟨p,ys,rfl,h⟩:=h;obtain⟨u,rfl,n⟩:=vz r;cases n;rcases h with ⟨f,q⟩|⟨f,q⟩
 ·obtain⟨c,i,g,j⟩:=I.list f
  have m:=i.length;refine call_tuple_list g.isList (λd t => ?_) (by simp only[v7]<;>omega);have k:Inv X pins σ H { s with heap:=d }:=I.kept (t':=s.toks) t;have v:Inv X pins σ (upd H d.objs.size (.tup ys)) { s with heap:=d.push { cls:=.type "tuple",data:=.seq c.toArray } } :=
   k.laid (t':=s.toks) (λb o e=>ZG _ e) (ZK _) (show dk X.prog X.w _ _ _ (.tup ys) from ⟨j,c,i,IsTup.new _ _⟩)
  exact⟨.ref d.objs.size,_,v,rfl,q _ (k.hok.fresh (ZK _))⟩
 ·obtain⟨c,i,g,j⟩:=I.tuple f
  exact call_tuple_same g ⟨.ref p,H,I,rfl,q⟩
def tyV (K:ZW) (T:String) (x:V) (H:Hp):Prop:=match x with
 | .str _=>T = "str"
 | .int _=>T = "int"
 | .ref p=>(T = "list"/\∃xs,SqL K H p xs)\/(T = "tuple"/\∃o,K.lookup p=some o/\o.cls=.type "tuple"/\o.dict=none)\/
   (T = "dict"/\((∃kvs,H p=some (.dK kvs))\/∃kvs,H p=some (.dT kvs)))\/(T = "set"/\∃S n,H p=some (.set S n))
 | _=>False
theorem FR {pins:List (Addr × Obj)}{σ:St}{H:Hp}{s:T1}{T:String}{x:V}{v:T0}(I:Inv X pins σ H s)(r:bF x v)(g:tyV X.K T x H) :
  s.TypeIs v T/\∀a,v=.ref a->∃ob,s.heap.get? a=some ob/\ob.dict=none:=by
 cases x with
 | str z =>
  obtain⟨t,rfl⟩:=r;cases (show T = "str" from g);exact⟨VJ s z t,λ_ e=>nomatch e⟩
 | int i =>
  obtain⟨t,rfl⟩:=r;cases (show T = "int" from g);exact⟨typeIs_int s i t,λ_ e=>nomatch e⟩
 | ref p =>
  cases r;rcases g with ⟨rfl,u,l⟩|⟨rfl,o,d,q,h⟩|⟨rfl,d⟩|⟨rfl,S,n,d⟩
  ·obtain⟨m,_,k,_⟩:=I.list l
   refine⟨k.isList.typeIs,λa e => ?_⟩;cases e;obtain⟨o,n,e,c,h,_⟩:=k;exact⟨o,e,h⟩
  ·refine⟨⟨o,I.kIn p o d,q⟩,λa e => ?_⟩
   cases e;exact⟨o,I.kIn _ o d,h⟩
  ·have z:∃o,s.heap.get? p=some o/\o.ExactDict:=by
    rcases d with ⟨kvs,d⟩|⟨kvs,d⟩
    ·obtain⟨_,_,_,_,o,_,_,e,f,_⟩:=I.hok p _ d
     exact⟨o,e,f⟩
    ·obtain⟨_,_,_,_,o,_,_,e,f,_⟩:=I.hok p _ d
     exact⟨o,e,f⟩
   obtain⟨o,e,f⟩:=z;refine⟨⟨o,e,f.1⟩,λa j => ?_⟩;cases j;exact⟨o,e,f.2.1⟩
  ·obtain⟨o,_,_,_,e,f,_⟩:=I.hok p _ d
   refine⟨⟨o,e,f.1⟩,λa j => ?_⟩;cases j;exact⟨o,e,f.2.1⟩
 | _=>exact False.elim g
def tBM (K:ZW) (T:String) (r:V->List V->Hp->VK->Prop) (to:TE) (t:TA):TE:=λσ H Q=>to σ H λx H1=>tyV K T x H1/\t σ H1 λxs H2=>r x xs H2 Q
variable {o e:Expr} {es:List Expr} {to:TE} {t:TA} {name:Str} {apos cpos:Pos} {T id:String} {r:V->List V->Hp->VK->Prop}
theorem oO (q:PlainAttrs T) (slot:Slot T name id) (i:typeOf (.builtin id)=pure (.type "method_descriptor")) (K:MtR X id r) (B:PE X o to) (w:PA X (e :: es) t)
  (d:attributeBase o name X.env (eval o X.env)=eval o X.env:=by rfl)
  (g:((backTo cpos (starEach (e :: es) X.env)).all (λx => !x.1) && (backToKw cpos (keywordEach [] X.env)).all (λx=>x.1.isSome)
   && decide ((e :: es).length + ([] : List Keyword).length + (if ([] : List Keyword).isEmpty then 0 else 1) < 30))=true:=by rfl)
  (f:(apos.endLine == cpos.line)=true:=by rfl) (E:starEach (e :: es) X.env=(false,eval e X.env) :: starEach es X.env:=by rfl) (c:(backTo cpos (starEach es X.env)).any (·.1)=false:=by rfl) :
  PE X (.Call (.Attribute o name apos) (e :: es) [] cpos) (tBM X.K T r to t):=by
 intro pins s σ H Q I h;refine wpAny_Call_method_late d g f rfl (thn (B pins s σ H _ I h) λv D ⟨x,J,j,k,u,m⟩ => ?_);obtain⟨z,p⟩:=FR j k u;refine⟨T,id,q,slot,i,z,p,?_⟩;have l:=w cpos pins D σ J _ j m;rw[E]at l ⊢;refine Calls.callWith_builtin (by show (false || (backTo cpos (starEach es X.env)).any (·.1))=false;rw[c]<;>rfl) (Calls.evalArgs_plain ?_);exact thn l λA y ⟨L,n,G,F,C⟩=>K pins y σ n x L v A Q G k F C
end
def MtM (X:Cx) (id:String) (r:V->List V->Hp->VK->Prop):Prop :=
 ∀(pins:List (Addr × Obj)) (s:T1) (σ:St) (H:Hp) (x:V) (xs:List V) (v:T0) (us:List T0) (Q:VK),Inv X pins σ H s->bF x v->aY xs us->r x xs H Q->
  wpAny (model X.prog X.w) X.A (call (.builtin id) (v :: us)) (EP X pins σ Q) X.xe s
theorem aY.one {x:V}{us:List T0}(h:aY [x] us):∃u,us=[u]/\bF x u:=by
 cases h with
 | cons r t=>cases t;exact⟨_,rfl,r⟩
theorem aY.two {x y:V}{us:List T0}(h:aY [x,y] us):∃u v,us=[u,v]/\bF x u/\bF y v:=by
 cases h with
 | cons r t =>
  cases t with
  | cons q t=>cases t;exact⟨_,_,rfl,r,q⟩
theorem aY.rep {xs:List V}{us:List T0}(h:aY xs us):∀k:Nat,aY (List.replicate k xs).flatten (List.replicate k us).flatten
 | 0=>.nil
 | k + 1=>by
  rw[YJ,YJ,XO,XO];exact aY.append h (aY.rep h k)
theorem ik (a:List T0):∀(k:Nat) (acc:List T0),
  List.foldl (λd b=>d++b) acc.toArray (List.replicate k a.toArray)=(acc++(List.replicate k a).flatten).toArray
 | 0,acc=>by simp
 | k + 1,acc=>by
  have e:acc.toArray++a.toArray=(acc++a).toArray:=by simp
  have c:(acc++a)++(List.replicate k a).flatten=acc++(List.replicate (k + 1) a).flatten:=by
   rw[YJ,XO,ZT]
  rw[<-c,<-ik a k (acc++a),<-e,YJ,List.foldl_cons]
section
variable {X:Cx} {pins:List (Addr × Obj)} {σ:St} {H:Hp} {s:T1} {l b:Addr} {xs ys zs:List V}
theorem Inv.lset {a its':List T0}{n:Nat}{f:Array T0->Array T0}{t':Nat}(I:Inv X pins σ H s)(i:H l=some (.lst xs))
  (e:s.heap.get? l=some { cls:=.type "list",data:=.seq a.toArray n }) (g:f a.toArray=its'.toArray) (j:aY ys its') (c:ys.length<=sizeLine) :
  Inv X pins σ (upd H l (.lst ys)) { s with heap:=s.heap.update l (Obj.mapSeq f),toks:=t' }:=by
 have q:=PySem.IsL.update e f;rw[g]at q;refine I.write (x:=l) (e:=l) (by rw[i];exact trivial) (.inl rfl) (λk u h d=>(Heap.get?_update_other s.heap (Obj.mapSeq f) (YV h)).trans d) ⟨_,q⟩ ?_;exact⟨c,its',_,j,q⟩
theorem Inv.lnew {a:List T0}{t':Nat}(I:Inv X pins σ H s)(d:aY ys a)(c:ys.length<=sizeLine) :
  Inv X pins σ (upd H s.heap.objs.size (.lst ys)) { s with heap:=s.heap.push { cls:=.type "list",data:=.seq a.toArray },toks:=t' } :=
 I.laid (λ_ _ q=>ZG _ q) (ZK _) ⟨c,a,0,d,ZI _ rfl⟩
theorem Inv.fresh (I:Inv X pins σ H s):H s.heap.objs.size=none:=I.hok.fresh (ZK _)
theorem Inv.lstM (I:Inv X pins σ H s) (c:H l=some (.lst xs)):xs.length<=sizeLine/\∃(a:List T0) (n:Nat),aY xs a/\xs.length=a.length/\s.heap.get? l=some { cls:=.type "list",data:=.seq a.toArray n }:=by
 obtain⟨z,a,n,r,e⟩:=I.hok l _ c;exact⟨z,a,n,r,r.length,e⟩
theorem vC {n:Nat}(h:n<=sizeLine):Builtin.List.listTooLong n=false:=by
 unfold Builtin.List.listTooLong;exact y0 (by omega)
end
section
variable {X:Cx}
def DU:V->List V->Hp->VK->Prop:=λx vs H Q=>∃l xs y,x=.ref l/\vs=[y]/\H l=some (.lst xs)/\xs.length < sizeLine/\Q .non (upd H l (.lst (xs++[y])))
theorem rH:MtM X "list.append" DU:=by
 intro pins s σ H x m v k Q I f c h;obtain⟨l,g,y,rfl,rfl,b,i,q⟩:=h;cases f;obtain⟨u,rfl,d⟩:=c.one;obtain⟨z,a,n,r,j,e⟩:=I.lstM b;refine WX F.slot_list_append ⟨_,e,rfl⟩ F.entry_list_append (F.args_list_append_2 _ _) (PySem.list_append l a.toArray n u (by rw[v7];omega)) ⟨e,?_⟩;refine⟨.non,_,I.lset (its':=a++[u]) b e (by simp) (r.append (.cons d .nil)) ?_,rfl,q⟩;rw[ZB,YQ];omega
def DV:V->List V->Hp->VK->Prop:=λx vs H Q=>∃l b xs zs,x=.ref l/\vs=[.ref b]/\H l=some (.lst xs)/\H b=some (.lst zs)/\xs.length + zs.length<=sizeLine/\Q .non (upd H l (.lst (xs++zs)))
theorem Ae:MtM X "list.extend" DV:=by
 intro pins s σ H x G v C Q I m i h;obtain⟨l,b,D,y,rfl,rfl,g,p,A,q⟩:=h;cases m;obtain⟨u,rfl,k⟩:=i.one;cases k;obtain⟨z,c,n,r,E,e⟩:=I.lstM g;obtain⟨B,a,o,t,j,w⟩:=I.lstM p;have f:c.toArray.size + a.toArray.size<=sizeLine:=by rw[v7,v7];omega
 have d : ¬(!c.toArray.isEmpty && Builtin.List.listTooLong (c.toArray.size + a.toArray.size))=true:=by
  rw[vC f,Bool.and_false];exact wV
 refine WX F.slot_list_extend ⟨_,e,rfl⟩ F.entry_list_extend (F.args_list_extend_2 _ _)
  (AutoSeq1.list_extend_list_list_0 l c.toArray n b a.toArray o d (by rw[v7];omega) (by omega)) ⟨e,w,?_⟩
 refine⟨.non,_,I.lset (its':=c++a) g e (by simp) (r.append t) ?_,rfl,q⟩;rw[ZB];omega
def JD:R2:=λx y H Q=>∃l b xs zs,x=.ref l/\y=.ref b/\H l=some (.lst xs)/\H b=some (.lst zs)/\xs.length + zs.length<=sizeLine/\∀p,H p=none->Q (.ref p) (upd H p (.lst (xs++zs)))
theorem FS:OpR X (binaryOp .Add) JD:=by
 intro pins s σ H x y v u Q I f g h;obtain⟨l,b,A,p,rfl,rfl,i,k,t,q⟩:=h;cases f;cases g;obtain⟨z,c,n,r,C,e⟩:=I.lstM i;obtain⟨w,a,B,m,d,o⟩:=I.lstM k;refine PySem.P.add_list e o ?_ (by rw[v7,v7];omega);have j:c.toArray++a.toArray=(c++a).toArray:=by simp
 rw[j];exact⟨.ref _,_,I.lnew (t':=s.toks) (r.append m) (by rw[ZB];omega),rfl,q _ I.fresh⟩
def JE:R2:=λx y H Q=>∃l k xs,x=.ref l/\y=.int k/\H l=some (.lst xs)/\-(2 ^ 63)<=k/\k < 2 ^ 63/\xs.length * k.toNat<=sizeLine/\
 ∀p,H p=none->Q (.ref p) (upd H p (.lst (List.replicate k.toNat xs).flatten))
theorem DW {α : Type}(xs:List α)(k:Nat):(List.replicate k xs).flatten.length=k * xs.length:=by
 induction k with
 | zero=>simp
 | succ k a=>rw[YJ,XO,ZB,a,Nat.succ_mul,Nat.add_comm]
theorem FT:OpR X (binaryOp .Mult) JE:=by
 intro pins s σ H x y v u Q I C D h;obtain⟨l,k,K,rfl,rfl,E,B,w,p,q⟩:=h;cases C;obtain⟨t,rfl⟩:=D;obtain⟨z,b,n,r,G,e⟩:=I.lstM E;have f:b.toArray.size * k.toNat<=sizeLine:=by rw[v7,<-G];exact p
 have i : ¬b.toArray.size * k.toNat > (2 ^ 63 - 1) / 8:=by
  have:(sizeLine:Nat)<=(2 ^ 63 - 1) / 8:=by decide
  omega
 have d : ¬(!Builtin.List.listFitsIndex k)=true:=by
  rw[fitsIndex_both B w];exact wV
 have c : ¬Builtin.List.listTooLong (b.toArray.size * k.toNat)=true:=by
  rw[vC f];exact wV
 have g:List.foldl (λj o=>j++o) #[] (List.replicate (if b.toArray.isEmpty=true then 0 else k.toNat) b.toArray)=(List.replicate k.toNat b).flatten.toArray:=by
  have A:∀m:Nat,List.foldl (λj o=>j++o) #[] (List.replicate m b.toArray)=(List.replicate m b).flatten.toArray:=λm=>by
   have:=ik b m [];rw[WN]at this;exact this
  rw[A];cases b with
  | nil=>simp
  | cons a L=>rw[wR (by simp)]
 refine wpAny_binaryOp_repeat_ref (T := "list") (U := "int") (by decide) ⟨_,e,rfl⟩ (λJ=>typeIs_int J k t) noFill_list_mul F.fills_int_mul F.slot_int_rmul repeat_list F.slot_int_index.lookup
  (WX F.slot_int_rmul (typeIs_int s k t) F.entry_int_rmul (F.args_int_rmul_2 _ _) (int___rmul___int_list k t l b.toArray n)
   ⟨e,rfl,⟨_,e,rfl⟩,WX F.slot_list_mul ⟨_,e,rfl⟩ F.entry_list_mul (F.args_list_mul_2 _ _) (AutoListH.list___mul___list_int_3 l b.toArray n k t d i c) ⟨e,?_⟩⟩)
 rw[g];exact⟨.ref _,_,I.lnew (t':=s.toks) (r.rep k.toNat) (by rw[DW,Nat.mul_comm];exact p),rfl,q _ I.fresh⟩
end
section
variable {prog:T3} {w:T4} {A:T2} {E:T0->T1->Prop} {s:T1}
end
section
variable {X:Cx}
end
end L2
namespace Att
open PySem PySem.W PySem.Calls PyProof.Rows
theorem nK {P:Params}{h:Heap}:∀(ns:List Int) (vs:List T0),WellAll P h vs (ns.map WData.int)->IntsAre vs ns:=by
 intro ns
 induction ns with
 | nil =>
  intro vs w;rw[Y8]at w;cases w;exact .nil
 | cons n ns c =>
  intro vs w;rw[ZZ]at w;cases w with
  | cons a b =>
   cases a;exact .cons _ _ (c _ b)
theorem Af {l:OpenLaw}{n:Nat}(s:l.most=some n){P:Params}{h:Heap}{args:List WData}{c:List T0}
  (b:l.row.toRowW.claim.pre args=true) (j:WellAll P h c args) :
  ∃a vs ns,c=[Value.ref a]/\args=[WData.list (ns.map WData.int)]/\h.get? a=some { cls:=.type "list",data:=.seq vs.toArray }/\IntsAre vs ns/\ns.length<=n:=by
 have i:WShape.hasAll [] args [.list .int] = true:=(pre_splitW b).1;have k:l.pre.holds [] { args:=args } = true:=(pre_splitW b).2;obtain⟨d,r,rfl,t,m⟩:=hasAllW_cons i;obtain rfl:=hasAllW_nil m;obtain⟨x,rfl,v⟩:=hasW_list t;obtain⟨ns,rfl⟩:=items_int v;have e:ns.length<=n:=by
  unfold OpenLaw.pre at k;have g:(WTm.not (.lt (.lit (.int (n:Int))) (.len (.arg 0)))).holds [] { args:=[.list (ns.map .int)] } = true:=by
   have g:=(holds_andW k).1;rw[s]at g;exact g
  have f:=condW_of g (w_not (w_lt w_lit (w_len_list (w_arg rfl))));rw[ZA]at f;refine W4 λq => ?_;have w:(n:Int) < ((ns.length:Nat):Int):=by omega
  first
   | (rw[x8 w]at f;exact absurd f (by decide))
   | (simp at f;omega)
 cases j with
 | cons p o =>
  cases o;cases p with
  | list u hall=>exact⟨_,_,ns,rfl,rfl,u,nK ns _ hall,e⟩
theorem Ag (l:OpenLaw)(args:List WData):l.row.toRowW.claim.post args (.bool true) args=true :=
 postW_of (r:=l.row.toRowW) (X:=(true == true))
  (show WShape.has [] (.bool true) .bool=true by first|rfl|decide|simp[WShape.has,WShape.arms,WShape.armsAll])
  (show (WTm.eq .res (.lit (.bool true))).value [] { args:=args,res:=some (.bool true),after:=args } = some (.bool (true == true)) from w_eq_bool (w_res rfl) w_lit) rfl
theorem attach_call {l:OpenLaw}{n:Nat}{q:T3}{c:List Str}{XP:(Str->Option T0)->Heap->Prop}{x:T4->Heap->Prop}{d:DefRec}
  (F:l.most=some n) (s:d.params.defaults=[])
  (call:∀(w:T4) (s₀ b : T1) (mg u:Str->Option T0) (j:Addr) (o:Obj) (pm m g:T0) (a:Addr) (vs:List T0) (ns:List Int),
   Ground q c [] XP w s₀ mg u b.heap->x w b.heap->
   b.heap.get? j=some o->o.data=.func (docDef d.name d.params d.body d.scope pm m g)->b.heap.CodeRec m d.name->mg d.name=some (.ref j)->
   b.heap.get? a=some { cls:=.type "list",data:=.seq vs.toArray }->IntsAre vs ns->ns.length<=n->b.gens = #[]->
   codeAny (model l.prog w) callerA (.call (.ref j) ⟨[.ref a],[]⟩) (λr p=>r=.ok (.ret (.bool true))/\OldK b.heap p.heap/\p.os=b.os/\AllBare p.gens) b) :
  WalkO q c XP x l.row.toRowW d [] (λf vs=>PySem.call f vs):=by
 intro w s₀ b mg u G Y j o pm m g K kV H I t y hmg N z B P h A L v M;obtain rfl:K=.none:=Dflts.none y s;obtain rfl:kV=.none:=Dflts.noKw y;obtain⟨a,vs,ns,rfl,rfl,k,e,i⟩:=Af F h v;refine enter_call (WI (call w s₀ b mg u j o pm m g a vs ns G Y H (fd_plain I) t hmg k e i N) λr p C => ?_);obtain⟨rfl,D,J,E⟩:=C;exact⟨.inl ⟨.bool true,.bool true,[],rfl,λ_=>rfl,.bool true,Ag l _,λ_=>⟨List.Pairwise.nil,λ_ O=>(nomatch O)⟩⟩,D,J,E⟩
section
variable {prog:T3} {w:T4} {A:T2} {E:T0->T1->Prop} {s:T1} {K:Frag}
def noObjs (h:Heap):Heap:={ h with objs := #[] }
theorem noObjs_get (h:Heap)(b:Addr):(noObjs h).get? b=none:=by
 cases e:(noObjs h).get? b with
 | none=>rfl
 | some o=>exact absurd (ZH e) (Nat.not_lt_zero _)
def ledger (h:Heap) (L d:Addr):List (Addr × Obj):=(List.range h.objs.size).filterMap λa=>if a=L\/a=d then none else (h.get? a).map λo=>(a,o)
theorem mem_ledger {h:Heap}{L d a:Addr}{o:Obj}:(a,o)∈ledger h L d ↔ a≠L/\a≠d/\h.get? a=some o:=by
 unfold ledger;rw[Y9];constructor
 ·rintro⟨b,_,e⟩
  split at e
  ·cases e
  ·rename_i f
   obtain⟨k,c,i⟩:=YS.mp e;cases i;exact⟨λq=>f (.inl q),λq=>f (.inr q),c⟩
 ·rintro⟨j,g,c⟩
  refine⟨a,List.mem_range.mpr (ZH c),?_⟩;rw[wR (show ¬(a=L\/a=d) from λq=>q.elim j g),c]<;>rfl
theorem fr_all {h:Heap}{L:Addr}{m:Str->Option T0}(n:h.Ns L m):Fr (noObjs h) L h m :=
 ⟨n,λb o e=>(by rw[noObjs_get]at e;cases e),XZ _⟩
end
end Att
namespace L2
open PySem PySem.Spec PyProof.Rows
theorem rJ:∀{vs:List T0} {ns:List Int},IntsAre vs ns->aY (ns.map V.int) vs
 | _,_,.nil=>.nil
 | _,_,.cons n t h=>.cons ⟨t,rfl⟩ (rJ h)
def FU (H:Hp):Prop:=∀b,H b=none\/∃o xs,H b=some (.frz o (.lst xs))
theorem BB {P:T3}{w:T4}{K:ZW}{mg N:Str->Option T0}{CX:CXT}{k:Nat}{O a:Addr}{Y:FuncData}{x:Str}{sp:Sp}{c : T1}{vs:List T0}{ns:List Int}
  (KX:K.In c.heap) (C:c.heap.Ns mainGlobals mg) (g:c.heap.Ns builtinsNs N) (S:∀x:Str,x ≠ "__name__"->N x=bootBuiltins x) (t:c.heap.NoLimit) (hg:c.gens = #[])
  (I:c.heap.get? a=some { cls:=.type "list",data:=.seq vs.toArray }) (hi:IntsAre vs ns) (W:ns.length<=sizeLine) (hr:du k callerA)
  (F:∀base:Heap,K.In base->base.Ns mainGlobals mg->cM P w K mg base CX k O Y [x] sp) (p:∀(s:T1) (u:T0),BindsTo s Y ⟨[u],[]⟩ [(x,u)])
  (L:∀H:Hp,FU H->SqL K H a (ns.map V.int)->sp [.ref a] H (λv _=>v=.bl true) λ_ _ _=>False)
  (J:∀H e i,CX [] H c (λ_ _ _=>False) e i->False) :
  codeAny (model P w) callerA (.call (.ref O) ⟨[.ref a],[]⟩) (λr i=>r=.ok (.ret (.bool true))/\OldK c.heap i.heap/\i.os=c.os/\AllBare i.gens) c := by
 have U:=rJ hi;have B:=hi.length;have l:∀H:Hp,FU H->SqL K H a (ns.map V.int)->HOk P w H c.heap->(∀b,H b≠none->b=a)->(H a≠none->K.lookup a=none)->
   codeAny (model P w) callerA (.call (.ref O) ⟨[.ref a],[]⟩) (λr i=>r=.ok (.ret (.bool true))/\OldK c.heap i.heap/\i.os=c.os/\AllBare i.gens) c := by
  intro H T hS hok hA hK;have f:∀{b:Addr} {o:Obj},c.heap.get? b=some o->H b=none->(sQ c.heap H).get? b=some o:=λe n=>Bg e n;have M:∀{b:Addr} {o:Obj} {A:Array DictEntry} {y:Nat},c.heap.get? b=some o->o.data=.dict A y->H b=none:=λ{b o A y} e d=>by
   cases q:H b with
   | none=>rfl
   | some u =>
    have R:b=a:=hA b (by rw[q];simp);subst R;rw[I]at e;cases e;have d':Data.seq vs.toArray _=Data.dict A y:=d;cases d'
  have j:∀{b:Addr} {m:Str->Option T0},c.heap.Ns b m->(sQ c.heap H).Ns b m:=λ{b m} ⟨o,A,y,e,d,r⟩=>⟨o,A,y,f e (M e d),d,r⟩;have E:K.In (sQ c.heap H):=λb o e=>f (KX b o e) (by
   cases q:H b with
   | none=>rfl
   | some u =>
    have R:b=a:=hA b (by rw[q];simp);subst R;rw[hK (by rw[q];simp)]at e;cases e)
  have hM:Mod K mg (sQ c.heap H):=⟨E,j C,⟨N,j g,S⟩,let ⟨mc,h1,h2⟩:=t;⟨mc,j h1,h2⟩⟩;have e0:xB P w K mg (sQ c.heap H) callerA [] c H:=⟨rfl,hM,λb o e=>DH e,Nat.le_of_eq (zS _ _),trivial,λb g=>absurd (show b∈([] : List Addr) from g) (by simp),hok,.of_eq hg⟩;refine WI ((F _ E (j C)).run callerA [] c H ⟨[.ref a],[]⟩ [.ref a] [.ref a] _ _ hr e0 (p c (.ref a)) (.cons rfl .nil) (L H T hS)) λr i h => ?_;cases r with
  | error e=>exact(J H e i h).elim
  | ok fl =>
   cases fl with
   | next=>exact False.elim h
   | brk=>exact False.elim h
   | cont=>exact False.elim h
   | ret u =>
    obtain⟨v,H',os,bare,X,D,r',q⟩:=h;have q':v=.bl true:=q;subst q';obtain rfl:u=Value.bool true:=r';refine⟨rfl,OldK.of_keep λb o e => ?_,os,bare⟩;cases q:H b with
    | none=>exact X.keep b o e q (by intro z;exact absurd (show b∈([] : List Addr) from z) (by simp)) (by simp)
    | some u =>
     rcases T b with z|⟨ob,xs,z⟩
     ·rw[q]at z;cases z
     ·have z2:=X.frzs b ob _ z
      obtain⟨Z,_⟩:=hok b _ z;obtain⟨e2,_⟩:=D b _ z2;rw[e]at Z;cases Z;exact e2
 cases Q:K.lookup a with
 | some o =>
  have e:=KX a o Q;rw[I]at e;cases e;refine l (λ_=>none) (λ_=>.inl rfl) (.inr ⟨_,vs.toArray,_,Q,rfl,rfl,rfl,by rw[v7,B];exact W,by simpa using U⟩) (λb u z=>by have G:(none:Option HO)=some u:=z;cases G) (λb z=>absurd rfl z) λz=>absurd rfl z
 | none =>
  refine l (λb=>if b=a then some (.frz { cls:=.type "list",data:=.seq vs.toArray } (.lst (ns.map V.int))) else none) (λb => ?_) (.inl (.inr ⟨{ cls:=.type "list",data:=.seq vs.toArray },yD rfl⟩)) (λb u z => ?_) (λb z => ?_) λ_=>Q
  ·by_cases g:b=a
   ·exact .inr ⟨_,_,yD g⟩
   ·exact .inl (wR g)
  ·by_cases g:b=a
   ·have G:=(yD g).symm.trans z
    cases G;subst g;exact⟨I,by rw[ZA];exact W,vs,_,U,I⟩
   ·have G:=(wR g).symm.trans z
    cases G
  ·by_cases g:b=a
   ·exact g
   ·exact absurd (wR g) z
theorem DX {l:PySem.W.OpenLaw}{n k:Nat}{q:T3}{g:List Str}{XP:(Str->Option T0)->Heap->Prop}{C:T4->Heap->Prop}{d:DefRec}{K:Params->ZW}{CX:T4->CXT}{sp:T4->Sp}{x:Str}
  (L:l.most=some n) (y:n<=sizeLine) (p:d.params.defaults=[]) (P:du k callerA)
  (N:∀(w:T4) (h:Heap),C w h->(K w.params).In h)
  (F:∀(w:T4) (mg:Str->Option T0) (m:Addr) (h:Heap),(K w.params).In h->h.Ns mainGlobals mg->mg d.name=some (.ref m)->
   ∃z:FuncData,(∀(s:T1) (u:T0),BindsTo s z ⟨[u],[]⟩ [(x,u)])/\
    ∀base:Heap,(K w.params).In base->base.Ns mainGlobals mg->cM l.prog w (K w.params) mg base (CX w) k m z [x] (sp w))
  (t:∀(w:T4) (H:Hp) (a:Addr) (ns:List Int),ns.length<=n->FU H->SqL (K w.params) H a (ns.map V.int)->sp w [.ref a] H (λv _=>v=.bl true) λ_ _ _=>False)
  (r:∀(w:T4) (H:Hp) (s:T1) (e:T0) (A:T1),CX w [] H s (λ_ _ _=>False) e A->False) :
  PySem.W.WalkO q g XP C l.row.toRowW d [] (λf vs=>PySem.call f vs):=by
 refine Att.attach_call L p λw B i mg S m o R U O a vs ns G Y T W J hmg j c b Q => ?_;have KX:=N w _ Y;obtain⟨z,I,D⟩:=F w mg m _ KX G.T.g hmg;exact BB KX G.T.g G.T.b G.T.builtins G.T.nolimit Q j c (ZL b y) P D I (λH E M=>t w H a ns b E M) λH e A=>r w H i e A
def cG (s:Stmt):Arguments:=match s with
 | .FunctionDef _ a _ _ _ _ _ _ _ _=>a
 | _=>{ posonlyargs:=[],args:=[],vararg:=none,kwonlyargs:=[],kw_defaults:=[],kwarg:=none,defaults:=[] }
def bT (s:Stmt):List Stmt:=match s with
 | .FunctionDef _ _ b _ _ _ _ _ _ _=>b
 | _=>[]
def aI (s:Stmt):Scope:=match s with
 | .FunctionDef _ _ _ _ _ _ sc _ _ _=>sc
 | _=>{ kind:=.function,names:=[],isGenerator:=false,isCoroutine:=false }
abbrev CX0:CXT:=λ_ _ _ _ _ _=>False
abbrev E0:XK:=λ_ _ _=>False
theorem BC {X:Cx}:jw CX0 X E0:=λ_ _ _ _ _ _ _ h=>h.elim
structure Fun (K:ZW) (x qual:Str) (st:Stmt) (f:Addr) (fd:FuncData):Prop where
 ex:∃(oc:T0) (od:Option Addr) (kV doc pm:T0) (an:Option Addr) (cdv ct:T0) (osl:Array (Option T0)),
  fd=PySem.W.fnOf x qual (cG st) (bT st) (aI st) .none kV doc pm an cdv ct/\K.lookup f=some ⟨oc,od,.func fd,osl⟩/\PySem.W.codeIn K cdv qual=true
 kp:PySem.W.keepIn K (.ref f)=true
section
variable {P:T3} {w:T4} {K:ZW} {mg:Str->Option T0} {base:Heap}
theorem Fun.ok {x a:Str}{st:Stmt}{f:Addr}{g:FuncData}{N ps:List Str}{k:Nat}{sp:Sp}(F:Fun K x a st f g)(S:ce N ps (aI st))(len:∀vs H Q E,sp vs H Q E->vs.length=ps.length)
  (c:∀(b:T0) (A:T2) (outer:List Env) (s:T1) (H:Hp) (vs:List V) (Q:VK) (E:XK),du k (A.deeper (envOfC a (aI st) s.heap.objs.size f b))->sp vs H Q E->
   ∃t,PSs (kQ CX0 P w K mg base N a (aI st) f b A outer s H E).nox (bT st) t/\t { nx:=λ_ i=>Q .non i,rt:=Q } (jx N vs) H):cM P w K mg base CX0 (k + 1) f g ps sp:=by
 obtain⟨o,r,kV,n,p,u,b,v,j,rfl,l,d⟩:=F.ex;refine yR l d S len λA outer s H vs Q E m e => ?_;obtain⟨t,h,q⟩:=c b A outer s H vs Q E m e;exact⟨t,h.nox,q⟩
theorem Fun.binds {x a:Str}{st:Stmt}{f:Addr}{e:FuncData}{ps:List Str}(F:Fun K x a st f e)
  (h:∀(kV c pm:T0) (d:Option Addr) (b ct:T0) (us:List T0),us.length=ps.length->bindArgs (PySem.W.fnOf x a (cG st) (bT st) (aI st) .none kV c pm d b ct) ⟨us,[]⟩ = pure (ps.zip us)):eQ K e ps []:=by
 obtain⟨j,l,kV,c,pm,d,b,ct,i,rfl,k,g⟩:=F.ex;exact .all (h kV c pm d b ct)
theorem xG {x a:Str}{st:Stmt}{f:Addr}{h:T0}{i g:Option Addr}{e:Array (Option T0)}{kV d pm b ct:T0}(l:K.lookup f=some ⟨h,i,.func (PySem.W.fnOf x a (cG st) (bT st) (aI st) .none kV d pm g b ct),e⟩)
  (c:PySem.W.codeIn K b a=true) (k:PySem.W.keepIn K (.ref f)=true):Fun K x a st f (PySem.W.fnOf x a (cG st) (bT st) (aI st) .none kV d pm g b ct):=⟨⟨h,i,kV,d,pm,g,b,ct,e,rfl,l,c⟩,k⟩
end
section
variable {X:Cx}
theorem pv (i:Nat) {x:Str} {pos:Pos} (b:X.N[i]? = some x:=by rfl) (c:Vis X.env.scope x:=by first|exact Or.inl rfl|exact Or.inr (Or.inl rfl)|exact Or.inr (Or.inr rfl)) (hd:(x == ("__debug__" : Str))=false:=by decide)
  (a:(x == ("__classdict__" : Str))=false:=by decide):PE X (.Name x pos) (Fp i):=ow b c hd a
end
def gn (H H':Hp):Prop:=∀b o,H b=some o->H' b=some o
theorem gn.refl (H:Hp):gn H H:=λ_ _ h=>h
end L2
namespace L2
open PySem PySem.Spec
structure jt (h:Heap) (a D:Addr) (o:Obj):Prop where
 at_:h.get? a=some o
 cls:o.cls=.ref D
def oP (a C:Addr):HO:=.ext λh=>∃o,jt h a C o
end L2
namespace Fm
inductive D where
 | non|bl (b:Bool)|int (i:Int)|str (x:List Nat)|tup (l:List D)|ref (n:Nat)|lit (l:List D)|exn (c:String) (l:List D)
deriving Inhabited
inductive aO where
 | lst (l:List D)|dct (l:List (Int × D))|dcT (l:List (List Int × D))|ob (l:List D)
abbrev Hd:=List aO
inductive Res (α : Type) where
 | ok (a : α) (h:Hd)|exc (x:D) (h:Hd)|bad
def Res.bind {α β : Type} (r:Res α) (f : α->Hd->Res β):Res β := match r with
 | .ok a h=>f a h | .exc x h=>.exc x h | .bad=>.bad
@[simp] theorem az {α β : Type} (a : α) (h:Hd) (f : α->Hd->Res β):(Res.ok a h).bind f=f a h:=rfl
@[simp] theorem vD {α β : Type} (f : α->Hd->Res β):(Res.bad:Res α).bind f=.bad:=rfl
abbrev Sd:=List (Option D)
abbrev EF:=Sd->Hd->Res D
abbrev TF:=Sd->Hd->Res Bool
abbrev LF:=Sd->Hd->Res (List D)
inductive Out where
 | nx (σ:Sd) (h:Hd)|rt (d:D) (h:Hd)|bk (σ:Sd) (h:Hd)|ct (σ:Sd) (h:Hd)|exc (x:D) (σ:Sd) (h:Hd)|bad
abbrev SF:=Sd->Hd->Out
abbrev Fn:=List D->Hd->Res D
abbrev SZ:Nat:=1000000
@[simp] def slot (σ:Sd) (i:Nat):Option D:=match σ[i]? with|some (some d)=>some d|_=>none
@[simp] def aa (i:Nat):EF:=λσ h=>match slot σ i with|some d=>.ok d h|none=>.bad
@[simp] def fC (d:D):EF:=λ_ h=>.ok d h
abbrev O2:=D->D->Hd->Res D
@[simp] def ao (g:O2) (a b:EF):EF:=λσ h=>(a σ h).bind λx h=>(b σ h).bind λy h=>g x y h
@[simp] def oI (g:Int->Int->Int):O2:=λx y h=>match x,y with | .int i,.int j=>.ok (.int (g i j)) h|_,_=>.bad
@[simp] def oB (g:Int->Int->Bool):O2:=λx y h=>match x,y with | .int i,.int j=>.ok (.bl (g i j)) h|_,_=>.bad
@[simp] def oIc (c:Int->Int->Bool) (g:Int->Int->Int):O2:=λx y h=>match x,y with | .int i,.int j=>if c i j then .ok (.int (g i j)) h else .bad|_,_=>.bad
def sml (i:Int):Bool:=decide (-18446744073709551616 < i) && decide (i < 18446744073709551616)
@[simp] def b7:O2:=λx y h=>match x,y with
 | .int i,.int j=>.ok (.int (i + j)) h
 | .tup (x :: xs),.tup ys=>if (x :: xs).length + ys.length<=SZ then .ok (.tup (x :: xs++ys)) h else .bad
 | _,_=>.bad
@[simp] def tu:O2:=λx y h=>(oI (· - ·)) x y h
@[simp] def im:O2:=λx y h=>(oIc (λi j=>sml i || sml j) (· * ·)) x y h
@[simp] def fX:O2:=λx y h=>(oIc (λ_ j=>decide (0 < j)) (· % ·)) x y h
@[simp] def BD:O2:=λx y h=>(oIc (λ_ j=>decide (0 < j) && decide (j < 2 ^ 250)) (· / ·)) x y h
@[simp] def Ik:O2:=λx y h=>(oIc (λi j=>decide (0<=j) && decide (j<=1000000) && sml i) (λi j=>i ^ j.toNat)) x y h
@[simp] def oLt:O2:=λx y h=>(oB λi j=>decide (i < j)) x y h
@[simp] def oLe:O2:=λx y h=>(oB λi j=>decide (i<=j)) x y h
@[simp] def oGt:O2:=λx y h=>(oB λi j=>decide (j < i)) x y h
@[simp] def JV:D->Hd->Res D:=λx h=>match x with | .int i=>.ok (.int (-i)) h|_=>.bad
@[simp] def rK:D->Bool | .non=>true|_=>false
@[simp] def ju:O2:=λx y h=>if rK y then .ok (.bl (rK x)) h else .bad
@[simp] def b2i (b:Bool):Int:=if b then 1 else 0
mutual
def peq:D->D->Option Bool
 | .int i,k=>match k with | .int j=>some (decide (i=j)) | .bl c=>some (decide (i=b2i c)) | .non=>some false | .tup _=>some false|_=>none
 | .bl c,k=>match k with | .int j=>some (decide (b2i c=j)) | .bl d=>some (decide (c=d))|_=>none
 | .str x,k=>match k with | .str y=>some (decide (x=y))|_=>none
 | .non,k=>match k with | .non=>some true | .int _=>some false | .tup _=>some false|_=>none
 | .tup xs,k=>match k with | .tup ys=>(gQ xs ys).map λb=>b && decide (xs.length=ys.length) | .non=>some false | .int _=>some false|_=>none
 | .ref _,_=>none
 | .lit _,_=>none
 | .exn _ _,_=>none
def gQ:List D->List D->Option Bool
 | x :: xs,y :: ys=>match peq x y,gQ xs ys with
  | some a,some b=>some (a && b)
  | _,_=>none
 | _,_=>some true
end
mutual
def dep:D->Nat
 | .tup l=>jy l + 1
 | _=>0
def jy:List D->Nat
 | []=>0
 | x :: xs=>max (dep x) (jy xs)
end
def eqL (xs ys:List D):Option Bool:=if jy xs<=20 then (if xs.length=ys.length then gQ xs ys else some false) else none
@[simp] def cU (h:Hd):D->Option (List D)
 | .ref n=>match h[n]? with|some (.lst l)=>some l|_=>none
 | .lit l=>some l
 | _=>none
@[simp] def eqG (h:Hd) (x y:D):Option Bool:=match cU h x,cU h y with
 | some xs,some ys=>eqL xs ys
 | none,none=>if dep x<=20 then peq x y else none
 | _,_=>none
@[simp] def oEq:O2:=λx y h=>match eqG h x y with|some b=>.ok (.bl b) h|none=>.bad
@[simp] def oNe:O2:=λx y h=>match eqG h x y with|some b=>.ok (.bl (!b)) h|none=>.bad
@[simp] def cN:D->Bool
 | .non=>true | .bl _=>true | .int _=>true | .str _=>true|_=>false
@[simp] def eqF:D->D->Bool
 | .non,k=>match k with | .non=>true|_=>false
 | .bl a,k=>match k with | .bl b=>a == b | .int b=>b2i a == b|_=>false
 | .int a,k=>match k with | .bl b=>a == b2i b | .int b=>a == b|_=>false
 | .str a,k=>match k with | .str b=>a == b|_=>false
 | .tup _,_=>false
 | .ref _,_=>false
 | .lit _,_=>false
 | .exn _ _,_=>false
@[simp] def asB (r:Res D):Res Bool:=r.bind λx h=>match x with | .bl b=>.ok b h|_=>.bad
@[simp] def tE (a:EF):TF:=λσ h=>asB (a σ h)
@[simp] def dh (t:TF):TF:=λσ h=>(t σ h).bind λb h=>.ok (!b) h
@[simp] def jr (t u:TF):TF:=λσ h=>(t σ h).bind λb h=>if b then u σ h else .ok false h
@[simp] def tOr (t u:TF):TF:=λσ h=>(t σ h).bind λb h=>if b then .ok true h else u σ h
@[simp] def fT (t:TF):EF:=λσ h=>(t σ h).bind λb h=>.ok (.bl b) h
@[simp] def fIf (t:TF) (a b:EF):EF:=λσ h=>(t σ h).bind λc h=>if c then a σ h else b σ h
@[simp] def fN (g k:O2) (a b c:EF):EF:=λσ h=>(a σ h).bind λx h=>(b σ h).bind λy h=>(g x y h).bind λz h=>match z with
 | .bl true=>(c σ h).bind λw h=>k y w h
 | .bl false=>.ok (.bl false) h
 | _=>.bad
@[simp] def am:LF:=λ_ h=>.ok [] h
@[simp] def ae (a:EF) (r:LF):LF:=λσ h=>(a σ h).bind λx h=>(r σ h).bind λxs h=>.ok (x :: xs) h
@[simp] def dR (r:LF):EF:=λσ h=>(r σ h).bind λxs h=>if xs.length<=SZ then .ok (.tup xs) h else .bad
@[simp] def aL (r:LF):EF:=λσ h=>(r σ h).bind λxs h=>if xs.length<=SZ then .ok (.ref h.length) (h++[.lst xs]) else .bad
@[simp] def io (h:Hd):D->Option (List D)
 | .tup l=>some l
 | .lit l=>some l
 | .ref n=>match h[n]? with|some (.lst l)=>some l|_=>none
 | _=>none
@[simp] def lOf (a:EF):LF:=λσ h=>(a σ h).bind λx h=>match io h x with|some l=>.ok l h|none=>.bad
@[simp] def inL (h:Hd) (x y:D):Option Bool:=match io h y with
 | some l=>if cN x && l.all cN then some (l.any λz=>eqF z x) else none
 | none=>none
@[simp] def oIn:O2:=λx y h=>match inL h x y with|some b=>.ok (.bl b) h|none=>.bad
@[simp] def oQ:O2:=λx y h=>match inL h x y with|some b=>.ok (.bl (!b)) h|none=>.bad
def ixN (n:Nat) (i:Int):Option Nat:=if 0<=i then (if i < n then some i.toNat else none) else if -(n:Int)<=i then some (i + n).toNat else none
def atI (xs:List D) (i:Int):Option D:=(ixN xs.length i).bind λj=>xs[j]?
@[simp] def fIx (a:LF) (b:EF):EF:=λσ h=>(a σ h).bind λl h=>(b σ h).bind λy h=>match y with
 | .int i=>match atI l i with|some d=>.ok d h|none=>.bad
 | _=>.bad
@[simp] def oAt:O2:=λx y h=>match io h x,y with
 | some l,.int i=>match atI l i with|some d=>.ok d h|none=>.bad
 | _,_=>.bad
@[simp] def fAt (a b:EF):EF:=λσ h=>ao oAt a b σ h
@[simp] def cr (a:LF):EF:=λσ h=>(a σ h).bind λl h=>.ok (.int l.length) h
def fE:List D->Option (List Int)
 | []=>some []
 | .int i :: r=>(fE r).map (i :: ·)
 | _=>none
def jj:List D->Option (List Bool)
 | []=>some []
 | .bl b :: r=>(jj r).map (b :: ·)
 | _=>none
@[simp] def vE (a:LF):EF:=λσ h=>(a σ h).bind λl h=>match jj l with|some bs=>.ok (.bl (bs.all id)) h|none=>.bad
@[simp] def gR (a:LF):EF:=λσ h=>(a σ h).bind λl h=>.ok (.tup l) h
inductive Ty where|int|bool|tuple|list|str
deriving DecidableEq
@[simp] def oR (h:Hd) (t:Ty):D->Option Bool
 | .non=>some false
 | .bl _=>some (t == .bool || t == .int)
 | .int _=>some (t == .int)
 | .str _=>some (t == .str)
 | .tup _=>some (t == .tuple)
 | .lit _=>some (t == .list)
 | .ref n=>match h[n]? with|some (.lst _)=>some (t == .list)|some (.dct _)=>some false|some (.dcT _)=>none|some (.ob _)=>none|none=>none
 | .exn _ _=>none
@[simp] def ip (t:Ty) (a:EF):EF:=λσ h=>(a σ h).bind λx h=>match oR h t x with|some b=>.ok (.bl b) h|none=>.bad
def sIx (n d:Nat):Option Int->Nat
 | none=>d
 | some i=>if i < 0 then (i + n).toNat else min i.toNat n
def cut (l:List D) (lo hi:Option Int):List D:=(l.drop (sIx l.length 0 lo)).take (sIx l.length l.length hi - sIx l.length 0 lo)
abbrev OF:=Sd->Hd->Res (Option Int)
@[simp] def pNo:OF:=λ_ h=>.ok none h
@[simp] def pAt (a:EF):OF:=λσ h=>(a σ h).bind λx h=>match x with | .int i=>.ok (some i) h|_=>.bad
@[simp] def cP (a:EF) (lo hi:OF):EF:=λσ h=>(a σ h).bind λx h=>(lo σ h).bind λi h=>(hi σ h).bind λj h=>match x with
 | .tup l=>if sIx l.length 0 i=0/\sIx l.length l.length j=l.length then .bad else .ok (.tup (cut l i j)) h
 | x=>match cU h x with|some l=>.ok (.ref h.length) (h++[.lst (cut l i j)])|none=>.bad
def lexLt:List Int->List Int->Bool
 | [],[]=>false
 | [],_ :: _=>true
 | _ :: _,[]=>false
 | x :: xs,y :: ys=>if x=y then lexLt xs ys else decide (x < y)
def tz:List D->Option (List (List Int))
 | []=>some []
 | .tup l :: r=>match fE l,tz r with|some a,some b=>some (a :: b)|_,_=>none
 | _=>none
@[simp] def au (F:Fn) (r:LF):EF:=λσ h=>(r σ h).bind λxs h=>F xs h
abbrev IF:=Sd->Hd->Res (List D × Option Nat)
@[simp] def gp (a:EF):IF:=λσ h=>(a σ h).bind λx h=>match x with
 | .int n=>if -1000000<=n/\n<=1000000 then .ok ((List.range n.toNat).map (λk:Nat=>.int k),none) h else .bad
 | _=>.bad
@[simp] def fY (a b:EF):IF:=λσ h=>(a σ h).bind λx h=>(b σ h).bind λy h=>match x,y with
 | .int m,.int n=>if (-1000000<=m/\m<=1000000)/\-1000000<=n/\n<=1000000 then .ok ((List.range (n - m).toNat).map (λk:Nat=>.int (m + k)),none) h else .bad
 | _,_=>.bad
@[simp] def fZ (a:EF):IF:=λσ h=>(a σ h).bind λx h=>match x with
 | .tup l=>.ok (l,none) h
 | .lit l=>.ok (l,none) h
 | .ref n=>match h[n]? with|some (.lst l)=>.ok (l,some n) h|_=>.bad
 | _=>.bad
section
open Classical
def gq (g:Option Nat) (all:List D) (h:Hd):Prop:=match g with|none=>True|some n=>h[n]? = some (.lst all)
@[simp] theorem rL (all:List D) (h:Hd):gq none all h=True:=rfl
abbrev GF:=D->Sd->Option Sd
@[simp] def gN (i:Nat):GF:=λd σ=>some (σ.set i (some d))
@[simp] def gT (l:List Nat):GF:=λd σ=>match d with
 | .tup xs=>if xs.length=l.length then some ((l.zip xs).foldl (λσ p => σ.set p.1 (some p.2)) σ) else none
 | _=>none
@[simp] def ay (a b:SF):SF:=λσ h=>match a σ h with | .nx σ h=>b σ h|r=>r
@[simp] def bB:SF:=λσ h=>.nx σ h
@[simp] def outE (r:Res D) (σ:Sd) (k:D->Hd->Out):Out:=match r with | .ok d h=>k d h | .exc x h=>.exc x σ h | .bad=>.bad
@[simp] def aB (g:GF) (a:EF):SF:=λσ h=>outE (a σ h) σ λd h=>match g d σ with|some σ=>.nx σ h|none=>.bad
@[simp] def bx (a:EF):SF:=λσ h=>outE (a σ h) σ λd h=>.rt d h
@[simp] def eP (a:EF):SF:=λσ h=>outE (a σ h) σ λ_ h=>.nx σ h
@[simp] def sIf (t:TF) (a b:SF):SF:=λσ h=>match t σ h with | .ok c h=>if c then a σ h else b σ h | .exc x h=>.exc x σ h | .bad=>.bad
@[simp] def DY:SF:=λσ h=>.bk σ h
def qz:SF:=λ_ _=>.bad
@[simp] def nM (x i e:EF):SF:=λσ h=>outE (e σ h) σ λd h=>outE (x σ h) σ λp h=>outE (i σ h) σ λj h=>match p,j with
 | .ref n,.int j=>match h[n]? with
  | some (.lst l)=>match ixN l.length j with
   | some k=>.nx σ (h.set n (.lst (l.set k d)))
   | none=>.bad
  | _=>.bad
 | _,_=>.bad
@[simp] def FV:O2:=λp d h=>match p with
 | .ref n=>match h[n]? with
  | some (.lst l)=>if l.length < SZ then .ok .non (h.set n (.lst (l++[d]))) else .bad
  | _=>.bad
 | _=>.bad
@[simp] def fO (x e:EF):EF:=λσ h=>(x σ h).bind λp h=>match p with
 | .ref n=>match h[n]? with
  | some (.lst _)=>(e σ h).bind λd h=>FV (.ref n) d h
  | _=>.bad
 | _=>.bad
def cJ (g:Option Nat) (all:List D) (tg:GF) (b:SF):List D->SF
 | [],σ,h=>if gq g all h then .nx σ h else .bad
 | x :: xs,σ,h=>if gq g all h then match tg x σ with
   | some σ=>match b σ h with
    | .nx σ h=>cJ g all tg b xs σ h
    | .ct σ h=>cJ g all tg b xs σ h
    | .bk σ h=>.nx σ h
    | r=>r
   | none=>.bad
  else .bad
@[simp] def nN (it:IF) (tg:GF) (b:SF):SF:=λσ h=>match it σ h with
 | .ok (l,g) h=>cJ g l tg b l σ h
 | .exc x h=>.exc x σ h
 | .bad=>.bad
def dS (t:TF) (b:SF):Nat->SF
 | 0,_,_=>.bad
 | n + 1,σ,h=>match t σ h with
  | .ok true h=>match b σ h with
   | .nx σ h=>dS t b n σ h
   | .ct σ h=>dS t b n σ h
   | .bk σ h=>.nx σ h
   | r=>r
  | .ok false h=>.nx σ h
  | .exc x h=>.exc x σ h
  | .bad=>.bad
def DZ (t:TF) (b:SF):Sd->Hd->Nat:=λσ h=>if ex:∃n,dS t b n σ h ≠ .bad then Classical.choose ex else 0
def kC (t:TF) (b:SF):SF:=λσ h=>dS t b (DZ t b σ h) σ h
@[simp] def oS:List TF->TF
 | [],_,h=>.ok true h
 | t :: r,σ,h=>(t σ h).bind λb h=>if b then oS r σ h else .ok false h
def cV (g:Option Nat) (all:List D) (tg:GF) (cs:List TF) (e:EF):List D->Sd->Hd->Res (List D)
 | [],_,h=>if gq g all h then .ok [] h else .bad
 | x :: xs,σ,h=>if gq g all h then match tg x σ with
   | some σ=>(oS cs σ h).bind λb h=>if b then (e σ h).bind λd h=>(cV g all tg cs e xs σ h).bind λds h=>.ok (d :: ds) h
    else cV g all tg cs e xs σ h
   | none=>.bad
  else .bad
@[simp] def iP (nl:Nat) (caps:List Nat) (σ:Sd):Sd:=List.replicate nl none++caps.map λi=>slot σ i
@[simp] def cB (nl:Nat) (caps:List Nat) (it:IF) (tg:GF) (cs:List TF) (e:EF):LF:=λσ h=>(it σ h).bind λp h =>
 cV p.2 p.1 tg cs e p.1 (iP nl caps σ) h
mutual
def pure? : D->Bool
 | .ref _=>false
 | .tup l=>gr l
 | .lit l=>gr l
 | .exn _ l=>gr l
 | _=>true
def gr:List D->Bool
 | []=>true
 | x :: xs=>pure? x && gr xs
end
def jz:aO->Bool
 | .lst l=>gr l
 | .dct l=>l.all λp=>pure? p.2
 | .dcT l=>l.all λp=>pure? p.2
 | .ob l=>gr l
def yV (h h':Hd):Prop:=∀n c,n < h.length->h'[n]? = some c->h[n]? = some c\/jz c=true
def letGo (h:Hd) (r:Res D):Res D:=match r with
 | .ok d h'=>if pure? d=true/\yV h h' then .ok d (h'.take h.length) else .ok d h'
 | r=>r
def runB (n:Nat) (b:SF):Fn:=λds h=>match b (ds.map some++List.replicate (n - ds.length) none) h with
 | .nx _ h=>.ok .non h
 | .rt d h=>.ok d h
 | .exc x _ h=>.exc x h
 | _=>.bad
def bQ (np n:Nat) (b:SF):Fn:=λds h=>if ds.length=np then letGo h (runB n b ds h) else .bad
end
end Fm
namespace Fm
open PySem PySem.Spec L2
def toS (x:List Nat):Str:=⟨x.toArray⟩
def ng (K:ZW) (H:Hp) (a:Addr) (xs:List V):Prop :=
 (∃o,H a=some (.frz o (.lst xs)))\/
  ∃(o:Obj) (its:Array T0) (n:Nat),K.lookup a=some o/\o.cls=.type "list"/\o.dict=none/\o.data=.seq its n/\its.size<=sizeLine/\aY xs its.toList
def JF (K:ZW) (p:Addr) (vs:List V):Prop:=∃(o:Obj) (its:Array T0) (n:Nat),K.lookup p=some o/\o.cls=.type "tuple"/\o.data=.seq its n/\its.size<=sizeLine/\aY vs its.toList
def JG (vs:List V):List (Str × V):=vs.map λv=>(Str.ofString "web",v)
section
variable (K:ZW) (ρ:List Addr) (H:Hp)
mutual
def RD:D->V->Prop
 | .non,v=>v=.non
 | .bl b,v=>v=.bl b
 | .int i,v=>v=.int i
 | .str x,v=>v=.str (toS x)
 | .tup l,v=>∃p vs,v=.ref p/\H p=some (.tup vs)/\RDs l vs
 | .lit l,v=>∃p vs,v=.ref p/\ng K H p vs/\RDs l vs
 | .ref n,v=>∃a,ρ[n]? = some a/\v=.ref a
 | .exn c l,v=>(c ≠ ""/\l=[]/\∃a C,v=.ref a/\H a=some (oP a C)/\PySem.W.nsIn K mainGlobals (Str.ofString c)=some (some (.ref C)))\/(c = ""/\∃p vs,v=.ref p/\JF K p vs/\RDs l vs)
def RDs:List D->List V->Prop
 | [],vs=>vs=[]
 | d :: ds,vs=>∃v r,vs=v :: r/\RD d v/\RDs ds r
end
def RC:aO->Addr->Prop
 | .lst l,a=>∃vs,H a=some (.lst vs)/\RDs K ρ H l vs
 | .dct l,a=>∃kvs,H a=some (.dK kvs)/\kvs.map (·.1)=l.map (λp=>(Sum.inl p.1:Key))/\RDs K ρ H (l.map (·.2)) (kvs.map (·.2))
 | .dcT l,a=>∃kvs,H a=some (.dT kvs)/\kvs.map (·.1)=l.map (λp=>p.1.map λi=>(Sum.inl i:Key))/\RDs K ρ H (l.map (·.2)) (kvs.map (·.2))
 | .ob l,a=>∃vs C dx,H a=some (.ins C dx (JG vs))/\RDs K ρ H l vs/\PySem.W.nsIn K mainGlobals (Str.ofString "Desk")=some (some (.ref C))
structure RH (hd:Hd):Prop where
 len : ρ.length=hd.length
 nd : ρ.Nodup
 cel:∀(n:Nat) c a,hd[n]? = some c->ρ[n]? = some a->RC K ρ H c a
structure RSt (σd:Sd) (σ:St):Prop where
 len : σd.length = σ.length
 at':∀i d,slot σd i=some d->∃v,σ[i]? = some (some v)/\RD K ρ H d v
structure RS (σd:Sd) (hd:Hd) (σ:St):Prop where
 hp:RH K ρ H hd
 st:RSt K ρ H σd σ
end
structure Ext (ρ:List Addr) (H:Hp) (ρ':List Addr) (H':Hp):Prop where
 pre:∃t,ρ' = ρ ++ t
 new:∀a ∈ ρ',a ∈ ρ\/H a=none
 frame:∀p o,H p=some o->p ∉ ρ->H' p=some o
variable {vs:List V}{l:List D}
section
variable {K:ZW} {ρ ρ' ρ'':List Addr} {H H' H'':Hp} {hd hd':Hd} {σd σd':Sd} {σ σ':St}
theorem Ext.refl:Ext ρ H ρ H:=⟨⟨[],by simp⟩,λ_ h=>.inl h,λ_ _ h _=>h⟩
theorem Ext.out (e:Ext ρ H ρ' H'){p:Addr}{o:HO}(h:H p=some o)(n:p ∉ ρ):p ∉ ρ':=λz=>by
 rcases e.new p z with q|q
 ·exact n q
 ·rw[h]at q;cases q
theorem Ext.trans (a:Ext ρ H ρ' H')(b:Ext ρ' H' ρ'' H''):Ext ρ H ρ'' H'' where
 pre:=by
  obtain⟨t,rfl⟩:=a.pre;obtain⟨u,rfl⟩:=b.pre;exact⟨t++u,by simp⟩
 new:=λx d=>by
  rcases b.new x d with q|q
  ·exact a.new x q
  ·cases e:H x with
   | none=>exact .inr rfl
   | some o =>
    by_cases c:x ∈ ρ
    ·exact .inl c
    ·rw[a.frame x o e c]at q;cases q
 frame:=λp o h n=>b.frame p o (a.frame p o h n) (a.out h n)
theorem Ext.same (s:gn H H'):Ext ρ H ρ H':=⟨⟨[],by simp⟩,λ_ h=>.inl h,λp o h _=>s p o h⟩
theorem Ext.get (e:Ext ρ H ρ' H'){n:Nat}{a:Addr}(h : ρ[n]? = some a) : ρ'[n]? = some a:=by
 obtain⟨t,rfl⟩:=e.pre;rw[ZC (yE.mp h).1];exact h
theorem RH.mut (r:RH K ρ H hd){a:Addr}(h:a ∈ ρ):(∃vs,H a=some (.lst vs))\/(∃c,H a=some (.dK c))\/(∃c,H a=some (.dT c))\/∃C d i,H a=some (.ins C d i):=by
 obtain⟨n,g⟩:=List.getElem?_of_mem h;have f:=(yE.mp g).1;have j:hd[n]? = some (hd[n]'(by rw[<-r.len];exact f)):=by simp
 have q:=r.cel n _ a j g;cases e:hd[n]'(by rw[<-r.len];exact f) with
 | lst l=>rw[e]at q;obtain⟨vs,b,_⟩:=q;exact .inl ⟨vs,b⟩
 | dct l=>rw[e]at q;obtain⟨vs,b,_⟩:=q;exact .inr (.inl ⟨vs,b⟩)
 | dcT l=>rw[e]at q;obtain⟨vs,b,_⟩:=q;exact .inr (.inr (.inl ⟨vs,b⟩))
 | ob l=>rw[e]at q;obtain⟨vs,C,d,b,_⟩:=q;exact .inr (.inr (.inr ⟨C,d,_,b⟩))
theorem RH.noTup (r:RH K ρ H hd){a:Addr}(h:H a=some (.tup vs)):a ∉ ρ:=λz=>by
 rcases r.mut z with ⟨_,q⟩|⟨_,q⟩|⟨_,q⟩|⟨_,_,_,q⟩<;>(rw[h]at q;cases q)
theorem RH.noFrz (r:RH K ρ H hd){a:Addr}{o:Obj}{u:HO}(h:H a=some (.frz o u)):a ∉ ρ:=λz=>by
 rcases r.mut z with ⟨_,q⟩|⟨_,q⟩|⟨_,q⟩|⟨_,_,_,q⟩<;>(rw[h]at q;cases q)
theorem RH.noExt (r:RH K ρ H hd){a:Addr}{b : Heap->Prop}(h:H a=some (.ext b)):a ∉ ρ:=λz=>by
 rcases r.mut z with ⟨_,q⟩|⟨_,q⟩|⟨_,q⟩|⟨_,_,_,q⟩<;>(rw[h]at q;cases q)
structure Kp (ρ:List Addr) (H:Hp) (ρ':List Addr) (H':Hp):Prop where
 get:∀(n:Nat) a,ρ[n]? = some a->ρ'[n]? = some a
 tup:∀a vs,H a=some (.tup vs)->H' a=some (.tup vs)
 frz:∀a o u,H a=some (.frz o u)->H' a=some (.frz o u)
 ext:∀a φ,H a=some (.ext φ)->H' a=some (.ext φ)
theorem RH.kp (r:RH K ρ H hd)(e:Ext ρ H ρ' H'):Kp ρ H ρ' H' :=
 ⟨λ_ _ h=>e.get h,λ_ _ h=>e.frame _ _ h (r.noTup h),λ_ _ _ h=>e.frame _ _ h (r.noFrz h),λ_ _ h=>e.frame _ _ h (r.noExt h)⟩
theorem Kp.same (s:gn H H'):Kp ρ H ρ H':=⟨λ_ _ h=>h,λ_ _ h=>s _ _ h,λ_ _ _ h=>s _ _ h,λ_ _ h=>s _ _ h⟩
theorem ng.mono {a:Addr}{xs:List V}(k:Kp ρ H ρ' H')(h:ng K H a xs):ng K H' a xs:=by
 rcases h with ⟨o,h⟩|h
 ·exact .inl ⟨o,k.frz _ _ _ h⟩
 ·exact .inr h
mutual
theorem RD.mono (k:Kp ρ H ρ' H'):∀{d:D} {v:V},RD K ρ H d v->RD K ρ' H' d v
 | .non,_,h=>by simp only[RD]at h ⊢;exact h
 | .bl _,_,h=>by simp only[RD]at h ⊢;exact h
 | .int _,_,h=>by simp only[RD]at h ⊢;exact h
 | .str _,_,h=>by simp only[RD]at h ⊢;exact h
 | .tup l,_,h=>by
  simp only[RD]at h ⊢;obtain⟨p,vs,e,h1,b⟩:=h;exact⟨p,vs,e,k.tup _ _ h1,RDs.mono k b⟩
 | .lit l,_,h=>by
  simp only[RD]at h ⊢;obtain⟨p,vs,e,h1,b⟩:=h;exact⟨p,vs,e,h1.mono k,RDs.mono k b⟩
 | .ref n,_,h=>by
  simp only[RD]at h ⊢;obtain⟨a,h1,b⟩:=h;exact⟨a,k.get _ _ h1,b⟩
 | .exn _ l,_,h=>by
  simp only[RD]at h ⊢;rcases h with ⟨f,c,a,C,e,h1,b⟩|⟨c,p,vs,e,h1,b⟩
  ·exact .inl ⟨f,c,a,C,e,k.ext _ _ h1,b⟩
  ·exact .inr ⟨c,p,vs,e,h1,RDs.mono k b⟩
theorem RDs.mono (k:Kp ρ H ρ' H'):∀{l:List D} {vs:List V},RDs K ρ H l vs->RDs K ρ' H' l vs
 | [],_,h=>by simp only[RDs]at h ⊢;exact h
 | d :: b,_,h=>by
  simp only[RDs]at h ⊢;obtain⟨v,r,e,h1,a⟩:=h;exact⟨v,r,e,RD.mono k h1,RDs.mono k a⟩
end
theorem RDs.nil:RDs K ρ H [] []:=by simp only[RDs]
theorem RDs.cons {d:D}{v:V}{a:List D}(h:RD K ρ H d v)(t:RDs K ρ H a vs):RDs K ρ H (d :: a) (v :: vs):=by
 simp only[RDs];exact⟨v,vs,rfl,h,t⟩
theorem RDs.length:∀{l:List D} {vs:List V},RDs K ρ H l vs->l.length=vs.length
 | [],_,h=>by simp only[RDs]at h;subst h;rfl
 | d :: b,_,h=>by
  simp only[RDs]at h;obtain⟨v,r,e,h1,a⟩:=h;subst e;simp[RDs.length a]
theorem RDs.get:∀{l:List D} {vs:List V} {i:Nat} {d:D},RDs K ρ H l vs->l[i]? = some d->∃v,vs[i]? = some v/\RD K ρ H d v
 | [],_,i,_,_,e=>by simp at e
 | d :: f,_,0,_,h,e=>by
  simp only[RDs]at h;obtain⟨v,r,a,h1,b⟩:=h;subst a;simp at e;subst e;exact⟨v,rfl,h1⟩
 | d :: f,_,i + 1,x,h,e=>by
  simp only[RDs]at h;obtain⟨v,r,a,h1,b⟩:=h;subst a;obtain⟨w,c,q⟩:=RDs.get b (by simpa using e);exact⟨w,by simpa using c,q⟩
theorem RDs.set {d:D}{v:V}(h:RD K ρ H d v):∀{l:List D} {vs:List V} (i:Nat),RDs K ρ H l vs->RDs K ρ H (l.set i d) (vs.set i v)
 | [],_,_,q=>by simp only[RDs]at q;subst q;exact RDs.nil
 | x :: xs,_,i,q=>by
  simp only[RDs]at q;obtain⟨w,r,e,h1,a⟩:=q;subst e;cases i with
  | zero=>exact RDs.cons h a
  | succ i=>exact RDs.cons h1 (RDs.set h i a)
theorem RDs.append:∀{l b:List D} {vs a:List V},RDs K ρ H l vs->RDs K ρ H b a->RDs K ρ H (l++b) (vs++a)
 | [],_,_,_,h,q=>by simp only[RDs]at h;subst h;exact q
 | d :: f,_,_,_,h,q=>by
  simp only[RDs]at h;obtain⟨v,r,e,h1,c⟩:=h;subst e;exact RDs.cons h1 (RDs.append c q)
theorem RDs.take:∀{l:List D} {vs:List V} (n:Nat),RDs K ρ H l vs->RDs K ρ H (l.take n) (vs.take n)
 | _,_,0,_=>by simp;exact RDs.nil
 | [],_,n + 1,h=>by simp only[RDs]at h;subst h;exact RDs.nil
 | d :: b,_,n + 1,h=>by
  simp only[RDs]at h;obtain⟨v,r,e,h1,a⟩:=h;subst e;exact RDs.cons h1 (RDs.take n a)
theorem RDs.drop:∀{l:List D} {vs:List V} (n:Nat),RDs K ρ H l vs->RDs K ρ H (l.drop n) (vs.drop n)
 | _,_,0,h=>by simpa using h
 | [],_,n + 1,h=>by simp only[RDs]at h;subst h;exact RDs.nil
 | d :: b,_,n + 1,h=>by
  simp only[RDs]at h;obtain⟨v,r,e,h1,a⟩:=h;subst e;simpa using RDs.drop n a
theorem RC.mono {c:aO}{a:Addr}(k:Kp ρ H ρ' H')(e:H' a=H a)(h:RC K ρ H c a):RC K ρ' H' c a:=by
 cases c with
 | lst l=>obtain⟨f,d,b⟩:=h;exact⟨f,e.trans d,b.mono k⟩
 | dct l=>obtain⟨f,d,b,g⟩:=h;exact⟨f,e.trans d,b,g.mono k⟩
 | dcT l=>obtain⟨f,d,b,g⟩:=h;exact⟨f,e.trans d,b,g.mono k⟩
 | ob l=>obtain⟨f,C,i,d,b,g⟩:=h;exact⟨f,C,i,e.trans d,b.mono k,g⟩
theorem RH.same (r:RH K ρ H hd)(s:gn H H'):RH K ρ H' hd :=
 ⟨r.len,r.nd,λn c a d b=>(r.cel n c a d b).mono (Kp.same s) (by
  rcases r.mut (ZJ b) with ⟨_,q⟩|⟨_,q⟩|⟨_,q⟩|⟨_,_,_,q⟩<;>rw[q,s _ _ q])⟩
theorem RSt.mono (k:Kp ρ H ρ' H')(r:RSt K ρ H σd σ):RSt K ρ' H' σd σ :=
 ⟨r.len,λi d h=>let ⟨v,b,a⟩:=r.at' i d h;⟨v,b,a.mono k⟩⟩
theorem RS.same (r:RS K ρ H σd hd σ)(s:gn H H'):RS K ρ H' σd hd σ:=⟨r.hp.same s,r.st.mono (Kp.same s)⟩
theorem cC {p:Addr}{o:HO}(h:H p=none):gn H (upd H p o):=λb u e=>by
 rw[aF (bM e h)];exact e
theorem RH.alloc (r:RH K ρ H hd){p:Addr}(hp:H p=some (.lst vs))(m:p ∉ ρ)(h:RDs K ρ H l vs):RH K (ρ ++ [p]) H (hd++[.lst l]):=by
 have k:Kp ρ H (ρ ++ [p]) H:=⟨λn a e=>by rw[ZC (yE.mp e).1];exact e,λ_ _ h=>h,λ_ _ _ h=>h,λ_ _ h=>h⟩;refine⟨by simp[r.len],?_,λn c a f d => ?_⟩
 ·rw[List.nodup_append]
  exact⟨r.nd,by simp,λa j b g=>by simp at g;subst g;intro e;subst e;exact m j⟩
 ·by_cases hlt:n < hd.length
  ·rw[ZC hlt]at f
   rw[ZC (by rw[r.len];exact hlt)]at d;exact(r.cel n c a f d).mono k rfl
  ·have i:n=hd.length:=by
    have:=(yE.mp f).1;simp at this;omega
   subst i;simp at f;subst f;rw[<-r.len]at d;simp at d;subst d;exact⟨vs,hp,h.mono k⟩
theorem oT {α : Type}:∀{l:List α},l.Nodup->∀{i j:Nat} {x : α},l[i]? = some x->l[j]? = some x->i=j
 | [],_,i,_,_,e,_=>by simp at e
 | a :: l,nd,0,0,_,_,_=>rfl
 | a :: l,nd,0,j + 1,x,e,b=>by
  simp at e b;subst e;exact absurd (ZJ b) (Y2.mp nd).1
 | a :: l,nd,i + 1,0,x,e,b=>by
  simp at e b;subst b;exact absurd (ZJ e) (Y2.mp nd).1
 | a :: l,nd,i + 1,j + 1,x,e,b=>by
  simp at e b;rw[oT (Y2.mp nd).2 e b]
theorem RH.write (r:RH K ρ H hd){n:Nat}{p:Addr}(hp : ρ[n]? = some p)(g:n < hd.length)(h:RDs K ρ H l vs):RH K ρ (upd H p (.lst vs)) (hd.set n (.lst l)):=by
 have k:Kp ρ H ρ (upd H p (.lst vs)):=by
  have f:=ZJ hp;refine⟨λ_ _ h=>h,λa j e => ?_,λa o u e => ?_,λa i e => ?_⟩
  ·rw[aF (λz=>r.noTup e (by rw[z];exact f))];exact e
  ·rw[aF (λz=>r.noFrz e (by rw[z];exact f))];exact e
  ·rw[aF (λz=>r.noExt e (by rw[z];exact f))];exact e
 refine⟨by simp[r.len],r.nd,λm c a d b => ?_⟩
 by_cases e:n=m
 ·subst e
  rw[Z1 g]at d;cases d;rw[hp]at b;cases b;exact⟨vs,aM,h.mono k⟩
 ·rw[ZO e]at d
  have ne:a≠p:=λz=>by
   subst z;exact e (oT r.nd hp b)
  exact(r.cel m c a d b).mono k (aF ne)
theorem Ext.write {p:Addr}{o:HO}(hp:p ∈ ρ):Ext ρ H ρ (upd H p o) :=
 ⟨⟨[],by simp⟩,λ_ h=>.inl h,λq u e n=>by rw[aF (λz=>n (by rw[z];exact hp))];exact e⟩
theorem Ext.alloc {p:Addr}(h:H p=none){o:HO}:Ext ρ H (ρ ++ [p]) (upd H p o) :=
 ⟨⟨[p],rfl⟩,λa b=>by
  rcases Z0.mp b with q|q
  ·exact .inl q
  ·simp at q;subst q;exact .inr h,λq u e _=>cC h q u e⟩
theorem RS.ext (r:RS K ρ H σd hd σ)(e:Ext ρ H ρ' H')(h:RH K ρ' H' hd'):RS K ρ' H' σd hd' σ:=⟨h,r.st.mono (r.hp.kp e)⟩
end
abbrev VR (α β : Type):=List Addr->Hp->α->β->Prop
section
variable (K:ZW)
def bn {α β : Type} (R:VR α β) (ρ:List Addr) (H:Hp) (σd:Sd) (σ:St) (r:Res α) (Q : β->Hp->Prop):Prop:=match r with
 | .ok a hd'=>∀b H' ρ',Ext ρ H ρ' H'->RS K ρ' H' σd hd' σ->R ρ' H' a b->Q b H'
 | _=>False
def jA {α β : Type} (R:VR α β) (f:Sd->Hd->Res α):St->Hp->(β->Hp->Prop)->Prop:=λσ H Q =>
 ∃ρ σd hd,RS K ρ H σd hd σ/\bn K R ρ H σd σ (f σd hd) Q
abbrev rD:VR D V:=λρ H d v=>RD K ρ H d v
abbrev rDs:VR (List D) (List V):=λρ H d v=>RDs K ρ H d v
abbrev rB:VR Bool Bool:=λ_ _ a b=>a=b
abbrev rO:VR (Option Int) (Option Int):=λ_ _ a b=>a=b
def rQ:VR (List D) V:=λρ H l v=>∃p vs,v=.ref p/\(SqL K H p vs\/H p=some (.tup vs))/\RDs K ρ H l vs
def vF (ρ:List Addr) (H:Hp) (σd:Sd) (σ:St) (r:Res (List D)) (Q:VK):Prop:=match r with
 | .ok l hd'=>∀q vs H' ρ',Ext ρ H ρ' H'->RS K ρ' H' σd hd' σ->H q=none->H' q=some (.lst vs)->q ∉ ρ'->RDs K ρ' H' l vs->Q (.ref q) H'
 | _=>False
def Il (f:LF):TE:=λσ H Q=>∃ρ σd hd,RS K ρ H σd hd σ/\vF K ρ H σd σ (f σd hd) Q
def bv (ρ:List Addr) (H:Hp) (o:Out) (E:mf):Prop:=match o with
 | .nx σd hd=>∀σ H' ρ',Ext ρ H ρ' H'->RS K ρ' H' σd hd σ->E.nx σ H'
 | .bk σd hd=>∀σ H' ρ',Ext ρ H ρ' H'->RS K ρ' H' σd hd σ->E.bk σ H'
 | .ct σd hd=>∀σ H' ρ',Ext ρ H ρ' H'->RS K ρ' H' σd hd σ->E.ct σ H'
 | .rt d hd=>∀v H' ρ',Ext ρ H ρ' H'->RH K ρ' H' hd->RD K ρ' H' d v->E.rt v H'
 | _=>False
def E7 (f:SF):TS:=λE σ H=>∃ρ σd hd,RS K ρ H σd hd σ/\bv K ρ H (f σd hd) E
end
def ME (X:Cx) (e:Expr) (f:EF):Prop:=PE X e (jA X.K (rD X.K) f)
def MQ (X:Cx) (e:Expr) (f:LF):Prop:=PE X e (jA X.K (rQ X.K) f)
def MF (X:Cx) (e:Expr) (f:LF):Prop:=PE X e (Il X.K f)
def MT (X:Cx) (e:Expr) (f:TF):Prop:=PT X e (jA X.K rB f)
def MW (X:Cx) (e:Expr) (f:TF):Prop:=PW X e (jA X.K rB f)
def MA (X:Cx) (es:List Expr) (f:LF):Prop:=PA X es (jA X.K (rDs X.K) f)
def MS (X:Cx) (s:Stmt) (f:SF):Prop:=PS X s (E7 X.K f)
def MSs (X:Cx) (s:List Stmt) (f:SF):Prop:=PSs X s (E7 X.K f)
variable {e:Expr}
section
variable {X:Cx}
theorem PE.imp {t u:TE}(h:PE X e t)(i:∀σ H Q,u σ H Q->t σ H Q):PE X e u:=λpins s σ H Q I q=>h pins s σ H Q I (i σ H Q q)
theorem PT.imp {t u:TT}(h:PT X e t)(i:∀σ H Q,u σ H Q->t σ H Q):PT X e u:=λpins s σ H Q I q=>h pins s σ H Q I (i σ H Q q)
theorem PW.imp {t u:TT}(h:PW X e t)(i:∀σ H Q,u σ H Q->t σ H Q):PW X e u:=λw pins s σ H Q I q=>h w pins s σ H Q I (i σ H Q q)
theorem PA.imp {e:List Expr}{t u:TA}(h:PA X e t)(i:∀σ H Q,u σ H Q->t σ H Q):PA X e u:=λp pins s σ H Q I q=>h p pins s σ H Q I (i σ H Q q)
theorem PS.imp {e:Stmt}{t u:TS}(h:PS X e t)(i:∀D σ H,u D σ H->t D σ H):PS X e u:=λpins s σ H D I q=>h pins s σ H D I (i D σ H q)
theorem PSs.imp {e:List Stmt}{t u:TS}(h:PSs X e t)(i:∀D σ H,u D σ H->t D σ H):PSs X e u:=λpins s σ H D I q=>h pins s σ H D I (i D σ H q)
end
section
variable {K:ZW} {ρ ρ':List Addr} {H H':Hp} {hd hd':Hd} {σd:Sd} {σ:St} {α β α' β':Type} {R:VR α β} {R':VR α' β'}
theorem bn.here {a : α}{b : β}{Q : β->Hp->Prop}(h:bn K R ρ H σd σ (.ok a hd) Q)(r:RS K ρ H σd hd σ)(q:R ρ H a b):Q b H:=h b H ρ Ext.refl r q
theorem bn.at {a : α}{b : β}{Q : β->Hp->Prop}(h:bn K R ρ H σd σ (.ok a hd) Q)(e:Ext ρ H ρ' H')(r:RS K ρ' H' σd hd σ)(q:R ρ' H' a b):Q b H':=h b H' ρ' e r q
theorem bn.imp {r:Res α}{Q c : β->Hp->Prop}(h:bn K R ρ H σd σ r Q)(i:∀b H',Q b H'->c b H'):bn K R ρ H σd σ r c:=by
 cases r with
 | ok a d=>exact λb H' ρ' e s q=>i b H' (h b H' ρ' e s q)
 | exc x d=>exact h
 | bad=>exact h
theorem bn.ext {r:Res α}{Q : β->Hp->Prop}(e:Ext ρ H ρ' H')(h:bn K R ρ H σd σ r Q):bn K R ρ' H' σd σ r Q:=by
 cases r with
 | ok a d=>exact λb c ρ'' f s q=>h b c ρ'' (e.trans f) s q
 | exc x d=>exact h
 | bad=>exact h
theorem bn.bind {r:Res α}{k : α->Hd->Res α'}{Q : β'->Hp->Prop}(h:bn K R' ρ H σd σ (r.bind k) Q) :
  bn K R ρ H σd σ r (λb H'=>∃ρ' a hd',Ext ρ H ρ' H'/\RS K ρ' H' σd hd' σ/\R ρ' H' a b/\bn K R' ρ' H' σd σ (k a hd') Q):=by
 cases r with
 | ok a c=>exact λb H' ρ' e s q=>⟨ρ',a,c,e,s,q,bn.ext e h⟩
 | exc x c=>exact h
 | bad=>exact h
theorem bv.ext {o:Out}{E:mf}(e:Ext ρ H ρ' H')(h:bv K ρ H o E):bv K ρ' H' o E:=by
 cases o with
 | nx σ f=>exact λb a ρ'' c s=>h b a ρ'' (e.trans c) s
 | bk σ f=>exact λb a ρ'' c s=>h b a ρ'' (e.trans c) s
 | ct σ f=>exact λb a ρ'' c s=>h b a ρ'' (e.trans c) s
 | rt d f=>exact λv a ρ'' c s q=>h v a ρ'' (e.trans c) s q
 | exc x σ f=>exact h
 | bad=>exact h
end
variable {x:Str}{K:ZW}{b:Expr}{H:Hp}{ρ:List Addr}{f:EF}{t:TF}
section
variable {X:Cx} {pos:Pos}
theorem FW {i:Nat}  (c:X.N[i]? = some x) (g:Vis X.env.scope x) (hd:(x == ("__debug__" : Str))=false:=by decide) (a:(x == ("__classdict__" : Str))=false:=by decide):ME X (.Name x pos) (aa i):=by
 refine PE.imp (ow c g hd a) λσ H Q ⟨ρ,σd,hd,r,h⟩ => ?_;unfold aa at h;cases e:slot σd i with
 | none=>rw[e]at h;exact h.elim
 | some d =>
  rw[e]at h;obtain⟨v,f,b⟩:=r.st.at' i d e;exact⟨v,f,h.here r b⟩
theorem mj {d:D}{v:V}(a:∀ρ H,RD K ρ H d v):∀σ H Q,jA K (rD K) (fC d) σ H Q->tC v σ H Q:=λ_ H _ ⟨ρ,_,_,r,h⟩=>h.here r (a ρ H)
theorem ak {i:Int}{j}:ME X (.Constant (.int i) j pos) (fC (.int i)):=PE.imp Bh (mj λ_ _=>by simp only[RD])
theorem nh {b j}:ME X (.Constant (.bool b) j pos) (fC (.bl b)):=PE.imp HL (mj λ_ _=>by simp only[RD])
theorem bR {j}:ME X (.Constant .none j pos) (fC .non):=PE.imp Fq (mj λ_ _=>by simp only[RD])
theorem aw {j}(l:List Nat)(h:x=toS l):ME X (.Constant (.str x) j pos) (fC (.str l)):=PE.imp oy (mj λ_ _=>by simp only[RD];rw[h])
theorem kU  {i:Int} {t:Tok} (a:Gl X x) (b:X.mg x=some (.int i t)) (hd:(x == ("__debug__" : Str))=false:=by decide):ME X (.Name x pos) (fC (.int i)) :=
 PE.imp (j0 (v:=.int i) a b ⟨t,rfl⟩ hd) (mj λ_ _=>by simp only[RD])
theorem me2 {a b:Expr}{o q:EF}{r:R2}{g:O2}(h:PE X e (tOp r (jA X.K (rD X.K) o) (jA X.K (rD X.K) q)))
  (A:∀ρ H σd hd σ d k v w Q,RS X.K ρ H σd hd σ->RD X.K ρ H d v->RD X.K ρ H k w->bn X.K (rD X.K) ρ H σd σ (g d k hd) Q->r v w H Q):ME X e (ao g o q):=by
 refine PE.imp h λσ H Q ⟨ρ,σd,hd,x,p⟩ => ?_;refine⟨ρ,σd,hd,x,(bn.bind p).imp λv B ⟨m,d,j,C,c,t,u⟩ => ?_⟩;refine⟨m,σd,j,c,(bn.bind u).imp λw s ⟨f,k,l,z,n,i,y⟩ => ?_⟩;exact A f s σd l σ d k v w Q n (t.mono (c.hp.kp z)) i y
def Og (K:ZW) (g:O2) (r:R2):Prop:=∀ρ H σd hd σ d k v w Q,RS K ρ H σd hd σ->RD K ρ H d v->RD K ρ H k w->bn K (rD K) ρ H σd σ (g d k hd) Q->r v w H Q
theorem bf {a:Expr}{d c:EF}{op:Operator}{r:R2}{g:O2}(e:OpR X (binaryOp op) r)(i:Og X.K g r)(h:ME X a d)(f:ME X b c):ME X (.BinOp a op b pos) (ao g d c) :=
 me2 (a:=a) (b:=b) (Bp e h f) i
theorem gs {a:Expr}{d c:EF}{op:CmpOp}{r:R2}{g:O2}(e:OpR X (compareOp op) r)(i:Og X.K g r)(h:ME X a d)(f:ME X b c)(j:behindInMarks op b=false):ME X (.Compare a [op] [b] pos) (ao g d c) :=
 me2 (a:=a) (b:=b) (DN e h f j) i
theorem BE {g:Int->Int->Int}:Og K (oI g) (rI0 λi j=>.int (g i j)):=by
 intro ρ H σd e σ d k v w Q c b a p;cases d<;>cases k<;>first|exact p.elim|skip
 simp only[RD]at b a;exact⟨_,_,b,a,p.here c (by simp only[rD,RD])⟩
theorem kj {g:Int->Int->Bool}:Og K (oB g) (rI0 λi j=>.bl (g i j)):=by
 intro ρ H σd e σ d k v w Q c b a p;cases d<;>cases k<;>first|exact p.elim|skip
 simp only[RD]at b a;exact⟨_,_,b,a,p.here c (by simp only[rD,RD])⟩
theorem yW {c:Int->Int->Bool}{C:Int->Int->Prop}{g:Int->Int->Int}(h:∀i j,c i j=true->C i j):Og K (oIc c g) (rI C λi j=>.int (g i j)):=by
 intro ρ H σd l σ d k v w Q f b a p;cases d<;>cases k<;>first|exact p.elim|skip
 rename_i i j
 simp only[RD]at b a;cases e:c i j with
 | false=>simp only[oIc,e]at p;exact p.elim
 | true =>
  simp only[oIc,e,Y7]at p;exact⟨i,j,b,a,h i j e,p.here f (by simp only[rD,RD])⟩
theorem tD {i:Int}(h:sml i=true) : -(2 ^ 64) < i/\i < 2 ^ 64:=by
 simp only[sml,Z4,YN]at h;exact h
theorem iQ:Og K im (rI DM λi j=>.int (i * j)):=yW λi j h=>by
 rcases (Bool.or_eq_true _ _).mp h with q|q
 ·exact .inl (tD q)
 ·exact .inr (tD q)
theorem fP:Og K fX (rI (λ_ j=>0 < j) λi j=>.int (i % j)):=yW λi j h=>YC h
def Im (_ j:Int):Prop:=0 < j/\j < 2 ^ 250
theorem BF:OpR X (binaryOp .FloorDiv) (rI Im λi j=>.int (i / j)):=opI λi j _ _ _ _ _ a q=>by
 have d:j≠0:=by have:=a.1;omega
 refine PyProof.Rows.floordiv_int d (by rw[Int.fdiv_eq_ediv_of_nonneg _ (Int.le_of_lt a.1)];exact q) (.inl (PyProof.noPylong_of_log2 ?_));have c:j.natAbs < 2 ^ 250:=by have:=a.2;have:=a.1;omega
 have b:j.natAbs≠0:=by omega
 have:=(Nat.log2_lt b).mpr c;omega
theorem FX:Og K BD (rI Im λi j=>.int (i / j)):=yW λi j h=>by
 simp only[Z4,YN]at h;exact h
theorem FY:Og K Ik (rI HZ λi j=>.int (i ^ j.toNat)):=yW λi j h=>by
 simp only[Z4,YN]at h;have:=tD h.2;exact⟨h.1.1,h.1.2,by omega⟩
theorem BG {d:D}{v:V}(h:RD K ρ H d v):rK d=decide (v=.non):=by
 cases d<;>simp only[RD]at h
 ·subst h;rfl
 ·subst h;rfl
 ·subst h;rfl
 ·subst h;rfl
 ·obtain⟨p,a,rfl,_⟩:=h;rfl
 ·obtain⟨p,a,rfl⟩:=h;rfl
 ·obtain⟨p,a,rfl,_⟩:=h;rfl
 ·rcases h with ⟨_,_,p,a,rfl,_⟩|⟨_,p,a,rfl,_⟩<;>rfl
theorem kD:Og K ju (λx y H Q=>y=.non/\Q (.bl (decide (x=.non))) H):=by
 intro ρ H σd f σ d k v w Q c b a p;unfold ju at p;cases e:rK k with
 | false=>rw[e]at p;exact p.elim
 | true =>
  rw[e,yD rfl]at p;refine⟨YC ((BG a).symm.trans e),?_⟩;rw[<-BG b];exact p.here c (by simp only[rD,RD])
theorem iq {σd:Sd}{σ:St}{r:Res D}{Q:Bool->Hp->Prop}(h:bn K rB ρ H σd σ (asB r) Q):bn K (rD K) ρ H σd σ r (λx f=>∃c,x=.bl c/\Q c f):=by
 refine(bn.bind h).imp λv k ⟨g,d,i,j,a,b,e⟩ => ?_;cases d<;>first|exact e.elim|skip
 simp only[rD,RD]at b;exact⟨_,b,e.here a rfl⟩
theorem cQ (h:ME X e f)(he:∀a,isTrue e X.env a=(do let v <-a;standAt e.pos;holding [v] (truthy v)):=by intro _;rfl):MT X e (tE f) :=
 PT.imp (oA h he) λσ H Q ⟨ρ,σd,c,b,p⟩=>⟨ρ,σd,c,b,iq p⟩
theorem aV {a:Expr}{m n:EF}{op:CmpOp}{r:R2}{g:O2}(u:OpR X (compareOp op) r)(C:Og X.K g r)(t:ME X a m)(s:ME X b n)(D:behindInMarks op b=false):MT X (.Compare a [op] [b] pos) (tE (ao g m n)):=by
 refine PT.imp (yQ u t s D) λσ H Q ⟨ρ,σd,z,y,p⟩ => ?_;have p:=iq p;refine⟨ρ,σd,z,y,(bn.bind p).imp λv E ⟨j,d,h,F,c,q,x⟩ => ?_⟩;refine⟨j,σd,h,c,(bn.bind x).imp λw o ⟨e,k,i,B,l,f,A⟩ => ?_⟩;exact C e o σd i σ d k v w _ l (q.mono (c.hp.kp B)) f A
theorem cR {a:Expr}(h:MT X a t):MT X (.UnaryOp .Not a pos) (dh t):=by
 refine PT.imp (Bi h) λσ H Q ⟨ρ,σd,i,g,p⟩=>⟨ρ,σd,i,g,(bn.bind p).imp λc l ⟨j,d,k,m,b,e,f⟩ => ?_⟩;cases e;exact f.here b rfl
theorem dU {op a}(h:MT X a t)(b:op=BoolOp.And\/op=BoolOp.Or):MW X (.BoolOp op [a] pos) t:=by
 rcases b with rfl|rfl
 ·exact yN h
 ·exact Fs h
theorem xH {a:Expr}{rest:List Expr}{u:TF}(m:MT X a t)(k:MW X (.BoolOp .And (b :: rest) pos) u):MW X (.BoolOp .And (a :: b :: rest) pos) (jr t u):=by
 refine PW.imp (xr m k) λσ H Q ⟨ρ,σd,l,j,p⟩=>⟨ρ,σd,l,j,(bn.bind p).imp λc n ⟨g,d,h,o,e,i,f⟩ => ?_⟩;cases i;cases c with
 | true=>simp only[Y7]at f ⊢;exact⟨g,σd,h,e,f⟩
 | false=>simp only[YP,WB]at f ⊢;exact f.here e rfl
theorem fm {a:Expr}{rest:List Expr}{u:TF}(m:MT X a t)(k:MW X (.BoolOp .Or (b :: rest) pos) u):MW X (.BoolOp .Or (a :: b :: rest) pos) (tOr t u):=by
 refine PW.imp (HM m k) λσ H Q ⟨ρ,σd,l,j,p⟩=>⟨ρ,σd,l,j,(bn.bind p).imp λc n ⟨g,d,h,o,e,i,f⟩ => ?_⟩;cases i;cases c with
 | true=>simp only[Y7]at f ⊢;exact f.here e rfl
 | false=>simp only[YP,WB]at f ⊢;exact⟨g,σd,h,e,f⟩
theorem MW.mt (h:MW X e t):MT X e t:=h.pt
theorem D0 {σ:St}{Q:VK}(h:jA K (rD K) (fT t) σ H Q):jA K rB t σ H (λb e=>Q (.bl b) e):=by
 obtain⟨ρ,σd,j,i,p⟩:=h;refine⟨ρ,σd,j,i,(bn.bind p).imp λc m ⟨k,d,l,n,a,f,g⟩ => ?_⟩;cases f;exact g.here a (by simp only[rD,RD])
def MB (X:Cx) (e:Expr) (t:TF):Prop:=PE X e (λσ H Q=>jA X.K rB t σ H λb H'=>Q (.bl b) H')
theorem MB.me (h:MB X e t):ME X e (fT t):=PE.imp h λ_ _ _ q=>D0 q
theorem gu (h:ME X e f):MB X e (tE f):=by
 refine PE.imp h λσ H Q ⟨ρ,σd,b,a,p⟩=>⟨ρ,σd,b,a,(iq p).imp ?_⟩;rintro v d ⟨c,rfl,q⟩;exact q
theorem jB {op a}(h:MB X a t):MB X (.BoolOp op [a] pos) t:=Ft h
theorem tF {a:Expr}{rest:List Expr}{u:TF}(m:MB X a t)(k:MB X (.BoolOp .And (b :: rest) pos) u):MB X (.BoolOp .And (a :: b :: rest) pos) (jr t u):=by
 refine PE.imp (Fu m k) λσ H Q ⟨ρ,σd,l,j,p⟩=>⟨ρ,σd,l,j,(bn.bind p).imp λc n ⟨g,d,h,o,e,i,f⟩=>⟨c,rfl,?_⟩⟩;cases i;cases c with
 | true=>simp only[Y7]at f ⊢;exact⟨g,σd,h,e,f⟩
 | false=>simp only[YP,WB]at f ⊢;exact f.here e rfl
theorem yX {a:Expr}{rest:List Expr}{u:TF}(m:MB X a t)(k:MB X (.BoolOp .Or (b :: rest) pos) u):MB X (.BoolOp .Or (a :: b :: rest) pos) (tOr t u):=by
 refine PE.imp (HQ m k) λσ H Q ⟨ρ,σd,l,j,p⟩=>⟨ρ,σd,l,j,(bn.bind p).imp λc n ⟨g,d,h,o,e,i,f⟩=>⟨c,rfl,?_⟩⟩;cases i;cases c with
 | true=>simp only[Y7]at f ⊢;exact f.here e rfl
 | false=>simp only[YP,WB]at f ⊢;exact⟨g,σd,h,e,f⟩
theorem FZ {a:Expr}(h:MB X a t):MB X (.UnaryOp .Not a pos) (dh t):=by
 refine PE.imp (Fv h) λσ H Q ⟨ρ,σd,i,g,p⟩=>⟨ρ,σd,i,g,(bn.bind p).imp λc l ⟨j,d,k,m,b,e,f⟩=>⟨c,rfl,?_⟩⟩;cases e;exact f.here b rfl
theorem Io {c a:Expr}{i j:EF}(n:MT X c t)(m:ME X a i)(l:ME X b j):ME X (.IfExp c a b pos) (fIf t i j):=by
 refine PE.imp (Bj n m l) λσ H Q ⟨ρ,σd,q,o,p⟩=>⟨ρ,σd,q,o,(bn.bind p).imp λc r ⟨g,d,f,s,e,k,h⟩ => ?_⟩;cases k;cases c with
 | true=>simp only[Y7]at h ⊢;exact⟨g,σd,f,e,h⟩
 | false=>simp only[YP,WB]at h ⊢;exact⟨g,σd,f,e,h⟩
end
section
variable {X:Cx} {pos:Pos}
theorem oU {σd:Sd}{hd:Hd}{σ:St}{r A:R2}{g k:O2}{D B x:EF}{Q:VK}(R:Og K g r)(U:Og K k A)(rs:RS K ρ H σd hd σ)
  (p:bn K (rD K) ρ H σd σ (fN g k D B x σd hd) Q):xx r A (jA K (rD K) D) (jA K (rD K) B) (jA K (rD K) x) σ H Q:=by
 refine⟨ρ,σd,hd,rs,(bn.bind p).imp λv W ⟨l,d,o,Y,c,G,L⟩ => ?_⟩;refine⟨l,σd,o,c,(bn.bind L).imp λw S ⟨i,y,j,P,f,e,N⟩ => ?_⟩;refine R i S σd j σ d y v w _ f (G.mono (c.hp.kp P)) e ((bn.bind N).imp λz V ⟨n,T,t,E,a,C,s⟩ => ?_);cases T<;>first|exact s.elim|skip
 rename_i b
 simp only[rD,RD]at C;refine⟨b,C,?_⟩;cases b with
 | false =>
  rw[wR wV];exact s.here a (by simp only[rD,RD])
 | true =>
  rw[yD rfl];refine⟨n,σd,t,a,(bn.bind s).imp λu M ⟨q,F,h,O,m,I,J⟩ => ?_⟩;exact U q M σd h σ y F w u Q m ((e.mono (f.hp.kp E)).mono (a.hp.kp O)) I J
theorem BH {a c:Expr}{j i:EF}{op d:CmpOp}{r h:R2}{g k:O2}(l:OpR X (compareOp op) r)(e:OpR X (compareOp d) h)(t:Og X.K g r)(u:Og X.K k h)(o:ME X a j)(n:ME X b i)(s:ME X c f)
  (q:lastMarks [op,d] [b,c] = false:=by with_unfolding_all rfl):ME X (.Compare a [op,d] [b,c] pos) (fN g k j i f) :=
 PE.imp (Bq l e o n s q) λ_ _ _ ⟨_,_,_,m,p⟩=>oU t u m p
theorem oV {a c:Expr}{j i:EF}{op d:CmpOp}{r h:R2}{g k:O2}(l:OpR X (compareOp op) r)(e:OpR X (compareOp d) h)(t:Og X.K g r)(u:Og X.K k h)(o:ME X a j)(n:ME X b i)(s:ME X c f)
  (q:lastMarks [op,d] [b,c] = false:=by with_unfolding_all rfl):MT X (.Compare a [op,d] [b,c] pos) (tE (fN g k j i f)) :=
 PT.imp (Br l e o n s q) λ_ _ _ ⟨_,_,_,m,p⟩=>oU t u m (iq p)
theorem aq:MA X [] am:=PA.imp cy λ_ _ _ ⟨_,_,_,a,p⟩=>p.here a RDs.nil
theorem ag {b:List Expr}{r:LF}(he:ME X e f)(t:MA X b r)(n:starEach (e :: b) X.env=(false,eval e X.env) :: starEach b X.env:=by rfl):MA X (e :: b) (ae f r):=by
 refine PA.imp (bh he t n) λσ H Q ⟨ρ,σd,q,o,p⟩ => ?_;refine⟨ρ,σd,q,o,(bn.bind p).imp λv y ⟨h,d,c,z,a,j,m⟩ => ?_⟩;refine⟨h,σd,c,a,(bn.bind m).imp λA w ⟨k,x,l,u,i,g,s⟩ => ?_⟩;exact s.here i (RDs.cons (j.mono (a.hp.kp u)) g)
theorem nU {n:Nat}(h:n<=SZ):n<=sizeLine:=ZL h (by decide)
theorem dL {f:List Expr}{k}{r:LF}(h:MA X f r):ME X (.Tuple f k pos) (dR r):=by
 refine PE.imp (Bs h) λσ H Q ⟨ρ,σd,l,j,p⟩ => ?_;refine⟨ρ,σd,l,j,(bn.bind p).imp λg t ⟨m,s,n,u,c,a,b⟩ => ?_⟩
 by_cases e:s.length<=SZ
 ·rw[yD e]at b
  refine⟨by rw[<-a.length];exact nU e,λq i => ?_⟩;have d:=cC (o:=HO.tup g) i;exact b.at (Ext.same d) (c.same d) (by simp only[rD,RD];exact⟨q,g,rfl,aM,a.mono (Kp.same d)⟩)
 ·rw[wR e]at b;exact b.elim
theorem Ext.fresh {ρ':List Addr}{a:Hp}{q:Addr}(e:Ext ρ H ρ' a)(h:a q=none)(n:q ∉ ρ'):H q=none:=by
 cases z:H q with
 | none=>rfl
 | some o =>
  by_cases b:q ∈ ρ
  ·obtain⟨t,rfl⟩:=e.pre
   exact absurd (WV t b) n
  ·rw[e.frame q o z b]at h;cases h
theorem RH.free {hd:Hd}(r:RH K ρ H hd){q:Addr}(h:H q=none):q ∉ ρ:=λz=>by
 rcases r.mut z with ⟨_,e⟩|⟨_,e⟩|⟨_,e⟩|⟨_,_,_,e⟩<;>(rw[h]at e;cases e)
theorem vF.mk {a:List Addr}{c:Hp}{d:Hd}{σd:Sd}{σ:St}{Q:VK}(p:vF K ρ H σd σ (.ok l d) Q)(h:Ext ρ H a c)(b:RS K a c σd d σ)(r:RDs K a c l vs) :
  ∀q,c q=none->Q (.ref q) (upd c q (.lst vs)):=λq f=>by
 have e:=cC (o:=HO.lst vs) f;have g:=b.hp.free f;exact p q vs _ a (h.trans (Ext.same e)) (b.same e) (h.fresh f g) aM g (r.mono (Kp.same e))
theorem bE {d:List Expr}{r:LF}(h:MA X d r)(f:∀σd hd c hd',r σd hd=.ok c hd'->c.length<=SZ):MF X (.List d pos) r:=by
 refine PE.imp (FL h) λσ H Q ⟨ρ,σd,hd,g,p⟩ => ?_;refine⟨ρ,σd,hd,g,?_⟩;cases e:r σd hd with
 | exc x m=>rw[e]at p;exact p
 | bad=>rw[e]at p;exact p
 | ok c k =>
  rw[e]at p;intro n l j i b a;exact⟨by rw[<-RDs.length a];exact nU (f _ _ _ _ e),p.mk i b a⟩
theorem ah {r:LF}{n:Nat}(h:∀σd hd a hd',r σd hd=.ok a hd'->a.length=n):∀σd hd a hd',ae f r σd hd=.ok a hd'->a.length=n + 1:=by
 intro σd hd a hd' e;simp only[ae]at e;cases c:f σd hd with
 | exc x g=>rw[c]at e;cases e
 | bad=>rw[c]at e;cases e
 | ok d i =>
  rw[c]at e;simp only[az]at e;cases b:r σd i with
  | exc x g=>rw[b]at e;cases e
  | bad=>rw[b]at e;cases e
  | ok j k =>
   rw[b]at e;simp only[az]at e;cases e;simp[h _ _ _ _ b]
theorem aS:∀σd hd a hd',am σd hd=.ok a hd'->a.length=0:=by
 intro σd hd a hd' e;simp only[am]at e;cases e;rfl
theorem aR {r:LF}(h:MF X e r):ME X e (aL r):=by
 refine PE.imp h λσ H Q ⟨ρ,σd,k,j,p⟩=>⟨ρ,σd,k,j,?_⟩;unfold aL at p;cases e:r σd k with
 | exc x y=>rw[e]at p;exact p
 | bad=>rw[e]at p;exact p
 | ok v u =>
  rw[e]at p;simp only[az]at p;intro q A w g f b c n s d
  by_cases i:v.length<=SZ
  ·rw[yD i]at p
   have m:=b.hp.alloc n s d;have l:Ext ρ H (g++[q]) w:=⟨by obtain⟨t,rfl⟩:=f.pre;exact⟨t++[q],by simp⟩,λa o=>by
    rcases Z0.mp o with z|z
    ·exact f.new a z
    ·simp at z;subst z;exact .inr c,f.frame⟩
   refine p.at l (j.ext l m) ?_;simp only[rD,RD];refine⟨q,?_,rfl⟩;rw[<-b.hp.len];simp
  ·rw[wR i]at p;exact p.elim
theorem iR {r:LF}(h:MF X e r):MQ X e r:=by
 refine PE.imp h λσ H Q ⟨ρ,σd,d,i,p⟩=>⟨ρ,σd,d,i,?_⟩;cases e:r σd d with
 | exc x o=>rw[e]at p;exact p
 | bad=>rw[e]at p;exact p
 | ok s l =>
  rw[e]at p;intro q m j c k a f g n b;exact p (.ref q) j c k a ⟨q,m,rfl,.inl (SqL.of g),b⟩
theorem ng.sq {a:Addr}{xs:List V}(h:ng K H a xs):SqL K H a xs:=by
 rcases h with ⟨o,h⟩|h
 ·exact .inl (.inr ⟨o,h⟩)
 ·exact .inr h
theorem tG {hd:Hd}{d:D}{v:V}(r:RH K ρ H hd)(h:RD K ρ H d v)(e:io hd d=some l):∃p vs,v=.ref p/\(SqL K H p vs\/H p=some (.tup vs))/\RDs K ρ H l vs:=by
 cases d<;>simp only[io]at e<;>try (cases e;done)
 ·cases e
  simp only[RD]at h;obtain⟨p,vs,b,f,g⟩:=h;exact⟨p,vs,b,.inr f,g⟩
 ·rename_i n
  simp only[RD]at h;obtain⟨a,b,f⟩:=h;cases c:hd[n]? with
  | none=>rw[c]at e;cases e
  | some x =>
   rw[c]at e;cases x with
   | dct l=>cases e
   | dcT l=>cases e
   | ob l=>cases e
   | lst k =>
    cases e;obtain⟨vs,i,j⟩:=r.cel n _ a c b;exact⟨a,vs,f,.inl (SqL.of i),j⟩
 ·cases e
  simp only[RD]at h;obtain⟨p,vs,b,f,g⟩:=h;exact⟨p,vs,b,.inl f.sq,g⟩
theorem cu (h:ME X e f):MQ X e (lOf f):=by
 refine PE.imp h λσ H Q ⟨ρ,σd,j,i,p⟩=>⟨ρ,σd,j,i,(bn.bind p).imp λv m ⟨k,d,c,n,a,g,b⟩ => ?_⟩;cases e:io c d with
 | none=>rw[e]at b;exact b.elim
 | some l=>rw[e]at b;exact b.here a (tG a.hp g e)
theorem yY {i:Int}{d:D}(r:RDs K ρ H l vs)(e:atI l i=some d):∃v,L2.atI vs i=some v/\RD K ρ H d v:=by
 unfold atI at e;unfold L2.atI;have b:=r.length;have a:ixN l.length i=L2.ixN vs.length i:=by rw[b];rfl
 rw[a]at e;cases c:L2.ixN vs.length i with
 | none=>rw[c]at e;cases e
 | some j =>
  rw[c]at e;simp only[Option.bind_some]at e ⊢;exact r.get e
theorem bi {a:Expr}{n r:EF}(A:ME X a n)(z:ME X b r)(B:nT b):ME X (.Subscript a b pos) (fAt n r):=by
 refine me2 (a:=a) (b:=b) (Bz FP A z B) λρ H σd C σ d k v w Q h y c p => ?_;unfold oAt at p;cases e:io C d with
 | none=>rw[e]at p;exact p.elim
 | some l =>
  rw[e]at p;cases k<;>first|exact p.elim|skip
  rename_i i
  simp only at p;cases j:atI l i with
  | none=>rw[j]at p;exact p.elim
  | some x =>
   rw[j]at p;simp only[RD]at c;obtain⟨q,s,t,f,g⟩:=tG h.hp y e;obtain⟨u,o,m⟩:=yY g j;rcases f with f|f
   ·exact .inl ⟨q,s,i,u,t,c,f,o,p.here h m⟩
   ·exact .inr (.inl ⟨q,s,i,u,t,c,SqT.of f,o,p.here h m⟩)
theorem kW {a:Expr}{h:LF}{s:EF}(A:MF X a h)(z:ME X b s)(G:nT b):ME X (.Subscript a b pos) (fIx h s):=by
 refine PE.imp (Bz yU A z G) λσ H Q ⟨ρ,σd,r,I,p⟩=>⟨ρ,σd,r,I,?_⟩;unfold fIx at p;cases e:h σd r with
 | exc x M=>rw[e]at p;exact p
 | bad=>rw[e]at p;exact p
 | ok l j =>
  rw[e]at p;simp only[az]at p;intro q K N n J d D v B m;refine⟨n,σd,j,d,(bn.bind (p.ext J)).imp λw L ⟨y,k,E,t,o,f,c⟩ => ?_⟩;cases k<;>first|exact c.elim|skip
  rename_i i
  simp only at c;cases g:atI l i with
  | none=>rw[g]at c;exact c.elim
  | some x =>
   rw[g]at c;simp only[rD,RD]at f;obtain⟨u,F,C⟩:=yY (m.mono (d.hp.kp t)) g;exact⟨q,K,i,u,rfl,f,SqL.of (t.frame q _ v B),F,c.here o C⟩
end
variable {p:Pos}
section
variable {X:Cx} {pos:Pos}
def B1 (X:Cx) (r:List V->Hp->VK->Prop) (x:Str) (p pos:Pos) (a:Expr):Prop:=∀t,PA X [a] t->PE X (.Call (.Name x p) [a] [] pos) (tCB r t)
theorem BI   {a:Expr} {id:String} {r:List V->Hp->VK->Prop} (e:fg X (.builtin id) r) (f:Gl X x) (g:X.mg x=none) (h:bootBuiltins x=some (.builtin id)) (d:x ≠ "__name__" := by decide) (b:(x == ("__debug__" : Str))=false:=by decide)
  (he:starEach [a] X.env=(false,eval a X.env) :: starEach [] X.env:=by rfl):B1 X r x p pos a:=λ_ c=>ek e f g h c d b he
theorem BJ   {a:Expr} {T:String} {r:List V->Hp->VK->Prop} (e:fg X (.type T) r) (f:Gl X x) (g:X.mg x=none) (h:bootBuiltins x=some (.type T)) (d:x ≠ "__name__" := by decide) (b:(x == ("__debug__" : Str))=false:=by decide)
  (he:starEach [a] X.env=(false,eval a X.env) :: starEach [] X.env:=by rfl):B1 X r x p pos a:=λ_ c=>rG e f g h c d b he
theorem xI {a:Expr}{f:LF}{r:List V->Hp->VK->Prop}{g:List D->Hd->Res D}(k:B1 X r x p pos a)(m:MQ X a f)
  (u:∀ρ H σd hd σ l q vs Q,RS X.K ρ H σd hd σ->(SqL X.K H q vs\/H q=some (.tup vs))->RDs X.K ρ H l vs->bn X.K (rD X.K) ρ H σd σ (g l hd) Q->r [.ref q] H Q)
  (o:starEach [a] X.env=(false,eval a X.env) :: starEach [] X.env:=by rfl):ME X (.Call (.Name x p) [a] [] pos) (λσ h=>(f σ h).bind λl h=>g l h):=by
 refine PE.imp (k _ (bh m cy o)) λσ H Q ⟨ρ,σd,hd,s,j⟩=>⟨ρ,σd,hd,s,(bn.bind j).imp λv t ⟨e,l,c,y,b,⟨q,vs,w,i,d⟩,n⟩ => ?_⟩;subst w;exact u e t σd c σ l q vs Q b i d n
theorem BK {a:Expr}{r:List V->Hp->VK->Prop}{g:D->Hd->Res D}(k:B1 X r x p pos a)(l:ME X a f)
  (s:∀ρ H σd hd σ d v Q,RS X.K ρ H σd hd σ->RD X.K ρ H d v->bn X.K (rD X.K) ρ H σd σ (g d hd) Q->r [v] H Q)
  (n:starEach [a] X.env=(false,eval a X.env) :: starEach [] X.env:=by rfl):ME X (.Call (.Name x p) [a] [] pos) (λσ h=>(f σ h).bind λx h=>g x h):=by
 refine PE.imp (k _ (bh l cy n)) λσ H Q ⟨ρ,σd,hd,o,j⟩=>⟨ρ,σd,hd,o,(bn.bind j).imp λv q ⟨e,d,c,t,b,i,m⟩ => ?_⟩;exact s e q σd c σ d v Q b i m
theorem cj  {a:Expr} {d:LF} (h:Gl X "len") (j:X.mg "len" = none) (g:MQ X a d) (c:starEach [a] X.env=(false,eval a X.env) :: starEach [] X.env:=by rfl):ME X (.Call (.Name "len" p) [a] [] pos) (cr d) :=
 xI (BI sZ h j PySem.boot_len (he:=c)) g (λρ H σd k σ l q i Q f e b p=>⟨q,i,rfl,e.imp id SqT.of,by rw[<-b.length];exact p.here f (by simp only[rD,RD])⟩) c
theorem iS  {a:Expr} {h:LF} (n:Gl X "tuple") (m:X.mg "tuple" = none) (j:MQ X a h) (f:starEach [a] X.env=(false,eval a X.env) :: starEach [] X.env:=by rfl):ME X (.Call (.Name "tuple" p) [a] [] pos) (gR h):=by
 refine xI (BJ qy n m (by decide +kernel) (he:=f)) j (λρ H σd r σ l q d Q g b c p=>⟨q,d,rfl,?_⟩) f;rcases b with b|b
 ·refine .inl ⟨b,λk i => ?_⟩
  have e:=cC (o:=HO.tup d) i;exact p.at (Ext.same e) (g.same e) (by simp only[rD,RD];exact⟨k,d,rfl,aM,c.mono (Kp.same e)⟩)
 ·exact .inr ⟨SqT.of b,p.here g (by simp only[rD,RD];exact⟨q,d,rfl,b,c⟩)⟩
theorem ir {K:ZW}{ρ:List Addr}{H:Hp}:∀{l:List D} {vs:List V} {is:List Int},RDs K ρ H l vs->fE l=some is->vs=is.map V.int
 | [],_,is,r,e=>by simp only[fE]at e;cases e;simp only[RDs]at r;subst r;rfl
 | d :: l,_,is,r,e=>by
  simp only[RDs]at r;obtain⟨v,vs,rfl,h1,a⟩:=r;cases d<;>simp only[fE]at e<;>try (cases e;done)
  rename_i i
  cases c:fE l with
  | none=>rw[c]at e;cases e
  | some b =>
   rw[c]at e;cases e;simp only[RD]at h1;rw[h1,ir a c];rfl
end
section
variable {K:ZW} {ρ:List Addr} {H:Hp}
mutual
theorem vG:∀{d k:D} {v:V} {b:Bool},RD K ρ H d v->RD K ρ H k v->peq d k=some b->b=true
 | .int i,k,v,b,h1,a,e=>by
  simp only[RD]at h1;subst h1;cases k<;>simp only[RD]at a<;>try (cases a;done)
  all_goals first
   | (rcases a with ⟨_,_,_,_,z,_⟩|⟨_,_,_,z,_⟩<;>(cases z;done))
   | (cases a;simp only[peq]at e;simpa using e.symm)
   | (obtain⟨_,_,z,_⟩:=a;cases z;done)
   | (obtain⟨_,_,z⟩:=a;cases z;done)
   | (obtain⟨_,_,_,z,_⟩:=a;cases z;done)
 | .bl i,k,v,b,h1,a,e=>by
  simp only[RD]at h1;subst h1;cases k<;>simp only[RD]at a<;>try (cases a;done)
  all_goals first
   | (rcases a with ⟨_,_,_,_,z,_⟩|⟨_,_,_,z,_⟩<;>(cases z;done))
   | (cases a;simp only[peq]at e;simpa using e.symm)
   | (obtain⟨_,_,z,_⟩:=a;cases z;done)
   | (obtain⟨_,_,z⟩:=a;cases z;done)
   | (obtain⟨_,_,_,z,_⟩:=a;cases z;done)
 | .str x,k,v,b,h1,a,e=>by
  simp only[RD]at h1;subst h1;cases k<;>simp only[RD]at a<;>try (cases a;done)
  all_goals first
   | (rcases a with ⟨_,_,_,_,z,_⟩|⟨_,_,_,z,_⟩<;>(cases z;done))
   | (simp only[peq]at e;simp only[toS,V.str.injEq,PySem.Str.mk.injEq]at a;have h:=congrArg Array.toList a;simp at h;subst h;simpa using e.symm)
   | (obtain⟨_,_,z,_⟩:=a;cases z;done)
   | (obtain⟨_,_,z⟩:=a;cases z;done)
   | (obtain⟨_,_,_,z,_⟩:=a;cases z;done)
 | .non,k,v,b,h1,a,e=>by
  simp only[RD]at h1;subst h1;cases k<;>simp only[RD]at a<;>try (cases a;done)
  all_goals first
   | (rcases a with ⟨_,_,_,_,z,_⟩|⟨_,_,_,z,_⟩<;>(cases z;done))
   | (simp only[peq]at e;simpa using e.symm)
   | (obtain⟨_,_,z,_⟩:=a;cases z;done)
   | (obtain⟨_,_,z⟩:=a;cases z;done)
   | (obtain⟨_,_,_,z,_⟩:=a;cases z;done)
 | .tup xs,k,v,b,h1,a,e=>by
  simp only[RD]at h1;obtain⟨p,vs,rfl,hp,j⟩:=h1;cases k<;>simp only[peq]at e<;>try (cases e;done)
  ·simp only[RD]at a;cases a
  ·simp only[RD]at a;cases a
  ·rename_i m
   simp only[RD]at a;obtain⟨q,o,z,f,g⟩:=a;cases z;rw[hp]at f;cases f;cases c:gQ xs m with
   | none=>rw[c]at e;cases e
   | some r =>
    rw[c]at e;simp only[XE,YW]at e;have:=rM j g c;subst this;rw[<-e,j.length,g.length];simp
 | .ref n,k,v,b,h1,a,e=>by cases k<;>simp only[peq]at e<;>cases e
 | .lit l,k,v,b,h1,a,e=>by cases k<;>simp only[peq]at e<;>cases e
 | .exn c l,k,v,b,h1,a,e=>by simp only[peq]at e<;>cases e
theorem rM:∀{xs ys:List D} {vs:List V} {b:Bool},RDs K ρ H xs vs->RDs K ρ H ys vs->gQ xs ys=some b->b=true
 | [],_,_,_,_,_,e=>by simp only[gQ]at e;cases e;rfl
 | x :: xs,[],_,_,_,_,e=>by simp only[gQ]at e;cases e;rfl
 | x :: xs,y :: ys,_,b,h1,d,e=>by
  simp only[RDs]at h1 d;obtain⟨v,r,rfl,h,g⟩:=h1;obtain⟨j,k,z,f,i⟩:=d;cases z;simp only[gQ]at e;cases c:peq x y with
  | none=>rw[c]at e;cases e
  | some p =>
   cases a:gQ xs ys with
   | none=>rw[c,a]at e;cases e
   | some q =>
    rw[c,a]at e;simp only[YW]at e;rw[<-e,vG h f c,rM g i a];rfl
end
end
section
variable {K:ZW} {ρ:List Addr} {H:Hp} {P:T3} {w:T4} {s:T1}
theorem iT (hok:HOk P w H s.heap){p:Addr}(h:H p=some (.tup vs)):∃a:List T0,aY vs a/\s.heap.IsTuple p a.toArray:=by
 obtain⟨z,a,r,t⟩:=hok p _ h;exact⟨a,r,t⟩
mutual
theorem F3 (hok:HOk P w H s.heap):∀{d k:D} {v o:V} {u r:T0} {b:Bool} {A:T2},RD K ρ H d v->RD K ρ H k o->bF v u->bF o r->peq d k=some b->A.units + dep d < cLine->SeqAt.EqAt A s u r b
 | .int i,k,v,o,u,r,b,A,h1,a,h,g,e,m=>by
  simp only[RD]at h1;subst h1;obtain⟨t,rfl⟩:=h;cases k<;>simp only[peq]at e<;>try (cases e;done)
  all_goals cases e
  ·simp only[RD]at a;subst a;cases g;exact SeqAt.EqAt.int_none i t
  ·simp only[RD]at a;subst a;cases g;exact SeqAt.EqAt.int_bool i t _
  ·simp only[RD]at a;subst a;obtain⟨C,rfl⟩:=g;exact VH i t _ C
  ·simp only[RD]at a;obtain⟨p,U,rfl,J,_⟩:=a;cases g
   obtain⟨B,_,F⟩:=iT hok J;exact SeqAt.EqAt.int_tuple i t F (ZR (Nat.le_add_right _ _) m)
 | .bl i,k,v,o,u,r,b,A,h1,a,h,g,e,m=>by
  simp only[RD]at h1;subst h1;cases h;cases k<;>simp only[peq]at e<;>try (cases e;done)
  all_goals cases e
  ·simp only[RD]at a;subst a;cases g;exact SeqAt.EqAt.bool_bool i _
  ·simp only[RD]at a;subst a;obtain⟨C,rfl⟩:=g;exact SeqAt.EqAt.bool_int i _ C
 | .str x,k,v,o,u,r,b,A,h1,a,h,g,e,m=>by
  simp only[RD]at h1;subst h1;obtain⟨t,rfl⟩:=h;cases k<;>simp only[peq]at e<;>try (cases e;done)
  all_goals cases e
  rename_i y
  simp only[RD]at a;subst a;obtain⟨C,rfl⟩:=g;have:decide (x=y)=(toS x == toS y):=by
   by_cases z:x=y
   ·subst z;simp
   ·have : ¬toS x=toS y:=λq=>z (by have:=congrArg (λ(s:Str)=>s.cps.toList) q;simpa[toS] using this)
    simp[z,this]
  rw[this];exact SeqAt.EqAt.str_str _ t _ C
 | .non,k,v,o,u,r,b,A,h1,a,h,g,e,m=>by
  simp only[RD]at h1;subst h1;cases h;cases k<;>simp only[peq]at e<;>try (cases e;done)
  all_goals cases e
  ·simp only[RD]at a;subst a;cases g;exact SeqAt.EqAt.same _
  ·simp only[RD]at a;subst a;obtain⟨C,rfl⟩:=g;exact SeqAt.EqAt.none_int _ C
  ·simp only[RD]at a;obtain⟨p,U,rfl,J,_⟩:=a;cases g
   obtain⟨B,_,F⟩:=iT hok J;exact SeqAt.EqAt.none_tuple F (ZR (Nat.le_add_right _ _) m)
 | .tup T,k,v,o,u,r,b,A,h1,a,h,g,e,m=>by
  have M:=h1;simp only[RD]at h1;obtain⟨p,U,rfl,J,Q⟩:=h1;cases h;obtain⟨B,R,F⟩:=iT hok J;have G:A.units < cLine:=ZR (Nat.le_add_right _ _) m;cases k<;>simp only[peq]at e<;>try (cases e;done)
  ·cases e;simp only[RD]at a;subst a;cases g;exact SeqAt.EqAt.tuple_none F G
  ·cases e;simp only[RD]at a;subst a;obtain⟨C,rfl⟩:=g;exact SeqAt.EqAt.tuple_int _ C F G
  ·rename_i Y
   have O:=a;simp only[RD]at a;obtain⟨W,a0,rfl,L,S⟩:=a;cases g
   by_cases hpp:p=W
   ·subst hpp
    have:b=true:=vG M O (by simp only[peq];exact e);subst this;exact SeqAt.EqAt.same _
   ·obtain⟨E,I,N⟩:=iT hok L
    cases c:gQ T Y with
    | none=>rw[c]at e;cases e
    | some b' =>
     rw[c]at e;simp only[XE,YW]at e;obtain⟨f,Z,X⟩:=nV hok (A:=A.in1) Q S R I c (by simp only[dep]at m;show A.units + 1 + jy T < cLine;omega);have:=SeqAt.RcAt.tuples F N G (λj h1 a=>by simpa using Z j (by simpa using h1) (by simpa using a));rw[<-e,<-X,Q.length,S.length,R.length,I.length];refine SeqAt.EqAt.of_refs hpp ?_;rw[show (decide (B.length=E.length))=(B.length == E.length) from rfl];simpa using this
 | .ref n,k,v,o,u,r,b,A,h1,a,h,g,e,m=>by cases k<;>simp only[peq]at e<;>cases e
 | .lit l,k,v,o,u,r,b,A,h1,a,h,g,e,m=>by cases k<;>simp only[peq]at e<;>cases e
 | .exn c l,k,v,o,u,r,b,A,h1,a,h,g,e,m=>by simp only[peq]at e<;>cases e
theorem nV (hok:HOk P w H s.heap):∀{xs ys:List D} {vs g:List V} {us a:List T0} {b:Bool} {A:T2},RDs K ρ H xs vs->RDs K ρ H ys g->aY vs us->aY g a->gQ xs ys=some b->A.units + jy xs < cLine->
  ∃f:Nat->Bool,(∀j (h1:j < us.length) (d:j < a.length),SeqAt.EqAt A s us[j] a[j] (f j))/\(List.range (min us.length a.length)).all f=b
 | [],ys,vs,g,us,a,b,A,h1,d,h,i,e,l=>by
  simp only[RDs]at h1;subst h1;cases h;simp only[gQ]at e;cases e;exact⟨λ_=>true,λj h1=>by simp at h1,by simp⟩
 | x :: xs,[],vs,g,us,a,b,A,h1,d,h,i,e,l=>by
  simp only[RDs]at d;subst d;cases i;simp only[gQ]at e;cases e;exact⟨λ_=>true,λj h1 d=>by simp at d,by simp⟩
 | x :: xs,y :: ys,vs,g,us,a,b,A,h1,d,h,i,e,l=>by
  simp only[RDs]at h1 d;obtain⟨v,r,rfl,E,z⟩:=h1;obtain⟨I,J,rfl,m,u⟩:=d;cases h with
  | cons C G =>
   cases i with
   | cons B o =>
    simp only[gQ]at e;cases c:peq x y with
    | none=>rw[c]at e;cases e
    | some p =>
     cases k:gQ xs ys with
     | none=>rw[c,k]at e;cases e
     | some q =>
      rw[c,k]at e;simp only[YW]at e;simp only[jy]at l;have t:=F3 hok (A:=A) E m C B c (by omega);obtain⟨f,F,n⟩:=nV hok (A:=A) z u G o k (by omega);refine⟨λj=>match j with|0=>p|j + 1=>f j,λj h1 d => ?_,?_⟩
      ·cases j with
       | zero=>exact t
       | succ j=>exact F j (by simpa using h1) (by simpa using d)
      ·rw[<-e,<-n,ZX,ZX,Nat.succ_min_succ,List.range_succ_eq_map,Y6,List.all_map]
       rfl
end
theorem F4 (hok:HOk P w H s.heap){d k:D}{v G:V}{u F:T0}{b:Bool}{A:T2}(h1:RD K ρ H d v)(a:RD K ρ H k G)(r:bF v u)(i:bF G F)(e:peq d k=some b)(N:A.units + dep d < cLine) :
  SeqAt.RcAt A s u F b/\SeqAt.RcNeAt A s u F (!b):=by
 have g:A.units < cLine:=ZR (Nat.le_add_right _ _) N;cases d<;>simp only[RD]at h1
 ·subst h1;cases r
  cases k<;>simp only[peq]at e<;>try (cases e;done)
  all_goals cases e
  ·simp only[RD]at a;subst a;cases i;exact⟨SeqAt.RcAt.none_none,SeqAt.RcNeAt.none_none⟩
  ·simp only[RD]at a;subst a;obtain⟨h,rfl⟩:=i;exact⟨SeqAt.RcAt.none_int _ h,SeqAt.RcNeAt.none_int _ h⟩
  ·simp only[RD]at a;obtain⟨p,Q,rfl,C,_⟩:=a;cases i
   obtain⟨m,_,l⟩:=iT hok C;exact⟨SeqAt.RcAt.none_tuple l g,SeqAt.RcNeAt.none_tuple l g⟩
 ·subst h1;cases r
  cases k<;>simp only[peq]at e<;>try (cases e;done)
  all_goals cases e
  ·simp only[RD]at a;subst a;cases i;exact⟨SeqAt.RcAt.bool_bool _ _,SeqAt.RcNeAt.bool_bool _ _⟩
  ·simp only[RD]at a;subst a;obtain⟨h,rfl⟩:=i;exact⟨SeqAt.RcAt.bool_int _ _ h,SeqAt.RcNeAt.bool_int _ _ h⟩
 ·subst h1;obtain⟨t,rfl⟩:=r
  cases k<;>simp only[peq]at e<;>try (cases e;done)
  all_goals cases e
  ·simp only[RD]at a;subst a;cases i;exact⟨SeqAt.RcAt.int_none _ t,SeqAt.RcNeAt.int_none _ t⟩
  ·simp only[RD]at a;subst a;cases i;exact⟨SeqAt.RcAt.int_bool _ t _,SeqAt.RcNeAt.int_bool _ t _⟩
  ·simp only[RD]at a;subst a;obtain⟨h,rfl⟩:=i;exact⟨SeqAt.RcAt.int_int _ t _ h,SeqAt.RcNeAt.int_int _ t _ h⟩
  ·simp only[RD]at a;obtain⟨p,Q,rfl,C,_⟩:=a;cases i
   obtain⟨m,_,l⟩:=iT hok C;exact⟨SeqAt.RcAt.int_tuple _ t l g,SeqAt.RcNeAt.int_tuple _ t l g⟩
 ·subst h1;obtain⟨t,rfl⟩:=r
  cases k<;>simp only[peq]at e<;>try (cases e;done)
  all_goals cases e
  rename_i x y
  simp only[RD]at a;subst a;obtain⟨h,rfl⟩:=i;have:decide (x=y)=(toS x == toS y):=by
   by_cases z:x=y
   ·subst z;simp
   ·have : ¬toS x=toS y:=λq=>z (by have:=congrArg (λ(s:Str)=>s.cps.toList) q;simpa[toS] using this)
    simp[z,this]
  rw[this];exact⟨SeqAt.RcAt.str_str _ t _ h,SeqAt.RcNeAt.str_str _ t _ h⟩
 ·rename_i M
  obtain⟨p,Q,rfl,C,I⟩:=h1;cases r;obtain⟨m,J,l⟩:=iT hok C;cases k<;>simp only[peq]at e<;>try (cases e;done)
  ·cases e;simp only[RD]at a;subst a;cases i;exact⟨SeqAt.RcAt.tuple_none l g,SeqAt.RcNeAt.tuple_none l g⟩
  ·cases e;simp only[RD]at a;subst a;obtain⟨h,rfl⟩:=i;exact⟨SeqAt.RcAt.tuple_int _ h l g,SeqAt.RcNeAt.tuple_int _ h l g⟩
  ·rename_i U
   simp only[RD]at a;obtain⟨X,W,rfl,E,L⟩:=a;cases i;obtain⟨n,o,B⟩:=iT hok E;cases c:gQ M U with
   | none=>rw[c]at e;cases e
   | some Y =>
    rw[c]at e;simp only[XE,YW]at e;obtain⟨f,O,R⟩:=nV hok (A:=A.in1) I L J o c (by simp only[dep]at N;show A.units + 1 + jy M < cLine;omega);have S:=SeqAt.RcAt.tuples l B g (λj h1 a=>by simpa using O j (by simpa using h1) (by simpa using a));have T:=SeqAt.RcNeAt.tuples l B g (λj h1 a=>by simpa using O j (by simpa using h1) (by simpa using a));rw[<-e,<-R,I.length,L.length,J.length,o.length,show (decide (m.length=n.length))=(m.length == n.length) from rfl];exact⟨by simpa using S,by simpa using T⟩
 ·cases k<;>simp only[peq]at e<;>cases e
 ·cases k<;>simp only[peq]at e<;>cases e
 ·simp only[peq]at e<;>cases e
end
section
variable {X:Cx}
theorem j3 {hd:Hd}{d:D}{v:V}(r:RH K ρ H hd)(h:RD K ρ H d v)(e:cU hd d=some l):∃p vs,v=.ref p/\SqL K H p vs/\RDs K ρ H l vs:=by
 cases d<;>simp only[cU]at e<;>try (cases e;done)
 ·rename_i n
  simp only[RD]at h;obtain⟨a,b,f⟩:=h;cases c:hd[n]? with
  | none=>rw[c]at e;cases e
  | some x =>
   rw[c]at e;cases x with
   | dct l=>cases e
   | dcT l=>cases e
   | ob l=>cases e
   | lst k =>
    cases e;obtain⟨vs,g,j⟩:=r.cel n _ a c b;exact⟨a,vs,f,SqL.of g,j⟩
 ·cases e
  simp only[RD]at h;obtain⟨p,vs,b,f,i⟩:=h;exact⟨p,vs,b,f.sq,i⟩
theorem BM {pins:List (Addr × Obj)}{σ:St}{s:T1}{hd:Hd}{d k:D}{v y:V}{u w:T0}{b:Bool}(Y:X.A.units + 24 < cLine)(I:Inv X pins σ H s)(r:RH X.K ρ H hd)(h1:RD X.K ρ H d v)(i:RD X.K ρ H k y)
  (C:bF v u) (K:bF y w) (e:eqG hd d k=some b):SeqAt.RcAt X.A s u w b/\SeqAt.RcNeAt X.A s u w (!b):=by
 have h:X.A.units < cLine:=by omega
 simp only[eqG]at e;cases o:cU hd d with
 | none =>
  cases m:cU hd k with
  | some l=>rw[o,m]at e;cases e
  | none =>
   rw[o,m]at e;simp only at e;split at e
   ·rename_i hd20
    exact F4 I.hok h1 i C K e (by omega)
   ·cases e
 | some G =>
  cases m:cU hd k with
  | none=>rw[o,m]at e;cases e
  | some T =>
   rw[o,m]at e;simp only[eqL]at e;obtain⟨p,vs,rfl,S,F⟩:=j3 r h1 o;obtain⟨P,U,rfl,L,E⟩:=j3 r i m;cases C;cases K;obtain⟨c,z,O,_⟩:=I.list S;obtain⟨a,q,x,_⟩:=I.list L;have t:s.heap.IsList p c.toArray:=O.isList;have g:s.heap.IsList P a.toArray:=x.isList;have W:G.length=c.length:=F.length.trans z.length;have Z:T.length=a.length:=E.length.trans q.length;split at e
   ·rename_i hd20
    split at e
    ·rename_i N
     obtain⟨f,J,B⟩:=nV I.hok (A:=X.A.in1) F E z q e (by show X.A.units + 1 + jy G < cLine;omega);have n:c.toArray.size=a.toArray.size:=by simp;omega
     have R:=SeqAt.RcAt.lists t g n h (λj h1 i=>by simpa using J j (by simpa using h1) (by simpa using i));have M:=SeqAt.RcNeAt.lists t g n h (λj h1 i=>by simpa using J j (by simpa using h1) (by simpa using i));have Q:min c.length a.length=c.length:=by omega
     rw[Q]at B;rw[<-B];exact⟨by simpa using R,by simpa using M⟩
    ·rename_i N
     cases e;have n:(c.toArray.size != a.toArray.size)=true:=by simp;omega
     exact⟨SeqAt.RcAt.lists_lengths t g n h,SeqAt.RcNeAt.lists_lengths t g n h⟩
   ·cases e
def D1 (K:ZW) (f:Bool->Bool):R2:=λx y H Q=>∃ρ hd d k b,RH K ρ H hd/\RD K ρ H d x/\RD K ρ H k y/\eqG hd d k=some b/\Q (.bl (f b)) H
theorem cq (c:X.A.units + 24 < cLine):OpR X (compareOp .Eq) (D1 X.K id):=by
 intro pins s σ H x y v u Q I g i h;obtain⟨ρ,j,d,k,b,r,f,a,e,q⟩:=h;exact(BM c I r f a g i e).1 _ _ _ _ ⟨.bl b,H,I,rfl,q⟩
theorem dM (c:X.A.units + 24 < cLine):OpR X (compareOp .NotEq) (D1 X.K not):=by
 intro pins s σ H x y v u Q I g i h;obtain⟨ρ,j,d,k,b,r,f,a,e,q⟩:=h;exact(BM c I r f a g i e).2 _ _ _ _ ⟨.bl (!b),H,I,rfl,q⟩
theorem dE:Og K oEq (D1 K id):=by
 intro ρ H σd f σ d k v w Q c g a p;unfold oEq at p;cases e:eqG f d k with
 | none=>rw[e]at p;exact p.elim
 | some b=>rw[e]at p;exact⟨ρ,f,d,k,b,c.hp,g,a,e,p.here c (by simp only[rD,RD];rfl)⟩
theorem fq:Og K oNe (D1 K not):=by
 intro ρ H σd f σ d k v w Q c g a p;unfold oNe at p;cases e:eqG f d k with
 | none=>rw[e]at p;exact p.elim
 | some b=>rw[e]at p;exact⟨ρ,f,d,k,b,c.hp,g,a,e,p.here c (by simp only[rD,RD])⟩
end
section
variable {K:ZW} {ρ ρ':List Addr} {H H':Hp} {hd hd':Hd} {σd:Sd} {σ:St}
theorem bv.outE {r:Res D}{k:D->Hd->Out}{En:mf}(p:bv K ρ H (outE r σd k) En) :
  bn K (rD K) ρ H σd σ r (λv H'=>∃ρ' d hd',Ext ρ H ρ' H'/\RS K ρ' H' σd hd' σ/\RD K ρ' H' d v/\bv K ρ' H' (k d hd') En):=by
 cases r with
 | ok d a=>exact λb H' ρ' c e q=>⟨ρ',d,a,c,e,q,bv.ext c p⟩
 | exc x a=>exact p
 | bad=>exact p
theorem RSt.set (r:RSt K ρ H σd σ){d:D}{v:V}(i:Nat)(h:RD K ρ H d v):RSt K ρ H (σd.set i (some d)) (σ.set i (some v)):=by
 refine⟨by simp[r.len],λj x e => ?_⟩
 by_cases a:i=j
 ·subst a
  by_cases b:i < σd.length
  ·simp only[slot,Z1 b]at e
   cases e;exact⟨v,by rw[Z1 (by rw[<-r.len];exact b)],h⟩
  ·simp only[slot]at e
   rw[Y5 (by simp;omega)]at e;cases e
 ·simp only[slot,ZO a]at e
  rw[ZO a];exact r.at' j x (by simpa only[slot] using e)
def Ip (K:ZW) (g:GF):TG:=λv σ H Q=>∃ρ σd hd d σd',RS K ρ H σd hd σ/\RD K ρ H d v/\g d σd=some σd'/\∀σ',RS K ρ H σd' hd σ'->Q σ' H
def F5 (σ:Sd) (l:List Nat) (xs:List D):Sd:=(l.zip xs).foldl (λσ p => σ.set p.1 (some p.2)) σ
def F6 (K:ZW) (l:List Nat):TGs:=λvs σ H Q=>∃ρ σd hd ds,RS K ρ H σd hd σ/\RDs K ρ H ds vs/\ds.length=l.length/\∀σ',RS K ρ H (F5 σd l ds) hd σ'->Q σ' H
end
def MG (X:Cx) (tg:Expr) (g:GF):Prop:=PG X tg (Ip X.K g)
def MGs (X:Cx) (ts:List Expr) (l:List Nat):Prop:=PGs X ts (F6 X.K l)
section
variable {X:Cx} {pos:Pos}
theorem PG.imp {tg:Expr}{t u:TG}(h:PG X tg t)(i:∀v σ H Q,u v σ H Q->t v σ H Q):PG X tg u:=λpins s σ H v w Q I r q=>h pins s σ H v w Q I r (i v σ H Q q)
theorem PGs.imp {tg:List Expr}{t u:TGs}(h:PGs X tg t)(i:∀v σ H Q,u v σ H Q->t v σ H Q):PGs X tg u:=λpins s σ H v w Q I r q=>h pins s σ H v w Q I r (i v σ H Q q)
theorem D2 {i:Nat}(f:X.N.Nodup)(hi:X.N[i]? = some x)(h:Loc X.env.scope x)(g:X.fn x=true\/X.env.scope.names.lookup x=some .local:=by first|exact .inl rfl|exact .inr rfl|assumption):MG X (.Name x pos) (gN i):=by
 refine PG.imp (DK f hi h g) λv σ H Q ⟨ρ,σd,j,d,a,b,c,e,q⟩ => ?_;simp only[gN,YW]at e;subst e;exact q _ ⟨b.hp,b.st.set i c⟩
theorem tH:MGs X [] []:=by
 refine PGs.imp yO λf σ H Q ⟨ρ,σd,d,c,b,a,e,q⟩ => ?_;have:c=[]:=by simpa using e
 subst this;simp only[RDs]at a;exact⟨a,q σ b⟩
theorem dW {a:List Expr}{i:Nat}{l:List Nat}(h1:MG X e (gN i))(b:MGs X a l)
  (n:(assignEach (e :: a) X.env).map (·.2)=assign e X.env :: (assignEach a X.env).map (·.2):=by rfl):MGs X (e :: a) (i :: l):=by
 refine PGs.imp (oC h1 b n) λp σ H Q ⟨ρ,σd,k,h,o,j,e,q⟩ => ?_;cases h with
 | nil=>simp at e
 | cons d h =>
  simp only[RDs]at j;obtain⟨v,r,rfl,h1,b⟩:=j;refine⟨v,r,rfl,ρ,σd,k,d,_,o,h1,rfl,λm c => ?_⟩;exact⟨ρ,_,k,h,c,b,by simpa using e,λf g=>q f g⟩
theorem xJ {a:List Expr}{k:Nat}{l:List Nat}(o:X.calm=true)(h:MGs X a l)
  (n:(assignEach a X.env).length=l.length:=by rfl) (b:(assignEach a X.env).findIdx? (·.1)=none:=by rfl):MG X (.Tuple a k pos) (gT l):=by
 refine PG.imp (Bn o h n b) λv σ H Q ⟨ρ,σd,m,d,g,j,c,e,q⟩ => ?_;cases d<;>simp only[gT]at e<;>try (cases e;done)
 rename_i i
 split at e
 ·rename_i f
  cases e;simp only[RD]at c;obtain⟨p,t,rfl,s,r⟩:=c;exact⟨p,t,rfl,SqT.of s,by rw[<-r.length];exact f,ρ,σd,m,i,j,r,f,q⟩
 ·cases e
theorem a8:MSs X [] bB:=PSs.imp kO λEn σ H ⟨ρ,σd,b,a,p⟩=>p σ H ρ Ext.refl a
theorem aj {st:Stmt}{rest:List Stmt}{a b:SF}(h1:MS X st a)(h:MSs X rest b):MSs X (st :: rest) (ay a b):=by
 refine PSs.imp (kP h1 h) λEn σ H ⟨ρ,σd,f,i,p⟩=>⟨ρ,σd,f,i,?_⟩;unfold ay at p;cases e:a σd f with
 | nx σ1 h1=>rw[e]at p;exact λg k ρ' j c=>⟨ρ',σ1,h1,c,bv.ext j p⟩
 | rt d h1=>rw[e]at p;exact p
 | bk σ1 h1=>rw[e]at p;exact p
 | ct σ1 h1=>rw[e]at p;exact p
 | exc x σ1 h1=>rw[e]at p;exact p
 | bad=>rw[e]at p;exact p
theorem av {st:Stmt}{a:SF}(h:MS X st a):MSs X [st] a:=fW h
theorem BN:MS X (.Break pos) DY:=PS.imp Bk λEn σ H ⟨ρ,σd,b,a,p⟩=>p σ H ρ Ext.refl a
theorem iU {st:Stmt}:MS X st qz:=PS.imp Bl λEn σ H ⟨ρ,σd,b,a,p⟩=>p.elim
theorem aP (h:ME X e f):MS X (.Return (some e) pos) (bx f):=by
 refine PS.imp (Fx h) λEn σ H ⟨ρ,σd,j,i,p⟩=>⟨ρ,σd,j,i,(bv.outE p).imp λv k ⟨b,d,l,m,a,c,g⟩ => ?_⟩;exact g v k b Ext.refl a.hp c
theorem d6 (h:ME X e f)(g:swapsWith e none pos.line X.env=pure false:=by rfl):MS X (.Expr e pos) (eP f):=by
 refine PS.imp (DJ h g) λEn σ H ⟨ρ,σd,j,i,p⟩=>⟨ρ,σd,j,i,(bv.outE p).imp λv k ⟨b,d,l,n,a,m,c⟩ => ?_⟩;exact c σ k b Ext.refl a
theorem bH {c:Expr}{a b:List Stmt}{g j:SF}(n:MT X c t)(m:MSs X a g)(l:MSs X b j):MS X (.If c a b pos) (sIf t g j):=by
 refine PS.imp (vx n m l) λEn σ H ⟨ρ,σd,h,k,p⟩=>⟨ρ,σd,h,k,?_⟩;unfold sIf at p;cases e:t σd h with
 | ok c f =>
  rw[e]at p;intro b o ρ' i d q;cases q;cases c with
  | true=>simp only[Y7]at p ⊢;exact⟨ρ',σd,f,d,bv.ext i p⟩
  | false=>simp only[YP,WB]at p ⊢;exact⟨ρ',σd,f,d,bv.ext i p⟩
 | exc x f=>rw[e]at p;exact p
 | bad=>rw[e]at p;exact p
theorem jC {i:Nat}{a:Pos}(k:X.N.Nodup)(hi:X.N[i]? = some x)(r:Loc X.env.scope x)(he:ME X e f)(l:swapsWith e (some (.Name x a)) pos.line X.env=pure false:=by rfl)(m:X.fn x=true\/X.env.scope.names.lookup x=some .local:=by first|exact .inl rfl|exact .inr rfl|assumption) :
  MS X (.Assign [.Name x a] e pos) (aB (gN i) f):=by
 refine PS.imp (kz k hi r he l m) λEn σ H ⟨ρ,σd,o,n,p⟩=>⟨ρ,σd,o,n,(bv.outE p).imp λv q ⟨c,d,h,s,b,g,j⟩ => ?_⟩;exact j _ q c Ext.refl ⟨b.hp,b.st.set i g⟩
theorem F7 {tg:Expr}{g:GF}(he:ME X e f)(s:MG X tg g)(n:swapsWithSole [tg] e pos.line X.env=pure false:=by rfl)(m:swappedStores [tg] e X.env=pure none:=by rfl)
  (h1:(assignEach [tg] X.env).map (·.2)=[assign tg X.env]:=by rfl):MS X (.Assign [tg] e pos) (aB g f):=by
 refine PS.imp (sT he s n m h1) λEn σ H ⟨ρ,σd,q,o,p⟩=>⟨ρ,σd,q,o,(bv.outE p).imp λv r ⟨a,d,j,t,h,l,b⟩ => ?_⟩;cases c:g d σd with
 | none=>rw[c]at b;exact b.elim
 | some σ1=>rw[c]at b;exact⟨a,σd,j,d,σ1,h,l,c,λi k=>b i r a Ext.refl k⟩
theorem BO:Fm.ixN=L2.ixN:=rfl
theorem oW {o i:Expr}{E I G:EF}{f:Pos}(he:ME X e G)(Y:ME X o E)(hi:ME X i I)(P:swapsWithSole [.Subscript o i f] e pos.line X.env=pure false:=by rfl)(Z:swappedStores [.Subscript o i f] e X.env=pure none:=by rfl)
  (h1:(assignEach [.Subscript o i f] X.env).map (·.2)=[assign (.Subscript o i f) X.env]:=by rfl) (q:∀v,assign (.Subscript o i f) X.env v=(do
   let ov <-holding [v] (eval o X.env)
   let B <-holding [v,ov] (eval i X.env)
   standAt f
   holding [v,ov,B] (setItem ov B v)
   release [v,ov,B] []):=by intro _;rfl):MS X (.Assign [.Subscript o i f] e pos) (nM E I G):=by
 refine PS.imp (sT he (sS Y hi oN q) P Z h1) λEn σ H ⟨ρ,σd,S,R,p⟩=>⟨ρ,σd,S,R,(bv.outE p).imp λv H1 ⟨y,d,A,e1,s,N,O⟩ => ?_⟩;refine⟨y,σd,A,s,(bv.outE O).imp λvo H2 ⟨w,Q,x,T,m,M,f⟩ => ?_⟩;refine⟨w,σd,x,m,(bv.outE f).imp λvi F ⟨h,di,u,D,g,J,b⟩ => ?_⟩;have C:=(N.mono (s.hp.kp T)).mono (m.hp.kp D);have t:=M.mono (m.hp.kp D);cases Q with
 | ref n =>
  cases di with
  | int j =>
   simp only at b;cases c:u[n]? with
   | none=>rw[c]at b;exact b.elim
   | some cell =>
    rw[c]at b;cases cell with
    | dct l=>exact b.elim
    | dcT l=>exact b.elim
    | ob l=>exact b.elim
    | lst l =>
     simp only at b;cases z:ixN l.length j with
     | none=>rw[z]at b;exact b.elim
     | some k =>
      rw[z]at b;simp only[RD]at t J;obtain⟨a,q,rfl⟩:=t;obtain⟨L,U,r⟩:=g.hp.cel n _ a c q;refine⟨a,L,j,k,rfl,J,U,by rw[<-r.length,<-BO];exact z,?_⟩;have W:n < u.length:=(yE.mp c).1;have V:=g.hp.write q W (RDs.set C k r);have K:Ext h F h (upd F a (.lst (L.set k v))):=Ext.write (ZJ q);exact b σ _ h K (g.ext K V)
  | _=>exact b.elim
 | _=>exact b.elim
end
section
variable (K:ZW)
structure qA (ρ0:List Addr) (H0:Hp) (J:It) (l:List D) (g:Option Nat):Prop where
 go:∀ρ H hd (i:Nat) d,Ext ρ0 H0 ρ H->RH K ρ H hd->gq g l hd->l[i]? = some d->J.go i H/\∀x H',J.yld i H x H'->gn H H'/\RD K ρ H' d x
 stop:∀ρ H hd,Ext ρ0 H0 ρ H->RH K ρ H hd->gq g l hd->J.stop l.length H
 sz:l.length<=sizeLine
def Iq (ρ:List Addr) (H:Hp) (σd:Sd) (σ:St) (r:Res (List D × Option Nat)) (R:It->Hp->Prop):Prop:=match r with
 | .ok p hd'=>∀J H' ρ',Ext ρ H ρ' H'->RS K ρ' H' σd hd' σ->qA K ρ' H' J p.1 p.2->R J H'
 | _=>False
def Ir (f:IF):TI:=λσ H R=>∃ρ σd hd,RS K ρ H σd hd σ/\Iq K ρ H σd σ (f σd hd) R
end
def MI (X:Cx) (tg e:Expr) (f:IF):Prop:=PI X tg e (Ir X.K f)
section
variable {X:Cx} {pos:Pos} {tg:Expr}
theorem PI.imp {t u:TI}(h:PI X tg e t)(i:∀σ H R,u σ H R->t σ H R):PI X tg e u:=λpins s σ H R I q=>h pins s σ H R I (i σ H R q)
theorem oX {t:Expr}{A:List Stmt}{f:IF}{g:GF}{b:SF}(hp:PassesOwn (model X.prog X.w) X.A X.env X.xe)(hc:X.calm=true)(hi:MI X tg t f)(hg:MG X tg g)(hb:MSs X A b)
  (hs:∀x,foldedSetIterable t X.env x=pure x:=by intro _;rfl):MS X (.For tg t A [] pos) (nN f g b):=by
 refine PS.imp (xv hp hc hi hg hb hs) λEn σ H ⟨ρ,σd,U,rs,p⟩=>⟨ρ,σd,U,rs,?_⟩;unfold nN at p;cases e:f σd U with
 | exc x h'=>rw[e]at p;exact p
 | bad=>rw[e]at p;exact p
 | ok q R =>
  rw[e]at p;obtain⟨l,gd⟩:=q;intro J V C O Q S;simp only at p S;refine⟨λi m E z=>∃ρ' k hd',Ext C V ρ' z/\RS X.K ρ' z k hd' E/\i<=l.length/\m=l.length - i/\bv X.K ρ' z (cJ gd l g b (l.drop i) k hd') En,
   ⟨l.length,C,σd,R,Ext.refl,Q,XZ _,by simp,by simpa using bv.ext O p⟩,?_⟩
  rintro i m E z ⟨ρ',k,hd',N,w,Z,rfl,a⟩
  by_cases G:i < l.length
  ·have P:l[i]? = some l[i]:=by simp[G]
   rw[X7 G]at a;unfold cJ at a
   by_cases D:gq gd l hd'
   ·rw[yD D]at a
    obtain⟨go,yl⟩:=S.go ρ' z hd' i _ N w.hp D P;refine .inr ⟨go,λB F=>∃s h u,Ext C V s F/\RS X.K s F h u B/\bv X.K s F (cJ gd l g b (l.drop (i + 1)) h u) En,
     λB F ⟨s,h,u,a1,a2,a3⟩=>⟨l.length - (i + 1),by omega,s,h,u,a1,a2,G,rfl,a3⟩,λx F y => ?_⟩
    obtain⟨W,rx⟩:=yl x F y;cases c:g l[i] k with
    | none=>rw[c]at a;exact a.elim
    | some h =>
     rw[c]at a;simp only at a;refine⟨ρ',k,hd',l[i],h,w.same W,rx,c,λB T=>⟨ρ',h,hd',T,?_⟩⟩;have r:Ext ρ' z ρ' F:=Ext.same W;cases K:b h hd' with
     | nx σ3 L=>rw[K]at a;exact λI M o j n=>⟨o,σ3,L,N.trans (r.trans j),n,bv.ext (r.trans j) a⟩
     | ct σ3 L=>rw[K]at a;exact λI M o j n=>⟨o,σ3,L,N.trans (r.trans j),n,bv.ext (r.trans j) a⟩
     | bk σ3 L=>rw[K]at a;exact λI M o j n=>a I M o (r.trans j) n
     | rt d L=>rw[K]at a;exact λv M o j n Y=>a v M o (r.trans j) n Y
     | exc x σ3 L=>rw[K]at a;exact a
     | bad=>rw[K]at a;exact a
   ·rw[wR D]at a;exact a.elim
  ·have e0:i=l.length:=by omega
   subst e0;rw[X1]at a;unfold cJ at a
   by_cases D:gq gd l hd'
   ·rw[yD D]at a
    exact .inl ⟨S.stop ρ' z hd' N w.hp D,a E z ρ' Ext.refl w⟩
   ·rw[wR D]at a;exact a.elim
theorem vH {c:Expr}{l:List Stmt}{b:SF}(hp:PassesOwn (model X.prog X.w) X.A X.env X.xe)(L:MT X c t)(K:MSs X l b):MS X (.While c l [] pos) (kC t b):=by
 refine PS.imp (Bo hp L K) λEn σ H ⟨ρ,σd,G,M,p⟩ => ?_;unfold kC at p;refine⟨λm o D=>∃ρ' a hd',RS X.K ρ' D a hd' o/\bv X.K ρ' D (dS t b m a hd') En,⟨DZ t b σd G,ρ,σd,G,M,p⟩,?_⟩;rintro m o D ⟨ρ',a,hd',F,f⟩;cases m with
 | zero=>exact f.elim
 | succ m =>
  unfold dS at f;refine⟨ρ',a,hd',F,?_⟩;cases e:t a hd' with
  | exc x C=>rw[e]at f;exact f
  | bad=>rw[e]at f;exact f
  | ok c C =>
   rw[e]at f;intro N I y k A q;cases q;cases c with
   | false=>simp only[YP,WB]at f ⊢;exact f o I y k A
   | true =>
    simp only[Y7]at f ⊢;refine⟨λg E=>∃w n B,RS X.K w E n B g/\bv X.K w E (dS t b m n B) En,λg E q=>⟨m,W5 _,q⟩,y,a,C,A,?_⟩;cases s:b a C with
    | nx g u=>rw[s]at f;exact λr z h j i=>⟨h,g,u,i,bv.ext (k.trans j) f⟩
    | ct g u=>rw[s]at f;exact λr z h j i=>⟨h,g,u,i,bv.ext (k.trans j) f⟩
    | bk g u=>rw[s]at f;exact λr z h j i=>f r z h (k.trans j) i
    | rt d u=>rw[s]at f;exact λv z h j i J=>f v z h (k.trans j) i J
    | exc x g u=>rw[s]at f;exact f
    | bad=>rw[s]at f;exact f
theorem BP {hd:Hd}{q:Addr}(r:RH K ρ H hd)(e:H q=some (.tup vs))(a:RDs K ρ H l vs)(j:vs.length<=sizeLine):qA K ρ H (Itt K q) l none where
 go:=λρ' f hd' i d b h _ n=>by
  have k:=r.kp b;obtain⟨v,g,m⟩:=(a.mono k).get n;have c:SqT K f q vs:=SqT.of (k.tup q vs e);refine⟨⟨vs,v,c,g⟩,λx o y => ?_⟩;obtain⟨rfl,y⟩:=y;have:=y vs c;rw[g]at this;cases this;exact⟨gn.refl _,m⟩
 stop:=λρ' f hd' b h _=>⟨vs,SqT.of ((r.kp b).tup q vs e),by rw[a.length];exact ZK _⟩
 sz:=by rw[a.length];exact j
theorem BQ {hd:Hd}{q:Addr}(r:RH K ρ H hd)(e:ng K H q vs)(a:RDs K ρ H l vs)(j:vs.length<=sizeLine):qA K ρ H (Itl K q) l none where
 go:=λρ' f hd' i d b h _ n=>by
  have k:=r.kp b;obtain⟨v,g,m⟩:=(a.mono k).get n;have c:SqL K f q vs:=(e.mono k).sq;refine⟨⟨vs,v,c,g⟩,λx o y => ?_⟩;obtain⟨rfl,y⟩:=y;have:=y vs c;rw[g]at this;cases this;exact⟨gn.refl _,m⟩
 stop:=λρ' f hd' b h _=>⟨vs,(e.mono (r.kp b)).sq,by rw[a.length];exact ZK _⟩
 sz:=by rw[a.length];exact j
theorem BR {n:Nat}{q:Addr}(h : ρ[n]? = some q)(o:l.length<=sizeLine):qA K ρ H (Itl K q) l (some n) where
 sz:=o
 go:=λρ' k hd' i d g b f r=>by
  obtain⟨a,e,c⟩:=b.cel n _ q f (g.get h);obtain⟨v,m,p⟩:=c.get r;have j:SqL K k q a:=SqL.of e;refine⟨⟨a,v,j,m⟩,λx s y => ?_⟩;obtain⟨rfl,y⟩:=y;have:=y a j;rw[m]at this;cases this;exact⟨gn.refl _,p⟩
 stop:=λρ' k hd' g b f=>by
  obtain⟨a,e,c⟩:=b.cel n _ q f (g.get h);exact⟨a,SqL.of e,by rw[c.length];exact ZK _⟩
theorem F8 {l:Expr}{n:TE}(u:PE X l n):PI X tg l (λσ H R=>n σ H λx f=>(∃a xs,x=.ref a/\SqL X.K f a xs/\(xs.length<=sizeLine->R (Itl X.K a) f))\/∃a xs,x=.ref a/\SqT X.K f a xs/\(xs.length<=sizeLine->R (Itt X.K a) f)):=by
 intro pins s σ H R I h;refine thn (u pins s σ H _ I h) λv d ⟨x,f,c,m,r⟩ => ?_;rcases r with ⟨a,xs,e,i,q⟩|⟨a,xs,e,i,q⟩
 ·subst e
  cases m;obtain⟨g,t,p,j⟩:=c.list i;refine wpAny_pyIter_list p.isList ?_;refine⟨d.heap.objs.size,[d.heap.objs.size],_,_,f,rfl,c.kept λb o e=>ZG _ e,zU a _,⟨_,ZI _ rfl,rfl,rfl⟩,λb k => ?_,q j⟩;have e:b=d.heap.objs.size:=by simpa using k
  subst e;exact c.fpOk (ZK _) (c.hok.fresh (ZK _))
 ·subst e
  cases m;obtain⟨g,t,p,j⟩:=c.tuple i;refine wpAny_pyIter_tuple (show d.heap.IsTuple a g.toArray from p) ?_;refine⟨d.heap.objs.size,[d.heap.objs.size],_,_,f,rfl,c.kept λb o e=>ZG _ e,xt a _,⟨_,ZI _ rfl,rfl,rfl⟩,λb k => ?_,q j⟩;have e:b=d.heap.objs.size:=by simpa using k
  subst e;exact c.fpOk (ZK _) (c.hok.fresh (ZK _))
theorem gv (h:ME X e f):MI X tg e (fZ f):=by
 refine PI.imp (F8 h) λσ H R ⟨ρ,σd,w,y,p⟩=>⟨ρ,σd,w,y,?_⟩;unfold fZ at p;cases e:f σd w with
 | exc x A=>rw[e]at p;exact p
 | bad=>rw[e]at p;exact p
 | ok d s =>
  rw[e]at p;simp only[az]at p;intro v t j i b k;cases d<;>try exact p.elim
  ·rename_i l
   simp only[rD,RD]at k;obtain⟨q,r,rfl,m,g⟩:=k;exact .inr ⟨q,r,rfl,SqT.of m,λo=>p _ t j i b (BP b.hp m g o)⟩
  ·rename_i n
   simp only[rD,RD]at k;obtain⟨a,u,rfl⟩:=k;cases c:s[n]? with
   | none=>simp only[c]at p;exact p.elim
   | some cell =>
    cases cell with
    | dct l=>simp only[c]at p;exact p.elim
    | dcT l=>simp only[c]at p;exact p.elim
    | ob l=>simp only[c]at p;exact p.elim
    | lst l =>
     simp only[c]at p;obtain⟨r,z,g⟩:=b.hp.cel n _ a c u;exact .inl ⟨a,r,rfl,SqL.of z,λo=>p _ t j i b (BR u (by rw[g.length];exact o))⟩
  ·rename_i l
   simp only[rD,RD]at k;obtain⟨q,r,rfl,m,g⟩:=k;exact .inl ⟨q,r,rfl,m.sq,λo=>p _ t j i b (BQ b.hp m g o)⟩
theorem oY (lo:Int)(n:Nat)(j:n<=2000000):qA K ρ H (Itr lo n) ((List.range n).map λk:Nat=>.int (lo + k)) none where
 go:=λρ' f hd' i d g c _ b=>by
  have a:i < n:=by
   have:=(yE.mp b).1;simpa using this
  refine⟨a,λx h y => ?_⟩;obtain⟨rfl,rfl⟩:=y;have e:d=.int (lo + i):=by simpa[a] using b.symm
  subst e;exact⟨gn.refl _,by simp only[RD]⟩
 stop:=λρ' f hd' g c _=>by
  show n<=_;simp
 sz:=by
  have:(2000000:Nat)<=sizeLine:=by rw[YM];decide
  simp;omega
theorem iu {a:Expr}   (s:Gl X "range") (q:X.mg "range" = none) (o:ME X a f) (j:starEach [a] X.env=[(false,eval a X.env)]:=by rfl):MI X tg (.Call (.Name "range" p) [a] [] pos) (gp f):=by
 refine PI.imp (zV s q (bh o cy j) j) λσ H R ⟨ρ,σd,k,m,b⟩=>⟨ρ,σd,k,m,?_⟩;unfold gp at b;cases e:f σd k with
 | exc x u=>rw[e]at b;exact b
 | bad=>rw[e]at b;exact b
 | ok d r =>
  rw[e]at b;simp only[az]at b;intro v l c h g i;cases d<;>try exact b.elim
  rename_i n
  simp only at b;simp only[rD,RD]at i;subst i;split at b
  ·rename_i t
   refine⟨n,rfl,by omega,by omega,b _ l c h g ?_⟩;have:=oY (K:=X.K) (ρ := c) (H:=l) 0 n.toNat (by omega);simpa using this
  ·exact b.elim
theorem mm {a:Expr} {g:EF}  (G:Gl X "range") (I:X.mg "range" = none) (B:ME X a f) (w:ME X b g) (y:starEach [a,b] X.env=[(false,eval a X.env),(false,eval b X.env)]:=by rfl) (h:starEach [b] X.env=[(false,eval b X.env)]:=by rfl):MI X tg (.Call (.Name "range" p) [a,b] [] pos) (fY f g):=by
 refine PI.imp (zW G I (bh B (bh w cy h) (by rw[y,h])) y h) λσ H R ⟨ρ,σd,z,F,c⟩=>⟨ρ,σd,z,F,?_⟩;unfold fY at c;cases e:f σd z with
 | exc x C=>rw[e]at c;exact c
 | bad=>rw[e]at c;exact c
 | ok d k =>
  rw[e]at c;simp only[az]at c;intro v K q o m u;refine⟨q,σd,k,m,?_⟩;cases t:g σd k with
  | exc x C=>rw[t]at c;exact c
  | bad=>rw[t]at c;exact c
  | ok D E =>
   rw[t]at c;simp only[az]at c;intro J A n s r l;cases d<;>try exact c.elim
   cases D<;>try exact c.elim
   rename_i i j
   simp only at c;simp only[rD,RD]at u l;subst u l;split at c
   ·rename_i w
    exact⟨i,j,rfl,⟨by omega,by omega,by omega,by omega⟩,c _ A n (o.trans s) r (oY i (j - i).toNat (by omega))⟩
   ·exact c.elim
end
end Fm
namespace Fm
section
open Classical
def jD (G:Hd->Prop) (tg:GF) (cs:List TF) (e:EF):List D->Sd->Hd->Res (List D)
 | [],_,h=>if G h then .ok [] h else .bad
 | x :: xs,σ,h=>if G h then match tg x σ with
   | some σ=>(oS cs σ h).bind λb h=>if b then (e σ h).bind λd h=>(jD G tg cs e xs σ h).bind λds h=>.ok (d :: ds) h
    else jD G tg cs e xs σ h
   | none=>.bad
  else .bad
end
theorem tI {g:Option Nat}{all:List D}{tg:GF}{cs:List TF}{e:EF}:∀(xs:List D) (σ:Sd) (h:Hd),cV g all tg cs e xs σ h=jD (gq g all) tg cs e xs σ h
 | [],_,h=>by unfold cV jD;rfl
 | x :: xs,σ,h=>by
  unfold cV jD
  by_cases a:gq g all h
  ·rw[yD a,yD a]
   cases tg x σ with
   | none=>rfl
   | some σ'=>simp only[tI xs]
  ·rw[wR a,wR a]
end Fm
namespace Fm
open PySem PySem.Spec L2
section
variable {prog:T3} {w:T4} {A:T2} {R:Result->T1->Prop} {s:T1}
theorem tJ {B d y:Expr}{C:List Expr}{scope:Scope}{pos:Pos}{D acc:T0}{env:Env}{E:T0->T1->Prop}(J:∀e s,¬E e s)(I:Nat->T1->Prop)
  (turn:∀n s,I n s->wpAny (model prog w) A (pyNext D) (λr b => match r with
   | none=>R (.ok .next) b
   | some v=>wpAny (model prog w) A (letOwnedTupleGo d D v) (λ_ b => wpAny (model prog w) A (assign d env v) (λ_ l =>
     wpAny (model prog w) A (forIn C true λc r=>if r=true then do let ok <-isTrue c env (eval c env);pure (ForInStep.yield ok) else pure (ForInStep.yield r)) (λok g =>
      if ok=true then wpAny (model prog w) A (eval B env) (λx k =>
       wpAny (model prog w) A (call (.builtin "list.append") [acc,x]) (λ_ i => ∃m,m < n/\I m i) E k) E g
      else ∃m,m < n/\I m g) E l) E b) E b) E s)
  (n:Nat) (h:I n s) :
  codeAny (model prog w) A (.compLoop (.ListComp B [⟨d,y,C,0⟩] scope pos) 0 D acc env) R s:=by
 refine codeAny_loop rfl I (λn s H => ?_) n h;refine wpAny_noted ?_;rw[compTurn_list];have o:∀{α : Type} {t:Sem α} {Q F : α->T1->Prop} {K:T0->T1->Prop} {s:T1},wpAny (model prog w) A t Q E s->(∀a s,Q a s->F a s)->wpAny (model prog w) A t F K s:=λh G=>YY h G λe s z=>(J e s z).elim;refine yC (VB (yC (o (turn n s H) λr b f => ?_)));cases r with
 | none=>exact wW f
 | some v =>
  refine yC (o f λ_ b f => ?_);refine yC (o f λ_ l q => yC (o q λok g j => ?_));cases ok with
  | false=>exact wW ⟨rfl,j⟩
  | true =>
   exact yC (yC (o j λx k u => yC (o u λ_ i p => wW (wW ⟨rfl,p⟩))))
end
theorem kE {env:Env}:∀(l:List (Str × NameKind)) (cs:List (Str × Addr)),(∀y∈l,y.2=.free->∃c,env.cells.lookup y.1=some c)->
  ∃cl,(forIn l cs λ(x:Str × NameKind) (r:List (Str × Addr))=>if (x.2 == .free)=true then do let a <-cellOf env x.1;pure (ForInStep.yield ((x.1,a) :: r)) else pure (ForInStep.yield r))=(pure cl:Sem _)/\
   (∀x c,cl.lookup x=some c->cs.lookup x=some c\/env.cells.lookup x=some c)/\(∀y∈l,y.2=.free->∃c,cl.lookup y.1=some c)/\∀x c,cs.lookup x=some c->∃t,cl.lookup x=some t
 | [],cs,_=>⟨cs,by simp,λx c h=>.inl h,λy f=>by simp at f,λx c h=>⟨c,h⟩⟩
 | (n,k) :: l,cs,j=>by
  by_cases p:k=.free
  ·subst p
   obtain⟨c,s⟩:=j (n,.free) (by simp) rfl;obtain⟨cl,o,i,m,g⟩:=kE l ((n,c) :: cs) λy f=>j y (by simp[f]);refine⟨cl,?_,λx d h => ?_,λy f b => ?_,λx d h => ?_⟩
   ·rw[List.forIn_cons]
    simp only[beq_self_eq_true,Y7,cellOf,s];exact o
   ·rcases i x d h with q|q
    ·rw[Z6]at q
     cases e:x == n with
     | true =>
      rw[e]at q;have:x=n:=by simpa using e
      subst this;cases q;exact .inr s
     | false=>rw[e]at q;exact .inl q
    ·exact .inr q
   ·rcases wU.mp f with e|e
    ·subst e
     exact g n c (by simp[Z6])
    ·exact m y e b
   ·by_cases e:x=n
    ·subst e
     exact g x c (by simp[Z6])
    ·exact g x d (by rw[Z6,beq_eq_false_iff_ne.mpr e];exact h)
  ·obtain⟨cl,o,i,m,g⟩:=kE l cs λy f=>j y (by simp[f])
   refine⟨cl,?_,i,λy f b => ?_,g⟩
   ·rw[List.forIn_cons]
    have:(k == NameKind.free)=false:=by simpa using p
    simp only[this,YP,WB];exact o
   ·rcases wU.mp f with e|e
    ·subst e;exact absurd b p
    ·exact m y e b
theorem oZ {scope:Scope}{env:Env}(d:∀y∈scope.names,y.2=.free->∃c,env.cells.lookup y.1=some c) :
  ∃cl,closureFor scope env=pure cl/\(∀x c,cl.lookup x=some c->env.cells.lookup x=some c)/\∀y∈scope.names,y.2=.free->∃c,cl.lookup y.1=some c:=by
 obtain⟨cl,g,b,f,_⟩:=kE scope.names [] d;refine⟨cl,?_,λx c h=>(b x c h).elim (λz=>by simp at z) id,f⟩;unfold closureFor;have e:(forIn scope.names ([] : List (Str × Addr)) λ(x:Str × NameKind) (r:List (Str × Addr))=>if (x.2 == .free)=true then do let a <-cellOf env x.1;pure (ForInStep.yield ((x.1,a) :: r)) else pure (ForInStep.yield r))=(pure cl:Sem _):=g;exact(congrArg (λt:Sem (List (Str × Addr))=>t >>= λr=>pure r) e).trans rfl
def cxC (X:Cx) (N:List Str) (scope:Scope) (cl:List (Str × Addr)) (C:Addr) (s:T1) (H:Hp) (ex:List Addr):Cx where
 prog:=X.prog
 w:=X.w
 K:=X.K
 mg:=X.mg
 base:=X.base
 A:=X.A
 N:=N
 s₀ := s
 H₀ := H
 env:=compEnvC scope cl C X.env
 outer:=X.stack
 stack:=X.stack
 ex:=ex
 fn:=λ_=>false
 calm:=X.calm
 pn:=[]
 xe:=λ_ _=>False
def MTs (X:Cx) (ifs:List Expr) (cs:List TF):Prop :=
 ∀(pins:List (Addr × Obj)) (s:T1) (σ:St) (H:Hp) (Q:Bool->Hp->Prop),Inv X pins σ H s->jA X.K rB (oS cs) σ H Q->
  wpAny (model X.prog X.w) X.A (forIn ifs true λc r=>if r=true then do let ok <-isTrue c X.env (eval c X.env);pure (ForInStep.yield ok) else pure (ForInStep.yield r)) (TP X pins σ Q) X.xe s
theorem dP {X:Cx}:MTs X [] []:=λpins s σ H Q I ⟨ρ,σd,b,a,p⟩=>wpAny_tests_nil ⟨H,I,p.here a rfl⟩
theorem jE {env:Env}{x:Str}:∀{names:List (Str × NameKind)} {k:NameKind},(names.map λ(n,k)=>if (k == NameKind.free && env.scope.kind == .function && env.kindOf n == some .cell) then (n,NameKind.cell) else (n,k)).lookup x=some k->
  ∃k0,names.lookup x=some k0/\(k=k0\/(k0=.free/\k=.cell))
 | [],_,h=>by simp at h
 | (n,c) :: r,k,h=>by
  have e := @jE env x r k;have a:List.lookup x ((if (c == NameKind.free && env.scope.kind == .function && env.kindOf n == some .cell)=true then (n,NameKind.cell) else (n,c)) :: _)=some k:=h;cases d:x == n with
  | true =>
   refine⟨c,by simp[Z6,d],?_⟩
   by_cases b:(c == NameKind.free && env.scope.kind == .function && env.kindOf n == some .cell)=true
   ·rw[yD b]at a
    simp only[Z6,d,YW]at a;simp only[Z4,beq_iff_eq]at b;exact .inr ⟨b.1.1,a.symm⟩
   ·rw[wR b]at a
    simp only[Z6,d,YW]at a;exact .inl a.symm
  | false =>
   have:List.lookup x ((n,c) :: r)=List.lookup x r:=by simp[Z6,d]
   rw[this];refine e ?_
   by_cases b:(c == NameKind.free && env.scope.kind == .function && env.kindOf n == some .cell)=true
   ·rw[yD b]at a;simpa only[Z6,d] using a
   ·rw[wR b]at a;simpa only[Z6,d] using a
theorem gw {x:Str}{k:NameKind}:∀{l:List (Str × NameKind)},l.lookup x=some k->(x,k)∈l
 | [],h=>by simp at h
 | (n,a) :: r,h=>by
  rw[Z6]at h;cases e:x == n with
  | true =>
   rw[e]at h;have:x=n:=by simpa using e
   subst this;cases h;exact ZU
  | false=>rw[e]at h;exact ZV _ (gw h)
structure ei (X:Cx) (scope:Scope) (own capn:List Str) (caps:List Nat):Prop where
 kind:scope.kind=.function
 cell:∀y∈scope.names,y.2 ≠ .cell
 names:∀y∈scope.names,y.2=.local->scope.names.lookup y.1=some .local
 free:∀y∈scope.names,y.2=.free->X.env.kindOf y.1=some .cell\/X.env.kindOf y.1=some .free
 cap:∀(j:Nat) x,capn[j]? = some x->∃i,caps[j]? = some i/\X.N[i]? = some x/\scope.names.lookup x=some .free
 len:capn.length=caps.length
section
variable {X:Cx} {pins:List (Addr × Obj)} {σ:St} {H1:Hp} {s2:T1} {scope:Scope} {own capn:List Str} {caps:List Nat} {cl:List (Str × Addr)} {C:Addr} {ex:List Addr}
def stC (own:List Str) (caps:List Nat) (σ:St):St:=List.replicate own.length none++caps.map λi=>(σ[i]?).join
theorem F9 (I:Inv X pins σ H1 s2)(S:ei X scope own capn caps)(s:s2.heap.objs.size<=C)(a:∀x c,cl.lookup x=some c->X.env.cells.lookup x=some c)(g:∀y∈scope.names,y.2=.free->∃c,cl.lookup y.1=some c)
  (p:∀b∈ex,qu X pins H1 b) (m:∀b∈ex,b < s2.heap.objs.size):(cxC X (own++capn) scope cl C s2 H1 ex).Ok where
 mod:=I.ok.mod
 kind:=S.kind
 glob:=I.ok.glob
 blt:=I.ok.blt
 above:=s
 inj:=λx y c A v=>I.ok.inj x y c (a x c A) (a y c v)
 has:=λx E=>by
  have f:∀k,(relabel scope X.env).names.lookup x=some k->k=.cell\/k=.free->∃c,cl.lookup x=some c:=λk h F=>by
   obtain⟨w,B,q⟩:=jE h;have u:=gw B;have:w=.free:=by
    rcases q with q|q
    ·subst q
     rcases F with e|e
     ·exact absurd e (S.cell _ u)
     ·exact e
    ·exact q.1
   exact g _ u this
  rcases E with h|h
  ·exact f _ h (.inl rfl)
  ·exact f _ h (.inr rfl)
 cab:=λx c h=>by cases h
 hd:=I.ok.hd
 frames:=I.ok.frames
 stk:=.inl rfl
 exf:=λb d=>by
  obtain⟨r,i,l,n,j,t⟩:=p b d;exact⟨λz=>absurd (ZY (m b d) s) (by rw[z];exact Y0 _),λx c e=>j x c (a x c e)⟩
 bs:=I.bs
 bsz:=ZL I.ok.bsz I.sz
 noex:=λb o e d=>by
  obtain⟨r,i,l,n,j,t⟩:=p b d;rcases n with z|z
  ·exact I.ok.noex b o e z
  ·exact absurd (ZY (ZH (I.ok.bs b o e).1) z) (Y0 _)
 exfs:=λb d D=>by
  obtain⟨r,i,l,n,j,t⟩:=p b d;rcases wU.mp (I.stkSub b D) with z|z
  ·exact i z
  ·exact l z
 funs:=I.stack
 frf:=I.stkFree
theorem kX {env:Env}{x:Str}:∀{names:List (Str × NameKind)},names.lookup x=some .free->
  (names.map λ(n,k)=>if (k == NameKind.free && env.scope.kind == .function && env.kindOf n == some .cell) then (n,NameKind.cell) else (n,k)).lookup x=some .cell\/
  (names.map λ(n,k)=>if (k == NameKind.free && env.scope.kind == .function && env.kindOf n == some .cell) then (n,NameKind.cell) else (n,k)).lookup x=some .free
 | [],h=>by simp at h
 | (n,b) :: r,h=>by
  have d := @kX env x r;show List.lookup x ((if (b == NameKind.free && env.scope.kind == .function && env.kindOf n == some .cell)=true then (n,NameKind.cell) else (n,b)) :: _)=_\/List.lookup x ((if (b == NameKind.free && env.scope.kind == .function && env.kindOf n == some .cell)=true then (n,NameKind.cell) else (n,b)) :: _)=_;cases a:x == n with
  | true =>
   simp only[Z6,a,YW]at h;subst h
   by_cases c:(NameKind.free == NameKind.free && env.scope.kind == .function && env.kindOf n == some .cell)=true
   ·rw[yD c];exact .inl (by simp only[Z6,a])
   ·rw[wR c];exact .inr (by simp only[Z6,a])
  | false =>
   simp only[Z6,a]at h
   by_cases c:(b == NameKind.free && env.scope.kind == .function && env.kindOf n == some .cell)=true
   ·rw[yD c];simp only[Z6,a];exact d h
   ·rw[wR c];simp only[Z6,a];exact d h
theorem D3 {i:Nat}{v:V}(h:(stC own caps σ)[i]? = some (some v)):∃j k,i=own.length + j/\caps[j]? = some k/\σ[k]? = some (some v):=by
 unfold stC at h
 by_cases a:i < own.length
 ·rw[ZC (by simpa using a)]at h
  simp[a]at h
 ·rw[ZD (by simpa using W4 a)]at h
  simp only[List.length_replicate,ZP]at h;cases c:caps[i - own.length]? with
  | none=>rw[c]at h;cases h
  | some k =>
   rw[c]at h;simp only[XE,YW]at h;refine⟨i - own.length,k,by omega,c,?_⟩;cases e : σ[k]? with
   | none=>rw[e]at h;cases h
   | some o=>rw[e]at h;simp only[Option.join_some]at h;rw[h]
theorem Ah (I:Inv X pins σ H1 s2)(S:ei X scope own capn caps)(t:s2.heap.objs.size < C)(a:∀x c,cl.lookup x=some c->X.env.cells.lookup x=some c)(d:∀y∈scope.names,y.2=.free->∃c,cl.lookup y.1=some c)
  (L:∀b∈ex,qu X pins H1 b) (q:∀b∈ex,b < s2.heap.objs.size) {h1:Heap} {m:Str->Option T0} {tk:Nat} (E:h1.Ns C m) (l:∀b o,s2.heap.get? b=some o->h1.get? b=some o)
  (F:h1.get? s2.heap.objs.size=some { cls:=.type "list",data:=.seq #[] }) :
  Inv (cxC X (own++capn) scope cl C s2 H1 ex) [] (stC own caps σ) (upd H1 s2.heap.objs.size (.lst [])) { s2 with heap:=h1,toks:=tk } where
 ok:=F9 I S (XB t) a d L q
 os:=rfl
 bare:=I.bare
 base:=Un.laid l (ZK _) (I.hok.fresh (ZK _))
 loc:=by
  refine⟨m,E,λi x v M Q R => ?_⟩;obtain⟨j,k,rfl,J,s⟩:=D3 Q;have n:capn[j]? = some x:=by
   have:(own++capn)[own.length + j]? = some x:=M;rw[ZD (by omega)]at this;simpa using this
  obtain⟨T,w,H,A⟩:=S.cap j x n;rw[J]at w;cases w;have D:=gw A;have B:=S.free _ D rfl;obtain⟨U,O,K⟩:=I.loc;obtain⟨u,r,P⟩:=K k x v H s (.inr B);refine⟨u,r,.inr ⟨kX A,?_⟩⟩;rcases P with ⟨z,_⟩|⟨_,c,G,o,f,h⟩
  ·rcases B with e|e<;>(rw[z]at e;cases e)
  ·obtain⟨V,g⟩:=d _ D rfl
   have:=a _ _ g;rw[G]at this;cases this;exact⟨c,g,o,l c o f,h⟩
 cell:=λx c e=>by
  obtain⟨v,o,f,h⟩:=I.cell x c (a x c e);exact⟨v,o,l c o f,h⟩
 free:=by
  show upd H1 _ _ C=none;rw[aF (YA t)];exact I.hok.fresh (XB t)
 freeC:=λx c e=>by
  obtain⟨v,o,f,h⟩:=I.cell x c (a x c e);rw[aF (ZM (ZH f))];exact I.freeC x c (a x c e)
 pin:=λp N=>absurd (show p∈([] : List (Addr × Obj)) from N) (by simp)
 hok:=I.hok.laid l (ZK _) ⟨XZ _,[],0,.nil,F⟩
 len:=by
  show (stC own caps σ).length=(own++capn).length;simp[stC,S.len]
end
theorem RS.other {K:ZW}{ρ:List Addr}{H:Hp}{σd:Sd}{hd:Hd}{σ:St}{d:Addr}{ys b:List V}(r:RS K ρ H σd hd σ)(h:H d=some (.lst ys))(n:d ∉ ρ):RS K ρ (upd H d (.lst b)) σd hd σ/\Kp ρ H ρ (upd H d (.lst b)):=by
 have k:Kp ρ H ρ (upd H d (.lst b)):=⟨λ_ _ h=>h,λa j e=>by
  rw[aF (λz=>by rw[z,h]at e;cases e)];exact e,λa o u e=>by
  rw[aF (λz=>by rw[z,h]at e;cases e)];exact e,λa i e=>by
  rw[aF (λz=>by rw[z,h]at e;cases e)];exact e⟩
 refine⟨⟨⟨r.hp.len,r.hp.nd,λm c a g f=>(r.hp.cel m c a g f).mono k (aF λz=>n (by rw[<-z];exact ZJ f))⟩,r.st.mono k⟩,k⟩
theorem Ext.other {ρ ρ':List Addr}{H a:Hp}{d:Addr}{o:HO}(e:Ext ρ H ρ' a)(h:H d=none):Ext ρ H ρ' (upd a d o) :=
 ⟨e.pre,e.new,λp u b n=>by rw[aF (bM b h)];exact e.frame p u b n⟩
theorem vI {nl:Nat}{caps:List Nat}{σd:Sd}{i:Nat}{d:D}(h:slot (iP nl caps σd) i=some d):∃j k,i=nl + j/\caps[j]? = some k/\slot σd k=some d:=by
 unfold iP at h;simp only[slot]at h
 by_cases a:i < nl
 ·rw[ZC (by simpa using a)]at h
  simp[a]at h
 ·rw[ZD (by simpa using W4 a)]at h
  simp only[List.length_replicate,ZP]at h;cases c:caps[i - nl]? with
  | none=>rw[c]at h;cases h
  | some k =>
   rw[c]at h;simp only[XE]at h;refine⟨i - nl,k,by omega,c,?_⟩;simp only[slot]
   revert h
   cases e : σd[k]? with
   | none=>simp
   | some o=>cases o<;>simp
structure E8 (K:ZW) (ρ0:List Addr) (H0:Hp) (J:It) (l:List D) (G:Hd->Prop):Prop where
 go:∀ρ H hd (i:Nat) d,Ext ρ0 H0 ρ H->RH K ρ H hd->G hd->l[i]? = some d->J.go i H/\∀x H',J.yld i H x H'->gn H H'/\RD K ρ H' d x
 stop:∀ρ H hd,Ext ρ0 H0 ρ H->RH K ρ H hd->G hd->J.stop l.length H
 sz:l.length<=sizeLine
theorem qA.g {K:ZW}{ρ:List Addr}{H:Hp}{J:It}{l:List D}{g:Option Nat}(w:qA K ρ H J l g):E8 K ρ H J l (gq g l):=⟨w.go,w.stop,w.sz⟩
structure CD where
 i:Nat
 ys:List V
 acc:List D
 rest:List D
 ρ:List Addr
 σd:Sd
 hd:Hd
 H:Hp
 σ:St
structure CI (X:Cx) (own capn:List Str) (scope:Scope) (cl:List (Str × Addr)) (s2:T1) (C:Addr) (H1:Hp) (ρ1:List Addr) (fp:List Addr) (tn:Nat->Heap->Prop) (G:Hd->Prop) (g:GF) (cs:List TF) (e:EF) (l:List D) (hdF:Hd) (ds:List D) (d:CD) (s':T1):Prop where
 le:d.i<=l.length
 inv:Inv (cxC X (own++capn) scope cl C s2 H1 fp) [] d.σ d.H s'
 st:tn d.i s'.heap
 fr:∀b∈fp,d.H b=none
 at':d.H s2.heap.objs.size=some (.lst d.ys)
 out:s2.heap.objs.size∉d.ρ
 yl:d.ys.length<=d.i
 ex:Ext ρ1 H1 d.ρ d.H
 rs:RS X.K d.ρ d.H d.σd d.hd d.σ
 ac:RDs X.K d.ρ d.H d.acc d.ys
 run:jD G g cs e (l.drop d.i) d.σd d.hd=.ok d.rest hdF
 eq:d.acc++d.rest=ds
section
variable {X:Cx} {pins:List (Addr × Obj)} {σ:St} {H1:Hp} {s2:T1} {scope:Scope} {own capn:List Str} {caps:List Nat} {cl:List (Str × Addr)}
theorem xK {a:List Addr}{σd:Sd}{b:Hd}(S:ei X scope own capn caps)(r:RS X.K a H1 σd b σ){d:Addr}(hd:H1 d=none):RS X.K a (upd H1 d (.lst [])) (iP own.length caps σd) b (stC own caps σ):=by
 have c:=cC (o:=HO.lst []) hd;refine⟨r.hp.same c,⟨by simp[stC,iP],λi x e => ?_⟩⟩;obtain⟨j,k,rfl,g,h⟩:=vI e;obtain⟨v,l,f⟩:=r.st.at' k x h;refine⟨v,?_,f.mono (Kp.same c)⟩;unfold stC;rw[ZD (by simp)];simp[g,l]
theorem rN {c6 tg a8:Expr}{b7:List Expr}{pos:Pos}{it:Addr}{B:List Addr}{tn:Nat->Heap->Prop}{J:It}{l:List D}{G:Hd->Prop}{g:GF}{cs:List TF}{e:EF}{F:List Addr}{σd:Sd}{b8 a2:Hd}{ds:List D}{E:T0->T1->Prop}{RR:T0->Addr->Result->T1->Prop}
  (hc:X.calm=true) (S:ei X scope own capn caps) (e1:∀cl C s H ex,MG (cxC X (own++capn) scope cl C s H ex) tg g/\MTs (cxC X (own++capn) scope cl C s H ex) b7 cs/\ME (cxC X (own++capn) scope cl C s H ex) c6 e)
  (I1:Inv X pins σ H1 s2) (T:zT X.prog X.w X.K tg J B it tn) (d9:tn 0 s2.heap) (hf:∀b∈B,qu X pins H1 b) (d0:RS X.K F H1 σd b8 σ) (wk:E8 X.K F H1 J l G)
  (b0:∀x c,cl.lookup x=some c->X.env.cells.lookup x=some c) (d3:∀y∈scope.names,y.2=.free->∃c,cl.lookup y.1=some c)
  (run:jD G g cs e l (iP own.length caps σd) b8=.ok ds a2)
  (g0:∀C s' m h ρ' vs,s2.heap.objs.size < C->s'.heap.Ns C m->Inv X pins σ h s'->h C=none->Ext F H1 ρ' h->RH X.K ρ' h a2->H1 s2.heap.objs.size=none->h s2.heap.objs.size=some (.lst vs)->s2.heap.objs.size ∉ ρ'->RDs X.K ρ' h ds vs->
   RR (.ref s2.heap.objs.size) C (.ok .next) s') :
  wpAny (model X.prog X.w) X.A (newList []) (λacc w => wpAny (model X.prog X.w) X.A (newFunctionEnv scope X.env.globals cl [] X.env.qual none .none (some X.env)) (λa7 d4 =>
   codeAny (model X.prog X.w) X.A (.compStart (.ListComp c6 [⟨tg,a8,b7,0⟩] scope pos) 0 (.ref it) acc { a7 with scope:=relabel scope X.env }) (RR acc a7.locals) d4) E w) E s2:=by
 refine WU (wpAny_newFunctionEnv S.cell (by intro y hy;simp at hy) (λN k f => ?_) S.kind);dsimp only at k f ⊢;generalize hH2:s2.heap.push { cls:=.type "list",dict:=none,data:=.seq ([] : List T0).toArray } = L at k f ⊢;have hC:L.objs.size=s2.heap.objs.size + 1:=by rw[<-hH2,Heap.size_push]
 have e8:s2.heap.objs.size≠L.objs.size:=by rw[hC];exact ZM (W5 _)
 have old:∀b o,s2.heap.get? b=some o->N.get? b=some o:=λb o e=>f.extBut b o (by rw[hC];exact ZM (Z7 (ZH e))) (ZG _ (hH2 ▸ ZG _ e));have d6:N.get? s2.heap.objs.size=some { cls:=.type "list",data:=.seq #[] }:=f.extBut _ _ e8 (ZG _ (hH2 ▸ ZI _ rfl));have b9:∀b∈B,b < s2.heap.objs.size:=λb A=>by
  obtain⟨o,ho,_⟩:=T.obj 0 _ d9 b A;exact ZH ho
 have c9:s2.heap.objs.size < L.objs.size:=by rw[hC];exact W5 _
 have R:H1 s2.heap.objs.size=none:=I1.hok.fresh (ZK _);have d7:tn 0 N := T.keep 0 _ _ d9 λb A o e=>old b o e;have e6:s2.heap.objs.size ∉ F:=d0.hp.free R;obtain⟨hG,hT,hE⟩:=e1 cl L.objs.size s2 H1 B;have I':=Ah (tk:=s2.toks + ([] : List (Str × T0)).length) I1 S c9 b0 d3 hf b9 k old d6;have b4:∀{pins':List (Addr × Obj)} {h:Hp},(∀b∈B,h b=none)->∀b∈B,qu (cxC X (own++capn) scope cl L.objs.size s2 H1 B) [] h b:=λ{pins' h} hn b A=>by
  obtain⟨f0,f1,f2,f3,f4,f5⟩:=hf b A;have lt:=b9 b A;refine⟨hn b A,λz=>absurd lt (by rw[show b=L.objs.size from z,hC];exact WY.mpr (Nat.le_succ _)),λz => ?_,.inl A,λx c e=>f4 x c (b0 x c e),λp hp=>absurd (show p∈([] : List (Addr × Obj)) from hp) (by simp)⟩;rcases wU.mp (I1.stkSub b z) with q|q
  ·exact f1 q
  ·exact f2 q
 have b3:∀w : T1,w = { s2 with heap:=N,toks:=s2.toks + ([] : List (Str × T0)).length }->
   codeAny (model X.prog X.w) X.A (.compLoop (.ListComp c6 [⟨tg,a8,b7,0⟩] scope pos) 0 (.ref it) (.ref s2.heap.objs.size) (compEnvC scope cl L.objs.size X.env)) (RR (.ref s2.heap.objs.size) L.objs.size) w := by
  rintro w rfl;refine tJ (λ_ _ z=>z) (λn s'=>∃d:CD,n=l.length - d.i/\CI X own capn scope cl s2 L.objs.size H1 F B tn G g cs e l a2 ds d s') ?_ l.length
   ⟨⟨0,[],[],ds,F,_,b8,_,_⟩,by simp,XZ _,I',d7,λb A => ?_,aM,e6,ZK _,Ext.same (cC R),xK S d0 R,RDs.nil,by simpa using run,rfl⟩
  ·rintro n s' ⟨⟨i,ys,acc,rest,ρ',M,hd',h,a0⟩,rfl,Q⟩
   have g3:i<=l.length:=Q.le;have I':Inv (cxC X (own++capn) scope cl L.objs.size s2 H1 B) [] a0 h s':=Q.inv;have d1:tn i s'.heap:=Q.st;have d5:∀b∈B,h b=none:=Q.fr;have c7:h s2.heap.objs.size=some (.lst ys):=Q.at';have c0:s2.heap.objs.size ∉ ρ':=Q.out;have d2:ys.length<=i:=Q.yl;have ex:Ext F H1 ρ' h:=Q.ex;have Z:RS X.K ρ' h M hd' a0:=Q.rs;have b1:RDs X.K ρ' h acc ys:=Q.ac;have a:jD G g cs e (l.drop i) M hd'=.ok rest a2:=Q.run;have a3:acc++rest=ds:=Q.eq
   by_cases hlt':i < l.length
   ·have f6:l[i]? = some l[i]:=by simp[hlt']
    rw[X7 hlt']at a;unfold jD at a
    by_cases hh:G hd'
    ·rw[yD hh]at a
     obtain⟨go,yl⟩:=wk.go ρ' h hd' i _ ex Z.hp hh f6;cases c:g l[i] M with
     | none=>rw[c]at a;cases a
     | some σd2 =>
      rw[c]at a;simp only at a;refine thn (T.item (cxC X (own++capn) scope cl L.objs.size s2 H1 B) rfl rfl rfl hc i [] s' a0 h (λ_ _=>False) I' (b4 (pins':=[]) d5) d1 go) λr a6 ⟨u,hr,h4⟩ => ?_;subst hr;refine thn h4 λ_ s5 ⟨x,H5,I5,r5,y5,b6,e7⟩ => ?_;obtain⟨sm,rx⟩:=yl x H5 y5;have e3:=I5.pinned (b4 (pins':=[]) e7) (T.obj _ _ b6);have e9:=Z.same sm;refine thn (hG _ s5 a0 H5 x u (λj H6=>H6=H5/\RS X.K ρ' H5 σd2 hd' j) e3 r5 ⟨ρ',M,hd',l[i],σd2,e9,rx,c,λj c1=>⟨rfl,c1⟩⟩) λ_ s6 ⟨j,H6,I6,g1,c1⟩ => ?_;subst g1;cases c2:oS cs σd2 hd' with
      | exc z h7=>rw[c2]at a;cases a
      | bad=>rw[c2]at a;cases a
      | ok b a4 =>
       rw[c2]at a;simp only[az]at a;refine thn (hT _ s6 j H6 (λb' H7=>b'=b/\∃t,Ext ρ' H6 t H7/\RS X.K t H7 σd2 a4 j) I6 ⟨ρ',σd2,hd',c1,by
        rw[c2];exact λb' H7 t c5 Y q=>⟨q.symm,t,c5,Y⟩⟩) λb' s7 ⟨H7,I7,g2,t,c5,Y⟩ => ?_
       subst g2;have a5:∀{d8:St} {P:Hp} {s8:T1},Inv (cxC X (own++capn) scope cl L.objs.size s2 H1 B) ([]++oE B s5.heap) d8 P s8->tn (i + 1) s8.heap/\∀b∈B,P b=none:=λ{d8 P s8} I8 =>
        ⟨T.keep _ _ _ b6 λb A o e=>(I8.pin (b,o) (YG _ (YG _ (iN A e)))).1,λb A=>by
         obtain⟨o,e,d⟩:=T.obj _ _ b6 b A;exact(I8.pin (b,o) (YG _ (YG _ (iN A e)))).2.1⟩
       have a1:Ext ρ' h t H7:=(Ext.same sm).trans c5;have V:H7 s2.heap.objs.size=some (.lst ys):=a1.frame _ _ c7 c0;have U:=a1.out c7 c0;have W:=b1.mono (Z.hp.kp a1);cases b' with
       | false =>
        simp only[YP,WB]at a ⊢;obtain⟨f7,f8⟩:=a5 I7;exact⟨l.length - (i + 1),by omega,⟨i + 1,ys,acc,rest,t,σd2,a4,H7,j⟩,rfl,hlt',I7.unpinned,f7,f8,V,U,Nat.le_succ_of_le d2,ex.trans a1,Y,W,a,a3⟩
       | true =>
        simp only[Y7]at a ⊢;cases c3:e σd2 a4 with
        | exc z h7=>rw[c3]at a;cases a
        | bad=>rw[c3]at a;cases a
        | ok d c8 =>
         rw[c3]at a;simp only[az]at a;cases c4:jD G g cs e (l.drop (i + 1)) σd2 c8 with
         | exc z h7=>rw[c4]at a;cases a
         | bad=>rw[c4]at a;cases a
         | ok rest' g4 =>
          rw[c4]at a;simp only[az,Res.ok.injEq]at a;obtain⟨I,hF⟩:=a;subst I hF;refine thn (hE _ s7 j H7 (λv P=>∃K,Ext t H7 K P/\RS X.K K P σd2 c8 j/\RD X.K K P d v) I7 ⟨t,σd2,a4,Y,by
           rw[c3];exact λv P K O b5 q=>⟨K,O,b5,q⟩⟩) λu8 s8 ⟨v8,P,I8,r8,K,O,b5,e4⟩ => ?_
          have b2:P s2.heap.objs.size=some (.lst ys):=O.frame _ _ V U;have a9:=O.out V U;refine thn (rH _ s8 j P (.ref s2.heap.objs.size) [v8] (.ref s2.heap.objs.size) [u8] (λ_ H9=>H9=upd P s2.heap.objs.size (.lst (ys++[v8]))) I8 rfl (.cons r8 .nil) ⟨_,ys,v8,rfl,rfl,b2,by have:=wk.sz;omega,rfl⟩) λu9 s9 ⟨v9,H9,I9,r9,q9⟩ => ?_;subst q9;obtain⟨e5,f9⟩:=a5 I9;obtain⟨e2,k9⟩:=b5.other b2 a9;exact⟨l.length - (i + 1),by omega,⟨i + 1,ys++[v8],acc++[d],rest',K,σd2,c8,_,j⟩,rfl,hlt',I9.unpinned,e5,f9,aM,a9,by simp;exact d2,(ex.trans (a1.trans O)).other R,e2,
           ((W.mono (Y.hp.kp O)).mono k9).append (RDs.cons (e4.mono k9) RDs.nil),c4,by rw[<-a3];simp⟩
    ·rw[wR hh]at a;cases a
   ·have e0:i=l.length:=by omega
    subst e0;rw[X1]at a;unfold jD at a
    by_cases hh:G hd'
    ·rw[yD hh]at a
     simp only[Res.ok.injEq]at a;obtain⟨I,hF⟩:=a;subst I hF;rw[YL]at a3;subst a3;refine thn (T.done (cxC X (own++capn) scope cl L.objs.size s2 H1 B) rfl rfl rfl hc _ [] s' a0 h (λ_ _=>False) I' (b4 (pins':=[]) d5) d1 (wk.stop ρ' h hd' ex Z.hp hh)) λr a6 ⟨hr,I4⟩ => ?_;subst hr;obtain⟨m,hm,_⟩:=I4.loc;refine g0 L.objs.size a6 m h ρ' ys c9 hm ?_ I4.free ex Z.hp R c7 c0 b1;exact I1.call' I4.os I4.base I4.hok I4.bare λb A=>by
      obtain⟨f0,f1,f2,f3,f4,f5⟩:=hf b A;exact⟨f3,f1,f4,f5⟩
    ·rw[wR hh]at a;cases a
  ·show upd H1 _ _ b=none
   rw[aF (ZM (b9 b A))];exact(hf b A).1
 exact codeAny_compStart_list (b3 _ rfl) (T.self _ 0 _ _ _ d7 (b3 _ rfl))
end
section
variable {X:Cx} {pos:Pos} {scope:Scope} {own capn:List Str} {caps:List Nat}
theorem yZ {j tg a:Expr}{k:List Expr}{f:IF}{g:GF}{cs:List TF}{e:EF}(hc:X.calm=true)(S:ei X scope own capn caps)(hi:MI X tg a f)
  (E:∀cl C s H ex,MG (cxC X (own++capn) scope cl C s H ex) tg g/\MTs (cxC X (own++capn) scope cl C s H ex) k cs/\ME (cxC X (own++capn) scope cl C s H ex) j e)
  (hs:∀x,foldedSetIterable a X.env x=pure x:=by intro _;rfl):MF X (.ListComp j [⟨tg,a,k,0⟩] scope pos) (cB own.length caps f g cs e):=by
 intro pins s σ H Q I ⟨ρ,σd,O,V,p⟩;rw[eval_ListComp];unfold cB at p;cases c:f σd O with
 | exc z h7=>rw[c]at p;exact p.elim
 | bad=>rw[c]at p;exact p.elim
 | ok q w =>
  obtain⟨l,gd⟩:=q;rw[c]at p;simp only[az]at p;obtain⟨cl,G,u,t⟩:=oZ λy Z K=>I.ok.has y.1 (S.free y Z K);refine wpAny_comprehension_free rfl hs G S.kind S.names (thn (hi pins s σ H (λJ A=>∃d,Ext ρ H d A/\RS X.K d A σd w σ/\qA X.K d A J l gd) I ⟨ρ,σd,O,V,by
   rw[c];exact λJ L ρ' ex N R=>⟨ρ',ex,N,R⟩⟩) λv s1 G=>thn G λa0 s2 Y => ?_)
  obtain⟨it,fp,tn,J,A,rfl,i,T,M,hf,d,h,n,R⟩:=Y;cases B:cV gd l g cs e l (iP own.length caps σd) w with
  | exc z h7=>rw[B]at p;exact p.elim
  | bad=>rw[B]at p;exact p.elim
  | ok ds hdF =>
   rw[B]at p;refine rN hc S E i T M hf n R.g u t ((tI _ _ _).symm.trans B) λC s' m L ρ' vs D hn I' P ex rh r hD U F => ?_;refine⟨m,hn,λh' W=>⟨.ref s2.heap.objs.size,L,?_,rfl,?_⟩⟩
   ·refine I'.turned (λb o hb e=>(W.2 b hb).trans e) P ?_ (.inr (XB (ZR i.sz D))) (λx c e z => ?_) λq hq z => ?_
    ·exact YA (Z8 i.lt D)
    ·obtain⟨v,o,ho,O⟩:=i.cell x c e
     exact absurd (Z8 (ZH ho) D) (by rw[z];exact Y0 _)
    ·exact absurd (Z8 (ZH (i.pin q hq).1) D) (by rw[z];exact Y0 _)
   ·exact p _ vs L ρ' (h.trans ex) (V.ext (h.trans ex) rh) (h.fresh r (n.hp.free r)) hD U F
theorem za {i:Nat}{x:Str}{n:Pos}{A tg h:Expr}{u:List Expr}{f:IF}{g:GF}{cs:List TF}{e:EF}{cpos:Pos}(hN:X.N.Nodup)(a7:X.N[i]? = some x)(hx:Loc X.env.scope x)(hc:X.calm=true)(S:ei X scope own capn caps)(hi:MI X tg h f)
  (Y:∀cl C s H ex,MG (cxC X (own++capn) scope cl C s H ex) tg g/\MTs (cxC X (own++capn) scope cl C s H ex) u cs/\ME (cxC X (own++capn) scope cl C s H ex) A e)
  (a2:swapsWith (.ListComp A [⟨tg,h,u,0⟩] scope cpos) (some (.Name x n)) pos.line X.env=pure true:=by rfl)
  (hs:∀x,foldedSetIterable h X.env x=pure x:=by intro _;rfl) (a4:X.fn x=true\/X.env.scope.names.lookup x=some .local:=by first|exact .inl rfl|exact .inr rfl|assumption) :
  MS X (.Assign [.Name x n] (.ListComp A [⟨tg,h,u,0⟩] scope cpos) pos) (aB (gN i) (aL (cB own.length caps f g cs e))):=by
 intro pins s σ H En I ⟨ρ,σd,hd,rs,p⟩;rw[exec_Assign_Name_used _ _ _ _ a2];refine yC (VB ?_);have d:=bv.outE (σ := σ) p;unfold aL cB at d;cases c:f σd hd with
 | exc z h7=>rw[c]at d;exact d.elim
 | bad=>rw[c]at d;exact d.elim
 | ok q L =>
  obtain⟨l,gd⟩:=q;rw[c]at d;simp only[az]at d;obtain⟨cl,h1,P,K⟩:=oZ λy hy a1=>I.ok.has y.1 (S.free y hy a1);refine yC (yC (wpAny_comprehension_free rfl hs h1 S.kind S.names (thn (hi pins s σ H (λJ R=>∃j,Ext ρ H j R/\RS X.K j R σd L σ/\qA X.K j R J l gd) I ⟨ρ,σd,hd,rs,by
   rw[c];exact λJ r ρ' ex b1 wk=>⟨ρ',ex,b1,wk⟩⟩) λv s1 h1=>thn h1 λb5 k h2 => ?_)))
  obtain⟨it,fp,tn,J,R,rfl,B,T,b0,hf,j,O,F,wk⟩:=h2;cases Q:cV gd l g cs e l (iP own.length caps σd) L with
  | exc z h7=>rw[Q]at d;exact d.elim
  | bad=>rw[Q]at d;exact d.elim
  | ok ds hdF =>
   rw[Q]at d;simp only[az]at d
   by_cases hz:ds.length<=SZ
   ·rw[yD hz]at d
    refine rN hc S Y B T b0 hf F wk.g P K ((tI _ _ _).symm.trans Q) λC s' m r ρ' vs U hn I' b2 ex rh G hD a6 a8 => ?_;refine wpAny_assign_Name (rn I' hN a7 hx (v:=.ref k.heap.objs.size) rfl (λW a0 V => ?_) a4);have E:C≠X.env.locals:=YA (Z8 B.lt U);have N:∀y c,X.env.cells.lookup y=some c->c≠C:=λy c e z=>by
     obtain⟨v,o,ho,hd⟩:=B.cell y c e;exact absurd (Z8 (ZH ho) U) (by rw[z];exact Y0 _)
    refine⟨m,?_,λh' sb=>wW (wW ?_)⟩
    ·obtain⟨a,sa,Z⟩:=V
     refine hn.sameBut sa ?_;rcases Z with z|z
     ·rw[z];exact E
     ·exact YV (N _ _ z)
    ·have I3:Inv X pins (σ.set i (some (.ref k.heap.objs.size))) r { W with heap:=h' }:=a0.turned (λb o hb e=>(sb.2 b hb).trans e) b2 E (.inr (XB (ZR B.sz U))) N λq hq z =>
      absurd (Z8 (ZH (B.pin q hq).1) U) (by rw[z];exact Y0 _)
     have w:Ext ρ H ρ' r:=O.trans ex;have a3:=rh.alloc hD a6 a8;have a5:H k.heap.objs.size=none:=O.fresh G (F.hp.free G);have D:Ext ρ H (ρ'++[k.heap.objs.size]) r:=⟨by obtain⟨t,rfl⟩:=w.pre;exact⟨t++[k.heap.objs.size],by simp⟩,λa Z=>by
      rcases Z0.mp Z with z|z
      ·exact w.new a z
      ·simp at z;subst z;exact .inr a5,w.frame⟩
     obtain⟨a9,d2,b4,e2,M,b3,pn⟩:=d (.ref k.heap.objs.size) r (ρ'++[k.heap.objs.size]) D (rs.ext D a3) (by
      simp only[rD,RD];refine⟨k.heap.objs.size,?_,rfl⟩;rw[<-rh.len];simp)
     exact⟨_,r,I3,pn _ r a9 Ext.refl ⟨M.hp,M.st.set i b3⟩⟩
   ·rw[wR hz]at d;exact d.elim
end
end Fm
namespace Fm
open PySem PySem.Spec L2 PyProof.Rows
mutual
def rfs (k:Nat):D->Prop
 | .ref n=>n < k
 | .tup l=>hJ k l
 | .lit l=>hJ k l
 | .exn _ l=>hJ k l
 | _=>True
def hJ (k:Nat):List D->Prop
 | []=>True
 | x :: xs=>rfs k x/\hJ k xs
end
section
variable {K:ZW} {ρ ρ' t:List Addr} {H H':Hp} {hd hd':Hd}
mutual
theorem RD.rfs:∀{d:D} {v:V},RD K ρ H d v->Fm.rfs ρ.length d
 | .non,_,_=>by simp only[Fm.rfs]
 | .bl _,_,_=>by simp only[Fm.rfs]
 | .int _,_,_=>by simp only[Fm.rfs]
 | .str _,_,_=>by simp only[Fm.rfs]
 | .tup l,_,h=>by
  simp only[RD]at h;obtain⟨p,vs,_,_,b⟩:=h;simp only[Fm.rfs];exact RDs.rfs b
 | .lit l,_,h=>by
  simp only[RD]at h;obtain⟨p,vs,_,_,b⟩:=h;simp only[Fm.rfs];exact RDs.rfs b
 | .ref n,_,h=>by
  simp only[RD]at h;obtain⟨a,c,_⟩:=h;simp only[Fm.rfs];exact(yE.mp c).1
 | .exn _ l,_,h=>by
  simp only[RD]at h;rcases h with ⟨_,rfl,_⟩|⟨_,p,vs,_,_,b⟩
  ·simp only[Fm.rfs,Fm.hJ]
  ·simp only[Fm.rfs];exact RDs.rfs b
theorem RDs.rfs:∀{l:List D} {vs:List V},RDs K ρ H l vs->Fm.hJ ρ.length l
 | [],_,_=>by simp only[Fm.hJ]
 | d :: b,_,h=>by
  simp only[RDs]at h;obtain⟨v,r,_,h1,a⟩:=h;simp only[Fm.hJ];exact⟨RD.rfs h1,RDs.rfs a⟩
end
mutual
theorem RD.cut:∀{d:D} {v:V},RD K (ρ ++ t) H d v->Fm.rfs ρ.length d->RD K ρ H d v
 | .non,_,h,_=>by simp only[RD]at h ⊢;exact h
 | .bl _,_,h,_=>by simp only[RD]at h ⊢;exact h
 | .int _,_,h,_=>by simp only[RD]at h ⊢;exact h
 | .str _,_,h,_=>by simp only[RD]at h ⊢;exact h
 | .tup l,_,h,q=>by
  simp only[RD]at h ⊢;simp only[Fm.rfs]at q;obtain⟨p,vs,e,h1,b⟩:=h;exact⟨p,vs,e,h1,RDs.cut b q⟩
 | .lit l,_,h,q=>by
  simp only[RD]at h ⊢;simp only[Fm.rfs]at q;obtain⟨p,vs,e,h1,b⟩:=h;exact⟨p,vs,e,h1,RDs.cut b q⟩
 | .ref n,_,h,q=>by
  simp only[RD]at h ⊢;simp only[Fm.rfs]at q;obtain⟨a,h1,b⟩:=h;exact⟨a,by rwa[ZC q]at h1,b⟩
 | .exn _ l,_,h,q=>by
  simp only[RD]at h ⊢;simp only[Fm.rfs]at q;rcases h with h|⟨c,p,vs,e,h1,b⟩
  ·exact .inl h
  ·exact .inr ⟨c,p,vs,e,h1,RDs.cut b q⟩
theorem RDs.cut:∀{l:List D} {vs:List V},RDs K (ρ ++ t) H l vs->Fm.hJ ρ.length l->RDs K ρ H l vs
 | [],_,h,_=>by simp only[RDs]at h ⊢;exact h
 | d :: b,_,h,q=>by
  simp only[RDs]at h ⊢;simp only[Fm.hJ]at q;obtain⟨v,r,e,h1,a⟩:=h;exact⟨v,r,e,RD.cut h1 q.1,RDs.cut a q.2⟩
end
mutual
theorem kY {k:Nat}:∀{d:D},pure? d=true->Fm.rfs k d
 | .non,_=>by simp only[Fm.rfs]
 | .bl _,_=>by simp only[Fm.rfs]
 | .int _,_=>by simp only[Fm.rfs]
 | .str _,_=>by simp only[Fm.rfs]
 | .tup l,h=>by simp only[pure?]at h;simp only[Fm.rfs];exact gj h
 | .lit l,h=>by simp only[pure?]at h;simp only[Fm.rfs];exact gj h
 | .exn _ l,h=>by simp only[pure?]at h;simp only[Fm.rfs];exact gj h
 | .ref _,h=>by simp only[pure?]at h;cases h
theorem gj {k:Nat}:∀{l:List D},gr l=true->Fm.hJ k l
 | [],_=>by simp only[Fm.hJ]
 | x :: xs,h=>by
  simp only[gr,Z4]at h;simp only[Fm.hJ];exact⟨kY h.1,gj h.2⟩
end
def BS (k:Nat):aO->Prop
 | .lst l=>Fm.hJ k l
 | .dct l=>Fm.hJ k (l.map (·.2))
 | .dcT l=>Fm.hJ k (l.map (·.2))
 | .ob l=>Fm.hJ k l
theorem RC.rfs {c:aO}{a:Addr}(h:RC K ρ H c a):BS ρ.length c:=by
 cases c with
 | lst l=>obtain⟨d,_,b⟩:=h;exact b.rfs
 | dct l=>obtain⟨d,_,_,b⟩:=h;exact b.rfs
 | dcT l=>obtain⟨d,_,_,b⟩:=h;exact b.rfs
 | ob l=>obtain⟨_,_,_,_,b,_⟩:=h;exact b.rfs
theorem RC.cut {c:aO}{a:Addr}(h:RC K (ρ ++ t) H c a)(q:BS ρ.length c):RC K ρ H c a:=by
 cases c with
 | lst l=>obtain⟨e,d,b⟩:=h;exact⟨e,d,b.cut q⟩
 | dct l=>obtain⟨e,d,b,f⟩:=h;exact⟨e,d,b,f.cut q⟩
 | dcT l=>obtain⟨e,d,b,f⟩:=h;exact⟨e,d,b,f.cut q⟩
 | ob l=>obtain⟨e,C,g,d,b,f⟩:=h;exact⟨e,C,g,d,b.cut q,f⟩
theorem tK {k:Nat}{c:aO}(h:jz c=true):BS k c:=by
 cases c with
 | lst l=>exact gj h
 | ob l=>exact gj h
 | dcT l =>
  have:∀l:List (List Int × D),(l.all λp=>pure? p.2)=true->Fm.hJ k (l.map (·.2)):=by
   intro l
   induction l with
   | nil=>intro _;simp only[Y8,Fm.hJ]
   | cons x l a=>intro h;simp only[Y6,Z4]at h;simp;exact⟨kY h.1,a h.2⟩
  exact this l h
 | dct l =>
  have:∀l:List (Int × D),(l.all λp=>pure? p.2)=true->Fm.hJ k (l.map (·.2)):=by
   intro l
   induction l with
   | nil=>intro _;simp only[Y8,Fm.hJ]
   | cons x l a=>intro h;simp only[Y6,Z4]at h;simp;exact⟨kY h.1,a h.2⟩
  exact this l h
theorem RH.back (r:RH K ρ H hd)(f:RH K (ρ ++ t) H' hd')(o:yV hd hd'):RH K ρ H' (hd'.take hd.length):=by
 have g:(ρ ++ t).length=hd'.length:=f.len;refine⟨by rw[X0,<-g,ZB,<-r.len];omega,(List.nodup_append.mp f.nd).1,λn c a e d => ?_⟩;have b:n < hd.length:=by rw[<-r.len];exact(yE.mp d).1
 rw[List.getElem?_take_of_lt b]at e;have q:=f.cel n c a e (by rw[ZC (by rw[r.len];exact b)];exact d);refine q.cut ?_;rcases o n c b e with z|z
 ·exact(r.cel n c a z d).rfs
 ·exact tK z
def jF (K:ZW) (ρ:List Addr) (H:Hp) (r:Res D) (Q:VK):Prop:=match r with
 | .ok d hd'=>∀v H' ρ',Ext ρ H ρ' H'->RH K ρ' H' hd'->RD K ρ' H' d v->Q v H'
 | _=>False
def spF (K:ZW) (F:Fn) (np:Nat):Sp:=λvs H Q _=>∃ρ hd ds,RH K ρ H hd/\RDs K ρ H ds vs/\ds.length=np/\jF K ρ H (F ds hd) Q
theorem Ext.short (e:Ext ρ H (ρ ++ t) H'):Ext ρ H ρ H':=⟨⟨[],by simp⟩,λ_ h=>.inl h,e.frame⟩
theorem jF.letGo {r:Res D}{Q:VK}(f:RH K ρ H hd)(p:jF K ρ H (letGo hd r) Q):jF K ρ H r Q:=by
 cases r with
 | exc x g=>exact p
 | bad=>exact p
 | ok d g =>
  intro v H' ρ' b a e;simp only[Fm.letGo]at p;split at p
  ·rename_i c
   obtain⟨t,rfl⟩:=b.pre;exact p v H' ρ b.short (f.back a c.2) (e.cut (kY c.1))
  ·exact p v H' ρ' b a e
theorem jF.runB {n:Nat}{b:SF}{a:List D}{Q:VK}(p:jF K ρ H (runB n b a hd) Q):bv K ρ H (b (a.map some++List.replicate (n - a.length) none) hd) { nx:=λ_ H'=>Q .non H',rt:=Q }:=by
 unfold Fm.runB at p;cases e:b (a.map some++List.replicate (n - a.length) none) hd with
 | nx σ c=>rw[e]at p;exact λg H' ρ' h f=>p .non H' ρ' h f.hp (by simp only[RD])
 | rt d c=>rw[e]at p;exact p
 | bk σ c=>rw[e]at p;exact p.elim
 | ct σ c=>rw[e]at p;exact p.elim
 | exc x σ c=>rw[e]at p;exact p.elim
 | bad=>rw[e]at p;exact p.elim
theorem mn {N:List Str}{a:List D}{vs:List V}(r:RDs K ρ H a vs):RSt K ρ H (a.map some++List.replicate (N.length - a.length) none) (L2.jx N vs):=by
 have f:=r.length;refine⟨by simp[L2.jx,f],λi d e => ?_⟩;simp only[slot]at e
 by_cases b:i < a.length
 ·rw[ZC (by simpa using b)]at e
  simp only[ZP,ZE b,XE]at e;cases e;obtain⟨v,g,q⟩:=r.get (i:=i) (d:=a[i]) (by simp[b]);refine⟨v,?_,q⟩;unfold L2.jx;rw[ZC (by simp;omega)];simp[g]
 ·rw[ZD (by simpa using W4 b)]at e
  simp only[List.getElem?_replicate]at e
  by_cases c:i - (List.map some a).length < N.length - a.length
  ·simp only[c,Y7]at e;cases e
  ·simp only[c,WB]at e;cases e
end
structure Def (P:T3) (w:T4) (K:ZW) (mg:Str->Option T0) (base:Heap) (x:Str) (k np:Nat) (F:Fn):Prop where
 ex:∃f fd ps,mg x=some (.ref f)/\PySem.W.keepIn K (.ref f)=true/\eQ K fd ps []/\cM P w K mg base CX0 k f fd ps (spF K F np)
section
variable {P:T3} {w:T4} {K:ZW} {mg:Str->Option T0} {base:Heap}
theorem E9 {x:Str}{st:Stmt}{f:Addr}{h:FuncData}{N ps:List Str}{k:Nat}{b:SF}(F:Fun K x x st f h)(S:ce N ps (aI st))
  (c:∀(a:T0) (A:T2) (outer:List Env) (s:T1) (H:Hp) (E:XK),du k (A.deeper (envOfC x (aI st) s.heap.objs.size f a))->MSs (kQ CX0 P w K mg base N x (aI st) f a A outer s H E).nox (bT st) b) :
  cM P w K mg base CX0 (k + 1) f h ps (spF K (bQ ps.length N.length b) ps.length):=by
 refine F.ok S (λm H Q E ⟨ρ,i,j,d,e,g,p⟩=>by rw[<-e.length];exact g) λa A outer s H m Q E l ⟨ρ,i,j,d,e,g,p⟩=>⟨_,c a A outer s H E l,ρ,_,i,⟨d,mn e⟩,?_⟩;simp only[bQ,g,Y7]at p;exact(jF.letGo d p).runB
theorem Def.mk' {x:Str}{f:Addr}{a:FuncData}{ps:List Str}{k b:Nat}{F:Fn}(e:mg x=some (.ref f))(d:PySem.W.keepIn K (.ref f)=true)(c:eQ K a ps [])(h:cM P w K mg base CX0 k f a ps (spF K F b)):Def P w K mg base x k b F:=⟨f,a,ps,e,d,c,h⟩
end
section
variable {X:Cx} {pos p:Pos}
theorem D4 {x:Str}{k n:Nat}{F:Fn}{e:Expr}{j:List Expr}{r:LF}(hd:Def X.prog X.w X.K X.mg X.base x k n F)(I:du k X.A)(J:Gl X x)(y:MA X (e :: j) r)(hnp:∀i h d h',F i h=.ok d h'->i.length=n)
  (m:(x == ("__debug__" : Str))=false:=by decide) (he:starEach (e :: j) X.env=(false,eval e X.env) :: starEach j X.env:=by rfl) (hpl:(backTo pos (starEach j X.env)).any (·.1)=false:=by rfl) :
  ME X (.Call (.Name x p) (e :: j) [] pos) (au F r):=by
 obtain⟨f,L,K,B,s,G,A⟩:=hd.ex;refine PE.imp (nS A I J B s G .nil BC y m he hpl) λσ H Q ⟨ρ,σd,hd,E,u⟩=>⟨ρ,σd,hd,E,(bn.bind u).imp λO M ⟨l,i,g,N,b,t,a⟩ => ?_⟩;rw[YL];cases c:F i g with
 | exc z h'=>rw[c]at a;exact a.elim
 | bad=>rw[c]at a;exact a.elim
 | ok d C =>
  rw[c]at a;refine⟨l,g,i,b.hp,t,hnp _ _ _ _ c,?_⟩;rw[c];exact λv D ρ' o q w=>a v D ρ' o (b.ext o q) w
theorem zb {c n:Nat}{b:SF}:∀a h d h',bQ c n b a h=.ok d h'->a.length=c:=by
 intro a h d h' e;unfold bQ at e;split at e
 ·assumption
 ·cases e
end
theorem Iu {l:PySem.W.OpenLaw}{q:T3}{b:List Str}{XP:(Str->Option T0)->Heap->Prop}{m:T4->Heap->Prop}{d:DefRec}{K:Params->ZW}{F:Fn}{k:Nat}{x:Str}(G:l.most=some 63)(i:d.params.defaults=[])(N:du k callerA)
  (M:∀(w:T4) (h:Heap),m w h->(K w.params).In h)
  (B:∀(w:T4) (mg:Str->Option T0) (r:Addr) (h:Heap),(K w.params).In h->h.Ns mainGlobals mg->mg d.name=some (.ref r)->
   ∃A:FuncData,(∀(s:T1) (u:T0),BindsTo s A ⟨[u],[]⟩ [(x,u)])/\∀base:Heap,(K w.params).In base->base.Ns mainGlobals mg->cM l.prog w (K w.params) mg base CX0 k r A [x] (spF (K w.params) F 1))
  (g:∀ns:List Int,ns.length<=63->∃h,F [.lit (ns.map .int)] []=.ok (.bl true) h) :
  PySem.W.WalkO q b XP m l.row.toRowW d [] (λf vs=>PySem.call f vs):=by
 refine L2.DX G (by decide) i N M B (λw H a ns t C p => ?_) λ_ _ _ _ _ z=>z;obtain⟨h,e⟩:=g ns t;have j:ng (K w.params) H a (ns.map V.int):=by
  rcases p with (z|⟨o,z⟩)|z
  ·rcases C a with y|⟨o,P,y⟩<;>(rw[z]at y;cases y)
  ·exact .inl ⟨o,z⟩
  ·exact .inr z
 have L:RDs (K w.params) [] H (ns.map D.int) (ns.map V.int):=by
  clear t p e j g
  induction ns with
  | nil=>exact RDs.nil
  | cons n ns J=>exact RDs.cons (by simp only[RD]) J
 refine⟨[],[],[.lit (ns.map .int)],⟨rfl,List.nodup_nil,λn c a I=>by simp at I⟩,RDs.cons (by simp only[RD];exact⟨a,_,rfl,j,L⟩) RDs.nil,rfl,?_⟩;rw[e];intro v Q ρ' R O E;simpa only[RD] using E
end Fm
namespace Fm
open PySem PySem.Spec L2
open PyProof.Rows (Subscript_ tail_any)
def tyS:Ty->String
 | .int => "int" | .bool => "bool" | .tuple => "tuple" | .list => "list" | .str => "str"
theorem gb (t:Ty):typeOf (.type (tyS t))=pure (.type "type"):=by
 cases t
 ·exact F.isi_meta_int
 ·exact F.isi_meta_bool
 ·exact F.isi_meta_tuple
 ·exact F.isi_meta_list
 ·exact F.isi_meta_str
theorem D5 (t:Ty):isSubtype (.type "NoneType") (.type (tyS t))=pure false:=by cases t<;>(rw[XM];kernel_rfl)
theorem Ga {t:Ty} (h:t ≠ .int):isSubtype (.type "int") (.type (tyS t))=pure false:=by cases t<;>first|exact absurd rfl h|(rw[XM];kernel_rfl)
theorem D6 {t:Ty} (h:t ≠ .int) (a:t ≠ .bool):isSubtype (.type "bool") (.type (tyS t))=pure false:=by cases t<;>first|exact absurd rfl h|exact absurd rfl a|(rw[XM];kernel_rfl)
theorem Gb {t:Ty} (h:t ≠ .str):isSubtype (.type "str") (.type (tyS t))=pure false:=by cases t<;>first|exact absurd rfl h|(rw[XM];kernel_rfl)
theorem BU {t:Ty} (h:t ≠ .tuple):isSubtype (.type "tuple") (.type (tyS t))=pure false:=by cases t<;>first|exact absurd rfl h|(rw[XM];kernel_rfl)
theorem zc {t:Ty} (h:t ≠ .list):isSubtype (.type "list") (.type (tyS t))=pure false:=by cases t<;>first|exact absurd rfl h|(rw[XM];kernel_rfl)
theorem D7 (t:Ty):isSubtype (.type "dict") (.type (tyS t))=pure false:=by cases t<;>(rw[XM];kernel_rfl)
theorem j4 (t:Ty):isSubtype (.type (tyS t)) (.type (tyS t))=pure true:=by cases t<;>(rw[XM];kernel_rfl)
theorem vJ:isSubtype (.type "bool") (.type (tyS .int))=pure true:=by rw[XM];kernel_rfl
theorem ni {n:String}{t:Ty}(h:n≠tyS t):(Value.type n == Value.type (tyS t))=false:=by
 rw[beq_eq_false_iff_ne];intro e;cases e;exact h rfl
theorem xL {a b:Ty}(h:a≠b):(a == b)=false:=by cases a<;>cases b<;>first|rfl|exact absurd rfl h
section
variable {X:Cx} {pos p:Pos}
theorem Gc {pins:List (Addr × Obj)}{σ:St}{H:Hp}{s:T1}{ρ:List Addr}{hd:Hd}{d:D}{v:V}{u:T0}{t:Ty}{b:Bool}{Q:T0->T1->Prop}{E:T0->T1->Prop}(I:Inv X pins σ H s)(F:RH X.K ρ H hd)(j:RD X.K ρ H d v)(r:bF v u)(e:oR hd t d=some b)
  (q:∀G,Inv X pins σ H G->Q (.bool b) G):wpAny (model X.prog X.w) X.A (call (.builtin "isinstance") [u,.type (tyS t)]) Q E s:=by
 have m:=q s I;have i:=q { s with toks:=s.toks + 1 } (I.tok _);have g:∀{n:String},s.TypeIs u n->isSubtype (.type n) (.type (tyS t))=pure true->Q (.bool true) s->wpAny (model X.prog X.w) X.A (call (.builtin "isinstance") [u,.type (tyS t)]) Q E s:=λf w K=>XG (isinstance_true (gb t) w) ⟨f,K⟩;cases d<;>simp only[RD]at j<;>simp only[oR]at e
 ·subst j;cases r;cases e
  exact XG (isinstance_false_none (by cases t<;>exact ni (by decide)) (gb t) (D5 t)) i
 ·subst j;cases r
  by_cases f:t=.int
  ·subst f;cases e;exact g rfl vJ m
  ·by_cases w:t=.bool
   ·subst w;cases e;exact g rfl (j4 .bool) m
   ·rw[xL f,xL w]at e;cases e
    exact XG (isinstance_false_bool (by cases t<;>first|exact absurd rfl f|exact absurd rfl w|exact ni (by decide)) (gb t) (D6 f w)) i
 ·subst j;obtain⟨L,rfl⟩:=r
  by_cases f:t=.int
  ·subst f;cases e;exact g rfl (j4 .int) m
  ·rw[xL f]at e;cases e
   exact XG (isinstance_false_int (by cases t<;>first|exact absurd rfl f|exact ni (by decide)) (gb t) (Ga f)) i
 ·subst j;obtain⟨L,rfl⟩:=r
  by_cases f:t=.str
  ·subst f;cases e;exact g rfl (j4 .str) m
  ·rw[xL f]at e;cases e
   exact XG (isinstance_false_str (by cases t<;>first|exact absurd rfl f|exact ni (by decide)) (gb t) (Gb f)) i
 ·obtain⟨a,B,rfl,x,_⟩:=j
  cases r;obtain⟨y,_,o,h,A,_⟩:=iT I.hok x
  by_cases f:t=.tuple
  ·subst f;cases e;exact g ⟨o,h,A⟩ (j4 .tuple) m
  ·rw[xL f]at e;cases e
   exact XG (isinstance_false_tuple (by cases t<;>first|exact absurd rfl f|exact ni (by decide)) (gb t) (BU f)) ⟨⟨o,h,A⟩,i⟩
 ·rename_i n
  obtain⟨a,x,rfl⟩:=j;cases r;cases c:hd[n]? with
  | none=>rw[c]at e;cases e
  | some cell =>
   rw[c]at e;cases cell with
   | lst l =>
    obtain⟨B,C,_⟩:=F.cel n _ a c x;obtain⟨z,y,k,_,h⟩:=I.hok a _ C
    by_cases f:t=.list
    ·subst f;cases e;exact g ⟨_,h,rfl⟩ (j4 .list) m
    ·simp only[xL f]at e;cases e
     exact XG (isinstance_false_list (by cases t<;>first|exact absurd rfl f|exact ni (by decide)) (gb t) (zc f)) ⟨⟨_,h,rfl⟩,i⟩
   | dcT _=>cases e
   | ob _=>cases e
   | dct l =>
    obtain⟨B,C,_,_⟩:=F.cel n _ a c x;obtain⟨_,_,_,_,o,_,_,h,M,_⟩:=I.hok a _ C;cases e;exact XG (isinstance_false_dict (by cases t<;>exact ni (by decide)) (gb t) (D7 t)) ⟨⟨o,h,M.1⟩,i⟩
 ·obtain⟨a,B,rfl,x,_⟩:=j
  cases r;obtain⟨y,_,J,_⟩:=I.list x.sq;obtain⟨o,h,A,_⟩:=J.isList
  by_cases f:t=.list
  ·subst f;cases e;exact g ⟨o,h,A⟩ (j4 .list) m
  ·simp only[xL f]at e;cases e
   exact XG (isinstance_false_list (by cases t<;>first|exact absurd rfl f|exact ni (by decide)) (gb t) (zc f)) ⟨⟨o,h,A⟩,i⟩
 ·cases e
def JH (K:ZW) (t:Ty):List V->Hp->VK->Prop:=λxs H Q=>∃ρ hd d v b,xs=[v,.ty (tyS t)]/\RH K ρ H hd/\RD K ρ H d v/\oR hd t d=some b/\Q (.bl b) H
theorem vK (t:Ty):fg X (.builtin "isinstance") (JH X.K t):=by
 intro pins s σ H k m Q I r h;obtain⟨ρ,l,d,v,b,rfl,c,g,e,q⟩:=h;obtain⟨u,f,rfl,i,a⟩:=aY.two r;cases (show f=Value.type (tyS t) from a);exact Gc I c g i e λn j=>⟨.bl b,H,j,rfl,q⟩
theorem iV {t:Ty} {a:Expr} {m:EF} {g:Pos} {n:Str} (x:Gl X "isinstance") (y:X.mg "isinstance" = none) (k:Gl X n) (i:X.mg n=none) (z:bootBuiltins n=some (.type (tyS t))) (s:ME X a m)
  (o:starEach [a,.Name n g] X.env=(false,eval a X.env) :: starEach [.Name n g] X.env:=by rfl) (j:starEach [.Name n g] X.env=(false,eval (.Name n g) X.env) :: starEach [] X.env:=by rfl) (u:n ≠ "__name__" := by decide) (hd:(n == ("__debug__" : Str))=false:=by decide) :
  ME X (.Call (.Name "isinstance" p) [a,.Name n g] [] pos) (ip t m):=by
 refine PE.imp (ek (vK t) x y (by decide +kernel) (bh s (bh (sR (v:=.ty (tyS t)) k i z rfl u hd) cy j) o) (he:=o)) λσ H Q ⟨ρ,σd,hd,w,r⟩=>⟨ρ,σd,hd,w,(bn.bind r).imp λv A ⟨l,d,f,B,e,q,h⟩ => ?_⟩;cases c:oR f t d with
 | none=>simp only[c]at h;exact h.elim
 | some b=>simp only[c]at h;exact⟨l,f,d,v,b,rfl,e.hp,q,c,h.here e (by simp only[rD,RD])⟩
theorem bI:OpR X (binaryOp .Add) (λx y H Q=>rI0 (λi j=>.int (i + j)) x y H Q\/By X.K x y H Q):=FI.or DS
theorem bY {K:ZW}:Og K b7 (λx y H Q=>rI0 (λi j=>.int (i + j)) x y H Q\/By K x y H Q):=by
 intro ρ H σd F σ d k v w Q n h e c;cases d<;>try exact c.elim
 ·cases k<;>try exact c.elim
  simp only[RD]at h e;exact .inl ⟨_,_,h,e,c.here n (by simp only[rD,RD])⟩
 ·rename_i l
  cases l with
  | nil=>exact c.elim
  | cons x E =>
   cases k<;>try exact c.elim
   rename_i D
   simp only[b7]at c;split at c
   ·rename_i B
    simp only[RD]at h e;obtain⟨a,r,rfl,t,f⟩:=h;obtain⟨b,s,rfl,C,g⟩:=e;refine .inr ⟨a,b,r,s,rfl,rfl,SqT.of t,SqT.of C,?_,?_,λz => ?_,λ_ q u => ?_⟩
    ·intro z;subst z;have:=f.length;simp at this
    ·rw[<-f.length,<-g.length];exact nU B
    ·subst z
     have A:D=[]:=by have:=g.length;simpa using this
     subst A;exact c.here n (by simp only[rD,RD];exact⟨a,r,rfl,t,by simpa using f⟩)
    ·have m:=cC (o:=HO.tup (r++s)) u
     exact c.at (Ext.same m) (n.same m) (by simp only[rD,RD];exact⟨q,_,rfl,aM,(RDs.append f g).mono (Kp.same m)⟩)
   ·exact c.elim
theorem tM {a:Expr} {d:LF} (o:Gl X "list") (s:X.mg "list" = none) (j:MQ X a d) (f:starEach [a] X.env=(false,eval a X.env) :: starEach [] X.env:=by rfl):MF X (.Call (.Name "list" p) [a] [] pos) d:=by
 refine PE.imp (rG tq o s (by decide +kernel) (bh j cy f) (he:=f)) λσ H Q ⟨ρ,σd,g,i,b⟩=>⟨ρ,σd,g,i,?_⟩;cases e:d σd g with
 | exc x w=>rw[e]at b;exact b
 | bad=>rw[e]at b;exact b
 | ok l n =>
  rw[e]at b;intro v u m k c ⟨q,r,t,h,rvs⟩;subst t;exact⟨q,r,rfl,h.imp id SqT.of,b.mk k c rvs⟩
def MO (X:Cx) (e:Option Expr) (f:OF):Prop:=PO X e (jA X.K rO f)
theorem dQ:MO X none pNo:=λpins s σ H Q I ⟨ρ,σd,c,a,b⟩=>DQ pins s σ H Q I (b.here a rfl)
theorem dm {e:Expr}{f:EF}(h:ME X e f):MO X (some e) (pAt f):=λpins s σ H Q I ⟨ρ,σd,j,i,g⟩=>DR h pins s σ H Q I ⟨ρ,σd,j,i,(bn.bind g).imp λv m ⟨k,d,l,n,a,b,c⟩=>by
 cases d<;>try exact c.elim
 simp only[rD,RD]at b;exact⟨_,b,c.here a rfl⟩⟩
theorem tN {K:ZW}{ρ:List Addr}{H:Hp}{l:List D}{vs:List V}{lo hi:Option Int}(r:RDs K ρ H l vs):RDs K ρ H (cut l lo hi) (mi vs lo hi):=by
 have e:∀(n d:Nat) (o:Option Int),Fm.sIx n d o=HT.sIx n d o:=λn d o=>by cases o<;>rfl
 unfold cut mi;rw[r.length,e,e];exact(r.drop _).take _
theorem eS {a:Expr}{I:EF}{lo hi:Option Expr}{J L:OF}{E:Pos}(S:ME X a I)(V:MO X lo J)(hh:MO X hi L):ME X (.Subscript a (.Slice lo hi none E) pos) (cP I J L):=by
 refine PE.imp (kR (SlR.or DT Bx) S V hh) λσ H Q ⟨ρ,σd,Y,W,G⟩ => ?_;unfold cP at G;refine⟨ρ,σd,Y,W,(bn.bind G).imp λv H1 ⟨D,d,F,e1,u,O,U⟩ => ?_⟩;refine⟨D,σd,F,u,(bn.bind U).imp λx H2 ⟨B,a1,C,Z,y,T,E⟩ => ?_⟩;cases T;refine⟨B,σd,C,y,(bn.bind E).imp λs z ⟨j,a0,g,M,f,P,b⟩ => ?_⟩;cases P;have k:=(O.mono (u.hp.kp Z)).mono (y.hp.kp M);have i:∀l,cU g d=some l->bn X.K (rD X.K) j z σd σ (.ok (.ref g.length) (g++[.lst (cut l x s)])) Q->Ij X.K v x s z Q:=λl c p=>by
  obtain⟨q,r,hv,N,h⟩:=j3 f.hp k c;refine⟨q,r,hv,N,λt w => ?_⟩;have m:=cC (o:=HO.lst (mi r x s)) w;have R:=f.hp.free w;have rh:=(f.hp.same m).alloc aM R ((tN h).mono (Kp.same m));have K:Ext j z (j++[t]) (upd z t (.lst (mi r x s))):=Ext.alloc w;refine p.at K (f.ext K rh) ?_;simp only[rD,RD];exact⟨t,by rw[<-f.hp.len];simp,rfl⟩
 cases d with
 | tup l =>
  simp only at b;split at b
  ·exact b.elim
  ·rename_i hw
   simp only[RD]at k;obtain⟨q,r,rfl,w,h⟩:=k;have e:∀(n d:Nat) (o:Option Int),Fm.sIx n d o=HT.sIx n d o:=λn d o=>by cases o<;>rfl
   refine .inr ⟨q,r,rfl,SqT.of w,by rw[<-h.length,<-e,<-e];exact hw,λt A => ?_⟩;have m:=cC (o:=HO.tup (mi r x s)) A;exact b.at (Ext.same m) (f.same m) (by simp only[rD,RD];exact⟨t,_,rfl,aM,(tN h).mono (Kp.same m)⟩)
 | ref n =>
  simp only at b;cases c:cU g (.ref n) with
  | none=>rw[c]at b;exact b.elim
  | some l=>rw[c]at b;exact .inl (i l c b)
 | lit l' =>
  simp only at b;cases c:cU g (.lit l') with
  | none=>rw[c]at b;exact b.elim
  | some l=>rw[c]at b;exact .inl (i l c b)
 | _=>exact b.elim
theorem hU {o e:Expr} {F K:EF} {apos cpos:Pos} (U:ME X o F) (he:ME X e K) (j:attributeBase o "append" X.env (eval o X.env)=eval o X.env:=by rfl)
  (r:((backTo cpos (starEach [e] X.env)).all (λx => !x.1) && (backToKw cpos (keywordEach [] X.env)).all (λx=>x.1.isSome)
   && decide (([e] : List Expr).length + ([] : List Keyword).length + (if ([] : List Keyword).isEmpty then 0 else 1) < 30))=true:=by rfl)
  (h:(apos.endLine == cpos.line)=true:=by rfl) (G:starEach [e] X.env=(false,eval e X.env) :: starEach [] X.env:=by rfl) :
  ME X (.Call (.Attribute o "append" apos) [e] [] cpos) (fO F K):=by
 refine PE.imp (oO WE PySem.F.slot_list_append PySem.F.type_list_append rH U (bh he cy G) j r h G) λσ H Q ⟨ρ,σd,N,M,J⟩=>⟨ρ,σd,N,M,?_⟩;unfold fO at J;refine(bn.bind J).imp λv W ⟨z,d,y,Z,t,D,f⟩ => ?_;cases d<;>try exact f.elim
 rename_i n
 simp only[rD,RD]at D;obtain⟨a,E,rfl⟩:=D;simp only at f;cases A:y[n]? with
 | none=>rw[A]at f;exact f.elim
 | some cell1 =>
  rw[A]at f;cases cell1 with
  | dct l=>exact f.elim
  | dcT l=>exact f.elim
  | ob l=>exact f.elim
  | lst Y =>
   obtain⟨V,P,_⟩:=t.hp.cel n _ a A E;simp only at f;refine⟨.inl ⟨rfl,V,SqL.of P⟩,z,σd,y,t,(bn.bind f).imp λw I ⟨q,k,s,O,m,C,b⟩ => ?_⟩;simp only[FV]at b;cases c:s[n]? with
   | none=>rw[c]at b;exact b.elim
   | some cell =>
    rw[c]at b;cases cell with
    | dct l=>exact b.elim
    | dcT l=>exact b.elim
    | ob l=>exact b.elim
    | lst l =>
     simp only at b;split at b
     ·rename_i S
      have i:=O.get E;obtain⟨u,B,g⟩:=m.hp.cel n _ a c i;refine⟨a,u,w,rfl,rfl,B,?_,?_⟩
      ·rw[<-g.length];exact ZY S (by rw[YM];decide)
      ·have T:n < s.length:=(yE.mp c).1
       have R:=m.hp.write i T (RDs.append g (RDs.cons C RDs.nil));have L:Ext q I q (upd I a (.lst (u++[w]))):=Ext.write (ZJ i);exact b.at L (m.ext L R) (by simp only[rD,RD])
     ·exact b.elim
end
end Fm
namespace Fm
open PySem PySem.Spec L2
open AutoSeq1 (wpAny_loadPart')
open PyProof.Rows (Call_)
section
variable {prog:T3} {w:T4} {A:T2} {E:T0->T1->Prop} {s:T1}
end
section
variable {X:Cx} {pos p tp:Pos} {elts:List Expr} {tk:Nat}
end
end Fm
namespace Fm
open PySem PySem.Spec L2 PySem.W PyProof.Rows
section
variable {prog:T3} {w:T4} {A:T2} {E:T0->T1->Prop} {s:T1}
theorem o0 {a:Addr} {vs:List T0} {n:Nat} {P:PySem.Fin->T1->Prop} (f:s.heap.get? a=some (seqObj "list" vs.toArray n)) (k:vs.length < 2)
  (h:P (.done (.ret .none)) { s with heap:=sortedHeap s.heap a vs vs.toArray }):wpAny (model prog w) A (Builtin.«list.sort» ⟨[.ref a],[]⟩) P E s:=by
 rw[list_sort_plain];have l:a < s.heap.objs.size:=ZH f;refine yC (listItems_at f rfl ?_);refine yC (listUpdate_at f rfl ?_);obtain⟨j,c⟩ : ∃j,(s.heap.update a (Obj.mapSeq λ_ => #[])).get? a=some (seqObj "list" #[] j):=⟨_,VD f (λ_ => #[])⟩;refine yC (seqEpoch_at c rfl ?_);refine yC (wpAny_newTuple ?_);refine yC (wpAny_newList ?_);refine Y1 ?_;have d:(((s.heap.update a (Obj.mapSeq λ_ => #[])).push (seqObj "tuple" vs.toArray 0)).push (seqObj "list" #[] 0)).get? a=some (seqObj "list" #[] j):=by
  rw[YO _ _ _ (by rw[VO,YU];exact ZM (Z7 l)),YO _ _ _ (by rw[YU];exact ZM l)];exact c
 dsimp only;have g:vs.toArray.size=vs.length:=by simp
 have b:vs.toArray.size < 2:=by rw[g];exact k
 rw[yD b,yD b];refine yC (wW ?_);rw[StateT.run_pure];refine yC (wW ?_);dsimp only;refine yC (seqEpoch_at d rfl ?_);refine yC (listUpdate_at d rfl ?_ (hsz2:=by rw[Array.size_map];show (pairsOf vs).size<=_;rw[pairsOf_size,YM];omega));simp only[bne_self_eq_false,YP,WB];have e:(arrOf (SortSt.mk' general' (vs.toArray.zip vs.toArray) #[] 7 none)).map (·.2)=vs.toArray:=by
  show (vs.toArray.zip vs.toArray).map (·.2)=vs.toArray;apply Array.ext
  ·simp
  ·intro i o k
   simp
 refine wW ?_;have m:=h;unfold sortedHeap at m;rw[e];exact m
theorem tO {l:Addr}{vs:List T0}{Q:T0->T1->Prop}(r:s.heap.IsList l vs.toArray)(p:vs.length < 2)
  (h:∀h' n,(∀b o,s.heap.get? b=some o->h'.get? b=some o)->h'.get? (s.heap.objs.size + 1)=some (seqObj "list" vs.toArray n)->Q (.ref (s.heap.objs.size + 1)) { s with heap:=h' }) :
  wpAny (model prog w) A (call (.builtin "sorted") [.ref l]) Q E s:=by
 refine Calls.call_function_entry kind_sorted plain_sorted entry_sorted (args_sorted1 _) ?_;unfold Builtin.«sorted»;refine yC (wW ?_);refine yC (collect_list r ?_ (by rw[YM];omega));refine yC (wpAny_newList ?_ (by rw[YM];omega));have c:((s.heap.push (seqObj "list" #[] 0)).update s.heap.objs.size (Obj.mapSeq (· ++ vs.toArray))).objs.size=s.heap.objs.size + 1:=by
  rw[YU,VO]
 have d:(((s.heap.push (seqObj "list" #[] 0)).update s.heap.objs.size (Obj.mapSeq (· ++ vs.toArray))).push (seqObj "list" vs.toArray 0)).get? (s.heap.objs.size + 1)=some (seqObj "list" vs.toArray 0):=by
  rw[<-c];exact ZI _ rfl
 have keep:∀b o,s.heap.get? b=some o->(((s.heap.push (seqObj "list" #[] 0)).update s.heap.objs.size (Obj.mapSeq (· ++ vs.toArray))).push (seqObj "list" vs.toArray 0)).get? b=some o:=λb o q=>by
  have a:b < s.heap.objs.size:=ZH q;rw[YO _ _ _ (by rw[c];exact ZM (Z7 a)),XD _ _ _ _ (ZM a),YO _ _ _ (ZM a)];exact q
 rw[c];generalize hG:((s.heap.push (seqObj "list" #[] 0)).update s.heap.objs.size (Obj.mapSeq (· ++ vs.toArray))).push (seqObj "list" vs.toArray 0)=G at d keep;have g:G.objs.size=s.heap.objs.size + 2:=by rw[<-hG,VO,c]
 refine yC (Y1 (W3 slot_list_sort ⟨_,d,rfl⟩ entry_list_sort (o0 d p ⟨_,rfl,?_⟩) (args_list_sort _)));refine wW ⟨_,rfl,?_⟩;have e:s.heap.objs.size + 1 < G.objs.size:=by omega
 obtain⟨i,j⟩ : ∃i,(G.update (s.heap.objs.size + 1) (Obj.mapSeq λ_ => #[])).get? (s.heap.objs.size + 1)=some (seqObj "list" #[] i):=⟨_,VD d (λ_ => #[])⟩;have f:(((G.update (s.heap.objs.size + 1) (Obj.mapSeq λ_ => #[])).push (seqObj "tuple" vs.toArray 0)).push (seqObj "list" #[] 0)).get? (s.heap.objs.size + 1)=some (seqObj "list" #[] i):=by
  rw[YO _ _ _ (by rw[VO,YU];exact ZM (Z7 e)),YO _ _ _ (by rw[YU];exact ZM e)];exact j
 refine h _ _ (λb o q => ?_) (VD f _);have a:b < s.heap.objs.size:=ZH q;unfold sortedHeap;have m:b≠s.heap.objs.size + 1:=ZM (Z7 a);have k:b < G.objs.size:=by rw[g];exact Z7 (Z7 a)
 rw[XD _ _ _ _ m,YO _ _ _ (by rw[VO,YU];exact ZM (Z7 k)),YO _ _ _ (by rw[YU];exact ZM k),XD _ _ _ _ m];exact keep b o q
theorem BV {Q:Bool->T1->Prop}:∀(ns a:List Int) {xs ys:List T0} (i:Nat),IntsAre xs ns->IntsAre ys a->Q (Fm.lexLt ns a) s->KatLex prog w A true (decide (xs.length < ys.length)) Q (xs.zip ys) i s:=by
 intro ns
 induction ns with
 | nil =>
  intro a xs ys i d c h;cases d;cases a with
  | nil=>cases c;exact h
  | cons m a =>
   cases c;have b:Q true s:=h;exact b
 | cons n ns k =>
  intro a xs ys i d c h;cases d with
  | cons _ t r =>
   cases a with
   | nil =>
    cases c;have b:Q false s:=h;exact b
   | cons m a =>
    cases c with
    | cons _ f g =>
     rename_i xs ys
     refine kat_cons (VH n t m f prog w _ _ ?_)
     by_cases e:n=m
     ·subst e
      rw[show (n == n)=true by simp];refine kat_yes ?_;have b:Q (Fm.lexLt ns a) s:=by simpa[Fm.lexLt] using h
      have:=k a (i + 1) r g b;have j:decide ((Value.int n t :: xs).length < (Value.int n f :: ys).length)=decide (xs.length < ys.length):=by simp
      rw[j];exact this
     ·rw[show (n == m)=false by simpa using e]
      refine kat_no ?_;have b:Q (decide (n < m)) s:=by simpa[Fm.lexLt,e] using h
      cases i with
      | zero=>exact oneLt_int b
      | succ i =>
       have:(true && (i + 1 == 0))=false:=by simp
       rw[this];exact kat_one _ _ (lt_int (by first|exact⟨_,rfl,b⟩|exact b))
end
theorem BW {h:Heap}{a:Addr}{m c:Str->Option T0}(x:h.Ns a m)(y:h.Ns a c):m=c:=by
 obtain⟨o,j,l,d,e,_,r⟩:=x;obtain⟨k,f,i,b,hd',_,g⟩:=y;rw[d]at b;cases b;rw[e]at hd';cases hd';funext z;rw[<-r z,<-g z]
theorem Ge {P:T3}{w:T4}{H:Hp}{h:Heap}{a:Addr}{o:HO}(x:dk P w H h a o):∃u,h.get? a=some u:=by
 cases o with
 | lst b=>obtain⟨_,_,_,_,e⟩:=x;exact⟨_,e⟩
 | tup b=>obtain⟨_,_,_,_,e,_⟩:=x;exact⟨_,e⟩
 | dK kvs=>obtain⟨_,_,_,_,_,_,_,e,_⟩:=x;exact⟨_,e⟩
 | dT kvs=>obtain⟨_,_,_,_,_,_,_,e,_⟩:=x;exact⟨_,e⟩
 | set S n=>obtain⟨_,_,_,_,e,_⟩:=x;exact⟨_,e⟩
 | ins C g c=>obtain⟨_,_,_,e,_⟩:=x;exact⟨_,e⟩
 | own y=>exact x
 | xd c=>obtain⟨_,⟨_,_,_,e,_⟩,_⟩:=x;exact⟨_,e⟩
 | rng j k=>obtain⟨_,_,_,e⟩:=x;exact⟨_,e⟩
 | frz i u=>exact⟨_,x.1⟩
 | tbl d=>exact⟨_,x⟩
 | met f y=>exact⟨_,x⟩
 | ext φ => exact x.2.1
inductive cw (H:Hp):List V->List (List Int)->Prop
 | nil:cw H [] []
 | cons {a:Addr} {r:List Int} {vs:List V} {rs:List (List Int)}:H a=some (.tup (r.map V.int))->cw H vs rs->cw H (.ref a :: vs) (r :: rs)
theorem cw.get {H:Hp}:∀{vs:List V} {rs:List (List Int)} {i:Nat} {v:V},cw H vs rs->vs[i]? = some v->∃a,v=.ref a/\H a=some (.tup ((rs.getD i []).map V.int))
 | _,_,_,_,.nil,e=>by simp at e
 | _,_,0,_,.cons h t,e=>by simp at e;subst e;exact⟨_,rfl,h⟩
 | _,_,i + 1,v,.cons h t,e=>by
  obtain⟨a,h1,b⟩:=cw.get t (by simpa using e);exact⟨a,h1,by simpa using b⟩
theorem cw.length {H:Hp}:∀{vs:List V} {rs:List (List Int)},cw H vs rs->vs.length=rs.length
 | _,_,.nil=>rfl
 | _,_,.cons _ t=>by simp[cw.length t]
section
variable {X:Cx} {pos p:Pos}
theorem nW {i:Int}{u:T0}(r:bF (.int i) u):∃t,u=.int i t:=r
theorem vL {P:T3}{w:T4}{H:Hp}{h h':Heap}(hok:HOk P w H h)(k:∀b o u,H b=some u->h.get? b=some o->h'.get? b=some o):∀{vs:List V} {rs:List (List Int)} {c:List T0},cw H vs rs->aY vs c->(rs.all λx => !x.isEmpty)=true->
  ∃d,KatTups h' c d/\d.length=c.length/\∀v∈d,∃i t,v=Value.int i t
 | _,_,_,.nil,.nil,_=>⟨[],.nil,rfl,λv e=>by simp at e⟩
 | _,_,_,.cons (a:=a) (r:=r) g t,.cons q rt,hne=>by
  simp only[Y6,Z4,VL]at hne;obtain⟨d,h1,m,A⟩:=vL hok k t rt hne.2;obtain⟨z,f,B,o,y,s,n,C⟩:=hok a _ g;cases r with
  | nil=>simp at hne
  | cons i r =>
   cases B with
   | cons l E =>
    rename_i u D
    obtain⟨j,rfl⟩:=nW l;cases q;refine⟨.int i j :: d,KatTups.cons (k a o _ g y) s C (by simp) h1,by simp[m],λv e => ?_⟩;rcases wU.mp e with rfl|e
    ·exact⟨i,j,rfl⟩
    ·exact A v e
theorem vM {K:ZW}{ρ:List Addr}{H:Hp}:∀{l:List D} {vs:List V} {rs:List (List Int)},RDs K ρ H l vs->tz l=some rs->cw H vs rs
 | [],_,_,r,e=>by simp only[tz]at e;cases e;simp only[RDs]at r;subst r;exact .nil
 | d :: l,_,rs,r,e=>by
  simp only[RDs]at r;obtain⟨v,vs,rfl,h1,g⟩:=r;cases d<;>simp only[tz]at e<;>try (cases e;done)
  rename_i f
  cases a:fE f with
  | none=>rw[a]at e;cases e
  | some k =>
   cases b:tz l with
   | none=>rw[a,b]at e;cases e
   | some j =>
    rw[a,b]at e;cases e;simp only[RD]at h1;obtain⟨p,i,rfl,h,c⟩:=h1;have:=ir c a;subst this;exact .cons h (vM g b)
end
end Fm
namespace Fm
open PySem PySem.Spec L2
section
variable {X:Cx}
theorem mv (i:Nat) {x:Str} {pos:Pos} (b:X.N[i]? = some x:=by rfl) (c:Vis X.env.scope x:=by first|exact Or.inl rfl|exact Or.inr (Or.inl rfl)|exact Or.inr (Or.inr rfl)) (hd:(x == ("__debug__" : Str))=false:=by decide)
  (a:(x == ("__classdict__" : Str))=false:=by decide):ME X (.Name x pos) (aa i):=FW b c hd a
end
theorem vN {k:Nat}{A:T2}(r:du k A):A.units + 24 < cLine:=by have:=r.un;omega
def fv (X:Cx):List (Str × NameKind)->Prop
 | []=>True
 | y :: r=>(y.2=.free->X.env.kindOf y.1=some .cell\/X.env.kindOf y.1=some .free)/\fv X r
def fF (X:Cx) (scope:Scope):List Str->List Nat->Prop
 | [],[]=>True
 | x :: xs,i :: is=>(X.N[i]? = some x/\scope.names.lookup x=some .free)/\fF X scope xs is
 | _,_=>False
theorem fv.get {X:Cx}:∀{l:List (Str × NameKind)},fv X l->∀y∈l,y.2=.free->X.env.kindOf y.1=some .cell\/X.env.kindOf y.1=some .free
 | [],_,y,a=>by simp at a
 | z :: r,h,y,a=>by
  rcases wU.mp a with rfl|a
  ·exact h.1
  ·exact fv.get h.2 y a
theorem fF.get {X:Cx}{scope:Scope}:∀{capn:List Str} {caps:List Nat},fF X scope capn caps->(∀(j:Nat) x,capn[j]? = some x->∃i,caps[j]? = some i/\X.N[i]? = some x/\scope.names.lookup x=some .free)/\capn.length=caps.length
 | [],[],_=>⟨λj x e=>by simp at e,rfl⟩
 | x :: xs,i :: is,h=>by
  obtain⟨h1,a⟩:=fF.get h.2;refine⟨λj y e => ?_,by simp[a]⟩;cases j with
  | zero=>simp at e;subst e;exact⟨i,rfl,h.1⟩
  | succ j=>exact h1 j y (by simpa using e)
 | [],_ :: _,h=>h.elim
 | _ :: _,[],h=>h.elim
theorem fv.nil {X:Cx}:fv X []:=trivial
theorem fv.cons {X:Cx}{y:Str × NameKind}{r:List (Str × NameKind)}(h:y.2=.free->X.env.kindOf y.1=some .cell\/X.env.kindOf y.1=some .free)(t:fv X r):fv X (y :: r):=⟨h,t⟩
theorem fF.nil {X:Cx}{scope:Scope}:fF X scope [] []:=trivial
theorem fF.cons {X:Cx}{scope:Scope}{x:Str}{xs:List Str}{i:Nat}{is:List Nat}(h1:X.N[i]? = some x)(a:scope.names.lookup x=some .free)(t:fF X scope xs is):fF X scope (x :: xs) (i :: is):=⟨⟨h1,a⟩,t⟩
theorem ei.mk' {X:Cx}{scope:Scope}{own capn:List Str}{caps:List Nat}(k:scope.kind=.function)(c:∀y∈scope.names,y.2 ≠ .cell)(n:∀y∈scope.names,y.2=.local->scope.names.lookup y.1=some .local)(f:fv X scope.names)(cp:fF X scope capn caps):ei X scope own capn caps :=
 ⟨k,c,n,f.get,cp.get.1,cp.get.2⟩
section
variable {K:ZW} {ρ:List Addr} {H:Hp}
theorem o3 {d:D}{v:V}(h:RD K ρ H d v)(f:cN d=true):ii v=true:=by
 cases d<;>simp only[RD]at h<;>first|(subst h;rfl)|(simp[cN]at f)
theorem eqS {x y:List Nat}:(x == y)=(toS x == toS y):=by
 by_cases z:x=y
 ·subst z;rw[beq_self_eq_true,beq_self_eq_true]
 ·have : ¬toS x=toS y:=λq=>z (by have:=congrArg (λ(s:Str)=>s.cps.toList) q;simpa[toS] using this)
  rw[beq_eq_false_iff_ne.mpr z,beq_eq_false_iff_ne.mpr this]
theorem zd {d k:D}{v w:V}(h:RD K ρ H d v)(g:RD K ρ H k w)(f:cN d=true)(b:cN k=true):eqF d k=eqV v w:=by
 cases d with
 | non=>simp only[RD]at h;subst h;cases k<;>simp only[RD]at g<;>first|(subst g;rfl)|(simp[cN]at b)
 | bl a=>simp only[RD]at h;subst h;cases k<;>simp only[RD]at g<;>first|(subst g;rfl)|(simp[cN]at b)
 | int a=>simp only[RD]at h;subst h;cases k<;>simp only[RD]at g<;>first|(subst g;rfl)|(simp[cN]at b)
 | str a=>simp only[RD]at h;subst h;cases k<;>simp only[RD]at g<;>first|(subst g;rfl)|(subst g;exact eqS)|(simp[cN]at b)
 | tup l=>simp[cN]at f
 | ref n=>simp[cN]at f
 | lit l=>simp[cN]at f
 | exn c l=>simp[cN]at f
theorem mq:∀{l:List D} {vs:List V},RDs K ρ H l vs->l.all cN=true->vs.all ii=true
 | [],_,h,_=>by simp only[RDs]at h;subst h;rfl
 | d :: l,_,h,f=>by
  simp only[RDs]at h;obtain⟨v,r,rfl,h1,a⟩:=h;simp only[Y6,Z4]at f ⊢;exact⟨o3 h1 f.1,mq a f.2⟩
theorem tP {k:D}{w:V}(g:RD K ρ H k w)(a:cN k=true):∀{l:List D} {vs:List V},RDs K ρ H l vs->l.all cN=true->(l.any λz=>eqF z k)=vs.any λz=>eqV z w
 | [],_,h,_=>by simp only[RDs]at h;subst h;rfl
 | d :: l,_,h,f=>by
  simp only[RDs]at h;obtain⟨v,r,rfl,h1,b⟩:=h;simp only[Y6,Z4]at f;rw[WQ,WQ,zd h1 g f.1 a,tP g a b f.2]
end
section
variable {X:Cx} {pos:Pos}
theorem ze {K:ZW}{f:Bool}{ρ:List Addr}{H:Hp}{σd:Sd}{hd:Hd}{σ:St}{d k:D}{v w:V}{Q:VK}{b:Bool}(rs:RS K ρ H σd hd σ)(i:RD K ρ H d v)(h:RD K ρ H k w)(e:inL hd d k=some b)
  (q:Q (.bl (if f then !b else b)) H):rIn K f v w H Q:=by
 simp only[inL]at e;cases c:io hd k with
 | none=>rw[c]at e;cases e
 | some l =>
  rw[c]at e;simp only at e;split at e
  ·rename_i g
   cases e;rw[Z4]at g;obtain⟨p,m,rfl,j,a⟩:=tG rs.hp h c;refine⟨p,m,rfl,j.imp id SqT.of,o3 i g.1,mq a g.2,?_⟩;unfold inV;rw[<-tP i g.1 a g.2];exact q
  ·cases e
theorem Iv {K:ZW}:Og K oIn (rIn K false):=by
 intro ρ H σd f σ d k v w Q c g a p;unfold oIn at p;cases e:inL f d k with
 | none=>rw[e]at p;exact p.elim
 | some b=>rw[e]at p;exact ze c g a e (p.here c (by simp only[rD,RD];rfl))
theorem BX {K:ZW}:Og K oQ (rIn K true):=by
 intro ρ H σd f σ d k v w Q c g a p;unfold oQ at p;cases e:inL f d k with
 | none=>rw[e]at p;exact p.elim
 | some b=>rw[e]at p;exact ze c g a e (p.here c (by simp only[rD,RD];rfl))
theorem nX {i:Int}{j:Nat}{b:Pos}:ME X (.UnaryOp .USub (.Constant (.int i) j b) pos) (fC (.int (-i))) :=
 PE.imp (HX FK Bh) λσ H Q ⟨ρ,σd,c,a,p⟩=>⟨i,rfl,p.here a (by simp only[rD,RD])⟩
end
end Fm
namespace Fm
open PySem PySem.Spec L2 PySem.W PyProof.Rows
theorem Gf {l r:Nat}(h:l < r):l<=(l + r) / 2/\(l + r) / 2 < r:=by omega
variable {p:Array Nat}
section
variable {cmp:Nat->Nat->(Bool->T1->Prop)->T1->Prop} {n:Nat} {s:T1} {lt:Nat->Nat->Bool}
structure Ord (lt:Nat->Nat->Bool) (n:Nat):Prop where
 asy:∀i j,i < n->j < n->lt i j=true->lt j i=false
 tr:∀i j k,i < n->j < n->k < n->lt i j=true->lt j k=true->lt i k=true
 tot:∀i j,i < n->j < n->i≠j->lt i j=false->lt j i=true
structure Gd (n:Nat) (p:Array Nat):Prop where
 sz:p.size=n
 pm:p.Perm (List.toArray (List.range n))
theorem Gd.below (g:Gd n p){i:Nat}(hi:i < n):p.getD i 0 < n:=by
 have a:i < p.size:=by rw[g.sz];exact hi
 have e:p.getD i 0=p[i]:=by simp[Array.getD,a]
 rw[e];have m:p[i]∈p.toList:=by simp
 have:=(X3.mp g.pm).mem_iff.mp m;simpa using this
theorem Gd.ne (g:Gd n p){i j:Nat}(hi:i < n)(c:j < n)(h:i≠j):p.getD i 0≠p.getD j 0:=by
 have b:i < p.size:=by rw[g.sz];exact hi
 have a:j < p.size:=by rw[g.sz];exact c
 have e:p.getD i 0=p[i]:=by simp[Array.getD,b]
 have d:p.getD j 0=p[j]:=by simp[Array.getD,a]
 rw[e,d];have f:p.toList.Nodup:=(X3.mp g.pm).nodup_iff.mpr (by simpa using List.nodup_range);intro z;have:=(List.getElem_inj f (h₀ := by simpa using b) (h₁ := by simpa using a)).mp (by simpa using z);exact h this
def Srt (lt:Nat->Nat->Bool) (p:Array Nat) (m:Nat):Prop:=∀i j,i < j->j < m->lt (p.getD i 0) (p.getD j 0)=true
def Dsc (lt:Nat->Nat->Bool) (p:Array Nat) (m:Nat):Prop:=∀i j,i < j->j < m->lt (p.getD j 0) (p.getD i 0)=true
theorem gy:Gd n (List.toArray (List.range n)):=⟨by simp,Array.Perm.refl _⟩
theorem Srt.next {m:Nat}(O:Ord lt n)(g:Gd n p)(h:Srt lt p m)(h1:1<=m)(d:m < n)(c:lt (p.getD (m - 1) 0) (p.getD m 0)=true):Srt lt p (m + 1):=by
 intro i j a f
 by_cases e:j < m
 ·exact h i j a e
 ·have:j=m:=by omega
  subst this
  by_cases b:i=j - 1
  ·subst b;exact c
  ·exact O.tr _ _ _ (g.below (by omega)) (g.below (by omega)) (g.below d) (h i (j - 1) (by omega) (by omega)) c
theorem Dsc.next {m:Nat}(O:Ord lt n)(g:Gd n p)(h:Dsc lt p m)(h1:1<=m)(d:m < n)(c:lt (p.getD m 0) (p.getD (m - 1) 0)=true):Dsc lt p (m + 1):=by
 intro i j a f
 by_cases e:j < m
 ·exact h i j a e
 ·have:j=m:=by omega
  subst this
  by_cases b:i=j - 1
  ·subst b;exact c
  ·exact O.tr _ _ _ (g.below d) (g.below (by omega)) (g.below (by omega)) c (h i (j - 1) (by omega) (by omega))
variable (O:Ord lt n) (hc:∀i j,i < n->j < n->∀C:Bool->T1->Prop,C (lt i j) s->cmp i j C s)
include O hc
theorem kF {p:Array Nat}(g:Gd n p){Q:Nat->T1->Prop}(q:∀m,1<=m->m<=n->Srt lt p m->(m < n->lt (p.getD m 0) (p.getD (m - 1) 0)=true)->Q m s) :
  ∀(f m:Nat),1<=m->m + f=n->Srt lt p m->(kas_asc p f m).kasWp cmp Q s
 | 0,m,h1,e,h=>q m h1 (by omega) h λz=>by omega
 | f + 1,m,h1,e,h=>by
  refine hc _ _ (g.below (by omega)) (g.below (by omega)) _ ?_;cases c:lt (p.getD m 0) (p.getD (m - 1) 0) with
  | true=>((try dsimp only);(try rw[yD rfl]));exact q m h1 (by omega) h λ_=>c
  | false =>
   ((try dsimp only);(try rw[wR wV]))
   have a:=O.tot _ _ (g.below (by omega)) (g.below (by omega)) (g.ne (by omega) (by omega) (by omega)) c;exact kF g q f (m + 1) (by omega) (by omega) (h.next O g h1 (by omega) a)
theorem nj {p:Array Nat}(g:Gd n p){Q:Array Nat × Nat × Nat->T1->Prop}(q:∀m,1<=m->m<=n->Dsc lt p m->Q (p,m,0) s) :
  ∀(f m:Nat),1<=m->m + f=n->Dsc lt p m->(kas_desc f p m 0).kasWp cmp Q s
 | 0,m,h1,e,h=>q m h1 (by omega) h
 | f + 1,m,h1,e,h=>by
  refine hc _ _ (g.below (by omega)) (g.below (by omega)) _ ?_;cases c:lt (p.getD m 0) (p.getD (m - 1) 0) with
  | true =>
   ((try dsimp only);(try rw[yD rfl]));(try rw[wR (by omega)])
   exact nj g q f (m + 1) (by omega) (by omega) (h.next O g h1 (by omega) c)
  | false =>
   ((try dsimp only);(try rw[wR wV]))
   have a:=O.tot _ _ (g.below (by omega)) (g.below (by omega)) (g.ne (by omega) (by omega) (by omega)) c;refine hc _ _ (g.below (by omega)) (g.below (by omega)) _ ?_;rw[a];((try dsimp only);(try rw[yD rfl]));exact q m h1 (by omega) h
omit hc in
theorem Gg (g:Gd n p){m:Nat}(c:m<=n)(h:Dsc lt p m):Gd n (kas_rev p 0 m)/\Srt lt (kas_rev p 0 m) m:=by
 have a:∀k,k < m->(kas_rev p 0 m).getD k 0=p.getD (m - 1 - k) 0:=λk f=>by
  have e:=getElem?_mirror_all (i:=0) (by rw[g.sz];exact c) k;rw[yD ⟨XZ _,f⟩]at e;unfold kas_rev;rw[Array.getD_eq_getD_getElem?,Array.getD_eq_getD_getElem?,e,YH]
 refine⟨⟨by unfold kas_rev;rw[mirror_size,g.sz],(mirror_perm _ _ _ _).trans g.pm⟩,λi j b d => ?_⟩;rw[a i (by omega),a j d];exact h _ _ (by omega) (by omega)
theorem tQ (x:2<=n){Q:Nat × Array Nat->T1->Prop}(q:∀m p,Gd n p->1<=m->m<=n->Srt lt p m->Q (m,p) s):(kas_count n (List.toArray (List.range n))).kasWp cmp Q s:=by
 unfold kas_count;rw[VE];refine kF O hc gy (λm b l a v => ?_) (n - 1) 1 (ZK _) (by omega) (λi j k h=>by omega)
 by_cases e:m=n
 ·subst e
  rw[yD (by simp)];exact q m _ gy b (ZK _) a
 ·rw[wR (by simpa using e)]
  by_cases r:m > 1
  ·rw[yD r]
   refine hc _ _ (gy.below (by omega)) (gy.below (by omega)) _ ?_;have:=a 0 (m - 1) (by omega) (by omega);rw[this];((try dsimp only);(try rw[yD rfl]));exact q m _ gy b l a
  ·rw[wR r]
   have:m=1:=by omega
   subst this;have c:=v (by omega);unfold kas_descPart;rw[VE];refine nj O hc gy (λm b l a => ?_) (n - 2) 2 (by omega) (by omega) (λi j k h => ?_)
   ·rw[wR (by simp)]
    unfold kas_tail3;rw[VE];obtain⟨o,w⟩:=Gg O gy l a;exact kF O hc o (λu d g f _=>q u _ o d g f) (n - m) m b (by omega) w
   ·have t:i=0:=by omega
    have h:j=1:=by omega
    subst t h;exact c
theorem iW {p:Array Nat}(g:Gd n p){k:Nat}(h:k < n)(t:Srt lt p k){Q:Nat->T1->Prop}(q:∀l,l<=k->(∀i,i < l->lt (p.getD i 0) (p.getD k 0)=true)->(∀i,l<=i->i < k->lt (p.getD k 0) (p.getD i 0)=true)->Q l s) :
  ∀(f l r:Nat),r - l<=f->l<=r->r<=k->(∀i,i < l->lt (p.getD i 0) (p.getD k 0)=true)->(∀i,r<=i->i < k->lt (p.getD k 0) (p.getD i 0)=true)->(kas_place p k f l r).kasWp cmp Q s
 | 0,l,r,u,w,o,a,b=>q l (ZL w o) a λi h1 m=>b i (ZL (Nat.le_of_sub_eq_zero (Nat.le_zero.mp u)) h1) m
 | f + 1,l,r,u,w,o,a,b=>by
  unfold kas_place
  by_cases e:l ≥ r
  ·rw[yD e]
   exact q l (ZL w o) a λi h1 m=>b i (ZL e h1) m
  ·rw[wR e]
   have x:l < r:=Nat.not_le.mp e;have j:=Gf x;generalize (l + r) / 2=M at j;have v:M < k:=ZY j.2 o;have d:M < n:=Z8 v h;refine hc _ _ (g.below h) (g.below d) _ ?_;cases c:lt (p.getD k 0) (p.getD M 0) with
   | true =>
    ((try dsimp only);(try rw[yD rfl]))
    refine iW g h t q f l M (XR (ZY (Nat.sub_lt_sub_right j.1 j.2) u)) j.1 (XB v) a λi h1 m => ?_
    by_cases z:i=M
    ·subst z;exact c
    ·exact O.tr _ _ _ (g.below h) (g.below d) (g.below (Z8 m h)) c (t _ i (X4 h1 (YV z)) m)
   | false =>
    ((try dsimp only);(try rw[wR wV]))
    have A:=O.tot _ _ (g.below h) (g.below d) (g.ne h d (YA v)) c;refine iW g h t q f (M + 1) r (XR (ZY (Nat.sub_lt_sub_left x (Nat.lt_succ_of_le j.1)) u)) j.2 o (λi h1 => ?_) b
    by_cases z:i=M
    ·subst z;exact A
    ·have y:i < M:=X4 (XR h1) z
     exact O.tr _ _ _ (g.below (Z8 y d)) (g.below d) (g.below h) (t i _ y v) A
theorem o7 {Q:Array Nat->T1->Prop}(q:∀p,Gd n p->Srt lt p n->Q p s):∀(f:Nat) (p:Array Nat) (k:Nat),Gd n p->k + f=n->Srt lt p k->(kas_bin f p k).kasWp cmp Q s
 | 0,p,k,g,e,h=>by
  have:k=n:=e;subst this;exact q p g h
 | f + 1,p,k,g,e,h=>by
  unfold kas_bin;rw[VE];have y:k < n:=e ▸ Nat.lt_add_of_pos_right (Nat.succ_pos f);refine iW O hc g y h (λl B a b => ?_) k 0 k (ZK _) (XZ _) (ZK _) (λi z=>absurd z (Nat.not_lt_zero _)) (λi z E=>absurd E (WY.mpr z));have v:k < p.size:=by rw[g.sz];exact y
  have t:∀i,(bubble p k (k - l)).getD i 0=if i=l then p.getD k 0 else if l < i/\i<=k then p.getD (i - 1) 0 else p.getD i 0:=λi=>by
   have:=getElem?_bubble v (k - l) (Nat.sub_le _ _) i;rw[Nat.sub_sub_self B]at this;simp;rw[this]
   by_cases m:i=l
   ·rw[yD m,yD m]
   ·rw[wR m,wR m]
    by_cases d:l < i/\i<=k
    ·rw[yD d,yD d]
    ·rw[wR d,wR d]
  refine o7 q f _ (k + 1) ⟨by rw[bubble_size,g.sz],(bubble_perm _ _ _).trans g.pm⟩ (by rw[Nat.add_right_comm];exact e) λi j c D => ?_;have r:j<=k:=XR D;have w:j - 1 < k:=Nat.sub_one_lt_of_le (Nat.zero_lt_of_lt c) r;rw[t i,t j]
  by_cases m:i=l
  ·have o:l < j:=m ▸ c
   rw[yD m,wR (YA o),yD ⟨o,r⟩];exact b _ (Nat.le_sub_one_of_lt o) w
  ·rw[wR m]
   by_cases d:l < i/\i<=k
   ·have o:l < j:=Z8 d.1 c
    rw[yD d,wR (YA o),yD ⟨o,r⟩];exact h _ _ (Nat.sub_lt_sub_right (Nat.zero_lt_of_lt d.1) c) w
   ·rw[wR d]
    have A:i < l:=X4 (WY.mp λz=>d ⟨z,ZL (XB c) r⟩) m
    by_cases x:j=l
    ·rw[yD x];exact a _ A
    ·rw[wR x]
     by_cases u:l < j/\j<=k
     ·rw[yD u]
      exact h _ _ (ZY A (Nat.le_sub_one_of_lt u.1)) w
     ·rw[wR u]
      have C:j < l:=X4 (WY.mp λz=>u ⟨z,r⟩) x;exact h _ _ c (ZY C B)
theorem nr (b:2<=n){Q:Array Nat->T1->Prop}(q:∀p,Gd n p->Srt lt p n->Q p s):(kas_sort n).kasWp cmp Q s:=by
 unfold kas_sort;rw[VE];refine tQ O hc b λm p g c d a => ?_
 by_cases e:m < n
 ·rw[yD e]
  have:max m 1=m:=by omega
  rw[this];exact o7 O hc q (n - m) p m g (by omega) a
 ·rw[wR e]
  have:m=n:=by omega
  subst this;exact q p g a
end
end Fm
namespace Fm
def tS (x:List Int):List (List Int)->List (List Int)
 | []=>[x]
 | y :: r=>if lexLt x y=true then x :: y :: r else y :: tS x r
def bO:List (List Int)->List (List Int)
 | []=>[]
 | x :: r=>tS x (bO r)
def eC (r:List Int):D:=.tup (r.map .int)
@[simp] def kZ (l:List D):Option (List D):=match tz l with
 | some r=>if l.length < 64/\r.all (λx => !x.isEmpty)=true/\r.Nodup then some ((bO r).map eC) else none
 | none=>none
@[simp] def mr (a:EF):LF:=λσ h=>(a σ h).bind λx h=>match cU h x with
 | some l=>match kZ l with|some l=>.ok l h|none=>.bad
 | none=>.bad
theorem iX:∀a,lexLt a a=false
 | []=>rfl
 | x :: a=>by simp[lexLt,iX a]
theorem fG:∀{a b c},lexLt a b=true->lexLt b c=true->lexLt a c=true
 | [],[],_,h,_=>by simp[lexLt]at h
 | [],_ :: _,[],_,h=>by simp[lexLt]at h
 | [],_ :: _,_ :: _,_,_=>rfl
 | _ :: _,[],_,h,_=>by simp[lexLt]at h
 | _ :: _,_ :: _,[],_,h=>by simp[lexLt]at h
 | x :: a,y :: b,z :: c,h,h'=>by
  simp only[lexLt]at h h' ⊢
  by_cases e:x=y
  ·subst e
   rw[yD rfl]at h
   by_cases d:x=z
   ·subst d
    rw[yD rfl]at h' ⊢;exact fG h h'
   ·rw[wR d]at h' ⊢;exact h'
  ·rw[wR e]at h
   by_cases d:y=z
   ·subst d
    rw[wR e];exact h
   ·rw[wR d]at h'
    simp at h h';rw[wR (by omega)];simp;omega
theorem j5:∀{a b},a≠b->lexLt a b=false->lexLt b a=true
 | [],[],h,_=>absurd rfl h
 | [],_ :: _,_,h=>by simp[lexLt]at h
 | _ :: _,[],_,_=>rfl
 | x :: a,y :: b,h,h'=>by
  simp only[lexLt]at h' ⊢
  by_cases e:x=y
  ·subst e
   rw[yD rfl]at h' ⊢;exact j5 (λz=>h (by rw[z])) h'
  ·rw[wR e]at h'
   rw[wR (YV e)];simp at h' ⊢;omega
theorem jG {a b:List Int}(h:lexLt a b=true):lexLt b a=false:=by
 cases c:lexLt b a with
 | false=>rfl
 | true=>have:=fG h c;rw[iX]at this;cases this
theorem mw (x:List Int):∀r,(tS x r).Perm (x :: r)
 | []=>.refl _
 | y :: r=>by
  simp only[tS];split
  ·exact .refl _
  ·exact((mw x r).cons y).trans (.swap x y r)
theorem dG:∀r,(bO r).Perm r
 | []=>.refl _
 | x :: r=>(mw x _).trans ((dG r).cons x)
theorem o8 {x:List Int}:∀{r:List (List Int)},x∉r->r.Pairwise (λa b=>lexLt a b=true)->(tS x r).Pairwise (λa b=>lexLt a b=true)
 | [],_,_=>by simp[tS]
 | y :: r,e,h=>by
  simp only[tS];have i : ¬x=y:=λz=>e (by simp[z]);have k:x∉r:=λz=>e (by simp[z]);obtain⟨f,g⟩:=YF.mp h;split
  ·rename_i c
   refine YF.mpr ⟨λb d => ?_,h⟩;rcases wU.mp d with rfl|d
   ·exact c
   ·exact fG c (f b d)
  ·rename_i c
   have j:=j5 i (by simpa using c);refine YF.mpr ⟨λb d => ?_,o8 k g⟩;rcases wU.mp ((mw x r).mem_iff.mp d) with rfl|d
   ·exact j
   ·exact f b d
theorem eT:∀{r:List (List Int)},r.Nodup->(bO r).Pairwise (λa b=>lexLt a b=true)
 | [],_=>.nil
 | x :: r,h=>by
  obtain⟨h1,c⟩:=Y2.mp h;exact o8 (λz=>h1 ((dG r).mem_iff.mp z)) (eT c)
theorem mx {a b:List (List Int)}(p:a.Perm b)(d:a.Pairwise (λa b=>lexLt a b=true))(c:b.Pairwise (λa b=>lexLt a b=true)):a=b :=
 List.Perm.eq_of_pairwise (λx y _ _ h e=>by have:=jG h;rw[e]at this;cases this) d c p
theorem vO (r:List (List Int)):tz (r.map eC)=some r:=by
 have b:∀l:List Int,fE (l.map .int)=some l:=λl=>by
  induction l with
  | nil=>rfl
  | cons x l a=>simp[fE,a]
 induction r with
 | nil=>rfl
 | cons x r a=>simp[tz,eC,b]at a ⊢;simp[a]
end Fm
namespace Fm
open PySem PySem.Spec L2 PySem.W PyProof.Rows
section
variable {X:Cx} {pos p:Pos}
theorem cw.rds {K:ZW}{ρ:List Addr}{H:Hp}:∀{vs:List V} {rs:List (List Int)},cw H vs rs->RDs K ρ H (rs.map eC) vs
 | _,_,.nil=>RDs.nil
 | _,_,.cons (a:=a) (r:=r) h t=>by
  refine RDs.cons ?_ (cw.rds t);unfold eC;simp only[RD];refine⟨a,_,rfl,h,?_⟩;clear h
  induction r with
  | nil=>exact RDs.nil
  | cons x r b=>exact RDs.cons (by simp only[RD]) b
theorem cw.pick {H:Hp}{vs:List V}{rs:List (List Int)}(h:cw H vs rs):∀(l:List Nat),(∀i∈l,i < vs.length)->cw H (l.map λi=>vs.getD i .non) (l.map λi=>rs.getD i [])
 | [],_=>.nil
 | i :: l,b=>by
  have hi:i < vs.length:=b i (by simp);obtain⟨a,e,d⟩:=h.get (i:=i) (v:=vs[i]) (by simp[hi]);have t:=cw.pick h l λj c=>b j (by simp[c]);have:vs.getD i .non=.ref a:=by simp[List.getD,hi,e]
  simp only[ZZ,this];exact .cons d t
theorem aY.pick {vs:List V}{us:List T0}(h:aY vs us):∀(l:List Nat),(∀i∈l,i < vs.length)->aY (l.map λi=>vs.getD i .non) (l.map λi=>us.getD i Value.none)
 | [],_=>.nil
 | i :: l,a=>by
  have hi:i < vs.length:=a i (by simp);obtain⟨u,e,b⟩:=h.get (i:=i) (x:=vs[i]) (by simp[hi]);have t:=aY.pick h l λj c=>a j (by simp[c]);simp;refine .cons ?_ t;simp[List.getD,hi,e];exact b
def Gh (K:ZW):List V->Hp->VK->Prop:=λxs H Q=>∃(a:Addr) (vs:List V) (rs:List (List Int)),xs=[.ref a]/\SqL K H a vs/\vs.length < 64/\cw H vs rs/\rs.Nodup/\(rs.all λx => !x.isEmpty)=true/\∀q vs',H q=none->cw H vs' (bO rs)->Q (.ref q) (upd H q (.lst vs'))
theorem xM:fg X (.builtin "sorted") (Gh X.K):=by
 intro pins s σ H xs us Q I r h;obtain⟨a,P,f,rfl,sq,b4,W,nd,a4,q⟩:=h;obtain⟨u,rfl,ru⟩:=aY.one r;cases (show u=Value.ref a from ru);obtain⟨d,M,pl,hz⟩:=I.list sq;have hl:s.heap.IsList a d.toArray:=pl.isList;have G:d.length=P.length:=M.length.symm
 by_cases Z:d.length < 2
 ·refine tO hl Z λS n hk ho => ?_
  have hs:bO f=f:=by
   have:f.length < 2:=by rw[<-W.length];omega
   match f,this with
   | [],_=>rfl
   | [_],_=>rfl
  exact⟨.ref (s.heap.objs.size + 1),_,I.laid (o:=.lst P) hk (Nat.le_succ _) ⟨hz,d,n,M,ho⟩,rfl,q _ P (I.hok.fresh (Nat.le_succ _)) (by rw[hs];exact W)⟩
 ·obtain⟨m,hm,_⟩:=id I.loc
  have N0:News (Att.noObjs s.heap) X.env.locals s.heap (Att.ledger s.heap X.env.locals X.env.locals):=λ⟨b,o⟩ l=>by
   obtain⟨n1,n2,e⟩:=Att.mem_ledger.mp l;exact⟨e,n1,Att.noObjs_get _ _⟩
  refine kat_sorted (Att.fr_all hm) N0 hl (by omega) (by omega) λD e1 S F' N' lo => ?_;have U:∀b o,b≠X.env.locals->s.heap.get? b=some o->(b,o)∈Att.ledger s.heap X.env.locals X.env.locals:=λb o l e=>Att.mem_ledger.mpr ⟨l,l,e⟩;have N:∀b o,b≠X.env.locals->s.heap.get? b=some o->S.get? b=some o:=λb o l e=>(N' (b,o) (ZV _ (U b o l e))).1;have nL:∀b u,H b=some u->b≠X.env.locals:=λb u e z=>by rw[z,I.free]at e;cases e
  obtain⟨fs,t1,t2,t3⟩:=vL I.hok (λb o u l e=>N b o (nL b u l) e) W M a4;refine kat_kind (T:=.type "int") t1 (by omega) (λv hv => ?_) rfl ?_
  ·obtain⟨i,t,rfl⟩:=t3 v hv
   exact Looks.of_pure rfl
  ·have hT:(Value.type "int" != Value.type "tuple")=true:=by decide
   rw[hT];have b5:f.length=d.length:=by rw[<-W.length,G]
   have a7:∀i j,i < d.length->j < d.length->i≠j->f.getD i []≠f.getD j []:=λi j F V K z=>by
    have e1:f.getD i [] = f[i]'(by omega):=by simp[List.getD,show i < f.length by omega]
    have e2:f.getD j [] = f[j]'(by omega):=by simp[List.getD,show j < f.length by omega]
    rw[e1,e2]at z;exact K ((List.getElem_inj nd).mp z)
   have O:Ord (λi j=>Fm.lexLt (f.getD i []) (f.getD j [])) d.length:=⟨λi j _ _ h=>jG h,λi j k _ _ _ h S=>fG h S,λi j F V K h=>j5 (a7 i j F V K) h⟩;refine nr O (λi j F V C hC => ?_) (by omega) λE g b3 => ?_
   ·unfold kas_ask
    have a2:∀i,i < d.length->∃b,d.getD i Value.none=.ref b/\∃(o:Obj) (zs:List T0) (n:Nat),S.get? b=some o/\o.data=.seq zs.toArray n/\IntsAre zs (f.getD i []):=λi F=>by
     have hv:P[i]? = some (P[i]'(by omega)):=by simp[show i < P.length by omega]
     obtain⟨b,e1,e2⟩:=W.get hv;obtain⟨u,hu,ru⟩:=M.get hv;rw[e1]at ru;cases (show u=Value.ref b from ru);obtain⟨z,zs,r0,o,ho,hc,n,hd⟩:=I.hok b _ e2;exact⟨b,by simp[List.getD,hu],o,zs,n,N b o (nL b _ e2) ho,hd,fu r0⟩
    obtain⟨b1,x1,o1,z1,n1,y1,d1,i1⟩:=a2 i F;obtain⟨b2,x2,o2,z2,n2,y2,d2,i2⟩:=a2 j V;rw[x1,x2];refine kat_lt (s:={ s with heap:=S }) y1 d1 y2 d2 ?_;have:=BV (prog:=X.prog) (w:=X.w) (A:=X.A.in1.in1) (s:={ s with heap:=S }) (Q:=C) (f.getD i []) (f.getD j []) 0 i1 i2 hC;simpa using this
   ·have R:E.toList.Perm (List.range d.length):=by simpa using X3.mp g.pm
    have a1:∀i∈E.toList,i < P.length:=λi F=>by
     have:=R.mem_iff.mp F;rw[<-G];simpa using this
    obtain⟨y,L⟩ : ∃y,y=E.toList.map λi=>P.getD i .non:=⟨_,rfl⟩;obtain⟨B,J⟩ : ∃B,B=E.toList.map λi=>d.getD i Value.none:=⟨_,rfl⟩;have a5:cw H y (bO f):=by
     have e:(E.toList.map λi=>f.getD i [])=bO f:=by
      refine mx (?_:List.Perm _ _) ?_ (eT nd)
      ·refine((R.map λi=>f.getD i []).trans ?_).trans (dG f).symm
       have:((List.range d.length).map λi=>f.getD i [])=f:=by
        apply XS;intro i
        by_cases F:i < f.length
        ·have:i < d.length:=by omega
         simp[List.getD,F,this]
        ·have : ¬i < d.length:=by omega
         simp[F,this]
       rw[this]
      ·rw[YX]
       rw[W7];intro i j F V K;have s1:=b3 i j K (by rw[<-g.sz];simpa using V);have g1:E.getD i 0=E.toList[i]:=by simp[Array.getD,show i < E.size by simpa using F]
       have g2:E.getD j 0=E.toList[j]:=by simp[Array.getD,show j < E.size by simpa using V]
       rw[g1,g2]at s1;exact s1
     have:=W.pick E.toList a1;rw[e,<-L]at this;exact this
    have a0:aY y B:=by rw[L,J];exact aY.pick M E.toList a1
    have a9:y.length<=sizeLine:=by
     have l1:y.length=d.length:=by rw[L,ZA,R.length_eq,ZN]
     rw[l1,G];exact hz
    rw[<-J];have a3:∀q∈Att.ledger s.heap X.env.locals X.env.locals,q.1≠D:=λq hq=>ZM (lo q hq);refine KasFin.intro F' N' (UpdF.head a3) λZ c F2 N2 => ?_;have DL:D≠X.env.locals:=(N' (D,_) (ZU ..)).2.1;have b0:Z.get? D=some (PySem.W.listOf B.toArray c):=(N2 (D,_) (ZU ..)).1;have x:∀b o,b≠X.env.locals->s.heap.get? b=some o->Z.get? b=some o:=λb o l e=>(N2 (b,o) (ZV _ (U b o l e))).1;have bD:∀b o,s.heap.get? b=some o->b≠D:=λb o e=>by
     by_cases l:b=X.env.locals
     ·rw[l];exact YV DL
     ·exact a3 (b,o) (U b o l e)
    have Y:H D=none:=by
     cases e:H D with
     | none=>rfl
     | some u =>
      have:∃o,s.heap.get? D=some o:=by
       have ok:=I.hok D u e;exact Ge ok
      obtain⟨o,ho⟩:=this;exact absurd rfl (bD D o ho)
    refine⟨.ref D,upd H D (.lst y),?_,rfl,q D y Y a5⟩
    suffices I2:L2.Inv X pins σ (upd H D (.lst y)) { s with heap:=Z,gens:=s.gens,drawn:=s.drawn,toks:=s.toks } from I2
    refine I.step (g':=s.gens) (d':=s.drawn) (t':=s.toks) (ch:=[]) (λ_ z=>nomatch z) (λb o l _ _ e _=>x b o l e) (λb o l _ _ e _=>⟨o.slots,x b o l e⟩) (λb o _ e n=>by rw[aF (bD b o e)];exact n) (λb o _ e => ?_)
     (λb ys e=>by rw[aF (bM e Y)];exact e) (λb o u e=>by rw[aF (bM e Y)];exact e) (λb ps e=>⟨#[],by rw[aF (bM e Y),e];simp⟩) (λm' a6=>by rw[BW a6 hm];exact F2.ns) (λb u e => ?_) I.bare
    ·by_cases l:b=X.env.locals
     ·obtain⟨o',_,_,a8,_⟩:=F2.ns
      rw[l];exact⟨o',a8⟩
     ·exact⟨o,x b o l e⟩
    ·by_cases l:b=D
     ·subst l
      rw[aM]at e;cases e;exact⟨a9,B,c,a0,b0⟩
     ·rw[aF l]at e
      refine(I.hok b u e).stay (λc v hc z => ?_) (λc z=>by rw[aF (bM z Y)];exact z) λc ys z=>by rw[aF (bM z Y)];exact z
      rcases hc with w|w
      ·subst w;exact x c v (nL c _ e) z
      ·exact x c v (nL c _ w) z
theorem BY {a:Expr} {m:EF} (D:Gl X "sorted") (F:X.mg "sorted" = none) (y:ME X a m) (o:starEach [a] X.env=(false,eval a X.env) :: starEach [] X.env:=by rfl):MF X (.Call (.Name "sorted" p) [a] [] pos) (mr m):=by
 refine PE.imp (ek xM D F (by decide +kernel) (bh y cy o) (he:=o)) λσ H Q ⟨ρ,σd,s,z,b⟩=>⟨ρ,σd,s,z,?_⟩;unfold mr at b;cases e:m σd s with
 | exc x I=>rw[e]at b;exact b
 | bad=>rw[e]at b;exact b
 | ok d j =>
  rw[e]at b;simp only[az]at b;intro v K B A g w;cases c:cU j d with
  | none=>rw[c]at b;exact b.elim
  | some l =>
   rw[c]at b;simp only at b;cases f:kZ l with
   | none=>rw[f]at b;exact b.elim
   | some J =>
    rw[f]at b;simp only[kZ]at f;cases n:tz l with
    | none=>rw[n]at f;cases f
    | some r =>
     rw[n]at f;simp only at f;split at f
     ·rename_i i
      cases f;obtain⟨q,G,rfl,t,h⟩:=j3 g.hp w c;exact⟨q,G,r,rfl,t,by rw[<-h.length];exact i.1,vM h n,i.2.2,i.2.1,λC E u k=>b.mk A g k.rds C u⟩
     ·cases f
end
section
variable {X:Cx} {pos p:Pos}
theorem RDs.rep {K:ZW}{ρ:List Addr}{H:Hp}{l:List D}{vs:List V}(r:RDs K ρ H l vs):∀k,RDs K ρ H (List.replicate k l).flatten (List.replicate k vs).flatten
 | 0=>RDs.nil
 | k + 1=>by
  rw[YJ,YJ,XO,XO];exact RDs.append r (RDs.rep r k)
end
end Fm
namespace Fm
@[simp] def o9:EF:=λ_ h=>.ok (.ref h.length) (h++[.dct []])
def pc (l:List (Int × D)) (k:Int):Option D:=(l.find? λp=>decide (p.1=k)).map (·.2)
def xN (l:List (Int × D)) (k:Int) (v:D):List (Int × D):=if (l.any λp=>decide (p.1=k))=true then l.map (λp=>if p.1=k then (p.1,v) else p) else l++[(k,v)]
@[simp] def BZ:O2:=λx y h=>match x,y with
 | .int k,.ref n=>match h[n]? with|some (.dct l)=>.ok (.bl (pc l k).isSome) h|_=>.bad
 | _,_=>.bad
@[simp] def vP (x i e:EF):SF:=λσ h=>outE (e σ h) σ λd h=>outE (x σ h) σ λp h=>outE (i σ h) σ λj h=>match p,j with
 | .ref n,.int k=>match h[n]? with
  | some (.dct l)=>if l.length < SZ then .nx σ (h.set n (.dct (xN l k d))) else .bad
  | _=>.bad
 | _,_=>.bad
def eU:List (Int × D)->Option (List (List Int))
 | []=>some []
 | (k,.int v) :: r=>(eU r).map λl=>[k,v] :: l
 | _=>none
@[simp] def my (a:EF):LF:=λσ h=>(a σ h).bind λx h=>match x with
 | .ref n=>match h[n]? with
  | some (.dct l)=>match eU l with
   | some r=>if r.length < 64/\r.Nodup then .ok ((bO r).map eC) h else .bad
   | none=>.bad
  | _=>.bad
 | _=>.bad
end Fm
namespace L2
open PySem PySem.Spec PyProof.Rows
section
variable {κ : Type} [DecidableEq κ]
def jv (kvs:List (κ × V)) (k : κ):Option V:=(kvs.find? λkv=>decide (kv.1=k)).map (·.2)
def kG (kvs:List (κ × V)) (k : κ) (v:V):List (κ × V) :=
 if (kvs.any λkv=>decide (kv.1=k))=true then kvs.map (λkv=>if kv.1=k then (kv.1,v) else kv) else kvs++[(k,v)]
theorem pd {p : κ × V}{r:List (κ × V)}{k : κ}(e:p.1=k):jv (p :: r) k=some p.2:=by simp[jv,WO,e]
theorem k7 {p : κ × V}{r:List (κ × V)}{k : κ}(e : ¬p.1=k):jv (p :: r) k=jv r k:=by simp[jv,WO,e]
theorem vQ (k : κ):∀a:List (κ × V),(a.any λb=>decide (b.1=k))=(jv a k).isSome
 | []=>rfl
 | p :: r=>by
  rw[WQ]
  by_cases e:p.1=k
  ·simp only[pd e,x8 e,Bool.true_or,Option.isSome_some]
  ·rw[k7 e,y0 e,Bool.false_or];exact vQ k r
theorem nu (a:List (κ × V))(k : κ)(v:V):(kG a k v).length<=a.length + 1:=by
 unfold kG;split
 ·rw[ZA];omega
 ·rw[ZB,ZX,Z3];omega
theorem qt.isSome_eq {o:Option V}{u:Option T0}(r:qt o u):o.isSome=u.isSome:=by
 cases o with
 | none=>cases u with
  | none=>rfl
  | some _=>exact(show False from r).elim
 | some _=>cases u with
  | none=>exact(show False from r).elim
  | some _=>rfl
theorem KV.val {a:List (κ × V)}{vs:List (κ × T0)}(r:KV a vs)(k : κ):qt (jv a k) (valueAt vs k):=by
 unfold KV at r
 induction r with
 | nil=>exact True.intro
 | @cons p q j c h t i =>
  obtain⟨f,g⟩:=h
  by_cases e:p.1=k
  ·have d:q.1=k:=f.symm.trans e
   have b:valueAt (q :: c) k=some q.2:=by simp[valueAt,WO,d]
   rw[pd e,b];exact g
  ·have d : ¬q.1=k:=λz=>e (f.trans z)
   have b:valueAt (q :: c) k=valueAt c k:=by simp[valueAt,WO,d]
   rw[k7 e,b];exact i
theorem KV.any {a:List (κ × V)}{vs:List (κ × T0)}(r:KV a vs)(k : κ):(a.any λb=>decide (b.1=k))=vs.any λb=>decide (b.1=k):=by
 unfold KV at r
 induction r with
 | nil=>rfl
 | cons h t c=>rw[WQ,WQ,c,h.1]
theorem KV.repl {b:List (κ × V)}{vs:List (κ × T0)}(r:KV b vs)(k : κ){y:V}{u:T0}(f:bF y u) :
  KV (b.map λa=>if a.1=k then (a.1,y) else a) (vs.map λa=>if a.1=k then (a.1,u) else a):=by
 unfold KV at r ⊢
 induction r with
 | nil=>exact .nil
 | @cons p q j i h t g =>
  rw[ZZ,ZZ];refine .cons ?_ g;obtain⟨c,d⟩:=h
  by_cases e:p.1=k
  ·rw[yD e,yD (c.symm.trans e)];exact⟨c,f⟩
  ·rw[wR e,wR (λz=>e (c.trans z))];exact⟨c,d⟩
theorem KV.put {a:List (κ × V)}{vs:List (κ × T0)}(r:KV a vs)(k : κ){y:V}{u:T0}(b:bF y u):KV (kG a k y) (stored vs k u):=by
 unfold kG stored;rw[r.any k]
 by_cases e:(vs.any λc=>decide (c.1=k))=true
 ·rw[yD e,yD e];exact r.repl k b
 ·rw[wR e,wR e];exact Paired.snoc r ⟨rfl,b⟩
theorem KV.length {a:List (κ × V)}{vs:List (κ × T0)}(r:KV a vs):a.length=vs.length:=Paired.length r
end
theorem B0 {P:T3}{w:T4}{k:Key}{u:T0}(r:bF (kV k) u):(dq P w).is k u=true:=by
 cases k with
 | inl i=>obtain⟨t,e⟩:=(show ∃t,u=Value.int i t from r);subst e;exact vt P w i t
 | inr x=>obtain⟨t,e⟩:=(show ∃t,u=Value.str x t from r);subst e;exact vv P w x t
theorem rP {P:T3}{w:T4}:∀{a:List Key} {us:List T0},aY (a.map kV) us->ItemsAre (dq P w) a us
 | [],_,r=>by rw[Y8]at r;cases r;exact .nil
 | k :: a,_,r=>by
  rw[ZZ]at r;cases r with
  | cons h t=>exact .cons (B0 h) (rP t)
abbrev KT (H:Hp):List (List Key × V)->List (List Key × Addr × T0)->Prop:=Paired λp q=>p.1=q.1/\H q.2.1=some (.tup (p.1.map kV))/\bF p.2 q.2.2
theorem KT.val {H:Hp}{a:List (List Key × V)}{xs:List (List Key × Addr × T0)}(r:KT H a xs)(k:List Key):qt (jv a k) ((atKey xs k).map (·.2)):=by
 induction r with
 | nil=>exact True.intro
 | @cons p q j d h t i =>
  obtain⟨f,_,g⟩:=h
  by_cases e:p.1=k
  ·have c:q.1=k:=f.symm.trans e
   have b:atKey (q :: d) k=some q.2:=by simp[atKey,WO,c]
   rw[pd e,b];exact g
  ·have c : ¬q.1=k:=λz=>e (f.trans z)
   have b:atKey (q :: d) k=atKey d k:=by simp[atKey,WO,c]
   rw[k7 e,b];exact i
theorem KT.repl {H:Hp}{a:List (List Key × V)}{xs:List (List Key × Addr × T0)}(r:KT H a xs)(k:List Key){y:V}{u:T0}(g:bF y u) :
  KT H (a.map λc=>if c.1=k then (c.1,y) else c) (xs.map (putAt k u)):=by
 induction r with
 | nil=>exact .nil
 | @cons p q l j h t i =>
  rw[ZZ,ZZ];refine .cons ?_ i;obtain⟨b,d,f⟩:=h;unfold putAt
  by_cases e:p.1=k
  ·rw[yD e,yD (b.symm.trans e)];exact⟨b,d,g⟩
  ·rw[wR e,wR (λz=>e (b.trans z))];exact⟨b,d,f⟩
theorem KT.put {H:Hp}{a:List (List Key × V)}{xs:List (List Key × Addr × T0)}(r:KT H a xs)(k:List Key){b:Addr}{y:V}{u:T0}(d:H b=some (.tup (k.map kV)))(c:bF y u) :
  KT H (kG a k y) (storedH xs k b u):=by
 have e:(a.any λf=>decide (f.1=k))=(atKey xs k).isSome:=by
  rw[vQ,(r.val k).isSome_eq,Option.isSome_map]
 unfold kG storedH;rw[e]
 by_cases q:(atKey xs k).isSome=true
 ·rw[yD q,yD q];exact r.repl k c
 ·rw[wR q,wR q];exact Paired.snoc r ⟨rfl,d,c⟩
theorem KT.keeps {H c:Hp}{a:List (List Key × V)}{xs:List (List Key × Addr × T0)}(r:KT H a xs)(d:∀b ys,H b=some (.tup ys)->c b=some (.tup ys)):KT c a xs :=
 Paired.mapP r λ_ _ z=>⟨z.1,d _ _ z.2.1,z.2.2⟩
variable {b:List (Key × V)}
section
variable {P:T3} {w:T4} {H:Hp} {h:Heap} {a:Addr}
theorem Fa {u:HO}(ok:HOk P w H h)(e:Rd H a u):dk P w H h a u:=e.ok ok
theorem B2 (ok:HOk P w H h)(e:Rd H a (.dK b)):b.length<=sizeLine/\(a == sysModules)=false/\∃vs,KV b vs/\h.DictOf (dq P w) a vs :=
 show dk P w H h a (.dK b) from Fa ok e
theorem B3 (ok:HOk P w H h)(e:H a=some (.dK b)):b.length<=sizeLine/\(a == sysModules)=false/\∃vs,KV b vs/\h.DictOf (dq P w) a vs:=B2 ok (.inl e)
theorem xO {c:List Key}(ok:HOk P w H h)(e:H a=some (.tup (c.map kV))):(tupleKind (dq P w)).is h c a:=by
 obtain⟨_,b,r,o,g,f,n,d⟩:=(show dk P w H h a (.tup (c.map kV)) from ok a _ e);exact⟨o,b.toArray,n,g,f,d,by simpa using rP r⟩
theorem B4 {b:List (List Key × V)}(ok:HOk P w H h)(e:Rd H a (.dT b)):b.length<=sizeLine/\(a == sysModules)=false/\
  ∃xs,KT H b xs/\h.DictOfH (tupleKind (dq P w)) a xs:=by
 obtain⟨z,y,xs,r,o,u,k,n,g,v,j,i⟩:=(show dk P w H h a (.dT b) from Fa ok e);refine⟨z,y,xs,r,o,u,k,n,g,v,j,λx c => ?_,i⟩;have d:∀{l:List (List Key × V)} {m:List (List Key × Addr × T0)},KT H l m->∀x∈m,(tupleKind (dq P w)).is h x.1 x.2.1:=by
  intro l m q
  induction q with
  | nil=>intro x c;exact nomatch c
  | @cons p q A B f t s =>
   intro x c;rcases wU.mp c with e|c
   ·subst e
    exact xO ok (by rw[<-f.1];exact f.2.1)
   ·exact s x c
 exact d r x c
theorem Iw {b:List (List Key × V)}(ok:HOk P w H h)(e:H a=some (.dT b)):b.length<=sizeLine/\(a == sysModules)=false/\
  ∃xs,KT H b xs/\h.DictOfH (tupleKind (dq P w)) a xs:=B4 ok (.inl e)
end
def B5 (H:Hp) (a:Addr) (y:V) (r:Option V):Prop :=
 (∃kvs k,Rd H a (.dK kvs)/\y=kV k/\r=jv kvs k)\/∃kvs k b,Rd H a (.dT kvs)/\y=.ref b/\H b=some (.tup (k.map kV))/\r=jv kvs k
def B6 (H:Hp) (a:Addr) (y v:V) (H':Hp):Prop :=
 (∃kvs k,H a=some (.dK kvs)/\y=kV k/\kvs.length < sizeLine/\H'=upd H a (.dK (kG kvs k v)))\/
 ∃kvs k b,H a=some (.dT kvs)/\y=.ref b/\H b=some (.tup (k.map kV))/\kvs.length < sizeLine/\H'=upd H a (.dT (kG kvs k v))
theorem B5.k {H:Hp}{a:Addr}{k:Key}(e:H a=some (.dK b)):B5 H a (kV k) (jv b k):=.inl ⟨b,k,.inl e,rfl,rfl⟩
theorem B6.k {H:Hp}{a:Addr}{k:Key}{v:V}(e:H a=some (.dK b))(c:b.length < sizeLine):B6 H a (kV k) v (upd H a (.dK (kG b k v))):=.inl ⟨b,k,e,rfl,c,rfl⟩
section
variable {X:Cx} {pins:List (Addr × Obj)} {σ:St} {H:Hp} {s:T1} {a:Addr} {y v:V} {u r:T0} {o:Option V} {A:T2} {E:T0->T1->Prop}
theorem Inv.big (I:Inv X pins σ H s):sysModules < s.heap.objs.size:=by
 have h:mainGlobals < s.heap.objs.size:=(I.mod.glob.keeps I.bk).lt;exact Z8 (by decide) h
theorem JI {Q:T0->T1->Prop}(n:A.units + 1 < cLine)(I:Inv X pins σ H s)(g:B5 H a y o)(m:bF y u)(h:∀j,Inv X pins σ H j->Q (.bool o.isSome) j) :
  wpAny (model X.prog X.w) A (compareOp .In u (.ref a)) Q E s:=by
 rcases g with ⟨kvs,k,e,f,l⟩|⟨kvs,k,b,e,f,p,l⟩
 ·subst f
  obtain⟨z,i,w,c,d⟩:=B2 I.hok e;refine wpAny_in_of (B0 m) i d.mapOf ?_;rw[<-(c.val k).isSome_eq,<-l];exact h _ (I.tok _)
 ·subst f
  cases (show u=Value.ref b from m);obtain⟨z,i,t,c,d⟩:=B4 I.hok e;refine wpAny_in_heap (tupleKind_room_in1 n) (xO I.hok p) i d ?_;have q:=(c.val k).isSome_eq;rw[Option.isSome_map]at q;rw[<-q,<-l];exact h _ (I.tok _)
theorem zf {h':Heap}{t':Nat}{ob:HO}(I:Inv X pins σ H s)(f:Mut (H a))(c:Heap.SameBut a s.heap h')(he:∃q,h'.get? a=some q)(new:dk X.prog X.w (upd H a ob) h' a ob) :
  Inv X pins σ (upd H a ob) { s with heap:=h',toks:=t' } :=
 I.write (x:=a) (e:=a) f (.inl rfl) (λb q d z=>(c.2 b d).trans z) he new
theorem Gi {P:T3}{w:T4}{c:Hp}{h':Heap}{vs:List (Key × T0)}(z:b.length<=sizeLine)(hd:(a == sysModules)=false)(rel:KV b vs)(dd:h'.DictOf (dq P w) a vs) :
  dk P w c h' a (.dK b):=⟨z,hd,vs,rel,dd⟩
theorem Ai {F:Hp}{Q:Unit->T1->Prop}(S:A.units + 1 < cLine)(I:Inv X pins σ H s)(g:B6 H a y v F)(C:bF y u)(x:bF v r)(h:∀G,Inv X pins σ F G->Q () G) :
  wpAny (model X.prog X.w) A (setItem (.ref a) u r) Q E s:=by
 rcases g with ⟨kvs,k,e,t,l,eH⟩|⟨kvs,k,b,e,t,J,l,eH⟩
 ·subst t eH
  obtain⟨z,w,U,d,j⟩:=B3 I.hok e;have m:U.length<=sizeLine:=by rw[<-d.length];exact z
  have n:(kG kvs k v).length<=sizeLine:=by have:=nu kvs k v;omega
  refine wpAny_setItem_pairs (hsz:=m) (B0 C) j λB f p=>h _ ?_;have O:∃q,B.get? a=some q:=let ⟨q,_,_,i,_⟩:=f;⟨q,i⟩;exact zf I (by rw[e];exact True.intro) p O (Gi n w (d.put k x) f)
 ·subst t eH
  cases (show u=Value.ref b from C);obtain⟨z,w,R,d,j⟩:=Iw I.hok e;have m:R.length<=sizeLine:=by rw[<-Paired.length d];exact z
  have n:(kG kvs k v).length<=sizeLine:=by have:=nu kvs k v;omega
  refine wpAny_setItem_heap (hsz:=m) (tupleKind_room_in1 S) (xO I.hok J) j λB f p=>h _ ?_;obtain⟨q,P,N,i,K,T,M,_,L⟩:=f;refine zf I (by rw[e];exact True.intro) p ⟨q,i⟩ ⟨n,w,_,(d.put k J x).keeps λc V D => ?_,q,P,N,i,K,T,M,L⟩;rw[aF (ne_of D e (λz=>nomatch z))];exact D
end
section
variable {X:Cx} {pins:List (Addr × Obj)} {σ:St} {H:Hp} {s:T1} {a:Addr} {kvs:List (Key × V)} {k:Key} {u:T0} {A:T2} {E:T0->T1->Prop}
end
def Ix (i:Expr):Prop:=∀ov iv,subscripted i false ov iv=operate [ov,iv] (getItem ov iv)
theorem D8 {prog:T3}{w:T4}{A:T2}{E:T0->T1->Prop}{s:T1}{env:Env}{b a:Expr}{pos:Pos}{T id:String}{Q:T0->T1->Prop}
  (l:typeLookup (.type T) "__getitem__" = pure (some (.builtin id))) (m:Ix a)
  (h:wpAny (model prog w) A (eval b env) (λo f => wpAny (model prog w) A (eval a env) (λi c => c.TypeIs o T/\wpAny (model prog w) A (getItem o i) Q E c) E f) E s) :
  wpAny (model prog w) A (eval (.Subscript b a pos) env) Q E s:=by
 refine Subscript_ (YY h (λo f j => YY j (λi c d => ?_) λ_ _ x=>x) λ_ _ x=>x);obtain⟨k,d⟩:=d;unfold subscriptTail;refine yC ?_;rw[getitemInPython_of_ne k.not_modules];refine yC (wpAny_specialOf k l ?_);have fin:wpAny (model prog w) A (subscripted a false o i) (λr e => wpAny (model prog w) A (letTemporaryGo b o r >>= λ_=>pure r) Q E e) E c := by
  rw[m o i];exact wpAny_operating (YY d (λr e g => yC (wpAny_letTemporaryGo (wW g))) λ_ _ x=>x)
 first
  | exact wW (yC fin)
  | exact yC (wW (yC fin))
  | exact yC fin
section
variable {X:Cx} {o i e value:Expr} {pos pos' tpos:Pos} {td ty tv:TE}
end
theorem B7 {P:T3} {w:T4} {H:Hp} (h:Heap) (a:sysModules < h.objs.size):dk P w H (h.push { cls:=.type "dict",data:=.dict #[] }) h.objs.size (.dK []) :=
 ⟨XZ _,beq_eq_false_iff_ne.mpr (YV (ZM a)),[],.nil,Heap.DictOf.new h⟩
def Gj:TE:=λ_ H Q=>∀p,H p=none->Q (.ref p) (upd H p (.dK []))
section
variable {X:Cx} {pos:Pos}
theorem B8:PE X (.Dict [] [] pos) Gj:=λpins s σ H Q I h =>
 wpAny_Dict_empty ⟨.ref s.heap.objs.size,_,I.laid (a:=s.heap.objs.size) (o:=.dK []) (t':=s.toks) (λ_ _ q=>ZG _ q) (ZK _) (B7 s.heap I.big),rfl,h _ (I.hok.fresh (ZK _))⟩
end
structure M1 (X:Cx) (o:Expr) (m:Str) (apos:Pos) (e:Expr) (cpos:Pos):Prop where
 base:attributeBase o m X.env (eval o X.env)=eval o X.env
 few:((backTo cpos (starEach [e] X.env)).all (λx => !x.1) && (backToKw cpos (keywordEach [] X.env)).all (λx=>x.1.isSome)
  && decide (([e] : List Expr).length + ([] : List Keyword).length + (if ([] : List Keyword).isEmpty then 0 else 1) < 30))=true
 line:(apos.endLine == cpos.line)=true
 trees:backTo cpos (starEach [e] X.env)=[(false,eval e X.env)]
structure M2 (X:Cx) (o:Expr) (m:Str) (apos:Pos) (e f:Expr) (cpos:Pos):Prop where
 base:attributeBase o m X.env (eval o X.env)=eval o X.env
 few:((backTo cpos (starEach [e,f] X.env)).all (λx => !x.1) && (backToKw cpos (keywordEach [] X.env)).all (λx=>x.1.isSome)
  && decide (([e,f] : List Expr).length + ([] : List Keyword).length + (if ([] : List Keyword).isEmpty then 0 else 1) < 30))=true
 line:(apos.endLine == cpos.line)=true
 trees:backTo cpos (starEach [e,f] X.env)=[(false,eval e X.env),(false,eval f X.env)]
def IsD (H:Hp) (a:Addr):Prop:=(∃kvs,Rd H a (.dK kvs))\/∃kvs,Rd H a (.dT kvs)
theorem Gk {X:Cx}{pins:List (Addr × Obj)}{σ:St}{H:Hp}{s:T1}{a:Addr}(I:Inv X pins σ H s)(d:IsD H a) :
  s.TypeIs (.ref a) "dict"/\(∀b,Value.ref a=.ref b->∃ob,s.heap.get? b=some ob/\ob.dict=none)/\(a == sysModules)=false:=by
 rcases d with ⟨kvs,e⟩|⟨kvs,e⟩
 ·obtain⟨_,g,j,_,c⟩:=B2 I.hok e
  refine⟨c.typeIs,λb q => ?_,g⟩;cases q;obtain⟨ob,_,_,h,f,_⟩:=c;exact⟨ob,h,f.2.1⟩
 ·obtain⟨_,g,i,_,c⟩:=B4 I.hok e
  refine⟨c.typeIs,λb q => ?_,g⟩;cases q;obtain⟨ob,_,_,h,f,_⟩:=c;exact⟨ob,h,f.2.1⟩
section
variable {X:Cx} {pins:List (Addr × Obj)} {σ:St} {H:Hp} {s:T1} {a:Addr} {y d:V} {u r:T0} {o:Option V} {A:T2} {E:T0->T1->Prop}
end
section
variable {X:Cx} {o e f:Expr} {apos cpos:Pos} {td ty tx:TE}
end
section
variable {X:Cx} {pins:List (Addr × Obj)} {σ:St} {H:Hp} {s:T1} {a:Addr} {kvs:List (Key × V)} {A:T2} {E:T0->T1->Prop}
end
section
variable {X:Cx} {pins:List (Addr × Obj)} {σ:St} {H:Hp} {s:T1} {a:Addr} {y:V} {u:T0} {A:T2} {E:T0->T1->Prop}
end
end L2
namespace Fm
open PySem PySem.Spec L2 PySem.W PyProof.Rows
section
variable {K:ZW} {ρ:List Addr} {H:Hp} {hd:Hd}
theorem RH.allocD (r:RH K ρ H hd){p:Addr}{l:List (Int × D)}(hp:RC K ρ H (.dct l) p)(t:p ∉ ρ):RH K (ρ ++ [p]) H (hd++[.dct l]):=by
 have k:Kp ρ H (ρ ++ [p]) H:=⟨λn a e=>by rw[ZC (yE.mp e).1];exact e,λ_ _ h=>h,λ_ _ _ h=>h,λ_ _ h=>h⟩;refine⟨by simp[r.len],?_,λn c a f d => ?_⟩
 ·rw[List.nodup_append]
  exact⟨r.nd,by simp,λa s b i=>by simp at i;subst i;intro e;subst e;exact t s⟩
 ·by_cases hlt:n < hd.length
  ·rw[ZC hlt]at f
   rw[ZC (by rw[r.len];exact hlt)]at d;exact(r.cel n c a f d).mono k rfl
  ·have q:n=hd.length:=by
    have:=(yE.mp f).1;simp at this;omega
   subst q;simp at f;subst f;rw[<-r.len]at d;simp at d;subst d;obtain⟨g,j,m,o⟩:=hp;exact⟨g,j,m,o.mono k⟩
theorem RH.writeD (r:RH K ρ H hd){n:Nat}{p:Addr}{l:List (Int × D)}{b:List (Key × V)}(hp : ρ[n]? = some p)(j:n < hd.length)(h1:b.map (·.1)=l.map (λp=>(Sum.inl p.1:Key)))(i:RDs K ρ H (l.map (·.2)) (b.map (·.2))):RH K ρ (upd H p (.dK b)) (hd.set n (.dct l)):=by
 have k:Kp ρ H ρ (upd H p (.dK b)):=by
  have g:=ZJ hp;refine⟨λ_ _ h=>h,λa s e => ?_,λa o u e => ?_,λa q e => ?_⟩
  ·rw[aF (λz=>r.noTup e (by rw[z];exact g))];exact e
  ·rw[aF (λz=>r.noFrz e (by rw[z];exact g))];exact e
  ·rw[aF (λz=>r.noExt e (by rw[z];exact g))];exact e
 refine⟨by simp[r.len],r.nd,λm c a d f => ?_⟩
 by_cases e:n=m
 ·subst e
  rw[Z1 j]at d;cases d;rw[hp]at f;cases f;exact⟨b,aM,h1,i.mono k⟩
 ·rw[ZO e]at d
  have ne:a≠p:=λz=>by
   subst z;exact e (oT r.nd hp f)
  exact(r.cel m c a d f).mono k (aF ne)
theorem vR (k:Int):∀{l:List (Int × D)} {a:List (Key × V)},a.map (·.1)=l.map (λp=>(Sum.inl p.1:Key))->RDs K ρ H (l.map (·.2)) (a.map (·.2))->
  (pc l k=none/\jv a (Sum.inl k)=none)\/∃d v,pc l k=some d/\jv a (Sum.inl k)=some v/\RD K ρ H d v
 | [],[],_,_=>.inl ⟨rfl,rfl⟩
 | [],_ :: _,h,_=>by simp at h
 | _ :: _,[],h,_=>by simp at h
 | (j,d) :: l,(s,v) :: a,h1,b=>by
  simp only[ZZ,VF]at h1;simp only[ZZ,RDs]at b;obtain⟨q,r,e,c,f⟩:=b;cases e;obtain⟨m,n⟩:=h1;subst m
  by_cases e:j=k
  ·subst e
   exact .inr ⟨d,v,by simp[pc],by simp[jv],c⟩
  ·have o:=vR k n f
   have i:pc ((j,d) :: l) k=pc l k:=by simp[pc,e]
   have g:jv ((Sum.inl j,v) :: a) (Sum.inl k)=jv a (Sum.inl k):=k7 (λz=>e (by cases z;rfl));rw[i,g];exact o
theorem vS (k:Int):∀{l:List (Int × D)} {a:List (Key × V)},a.map (·.1)=l.map (λp=>(Sum.inl p.1:Key))->(a.any λb=>decide (b.1=(Sum.inl k:Key)))=l.any λp=>decide (p.1=k)
 | [],[],_=>rfl
 | [],_ :: _,h=>by simp at h
 | _ :: _,[],h=>by simp at h
 | (j,d) :: l,(f,v) :: a,h1=>by
  simp only[ZZ,VF]at h1;obtain⟨c,e⟩:=h1;subst c;simp[vS k e]
theorem vT (k:Int){f:D}{c:V}(n:RD K ρ H f c):∀{l:List (Int × D)} {a:List (Key × V)},a.map (·.1)=l.map (λp=>(Sum.inl p.1:Key))->RDs K ρ H (l.map (·.2)) (a.map (·.2))->
  (a.map λb=>if b.1=(Sum.inl k:Key) then (b.1,c) else b).map (·.1)=(l.map λp=>if p.1=k then (p.1,f) else p).map (λp=>(Sum.inl p.1:Key))/\RDs K ρ H ((l.map λp=>if p.1=k then (p.1,f) else p).map (·.2)) ((a.map λb=>if b.1=(Sum.inl k:Key) then (b.1,c) else b).map (·.2))
 | [],[],_,_=>⟨rfl,RDs.nil⟩
 | [],_ :: _,h,_=>by simp at h
 | _ :: _,[],h,_=>by simp at h
 | (j,d) :: l,(x,v) :: a,h1,g=>by
  simp only[ZZ,VF]at h1;simp only[ZZ,RDs]at g;obtain⟨u,w,e,o,q⟩:=g;cases e;obtain⟨s,t⟩:=h1;subst s;obtain⟨m,i⟩:=vT k n t q
  by_cases e:j=k
  ·subst e
   simp only[ZZ,Y7];exact⟨by rw[m],RDs.cons n i⟩
  ·have r : ¬(Sum.inl j:Key)=Sum.inl k:=λz=>e (by cases z;rfl)
   simp only[ZZ,wR e,wR r];exact⟨by rw[m],RDs.cons o i⟩
theorem B9 (k:Int){b:D}{c:V}(e:RD K ρ H b c){l:List (Int × D)}{a:List (Key × V)}(h1:a.map (·.1)=l.map (λp=>(Sum.inl p.1:Key)))(d:RDs K ρ H (l.map (·.2)) (a.map (·.2))) :
  (kG a (Sum.inl k) c).map (·.1)=(xN l k b).map (λp=>(Sum.inl p.1:Key))/\RDs K ρ H ((xN l k b).map (·.2)) ((kG a (Sum.inl k) c).map (·.2)):=by
 unfold kG xN;rw[vS k h1];split
 ·exact vT k e h1 d
 ·refine⟨by simp[h1],?_⟩
  rw[ZQ,ZQ];exact RDs.append d (RDs.cons e RDs.nil)
end
section
variable {X:Cx} {pos p:Pos}
theorem zg:ME X (.Dict [] [] pos) o9:=by
 refine PE.imp B8 λσ H Q ⟨ρ,σd,h,a,f⟩=>λq b => ?_;have e:=cC (o:=HO.dK []) b;have g:=a.hp.free b;have d:=(a.hp.same e).allocD (l:=[]) ⟨[],aM,rfl,RDs.nil⟩ g;have c:Ext ρ H (ρ ++ [q]) (upd H q (.dK [])):=Ext.alloc b;refine bn.at f c (a.ext c d) ?_;simp only[rD,RD];refine⟨q,?_,rfl⟩;rw[<-a.hp.len];simp
def Iy (K:ZW):R2:=λx y H Q=>∃a o,y=.ref a/\B5 H a x o/\Q (.bl o.isSome) H
theorem Gm (b:X.A.units + 1 < cLine):OpR X (compareOp .In) (Iy X.K):=by
 intro pins s σ H x y v u Q I d e h;obtain⟨a,o,rfl,g,q⟩:=h;obtain rfl:u=Value.ref a:=e;exact JI b I g d λf c=>⟨.bl o.isSome,H,c,rfl,q⟩
theorem Gn {K:ZW}:Og K BZ (Iy K):=by
 intro ρ H σd t σ d k v w Q j h f b;cases d<;>try exact b.elim
 cases k<;>try exact b.elim
 rename_i i n
 simp only[BZ]at b;simp only[RD]at h f;subst h;obtain⟨a,u,rfl⟩:=f;cases c:t[n]? with
 | none=>rw[c]at b;exact b.elim
 | some cell =>
  rw[c]at b;cases cell with
  | lst l=>exact b.elim
  | dcT _=>exact b.elim
  | ob _=>exact b.elim
  | dct l =>
   simp only at b;obtain⟨g,q,r,s⟩:=j.hp.cel n _ a c u;refine⟨a,jv g (Sum.inl i),rfl,B5.k (k:=Sum.inl i) q,?_⟩;have e:(jv g (Sum.inl i)).isSome=(pc l i).isSome:=by
    rcases vR i r s with ⟨m,o⟩|⟨d,v,m,o,_⟩<;>rw[m,o]<;>rfl
   rw[e];exact b.here j (by simp only[rD,RD])
def Iz:V->V->V->Hp->(Hp->Prop)->Prop:=λo i v H Q=>∃a H',o=.ref a/\B6 H a i v H'/\Q H'
theorem Ca (f:X.A.units + 1 < cLine):FC X Iz:=by
 intro pins s σ H o i v ov l u Q I b e d h;obtain⟨a,c,rfl,g,q⟩:=h;obtain rfl:ov=Value.ref a:=b;exact Ai f I g e d λk j=>⟨c,j,q⟩
theorem zh {o i e:Expr}{D I G:EF}{f:Pos}(hu:X.A.units + 1 < cLine)(he:ME X e G)(ho:ME X o D)(hi:ME X i I)(R:swapsWithSole [.Subscript o i f] e pos.line X.env=pure false:=by rfl)(hw:swappedStores [.Subscript o i f] e X.env=pure none:=by rfl)
  (h1:(assignEach [.Subscript o i f] X.env).map (·.2)=[assign (.Subscript o i f) X.env]:=by rfl) (q:∀v,assign (.Subscript o i f) X.env v=(do
   let ov <-holding [v] (eval o X.env)
   let A <-holding [v,ov] (eval i X.env)
   standAt f
   holding [v,ov,A] (setItem ov A v)
   release [v,ov,A] []):=by intro _;rfl):MS X (.Assign [.Subscript o i f] e pos) (vP D I G):=by
 refine PS.imp (sT he (sS ho hi (Ca hu) q) R hw h1) λEn σ H ⟨ρ,σd,U,T,p⟩=>⟨ρ,σd,U,T,(bv.outE p).imp λv H1 ⟨y,d,z,e1,r,N,P⟩ => ?_⟩;refine⟨y,σd,z,r,(bv.outE P).imp λvo H2 ⟨w,S,x,V,m,M,f⟩ => ?_⟩;refine⟨w,σd,x,m,(bv.outE f).imp λvi F ⟨h,di,t,C,g,J,b⟩ => ?_⟩;have B:=(N.mono (r.hp.kp V)).mono (m.hp.kp C);have s:=M.mono (m.hp.kp C);cases S with
 | ref n =>
  cases di with
  | int j =>
   simp only at b;cases c:t[n]? with
   | none=>rw[c]at b;exact b.elim
   | some cell =>
    rw[c]at b;cases cell with
    | lst l=>exact b.elim
    | dcT _=>exact b.elim
    | ob _=>exact b.elim
    | dct l =>
     simp only at b;split at b
     ·rename_i Z
      simp only[RD]at s J;subst J;obtain⟨a,q,rfl⟩:=s;obtain⟨u,Y,E,O⟩:=g.hp.cel n _ a c q;have Q:u.length=l.length:=by have:=congrArg List.length E;simpa using this
      refine⟨a,_,rfl,B6.k (k:=Sum.inl j) Y (by rw[Q];exact ZY Z (by rw[YM];decide)),?_⟩;have hn:n < t.length:=(yE.mp c).1;obtain⟨u1,L⟩:=B9 j B E O;have W:=g.hp.writeD q hn u1 L;have K:Ext h F h (upd F a (.dK (kG u (Sum.inl j) v))):=Ext.write (ZJ q);exact b σ _ h K (g.ext K W)
     ·exact b.elim
  | _=>exact b.elim
 | _=>exact b.elim
end
section
variable {X:Cx} {pos p:Pos}
theorem rR {P:T3}{w:T4}{H:Hp}{h h':Heap}(hok:HOk P w H h)(k:∀b o xs,H b=some (.tup xs)->h.get? b=some o->h'.get? b=some o):∀{vs:List V} {rs:List (List Int)} {c:List T0},cw H vs rs->aY vs c->(rs.all λx => !x.isEmpty)=true->
  ∃d,KatTups h' c d/\d.length=c.length/\∀v∈d,∃i t,v=Value.int i t
 | _,_,_,.nil,.nil,_=>⟨[],.nil,rfl,λv e=>by simp at e⟩
 | _,_,_,.cons (a:=a) (r:=r) g t,.cons q rt,hne=>by
  simp only[Y6,Z4,VL]at hne;obtain⟨d,h1,m,A⟩:=rR hok k t rt hne.2;obtain⟨z,f,B,o,y,s,n,C⟩:=hok a _ g;cases r with
  | nil=>simp at hne
  | cons i r =>
   cases B with
   | cons l E =>
    rename_i u D
    obtain⟨j,rfl⟩:=nW l;cases q;refine⟨.int i j :: d,KatTups.cons (k a o _ g y) s C (by simp) h1,by simp[m],λv e => ?_⟩;rcases wU.mp e with rfl|e
    ·exact⟨i,j,rfl⟩
    ·exact A v e
theorem Go {pins:List (Addr × Obj)}{σ:L2.St}{H:Hp}{s:T1}{B:Addr}{vs:List V}{rs:List (List Int)}{A:T2}{E:T0->T1->Prop}{Q:T0->T1->Prop}(I:Inv X pins σ H s)(G:H B=some (.lst vs))(c0:vs.length < 64)(rv:cw H vs rs)(nd:rs.Nodup)(b3:(rs.all λx => !x.isEmpty)=true)
  (q:∀d s',cw H d (bO rs)->Inv X pins σ (upd H B (.lst d)) s'->Q .none s'):wpAny (model X.prog X.w) A (call (.builtin "list.sort") [.ref B]) Q E s:=by
 obtain⟨hz,a,n0,U,ho⟩:=I.hok B _ G;have M:a.length=vs.length:=U.length.symm;obtain⟨m,hm,_⟩:=id I.loc;have nL:∀b u,H b=some u->b≠X.env.locals:=λb u e z=>by rw[z,I.free]at e;cases e
 have BL:=nL B _ G;have a7:∀d,d=vs->upd H B (.lst d)=H:=λd e=>by
  subst e;funext b
  by_cases z:b=B
  ·subst z;rw[aM,G]
  ·rw[aF z]
 have after:∀(K:Heap) (f:List T0) (d:List V) (c t':Nat),cw H d (bO rs)->aY d f->d.length<=sizeLine->K.get? B=some (PySem.W.listOf f.toArray c)->(∀b o,b≠X.env.locals->b≠B->s.heap.get? b=some o->K.get? b=some o)->K.Ns X.env.locals m->Inv X pins σ (upd H B (.lst d)) { s with heap:=K,toks:=t' }:=λK f d c t' a2 N a3 a4 l a0=>by
  have I2:L2.Inv X pins σ (upd H B (.lst d)) { s with heap:=K,gens:=s.gens,drawn:=s.drawn,toks:=t' }:=by
   refine I.step (ch:=[]) (λ_ z=>nomatch z) (λb o D _ _ e n=>l b o D (λz=>by subst z;rw[G]at n;cases n) e) (λb o D _ _ e n=>⟨o.slots,l b o D (λz=>by subst z;rw[G]at n;cases n) e⟩) (λb o _ e n=>by rw[aF (λz=>by subst z;rw[G]at n;cases n)];exact n) (λb o _ e => ?_)
    (λb ys e=>by rw[aF (λz=>by subst z;rw[G]at e;cases e)];exact e) (λb o u e=>by rw[aF (λz=>by subst z;rw[G]at e;cases e)];exact e) (λb ps e=>⟨#[],by rw[aF (λz=>by subst z;rw[G]at e;cases e),e];simp⟩) (λm' b4=>by rw[BW b4 hm];exact a0) (λb u e => ?_) I.bare
   ·by_cases D:b=X.env.locals
    ·obtain⟨o',_,_,Z,_⟩:=a0
     rw[D];exact⟨o',Z⟩
    ·by_cases F:b=B
     ·subst F;exact⟨_,a4⟩
     ·exact⟨o,l b o D F e⟩
   ·by_cases D:b=B
    ·subst D
     rw[aM]at e;cases e;exact⟨a3,f,c,N,a4⟩
    ·rw[aF D]at e
     refine(I.hok b u e).stay (λc v hc z => ?_) (λc z=>by rw[aF (λy=>by subst y;rw[G]at z;cases z)];exact z) λc ys z=>by rw[aF (λy=>by subst y;rw[G]at z;cases z)];exact z
     rcases hc with w|w
     ·subst w;exact l c v (nL c _ e) D z
     ·exact l c v (nL c _ w) (λy=>by subst y;rw[G]at w;cases w) z
  exact I2
 by_cases K:a.length < 2
 ·have hs:bO rs=rs:=by
   have:rs.length < 2:=by rw[<-rv.length];omega
   match rs,this with
   | [],_=>rfl
   | [_],_=>rfl
  have ha:B < s.heap.objs.size:=ZH ho;have Z:s.heap.get? B=some (seqObj "list" a.toArray n0):=ho;refine W3 slot_list_sort ⟨_,ho,rfl⟩ entry_list_sort (o0 Z K ⟨_,rfl,?_⟩) (args_list_sort _);obtain⟨e1,b6⟩ : ∃e1,(s.heap.update B (Obj.mapSeq λ_ => #[])).get? B=some (seqObj "list" #[] e1):=⟨_,VD Z (λ_ => #[])⟩;have b9:(((s.heap.update B (Obj.mapSeq λ_ => #[])).push (seqObj "tuple" a.toArray 0)).push (seqObj "list" #[] 0)).get? B=some (seqObj "list" #[] e1):=by
   rw[YO _ _ _ (by rw[VO,YU];exact ZM (Z7 ha)),YO _ _ _ (by rw[YU];exact ZM ha)];exact b6
  have W:∀b o,b≠B->s.heap.get? b=some o->(sortedHeap s.heap B a a.toArray).get? b=some o:=λb o D e=>by
   have a5:b < s.heap.objs.size:=ZH e;unfold sortedHeap;rw[XD _ _ _ _ D,YO _ _ _ (by rw[VO,YU];exact ZM (Z7 a5)),YO _ _ _ (by rw[YU];exact ZM a5),XD _ _ _ _ D];exact e
  have a0:(sortedHeap s.heap B a a.toArray).Ns X.env.locals m:=by
   obtain⟨o',es,ep,h1,r⟩:=hm;exact⟨o',es,ep,W _ _ (YV BL) h1,r⟩
  refine q vs _ (by rw[hs];exact rv) (after _ a vs _ s.toks (by rw[hs];exact rv) U hz (VD b9 _) (λb o _ D e=>W b o D e) a0)
 ·have N0:News (Att.noObjs s.heap) X.env.locals s.heap ((B,PySem.W.listOf a.toArray n0) :: Att.ledger s.heap X.env.locals B):=λ⟨b,o⟩ D=>by
   rcases wU.mp D with e|D
   ·cases e
    exact⟨ho,BL,Att.noObjs_get _ _⟩
   ·obtain⟨n1,n2,e⟩:=Att.mem_ledger.mp D
    exact⟨e,n1,Att.noObjs_get _ _⟩
  have b0:∀q∈Att.ledger s.heap X.env.locals B,q.1≠B:=λ⟨b,o⟩ hq=>(Att.mem_ledger.mp hq).2.1;refine kat_lsort (vs:=a) (Att.fr_all hm) N0 (UpdF.head b0) (by simp) (by omega) (by omega) λe1 h' F' N' => ?_;have a9:∀b o,b≠X.env.locals->b≠B->s.heap.get? b=some o->(b,o)∈Att.ledger s.heap X.env.locals B:=λb o D F e=>Att.mem_ledger.mpr ⟨D,F,e⟩;have Y:∀b o,b≠X.env.locals->b≠B->s.heap.get? b=some o->h'.get? b=some o:=λb o D F e=>(N' (b,o) (ZV _ (a9 b o D F e))).1;obtain⟨fs,t1,t2,t3⟩:=rR I.hok (λb o xs D e=>Y b o (nL b _ D) (λz=>by subst z;rw[G]at D;cases D) e) rv U b3;refine kat_kind (T:=.type "int") t1 (by omega) (λv hv => ?_) rfl ?_
  ·obtain⟨i,t,rfl⟩:=t3 v hv
   exact Looks.of_pure rfl
  ·have hT:(Value.type "int" != Value.type "tuple")=true:=by decide
   rw[hT];have c1:rs.length=a.length:=by rw[<-rv.length,M]
   have b5:∀i j,i < a.length->j < a.length->i≠j->rs.getD i []≠rs.getD j []:=λi j L hj R z=>by
    have e1:rs.getD i [] = rs[i]'(by omega):=by simp[List.getD,show i < rs.length by omega]
    have e2:rs.getD j [] = rs[j]'(by omega):=by simp[List.getD,show j < rs.length by omega]
    rw[e1,e2]at z;exact R ((List.getElem_inj nd).mp z)
   have O:Ord (λi j=>Fm.lexLt (rs.getD i []) (rs.getD j [])) a.length:=⟨λi j _ _ h=>jG h,λi j k _ _ _ h h'=>fG h h',λi j L hj R h=>j5 (b5 i j L hj R) h⟩;refine nr O (λi j L hj C hC => ?_) (by omega) λJ g b8 => ?_
   ·unfold kas_ask
    have a8:∀i,i < a.length->∃b,a.getD i Value.none=.ref b/\∃(o:Obj) (zs:List T0) (n:Nat),h'.get? b=some o/\o.data=.seq zs.toArray n/\IntsAre zs (rs.getD i []):=λi L=>by
     have hv:vs[i]? = some (vs[i]'(by omega)):=by simp[show i < vs.length by omega]
     obtain⟨b,e1,e2⟩:=rv.get hv;obtain⟨u,hu,ru⟩:=U.get hv;rw[e1]at ru;cases (show u=Value.ref b from ru);obtain⟨z,zs,r0,o,ho,hc,n,hd⟩:=I.hok b _ e2;exact⟨b,by simp[List.getD,hu],o,zs,n,Y b o (nL b _ e2) (λz=>by subst z;rw[G]at e2;cases e2) ho,hd,fu r0⟩
    obtain⟨b1,x1,o1,z1,n1,y1,d1,i1⟩:=a8 i L;obtain⟨b2,x2,o2,z2,n2,y2,d2,i2⟩:=a8 j hj;rw[x1,x2];refine kat_lt (s:={ s with heap:=h' }) y1 d1 y2 d2 ?_;have:=BV (prog:=X.prog) (w:=X.w) (A:=A.in1) (s:={ s with heap:=h' }) (Q:=C) (rs.getD i []) (rs.getD j []) 0 i1 i2 hC;simpa using this
   ·have a1:J.toList.Perm (List.range a.length):=by simpa using X3.mp g.pm
    have a6:∀i∈J.toList,i < vs.length:=λi L=>by
     have:=a1.mem_iff.mp L;rw[<-M];simpa using this
    obtain⟨d,S⟩ : ∃d,d=J.toList.map λi=>vs.getD i .non:=⟨_,rfl⟩;obtain⟨f,P⟩ : ∃f,f=J.toList.map λi=>a.getD i Value.none:=⟨_,rfl⟩;have a2:cw H d (bO rs):=by
     have e:(J.toList.map λi=>rs.getD i [])=bO rs:=by
      refine mx (?_:List.Perm _ _) ?_ (eT nd)
      ·refine((a1.map λi=>rs.getD i []).trans ?_).trans (dG rs).symm
       have:((List.range a.length).map λi=>rs.getD i [])=rs:=by
        apply XS;intro i
        by_cases L:i < rs.length
        ·have:i < a.length:=by omega
         simp[List.getD,L,this]
        ·have : ¬i < a.length:=by omega
         simp[L,this]
       rw[this]
      ·rw[YX]
       rw[W7];intro i j L hj R;have s1:=b8 i j R (by rw[<-g.sz];simpa using hj);have g1:J.getD i 0=J.toList[i]:=by simp[Array.getD,show i < J.size by simpa using L]
       have g2:J.getD j 0=J.toList[j]:=by simp[Array.getD,show j < J.size by simpa using hj]
       rw[g1,g2]at s1;exact s1
     have:=rv.pick J.toList a6;rw[e,<-S]at this;exact this
    have N:aY d f:=by rw[S,P];exact aY.pick U J.toList a6
    have a3:d.length<=sizeLine:=by
     have l1:d.length=a.length:=by rw[S,ZA,a1.length_eq,ZN]
     rw[l1,M];exact hz
    rw[<-P];refine KasFin.intro F' N' (UpdF.head b0) λK c F2 N2 => ?_;have b7:K.get? B=some (PySem.W.listOf f.toArray c):=(N2 (B,_) (ZU ..)).1;have l:∀b o,b≠X.env.locals->b≠B->s.heap.get? b=some o->K.get? b=some o:=λb o D F e=>(N2 (b,o) (ZV _ (a9 b o D F e))).1;exact q d _ a2 (after K f d c s.toks a2 N a3 b7 l F2.ns)
end
section
variable {X:Cx} {pos p:Pos}
def tT (p d:Addr):Heap->Prop:=λh=>h.get? p=some { cls:=.type "dict_items",data:=.fields #[.ref d] }
def Gp (td:TE):TE:=λσ H Q=>td σ H λx H1=>∃a kvs,x=.ref a/\H1 a=some (.dK kvs)/\∀p,H1 p=none->Q (.ref p) (upd H1 p (.ext (tT p a)))
theorem Cb {o:Expr} {j:TE} {apos cpos:Pos} (u:PE X o j) (c:attributeBase o "items" X.env (eval o X.env)=eval o X.env:=by rfl) (d:(apos.endLine == cpos.line)=true:=by rfl) :
  PE X (.Call (.Attribute o "items" apos) [] [] cpos) (Gp j):=by
 intro pins s σ H Q I h;refine wpAny_Call_method0_late c d (thn (u pins s σ H _ I h) λv m ⟨x,E,g,t,a,i,z,e,n⟩ => ?_);subst z;obtain rfl:v=Value.ref a:=t;obtain⟨l,y,D⟩:=Gk g (.inl ⟨i,.inl e⟩);obtain⟨_,w,A,_,r⟩:=B3 g.hok e;refine⟨"dict", "dict.items",PySem.F.plainAttrs_dict,PySem.F.slot_dict_items,PySem.F.type_dict_items,l,y,Calls.callWith_builtin rfl (PySem.evalArgs_none ?_)⟩;refine call_meetsIn PySem.F.slot_dict_items l PySem.F.entry_dict_items (PySem.F.args_dict_items_1 _) (meets_dict_items (dq X.prog X.w) a w) ⟨⟨A,r⟩,?_⟩;refine⟨.ref m.heap.objs.size,_,g.laid (o:=.ext (tT m.heap.objs.size a)) (λb F q=>ZG _ q) (ZK _) ⟨ZI _ rfl,⟨_,ZI _ rfl⟩,λC B f k=>k _ f⟩,rfl,n _ (g.hok.fresh (ZK _))⟩
theorem Cc {pins:List (Addr × Obj)}{σ:L2.St}{H d:Hp}{s:T1}{h':Heap}{t':Nat}(I:Inv X pins σ H s)(keep:∀b o,s.heap.get? b=some o->h'.get? b=some o)(f:gn H d)(a:∀b,b < s.heap.objs.size->d b=H b)(new:∀b u,s.heap.objs.size<=b->d b=some u->dk X.prog X.w d h' b u/\∀c,u ≠ .own c):Inv X pins σ d { s with heap:=h',toks:=t' }:=by
 have q:L2.Inv X pins σ d { s with heap:=h',gens:=s.gens,drawn:=s.drawn,toks:=t' }:=by
  refine I.step (ch:=[]) (λ_ z=>nomatch z) (λb o _ _ _ e _=>keep b o e) (λb o _ _ _ e _=>⟨o.slots,keep b o e⟩) (λb o _ e n=>by rw[a b (ZH e)];exact n) (λb o _ e=>⟨o,keep b o e⟩)
   (λb k e=>f _ _ e) (λb o u e=>f _ _ e) (λb w e=>⟨#[],by rw[f _ _ e];simp⟩) (λm t => ?_) (λb u e => ?_) I.bare
  ·obtain⟨l,j,h,i,r⟩:=t
   exact⟨l,j,h,keep _ _ i,r⟩
  ·by_cases g:b < s.heap.objs.size
   ·rw[a b g]at e
    refine(I.hok b u e).stay (λc v x z=>keep c v z) (λc z=>f _ _ z) λc k z=>f _ _ z
   ·exact(new b u (W4 g) e).1
 exact q
def ov:List Addr->List (List Int)->Hp->Hp
 | a :: as,r :: rs,H=>upd (ov as rs H) a (.tup (r.map V.int))
 | _,_,H=>H
theorem zi {b:Addr}{H:Hp}:∀{as:List Addr} {rs:List (List Int)},b∉as->ov as rs H b=H b
 | [],_,_=>rfl
 | a :: as,[],_=>rfl
 | a :: as,r :: rs,h=>by
  have h1:b≠a:=λz=>h (by simp[z]);have c:b∉as:=λz=>h (by simp[z]);show upd _ _ _ b=_;rw[aF h1,zi c]
theorem Cd {H:Hp}:∀{as:List Addr} {rs:List (List Int)} {j:Nat} {a:Addr} {r:List Int},as.Nodup->as[j]? = some a->rs[j]? = some r->ov as rs H a=some (.tup (r.map V.int))
 | [],_,_,_,_,_,e,_=>by simp at e
 | a :: as,[],_,_,_,_,_,e=>by simp at e
 | a :: as,r :: rs,0,_,_,_,e,c=>by simp at e c;subst e c;exact aM
 | a :: as,r :: rs,j + 1,b,q,nd,e,c=>by
  obtain⟨n1,f⟩:=Y2.mp nd;have e:as[j]? = some b:=by simpa using e
  have d:b≠a:=λz=>n1 (by rw[<-z];exact ZJ e);show upd _ _ _ b=_;rw[aF d];exact Cd f e (by simpa using c)
theorem cw.mono {H b:Hp}(k:∀a xs,H a=some (.tup xs)->b a=some (.tup xs)):∀{vs:List V} {rs:List (List Int)},cw H vs rs->cw b vs rs
 | _,_,.nil=>.nil
 | _,_,.cons h t=>.cons (k _ _ h) (cw.mono k t)
theorem zj {c:Hp}:∀{as:List Addr} {rs:List (List Int)},as.length=rs.length->(∀(j:Nat) a r,as[j]? = some a->rs[j]? = some r->c a=some (.tup (r.map V.int)))->cw c (as.map V.ref) rs
 | [],[],_,_=>.nil
 | [],_ :: _,h,_=>by simp at h
 | _ :: _,[],h,_=>by simp at h
 | a :: as,r :: rs,h,f=>.cons (f 0 a r rfl rfl) (zj (by simpa using h) λj b q e d=>f (j + 1) b q (by simpa using e) (by simpa using d))
def Gq:List V->Hp->VK->Prop:=λxs H Q=>∃(p a:Addr) (ps:List (Int × Int)),xs=[.ref p]/\H p=some (.ext (tT p a))/\H a=some (.dK (ps.map λq=>((Sum.inl q.1:Key),V.int q.2)))/\ps.length < 64/\(ps.map λq=>[q.1,q.2]).Nodup/\
 ∀H' q vs',gn H H'->H q=none->H' q=some (.lst vs')->cw H' vs' (bO (ps.map λq=>[q.1,q.2]))->Q (.ref q) H'
theorem IA {κ : Type}{a:List (κ × V)}{vs:List (κ × T0)}(r:KV a vs):∀{j:Nat} {k : κ} {x:T0} {b : κ} {v:V},vs[j]? = some (k,x)->a[j]? = some (b,v)->b=k/\bF v x:=by
 induction r with
 | nil=>intro j k x b v e;simp at e
 | cons h t d =>
  intro j k x b v e c;cases j with
  | zero=>simp at e c;subst e c;exact h
  | succ j=>exact d (by simpa using e) (by simpa using c)
theorem xP (hc:X.calm=true):fg X (.builtin "sorted") Gq:=by
 intro pins s σ H xs us Q I r h;obtain⟨p,a,A,rfl,hp,ha,P,nd,q⟩:=h;obtain⟨u,rfl,ru⟩:=aY.one r;cases (show u=Value.ref p from ru);obtain⟨f,l⟩ : ∃f,f=A.map λq=>[q.1,q.2]:=⟨_,rfl⟩;rw[<-l]at nd q;have D:tT p a s.heap:=(I.hok p _ hp).1;obtain⟨hz,_,vs,F,dd⟩:=B3 I.hok ha;have E:vs.length=A.length:=by rw[<-F.length];simp
 obtain⟨o,es,ep,d1,d2⟩:=id dd;have W:s.heap.DictAt (dq X.prog X.w) a vs ep:=⟨o,es,d1,d2⟩;refine Calls.call_function_entry kind_sorted plain_sorted entry_sorted (args_sorted1 _) ?_;unfold Builtin.«sorted»;refine yC (wW ?_);refine yC (kdx_collect (I.ok.hd hc) ⟨_,D,rfl,rfl⟩ W (by rw[E,YM];omega) λg tk d hk B J => ?_);have n:d.Nodup:=J.rise.imp λh=>ZM h;have lr:d.length=f.length:=by rw[B,E,l];simp
 have i:∀b∈d,s.heap.objs.size<=b:=λb v=>XB (J.above b v);have G:gn H (ov d f H):=λb u e=>by
  rw[zi]
  ·exact e
  ·intro z
   exact absurd (I.hok.lt e) (WY.mpr (i b z))
 have M:Inv X pins σ (ov d f H) { s with heap:=g,toks:=tk }:=by
  refine Cc I hk G (λb v=>zi λz=>absurd v (WY.mpr (i b z))) λb u v e => ?_
  by_cases hm:b∈d
  ·obtain⟨j,Y⟩:=List.getElem?_of_mem hm
   have a0:j < d.length:=(yE.mp Y).1;obtain⟨S,k,x,e1,e2,e3⟩:=J.pairs j b Y;obtain⟨y,C⟩ : ∃y,A[j]? = some y:=⟨A[j]'(by omega),by simp[show j < A.length by omega]⟩;have hr:f[j]? = some [y.1,y.2]:=by rw[l,ZP,C];rfl
   rw[Cd n Y hr]at e;cases e;refine⟨?_,λc z=>by cases z⟩;obtain⟨N,rx⟩:=IA F e1 (show (A.map λq=>((Sum.inl q.1:Key),V.int q.2))[j]? = some (Sum.inl y.1,V.int y.2) by rw[ZP,C];rfl);obtain⟨t,rfl⟩:=nW rx;subst N;have:∃O,S=Value.int y.1 O:=Value.isInt_shape e2;obtain⟨O,rfl⟩:=this;exact⟨by simp[YM],[_,_],.cons ⟨O,rfl⟩ (.cons ⟨t,rfl⟩ .nil),_,e3,rfl,_,rfl⟩
  ·rw[zi hm]at e
   exact absurd (I.hok.lt e) (WY.mpr v)
 refine yC (wpAny_newList ?_ (by rw[ZA,B,E,YM];omega));have U:aY (d.map V.ref) (d.map Value.ref):=by
  clear B J n lr i G M q
  induction d with
  | nil=>exact .nil
  | cons a d ih=>exact .cons rfl ih
 have I2:Inv X pins σ (upd (ov d f H) g.objs.size (.lst (d.map V.ref))) { s with heap:=g.push { cls:=.type "list",data:=.seq (d.map Value.ref).toArray },toks:=tk }:=M.lnew U (by rw[ZA,B,E,YM];omega);have K:ov d f H g.objs.size=none:=M.hok.fresh (ZK _);have L:gn (ov d f H) (upd (ov d f H) g.objs.size (.lst (d.map V.ref))):=cC K;have w:cw (upd (ov d f H) g.objs.size (.lst (d.map V.ref))) (d.map V.ref) f:=zj lr λj b r e e'=>L _ _ (Cd n e e');have R:(f.all λx => !x.isEmpty)=true:=by rw[l,List.all_map,X2];intro q _;rfl
 refine yC (Y1 (Go I2 aM (by rw[ZA,B,E];exact P) w nd R λm s' T Z=>wW ⟨_,rfl,?_⟩));have uu:upd (upd (ov d f H) g.objs.size (.lst (d.map V.ref))) g.objs.size (.lst m)=upd (ov d f H) g.objs.size (.lst m):=by
  funext b
  by_cases z:b=g.objs.size
  ·subst z;rw[aM,aM]
  ·rw[aF z,aF z,aF z]
 rw[uu]at Z;refine⟨.ref g.objs.size,_,Z,rfl,q _ _ m (λb u e=>cC K _ _ (G _ _ e)) ?_ aM ?_⟩
 ·cases e:H g.objs.size with
  | none=>rfl
  | some u=>rw[G _ _ e]at K;cases K
 ·refine T.mono λb ys e => ?_
  have v:b≠g.objs.size:=λz=>by subst z;rw[aM]at e;cases e
  rw[aF v]at e ⊢;exact e
theorem nv:∀{l:List (Int × D)} {r:List (List Int)},eU l=some r->∃ps:List (Int × Int),l=ps.map (λq=>(q.1,D.int q.2))/\r=ps.map λq=>[q.1,q.2]
 | [],r,e=>by simp only[eU]at e;cases e;exact⟨[],rfl,rfl⟩
 | (k,d) :: l,r,e=>by
  cases d<;>simp only[eU]at e<;>try (cases e;done)
  rename_i v
  cases c:eU l with
  | none=>rw[c]at e;cases e
  | some a =>
   rw[c]at e;cases e;obtain⟨ps,rfl,rfl⟩:=nv c;exact⟨(k,v) :: ps,rfl,rfl⟩
theorem Ce {K:ZW}{ρ:List Addr}{H:Hp}:∀{ps:List (Int × Int)} {a:List (Key × V)},a.map (·.1)=(ps.map λq=>(q.1,D.int q.2)).map (λp=>(Sum.inl p.1:Key))->RDs K ρ H ((ps.map λq=>(q.1,D.int q.2)).map (·.2)) (a.map (·.2))->a=ps.map λq=>((Sum.inl q.1:Key),V.int q.2)
 | [],[],_,_=>rfl
 | [],_ :: _,h,_=>by simp at h
 | _ :: _,[],h,_=>by simp at h
 | (j,d) :: ps,(m,v) :: a,h1,c=>by
  simp only[ZZ,VF]at h1;simp only[ZZ,RDs]at c;obtain⟨k,l,e,b,f⟩:=c;cases e;obtain⟨g,i⟩:=h1;subst g;simp only[RD]at b;subst b;rw[Ce i f];rfl
theorem Cf {o:Expr} {m:EF} {apos cpos:Pos} (Z:X.calm=true) (V:Gl X "sorted") (Y:X.mg "sorted" = none) (ho:ME X o m)
  (S:starEach [.Call (.Attribute o "items" apos) [] [] cpos] X.env=(false,eval (.Call (.Attribute o "items" apos) [] [] cpos) X.env) :: starEach [] X.env:=by rfl)
  (j:attributeBase o "items" X.env (eval o X.env)=eval o X.env:=by rfl) (h:(apos.endLine == cpos.line)=true:=by rfl) :
  MF X (.Call (.Name "sorted" p) [.Call (.Attribute o "items" apos) [] [] cpos] [] pos) (my m):=by
 refine PE.imp (ek (xP Z) V Y (by decide +kernel) (bh (Cb ho j h) cy S)) λσ H Q ⟨ρ,σd,F,T,f⟩=>⟨ρ,σd,F,T,?_⟩;unfold my at f;cases e:m σd F with
 | exc x h'=>rw[e]at f;exact f
 | bad=>rw[e]at f;exact f
 | ok d y =>
  rw[e]at f;simp only[az]at f;intro v U s L i D;cases d<;>try exact f.elim
  rename_i n
  simp only at f;simp only[rD,RD]at D;obtain⟨a,P,rfl⟩:=D;cases c:y[n]? with
  | none=>rw[c]at f;exact f.elim
  | some cell =>
   rw[c]at f;cases cell with
   | lst l=>exact f.elim
   | dcT _=>exact f.elim
   | ob _=>exact f.elim
   | dct l =>
    simp only at f;cases w:eU l with
    | none=>rw[w]at f;exact f.elim
    | some r =>
     rw[w]at f;simp only at f;split at f
     ·rename_i J
      obtain⟨N,rfl,rfl⟩:=nv w;obtain⟨a0,t,R,M⟩:=i.hp.cel n _ a c P;have hk:=Ce R M;subst hk;refine⟨a,_,rfl,t,λq I=>⟨q,a,N,rfl,aM,by rw[aF (bM t I)];exact t,by simpa using J.1,J.2,λE G C W g B A => ?_⟩⟩;have k:gn U E:=λb u eb=>W _ _ (cC I _ _ eb);have O:G≠q:=λz=>by subst z;rw[aM]at g;cases g
      rw[aF O]at g;have K:=i.hp.free g;exact f G C E s (L.trans (Ext.same k)) (i.same k) (L.fresh g K) B K A.rds
     ·exact f.elim
end
end Fm
namespace Fm
@[simp] def xQ (la:LF) (b:EF):LF:=λσ h=>(la σ h).bind λl h=>(b σ h).bind λy h=>match y with
 | .int n=>if 0<=n/\n<=1000/\l.length * n.toNat<=1000 then .ok (List.replicate n.toNat l).flatten h else .bad
 | _=>.bad
@[simp] def Aj (x i e:EF):EF:=λσ h=>(x σ h).bind λp h=>match p with
 | .ref n=>match h[n]? with
  | some (.lst _)=>(i σ h).bind λj h=>(e σ h).bind λd h=>match j with
   | .int k=>match h[n]? with
    | some (.lst l)=>if 0<=k/\k<=l.length/\l.length < SZ then .ok .non (h.set n (.lst (l.take k.toNat++[d]++l.drop k.toNat))) else .bad
    | _=>.bad
   | _=>.bad
  | _=>.bad
 | _=>.bad
@[simp] def tU (a b:EF):EF:=λσ h=>(a σ h).bind λx h=>(b σ h).bind λy h=>match x,y with
 | .int i,.int j=>.ok (.int (if j > i then j else i)) h
 | _,_=>.bad
@[simp] def cY (a b:EF):LF:=λσ h=>(a σ h).bind λx h=>(b σ h).bind λy h=>match x,y with
 | .ref n,.ref m=>match h[n]?,h[m]? with
  | some (.lst l),some (.lst k)=>if l.length + k.length<=SZ then .ok (l++k) h else .bad
  | _,_=>.bad
 | _,_=>.bad
end Fm
namespace Fm
open PySem PySem.Spec L2 PySem.W PyProof.Rows
section
variable {X:Cx} {pos p:Pos}
theorem rS {K:ZW}{ρ:List Addr}{H:Hp}:∀{l:List D} {vs:List V} {bs:List Bool},RDs K ρ H l vs->jj l=some bs->vs=bs.map V.bl
 | [],_,is,r,e=>by simp only[jj]at e;cases e;simp only[RDs]at r;subst r;rfl
 | d :: l,_,is,r,e=>by
  simp only[RDs]at r;obtain⟨v,vs,rfl,h1,a⟩:=r;cases d<;>simp only[jj]at e<;>try (cases e;done)
  rename_i i
  cases c:jj l with
  | none=>rw[c]at e;cases e
  | some b =>
   rw[c]at e;cases e;simp only[RD]at h1;rw[h1,rS a c];rfl
theorem Cg {bs:List Bool}{a:List T0}(r:aY (bs.map V.bl) a):∀(i:Nat) (v:T0),a.toArray[i]? = some v->v=.bool (bs.getD i false):=by
 intro i v e;have b:a[i]? = some v:=by simpa using e
 have c:i < bs.length:=by
  have:=(yE.mp b).1;have:=r.length;simp at this;omega
 obtain⟨u,f,d⟩:=r.get (i:=i) (x:=V.bl bs[i]) (by simp[c]);rw[f]at b;cases b;rw[show v=Value.bool bs[i] from d];simp[List.getD,c]
theorem Ch (bs:List Bool):(List.range bs.length).all (λi=>bs.getD i false)=bs.all id:=by
 have:bs=(List.range bs.length).map λi=>bs.getD i false:=by
  apply XS;intro i
  by_cases a:i < bs.length<;>simp[List.getD,a]
 conv=>rhs;rw[this]
 rw[List.all_map];rfl
theorem Ak (C:X.calm=true):fg X (.builtin "all") (λxs H Q=>∃(p:Addr) (bs:List Bool),xs=[.ref p]/\(SqL X.K H p (bs.map V.bl)\/SqT X.K H p (bs.map V.bl))/\Q (.bl (bs.all id)) H):=by
 intro pins s σ H xs F Q I r q;obtain⟨p,bs,rfl,h,q⟩:=q;obtain⟨u,rfl,B⟩:=aY.one r;cases (show u=Value.ref p from B);have x:(X.A.in1).handled=none:=I.ok.hd C;have t:∀(a:List T0),aY (bs.map V.bl) a->TruthOf X.prog X.w X.A.in1 (λi v=>a.toArray[i]? = some v) (λi=>bs.getD i false):=λa c i v s Q E y D=>by
  rw[Cg c i v y];exact Y4 D
 have fin:∀{w:Obj} {j:Heap} {l:Nat} {n:Nat},n=bs.length->(∀b o,b∉[s.heap.objs.size]->(s.heap.push w).get? b=some o->j.get? b=some o)->EP X pins σ Q (.bool ((List.range n).all λi=>bs.getD i false)) { s with heap:=j,toks:=l }:=by
  intro w j l n A k;subst A;refine⟨.bl (bs.all id),H,I.kept λb o e=>k b o (by simp;exact ZM (ZH e)) (ZG _ e),by rw[Ch];rfl,q⟩
 rcases h with h|h
 ·obtain⟨a,c,m,z⟩:=I.list h
  have d:s.heap.IsList p a.toArray:=m.isList;have f:p < s.heap.objs.size:=by obtain⟨o,g,_⟩:=d;exact ZH g
  refine PySem.call_all_walk (PySem.wpAny_pyIter_list d ?_);refine⟨s.heap.objs.size,_,[s.heap.objs.size],_,_,_,λi=>bs.getD i false,rfl,PySem.Walks.list x s.heap.objs.size p (ZM f) a.toArray,⟨⟨_,ZI _ rfl,rfl,rfl⟩,?_⟩,t a c,?_⟩
  ·obtain⟨o,g,r⟩:=d;exact⟨o,ZG _ g,r⟩
  ·exact λj l k=>fin (by simpa using c.length.symm) k
 ·obtain⟨a,c,m,z⟩:=I.tuple h
  have d:s.heap.IsTuple p a.toArray:=m;have f:p < s.heap.objs.size:=by obtain⟨o,g,_⟩:=d;exact ZH g
  refine PySem.call_all_walk (PySem.wpAny_pyIter_tuple d ?_);refine⟨s.heap.objs.size,_,[s.heap.objs.size],_,_,_,λi=>bs.getD i false,rfl,PySem.Walks.tuple x s.heap.objs.size p (ZM f) a.toArray,⟨⟨_,ZI _ rfl,rfl,rfl⟩,?_⟩,t a c,?_⟩
  ·obtain⟨o,g,r⟩:=d;exact⟨o,ZG _ g,r⟩
  ·exact λj l k=>fin (by simpa using c.length.symm) k
theorem tV {a:Expr} {f:LF} (k:X.calm=true) (n:Gl X "all") (j:X.mg "all" = none) (i:MQ X a f) (d:starEach [a] X.env=(false,eval a X.env) :: starEach [] X.env:=by rfl):ME X (.Call (.Name "all" p) [a] [] pos) (vE f):=by
 refine xI (BI (Ak k) n j (by decide +kernel) (he:=d)) i (λρ H σd o σ l q r Q h g b p => ?_) d;cases c:jj l with
 | none=>simp only[c]at p;exact p.elim
 | some m =>
  simp only[c]at p;have e:=rS b c;subst e;exact⟨q,m,rfl,g.imp id SqT.of,p.here h (by simp only[rD,RD])⟩
theorem Gr {a b:Expr}{k:LF}{s:EF}(F:MF X a k)(E:ME X b s):MF X (.BinOp a .Mult b pos) (xQ k s):=by
 refine PE.imp (Bp FT F E) λσ H Q ⟨ρ,σd,w,L,c⟩=>⟨ρ,σd,w,L,?_⟩;unfold xQ at c;cases e:k σd w with
 | exc x G=>rw[e]at c;exact c
 | bad=>rw[e]at c;exact c
 | ok l g =>
  rw[e]at c;simp only[az]at c;intro q z O o M f J C I i;refine⟨o,σd,g,f,?_⟩;cases t:s σd g with
  | exc x G=>rw[t]at c;exact c
  | bad=>rw[t]at c;exact c
  | ok y K =>
   rw[t]at c;simp only[az]at c;intro v B D d r u;cases y<;>try exact c.elim
   rename_i n
   simp only at c;split at c
   ·rename_i N
    simp only[rD,RD]at u;subst u;have m:B q=some (.lst z):=d.frame q _ C I;have h:=i.mono (f.hp.kp d);refine⟨q,n,z,rfl,rfl,m,by omega,by omega,by rw[<-i.length,YM];omega,λA j => ?_⟩;exact vF.mk c (M.trans d) r (RDs.rep h n.toNat) A j
   ·exact c.elim
theorem Gs {a b:Expr} {n q:EF} (u:X.calm=true) (C:Gl X "max") (D:X.mg "max" = none) (t:ME X a n) (s:ME X b q) (o:starEach [a,b] X.env=(false,eval a X.env) :: starEach [b] X.env:=by rfl) (f:starEach [b] X.env=(false,eval b X.env) :: starEach [] X.env:=by rfl) (hpl:(backTo pos (starEach [b] X.env)).any (λx=>x.1)=false:=by rfl):ME X (.Call (.Name "max" p) [a,b] [] pos) (tU n q):=by
 refine PE.imp (ek (zZ u) C D (by decide +kernel) (bh t (bh s cy f) o) (he:=o) (hpl:=hpl)) λσ H Q ⟨ρ,σd,B,A,m⟩=>⟨ρ,σd,B,A,?_⟩;unfold tU at m;refine(bn.bind m).imp λv F ⟨h,d,g,G,e,l,z⟩ => ?_;refine⟨h,σd,g,e,(bn.bind z).imp λw E ⟨r,k,y,I,j,c,i⟩ => ?_⟩;cases d<;>try exact i.elim
 cases k<;>try exact i.elim
 simp only[rD,RD]at l c;subst l c;exact⟨_,_,rfl,i.here j (by simp only[rD,RD])⟩
def D9:V->List V->Hp->VK->Prop:=λx vs H Q=>∃l xs k y,x=.ref l/\vs=[.int k,y]/\H l=some (.lst xs)/\0<=k/\k<=xs.length/\xs.length < sizeLine/\Q .non (upd H l (.lst (xs.take k.toNat++[y]++xs.drop k.toNat)))
theorem Al:MtM X "list.insert" D9:=by
 intro pins s σ H x G v C Q I j f h;obtain⟨l,D,k,y,rfl,rfl,d,B,A,g,q⟩:=h;cases j;obtain⟨u,w,rfl,i,c⟩:=f.two;obtain⟨t,rfl⟩:=nW i;obtain⟨z,b,n,r,E,e⟩:=I.lstM d;have a : ¬(!Builtin.List.listFitsIndex k)=true:=by
  rw[fitsIndex_both (by omega) (by rw[YM]at g;omega)];exact wV
 refine WX F.slot_list_insert ⟨_,e,rfl⟩ F.entry_list_insert (F.args_list_insert_3 _ _ _) (AutoSeq1.list_insert_list_int_val_1 l b.toArray n k t w a (by rw[v7];omega)) ⟨e,?_⟩;refine⟨.non,_,I.lset d e ?_ (((r.take k.toNat).append (.cons c .nil)).append (r.drop k.toNat)) ?_,rfl,q⟩
 ·have o : ¬k < 0:=by omega
  have m:min k.toNat b.length=k.toNat:=by omega
  simp only[Obj.mapSeq,v7,wR o,m];congr 2;simp;exact YT (by simp)
 ·simp;omega
theorem Gu {o i e:Expr} {M S R:EF} {apos cpos:Pos} (ho:ME X o M) (hi:ME X i S) (he:ME X e R) (q:attributeBase o "insert" X.env (eval o X.env)=eval o X.env:=by rfl)
  (s:((backTo cpos (starEach [i,e] X.env)).all (λx => !x.1) && (backToKw cpos (keywordEach [] X.env)).all (λx=>x.1.isSome)
   && decide (([i,e] : List Expr).length + ([] : List Keyword).length + (if ([] : List Keyword).isEmpty then 0 else 1) < 30))=true:=by rfl)
  (j:(apos.endLine == cpos.line)=true:=by rfl) (O:starEach [i,e] X.env=(false,eval i X.env) :: starEach [e] X.env:=by rfl) (F:starEach [e] X.env=(false,eval e X.env) :: starEach [] X.env:=by rfl) (hpl:(backTo cpos (starEach [e] X.env)).any (·.1)=false:=by rfl) :
  ME X (.Call (.Attribute o "insert" apos) [i,e] [] cpos) (Aj M S R):=by
 refine PE.imp (oO WE PySem.F.slot_list_insert PySem.F.type_list_insert Al ho (bh hi (bh he cy F) O) q s j O hpl) λσ H Q ⟨ρ,σd,Y,W,P⟩=>⟨ρ,σd,Y,W,?_⟩;unfold Aj at P;refine(bn.bind P).imp λv H1 ⟨C,d,y,e1,t,K,g⟩ => ?_;cases d<;>try exact g.elim
 rename_i n
 simp only[rD,RD]at K;obtain⟨a,L,rfl⟩:=K;simp only at g;cases D:y[n]? with
 | none=>rw[D]at g;exact g.elim
 | some cell1 =>
  rw[D]at g;cases cell1 with
  | dct l=>exact g.elim
  | dcT l=>exact g.elim
  | ob l=>exact g.elim
  | lst l1 =>
   obtain⟨vs,hv,_⟩:=t.hp.cel n _ a D L;simp only at g;refine⟨.inl ⟨rfl,vs,SqL.of hv⟩,C,σd,y,t,(bn.bind g).imp λvi H2 ⟨A,k,B,e2,J,T,Z⟩ => ?_⟩;refine⟨A,σd,B,J,(bn.bind Z).imp λw N ⟨u,dv,z,V,m,G,f⟩ => ?_⟩;cases k with
   | int k =>
    simp only[rD,RD]at T;subst T;simp only at f;cases c:z[n]? with
    | none=>rw[c]at f;exact f.elim
    | some cell =>
     rw[c]at f;cases cell with
     | dct l=>exact f.elim
     | dcT l=>exact f.elim
     | ob l=>exact f.elim
     | lst l =>
      simp only at f;split at f
      ·rename_i E
       have r:=V.get (e2.get L);obtain⟨h,I,b⟩:=m.hp.cel n _ a c r;refine⟨a,h,k,w,rfl,rfl,I,E.1,by rw[<-b.length];exact E.2.1,?_,?_⟩
       ·rw[<-b.length];exact ZY E.2.2 (by rw[YM];decide)
       ·have hn:n < z.length:=(yE.mp c).1
        have rh:=m.hp.write r hn (RDs.append (RDs.append (RDs.take k.toNat b) (RDs.cons G RDs.nil)) (RDs.drop k.toNat b));have U:Ext u N u (upd N a (.lst (h.take k.toNat++[w]++h.drop k.toNat))):=Ext.write (ZJ r);exact f.at U (m.ext U rh) (by simp only[rD,RD])
      ·exact f.elim
   | _=>exact f.elim
theorem dz {a b:Expr}{D G:EF}(U:ME X a D)(T:ME X b G):MF X (.BinOp a .Add b pos) (cY D G):=by
 refine PE.imp (Bp FS U T) λσ H Q ⟨ρ,σd,O,W,c⟩=>⟨ρ,σd,O,W,?_⟩;unfold cY at c;cases e:D σd O with
 | exc x V=>rw[e]at c;exact c
 | bad=>rw[e]at c;exact c
 | ok d j =>
  rw[e]at c;simp only[az]at c;intro v H1 E Y s L;refine⟨E,σd,j,s,?_⟩;cases I:G σd j with
  | exc x V=>rw[I]at c;exact c
  | bad=>rw[I]at c;exact c
  | ok k o =>
   rw[I]at c;simp only[az]at c;intro w H2 S q h i;cases d with
   | ref n =>
    cases k with
    | ref m =>
     simp only at c;simp only[rD,RD]at L i;obtain⟨M,B,rfl⟩:=L;obtain⟨K,u,rfl⟩:=i;have y:=q.get B;cases r:o[n]? with
     | none=>rw[r]at c;exact c.elim
     | some N =>
      cases t:o[m]? with
      | none=>rw[r,t]at c;cases N<;>exact c.elim
      | some Z =>
       rw[r,t]at c;cases N with
       | dct _=>exact c.elim
       | dcT _=>exact c.elim
       | ob _=>exact c.elim
       | lst l =>
        cases Z with
        | dct _=>exact c.elim
        | dcT _=>exact c.elim
        | ob _=>exact c.elim
        | lst k =>
         simp only at c;split at c
         ·rename_i R
          obtain⟨A,F,f⟩:=h.hp.cel n _ M r y;obtain⟨C,J,g⟩:=h.hp.cel m _ K t u;refine⟨M,K,A,C,rfl,rfl,F,J,by rw[<-f.length,<-g.length];exact nU R,λP z => ?_⟩;exact vF.mk c (Y.trans q) h (RDs.append f g) P z
         ·exact c.elim
    | _=>exact c.elim
   | _=>exact c.elim
end
end Fm
namespace Fm
@[simp] def JW (a:EF):EF:=λσ h=>(a σ h).bind λx h=>match x with | .int i=>.ok (.int i.natAbs) h|_=>.bad
@[simp] def tW (a b:EF):EF:=λσ h=>(a σ h).bind λx h=>(b σ h).bind λy h=>match x,y with
 | .int i,.int j=>.ok (.int (if j < i then j else i)) h
 | _,_=>.bad
section
open Classical
end
end Fm
namespace Fm
open PySem PySem.Spec L2
open PyProof.Rows (Call_)
section
variable {prog:T3} {w:T4} {A:T2} {E:T0->T1->Prop} {s:T1} {z TI TO i1 i2 l1 l2:Addr} {k:Nat} {xs ys:Array T0} {a b:T0}
end
section
variable {prog:T3} {w:T4} {A:T2} {E:T0->T1->Prop} {s:T1}
end
section
variable {X:Cx} {pos p tp:Pos} {elts:List Expr} {tk:Nat}
end
end Fm
namespace Fm
open PySem PySem.Spec L2 PySem.W PyProof.Rows
section
variable {X:Cx} {pos p:Pos}
theorem Gv {a b:Expr} {n q:EF} (u:X.calm=true) (C:Gl X "min") (D:X.mg "min" = none) (t:ME X a n) (s:ME X b q) (o:starEach [a,b] X.env=(false,eval a X.env) :: starEach [b] X.env:=by rfl) (f:starEach [b] X.env=(false,eval b X.env) :: starEach [] X.env:=by rfl) (hpl:(backTo pos (starEach [b] X.env)).any (λx=>x.1)=false:=by rfl):ME X (.Call (.Name "min" p) [a,b] [] pos) (tW n q):=by
 refine PE.imp (ek (z0 u) C D (by decide +kernel) (bh t (bh s cy f) o) (he:=o) (hpl:=hpl)) λσ H Q ⟨ρ,σd,B,A,m⟩=>⟨ρ,σd,B,A,?_⟩;unfold tW at m;refine(bn.bind m).imp λv F ⟨h,d,g,G,e,l,z⟩ => ?_;refine⟨h,σd,g,e,(bn.bind z).imp λw E ⟨r,k,y,I,j,c,i⟩ => ?_⟩;cases d<;>try exact i.elim
 cases k<;>try exact i.elim
 simp only[rD,RD]at l c;subst l c;exact⟨_,_,rfl,i.here j (by simp only[rD,RD])⟩
end
section
variable {prog:T3} {w:T4} {A:T2} {E:T0->T1->Prop} {s:T1}
end
section
variable {X:Cx} {pos p:Pos}
end
end Fm
namespace Fm
open PySem PySem.Spec L2
open AutoSeq1 (wpAny_loadPart')
open PyProof.Rows (Call_)
section
variable {X:Cx} {pos p tp:Pos} {elts:List Expr} {tk:Nat}
end
section
variable {X:Cx} {pos:Pos} {tg:Expr}
end
end Fm
namespace Fm
end Fm
namespace Fm
open PySem PySem.Spec L2
open PyProof.Rows (Call_)
section
variable {X:Cx} {pos p p2 pos2:Pos}
end
end Fm
namespace Fm
section
open Classical
end
end Fm
namespace Fm
open PySem PySem.Spec L2
section
variable {X:Cx} {pos:Pos} {scope:Scope} {own capn:List Str} {caps:List Nat}
end
section
variable {X:Cx}
end
theorem lc {p q:Prop}(h:p\/q:=by first|exact .inl rfl|exact .inr rfl):p\/q:=h
theorem ei.a {X:Cx}{scope:Scope}{own capn:List Str}{caps:List Nat}(cp:fF X scope capn caps)(k:scope.kind=.function:=by rfl)(c:∀y∈scope.names,y.2 ≠ .cell:=by decide +kernel)(n:∀y∈scope.names,y.2=.local->scope.names.lookup y.1=some .local:=by decide +kernel)
  (f:fv X scope.names:=by repeat' (first|exact fv.nil|refine fv.cons (by first|exact(λ_=>.inl rfl)|exact(λ_=>.inr rfl)|(intro z;cases z;done)) ?_)):ei X scope own capn caps:=ei.mk' k c n f cp
section
variable {X:Cx} {pos p:Pos}
theorem aA {x:Str}{k j c:Nat}{F:Fn}{e:Expr}{a:List Expr}{r:LF}(hd:Def X.prog X.w X.K X.mg X.base x k c F)(m:du j X.A)(i:MA X (e :: a) r)(g:k<=j:=by decide)(l:Gl X x:=by rfl)(hnp:∀f h d h',F f h=.ok d h'->f.length=c:=by exact zb)
  (b:(x == ("__debug__" : Str))=false:=by decide) (he:starEach (e :: a) X.env=(false,eval e X.env) :: starEach a X.env:=by rfl) (hpl:(backTo pos (starEach a X.env)).any (·.1)=false:=by rfl) :
  ME X (.Call (.Name x p) (e :: a) [] pos) (au F r):=D4 hd (m.mono g) l i hnp b he hpl
end
def At (K:ZW) (n:Str) (st:Stmt):Prop:=∃(f:Addr) (od an:Option Addr) (sl:Array (Option T0)) (oc kV dc pm cd ct:T0),PySem.W.nsIn K mainGlobals n=some (some (.ref f))/\K.lookup f=some ⟨oc,od,.func (PySem.W.fnOf n n (cG st) (bT st) (aI st) .none kV dc pm an cd ct),sl⟩/\PySem.W.codeIn K cd n=true/\PySem.W.keepIn K (.ref f)=true
def Nb (K:ZW) (n:Str):Prop:=PySem.W.nsIn K mainGlobals n=some none
structure En (P:T3) (w:T4) (K:ZW) (mg:Str->Option T0) (base:Heap):Prop where
 ex:∃h:Heap,K.In h/\h.Ns mainGlobals mg
section
variable {P:T3} {w:T4} {K:ZW} {mg:Str->Option T0} {base h:Heap} {n:Str} {st:Stmt} {ps:List Str} {k np:Nat} {F:Fn}
theorem At.i {f:Addr}{d e:Option Addr}{c:Array (Option T0)}{b kV dc pm a ct:T0}(h1:PySem.W.nsIn K mainGlobals n=some (some (.ref f)))(g:K.lookup f=some ⟨b,d,.func (PySem.W.fnOf n n (cG st) (bT st) (aI st) .none kV dc pm e a ct),c⟩)(i:PySem.W.codeIn K a n=true)(j:PySem.W.keepIn K (.ref f)=true):At K n st:=⟨f,d,e,c,b,kV,dc,pm,a,ct,h1,g,i,j⟩
theorem At.out (a:At K n st)(X:K.In h)(G:h.Ns mainGlobals mg):∃f d,mg n=some (.ref f)/\PySem.W.keepIn K (.ref f)=true/\Fun K n n st f d:=by
 obtain⟨f,q,r,j,i,kV,p,l,o,m,g,c,e,b⟩:=a;exact⟨f,_,YK X G g,b,xG c e b⟩
theorem At.df (a:At K n st)(q:En P w K mg base)(ok:∀{f c},Fun K n n st f c->cM P w K mg base CX0 k f c ps (spF K F np))
  (g:∀(kV d pm:T0) (j:Option Addr) (b ct:T0) (us:List T0),us.length=ps.length->bindArgs (PySem.W.fnOf n n (cG st) (bT st) (aI st) .none kV d pm j b ct) ⟨us,[]⟩ = pure (ps.zip us)):Def P w K mg base n k np F:=by
 obtain⟨h,X,G⟩:=q.ex;obtain⟨f,c,i,e,U⟩:=a.out X G;exact Def.mk' i e (U.binds g) (ok U)
theorem fS {α : Type}{l:List α}{n:Nat}(h:l.length=n + 1):∃a t,l=a :: t/\t.length=n:=by
 cases l with
 | nil=>cases h
 | cons a t=>exact⟨a,t,rfl,Nat.succ.inj h⟩
theorem ny {α : Type}{l:List α}(h:l.length=0):l=[]:=List.length_eq_zero_iff.mp h
theorem At.df1 (a:At K n st)(q:En P w K mg base)(ok:∀{f e},Fun K n n st f e->cM P w K mg base CX0 k f e ps (spF K F np))(g:ps.length=1:=by rfl)
  (j:∀(kV c pm:T0) (d:Option Addr) (b ct a:T0),bindArgs (PySem.W.fnOf n n (cG st) (bT st) (aI st) .none kV c pm d b ct) ⟨[a],[]⟩ = pure (ps.zip [a]):=by intros;rfl):Def P w K mg base n k np F :=
 a.df q ok λkV c pm d b ct m h=>by obtain⟨a,l,rfl,i⟩:=fS (h.trans g);cases ny i;exact j kV c pm d b ct a
theorem At.df2 (a:At K n st)(q:En P w K mg base)(ok:∀{f g},Fun K n n st f g->cM P w K mg base CX0 k f g ps (spF K F np))(i:ps.length=2:=by rfl)
  (l:∀(kV d pm:T0) (e:Option Addr) (c ct a b:T0),bindArgs (PySem.W.fnOf n n (cG st) (bT st) (aI st) .none kV d pm e c ct) ⟨[a,b],[]⟩ = pure (ps.zip [a,b]):=by intros;rfl):Def P w K mg base n k np F :=
 a.df q ok λkV d pm e c ct r h=>by obtain⟨a,p,rfl,j⟩:=fS (h.trans i);obtain⟨b,o,rfl,m⟩:=fS (j);cases ny m;exact l kV d pm e c ct a b
theorem At.df3 (a:At K n st)(q:En P w K mg base)(ok:∀{f i},Fun K n n st f i->cM P w K mg base CX0 k f i ps (spF K F np))(l:ps.length=3:=by rfl)
  (j:∀(kV e pm:T0) (g:Option Addr) (d ct a b c:T0),bindArgs (PySem.W.fnOf n n (cG st) (bT st) (aI st) .none kV e pm g d ct) ⟨[a,b,c],[]⟩ = pure (ps.zip [a,b,c]):=by intros;rfl):Def P w K mg base n k np F :=
 a.df q ok λkV e pm g d ct s h=>by obtain⟨a,u,rfl,m⟩:=fS (h.trans l);obtain⟨b,t,rfl,o⟩:=fS (m);obtain⟨c,r,rfl,p⟩:=fS (o);cases ny p;exact j kV e pm g d ct a b c
theorem At.df4 (a:At K n st)(q:En P w K mg base)(ok:∀{f j},Fun K n n st f j->cM P w K mg base CX0 k f j ps (spF K F np))(o:ps.length=4:=by rfl)
  (m:∀(kV g pm:T0) (i:Option Addr) (e ct a b c d:T0),bindArgs (PySem.W.fnOf n n (cG st) (bT st) (aI st) .none kV g pm i e ct) ⟨[a,b,c,d],[]⟩ = pure (ps.zip [a,b,c,d]):=by intros;rfl):Def P w K mg base n k np F :=
 a.df q ok λkV g pm i e ct u h=>by obtain⟨a,y,rfl,p⟩:=fS (h.trans o);obtain⟨b,v,rfl,r⟩:=fS (p);obtain⟨c,t,rfl,s⟩:=fS (r);obtain⟨d,x,rfl,l⟩:=fS (s);cases ny l;exact m kV g pm i e ct a b c d
theorem fsc {N P:List Str}{a:Scope}(h1:a.kind=.function:=by rfl)(b:a.isCoroutine=false:=by rfl)(d:a.isGenerator=false:=by rfl)(e:N.Nodup:=by decide +kernel)(c:N.take P.length=P:=by rfl)(g:∀x∈P,a.names.lookup x=some .local\/a.names.lookup x=some .cell:=by decide +kernel)(f:∀y∈a.names,y.2 ≠ .free:=by decide +kernel):ce N P a:=⟨h1,b,d,e,c,g,f⟩
end
end Fm
namespace Fm
open PySem PySem.Spec L2 PySem.W PyProof.Rows
section
variable {X:Cx} {pos:Pos} {scope:Scope} {own capn:List Str} {caps:List Nat}
theorem aG {i:Nat}{x:Str}{e:Expr}{f:EF}{a:Pos}(he:ME X e f)(c:X.N.Nodup:=by exact YC (by kernel_rfl))(hi:X.N[i]? = some x:=by rfl)(b:Loc X.env.scope x:=by exact lc)(d:swapsWith e (some (.Name x a)) pos.line X.env=pure false:=by rfl)(g:X.fn x=true\/X.env.scope.names.lookup x=some .local:=by first|exact .inl rfl|exact .inr rfl|assumption) :
  MS X (.Assign [.Name x a] e pos) (aB (gN i) f):=jC c hi b he d g
theorem a9 {i:Nat}{x:Str}(b:X.N.Nodup:=by exact YC (by kernel_rfl))(hi:X.N[i]? = some x:=by rfl)(a:Loc X.env.scope x:=by exact lc)(c:X.fn x=true\/X.env.scope.names.lookup x=some .local:=by first|exact .inl rfl|exact .inr rfl|assumption):MG X (.Name x pos) (gN i):=D2 b hi a c
theorem dX {b tg a:Expr}{c:List Expr}{f:IF}{g:GF}{cs:List TF}{e:EF}(own:List Str)(hi:MI X tg a f)
  (d:∀{cl C s H ex},MG (cxC X (own++[]) scope cl C s H ex) tg g/\MTs (cxC X (own++[]) scope cl C s H ex) c cs/\ME (cxC X (own++[]) scope cl C s H ex) b e)
  (i:X.calm=true:=by rfl) (S:ei X scope own [] []:=by exact ei.a fF.nil) (h:∀x,foldedSetIterable a X.env x=pure x:=by intro _;rfl):MF X (.ListComp b [⟨tg,a,c,0⟩] scope pos) (cB own.length [] f g cs e):=yZ i S hi (λ_ _ _ _ _=>d) h
end
section
variable {P:T3} {w:T4} {K:ZW} {mg:Str->Option T0} {base:Heap}
structure OkD (P:T3) (w:T4) (K:ZW) (mg:Str->Option T0) (base:Heap) (x:Str) (st:Stmt) (k:Nat) (ps:List Str) (F:Fn) (np:Nat):Prop where
 ok:∀{f fd},Fun K x x st f fd->cM P w K mg base CX0 k f fd ps (spF K F np)
theorem okd {x:Str}{st:Stmt}{ps:List Str}{k d n:Nat}{b:SF}(N:List Str)
  (c:∀{f:Addr} {a:T0} {A:T2} {outer:List Env} {s:T1} {H:Hp} {E:XK},du k (A.deeper (envOfC x (aI st) s.heap.objs.size f a))->(A.deeper (envOfC x (aI st) s.heap.objs.size f a)).units + 24 < cLine->MSs (kQ CX0 P w K mg base N x (aI st) f a A outer s H E).nox (bT st) b) (hp:ps.length=d:=by rfl) (g:N.length=n:=by rfl) (S:ce N ps (aI st):=by exact fsc):OkD P w K mg base x st (k + 1) ps (bQ d n b) d:=by
 subst hp g;exact⟨λF=>E9 F S λa A outer s H E e=>c e (vN e)⟩
end
end Fm
namespace Fm
end Fm
namespace Fm
open PySem PySem.Spec L2 PySem.W PyProof.Rows
section
variable {prog:T3} {w:T4} {A:T2} {E:T0->T1->Prop} {s:T1}
end
section
variable {X:Cx} {pos p:Pos}
end
section
variable {X:Cx} {pos p:Pos}
end
section
variable {prog:T3} {w:T4} {A:T2} {E:T0->T1->Prop} {s:T1} {κ : Type} [DecidableEq κ] {knd:KeyKind prog w κ}
end
section
variable {prog:T3} {w:T4} {A:T2} {E:T0->T1->Prop} {s:T1}
end
section
variable {X:Cx} {pos p:Pos}
end
end Fm
namespace Fm
def zk (s:String):List Nat:=s.toList.map Char.toNat
def kH (a:EF):EF:=λσ h=>(a σ h).bind λx h=>match x with
 | .int i=>if i.natAbs.log2 < 1920 then .ok (.str (zk (toString i))) h else .bad
 | _=>.bad
def Am (l:List Nat):Bool := !l.isEmpty && l.all λc=>decide (48<=c/\c<=57)
def lh (l:List Nat):Nat:=l.foldl (λacc c=>acc * 10 + (c - 48)) 0
def pf:List Nat->Option Int
 | []=>none
 | c :: r=>if c=45 then (if Am r=true then some (-(lh r:Int)) else none) else if Am (c :: r)=true then some (lh (c :: r):Int) else none
def rT (a:EF):EF:=λσ h=>(a σ h).bind λx h=>match x with
 | .str l=>if l.length<=600 then (match pf l with|some n=>.ok (.int n) h|none=>.bad) else .bad
 | _=>.bad
abbrev Tab:=List (List Nat × Option Int)
def Ea:Option Int->D
 | some i=>.int i
 | none=>.non
def fU (T:Tab) (l:List Nat):Option (Option Int):=T.lookup l
def nY (T:Tab) (a:EF):EF:=λσ h=>(a σ h).bind λx h=>match x with
 | .str l=>.ok (.bl (fU T l).isNone) h
 | _=>.bad
def ph (T:Tab) (a:EF):EF:=λσ h=>(a σ h).bind λx h=>match x with
 | .str l=>(match fU T l with|some d=>.ok (Ea d) h|none=>.bad)
 | _=>.bad
def ft:O2:=λx y h=>match x,y with
 | .str a,.str b=>if a.length + b.length<=1000000 then .ok (.str (a++b)) h else .bad
 | _,_=>.bad
def IB:O2:=λx y h=>match x,y with
 | .str a,.int i=>if a.length<=1000000 then (match ixN a.length i with|some j=>(match a[j]? with|some c=>.ok (.str [c]) h|none=>.bad)|none=>.bad) else .bad
 | _,_=>.bad
def pk (a b:EF):EF:=ao IB a b
def nz (a:EF):EF:=λσ h=>(a σ h).bind λx h=>match x with
 | .str l=>if l.length<=1000000 then .ok (.int l.length) h else .bad
 | _=>.bad
def An:O2:=λx y h=>match x,y with
 | .str [c],.str l=>.ok (.bl (decide (c∈l))) h
 | _,_=>.bad
def zl:O2:=λx y h=>match x,y with
 | .str [c],.str l=>.ok (.bl (!decide (c∈l))) h
 | _,_=>.bad
def xR (l:List Nat):Option Int->Option Int->Option (List Nat)
 | none,some j=>if 0<=j/\j<=l.length then some (l.take j.toNat) else none
 | some i,none=>if 0<=i/\i<=l.length then some (l.drop i.toNat) else none
 | _,_=>none
def nZ (a:EF) (lo hi:OF):EF:=λσ h=>(a σ h).bind λx h=>(lo σ h).bind λi h=>(hi σ h).bind λj h=>match x with
 | .str l=>if l.length<=1000000 then (match xR l i j with|some y=>.ok (.str y) h|none=>.bad) else .bad
 | _=>.bad
def tZ (a:EF):IF:=λσ h=>(a σ h).bind λx h=>match x with
 | .str l=>if l.length<=1000000/\l.all (· < 128)=true then .ok (l.map λc=>D.str [c],none) h else .bad
 | _=>.bad
@[simp] def iY (t:TF) (a b:SF):SF:=λσ h=>match t σ h with | .ok c h'=>if c then a σ h' else b σ h'|_=>.bad
@[simp] def li (it:IF) (tg:GF) (b:SF):SF:=λσ h=>match it σ h with
 | .ok (l,g) h=>cJ g l tg b l σ h
 | _=>.bad
def noX {α : Type}:Res α->Res α
 | .exc _ _=>.bad
 | r=>r
def fPl {α : Type} (f:Sd->Hd->Res α):Sd->Hd->Res α := λσ h=>noX (f σ h)
def sPl (f:SF):SF:=λσ h=>match f σ h with | .exc _ _ _=>.bad|o=>o
def kl:List D->Option (List (List Nat))
 | []=>some []
 | .str x :: r=>(kl r).map (x :: ·)
 | _=>none
end Fm
namespace Fm
open PySem PySem.Spec L2 PyProof.Rows
section
variable {X:Cx} {pos p:Pos}
theorem vU {K:ZW}{ρ:List Addr}{H:Hp}:∀{l:List D} {vs:List V} {ss:List (List Nat)},RDs K ρ H l vs->kl l=some ss->vs=ss.map λx=>V.str (toS x)
 | [],_,is,r,e=>by simp only[kl]at e;cases e;simp only[RDs]at r;subst r;rfl
 | d :: l,_,is,r,e=>by
  simp only[RDs]at r;obtain⟨v,vs,rfl,h1,a⟩:=r;cases d<;>simp only[kl]at e<;>try (cases e;done)
  rename_i i
  cases c:kl l with
  | none=>rw[c]at e;cases e
  | some b =>
   rw[c]at e;cases e;simp only[RD]at h1;rw[h1,vU a c];rfl
theorem pr:∀{ss:List (List Nat)} {us:List T0},aY (ss.map λx=>V.str (toS x)) us->StrsAre us (ss.map toS)
 | [],_,.nil=>.nil
 | x :: ss,_,.cons r t=>by obtain⟨k,rfl⟩:=r;exact .cons _ _ (pr t)
theorem t8 (a b:List Nat):(toS a++toS b:Str)=toS (a++b):=by
 show (⟨a.toArray++b.toArray⟩ : Str)=⟨(a++b).toArray⟩;rw[List.append_toArray]
end
end Fm
namespace L2
open PySem PySem.Spec PyProof.Rows
def Its (x:Str):It:=⟨λi _=>i < x.cps.size,λi H v H'=>H'=H/\∃c,x.cps[i]? = some c/\v=.str ⟨#[c]⟩,λi _=>x.cps.size<=i⟩
theorem Ci {P:T3} {w:T4} {K:ZW} {tg:Expr} (g:Addr) (x:Str) (t:Tok):zT P w K tg (Its x) [g] g (λi h=>h.IsStrIter g "str_ascii_iterator" x t i) where
 mem:=by simp
 obj:=λi h a b f=>by
  have e:b=g:=by simpa using f
  subst e;obtain⟨o,e,c,d⟩:=a;exact⟨o,e,λv z=>by rw[d]at z;cases z⟩
 keep:=λi h A a k=>let ⟨o,N,r⟩:=a;⟨o,k g (by simp) o N,r⟩
 item:=by
  intro X q C y F i pins s σ H E I m a j;subst q C y;obtain⟨u,n,L,B,p,D⟩:=m g (by simp);have j:i < x.cps.size:=j;have G:x.cps[i]? = some x.cps[i]:=Array.getElem?_eq_getElem j;refine wpAny_pyNext_ascii_item a G λA l J => ?_;have M:Inv X pins σ H { s with heap:=A,toks:=s.toks + 1 }:=I.turned (λb o f e=>(J.2 b f).trans e) u n B p D;obtain⟨o,e,c,d⟩:=id l;exact⟨_,rfl,yP e c d (by decide) ⟨.str ⟨#[x.cps[i]]⟩,H,M,⟨_,rfl⟩,⟨rfl,_,G,rfl⟩,l,λb f=>(m b f).1⟩⟩
 done:=by
  intro X q C y F i pins s σ H E I m a j;subst q C y;obtain⟨u,n,L,B,p,D⟩:=m g (by simp);have j:x.cps.size<=i:=j;exact wpAny_pyNext_ascii_end (I.ok.hd F) a (Array.getElem?_eq_none j) λA O=>⟨rfl,I.turned (λb o f e=>O b o f e) u n B p D⟩
 self:=λ_ _ _ _ _ a h=>wpAny_pyIter_striter_ascii a h
section
variable {X:Cx} {tg:Expr}
theorem Gw {l:Expr}{f:TE}(i:PE X l f):PI X tg l (λσ H R=>f σ H λv d=>∃x:Str,v=.str x/\x.cps.all (· < 128)=true/\R (Its x) d):=by
 intro pins s σ H R I h;refine thn (i pins s σ H _ I h) λv a ⟨y,d,c,m,g⟩ => ?_;obtain⟨x,e,k,q⟩:=g;subst e;obtain⟨t,rfl⟩:=m;refine wpAny_pyIter_ascii k ?_;refine⟨a.heap.objs.size,[a.heap.objs.size],_,_,d,rfl,c.kept λb o e=>ZG _ e,Ci _ x t,⟨_,ZI _ rfl,rfl,rfl⟩,λb j => ?_,q⟩;have e:b=a.heap.objs.size:=by simpa using j
 subst e;exact c.fpOk (ZK _) (c.hok.fresh (ZK _))
end
end L2
namespace Fm
open PySem PySem.Spec L2 PySem.W PyProof.Rows
section
variable {X:Cx} {pos p:Pos} {tg:Expr}
theorem xS:(1000000:Nat)<=sizeLine:=by rw[YM];decide
theorem Cj {K:ZW}{ρ:List Addr}{H:Hp}(l:List Nat)(m:l.length<=1000000):qA K ρ H (Its (toS l)) (l.map λc=>D.str [c]) none where
 go:=λρ' h hd' i d j g _ b=>by
  have a:i < l.length:=by
   have:=(yE.mp b).1;simpa using this
  refine⟨by show i < (l.toArray).size;rw[v7];exact a,λx k y => ?_⟩;obtain⟨rfl,c,f,rfl⟩:=y;have f:l[i]? = some c:=by
   have:l.toArray[i]? = some c:=f;simpa using this
  have e:d=.str [c]:=by
   rw[ZP,f]at b;exact(ZS b).symm
  subst e;exact⟨gn.refl _,by simp only[RD];rfl⟩
 stop:=λρ' h hd' j g _=>by
  show (l.toArray).size<=_;simp
 sz:=by
  have:=xS;simp;omega
theorem Ck {e:Expr}{f:EF}(h:ME X e f):MI X tg e (tZ f):=by
 refine PI.imp (Gw h) λσ H R ⟨ρ,σd,j,k,p⟩=>⟨ρ,σd,j,k,?_⟩;unfold tZ at p;cases e:f σd j with
 | exc x o=>rw[e]at p;exact p
 | bad=>rw[e]at p;exact p
 | ok d n =>
  rw[e]at p;simp only[az]at p;intro v m c b a g;cases d<;>try exact p.elim
  rename_i l
  simp only at p;simp only[rD,RD]at g;split at p
  ·rename_i i
   exact⟨toS l,g,by show (l.toArray).all (· < 128)=true;rw[List.all_toArray];exact i.2,p _ m c b a (Cj l i.1)⟩
  ·exact p.elim
def IC:R2:=λx y H Q=>∃i j:Str,x=.str i/\y=.str j/\i.length + j.length<=sizeLine/\Q (.str (i++j)) H
theorem d7 (a:List Nat):(toS a).length=a.length:=by
 show a.toArray.size=_;rw[v7]
theorem Eb {K:ZW}:Og K ft IC:=by
 intro ρ H σd i σ d k v w Q g f e c;cases d<;>try exact c.elim
 cases k<;>try exact c.elim
 rename_i a b
 simp only[RD]at f e;simp only[ft]at c;split at c
 ·rename_i h
  refine⟨toS a,toS b,f,e,by rw[d7,d7];exact ZL h xS,?_⟩;rw[t8];exact c.here g (by simp only[rD,RD])
 ·exact c.elim
theorem gc {a b:Expr}{d c:EF}(f:ME X a d)(e:ME X b c):ME X (.BinOp a .Add b pos) (ao ft d c):=bf xy Eb f e
theorem xT {a b:Expr}{o q:EF}(t:ME X a o)(h:ME X b q)(r:nT b):ME X (.Subscript a b pos) (pk o q):=by
 refine me2 (a:=a) (b:=b) (Bz BA t h r) λρ H σd x σ d k v w Q s n g f => ?_;cases d<;>try exact f.elim
 cases k<;>try exact f.elim
 rename_i l i
 simp only[RD]at n g;simp only[IB]at f;split at f
 ·rename_i h
  cases e:ixN l.length i with
  | none=>rw[e]at f;exact f.elim
  | some j =>
   rw[e]at f;simp only at f;cases m:l[j]? with
   | none=>rw[m]at f;exact f.elim
   | some c =>
    rw[m]at f;refine⟨toS l,i,c,n,g,by rw[d7];exact ZL h xS,?_,f.here s (by simp only[rD,RD];rfl)⟩;have u:L2.ixN (toS l).cps.toList.length i=some j:=by
     have:(toS l).cps.toList=l:=rfl;rw[this];exact e
    show (L2.ixN (toS l).cps.toList.length i).bind _=_;rw[u];exact m
 ·exact f.elim
theorem ua {a:Expr} {f:EF} (j:Gl X "len") (k:X.mg "len" = none) (i:ME X a f) (e:starEach [a] X.env=(false,eval a X.env) :: starEach [] X.env:=by rfl):ME X (.Call (.Name "len" p) [a] [] pos) (nz f):=by
 refine BK (BI tm j k PySem.boot_len (he:=e)) i (λρ H σd m σ d v Q g c b => ?_) e;cases d<;>try exact b.elim
 rename_i l
 simp only[RD]at c;simp only at b;split at b
 ·rename_i h
  refine⟨toS l,by rw[c],by rw[d7];exact ZL h xS,?_⟩;rw[d7];exact b.here g (by simp only[rD,RD])
 ·exact b.elim
theorem Cm (l:List Nat)(c:Nat):(!(Builtin.Str.occurrences (toS l) (toS [c]) 0 (toS l).length 1).isEmpty)=decide (c∈l):=StrLaws.found_one (toS l) c
theorem Gx {K:ZW}:Og K An (λx y H Q=>∃i j:Str,x=.str i/\y=.str j/\Q (.bl (!(Builtin.Str.occurrences j i 0 j.length 1).isEmpty)) H):=by
 intro ρ H σd m σ d k v w Q g f e b;cases d<;>try exact b.elim
 rename_i a
 rcases a with _|⟨c,_|⟨h,r⟩⟩
 ·exact b.elim
 ·cases k<;>try exact b.elim
  rename_i l
  simp only[RD]at f e;refine⟨toS [c],toS l,f,e,?_⟩;rw[Cm];exact b.here g (by simp only[rD,RD])
 ·exact b.elim
theorem Ao {K:ZW}:Og K zl (λx y H Q=>∃i j:Str,x=.str i/\y=.str j/\Q (.bl (!(!(Builtin.Str.occurrences j i 0 j.length 1).isEmpty))) H):=by
 intro ρ H σd m σ d k v w Q g f e b;cases d<;>try exact b.elim
 rename_i a
 rcases a with _|⟨c,_|⟨h,r⟩⟩
 ·exact b.elim
 ·cases k<;>try exact b.elim
  rename_i l
  simp only[RD]at f e;refine⟨toS [c],toS l,f,e,?_⟩;rw[Cm];exact b.here g (by simp only[rD,RD])
 ·exact b.elim
theorem Gy {a b:Expr}{d c:EF}(f:ME X a d)(e:ME X b c)(g:behindInMarks .In b=false):ME X (.Compare a [.In] [b] pos) (ao An d c):=gs zY Gx f e g
end
end Fm
namespace L2
open PySem PySem.Spec PyProof.Rows PySem.W PySem.Builtin PySem.Builtin.ObjectAttr PySem.Builtin.Getset_descriptor
structure ub (K:ZW) (D:Addr):Prop where
 ga:PySem.W.findIn K (.ref D) "__getattribute__" = some (some (.builtin "BaseException.__getattribute__"))
 gt:PySem.W.findIn K (.ref D) "__getattr__" = some none
 cl:PySem.W.findIn K (.ref D) "__class__" = some (some (.builtin "object.__class__"))
 be:PySem.W.subIn K (.ref D) (.type "BaseException")=some true
 ob:PySem.W.mroIn K D (.type "object")=some true
 is:(PySem.W.clsIn K D).isSome=true
section
variable {prog:T3} {w:T4} {A:T2} {E:T0->T1->Prop} {K:ZW} {D:Addr} {h:Heap} {g:Array GenState} {d:Drawn} {t:Nat} {os:OsState} {a:Addr} {o:Obj} {vs:Array T0}
theorem jt.type {M:Model}(I:jt h a D o):PySem.W.Looks M h (typeOf (.ref a)) (.ref D):=I.cls ▸ (PySem.W.Looks.ld I.at_).andThen .now
theorem Gz {R:Result->T1->Prop} {f:T0} (X:K.In h) (I:jt h a D o) (k:PySem.W.mroIn K D (.type "object")=some true) (e:R (.ok (.ret (.ref D))) ⟨h,g,d,t,os⟩) :
  codeAny (model prog w) A (.call (.builtin "getset_descriptor.__get__") ⟨[.builtin "object.__class__",.ref a,f],[]⟩) R ⟨h,g,d,t,os⟩:=by
 have b:(⟨h,g,d,t,os⟩ : T1).TypeIs (.builtin "object.__class__") "getset_descriptor" := F.typeOf_object_class;have c:=I.type (M:=model prog w);have j:=PySem.W.looks_mroIn (M:=model prog w) X k;refine WZ F.slot_gs_get.plain F.entry_gs_get (F.slot_gs_get.check _ _ _ _ _ _ _ _ b (F.args_gs_get _ _ _) ?_);unfold Builtin.«getset_descriptor.__get__» descrGet;rw[PySem.W.dga_obj];refine yC (wW ?_);unfold descrGetter descrCheckInstance descrNameAndClass isInstance;simp only[KF.owner_class]
 repeat (first|with_reducible refine c.at ?_|with_reducible refine j.at ?_|lk)
 refine⟨Code.quiet_builtin _ (by decide +kernel),codeAny_builtin F.entry_object_class ?_⟩;unfold Builtin.«object.__class__» shownTypeOf
 repeat (first|with_reducible refine c.at ?_|lk)
 exact e
theorem Cn {tk:Tok}{Q:Fin->T1->Prop}(Z:ub K D)(X:K.In h)(I:jt h a D o)(f:Q (.done (.ret (.ref D))) ⟨h,g,d,t,os⟩) :
  wpAny (model prog w) A (Builtin.«object.__getattribute__» ⟨[.ref a,.str "__class__" tk],[]⟩) Q E ⟨h,g,d,t,os⟩:=by
 have c:=I.type (M:=model prog w);have e:=XA (M:=model prog w) X Z.cl;have b:(⟨h,g,d,t,os⟩ : T1).TypeIs (.builtin "object.__class__") "getset_descriptor" := F.typeOf_object_class;have j:=F.typeOf_object_class;have k:=F.slot_gs_get.lookup;have i:=F.slot_gs_set.lookup
 repeat (any_goals (first|assumption|with_reducible refine c.at ?_|with_reducible refine e.at ?_|wp_step))
 refine Gz X I Z.ob ?_
 repeat (any_goals (first|assumption|wp_step))
theorem vV {M:Model}{b:T0}{Q:Unit->T1->Prop}(Z:ub K D)(X:K.In h)(I:jt h a D o)(f:Q () ⟨h,g,d,t,os⟩) :
  wpAny M A (checkBuiltinCall "BaseException.__getattribute__" ⟨[.ref a,b],[]⟩) Q E ⟨h,g,d,t,os⟩:=by
 have j:builtinKind "BaseException.__getattribute__" = some .slot:=by decide +kernel
 have c:splitId "BaseException.__getattribute__" = some ("BaseException", "__getattribute__"):=by decide +kernel
 have k:=F.args_bexc_ga (.ref a) b;have e:=I.type (M:=M);have i:=PySem.W.looks_subIn (M:=M) X Z.be;simp only[checkBuiltinCall,j,c];refine yC ?_;unfold isInstance
 repeat (first|with_reducible refine e.at ?_|with_reducible refine i.at ?_|wp_step)
 exact f
theorem Ec {tk:Tok}{R:Result->T1->Prop}(Z:ub K D)(X:K.In h)(I:jt h a D o)(b:R (.ok (.ret (.ref D))) ⟨h,g,d,t,os⟩) :
  codeAny (model prog w) A (.call (.builtin "BaseException.__getattribute__") ⟨[.ref a,.str "__class__" tk],[]⟩) R ⟨h,g,d,t,os⟩ :=
 WZ F.attr_ValueError.ga.plain F.entry_bexc_ga (vV Z X I (Cn Z X I b))
theorem ID {tk:Tok}{c b:Bool}{Q:T0->T1->Prop}(Z:ub K D)(X:K.In h)(I:jt h a D o)(l:Q (.ref D) ⟨h,g,d,t,os⟩) :
  wpAny (model prog w) A (getAttrBy (.ref a) (.str "__class__" tk) c b) Q E ⟨h,g,d,t,os⟩:=by
 have m:=F.attr_ValueError.ga.bind (.ref a);have k:(b && onTheHeap (Value.builtin "BaseException.__getattribute__"))=false:=by cases b<;>rfl
 have e:(Value.builtin "BaseException.__getattribute__" == Value.builtin "object.__getattribute__")=false:=by decide +kernel
 have j:(onTheHeap (Value.ref D) && Value.builtin "BaseException.__getattribute__" == Value.builtin "object.__getattribute__")=false:=by rw[e];rfl
 have f:=I.type (M:=model prog w);have i:=XA (M:=model prog w) X Z.ga;have L2:=XA (M:=model prog w) X Z.gt
 repeat (any_goals (first|assumption|with_reducible refine f.at ?_|with_reducible refine i.at ?_|with_reducible refine L2.at ?_|wp_step))
 refine Ec Z X I ?_
 repeat (any_goals (first|assumption|wp_step))
theorem Ed {Q:Option T0->T1->Prop}(Z:ub K D)(X:K.In h)(I:jt h a D o)(b:Q (some (.ref D)) ⟨h,g,d,t + 1,os⟩) :
  wpAny (model prog w) A (getAttr? (.ref a) "__class__") Q E ⟨h,g,d,t,os⟩:=by
 unfold getAttr? getAttrBy?
 repeat (any_goals (first|assumption|with_reducible apply ID Z X I|wp_step))
theorem Co (Z:ub K D):PySem.W.KitX K (.ref a) (.ref D) (λh=>∃o,jt h a D o) where
 ty:=λ_ _ _ ⟨o,I⟩=>I.type
 it:=λ_ _ X _=>by
  obtain⟨m,b⟩:=YB.mp Z.is;unfold PySem.W.clsIn at b;split at b
  ·rename_i p j cd' sl' f
   intro x u B y k q;unfold isType loadHead;exact yC (wpAny_loadPart (k _ _ (X _ _ f)) (wW q))
  ·cases b
 ne:=λh l r i n v X c=>by
  obtain⟨m,b⟩:=YB.mp Z.is;refine Bool.eq_false_iff.mpr λq => ?_;have e:D=l:=Value.ref.inj (beq_iff_eq.mp q);subst e;unfold PySem.W.clsIn at b;split at b
  ·rename_i p j cd' sl' f
   have z:=(X _ _ f).symm.trans c;cases z
  ·cases b
 ca:=λ{_ _ _ _ _ s} X ⟨o,I⟩ k=>by obtain⟨h,g,d,t,os⟩:=s;exact Ed Z X I k
theorem Cp {M:Model} {B:Addr} {Q:Bool->T1->Prop} (X:K.In h) (I:jt h a D o) (l:PySem.W.subIn K (.ref D) (.ref B)=some true) (m:PySem.W.subIn K (.ref B) (.type "BaseException")=some true)
  (p:(PySem.W.clsIn K B).isSome=true) (i:PySem.W.typeIn K (.ref B)=some (.type "type")) (j:Q true ⟨h,g,d,t,os⟩):wpAny M A (excMatches (.ref a) (.ref B)) Q E ⟨h,g,d,t,os⟩:=by
 have e:=I.type (M:=M);have q:=PySem.W.looks_subIn (M:=M) X l;have L2:=PySem.W.looks_subIn (M:=M) X m;have n:=PySem.W.looks_typeIn (M:=M) X i;have f:=tc_notTuple;obtain⟨r,b⟩:=YB.mp p;unfold PySem.W.clsIn at b;split at b
 ·rename_i u s cd' sl' c
  have k:=X _ _ c;unfold excMatches
  repeat (first|with_reducible refine e.at ?_|with_reducible refine q.at ?_|with_reducible refine L2.at ?_|with_reducible refine n.at ?_|with_reducible refine XT k ?_|wp_step)
  exact j
 ·cases b
end
end L2
namespace L2
open PySem PySem.Spec PyProof.Rows
section
variable {P:T3} {w:T4} {H:Hp} {h:Heap} {a:Addr} {o:HO}
theorem dk.obj (x:dk P w H h a o):∃ob,h.get? a=some ob:=by
 induction o with
 | lst b=>obtain⟨_,_,_,_,e⟩:=x;exact⟨_,e⟩
 | tup b=>obtain⟨_,_,_,ob,e,_⟩:=x;exact⟨_,e⟩
 | dK kvs=>obtain⟨_,_,_,_,o,_,_,e,_⟩:=x;exact⟨_,e⟩
 | dT kvs=>obtain⟨_,_,_,_,o,_,_,e,_⟩:=x;exact⟨_,e⟩
 | set S n=>obtain⟨o,_,_,_,e,_⟩:=x;exact⟨_,e⟩
 | ins C g c=>obtain⟨_,_,_,e,_⟩:=x;exact⟨_,e⟩
 | own y=>obtain⟨_,e⟩:=x;exact⟨_,e⟩
 | xd c=>obtain⟨_,⟨ob,_,_,e,_⟩,_⟩:=x;exact⟨_,e⟩
 | rng j i=>obtain⟨_,_,_,e⟩:=x;exact⟨_,e⟩
 | frz ob u k=>obtain⟨e,_⟩:=x;exact⟨_,e⟩
 | tbl d=>exact⟨_,x⟩
 | met f y=>exact⟨_,x⟩
 | ext φ => obtain⟨_,⟨ob,e⟩,_⟩:=x;exact⟨_,e⟩
end
structure Cov (X:Cx) (pins:List (Addr × Obj)) (H:Hp) (B:Heap):Prop where
 trk:∀b u,H b=some u->∃o,B.get? b=some o
 old:∀b o,X.s₀.heap.get? b=some o->b∉frs X.stack->b∉X.ex->∃o,B.get? b=some o
 pin:∀p∈X.pn++pins,∃o,B.get? p.1=some o
section
variable {X:Cx} {pins:List (Addr × Obj)} {σ:St} {H:Hp} {s:T1} {B h':Heap}
theorem Inv.flown (I:Inv X pins σ H s)(N:B.StaysIn s.heap)(Q:B.StaysIn h')(E:s.heap.UpToSlots h')(c:Cov X pins H B)(t':Nat):Inv X pins σ H { s with heap:=h',toks:=t' }:=by
 have a:∀b o,(∃u,B.get? b=some u)->s.heap.get? b=some o->h'.get? b=some o:=λb o ⟨u,e⟩ q=>by
  have:=N b u e;rw[q]at this;cases this;exact Q b _ e
 have w:∀b o,X.s₀.heap.get? b=some o->b∉X.fs->b∉frs X.stack:=λb o e f T=>by
  rcases wU.mp (I.stkSub b T) with z|z
  ·exact absurd z (ZM (ZY (ZH e) I.ok.above))
  ·exact f z
 have t:∀b o,b∈X.fs->s.heap.get? b=some o->∃C,h'.get? b=some { o with slots:=C }:=λb o f e=>by
  obtain⟨_,D,A,F⟩:=I.funs.mem f;rw[e]at A;cases A;exact E b o e F
 have g:∀c v,s.heap.IsCell c v->h'.IsCell c v:=λc v ⟨o,R,J⟩=>by
  obtain⟨C,q⟩:=E c o R (λU z=>by rw[J]at z;cases z);exact⟨_,q,J⟩
 refine⟨I.ok,I.os,I.bare,⟨λb o e n f h => ?_,λb o e n f h => ?_,I.base.free,λb o e h => ?_,I.base.tups,I.base.frzs,I.base.tbls⟩,?_,λx c e => ?_,I.free,I.freeC,λp K => ?_,λb u e => ?_,I.len⟩
 ·exact a b o (c.old b o e (w b o e f) h) (I.base.keep b o e n f h)
 ·obtain⟨C,j⟩:=I.base.slot b o e n f h
  obtain⟨G,y⟩:=t b _ f j;exact⟨G,y⟩
 ·obtain⟨D,j⟩:=I.base.there b o e h
  by_cases f:b∈X.fs
  ·obtain⟨C,y⟩:=t b D f j;exact⟨_,y⟩
  ·exact⟨D,a b D (c.old b o e (w b o e f) h) j⟩
 ·obtain⟨m,O,S⟩:=I.loc
  refine⟨m,E.ns O,λi x v j y M => ?_⟩;obtain⟨u,r,l⟩:=S i x v j y M;refine⟨u,r,?_⟩;rcases l with l|⟨k,c,e,z⟩
  ·exact .inl l
  ·exact .inr ⟨k,c,e,g c _ z⟩
 ·obtain⟨v,z⟩:=I.cell x c e
  exact⟨v,g c v z⟩
 ·obtain⟨e,n,ne,F,d⟩:=I.pin p K
  exact⟨a _ _ (c.pin p K) e,n,ne,F,d⟩
 ·refine(I.hok b u e).stay (λL v P q=>a L v ?_ q) (λ_ q=>q) λ_ _ q=>q
  rcases P with z|z
  ·rw[z];exact c.trk b u e
  ·exact c.trk L _ z
def XF (X:Cx) (E:Addr->Hp->Prop) (e:T0) (s':T1):Prop:=∃pins σ H a C B t,e=.ref a/\Inv X pins σ H s'/\Heap.FlyingW B X.stack a (.ref C) (.ref t) s'.heap/\Cov X pins H B/\E C H
def XAt (X:Cx) (pins:List (Addr × Obj)) (σ:St) (H:Hp) (a C:Addr) (s':T1):Prop :=
 (∃s1 h' vs,Inv X pins σ H s1/\Heap.MadeExcOf s1.heap h' a (.ref C) vs/\s' = { s1 with heap:=h' })\/
 (∃B t,Inv X pins σ H s'/\Heap.FlyingW B X.stack a (.ref C) (.ref t) s'.heap/\Cov X pins H B)
def XP (X:Cx) (E:Addr->Hp->Prop) (e:T0) (s':T1):Prop:=∃pins σ H a C,e=.ref a/\XAt X pins σ H a C s'/\E C H
def CX1 (P:T3) (w:T4):CXT:=λouter H s E e s'=>∃a C B t H',e=.ref a/\s'.os=s.os/\AllBare s'.gens/\Un (frs outer) [] H H' s.heap s'.heap/\HOk P w H' s'.heap/\
 Heap.FlyingW B outer a (.ref C) (.ref t) s'.heap/\(∀b u,H' b=some u->∃o,B.get? b=some o)/\(∀b o,s.heap.get? b=some o->b∉frs outer->∃o,B.get? b=some o)/\E (.ref C) none H'
theorem IE {E:XK}{E':Addr->Hp->Prop}{R:T0->T1->Prop}(h:∀C H,E (.ref C) none H->E' C H)(g:∀e d,XF X E' e d->R e d):jw (CX1 X.prog X.w) (X.wish R) E:=by
 rintro pins σ H s e d I ⟨a,C,B,t,f,j,u,bare,k,hok,y,trk,old,q⟩;have c:=I.unwish;have v:Inv X pins σ f d:=c.call' u k hok bare (λb z=>absurd z (by simp));refine g _ _ ⟨pins,σ,f,a,C,B,t,j,v,y,⟨trk,λb o e i w => ?_,λp x => ?_⟩,h C f q⟩
 ·obtain⟨m,r⟩:=c.base.there b o e w
  exact old b m r i
 ·obtain⟨e,n,ne,l,_⟩:=c.pin p x
  exact old p.1 p.2 e λz=>(wU.mp (c.stkSub p.1 z)).elim ne l
end
section
variable {X:Cx} {E:Addr->Hp->Prop} {x:Str} {C:Addr} {bm:List T0} {B newId initId:String} {np cpos pos:Pos} {e₀ : Expr} {rest:List Expr} {ta:TA}
end
section
variable {P:T3} {w:T4} {K:ZW} {mg:Str->Option T0} {base:Heap}
end
section
variable {X:Cx} {pins:List (Addr × Obj)} {σ:St} {H:Hp} {s:T1}
theorem Inv.exc {B:Heap}{a C t:Addr}(I:Inv X pins σ H s)(L:Heap.FlyingW B X.stack a (.ref C) (.ref t) s.heap)(c:Cov X pins H B):Inv X pins σ (upd H a (oP a C)) s:=by
 obtain⟨F,Q,g,w,i,_⟩:=L.first;have D:=L.2.1;have O:H a=none:=by
  cases e:H a with
  | none=>rfl
  | some u=>obtain⟨o,q⟩:=c.trk a u e;rw[D]at q;cases q
 have E:a∉frs X.stack:=λz=>by
  obtain⟨_,o,h,A⟩:=I.stack.mem z;rw[g]at h;cases h;exact A Q i
 have j:∀b o,X.s₀.heap.get? b=some o->b∉X.ex->b≠a:=λb o e r z=>by
  subst z;obtain⟨V,q⟩:=c.old _ o e E r;rw[D]at q;cases q
 have f:∀b u,H b=some u->upd H a (oP a C) b=some u:=λb u e=>by rw[aF (bM e O)];exact e
 refine⟨I.ok,I.os,I.bare,⟨I.base.keep,I.base.slot,λb o e n r => ?_,I.base.there,λb J e=>f b _ (I.base.tups b J e),λb o u e=>f b _ (I.base.frzs b o u e),λb N e => ?_⟩,I.loc,I.cell,?_,λx M e => ?_,λp K => ?_,λb u e => ?_,I.len⟩
 ·rw[aF (j b o e r)];exact I.base.free b o e n r
 ·obtain⟨m,q⟩:=I.base.tbls b N e
  exact⟨m,f b _ q⟩
 ·rw[aF]
  ·exact I.free
  ·intro z
   obtain⟨m,⟨o,U,S,h,l,_⟩,_⟩:=I.loc;rw[z,g]at h;cases h;rw[i]at l;cases l
 ·rw[aF]
  ·exact I.freeC x M e
  ·intro z
   obtain⟨v,o,h,l⟩:=I.cell x M e;rw[z,g]at h;cases h;rw[i]at l;cases l
 ·obtain⟨e,n,ne,A,d⟩:=I.pin p K
  refine⟨e,?_,ne,A,d⟩;rw[aF]
  ·exact n
  ·intro z
   obtain⟨o,q⟩:=c.pin p K;rw[z,D]at q;cases q
 ·by_cases G:b=a
  ·subst G
   rw[aM]at e;cases e;exact⟨⟨F,g,w⟩,⟨F,g⟩,λT R ⟨o,h,P⟩ k=>⟨o,k o h,P⟩⟩
  ·rw[aF G]at e
   exact(I.hok b u e).stay (λ_ _ _ q=>q) (λy q=>f y _ q) λy J q=>f y _ q
theorem Inv.goes {M:Model}{A:T2}{E:T0->T1->Prop}{j:Nat}{n:Str}{pos:Pos}{Q:Unit->T1->Prop}(I:Inv X pins σ H s)(R:X.N.Nodup)(S:X.N[j]? = some n)(T:X.env.kindOf n=some .local)
  (h:∀F,Inv X pins (σ.set j none) H F->Q () F):wpAny M A (do bindName X.env n .none;unbindBehindTheSuite X.env n pos) Q E s:=by
 obtain⟨m,C,B⟩:=id I.loc;have r:(X.env.scope.kind == .class || (X.env.scope.kind == .module && X.env.locals != X.env.globals))=false:=by rw[I.ok.kind];rfl
 obtain⟨Z,_,_,U,_⟩:=id C;refine wpAny_nameGoes_keeps T C r λY v w a => ?_;have old:∀b o,X.s₀.heap.get? b=some o->b≠X.env.locals:=λb o e=>ZM (ZY (ZH e) I.ok.above);refine h _ ⟨I.ok,I.os,I.bare,⟨λb o e n t l=>(a.2 b (old b o e)).trans (I.base.keep b o e n t l),λb o e n t l => ?_,I.base.free,λb o e l => ?_,I.base.tups,I.base.frzs,I.base.tbls⟩,⟨_,w,λi y G f g J => ?_⟩,λy c e => ?_,I.free,I.freeC,λp V => ?_,λb u e => ?_,by simpa using I.len⟩
 ·obtain⟨O,f⟩:=I.base.slot b o e n t l
  exact⟨O,(a.2 b (old b o e)).trans f⟩
 ·obtain⟨P,f⟩:=I.base.there b o e l
  exact⟨P,(a.2 b (old b o e)).trans f⟩
 ·by_cases x:i=j
  ·subst x
   by_cases hlt:i < σ.length
   ·rw[Z1 hlt]at g;cases g
   ·rw[Y5 (by simpa using hlt)]at g;cases g
  ·rw[ZO (YV x)]at g
   obtain⟨N,W,q⟩:=B i y G f g J;refine⟨N,W,?_⟩;rcases q with ⟨k,e⟩|⟨k,c,e,z⟩
   ·refine .inl ⟨k,?_⟩
    have:y≠n:=λe=>x (ot R f (e ▸ S));simp[this,e]
   ·exact .inr ⟨k,c,e,z.sameBut a (I.cne y c e)⟩
 ·obtain⟨D,z⟩:=I.cell y c e
  exact⟨D,z.sameBut a (I.cne y c e)⟩
 ·obtain⟨e,n,ne,L,d⟩:=I.pin p V
  exact⟨(a.2 p.1 ne).trans e,n,ne,L,d⟩
 ·refine(I.hok b u e).stay (λc D K q=>(a.2 c ?_).trans q) (λ_ q=>q) λ_ _ q=>q
  rintro rfl;rcases K with z|z
  ·rw[<-z,I.free]at e;cases e
  ·rw[I.free]at z;cases z
abbrev Cx.sui (X:Cx) (a:Addr):Cx:={ X with A:=X.A.mark (some (.ref a)),calm:=false,xe:=λ_ _=>False }
theorem Inv.marked (I:Inv X pins σ H s)(a:Addr):Inv (X.sui a) pins σ H s :=
 ⟨⟨I.ok.mod,I.ok.kind,I.ok.glob,I.ok.blt,I.ok.above,I.ok.inj,I.ok.has,I.ok.cab,(λz=>by cases z),I.ok.frames,I.ok.stk,I.ok.exf,I.ok.bs,I.ok.bsz,I.ok.noex,I.ok.exfs,I.ok.funs,I.ok.frf⟩,I.os,I.bare,I.base,I.loc,I.cell,I.free,I.freeC,I.pin,I.hok,I.len⟩
theorem Inv.unmark (b:X.calm=true->X.A.handled=none){a:Addr}(I:Inv (X.sui a) pins σ H s):Inv X pins σ H s :=
 ⟨⟨I.ok.mod,I.ok.kind,I.ok.glob,I.ok.blt,I.ok.above,I.ok.inj,I.ok.has,I.ok.cab,b,I.ok.frames,I.ok.stk,I.ok.exf,I.ok.bs,I.ok.bsz,I.ok.noex,I.ok.exfs,I.ok.funs,I.ok.frf⟩,I.os,I.bare,I.base,I.loc,I.cell,I.free,I.freeC,I.pin,I.hok,I.len⟩
abbrev Cx.pin (X:Cx) (q:List (Addr × Obj)):Cx:={ X with pn:=q }
theorem Inv.pinq (I:Inv X pins σ H s):Inv (X.pin (X.pn++pins)) [] σ H s :=
 ⟨⟨I.ok.mod,I.ok.kind,I.ok.glob,I.ok.blt,I.ok.above,I.ok.inj,I.ok.has,I.ok.cab,I.ok.hd,I.ok.frames,I.ok.stk,I.ok.exf,I.ok.bs,I.ok.bsz,I.ok.noex,I.ok.exfs,I.ok.funs,I.ok.frf⟩,I.os,I.bare,I.base,I.loc,I.cell,I.free,I.freeC,λp a=>I.pin p (by simpa using a),I.hok,I.len⟩
theorem Inv.unpin {pins':List (Addr × Obj)}(I:Inv (X.pin (X.pn++pins)) pins' σ H s):Inv X pins σ H s :=
 ⟨⟨I.ok.mod,I.ok.kind,I.ok.glob,I.ok.blt,I.ok.above,I.ok.inj,I.ok.has,I.ok.cab,I.ok.hd,I.ok.frames,I.ok.stk,I.ok.exf,I.ok.bs,I.ok.bsz,I.ok.noex,I.ok.exfs,I.ok.funs,I.ok.frf⟩,I.os,I.bare,I.base,I.loc,I.cell,I.free,I.freeC,λp a=>I.pin p (WV _ a),I.hok,I.len⟩
end
section
variable {X:Cx} {body:List Stmt} {x n c:Str} {M:Addr} {i j:Nat} {np cp vp ap hp pos:Pos} {tb:(Addr->Hp->Prop)->TS}
end
end L2
namespace Fm
open PySem PySem.Spec L2 PyProof.Rows
section
variable (K:ZW) (mg:Str->Option T0)
def b5 (ρ:List Addr) (H:Hp) (o:Out) (E:Addr->Hp->Prop) (En:mf):Prop:=match o with
 | .exc x _ hd=>∃c l C,x=.exn c l/\mg (Str.ofString c)=some (.ref C)/\∀H' ρ',Ext ρ H ρ' H'->RH K ρ' H' hd->E C H'
 | .nx σ hd=>bv K ρ H (.nx σ hd) En
 | .rt d hd=>bv K ρ H (.rt d hd) En
 | .bk σ hd=>bv K ρ H (.bk σ hd) En
 | .ct σ hd=>bv K ρ H (.ct σ hd) En
 | .bad=>False
def vW (E:Addr->Hp->Prop) (f:SF):TS:=λEn σ H=>∃ρ σd hd,RS K ρ H σd hd σ/\b5 K mg ρ H (f σd hd) E En
def spX (F:Fn) (np:Nat):Sp:=λvs H _ E=>∃ρ hd ds,RH K ρ H hd/\RDs K ρ H ds vs/\ds.length=np/\
 ∃c l hd' C,F ds hd=.exc (.exn c l) hd'/\mg (Str.ofString c)=some (.ref C)/\∀H' ρ',Ext ρ H ρ' H'->RH K ρ' H' hd'->E (.ref C) none H'
end
section
variable {K:ZW} {mg:Str->Option T0} {ρ ρ':List Addr} {H H':Hp} {E:Addr->Hp->Prop} {En:mf}
theorem b5.ext {o:Out}(e:Ext ρ H ρ' H')(p:b5 K mg ρ H o E En):b5 K mg ρ' H' o E En:=by
 cases o with
 | exc x σ a=>obtain⟨c,l,C,i,g,h⟩:=p;exact⟨c,l,C,i,g,λf b j r=>h f b (e.trans j) r⟩
 | nx σ a=>exact bv.ext (o:=.nx σ a) e p
 | rt d a=>exact bv.ext (o:=.rt d a) e p
 | bk σ a=>exact bv.ext (o:=.bk σ a) e p
 | ct σ a=>exact bv.ext (o:=.ct σ a) e p
 | bad=>exact p
theorem Ext.sm {a:Hp}(e:Ext ρ H ρ' H')(s:gn H' a):Ext ρ H ρ' a:=⟨e.pre,e.new,λq u h n=>s q u (e.frame q u h n)⟩
end
abbrev Wi:=(Addr->Hp->Prop)->T0->T1->Prop
structure JX (P:T3) (w:T4) (K:ZW) (mg:Str->Option T0) (base:Heap) (x:Str) (k np:Nat) (F:Fn):Prop where
 ex:∃f fd ps,mg x=some (.ref f)/\PySem.W.keepIn K (.ref f)=true/\eQ K fd ps []/\cM P w K mg base (CX1 P w) k f fd ps (spX K mg F np)
section
variable {X:Cx} {R:Wi} {pos p:Pos}
end
section
variable {P:T3} {w:T4} {K:ZW} {mg:Str->Option T0} {base:Heap}
end
def Cq:V->T0 | .ref a=>.ref a | .ty n=>.type n|_=>.none
def vX:V->Bool | .ref _=>true | .ty _=>true|_=>false
theorem zm {v:V}{u:T0}(h:vX v=true)(r:bF v u):u=Cq v:=by
 cases v<;>first|exact r|cases h
theorem vY:∀{vs:List V} {us:List T0},vs.all vX=true->aY vs us->us=vs.map Cq
 | [],_,_,.nil=>rfl
 | v :: vs,_,h,.cons r t=>by
  rw[Y6,Z4]at h;rw[ZZ,<-zm h.1 r,<-vY h.2 t]
section
variable {X:Cx} {pos p:Pos}
theorem jH {x:Str} {c:Pos} {a:Addr} {b:List Expr} {vs:List V} (e:Gl X x) (f:X.mg x=some (.ref a)) (h:PA X b λ_ H Q=>Q vs H) (hd:(x == ("__debug__" : Str))=false:=by decide)
  (d:starEach (.Name x c :: b) X.env=(false,eval (.Name x c) X.env) :: starEach b X.env:=by rfl):PA X (.Name x c :: b) λ_ H Q=>Q (.ref a :: vs) H:=bh (j0 (v:=.ref a) e f rfl hd) h d
theorem Ee:PA X [] λ_ H Q=>Q [] H:=cy
end
abbrev IG:List T0:=[.type "ValueError",.type "Exception",.type "BaseException",.type "object"]
end Fm
namespace L2
open PySem PySem.Spec PyProof.Rows
theorem Cr {X:Cx}{E:XK}{E':Addr->Hp->Prop}(h:∀C H,E (.ref C) none H->E' C H)(b:∀e a,XF X E' e a->X.xe e a):jw (CX1 X.prog X.w) X E:=by
 intro pins σ H s e a I q;have:=IE h b pins σ H s e a (I.wish _) q;exact this
end L2
namespace Fm
open PySem PySem.Spec L2 PyProof.Rows
section
variable (K:ZW) (mg:Str->Option T0)
def XC (ρ:List Addr) (H:Hp) (E:Addr->Hp->Prop) (x:D) (hd:Hd):Prop:=∃c l C,x=.exn c l/\mg (Str.ofString c)=some (.ref C)/\∀H' ρ',Ext ρ H ρ' H'->RH K ρ' H' hd->E C H'
def bX {α β : Type} (R:VR α β) (ρ:List Addr) (H:Hp) (σd:Sd) (σ:L2.St) (r:Res α) (E:Addr->Hp->Prop) (Q : β->Hp->Prop):Prop:=match r with
 | .ok a hd'=>∀b H' ρ',Ext ρ H ρ' H'->RS K ρ' H' σd hd' σ->R ρ' H' a b->Q b H'
 | .exc x hd'=>XC K mg ρ H E x hd'
 | .bad=>False
def vZ {α β : Type} (R:VR α β) (E:Addr->Hp->Prop) (f:Sd->Hd->Res α):L2.St->Hp->(β->Hp->Prop)->Prop:=λσ H Q=>∃ρ σd hd,RS K ρ H σd hd σ/\bX K mg R ρ H σd σ (f σd hd) E Q
def spY (F:Fn) (np:Nat):Sp:=λvs H Q E=>∃ρ hd ds,RH K ρ H hd/\RDs K ρ H ds vs/\ds.length=np/\match F ds hd with
 | .ok d hd'=>∀v H' ρ',Ext ρ H ρ' H'->RH K ρ' H' hd'->RD K ρ' H' d v->Q v H'
 | .exc x hd'=>XC K mg ρ H (λC H'=>E (.ref C) none H') x hd'
 | .bad=>False
end
section
variable {K:ZW} {mg:Str->Option T0} {ρ ρ':List Addr} {H H':Hp} {E:Addr->Hp->Prop} {σd:Sd} {σ:L2.St} {hd:Hd} {α β α' β':Type} {R:VR α β} {R':VR α' β'}
theorem XC.ext {x:D}(e:Ext ρ H ρ' H')(p:XC K mg ρ H E x hd):XC K mg ρ' H' E x hd:=by
 obtain⟨c,l,C,g,d,f⟩:=p;exact⟨c,l,C,g,d,λb a h r=>f b a (e.trans h) r⟩
theorem bX.ext {r:Res α}{Q : β->Hp->Prop}(e:Ext ρ H ρ' H')(h:bX K mg R ρ H σd σ r E Q):bX K mg R ρ' H' σd σ r E Q:=by
 cases r with
 | ok a f=>exact λb d c g s q=>h b d c (e.trans g) s q
 | exc x f=>exact XC.ext e h
 | bad=>exact h
theorem bX.imp {r:Res α}{Q c : β->Hp->Prop}(h:bX K mg R ρ H σd σ r E Q)(i:∀b H',Q b H'->c b H'):bX K mg R ρ H σd σ r E c:=by
 cases r with
 | ok a d=>exact λb H' ρ' e s q=>i b H' (h b H' ρ' e s q)
 | exc x d=>exact h
 | bad=>exact h
theorem bX.bind {r:Res α}{k : α->Hd->Res α'}{Q : β'->Hp->Prop}(h:bX K mg R' ρ H σd σ (r.bind k) E Q) :
  bX K mg R ρ H σd σ r E (λb H'=>∃ρ' a hd',Ext ρ H ρ' H'/\RS K ρ' H' σd hd' σ/\R ρ' H' a b/\bX K mg R' ρ' H' σd σ (k a hd') E Q):=by
 cases r with
 | ok a c=>exact λb H' ρ' e s q=>⟨ρ',a,c,e,s,q,bX.ext e h⟩
 | exc x c=>exact h
 | bad=>exact h
theorem b5.outE {r:Res D}{k:D->Hd->Out}{En:mf}(p:b5 K mg ρ H (outE r σd k) E En) :
  bX K mg (rD K) ρ H σd σ r E (λv H'=>∃ρ' d hd',Ext ρ H ρ' H'/\RS K ρ' H' σd hd' σ/\RD K ρ' H' d v/\b5 K mg ρ' H' (k d hd') E En):=by
 cases r with
 | ok d a=>exact λb H' ρ' c e q=>⟨ρ',d,a,c,e,q,b5.ext c p⟩
 | exc x a=>exact p
 | bad=>exact p
theorem bX.of_pl {r:Res α}{Q : β->Hp->Prop}(p:bX K mg R ρ H σd σ (noX r) E Q):bn K R ρ H σd σ r Q:=by
 cases r with
 | ok a b=>exact p
 | exc x b=>exact p
 | bad=>exact p
end
def NE (X:Cx) (E:Addr->Hp->Prop) (e:Expr) (f:EF):Prop:=PE X e (vZ X.K X.mg (rD X.K) E f)
def NA (X:Cx) (E:Addr->Hp->Prop) (es:List Expr) (f:LF):Prop:=PA X es (vZ X.K X.mg (rDs X.K) E f)
def NS (X:Cx) (E:Addr->Hp->Prop) (s:Stmt) (f:SF):Prop:=PS X s (vW X.K X.mg E f)
def NSs (X:Cx) (E:Addr->Hp->Prop) (s:List Stmt) (f:SF):Prop:=PSs X s (vW X.K X.mg E f)
structure DefY (P:T3) (w:T4) (K:ZW) (mg:Str->Option T0) (base:Heap) (x:Str) (k np:Nat) (F:Fn):Prop where
 ex:∃f fd ps,mg x=some (.ref f)/\PySem.W.keepIn K (.ref f)=true/\eQ K fd ps []/\cM P w K mg base (CX1 P w) k f fd ps (spY K mg F np)
section
variable {X:Cx} {E:Addr->Hp->Prop} {pos p:Pos}
theorem ne_of {e:Expr}{f:EF}(h:ME X e f):NE X E e (fPl f):=PE.imp h λσ H Q ⟨ρ,σd,b,a,q⟩=>⟨ρ,σd,b,a,q.of_pl⟩
theorem na_of {a:List Expr}{f:LF}(h:MA X a f):NA X E a (fPl f):=PA.imp h λσ H Q ⟨ρ,σd,c,b,q⟩=>⟨ρ,σd,c,b,q.of_pl⟩
theorem na_cons {e:Expr}{b:List Expr}{f:EF}{r:LF}(he:NE X E e f)(u:NA X E b r)(o:starEach (e :: b) X.env=(false,eval e X.env) :: starEach b X.env:=by rfl):NA X E (e :: b) (ae f r):=by
 refine PA.imp (bh he u o) λσ H Q ⟨ρ,σd,s,q,p⟩ => ?_;refine⟨ρ,σd,s,q,(bX.bind p).imp λv y ⟨i,d,g,z,a,l,n⟩ => ?_⟩;refine⟨i,σd,g,a,(bX.bind n).imp λA k ⟨c,x,m,w,j,h,t⟩ => ?_⟩;exact t _ k c Ext.refl j (RDs.cons (l.mono (a.hp.kp w)) h)
theorem ne_call {x:Str}{k t:Nat}{F:Fn}{e:Expr}{i:List Expr}{r:LF}(hd:DefY X.prog X.w X.K X.mg X.base x k t F)(Z:du k X.A)(M:Gl X x)(B:NA X E (e :: i) r)(R:∀v s,XF X E v s->X.xe v s)
  (hnp:∀g h,F g h ≠ .bad->g.length=t) (o:(x == ("__debug__" : Str))=false:=by decide) (he:starEach (e :: i) X.env=(false,eval e X.env) :: starEach i X.env:=by rfl) (hpl:(backTo pos (starEach i X.env)).any (·.1)=false:=by rfl) :
  NE X E (.Call (.Name x p) (e :: i) [] pos) (au F r):=by
 obtain⟨f,fd,ps,D,w,Y,U⟩:=hd.ex;refine PE.imp (nS (E:=λv _ H=>∃C,v=.ref C/\E C H) U Z M D w Y .nil (Cr (λC H ⟨C',e,q⟩=>by cases e;exact q) R) B o he hpl) λσ H Q ⟨ρ,σd,hd,K,S⟩=>⟨ρ,σd,hd,K,(bX.bind S).imp λvs H1 ⟨n,g,b,e1,j,y,a⟩ => ?_⟩;rw[YL];refine⟨n,b,g,j.hp,y,?_,?_⟩
 ·refine hnp g b λz => ?_
  rw[z]at a;exact a
 ·cases c:F g b with
  | bad=>rw[c]at a;exact a
  | exc z h' =>
   rw[c]at a;obtain⟨V,l,C,O,G,A⟩:=a;exact⟨V,l,C,O,G,λP m L W=>⟨C,rfl,A P m L W⟩⟩
  | ok d I =>
   rw[c]at a;exact λv J ρ' u N T=>a v J ρ' u (j.ext u N) T
theorem mkFn_ne {c n:Nat}{b:SF}:∀a h,bQ c n b a h ≠ .bad->a.length=c:=by
 intro a h e;unfold bQ at e;split at e
 ·assumption
 ·exact absurd rfl e
theorem ns_of {s:Stmt}{f:SF}(h:MS X s f):NS X E s (sPl f):=PS.imp h λEn σ H ⟨ρ,σd,a,b,q⟩=>⟨ρ,σd,a,b,by
 unfold sPl at q;cases e:f σd a<;>rw[e]at q<;>exact q⟩
theorem nss_nil:NSs X E [] bB:=PSs.imp kO λEn σ H ⟨ρ,σd,b,a,p⟩=>p σ H ρ Ext.refl a
theorem nss_one {st:Stmt}{a:SF}(h:NS X E st a):NSs X E [st] a:=fW h
theorem nss_cons {st:Stmt}{rest:List Stmt}{a b:SF}(h1:NS X E st a)(h:NSs X E rest b):NSs X E (st :: rest) (ay a b):=by
 refine PSs.imp (kP h1 h) λEn σ H ⟨ρ,σd,f,i,q⟩=>⟨ρ,σd,f,i,?_⟩;unfold ay at q;cases e:a σd f with
 | nx σ1 h1=>rw[e]at q;exact λg k ρ' j c=>⟨ρ',σ1,h1,c,b5.ext j q⟩
 | rt d h1=>rw[e]at q;exact q
 | bk σ1 h1=>rw[e]at q;exact q
 | ct σ1 h1=>rw[e]at q;exact q
 | exc x σ1 h1=>rw[e]at q;exact q
 | bad=>rw[e]at q;exact q
theorem ns_if {c:Expr}{a b:List Stmt}{t:TF}{h k:SF}(n:MT X c t)(m:NSs X E a h)(f:NSs X E b k):NS X E (.If c a b pos) (iY t h k):=by
 refine PS.imp (vx n m f) λEn σ H ⟨ρ,σd,i,l,q⟩=>⟨ρ,σd,i,l,?_⟩;unfold iY at q;cases e:t σd i with
 | exc x g=>rw[e]at q;exact q
 | bad=>rw[e]at q;exact q
 | ok c g =>
  rw[e]at q;intro b o ρ' j d f;cases f;cases c with
  | true=>rw[yD rfl];exact⟨ρ',σd,g,d,b5.ext j q⟩
  | false=>rw[wR wV];exact⟨ρ',σd,g,d,b5.ext j q⟩
theorem ns_set {i:Nat}{x:Str}{e:Expr}{f:EF}{a:Pos}(k:X.N.Nodup)(hi:X.N[i]? = some x)(r:Loc X.env.scope x)(he:NE X E e f)(l:swapsWith e (some (.Name x a)) pos.line X.env=pure false:=by rfl)
  (m:X.fn x=true\/X.env.scope.names.lookup x=some .local:=by first|exact .inl rfl|exact .inr rfl|assumption):NS X E (.Assign [.Name x a] e pos) (aB (gN i) f):=by
 refine PS.imp (kz k hi r he l m) λEn σ H ⟨ρ,σd,o,n,p⟩=>⟨ρ,σd,o,n,(b5.outE p).imp λv q ⟨c,d,h,s,b,g,j⟩ => ?_⟩;exact j _ q c Ext.refl ⟨b.hp,b.st.set i g⟩
end
end Fm
namespace L2
open PySem PySem.Spec PyProof.Rows
section
variable {X:Cx} {E:Addr->Hp->Prop} {e:T0} {s':T1} {R:T0->T1->Prop}
theorem PS.xe {st:Stmt}{t:TS}(a:∀e s',R e s'->X.xe e s')(h:PS (X.wish R) st t):PS X st t:=λpins s σ H D I b =>
 YY (h pins s σ H D (I.wish _) b) (λ_ _ q=>q.unwish) a
end
end L2
namespace Fm
open PySem PySem.Spec L2 PyProof.Rows
section
variable {X:Cx} {E:Addr->Hp->Prop} {pos p:Pos}
theorem ns_for {tg:Expr}{t:Expr}{A:List Stmt}{f:IF}{g:GF}{b:SF}(hp:PassesOwn (model X.prog X.w) X.A X.env X.xe)(hc:X.calm=true)(hi:MI X tg t f)(hg:MG X tg g)(hb:NSs X E A b)
  (hs:∀x,foldedSetIterable t X.env x=pure x:=by intro _;rfl):NS X E (.For tg t A [] pos) (li f g b):=by
 refine PS.imp (xv hp hc hi hg hb hs) λEn σ H ⟨ρ,σd,V,rs,p⟩=>⟨ρ,σd,V,rs,?_⟩;unfold li at p;cases e:f σd V with
 | exc x h'=>rw[e]at p;exact p
 | bad=>rw[e]at p;exact p
 | ok q S =>
  rw[e]at p;obtain⟨l,gd⟩:=q;intro J W C P R T;simp only at p T;refine⟨λi m F z=>∃ρ' k hd',Ext C W ρ' z/\RS X.K ρ' z k hd' F/\i<=l.length/\m=l.length - i/\b5 X.K X.mg ρ' z (cJ gd l g b (l.drop i) k hd') E En,
   ⟨l.length,C,σd,S,Ext.refl,R,XZ _,by simp,by simpa using b5.ext P p⟩,?_⟩
  rintro i m F z ⟨ρ',k,hd',O,w,a0,rfl,a⟩
  by_cases I:i < l.length
  ·have Q:l[i]? = some l[i]:=by simp[I]
   rw[X7 I]at a;unfold cJ at a
   by_cases D:gq gd l hd'
   ·rw[yD D]at a
    obtain⟨go,yl⟩:=T.go ρ' z hd' i _ O w.hp D Q;refine .inr ⟨go,λB G=>∃s h u,Ext C W s G/\RS X.K s G h u B/\b5 X.K X.mg s G (cJ gd l g b (l.drop (i + 1)) h u) E En,
     λB G ⟨s,h,u,a1,a2,a3⟩=>⟨l.length - (i + 1),by omega,s,h,u,a1,a2,I,rfl,a3⟩,λx G y => ?_⟩
    obtain⟨Y,rx⟩:=yl x G y;cases c:g l[i] k with
    | none=>rw[c]at a;exact a.elim
    | some h =>
     rw[c]at a;simp only at a;refine⟨ρ',k,hd',l[i],h,w.same Y,rx,c,λB U=>⟨ρ',h,hd',U,?_⟩⟩;have n:Ext ρ' z ρ' G:=Ext.same Y;cases L:b h hd' with
     | nx σ3 M=>rw[L]at a;exact λK N r j o=>⟨r,σ3,M,O.trans (n.trans j),o,b5.ext (n.trans j) a⟩
     | ct σ3 M=>rw[L]at a;exact λK N r j o=>⟨r,σ3,M,O.trans (n.trans j),o,b5.ext (n.trans j) a⟩
     | bk σ3 M=>rw[L]at a;exact λK N r j o=>a K N r (n.trans j) o
     | rt d M=>rw[L]at a;exact λv N r j o Z=>a v N r (n.trans j) o Z
     | exc x σ3 M=>rw[L]at a;exact b5.ext n a
     | bad=>rw[L]at a;exact a
   ·rw[wR D]at a;exact a.elim
  ·have e0:i=l.length:=by omega
   subst e0;rw[X1]at a;unfold cJ at a
   by_cases D:gq gd l hd'
   ·rw[yD D]at a
    exact .inl ⟨T.stop ρ' z hd' O w.hp D,a F z ρ' Ext.refl w⟩
   ·rw[wR D]at a;exact a.elim
end
section
variable {P:T3} {w:T4} {K:ZW} {mg:Str->Option T0} {base:Heap}
def jI (K:ZW) (mg:Str->Option T0) (ρ:List Addr) (H:Hp) (r:Res D) (E:XK) (Q:VK):Prop:=match r with
 | .ok d hd'=>∀v H' ρ',Ext ρ H ρ' H'->RH K ρ' H' hd'->RD K ρ' H' d v->Q v H'
 | .exc x hd'=>XC K mg ρ H (λC H'=>E (.ref C) none H') x hd'
 | .bad=>False
theorem jI.letGo {ρ:List Addr}{H:Hp}{hd:Hd}{r:Res D}{E:XK}{Q:VK}(b:RH K ρ H hd)(p:jI K mg ρ H (letGo hd r) E Q):jI K mg ρ H r E Q:=by
 cases r with
 | exc x a=>exact p
 | bad=>exact p
 | ok d a =>
  have q:jF K ρ H (Fm.letGo hd (.ok d a)) Q:=by
   simp only[Fm.letGo]at p ⊢;split at p<;>rename_i c
   ·rw[yD c];exact p
   ·rw[wR c];exact p
  exact jF.letGo b q
theorem fny_mk {x:Str}{st:Stmt}{f:Addr}{u:FuncData}{N ps:List Str}{k:Nat}{b:SF}(F:Fun K x x st f u)(S:ce N ps (aI st))
  (g:∀(c:T0) (A:T2) (outer:List Env) (s:T1) (H:Hp) (E:XK),du k (A.deeper (envOfC x (aI st) s.heap.objs.size f c))->
   NSs (kQ (CX1 P w) P w K mg base N x (aI st) f c A outer s H E) (λC o=>E (.ref C) none o) (bT st) b) :
  cM P w K mg base (CX1 P w) (k + 1) f u ps (spY K mg (bQ ps.length N.length b) ps.length):=by
 obtain⟨M,R,kV,J,O,T,c,z,B,rfl,D,n⟩:=F.ex;refine yR D n S (λL H Q E ⟨ρ,i,h,j,m,q,p⟩=>by rw[<-m.length];exact q) λA outer s H L Q E G ⟨ρ,i,h,j,m,q,p⟩=>⟨_,g c A outer s H E G,ρ,_,i,⟨j,mn m⟩,?_⟩;have l:jI K mg ρ H (bQ ps.length N.length b h i) E Q:=p;unfold bQ at l;rw[yD q]at l;have a:=jI.letGo j l;unfold runB at a;cases e:b (h.map some++List.replicate (N.length - h.length) none) i with
 | nx σ1 t=>rw[e]at a;exact λv o ρ' I r=>a .non o ρ' I r.hp (by simp only[RD])
 | rt d t=>rw[e]at a;exact a
 | bk _ _=>rw[e]at a;exact a.elim
 | ct _ _=>rw[e]at a;exact a.elim
 | bad=>rw[e]at a;exact a.elim
 | exc y σ1 t=>rw[e]at a;exact a
theorem DefY.mk' {x:Str}{f:Addr}{a:FuncData}{ps:List Str}{k b:Nat}{F:Fn}(e:mg x=some (.ref f))(d:PySem.W.keepIn K (.ref f)=true)(c:eQ K a ps [])(h:cM P w K mg base (CX1 P w) k f a ps (spY K mg F b)):DefY P w K mg base x k b F:=⟨f,a,ps,e,d,c,h⟩
end
section
variable {X:Cx} {pos p:Pos}
end
section
variable {X:Cx} {pos p:Pos}
def spM (C:Addr):Sp:=λvs H Q _=>∃a,vs=[.ref a]/\H a=some (oP a C)/\∀H',gn H H'->Q (.bl true) H'
structure JY (P:T3) (w:T4) (K:ZW) (mg:Str->Option T0) (base:Heap) (x:Str) (k:Nat) (C:Addr):Prop where
 ex:∃f fd ps,mg x=some (.ref f)/\PySem.W.keepIn K (.ref f)=true/\eQ K fd ps []/\cM P w K mg base CX0 k f fd ps (spM C)
end
end Fm
namespace L2
open PySem PySem.Spec PyProof.Rows
section
variable {X:Cx} {pos p:Pos} {e:Expr} {es:List Expr}
end
end L2
namespace Fm
open PySem PySem.Spec L2 PySem.W PyProof.Rows
section
variable {X:Cx} {pos p:Pos} {e:Expr} {es:List Expr}
end
end Fm
namespace HT
open PySem PySem.Spec
end HT
namespace L2
open PySem PySem.Spec PyProof.Rows
section
variable {X:Cx}
def JJ:V->Option Int->Option Int->Hp->VK->Prop:=λx lo hi H Q=>∃(z:Str) (y:List Nat),x=.str z/\z.length<=sizeLine/\Fm.xR z.cps.toList lo hi=some y/\Q (.str ⟨y.toArray⟩) H
theorem wa {x:Str}{j:Int}(h:0<=j/\j<=x.cps.toList.length):Txt.slice x none (some j)=⟨(x.cps.toList.take j.toNat).toArray⟩:=by
 have:=eq_of_beq (slice_closes_to h);rw[this];simp
theorem pw {x:Str}{i:Int}(h:0<=i/\i<=x.cps.toList.length):Txt.slice x (some i) none=⟨(x.cps.toList.drop i.toNat).toArray⟩:=by
 have:=eq_of_beq (slice_closes_from h);rw[this];congr 2;exact YT (by rw[Z9];omega)
theorem GA:SlR X JJ:=by
 intro pins s σ H x v w B r C A Q I n m p g h;obtain⟨z,y,rfl,d,a,q⟩:=h;obtain⟨t,rfl⟩:=n;refine⟨"str",_,slot_str_getitem.lookup,VJ _ _ _,?_⟩;cases p with
 | none =>
  cases g with
  | none=>cases a
  | int j f =>
   simp only[Fm.xR]at a;split at a
   ·rename_i b
    cases a;have e:=wa (x:=z) b;exact XU (l:=none) (u:=some (j,f)) (st:=none) m rfl (VG ⟨ZL (Txt.slice_le z _ _) d,λc k=>⟨.str ⟨(z.cps.toList.take j.toNat).toArray⟩,H,I.tok k,⟨c,by rw[<-e];rfl⟩,q⟩⟩)
   ·cases a
 | int i o =>
  cases g with
  | int j f=>cases a
  | none =>
   simp only[Fm.xR]at a;split at a
   ·rename_i b
    cases a;have e:=pw (x:=z) b;exact XU (l:=some (i,o)) (u:=none) (st:=none) m rfl (VG ⟨ZL (Txt.slice_le z _ _) d,λc k=>⟨.str ⟨(z.cps.toList.drop i.toNat).toArray⟩,H,I.tok k,⟨c,by rw[<-e];rfl⟩,q⟩⟩)
   ·cases a
end
end L2
namespace Fm
open PySem PySem.Spec L2 PySem.W PyProof.Rows
section
variable {X:Cx} {pos p:Pos}
theorem Ap {a:Expr}{q:EF}{lo hi:Option Expr}{r s:OF}{k:Pos}(x:ME X a q)(C:MO X lo r)(G:MO X hi s):ME X (.Subscript a (.Slice lo hi none k) pos) (nZ q r s):=by
 refine PE.imp (kR GA x C G) λσ H Q ⟨ρ,σd,E,D,o⟩ => ?_;unfold nZ at o;refine⟨ρ,σd,E,D,(bn.bind (R:=rD X.K) o).imp λv P ⟨j,d,n,T,c,u,B⟩ => ?_⟩;refine⟨j,σd,n,c,(bn.bind (R:=rO) B).imp λL S ⟨h,M,i,F,g,A,k⟩ => ?_⟩;cases A;refine⟨h,σd,i,g,(bn.bind (R:=rO) k).imp λz O ⟨I,K,N,t,m,w,b⟩ => ?_⟩;cases w;have f:=(u.mono (c.hp.kp F)).mono (g.hp.kp t);cases d with
 | str l =>
  simp only[RD]at f;simp only at b;split at b
  ·rename_i J
   cases e:xR l L z with
   | none=>rw[e]at b;exact b.elim
   | some y =>
    rw[e]at b;exact⟨toS l,y,f,by rw[d7];exact ZL J xS,e,b.here m (by simp only[rD,RD];rfl)⟩
  ·exact b.elim
 | _=>exact b.elim
end
section
variable {X:Cx} {pos p p2:Pos}
theorem Cs {x:Str} {y:Str} {t:Tok} (l:List Nat) (h:y=toS l) (a:Gl X x) (b:X.mg x=some (.str y t)) (hd:(x == ("__debug__" : Str))=false:=by decide):ME X (.Name x pos) (fC (.str l)) :=
 PE.imp (j0 (v:=.str y) a b ⟨t,rfl⟩ hd) (mj λ_ _=>by simp only[RD];rw[h])
theorem lq {a:Expr} {e:EF} (j:Gl X "str") (k:X.mg "str" = none) (h:ME X a e) (c:starEach [a] X.env=(false,eval a X.env) :: starEach [] X.env:=by rfl):ME X (.Call (.Name "str" p) [a] [] pos) (kH e):=by
 refine BK (BJ sV j k (by decide +kernel) (he:=c)) h (λρ H σd l σ d v Q g b p => ?_) c;cases d<;>first|exact p.elim|skip
 rename_i i
 simp only[RD]at b;subst b;simp only at p;split at p
 ·rename_i f
  exact⟨i,rfl,f,p.here g (by simp only[rD,RD];rw[PySem.Str.ofString_eq_toList];rfl)⟩
 ·exact p.elim
theorem j6 (l:List Nat):(toS l).cps.toList=l:=by simp[toS]
theorem zn {l:List Nat}(h:Am l=true):NumText.AllDigits l/\l≠[]:=by
 simp only[Am,Z4,VL,X2,YN]at h;exact⟨h.2,λe=>by rw[e]at h;simp at h⟩
theorem Ef {l:List Nat}{n:Int}(g:l.length<=600)(h:pf l=some n):PySem.intText? (toS l)=some n:=by
 cases l with
 | nil=>cases h
 | cons c r =>
  have d:(toS (c :: r)).length<=4300:=by rw[d7];omega
  rw[pf]at h;split at h
  ·rename_i e
   subst e;split at h
   ·rename_i f
    obtain⟨a,b⟩:=zn f;cases h;exact PySem.intText_neg (j6 _) a b d
   ·cases h
  ·split at h
   ·rename_i f
    obtain⟨a,b⟩:=zn f;cases h;have:=PySem.intText_digits (by rw[j6];exact a) (by rw[j6];exact b) d;rw[j6]at this;exact this
   ·cases h
theorem Aq:fg X (.type "int") (λxs H Q=>∃(l:List Nat) (n:Int),xs=[.str (toS l)]/\l.length<=600/\pf l=some n/\Q (.int n) H):=by
 intro pins s σ H xs f Q I r h;obtain⟨l,n,rfl,a,c,q⟩:=h;obtain⟨u,rfl,d⟩:=aY.one r;obtain⟨t,rfl⟩:=d;refine KIN.call_text (Ef a c) (by rw[d7];omega) ⟨.int n,H,?_,⟨_,rfl⟩,q⟩;exact I.kept λb o e=>e
theorem zp {a:Expr} {f:EF} (j:Gl X "int") (k:X.mg "int" = none) (i:ME X a f) (e:starEach [a] X.env=(false,eval a X.env) :: starEach [] X.env:=by rfl):ME X (.Call (.Name "int" p) [a] [] pos) (rT f):=by
 refine BK (BJ Aq j k (by decide +kernel) (he:=e)) i (λρ H σd m σ d v Q h b p => ?_) e;cases d<;>first|exact p.elim|skip
 rename_i l
 simp only[RD]at b;subst b;simp only at p;split at p
 ·rename_i g
  cases c:pf l with
  | none=>rw[c]at p;exact p.elim
  | some n=>rw[c]at p;exact⟨l,n,rfl,g,c,p.here h (by simp only[rD,RD])⟩
 ·exact p.elim
def Fb:Option Int->KTD.Dat
 | some i=>.flat (.int i)
 | none=>.flat .none
def rV (T:Tab):List (Str × KTD.Dat):=T.map λp=>(toS p.1,Fb p.2)
def px (K:ZW) (a:Addr) (T:Tab):Prop:=KTD.tabLook (KTD.datLooks λb=>K.lookup b) (λb=>K.lookup b) a (rV T)=true
theorem uc {l k:List Nat}:toS l=toS k ↔ l=k:=⟨λe=>by rw[<-j6 l,e,j6],λe=>by rw[e]⟩
theorem ud:∀(T:Tab) (l:List Nat),KTD.inKeys (toS l) (rV T)=(fU T l).isSome
 | [],_=>rfl
 | (k,d) :: T,l=>by
  have b:=ud T l;show (decide (toS l=toS k) || KTD.inKeys (toS l) (rV T))=_;rw[b];unfold fU;rw[Z6]
  by_cases e:l=k
  ·subst e;simp
  ·have a:(l == k)=false:=by simpa using e
   rw[a,y0 (λz=>e (uc.mp z))];rfl
theorem zq {h:Heap}{P:T0->Prop}{l:List Nat}:∀{T:Tab} {d:Option Int},fU T l=some d->(∀v,bF (match d with|some i=>V.int i|none=>V.non) v->P v)->KTD.EachL h (toS l) P (rV T)
 | [],_,e,_=>by cases e
 | (k,d') :: T,d,e,q=>by
  unfold fU at e;rw[Z6]at e;have op:l=k->KTD.Opened h P (Fb d'):=λz=>by
   subst z;rw[show (l == l)=true by simp]at e;cases e;cases d' with
   | none=>exact q _ rfl
   | some i=>exact λt=>q _ ⟨t,rfl⟩
  cases T with
  | nil=>exact λz=>op (uc.mp z)
  | cons x T =>
   show if decide (toS l=toS k)=true then _ else _
   by_cases z:l=k
   ·rw[yD (by rw[z];simp)];exact op z
   ·rw[wR (by simpa using λy=>z (uc.mp y))]
    have a:(l == k)=false:=by simpa using z
    rw[a]at e;exact zq e q
theorem zr {pins:List (Addr × Obj)}{σ:L2.St}{H:Hp}{s:T1}{a:Addr}{T:Tab}(I:Inv X pins σ H s)(t:px X.K a T):KTD.Here s.heap s.heap a (rV T):=⟨PySem.W.kt_text_in I.kIn t,λ_ _ e=>e⟩
theorem Ar {a:Addr}{T:Tab}(t:px X.K a T):OpR X (compareOp .NotIn) (λx y H Q=>∃l,x=.str (toS l)/\y=.ref a/\Q (.bl (fU T l).isNone) H):=by
 intro pins s σ H x y v u Q I c d h;obtain⟨l,rfl,rfl,q⟩:=h;obtain⟨f,rfl⟩:=c;cases (show u=Value.ref a from d);refine KTD.notin_text (zr I t) ⟨.bl (fU T l).isNone,H,I.kept λb o e=>e,?_,q⟩;rw[ud];cases fU T l<;>rfl
theorem As {a:Expr} {g:EF} {x:Str} {A:Addr} {T:Tab} (n:Gl X x) (o:X.mg x=some (.ref A)) (t:px X.K A T) (i:ME X a g) (h:behindInMarks .NotIn (.Name x p)=false) (hd:(x == ("__debug__" : Str))=false:=by decide):MT X (.Compare a [.NotIn] [.Name x p] pos) (tE (nY T g)):=by
 refine PT.imp (yQ (Ar t) i (j0 (v:=.ref A) n o rfl hd) h) λσ H Q ⟨ρ,σd,hd,k,c⟩ => ?_;have c:=iq c;refine⟨ρ,σd,hd,k,(bn.bind c).imp λv q ⟨m,d,j,r,b,f,e⟩ => ?_⟩;cases d<;>try exact e.elim
 rename_i l
 simp only[rD,RD]at f;simp only at e;exact⟨l,f,rfl,e.here b (by simp only[rD,RD])⟩
theorem Ct {b:Expr} {B:EF} {x:Str} {A:Addr} {T:Tab} (S:Gl X x) (hm:X.mg x=some (.ref A)) (t:px X.K A T) (Y:ME X b B) (K:Ix b:=by intro _ _;rfl) (hd:(x == ("__debug__" : Str))=false:=by decide):ME X (.Subscript (.Name x p) b pos) (ph T B):=by
 intro pins s σ H Q I ⟨ρ,σd,hd',L,W⟩;refine D8 PySem.F.slot_dict_getitem.lookup K (thn (j0 (v:=.ref A) S hm rfl hd pins s σ H (λy m=>y=.ref A/\m=H) I ⟨rfl,rfl⟩) λu s1 ⟨y,m,G,ry,E,R⟩ => ?_);subst E R;obtain rfl:u=Value.ref A:=ry;refine thn (Y pins s1 σ m (λz g=>∃l d,z=.str (toS l)/\fU T l=some d/\Q (match d with|some i=>V.int i|none=>V.non) g) G ⟨ρ,σd,hd',L,(bn.bind W).imp λv g ⟨N,d,a0,E,n,h,f⟩ => ?_⟩) λiv a ⟨z,g,C,rz,l,d,F,r,q⟩ => ?_
 ·cases d<;>try exact f.elim
  rename_i l
  simp only[rD,RD]at h;simp only at f;cases c:fU T l with
  | none=>rw[c]at f;exact f.elim
  | some d =>
   rw[c]at f;refine⟨l,d,h,c,f.here n ?_⟩;cases d<;>simp only[rD,RD,Ea]
 ·subst F
  obtain⟨O,rfl⟩:=rz;have w:=zr C t;have j:a.TypeIs (.ref A) "dict" := w.typeIs;refine⟨j,?_⟩;unfold getItem
  try with_reducible refine Y1 ?_
  refine yC (wpAny_sequenceKey j (by decide) ?_);refine yC (wpAny_callSpecial?_slot j PySem.F.slot_dict_getitem (W3 PySem.F.slot_dict_getitem j PySem.F.entry_dict_getitem ?_ (PySem.F.args_dict_getitem_2 _ _)));show wpAny _ _ (dictGet A (.str (toS l) O) >>= _) _ _ a;have M:Inv X pins σ g { a with toks:=a.toks + 1 }:=C.kept λb o e=>e;refine yC (KTD.dictGet_text w (λd' v J U=>wW ⟨v,rfl,wW ?_⟩) λZ => ?_)
  ·exact(zq (P:=λv=>EP X pins σ Q v { a with toks:=a.toks + 1 }) r λv h=>⟨_,g,M,h,q⟩).some_of d' v J U
  ·have:=KTD.isSome_datumAt (k:=toS l) (D:=rV T)
   rw[Z,ud,r]at this;cases this
end
end Fm
namespace Fm
def rW (x y:EF):EF:=λσ h=>(x σ h).bind λp h=>match p with
 | .ref n=>match h[n]? with
  | some (.lst _)=>(y σ h).bind λq h=>match q with
   | .ref m=>match h[n]?,h[m]? with
    | some (.lst l),some (.lst k)=>if l.length + k.length<=SZ then .ok .non (h.set n (.lst (l++k))) else .bad
    | _,_=>.bad
   | _=>.bad
  | _=>.bad
 | _=>.bad
end Fm
namespace Fm
open PySem PySem.Spec L2 PySem.W PyProof.Rows
section
variable {X:Cx}
theorem Eg {o e:Expr} {G M:EF} {apos cpos:Pos} (ho:ME X o G) (he:ME X e M) (r:attributeBase o "extend" X.env (eval o X.env)=eval o X.env:=by rfl)
  (t:((backTo cpos (starEach [e] X.env)).all (λx => !x.1) && (backToKw cpos (keywordEach [] X.env)).all (λx=>x.1.isSome)
   && decide (([e] : List Expr).length + ([] : List Keyword).length + (if ([] : List Keyword).isEmpty then 0 else 1) < 30))=true:=by rfl)
  (p:(apos.endLine == cpos.line)=true:=by rfl) (I:starEach [e] X.env=(false,eval e X.env) :: starEach [] X.env:=by rfl) :
  ME X (.Call (.Attribute o "extend" apos) [e] [] cpos) (rW G M):=by
 refine PE.imp (oO WE PySem.F.slot_list_extend PySem.F.type_list_extend Ae ho (bh he cy I) r t p I) λσ H Q ⟨ρ,σd,S,P,L⟩=>⟨ρ,σd,S,P,?_⟩;unfold rW at L;refine(bn.bind (R:=rD X.K) L).imp λv H1 ⟨B,d,z,e1,w,E,g⟩ => ?_;cases d<;>try exact g.elim
 rename_i n
 simp only[rD,RD]at E;obtain⟨a,F,rfl⟩:=E;simp only at g;cases C:z[n]? with
 | none=>rw[C]at g;exact g.elim
 | some cell1 =>
  rw[C]at g;cases cell1 with
  | dct l=>exact g.elim
  | dcT l=>exact g.elim
  | ob l=>exact g.elim
  | lst l1 =>
   obtain⟨vs,U,_⟩:=w.hp.cel n _ a C F;simp only at g;refine⟨.inl ⟨rfl,vs,SqL.of U⟩,B,σd,z,w,?_⟩;refine(bn.bind (R:=rD X.K) g).imp λv2 J ⟨s,O,j,T,h,u,f⟩ => ?_;cases O<;>try exact f.elim
   rename_i m
   simp only[rD,RD]at u;obtain⟨b,Y,rfl⟩:=u;simp only at f;cases c:j[n]? with
   | none=>rw[c]at f;exact f.elim
   | some cell =>
    cases d:j[m]? with
    | none=>rw[c,d]at f;cases cell<;>exact f.elim
    | some cell' =>
     rw[c,d]at f;cases cell<;>cases cell'<;>try exact f.elim
     rename_i l k
     simp only at f;split at f
     ·rename_i W
      have q:=T.get F;obtain⟨y,D,i⟩:=h.hp.cel n _ a c q;obtain⟨K,hw,A⟩:=h.hp.cel m _ b d Y;refine⟨a,b,y,K,rfl,rfl,D,hw,?_,?_⟩
      ·rw[<-i.length,<-A.length];exact ZL W (by rw[YM];decide)
      ·have Z:n < j.length:=(yE.mp c).1
       have V:=h.hp.write q Z (RDs.append i A);have N:Ext s J s (upd J a (.lst (y++K))):=Ext.write (ZJ q);exact f.at N (h.ext N V) (by simp only[rD,RD])
     ·exact f.elim
end
end Fm
namespace Fm
def eV (a:EF) (lo hi:OF):EF:=λσ h=>(a σ h).bind λx h=>(lo σ h).bind λi h=>(hi σ h).bind λj h=>match x with
 | .tup l=>.ok (.tup (cut l i j)) h
 | _=>.bad
end Fm
namespace HT
open PySem PySem.Spec PyProof.Rows L2
section
variable {prog:T3} {w:T4} {A:T2} {E:T0->T1->Prop} {s:T1}
theorem getItem_tuple_whole {t e:Addr}{a:Array T0}{l i:T0}{lo hi:Option Int}{Q:T0->T1->Prop}(b:IsTup s.heap t a)(k:s.heap.IsSliceOf e l i .none)(o:IsPart l lo)(m:IsPart i hi)
  (j:sIx a.size 0 lo=0/\sIx a.size a.size hi=a.size) (h:Q (.ref t) s):wpAny (model prog w) A (getItem (.ref t) (.ref e)) Q E s:=by
 obtain⟨n,d,f,p⟩:=id k;have g:s.TypeIs (.ref e) "slice" := ⟨n,d,f⟩;unfold getItem
 try with_reducible refine Y1 ?_
 first|refine yC (wW ?_)|skip
 refine yC (wpAny_sequenceKey b.typeIs (by decide) ?_);refine yC (wpAny_callSpecial?_slot (name:=Str.ofString "__getitem__") b.typeIs XH
  (W3 XH b.typeIs entry_tuple_getitem ?_ (args_tuple_getitem _ _)))
 show wpAny _ _ (Builtin.Tuple.tupleItemsOf (.ref t) >>= _) _ _ s;refine yC (tupleItemsOf_ b ?_);refine yC (wpAny_typeOf g ?_);rw[yD (by decide)];refine yC (ig k o m ?_);have c:((((sIx a.size 0 lo:Nat):Int) == 0 && (1:Int) == 1 && (sIx a.size a.size hi - sIx a.size 0 lo) == a.size)=true):=by
  rw[j.1,j.2];simp
 show wpAny _ _ (if (((sIx a.size 0 lo:Nat):Int) == 0 && (1:Int) == 1 && (sIx a.size a.size hi - sIx a.size 0 lo) == a.size)=true then _ else _) _ _ s;rw[yD c];refine yC ?_;unfold Builtin.Tuple.tupleIsExact;refine yC (wpAny_typeOf b.typeIs (wW ?_));rw[yD (by decide)];refine yC (wpAny_rule ?_)
 first
  | exact wW ⟨_,rfl,wW h⟩
  | exact yC (wW ⟨_,rfl,wW h⟩)
  | exact yC (wW (wW ⟨_,rfl,wW h⟩))
end
end HT
namespace Fm
open PySem PySem.Spec L2 PySem.W PyProof.Rows
section
variable {X:Cx} {pos p:Pos}
def IH (K:ZW):V->Option Int->Option Int->Hp->VK->Prop:=λx lo hi H Q=>∃a xs,x=.ref a/\SqT K H a xs/\
 ((HT.sIx xs.length 0 lo=0/\HT.sIx xs.length xs.length hi=xs.length)->Q (.ref a) H)/\
 (¬(HT.sIx xs.length 0 lo=0/\HT.sIx xs.length xs.length hi=xs.length)->∀p,H p=none->Q (.ref p) (upd H p (.tup (mi xs lo hi))))
theorem Eh:SlR X (IH X.K):=by
 intro pins s σ H x v q w g k u Q I i m l j h;obtain⟨a,b,rfl,n,o,t⟩:=h
 by_cases d:HT.sIx b.length 0 g=0/\HT.sIx b.length b.length k=b.length
 ·cases i
  obtain⟨e,r,f,y⟩:=I.tuple n;have c:e.toArray.size=b.length:=by rw[v7];exact r.length.symm
  refine⟨"tuple",_,PyProof.Rows.slot_tuple_getitem.lookup,f.typeIs,?_⟩;exact HT.getItem_tuple_whole f m l j (by rw[c];exact d) ⟨.ref a,H,I,rfl,o d⟩
 ·exact Bx pins s σ H _ v q w g k u Q I i m l j ⟨a,b,rfl,n,d,t d⟩
theorem Au {l:List D}{i j:Option Int}(h:sIx l.length 0 i=0/\sIx l.length l.length j=l.length):cut l i j=l:=by
 unfold cut;rw[h.1,h.2];simp
theorem j7 {a:Expr}{z:EF}{lo hi:Option Expr}{B C:OF}{s:Pos}(G:ME X a z)(L:MO X lo B)(S:MO X hi C):ME X (.Subscript a (.Slice lo hi none s) pos) (eV z B C):=by
 refine PE.imp (kR Eh G L S) λσ H Q ⟨ρ,σd,N,M,y⟩ => ?_;unfold eV at y;refine⟨ρ,σd,N,M,(bn.bind (R:=rD X.K) y).imp λv H1 ⟨r,d,u,e1,f,E,K⟩ => ?_⟩;refine⟨r,σd,u,f,(bn.bind (R:=rO) K).imp λV H2 ⟨k,W,m,P,i,J,s⟩ => ?_⟩;cases J;refine⟨k,σd,m,i,(bn.bind (R:=rO) s).imp λI Z ⟨T,U,Y,D,c,F,h⟩ => ?_⟩;cases F;have g:=(E.mono (f.hp.kp P)).mono (i.hp.kp D);cases d with
 | tup l =>
  simp only at h;simp only[RD]at g;obtain⟨q,w,rfl,x,b⟩:=g;have e:∀(n d:Nat) (o:Option Int),Fm.sIx n d o=HT.sIx n d o:=λn d o=>by cases o<;>rfl
  refine⟨q,w,rfl,SqT.of x,λA => ?_,λ_ O j => ?_⟩
  ·rw[<-b.length,<-e,<-e]at A
   rw[Au A]at h;exact h.here c (by simp only[rD,RD];exact⟨q,w,rfl,x,b⟩)
  ·have t:=cC (o:=HO.tup (mi w V I)) j
   exact h.at (Ext.same t) (c.same t) (by simp only[rD,RD];exact⟨O,_,rfl,aM,(tN b).mono (Kp.same t)⟩)
 | _=>exact h.elim
end
end Fm
namespace Fm
def gX (a b:EF):EF:=λσ h=>(a σ h).bind λx h=>match x with
 | .str l=>(b σ h).bind λy h=>match y with
  | .str k=>.ok (.bl (decide (k.length<=l.length) && (l.take k.length == k))) h
  | _=>.bad
 | _=>.bad
def bP (sp:List Nat):List (List Nat)->List Nat
 | []=>[]
 | [x]=>x
 | x :: y :: r=>x++sp++bP sp (y :: r)
def iZ (sp:List Nat) (a:LF):EF:=λσ h=>(a σ h).bind λl h=>match kl l with
 | some ss=>if (ss.map (·.length)).sum + ss.length * sp.length<=1000000 then .ok (.str (bP sp ss)) h else .bad
 | none=>.bad
end Fm
namespace Fm
open PySem PySem.Spec L2 PySem.W PyProof.Rows
theorem mz (sp:List Nat):∀ss:List (List Nat),Str.join (toS sp) (ss.map toS)=toS (bP sp ss)
 | []=>rfl
 | [x]=>rfl
 | x :: y :: r=>by
  have a:=mz sp (y :: r);show toS x++toS sp++Str.join (toS sp) ((y :: r).map toS)=_;rw[a,t8,t8];rfl
theorem rX (sp:List Nat)(ss:List (List Nat)):Txt.join (toS sp) (ss.map toS)=toS (bP sp ss):=(StrLaws.glued_eq_join _ _).trans (mz sp ss)
def GB (K:ZW) (sp:List Nat):V->List V->Hp->VK->Prop:=λx vs H Q=>∃(q:Addr) (ss:List (List Nat)),x=.str (toS sp)/\vs=[.ref q]/\(SqL K H q (ss.map λx=>V.str (toS x))\/H q=some (.tup (ss.map λx=>V.str (toS x))))/\(ss.map (·.length)).sum + ss.length * sp.length<=1000000/\Q (.str (toS (bP sp ss))) H
section
variable {X:Cx} {pos p:Pos}
theorem Cu (sp:List Nat):MtR X "str.join" (GB X.K sp):=by
 intro pins s σ H x y v w Q I m j h;obtain⟨q,b,rfl,rfl,c,o,f⟩:=h;obtain⟨t,rfl⟩:=m;obtain⟨u,rfl,l⟩:=j.one;cases (show u=Value.ref q from l);have g:((b.map toS).map (·.length)).sum + (b.map toS).length * (toS sp).length<=16777216:=by
  have:((b.map toS).map (·.length))=b.map (·.length):=by rw[YI];apply Y3;intro a _;simp[toS,Str.length]
  rw[this,ZA,d7];omega
 rcases c with c|c
 ·obtain⟨d,r,n,_⟩:=I.list c
  exact join_list n.isList (by rw[List.toList_toArray];exact pr r) g λe k=>⟨.str (toS (bP sp b)),H,I.tok k,⟨e,by rw[rX]⟩,f⟩
 ·obtain⟨_,d,r,i⟩:=I.hok q _ c
  exact join_tuple i (by rw[List.toList_toArray];exact pr r) g λe k=>⟨.str (toS (bP sp b)),H,I.tok k,⟨e,by rw[rX]⟩,f⟩
theorem py {sp:List Nat} {e:Expr} {L:LF} {apos cpos a:Pos} {j} {x:Str} (u:x=toS sp) (he:MQ X e L) (b:attributeBase (.Constant (.str x) j a) "join" X.env (eval (.Constant (.str x) j a) X.env)=eval (.Constant (.str x) j a) X.env:=by rfl)
  (f:((backTo cpos (starEach [e] X.env)).all (λx => !x.1) && (backToKw cpos (keywordEach [] X.env)).all (λx=>x.1.isSome)
   && decide (([e] : List Expr).length + ([] : List Keyword).length + (if ([] : List Keyword).isEmpty then 0 else 1) < 30))=true:=by rfl)
  (d:(apos.endLine == cpos.line)=true:=by rfl) (i:starEach [e] X.env=(false,eval e X.env) :: starEach [] X.env:=by rfl) :
  ME X (.Call (.Attribute (.Constant (.str x) j a) "join" apos) [e] [] cpos) (iZ sp L):=by
 refine PE.imp (oO PySem.F.plainAttrs_str PySem.F.slot_str_join PySem.F.type_str_join (Cu sp) oy (bh he cy i) b f d i) λσ H Q ⟨ρ,σd,s,r,m⟩=>⟨rfl,ρ,σd,s,r,(bn.bind (R:=rQ X.K) m).imp λv z ⟨t,l,o,A,g,⟨q,B,y,k,h⟩,a⟩ => ?_⟩;subst y;cases c:kl l with
 | none=>simp only[c]at a;exact a.elim
 | some w =>
  simp only[c]at a;split at a
  ·rename_i n
   have e:=vU h c;subst e;exact⟨q,w,by rw[u],rfl,k,n,a.here g (by simp only[rD,RD])⟩
  ·exact a.elim
end
end Fm
namespace L2
open PySem PySem.Spec PyProof.Rows Builtin.Str
section
variable {X:Cx}
theorem Av:MtR X "str.startswith" (λx vs H Q=>∃a b:Str,x=.str a/\vs=[.str b]/\Q (.bl (decide (0 + b.length<=a.length) && subAt a b 0)) H):=by
 intro pins s σ H x vs v g Q I f c h;obtain⟨a,b,rfl,rfl,q⟩:=h;obtain⟨t,rfl⟩:=f;obtain⟨u,rfl,d⟩:=c.one;obtain⟨e,rfl⟩:=d;exact call_gives F.slot_str_startswith (VJ _ _ _) F.entry_str_startswith (F.args_str_startswith_2 _ _) (gives_str_startswith a b t e) ⟨.bl (decide (0 + b.length<=a.length) && subAt a b 0),H,I,rfl,q⟩
end
end L2
namespace Fm
open PySem PySem.Spec L2 PySem.W PyProof.Rows Builtin.Str
section
variable {X:Cx} {pos p:Pos}
theorem JK (l k:List Nat):(decide (0 + (toS k).length<=(toS l).length) && subAt (toS l) (toS k) 0)=(decide (k.length<=l.length) && (l.take k.length == k)):=by
 rw[StrLaws.subAt_eq,d7,d7,YH];rfl
theorem rY {o e:Expr} {q n:EF} {apos cpos:Pos} (y:ME X o q) (he:ME X e n) (a:attributeBase o "startswith" X.env (eval o X.env)=eval o X.env:=by rfl)
  (c:((backTo cpos (starEach [e] X.env)).all (λx => !x.1) && (backToKw cpos (keywordEach [] X.env)).all (λx=>x.1.isSome)
   && decide (([e] : List Expr).length + ([] : List Keyword).length + (if ([] : List Keyword).isEmpty then 0 else 1) < 30))=true:=by rfl)
  (b:(apos.endLine == cpos.line)=true:=by rfl) (s:starEach [e] X.env=(false,eval e X.env) :: starEach [] X.env:=by rfl) :
  ME X (.Call (.Attribute o "startswith" apos) [e] [] cpos) (gX q n):=by
 refine PE.imp (oO PySem.F.plainAttrs_str PySem.F.slot_str_startswith PySem.F.type_str_startswith Av y (bh he cy s) a c b s) λσ H Q ⟨ρ,σd,C,B,u⟩=>⟨ρ,σd,C,B,(bn.bind (R:=rD X.K) u).imp λv F ⟨i,d,h,G,g,m,r⟩ => ?_⟩;cases d<;>try exact r.elim
 rename_i l
 simp only[rD,RD]at m;subst m;refine⟨rfl,i,σd,h,g,(bn.bind (R:=rD X.K) r).imp λE D ⟨w,z,A,I,j,f,t⟩ => ?_⟩;cases z<;>try exact t.elim
 rename_i k
 simp only[rD,RD]at f;subst f;refine⟨toS l,toS k,rfl,rfl,?_⟩;rw[JK];exact t.here j (by simp only[rD,RD])
end
end Fm
namespace L2
open PySem PySem.Spec PyProof.Rows Builtin.Str
theorem rZ:∀(tk:Nat) (xs:List Str),aY (xs.map V.str) (strsFrom tk xs)
 | _,[]=>.nil
 | tk,x :: r=>.cons ⟨tk,rfl⟩ (rZ (tk + 1) r)
section
variable {X:Cx}
theorem Cv:MtR X "str.split" (λx vs H Q=>∃(a:Str) (c:Nat),x=.str a/\vs=[.str ⟨#[c]⟩]/\a.length<=sizeLine/\(Txt.split a ⟨#[c]⟩).length<=sizeLine/\∀p,H p=none->Q (.ref p) (upd H p (.lst ((Txt.split a ⟨#[c]⟩).map V.str)))):=by
 intro pins s σ H x vs v n Q I l i h;obtain⟨a,c,rfl,rfl,j,g,q⟩:=h;obtain⟨t,rfl⟩:=l;obtain⟨u,rfl,k⟩:=i.one;obtain⟨t',rfl⟩:=k;have self:Txt.split a ⟨#[c]⟩ = [a]->listOfItself a t X.A (wants (EP X pins σ Q) X.xe) s:=λe=>by
  rw[e]at q;exact⟨.ref s.heap.objs.size,_,I.laid (t':=s.toks) (o:=.lst [V.str a]) (λb m q=>ZG _ q) (ZK _) ⟨by show 1<=sizeLine;decide,_,0,.cons ⟨t,rfl⟩ .nil,ZI _ rfl⟩,rfl,q _ (I.hok.fresh (ZK _))⟩
 cases d:(decide (a.length < (⟨#[c]⟩ : Str).length) || decide (strKind a < strKind ⟨#[c]⟩))
 ·cases f:(occurrences a ⟨#[c]⟩ 0 a.length (a.length + 1)).isEmpty
  ·have e:Txt.split a ⟨#[c]⟩ = partsBetween a (occurrences a ⟨#[c]⟩ 0 a.length (a.length + 1)) (⟨#[c]⟩ : Str).length:=by
    unfold Txt.split;rw[wR (by rw[d];exact wV),wR (by rw[f];exact wV)]
   rw[e]at g q;refine WX F.slot_str_split (VJ _ _ _) F.entry_str_split (F.args_str_split_2 _ _) (meets_str_split_sep a ⟨#[c]⟩ t t' d rfl f j g) ?_;exact⟨.ref s.heap.objs.size,_,I.laid (t':=s.toks + (partsBetween a (occurrences a ⟨#[c]⟩ 0 a.length (a.length + 1)) (⟨#[c]⟩ : Str).length).length) (o:=.lst ((partsBetween a (occurrences a ⟨#[c]⟩ 0 a.length (a.length + 1)) (⟨#[c]⟩ : Str).length).map V.str)) (λb m q=>ZG _ q) (ZK _) ⟨by rw[ZA];exact g,_,0,rZ _ _,ZI _ rfl⟩,rfl,q _ (I.hok.fresh (ZK _))⟩
  ·exact WX F.slot_str_split (VJ _ _ _) F.entry_str_split (F.args_str_split_2 _ _) (meets_str_split_not_found a ⟨#[c]⟩ t t' d rfl f) (self (by unfold Txt.split;rw[wR (by rw[d];exact wV),yD f]))
 ·exact WX F.slot_str_split (VJ _ _ _) F.entry_str_split (F.args_str_split_2 _ _) (meets_str_split_cannot_occur a ⟨#[c]⟩ t t' d) (self (by unfold Txt.split;rw[yD d]))
end
end L2
namespace Fm
def aX (c:Nat):List Nat->List (List Nat)
 | []=>[[]]
 | x :: r=>if x=c then [] :: aX c r else match aX c r with
  | p :: ps=>(x :: p) :: ps
  | []=>[[x]]
theorem jJ {c:Nat}:∀{p:List Nat},c∉p->aX c p=[p]
 | [],_=>rfl
 | x :: r,h=>by
  have h1:x≠c:=λe=>h (by rw[e];exact ZU);have a:=jJ (p:=r) λz=>h (ZV _ z);rw[aX,wR h1,a]
theorem i0 {c:Nat}{t:List Nat}:∀{p:List Nat},c∉p->aX c (p++c :: t)=p :: aX c t
 | [],_=>by rw[WN,aX,yD rfl]
 | x :: r,h=>by
  have h1:x≠c:=λe=>h (by rw[e];exact ZU);have a:=i0 (t:=t) (p:=r) λz=>h (ZV _ z);rw[XI,aX,wR h1,a]
theorem gY {c:Nat}:∀{P:List (List Nat)},P≠[]->(∀p∈P,c∉p)->aX c (bP [c] P)=P
 | [],h,_=>absurd rfl h
 | [p],_,f=>jJ (f p ZU)
 | p :: q :: r,_,f=>by
  have b:=gY (P:=q :: r) (by simp) λx a=>f x (ZV _ a);have e:bP [c] (p :: q :: r)=p++c :: bP [c] (q :: r):=by rw[bP,ZT];rfl
  rw[e,i0 (f p ZU),b]
def dY (c:Nat) (a:EF):LF:=λσ h=>(a σ h).bind λx h=>match x with
 | .str l=>if l.length<=1000000 then .ok ((aX c l).map D.str) h else .bad
 | _=>.bad
end Fm
namespace Fm
open PySem PySem.Spec L2 PySem.W PyProof.Rows
theorem Cw (x:Str):toS x.cps.toList=x:=by unfold toS;cases x;simp
theorem r6 (l:List Nat)(c:Nat):Txt.split (toS l) ⟨#[c]⟩ = (aX c l).map toS:=by
 obtain⟨P,a⟩ : ∃P:List (List Nat),P=(Txt.split (toS l) ⟨#[c]⟩).map λx=>x.cps.toList:=⟨_,rfl⟩;have e:Txt.split (toS l) ⟨#[c]⟩ = P.map toS:=by
  rw[a,YI];exact((Y3 λx _=>Cw x).trans (List.map_id _)).symm
 have j:=StrLaws.join_split (toS l) ⟨#[c]⟩;rw[e,show (⟨#[c]⟩ : Str)=toS [c] from rfl,mz]at j;have g:bP [c] P=l:=by
  have:=congrArg (λs:Str=>s.cps.toList) j;simpa[toS] using this
 have ne:P≠[]:=λz=>by
  have:=split_len (toS l) c;rw[e,z]at this;have h:(0:Int)<=cnt c (toS l).cps.toList:=countIn_nonneg _ _;have this:(0:Int)=1 + cnt c (toS l).cps.toList:=this;omega
 have d:∀p∈P,c∉p:=λp b=>by
  rw[a]at b;obtain⟨x,f,rfl⟩:=Z2.mp b;exact StrLaws.split_free (toS l) c x f
 rw[e,<-g,gY ne d]
theorem pz (c:Nat):∀l:List Nat,(aX c l).length<=l.length + 1
 | []=>ZK _
 | x :: r=>by
  have a:=pz c r;rw[aX];split
  ·rw[ZX,ZX];omega
  ·cases e:aX c r with
   | nil=>simp
   | cons p b=>rw[e]at a;simp only[ZX]at a ⊢;omega
theorem wb {K:ZW}{ρ:List Addr}{H:Hp}:∀P:List (List Nat),RDs K ρ H (P.map D.str) ((P.map toS).map V.str)
 | []=>RDs.nil
 | p :: P=>RDs.cons (by simp only[RD]) (wb P)
section
variable {X:Cx} {pos p:Pos}
theorem iw {c:Nat} {o:Expr} {k:EF} {apos cpos h:Pos} {j} {x:Str} (z:x=toS [c]) (t:ME X o k) (b:attributeBase o "split" X.env (eval o X.env)=eval o X.env:=by rfl)
  (g:((backTo cpos (starEach [.Constant (.str x) j h] X.env)).all (λx => !x.1) && (backToKw cpos (keywordEach [] X.env)).all (λx=>x.1.isSome)
   && decide (([.Constant (.str x) j h] : List Expr).length + ([] : List Keyword).length + (if ([] : List Keyword).isEmpty then 0 else 1) < 30))=true:=by rfl)
  (f:(apos.endLine == cpos.line)=true:=by rfl) (q:starEach [.Constant (.str x) j h] X.env=(false,eval (.Constant (.str x) j h) X.env) :: starEach [] X.env:=by rfl) :
  MF X (.Call (.Attribute o "split" apos) [.Constant (.str x) j h] [] cpos) (dY c k):=by
 refine PE.imp (oO PySem.F.plainAttrs_str PySem.F.slot_str_split PySem.F.type_str_split Cv t (bh oy cy q) b g f q) λσ H Q ⟨ρ,σd,r,u,a⟩=>⟨ρ,σd,r,u,?_⟩;unfold dY at a;cases e:k σd r with
 | exc x A=>rw[e]at a;exact a
 | bad=>rw[e]at a;exact a
 | ok d s =>
  rw[e]at a;simp only[az]at a;intro v B y w i m;cases d<;>try exact a.elim
  rename_i l
  simp only[rD,RD]at m;subst m;simp only at a;split at a
  ·rename_i n
   refine⟨rfl,toS l,c,rfl,by rw[z];rfl,by rw[d7];exact ZL n xS,?_,?_⟩
   ·rw[r6,ZA]
    exact ZL (pz c l) (ZL (Nat.succ_le_succ n) (by rw[YM];decide))
   ·rw[r6]
    exact a.mk w i (wb _)
  ·exact a.elim
end
end Fm
namespace Fm
def ltT:D->D->Option Bool
 | .tup xs,.tup ys=>match fE xs,fE ys with
  | some ns,some ms=>some (lexLt ns ms)
  | _,_=>none
 | _,_=>none
@[simp] def GC:O2:=λx y h=>match ltT x y with|some b=>.ok (.bl b) h|none=>.bad
end Fm
namespace Fm
open PySem PySem.Spec L2 PyProof.Rows
section
theorem pA:∀(a b:List Int),HT.lexLt a b=lexLt a b
 | [],[]=>rfl
 | [],_ :: _=>rfl
 | _ :: _,[]=>rfl
 | x :: xs,y :: ys=>by
  show (if x=y then HT.lexLt xs ys else decide (x < y))=_;rw[pA xs ys];rfl
theorem GD {K:ZW}:Og K GC (Ie K):=by
 intro ρ H σd t σ d k v w Q o i c p;unfold GC at p;cases d<;>try exact p.elim
 cases k<;>try exact p.elim
 rename_i j l
 simp only[ltT]at p;cases e:fE j with
 | none=>rw[e]at p;exact p.elim
 | some m =>
  cases h:fE l with
  | none=>rw[e,h]at p;exact p.elim
  | some n =>
   rw[e,h]at p;simp only[RD]at i c;obtain⟨a,u,rfl,r,f⟩:=i;obtain⟨b,s,rfl,q,g⟩:=c;refine⟨a,b,m,n,rfl,rfl,SqT.of (by rw[r,ir f e]),SqT.of (by rw[q,ir g h]),?_⟩;rw[pA];exact p.here o (by simp only[rD,RD])
end
end Fm
namespace Fm
def iy (x e:EF):EF:=λσ h=>(x σ h).bind λp h=>match cU h p with
 | some _=>(e σ h).bind λd h=>match cU h p with
  | some l=>if (cN d && l.all cN && l.any (λz=>eqF z d) && decide (l.length<=1000))=true then .ok (.int (l.findIdx (λz=>eqF z d):Nat)) h else .bad
  | none=>.bad
 | none=>.bad
def qB (l:List Nat):Option Int->Option Int->Option (List Nat)
 | none,some j=>if 0<=j then some (l.take j.toNat) else none
 | some i,none=>if 0<=i then some (l.drop i.toNat) else none
 | some i,some j=>if 0<=i/\0<=j then some ((l.take j.toNat).drop i.toNat) else none
 | none,none=>none
def br (a:EF) (lo hi:OF):EF:=λσ h=>(a σ h).bind λx h=>(lo σ h).bind λi h=>(hi σ h).bind λj h=>match x with
 | .str l=>if l.length<=1000000 then (match qB l i j with|some y=>.ok (.str y) h|none=>.bad) else .bad
 | _=>.bad
def se:O2:=λx y h=>match x,y with
 | .str [c],.int n=>if 2<=n/\n<=1000 then .ok (.str (List.replicate n.toNat c)) h else .bad
 | _,_=>.bad
def geT (x y:D):Option Bool:=match x,y with
 | .tup xs,.tup ys=>match fE xs,fE ys with
  | some a,some b=>some (!lexLt a b)
  | _,_=>none
 | _,_=>none
def Cy:O2:=λx y h=>match geT x y with|some b=>.ok (.bl b) h|none=>.bad
def nO (p q d:D) (h:Hd):Option Hd:=match p,q with
 | .ref n,.int j=>match h[n]? with
  | some (.lst l)=>match ixN l.length j with
   | some k=>some (h.set n (.lst (l.set k d)))
   | none=>none
  | _=>none
 | _,_=>none
def zt (x i y j e:EF):SF:=λσ h=>outE (e σ h) σ λd h=>match d with
 | .tup [u,v]=>outE (x σ h) σ λp h=>outE (i σ h) σ λq h=>match nO p q u h with
  | some h=>outE (y σ h) σ λp h=>outE (j σ h) σ λq h=>match nO p q v h with
   | some h=>.nx σ h
   | none=>.bad
  | none=>.bad
 | _=>.bad
end Fm
namespace HT
open PySem PyProof.Rows
def jm (a b:List Int):Bool := !lexLt a b
theorem xU (x y:Int)(xs ys:List Int):jm (x :: xs) (y :: ys)=if x=y then jm xs ys else decide (y<=x):=by
 unfold jm;rw[oH];split
 ·rfl
 ·rw[<-decide_not];exact decide_eq_decide.mpr (by omega)
theorem qC:jm [] [] = true:=rfl
theorem pB (y:Int)(ys:List Int):jm [] (y :: ys)=false:=rfl
theorem pC (x:Int)(xs:List Int):jm (x :: xs) [] = true:=rfl
theorem Cz (A:T2)(s:T1)(a:Int)(t:Tok)(c:Int)(u:Tok)(prog:T3)(w:T4)(E:T0->T1->Prop)(Q:T0->T1->Prop)(h:Q (.bool (decide (c<=a))) s) :
  wpAny (model prog w) A (richCompare .GtE (.int a t) (.int c u)) Q E s :=
 (PyProof.Rows.ge_int h:wpAny (model prog w) A (compareOp .GtE (.int a t) (.int c u)) Q E s)
section
open PySem.SeqAt
open PySem.AutoSeq1 (wpAny_loadPart')
open PySem.MeetsSeq PySem.MeetsSeq2 PySem.MeetsSeq3
theorem qD (l b:Addr)(i f:Array T0)(n Q:Nat)(dd L:Option Addr)(V I:Array (Option T0))(ns C:List Int)(hi:IntsAre i.toList ns)(N:IntsAre f.toList C) :
  Meets (Builtin.«tuple.__ge__» ⟨[.ref l,.ref b],[]⟩)
   (λ_ R s=>s.heap.get? l=some { cls:=.type "tuple",dict:=dd,data:=.seq i n,slots:=V }/\s.heap.get? b=some { cls:=.type "tuple",dict:=L,data:=.seq f Q,slots:=I }/\
    R (.ok (.ret (.bool (jm ns C)))) s) :=
 .of_wp λprog w A R s h=>by
  obtain⟨E,g,d,D,G⟩:=s;obtain⟨S,U,h⟩:=h;have f2:=AutoSeq1.sub_tuple_tuple;have Z:i.size=ns.length:=by rw[<-hi.length];simp
  have z2:f.size=C.length:=by rw[<-N.length];simp
  wp_walk using XX S,XX U,wpAny_forIn_list _ (λrest b K=>b.1=none/\K=⟨E,g,d,D,G⟩/\∃(H F:List T0) (k m:List Int),rest=H.zip F/\
   IntsAre H k/\IntsAre F m/\k.length + f.size=m.length + i.size/\R (.ok (.ret (.bool (jm k m)))) ⟨E,g,d,D,G⟩) _
  case turn =>
   rintro⟨y,x⟩ rest b K ⟨B,rfl,H,F,k,m,p,z,o,j,v⟩;cases z with
   | nil=>rw[List.zip_nil_left]at p;cases p
   | cons a t hvi' =>
    cases o with
    | nil=>rw[List.zip_nil_right]at p;cases p
    | cons c u hwi' =>
     rw[VI]at p;injection p with hyx hrest
     injection hyx with O T
     subst O T;rw[xU]at v;simp only[ZX]at j;obtain⟨e,P,r⟩:=vB A.in1 ⟨E,g,d,D,G⟩ a t c u;refine yC (P prog w _ _ ?_);cases e with
     | true =>
      rw[yD (r.mp rfl)]at v
      wp_walk
      exact⟨rfl,rfl,_,_,_,_,hrest,hvi',hwi',by omega,v⟩
     | false =>
      rw[wR (λq=>absurd (r.mpr q) wV)]at v;have J:=Cz A.in1 ⟨E,g,d,D,G⟩ a t c u prog w
      wp_walk using J
      exact⟨_,rfl,by simpa using v⟩
  case fin =>
   rintro⟨X,Y⟩ K ⟨B,rfl,H,F,k,m,p,z,o,j,v⟩;simp only at B;subst B;have M:jm k m=decide (f.size<=i.size):=by
    cases z with
    | nil =>
     cases o with
     | nil =>
      simp only[Z3]at j;rw[qC];exact(x8 (by omega)).symm
     | cons c u W =>
      simp only[Z3,ZX]at j;rw[pB];exact(y0 (by omega)).symm
    | cons a t M =>
     cases o with
     | nil =>
      simp only[Z3,ZX]at j;rw[pC];exact(x8 (by omega)).symm
     | cons c u W =>
      rw[VI]at p;cases p
   rw[M]at v
   wp_walk
   exact⟨_,rfl,by simpa[Builtin.Tuple.tupleCompareSizes] using v⟩
  case h =>
   exact⟨rfl,rfl,i.toList,f.toList,ns,C,rfl,hi,N,by omega,h⟩
end
section
variable {prog:T3} {w:T4} {A:T2} {E:T0->T1->Prop} {s:T1}
theorem ge_tupInts {l b:Addr}{c a:Array T0}{ns e:List Int}{Q:T0->T1->Prop}(z:IsTup s.heap l c)(t:IsTup s.heap b a)(hi:IntsAre c.toList ns)(y:IntsAre a.toList e)
  (B:A.units < cLine) (h:Q (.bool (jm ns e)) s):wpAny (model prog w) A (compareOp .GtE (.ref l) (.ref b)) Q E s:=by
 obtain⟨⟨cls,r,data,u⟩,o,m,n,p⟩:=id z;obtain⟨⟨q,j,i,k⟩,g,d,v,f⟩:=id t;simp only at m p d f;subst m p d f;exact richCompare_meets_room (op:=.GtE) ⟨_,o,rfl⟩ ⟨_,g,rfl⟩ PySem.F.slot_tuple_ge PySem.F.entry_tuple_ge (PySem.F.args_tuple_ge_2 _ _) (qD l b c a n v r j u k ns e hi y)
  ⟨o,g,show Value.bool (jm ns e)≠Value.notImplemented/\Q (.bool (jm ns e)) s from ⟨(λx=>nomatch x),h⟩⟩ B
end
end HT
namespace Fm
open PySem PySem.Spec L2 PyProof.Rows
section
variable {X:Cx}
def II (K:ZW):R2:=λx y H Q=>∃a b ns ms,x=.ref a/\y=.ref b/\SqT K H a (ns.map V.int)/\SqT K H b (ms.map V.int)/\Q (.bl (!HT.lexLt ns ms)) H
theorem GE (n:X.A.units < cLine):OpR X (compareOp .GtE) (II X.K):=by
 intro pins s σ H x y v u Q I j k h;obtain⟨a,b,e,f,rfl,rfl,i,g,q⟩:=h;cases j;cases k;obtain⟨d,l,m,_⟩:=I.tuple i;obtain⟨c,o,p,_⟩:=I.tuple g;have t:IntsAre d.toArray.toList e:=fu l;have r:IntsAre c.toArray.toList f:=fu o;exact HT.ge_tupInts m p t r n ⟨.bl (!HT.lexLt e f),H,I,rfl,q⟩
theorem GG {K:ZW}:Og K Cy (II K):=by
 intro ρ H σd t σ d k v w Q o i c p;unfold Cy at p;cases d<;>try exact p.elim
 cases k<;>try exact p.elim
 rename_i j l
 simp only[geT]at p;cases e:fE j with
 | none=>rw[e]at p;exact p.elim
 | some m =>
  cases h:fE l with
  | none=>rw[e,h]at p;exact p.elim
  | some n =>
   rw[e,h]at p;simp only[RD]at i c;obtain⟨a,u,rfl,r,f⟩:=i;obtain⟨b,s,rfl,q,g⟩:=c;refine⟨a,b,m,n,rfl,rfl,SqT.of (by rw[r,ir f e]),SqT.of (by rw[q,ir g h]),?_⟩;rw[pA];exact p.here o (by simp only[rD,RD])
end
end Fm
namespace Fm
open PySem PySem.Spec L2
section
variable {X:Cx} {pos p:Pos}
def IJ (K:ZW):V->List V->Hp->VK->Prop:=λx vs H Q=>∃l xs y,x=.ref l/\vs=[y]/\SqL K H l xs/\ii y=true/\xs.all ii=true/\(xs.any λz=>eqV z y)=true/\xs.length<=1000/\Q (.int (xs.findIdx λz=>eqV z y:Nat)) H
theorem Fc {x:V}:∀{xs:List V} {us:List T0},aY xs us->xs.all ii=true->us.findIdx (eqU x)=xs.findIdx λy=>eqV y x
 | _,_,.nil,_=>rfl
 | y :: xs,u :: us,.cons r t,f=>by
  rw[Y6,Z4]at f;rw[VM,VM,xF r f.1,Fc t f.2]
theorem Ei:MtM X "list.index" (IJ X.K):=by
 intro pins s σ H x S v P Q I J B h;obtain⟨l,k,y,rfl,rfl,A,G,i,K,O,q⟩:=h;cases J;obtain⟨u,rfl,E⟩:=B.one;obtain⟨a,r,N,_⟩:=I.list A;obtain⟨o,j,f,n,g⟩:=N.isList;obtain⟨c,C,D,L⟩:=o;replace f:c=.type "list" := f;replace g:D=.seq a.toArray n:=g;subst f g;have t:=Fc (x:=y) r i;have d:k.findIdx (λz=>eqV z y) < k.length:=List.findIdx_lt_length.mpr (by simpa using K);have e:=r.length;have b:a.findIdx (eqU y) < a.length:=by rw[t,<-e];exact d
 refine WX F.slot_list_index ⟨_,j,rfl⟩ F.entry_list_index (F.args_list_index_2 _ _)
  (SeqAt.list_indexAt l a.toArray n C L u (eqU y) (a.findIdx (eqU y)) (by simpa using b) (by omega) ?_ (λm R d => ?_)) ⟨j,λw M=>ij E G r i w (by simpa using M),?_⟩
 ·simp only[List.getElem_toArray]
  exact List.findIdx_getElem (w:=b)
 ·simp only[List.getElem_toArray]
  have:=List.not_of_lt_findIdx d;simpa using this
 ·refine⟨.int _,H,I.tok _,⟨_,rfl⟩,?_⟩
  rw[t];exact q
theorem nA {K:ZW}{ρ:List Addr}{H:Hp}{k:D}{w:V}(g:RD K ρ H k w)(a:cN k=true):∀{l:List D} {vs:List V},RDs K ρ H l vs->l.all cN=true->(l.findIdx λz=>eqF z k)=vs.findIdx λz=>eqV z w
 | [],_,h,_=>by simp only[RDs]at h;subst h;rfl
 | d :: l,_,h,f=>by
  simp only[RDs]at h;obtain⟨v,r,rfl,h1,b⟩:=h;simp only[Y6,Z4]at f;rw[VM,VM,zd h1 g f.1 a,nA g a b f.2]
theorem zu {o e:Expr} {D G:EF} {apos cpos:Pos} (T:ME X o D) (he:ME X e G) (h:attributeBase o "index" X.env (eval o X.env)=eval o X.env:=by rfl)
  (i:((backTo cpos (starEach [e] X.env)).all (λx => !x.1) && (backToKw cpos (keywordEach [] X.env)).all (λx=>x.1.isSome)
   && decide (([e] : List Expr).length + ([] : List Keyword).length + (if ([] : List Keyword).isEmpty then 0 else 1) < 30))=true:=by rfl)
  (c:(apos.endLine == cpos.line)=true:=by rfl) (E:starEach [e] X.env=(false,eval e X.env) :: starEach [] X.env:=by rfl) :
  ME X (.Call (.Attribute o "index" apos) [e] [] cpos) (iy D G):=by
 refine PE.imp (oO WE PySem.F.slot_list_index PySem.F.type_list_index Ei T (bh he cy E) h i c E) λσ H Q ⟨ρ,σd,O,N,F⟩=>⟨ρ,σd,O,N,?_⟩;unfold iy at F;refine(bn.bind (R:=rD X.K) F).imp λv Y ⟨r,d,j,e1,f,C,m⟩ => ?_;cases s:cU j d with
 | none=>rw[s]at m;exact m.elim
 | some l1 =>
  rw[s]at m;obtain⟨q,V,S,K,M⟩:=j3 f.hp C s;subst S;refine⟨.inl ⟨rfl,V,K⟩,r,σd,j,f,(bn.bind (R:=rD X.K) m).imp λw Z ⟨L,k,n,P,l,g,b⟩ => ?_⟩;cases y:cU n d with
  | none=>rw[y]at b;exact b.elim
  | some l2 =>
   rw[y]at b;simp only at b;split at b
   ·rename_i I
    simp only[Z4,YN]at I;obtain⟨⟨⟨t,z⟩,U⟩,J⟩:=I;obtain⟨W,A,u,B,a⟩:=j3 l.hp (C.mono (f.hp.kp P)) y;cases u;refine⟨q,A,w,rfl,rfl,B,o3 g t,mq a z,by rw[<-tP g t a z];exact U,by rw[<-a.length];exact J,?_⟩;rw[<-nA g t a z];exact b.here l (by simp only[rD,RD])
   ·exact b.elim
theorem ik (c:Nat):∀(n:Nat) (a:Array Nat),(List.replicate n (#[c] : Array Nat)).foldl (· ++ ·) a=(a.toList++List.replicate n c).toArray
 | 0,a=>by simp
 | n + 1,a=>by rw[YJ,List.foldl_cons,ik c n];simp[YJ]
theorem n8 {K:ZW}:Og K se (λx y H Q=>∃(c:Nat) (n:Int),x=.str ⟨#[c]⟩/\y=.int n/\2<=n/\n<=1000/\Q (.str ⟨(List.replicate n.toNat c).toArray⟩) H):=by
 intro ρ H σd g σ d k v w Q e b a p;unfold se at p;cases d<;>try exact p.elim
 rename_i l
 rcases l with _|⟨c,_|⟨f,r⟩⟩<;>try exact p.elim
 cases k<;>try exact p.elim
 rename_i n
 simp only at p;split at p
 ·rename_i h
  simp only[RD]at b a;exact⟨c,n,by rw[b];rfl,a,h.1,h.2,p.here e (by simp only[rD,RD];rfl)⟩
 ·exact p.elim
theorem n9:OpR X (binaryOp .Mult) (λx y H Q=>∃(c:Nat) (n:Int),x=.str ⟨#[c]⟩/\y=.int n/\2<=n/\n<=1000/\Q (.str ⟨(List.replicate n.toNat c).toArray⟩) H):=by
 intro pins s σ H x y v u Q I g i h;obtain⟨c,n,rfl,rfl,m,j,q⟩:=h;obtain⟨t,rfl⟩:=g;obtain⟨l,rfl⟩:=i;have e:Txt.mul ⟨#[c]⟩ n=⟨(List.replicate n.toNat c).toArray⟩:=by
  unfold Txt.mul;have d:(n == 1)=false:=by simp;omega
  rw[wR (by omega),d];have:((false || (⟨#[c]⟩ : Str).length == 0)=true) ↔ False:=by simp[Str.length]
  rw[wR (by simp[Str.length]),ik];simp
 refine SB.mul ⟨?_,λ_ _ => ?_,λ_ _ => ?_⟩ λf k => ?_
 ·have b : ¬n < -(2 ^ 63:Int):=by omega
  have a : ¬n ≥ 2 ^ 63:=by omega
  simp[b,a];omega
 ·show ¬(((1:Nat):Int) > (2 ^ 63 - 1) / n)
  have:(1:Int)<=(2 ^ 63 - 1) / n:=by
   apply Int.le_ediv_of_mul_le (by omega);omega
  omega
 ·show decide (1 * n.toNat > sizeLine)=false
  rw[YM];exact y0 (by omega)
 ·rw[e]
  exact⟨.str ⟨(List.replicate n.toNat c).toArray⟩,H,I.tok k,⟨f,rfl⟩,q⟩
end
end Fm
namespace L2
open PySem PySem.Spec PyProof.Rows
def clp (n:Nat) (o:Option Int):Option Int:=o.map λi=>min i n
theorem Aw {l u:Option Int}{n:Nat}(a:∀i,l=some i->0<=i)(b:∀i,u=some i->0<=i):Builtin.Str.strSliceIndices l u 1 n=Builtin.Str.strSliceIndices (clp n l) (clp n u) 1 n:=by
 have k:∀i:Int,0<=i->max 0 (min (if i < 0 then i + n else i) (n:Int))=max 0 (min (if min i (n:Int) < 0 then min i (n:Int) + n else min i (n:Int)) (n:Int)):=λi h=>by
  rw[wR (by omega),wR (by omega)];omega
 unfold Builtin.Str.strSliceIndices;cases l with
 | none =>
  cases u with
  | none=>rfl
  | some j=>simp only[clp,Option.map,show (1:Int) > 0 by decide,Y7];rw[k j (b j rfl)]
 | some i =>
  cases u with
  | none=>simp only[clp,Option.map,show (1:Int) > 0 by decide,Y7];rw[k i (a i rfl)]
  | some j=>simp only[clp,Option.map,show (1:Int) > 0 by decide,Y7];rw[k i (a i rfl),k j (b j rfl)]
theorem mB {x:Str}{l u:Option Int}(a:∀i,l=some i->0<=i)(b:∀i,u=some i->0<=i):Txt.slice x l u=Txt.slice x (clp x.length l) (clp x.length u):=by
 unfold Txt.slice;rw[Aw a b]
theorem Ax {x:Str}{i j:Int}(h:0<=j)(b:j<=i)(c:i<=x.length):Txt.slice x (some i) (some j)=⟨#[]⟩:=by
 have e:Builtin.Str.strSliceIndices (some i) (some j) 1 x.length=[]:=by
  unfold Builtin.Str.strSliceIndices sliceRange;simp only[show (1:Int) > 0 by decide,Y7];rw[wR (show ¬i < 0 by omega),wR (show ¬j < 0 by omega),wR (by omega)];rfl
 unfold Txt.slice;rw[e];split
 ·rename_i z
  have z:0=x.length:=by simpa using z
  obtain⟨⟨l⟩⟩:=x;cases l with
  | nil=>rfl
  | cons a r=>simp[Str.length]at z
 ·rfl
theorem Ej {x:Str}{l u:Option Int}{y:List Nat}(h:Fm.qB x.cps.toList l u=some y):Txt.slice x l u=⟨y.toArray⟩:=by
 have a:x.cps.toList.length=x.length:=by simp[Str.length]
 cases l with
 | none =>
  cases u with
  | none=>cases h
  | some j =>
   simp only[Fm.qB]at h;split at h
   ·rename_i b
    cases h;rw[mB (by intro i z;cases z) (by intro i z;cases z;exact b)];show Txt.slice x none (some (min j x.length))=_;rw[wa ⟨by omega,by rw[a];omega⟩];congr 2;rw[<-a];rcases Int.le_total j (x.cps.toList.length:Int) with z|z
    ·rw[Int.min_eq_left z]
    ·rw[Int.min_eq_right z,XW,List.take_length,YT (by omega)]
   ·cases h
 | some i =>
  cases u with
  | none =>
   simp only[Fm.qB]at h;split at h
   ·rename_i b
    cases h;rw[mB (by intro i z;cases z;exact b) (by intro i z;cases z)];show Txt.slice x (some (min i x.length)) none=_;rw[pw ⟨by omega,by rw[a];omega⟩];congr 2;rw[<-a];rcases Int.le_total i (x.cps.toList.length:Int) with z|z
    ·rw[Int.min_eq_left z]
    ·rw[Int.min_eq_right z,XW,X1,WK (by omega)]
   ·cases h
  | some j =>
   simp only[Fm.qB]at h;split at h
   ·rename_i b
    cases h;rw[mB (by intro i z;cases z;exact b.1) (by intro i z;cases z;exact b.2)];show Txt.slice x (some (min i x.length)) (some (min j x.length))=_
    by_cases hij:min i (x.length:Int)<=min j x.length
    ·have:=eq_of_beq (slice_closes (x:=x) (i:=min i x.length) (j:=min j x.length) ⟨by omega,hij,by rw[a];omega⟩)
     rw[this];congr 2;rw[List.drop_take]
     by_cases c:i<=x.length
     ·rw[Int.min_eq_left c]at hij ⊢
      by_cases d:j<=x.length
      ·rw[Int.min_eq_left d]at hij ⊢
       congr 1;omega
      ·rw[Int.min_eq_right (by omega)]
       rw[YT (by rw[Z9,a];omega),YT (by rw[Z9,a];omega)]
     ·have e:min i (x.length:Int)=x.length:=by omega
      rw[e,XW,<-a,X1,WK (by omega)];simp
    ·rw[Ax (by omega) (by omega) (by omega)]
     rw[WK (by rw[X0];omega)]
   ·cases h
def JL:V->Option Int->Option Int->Hp->VK->Prop:=λx lo hi H Q=>∃(z:Str) (y:List Nat),x=.str z/\z.length<=sizeLine/\Fm.qB z.cps.toList lo hi=some y/\Q (.str ⟨y.toArray⟩) H
theorem El {X:Cx}:SlR X JL:=by
 intro pins s σ H x v A C o r B Q I p d w g h;obtain⟨z,y,rfl,b,f,q⟩:=h;obtain⟨t,rfl⟩:=p;have e:=Ej f;refine⟨"str",_,slot_str_getitem.lookup,VJ _ _ _,?_⟩;have fin:∀(a k:Nat),∃v m,Inv X pins σ m { s with toks:=k }/\bF v (.str (Txt.slice z o r) a)/\Q v m:=λa k=>⟨.str ⟨y.toArray⟩,H,I.tok k,⟨a,by rw[e]⟩,q⟩;cases w with
 | none =>
  cases g with
  | none=>cases f
  | int j c=>exact XU (l:=none) (u:=some (j,c)) (st:=none) d rfl (VG ⟨ZL (Txt.slice_le z _ _) b,λa k=>fin a k⟩)
 | int i n =>
  cases g with
  | int j c=>exact XU (l:=some (i,n)) (u:=some (j,c)) (st:=none) d rfl (VG ⟨ZL (Txt.slice_le z _ _) b,λa k=>fin a k⟩)
  | none=>exact XU (l:=some (i,n)) (u:=none) (st:=none) d rfl (VG ⟨ZL (Txt.slice_le z _ _) b,λa k=>fin a k⟩)
end L2
namespace Fm
open PySem PySem.Spec L2 PySem.W PyProof.Rows
section
variable {X:Cx} {pos p:Pos}
theorem cZ {a:Expr}{q:EF}{lo hi:Option Expr}{r s:OF}{k:Pos}(x:ME X a q)(C:MO X lo r)(G:MO X hi s):ME X (.Subscript a (.Slice lo hi none k) pos) (br q r s):=by
 refine PE.imp (kR El x C G) λσ H Q ⟨ρ,σd,E,D,o⟩ => ?_;unfold br at o;refine⟨ρ,σd,E,D,(bn.bind (R:=rD X.K) o).imp λv P ⟨j,d,n,T,c,u,B⟩ => ?_⟩;refine⟨j,σd,n,c,(bn.bind (R:=rO) B).imp λL S ⟨h,M,i,F,g,A,k⟩ => ?_⟩;cases A;refine⟨h,σd,i,g,(bn.bind (R:=rO) k).imp λz O ⟨I,K,N,t,m,w,b⟩ => ?_⟩;cases w;have f:=(u.mono (c.hp.kp F)).mono (g.hp.kp t);cases d with
 | str l =>
  simp only[RD]at f;simp only at b;split at b
  ·rename_i J
   cases e:qB l L z with
   | none=>rw[e]at b;exact b.elim
   | some y =>
    rw[e]at b;exact⟨toS l,y,f,by rw[d7];exact ZL J xS,e,b.here m (by simp only[rD,RD];rfl)⟩
  ·exact b.elim
 | _=>exact b.elim
end
end Fm
namespace Fm
open PySem PySem.Spec L2
section
variable {X:Cx} {pos:Pos}
theorem wc {K:ZW}{ρ:List Addr}{H:Hp}{σd:Sd}{hd hd':Hd}{σ:L2.St}{p q d:D}{r s v:V}{Q:Hp->Prop}(rs:RS K ρ H σd hd σ)(m:RD K ρ H p r)(o:RD K ρ H q s)(x:RD K ρ H d v)(e:nO p q d hd=some hd')
  (k:∀h,Ext ρ H ρ h->RS K ρ h σd hd' σ->Q h):E6 r s v H Q:=by
 unfold nO at e;cases p<;>try cases e
 cases q<;>try cases e
 rename_i n j
 simp only at e;cases c:hd[n]? with
 | none=>rw[c]at e;cases e
 | some cell =>
  rw[c]at e;cases cell with
  | dct l=>cases e
  | dcT l=>cases e
  | ob l=>cases e
  | lst l =>
   simp only at e;cases f:ixN l.length j with
   | none=>rw[f]at e;cases e
   | some i =>
    rw[f]at e;cases e;simp only[RD]at m o;obtain⟨a,g,rfl⟩:=m;obtain⟨u,z,b⟩:=rs.hp.cel n _ a c g;refine⟨a,u,j,i,rfl,o,z,by rw[<-b.length,<-BO];exact f,?_⟩;have y:n < hd.length:=(yE.mp c).1;have w:=rs.hp.write g y (RDs.set x i b);have t:Ext ρ H ρ (upd H a (.lst (u.set i v))):=Ext.write (ZJ g);exact k _ t (rs.ext t w)
theorem Em {o i h j e:Expr}{fo fi x fj fe:EF}{b g V:Pos}{M}(hc:X.calm=true)(he:ME X e fe)(ho:ME X o fo)(hi:ME X i fi)(Y:ME X h x)(hj:ME X j fj)
  (hs:swapsWithSole [.Tuple [.Subscript o i b,.Subscript h j g] M V] e pos.line X.env=pure false:=by rfl) (hw:swappedStores [.Tuple [.Subscript o i b,.Subscript h j g] M V] e X.env=pure none:=by rfl)
  (D:∀v,assign (.Subscript o i b) X.env v=(do
   let ov <-holding [v] (eval o X.env)
   let f <-holding [v,ov] (eval i X.env)
   standAt b
   holding [v,ov,f] (setItem ov f v)
   release [v,ov,f] []):=by intro _;rfl)
  (hb:∀v,assign (.Subscript h j g) X.env v=(do
   let ov <-holding [v] (eval h X.env)
   let f <-holding [v,ov] (eval j X.env)
   standAt g
   holding [v,ov,f] (setItem ov f v)
   release [v,ov,f] []):=by intro _;rfl) :
  MS X (.Assign [.Tuple [.Subscript o i b,.Subscript h j g] M V] e pos) (zt fo fi x fj fe):=by
 refine PS.imp (sT he (Bn (n:=2) hc (oC (sS ho hi oN D) (oC (sS Y hj oN hb) yO))) hs hw) λEn σ H ⟨ρ,σd,hd,rs,p⟩=>⟨ρ,σd,hd,rs,(bv.outE p).imp λv H1 ⟨S,d,L,e1,m,rv,b⟩ => ?_⟩;cases d<;>try exact b.elim
 rename_i l
 rcases l with _|⟨u,_|⟨w,_|⟨z,r⟩⟩⟩<;>try exact b.elim
 simp only[RD]at rv;obtain⟨a,vs,rfl,D,t⟩:=rv;simp only[RDs]at t;obtain⟨vu,r1,rfl,ru,vw,r2,rfl,U,rfl⟩:=t;refine⟨a,_,rfl,SqT.of D,rfl,vu,_,rfl,S,σd,L,m,(bv.outE b).imp λvo H2 ⟨P,dO,F,e2,q,ro,g⟩ => ?_⟩;refine⟨P,σd,F,q,(bv.outE g).imp λvi H3 ⟨J,di,N,e3,k,ri,B⟩ => ?_⟩;cases c:nO dO di u N with
 | none=>rw[c]at B;exact B.elim
 | some C =>
  rw[c]at B;have E:=q.hp.kp e3;have k2:=m.hp.kp e2;refine wc k (ro.mono E) ri ((ru.mono k2).mono E) c λH4 e4 y => ?_;refine⟨vw,_,rfl,J,σd,C,y,(bv.outE (B.ext e4)).imp λa0 H5 ⟨O,T,Z,e5,s,K,p5⟩ => ?_⟩;refine⟨O,σd,Z,s,(bv.outE p5).imp λvj H6 ⟨G,dj,W,e6,Q,rj,A⟩ => ?_⟩;cases I:nO T dj w W with
  | none=>rw[I]at A;exact A.elim
  | some a1 =>
   rw[I]at A;have k6:=s.hp.kp e6;have k5:=y.hp.kp e5;have k4:=k.hp.kp e4;refine wc Q (K.mono k6) rj (((((U.mono k2).mono E).mono k4).mono k5).mono k6) I λH7 e7 R => ?_;exact⟨rfl,A σ H7 G e7 R⟩
end
end Fm
namespace Fm
open PySem
variable {α β : Type}
def KD {α : Type}:Sem α->Prop
 | .pure _=>True
 | .raise _=>True
 | .unsupported _=>True
 | .finish _=>True
 | .rule _ k=>KD (k ())
 | .at _ k=>KD (k ())
 | .load _ _ k=>∀o,KD (k o)
 | .update _ _ f k=>(∀o:Obj,o.isFreed=false->(f o).dict=o.dict/\(f o).isFreed=false)/\KD (k ())
 | .alloc _ k=>∀a,KD (k a)
 | .loadIfAlive _ k=>∀o,KD (k o)
 | .point _ k=>KD (k ())
 | .register _ _=>True
 | .fresh k=>∀t,KD (k t)
 | .ask k=>∀x,KD (k x)
 | .choose _ _ k=>∀n,KD (k n)
 | .os _ _ k=>∀r,KD (k r)
 | .call .. => False
 | .handled _ k=>∀v,KD (k v)
 | .newGen _ k=>∀n,KD (k n)
 | .genState _ k=>∀x,KD (k x)
 | .resume .. => False
 | .yield .. => True
 | .stack k=>∀l,KD (k l)
 | .fork .. => True
 | .thread k=>∀n,KD (k n)
 | .await .. => True
theorem KD.bind {m:Sem α}{f : α->Sem β}(h:KD m)(g:∀a,KD (f a)):KD (m >>= f):=by
 show KD (m.bind f)
 induction m with
 | pure a=>exact g a
 | raise e=>trivial
 | unsupported w=>trivial
 | finish e=>trivial
 | rule t k i=>exact i () h
 | «at» p k i=>exact i () h
 | load a p k i=>exact λo=>i o (h o)
 | update a p f k i=>exact⟨h.1,i () h.2⟩
 | alloc o k i=>exact λo=>i o (h o)
 | loadIfAlive a k i=>exact λo=>i o (h o)
 | point l k i=>exact i () h
 | register a k i=>trivial
 | fresh k i=>exact λo=>i o (h o)
 | ask k i=>exact λo=>i o (h o)
 | choose s n k i=>exact λo=>i o (h o)
 | os q l k i=>exact λo=>i o (h o)
 | call c j g l k i=>exact h.elim
 | handled b k i=>exact λo=>i o (h o)
 | newGen c k i=>exact λo=>i o (h o)
 | genState g k i=>exact λo=>i o (h o)
 | resume g r l k i=>exact h.elim
 | yield v g l k i=>trivial
 | stack k i=>exact λo=>i o (h o)
 | fork c k i=>trivial
 | thread k i=>exact λo=>i o (h o)
 | await a t d l k i=>trivial
def jn (h h':Heap):Prop:=∀b o,h.get? b=some o->∃o',h'.get? b=some o'/\o'.dict=o.dict
theorem jn.refl (h:Heap):jn h h:=λb o e=>⟨o,e,rfl⟩
theorem IK {M:Model}{A : Ctx}{h0:Heap}{t:Sem α}(k:KD t){Q : α->Pos->T1->Prop}{E:T0->Pos->T1->Prop}{p:Pos}{s:T1}(d:jn h0 s.heap)(h:Sem.wp M A t Q E p s) :
  Sem.wp M A t (λa p u=>Q a p u/\jn h0 u.heap) (λe p u=>E e p u/\jn h0 u.heap) p s:=by
 induction t generalizing p s with
 | pure a=>exact⟨h,d⟩
 | raise e=>exact⟨h,d⟩
 | unsupported w=>exact h
 | finish e=>exact h
 | rule t j i=>rw[Sem.wp]at h ⊢;exact i () k d h
 | «at» H j i=>rw[Sem.wp]at h ⊢;exact i () k d h
 | load a q j i =>
  rw[Sem.wp]at h ⊢;obtain⟨o,e,h⟩:=h;exact⟨o,e,i o (k o) d h⟩
 | update a q f j i =>
  rw[Sem.wp]at h ⊢;obtain⟨e,h⟩:=h;refine⟨e,i () k.2 (λb o z => ?_) h⟩;obtain⟨m,x,y⟩:=d b o z
  by_cases c:b=a
  ·subst c
   have G:m.isFreed=false:=(Heap.get?_some_iff.mp x).2;obtain⟨B,F⟩:=k.1 m G;exact⟨f m,Heap.get?_update_self f x F,B.trans y⟩
  ·exact⟨m,(Heap.get?_update_other _ _ (YV c)).trans x,y⟩
 | alloc o j i =>
  rw[Sem.wp]at h ⊢;refine i _ (k _) (λb m z => ?_) h;obtain⟨C,x,y⟩:=d b m z;exact⟨C,ZG _ x,y⟩
 | loadIfAlive a j i=>rw[Sem.wp]at h ⊢;exact i _ (k _) d h
 | point l j i=>rw[Sem.wp]at h ⊢;exact i () k d h
 | register a j i=>rw[Sem.wp]at h;exact h.elim
 | fresh j i=>rw[Sem.wp]at h ⊢;exact i _ (k _) d h
 | ask j i=>rw[Sem.wp]at h ⊢;exact i _ (k _) d h
 | choose u n j i=>rw[Sem.wp]at h ⊢;exact⟨h.1,i _ (k _) d h.2⟩
 | os q l j i=>rw[Sem.wp]at h ⊢;exact i _ (k _) d h
 | call c J g l j i=>exact k.elim
 | handled b j i=>rw[Sem.wp]at h ⊢;exact i _ (k _) d h
 | newGen c j i=>rw[Sem.wp]at h ⊢;exact i _ (k _) d h
 | genState g j i =>
  rw[Sem.wp]at h ⊢;obtain⟨D,e,h⟩:=h;exact⟨D,e,i _ (k _) d h⟩
 | resume g r l j i=>exact k.elim
 | yield v g l j i=>rw[Sem.wp]at h;exact h.elim
 | stack j i=>rw[Sem.wp]at h ⊢;exact i _ (k _) d h
 | fork c j i=>rw[Sem.wp]at h;exact h.elim
 | thread j i=>rw[Sem.wp]at h ⊢;exact i _ (k _) d h
 | await a t I l j i=>rw[Sem.wp]at h;exact h.elim
theorem jK {M:Model}{A:T2}{t:Sem α}{Q : α->T1->Prop}{E:T0->T1->Prop}{s:T1}(k:KD t)(h:wpAny M A t Q E s) :
  wpAny M A t (λa b=>Q a b/\jn s.heap b.heap) (λe b=>E e b/\jn s.heap b.heap) s:=λd p c => IK k (jn.refl _) (h d p c)
theorem ue {a:Addr}:KD (load a):=λ_=>trivial
theorem we {v:T0}:KD (fieldsOf v):=by
 unfold fieldsOf
 repeat' (first|exact trivial|apply KD.bind|intro _|exact ue|split)
theorem lw {v:T0}{i:Nat}:KD (field v i):=by
 unfold field;refine we.bind λa => ?_;split<;>exact trivial
theorem uf {a:Addr}{f:Array T0->Array T0}:KD (update a (Obj.mapFields f)):=by
 refine⟨λo h => ?_,trivial⟩;obtain⟨c,d,b,e⟩:=o;cases b<;>exact⟨rfl,h⟩
theorem nB {v x:T0}{i:Nat}:KD (setField v i x):=by
 unfold setField;split
 ·unfold updateField
  refine ue.bind λo => ?_;split
  ·split
   ·exact uf
   ·exact trivial
  ·exact trivial
 ·exact trivial
theorem i3 {v:T0}{f:Option Addr}:KD (setFlight v f):=by
 unfold setFlight;refine lw.bind λa => ?_;split
 ·exact nB
 ·exact trivial
theorem Ay {env:Env}{l:List Env}:KD (behindIsImport env l):=by
 unfold behindIsImport
 repeat' (first|exact trivial|exact lw|apply KD.bind|intro _|split)
theorem wf {env:Env}{b:Bool}{l:List Env}:KD (keptBack env b l):=by
 unfold keptBack underTheClaimsCaller
 repeat' (first|exact trivial|exact λ_=>trivial|apply KD.bind|intro _|split)
theorem wg:∀{l:List Env},KD (readyFrames l)
 | []=>trivial
 | env :: outer=>by
  unfold readyFrames;split
  ·refine ue.bind λo => ?_
   split
   ·exact trivial
   ·refine Ay.bind λb=>wf.bind λv=>KD.bind ?_ λ_=>wg
    exact⟨λo h=>⟨rfl,by obtain⟨c,d,a,e⟩:=o;cases a<;>exact h⟩,trivial⟩
  ·exact trivial
theorem xV {env:Env}:KD (frameOf env):=by
 unfold frameOf frameEnvs;refine KD.bind (KD.bind (λ_=>trivial) λ_=>trivial) λl=>KD.bind ?_ λv => ?_
 ·unfold frameObject
  split
  ·exact trivial
  ·exact wg.bind λ_=>trivial
 ·split<;>exact trivial
theorem CA {a:Addr}{b:Bool}:KD (entryPlaceOf a b):=by
 unfold entryPlaceOf;refine KD.bind (λ_=>trivial) λl => ?_;split<;>exact trivial
theorem ug {t:String}{l:List T0}:KD (newFields t l):=by
 unfold newFields newObj newObjAsIs
 repeat' (first|exact trivial|exact λ_=>trivial|apply KD.bind|intro _|split)
theorem zv {v:T0}{env:Env}:KD (noteFrame v env):=by
 unfold noteFrame EntryCells.newEntry;split
 ·refine lw.bind λa => ?_
  repeat' (first|exact trivial|exact xV|exact CA|exact ug|exact nB|exact lw|apply KD.bind|intro _|split)
 ·exact trivial
theorem pD {v:T0}{env:Env}:KD (leaving env v):=zv.bind λ_=>i3
end Fm
set_option maxHeartbeats 4000000
namespace Fm
open PySem
section
variable {prog:T3} {w:T4} {A:T2} {E:T0->T1->Prop} {h:Heap} {g:Array GenState} {d:Drawn} {t:Nat} {os:OsState}
variable {nm q:Str} {C N:Addr} {bs bm bmB:List T0} {hdct:Bool} {sn:List Str} {sub:List T0} {ab:Bool} {col:Option Bool} {dd:Option Addr} {k0 k1 k2 k3 k5:Option T0} {B newId initId:String}
abbrev ge (rest:List T0):Obj:={ cls:=.type "tuple",data:=.seq rest.toArray }
abbrev gf (C t:Addr):Obj:={ cls:=.ref C,data:=.fields #[.ref t,.none,.none,.none,.bool false,.none] }
theorem pE (F:ExcBaseFacts B newId initId bmB)(T:OwnTail h bmB bm){p:Str->Option T0}{rest:List T0}{Q:Fin->T1->Prop}{f:Addr}{x:Obj}
  (j:h.get? C=some (excClassObj nm q C N bs bm hdct sn sub ab col dd k0 k1 k2 k3 k5 newId)) (G:h.Ns N p) (hi:p "__init__" = some (.ref f)) (H:h.get? f=some x) (n:x.cls=.type "function")
  (D:codeAny (model prog w) A (.call (.ref f) ⟨.ref (h.objs.size + 1) :: rest,[]⟩) (PySem.W.InitBack (h.objs.size + 1) λr u=>match r with | .ok v=>Q (.done v) u | .error e=>E e u)
   ⟨(h.push (ge rest)).push (gf C h.objs.size),g,d,t,os⟩) (hrest:rest.length<=sizeLine:=by size_fits) :
  wpAny (model prog w) A (Builtin.«type.__call__» ⟨.ref C :: rest,[]⟩) Q E ⟨h,g,d,t,os⟩:=by
 repeat (first|with_reducible refine XT j ?_|with_reducible refine wpAny_madeBy_exc j ?_|wp_step)
 refine codeAny_call_builtin_code (Code.quiet_builtin _ F.quiet) (wpAny_check_new_subT F T j ?_);refine codeAny_exc_new_subT F T j ?_ hrest;show wpAny _ _ _ _ _ _;have k:∀b o,h.get? b=some o->((h.push (ge rest)).push (gf C h.objs.size)).get? b=some o:=λb o e=>ZG _ (ZG _ e);have a := k _ _ j;have c := k _ _ H;have i : ((h.push (ge rest)).push (gf C h.objs.size)).Ns N p:=G.keeps k;have m:((h.push (ge rest)).push (gf C h.objs.size)).get? (h.objs.size + 1)=some (gf C h.objs.size):=by heap_get
 have s:(Value.ref C :: bm).contains (.ref C)=true:=by simp
 have l := T.keeps k;unfold isInstance
 repeat (first|with_reducible refine XT m ?_|(with_reducible refine wpAny_isSubtype_exc a ?_;rw[s])|wp_step)
 show wpAny _ _ (typeLookup (.ref C) _) _ _ _;refine wpAny_typeLookup_tail a i l F.mroIs F.init.lookup ?_;rw[hi];have y:PySem.W.Looks (model prog w) ((h.push (ge rest)).push (gf C h.objs.size)) (bindSpecial (.ref f) (.ref (h.objs.size + 1))) (.ref f,[.ref (h.objs.size + 1)]):=by
  unfold bindSpecial;exact((PySem.W.Looks.ld c).andThen PySem.W.Looks.now).andThen (PySem.W.Looks.of_pure (by rw[n];kernel_rfl))
 refine Y1 (yC (y.here ?_));refine yC (wpAny_call (WI D λr u z => ?_));rcases r with e|(v|_|_|_)<;>first|exact z|exact z.elim|skip
 obtain⟨rfl,z⟩:=z;exact wW (wW z)
theorem Az (F:ExcBaseFacts B newId initId bmB)(T:OwnTail h bmB bm){c:Str->Option T0}{rest:List T0}{R:Result->T1->Prop}{f:Addr}{i:Obj}
  (a:h.get? C=some (excClassObj nm q C N bs bm hdct sn sub ab col dd k0 k1 k2 k3 k5 newId)) (k:h.Ns N c) (hi:c "__init__" = some (.ref f)) (l:h.get? f=some i) (b:i.cls=.type "function")
  (j:codeAny (model prog w) (A.under (.builtin "type.__call__" ⟨.ref C :: rest,[]⟩)) (.call (.ref f) ⟨.ref (h.objs.size + 1) :: rest,[]⟩) (PySem.W.InitBack (h.objs.size + 1) R)
   ⟨(h.push (ge rest)).push (gf C h.objs.size),g,d,t,os⟩) (hrest:rest.length<=sizeLine:=by size_fits) :
  codeAny (model prog w) A (.call (.ref C) ⟨rest,[]⟩) R ⟨h,g,d,t,os⟩:=by
 have m:=tc_lookup;have n:=tc_bind (.ref C);have o:(⟨h,g,d,t,os⟩ : T1).TypeIs (.ref C) "type" := ⟨_,a,rfl⟩;refine codeAny_of_tree ?_;show wpAny _ _ (callAny (.ref C) _) _ _ _
 repeat (any_goals (first|assumption|with_reducible refine XT a ?_|wp_step))
 refine⟨rfl,?_⟩;refine codeAny_call_builtin_at (Code.quiet_builtin _ (by decide +kernel)) entry_typeCall (wpAny_check_type_call_sub a (pE (hrest:=hrest) F T a k hi l b ?_));refine WI j λr p z => ?_;rcases r with e|(v|_|_|_)<;>first|exact z|exact z.elim|skip
end
end Fm
set_option maxHeartbeats 4000000
namespace Fm
open PySem L2
abbrev veM:List T0:=[.type "ValueError",.type "Exception",.type "BaseException",.type "object"]
section
variable {prog:T3} {w:T4} {A:T2} {E:T0->T1->Prop} {K:ZW} {C M x:Addr} {o:Obj} {h:Heap} {g:Array GenState} {d:Drawn} {t:Nat} {os:OsState} {name:Str} {v:T0}
structure uh (K:ZW) (C M:Addr) (name:Str):Prop where
 sa:PySem.W.findIn K (.ref C) "__setattr__" = some (some (.builtin "object.__setattr__"))
 mro:(PySem.W.clsIn K C).map (·.mro)=some (.ref C :: .ref M :: veM)
 tk:PySem.W.takerIn K C name=some none
 hd:PySem.W.hasDictIn K C=true
theorem AA {tk:Tok}{Q:PySem.Fin->T1->Prop}(Z:uh K C M name)(X:K.In h)(I:jt h x C o)(hd:o.dict=none)(a3:∀c,o.data ≠ .cls c)
  (hq:∀h' B,h'.get? x=some { o with dict:=some h.objs.size }->h'.Ns1 h.objs.size (λy=>if y=name then some v else none)->(∀b ob,b≠x->h.get? b=some ob->h'.get? b=some ob)->Q (.done (.ret .none)) ⟨h',g,d,B,os⟩) :
  wpAny (model prog w) A (Builtin.«object.__setattr__» ⟨[.ref x,.str name tk,v],[]⟩) Q E ⟨h,g,d,t,os⟩:=by
 obtain⟨cd,hc,q⟩:=YS.mp Z.mro;have n:=I.at_;have T:=I.type (M:=model prog w);have hm:PySem.W.Looks (model prog w) h (mroOf (.ref C)) (.ref C :: .ref M :: veM):=q ▸ (PySem.W.looks_clsIn X hc).andThen .now;obtain⟨j,U,P⟩:=Option.bind_eq_some_iff.mp Z.tk;have L3:PySem.W.Looks (model prog w) h (Builtin.ObjectAttr.storeTaker? j) none:=by
  cases j with
  | none=>cases P;exact .now
  | some a =>
   obtain⟨b,p,u⟩:=YS.mp P;refine(PySem.W.looks_takesIn X p).andThen ?_;cases b
   ·exact .now
   ·cases u
 rw[PySem.W.osa_eq,PySem.refuse_eq];refine yC (yC (T.here (yC (hm.here ?_))));rw[refuseLoop_ref,refuseLoop_ref,F.store_ValueError.passes];refine wW (yC (T.here (yC ((XA X U).here (yC (L3.here ?_))))));have W:(Value.ref C == Value.type "module")=false:=rfl;have f : (h.push { cls:=.type "dict",data:=.dict #[] }).get? x=some o:=ZG _ n;have k:x≠h.objs.size:=ZM (ZH n);have m:=I.cls;show wpAny _ _ (Builtin.ObjectAttr.storeInOwnDict _ _ _ _ _ _) _ _ _;unfold Builtin.ObjectAttr.storeInOwnDict
 repeat (first|(with_reducible refine XT n ?_;rw[m])|wp_step)
 obtain⟨a0,z,hd'⟩:=PySem.W.any_some Z.hd;have i:=z;unfold PySem.W.clsIn at i;split at i
 ·rename_i c0 d0 R a2 ho
  cases i;refine wpAny_load (X _ _ ho) (wW ?_);rw[hd'];simp only[Bool.not_true,YP,WB,hd];rw[wR (by simp[typeHasDict])]
  ·refine yC (wpAny_alloc' ?_)
   refine yC (wpAny_update' f ?_);refine wW ?_;have N:((h.push { cls:=.type "dict",data:=.dict #[] }).update x λo=>{ cls:=o.cls,dict:=some h.objs.size,data:=o.data,slots:=o.slots }).get? h.objs.size
     = some { cls:=.type "dict",data:=.dict #[] } :=
    (XD _ _ _ _ k.symm).trans (Heap.get?_push_at rfl rfl)
   have s:((h.push { cls:=.type "dict",data:=.dict #[] }).update x λo=>{ cls:=o.cls,dict:=some h.objs.size,data:=o.data,slots:=o.slots }).Ns h.objs.size (λ_=>none) :=
    ⟨_,#[],_,N,rfl,λe V=>absurd V (by simp),λ_=>rfl⟩
   show wpAny _ _ (Builtin.ObjectAttr.storeInDict h.objs.size (.str name tk) name v) _ _ _;unfold Builtin.ObjectAttr.storeInDict Builtin.ObjectAttr.newKeyGuard;refine yC (wW (yC (wpAny_nsSet1 (Heap.Ns1.of_empty s) λh' l O => ?_)));obtain⟨oD,S,Y,L,J,H⟩:=l.count (Within.cons name v Within.nil);refine yC (wpAny_lookBehind L (by rw[J];exact pastItsLine_dict (ZL H (by rw[ZX,Z3,YM];omega))) ?_)
   wp_walk
   refine hq h' _ ?_ l (λb ob G p => ?_)
   ·refine(O.2 x k).trans (Heap.get?_update_self _ f ?_)
    have D:=(Heap.get?_some_iff.mp n).2;obtain⟨oc,od,r,a1⟩:=o;cases r<;>first|rfl|exact D
   ·exact(O.2 b (ZM (ZH p))).trans ((XD _ _ _ _ G).trans (ZG _ p))
 ·cases i
theorem Eo {Q:Unit->T1->Prop}(Z:uh K C M name)(X:K.In h)(I:jt h x C o)(hd:o.dict=none)(j:∀c,o.data ≠ .cls c)
  (k:∀h' f,h'.get? x=some { o with dict:=some h.objs.size }->h'.Ns1 h.objs.size (λy=>if y=name then some v else none)->(∀b ob,b≠x->h.get? b=some ob->h'.get? b=some ob)->Q () ⟨h',g,d,f,os⟩) :
  wpAny (model prog w) A (setAttr (.ref x) name v) Q E ⟨h,g,d,t,os⟩:=by
 have T:=I.type (M:=model prog w);obtain⟨m,l,i⟩:=YS.mp Z.mro;have sub:PySem.W.Looks (model prog w) h (isInstance (.ref x) (.type "object")) true:=T.andThen (PySem.W.looks_mroIn X (by unfold PySem.W.mroIn;rw[l,Option.bind_some,i];rfl));have SF:=F.store_object;refine yC (wpAny_mkText (yC (yC (yC (T _ _ _ _ (λ_ _ e=>e) (XA X Z.sa _ _ _ _ (λ_ _ e=>e) (Y1 ?_)))))));rw[F.store_object.slot.bind];refine yC (wW (yC (wpAny_call ?_)));refine WZ SF.slot.plain SF.entry (@PySem.W.check_slot (model prog w) _ _ _ "object.__setattr__" "object" "__setattr__" (.ref x) [.str name _,v] [] _ SF.kind SF.split sub (SF.args (.ref x) (.str name _) v) ?_);refine AA Z X I hd j λh' f a b c => ?_;exact wW (wW (k h' f a b c))
end
end Fm
set_option maxHeartbeats 4000000
namespace Fm
open PySem L2 PySem.Spec PyProof.Rows
abbrev mC (C t:Addr) (dd:Option Addr):Obj:={ cls:=.ref C,dict:=dd,data:=.fields #[.ref t,.none,.none,.none,.bool false,.none] }
def exO (a C t:Addr) (dd:Option Addr):HO:=.ext λh=>h.get? a=some (mC C t dd)
section
variable {X:Cx} {pins:List (Addr × Obj)} {σ:L2.St} {H:Hp} {s:T1} {h':Heap} {a C M t:Addr} {f:Str} {y:V} {u:T0}
theorem CB {P:T3}{w:T4}{dd:Option Addr}(e:h'.get? a=some (mC C t dd)):dk P w H h' a (exO a C t dd) :=
 ⟨e,⟨_,e⟩,λc b z k=>k _ z⟩
theorem ui {P:T3}{w:T4}{h:Heap}{dd:Option Addr}(x:HOk P w H h)(e:H a=some (exO a C t dd)):h.get? a=some (mC C t dd):=(x a _ e).1
theorem xW {t':Nat}(I:Inv X pins σ H s)(e:H a=some (exO a C t none))(w:bF y u)(h1:h'.get? a=some (mC C t (some s.heap.objs.size)))
  (p:h'.Ns1 s.heap.objs.size (λz=>if z=f then some u else none)) (k:∀b ob,b≠a->s.heap.get? b=some ob->h'.get? b=some ob) :
  Inv X pins σ (upd (upd H a (exO a C t (some s.heap.objs.size))) s.heap.objs.size (.xd [(f,y)])) { s with heap:=h',toks:=t' }:=by
 have l:∀b ob,s.heap.get? b=some ob->b≠s.heap.objs.size:=λb ob q=>ZM (ZH q);have E:a≠s.heap.objs.size:=l a _ (ui I.hok e);have h:∀b,b≠a->b≠s.heap.objs.size->upd (upd H a (exO a C t (some s.heap.objs.size))) s.heap.objs.size (.xd [(f,y)]) b=H b:=λb B A=>by rw[aF A,aF B]
 have ne:∀b,H b=none->b≠a:=λb q z=>by rw[z,e]at q;cases q
 have i:∀b v,H b=some v->v≠exO a C t none->b≠a:=λb v q n z=>by rw[z,e]at q;exact n (ZS q).symm
 have nb:∀b v,H b=some v->b≠s.heap.objs.size:=λb v q=>by obtain⟨ob,z⟩:=(I.hok b v q).obj;exact l b ob z
 refine I.un ⟨λb o q n _ _=>k b o (ne b n) q,λb o q n _ _=>⟨o.slots,k b o (ne b n) q⟩,λb o q n _ => ?_,λb o q _ => ?_,λb x q => ?_,λb o v q => ?_,λb D q=>⟨#[],?_⟩⟩ λb v q => ?_
 ·rw[h b (ne b n) (l b o q)];exact n
 ·by_cases z:b=a
  ·subst z;exact⟨_,h1⟩
  ·exact⟨o,k b o z q⟩
 ·rw[h b (i b _ q (by intro z;cases z)) (nb b _ q)];exact q
 ·rw[h b (i b _ q (by intro z;cases z)) (nb b _ q)];exact q
 ·rw[h b (i b _ q (by intro z;cases z)) (nb b _ q),q,Array.append_empty]
 ·by_cases z:b=s.heap.objs.size
  ·subst z
   rw[aM]at q;cases q;refine⟨_,p,λg => ?_⟩;show qt (List.lookup g [(f,y)]) (if g=f then some u else none)
   by_cases z:g=f
   ·subst z;simp[List.lookup];exact w
   ·have r:(g == f)=false:=beq_eq_false_iff_ne.mpr z
    simp only[List.lookup,r,wR z];trivial
  ·by_cases m:b=a
   ·subst m
    rw[aF z,aM]at q;cases q;exact CB h1
   ·rw[h b m z]at q
    refine(I.hok b v q).stay (λc o j d=>k c o ?_ d) (λc d => ?_) λc x d => ?_
    ·rcases j with rfl|j
     ·exact m
     ·exact i c _ j (by intro z;cases z)
    ·rw[h c (i c _ d (by intro z;cases z)) (nb c _ d)];exact d
    ·rw[h c (i c _ d (by intro z;cases z)) (nb c _ d)];exact d
def JM (K:ZW) (ta tv:TE) (f:Str):TS:=λD σ H=>tv σ H λy H1=>ta σ H1 λx H2=>∃a C M t,x=.ref a/\H2 a=some (exO a C t none)/\uh K C M f/\
 ∀dx,H2 dx=none->D.nx σ (upd (upd H2 a (exO a C t (some dx))) dx (.xd [(f,y)]))
theorem GH {o b:Expr}{pos d:Pos}{j g:TE}(n:PE X o j)(L:PE X b g)(E:swapsWith b (some (.Attribute o f d)) pos.line X.env=pure false):PS X (.Assign [.Attribute o f d] b pos) (JM X.K j g f):=by
 intro pins s σ H D I h;refine plainObj_wpAny_Assign_Attribute (thn (L pins s σ H _ I h) λu B ⟨y,F,m,r,q⟩=>thn (n pins B σ F _ m q) λov p ⟨x,N,e,v,a,C,M,t,J,i,z,A⟩ => ?_) E;subst J;obtain rfl:ov=Value.ref a:=v;have l:=e.fresh;obtain⟨O,Q,R,S,P⟩:=p;exact Eo z e.kIn ⟨ui e.hok i,rfl⟩ rfl (by intro c z;cases z) λh' K G k w=>⟨σ,_,xW e i r G k w,A _ l⟩
end
end Fm
set_option maxHeartbeats 4000000
namespace Fm
open PySem L2 PySem.Spec PyProof.Rows
def drop (H:Hp) (a:Addr):Hp:=λb=>if b=a then none else H b
theorem AB {H:Hp}{a:Addr}:drop H a a=none:=yD rfl
theorem zw {H:Hp}{a b:Addr}(h:b≠a):drop H a b=H b:=wR h
theorem j8 {H:Hp}{a b:Addr}(h:H b=none):drop H a b=none:=by unfold drop;split<;>first|rfl|exact h
theorem sf {H:Hp}{a b:Addr}{u:HO}(h:drop H a b=some u):b≠a/\H b=some u:=by
 unfold drop at h;split at h
 ·cases h
 ·exact⟨‹_›,h⟩
section
variable {X:Cx} {pins:List (Addr × Obj)} {σ:L2.St} {H:Hp} {s:T1} {h':Heap} {a C M t:Addr} {dd:Option Addr}
theorem CC (I:Inv X pins σ H s)(e:H a=some (exO a C t dd)):Inv X pins σ (drop H a) s:=by
 have d:∀b v,H b=some v->v≠exO a C t dd->drop H a b=some v:=λb v q n=>by
  rw[zw (λz=>by rw[z,e]at q;exact n (ZS q).symm)];exact q
 refine⟨I.ok,I.os,I.bare,⟨I.base.keep,I.base.slot,λb o q n k=>j8 (I.base.free b o q n k),I.base.there,λb f q=>d b _ (I.base.tups b f q) (by intro z;cases z),
  λb o u q=>d b _ (I.base.frzs b o u q) (by intro z;cases z),λb h q => ?_⟩,I.loc,I.cell,j8 I.free,λx c q=>j8 (I.freeC x c q),λp l => ?_,λb u q => ?_,I.len⟩
 ·obtain⟨m,z⟩:=I.base.tbls b h q
  exact⟨m,d b _ z (by intro z;cases z)⟩
 ·obtain⟨g,i,j⟩:=I.pin p l
  exact⟨g,j8 i,j⟩
 ·obtain⟨n,q⟩:=sf q
  exact(I.hok b u q).stay (λ_ _ _ z=>z) (λc z=>d c _ z (by intro z;cases z)) λc f z=>d c _ z (by intro z;cases z)
def XF2 (X:Cx) (E:Addr->Option Addr->Hp->Prop) (e:T0) (s':T1):Prop:=∃pins σ H a C B t oe,e=.ref a/\Inv X pins σ H s'/\Heap.FlyingW B X.stack a (.ref C) (.ref t) s'.heap/\Cov X pins H B/\s'.heap.get? a=some oe/\E C oe.dict H
def JN (X:Cx) (pins:List (Addr × Obj)) (σ:L2.St) (H:Hp) (a C:Addr) (dd:Option Addr) (s':T1):Prop :=
 (∃t H0,Inv X pins σ H0 s'/\H0 a=some (exO a C t dd)/\X.s₀.heap.objs.size<=a/\H=drop H0 a)\/
 (∃B t oe,Inv X pins σ H s'/\Heap.FlyingW B X.stack a (.ref C) (.ref t) s'.heap/\Cov X pins H B/\s'.heap.get? a=some oe/\oe.dict=dd)
def XP2 (X:Cx) (E:Addr->Option Addr->Hp->Prop) (e:T0) (s':T1):Prop:=∃pins σ H a C dd,e=.ref a/\JN X pins σ H a C dd s'/\E C dd H
def CX2 (P:T3) (w:T4):CXT:=λouter H s E e s'=>∃a C B t H' oe,e=.ref a/\s'.os=s.os/\AllBare s'.gens/\Un (frs outer) [] H H' s.heap s'.heap/\HOk P w H' s'.heap/\
 Heap.FlyingW B outer a (.ref C) (.ref t) s'.heap/\(∀b u,H' b=some u->∃o,B.get? b=some o)/\(∀b o,s.heap.get? b=some o->b∉frs outer->∃o,B.get? b=some o)/\s'.heap.get? a=some oe/\E (.ref C) oe.dict H'
theorem XF2.xp {E:Addr->Option Addr->Hp->Prop}{e:T0}{d:T1}:XF2 X E e d->XP2 X E e d:=λ⟨pins,σ,H,a,C,B,t,b,h,I,f,c,g,q⟩=>⟨pins,σ,H,a,C,b.dict,h,.inr ⟨B,t,b,I,f,c,g,rfl⟩,q⟩
theorem GI {E:XK}{E':Addr->Option Addr->Hp->Prop}{R:T0->T1->Prop}(h:∀C dd H,E (.ref C) dd H->E' C dd H)(i:∀e d,XF2 X E' e d->R e d):jw (CX2 X.prog X.w) (X.wish R) E:=by
 rintro pins σ H s e d I ⟨a,C,B,t,f,j,l,w,bare,m,hok,D,trk,old,g,q⟩;have c:=I.unwish;have x:Inv X pins σ f d:=c.call' w m hok bare (λb z=>absurd z (by simp));refine i _ _ ⟨pins,σ,f,a,C,B,t,j,l,x,D,⟨trk,λb o e k y => ?_,λp A => ?_⟩,g,h C _ f q⟩
 ·obtain⟨u,v⟩:=c.base.there b o e y
  exact old b u v k
 ·obtain⟨e,n,ne,r,_⟩:=c.pin p A
  exact old p.1 p.2 e λz=>(wU.mp (c.stkSub p.1 z)).elim ne r
theorem AC (I:Inv X pins σ H s)(e:H a=some (exO a C t dd))(h:X.s₀.heap.objs.size<=a):Cov X pins (drop H a) (PySem.W.hideAll s.heap (a :: frs X.stack)) where
 trk:=λb u q=>by
  obtain⟨n,q⟩:=sf q;obtain⟨o,z⟩:=(I.hok b u q).obj;refine⟨o,W8 _ z λz => ?_⟩;rcases wU.mp z with z|z
  ·exact n z
  ·rw[I.stkFree b z]at q;cases q
 old:=λb o q g i=>by
  obtain⟨d,f⟩:=I.base.there b o q i;refine⟨d,W8 _ f λz => ?_⟩;rcases wU.mp z with z|z
  ·subst z;exact absurd (ZH q) (WY.mpr h)
  ·exact g z
 pin:=λp j=>by
  obtain⟨q,n,ne,c,_⟩:=I.pin p j;refine⟨_,W8 _ q λz => ?_⟩;rcases wU.mp z with z|z
  ·rw[z,e]at n;cases n
  ·exact(wU.mp (I.stkSub p.1 z)).elim ne c
end
theorem fz {P:T3}{w:T4}{K:ZW}{mg:Str->Option T0}{base:Heap}{N:List Str}{d:Str}{scope:Scope}{f:Addr}{j:T0}{A:T2}{outer:List Env}{s:T1}{H:Hp}{E:XK}{e:T0}{k:T1}
  (h:XP2 (kQ (CX2 P w) P w K mg base N d scope f j A outer s H E) (λC dd v=>E (.ref C) dd v) e k):(kQ (CX2 P w) P w K mg base N d scope f j A outer s H E).xe e k:=by
 obtain⟨pins,σ,v,a,C,dd,rfl,hx,q⟩:=h;have fin:∀{m:T1} {B:Heap} {i:Heap} {t:Addr} {n:Obj},Inv (kQ (CX2 P w) P w K mg base N d scope f j A outer s H E) pins σ v m->B.StaysIn m.heap->m.heap.UpToSlots i->
   Cov (kQ (CX2 P w) P w K mg base N d scope f j A outer s H E) pins v B->Heap.FlyingW B outer a (.ref C) (.ref t) i->m.heap.get? a=some n->n.dict=dd->jn m.heap i->CX2 P w outer H s E (.ref a) { m with heap:=i }:=by
  intro m B i t n I T sm c x g gd r;have J:=I.flown T x.1 sm c m.toks;obtain⟨W,Y,O⟩:=r a n g;refine⟨a,C,B,t,v,W,rfl,J.os,J.bare,J.base,J.hok,x,c.trk,λb o e L=>c.old b o e (λz => ?_) (λz=>absurd (show b∈([] : List Addr) from z) (by simp)),Y,by rw[O,gd];exact q⟩;rcases wU.mp (I.stkSub b z) with y|y
  ·exact absurd y (ZM (ZY (ZH e) I.ok.above))
  ·exact L y
 rcases hx with ⟨t,H0,I,u,V,rfl⟩|⟨B,t,n,I,x,c,g,gd⟩
 ·have D:∀env∈(envOfC d scope s.heap.objs.size f j :: outer),∀b,env.frame=some b->b∈a :: frs (envOfC d scope s.heap.objs.size f j :: outer):=λenv u b L=>.tail _ (Y9.mpr ⟨env,u,L⟩)
  have S:=ui I.hok u;have l:Heap.StaysIn (PySem.W.hideAll k.heap (a :: frs (envOfC d scope s.heap.objs.size f j :: outer))) k.heap:=λb o q=>PySem.W.of_hideAll _ q;have G:=wpAny_leaving_firstW (M:=model P w) (A:=A.deeper (envOfC d scope s.heap.objs.size f j)) (E:=λ_ _=>False) (a0:=.ref t) I.ok.frames (PySem.W.funFrames_hide I.stack D) rfl S l (PySem.W.hideAll_none _ (.head _)) rfl rfl rfl
   (Q:=λ_ p=>∃i,p = { k with heap:=i }/\Heap.LeftW (PySem.W.hideAll k.heap (a :: frs (envOfC d scope s.heap.objs.size f j :: outer))) (envOfC d scope s.heap.objs.size f j :: outer) a (.ref C) (.ref t) k.heap i) λi hL=>⟨i,rfl,hL⟩
  refine YY (jK pD G) ?_ λ_ _ z=>z.1.elim;rintro _ p ⟨⟨i,rfl,U,⟨_,_,k2⟩,X,Z⟩,r⟩;exact fin (CC I u) l Z (AC I u V) ⟨U,PySem.W.hideAll_none _ (.head _),k2,X⟩ S rfl r
 ·have G:=wpAny_leaves_onW (M:=model P w) (A:=A.deeper (envOfC d scope s.heap.objs.size f j)) (E:=λ_ _=>False) I.ok.frames rfl x
   (Q:=λ_ p=>∃i,p = { k with heap:=i }/\Heap.FlyingW B outer a (.ref C) (.ref t) i/\k.heap.UpToSlots i) λi F R=>⟨i,rfl,F,R⟩
  refine YY (jK pD G) ?_ λ_ _ z=>z.1.elim;rintro _ p ⟨⟨i,rfl,F,R⟩,r⟩;exact fin I x.1 R c F g gd r
structure CF (x:Str) (C f:Addr) (bmB:List T0) (newId:String) (mg:Str->Option T0) (h:Heap):Prop where
 bound:mg x=some (.ref C)
 obj:∃bm N nm q bs hdct sn sub ab col dd k0 k1 k2 k3 k5 mN,h.get? C=some (excClassObj nm q C N bs bm hdct sn sub ab col dd k0 k1 k2 k3 k5 newId)/\h.Ns N mN/\mN "__init__" = some (.ref f)/\OwnTail h bmB bm
 fn:∃of:Obj,h.get? f=some of/\of.cls=.type "function"
def mD (K:ZW) (fl:Str):Sp:=λvs H Q _=>∃a C M t y,vs=[.ref a,y]/\H a=some (exO a C t none)/\uh K C M fl/\∀dx,H dx=none->Q .non (upd (upd H a (exO a C t (some dx))) dx (.xd [(fl,y)]))
section
variable {X:Cx} {pins:List (Addr × Obj)} {σ:L2.St} {H:Hp} {s:T1} {C M f:Addr} {fd:FuncData} {ps:List Str} {x fl:Str} {k:Nat} {bm:List T0} {B newId initId:String}
theorem CG {Q:T0->T1->Prop}{u:T0}{v:V}(O:CF x C f bm newId X.mg X.base)(FB:ExcBaseFacts B newId initId bm)(F:cM X.prog X.w X.K X.mg X.base (CX2 X.prog X.w) k f fd ps (mD X.K fl))(hr:du (k + 1) X.A)
  (Y:eQ X.K fd ps []) (Z:uh X.K C M fl) (I:Inv X pins σ H s) (r:bF v u)
  (h:∀a t c m i,Inv X pins σ m i->H a=none->H c=none->c≠a->X.s₀.heap.objs.size<=a->m=upd (upd (upd H a (exO a C t none)) a (exO a C t (some c))) c (.xd [(fl,v)])->Q (.ref a) i) :
  wpAny (model X.prog X.w) X.A (call (.ref C) [u]) Q X.xe s:=by
 obtain⟨tl,N,nm,q,bs,hdct,sn,sub,ab,col,dd,k0,k1,k2,k3,k5,mN,hC,L,l,T⟩:=O.obj;obtain⟨of,hf,w⟩:=O.fn;have J:=I.kept (h':=s.heap.push (ge [u])) (t':=s.toks) λb o e=>ZG _ e;have U:((s.heap.push (ge [u])).push (gf C s.heap.objs.size)).get? (s.heap.objs.size + 1)=some (mC C s.heap.objs.size none):=by heap_get
 have A:=J.laid (a:=s.heap.objs.size + 1) (o:=exO (s.heap.objs.size + 1) C s.heap.objs.size none) (h':=(s.heap.push (ge [u])).push (gf C s.heap.objs.size)) (t':=s.toks)
  (λb o e=>ZG _ e) (Nat.le_of_eq (Heap.size_push _ _)) (CB U)
 have p:H (s.heap.objs.size + 1)=none:=I.hok.fresh (Nat.le_succ _);have D:mD X.K fl [.ref (s.heap.objs.size + 1),v] (upd H (s.heap.objs.size + 1) (exO (s.heap.objs.size + 1) C s.heap.objs.size none))
   (λy W=>y=.non/\∃c,H c=none/\c≠s.heap.objs.size + 1/\W=upd (upd (upd H (s.heap.objs.size + 1) (exO (s.heap.objs.size + 1) C s.heap.objs.size none)) (s.heap.objs.size + 1) (exO (s.heap.objs.size + 1) C s.heap.objs.size (some c))) c (.xd [(fl,v)])) (λ_ _ _=>False) :=
  ⟨_,C,M,_,v,rfl,aM,Z,λc g=>by
   have n:c≠s.heap.objs.size + 1:=λz=>by rw[z,aM]at g;cases g
   exact⟨rfl,c,by rw[aF n]at g;exact g,n,rfl⟩⟩
 have E:aY [V.ref (s.heap.objs.size + 1),v] [Value.ref (s.heap.objs.size + 1),u]:=.cons rfl (.cons r .nil);have R:(Value.ref (s.heap.objs.size + 1) :: [u]++[]).length=ps.length:=by
  have e:=E.length;rw[F.len _ _ _ _ D]at e;exact e.symm
 refine wpAny_call (Az (hrest:=by show 1<=sizeLine;rw[YM];omega) FB (T.keeps I.bk) (I.bk _ _ hC) (L.keeps I.bk) l (I.bk _ _ hf) w ?_);refine WI (F.run _ X.stack _ _ ⟨[Value.ref (s.heap.objs.size + 1),u],[]⟩ [Value.ref (s.heap.objs.size + 1),u] _ _ (λ_ _ _=>False) (hr.make C [u] []) (A.env0.make C [u] []) (Y _ [Value.ref (s.heap.objs.size + 1),u] A.kIn R) E D) λr i d => ?_;cases r with
 | error e=>obtain⟨_,_,_,_,_,_,_,_,_,_,_,_,_,_,_,z⟩:=d;exact z.elim
 | ok K =>
  cases K with
  | ret u' =>
   obtain⟨y,m,S,G,P,c,j,nd,rfl⟩:=A.after d;subst P;refine⟨G,?_⟩;exact h _ _ c _ i S p j nd (ZL I.sz (Nat.le_succ _)) rfl
  | next=>exact False.elim d
  | brk=>exact False.elim d
  | cont=>exact False.elim d
end
end Fm
set_option maxHeartbeats 4000000
namespace Fm
open PySem L2 PySem.Spec PyProof.Rows
section
variable {M:Model} {A:T2} {E:T0->T1->Prop} {env:Env}
variable {nm q:Str} {C N:Addr} {bs bm:List T0} {hdct:Bool} {sn:List Str} {sub:List T0} {ab:Bool} {col:Option Bool} {dd:Option Addr} {k0 k1 k2 k3 k5:Option T0} {newId:String}
theorem qE {s:T1} {x:Sem T0} {Q:Flow->T1->Prop} (b:bm.contains (.type "BaseException")=true) (m:A.handled=none)
  (h:wpAny M A x (λv a => ∃e t f,v=.ref e/\a.heap.get? C=some (excClassObj nm q C N bs bm hdct sn sub ab col dd k0 k1 k2 k3 k5 newId)/\a.heap.get? e=some (mC C t f)/\E (.ref e) a) E s) :
  wpAny M A (raiseStmt env (some x) none) Q E s:=by
 have i:(Value.ref C :: bm).contains (.type "BaseException")=true:=by rw[List.contains_cons,b,Bool.or_true]
 unfold raiseStmt;refine yC (YY h (λv a c => ?_) λ_ _ x=>x);obtain⟨e,t,f,rfl,j,l,k⟩:=c;obtain⟨p,g,d,o,n⟩:=a
 repeat (first|with_reducible refine XT l ?_|with_reducible refine XT j ?_|(with_reducible refine wpAny_isSubtype_exc j ?_;rw[i])|wp_step)
 exact wpAny_raiseNew_none m k
end
section
variable {X:Cx} {pins:List (Addr × Obj)} {σ:L2.St} {H:Hp} {s:T1} {C M f:Addr} {fd:FuncData} {ps:List Str} {x fl:Str} {k:Nat} {bm:List T0} {B newId initId:String} {np cpos pos:Pos} {e₀ : Expr} {ta:TA} {E:Addr->Option Addr->Hp->Prop}
def Ep (C:Addr) (fl:Str) (E:Addr->Option Addr->Hp->Prop) (ta:TA):TS:=λ_ σ H=>ta σ H λvs H1=>∃v,vs=[v]/\∀dx,H1 dx=none->E C (some dx) (upd H1 dx (.xd [(fl,v)]))
theorem AD (O:CF x C f bm newId X.mg X.base)(w:ExcBaseFacts B newId initId bm)(F:cM X.prog X.w X.K X.mg X.base (CX2 X.prog X.w) k f fd ps (mD X.K fl))(hr:du (k + 1) X.A)(hb:eQ X.K fd ps [])(Z:uh X.K C M fl)
  (hc:X.calm=true) (Y:Gl X x) (P:PA (X.wish (XP2 X E)) [e₀] ta) (l:(x == ("__debug__" : Str))=false:=by decide)
  (he:starEach [e₀] X.env=[(false,eval e₀ X.env)]:=by rfl) :
  PS (X.wish (XP2 X E)) (.Raise (some (.Call (.Name x np) [e₀] [] cpos)) none pos) (Ep C fl E ta):=by
 intro pins s σ H D I h;obtain⟨tl,N,nm,q,bs,hdct,sn,sub,ab,col,dd,k0,k1,k2,k3,k5,mN,G,hN,R,T⟩:=O.obj;have W:(backTo cpos (starEach [e₀] X.env)).any (·.1)=false:=by rw[he];rfl
 rw[arm_exec_Raise];refine yC (VB (qE (C:=C) (nm:=nm) (q:=q) (N:=N) (bs:=bs) (bm:=tl) (hdct:=hdct) (sn:=sn) (sub:=sub) (ab:=ab) (col:=col) (dd:=dd) (k0:=k0) (k1:=k1) (k2:=k2) (k3:=k3) (k5:=k5) (newId:=newId) (T.hasType w.hasBase) (I.ok.hd hc)
  (yC (YY (wpAny_Call_ofName (kN I Y O.bound ?_ l)) (λv o e => yC (VB (wW e))) λ_ _ x=>x))))
 unfold callWith;have m:=P cpos pins s σ H _ I h;have i:starEach [e₀] (X.wish (XP2 X E)).env=[(false,eval e₀ X.env)]:=he;rw[i]at m ⊢;refine yC (Y1 (Calls.evalArgs_plain (YY m (λus Q h3 => ?_) λ_ _ z=>z)));obtain⟨vs,j,n,r,v,rfl,q1⟩:=h3;obtain⟨u,rfl⟩ : ∃u,us=[u]:=by cases r with|cons a b=>cases b;exact⟨_,rfl⟩
 have K:bF v u:=by cases r with|cons a b=>exact a
 refine yC (VB ?_);obtain⟨hp,g,d,tk,os⟩:=Q;dsimp only;refine yC (wpAny_keeperOf_exc (n.bk _ _ G) ?_);refine yC (CG (X:=X.wish (XP2 X E)) O w F hr hb Z n K λa t c H' s' J V U p sz L=>yC (Y1 (wpAny_point (wW ?_))));subst L;have A:(upd (upd (upd j a (exO a C t none)) a (exO a C t (some c))) c (.xd [(fl,v)])) a=some (exO a C t (some c)):=by rw[aF (YV p),aM]
 refine⟨a,t,some c,rfl,J.bk _ _ G,ui J.hok A,pins,σ,_,a,C,some c,rfl,.inl ⟨t,_,J.unwish,A,sz,rfl⟩,?_⟩;have S:drop (upd (upd (upd j a (exO a C t none)) a (exO a C t (some c))) c (.xd [(fl,v)])) a=upd j c (.xd [(fl,v)]):=by
  funext b
  by_cases z:b=a
  ·subst z;rw[AB,aF (YV p),V]
  ·rw[zw z]
   by_cases y:b=c
   ·subst y;rw[aM,aM]
   ·rw[aF y,aF z,aF z,aF y]
 rw[S];exact q1 c U
end
end Fm
set_option maxHeartbeats 4000000
namespace Fm
open PySem L2 PySem.Spec PyProof.Rows
section
variable {M:Model} {A:T2} {E:T0->T1->Prop} {s:T1} {base:Heap} {env:Env} {outer l:List Env} {L e:Addr} {cls a0:T0} {Q:Unit->T1->Prop}
theorem GJ (d:A.frames=some (env :: outer))(h:env.frame=some L)(f:Heap.FlyingW base (env :: outer) e cls a0 s.heap)
  (i:∀h',Heap.HeldW base (env :: outer) e cls a0 L h'->s.heap.UpToSlots h'->jn s.heap h'->Q () { s with heap:=h' }):wpAny M A (noteFrame (.ref e) env) Q E s:=by
 refine YY (jK zv (wpAny_looks_onW (E:=λ_ _=>False) (Q:=λ_ g=>∃h',g = { s with heap:=h' }/\Heap.HeldW base (env :: outer) e cls a0 L h'/\s.heap.UpToSlots h') d h f λh' a b=>⟨h',rfl,a,b⟩)) ?_ λ_ _ z=>z.1.elim;rintro _ g ⟨⟨h',rfl,a,b⟩,c⟩;exact i h' a b c
theorem GK (f:Heap.HeldW base l e cls a0 L s.heap)(g:∀h',Heap.FlyingW base l e cls a0 h'->s.heap.UpToSlots h'->jn s.heap h'->Q () { s with heap:=h' }):wpAny M A (setFlight (.ref e) none) Q E s:=by
 refine YY (jK i3 (wpAny_landsW (E:=λ_ _=>False) (Q:=λ_ d=>∃h',d = { s with heap:=h' }/\Heap.FlyingW base l e cls a0 h'/\s.heap.UpToSlots h') f λh' a b=>⟨h',rfl,a,b⟩)) ?_ λ_ _ z=>z.1.elim;rintro _ d ⟨⟨h',rfl,a,b⟩,c⟩;exact g h' a b c
theorem GL (f:Heap.FlyingW base l e cls a0 s.heap)(g:∀h',Heap.FlyingW base l e cls a0 h'->s.heap.UpToSlots h'->jn s.heap h'->Q () { s with heap:=h' }):wpAny M A (setFlight (.ref e) none) Q E s:=by
 refine YY (jK i3 (lands_againW (E:=λ_ _=>False) (Q:=λ_ d=>∃h',d = { s with heap:=h' }/\Heap.FlyingW base l e cls a0 h'/\s.heap.UpToSlots h') f λh' a b=>⟨h',rfl,a,b⟩)) ?_ λ_ _ z=>z.1.elim;rintro _ d ⟨⟨h',rfl,a,b⟩,c⟩;exact g h' a b c
end
def uj (a C:Addr) (dd:Option Addr):HO:=.ext λh=>∃o,jt h a C o/\o.dict=dd/\PySem.W.notCls o=true
section
variable {X:Cx} {pins:List (Addr × Obj)} {σ:L2.St} {H:Hp} {s:T1}
theorem CH {B:Heap}{a C t:Addr}{d:Obj}(I:Inv X pins σ H s)(w:Heap.FlyingW B X.stack a (.ref C) (.ref t) s.heap)(c:Cov X pins H B)(g:s.heap.get? a=some d):Inv X pins σ (upd H a (uj a C d.dict)) s:=by
 have J:=I.exc w c;obtain⟨G,O,e,i,j,_⟩:=w.first;rw[g]at e;cases e;have f:∀b v,v≠oP a C->upd H a (oP a C) b=some v->upd H a (uj a C d.dict) b=some v:=λb v n q=>by
  by_cases z:b=a
  ·subst z;rw[aM]at q;cases q;exact absurd rfl n
  ·rw[aF z]at q ⊢;exact q
 have h:∀b,upd H a (oP a C) b=none->upd H a (uj a C d.dict) b=none:=λb q=>by
  by_cases z:b=a
  ·subst z;rw[aM]at q;cases q
  ·rw[aF z]at q ⊢;exact q
 refine⟨J.ok,J.os,J.bare,⟨J.base.keep,J.base.slot,λb o q n K=>h b (J.base.free b o q n K),J.base.there,λb r q=>f b _ (by intro z;cases z) (J.base.tups b r q),λb o u q=>f b _ (by intro z;cases z) (J.base.frzs b o u q),λb y q => ?_⟩,
  J.loc,J.cell,h _ J.free,λx c q=>h _ (J.freeC x c q),λp L => ?_,λb u q => ?_,J.len⟩
 ·obtain⟨m,z⟩:=J.base.tbls b y q
  exact⟨m,f b _ (by intro z;cases z) z⟩
 ·obtain⟨A,E,F⟩:=J.pin p L
  exact⟨A,h _ E,F⟩
 ·by_cases z:b=a
  ·subst z
   rw[aM]at q;cases q;exact⟨⟨d,⟨g,i⟩,rfl,by unfold PySem.W.notCls;rw[j]⟩,⟨d,g⟩,λN M ⟨o,l,D⟩ k=>⟨o,⟨k o l.at_,l.cls⟩,D⟩⟩
  ·rw[aF z]at q
   exact(J.hok b u (by rw[aF z];exact q)).stay (λ_ _ _ z=>z) (λc z=>f c _ (by intro z;cases z) z) λc r z=>f c _ (by intro z;cases z) z
def CJ (X:Cx) (σ0:L2.St) (E:Addr->Option Addr->Hp->Prop) (e:T0) (s':T1):Prop:=∃pins H a C B t oe,e=.ref a/\Inv X pins σ0 H s'/\Heap.FlyingW B X.stack a (.ref C) (.ref t) s'.heap/\Cov X pins H B/\s'.heap.get? a=some oe/\E C oe.dict H
def IL (K:ZW) (M:Addr) (i j L:Nat) (tc:(Addr->Option Addr->Hp->Prop)->TE) (th:TS):TS:=λD σ H=>∃E:Addr->Option Addr->Hp->Prop,tc E σ H (λv H1=>D.nx (σ.set i (some v)) H1)/\
 ∀C dd H' a,E C dd H'->H' a=none->σ.length=L->PySem.W.subIn K (.ref C) (.ref M)=some true/\th { nx:=λσ9 H9=>D.nx (σ9.set j none) H9,rt:=λ_ _=>False } (σ.set j (some (.ref a))) (upd H' a (uj a C dd))
variable {x n c:Str} {M:Addr} {i j:Nat} {np cp vp ap hp pos p:Pos} {σ0:L2.St}
theorem CK {k:Nat}{f:Addr}{N:FuncData}{ps:List Str}{sp:Sp}{E:XK}{E':Addr->Option Addr->Hp->Prop}{e:Expr}{l:List Expr}{t:TA}(F:cM X.prog X.w X.K X.mg X.base (CX2 X.prog X.w) k f N ps sp)(hr:du k X.A)(Y:Gl X x)(hm:X.mg x=some (.ref f))(hk:PySem.W.keepIn X.K (.ref f)=true)
  (G:eQ X.K N ps []) (h:∀C dd H,E (.ref C) dd H->E' C dd H) (P:PA (X.wish (CJ X σ0 E')) (e :: l) t) (J:(x == ("__debug__" : Str))=false:=by decide) (he:starEach (e :: l) X.env=(false,eval e X.env) :: starEach l X.env:=by rfl) (hpl:(backTo pos (starEach l X.env)).any (·.1)=false:=by rfl) :
  PE (X.wish (CJ X σ0 E')) (.Call (.Name x p) (e :: l) [] pos) (λσ H Q => σ = σ0/\t σ H λvs D=>sp vs D Q E):=by
 rintro pins s σ H Q I ⟨rfl,hw⟩;refine WJ (kN (X:=X.wish (CJ X σ E')) I Y hm ?_ J);refine PySem.W.callWith_K (h₀ := X.base) I.ok.mod.kin hk (thn (P pos pins s σ H _ I hw) λw L ⟨vs,D,d,r,q⟩=>⟨d.kIn,?_⟩) he hpl;have T:(w++([] : List T0)).length=ps.length:=by rw[YL,<-r.length];exact F.len _ _ _ _ q
 have v:=G L w d.kIn T;rw[YL]at v;refine wpAny_call (WI (F.run X.A X.stack L D ⟨w,[]⟩ w vs Q E hr (d.unwish).env0 v r q) λr2 W m => ?_);cases r2 with
 | error e =>
  obtain⟨a,C,B,R,A,O,rfl,os,bare,Z,hok,K,trk,old,g,U⟩:=m;have y:=d.unwish;have I':Inv X pins σ A W:=y.call' (ch:=[]) os Z hok bare (λb z=>absurd z (by simp));refine⟨pins,A,a,C,B,R,O,rfl,I',K,⟨trk,λb o e G V => ?_,λp hp => ?_⟩,g,h C _ A U⟩
  ·obtain⟨o',e'⟩:=y.base.there b o e V
   exact old b o' e' G
  ·obtain⟨e,n,ne,S,_⟩:=y.pin p hp
   exact old p.1 p.2 e λz=>(wU.mp (y.stkSub p.1 z)).elim ne S
 | ok K =>
  cases K with
  | ret u=>exact d.after m
  | next=>exact False.elim m
  | brk=>exact False.elim m
  | cont=>exact False.elim m
theorem Er {rhs:Expr}{r:Stmt}{y:List Stmt}{tc:(Addr->Option Addr->Hp->Prop)->TE}{th:TS}(hc:∀q σ0 E,PE ((X.pin q).wish (CJ (X.pin q) σ0 E)) rhs (λσ H Q => σ = σ0/\tc E σ H Q))(hh:∀q a,PSs ((X.pin q).sui a) (r :: y) th)
  (b2:X.xe=λ_ _=>False) (b:X.stack=X.env :: X.outer) (a4:X.env.frame=some X.env.locals) (hm:X.mg x=some (.ref M)) (hg:Gl X x)
  (a6:PySem.W.subIn X.K (.ref M) (.type "BaseException")=some true) (a8:(PySem.W.clsIn X.K M).isSome=true) (R:PySem.W.typeIn X.K (.ref M)=some (.type "type")) (T:X.N.Nodup) (hj:X.N[j]? = some n) (g:X.env.scope.names.lookup n=some .local)
  (hi:X.N[i]? = some c) (m:X.env.scope.names.lookup c=some .local) (a7:(x == ("__debug__" : Str))=false:=by decide)
  (hs:swapsWith rhs (some (.Name c cp)) ap.line X.env=pure false:=by rfl) :
  PS X (.Try [.Assign [.Name c cp] rhs ap] [.ExceptHandler (some (.Name x np)) (some n) (r :: y) hp] [] [] pos) (IL X.K M i j X.N.length tc th):=by
 rintro pins s σ H D I ⟨E,h1,h2⟩;have k:PSs ((X.pin (X.pn++pins)).wish (CJ (X.pin (X.pn++pins)) σ E)) [.Assign [.Name c cp] rhs ap] (FD (λA H Q => A = σ/\tc E A H Q) (Bm i)):=fW (kz T hi (.inl m) (hc (X.pn++pins) σ E) hs (.inr m));refine wpAny_Try_except (YY (k [] s σ H { nx:=D.nx,rt:=λ_ _=>False } ((I.pinq).wish _) ⟨rfl,h1⟩) (λf F q => ?_) (λe F q => ?_))
 ·cases f with
  | next=>obtain⟨W,H1,J,q⟩:=q;exact kO pins F W H1 D J.unwish.unpin q
  | brk=>obtain⟨_,_,_,q⟩:=q;exact q.elim
  | cont=>obtain⟨_,_,_,q⟩:=q;exact q.elim
  | ret u=>obtain⟨_,_,_,_,_,q⟩:=q;exact q.elim
 ·obtain⟨h,P,a,C,B,t,S,rfl,J,fl,G,g0,q⟩:=q
  have hf:X.A.frames=some (X.env :: X.outer):=by rw[<-b];exact I.ok.frames
  have a5:Heap.FlyingW B (X.env :: X.outer) a (.ref C) (.ref t) F.heap:=by rw[<-b];exact fl
  have hn:P a=none:=by
   cases e:P a with
   | none=>rfl
   | some u=>obtain⟨o,z⟩:=G.trk a u e;rw[fl.2.1]at z;cases z
  refine GJ hf a4 a5 λh4 V O a1=>GK V λh5 d Y a0 => ?_;have K:=J.flown (h':=h5) fl.1 d.1 (O.trans Y) G F.toks;obtain⟨oe,vs,a2,N,a9,_⟩:=d.first;obtain⟨l,L⟩:=h2 C _ P a q hn J.len;refine wpAny_handleBy_cons (codeAny_handlers_test (WW J.ok.kind hg (Calls.loadGlobal_global (by rw[J.ok.glob];exact K.mod.glob.keeps K.bk) hm ?_) a7)) (by intro q;cases q);refine Cp K.kIn ⟨a2,N⟩ l a6 a8 R (codeAny_handlers_suite_as ?_);refine GL d λh6 w a3 Z => ?_;have J6:=K.flown (h':=h6) d.1 w.1 a3 G F.toks;obtain⟨o4,g4,e4⟩:=a1 a S g0;obtain⟨o5,g5,e5⟩:=a0 a o4 g4;obtain⟨o6,g6,e6⟩:=Z a o5 g5;have J7:=CH J6 (by rw[show (X.pin (X.pn++pins)).stack=X.env :: X.outer from b];exact w) G g6;rw[e6,e5,e4]at J7;refine ou (X:=X.pin (X.pn++pins)) J7 T hj (.inl g) (v:=.ref a) rfl (λs8 J8 => ?_) (.inr g);refine YY (hh (X.pn++pins) a h s8 _ _ _ (J8.marked a) L) (λf s9 q => ?_) (λ_ _ z => ?_)
  ·cases f with
   | brk=>obtain⟨_,_,_,q⟩:=q;exact q.elim
   | cont=>obtain⟨_,_,_,q⟩:=q;exact q.elim
   | ret u=>obtain⟨_,_,_,_,_,q⟩:=q;exact q.elim
   | next =>
    obtain⟨b1,H9,J9,q9⟩:=q;exact Inv.goes (X:=X.pin (X.pn++pins)) (J9.unmark I.ok.hd) T hj g λb0 U=>⟨_,_,U.unpin,q9⟩
  ·exact z.elim
end
end Fm
set_option maxHeartbeats 4000000
namespace Fm
open PySem L2 PySem.Spec PyProof.Rows
section
variable {prog:T3} {w:T4} {A:T2} {E:T0->T1->Prop} {K:ZW} {D:Addr} {h:Heap} {g:Array GenState} {d:Drawn} {t:Nat} {os:OsState} {a dx:Addr} {o:Obj} {mA:Str->Option T0} {name:Str} {u:T0}
structure wl (K:ZW) (D:Addr) (name:Str):Prop where
 cls:ub K D
 hd:PySem.W.hasDictIn K D=true
 no:PySem.W.findIn K (.ref D) name=some none
theorem CL {tk:Tok}{Q:PySem.Fin->T1->Prop}(Z:wl K D name)(X:K.In h)(I:jt h a D o)(l:PySem.W.notCls o=true)(b:o.dict=some dx)(k:h.Ns1 dx mA)(j:mA name=some u)(f:Q (.done (.ret u)) ⟨h,g,d,t,os⟩) :
  wpAny (model prog w) A (Builtin.«object.__getattribute__» ⟨[.ref a,.str name tk],[]⟩) Q E ⟨h,g,d,t,os⟩:=by
 obtain⟨n,c,i⟩:=Aa k;have J:PySem.W.InstAt h a o D (some n):=⟨I.at_,I.cls,l,by rw[b];exact c⟩;have e:=I.type (M:=model prog w);have m:=PySem.W.looks_find (M:=model prog w) X J (PySem.W.findObj_own Z.hd Z.no rfl (by rw[i,j]));unfold Builtin.«object.__getattribute__»;refine yC (wW (yC (wW (yC (e.at (yC (m.at ?_)))))));exact wW f
theorem Es {tk:Tok}{R:Result->T1->Prop}(Z:wl K D name)(X:K.In h)(I:jt h a D o)(f:PySem.W.notCls o=true)(b:o.dict=some dx)(c:h.Ns1 dx mA)(i:mA name=some u)(e:R (.ok (.ret u)) ⟨h,g,d,t,os⟩) :
  codeAny (model prog w) A (.call (.builtin "BaseException.__getattribute__") ⟨[.ref a,.str name tk],[]⟩) R ⟨h,g,d,t,os⟩ :=
 WZ F.attr_ValueError.ga.plain F.entry_bexc_ga (vV Z.cls X I (CL Z X I f b c i e))
theorem IM {tk:Tok}{c b:Bool}{Q:T0->T1->Prop}(Z:wl K D name)(X:K.In h)(I:jt h a D o)(m:PySem.W.notCls o=true)(e:o.dict=some dx)(l:h.Ns1 dx mA)(j:mA name=some u)(r:PySem.W.handedIn u=true)(s:Q u ⟨h,g,d,t,os⟩) :
  wpAny (model prog w) A (getAttrBy (.ref a) (.str name tk) c b) Q E ⟨h,g,d,t,os⟩:=by
 have v:=F.attr_ValueError.ga.bind (.ref a);have q:(b && onTheHeap (Value.builtin "BaseException.__getattribute__"))=false:=by cases b<;>rfl
 have f:(Value.builtin "BaseException.__getattribute__" == Value.builtin "object.__getattribute__")=false:=by decide +kernel
 have p:(onTheHeap (Value.ref D) && Value.builtin "BaseException.__getattribute__" == Value.builtin "object.__getattribute__")=false:=by rw[f];rfl
 have i:=I.type (M:=model prog w);have n:=XA (M:=model prog w) X Z.cls.ga;have L2:=XA (M:=model prog w) X Z.cls.gt;have k:=PySem.W.handedOut_of r
 repeat (any_goals (first|assumption|with_reducible refine i.at ?_|with_reducible refine n.at ?_|with_reducible refine L2.at ?_|wp_step))
 refine Es Z X I m e l j ?_
 repeat (any_goals (first|assumption|wp_step))
theorem GM {b:Bool}{Q:T0->T1->Prop}(Z:wl K D name)(X:K.In h)(I:jt h a D o)(i:PySem.W.notCls o=true)(c:o.dict=some dx)(e:h.Ns1 dx mA)(k:mA name=some u)(j:PySem.W.handedIn u=true)(f:Q u ⟨h,g,d,t + 1,os⟩) :
  wpAny (model prog w) A (getAttr (.ref a) name b) Q E ⟨h,g,d,t,os⟩:=by
 unfold getAttr;refine yC (wpAny_mkText ?_);exact IM Z X I i c e k j f
end
section
variable {X:Cx} {e:Expr} {f:Str} {pos:Pos} {ta:TE}
def IN (K:ZW) (ta:TE) (f:Str):TE:=λσ H Q=>ta σ H λx H1=>∃a C dx fs v,x=.ref a/\H1 a=some (uj a C (some dx))/\wl K C f/\H1 dx=some (.xd fs)/\fs.lookup f=some v/\Q v H1
theorem zx (he:PE X e ta)(g:attributeBase e f X.env (eval e X.env)=eval e X.env):PE X (.Attribute e f pos) (IN X.K ta f):=by
 intro pins s σ H Q I h;refine DO g (thn (he pins s σ H _ I h) λu n ⟨x,w,b,k,a,C,d,B,v,A,m,z,y,l,q⟩ => ?_);subst A;obtain rfl:u=Value.ref a:=k;obtain⟨⟨o,J,t,j⟩,_⟩:=b.hok a _ m;obtain⟨mA,i,r⟩:=b.hok d _ y;obtain⟨K,p,c⟩:=qt.some_of (v:=v) (o:=mA f) (by rw[<-l];exact r f);obtain⟨E,G,L,D,F⟩:=n;exact GM z b.kIn J j t i p (Ab c) ⟨v,w,b.tok _,c,q⟩
end
end Fm
set_option maxHeartbeats 4000000
namespace Fm
open PySem L2 PySem.Spec PyProof.Rows
theorem Et {P:T3} {w:T4} {K:ZW} {mg:Str->Option T0} {base:Heap} {x c b:Str} {st:Stmt} {f:Addr} {n:FuncData} {k:Nat} {r u N p:Pos} (F:Fun K x c st f n) (S:ce ["self",b] ["self",b] (aI st))
  (I:bT st=[.Assign [.Attribute (.Name "self" r) b u] (.Name b N) p]) (h1:(aI st).names.lookup ("self" : Str)=some .local) (o:(aI st).names.lookup b=some .local)
  (l:(b == ("__debug__" : Str))=false) (h:(b == ("__classdict__" : Str))=false):cM P w K mg base (CX2 P w) (k + 1) f n ["self",b] (mD K b):=by
 obtain⟨V,T,kV,D,R,U,L,W,v,rfl,B,j⟩:=F.ex;refine yR B j S (λO H Q E ⟨_,_,_,_,_,e,_⟩=>by rw[e];rfl) λA m s H O Q E X g => ?_;obtain⟨a,C,M,t,y,rfl,J,z,q⟩:=g;rw[I];refine⟨_,fW (GH (ow (i:=0) rfl (.inl h1) (by decide) (by decide)) (ow (i:=1) rfl (.inl o) l h) rfl),?_⟩;exact⟨y,rfl,.ref a,rfl,a,C,M,t,rfl,J,z,λG d=>q G d⟩
end Fm
set_option maxHeartbeats 4000000
namespace Fy
open PySem PySem.Spec L2 Fm PyProof.Rows
def Ek (K:ZW) (E:Addr->Option Addr->Hp->Prop) (C:Addr) (l:List D) (ρ:List Addr) (H:Hp):Prop:=match l with
 | []=>E C none H
 | [d]=>∀dx v,H dx=none->RD K ρ H d v->E C (some dx) (upd H dx (.xd [("line",v)]))
 | _=>False
theorem Ek.imp {K:ZW}{E E':Addr->Option Addr->Hp->Prop}{C:Addr}{l:List D}{ρ:List Addr}{H:Hp}(i:∀dd H,E C dd H->E' C dd H)(h:Ek K E C l ρ H):Ek K E' C l ρ H:=by
 cases l with
 | nil=>exact i _ _ h
 | cons d r =>
  cases r with
  | nil=>exact λa v n r=>i _ _ (h a v n r)
  | cons _ _=>exact h
section
variable (K:ZW) (mg:Str->Option T0)
def b5 (ρ:List Addr) (H:Hp) (o:Out) (E:Addr->Option Addr->Hp->Prop) (En:mf):Prop:=match o with
 | .exc x _ hd=>∃c l C,x=.exn c l/\mg (Str.ofString c)=some (.ref C)/\∀H' ρ',Ext ρ H ρ' H'->RH K ρ' H' hd->Ek K E C l ρ' H'
 | .nx σ hd=>bv K ρ H (.nx σ hd) En
 | .rt d hd=>bv K ρ H (.rt d hd) En
 | .bk σ hd=>bv K ρ H (.bk σ hd) En
 | .ct σ hd=>bv K ρ H (.ct σ hd) En
 | .bad=>False
def vW (E:Addr->Option Addr->Hp->Prop) (f:SF):TS:=λEn σ H=>∃ρ σd hd,RS K ρ H σd hd σ/\b5 K mg ρ H (f σd hd) E En
end
section
variable {K:ZW}
theorem b5.ext {o:Out}{En:mf}(e:Ext ρ H ρ' g)(p:b5 K mg ρ H o E En):b5 K mg ρ' g o E En:=by
 cases o with
 | exc x σ a=>obtain⟨c,l,C,j,h,i⟩:=p;exact⟨c,l,C,j,h,λf b k r=>i f b (e.trans k) r⟩
 | nx σ a=>exact bv.ext (o:=.nx σ a) e p
 | rt d a=>exact bv.ext (o:=.rt d a) e p
 | bk σ a=>exact bv.ext (o:=.bk σ a) e p
 | ct σ a=>exact bv.ext (o:=.ct σ a) e p
 | bad=>exact p
end
theorem Cr {X:Cx}{E:XK}{E':Addr->Option Addr->Hp->Prop}(h:∀C dd H,E (.ref C) dd H->E' C dd H)(b:∀e a,XF2 X E' e a->X.xe e a):jw (CX2 X.prog X.w) X E:=by
 intro pins σ H s e a I q;have:=GI h b pins σ H s e a (I.wish _) q;exact this
section
variable (K:ZW) (mg:Str->Option T0)
def XC (ρ:List Addr) (H:Hp) (E:Addr->Option Addr->Hp->Prop) (x:D) (hd:Hd):Prop:=∃c l C,x=.exn c l/\mg (Str.ofString c)=some (.ref C)/\∀H' ρ',Ext ρ H ρ' H'->RH K ρ' H' hd->Ek K E C l ρ' H'
def bX {α β : Type} (R:VR α β) (ρ:List Addr) (H:Hp) (σd:Sd) (σ:L2.St) (r:Res α) (E:Addr->Option Addr->Hp->Prop) (Q : β->Hp->Prop):Prop:=match r with
 | .ok a hd'=>∀b H' ρ',Ext ρ H ρ' H'->RS K ρ' H' σd hd' σ->R ρ' H' a b->Q b H'
 | .exc x hd'=>XC K mg ρ H E x hd'
 | .bad=>False
def vZ {α β : Type} (R:VR α β) (E:Addr->Option Addr->Hp->Prop) (f:Sd->Hd->Res α):L2.St->Hp->(β->Hp->Prop)->Prop:=λσ H Q=>∃ρ σd hd,RS K ρ H σd hd σ/\bX K mg R ρ H σd σ (f σd hd) E Q
def spY (F:Fn) (np:Nat):Sp:=λvs H Q E=>∃ρ hd ds,RH K ρ H hd/\RDs K ρ H ds vs/\ds.length=np/\match F ds hd with
 | .ok d hd'=>∀v H' ρ',Ext ρ H ρ' H'->RH K ρ' H' hd'->RD K ρ' H' d v->Q v H'
 | .exc x hd'=>XC K mg ρ H (λC dd H'=>E (.ref C) dd H') x hd'
 | .bad=>False
end
section
variable {K:ZW} {R:VR α β}
theorem XC.ext {x:D}(e:Ext ρ H ρ' d)(p:XC K mg ρ H E x hd):XC K mg ρ' d E x hd:=by
 obtain⟨c,l,C,h,f,g⟩:=p;exact⟨c,l,C,h,f,λb a i r=>g b a (e.trans i) r⟩
theorem bX.ext {r:Res α}{Q : β->Hp->Prop}(e:Ext ρ H ρ' g)(h:bX K mg R ρ H σd σ r E Q):bX K mg R ρ' g σd σ r E Q:=by
 cases r with
 | ok a f=>exact λb d c i s q=>h b d c (e.trans i) s q
 | exc x f=>exact XC.ext e h
 | bad=>exact h
theorem bX.imp {r:Res α}{Q d : β->Hp->Prop}(h:bX K mg R ρ H σd σ r E Q)(i:∀b c,Q b c->d b c):bX K mg R ρ H σd σ r E d:=by
 cases r with
 | ok a f=>exact λb c ρ' e s q=>i b c (h b c ρ' e s q)
 | exc x f=>exact h
 | bad=>exact h
theorem bX.bind {r:Res α}{k : α->Hd->Res α'}{Q : β'->Hp->Prop}(h:bX K mg f ρ H σd σ (r.bind k) E Q) :
  bX K mg R ρ H σd σ r E (λb c=>∃ρ' a hd',Ext ρ H ρ' c/\RS K ρ' c σd hd' σ/\R ρ' c a b/\bX K mg f ρ' c σd σ (k a hd') E Q):=by
 cases r with
 | ok a d=>exact λb c ρ' e s q=>⟨ρ',a,d,e,s,q,bX.ext e h⟩
 | exc x d=>exact h
 | bad=>exact h
theorem b5.outE {r:Res D}{k:D->Hd->Out}{En:mf}(p:b5 K mg ρ H (outE r σd k) E En) :
  bX K mg (rD K) ρ H σd σ r E (λv a=>∃ρ' d hd',Ext ρ H ρ' a/\RS K ρ' a σd hd' σ/\RD K ρ' a d v/\b5 K mg ρ' a (k d hd') E En):=by
 cases r with
 | ok d c=>exact λb a ρ' e f q=>⟨ρ',d,c,e,f,q,b5.ext e p⟩
 | exc x c=>exact p
 | bad=>exact p
theorem bX.of_pl {r:Res α}{Q : β->Hp->Prop}(p:bX K mg R ρ H σd σ (noX r) E Q):bn K R ρ H σd σ r Q:=by
 cases r with
 | ok a b=>exact p
 | exc x b=>exact p
 | bad=>exact p
end
def NE (X:Cx) (E:Addr->Option Addr->Hp->Prop) (e:Expr) (f:EF):Prop:=PE X e (vZ X.K X.mg (rD X.K) E f)
def NA (X:Cx) (E:Addr->Option Addr->Hp->Prop) (es:List Expr) (f:LF):Prop:=PA X es (vZ X.K X.mg (rDs X.K) E f)
def NS (X:Cx) (E:Addr->Option Addr->Hp->Prop) (s:Stmt) (f:SF):Prop:=PS X s (vW X.K X.mg E f)
def NSs (X:Cx) (E:Addr->Option Addr->Hp->Prop) (s:List Stmt) (f:SF):Prop:=PSs X s (vW X.K X.mg E f)
structure DefY (P:T3) (w:T4) (K:ZW) (mg:Str->Option T0) (base:Heap) (x:Str) (k np:Nat) (F:Fn):Prop where
 ex:∃f fd ps,mg x=some (.ref f)/\PySem.W.keepIn K (.ref f)=true/\eQ K fd ps []/\cM P w K mg base (CX2 P w) k f fd ps (spY K mg F np)
section
variable {pos p:Pos}
theorem ne_of {e:Expr}{f:EF}(h:ME X e f):NE X E e (fPl f):=PE.imp h λσ H Q ⟨ρ,σd,b,a,q⟩=>⟨ρ,σd,b,a,q.of_pl⟩
theorem na_of {a:List Expr}{f:LF}(h:MA X a f):NA X E a (fPl f):=PA.imp h λσ H Q ⟨ρ,σd,c,b,q⟩=>⟨ρ,σd,c,b,q.of_pl⟩
theorem na_cons {e:Expr}{b:List Expr}{f:EF}{r:LF}(he:NE X E e f)(u:NA X E b r)(o:starEach (e :: b) X.env=(false,eval e X.env) :: starEach b X.env:=by rfl):NA X E (e :: b) (ae f r):=by
 refine PA.imp (bh he u o) λσ H Q ⟨ρ,σd,s,q,p⟩ => ?_;refine⟨ρ,σd,s,q,(bX.bind p).imp λv y ⟨i,d,g,z,a,l,n⟩ => ?_⟩;refine⟨i,σd,g,a,(bX.bind n).imp λA k ⟨c,x,m,w,j,h,t⟩ => ?_⟩;exact t _ k c Ext.refl j (RDs.cons (l.mono (a.hp.kp w)) h)
theorem ne_call {x:Str}{k u:Nat}{F:Fn}{e:Expr}{i:List Expr}{r:LF}(hd:DefY X.prog X.w X.K X.mg X.base x k u F)(hr:du k X.A)(N:Gl X x)(D:NA X E (e :: i) r)(S:∀v t,XF2 X E v t->X.xe v t)
  (hnp:∀g h,F g h ≠ .bad->g.length=u) (o:(x == ("__debug__" : Str))=false:=by decide) (he:starEach (e :: i) X.env=(false,eval e X.env) :: starEach i X.env:=by rfl) (hpl:(backTo pos (starEach i X.env)).any (·.1)=false:=by rfl) :
  NE X E (.Call (.Name x p) (e :: i) [] pos) (au F r):=by
 obtain⟨f,fd,ps,G,y,Z,V⟩:=hd.ex;refine PE.imp (nS (E:=λv s H=>∃C,v=.ref C/\E C s H) V hr N G y Z .nil (Cr (λC s H ⟨C',e,q⟩=>by cases e;exact q) S) D o he hpl) λσ H Q ⟨ρ,σd,hd,L,T⟩=>⟨ρ,σd,hd,L,(bX.bind T).imp λvs H1 ⟨n,g,b,e1,j,A,a⟩ => ?_⟩;rw[YL];refine⟨n,b,g,j.hp,A,?_,?_⟩
 ·refine hnp g b λz => ?_
  rw[z]at a;exact a
 ·cases c:F g b with
  | bad=>rw[c]at a;exact a
  | exc z h' =>
   rw[c]at a;obtain⟨W,l,C,P,I,B⟩:=a;exact⟨W,l,C,P,I,λR m M Y=>Ek.imp (λ_ _ q=>⟨C,rfl,q⟩) (B R m M Y)⟩
  | ok d J =>
   rw[c]at a;exact λv K ρ' w O U=>a v K ρ' w (j.ext w O) U
theorem mkFn_ne {c n:Nat}{b:SF}:∀a h,bQ c n b a h ≠ .bad->a.length=c:=by
 intro a h e;unfold bQ at e;split at e
 ·assumption
 ·exact absurd rfl e
theorem ns_of {s:Stmt}{f:SF}(h:MS X s f):NS X E s (sPl f):=PS.imp h λEn σ H ⟨ρ,σd,a,b,q⟩=>⟨ρ,σd,a,b,by
 unfold sPl at q;cases e:f σd a<;>rw[e]at q<;>exact q⟩
theorem nss_nil:NSs X E [] bB:=PSs.imp kO λEn σ H ⟨ρ,σd,b,a,p⟩=>p σ H ρ Ext.refl a
theorem nss_one {st:Stmt}{a:SF}(h:NS X E st a):NSs X E [st] a:=fW h
theorem nss_cons {st:Stmt}{rest:List Stmt}{a b:SF}(h1:NS X E st a)(h:NSs X E rest b):NSs X E (st :: rest) (ay a b):=by
 refine PSs.imp (kP h1 h) λEn σ H ⟨ρ,σd,f,i,q⟩=>⟨ρ,σd,f,i,?_⟩;unfold ay at q;cases e:a σd f with
 | nx σ1 h1=>rw[e]at q;exact λg k ρ' j c=>⟨ρ',σ1,h1,c,b5.ext j q⟩
 | rt d h1=>rw[e]at q;exact q
 | bk σ1 h1=>rw[e]at q;exact q
 | ct σ1 h1=>rw[e]at q;exact q
 | exc x σ1 h1=>rw[e]at q;exact q
 | bad=>rw[e]at q;exact q
theorem ns_if {c:Expr}{a b:List Stmt}{t:TF}{h k:SF}(n:MT X c t)(m:NSs X E a h)(f:NSs X E b k):NS X E (.If c a b pos) (iY t h k):=by
 refine PS.imp (vx n m f) λEn σ H ⟨ρ,σd,i,l,q⟩=>⟨ρ,σd,i,l,?_⟩;unfold iY at q;cases e:t σd i with
 | exc x g=>rw[e]at q;exact q
 | bad=>rw[e]at q;exact q
 | ok c g =>
  rw[e]at q;intro b o ρ' j d f;cases f;cases c with
  | true=>rw[yD rfl];exact⟨ρ',σd,g,d,b5.ext j q⟩
  | false=>rw[wR wV];exact⟨ρ',σd,g,d,b5.ext j q⟩
theorem ns_set {i:Nat}{x:Str}{e:Expr}{f:EF}{a:Pos}(k:X.N.Nodup)(hi:X.N[i]? = some x)(r:Loc X.env.scope x)(he:NE X E e f)(l:swapsWith e (some (.Name x a)) pos.line X.env=pure false:=by rfl)
  (m:X.fn x=true\/X.env.scope.names.lookup x=some .local:=by first|exact .inl rfl|exact .inr rfl|assumption):NS X E (.Assign [.Name x a] e pos) (aB (gN i) f):=by
 refine PS.imp (kz k hi r he l m) λEn σ H ⟨ρ,σd,o,n,p⟩=>⟨ρ,σd,o,n,(b5.outE p).imp λv q ⟨c,d,h,s,b,g,j⟩ => ?_⟩;exact j _ q c Ext.refl ⟨b.hp,b.st.set i g⟩
end
section
theorem ns_for {tg:Expr}{t:Expr}{A:List Stmt}{f:IF}{g:GF}{b:SF}(hp:PassesOwn (model X.prog X.w) X.A X.env X.xe)(hc:X.calm=true)(hi:MI X tg t f)(hg:MG X tg g)(hb:NSs X E A b)
  (hs:∀x,foldedSetIterable t X.env x=pure x:=by intro _;rfl):NS X E (.For tg t A [] pos) (li f g b):=by
 refine PS.imp (xv hp hc hi hg hb hs) λEn σ H ⟨ρ,σd,V,rs,p⟩=>⟨ρ,σd,V,rs,?_⟩;unfold li at p;cases e:f σd V with
 | exc x h'=>rw[e]at p;exact p
 | bad=>rw[e]at p;exact p
 | ok q S =>
  rw[e]at p;obtain⟨l,gd⟩:=q;intro J W C P R T;simp only at p T;refine⟨λi m F z=>∃ρ' k hd',Ext C W ρ' z/\RS X.K ρ' z k hd' F/\i<=l.length/\m=l.length - i/\b5 X.K X.mg ρ' z (cJ gd l g b (l.drop i) k hd') E En,
   ⟨l.length,C,σd,S,Ext.refl,R,XZ _,by simp,by simpa using b5.ext P p⟩,?_⟩
  rintro i m F z ⟨ρ',k,hd',O,w,a0,rfl,a⟩
  by_cases I:i < l.length
  ·have Q:l[i]? = some l[i]:=by simp[I]
   rw[X7 I]at a;unfold cJ at a
   by_cases D:gq gd l hd'
   ·rw[yD D]at a
    obtain⟨go,yl⟩:=T.go ρ' z hd' i _ O w.hp D Q;refine .inr ⟨go,λB G=>∃s h u,Ext C W s G/\RS X.K s G h u B/\b5 X.K X.mg s G (cJ gd l g b (l.drop (i + 1)) h u) E En,
     λB G ⟨s,h,u,a1,a2,a3⟩=>⟨l.length - (i + 1),by omega,s,h,u,a1,a2,I,rfl,a3⟩,λx G y => ?_⟩
    obtain⟨Y,rx⟩:=yl x G y;cases c:g l[i] k with
    | none=>rw[c]at a;exact a.elim
    | some h =>
     rw[c]at a;simp only at a;refine⟨ρ',k,hd',l[i],h,w.same Y,rx,c,λB U=>⟨ρ',h,hd',U,?_⟩⟩;have n:Ext ρ' z ρ' G:=Ext.same Y;cases L:b h hd' with
     | nx σ3 M=>rw[L]at a;exact λK N r j o=>⟨r,σ3,M,O.trans (n.trans j),o,b5.ext (n.trans j) a⟩
     | ct σ3 M=>rw[L]at a;exact λK N r j o=>⟨r,σ3,M,O.trans (n.trans j),o,b5.ext (n.trans j) a⟩
     | bk σ3 M=>rw[L]at a;exact λK N r j o=>a K N r (n.trans j) o
     | rt d M=>rw[L]at a;exact λv N r j o Z=>a v N r (n.trans j) o Z
     | exc x σ3 M=>rw[L]at a;exact b5.ext n a
     | bad=>rw[L]at a;exact a
   ·rw[wR D]at a;exact a.elim
  ·have e0:i=l.length:=by omega
   subst e0;rw[X1]at a;unfold cJ at a
   by_cases D:gq gd l hd'
   ·rw[yD D]at a
    exact .inl ⟨T.stop ρ' z hd' O w.hp D,a F z ρ' Ext.refl w⟩
   ·rw[wR D]at a;exact a.elim
end
section
variable {K:ZW}
def jI (K:ZW) (mg:Str->Option T0) (ρ:List Addr) (H:Hp) (r:Res D) (E:XK) (Q:VK):Prop:=match r with
 | .ok d hd'=>∀v H' ρ',Ext ρ H ρ' H'->RH K ρ' H' hd'->RD K ρ' H' d v->Q v H'
 | .exc x hd'=>XC K mg ρ H (λC dd H'=>E (.ref C) dd H') x hd'
 | .bad=>False
theorem jI.letGo {ρ:List Addr}{H:Hp}{hd:Hd}{r:Res D}{E:XK}{Q:VK}(b:RH K ρ H hd)(p:jI K mg ρ H (letGo hd r) E Q):jI K mg ρ H r E Q:=by
 cases r with
 | exc x a=>exact p
 | bad=>exact p
 | ok d a =>
  have q:jF K ρ H (Fm.letGo hd (.ok d a)) Q:=by
   simp only[Fm.letGo]at p ⊢;split at p<;>rename_i c
   ·rw[yD c];exact p
   ·rw[wR c];exact p
  exact jF.letGo b q
theorem fny_mk {x:Str}{st:Stmt}{f:Addr}{u:FuncData}{N ps:List Str}{k:Nat}{b:SF}(F:Fun K x x st f u)(S:ce N ps (aI st))
  (g:∀(c:T0) (A:T2) (outer:List Env) (s:T1) (H:Hp) (E:XK),du k (A.deeper (envOfC x (aI st) s.heap.objs.size f c))->
   NSs (kQ (CX2 P w) P w K mg base N x (aI st) f c A outer s H E) (λC dd o=>E (.ref C) dd o) (bT st) b) :
  cM P w K mg base (CX2 P w) (k + 1) f u ps (spY K mg (bQ ps.length N.length b) ps.length):=by
 obtain⟨M,R,kV,J,O,T,c,z,B,rfl,D,n⟩:=F.ex;refine yR D n S (λL H Q E ⟨ρ,i,h,j,m,q,p⟩=>by rw[<-m.length];exact q) λA outer s H L Q E G ⟨ρ,i,h,j,m,q,p⟩=>⟨_,g c A outer s H E G,ρ,_,i,⟨j,mn m⟩,?_⟩;have l:jI K mg ρ H (bQ ps.length N.length b h i) E Q:=p;unfold bQ at l;rw[yD q]at l;have a:=jI.letGo j l;unfold runB at a;cases e:b (h.map some++List.replicate (N.length - h.length) none) i with
 | nx σ1 t=>rw[e]at a;exact λv o ρ' I r=>a .non o ρ' I r.hp (by simp only[RD])
 | rt d t=>rw[e]at a;exact a
 | bk _ _=>rw[e]at a;exact a.elim
 | ct _ _=>rw[e]at a;exact a.elim
 | bad=>rw[e]at a;exact a.elim
 | exc y σ1 t=>rw[e]at a;exact a
theorem DefY.mk' {x:Str}{f:Addr}{a:FuncData}{ps:List Str}{k b:Nat}{F:Fn}(e:mg x=some (.ref f))(d:PySem.W.keepIn K (.ref f)=true)(c:eQ K a ps [])(h:cM P w K mg base (CX2 P w) k f a ps (spY K mg F b)):DefY P w K mg base x k b F:=⟨f,a,ps,e,d,c,h⟩
end
end Fy
set_option maxHeartbeats 4000000
namespace Fy
open PySem PySem.Spec L2 Fm PyProof.Rows
def sRaiseL (n:String) (f:EF):SF:=λσ h=>match f σ h with
 | .ok d h'=>.exc (.exn n [d]) σ h'
 | _=>.bad
section
variable {X:Cx} {E:Addr->Option Addr->Hp->Prop} {C M f:Addr} {fd:FuncData} {ps:List Str} {k:Nat} {bm:List T0} {B newId initId:String} {np cpos pos:Pos} {e:Expr} {t:EF} {n:String}
theorem AE (O:CF (Str.ofString n) C f bm newId X.mg X.base) (u:ExcBaseFacts B newId initId bm) (F:cM X.prog X.w X.K X.mg X.base (CX2 X.prog X.w) k f fd ps (mD X.K "line")) (J:du (k + 1) X.A) (r:eQ X.K fd ps []) (Z:uh X.K C M "line")
  (w:X.calm=true) (K:Gl X (Str.ofString n)) (he:∀R,ME (X.wish R) e t) (G:∀e m,XP2 X E e m->X.xe e m) (g:(Str.ofString n == ("__debug__" : Str))=false:=by decide)
  (i:starEach [e] X.env=[(false,eval e X.env)]:=by rfl):NS X E (.Raise (some (.Call (.Name (Str.ofString n) np) [e] [] cpos)) none pos) (sRaiseL n t):=by
 refine PS.xe G (PS.imp (AD O u F J r Z w K (bh (he _) cy i) g i) λEn σ H ⟨ρ,σd,j,A,q⟩=>⟨ρ,σd,j,A,?_⟩);unfold sRaiseL at q;cases c:t σd j with
 | bad=>rw[c]at q;exact q
 | exc x s=>rw[c]at q;exact q.elim
 | ok d s =>
  rw[c]at q;obtain⟨L,l,N,y,h,D⟩:=q;cases y;rw[O.bound]at h;cases h;intro v z ρ' I b p;exact⟨v,rfl,λo a=>D z ρ' I b.hp o v a p⟩
end
end Fy
set_option maxHeartbeats 4000000
namespace Fy
open PySem PySem.Spec L2 Fm PyProof.Rows
def sTryL (j il:Nat) (n:String) (b:SF):SF:=λσ h=>match b σ h with
 | .nx σ' h'=>.nx σ' h'
 | .exc (.exn c [.int m]) _ h'=>if c=n then .nx ((σ.set il (some (.int m))).set j none) h' else .bad
 | _=>.bad
def CM (CN:Addr) (j il:Nat):TS:=λD σ H=>∃a dx m,σ[j]? = some (some (.ref a))/\H a=some (uj a CN (some dx))/\H dx=some (.xd [("line",.int m)])/\∀H',gn H H'->D.nx (σ.set il (some (.int m))) H'
section
variable {X:Cx} {pos p:Pos}
theorem ms_tryL {i j il k np:Nat}{c n x f:Str}{M B:Addr}{nn:String}{F:Fn}{e:Expr}{O:List Expr}{r:LF}{Y:Stmt}{a0:List Stmt}{xp cp fp p1 ap hp:Pos}(b1:X.xe=λ_ _=>False)
  (hd:DefY X.prog X.w X.K X.mg X.base f k np F) (hr:du k X.A) (a8:Gl X f) (ha:∀q R,MA ((X.pin q).wish R) (e :: O) r) (hnp:∀w h,F w h ≠ .bad->w.length=np)
  (hh:∀q a,PSs ((X.pin q).sui a) (Y :: a0) (CM B j il)) (b6:il≠j) (a5:X.mg (Str.ofString nn)=some (.ref B)) (W:PySem.W.subIn X.K (.ref B) (.ref M)=some true) (Z:X.stack=X.env :: X.outer)
  (b0:X.env.frame=some X.env.locals) (hm:X.mg x=some (.ref M)) (hg:Gl X x) (b2:PySem.W.subIn X.K (.ref M) (.type "BaseException")=some true) (b5:(PySem.W.clsIn X.K M).isSome=true)
  (a4:PySem.W.typeIn X.K (.ref M)=some (.type "type")) (hN:X.N.Nodup) (hj:X.N[j]? = some n) (a2:X.env.scope.names.lookup n=some .local) (hi:X.N[i]? = some c) (a3:X.env.scope.names.lookup c=some .local)
  (a7:(f == ("__debug__" : Str))=false:=by decide) (b3:(x == ("__debug__" : Str))=false:=by decide)
  (he:starEach (e :: O) X.env=(false,eval e X.env) :: starEach O X.env:=by rfl) (hpl:(backTo p1 (starEach O X.env)).any (·.1)=false:=by rfl)
  (hs:swapsWith (.Call (.Name f fp) (e :: O) [] p1) (some (.Name c cp)) ap.line X.env=pure false:=by rfl) :
  MS X (.Try [.Assign [.Name c cp] (.Call (.Name f fp) (e :: O) [] p1) ap] [.ExceptHandler (some (.Name x xp)) (some n) (Y :: a0) hp] [] [] pos) (sTryL j il nn (aB (gN i) (au F (fPl r)))):=by
 obtain⟨fa,fd,ps,h1,h2,h3,h4⟩:=hd.ex;refine PS.imp (Er (th:=CM B j il) (tc:=λE σ H Q=>jA X.K (rDs X.K) r σ H λvs H1=>spY X.K X.mg F np vs H1 Q (λv I H=>∃C,v=.ref C/\E C I H)) (λq b7 E=>CK (X:=X.pin q) (E:=λv I H=>∃C,v=.ref C/\E C I H) (E':=E) h4 hr a8 h1 h2 h3 (λC I H ⟨C',e,q⟩=>by cases e;exact q) (ha q _) a7 he hpl) hh b1 Z b0 hm hg b2 b5 a4 hN hj a2 hi a3 b3 hs) λEn σ H ⟨ρ,σd,hd,rs,b⟩ => ?_;unfold sTryL at b;cases J:r σd hd with
 | bad =>
  have e:aB (gN i) (au F (fPl r)) σd hd=.bad:=by simp only[aB,au,fPl,J,noX,vD,outE]
  rw[e]at b;exact b.elim
 | exc x h1 =>
  have e:aB (gN i) (au F (fPl r)) σd hd=.bad:=by simp only[aB,au,fPl,J,noX,vD,outE]
  rw[e]at b;exact b.elim
 | ok w g =>
  cases D:F w g with
  | bad =>
   have e:aB (gN i) (au F (fPl r)) σd hd=.bad:=by simp only[aB,au,fPl,J,noX,az,D,outE]
   rw[e]at b;exact b.elim
  | ok d l =>
   have e:aB (gN i) (au F (fPl r)) σd hd=.nx (σd.set i (some d)) l:=by simp only[aB,au,fPl,J,noX,az,D,outE];rfl
   rw[e]at b;refine⟨λ_ _ _=>False,⟨ρ,σd,hd,rs,?_⟩,λ_ _ _ _ z=>z.elim⟩;rw[J];intro vs H1 L K o V;refine⟨L,g,w,o.hp,V,hnp w g (by rw[D];exact λz=>by cases z),?_⟩;rw[D];intro v P ρ' N U rd;exact b _ P ρ' (K.trans N) ⟨U,(o.ext N U).st.set i rd⟩
  | exc y l =>
   have e:aB (gN i) (au F (fPl r)) σd hd=.exc y σd l:=by simp only[aB,au,fPl,J,noX,az,D,outE]
   rw[e]at b;split at b
   ·rename_i z;cases z
   ·rename_i cn m _ _ z
    cases z;split at b
    ·rename_i hcn
     subst hcn;refine⟨λC' I P=>C'=B/\∃s ρ' S,I=some s/\S s=none/\P=upd S s (.xd [("line",.int m)])/\Ext ρ H ρ' S/\RH X.K ρ' S l,⟨ρ,σd,hd,rs,?_⟩,?_⟩
     ·rw[J]
      intro vs H1 L K o V;refine⟨L,g,w,o.hp,V,hnp w g (by rw[D];exact λz=>by cases z),?_⟩;rw[D];refine⟨cn,[.int m],B,rfl,a5,λP ρ' N U=>λs v T V => ?_⟩;have ev:v=.int m:=by simpa only[RD] using V
      subst ev;exact⟨B,rfl,rfl,s,ρ',P,rfl,T,rfl,K.trans N,U⟩
     ·rintro C' I P a ⟨rfl,s,ρ',S,rfl,b4,rfl,N,U⟩ T hL
      have nd:a≠s:=λz=>by rw[z,aM]at T;cases T
      have a1:j < σ.length:=by rw[hL];exact(yE.mp hj).1
      refine⟨W,a,s,m,by rw[Z1 a1],aM,by rw[aF (YV nd),aM],λH9 a6 => ?_⟩;have sm:gn S H9:=λq u h=>a6 q u (by
       have n1:q≠s:=λz=>by rw[z,b4]at h;cases h
       have n2:q≠a:=λz=>by rw[aF nd]at T;rw[z,T]at h;cases h
       rw[aF n2,aF n1];exact h)
      have A:=(rs.ext N U).same sm;refine b _ H9 ρ' (N.sm sm) ⟨A.hp,⟨by simp only[YD];exact A.st.len,λk d G => ?_⟩⟩
      by_cases hkj:k=j
      ·subst hkj
       exfalso
       simp only[slot]at G
       by_cases t:k < (σd.set il (some (.int m))).length
       ·rw[Z1 t]at G;cases G
       ·rw[Y5 (by rw[YD];omega)]at G;cases G
      ·simp only[slot,ZO (YV hkj)]at G
       have a9:=A.st.set il (d:=.int m) (v:=.int m) (by simp only[RD]);obtain⟨v,hv,rd⟩:=a9.at' k d (by simpa only[slot] using G);refine⟨v,?_,rd⟩;rw[ZO (YV hkj)]
       by_cases hki:k=il
       ·subst hki
        have t:k < σ.length:=by
         have:=(yE.mp hv).1;simpa using this
        rw[Z1 (by simpa using t)];rw[Z1 t]at hv;exact hv
       ·rw[ZO (YV hki),ZO (YV hkj)]
        rw[ZO (YV hki)]at hv;exact hv
    ·exact b.elim
   ·exact b.elim
end
end Fy
set_option maxHeartbeats 4000000
namespace Fy
open PySem PySem.Spec L2 Fm PyProof.Rows
section
variable {X:Cx}
def IP (K:ZW):List V->Hp->VK->Prop:=λxs H Q=>∃a C dd v b,xs=[.ref a,v]/\vX v=true/\H a=some (uj a C dd)/\ub K C/\PySem.W.kitOne K (.ref C) (Cq v)=some b/\Q (.bl b) H
theorem sh:fg X (.builtin "isinstance") (IP X.K):=by
 rintro pins s σ H k m Q I r ⟨a,C,l,v,b,rfl,h,f,Z,e,q⟩;obtain⟨u,j,rfl,g,c⟩:=aY.two r;cases (show u=Value.ref a from g);rw[zm h c];obtain⟨⟨o,d,_⟩,_⟩:=I.hok a _ f;exact PySem.W.kia_one (Co Z) I.kIn ⟨o,d⟩ e (by intro z;cases z) λi=>⟨.bl b,H,I.tok i,rfl,q⟩
def IQ (K:ZW):List V->Hp->VK->Prop:=λxs H Q=>∃a C dd tp vs b,xs=[.ref a,.ref tp]/\vs.all vX=true/\H a=some (uj a C dd)/\H tp=some (.tup vs)/\ub K C/\PySem.W.kitAny K (.ref C) (vs.map Cq)=some b/\Q (.bl b) H
theorem AF:fg X (.builtin "isinstance") (IQ X.K):=by
 rintro pins s σ H G E Q I r ⟨a,C,k,g,F,b,rfl,v,p,i,Z,e,q⟩;obtain⟨u,h,rfl,t,f⟩:=aY.two r;cases (show u=Value.ref a from t);cases (show h=Value.ref g from f);obtain⟨⟨y,l,_⟩,_⟩:=I.hok a _ p;obtain⟨_,m,j,o,w,c,n,x⟩:=I.hok g _ i;have d:=vY v j;subst d;obtain⟨D,k,B,J⟩:=o;cases c;cases x;exact PySem.W.kia_tup (Co Z) I.kIn ⟨y,l⟩ w e (by intro z;cases z) λA=>⟨.bl b,H,I.tok A,rfl,q⟩
end
end Fy
set_option maxHeartbeats 4000000
namespace Fy
open PySem PySem.Spec L2 Fm PyProof.Rows
theorem GN {K:ZW}{H:Hp}:RH K [] H []:=⟨rfl,List.nodup_nil,λi c a h=>by cases h⟩
section
variable {X:Cx}
theorem hand_ok {j il:Nat}{n v A:Str}{c:Addr}{ns:List Expr}{vs:List V}{u s2:Str}{q}{k1 k2}{C s x3 x4 x5 x6 x7 W x9 y1 y2 y3 y4 y5 y6 y7 y8 y9 z1 t z3 z4 z5 z6 z7 z8 z9 w1 w2 w3 Y:Pos}(B:X.N.Nodup)(hj:X.N[j]? = some n)(x:X.env.scope.names.lookup n=some .local)(P:X.N[il]? = some v)
  (d:X.env.scope.names.lookup v=some .local) (J:il≠j) (g:Gl X "isinstance") (h:X.mg "isinstance" = none) (F:Gl X "ValueError") (R:X.mg "ValueError" = none) (w:Gl X "bool") (O:X.mg "bool" = none) (U:Gl X A) (N:X.mg A=some (.ref c))
  (T:PA X ns λ_ H Q=>Q vs H) (L:vs.all vX=true) (Z:wl X.K c "line") (k8:PySem.W.kitAny X.K (.ref c) (vs.map Cq)=some false) (kA:PySem.W.kitOne X.K (.ref c) (.ref c)=some true) (kV:PySem.W.kitOne X.K (.ref c) (.type "ValueError")=some true)
  (l:vs.length<=sizeLine) (E:(n == ("__debug__" : Str))=false:=by decide) (o:(n == ("__classdict__" : Str))=false:=by decide) (M:(A == ("__debug__" : Str))=false:=by decide)
  (e1:starEach [.Name n C,.Tuple ns q s] X.env=(false,eval (.Name n C) X.env) :: starEach [.Tuple ns q s] X.env:=by rfl) (e2:starEach [.Tuple ns q s] X.env=(false,eval (.Tuple ns q s) X.env) :: starEach [] X.env:=by rfl)
  (e3:∀z f,starEach [.Name n z,.Name A f] X.env=(false,eval (.Name n z) X.env) :: starEach [.Name A f] X.env:=by intro _ _;rfl) (e4:∀f,starEach [.Name A f] X.env=(false,eval (.Name A f) X.env) :: starEach [] X.env:=by intro _;rfl)
  (e5:∀z f,starEach [.Name n z,.Name "ValueError" f] X.env=(false,eval (.Name n z) X.env) :: starEach [.Name "ValueError" f] X.env:=by intro _ _;rfl)
  (e6:∀z f t,starEach [.Attribute (.Name n z) "line" t,.Name "bool" f] X.env=(false,eval (.Attribute (.Name n z) "line" t) X.env) :: starEach [.Name "bool" f] X.env:=by intro _ _ _;rfl)
  (hb:∀z,attributeBase (.Name n z) "line" X.env (eval (.Name n z) X.env)=eval (.Name n z) X.env:=by intro _;rfl)
  (y:swapsWith (.Constant (.str u) k1 w1) (some (.Name v x3)) x4.line X.env=pure false:=by rfl)
  (G:swapsWith (.Constant (.str s2) k2 w2) (some (.Name v x5)) x6.line X.env=pure false:=by rfl)
  (K:swapsWith (.Attribute (.Name n w3) "line" Y) (some (.Name v x7)) W.line X.env=pure false:=by rfl) :
  PSs X [.Assign [.Name v x3] (.Constant (.str u) k1 w1) x4,
   .If (.Call (.Name "isinstance" x9) [.Name n C,.Tuple ns q s] [] y1) [.Assign [.Name v x5] (.Constant (.str s2) k2 w2) x6]
    [.If (.BoolOp .And [.Call (.Name "isinstance" y2) [.Name n y3,.Name A y4] [] y5,.Call (.Name "isinstance" y6) [.Name n y7,.Name "ValueError" y8] [] y9,
      .UnaryOp .Not (.Call (.Name "isinstance" z1) [.Attribute (.Name n t) "line" z3,.Name "bool" z4] [] z5) z6] z7)
     [.Assign [.Name v x7] (.Attribute (.Name n w3) "line" Y) W] [] z8] z9] (CM c j il):=by
 have p:∀{z:Pos},PE X (.Name n z) (Fp j):=λ{z}=>ow hj (.inl x) E o;refine PSs.imp (kP (kz B P (.inl d) oy y (.inr d)) (fW (vx (oA (ek AF g h (by decide +kernel) (bh p (bh (Bs T) cy e2) e1))) (fW (kz B P (.inl d) oy G (.inr d)))
  (fW (vx (PW.pt (xr (oA (ek sh g h (by decide +kernel) (bh p (bh (j0 (v:=.ref c) U N rfl M) cy (e4 _)) (e3 _ _))))
    (xr (oA (ek sh g h (by decide +kernel) (bh p (bh (sR (v:=.ty "ValueError") F R (by decide +kernel) rfl) cy) (e5 _ _))))
     (yN (Bi (oA (ek (vK .bool) g h (by decide +kernel) (bh (zx p (hb _)) (bh (sR (v:=.ty (tyS .bool)) w O (by decide +kernel) rfl) cy) (e6 _ _ _)) (he:=e6 _ _ _))))))))
   (fW (kz B P (.inl d) (zx p (hb _)) K (.inr d))) kO))))) λD σ H ⟨a,i,m,S,ha,hx,hD⟩ => ?_
 have b:(σ.set il (some (.str u)))[j]? = some (some (.ref a)):=by rw[ZO J];exact S
 refine⟨.ref a,b,l,λI k => ?_⟩;have e:upd H I (.tup vs) a=some (uj a c (some i)):=by rw[aF (bM ha k)];exact ha
 have r:upd H I (.tup vs) i=some (.xd [("line",.int m)]):=by rw[aF (bM hx k)];exact hx
 refine⟨a,c,some i,I,vs,false,rfl,L,e,aM,Z.cls,k8,false,rfl,?_⟩;dsimp only;rw[wR wV];refine⟨.ref a,b,a,c,some i,.ref c,true,rfl,rfl,e,Z.cls,kA,true,rfl,?_⟩;dsimp only;rw[yD rfl];refine⟨.ref a,b,a,c,some i,.ty "ValueError",true,rfl,rfl,e,Z.cls,kV,true,rfl,?_⟩;dsimp only;rw[yD rfl];refine⟨.ref a,b,a,c,i,_,.int m,rfl,e,Z,r,rfl,[],[],.int m,.int m,false,rfl,GN,by simp only[RD],rfl,false,rfl,?_⟩;dsimp only;rw[Bool.not_false,yD rfl];refine⟨.ref a,b,a,c,i,_,.int m,rfl,e,Z,r,rfl,?_⟩;show D.nx ((σ.set il (some (.str u))).set il (some (.int m))) _;rw[WL];exact hD _ (cC k)
end
end Fy
set_option maxHeartbeats 4000000
namespace Fy
open PySem PySem.Spec L2 Fm PyProof.Rows
def inC (s:Stmt) (j:Nat):Stmt:=match s with
 | .ClassDef _ _ _ b _ _ _ _ _ _ _=>b.getD j (.Pass ⟨0,0,0,0⟩)
 | _=>.Pass ⟨0,0,0,0⟩
def excInI (K:ZW) (C f:Addr) (bmB:List T0) (newId:String):Bool:=match K.lookup C,K.lookup f with
 | some ⟨.type "type",_,.cls cd,sl⟩,some of=>(match cd.mro,sl.toList with
  | .ref C' :: bm,[_,_,_,_,some (.builtin n),_]=>C' == C && n == newId && !cd.hasDel && PySem.W.tailIn K bmB bm && PySem.W.nsOkIn K cd.ns && PySem.W.nsIn K cd.ns "__init__" == some (some (.ref f)) && of.cls == .type "function"
  | _,_=>false)
 | _,_=>false
theorem IR {K:ZW}{h:Heap}{N:Addr}{mg:Str->Option T0}{n:Str}{v:T0}(X:K.In h)(G:h.Ns N mg)(e:PySem.W.nsIn K N n=some (some v)):mg n=some v:=by
 obtain⟨i,l,g,c,a,_,b⟩:=G;unfold PySem.W.nsIn at e;split at e
 ·rename_i q
  have z:=X _ _ q;rw[c]at z;cases z;cases a;split at e
  ·rename_i f d
   cases e;rw[<-b,nsFind,findBy,<-Array.find?_toList,d];rfl
  ·split at e<;>cases e
 ·cases e
theorem own_inI {K:ZW}{h:Heap}{mg:Str->Option T0}{x:Str}{C f:Addr}{bm:List T0}{id:String}(X:K.In h)(e:mg x=some (.ref C))(q:excInI K C f bm id=true):CF x C f bm id mg h:=by
 unfold excInI at q;split at q
 ·rename_i v D p A B F;split at q
  ·rename_i J bm' i g o k n m j s
   simp only[Z4,beq_iff_eq,VL]at q;obtain⟨⟨⟨⟨⟨⟨rfl,rfl⟩,a⟩,t⟩,hok⟩,b⟩,d⟩:=q;obtain⟨u,z,w,y,I,H,sn,sub,G,col,E⟩:=D;dsimp only at j a hok b;subst j a;have c:p = #[i,g,o,k,some (.builtin n),m]:=by obtain⟨l⟩:=p;simp only at s;rw[s]
   subst c;have r:=Heap.Ns.of_isNs (PySem.W.isNs_of_in X hok);exact⟨e,⟨bm',y,u,I,z,H,sn,sub,G,col,v,i,g,o,k,m,_,X _ _ B,r,IR X r b,PySem.W.tail_of_in X t⟩,⟨A,X _ _ F,d⟩⟩
  ·cases q
 ·cases q
structure XDef (P:T3) (w:T4) (K:ZW) (mg:Str->Option T0) (base:Heap) (n:String) (k:Nat):Prop where
 ex:∃C M f fd ps,CF (Str.ofString n) C f IG "ValueError.__new__" mg base/\cM P w K mg base (CX2 P w) k f fd ps (mD K "line")/\eQ K fd ps []/\uh K C M "line"
section
variable {X:Cx} {E:Addr->Option Addr->Hp->Prop} {k:Nat} {np cpos pos p:Pos} {e:Expr} {t:EF} {n:String}
theorem ns_raiseD (D:XDef X.prog X.w X.K X.mg X.base n k) (i:du (k + 1) X.A) (h:X.calm=true) (j:Gl X (Str.ofString n)) (he:∀R,ME (X.wish R) e t) (g:∀e b,XP2 X E e b->X.xe e b) (a:(Str.ofString n == ("__debug__" : Str))=false:=by decide)
  (c:starEach [e] X.env=[(false,eval e X.env)]:=by rfl):NS X E (.Raise (some (.Call (.Name (Str.ofString n) np) [e] [] cpos)) none pos) (sRaiseL n t):=by
 obtain⟨C,M,f,l,m,O,F,d,Z⟩:=D.ex;exact AE O PySem.F.excBase_ValueError F i d Z h j he g a c
def fCallG (F:Fn) (r:LF):EF:=au (λds h=>noX (F ds h)) r
theorem ne_callG {x:Str}{k np:Nat}{F:Fn}{e:Expr}{j:List Expr}{r:LF}(hd:Def X.prog X.w X.K X.mg X.base x k np F)(K:du k X.A)(L:Gl X x)(A:NA X E (e :: j) r)
  (hnp:∀i h d h',F i h=.ok d h'->i.length=np) (m:(x == ("__debug__" : Str))=false:=by decide) (he:starEach (e :: j) X.env=(false,eval e X.env) :: starEach j X.env:=by rfl) (hpl:(backTo pos (starEach j X.env)).any (·.1)=false:=by rfl) :
  NE X E (.Call (.Name x p) (e :: j) [] pos) (fCallG F r):=by
 obtain⟨f,N,M,C,s,J,B⟩:=hd.ex;refine PE.imp (nS B K L C s J .nil BC A m he hpl) λσ H Q ⟨ρ,σd,hd,I,w⟩=>⟨ρ,σd,hd,I,(bX.bind w).imp λR O ⟨l,i,g,P,b,u,a⟩ => ?_⟩;rw[YL];dsimp only at a;cases c:F i g with
 | exc z h'=>rw[c]at a;exact a.elim
 | bad=>rw[c]at a;exact a.elim
 | ok d D =>
  rw[c]at a;refine⟨l,g,i,b.hp,u,hnp _ _ _ _ c,?_⟩;rw[c];exact λv G ρ' o q y=>a v G ρ' o (b.ext o q) y
theorem me_call0 {x:Str} {k:Nat} {F:Fn} (hd:Def X.prog X.w X.K X.mg X.base x k 0 F) (u:du k X.A) (w:Gl X x) (b:(x == ("__debug__" : Str))=false:=by decide) :
  ME X (.Call (.Name x p) [] [] pos) (au F am):=by
 obtain⟨f,B,y,o,j,s,m⟩:=hd.ex;refine PE.imp (Bu m u w o j s .nil BC b) λσ H Q ⟨ρ,σd,hd,g,a⟩ => ?_;have a:bn X.K (rD X.K) ρ H σd σ (F [] hd) Q:=a;cases c:F [] hd with
 | exc z A=>rw[c]at a;exact a.elim
 | bad=>rw[c]at a;exact a.elim
 | ok d q =>
  rw[c]at a;refine⟨ρ,hd,[],g.hp,.nil,rfl,?_⟩;rw[c];exact λv r ρ' h i l=>a v r ρ' h (g.ext h i) l
end
def gd (F:Fn):Fn:=λds h=>noX (F ds h)
theorem gd_np {c n:Nat}{b:SF}:∀a h d h',gd (bQ c n b) a h=.ok d h'->a.length=c:=λa h d h' e=>mkFn_ne (n:=n) (b:=b) a h λz=>by unfold gd at e;rw[z]at e;cases e
theorem DefY.good {P:T3}{w:T4}{K:ZW}{mg:Str->Option T0}{base:Heap}{x:Str}{k h:Nat}{F:Fn}(hd:DefY P w K mg base x k h F):Def P w K mg base x k h (gd F):=by
 obtain⟨f,G,t,B,n,J,i⟩:=hd.ex;have l:∀{b H Q E},spF K (gd F) h b H Q E->spY K mg F h b H Q (λ_ _ _=>False):=by
  rintro b H Q E ⟨ρ,hd,j,m,o,D,p⟩;refine⟨ρ,hd,j,m,o,D,?_⟩;unfold gd at p;cases c:F j hd with
  | ok d v=>rw[c]at p;exact p
  | exc y v=>rw[c]at p;exact p.elim
  | bad=>rw[c]at p;exact p.elim
 refine⟨f,G,t,B,n,J,λb H Q E z=>i.len _ _ _ _ (l z),λA a s H g C b Q E M I u r z => ?_⟩;refine WI (i.run A a s H g C b Q (λ_ _ _=>False) M I u r (l z)) λr N q => ?_;cases r with
 | error e=>obtain⟨_,_,_,_,_,_,_,_,_,_,_,_,_,_,_,z⟩:=q;exact z.elim
 | ok L=>cases L<;>exact q
end Fy
namespace Fm
open PySem PySem.Spec L2
section
variable {P:T3} {w:T4} {K:ZW} {mg:Str->Option T0} {base h:Heap} {n:Str} {st:Stmt} {ps:List Str} {k np:Nat} {F:Fn}
theorem At.df0 (a:At K n st)(q:En P w K mg base)(ok:∀{f e},Fun K n n st f e->cM P w K mg base CX0 k f e ps (spF K F np))(g:ps.length=0:=by rfl)
  (i:∀(kV c pm:T0) (d:Option Addr) (b ct:T0),bindArgs (PySem.W.fnOf n n (cG st) (bT st) (aI st) .none kV c pm d b ct) ⟨[],[]⟩ = pure (ps.zip []):=by intros;rfl):Def P w K mg base n k np F :=
 a.df q ok λkV c pm d b ct j h=>by cases ny (h.trans g);exact i kV c pm d b ct
theorem At.dy (a:At K n st)(q:En P w K mg base)(ok:∀{f c},Fun K n n st f c->cM P w K mg base (CX2 P w) k f c ps (Fy.spY K mg F np))
  (g:∀(kV d pm:T0) (j:Option Addr) (b ct:T0) (us:List T0),us.length=ps.length->bindArgs (PySem.W.fnOf n n (cG st) (bT st) (aI st) .none kV d pm j b ct) ⟨us,[]⟩ = pure (ps.zip us)):Fy.DefY P w K mg base n k np F:=by
 obtain⟨h,X,G⟩:=q.ex;obtain⟨f,c,i,e,U⟩:=a.out X G;exact Fy.DefY.mk' i e (U.binds g) (ok U)
theorem At.dy1 (a:At K n st)(q:En P w K mg base)(ok:∀{f e},Fun K n n st f e->cM P w K mg base (CX2 P w) k f e ps (Fy.spY K mg F np))(g:ps.length=1:=by rfl)
  (j:∀(kV c pm:T0) (d:Option Addr) (b ct a:T0),bindArgs (PySem.W.fnOf n n (cG st) (bT st) (aI st) .none kV c pm d b ct) ⟨[a],[]⟩ = pure (ps.zip [a]):=by intros;rfl):Fy.DefY P w K mg base n k np F :=
 a.dy q ok λkV c pm d b ct m h=>by obtain⟨a,l,rfl,i⟩:=fS (h.trans g);cases ny i;exact j kV c pm d b ct a
theorem At.dy2 (a:At K n st)(q:En P w K mg base)(ok:∀{f g},Fun K n n st f g->cM P w K mg base (CX2 P w) k f g ps (Fy.spY K mg F np))(i:ps.length=2:=by rfl)
  (l:∀(kV d pm:T0) (e:Option Addr) (c ct a b:T0),bindArgs (PySem.W.fnOf n n (cG st) (bT st) (aI st) .none kV d pm e c ct) ⟨[a,b],[]⟩ = pure (ps.zip [a,b]):=by intros;rfl):Fy.DefY P w K mg base n k np F :=
 a.dy q ok λkV d pm e c ct r h=>by obtain⟨a,p,rfl,j⟩:=fS (h.trans i);obtain⟨b,o,rfl,m⟩:=fS (j);cases ny m;exact l kV d pm e c ct a b
theorem At.dy3 (a:At K n st)(q:En P w K mg base)(ok:∀{f i},Fun K n n st f i->cM P w K mg base (CX2 P w) k f i ps (Fy.spY K mg F np))(l:ps.length=3:=by rfl)
  (j:∀(kV e pm:T0) (g:Option Addr) (d ct a b c:T0),bindArgs (PySem.W.fnOf n n (cG st) (bT st) (aI st) .none kV e pm g d ct) ⟨[a,b,c],[]⟩ = pure (ps.zip [a,b,c]):=by intros;rfl):Fy.DefY P w K mg base n k np F :=
 a.dy q ok λkV e pm g d ct s h=>by obtain⟨a,u,rfl,m⟩:=fS (h.trans l);obtain⟨b,t,rfl,o⟩:=fS (m);obtain⟨c,r,rfl,p⟩:=fS (o);cases ny p;exact j kV e pm g d ct a b c
end
end Fm
namespace Fm
variable {d:D}{h h':Hd}
theorem AG (e:h'.length<=h.length):letGo h (.ok d h')=.ok d h':=by
 simp only[letGo];split
 ·rw[YT e]
 ·rfl
@[simp] theorem aU {h:Hd} {d:D}:letGo h (.ok d h)=.ok d h:=AG (ZK _)
theorem AH (e:pure? d=false):letGo h (.ok d h')=.ok d h':=by
 simp[letGo,e]
@[simp] theorem eE {h h':Hd} {n:Nat}:letGo h (.ok (.ref n) h')=.ok (.ref n) h':=AH rfl
theorem cD {g:Hd}(e:pure? d=true):letGo h (.ok d (h++g))=.ok d h:=by
 have:yV h (h++g):=λn c a b=>.inl (by rwa[ZC a]at b);simp[letGo,e,this]
theorem si {g:Hd}(e:pure? d=true)(b:h'.length=h.length)(a:yV h (h'++g)):letGo h (.ok d (h'++g))=.ok d h':=by
 simp[letGo,e,a,<-b]
structure Web where
 ties:List (List (Nat × Int))
 bars:List Int
 stays:List (Option Int)
def bC:Option Int->D
 | none=>.non
 | some i=>.int i
def uk (p:Nat × Int):D:=.tup [.int p.1,.int p.2]
def lx (r:List (Nat × Int)):D:=.tup (r.map uk)
def Web.enc (w:Web):D:=.tup [.tup (w.ties.map lx),.tup (w.bars.map .int),.tup (w.stays.map bC)]
structure Web.Ok (w:Web) (n:Nat):Prop where
 t:w.ties.length=n
 b:w.bars.length=n
 s:w.stays.length=n
 lt:∀r∈w.ties,∀p∈r,p.1 < n
 sz:n<=1000
structure IS (w:Web) (n:Nat) (s:List Int):Prop where
 len:s.length=n
 op:∀x∈s,x=0\/x=1
 st:∀(i:Nat) (x:Int),w.stays[i]? = some (some x)->s[i]? = some x
variable {l:List D}
theorem dw {i:Nat}(e:l[i]? = some d):atI l (i:Int)=some d:=by
 have:=(yE.mp e).1;simp[atI,ixN,this];simpa[ZE this] using e
@[simp] theorem wm (x:D) (l:List D):atI (x :: l) 0=some x:=dw rfl
theorem cE {g:Option Nat}{all:List D}{tg:GF}{cs:List TF}{e:EF}{h:Hd}(I:Sd->Prop)(p:D->Bool)(f:D->D)(a:gq g all h) :
  ∀{xs:List D} {σ:Sd},(∀x∈xs,∀σ,I σ->∃σ',tg x σ = some σ'/\I σ'/\oS cs σ' h=.ok (p x) h/\(p x=true->e σ' h=.ok (f x) h))->I σ->
   cV g all tg cs e xs σ h=.ok ((xs.filter p).map f) h
 | [],_,_,_=>by simp[cV,a]
 | x :: xs,σ,st,i=>by
  obtain⟨σ',h1,j,c,l⟩:=st x (by simp) σ i;have d:=cE I p f a (xs:=xs) (λy k=>st y (by simp[k])) j;cases b:p x with
  | true=>simp[cV,a,h1,c,b,l b,d]
  | false=>simp[cV,a,h1,c,b,d]
theorem sj {g:Option Nat}{all:List D}{tg:GF}{b:SF}{rest:List D}(P:Nat->Sd->Hd->Prop)(l:∀i σ h,P i σ h->gq g all h) :
  ∀{xs:List D} {k:Nat} {σ:Sd} {h:Hd},(∀(i:Nat) x σ h,xs[i]? = some x->P (k + i) σ h->∃σ',tg x σ = some σ'/\∃a c,b σ' h=.nx a c/\P (k + i + 1) a c)->P k σ h->
   ∃σ' h',cJ g all tg b (xs++rest) σ h=cJ g all tg b rest σ' h'/\P (k + xs.length) σ' h'
 | [],k,σ,h,_,p=>⟨σ,h,rfl,by simpa using p⟩
 | x :: xs,k,σ,h,st,p=>by
  obtain⟨σ',h1,o,u,t,n⟩:=st 0 x σ h (by simp) (by simpa using p);have d:∀(i:Nat) y σ h,xs[i]? = some y->P (k + 1 + i) σ h->∃σ',tg y σ = some σ'/\∃a c,b σ' h=.nx a c/\P (k + 1 + i + 1) a c:=λi y σ h e q=>by
   have f:k + 1 + i=k + (i + 1):=by omega
   rw[f]at q ⊢;exact st (i + 1) y σ h (by simpa using e) q
  obtain⟨j,m,s,r⟩:=sj P l d (by simpa using n);refine⟨j,m,?_,?_⟩
  ·rw[<-s,XI,cJ,yD (l _ _ _ p),h1]
   simp only[t]
  ·have f:k + (x :: xs).length=k + 1 + xs.length:=by simp;omega
   rw[f];exact r
variable {σ:Sd}{b:SF}
theorem j9 {g:Option Nat}{all:List D}{tg:GF}(P:Nat->Sd->Hd->Prop)(d:∀i σ h,P i σ h->gq g all h)
  {xs:List D} {k:Nat}   (st:∀(i:Nat) x σ h,xs[i]? = some x->P (k + i) σ h->∃σ',tg x σ = some σ'/\∃a c,b σ' h=.nx a c/\P (k + i + 1) a c) (p:P k σ h) :
   ∃σ' h',cJ g all tg b xs σ h=.nx σ' h'/\P (k + xs.length) σ' h':=by
 obtain⟨σ',h',q,z⟩:=sj P d st p;rw[YL]at q;exact⟨σ',h',q.trans (by unfold cJ;exact yD (d _ _ _ z)),z⟩
theorem i4 {g:Option Nat}{all:List D}{tg:GF}{e:EF}(P:Nat->Sd->Hd->Prop)(V:Nat->D->Prop)(n:∀i σ h,P i σ h->gq g all h) :
  ∀{xs:List D} {k:Nat} {σ:Sd} {h:Hd},(∀(i:Nat) x σ h,xs[i]? = some x->P (k + i) σ h->∃σ',tg x σ = some σ'/\∃d a,e σ' h=.ok d a/\V (k + i) d/\P (k + i + 1) σ' a)->P k σ h->
   ∃b h',cV g all tg [] e xs σ h=.ok b h'/\b.length=xs.length/\(∀(i:Nat) d,b[i]? = some d->V (k + i) d)/\∃σ',P (k + xs.length) σ' h'
 | [],k,σ,h,_,p=>⟨[],h,by simp[cV,n _ _ _ p],rfl,by simp,σ,by simpa using p⟩
 | x :: xs,k,σ,h,st,p=>by
  obtain⟨σ',h1,d,A,z,v,r⟩:=st 0 x σ h (by simp) (by simpa using p);have c:∀(i:Nat) y σ h,xs[i]? = some y->P (k + 1 + i) σ h->∃σ',tg y σ = some σ'/\∃d a,e σ' h=.ok d a/\V (k + 1 + i) d/\P (k + 1 + i + 1) σ' a:=λi y σ h e q=>by
   have f:k + 1 + i=k + (i + 1):=by omega
   rw[f]at q ⊢;exact st (i + 1) y σ h (by simpa using e) q
  obtain⟨b,o,u,w,m,l,t⟩:=i4 P V n c (by simpa using r);refine⟨d :: b,o,?_,by simp[w],λi s j => ?_,l,?_⟩
  ·simp[cV,n _ _ _ p,h1,oS,z,u]
  ·cases i with
   | zero=>simp at j;subst j;simpa using v
   | succ i =>
    have:=m i s (by simpa using j);rwa[show k + 1 + i=k + (i + 1) by omega]at this
  ·have f:k + (x :: xs).length=k + 1 + xs.length:=by simp;omega
   rw[f];exact t
variable {n:Nat}
theorem xX {α : Type}{a:List α}{f:Nat->α}(c:a.length=n)(h:∀(i:Nat) d,a[i]? = some d->d=f i):a=(List.range n).map f:=by
 apply XS;intro i
 by_cases b:i < n
 ·have:a[i]? = some (a[i]'(by omega)):=by simp[c,b]
  rw[this,h i _ this];simp[b]
 ·simp[b,c]
theorem gZ {t:TF}{b:SF}:∀{n:Nat} {σ:Sd} {h:Hd} {r:Out},dS t b n σ h=r->r ≠ .bad->∀{m:Nat},n<=m->dS t b m σ h=r
 | 0,σ,h,r,e,g,m,_=>by simp only[dS]at e;exact absurd e.symm g
 | n + 1,σ,h,r,e,g,m,j=>by
  cases m with
  | zero=>omega
  | succ m =>
   simp only[dS]at e ⊢;cases c:t σ h with
   | bad=>rw[c]at e;exact e
   | exc x h1=>rw[c]at e;exact e
   | ok i h1 =>
    rw[c]at e;cases i with
    | false=>exact e
    | true =>
     simp only at e ⊢;cases a:b σ h1 with
     | nx σ2 f=>rw[a]at e;exact gZ e g (by omega)
     | ct σ2 f=>rw[a]at e;exact gZ e g (by omega)
     | bk σ2 f=>rw[a]at e;exact e
     | rt d f=>rw[a]at e;exact e
     | exc x σ2 f=>rw[a]at e;exact e
     | bad=>rw[a]at e;exact e
variable {t:TF}
theorem AI {r:Out}(e:dS t b n σ h=r)(c:r ≠ .bad):kC t b σ h=r:=by
 have a:∃n,dS t b n σ h ≠ .bad:=⟨n,by rw[e];exact c⟩;have f:DZ t b σ h=Classical.choose a:=by simp[DZ,a]
 have d:=Classical.choose_spec a;unfold kC;rw[f]
 by_cases hle:n<=Classical.choose a
 ·exact gZ e c hle
 ·have:=gZ rfl d (m:=n) (by omega)
  rw[<-this,e]
variable {h1:Hd}
theorem aD {F:Fn}{r:LF}{c:List D}(a:r σ h=.ok c h1)(b:F c h1=.ok d h'):au F r σ h=.ok d h':=by
 show Res.bind _ _=_;rw[a];exact b
theorem ai {a:EF}{r:LF}{b:Hd}{c:List D}(p:a σ h=.ok d h1)(q:r σ h1=.ok c b):ae a r σ h=.ok (d :: c) b:=by
 show Res.bind _ _=_;rw[p,az,q];rfl
theorem ar {g:O2}{a b:EF}{d c:Hd}{x y z:D}(p:a σ h=.ok x h1)(q:b σ h1=.ok y d)(r:g x y d=.ok z c):ao g a b σ h=.ok z c:=by
 show Res.bind _ _=_;rw[p,az,q];exact r
theorem cS {r:LF}{xs:List D}(p:r σ h=.ok xs h')(q:xs.length<=SZ:=by exact YC rfl):dR r σ h=.ok (.tup xs) h':=by
 show Res.bind _ _=_;rw[p];exact yD q
theorem bo {r:LF}{xs:List D}(p:r σ h=.ok xs h')(q:xs.length<=SZ:=by exact YC rfl):aL r σ h=.ok (.ref h'.length) (h'++[.lst xs]):=by
 show Res.bind _ _=_;rw[p];exact yD q
theorem jo {a:LF}{b:EF}{c:Hd}{i:Int}(p:a σ h=.ok l h1)(q:b σ h1=.ok (.int i) c)(r:atI l i=some d):fIx a b σ h=.ok d c:=by
 show Res.bind _ _=_;rw[p,az,q];simp only[az,r]
theorem bz {a b:EF}{c:Hd}{x:D}{i:Int}(p:a σ h=.ok x h1)(q:b σ h1=.ok (.int i) c)(s:io c x=some l)(r:atI l i=some d):fAt a b σ h=.ok d c:=by
 exact ar p q (by simp only[oAt,s,r])
theorem aK (p:h[n]? = some (.lst l)):io h (.ref n)=some l:=by simp only[io,p]
variable {e:EF}
theorem aH {i:Nat}(p:e σ h=.ok d h'):aB (gN i) e σ h=.nx (σ.set i (some d)) h':=by
 show outE _ _ _=_;rw[p];rfl
theorem bc (p:e σ h=.ok d h'):bx e σ h=.rt d h':=by
 show outE _ _ _=_;rw[p];rfl
theorem fQ (p:e σ h=.ok d h'):eP e σ h=.nx σ h':=by
 show outE _ _ _=_;rw[p];rfl
theorem dN {a:SF}(p:t σ h=.ok true h1):sIf t a b σ h=a σ h1:=by
 unfold sIf;rw[p];rfl
theorem cW {a:SF}(p:t σ h=.ok false h1):sIf t a b σ h=b σ h1:=by
 unfold sIf;rw[p];rfl
theorem aE {a:EF}{b:Bool}(p:a σ h=.ok (.bl b) h'):tE a σ h=.ok b h':=by
 show asB _=_;rw[p];rfl
theorem bu {b:Bool}(p:t σ h=.ok b h'):dh t σ h=.ok (!b) h':=by
 show Res.bind _ _=_;rw[p];rfl
theorem i5 {u:TF}{b:Bool}(p:t σ h=.ok true h1)(q:u σ h1=.ok b h'):jr t u σ h=.ok b h':=by
 show Res.bind _ _=_;rw[p];exact q
theorem ly {u:TF}(p:t σ h=.ok false h1):jr t u σ h=.ok false h1:=by
 show Res.bind _ _=_;rw[p];rfl
theorem bA {u:TF}{b:Bool}(p:t σ h=.ok false h1)(q:u σ h1=.ok b h'):tOr t u σ h=.ok b h':=by
 show Res.bind _ _=_;rw[p];exact q
theorem c8 {u:TF}(p:t σ h=.ok true h1):tOr t u σ h=.ok true h1:=by
 show Res.bind _ _=_;rw[p];rfl
variable {j:Int}
theorem wn {i:Int}:oEq (.int i) (.int j) h=.ok (.bl (decide (i=j))) h:=rfl
theorem bZ {a:LF}(p:a σ h=.ok l h1):cr a σ h=.ok (.int l.length) h1:=by
 show Res.bind _ _=_;rw[p];rfl
theorem bG {a:EF}{x:D}(p:a σ h=.ok x h1)(s:io h1 x=some l):lOf a σ h=.ok l h1:=by
 show Res.bind _ _=_;rw[p];simp only[az,s]
theorem pF {x i:EF}{b a:Hd}{k:Nat}(p:e σ h=.ok d h1)(q:x σ h1=.ok (.ref n) b)(r:i σ b=.ok (.int j) a)(s:a[n]? = some (.lst l))(t:ixN l.length j=some k):nM x i e σ h=.nx σ (a.set n (.lst (l.set k d))):=by
 simp only[nM,p,q,r,outE,s,t]
theorem i6 {x:EF}{a:Hd}{b:List D}(p:x σ h=.ok (.ref n) h1)(q:h1[n]? = some (.lst b))(r:e σ h1=.ok d a)(s:a[n]? = some (.lst l))(t:l.length < SZ):fO x e σ h=.ok .non (a.set n (.lst (l++[d]))):=by
 simp only[fO,p,az,q,r,FV,s,yD t]
theorem i7 {i:Int}(p:0 < j):fX (.int i) (.int j) h=.ok (.int (i % j)) h:=by
 simp only[fX,oIc,x8 p,Y7]
theorem GO {i:Int}(p:0 < j)(q:j < 2 ^ 250):BD (.int i) (.int j) h=.ok (.int (i / j)) h:=by
 simp only[BD,oIc,x8 p,x8 q,Bool.and_self,Y7]
theorem xY {i:Int}(e:i=j):oEq (.int i) (.int j) h=.ok (.bl true) h:=by rw[wn,x8 e]
theorem ul {i:Int}(e : ¬i=j):oEq (.int i) (.int j) h=.ok (.bl false) h:=by rw[wn,y0 e]
theorem xZ {i:Int}(e : ¬i < j):oLt (.int i) (.int j) h=.ok (.bl false) h:=by show Res.ok (D.bl (decide (i < j))) h=_;rw[y0 e]
theorem ya {i:Int}(e:i < j):oLt (.int i) (.int j) h=.ok (.bl true) h:=by show Res.ok (D.bl (decide (i < j))) h=_;rw[x8 e]
theorem CO {i:Int}(p:(sml i || sml j)=true):im (.int i) (.int j) h=.ok (.int (i * j)) h:=by
 exact yD p
theorem kb {i:Int}(p:sml i=true):im (.int i) (.int j) h=.ok (.int (i * j)) h:=CO (by rw[p];rfl)
theorem Eu {i:Int}(p:sml j=true):im (.int i) (.int j) h=.ok (.int (i * j)) h:=CO (by rw[p,Bool.or_true])
theorem iz {b:Bool}(p:t σ h=.ok b h'):fT t σ h=.ok (.bl b) h':=by
 show Res.bind _ _=_;rw[p];rfl
theorem GP {x i:EF}{b a:Hd}{c:List D}(p:x σ h=.ok (.ref n) h1)(q:h1[n]? = some (.lst c))(r:i σ h1=.ok (.int j) b)(u:e σ b=.ok d a)(s:a[n]? = some (.lst l))(t:0<=j/\j<=l.length/\l.length < SZ):Aj x i e σ h=.ok .non (a.set n (.lst (l.take j.toNat++[d]++l.drop j.toNat))):=by
 simp only[Aj,p,az,q,r,u,s,yD t]
theorem um {h0 g:Hd}{A:Nat}(a:A=h0.length)(k:Nat)(c:aO):(h0++g).set (A + k) c=h0++g.set k c:=by
 subst a;rw[WR _ _ (by omega)];congr 2;omega
theorem aC {h0:Hd}{j:Nat}{c:aO}(g:Hd)(e:h0[j]? = some c):(h0++g)[j]? = some c:=(ZC (yE.mp e).1).trans e
theorem jL {a:EF}(p:a σ h=.ok (.int n) h1)(b:n<=1000):gp a σ h=.ok ((List.range n).map (λk:Nat=>D.int k),none) h1:=by
 show Res.bind _ _=_;rw[p];exact yD ⟨W6 (by decide) (WM n),W6 (Int.ofNat_le.mpr b) (by decide)⟩
theorem mE {a:IF}{tg:GF}{g:Option Nat}{o:Out}(p:a σ h=.ok (l,g) h1)(q:cJ g l tg b l σ h1=o):nN a tg b σ h=o:=by
 unfold nN;rw[p];exact q
theorem d8 {nl:Nat}{caps:List Nat}{b:IF}{tg:GF}{cs:List TF}{a:Hd}{c:List D}{g:Option Nat}(p:b σ h=.ok (l,g) h1)(q:cV g l tg cs e l (iP nl caps σ) h1=.ok c a):cB nl caps b tg cs e σ h=.ok c a:=by
 show Res.bind _ _=_;rw[p];exact q
theorem GQ {a:LF}{b:EF}{c:Hd}{n:Int}(p:a σ h=.ok l h1)(q:b σ h1=.ok (.int n) c)(r:0<=n/\n<=1000/\l.length * n.toNat<=1000):xQ a b σ h=.ok (List.replicate n.toNat l).flatten c:=by
 simp only[xQ,p,az,q,yD r]
theorem GR {k:Int}{l:List (Int × D)}(p:h[n]? = some (.dct l)):BZ (.int k) (.ref n) h=.ok (.bl (pc l k).isSome) h:=by simp only[BZ,p]
theorem zy {x i:EF}{b a:Hd}{l:List (Int × D)}(p:e σ h=.ok d h1)(q:x σ h1=.ok (.ref n) b)(r:i σ b=.ok (.int j) a)(s:a[n]? = some (.dct l))(t:l.length < SZ):vP x i e σ h=.nx σ (a.set n (.dct (xN l j d))):=by
 simp only[vP,p,q,r,outE,s,yD t]
theorem yb {a:EF}(p:a σ h=.ok (.ref n) h1)(q:h1[n]? = some (.lst l)):ip .list a σ h=.ok (.bl true) h1:=by
 simp only[ip,p,az,oR,q];rfl
theorem eW {a:EF}(p:a σ h=.ok (.ref n) h1)(q:h1[n]? = some (.lst l)):fZ a σ h=.ok (l,some n) h1:=by
 simp only[fZ,p,az,q]
theorem GS {a b:EF}{c:Hd}{i:Int}(p:a σ h=.ok (.int i) h1)(q:b σ h1=.ok (.int j) c):tU a b σ h=.ok (.int (if j > i then j else i)) c:=by
 simp only[tU,p,az,q]
theorem lA {a:LF}(p:a σ h=.ok l h1):gR a σ h=.ok (.tup l) h1:=by
 show Res.bind _ _=_;rw[p];rfl
theorem GT {i:Int}(e:j < i):oGt (.int i) (.int j) h=.ok (.bl true) h:=by show Res.ok (D.bl (decide (j < i))) h=_;rw[x8 e]
theorem GU {i:Int}(e : ¬j < i):oGt (.int i) (.int j) h=.ok (.bl false) h:=by show Res.ok (D.bl (decide (j < i))) h=_;rw[y0 e]
theorem zz {A:Nat}(a:A=h.length)(c d:aO):(h++[c]).set A d=h++[d]:=by
 have:=um (g:=[c]) a 0 d;rwa[Nat.add_zero]at this
theorem GV {a b:EF}(p:t σ h=.ok true h1):fIf t a b σ h=a σ h1:=by
 show Res.bind _ _=_;rw[p];rfl
theorem GW {a b:EF}(p:t σ h=.ok false h1):fIf t a b σ h=b σ h1:=by
 show Res.bind _ _=_;rw[p];rfl
theorem km {a:SF}{σ':Sd}(e:a σ h=.nx σ' h'):ay a b σ h=b σ' h':=by simp only[ay,e]
theorem cx {a:SF}(e:a σ h=.rt d h'):ay a b σ h=.rt d h':=by simp only[ay,e]
theorem bJ {c:Nat}{a:List D}(f:a.length=c)(st:(a.map some++List.replicate (n - a.length) none:Sd) = σ)(e:b σ h=.rt d h'):bQ c n b a h=letGo h (.ok d h'):=by
 unfold bQ runB;rw[yD f,st,e]
theorem uo {a:LF}{bs:List Bool}(p:a σ h=.ok l h1)(q:jj l=some bs):vE a σ h=.ok (.bl (bs.all id)) h1:=by
 simp only[vE,p,az,q]
theorem mF (a b:Int)(h:Hd):oNe (.int a) (.int b) h=.ok (.bl (!decide (a=b))) h:=rfl
theorem GX {a b:EF}{c:Hd}{i:Int}(p:a σ h=.ok (.int i) h1)(q:b σ h1=.ok (.int j) c):tW a b σ h=.ok (.int (if j < i then j else i)) c:=by
 simp only[tW,p,az,q]
theorem dA {a b:EF}{c:Hd}{e:D}(p:a σ h=.ok d h1)(q:b σ h1=.ok e c):ae a (ae b am) σ h=.ok [d,e] c:=ai p (ai q rfl)
theorem sx {a:SF}{σ':Sd}{o:Out}(p:a σ h=.nx σ' h')(q:b σ' h'=o):ay a b σ h=o:=(km p).trans q
def dB:Fn:=bQ 1 1 (bx (fT (jr (tE (ip .int (aa 0))) (dh (tE (ip .bool (aa 0)))))))
def aQ:Fn:=bQ 3 3 (bx (fT (jr (tE (au dB (ae (aa 0) am))) (tE (fN oLe oLe (aa 1) (aa 0) (aa 2))))))
def d9:Fn:=bQ 1 1 (bx (au aQ (ae (aa 0) (ae (fC (.int 0)) (ae (fC (.int 1)) am)))))
theorem lC (i:Int)(h:Hd):dB [.int i] h=.ok (.bl true) h:=(bJ rfl rfl rfl).trans aU
theorem b8 (i a b:Int)(h:Hd):aQ [.int i,.int a,.int b] h=.ok (.bl (decide (a<=i) && decide (i<=b))) h:=by
 have c:fN oLe oLe (aa 1) (aa 0) (aa 2) [some (.int i),some (.int a),some (.int b)] h=.ok (.bl (decide (a<=i) && decide (i<=b))) h:=by
  show (match D.bl (decide (a<=i)) with | .bl true=>Res.ok (D.bl (decide (i<=b))) h | .bl false=>.ok (.bl false) h|_=>.bad)=_;cases decide (a<=i)<;>rfl
 have t:jr (tE (au dB (ae (aa 0) am))) (tE (fN oLe oLe (aa 1) (aa 0) (aa 2))) [some (.int i),some (.int a),some (.int b)] h=.ok (decide (a<=i) && decide (i<=b)) h:=i5 (aE (aD (ai rfl rfl) (lC i h))) (aE c);exact(bJ rfl rfl (bc (iz t))).trans aU
theorem jM (i:Int)(h:Hd):d9 [.int i] h=.ok (.bl (decide (0<=i) && decide (i<=1))) h:=by
 exact(bJ rfl rfl (bc (aD (ai rfl (dA rfl rfl)) (b8 i 0 1 h)))).trans aU
def Ev (r:List (Nat × Int)) (s:List Int):List Int:=(r.filter λp=>decide (s.getD p.1 0=1)).map (·.2)
def yc (r:List (Nat × Int)) (s:List Int):Int:=(Ev r s).sum
def Ew (w:Web) (f s:List Int) (p:Nat):Int:=(2 * w.bars.getD p 0 + 1) * (f.getD p 0 + s.getD p 0) - (if s.getD p 0=1 then 2 * (2 * yc (w.ties.getD p []) f) + 2 * f.getD p 0 else 0)
def Fd (w:Web) (f s:List Int):Nat->Int
 | 0=>0
 | k + 1=>Fd w f s k + Ew w f s k
def IT (w:Web) (s:List Int) (p:Nat):Int:=match w.stays.getD p none with
 | some x=>x
 | none=>if 2 * yc (w.ties.getD p []) s=w.bars.getD p 0 then s.getD p 0 else if w.bars.getD p 0 < 2 * yc (w.ties.getD p []) s then 1 else 0
def CP (w:Web) (n:Nat) (s:List Int):List Int:=(List.range n).map (IT w s)
def GY (w:Web) (n:Nat) (s:List Int):Nat->List Int
 | 0=>s
 | k + 1=>CP w n (GY w n s k)
def eo:Fn:=bQ 2 4 (ay (sIf (tOr (dh (tE (ip .tuple (aa 1)))) (tE (ao oNe (cr (lOf (aa 1))) (fC (.int 3))))) (bx (fC (.bl false))) bB)
  (ay (aB (gN 2) (fAt (aa 1) (fC (.int 0))))
  (ay (aB (gN 3) (fAt (aa 1) (fC (.int 1))))
  (ay (sIf (tOr (dh (tE (au aQ (ae (aa 2) (ae (fC (.int 0)) (ae (ao tu (aa 0) (fC (.int 1))) am)))))) (dh (tE (au aQ (ae (aa 3) (ae (fC (.int 0)) (ae (ao tu (aa 0) (fC (.int 1))) am))))))) (bx (fC (.bl false))) bB)
  (bx (fT (jr (tE (ao oNe (aa 2) (aa 3))) (tE (au aQ (ae (fAt (aa 1) (fC (.int 2))) (ae (fC (.int 1)) (ae (fC (.int 400)) am))))))))))))
abbrev hV:SF:=(ay (sIf (dh (tE (au eo (ae (aa 0) (ae (aa 3) am))))) qz bB)
  (ay (aB (gN 4) (fAt (aa 3) (fC (.int 0))))
  (ay (aB (gN 5) (fAt (aa 3) (fC (.int 1))))
  (ay (sIf (tE (ao BZ (aa 5) (fAt (aa 2) (aa 4)))) qz bB)
  (ay (vP (fAt (aa 2) (aa 4)) (aa 5) (fAt (aa 3) (fC (.int 2))))
  (vP (fAt (aa 2) (aa 5)) (aa 4) (fAt (aa 3) (fC (.int 2)))))))))
def gg:Fn:=bQ 2 6 (ay (sIf (dh (tE (ip .list (aa 1)))) qz bB)
  (ay (aB (gN 2) (aL (cB 1 [] (gp (aa 0)) (gN 0) [] o9)))
  (ay (nN (fZ (aa 1)) (gN 3) hV)
  (bx (aa 2)))))
def g7:Fn:=bQ 2 2 (ay (sIf (tE (ao ju (aa 1) (fC .non))) qz bB)
  (ay (sIf (tOr (dh (tE (ip .list (aa 1)))) (tE (ao oNe (cr (lOf (aa 1))) (cr (lOf (aa 0)))))) qz bB)
  (ay (sIf (dh (tE (vE (cB 1 [] (fZ (aa 1)) (gN 0) [] (au dB (ae (aa 0) am)))))) qz bB)
  (bx (gR (lOf (aa 1)))))))
def gh:Fn:=bQ 2 2 (ay (sIf (tE (ao ju (aa 1) (fC .non))) (bx (gR (cB 1 [] (gp (aa 0)) (gN 0) [] (fC .non)))) bB)
  (ay (sIf (tOr (dh (tE (ip .list (aa 1)))) (tE (ao oNe (cr (lOf (aa 1))) (aa 0)))) qz bB)
  (ay (sIf (dh (tE (vE (cB 1 [] (fZ (aa 1)) (gN 0) [] (fT (tOr (tE (ao ju (aa 0) (fC .non))) (tE (au d9 (ae (aa 0) am))))))))) qz bB)
  (bx (gR (lOf (aa 1)))))))
def eX:Fn:=bQ 4 6 (ay (sIf (dh (tE (au aQ (ae (aa 0) (ae (fC (.int 1)) (ae (fC (.int 30)) am)))))) qz bB)
  (ay (aB (gN 4) (au gg (ae (aa 0) (ae (aa 1) am))))
  (ay (aB (gN 5) (gR (cB 1 [] (fZ (aa 4)) (gN 0) [] (gR (my (aa 0))))))
  (bx (dR (ae (aa 5) (ae (au g7 (ae (aa 4) (ae (aa 2) am))) (ae (au gh (ae (aa 0) (ae (aa 3) am))) am))))))))
def cK:Fn:=bQ 2 4 (ay (aB (gN 2) (fC (.int 0)))
  (ay (sIf (tE (ao oLt (aa 1) (cr (lOf (aa 0))))) (aB (gN 2) (fAt (aa 0) (aa 1))) bB)
  (ay (aB (gN 3) (fT (tOr (tE (ao oEq (cr (lOf (aa 0))) (fC (.int 0)))) (tE (ao oEq (ao fX (fAt (aa 0) (fC (.int 0))) (fC (.int 2))) (fC (.int 1)))))))
  (ay (sIf (tE (aa 3)) (aB (gN 2) (ao b7 (ao fX (aa 2) (fC (.int 2147483647))) (ao im (fC (.int 1000003)) (aa 1)))) bB)
  (bx (aL (ae (aa 2) (ae (fC (.int 0)) (ae (aa 3) am)))))))))
def aJ:Fn:=bQ 2 4 (ay (nM (aa 0) (fC (.int 1)) (ao b7 (fAt (aa 0) (fC (.int 1))) (fC (.int 1))))
  (ay (sIf (tE (fAt (aa 0) (fC (.int 2)))) (ay (aB (gN 2) (ao fX (ao im (ao b7 (ao b7 (fAt (aa 0) (fC (.int 0))) (ao im (fC (.int 7919)) (fAt (aa 0) (fC (.int 1))))) (fC (.int 1))) (fC (.int 48271))) (fC (.int 2147483647))))
  (ay (aB (gN 2) (ao fX (ao im (aa 2) (ao b7 (ao fX (aa 2) (fC (.int 65521))) (fAt (aa 0) (fC (.int 1))))) (fC (.int 2147483629))))
  (bx (ao fX (ao fX (ao b7 (ao im (aa 2) (aa 2)) (ao im (fC (.int 69621)) (aa 2))) (fC (.int 2147483563))) (aa 1))))) bB)
  (ay (aB (gN 3) (ao fX (fAt (aa 0) (fC (.int 0))) (aa 1)))
  (ay (nM (aa 0) (fC (.int 0)) (ao BD (fAt (aa 0) (fC (.int 0))) (aa 1)))
  (bx (aa 3))))))
def eY:Fn:=bQ 3 3 (ay (sIf (tE (ao oEq (aa 0) (fC (.int 0)))) (bx (aa 2)) bB)
  (ay (sIf (tE (ao oEq (aa 0) (fC (.int 1)))) (bx (ao tu (aa 1) (fC (.int 60)))) bB)
  (ay (sIf (tE (ao oEq (aa 0) (fC (.int 2)))) (bx (ao tu (ao b7 (aa 2) (ao fX (aa 1) (fC (.int 5)))) (fC (.int 2)))) bB)
  (ay (sIf (tE (ao oEq (aa 0) (fC (.int 3)))) (bx (ao im (fC (.int 2)) (ao fX (aa 1) (ao b7 (aa 2) (fC (.int 1)))))) bB)
  (bx (ao im (ao b7 (ao Ik (fC (.int 10)) (fC (.int 59))) (aa 1)) (fIx (ae (fC (.int 1)) (ae (fC (.int (-1))) am)) (ao fX (aa 1) (fC (.int 2))))))))))
abbrev g8:SF:=(sIf (tE (ao oEq (au aJ (ae (aa 9) (ae (aa 3) am))) (fC (.int 0)))) (ay (aB (gN 11) (ao b7 (fC (.int 1)) (au aJ (ae (aa 9) (ae (fIx (ae (fC (.int 3)) (ae (fC (.int 400)) am)) (au aJ (ae (aa 9) (ae (fC (.int 2)) am)))) am)))))
  (ay (eP (Aj (aa 4) (au aJ (ae (aa 9) (ae (ao b7 (cr (lOf (aa 4))) (fC (.int 1))) am))) (fIx (ae (dR (ae (aa 8) (ae (aa 10) (ae (aa 11) am)))) (ae (dR (ae (aa 10) (ae (aa 8) (ae (aa 11) am)))) am)) (ao fX (aa 11) (fC (.int 2))))))
  (ay (nM (aa 7) (aa 8) (ao b7 (fAt (aa 7) (aa 8)) (aa 11)))
  (nM (aa 7) (aa 10) (ao b7 (fAt (aa 7) (aa 10)) (aa 11)))))) bB)
abbrev fH:SF:=(ay (aB (gN 9) (au cK (ae (aa 0) (ae (ao b7 (fC (.int 1)) (aa 8)) am))))
  (ay (eP (fO (aa 6) (fIx (ae (fC .non) (ae (fC .non) (ae (fC .non) (ae (fC (.int 0)) (ae (fC (.int 1)) am))))) (au aJ (ae (aa 9) (ae (fC (.int 5)) am))))))
  (ay (eP (fO (aa 5) (dR (ae (au aJ (ae (aa 9) (ae (fC (.int 5)) am))) (ae (au aJ (ae (aa 9) (ae (fC (.int 200)) am))) am)))))
  (nN (gp (aa 8)) (gN 10) g8))))
def gz:Fn:=bQ 1 12 (ay (aB (gN 1) (au cK (ae (aa 0) (ae (fC (.int 0)) am))))
  (ay (eP (au aJ (ae (aa 1) (ae (fC (.int 2)) am))))
  (ay (aB (gN 2) (ao b7 (fC (.int 1)) (au aJ (ae (aa 1) (ae (fIx (ae (fC (.int 2)) (ae (fC (.int 4)) (ae (fC (.int 6)) am))) (au aJ (ae (aa 1) (ae (fC (.int 3)) am)))) am)))))
  (ay (aB (gN 3) (fIx (ae (fC (.int 1)) (ae (fC (.int 2)) (ae (fC (.int 5)) am))) (au aJ (ae (aa 1) (ae (fC (.int 3)) am)))))
  (ay (aB (gN 4) (aL am))
  (ay (aB (gN 5) (aL am))
  (ay (aB (gN 6) (aL am))
  (ay (aB (gN 7) (aL (xQ (ae (fC (.int 0)) am) (aa 2))))
  (ay (nN (gp (aa 2)) (gN 8) fH)
  (ay (aB (gN 5) (aL (cB 1 [7,5] (gp (aa 2)) (gN 0) [] (au eY (ae (fAt (fAt (aa 2) (aa 0)) (fC (.int 0))) (ae (fAt (fAt (aa 2) (aa 0)) (fC (.int 1))) (ae (fAt (aa 1) (aa 0)) am)))))))
  (bx (dR (ae (aa 2) (ae (aa 4) (ae (aa 5) (ae (aa 6) (ae (aa 7) am)))))))))))))))))
theorem bL {a:SF}{σ':Sd}(e:a σ h=.nx σ' h'):ay a b σ h=b σ' h':=by simp[ay,e]
theorem Ex {a:SF}(e:a σ h=.rt d h'):ay a b σ h=.rt d h':=by simp[ay,e]
theorem zA {x:Int}(h0:0<=x)(h1:x < 4611686018427387904):sml x=true:=by
 simp only[sml,Z4,YN];omega
theorem oa {α : Type}{f : α->D}{l:List α}{i:Nat}(h:i < l.length):atI (l.map f) (i:Int)=some (f l[i]):=dw (by simp[h])
theorem pG (ns:List Int)(k:Nat)(h:Hd):∃c m,cK [.lit (ns.map .int),.int k] h=.ok (.ref h.length) (h++[.lst [.int c,.int 0,.bl m]]):=by
 have i:sml 1000003=true:=by decide
 have z:∀b:Bool,(b=true\/b=false):=λb=>by cases b<;>simp
 obtain⟨c,g⟩ : ∃c,c=if k < ns.length then ns.getD k 0 else 0:=⟨_,rfl⟩
 have j:aB (gN 2) (fC (.int 0)) [some (.lit (ns.map .int)),some (.int k),none,none] h=.nx [some (.lit (ns.map .int)),some (.int k),some (.int 0),none] h:=aH rfl;have p:sIf (tE (ao oLt (aa 1) (cr (lOf (aa 0))))) (aB (gN 2) (fAt (aa 0) (aa 1))) bB [some (.lit (ns.map .int)),some (.int k),some (.int 0),none] h=.nx [some (.lit (ns.map .int)),some (.int k),some (.int c),none] h:=by
  by_cases e:k < ns.length
  ·have a:=oa (f:=D.int) e
   rw[g,yD e];refine(dN (aE (ar rfl (bZ (bG rfl rfl)) (ya (Int.ofNat_lt.mpr (by rw[ZA];exact e)))))).trans (aH (bz rfl rfl rfl ?_));rw[a,List.getD_eq_getElem?_getD,ZE e];rfl
  ·rw[g,wR e]
   exact cW (aE (ar rfl (bZ (bG rfl rfl)) (xZ (λz=>e (by have:=Int.ofNat_lt.mp z;rwa[ZA]at this)))))
 obtain⟨m,q⟩ : ∃m,aB (gN 3) (fT (tOr (tE (ao oEq (cr (lOf (aa 0))) (fC (.int 0)))) (tE (ao oEq (ao fX (fAt (aa 0) (fC (.int 0))) (fC (.int 2))) (fC (.int 1)))))) [some (.lit (ns.map .int)),some (.int k),some (.int c),none] h=.nx [some (.lit (ns.map .int)),some (.int k),some (.int c),some (.bl m)] h:=by
  by_cases e:ns.length=0
  ·exact⟨true,aH (iz (c8 (aE (ar (bZ (bG rfl rfl)) rfl (xY (by rw[ZA,e];rfl))))))⟩
  ·have n:0 < ns.length:=Nat.pos_of_ne_zero e
   have a:atI (ns.map D.int) 0=some (.int ns[0]):=oa n;exact⟨decide (ns[0] % 2=1),aH (iz (bA (aE (ar (bZ (bG rfl rfl)) rfl (ul (λz=>e (by rw[ZA]at z;exact Int.ofNat.inj z))))) (aE (ar (ar (bz rfl rfl rfl a) rfl (i7 (by decide))) rfl wn))))⟩
 obtain⟨d,l⟩ : ∃d,sIf (tE (aa 3)) (aB (gN 2) (ao b7 (ao fX (aa 2) (fC (.int 2147483647))) (ao im (fC (.int 1000003)) (aa 1)))) bB [some (.lit (ns.map .int)),some (.int k),some (.int c),some (.bl m)] h=.nx [some (.lit (ns.map .int)),some (.int k),some (.int d),some (.bl m)] h:=by
  cases m with
  | true=>exact⟨c % 2147483647 + 1000003 * k,(dN (aE rfl)).trans (aH (ar (ar rfl rfl (i7 (by decide))) (ar rfl rfl (kb i)) rfl))⟩
  | false=>exact⟨c,cW (aE rfl)⟩
 refine⟨d,m,?_⟩;have o:([D.lit (ns.map .int),D.int k].map some++List.replicate (4 - [D.lit (ns.map .int),D.int k].length) none:Sd)=[some (.lit (ns.map .int)),some (.int k),none,none]:=rfl;unfold cK bQ runB;rw[yD (show [D.lit (ns.map .int),D.int k].length=2 from rfl),o,bL j,bL p,bL q,bL l];simp[SZ]
theorem CQ {c t m:Int}{b:Bool}(H:h[n]? = some (.lst [.int c,.int t,.bl b]))(q:0 < m)(F:m < 2 ^ 250) :
  ∃v T t',aJ [.ref n,.int m] h=.ok (.int v) (h.set n (.lst [.int T,.int t',.bl b]))/\0<=v/\v < m:=by
 have O:n < h.length:=(yE.mp H).1;obtain⟨a,i⟩ : ∃a,a=h.set n (.lst [.int c,.int (t + 1),.bl b]):=⟨_,rfl⟩;have p:a[n]? = some (.lst [.int c,.int (t + 1),.bl b]):=by rw[i,Z1 O]
 have R:nM (aa 0) (fC (.int 1)) (ao b7 (fAt (aa 0) (fC (.int 1))) (fC (.int 1))) [some (.ref n),some (.int m),none,none] h=.nx [some (.ref n),some (.int m),none,none] a:=by
  rw[i];exact pF (k:=1) (ar (bz rfl rfl (aK H) rfl) rfl rfl) rfl rfl H rfl
 have N:∀(v:Int) (g:Hd),(∀j,j < h.length->∃o,g[j]? = some o/\(h[j]? = some o\/jz o=true))->g.length=h.length->letGo h (.ok (.int v) g)=.ok (.int v) g:=λv g V G=>by
  have:=si (d:=.int v) rfl G (by
   intro j o u e;obtain⟨Y,W,U⟩:=V j u;rw[YL,W]at e;cases e;exact U)
  simpa using this
 have Q:([D.ref n,D.int m].map some++List.replicate (4 - [D.ref n,D.int m].length) none:Sd)=[some (.ref n),some (.int m),none,none]:=rfl;have X:∀(x y:Int),jz (.lst [.int x,.int y,.bl b])=true:=λx y=>rfl;have P:∀(x y:Int),∀j,j < h.length->∃o,(h.set n (.lst [.int x,.int y,.bl b]))[j]? = some o/\(h[j]? = some o\/jz o=true):=λx y j u=>by
  by_cases e:n=j
  ·subst e;exact⟨_,by rw[Z1 O],.inr (X x y)⟩
  ·exact⟨h[j],by rw[ZO e];simp[u],.inl (by simp[u])⟩
 cases b with
 | true =>
  have K:sml 7919=true:=by decide
  have w:sml 48271=true:=by decide
  have B:sml 69621=true:=by decide
  obtain⟨l,s⟩ : ∃l,l=(c + 7919 * (t + 1) + 1) * 48271 % 2147483647:=⟨_,rfl⟩;have L:0<=l/\l < 2147483647:=by rw[s];exact⟨X9 _ (by decide),XJ _ (by decide)⟩
  have A:sml l=true:=zA L.1 (Int.lt_trans L.2 (by decide));obtain⟨f,r⟩ : ∃f,f=l * (l % 65521 + (t + 1)) % 2147483629:=⟨_,rfl⟩;have M:0<=f/\f < 2147483629:=by rw[r];exact⟨X9 _ (by decide),XJ _ (by decide)⟩
  have E:sml f=true:=zA M.1 (Int.lt_trans M.2 (by decide));have z:aB (gN 2) (ao fX (ao im (ao b7 (ao b7 (fAt (aa 0) (fC (.int 0))) (ao im (fC (.int 7919)) (fAt (aa 0) (fC (.int 1))))) (fC (.int 1))) (fC (.int 48271))) (fC (.int 2147483647))) [some (.ref n),some (.int m),none,none] a=.nx [some (.ref n),some (.int m),some (.int l),none] a:=by
   rw[s];exact aH (ar (ar (ar (ar (bz rfl rfl (aK p) rfl) (ar rfl (bz rfl rfl (aK p) rfl) (kb K)) rfl) rfl rfl) rfl (Eu w)) rfl (i7 (by decide)))
  have C:aB (gN 2) (ao fX (ao im (aa 2) (ao b7 (ao fX (aa 2) (fC (.int 65521))) (fAt (aa 0) (fC (.int 1))))) (fC (.int 2147483629))) [some (.ref n),some (.int m),some (.int l),none] a=.nx [some (.ref n),some (.int m),some (.int f),none] a:=by
   rw[r];exact aH (ar (ar rfl (ar (ar rfl rfl (i7 (by decide))) (bz rfl rfl (aK p) rfl) rfl) (kb A)) rfl (i7 (by decide)))
  have J:bx (ao fX (ao fX (ao b7 (ao im (aa 2) (aa 2)) (ao im (fC (.int 69621)) (aa 2))) (fC (.int 2147483563))) (aa 1)) [some (.ref n),some (.int m),some (.int f),none] a=.rt (.int ((f * f + 69621 * f) % 2147483563 % m)) a:=by
   exact bc (ar (ar (ar (ar rfl rfl (kb E)) (ar rfl rfl (kb B)) rfl) rfl (i7 (by decide))) rfl (i7 q))
  refine⟨(f * f + 69621 * f) % 2147483563 % m,c,t + 1,?_,X9 _ (Int.ne_of_gt q),XJ _ q⟩;have I:tE (fAt (aa 0) (fC (.int 2))) [some (.ref n),some (.int m),none,none] a=.ok true a:=aE (bz rfl rfl (aK p) rfl);unfold aJ bQ runB;rw[yD (show [D.ref n,D.int m].length=2 from rfl),Q,bL R];rw[Ex]
  ·show letGo h (.ok _ a)=_
   rw[i];exact N _ _ (P _ _) (by simp)
  ·exact(dN I).trans ((bL z).trans ((bL C).trans J))
 | false =>
  have I:tE (fAt (aa 0) (fC (.int 2))) [some (.ref n),some (.int m),none,none] a=.ok false a:=aE (bz rfl rfl (aK p) rfl);refine⟨c % m,c / m,t + 1,?_,X9 _ (Int.ne_of_gt q),XJ _ q⟩;have S:∀x:SF,sIf (tE (fAt (aa 0) (fC (.int 2)))) x bB [some (.ref n),some (.int m),none,none] a=.nx [some (.ref n),some (.int m),none,none] a:=λx=>cW I;have z:aB (gN 3) (ao fX (fAt (aa 0) (fC (.int 0))) (aa 1)) [some (.ref n),some (.int m),none,none] a=.nx [some (.ref n),some (.int m),none,some (.int (c % m))] a:=aH (ar (bz rfl rfl (aK p) rfl) rfl (i7 q));have C:nM (aa 0) (fC (.int 0)) (ao BD (fAt (aa 0) (fC (.int 0))) (aa 1)) [some (.ref n),some (.int m),none,some (.int (c % m))] a=.nx [some (.ref n),some (.int m),none,some (.int (c % m))] (h.set n (.lst [.int (c / m),.int (t + 1),.bl false])):=by
   have:a.set n (.lst [.int (c / m),.int (t + 1),.bl false])=h.set n (.lst [.int (c / m),.int (t + 1),.bl false]):=by rw[i,WL]
   rw[<-this];exact pF (k:=0) (ar (bz rfl rfl (aK p) rfl) rfl (GO q F)) rfl rfl p rfl
  have J:bx (aa 3) [some (.ref n),some (.int m),none,some (.int (c % m))] (h.set n (.lst [.int (c / m),.int (t + 1),.bl false]))=.rt (.int (c % m)) (h.set n (.lst [.int (c / m),.int (t + 1),.bl false])):=bc rfl;unfold aJ bQ runB;rw[yD (show [D.ref n,D.int m].length=2 from rfl),Q,bL R,bL (S _),bL z,bL C,J];exact N _ _ (P _ _) (by simp)
theorem iA {i:Nat}{x:D}(b:((List.range n).map λk:Nat=>D.int k)[i]? = some x):i < n/\x=.int (i:Nat):=by
 have a:i < n:=by
  have:=(yE.mp b).1;simpa using this
 exact⟨a,by simpa[a,ZE] using b.symm⟩
theorem sr {α : Type}(f : α->D)(l:List α){x:Int}(h0:0<=x)(h:x < l.length):∃v∈l,atI (l.map f) x=some (f v):=by
 have a:x.toNat < l.length:=by omega
 refine⟨l[x.toNat],WG a,?_⟩;have:=oa (f:=f) a;rwa[show ((x.toNat:Nat):Int)=x by omega]at this
theorem GZ (k x t:Int)(r:0<=t)(h:Hd):∃v,eY [.int k,.int x,.int t] h=.ok (.int v) h/\(0<=x->x < 200->t<=1000000->v.natAbs < 10 ^ 60):=by
 by_cases c:k=0
 ·exact⟨t,by simp[eY,bQ,runB,c,peq,dep],λ_ _ _=>by omega⟩
 ·by_cases d:k=1
  ·exact⟨x - 60,by simp[eY,bQ,runB,c,d,peq,dep],λ_ _ _=>by omega⟩
  ·by_cases i:k=2
   ·exact⟨t + x % 5 - 2,by simp[eY,bQ,runB,c,d,i,peq,dep],λ_ _ _=>by omega⟩
   ·by_cases j:k=3
    ·have n:sml 2=true:=by decide
     have l:0 < t + 1:=by omega
     have o:=X9 x (show t + 1≠0 by omega);have p:=XJ x l;exact⟨2 * (x % (t + 1)),by simp[eY,bQ,runB,c,d,i,j,peq,dep,n,l],λ_ _ _=>by omega⟩
    ·obtain⟨v,f,q⟩:=sr D.int [1,-1] (x:=x % 2) (X9 _ (by omega)) (by have:=XJ x (show (0:Int) < 2 by omega);simpa using this)
     have q:atI [D.int 1,.int (-1)] (x % 2)=some (.int v):=q;have g:sml 10=true:=by decide
     have m:sml v=true:=by simp at f;rcases f with e|e<;>subst e<;>decide
     refine⟨(10 ^ 59 + x) * v,by simp[eY,bQ,runB,c,d,i,j,peq,dep,g,q,m],λa b _ => ?_⟩;simp at f;rcases f with e|e<;>subst e<;>omega
structure Tie where
 a:Nat
 b:Nat
 w:Int
def bq (t:Tie):D:=.tup [.int t.a,.int t.b,.int t.w]
def far (i:Nat) (t:Tie):Option Nat:=if t.a=i then some t.b else if t.b=i then some t.a else none
def wOf (i:Nat) (t:Tie):Int:=if t.a=i\/t.b=i then t.w else 0
def b9 (T:List Tie) (i:Nat):Int:=(T.map (wOf i)).sum
def IU (one other:Nat) (t:Tie):Prop:=(t.a < one/\t.b < one)\/(t.a=one/\t.b < other)\/(t.b=one/\t.a < other)
def fR (s t:Tie):Prop:=¬(s.a=t.a/\s.b=t.b)/\¬(s.a=t.b/\s.b=t.a)
structure TOk (n one other:Nat) (T:List Tie):Prop where
 ne:∀t∈T,t.a≠t.b
 lt:∀t∈T,t.a < n/\t.b < n
 wt:∀t∈T,1<=t.w/\t.w<=400
 be:∀t∈T,IU one other t
 un:T.Pairwise fR
 len:T.length<=30 * one + other
theorem fR.symm {s t:Tie}(h:fR s t):fR t s:=⟨λz=>h.1 ⟨z.1.symm,z.2.symm⟩,λz=>h.2 ⟨z.2.symm,z.1.symm⟩⟩
variable {T:List Tie}
theorem TOk.skip {b a:Nat}(o:TOk n b a T):TOk n b (a + 1) T :=
 ⟨o.ne,o.lt,o.wt,λt c=>by
  rcases o.be t c with h|h|h
  ·exact .inl h
  ·exact .inr (.inl ⟨h.1,Z7 h.2⟩)
  ·exact .inr (.inr ⟨h.1,Z7 h.2⟩),o.un,Nat.le_succ_of_le o.len⟩
theorem TOk.step {a:Nat}(o:TOk n a a T)(h:a < n)(c:n<=30):TOk n (a + 1) 0 T :=
 ⟨o.ne,o.lt,o.wt,λt b=>by
  rcases o.be t b with h|h|h
  ·exact .inl ⟨Z7 h.1,Z7 h.2⟩
  ·exact .inl ⟨Nat.lt_succ_of_le (Nat.le_of_eq h.1),Z7 h.2⟩
  ·exact .inl ⟨Z7 h.2,Nat.lt_succ_of_le (Nat.le_of_eq h.1)⟩,o.un,ZL o.len (W9 (ZL (XB h) c) _)⟩
theorem og {α : Type}{x y : α}{l:List α}{k:Nat}(h:y∈l.take k++[x]++l.drop k):y=x\/y∈l:=by
 simp only[ZT,Z0,Z5]at h;rcases h with h|h|h
 ·exact .inr (W0 h)
 ·exact .inl h
 ·exact .inr (W1 h)
theorem CT {α : Type}{R : α->α->Prop}(d:∀a b,R a b->R b a){x : α}{l:List α}(k:Nat)(h:l.Pairwise R)(g:∀y∈l,R x y):(l.take k++[x]++l.drop k).Pairwise R:=by
 have e:(l.take k++l.drop k).Pairwise R:=by rw[WS];exact h
 rw[YZ]at e;obtain⟨n,i,m⟩:=e;rw[ZT,YZ];refine⟨n,?_,λa f b c => ?_⟩
 ·rw[List.singleton_append,YF]
  exact⟨λy j=>g y (W1 j),i⟩
 ·rcases Z0.mp c with c|c
  ·simp at c;subst c;exact d _ _ (g a (W0 f))
  ·exact m a f b c
theorem AJ (T:List Tie)(x:Tie)(k i:Nat):b9 (T.take k++[x]++T.drop k) i=b9 T i + wOf i x:=by
 have:b9 T i=b9 (T.take k) i + b9 (T.drop k) i:=by
  unfold b9;rw[<-List.sum_append,<-ZQ,WS]
 rw[this];simp only[b9,ZQ,List.sum_append,ZZ,Y8,List.sum_cons,List.sum_nil];omega
theorem TOk.put {d a:Nat}(o:TOk n d a T)(h1:d < n)(f:a < d){w:Int}(i:1<=w)(h:w<=400){t:Tie}(g:t=⟨d,a,w⟩\/t=⟨a,d,w⟩)(k:Nat):TOk n d (a + 1) (T.take k++[t]++T.drop k) where
 ne:=λs b=>by
  rcases og b with rfl|b
  ·rcases g with e|e<;>subst e
   ·exact YA f
   ·exact ZM f
  ·exact o.ne s b
 lt:=λs b=>by
  rcases og b with rfl|b
  ·rcases g with e|e<;>subst e
   ·exact⟨h1,Z8 f h1⟩
   ·exact⟨Z8 f h1,h1⟩
  ·exact o.lt s b
 wt:=λs b=>by
  rcases og b with rfl|b
  ·rcases g with e|e<;>subst e<;>exact⟨i,h⟩
  ·exact o.wt s b
 be:=λs b=>by
  rcases og b with rfl|b
  ·rcases g with e|e<;>subst e
   ·exact .inr (.inl ⟨rfl,W5 _⟩)
   ·exact .inr (.inr ⟨rfl,W5 _⟩)
  ·exact o.skip.be s b
 un:=CT (λ_ _=>fR.symm) k o.un λs b=>by
  have c:=o.be s b;rcases g with e|e<;>subst e<;>rcases c with c|c|c
  ·exact⟨λz=>YA c.1 z.1,λz=>YA c.2 z.1⟩
  ·exact⟨λz=>YA c.2 z.2,λz=>YA (Z8 c.2 f) z.1⟩
  ·exact⟨λz=>YA (Z8 c.2 f) z.1,λz=>YA c.2 z.2⟩
  ·exact⟨λz=>YA c.2 z.2,λz=>YA c.1 z.2⟩
  ·exact⟨λz=>YA (Z8 c.2 f) z.2,λz=>YA c.2 z.1⟩
  ·exact⟨λz=>YA c.2 z.1,λz=>YA (Z8 c.2 f) z.2⟩
 len:=by
  have e:(T.take k).length + (T.drop k).length=T.length:=by rw[<-ZB,WS]
  rw[ZB,ZB,YQ,Nat.add_right_comm,e];exact Nat.succ_le_succ o.len
def yd (p:Int × Int):D:=.tup [.int p.1,.int p.2]
theorem AK {c i:Nat}(h1:c < n)(o:i < c){d:Tie}{w:Int}(l:d=⟨c,i,w⟩\/d=⟨i,c,w⟩)(k:Nat) :
  (List.range n).map (b9 (T.take k++[d]++T.drop k))=(((List.range n).map (b9 T)).set c (b9 T c + w)).set i (b9 T i + w):=by
 apply XS;intro j;have m:wOf j d=if j=c\/j=i then w else 0:=by
  rcases l with e|e<;>subst e<;>simp only[wOf]
  ·by_cases a:c=j<;>by_cases b:i=j<;>simp[a,b,eq_comm]<;>omega
  ·by_cases a:c=j<;>by_cases b:i=j<;>simp[a,b,eq_comm]<;>omega
 by_cases f:j < n
 ·rw[ZP,XY f,XE,AJ,m]
  by_cases g:i=j
  ·subst g
   rw[Z1 (by simp;omega)];simp
  ·rw[ZO g]
   by_cases h:c=j
   ·subst h
    rw[Z1 (by simp;omega)];simp
   ·rw[ZO h,ZP,XY f]
    have : ¬(j=c\/j=i):=by omega
    simp[this]
 ·rw[Y5 (by simp;omega),Y5 (by simp;omega)]
structure PH (n i:Nat) (T:List Tie) (bs:List (Int × Int)) (ss:List (Option Int)) (h:Hd):Prop where
 ti:h[1]? = some (.lst (T.map bq))
 ba:h[2]? = some (.lst (bs.map yd))
 st:h[3]? = some (.lst (ss.map bC))
 to:h[4]? = some (.lst (((List.range n).map (b9 T)).map .int))
 len:h.length=5 + i
 lb:bs.length=i
 ls:ss.length=i
 os:∀x∈ss,x=none\/x=some 0\/x=some 1
 bb:∀p∈bs,0<=p.2/\p.2 < 200
theorem ne5 {j:Nat}(k:Nat)(h:j < 5):5 + k≠j:=by omega
theorem PH.keep {i k:Nat}{bs:List (Int × Int)}{ss:List (Option Int)}{g:Hd}(P:PH n i T bs ss g)(a:aO):PH n i T bs ss (g.set (5 + k) a) :=
 ⟨(ZO (ne5 k (by decide))).trans P.ti,(ZO (ne5 k (by decide))).trans P.ba,(ZO (ne5 k (by decide))).trans P.st,(ZO (ne5 k (by decide))).trans P.to,by rw[YD];exact P.len,P.lb,P.ls,P.os,P.bb⟩
theorem c9 {c t m:Int}{b:Bool}(d:h[n]? = some (.lst [.int c,.int t,.bl b]))(f:0 < m)(a:m<=100000) :
  ∃v e t',aJ [.ref n,.int m] h=.ok (.int v) (h.set n (.lst [.int e,.int t',.bl b]))/\0<=v/\v < m:=CQ d f (Int.lt_of_le_of_lt a (by decide))
theorem eZ {g:Hd}{k:Nat}{c:aO}(a:aO)(h:g[k]? = some c):(g.set k a)[k]? = some a:=Z1 (yE.mp h).1
theorem kc {j:Nat}(h:j < n):ixN n (j:Int)=some j:=by simp[ixN,h]
abbrev XP (lit:D) (hd:Option D) (n thin one:Nat) (a b:Option D):Sd:=[some lit,hd,some (.int n),some (.int thin),some (.ref 1),some (.ref 2),some (.ref 3),some (.ref 4),some (.int one),some (.ref (5 + one)),a,b]
abbrev SC (c t:Int) (b:Bool):aO:=.lst [.int c,.int t,.bl b]
inductive PI (lit:D) (hd:Option D) (n thin one:Nat) (bs:List (Int × Int)) (ss:List (Option Int)) (m:Bool):Nat->Sd->Hd->Prop
 | mk {i:Nat} {h:Hd} {T:List Tie} {a b:Option D} {c t:Int} (P:PH n (one + 1) T bs ss h) (O:TOk n one i T) (hs:h[5 + one]? = some (SC c t m)):PI lit hd n thin one bs ss m i (XP lit hd n thin one a b) h
theorem JO {w v a:Int}(c:w=1 + v)(h0:0<=v)(h1:v < a)(b:a<=400):1<=w/\w<=400:=by omega
theorem few {l a i:Nat}(h:l<=30 * a + i)(h1:a < n)(b:n<=30)(hi:i < a):l < 1000:=by omega
theorem JP {l:Nat}(h:l < 1000):(l:Int) + 1<=100000:=by omega
theorem ye {d i e:Nat}{lit:D}(h1:d < n)(hn:n<=30)(hi:i < d){bs:List (Int × Int)}{ss:List (Option Int)}{h0:Hd}{hd b:Option D}{c I t F:Int}{m:Bool}(P:PH n (d + 1) T bs ss h0)(O:TOk n d i T)(v:h0[5 + d]? = some (SC c t m))
  (d1:aJ [.ref (5 + d),.int e] h0=.ok (.int 0) (h0.set (5 + d) (SC I F m))) :
  ∃σ' h',g8 (XP lit hd n e d (some (.int i)) b) h0=.nx σ' h'/\PI lit hd n e d bs ss m (i + 1) σ' h':=by
 have g1:=eZ (SC I F m) v;obtain⟨v2,c2,t2,Q,K,E⟩:=c9 (m:=2) g1 (by decide) (by decide);rw[WL]at Q;have g2:=eZ (SC c2 t2 m) v;obtain⟨y,l,C⟩:=sr D.int [3,400] K E;have C:atI [D.int 3,.int 400] v2=some (.int y):=C;have j:0 < y/\y<=400:=by
  rcases wU.mp l with rfl|l
  ·decide
  ·rw[Z5.mp l];decide
 obtain⟨v3,u,z,V,J,G⟩:=c9 (m:=y) g2 j.1 (W6 j.2 (by decide));rw[WL]at V;have g3:=eZ (SC u z m) v;obtain⟨w,W⟩ : ∃w,w=1 + v3:=⟨_,rfl⟩;have q:1<=w/\w<=400:=JO W J G j.2;have R:T.length < 1000:=few O.len h1 hn hi;obtain⟨X,L,A,B,M,N⟩:=c9 (m:=((T.map bq).length:Int) + 1) g3 (Int.lt_add_one_of_le (WM _)) (JP (by rw[ZA];exact R));rw[WL]at B;obtain⟨g,H⟩ : ∃g,g=h0.set (5 + d) (SC L A m):=⟨_,rfl⟩;have h:=P.keep (k:=d) (SC L A m);have U:=eZ (SC L A m) v;rw[<-H]at B h U;obtain⟨o,s,pt⟩ : ∃o:Tie,(o=⟨d,i,w⟩\/o=⟨i,d,w⟩)/\atI [D.tup [.int d,.int i,.int w],.tup [.int i,.int d,.int w]] (w % 2)=some (bq o):=by
  obtain⟨o,h1,h2⟩:=sr bq [⟨d,i,w⟩,⟨i,d,w⟩] (x:=w % 2) (X9 _ (by decide)) (XJ w (by decide));exact⟨o,(wU.mp h1).imp id Z5.mp,h2⟩
 obtain⟨f,p⟩ : ∃f,f=T.take X.toNat++[o]++T.drop X.toNat:=⟨_,rfl⟩;have O2:TOk n d (i + 1) f:=by rw[p];exact O.put h1 hi q.1 q.2 s _
 have s1:aB (gN 11) (ao b7 (fC (.int 1)) (au aJ (ae (aa 9) (ae (fIx (ae (fC (.int 3)) (ae (fC (.int 400)) am)) (au aJ (ae (aa 9) (ae (fC (.int 2)) am)))) am)))) (XP lit hd n e d (some (.int i)) b) (h0.set (5 + d) (SC I F m))
   = .nx (XP lit hd n e d (some (.int i)) (some (.int w))) (h0.set (5 + d) (SC u z m)) :=
  W ▸ aH (ar rfl (aD (ai rfl (ai (jo (ai rfl (ai rfl rfl)) (aD (ai rfl (ai rfl rfl)) Q) C) rfl)) V) rfl)
 have r:g[4]? = some (.lst (((List.range n).map (b9 T)).map .int)):=h.to;have s2:eP (Aj (aa 4) (au aJ (ae (aa 9) (ae (ao b7 (cr (lOf (aa 4))) (fC (.int 1))) am))) (fIx (ae (dR (ae (aa 8) (ae (aa 10) (ae (aa 11) am)))) (ae (dR (ae (aa 10) (ae (aa 8) (ae (aa 11) am)))) am)) (ao fX (aa 11) (fC (.int 2))))) (XP lit hd n e d (some (.int i)) (some (.int w))) (h0.set (5 + d) (SC u z m))
   = .nx (XP lit hd n e d (some (.int i)) (some (.int w))) (g.set 1 (.lst (f.map bq))):=by
  have Z:=P.keep (k:=d) (SC u z m);rw[p,ZQ,ZQ,List.map_take,List.map_drop];exact fQ (GP rfl Z.ti (aD (ai rfl (ai (ar (bZ (bG rfl (aK Z.ti))) rfl rfl) rfl)) B) (jo (ai (cS (ai rfl (ai rfl (ai rfl rfl))) (by exact YC rfl)) (ai (cS (ai rfl (ai rfl (ai rfl rfl))) (by exact YC rfl)) rfl)) (ar rfl rfl (i7 (by decide))) pt) h.ti ⟨M,Int.le_of_lt_add_one N,by rw[ZA];exact Z8 R (by decide)⟩)
 have r:(g.set 1 (.lst (f.map bq)))[4]? = some (.lst (((List.range n).map (b9 T)).map .int)):=(ZO (by decide)).trans h.to;have S:((List.range n).map (b9 T)).length=n:=by rw[ZA,ZN]
 have s3:nM (aa 7) (aa 8) (ao b7 (fAt (aa 7) (aa 8)) (aa 11)) (XP lit hd n e d (some (.int i)) (some (.int w))) (g.set 1 (.lst (f.map bq)))
   = .nx (XP lit hd n e d (some (.int i)) (some (.int w))) ((g.set 1 (.lst (f.map bq))).set 4 (.lst ((((List.range n).map (b9 T)).set d (b9 T d + w)).map .int))):=by
  rw[VN];exact pF (ar (bz rfl rfl (aK r) (dw (by rw[ZP,ZP,XY h1];rfl))) rfl rfl) rfl rfl r (kc (by rw[ZA,S];exact h1))
 have Y:=eZ (.lst ((((List.range n).map (b9 T)).set d (b9 T d + w)).map .int)) r;have s4:nM (aa 7) (aa 10) (ao b7 (fAt (aa 7) (aa 10)) (aa 11)) (XP lit hd n e d (some (.int i)) (some (.int w))) ((g.set 1 (.lst (f.map bq))).set 4 (.lst ((((List.range n).map (b9 T)).set d (b9 T d + w)).map .int)))
   = .nx (XP lit hd n e d (some (.int i)) (some (.int w))) ((g.set 1 (.lst (f.map bq))).set 4 (.lst (((List.range n).map (b9 f)).map .int))):=by
  refine(pF (ar (bz rfl rfl (aK Y) (dw (by rw[ZP,ZO (YA hi),ZP,XY (Z8 hi h1)];rfl))) rfl rfl) rfl rfl Y (kc (by rw[ZA,YD,S];exact Z8 hi h1))).trans ?_;rw[WL,p,AK h1 hi s,VN,VN,VN]
 have ne:∀{k:Nat},1≠k->4≠k->((g.set 1 (.lst (f.map bq))).set 4 (.lst (((List.range n).map (b9 f)).map .int)))[k]? = g[k]? := λa b=>(ZO b).trans (ZO a);exact⟨_,_,(dN (aE (ar (aD (ai rfl (ai rfl rfl)) d1) rfl rfl))).trans ((bL s1).trans ((bL s2).trans ((bL s3).trans s4))),.mk ⟨(ZO (by decide)).trans (eZ _ h.ti),(ne (by decide) (by decide)).trans h.ba,(ne (by decide) (by decide)).trans h.st,eZ _ r,by rw[YD,YD];exact h.len,P.lb,P.ls,P.os,P.bb⟩ O2 ((ne (ne5 d (by decide)).symm (ne5 d (by decide)).symm).trans U)⟩
theorem uq {d f:Nat}{lit:D}(h1:d < n)(p:n<=30)(o:1<=f/\f<=5){bs:List (Int × Int)}{ss:List (Option Int)}{hd a b:Option D}{c t:Int}{m:Bool}(P:PH n (d + 1) T bs ss h)(O:TOk n d 0 T)(j:h[5 + d]? = some (SC c t m)) :
  ∃σ' h',cJ none ((List.range d).map λk:Nat=>D.int k) (gN 10) g8 ((List.range d).map λk:Nat=>D.int k) (XP lit hd n f d a b) h=.nx σ' h'/\PI lit hd n f d bs ss m d σ' h':=by
 have z:=j9 (P:=PI lit hd n f d bs ss m)
  (g:=none) (k:=0) (all:=(List.range d).map λk:Nat=>D.int k) (λ_ _ _ _=>trivial) (xs:=(List.range d).map λk:Nat=>D.int k) (tg:=gN 10) (b:=g8)
  (σ:=XP lit hd n f d a b) (h:=h) (by
   intro i x σ v s z;obtain⟨q,rfl⟩:=iA s;rw[YH]at z ⊢;obtain⟨P,O,j⟩:=z;refine⟨_,rfl,?_⟩;obtain⟨r,w,u,l,-,-⟩:=c9 (m:=f) j (Int.natCast_pos.mpr o.1) (W6 (Int.ofNat_le.mpr o.2) (by decide))
   by_cases e:r=0
   ·rw[e]at l
    exact ye h1 p q P O j l
   ·exact⟨_,_,cW (aE (ar (aD (ai rfl (ai rfl rfl)) l) rfl (ul e))),.mk (P.keep _) O.skip (eZ _ j)⟩) (.mk P O j)
 rwa[YH,ZA,ZN]at z
abbrev XQ (lit:D) (hd:Option D) (n thin:Nat) (a b c d:Option D):Sd:=[some lit,hd,some (.int n),some (.int thin),some (.ref 1),some (.ref 2),some (.ref 3),some (.ref 4),a,b,c,d]
theorem Ey {u:Option Int}(h:u∈[none,none,none,some 0,some 1]):u=none\/u=some 0\/u=some 1:=by
 simp at h;exact h
inductive PO (ns:List Int) (hd:Option D) (n thin:Nat):Nat->Sd->Hd->Prop
 | mk {i:Nat} {h:Hd} {a b c d:Option D} {T:List Tie} {bs:List (Int × Int)} {ss:List (Option Int)} (P:PH n i T bs ss h) (O:TOk n i 0 T):PO ns hd n thin i (XQ (.lit (ns.map .int)) hd n thin a b c d) h
theorem wo {i f:Nat}{ns:List Int}{hd b c d:Option D}(hi:i < n)(v:n<=30)(ht:1<=f/\f<=5){bs:List (Int × Int)}{ss:List (Option Int)}{h0:Hd}(P:PH n i T bs ss h0)(O:TOk n i 0 T) :
  ∃σ' h',fH (XQ (.lit (ns.map .int)) hd n f (some (.int i)) b c d) h0=.nx σ' h'/\PO ns hd n f (i + 1) σ' h':=by
 obtain⟨U,m,M⟩:=pG ns (1 + i) h0;rw[P.len]at M;obtain⟨l,p⟩ : ∃l,l=h0++[SC U 0 m]:=⟨_,rfl⟩;have Q:l[5 + i]? = some (SC U 0 m):=by rw[p,<-P.len];exact ZF
 have Z:l.length=5 + i + 1:=by rw[p,ZB,P.len];rfl
 have old:∀{j:Nat} {r:aO},h0[j]? = some r->l[j]? = some r:=λe=>by rw[p];exact aC _ e
 have s1:aB (gN 9) (au cK (ae (aa 0) (ae (ao b7 (fC (.int 1)) (aa 8)) am))) (XQ (.lit (ns.map .int)) hd n f (some (.int i)) b c d) h0
   = .nx (XQ (.lit (ns.map .int)) hd n f (some (.int i)) (some (.ref (5 + i))) c d) l:=by
  rw[p];exact aH (aD (ai rfl (ai rfl rfl)) M)
 obtain⟨v1,F,w,d1,E,H⟩:=c9 (m:=5) Q (by decide) (by decide);obtain⟨u,hu,z⟩:=sr bC [none,none,none,some 0,some 1] E H;have z:atI [D.non,.non,.non,.int 0,.int 1] v1=some (bC u):=z;have J:(ss.map bC).length < SZ:=by rw[ZA,P.ls];exact Z8 hi (ZR v (by decide))
 have C:(bs.map yd).length < SZ:=by rw[ZA,P.lb];exact Z8 hi (ZR v (by decide))
 have K:(l.set (5 + i) (SC F w m))[3]? = some (.lst (ss.map bC)):=(ZO (ne5 i (by decide))).trans (old P.st);obtain⟨o,h⟩ : ∃o,o=(l.set (5 + i) (SC F w m)).set 3 (.lst (ss.map bC++[bC u])):=⟨_,rfl⟩;have Y:eP (fO (aa 6) (fIx (ae (fC .non) (ae (fC .non) (ae (fC .non) (ae (fC (.int 0)) (ae (fC (.int 1)) am))))) (au aJ (ae (aa 9) (ae (fC (.int 5)) am))))) (XQ (.lit (ns.map .int)) hd n f (some (.int i)) (some (.ref (5 + i))) c d) l
   = .nx (XQ (.lit (ns.map .int)) hd n f (some (.int i)) (some (.ref (5 + i))) c d) o:=by
  rw[h];exact fQ (i6 rfl (old P.st) (jo (ai rfl (ai rfl (ai rfl (ai rfl (ai rfl rfl))))) (aD (ai rfl (ai rfl rfl)) d1) z) K J)
 have x:o[5 + i]? = some (SC F w m):=by rw[h];exact(ZO (ne5 i (by decide)).symm).trans (eZ _ Q)
 obtain⟨R,c2,t2,d2,a0,X⟩:=c9 (m:=5) x (by decide) (by decide);obtain⟨L,A,I,S,G,B⟩:=c9 (m:=200) (eZ (SC c2 t2 m) x) (by decide) (by decide);rw[WL]at S;have q:∀{j:Nat} {r:aO},j < 5->3≠j->l[j]? = some r->o[j]? = some r:=λa b e=>by rw[h];exact(ZO b).trans ((ZO (ne5 i a)).trans e)
 have N:(o.set (5 + i) (SC A I m))[2]? = some (.lst (bs.map yd)):=(ZO (ne5 i (by decide))).trans (q (by decide) (by decide) (old P.ba));obtain⟨t,k⟩ : ∃t,t=(o.set (5 + i) (SC A I m)).set 2 (.lst (bs.map yd++[yd (R,L)])):=⟨_,rfl⟩;have s3:eP (fO (aa 5) (dR (ae (au aJ (ae (aa 9) (ae (fC (.int 5)) am))) (ae (au aJ (ae (aa 9) (ae (fC (.int 200)) am))) am)))) (XQ (.lit (ns.map .int)) hd n f (some (.int i)) (some (.ref (5 + i))) c d) o
   = .nx (XQ (.lit (ns.map .int)) hd n f (some (.int i)) (some (.ref (5 + i))) c d) t:=by
  rw[k];exact fQ (i6 rfl (q (by decide) (by decide) (old P.ba)) (cS (ai (aD (ai rfl (ai rfl rfl)) d2) (ai (aD (ai rfl (ai rfl rfl)) S) rfl)) (by exact YC rfl)) N C)
 have s:∀{j:Nat} {r:aO},j < 5->2≠j->o[j]? = some r->t[j]? = some r:=λa b e=>by rw[k];exact(ZO b).trans ((ZO (ne5 i a)).trans e)
 have P4:PH n (i + 1) T (bs++[(R,L)]) (ss++[u]) t:=by
  refine⟨s (by decide) (by decide) (q (by decide) (by decide) (old P.ti)),?_,?_,s (by decide) (by decide) (q (by decide) (by decide) (old P.to)),?_,by rw[ZB,P.lb];rfl,by rw[ZB,P.ls];rfl,λy g => ?_,λy g => ?_⟩
  ·rw[k,ZQ];exact eZ _ N
  ·refine s (by decide) (by decide) ?_
   rw[h,ZQ];exact eZ _ K
  ·rw[k,YD,YD,h,YD,YD,Z];rfl
  ·rcases Z0.mp g with g|g
   ·exact P.os y g
   ·rw[Z5.mp g]
    exact Ey hu
  ·rcases Z0.mp g with g|g
   ·exact P.bb y g
   ·rw[Z5.mp g]
    exact⟨G,B⟩
 have g4:t[5 + i]? = some (SC A I m):=by rw[k];exact(ZO (ne5 i (by decide)).symm).trans (eZ _ x)
 obtain⟨_,W,q1,⟨q2,V,-⟩⟩:=uq (lit:=.lit (ns.map .int)) (hd:=hd) (a:=c) (b:=d) hi v ht P4 O g4;exact⟨_,W,(bL s1).trans ((bL Y).trans ((bL s3).trans (mE (jL rfl (ZL (XB hi) (ZL v (by decide)))) q1))),.mk q2 (V.step hi v)⟩
theorem ur {a:Nat}{ns:List Int}{hd:Option D}(e:n<=30)(c:1<=a/\a<=5)(P:PH n 0 [] [] [] h) :
  ∃σ' h',cJ none ((List.range n).map λk:Nat=>D.int k) (gN 8) fH ((List.range n).map λk:Nat=>D.int k)
   (XQ (.lit (ns.map .int)) hd n a none none none none) h=.nx σ' h'/\PO ns hd n a n σ' h':=by
 have z:=j9 (P:=PO ns hd n a)
  (g:=none) (k:=0) (all:=(List.range n).map λk:Nat=>D.int k) (λ_ _ _ _=>trivial) (xs:=(List.range n).map λk:Nat=>D.int k) (tg:=gN 8) (b:=fH)
  (σ:=XQ (.lit (ns.map .int)) hd n a none none none none) (h:=h) (by
   intro i x σ j f z;obtain⟨d,rfl⟩:=iA f;rw[YH]at z ⊢;obtain⟨P,O⟩:=z;exact⟨_,rfl,wo d e c P O⟩) (.mk P ⟨by simp,by simp,by simp,by simp,.nil,by simp⟩)
 rwa[YH,ZA,ZN]at z
theorem JQ {v a:Int}(h0:0<=v)(h1:v < a)(b:a<=6):∃n:Nat,(n:Int)=1 + v/\1<=n/\n<=6:=⟨(1 + v).toNat,by omega⟩
theorem Fe (n:Nat):(List.replicate n [D.int 0]).flatten=((List.range n).map (b9 [])).map D.int:=by
 have b:(List.replicate n [D.int 0]).flatten=List.replicate n (D.int 0):=by
  induction n with
  | zero=>rfl
  | succ n c=>rw[YJ,YJ,XO,c];rfl
 rw[b];apply XS;intro i
 by_cases a:i < n<;>simp[a,b9]
theorem wq (i:Nat):∀l:List Tie,(∀t∈l,1<=t.w/\t.w<=400)->0<=b9 l i
 | [],_=>Int.le_refl _
 | t :: l,a=>by
  have b:=wq i l λs c=>a s (ZV _ c);refine Int.add_nonneg ?_ b;unfold wOf;split
  ·exact W6 (by decide) (a t ZU).1
  ·exact Int.le_refl _
theorem wr (i:Nat):∀l:List Tie,(∀t∈l,1<=t.w/\t.w<=400)->b9 l i<=400 * l.length
 | [],_=>Int.le_refl _
 | t :: l,a=>by
  have f:=wr i l λs c=>a s (ZV _ c);have b:=a t ZU;have d:wOf i t<=400:=by
   unfold wOf;split
   ·exact b.2
   ·decide
  have e:b9 (t :: l) i=wOf i t + b9 l i:=rfl;rw[e,ZX];omega
theorem zB {P:Int->Prop}:∀a:List D,(∀d∈a,∃v:Int,d=.int v/\P v)->∃bs:List Int,a=bs.map D.int/\∀b∈bs,P b
 | [],_=>⟨[],rfl,by simp⟩
 | d :: a,h=>by
  obtain⟨v,i,pv⟩:=h d ZU;obtain⟨bs,f,g⟩:=zB a λx c=>h x (ZV _ c);exact⟨v :: bs,by rw[i,f];rfl,λx c=>by
   rcases wU.mp c with e|e
   ·rw[e];exact pv
   ·exact g x e⟩
structure G0 (ns:List Int) (n:Nat) (T:List Tie) (bs:List Int) (ss:List (Option Int)) (h:Hd):Prop where
 run:gz [.lit (ns.map .int)] []=.ok (.tup [.int n,.ref 1,.ref (5 + n),.ref 3,.ref 4]) h
 n1:1<=n
 n6:n<=6
 ok:TOk n n 0 T
 ti:h[1]? = some (.lst (T.map bq))
 ba:h[5 + n]? = some (.lst (bs.map .int))
 st:h[3]? = some (.lst (ss.map bC))
 to:h[4]? = some (.lst (((List.range n).map (b9 T)).map .int))
 len:h.length=6 + n
 lb:bs.length=n
 ls:ss.length=n
 os:∀x∈ss,x=none\/x=some 0\/x=some 1
 bb:∀b∈bs,b.natAbs < 10 ^ 60
theorem AL (ns:List Int):∃n T bs ss h,G0 ns n T bs ss h:=by
 obtain⟨I,m,Q⟩:=pG ns 0 [];have Q:cK [.lit (ns.map .int),.int 0] []=.ok (.ref 0) [.lst [.int I,.int 0,.bl m]]:=Q;obtain⟨v1,Z,W,d1,-,-⟩:=c9 (h:=[SC I 0 m]) (n:=0) (m:=2) rfl (by decide) (by decide);obtain⟨v2,c2,t2,d2,S,K⟩:=c9 (h:=[SC Z W m]) (n:=0) (m:=3) rfl (by decide) (by decide);obtain⟨H,B,J⟩:=sr D.int [2,4,6] S K;have J:atI [D.int 2,.int 4,.int 6] v2=some (.int H):=J;have w:0 < H/\H<=6:=by simp at B;rcases B with rfl|rfl|rfl<;>decide
 obtain⟨v3,X,t3,d3,O,L⟩:=c9 (h:=[SC c2 t2 m]) (n:=0) (m:=H) rfl w.1 (W6 w.2 (by decide));obtain⟨v4,s,q,d4,a1,a3⟩:=c9 (h:=[SC X t3 m]) (n:=0) (m:=3) rfl (by decide) (by decide);obtain⟨th,A,y⟩:=sr D.int [1,2,5] a1 a3;have y:atI [D.int 1,.int 2,.int 5] v4=some (.int th):=y;obtain⟨f,u,U⟩ : ∃f:Nat,(f:Int)=th/\1<=f/\f<=5:=by
  simp at A;rcases A with rfl|rfl|rfl
  ·exact⟨1,rfl,by decide⟩
  ·exact⟨2,rfl,by decide⟩
  ·exact⟨5,rfl,by decide⟩
 obtain⟨n,hn,n1,n6⟩:=JQ O L w.2;have j:n<=30:=ZL n6 (by decide);obtain⟨E,o⟩ : ∃E:Hd,E=[.lst [.int s,.int q,.bl m],.lst [],.lst [],.lst [],.lst (((List.range n).map (b9 [])).map .int)]:=⟨_,rfl⟩;have P0:PH n 0 [] [] [] E:=⟨by rw[o];rfl,by rw[o];rfl,by rw[o];rfl,by rw[o];rfl,by rw[o];rfl,rfl,rfl,by simp,by simp⟩;obtain⟨_,h9,k9,@⟨_,a,b,c,d,T,z,ss,r,F⟩⟩:=ur (ns:=ns) (hd:=some (.ref 0)) j U P0;have tn:∀i,0<=b9 T i:=λi=>wq i T F.wt;obtain⟨ds,p,R,t,M,a4,a5,C⟩:=i4 (g:=none) (all:=(List.range n).map λk:Nat=>D.int k) (tg:=gN 0) (xs:=(List.range n).map λk:Nat=>D.int k) (k:=0)
  (e:=au eY (ae (fAt (fAt (aa 2) (aa 0)) (fC (.int 0))) (ae (fAt (fAt (aa 2) (aa 0)) (fC (.int 1))) (ae (fAt (aa 1) (aa 0)) am)))) (σ:=[none,some (.ref 4),some (.ref 2)]) (h:=h9)
  (P:=λi σ h=>(∃a,σ = [a,some (.ref 4),some (.ref 2)])/\h=h9) (V:=λi d=>∃v:Int,d=.int v/\v.natAbs < 10 ^ 60) (λ_ _ _ _=>trivial) (by
   rintro i x σ h0 hx ⟨⟨a,rfl⟩,rfl⟩;obtain⟨G,rfl⟩:=iA hx;have hb:i < z.length:=by rw[r.lb];exact G
   have e1:atI (z.map yd) (i:Int)=some (yd z[i]):=oa hb;have e2:atI (((List.range n).map (b9 T)).map D.int) (i:Int)=some (.int (b9 T i)):=dw (by rw[ZP,ZP,XY G];rfl);obtain⟨v,hv,vb⟩:=GZ z[i].1 z[i].2 (b9 T i) (tn i) h0;have bb:=r.bb z[i] (WG hb);have tl:=wr i T F.wt;have ol:=F.len;refine⟨_,rfl,.int v,h0,?_,⟨v,rfl,vb bb.1 bb.2 (by omega)⟩,⟨_,rfl⟩,rfl⟩;exact aD (ai (bz (bz rfl rfl (aK r.ba) e1) rfl rfl rfl) (ai (bz (bz rfl rfl (aK r.ba) e1) rfl rfl rfl) (ai (bz rfl rfl (aK r.to) e2) rfl))) hv) ⟨⟨_,rfl⟩,rfl⟩
 subst C;simp only[ZA,ZN]at t;obtain⟨bs,a2,N⟩:=zB (P:=λv=>v.natAbs < 10 ^ 60) ds λd hd=>by obtain⟨i,G⟩:=List.getElem?_of_mem hd;exact M i d G
 subst a2;simp only[ZA]at t;have L9:=r.len;refine⟨n,T,bs,ss,p++[.lst (bs.map .int)],?_,n1,n6,F,?_,?_,?_,?_,by rw[ZB,L9];exact Nat.add_right_comm 5 n 1,t,r.ls,r.os,N⟩
 ·have s1:aB (gN 1) (au cK (ae (aa 0) (ae (fC (.int 0)) am))) [some (.lit (ns.map .int)),none,none,none,none,none,none,none,none,none,none,none] []=.nx [some (.lit (ns.map .int)),some (.ref 0),none,none,none,none,none,none,none,none,none,none] [.lst [.int I,.int 0,.bl m]]:=aH (aD (ai rfl (ai rfl rfl)) Q)
  have s2:eP (au aJ (ae (aa 1) (ae (fC (.int 2)) am))) [some (.lit (ns.map .int)),some (.ref 0),none,none,none,none,none,none,none,none,none,none] [.lst [.int I,.int 0,.bl m]]=.nx [some (.lit (ns.map .int)),some (.ref 0),none,none,none,none,none,none,none,none,none,none] [.lst [.int Z,.int W,.bl m]]:=fQ (aD (ai rfl (ai rfl rfl)) d1);have s3:aB (gN 2) (ao b7 (fC (.int 1)) (au aJ (ae (aa 1) (ae (fIx (ae (fC (.int 2)) (ae (fC (.int 4)) (ae (fC (.int 6)) am))) (au aJ (ae (aa 1) (ae (fC (.int 3)) am)))) am)))) [some (.lit (ns.map .int)),some (.ref 0),none,none,none,none,none,none,none,none,none,none] [.lst [.int Z,.int W,.bl m]]=.nx [some (.lit (ns.map .int)),some (.ref 0),some (.int n),none,none,none,none,none,none,none,none,none] [.lst [.int X,.int t3,.bl m]]:=by
   rw[hn];exact aH (ar rfl (aD (ai rfl (ai (jo (ai rfl (ai rfl (ai rfl rfl))) (aD (ai rfl (ai rfl rfl)) d2) J) rfl)) d3) rfl)
  have s4:aB (gN 3) (fIx (ae (fC (.int 1)) (ae (fC (.int 2)) (ae (fC (.int 5)) am))) (au aJ (ae (aa 1) (ae (fC (.int 3)) am)))) [some (.lit (ns.map .int)),some (.ref 0),some (.int n),none,none,none,none,none,none,none,none,none] [.lst [.int X,.int t3,.bl m]]=.nx [some (.lit (ns.map .int)),some (.ref 0),some (.int n),some (.int f),none,none,none,none,none,none,none,none] [.lst [.int s,.int q,.bl m]]:=by
   rw[u];exact aH (jo (ai rfl (ai rfl (ai rfl rfl))) (aD (ai rfl (ai rfl rfl)) d4) y)
  have s5:aB (gN 4) (aL am) [some (.lit (ns.map .int)),some (.ref 0),some (.int n),some (.int f),none,none,none,none,none,none,none,none] [.lst [.int s,.int q,.bl m]]=.nx [some (.lit (ns.map .int)),some (.ref 0),some (.int n),some (.int f),some (.ref 1),none,none,none,none,none,none,none] [.lst [.int s,.int q,.bl m],.lst []]:=rfl;have s6:aB (gN 5) (aL am) [some (.lit (ns.map .int)),some (.ref 0),some (.int n),some (.int f),some (.ref 1),none,none,none,none,none,none,none] [.lst [.int s,.int q,.bl m],.lst []]=.nx [some (.lit (ns.map .int)),some (.ref 0),some (.int n),some (.int f),some (.ref 1),some (.ref 2),none,none,none,none,none,none] [.lst [.int s,.int q,.bl m],.lst [],.lst []]:=rfl;have s7:aB (gN 6) (aL am) [some (.lit (ns.map .int)),some (.ref 0),some (.int n),some (.int f),some (.ref 1),some (.ref 2),none,none,none,none,none,none] [.lst [.int s,.int q,.bl m],.lst [],.lst []]=.nx [some (.lit (ns.map .int)),some (.ref 0),some (.int n),some (.int f),some (.ref 1),some (.ref 2),some (.ref 3),none,none,none,none,none] [.lst [.int s,.int q,.bl m],.lst [],.lst [],.lst []]:=rfl;have s8:aB (gN 7) (aL (xQ (ae (fC (.int 0)) am) (aa 2))) [some (.lit (ns.map .int)),some (.ref 0),some (.int n),some (.int f),some (.ref 1),some (.ref 2),some (.ref 3),none,none,none,none,none] [.lst [.int s,.int q,.bl m],.lst [],.lst [],.lst []]=.nx [some (.lit (ns.map .int)),some (.ref 0),some (.int n),some (.int f),some (.ref 1),some (.ref 2),some (.ref 3),some (.ref 4),none,none,none,none] E:=by
   rw[o,<-Fe n];have rp:xQ (ae (fC (.int 0)) am) (aa 2) (XQ (.lit (ns.map .int)) (some (.ref 0)) n f none none none none |>.set 7 none) [SC s q m,.lst [],.lst [],.lst []]=.ok (List.replicate n [D.int 0]).flatten [SC s q m,.lst [],.lst [],.lst []]:=GQ (l:=[.int 0]) rfl rfl ⟨WM n,W6 (Int.ofNat_le.mpr j) (by decide),by rw[XW];exact ZL (Nat.le_of_eq (Nat.one_mul n)) (ZL j (by decide))⟩;exact aH (bo rp (by rw[Fe,ZA,ZA,ZN];exact ZL j (by decide)))
  have s9:nN (gp (aa 2)) (gN 8) fH [some (.lit (ns.map .int)),some (.ref 0),some (.int n),some (.int f),some (.ref 1),some (.ref 2),some (.ref 3),some (.ref 4),none,none,none,none] E=.nx [some (.lit (ns.map .int)),some (.ref 0),some (.int n),some (.int f),some (.ref 1),some (.ref 2),some (.ref 3),some (.ref 4),a,b,c,d] p:=mE (jL rfl (ZL j (by decide))) k9;have Y:aB (gN 5) (aL (cB 1 [7,5] (gp (aa 2)) (gN 0) [] (au eY (ae (fAt (fAt (aa 2) (aa 0)) (fC (.int 0))) (ae (fAt (fAt (aa 2) (aa 0)) (fC (.int 1))) (ae (fAt (aa 1) (aa 0)) am)))))) [some (.lit (ns.map .int)),some (.ref 0),some (.int n),some (.int f),some (.ref 1),some (.ref 2),some (.ref 3),some (.ref 4),a,b,c,d] p=.nx [some (.lit (ns.map .int)),some (.ref 0),some (.int n),some (.int f),some (.ref 1),some (.ref (5 + n)),some (.ref 3),some (.ref 4),a,b,c,d] (p++[.lst (bs.map .int)]):=by
   rw[<-L9];exact aH (bo (d8 (jL rfl (ZL j (by decide))) R) (by rw[ZA,t];exact ZL j (by decide)))
  have a0:bx (dR (ae (aa 2) (ae (aa 4) (ae (aa 5) (ae (aa 6) (ae (aa 7) am)))))) [some (.lit (ns.map .int)),some (.ref 0),some (.int n),some (.int f),some (.ref 1),some (.ref (5 + n)),some (.ref 3),some (.ref 4),a,b,c,d] (p++[.lst (bs.map .int)])=.rt (.tup [.int n,.ref 1,.ref (5 + n),.ref 3,.ref 4]) (p++[.lst (bs.map .int)]):=bc (cS (ai rfl (ai rfl (ai rfl (ai rfl (ai rfl rfl))))) (by exact YC rfl));have st:([D.lit (ns.map .int)].map some++List.replicate (12 - [D.lit (ns.map .int)].length) none:Sd)=[some (.lit (ns.map .int)),none,none,none,none,none,none,none,none,none,none,none]:=rfl;unfold gz bQ runB;rw[yD (show [D.lit (ns.map .int)].length=1 from rfl),st,bL s1,bL s2,bL s3,bL s4,bL s5,bL s6,bL s7,bL s8,bL s9,bL Y,a0];simp[letGo,pure?,gr]
 ·exact aC _ r.ti
 ·rw[<-L9];exact ZF
 ·exact aC _ r.st
 ·exact aC _ r.to
theorem iB {α : Type}{f : α->D}:∀{l:List α},(∀x∈l,pure? (f x)=true)->gr (l.map f)=true
 | [],_=>rfl
 | x :: l,h=>by
  simp only[ZZ,gr,Z4];exact⟨h x (by simp),iB λy a=>h y (by simp[a])⟩
theorem pH (w:Web):pure? w.enc=true:=by
 have d:∀r:List (Nat × Int),pure? (lx r)=true:=λr=>by
  unfold lx;simp only[pure?];exact iB λp _=>rfl
 have c:gr (w.ties.map lx)=true:=iB λr _=>d r;have a:gr (w.bars.map D.int)=true:=iB λr _=>rfl;have b:gr (w.stays.map bC)=true:=iB λr _=>by cases r<;>rfl
 unfold Web.enc;simp only[pure?,gr,c,a,b];rfl
def lD (p:Nat × Int):List Int:=[(p.1:Int),p.2]
def mG (x:Nat × Int):List (Nat × Int)->List (Nat × Int)
 | []=>[x]
 | y :: r=>if lexLt (lD x) (lD y)=true then x :: y :: r else y :: mG x r
def cF:List (Nat × Int)->List (Nat × Int)
 | []=>[]
 | x :: r=>mG x (cF r)
theorem wu (x:Nat × Int):∀r,(mG x r).map lD=tS (lD x) (r.map lD)
 | []=>rfl
 | y :: r=>by
  simp only[mG,tS,ZZ];split
  ·rfl
  ·simp[wu x r]
theorem su:∀r,(cF r).map lD=bO (r.map lD)
 | []=>rfl
 | x :: r=>by simp only[cF,bO,ZZ,wu,su r]
theorem pI {x p:Nat × Int}:∀{r},p∈mG x r ↔ p=x\/p∈r
 | []=>by simp[mG]
 | y :: r=>by
  simp only[mG];split
  ·simp
  ·simp only[wU,pI]
   constructor
   ·rintro (h|h|h)
    ·exact .inr (.inl h)
    ·exact .inl h
    ·exact .inr (.inr h)
   ·rintro (h|h|h)
    ·exact .inr (.inl h)
    ·exact .inl h
    ·exact .inr (.inr h)
theorem eG {p:Nat × Int}:∀{r},p∈cF r ↔ p∈r
 | []=>by simp[cF]
 | x :: r=>by simp only[cF,pI,eG,wU]
theorem wv (f:Nat × Int->Int)(x:Nat × Int):∀r,((mG x r).map f).sum=f x + (r.map f).sum
 | []=>by simp[mG]
 | y :: r=>by
  simp only[mG];split
  ·simp
  ·simp[wv f x r];omega
theorem sy (f:Nat × Int->Int):∀r,((cF r).map f).sum=(r.map f).sum
 | []=>rfl
 | x :: r=>by simp[cF,wv,sy f r]
def nbs (T:List Tie) (i:Nat):List (Nat × Int):=T.filterMap λt=>(far i t).map λj=>(j,t.w)
def nP (p:Nat × Int):Int × D:=((p.1:Int),.int p.2)
theorem CU (T:List Tie)(t:Tie)(i:Nat):nbs (T++[t]) i=nbs T i++(match far i t with|some j=>[(j,t.w)] | none=>[]):=by
 unfold nbs;rw[List.filterMap_append];congr 1;cases e:far i t<;>simp[e]
theorem AM {l:List (Nat × Int)}{k:Nat}(h:∀p∈l,p.1≠k):pc (l.map nP) k=none:=by
 unfold pc;rw[List.find?_eq_none.mpr]
 ·rfl
 ·intro x b
  obtain⟨p,c,rfl⟩:=Z2.mp b;have a:=h p c;have : ¬((p.1:Int)=(k:Int)):=λz=>a (by omega);rw[YN];exact this
theorem ww {l:List (Nat × Int)}{k:Nat}{v:Int}(h:∀p∈l,p.1≠k):xN (l.map nP) k (.int v)=(l++[(k,v)]).map nP:=by
 unfold xN;rw[wR]
 ·simp[nP]
 ·simp only[List.any_eq_true,Z2,YN]
  rintro⟨x,⟨p,b,rfl⟩,e⟩;have a:=h p b;have e:(p.1:Int)=(k:Int):=e;exact a (by omega)
theorem pJ {i j:Nat}{t:Tie}(h:far i t=some j):(t.a=i/\t.b=j)\/(t.b=i/\t.a=j):=by
 unfold far at h
 by_cases a:t.a=i
 ·rw[yD a]at h;exact .inl ⟨a,ZS h⟩
 ·rw[wR a]at h
  by_cases b:t.b=i
  ·rw[yD b]at h;exact .inr ⟨b,ZS h⟩
  ·rw[wR b]at h;cases h
theorem yf {t:Tie}{i j:Nat}(h:far i t=some j)(un:∀s∈T,fR s t):∀p∈nbs T i,p.1≠j:=λp l e=>by
 obtain⟨s,g,q⟩:=Y9.mp l;obtain⟨k,f,rfl⟩:=YS.mp q;have u:=un s g;rw[show k=j from e]at f;rcases pJ h with ⟨c,b⟩|⟨c,b⟩<;>rcases pJ f with ⟨a,d⟩|⟨a,d⟩
 ·exact u.1 ⟨a.trans c.symm,d.trans b.symm⟩
 ·exact u.2 ⟨d.trans b.symm,a.trans c.symm⟩
 ·exact u.2 ⟨a.trans c.symm,d.trans b.symm⟩
 ·exact u.1 ⟨d.trans b.symm,a.trans c.symm⟩
theorem AN {t:Tie}(h1:t.a≠t.b)(f:t.a < n)(g:t.b < n)(d:1<=t.w/\t.w<=400)(h:Hd):eo [.int n,bq t] h=.ok (.bl true) h:=by
 have j:(t.a:Int)<=n - 1:=Int.le_sub_one_of_lt (Int.ofNat_lt.mpr f);have k:(t.b:Int)<=n - 1:=Int.le_sub_one_of_lt (Int.ofNat_lt.mpr g);have e : ¬(t.a:Int)=t.b:=λz=>h1 (Int.ofNat.inj z);have c:∀{i a b:Int},a<=i->i<=b->aQ [.int i,.int a,.int b] h=.ok (.bl true) h:=λx y=>by rw[b8,x8 x,x8 y];rfl
 exact Eq.trans (bJ rfl rfl (sx (cW (bA (bu (b:=true) (aE rfl)) (aE (ar (bZ (bG rfl rfl)) rfl rfl)))) (sx (aH (bz rfl rfl rfl rfl)) (sx (aH (bz rfl rfl rfl rfl)) (sx (cW (bA (bu (aE (aD (ai rfl (ai rfl (ai (ar rfl rfl rfl) rfl))) (c (WM _) j)))) (bu (aE (aD (ai rfl (ai rfl (ai (ar rfl rfl rfl) rfl))) (c (WM _) k)))))) (bc (iz (i5 (aE (ar rfl rfl (by rw[mF,y0 e];rfl))) (aE (aD (ai (bz rfl rfl rfl rfl) (ai rfl (ai rfl rfl))) (c d.1 d.2))))))))))) aU
structure NH (n A:Nat) (h0:Hd) (T:List Tie) (h:Hd):Prop where
 pre:∃g,h=h0++g/\g.length=n + 1
 dc:∀j,j < n->h[A + j]? = some (.dct ((nbs T j).map nP))
 rf:h[A + n]? = some (.lst ((List.range n).map λi=>.ref (A + i)))
theorem NH.put {A:Nat}{h0:Hd}(b:A=h0.length)(N:NH n A h0 T h){j:Nat}(a:j < n)(c:aO):(∃g,h.set (A + j) c=h0++g/\g.length=n + 1)/\(h.set (A + j) c)[A + j]? = some c/\(∀k,k≠j->(h.set (A + j) c)[A + k]? = h[A + k]?):=by
 obtain⟨g,e,l⟩:=N.pre;have lt:=(yE.mp (N.dc j a)).1;exact⟨⟨g.set j c,by rw[e,um b],by rw[YD];exact l⟩,Z1 lt,λk d=>ZO λz=>d (Nat.add_left_cancel z).symm⟩
theorem CV {i j:Nat}(a:n<=30)(O:TOk n n 0 T):((nbs (T.take i) j).map nP).length < SZ:=by
 rw[ZA];exact ZR (ZL (List.length_filterMap_le _ _) (ZL (List.length_take_le' _ _) (ZL O.len (Nat.add_le_add_right (Nat.mul_le_mul_left 30 a) 0)))) (by decide)
abbrev XN (n tk A:Nat) (a b c:Option D):Sd:=[some (.int n),some (.ref tk),some (.ref (A + n)),a,b,c]
theorem Ez {A tk i:Nat}(C:n<=30)(O:TOk n n 0 T){h0:Hd}(K:A=h.length)(N:NH n A h (T.take i) h0){t:Tie}(w:t∈T)(un:∀s∈T.take i,fR s t)(u:T.take (i + 1)=T.take i++[t])(b c:Option D) :
  ∃m,hV (XN n tk A (some (bq t)) b c) h0=.nx (XN n tk A (some (bq t)) (some (.int t.a)) (some (.int t.b))) m/\NH n A h (T.take (i + 1)) m:=by
 have f:=O.ne t w;have a:=O.lt t w;have F:far t.a t=some t.b:=yD rfl;have J:far t.b t=some t.a:=(wR f).trans (yD rfl);have B:=yf F un;have nb:=yf J un;have o:∀j:Nat,j < n->atI ((List.range n).map λi=>D.ref (A + i)) (j:Int)=some (.ref (A + j)):=λj v=>dw (by rw[ZP,XY v];rfl);have E:=o t.a a.1;have M:=o t.b a.2;have L:=N.dc t.a a.1;obtain⟨H,I,r⟩:=N.put K a.1 (.dct ((nbs (T.take i) t.a++[(t.b,t.w)]).map nP));obtain⟨k,p⟩ : ∃k,k=h0.set (A + t.a) (.dct ((nbs (T.take i) t.a++[(t.b,t.w)]).map nP)):=⟨_,rfl⟩;rw[<-p]at H I r;have q:k[A + n]? = some (.lst ((List.range n).map λi=>.ref (A + i))):=(r n (YA a.1)).trans N.rf;have G:k[A + t.b]? = some (.dct ((nbs (T.take i) t.b).map nP)):=(r t.b (YV f)).trans (N.dc t.b a.2);obtain⟨m,d⟩ : ∃m,m=k.set (A + t.b) (.dct ((nbs (T.take i) t.b++[(t.a,t.w)]).map nP)):=⟨_,rfl⟩;refine⟨m,sx (cW (bu (aE (aD (ai rfl (ai rfl rfl)) (AN f a.1 a.2 (O.wt t w) h0))))) (sx (aH (bz rfl rfl rfl rfl)) (sx (aH (bz rfl rfl rfl rfl)) (sx (cW (aE (ar rfl (bz rfl rfl (aK N.rf) E) (by rw[GR L,AM B];rfl)))) (sx (h':=k) (by
  rw[p,<-ww B];exact zy (bz rfl rfl rfl rfl) (bz rfl rfl (aK N.rf) E) rfl L (CV C O)) (by
  rw[d,<-ww nb];exact zy (bz rfl rfl rfl rfl) (bz rfl rfl (aK q) M) rfl G (CV C O)))))),?_,λj v => ?_,?_⟩
 ·obtain⟨g,e,l⟩:=H
  exact⟨_,by rw[d,e,um K],by rw[YD];exact l⟩
 ·rw[u,CU]
  by_cases x:t.b=j
  ·subst x
   rw[d,eZ _ G,J]
  ·rw[d,ZO (λz=>x (Nat.add_left_cancel z))]
   by_cases y:t.a=j
   ·subst y
    rw[I,F]
   ·have:far j t=none:=(wR y).trans (wR x)
    rw[r j (YV y),this,N.dc j v];simp
 ·rw[d];exact(ZO (λz=>ZM a.2 (Nat.add_left_cancel z))).trans q
theorem AO {A:Nat}(z:A=h.length):∃h1 g,cV none ((List.range n).map λk:Nat=>D.int k) (gN 0) [] o9 ((List.range n).map λk:Nat=>D.int k) [none] h=.ok ((List.range n).map λi=>.ref (A + i)) h1/\h1=h++g/\g.length=n/\∀j,j < n->h1[A + j]? = some (.dct []):=by
 obtain⟨u,h1,s,m,v,t,-,g,B,b,p⟩:=i4 (g:=none) (tg:=gN 0) (k:=0)
  (e:=o9) (σ:=[none]) (h:=h)
  (P:=λi σ o=>(∃a,σ = [a])/\∃g,o=h++g/\g.length=i/\∀j,j < i->o[A + j]? = some (.dct [])) (V:=λi d=>d=.ref (A + i)) (λ_ _ _ _=>trivial) (by
   rintro i x σ f y ⟨⟨a,rfl⟩,g,r,b,c⟩;obtain⟨C,rfl⟩:=iA y;rw[YH]at b c ⊢;have q:f.length=A + i:=by rw[r,ZB,b,z]
   refine⟨_,rfl,.ref f.length,f++[.dct []],rfl,by rw[q],⟨_,rfl⟩,g++[.dct []],by rw[r,ZT],by rw[ZB,b];rfl,λj l => ?_⟩
   by_cases hji:j < i
   ·exact aC _ (c j hji)
   ·rw[Nat.le_antisymm (XR l) (WY.mp hji),<-q];exact ZF) ⟨⟨_,rfl⟩,[],(YL _).symm,rfl,λj l=>absurd l (Nat.not_lt_zero _)⟩
 rw[ZA,ZN]at m;rw[YH,ZA,ZN]at b p;have c:u=(List.range n).map λi=>.ref (A + i):=xX m λi d w=>by have:=v i d w;rwa[YH]at this
 exact⟨h1,g,by rw[s,c],B,b,p⟩
inductive NI (n A tk:Nat) (h:Hd) (T:List Tie):Nat->Sd->Hd->Prop
 | mk {i:Nat} {h':Hd} {a b c:Option D} (N:NH n A h (T.take i) h'):NI n A tk h T i (XN n tk A a b c) h'
theorem qF (M:1<=n)(u:n<=30)(O:TOk n n 0 T){tk:Nat}(t:h[tk]? = some (.lst (T.map bq))) :
  ∃h',gg [.int n,.ref tk] h=.ok (.ref (h.length + n)) h'/\NH n h.length h T h':=by
 obtain⟨A,o⟩ : ∃A,A=h.length:=⟨_,rfl⟩;rw[<-o];obtain⟨w,g,C,r,y,J⟩:=AO o;obtain⟨l,d⟩ : ∃l,l=w++[.lst ((List.range n).map λi=>.ref (A + i))]:=⟨_,rfl⟩;have m:w.length=A + n:=by rw[r,ZB,y,o]
 have I:NH n A h [] l:=⟨⟨g++[.lst ((List.range n).map λi=>.ref (A + i))],by rw[d,r,ZT],by rw[ZB,y];rfl⟩,λj Q=>by rw[d];exact aC _ (J j Q),by rw[d,<-m];exact ZF⟩;obtain⟨_,R,D,@⟨_,U,W,S,v⟩⟩:=j9 (P:=NI n A tk h T) (g:=some tk) (k:=0)
   (λ_ _ h' q=>by
    obtain⟨N⟩:=q;obtain⟨g,e,_⟩:=N.pre;rw[e];exact aC _ t)
   (xs:=T.map bq) (tg:=gN 3) (σ:=XN n tk A none none none) (h:=l) (b:=hV) (by
   intro i x σ V p z;rw[YH]at z ⊢;obtain @⟨_,a,b,c,N⟩:=z;have f:i < T.length:=by have:=(yE.mp p).1;rwa[ZA]at this
   rw[ZP,ZE f]at p;cases p;have G:T[i]∈T:=WG f;have L:∀s∈T.take i,fR s T[i]:=λs F=>by
    obtain⟨k,B,rfl⟩:=List.getElem_of_mem F;rw[X0]at B;rw[List.getElem_take];exact W7.mp O.un k i _ f (ZY B (Nat.min_le_left _ _))
   obtain⟨K,E,H⟩:=Ez (tk:=tk) u O o N G L (List.take_succ_eq_append_getElem f) b c;exact⟨_,rfl,_,K,E,.mk H⟩) (.mk I)
 rw[YH,ZA,List.take_length]at v;refine⟨R,Eq.trans (bJ (σ:=[some (.int n),some (.ref tk),none,none,none,none]) rfl rfl (sx (cW (bu (aE (yb rfl t)))) (sx (σ':=[some (.int n),some (.ref tk),some (.ref (A + n)),none,none,none]) (h':=l) (by
  rw[d,<-m];exact aH (bo (d8 (jL rfl (ZL u (by decide))) C) (by rw[ZA,ZN];exact ZL u (by decide)))) (sx (mE (eW rfl (by rw[d,r];exact aC _ (aC _ t))) D) (bc rfl))))) (by simp[letGo,pure?]),v⟩
theorem IV (a b:Int)(h:Hd):oNe (.int a) (.int b) h=.ok (.bl (!decide (a=b))) h:=rfl
theorem CW {l:List Nat}(nd:l.Nodup)(h:∀x∈l,x < n):l.length<=n:=by
 induction n generalizing l with
 | zero=>match l,h with
  | [],_=>exact ZK _
  | x :: _,h=>exact absurd (h x ZU) (Nat.not_lt_zero _)
 | succ n b =>
  by_cases m:n∈l
  ·have:=b (nd.erase n) λx a=>by
    have z:=(List.Nodup.mem_erase_iff nd).mp a;exact X4 (XR (h x z.2)) z.1
   rw[List.length_erase_of_mem m]at this;exact Nat.le_add_of_sub_le this
  ·exact Nat.le_succ_of_le (b nd λx a=>X4 (XR (h x a)) λz=>m (z ▸ a))
def eu (n:Nat) (T:List Tie) (bs:List Int) (ss:List (Option Int)):Web:=⟨(List.range n).map λi=>cF (nbs T i),bs,ss⟩
theorem lE:∀l:List (Nat × Int),eU (l.map nP)=some (l.map lD)
 | []=>rfl
 | p :: l=>by
  have a:=lE l;simp;show (eU (l.map nP)).map _=_;rw[a];rfl
theorem mH (un:T.Pairwise fR)(i:Nat):((nbs T i).map (·.1)).Nodup:=by
 unfold nbs
 induction T with
 | nil=>simp
 | cons t T a =>
  obtain⟨d,c⟩:=YF.mp un;have a:=a c;cases e:far i t with
  | none=>simp only[WC,e,Option.map_none];exact a
  | some j =>
   simp only[WC,e,XE,ZZ,Y2];refine⟨λz => ?_,a⟩;obtain⟨p,f,b⟩:=Z2.mp z;exact yf e (λs g=>(d s g).symm) p f b
theorem EA {l:List (Nat × Int)}(nd:(l.map (·.1)).Nodup):(l.map lD).Nodup:=by
 rw[X5,YX]at nd ⊢;exact nd.imp λ{a b} h e=>h (by have:=(List.cons.inj e).1;omega)
theorem sA {α : Type}{l:List α}:jj (l.map λ_=>D.bl true)=some (l.map λ_=>true):=by
 induction l with
 | nil=>rfl
 | cons x l a=>simp[jj,a]
theorem ut {f bk:Nat}{bs:List Int}(k:h[f]? = some (.lst l))(j:l.length=n)(d:h[bk]? = some (.lst (bs.map .int)))(lb:bs.length=n):g7 [.ref f,.ref bk] h=.ok (.tup (bs.map .int)) h:=by
 have c:cV (some bk) (bs.map D.int) (gN 0) [] (au dB (ae (aa 0) am)) (bs.map D.int) [none] h=.ok ((bs.map D.int).map λ_=>D.bl true) h:=by
  have:=cE (g:=some bk) (tg:=gN 0) (cs:=[]) (e:=au dB (ae (aa 0) am)) (I:=λσ=>∃a,σ = [a]) (λ_=>true) (λ_=>.bl true) d (xs:=bs.map D.int) (σ:=[none]) (by
   rintro x m σ ⟨a,rfl⟩;obtain⟨i,_,rfl⟩:=Z2.mp m;exact⟨_,rfl,⟨_,rfl⟩,rfl,λ_=>aD (ai rfl rfl) (lC _ _)⟩) ⟨_,rfl⟩
  rw[this,YR.mpr (by simp)]
 have o:((bs.map D.int).map λ_=>true).all id=true:=by simp
 exact Eq.trans (bJ (σ:=[some (.ref f),some (.ref bk)]) rfl rfl (sx (cW (aE (ar rfl rfl rfl))) (sx (cW (bA (bu (b:=true) (aE (yb rfl d))) (aE (ar (bZ (bG rfl (aK d))) (bZ (bG rfl (aK k))) (by rw[IV,ZA,lb,j,x8 rfl];rfl))))) (sx (cW (bu (b:=true) (aE (Eq.trans (uo (d8 (eW rfl d) c) sA) (by rw[o]))))) (bc (lA (bG rfl (aK d)))))))) aU
theorem qG {d:Nat}{ss:List (Option Int)}(f:h[d]? = some (.lst (ss.map bC)))(ls:ss.length=n)(os:∀x∈ss,x=none\/x=some 0\/x=some 1):gh [.int n,.ref d] h=.ok (.tup (ss.map bC)) h:=by
 have c:cV (some d) (ss.map bC) (gN 0) [] (fT (tOr (tE (ao ju (aa 0) (fC .non))) (tE (au d9 (ae (aa 0) am))))) (ss.map bC) [none] h=.ok ((ss.map bC).map λ_=>D.bl true) h:=by
  have:=cE (g:=some d) (tg:=gN 0) (cs:=[]) (e:=fT (tOr (tE (ao ju (aa 0) (fC .non))) (tE (au d9 (ae (aa 0) am))))) (I:=λσ=>∃a,σ = [a]) (λ_=>true) (λ_=>.bl true) f (xs:=ss.map bC) (σ:=[none]) (by
   rintro x k σ ⟨a,rfl⟩;obtain⟨i,j,rfl⟩:=Z2.mp k;refine⟨_,rfl,⟨_,rfl⟩,rfl,λ_ => ?_⟩;rcases os i j with e|e|e<;>subst e
   ·exact iz (c8 (aE (ar rfl rfl rfl)))
   ·exact iz (bA (aE (ar rfl rfl rfl)) (aE (aD (ai rfl rfl) (jM 0 h))))
   ·exact iz (bA (aE (ar rfl rfl rfl)) (aE (aD (ai rfl rfl) (jM 1 h))))) ⟨_,rfl⟩
  rw[this,YR.mpr (by simp)]
 exact Eq.trans (bJ (σ:=[some (.int n),some (.ref d)]) rfl rfl (sx (cW (aE (ar rfl rfl rfl))) (sx (cW (bA (bu (b:=true) (aE (yb rfl f))) (aE (ar (bZ (bG rfl (aK f))) rfl (by rw[IV,ZA,ls,x8 rfl];rfl))))) (sx (cW (bu (b:=true) (aE (Eq.trans (uo (d8 (eW rfl f) c) sA) (by rw[List.all_map];simp))))) (bc (lA (bG rfl (aK f)))))))) aU
theorem EB {A:Nat}(s:n<=30)(O:TOk n n 0 T)(N:NH n A h T h1) :
  cV (some (A + n)) ((List.range n).map λi=>.ref (A + i)) (gN 0) [] (gR (my (aa 0))) ((List.range n).map λi=>.ref (A + i)) [none] h1=.ok (((List.range n).map λi=>cF (nbs T i)).map lx) h1:=by
 have:=cE (g:=some (A + n)) (tg:=gN 0) (cs:=[]) (e:=gR (my (aa 0))) (h:=h1) (I:=λσ=>∃a,σ = [a]) (λ_=>true)
  (λd=>match d with | .ref k=>lx (cF (nbs T (k - A)))|_=>.non) N.rf (xs:=(List.range n).map λi=>.ref (A + i)) (σ:=[none]) (by
   rintro x l σ ⟨a,rfl⟩;obtain⟨i,f,rfl⟩:=Z2.mp l;have f:=List.mem_range.mp f;refine⟨_,rfl,⟨_,rfl⟩,rfl,λ_ => ?_⟩;have r:=mH O.un i;have c:((nbs T i).map lD).length < 64:=by
    have lt:∀p∈nbs T i,p.1 < n:=λp b=>by
     unfold nbs at b;obtain⟨t,j,q⟩:=Y9.mp b;have:=O.lt t j;unfold far at q
     by_cases o:t.a=i
     ·rw[yD o]at q;simp at q;subst q;exact this.2
     ·rw[wR o]at q
      by_cases m:t.b=i
      ·rw[yD m]at q;simp at q;subst q;exact this.1
      ·rw[wR m]at q;cases q
    have:=CW r (n:=n) (λx l=>by
     obtain⟨p,b,rfl⟩:=Z2.mp l;exact lt p b)
    simp at this ⊢;omega
   have e:((bO ((nbs T i).map lD)).map eC)=(cF (nbs T i)).map uk:=by rw[<-su,YI];rfl
   simp only[List.set_cons_zero,gR,my,aa,slot,List.getElem?_cons_zero,az,N.dc i f,lE,yD (And.intro c (EA r)),e,lx,WH]) ⟨_,rfl⟩
 rw[this,YR.mpr (by simp),YI,YI];congr 1;apply Y3;intro i _;simp
theorem mI (d:1<=n)(f:n<=30)(O:TOk n n 0 T){bs:List Int}{ss:List (Option Int)}(lb:bs.length=n)(ls:ss.length=n)(os:∀x∈ss,x=none\/x=some 0\/x=some 1){tk bk j:Nat}
  (p:h[tk]? = some (.lst (T.map bq))) (s:h[bk]? = some (.lst (bs.map .int))) (t:h[j]? = some (.lst (ss.map bC))):eX [.int n,.ref tk,.ref bk,.ref j] h=.ok (eu n T bs ss).enc h:=by
 obtain⟨l,m,N⟩:=qF d f O p;obtain⟨A,u⟩ : ∃A,A=h.length:=⟨_,rfl⟩;rw[<-u]at m N;obtain⟨g,o,y⟩:=N.pre;have old:∀{k:Nat} {c:aO},h[k]? = some c->l[k]? = some c:=λ{k c} e=>by rw[o,ZC (yE.mp e).1];exact e
 have a:=EB f O N;have q:=ut N.rf (by simp) (old s) lb;have i:=qG (old t) ls os;have w:(1:Int)<=n:=Int.ofNat_le.mpr d;have v:(n:Int)<=30:=Int.ofNat_le.mpr f;have r:=N.rf;refine Eq.trans (bJ rfl rfl (sx (cW (bu (b:=true) (aE (aD (ai rfl (ai rfl (ai rfl rfl))) (by rw[b8,x8 w,x8 v];rfl))))) (sx (aH (aD (ai rfl (ai rfl rfl)) m)) (sx (aH (lA (d8 (eW rfl r) a))) (bc (cS (ai rfl (ai (aD (ai rfl (ai rfl rfl)) q) (ai (aD (ai rfl (ai rfl rfl)) i) rfl))) (by exact YC rfl))))))) ?_;show letGo h (.ok (eu n T bs ss).enc l)=_;rw[o];exact cD (pH _)
theorem uv (lt:∀t∈T,t.a < n/\t.b < n){i:Nat}:∀p∈nbs T i,p.1 < n:=λp c=>by
 unfold nbs at c;obtain⟨t,a,q⟩:=Y9.mp c;have:=lt t a;unfold far at q
 by_cases d:t.a=i
 ·rw[yD d]at q;simp at q;subst q;exact this.2
 ·rw[wR d]at q
  by_cases b:t.b=i
  ·rw[yD b]at q;simp at q;subst q;exact this.1
  ·rw[wR b]at q;cases q
structure JZ (n:Nat) (T:List Tie) (bs:List Int) (ss:List (Option Int)) (tk bk sk:Nat) (h:Hd):Prop where
 ti:h[tk]? = some (.lst (T.map bq))
 ba:h[bk]? = some (.lst (bs.map .int))
 st:h[sk]? = some (.lst (ss.map bC))
theorem iC {α : Type}{f : α->D}(h:∀x,peq (f x) (f x)=some true):∀l:List α,gQ (l.map f) (l.map f)=some true
 | []=>rfl
 | x :: l=>by simp[gQ,h x,iC h l]
theorem dH {α : Type}{f : α->D}{k:Nat}(h:∀x,dep (f x)<=k):∀l:List α,jy (l.map f)<=k
 | []=>XZ _
 | x :: l=>by simp;exact Nat.max_le.mpr ⟨h x,dH h l⟩
theorem lF (w:Web):peq w.enc w.enc=some true/\dep w.enc<=20:=by
 have e:∀p:Nat × Int,peq (uk p) (uk p)=some true:=λp=>by simp[uk,peq,gQ]
 have g:∀r:List (Nat × Int),peq (lx r) (lx r)=some true:=λr=>by simp[lx,peq,iC e r]
 have h:∀x:Option Int,peq (bC x) (bC x)=some true:=λx=>by cases x<;>simp[bC,peq]
 have b:∀x:Int,peq (.int x) (.int x)=some true:=λx=>by simp[peq]
 have f:∀p:Nat × Int,dep (uk p)<=1:=λp=>by simp[uk,dep,jy]
 have a:∀r:List (Nat × Int),dep (lx r)<=2:=λr=>by have:=dH f r;simp[lx,dep];omega
 have c:∀x:Option Int,dep (bC x)<=0:=λx=>by cases x<;>simp[bC,dep]
 have d:∀x:Int,dep (.int x)<=0:=λx=>by simp[dep]
 have j:=dH a w.ties;have k:=dH d w.bars;have i:=dH c w.stays;constructor
 ·simp[Web.enc,peq,gQ,iC g w.ties,iC b w.bars,iC h w.stays]
 ·simp only[Web.enc,dep,jy];omega
theorem pK (h1:peq d d=some true)(b:dep d<=20)(a:∀g,cU g d=none)(g:Hd):oNe d d g=.ok (.bl false) g:=by
 unfold oNe eqG;rw[a];simp only[yD b,h1];rfl
theorem EC (w:Web)(g:Hd):oNe w.enc w.enc g=.ok (.bl false) g:=pK (lF w).1 (lF w).2 (λ_=>rfl) g
structure J0 (n:Nat) (ss:List (Option Int)) (s:List Int):Prop where
 len:s.length=n
 op:∀x∈s,x=0\/x=1
 st:∀(i:Nat) x,ss[i]? = some (some x)->s[i]? = some x
theorem sB {x:Nat × Int}:∀{r:List (Nat × Int)},(∀p∈r,p.1≠x.1)->r.Pairwise (λa b=>a.1 < b.1)->(mG x r).Pairwise (λa b=>a.1 < b.1)
 | [],_,_=>by simp[mG]
 | y :: r,hne,hp=>by
  obtain⟨h1,f⟩:=YF.mp hp;have h:=hne y (by simp);have g:=sB (λp hp=>hne p (by simp[hp])) f;have e:lexLt (lD x) (lD y)=decide (x.1 < y.1):=by
   simp only[lD,lexLt];rw[wR (by omega)];simp
  simp only[mG];split
  ·rename_i c
   rw[e,YN]at c;refine YF.mpr ⟨λb d => ?_,hp⟩;rcases wU.mp d with z|d
   ·rw[z];exact c
   ·exact Z8 c (h1 b d)
  ·rename_i c
   rw[e,YN]at c;refine YF.mpr ⟨λb d => ?_,g⟩;rcases pI.mp d with z|d
   ·rw[z];omega
   ·exact h1 b d
theorem gC:∀{r:List (Nat × Int)},(r.map (·.1)).Nodup->(cF r).Pairwise (λa b=>a.1 < b.1)
 | [],_=>by simp[cF]
 | x :: r,nd=>by
  rw[ZZ,Y2]at nd;refine sB (λp hp e=>nd.1 ?_) (gC nd.2);rw[<-e];exact Z2.mpr ⟨p,eG.mp hp,rfl⟩
theorem zC:∀{a b:List (Nat × Int)},a.Pairwise (λa b=>a.1 < b.1)->b.Pairwise (λa b=>a.1 < b.1)->(∀p,p∈a ↔ p∈b)->a=b
 | [],[],_,_,_=>rfl
 | [],y :: b,_,_,h=>absurd ((h y).mpr (by simp)) (by simp)
 | x :: a,[],_,_,h=>absurd ((h x).mp (by simp)) (by simp)
 | x :: a,y :: b,k,j,h=>by
  obtain⟨g,i⟩:=YF.mp k;obtain⟨f,l⟩:=YF.mp j;have e:x=y:=by
   rcases wU.mp ((h x).mp (by simp)) with e|e
   ·exact e
   ·rcases wU.mp ((h y).mpr (by simp)) with d|d
    ·exact d.symm
    ·have m:=f x e
     have n:=g y d;omega
  subst e;have t:=zC i l λp=>⟨λc=>by
   rcases wU.mp ((h p).mp (by simp[c])) with e|e
   ·subst e;exact absurd (g p c) (Y0 _)
   ·exact e,λc=>by
   rcases wU.mp ((h p).mpr (by simp[c])) with e|e
   ·subst e;exact absurd (f p c) (Y0 _)
   ·exact e⟩
  rw[t]
theorem yg {a b:List (Nat × Int)}(c:(a.map (·.1)).Nodup)(nb:(b.map (·.1)).Nodup)(h:∀p,p∈a ↔ p∈b):cF a=cF b :=
 zC (gC c) (gC nb) λp=>by rw[eG,eG];exact h p
theorem fD {i:Nat}{p:Nat × Int}:p∈nbs T i ↔ ∃t∈T,far i t=some p.1/\t.w=p.2:=by
 unfold nbs;rw[Y9];constructor
 ·rintro⟨t,a,q⟩
  cases e:far i t with
  | none=>rw[e]at q;cases q
  | some j=>rw[e]at q;simp at q;subst q;exact⟨t,a,e,rfl⟩
 ·rintro⟨t,a,b,c⟩
  exact⟨t,a,by rw[b,c];rfl⟩
theorem CY {t:Tie}(ne:t.a≠t.b){i j:Nat}(h:far i t=some j):far j t=some i:=by
 unfold far at h ⊢
 by_cases a:t.a=i
 ·rw[yD a]at h
  cases h;rw[wR ne,yD rfl,a]
 ·rw[wR a]at h
  by_cases b:t.b=i
  ·rw[yD b]at h
   cases h;rw[yD rfl,b]
  ·rw[wR b]at h;cases h
theorem wx (ne:∀t∈T,t.a≠t.b){i j:Nat}{x:Int}(h:(j,x)∈nbs T i):(i,x)∈nbs T j:=by
 obtain⟨t,a,b,c⟩:=fD.mp h;exact fD.mpr ⟨t,a,CY (ne t a) b,c⟩
theorem G1 {t:Tie}(ne:t.a≠t.b){i j:Nat}(h:far i t=some j):i≠j:=by
 unfold far at h
 by_cases a:t.a=i
 ·rw[yD a]at h;cases h;omega
 ·rw[wR a]at h
  by_cases b:t.b=i
  ·rw[yD b]at h;cases h;omega
  ·rw[wR b]at h;cases h
def pL (i:Nat) (r:List (Nat × Int)):List Tie:=(r.filter λp=>decide (i < p.1)).map λp=>⟨i,p.1,p.2⟩
def g9 (R:List (List (Nat × Int))):Nat->List Tie
 | 0=>[]
 | k + 1=>g9 R k++pL k (R.getD k [])
theorem mJ {i:Nat}{r:List (Nat × Int)}{t:Tie}:t∈pL i r ↔ t.a=i/\i < t.b/\(t.b,t.w)∈r:=by
 unfold pL;rw[Z2];constructor
 ·rintro⟨p,d,rfl⟩
  obtain⟨b,a⟩:=VC.mp d;exact⟨rfl,by simpa using a,b⟩
 ·rintro⟨b,a,c⟩
  exact⟨_,VC.mpr ⟨c,by simpa using a⟩,by cases t;cases b;rfl⟩
theorem iD {R:List (List (Nat × Int))}{t:Tie}:∀{k:Nat},t∈g9 R k ↔ t.a < k/\t.a < t.b/\(t.b,t.w)∈R.getD t.a []
 | 0=>by simp[g9]
 | k + 1=>by
  rw[g9,Z0,iD,mJ];constructor
  ·rintro (⟨h1,b,a⟩|⟨h1,b,a⟩)
   ·exact⟨by omega,b,a⟩
   ·exact⟨by omega,by omega,by rw[h1];exact a⟩
  ·rintro⟨h1,b,a⟩
   by_cases c:t.a < k
   ·exact .inl ⟨c,b,a⟩
   ·have:t.a=k:=by omega
    exact .inr ⟨this,by omega,by rw[<-this];exact a⟩
theorem wz {R:List (List (Nat × Int))}(nd:∀i,((R.getD i []).map (·.1)).Nodup):∀k,(g9 R k).Pairwise fR
 | 0=>by simp[g9]
 | k + 1=>by
  rw[g9,YZ];refine⟨wz nd k,?_,λs d t c => ?_⟩
  ·unfold pL
   rw[YX];have n1:=nd k;rw[X5,YX]at n1;refine(n1.filter _).imp_of_mem λ{a b} e j h => ?_;have g:k < a.1:=by simpa using (VC.mp e).2
   exact⟨λz=>h z.2,λz=>by have:=z.2;simp at this;omega⟩
  ·obtain⟨n,f,_⟩:=iD.mp d
   obtain⟨l,m,_⟩:=mJ.mp c;exact⟨λz=>by omega,λz=>by omega⟩
theorem sC {R:List (List (Nat × Int))}(l:∀i,(R.getD i []).length<=30):∀k,(g9 R k).length<=30 * k
 | 0=>by simp[g9]
 | k + 1=>by
  have c:=sC l k;have b:(pL k (R.getD k [])).length<=(R.getD k []).length:=by unfold pL;rw[ZA];exact List.length_filter_le _ _
  have a:=l k;rw[g9,ZB];omega
theorem AQ:∀r:List (Nat × Int),(cF r).length=r.length:=λr=>by
 have:=sy (λ_=>1) r;have q:∀l:List (Nat × Int),(l.map λ_=>(1:Int)).sum=l.length:=λl=>by
  induction l with
  | nil=>rfl
  | cons x l a=>simp;omega
 rw[q,q]at this;omega
theorem ED (lt:∀t∈T,t.a < n/\t.b < n)(un:T.Pairwise fR)(i:Nat):(nbs T i).length<=n:=by
 have:=CW (mH un i) λx a=>by
  obtain⟨p,b,rfl⟩:=Z2.mp a;exact uv lt p b
 simpa using this
def gD (n:Nat) (T:List Tie):List Tie:=g9 ((List.range n).map λi=>cF (nbs T i)) n
theorem oh (C:n<=30)(O:TOk n n 0 T):TOk n n 0 (gD n T)/\∀i,i < n->cF (nbs (gD n T) i)=cF (nbs T i):=by
 have m:∀{i:Nat},i < n->(((List.range n).map λi=>cF (nbs T i)).getD i [])=cF (nbs T i):=λ{i} k=>by simp[List.getD,k]
 have o:∀{i:Nat},¬i < n->(((List.range n).map λi=>cF (nbs T i)).getD i [])=[]:=λ{i} k=>by simp[List.getD,k]
 have mem:∀{t:Tie},t∈gD n T ↔ t.a < n/\t.a < t.b/\(t.b,t.w)∈nbs T t.a:=λ{t}=>by
  unfold gD;rw[iD];constructor
  ·rintro⟨g,r,f⟩
   rw[m g,eG]at f;exact⟨g,r,f⟩
  ·rintro⟨g,r,f⟩
   exact⟨g,r,by rw[m g,eG];exact f⟩
 have B:∀i,((((List.range n).map λi=>cF (nbs T i)).getD i []).map (·.1)).Nodup:=λi=>by
  by_cases k:i < n
  ·rw[m k,X5,YX]
   exact(gC (mH O.un i)).imp λ{a b} h e=>by omega
  ·rw[o k];simp
 have ok:TOk n n 0 (gD n T):=by
  refine⟨λt l => ?_,λt l => ?_,λt l => ?_,λt l => ?_,wz B n,?_⟩
  ·have:=(mem.mp l).2.1;omega
  ·obtain⟨g,r,f⟩:=mem.mp l
   exact⟨g,uv O.lt _ f⟩
  ·obtain⟨g,r,f⟩:=mem.mp l
   obtain⟨s,z,_,q⟩:=fD.mp f;have q:s.w=t.w:=q;rw[<-q];exact O.wt s z
  ·obtain⟨g,r,f⟩:=mem.mp l
   exact .inl ⟨g,uv O.lt _ f⟩
  ·have:=sC (λi=>by
    by_cases k:i < n
    ·rw[m k,AQ]
     have:=ED O.lt O.un i;omega
    ·rw[o k];simp) n
   exact this
 refine⟨ok,λi k=>yg (mH ok.un i) (mH O.un i) λp => ?_⟩;obtain⟨j,x⟩:=p;constructor
 ·intro h
  obtain⟨t,l,d,u⟩:=fD.mp h;obtain⟨g,r,f⟩:=mem.mp l;have u:t.w=x:=u;subst u;unfold far at d
  by_cases y:t.a=i
  ·rw[yD y]at d
   have d:t.b=j:=by simpa using d
   rw[<-d,<-y];exact f
  ·rw[wR y]at d
   by_cases w:t.b=i
   ·rw[yD w]at d
    have d:t.a=j:=by simpa using d
    rw[<-d,<-w];exact wx O.ne f
   ·rw[wR w]at d;cases d
 ·intro h
  obtain⟨s,z,d,u⟩:=fD.mp h;have v:i≠j:=G1 (O.ne s z) d;have A:=uv O.lt _ h
  by_cases c:i < j
  ·exact fD.mpr ⟨⟨i,j,x⟩,mem.mpr ⟨k,c,h⟩,by simp[far],rfl⟩
  ·exact fD.mpr ⟨⟨j,i,x⟩,mem.mpr ⟨A,by show j < i;omega,wx O.ne h⟩,by simp[far,YV v],rfl⟩
theorem yh {S:List Tie}(bs:List Int)(ss:List (Option Int))(h:∀i,i < n->cF (nbs S i)=cF (nbs T i)):eu n S bs ss=eu n T bs ss:=by
 unfold eu;congr 1;apply Y3;intro i a;exact h i (List.mem_range.mp a)
theorem yi (a:n<=30)(O:TOk n n 0 T)(bs:List Int)(ss:List (Option Int)):eu n (gD n T) bs ss=eu n T bs ss:=yh bs ss (oh a O).2
def LeS (a b:List Int):Prop:=∀i:Nat,a.getD i 0<=b.getD i 0
structure J1 (w1 w2:Web) (n:Nat):Prop where
 go:∀a b,IS w1 n a->IS w2 n b->LeS a b->LeS (CP w1 n a) (CP w2 n b)
def eN (w:Web) (n:Nat) (s:List Int) (k:Nat):Int:=Fd w (GY w n s k) (GY w n s (k + 1)) n
section
open Classical
end
section
open Classical
end
def eI:Fn:=bQ 1 2 (ay (aB (gN 1) (fIf (tE (gX (aa 0) (fC (.str [45])))) (nZ (aa 0) (pAt (fC (.int 1))) pNo) (aa 0)))
  (ay (sIf (dh (tE (au aQ (ae (nz (aa 1)) (ae (fC (.int 1)) (ae (fC (.int 60)) am)))))) (bx (fC (.bl false))) bB)
  (ay (sIf (dh (tE (vE (cB 1 [] (tZ (aa 1)) (gN 0) [] (ao An (aa 0) (fC (.str [48,49,50,51,52,53,54,55,56,57]))))))) (bx (fC (.bl false))) bB)
  (bx (fT (tOr (tE (ao oNe (pk (aa 1) (fC (.int 0))) (fC (.str [48])))) (tE (ao oEq (aa 0) (fC (.str [48]))))))))))
def aZ:Fn:=bQ 2 3 (ay (aB (gN 2) (aL (dY 32 (aa 1))))
  (ay (sIf (tOr (tE (ao oNe (fAt (aa 2) (fC (.int 0))) (aa 0))) (dh (tE (vE (cB 1 [] (fZ (cP (aa 2) (pAt (fC (.int 1))) pNo)) (gN 0) [] (au eI (ae (aa 0) am))))))) (bx (aL am)) bB)
  (bx (aL (cB 1 [] (fZ (cP (aa 2) (pAt (fC (.int 1))) pNo)) (gN 0) [] (rT (aa 0)))))))
def cT:Fn:=bQ 2 2 (bx (fT (jr (tE (ao oLt (fAt (aa 1) (fC (.int 0))) (fAt (aa 1) (fC (.int 1))))) (tOr (tE (ao oEq (aa 0) (aL am))) (tE (ao GC (eV (fAt (aa 0) (fC (.int (-1)))) pNo (pAt (fC (.int 2)))) (eV (aa 1) pNo (pAt (fC (.int 2))))))))))
def lG:Fn:=bQ 1 8 (ay (aB (gT [1,2,3,4,5]) (aa 0))
  (ay (aB (gN 6) (aL (ae (ao ft (fC (.str [112,101,111,112,108,101,32])) (kH (aa 1))) am)))
  (ay (aB (gN 7) (aL (mr (aL (cB 3 [] (fZ (aa 2)) (gT [0,1,2]) [] (dR (ae (tW (aa 0) (aa 1)) (ae (tU (aa 0) (aa 1)) (ae (aa 2) am)))))))))
  (ay (aB (gN 6) (aL (cY (aa 6) (aL (cB 3 [] (fZ (aa 7)) (gT [0,1,2]) [] (iZ [32] (ae (fC (.str [116,105,101])) (ae (kH (aa 0)) (ae (kH (aa 1)) (ae (kH (aa 2)) am))))))))))
  (ay (aB (gN 6) (aL (cY (aa 6) (aL (cB 1 [] (fZ (aa 3)) (gN 0) [] (ao ft (fC (.str [98,97,114,32])) (kH (aa 0))))))))
  (bx (iZ [10] (cY (aa 6) (aL (cB 1 [] (fZ (aa 4)) (gN 0) [] (fIx (ae (fC (.str [102,114,101,101])) (ae (fC (.str [115,116,97,121,115,32,48])) (ae (fC (.str [115,116,97,121,115,32,49])) am))) (iy (aL (ae (fC .non) (ae (fC (.int 0)) (ae (fC (.int 1)) am)))) (aa 0)))))))))))))
def ke:Fn:=bQ 0 1 (ay (aB (gN 0) (aL (ae (fC (.str [])) (ae (fC (.str [32])) (ae (fC (.str [112,101,111,112,108,101])) (ae (fC (.str [112,101,111,112,108,101,32,48])) (ae (fC (.str [112,101,111,112,108,101,32,49])) (ae (fC (.str [112,101,111,112,108,101,32,51,49])) (ae (fC (.str [112,101,111,112,108,101,32,51,48])) (ae (fC (.str [112,101,111,112,108,101,32,48,50])) (ae (fC (.str [112,101,111,112,108,101,32,45,49])) (ae (fC (.str [112,101,111,112,108,101,32,50,32])) am))))))))))))
  (ay (aB (gN 0) (aL (cY (aa 0) (aL (ae (fC (.str [116,105,101])) (ae (fC (.str [116,105,101,32,48,32,49])) (ae (fC (.str [116,105,101,32,48,32,49,32,49])) (ae (fC (.str [116,105,101,32,48,32,49,32,52,48,48])) (ae (fC (.str [116,105,101,32,48,32,49,32,52,48,49])) (ae (fC (.str [116,105,101,32,48,32,49,32,48])) (ae (fC (.str [116,105,101,32,49,32,48,32,49])) (ae (fC (.str [116,105,101,32,48,32,48,32,49])) am))))))))))))
  (ay (aB (gN 0) (aL (cY (aa 0) (aL (ae (fC (.str [116,105,101,32,48,32,50,32,51])) (ae (fC (.str [116,105,101,32,49,32,50,32,51])) (ae (fC (.str [116,105,101,32,48,32,49,32,48,49])) (ae (fC (.str [116,105,101,32,48,32,49,32,45,49])) (ae (fC (.str [116,105,101,32,48,48,32,49,32,49])) (ae (fC (.str [116,105,101,32,48,32,57,32,49])) (ae (fC (.str [116,105,101,32,48,32,49,32,49,32,49])) am)))))))))))
  (ay (aB (gN 0) (aL (cY (aa 0) (aL (ae (fC (.str [116,105,101,115,32,48,32,49,32,49])) (ae (fC (.str [116,105,101,32,32,48,32,49,32,49])) (ae (fC (.str [98,97,114])) (ae (fC (.str [98,97,114,32,48])) (ae (fC (.str [98,97,114,32,45,48])) (ae (fC (.str [98,97,114,32,45,49])) (ae (fC (.str [98,97,114,32,48,48])) (ae (fC (.str [98,97,114,32,43,49])) (ae (fC (.str [98,97,114,32,49,46,48])) am)))))))))))))
  (ay (eP (fO (aa 0) (fC (.str [98,97,114,32,49,32]))))
  (ay (aB (gN 0) (aL (cY (aa 0) (aL (ae (fC (.str [98,97,114,32,45,45,49])) (ae (fC (.str [98,97,114,32,120])) (ae (ao ft (fC (.str [98,97,114,32])) (ao se (fC (.str [57])) (fC (.int 60)))) (ae (ao ft (fC (.str [98,97,114,32])) (ao se (fC (.str [57])) (fC (.int 61)))) (ae (ao ft (fC (.str [98,97,114,32,45])) (ao se (fC (.str [57])) (fC (.int 60)))) (ae (ao ft (fC (.str [98,97,114,32,45])) (ao se (fC (.str [49])) (fC (.int 61)))) am))))))))))
  (ay (aB (gN 0) (aL (cY (aa 0) (aL (ae (fC (.str [98,97,114,115,32,49])) (ae (fC (.str [98,97,114,32,49,32,49])) (ae (fC (.str [32,98,97,114,32,49])) (ae (fC (.str [115,116,97,121,115])) (ae (fC (.str [115,116,97,121,115,32,48])) (ae (fC (.str [115,116,97,121,115,32,49])) (ae (fC (.str [115,116,97,121,115,32,50])) (ae (fC (.str [115,116,97,121,115,32,102,114,101,101])) (ae (fC (.str [102,114,101,101])) am)))))))))))))
  (ay (eP (fO (aa 0) (fC (.str [70,114,101,101]))))
  (ay (aB (gN 0) (aL (cY (aa 0) (aL (ae (fC (.str [102,114,101,101,32])) (ae (fC (.str [32,102,114,101,101])) (ae (fC (.str [102,114,101,101,32,49])) (ae (fC (.str [115,116,97,121,32,48])) am))))))))
  (bx (aL (cY (aa 0) (aL (ae (fC (.str [115,116,97,121,115,32,48,48])) (ae (fC (.str [115,116,97,121,115,32,45,49])) (ae (fC (.str [115,116,97,121,115,32,32,49])) (ae (fC (.str [98,97,114,32,49,95,48])) (ae (fC (.str [112,101,111,112,108,101,32,51])) am))))))))))))))))))
def fI:Fn:=bQ 2 9 (ay (aB (gN 2) (aL (dY 10 (aa 0))))
  (ay (aB (gN 3) (au aJ (ae (aa 1) (ae (fC (.int 9)) am))))
  (ay (aB (gN 4) (au aJ (ae (aa 1) (ae (cr (lOf (aa 2))) am))))
  (ay (aB (gN 5) (au aJ (ae (aa 1) (ae (cr (lOf (aa 2))) am))))
  (ay (aB (gN 6) (au ke am))
  (ay (aB (gN 7) (fAt (aa 6) (au aJ (ae (aa 1) (ae (cr (lOf (aa 6))) am)))))
  (ay (aB (gN 8) (au aJ (ae (aa 1) (ae (ao b7 (nz (aa 0)) (fC (.int 1))) am))))
  (ay (sIf (tE (ao oEq (aa 3) (fC (.int 0)))) (aB (gN 2) (aL (cY (cP (aa 2) pNo (pAt (aa 4))) (cP (aa 2) (pAt (ao b7 (aa 4) (fC (.int 1)))) pNo)))) (sIf (tE (ao oEq (aa 3) (fC (.int 1)))) (aB (gN 2) (aL (cY (aL (cY (cP (aa 2) pNo (pAt (aa 4))) (aL (ae (fAt (aa 2) (aa 4)) am)))) (cP (aa 2) (pAt (aa 4)) pNo)))) (sIf (tE (ao oEq (aa 3) (fC (.int 2)))) (zt (aa 2) (aa 4) (aa 2) (aa 5) (dR (ae (fAt (aa 2) (aa 5)) (ae (fAt (aa 2) (aa 4)) am)))) (sIf (tE (ao oEq (aa 3) (fC (.int 3)))) (aB (gN 2) (aL (cY (aL (cY (cP (aa 2) pNo (pAt (aa 4))) (aL (ae (aa 7) am)))) (cP (aa 2) (pAt (aa 4)) pNo)))) (sIf (tE (ao oEq (aa 3) (fC (.int 4)))) (nM (aa 2) (aa 4) (aa 7)) (sIf (tE (ao oEq (aa 3) (fC (.int 5)))) (bx (br (aa 0) pNo (pAt (aa 8)))) (sIf (tE (ao oEq (aa 3) (fC (.int 6)))) (bx (ao ft (ao ft (br (aa 0) pNo (pAt (aa 8))) (pk (fC (.str [32,48,45,49,120,10])) (au aJ (ae (aa 1) (ae (fC (.int 6)) am))))) (br (aa 0) (pAt (aa 8)) pNo))) (sIf (tE (ao oEq (aa 3) (fC (.int 7)))) (bx (ao ft (br (aa 0) pNo (pAt (aa 8))) (br (aa 0) (pAt (ao b7 (aa 8) (fC (.int 1)))) pNo))) (eP (fO (aa 2) (aa 7)))))))))))
  (bx (iZ [10] (lOf (aa 2))))))))))))
abbrev cO:SF:=(sIf (tE (ao zl (aa 1) (fC (.str [48,49,50,51,52,53,54,55,56,57])))) (bx (fC .non)) bB)
def bK:Fn:=bQ 1 2 (ay (sIf (tOr (tE (ao oEq (aa 0) (fC (.str [])))) (tOr (tE (ao oGt (nz (aa 0)) (fC (.int 60)))) (jr (tE (ao oEq (pk (aa 0) (fC (.int 0))) (fC (.str [48])))) (tE (ao oNe (aa 0) (fC (.str [48]))))))) (bx (fC .non)) bB)
  (ay (nN (tZ (aa 0)) (gN 1) cO)
  (bx (rT (aa 0)))))
def lH:Fn:=bQ 2 4 (ay (aB (gN 2) (aL (dY 32 (aa 0))))
  (ay (aB (gN 3) (aL (cB 1 [] (fZ (cP (aa 2) (pAt (fC (.int 1))) pNo)) (gN 0) [] (au bK (ae (aa 0) am)))))
  (ay (sIf (tOr (tE (ao oNe (fAt (aa 2) (fC (.int 0))) (fC (.str [116,105,101])))) (tOr (tE (ao oNe (cr (lOf (aa 2))) (fC (.int 4)))) (tOr (tE (ao oIn (fC .non) (aa 3))) (dh (tE (fN oLt oLt (fC (.int 0)) (fAt (aa 3) (fC (.int 2))) (fC (.int 401)))))))) (bx (fC .non)) bB)
  (ay (sIf (dh (tE (fN oLt oLt (fAt (aa 3) (fC (.int 0))) (fAt (aa 3) (fC (.int 1))) (aa 1)))) (bx (fC .non)) bB)
  (bx (gR (lOf (aa 3))))))))
def gE:Fn:=bQ 1 2 (ay (sIf (tE (ao oNe (br (aa 0) pNo (pAt (fC (.int 4)))) (fC (.str [98,97,114,32])))) (bx (fC .non)) bB)
  (ay (sIf (tE (ao oEq (br (aa 0) (pAt (fC (.int 4))) (pAt (fC (.int 5)))) (fC (.str [45])))) (ay (aB (gN 1) (au bK (ae (br (aa 0) (pAt (fC (.int 5))) pNo) am)))
  (ay (sIf (tOr (tE (ao ju (aa 1) (fC .non))) (tE (ao oEq (aa 1) (fC (.int 0))))) (bx (fC .non)) bB)
  (bx (ao tu (fC (.int 0)) (aa 1))))) bB)
  (bx (au bK (ae (br (aa 0) (pAt (fC (.int 4))) pNo) am)))))
abbrev iE:SF:=(ay (sIf (tE (ao oLt (cr (lOf (aa 6))) (aa 2))) (ay (eP (fO (aa 6) (au gE (ae (fAt (aa 1) (aa 3)) am))))
  (sIf (tE (ao ju (fAt (aa 6) (fC (.int (-1)))) (fC .non))) (bx (dR (ae (fC .non) (ae (aa 3) am)))) bB)) (sIf (tOr (tE (ao oEq (cr (lOf (aa 7))) (aa 2))) (tE (ao oQ (fAt (aa 1) (aa 3)) (dR (ae (fC (.str [102,114,101,101])) (ae (fC (.str [115,116,97,121,115,32,48])) (ae (fC (.str [115,116,97,121,115,32,49])) am))))))) (bx (dR (ae (fC .non) (ae (aa 3) am)))) (eP (fO (aa 7) (fIx (ae (fC .non) (ae (fC (.int 0)) (ae (fC (.int 1)) am))) (iy (aL (ae (fC (.str [102,114,101,101])) (ae (fC (.str [115,116,97,121,115,32,48])) (ae (fC (.str [115,116,97,121,115,32,49])) am)))) (fAt (aa 1) (aa 3))))))))
  (aB (gN 3) (ao b7 (aa 3) (fC (.int 1)))))
abbrev eJ:SF:=(ay (aB (gN 5) (au lH (ae (fAt (aa 1) (aa 3)) (ae (aa 2) am))))
  (ay (sIf (tOr (tE (ao ju (aa 5) (fC .non))) (jr (tE (ao oNe (aa 4) (aL am))) (tE (ao Cy (eV (fAt (aa 4) (fC (.int (-1)))) pNo (pAt (fC (.int 2)))) (eV (aa 5) pNo (pAt (fC (.int 2)))))))) (bx (dR (ae (fC .non) (ae (aa 3) am)))) bB)
  (ay (eP (fO (aa 4) (aa 5)))
  (aB (gN 3) (ao b7 (aa 3) (fC (.int 1)))))))
def fJ:Fn:=bQ 1 8 (ay (aB (gN 1) (aL (dY 10 (aa 0))))
  (ay (aB (gN 2) (au bK (ae (br (fAt (aa 1) (fC (.int 0))) (pAt (fC (.int 7))) pNo) am)))
  (ay (sIf (tOr (tE (ao oNe (br (fAt (aa 1) (fC (.int 0))) pNo (pAt (fC (.int 7)))) (fC (.str [112,101,111,112,108,101,32])))) (tOr (tE (ao ju (aa 2) (fC .non))) (dh (tE (fN oLt oLt (fC (.int 0)) (aa 2) (fC (.int 31))))))) (bx (dR (ae (fC .non) (ae (fC (.int 0)) am)))) bB)
  (ay (aB (gN 3) (fC (.int 1)))
  (ay (aB (gN 4) (aL am))
  (ay (kC (jr (tE (ao oLt (aa 3) (cr (lOf (aa 1))))) (tE (ao oEq (fAt (aL (dY 32 (fAt (aa 1) (aa 3)))) (fC (.int 0))) (fC (.str [116,105,101]))))) eJ)
  (ay (aB (gN 6) (aL am))
  (ay (aB (gN 7) (aL am))
  (ay (kC (tE (ao oLt (aa 3) (cr (lOf (aa 1))))) iE)
  (ay (sIf (tE (ao oLt (cr (lOf (aa 7))) (aa 2))) (bx (dR (ae (fC .non) (ae (cr (lOf (aa 1))) am)))) bB)
  (bx (dR (ae (au eX (ae (aa 2) (ae (aa 4) (ae (aa 6) (ae (aa 7) am))))) (ae (fC .non) am))))))))))))))
def dC:Fn:=bQ 1 2 (ay (sPl (aB (gN 1) (au aZ (ae (fC (.str [112,101,111,112,108,101])) (ae (fAt (aa 0) (fC (.int 0))) am)))))
  (ay (iY (tOr (tE (ao oNe (cr (lOf (aa 1))) (fC (.int 1)))) (dh (tE (au aQ (ae (fAt (aa 1) (fC (.int 0))) (ae (fC (.int 1)) (ae (fC (.int 30)) am))))))) (Fy.sRaiseL "NoText" (fC (.int 0))) bB)
  (sPl (bx (fAt (aa 1) (fC (.int 0)))))))
def eg:Fn:=bQ 2 5 (ay (sPl (aB (gN 2) (aL am)))
  (ay (li (fY (fC (.int 1)) (cr (lOf (aa 0)))) (gN 3) (ay (sPl (sIf (dh (tE (gX (fAt (aa 0) (aa 3)) (fC (.str [116,105,101,32]))))) DY bB))
  (ay (sPl (aB (gN 4) (gR (lOf (au aZ (ae (fC (.str [116,105,101])) (ae (fAt (aa 0) (aa 3)) am)))))))
  (ay (iY (tOr (dh (tE (au eo (ae (aa 1) (ae (aa 4) am))))) (dh (tE (au cT (ae (aa 2) (ae (aa 4) am)))))) (Fy.sRaiseL "NoText" (aa 3)) bB)
  (sPl (eP (fO (aa 2) (aa 4))))))))
  (sPl (bx (aa 2)))))
def b6:Fn:=bQ 2 2 (ay (iY (tE (ao oEq (aa 1) (cr (lOf (aa 0))))) (Fy.sRaiseL "NoText" (aa 1)) bB)
  (sPl (bx (fAt (aa 0) (aa 1)))))
def e8:Fn:=bQ 3 6 (ay (sPl (aB (gN 3) (aL am)))
  (ay (li (fY (aa 1) (ao b7 (aa 1) (aa 2))) (gN 4) (ay (aB (gN 5) (Fy.fCallG aZ (ae (fPl (fC (.str [98,97,114]))) (ae (au b6 (fPl (ae (aa 0) (ae (aa 4) am)))) (fPl am)))))
  (ay (iY (tE (ao oNe (cr (lOf (aa 5))) (fC (.int 1)))) (Fy.sRaiseL "NoText" (aa 4)) bB)
  (sPl (eP (rW (aa 3) (aa 5)))))))
  (sPl (bx (aa 3)))))
def eA:Fn:=bQ 3 6 (ay (sPl (aB (gN 3) (aL am)))
  (ay (li (fY (aa 1) (ao b7 (aa 1) (aa 2))) (gN 4) (ay (aB (gN 5) (au b6 (fPl (ae (aa 0) (ae (aa 4) am)))))
  (ay (iY (tE (nY [([102,114,101,101],none),([115,116,97,121,115,32,48],some 0),([115,116,97,121,115,32,49],some 1)] (aa 5))) (Fy.sRaiseL "NoText" (aa 4)) bB)
  (sPl (eP (fO (aa 3) (ph [([102,114,101,101],none),([115,116,97,121,115,32,48],some 0),([115,116,97,121,115,32,49],some 1)] (aa 5))))))))
  (sPl (bx (aa 3)))))
def bS:Fn:=bQ 1 7 (ay (iY (dh (tE (ip .str (aa 0)))) (Fy.sRaiseL "NoText" (fC (.int 0))) bB)
  (ay (sPl (aB (gN 1) (aL (dY 10 (aa 0)))))
  (ay (aB (gN 2) (au dC (fPl (ae (aa 1) am))))
  (ay (aB (gN 3) (au eg (fPl (ae (aa 1) (ae (aa 2) am)))))
  (ay (aB (gN 4) (au e8 (fPl (ae (aa 1) (ae (ao b7 (fC (.int 1)) (cr (lOf (aa 3)))) (ae (aa 2) am))))))
  (ay (aB (gN 5) (au eA (fPl (ae (aa 1) (ae (ao b7 (ao b7 (fC (.int 1)) (cr (lOf (aa 3)))) (aa 2)) (ae (aa 2) am))))))
  (ay (sPl (aB (gN 6) (ao b7 (ao b7 (fC (.int 1)) (cr (lOf (aa 3)))) (ao im (fC (.int 2)) (aa 2)))))
  (ay (iY (tE (ao oGt (cr (lOf (aa 1))) (aa 6))) (Fy.sRaiseL "NoText" (aa 6)) bB)
  (sPl (bx (au eX (ae (aa 2) (ae (aa 3) (ae (aa 4) (ae (aa 5) am)))))))))))))))
def fK:Fn:=bQ 1 4 (ay (aB (gN 1) (fC .non))
  (ay (aB (gN 2) (fC .non))
  (ay (Fy.sTryL 3 2 "NoText" (aB (gN 1) (au bS (fPl (ae (aa 0) am)))))
  (bx (dR (ae (aa 1) (ae (aa 2) am)))))))
abbrev CZ:SF:=(aB (gN 1) (au gz (ae (aa 0) am)))
abbrev C0:SF:=(aB (gN 2) (au eX (ae (fAt (aa 1) (fC (.int 0))) (ae (aL (lOf (fAt (aa 1) (fC (.int 1))))) (ae (aL (lOf (fAt (aa 1) (fC (.int 2))))) (ae (aL (lOf (fAt (aa 1) (fC (.int 3))))) am))))))
abbrev C1:SF:=(aB (gN 3) (au lG (ae (aa 1) am)))
abbrev C2:SF:=(sIf (tOr (tE (ao oNe (au (Fy.gd bS) (ae (aa 3) am)) (aa 2))) (tE (ao oNe (au fJ (ae (aa 3) am)) (dR (ae (aa 2) (ae (fC .non) am)))))) (bx (fC (.bl false))) bB)
abbrev yj:SF:=(ay (aB (gN 5) (au cK (ae (aa 0) (ae (ao b7 (fC (.int 41)) (aa 4)) am))))
  (ay (aB (gN 6) (au fI (ae (aa 3) (ae (aa 5) am))))
  (ay (sIf (tE (ao oNe (au fK (ae (aa 6) am)) (au fJ (ae (aa 6) am)))) (bx (fC (.bl false))) bB)
  (ay (aB (gN 7) (fIx (ae (fC .non) (ae (fC (.int 5)) (ae (fC (.bl true)) (ae (aL (ae (aa 3) am)) (ae (dR (ae (aa 3) am)) (ae (aa 2) (ae o9 am))))))) (au aJ (ae (aa 5) (ae (fC (.int 7)) am)))))
  (sIf (tE (ao oNe (au fK (ae (aa 7) am)) (dR (ae (fC .non) (ae (fC (.int 0)) am))))) (bx (fC (.bl false))) bB)))))
abbrev C3:SF:=(nN (gp (fC (.int 12))) (gN 4) yj)
abbrev C4:SF:=(bx (ao oEq (au (Fy.gd bS) (ae (aa 3) am)) (aa 2)))
def zD:Fn:=bQ 1 8 (ay CZ (ay C0 (ay C1 (ay C2 (ay C3 C4)))))
end Fm
set_option maxHeartbeats 4000000
namespace Fm
open PySem PySem.Spec L2
section
abbrev eF (i : Nat) : Stmt := PySem.Challenge.pw_followmost_k49_texts_of_no_web.main.body.getD i (.Pass ⟨0, 0, 0, 0⟩)
abbrev pM:Stmt:=eF 12
abbrev lI:Stmt:=eF 13
abbrev lJ:Stmt:=eF 14
abbrev wA:Stmt:=eF 20
abbrev i8:Stmt:=eF 19
abbrev nC:Stmt:=eF 21
abbrev lK:Stmt:=eF 22
abbrev wB:Stmt:=eF 18
abbrev nD:Stmt:=eF 28
abbrev iF:Stmt:=eF 35
abbrev jN:Stmt:=eF 29
abbrev kn:Stmt:=eF 31
abbrev jO:Stmt:=eF 30
abbrev mK:Stmt:=eF 34
abbrev jP:Stmt:=eF 32
abbrev i9:Stmt:=eF 33
abbrev kI:Stmt:=eF 27
abbrev lL:Stmt:=eF 37
abbrev lM:Stmt:=eF 38
abbrev pN:Stmt:=eF 39
abbrev ko:Stmt:=eF 40
abbrev nE:Stmt:=eF 41
abbrev ja:Stmt:=eF 42
abbrev jQ:Stmt:=eF 43
abbrev kq:Stmt:=eF 44
abbrev kJ:Stmt:=eF 45
abbrev kr:Stmt:=eF 46
abbrev nF:Stmt:=eF 47
abbrev jR:Stmt:=eF 48
abbrev sD:Stmt:=eF 49
abbrev wC:Stmt:=Fy.inC (eF 9) 0
theorem G2:ce ["self", "line"] ["self", "line"] (aI wC):=fsc
variable {P:T3} {w:T4} {K:ZW} {mg:Str->Option T0} {base:Heap} {f:Addr} {fd:FuncData}
theorem wD (a:mg "isinstance" = none) (b:mg "bool" = none) (c:mg "int" = none):OkD P w K mg base "is_whole" pM 1 ["thing"] dB 1:=okd ["thing"] λd e=>(av (aP (MB.me (tF (gu (iV (t:=.int) rfl a rfl c (by decide +kernel) (mv 0))) (jB (FZ (gu (iV (t:=.bool) rfl a rfl b (by decide +kernel) (mv 0)))))))))
theorem qH (a:Def P w K mg base "is_whole" 1 1 dB):OkD P w K mg base "is_between" lI 2 ["thing", "least", "most"] aQ 3:=okd ["thing", "least", "most"] λb c=>(av (aP (MB.me (tF (gu (aA a b (ag (mv 0) aq))) (jB (gu (BH E1 E1 kj kj (mv 1) (mv 0) (mv 2))))))))
theorem qI (a:Def P w K mg base "is_between" 2 3 aQ):OkD P w K mg base "is_opinion" lJ 3 ["thing"] d9 1:=okd ["thing"] λb c=>(av (aP (aA a b (ag (mv 0) (ag ak (ag ak aq))))))
theorem AR (i:mg "len" = none) (e:mg "isinstance" = none) (d:mg "tuple" = none) {g:Tok} (h:mg "MOST_WEIGHT" = some (.int 400 g)) (a:Def P w K mg base "is_between" 2 3 aQ):OkD P w K mg base "is_tie" wA 3 ["many", "thing"] eo 2:=okd ["many", "thing", "one", "other"] λb c=>(aj (bH (MW.mt (fm (cR (cQ (iV (t:=.tuple) rfl e rfl d (by decide +kernel) (mv 1)))) (dU (aV (dM c) fq (cj rfl i (cu (mv 1))) ak (aN _)) (.inr rfl)))) (av (aP nh)) a8)
  (aj (aG (bi (mv 1) ak (λ_ _=>rfl)))
  (aj (aG (bi (mv 1) ak (λ_ _=>rfl)))
  (aj (bH (MW.mt (fm (cR (cQ (aA a b (ag (mv 2) (ag ak (ag (bf oF BE (mv 0) ak) aq)))))) (dU (cR (cQ (aA a b (ag (mv 3) (ag ak (ag (bf oF BE (mv 0) ak) aq)))))) (.inr rfl)))) (av (aP nh)) a8)
  (av (aP (MB.me (tF (gu (gs (dM c) fq (mv 2) (mv 3) (aN _))) (jB (gu (aA a b (ag (bi (mv 1) ak (λ_ _=>rfl)) (ag ak (ag (kU rfl h) aq))))))))))))))
theorem qJ:ce ["many", "ties", "near", "tie", "one", "other"] ["many", "ties"] (aI i8):=fsc
theorem qK (e:mg "range" = none) (b:mg "isinstance" = none) (d:mg "list" = none) (c:Def P w K mg base "is_tie" 3 2 eo):OkD P w K mg base "neighbours" i8 4 ["many", "ties"] gg 2:=okd ["many", "ties", "near", "tie", "one", "other"] λg a=>(aj (bH (cR (cQ (iV (t:=.list) rfl b rfl d (by decide +kernel) (mv 1)))) (av iU) a8)
  (aj (za (i:=2) qJ.nd rfl lc (own:=["person"]) (capn:=[]) (caps:=[]) rfl (ei.a fF.nil) (iu rfl e (mv 0))
   (λh C s H j=>⟨a9,dP,zg⟩))
  (aj (oX WA rfl (gv (mv 1)) a9 (aj (bH (cR (cQ (aA c g (ag (mv 0) (ag (mv 3) aq))))) (av iU) a8)
  (aj (aG (bi (mv 3) ak (λ_ _=>rfl)))
  (aj (aG (bi (mv 3) ak (λ_ _=>rfl)))
  (aj (bH (aV (Gm (ZR (W9 (by decide) _) a)) Gn (mv 5) (bi (mv 2) (mv 4) (λ_ _=>rfl)) rfl) (av iU) a8)
  (aj (zh (ZR (W9 (by decide) _) a) (bi (mv 3) ak (λ_ _=>rfl)) (bi (mv 2) (mv 4) (λ_ _=>rfl)) (mv 5))
  (av (zh (ZR (W9 (by decide) _) a) (bi (mv 3) ak (λ_ _=>rfl)) (bi (mv 2) (mv 5) (λ_ _=>rfl)) (mv 4)))))))))
  (av (aP (mv 2))))))
theorem uw (c:mg "tuple" = none) (g:mg "all" = none) (a:mg "len" = none) (d:mg "isinstance" = none) (e:mg "list" = none) (b:Def P w K mg base "is_whole" 1 1 dB):OkD P w K mg base "bars_told" nC 2 ["near", "bars"] g7 2:=okd ["near", "bars"] λh i=>(aj (bH (aV kB kD (mv 1) bR (aN _)) (av iU) a8)
  (aj (bH (MW.mt (fm (cR (cQ (iV (t:=.list) rfl d rfl e (by decide +kernel) (mv 1)))) (dU (aV (dM i) fq (cj rfl a (cu (mv 1))) (cj rfl a (cu (mv 0))) (aN _)) (.inr rfl)))) (av iU) a8)
  (aj (bH (cR (cQ (tV rfl rfl g (iR (dX ["bar"] (gv (mv 1)) ⟨a9,dP,(aA b h (ag (mv 0) aq))⟩))))) (av iU) a8)
  (av (aP (iS rfl c (cu (mv 1))))))))
theorem qL (a:mg "tuple" = none) (e:mg "all" = none) (h:mg "len" = none) (b:mg "isinstance" = none) (c:mg "list" = none) (d:mg "range" = none) (j:Def P w K mg base "is_opinion" 3 1 d9):OkD P w K mg base "stays_told" lK 4 ["many", "stays"] gh 2:=okd ["many", "stays"] λg i=>(aj (bH (aV kB kD (mv 1) bR (aN _)) (av (aP (iS rfl a (iR (dX ["person"] (iu rfl d (mv 0)) ⟨a9,dP,bR⟩))))) a8)
  (aj (bH (MW.mt (fm (cR (cQ (iV (t:=.list) rfl b rfl c (by decide +kernel) (mv 1)))) (dU (aV (dM i) fq (cj rfl h (cu (mv 1))) (mv 0) (aN _)) (.inr rfl)))) (av iU) a8)
  (aj (bH (cR (cQ (tV rfl rfl e (iR (dX ["stay"] (gv (mv 1)) ⟨a9,dP,(MB.me (yX (gu (gs kB kD (mv 0) bR (aN _))) (jB (gu (aA j g (ag (mv 0) aq))))))⟩))))) (av iU) a8)
  (av (aP (iS rfl a (cu (mv 1))))))))
theorem AS (b:mg "tuple" = none) (e:mg "sorted" = none) {d:Tok} (g:mg "MOST_PEOPLE" = some (.int 30 d)) (j:Def P w K mg base "stays_told" 4 2 gh) (i:Def P w K mg base "bars_told" 2 2 g7) (c:Def P w K mg base "neighbours" 4 2 gg) (h:Def P w K mg base "is_between" 2 3 aQ):OkD P w K mg base "web_of" wB 5 ["many", "ties", "bars", "stays"] eX 4:=okd ["many", "ties", "bars", "stays", "near", "rows"] λa k=>(aj (bH (cR (cQ (aA h a (ag (mv 0) (ag ak (ag (kU rfl g) aq)))))) (av iU) a8)
  (aj (aG (aA c a (ag (mv 0) (ag (mv 1) aq))))
  (aj (aG (iS rfl b (iR (dX ["row"] (gv (mv 4)) ⟨a9,dP,(iS rfl b (iR (Cf rfl rfl e (mv 0))))⟩))))
  (av (aP (dL (ag (mv 5) (ag (aA i a (ag (mv 4) (ag (mv 2) aq))) (ag (aA j a (ag (mv 0) (ag (mv 3) aq))) aq)))))))))
theorem ux (e:mg "all" = none) (i:mg "len" = none) {b:Tok} (h:mg "FIGURES" = some (.str (PySem.Str.ofString "0123456789") b)) {c:Tok} (d:mg "MOST_FIGURES" = some (.int 60 c)) (g:Def P w K mg base "is_between" 2 3 aQ):OkD P w K mg base "is_number" nD 3 ["text"] eI 1:=okd ["text", "figures"] λj a=>(aj (aG (Io (cQ (rY (mv 0) (aw [45] rfl))) (Ap (mv 0) (dm ak) dQ) (mv 0)))
  (aj (bH (cR (cQ (aA g j (ag (ua rfl i (mv 1)) (ag ak (ag (kU rfl d) aq)))))) (av (aP nh)) a8)
  (aj (bH (cR (cQ (tV rfl rfl e (iR (dX ["sign"] (Ck (mv 1)) ⟨a9,dP,(Gy (mv 0) (Cs [48,49,50,51,52,53,54,55,56,57] rfl rfl h) rfl)⟩))))) (av (aP nh)) a8)
  (av (aP (MB.me (yX (gu (gs (dM a) fq (xT (mv 1) ak (λ_ _=>rfl)) (aw [48] rfl) (aN _))) (jB (gu (gs (cq a) dE (mv 0) (aw [48] rfl) (aN _)))))))))))
theorem lN (g:mg "int" = none) (b:mg "all" = none) (a:Def P w K mg base "is_number" 3 1 eI):OkD P w K mg base "numbers_behind" iF 4 ["word", "line"] aZ 2:=okd ["word", "line", "words"] λd e=>(aj (aG (aR (iw (c:=32) rfl (mv 1))))
  (aj (bH (MW.mt (fm (aV (dM e) fq (bi (mv 2) ak (λ_ _=>rfl)) (mv 0) (aN _)) (dU (cR (cQ (tV rfl rfl b (iR (dX ["figures"] (gv (eS (mv 2) (dm ak) dQ)) ⟨a9,dP,(aA a d (ag (mv 0) aq))⟩))))) (.inr rfl)))) (av (aP (aR (bE aq (λ_ _ _ _ z=>by rw[aS _ _ _ _ z];decide))))) a8)
  (av (aP (aR (dX ["figures"] (gv (eS (mv 2) (dm ak) dQ)) ⟨a9,dP,(zp rfl g (mv 0))⟩))))))
theorem uy:ce ["lines", "numbers"] ["lines"] (aI jN):=fsc
theorem pO:OkD P w K mg base "is_next_tie" kn 1 ["ties", "tie"] cT 2:=okd ["ties", "tie"] λa b=>(av (aP (MB.me (tF (gu (gs ji kj (bi (mv 1) ak (λ_ _=>rfl)) (bi (mv 1) ak (λ_ _=>rfl)) (aN _))) (jB (yX (gu (gs (cq b) dE (mv 0) (aR (bE aq (λ_ _ _ _ z=>by rw[aS _ _ _ _ z];decide))) (aN _))) (jB (gu (gs (FN a.units0) GD (j7 (bi (mv 0) nX (λ_ _=>rfl)) dQ (dm ak)) (j7 (mv 1) dQ (dm ak)) (aN _))))))))))
theorem uz:ce ["lines", "many", "ties", "place", "tie"] ["lines", "many"] (aI jO):=fsc
theorem yk:ce ["lines", "place"] ["lines", "place"] (aI mK):=fsc
theorem lO:ce ["lines", "start", "many", "bars", "place", "numbers"] ["lines", "start", "many"] (aI jP):=fsc
theorem ku:ce ["lines", "start", "many", "stays", "place", "line"] ["lines", "start", "many"] (aI i9):=fsc
theorem fL:ce ["text", "lines", "many", "ties", "bars", "stays", "end"] ["text"] (aI kI):=fsc
theorem qM (a:mg "len" = none):OkD P w K mg base "_law_state" lL 1 ["_law_script", "_law_k"] cK 2:=okd ["_law_script", "_law_k", "_law_cell", "_law_mixed"] λc b=>(aj (aG ak)
  (aj (bH (aV ji kj (mv 1) (cj rfl a (cu (mv 0))) (aN _)) (av (aG (bi (mv 0) (mv 1) (λ_ _=>rfl)))) a8)
  (aj (aG (MB.me (yX (gu (gs (cq b) dE (cj rfl a (cu (mv 0))) ak (aN _))) (jB (gu (gs (cq b) dE (bf fM fP (bi (mv 0) ak (λ_ _=>rfl)) ak) ak (aN _)))))))
  (aj (bH (cQ (mv 3)) (av (aG (bf bI bY (bf fM fP (mv 2) ak) (bf iO iQ ak (mv 1))))) a8)
  (av (aP (aR (bE (ag (mv 2) (ag ak (ag (mv 3) aq))) (λ_ _ _ _ z=>by rw[(ah (ah (ah aS))) _ _ _ _ z];decide)))))))))
theorem qN:OkD P w K mg base "_law_digit" lM 1 ["_law_state_here", "_law_most"] aJ 2:=okd ["_law_state_here", "_law_most", "_law_number_here", "_law_found"] λa b=>(aj (oW (bf bI bY (bi (mv 0) ak (λ_ _=>rfl)) ak) (mv 0) ak)
  (aj (bH (cQ (bi (mv 0) ak (λ_ _=>rfl))) (aj (aG (bf fM fP (bf iO iQ (bf bI bY (bf bI bY (bi (mv 0) ak (λ_ _=>rfl)) (bf iO iQ ak (bi (mv 0) ak (λ_ _=>rfl)))) ak) ak) ak))
  (aj (aG (bf fM fP (bf iO iQ (mv 2) (bf bI bY (bf fM fP (mv 2) ak) (bi (mv 0) ak (λ_ _=>rfl)))) ak))
  (av (aP (bf fM fP (bf fM fP (bf bI bY (bf iO iQ (mv 2) (mv 2)) (bf iO iQ ak (mv 2))) ak) (mv 1)))))) a8)
  (aj (aG (bf fM fP (bi (mv 0) ak (λ_ _=>rfl)) (mv 1)))
  (aj (oW (bf BF FX (bi (mv 0) ak (λ_ _=>rfl)) (mv 1)) (mv 0) ak)
  (av (aP (mv 3)))))))
theorem wE:OkD P w K mg base "_law_bar" pN 1 ["_law_kind", "_law_number_here", "_law_total"] eY 3:=okd ["_law_kind", "_law_number_here", "_law_total"] λb a=>(aj (bH (aV (cq a) dE (mv 0) ak (aN _)) (av (aP (mv 2))) a8)
  (aj (bH (aV (cq a) dE (mv 0) ak (aN _)) (av (aP (bf oF BE (mv 1) ak))) a8)
  (aj (bH (aV (cq a) dE (mv 0) ak (aN _)) (av (aP (bf oF BE (bf bI bY (mv 2) (bf fM fP (mv 1) ak)) ak))) a8)
  (aj (bH (aV (cq a) dE (mv 0) ak (aN _)) (av (aP (bf iO iQ ak (bf fM fP (mv 1) (bf bI bY (mv 2) ak))))) a8)
  (av (aP (bf iO iQ (bf bI bY (bf FJ FY ak ak) (mv 1)) (kW (bE (ag ak (ag nX aq)) (λ_ _ _ _ z=>by rw[(ah (ah aS)) _ _ _ _ z];decide)) (bf fM fP (mv 1) ak) (λ_ _=>rfl)))))))))
theorem pP (c:mg "range" = none) (g:mg "len" = none) (e:Def P w K mg base "_law_bar" 1 3 eY) (b:Def P w K mg base "_law_digit" 1 2 aJ) (d:Def P w K mg base "_law_state" 1 2 cK):OkD P w K mg base "_law_people" ko 2 ["_law_script"] gz 1:=okd ["_law_script", "_law_head", "_law_many", "_law_thin", "_law_ties", "_law_bars", "_law_stays", "_law_totals", "_law_one", "_law_state_here", "_law_other", "_law_heavy"] λa h=>(aj (aG (aA d a (ag (mv 0) (ag ak aq))))
  (aj (d6 (aA b a (ag (mv 1) (ag ak aq))))
  (aj (aG (bf bI bY ak (aA b a (ag (mv 1) (ag (kW (bE (ag ak (ag ak (ag ak aq))) (λ_ _ _ _ z=>by rw[(ah (ah (ah aS))) _ _ _ _ z];decide)) (aA b a (ag (mv 1) (ag ak aq))) (λ_ _=>rfl)) aq)))))
  (aj (aG (kW (bE (ag ak (ag ak (ag ak aq))) (λ_ _ _ _ z=>by rw[(ah (ah (ah aS))) _ _ _ _ z];decide)) (aA b a (ag (mv 1) (ag ak aq))) (λ_ _=>rfl)))
  (aj (aG (aR (bE aq (λ_ _ _ _ z=>by rw[aS _ _ _ _ z];decide))))
  (aj (aG (aR (bE aq (λ_ _ _ _ z=>by rw[aS _ _ _ _ z];decide))))
  (aj (aG (aR (bE aq (λ_ _ _ _ z=>by rw[aS _ _ _ _ z];decide))))
  (aj (aG (aR (Gr (bE (ag ak aq) (λ_ _ _ _ z=>by rw[(ah aS) _ _ _ _ z];decide)) (mv 2))))
  (aj (oX WA rfl (iu rfl c (mv 2)) a9 (aj (aG (aA d a (ag (mv 0) (ag (bf bI bY ak (mv 8)) aq))))
  (aj (d6 (hU (mv 6) (kW (bE (ag bR (ag bR (ag bR (ag ak (ag ak aq))))) (λ_ _ _ _ z=>by rw[(ah (ah (ah (ah (ah aS))))) _ _ _ _ z];decide)) (aA b a (ag (mv 9) (ag ak aq))) (λ_ _=>rfl))))
  (aj (d6 (hU (mv 5) (dL (ag (aA b a (ag (mv 9) (ag ak aq))) (ag (aA b a (ag (mv 9) (ag ak aq))) aq)))))
  (av (oX WA rfl (iu rfl c (mv 8)) a9 (av (bH (aV (cq h) dE (aA b a (ag (mv 9) (ag (mv 3) aq))) ak (aN _)) (aj (aG (bf bI bY ak (aA b a (ag (mv 9) (ag (kW (bE (ag ak (ag ak aq)) (λ_ _ _ _ z=>by rw[(ah (ah aS)) _ _ _ _ z];decide)) (aA b a (ag (mv 9) (ag ak aq))) (λ_ _=>rfl)) aq)))))
  (aj (d6 (Gu (mv 4) (aA b a (ag (mv 9) (ag (bf bI bY (cj rfl g (cu (mv 4))) ak) aq))) (kW (bE (ag (dL (ag (mv 8) (ag (mv 10) (ag (mv 11) aq)))) (ag (dL (ag (mv 10) (ag (mv 8) (ag (mv 11) aq)))) aq)) (λ_ _ _ _ z=>by rw[(ah (ah aS)) _ _ _ _ z];decide)) (bf fM fP (mv 11) ak) (λ_ _=>rfl))))
  (aj (oW (bf bI bY (bi (mv 7) (mv 8) (λ_ _=>rfl)) (mv 11)) (mv 7) (mv 8))
  (av (oW (bf bI bY (bi (mv 7) (mv 10) (λ_ _=>rfl)) (mv 11)) (mv 7) (mv 10)))))) a8))))))))
  (aj (aG (aR (yZ (own:=["_law_one"]) (capn:=["_law_totals", "_law_bars"]) (caps:=[7,5]) rfl (ei.a (fF.cons rfl rfl (fF.cons rfl rfl fF.nil))) (iu rfl c (mv 2))
   (λi C s H j=>⟨a9,dP,(aA e a (ag (bi (bi (mv 2) (mv 0) (λ_ _=>rfl)) ak (λ_ _=>rfl)) (ag (bi (bi (mv 2) (mv 0) (λ_ _=>rfl)) ak (λ_ _=>rfl)) (ag (bi (mv 1) (mv 0) (λ_ _=>rfl)) aq))))⟩))))
  (av (aP (dL (ag (mv 2) (ag (mv 4) (ag (mv 5) (ag (mv 6) (ag (mv 7) aq))))))))))))))))))
theorem uA (a:mg "str" = none) (c:mg "sorted" = none) (d:mg "max" = none) (b:mg "min" = none):OkD P w K mg base "_law_text" nE 1 ["_law_told"] lG 1:=okd ["_law_told", "_law_many", "_law_ties", "_law_bars", "_law_stays", "_law_totals", "_law_lines_here", "_law_some"] λe g=>(aj (F7 (mv 0) (xJ rfl (dW a9 (dW a9 (dW a9 (dW a9 (dW a9 tH)))))))
  (aj (aG (aR (bE (ag (gc (aw [112,101,111,112,108,101,32] rfl) (lq rfl a (mv 1))) aq) (λ_ _ _ _ z=>by rw[(ah aS) _ _ _ _ z];decide))))
  (aj (aG (aR (BY rfl c (aR (dX ["_law_one", "_law_other", "_law_heavy"] (gv (mv 2)) ⟨(xJ rfl (dW a9 (dW a9 (dW a9 tH)))),dP,(dL (ag (Gv rfl rfl b (mv 0) (mv 1)) (ag (Gs rfl rfl d (mv 0) (mv 1)) (ag (mv 2) aq))))⟩)))))
  (aj (aG (aR (dz (mv 6) (aR (dX ["_law_one", "_law_other", "_law_heavy"] (gv (mv 7)) ⟨(xJ rfl (dW a9 (dW a9 (dW a9 tH)))),dP,(py (sp:=[32]) rfl (iR (bE (ag (aw [116,105,101] rfl) (ag (lq rfl a (mv 0)) (ag (lq rfl a (mv 1)) (ag (lq rfl a (mv 2)) aq)))) (λ_ _ _ _ z=>by rw[(ah (ah (ah (ah aS)))) _ _ _ _ z];decide))))⟩)))))
  (aj (aG (aR (dz (mv 6) (aR (dX ["_law_bar_here"] (gv (mv 3)) ⟨a9,dP,(gc (aw [98,97,114,32] rfl) (lq rfl a (mv 0)))⟩)))))
  (av (aP (py (sp:=[10]) rfl (iR (dz (mv 6) (aR (dX ["_law_stay"] (gv (mv 4)) ⟨a9,dP,(kW (bE (ag (aw [102,114,101,101] rfl) (ag (aw [115,116,97,121,115,32,48] rfl) (ag (aw [115,116,97,121,115,32,49] rfl) aq))) (λ_ _ _ _ z=>by rw[(ah (ah (ah aS))) _ _ _ _ z];decide)) (zu (aR (bE (ag bR (ag ak (ag ak aq))) (λ_ _ _ _ z=>by rw[(ah (ah (ah aS))) _ _ _ _ z];decide))) (mv 0)) (λ_ _=>rfl))⟩))))))))))))
theorem cA:ce ["_law_some"] [] (aI ja):=fsc
theorem qO (F:Fun K "_law_lines" "_law_lines" ja f fd):cM P w K mg base CX0 1 f fd [] (spF K ke 0):=by
 refine E9 F cA λh A g s H E j => ?_;have k:=vN j;refine aj ?_ ?_
 ·refine jC (i:=0) ?_ ?_ ?_ ?_ ?_ ?_
  ·exact cA.nd
  ·rfl
  ·first|exact .inl rfl|exact .inr rfl
  rotate_left
  ·rfl
  ·exact .inr rfl
  refine aR ?_;refine bE ?_ ?_
  rotate_left
  ·intro a b c d z;have e:=(ah (ah (ah (ah (ah (ah (ah (ah (ah (ah aS)))))))))) a b c d z;rw[e];decide
  refine ag ?_ ?_ ?_
  ·exact(aw [] rfl)
  rotate_left
  ·rfl
  refine ag ?_ ?_ ?_
  ·exact(aw [32] rfl)
  rotate_left
  ·rfl
  refine ag ?_ ?_ ?_
  ·exact(aw [112,101,111,112,108,101] rfl)
  rotate_left
  ·rfl
  refine ag ?_ ?_ ?_
  ·exact(aw [112,101,111,112,108,101,32,48] rfl)
  rotate_left
  ·rfl
  refine ag ?_ ?_ ?_
  ·exact(aw [112,101,111,112,108,101,32,49] rfl)
  rotate_left
  ·rfl
  refine ag ?_ ?_ ?_
  ·exact(aw [112,101,111,112,108,101,32,51,49] rfl)
  rotate_left
  ·rfl
  refine ag ?_ ?_ ?_
  ·exact(aw [112,101,111,112,108,101,32,51,48] rfl)
  rotate_left
  ·rfl
  refine ag ?_ ?_ ?_
  ·exact(aw [112,101,111,112,108,101,32,48,50] rfl)
  rotate_left
  ·rfl
  refine ag ?_ ?_ ?_
  ·exact(aw [112,101,111,112,108,101,32,45,49] rfl)
  rotate_left
  ·rfl
  refine ag ?_ ?_ ?_
  ·exact(aw [112,101,111,112,108,101,32,50,32] rfl)
  rotate_left
  ·rfl
  exact aq
 refine aj ?_ ?_
 ·refine jC (i:=0) ?_ ?_ ?_ ?_ ?_ ?_
  ·exact cA.nd
  ·rfl
  ·first|exact .inl rfl|exact .inr rfl
  rotate_left
  ·rfl
  ·exact .inr rfl
  refine aR ?_;refine dz ?_ ?_
  ·exact(mv 0)
  refine aR ?_;refine bE ?_ ?_
  rotate_left
  ·intro a b c d z;have e:=(ah (ah (ah (ah (ah (ah (ah (ah aS)))))))) a b c d z;rw[e];decide
  refine ag ?_ ?_ ?_
  ·exact(aw [116,105,101] rfl)
  rotate_left
  ·rfl
  refine ag ?_ ?_ ?_
  ·exact(aw [116,105,101,32,48,32,49] rfl)
  rotate_left
  ·rfl
  refine ag ?_ ?_ ?_
  ·exact(aw [116,105,101,32,48,32,49,32,49] rfl)
  rotate_left
  ·rfl
  refine ag ?_ ?_ ?_
  ·exact(aw [116,105,101,32,48,32,49,32,52,48,48] rfl)
  rotate_left
  ·rfl
  refine ag ?_ ?_ ?_
  ·exact(aw [116,105,101,32,48,32,49,32,52,48,49] rfl)
  rotate_left
  ·rfl
  refine ag ?_ ?_ ?_
  ·exact(aw [116,105,101,32,48,32,49,32,48] rfl)
  rotate_left
  ·rfl
  refine ag ?_ ?_ ?_
  ·exact(aw [116,105,101,32,49,32,48,32,49] rfl)
  rotate_left
  ·rfl
  refine ag ?_ ?_ ?_
  ·exact(aw [116,105,101,32,48,32,48,32,49] rfl)
  rotate_left
  ·rfl
  exact aq
 refine aj ?_ ?_
 ·refine jC (i:=0) ?_ ?_ ?_ ?_ ?_ ?_
  ·exact cA.nd
  ·rfl
  ·first|exact .inl rfl|exact .inr rfl
  rotate_left
  ·rfl
  ·exact .inr rfl
  refine aR ?_;refine dz ?_ ?_
  ·exact(mv 0)
  refine aR ?_;refine bE ?_ ?_
  rotate_left
  ·intro a b c d z;have e:=(ah (ah (ah (ah (ah (ah (ah aS))))))) a b c d z;rw[e];decide
  refine ag ?_ ?_ ?_
  ·exact(aw [116,105,101,32,48,32,50,32,51] rfl)
  rotate_left
  ·rfl
  refine ag ?_ ?_ ?_
  ·exact(aw [116,105,101,32,49,32,50,32,51] rfl)
  rotate_left
  ·rfl
  refine ag ?_ ?_ ?_
  ·exact(aw [116,105,101,32,48,32,49,32,48,49] rfl)
  rotate_left
  ·rfl
  refine ag ?_ ?_ ?_
  ·exact(aw [116,105,101,32,48,32,49,32,45,49] rfl)
  rotate_left
  ·rfl
  refine ag ?_ ?_ ?_
  ·exact(aw [116,105,101,32,48,48,32,49,32,49] rfl)
  rotate_left
  ·rfl
  refine ag ?_ ?_ ?_
  ·exact(aw [116,105,101,32,48,32,57,32,49] rfl)
  rotate_left
  ·rfl
  refine ag ?_ ?_ ?_
  ·exact(aw [116,105,101,32,48,32,49,32,49,32,49] rfl)
  rotate_left
  ·rfl
  exact aq
 refine aj ?_ ?_
 ·refine jC (i:=0) ?_ ?_ ?_ ?_ ?_ ?_
  ·exact cA.nd
  ·rfl
  ·first|exact .inl rfl|exact .inr rfl
  rotate_left
  ·rfl
  ·exact .inr rfl
  refine aR ?_;refine dz ?_ ?_
  ·exact(mv 0)
  refine aR ?_;refine bE ?_ ?_
  rotate_left
  ·intro a b c d z;have e:=(ah (ah (ah (ah (ah (ah (ah (ah (ah aS))))))))) a b c d z;rw[e];decide
  refine ag ?_ ?_ ?_
  ·exact(aw [116,105,101,115,32,48,32,49,32,49] rfl)
  rotate_left
  ·rfl
  refine ag ?_ ?_ ?_
  ·exact(aw [116,105,101,32,32,48,32,49,32,49] rfl)
  rotate_left
  ·rfl
  refine ag ?_ ?_ ?_
  ·exact(aw [98,97,114] rfl)
  rotate_left
  ·rfl
  refine ag ?_ ?_ ?_
  ·exact(aw [98,97,114,32,48] rfl)
  rotate_left
  ·rfl
  refine ag ?_ ?_ ?_
  ·exact(aw [98,97,114,32,45,48] rfl)
  rotate_left
  ·rfl
  refine ag ?_ ?_ ?_
  ·exact(aw [98,97,114,32,45,49] rfl)
  rotate_left
  ·rfl
  refine ag ?_ ?_ ?_
  ·exact(aw [98,97,114,32,48,48] rfl)
  rotate_left
  ·rfl
  refine ag ?_ ?_ ?_
  ·exact(aw [98,97,114,32,43,49] rfl)
  rotate_left
  ·rfl
  refine ag ?_ ?_ ?_
  ·exact(aw [98,97,114,32,49,46,48] rfl)
  rotate_left
  ·rfl
  exact aq
 refine aj ?_ ?_
 ·exact(d6 (hU (mv 0) (aw [98,97,114,32,49,32] rfl)))
 refine aj ?_ ?_
 ·refine jC (i:=0) ?_ ?_ ?_ ?_ ?_ ?_
  ·exact cA.nd
  ·rfl
  ·first|exact .inl rfl|exact .inr rfl
  rotate_left
  ·rfl
  ·exact .inr rfl
  refine aR ?_;refine dz ?_ ?_
  ·exact(mv 0)
  refine aR ?_;refine bE ?_ ?_
  rotate_left
  ·intro a b c d z;have e:=(ah (ah (ah (ah (ah (ah aS)))))) a b c d z;rw[e];decide
  refine ag ?_ ?_ ?_
  ·exact(aw [98,97,114,32,45,45,49] rfl)
  rotate_left
  ·rfl
  refine ag ?_ ?_ ?_
  ·exact(aw [98,97,114,32,120] rfl)
  rotate_left
  ·rfl
  refine ag ?_ ?_ ?_
  ·exact(gc (aw [98,97,114,32] rfl) (bf n9 n8 (aw [57] rfl) ak))
  rotate_left
  ·rfl
  refine ag ?_ ?_ ?_
  ·exact(gc (aw [98,97,114,32] rfl) (bf n9 n8 (aw [57] rfl) ak))
  rotate_left
  ·rfl
  refine ag ?_ ?_ ?_
  ·exact(gc (aw [98,97,114,32,45] rfl) (bf n9 n8 (aw [57] rfl) ak))
  rotate_left
  ·rfl
  refine ag ?_ ?_ ?_
  ·exact(gc (aw [98,97,114,32,45] rfl) (bf n9 n8 (aw [49] rfl) ak))
  rotate_left
  ·rfl
  exact aq
 refine aj ?_ ?_
 ·refine jC (i:=0) ?_ ?_ ?_ ?_ ?_ ?_
  ·exact cA.nd
  ·rfl
  ·first|exact .inl rfl|exact .inr rfl
  rotate_left
  ·rfl
  ·exact .inr rfl
  refine aR ?_;refine dz ?_ ?_
  ·exact(mv 0)
  refine aR ?_;refine bE ?_ ?_
  rotate_left
  ·intro a b c d z;have e:=(ah (ah (ah (ah (ah (ah (ah (ah (ah aS))))))))) a b c d z;rw[e];decide
  refine ag ?_ ?_ ?_
  ·exact(aw [98,97,114,115,32,49] rfl)
  rotate_left
  ·rfl
  refine ag ?_ ?_ ?_
  ·exact(aw [98,97,114,32,49,32,49] rfl)
  rotate_left
  ·rfl
  refine ag ?_ ?_ ?_
  ·exact(aw [32,98,97,114,32,49] rfl)
  rotate_left
  ·rfl
  refine ag ?_ ?_ ?_
  ·exact(aw [115,116,97,121,115] rfl)
  rotate_left
  ·rfl
  refine ag ?_ ?_ ?_
  ·exact(aw [115,116,97,121,115,32,48] rfl)
  rotate_left
  ·rfl
  refine ag ?_ ?_ ?_
  ·exact(aw [115,116,97,121,115,32,49] rfl)
  rotate_left
  ·rfl
  refine ag ?_ ?_ ?_
  ·exact(aw [115,116,97,121,115,32,50] rfl)
  rotate_left
  ·rfl
  refine ag ?_ ?_ ?_
  ·exact(aw [115,116,97,121,115,32,102,114,101,101] rfl)
  rotate_left
  ·rfl
  refine ag ?_ ?_ ?_
  ·exact(aw [102,114,101,101] rfl)
  rotate_left
  ·rfl
  exact aq
 refine aj ?_ ?_
 ·exact(d6 (hU (mv 0) (aw [70,114,101,101] rfl)))
 refine aj ?_ ?_
 ·refine jC (i:=0) ?_ ?_ ?_ ?_ ?_ ?_
  ·exact cA.nd
  ·rfl
  ·first|exact .inl rfl|exact .inr rfl
  rotate_left
  ·rfl
  ·exact .inr rfl
  refine aR ?_;refine dz ?_ ?_
  ·exact(mv 0)
  refine aR ?_;refine bE ?_ ?_
  rotate_left
  ·intro a b c d z;have e:=(ah (ah (ah (ah aS)))) a b c d z;rw[e];decide
  refine ag ?_ ?_ ?_
  ·exact(aw [102,114,101,101,32] rfl)
  rotate_left
  ·rfl
  refine ag ?_ ?_ ?_
  ·exact(aw [32,102,114,101,101] rfl)
  rotate_left
  ·rfl
  refine ag ?_ ?_ ?_
  ·exact(aw [102,114,101,101,32,49] rfl)
  rotate_left
  ·rfl
  refine ag ?_ ?_ ?_
  ·exact(aw [115,116,97,121,32,48] rfl)
  rotate_left
  ·rfl
  exact aq
 refine av ?_;refine aP ?_;refine aR ?_;refine dz ?_ ?_
 ·exact(mv 0)
 refine aR ?_;refine bE ?_ ?_
 rotate_left
 ·intro a b c d z;have e:=(ah (ah (ah (ah (ah aS))))) a b c d z;rw[e];decide
 refine ag ?_ ?_ ?_
 ·exact(aw [115,116,97,121,115,32,48,48] rfl)
 rotate_left
 ·rfl
 refine ag ?_ ?_ ?_
 ·exact(aw [115,116,97,121,115,32,45,49] rfl)
 rotate_left
 ·rfl
 refine ag ?_ ?_ ?_
 ·exact(aw [115,116,97,121,115,32,32,49] rfl)
 rotate_left
 ·rfl
 refine ag ?_ ?_ ?_
 ·exact(aw [98,97,114,32,49,95,48] rfl)
 rotate_left
 ·rfl
 refine ag ?_ ?_ ?_
 ·exact(aw [112,101,111,112,108,101,32,51] rfl)
 rotate_left
 ·rfl
 exact aq
theorem nQ (e:mg "len" = none) (d:Def P w K mg base "_law_digit" 1 2 aJ) (g:Def P w K mg base "_law_lines" 1 0 ke):OkD P w K mg base "_law_spoiled" jQ 2 ["_law_text_here", "_law_state_here"] fI 2:=okd ["_law_text_here", "_law_state_here", "_law_lines_here", "_law_way", "_law_one", "_law_other", "_law_strange", "_law_line", "_law_place"] λb a=>(aj (aG (aR (iw (c:=10) rfl (mv 0))))
  (aj (aG (aA d b (ag (mv 1) (ag ak aq))))
  (aj (aG (aA d b (ag (mv 1) (ag (cj rfl e (cu (mv 2))) aq))))
  (aj (aG (aA d b (ag (mv 1) (ag (cj rfl e (cu (mv 2))) aq))))
  (aj (aG (Fy.me_call0 g (b.mono (by decide)) rfl))
  (aj (aG (bi (mv 6) (aA d b (ag (mv 1) (ag (cj rfl e (cu (mv 6))) aq))) (λ_ _=>rfl)))
  (aj (aG (aA d b (ag (mv 1) (ag (bf bI bY (ua rfl e (mv 0)) ak) aq))))
  (aj (bH (aV (cq a) dE (mv 3) ak (aN _)) (av (aG (aR (dz (eS (mv 2) dQ (dm (mv 4))) (eS (mv 2) (dm (bf bI bY (mv 4) ak)) dQ))))) (av (bH (aV (cq a) dE (mv 3) ak (aN _)) (av (aG (aR (dz (aR (dz (eS (mv 2) dQ (dm (mv 4))) (aR (bE (ag (bi (mv 2) (mv 4) (λ_ _=>rfl)) aq) (λ_ _ _ _ z=>by rw[(ah aS) _ _ _ _ z];decide))))) (eS (mv 2) (dm (mv 4)) dQ))))) (av (bH (aV (cq a) dE (mv 3) ak (aN _)) (av (Em rfl (dL (ag (bi (mv 2) (mv 5) (λ_ _=>rfl)) (ag (bi (mv 2) (mv 4) (λ_ _=>rfl)) aq))) (mv 2) (mv 4) (mv 2) (mv 5))) (av (bH (aV (cq a) dE (mv 3) ak (aN _)) (av (aG (aR (dz (aR (dz (eS (mv 2) dQ (dm (mv 4))) (aR (bE (ag (mv 7) aq) (λ_ _ _ _ z=>by rw[(ah aS) _ _ _ _ z];decide))))) (eS (mv 2) (dm (mv 4)) dQ))))) (av (bH (aV (cq a) dE (mv 3) ak (aN _)) (av (oW (mv 7) (mv 2) (mv 4))) (av (bH (aV (cq a) dE (mv 3) ak (aN _)) (av (aP (cZ (mv 0) dQ (dm (mv 8))))) (av (bH (aV (cq a) dE (mv 3) ak (aN _)) (av (aP (gc (gc (cZ (mv 0) dQ (dm (mv 8))) (xT (aw [32,48,45,49,120,10] rfl) (aA d b (ag (mv 1) (ag ak aq))) (λ_ _=>rfl))) (cZ (mv 0) (dm (mv 8)) dQ)))) (av (bH (aV (cq a) dE (mv 3) ak (aN _)) (av (aP (gc (cZ (mv 0) dQ (dm (mv 8))) (cZ (mv 0) (dm (bf bI bY (mv 8) ak)) dQ)))) (av (d6 (hU (mv 2) (mv 7)))))))))))))))))))
  (av (aP (py (sp:=[10]) rfl (cu (mv 2)))))))))))))
theorem pQ (c:mg "int" = none) (b:mg "len" = none):OkD P w K mg base "_law_number" kq 1 ["_law_word"] bK 1:=okd ["_law_word", "_law_sign"] λd a=>(aj (bH (MW.mt (fm (aV (cq a) dE (mv 0) (aw [] rfl) (aN _)) (fm (aV E2 kj (ua rfl b (mv 0)) ak (aN _)) (dU (MW.mt (xH (aV (cq a) dE (xT (mv 0) ak (λ_ _=>rfl)) (aw [48] rfl) (aN _)) (dU (aV (dM a) fq (mv 0) (aw [48] rfl) (aN _)) (.inl rfl)))) (.inr rfl))))) (av (aP bR)) a8)
  (aj (oX WA rfl (Ck (mv 0)) a9 (av (bH (aV sU Ao (mv 1) (aw [48,49,50,51,52,53,54,55,56,57] rfl) rfl) (av (aP bR)) a8)))
  (av (aP (zp rfl c (mv 0))))))
theorem wF:ce ["_law_line", "_law_many", "_law_words", "_law_numbers"] ["_law_line", "_law_many"] (aI kJ):=fsc
theorem wG (b:mg "tuple" = none) (g:mg "len" = none) (d:Def P w K mg base "_law_number" 1 1 bK):OkD P w K mg base "_law_tie" kJ 2 ["_law_line", "_law_many"] lH 2:=okd ["_law_line", "_law_many", "_law_words", "_law_numbers"] λe a=>(aj (aG (aR (iw (c:=32) rfl (mv 0))))
  (aj (za (i:=3) wF.nd rfl lc (own:=["_law_word"]) (capn:=[]) (caps:=[]) rfl (ei.a fF.nil) (gv (eS (mv 2) (dm ak) dQ))
   (λh C s H j=>⟨a9,dP,(aA d e (ag (mv 0) aq))⟩))
  (aj (bH (MW.mt (fm (aV (dM a) fq (bi (mv 2) ak (λ_ _=>rfl)) (aw [116,105,101] rfl) (aN _)) (fm (aV (dM a) fq (cj rfl g (cu (mv 2))) ak (aN _)) (fm (aV Ad Iv bR (mv 3) rfl) (dU (cR (oV ji ji kj kj ak (bi (mv 3) ak (λ_ _=>rfl)) ak)) (.inr rfl)))))) (av (aP bR)) a8)
  (aj (bH (cR (oV ji ji kj kj (bi (mv 3) ak (λ_ _=>rfl)) (bi (mv 3) ak (λ_ _=>rfl)) (mv 1))) (av (aP bR)) a8)
  (av (aP (iS rfl b (cu (mv 3)))))))))
theorem pR (c:Def P w K mg base "_law_number" 1 1 bK):OkD P w K mg base "_law_bar_in" kr 2 ["_law_line"] gE 1:=okd ["_law_line", "_law_found"] λb a=>(aj (bH (aV (dM a) fq (cZ (mv 0) dQ (dm ak)) (aw [98,97,114,32] rfl) (aN _)) (av (aP bR)) a8)
  (aj (bH (aV (cq a) dE (cZ (mv 0) (dm ak) (dm ak)) (aw [45] rfl) (aN _)) (aj (aG (aA c b (ag (cZ (mv 0) (dm ak) dQ) aq)))
  (aj (bH (MW.mt (fm (aV kB kD (mv 1) bR (aN _)) (dU (aV (cq a) dE (mv 1) ak (aN _)) (.inr rfl)))) (av (aP bR)) a8)
  (av (aP (bf oF BE ak (mv 1)))))) a8)
  (av (aP (aA c b (ag (cZ (mv 0) (dm ak) dQ) aq))))))
theorem uB (a:mg "len" = none) (i:Def P w K mg base "web_of" 5 4 eX) (e:Def P w K mg base "_law_bar_in" 2 1 gE) (g:Def P w K mg base "_law_tie" 2 2 lH) (h:Def P w K mg base "_law_number" 1 1 bK):OkD P w K mg base "_law_read" nF 6 ["_law_text_here"] fJ 1:=okd ["_law_text_here", "_law_lines_here", "_law_many", "_law_at", "_law_ties", "_law_tie_here", "_law_bars", "_law_stays"] λb d=>(aj (aG (aR (iw (c:=10) rfl (mv 0))))
  (aj (aG (aA h b (ag (cZ (bi (mv 1) ak (λ_ _=>rfl)) (dm ak) dQ) aq)))
  (aj (bH (MW.mt (fm (aV (dM d) fq (cZ (bi (mv 1) ak (λ_ _=>rfl)) dQ (dm ak)) (aw [112,101,111,112,108,101,32] rfl) (aN _)) (fm (aV kB kD (mv 2) bR (aN _)) (dU (cR (oV ji ji kj kj ak (mv 2) ak)) (.inr rfl))))) (av (aP (dL (ag bR (ag ak aq))))) a8)
  (aj (aG ak)
  (aj (aG (aR (bE aq (λ_ _ _ _ z=>by rw[aS _ _ _ _ z];decide))))
  (aj (vH WA (MW.mt (xH (aV ji kj (mv 3) (cj rfl a (cu (mv 1))) (aN _)) (dU (aV (cq d) dE (bi (aR (iw (c:=32) rfl (bi (mv 1) (mv 3) (λ_ _=>rfl)))) ak (λ_ _=>rfl)) (aw [116,105,101] rfl) (aN _)) (.inl rfl)))) (aj (aG (aA g b (ag (bi (mv 1) (mv 3) (λ_ _=>rfl)) (ag (mv 2) aq))))
  (aj (bH (MW.mt (fm (aV kB kD (mv 5) bR (aN _)) (dU (MW.mt (xH (aV (dM d) fq (mv 4) (aR (bE aq (λ_ _ _ _ z=>by rw[aS _ _ _ _ z];decide))) (aN _)) (dU (aV (GE b.units0) GG (j7 (bi (mv 4) nX (λ_ _=>rfl)) dQ (dm ak)) (j7 (mv 5) dQ (dm ak)) (aN _)) (.inl rfl)))) (.inr rfl)))) (av (aP (dL (ag bR (ag (mv 3) aq))))) a8)
  (aj (d6 (hU (mv 4) (mv 5)))
  (av (aG (bf bI bY (mv 3) ak)))))))
  (aj (aG (aR (bE aq (λ_ _ _ _ z=>by rw[aS _ _ _ _ z];decide))))
  (aj (aG (aR (bE aq (λ_ _ _ _ z=>by rw[aS _ _ _ _ z];decide))))
  (aj (vH WA (aV ji kj (mv 3) (cj rfl a (cu (mv 1))) (aN _)) (aj (bH (aV ji kj (cj rfl a (cu (mv 6))) (mv 2) (aN _)) (aj (d6 (hU (mv 6) (aA e b (ag (bi (mv 1) (mv 3) (λ_ _=>rfl)) aq))))
  (av (bH (aV kB kD (bi (mv 6) nX (λ_ _=>rfl)) bR (aN _)) (av (aP (dL (ag bR (ag (mv 3) aq))))) a8))) (av (bH (MW.mt (fm (aV (cq d) dE (cj rfl a (cu (mv 7))) (mv 2) (aN _)) (dU (aV sY BX (bi (mv 1) (mv 3) (λ_ _=>rfl)) (dL (ag (aw [102,114,101,101] rfl) (ag (aw [115,116,97,121,115,32,48] rfl) (ag (aw [115,116,97,121,115,32,49] rfl) aq)))) rfl) (.inr rfl)))) (av (aP (dL (ag bR (ag (mv 3) aq))))) (av (d6 (hU (mv 7) (kW (bE (ag bR (ag ak (ag ak aq))) (λ_ _ _ _ z=>by rw[(ah (ah (ah aS))) _ _ _ _ z];decide)) (zu (aR (bE (ag (aw [102,114,101,101] rfl) (ag (aw [115,116,97,121,115,32,48] rfl) (ag (aw [115,116,97,121,115,32,49] rfl) aq))) (λ_ _ _ _ z=>by rw[(ah (ah (ah aS))) _ _ _ _ z];decide))) (bi (mv 1) (mv 3) (λ_ _=>rfl))) (λ_ _=>rfl))))))))
  (av (aG (bf bI bY (mv 3) ak)))))
  (aj (bH (aV ji kj (cj rfl a (cu (mv 7))) (mv 2) (aN _)) (av (aP (dL (ag bR (ag (cj rfl a (cu (mv 1))) aq))))) a8)
  (av (aP (dL (ag (aA i b (ag (mv 2) (ag (mv 4) (ag (mv 6) (ag (mv 7) aq))))) (ag bR aq)))))))))))))))
theorem lQ:ce ["_law_thing", "_law_found", "_law_line", "error"] ["_law_thing"] (aI jR):=fsc
theorem qP (F0:Fun K "read_many" "read_many" jN f fd) (i:mg "len" = none) (l:Def P w K mg base "is_between" 2 3 aQ) (d:Def P w K mg base "numbers_behind" 4 2 aZ) {k:Tok} (g:mg "MOST_PEOPLE" = some (.int 30 k)) (m:Fy.XDef P w K mg base "NoText" 1):cM P w K mg base (CX2 P w) 5 f fd ["lines"] (Fy.spY K mg dC 1):=by
 refine Fy.fny_mk F0 uy λc A b s H E a => ?_;have j:=vN a;exact(Fy.nss_cons (Fy.ns_of (aG (aA d a (ag (aw [112,101,111,112,108,101] rfl) (ag (bi (mv 0) ak (λ_ _=>rfl)) aq)))))
  (Fy.nss_cons (Fy.ns_if (MW.mt (fm (aV (dM j) fq (cj rfl i (cu (mv 1))) ak (aN _)) (dU (cR (cQ (aA l a (ag (bi (mv 1) ak (λ_ _=>rfl)) (ag ak (ag (kU rfl g) aq)))))) (.inr rfl)))) (Fy.nss_one (Fy.ns_raiseD (n := "NoText") m (a.mono (by decide)) rfl rfl (λR=>ak) (λe o h=>fz h))) Fy.nss_nil)
  (Fy.nss_one (Fy.ns_of (aP (bi (mv 1) ak (λ_ _=>rfl)))))))
theorem qQ (F0:Fun K "read_ties" "read_ties" jO f fd) (i:mg "range" = none) (j:mg "len" = none) (k:mg "tuple" = none) (l:Def P w K mg base "is_next_tie" 1 2 cT) (d:Def P w K mg base "is_tie" 3 2 eo) (g:Def P w K mg base "numbers_behind" 4 2 aZ) (m:Fy.XDef P w K mg base "NoText" 1):cM P w K mg base (CX2 P w) 5 f fd ["lines", "many"] (Fy.spY K mg eg 2):=by
 refine Fy.fny_mk F0 uz λc A b s H E a => ?_;have o:=vN a;exact(Fy.nss_cons (Fy.ns_of (aG (aR (bE aq (λ_ _ _ _ z=>by rw[aS _ _ _ _ z];decide)))))
  (Fy.nss_cons (Fy.ns_for PassesOwn.leaving rfl (mm rfl i ak (cj rfl j (cu (mv 0)))) a9 (Fy.nss_cons (Fy.ns_of (bH (cR (cQ (rY (bi (mv 0) (mv 3) (λ_ _=>rfl)) (aw [116,105,101,32] rfl)))) (av BN) a8))
  (Fy.nss_cons (Fy.ns_of (aG (iS rfl k (cu (aA g a (ag (aw [116,105,101] rfl) (ag (bi (mv 0) (mv 3) (λ_ _=>rfl)) aq)))))))
  (Fy.nss_cons (Fy.ns_if (MW.mt (fm (cR (cQ (aA d a (ag (mv 1) (ag (mv 4) aq))))) (dU (cR (cQ (aA l a (ag (mv 2) (ag (mv 4) aq))))) (.inr rfl)))) (Fy.nss_one (Fy.ns_raiseD (n := "NoText") m (a.mono (by decide)) rfl rfl (λR=>(mv 3)) (λe p h=>fz h))) Fy.nss_nil)
  (Fy.nss_one (Fy.ns_of (d6 (hU (mv 2) (mv 4)))))))))
  (Fy.nss_one (Fy.ns_of (aP (mv 2))))))
theorem wH (F0:Fun K "line_at" "line_at" mK f fd) (d:mg "len" = none) (i:Fy.XDef P w K mg base "NoText" 1):cM P w K mg base (CX2 P w) 3 f fd ["lines", "place"] (Fy.spY K mg b6 2):=by
 refine Fy.fny_mk F0 yk λc A a s H E b => ?_;have g:=vN b;exact(Fy.nss_cons (Fy.ns_if (aV (cq g) dE (mv 1) (cj rfl d (cu (mv 0))) (aN _)) (Fy.nss_one (Fy.ns_raiseD (n := "NoText") i (b.mono (by decide)) rfl rfl (λR=>(mv 1)) (λe j h=>fz h))) Fy.nss_nil)
  (Fy.nss_one (Fy.ns_of (aP (bi (mv 0) (mv 1) (λ_ _=>rfl))))))
theorem qR (F0:Fun K "read_bars" "read_bars" jP f fd) (g:mg "range" = none) (j:mg "len" = none) (d:Def P w K mg base "numbers_behind" 4 2 aZ) (l:Fy.DefY P w K mg base "line_at" 3 2 b6) (o:Fy.XDef P w K mg base "NoText" 1):cM P w K mg base (CX2 P w) 5 f fd ["lines", "start", "many"] (Fy.spY K mg e8 3):=by
 refine Fy.fny_mk F0 lO λc A b s H E a => ?_;have k:=vN a;exact(Fy.nss_cons (Fy.ns_of (aG (aR (bE aq (λ_ _ _ _ z=>by rw[aS _ _ _ _ z];decide)))))
  (Fy.nss_cons (Fy.ns_for PassesOwn.leaving rfl (mm rfl g (mv 1) (bf bI bY (mv 1) (mv 2))) a9 (Fy.nss_cons (Fy.ns_set (i:=5) lO.nd rfl lc (Fy.ne_callG d (a.mono (by decide)) rfl (Fy.na_cons (Fy.ne_of (aw [98,97,114] rfl)) (Fy.na_cons (Fy.ne_call l (a.mono (by decide)) rfl (Fy.na_of (ag (mv 0) (ag (mv 4) aq))) (λv m h=>fz h.xp) Fy.mkFn_ne) (Fy.na_of aq))) zb))
  (Fy.nss_cons (Fy.ns_if (aV (dM k) fq (cj rfl j (cu (mv 5))) ak (aN _)) (Fy.nss_one (Fy.ns_raiseD (n := "NoText") o (a.mono (by decide)) rfl rfl (λR=>(mv 4)) (λe m h=>fz h))) Fy.nss_nil)
  (Fy.nss_one (Fy.ns_of (d6 (Eg (mv 3) (mv 5))))))))
  (Fy.nss_one (Fy.ns_of (aP (mv 3))))))
theorem pS (F0:Fun K "read_stays" "read_stays" i9 f fd) (k:mg "range" = none) {b:Addr} (g:mg "STAYS" = some (.ref b)) (a:px K b [([102,114,101,101],none),([115,116,97,121,115,32,48],some 0),([115,116,97,121,115,32,49],some 1)]) (l:Fy.DefY P w K mg base "line_at" 3 2 b6) (o:Fy.XDef P w K mg base "NoText" 1):cM P w K mg base (CX2 P w) 4 f fd ["lines", "start", "many"] (Fy.spY K mg eA 3):=by
 refine Fy.fny_mk F0 ku λj A c s H E d => ?_;have p:=vN d;exact(Fy.nss_cons (Fy.ns_of (aG (aR (bE aq (λ_ _ _ _ z=>by rw[aS _ _ _ _ z];decide)))))
  (Fy.nss_cons (Fy.ns_for PassesOwn.leaving rfl (mm rfl k (mv 1) (bf bI bY (mv 1) (mv 2))) a9 (Fy.nss_cons (Fy.ns_set (i:=5) ku.nd rfl lc (Fy.ne_call l (d.mono (by decide)) rfl (Fy.na_of (ag (mv 0) (ag (mv 4) aq))) (λv m h=>fz h.xp) Fy.mkFn_ne))
  (Fy.nss_cons (Fy.ns_if (As (T:=[([102,114,101,101],none),([115,116,97,121,115,32,48],some 0),([115,116,97,121,115,32,49],some 1)]) rfl g a (mv 5) rfl) (Fy.nss_one (Fy.ns_raiseD (n := "NoText") o (d.mono (by decide)) rfl rfl (λR=>(mv 4)) (λe m h=>fz h))) Fy.nss_nil)
  (Fy.nss_one (Fy.ns_of (d6 (hU (mv 3) (Ct (T:=[([102,114,101,101],none),([115,116,97,121,115,32,48],some 0),([115,116,97,121,115,32,49],some 1)]) rfl g a (mv 5)))))))))
  (Fy.nss_one (Fy.ns_of (aP (mv 3))))))
theorem uC (F0:Fun K "read_web" "read_web" kI f fd) (d:mg "len" = none) (k:mg "isinstance" = none) (r:mg "str" = none) (u:Def P w K mg base "web_of" 5 4 eX) (p:Fy.DefY P w K mg base "read_stays" 4 3 eA) (q:Fy.DefY P w K mg base "read_bars" 5 3 e8) (o:Fy.DefY P w K mg base "read_ties" 5 2 eg) (m:Fy.DefY P w K mg base "read_many" 5 1 dC) (j:Fy.XDef P w K mg base "NoText" 1):cM P w K mg base (CX2 P w) 6 f fd ["text"] (Fy.spY K mg bS 1):=by
 refine Fy.fny_mk F0 fL λl A g s H E a => ?_;have x:=vN a;exact(Fy.nss_cons (Fy.ns_if (cR (cQ (iV (t:=.str) rfl k rfl r (by decide +kernel) (mv 0)))) (Fy.nss_one (Fy.ns_raiseD (n := "NoText") j (a.mono (by decide)) rfl rfl (λR=>ak) (λe b h=>fz h))) Fy.nss_nil)
  (Fy.nss_cons (Fy.ns_of (aG (aR (iw (c:=10) rfl (mv 0)))))
  (Fy.nss_cons (Fy.ns_set (i:=2) fL.nd rfl lc (Fy.ne_call m (a.mono (by decide)) rfl (Fy.na_of (ag (mv 1) aq)) (λv b h=>fz h.xp) Fy.mkFn_ne))
  (Fy.nss_cons (Fy.ns_set (i:=3) fL.nd rfl lc (Fy.ne_call o (a.mono (by decide)) rfl (Fy.na_of (ag (mv 1) (ag (mv 2) aq))) (λv b h=>fz h.xp) Fy.mkFn_ne))
  (Fy.nss_cons (Fy.ns_set (i:=4) fL.nd rfl lc (Fy.ne_call q (a.mono (by decide)) rfl (Fy.na_of (ag (mv 1) (ag (bf bI bY ak (cj rfl d (cu (mv 3)))) (ag (mv 2) aq)))) (λv b h=>fz h.xp) Fy.mkFn_ne))
  (Fy.nss_cons (Fy.ns_set (i:=5) fL.nd rfl lc (Fy.ne_call p (a.mono (by decide)) rfl (Fy.na_of (ag (mv 1) (ag (bf bI bY (bf bI bY ak (cj rfl d (cu (mv 3)))) (mv 2)) (ag (mv 2) aq)))) (λv b h=>fz h.xp) Fy.mkFn_ne))
  (Fy.nss_cons (Fy.ns_of (aG (bf bI bY (bf bI bY ak (cj rfl d (cu (mv 3)))) (bf iO iQ ak (mv 2)))))
  (Fy.nss_cons (Fy.ns_if (aV E2 kj (cj rfl d (cu (mv 1))) (mv 6) (aN _)) (Fy.nss_one (Fy.ns_raiseD (n := "NoText") j (a.mono (by decide)) rfl rfl (λR=>(mv 6)) (λe b h=>fz h))) Fy.nss_nil)
  (Fy.nss_one (Fy.ns_of (aP (aA u a (ag (mv 2) (ag (mv 3) (ag (mv 4) (ag (mv 5) aq))))))))))))))))
theorem uD (B:mg "isinstance" = none) (D:mg "ValueError" = none) (y:mg "bool" = none) {d c t n l o p k m r:Addr} (A:mg "MostError" = some (.ref d)) (s:mg "NoText" = some (.ref c)) (F:mg "NoOrder" = some (.ref t)) (L:mg "NoPeople" = some (.ref n)) (v:mg "NoRest" = some (.ref l)) (H:mg "NoRow" = some (.ref o)) (u:mg "NoStand" = some (.ref p)) (G:mg "NoWeb" = some (.ref k)) (E:mg "TooLong" = some (.ref m)) (x:mg "TooMuch" = some (.ref r)) (h:PySem.W.subIn K (.ref d) (.type "BaseException")=some true) (e:(PySem.W.clsIn K d).isSome=true) (g:PySem.W.typeIn K (.ref d)=some (.type "type")) (b:PySem.W.subIn K (.ref c) (.ref d)=some true) (Z:wl K c "line") (I:PySem.W.kitAny K (.ref c) [.ref t,.ref n,.ref l,.ref o,.ref p,.ref k,.ref m,.ref r] = some false) (C:PySem.W.kitOne K (.ref c) (.ref c)=some true) (kV:PySem.W.kitOne K (.ref c) (.type "ValueError")=some true) (z:Fy.DefY P w K mg base "read_web" 6 1 bS):OkD P w K mg base "_law_said" jR 7 ["_law_thing"] fK 1:=okd ["_law_thing", "_law_found", "_law_line", "error"] λJ M=>(aj (aG bR)
  (aj (aG bR)
  (aj (Fy.ms_tryL (i:=1) (j:=3) (il:=2) (nn := "NoText") rfl z (J.mono (by decide)) rfl (λq R=>(ag (mv 0) aq)) Fy.mkFn_ne (λq a=>Fy.hand_ok lQ.nd rfl rfl rfl rfl (by decide) rfl B rfl D rfl y rfl s (jH rfl F (jH rfl L (jH rfl v (jH rfl H (jH rfl u (jH rfl G (jH rfl E (jH rfl x Ee)))))))) rfl Z I C kV (by show 8<=sizeLine;decide)) (by decide) s b rfl rfl A rfl h e g lQ.nd rfl rfl rfl rfl)
  (av (aP (dL (ag (mv 1) (ag (mv 2) aq))))))))
theorem G3 (h:mg "range" = none) (c:mg "list" = none) (e:Def P w K mg base "read_web" 6 1 (Fy.gd bS)) (d:Def P w K mg base "_law_said" 7 1 fK) (k:Def P w K mg base "_law_digit" 1 2 aJ) (g:Def P w K mg base "_law_read" 6 1 fJ) (i:Def P w K mg base "_law_spoiled" 2 2 fI) (j:Def P w K mg base "_law_state" 1 2 cK) (m:Def P w K mg base "_law_text" 1 1 lG) (n:Def P w K mg base "web_of" 5 4 eX) (l:Def P w K mg base "_law_people" 2 1 gz):OkD P w K mg base "law" sD 8 ["_law_script"] zD 1:=okd ["_law_script", "_law_told", "_law_web", "_law_text_here", "_law_k", "_law_state_here", "_law_spoiled_here", "_law_thing"] λa b=>(aj (aG (aA l a (ag (mv 0) aq)))
  (aj (aG (aA n a (ag (bi (mv 1) ak (λ_ _=>rfl)) (ag (aR (tM rfl c (cu (bi (mv 1) ak (λ_ _=>rfl))))) (ag (aR (tM rfl c (cu (bi (mv 1) ak (λ_ _=>rfl))))) (ag (aR (tM rfl c (cu (bi (mv 1) ak (λ_ _=>rfl))))) aq))))))
  (aj (aG (aA m a (ag (mv 1) aq)))
  (aj (bH (MW.mt (fm (aV (dM b) fq (aA e a (ag (mv 3) aq) (hnp:=Fy.gd_np)) (mv 2) (aN _)) (dU (aV (dM b) fq (aA g a (ag (mv 3) aq)) (dL (ag (mv 2) (ag bR aq))) (aN _)) (.inr rfl)))) (av (aP nh)) a8)
  (aj (oX WA rfl (iu rfl h ak) a9 (aj (aG (aA j a (ag (mv 0) (ag (bf bI bY ak (mv 4)) aq))))
  (aj (aG (aA i a (ag (mv 3) (ag (mv 5) aq))))
  (aj (bH (aV (dM b) fq (aA d a (ag (mv 6) aq)) (aA g a (ag (mv 6) aq)) (aN _)) (av (aP nh)) a8)
  (aj (aG (kW (bE (ag bR (ag ak (ag nh (ag (aR (bE (ag (mv 3) aq) (λ_ _ _ _ z=>by rw[(ah aS) _ _ _ _ z];decide))) (ag (dL (ag (mv 3) aq)) (ag (mv 2) (ag zg aq))))))) (λ_ _ _ _ z=>by rw[(ah (ah (ah (ah (ah (ah (ah aS))))))) _ _ _ _ z];decide)) (aA k a (ag (mv 5) (ag ak aq))) (λ_ _=>rfl)))
  (av (bH (aV (dM b) fq (aA d a (ag (mv 7) aq)) (dL (ag bR (ag ak aq))) (aN _)) (av (aP nh)) a8)))))))
  (av (aP (gs (cq b) dE (aA e a (ag (mv 3) aq) (hnp:=Fy.gd_np)) (mv 2) (aN _)))))))))
end
theorem C5 {α : Type}(us:List α)(c:us.length=2):∃a b,us=[a,b]:=match us,c with | [a,b],_=>⟨a,b,rfl⟩
theorem G4 {l:PySem.W.OpenLaw} {w:T4} {K:ZW} {h:Heap} {mg:Str->Option T0} {fa j a iJ gP jX l9 iK ma iL iM:Addr} (X:K.In h) (G:h.Ns mainGlobals mg) (V:mg "law" = some (.ref fa)) (yF:At K "is_whole" pM) (uZ:At K "is_between" lI) (u4:At K "is_opinion" lJ) (DB:At K "is_tie" wA) (u5:At K "neighbours" i8) (wX:At K "bars_told" nC) (u6:At K "stays_told" lK) (DC:At K "web_of" wB) (wY:At K "is_number" nD) (m8:At K "numbers_behind" iF) (wZ:At K "read_many" jN) (qW:At K "is_next_tie" kn) (w8:At K "read_ties" jO) (Ba:At K "line_at" mK) (w9:At K "read_bars" jP) (u7:At K "read_stays" i9) (yG:At K "read_web" kI) (va:At K "_law_state" lL) (vc:At K "_law_digit" lM) (yH:At K "_law_bar" pN) (qX:At K "_law_people" ko) (xa:At K "_law_text" nE) (vd:At K "_law_lines" ja) (qi:At K "_law_spoiled" jQ) (qZ:At K "_law_number" kq) (yI:At K "_law_tie" kJ) (q8:At K "_law_bar_in" kr) (xb:At K "_law_read" nF) (xc:At K "_law_said" jR) (IZ:At K "law" sD) (ve:Nb K "isinstance") (Hs:Nb K "bool") (Ja:Nb K "int") (Jb:Nb K "len") (EV:Nb K "tuple") (EW:Nb K "range") (Ht:Nb K "list") (Jc:Nb K "all") (DD:Nb K "sorted") (Jd:Nb K "str") (Je:Nb K "max") (Jf:Nb K "min") (vf:Nb K "ValueError") {ia:Tok} (rc:PySem.W.nsIn K mainGlobals "MOST_WEIGHT" = some (some (.int 400 ia))) {eB:Tok} (re:PySem.W.nsIn K mainGlobals "MOST_PEOPLE" = some (some (.int 30 eB))) {gJ:Tok} (qj:PySem.W.nsIn K mainGlobals "MOST_FIGURES" = some (some (.int 60 gJ)))
  {mY:Tok} (Bb:PySem.W.nsIn K mainGlobals "FIGURES" = some (some (.str (PySem.Str.ofString "0123456789") mY)))
  {b:Addr} (EX:PySem.W.nsIn K mainGlobals "STAYS" = some (some (.ref b))) (d:px K b [([102,114,101,101],none),([115,116,97,121,115,32,48],some 0),([115,116,97,121,115,32,49],some 1)])
  {I g:ClassData} {F:Addr} {Hu Hv:Option Addr} {Hw:Array (Option T0)} {Hx Hy Hz HA DE HC:T0}
  (xg:PySem.W.nsIn K mainGlobals "MostError" = some (some (.ref j)))
  (DF:PySem.W.nsIn K mainGlobals "NoText" = some (some (.ref a)))
  (Bc:PySem.W.nsIn K mainGlobals "NoOrder" = some (some (.ref iJ)))
  (yJ:PySem.W.nsIn K mainGlobals "NoPeople" = some (some (.ref gP)))
  (DG:PySem.W.nsIn K mainGlobals "NoRest" = some (some (.ref jX)))
  (EY:PySem.W.nsIn K mainGlobals "NoRow" = some (some (.ref l9)))
  (Bd:PySem.W.nsIn K mainGlobals "NoStand" = some (some (.ref iK)))
  (EZ:PySem.W.nsIn K mainGlobals "NoWeb" = some (some (.ref ma)))
  (Be:PySem.W.nsIn K mainGlobals "TooLong" = some (some (.ref iL)))
  (Bf:PySem.W.nsIn K mainGlobals "TooMuch" = some (some (.ref iM)))
  (E:PySem.W.subIn K (.ref j) (.type "BaseException")=some true)
  (C:PySem.W.clsIn K j=some I)
  (H:PySem.W.typeIn K (.ref j)=some (.type "type"))
  (o:PySem.W.subIn K (.ref a) (.ref j)=some true)
  (B:PySem.W.findIn K (.ref a) "__getattribute__" = some (some (.builtin "BaseException.__getattribute__")))
  (R:PySem.W.findIn K (.ref a) "__getattr__" = some none)
  (N:PySem.W.findIn K (.ref a) "__class__" = some (some (.builtin "object.__class__")))
  (L:PySem.W.subIn K (.ref a) (.type "BaseException")=some true)
  (M:PySem.W.mroIn K a (.type "object")=some true)
  (i:PySem.W.clsIn K a=some g)
  (O:PySem.W.findIn K (.ref a) "__setattr__" = some (some (.builtin "object.__setattr__")))
  (m:PySem.W.hasDictIn K a=true)
  (A:PySem.W.findIn K (.ref a) "line" = some none)
  (Q:PySem.W.kitAny K (.ref a) [.ref iJ,.ref gP,.ref jX,.ref l9,.ref iK,.ref ma,.ref iL,.ref iM] = some false)
  (z:PySem.W.kitOne K (.ref a) (.ref a)=some true)
  (J:PySem.W.kitOne K (.ref a) (.type "ValueError")=some true)
  (JS:PySem.W.findIn K (.ref a) "__init__" = some (some (.ref F)))
  (Jg:K.lookup F=some ⟨Hx,Hu,.func (PySem.W.fnOf "__init__" "NoText.__init__" (cG wC) (bT wC) (aI wC) .none Hy Hz HA Hv DE HC),Hw⟩)
  (Jh:PySem.W.codeIn K DE "NoText.__init__" = true)
  (Ji:PySem.W.keepIn K (.ref F)=true)
  (t:g.mro=.ref a :: .ref j :: veM)
  (D:PySem.W.takerIn K a "line" = some none)
  (r:Fy.excInI K a F IG "ValueError.__new__" = true):∃fd:FuncData,(∀(s:T1) (v:T0),BindsTo s fd ⟨[v],[]⟩ [("_law_script",v)])/\∀base:Heap,K.In base->base.Ns mainGlobals mg->cM l.prog w K mg base CX0 8 fa fd ["_law_script"] (spF K zD 1):=by
 obtain⟨f,od,HF,sl,oc,HG,HH,HI,HJ,HK,e,Jj,Jk,Jl⟩:=IZ;have e:=V.symm.trans (YK X G e);cases e;have Jm:=xG (st:=sD) Jj Jk Jl;have p:=YE X G ve;have mX:=YE X G Hs;have W:=YE X G Ja;have c:=YE X G Jb;have x:=YE X G EV;have n:=YE X G EW;have S:=YE X G Ht;have T:=YE X G Jc;have iI:=YE X G DD;have ky:=YE X G Jd;have Dz:=YE X G Je;have DA:=YE X G Jf;have jg:=YE X G vf;have ib:=YK X G rc;have dI:=YK X G re;have gK:=YK X G qj;have mZ:=YK X G Bb;have oq:=YK X G EX;have jY:=YK X G xg;have jZ:=YK X G DF;have m4:=YK X G Bc;have kM:=YK X G yJ;have qf:=YK X G DG;have uX:=YK X G EY;have m5:=YK X G Bd;have uY:=YK X G EZ;have m6:=YK X G Be;have m7:=YK X G Bf;refine⟨PySem.W.fnOf "law" "law" (cG sD) (bT sD) (aI sD) .none HG HH HI HF HJ HK,λs v=>.of_eq rfl,λbase KB _ => ?_⟩;have q:En l.prog w K mg base:=⟨h,X,G⟩;have Fi:=xG (st:=wC) Jg Jh Ji;have Jn:=Fi.binds (ps:=["self", "line"]) λ_ _ _ _ _ _ us hl=>by obtain⟨_,_,rfl⟩:=C5 us hl;rfl
 have Zs:uh K a j "line" := ⟨O,by rw[i];exact congrArg some t,D,m⟩;have u:Fy.XDef l.prog w K mg base "NoText" 1:=⟨a,j,F,_,_,Fy.own_inI KB jZ r,Et (P:=l.prog) (w:=w) (mg:=mg) (base:=base) (k:=0) Fi G2 rfl rfl rfl (by decide) (by decide),Jn,Zs⟩;have Zg:wl K a "line" := ⟨⟨B,R,N,L,M,by rw[i];rfl⟩,m,A⟩;have ql:=yF.df1 q (wD p mX W).ok;have y:=uZ.df3 q (qH ql).ok;have vg:=u4.df1 q (qI y).ok;have xh:=DB.df2 q (AR c p x ib y).ok;have vh:=u5.df2 q (qK n p S xh).ok;have xi:=wX.df2 q (uw x T c p S ql).ok;have vk:=u6.df2 q (qL x T c p S n vg).ok;have qm:=DC.df4 q (AS x iI dI vk xi vh y).ok;have xj:=wY.df1 q (ux T c mZ gK y).ok;have Y:=m8.df2 q (lN W T xj).ok;have rg:=qW.df2 q pO.ok;have md:=va.df2 q (qM c).ok;have Z:=vc.df2 q qN.ok;have yK:=yH.df3 q wE.ok;have rk:=qX.df1 q (pP n c yK Z md).ok;have xk:=xa.df1 q (uA ky iI Dz DA).ok;have vm:=vd.df0 q λU=>qO U;have qo:=qi.df2 q (nQ c Z vm).ok;have ie:=qZ.df1 q (pQ W c).ok;have yL:=yI.df2 q (wG x c ie).ok;have rl:=q8.df1 q (pR ie).ok;have xl:=xb.df1 q (uB c qm rl yL ie).ok;have xm:=wZ.dy1 q λU=>qP U c y Y dI u;have xn:=w8.dy2 q λU=>qQ U n c x rg xh Y u;have sP:=Ba.dy2 q λU=>wH U c u;have xo:=w9.dy3 q λU=>qR U n c Y sP u;have vn:=u7.dy3 q λU=>pS U n oq d sP u;have qp:=yG.dy1 q λU=>uC U c p ky qm vn xo xn xm u;have yM:=qp.good;have xq:=xc.df1 q (uD p jg mX jY jZ m4 kM qf uX m5 uY m6 m7 E (by rw[C];rfl) H o Zg Q z J qp).ok;exact(G3 (P:=l.prog) (w:=w) (base:=base) n S yM xq Z xl qo md xk qm rk).ok Jm
end Fm
namespace Fm
def dg (n:Nat):List Nat:=(Nat.toDigits 10 n).map Char.toNat
theorem G5:∀n < 10,dg n=[48 + n]:=by decide +kernel
variable {n:Nat}
theorem lU (h:n < 10):dg n=[48 + n]:=G5 n h
theorem dgc (h:n < 10):(n.digitChar).toNat=48 + n:=by
 have:=lU h;rw[dg,Nat.toDigits_of_lt_base h]at this;simpa using this
theorem uE (h:10<=n):dg n=dg (n / 10)++[48 + n % 10]:=by
 rw[dg,Nat.toDigits_of_base_le (by omega) h,ZQ,ZZ,Y8,dgc (Nat.mod_lt _ (by omega)),dg]
theorem C6 (n:Nat)(h:n < 10 ^ 60):1<=(dg n).length/\(dg n).length<=60:=by
 rw[dg,ZA];exact⟨Nat.length_toDigits_pos,(Nat.length_toDigits_le_iff (by omega) (by omega)).mpr h⟩
theorem ym (n:Nat):∀c∈dg n,48<=c/\c<=57:=by
 induction n using Nat.strongRecOn with
 | ind n b =>
  intro c a
  by_cases h:n < 10
  ·rw[lU h]at a;simp at a;omega
  ·rw[uE (by omega)]at a
   rcases Z0.mp a with a|a
   ·exact b (n / 10) (by omega) c a
   ·simp at a;omega
theorem G6 (n:Nat):lh (dg n)=n:=by
 induction n using Nat.strongRecOn with
 | ind n a =>
  by_cases h:n < 10
  ·rw[lU h];simp[lh]
  ·rw[uE (by omega),lh,List.foldl_append]
   have:=a (n / 10) (by omega);rw[lh]at this;rw[this];simp;omega
theorem EE (n:Nat):∃c r,dg n=c :: r/\(n≠0->c≠48)/\(n=0->c=48/\r=[]):=by
 induction n using Nat.strongRecOn with
 | ind n a =>
  by_cases h:n < 10
  ·exact⟨48 + n,[],lU h,λz=>by omega,λz=>⟨by omega,rfl⟩⟩
  ·obtain⟨c,r,e,b,_⟩:=a (n / 10) (by omega)
   exact⟨c,r++[48 + n % 10],by rw[uE (by omega),e];rfl,λ_=>b (by omega),λz=>by omega⟩
def tx (i:Int):List Nat:=zk (toString i)
theorem G7 (n:Nat):tx (n:Int)=dg n:=by
 have e:toString (n:Int)=n.repr:=by rw[Int.toString_eq_repr,Int.repr_eq_if,yD (by omega),XW]
 rw[tx,zk,e,Nat.repr_eq_ofList_toDigits,String.toList_ofList,dg]
theorem G8 (h:0 < n):tx (-(n:Int))=45 :: dg n:=by
 have e:toString (-(n:Int)) = "-" ++ n.repr:=by rw[Int.toString_eq_repr,Int.repr_eq_if,wR (by omega)];congr 2;omega
 rw[tx,zk,e,String.toList_append,Nat.repr_eq_ofList_toDigits,dg,ZQ];simp only[String.toList_ofList];rfl
theorem yn (i:Int):tx i=dg i.natAbs/\0<=i\/tx i=45 :: dg i.natAbs/\i < 0:=by
 by_cases h:0<=i
 ·refine .inl ⟨?_,h⟩
  have:=G7 i.natAbs;rwa[show ((i.natAbs:Nat):Int)=i by omega]at this
 ·refine .inr ⟨?_,by omega⟩
  have:=G8 (n:=i.natAbs) (by omega);rwa[show -((i.natAbs:Nat):Int)=i by omega]at this
theorem yo (i:Int):∀c∈tx i,c=45\/(48<=c/\c<=57):=by
 intro c a;rcases yn i with ⟨e,_⟩|⟨e,_⟩<;>rw[e]at a
 ·exact .inr (ym _ c a)
 ·rcases wU.mp a with z|a
  ·exact .inl z
  ·exact .inr (ym _ c a)
theorem hZ (i:Int)(h:i.natAbs < 10 ^ 60):1<=(tx i).length/\(tx i).length<=61:=by
 have:=C6 _ h;rcases yn i with ⟨e,_⟩|⟨e,_⟩<;>rw[e]
 ·omega
 ·simp;omega
theorem G9 {i:Int}(h:i.natAbs < 10 ^ 60):i.natAbs.log2 < 1920:=by
 by_cases z:i.natAbs=0
 ·rw[z];decide
 ·exact(Nat.log2_lt z).mpr (ZY h (ZL (show 10 ^ 60<=2 ^ 200 by decide) (Nat.pow_le_pow_right (by decide) (by decide))))
variable {h h1:Hd}{σ:Sd}
theorem pT {a:EF}{i:Int}(p:a σ h=.ok (.int i) h1)(b:i.natAbs < 10 ^ 60):kH a σ h=.ok (.str (tx i)) h1:=by
 show Res.bind _ _=_;rw[p];exact yD (G9 b)
theorem lV {a b:EF}{c:Hd}{x y:List Nat}(p:a σ h=.ok (.str x) h1)(q:b σ h1=.ok (.str y) c)(l:x.length + y.length<=1000000):ao ft a b σ h=.ok (.str (x++y)) c :=
 ar p q (yD l)
theorem sE:∀l:List (List Nat),kl (l.map D.str)=some l
 | []=>rfl
 | x :: l=>by simp only[ZZ,kl,sE l,XE]
theorem uF {k:Nat}:∀{l:List (List Nat)},(∀x∈l,x.length<=k)->(l.map (·.length)).sum<=k * l.length
 | [],_=>by simp
 | x :: l,h=>by
  have h1:=h x (by simp);have b:=uF (l:=l) λy a=>h y (by simp[a]);have e:k * (x :: l).length=k * l.length + k:=by rw[ZX,Nat.mul_succ]
  rw[ZZ,List.sum_cons,e];omega
theorem pU {sp:Nat}{a:LF}{L:List (List Nat)}(p:a σ h=.ok (L.map D.str) h1)(b:∀x∈L,x.length<=200)(l:L.length<=1100):iZ [sp] a σ h=.ok (.str (bP [sp] L)) h1:=by
 have:=uF b;show Res.bind _ _=_;rw[p];show (match kl (L.map D.str) with|some c=>_|none=>_)=_;rw[sE];exact yD (by simp only[ZX,Z3];omega)
abbrev dD:List Nat:=[112,101,111,112,108,101]
abbrev cX:List Nat:=[116,105,101]
abbrev wI:List Nat:=[98,97,114]
def line (w:List Nat) (l:List Int):List Nat:=bP [32] (w :: l.map tx)
def nR (t:Tie):List Nat:=line cX [(t.a:Int),t.b,t.w]
def lY (b:Int):List Nat:=line wI [b]
def gF:Option Int->List Nat
 | none=>[102,114,101,101]
 | some x=>[115,116,97,121,115,32]++tx x
def cH (n:Nat) (T:List Tie) (bs:List Int) (ss:List (Option Int)):List (List Nat):=line dD [(n:Int)] :: (T.map nR++(bs.map lY++ss.map gF))
theorem big {i:Int}(h0:0<=i)(h1:i<=400):i.natAbs < 10 ^ 60:=ZR (show i.natAbs<=400 by omega) (by decide)
structure TS (n:Nat) (t:Tie):Prop where
 a:(t.a:Int).natAbs < 10 ^ 60
 b:(t.b:Int).natAbs < 10 ^ 60
 w:t.w.natAbs < 10 ^ 60
theorem Ff {T:List Tie}(b:n<=30)(O:TOk n n 0 T){t:Tie}(a:t∈T):TS n t:=by
 have d:=O.lt t a;have c:=O.wt t a;exact⟨big (by omega) (by omega),big (by omega) (by omega),big (by omega) (by omega)⟩
theorem C7 {t:Tie}(h:TS n t):(nR t).length<=200:=by
 have c:=hZ _ h.a;have b:=hZ _ h.b;have a:=hZ _ h.w;simp only[nR,line,bP,ZZ,Y8,ZB,ZX,Z3];omega
theorem C8 {b:Int}(h:b.natAbs < 10 ^ 60):(lY b).length<=200:=by
 have a:=hZ _ h;simp only[lY,line,bP,ZZ,Y8,ZB,ZX,Z3];omega
theorem AT {b:Int}(h:b.natAbs < 10 ^ 60):(line dD [b]).length<=200:=by
 have a:=hZ _ h;simp only[line,bP,ZZ,Y8,ZB,ZX,Z3];omega
theorem AU {o:Option Int}(h:o=none\/o=some 0\/o=some 1):(gF o).length<=200:=by
 rcases h with e|e|e<;>subst e<;>decide +kernel
theorem sF {T:List Tie}{bs:List Int}{ss:List (Option Int)}(d:n<=30)(O:TOk n n 0 T)(lb:bs.length=n)(ls:ss.length=n)(os:∀x∈ss,x=none\/x=some 0\/x=some 1)(bb:∀b∈bs,b.natAbs < 10 ^ 60) :
  (∀x∈cH n T bs ss,x.length<=200)/\(cH n T bs ss).length<=1100:=by
 have f:=O.len;constructor
 ·intro x a
  unfold cH at a;rcases wU.mp a with e|a
  ·rw[e];exact AT (big (by omega) (by omega))
  ·rcases Z0.mp a with a|a
   ·obtain⟨t,c,rfl⟩:=Z2.mp a
    exact C7 (Ff d O c)
   ·rcases Z0.mp a with a|a
    ·obtain⟨t,c,rfl⟩:=Z2.mp a
     exact C8 (bb t c)
    ·obtain⟨t,c,rfl⟩:=Z2.mp a
     exact AU (os t c)
 ·simp only[cH,ZX,ZB,ZA]
  omega
theorem kf {c d:aO}{g:Hd}:(h++c :: g).set h.length d=h++d :: g:=by
 rw[WR _ _ (ZK _),Nat.sub_self];rfl
theorem pV {c d:aO}{g k:Hd}:((h++c :: g)++k).set h.length d=h++d :: (g++k):=by
 rw[ZT,XI,kf]
theorem cz {c:aO}{g:Hd}:(h++c :: g)[h.length]? = some c:=by
 rw[ZD (ZK _),Nat.sub_self];rfl
theorem JR (a b:List Nat)(h:Hd):oEq (.str a) (.str b) h=.ok (.bl (decide (a=b))) h:=rfl
variable {l:List Nat}
theorem mM {a b:EF}{c:Hd}{k:List Nat}(p:a σ h=.ok (.str l) h1)(q:b σ h1=.ok (.str k) c):gX a b σ h=.ok (.bl (decide (k.length<=l.length) && (l.take k.length == k))) c:=by
 show Res.bind _ _=_;rw[p,az];show Res.bind _ _=_;rw[q];rfl
theorem wJ {a:EF}(p:a σ h=.ok (.str l) h1)(q:l.length<=1000000/\l.all (· < 128)=true):tZ a σ h=.ok (l.map λc=>D.str [c],none) h1:=by
 show Res.bind _ _=_;rw[p,az];exact yD q
theorem uG {a:EF}(p:a σ h=.ok (.str l) h1)(q:l.length<=1000000):nz a σ h=.ok (.int l.length) h1:=by
 show Res.bind _ _=_;rw[p,az];exact yD q
abbrev FG:List Nat:=[48,49,50,51,52,53,54,55,56,57]
theorem Ha:∀k < 10,48 + k∈FG:=by decide
variable {c:Nat}
theorem C9 (h:48<=c/\c<=57):c∈FG:=by
 have e:=Ha (c - 48) (by omega);rwa[show 48 + (c - 48)=c by omega]at e
theorem zE {a:EF}{n:Int}(p:a σ h=.ok (.str l) h1)(q:l.length<=600)(r:pf l=some n):rT a σ h=.ok (.int n) h1:=by
 show Res.bind _ _=_;rw[p,az];show (if l.length<=600 then (match pf l with|some n=>Res.ok (D.int n) h1|none=>.bad) else .bad)=_;rw[yD q,r]
theorem iG {a:EF}(p:a σ h=.ok (.str l) h1)(q:l.length<=1000000):dY c a σ h=.ok ((aX c l).map D.str) h1:=by
 show Res.bind _ _=_;rw[p,az];exact yD q
theorem mO {a:EF}{x:D}{l:List D}(p:a σ h=.ok (.ref n) h1)(q:h1[n]? = some (.lst (x :: l))):cP a (pAt (fC (.int 1))) pNo σ h=.ok (.ref h1.length) (h1++[.lst l]):=by
 have e:cut (x :: l) (some 1) none=l:=by
  simp[cut,sIx]
 show Res.bind _ _=_;rw[p,az];simp only[pAt,fC,az,pNo,cU,q,e]
theorem uH {i:Int}(h:c≠45)(a : ¬(48<=c/\c<=57)):c∉tx i:=λz=>by
 rcases yo i c z with e|e
 ·exact h e
 ·exact a e
theorem sG {sp:Nat}:∀{L:List (List Nat)},(bP [sp] L).length<=(L.map (·.length)).sum + L.length
 | []=>ZK _
 | [x]=>by simp[bP]
 | x :: y :: r=>by
  have a:=sG (sp:=sp) (L:=y :: r);rw[bP,ZB,ZB,ZZ,List.sum_cons,ZX];simp only[ZX,Z3]at a ⊢;omega
def isN (w:List Nat):Prop:=w≠[]/\w.length<=60/\(w.head? = some 48->w=[48])/\∀c∈w,48<=c/\c<=57
instance (w:List Nat):Decidable (isN w):=by unfold isN;exact inferInstance
def num (w:List Nat):Option Nat:=if isN w then some (lh w) else none
def sn:List Nat->Option Int
 | 45 :: f=>(num f).bind λn=>if n=0 then none else some (-(n:Int))
 | w=>(num w).map Int.ofNat
def jb:Option Nat->D
 | none=>.non
 | some n=>.int n
structure Tx (l:List Nat):Prop where
 ln:l.length<=99999
 as:∀c∈l,c < 128
variable {w:List Nat}
theorem jS (h:num w=some n):isN w/\lh w=n:=by
 unfold num at h;split at h
 ·exact⟨‹_›,ZS h⟩
 ·cases h
theorem wK (h:isN w):Am w=true:=by
 obtain⟨b,_,_,a⟩:=h;simp only[Am,Z4,X2,YN];refine⟨?_,a⟩;cases w with
 | nil=>exact absurd rfl b
 | cons=>rfl
theorem zF (h:num w=some n):pf w=some (n:Int):=by
 obtain⟨a,d⟩:=jS h;have f:=wK a;obtain⟨_,_,_,b⟩:=a;cases w with
 | nil=>cases f
 | cons c r =>
  have:=b c (by simp);rw[pf,wR (by omega),yD f,d]
theorem Da (h:num w=some 0):w=[48]:=by
 obtain⟨⟨i,k,f,g⟩,e⟩:=jS h;cases w with
 | nil=>exact absurd rfl i
 | cons c r =>
  by_cases z:c=48
  ·subst z;exact f rfl
  ·exfalso
   have l:=g c (by simp);have:∀(r:List Nat) (a:Nat),1<=a->1<=r.foldl (λb c=>b * 10 + (c - 48)) a:=λr=>by
    induction r with
    | nil=>exact λa h=>h
    | cons d r j=>intro a h;refine j (a * 10 + (d - 48)) ?_;omega
   have:=this r (0 * 10 + (c - 48)) (by omega);unfold lh at e;rw[List.foldl_cons]at e;omega
theorem Db {i:Int}(h:sn w=some i):pf w=some i/\w.length<=61/\∀c∈w,c=45\/48<=c/\c<=57:=by
 unfold sn at h;split at h
 ·rename_i f
  obtain⟨n,d,b⟩:=Option.bind_eq_some_iff.mp h;split at b
  ·cases b
  ·cases b
   obtain⟨a,j⟩:=jS d;refine⟨by rw[pf,yD rfl,yD (wK a),j],by have:=a.2.1;simp;omega,λc g => ?_⟩;rcases wU.mp g with e|e
   ·exact .inl e
   ·exact .inr (a.2.2.2 c e)
 ·obtain⟨n,d,b⟩:=YS.mp h
  subst b;obtain⟨a,j⟩:=jS d;exact⟨zF d,by have:=a.2.1;omega,λc g=>.inr (a.2.2.2 c g)⟩
theorem jc:sn w=some (n:Int) ↔ num w=some n:=by
 unfold sn;split
 ·rename_i f
  constructor
  ·intro h
   obtain⟨m,b,a⟩:=Option.bind_eq_some_iff.mp h;split at a
   ·cases a
   ·have:=ZS a
    omega
  ·intro h
   have:=(jS h).1.2.2.2 45 (by simp);omega
 ·constructor
  ·intro h
   obtain⟨m,b,a⟩:=YS.mp h;have a:(m:Int)=n:=a;rw[b];congr 1;omega
  ·intro h;rw[h];rfl
theorem Fg {i:Int}(b:i.natAbs < 10 ^ 60):sn (tx i)=some i:=by
 have g:=C6 _ b;have k:=ym i.natAbs;obtain⟨c,r,d,l,h⟩:=EE i.natAbs;have a:isN (dg i.natAbs):=⟨by rw[d];simp,g.2,λe=>by
  rw[d]at e ⊢;have e:c=48:=by simpa using e
  by_cases z:i.natAbs=0
  ·obtain⟨_,j⟩:=h z;rw[e,j]
  ·exact absurd e (l z),k⟩
 have f:num (dg i.natAbs)=some i.natAbs:=by unfold num;rw[yD a,G6]
 rcases yn i with ⟨e,z⟩|⟨e,z⟩
 ·rw[e]
  have:sn (dg i.natAbs)=some ((i.natAbs:Nat):Int):=jc.mpr f;rw[this];congr 1;omega
 ·rw[e]
  show (num (dg i.natAbs)).bind _=_;rw[f];show (if i.natAbs=0 then none else some (-(i.natAbs:Int)))=_;rw[wR (by omega)];congr 1;omega
theorem Dc (c:Nat):decide (c∈FG)=decide (48<=c/\c<=57):=by
 by_cases h:48<=c/\c<=57
 ·rw[x8 h,x8 (C9 h)]
 ·rw[y0 h]
  refine y0 λz=>h ?_;simp at z;omega
theorem wL {w:D}{all:List D}(h:Hd):∀(r:List Nat) (y:Option D),(∀c∈r,48<=c/\c<=57)/\(∃i,cJ none all (gN 1) cO (r.map λc=>D.str [c]) [some w,y] h=.nx [some w,i] h)\/
  (¬ ∀c∈r,48<=c/\c<=57)/\cJ none all (gN 1) cO (r.map λc=>D.str [c]) [some w,y] h=.rt .non h
 | [],y=>.inl ⟨by simp,y,by simp[cJ]⟩
 | c :: r,y=>by
  by_cases a:48<=c/\c<=57
  ·have e:cJ none all (gN 1) cO ((c :: r).map λc=>D.str [c]) [some w,y] h=cJ none all (gN 1) cO (r.map λc=>D.str [c]) [some w,some (.str [c])] h:=by
    rw[ZZ,cJ,rL,yD trivial];have:cO [some w,some (.str [c])] h=.nx [some w,some (.str [c])] h:=cW (aE (ar rfl rfl (by show Res.ok (D.bl (!decide (c∈FG))) h=_;rw[x8 (C9 a)];rfl)));simp only[gN,List.set_cons_succ,List.set_cons_zero,this]
   rcases wL (w:=w) (all:=all) h r (some (.str [c])) with ⟨g,i,f⟩|⟨g,f⟩
   ·exact .inl ⟨λd b=>by rcases wU.mp b with e|e;exact e ▸ a;exact g d e,i,e.trans f⟩
   ·exact .inr ⟨λz=>g λd b=>z d (ZV _ b),e.trans f⟩
  ·refine .inr ⟨λz=>a (z c (by simp)),?_⟩
   rw[ZZ,cJ,rL,yD trivial];have:cO [some w,some (.str [c])] h=.rt .non h:=(dN (aE (ar rfl rfl (by show Res.ok (D.bl (!decide (c∈FG))) h=_;rw[Dc,y0 a];rfl)))).trans rfl;simp only[gN,List.set_cons_succ,List.set_cons_zero,this]
theorem at0 {a:EF}{r:List Nat}(p:a σ h=.ok (.str (c :: r)) h1)(ln:(c :: r).length<=1000000):pk a (fC (.int 0)) σ h=.ok (.str [c]) h1:=by
 refine ar p rfl ?_;show (if (c :: r).length<=1000000 then (match ixN (c :: r).length 0 with|some j=>(match (c :: r)[j]? with|some c=>Res.ok (D.str [c]) h1|none=>.bad)|none=>.bad) else .bad)=_;have b:ixN (c :: r).length 0=some 0:=by simp[ixN]
 rw[yD ln,b];rfl
theorem kg (t:Tx w)(h:Hd):bK [.str w] h=.ok (jb (num w)) h:=by
 have G:=t.ln;have C:(∀c∈w,48<=c/\c<=57)/\(∃B,nN (tZ (aa 0)) (gN 1) cO [some (.str w),none] h=.nx [some (.str w),B] h)\/(¬ ∀c∈w,48<=c/\c<=57)/\nN (tZ (aa 0)) (gN 1) cO [some (.str w),none] h=.rt .non h:=by
  have u:tZ (aa 0) [some (.str w),none] h=.ok (w.map λc=>D.str [c],none) h:=wJ rfl ⟨by omega,X2.mpr λc E=>by have:=t.as c E;simp;omega⟩;rcases wL (w:=.str w) (all:=w.map λc=>D.str [c]) h w none with ⟨g,y,d⟩|⟨g,d⟩
  ·exact .inl ⟨g,y,mE u d⟩
  ·exact .inr ⟨g,mE u d⟩
 have p:nz (aa 0) [some (.str w),none] h=.ok (.int w.length) h:=uG rfl (by omega);have k : ¬isN w->jb (num w)=.non:=λz=>by unfold num;rw[wR z];rfl
 by_cases i:w=[]
 ·subst i
  rw[k λz=>z.1 rfl];exact(bJ rfl rfl (cx ((dN (c8 (aE (ar rfl rfl rfl)))).trans rfl))).trans aU
 have n:tE (ao oEq (aa 0) (fC (.str []))) [some (.str w),none] h=.ok false h:=aE (ar rfl rfl (by rw[JR,y0 i]))
 by_cases g:60 < w.length
 ·rw[k λz=>by have:=z.2.1;omega]
  exact(bJ rfl rfl (cx ((dN (bA n (c8 (aE (ar p rfl (GT (by omega))))))).trans rfl))).trans aU
 have v:tE (ao oGt (nz (aa 0)) (fC (.int 60))) [some (.str w),none] h=.ok false h:=aE (ar p rfl (GU (by omega)));obtain⟨c,r,j⟩ : ∃c r,w=c :: r:=by cases w with|nil=>exact absurd rfl i|cons c r=>exact⟨c,r,rfl⟩
 have x:pk (aa 0) (fC (.int 0)) [some (.str w),none] h=.ok (.str [c]) h:=at0 (r:=r) (by rw[j];rfl) (by rw[<-j];omega);have e:ao oEq (pk (aa 0) (fC (.int 0))) (fC (.str [48])) [some (.str w),none] h=.ok (.bl (decide ([c] = [48]))) h:=ar x rfl rfl;have f:ao oNe (aa 0) (fC (.str [48])) [some (.str w),none] h=.ok (.bl (!decide (w=[48]))) h:=ar rfl rfl rfl
 by_cases d:c=48/\w≠[48]
 ·rw[k λz=>d.2 (z.2.2.1 (by rw[j,d.1];rfl))]
  rw[x8 (by rw[d.1])]at e;rw[y0 d.2]at f;exact(bJ rfl rfl (cx ((dN (bA n (bA v (i5 (aE e) (aE f))))).trans rfl))).trans aU
 have F:jr (tE (ao oEq (pk (aa 0) (fC (.int 0))) (fC (.str [48])))) (tE (ao oNe (aa 0) (fC (.str [48])))) [some (.str w),none] h=.ok false h:=by
  by_cases z:c=48
  ·have A:w=[48]:=Classical.byContradiction λy=>d ⟨z,y⟩
   rw[x8 (by rw[z])]at e;rw[x8 A]at f;exact i5 (aE e) (aE f)
  ·rw[y0 (by simpa using z)]at e
   exact ly (aE e)
 have s:=(cW (a:=bx (fC .non)) (b:=bB) (bA n (bA v F))).trans (show bB [some (.str w),none] h=.nx [some (.str w),none] h from rfl);rcases C with ⟨l,y,q⟩|⟨l,q⟩
 ·have m:isN w:=⟨i,by omega,λz=>Classical.byContradiction λy=>d ⟨by rw[j]at z;simpa using z,y⟩,l⟩
  have o:num w=some (lh w):=by unfold num;rw[yD m]
  rw[o];exact(bJ rfl rfl (sx s (sx q (bc (zE rfl (by omega) (zF o)))))).trans aU
 ·rw[k λz=>l z.2.2.2]
  exact(bJ rfl rfl (sx s (cx q))).trans aU
theorem EG (l:List Nat)(h:Hd):cV none (l.map λc=>D.str [c]) (gN 0) [] (ao An (aa 0) (fC (.str FG))) (l.map λc=>D.str [c]) [none] h=.ok (l.map λc=>D.bl (decide (48<=c/\c<=57))) h:=by
 have:=cE (g:=none) (all:=l.map λc=>D.str [c]) (tg:=gN 0) (cs:=[]) (e:=ao An (aa 0) (fC (.str FG))) (h:=h) (I:=λσ=>∃a,σ = [a]) (λ_=>true) (λd=>match d with | .str [c]=>.bl (decide (48<=c/\c<=57))|_=>.non) trivial (xs:=l.map λc=>D.str [c]) (σ:=[none]) (by
  rintro x b σ ⟨a,rfl⟩;obtain⟨c,f,rfl⟩:=Z2.mp b;refine⟨_,rfl,⟨_,rfl⟩,rfl,λ_=>ar rfl rfl ?_⟩;show Res.ok (D.bl (decide (c∈FG))) h=_;rw[Dc]) ⟨_,rfl⟩
 rw[this,YR.mpr (by simp),YI];rfl
theorem pW {α : Type}(f : α->Bool):∀l:List α,jj (l.map λc=>D.bl (f c))=some (l.map f)
 | []=>rfl
 | x :: l=>by rw[ZZ,jj,pW f l];rfl
theorem uI (t:Tx w)(h:Hd):eI [.str w] h=.ok (.bl (sn w).isSome) h:=by
 have B:=t.ln;obtain⟨f,g,d,A⟩ : ∃f,∃g:Bool,(w=if g then 45 :: f else f)/\(sn w).isSome=(decide (isN f) && (!g || !decide (f=[48])))/\((g=false)->∀r,f≠45 :: r):=by
  by_cases z:∃f,w=45 :: f
  ·obtain⟨f,rfl⟩:=z
   refine⟨f,true,rfl,?_,λz=>by cases z⟩;show ((num f).bind _).isSome=_
   by_cases j:isN f
   ·have l:num f=some (lh f):=by unfold num;rw[yD j]
    rw[l,x8 j];show (if lh f=0 then none else some (-(lh f:Int))).isSome=_
    by_cases p:lh f=0
    ·rw[p]at l
     rw[yD p,Da l];rfl
    ·rw[wR p,y0 (λz=>p (by rw[z];rfl))];rfl
   ·have l:num f=none:=by unfold num;rw[wR j]
    rw[l,y0 j];rfl
  ·refine⟨w,false,rfl,?_,λ_ r e=>z ⟨r,e⟩⟩
   have:sn w=(num w).map Int.ofNat:=by
    unfold sn;split
    ·exact absurd ⟨_,rfl⟩ z
    ·rfl
   rw[this];unfold num;split<;>rename_i j
   ·rw[x8 j];rfl
   ·rw[y0 j];rfl
 obtain⟨A,u⟩:=A;have H:f.length<=100000:=by rw[d]at B;split at B<;>first|omega|(rw[ZX]at B;omega)
 have G:∀c∈f,c < 128:=λc v=>t.as c (by rw[d];split<;>simp[v]);have x:aB (gN 1) (fIf (tE (gX (aa 0) (fC (.str [45])))) (nZ (aa 0) (pAt (fC (.int 1))) pNo) (aa 0)) [some (.str w),none] h=.nx [some (.str w),some (.str f)] h:=by
  cases g with
  | false =>
   have d:w=f:=d;rw[d];refine aH ((GW (aE ((mM rfl rfl).trans ?_))).trans rfl);cases f with
   | nil=>rfl
   | cons c r =>
    have:c≠45:=λz=>u rfl r (by rw[z]);simp[this]
  | true =>
   have d:w=45 :: f:=d;rw[d];refine aH ((GV (h1:=h) (aE ((mM rfl rfl).trans ?_))).trans ?_)
   ·simp
   ·show (if (45 :: f).length<=1000000 then (match xR (45 :: f) (some 1) none with|some y=>Res.ok (D.str y) h|none=>.bad) else .bad)=_
    rw[yD (by simp;omega)];have:xR (45 :: f) (some 1) none=some f:=by
     show (if (0:Int)<=1/\(1:Int)<=(45 :: f).length then some (List.drop 1 (45 :: f)) else none)=_;rw[yD (by simp only[ZX];omega)];rfl
    rw[this]
 rw[A];have n:au aQ (ae (nz (aa 1)) (ae (fC (.int 1)) (ae (fC (.int 60)) am))) [some (.str w),some (.str f)] h=.ok (.bl (decide ((1:Int)<=f.length) && decide ((f.length:Int)<=60))) h:=aD (ai (uG rfl (by omega)) (ai rfl (ai rfl rfl))) (b8 _ _ _ _)
 by_cases b:1<=f.length/\f.length<=60
 ·rw[x8 (by omega),x8 (by omega)]at n
  have C:=(cW (a:=bx (fC (.bl false))) (b:=bB) (bu (aE n))).trans (show bB [some (.str w),some (.str f)] h=.nx [some (.str w),some (.str f)] h from rfl);have o:vE (cB 1 [] (tZ (aa 1)) (gN 0) [] (ao An (aa 0) (fC (.str FG)))) [some (.str w),some (.str f)] h=.ok (.bl ((f.map λc=>decide (48<=c/\c<=57)).all id)) h :=
   uo (d8 (wJ rfl ⟨by omega,X2.mpr λc v=>by have:=G c v;simp;omega⟩) (EG f h)) (pW _ f)
  by_cases dg:∀c∈f,48<=c/\c<=57
  ·have:(f.map λc=>decide (48<=c/\c<=57)).all id=true:=by simp;exact dg
   rw[this]at o;have F:=(cW (a:=bx (fC (.bl false))) (b:=bB) (bu (aE o))).trans (show bB [some (.str w),some (.str f)] h=.nx [some (.str w),some (.str f)] h from rfl);obtain⟨c,r,i⟩ : ∃c r,f=c :: r:=by cases f with|nil=>simp at b|cons c r=>exact⟨c,r,rfl⟩
   have E:pk (aa 1) (fC (.int 0)) [some (.str w),some (.str f)] h=.ok (.str [c]) h:=at0 (r:=r) (by rw[i];rfl) (by rw[<-i];omega);have s:ao oNe (pk (aa 1) (fC (.int 0))) (fC (.str [48])) [some (.str w),some (.str f)] h=.ok (.bl (!decide ([c] = [48]))) h:=ar E rfl rfl;have m:ao oEq (aa 0) (fC (.str [48])) [some (.str w),some (.str f)] h=.ok (.bl (decide (w=[48]))) h:=ar rfl rfl rfl;refine(bJ rfl rfl (sx x (sx C (sx F (bc (iz (b:=decide (isN f) && (!g || !decide (f=[48]))) ?_)))))).trans aU
   by_cases z:c=48
   ·rw[x8 (by rw[z])]at s
    refine bA (aE s) ?_
    by_cases y:w=[48]
    ·rw[x8 y]at m
     have:g=false:=by cases g with|false=>rfl|true=>rw[y]at d;cases d
     subst this;have d:w=f:=d;have k:(decide (isN f) && (!false || !decide (f=[48])))=true:=by rw[<-d,y];decide
     rw[k];exact aE m
    ·rw[y0 y]at m
     have:(decide (isN f) && (!g || !decide (f=[48])))=false:=by
      cases g with
      | false =>
       have d:w=f:=d;rw[y0 (λq=>y (by rw[d];exact q.2.2.1 (by rw[i,z];rfl)))];rfl
      | true =>
       by_cases q:isN f
       ·rw[x8 (q.2.2.1 (by rw[i,z];rfl))];simp
       ·rw[y0 q];rfl
     rw[this];exact aE m
   ·rw[y0 (by simpa using z)]at s
    have:(decide (isN f) && (!g || !decide (f=[48])))=true:=by
     rw[x8 ⟨by rw[i];simp,b.2,λq=>absurd (by rw[i]at q;simpa using q) z,dg⟩,y0 (by rw[i];simp[z])];simp
    rw[this];exact c8 (aE s)
  ·have:(f.map λc=>decide (48<=c/\c<=57)).all id=false:=by
    rw[<-Bool.not_eq_true];intro q;exact dg (by simpa using q)
   rw[this]at o;rw[y0 (λq=>dg q.2.2.2)];exact(bJ rfl rfl (sx x (sx C (cx ((dN (bu (aE o))).trans rfl))))).trans aU
 ·have:(decide ((1:Int)<=f.length) && decide ((f.length:Int)<=60))=false:=by
   rw[<-Bool.not_eq_true];intro q;simp at q;omega
  rw[this]at n;rw[y0 (λq=>b ⟨by have:=q.1;cases f with|nil=>exact absurd rfl this|cons=>simp,q.2.1⟩)];exact(bJ rfl rfl (sx x (cx ((dN (bu (aE n))).trans rfl)))).trans aU
theorem eK (c:Nat):∀l,aX c l≠[]
 | []=>by simp[aX]
 | x :: l=>by
  have:=eK c l;rw[aX];split
  ·simp
  ·split<;>simp
theorem jd {r:List (List Nat)}(h:r≠[]):bP [c] (w :: r)=w++c :: bP [c] r:=by
 cases r with
 | nil=>exact absurd rfl h
 | cons x r=>rw[bP];simp
theorem yp {x:Nat}{r:List (List Nat)}:bP [c] ((x :: w) :: r)=x :: bP [c] (w :: r):=by
 cases r with
 | nil=>rfl
 | cons y r=>rw[bP,bP];simp
theorem join_split (c:Nat):∀l,bP [c] (aX c l)=l
 | []=>rfl
 | x :: l=>by
  have a:=join_split c l;have ne:=eK c l;rw[aX];split
  ·rename_i b
   rw[jd ne,a,b];rfl
  ·split
   ·rename_i w r e
    rw[yp,<-e,a]
   ·rename_i e;exact absurd e ne
theorem split_free {c:Nat}:∀{l:List Nat} {w:List Nat},w∈aX c l->c∉w/\(∀x∈w,x∈l)/\w.length<=l.length
 | [],w,h=>by
  rw[aX]at h;rw[Z5.mp h];simp
 | x :: l,w,h=>by
  rw[aX]at h;split at h
  ·rcases wU.mp h with e|e
   ·rw[e];simp
   ·obtain⟨h1,a,f⟩:=split_free e
    exact⟨h1,λy b=>ZV _ (a y b),by simp;omega⟩
  ·rename_i g
   split at h
   ·rename_i v r e
    rcases wU.mp h with d|d
    ·obtain⟨h1,a,f⟩:=split_free (l:=l) (w:=v) (by rw[e];simp)
     rw[d];refine⟨λz => ?_,λy b => ?_,by simp;omega⟩
     ·rcases wU.mp z with z|z
      ·exact g z.symm
      ·exact h1 z
     ·rcases wU.mp b with z|z
      ·rw[z];simp
      ·exact ZV _ (a y z)
    ·obtain⟨h1,a,f⟩:=split_free (l:=l) (w:=w) (by rw[e];exact ZV _ d)
     exact⟨h1,λy b=>ZV _ (a y b),by simp;omega⟩
   ·rename_i e;exact absurd e (eK c l)
theorem kh (c:Nat):∀l,(aX c l).length<=l.length + 1
 | []=>by simp[aX]
 | x :: l=>by
  have a:=kh c l;rw[aX];split
  ·simp;omega
  ·split
   ·rename_i w r e;rw[e]at a;simp at a ⊢;omega
   ·simp
theorem Tx.part (t:Tx l)(h:w∈aX c l):Tx w:=by
 obtain⟨_,b,a⟩:=split_free h;exact⟨ZL a t.ln,λx d=>t.as x (b x d)⟩
def nb (wd l:List Nat):List Int:=match aX 32 l with
 | w0 :: r=>if w0=wd/\(∀w∈r,(sn w).isSome=true) then r.map (λw=>(sn w).getD 0) else []
 | []=>[]
theorem Dd {R:List (List Nat)}(b:∀w∈R,Tx w){k:Nat}(j:h[k]? = some (.lst (R.map D.str))):cV (some k) (R.map D.str) (gN 0) [] (au eI (ae (aa 0) am)) (R.map D.str) [none] h=.ok (R.map λw=>D.bl (sn w).isSome) h:=by
 have:=cE (g:=some k) (all:=R.map D.str) (tg:=gN 0) (cs:=[]) (e:=au eI (ae (aa 0) am)) (h:=h) (I:=λσ=>∃a,σ = [a]) (λ_=>true) (λd=>match d with | .str w=>.bl (sn w).isSome|_=>.non) j (xs:=R.map D.str) (σ:=[none]) (by
  rintro x f σ ⟨a,rfl⟩;obtain⟨c,i,rfl⟩:=Z2.mp f;exact⟨_,rfl,⟨_,rfl⟩,rfl,λ_=>aD (ai rfl rfl) (uI (b c i) h)⟩) ⟨_,rfl⟩
 rw[this,YR.mpr (by simp),YI];rfl
theorem AV {R:List (List Nat)}(b:∀w∈R,(sn w).isSome=true){k:Nat}(o:h[k]? = some (.lst (R.map D.str))):cV (some k) (R.map D.str) (gN 0) [] (rT (aa 0)) (R.map D.str) [none] h=.ok ((R.map λw=>(sn w).getD 0).map .int) h:=by
 have:=cE (g:=some k) (all:=R.map D.str) (tg:=gN 0) (cs:=[]) (e:=rT (aa 0)) (h:=h) (I:=λσ=>∃a,σ = [a]) (λ_=>true) (λd=>match d with | .str l=>.int ((sn l).getD 0)|_=>.non) o (xs:=R.map D.str) (σ:=[none]) (by
  rintro x j σ ⟨a,rfl⟩;obtain⟨c,n,rfl⟩:=Z2.mp j;obtain⟨i,f⟩:=YB.mp (b c n);obtain⟨m,p,_⟩:=Db f;refine⟨_,rfl,⟨_,rfl⟩,rfl,λ_=>(zE rfl (by omega) m).trans ?_⟩;show _=Res.ok (D.int ((sn c).getD 0)) h;rw[f];rfl) ⟨_,rfl⟩
 rw[this,YR.mpr (by simp),YI,YI];rfl
theorem kK (f:List Nat)(t:Tx l)(h:Hd) :
  ∃k g,aZ [.str f,.str l] h=.ok (.ref k) (h++g)/\h.length<=k/\(h++g)[k]? = some (.lst ((nb f l).map .int)):=by
 have len:=t.ln;have G:=kh 32 l;obtain⟨d,R,r⟩ : ∃d R,aX 32 l=d :: R:=by
  cases e:aX 32 l with
  | nil=>exact absurd e (eK _ _)
  | cons a b=>exact⟨a,b,rfl⟩
 have C:∀w∈R,Tx w:=λw H=>t.part (c:=32) (by rw[r];exact ZV _ H);rw[r,ZX]at G;have i:nb f l=if d=f/\(∀w∈R,(sn w).isSome=true) then R.map (λw=>(sn w).getD 0) else []:=by unfold nb;rw[r]
 obtain⟨W,j⟩ : ∃W,W=R.map D.str:=⟨_,rfl⟩;have x:aB (gN 2) (aL (dY 32 (aa 1))) [some (.str f),some (.str l),none] h=.nx [some (.str f),some (.str l),some (.ref h.length)] (h++[.lst (.str d :: W)]):=by
  have q:=iG (c:=32) (a:=aa 1) (σ:=[some (.str f),some (.str l),none]) (h:=h) rfl (by omega);rw[r,ZZ,<-j]at q;exact aH (bo q (by rw[j];simp[SZ];omega))
 have m:ao oNe (fAt (aa 2) (fC (.int 0))) (aa 0) [some (.str f),some (.str l),some (.ref h.length)] (h++[.lst (.str d :: W)])=.ok (.bl (!decide (d=f))) (h++[.lst (.str d :: W)]):=ar (bz rfl rfl (aK cz) (wm _ _)) rfl rfl
 by_cases s:d=f
 ·have B:(h++[aO.lst (.str d :: W)]++[.lst W])[h.length + 1]? = some (.lst W):=by
   have e:h.length + 1=(h++[aO.lst (.str d :: W)]).length:=by simp
   rw[e];exact ZF
  have y:=Dd C (k:=h.length + 1) (h:=h++[aO.lst (.str d :: W)]++[.lst W]) (by rw[<-j];exact B);rw[<-j]at y;have v:cP (aa 2) (pAt (fC (.int 1))) pNo [some (.str f),some (.str l),some (.ref h.length)] (h++[.lst (.str d :: W)])=.ok (.ref (h.length + 1)) (h++[.lst (.str d :: W)]++[.lst W]):=(mO rfl cz).trans (by rw[ZB];rfl);have p:=uo (d8 (nl:=1) (caps:=[]) (eW v B) y) (pW _ R);rw[x8 s]at m
  by_cases o:∀w∈R,(sn w).isSome=true
  ·have:(R.map λw=>(sn w).isSome).all id=true:=by simp;exact o
   rw[this]at p;have E:=(cW (a:=bx (aL am)) (b:=bB) (bA (aE m) (bu (aE p)))).trans (show bB [some (.str f),some (.str l),some (.ref h.length)] (h++[.lst (.str d :: W)]++[.lst W])=_ from rfl);have n:(h++[aO.lst (.str d :: W)]++[.lst W]++[.lst W])[h.length + 2]? = some (.lst W):=by
    have e:h.length + 2=(h++[aO.lst (.str d :: W)]++[aO.lst W]).length:=by simp
    rw[e];exact ZF
   have A:=AV o (k:=h.length + 2) (h:=h++[aO.lst (.str d :: W)]++[aO.lst W]++[aO.lst W]) (by rw[<-j];exact n);rw[<-j]at A;have u:cP (aa 2) (pAt (fC (.int 1))) pNo [some (.str f),some (.str l),some (.ref h.length)] (h++[.lst (.str d :: W)]++[.lst W])=.ok (.ref (h.length + 2)) (h++[.lst (.str d :: W)]++[.lst W]++[.lst W]):=(mO rfl (aC _ cz)).trans (by rw[ZB,ZB];rfl);have F:=bc (bo (d8 (nl:=1) (caps:=[]) (eW u n) A) (by simp[SZ];omega));rw[i,yD ⟨s,o⟩];refine⟨h.length + 3,[aO.lst (.str d :: W),.lst W,.lst W,.lst ((R.map λw=>(sn w).getD 0).map .int)],?_,?_,?_⟩
   ·refine(bJ rfl rfl (sx x (sx E F))).trans ?_
    rw[eE];simp
   ·simp
   ·rw[ZD (by simp)];simp
  ·have:(R.map λw=>(sn w).isSome).all id=false:=by rw[<-Bool.not_eq_true];intro q;exact o (by simpa using q)
   rw[this]at p;rw[i,wR λz=>o z.2];refine⟨h.length + 2,[aO.lst (.str d :: W),.lst W,.lst []],?_,?_,?_⟩
   ·refine(bJ rfl rfl (sx x (cx ((dN (bA (aE m) (bu (aE p)))).trans (bc (bo rfl)))))).trans ?_
    rw[eE];simp
   ·simp
   ·rw[ZD (by simp)];simp
 ·rw[y0 s]at m
  rw[i,wR λz=>s z.1];refine⟨h.length + 1,[aO.lst (.str d :: W),.lst []],?_,?_,?_⟩
  ·refine(bJ rfl rfl (sx x (cx ((dN (c8 (aE m))).trans (bc (bo rfl)))))).trans ?_
   rw[eE];simp
  ·simp
  ·rw[ZD (by simp)];simp
theorem EH {i:Int}(h:sn w=some i):32∉w:=λz=>by
 have:=(Db h).2.2 32 z;omega
theorem Hb {a:List Nat}(f:32∉a)(x:Int):nb a l=[x] ↔ ∃w,l=a++32 :: w/\sn w=some x:=by
 constructor
 ·intro h
  unfold nb at h;split at h
  ·rename_i g r e
   split at h
   ·rename_i d
    obtain⟨rfl,c⟩:=d;obtain⟨w,rfl⟩ : ∃w,r=[w]:=by
     cases r with
     | nil=>cases h
     | cons w r =>
      cases r with
      | nil=>exact⟨w,rfl⟩
      | cons _ _=>simp at h
    obtain⟨i,b⟩:=YB.mp (c w (by simp));have h : [(sn w).getD 0] = [x]:=h;rw[b]at h;refine⟨w,?_,by rw[b];simpa using h⟩;have j:=join_split 32 l;rw[e,jd (by simp)]at j;exact j.symm
   ·cases h
  ·cases h
 ·rintro⟨w,rfl,h⟩
  unfold nb;rw[i0 f,jJ (EH h)];simp[h]
def jT (wd l:List Nat):Option Int:=match nb wd l with | [x]=>some x|_=>none
theorem fA {a:List Nat}{x:Int}:jT a l=some x ↔ nb a l=[x]:=by
 unfold jT;split
 ·rename_i y e;rw[e];simp
 ·rename_i e
  constructor
  ·intro z;cases z
  ·intro z;exact absurd z (e x)
theorem oi {a:List Nat}:l=a++32 :: w ↔ l.take (a.length + 1)=a++[32]/\l.drop (a.length + 1)=w:=by
 constructor
 ·rintro rfl
  have e:a++32 :: w=(a++[32])++w:=by simp
  have d:(a++[32]).length=a.length + 1:=by simp
  rw[e,<-d,List.take_left,List.drop_left];exact⟨rfl,rfl⟩
 ·rintro⟨c,b⟩
  rw[<-List.take_append_drop (a.length + 1) l,c,b];simp
theorem wM {a:List Nat}(f:32∉a):jT a l=if l.take (a.length + 1)=a++[32] then sn (l.drop (a.length + 1)) else none:=by
 apply Option.ext;intro x;rw[fA,Hb f];constructor
 ·rintro⟨w,e,d⟩
  obtain⟨b,c⟩:=oi.mp e;rw[yD b,c];exact d
 ·intro h
  split at h
  ·rename_i b
   exact⟨_,oi.mpr ⟨b,rfl⟩,h⟩
  ·cases h
def dF (l:List Nat):Option Nat:=match jT dD l with
 | some x=>if 1<=x/\x<=30 then some x.toNat else none
 | none=>none
theorem AW (l:List Nat):dF l=if l.take 7=[112,101,111,112,108,101,32] then (match num (l.drop 7) with|some n=>if 0 < n/\n < 31 then some n else none|none=>none) else none:=by
 unfold dF;rw[wM (by decide)];show (match (if l.take 7=[112,101,111,112,108,101,32] then sn (l.drop 7) else none) with|some x=>if 1<=x/\x<=30 then some x.toNat else none|none=>none)=_;split<;>rename_i h
 all_goals by_cases c:l.take 7=[112,101,111,112,108,101,32]
 ·rw[yD c]at h ⊢
  rename_i x
  split
  ·rename_i b
   have e:x=(x.toNat:Int):=by omega
   rw[e]at h;rw[jc.mp h];show _=if 0 < x.toNat/\x.toNat < 31 then some x.toNat else none
   rw[yD (by omega)]
  ·rename_i b
   cases a:num (l.drop 7) with
   | none=>rfl
   | some n =>
    have:=jc.mpr a;rw[h]at this;have:x=n:=ZS this;show none=if 0 < n/\n < 31 then some n else none
    rw[wR (by omega)]
 ·rw[wR c]at h;cases h
 ·rw[yD c]at h ⊢
  cases a:num (l.drop 7) with
  | none=>rfl
  | some n =>
   have:=jc.mpr a;rw[h]at this;cases this
 ·rw[wR c]
def dZ (l:List Nat):Option Int:=jT wI l
structure TL where
 a:Int
 b:Int
 w:Int
def cI (n:Nat) (l:List Nat):Option Tie:=match nb cX l with
 | [a,b,w]=>if 0<=a/\a < b/\b < n/\1<=w/\w<=400 then some ⟨a.toNat,b.toNat,w⟩ else none
 | _=>none
def isT (l:List Nat):Prop:=l.take 4=[116,105,101,32]
instance (l:List Nat):Decidable (isT l):=by unfold isT;exact inferInstance
theorem AX (h:isT l):∃r,aX 32 l=cX :: r:=by
 have:l=cX++32 :: l.drop 4:=oi.mpr ⟨h,rfl⟩;rw[this,i0 (by decide)];exact⟨_,rfl⟩
theorem yq {r:List (List Nat)}(e:aX 32 l=cX :: r)(h : ¬isT l):l=cX:=by
 have j:=join_split 32 l;rw[e]at j;cases r with
 | nil=>exact j.symm
 | cons w r =>
  rw[jd (by simp)]at j;exact absurd (oi.mp j.symm).1 h
theorem De (n:Nat):cI n cX=none:=by
 have:nb cX cX=[]:=by decide
 unfold cI;rw[this]
theorem Df:dZ cX=none:=by
 have:nb wI cX=[]:=by decide
 unfold dZ jT;rw[this]
theorem Tx.take (t:Tx l)(k:Nat):Tx (l.take k):=⟨ZL (List.length_take_le' _ _) t.ln,λc a=>t.as c (W0 a)⟩
theorem Tx.drop (t:Tx l)(k:Nat):Tx (l.drop k):=⟨by rw[Z9];have:=t.ln;omega,λc a=>t.as c (W1 a)⟩
theorem Dg {a:EF}{j:EF}{k:Nat}(p:a σ h=.ok (.str l) h1)(b:j σ h1=.ok (.int k) h1)(q:l.length<=1000000):br a pNo (pAt j) σ h=.ok (.str (l.take k)) h1:=by
 unfold br;rw[p,az];simp only[pNo,pAt,az,b,qB];rw[yD q,yD (by omega)];simp
theorem oj {a:EF}{j:EF}{k:Nat}(p:a σ h=.ok (.str l) h1)(b:j σ h1=.ok (.int k) h1)(q:l.length<=1000000):br a (pAt j) pNo σ h=.ok (.str (l.drop k)) h1:=by
 unfold br;rw[p,az];simp only[pNo,pAt,az,b,qB];rw[yD q,yD (by omega)];simp
theorem Hc {a:EF}{i j:EF}{m k:Nat}(p:a σ h=.ok (.str l) h1)(c:i σ h1=.ok (.int m) h1)(b:j σ h1=.ok (.int k) h1)(q:l.length<=1000000):br a (pAt i) (pAt j) σ h=.ok (.str ((l.take k).drop m)) h1:=by
 unfold br;rw[p,az];simp only[pAt,az,c,b,qB];rw[yD q,yD (by omega)];simp
theorem AY (t:Tx l)(h:Hd):gE [.str l] h=.ok (bC (dZ l)) h:=by
 have D:=t.ln;have e:dZ l=if l.take 4=[98,97,114,32] then sn (l.drop 4) else none:=wM (by decide)
 have j:ao oNe (br (aa 0) pNo (pAt (fC (.int 4)))) (fC (.str [98,97,114,32])) [some (.str l),none] h=.ok (.bl (!decide (l.take 4=[98,97,114,32]))) h:=ar (Dg (k:=4) rfl rfl (by omega)) rfl rfl
 by_cases c:l.take 4=[98,97,114,32]
 ·rw[x8 c]at j
  rw[e,yD c];have o:=(cW (a:=bx (fC .non)) (b:=bB) (aE j)).trans (show bB [some (.str l),none] h=_ from rfl);have d:ao oEq (br (aa 0) (pAt (fC (.int 4))) (pAt (fC (.int 5)))) (fC (.str [45])) [some (.str l),none] h=.ok (.bl (decide ((l.take 5).drop 4=[45]))) h:=ar (Hc (m:=4) (k:=5) rfl rfl rfl (by omega)) rfl rfl;have s:(l.take 5).drop 4=(l.drop 4).take 1:=by rw[List.drop_take]
  rw[s]at d;obtain⟨w,p⟩ : ∃w,w=l.drop 4:=⟨_,rfl⟩;have B:l.drop 5=w.drop 1:=by rw[p,W2]
  have z:Tx w:=by rw[p];exact t.drop 4
  rw[<-p]at d ⊢;have A:=kg z h;have u:=kg (z.drop 1) h;have C:br (aa 0) (pAt (fC (.int 4))) pNo [some (.str l),none] h=.ok (.str w) h:=by rw[p];exact oj (k:=4) rfl rfl (by omega)
  have r:br (aa 0) (pAt (fC (.int 5))) pNo [some (.str l),none] h=.ok (.str (w.drop 1)) h:=by rw[<-B];exact oj (k:=5) rfl rfl (by omega)
  by_cases g:w.take 1=[45]
  ·rw[x8 g]at d
   obtain⟨f,rfl⟩ : ∃f,w=45 :: f:=by
    cases w with
    | nil=>cases g
    | cons x f =>
     have e:x=45:=by simpa using g
     exact⟨f,by rw[e]⟩
   have u:bK [.str f] h=.ok (jb (num f)) h:=u;have r:br (aa 0) (pAt (fC (.int 5))) pNo [some (.str l),none] h=.ok (.str f) h:=r;have i:aB (gN 1) (au bK (ae (br (aa 0) (pAt (fC (.int 5))) pNo) am)) [some (.str l),none] h=.nx [some (.str l),some (jb (num f))] h:=aH (aD (ai r rfl) u);have q:sn (45 :: f)=(num f).bind λn=>if n=0 then none else some (-(n:Int)):=rfl
   rw[q];cases v:num f with
   | none =>
    rw[v]at i;exact(bJ rfl rfl (sx o (cx ((dN (aE d)).trans (sx i (cx ((dN (c8 (aE (ar rfl rfl rfl)))).trans rfl))))))).trans aU
   | some n =>
    rw[v]at i;show _=Res.ok (bC (if n=0 then none else some (-(n:Int)))) h
    by_cases y:n=0
    ·rw[yD y]
     exact(bJ rfl rfl (sx o (cx ((dN (aE d)).trans (sx i (cx ((dN (bA (aE (ar rfl rfl rfl)) (aE (ar rfl rfl (xY (by omega)))))).trans rfl))))))).trans aU
    ·rw[wR y]
     have:(0:Int) - n = -n:=by omega
     refine(bJ rfl rfl (sx o (cx ((dN (aE d)).trans (sx i (sx (cW (bA (aE (ar rfl rfl rfl)) (aE (ar rfl rfl (ul (by omega)))))) (bc (ar rfl rfl rfl)))))))).trans ?_;show letGo h (.ok (.int (0 - (n:Int))) h)=_;rw[this];exact aU
  ·rw[y0 g]at d
   have q:sn w=(num w).map Int.ofNat:=by
    unfold sn;split
    ·exact absurd rfl g
    ·rfl
   have:bC (sn w)=jb (num w):=by rw[q];cases num w<;>rfl
   rw[this];exact(bJ rfl rfl (sx o (sx (cW (aE d)) (bc (aD (ai C rfl) A))))).trans aU
 ·rw[y0 c]at j
  rw[e,wR c];exact(bJ rfl rfl (cx ((dN (aE j)).trans rfl))).trans aU
theorem EI {g:Option Nat}{all:List D}{tg:GF}{b:SF}{x:D}{xs:List D}{σ' a:Sd}{h':Hd}(c:gq g all h)(t:tg x σ = some σ')(e:b σ' h=.bk a h'):cJ g all tg b (x :: xs) σ h=.nx a h':=by
 rw[cJ,yD c,t];simp only[e]
theorem je {a:EF}{b:Hd}{x y z:D}(p:a σ h1=.ok (.tup [x,y,z]) b):eV a pNo (pAt (fC (.int 2))) σ h1=.ok (.tup [x,y]) b:=by
 show Res.bind _ _=_;rw[p];rfl
theorem kS {l:List D}{x:D}:atI (l++[x]) (-1)=some x:=by
 have e:ixN (l++[x]).length (-1)=some l.length:=by
  unfold ixN;rw[wR (by omega),yD (by simp only[ZB,ZX,Z3];omega)];simp only[ZB,ZX,Z3];congr 1;omega
 unfold atI;rw[e];exact ZF
theorem AZ (X:List Tie):jy (X.map bq)<=20:=ZL (dH (k:=1) (λt=>by simp[bq,dep,jy]) X) (by decide)
theorem mP {a b:EF}{d c:Hd}{m k:Nat}(p:a σ h1=.ok (.int m) d)(q:b σ d=.ok (.int (m + k:Nat)) c)(l:m + k<=1000000):fY a b σ h1=.ok ((List.range k).map (λj:Nat=>D.int ((m + j:Nat):Int)),none) c:=by
 show Res.bind _ _=_;rw[p,az];show Res.bind _ _=_;rw[q];show (if (-1000000<=(m:Int)/\(m:Int)<=1000000)/\-1000000<=((m + k:Nat):Int)/\((m + k:Nat):Int)<=1000000 then _ else _)=_;rw[yD (by omega)];have e:(((m + k:Nat):Int) - m).toNat=k:=by omega
 rw[e];congr 2
theorem sH {d:List Nat}{R:List (List Nat)}(f:aX 32 l=d :: R)(h:d≠cX\/R.length≠3):cI n l=none:=by
 unfold cI nb;rw[f];simp only;split
 ·rename_i a b w e
  split at e
  ·rename_i c
   rcases h with h|h
   ·exact absurd c.1 h
   ·exact absurd (by have:=congrArg List.length e;simpa using this) h
  ·cases e
 ·rfl
theorem wN {x y z:List Nat}(C:aX 32 l=[cX,x,y,z]):cI n l=match num x,num y,num z with
  | some a,some b,some w=>if a < b/\b < n/\0 < w/\w < 401 then some ⟨a,b,w⟩ else none
  | _,_,_=>none:=by
 have j:∀{w:List Nat} {i:Int},sn w=some i->num w=none->i < 0:=λ{w i} A v=>by
  rcases Int.lt_or_le i 0 with z|z
  ·exact z
  ·have e:i=(i.toNat:Int):=by omega
   rw[e]at A;rw[jc.mp A]at v;cases v
 have s:nb cX l=if ((sn x).isSome=true/\(sn y).isSome=true/\(sn z).isSome=true) then [(sn x).getD 0,(sn y).getD 0,(sn z).getD 0] else []:=by
  unfold nb;rw[C];simp
 unfold cI;rw[s]
 by_cases c:(sn x).isSome=true/\(sn y).isSome=true/\(sn z).isSome=true
 ·rw[yD c]
  obtain⟨a,t⟩:=YB.mp c.1;obtain⟨b,r⟩:=YB.mp c.2.1;obtain⟨w,u⟩:=YB.mp c.2.2;rw[t,r,u];show (if 0<=a/\a < b/\b < n/\1<=w/\w<=400 then some (⟨a.toNat,b.toNat,w⟩ : Tie) else none)=_;cases q:num x with
  | none =>
   have:=j t q;rw[wR (by omega)]
  | some m =>
   cases p:num y with
   | none =>
    have:=j r p;rw[wR (by omega)]
   | some f =>
    cases o:num z with
    | none =>
     have:=j u o;rw[wR (by omega)]
    | some g =>
     have D:a=m:=ZS (t.symm.trans (jc.mpr q));have E:b=f:=ZS (r.symm.trans (jc.mpr p));have B:w=g:=ZS (u.symm.trans (jc.mpr o));subst D E B;show _=if m < f/\f < n/\0 < g/\g < 401 then some (⟨m,f,g⟩ : Tie) else none
     by_cases k:m < f/\f < n/\0 < g/\g < 401
     ·rw[yD k,yD (by omega)];rfl
     ·rw[wR k,wR (by omega)]
 ·rw[wR c]
  have d:∀{w:List Nat},(num w).isSome=true->(sn w).isSome=true:=λ{w} h=>by
   obtain⟨k,F⟩:=YB.mp h;rw[jc.mpr F];rfl
  cases q:num x with
  | none=>rfl
  | some m =>
   cases p:num y with
   | none=>rfl
   | some f =>
    cases o:num z with
    | none=>rfl
    | some g=>exact absurd ⟨d (by rw[q];rfl),d (by rw[p];rfl),d (by rw[o];rfl)⟩ c
def jp:Option Tie->D
 | some t=>bq t
 | none=>.non
theorem pX {a b c:EF}{i j k:Int}(p:a σ h=.ok (.int i) h)(q:b σ h=.ok (.int j) h)(r:c σ h=.ok (.int k) h):fN oLt oLt a b c σ h=.ok (.bl (decide (i < j) && decide (j < k))) h:=by
 show Res.bind _ _=_;rw[p,az,q,az];show (Res.ok (D.bl (decide (i < j))) h).bind _=_;rw[az]
 by_cases z:i < j
 ·rw[x8 z]
  show Res.bind _ _=_;rw[r,az];rfl
 ·rw[y0 z];rfl
theorem He {k:Nat}{R:List (List Nat)}(b:h[k]? = some (.lst (R.map λw=>jb (num w)))):oIn .non (.ref k) h=.ok (.bl (R.any λw=>(num w).isNone)) h:=by
 have a:(R.map λw=>jb (num w)).all cN=true:=by
  rw[List.all_map,X2];intro w _;show cN (jb (num w))=true;cases num w<;>rfl
 have c:((R.map λw=>jb (num w)).any λz=>eqF z .non)=R.any λw=>(num w).isNone:=by
  rw[List.any_map];congr 1;funext w;show eqF (jb (num w)) .non=_;cases num w<;>rfl
 unfold oIn inL;simp only[io,b,a,Bool.and_true,cN,Y7,c]
theorem Hf (t:Tx l)(h:Hd):lH [.str l,.int n] h=.ok (jp (cI n l)) h:=by
 have len:=t.ln;have sl:=kh 32 l;obtain⟨f,R,B⟩ : ∃f R,aX 32 l=f :: R:=by
  cases e:aX 32 l with
  | nil=>exact absurd e (eK _ _)
  | cons a b=>exact⟨a,b,rfl⟩
 have tR:∀w∈R,Tx w:=λw hw=>t.part (c:=32) (by rw[B];exact ZV _ hw);rw[B,ZX]at sl;obtain⟨W,H⟩ : ∃W,W=R.map D.str:=⟨_,rfl⟩;obtain⟨N,J⟩ : ∃N,N=R.map λw=>jb (num w):=⟨_,rfl⟩;have s1:aB (gN 2) (aL (dY 32 (aa 0))) [some (.str l),some (.int n),none,none] h=.nx [some (.str l),some (.int n),some (.ref h.length),none] (h++[aO.lst (.str f :: W)]):=by
  have q:=iG (c:=32) (a:=aa 0) (σ:=[some (.str l),some (.int n),none,none]) (h:=h) rfl (by omega);rw[B,ZZ,<-H]at q;exact aH (bo q (by rw[H];simp[SZ];omega))
 have U:(h++[aO.lst (.str f :: W)]++[.lst W])[h.length + 1]? = some (.lst W):=by
  have e:h.length + 1=(h++[aO.lst (.str f :: W)]).length:=by simp
  rw[e];exact ZF
 have X:cV (some (h.length + 1)) W (gN 0) [] (au bK (ae (aa 0) am)) W [none] (h++[aO.lst (.str f :: W)]++[.lst W])=.ok N (h++[aO.lst (.str f :: W)]++[.lst W]):=by
  have:=cE (g:=some (h.length + 1)) (all:=W) (tg:=gN 0) (cs:=[]) (e:=au bK (ae (aa 0) am)) (h:=h++[aO.lst (.str f :: W)]++[.lst W]) (I:=λσ=>∃a,σ = [a]) (λ_=>true) (λd=>match d with | .str w=>jb (num w)|_=>.non) U (xs:=W) (σ:=[none]) (by
   rintro x Q σ ⟨a,rfl⟩;rw[H]at Q;obtain⟨c,hc,rfl⟩:=Z2.mp Q;exact⟨_,rfl,⟨_,rfl⟩,rfl,λ_=>aD (ai rfl rfl) (kg (tR c hc) _)⟩) ⟨_,rfl⟩
  rw[this,YR.mpr (by simp),H,YI,J];rfl
 have M:cP (aa 2) (pAt (fC (.int 1))) pNo [some (.str l),some (.int n),some (.ref h.length),none] (h++[aO.lst (.str f :: W)])=.ok (.ref (h.length + 1)) (h++[aO.lst (.str f :: W)]++[.lst W]):=(mO rfl cz).trans (by rw[ZB];rfl);obtain⟨j,s⟩ : ∃j,j=h++[aO.lst (.str f :: W)]++[.lst W]++[.lst N]:=⟨_,rfl⟩;have V:aB (gN 3) (aL (cB 1 [] (fZ (cP (aa 2) (pAt (fC (.int 1))) pNo)) (gN 0) [] (au bK (ae (aa 0) am)))) [some (.str l),some (.int n),some (.ref h.length),none] (h++[aO.lst (.str f :: W)])=.nx [some (.str l),some (.int n),some (.ref h.length),some (.ref (h.length + 2))] j:=by
  have q:=aH (i:=3) (bo (d8 (nl:=1) (caps:=[]) (eW M U) X) (by rw[J];simp[SZ];omega));rw[ZB,ZB,<-s]at q;exact q
 have Z:∃g,j=h++g:=⟨_,by rw[s,ZT,ZT]⟩;have T:j[h.length]? = some (aO.lst (.str f :: W)):=by rw[s];exact aC _ (aC _ cz)
 have u:j[h.length + 2]? = some (aO.lst N):=by
  have e:h.length + 2=(h++[aO.lst (.str f :: W)]++[aO.lst W]).length:=by simp
  rw[s,e];exact ZF
 have fin:∀{d:D} {b:SF},pure? d=true->b [some (.str l),some (.int n),some (.ref h.length),some (.ref (h.length + 2))] j=.rt d j->bQ 2 4 (ay (aB (Fm.gN 2) (aL (dY 32 (aa 0)))) (ay (aB (Fm.gN 3) (aL (cB 1 [] (fZ (cP (aa 2) (pAt (fC (.int 1))) pNo)) (Fm.gN 0) [] (au bK (ae (aa 0) am))))) b)) [.str l,.int n] h=.ok d h:=λ{d b} hp e=>by
  refine(bJ rfl rfl (sx s1 (sx V e))).trans ?_;obtain⟨g,hg⟩:=Z;rw[hg];exact cD hp
 have o:ao oNe (fAt (aa 2) (fC (.int 0))) (fC (.str cX)) [some (.str l),some (.int n),some (.ref h.length),some (.ref (h.length + 2))] j=.ok (.bl (!decide (f=cX))) j:=ar (bz rfl rfl (aK T) (wm _ _)) rfl rfl;have p:ao oNe (cr (lOf (aa 2))) (fC (.int 4)) [some (.str l),some (.int n),some (.ref h.length),some (.ref (h.length + 2))] j=.ok (.bl (!decide (((.str f :: W).length:Int)=4))) j:=ar (bZ (bG rfl (aK T))) rfl (mF _ _ _);have Y:(.str f :: W:List D).length=R.length + 1:=by rw[H];simp
 rw[Y]at p
 by_cases L:f=cX
 ·rw[x8 L]at o
  by_cases S:R.length=3
  ·rw[x8 (by omega)]at p
   obtain⟨x,y,z,E⟩ : ∃x y z,R=[x,y,z]:=by
    rcases R with _|⟨x,_|⟨y,_|⟨z,_|⟨_,_⟩⟩⟩⟩<;>simp at S
    exact⟨x,y,z,rfl⟩
   have m:=wN (n:=n) (l:=l) (x:=x) (y:=y) (z:=z) (by rw[B,L,E]);have r:ao oIn (fC .non) (aa 3) [some (.str l),some (.int n),some (.ref h.length),some (.ref (h.length + 2))] j=.ok (.bl (R.any λw=>(num w).isNone)) j:=ar rfl rfl (He (by rw[<-J];exact u));cases A:num x with
   | none =>
    rw[A]at m;have:(R.any λw=>(num w).isNone)=true:=by rw[E];simp[A]
    rw[this]at r;rw[m];exact fin (d:=.non) rfl (cx ((dN (bA (aE o) (bA (aE p) (c8 (aE r))))).trans rfl))
   | some a =>
    cases C:num y with
    | none =>
     rw[A,C]at m;have:(R.any λw=>(num w).isNone)=true:=by rw[E];simp[C]
     rw[this]at r;rw[m];exact fin (d:=.non) rfl (cx ((dN (bA (aE o) (bA (aE p) (c8 (aE r))))).trans rfl))
    | some b =>
     cases G:num z with
     | none =>
      rw[A,C,G]at m;have:(R.any λw=>(num w).isNone)=true:=by rw[E];simp[G]
      rw[this]at r;rw[m];exact fin (d:=.non) rfl (cx ((dN (bA (aE o) (bA (aE p) (c8 (aE r))))).trans rfl))
     | some w =>
      rw[A,C,G]at m;have m:cI n l=if a < b/\b < n/\0 < w/\w < 401 then some ⟨a,b,w⟩ else none:=m
      have:(R.any λw=>(num w).isNone)=false:=by rw[E];simp[A,C,G]
      rw[this]at r;have eN:N=[.int a,.int b,.int w]:=by rw[J,E];simp[A,C,G,jb]
      have v:∀{i:Int} {d:D},atI [.int a,.int b,.int w] i=some d->fAt (aa 3) (fC (.int i)) [some (.str l),some (.int n),some (.ref h.length),some (.ref (h.length + 2))] j=.ok d j:=λ{i d} e=>bz rfl rfl (aK (by rw[<-eN];exact u)) e;have F:=pX (a:=fC (.int 0)) (c:=fC (.int 401)) (i:=0) (k:=401) rfl (v (i:=2) (d:=.int w) rfl) rfl;have K:=pX (c:=aa 1) (k:=n) (v (i:=0) (d:=.int a) rfl) (v (i:=1) (d:=.int b) rfl) rfl
      by_cases P:0 < w/\w < 401
      ·have:(decide ((0:Int) < w) && decide ((w:Int) < 401))=true:=by simp;omega
       rw[this]at F
       by_cases O:a < b/\b < n
       ·have:(decide ((a:Int) < b) && decide ((b:Int) < n))=true:=by simp;omega
        rw[this]at K;rw[m,yD ⟨O.1,O.2,P⟩];exact fin (d:=bq ⟨a,b,w⟩) rfl (sx (cW (bA (aE o) (bA (aE p) (bA (aE r) (bu (aE F)))))) (sx (cW (bu (aE K))) (bc (lA (bG rfl (aK (by rw[<-eN];exact u)))))))
       ·have:(decide ((a:Int) < b) && decide ((b:Int) < n))=false:=by rw[<-Bool.not_eq_true];intro q;simp at q;omega
        rw[this]at K;rw[m,wR λq=>O ⟨q.1,q.2.1⟩];exact fin (d:=.non) rfl (sx (cW (bA (aE o) (bA (aE p) (bA (aE r) (bu (aE F)))))) (cx ((dN (bu (aE K))).trans rfl)))
      ·have:(decide ((0:Int) < w) && decide ((w:Int) < 401))=false:=by rw[<-Bool.not_eq_true];intro q;simp at q;omega
       rw[this]at F;rw[m,wR λq=>P q.2.2];exact fin (d:=.non) rfl (cx ((dN (bA (aE o) (bA (aE p) (bA (aE r) (bu (aE F)))))).trans rfl))
  ·rw[y0 (by omega)]at p
   rw[sH B (.inr S)];exact fin (d:=.non) rfl (cx ((dN (bA (aE o) (c8 (aE p)))).trans rfl))
 ·rw[y0 L]at o
  rw[sH B (.inl L)];exact fin (d:=.non) rfl (cx ((dN (c8 (aE o))).trans rfl))
def kx (n:Nat):List Int->Bool
 | [a,b,w]=>decide (0<=a/\a < n/\0<=b/\b < n/\a≠b/\1<=w/\w<=400)
 | _=>false
theorem yr (n:Nat)(L:List Int)(h:Hd):eo [.int n,.tup (L.map .int)] h=.ok (.bl (kx n L)) h:=by
 have p:∀{σ:Sd},dh (tE (ip .tuple (aa 1))) [some (.int n),some (.tup (L.map .int)),none,none] h=.ok false h:=bu (b:=true) (aE rfl);have e:ao oNe (cr (lOf (aa 1))) (fC (.int 3)) [some (.int n),some (.tup (L.map .int)),none,none] h=.ok (.bl (!decide (((L.map D.int).length:Int)=3))) h:=ar (bZ (bG rfl rfl)) rfl (mF _ _ _);rw[ZA]at e
 by_cases c:L.length=3
 ·rw[x8 (by omega)]at e
  obtain⟨a,b,w,rfl⟩ : ∃a b w,L=[a,b,w]:=by
   rcases L with _|⟨x,_|⟨y,_|⟨z,_|⟨_,_⟩⟩⟩⟩<;>simp at c
   exact⟨x,y,z,rfl⟩
  have d:au aQ (ae (aa 2) (ae (fC (.int 0)) (ae (ao tu (aa 0) (fC (.int 1))) am))) [some (.int n),some (.tup ([a,b,w].map .int)),some (.int a),some (.int b)] h=.ok (.bl (decide (0<=a) && decide (a<=n - 1))) h:=aD (ai rfl (ai rfl (ai (ar rfl rfl rfl) rfl))) (b8 _ _ _ _);have g:au aQ (ae (aa 3) (ae (fC (.int 0)) (ae (ao tu (aa 0) (fC (.int 1))) am))) [some (.int n),some (.tup ([a,b,w].map .int)),some (.int a),some (.int b)] h=.ok (.bl (decide (0<=b) && decide (b<=n - 1))) h:=aD (ai rfl (ai rfl (ai (ar rfl rfl rfl) rfl))) (b8 _ _ _ _);have t:au aQ (ae (fAt (aa 1) (fC (.int 2))) (ae (fC (.int 1)) (ae (fC (.int 400)) am))) [some (.int n),some (.tup ([a,b,w].map .int)),some (.int a),some (.int b)] h=.ok (.bl (decide (1<=w) && decide (w<=400))) h:=aD (ai (bz rfl rfl rfl rfl) (ai rfl (ai rfl rfl))) (b8 _ _ _ _);have i:ao oNe (aa 2) (aa 3) [some (.int n),some (.tup ([a,b,w].map .int)),some (.int a),some (.int b)] h=.ok (.bl (!decide (a=b))) h:=ar rfl rfl (mF _ _ _);have j:=(cW (a:=bx (fC (.bl false))) (b:=bB) (bA (p (σ:=[])) (aE e))).trans (show bB [some (.int n),some (.tup ([a,b,w].map .int)),none,none] h=_ from rfl);have l:aB (gN 2) (fAt (aa 1) (fC (.int 0))) [some (.int n),some (.tup ([a,b,w].map .int)),none,none] h=.nx [some (.int n),some (.tup ([a,b,w].map .int)),some (.int a),none] h:=aH (bz rfl rfl rfl rfl);have o:aB (gN 3) (fAt (aa 1) (fC (.int 1))) [some (.int n),some (.tup ([a,b,w].map .int)),some (.int a),none] h=.nx [some (.int n),some (.tup ([a,b,w].map .int)),some (.int a),some (.int b)] h:=aH (bz rfl rfl rfl rfl)
  by_cases k:(0<=a/\a < n)/\0<=b/\b < n
  ·have f:(decide (0<=a) && decide (a<=(n:Int) - 1))=true:=by simp;omega
   have m:(decide (0<=b) && decide (b<=(n:Int) - 1))=true:=by simp;omega
   rw[f]at d;rw[m]at g;have r:=(cW (a:=bx (fC (.bl false))) (b:=bB) (bA (bu (aE d)) (bu (aE g)))).trans (show bB [some (.int n),some (.tup ([a,b,w].map .int)),some (.int a),some (.int b)] h=_ from rfl)
   by_cases ne:a=b
   ·rw[x8 ne]at i
    have:kx n [a,b,w] = false:=y0 λz=>z.2.2.2.2.1 ne;rw[this];exact(bJ rfl rfl (sx j (sx l (sx o (sx r (bc (iz (ly (aE i))))))))).trans aU
   ·rw[y0 ne]at i
    have:kx n [a,b,w] = (decide (1<=w) && decide (w<=400)):=by
     show decide _=_;rw[<-Bool.decide_and];exact decide_eq_decide.mpr ⟨λz=>z.2.2.2.2.2,λz=>⟨k.1.1,k.1.2,k.2.1,k.2.2,ne,z⟩⟩
    rw[this];exact(bJ rfl rfl (sx j (sx l (sx o (sx r (bc (iz (i5 (aE i) (aE t))))))))).trans aU
  ·have:kx n [a,b,w] = false:=y0 λz=>k ⟨⟨z.1,z.2.1⟩,z.2.2.1,z.2.2.2.1⟩
   rw[this];have:tOr (dh (tE (au aQ (ae (aa 2) (ae (fC (.int 0)) (ae (ao tu (aa 0) (fC (.int 1))) am)))))) (dh (tE (au aQ (ae (aa 3) (ae (fC (.int 0)) (ae (ao tu (aa 0) (fC (.int 1))) am)))))) [some (.int n),some (.tup ([a,b,w].map .int)),some (.int a),some (.int b)] h=.ok true h:=by
    by_cases s:0<=a/\a < n
    ·have f:(decide (0<=a) && decide (a<=(n:Int) - 1))=true:=by simp;omega
     have m:(decide (0<=b) && decide (b<=(n:Int) - 1))=false:=by rw[<-Bool.not_eq_true];intro q;simp at q;exact k ⟨s,by omega⟩
     rw[f]at d;rw[m]at g;exact bA (bu (aE d)) (bu (aE g))
    ·have f:(decide (0<=a) && decide (a<=(n:Int) - 1))=false:=by rw[<-Bool.not_eq_true];intro q;simp at q;exact s (by omega)
     rw[f]at d;exact c8 (bu (aE d))
   exact(bJ rfl rfl (sx j (sx l (sx o (cx ((dN this).trans rfl)))))).trans aU
 ·rw[y0 (by omega)]at e
  have:kx n L=false:=by
   unfold kx;split
   ·exact absurd rfl c
   ·rfl
  rw[this];exact(bJ rfl rfl (cx ((dN (bA (p (σ:=[])) (aE e))).trans rfl))).trans aU
def nxt (acc:List Tie) (a b:Int):Bool:=match acc.getLast? with
 | none=>true
 | some s=>lexLt [(s.a:Int),s.b] [a,b]
theorem Dh {A:Nat}{X:List Tie}{i:Nat}(a:h[A]? = some (.lst (X.map bq)))(p:aa i σ h=.ok (.ref A) h):eqG (h++[aO.lst []]) (.ref A) (.ref h.length)=some X.isEmpty:=by
 simp only[eqG,cU,aC _ a,ZF];unfold eqL;rw[yD (AZ X)];cases X with
 | nil=>rfl
 | cons t X=>rfl
theorem Di {A:Nat}{X:List Tie}{a b w:Int}(j:h[A]? = some (.lst (X.map bq))):cT [.ref A,.tup [.int a,.int b,.int w]] h=.ok (.bl (decide (a < b) && nxt X a b)) h:=by
 have c:tE (ao oLt (fAt (aa 1) (fC (.int 0))) (fAt (aa 1) (fC (.int 1)))) [some (.ref A),some (.tup [.int a,.int b,.int w])] h=.ok (decide (a < b)) h:=aE (ar (bz rfl rfl rfl rfl) (bz rfl rfl rfl rfl) rfl);have g:(h++[aO.lst []])[A]? = some (.lst (X.map bq)):=aC _ j;have f:tE (ao oEq (aa 0) (aL am)) [some (.ref A),some (.tup [.int a,.int b,.int w])] h=.ok X.isEmpty (h++[.lst []]):=by
  refine aE (ar rfl (bo rfl) ?_);show (match eqG (h++[aO.lst []]) (.ref A) (.ref h.length) with|some b=>Res.ok (D.bl b) (h++[aO.lst []])|none=>.bad)=_;rw[Dh (σ:=[some (.ref A)]) (i:=0) j rfl]
 by_cases l:a < b
 ·rw[x8 l]at c ⊢
  rw[Bool.true_and];rcases List.eq_nil_or_concat X with e|⟨Y,s,e⟩
  ·rw[e]at f ⊢
   exact(bJ rfl rfl (bc (iz (i5 c (c8 f))))).trans (cD rfl)
  ·have k:X.isEmpty=false:=by rw[e];simp
   rw[k]at f;have nx:nxt X a b=lexLt [(s.a:Int),s.b] [a,b]:=by unfold nxt;rw[e,X6,List.getLast?_concat]
   rw[nx];refine(bJ rfl rfl (bc (iz (i5 c (bA f (aE (ar (je (bz (l:=X.map bq) (d:=bq s) rfl rfl (aK g) (by rw[e,X6,ZQ];exact kS))) (je rfl) rfl))))))).trans (cD rfl)
 ·rw[y0 l]at c ⊢
  exact(bJ rfl rfl (bc (iz (ly c)))).trans aU
theorem zG {X:List Tie}:(∃t,cI n l=some t/\nxt X t.a t.b=true) ↔ kx n (nb cX l)=true/\∃a b w,nb cX l=[a,b,w]/\(decide (a < b) && nxt X a b)=true:=by
 unfold cI;constructor
 ·rintro⟨t,d,f⟩
  split at d
  ·rename_i a b w e
   split at d
   ·rename_i c
    cases d;rw[e];have g:((a.toNat:Nat):Int)=a:=by omega
    have h:((b.toNat:Nat):Int)=b:=by omega
    refine⟨x8 ⟨c.1,by omega,by omega,c.2.2.1,by omega,c.2.2.2⟩,a,b,w,rfl,?_⟩;simp only[g,h]at f;rw[x8 c.2.1,f];rfl
   ·cases d
  ·cases d
 ·rintro⟨d,a,b,w,e,f⟩
  rw[e]at d ⊢;have d:=YC d;rw[Z4,YN]at f;have g:((a.toNat:Nat):Int)=a:=by omega
  have h:((b.toNat:Nat):Int)=b:=by omega
  refine⟨⟨a.toNat,b.toNat,w⟩,yD ⟨d.1,f.1,d.2.2.2.1,d.2.2.2.2.2⟩,?_⟩;simp only[g,h];exact f.2
theorem uJ {t:Tie}(h:cI n l=some t):D.tup ((nb cX l).map .int)=bq t/\t.a < t.b/\t.b < n/\1<=t.w/\t.w<=400:=by
 unfold cI at h;split at h
 ·rename_i a b w e
  split at h
  ·rename_i c
   cases h;rw[e];have f:((a.toNat:Nat):Int)=a:=by omega
   have d:((b.toNat:Nat):Int)=b:=by omega
   refine⟨?_,by show a.toNat < b.toNat;omega,by show b.toNat < n;omega,c.2.2.2⟩;simp only[bq,f,d];rfl
  ·cases h
 ·cases h
end Fm
namespace Fm
open Fy
variable {h h':Hd}{σ:Sd}
theorem jU {f:SF}{σ':Sd}(e:f σ h=.nx σ' h'):sPl f σ h=.nx σ' h':=by unfold sPl;rw[e]
theorem sI {f:SF}{d:D}(e:f σ h=.rt d h'):sPl f σ h=.rt d h':=by unfold sPl;rw[e]
theorem IW {f:SF}{σ':Sd}(e:f σ h=.bk σ' h'):sPl f σ h=.bk σ' h':=by unfold sPl;rw[e]
theorem lZ {α : Type}{f:Sd->Hd->Res α}{a : α}(e:f σ h=.ok a h'):fPl f σ h=.ok a h':=by unfold fPl;rw[e];rfl
variable {b:SF}
theorem yt {t:TF}{a:SF}{o:Out}(e:t σ h=.ok true h')(q:a σ h'=o):iY t a b σ h=o:=by unfold iY;rw[e];exact q
theorem yu {t:TF}{a:SF}(e:t σ h=.ok false h'):iY t a b σ h=b σ h':=by unfold iY;rw[e];rfl
theorem fV {a:SF}{σ':Sd}{x:D}(e:a σ h=.exc x σ' h'):ay a b σ h=.exc x σ' h':=by simp only[ay,e]
theorem IX {a:SF}{σ':Sd}(e:a σ h=.bk σ' h'):ay a b σ h=.bk σ' h':=by simp only[ay,e]
theorem pY {n:String}{f:EF}{d:D}(e:f σ h=.ok d h'):sRaiseL n f σ h=.exc (.exn n [d]) σ h':=by unfold sRaiseL;rw[e]
variable {n:Nat}
theorem jV {c:Nat}{a:List D}{σ':Sd}{x:D}(d:a.length=c)(st:(a.map some++List.replicate (n - a.length) none:Sd) = σ)(e:b σ h=.exc x σ' h'):bQ c n b a h=.exc x h':=by
 unfold bQ runB;rw[yD d,st,e];rfl
theorem yv {i:Nat}{f:EF}{x:D}(e:f σ h=.exc x h'):aB (gN i) f σ h=.exc x σ h':=by unfold aB outE;rw[e]
theorem uK {F:Fn}{r:LF}{h1:Hd}{c:List D}{x:D}(a:r σ h=.ok c h1)(b:F c h1=.exc x h'):au F r σ h=.exc x h':=by
 show Res.bind _ _=_;rw[a,az];exact b
theorem A0 {a:IF}{tg:GF}{h1:Hd}{l:List D}{g:Option Nat}{o:Out}(p:a σ h=.ok (l,g) h1)(q:cJ g l tg b l σ h1=o):li a tg b σ h=o:=by unfold li;rw[p];exact q
theorem om {g:Option Nat}{all:List D}{tg:GF}{x:D}{xs:List D}{σ' a:Sd}{o:Out}(c:gq g all h)(t:tg x σ = some σ')(e:b σ' h=.nx a h')(q:cJ g all tg b xs a h'=o):cJ g all tg b (x :: xs) σ h=o:=by
 rw[cJ,yD c,t];simp only[e];exact q
theorem uL {g:Option Nat}{all:List D}{tg:GF}{x y:D}{xs:List D}{σ' a:Sd}(c:gq g all h)(t:tg x σ = some σ')(e:b σ' h=.exc y a h'):cJ g all tg b (x :: xs) σ h=.exc y a h':=by
 rw[cJ,yD c,t];simp only[e]
theorem pZ (m k:Nat):(List.range (k + 1)).map (λj:Nat=>D.int ((m + j:Nat):Int))=D.int (m:Int) :: (List.range k).map (λj:Nat=>D.int ((m + 1 + j:Nat):Int)):=by
 rw[List.range_succ_eq_map,ZZ,YI];congr 1;apply Y3;intro j _;show D.int _=_;congr 2;omega
abbrev NT (k:Nat):D:=.exn "NoText" [.int k]
theorem EJ {d:List Nat}{R:List D}{lk:Nat}(t:Tx d)(r:h[lk]? = some (.lst (.str d :: R))) :
  (∃n,dF d=some n/\1<=n/\n<=30/\dC [.ref lk] h=.ok (.int n) h)\/(dF d=none/\∃g',dC [.ref lk] h=.exc (NT 0) (h++g')):=by
 obtain⟨k,g,q,v,m⟩:=kK dD t h;have p:sPl (aB (gN 1) (au aZ (ae (fC (.str dD)) (ae (fAt (aa 0) (fC (.int 0))) am)))) [some (.ref lk),none] h=.nx [some (.ref lk),some (.ref k)] (h++g):=jU (aH (aD (dA rfl (bz rfl rfl (aK r) (wm _ _))) q));have f:ao oNe (cr (lOf (aa 1))) (fC (.int 1)) [some (.ref lk),some (.ref k)] (h++g)=.ok (.bl (!decide (((nb dD d).length:Int)=1))) (h++g):=by
  have:=ar (bZ (bG (a:=aa 1) (σ:=[some (.ref lk),some (.ref k)]) rfl (aK m))) (b:=fC (.int 1)) rfl (mF _ _ _);rw[ZA]at this;exact this
 have i:tOr (tE (ao oNe (cr (lOf (aa 1))) (fC (.int 1)))) (dh (tE (au aQ (ae (fAt (aa 1) (fC (.int 0))) (ae (fC (.int 1)) (ae (fC (.int 30)) am)))))) [some (.ref lk),some (.ref k)] (h++g)=.ok true (h++g)->∃g',dC [.ref lk] h=.exc (NT 0) (h++g'):=λe =>
  ⟨g,jV rfl rfl (sx p (fV (yt e (pY rfl))))⟩
 by_cases c:∃x,nb dD d=[x]
 ·obtain⟨x,l⟩:=c
  have o:jT dD d=some x:=fA.mpr l;rw[l]at f m;have at0:fAt (aa 1) (fC (.int 0)) [some (.ref lk),some (.ref k)] (h++g)=.ok (.int x) (h++g):=bz rfl rfl (aK m) rfl;have j:au aQ (ae (fAt (aa 1) (fC (.int 0))) (ae (fC (.int 1)) (ae (fC (.int 30)) am))) [some (.ref lk),some (.ref k)] (h++g)=.ok (.bl (decide (1<=x) && decide (x<=30))) (h++g):=aD (ai at0 (ai rfl (ai rfl rfl))) (b8 _ _ _ _)
  by_cases b:1<=x/\x<=30
  ·have e:(decide (1<=x) && decide (x<=30))=true:=by simp;omega
   rw[e]at j;refine .inl ⟨x.toNat,by unfold dF;rw[o];exact yD b,by omega,by omega,?_⟩;have s:((x.toNat:Nat):Int)=x:=by omega
   rw[s];exact(bJ rfl rfl (sx p (sx (yu (bA (aE f) (bu (aE j)))) (sI (bc at0))))).trans (cD rfl)
  ·have e:(decide (1<=x) && decide (x<=30))=false:=by rw[<-Bool.not_eq_true];intro q;simp at q;omega
   rw[e]at j;exact .inr ⟨by unfold dF;rw[o];exact wR b,i (bA (aE f) (bu (aE j)))⟩
 ·have u:(nb dD d).length≠1:=λz=>c (by
   obtain⟨x,l⟩:=List.length_eq_one_iff.mp z;exact⟨x,l⟩)
  rw[y0 (by omega)]at f;refine .inr ⟨?_,i (c8 (aE f))⟩;have:jT dD d=none:=by
   cases e:jT dD d with
   | none=>rfl
   | some x=>exact absurd ⟨x,fA.mp e⟩ c
  unfold dF;rw[this]
def eM (n:Nat):List Tie->List (List Nat)->Bool × List Tie × List (List Nat)
 | acc,[]=>(true,acc,[])
 | acc,l :: r=>if isT l then (match cI n l with
   | some t=>if nxt acc t.a t.b=true then eM n (acc++[t]) r else (false,acc,l :: r)
   | none=>(false,acc,l :: r)) else (true,acc,l :: r)
theorem Dj (l:List Nat):(decide ([116,105,101,32].length<=l.length) && (l.take [116,105,101,32].length == [116,105,101,32]))=decide (isT l):=by
 unfold isT;show (decide (4<=l.length) && (l.take 4 == [116,105,101,32]))=_
 by_cases c:l.take 4=[116,105,101,32]
 ·have:4<=l.length:=by
   have:=congrArg List.length c;rw[X0]at this;simp at this;omega
  rw[x8 c,x8 this,c];rfl
 ·rw[y0 c,beq_eq_false_iff_ne.mpr c,Bool.and_false]
abbrev BT:SF:=(ay (sPl (sIf (dh (tE (gX (fAt (aa 0) (aa 3)) (fC (.str [116,105,101,32]))))) DY bB))
  (ay (sPl (aB (gN 4) (gR (lOf (au aZ (ae (fC (.str [116,105,101])) (ae (fAt (aa 0) (aa 3)) am)))))))
  (ay (iY (tOr (dh (tE (au eo (ae (aa 1) (ae (aa 4) am))))) (dh (tE (au cT (ae (aa 2) (ae (aa 4) am)))))) (Fy.sRaiseL "NoText" (aa 3)) bB)
  (sPl (eP (fO (aa 2) (aa 4)))))))
section
variable {n lk:Nat} {L:List (List Nat)} {h:Hd}
theorem Dk (e:h[lk]? = some (.lst (L.map D.str))){k:Nat}{l:List Nat}(f:L[k]? = some l){a b:EF}{h' g:Hd}(d:a σ (h++g)=.ok (.ref lk) (h++g))(c:b σ (h++g)=.ok (.int k) (h++g)):fAt a b σ (h++g)=.ok (.str l) (h++g) :=
 bz d c (aK (aC _ e)) (dw (by rw[ZP,f];rfl))
theorem sJ (N:∀l∈L,Tx l)(V:L.length<=100000)(M:h[lk]? = some (.lst (L.map D.str))){all:List D}:∀(f:List (List Nat)) (acc:List Tie) (g:Hd) (y z:Option D),L.drop (1 + acc.length)=f->
  match eM n acc f with
  | (true,T,_)=>∃E J g',cJ none all (gN 3) BT ((List.range f.length).map λj:Nat=>D.int ((1 + acc.length + j:Nat):Int)) [some (.ref lk),some (.int n),some (.ref h.length),y,z] (h ++ .lst (acc.map bq) :: g)=.nx [some (.ref lk),some (.int n),some (.ref h.length),E,J] (h ++ .lst (T.map bq) :: g')
  | (false,T,_)=>∃σ' g',cJ none all (gN 3) BT ((List.range f.length).map λj:Nat=>D.int ((1 + acc.length + j:Nat):Int)) [some (.ref lk),some (.int n),some (.ref h.length),y,z] (h ++ .lst (acc.map bq) :: g)=.exc (NT (1 + T.length)) σ' (h++g')
 | [],acc,g,y,z,_=>⟨y,z,g,by simp[cJ]⟩
 | l :: r,acc,g,y,z,hd=>by
  have I:L[1 + acc.length]? = some l:=by
   have:=congrArg (λx=>x[0]?) hd;simpa using this
  have hr:L.drop (1 + (acc.length + 1))=r:=by
   have:=congrArg (List.drop 1) hd;rw[W2]at this;rw[<-Nat.add_assoc];simpa using this
  have tl:Tx l:=N l (ZJ I);have la:acc.length < 100000:=by have:=(yE.mp I).1;omega
  obtain⟨H,s⟩ : ∃H,H=h++aO.lst (acc.map bq) :: g:=⟨_,rfl⟩;have C:H[h.length]? = some (.lst (acc.map bq)):=by rw[s];exact cz
  have v:∀{z:Option D},fAt (aa 0) (aa 3) [some (.ref lk),some (.int n),some (.ref h.length),some (.int ((1 + acc.length:Nat):Int)),z] H=.ok (.str l) H:=λ{z}=>by rw[s];exact Dk M I (h':=[]) rfl rfl
  have P:∀{z:Option D},gX (fAt (aa 0) (aa 3)) (fC (.str [116,105,101,32])) [some (.ref lk),some (.int n),some (.ref h.length),some (.int ((1 + acc.length:Nat):Int)),z] H=.ok (.bl (decide (isT l))) H:=λ{z}=>(mM v rfl).trans (by rw[Dj]);rw[<-s,ZX,pZ,eM]
  by_cases c:isT l
  ·rw[yD c]
   obtain⟨k,d,q,S,gk⟩:=kK cX tl H;have K:sPl (sIf (dh (tE (gX (fAt (aa 0) (aa 3)) (fC (.str [116,105,101,32]))))) DY bB) [some (.ref lk),some (.int n),some (.ref h.length),some (.int ((1 + acc.length:Nat):Int)),z] H=.nx [some (.ref lk),some (.int n),some (.ref h.length),some (.int ((1 + acc.length:Nat):Int)),z] H:=jU ((cW (bu (b:=true) (aE (P.trans (by rw[x8 c]))))).trans rfl);have O:sPl (aB (gN 4) (gR (lOf (au aZ (ae (fC (.str [116,105,101])) (ae (fAt (aa 0) (aa 3)) am)))))) [some (.ref lk),some (.int n),some (.ref h.length),some (.int ((1 + acc.length:Nat):Int)),z] H=.nx [some (.ref lk),some (.int n),some (.ref h.length),some (.int ((1 + acc.length:Nat):Int)),some (.tup ((nb cX l).map .int))] (H++d):=jU (aH (lA (bG (aD (dA rfl v) q) (aK gk))));have u:au eo (ae (aa 1) (ae (aa 4) am)) [some (.ref lk),some (.int n),some (.ref h.length),some (.int ((1 + acc.length:Nat):Int)),some (.tup ((nb cX l).map .int))] (H++d)=.ok (.bl (kx n (nb cX l))) (H++d):=aD (dA rfl rfl) (yr _ _ _);have m:∀{a b w:Int},nb cX l=[a,b,w]->au cT (ae (aa 2) (ae (aa 4) am)) [some (.ref lk),some (.int n),some (.ref h.length),some (.int ((1 + acc.length:Nat):Int)),some (.tup ((nb cX l).map .int))] (H++d)=.ok (.bl (decide (a < b) && nxt acc a b)) (H++d):=λ{a b w} e=>by
    rw[e];exact aD (dA rfl rfl) (Di (aC _ C))
   by_cases ok:∃t,cI n l=some t/\nxt acc t.a t.b=true
   ·have G:=zG.mp ok
    obtain⟨t,B,X⟩:=ok;obtain⟨o,a,b,w,i,A⟩:=G;obtain⟨U,_⟩:=uJ B;rw[o]at u;have m:=m i;rw[A]at m;have t3:=(yu (a:=sRaiseL "NoText" (aa 3)) (b:=bB) (bA (bu (aE u)) (bu (aE m)))).trans (show bB [some (.ref lk),some (.int n),some (.ref h.length),some (.int ((1 + acc.length:Nat):Int)),some (.tup ((nb cX l).map .int))] (H++d)=_ from rfl);have Y:(acc.map bq).length < SZ:=by simp[SZ];omega
    have R:sPl (eP (fO (aa 2) (aa 4))) [some (.ref lk),some (.int n),some (.ref h.length),some (.int ((1 + acc.length:Nat):Int)),some (.tup ((nb cX l).map .int))] (H++d)=.nx [some (.ref lk),some (.int n),some (.ref h.length),some (.int ((1 + acc.length:Nat):Int)),some (.tup ((nb cX l).map .int))] (h ++ .lst ((acc++[t]).map bq) :: (g++d)):=by
     refine jU ((fQ (i6 rfl (aC _ C) rfl (aC _ C) Y)).trans ?_);rw[s,pV,U,ZQ];rfl
    have F:=sJ N V M (all:=all) r (acc++[t]) (g++d) (some (.int ((1 + acc.length:Nat):Int))) (some (.tup ((nb cX l).map .int))) (by rw[ZB];exact hr);rw[B];simp only[X,Y7];have p:BT [some (.ref lk),some (.int n),some (.ref h.length),some (.int ((1 + acc.length:Nat):Int)),z] H=.nx [some (.ref lk),some (.int n),some (.ref h.length),some (.int ((1 + acc.length:Nat):Int)),some (.tup ((nb cX l).map .int))] (h ++ .lst ((acc++[t]).map bq) :: (g++d)):=sx K (sx O (sx t3 R));have ex:(List.range r.length).map (λj:Nat=>D.int ((1 + acc.length + 1 + j:Nat):Int))=(List.range r.length).map λj:Nat=>D.int ((1 + (acc++[t]).length + j:Nat):Int):=by
     apply Y3;intro j _;congr 2;simp;omega
    rw[ex];split at F
    ·rename_i T _ e
     obtain⟨E,J,g',q⟩:=F;exact⟨E,J,g',om trivial rfl p q⟩
    ·rename_i T _ e
     obtain⟨σ',h',q⟩:=F;exact⟨σ',h',om trivial rfl p q⟩
   ·have Q:=λz=>ok (zG.mpr z)
    have Z:tOr (dh (tE (au eo (ae (aa 1) (ae (aa 4) am))))) (dh (tE (au cT (ae (aa 2) (ae (aa 4) am))))) [some (.ref lk),some (.int n),some (.ref h.length),some (.int ((1 + acc.length:Nat):Int)),some (.tup ((nb cX l).map .int))] (H++d)=.ok true (H++d):=by
     cases o:kx n (nb cX l) with
     | false=>rw[o]at u;exact c8 (bu (aE u))
     | true =>
      rw[o]at u;obtain⟨a,b,w,i⟩ : ∃a b w,nb cX l=[a,b,w]:=by
       unfold kx at o;split at o
       ·rename_i e;exact⟨_,_,_,e⟩
       ·cases o
      have m:=m i;cases A:(decide (a < b) && nxt acc a b) with
      | true=>exact absurd ⟨o,a,b,w,i,A⟩ Q
      | false=>rw[A]at m;exact bA (bu (aE u)) (bu (aE m))
    have p:BT [some (.ref lk),some (.int n),some (.ref h.length),some (.int ((1 + acc.length:Nat):Int)),z] H=.exc (NT (1 + acc.length)) [some (.ref lk),some (.int n),some (.ref h.length),some (.int ((1 + acc.length:Nat):Int)),some (.tup ((nb cX l).map .int))] (H++d):=sx K (sx O (fV (yt Z (pY rfl))));have W:(match cI n l with|some t=>if nxt acc t.a t.b=true then eM n (acc++[t]) r else (false,acc,l :: r)|none=>(false,acc,l :: r))=(false,acc,l :: r):=by
     split
     ·rename_i t B
      rw[wR λz=>ok ⟨t,B,z⟩]
     ·rfl
    rw[W];have eh:H++d=h++aO.lst (acc.map bq) :: (g++d):=by rw[s];simp
    rw[eh]at p;exact⟨_,_,uL trivial rfl p⟩
  ·rw[wR c]
   have p:BT [some (.ref lk),some (.int n),some (.ref h.length),some (.int ((1 + acc.length:Nat):Int)),z] H=.bk [some (.ref lk),some (.int n),some (.ref h.length),some (.int ((1 + acc.length:Nat):Int)),z] H:=IX (IW ((dN (bu (b:=false) (aE (P.trans (by rw[y0 c]))))).trans rfl));refine⟨some (.int ((1 + acc.length:Nat):Int)),z,g,?_⟩;rw[<-s];exact EI trivial rfl p
end
def cf {α : Type} (f:List Nat->Option α):Nat->List α->List (List Nat)->Bool × List α
 | 0,acc,_=>(true,acc)
 | _ + 1,acc,[]=>(false,acc)
 | m + 1,acc,l :: r=>match f l with
  | some a=>cf f m (acc++[a]) r
  | none=>(false,acc)
abbrev qS:Tab:=[([102,114,101,101],none),([115,116,97,121,115,32,48],some 0),([115,116,97,121,115,32,49],some 1)]
def b0 (l:List Nat):Option (Option Int):=fU qS l
theorem Dl (o:Option Int):Ea o=bC o:=by cases o<;>rfl
theorem EK {x y:EF}{h1 a:Hd}{m:Nat}{l b k:List D}(p:x σ h=.ok (.ref n) h1)(q:h1[n]? = some (.lst b))(r:y σ h1=.ok (.ref m) a)(s:a[n]? = some (.lst l))(t:a[m]? = some (.lst k))(u:l.length + k.length<=SZ):rW x y σ h=.ok .non (a.set n (.lst (l++k))):=by
 show Res.bind _ _=_;rw[p,az];simp only[q,r,az,s,t];exact yD u
section
variable {n lk st:Nat} {L:List (List Nat)} {h:Hd}
theorem p7 {H:Hd}(a:H[lk]? = some (.lst (L.map D.str))){k:Nat}{l:List Nat}(b:L[k]? = some l):b6 [.ref lk,.int k] H=.ok (.str l) H:=by
 have lt:=(yE.mp b).1;exact(bJ rfl rfl (sx (yu (aE (ar rfl (bZ (bG rfl (aK a))) (ul (by rw[ZA];omega))))) (sI (bc (bz rfl rfl (aK a) (dw (by rw[ZP,b];rfl))))))).trans aU
theorem p8 {H:Hd}(a:H[lk]? = some (.lst (L.map D.str))):b6 [.ref lk,.int (L.length:Nat)] H=.exc (NT L.length) H :=
 jV rfl rfl (fV (yt (aE (ar rfl (bZ (bG rfl (aK a))) (xY (by rw[ZA])))) (pY rfl)))
theorem mQ {α : Type}{f:List Nat->Option α}{enc : α->D}{b:SF}{all:List D}
  (v:∀(k:Nat) (l:List Nat) (acc:List α) (g:Hd) (z:Option D),L[k]? = some l->acc.length<=30->match f l with
   | some a=>∃d g',b [some (.ref lk),some (.int st),some (.int n),some (.ref h.length),some (.int k),z] (h ++ .lst (acc.map enc) :: g)=.nx [some (.ref lk),some (.int st),some (.int n),some (.ref h.length),some (.int k),d] (h ++ .lst ((acc++[a]).map enc) :: g')
   | none=>∃σ' g',b [some (.ref lk),some (.int st),some (.int n),some (.ref h.length),some (.int k),z] (h ++ .lst (acc.map enc) :: g)=.exc (NT k) σ' (h++g'))
  (B:∀(acc:List α) (g:Hd) (z:Option D),∃σ' g',b [some (.ref lk),some (.int st),some (.int n),some (.ref h.length),some (.int (L.length:Nat)),z] (h ++ .lst (acc.map enc) :: g)=.exc (NT L.length) σ' (h++g')) :
  ∀(m:Nat) (c:List (List Nat)) (acc:List α) (g:Hd) (y z:Option D),L.drop (st + acc.length)=c->st + acc.length<=L.length->acc.length + m<=30->match cf f m acc c with
  | (true,A)=>∃p d g',cJ none all (gN 4) b ((List.range m).map λj:Nat=>D.int ((st + acc.length + j:Nat):Int)) [some (.ref lk),some (.int st),some (.int n),some (.ref h.length),y,z] (h ++ .lst (acc.map enc) :: g)=.nx [some (.ref lk),some (.int st),some (.int n),some (.ref h.length),p,d] (h ++ .lst (A.map enc) :: g')
  | (false,A)=>∃σ' g',cJ none all (gN 4) b ((List.range m).map λj:Nat=>D.int ((st + acc.length + j:Nat):Int)) [some (.ref lk),some (.int st),some (.int n),some (.ref h.length),y,z] (h ++ .lst (acc.map enc) :: g)=.exc (NT (st + A.length)) σ' (h++g')
 | 0,c,acc,g,y,z,_,_,_=>by cases c<;>exact⟨y,z,g,by simp[cJ]⟩
 | m + 1,[],acc,g,y,z,hd,hle,_=>by
  have e:st + acc.length=L.length:=by
   have:=congrArg List.length hd;rw[Z9]at this;simp at this;omega
  obtain⟨σ',i,q⟩:=B acc g z;rw[pZ,e];exact⟨σ',i,by rw[show st + acc.length=L.length from e];exact uL trivial rfl q⟩
 | m + 1,l :: r,acc,g,y,z,hd,hle,C=>by
  have w:L[st + acc.length]? = some l:=by
   have:=congrArg (λx=>x[0]?) hd;simpa using this
  have lt:=(yE.mp w).1;have o:=v (st + acc.length) l acc g z w (by omega);rw[pZ,cf];cases u:f l with
  | none =>
   rw[u]at o;obtain⟨σ',i,q⟩:=o;exact⟨σ',i,uL trivial rfl q⟩
  | some a =>
   rw[u]at o;obtain⟨d,g',q⟩:=o;have s:=mQ (all:=all) v B m r (acc++[a]) g' (some (.int ((st + acc.length:Nat):Int))) d (by
    have:=congrArg (List.drop 1) hd;rw[W2]at this;rw[ZB,<-Nat.add_assoc];simpa using this) (by simp;omega) (by simp;omega)
   have E:(List.range m).map (λj:Nat=>D.int ((st + acc.length + 1 + j:Nat):Int))=(List.range m).map λj:Nat=>D.int ((st + (acc++[a]).length + j:Nat):Int):=by
    apply Y3;intro j _;congr 2;simp;omega
   rw[E];simp only;split at s
   ·rename_i A e
    obtain⟨p,d,g',t⟩:=s;exact⟨p,d,g',om trivial rfl q t⟩
   ·rename_i A e
    obtain⟨σ',i,t⟩:=s;exact⟨σ',i,om trivial rfl q t⟩
theorem EL (N:∀l∈L,Tx l)(R:L.length<=100000)(I:n<=30)(K:st<=L.length)(E:h[lk]? = some (.lst (L.map D.str))) :
  match cf dZ n [] (L.drop st) with
  | (true,bs)=>∃g,e8 [.ref lk,.int st,.int n] h=.ok (.ref h.length) (h ++ .lst (bs.map .int) :: g)
  | (false,bs)=>∃g',e8 [.ref lk,.int st,.int n] h=.exc (NT (st + bs.length)) (h++g'):=by
 have C:sPl (aB (gN 3) (aL am)) [some (.ref lk),some (.int st),some (.int n),none,none,none] h=.nx [some (.ref lk),some (.int st),some (.int n),some (.ref h.length),none,none] (h++[.lst []]):=jU (aH (bo rfl));have A:fY (aa 1) (ao b7 (aa 1) (aa 2)) [some (.ref lk),some (.int st),some (.int n),some (.ref h.length),none,none] (h++[.lst []])=.ok ((List.range n).map (λj:Nat=>D.int ((st + j:Nat):Int)),none) (h++[.lst []]):=mP (m:=st) rfl (ar rfl rfl rfl) (by omega);have r:=mQ (n:=n) (lk:=lk) (st:=st) (L:=L) (h:=h) (f:=dZ) (enc:=D.int) (all:=(List.range n).map (λj:Nat=>D.int ((st + j:Nat):Int)))
  (b:=(ay (aB (gN 5) (Fy.fCallG aZ (ae (fPl (fC (.str [98,97,114]))) (ae (au b6 (fPl (ae (aa 0) (ae (aa 4) am)))) (fPl am)))))
  (ay (iY (tE (ao oNe (cr (lOf (aa 5))) (fC (.int 1)))) (Fy.sRaiseL "NoText" (aa 4)) bB)
  (sPl (eP (rW (aa 3) (aa 5))))))) (λk l c g z B G=>by
   obtain⟨H,d⟩ : ∃H,H=h++aO.lst (c.map D.int) :: g:=⟨_,rfl⟩;have v:H[h.length]? = some (.lst (c.map D.int)):=by rw[d];exact cz
   have P:Tx l:=N l (ZJ B);have s:=p7 (lk:=lk) (H:=H) (by rw[d];exact aC _ E) B;obtain⟨j,i,q,J,t⟩:=kK wI P H;rw[<-d];have w:aB (gN 5) (Fy.fCallG aZ (ae (fPl (fC (.str [98,97,114]))) (ae (au b6 (fPl (ae (aa 0) (ae (aa 4) am)))) (fPl am)))) [some (.ref lk),some (.int st),some (.int n),some (.ref h.length),some (.int k),z] H=.nx [some (.ref lk),some (.int st),some (.int n),some (.ref h.length),some (.int k),some (.ref j)] (H++i) :=
    aH (aD (ai (lZ rfl) (ai (aD (lZ (dA rfl rfl)) s) (lZ rfl))) (by show noX _=_;rw[q];rfl))
   have o:ao oNe (cr (lOf (aa 5))) (fC (.int 1)) [some (.ref lk),some (.int st),some (.int n),some (.ref h.length),some (.int k),some (.ref j)] (H++i)=.ok (.bl (!decide (((nb wI l).length:Int)=1))) (H++i):=by
    have:=ar (bZ (bG (a:=aa 5) (σ:=[some (.ref lk),some (.int st),some (.int n),some (.ref h.length),some (.int k),some (.ref j)]) rfl (aK t))) (b:=fC (.int 1)) rfl (mF _ _ _);rw[ZA]at this;exact this
   cases p:dZ l with
   | none =>
    have Q:(nb wI l).length≠1:=λz=>by
     obtain⟨x,u⟩:=List.length_eq_one_iff.mp z;have:jT wI l=some x:=fA.mpr u;unfold dZ at p;rw[this]at p;cases p
    rw[y0 (by omega)]at o;have O:h++aO.lst (c.map D.int) :: (g++i)=H++i:=by rw[d];simp
    exact⟨_,_,(sx w (fV (yt (aE o) (pY rfl)))).trans (congrArg (Out.exc _ _) O.symm)⟩
   | some x =>
    have u:=fA.mp p;rw[u]at o t;have M:sPl (eP (rW (aa 3) (aa 5))) [some (.ref lk),some (.int st),some (.int n),some (.ref h.length),some (.int k),some (.ref j)] (H++i)=.nx [some (.ref lk),some (.int st),some (.int n),some (.ref h.length),some (.int k),some (.ref j)] (h ++ .lst ((c++[x]).map D.int) :: (g++i)):=by
     refine jU ((fQ (EK rfl (aC _ v) rfl (aC _ v) t (by simp[SZ];omega))).trans ?_);rw[d,pV,ZQ]
    exact⟨_,_,sx w (sx (yu (aE o)) M)⟩)
  (λc g z=>by
   obtain⟨H,d⟩ : ∃H,H=h++aO.lst (c.map D.int) :: g:=⟨_,rfl⟩;have s:=p8 (lk:=lk) (L:=L) (H:=H) (by rw[d];exact aC _ E);rw[<-d];refine⟨_,_,(fV (yv (h':=H) ?_)).trans (congrArg (Out.exc _ _) d)⟩;show Res.bind _ _=_;have:ae (fPl (fC (.str [98,97,114]))) (ae (au b6 (fPl (ae (aa 0) (ae (aa 4) am)))) (fPl am)) [some (.ref lk),some (.int st),some (.int n),some (.ref h.length),some (.int (L.length:Nat)),z] H=.exc (NT L.length) H:=by
    show Res.bind _ _=_;rw[show fPl (fC (.str [98,97,114])) [some (.ref lk),some (.int st),some (.int n),some (.ref h.length),some (.int (L.length:Nat)),z] H=Res.ok (D.str [98,97,114]) H from lZ rfl,az];show Res.bind (Res.bind _ _) _=_;have:au b6 (fPl (ae (aa 0) (ae (aa 4) am))) [some (.ref lk),some (.int st),some (.int n),some (.ref h.length),some (.int (L.length:Nat)),z] H=.exc (NT L.length) H:=uK (lZ (dA rfl rfl)) s;rw[this];rfl
   rw[this];rfl) n (L.drop st) [] [] none none rfl K (by simpa using I)
 simp only[Z3,Nat.add_zero,Y8]at r;split at r
 ·rename_i bs e
  rw[e];obtain⟨y,z,g,q⟩:=r;exact⟨g,(bJ rfl rfl (sx C (sx (A0 A q) (sI (bc rfl))))).trans eE⟩
 ·rename_i bs e
  rw[e];obtain⟨F,h',q⟩:=r;exact⟨h',jV rfl rfl (sx C (fV (A0 A q)))⟩
theorem Dm (K:L.length<=100000)(C:n<=30)(G:st<=L.length)(w:h[lk]? = some (.lst (L.map D.str))) :
  match cf b0 n [] (L.drop st) with
  | (true,ss)=>∃g,eA [.ref lk,.int st,.int n] h=.ok (.ref h.length) (h ++ .lst (ss.map bC) :: g)
  | (false,ss)=>∃g',eA [.ref lk,.int st,.int n] h=.exc (NT (st + ss.length)) (h++g'):=by
 have v:sPl (aB (gN 3) (aL am)) [some (.ref lk),some (.int st),some (.int n),none,none,none] h=.nx [some (.ref lk),some (.int st),some (.int n),some (.ref h.length),none,none] (h++[.lst []]):=jU (aH (bo rfl));have u:fY (aa 1) (ao b7 (aa 1) (aa 2)) [some (.ref lk),some (.int st),some (.int n),some (.ref h.length),none,none] (h++[.lst []])=.ok ((List.range n).map (λj:Nat=>D.int ((st + j:Nat):Int)),none) (h++[.lst []]):=mP (m:=st) rfl (ar rfl rfl rfl) (by omega);have o:=mQ (n:=n) (lk:=lk) (st:=st) (L:=L) (h:=h) (f:=b0) (enc:=bC) (all:=(List.range n).map (λj:Nat=>D.int ((st + j:Nat):Int)))
  (b:=(ay (aB (gN 5) (au b6 (fPl (ae (aa 0) (ae (aa 4) am)))))
  (ay (iY (tE (nY qS (aa 5))) (Fy.sRaiseL "NoText" (aa 4)) bB)
  (sPl (eP (fO (aa 3) (ph qS (aa 5)))))))) (λk l a g z F J=>by
   obtain⟨H,c⟩ : ∃H,H=h++aO.lst (a.map bC) :: g:=⟨_,rfl⟩;have s:H[h.length]? = some (.lst (a.map bC)):=by rw[c];exact cz
   have p:=p7 (lk:=lk) (H:=H) (by rw[c];exact aC _ w) F;rw[<-c];have t:aB (gN 5) (au b6 (fPl (ae (aa 0) (ae (aa 4) am)))) [some (.ref lk),some (.int st),some (.int n),some (.ref h.length),some (.int k),z] H=.nx [some (.ref lk),some (.int st),some (.int n),some (.ref h.length),some (.int k),some (.str l)] H:=aH (aD (lZ (dA rfl rfl)) p);have i:nY qS (aa 5) [some (.ref lk),some (.int st),some (.int n),some (.ref h.length),some (.int k),some (.str l)] H=.ok (.bl (b0 l).isNone) H:=rfl;cases r:b0 l with
   | none =>
    rw[r]at i;exact⟨_,_,(sx t (fV (yt (aE i) (pY rfl)))).trans (congrArg (Out.exc _ _) c)⟩
   | some x =>
    rw[r]at i;have B:ph qS (aa 5) [some (.ref lk),some (.int st),some (.int n),some (.ref h.length),some (.int k),some (.str l)] H=.ok (bC x) H:=by
     show (match fU qS l with|some d=>Res.ok (Ea d) H|none=>.bad)=_;rw[show fU qS l=some x from r,<-Dl]
    have I:sPl (eP (fO (aa 3) (ph qS (aa 5)))) [some (.ref lk),some (.int st),some (.int n),some (.ref h.length),some (.int k),some (.str l)] H=.nx [some (.ref lk),some (.int st),some (.int n),some (.ref h.length),some (.int k),some (.str l)] (h ++ .lst ((a++[x]).map bC) :: g):=by
     refine jU ((fQ (i6 rfl s B s (by simp[SZ];omega))).trans ?_);rw[c,kf,ZQ];rfl
    exact⟨_,_,sx t (sx (yu (aE i)) I)⟩)
  (λa g z=>by
   obtain⟨H,c⟩ : ∃H,H=h++aO.lst (a.map bC) :: g:=⟨_,rfl⟩;have p:=p8 (lk:=lk) (L:=L) (H:=H) (by rw[c];exact aC _ w);rw[<-c];exact⟨_,_,(fV (yv (h':=H) (uK (lZ (dA rfl rfl)) p))).trans (congrArg (Out.exc _ _) c)⟩) n (L.drop st) [] [] none none rfl G (by simpa using C)
 simp only[Z3,Nat.add_zero,Y8]at o;split at o
 ·rename_i E e
  rw[e];obtain⟨y,z,g,q⟩:=o;exact⟨g,(bJ rfl rfl (sx v (sx (A0 u q) (sI (bc rfl))))).trans eE⟩
 ·rename_i E e
  rw[e];obtain⟨A,h',q⟩:=o;exact⟨h',jV rfl rfl (sx v (fV (A0 u q)))⟩
end
def l5 (s t:Tie):Prop:=s.a < t.a\/(s.a=t.a/\s.b < t.b)
theorem A5 {s t:Tie}(h:lexLt [(s.a:Int),s.b] [(t.a:Int),t.b] = true):l5 s t:=by
 rw[lexLt]at h;split at h
 ·rename_i e
  rw[lexLt]at h;split at h
  ·cases h
  ·exact .inr ⟨by omega,by have:=YC h;omega⟩
 ·exact .inl (by have:=YC h;omega)
theorem EM {s t:Tie}(h:l5 s t):lexLt [(s.a:Int),s.b] [(t.a:Int),t.b] = true:=by
 rcases h with c|⟨a,b⟩
 ·rw[lexLt,wR (by omega)];exact x8 (by omega)
 ·rw[lexLt,yD (by omega),lexLt,wR (by omega)];exact x8 (by omega)
theorem yw {s t u:Tie}(h:l5 s t)(k:l5 t u):l5 s u:=by
 unfold l5 at *;omega
structure RT (n:Nat) (T:List Tie):Prop where
 up:T.Pairwise l5
 ok:∀t∈T,t.a < t.b/\t.b < n/\1<=t.w/\t.w<=400
theorem zH {acc:List Tie}{t:Tie}(up:acc.Pairwise l5)(h:nxt acc t.a t.b=true):∀s∈acc,l5 s t:=by
 rcases List.eq_nil_or_concat acc with e|⟨Y,u,e⟩
 ·rw[e];simp
 ·rw[X6]at e
  subst e;unfold nxt at h;rw[List.getLast?_concat]at h;have b:=A5 h;intro s a;rcases Z0.mp a with a|a
  ·exact yw ((YZ.mp up).2.2 s a u (by simp)) b
  ·rw[Z5.mp a];exact b
theorem uM {n:Nat}:∀{R:List (List Nat)} {acc T:List Tie} {b:Bool} {c:List (List Nat)},RT n acc->eM n acc R=(b,T,c)->RT n T/\acc.length<=T.length/\c=R.drop (T.length - acc.length)/\T.length - acc.length<=R.length
 | [],acc,T,b,c,h,e=>by
  rw[eM]at e;cases e;exact⟨h,ZK _,by simp,by simp⟩
 | l :: r,acc,T,b,c,h,e=>by
  rw[eM]at e;split at e
  ·split at e
   ·rename_i t i
    split at e
    ·rename_i o
     have p:=(uJ i).2;have j:RT n (acc++[t]):=⟨YZ.mpr ⟨h.up,by simp,λs a u m=>by rw[Z5.mp m];exact zH h.up o s a⟩,λs a=>by
      rcases Z0.mp a with a|a
      ·exact h.ok s a
      ·rw[Z5.mp a];exact p⟩
     obtain⟨k,f,d,g⟩:=uM j e;rw[ZB,YQ]at f d g;refine⟨k,by omega,?_,by simp;omega⟩;rw[d];have:T.length - acc.length=(T.length - (acc.length + 1)) + 1:=by omega
     rw[this,VA]
    ·cases e;exact⟨h,ZK _,by simp,by simp⟩
   ·cases e;exact⟨h,ZK _,by simp,by simp⟩
  ·cases e;exact⟨h,ZK _,by simp,by simp⟩
theorem wO:∀{l:List Nat} {lo hi:Nat},l.Pairwise (· < ·)->(∀x∈l,lo<=x/\x < hi)->l.length<=hi - lo
 | [],lo,hi,_,_=>by simp
 | x :: l,lo,hi,h,b=>by
  have c:=b x (by simp);have:=wO (l:=l) (lo:=x + 1) (hi:=hi) (YF.mp h).2 λy a=>⟨(YF.mp h).1 y a,(b y (ZV _ a)).2⟩;simp;omega
theorem RT.len {T:List Tie}(h:RT n T):T.length<=n * n:=by
 have:=wO (l:=T.map λt=>t.a * n + t.b) (lo:=0) (hi:=n * n) (by
  rw[YX];refine List.Pairwise.imp_of_mem (λ{s t} c a k => ?_) h.up;have e:=h.ok s c;have g:=h.ok t a;rcases k with k|⟨b,f⟩
  ·have:(s.a + 1) * n<=t.a * n:=Nat.mul_le_mul_right n k
   rw[Nat.add_mul]at this;omega
  ·rw[b];omega) (λx d=>by
  obtain⟨t,a,rfl⟩:=Z2.mp d;have e:=h.ok t a;have:(t.a + 1) * n<=n * n:=Nat.mul_le_mul_right n (by omega);rw[Nat.add_mul]at this;exact⟨XZ _,by omega⟩)
 simpa using this
theorem RT.tok {T:List Tie}(b:n<=30)(h:RT n T):TOk n n 0 T where
 ne:=λt a=>by have:=h.ok t a;omega
 lt:=λt a=>by have:=h.ok t a;omega
 wt:=λt a=>(h.ok t a).2.2
 be:=λt a=>.inl (by have:=h.ok t a;omega)
 un:=List.Pairwise.imp_of_mem (λ{s t} c a k=>by
  have e:=h.ok s c;have d:=h.ok t a;unfold l5 at k;unfold fR;omega) h.up
 len:=by
  have:=h.len;have k:n * n<=30 * n:=Nat.mul_le_mul_right n b;omega
theorem gI {α : Type}{f:List Nat->Option α}:∀{m:Nat} {R:List (List Nat)} {acc A:List α} {b:Bool},cf f m acc R=(b,A)->(b=true->A.length=acc.length + m/\m<=R.length)/\(b=false->A.length - acc.length<=R.length)/\acc.length<=A.length/\∀x∈A,x∈acc\/∃l,f l=some x
 | 0,R,acc,A,b,e=>by
  rw[cf]at e;cases e;exact⟨λ_=>⟨rfl,by simp⟩,(λz=>by cases z),ZK _,λx c=>.inl c⟩
 | m + 1,[],acc,A,b,e=>by
  rw[cf]at e;cases e;exact⟨(λz=>by cases z),(λ_=>by simp),ZK _,λx c=>.inl c⟩
 | m + 1,l :: r,acc,A,b,e=>by
  rw[cf]at e;split at e
  ·rename_i a i
   obtain⟨h1,d,h,g⟩:=gI e;rw[ZB,YQ]at h1 d h;refine⟨(λz=>by have:=h1 z;simp;omega),(λz=>by have:=d z;simp;omega),by omega,λx c => ?_⟩;rcases g x c with k|k
   ·rcases Z0.mp k with k|k
    ·exact .inl k
    ·rw[Z5.mp k];exact .inr ⟨l,i⟩
   ·exact .inr k
  ·cases e
   exact⟨(λz=>by cases z),(λ_=>by simp),ZK _,λx c=>.inl c⟩
theorem zI {l:List Nat}{o:Option Int}(h:b0 l=some o):o=none\/o=some 0\/o=some 1:=by
 unfold b0 fU qS at h;simp only[List.lookup]at h;split at h
 ·cases h;exact .inl rfl
 ·split at h
  ·cases h;exact .inr (.inl rfl)
  ·split at h
   ·cases h;exact .inr (.inr rfl)
   ·cases h
inductive RR where
 | bad (k:Nat)
 | web (n:Nat) (T:List Tie) (bs:List Int) (ss:List (Option Int))
def rdG:List (List Nat)->RR
 | []=>.bad 0
 | l0 :: R=>match dF l0 with
  | none=>.bad 0
  | some n=>match eM n [] R with
   | (false,T,_)=>.bad (1 + T.length)
   | (true,T,R')=>match cf dZ n [] R' with
    | (false,bs)=>.bad (1 + T.length + bs.length)
    | (true,bs)=>match cf b0 n [] (R'.drop n) with
     | (false,ss)=>.bad (1 + T.length + n + ss.length)
     | (true,ss)=>if 2 * n < R'.length then .bad (1 + T.length + 2 * n) else .web n T bs ss
def uN:RR->D
 | .bad k=>.tup [.non,.int k]
 | .web n T bs ss=>.tup [(eu n T bs ss).enc,.non]
def IY (r:RR) (F:Fn) (d:D) (h:Hd):Prop:=match r with
 | .bad k=>∃h',(∃g,h'=h++g)/\F [d] h=.exc (NT k) h'
 | .web n T bs ss=>F [d] h=.ok (eu n T bs ss).enc h
theorem ki {i:Nat}{F:Fn}{r:LF}{h1:Hd}{c:List D}{x:D}(a:r σ h=.ok c h1)(b:F c h1=.exc x h'):aB (gN i) (au F (fPl r)) σ h=.exc x σ h':=yv (uK (lZ a) b)
theorem l6 {i:Nat}{F:Fn}{r:LF}{h1:Hd}{c:List D}{d:D}(a:r σ h=.ok c h1)(b:F c h1=.ok d h'):aB (gN i) (au F (fPl r)) σ h=.nx (σ.set i (some d)) h':=aH (aD (lZ a) b)
theorem zJ {X:List Nat}(t:Tx X)(h:Hd):IY (rdG (aX 10 X)) bS (.str X) h:=by
 have len:=t.ln;obtain⟨L,N⟩ : ∃L,L=aX 10 X:=⟨_,rfl⟩;have ll:L.length<=100000:=by have:=kh 10 X;rw[N];omega
 have tL:∀l∈L,Tx l:=λl hl=>t.part (c:=10) (by rw[<-N];exact hl);have F:iY (dh (tE (ip .str (aa 0)))) (Fy.sRaiseL "NoText" (fC (.int 0))) bB [some (.str X),none,none,none,none,none,none] h=.nx [some (.str X),none,none,none,none,none,none] h:=yu (bu (b:=true) (aE rfl));obtain⟨d,B⟩ : ∃d,d=h++[aO.lst (L.map D.str)]:=⟨_,rfl⟩;have p1:∀g,∃K,d++g=h++K:=λg=>⟨_,by rw[B,ZT]⟩;have G:sPl (aB (gN 1) (aL (dY 10 (aa 0)))) [some (.str X),none,none,none,none,none,none] h=.nx [some (.str X),some (.ref h.length),none,none,none,none,none] d:=by
  have q:=iG (c:=10) (a:=aa 0) (σ:=[some (.str X),none,none,none,none,none,none]) (h:=h) rfl (by omega);rw[<-N]at q;rw[B];exact jU (aH (bo q (by rw[ZA];simp only[SZ];omega)))
 have Q:d[h.length]? = some (.lst (L.map D.str)):=by rw[B];exact ZF
 rw[<-N];obtain⟨O,R,I⟩ : ∃O R,L=O :: R:=by
  cases e:L with
  | nil=>exact absurd (N.symm.trans e) (eK _ _)
  | cons a b=>exact⟨a,b,rfl⟩
 have lR:L.length=R.length + 1:=by rw[I];rfl
 have d1:∀k,L.drop (1 + k)=R.drop k:=λk=>by rw[I,Nat.add_comm,VA]
 rw[show rdG L=rdG (O :: R) by rw[I],rdG];rcases EJ (lk:=h.length) (R:=R.map D.str) (tL O (by rw[I];simp)) (by rw[Q,I];rfl) with ⟨n,Y,a0,U,r2⟩|⟨Y,C,r2⟩
 rotate_left
 ·rw[Y]
  exact⟨_,p1 _,jV rfl rfl (sx F (sx G (fV (ki rfl r2))))⟩
 rw[Y];simp only;have H:aB (gN 2) (au dC (fPl (ae (aa 1) am))) [some (.str X),some (.ref h.length),none,none,none,none,none] d=.nx [some (.str X),some (.ref h.length),some (.int n),none,none,none,none] d:=l6 rfl r2;have J:sPl (aB (gN 2) (aL am)) [some (.ref h.length),some (.int n),none,none,none] d=.nx [some (.ref h.length),some (.int n),some (.ref d.length),none,none] (d++[.lst []]):=jU (aH (bo rfl));have q3:fY (fC (.int 1)) (cr (lOf (aa 0))) [some (.ref h.length),some (.int n),some (.ref d.length),none,none] (d++[.lst []])=.ok ((List.range R.length).map (λj:Nat=>D.int ((1 + j:Nat):Int)),none) (d++[.lst []]):=mP (m:=1) rfl ((bZ (bG rfl (aK (aC _ Q)))).trans (by rw[ZA,lR,Nat.add_comm])) (by omega);have lp:=sJ (n:=n) (all:=(List.range R.length).map (λj:Nat=>D.int ((1 + j:Nat):Int))) tL (by omega) Q R [] [] none none (d1 0);cases et:eM n [] R with
 | mk b TR =>
  obtain⟨T,M⟩:=TR;obtain⟨rt,_,W,lT⟩:=uM (n:=n) (acc:=[]) ⟨.nil,by simp⟩ et;rw[Z3,Nat.sub_zero]at W lT;rw[et]at lp;cases b with
  | false =>
   obtain⟨a6,V,q⟩:=lp;have S:eg [.ref h.length,.int n] d=.exc (NT (1 + T.length)) (d++V):=jV rfl rfl (sx J (fV (A0 q3 q)));exact⟨_,p1 _,jV rfl rfl (sx F (sx G (sx H (fV (ki (dA rfl rfl) S)))))⟩
  | true =>
   obtain⟨y,z,V,q⟩:=lp;have S:eg [.ref h.length,.int n] d=.ok (.ref d.length) (d ++ .lst (T.map bq) :: V):=(bJ rfl rfl (sx J (sx (A0 q3 q) (sI (bc rfl))))).trans eE;obtain⟨f,u⟩ : ∃f,f=d ++ .lst (T.map bq) :: V:=⟨_,rfl⟩;rw[<-u]at S;have p2:∀g,∃K,f++g=h++K:=λg=>by rw[u,ZT];exact p1 _
   have P:aB (gN 3) (au eg (fPl (ae (aa 1) (ae (aa 2) am)))) [some (.str X),some (.ref h.length),some (.int n),none,none,none,none] d=.nx [some (.str X),some (.ref h.length),some (.int n),some (.ref d.length),none,none,none] f:=l6 (dA rfl rfl) S;have l2:f[h.length]? = some (.lst (L.map D.str)):=by rw[u];exact aC _ Q
   have t2:f[d.length]? = some (.lst (T.map bq)):=by rw[u];exact cz
   have ln:∀{C:Hd} {x y z:Option D},C[d.length]? = some (.lst (T.map bq))->ao b7 (fC (.int 1)) (cr (lOf (aa 3))) [some (.str X),some (.ref h.length),some (.int n),some (.ref d.length),x,y,z] C=.ok (.int ((1 + T.length:Nat):Int)) C:=λ{C x y z} e=>by
    refine ar rfl (bZ (bG rfl (aK e))) ?_;show Res.ok (D.int (1 + (T.map bq).length)) C=_;rw[ZA];congr 2
   have w:=EL (n:=n) (st:=1 + T.length) tL (by omega) U (by omega) l2;have a4:ae (aa 1) (ae (ao b7 (fC (.int 1)) (cr (lOf (aa 3)))) (ae (aa 2) am)) [some (.str X),some (.ref h.length),some (.int n),some (.ref d.length),none,none,none] f=.ok [.ref h.length,.int ((1 + T.length:Nat):Int),.int n] f:=ai rfl (dA (ln t2) rfl);rw[d1,<-W]at w;simp only;cases eb:cf dZ n [] M with
   | mk b bs =>
    obtain⟨c1,_,_,_⟩:=gI eb;rw[eb]at w;cases b with
    | false =>
     obtain⟨C,w⟩:=w;exact⟨_,p2 _,jV rfl rfl (sx F (sx G (sx H (sx P (fV (ki a4 w))))))⟩
    | true =>
     obtain⟨g3,w⟩:=w;obtain⟨lb,a1⟩:=c1 rfl;rw[Z3,YH]at lb;obtain⟨p,s⟩ : ∃p,p=f ++ .lst (bs.map .int) :: g3:=⟨_,rfl⟩;rw[<-s]at w;have p3:∀g,∃K,p++g=h++K:=λg=>by rw[s,ZT];exact p2 _
     have s4:=l6 (i:=4) a4 w;have l3:p[h.length]? = some (.lst (L.map D.str)):=by rw[s];exact aC _ l2
     have t3:p[d.length]? = some (.lst (T.map bq)):=by rw[s];exact aC _ t2
     have b3:p[f.length]? = some (.lst (bs.map .int)):=by rw[s];exact cz
     have a2:M.length=R.length - T.length:=by rw[W,Z9]
     have A:=Dm (n:=n) (st:=1 + T.length + n) (L:=L) (lk:=h.length) (h:=p) (by omega) U (by omega) l3;have d5:L.drop (1 + T.length + n)=M.drop n:=by rw[Nat.add_assoc,d1,W,W2]
     have a5:ae (aa 1) (ae (ao b7 (ao b7 (fC (.int 1)) (cr (lOf (aa 3)))) (aa 2)) (ae (aa 2) am)) [some (.str X),some (.ref h.length),some (.int n),some (.ref d.length),some (.ref f.length),none,none] p=.ok [.ref h.length,.int ((1 + T.length + n:Nat):Int),.int n] p:=ai rfl (dA (ar (ln t3) rfl rfl) rfl);rw[d5]at A;simp only;cases es:cf b0 n [] (M.drop n) with
     | mk b Z =>
      obtain⟨c2,_,_,c3⟩:=gI es;rw[es]at A;cases b with
      | false =>
       obtain⟨C,A⟩:=A;exact⟨_,p3 _,jV rfl rfl (sx F (sx G (sx H (sx P (sx s4 (fV (ki a5 A)))))))⟩
      | true =>
       obtain⟨g4,A⟩:=A;obtain⟨ls,a3⟩:=c2 rfl;rw[Z3,YH]at ls;have os:∀x∈Z,x=none\/x=some 0\/x=some 1:=λx hx=>by
        rcases c3 x hx with k|⟨l,k⟩
        ·cases k
        ·exact zI k
       obtain⟨v,o⟩ : ∃v,v=p ++ .lst (Z.map bC) :: g4:=⟨_,rfl⟩;rw[<-o]at A;have s5:=l6 (i:=5) a5 A;have l4:v[h.length]? = some (.lst (L.map D.str)):=by rw[o];exact aC _ l3
       have t4:v[d.length]? = some (.lst (T.map bq)):=by rw[o];exact aC _ t3
       have b4:v[f.length]? = some (.lst (bs.map .int)):=by rw[o];exact aC _ b3
       have y4:v[p.length]? = some (.lst (Z.map bC)):=by rw[o];exact cz
       have e6:((1 + T.length:Nat):Int) + 2 * n=((1 + T.length + 2 * n:Nat):Int):=by omega
       have s6:sPl (aB (gN 6) (ao b7 (ao b7 (fC (.int 1)) (cr (lOf (aa 3)))) (ao im (fC (.int 2)) (aa 2)))) [some (.str X),some (.ref h.length),some (.int n),some (.ref d.length),some (.ref f.length),some (.ref p.length),none] v=.nx [some (.str X),some (.ref h.length),some (.int n),some (.ref d.length),some (.ref f.length),some (.ref p.length),some (.int ((1 + T.length + 2 * n:Nat):Int))] v :=
        jU (aH (ar (ln t4) (ar rfl rfl (kb (by decide))) (by rw[<-e6];rfl)))
       have E:∀{b:Bool},decide (((1 + T.length + 2 * n:Nat):Int) < ((L.map D.str).length:Nat))=b->ao oGt (cr (lOf (aa 1))) (aa 6) [some (.str X),some (.ref h.length),some (.int n),some (.ref d.length),some (.ref f.length),some (.ref p.length),some (.int ((1 + T.length + 2 * n:Nat):Int))] v=.ok (.bl b) v:=λ{b} e=>ar (bZ (bG rfl (aK l4))) rfl (by subst e;rfl);simp only
       by_cases c:2 * n < M.length
       ·rw[yD c]
        have E:=E (b:=true) (x8 (by rw[ZA];omega));exact⟨_,(by rw[o];exact p3 _),jV rfl rfl (sx F (sx G (sx H (sx P (sx s4 (sx s5 (sx s6 (fV (yt (aE E) (pY rfl))))))))))⟩
       ·rw[wR c]
        have E:=E (b:=false) (y0 (by rw[ZA];omega));have s8:=sI (bc (aD (r:=ae (aa 2) (ae (aa 3) (ae (aa 4) (ae (aa 5) am)))) (σ:=[some (.str X),some (.ref h.length),some (.int n),some (.ref d.length),some (.ref f.length),some (.ref p.length),some (.int ((1 + T.length + 2 * n:Nat):Int))]) (ai rfl (ai rfl (dA rfl rfl))) (mI a0 U (rt.tok U) lb ls os t4 b4 y4)));refine(bJ rfl rfl (sx F (sx G (sx H (sx P (sx s4 (sx s5 (sx s6 (sx (yu (aE E)) s8))))))))).trans ?_;rw[o,s,u,B];simp only[ZT];exact cD (pH _)
def eO (n:Nat):Nat->List Int->List (Option Int)->List (List Nat)->Nat ⊕ (List Int × List (Option Int))
 | _,bs,ss,[]=>.inr (bs,ss)
 | p,bs,ss,l :: r=>if bs.length < n then (match dZ l with
   | some b=>eO n (p + 1) (bs++[b]) ss r
   | none=>.inl p) else if ss.length=n then .inl p else (match b0 l with
   | some o=>eO n (p + 1) bs (ss++[o]) r
   | none=>.inl p)
theorem sK {n:Nat}:∀{m:Nat} {R:List (List Nat)} {p:Nat} {bs:List Int},bs.length + m=n->eO n p bs [] R=match cf dZ m bs R with
  | (true,B)=>eO n (p + m) B [] (R.drop m)
  | (false,B)=>if R.length<=B.length - bs.length then .inr (B,[]) else .inl (p + (B.length - bs.length))
 | 0,R,p,bs,_=>by cases R<;>rfl
 | m + 1,[],p,bs,_=>by rw[eO,cf];simp
 | m + 1,l :: r,p,bs,h=>by
  rw[eO,yD (by omega),cf];cases e:dZ l with
  | none=>simp
  | some b =>
   simp only;rw[sK (m:=m) (R:=r) (p:=p + 1) (bs:=bs++[b]) (by simp;omega)];cases d:cf dZ m (bs++[b]) r with
   | mk t B =>
    obtain⟨_,_,a,_⟩:=gI d;rw[ZB,YQ]at a;cases t with
    | true =>
     simp only;rw[Nat.add_assoc,Nat.add_comm 1 m,VA]
    | false =>
     simp only[ZB,ZX,Z3,YH]
     by_cases c:r.length<=B.length - (bs.length + 1)
     ·rw[yD c,yD (by omega)]
     ·rw[wR c,wR (by omega)];congr 1;omega
theorem p9 {n:Nat}{bs:List Int}(a:bs.length=n):∀{m:Nat} {R:List (List Nat)} {p:Nat} {ss:List (Option Int)},ss.length + m=n->eO n p bs ss R=match cf b0 m ss R with
  | (true,S)=>if m < R.length then .inl (p + m) else .inr (bs,S)
  | (false,S)=>if R.length<=S.length - ss.length then .inr (bs,S) else .inl (p + (S.length - ss.length))
 | 0,[],p,ss,_=>by rw[eO,cf];simp
 | 0,l :: r,p,ss,h=>by rw[eO,wR (by omega),yD (by omega),cf];simp
 | m + 1,[],p,ss,_=>by rw[eO,cf];simp
 | m + 1,l :: r,p,ss,h=>by
  rw[eO,wR (by omega),wR (by omega),cf];cases e:b0 l with
  | none=>simp
  | some b =>
   simp only;rw[p9 a (m:=m) (R:=r) (p:=p + 1) (ss:=ss++[b]) (by simp;omega)];cases f:cf b0 m (ss++[b]) r with
   | mk t S =>
    obtain⟨_,_,d,_⟩:=gI f;rw[ZB,YQ]at d;cases t with
    | true =>
     simp only[ZX]
     by_cases c:m < r.length
     ·rw[yD c,yD (by omega)];congr 1;omega
     ·rw[wR c,wR (by omega)]
    | false =>
     simp only[ZB,ZX,Z3,YH]
     by_cases c:r.length<=S.length - (ss.length + 1)
     ·rw[yD c,yD (by omega)]
     ·rw[wR c,wR (by omega)];congr 1;omega
def A6 (n:Nat) (T:List Tie) (R:List (List Nat)):RR:=match eO n (1 + T.length) [] [] R with
 | .inl k=>.bad k
 | .inr (bs,ss)=>if ss.length < n then .bad (1 + T.length + R.length) else .web n T bs ss
theorem EN (o:1<=n)(T:List Tie)(R:List (List Nat)):A6 n T R=match cf dZ n [] R with
    | (false,bs)=>.bad (1 + T.length + bs.length)
    | (true,bs)=>match cf b0 n [] (R.drop n) with
     | (false,ss)=>.bad (1 + T.length + n + ss.length)
     | (true,ss)=>if 2 * n < R.length then .bad (1 + T.length + 2 * n) else .web n T bs ss:=by
 unfold A6;rw[sK (m:=n) (by simp)];cases k:cf dZ n [] R with
 | mk t B =>
  obtain⟨j,d,_,_⟩:=gI k;cases t with
  | false =>
   have d:=d rfl;simp only[Z3,Nat.sub_zero]at d ⊢
   by_cases c:R.length<=B.length
   ·rw[yD c]
    simp only[Z3];rw[yD (show 0 < n from o)];congr 1;omega
   ·rw[wR c]
  | true =>
   obtain⟨i,q⟩:=j rfl;rw[Z3,YH]at i;simp only;rw[p9 i (m:=n) (by simp)];cases h:cf b0 n [] (R.drop n) with
   | mk t S =>
    obtain⟨g,b,_,_⟩:=gI h;rw[Z9]at g b;cases t with
    | false =>
     have b:=b rfl;simp only[Z3,Nat.sub_zero,Z9]at b ⊢;have f:S.length < n:=by
      have:∀{m:Nat} {Q:List (List Nat)} {a A:List (Option Int)},cf b0 m a Q=(false,A)->A.length < a.length + m:=λ{m}=>by
       induction m with
       | zero=>intro Q a A e;cases Q<;>(rw[cf]at e;cases e)
       | succ m p =>
        intro Q a A e;cases Q with
        | nil=>rw[cf]at e;cases e;omega
        | cons l r =>
         rw[cf]at e;split at e
         ·have:=p e;simp at this;omega
         ·cases e;omega
      simpa using this h
     by_cases c:R.length - n<=S.length
     ·rw[yD c]
      simp only;rw[yD f];congr 1;omega
     ·rw[wR c]
    | true =>
     obtain⟨f,_⟩:=g rfl;rw[Z3,YH]at f;simp only[Z9]
     by_cases c:2 * n < R.length
     ·rw[yD c,yD (by omega)]
      simp only;congr 1;omega
     ·rw[wR c,wR (by omega)]
      simp only;rw[wR (by omega)]
theorem Hg (a:1<=n)(T:List Tie)(r:List (List Nat)):A6 n T (cX :: r)=.bad (1 + T.length):=by
 unfold A6;rw[eO,yD (show ([] : List Int).length < n from a),Df]
def Wh (t:TF) (b:SF) (σ:Sd) (h:Hd) (o:Out):Prop:=∃N,dS t b N σ h=o
theorem uO {t:TF}(e:t σ h=.ok false h'):Wh t b σ h (.nx σ h'):=⟨1,by rw[dS];simp only[e]⟩
theorem zK {t:TF}{h1:Hd}{d:D}(e:t σ h=.ok true h1)(q:b σ h1=.rt d h'):Wh t b σ h (.rt d h'):=⟨1,by rw[dS];simp only[e,q]⟩
theorem qa {t:TF}{σ':Sd}{h1:Hd}{o:Out}(e:t σ h=.ok true h1)(q:b σ h1=.nx σ' h')(r:Wh t b σ' h' o):Wh t b σ h o:=by
 obtain⟨N,r⟩:=r;exact⟨N + 1,by rw[dS];simp only[e,q];exact r⟩
theorem wP {t:TF}{o:Out}(w:Wh t b σ h o)(a:o ≠ .bad):kC t b σ h=o:=by
 obtain⟨N,w⟩:=w;exact AI w a
theorem qb {a:EF}{h1:Hd}{x:D}(p:a σ h=.ok x h1):ao ju a (fC .non) σ h=.ok (.bl (rK x)) h1:=ar p rfl rfl
abbrev TW1:TF:=jr (tE (ao oLt (aa 3) (cr (lOf (aa 1))))) (tE (ao oEq (fAt (aL (dY 32 (fAt (aa 1) (aa 3)))) (fC (.int 0))) (fC (.str [116,105,101]))))
abbrev TW2:TF:=tE (ao oLt (aa 3) (cr (lOf (aa 1))))
abbrev No (k:Nat):D:=.tup [.non,.int k]
section
variable {X:D} {n lk:Nat} {L:List (List Nat)} {h:Hd}
theorem Dn (tL:∀l∈L,Tx l)(ll:L.length<=100000)(Q:h[lk]? = some (.lst (L.map D.str))):∀(o:List (List Nat)) (acc:List Tie) (g:Hd) (z:Option D),L.drop (1 + acc.length)=o->RT n acc->1 + acc.length<=L.length->
  (∃T m,eM n acc o=(false,T,m)/\∃g',Wh TW1 eJ [some X,some (.ref lk),some (.int n),some (.int ((1 + acc.length:Nat):Int)),some (.ref h.length),z,none,none] (h ++ .lst (acc.map bq) :: g) (.rt (No (1 + T.length)) (h++g')))\/
  (∃T m,eM n acc o=(true,T,m)/\((∃r,m=cX :: r)/\(∃g',Wh TW1 eJ [some X,some (.ref lk),some (.int n),some (.int ((1 + acc.length:Nat):Int)),some (.ref h.length),z,none,none] (h ++ .lst (acc.map bq) :: g) (.rt (No (1 + T.length)) (h++g')))\/
   ∃z' g',Wh TW1 eJ [some X,some (.ref lk),some (.int n),some (.int ((1 + acc.length:Nat):Int)),some (.ref h.length),z,none,none] (h ++ .lst (acc.map bq) :: g) (.nx [some X,some (.ref lk),some (.int n),some (.int ((1 + T.length:Nat):Int)),some (.ref h.length),z',none,none] (h ++ .lst (T.map bq) :: g'))))
 | [],acc,g,z,hd,_,hle=>by
  have e:1 + acc.length=L.length:=by
   have:=congrArg List.length hd;rw[Z9]at this;simp at this;omega
  refine .inr ⟨acc,[],rfl,.inr ⟨z,g,uO (ly (aE (ar rfl (bZ (bG rfl (aK (aC _ Q)))) (xZ (by rw[ZA];omega)))))⟩⟩
 | l :: r,acc,g,z,hd,U,hle=>by
  have K:L[1 + acc.length]? = some l:=by
   have:=congrArg (λx=>x[0]?) hd;simpa using this
  have lt:=(yE.mp K).1;have hr:L.drop (1 + (acc.length + 1))=r:=by
   have:=congrArg (List.drop 1) hd;rw[W2]at this;rw[<-Nat.add_assoc];simpa using this
  have tl:Tx l:=tL l (ZJ K);obtain⟨M,R0,f⟩ : ∃M R0,aX 32 l=M :: R0:=by
   cases e:aX 32 l with
   | nil=>exact absurd e (eK _ _)
   | cons a b=>exact⟨a,b,rfl⟩
  have sl:=kh 32 l;have a1:=tl.ln;obtain⟨H,w⟩ : ∃H,H=h++aO.lst (acc.map bq) :: g:=⟨_,rfl⟩;obtain⟨W,S⟩ : ∃W,W=(aX 32 l).map D.str:=⟨_,rfl⟩;have N:(H++[aO.lst W])[h.length]? = some (.lst (acc.map bq)):=by rw[w];exact aC _ cz
  have O:H[lk]? = some (.lst (L.map D.str)):=by rw[w];exact aC _ Q
  have Z:fAt (aa 1) (aa 3) [some X,some (.ref lk),some (.int n),some (.int ((1 + acc.length:Nat):Int)),some (.ref h.length),z,none,none] H=.ok (.str l) H:=bz rfl rfl (aK O) (dw (by rw[ZP,K];rfl));have V:fAt (aa 1) (aa 3) [some X,some (.ref lk),some (.int n),some (.int ((1 + acc.length:Nat):Int)),some (.ref h.length),z,none,none] (H++[aO.lst W])=.ok (.str l) (H++[aO.lst W]):=bz rfl rfl (aK (aC _ O)) (dw (by rw[ZP,K];rfl));have v:TW1 [some X,some (.ref lk),some (.int n),some (.int ((1 + acc.length:Nat):Int)),some (.ref h.length),z,none,none] H=.ok (decide (M=cX)) (H++[aO.lst W]):=by
   refine i5 (aE (ar rfl (bZ (bG rfl (aK O))) (ya (by rw[ZA];omega)))) (aE (ar (bz (bo (xs:=W) (h':=H) (by rw[S];exact iG Z (by omega)) (by rw[S];simp[SZ];omega)) rfl (aK ZF) (by rw[S,f];exact wm _ _)) rfl rfl))
  rw[<-w]
  by_cases c:M=cX
  ·rw[x8 c]at v
   have tk:=Hf (n:=n) tl (H++[aO.lst W]);have t1:aB (gN 5) (au lH (ae (fAt (aa 1) (aa 3)) (ae (aa 2) am))) [some X,some (.ref lk),some (.int n),some (.int ((1 + acc.length:Nat):Int)),some (.ref h.length),z,none,none] (H++[aO.lst W])=.nx [some X,some (.ref lk),some (.int n),some (.int ((1 + acc.length:Nat):Int)),some (.ref h.length),some (jp (cI n l)),none,none] (H++[aO.lst W]):=aH (aD (dA V rfl) tk);have E:∀{k:Hd},tOr (tE (ao ju (aa 5) (fC .non))) (jr (tE (ao oNe (aa 4) (aL am))) (tE (ao Cy (eV (fAt (aa 4) (fC (.int (-1)))) pNo (pAt (fC (.int 2)))) (eV (aa 5) pNo (pAt (fC (.int 2))))))) [some X,some (.ref lk),some (.int n),some (.int ((1 + acc.length:Nat):Int)),some (.ref h.length),some (jp (cI n l)),none,none] (H++[aO.lst W])=.ok true k->Wh TW1 eJ [some X,some (.ref lk),some (.int n),some (.int ((1 + acc.length:Nat):Int)),some (.ref h.length),z,none,none] H (.rt (No (1 + acc.length)) k):=λ{k} e =>
    zK v (sx t1 (cx ((dN e).trans (bc (cS (dA rfl rfl))))))
   have F:∃g',H++[aO.lst W] = h++g':=⟨_,by rw[w,ZT]⟩;have j:cI n l=none->∃g',Wh TW1 eJ [some X,some (.ref lk),some (.int n),some (.int ((1 + acc.length:Nat):Int)),some (.ref h.length),z,none,none] H (.rt (No (1 + acc.length)) (h++g')):=λe=>by
    obtain⟨g',R⟩:=F;refine⟨g',?_⟩;rw[<-R];exact E (c8 (aE ((qb rfl).trans (by rw[e];rfl))))
   by_cases I:isT l
   ·rw[eM,yD I]
    cases B:cI n l with
    | none=>exact .inl ⟨acc,l :: r,rfl,j B⟩
    | some t =>
     have hx:=(uJ B).2;have f1:tE (ao ju (aa 5) (fC .non)) [some X,some (.ref lk),some (.int n),some (.int ((1 + acc.length:Nat):Int)),some (.ref h.length),some (jp (cI n l)),none,none] (H++[aO.lst W])=.ok false (H++[aO.lst W]):=aE ((qb rfl).trans (by rw[B];rfl));have J:tE (ao oNe (aa 4) (aL am)) [some X,some (.ref lk),some (.int n),some (.int ((1 + acc.length:Nat):Int)),some (.ref h.length),some (jp (cI n l)),none,none] (H++[aO.lst W])=.ok (!acc.isEmpty) (H++[aO.lst W]++[aO.lst []]):=by
      refine aE (ar rfl (bo rfl) ?_);show (match eqG (H++[aO.lst W]++[aO.lst []]) (.ref h.length) (.ref (H++[aO.lst W]).length) with|some b=>Res.ok (D.bl (!b)) (H++[aO.lst W]++[aO.lst []])|none=>.bad)=_;rw[Dh (σ:=[some (.ref h.length)]) (i:=0) N rfl]
     have A:∃k,(k=H++[aO.lst W]++[aO.lst []])/\jr (tE (ao oNe (aa 4) (aL am))) (tE (ao Cy (eV (fAt (aa 4) (fC (.int (-1)))) pNo (pAt (fC (.int 2)))) (eV (aa 5) pNo (pAt (fC (.int 2)))))) [some X,some (.ref lk),some (.int n),some (.int ((1 + acc.length:Nat):Int)),some (.ref h.length),some (jp (cI n l)),none,none] (H++[aO.lst W])=.ok (!nxt acc t.a t.b) k:=by
      refine⟨_,rfl,?_⟩;rcases List.eq_nil_or_concat acc with e|⟨Y,s,e⟩
      ·rw[e]at J ⊢
       exact ly J
      ·have en:acc.isEmpty=false:=by rw[e];simp
       rw[en]at J;have nx:nxt acc t.a t.b=lexLt [(s.a:Int),s.b] [(t.a:Int),t.b]:=by unfold nxt;rw[e,X6,List.getLast?_concat]
       rw[nx];refine i5 J (aE (ar (je (bz (l:=acc.map bq) (d:=bq s) rfl rfl (aK (aC _ N)) (by rw[e,X6,ZQ];exact kS))) (je (x:=.int t.a) (y:=.int t.b) (z:=.int t.w) (by rw[B];rfl)) rfl))
     obtain⟨k,p,A⟩:=A;have G:∃g',k=h++g':=⟨_,by rw[p,w,ZT,ZT]⟩;simp only;cases hn:nxt acc t.a t.b with
     | false =>
      rw[wR (by simp)];rw[hn]at A;obtain⟨g',R⟩:=G;exact .inl ⟨acc,l :: r,rfl,g',by rw[<-R];exact E (bA f1 A)⟩
     | true =>
      rw[yD rfl];rw[hn]at A;have la:acc.length < 100000:=by omega
      have C:k[h.length]? = some (.lst (acc.map bq)):=by rw[p];exact aC _ N
      have t3:eP (fO (aa 4) (aa 5)) [some X,some (.ref lk),some (.int n),some (.int ((1 + acc.length:Nat):Int)),some (.ref h.length),some (jp (cI n l)),none,none] k=.nx [some X,some (.ref lk),some (.int n),some (.int ((1 + acc.length:Nat):Int)),some (.ref h.length),some (jp (cI n l)),none,none] (h ++ .lst ((acc++[t]).map bq) :: (g++[.lst W,.lst []])):=by
       refine(fQ (i6 rfl C rfl C (by simp[SZ];omega))).trans ?_;rw[p,w,ZT (h++aO.lst (acc.map bq) :: g),pV,B,ZQ];rfl
      have t4:aB (gN 3) (ao b7 (aa 3) (fC (.int 1))) [some X,some (.ref lk),some (.int n),some (.int ((1 + acc.length:Nat):Int)),some (.ref h.length),some (jp (cI n l)),none,none] (h ++ .lst ((acc++[t]).map bq) :: (g++[.lst W,.lst []]))=.nx [some X,some (.ref lk),some (.int n),some (.int ((1 + (acc++[t]).length:Nat):Int)),some (.ref h.length),some (jp (cI n l)),none,none] (h ++ .lst ((acc++[t]).map bq) :: (g++[.lst W,.lst []])):=by
       refine(aH (ar rfl rfl rfl)).trans ?_;have:((1 + acc.length:Nat):Int) + 1=((1 + (acc++[t]).length:Nat):Int):=by simp;omega
       rw[<-this];rfl
      have P:eJ [some X,some (.ref lk),some (.int n),some (.int ((1 + acc.length:Nat):Int)),some (.ref h.length),z,none,none] (H++[aO.lst W])=.nx [some X,some (.ref lk),some (.int n),some (.int ((1 + (acc++[t]).length:Nat):Int)),some (.ref h.length),some (jp (cI n l)),none,none] (h ++ .lst ((acc++[t]).map bq) :: (g++[.lst W,.lst []])):=sx t1 (sx ((cW (bA f1 A)).trans rfl) (sx t3 t4));have a0:RT n (acc++[t]):=⟨YZ.mpr ⟨U.up,by simp,λs f u hu=>by rw[Z5.mp hu];exact zH U.up hn s f⟩,λs f=>by
       rcases Z0.mp f with f|f
       ·exact U.ok s f
       ·rw[Z5.mp f];exact hx⟩
      have ih:=Dn tL ll Q r (acc++[t]) (g++[.lst W,.lst []]) (some (jp (cI n l))) (by rw[ZB];exact hr) a0 (by simp;omega);rcases ih with ⟨T,m,e,g',q⟩|⟨T,m,e,⟨hr',g',q⟩|⟨z',g',q⟩⟩
      ·exact .inl ⟨T,m,e,g',qa v P q⟩
      ·exact .inr ⟨T,m,e,.inl ⟨hr',g',qa v P q⟩⟩
      ·exact .inr ⟨T,m,e,.inr ⟨z',g',qa v P q⟩⟩
   ·have e:=yq (by rw[f,c]) I
    rw[eM,wR I];refine .inr ⟨acc,l :: r,rfl,.inl ⟨⟨r,by rw[e]⟩,j (by rw[e];exact De n)⟩⟩
  ·rw[y0 c]at v
   have I : ¬isT l:=λz=>by
    obtain⟨r0,e⟩:=AX z;rw[f]at e;exact c (by injection e)
   rw[eM,wR I];refine .inr ⟨acc,l :: r,rfl,.inr ⟨z,g++[.lst W],?_⟩⟩;have:=uO (b:=eJ) v;have eh:H++[aO.lst W] = h ++ .lst (acc.map bq) :: (g++[.lst W]):=by rw[w];simp
   rw[eh]at this;exact this
end
theorem uP {a b:aO}{g:Hd}:(h++a :: b :: g)[h.length + 1]? = some b:=by
 rw[ZD (by omega),WH];rfl
theorem EO {a b c:aO}{g:Hd}:(h++a :: b :: g).set (h.length + 1) c=h++a :: c :: g:=by
 rw[WR _ _ (by omega),WH];rfl
abbrev F0:List Nat:=[102,114,101,101]
abbrev F1:List Nat:=[115,116,97,121,115,32,48]
abbrev F2:List Nat:=[115,116,97,121,115,32,49]
theorem sL (l:List Nat):(l=F0/\b0 l=some none)\/(l=F1/\b0 l=some (some 0))\/(l=F2/\b0 l=some (some 1))\/(l≠F0/\l≠F1/\l≠F2/\b0 l=none):=by
 by_cases b:l=F0
 ·subst b;exact .inl ⟨rfl,rfl⟩
 by_cases c:l=F1
 ·subst c;exact .inr (.inl ⟨rfl,rfl⟩)
 by_cases a:l=F2
 ·subst a;exact .inr (.inr (.inl ⟨rfl,rfl⟩))
 refine .inr (.inr (.inr ⟨b,c,a,?_⟩));unfold b0 fU qS;simp only[List.lookup,beq_eq_false_iff_ne.mpr b,beq_eq_false_iff_ne.mpr c,beq_eq_false_iff_ne.mpr a]
theorem yx (l:List Nat)(h:Hd):oQ (.str l) (.tup [.str F0,.str F1,.str F2]) h=.ok (.bl (b0 l).isNone) h:=by
 have e:inL h (.str l) (.tup [.str F0,.str F1,.str F2])=some (b0 l).isSome:=by
  show some ((F0 == l) || ((F1 == l) || ((F2 == l) || false)))=_;rcases sL l with ⟨rfl,e⟩|⟨rfl,e⟩|⟨rfl,e⟩|⟨c,d,a,e⟩
  ·rw[e];rfl
  ·rw[e];rfl
  ·rw[e];rfl
  ·rw[e,beq_eq_false_iff_ne.mpr (YV c),beq_eq_false_iff_ne.mpr (YV d),beq_eq_false_iff_ne.mpr (YV a)];rfl
 show (match inL h (.str l) (.tup [.str F0,.str F1,.str F2]) with|some b=>Res.ok (D.bl (!b)) h|none=>.bad)=_;rw[e];cases b0 l<;>rfl
theorem Do {l:List Nat}{o:Option Int}(a:b0 l=some o){e:EF}(he:∀g,e σ (h++g)=.ok (.str l) (h++g)) :
  fIx (ae (fC .non) (ae (fC (.int 0)) (ae (fC (.int 1)) am))) (iy (aL (ae (fC (.str F0)) (ae (fC (.str F1)) (ae (fC (.str F2)) am)))) e) σ h=.ok (bC o) (h++[.lst [.str F0,.str F1,.str F2]]):=by
 have b:∀{k:Nat},[D.str F0,.str F1,.str F2].findIdx (λz=>eqF z (.str l))=k->([D.str F0,.str F1,.str F2].any λz=>eqF z (.str l))=true->iy (aL (ae (fC (.str F0)) (ae (fC (.str F1)) (ae (fC (.str F2)) am)))) e σ h=.ok (.int k) (h++[.lst [.str F0,.str F1,.str F2]]):=λ{k} f d=>by
  have n:aL (ae (fC (.str F0)) (ae (fC (.str F1)) (ae (fC (.str F2)) am))) σ h=.ok (.ref h.length) (h++[.lst [.str F0,.str F1,.str F2]]):=bo rfl;have g:cU (h++[.lst [D.str F0,.str F1,.str F2]]) (.ref h.length)=some [.str F0,.str F1,.str F2]:=by
   simp only[cU,ZF]
  unfold iy;rw[n,az];simp only[g];rw[he,az];simp only[g];have c:(cN (.str l) && [D.str F0,.str F1,.str F2].all cN && ([D.str F0,.str F1,.str F2].any λz=>eqF z (.str l)) && decide ([D.str F0,.str F1,.str F2].length<=1000))=true:=by rw[d];rfl
  rw[yD c,f]
 rcases sL l with ⟨rfl,q⟩|⟨rfl,q⟩|⟨rfl,q⟩|⟨_,_,_,q⟩
 ·rw[q]at a;cases a
  exact jo rfl (b (k:=0) rfl rfl) rfl
 ·rw[q]at a;cases a
  exact jo rfl (b (k:=1) rfl rfl) rfl
 ·rw[q]at a;cases a
  exact jo rfl (b (k:=2) rfl rfl) rfl
 ·rw[q]at a;cases a
section
variable {X z:D} {n lk tk:Nat} {zo:Option D} {L:List (List Nat)} {h:Hd}
theorem yy (F:∀l∈L,Tx l)(M:L.length<=100000)(K:n<=30)(w:h[lk]? = some (.lst (L.map D.str))):∀(t:List (List Nat)) (p:Nat) (bs:List Int) (ss:List (Option Int)) (g:Hd),L.drop p=t->p<=L.length->bs.length<=n->ss.length<=n->
  match eO n p bs ss t with
  | .inl k=>∃g',Wh TW2 iE [some X,some (.ref lk),some (.int n),some (.int p),some (.ref tk),zo,some (.ref h.length),some (.ref (h.length + 1))] (h ++ .lst (bs.map .int) :: .lst (ss.map bC) :: g) (.rt (No k) (h++g'))
  | .inr (bs',ss')=>∃g',Wh TW2 iE [some X,some (.ref lk),some (.int n),some (.int p),some (.ref tk),zo,some (.ref h.length),some (.ref (h.length + 1))] (h ++ .lst (bs.map .int) :: .lst (ss.map bC) :: g) (.nx [some X,some (.ref lk),some (.int n),some (.int (L.length:Nat)),some (.ref tk),zo,some (.ref h.length),some (.ref (h.length + 1))] (h ++ .lst (bs'.map .int) :: .lst (ss'.map bC) :: g'))
 | [],p,bs,ss,g,hd,hle,_,_=>by
  have e:p=L.length:=by
   have:=congrArg List.length hd;rw[Z9]at this;simp at this;omega
  subst e;rw[eO];exact⟨g,uO (aE (ar rfl (bZ (bG rfl (aK (aC _ w)))) (xZ (by rw[ZA];omega))))⟩
 | l :: r,p,bs,ss,g,hd,hle,R,P=>by
  have G:L[p]? = some l:=by
   have:=congrArg (λx=>x[0]?) hd;simpa using this
  have lt:=(yE.mp G).1;have N:L.drop (p + 1)=r:=by
   have:=congrArg (List.drop 1) hd;rw[W2]at this;simpa using this
  have S:Tx l:=F l (ZJ G);have m:∀g',fAt (aa 1) (aa 3) [some X,some (.ref lk),some (.int n),some (.int p),some (.ref tk),zo,some (.ref h.length),some (.ref (h.length + 1))] (h++g')=.ok (.str l) (h++g'):=λg'=>bz rfl rfl (aK (aC _ w)) (dw (by rw[ZP,G];rfl));obtain⟨H,d⟩ : ∃H,H=h++aO.lst (bs.map D.int) :: .lst (ss.map bC) :: g:=⟨_,rfl⟩;have i:TW2 [some X,some (.ref lk),some (.int n),some (.int p),some (.ref tk),zo,some (.ref h.length),some (.ref (h.length + 1))] H=.ok true H:=aE (ar rfl (bZ (bG rfl (aK (by rw[d];exact aC _ w)))) (ya (by rw[ZA];omega)));have B:H[h.length]? = some (.lst (bs.map D.int)):=by rw[d];exact cz
  have E:H[h.length + 1]? = some (.lst (ss.map bC)):=by rw[d];exact uP
  have I:∀{g':Hd},aB (gN 3) (ao b7 (aa 3) (fC (.int 1))) [some X,some (.ref lk),some (.int n),some (.int p),some (.ref tk),zo,some (.ref h.length),some (.ref (h.length + 1))] g'=.nx [some X,some (.ref lk),some (.int n),some (.int ((p + 1:Nat):Int)),some (.ref tk),zo,some (.ref h.length),some (.ref (h.length + 1))] g':=λ{g'}=>aH (ar rfl rfl rfl);rw[<-d,eO];have f:ao oLt (cr (lOf (aa 6))) (aa 2) [some X,some (.ref lk),some (.int n),some (.int p),some (.ref tk),zo,some (.ref h.length),some (.ref (h.length + 1))] H=.ok (.bl (decide ((bs.length:Int) < n))) H:=by
   have:=ar (bZ (bG (a:=aa 6) (σ:=[some X,some (.ref lk),some (.int n),some (.int p),some (.ref tk),zo,some (.ref h.length),some (.ref (h.length + 1))]) rfl (aK B))) (g:=oLt) (b:=aa 2) rfl rfl;rw[ZA]at this;exact this
  by_cases c:bs.length < n
  ·rw[yD c]
   rw[x8 (by omega)]at f;have s:eP (fO (aa 6) (au gE (ae (fAt (aa 1) (aa 3)) am))) [some X,some (.ref lk),some (.int n),some (.int p),some (.ref tk),zo,some (.ref h.length),some (.ref (h.length + 1))] H=.nx [some X,some (.ref lk),some (.int n),some (.int p),some (.ref tk),zo,some (.ref h.length),some (.ref (h.length + 1))] (h ++ .lst (bs.map D.int++[bC (dZ l)]) :: .lst (ss.map bC) :: g):=by
    refine(fQ (i6 rfl B (aD (ai (by rw[d];exact m _) rfl) (AY S _)) (by rw[<-d];exact B) (by simp[SZ];omega))).trans ?_;rw[kf]
   have A:ao ju (fAt (aa 6) (fC (.int (-1)))) (fC .non) [some X,some (.ref lk),some (.int n),some (.int p),some (.ref tk),zo,some (.ref h.length),some (.ref (h.length + 1))] (h ++ .lst (bs.map D.int++[bC (dZ l)]) :: .lst (ss.map bC) :: g)=.ok (.bl (rK (bC (dZ l)))) (h ++ .lst (bs.map D.int++[bC (dZ l)]) :: .lst (ss.map bC) :: g):=qb (bz rfl rfl (aK cz) kS);cases O:dZ l with
   | none =>
    rw[O]at s A;exact⟨_,zK i (cx ((dN (aE f)).trans (sx s ((dN (aE A)).trans (bc (cS (dA rfl rfl)))))))⟩
   | some b =>
    rw[O]at s A;have j:=yy F M K w r (p + 1) (bs++[b]) ss g N lt (by simp;omega) P;have u:iE [some X,some (.ref lk),some (.int n),some (.int p),some (.ref tk),zo,some (.ref h.length),some (.ref (h.length + 1))] H=.nx [some X,some (.ref lk),some (.int n),some (.int ((p + 1:Nat):Int)),some (.ref tk),zo,some (.ref h.length),some (.ref (h.length + 1))] (h ++ .lst ((bs++[b]).map D.int) :: .lst (ss.map bC) :: g):=by
     rw[ZQ];exact sx ((dN (aE f)).trans (sx s ((cW (aE A)).trans rfl))) I
    simp only;split at j
    ·obtain⟨g',q⟩:=j;exact⟨g',qa i u q⟩
    ·obtain⟨g',q⟩:=j;exact⟨g',qa i u q⟩
  ·rw[wR c]
   rw[y0 (by omega)]at f;have v:ao oEq (cr (lOf (aa 7))) (aa 2) [some X,some (.ref lk),some (.int n),some (.int p),some (.ref tk),zo,some (.ref h.length),some (.ref (h.length + 1))] H=.ok (.bl (decide ((ss.length:Int)=n))) H:=by
    have:=ar (bZ (bG (a:=aa 7) (σ:=[some X,some (.ref lk),some (.int n),some (.int p),some (.ref tk),zo,some (.ref h.length),some (.ref (h.length + 1))]) rfl (aK E))) (g:=oEq) (b:=aa 2) rfl wn;rw[ZA]at this;exact this
   have y:ao oQ (fAt (aa 1) (aa 3)) (dR (ae (fC (.str F0)) (ae (fC (.str F1)) (ae (fC (.str F2)) am)))) [some X,some (.ref lk),some (.int n),some (.int p),some (.ref tk),zo,some (.ref h.length),some (.ref (h.length + 1))] H=.ok (.bl (b0 l).isNone) H:=ar (by rw[d];exact m _) (cS rfl) (yx l _)
   by_cases J:ss.length=n
   ·rw[yD J]
    rw[x8 (by omega)]at v;refine⟨aO.lst (bs.map D.int) :: .lst (ss.map bC) :: g,?_⟩;rw[<-d];exact zK i (cx ((cW (aE f)).trans ((dN (c8 (aE v))).trans (bc (cS (dA rfl rfl))))))
   ·rw[wR J]
    rw[y0 (by omega)]at v;cases C:b0 l with
    | none =>
     rw[C]at y;refine⟨aO.lst (bs.map D.int) :: .lst (ss.map bC) :: g,?_⟩;rw[<-d];exact zK i (cx ((cW (aE f)).trans ((dN (bA (aE v) (aE y))).trans (bc (cS (dA rfl rfl))))))
    | some o =>
     rw[C]at y;have Q:=Do C (e:=fAt (aa 1) (aa 3)) (σ:=[some X,some (.ref lk),some (.int n),some (.int p),some (.ref tk),zo,some (.ref h.length),some (.ref (h.length + 1))]) (h:=H) (λg'=>by rw[d,ZT];exact m _);have s:eP (fO (aa 7) (fIx (ae (fC .non) (ae (fC (.int 0)) (ae (fC (.int 1)) am))) (iy (aL (ae (fC (.str F0)) (ae (fC (.str F1)) (ae (fC (.str F2)) am)))) (fAt (aa 1) (aa 3))))) [some X,some (.ref lk),some (.int n),some (.int p),some (.ref tk),zo,some (.ref h.length),some (.ref (h.length + 1))] H=.nx [some X,some (.ref lk),some (.int n),some (.int p),some (.ref tk),zo,some (.ref h.length),some (.ref (h.length + 1))] (h ++ .lst (bs.map D.int) :: .lst ((ss++[o]).map bC) :: (g++[.lst [.str F0,.str F1,.str F2]])):=by
      refine(fQ (i6 rfl E Q (aC _ E) (by simp[SZ];omega))).trans ?_;rw[d,ZT,XI,XI,EO,ZQ];rfl
     have j:=yy F M K w r (p + 1) bs (ss++[o]) (g++[.lst [.str F0,.str F1,.str F2]]) N lt R (by simp;omega);have u:iE [some X,some (.ref lk),some (.int n),some (.int p),some (.ref tk),zo,some (.ref h.length),some (.ref (h.length + 1))] H=.nx [some X,some (.ref lk),some (.int n),some (.int ((p + 1:Nat):Int)),some (.ref tk),zo,some (.ref h.length),some (.ref (h.length + 1))] (h ++ .lst (bs.map D.int) :: .lst ((ss++[o]).map bC) :: (g++[.lst [.str F0,.str F1,.str F2]])):=sx ((cW (aE f)).trans ((cW (bA (aE v) (aE y))).trans s)) I;simp only;split at j
     ·obtain⟨g',q⟩:=j;exact⟨g',qa i u q⟩
     ·obtain⟨g',q⟩:=j;exact⟨g',qa i u q⟩
end
theorem mR {n:Nat}:∀{R:List (List Nat)} {p:Nat} {bs d:List Int} {ss a:List (Option Int)},bs.length<=n->ss.length<=n->(∀x∈ss,x=none\/x=some 0\/x=some 1)->(ss≠[]->bs.length=n)->eO n p bs ss R=.inr (d,a)->d.length<=n/\a.length<=n/\(∀x∈a,x=none\/x=some 0\/x=some 1)/\(a≠[]->d.length=n)
 | [],p,bs,d,ss,a,h1,i,g,h,e=>by
  rw[eO]at e;cases e;exact⟨h1,i,g,h⟩
 | l :: r,p,bs,d,ss,a,h1,i,g,h,e=>by
  rw[eO]at e;split at e
  ·rename_i c
   split at e
   ·rename_i b _
    exact mR (by simp;omega) i g (λz=>by have:=h z;omega) e
   ·cases e
  ·rename_i c
   split at e
   ·cases e
   ·split at e
    ·rename_i o j
     exact mR h1 (by simp;omega) (λx f=>by
      rcases Z0.mp f with f|f
      ·exact g x f
      ·rw[Z5.mp f];exact zI j) (λ_=>by omega) e
    ·cases e
theorem sM {X:List Nat}(t:Tx X)(h:Hd):fJ [.str X] h=.ok (uN (rdG (aX 10 X))) h:=by
 have len:=t.ln;obtain⟨L,W⟩ : ∃L,L=aX 10 X:=⟨_,rfl⟩;have ll:L.length<=100000:=by have:=kh 10 X;rw[W];omega
 have tL:∀l∈L,Tx l:=λl hl=>t.part (c:=10) (by rw[<-W];exact hl);obtain⟨f,C⟩ : ∃f,f=h++[aO.lst (L.map D.str)]:=⟨_,rfl⟩;have s1:aB (gN 1) (aL (dY 10 (aa 0))) [some (.str X),none,none,none,none,none,none,none] h=.nx [some (.str X),some (.ref h.length),none,none,none,none,none,none] f:=by
  have q:=iG (c:=10) (a:=aa 0) (σ:=[some (.str X),none,none,none,none,none,none,none]) (h:=h) rfl (by omega);rw[<-W]at q;rw[C];exact aH (bo q (by rw[ZA];simp only[SZ];omega))
 have l1:f[h.length]? = some (.lst (L.map D.str)):=by rw[C];exact ZF
 rw[<-W];obtain⟨y,R,O⟩ : ∃y R,L=y :: R:=by
  cases e:L with
  | nil=>exact absurd (W.symm.trans e) (eK _ _)
  | cons a b=>exact⟨a,b,rfl⟩
 have t0:Tx y:=tL y (by rw[O];simp);have a5:=t0.ln;have d1:∀k,L.drop (1 + k)=R.drop k:=λk=>by rw[O,Nat.add_comm,VA]
 have lR:L.length=R.length + 1:=by rw[O];rfl
 have at0:∀{z:Option D},fAt (aa 1) (fC (.int 0)) [some (.str X),some (.ref h.length),z,none,none,none,none,none] f=.ok (.str y) f:=λ{z}=>bz rfl rfl (aK l1) (by rw[O];exact wm _ _);obtain⟨m,hm⟩ : ∃m,m=num (y.drop 7):=⟨_,rfl⟩;have s2:aB (gN 2) (au bK (ae (br (fAt (aa 1) (fC (.int 0))) (pAt (fC (.int 7))) pNo) am)) [some (.str X),some (.ref h.length),none,none,none,none,none,none] f=.nx [some (.str X),some (.ref h.length),some (jb m),none,none,none,none,none] f:=by
  rw[hm];exact aH (aD (ai (oj (k:=7) at0 rfl (by omega)) rfl) (kg (t0.drop 7) _))
 have J:ao oNe (br (fAt (aa 1) (fC (.int 0))) pNo (pAt (fC (.int 7)))) (fC (.str [112,101,111,112,108,101,32])) [some (.str X),some (.ref h.length),some (jb m),none,none,none,none,none] f=.ok (.bl (!decide (y.take 7=[112,101,111,112,108,101,32]))) f:=ar (Dg (k:=7) at0 rfl (by omega)) rfl rfl;have F:=AW y;rw[<-hm]at F;have U:∃g,f=h++g:=⟨_,C⟩;have u:tOr (tE (ao oNe (br (fAt (aa 1) (fC (.int 0))) pNo (pAt (fC (.int 7)))) (fC (.str [112,101,111,112,108,101,32])))) (tOr (tE (ao ju (aa 2) (fC .non))) (dh (tE (fN oLt oLt (fC (.int 0)) (aa 2) (fC (.int 31)))))) [some (.str X),some (.ref h.length),some (jb m),none,none,none,none,none] f=.ok true f->dF y=none->fJ [.str X] h=.ok (uN (rdG L)) h:=λe pn=>by
  have:rdG L=.bad 0:=by rw[O,rdG,pn]
  rw[this];refine(bJ rfl rfl (sx s1 (sx s2 (cx ((dN e).trans (bc (cS (dA rfl rfl)))))))).trans ?_;obtain⟨g,hg⟩:=U;rw[hg];exact cD rfl
 by_cases c1:y.take 7=[112,101,111,112,108,101,32]
 rotate_left
 ·rw[wR c1]at F
  rw[y0 c1]at J;exact u (c8 (aE J)) F
 rw[yD c1]at F;rw[x8 c1]at J;cases em:m with
 | none =>
  rw[em]at F;exact u (bA (aE J) (c8 (aE ((qb rfl).trans (by rw[em];rfl))))) F
 | some n =>
  rw[em]at F s2 J u;have f2:tE (ao ju (aa 2) (fC .non)) [some (.str X),some (.ref h.length),some (jb (some n)),none,none,none,none,none] f=.ok false f:=aE ((qb (x:=jb (some n)) rfl).trans rfl);have f3:=pX (a:=fC (.int 0)) (b:=aa 2) (c:=fC (.int 31)) (σ:=[some (.str X),some (.ref h.length),some (jb (some n)),none,none,none,none,none]) (h:=f) (i:=0) (j:=n) (k:=31) rfl rfl rfl
  by_cases c2:0 < n/\n < 31
  rotate_left
  ·have:(decide ((0:Int) < n) && decide ((n:Int) < 31))=false:=by rw[<-Bool.not_eq_true];intro q;simp at q;omega
   rw[this]at f3;exact u (bA (aE J) (bA f2 (bu (aE f3)))) (F.trans (wR c2))
  have:(decide ((0:Int) < n) && decide ((n:Int) < 31))=true:=by simp;omega
  rw[this]at f3;have pn:dF y=some n:=F.trans (yD c2);have K:1<=n:=c2.1;have hn:n<=30:=by omega
  have s3:=(cW (a:=bx (dR (ae (fC .non) (ae (fC (.int 0)) am)))) (b:=bB) (bA (aE J) (bA f2 (bu (aE f3))))).trans (show bB [some (.str X),some (.ref h.length),some (.int n),none,none,none,none,none] f=_ from rfl);have s4:aB (gN 3) (fC (.int 1)) [some (.str X),some (.ref h.length),some (.int n),none,none,none,none,none] f=.nx [some (.str X),some (.ref h.length),some (.int n),some (.int 1),none,none,none,none] f:=aH rfl;have s5:aB (gN 4) (aL am) [some (.str X),some (.ref h.length),some (.int n),some (.int 1),none,none,none,none] f=.nx [some (.str X),some (.ref h.length),some (.int n),some (.int 1),some (.ref f.length),none,none,none] (f++[.lst []]):=aH (bo rfl);have s:∀{d:D} {g':Hd} {b:SF},pure? d=true->b [some (.str X),some (.ref h.length),some (.int n),some (.int 1),some (.ref f.length),none,none,none] (f++[.lst []])=.rt d (f++g')->
    bQ 1 8 (ay (aB (gN 1) (aL (dY 10 (aa 0)))) (ay (aB (gN 2) (au bK (ae (br (fAt (aa 1) (fC (.int 0))) (pAt (fC (.int 7))) pNo) am))) (ay (sIf (tOr (tE (ao oNe (br (fAt (aa 1) (fC (.int 0))) pNo (pAt (fC (.int 7)))) (fC (.str [112,101,111,112,108,101,32])))) (tOr (tE (ao ju (aa 2) (fC .non))) (dh (tE (fN oLt oLt (fC (.int 0)) (aa 2) (fC (.int 31))))))) (bx (dR (ae (fC .non) (ae (fC (.int 0)) am)))) bB) (ay (aB (gN 3) (fC (.int 1))) (ay (aB (gN 4) (aL am)) b))))) [.str X] h=.ok d h:=λ{d g' b} hp e=>by
   refine(bJ rfl rfl (sx s1 (sx s2 (sx s3 (sx s4 (sx s5 e)))))).trans ?_;rw[C,ZT];exact cD hp
  have rd:rdG L=match eM n [] R with
    | (false,T,_)=>.bad (1 + T.length)
    | (true,T,B)=>A6 n T B:=by
   rw[O,rdG,pn];simp only;cases eM n [] R with
   | mk b TR =>
    obtain⟨T,B⟩:=TR;cases b with
    | false=>rfl
    | true=>exact(EN K T B).symm
  rw[rd];have lt:=Dn (X:=.str X) (n:=n) tL ll l1 R [] [] none (d1 0) ⟨.nil,by simp⟩ (by simp;omega);rcases lt with ⟨T,B,e,g',q⟩|⟨T,B,e,⟨⟨r,er⟩,g',q⟩|⟨z,g',q⟩⟩
  ·rw[e]
   exact s rfl (cx (wP q (by intro z;cases z)))
  ·rw[e,er]
   simp only;rw[Hg K];exact s rfl (cx (wP q (by intro z;cases z)))
  ·rw[e]
   simp only;obtain⟨rt,_,eR,lT⟩:=uM (n:=n) (acc:=[]) ⟨.nil,by simp⟩ e;rw[Z3,Nat.sub_zero]at eR lT;have Z:=wP q (by intro z;cases z);obtain⟨o,E⟩ : ∃o,o=f ++ .lst (T.map bq) :: g':=⟨_,rfl⟩;rw[<-E]at Z;have lb:o[h.length]? = some (.lst (L.map D.str)):=by rw[E];exact aC _ l1
   have tb:o[f.length]? = some (.lst (T.map bq)):=by rw[E];exact cz
   have s7:aB (gN 6) (aL am) [some (.str X),some (.ref h.length),some (.int n),some (.int ((1 + T.length:Nat):Int)),some (.ref f.length),z,none,none] o=.nx [some (.str X),some (.ref h.length),some (.int n),some (.int ((1 + T.length:Nat):Int)),some (.ref f.length),z,some (.ref o.length),none] (o++[.lst []]):=aH (bo rfl);have s8:aB (gN 7) (aL am) [some (.str X),some (.ref h.length),some (.int n),some (.int ((1 + T.length:Nat):Int)),some (.ref f.length),z,some (.ref o.length),none] (o++[.lst []])=.nx [some (.str X),some (.ref h.length),some (.int n),some (.int ((1 + T.length:Nat):Int)),some (.ref f.length),z,some (.ref o.length),some (.ref (o.length + 1))] (o ++ .lst ([].map D.int) :: .lst ([].map bC) :: []):=by
    have:=aH (i:=7) (bo (r:=am) (σ:=[some (.str X),some (.ref h.length),some (.int n),some (.int ((1 + T.length:Nat):Int)),some (.ref f.length),z,some (.ref o.length),none]) (h:=o++[.lst []]) rfl);rw[ZB,ZT]at this;exact this
   have lr:=yy (X:=.str X) (tk:=f.length) (zo:=z) (n:=n) tL ll hn lb B (1 + T.length) [] [] [] (by rw[d1,eR]) (by omega) (by simp) (by simp);have a2:B.length=R.length - T.length:=by rw[eR,Z9]
   have S:∀N,∃P,o++N=f++P:=λN=>⟨_,by rw[E,ZT]⟩;unfold A6;cases ew:eO n (1 + T.length) [] [] B with
   | inl k =>
    rw[ew]at lr;obtain⟨N,Y⟩:=lr;obtain⟨P,G⟩:=S N;rw[G]at Y;exact s rfl (sx Z (sx s7 (sx s8 (cx (wP Y (by intro z;cases z))))))
   | inr p =>
    obtain⟨Q,I⟩:=p;obtain⟨a3,a4,os,a1⟩:=mR (by simp) (by simp) (by simp) (λz=>absurd rfl z) ew;rw[ew]at lr;obtain⟨N,Y⟩:=lr;have V:=wP Y (by intro z;cases z);obtain⟨A,w⟩ : ∃A,A=o++aO.lst (Q.map D.int) :: .lst (I.map bC) :: N:=⟨_,rfl⟩;rw[<-w]at V;have gB:A[o.length]? = some (.lst (Q.map D.int)):=by rw[w];exact cz
    have gS:A[o.length + 1]? = some (.lst (I.map bC)):=by rw[w];exact uP
    have gT:A[f.length]? = some (.lst (T.map bq)):=by rw[w];exact aC _ tb
    have gL:A[h.length]? = some (.lst (L.map D.str)):=by rw[w];exact aC _ lb
    obtain⟨P,G⟩ : ∃P,A=f++P:=by rw[w];exact S _
    have v:ao oLt (cr (lOf (aa 7))) (aa 2) [some (.str X),some (.ref h.length),some (.int n),some (.int (L.length:Nat)),some (.ref f.length),z,some (.ref o.length),some (.ref (o.length + 1))] A=.ok (.bl (decide ((I.length:Int) < n))) A:=by
     have:=ar (bZ (bG (a:=aa 7) (σ:=[some (.str X),some (.ref h.length),some (.int n),some (.int (L.length:Nat)),some (.ref f.length),z,some (.ref o.length),some (.ref (o.length + 1))]) rfl (aK gS))) (g:=oLt) (b:=aa 2) rfl rfl;rw[ZA]at this;exact this
    simp only
    by_cases c3:I.length < n
    ·rw[yD c3]
     rw[x8 (by omega)]at v;have H:cr (lOf (aa 1)) [some (.str X),some (.ref h.length),some (.int n),some (.int (L.length:Nat)),some (.ref f.length),z,some (.ref o.length),some (.ref (o.length + 1))] A=.ok (.int ((1 + T.length + B.length:Nat):Int)) A:=(bZ (bG rfl (aK gL))).trans (by rw[ZA];congr 3;omega);rw[G]at V v H;exact s (d:=No (1 + T.length + B.length)) rfl (sx Z (sx s7 (sx s8 (sx V (cx ((dN (aE v)).trans (bc (cS (dA rfl H)))))))))
    ·rw[wR c3]
     rw[y0 (by omega)]at v;have M:I.length=n:=by omega
     have a0:Q.length=n:=a1 (λz=>by rw[z]at M;simp at M;omega);have wk:=mI K hn (rt.tok hn) a0 M os gT gB gS;rw[G]at V v wk;exact s (d:=.tup [(eu n T Q I).enc,.non]) (g':=P) (by show (pure? (eu n T Q I).enc && (true && true))=true;rw[pH];rfl) (sx Z (sx s7 (sx s8 (sx V (sx ((cW (aE v)).trans rfl) (bc (cS (dA (aD (ai rfl (ai rfl (dA rfl rfl))) wk) rfl))))))))
end Fm
namespace Fm
def nrm (t:Tie):List Int:=[if (t.b:Int) < t.a then t.b else t.a,if (t.b:Int) > t.a then t.b else t.a,t.w]
def toR (t:Tie):List Int:=[t.a,t.b,t.w]
variable {T:List Tie}{n:Nat}
theorem l7 {t:Tie}:t∈gD n T ↔ t.a < n/\t.a < t.b/\(t.b,t.w)∈nbs T t.a:=by
 have b:∀{i:Nat},i < n->(((List.range n).map λi=>cF (nbs T i)).getD i [])=cF (nbs T i):=λ{i} e=>by simp[List.getD,e]
 unfold gD;rw[iD];constructor
 ·rintro⟨a,d,c⟩
  rw[b a,eG]at c;exact⟨a,d,c⟩
 ·rintro⟨a,d,c⟩
  exact⟨a,d,by rw[b a,eG];exact c⟩
theorem qc {R:List (List (Nat × Int))}(c:∀i,(R.getD i []).Pairwise (λa b=>a.1 < b.1)):∀k,(g9 R k).Pairwise l5
 | 0=>by simp[g9]
 | k + 1=>by
  rw[g9,YZ];refine⟨qc c k,?_,λs e t d => ?_⟩
  ·unfold pL
   rw[YX];exact((c k).filter _).imp λh=>.inr ⟨rfl,h⟩
  ·obtain⟨h1,_,_⟩:=iD.mp e
   obtain⟨f,_,_⟩:=mJ.mp d;exact .inl (by omega)
theorem sN (O:TOk n n 0 T):(gD n T).Pairwise l5:=by
 unfold gD;refine qc (λi => ?_) n
 by_cases a:i < n
 ·have:(((List.range n).map λi=>cF (nbs T i)).getD i [])=cF (nbs T i):=by simp[List.getD,a]
  rw[this];exact gC (mH O.un i)
 ·have:(((List.range n).map λi=>cF (nbs T i)).getD i [])=[]:=by simp[List.getD,a]
  rw[this];exact .nil
theorem Dp {s t:Tie}(h:l5 s t):lexLt (toR s) (toR t)=true:=by
 unfold toR;rcases h with h|⟨b,a⟩
 ·rw[lexLt,wR (by omega)]
  exact x8 (by omega)
 ·rw[lexLt,yD (by omega),lexLt,wR (by omega)]
  exact x8 (by omega)
theorem yz (O:TOk n n 0 T):(T.map nrm).Nodup:=by
 rw[X5,YX];refine O.un.imp λ{s t} u e => ?_;unfold nrm at e;simp only[VF,and_true]at e;obtain⟨b,a,_⟩:=e;have d:=u.1;have c:=u.2;split at b<;>split at a<;>split at b<;>split at a<;>omega
theorem nG (O:TOk n n 0 T):bO (T.map nrm)=(gD n T).map toR:=by
 have l:((gD n T).map toR).Pairwise (λa b=>lexLt a b=true):=by
  rw[YX];exact(sN O).imp Dp
 have k:((gD n T).map toR).Nodup:=l.imp λ{a b} g e=>by subst e;rw[iX]at g;cases g
 refine mx ((dG _).trans ((List.perm_ext_iff_of_nodup (yz O) k).mpr λx => ?_)) (eT (yz O)) l;constructor
 ·intro j
  obtain⟨s,f,rfl⟩:=Z2.mp j;have lt:=O.lt s f;have ne:=O.ne s f
  by_cases c:s.a < s.b
  ·refine Z2.mpr ⟨s,l7.mpr ⟨lt.1,c,fD.mpr ⟨s,f,yD rfl,rfl⟩⟩,?_⟩
   unfold nrm toR;rw[wR (by omega),yD (by omega)]
  ·refine Z2.mpr ⟨⟨s.b,s.a,s.w⟩,l7.mpr ⟨lt.2,by show s.b < s.a;omega,fD.mpr ⟨s,f,(wR ne).trans (yD rfl),rfl⟩⟩,?_⟩
   unfold nrm toR;rw[yD (by omega),wR (by omega)]
 ·intro j
  obtain⟨t,o,rfl⟩:=Z2.mp j;obtain⟨r,q,p⟩:=l7.mp o;obtain⟨s,f,m,h⟩:=fD.mp p;have h:s.w=t.w:=h;refine Z2.mpr ⟨s,f,?_⟩;unfold nrm toR;rw[h];rcases pJ m with ⟨i,d⟩|⟨i,d⟩
  ·have d:s.b=t.b:=d
   rw[i,d,wR (by omega),yD (by omega)]
  ·have d:s.a=t.b:=d
   rw[i,d,yD (by omega),wR (by omega)]
theorem Dq {k:Nat}{h:Hd}(i:h[k]? = some (.lst (T.map bq))) :
  cV (some k) (T.map bq) (gT [0,1,2]) [] (dR (ae (tW (aa 0) (aa 1)) (ae (tU (aa 0) (aa 1)) (ae (aa 2) am)))) (T.map bq) [none,none,none] h=.ok ((T.map nrm).map eC) h:=by
 have:=cE (g:=some k) (all:=T.map bq) (tg:=gT [0,1,2]) (cs:=[]) (e:=dR (ae (tW (aa 0) (aa 1)) (ae (tU (aa 0) (aa 1)) (ae (aa 2) am)))) (h:=h) (I:=λσ=>∃a b c,σ = [a,b,c]) (λ_=>true)
  (λd=>match d with | .tup [.int a,.int b,c]=>.tup [.int (if b < a then b else a),.int (if b > a then b else a),c] | _=>.non) i (xs:=T.map bq) (σ:=[none,none,none]) (by
  rintro x f σ ⟨a,b,c,rfl⟩;obtain⟨t,j,rfl⟩:=Z2.mp f;exact⟨_,rfl,⟨_,_,_,rfl⟩,rfl,λ_=>cS (ai (GX rfl rfl) (ai (GS rfl rfl) (ai rfl rfl)))⟩) ⟨_,_,_,rfl⟩
 rw[this,YR.mpr (by simp),YI,YI];rfl
abbrev zL:EF:=iZ [32] (ae (fC (.str [116,105,101])) (ae (kH (aa 0)) (ae (kH (aa 1)) (ae (kH (aa 2)) am))))
theorem A7 (j:n<=30)(O:TOk n n 0 T){k:Nat}{h:Hd}(l:h[k]? = some (.lst (T.map bq))) :
  cV (some k) (T.map bq) (gT [0,1,2]) [] zL (T.map bq) [none,none,none] h=.ok ((T.map nR).map D.str) h:=by
 have:=cE (g:=some k) (all:=T.map bq) (tg:=gT [0,1,2]) (cs:=[]) (e:=zL) (h:=h) (I:=λσ=>∃a b c,σ = [a,b,c]) (λ_=>true)
  (λd=>match d with | .tup [.int a,.int b,.int c]=>.str (line cX [a,b,c])|_=>.non) l (xs:=T.map bq) (σ:=[none,none,none]) (by
  rintro x f σ ⟨a,b,c,rfl⟩;obtain⟨t,i,rfl⟩:=Z2.mp f;have z:=Ff j O i;have p:=hZ _ z.a;have m:=hZ _ z.b;have o:=hZ _ z.w;refine⟨_,rfl,⟨_,_,_,rfl⟩,rfl,λ_ => ?_⟩;refine pU (L:=[cX,tx t.a,tx t.b,tx t.w]) (ai rfl (ai (pT rfl z.a) (ai (pT rfl z.b) (ai (pT rfl z.w) rfl)))) (λx f => ?_) (by simp);simp only[wU,List.not_mem_nil,or_false]at f;rcases f with e|e|e|e<;>rw[e]
  ·decide
  ·omega
  ·omega
  ·omega) ⟨_,_,_,rfl⟩
 rw[this,YR.mpr (by simp),YI,YI];rfl
theorem A8 {bs:List Int}(bb:∀b∈bs,b.natAbs < 10 ^ 60){k:Nat}{h:Hd}(i:h[k]? = some (.lst (bs.map .int))) :
  cV (some k) (bs.map .int) (gN 0) [] (ao ft (fC (.str [98,97,114,32])) (kH (aa 0))) (bs.map .int) [none] h=.ok ((bs.map lY).map D.str) h:=by
 have:=cE (g:=some k) (all:=bs.map .int) (tg:=gN 0) (cs:=[]) (e:=ao ft (fC (.str [98,97,114,32])) (kH (aa 0))) (h:=h) (I:=λσ=>∃a,σ = [a]) (λ_=>true)
  (λd=>match d with | .int a=>.str (line wI [a])|_=>.non) i (xs:=bs.map .int) (σ:=[none]) (by
  rintro x f σ ⟨a,rfl⟩;obtain⟨t,c,rfl⟩:=Z2.mp f;have j:=hZ _ (bb t c);exact⟨_,rfl,⟨_,rfl⟩,rfl,λ_=>(lV (x:=[98,97,114,32]) (y:=tx t) rfl (pT rfl (bb t c)) (by simp;omega)).trans rfl⟩) ⟨_,rfl⟩
 rw[this,YR.mpr (by simp),YI,YI];rfl
theorem Dr {a:EF}{σ:Sd}{h h1:Hd}{R:List (List Int)}(p:a σ h=.ok (.ref n) h1)(q:h1[n]? = some (.lst (R.map eC)))(l:R.length < 64)(ne:∀x∈R,x≠[])(nd:R.Nodup):mr a σ h=.ok ((bO R).map eC) h1:=by
 have e:kZ (R.map eC)=some ((bO R).map eC):=by
  unfold kZ;rw[vO];exact yD ⟨by rw[ZA];exact l,X2.mpr λx b=>by have:=ne x b;cases x with|nil=>exact absurd rfl this|cons=>rfl,nd⟩
 show Res.bind _ _=_;rw[p,az];simp only[cU,q,e]
theorem jf {a b:EF}{σ:Sd}{h h1 c:Hd}{m:Nat}{l k:List D}(p:a σ h=.ok (.ref n) h1)(q:b σ h1=.ok (.ref m) c)(d:c[n]? = some (.lst l))(e:c[m]? = some (.lst k))(z:l.length + k.length<=SZ):cY a b σ h=.ok (l++k) c:=by
 show Res.bind _ _=_;rw[p,az,q,az];simp only[d,e];exact yD z
theorem zM (c:n<=30)(O:TOk n n 0 T):RT n (gD n T):=⟨sN O,λt a=>by
 have d:=(l7.mp a).2.1;have b:=(oh c O).1;exact⟨d,(b.lt t a).2,b.wt t a⟩⟩
theorem zN (a:n<=6)(O:TOk n n 0 T):T.length<=36/\(gD n T).length<=36:=by
 have d:=(zM (by omega) O).len;have b:(T.map nrm).length=((gD n T).map toR).length:=by rw[<-nG O];exact(dG _).length_eq.symm
 have c:n * n<=36:=Nat.mul_le_mul a a;simp at b;omega
theorem Hi {o:Option Int}(h:o=none\/o=some 0\/o=some 1):b0 (gF o)=some o:=by
 rcases h with e|e|e<;>subst e<;>decide +kernel
theorem qd {h0:Hd}{k:Nat}{ss:List (Option Int)}(os:∀x∈ss,x=none\/x=some 0\/x=some 1)(A:h0[k]? = some (.lst (ss.map bC))) :
  ∃g,cV (some k) (ss.map bC) (gN 0) [] (fIx (ae (fC (.str F0)) (ae (fC (.str F1)) (ae (fC (.str F2)) am))) (iy (aL (ae (fC .non) (ae (fC (.int 0)) (ae (fC (.int 1)) am)))) (aa 0))) (ss.map bC) [none] h0=.ok ((ss.map gF).map D.str) (h0++g):=by
 obtain⟨m,C,q,p,B,t,g,rfl,_⟩:=i4 (g:=some k) (all:=ss.map bC) (tg:=gN 0) (e:=fIx (ae (fC (.str F0)) (ae (fC (.str F1)) (ae (fC (.str F2)) am))) (iy (aL (ae (fC .non) (ae (fC (.int 0)) (ae (fC (.int 1)) am)))) (aa 0)))
  (P:=λ_ σ h=>∃g,h=h0++g/\∃a,σ = [a]) (V:=λi d=>∃o,ss[i]? = some o/\d=.str (gF o)) (λi σ h ⟨g,e,_⟩=>by rw[e];exact aC _ A) (xs:=ss.map bC) (k:=0) (σ:=[none]) (h:=h0) (by
   rintro i x σ h s ⟨g,rfl,a,rfl⟩;rw[ZP]at s;obtain⟨o,b,rfl⟩:=YS.mp s;have n:aL (ae (fC .non) (ae (fC (.int 0)) (ae (fC (.int 1)) am))) [some (bC o)] (h0++g)=.ok (.ref (h0++g).length) (h0++g++[.lst [.non,.int 0,.int 1]]):=bo rfl;have r:cU (h0++g++[.lst [D.non,.int 0,.int 1]]) (.ref (h0++g).length)=some [.non,.int 0,.int 1]:=by simp only[cU,ZF]
   have l:∀{j:Nat},[D.non,.int 0,.int 1].findIdx (λz=>eqF z (bC o))=j->([D.non,.int 0,.int 1].any λz=>eqF z (bC o))=true->cN (bC o)=true->iy (aL (ae (fC .non) (ae (fC (.int 0)) (ae (fC (.int 1)) am)))) (aa 0) [some (bC o)] (h0++g)=.ok (.int j) (h0++g++[.lst [.non,.int 0,.int 1]]):=λ{j} v u y=>by
    unfold iy;rw[n,az];simp only[r];rw[show aa 0 [some (bC o)] (h0++g++[.lst [.non,.int 0,.int 1]])=.ok (bC o) (h0++g++[.lst [.non,.int 0,.int 1]]) from rfl,az];simp only[r];have c:(cN (bC o) && [D.non,.int 0,.int 1].all cN && ([D.non,.int 0,.int 1].any λz=>eqF z (bC o)) && decide ([D.non,.int 0,.int 1].length<=1000))=true:=by rw[u,y];rfl
    rw[yD c,v]
   refine⟨_,rfl,.str (gF o),h0++g++[.lst [.non,.int 0,.int 1]],?_,⟨o,by rw[YH];exact b,rfl⟩,_,ZT _ _ _,_,rfl⟩;rcases os o (ZJ b) with e|e|e<;>subst e
   ·exact jo rfl (l (j:=0) rfl rfl rfl) rfl
   ·exact jo rfl (l (j:=1) rfl rfl rfl) (by show some (D.str F1)=_;congr 2)
   ·exact jo rfl (l (j:=2) rfl rfl rfl) (by show some (D.str F2)=_;congr 2)) ⟨[],by simp,none,rfl⟩
 refine⟨g,?_⟩;rw[q];congr 1;apply XS;intro i
 by_cases w:i < ss.length
 ·have f:i < m.length:=by rw[p];simpa using w
  obtain⟨o,b,e⟩:=B i m[i] (ZE f);rw[YH]at b;rw[ZE f,e,ZP,ZP,b];rfl
 ·rw[Y5 (by rw[p];simp;omega),Y5 (by simp;omega)]
theorem EQ (I:n<=6)(O:TOk n n 0 T){bs:List Int}{ss:List (Option Int)}(lb:bs.length=n)(ls:ss.length=n)(os:∀x∈ss,x=none\/x=some 0\/x=some 1)(bb:∀b∈bs,b.natAbs < 10 ^ 60){h:Hd}{tk bk d qk:Nat}
  (ti:h[tk]? = some (.lst (T.map bq))) (ba:h[bk]? = some (.lst (bs.map .int))) (st:h[d]? = some (.lst (ss.map bC))) :
  lG [.tup [.int n,.ref tk,.ref bk,.ref d,.ref qk]] h=.ok (.str (bP [10] (cH n (gD n T) bs ss))) h:=by
 have N:n<=30:=by omega
 have G:=(oh N O).1;have V:=nG O;obtain⟨a0,K⟩:=zN I O;obtain⟨j,F⟩ : ∃j,j=gD n T:=⟨_,rfl⟩;rw[<-F]at V G ⊢;have ol:=O.len;have a1:=G.len;have nb:(n:Int).natAbs < 10 ^ 60:=big (by omega) (by omega);have nl:=hZ _ nb;obtain⟨c,l⟩ : ∃c,c=D.tup [.int n,.ref tk,.ref bk,.ref d,.ref qk]:=⟨_,rfl⟩;obtain⟨A,Q⟩ : ∃A,A=h.length:=⟨_,rfl⟩;have s0:aB (gT [1,2,3,4,5]) (aa 0) [some c,none,none,none,none,none,none,none] h=.nx [some c,some (.int n),some (.ref tk),some (.ref bk),some (.ref d),some (.ref qk),none,none] h:=by
  rw[l];rfl
 obtain⟨s,g⟩ : ∃s,s=[line dD [(n:Int)]]:=⟨_,rfl⟩;have U:aB (gN 6) (aL (ae (ao ft (fC (.str [112,101,111,112,108,101,32])) (kH (aa 1))) am)) [some c,some (.int n),some (.ref tk),some (.ref bk),some (.ref d),some (.ref qk),none,none] h
   = .nx [some c,some (.int n),some (.ref tk),some (.ref bk),some (.ref d),some (.ref qk),some (.ref A),none] (h++[.lst (s.map D.str)]):=by
  rw[Q,g];exact aH (bo (ai ((lV (x:=[112,101,111,112,108,101,32]) (y:=tx n) rfl (pT rfl nb) (by simp;omega)).trans rfl) rfl))
 obtain⟨u,f⟩ : ∃u,u=h++[.lst (s.map D.str)]:=⟨_,rfl⟩;have J:u.length=A + 1:=by rw[f,Q];simp
 have B:u[tk]? = some (.lst (T.map bq)):=by rw[f];exact aC _ ti
 obtain⟨p,e⟩ : ∃p,p=u++[.lst ((T.map nrm).map eC),.lst (j.map bq)]:=⟨_,rfl⟩;have e1:(j.map toR).map eC=j.map bq:=by rw[YI];rfl
 have X:aB (gN 7) (aL (mr (aL (cB 3 [] (fZ (aa 2)) (gT [0,1,2]) [] (dR (ae (tW (aa 0) (aa 1)) (ae (tU (aa 0) (aa 1)) (ae (aa 2) am)))))))) [some c,some (.int n),some (.ref tk),some (.ref bk),some (.ref d),some (.ref qk),some (.ref A),none] u
   = .nx [some c,some (.int n),some (.ref tk),some (.ref bk),some (.ref d),some (.ref qk),some (.ref A),some (.ref (A + 2))] p:=by
  have q:mr (aL (cB 3 [] (fZ (aa 2)) (gT [0,1,2]) [] (dR (ae (tW (aa 0) (aa 1)) (ae (tU (aa 0) (aa 1)) (ae (aa 2) am)))))) [some c,some (.int n),some (.ref tk),some (.ref bk),some (.ref d),some (.ref qk),some (.ref A),none] u=.ok (j.map bq) (u++[.lst ((T.map nrm).map eC)]):=by
   refine(Dr (bo (d8 (eW rfl B) (Dq B)) (by simp[SZ];omega)) ZF (by simp;omega) (λx hx => ?_) (yz O)).trans (by rw[V,e1]);obtain⟨t,_,rfl⟩:=Z2.mp hx;simp[nrm]
  have z:=aH (i:=7) (bo q (by simp[SZ];omega));rw[ZT,ZB,J]at z;rw[e];exact z
 have M:p.length=A + 3:=by rw[e];simp[J]
 have w:p[A + 2]? = some (.lst (j.map bq)):=by
  rw[e,ZD (by omega),J,show A + 2 - (A + 1)=1 by omega];rfl
 have l2:p[A]? = some (.lst (s.map D.str)):=by rw[e,f,ZT,Q];exact cz
 obtain⟨m,k⟩ : ∃m,m=p++[.lst ((j.map nR).map D.str),.lst ((s++j.map nR).map D.str)]:=⟨_,rfl⟩;have E:m[bk]? = some (.lst (bs.map .int)):=by rw[k,e,f];exact aC _ (aC _ (aC _ ba))
 have Y:aB (gN 6) (aL (cY (aa 6) (aL (cB 3 [] (fZ (aa 7)) (gT [0,1,2]) [] zL)))) [some c,some (.int n),some (.ref tk),some (.ref bk),some (.ref d),some (.ref qk),some (.ref A),some (.ref (A + 2))] p
   = .nx [some c,some (.int n),some (.ref tk),some (.ref bk),some (.ref d),some (.ref qk),some (.ref (A + 4)),some (.ref (A + 2))] m:=by
  have q:=jf (σ:=[some c,some (.int n),some (.ref tk),some (.ref bk),some (.ref d),some (.ref qk),some (.ref A),some (.ref (A + 2))]) (h:=p) (a:=aa 6) (b:=aL (cB 3 [] (fZ (aa 7)) (gT [0,1,2]) [] zL)) rfl (bo (d8 (eW rfl w) (A7 N G w)) (by simp[SZ];omega)) (aC _ l2) ZF (by rw[g];simp[SZ];omega);have z:=aH (i:=6) (bo q (by rw[g];simp[SZ];omega));rw[ZT,ZB,M,<-ZQ]at z;rw[k];exact z
 have S:m.length=A + 5:=by rw[k];simp[M]
 have W:m[A + 4]? = some (.lst ((s++j.map nR).map D.str)):=by
  rw[k,ZD (by omega),M,show A + 4 - (A + 3)=1 by omega];rfl
 obtain⟨P,L⟩ : ∃P,P=s++j.map nR++bs.map lY:=⟨_,rfl⟩;have R:aB (gN 6) (aL (cY (aa 6) (aL (cB 1 [] (fZ (aa 3)) (gN 0) [] (ao ft (fC (.str [98,97,114,32])) (kH (aa 0))))))) [some c,some (.int n),some (.ref tk),some (.ref bk),some (.ref d),some (.ref qk),some (.ref (A + 4)),some (.ref (A + 2))] m
   = .nx [some c,some (.int n),some (.ref tk),some (.ref bk),some (.ref d),some (.ref qk),some (.ref (A + 6)),some (.ref (A + 2))] (m++[.lst ((bs.map lY).map D.str),.lst (P.map D.str)]):=by
  have q:=jf (σ:=[some c,some (.int n),some (.ref tk),some (.ref bk),some (.ref d),some (.ref qk),some (.ref (A + 4)),some (.ref (A + 2))]) (h:=m) (a:=aa 6) (b:=aL (cB 1 [] (fZ (aa 3)) (gN 0) [] (ao ft (fC (.str [98,97,114,32])) (kH (aa 0))))) rfl (bo (d8 (eW rfl E) (A8 bb E)) (by simp[SZ];omega)) (aC _ W) ZF (by rw[g];simp[SZ];omega);have z:=aH (i:=6) (bo q (by rw[g];simp[SZ];omega));rw[ZT,ZB,S,<-ZQ,<-L]at z;exact z
 obtain⟨o,r⟩ : ∃o,o=m++[.lst ((bs.map lY).map D.str)]:=⟨_,rfl⟩;have e4:m++[aO.lst ((bs.map lY).map D.str),.lst (P.map D.str)] = o++[.lst (P.map D.str)]:=by rw[r];simp
 rw[e4]at R;have A4:o.length=A + 6:=by rw[r];simp[S]
 have v:o[d]? = some (.lst (ss.map bC)):=by rw[r,k,e,f];exact aC _ (aC _ (aC _ (aC _ st)))
 obtain⟨g5,q5⟩:=qd os v;rw[<-F]at K;have lP:P.length<=100:=by rw[L,g];simp;omega
 have eL:P++ss.map gF=cH n j bs ss:=by rw[L,g];simp[cH]
 have Z:(o++[aO.lst (P.map D.str)])[A + 6]? = some (.lst (P.map D.str)):=by rw[<-A4];exact ZF
 obtain⟨g6,q6⟩:=qd (h0:=o++[.lst (P.map D.str)]) os (aC _ v);obtain⟨ll,lc⟩:=sF N G lb ls os bb;obtain⟨H,C⟩ : ∃H,H=o++[aO.lst (P.map D.str)]++g6++[.lst ((ss.map gF).map D.str)]:=⟨_,rfl⟩;have s6:bx (iZ [10] (cY (aa 6) (aL (cB 1 [] (fZ (aa 4)) (gN 0) [] (fIx (ae (fC (.str F0)) (ae (fC (.str F1)) (ae (fC (.str F2)) am))) (iy (aL (ae (fC .non) (ae (fC (.int 0)) (ae (fC (.int 1)) am)))) (aa 0))))))) [some c,some (.int n),some (.ref tk),some (.ref bk),some (.ref d),some (.ref qk),some (.ref (A + 6)),some (.ref (A + 2))] (o++[.lst (P.map D.str)])=.rt (.str (bP [10] (cH n j bs ss))) H:=by
  have q:=jf (σ:=[some c,some (.int n),some (.ref tk),some (.ref bk),some (.ref d),some (.ref qk),some (.ref (A + 6)),some (.ref (A + 2))]) (h:=o++[.lst (P.map D.str)]) (a:=aa 6) rfl (bo (d8 (nl:=1) (caps:=[]) (eW (a:=aa 4) rfl (aC _ v)) q6) (by simp[SZ];omega)) (aC _ (aC _ Z)) ZF (by simp[SZ];omega);rw[<-ZQ,eL,<-C]at q;exact bc (pU q ll lc)
 rw[<-l];rw[<-f]at U;refine(bJ rfl rfl ((km s0).trans ((km U).trans ((km X).trans ((km Y).trans ((km R).trans s6)))))).trans ?_;rw[C,r,k,e,f];simp only[ZT];exact cD rfl
end Fm
namespace Fm
open Fy
def G (l:List Nat):Prop:=l.length<=200/\∀c∈l,c < 128
instance (l:List Nat):Decidable (G l):=by unfold G;exact inferInstance
theorem uQ {M:List (List Nat)}(h:∀l∈M,G l)(j:M.length<=200):Tx (bP [10] M)/\(bP [10] M).length<=41000:=by
 have n:=sG (sp:=10) (L:=M);have m:=uF (k:=200) λl b=>(h l b).1;have d:(bP [10] M).length<=41000:=by omega
 refine⟨⟨by omega,λc g => ?_⟩,d⟩;have:∀{L:List (List Nat)},c∈bP [10] L->c=10\/∃x∈L,c∈x:=λ{L}=>by
  induction L with
  | nil=>intro h;simp[bP]at h
  | cons x r i =>
   intro h;cases r with
   | nil=>exact .inr ⟨x,by simp,h⟩
   | cons y r =>
    rw[jd (by simp)]at h;rcases Z0.mp h with h|h
    ·exact .inr ⟨x,by simp,h⟩
    ·rcases wU.mp h with h|h
     ·exact .inl h
     ·rcases i h with e|⟨z,a,q⟩
      ·exact .inl e
      ·exact .inr ⟨z,ZV _ a,q⟩
 rcases this g with e|⟨x,f,q⟩
 ·omega
 ·exact(h x f).2 c q
def CS (B:LF) (n:Nat):Prop:=∃bs:List (List Nat),(∀σ h,B σ h=.ok (bs.map D.str) h)/\(∀l∈bs,G l)/\bs.length=n
theorem Hj:CS am 0:=⟨[],λ_ _=>rfl,by simp,rfl⟩
variable {n:Nat}
theorem Ds {a:EF}{l:List Nat}{r:LF}(e:∀σ h,a σ h=.ok (.str l) h)(g:G l)(c:CS r n):CS (ae a r) (n + 1):=by
 obtain⟨j,i,b,d⟩:=c;refine⟨l :: j,λσ h=>ai (e σ h) (i σ h),λx f => ?_,by simp[d]⟩;rcases wU.mp f with z|z
 ·rw[z];exact g
 ·exact b x z
theorem ER {l:List Nat}{r:LF}(g:G l)(c:CS r n):CS (ae (fC (.str l)) r) (n + 1):=Ds (λ_ _=>rfl) g c
def LG (h:Hd) (k:Nat) (σ:Sd) (H:Hd):Prop:=∃(a:Nat) (g:Hd) (M:List (List Nat)),σ = [some (.ref a)]/\H=h++g/\H[a]? = some (.lst (M.map D.str))/\(∀l∈M,G l)/\M.length=k/\h.length<=a
variable {h:Hd}
theorem Hk {B:LF}(c:CS B n)(f:n<=100):∃σ H,aB (gN 0) (aL B) [none] h=.nx σ H/\LG h n σ H:=by
 obtain⟨e,d,b,a⟩:=c;exact⟨_,_,aH (bo (d _ _) (by simp[SZ];omega)),_,_,e,rfl,rfl,ZF,b,a,ZK _⟩
variable {H:Hd}{σ:Sd}
theorem zO {B:LF}{k:Nat}(c:CS B n)(s:n<=100)(t:k<=100)(L:LG h k σ H):∃(a:Nat) (g:Hd) (M:List (List Nat)),aL (cY (aa 0) (aL B)) σ H=.ok (.ref a) (h++g)/\(∃b,σ = [some b])/\(h++g)[a]? = some (.lst (M.map D.str))/\(∀l∈M,G l)/\M.length=k + n/\h.length<=a:=by
 obtain⟨d,p,e,i⟩:=c;obtain⟨a,g,M,rfl,rfl,m,f,j,r⟩:=L;have q:=jf (a:=aa 0) (σ:=[some (.ref a)]) (h:=h++g) rfl (bo (p _ _) (by simp[SZ];omega)) (aC _ m) ZF (by simp[SZ];omega);rw[<-ZQ]at q;have z:=bo q (by simp[SZ];omega);rw[ZT,ZT]at z;refine⟨_,_,M++d,z,⟨_,rfl⟩,?_,λx o => ?_,by simp[i,j],by simp⟩
 ·rw[<-ZT,<-ZT]
  have:=ZF (l:=h++g++[aO.lst (d.map D.str)]) (a:=aO.lst ((M++d).map D.str));simpa[ZT] using this
 ·rcases Z0.mp o with z|z
  ·exact f x z
  ·exact e x z
theorem Hl {B:LF}{k:Nat}(c:CS B n)(l:n<=100)(o:k<=100)(L:LG h k σ H):∃σ' d,aB (gN 0) (aL (cY (aa 0) (aL B))) σ H=.nx σ' d/\LG h (k + n) σ' d:=by
 obtain⟨a,g,M,q,⟨b,e⟩,m,f,i,j⟩:=zO c l o L;subst e;exact⟨_,_,aH q,a,g,M,rfl,rfl,m,f,i,j⟩
theorem Hm {l:List Nat}{k:Nat}(g:G l)(m:k<=100)(L:LG h k σ H):∃σ' c,eP (fO (aa 0) (fC (.str l))) σ H=.nx σ' c/\LG h (k + 1) σ' c:=by
 obtain⟨a,e,M,rfl,rfl,b,f,i,d⟩:=L;have lt:=(yE.mp b).1;refine⟨_,_,fQ (i6 rfl b rfl b (by simp[SZ];omega)),a,e.set (a - h.length) (.lst ((M++[l]).map D.str)),M++[l],rfl,?_,?_,λx j => ?_,by simp[i],d⟩
 ·rw[WR _ _ d,ZQ];rfl
 ·rw[Z1 lt,ZQ];rfl
 ·rcases Z0.mp j with z|z
  ·exact f x z
  ·rw[Z5.mp z];exact g
def wQ (h:Hd) (o:Out):Prop:=∃(a:Nat) (g:Hd) (M:List (List Nat)),o=.rt (.ref a) (h++g)/\(h++g)[a]? = some (.lst (M.map D.str))/\(∀l∈M,G l)/\1<=M.length/\M.length<=200/\h.length<=a
theorem Hn {B:LF}{b:SF}(n:Nat)(c:CS B n)(a:n<=100)(k:∀σ H,LG h n σ H->wQ h (b σ H)):wQ h (ay (aB (gN 0) (aL B)) b [none] h):=by
 obtain⟨σ,H,q,L⟩:=Hk (h:=h) c a;rw[km q];exact k _ _ L
theorem mS {B:LF}{b:SF}{k:Nat}(n:Nat)(L:LG h k σ H)(c:CS B n)(a:n<=100)(d:k<=100)(t:∀σ H,LG h (k + n) σ H->wQ h (b σ H)):wQ h (ay (aB (gN 0) (aL (cY (aa 0) (aL B)))) b σ H):=by
 obtain⟨σ,H,q,L⟩:=Hl c a d L;rw[km q];exact t _ _ L
theorem Dt {l:List Nat}{b:SF}{k:Nat}(L:LG h k σ H)(g:G l)(a:k<=100)(t:∀σ H,LG h (k + 1) σ H->wQ h (b σ H)):wQ h (ay (eP (fO (aa 0) (fC (.str l)))) b σ H):=by
 obtain⟨σ,H,q,L⟩:=Hm g a L;rw[km q];exact t _ _ L
theorem Ho {B:LF}{k:Nat}(n:Nat)(L:LG h k σ H)(c:CS B n)(e:n<=100)(i:1<=k/\k<=100):wQ h (bx (aL (cY (aa 0) (aL B))) σ H):=by
 obtain⟨a,g,M,q,_,f,b,j,d⟩:=zO c e i.2 L;exact⟨a,g,M,bc q,f,b,by omega,by omega,d⟩
theorem Du (h:Hd):∃(a:Nat) (g:Hd) (M:List (List Nat)),ke [] h=.ok (.ref a) (h++g)/\(h++g)[a]? = some (.lst (M.map D.str))/\(∀l∈M,G l)/\1<=M.length/\M.length<=200/\h.length<=a:=by
 have fin:∀{b:SF},wQ h (b [none] h)->∃(a:Nat) (g:Hd) (M:List (List Nat)),bQ 0 1 b [] h=.ok (.ref a) (h++g)/\(h++g)[a]? = some (.lst (M.map D.str))/\(∀l∈M,G l)/\1<=M.length/\M.length<=200/\h.length<=a:=λ{b} ⟨a,g,M,q,r⟩=>⟨a,g,M,(bJ rfl rfl q).trans eE,r⟩;refine fin ?_;refine Hn 10 ?_ (by decide) λi F o=>mS 8 o ?_ (by decide) (by decide) λk y L2=>mS 7 L2 ?_ (by decide) (by decide) λx B w=>mS 9 w ?_ (by decide) (by decide) λv E s=>Dt s (by decide) (by decide) λu H m=>mS 6 m ?_ (by decide) (by decide) λc A d=>mS 9 d ?_ (by decide) (by decide) λn C e=>Dt e (by decide) (by decide) λp z t=>mS 4 t ?_ (by decide) (by decide) λf I j=>Ho 5 j ?_ (by decide) (by decide)
 all_goals repeat (first|exact Hj|refine ER (by decide) ?_|refine Ds (l:=[98,97,114,32]++List.replicate 60 57) (λ_ _=>rfl) (by decide) ?_|refine Ds (l:=[98,97,114,32]++List.replicate 61 57) (λ_ _=>rfl) (by decide) ?_|refine Ds (l:=[98,97,114,32,45]++List.replicate 60 57) (λ_ _=>rfl) (by decide) ?_|refine Ds (l:=[98,97,114,32,45]++List.replicate 61 49) (λ_ _=>rfl) (by decide) ?_)
theorem Fh {a j:EF}{k:Nat}{l:List D}(p:a σ H=.ok (.ref n) H)(q:H[n]? = some (.lst l))(r:j σ H=.ok (.int k) H):cP a pNo (pAt j) σ H=.ok (.ref H.length) (H++[.lst (l.take k)]):=by
 have e:cut l none (some (k:Int))=l.take k:=by
  unfold cut sIx;simp only;rw[wR (by omega),XW,List.drop_zero,Nat.sub_zero];rcases Nat.le_total k l.length with z|z
  ·rw[Nat.min_eq_left z]
  ·rw[Nat.min_eq_right z,List.take_length,YT z]
 show Res.bind _ _=_;rw[p,az];simp only[pNo,pAt,az,r,cU,q,e]
theorem zP {a j:EF}{k:Nat}{l:List D}(p:a σ H=.ok (.ref n) H)(q:H[n]? = some (.lst l))(r:j σ H=.ok (.int k) H):cP a (pAt j) pNo σ H=.ok (.ref H.length) (H++[.lst (l.drop k)]):=by
 have e:cut l (some (k:Int)) none=l.drop k:=by
  unfold cut sIx;simp only;rw[wR (by omega),XW];rcases Nat.le_total k l.length with z|z
  ·rw[Nat.min_eq_left z,YT (by rw[Z9];omega)]
  ·rw[Nat.min_eq_right z,X1,WK z];simp
 show Res.bind _ _=_;rw[p,az];simp only[pNo,pAt,az,r,cU,q,e]
section
variable {h:Hd} {s:Nat} {m:Bool}
theorem dig (d:s < h.length){c t M:Int}{g:Hd}(i:0 < M)(a:M<=100000):∃v b t',aJ [.ref s,.int M] (h.set s (SC c t m)++g)=.ok (.int v) (h.set s (SC b t' m)++g)/\0<=v/\v < M:=by
 obtain⟨v,b,t',q,f,e⟩:=c9 (h:=h.set s (SC c t m)++g) (n:=s) (m:=M) (aC _ (Z1 d)) i a;refine⟨v,b,t',?_,f,e⟩;rw[q,List.set_append_left _ _ (by rw[YD];exact d),WL]
def Sp (h:Hd) (s:Nat) (m:Bool) (o:Out):Prop:=∃Y c t g,o=.rt (.str Y) (h.set s (SC c t m)++g)/\Tx Y
theorem oo {c t:Int}{g:Hd}{k:Nat}{M:List (List Nat)}{x:D}{a b d e f i j:Option D}(q:(h.set s (SC c t m)++g)[k]? = some (.lst (M.map D.str)))(n:∀l∈M,G l)(o:M.length<=200):Sp h s m (bx (iZ [10] (lOf (aa 2))) [a,b,some (.ref k),d,e,f,i,j,some x] (h.set s (SC c t m)++g)) :=
 ⟨_,c,t,g,bc (pU (bG rfl (aK q)) (λl p=>(n l p).1) (by omega)),(uQ n o).1⟩
theorem iH {p q:SF}{σ':Sd}{a:Hd}(e:p σ H=.nx σ' a)(k:Sp h s m (q σ' a)):Sp h s m (ay p q σ H):=by rw[km e];exact k
theorem Dv {p q:SF}(k:Sp h s m (p σ H)):Sp h s m (ay p q σ H):=by
 obtain⟨Y,c,t,g,e,r⟩:=k;exact⟨Y,c,t,g,cx e,r⟩
theorem ej {t:TF}{p q r:SF}{b:Bool}(e:t σ H=.ok b H):ay (sIf t p q) r σ H=if b then ay p r σ H else ay q r σ H:=by
 cases b with
 | true=>unfold ay;rw[dN e];rfl
 | false=>unfold ay;rw[cW e];rfl
theorem yA (hs:s < h.length){c t:Int}{X:List Nat}{n:List (List Nat)}(hX:X=bP [10] n)(c7:aX 10 X=n)(hg:∀l∈n,G l)(l1:1<=n.length)(l2:n.length<=100) :
  ∃Y c' t',fI [.str X,.ref s] (h.set s (SC c t m))=.ok (.str Y) (h.set s (SC c' t' m))/\Tx Y:=by
 obtain⟨tX,lX⟩:=uQ hg (by omega);rw[<-hX]at tX lX;have C:∀{c t:Int},(h.set s (SC c t m)).length=h.length:=λ{c t}=>YD;have b2:∀{b:SF},Sp h s m (b [some (.str X),some (.ref s),none,none,none,none,none,none,none] (h.set s (SC c t m)))->∃Y c' t',bQ 2 9 b [.str X,.ref s] (h.set s (SC c t m))=.ok (.str Y) (h.set s (SC c' t' m))/\Tx Y:=λ{b} ⟨Y,c',t',g,e,r⟩=>by
  refine⟨Y,c',t',(bJ rfl rfl e).trans (si rfl (by rw[C,C]) λk cc hk S => ?_),r⟩;rw[C]at hk;rw[ZC (by rw[YD];exact hk)]at S
  by_cases z:k=s
  ·subst z
   rw[Z1 hs]at S;cases S;exact .inr rfl
  ·rw[ZO (YV z)]at S
   exact .inl ((ZO (YV z)).trans S)
 refine b2 ?_;have s1:aB (gN 2) (aL (dY 10 (aa 0))) [some (.str X),some (.ref s),none,none,none,none,none,none,none] (h.set s (SC c t m))=.nx [some (.str X),some (.ref s),some (.ref h.length),none,none,none,none,none,none] (h.set s (SC c t m)++[.lst (n.map D.str)]):=by
  have q:=iG (c:=10) (a:=aa 0) (σ:=[some (.str X),some (.ref s),none,none,none,none,none,none,none]) (h:=h.set s (SC c t m)) rfl (by omega);rw[c7]at q;have z:=aH (i:=2) (bo q (by simp[SZ];omega));rw[C]at z;exact z
 refine iH s1 ?_;have gL:∀{c t:Int} {g:Hd},(h.set s (SC c t m) ++ .lst (n.map D.str) :: g)[h.length]? = some (.lst (n.map D.str)):=λ{c t g}=>by
  have:=cz (h:=h.set s (SC c t m)) (c:=.lst (n.map D.str)) (g:=g);rwa[C]at this
 obtain⟨v,c1,t1,q1,d4,d6⟩:=dig (m:=m) hs (c:=c) (t:=t) (M:=9) (g:=[.lst (n.map D.str)]) (by decide) (by decide);refine iH (aH (aD (dA rfl rfl) q1)) ?_;have a0:∀{c t:Int} {g:Hd} {d e f i j k:Option D},cr (lOf (aa 2)) [some (.str X),some (.ref s),some (.ref h.length),d,e,f,i,j,k] (h.set s (SC c t m) ++ .lst (n.map D.str) :: g)=.ok (.int (n.length:Nat)) (h.set s (SC c t m) ++ .lst (n.map D.str) :: g):=λ{c t g d e f i j k}=>(bZ (bG rfl (aK gL))).trans (by rw[ZA]);obtain⟨v2,c2,t2,q2,e4,d2⟩:=dig (m:=m) hs (c:=c1) (t:=t1) (M:=(n.length:Nat)) (g:=[.lst (n.map D.str)]) (by omega) (by omega);refine iH (aH (aD (dA rfl a0) q2)) ?_;obtain⟨v3,c3,t3,q3,d5,d3⟩:=dig (m:=m) hs (c:=c2) (t:=t2) (M:=(n.length:Nat)) (g:=[.lst (n.map D.str)]) (by omega) (by omega);refine iH (aH (aD (dA rfl a0) q3)) ?_;obtain⟨y,E,M5,q5,a8,d0,e0,d9,c0⟩:=Du (h.set s (SC c3 t3 m)++[.lst (n.map D.str)]);rw[ZT]at q5 a8;rw[ZB,C]at c0;refine iH (aH (aD rfl q5)) ?_;have gM:∀{c t:Int} {g:Hd},(h.set s (SC c t m) ++ .lst (n.map D.str) :: (E++g))[y]? = some (.lst (M5.map D.str)):=λ{c t g}=>by
  rw[ZD (by rw[C];omega),C]at a8 ⊢;exact aC g a8
 have e5 : [aO.lst (n.map D.str)]++E=.lst (n.map D.str) :: (E++[]):=by simp
 rw[e5];have b5:∀{c t:Int} {d e f j k:Option D},cr (lOf (aa 6)) [some (.str X),some (.ref s),some (.ref h.length),d,e,f,some (.ref y),j,k] (h.set s (SC c t m) ++ .lst (n.map D.str) :: (E++[]))=.ok (.int (M5.length:Nat)) (h.set s (SC c t m) ++ .lst (n.map D.str) :: (E++[])):=λ{c t d e f j k}=>(bZ (bG rfl (aK gM))).trans (by rw[ZA]);obtain⟨v4,c4,t4,q4,f0,f1⟩:=dig (m:=m) hs (c:=c3) (t:=t3) (M:=(M5.length:Nat)) (g:=.lst (n.map D.str) :: (E++[])) (by omega) (by omega);obtain⟨k4,rfl⟩ : ∃k4:Nat,v4=(k4:Int):=⟨v4.toNat,by omega⟩;have b3:k4 < M5.length:=by omega
 obtain⟨w,b8⟩ : ∃w,w=M5[k4]:=⟨_,rfl⟩;have a9:G w:=d0 w (by rw[b8];exact WG b3);refine iH (aH (bz (d:=.str w) rfl (aD (dA rfl b5) q4) (aK gM) (dw (by rw[ZP,ZE b3,b8];rfl)))) ?_;obtain⟨v5,J,I,b9,d8,e8⟩:=dig (m:=m) hs (c:=c4) (t:=t4) (M:=(X.length:Int) + 1) (g:=.lst (n.map D.str) :: (E++[])) (by omega) (by omega);obtain⟨p,rfl⟩ : ∃p:Nat,v5=(p:Int):=⟨v5.toNat,by omega⟩;obtain⟨o,rfl⟩ : ∃o:Nat,v2=(o:Int):=⟨v2.toNat,by omega⟩;obtain⟨u,rfl⟩ : ∃u:Nat,v3=(u:Int):=⟨v3.toNat,by omega⟩;refine iH (aH (aD (dA rfl (ar (uG rfl (by omega)) rfl rfl)) b9)) ?_;obtain⟨H,hH⟩ : ∃H,H=h.set s (SC J I m) ++ .lst (n.map D.str) :: (E++[]):=⟨_,rfl⟩;obtain⟨g,c9⟩ : ∃g,g=aO.lst (n.map D.str) :: (E++[]):=⟨_,rfl⟩;have V:H=h.set s (SC J I m)++g:=by rw[hH,c9]
 have O:H[h.length]? = some (.lst (n.map D.str)):=by rw[hH];exact gL
 have lo:o < n.length:=by omega
 have lu:u < n.length:=by omega
 have F:∀(i:Int),tE (ao oEq (aa 3) (fC (.int i))) [some (.str X),some (.ref s),some (.ref h.length),some (.int v),some (.int o),some (.int u),some (.ref y),some (.str w),some (.int p)] H=.ok (decide (v=i)) H:=λi=>aE (ar rfl rfl wn);have mL:∀l∈n,∀M:List (List Nat),True:=λ_ _ _=>trivial;have fin:∀{σ':Sd} {k:Nat} {L:Hd} {M:List (List Nat)},(H++L)[k]? = some (.lst (M.map D.str))->(∀l∈M,G l)->M.length<=200->Sp h s m (bx (iZ [10] (lOf (aa 2))) [some (.str X),some (.ref s),some (.ref k),some (.int v),some (.int o),some (.int u),some (.ref y),some (.str w),some (.int p)] (H++L)):=λ{σ' k L M} e1 S e3=>by
  rw[V,ZT]at e1 ⊢;exact oo e1 S e3
 have P:∀k,∀l∈n.take k,G l:=λk l C=>hg l (W0 C);have R:∀k,∀l∈n.drop k,G l:=λk l C=>hg l (W1 C);have K:∀{A B:List (List Nat)},(∀l∈A,G l)->(∀l∈B,G l)->∀l∈A++B,G l:=λhA hB l C=>by
  rcases Z0.mp C with z|z
  ·exact hA l z
  ·exact hB l z
 have Z:∀{x:List Nat},G x->∀l∈[x],G l:=λhx l C=>by rw[Z5.mp C];exact hx
 have b6:∀{x:List Nat} {e:EF} (gx:G x) (he:∀L,e [some (.str X),some (.ref s),some (.ref h.length),some (.int v),some (.int o),some (.int u),some (.ref y),some (.str w),some (.int p)] (H++L)=.ok (.str x) (H++L)),∃(k:Nat) (L:Hd) (M:List (List Nat)),aB (gN 2) (aL (cY (aL (cY (cP (aa 2) pNo (pAt (aa 4))) (aL (ae e am)))) (cP (aa 2) (pAt (aa 4)) pNo))) [some (.str X),some (.ref s),some (.ref h.length),some (.int v),some (.int o),some (.int u),some (.ref y),some (.str w),some (.int p)] H=.nx [some (.str X),some (.ref s),some (.ref k),some (.int v),some (.int o),some (.int u),some (.ref y),some (.str w),some (.int p)] (H++L)/\(H++L)[k]? = some (.lst (M.map D.str))/\(∀l∈M,G l)/\M.length<=200:=λ{x e} gx he=>by
  have a1:=Fh (a:=aa 2) (j:=aa 4) (σ:=[some (.str X),some (.ref s),some (.ref h.length),some (.int v),some (.int o),some (.int u),some (.ref y),some (.str w),some (.int p)]) (k:=o) rfl O rfl;have a2:=bo (ai (he [.lst ((n.map D.str).take o)]) (r:=am) rfl);have a3:=jf a1 a2 (aC _ ZF) ZF (by simp[SZ];omega);have a4:=bo a3 (by simp[SZ];omega);have c8:=zP (a:=aa 2) (j:=aa 4) (σ:=[some (.str X),some (.ref s),some (.ref h.length),some (.int v),some (.int o),some (.int u),some (.ref y),some (.str w),some (.int p)]) (H:=H++[.lst ((n.map D.str).take o)]++[.lst [.str x]]++[.lst ((n.map D.str).take o++[.str x])]) (k:=o) rfl (aC _ (aC _ (aC _ O))) rfl;have a6:=jf a4 c8 (aC _ ZF) ZF (by simp[SZ];omega);have a7:=aH (i:=2) (bo a6 (by simp[SZ];omega));have el:(n.map D.str).take o++[.str x]++(n.map D.str).drop o=(n.take o++[x]++n.drop o).map D.str:=by simp[List.map_take,List.map_drop]
  rw[el]at a7;refine⟨(H++[aO.lst ((n.map D.str).take o)]++[aO.lst [.str x]]++[aO.lst ((n.map D.str).take o++[.str x])]++[aO.lst ((n.map D.str).drop o)]).length,[aO.lst ((n.map D.str).take o),.lst [.str x],.lst ((n.map D.str).take o++[.str x]),.lst ((n.map D.str).drop o),.lst ((n.take o++[x]++n.drop o).map D.str)],n.take o++[x]++n.drop o,?_,?_,K (K (P o) (Z gx)) (R o),by simp;omega⟩
  ·exact a7.trans (by simp[ZT])
  ·have:=ZF (l:=H++[aO.lst ((n.map D.str).take o)]++[aO.lst [.str x]]++[aO.lst ((n.map D.str).take o++[.str x])]++[aO.lst ((n.map D.str).drop o)]) (a:=aO.lst ((n.take o++[x]++n.drop o).map D.str))
   simpa[ZT] using this
 rw[<-hH];show Sp h s m (ay _ _ [some (.str X),some (.ref s),some (.ref h.length),some (.int v),some (.int o),some (.int u),some (.ref y),some (.str w),some (.int p)] H);have Lo:atI (n.map D.str) (o:Int)=some (.str n[o]):=dw (by rw[ZP,ZE lo];rfl);have Lu:atI (n.map D.str) (u:Int)=some (.str n[u]):=dw (by rw[ZP,ZE lu];rfl);have N:∀k,H.set h.length k=h.set s (SC J I m)++k :: (E++[]):=λk=>by
  have:=kf (h:=h.set s (SC J I m)) (c:=.lst (n.map D.str)) (d:=k) (g:=E++[]);rw[C]at this;rw[hH];exact this
 have gk:∀{k:aO},(h.set s (SC J I m)++k :: (E++[]))[h.length]? = some k:=λ{k}=>by
  have:=cz (h:=h.set s (SC J I m)) (c:=k) (g:=E++[]);rwa[C]at this
 have W:∀{k:Nat} {x:List Nat},(n.map D.str).set k (.str x)=(n.set k x).map D.str:=λ{k x}=>by rw[VN]
 have Q:∀{k:Nat} {x:List Nat} {M:List (List Nat)},G x->(∀l∈M,G l)->∀l∈M.set k x,G l:=λ{k x M} gx gm l C=>by
  rcases List.mem_or_eq_of_mem_set C with z|z
  ·exact gm l z
  ·rw[z];exact gx
 have gO:G n[o]:=hg _ (WG lo);have gU:G n[u]:=hg _ (WG lu);have Xt:∀{j:EF} {k:Nat} {U:Hd},j [some (.str X),some (.ref s),some (.ref h.length),some (.int v),some (.int o),some (.int u),some (.ref y),some (.str w),some (.int p)] U=.ok (.int k) U->br (aa 0) pNo (pAt j) [some (.str X),some (.ref s),some (.ref h.length),some (.int v),some (.int o),some (.int u),some (.ref y),some (.str w),some (.int p)] U=.ok (.str (X.take k)) U:=λe=>Dg rfl e (by omega);have Xd:∀{j:EF} {k:Nat} {U:Hd},j [some (.str X),some (.ref s),some (.ref h.length),some (.int v),some (.int o),some (.int u),some (.ref y),some (.str w),some (.int p)] U=.ok (.int k) U->br (aa 0) (pAt j) pNo [some (.str X),some (.ref s),some (.ref h.length),some (.int v),some (.int o),some (.int u),some (.ref y),some (.str w),some (.int p)] U=.ok (.str (X.drop k)) U:=λe=>oj rfl e (by omega);have lt:=List.length_take_le p X;have ld:∀k,(X.drop k).length<=X.length:=λk=>by rw[Z9];omega
 have d7:=ld p;have d1:=ld (p + 1);have e9:(X.take p).length<=X.length:=List.length_take_le' _ _;have b4:∀{A B:List Nat},A.length + B.length<=99999->(∀c∈A,c < 128)->(∀c∈B,c < 128)->Tx (A++B):=λh1 h2 h3=>⟨by simp;omega,λc hc=>by
  rcases Z0.mp hc with z|z
  ·exact h2 c z
  ·exact h3 c z⟩
 have b0:∀c∈X.take p,c < 128:=(tX.take p).as;have b1:∀k,∀c∈X.drop k,c < 128:=λk=>(tX.drop k).as
 by_cases w0:v=0
 ·rw[ej (F 0),x8 w0,yD rfl]
  have a1:=Fh (a:=aa 2) (j:=aa 4) (σ:=[some (.str X),some (.ref s),some (.ref h.length),some (.int v),some (.int o),some (.int u),some (.ref y),some (.str w),some (.int p)]) (k:=o) rfl O rfl;have a2:=zP (a:=aa 2) (j:=ao b7 (aa 4) (fC (.int 1))) (σ:=[some (.str X),some (.ref s),some (.ref h.length),some (.int v),some (.int o),some (.int u),some (.ref y),some (.str w),some (.int p)]) (H:=H++[.lst ((n.map D.str).take o)]) (k:=o + 1) rfl (aC _ O) (ar rfl rfl rfl);have a3:=jf a1 a2 (aC _ ZF) ZF (by simp[SZ];omega);have a4:=aH (i:=2) (bo a3 (by simp[SZ];omega));have el:(n.map D.str).take o++(n.map D.str).drop (o + 1)=(n.take o++n.drop (o + 1)).map D.str:=by simp[List.map_take,List.map_drop]
  rw[el,ZT,ZT]at a4;refine iH a4 (fin (σ':=[]) ?_ (K (P o) (R (o + 1))) (by simp;omega));have:=ZF (l:=H++[aO.lst ((n.map D.str).take o)]++[aO.lst ((n.map D.str).drop (o + 1))]) (a:=aO.lst ((n.take o++n.drop (o + 1)).map D.str));simpa[ZT] using this
 rw[ej (F 0),y0 w0,wR wV]
 by_cases w1:v=1
 ·rw[ej (F 1),x8 w1,yD rfl]
  obtain⟨k,L,M,q,e1,S,e3⟩:=b6 (e:=fAt (aa 2) (aa 4)) gO (λL=>bz rfl rfl (aK (aC _ O)) Lo);exact iH q (fin (σ':=[]) e1 S e3)
 rw[ej (F 1),y0 w1,wR wV]
 by_cases w2:v=2
 ·rw[ej (F 2),x8 w2,yD rfl]
  have e:dR (ae (fAt (aa 2) (aa 5)) (ae (fAt (aa 2) (aa 4)) am)) [some (.str X),some (.ref s),some (.ref h.length),some (.int v),some (.int o),some (.int u),some (.ref y),some (.str w),some (.int p)] H=.ok (.tup [.str n[u],.str n[o]]) H:=cS (dA (bz rfl rfl (aK O) Lu) (bz rfl rfl (aK O) Lo));have p1:nO (.ref h.length) (.int o) (.str n[u]) H=some (h.set s (SC J I m) ++ .lst ((n.set o n[u]).map D.str) :: (E++[])):=by
   unfold nO;simp only[O,kc (show o < (n.map D.str).length by simpa using lo),W,N]
  have p2:nO (.ref h.length) (.int u) (.str n[o]) (h.set s (SC J I m) ++ .lst ((n.set o n[u]).map D.str) :: (E++[]))=some (h.set s (SC J I m) ++ .lst (((n.set o n[u]).set u n[o]).map D.str) :: (E++[])):=by
   unfold nO;simp only[gk,kc (show u < ((n.set o n[u]).map D.str).length by simpa using lu)];have:=kf (h:=h.set s (SC J I m)) (c:=.lst ((n.set o n[u]).map D.str)) (d:=.lst (((n.set o n[u]).set u n[o]).map D.str)) (g:=E++[]);rw[C]at this;rw[<-List.map_set,this]
  have st:zt (aa 2) (aa 4) (aa 2) (aa 5) (dR (ae (fAt (aa 2) (aa 5)) (ae (fAt (aa 2) (aa 4)) am))) [some (.str X),some (.ref s),some (.ref h.length),some (.int v),some (.int o),some (.int u),some (.ref y),some (.str w),some (.int p)] H=.nx [some (.str X),some (.ref s),some (.ref h.length),some (.int v),some (.int o),some (.int u),some (.ref y),some (.str w),some (.int p)] (h.set s (SC J I m) ++ .lst (((n.set o n[u]).set u n[o]).map D.str) :: (E++[])):=by
   unfold zt;rw[e];show (match nO (.ref h.length) (.int o) (.str n[u]) H with|some h=>_|none=>_)=_;rw[p1];show (match nO (.ref h.length) (.int u) (.str n[o]) (h.set s (SC J I m) ++ .lst ((n.set o n[u]).map D.str) :: (E++[])) with|some h=>_|none=>_)=_;rw[p2]
  exact iH st (oo gk (Q gO (Q gU hg)) (by simp;omega))
 rw[ej (F 2),y0 w2,wR wV]
 by_cases w3:v=3
 ·rw[ej (F 3),x8 w3,yD rfl]
  obtain⟨k,L,M,q,e1,S,e3⟩:=b6 (e:=aa 7) a9 (λL=>rfl);exact iH q (fin (σ':=[]) e1 S e3)
 rw[ej (F 3),y0 w3,wR wV]
 by_cases w4:v=4
 ·rw[ej (F 4),x8 w4,yD rfl]
  have st:=pF (x:=aa 2) (i:=aa 4) (e:=aa 7) (σ:=[some (.str X),some (.ref s),some (.ref h.length),some (.int v),some (.int o),some (.int u),some (.ref y),some (.str w),some (.int p)]) rfl rfl rfl O (kc (show o < (n.map D.str).length by simpa using lo));rw[W,N]at st;exact iH st (oo gk (Q a9 hg) (by simp;omega))
 rw[ej (F 4),y0 w4,wR wV]
 by_cases w5:v=5
 ·rw[ej (F 5),x8 w5,yD rfl]
  refine Dv ⟨X.take p,J,I,g,?_,tX.take p⟩;rw[<-V];exact bc (Xt rfl)
 rw[ej (F 5),y0 w5,wR wV]
 by_cases w6:v=6
 ·rw[ej (F 6),x8 w6,yD rfl]
  obtain⟨v6,c6,t6,q6,e6,e7⟩:=dig (m:=m) hs (c:=J) (t:=I) (M:=6) (g:=g) (by decide) (by decide);rw[<-V]at q6;obtain⟨T,rfl⟩ : ∃T:Nat,v6=(T:Int):=⟨v6.toNat,by omega⟩;obtain⟨x,hx,x1⟩ : ∃x,[32,48,45,49,120,10][T]? = some x/\x < 128:=by
   have:T=0\/T=1\/T=2\/T=3\/T=4\/T=5:=by omega
   rcases this with z|z|z|z|z|z<;>subst z<;>exact⟨_,rfl,by decide⟩
  have ax:pk (fC (.str [32,48,45,49,120,10])) (au aJ (ae (aa 1) (ae (fC (.int 6)) am))) [some (.str X),some (.ref s),some (.ref h.length),some (.int v),some (.int o),some (.int u),some (.ref y),some (.str w),some (.int p)] H=.ok (.str [x]) (h.set s (SC c6 t6 m)++g):=by
   refine ar rfl (aD (dA rfl rfl) q6) ?_;show (if [32,48,45,49,120,10].length<=1000000 then (match ixN [32,48,45,49,120,10].length (T:Int) with|some j=>(match [32,48,45,49,120,10][j]? with|some c=>Res.ok (D.str [c]) _|none=>.bad)|none=>.bad) else .bad)=_;rw[yD (by decide),kc (show T < [32,48,45,49,120,10].length by simp;omega)];simp only[hx]
  refine Dv ⟨X.take p++[x]++X.drop p,c6,t6,g,bc (lV (lV (Xt rfl) ax (by simp only[YQ];omega)) (Xd rfl) (by rw[ZB];simp only[YQ];omega)),b4 (by rw[ZB];simp only[YQ];omega) (λc hc => ?_) (b1 p)⟩;rcases Z0.mp hc with z|z
  ·exact b0 c z
  ·rw[Z5.mp z];exact x1
 rw[ej (F 6),y0 w6,wR wV]
 by_cases w7:v=7
 ·rw[ej (F 7),x8 w7,yD rfl]
  refine Dv ⟨X.take p++X.drop (p + 1),J,I,g,?_,b4 (by omega) b0 (b1 (p + 1))⟩;rw[<-V];exact bc (lV (Xt rfl) (Xd (k:=p + 1) (ar rfl rfl rfl)) (by omega))
 rw[ej (F 7),y0 w7,wR wV];have st:=fQ (i6 (x:=aa 2) (e:=aa 7) (σ:=[some (.str X),some (.ref s),some (.ref h.length),some (.int v),some (.int o),some (.int u),some (.ref y),some (.str w),some (.int p)]) rfl O rfl O (by simp[SZ];omega));have ea:n.map D.str++[.str w] = (n++[w]).map D.str:=by simp
 rw[ea,N]at st;exact iH st (oo gk (K hg (Z a9)) (by simp;omega))
end
theorem yB {w:List Nat}{ns:List Int}(a:32∉w):aX 32 (line w ns)=w :: ns.map tx:=by
 refine gY (by simp) λp b => ?_;rcases wU.mp b with e|e
 ·rw[e];exact a
 ·obtain⟨i,_,rfl⟩:=Z2.mp e
  exact uH (by decide) (by decide)
theorem mT {c sp:Nat}:∀{L:List (List Nat)},c∈bP [sp] L->c=sp\/∃x∈L,c∈x
 | [],h=>by simp[bP]at h
 | [x],h=>.inr ⟨x,by simp,h⟩
 | x :: y :: r,h=>by
  rw[bP]at h;rcases Z0.mp h with h|h
  ·rcases Z0.mp h with h|h
   ·exact .inr ⟨x,by simp,h⟩
   ·exact .inl (by simpa using h)
  ·rcases mT h with e|⟨z,a,q⟩
   ·exact .inl e
   ·exact .inr ⟨z,ZV _ a,q⟩
theorem mU {w:List Nat}{ns:List Int}(b:10∉w):10∉line w ns:=λh=>by
 rcases mT h with e|⟨z,a,q⟩
 ·cases e
 ·rcases wU.mp a with e|e
  ·rw[e]at q;exact b q
  ·obtain⟨i,_,rfl⟩:=Z2.mp e
   exact uH (by decide) (by decide) q
theorem A9 (o:Option Int):10∉gF o:=λh=>by
 cases o with
 | none=>simp[gF]at h
 | some x =>
  rcases Z0.mp h with h|h
  ·revert h;decide
  ·exact uH (by decide) (by decide) h
theorem nH (n:Nat)(T:List Tie)(bs:List Int)(ss:List (Option Int)):aX 10 (bP [10] (cH n T bs ss))=cH n T bs ss:=by
 refine gY (by simp[cH]) λp a => ?_;unfold cH at a;rcases wU.mp a with e|a
 ·rw[e];exact mU (by decide)
 ·rcases Z0.mp a with a|a
  ·obtain⟨t,_,rfl⟩:=Z2.mp a
   exact mU (by decide)
  ·rcases Z0.mp a with a|a
   ·obtain⟨t,_,rfl⟩:=Z2.mp a
    exact mU (by decide)
   ·obtain⟨t,_,rfl⟩:=Z2.mp a
    exact A9 t
theorem uR {w:List Nat}{ns:List Int}(d:32∉w)(b:∀i∈ns,i.natAbs < 10 ^ 60):nb w (line w ns)=ns:=by
 unfold nb;rw[yB d];have c:∀v∈ns.map tx,(sn v).isSome=true:=λv e=>by
  obtain⟨i,a,rfl⟩:=Z2.mp e;rw[Fg (b i a)];rfl
 simp only;rw[yD ⟨trivial,c⟩,YI];have:∀i∈ns,((λw=>(sn w).getD 0) ∘ tx) i=id i:=λi a=>by
  show (sn (tx i)).getD 0=i;rw[Fg (b i a)];rfl
 rw[Y3 this,List.map_id]
theorem Dw {t:Tie}(b:n<=30)(h:t.a < t.b/\t.b < n/\1<=t.w/\t.w<=400):cI n (nR t)=some t/\isT (nR t):=by
 have e:nb cX (nR t)=[(t.a:Int),t.b,t.w]:=uR (by decide) (λi a=>by
  simp only[wU,List.not_mem_nil,or_false]at a;rcases a with z|z|z<;>(rw[z];exact big (by omega) (by omega)))
 refine⟨?_,rfl⟩;unfold cI;rw[e];show (if (0:Int)<=t.a/\(t.a:Int) < t.b/\(t.b:Int) < n/\1<=t.w/\t.w<=400 then some (⟨(t.a:Int).toNat,(t.b:Int).toNat,t.w⟩ : Tie) else none)=_;rw[yD (by omega)];rfl
theorem Hq {acc:List Tie}{t:Tie}(h:∀s∈acc,l5 s t):nxt acc t.a t.b=true:=by
 unfold nxt;split
 ·rfl
 ·rename_i s e
  exact EM (h s (List.mem_of_getLast? e))
theorem sO {n:Nat}(a:n<=30){R:List (List Nat)}(b:∀l r,R=l :: r->¬isT l):∀{T acc:List Tie},RT n (acc++T)->eM n acc (T.map nR++R)=(true,acc++T,R)
 | [],acc,_=>by
  rw[Y8,WN,YL];cases R with
  | nil=>rw[eM]
  | cons l r=>rw[eM,wR (b l r rfl)]
 | t :: T,acc,h=>by
  obtain⟨c,d⟩:=Dw a (h.ok t (by simp));rw[ZZ,XI,eM,yD d,c];simp only;rw[yD (Hq λs e=>(YZ.mp h.up).2.2 s e t (by simp))];have:=sO a b (T:=T) (acc:=acc++[t]) (by simpa[ZT] using h);rw[this];simp[ZT]
theorem mV {α : Type}{f:List Nat->Option α}{g : α->List Nat}{R:List (List Nat)}:∀{A acc:List α},(∀a∈A,f (g a)=some a)->cf f A.length acc (A.map g++R)=(true,acc++A)
 | [],acc,_=>by simp[cf]
 | a :: A,acc,h=>by
  rw[ZX,ZZ,XI,cf,h a (by simp)];simp only;rw[mV λx b=>h x (ZV _ b)];simp
theorem ES (s:1<=n)(m:n<=30){T:List Tie}(rt:RT n T){bs:List Int}{ss:List (Option Int)}(lb:bs.length=n)(ls:ss.length=n)(os:∀x∈ss,x=none\/x=some 0\/x=some 1)(bb:∀b∈bs,b.natAbs < 10 ^ 60) :
  rdG (aX 10 (bP [10] (cH n T bs ss)))=.web n T bs ss:=by
 rw[nH];unfold cH;have p:dF (line dD [(n:Int)])=some n:=by
  have:jT dD (line dD [(n:Int)])=some (n:Int):=fA.mpr (uR (by decide) λi c=>by rw[Z5.mp c];exact big (by omega) (by omega));unfold dF;rw[this];show (if 1<=(n:Int)/\(n:Int)<=30 then some (n:Int).toNat else none)=_;rw[yD (by omega)];rfl
 have a:∀b∈bs,dZ (lY b)=some b:=λb k=>fA.mpr (uR (by decide) λi c=>by rw[Z5.mp c];exact bb b k);have d:=sO (n:=n) m (R:=bs.map lY++ss.map gF) (λl r e=>by
  cases bs with
  | nil=>simp at lb;omega
  | cons b bs =>
   rw[ZZ,XI]at e;injection e with e _
   rw[<-e];intro z;have:(lY b).take 4=[98,97,114,32]:=rfl;unfold isT at z;rw[this]at z;cases z) (T:=T) (acc:=[]) rt
 rw[WN]at d;rw[rdG,p];simp only;rw[d];simp only;have j:=mV (f:=dZ) (g:=lY) (R:=ss.map gF) (acc:=[]) a;rw[lb,WN]at j;rw[j];simp only;have t:(bs.map lY++ss.map gF).drop n=ss.map gF:=by
  have:n=(bs.map lY).length:=by rw[ZA,lb]
  rw[this,List.drop_left]
 have h:=mV (f:=b0) (g:=gF) (R:=[]) (acc:=[]) λo q=>Hi (os o q);rw[ls,WN,YL]at h;rw[t,h];simp only;rw[wR (by rw[ZB,ZA,ZA];omega)]
theorem ET (m:n<=30){T:List Tie}(O:TOk n n 0 T){bs:List Int}{ss:List (Option Int)}(lb:bs.length=n)(ls:ss.length=n)(os:∀x∈ss,x=none\/x=some 0\/x=some 1)(bb:∀b∈bs,b.natAbs < 10 ^ 60):∀l∈cH n T bs ss,G l:=λl a=>by
 refine⟨(sF m O lb ls os bb).1 l a,λc d => ?_⟩;have lc:∀{w:List Nat} {f:List Int},(∀c∈w,c < 128)->c∈line w f->c < 128:=λ{w f} g h=>by
  rcases mT h with e|⟨z,j,q⟩
  ·omega
  ·rcases wU.mp j with e|e
   ·rw[e]at q;exact g c q
   ·obtain⟨i,_,rfl⟩:=Z2.mp e
    rcases yo i c q with k|k<;>omega
 unfold cH at a;rcases wU.mp a with e|a
 ·rw[e]at d;exact lc (by decide) d
 ·rcases Z0.mp a with a|a
  ·obtain⟨t,_,rfl⟩:=Z2.mp a
   exact lc (by decide) d
  ·rcases Z0.mp a with a|a
   ·obtain⟨t,_,rfl⟩:=Z2.mp a
    exact lc (by decide) d
   ·obtain⟨o,_,rfl⟩:=Z2.mp a
    cases o with
    | none=>exact(show ∀c∈[102,114,101,101],c < 128 by decide) c d
    | some x =>
     rcases Z0.mp d with d|d
     ·exact(show ∀c∈[115,116,97,121,115,32],c < 128 by decide) c d
     ·rcases yo x c d with k|k<;>omega
theorem Dx {X:List Nat}(t:Tx X)(h:Hd):fK [.str X] h=.ok (uN (rdG (aX 10 X))) h:=by
 have r:=zJ t h;have c:aB (gN 1) (fC .non) [some (.str X),none,none,none] h=.nx [some (.str X),some .non,none,none] h:=aH rfl;have b:aB (gN 2) (fC .non) [some (.str X),some .non,none,none] h=.nx [some (.str X),some .non,some .non,none] h:=aH rfl;cases e:rdG (aX 10 X) with
 | bad k =>
  rw[e]at r;obtain⟨d,⟨g,j⟩,r⟩:=r;have a:Fy.sTryL 3 2 "NoText" (aB (gN 1) (au bS (fPl (ae (aa 0) am)))) [some (.str X),some .non,some .non,none] h=.nx [some (.str X),some .non,some (.int k),none] d:=by
   unfold sTryL;rw[ki (i:=1) (r:=ae (aa 0) am) (σ:=[some (.str X),some .non,some .non,none]) rfl r];rfl
  refine(bJ rfl rfl (sx c (sx b (sx a (bc (cS (dA rfl rfl))))))).trans ?_;rw[j];exact cD rfl
 | web n T l f =>
  rw[e]at r;have a:Fy.sTryL 3 2 "NoText" (aB (gN 1) (au bS (fPl (ae (aa 0) am)))) [some (.str X),some .non,some .non,none] h=.nx [some (.str X),some (eu n T l f).enc,some .non,none] h:=by
   unfold sTryL;rw[l6 (i:=1) (r:=ae (aa 0) am) (σ:=[some (.str X),some .non,some .non,none]) rfl r];rfl
  refine(bJ rfl rfl (sx c (sx b (sx a (bc (cS (dA rfl rfl))))))).trans aU
theorem EU {d:D}(hd:oR h .str d=some false):fK [d] h=.ok (.tup [.non,.int 0]) h:=by
 have r:bS [d] h=.exc (NT 0) h:=by
  have f:ip .str (aa 0) [some d,none,none,none,none,none,none] h=.ok (.bl false) h:=by
   show (match oR h .str d with|some b=>Res.ok (D.bl b) h|none=>.bad)=_;rw[hd]
  exact jV rfl rfl (fV (yt (bu (aE f)) (pY rfl)))
 have c:aB (gN 1) (fC .non) [some d,none,none,none] h=.nx [some d,some .non,none,none] h:=aH rfl;have a:aB (gN 2) (fC .non) [some d,some .non,none,none] h=.nx [some d,some .non,some .non,none] h:=aH rfl;have e:Fy.sTryL 3 2 "NoText" (aB (gN 1) (au bS (fPl (ae (aa 0) am)))) [some d,some .non,some .non,none] h=.nx [some d,some .non,some (.int 0),none] h:=by
  unfold sTryL;rw[ki (i:=1) (r:=ae (aa 0) am) (σ:=[some d,some .non,some .non,none]) rfl r];rfl
 exact(bJ rfl rfl (sx c (sx a (sx e (bc (cS (dA rfl rfl))))))).trans aU
theorem Dy {d:D}(h1:peq d d=some true)(b:dep d<=20)(a:∀g,cU g d=none)(g:Hd):oEq d d g=.ok (.bl true) g:=by
 unfold oEq eqG;rw[a];simp only[yD b,h1]
theorem mW (r:RR)(g:Hd):oNe (uN r) (uN r) g=.ok (.bl false) g:=by
 cases r with
 | bad k =>
  refine pK ?_ (by simp[uN,dep,jy]) (λ_=>rfl) g;simp[uN,peq,gQ]
 | web n T b a =>
  obtain⟨c,e⟩:=lF (eu n T b a);refine pK ?_ ?_ (λ_=>rfl) g
  ·simp[uN,peq,gQ,c]
  ·have:dep (eu n T b a).enc<=19:=by
    unfold Web.enc;have h:=dH (k:=2) (f:=lx) (λr=>by
     unfold lx;have:=dH (k:=1) (f:=uk) (λp=>by simp[uk,dep,jy]) r;simp only[dep];omega) (eu n T b a).ties
    have d:=dH (k:=0) (f:=D.int) (λp=>by simp[dep]) (eu n T b a).bars;have i:=dH (k:=0) (f:=bC) (λp=>by cases p<;>simp[bC,dep]) (eu n T b a).stays;simp only[dep,jy];omega
   simp only[uN,dep,jy];omega
inductive LW (a b c d:D) (h:Hd):Nat->Sd->Hd->Prop
 | mk {i:Nat} {y z u v:Option D} {g:Hd}:LW a b c d h i [some a,some b,some c,some d,y,z,u,v] (h++g)
theorem Hr
  (ns:List Int) (b5:ns.length<=63):∃h,zD [.lit (ns.map .int)] []=.ok (.bl true) h:=by
 obtain⟨n,T,J,I,L,P⟩:=AL ns;obtain⟨o,W⟩ : ∃o:D,o=.lit (ns.map .int):=⟨_,rfl⟩;have n6:=P.n6;have hn:n<=30:=by omega
 have n1:=P.n1;have O:=P.ok;have lb:=P.lb;have ls:=P.ls;have os:=P.os;have bb:=P.bb;obtain⟨w,hw⟩ : ∃w,w=eu n T J I:=⟨_,rfl⟩;obtain⟨Q,K⟩ : ∃Q,Q=cH n (gD n T) J I:=⟨_,rfl⟩;obtain⟨X,hX⟩ : ∃X,X=bP [10] Q:=⟨_,rfl⟩;have O1:=(oh hn O).1;have a0:∀l∈Q,G l:=by rw[K];exact ET hn O1 lb ls os bb
 have a4:1<=Q.length/\Q.length<=100:=by
  have:=(zN n6 O).2;rw[K];simp only[cH,ZX,ZB,ZA];omega
 have sp:aX 10 X=Q:=by rw[hX,K];exact nH _ _ _ _
 have tX:Tx X:=by rw[hX];exact(uQ a0 (by omega)).1
 have rd:rdG (aX 10 X)=.web n (gD n T) J I:=by rw[hX,K];exact ES n1 hn (zM hn O) lb ls os bb
 have ew:eu n (gD n T) J I=w:=by rw[hw];exact yi hn O J I
 have a2:∀h,gd bS [.str X] h=.ok w.enc h:=λh=>by
  have r:=zJ tX h;rw[rd]at r;have r:bS [.str X] h=.ok (eu n (gD n T) J I).enc h:=r;unfold gd;rw[r,ew];rfl
 have a9:∀h,fJ [.str X] h=.ok (.tup [w.enc,.non]) h:=λh=>by
  rw[sM tX h,rd];show Res.ok (D.tup [(eu n (gD n T) J I).enc,.non]) h=_;rw[ew]
 obtain⟨f,B⟩ : ∃f,f=D.tup [.int n,.ref 1,.ref (5 + n),.ref 3,.ref 4]:=⟨_,rfl⟩;have e0:CZ [some o,none,none,none,none,none,none,none] []=.nx [some o,some f,none,none,none,none,none,none] L:=by
  have a6:=P.run;rw[<-W,<-B]at a6;exact aH (aD (ai rfl rfl) a6)
 have a3:L[1]? = some (.lst (T.map bq)):=P.ti;have a1:L[5 + n]? = some (.lst (J.map .int)):=P.ba;have a5:L[3]? = some (.lst (I.map bC)):=P.st;have ol:=O.len;have lT:(T.map bq).length<=SZ:=by simp[SZ];omega
 have lB:(J.map D.int).length<=SZ:=by simp[SZ];omega
 have lS:(I.map bC).length<=SZ:=by simp[SZ];omega
 obtain⟨R,C⟩ : ∃R,R=L++[aO.lst (T.map bq)]:=⟨_,rfl⟩;obtain⟨Z,A⟩ : ∃Z,Z=R++[aO.lst (J.map .int)]:=⟨_,rfl⟩;obtain⟨p,q⟩ : ∃p,p=Z++[aO.lst (I.map bC)]:=⟨_,rfl⟩;have b0:eX [.int n,.ref L.length,.ref R.length,.ref Z.length] p=.ok w.enc p:=by
  rw[hw];refine mI n1 hn O lb ls os ?_ ?_ ?_
  ·rw[q,A,C];exact aC _ (aC _ ZF)
  ·rw[q,A];exact aC _ ZF
  ·rw[q];exact ZF
 have e1:C0 [some o,some f,none,none,none,none,none,none] L=.nx [some o,some f,some w.enc,none,none,none,none,none] p:=by
  have a:∀{i:Int} {d:D} {h:Hd},atI [.int n,.ref 1,.ref (5 + n),.ref 3,.ref 4] i=some d->fAt (aa 1) (fC (.int i)) [some o,some f,none,none,none,none,none,none] h=.ok d h:=λ{i d h} e=>bz rfl rfl (by rw[B];rfl) e;have f1:aL (lOf (fAt (aa 1) (fC (.int 1)))) [some o,some f,none,none,none,none,none,none] L=.ok (.ref L.length) R:=by rw[C];exact bo (bG (a rfl) (aK a3)) lT
  have f2:aL (lOf (fAt (aa 1) (fC (.int 2)))) [some o,some f,none,none,none,none,none,none] R=.ok (.ref R.length) Z:=by rw[A];exact bo (bG (a rfl) (aK (by rw[C];exact aC _ a1))) lB
  have f3:aL (lOf (fAt (aa 1) (fC (.int 3)))) [some o,some f,none,none,none,none,none,none] Z=.ok (.ref Z.length) p:=by rw[q];exact bo (bG (a rfl) (aK (by rw[A,C];exact aC _ (aC _ a5)))) lS
  exact aH (aD (ai (a rfl) (ai f1 (dA f2 f3))) b0)
 have tx:=EQ n6 O lb ls os bb (qk:=4) (h:=p) (by rw[q,A,C];exact aC _ (aC _ (aC _ a3))) (by rw[q,A,C];exact aC _ (aC _ (aC _ a1))) (by rw[q,A,C];exact aC _ (aC _ (aC _ a5)));rw[<-K,<-hX,<-B]at tx;have e2:C1 [some o,some f,some w.enc,none,none,none,none,none] p=.nx [some o,some f,some w.enc,some (.str X),none,none,none,none] p:=aH (aD (ai rfl rfl) tx);have sw:∀h,oNe (.tup [w.enc,.non]) (.tup [w.enc,.non]) h=.ok (.bl false) h:=λh=>by
  have:=mW (.web n T J I) h;rw[hw];exact this
 have e3:C2 [some o,some f,some w.enc,some (.str X),none,none,none,none] p=.nx [some o,some f,some w.enc,some (.str X),none,none,none,none] p :=
  cW (bA (aE (ar (aD (ai rfl rfl) (a2 _)) rfl (EC w _))) (aE (ar (aD (ai rfl rfl) (a9 _)) (cS (dA rfl rfl)) (sw _))))
 obtain⟨b2,h6,q4,z4⟩:=j9 (P:=LW o f w.enc (.str X) p) (g:=none) (k:=0) (all:=(List.range 12).map (λj:Nat=>D.int j)) (λ_ _ _ _=>trivial) (xs:=(List.range 12).map (λj:Nat=>D.int j)) (tg:=gN 4) (b:=yj)
  (σ:=[some o,some f,some w.enc,some (.str X),none,none,none,none]) (h:=p) (by
   intro i x σ h0 hx z;obtain⟨hi,rfl⟩:=iA hx;cases z
   rename_i y z u v g
   obtain⟨H,hH⟩ : ∃H,H=p++g:=⟨_,rfl⟩;obtain⟨c,m,qs⟩:=pG ns (41 + i) H;rw[<-W]at qs;have b1:(41:Int) + (i:Int)=((41 + i:Nat):Int):=by omega
   have t1:aB (gN 5) (au cK (ae (aa 0) (ae (ao b7 (fC (.int 41)) (aa 4)) am))) [some o,some f,some w.enc,some (.str X),some (.int i),z,u,v] H=.nx [some o,some f,some w.enc,some (.str X),some (.int i),some (.ref H.length),u,v] (H++[SC c 0 m]):=aH (aD (dA rfl (ar rfl rfl (by show Res.ok (D.int (41 + (i:Int))) H=_;rw[b1]))) qs);obtain⟨Y,F,E,qY,tY⟩:=yA (h:=H++[SC c 0 m]) (s:=H.length) (m:=m) (c:=c) (t:=0) (by simp) hX sp a0 a4.1 a4.2;rw[zz rfl,zz rfl]at qY;have t2:aB (gN 6) (au fI (ae (aa 3) (ae (aa 5) am))) [some o,some f,some w.enc,some (.str X),some (.int i),some (.ref H.length),u,v] (H++[SC c 0 m])=.nx [some o,some f,some w.enc,some (.str X),some (.int i),some (.ref H.length),some (.str Y),v] (H++[SC F E m]):=aH (aD (dA rfl rfl) qY);have t3:sIf (tE (ao oNe (au fK (ae (aa 6) am)) (au fJ (ae (aa 6) am)))) (bx (fC (.bl false))) bB [some o,some f,some w.enc,some (.str X),some (.int i),some (.ref H.length),some (.str Y),v] (H++[SC F E m])=.nx [some o,some f,some w.enc,some (.str X),some (.int i),some (.ref H.length),some (.str Y),v] (H++[SC F E m]) :=
    cW (aE (ar (aD (ai rfl rfl) (Dx tY _)) (aD (ai rfl rfl) (sM tY _)) (mW _ _)))
   obtain⟨H2,U⟩ : ∃H2,H2=H++[SC F E m]++[.lst [.str X]]++[.dct []]:=⟨_,rfl⟩;have V:ae (fC .non) (ae (fC (.int 5)) (ae (fC (.bl true)) (ae (aL (ae (aa 3) am)) (ae (dR (ae (aa 3) am)) (ae (aa 2) (ae o9 am)))))) [some o,some f,some w.enc,some (.str X),some (.int i),some (.ref H.length),some (.str Y),v] (H++[SC F E m])=.ok [.non,.int 5,.bl true,.ref (H.length + 1),.tup [.str X],w.enc,.ref (H.length + 2)] H2:=by
    have dn:o9 [some o,some f,some w.enc,some (.str X),some (.int i),some (.ref H.length),some (.str Y),v] (H++[SC F E m]++[.lst [.str X]])=.ok (.ref (H.length + 2)) H2:=by
     rw[U];show Res.ok (D.ref (H++[SC F E m]++[aO.lst [.str X]]).length) _=_;simp
    have nw:aL (ae (aa 3) am) [some o,some f,some w.enc,some (.str X),some (.int i),some (.ref H.length),some (.str Y),v] (H++[SC F E m])=.ok (.ref (H.length + 1)) (H++[SC F E m]++[.lst [.str X]]):=by
     have:=bo (r:=ae (aa 3) am) (σ:=[some o,some f,some w.enc,some (.str X),some (.int i),some (.ref H.length),some (.str Y),v]) (h:=H++[SC F E m]) (ai rfl rfl);rw[ZB]at this;exact this
    exact ai rfl (ai rfl (ai rfl (ai nw (ai (cS (ai rfl rfl)) (ai rfl (ai dn rfl))))))
   obtain⟨N,c7,t7,q7,b3,b4⟩:=c9 (h:=H2) (n:=H.length) (c:=F) (t:=E) (m:=7) (b:=m) (by rw[U];exact aC _ (aC _ ZF)) (by decide) (by decide);obtain⟨M,a7⟩ : ∃M,M=H2.set H.length (SC c7 t7 m):=⟨_,rfl⟩;rw[<-a7]at q7;have S:M=H++[SC c7 t7 m,.lst [.str X],.dct []]:=by
    rw[a7,U,ZT,ZT];exact kf
   have g1:M[H.length + 1]? = some (.lst [.str X]):=by rw[S];exact uP
   have g2:M[H.length + 2]? = some (.dct []):=by
    rw[S,ZD (by omega),WH];rfl
   obtain⟨th,h7,a8⟩ : ∃th,atI [.non,.int 5,.bl true,.ref (H.length + 1),.tup [.str X],w.enc,.ref (H.length + 2)] N=some th/\oR M .str th=some false:=by
    have:N=0\/N=1\/N=2\/N=3\/N=4\/N=5\/N=6:=by omega
    rcases this with z|z|z|z|z|z|z<;>subst z
    ·exact⟨_,rfl,rfl⟩
    ·exact⟨_,rfl,rfl⟩
    ·exact⟨_,rfl,rfl⟩
    ·exact⟨_,rfl,by simp only[oR,g1];rfl⟩
    ·exact⟨_,rfl,rfl⟩
    ·exact⟨_,rfl,rfl⟩
    ·exact⟨_,rfl,by simp only[oR,g2]⟩
   have t4:=aH (i:=7) (jo V (aD (r:=ae (aa 5) (ae (fC (.int 7)) am)) (dA rfl rfl) q7) h7);have t5:sIf (tE (ao oNe (au fK (ae (aa 7) am)) (dR (ae (fC .non) (ae (fC (.int 0)) am))))) (bx (fC (.bl false))) bB [some o,some f,some w.enc,some (.str X),some (.int i),some (.ref H.length),some (.str Y),some th] M=.nx [some o,some f,some w.enc,some (.str X),some (.int i),some (.ref H.length),some (.str Y),some th] M :=
    cW (aE (ar (aD (ai rfl rfl) (EU a8)) (cS (dA rfl rfl)) (mW (.bad 0) _)))
   have bd:yj [some o,some f,some w.enc,some (.str X),some (.int i),z,u,v] (p++g)=.nx [some o,some f,some w.enc,some (.str X),some (.int i),some (.ref H.length),some (.str Y),some th] M:=by
    rw[<-hH];exact sx t1 (sx t2 (sx t3 (sx t4 t5)))
   refine⟨_,rfl,_,_,bd,?_⟩;rw[S,hH,ZT];exact .mk) (by have:=LW.mk (a:=o) (b:=f) (c:=w.enc) (d:=.str X) (h:=p) (i:=0) (y:=none) (z:=none) (u:=none) (v:=none) (g:=[]);rwa[YL]at this)
 have e4:C3 [some o,some f,some w.enc,some (.str X),none,none,none,none] p=.nx b2 h6:=mE (jL (n:=12) rfl (by decide)) q4;cases z4
 rename_i y z u v g
 have ex:∀h,oEq w.enc w.enc h=.ok (.bl true) h:=λh=>Dy (lF w).1 (lF w).2 (λ_=>rfl) h;have e5:C4 [some o,some f,some w.enc,some (.str X),y,z,u,v] (p++g)=.rt (.bl true) (p++g):=bc (ar (aD (ai rfl rfl) (a2 _)) rfl (ex _));refine⟨[],?_⟩;rw[<-W];exact(bJ rfl rfl (sx e0 (sx e1 (sx e2 (sx e3 (sx e4 e5)))))).trans (cD (h:=[]) (g:=p++g) rfl)
end Fm
def PySem.W.Fast.tw90343872475197607 : Type := PySem.Params
theorem PySem.W.Fast.te90343872475197607 : PySem.Params = PySem.W.Fast.tw90343872475197607 := rfl
def PySem.W.Fast.tw14446910653131293214 : PySem.Program := PySem.Challenge.pw_followmost_k49_texts_of_no_web
theorem PySem.W.Fast.te14446910653131293214 : PySem.Challenge.pw_followmost_k49_texts_of_no_web = PySem.W.Fast.tw14446910653131293214 := rfl
def PySem.W.Fast.tw16067972432052110731 : Nat := 0
def PySem.W.Fast.tw10492199442690574275 : Nat := 0
def PySem.W.Fast.tw15027489779603325485 : Nat := 0
def PySem.W.Fast.tw2211636808616835163 : Nat := 0
def PySem.W.Fast.tw14657432372422444679 : Nat := 0
def PySem.W.Fast.tw12169873801808765397 : Nat := 0
def PySem.W.Fast.tw15911701563726403718 : Nat := 0
def PySem.W.Fast.tw16919942191347491149 : Nat := 0
def PySem.W.Fast.tw10557661096439414767 : Nat := 0
def PySem.W.Fast.tw3686672932853524653 : Nat := 0
def PySem.W.Fast.tw12792531603664577718 : Nat := 0
def PySem.W.Fast.tw9399555432356161957 : Nat := 0
def PySem.W.Fast.tw1498234158403330677 : Nat := 0
def PySem.W.Fast.tw14766882171232944156 : Nat := 0
open PySem PySem.W PyProof.Rows
set_option maxRecDepth 100000 in
set_option maxHeartbeats 0 in
theorem PySem.Challenge.cw_followmost_k49_texts_of_no_web_holds : PySem.Challenge.rw_followmost_k49_texts_of_no_web.Holds := by
 w_on;o_law;k_head;(case hw=>w_witness2)
 k_fill
 refine Fm.Iu (l := PySem.Challenge.rw_followmost_k49_texts_of_no_web) (F := Fm.zD) (k := 8) (x := "_law_script") rfl rfl ⟨rfl, by decide, by decide, rfl⟩ (fun w h Y => PySem.W.kIn_of Y) ?F Fm.Hr
 case F =>
  intro w mg fa h KX G hmg
  refine' Fm.G4 KX G hmg ?_ ?_ ?_ ?_ ?_ ?_ ?_ ?_ ?_ ?_ ?_ ?_ ?_ ?_ ?_ ?_ ?_ ?_ ?_ ?_ ?_ ?_ ?_ ?_ ?_ ?_ ?_ ?_ ?_ ?_ ?_ ?_ ?_ ?_ ?_ ?_ ?_ ?_ ?_ ?_ ?_ ?_ ?_ ?_ ?_ ?_ ?_ ?_ ?_ ?_ ?_ ?_ ?_ ?_ ?_ ?_ ?_ ?_ ?_ ?_ ?_ ?_ ?_ ?_ ?_ ?_ ?_ ?_ ?_ ?_ ?_ ?_ ?_ ?_ ?_ ?_ ?_ ?_ ?_ ?_ ?_ ?_
  all_goals first|refine' Fm.At.i ?_ ?_ ?_ ?_|unfold Fm.Nb|skip
  all_goals try first|k_is|k_exc|kit_is
  all_goals first|(unfold Fm.px;kernel_rfl)|kernel_rfl|rfl
