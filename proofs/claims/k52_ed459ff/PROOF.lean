import PyProof.Rows.All
import Wide.All
import OpenK.AllK
import Wide.FinOn
import Lean
import PyProof.EqAt
import PyProof.EqKinds
import PyProof.TupleCall
import PyProof.NeKinds
import KE.RegKIsAll
import PyProof.ExcAttrAll.ValueError
import PyProof.IsInstanceH
import PyProof.IsiNone
import PyProof.NsDelKeeps
import PyProof.EnumMake
import PyProof.Draws
import PyProof.ZipIter
import PyProof.ListRange
import PyProof.Rows.StrJoin2
import KE.KTops
import KE.KIntText
import KE.IntTextLaws
import PyProof.FString5
import PyProof.CallStr
import PyProof.Rows.StrSplitCount
import PySem.Challenge.RW_followmost_k52_desk_rows_answered
set_option Elab.async false
set_option linter.all false
abbrev ZA:=@List.length_map
abbrev ZB:=@List.length_append
abbrev ZC:=@List.getElem?_append_left
abbrev ZD:=@List.getElem?_append_right
abbrev ZE:=@List.getElem?_eq_getElem
abbrev ZF:=@List.getD_eq_getElem?_getD
abbrev ZG:=@List.getElem?_concat_length
abbrev ZH:=@PySem.Heap.get?_push_of_some
abbrev ZI:=@PySem.Heap.lt_size
abbrev ZJ:=@PySem.Heap.get?_push_size
abbrev ZK:=@List.mem_of_getElem?
abbrev ZL:=@Nat.le_refl
abbrev ZM:=@Nat.le_trans
abbrev ZN:=@Nat.ne_of_lt
abbrev ZO:=@List.length_range
abbrev ZP:=@List.getElem?_set_ne
abbrev ZQ:=@List.getElem?_map
abbrev ZR:=@List.map_append
abbrev ZS:=@Nat.lt_of_le_of_lt
abbrev ZT:=@Option.some.inj
abbrev ZU:=@List.append_assoc
abbrev ZV:=@List.mem_cons_self
abbrev ZW:=@List.mem_cons_of_mem
abbrev ZX:=PySem.W.Frag
abbrev zA:=@List.getElem?_eq_some_iff
abbrev zD:=@PySem.wpAny_bind
abbrev zE:=@if_pos
abbrev zF:=@if_neg
abbrev z0:=@List.mem_map
abbrev z3:=@decide_eq_true
abbrev z4:=@decide_eq_false
abbrev z5:=@List.map_cons
abbrev y3:=@List.map_map
abbrev y6:=@List.mem_cons
abbrev x3:=@PySem.wpAny_pure
abbrev wI:=@List.length_cons
abbrev wJ:=@List.getElem?_set_self
abbrev wK:=@Nat.zero_add
abbrev wL:=@List.filter_eq_self
abbrev wM:=@List.getElem?_eq_none
abbrev v3:=@List.size_toArray
abbrev ZY:=@Nat.lt_of_lt_of_le
abbrev ZZ:=@Bool.and_eq_true
abbrev Z0:=@PySem.PassesOwn.never
abbrev Z1:=@Nat.lt_trans
abbrev Z2:=@Nat.lt_succ_of_lt
abbrev Z3:=@List.mem_append
abbrev Z4:=@Bool.false_ne_true
abbrev Z5:=@List.mem_singleton
abbrev Z6:=@Nat.lt_succ_self
abbrev Z7:=@List.lookup_cons
abbrev Z8:=@Nat.lt_irrefl
abbrev Z9:=@Nat.ne_of_gt
abbrev YA:=@List.getElem_mem
abbrev YB:=@Nat.le_of_lt
abbrev YC:=@List.pairwise_cons
abbrev YD:=@of_decide_eq_true
abbrev YE:=@List.map_congr_left
abbrev YF:=@List.mem_filter
abbrev YG:=@List.length_filter_le
abbrev YH:=@Nat.zero_le
abbrev YI:=@PySem.W.mg_none_of
abbrev YJ:=@List.filter_cons_of_pos
abbrev YK:=@List.mem_range
abbrev YL:=@decide_eq_true_eq
abbrev YM:=@Bool.false_eq_true
abbrev YN:=@List.take_length
abbrev YO:=@List.mem_append_right
abbrev YP:=@List.getElem?_range
abbrev YQ:=@List.getElem?_zip_eq_some
abbrev YR:=@Nat.le_add_right
abbrev YS:=@PySem.Heap.size_push
abbrev YT:=@Option.map_eq_some_iff
abbrev YU:=@PySem.wpAny_callSpecial?_slot
abbrev YV:=@List.filter_cons_of_neg
abbrev YW:=@List.nodup_cons
abbrev YX:=@List.append_nil
abbrev YY:=@List.length_nil
abbrev YZ:=@PySem.sizeLine_eq
abbrev Y0:=@List.replicate_succ
abbrev Y1:=@PyProof.Rows.callWith_type1
abbrev Y2:=@Option.some.injEq
abbrev Y3:=@Nat.le_of_lt_succ
abbrev Y4:=@List.pairwise_map
abbrev Y5:=@if_true
abbrev Y6:=@List.nodup_iff_pairwise_ne
abbrev Y7:=@PySem.wpAny_loadPart'
abbrev Y8:=@Option.map_some
abbrev Y9:=@List.take_of_length_le
abbrev W1:=@PySem.wpAny_field
abbrev W2:=@List.flatten_cons
abbrev VM:=@List.ext_getElem?
abbrev VN:=@List.sum_cons
abbrev U1:=@List.take_zero
abbrev zo:=@List.map_nil
abbrev zp:=@List.mem_filterMap
abbrev zv:=@PySem.wpAny_pyIter_tuple
abbrev yb:=@Nat.lt_of_le_of_ne
abbrev yo:=@PySem.wpAny_call_entry
abbrev xb:=@List.all_eq_true
abbrev xn:=@List.pairwise_append
abbrev wb:=@Int.le_refl
abbrev wh:=@Ne.symm
abbrev wo:=@Nat.le_of_eq
abbrev va:=@Nat.not_lt_zero
abbrev vb:=@PySem.call_isinstance
abbrev vc:=@List.range_succ
abbrev vd:=@PyProof.Rows.slot_tuple_getitem
abbrev ve:=@Int.natCast_nonneg
abbrev vf:=@List.length_take
abbrev vr:=@PySem.wpAny_holding
abbrev vy:=@PySem.W.mg_of
abbrev zZa:=@Nat.lt_succ_iff_lt_or_eq
abbrev zZb:=@if_false
abbrev zZc:=@PySem.isSubtype_type
abbrev zZd:=@Nat.pow_le_pow_right
abbrev zZe:=@List.take_succ
abbrev zZf:=@PySem.wpAny_truthy_bool
abbrev zZg:=@PySem.wpAny_newObj_type
abbrev zZh:=@Int.toNat_natCast
abbrev zZi:=@Nat.add_sub_cancel_left
abbrev zZj:=@List.getElem?_cons_succ
abbrev zZk:=@PySem.Str.ofString_eq_toList
abbrev zZl:=@List.filterMap_cons
abbrev zZm:=@Nat.add_left_cancel
abbrev zZn:=@PySem.F.slot_tuple_iterator_next
abbrev zZo:=@PySem.wpAny_seqItems
abbrev zZp:=@PySem.wpAny_setField_rec
abbrev zZq:=@Int.emod_lt_of_pos
abbrev zZr:=@List.length_replicate
abbrev zZs:=@List.mem_iff_getElem?
abbrev zZt:=@List.drop_eq_getElem_cons
abbrev zZu:=@PySem.F.slot_dict_getitem
abbrev zZv:=@PySem.wpAny_passesOwn
abbrev zZw:=@PySem.Heap.get?_push_ne
abbrev zZx:=@List.all_cons
abbrev zZy:=@Nat.not_lt
abbrev zZz:=@PySem.wpAny_comprehension_free
abbrev zYa:=@PySem.mem_of_lookup
abbrev zYb:=@Nat.le_of_not_lt
abbrev zYc:=@PySem.Heap.size_update
abbrev zYd:=@List.filter_cons
abbrev zYe:=@PySem.F.plainAttrs_str
abbrev zYf:=@List.length_set
abbrev zYg:=@List.find?_cons
abbrev zYh:=@List.filter_map
abbrev zYi:=@Int.emod_nonneg
abbrev zYj:=@List.any_cons
abbrev zYk:=@List.take_append_drop
abbrev zYl:=@List.nodup_append
abbrev zYm:=@PySem.wpAny_pyIter_list
abbrev zYn:=@List.flatMap_cons
abbrev zYo:=@List.getElem?_of_mem
abbrev zYp:=@Array.perm_iff_toList_perm
abbrev zYq:=@List.length_take_le'
abbrev zYr:=@Nat.add_le_add_right
abbrev zYs:=@Nat.mul_le_mul_right
abbrev zYt:=@Bool.or_true
abbrev zYu:=@Int.ofNat_le
abbrev zYv:=@Option.getD_some
abbrev zYw:=@List.not_mem_nil
abbrev zYx:=@List.map_set
abbrev zYy:=@Int.add_zero
abbrev zYz:=@List.pairwise_iff_getElem
abbrev zXa:=@Classical.byContradiction
abbrev zXb:=@List.toList_toArray
abbrev zXc:=@Nat.add_le_add_left
abbrev zXd:=@Nat.add_lt_add_left
abbrev zXe:=@List.getElem?_take_of_lt
abbrev zXf:=@PySem.F.args_tuple_add_2
abbrev zXg:=@PySem.W.KasT.kasWp_bind
abbrev zXh:=@PySem.wpAny_Call_Name_kw
abbrev zXi:=@PySem.SeqAt.EqAt.int_int
abbrev zXj:=@List.zip_cons_cons
abbrev zXk:=@PySem.typeIs_str
abbrev zXl:=@List.filter_append
abbrev zXm:=@PySem.wpAny_sequenceKey
abbrev zXn:=@List.take_add_one
abbrev zXo:=@Eq.trans
abbrev zXp:=@List.map_id'
abbrev zXq:=@PySem.wpAny_mono
abbrev zXr:=@PySem.call_meets
abbrev S1:=PySem.Value
abbrev P1:=PySem.Shared
abbrev P2:=PySem.Around
abbrev N3:=PySem.Program
abbrev N6:=PySem.World
section
set_option hygiene false
def en:Nat->Lean.Syntax->List String->List String
|0,_,l=>l
|_,.atom _ v,l=>("a"++v)::l
|_,.ident _ _ x _,l=>("i"++toString x)::l
|n+1,.node _ k s,l=>("n"++toString k)::s.foldr (en n) ("e"::l)
|_,_,l=>l
def de(r:Lean.SourceInfo)(h:Array Lean.Syntax):List String->List (String×Array Lean.Syntax)->Lean.Syntax
|t::l,(k,s)::m=>
 let v:=String.ofList t.toList.tail
 match t.toList.head?,m with
 |some 'n',_=>de r h l ((v,#[])::(k,s)::m)
 |some 'e',(j,u)::q=>de r h l ((j,u.push (.node r k.toName s))::q)
 |some 'a',_=>de r h l ((k,s.push (.atom r v))::m)
 |_,_=>de r h l ((k,s.push (h.getD (["γ","δ"].idxOf v) (Lean.mkIdent v.toName).raw))::m)
|_,(_,s)::_=>s.getD 0 .missing
|_,_=>.missing
local macro_rules
|`('§' [$a,*])=>
 let l:=a.getElems.toList.map λx=>"\n".intercalate (en 999 (if x.raw.isOfKind ``Lean.Parser.Term.paren then x.raw[1] else x.raw) [])
 pure (Lean.quote (k:=`term) ((List.range (l.length/32+1)).map λi=>"\t".intercalate ((l.drop (32*i)).take 32)))
def tb:List String:='§' [(by decide),(by omega),List Int,aa 1,aa 0,(by simp),aa 2,aa 3,ME X,At K,mv 0,OkD P w K mg base,List Nat,aU rfl rfl γ,fC (.int 1),mv 1,mv 2,(λ_ _=>rfl),List.range n,hist w n,aa 4,.int i,aK _,Inv X pins σ H s,mv 3,fC (.int 0),.int n,ZL _,ar s,PE X,Option D,aq .bS γ,gN 0,aa 5,bE _,fC (.int 2),Def P w K mg base,aa 6,.ref h.length,List .ff,a σ h,aP γ rfl,List .he,S1->P1->Prop,bA n T bs ss,mv 5,List Addr,bI w n s,mv 4,(by simp;omega),OpR X,.ref k,ZH _,Gl X,(by dsimp[rD,RD]),ad .e am,h++[.lst []],aW w n s,toS l,aq .bo γ,XCh d c n a b,h++g,.ok d,cm.bind γ,av rfl rfl γ,ss.map bw,[none],aD .fk γ,model X.prog X.w,.ref A,mg "len"=none,0,TOk n n 0 T,.int way,Str->Option S1,List Tie,aa 7,List Str,sIf γ fz bh,eval e,model prog w,.int c,.ref f,Option Int,aL rfl rfl γ δ,ag bL,(λ_=>true),Nat->Nat->Int,List .aW,bc γ .rw aG,.ok .dz,fP w n l,List Expr,nbs T i,[w.enc],List .bW,wpAny .aq X.A,RDs K ρ H,aW w n,fC .non,List Int,fAt .e .z,.inl rfl,.int n,aD .cq γ,(letGo h),upd H,ag dR,x == ("__debug__" : Str),fC (.int 3),bR am,["web"],gN 6,(∀x∈ss,x=none\/x=some 0\/x=some 1),G23 w n lo hi,.ref h.length,aV rfl γ,Lw Z n M bs ss bk,ag oEq,ar a,E.map ar,RH K ρ H hd,ss.length=n,List .bV,0,0,starEach [a],ag dI,aw rfl rfl,fC (.int 4),(by decide +kernel),X.calm=true,aD .gk γ,aD .iT γ,cF rfl γ,ah b a γ,eval a,((bn w n s (t+2)).map ar),0,aa 8,(λ_ _ _ _=>trivial),mv 6,mg "range"=none,bs.length=n,Inv X pins σ,fL rfl (br aA (br aA el)),bs.map .int,.ref C,gT [0,1],some k,h[dk]?=some .kM,Array S1,.Name γ p,c0 (b:=true) γ,aw γ rfl,wpAny .aC A,aD .fk,ag bQ,aV rfl rfl,aI .k ao .r,aL rfl rfl rfl rfl,Nat × Int,List Nat,.ref tk,List.range γ,bg [32] γ,bI w n,cA.a (bU.cons rfl rfl bU.nil),ae .k aj,w.stays.map bw,dW w.stays,s.heap.objs.size+1,(by rw[e];rfl),hist w n s k,aw rfl .bS,aM .cE,mI a b,mH a b,aE rfl,.int j,List.replicate γ δ,ag oEq .d γ,upd H p γ,ah d a γ,cz γ .EL,h++[.lst .hd],cxC X .kH scope cl C s H ex,ad .e .d2,ar b,fAt .e .o,tx i,EP X pins σ Q,gN 3,.lst .bG,.int v,0,g i j,mg "tuple"=none,Option Addr,.dR γ [a],av γ rfl rfl,Kp.same γ,aw rfl γ,ad .e γ,.ok .M,YI X G,av rfl rfl rfl,ae .k .f4,fC (.str [32]),fC (.int (-1)),fAt .e .J,g.below .b,.int a,cm.bind p,.lst xs,zA.mp e,mg "str"=none,HOk P w H h,Nat × Int,bI w n a,.int i,.ref k,x3 ?_,au γ .f1,ah e a γ,PySem.W.nsIn K mainGlobals,Stt n bk,aD .m3,aD .cq,Kp ρ H,.ref lk,av rfl rfl .hg,ad .h am,cC (lOf .d),ns.map .int,aM rfl,eval o X.env,lo.zip hi,aP [32] rfl,jA n T,.tup xs,.str a,.ref a,NL l,eqU x,ME X e f,.ref A,aQ .ef bT .p γ .w,.Subscript γ δ pos,aT em fM γ δ,.builtin γ,fK γ .eY,0,hist w n γ δ,h pins s σ H,.ok false,.ok true,bB 2 2,bB 1 1,ae .k,ae .p,.ok ds,.nx σ,.bl true,[116,105,101,32],{ s with heap:=h' },bO st,["web","stand"],ns.map V.int,[w.enc,ar s],K w.params,au bS .ad,.lst .an,sg s,0,x::xs,YH _,X.N[i]?=some x,List .wr,bI w n b,.lst l,.Call γ δ [] pos,.Attribute o γ apos,0,bn w n s γ,ah γ a .b2,aD .gw γ,PySem.W.keepIn K,k _ _ .aY,RD K ρ H,cu none,Q .ER,ad .g am,isR w n,aI .q ao .r,{ s with toks:=s.toks+1 },XA j c K none none none,.lst l,E.take i,[115,116,97,121],["web","thing"],.int one,bs.map D.int,.int x,.str w::W,bq b,h.length,Str × V,[.ref a],(∀b∈bs,b.natAbs<10^60),RD K ρ H d v,PE X a ta,List .EO,List .nr,List Env,.head _,0,compareOp γ,PySem.W.findIn K .bH,Ext ρ H ρ',aD .iT,.ok .A,((.b4).filter .d3),[some w.enc,some .bf,some .cm],[.tup [ar a,ar s],.tup [ar b,ar s]],ae .q aj,av rfl rfl .iG,h ++ .lst .iI::g,isP w n,he pins s σ H _ I h,dD .c7,kY _ _,c9 .e,(λx=>x.1.isSome),ss.getD i none,h++[.lst .b3],(λx => !x.1),bm W S F k,au bK .ad,gY w s,[f,.int c],.bl b,bw o,ay .mP,mg "isinstance"=none,mg "int"=none,b.length=n,a.length=n,qX w w n,Nat->Int,.inr rfl,l.map (·.2),.Name x pos,.int c,bG 1 [] γ .G [] δ,bc γ .rB aG,binaryOp γ,Ext.same γ,aT iN iO γ δ,Md Z n M bs ss bk,attributeBase o,.ok .non,fAt .g,fAt .e,aD .lK,aD .gk,ad .d am,Addr × Obj,fC (.str [102,114,101,101]),aS (fC (.bl false)),some .ar,.ref g.length,gN 2,fAt .d .e,(λp=>(Sum.inl p.1:Key)),zm5 La Lb s.heap a b,.str X,[some w.enc,some .Z],(by rw[z];exact Z8 _),ae .y aj,[.int p.1,.int p.2],.lst .iI,cC (lOf .e),(λ_ z=>nomatch z),(by simpa using e),I.hok.fresh .B,[w.enc,ar a,ar b],L.map .str,aI .p ao .r,.ref n,.builtin id,gD w.stays,ah e a .b2,ah c a .b2,.ref it,some v,x σ h,some x,rD X.K,bP rfl,b σ h,YG _ _,Loc X.env.scope x,RDs K ρ H l vs,Array .EP,X.N.Nodup,List Stmt,ME X a f,Ch w n l,.bM x,aT gP nB γ ao,sIf γ .fh bh,ji P w K mg base,tdM n bk,absurd z,ad .e .fe,[some w.enc,some (.ref k),some .qU,some (.str b),some (.ref A)],XW S0 a i X dk .hc (some (.int c)) (some (.int (c/4))) o m,ae .p aj,fAt .g .iD,ae .k .ez,LLs n T bs ss,[114,101,115,116],hist w n s t,{ s with heap:=h',toks:=t' },List Nat × List Nat × D,sk3 .a,ad .o am,((ns.map tx).map D.str),l.map .int,[116,105,101],["_law_model_here"],aI .q d5 .r,w.ties.getD m [],gN 4,a == sysModules,ad .e .c4,e::es,uQ _ _ _,s.map D.int,ae .k .fr,toString i,gU w.stays,aw rfl .bo,model P w,du.outE p,gN 1,.tup vs,r.map qQ,eu rfl _,.frz o u,[p.1,p.2],a.zip b,.lst ys,zA.mp c,vs++dvs,other+1,aS .g,aC rfl,List D,i+1+k,.dK b,Def P w K mg base "many_of" 1 1 bS,cA X scope own capn caps,a σ h=.ok .ls h1,i.natAbs<10^60,Int->Int->Int,Option Nat,A=h.length,Array Nat,FuncData,.int way,.str X,.int x,.Constant γ j pos,aQ (bq d) bT γ δ .w,starEach γ X.env,.Assign γ e pos,aT dw fJ γ ao,EP X pins σ Q,i9 hn O lb,same a b,Lay n bk,Ext ρ H,.ok .rR,.ok .ht,[([102,114,101,101],none),([115,116,97,121,115,32,48],some 0),([115,116,97,121,115,32,49],some 1)],(([e]:List Expr).length+([]:List Keyword).length+.mQ<30),some (.int k),((bn w n s (k+2)).map ar),Option Int,some (.ref (n+2)),c8 .a,[some w.enc,some .C,none,none,none],[some c,some .Z,some .ar,some .v],((l.zip k).map λp=>.tup [p.1,p.2]),[some (.str .co),some (.str l)],cC (lOf .h),[some .c2,some .A,some .M,some .EM,a],fC (.int 7),fC (.int 5),fAt .g .z,.type .hr,tyS t,((.s).map λi=>.ref (A+i)),.str x,[116,117,114,110],bg [10] (bX n T bs ss),ae ao aj,some (.ref K),.ref s.heap.objs.size,[.Subscript o i f],some .C,.ref (A+n),ss.take k,cC (lOf .cn),T.take i,[98,97,114],(λ_=>.bl true),h++[.lst .bx],binaryOp .Add,[121,101,115],fX P w,[w.enc,.int p],l.map D.int,ak (aB .q),Str × Addr,eQ st,(by simp[c]),ad .g .f1,im M n i,.lst vs,.ref t,l.take k,YW.mp nd,.own x,ρ++[p],iI hn O,dW .hC,ar .f9,us++ds,e σ h,(by rfl),ZH _ e,Def P w K mg base "is_between" 2 3 bC,Def P w K mg base "stays_of" 1 1 bK,(∀f s,S2 .iB f s n=S2 .iB s f n),o=none\/o=some 0\/o=some 1,h[k]?=some .r0,A.handled=none,PE X b tb,.Constant .ht j p1,.BoolOp γ δ pos,0,.Compare a γ δ pos,.ref lk,.dct l,cm.bind (R:=rD X.K) γ,.ListComp γ δ scope pos,aT cV cW γ ao,cK rfl γ .nY,0,av γ rfl .hg,PySem.W.fnOf n n .nW .hP .dC .none,PySem.W.codeIn K,w.stays.getD i,0,starEach .gn,iT W W S S M,bm G.W G.S F,backTo cpos,gp G.W G.S,I.cell x c,bs.getD i,TOk n n 0,(λi=>w.ties.getD i []),[some w.enc,some .C,some .M,some (ar (hist w n s (k+2))),none],fC (.int (-2)),(λ_ _ _ _ z=>by rw[(aH bu) _ _ _ _ z];decide),some (.ref (n+1)),f6 .a .a,[some w.enc,some .ar,some .C,some (ar .af)],T.map ca,["_law_model_here","_law_cell_here"],((.ra).getD i []),[103,114,101,97,116,101,115,116],backTo pos .m2,[115,116,97,121,115,32],tE (ag nn .e .aV),[112,97,105,114],starEach [e] X.env,some (.str (tx (t:Int))),(by simpa using h1),gN 5,[112,101,114,115,111,110],(by dsimp[rD,RD];rfl),aQ (bq c) bT .q ao .w,gJ own.length caps σd,ad .e (ad .u am),aT dw fJ .p ao,[(false,eval a X.env)],s.heap.objs.size + 1,[114,101,115,116,115],["web","one","other"],x3 ⟨_,rfl,x3 h⟩,j pins s σ H _ I h,.int base,[112,97,105,114,115],[108,101,97,115,116],((a::L).map .str),spF K F np,some (Av f),ad .z am,aT cV cW .bB ao,Str × NameKind,["web","person"],(λa b=>a.1<b.1),h++[cM.lst []],bg [32] (a::L),((.q0).map D.int),je M a b x,jU T a b x,aI .y ao .r,List Key × V,cA.a bU.nil,aP .k0 rfl,.int y,((.hE).map ca),.str .dJ,p.getD i 0,ah c a .cF,ah b a .b2,ah b a .cF,ae .bB aj,.ref dk,some .aE,s.trans k,r.trans j,ps.zip us,b.map toS,au eU .cl,Sum.inl k,Str × S1,.ref z,isQ w n,[j,.int c],(λ_=>rfl),qt M n n,gT [3,4],f σd hd,aW w n a,ZJ _ rfl,SLt .dJ,[110,111],["stand"],κ × V,bH .b9,.type T,.tup ys,.ref x,.ref l,[.ref p],(λd=>d),t σ h,r σ h,Def P w K mg base "check_stand" 5 2 bY,List V->Hp->VK->Prop,RS K ρ H σd hd σ,a.length=b.length,a σ h=.ok l h1,mg "list"=none,far i t=some j,mg "all"=none,β->Hp->Prop,s.length<=30,OpR X .EQ r,LP n M n 0 T,X.mg x=none,PA X .gn t,Int × Int,.Tuple elts tk tp,.ref (Z+n),.lst .f7,.int p.1,.int p.2,.ob [d],.dT kvs,.ref tk,RDs.cons γ RDs.nil,.Tuple γ k pos,.dR γ [a,b],cK rfl γ .zK,aI γ .bB .r,starEach [a,b],RDs.cons .wF,starEach [e],starEach [b],sIx l.length,IsTup s.heap,BindsTo s fd,backTo pos,bU X scope,aD (gN 11),[some S0,some p1,some (.int way),some .A,some (.ref (A+n)),some (.ref tk),some (.int one),some .v,some (.int v),none,none,none],fC (.int 10),own++capn,s.heap.push { cls:=.type "tuple_iterator",data:=.fields #[.ref l,.int 0 0] },[some .aD,some .av,some (.int m),some (.int base),some .ar,some (.int z),some .v],ad (fC (.str [48])) (ad (fC (.str [49])) am),fC (.str [98,97,114,32]),.ob [w.enc],some (.int F),((.b4).filter .eC),[some .c2,some (.int a),some .A,some .M,some .mU,some (.str (eS b))],[some .c2,some (.int a),some .A,some .M,some .mU,some .Z],cxC X .kH scope cl N.objs.size f K F,ad .e .jc,ag bL .L .bp,s.heap.push PySem.W.emptyDict,ov d f H,fAt .g .o,hist w n s (t+1),List.range (p.2+1-p.1).toNat,[.tup [ar s,ar a],.tup [ar s,ar b]],[102,114,101,101],[some .c2,some .A,some .M,some .wm,some (ca t)],.str (bg [32] (FX w n s t)),[115,116,97,110,100],[.ref (Z+n),.ref bk,.ref sk],ag oEq (ag bL .d .J) .o,(((.m1).map f++[x]).map .int),[.ref (Z+n),.ref bk,.ref t],(by simp[SZ];omega),fAt .d .z,(by dsimp[v3]<;>omega),ae .W aj,dZ (tE (i3 .list .d)),[(tE (ag oLt .g .e))],(λa b=>lexLt a b=true),ae .p (ae (mv 8) aj),l.map λc=>D.str [c],(by simpa using a),((bH .c7).trans rfl),aT cV cW .p ao,tupleKind .hK,tE (ag nn .d .aV),((jt .d8 p).map ar),aq .bS (kA W F h),X.map .str,ad .d .ad,ae .k .hw,(by rw[YZ];decide),.str l,0,.str .co,((c::L).map .str),lOf .g,(by simp[z]),p.getD (m-1) 0,ed (au bY .f1),bm W S F (k+1),ag bL .d .ho,eg .eN n,av rfl rfl iR,NL (chL ss n),I.ok.bs b o e,.bool true,hist w n s i,eval e X.env,E.take (i+1),gN 7,ss.take i,jp i r,fAt .d .o,ah c a .f6,ae .k .lb,aP .m0 rfl,L.map D.str,B7 c.heap H,((.db).map ca),[some w.enc],["_law_one"],ss.map toS,p.getD m 0,p.getD k 0,ae ao .hw,.dK kvs,((.m1).map f),[.lit .c6],upd H a o,(by rw[ZA]),au gu .ad,au dy .ad,.ref D,[some .Z],[.str wSw],(by rw[e]),X.wish E,.str wOk,[111,107],["thing"],oW N vs,l.map f,c.zip a,ar .kX,YF.mp a,0,((i:Int)),(∀{f fd},Fun K n n st f fd->ji P w K mg base CX0 k f fd ps .ja),ji X.prog X.w X.K X.mg X.base CX k f fd ps sp,Def P w K mg base "_law_turn" 1 2 dm,Def P w K mg base "turn_at" 4 2 cN,PassesOwn .aq X.A X.env X.xe,(∀x∈L,x.length<=200),a σ h=.ok .fB h1,X.A.units+24<cLine,En P w K mg base,ko X.K fd ps ds,a[n]?=some .d7,a σ h=.ok x h1,Int->Int->Bool,Addr->Hp->Prop,mg "sum"=none,a.length<=200,It->Hp->Prop,Option Expr,.type .hr,.lst .gf,.Slice lo hi none γ,aQ (gB b) jo γ δ .w,aQ (bq a) bT γ δ .w,.BinOp a γ b pos,aQ (bq c) bT γ δ .w,backToKw γ .q1,cu none ((.s).map λk:Nat=>D.int k) .G,PySem.W.isFn K,gM P w H h a,cE (cz aj (λ_ _ _ _ z=>by rw[bu _ _ _ _ z];decide)),(if ([]:List Keyword).isEmpty then 0 else 1),ad (ag gy (ag bL .L (fC (.int 801))) (fC (.int 400))) (ad (ag gy (ag bL .L (ag wB .kG (fC (.int 20)))) (ag wB .kG (fC (.int 19)))) am),XM S0 mo way n .iF m p q .hf o (some (.ref u.length)),[some (.ref lk),some (.int a),some (.int n),some (.ref h.length),none,none],.int ((a+i:Nat):Int),XT d s Z n bk sk .fi (some .v) .kN (some (.int p)),XM S0 mo way n .iF O p q .hf none none,[(tE (ag oEq (ag xI (ag GO .d .e) .o) .o))],tE (ag oEq (ag bL (ag ek .g (fC (.int 64))) .J) .o),A.under (.builtin "type.__call__" ⟨.ref C::us,a⟩),[115,104,111,119],List.range i,starEach es X.env,gN 8,((.s).map λj=>M i j*s.getD j 0),upd .kV g.objs.size (.lst (d.map V.ref)),ad .e (ad .hp (ad .kW am)),[112,101,111,112,108,101,32],XT d s Z n bk sk .fi (some .v) b c,[(false,eval a X.env),(false,eval b X.env)],.ref d.length,[115,119,97,121,115],[(tE (ag oNe (eA .e pNo (pAt .J)) .d))],(λw g=>oY j i r e w .nf),0,(by simpa using g),[some (.str w),some (.str L),some .M],[some .c2,some .A,some .M,none,none],ad .aV (ad .aV (ad .z .gd)),(((.d8).filter .eC).map (zw w n)),List.range (T.length+(r+1)),[some f,some .A,some .M,a,b,c,none],d.length<=sizeLine->R (Ite X.K a) c,d.length<=sizeLine->R (ItL X.K a) c,Builtin.SmallTypes.nextOf (.ref it),[some .fo,some .M,some .A,some .na,some (.ref f.length),some .fj,some .EN],((bn w n (fP w n c) (t+2)).map ar),Int × D,[(tE (ag oEq (fAt .g .e) .o))],(λb o hb e=>(sb.2 b hb).trans e),h++[.lst ((bn w n s 2).map ar)],(by dsimp[rD,RD];rw[zZk];rfl),.ins C dx fs,0,["_law_model_here","_law_stand"],XS f c A s none none none none,ae .k (ae .d4 (ae .d4 aj)),[some w.enc,some .M,some .v],[some (.ref lk),some (.ref k)],[some b,some .C,some .M,x],[119,101,105,103,104,116,32],ug λ_ _=>by dsimp[RD],tE (ag oEq .h .o),bg [10] (bX n .db bs ss),Str.ofString "Desk",.ob [(.S).enc],[114,101,115,116,32],[119,101,105,103,104,116],[106,111,105,110,101,100],h++[.lst (Y.map .str)],h++[.lst .lo],apos.endLine == a.line,List Key × Addr × S1,["web","word","things"],(by rw[zXb];exact ph r),((bH t).trans rfl),[(false,eval b X.env)],ae .k (ae .p .ez),gG st,[98,97,114,32],cT .p,[.Constant .ht j p1],tE (ag oLt .g .a5),tE (ag oEq .g .z),(by cases L<;>decide),ae .k (ae .d4 aj),ad (fAt .g .cH) am,aL rfl rfl (aF I) v,List.range l.length,.bl (!decide (a=b)),((jU S a b x).map ca),((im M n a).map .int),fC (.str .m0),0,[116,117,114,110,32],assignEach a X.env,au bJ (ad .u am),ag gy .g .o,ForInStep.yield r,((.m1).map (ef w s)),((.kO).map (zw w n)),{ f with heap:=g },0,[s.heap.objs.size],hist w n s (k+1),h++[a]++[b]++[c],(by simpa using h),((kS .c9).map ar),((bH H).trans rfl),0,stC own caps σ,some (-(k:Int)),l.map λ_=>true,h++g++[.lst []],dE (cF rfl rfl),(by rw[c];decide),backToKw a .q1,ag oNe .h .f5,aT gP nB .q ao,aI .bT .W .r,((p,w)::P.zip vs),l.map λc=>[c],iq .bS rfl rfl,h++[.lst .gf],aI .bT .y .r,aI .p .k .r,σ.set i .fH,dQ rfl a .W,(by rw[q];simp),ag dR .d .g,[w.enc,.ref k],[.Name x pos'],rs.getD i [],p.2=0\/p.2=1,p.1=0\/p.1=1,lI [10] .lw,aW w n .af=s,aV .wc .wc,List.range k,[109,101,116],toS l=toS k,tOp r ta tb,r.map V.int,bs.map V.bl,aw rfl .b8,aP .gg rfl,I.hok b u e,.lst .b3,zYu.mpr hn,swL ss n c,qL kvs k v,l.getD i 0,kn G.W G.S,i σ H Q q,cF .bU rfl,au eJ .rG,ah g a .b2,T.lookup l,((.ew).map ar),["self","text"],zXk _ _ _,line w ns,k.trans j,j b o e a,g.below h,g.below d,e.trans b,cut l i j,bs.map mT,bs.all id,au ge .ad,au f7 .ad,ZM ht .a,(λ_ q=>q),κ × S1,qt M n k,l.map wD,j6 M i k,bg sp ss,aq .bo q,aq .bo i,aq .bo f,Z1 b.2 c,X.map ca,S.map ca,.int i t,(∀b u,h.get? b=some u->h'.get? b=some u),Def P w K mg base "_law_signs" 1 1 bJ,IsPair s.heap TI (.ref i1) (.ref i2),Def P w K mg base "ties_once" 2 1 dy,Def P w K mg base "bars_of" 1 1 eW,Def P w K mg base "web_of" 5 4 gS,Def P w K mg base "end_of" 7 2 gh,hist w n s (t+1)=hist w n s t,(∀σ H Q,u σ H Q->t σ H Q),ZipApart z TI TO i1 i2 l1 l2,Lw Z n M bs ss bk b T w a h,IsZip s.heap z TI TO .none,(∀b∈bs,b.natAbs<10^30),behindInMarks op b=false,V->List V->Hp->VK->Prop,X.mg "enumerate"=none,It2 Lb s.heap i2 l2 k,It2 La s.heap i1 l1 k,h1[n]?=some (.lst b),Str->Option NameKind,IsPair s.heap TO a b,t σ h=.ok false h1,mg "enumerate"=none,Sq2 Lb s.heap l2 ys,Sq2 La s.heap l1 xs,x σ h=.ok .fB h1,t σ h=.ok true h1,(∀x∈s,x=0\/x=1),l.length<=1000000,a σ h=.nx σ' h',X.mg "range"=none,h[lk]?=some .q2,h[dk]?=some .nJ,HOk P w H s.heap,Gl X "enumerate",(∀x∈L,32∉x),h[k]?=some .xP,X.mg x=some .ar,b.natAbs<10^60,Nat->Nat->Bool,List Int->Bool,Bool->Hp->Prop,mg "zip"=none,H a=some .nw,Sq2 L h l xs,L.length<=30,Gl X "range",.cx (.bM "enumerate"),zD (wpAny_onRaise ?_),.UnaryOp .Not a pos,ss.map (·.length),.dR .fV .gn,.ie .Or .y1,.ie .Or .xv,.ig [op] [b],.bM "range",.ref d.length,.ref f.length,.ref b.length,.type "list",a.map (·.2),.type "int",.v1 .y1,.v1 .xv,.ref (A+n),u.trans ?_,.int (c/4),i6 (t:=.list) rfl γ rfl δ .bq .p,upd H s.heap.objs.size γ,iu γ .X ((.uw).trans ?_),absurd (show false=true from e),I.base.there b o e,fE (cr .h) .a8,Vis X.env.scope,d9 .bJ (wz Z),B1 X r x p pos,D.tup [.int t,.str b,.ref A],iy (tE .g) (tE (ag oLt (ag bL .ay .bp) .a5)),(((sIx a.size 0 lo:Nat):Int) == 0&&(1:Int) == 1&&(sIx a.size a.size hi-sIx a.size 0 lo) == a.size),names.map λ(n,k)=>if (k == NameKind.free&&env.scope.kind == .function&&env.kindOf n == some .cell) then (n,NameKind.cell) else (n,k),tOr (tE (ag oEq .e (fC (.str [115,116,97,110,100])))) (iy (tE (ag oEq .e (fC (.str [115,116,97,121])))) (tE (ag oEq .d .fg))),ad .z (ad .o (ad .aV (ad .aV (ad .aV (ad .aV (ad .aV am)))))),((.s).map λi=>b2i (decide (i∈c))),keywordEach [] X.env,.lst .f7,cZ (ad (fC (.str [116,105,101])) (ad (fC (.str [98,97,114])) (ad (fC (.str [115,116,97,121])) am))),bG 1 [1,2,6] (cr .hl) .G [] (ag dI (fAt (fAt .g .h) .e) .fl),ag oEq (ag bL (ag ek (au bW .kS) (fC (.int 1024))) (fC (.int 8))) .a5,au eR (ad (au bW (ad .e (ad .J am))) (ad .g (ad .h (ad (fC (.int 2001)) am)))),s.heap.push { cls:=.type "range",data:=.fields #[.int lo t,.int hi u,.int 1 v] },au eR (ad (au bW (ad .e (ad .a5 am))) (ad .g (ad .h (ad .hn am)))),fAt (fAt .aX .u) .H,((.s).map λi=>dG .aP),[some f,some (.int c),some (.int (c%5)),some (.ref A),none,none,none,none,none],((a.toList.drop (sIx a.size 0 lo)).take (sIx a.size a.size hi-sIx a.size 0 lo)),{ a with heap:=a.heap.push { cls:=.type "slice",data:=.fields #[c,d,.none] } },[some .aD,some .av,some (.int m),some (.int base),some .ar,some (.int j),none],d == NameKind.free&&env.scope.kind == .function&&env.kindOf n == some .cell,occurrences a ⟨#[c]⟩ 0 a.length (a.length+1),A.deeper (envOfC x .dC s.heap.objs.size f a),bG 1 [] (dA .cn) .G [] (ag bQ .kL .eG),bR (ad (cZ (ad .d (ad .L am))) (ad (cZ (ad .g (ad .L am))) am)),.ref (.aj).length,(by have:=congrArg (λ(s:Str)=>s.cps.toList) q;simpa[toS] using this),tE (ag oEq .g (fC (.str .f8))),ad .z (ad (ag bL .L (fC (.int 401))) am),HT.sIx xs.length 0 lo=0/\HT.sIx xs.length xs.length hi=xs.length,d.set (A+one) (.lst (((im M1 n one).map .int).set i (.int v))),[some T,some (.int t),some (.str a),some (.str (sg .f9)),none],[(tE (ag oGt .fl (fAt .g .e)))],bU.cons rfl rfl (bU.cons rfl rfl bU.nil),0,(λ_ _ _ _ z=>by rw[(aH (aH (aH (aH bu)))) _ _ _ _ z];decide),[some l,some f,none,none,none,none,none,none,none,none,none],ak dB,[some b,some .C,some .M,some (ar (hist w n s (k+2)))],(if hist w n s (t+1)=hist w n s t then .f8 else .iP),aQ (bq e) bT (aT cV cW (aT dw fJ .q ao) ao) ao .w,XA j c K (some (.int N)) .hA (some (ar .af)),ak (aB my),PySem.W.instObj C s.heap.objs.size,fC (.int 2147483647),[some .v,some (bw (w.stays.getD i none)),some .Z],ss.map λx=>V.str (toS x),ad .e (ad .d .d2),ad (fC (.int 30)) am,XS f c A s .hx (some .bf) (some .cm) none,[some f,some (.int c),some (.int (c%4)),some .C],tOr (tE (ag oIn .e .g)) (tE (ag oEq .d .o)),iy (tE (ag oEq .h .z)) (tE (ag oNe .u .H)),Cc CX P w K mg base N a scope f c A outer s H E,tE (ag oEq (au dm (ad .e (ad .L am))) .H),ds.map some++List.replicate (n-ds.length) none,[some b,some .Z,some (ar (fP w n c)),some .ar],bR (bG 1 [] (dA .H) .G [] (fIx .qZ .e)),.bl false,(λk=>(f.getD k 0+s.getD k 0)*w.bars.getD k 0),[some T,some (.int t),some (.str a),none,none],[some f,some (.int c),some (.int (c%4)),none],[some (.str X),none,none,none,none,none,none],dZ (tE (nv (fAt .e .h) (fC (.str .dA)))),(if k=f then (k,v)::r else (k,x)::oM f v r),f.2 b (ZN (ZY (ZI e) (I.ok.cab x c G t))),.ref f.heap.objs.size,.lst .df,.builtin "object.__class__",envOfC qual scope s.heap.objs.size f cd,[some .c2,some .A,some .M,some .wm,a],upd (upd j i (.own x)) x (.ins C i []),(if v=0 then gD w.stays else gU w.stays),aQ .ef bT (aT cV cW (mv 7) ao) ao .w,cO .kL (cO .eG oR),Value.ref l == Value.none,XT d s Z n bk sk .fi none none none,h++[.lst ((bn w n s (k+3)).map ar)],(((List.range (i+1)).map f).map .int),aU rfl rfl (aE (aL .bU rfl rfl q)),ag dR .o .hl,(λz=>by subst z;rw[G]at n;cases n),(λz=>by subst z;rw[G]at e;cases e),f.2 b (ZN (ZY (ZI e) I.ok.above)),cxC X (own++[]) scope cl C s H ex,cK rfl b (cT .y),bG 1 [] (dA .g) .G [] .eG,cC (lOf .H),[some w.enc,some .ar,some .C,c],h++[.lst ((uU ss l).map .int)],XB e a b v k .jb .hA y,[some c,some .Z,some .ar,none],[48,49,50,51,52,53,54,55,56,57],p x=true->e σ' h=.ok (f x) h,x == ("__classdict__" : Str),(if t-402>0 then t-402 else 0),ag ek (ag bL .L .ho) .bp,(λz=>by rw[z,h]at e;cases e),ag oEq .h (fC (.str .iP)),(λk=>f.getD k 0*s.getD k 0),[.ref (Z+n),.ref bk,.ref r],tOr .iO (tE (au d6 .ad)),(by rw[e];exact True.intro),bg [32] [wJM v,sg a,sg b],apos.endLine == cpos.line,.ref (h.length+2),.int l.length,((.go).trans (by rw[z4 n1])),[some w.enc,some .M,none],(λh=>d9 o l h/\d9 o' k h),sliceBounds lo hi none n,h++[.lst ((.af).map .int)],dC rfl a (cK rfl b .nY),ak (aB (aI .bT .p .r)),ag lG .z (fAt .h .iD),ae (aP [111,107] rfl) aj,[112,101,111,112,108,101],["_law_one","_law_other"],(λi=>(.S).ties.getD i []),(λf vs=>PySem.call f vs),fAt .d (ag dR .e .o),f (.int i t) (.int j u),ag oEq (au cN .gm) .g,ag lG .z (fAt .h .cH),List.range (l.length-1),((.s).map λi=>.ref (0+i)),[110,117,109,98,101,114],["web","stand","person"],nZ G.W rfl G.W.s G.S s,(by rw[r.len];exact hlt),List.range h.objs.size,F.args_str_split_2 _ _,((im .jk n b).map .int),tE (ag oNe .L .H),fAt (fAt .d .J) .e,dZ (tE (i3 .str .e)),I.base.free b o e n a,.type "str",((bs.set p x).map .int),[some w.enc,none,none],[some .ar,some (ca t)],[[115,116,97,110,100]],l.take k.length == k,l.map λ_=>D.bl true,PySem.W.instObj C dx,List D × Option Nat,!decide (aW w n s=s),[w.enc,.str a,.ref k],bH (t 0 false .b6),ah b a (ae .gi aj),ag gy (cC .lw) .J,ad .e (ad .hp am),aQ oU o3 .p eF .w,((xs.filter p).map f),((ss.set p x).map bw),s.heap.objs.size+3,k.length<=l.length,backToKw cpos .q1,aE (cX (aV rfl r)),aE (cX (aV r rfl)),((jf .d8 o).map ar),fAt .cI .h,.ob [w'.enc],0,.int (M i j),[w.enc,ar s,.int p],[115,116,97,121,32],[112,97,105,114,32],σ.set i (some z),jO .q (o7 ao) o6,cK rfl a (cT .k),c0 (b:=true) .c7,((i:Int)+(m:Int)*1),[.ref dk,.str row],(λi=>ns.getD i 0),w.ties.getD p [],upd H d (.lst b),upd H B (.lst d),uf xs lo hi,p5 rfl a .p .q,d.ties.getD p [],compareOp .NotIn,c.ties.getD p [],c.hok.fresh .B,(by simpa using c),(by simpa using b),(by rw[z];exact f),(by rw[z];exact d),(by rw[z];exact b),ay (ah b a .f6),aT em fM ao .si,aI .W .bB .r,ZS (zXc .a _) a,List.toArray .s,((bH o).trans rfl),((bH A).trans rfl),[none,some w.enc],(λk=>s.getD k 0),(λk=>f.getD k 0),w.bars.map .int,sIf .wk .fh bh,keep (dk+1) .b,(by rw[h];decide),(by rw[g];decide),(by exact YD rfl),bA n .jl bs ss,aq .bo (rk W _),ag oEq .e .a6,.tup (k.map kV),toS x == toS y,h++a++[.lst l],fC (.str .nb),f b _ q λz=>z,ed (au dq .f1),bm G.W G.S F k,bg [32] (c::L),aI .q .k .r,TP X pins σ Q,T.length+(j+1),Str.ofString c,S.map λ_=>wSt,L++(.lM).map ca,((.an).set a .eQ),BG .X,[.int i,.int j],w.ties.map yi,some .bH,kas_rev p 0 m,gJ nl caps σ,eM rfl (nJ f),compareOp .In,(by rw[e];simp),backTo a .iQ,ag B5 .g .h,I.freeC x c e,.str [32],((.m4).map .int),["web","some"],["self","row"],["_law_stand"],mW G.W G.S C,hist w n s j,h++[.lst xs],eval i X.env,dQ rfl a .k,dC rfl c .y,(by rw[d,zYt]),aw (i _) rfl,aD .iT .a6,aD .cq .a6,List.range r,48<=c/\c<=57,.ins C dx [],(λz=>a .lx),keep dk .b,k+xs.length,fs.lookup f,fAt .g .J,fAt .d .h,fAt .e .d,ak (aB .p),ak (aB .y),ah b a .lb,aP .nX rfl,aP .hF rfl,aP .nb rfl,aP .hu rfl,aP .dA rfl,aD .fk .z,R.getD k [],R.getD i [],((.lM).map ca),!same a b t,(∀b∈ch,.wx/\b≠X.env.locals/\(∀x c,X.env.cells.lookup x=some c->c≠b)/\∀p∈X.pn++pins,p.1≠b),(∀(g:Hd) (k:Nat),g[k]?=some .BV->fV .ES g=.ok .fj .EU),(∀y∈scope.names,y.2=.free->∃c,cl.lookup y.1=some c),(∀x c,cl.lookup x=some c->X.env.cells.lookup x=some c),(∀ds h d h',F ds h=.ok d h'->ds.length=np),Def P w K mg base "numbers_behind" 4 2 cB,Def P w K mg base "check_person" 4 2 dq,Def P w K mg base "_law_stands" 1 1 ge,Def P w K mg base "show_stand" 1 1 cS,Def P w K mg base "_law_rests" 2 1 gu,Def P w K mg base "is_person" 3 2 dz,Def P w K mg base "_law_text" 1 1 gX,Def P w K mg base "ties_of" 1 2 eU,Def P w K mg base "stay_of" 1 2 ia,Def P w K mg base "ended" 6 2 iH,(∀i σ h,P i σ h->d9 g all h),PySem.W.keepIn K .aE=true,PySem.W.hasDictIn K C=true,(∀i∈ns,i.natAbs<10^60),a σ h=.ok (.tup l) h1,Md Z n M bs ss bk sk h,(∃u,h'.get? e=some u),(∀t∈T,t.a<n/\t.b<n),d.params.defaults=[],a≠[115,116,97,121],L2.Inv X pins σ H s,HOk X.prog X.w H' h',ys.length<=sizeLine,vs.length<=sizeLine,GX s.heap x dx C mA,e=x\/H e=some .hX,a≠[116,105,101],a σ h=.ok .v h1,X.A.units+1<cLine,Nat->Sd->Hd->Prop,(∀t∈T,t.a<t.b),tg x σ=some σ',r σ h=.ok xs h',.ET->Heap->Prop,.FormattedValue e (-1) none pos,.cx (.bM "len"),.lst (j.map .int),.str (rK "None"),.ie .And γ,Db (g _) fH γ (bE _ fH) .k8,xZ T c (a.mono .a) γ δ pY .a,xT PySem.F.plainAttrs_list,swapsWith e .xV pos.line,List.pairwise_singleton _,cxC X .kH scope cl C,PySem.W.findIn K .l7,ee ["sign"] (Hl .p),PySem.W.plainGet K C,sIf .qV (aD (gT [9,10]) (au d8 (ad .d (ad .bz am)))) (sIf (tE (ag oEq (ag bL .ay .bp) .z)) (aD (gT [9,10]) (au iX (ad .d (ad .bz am)))) (sIf (tE (ag oEq (ag bL .ay .bp) .o)) (aD (gT [9,10]) (au d7 (ad .d (ad .bz am)))) (sIf (tE (ag oEq (ag bL .ay .bp) .J)) (aD (gT [9,10]) (au ik (ad .d (ad .bz am)))) (aD (gT [9,10]) (au jS (ad .d (ad .bz am))))))),aL (aL rfl rfl (aF d) rfl) rfl rfl rfl,lO (iq (aw (av (aL rfl rfl (aF C) s) rfl rfl) (aw (av (av (aL rfl rfl (aF B) F) (av (aL rfl rfl (aF C) s) rfl .hg) rfl) rfl rfl) rfl)) (av .eA rfl .hg) .b6) rfl rfl B L,ag bQ (ag bQ (ag bQ (fIx (ad (fC (.str [106,111,105,110,101,100,32])) (ad (fC (.str [109,101,116,32])) am)) (ag gy .g .a5)) (au bJ (ad .L am))) .cG) (au bJ (ad .ay am)),sx .gc (sx .gc (dS ((.eE).trans (aE (aq (aw (aq (aw rfl (aV (aL rfl rfl (aF c) .eF) (aL rfl rfl (aF c) (EQ _ _ _)))) (q g)) rfl) (e g)))))),aS (cZ (ad (ag bQ (ag bQ (ag bQ (fC (.str [115,116,97,121,32])) (c9 .u)) .cG) (fIx (ad .fg (ad .fg .kK)) .kT)) (ad (fC (.str [111,107])) am))),aS (cZ (ad (ag bQ (ag bQ (ag bQ (ag bQ (ag bQ (fC (.str .dA)) (c9 .u)) .cG) (c9 .H)) .cG) (c9 .q9)) (ad (fC (.str [111,107])) am))),c == NameKind.free&&env.scope.kind == .function&&env.kindOf n == some .cell,aD .m3 (fIx (ad .z (ad .z (ad .o (ad .o (ad .J (ad .a5 .gd)))))) (ag bL (fAt .H (ag dR (ag dI .L .h) .ay)) .hn)),tE (ag oNe (nt bp .u (ad (aa 9) am)) (aa 10)),ag bL (ag dR (ag dR (ag dR (ag dI .H .H) (ag dI (fC (.int 69621)) .H)) (ag dI (fC (.int 11)) .L)) .ho) (fC (.int 2147483549)),.int ((1+i:Nat):Int),sIf .rm (aS (fFs (cO (fC (.str [114,101,115,116,32])) (cO (c9 .d) (cO .cG (cO (vW .h) oR)))))) bh,bR (ad (cZ (ad .L .fe)) (ad (cZ (ad .L .d2)) am)),tOr (tE (ag nn .H .aV)) (tE (au ig (ad (fIx (ad .L (ad .H am)) .h) (ad (fIx (ad .H (ad .L am)) .h) am)))),[some S0,some p1,some (.int way),some (.int n),some q4,some q5,some (.int i),a,b,some (.ref lk),some (.ref tk),none],Int × Int,tOr (tE (ag oNe .hp .e)) (dZ (tE (rJ (bG 1 [] (dA (eA .g (pAt .o) pNo)) .G [] (au fv .ad))))),aS (fFs (cO (fC (.str [112,97,105,114,32])) (cO (c9 .d) (cO .cG (cO (vW .h) (cO .cG (cO (vW .u) oR))))))),ag dI (fAt (fAt (fAt .h .z) .g) .e) .fl,{ s with heap:=s.heap.push { cls:=.type "range",data:=.fields #[.int lo t,.int hi u,.int 1 v] },toks:=tk },aS (cZ (ad (ag bQ (ag bQ (ag bQ .kL (c9 .u)) .cG) (c9 (fAt .cn .u))) (ad (fC (.str [111,107])) am))),b∈X.ex\/X.s₀.heap.objs.size<=b,aD .iT (ag bL (ag dI (ag bL .e (fC (.int 2147483629))) (fC (.int 48271))) .rD),Cc CX0 P w K mg base N x .dC f a A outer s H E,[some (ar c),some .bf,some (.ref k),some (.int p.1),some (.int p.2),some (.ref (.aj).length),d],tOr (tE (ag oNe .c5 .o)) (dZ (tE (au bC (ad .k9 (ad .o .rH))))),ag bQ (ag bQ (ag bQ (ag bQ (fC (.str [112,97,105,114,32])) .h) .cG) (au bJ (ad .f5 am))) .cG,[some S0,some p1,some .av,some .A,c,some .bX,some .eb,some .v,some (.int d),none,none,none],au eR (ad (au bW (ad .e .gd)) (ad .g (ad (ag dI .h .h) (ad (fC (.int 803)) am)))),(by dsimp[RD]),[some S0,some p1,some .av,some .A,some .hB,some .bX,some .eb,some .v,b,none,none,none],[some S0,some p1,some .av,some .A,c,some .bX,some .eb,some .v,some .cK,none,none,none],h++[.lst (([line fG [(n:Int)]]++a.map j0++bs.map mT).map D.str),.lst (a.map ca),.lst .bG],isinstance_false_list (by cases t<;>first|exact absurd rfl f|exact vS .a) (j7 t) (Jj f),fT (tOr (tE (ag oNe (Qx .d .z) (fC (.str [48])))) (tE (ag oEq .e (fC (.str [48]))))),aE (aq (aw rfl (aV (aL rfl rfl (aF j) .eF) (aL rfl rfl (aF j) (EQ _ _ _)))) (f g)),XW S0 a i X dk .hc (some (.int c)) (some (.int (c/4))) (some (.str p)) (some (.str j)),cH (ah b a (ae (aI (aI (mv 7) ao .r) ao .r) (ae (aI (aI (mv 7) ao .r) ao .r) aj))),[some S0,some (.int mo),some (.int way),none,none,none,none,none,none,none,none,none],au fS (ad .e (ad (au eR (ad (ag ek .d .bp) (ad .z (ad .hD (ad .J am))))) am)),cO (fC (.str .dA)) (cO .eG (cO .cG (cO (c9 .d) (cO .cG (cO (c9 .g) oR))))),[some S0,some p1,some .av,some .A,c,some .bX,some .eb,some .v,b,none,none,none],tOr (dZ (tE (au kB (ad .d (ad .u am))))) (dZ (tE (au gr (ad .g (ad .u am))))),[some w.enc,some (.int a),some (.int b),some (.int x),some P,some (.ref g.length)],thn (l pos pins s σ H _ I h) λj c ⟨b,k,g,d,q1⟩=>i pins c σ k b j Q g d q1,(λr i=>r=.ok (.ret (.bool true))/\OldK c.heap i.heap/\i.os=c.os/\AllBare i.gens),sx (sk2 .a) (sx (sk2 .a) (sx (sk2 .a) (dS ((.eE).trans (aE (dU f b)))))),[some T,some (.int t),some (.str a),some (.str (sg .f9)),some (.str (sg .kX))],aD .cq (au fV (ad (AI .e) (ad (au ij .d2) (ad (eA .g (pAt .o) pNo) am)))),[some l,some f,some (.bl q),some (.str X),none,none,none,none,none,none,none],[some l,some f,some (.bl q),some .fo,some .M,none,none,none,none,none,none],ad (fAt .h .z) (ad (fAt .h .cH) am),(λ_ _ _ _ z=>by rw[(aH (aH (aH (aH (aH (aH (aH bu))))))) _ _ _ _ z];decide),kx .g (bG 1 [] (dA (au eW .ad)) .G [] (fFs .r7)),[some .aD,some .av,some (.int m),some .i6,some .ar,some (.int f),some .v],tE (au ig (ad (fAt (fAt .ay .z) .z) (ad (fAt (fAt .ay .z) .o) am))),tE (au ig (ad (fAt (fAt .ay .o) .z) (ad (fAt (fAt .ay .o) .o) am))),XM S0 mo way n (some (.ref s.length)) m p q .hf o (some (.ref u.length)),[some S0,some e,some .av,some d,some c,none,none,none,none,none,none,none],[some S0,some (.int mo),none,none,none,none,none,none,none,none,none,none],[some d,some .aD,some .A,some (.int (c%3)),some .cK,some (.int b),none],ub .z (ag gy (fAt .H (ag dR (ag dI .L .h) .ay)) (fC (.int 402))),some (.builtin "object.__setattr__"),0,jw 2 [] .d .g .bI [] (ub .e .d),jw 2 [] .d .g .bI [] (Er .e .d),h++[.lst ((bX n a bs ss).map D.str),.lst (a.map ca),.lst .bG,.lst .an],fIf (tE (ag oEq (fAt .g .cH) .f5)) (fC (.str .f8)) (fC (.str .iP)),dH (dH (e _ _) q (by show 5+(tx (t:Int)).length<=_;omega)) (e _ _) .X,aS (cZ (ad (fC (.str [110,111,116])) (ad (eA .u (pAt .iD) pNo) am))),h++[.lst (([line fG [(n:Int)]]++a.map j0).map D.str),.lst (a.map ca)],ak (aB (cQ (ae (aP [110,111,116] rfl) (ae (jO .W (o7 d5) o6) aj)))),NF (prog:=X.prog) (w:=X.w) (A:=X.A.in1) (I.ok.hd hc) it a N f.toArray,[some f,some (.int c),some (.int (c%5)),none,none,none,none,none,none],[some (.str X),some (.ref h.length),some (.int n),none,none,none,none],[some .aD,some .av,some (.int m),some .i6,some .ar,some (.int z),y],tE (ag B5 (nu (fAt .e .cH) pNo (pAt .J)) (nu .d pNo (pAt .J))),ad (fC (.str .gg)) (ad (c9 .h) (ad (c9 .u) (ad (c9 .H) am))),T8 i d I h λv u k x y e j l g q=>f pins k σ e x y v u Q j l g q,[some d,some (.int n),some (.ref h.length),some (.int i),a,b,none],[some .aD,some .av,some (.int m),some .i6,some .ar,some .aD,none],a::b::rest,[some w.enc,some .C,some .M,some (ar (hist w n s (t+2))),none],[some d,some .aD,some .A,some (.int (c%3)),some .cK,none,none],jX (fAt .aX .u) .H (fIx .rn (ag ek (ag bL .L .a5) .J)),ay (ah d a (ae (ah b a .lq) (ae .q (ae .y .hw)))),fIf (tE (nv .e (fC (.str [45])))) (xc .e (pAt .o) pNo) .e,dZ (tE (au bC (ad (Jb .d) (ad .o (ad (fC (.int 60)) am))))),aU rfl rfl (aE (FF (bZ (sr rfl) (JZ B h)) (by rw[pK];omega))),((a.map D.int).zip (b.map D.int)),[some .aD,some .av,some (.int m),some .i6,some .ar,none,none],fg (lOf (au cB (ad (fC (.str .gg)) (ad (fAt .e .h) am)))),[some (.str X),some (.ref h.length),none,none,none,none,none],[some d,some (.ref k),some .eQ,some (.ref (.aj).length),c],PySem.W.fnOf x a .nW .hP .dC .none kV d pm g b ct,[some d,some .aD,some .A,some (.int (c%3)),none,none,none],[some S0,none,none,none,none,none,none,none,none,none,none],[some (.ref lk),some (.int a),some (.int n),none,none,none],(λh H Q E ⟨ρ,g,i,d,e,c,p⟩=>by rw[<-e.length];exact c),(if -(k:Int)<0 then (-(k:Int)+(l.length:Nat)).toNat else _),bR (bG 1 [] (dA (eA .g (pAt .o) pNo)) .G [] (oq .e)),.lst .bg,.bl (!(Builtin.Str.occurrences j i 0 j.length 1).isEmpty),[some .aD,some .av,some (.int m),some .i6,none,none,none],ak (aB (ah b a (ae .k (ae (ah c a .lq) aj)))),tE (ag oEq (ag bL (ag ek .g (fC (.int 512))) .J) .o),tE (ag oEq (ag bL (ag ek .g (fC (.int 128))) .J) .o),some (.Name x pos'),(if isP w n s then H.set A (.lst (X++[zw w n s])) else H),bR (ad (fFs (cO (fC (.str .m7)) (cO (c9 .d) oR))) am),aM (av (aL rfl rfl (aF ZG) e) (aL rfl rfl (aF ZG) g) b),Obj.mapSeq λ_=>#[],Builtin.SmallTypes.ownedTupleIsFree (.ref z) >>= λ_=>_,[some a,some b,some c,some (.str z.1),some (.str z.2.1)],XW S0 a i X dk .hc (some .aD) (some (.int (c/4))) d e,XW S0 a (decide (6<n)) X dk .hc (some (.int c)) C o m,[some j,some .aD,some (.int (c%5)),none,none,none,none],tOr (dZ (tE (i3 .tuple .d))) (tE (ag oNe .c5 .dH)),dZ (tE (rJ (bG 1 [0] (dA .d) .G [] (au eC .lp)))),cR (aV (cX .bS) (cX .bS)) (show 2<=1000000 by decide),ay (aI .T (aT cV cW .iZ (cK rfl d (cT .T))) .r),aU rfl rfl (aE (aq (aw rfl (aw (aq .bS q1) rfl)) q2)),a.map λb=>if b.1=(Sum.inl k:Key) then (b.1,c) else b,XT d s Z n bk sk .fi (some .v) .kN (some (.int K)),XT d s Z n bk sk .fi (some .v) .kN (some (.int G)),XM S0 mo way n (some x5) m p q .hf o (some (.ref T)),.tup [.str (bg [32] [PK,sg s]),.str (tx .lC)],.int (if j>i then j else i),(λj h1 i=>by simpa using E j .iS (by simpa using i)),((if .wi=true then (n,NameKind.cell) else (n,c))::_),[some d,some .C,none,none,none,none,none,none,none],tE (ag oEq (fAt (au iV .cl) .z) (fC (.str .hu))),fg (bG 1 [1] (dA .eM) .G [] (fIf .iO .d .e)),d.stays.getD p none=none/\c.stays.getD p none=none,tE (ag oGt (cC (lOf (au mK .ad))) (fC (.int 12))),bR (bG 1 [3] (cr .h) .G [] (bR (xG .jc .d))),ad (fC (.str [110,111])) (ad (fC (.str .hJ)) am),ad .fg (ad (ag bQ (fC (.str .iN)) (EI .L)) am),aI .T (aT em fM (aT iN iO .bB .y) (mv 7)) .r,XT d s Z n bk sk .fi (some .v) .kN (some .ed),XM S0 mo way n none none none none none none none,XM S0 mo way n .iF none none none none none none,PySem.W.fnOf name a d body scope O kV l pm R c ct,[some w.enc,some .Z,some .qU,some (.str b),none],sIf (tE (ag oEq .u .H)) (aS (fAt .d .g)) bh,(if v<0 then max (v+(n:Int)) 0 else min v (n:Int)),(if v<0 then (v+(n:Int)).toNat else min v.toNat n),(if hist w n s (t+1)=hist w n s t then Kf else Kg),fAt .H (ag bL (ag ek .d (fC (.int 77))) .sk),bG 1 [1] (cr .hD) .G [] (qG (ag oIn .e .d)),au cB (ad (fC (.str .hF)) (ad (au iW .iY) am)),[some w.enc,some .C,some .v,some (.int s[i]),c],(λx y H Q=>y=.non/\Q (.bl (!decide (x=.non))) H),(λi u=>D.int (if i∈l\/u=some 1 then 1 else 0)),bG 1 [] (zQ .d) .G [] (ag oIn .e (cZ .kK)),Cc CX P w K mg base N d scope f D A outer s H E,[some .c2,some .cK,some .A,some .M,none,none],(λx y H Q=>y=.non/\Q (.bl (decide (x=.non))) H),call (.builtin "isinstance") [u,.type .hr],a::f::b::some (.int N)::d::c::some (.int O)::r,Builtin.SmallTypes.nextOf (.ref i2) >>= λ_=>_,Builtin.SmallTypes.nextOf (.ref i1) >>= λ_=>_,{ s with heap:=h',gens:=g',drawn:=d',toks:=t' },[some w.enc,some (.int n),some (.ref h.length)],au gS (ad .g (ad .h (ad .u (ad .H am)))),.tup [.str (bg [32] [FV,sg s]),.str (sg .af)],((((.s).map λk:Nat=>D.int k).filter λ_=>true)),[some d,some .aD,some .A,none,none,none,none],(by rw[I.ok.glob];exact I.mod.glob.keeps I.bk),bR (bG 1 [] (dA .u) .G [] (rH (lOf .e))),bR (bG 1 [1] (dA (au iC .ad)) .G .mX .e),bR (ad (ag bQ (fC (.str .m7)) (c9 .d)) am),XW l f q X h.length none none none none none,XB e a b v k .jb .hA (some (.ref L)),partsBetween a .rg (⟨#[c]⟩:Str).length,b::rest,aU rfl rfl (sx .nT (aE (aq .bo (nY b h)))),((List.replicate n (none:Option Int)).map bw),rI (λ_ j=>0<=j) λi j=>.int (i/2^j.toNat),ay (NV T g (a.mono .a) rfl .fr (id pY )),av rfl rfl ((.go).trans (by rw[z4 (FH i)])),au fO (ad (au fu .ad) (ad (au dJ .ad) am)),Builtin.«zip.__next__» ⟨[.ref z],[]⟩,(((List.range (i+1)).map (ef w s)).map .int),[.Call (.Attribute o "items" apos) [] [] g],spF K (bB ps.length N.length b) ps.length,h++[.lst ([line fG [(n:Int)]].map D.str)],au jc (ad .d (ad (ag dR .sd .g) .d2)),((.nk).map (λj:Nat=>D.int ((1+j:Nat):Int))),[some m,some .C,some (.int S),some .v,b],ed (jY .H (cZ (ad .d (ad .g .c4)))),XW S0 a (decide (6<n)) X dk .hc W C o m,XM S0 mo way n .iF O p q none none none,[some w.enc,some .Z,some .qU,none,none],l.map λp=>if p.1=k then (p.1,f) else p,cZ (ad .u (ad (aa 9) (ad (aa 11) am))),bg [32] [HM,tx (a:Int),tx (b:Int),tx x],ad (fC (.int 6)) (ad (fC (.int 13)) am),aS (fIf (tE (ag oGt .u .H)) .o .z),aS (D6 (bG 1 [] (dA .e) .G [] .eG)),[some w.enc,some .C,some .M,none,none],(λj h1 a=>by simpa using L j .iS .lh),fFs (cO (fC (.str .iN)) (cO .eG oR)),fAt .H (ag bL (ag ek .d .hn) .sk),dZ (tE (au bC (ad .h (ad .z .jc)))),ak (bc (c7 (cH (ah a b .cF))) .rw aG),ag bQ (ag bQ (fC (.str .nK)) .h) .cG,ae (aP [48] rfl) (ae (aP [49] rfl) aj),fAt .h (ag bL (ag ek .d .ho) .hl),ag dR .o (ag bL (ag ek .g .J) .d),aS (cZ (ad .oa (ad (au gX .ad) am))),aM (av (aL rfl rfl (aF y) Q) rfl rfl),XS f c A s .hx (some .bf) none none,XM S0 mo way n .iF m p q .hf o none,Builtin.Tuple.tupleItemsOf .hU >>= _,(((.kY).map λk:Nat=>s++[p.1+k]).map ar),[some f,none,none,none,none,none,none],[D.int c,D.int way,D.int m,D.int base],rI0 λi j=>.int (Builtin.bitAnd i j),iA (eK rR Ex ao (aI .y d5 .r) rfl),cT .bT,ak (aB (sj (sp:=[10]) rfl (cT .q))),ag bL (ag ek .d (fC (.int 31))) .g,ad (Er .d .g) (ad (ub .d .g) am),XT d s Z n bk sk none none none none,SqL K H q .rF\/H q=some (.tup .rF),((av r rfl .go).trans (by rw[d];rfl)),[some w.enc,some (.str kd),some .lu],[some T,some (.int t),none,none,none],[f.heap.objs.size+1,f.heap.objs.size],r.map λp=>if p.1=j then p.2 else 0,p++[.lst ((bX n T bs ss).map .str)],envOfC d scope s.heap.objs.size f D,(by dsimp[ZB,wI,YY]at Y⊢;omega),bG 1 [1,3,0] (cr .c5) .G [] .wu,ay (ah a b (ae (aI .bT d5 .r) aj)),I8.pin (b,o) (YO _ (YO _ (nA B e))),((0:Int)∈hist w n (fP w n c) (t+1)),j.pin (b,o) (YO _ (YO _ (nA p e))),(if i<n then some i.toNat else none),fAt .h .L,bG 1 [0,1] (cr .fu) .G .rr .e,au iH (ad .e (ad (au sH .f1) am)),.bl (decide (a<=i)&&decide (i<=b)),((nbs .hE t.a++[(t.b,t.w)]).map wD),(λy=>by subst y;rw[G]at z;cases z),(λobj=>F.args_object_init_2 obj _),rI (λ_ j=>0<j) λi j=>.int (i%j),fL rfl (br aA (br aA (br aA el))),(by rw[e];exact aL rfl rfl rfl rfl),bG 1 [] (zQ .d) .G [] (oq .e),ay (cE (cz (ae (cQ aj) aj) .iE)),av rfl rfl (CK (by rw[e];decide)),[some (.str w),some (.str L),none],[some .v,some .cK,some (.int b)],tE (ag oEq .d (fC (.str .k3))),eval (.Constant .ht j p1) X.env,bF (bH (aM (av rfl rfl (uq b)))),au gh (ad .e (ad (fg .xf) am)),au gh (ad .e (ad (fg .xe) am)),List.range (p.2 + 1 - p.1).toNat,.lst (((.s).map (Tg T)).map .int),.call (.ref R) ⟨[.ref a],[]⟩,[assign (.Subscript o i f) X.env],(λx y H Q=>r x y H Q\/d x y H Q),sortedHeap s.heap B a a.toArray,backTo pos (starEach [b] X.env),bR (ad .d (ad (au dm .f1) am)),bR (ad .d (ad (au cN .f1) am)),ae ao (ae (aT gP nB .k ao) aj),aV rfl (aL rfl rfl (aF a) .eF),PySem.W.methodObj .aE (.ref y),PySem.Str.ofString "0123456789",PySem.F.args_dict_getitem_2 _ _,[(tE (ag oEq (au cN .lp) .e))],bH (aM (av rfl rfl (Xd ne g))),au fN (ad (aa 9) (ad .ho am)),ad .z (ad (ag gy .e .o) am),XT d s Z n bk sk .fi x6 x7 x8,XS f c A s .hx none none none,SqL X.K H p ys\/SqT X.K H p ys,F.args_tuple_iterator_next_1 _,{ s with heap:=(.kU).push .rC },{ D with nx:=N,ct:=N,bk:=D.nx },[some w.enc,some (.int n),none],[none,some .C,some .v,some m],["_law_model_here","_law_some"],(λσ p=>σ.set p.1 (some p.2)),tE (ag jH (fAt .u .L) .aV),rI Wh λi j=>.int (i^j.toNat),fAt (fAt (au iH .f1) .J) .cH,cellsFrom .b5 scope.names [],au jR (ad .d (ad .sd .d2)),au cS (ad (fAt .cI .iD) am),((jt (kS (l.take i)) p).map ar),((List.replicate n 0).map .int),["web","one","other","weight"],(λd g k e=>fin c f i d g k e),(λb o g e=>(T.2 b g).trans e),(if g=f then some u else mA g),(by simpa using m.length.symm),(by simpa using f.length.symm),aw rfl (aw rfl (aw .cE rfl)),au cS (ad (fAt .cI .cH) am),ak (aB (cE (Jk rfl a .zK))),ae (Cv T .k) (ae .d4 .fr),M i j.toNat*s.getD j.toNat 0,ForInStep.yield ((x.1,a)::r),[some a,some (.str e),some c],upd H p (.ins C dx (Cj vs)),tE (xC oLe oLe .d .e .g),ss.map λl=>PyData.str .ag,ps.map λq=>(q.1,D.int q.2),cA.a (bU.cons rfl rfl .rs),(by show ¬false=true;decide),(by rw[dF,z3 .b,z3 .b];rfl),bG own.length caps f g cs e,au ki (ad .d (ad .g .ad)),au cN (ad .e (ad .kW am)),au bW (ad .e (ad .L am)),SqL K H p vs\/H p=some .gx,[some c,some .Z,some .ar,O],[106,111,105,110,101,100,32],[.ref (0+n),.ref bk,.ref sk],sIf .nG (aD .lK .wo) bh,pV (v:=.ref A) j hm rfl hd,(if (b:Int)>a then b else a),(if (b:Int)<a then b else a),(if .r8=true then _ else _),(by rw[W.s,<-F.len];exact f),au fN (ad .d (ad .a5 am)),ag dR .sd (ag dI .J .g),ad (AI .e) (ad .hp .c4),PySem.W.listOf f.toArray c,((bF (eO q2 q3)).trans .cc),[some w.enc,some .js,none],[some c,some .Z,none,none],[[115,116,97,110,100],.k3],["_law_script","_law_most"],(λg k c=>qj c .a .a rfl),vs.toArray.zip vs.toArray,(letOwnedTupleGo tg .fG u),l.map λi=>vs.getD i .non,(if .qW=true then _ else _),(by rw[e];exact⟨_,l,q⟩),(by cases t<;>exact vS .a),aq (aw (o _) rfl) (i t g),ag ek .d (fC (.int 301)),ag bL (ag ek .d .a5) .g,aU rfl l ((bF g).trans o),a::c::b::some (.int N)::r,a.any λb=>decide (b.1=k),StrLaws.glued_eq_join _ _,S.filter λt=>!same a b t,List.range (l.length - 1),.lst .fz,{ s with heap:=f,toks:=B },[none,some .bf,some .cm],(λh=>h[n]?=some (.lst l)),h++[.lst .ee]++[.lst W],eval (.Name x pos) X.env,(by dsimp[YL];exact e),bw (w.stays.getD p none),aq (aw rfl (aw i rfl)) q,ak (aB (aI .k .p .r)),ag oIn .z (fAt .u .cH),ag Kt .e (fC (.str FG)),ae ao (ae (o0 rfl d) aj),ae ao (ae (o0 rfl b) aj),aQ (bq a) bT .lj ao .w,List.replicate n.toNat l,((.xD).map λp=>D.tup .gB),{ f with toks:=f.toks+1 },ρ'++[k.heap.objs.size],(λz=>.inr ⟨z.2,z.1⟩),(λz=>.inl ⟨z.2,z.1⟩),ss.getD i none≠some 0,rawInt s.heap.objs.size,rI Ww λi j=>.int (i/j),rI QH λi j=>.int (i*j),h pos pins s σ H _ I f,field .jH 3 >>= λ_=>_,field .jH 2 >>= λ_=>_,fAt .H (ag dR E .ay),dj (aq .bS (iK W hp h)),(by simp;exact ZN (ZI e)),bR (xG (ad .aV am) .h),assignEach (e::a) X.env,ag oEq (au dm .lp) .e,ag ek .d (fC (.int d)),aT xi xj .W (cQ .hw),I.base.keep b o e n L w,G.extBut f.extBut Z.i1z,.str (bg [32] [W,sg s]),((jf (dW .lL) o).map ar),((X++bs.map mT).map .str),((.gC).map λp=>g p.1 p.2),[some .c2,some (.int k)],[101,110,100,101,100,32],["thing","least","most"],["lines","start","many"],["_law_script","_law_k"],rs.all λx=>!x.isEmpty,iR.trans (by rw[z4 c]),iR.trans (by rw[z3 c]),(by rw[g];simpa using m),(by rw[ZA,B,F,YZ];omega),(by rw[<-r.len];exact f),(by rw[<-l.w'];exact hd),bA n T bs (ss.set p o),bA n T (bs.set p b) ss,ay (aT cV cW .iZ .q),args_tuple_getitem _ _,apos.endLine == f.line,aL rfl rfl (aF N.rf) G,aD .m3 (fAt .u .L),a.set n (.lst (l++ds)),Txt.split a ⟨#[c]⟩,List.range (n-m).toNat,Heap.SameBut.update ..,G.mid x F (by rw[e,e]),CG (T:=ja) rfl c a .bT,.int ((i+1+k:Nat):Int),((S.take i).filter .jI),["web","word","stands"],(λj=>M i j*s.getD j 0),tE (ag oLt .ay .z4),tE (ag oGt .ay .z4),tE (ag oGt .c5 .L),rI0 λi j=>.int (i-j),rI0 λi j=>.int (i+j),rI C λi j=>.int .cu,ps.map λq=>[q.1,q.2],getItem .hU (.ref d),cm.bind (R:=rD X.K) o,(by rw[F.len];simp[aW]),bR (vJ .g (bR .ri)),assignEach [tg] X.env,assignEach .hz X.env,ad (fIx .w1 .of) am,ad (fC (.str wSw)) am,ad (fC (.int 400)) am,aQ .ef bT .q ao .w,aQ .ef bT .y ao .w,PySem.W.plainGet_of a,.tup [.int (i:Nat),x],.ins C dx (oM f y fs),((.s).map λi=>(.hS).sum),(λi=>bs.getD i false),(λb o g e=>R b o g e),zm3 La Lb s.heap a b,zm2 La Lb s.heap a b,tE (ag oNe .sk .o),tE (ag oLt .d .fu),tE (ag oEq .d .fu),starEach [e,f] X.env,ss.getD i.toNat none,seqObj "list" #[] e1,s.heap.update a .xZ,s.heap.update B .xZ,s.heap.objs.size + 2,rI0 λi j=>.int .cu,l.all λp=>pure? p.2,(if j<i then j else i),g++[.lst (F.map ca)],fC (.int (-(j:Int))),dZ (tE (au d6 .c4)),(by simpa using zYb a),(by rw[ZB];simp;omega),aw (cX rfl .dM) rfl,ar (hist w n .cb t),ar (hist w n .ca t),aL rfl rfl (aF ZG) r,aL rfl rfl (aF ZG) l,aD .fk (au kE .fe),List.range bs.length,BI.mk (i:=0) (g:=[]),0+b.length<=a.length,((iU w.ties i).map ca),(λi v=>a[i]?=some v),xs.length<ys.length,x.above y c (zYa h),upd H p (.tup .tN),tE (ag oEq .g .J),tE (ag oEq .g .o),tE (ag oEq .g .a5),tE (ag oEq .g .fg),tE (ag jH .tw .aV),storeName X.env x u,seqObj "list" #[] g,seqObj "list" #[] 0,(∀h' e,Heap.ExtBut it s.heap h'->(∃o,h'.get? e=some o/\o.cls=.type "StopIteration")->E (.ref e) .dB),(∀(a:S1) (A:P2) (outer:List Env) (s:P1) (H:Hp) (E:XK),iz k .rh->MSs (.wz).nox .hP b),(∀(g:Hd) (k:Nat),g[k]?=some (.lst .i9)->ij [.ref k] g=.ok fd g),((ds.map some++List.replicate (n-ds.length) none:Sd)=σ),(∀b u,b≠e->h.get? b=some u->h'.get? b=some u),(∀b u,s.heap.get? b=some u->h'.get? b=some u),PySem.W.findIn K .bH "__setattr__"=some .xc,(∀vs H Q E,sp vs H Q E->vs.length=ps.length),PySem.W.nsIn K mainGlobals .nI=some .uz,Def P w K mg base "stands_to_try" 9 1 eX,Def P w K mg base "greatest_rest" 8 1 dJ,V->Option Int->Option Int->Hp->VK->Prop,Def X.prog X.w X.K X.mg X.base x k np F,Def P w K mg base "stand_of_all" 2 2 eP,Def P w K mg base "_law_fitting" 1 2 fS,behindInMarks .NotIn (.Name x p)=false,Def P w K mg base "check_rests" 7 3 eJ,Def P w K mg base "_law_weight" 1 2 jC,(∀b xs,H b=some .dc->H' b=some .dc),0,Def P w K mg base "least_rest" 8 1 fu,Def P w K mg base "is_opinion" 3 1 d6,Def P w K mg base "_law_sways" 4 2 ik,Def P w K mg base "_law_ended" 2 2 jB,Def P w K mg base "is_number" 3 1 fv,Def P w K mg base "_law_cell" 1 2 bW,Def P w K mg base "is_whole" 1 1 f7,Def P w K mg base "_law_row" 1 4 eR,(∀v σ H Q,u v σ H Q->t v σ H Q),Def P w K mg base "line_at" 1 2 iW,Def P w K mg base "is_tie" 3 2 kB,Def P w K mg base "bar_of" 1 2 mD,cm K R ρ H σd σ (.ok a hd) Q,(∀p,Gd n p->Srt lt p n->Q p s),PySem.W.plainGet K C name=true,(∀D σ H,u D σ H->t D σ H),G4 P w K mg base A outer s H,Lw Z n M bs ss bk j T w b h,PySem.W.plainOver K C=true,iu (rfl:fC .uI σ h=_) .X γ,(λ_ _ _ _ z=>by rw[(aH (aH bu)) _ _ _ _ z];decide),.int ((1+T.length:Nat):Int),.int (((1+T.length:Nat):Int)+2*n),Key × V,Option S1,compareOp op,.ref p,[w.enc,fd,.ref k],Str->Option S1,g++[.lst ths]]
def ix(c:Char):Nat:=if 'a'<=c&&c<='z' then c.toNat-97 else if 'A'<=c&&c<='Z' then c.toNat-39 else if c.isDigit then c.toNat+4 else 99999
def lk(x:Lean.Name)(a:Array Lean.Syntax):Lean.MacroM Lean.Syntax:=do
 let .str .anonymous w:=x|Lean.Macro.throwUnsupported
 let i:=match w.toList with|[p]=>ix p|[p,q]=>52+62*ix p+ix q|_=>99999
 let some y:=((tb.getD (i/32) "").splitOn "\t")[i%32]?|Lean.Macro.throwUnsupported
 let l:=y.splitOn "\n"
 if y==""||y=="nnum\na0\ne" then Lean.Macro.throwUnsupported
 let r<-Lean.MonadRef.mkInfoFromRefPos
 if a.isEmpty then return de r #[] l [("",#[])]
 if l.contains "iγ" then return de r a l [("",#[])]
 let t:=de r #[] l [("",#[])]
 return if t.isOfKind ``Lean.Parser.Term.app then t.setArg 1 (Lean.mkNullNode (t[1].getArgs++a)) else .node r ``Lean.Parser.Term.app #[t,Lean.mkNullNode a]
local macro_rules
|`(.$x:ident)=>lk x.getId #[]
|`(.$x:ident $a*)=>lk x.getId (a.map (·.raw))
local macro_rules
|`(command|def $i $b* : $t := $v)=>`(command|theorem $i $b* : $t := $v)
local macro_rules
|`(tactic|dsimp[$a,*]$[$l]?)=>`(tactic|simp only[$a,*]$[$l]?)
local macro_rules
|`(command|$_:docComment def $i:declId $t:optDeclSig $v:declVal)=>`(command|noncomputable def $i:declId $t:optDeclSig $v:declVal)
noncomputable section
def q0{α:Sort _}(e:α):∃x,x=e:=⟨_,rfl⟩
namespace Fm
inductive D where
 |non|bl (b:Bool)|int (i:Int)|str (x:.m)|tup (l:List D)|ref (n:Nat)|lit (l:List D)|exn (c:String) (l:List D)
deriving Inhabited
inductive cM where
 |lst (l:List D)|dct (l:.en)|dcT (l:List (List Int × D))|ob (l:List D)
abbrev Hd:=List cM
inductive Res(α:Type) where
 |ok (a:α) (h:Hd)|exc (x:D) (h:Hd)|bad
/---/def Res.bind{α β:Type}(r:Res α)(f:α->Hd->Res β):Res β := match r with
 |.ok a h=>f a h | .exc x h=>.exc x h | .bad=>.bad
@[simp] theorem aR{α β:Type}(a:α)(h:Hd)(f:α->Hd->Res β):(Res.ok a h).bind f=f a h:=rfl
abbrev Sd:=List (Option D)
abbrev EF:=Sd->Hd->Res D
abbrev TF:=Sd->Hd->Res Bool
abbrev LF:=Sd->Hd->Res .gJ
inductive Out where
 |nx (σ:Sd) (h:Hd)|rt (d:D) (h:Hd)|bk (σ:Sd) (h:Hd)|ct (σ:Sd) (h:Hd)|exc (x:D) (σ:Sd) (h:Hd)|bad
abbrev SF:=Sd->Hd->Out
abbrev Fn:=List D->Hd->Res D
abbrev SZ:Nat:=1000000
@[simp] def slot(σ:Sd)(i:Nat):Option D:=match σ[i]? with|some (some d)=>some d|_=>none
@[simp] def aa(i:Nat):EF:=λσ h=>match slot σ i with|some d=>.ok d h|none=>.bad
@[simp] def fC(d:D):EF:=λ_ h=>.ok d h
abbrev O2:=D->D->Hd->Res D
@[simp] def ag(g:O2)(a b:EF):EF:=λσ h=>(.O).bind λx h=>(.fM).bind λy h=>g x y h
@[simp] def oI(g:.gQ):O2:=λx y h=>match x,y with | .int i,.int j=>.ok (.int .cu) h|_,_=>.bad
@[simp] def oB(g:.my):O2:=λx y h=>match x,y with | .int i,.int j=>.ok (.bl .cu) h|_,_=>.bad
@[simp] def oIc(c:.my)(g:.gQ):O2:=λx y h=>match x,y with | .int i,.int j=>if c i j then .ok (.int .cu) h else .bad|_,_=>.bad
/---/def sml(i:Int):Bool:=decide (-18446744073709551616<i)&&decide (i<18446744073709551616)
@[simp] def dR:O2:=λx y h=>match x,y with
 |.int i,.int j=>.ok (.int<|i+j) h
 |.tup .dL,.tup ys=>if (.dL).length+ys.length<=SZ then .ok (.tup (x::xs++ys)) h else .bad
 |_,_=>.bad
@[simp] def gy:O2:=λx y h=>(oI (· - ·)) x y h
@[simp] def V1:O2:=λx y h=>(oI (· + ·)) x y h
@[simp] def V2:O2:=λx y h=>(oI (· - ·)) x y h
@[simp] def dI:O2:=λx y h=>(oIc (λi j=>sml i||sml j) (· * ·)) x y h
@[simp] def bL:O2:=λx y h=>(oIc (λ_ j=>decide (0<j)) (· % ·)) x y h
@[simp] def ek:O2:=λx y h=>(oIc (λ_ j=>decide (0<j)&&decide (j<2^250)) (· / ·)) x y h
@[simp] def wB:O2:=λx y h=>(oIc (λi j=>decide (0<=j)&&decide (j<=1000000)&&sml i) (λi j=>i^j.toNat)) x y h
@[simp] def oLt:O2:=λx y h=>(oB λi j=>decide (i<j)) x y h
@[simp] def oLe:O2:=λx y h=>(oB λi j=>decide (i<=j)) x y h
@[simp] def oGt:O2:=λx y h=>(oB λi j=>decide (j<i)) x y h
@[simp] def Ys:D->Hd->Res D:=λx h=>match x with | .int i=>.ok (.int (-i)) h|_=>.bad
@[simp] def rG:D->Bool | .non=>true|_=>false
@[simp] def nn:O2:=λx y h=>if rG y then .ok (.bl<|rG x) h else .bad
@[simp] def jH:O2:=λx y h=>if rG y then .ok (.bl<|!rG x) h else .bad
@[simp] def b2i(b:Bool):Int:=if b then 1 else 0
mutual
def peq:D->D->Option Bool
 |.int i,k=>match k with | .int j=>some (decide (i=j)) | .bl c=>some (decide (i=b2i c)) | .non=>some false | .tup _=>some false|_=>none
 |.bl c,k=>match k with | .int j=>some (decide (b2i c=j)) | .bl d=>some (decide (c=d))|_=>none
 |.str x,k=>match k with | .str y=>some (decide (x=y))|_=>none
 |.non,k=>match k with | .non=>some true | .int _=>some false | .tup _=>some false|_=>none
 |.tup xs,k=>match k with | .tup ys=>(mj xs ys).map λb=>b&&decide (xs.length=ys.length) | .non=>some false | .int _=>some false|_=>none
 |.ref _,_=>none
 |.lit _,_=>none
 |.exn _ _,_=>none
def mj:List D->List D->Option Bool
 |x::xs,y::ys=>match peq x y,mj xs ys with
  |some a,some b=>some (a&&b)
  |_,_=>none
 |_,_=>some true
end
mutual
def dep:D->Nat
 |.tup l=>oK l+1
 |_=>0
def oK:List D->Nat
 |[]=>0
 |x::xs=>max (dep x) (oK xs)
end
/---/def eqL(xs ys:List D):Option Bool:=if oK xs<=20 then (if xs.length=ys.length then mj xs ys else some false) else none
@[simp] def jM(h:Hd):D->Option .gJ
 |.ref n=>match h[n]? with|some .dQ=>some l|_=>none
 |.lit l=>some l
 |_=>none
@[simp] def eqG(h:Hd)(x y:D):Option Bool:=match jM h x,jM h y with
 |some xs,some ys=>eqL xs ys
 |none,none=>if dep x<=20 then peq x y else none
 |_,_=>none
@[simp] def oEq:O2:=λx y h=>match eqG h x y with|some b=>.ok (.bl b) h|none=>.bad
@[simp] def oNe:O2:=λx y h=>match eqG h x y with|some b=>.ok (.bl<|!b) h|none=>.bad
@[simp] def iw:D->Bool
 |.non=>true | .bl _=>true | .int _=>true | .str _=>true|_=>false
@[simp] def eqF:D->D->Bool
 |.non,k=>match k with | .non=>true|_=>false
 |.bl a,k=>match k with | .bl b=>a == b | .int b=>b2i a == b|_=>false
 |.int a,k=>match k with | .bl b=>a == b2i b | .int b=>a == b|_=>false
 |.str a,k=>match k with | .str b=>a == b|_=>false
 |.tup _,_=>false
 |.ref _,_=>false
 |.lit _,_=>false
 |.exn _ _,_=>false
@[simp] def asB(r:Res D):Res Bool:=r.bind λx h=>match x with | .bl b=>.ok b h|_=>.bad
@[simp] def tE(a:EF):TF:=λσ h=>asB .O
@[simp] def dZ(t:TF):TF:=λσ h=>(.j1).bind λb h=>.ok (!b) h
@[simp] def iy(t u:TF):TF:=λσ h=>(.j1).bind λb h=>if b then u σ h else .ok false h
@[simp] def tOr(t u:TF):TF:=λσ h=>(.j1).bind λb h=>if b then .ok true h else u σ h
@[simp] def fT(t:TF):EF:=λσ h=>(.j1).bind λb h=>.ok .eP h
@[simp] def fIf(t:TF)(a b:EF):EF:=λσ h=>(.j1).bind λc h=>if c then a σ h else b σ h
@[simp] def xC(g k:O2)(a b c:EF):EF:=λσ h=>(.O).bind λx h=>(.fM).bind λy h=>(g x y h).bind λz h=>match z with
 |.bl true=>(c σ h).bind λw h=>k y w h
 |.bl false=>.ok (.bl false) h
 |_=>.bad
@[simp] def am:LF:=λ_ h=>.ok [] h
@[simp] def ad(a:EF)(r:LF):LF:=λσ h=>(.O).bind λx h=>(.j2).bind λxs h=>.ok .dL h
@[simp] def cZ(r:LF):EF:=λσ h=>(.j2).bind λxs h=>if xs.length<=SZ then .ok .dc h else .bad
@[simp] def bR(r:LF):EF:=λσ h=>(.j2).bind λxs h=>if xs.length<=SZ then .ok .M .uP else .bad
@[simp] def kT(h:Hd):D->Option .gJ
 |.tup l=>some l
 |.lit l=>some l
 |.ref n=>match h[n]? with|some .dQ=>some l|_=>none
 |_=>none
@[simp] def lOf(a:EF):LF:=λσ h=>(.O).bind λx h=>match kT h x with|some l=>.ok l h|none=>.bad
@[simp] def inL(h:Hd)(x y:D):Option Bool:=match kT h y with
 |some l=>if iw x&&l.all iw then some (l.any λz=>eqF z x) else none
 |none=>none
@[simp] def oIn:O2:=λx y h=>match inL h x y with|some b=>.ok (.bl b) h|none=>.bad
@[simp] def lG:O2:=λx y h=>match inL h x y with|some b=>.ok (.bl<|!b) h|none=>.bad
/---/def ixN(n:Nat)(i:Int):Option Nat:=if 0<=i then .z3 else if -(n:Int)<=i then some (i+n).toNat else none
/---/def atI(xs:List D)(i:Int):Option D:=(ixN xs.length i).bind λj=>xs[j]?
@[simp] def fIx(a:LF)(b:EF):EF:=λσ h=>(.O).bind λl h=>(.fM).bind λy h=>match y with
 |.int i=>match atI l i with|some d=>.ok d h|none=>.bad
 |_=>.bad
@[simp] def oAt:O2:=λx y h=>match kT h x,y with
 |some l,.int i=>match atI l i with|some d=>.ok d h|none=>.bad
 |_,_=>.bad
@[simp] def fAt(a b:EF):EF:=λσ h=>ag oAt a b σ h
@[simp] def cC(a:LF):EF:=λσ h=>(.O).bind λl h=>.ok .sD h
def jj:List D->Option .aW
 |[]=>some []
 |.int i::r=>(jj r).map (i :: ·)
 |_=>none
@[simp] def rH(a:LF):EF:=λσ h=>(.O).bind λl h=>match jj l with|some is=>.ok (.int is.sum) h|none=>.bad
def ml:List D->Option (List Bool)
 |[]=>some []
 |.bl b::r=>(ml r).map (b :: ·)
 |_=>none
@[simp] def rJ(a:LF):EF:=λσ h=>(.O).bind λl h=>match ml l with|some bs=>.ok (.bl .pp) h|none=>.bad
@[simp] def fg(a:LF):EF:=λσ h=>(.O).bind λl h=>.ok (.tup l) h
@[simp] def qG(a:EF):EF:=λσ h=>(.O).bind λx h=>match x with | .int i=>.ok .cS h | .bl b=>.ok (.int<|b2i b) h|_=>.bad
inductive Ty where|int|bool|tuple|list|str
deriving DecidableEq
@[simp] def Kn(h:Hd)(t:Ty):D->Option Bool
 |.non=>some false
 |.bl _=>some (t == .bool||t == .int)
 |.int _=>some (t == .int)
 |.str _=>some (t == .str)
 |.tup _=>some (t == .tuple)
 |.lit _=>some (t == .list)
 |.ref n=>match h[n]? with|some (.lst _)=>some (t == .list)|some (.dct _)=>some false|some (.dcT _)=>none|some (.ob _)=>none|none=>none
 |.exn _ _=>none
@[simp] def i3(t:Ty)(a:EF):EF:=λσ h=>(.O).bind λx h=>match Kn h t x with|some b=>.ok (.bl b) h|none=>.bad
def sIx(n d:Nat):Option Int->Nat
 |none=>d
 |some i=>if i<0 then (i+n).toNat else min i.toNat n
/---/def cut(l:List D)(lo hi:.aF):List D:=(l.drop<|.kz 0 lo).take (sIx l.length l.length hi-sIx l.length 0 lo)
abbrev OF:=Sd->Hd->Res .he
@[simp] def pNo:OF:=λ_ h=>.ok none h
@[simp] def pAt(a:EF):OF:=λσ h=>(.O).bind λx h=>match x with | .int i=>.ok (some i) h|_=>.bad
@[simp] def eA(a:EF)(lo hi:OF):EF:=λσ h=>(.O).bind λx h=>(lo σ h).bind λi h=>(hi σ h).bind λj h=>match x with
 |.tup l=>if sIx l.length 0 i=0/\.kz l.length j=l.length then .bad else .ok (.tup .pn) h
 |x=>match jM h x with|some l=>.ok .bb (h++[.lst .pn])|none=>.bad
def lexLt:List Int->List Int->Bool
 |[],[]=>false
 |[],_::_=>true
 |_::_,[]=>false
 |x::xs,y::ys=>if x=y then lexLt xs ys else decide (x<y)
def Tx:List D->Option (List .aW)
 |[]=>some []
 |.tup l::r=>match jj l,Tx r with|some a,some b=>some (a::b)|_,_=>none
 |_=>none
@[simp] def au(F:Fn)(r:LF):EF:=λσ h=>(.j2).bind λxs h=>F xs h
abbrev IF:=Sd->Hd->Res .tg
@[simp] def cr(a:EF):IF:=λσ h=>(.O).bind λx h=>match x with
 |.int n=>if -1000000<=n/\n<=1000000 then .ok ((.bY n.toNat).map (λk:Nat=>.int k),none) h else .bad
 |_=>.bad
@[simp] def fj(a b:EF):IF:=λσ h=>(.O).bind λx h=>(.fM).bind λy h=>match x,y with
 |.int m,.int n=>if (-1000000<=m/\m<=1000000)/\-1000000<=n/\n<=1000000 then .ok ((.CW).map (λk:Nat=>.int (m+k)),none) h else .bad
 |_,_=>.bad
@[simp] def dA(a:EF):IF:=λσ h=>(.O).bind λx h=>match x with
 |.tup l=>.ok (l,none) h
 |.lit l=>.ok (l,none) h
 |.ref n=>match h[n]? with|some .dQ=>.ok (l,some n) h|_=>.bad
 |_=>.bad
@[simp] def IZ(a:EF):IF:=λσ h=>(.O).bind λx h=>match x with
 |.tup l=>.ok ((.n6).zip l |>.map λp=>.tup [.int (p.1:Nat),p.2],none) h
 |_=>.bad
section
open Classical
/---/def d9(g:.gR)(all:List D)(h:Hd):Prop:=match g with|none=>True|some n=>h[n]?=some (.lst all)
abbrev GF:=D->Sd->Option Sd
@[simp] def gN(i:Nat):GF:=λd σ=>some (σ.set i<|some d)
@[simp] def gT(l:.m):GF:=λd σ=>match d with
 |.tup xs=>if xs.length=l.length then some ((l.zip xs).foldl .AP σ) else none
 |_=>none
@[simp] def ax(a b:SF):SF:=λσ h=>match a σ h with | .nx σ h=>b σ h|r=>r
@[simp] def bh:SF:=λσ h=>.nx σ h
@[simp] def outE(r:Res D)(σ:Sd)(k:D->Hd->Out):Out:=match r with | .ok d h=>k d h | .exc x h=>.exc x σ h | .bad=>.bad
@[simp] def aD(g:GF)(a:EF):SF:=λσ h=>outE .O σ λd h=>match g d σ with|some σ=>.nx σ h|none=>.bad
@[simp] def aS(a:EF):SF:=λσ h=>outE .O σ λd h=>.rt d h
@[simp] def ed(a:EF):SF:=λσ h=>outE .O σ λ_ h=>.nx σ h
@[simp] def sIf(t:TF)(a b:SF):SF:=λσ h=>match t σ h with | .ok c h=>if c then a σ h else b σ h | .exc x h=>.exc x σ h | .bad=>.bad
@[simp] def Qu:SF:=λσ h=>.bk σ h
/---/def fz:SF:=λ_ _=>.bad
@[simp] def Ko(i:Nat)(g:O2)(a:EF):SF:=λσ h=>match slot σ i with
 |some x=>outE .O σ λy h=>outE (g x y h) σ λz h=>.nx .tD h
 |none=>.bad
@[simp] def jX(x i e:EF):SF:=λσ h=>outE .h3 σ λd h=>outE .fI σ λp h=>outE (i σ h) σ λj h=>match p,j with
 |.ref n,.int j=>match h[n]? with
  |some .dQ=>match ixN l.length j with
   |some k=>.dy (h.set n<|.lst<|l.set k d)
   |none=>.bad
  |_=>.bad
 |_,_=>.bad
@[simp] def Tz:O2:=λp d h=>match p with
 |.ref n=>match h[n]? with
  |some .dQ=>if l.length<SZ then .ok .non (h.set n<|.lst<|l++[d]) else .bad
  |_=>.bad
 |_=>.bad
@[simp] def jY(x e:EF):EF:=λσ h=>(.fI).bind λp h=>match p with
 |.ref n=>match h[n]? with
  |some (.lst _)=>(.h3).bind λd h=>Tz (.ref n) d h
  |_=>.bad
 |_=>.bad
def i0(g:.gR)(all:List D)(tg:GF)(b:SF):List D->SF
 |[],σ,h=>if d9 g all h then .nx σ h else .bad
 |x::xs,σ,h=>if d9 g all h then match tg x σ with
   |some σ=>match b σ h with
    |.nx σ h=>i0 g all tg b xs σ h
    |.ct σ h=>i0 g all tg b xs σ h
    |.bk σ h=>.dy h
    |r=>r
   |none=>.bad
  else .bad
@[simp] def fE(it:IF)(tg:GF)(b:SF):SF:=λσ h=>match it σ h with
 |.ok (l,g) h=>i0 g l tg b l σ h
 |.exc x h=>.exc x σ h
 |.bad=>.bad
def fW(t:TF)(b:SF):Nat->SF
 |0,_,_=>.bad
 |n+1,σ,h=>match t σ h with
  |.ok true h=>match b σ h with
   |.nx σ h=>fW t b n σ h
   |.ct σ h=>fW t b n σ h
   |.bk σ h=>.dy h
   |r=>r
  |.ok false h=>.dy h
  |.exc x h=>.exc x σ h
  |.bad=>.bad
/---/def Qv(t:TF)(b:SF):Sd->Hd->Nat:=λσ h=>if ex:∃n,fW t b n σ h ≠ .bad then Classical.choose ex else 0
/---/def t8(t:TF)(b:SF):SF:=λσ h=>fW t b (Qv t b σ h) σ h
@[simp] def j5:List TF->TF
 |[],_,h=>.ds h
 |t::r,σ,h=>(.j1).bind λb h=>if b then j5 r σ h else .ok false h
def cu(g:.gR)(all:List D)(tg:GF)(cs:List TF)(e:EF):List D->Sd->Hd->Res .gJ
 |[],_,h=>if d9 g all h then .ok [] h else .bad
 |x::xs,σ,h=>if d9 g all h then match tg x σ with
   |some σ=>(j5 cs σ h).bind λb h=>if b then (.h3).bind λd h=>(cu g all tg cs e xs σ h).bind λds h=>.ok (d::ds) h
    else cu g all tg cs e xs σ h
   |none=>.bad
  else .bad
@[simp] def gJ(nl:Nat)(caps:.m)(σ:Sd):Sd:=List.replicate nl none++caps.map λi=>slot σ i
@[simp] def bG(nl:Nat)(caps:.m)(it:IF)(tg:GF)(cs:List TF)(e:EF):LF:=λσ h=>(it σ h).bind λp h =>
 cu p.2 p.1 tg cs e p.1 .uB h
mutual
def pure?: D->Bool
 |.ref _=>false
 |.tup l=>io l
 |.lit l=>io l
 |.exn _ l=>io l
 |_=>true
def io:List D->Bool
 |[]=>true
 |x::xs=>pure? x&&io xs
end
def xD:cM->Bool
 |.lst l=>io l
 |.dct l=>l.all λp=>pure? p.2
 |.dcT l=>l.all λp=>pure? p.2
 |.ob l=>io l
/---/def I0(h h':Hd):Prop:=∀n c,n<h.length->h'[n]?=some c->h[n]?=some c\/xD c=true
/---/def letGo(h:Hd)(r:Res D):Res D:=match r with
 |.ok d h'=>if pure? d=true/\I0 h h' then .ok d (h'.take h.length) else .ok d h'
 |r=>r
/---/def runB(n:Nat)(b:SF):Fn:=λds h=>match b .rO h with
 |.nx _ h=>.e9 h
 |.rt d h=>.ak h
 |.exc x _ h=>.exc x h
 |_=>.bad
/---/def bB(np n:Nat)(b:SF):Fn:=λds h=>if ds.length=np then letGo h (runB n b ds h) else .bad
end
end Fm
namespace Fm
section
open Classical
def eE(G:Hd->Prop)(tg:GF)(cs:List TF)(e:EF):List D->Sd->Hd->Res .gJ
 |[],_,h=>if G h then .ok [] h else .bad
 |x::xs,σ,h=>if G h then match tg x σ with
   |some σ=>(j5 cs σ h).bind λb h=>if b then (.h3).bind λd h=>(eE G tg cs e xs σ h).bind λds h=>.ok (d::ds) h
    else eE G tg cs e xs σ h
   |none=>.bad
  else .bad
end
theorem B0:∀(xs:List D) (σ:Sd) (h:Hd),cu g all tg cs e xs σ h=eE (d9 g all) tg cs e xs σ h
 |[],_,h=>by unfold cu eE;rfl
 |x::xs,σ,h=>by
  unfold cu eE
  by_cases a:d9 g all h
  ·rw[zE a,zE a]
   cases tg x σ with
   |none=>rfl
   |some σ'=>dsimp[B0 xs]
  ·rw[zF a,zF a]
def B3(x:.c):List .aW->List .aW
 |[]=>[x]
 |y::r=>if lexLt x y=true then x::y::r else y::B3 x r
def fI:List .aW->List .aW
 |[]=>[]
 |x::r=>B3 x (fI r)
/---/def B4(r:.c):D:=.tup (r.map .int)
@[simp] def GO:O2:=λx y h=>(oIc (λ_ j=>decide (0<=j)) (λi j=>i/2^j.toNat)) x y h
theorem nr:∀a,lexLt a a=false
 |[]=>rfl
 |x::a=>by simp[lexLt,nr a]
theorem kU:∀{a b c},lexLt a b=true->lexLt b c=true->lexLt a c=true
 |[],[],_,h,_=>by simp[lexLt]at h
 |[],_::_,[],_,h=>by simp[lexLt]at h
 |[],_::_,_::_,_,_=>rfl
 |_::_,[],_,h,_=>by simp[lexLt]at h
 |_::_,_::_,[],_,h=>by simp[lexLt]at h
 |x::a,y::b,z::c,h,h'=>by
  dsimp[lexLt]at h h' ⊢
  by_cases e:x=y
  ·subst e
   rw[zE rfl]at h
   by_cases d:x=z
   ·subst d
    rw[zE rfl]at h' ⊢;exact kU h h'
   ·rw[zF d]at h' ⊢;exact h'
  ·rw[zF e]at h
   by_cases d:y=z
   ·subst d
    rw[zF e];exact h
   ·rw[zF d]at h'
    simp at h h';rw[zF .b];simp;omega
theorem pU:∀{a b},a≠b->lexLt a b=false->lexLt b a=true
 |[],[],h,_=>absurd rfl h
 |[],_::_,_,h=>by simp[lexLt]at h
 |_::_,[],_,_=>rfl
 |x::a,y::b,h,h'=>by
  dsimp[lexLt]at h' ⊢
  by_cases e:x=y
  ·subst e
   rw[zE rfl]at h' ⊢;exact pU (λz=>h (by rw[z])) h'
  ·rw[zF e]at h'
   rw[zF (wh e)];simp at h' ⊢;omega
def oO(h:lexLt a b=true):lexLt b a=false:=by
 cases c:lexLt b a with
 |false=>rfl
 |true=>have:=kU h c;rw[nr]at this;cases this
theorem t9(x:.c):∀r,(B3 x r).Perm (x::r)
 |[]=>.refl _
 |y::r=>by
  dsimp[B3];split
  ·exact .refl _
  ·exact((t9 x r).cons y).trans (.swap x y r)
theorem lH:∀r,(fI r).Perm r
 |[]=>.refl _
 |x::r=>(t9 x _).trans ((lH r).cons x)
theorem xE:∀{r:.aK},x∉r->r.Pairwise .le->(B3 x r).Pairwise .le
 |[],_,_=>by simp[B3]
 |y::r,e,h=>by
  dsimp[B3];have g:¬x=y:=λz=>e .lx;have i:x∉r:=λz=>e .lx;obtain⟨f,j⟩:=YC.mp h;split
  ·rename_i c
   refine YC.mpr ⟨λb d=>?_,h⟩;rcases y6.mp d with rfl|d
   ·exact c
   ·exact kU c (f b d)
  ·rename_i c
   have k:=pU g .tT;refine YC.mpr ⟨λb d=>?_,xE i j⟩;rcases y6.mp ((t9 x r).mem_iff.mp d) with rfl|d
   ·exact k
   ·exact f b d
theorem oP:∀{r:.aK},r.Nodup->(fI r).Pairwise .le
 |[],_=>.nil
 |x::r,h=>by
  obtain⟨h1,c⟩:=YW.mp h;exact xE (λz=>h1 ((lH r).mem_iff.mp z)) (oP c)
def Kq{a b:.aK}(p:a.Perm b)(c:a.Pairwise .le)(e:b.Pairwise .le):a=b :=
 List.Perm.eq_of_pairwise (λx y _ _ h d=>by have:=oO h;rw[d]at this;cases this) c e p
@[simp] def Ja:EF:=λ_ h=>.ok .M (h++[.dct []])
/---/def xF(l:.en)(k:Int):Option D:=(l.find? λp=>decide (p.1=k)).map (·.2)
/---/def GP(l:.en)(k:Int)(v:D):List .nr:=if (l.any λp=>decide (p.1=k))=true then l.map (λp=>if p.1=k then (p.1,v) else p) else l++[(k,v)]
@[simp] def Mw:O2:=λx y h=>match x,y with
 |.int k,.ref n=>match h[n]? with|some .ii=>.ok (.bl (xF l k).isSome) h|_=>.bad
 |_,_=>.bad
@[simp] def D4(x i e:EF):SF:=λσ h=>outE .h3 σ λd h=>outE .fI σ λp h=>outE (i σ h) σ λj h=>match p,j with
 |.ref n,.int k=>match h[n]? with
  |some .ii=>if l.length<SZ then .nx σ (h.set n<|.dct<|GP l k d) else .bad
  |_=>.bad
 |_,_=>.bad
def i5:List .nr->Option (List .aW)
 |[]=>some []
 |(k,.int v)::r=>(i5 r).map λl=>[k,v]::l
 |_=>none
@[simp] def ua(a:EF):LF:=λσ h=>(.O).bind λx h=>match x with
 |.ref n=>match h[n]? with
  |some .ii=>match i5 l with
   |some r=>if r.length<64/\r.Nodup then .ok ((fI r).map B4) h else .bad
   |none=>.bad
  |_=>.bad
 |_=>.bad
@[simp] def xG(la:LF)(b:EF):LF:=λσ h=>(la σ h).bind λl h=>(.fM).bind λy h=>match y with
 |.int n=>if 0<=n/\n<=1000/\l.length*n.toNat<=1000 then .ok (.Ca).flatten h else .bad
 |_=>.bad
@[simp] def Xy(x i e:EF):EF:=λσ h=>(.fI).bind λp h=>match p with
 |.ref n=>match h[n]? with
  |some (.lst _)=>(i σ h).bind λj h=>(.h3).bind λd h=>match j with
   |.int k=>match h[n]? with
    |some .dQ=>if 0<=k/\k<=l.length/\l.length<SZ then .ok .non (h.set n<|.lst<|l.take k.toNat++[d]++l.drop k.toNat) else .bad
    |_=>.bad
   |_=>.bad
  |_=>.bad
 |_=>.bad
@[simp] def ub(a b:EF):EF:=λσ h=>(.O).bind λx h=>(.fM).bind λy h=>match x,y with
 |.int i,.int j=>.ok (.int<|if j>i then j else i) h
 |_,_=>.bad
@[simp] def vJ(a b:EF):LF:=λσ h=>(.O).bind λx h=>(.fM).bind λy h=>match x,y with
 |.ref n,.ref m=>match h[n]?,h[m]? with
  |some .dQ,some (.lst k)=>if l.length+k.length<=SZ then .ok (l++k) h else .bad
  |_,_=>.bad
 |_,_=>.bad
@[simp] def oQ:O2:=λx y h=>match x,y with
 |.tup xs,.tup ys=>if xs.length+ys.length<=SZ then .ok (.tup<|xs++ys) h else .bad
 |_,_=>.bad
def noX:Res α->Res α
 |.exc _ _=>.bad
 |r=>r
/---/def fPl(f:Sd->Hd->Res α):Sd->Hd->Res α := λσ h=>noX (f σ h)
def ltT:D->D->Option Bool
 |.tup xs,.tup ys=>match jj xs,jj ys with
  |some ns,some ms=>some (lexLt ns ms)
  |_,_=>none
 |_,_=>none
@[simp] def B5:O2:=λx y h=>match ltT x y with|some b=>.ok (.bl b) h|none=>.bad
/---/def AI(x:EF):EF:=λσ h=>(.fI).bind λp h=>match p with
 |.ref n=>match h[n]? with|some .kn=>.ok d h|_=>.bad
 |_=>.bad
/---/def D5(x e:EF):SF:=λσ h=>outE .h3 σ λd h=>outE .fI σ λp h=>match p with
 |.ref n=>match h[n]? with|some (.ob [])=>.nx σ (h.set n .kn)|some (.ob [_])=>.nx σ (h.set n .kn)|_=>.bad
 |_=>.bad
/---/def Mx(F:Fn)(r:LF):EF:=λσ h=>(.j2).bind λxs h=>match F (.ref h.length::xs) (h++[.ob []]) with
 |.ok .non h'=>.ok .bb h'
 |_=>.bad
/---/def nt(F:Fn)(x:EF)(r:LF):EF:=λσ h=>(.fI).bind λp h=>match p with
 |.ref n=>match h[n]? with|some (.ob _)=>(.j2).bind λxs h=>F (.ref n::xs) h|_=>.bad
 |_=>.bad
/---/def rK(s:String):List Nat:=s.toList.map Char.toNat
abbrev JF:=List Nat->EF
/---/def oR:JF:=λout _ h=>if out.length<=1000000 then .ok (.str out) h else .bad
/---/def cO(a:EF)(r:JF):JF:=λout σ h=>(.O).bind λx h=>match x with
 |.str y=>if out.length+y.length<=1000000 then r (out++y) σ h else .bad
 |_=>.bad
/---/def fFs(r:JF):EF:=r []
/---/def c9(a:EF):EF:=λσ h=>(.O).bind λx h=>match x with
 |.int i=>if i.natAbs.log2<1920 then .ok (.str<|rK .gr) h else .bad
 |_=>.bad
/---/def Kr(l:.m):Bool := !l.isEmpty&&l.all λc=>decide .uY
/---/def Ks(l:.m):Nat:=l.foldl (λacc c=>acc*10+(c-48)) 0
def qH:List Nat->Option Int
 |[]=>none
 |c::r=>if c=45 then (if Kr r=true then some (-(Ks r:Int)) else none) else if Kr (c::r)=true then some (Ks (c::r):Int) else none
/---/def oq(a:EF):EF:=λσ h=>(.O).bind λx h=>match x with
 |.str l=>if l.length<=600 then (match qH l with|some n=>.ok .aZ h|none=>.bad) else .bad
 |_=>.bad
abbrev Tab:=List (List Nat × Option Int)
def Qw:Option Int->D
 |some i=>.int i
 |none=>.non
/---/def kW(T:Tab)(l:.m):Option .he:=T.lookup l
/---/def xa(T:Tab)(a:EF):EF:=λσ h=>(.O).bind λx h=>match x with
 |.str l=>.ok (.bl (kW T l).isNone) h
 |_=>.bad
/---/def B6(T:Tab)(a:EF):EF:=λσ h=>(.O).bind λx h=>match x with
 |.str l=>(match kW T l with|some d=>.ok (Qw d) h|none=>.bad)
 |_=>.bad
/---/def bQ:O2:=λx y h=>match x,y with
 |.str a,.str b=>if a.length+b.length<=1000000 then .ok (.str<|a++b) h else .bad
 |_,_=>.bad
/---/def V3:O2:=λx y h=>match x,y with
 |.str a,.int i=>if a.length<=1000000 then (match ixN a.length i with|some j=>(match a[j]? with|some c=>.ok (.str [c]) h|none=>.bad)|none=>.bad) else .bad
 |_,_=>.bad
/---/def Qx(a b:EF):EF:=ag V3 a b
/---/def Jb(a:EF):EF:=λσ h=>(.O).bind λx h=>match x with
 |.str l=>if l.length<=1000000 then .ok (.int l.length) h else .bad
 |_=>.bad
/---/def Kt:O2:=λx y h=>match x,y with
 |.str [c],.str l=>.ok (.bl<|decide (c∈l)) h
 |_,_=>.bad
def GQ(l:.m):Option Int->Option Int->Option .bW
 |none,some j=>if 0<=j/\j<=l.length then some (l.take j.toNat) else none
 |some i,none=>if 0<=i/\i<=l.length then some (l.drop i.toNat) else none
 |_,_=>none
/---/def xc(a:EF)(lo hi:OF):EF:=λσ h=>(.O).bind λx h=>(lo σ h).bind λi h=>(hi σ h).bind λj h=>match x with
 |.str l=>if l.length<=1000000 then (match GQ l i j with|some y=>.ok (.str y) h|none=>.bad) else .bad
 |_=>.bad
/---/def zQ(a:EF):IF:=λσ h=>(.O).bind λx h=>match x with
 |.str l=>if l.length<=1000000/\l.all (· < 128)=true then .ok (l.map λc=>D.str [c],none) h else .bad
 |_=>.bad
def mm:List D->Option (List .bW)
 |[]=>some []
 |.str x::r=>(mm r).map (x :: ·)
 |_=>none
/---/def D6(a:LF):EF:=λσ h=>(.O).bind λl h=>match mm l with
 |some ss=>if (.qu).sum<=1000000 then .ok (.str ss.flatten) h else .bad
 |none=>.bad
/---/def nu(a:EF)(lo hi:OF):EF:=λσ h=>(.O).bind λx h=>(lo σ h).bind λi h=>(hi σ h).bind λj h=>match x with
 |.tup l=>.ok (.tup .pn) h
 |_=>.bad
/---/def nv(a b:EF):EF:=λσ h=>(.O).bind λx h=>match x with
 |.str l=>(.fM).bind λy h=>match y with
  |.str k=>.ok (.bl<|decide .tr&&.td) h
  |_=>.bad
 |_=>.bad
def bg(sp:.m):List .bW->List Nat
 |[]=>[]
 |[x]=>x
 |x::y::r=>x++sp++bg sp (y::r)
/---/def lI(sp:.m)(a:LF):EF:=λσ h=>(.O).bind λl h=>match mm l with
 |some ss=>if (.qu).sum+ss.length*sp.length<=1000000 then .ok (.str .py) h else .bad
 |none=>.bad
def fA(c:Nat):List Nat->List .bW
 |[]=>[[]]
 |x::r=>if x=c then []::fA c r else match fA c r with
  |p::ps=>(x::p)::ps
  |[]=>[[x]]
theorem vK:∀{p:.m},c∉p->fA c p=[p]
 |[],_=>rfl
 |x::r,h=>by
  have h1:x≠c:=λe=>h (by rw[e];exact ZV);have a:=vK (p:=r) λz=>h (ZW _ z);rw[fA,zF h1,a]
theorem xH:∀{p:.m},c∉p->fA c (p++c::t)=p::fA c t
 |[],_=>by rw[List.nil_append,fA,zE rfl]
 |x::r,h=>by
  have h1:x≠c:=λe=>h (by rw[e];exact ZV);have a:=xH (t:=t) (p:=r) λz=>h (ZW _ z);rw[List.cons_append,fA,zF h1,a]
theorem jN:∀{P:.aR},P≠[]->(∀p∈P,c∉p)->fA c (bg [c] P)=P
 |[],h,_=>absurd rfl h
 |[p],_,f=>vK (f p ZV)
 |p::q::r,_,f=>by
  have b:=jN (P:=q::r) .f λx a=>f x (ZW _ a);have e:bg [c] (p::q::r)=p++c::bg [c] (q::r):=by rw[bg,ZU];rfl
  rw[e,xH (f p ZV),b]
/---/def oS(c:Nat)(a:EF):LF:=λσ h=>(.O).bind λx h=>match x with
 |.str l=>if l.length<=1000000 then .ok ((fA c l).map D.str) h else .bad
 |_=>.bad
@[simp] def xI:O2:=λx y h=>(oIc (λ_ j=>decide (j=1)) (λi _=>i%2)) x y h
end Fm
set_option maxRecDepth 100000
namespace L2
open PySem PySem.Spec PyProof.Rows
abbrev Key:=Sum Int Str
def AJ:Key->S1->Bool
 |.inl k,v=>Value.isInt k v
 |.inr x,v=>Value.isStrOf x v
def Xz(w:N6):Key->Int
 |.inl k=>hashInt k
 |.inr x=>hashStr w x
theorem fq:∀{k:Key} {v:S1},AJ k v=true->(∃i t,k=Sum.inl i/\v=Value.int i t)\/(∃x t,k=Sum.inr x/\v=Value.str x t)
 |.inl i,v,h=>by
  obtain⟨t,e⟩:=Value.isInt_shape (k:=i) (v:=v) h;exact .inl ⟨i,t,rfl,e⟩
 |.inr x,v,h=>by
  obtain⟨t,e⟩:=Value.isStrOf_shape (x:=x) (v:=v) h;exact .inr ⟨x,t,rfl,e⟩
def Ku(i:Int)(t:Tok):AJ (.inl i) .pF=true:=by simp[AJ,Value.isInt]
def Kv(x:Str)(t:Tok):AJ (.inr x) (.str x t)=true:=by simp[AJ,Value.isStrOf]
def TB(a b:Int):decide ((Sum.inl a:Key)=Sum.inl b)=(a == b):=by
 by_cases e:a=b
 ·subst e;simp
 ·have h:¬(Sum.inl a:Key)=Sum.inl b:=λq=>e (Sum.inl.inj q)
  rw[z4 h];exact(beq_eq_false_iff_ne.mpr e).symm
def TC(a b:Str):decide ((Sum.inr a:Key)=Sum.inr b)=decide (a=b):=by
 by_cases e:a=b
 ·subst e;simp
 ·have h:¬(Sum.inr a:Key)=Sum.inr b:=λq=>e (Sum.inr.inj q)
  rw[z4 h,z4 e]
def TD(a:Int)(b:Str):decide ((Sum.inl a:Key)=Sum.inr b)=false:=z4 (λq=>nomatch q)
def TH(a:Str)(b:Int):decide ((Sum.inr a:Key)=Sum.inl b)=false:=z4 (λq=>nomatch q)
def fX(prog:N3)(w:N6):PySem.KeyKind prog w Key where
 is:=AJ
 hash:=Xz w
 inj:=λv a b ha hb=>by
  rcases fq ha with ⟨i,t,rfl,rfl⟩|⟨x,t,rfl,rfl⟩
  ·rcases fq hb with ⟨j,u,rfl,e⟩|⟨y,u,rfl,e⟩
   ·injection e with e1 _;rw[e1]
   ·exact nomatch e
  ·rcases fq hb with ⟨j,u,rfl,e⟩|⟨y,u,rfl,e⟩
   ·exact nomatch e
   ·injection e with e1 _;rw[e1]
 byValue:=λk v h=>by
  rcases fq h with ⟨i,t,rfl,rfl⟩|⟨x,t,rfl,rfl⟩<;>rfl
 pyHash:=λhv h=>by
  rcases fq hv with ⟨i,t,rfl,rfl⟩|⟨x,t,rfl,rfl⟩
  ·exact wpAny_pyHash_int h
  ·exact wpAny_pyHash_str h
 eqBool:=λhu hv h=>by
  rcases fq hu with ⟨i,t,rfl,rfl⟩|⟨x,t,rfl,rfl⟩
  ·rcases fq hv with ⟨j,u,rfl,rfl⟩|⟨y,u,rfl,rfl⟩
   ·rw[TB]at h;exact wpAny_eqBool_int h
   ·rw[TD]at h;exact SeqAt.EqAt.int_str i t y u _ _ _ _ h
  ·rcases fq hv with ⟨j,u,rfl,rfl⟩|⟨y,u,rfl,rfl⟩
   ·rw[TH]at h;exact SeqAt.EqAt.str_int x t j u _ _ _ _ h
   ·rw[TC]at h;exact wpAny_eqBool_str h
 «strs» := λk x t v h=>by
  rcases fq h with ⟨i,u,rfl,e⟩|⟨y,u,rfl,e⟩
  ·exact nomatch e
  ·injection e with e1 _
   subst e1
   cases v<;>rfl
def D7(prog:N3)(w:N6)(i:Int)(t:Tok):(fX prog w).is (.inl i) .pF=true:=Ku i t
def D8(prog:N3)(w:N6)(x:Str)(t:Tok):(fX prog w).is (.inr x) (.str x t)=true:=Kv x t
inductive V where
 |non|bl (b:Bool)|int (i:Int)|str (x:Str)|byt (b:Array UInt8)|flt (b:UInt64)|ref (a:Addr)|ty (n:String)
 deriving DecidableEq
def cU:V->S1->Prop
 |.non,u=>u=Value.none
 |.bl b,u=>u=Value.bool b
 |.int i,u=>∃t,u=Value.int i t
 |.str x,u=>∃t,u=Value.str x t
 |.byt b,u=>∃t,u=Value.bytes b t
 |.flt b,u=>∃t,u=Value.float b t
 |.ref a,u=>u=Value.ref a
 |.ty n,u=>u=Value.type n
abbrev bM:List V->List S1->Prop:=Paired cU
variable{us:List S1}
def bM.length(r:bM xs us):xs.length=us.length:=Paired.length r
theorem bM.get:∀{xs:List V} {us:List S1} {i:Nat} {x:V},bM xs us->xs[i]?=some x->∃u,us[i]?=some u/\cU x u
 |_,_,_,_,.nil,e=>by simp at e
 |_,_,0,_,.cons r _,e=>by simp at e;subst e;exact⟨_,rfl,r⟩
 |_,_,i+1,x,.cons _ t,e=>by
  obtain⟨u,h1,a⟩:=bM.get (i:=i) (x:=x) t .fw;exact⟨u,by simpa using h1,a⟩
theorem bM.set(r:cU x u):∀{xs:List V} {us:List S1} (i:Nat),bM xs us->bM (xs.set i x) (us.set i u)
 |_,_,_,.nil=>.nil
 |_,_,0,.cons _ t=>.cons r t
 |_,_,i+1,.cons q t=>.cons q (bM.set r i t)
theorem bM.append:∀{xs ys:List V} {us a:List S1},bM xs us->bM ys a->bM (xs++ys) (us++a)
 |_,_,_,_,.nil,s=>s
 |_,_,_,_,.cons r t,s=>.cons r (bM.append t s)
theorem bM.take:∀{xs:List V} {us:List S1} (n:Nat),bM xs us->bM (xs.take n) (us.take n)
 |_,_,0,_=>.nil
 |_,_,_+1,.nil=>.nil
 |_,_,n+1,.cons r t=>.cons r (bM.take n t)
theorem bM.drop:∀{xs:List V} {us:List S1} (n:Nat),bM xs us->bM (xs.drop n) (us.drop n)
 |_,_,0,r=>r
 |_,_,_+1,.nil=>.nil
 |_,_,n+1,.cons _ t=>bM.drop n t
def rL:Option V->Option S1->Prop
 |some v,some u=>cU v u
 |none,none=>True
 |_,_=>False
/---/def KV:List .jT->List .pu->Prop:=Paired λ(p:κ × V) (q:κ × S1)=>p.1=q.1/\cU p.2 q.2
def kV:Key->V
 |.inl i=>.int i
 |.inr x=>.str x
inductive HO where
  |lst (xs:List V)
  |tup (xs:List V)
  |dK (kvs:.em)|dT (kvs:List .jn)
  |set (S:Int->Bool) (n:Nat)
  |ins (C dx:Addr) (fs:List .eh)
  |own (x:Addr)
  |xd (fs:List .eh)
  |met (f x:Addr)
  |rng (lo hi:Int)
  |frz (o:Obj) (u:HO)
  |tbl (ps:.bL)
  |ext (φ:Heap->Prop)
abbrev Hp:=Addr->Option HO
/---/def upd(H:Hp)(a:Addr)(o:HO):Hp:=λb=>if b=a then some o else H b
variable{H:Hp}
def bN:.a2 a o a=some o:=by unfold upd;rw[zE rfl]
variable{b:Addr}
def bi(h:b≠a):.a2 a o b=H b:=by unfold upd;rw[zF h]
def S7{a:Addr}{o u:HO}(h:H a=some o)(h':H b=some u)(d:o≠u):a≠b:=by
 intro e;subst e;rw[h]at h';exact d (ZT h')
def cP(h:H a=some o)(h':H b=none):a≠b:=by
 intro e;subst e;rw[h]at h';cases h'
section
variable(P:N3)(w:N6)
def gM(H:Hp)(h:Heap)(a:Addr):HO->Prop
 |.lst xs=>xs.length<=sizeLine/\∃(its:List S1) (n:Nat),bM xs its/\h.get? a=some { cls:=.type "list",data:=.seq its.toArray n }
 |.tup xs=>xs.length<=sizeLine/\∃its:List S1,bM xs its/\IsTup h a its.toArray
 |.dK kvs=>kvs.length<=sizeLine/\.gl=false/\∃vs,KV kvs vs/\h.DictOf .hK a vs
 |.dT kvs=>kvs.length<=sizeLine/\.gl=false/\∃xs:List .nQ,
   Paired (λ(p:List Key × V) (q:List Key × Addr × S1)=>p.1=q.1/\H q.2.1=some (.tup<|p.1.map kV)/\cU p.2 q.2.2) kvs xs/\
   ∃o es ep,h.get? a=some o/\o.ExactDict/\o.data=.dict es ep/\es.toList=xs.map (entryOfKey .lk)/\(xs.map (·.1)).Nodup
 |.set S n=>h.SetOf (intKind P w) a S n
 |.ins C dx fs=>H dx=some (.own a)/\fs.length<=1000/\dx≠a/\h.get? a=some .tf/\
   ∃mA,h.Ns1 dx mA/\(∀f,rL .u3 (mA f))/\PySem.Within mA (fs.map (·.1))
 |.own _=>∃o,h.get? a=some o
 |.xd fs=>∃mA,h.Ns1 a mA/\∀f,rL .u3 (mA f)
 |.rng lo hi=>∃t u v,h.get? a=some { cls:=.type "range",data:=.fields #[.int lo t,.int hi u,.int 1 v] }
 |.frz o u=>h.get? a=some o/\gM H h a u
 |.tbl ps=>h.get? a=some { cls:=.none,data:=.fields ps }
 |.met f x=>h.get? a=some (PySem.W.methodObj (.ref f)<|.ref x)
 |.ext φ=>φ h/\(∃o,h.get? a=some o)/\∀h1 h2:Heap,φ h1->(∀o,h1.get? a=some o->h2.get? a=some o)->φ h2
/---/def HOk(H:Hp)(h:Heap):Prop:=∀a o,H a=some o->.mO o
end
section
variable{P:N3}{w:N6}{H H':Hp}{h h':Heap}{a:Addr}{o:HO}
def gM.lt(x:.mO o):a<h.objs.size:=by
 cases o with
 |lst b=>obtain⟨_,_,_,_,e⟩:=x;exact ZI e
 |tup b=>obtain⟨_,_,_,p⟩:=x;exact p.lt
 |dK kvs=>obtain⟨_,_,_,_,o,_,_,e,_⟩:=x;exact ZI e
 |dT kvs=>obtain⟨_,_,_,_,o,_,_,e,_⟩:=x;exact ZI e
 |set S n=>obtain⟨o,_,_,_,e,_⟩:=x;exact ZI e
 |ins C i c=>obtain⟨_,_,_,e,_⟩:=x;exact ZI e
 |own y=>obtain⟨_,e⟩:=x;exact ZI e
 |xd c=>obtain⟨_,⟨_,_,_,e,_⟩,_⟩:=x;exact ZI e
 |rng g d=>obtain⟨_,_,_,e⟩:=x;exact ZI e
 |frz k u=>obtain⟨e,_⟩:=x;exact ZI e
 |tbl j=>exact ZI (show h.get? a=some _ from x)
 |met f y=>exact ZI (show h.get? a=some _ from x)
 |ext φ=>obtain⟨_,⟨_,e⟩,_⟩:=x;exact ZI e
theorem Paired.mapP:∀{c:List α} {d:List β},Paired F c d->(∀a b,F a b->G a b)->Paired G c d
 |_,_,.nil,_=>.nil
 |_,_,.cons r t,f=>.cons (f _ _ r) (Paired.mapP t f)
def gM.stay(x:.mO o)(k:∀b u,(b=a\/H b=some (.own a))->h.get? b=some u->h'.get? b=some u)
  (B:∀b,H b=some (.own a)->H' b=some (.own a)) (ht:.Ep):gM P w H' h' a o:=by
 induction o with
 |lst xs=>obtain⟨z,l,n,r,e⟩:=x;exact⟨z,l,n,r,.dY e⟩
 |tup xs=>obtain⟨z,l,r,g,e,c⟩:=x;exact⟨z,l,r,g,.dY e,c⟩
 |dK kvs=>obtain⟨z,y,E,r,g,j,i,e,c⟩:=x;exact⟨z,y,E,r,g,j,i,.dY e,c⟩
 |dT kvs =>
  obtain⟨z,y,xs,r,g,j,i,e,c⟩:=x;exact⟨z,y,xs,Paired.mapP r λp q z=>⟨z.1,ht _ _ z.2.1,z.2.2⟩,g,j,i,.dY e,c⟩
 |set S n=>obtain⟨g,j,i,t,e,c⟩:=x;exact⟨g,j,i,t,.dY e,c⟩
 |ins C I D =>
  obtain⟨d,z,ne,e,mA,⟨m,j,i,F,c⟩,r⟩:=x;exact⟨B _ d,z,ne,.dY e,mA,⟨m,j,i,k _ _ (.inr d) F,c⟩,r⟩
 |own y=>obtain⟨g,e⟩:=x;exact⟨g,.dY e⟩
 |xd D=>obtain⟨mA,⟨m,j,i,e,c⟩,r⟩:=x;exact⟨mA,⟨m,j,i,.dY e,c⟩,r⟩
 |rng K J=>obtain⟨t,u,v,e⟩:=x;exact⟨t,u,v,.dY e⟩
 |frz g u G=>obtain⟨e,q⟩:=x;exact⟨.dY e,G q⟩
 |tbl s =>
  have e:h.get? a=some { cls:=.none,data:=.fields s }:=x;show h'.get? a=some { cls:=.none,data:=.fields s };exact k a _ .aY e
 |met f y =>
  have e:h.get? a=some .Az:=x;show h'.get? a=some .Az;exact k a _ .aY e
 |ext φ=>obtain⟨p,⟨o,e⟩,A⟩:=x;exact⟨A _ _ p λo q=>.dY q,⟨o,.dY e⟩,A⟩
def HOk.lt(x:.cP)(e:H a=some o):a<h.objs.size:=(x a o e).lt
def HOk.fresh(x:.cP)(e:h.objs.size<=a):H a=none:=by
 cases q:H a with
 |none=>rfl
 |some u=>exact absurd (ZY (x.lt q) e) (Z8 _)
def HOk.kept(x:.cP)(k:.pG):HOk P w H h':=λa o e =>
 (x a o e).stay (λb u _ q=>k b u q) .pt λ_ _ q=>q
def HOk.laid(x:.cP)(k:.pG)(hp:h.objs.size<=a)(new:gM P w .l3 h' a o):HOk P w .l3 h':=λb u e=>by
 have f:=x.fresh hp
 by_cases d:b=a
 ·subst d;rw[bN]at e;cases e;exact new
 ·rw[bi d]at e
  exact(x b u e).stay (λc v _ q=>k c v q) (λc q=>by rw[bi (cP q f)];exact q) λc g q=>by rw[bi (cP q f)];exact q
end
/---/def Rd(H:Hp)(a:Addr)(u:HO):Prop:=H a=some u\/∃o,H a=some .gA
def Rd.of(h:H a=some u):Rd H a u:=.inl h
variable{h:Heap}
def Rd.ok(r:Rd H a u)(x:.cP):.mO u:=by
 rcases r with r|⟨o,r⟩
 ·exact x a u r
 ·obtain⟨_,q⟩:=x a _ r
  exact q
def Mut:Option HO->Prop
 |some (.lst _)=>True
 |some (.dK _)=>True
 |some (.dT _)=>True
 |some (.set _ _)=>True
 |some (.ins _ _ _)=>True
 |some (.ext _)=>True
 |_=>False
section
variable{P:N3}{w:N6}{H:Hp}{h h':Heap}{x e:Addr}{o':HO}
def HOk.write(ok:.cP)(i:Mut (H x))(he:.vO)(k:.Eb)(l:.vF)
  (new:gM P w (.a2 x o') h' x o'):HOk P w (.a2 x o') h':=λb u q=>by
 have a:∀c y,H c=some (.own y)->c≠x:=λc y r z=>by subst z;rw[r]at i;exact i
 have d:∀c j,H c=some (.tup j)->c≠x:=λc j r z=>by subst z;rw[r]at i;exact i
 by_cases f:b=x
 ·subst f;rw[bN]at q;cases q;exact new
 ·rw[bi f]at q
  by_cases hbe:b=e
  ·have m:H b=some .hX:=by
    rcases he with z|z
    ·exact absurd (hbe.trans z) f
    ·rw[hbe];exact z
   rw[q]at m;cases m;obtain⟨v,n⟩:=l;exact⟨v,by rw[hbe];exact n⟩
  ·refine(ok b u q).stay (λc v g r=>k c v ?_ r) (λc r=>by rw[bi (a c b r)];exact r) λc j r=>by rw[bi (d c j r)];exact r
   rcases g with rfl|g
   ·exact hbe
   ·rintro rfl
    rcases he with z|z
    ·exact a c b g z
    ·rw[g]at z;cases z;exact f rfl
end
structure Un(fs ex:.U)(H H':Hp)(h h':Heap):Prop where
 keep:∀b o,h.get? b=some o->H b=none->b∉fs->b∉ex->h'.get? b=some o
 slot:∀b o,h.get? b=some o->H b=none->b∈fs->b∉ex->∃sl,h'.get? b=some { o with slots:=sl }
 free:∀b o,h.get? b=some o->H b=none->b∉ex->H' b=none
 there:∀b o,h.get? b=some o->b∉ex->∃o',h'.get? b=some o'
 tups:∀b xs,H b=some .dc->H' b=some .dc
 frzs:∀b o u,H b=some .gA->H' b=some .gA
 tbls:∀b ps,H b=some (.tbl ps)->∃more,H' b=some (.tbl<|ps++more)
section
variable{fs fs' ex ex':.U}{H H1 H2:Hp}{h h1 h2 h':Heap}{a x e:Addr}{o:HO}
def Un.any(u:Un fs ex H H1 h h1)(q:h.get? b=some ob)(n:H b=none)(c:b∉ex):∃f,h1.get? b=some { ob with slots:=f }:=by
 by_cases d:b∈fs
 ·exact u.slot b ob q n d c
 ·exact⟨ob.slots,u.keep b ob q n d c⟩
def Un.kept(k:.pG):Un fs ex H H h h' :=
 ⟨λb c q _ _ _=>k b c q,λb c q _ _ _=>⟨c.slots,k b c q⟩,λ_ _ _ n _=>n,λb c q _=>⟨c,k b c q⟩,λ_ _ q=>q,λ_ _ _ q=>q,λ_ d q=>⟨#[],by rw[q];simp⟩⟩
def Un.refl:Un fs ex H H h h:=Un.kept λ_ _ q=>q
theorem Un.laid(k:.pG)(hp:h.objs.size<=a)(hn:H a=none):Un fs ex H .l3 h h' where
 keep:=λb u q _ _ _=>k b u q
 slot:=λb u q _ _ _=>⟨u.slots,k b u q⟩
 free:=λb u q n _=>by rw[bi (ZN<|ZY (ZI q) hp)];exact n
 there:=λb u q _=>⟨u,k b u q⟩
 tups:=λb c q=>by rw[bi (cP q hn)];exact q
 frzs:=λb u c q=>by rw[bi (cP q hn)];exact q
 tbls:=λb d q=>⟨#[],by rw[bi (cP q hn),q];simp⟩
def Un.write(c:Mut (H x))(he:.vO)(k:.Eb)(d:.vF):Un fs ex H (.a2 x o) h h':=by
 have i:∀b,H b=none->b≠x:=λb n z=>by subst z;rw[n]at c;exact c
 have g:∀b,H b=none->b≠e:=λb n z=>by
  subst z;rcases he with r|r
  ·exact i b n r
  ·rw[n]at r;cases r
 have f:∀b u,H b=some u->¬Mut (some u)->b≠x:=λb u q j z=>by subst z;rw[q]at c;exact j c
 refine⟨λb u q n _ _=>k b u (g b n) q,λb u q n _ _=>⟨u.slots,k b u (g b n) q⟩,λb u q n _=>by rw[bi (i b n)];exact n,λb u q _ => ?_,
  λb l q=>by rw[bi .ul];exact q,λb u l q=>by rw[bi .ul];exact q,λb m q=>⟨#[],by rw[bi .ul,q];simp⟩⟩
 by_cases hbe:b=e
 ·subst hbe;exact d
 ·exact⟨u,k b u hbe q⟩
end
/---/def trk(h:Heap)(H:Hp):List Addr:=(.s1).filter λa=>(H a).isSome
/---/def B7(h:Heap)(H:Hp):Heap:=PySem.W.hideAll h (trk h H)
def Kw(h:Heap)(H:Hp):(B7 h H).objs.size=h.objs.size:=PySem.W.hideAll_size _ _
def My(e:h.get? b=some o)(n:H b=none):(B7 h H).get? b=some o :=
 PySem.W.hideAll_get _ e λa=>by
  have q:(H b).isSome=true:=(.mj).2;rw[n]at q;simp at q
def Qy(e:(B7 h H).get? b=some o):h.get? b=some o/\H b=none:=by
 have a:h.get? b=some o:=PySem.W.of_hideAll (trk h H) e;refine⟨a,?_⟩;cases q:H b with
 |none=>rfl
 |some x =>
  have c:b∈trk h H:=YF.mpr ⟨YK.mpr (ZI a),by simp[q]⟩;have z:(B7 h H).get? b=none:=PySem.W.hideAll_none (trk h H) c;rw[z]at e;cases e
/---/def Qz(g h:Heap)(L:Addr):List .ff:=(.s1).filterMap λa=>if a=L\/(g.get? a).isSome=true then none else (h.get? a).map λo=>(a,o)
/---/def rest(g h:Heap)(L d:Addr):List .ff:=(Qz g h L).filter λp=>decide (p.1≠d)
structure Mod(K:ZX)(mg:.aw)(base:Heap):Prop where
 kin:K.In base
 glob:base.Ns mainGlobals mg
 blt:∃mb,base.Ns builtinsNs mb/\∀x:Str,x≠"__name__"->mb x=bootBuiltins x
 nolimit:base.NoLimit
structure Cx where
 prog:N3
 w:N6
 K:ZX
 mg:Str->Option S1
 base:Heap
 A:P2
 N:List Str
 s₀:P1
 H₀:Hp
 env:Env
 outer:List Env
 stack:List Env
 ex:List Addr
 fn:Str->Bool
 calm:Bool
 pn:List .ff
 xe:S1->P1->Prop
/---/def frs(l:.eo):List Addr:=l.filterMap (·.frame)
abbrev Cx.fs(X:Cx):List Addr:=frs X.outer
/---/def Vis(sc:Scope)(x:Str):Prop:=sc.names.lookup x=some .local\/sc.names.lookup x=some .cell\/sc.names.lookup x=some .free
/---/def Loc(sc:Scope)(x:Str):Prop:=sc.names.lookup x=some .local\/sc.names.lookup x=some .cell
/---/def XD(env:Env)(h:Heap)(m:.aw)(x:Str)(u:S1):Prop :=
 (env.kindOf x=some .local/\m x=some u)\/((env.kindOf x=some .cell\/env.kindOf x=some .free)/\∃c,env.cells.lookup x=some c/\h.IsCell c (some u))
structure Cx.Ok(X:Cx):Prop where
 mod:Mod X.K X.mg X.base
 kind:X.env.scope.kind=.function
 glob:X.env.globals=mainGlobals
 blt:X.env.builtins=builtinsNs
 above:X.s₀.heap.objs.size<=X.env.locals
 inj:∀x y c,X.env.cells.lookup x=some c->X.env.cells.lookup y=some c->x=y
 has:∀x,(X.env.kindOf x=some .cell\/X.env.kindOf x=some .free)->∃c,X.env.cells.lookup x=some c
 cab:∀x c,X.fn x=true->X.env.cells.lookup x=some c->X.s₀.heap.objs.size<=c
 hd:X.calm=true->X.A.handled=none
 frames:X.A.frames=some X.stack
 stk:X.stack=X.outer\/(X.stack=X.env::X.outer/\X.env.frame=some X.env.locals)
 exf:∀b∈X.ex,b≠X.env.locals/\∀x c,X.env.cells.lookup x=some c->c≠b
 bs:∀b o,X.base.get? b=some o->X.s₀.heap.get? b=some o/\X.H₀ b=none
 bsz:X.base.objs.size<=X.s₀.heap.objs.size
 noex:∀b o,X.base.get? b=some o->b∉X.ex
 exfs:∀b∈X.ex,b∉X.fs
 funs:X.s₀.heap.FunFrames X.base X.outer
 frf:∀b∈X.fs,X.H₀ b=none
structure Inv(X:Cx)(pins:.N)(σ:List (Option V))(H:Hp)(s:P1):Prop where
 ok:X.Ok
 os:s.os=X.s₀.os
 bare:AllBare s.gens
 base:Un X.fs X.ex X.H₀ H X.s₀.heap s.heap
 loc:∃m,s.heap.Ns X.env.locals m/\∀(i:Nat) (x:Str) (v:V),X.N[i]?=some x->σ[i]?=some .fH->Vis X.env.scope x->∃u,cU v u/\XD X.env s.heap m x u
 cell:∀x c,X.env.cells.lookup x=some c->∃v,s.heap.IsCell c v
 free:H X.env.locals=none
 freeC:∀x c,X.env.cells.lookup x=some c->H c=none
 pin:∀p∈X.pn++pins,s.heap.get? p.1=some p.2/\H p.1=none/\p.1≠X.env.locals/\p.1∉X.fs/\∀v,p.2.data ≠ .cell v
 hok:HOk X.prog X.w H s.heap
 len:σ.length=X.N.length
variable{x:Str}{u:S1}{E:.R}{A:P2}
section
variable{X:Cx}{pins:.N}{σ:List (Option V)}{H H':Hp}{s:P1}{h':Heap}
def Cx.Ok.nofr(ok:X.Ok)(e:X.base.get? b=some o):b∉X.fs:=λa=>by
 have:=(ok.funs.mem a).1;rw[e]at this;cases this
def Inv.bs(I:.x):∀b o,X.base.get? b=some o->s.heap.get? b=some o/\H b=none:=λb o e =>
 ⟨I.base.keep b o (.lF).1 (.lF).2 (I.ok.nofr e) (I.ok.noex b o e),I.base.free b o (.lF).1 (.lF).2 (I.ok.noex b o e)⟩
def Inv.bk(I:.x):∀b o,X.base.get? b=some o->s.heap.get? b=some o:=λb o e=>(I.bs b o e).1
def Inv.mod(I:.x):Mod X.K X.mg X.base:=I.ok.mod
def Inv.kIn(I:.x):X.K.In s.heap:=I.ok.mod.kin.keeps I.bk
def Inv.lt(I:.x):X.env.locals<s.heap.objs.size:=let ⟨_,a,_⟩:=I.loc;a.lt
def Inv.sz(I:.x):X.s₀.heap.objs.size<=s.heap.objs.size:=ZM I.ok.above (YB I.lt)
def Inv.nofs(I:.x){a:Addr}(h:s.heap.objs.size<=a):a∉X.fs:=λc=>by
 obtain⟨_,o,b,_⟩:=I.ok.funs.mem c;exact absurd (ZY (ZI b)<|ZM I.sz h) (Z8 _)
def Inv.cne(I:.x):∀x c,X.env.cells.lookup x=some c->c≠X.env.locals:=λx c e z=>by
 obtain⟨v,o,b,d⟩:=.iy e;obtain⟨m,⟨g,h,f,a,hd',_⟩,_⟩:=I.loc;rw[z,a]at b;cases b;rw[hd']at d;cases d
def Inv.funs(I:.x):s.heap.FunFrames X.base X.outer:=by
 have d:∀(l:.eo),(∀b∈frs l,b∈X.fs)->X.s₀.heap.FunFrames X.base l->s.heap.FunFrames X.base l:=by
  intro l
  induction l with
  |nil=>intro _ _;trivial
  |cons env r j =>
   intro g p;obtain⟨h,⟨L,o,f,m,k,n⟩,i⟩:=p;have c:L∈X.fs:=g L (by unfold frs;rw[zZl,f];exact ZV);obtain⟨q,e⟩:=I.base.slot L o k (I.ok.frf L c) c λz=>I.ok.exfs L z c;exact⟨h,⟨L,_,f,m,e,n⟩,j (λb a=>g b (by unfold frs;rw[zZl,f];exact ZW _ a)) i⟩
 exact d X.outer (λ_ a=>a) I.ok.funs
def Inv.stack(I:.x):s.heap.FunFrames X.base X.stack:=by
 rcases I.ok.stk with e|⟨e,a⟩
 ·rw[e];exact I.funs
 ·rw[e]
  obtain⟨m,b,_⟩:=I.loc;refine .cons (by rw[I.ok.kind];decide) a b ?_ I.funs;exact Heap.get?_none_of_le (ZM I.ok.bsz I.ok.above)
def Inv.stkSub(I:.x):∀b∈frs X.stack,b∈X.env.locals::X.fs:=λb a=>by
 rcases I.ok.stk with e|⟨e,c⟩
 ·rw[e]at a;exact ZW _ a
 ·rw[e]at a
  unfold frs at a;rw[zZl,c]at a;exact a
def Inv.stkFree(I:.x):∀b∈frs X.stack,H b=none:=λb a=>by
 rcases y6.mp (I.stkSub b a) with e|a
 ·rw[e];exact I.free
 ·obtain⟨_,o,c,_⟩:=I.ok.funs.mem a
  exact I.base.free b o c (I.ok.frf b a) λz=>I.ok.exfs b z a
def Inv.step{ch:.U}(I:.x)
  (h:.vk)
  (keep:∀b o,b≠X.env.locals->b∉X.fs->b∉ch->s.heap.get? b=some o->H b=none->h'.get? b=some o)
  (slot:∀b o,b≠X.env.locals->b∈X.fs->b∉ch->s.heap.get? b=some o->H b=none->∃F,h'.get? b=some { o with slots:=F }) (free:∀b o,b∉ch->s.heap.get? b=some o->H b=none->H' b=none)
  (there:∀b o,b∉ch->s.heap.get? b=some o->∃A,h'.get? b=some A)
  (tups:.Ep) (frzs:∀b o u,H b=some .gA->H' b=some .gA) (tbls:∀b ps,H b=some (.tbl ps)->∃more,H' b=some (.tbl<|ps++more))
  (ns:∀m,s.heap.Ns X.env.locals m->h'.Ns X.env.locals m) (hok:.vK) (M:AllBare g') :
  Inv X pins σ H' .yO:=by
 have C:∀b o,X.s₀.heap.get? b=some o->b≠X.env.locals:=λb o e=>ZN (ZY (ZI e) I.ok.above);have j:∀b o,X.s₀.heap.get? b=some o->b∉X.ex->b∉ch:=λb o e a w=>by
  rcases (h b w).1 with z|z
  ·exact a z
  ·exact absurd (ZY (ZI e) z) (Z8 _)
 have f:∀x c,X.env.cells.lookup x=some c->∀v,s.heap.IsCell c v->h'.IsCell c v:=λx c e v ⟨o,y,D⟩=>by
  have g:c∉ch:=λz=>(h c z).2.2.1 x c e rfl
  by_cases G:c∈X.fs
  ·obtain⟨F,q⟩:=slot c o (I.cne x c e) G g y .uH
   exact⟨_,q,D⟩
  ·exact⟨o,keep c o (I.cne x c e) G g y .uH,D⟩
 refine⟨I.ok,I.os,M,⟨λb o e n w a=>?_,λb o e n w a=>?_,λb o e n a=>?_,λb o e a=>?_,λb xs e=>tups b xs (I.base.tups b xs e),λb o xs e=>frzs b o xs (I.base.frzs b o xs e),λb ps e=>?_⟩,?_,λx c e=>?_,?_,λx c e=>?_,λp K=>?_,hok,I.len⟩
 ·exact keep b o (C b o e) w .pj (I.base.keep b o e n w a) .s7
 ·obtain⟨F,t⟩:=I.base.slot b o e n w a
  obtain⟨E,B⟩:=slot b _ (C b o e) w .pj t .s7;exact⟨E,B⟩
 ·obtain⟨A,t⟩:=.qP a
  exact free b A .pj t .s7
 ·obtain⟨A,t⟩:=.qP a
  exact there b A .pj t
 ·obtain⟨L,t⟩:=I.base.tbls b ps e
  obtain⟨P,B⟩:=tbls b _ t;exact⟨L++P,by rw[B,Array.append_assoc]⟩
 ·obtain⟨m,O,N⟩:=I.loc
  refine⟨m,ns m O,λi x v t B Q=>?_⟩;obtain⟨u,r,l⟩:=N i x v t B Q;refine⟨u,r,?_⟩;rcases l with l|⟨k,c,e,z⟩
  ·exact .inl l
  ·exact .inr ⟨k,c,e,f x c e _ z⟩
 ·obtain⟨v,z⟩:=.iy e
  exact⟨v,f x c e v z⟩
 ·obtain⟨m,⟨o,_,_,y,_⟩,_⟩:=I.loc
  exact free _ o (λz=>(h _ z).2.1 rfl) y I.free
 ·obtain⟨v,o,y,D⟩:=.iy e
  exact free c o (λz=>(h c z).2.2.1 x c e rfl) y .uH
 ·obtain⟨e,n,ne,J,d⟩:=I.pin p K
  have g:p.1∉ch:=λz=>(h p.1 z).2.2.2 p K rfl;exact⟨keep p.1 p.2 ne J g e n,free p.1 p.2 g e n,ne,J,d⟩
def Inv.un(I:.x)(u:Un X.fs [] H H' s.heap h')(hok:.vK):.bE H' .ga:=by
 obtain⟨m,⟨o,p,k,g,r⟩,_⟩:=id I.loc;obtain⟨t,i⟩:=u.any g I.free .f;exact I.step (g':=s.gens) (d':=s.drawn) (ch:=[]) .fv (λb o _ c _ e n=>u.keep b o e n c .f) (λb o _ c _ e n=>u.slot b o e n c .f) (λb o _ e n=>u.free b o e n .f) (λb o _ e=>u.there b o e .f) u.tups u.frzs u.tbls (λq j=>by
  obtain⟨l,d,f,a,h⟩:=j;rw[g]at a;cases a;exact⟨_,d,f,i,h⟩) hok I.bare
def Inv.call{ch:.U}(I:.x)(u:Un (frs X.stack) ch H H' s.heap h')(hok:.vK)(q:AllBare g')
  (f:.vk) :
  Inv X pins σ H' .yO:=by
 obtain⟨m,⟨o,y,v,j,r⟩,_⟩:=id I.loc;obtain⟨B,i⟩:=u.any j I.free λz=>(f _ z).2.1 rfl;exact I.step (ch:=ch) f (λb o i k a e n=>u.keep b o e n (λz=>(y6.mp<|I.stkSub b z).elim i k) a) (λb o _ _ a e n=>u.any e n a) (λb o a e n=>u.free b o e n a) (λb o a e=>u.there b o e a) u.tups u.frzs u.tbls (λA t=>by
  obtain⟨w,g,h,d,l⟩:=t;rw[j]at d;cases d;exact⟨_,g,h,i,l⟩) hok q
def Inv.turned(I:.x)(k:∀b o,b≠it->s.heap.get? b=some o->h'.get? b=some o)(hn:H it=none)(f:it≠X.env.locals)
  (h1:it∈X.ex\/X.s₀.heap.objs.size<=it) (t:∀x c,X.env.cells.lookup x=some c->c≠it) (l:∀p∈X.pn++pins,p.1≠it):.bE H .ga:=by
 have d:∀b u,H b=some u->b≠it:=λb u e z=>by rw[z,hn]at e;cases e
 refine I.step (g':=s.gens) (d':=s.drawn) (ch:=[it]) (λb h=>?_) (λb o _ _ a e _=>k b o .u0 e) (λb o _ _ a e _=>⟨o.slots,k b o .u0 e⟩) (λ_ _ _ _ n=>n)
  (λb o a e=>⟨o,k b o .u0 e⟩) (λ_ _ e=>e) (λ_ _ _ e=>e) (λb y e=>⟨#[],by rw[e];simp⟩) (λm w=>?_) (λb u e=>?_) I.bare
 ·have e:b=it:=by simpa using h
  subst e;exact⟨h1,f,t,l⟩
 ·obtain⟨o,i,g,j,r⟩:=w
  exact⟨o,i,g,k _ o (wh f) j,r⟩
 ·refine (.o2).stay (λc v a q=>k c v ?_ q) .pt λ_ _ q=>q
  rcases a with z|z
  ·rw[z];exact d b u e
  ·exact d c _ z
def Inv.tok(I:.x)(t:Nat):Inv X pins σ H { s with toks:=t }:=I.un (h':=s.heap) (t':=t) Un.refl I.hok
def Inv.kept(I:.x)(k:.Ec):.bE H .ga:=I.un (Un.kept k) (I.hok.kept k)
def Inv.laid{a:Addr}(I:.x)(k:.Ec)(hp:s.heap.objs.size<=a)(new:gM X.prog X.w .l3 h' a o):
  Inv X pins σ .l3 .ga:=I.un (Un.laid k hp<|I.hok.fresh hp) (I.hok.laid k hp new)
def Inv.write{x e:Addr}(I:.x)(c:Mut (H x))(he:.vO)(k:∀b u,b≠e->s.heap.get? b=some u->h'.get? b=some u)(a:.vF)
  (new:gM X.prog X.w (.a2 x o) h' x o):.bE (.a2 x o) .ga:=I.un (Un.write c he k a) (I.hok.write c he k a new)
def Inv.pins_of(I:.x)(h:∀p∈pins',s.heap.get? p.1=some p.2/\H p.1=none/\p.1≠X.env.locals/\p.1∉X.fs/\∀v,p.2.data ≠ .cell v):Inv X pins' σ H s :=
 ⟨I.ok,I.os,I.bare,I.base,I.loc,I.cell,I.free,I.freeC,λp a=>(Z3.mp a).elim (λz=>I.pin p (List.mem_append_left _ z)) (h p),I.hok,I.len⟩
def D9{N:.az}(d:N.Nodup){i j:Nat}(a:N[i]?=some x)(b:N[j]?=some x):i=j:=by
 obtain⟨g,e⟩:=zA.mp a;obtain⟨f,c⟩:=zA.mp b;exact(List.getElem_inj d).mp (e.trans c.symm)
def AK{M:Model}(I:.x)(hN:.fR)(hi:.dN)(w:.fO)(r:cU v u)
  (h:∀s',Inv X pins .oI H s'->(∃a,Heap.SameBut a s.heap s'.heap/\(a=X.env.locals\/X.env.cells.lookup x=some a))->Q () s') (hf:X.fn x=true\/X.env.scope.names.lookup x=some .local:=by first|exact .inl rfl|exact .inr rfl|assumption):wpAny M A .D4 Q E s:=by
 obtain⟨m,hn,hl⟩:=id I.loc;have O:(X.env.scope.kind == .class||(X.env.scope.kind == .module&&X.env.locals != X.env.globals))=false:=by rw[I.ok.kind];rfl
 have F:i<σ.length:=by rw[I.len];exact(zA.mp hi).1
 have J:=I.cne;have g:∀{a:Addr} {h':Heap},(∃o,s.heap.get? a=some o/\H a=none)->Heap.SameBut a s.heap h'->HOk X.prog X.w H h':=λ{a h'} ha f b ob e=>by
  obtain⟨_,_,B⟩:=ha;refine(I.hok b ob e).stay (λc T t q=>(f.2 c ?_).trans q) .pt λ_ _ q=>q;rintro rfl;rcases t with rfl|t
  ·rw[B]at e;cases e
  ·rw[B]at t;cases t
 rcases w with D|D
 ·refine wpAny_storeName_local D hn (λh' a0 f=>?_) O
  obtain⟨oL,_,_,U,_⟩:=id hn;refine h _ ⟨I.ok,I.os,I.bare,⟨λb o e n L w=>?_,λb o e n L w=>?_,I.base.free,λb o e w=>?_,I.base.tups,I.base.frzs,I.base.tbls⟩,⟨_,a0,λj y Y l C e3=>?_⟩,λy c e=>?_,I.free,I.freeC,λp hp=>?_,g ⟨oL,U,I.free⟩ f,by simpa using I.len⟩ ⟨_,f,.inl rfl⟩
  ·exact (.sg).trans .Cv
  ·obtain⟨sl,l⟩:=I.base.slot b o e n L w
   exact⟨sl,(.sg).trans l⟩
  ·obtain⟨W,l⟩:=.qP w
   exact⟨W,(.sg).trans l⟩
  ·by_cases K:j=i
   ·subst K
    rw[hi]at l;cases l;rw[wJ F]at C;cases C;exact⟨u,r,.inl ⟨D,by simp⟩⟩
   ·rw[ZP (wh K)]at C
    obtain⟨u',Z,q⟩:=hl j y Y l C e3;refine⟨u',Z,?_⟩;rcases q with ⟨k,e⟩|⟨k,c,e,z⟩
    ·refine .inl ⟨k,?_⟩
     have:y≠x:=λe=>K (D9 hN l<|e▸hi);simp[this,e]
    ·exact .inr ⟨k,c,e,z.sameBut f (J y c e)⟩
  ·obtain⟨T,z⟩:=I.cell y c e
   exact⟨T,z.sameBut f (J y c e)⟩
  ·obtain⟨e,n,ne,nf,d⟩:=I.pin p hp
   exact⟨(f.2 p.1 ne).trans e,n,ne,nf,d⟩
 ·have G:X.fn x=true:=by
   rcases hf with z|z
   ·exact z
   ·rw[z]at D;cases D
  obtain⟨c,t⟩:=I.ok.has x (.inl D);obtain⟨T,z⟩:=.iy t;refine wpAny_storeName_cell I.ok.kind D t z (λh' N f=>?_);obtain⟨oc,P,R⟩:=id z;refine h .dB ⟨I.ok,I.os,I.bare,⟨λb o e n L w=>?_,λb o e n L w=>?_,I.base.free,λb o e w=>?_,I.base.tups,I.base.frzs,I.base.tbls⟩,⟨m,hn.sameBut f (wh<|J x c t),λj y Y l C e3=>?_⟩,λy S e=>?_,I.free,I.freeC,λp hp=>?_,g ⟨oc,P,I.freeC x c t⟩ f,by simpa using I.len⟩ ⟨c,f,.inr t⟩
  ·exact (.rY).trans .Cv
  ·obtain⟨sl,l⟩:=I.base.slot b o e n L w
   exact⟨sl,(.rY).trans l⟩
  ·obtain⟨W,l⟩:=.qP w
   exact⟨W,(.rY).trans l⟩
  ·by_cases K:j=i
   ·subst K
    rw[hi]at l;cases l;rw[wJ F]at C;cases C;exact⟨u,r,.inr ⟨.inl D,c,t,N⟩⟩
   ·rw[ZP (wh K)]at C
    obtain⟨u',Z,q⟩:=hl j y Y l C e3;refine⟨u',Z,?_⟩;rcases q with q|⟨k,S,e,z'⟩
    ·exact .inl q
    ·refine .inr ⟨k,S,e,z'.sameBut f ?_⟩
     rintro rfl;exact K (D9 hN l<|I.ok.inj _ _ _ e t▸hi)
  ·by_cases hcc:S=c
   ·subst hcc;exact⟨_,N⟩
   ·obtain⟨w2,z2⟩:=I.cell y S e
    exact⟨w2,z2.sameBut f hcc⟩
  ·obtain⟨e,n,ne,nf,d⟩:=I.pin p hp
   refine⟨(f.2 p.1 ?_).trans e,n,ne,nf,d⟩;intro q;rw[q,P]at e;have q':oc=p.2:=ZT e;exact d T (by rw[<-q'];exact R)
def xJ(I:.x)(b:.fR)(hi:.dN)(e:.fO)(r:cU v u)
  (h:∀a,Inv X pins .oI H a->Q () a) (c:X.fn x=true\/X.env.scope.names.lookup x=some .local:=by first|exact .inl rfl|exact .inr rfl|assumption):wpAny M A .D4 Q E s :=
 AK I b hi e r (λa d _=>h a d) c
def Inv.call'(I:.x)(h:a.os=s.os)(u:Un (frs X.stack) ch H H' s.heap a.heap)(hok:HOk X.prog X.w H' a.heap)(g:AllBare a.gens)
  (d:.vk):.bE H' a:=by
 obtain⟨h',g',d',t',f⟩:=a;have e:f=s.os:=h;subst e;exact I.call (g':=g') (t':=t') (d':=d') u hok g d
end
abbrev XK:=S1->Option Addr->Hp->Prop
abbrev St:=List (Option V)
abbrev VK:=V->Hp->Prop
abbrev TE:=St->Hp->VK->Prop
abbrev TT:=St->Hp->(Bool->Hp->Prop)->Prop
abbrev TA:=St->Hp->(List V->Hp->Prop)->Prop
structure Ea where
 nx:St->Hp->Prop
 rt:VK
 bk:St->Hp->Prop:=λ_ _=>False
 ct:St->Hp->Prop:=λ_ _=>False
abbrev TS:=Ea->St->Hp->Prop
/---/def EP(X:Cx)(pins:.N)(σ:St)(Q:VK)(u:S1)(s':P1):Prop:=∃v H',Inv X pins σ H' s'/\cU v u/\Q v H'
/---/def TP(X:Cx)(pins:.N)(σ:St)(Q:.ql)(b:Bool)(s':P1):Prop:=∃H',Inv X pins σ H' s'/\Q b H'
/---/def AP(X:Cx)(pins:.N)(σ:St)(Q:List V->Hp->Prop)(us:List S1)(s':P1):Prop:=∃vs H',Inv X pins σ H' s'/\bM vs us/\Q vs H'
/---/def SP(X:Cx)(pins:.N)(D:Ea)(f:Flow)(s':P1):Prop :=
 match f with
 |.next=>∃σ' H',Inv X pins σ' H' s'/\D.nx σ' H'
 |.brk=>∃σ' H',Inv X pins σ' H' s'/\D.bk σ' H'
 |.cont=>∃σ' H',Inv X pins σ' H' s'/\D.ct σ' H'
 |.ret u=>∃v σ' H',Inv X pins σ' H' s'/\cU v u/\D.rt v H'
/---/def PE(X:Cx)(e:Expr)(t:TE):Prop :=
 ∀(pins:.N) (s:P1) (σ:St) (H:Hp) (Q:VK),Inv X pins σ H s->t σ H Q->.aS .lI .cp X.xe s
/---/def PT(X:Cx)(e:Expr)(t:TT):Prop :=
 ∀(pins:.N) (s:P1) (σ:St) (H:Hp) (Q:.ql),Inv X pins σ H s->t σ H Q->.aS (isTrue e X.env .lI) .uq X.xe s
/---/def PW(X:Cx)(e:Expr)(t:TT):Prop :=
 ∀(whole:Sem S1) (pins:.N) (s:P1) (σ:St) (H:Hp) (Q:.ql),Inv X pins σ H s->t σ H Q->.aS (isTrue e X.env whole) .uq X.xe s
variable{e:Expr}
def PW.pt(h:PW X e t):PT X e t:=h _
/---/def PA(X:Cx)(es:.aO)(t:TA):Prop :=
 ∀(pos:Pos) (pins:.N) (s:P1) (σ:St) (H:Hp) (Q:List V->Hp->Prop),Inv X pins σ H s->t σ H Q->.aS (spliced .iM) (AP X pins σ Q) X.xe s
/---/def PS(X:Cx)(st:Stmt)(t:TS):Prop :=
 ∀(pins:.N) (s:P1) (σ:St) (H:Hp) (D:Ea),Inv X pins σ H s->t D σ H->.aS (exec st X.env) (SP X pins D) X.xe s
/---/def PSs(X:Cx)(st:.fS)(t:TS):Prop :=
 ∀(pins:.N) (s:P1) (σ:St) (H:Hp) (D:Ea),Inv X pins σ H s->t D σ H->.aS (execs st X.env) (SP X pins D) X.xe s
variable{s:P1}
def thn{Q b:α->P1->Prop}{M:Model}(h:wpAny M A t Q E s)(c:∀a s,Q a s->b a s):wpAny M A t b E s:=zXq h c λ_ _ x=>x
variable{pos:Pos}{Q:.R}{σ:St}{pins:.N}
section
variable{X:Cx}
/---/def XE(i:Nat):TE:=λσ H Q=>∃v,σ[i]?=some .fH/\Q v H
/---/def tC(v:V):TE:=λ_ H Q=>Q v H
def TK(j:.dN)(f:.qR x)(hd:.a4=false:=by decide)(b:.sr=false:=by decide):.D .e0 (XE i):=by
 intro pins s σ H Q I h;obtain⟨v,e,h⟩:=h;obtain⟨m,g,n⟩:=I.loc;obtain⟨u,r,l⟩:=n i x v j e f;have fin:.g3 u s:=⟨v,H,I,r,h⟩;rcases l with ⟨a,k⟩|⟨a,c,d,hcell⟩
 ·exact wpAny_Name (wpAny_loadName_local I.ok.kind a g k fin) hd
 ·rcases a with a|a
  ·exact wpAny_Name (wpAny_loadName_cell I.ok.kind a d hcell fin) hd
  ·exact wpAny_Name (wpAny_loadName_free I.ok.kind a d hcell fin b) hd
def Mz{i j pos}:.D (.gY .v) (tC .v):=λ_ _ _ H _ I h=>wpAny_Constant_int ⟨.int i,H,I.tok _,⟨_,rfl⟩,h⟩
def V4{b j pos}:.D (.gY<|.bool b) (tC .eP):=λ_ _ _ H _ I h=>Constant_bool ⟨.bl b,H,I,rfl,h⟩
def TL{j pos}:.D (.gY .none) (tC .non):=λ_ _ _ H _ I h=>Constant_none ⟨.non,H,I,rfl,h⟩
def B8{x j pos}:.D (.gY .ht) (tC .ht):=λ_ _ _ H _ I h=>Calls.Constant_str ⟨.str x,H,I.tok _,⟨_,rfl⟩,h⟩
/---/def Gl(X:Cx)(x:Str):Prop:=X.env.kindOf x=some .globalImplicit
def B9(I:.x)(a:.ab x)(hm:X.mg x=some u)(h:Q u s)
  (hd:.a4=false:=by decide):wpAny .aq X.A .B0 Q E s :=
 Calls.Name_function_global I.ok.kind a (Calls.loadGlobal_global .yU hm h) hd
def oT(I:.x)(d:.ab x)(hm:.kf)(a:bootBuiltins x=some u)(h:Q u s)
  (hn:x≠"__name__" := by decide) (hd:.a4=false:=by decide):.aS .B0 Q E s:=by
 obtain⟨e,b,c⟩:=I.mod.blt;exact Calls.Name_function_global I.ok.kind d (Calls.loadGlobal_builtin .yU hm (by rw[I.ok.blt];exact b.keeps I.bk) ((c x hn).trans a) h) hd
def pV(a:.ab x)(hm:X.mg x=some u)(r:cU v u)(hd:.a4=false:=by decide):PE X .e0 (tC v) :=
 λ_ _ _ H _ I h=>B9 I a hm ⟨v,H,I,r,h⟩ hd
def QA(b:.ab x)(hm:.kf)(a:bootBuiltins x=some u)(r:cU v u)(hn:x≠"__name__" := by decide)(hd:.a4=false:=by decide):PE X .e0 (tC v) :=
 λ_ _ _ H _ I h=>oT I b hm a ⟨v,H,I,r,h⟩ hn hd
variable{a b:Expr}{ta tb:TE}{pos:Pos}
/---/def tB(t:TE):TT:=λσ H Q=>t σ H λx H1=>∃c,x=.bl c/\Q c H1
def TM(h:.D e t)(he:∀c,isTrue e X.env c=(do let v <-c;standAt e.pos;holding [v] (truthy v)):=by intro _;rfl):PT X e (tB t):=by
 intro pins s σ H Q I j;refine isTrue_plain (thn (.dq _ I j) λv k ⟨x,i,g,f,q1⟩=>?_) (he _);obtain⟨d,rfl,q⟩:=q1;cases f;exact zZf ⟨i,g,q⟩
variable{tA tB':TT}{rest:.aO}
/---/def iy(t u:TT):TT:=λσ H Q=>t σ H λc H1=>if c=true then u σ H1 Q else Q false H1
/---/def tOr(t u:TT):TT:=λσ H Q=>t σ H λc H1=>if c=true then Q true H1 else u σ H1 Q
/---/def dZ(t:TT):TT:=λσ H Q=>t σ H λc H1=>Q (!c) H1
def QB(d:PT X a tA):PW X (.v1 [a]) tA:=by
 intro g pins s σ H Q I h;refine isTrue_and (thn (d pins s σ H Q I h) λc f e=>?_);cases c with
 |true=>exact isTrue_and_nil e
 |false=>exact e
def TN(d:PT X a tA):PW X (.ie .Or [a]) tA:=by
 intro g pins s σ H Q I h;refine isTrue_or (thn (d pins s σ H Q I h) λc f e=>?_);cases c with
 |false=>exact isTrue_or_nil e
 |true=>exact e
def TQ(j:PT X a tA)(g:PW X .qG tB'):PW X .qH (iy tA tB'):=by
 intro i pins s σ H Q I h;refine isTrue_and (thn .i5 λc f ⟨e,d,q1⟩=>?_);cases c with
 |true=>exact g i pins f σ e Q d q1
 |false=>exact⟨e,d,q1⟩
def V5(j:PT X a tA)(g:PW X .qw tB'):PW X .qx (tOr tA tB'):=by
 intro i pins s σ H Q I h;refine isTrue_or (thn .i5 λc f ⟨e,d,q1⟩=>?_);cases c with
 |true=>exact⟨e,d,q1⟩
 |false=>exact g i pins f σ e Q d q1
def TR(e:PT X a tA):PT X .qt (dZ tA):=by
 intro pins s σ H Q I h;exact isTrue_not (e pins s σ H (λc d=>Q (!c) d) I h)
/---/def V6(ta tb:TE):TE:=λσ H Q=>ta σ H λx H1=>∃c,x=.bl c/\if c=true then tb σ H1 Q else Q .rR H1
/---/def XF(ta tb:TE):TE:=λσ H Q=>ta σ H λx H1=>∃c,x=.bl c/\if c=true then Q .dz H1 else tb σ H1 Q
/---/def V7(ta:TE):TE:=λσ H Q=>ta σ H λx H1=>∃c,x=.bl c/\Q (.bl<|!c) H1
def TU(h:.D a t):.D (.ie op [a]) t:=λpins s σ H Q I c=>BoolOp_one (.dq Q I c)
def TV(j:.el)(i:.D .qG tb):.D .qH (V6 ta tb):=by
 intro pins s σ H Q I h;refine BoolOp_and (thn .i5 λv f ⟨x,e,d,g,q1⟩=>?_);obtain⟨c,rfl,q1⟩:=q1;cases g;refine zZf ?_;cases c with
 |true=>exact i pins f σ e Q d q1
 |false=>exact⟨.bl false,e,d,rfl,q1⟩
def V8(j:.el)(i:.D .qw tb):.D .qx (XF ta tb):=by
 intro pins s σ H Q I h;refine BoolOp_or (thn .i5 λv f ⟨x,e,d,g,q1⟩=>?_);obtain⟨c,rfl,q1⟩:=q1;cases g;refine zZf ?_;cases c with
 |false=>exact i pins f σ e Q d q1
 |true=>exact⟨.bl true,e,d,rfl,q1⟩
def TW(g:.el):.D .qt (V7 ta):=by
 intro pins s σ H Q I h;refine UnaryOp_ (thn (g pins s σ H _ I h) λv i ⟨x,f,e,d,q1⟩=>?_);obtain⟨c,rfl,q1⟩:=q1;cases d;exact not_of (zZf ⟨.bl (!c),f,e,rfl,q1⟩)
/---/def tIf(t:TT)(ta tb:TE):TE:=λσ H Q=>t σ H λc H1=>if c=true then ta σ H1 Q else tb σ H1 Q
def MC(j:PT X c tA)(k:.el)(i:.ic):.D (.IfExp c a b pos) (tIf tA ta tb):=by
 intro pins s σ H Q I h;refine wpAny_IfExp (thn .i5 λd e ⟨g,f,q1⟩=>?_);cases d with
 |true=>exact k pins e σ g Q f q1
 |false=>exact i pins e σ g Q f q1
end
/---/def SqL(K:ZX)(H:Hp)(a:Addr)(xs:List V):Prop :=
 Rd H a .cM\/
  ∃(o:Obj) (its:.bL) (n:Nat),K.lookup a=some o/\o.cls=.type "list"/\o.dict=none/\o.data=.seq its n/\its.size<=sizeLine/\bM xs its.toList
/---/def SqT(K:ZX)(H:Hp)(a:Addr)(xs:List V):Prop :=
 Rd H a .dc\/
  ∃(o:Obj) (its:.bL) (n:Nat),K.lookup a=some o/\o.cls=.type "tuple"/\o.data=.seq its n/\its.size<=sizeLine/\bM xs its.toList
def XG:S1->Option V
 |.none=>some .non
 |.bool b=>some (.bl b)
 |.int i _=>some .cS
 |.str x _=>some (.str x)
 |.bytes b _=>some (.byt b)
 |.float b _=>some (.flt b)
 |.ref a=>some (.ref a)
 |.type n=>some (.ty n)
 |_=>none
def cU.abs{x:V}(r:cU x u):XG u=some x:=by
 cases x with
 |non=>cases r;rfl
 |bl _=>cases r;rfl
 |int _=>obtain⟨t,rfl⟩:=r;rfl
 |str _=>obtain⟨t,rfl⟩:=r;rfl
 |byt _=>obtain⟨t,rfl⟩:=r;rfl
 |flt _=>obtain⟨t,rfl⟩:=r;rfl
 |ref _=>cases r;rfl
 |ty _=>cases r;rfl
def cU.inj{x y:V}(r:cU x u)(q:cU y u):x=y:=ZT (r.abs.symm.trans q.abs)
theorem bM.inj:∀{xs ys:List V} {us:List S1},bM xs us->bM ys us->xs=ys
 |_,_,_,.nil,.nil=>rfl
 |_,_,_,.cons r t,.cons a t'=>by rw[r.inj a,bM.inj t t']
variable{K:ZX}
section
variable{X:Cx}{pins:.N}{σ:St}{H:Hp}{s:P1}{a:Addr}{xs ys:List V}
def SqL.of(h:H a=some .cM):SqL K H a xs:=.inl (.inl h)
def SqT.of(h:H a=some .dc):SqT K H a xs:=.inl (.inl h)
def Inv.list(I:.x)(h:SqL X.K H a xs):∃b:List S1,bM xs b/\PlainL s.heap a b.toArray/\xs.length<=sizeLine:=by
 rcases h with h|⟨o,b,n,c,g,d,f,i,r⟩
 ·obtain⟨z,b,n,r,e⟩:=h.ok I.hok
  exact⟨b,r,⟨_,n,e,rfl,rfl,rfl⟩,z⟩
 ·refine⟨b.toList,r,⟨o,n,I.kIn a o c,g,d,by simpa using f⟩,?_⟩
  have e:=r.length;dsimp[Array.length_toList]at e;omega
def Inv.tuple(I:.x)(h:SqT X.K H a xs):∃b:List S1,bM xs b/\IsTup s.heap a b.toArray/\xs.length<=sizeLine:=by
 rcases h with h|⟨o,b,n,c,d,f,g,r⟩
 ·obtain⟨z,b,r,p⟩:=h.ok I.hok
  exact⟨b,r,p,z⟩
 ·refine⟨b.toList,r,⟨o,I.kIn a o c,d,n,by simpa using f⟩,?_⟩
  have e:=r.length;dsimp[Array.length_toList]at e;omega
def Inv.list_inj(I:.x)(h:SqL X.K H a xs)(h':SqL X.K H a ys):xs=ys:=by
 obtain⟨c,r,⟨o,n,e,_,_,d⟩,_⟩:=I.list h;obtain⟨b,j,⟨k,l,f,_,_,g⟩,_⟩:=I.list h';rw[e]at f;cases f;rw[d]at g;injection g with i _
 have:c=b:=by simpa using congrArg Array.toList i
 subst this;exact r.inj j
def Inv.tuple_inj(I:.x)(h:SqT X.K H a xs)(h':SqT X.K H a ys):xs=ys:=by
 obtain⟨c,r,⟨o,e,_,n,d⟩,_⟩:=I.tuple h;obtain⟨b,j,⟨k,f,_,l,g⟩,_⟩:=I.tuple h';rw[e]at f;cases f;rw[d]at g;injection g with i _
 have:c=b:=by simpa using congrArg Array.toList i
 subst this;exact r.inj j
end
abbrev Cx.wish(X:Cx)(E:.R):Cx:={ X with xe:=E }
abbrev Cx.nox(X:Cx):Cx:=X.wish λ_ _=>False
def Cx.Ok.wish{X:Cx}(ok:X.Ok)(E:.R):(.mb).Ok :=
 ⟨ok.mod,ok.kind,ok.glob,ok.blt,ok.above,ok.inj,ok.has,ok.cab,ok.hd,ok.frames,ok.stk,ok.exf,ok.bs,ok.bsz,ok.noex,ok.exfs,ok.funs,ok.frf⟩
def Cx.Ok.unwish{X:Cx}(ok:(.mb).Ok):X.Ok :=
 ⟨ok.mod,ok.kind,ok.glob,ok.blt,ok.above,ok.inj,ok.has,ok.cab,ok.hd,ok.frames,ok.stk,ok.exf,ok.bs,ok.bsz,ok.noex,ok.exfs,ok.funs,ok.frf⟩
section
variable{X:Cx}{pins:.N}{σ:St}{H:Hp}{s:P1}{E:.R}
def Inv.wish(I:.x)(E:.R):Inv .mb pins σ H s:=⟨I.ok.wish E,I.os,I.bare,I.base,I.loc,I.cell,I.free,I.freeC,I.pin,I.hok,I.len⟩
def Inv.unwish(I:Inv .mb pins σ H s):.bE H s:=⟨I.ok.unwish,I.os,I.bare,I.base,I.loc,I.cell,I.free,I.freeC,I.pin,I.hok,I.len⟩
def SP.unwish{D:Ea}{b:P1}(h:SP .mb pins D f b):SP X pins D f b:=by
 cases f with
 |next=>obtain⟨σ',a,I,q⟩:=h;exact⟨σ',a,I.unwish,q⟩
 |brk=>obtain⟨σ',a,I,q⟩:=h;exact⟨σ',a,I.unwish,q⟩
 |cont=>obtain⟨σ',a,I,q⟩:=h;exact⟨σ',a,I.unwish,q⟩
 |ret u=>obtain⟨v,σ',a,I,r,q⟩:=h;exact⟨v,σ',a,I.unwish,r,q⟩
def PSs.nox{st:.fS}(h:PSs X.nox st t):PSs X st t:=λpins s σ H D I a =>
 zXq (.dq D (I.wish _) a) (λ_ _ q=>q.unwish) λ_ _ z=>False.elim z
end
section
variable{X:Cx}{st:Stmt}{rest:.fS}{t u:TS}{e:Expr}{te:TE}{pos:Pos}
/---/def V9:TS:=λD σ H=>D.nx σ H
/---/def XH(t u:TS):TS:=λD σ H=>t { D with nx:=u D } σ H
def QC:PSs X [] V9:=λ_ _ σ H _ I h=>wpAny_execs_nil ⟨σ,H,I,h⟩
def MD(h1:PS X st t)(d:PSs X rest u):PSs X (st::rest) (XH t u):=by
 intro pins s σ H D I h;refine wpAny_execs_cons (thn (h1 pins s σ H { D with nx:=u D } I h) λf a q=>?_);cases f with
 |next =>
  obtain⟨σ',b,c,q⟩:=q;exact d pins a σ' b D c q
 |ret v=>exact q
 |brk=>exact q
 |cont=>exact q
def QD(h1:PS X st t):PSs X [st] t:=by
 intro pins s σ H D I h;refine wpAny_execs_cons (thn (h1 pins s σ H D I h) λf a q=>?_);cases f with
 |next=>exact wpAny_execs_nil q
 |ret v=>exact q
 |brk=>exact q
 |cont=>exact q
/---/def TX:TS:=λD σ H=>D.bk σ H
def MH:PS X (.Break pos) TX:=λ_ _ σ H _ I h=>wpAny_Break ⟨σ,H,I,h⟩
def Inv.quiet(I:.x):interactive X.env=false:=by simp[interactive,I.ok.kind]
/---/def Wa(te:TE):TS:=λD σ H=>te σ H λ_ H1=>D.nx σ H1
def QE(he:.D e te)(c:swapsWith e none pos.line X.env=pure false:=by rfl):PS X (.Expr e pos) (Wa te):=by
 intro pins s σ H D I h;exact wpAny_Expr_any (thn .eD λv d ⟨x,b,a,f,q1⟩=>⟨σ,b,a,q1⟩) I.quiet c
/---/def XI(te:TE):TS:=λD σ H=>te σ H D.rt
def TY(he:.D e te):PS X (.Return (some e) pos) (XI te):=by
 intro pins s σ H D I h;exact wpAny_Return_some (thn .eD λv d ⟨x,c,b,a,q1⟩=>⟨x,σ,c,b,a,q1⟩)
/---/def XJ(c:TT)(t u:TS):TS:=λD σ H=>c σ H λb H1=>if b=true then t D σ H1 else u D σ H1
def Wb{a b:.fS}(l:PT X c j)(m:PSs X a t)(k:PSs X b u):PS X (.If c a b pos) (XJ j t u):=by
 intro pins s σ H D I h;refine wpAny_If (thn (l pins s σ H _ I h) λd f ⟨i,g,q1⟩=>?_);cases d with
 |true=>exact m pins f σ i D g q1
 |false=>exact k pins f σ i D g q1
/---/def TZ:TS:=λ_ _ _=>False
def MK:PS X st TZ:=λ_ _ _ _ _ _ h=>h.elim
end
abbrev TG:=V->St->Hp->(St->Hp->Prop)->Prop
abbrev TGs:=List V->St->Hp->(St->Hp->Prop)->Prop
/---/def PG(X:Cx)(target:Expr)(t:TG):Prop :=
 ∀(pins:.N) (s:P1) (σ:St) (H:Hp) (v:V) (u:S1) (Q:St->Hp->Prop),Inv X pins σ H s->cU v u->t v σ H Q->
  wpAny .aq X.A (assign target X.env u) (λ_ s'=>∃σ' H',Inv X pins σ' H' s'/\Q σ' H') X.xe s
/---/def PGs(X:Cx)(ts:.aO)(t:TGs):Prop :=
 ∀(pins:.N) (s:P1) (σ:St) (H:Hp) (vs:List V) (us:List S1) (Q:St->Hp->Prop),Inv X pins σ H s->bM vs us->t vs σ H Q->
  wpAny .aq X.A (assignInOrder ((assignEach ts X.env).map (·.2)) us) (λ_ s'=>∃σ' H',Inv X pins σ' H' s'/\Q σ' H') X.xe s
abbrev T0:=V->V->V->Hp->(Hp->Prop)->Prop
/---/def T3(X:Cx)(t:T0):Prop :=
 ∀(pins:.N) (s:P1) (σ:St) (H:Hp) (o i v:V) (ov iv u:S1) (Q:Hp->Prop),Inv X pins σ H s->cU o ov->cU i iv->cU v u->t o i v H Q->
  wpAny .aq X.A (setItem ov iv u) (λ_ s'=>∃H',Inv X pins σ H' s'/\Q H') X.xe s
abbrev TIp:=V->V->Hp->VK->Prop
/---/def PIp(X:Cx)(op:Operator)(t:TIp):Prop :=
 ∀(pins:.N) (s:P1) (σ:St) (H:Hp) (x y:V) (v u:S1) (Q:VK),Inv X pins σ H s->cU x v->cU y u->t x y H Q->
  wpAny .aq X.A (inplaceOp op v u) .cp X.xe s
section
variable{X:Cx}{pos:Pos}
/---/def S8(i:Nat):TG:=λv σ H Q=>Q .oI H
def QF(a:.fR)(hi:.dN)(d:.fO)(b:X.fn x=true\/X.env.scope.names.lookup x=some .local:=by first|exact .inl rfl|exact .inr rfl|assumption):PG X .e0 (S8 i):=by
 intro pins s σ H v u Q I r h;exact wpAny_assign_Name (xJ I a hi d r (λe c=>⟨_,H,c,h⟩) b)
/---/def XL:TGs:=λvs σ H Q=>vs=[]/\Q σ H
/---/def Wc(t:TG)(u:TGs):TGs:=λvs σ H Q=>∃v r,vs=v::r/\t v σ H λσ' H'=>u r σ' H' Q
def QG:PGs X [] XL:=by
 intro pins s σ H a b Q I r h;obtain⟨e,h⟩:=h;subst e;cases r;exact assignInOrder_nil ⟨σ,H,I,h⟩
def ML{u:TGs}(h1:PG X e t)(j:PGs X a u)
  (k:(.Cr).map (·.2)=assign e X.env::(.od).map (·.2):=by rfl):PGs X (e::a) (Wc t u):=by
 intro pins s σ H l m Q I r h;obtain⟨v,n,g,h⟩:=h;subst g;cases r with
 |cons r d =>
  rw[k];refine assignInOrder_cons (thn (h1 pins s σ H _ _ _ I r h) λ_ c ⟨b,i,f,q1⟩=>?_);exact j pins c b i _ _ Q f d q1
/---/def XO(K:ZX)(n:Nat)(t:TGs):TG:=λv σ H Q=>∃a xs,v=.ref a/\SqT K H a xs/\xs.length=n/\t xs σ H Q
def T4{k:Nat}(j:.br)(h:PGs X c t)
  (hn:(assignEach c X.env).length=n:=by rfl) (f:(assignEach c X.env).findIdx? (·.1)=none:=by rfl):PG X (.kr c) (XO X.K n t):=by
 intro pins s σ H v u Q I r d;obtain⟨a,z,i,x,w,d⟩:=d;subst i;cases r;obtain⟨l,g,q,A⟩:=I.tuple x;refine assign_Tuple_tuple (I.ok.hd j) q (by simp[hn,<-w,g.length]) f λp m=>?_;have y:Inv X pins σ H { s with heap:=p }:=I.kept (t':=s.toks) λb o e=>m b o (ZN<|ZI e) e;exact h pins _ σ H z _ Q y .nf d
/---/def XR(to ti:TE)(t:T0):TG:=λv σ H Q=>to σ H λo H1=>ti σ H1 λi H2=>t o i v H2 λH3=>Q σ H3
def MM(f:.D o to)(hi:.D i ti)(l:T3 X t)
  (p:∀v,assign (.dk o i) X.env v=(do
   let ov <-holding [v] .c8
   let a <-holding [v,ov] .uQ
   standAt pos
   holding [v,ov,a] (setItem ov a v)
   release [v,ov,a] []):=by intro _;rfl):PG X (.dk o i) (XR to ti t):=by
 intro pins s σ H v u Q I r h;rw[p];refine zD (vr (thn (f pins s σ H _ I h) λov m ⟨x,j,n,b,q1⟩=>?_));refine zD (vr (thn (hi pins m σ j _ n q1) λa k ⟨y,d,q,g,q2⟩=>?_));refine zD (wpAny_standAt (zD (vr (thn (l pins k σ d x y v ov a u _ q b g r q2) λ_ w ⟨e,c,q3⟩=>?_))));exact wpAny_release ⟨σ,e,c,q3⟩
/---/def Wd(te:TE)(g:TG):TS:=λD σ H=>te σ H λx H1=>g x σ H1 D.nx
def GR(he:.D e a)(j:PG X tg g)(k:swapsWithSole [tg] e pos.line X.env=pure false:=by rfl)(i:swappedStores [tg] e X.env=pure none:=by rfl)
  (h1:(.Df).map (·.2)=[assign tg X.env]:=by rfl):PS X (.g1 [tg]) (Wd a g):=by
 intro pins s σ H D I h;refine wpAny_Assign_stores (thn .eD λv b ⟨x,f,d,c,q1⟩=>?_) k i;rw[h1];exact thn (j pins b σ f x v _ d c q1) λ_ l q=>q
def T5(j:.fR)(hi:.dN)(d:.fO)(he:.D e a)(f:.v5 X.env=pure false:=by rfl)(k:X.fn x=true\/X.env.scope.names.lookup x=some .local:=by first|exact .inl rfl|exact .inr rfl|assumption):
  PS X (.g1 .oN) (Wd a<|S8 i):=by
 intro pins s σ H D I h;refine wpAny_Assign_Name (thn .eD λv n ⟨y,c,g,b,q1⟩=>?_) f;exact xJ g j hi d b (λm l=>⟨_,c,l,q1⟩) k
/---/def XU(i:Nat)(te:TE)(ti:TIp):TS:=λD σ H=>∃x,σ[i]?=some .fJ/\te σ H λy H1=>ti x y H1 λz H2=>D.nx .tD H2
def T6(L:.fR)(hi:.dN)(f:.fO)(he:.D e n)(t:PIp X op ti)(M:X.fn x=true\/X.env.scope.names.lookup x=some .local:=by first|exact .inl rfl|exact .inr rfl|assumption):
  PS X (.AugAssign (.Name x pos') op e pos) (XU i n ti):=by
 intro pins s σ H D I h;obtain⟨v,B,h⟩:=h;obtain⟨m,K,F⟩:=I.loc;have g:.qR x:=by rcases f with k|k;exact .inl k;exact .inr (.inl k)
 obtain⟨u,r,l⟩:=F i x v hi B g;refine wpAny_AugAssign_Name ?_;have j:.aS .lI (λw d=>.aS (inplaceOp op u w) (λr b=>.aS (storeName X.env x r) (λ_=>SP X pins D .next) X.xe b) X.xe d) X.xe s:=by
  refine thn .eD λw G ⟨y,E,J,o,q1⟩=>?_;refine thn (t pins G σ E v y u w _ J r o q1) λz Q ⟨R,q,O,A,q2⟩=>?_;exact xJ O L hi f A (λP p=>⟨_,q,p,q2⟩) M
 rcases l with ⟨a,N⟩|⟨a,c,C,hcell⟩
 ·exact wpAny_loadName_local I.ok.kind a K N j
 ·rcases a with a|a
  ·exact wpAny_loadName_cell I.ok.kind a C hcell j
  ·rcases f with k|k
   ·have:X.env.scope.names.lookup x=some .free:=a
    rw[k]at this;cases this
   ·have:X.env.scope.names.lookup x=some .free:=a
    rw[k]at this;cases this
end
section
variable{X:Cx}{pos:Pos}
/---/def T7(c:TT)(tb:TS):TS:=λD σ H=>∃W:Nat->St->Hp->Prop,(∃m,W m σ H)/\∀m σ H,W m σ H->
 c σ H λb H1=>if b=true then ∃N:St->Hp->Prop,(∀σ' H',N σ' H'->∃m',m'<m/\W m' σ' H')/\tb .AL σ H1 else D.nx σ H1
def MN{tb:TS}(hp:.mq)(x:PT X c t)(u:PSs X body tb):PS X (.While c body [] pos) (T7 t tb):=by
 intro pins s σ H D I h;obtain⟨W,⟨z,w⟩,turn⟩:=h;refine wpAny_While (codeAny_whileLoop (λn E=>∃σ' p,Inv X pins σ' p E/\W n σ' p) ?_ z ⟨σ,H,I,w⟩);rintro n A ⟨d,o,B,C⟩;refine zZv hp (thn (x pins A d o _ B<|turn n d o C) λb y ⟨m,r,q2⟩=>?_);cases b with
 |true =>
  obtain⟨N,q,q2⟩:=q2;rw[zE rfl];refine zZv hp (thn (u pins y d m _ r q2) λf F q3=>?_);cases f with
  |next =>
   obtain⟨a,e,i,k⟩:=q3;obtain⟨j,l,g⟩:=q a e k;exact⟨j,l,a,e,i,g⟩
  |cont =>
   obtain⟨a,e,i,k⟩:=q3;obtain⟨j,l,g⟩:=q a e k;exact⟨j,l,a,e,i,g⟩
  |brk=>exact q3
  |ret v=>exact q3
 |false =>
  rw[zF Z4];exact wpAny_execs_nil ⟨d,m,r,q2⟩
end
structure It where
 go:Nat->Hp->Prop
 yld:Nat->Hp->V->Hp->Prop
 stop:Nat->Hp->Prop
/---/def xK(X:Cx)(pins:.N)(H:Hp)(b:Addr):Prop :=
 H b=none/\b≠X.env.locals/\b∉X.fs/\.wx/\(∀x c,X.env.cells.lookup x=some c->c≠b)/\∀p∈X.pn++pins,p.1≠b
def Inv.fpOk(I:.x)(a:s.heap.objs.size<=b)(hn:d b=none):xK X pins d b:=by
 refine⟨hn,Z9 (ZY I.lt a),I.nofs a,.inr (ZM I.sz a),λx c e z=>?_,λp f z=>?_⟩
 ·obtain⟨v,q⟩:=.iy e
  exact absurd (ZY q.lt (by rw[z];exact a)) (Z8 _)
 ·exact absurd (ZY (ZI (I.pin p f).1) (by rw[z];exact a)) (Z8 _)
structure Eb(P:N3)(w:N6)(K:ZX)(tg:Expr)(J:It)(fp:.U)(it:Addr)(tn:Nat->Heap->Prop):Prop where
 mem:it∈fp
 obj:∀i h,tn i h->∀b∈fp,∃o,h.get? b=some o/\∀v,o.data ≠ .cell v
 keep:∀i h h',tn i h->(∀b∈fp,∀o,h.get? b=some o->h'.get? b=some o)->tn i h'
 item:∀(X:Cx),X.prog=P->X.w=w->X.K=K->X.calm=true->∀(i:Nat) (pins:.N) (s:P1) (σ:St) (H:Hp) (E:.R),Inv X pins σ H s->(∀b∈fp,xK X pins H b)->tn i s.heap->J.go i H->
  wpAny .gu X.A (pyNext .fG) (λr s1=>∃u,r=some u/\
   wpAny .gu X.A .BH (λ_ s2=>∃x H',Inv X pins σ H' s2/\cU x u/\J.yld i H x H'/\tn (i+1) s2.heap/\∀b∈fp,H' b=none) E s1) E s
 done:∀(X:Cx),X.prog=P->X.w=w->X.K=K->X.calm=true->∀(i:Nat) (pins:.N) (s:P1) (σ:St) (H:Hp) (E:.R),Inv X pins σ H s->(∀b∈fp,xK X pins H b)->tn i s.heap->J.stop i H->
  wpAny .gu X.A (pyNext .fG) (λr s1=>r=none/\.bE H s1) E s
 self:∀(A:P2) (i:Nat) (s:P1) (Q:.R) (E:.R),tn i s.heap->Q .fG s->wpAny .gu A (pyIter .fG) Q E s
abbrev TI:=St->Hp->(It->Hp->Prop)->Prop
/---/def PIE(X:Cx)(pins:.N)(σ:St)(tg:Expr)(R:.mC)(itv:S1)(s2:P1):Prop :=
 ∃(it:Addr) (fp:.U) (tn:Nat->Heap->Prop) (J:It) (H':Hp),itv=.ref it/\Inv X pins σ H' s2/\Eb X.prog X.w X.K tg J fp it tn/\tn 0 s2.heap/\(∀b∈fp,xK X pins H' b)/\R J H'
/---/def PI(X:Cx)(tg iter:Expr)(wi:TI):Prop :=
 ∀(pins:.N) (s:P1) (σ:St) (H:Hp) (R:.mC),Inv X pins σ H s->wi σ H R->
  wpAny .aq X.A (eval iter X.env) (λv s1=>.aS (pyIter v) (PIE X pins σ tg R) X.xe s1) X.xe s
def Jc{Q:Unit->P1->Prop}(b:s.heap.get? it=some o)(c:o.cls=.type n)(hd:o.data=.fields vs)
  (hn:["enumerate","zip","dict_itemiterator","dict_reverseitemiterator","odict_iterator","itertools.zip_longest","itertools.pairwise"].contains n=false) (a:Q () s):wpAny M A .BH Q E s:=by
 unfold letOwnedTupleGo;cases tg<;>first
  |exact x3 a
  | (cases u<;>first
    |exact x3 a
    | (refine zD (wpAny_load b ?_)
       rw[c,hd];show wpAny M A (if (["enumerate","zip","dict_itemiterator","dict_reverseitemiterator","odict_iterator","itertools.zip_longest","itertools.pairwise"].contains n&&vs[0]? == some (rawInt _))=true then _ else _) Q E s;rw[zF (by intro h;rw[hn,Bool.false_and]at h;cases h)];exact x3 a))
/---/def Itl(K:ZX)(a:Addr):It :=
 ⟨λi H=>∃xs x,SqL K H a xs/\xs[i]?=some x,λi H x H'=>H'=H/\∀xs,SqL K H a xs->xs[i]?=some x,λi H=>∃xs,SqL K H a xs/\xs.length<=i⟩
/---/def Itt(K:ZX)(a:Addr):It :=
 ⟨λi H=>∃xs x,SqT K H a xs/\xs[i]?=some x,λi H x H'=>H'=H/\∀xs,SqT K H a xs->xs[i]?=some x,λi H=>∃xs,SqT K H a xs/\xs.length<=i⟩
/---/def Itr(lo:Int)(n:Nat):It:=⟨λi _=>i<n,λi H x H'=>H'=H/\x=.int (lo+i),λi _=>n<=i⟩
theorem Kx(a it:Addr):Eb P w K tg (Itl K a) [it] it (λi h=>h.IsListIter it a i) where
 mem:=by simp
 obj:=λi h f b g=>by
  have e:b=it:=by simpa using g
  subst e;obtain⟨o,e,c,d⟩:=f;exact⟨o,e,λv z=>by rw[d]at z;cases z⟩
 keep:=λi h l f k=>f.at λo e=>k it .f o e
 item:=by
  intro X A F r M i pins s σ H E I n f y;subst A F r;obtain⟨V,x,m,t⟩:=y;obtain⟨D,C,p,O⟩:=I.list m;obtain⟨u,S,N⟩:=C.get t;obtain⟨L,J,Q,G,q,B⟩:=n it .f;refine wpAny_pyNext_list_item f p.isList (x:=u) (by simpa using S) λl j T=>?_;have U:Inv X pins σ H { s with heap:=l }:=I.turned (t':=s.toks) .A0 L J G q B;obtain⟨o,e,c,d⟩:=id j;exact⟨u,rfl,Jc (s:={ s with heap:=l }) e c d .a ⟨x,H,U,N,⟨rfl,λY W=>by rw[I.list_inj W m];exact t⟩,j,λb g=>(n b g).1⟩⟩
 done:=by
  intro X A F r M i pins s σ H E I n f y;subst A F r;obtain⟨V,m,t⟩:=y;obtain⟨D,C,p,O⟩:=I.list m;obtain⟨L,J,Q,G,q,B⟩:=n it .f;have Z:=C.length;exact wpAny_pyNext_list_end (I.ok.hd M) f p.isList .X λl R=>⟨rfl,I.turned (t':=s.toks) .Dr L J G q B⟩
 self:=λ_ _ _ _ _ f h=>wpAny_pyIter_listiter f h
theorem GS(a it:Addr):Eb P w K tg (Itt K a) [it] it (λi h=>h.IsTupleIter it a i) where
 mem:=by simp
 obj:=λi h f b g=>by
  have e:b=it:=by simpa using g
  subst e;obtain⟨o,e,c,d⟩:=f;exact⟨o,e,λv z=>by rw[d]at z;cases z⟩
 keep:=λi h m f k=>f.at λo e=>k it .f o e
 item:=by
  intro X B F t M i pins s σ H E I q f A;subst B F t;obtain⟨V,x,n,y⟩:=A;obtain⟨j,D,p,O⟩:=I.tuple n;obtain⟨u,S,N⟩:=D.get y;obtain⟨L,J,Q,G,r,C⟩:=q it .f;refine wpAny_pyNext_tuple_item f (show s.heap.IsTuple a j.toArray from p) (x:=u) (by simpa using S) λm l T=>?_;have U:Inv X pins σ H { s with heap:=m }:=I.turned (t':=s.toks) .A0 L J G r C;obtain⟨o,e,c,d⟩:=id l;exact⟨u,rfl,Jc (s:={ s with heap:=m }) e c d .a ⟨x,H,U,N,⟨rfl,λY W=>by rw[I.tuple_inj W n];exact y⟩,l,λb g=>(q b g).1⟩⟩
 done:=by
  intro X B F t M i pins s σ H E I q f A;subst B F t;obtain⟨V,n,y⟩:=A;obtain⟨j,D,p,O⟩:=I.tuple n;obtain⟨L,J,Q,G,r,C⟩:=q it .f;have Z:=D.length;exact wpAny_pyNext_tuple_end (I.ok.hd M) f (show s.heap.IsTuple a j.toArray from p) .X λm R=>⟨rfl,I.turned (t':=s.toks) .Dr L J G r C⟩
 self:=λ_ _ _ _ _ f h=>wpAny_pyIter_tupleiter f h
theorem GT(it:Addr)(lo:Int)(n:Nat):Eb P w K tg (Itr lo n) [it] it (λi h=>IsRangeIter h it (lo+(i:Nat)*1) ((n:Int)-(i:Nat)) 1) where
 mem:=by simp
 obj:=λi h a b c=>by
  have e:b=it:=by simpa using c
  subst e;exact⟨_,a,λv z=>by
   have J:Data.fields _=Data.cell v:=z;cases J⟩
 keep:=λi h f a k=>k it .f _ a
 item:=by
  intro X r p l m i pins s σ H E I g a q;subst r p l;obtain⟨A,x,F,u,j,y⟩:=g it .f;have W:=Walks.range (prog:=X.prog) (w:=X.w) (I.ok.hd m) it lo 1 n;refine W.item i s _ _ q a λv f B C d D=>?_;obtain⟨t,rfl⟩:=C;have L:.bE H .BW:=I.turned (λb o c e=>D b o .tT e) A x u j y;refine⟨_,rfl,Jc (s:=.BW) (n := "range_iterator") d rfl rfl .a ⟨.int (lo+i),H,L,⟨t,?_⟩,⟨rfl,rfl⟩,d,λb c=>(g b c).1⟩⟩;rw[Int.mul_one]
 done:=by
  intro X r p l m i pins s σ H E I g a q;subst r p l;obtain⟨A,x,F,u,j,y⟩:=g it .f;exact wpAny_pyNext_range_end (I.ok.hd m) a (by have:n<=i:=q;omega) λf G=>⟨rfl,I.turned (t':=s.toks) (λb o c e=>G b o c e) A x u j y⟩
 self:=λ_ _ _ _ _ a h=>wpAny_pyIter_rangeiter a h
section
variable{X:Cx}{tg:Expr}
def Ec{lo hi:Int}{t u v:Tok}{tk:Nat}(I:.x)(h1 : -(2^62)<=lo)(g:lo<2^62)(f : -(2^62)<=hi)(i:hi<2^62)
  (q:R (Itr lo (hi-lo).toNat) H):.aS (pyIter .hy) (PIE X pins σ tg R) E .wv:=by
 refine wpAny_pyIter_range (IsRange.new ..) (small_one h1 g f i) ?_;have a:.bE H .wv:=I.kept λb o e=>.aa e;refine⟨(.q7).objs.size,[(.q7).objs.size],_,_,H,rfl,
  a.kept (t':=tk) λb o e=>.aa e,GT _ lo (hi-lo).toNat,?_,λb c=>?_,q⟩
 ·have d:lo+((0:Nat):Int)*1=lo:=by simp
  have h:(((hi-lo).toNat:Nat):Int)-((0:Nat):Int)=Builtin.Range.rangeSize lo hi 1:=by rw[rangeSize_one];split<;>omega
  show IsRangeIter _ _ (lo+((0:Nat):Int)*1) ((((hi-lo).toNat:Nat):Int)-((0:Nat):Int)) 1;rw[d,h];exact ZJ _ rfl
 ·have e:b=(.q7).objs.size:=by simpa using c
  subst e;exact a.fpOk .B (a.hok.fresh .B)
/---/def We(ta:TA):TI:=λσ H R=>ta σ H λvs H1=>∃j:Int,vs=[.int j]/\-(2^62)<=j/\j<2^62/\R (Itr 0 j.toNat) H1
/---/def Wf(ta:TA):TI:=λσ H R=>ta σ H λvs H1=>∃i j:Int,vs=.ux/\(-(2^62)<=i/\i<2^62/\-(2^62)<=j/\j<2^62)/\R (Itr i (j-i).toNat) H1
def Ky{b:TA}(d:.qq)(hm:.qa)(k:PA X [a] b)(f:.bm X.env=.i0:=by rfl):PI X tg (.cx .qz) (We b):=by
 intro pins s σ H R I h;refine Call_ (oT I d hm boot_range (Y1 (thn (k pos pins s σ H _ I h) λl o ⟨n,m,i,c,q1⟩=>?_) f rfl));obtain⟨j,e,q1,q2,q⟩:=q1;subst e;cases c with
 |cons r g =>
  cases g;obtain⟨t,rfl⟩:=r;exact call_range_1 (Ec i .b .b q1 q2 (by simpa using q))
def Kz{a b:Expr}{p:Pos}(m:.qq)(hm:.qa)(u:PA X [a,b] f)(n:.kv X.env=.m9:=by rfl)(c:.ky X.env=.nU:=by rfl):
  PI X tg (.ks .qz) (Wf f):=by
 intro pins s σ H R I h;refine Call_ (oT I m hm boot_range (Y1 (thn (u pos pins s σ H _ I h) λw z ⟨y,x,o,g,q1⟩=>?_) (by rw[n,c]) (by rw[c];rfl)));obtain⟨i,j,e,⟨q1,q2,q3,l⟩,q⟩:=q1;subst e;cases g with
 |cons r d =>
  cases d with
  |cons k d =>
   cases d;obtain⟨t,rfl⟩:=r;obtain⟨v,rfl⟩:=k;exact call_range_2 (Ec o q1 q2 q3 l q)
/---/def XV(wi:TI)(g:TG)(tb:TS):TS:=λD σ H=>wi σ H λJ H1=>∃W:Nat->Nat->St->Hp->Prop,(∃m,W 0 m σ H1)/\∀i m σ H,W i m σ H->
 (J.stop i H/\D.nx σ H)\/(J.go i H/\∃N:St->Hp->Prop,(∀σ' H',N σ' H'->∃m',m'<m/\W (i+1) m' σ' H')/\∀x H',J.yld i H x H'->g x σ H' λσ2 H2=>tb .AL σ2 H2)
/---/def xL(fp:.U)(h:Heap):List .ff:=fp.filterMap λb=>(h.get? b).map λo=>(b,o)
def nA(c:b∈a)(e:h.get? b=some o):(b,o)∈xL a h:=zp.mpr ⟨b,c,by rw[e];rfl⟩
def KA(hp:p∈xL a h):p.1∈a/\h.get? p.1=some p.2:=by
 obtain⟨b,c,e⟩:=zp.mp hp;cases q:h.get? b with
 |none=>rw[q]at e;cases e
 |some o =>
  rw[q]at e;have d:(b,o)=p:=ZT e;subst d;exact⟨c,q⟩
def Inv.pinned(I:.x)(i:∀b∈a,xK X pins H b)(g:∀b∈a,∃o,s.heap.get? b=some o/\∀v,o.data ≠ .cell v):Inv X (pins++xL a s.heap) σ H s :=
 I.pins_of λp k=>(Z3.mp k).elim (λz=>I.pin p (YO _ z)) λz=>by
  obtain⟨c,e⟩:=KA z;obtain⟨l,j,h,_⟩:=i p.1 c;obtain⟨o,f,d⟩:=g p.1 c;rw[e]at f;cases f;exact⟨e,l,j,h,d⟩
def Inv.unpinned(I:Inv X (pins++pl) σ H s):.bE H s:=I.pins_of λp a=>I.pin p (YO _<|List.mem_append_left _ a)
def MP{tb:TS}(hp:.mq)(U:.br)(hi:PI X tg l wi)(hg:PG X tg g)(p:PSs X body tb)
  (hs:∀x,foldedSetIterable l X.env x=pure x:=by intro _;rfl):PS X (.For tg l body [] pos) (XV wi g tb):=by
 intro pins s σ H D I h;refine wpAny_For (thn (hi pins s σ H _ I h) λv s1 h1=>thn h1 λa0 s2 h2=>?_) hs;obtain⟨it,B,S,J,H2,e,I2,T,G,R,W,⟨m0,w0⟩,turn⟩:=h2;subst e;have q:∀{w:Hp},(∀b∈B,w b=none)->∀b∈B,xK X pins w b:=λhn b p=>⟨hn b p,(R b p).2⟩;refine codeAny_forLoop_any (λn s'=>∃i σ' w,Inv X pins σ' w s'/\S i s'.heap/\(∀b∈B,w b=none)/\W i n σ' w) ?_ m0 ⟨0,σ,H2,I2,G,λb p=>(R b p).1,w0⟩;rintro n Q ⟨i,c,F,Y,E,C,w3⟩;rcases turn i n c F w3 with ⟨stop,qn⟩|⟨go,N,hN,step⟩
 ·refine zZv hp (thn (T.done X rfl rfl rfl U i pins Q c F X.xe Y (q C) E stop) λr s4 ⟨M,I4⟩=>?_)
  subst M;exact wpAny_execs_nil ⟨c,F,I4,qn⟩
 ·refine zZv hp (thn (T.item X rfl rfl rfl U i pins Q c F X.xe Y (q C) E go) λr s4 ⟨u,M,h4⟩=>?_)
  subst M;refine zZv hp (thn h4 λ_ Z ⟨x,V,I5,r5,y5,z,K⟩=>?_);have O:=I5.pinned (q K) (T.obj _ _ z);refine zZv hp (thn (hg _ Z c V x u _ O r5<|step x V y5) λ_ s6 ⟨P,H6,I6,q6⟩=>?_);refine zZv hp (thn (p _ s6 P H6 _ I6 q6) λf L y=>?_);have t:∀{a:St} {k:Hp},Inv X (pins++xL B Z.heap) a k L->N a k->∃m,m<n/\∃i σ' w,Inv X pins σ' w L/\S i L.heap/\(∀b∈B,w b=none)/\W i m σ' w:=λ{a k} j A=>by
   obtain⟨m',hm,w7⟩:=hN a k A;refine⟨m',hm,i+1,a,k,j.unpinned,T.keep _ _ _ z λb p o e=>(.z2).1,λb p=>?_,w7⟩;obtain⟨o,e,d⟩:=T.obj _ _ z b p;exact (.z2).2.1
  cases f with
  |next=>obtain⟨a,k,j,A⟩:=y;exact t j A
  |cont=>obtain⟨a,k,j,A⟩:=y;exact t j A
  |brk=>obtain⟨a,k,j,y⟩:=y;exact⟨a,k,j.unpinned,y⟩
  |ret v=>obtain⟨x7,a,k,j,r7,y⟩:=y;exact⟨x7,a,k,j.unpinned,r7,y⟩
end
abbrev R2:=V->V->Hp->VK->Prop
/---/def OpR(X:Cx)(f:S1->S1->Sem S1)(r:R2):Prop :=
 ∀(pins:.N) (s:P1) (σ:St) (H:Hp) (x y:V) (v u:S1) (Q:VK),Inv X pins σ H s->cU x v->cU y u->r x y H Q->
  wpAny .aq X.A (f v u) .cp X.xe s
/---/def UnR(X:Cx)(f:S1->Sem S1)(r:V->Hp->VK->Prop):Prop :=
 ∀(pins:.N) (s:P1) (σ:St) (H:Hp) (x:V) (v:S1) (Q:VK),Inv X pins σ H s->cU x v->r x H Q->
  wpAny .aq X.A (f v) .cp X.xe s
/---/def jm(X:Cx)(f:S1)(r:.j4):Prop :=
 ∀(pins:.N) (s:P1) (σ:St) (H:Hp) (xs:List V) (us:List S1) (Q:VK),Inv X pins σ H s->bM xs us->r xs H Q->
  wpAny .aq X.A (call f us) .cp X.xe s
/---/def tOp(r:R2)(ta tb:TE):TE:=λσ H Q=>ta σ H λx H1=>tb σ H1 λy H2=>r x y H2 Q
/---/def tUn(r:V->Hp->VK->Prop)(ta:TE):TE:=λσ H Q=>ta σ H λx H1=>r x H1 Q
/---/def rI(C:Int->Int->Prop)(g:Int->Int->V):R2:=λx y H Q=>∃i j,x=.int i/\y=.int j/\C i j/\Q .cu H
/---/def rI0(g:Int->Int->V):R2:=λx y H Q=>∃i j,x=.int i/\y=.int j/\Q .cu H
/---/def rU(g:Int->V):V->Hp->VK->Prop:=λx H Q=>∃i,x=.int i/\Q (g i) H
section
variable{X:Cx}{a b c:Expr}{ta tb tc:TE}{pos:Pos}
def T8(q:.el)(l:.ic){R:V->V->Hp->Prop}(I:.x)
  (h:ta σ H λx j=>tb σ j λy d=>R x y d)  {f:S1->S1->Sem S1}
  (p:∀v u i x y d,Inv X pins σ d i->cU x v->cU y u->R x y d->wpAny .aq X.A (f v u) Q X.xe i) :
  wpAny .aq X.A (.bw X.env) (λv e=>.aS (eval b X.env) (λu g=>.aS (f v u) Q X.xe g) X.xe e) X.xe s:=by
 refine thn (q pins s σ H _ I h) λv n ⟨x,j,o,k,q1⟩=>?_;refine thn (l pins n σ j _ o q1) λu i ⟨y,d,r,m,q2⟩=>?_;exact p v u i x y d r k m q2
def MR(f:.Y (.e4 op) r)(i:.el)(d:.ic):.D (.mJ op) .oX:=by
 intro pins s σ H Q I h;exact wpAny_BinOp .xs
def Wg(f:UnR X (unaryOp op) r)(j:.el):.D (.UnaryOp op a pos) (tUn r ta):=by
 intro pins s σ H Q I h;exact UnaryOp_ (thn .i5 λv d ⟨x,i,g,e,q1⟩=>f pins d σ i x v Q g e q1)
def opI{g:.gQ}
  (d:∀(i j:Int) (t u:Tok) (s:P1) (Q:.R) (E:.R),C i j->Q (.int .cu s.toks) .d5->.aS .sS Q E s) :
  OpR X f .C9:=by
 intro pins s σ H x y v u Q I m k h;obtain⟨i,j,rfl,rfl,l,q⟩:=h;obtain⟨t,rfl⟩:=m;obtain⟨e,rfl⟩:=k;exact d i j t e s _ _ l ⟨.int .cu,H,I.tok _,⟨_,rfl⟩,q⟩
def MU{g:.gQ}
  (d:∀(i j:Int) (t u:Tok) (s:P1) (Q:.R) (E:.R),Q (.int .cu s.toks) .d5->.aS .sS Q E s) :
  OpR X f .DD:=by
 intro pins s σ H x y v u Q I l k h;obtain⟨i,j,rfl,rfl,q⟩:=h;obtain⟨t,rfl⟩:=l;obtain⟨e,rfl⟩:=k;exact d i j t e s _ _ ⟨.int .cu,H,I.tok _,⟨_,rfl⟩,q⟩
def T9{g:.my}
  (d:∀(i j:Int) (t u:Tok) (s:P1) (Q:.R) (E:.R),Q (.bool .cu) s->.aS .sS Q E s) :
  OpR X f (rI0 λi j=>.bl .cu):=by
 intro pins s σ H x y v u Q I l k h;obtain⟨i,j,rfl,rfl,q⟩:=h;obtain⟨t,rfl⟩:=l;obtain⟨e,rfl⟩:=k;exact d i j t e s _ _ ⟨.bl .cu,H,I,rfl,q⟩
/---/def Wh(i j:Int):Prop:=0<=j/\j<=1000000/\i.natAbs<2^64
/---/def QH(i j:Int):Prop:=(-(2^64)<i/\i<2^64)\/(-(2^64)<j/\j<2^64)
def QH.ok(h:QH i j):IntMulOk i j:=by
 rcases h with ⟨e,d⟩|⟨e,d⟩
 ·exact .of_left (intBits_le_64 e d)
 ·exact .of_right (intBits_le_64 e d)
def GU(k:Nat):(0:Int)<=2^k:=by
 rw[two_pow_cast];exact ve _
def Ua:.Y .hI .C8:=MU λ_ _ _ _ _ _ _ q=>add_int q
def gP:.Y (.e4 .Sub) .C7:=MU λ_ _ _ _ _ _ _ q=>sub_int q
def iN:.Y (.e4 .Mult) .Cj:=opI λ_ _ _ _ _ _ _ d q=>mul_int q d.ok
def cV:.Y (.e4 .Mod) .Ab:=opI λi j _ _ _ _ _ d q=>by
 have e:(0:Int)<j:=d;exact mod_int' .b (by rw[Int.fmod_eq_emod_of_nonneg i .b];exact q)
def MV:.Y (.e4 .Pow) .AR:=opI λ_ _ _ _ _ _ _ d q=>pow_int_small d.1 d.2.1 d.2.2 q
def Ub:.Y (.e4 .RShift) .y4:=opI λi j _ _ _ _ _ d q =>
 rshift_int d (by rw[Int.fdiv_eq_ediv_of_nonneg i (GU _)];exact q)
def Uc:.Y (.e4 .BitAnd) .zI:=MU λ_ _ _ _ _ _ _ q=>and_int q
def QI:.Y (inplaceOp .Add) .C8:=MU λ_ _ _ _ _ _ _ q=>iadd_int q
def QJ:.Y (inplaceOp .Sub) .C7:=MU λ_ _ _ _ _ _ _ q=>isub_int q
def unI{g:Int->Int}
  (d:∀(i:Int) (t:Tok) (s:P1) (Q:.R) (E:.R),Q (.int (g i) s.toks) .d5->.aS (f .pF) Q E s) :
  UnR X f (rU λi=>.int (g i)):=by
 intro pins s σ H x v Q I e h;obtain⟨i,rfl,q⟩:=h;obtain⟨t,rfl⟩:=e;exact d i t s _ _ ⟨.int (g i),H,I.tok _,⟨_,rfl⟩,q⟩
def Ud:UnR X (unaryOp .USub) (rU λi=>.int (-i)):=unI λ_ _ _ _ _ q=>neg_int q
end
section
variable{X:Cx}{a b c:Expr}{ta tb tc:TE}{pos:Pos}
def GV{Q:VK}(I:.x)(q:Q (.bl k) H)(e:k=d):.g3 (.bool d) s:=by
 subst e;exact⟨.bl k,H,I,rfl,q⟩
def xM:.Y (.er .Lt) (rI0 λi j=>.bl (decide (i<j))):=T9 λ_ _ _ _ _ _ _ q=>lt_int q
def S9:.Y (.er .LtE) (rI0 λi j=>.bl (decide (i<=j))):=T9 λ_ _ _ _ _ _ _ q=>le_int q
def xN:.Y (.er .Gt) (rI0 λi j=>.bl (decide (j<i))):=T9 λ_ _ _ _ _ _ _ q=>gt_int q
def KC:.Y .uD (λx y H Q=>∃i j,x=.str i/\y=.str j/\Q .xQ H):=by
 intro pins s σ H x y v u Q I e d h;obtain⟨i,j,rfl,rfl,q⟩:=h;obtain⟨t,rfl⟩:=e;obtain⟨f,rfl⟩:=d;exact in_str (GV I q rfl)
def oU:.Y (.er .Is) .yJ:=by
 intro pins s σ H x y v u Q I d e h;obtain⟨rfl,q⟩:=h;cases e;refine is_none_gen (GV I q ?_);cases x<;>first
  |(cases d;rfl)
  |(obtain⟨t,rfl⟩:=d;rfl)
def rM:.Y (.er .IsNot) .yE:=by
 intro pins s σ H x y v u Q I d e h;obtain⟨rfl,q⟩:=h;cases e;refine isnot_none_gen (GV I q ?_);cases x<;>first
  |(cases d;rfl)
  |(obtain⟨t,rfl⟩:=d;rfl)
def OpR.or(h:.Y f r)(h':.Y f d):.Y f .As:=by
 intro pins s σ H x y v u Q I g e q;rcases q with q|q
 ·exact .dq x y v u Q I g e q
 ·exact h' pins s σ H x y v u Q I g e q
def aK(b:Expr)(h:op ≠ .In:=by decide)(e:op ≠ .NotIn:=by decide):behindInMarks op b=false:=by
 have f:(op == CmpOp.In)=false:=by cases op<;>first|rfl|exact absurd rfl h
 have d:(op == CmpOp.NotIn)=false:=by cases op<;>first|rfl|exact absurd rfl e
 cases b<;>simp[behindInMarks,f,d]
def QK(f:.kd)(i:.el)(d:.ic)(hm:.pT):.D .qy .oX:=by
 intro pins s σ H Q I h;exact wpAny_Compare1 .xs hm
/---/def Wi(t:TE):TT:=λσ H Q=>t σ H λx H'=>∃k,x=.bl k/\Q k H'
def xf(l:.kd)(w:.el)(g:.ic)(hm:.pT):PT X .qy (Wi .oX):=by
 intro pins s σ H Q I h;refine wpAny_isTrue_Compare1 (thn (w pins s σ H _ I h) λv p ⟨x,n,q,d,q1⟩=>thn (g pins p σ n _ q q1) λu o ⟨y,i,A,m,q2⟩ =>
  thn (l pins o σ i x y v u _ A d m q2) λc B ⟨z,j,f,t,k,e,q3⟩=>?_) hm
 subst e;cases t;exact zZf ⟨j,f,q3⟩
/---/def MX(r r':R2)(ta tb tc:TE):TE:=λσ H Q=>ta σ H λx H1=>tb σ H1 λy H2=>r x y H2 λz H3=>∃k,z=.bl k/\
 (if k=true then tc σ H3 λw' H4=>r' y w' H4 Q else Q .rR H3)
def MY(q:.kd)(g:.Y (.er f) l)(N:.el)(o:.ic)(w:.D c tc)
  (hm:lastMarks [op,f] [b,c]=false:=by with_unfolding_all rfl):.D (.ig [op,f] [b,c]) (MX r l ta tb tc):=by
 intro pins s σ H Q I h;refine Compare_chain (thn (N pins s σ H _ I h) λv G ⟨x,A,J,n,q1⟩=>chain_link (thn (o pins G σ A _ J q1) λu D ⟨y,p,O,m,q2⟩ =>
  thn (q pins D σ p x y v u _ O n m q2) λd t ⟨z,j,i,K,k,e,q3⟩=>?_)) hm
 subst e;cases K;refine zZf ?_;cases k with
 |false=>exact ite_ff ⟨.bl false,j,i,rfl,q3⟩
 |true=>exact ite_tt (chain_last<|thn (w pins t σ j _ i q3) λP B ⟨E,L,F,M,C⟩=>g pins B σ L y E u P Q F m M C)
def uc:(sizeLine:Nat)<2^63:=by rw[YZ];decide
def GW:.Y .hI (λx y H Q=>∃i j,x=.str i/\y=.str j/\i.length+j.length<=sizeLine/\Q (.str<|i++j) H):=by
 intro pins s σ H x y v u Q I g f h;obtain⟨i,j,rfl,rfl,e,q⟩:=h;obtain⟨t,rfl⟩:=g;obtain⟨d,rfl⟩:=f;exact add_str (λd k=>⟨.str (i++j),H,I.tok _,⟨_,rfl⟩,q⟩) e
def rN{x:V}(r:bM [x] us):∃u,us=[u]/\cU x u:=by
 cases r with
 |cons d e=>cases e;exact⟨_,rfl,d⟩
def Ta{x y:V}(r:bM [x,y] us):∃u w',us=[u,w']/\cU x u/\cU y w':=by
 cases r with
 |cons d f =>
  cases f with
  |cons e g=>cases g;exact⟨_,_,rfl,d,e⟩
def KD(e:.br):jm X (.dm "max") (λxs H Q=>∃i j,xs=.ux/\Q .yf H):=by
 intro pins s σ H xs g Q I r h;obtain⟨i,j,rfl,q⟩:=h;obtain⟨u,n,rfl,⟨t,rfl⟩,⟨f,rfl⟩⟩:=Ta r;refine max_two_ints (I.ok.hd e) λm l k=>⟨_,H,I.kept k,?_,q⟩
 by_cases d:j>i
 ·rw[zE d,zE d];exact⟨_,rfl⟩
 ·rw[zF d,zF d];exact⟨_,rfl⟩
def KF(e:.br):jm X (.dm "min") (λxs H Q=>∃i j,xs=.ux/\Q (.int .DF) H):=by
 intro pins s σ H xs g Q I r h;obtain⟨i,j,rfl,q⟩:=h;obtain⟨u,n,rfl,⟨t,rfl⟩,⟨f,rfl⟩⟩:=Ta r;refine min_two_ints (I.ok.hd e) λm l k=>⟨_,H,I.kept k,?_,q⟩
 by_cases d:j<i
 ·rw[zE d,zE d];exact⟨_,rfl⟩
 ·rw[zF d,zF d];exact⟨_,rfl⟩
def KG:jm X .qF (λxs H Q=>(∃i,xs=[.int i]/\Q .v H)\/∃k,xs=[.bl k]/\Q (.int<|if k then 1 else 0) H):=by
 intro pins s σ H xs e Q I r h;rcases h with ⟨i,rfl,q⟩|⟨k,rfl,q⟩
 ·obtain⟨u,rfl,t,rfl⟩:=rN r
  exact call_int_int ⟨.int i,H,I,⟨_,rfl⟩,q⟩
 ·obtain⟨u,rfl,d⟩:=rN r
  cases d;exact call_int_bool ⟨.int (if k then 1 else 0),H,I.tok _,⟨_,rfl⟩,q⟩
def Ca:jm X .s8 (λxs H Q=>∃i,xs=[.int i]/\i.natAbs.log2<1920/\Q (.str .gr) H):=by
 intro pins s σ H xs e Q I r h;obtain⟨i,rfl,d,q⟩:=h;obtain⟨u,rfl,t,rfl⟩:=rN r;exact PySem.P.str_of_int d ⟨.str _,H,I.tok _,⟨_,rfl⟩,q⟩
end
structure GX(h:Heap)(x dx C:Addr)(mA:.aw):Prop where
 obj:h.get? x=some .tf
 ns:h.Ns1 dx mA
 ne:dx≠x
def KH(n:h.Ns1 dx mA):∃c,h.get? dx=some c/\∀name,PySem.W.lookIn name c=some (mA name):=by
 obtain⟨o,d,m,i,k,f,_,j⟩:=n;refine⟨o,i,λname=>?_⟩;have e:=j name;unfold nsFind findBy at e;rw[<-Array.find?_toList]at e;unfold PySem.W.lookIn;rw[k];dsimp only;split
 ·rename_i y q
  rw[q]at e;exact congrArg some e
 ·rename_i q
  rw[q]at e;have a:d.toList.any (·.refKey)=false:=by
   rw[List.any_eq_false];intro y l;obtain⟨z,t,b⟩:=f y (Array.mem_toList_iff.mp l);simp[DictEntry.refKey,b]
  have g:¬d.toList.any (·.refKey)=true:=by rw[a];exact Z4
  rw[zF g];exact congrArg some e
def GX.look{x dx C:Addr}(I:GX h x dx C mA):∃a,PySem.W.InstAt h x .tf C (some a)/\∀name,PySem.W.lookIn name a=some (mA name) :=
 let ⟨a,b,c⟩:=KH I.ns
 ⟨a,⟨I.obj,rfl,rfl,b⟩,c⟩
section
variable{prog:N3}{w:N6}{A:P2}{E:.R}{s:P1}{K:ZX}{x dx C f:Addr}{mA:.aw}{name:Str}{v:S1}
def QL(X:K.In s.heap)(I:.vN)(i:.EF)(e:.vB)
  (g:.es name=some none) (d:mA name=some v) (b:PySem.W.handedIn v=true) (h:Q v .d5) :
  wpAny .aC A (getAttr .jX name a) Q E s:=by
 obtain⟨j,J,c⟩:=I.look;exact PySem.W.get_value X J (PySem.W.plainGet_of i).1 (PySem.W.findObj_own e g rfl (by rw[c,d])) b h
def MZ{Q:S1 × List S1->P1->Prop}(X:K.In s.heap)(I:.vN)(a:.EF)
  (d:.es name=some .jz) (ht:.mN .aE=true) (c:mA name=none) (h:Q (.ref f,[.ref x]) s) :
  wpAny .aC A (getMethod .jX name pl) Q E s:=by
 obtain⟨b,J,e⟩:=I.look;exact PySem.W.method_fn X J (.Dm).1 (.Dm).2 d (beq_iff_eq.mp ht) (by show (PySem.W.lookIn name b).map (·.isSome)=some false;rw[e,c];rfl) h
def QM{Q:Unit->P1->Prop}(X:K.In s.heap)(I:.vN)
  (n:.Ed) (hp:.EJ) (ht:PySem.W.takerIn K C name=some none) (j:.vB)
  (m:PySem.Within mA ns) (hsz:ns.length<=sizeLine)
  (h:∀h',GX h' x dx C (λy=>if y=name then some v else mA y)->Heap.SameBut dx s.heap h'->Q () { s with heap:=h',toks:=s.toks+2 }) :
  wpAny .aC A (setAttr .jX name v) Q E s:=by
 obtain⟨t,J,q⟩:=I.look;refine PySem.W.set_plain X J n (PySem.W.osa_open (s:=.d5) (r:=none) X J hp ht λb=>?_);obtain⟨u,k,hd'⟩:=PySem.W.any_some j;have l:s.heap.get? x=some ⟨.ref C,some dx,.plain,#[]⟩:=I.obj;refine zD (x3 (zD (zD (wpAny_loadPart l (zD (PySem.W.Looks.here (s:=.d5) (PySem.W.looks_clsIn X k) ?_))))));rw[hd'];refine x3 (a:=some dx) (zD (x3 (zD ?_)));refine wpAny_nsSet1 (s:=.d5) I.ns λh' d c=>?_;obtain⟨z,p,o,i,e,g⟩:=d.count (PySem.Within.cons name v m);refine zD (wpAny_lookBehind i (by rw[e];exact pastItsLine_dict (ZM g (by rw[wI];omega))) ?_);exact x3 (h _ ⟨(c.2 _<|wh I.ne).trans I.obj,d,I.ne⟩ c)
def M0(X:K.In s.heap)(hm:PySem.W.makesIn K C=true)
  (hi:.es "__init__"=some .jz) (b:PySem.W.typeIn K .aE=some (.type "function"))
  (h:codeAny .aC (A.under<|.builtin "type.__call__" ⟨.ref C :: vs,a⟩) (.call .aE ⟨.ref .i1 :: vs,a⟩) (PySem.W.InitBack .i1 R)
   .AK) :
  codeAny .aC A (.call .bH ⟨vs,a⟩) R s:=by
 obtain⟨c,g,d,t,e⟩:=s;exact PySem.W.make_core (PySem.W.makes_of X hm) (PySem.W.looks_findIn X hi) (λself=>PySem.W.bind_fn X self b) .aY h
end
def oM(f:Str)(v:V):List .eh->List .eh
 |[]=>[(f,v)]
 |(g,x)::r=>if g=f then (g,v)::r else (g,x)::oM f v r
theorem vL(f g:Str)(v:V):∀c:List .eh,(oM f v c).lookup g=if g=f then some v else c.lookup g
 |[]=>by
  show List.lookup g [(f,v)]=_
  by_cases h:g=f
  ·have a:(g == f)=true:=beq_iff_eq.mpr h
   dsimp[List.lookup,a,zE h]
  ·have a:(g == f)=false:=beq_eq_false_iff_ne.mpr h
   dsimp[List.lookup,a,zF h]
 |(k,x)::r=>by
  have d:=vL f g v r;rw[show oM f v ((k,x)::r)=.rX from rfl]
  by_cases b:k=f
  ·rw[zE b]
   by_cases h:g=k
   ·have a:(g == k)=true:=beq_iff_eq.mpr h
    dsimp[List.lookup,a,zE (h.trans b)]
   ·have a:(g == k)=false:=beq_eq_false_iff_ne.mpr h
    dsimp[List.lookup,a,zF (λe:g=f=>h (e.trans b.symm))]
  ·rw[zF b]
   by_cases h:g=k
   ·have a:(g == k)=true:=beq_iff_eq.mpr h
    dsimp[List.lookup,a,zF (λe:g=f=>b (h.symm.trans e))]
   ·have a:(g == k)=false:=beq_eq_false_iff_ne.mpr h
    dsimp[List.lookup,a];exact d
theorem ud(f:Str)(v:V):∀b:List .eh,f∈(oM f v b).map (·.1)/\∀g,g∈b.map (·.1)->g∈(oM f v b).map (·.1)
 |[]=>⟨by simp[oM],λg h=>by simp at h⟩
 |(k,x)::r=>by
  obtain⟨c,d⟩:=ud f v r;rw[show oM f v ((k,x)::r)=.rX from rfl]
  by_cases a:k=f
  ·rw[zE a]
   subst a;exact⟨by simp,λg h=>by simpa using h⟩
  ·rw[zF a]
   refine⟨?_,λg h=>?_⟩
   ·rw[z5]
    exact ZW _ c
   ·rw[z5]at h⊢
    rcases y6.mp h with e|e
    ·exact y6.mpr (.inl e)
    ·exact ZW _ (d g e)
theorem vM(f:Str)(v:V):∀b:List .eh,(oM f v b).length<=b.length+1
 |[]=>by simp[oM]
 |(k,x)::r=>by
  have c:=vM f v r;rw[show oM f v ((k,x)::r)=.rX from rfl]
  by_cases a:k=f
  ·rw[zE a,wI,wI];omega
  ·rw[zF a,wI,wI];omega
def rL.some_of(r:rL .fH o):∃u,o=some u/\cU v u:=by
 cases o with
 |none=>exact(show False from r).elim
 |some u=>exact⟨u,rfl,r⟩
def rL.none_of(r:rL none o):o=none:=by
 cases o with
 |none=>rfl
 |some u=>exact(show False from r).elim
def KI(r:cU v u):PySem.W.handedIn u=true:=by
 cases v with
 |non=>cases (show u=Value.none from r);rfl
 |bl b=>cases (show u=Value.bool b from r);rfl
 |int i=>obtain⟨t,e⟩:=(show ∃t,u=Value.int i t from r);cases e;rfl
 |str x=>obtain⟨t,e⟩:=(show ∃t,u=Value.str x t from r);cases e;rfl
 |byt b=>obtain⟨t,e⟩:=(show ∃t,u=Value.bytes b t from r);cases e;rfl
 |flt b=>obtain⟨t,e⟩:=(show ∃t,u=Value.float b t from r);cases e;rfl
 |ref a=>cases (show u=Value.ref a from r);rfl
 |ty n=>cases (show u=Value.type n from r);rfl
section
variable{P:N3}{w:N6}{H H':Hp}{h h':Heap}{a C dx:Addr}{fs fs':List .eh}
def Cb(hok:.cP)(e:.qn):∃mA,GX h a dx C mA/\(∀f,rL .u3 (mA f))/\PySem.Within mA (fs.map (·.1))/\fs.length<=1000/\H dx=some (.own a):=by
 obtain⟨d,z,ne,b,mA,n,r,q⟩:=(show gM P w H h a (.ins C dx fs) from hok a _ e);exact⟨mA,⟨b,n,ne⟩,r,q,z,d⟩
end
structure Cls(K:ZX)(C:Addr):Prop where
 pg:.wa Str.empty=true
 hd:PySem.W.hasDictIn K C=true
 po:PySem.W.plainOver K C=true
 sa:.es "__setattr__"=some .xc
def Cls.get(c:Cls K C)(f:Str):.wa f=true:=c.pg
/---/def oV(K:ZX)(C:Addr)(f:Str):Prop:=.es f=some none
def oV.taker(n:oV K C f):PySem.W.takerIn K C f=some none:=by
 unfold PySem.W.takerIn;rw[show PySem.W.findIn K .bH f=some none from n];rfl
structure Con(K:ZX)(C:Addr)(f:Str)(v:V)(u:S1):Prop where
 at_:.es f=some (some u)
 rel:cU v u
 get:PySem.W.specialIn K u "__get__"=some none
 cp:PySem.W.copiedNames.contains f=false
structure Ue(K:ZX)(C:Addr)(m:Str)(f:Addr):Prop where
 at_:.es m=some .jz
 fn:.mN .aE=true
 kp:.dX .aE=true
section
variable{X:Cx}{pins:.N}{σ:St}{H:Hp}{s:P1}{a C dx:Addr}{fs:List .eh}{f:Str}{v:V}{A:P2}{E:.R}
def GY{b:Bool}(I:.x)(e:.qn)(c:Cls X.K C)(n:oV X.K C f)(l:fs.lookup f=some v)
  (h:∀u g,Inv X pins σ H g->cU v u->Q u g):wpAny .aq A (getAttr .de f b) Q E s:=by
 obtain⟨mA,O,r,_,_,_⟩:=Cb I.hok e;obtain⟨u,i,d⟩:=rL.some_of (v:=v) (o:=mA f) (by rw[<-l];exact r f);exact QL I.kIn O (c.get f) c.hd n i (KI d) (h u _ (I.tok _) d)
def GZ{Q:S1 × List S1->P1->Prop}(I:.x)(e:.qn)(c:Cls X.K C)(k:Ue X.K C m g)(l:fs.lookup m=none)
  (h:Q (.ref g,.ei) s):wpAny .aq A (getMethod .de m pl) Q E s:=by
 obtain⟨mA,O,r,_,_,_⟩:=Cb I.hok e;have b:mA m=none:=rL.none_of (by rw[<-l];exact r m);exact MZ I.kIn O (c.get m) k.at_ k.fn b h
def G0{Q:Unit->P1->Prop}(I:.x)(e:.qn)(c:Cls X.K C)(n:oV X.K C f)(G:fs.length<1000)(D:cU y u)
  (h:∀k,Inv X pins σ (upd H a .Do) k->Q () k):wpAny .aq A (setAttr .de f u) Q E s:=by
 obtain⟨mA,O,r,j,_,i⟩:=Cb I.hok e;have l:(fs.map (·.1)).length<=sizeLine:=by rw[ZA,YZ];omega
 refine QM I.kIn O c.sa c.po n.taker c.hd j l λp d B=>h _ ?_;have F:∃o,p.get? dx=some o:=let ⟨o,_,_,w,_⟩:=d.ns;⟨o,w⟩;refine I.write (x:=a) (e:=dx) .sz (.inr i) (λb q m z=>(B.2 b m).trans z) F ?_;refine⟨by rw[bi O.ne];exact i,?_,O.ne,d.obj,_,d.ns,λg=>?_,λg t=>?_⟩
 ·have:=vM f y fs;omega
 ·show rL ((oM f y fs).lookup g) .A1
  rw[vL]
  by_cases q:g=f
  ·rw[zE q,zE q];exact D
  ·rw[zF q,zF q];exact r g
 ·by_cases q:g=f
  ·rw[q];exact(ud f y fs).1
  ·refine(ud f y fs).2 g (j g λz=>t ?_)
   show .A1=none;rw[zF q];exact z
def Inv.made(I:.x):.bE (upd (.qM<|.own .b5) .b5<|.ins C s.heap.objs.size [])
  .AK:=by
 have c:(.kU).get? s.heap.objs.size=some PySem.W.emptyDict:=ZJ s.heap rfl;have d:((.kU).push .rC).get? .b5=some .rC:=by
  have:=ZJ .kU (o:=PySem.W.instObj C s.heap.objs.size) rfl;rwa[YS]at this
 have j:(.kU).Ns s.heap.objs.size (λ_=>none):=⟨PySem.W.emptyDict,#[],_,c,rfl,(λe g=>absurd g .f),λ_=>rfl⟩;have h:=I.laid (a:=s.heap.objs.size) (o:=.own .b5) (h':=s.heap.push PySem.W.emptyDict) (t':=s.toks) (λb u q=>.aa q) .B ⟨_,c⟩;refine h.laid (a:=s.heap.objs.size+1) (o:=.ins C s.heap.objs.size []) (t':=s.toks) (λb u q=>.aa q) (wo<|YS _ _) ?_;have ne:s.heap.objs.size≠s.heap.objs.size+1:=ZN (Z6 _);refine⟨by rw[bi ne,bN],YH _,ne,d,λ_=>none,(Heap.Ns1.of_empty j).at λo q=>.aa q,λ_=>True.intro,λy i=>absurd rfl i⟩
def QN{f:Str}{s:P1}(c:attributeBase e f env (.aB env)=.aB env)
  (h:.bP (.aB env) (λo b=>.bP (getAttr o f true) Q E b) E s):wpAny .aC A (eval (.Attribute e f pos) env) Q E s :=
 Attribute_any_ h (by rw[arm_eval_Attribute,c])
end
/---/def XX(K:ZX)(ta:TE)(f:Str):TE:=λσ H Q=>ta σ H λx H1=>∃a C dx fs v,x=.ref a/\H1 a=some .nw/\Cls K C/\oV K C f/\fs.lookup f=some v/\Q v H1
/---/def XY(K:ZX)(ta tv:TE)(f:Str):TS:=λD σ H=>tv σ H λy H1=>ta σ H1 λx H2=>∃a C dx fs,x=.ref a/\H2 a=some .nw/\Cls K C/\oV K C f/\fs.length<1000/\
 D.nx σ (upd H2 a .Do)
section
variable{X:Cx}{o e value:Expr}{f:Str}{pos pos' tpos:Pos}{ta tv:TE}
def Uf(he:.D e ta)(d:attributeBase e f X.env .lI=.aB X.env):.D (.Attribute e f pos) (XX X.K ta f):=by
 intro pins s σ H Q I h;refine QN d (thn .eD λu z ⟨x,g,m,j,a,C,t,r,v,i,k,c,n,l,q⟩=>?_);subst i;obtain rfl:u=Value.ref a:=j;exact GY m k c n l λy w p b=>⟨v,g,p,b,q⟩
def Ug(v:.D o ta)(d:.D value tv)(k:swapsWith value (some<|.Attribute o f pos') pos.line X.env=pure false):PS X (.Assign [.Attribute o f pos'] value pos) (XY X.K ta tv f):=by
 intro pins s σ H D I h;refine plainObj_wpAny_Assign_Attribute (thn (d pins s σ H _ I h) λu p ⟨y,g,r,t,q⟩=>thn (v pins p σ g _ r q) λov F ⟨x,z,w,j,a,C,E,B,i,m,c,n,l,q2⟩=>?_) k;subst i;obtain rfl:ov=Value.ref a:=j;exact G0 w m c n l t λA b=>⟨σ,_,b,q2⟩
end
section
variable{X:Cx}{pins:.N}{σ:St}{H:Hp}{s:P1}{A:P2}{E:.R}{Q:.R}{c:S1}{b:Bool}
inductive xO(K:ZX)(H:Hp):V->S1->Prop where
 |non:xO K H .non (.type "NoneType")
 |bl (x:Bool):xO K H (.bl x) (.type "bool")
 |int (i:Int):xO K H .cS .qF
 |str (x:Str):xO K H (.str x) (.type "str")
 |flt (x:UInt64):xO K H (.flt x) (.type "float")
 |lst {a:Addr} {xs:List V} (e:H a=some (.lst xs)):xO K H (.ref a) .qD
 |frz {a:Addr} {o:Obj} {xs:List V} (e:H a=some (.frz o (.lst xs))):xO K H (.ref a) .qD
 |tup {a:Addr} {xs:List V} (e:H a=some (.tup xs)):xO K H (.ref a) (.type "tuple")
 |dK {a:Addr} {kvs:.em} (e:H a=some (.dK kvs)):xO K H (.ref a) (.type "dict")
 |dT {a:Addr} {kvs:List .jn} (e:H a=some .ko):xO K H (.ref a) (.type "dict")
 |ins {a C dx:Addr} {fs:List .eh} (e:H a=some (.ins C dx fs)) (cl:Cls K C) (ha:PySem.W.findIn K (.ref C) "__class__"=some (some (.dm "object.__class__")))
   (hn:PySem.W.specialIn K .r1 "__get__"=some (some<|.dm "getset_descriptor.__get__")) (htk:PySem.W.takesIn K .r1=some true)
   (hm:PySem.W.mroIn K C (.type "object")=some true):xO K H .de .bH
end
structure iz(k:Nat)(A:P2):Prop where
 hd:A.handled=none
 dp:A.depth+3*k+5<recursionLimit
 un:A.units+16*k+200<cLine
 gd:A.guards=some []
def iz.mono(r:iz k A)(h:j<=k):iz j A:=⟨r.hd,by have:=r.dp;omega,by have:=r.un;omega,r.gd⟩
def iz.deeper(r:iz (k+1) A)(env:Env):iz k (A.deeper env) :=
 ⟨r.hd,by have:=r.dp;show A.depth+1+3*k+5<_;omega,by have:=r.un;show A.units+3+16*k+200<_;omega,r.gd⟩
def G1:(.mZ).depth=A.depth+1:=by
 first|rfl|simp[Around.under,Code.weight,Code.isCreation,Code.isGuard,Code.isCaller,Code.frames,Code.isFrame,guardIds]
def G3:(.mZ).units=A.units+1:=by
 first|rfl|simp[Around.under,Code.cUnits,Code.frames,Code.isFrame]
def iz.make(r:iz (k+1) A)(C:Addr)(us:List S1)(a:List .jG):iz k .mZ :=
 ⟨r.hd,by have:=r.dp;rw[G1];omega,by have:=r.un;rw[G3];omega,by first|exact r.gd|(simp[Around.under,Code.isGuard,guardIds];exact r.gd)⟩
def iz.depth(r:iz k A):A.depth<recursionLimit:=by have:=r.dp;omega
def iz.units0(r:iz k A):A.units<cLine:=by have:=r.un;omega
/---/def XZ:TA:=λ_ H Q=>Q [] H
/---/def Wj(ta:TE)(tr:TA):TA:=λσ H Q=>ta σ H λx H1=>tr σ H1 λxs H2=>Q .dL H2
section
variable{X:Cx}{e:Expr}{es:.aO}{te:TE}{t:TA}{pos:Pos}
def fB:PA X [] XZ:=λ_ _ _ _ H Q I h=>Calls.spliced_nil ⟨[],H,I,.nil,h⟩
def dr(l:.D e te)(i:PA X es t)(f:.it X.env=(false,.aB X.env)::starEach es X.env:=by rfl):PA X .gn (Wj te t):=by
 intro pos pins s σ H Q I h;rw[f];show wpAny _ _ (spliced ((false,.aB X.env)::backTo pos .m2)) _ _ s;refine Calls.spliced_cons (thn (l pins s σ H _ I h) λu g ⟨x,d,j,a,q1⟩=>?_);exact thn (i pos pins g σ d _ j q1) λn o ⟨k,b,m,c,q2⟩=>⟨x::k,b,m,.cons a c,q2⟩
/---/def X0(t:TA):TE:=λσ H Q=>t σ H λxs H1=>xs.length<=sizeLine/\∀p,H1 p=none->.d1 (upd H1 p .dc)
/---/def X1(t:TA):TE:=λσ H Q=>t σ H λxs H1=>xs.length<=sizeLine/\∀p,H1 p=none->.d1 (upd H1 p .cM)
def M3(h:PA X es t):.D (.kr es) (X0 t):=by
 intro pins s σ H Q I f;refine wpAny_Tuple_spliced (thn .Ck λg a ⟨j,d,c,r,z,q⟩=>⟨by rw[<-r.length];exact z,?_⟩);have i:d a.heap.objs.size=none:=c.hok.fresh .B;refine⟨.ref a.heap.objs.size,upd d a.heap.objs.size (.tup j),c.laid (t':=a.toks) (λb u e=>.aa e) .B ?_,rfl,q _ i⟩;exact⟨z,g,r,⟨_,ZJ _ rfl,rfl,_,rfl⟩⟩
def Uh(h:PA X es t):.D (.List es pos) (X1 t):=by
 intro pins s σ H Q I f;refine wpAny_List_spliced (thn .Ck λg a ⟨j,d,c,r,z,q⟩=>⟨by rw[<-r.length];exact z,?_⟩);have i:d a.heap.objs.size=none:=c.hok.fresh .B;refine⟨.ref a.heap.objs.size,upd d a.heap.objs.size (.lst j),c.laid (t':=a.toks) (λb u e=>.aa e) .B ?_,rfl,q _ i⟩;exact⟨z,g,0,r,ZJ _ rfl⟩
end
abbrev Sp:=List V->Hp->VK->XK->Prop
abbrev CXT:=List Env->Hp->P1->XK->S1->P1->Prop
structure G4(P:N3)(w:N6)(K:ZX)(mg:.aw)(base:Heap)(A:P2)(outer:.eo)(s:P1)(H:Hp):Prop where
 frames:A.frames=some outer
 mod:Mod K mg base
 bs:∀b o,base.get? b=some o->s.heap.get? b=some o/\H b=none
 bsz:base.objs.size<=s.heap.objs.size
 funs:s.heap.FunFrames base outer
 frf:∀b∈frs outer,H b=none
 hok:HOk P w H s.heap
 bare:AllBare s.gens
/---/def CE(outer:.eo)(P:N3)(w:N6)(H:Hp)(s:P1)(Q:VK)(u:S1)(s':P1):Prop :=
 ∃v H',s'.os=s.os/\AllBare s'.gens/\Un (frs outer) [] H H' s.heap s'.heap/\HOk P w H' s'.heap/\cU v u/\Q v H'
/---/def CR(CX:CXT)(outer:.eo)(P:N3)(w:N6)(H:Hp)(s:P1)(Q:VK)(E:XK)(r:Result)(s':P1):Prop :=
 match r with
 |.ok (.ret u)=>CE outer P w H s Q u s'
 |.ok _=>False
 |.error e=>CX outer H s E e s'
structure ji(P:N3)(w:N6)(K:ZX)(mg:.aw)(base:Heap)(CX:CXT)(k:Nat)(f:Addr)(fd:.gU)(ps:.az)(sp:Sp):Prop where
 len:∀vs H Q E,sp vs H Q E->vs.length=ps.length
 run:∀(A:P2) (outer:.eo) (s:P1) (H:Hp) (args:Args) (us:List S1) (vs:List V) (Q:VK) (E:XK),iz k A->G4 P w K mg base A outer s H->BindsTo s fd args .jC->bM vs us->sp vs H Q E->
  codeAny .gu A (.call .aE args) (CR CX outer P w H s Q E) s
def G4.make(e:.EH)(C:Addr)(us:List S1)(a:List .jG):
  G4 P w K mg base .mZ outer s H:=⟨by first|exact e.frames|(simpa[Around.under,Code.envs,Code.isFrame,pushEnvs] using e.frames),e.mod,e.bs,e.bsz,e.funs,e.frf,e.hok,e.bare⟩
section
variable{X:Cx}{pins:.N}{σ:St}{H:Hp}{s s':P1}
def Inv.env0(I:.x):G4 X.prog X.w X.K X.mg X.base X.A X.stack s H :=
 ⟨I.ok.frames,I.ok.mod,I.bs,ZM I.ok.bsz I.sz,I.stack,I.stkFree,I.hok,I.bare⟩
def Inv.after{Q:VK}(I:.x)(h:CE X.stack X.prog X.w H s Q u s'):.g3 u s':=by
 obtain⟨v,e,i,bare,f,hok,r,q⟩:=h;obtain⟨c,g,d,t,a⟩:=s';obtain rfl:a=s.os:=i;exact⟨v,e,I.call (h':=c) (g':=g) (d':=d) (t':=t) (ch:=[]) f hok bare (λb z=>.f0 .f),r,q⟩
end
/---/def Wk(sp:Sp)(dvs:List V)(E:XK)(t:TA):TE:=λσ H Q=>t σ H λvs H1=>sp .gF H1 Q E
/---/def Wl(C:Addr)(m:Str)(sp:Sp)(dvs:List V)(E:XK)(ta:TE)(t:TA):TE:=λσ H Q=>ta σ H λx H1=>∃a dx fs,x=.ref a/\H1 a=some .nw/\fs.lookup m=none/\
 t σ H1 λvs H2=>sp (x::.gF) H2 Q E
/---/def Wm(C:Addr)(sp:Sp)(dvs:List V)(E:XK)(t:TA):TE:=λσ H Q=>t σ H λvs H1=>∀x dx,H1 x=none->H1 dx=none->dx≠x->
 sp (.ref x::.gF) (upd (upd H1 dx .hX) x .uZ) (λv H2=>v=.non/\Q .jX H2) E
/---/def ko(K:ZX)(fd:.gU)(ps:.az)(ds:List S1):Prop :=
 ∀(s:P1) (us:List S1),K.In s.heap->(.h2).length=ps.length->.kB ⟨us,[]⟩ (ps.zip .h2)
def ko.all(h:∀us:List S1,us.length=ps.length->bindArgs fd ⟨us,[]⟩=pure .jC):ko K fd ps []:=λs us _ a=>by
 rw[YX]at a⊢;exact .of_eq (h us a)
/---/def ue(CX:CXT)(X:Cx)(E:XK):Prop:=∀(pins:.N) (σ:St) (H:Hp) (s:P1) (e:S1) (s':P1),Inv X pins σ H s->CX X.stack H s E e s'->X.xe e s'
section
variable{X:Cx}{CX:CXT}{k:Nat}{f C:Addr}{fd:.gU}{ps:.az}{sp:Sp}{dvs:List V}{ds:List S1}{E:XK}{x m:Str}{p pos apos:Pos}{e o:Expr}{es:.aO}{ta:TE}{t:TA}
def M4{Q:VK}(F:.mn)(d:iz k X.A)(c:.mv)(hd:bM dvs ds)(g:ue CX X E)
  (I:.x) (r:bM vs us) (h:sp .gF H Q E):.aS (call .aE us) .cp X.xe s:=by
 have b:bM .gF .h2:=r.append hd;have l:(.h2).length=ps.length:=by rw[<-b.length];exact F.len _ _ _ _ h
 refine wpAny_call (codeAny_mono (F.run X.A X.stack s H ⟨us,[]⟩ .h2 .gF Q E d I.env0 (c s us I.kIn l) b h) λr i a=>?_);cases r with
 |error e=>exact g pins σ H s e i I a
 |ok j =>
  cases j with
  |ret u=>exact I.after a
  |next=>exact False.elim a
  |brk=>exact False.elim a
  |cont=>exact False.elim a
def QO(F:.mn)(j:iz k X.A)(i:.ab x)(hm:X.mg x=some .aE)(c:PySem.W.keepIn X.K .aE=true)(d:.mv)(hd:bM dvs ds)(g:ue CX X E)
  (l:.kg) (a:.a4=false:=by decide) (he:.it X.env=(false,.aB X.env)::starEach es X.env:=by rfl) (hpl:(.iM).any (·.1)=false:=by rfl) :
  PE X .qv (Wk sp dvs E t):=by
 intro pins s σ H Q I h;refine zXh (B9 I i hm ?_ a);refine PySem.W.callWith_K (h₀ := X.base) I.ok.mod.kin c (thn (l pos pins s σ H _ I h) λn w ⟨v,u,b,r,q⟩=>⟨b.kIn,?_⟩) he hpl;exact M4 F j d hd g b r q
def QP{pl:Sem Bool}(he:.D o ta)(c:Cls X.K C)(hm:Ue X.K C m f)(F:.mn)(A:iz k X.A)(i:.mv)(hd:bM dvs ds)(n:ue CX X E)(B:.kg)
  (b:.it X.env=(false,.aB X.env)::starEach es X.env:=by rfl) (hpl:(.iM).any (·.1)=false:=by rfl)
  (ht:eval (.dR (.dS m) (e :: es)) X.env=(do
   let ov <-eval o X.env
   standAt apos.atName
   let (f,first) <-holding [ov] (getMethod ov m pl)
   callWith pos f first (.kC<|.g0 .gn) (.mL pos)):=by rfl) :
  PE X (.dR (.dS m) .gn) (Wl C m sp dvs E ta t):=by
 intro pins s σ H Q I h;refine PySem.W.methodCall_KW (pl:=pl) (thn .eD λu z ⟨x,j,d,w,a,J,G,v,y,l,q⟩=>?_) ht;subst v;obtain rfl:u=Value.ref a:=w;refine GZ d y c hm l ?_;refine PySem.W.callWith_K (first:=.ei) (h₀ := X.base) I.ok.mod.kin hm.kp (thn (B pos pins z σ j _ d q) λus K ⟨vs,D,g,r,q2⟩=>⟨g.kIn,?_⟩) b hpl;exact M4 (us:=.ref a::us) (vs:=.ref a::vs) F A i hd n g (.cons rfl r) q2
structure Mk(K:ZX)(C f:Addr):Prop where
 makes:PySem.W.makesIn K C=true
 init:.es "__init__"=some .jz
 fn:.mN .aE=true
 kp:.dX .bH=true
def M5{Q:VK}(M:Mk X.K C f)(F:.mn)(w:iz (k+1) X.A)(i:.mv)(hd:bM dvs ds)
  (l:ue CX X E) (I:.x) (r:bM vs us)
  (h:∀x dx,H x=none->H dx=none->dx≠x->sp (.ref x::.gF) (upd (.a2 dx .hX) x .uZ) (λv j=>v=.non/\Q .jX j) E) :
  wpAny .aq X.A (call .bH us) .cp X.xe s:=by
 have d:=h .b5 s.heap.objs.size (I.hok.fresh<|Nat.le_succ _) .fx (ZN<|Z6 _);have b:=Inv.made (C:=C) I;have c:bM (V.ref .b5::.gF) (Value.ref .b5::.h2):=.cons rfl (r.append hd);have q:(Value.ref .b5::us++ds).length=ps.length:=by
  have e:=c.length;rw[F.len _ _ _ _ d]at e;exact e.symm
 refine wpAny_call (M0 (f:=f) I.kIn M.makes M.init (beq_iff_eq.mp M.fn) (codeAny_mono (F.run _ X.stack _ _ ⟨Value.ref .i1 :: us,[]⟩ (Value.ref .i1 :: .h2) _ _ E (w.make C us [])
  (b.env0.make C us []) (i _ (Value.ref .b5::us) b.kIn q) c d) λr z a=>?_))
 cases r with
 |error e=>exact l pins σ _ _ e z b a
 |ok A =>
  cases A with
  |ret u =>
   obtain⟨v,y,g,B,n,q3⟩:=b.after a;subst n;exact⟨B,⟨V.ref .b5,y,g,rfl,q3⟩⟩
  |next=>exact False.elim a
  |brk=>exact False.elim a
  |cont=>exact False.elim a
def QQ(M:Mk X.K C f)(F:.mn)(i:iz (k+1) X.A)(g:.ab x)(hm:X.mg x=some .bH)(c:.mv)(hd:bM dvs ds)(d:ue CX X E)
  (j:.kg) (a:.a4=false:=by decide) (he:.it X.env=(false,.aB X.env)::starEach es X.env:=by rfl) (hpl:(.iM).any (·.1)=false:=by rfl) :
  PE X .qv (Wm C sp dvs E t):=by
 intro pins s σ H Q I h;refine zXh (B9 I g hm ?_ a);refine PySem.W.callWith_K (h₀ := X.base) I.ok.mod.kin M.kp (thn (j pos pins s σ H _ I h) λl v ⟨u,n,b,r,q⟩=>⟨b.kIn,?_⟩) he hpl;exact M5 M F i c hd d b r q
end
section
variable{X:Cx}{CX:CXT}{k:Nat}{f C:Addr}{fd:.gU}{ps ks:.az}{sp:Sp}{E:XK}{x m:Str}{p pos apos kpos:Pos}{e o:Expr}{es:.aO}{kws:List Keyword}{te ta:TE}{t tk:TA}{nm:Option Str}
structure X2(K:ZX)(fd:.gU)(ps ks:.az)(g:List S1->List S1->List S1)(gV:List V->List V->List V):Prop where
 to:∀(s:P1) (us ws:List S1),K.In s.heap->(g us ws).length=ps.length->.kB ⟨us,ks.zip ws⟩ (ps.zip<|g us ws)
 rel:∀{vs:List V} {us:List S1} {zs:List V} {ws:List S1},bM vs us->bM zs ws->bM (gV vs zs) (g us ws)
variable{g:List S1->List S1->List S1}{gV:List V->List V->List V}
end
structure gF(N P:.az)(sc:Scope):Prop where
 kind:sc.kind=.function
 co:sc.isCoroutine=false
 gen:sc.isGenerator=false
 nd:N.Nodup
 pre:N.take P.length=P
 par:∀x∈P,sc.names.lookup x=some .local\/sc.names.lookup x=some .cell
 nofree:∀y∈sc.names,y.2 ≠ .free
theorem AL{b:.pZ}{x:Str}:∀{a:List .jG} {m:.aw},(∀v,(x,v)∉a)->bindL b a m x=m x
 |[],_,_=>rfl
 |(n,v)::r,m,h=>by
  unfold bindL;rw[AL λw c=>h w (ZW _ c)];split
  ·have:x≠n:=by rintro rfl;exact h v ZV
   simp[this]
  ·rfl
theorem AM{b:.pZ}{x:Str}:∀{a:List .jG} {m:.aw},(∀v,(x,v)∉a)->bindC b a m x=m x
 |[],_,_=>rfl
 |(n,v)::r,m,h=>by
  unfold bindC;rw[AM λw c=>h w (ZW _ c)];split
  ·rfl
  ·have:x≠n:=by rintro rfl;exact h v ZV
   simp[this]
theorem AN{a:.pZ}{x:Str}{v:S1}:∀{P:.az} {vs:List S1} {i:Nat} {m:.aw},P.Nodup->P[i]?=some x->vs[i]?=some v->a x=some .local->
  bindL a (P.zip vs) m x=some v
 |[],_,_,_,_,h,_,_=>by simp at h
 |_::_,[],_,_,_,_,h,_=>by simp at h
 |p::P,w::vs,0,m,nd,h1,b,c=>by
  simp at h1 b;subst h1;subst b;show bindL a .oC m p=_;unfold bindL;rw[AL λv d=>(.hW).1 (List.of_mem_zip d).1,zE c];simp
 |p::P,w::vs,i+1,m,nd,h1,b,c=>by
  show bindL a .oC m x=_;unfold bindL;exact AN (i:=i) (.hW).2 .iS .tU c
theorem AO{a:.pZ}{x:Str}{v:S1}:∀{P:.az} {vs:List S1} {i:Nat} {m:.aw},P.Nodup->P[i]?=some x->vs[i]?=some v->a x≠some .local->
  bindC a (P.zip vs) m x=some v
 |[],_,_,_,_,h,_,_=>by simp at h
 |_::_,[],_,_,_,_,h,_=>by simp at h
 |p::P,w::vs,0,m,nd,h1,b,c=>by
  simp at h1 b;subst h1;subst b;show bindC a .oC m p=_;unfold bindC;rw[AM λv d=>(.hW).1 (List.of_mem_zip d).1,zF c];simp
 |p::P,w::vs,i+1,m,nd,h1,b,c=>by
  show bindC a .oC m x=_;unfold bindC;exact AO (i:=i) (.hW).2 .iS .tU c
/---/def oW(N:.az)(vs:List V):St:=vs.map some++List.replicate (N.length-vs.length) none
def Cc(CX:CXT)(P:N3)(w:N6)(K:ZX)(mg:.aw)(base:Heap)(N:.az)(qual:Str)(scope:Scope)(f:Addr)(cd:S1)(A:P2)(outer:.eo)(s:P1)(H:Hp)(E:XK):Cx where
 prog:=P
 w:=w
 K:=K
 mg:=mg
 base:=base
 A:=A.deeper .r2
 N:=N
 s₀ := s
 H₀ := H
 env:=envOfC qual scope s.heap.objs.size f cd
 outer:=outer
 stack:=envOfC qual scope s.heap.objs.size f cd::outer
 ex:=[]
 calm:=true
 fn:=λ_=>true
 pn:=[]
 xe:=λe s'=>wpAny .gu (A.deeper .r2) (leaving .r2 e) (λ_ s''=>CX outer H s E e s'') (λe' s''=>CX outer H s E e' s'') s'
def Ed{a:Scope}(h:a.names.lookup x=some .cell):∃c,(cellsFrom n a.names []).lookup x=some c:=by
 have q:=PySem.W.cellsFrom_some a.names n [] (.inl h);exact Option.isSome_iff_exists.mp q
def KJ{CX:CXT}{scope:Scope}{f:Addr}{D:S1}{outer:.eo}{I:P1}{E:XK}{vs:List V}
  (S:gF N ps scope) (hd:.ib) (j:.EH) (R:vs.length=ps.length) (r:bM vs us)
  (x:InCallC s s.heap.objs.size (bindL (.zW).kindOf .jC λ_=>none) .AT (bindC (.zW).kindOf .jC λ_=>none) I) :
  Inv .yH [] .mf H I:=by
 have J:ps.length<=N.length:=by have:=congrArg List.length S.pre;rw[vf]at this;omega
 obtain⟨B,O,rfl,F⟩:=x.done;have m:∀b:Addr,b∉(.yH).ex:=λb z=>absurd (show b∈([] : List Addr) from z) .f;refine⟨⟨j.mod,S.kind,rfl,rfl,ZL _,λy z c B g => ?_,λy l => ?_,λy c _ h => ?_,λ_=>hd,Around.frames_deeper j.frames,.inr ⟨rfl,rfl⟩,λb z=>.f0 (m b),j.bs,j.bsz,λb _ _=>m b,λb z=>.f0 (m b),j.funs,j.frf⟩,
  rfl,j.bare,Un.kept F,⟨_,x.toInCall.ns,λi y v B g Q=>?_⟩,λy c h=>⟨_,x.cell y c h⟩,j.hok.fresh .B,λy c h=>?_,λp t=>absurd (show p∈([]:List .ff) from t) .f,j.hok.kept F,?_⟩
 ·exact name_of_addr x.apart (zYa B) (zYa g)
 ·have l:scope.names.lookup y=some .cell\/scope.names.lookup y=some .free:=l
  rcases l with l|l
  ·exact Ed l
  ·exact absurd rfl (S.nofree _<|zYa l)
 ·exact YB .DX
 ·have C:i<vs.length:=by
   unfold oW at g
   by_cases C:i<vs.length
   ·exact C
   ·rw[ZD (by simpa using C)]at g
    rw[List.getElem?_replicate]at g;split at g<;>cases g
  have L:vs[i]?=some v:=by
   unfold oW at g;rw[ZC (by simpa using C),ZQ]at g;cases e:vs[i]? with
   |none=>rw[e]at g;cases g
   |some a=>rw[e]at g;cases g;rfl
  obtain⟨u,G,M⟩:=r.get L;have t:ps[i]?=some y:=by
   rw[<-S.pre,zXe .b];exact B
  have o:ps.Nodup:=by rw[<-S.pre];exact S.nd.sublist (List.take_sublist _ _)
  refine⟨u,M,?_⟩;rcases S.par y (ZK t) with k|k
  ·exact .inl ⟨k,AN o t G k⟩
  ·obtain⟨c,e⟩:=Ed (n:=s.heap.objs.size+1) k
   refine .inr ⟨.inl k,c,e,?_⟩;have q:=x.cell y c e;rw[AO o t G (by show scope.names.lookup y≠_;rw[k];decide)]at q;exact q
 ·exact j.hok.fresh (YB .DX)
 ·unfold oW
  show _=N.length;rw[ZB,ZA,zZr];omega
def Wn{name a:Str}{d:Arguments}{body:.fS}{scope:Scope}{O kV l pm c ct Z:S1}{R od:.cw}
  {C:.fQ} {N ps:.az} {sp:Sp} (lk:K.lookup f=some ⟨Z,od,.func .yu,C⟩) (D:.iq c a=true) (S:gF N ps scope)
  (len:.Ee)
  (i:∀(A:P2) (outer:.eo) (s:P1) (H:Hp) (vs:List V) (Q:VK) (E:XK),iz k (A.deeper<|envOfC a scope s.heap.objs.size f c)->sp vs H Q E->
   ∃t,PSs .rM body t/\t { nx:=λ_ g=>Q .non g,rt:=Q } .mf H) :
  ji P w K mg base CX (k+1) f .yu ps sp:=by
 refine⟨len,λA outer s H M Y vs Q E z m W r p=>?_⟩;have T:=len _ _ _ _ p;have KX:K.In s.heap:=m.mod.kin.keeps λb o e=>(m.bs b o e).1;have G:s.heap.NoLimit:=m.mod.nolimit.keeps λb o e=>(m.bs b o e).1;have h:∀y∈ps.zip Y,scope.names.lookup y.1=some .local\/(scope.names.lookup y.1=some .cell/\((.AT).lookup y.1).isSome=true):=λ⟨n,v⟩ hy=>by
  rcases S.par n (List.of_mem_zip hy).1 with q|q
  ·exact .inl q
  ·exact .inr ⟨q,PySem.W.cellsFrom_some _ _ _ (.inl q)⟩
 refine codeAny_call_function z.depth (KX _ _ lk) rfl S.co S.gen rfl (PySem.W.codeRec_of KX D) (W _ _ _ _ ?_);refine wpAny_newFunctionEnv_cells S.kind h λX he L x=>?_;subst he;refine⟨G.keeps x.toInCall.keep,codeAny_func ?_⟩;obtain⟨t,ht,U⟩:=i A outer s H vs Q E (z.deeper _) p;have I:Inv .rM [] .mf H L:=KJ S z.hd m T r x;refine zXq (ht [] L .mf H _ I U) (λfl F j=>?_) λe F j=>j;have fin:∀{σ':St} {g:Hp} {v:V} {u:S1},Inv .rM [] σ' g F->cU v u->Q v g->CE outer P w H s Q u F :=
  λ{σ' g v u} J B q=>⟨v,g,J.os,J.bare,J.base,J.hok,B,q⟩
 cases fl with
 |ret u =>
  obtain⟨v,σ',g,J,B,q⟩:=j;exact fin J B q
 |next =>
  obtain⟨σ',g,J,q⟩:=j;exact fin (v:=V.non) (u:=Value.none) J rfl q
 |brk =>
  obtain⟨_,_,_,q⟩:=j;exact False.elim q
 |cont =>
  obtain⟨_,_,_,q⟩:=j;exact False.elim q
section
variable{X:Cx}{x:Str}{p pos:Pos}{e:Expr}{es:.aO}{t:TA}{id T:String}{r:.j4}
/---/def tCB(r:.j4)(t:TA):TE:=λσ H Q=>t σ H λvs H1=>r vs H1 Q
def oX(i:jm X .fC r)(m:.ab x)(hm:.kf)(f:bootBuiltins x=some .fC)(l:.kg)(hn:x≠"__name__" := by decide)(a:.a4=false:=by decide)
  (he:.it X.env=(false,.aB X.env)::starEach es X.env:=by rfl) (hpl:(.iM).any (·.1)=false:=by rfl):.D .qv (tCB r t):=by
 intro pins s σ H Q I h;refine zXh (oT I m hm f ?_ hn a);exact PyProof.Rows.callWith_builtin1 .wU he hpl
def AQ(i:jm X .jV r)(m:.ab x)(hm:.kf)(f:bootBuiltins x=some .jV)(l:.kg)(hn:x≠"__name__" := by decide)(a:.a4=false:=by decide)
  (he:.it X.env=(false,.aB X.env)::starEach es X.env:=by rfl) (hpl:(.iM).any (·.1)=false:=by rfl):.D .qv (tCB r t):=by
 intro pins s σ H Q I h;refine zXh (oT I m hm f ?_ hn a);exact Y1 .wU he hpl
end
end L2
namespace HT
open PySem PyProof.Rows
def lexLt:List Int->List Int->Bool
 |[],[]=>false
 |[],_::_=>true
 |_::_,[]=>false
 |x::xs,y::ys=>if x=y then lexLt xs ys else decide (x<y)
def G5(x y:Int)(xs ys:.c):lexLt .dL (y::ys)=if x=y then lexLt xs ys else decide (x<y):=rfl
def zS:lexLt [] []=false:=rfl
def xP(y:Int)(ys:.c):lexLt [] (y::ys)=true:=rfl
def xQ(x:Int)(xs:.c):lexLt .dL []=false:=rfl
def M6(A:P2)(s:P1)(a:Int)(t:Tok)(c:Int)(u:Tok):∃e,SeqAt.EqAt A s (.int a t) (.int c u) e/\(e=true↔a=c) :=
 ⟨(a == c),zXi a t c u,by simp⟩
def M7(A:P2)(s:P1)(a:Int)(t:Tok)(c:Int)(u:Tok)(prog:N3)(w:N6)(E:.R)(Q:.R)(h:Q (.bool<|decide (a<c)) s):
  wpAny .aC A (richCompare .Lt (.int a t)<|.int c u) Q E s :=
 (PyProof.Rows.lt_int h:.bP (compareOp .Lt (.int a t)<|.int c u) Q E s)
section
open PySem.SeqAt
open PySem.AutoSeq1 (wpAny_loadPart')
open PySem.MeetsSeq PySem.MeetsSeq2 PySem.MeetsSeq3
def zT(l b:Addr)(i f:.bL)(n S:Nat)(O L:.cw)(V I:.fQ)(ns C:.c)(hi:IntsAre i.toList ns)(N:IntsAre f.toList C):
  Meets (Builtin.«tuple.__lt__» ⟨[.ref l,.ref b],[]⟩)
   (λ_ R s=>s.heap.get? l=some { cls:=.type "tuple",dict:=O,data:=.seq i n,slots:=V }/\s.heap.get? b=some { cls:=.type "tuple",dict:=L,data:=.seq f S,slots:=I }/\
    R (.ok<|.ret<|.bool<|lexLt ns C) s) :=
 .of_wp λprog w A R s h=>by
  obtain⟨G,g,d,D,E⟩:=s;obtain⟨Q,T,h⟩:=h;have Z:=AutoSeq1.sub_tuple_tuple;have z1:i.size=ns.length:=by rw[<-hi.length];simp
  have Y:f.size=C.length:=by rw[<-N.length];simp
  wp_walk using Y7 Q,Y7 T,wpAny_forIn_list _ (λrest b K=>b.1=none/\K=⟨G,g,d,D,E⟩/\∃(F H:List S1) (m k:.c),rest=F.zip H/\
   IntsAre F m/\IntsAre H k/\m.length+f.size=k.length+i.size/\R (.ok<|.ret<|.bool<|lexLt m k) ⟨G,g,d,D,E⟩) _
  case turn =>
   rintro⟨y,x⟩ rest b K ⟨z,rfl,F,H,m,k,o,B,p,j,v⟩;cases B with
   |nil=>rw[List.zip_nil_left]at o;cases o
   |cons a t hvi' =>
    cases p with
    |nil=>rw[List.zip_nil_right]at o;cases o
    |cons c u hwi' =>
     rw[zXj]at o;injection o with hyx hrest
     injection hyx with X P
     subst X P;rw[G5]at v;dsimp[wI]at j;obtain⟨e,W,r⟩:=M6 A.in1 ⟨G,g,d,D,E⟩ a t c u;refine zD (W prog w _ _ ?_);cases e with
     |true =>
      rw[zE (r.mp rfl)]at v
      wp_walk
      exact⟨rfl,rfl,_,_,_,_,hrest,hvi',hwi',by omega,v⟩
     |false =>
      rw[zF (λq=>absurd (r.mpr q) Z4)]at v;have J:=M7 A.in1 ⟨G,g,d,D,E⟩ a t c u prog w
      wp_walk using J
      exact⟨_,rfl,by simpa using v⟩
  case fin =>
   rintro⟨b1,b2⟩ K ⟨z,rfl,F,H,m,k,o,B,p,j,v⟩;simp only at z;subst z;have M:lexLt m k=decide (i.size<f.size):=by
    cases B with
    |nil =>
     cases p with
     |nil =>
      dsimp[YY]at j;rw[zS];exact(z4 .b).symm
     |cons c u U =>
      dsimp[YY,wI]at j;rw[xP];exact(z3 .b).symm
    |cons a t M =>
     cases p with
     |nil =>
      dsimp[YY,wI]at j;rw[xQ];exact(z4 .b).symm
     |cons c u U =>
      rw[zXj]at o;cases o
   rw[M]at v
   wp_walk
   exact⟨_,rfl,by simpa[Builtin.Tuple.tupleCompareSizes] using v⟩
  case h =>
   exact⟨rfl,rfl,i.toList,f.toList,ns,C,rfl,hi,N,by omega,h⟩
end
section
variable{prog:N3}{w:N6}{A:P2}{E:.R}{s:P1}
def lt_tupInts(v:.kA l c)(r:.kA b a)(hi:IntsAre c.toList ns)(B:IntsAre a.toList g)
  (u:A.units<cLine) (h:Q (.bool<|lexLt ns g) s):.bP (compareOp .Lt .jY<|.ref b) Q E s:=by
 obtain⟨⟨cls,t,data,z⟩,m,p,n,q⟩:=id v;obtain⟨⟨o,k,j,i⟩,f,e,y,d⟩:=id r;simp only at p q e d;subst p q e d;exact richCompare_meets_room (op:=.Lt) ⟨_,m,rfl⟩ ⟨_,f,rfl⟩ PySem.F.slot_tuple_lt PySem.F.entry_tuple_lt (PySem.F.args_tuple_lt_2 _ _) (zT l b c a n y t k z i ns g hi B)
  ⟨m,f,show Value.bool (lexLt ns g)≠Value.notImplemented/\Q (.bool<|lexLt ns g) s from ⟨(λx=>nomatch x),h⟩⟩ u
def cat_tup(ht:.kA t vs.toArray)(v:.kA b a.toArray)(l:vs≠[])
  (h1:a=[]->Q .hU s) (x:a≠[]->Q .hy { s with heap:=s.heap.push { cls:=.type "tuple",data:=.seq (vs++a).toArray } })
  (hsz:vs.length+a.length<=sizeLine):.bP (binaryOp .Add .hU<|.ref b) Q E s:=by
 obtain⟨⟨cls,m,data,r⟩,i,p,n,u⟩:=id ht;obtain⟨⟨o,h,k,g⟩,c,f,q,d⟩:=id v;simp only at p u f d;subst p u f d;have e:vs.toArray++a.toArray=(vs++a).toArray:=by simp
 by_cases j:a=[]
 ·exact concat_meets ⟨_,i,rfl⟩ ⟨_,c,rfl⟩ noFill_tuple_add seq_tuple_add PySem.F.slot_tuple_add PySem.F.entry_tuple_add (zXf _ _)
   (tuple_addW1 t b vs.toArray a.toArray n q m h r g (by simpa using l) (by simp[j])) ⟨i,c,h1 j⟩
 ·refine concat_meets ⟨_,i,rfl⟩ ⟨_,c,rfl⟩ noFill_tuple_add seq_tuple_add PySem.F.slot_tuple_add PySem.F.entry_tuple_add (zXf _ _)
   (tuple_addW2 t b vs.toArray a.toArray n q m h r g (by simpa using l) (by simpa using j) (by rw[v3,v3];exact hsz)) ⟨i,c,?_⟩
  rw[e];exact x j
def sIx(n d:Nat):Option Int->Nat
 |none=>d
 |some v=>if v<0 then (v+(n:Int)).toNat else min v.toNat n
def Ui(n d:Nat)(hd:d<=n)(o:.aF):sIx n d o<=n:=by
 cases o with
 |none=>exact hd
 |some v =>
  show .yy<=n
  by_cases a:v<0
  ·rw[zE a];omega
  ·rw[zF a];exact Nat.min_le_right _ _
def Jd(v:Int)(n d:Nat):.yx=((sIx n d .fH:Nat):Int):=by
 show .yx=((.yy:Nat):Int)
 by_cases a:v<0
 ·dsimp[zE a];omega
 ·dsimp[zF a];omega
def G6(lo hi:.aF)(n:Nat):Builtin.Slice.sliceAdjust lo hi 1 (n:Int)=(((sIx n 0 lo:Nat):Int),((sIx n n hi:Nat):Int)):=by
 have a:¬((1:Int)<0):=by omega
 unfold Builtin.Slice.sliceAdjust;dsimp[a,zZb];refine Prod.ext ?_ ?_
 ·cases lo with
  |none=>rfl
  |some v=>exact Jd v n 0
 ·cases hi with
  |none=>rfl
  |some v=>exact Jd v n n
def G7(i j:Nat):Builtin.Slice.slicePlaces (i:Int) (j:Int) 1=j-i:=by
 unfold Builtin.Slice.slicePlaces;have a:(1:Int)>0:=by omega
 dsimp[a,Y5,Int.ediv_one];split<;>omega
def xR(p:IsPart v o)(h:Q o s):.bP (Builtin.Slice.slicePartIndex v) Q E s:=by
 cases p with
 |none=>exact slicePart_none h
 |int i t=>exact slicePart_int h
def mr{lo hi:.aF}{Q:Int × Int × Nat->P1->Prop}(i:s.heap.IsSliceOf e c d .none)(pl:IsPart c lo)(g:IsPart d hi)
  (h:Q (((sIx n 0 lo:Nat):Int),1,sIx n n hi-sIx n 0 lo) s):.bP (Builtin.Slice.sliceApplied (.ref e)<|pure (n:Int)) Q E s:=by
 obtain⟨j,b,f,a⟩:=id i;unfold Builtin.Slice.sliceApplied Builtin.Slice.sliceFields;refine zD (zD<|W1 b a (x:=c) rfl<|zD<|W1 b a (x:=d) rfl<|zD<|W1 b a (x:=.none) rfl .cU);refine zD (slicePart_none ?_);show wpAny _ _ (if ((1:Int) == 0)=true then _ else _) _ _ s;rw[zF .a];refine zD (xR pl<|zD<|xR g<|zD .cU);show wpAny _ _ (match Builtin.Slice.sliceAdjust lo hi 1 (n:Int) with|(lo,hi)=>pure (lo,(1:Int),Builtin.Slice.slicePlaces lo hi 1)) _ _ s;rw[G6 lo hi n];show wpAny _ _ (pure (((sIx n 0 lo:Nat):Int),(1:Int),Builtin.Slice.slicePlaces ((sIx n 0 lo:Nat):Int) ((sIx n n hi:Nat):Int) 1)) _ _ s;rw[G7];exact x3 h
def M8(xs:.bL)(i k:Nat):((.oU).filterMap λ(m:Nat)=>xs[(.tH).toNat]?).toArray=((xs.toList.drop i).take k).toArray:=by
 have e:(λ(m:Nat)=>xs[(.tH).toNat]?)=λm=>xs[i+m]? := by
  funext m;have:(.tH).toNat=i+m:=by omega
  rw[this]
 rw[e];have:=pick_run xs i k;rw[List.filterMap_map]at this;have a:((λx=>xs[x]?) ∘ λx=>i+x)=λm=>xs[i+m]? := rfl;rw[a]at this;rw[this]
def getItem_tuple_cut{lo hi:.aF}(ht:.kA t a)(j:s.heap.IsSliceOf d i k .none)(pl:IsPart i lo)(p:IsPart k hi)
  (l:¬(sIx a.size 0 lo=0/\sIx a.size a.size hi=a.size))
  (h:Q .hy { s with heap:=s.heap.push { cls:=.type "tuple",data:=.seq (.rc).toArray } })
  (hsz:a.size<=sizeLine):.bP .Db Q E s:=by
 have b:sizeOk (.seq (.rc).toArray):=by
  show (.rc).toArray.size<=sizeLine;rw[v3,vf,List.length_drop,Array.length_toList];omega
 have r:sIx a.size a.size hi<=a.size:=Ui _ _ .B hi;obtain⟨n,g,c,o⟩:=id j;have f:s.TypeIs (.ref d) "slice" := ⟨n,g,c⟩;unfold getItem
 try with_reducible refine vr ?_
 first|refine zD .cU|skip
 refine zD (zXm ht.typeIs .a ?_);refine zD (YU (name:=Str.ofString "__getitem__") ht.typeIs vd
  (yo vd ht.typeIs entry_tuple_getitem ?_ .CQ))
 show wpAny _ _ .zE _ _ s;refine zD (tupleItemsOf_ ht ?_);refine zD (wpAny_typeOf f ?_);rw[zE .a];refine zD (mr j pl p ?_);have e:¬(.qW=true):=by
  intro q;rw[ZZ,ZZ]at q;have q1:((sIx a.size 0 lo:Nat):Int)=0:=eq_of_beq q.1.1;have q2:sIx a.size a.size hi-sIx a.size 0 lo=a.size:=eq_of_beq q.2;exact l ⟨by omega,by omega⟩
 show wpAny _ _ .BJ _ _ s;rw[zF e,M8]
 first
  |exact zD (m:=Builtin.Tuple.tupleExact _) (zZg .i4 b)
  |exact zD (m:=Builtin.Tuple.tupleExact _) (zZg (zD (x3 .i4)) b)
  |exact zD (zD (m:=Builtin.Tuple.tupleExact _) (zZg (x3 .i4) b))
  |exact zD (zD (m:=Builtin.Tuple.tupleExact _) (zZg .i4 b))
end
end HT
namespace L2
open PySem PySem.Spec PyProof.Rows
abbrev TO:=St->Hp->(Option Int->Hp->Prop)->Prop
/---/def PO(X:Cx)(e:.mD)(t:TO):Prop :=
 ∀(pins:.N) (s:P1) (σ:St) (H:Hp) (Q:Option Int->Hp->Prop),Inv X pins σ H s->t σ H Q->
  wpAny .aq X.A (evalPart e X.env) (λu s'=>∃o H',Inv X pins σ H' s'/\IsPart u o/\Q o H') X.xe s
/---/def QR:TO:=λ_ H Q=>Q none H
/---/def Wo(t:TE):TO:=λσ H Q=>t σ H λx H1=>∃i,x=.int i/\Q (some i) H1
def qI:∀{us:List S1},bM .dE us->IntsAre us ns:=by
 induction ns with
 |nil=>intro us r;rw[zo]at r;cases r;exact .nil
 |cons n ns b =>
  intro us r;rw[z5]at r;cases r with
  |cons a c =>
   obtain⟨t,e⟩:=a;subst e;exact .cons n t (b c)
section
variable{X:Cx}{e:Expr}{te:TE}{lo hi:.mD}{tl th:TO}{pos p2:Pos}
def QS:PO X none QR:=by
 intro pins s σ H Q I h;rw[evalPart_none];exact x3 ⟨none,H,I,.none,h⟩
def QT(h:.D e te):PO X (some e) (Wo te):=by
 intro pins s σ H Q I d;rw[evalPart_some];refine thn (.dq _ I d) λu f ⟨x,c,b,a,q1⟩=>?_;obtain⟨i,rfl,q⟩:=q1;obtain⟨t,rfl⟩:=a;exact⟨some i,c,b,.int i t,q⟩
/---/def SlR(X:Cx)(r:.Ei):Prop :=
 ∀(pins:.N) (s:P1) (σ:St) (H:Hp) (x:V) (v vl vu:S1) (lo hi:.aF) (sl:Addr) (Q:VK),Inv X pins σ H s->cU x v->s.heap.IsSliceOf sl vl vu .none->IsPart vl lo->IsPart vu hi->r x lo hi H Q->
  ∃T id,typeLookup .jV "__getitem__"=pure (some .fC)/\s.TypeIs v T/\.aS (getItem v<|.ref sl) .cp X.xe s
def SlR.or(h:SlR X r)(h':SlR X b):SlR X (λx lo hi H Q=>r x lo hi H Q\/b x lo hi H Q):=by
 intro pins s σ H x v d j lo hi a Q I g i f c q;rcases q with q|q
 ·exact .dq x v d j lo hi a Q I g i f c q
 ·exact h' pins s σ H x v d j lo hi a Q I g i f c q
/---/def tSl(r:.Ei)(te:TE)(tl th:TO):TE:=λσ H Q=>te σ H λx H1=>tl σ H1 λl H2=>th σ H2 λu H3=>r x l u H3 Q
def xS(z:SlR X r)(he:.D e te)(t:PO X lo tl)(k:PO X hi th):.D (.dk e<|.mG p2) (tSl r te tl th):=by
 intro pins s σ H Q I h;refine Subscript_ (thn .eD λv y ⟨x,m,A,g,q1⟩=>?_);refine wpAny_Slice (thn (t pins y σ m _ A q1) λc o ⟨l,j,E,D,q2⟩=>thn (k pins o σ j _ E q2) λd a ⟨u,f,i,B,q3⟩=>?_);rw[evalPart_none];refine x3 ?_;have w:.bE f .rd:=i.kept (t':=a.toks) λb F q=>.aa q;obtain⟨T,id,C,n,p⟩:=z pins .rd σ f x v c d l u a.heap.objs.size Q w g (Heap.IsSliceOf.new ..) D B q3;show wpAny .aq X.A (subscriptTail e (.mG p2) v<|.ref a.heap.objs.size) .cp X.xe .rd;exact tail_any (ops:=[.ref a.heap.objs.size,v]) n C p (by with_unfolding_all rfl)
/---/def uf(xs:List V)(lo hi:.aF):List V:=(xs.drop<|HT.sIx xs.length 0 lo).take (HT.sIx xs.length xs.length hi-HT.sIx xs.length 0 lo)
def vN(xs:List V)(lo hi:.aF):(.tN).length<=xs.length:=by
 unfold uf;rw[vf,List.length_drop];omega
/---/def X3(K:ZX):V->Option Int->Option Int->Hp->VK->Prop:=λx lo hi H Q=>∃a xs,x=.ref a/\SqT K H a xs/\
 ¬.ro/\∀p,H p=none->.d1 .DY
def M9:SlR X (X3 X.K):=by
 intro pins s σ H x v t u lo hi w Q I k m p n h;obtain⟨a,d,rfl,j,l,q⟩:=h;cases k;obtain⟨f,r,i,g⟩:=I.tuple j;have c:f.toArray.size=d.length:=by rw[v3];exact r.length.symm
 refine⟨"tuple",_,PyProof.Rows.slot_tuple_getitem.lookup,i.typeIs,?_⟩;refine HT.getItem_tuple_cut i m p n (by rw[c];exact l) ?_ (by rw[c];exact g);rw[c];refine⟨.ref s.heap.objs.size,_,I.laid (t':=s.toks) (o:=.tup (uf d lo hi)) (λb y q=>.aa q) .B ?_,rfl,q _ .fx⟩;exact⟨ZM (vN d lo hi) g,_,(r.drop<|HT.sIx d.length 0 lo).take (HT.sIx d.length d.length hi-HT.sIx d.length 0 lo),IsTup.new _ _⟩
/---/def Wp(K:ZX):R2:=λx y H Q=>∃a b ns ms,x=.ref a/\y=.ref b/\SqT K H a .dE/\SqT K H b (ms.map V.int)/\Q (.bl<|HT.lexLt ns ms) H
def Na(n:X.A.units<cLine):.Y (.er .Lt) (Wp X.K):=by
 intro pins s σ H x y v u Q I o p h;obtain⟨a,b,f,g,rfl,rfl,t,k,q⟩:=h;cases o;cases p;obtain⟨d,j,i,_⟩:=I.tuple t;obtain⟨c,m,p2,_⟩:=I.tuple k;have l:IntsAre d.toArray.toList f:=qI j;have r:IntsAre c.toArray.toList g:=qI m;exact HT.lt_tupInts i p2 l r n ⟨.bl (HT.lexLt f g),H,I,rfl,q⟩
/---/def Ee(K:ZX):R2:=λx y H Q=>∃a b xs ys,x=.ref a/\y=.ref b/\SqT K H a xs/\SqT K H b ys/\xs≠[]/\xs.length+ys.length<=sizeLine/\
 (ys=[]->Q .de H)/\(ys≠[]->∀p,H p=none->.d1 (.cg<|.tup<|xs++ys))
def bM.nil_iff(r:bM xs us):us=[]↔xs=[]:=by
 cases r with
 |nil=>simp
 |cons _ _=>simp
def Je:.Y .hI (Ee X.K):=by
 intro pins s σ H x y v u Q I n p h;obtain⟨a,b,r,l,rfl,rfl,t,j,m,f,q1,q2⟩:=h;cases n;cases p;obtain⟨k,d,i,_⟩:=I.tuple t;obtain⟨g,c,p2,_⟩:=I.tuple j;refine HT.cat_tup i p2 (λz=>m (d.nil_iff.mp z)) (λz=>⟨.ref a,H,I,rfl,q1 (c.nil_iff.mp z)⟩) (λz=>?_) (by rw[<-d.length,<-c.length];exact f);refine⟨.ref s.heap.objs.size,_,I.laid (t':=s.toks) (o:=.tup (r++l)) (λb A q=>.aa q) .B ?_,rfl,q2 (λw=>z (c.nil_iff.mpr w)) _ .fx⟩;exact⟨by rw[ZB];exact f,_,d.append c,IsTup.new _ _⟩
end
/---/def ixN(n:Nat)(i:Int):Option Nat:=if 0<=i then .z3 else if -(n:Int)<=i then some (i+n).toNat else none
/---/def atI{α:Type}(xs:List α)(i:Int):Option α := (ixN xs.length i).bind λj=>xs[j]?
def Jf(h:ixN n i=some j):seqIndex? i n=some j/\j<n/\-(n:Int)<=i/\i<n:=by
 unfold ixN at h
 by_cases b:0<=i
 ·rw[zE b]at h
  by_cases a:i<n
  ·rw[zE a]at h
   have e:i.toNat=j:=ZT h;exact⟨by rw[seqIndex_of b a,e],by omega,by omega,a⟩
  ·rw[zF a]at h;cases h
 ·rw[zF b]at h
  by_cases a : -(n:Int)<=i
  ·rw[zE a]at h
   have e:(i+n).toNat=j:=ZT h;exact⟨by rw[seqIndex_neg .b a,e],by omega,a,by omega⟩
  ·rw[zF a]at h;cases h
def Cd(h:atI xs i=some v):∃j,seqIndex? i xs.length=some j/\xs[j]?=some v/\j<xs.length/\-(xs.length:Int)<=i/\i<xs.length:=by
 unfold atI at h;cases e:ixN xs.length i with
 |none=>rw[e]at h;cases h
 |some j =>
  rw[e]at h;obtain⟨d,b,a,c⟩:=Jf e;exact⟨j,d,h,b,a,c⟩
def dN{α:Type}{xs:List α}{j:Nat}{v:α}(h:xs[j]?=some v):atI xs (j:Int)=some v:=by
 have a:j<xs.length:=(zA.mp h).1;have e:ixN xs.length (j:Int)=some j:=by
  unfold ixN;rw[zE .b,zE .b];simp
 unfold atI;rw[e];exact h
def Ef{α:Type}(xs:List α)(v:α):atI (xs++[v]) (-1)=some v:=by
 have a:(xs++[v]).length=xs.length+1:=by simp
 have e:ixN (xs++[v]).length (-1)=some xs.length:=by
  unfold ixN;rw[a,zF .a,zE .b];congr 1;omega
 unfold atI;rw[e];show (xs++[v])[xs.length]?=some v;simp
/---/def xg(b:Expr):Prop:=∀o i,subscripted b false o i=operate [o,i] (getItem o i)
/---/def IxR(X:Cx)(r:R2):Prop :=
 ∀(value slice:Expr) (pins:.N) (s:P1) (σ:St) (H:Hp) (x y:V) (v u:S1) (Q:VK),Inv X pins σ H s->cU x v->cU y u->r x y H Q->
  subscripted slice false v u=operate [v,u] (getItem v u)->.aS (subscriptTail value slice v u) .cp X.xe s
/---/def MtR(X:Cx)(id:String)(r:.pU):Prop :=
 ∀(pins:.N) (s:P1) (σ:St) (H:Hp) (x:V) (xs:List V) (v:S1) (us:List S1) (Q:VK),Inv X pins σ H s->cU x v->bM xs us->r x xs H Q->
  wpAny .aq X.A (call .fC (v::us)) .cp X.xe s
section
variable{X:Cx}{a b:Expr}{ta tb:TE}{pos:Pos}
def IxR.or(h:IxR X r)(h':IxR X d):IxR X .As:=by
 intro value c pins s σ H x y v u Q I f e q g;rcases q with q|q
 ·exact h value c pins s σ H x y v u Q I f e q g
 ·exact h' value c pins s σ H x y v u Q I f e q g
def Nc(e:IxR X r)(g:.el)(c:.ic)(l:xg b):.D (.dk a b) .oX:=by
 intro pins s σ H Q I h;exact Subscript_ (T8 g c I h λv u j x y d i k f q=>e a b pins j σ d x y v u Q i k f q (l _ _))
/---/def Wq(K:ZX):R2:=λx y H Q=>∃p xs i v,x=.ref p/\y=.int i/\SqL K H p xs/\atI xs i=some v/\Q v H
/---/def Wr(K:ZX):R2:=λx y H Q=>∃p xs i v,x=.ref p/\y=.int i/\SqT K H p xs/\atI xs i=some v/\Q v H
/---/def Ws:R2:=λx y H Q=>∃z i c,x=.str z/\y=.int i/\z.length<=sizeLine/\atI z.cps.toList i=some c/\Q (.str ⟨#[c]⟩) H
def Jg:IxR X (Wq X.K):=by
 intro value f pins s σ H x y v u Q I A F h l;obtain⟨p,N,i,z,rfl,rfl,C,D,q⟩:=h;cases A;obtain⟨t,rfl⟩:=F;obtain⟨d,r,k,K⟩:=I.list C;obtain⟨j,c,o,L,J,E⟩:=Cd D;obtain⟨w,m,e⟩:=r.get o;have B:=r.length;have M:=uc;have fin:.g3 w s:=⟨z,H,I,e,q⟩
 by_cases n:0<=i
 ·have g:i.toNat=j:=by
   rw[seqIndex_of n E]at c;exact ZT c
  exact item_listR k.isList n .b .CJ fin l
 ·have g:(i+(d.toArray.size:Int)).toNat=j:=by
   rw[seqIndex_neg .b J]at c;rw[v3,<-B];exact ZT c
  exact subscriptTail_builtinR (x:=w) k.isList.typeIs slot_list_getitem.lookup
   (wpAny_getItem_list_neg (Q:=λr G=>r=w/\.g3 r G) k.isList .b (by rw[v3]<;>omega) .b .CJ ⟨rfl,fin⟩) l
def Uj:IxR X (Wr X.K):=by
 intro value d pins s σ H x y v u Q I l C h m;obtain⟨p,K,i,z,rfl,rfl,o,B,q⟩:=h;cases l;obtain⟨t,rfl⟩:=C;obtain⟨g,r,e,E⟩:=I.tuple o;obtain⟨j,f,k,F,L,G⟩:=Cd B;obtain⟨w,A,c⟩:=r.get k;have n:=r.length;have J:=uc;have fin:.g3 w s:=⟨z,H,I,c,q⟩;exact subscriptTail_builtinR (x:=w) e.typeIs slot_tuple_getitem.lookup
  (getItem_tuple (j:=j) (Q:=λr D=>r=w/\.g3 r D) e .b .b (by rw[v3,<-n];exact f) (by simpa using A) ⟨rfl,fin⟩) m
def Nd:IxR X Ws:=by
 intro value d pins s σ H x y v u Q I k r h l;obtain⟨z,i,c,rfl,rfl,B,o,q⟩:=h;obtain⟨t,rfl⟩:=k;obtain⟨A,rfl⟩:=r;obtain⟨j,e,g,C,w,p⟩:=Cd o;have m:z.cps.toList.length=z.length:=by simp[Str.length]
 rw[m]at e w p;have D:=uc;exact tail_any (zXk s z t) slot_str_getitem.lookup (getItem_str (c:=c) (by
  have f:decide (i < -(2^63:Int))=false:=z4 .b;have n:decide (i≥2^63)=false:=z4 .b;rw[f,n,Bool.or_false]) (by rw[e];simpa using g) ⟨.str ⟨#[c]⟩,H,I.tok _,⟨_,rfl⟩,q⟩) l
/---/def rIx(K:ZX):R2:=λx y H Q=>Wq K x y H Q\/Wr K x y H Q\/Ws x y H Q
def Uk:IxR X (rIx X.K):=Jg.or (Uj.or Nd)
def G8(c:List S1)(n j:Nat)(u:S1):Obj.mapSeq (·.setIfInBounds j u) { cls:=.type "list",data:=.seq c.toArray n } = { cls:=.type "list",data:=.seq (c.set j u).toArray n }:=by
 simp[Obj.mapSeq]
def Inv.lst{σ:St}(I:.x)(h:H p=some .cM):
  ∃(c:List S1) (n:Nat),bM xs c/\s.heap.get? p=some { cls:=.type "list",data:=.seq c.toArray n }/\xs.length<=sizeLine:=by
 obtain⟨z,c,n,r,e⟩:=I.hok p _ h;exact⟨c,n,r,e,z⟩
def Inv.lstUpd{σ:St}{c its':List S1}{f:Obj->Obj}(I:.x)(h:H p=some .cM)
  (j:s.heap.get? p=some { cls:=.type "list",data:=.seq c.toArray n }) (g:f { cls:=.type "list",data:=.seq c.toArray n } = { cls:=.type "list",data:=.seq its'.toArray d }) (r:bM ys its') (hz:.vL) (t:Nat) :
  Inv X pins σ (.cg .gD) { s with heap:=s.heap.update p f,toks:=t }:=by
 have e:(s.heap.update p f).get? p=some { cls:=.type "list",data:=.seq its'.toArray d }:=by
  rw[Heap.get?_update_self f j (by rw[g]<;>rfl),g]
 refine I.write (x:=p) (e:=p) (by rw[h];trivial) .aY (λb u i q=>(Heap.get?_update_other _ _<|wh i).trans q) ⟨_,e⟩ ?_;exact⟨hz,its',d,r,e⟩
/---/def Wt:V->V->V->Hp->(Hp->Prop)->Prop:=λo i v H Q=>∃p xs k j,o=.ref p/\i=.int k/\H p=some .cM/\ixN xs.length k=some j/\Q (.cg<|.lst<|xs.set j v)
def Nf:T3 X Wt:=by
 intro pins s σ H o i v ov J u Q I A B E h;obtain⟨p,D,k,j,rfl,rfl,w,C,q⟩:=h;cases A;obtain⟨t,rfl⟩:=B;obtain⟨c,n,r,f,z⟩:=I.lst w;obtain⟨d,F,m,y⟩:=Jf C;have g:=r.length;have G:=uc;have l:Inv X pins σ (.cg<|.lst<|D.set j v) { s with heap:=s.heap.update p (Obj.mapSeq (·.setIfInBounds j u)) } :=
  I.lstUpd w f (G8 c n j u) (r.set E j) (by rw[zYf];exact z) s.toks
 by_cases x:0<=k
 ·have e:k.toNat=j:=by
   rw[seqIndex_of x y]at d;exact ZT d
  exact PySem.W.ki_setAt f x .b (by rw[v3,<-g];exact y) .BK
 ·have e:(k+(c.toArray.size:Int)).toNat=j:=by
   rw[seqIndex_neg .b m]at d;rw[v3,<-g];exact ZT d
  exact PySem.W.ki_setBack f .b (by rw[v3,<-g];exact m) .b .BK
def Ce(lo hi:.aF)(n:Nat):(.sH).1=((HT.sIx n 0 lo:Nat):Int)/\(.sH).2.1=((HT.sIx n n hi:Nat):Int)/\(.sH).2.2=1:=by
 refine⟨?_,?_,rfl⟩
 ·cases lo with
  |none=>simp[sliceBounds,HT.sIx]
  |some i =>
   dsimp[sliceBounds,HT.sIx,Option.getD_none,show (1:Int)>0 by decide,Y5]
   by_cases h:i<0
   ·dsimp[h,Y5]<;>omega
   ·dsimp[h,zZb]<;>omega
 ·cases hi with
  |none=>simp[sliceBounds,HT.sIx]
  |some i =>
   dsimp[sliceBounds,HT.sIx,Option.getD_none,show (1:Int)>0 by decide,Y5]
   by_cases h:i<0
   ·dsimp[h,Y5]<;>omega
   ·dsimp[h,zZb]<;>omega
def zU(c:List S1)(lo hi:.aF):slicePick c.toArray lo hi none=((c.drop<|HT.sIx c.length 0 lo).take (HT.sIx c.length c.length hi-HT.sIx c.length 0 lo)).toArray:=by
 obtain⟨f,e,d⟩:=Ce lo hi c.toArray.size;unfold slicePick;rw[f,e,d];dsimp[sliceRange_one,pick_run,v3]<;>rfl
/---/def Wu(K:ZX):V->Option Int->Option Int->Hp->VK->Prop:=λx lo hi H Q=>∃a xs,x=.ref a/\SqL K H a xs/\∀p,H p=none->.d1 (.cg<|.lst .tN)
def QU:SlR X (Wu X.K):=by
 intro pins s σ H x v t u e f w Q I l m p n h;obtain⟨a,c,rfl,k,q⟩:=h;cases l;obtain⟨j,r,g,i⟩:=I.list k;have d:=r.length;refine⟨"list",_,slot_list_getitem.lookup,g.isList.typeIs,?_⟩;refine wpAny_getItem_list_slice g.isList m p n .none .f ?_ (by rw[v3]<;>omega);rw[zU,<-d];refine⟨.ref s.heap.objs.size,_,I.laid (t':=s.toks) (o:=.lst (uf c e f)) (λb y q=>.aa q) .B ?_,rfl,q _ .fx⟩;exact⟨ZM (vN c e f) i,_,0,(r.drop<|HT.sIx c.length 0 e).take (HT.sIx c.length c.length f-HT.sIx c.length 0 e),ZJ _ rfl⟩
def qu:V->Bool
 |.non=>true
 |.bl _=>true
 |.int _=>true
 |.str _=>true
 |_=>false
def eqV:V->V->Bool
 |.non,.non=>true
 |.bl a,.bl b=>a == b
 |.bl a,.int b=>(if a then 1 else 0) == b
 |.int a,.bl b=>a == (if b then 1 else 0)
 |.int a,.int b=>a == b
 |.str a,.str b=>a == b
 |_,_=>false
def Ul(f:cU y u)(c:cU x v)(g:qu y=true)(e:qu x=true):SeqAt.EqAt A s u v (eqV y x):=by
 cases y with
 |non =>
  cases f;cases x with
  |non=>cases c;exact SeqAt.EqAt.same _
  |bl b=>cases c;exact SeqAt.EqAt.none_bool b
  |int b=>obtain⟨t,rfl⟩:=c;exact SeqAt.EqAt.none_int b t
  |str b=>obtain⟨t,rfl⟩:=c;exact SeqAt.EqAt.none_str b t
  |_=>exact .qO Z4
 |bl a =>
  cases f;cases x with
  |non=>cases c;exact SeqAt.EqAt.bool_none a
  |bl b=>cases c;exact SeqAt.EqAt.bool_bool a b
  |int b=>obtain⟨t,rfl⟩:=c;exact SeqAt.EqAt.bool_int a b t
  |str b=>obtain⟨t,rfl⟩:=c;exact SeqAt.EqAt.bool_str a b t
  |_=>exact .qO Z4
 |int a =>
  obtain⟨d,rfl⟩:=f;cases x with
  |non=>cases c;exact SeqAt.EqAt.int_none a d
  |bl b=>cases c;exact SeqAt.EqAt.int_bool a d b
  |int b=>obtain⟨t,rfl⟩:=c;exact zXi a d b t
  |str b=>obtain⟨t,rfl⟩:=c;exact SeqAt.EqAt.int_str a d b t
  |_=>exact .qO Z4
 |str a =>
  obtain⟨d,rfl⟩:=f;cases x with
  |non=>cases c;exact SeqAt.EqAt.str_none a d
  |bl b=>cases c;exact SeqAt.EqAt.str_bool a d b
  |int b=>obtain⟨t,rfl⟩:=c;exact SeqAt.EqAt.str_int a d b t
  |str b=>obtain⟨t,rfl⟩:=c;exact SeqAt.EqAt.str_str a d b t
  |_=>exact .qO Z4
 |_=>exact absurd (show false=true from g) Z4
/---/def eqU(x:V)(u:S1):Bool:=match u with
 |.none=>eqV .non x
 |.bool b=>eqV (.bl b) x
 |.int i _=>eqV .cS x
 |.str z _=>eqV (.str z) x
 |_=>false
def Ng(r:cU y u)(f:qu y=true):eqU x u=eqV y x:=by
 cases y with
 |non=>cases r;rfl
 |bl b=>cases r;rfl
 |int i=>obtain⟨t,rfl⟩:=r;rfl
 |str z=>obtain⟨t,rfl⟩:=r;rfl
 |_=>exact absurd (show false=true from f) Z4
theorem rP:∀{xs:List V} {us:List S1},bM xs us->xs.all qu=true->us.any .dg=xs.any λy=>eqV y x
 |_,_,.nil,_=>rfl
 |y::xs,u::us,.cons r t,f=>by
  rw[zZx,ZZ]at f;rw[zYj,zYj,Ng r f.1,rP t f.2]
theorem oY{x:V}{v:S1}(e:cU x v)(d:qu x=true):∀{xs:List V} {us:List S1},bM xs us->xs.all qu=true->∀u∈us,SeqAt.EqAt A s u v (eqU x u)
 |_,_,.nil,_=>λu c=>by cases c
 |y::xs,u::us,.cons r t,f=>λg c=>by
  rw[zZx,ZZ]at f;rcases y6.mp c with rfl|c
  ·rw[Ng r f.1];exact Ul r e f.1 d
  ·exact oY e d t f.2 g c
/---/def inV(x:V)(xs:List V):Bool:=xs.any λy=>eqV y x
/---/def rIn(K:ZX)(neg:Bool):R2:=λx y H Q=>∃p xs,y=.ref p/\(SqL K H p xs\/SqT K H p xs)/\qu x=true/\xs.all qu=true/\Q (.bl<|if neg then !inV x xs else inV x xs) H
def mx:.Y .uD (rIn X.K false):=by
 intro pins s σ H x y v u Q I j l h;obtain⟨p,m,rfl,d,i,e,q⟩:=h;cases l;rcases d with d|d
 ·obtain⟨c,r,f,k⟩:=I.list d
  refine SeqAt.in_listAt .dg f.isList .nd ⟨.bl _,H,I,rfl,?_⟩;rw[show c.toArray.any .dg=c.any .dg by simp,rP r e];exact q
 ·obtain⟨c,r,f,k⟩:=I.tuple d
  refine SeqAt.in_tupleAt .dg f .nd ⟨.bl _,H,I,rfl,?_⟩;rw[show c.toArray.any .dg=c.any .dg by simp,rP r e];exact q
def rR:.Y .tQ (rIn X.K true):=by
 intro pins s σ H x y v u Q I j l h;obtain⟨p,m,rfl,d,i,e,q⟩:=h;cases l;rcases d with d|d
 ·obtain⟨c,r,f,k⟩:=I.list d
  refine SeqAt.notIn_listAt .dg f.isList .nd ⟨.bl _,H,I,rfl,?_⟩;rw[show c.toArray.any .dg=c.any .dg by simp,rP r e];exact q
 ·obtain⟨c,r,f,k⟩:=I.tuple d
  refine SeqAt.notIn_tupleAt .dg f .nd ⟨.bl _,H,I,rfl,?_⟩;rw[show c.toArray.any .dg=c.any .dg by simp,rP r e];exact q
def rS:jm X (.dm "len") (λxs H Q=>∃p ys,xs=.jZ/\.AI/\Q (.int ys.length) H):=by
 intro pins s σ H xs l Q I r h;obtain⟨p,ys,rfl,d,q⟩:=h;obtain⟨u,rfl,j⟩:=rN r;cases j;have k:=uc;rcases d with d|d
 ·obtain⟨f,e,g,i⟩:=I.list d
  have c:=e.length;exact Calls.call_len_list g.isList .la ⟨.int ys.length,H,I.tok _,⟨s.toks+1,by rw[v3,c]⟩,q⟩
 ·obtain⟨f,e,g,i⟩:=I.tuple d
  have c:=e.length;exact len_tuple g .la ⟨.int ys.length,H,I.tok _,⟨s.toks+1,by rw[v3,c]⟩,q⟩
def Cf:jm X (.dm "len") (λxs H Q=>∃z,xs=[.str z]/\z.length<=sizeLine/\Q (.int z.length) H):=by
 intro pins s σ H xs e Q I r h;obtain⟨z,rfl,c,q⟩:=h;obtain⟨u,rfl,t,rfl⟩:=rN r;have d:=uc;exact len_str .b ⟨.int z.length,H,I.tok _,⟨_,rfl⟩,q⟩
def Cg:jm X .qD (λxs H Q=>∃p ys,xs=.jZ/\.AI/\∀l,H l=none->Q .jY (.a2 l .gD)):=by
 intro pins s σ H xs A Q I r h;obtain⟨p,ys,rfl,j,q⟩:=h;obtain⟨u,rfl,z⟩:=rN r;cases z;have fin:∀(c:List S1),bM ys c->ys.length<=sizeLine->∀(d:Heap) (g:Nat),(∀b y,s.heap.get? b=some y->d.get? b=some y)->
   d.get? s.heap.objs.size=some { cls:=.type "list",dict:=none,data:=.seq c.toArray g,slots := #[] }->EP X pins σ Q .hy { s with heap:=d }:=λc f i d g k e =>
  ⟨.ref s.heap.objs.size,_,I.laid (t':=s.toks) k .B (show gM X.prog X.w _ d _ .gD from ⟨i,c,g,f,e⟩),rfl,q _ .fx⟩
 rcases j with j|j
 ·obtain⟨c,f,x,i⟩:=I.list j
  have m:=f.length;obtain⟨o,t,v,n,w⟩:=x.isList;exact call_list_seq p .aY t v w .AZ .la
 ·obtain⟨c,f,x,i⟩:=I.tuple j
  have m:=f.length;obtain⟨o,t,v,n,w⟩:=x;exact call_list_seq p .eY t v w .AZ .la
def zV:jm X (.type "tuple") (λxs H Q=>∃p ys,xs=.jZ/\((SqL X.K H p ys/\∀l,H l=none->Q .jY (.a2 l .jW))\/(SqT X.K H p ys/\.d1 H))):=by
 intro pins s σ H xs w Q I r h;obtain⟨p,ys,rfl,h⟩:=h;obtain⟨u,rfl,n⟩:=rN r;cases n;rcases h with ⟨g,q⟩|⟨g,q⟩
 ·obtain⟨c,f,i,j⟩:=I.list g
  have k:=f.length;refine call_tuple_list i.isList (λd t=>?_) .la;have m:Inv X pins σ H { s with heap:=d }:=I.kept (t':=s.toks) t;have v:Inv X pins σ (.a2 d.objs.size .jW) { s with heap:=d.push { cls:=.type "tuple",data:=.seq c.toArray } } :=
   m.laid (t':=s.toks) (λb o e=>.aa e) .B (show gM X.prog X.w _ _ _ .jW from ⟨j,c,f,IsTup.new _ _⟩)
  exact⟨.ref d.objs.size,_,v,rfl,q _ (m.hok.fresh .B)⟩
 ·obtain⟨c,f,i,j⟩:=I.tuple g
  exact call_tuple_same i ⟨.ref p,H,I,rfl,q⟩
/---/def tyV(K:ZX)(T:String)(x:V)(H:Hp):Prop:=match x with
 |.str _=>T="str"
 |.int _=>T="int"
 |.ref p=>(T="list"/\∃xs,SqL K H p xs)\/(T="tuple"/\∃o,K.lookup p=some o/\o.cls=.type "tuple"/\o.dict=none)\/
   (T="dict"/\((∃kvs,H p=some .l0)\/∃kvs,H p=some .ko))\/(T="set"/\∃S n,H p=some (.set S n))
 |_=>False
def Um{σ:St}(I:.x)(r:cU x v)(g:tyV X.K T x H):
  s.TypeIs v T/\∀a,v=.ref a->∃ob,s.heap.get? a=some ob/\ob.dict=none:=by
 cases x with
 |str z =>
  obtain⟨t,rfl⟩:=r;cases (show T="str" from g);exact⟨zXk s z t,λ_ e=>nomatch e⟩
 |int i =>
  obtain⟨t,rfl⟩:=r;cases (show T="int" from g);exact⟨typeIs_int s i t,λ_ e=>nomatch e⟩
 |ref p =>
  cases r;rcases g with ⟨rfl,u,l⟩|⟨rfl,o,d,m,j⟩|⟨rfl,d⟩|⟨rfl,S,n,d⟩
  ·obtain⟨q,_,k,_⟩:=I.list l
   refine⟨k.isList.typeIs,λa e=>?_⟩;cases e;obtain⟨o,n,e,c,j,_⟩:=k;exact⟨o,e,j⟩
  ·refine⟨⟨o,I.kIn p o d,m⟩,λa e=>?_⟩
   cases e;exact⟨o,I.kIn _ o d,j⟩
  ·have z:∃o,s.heap.get? p=some o/\o.ExactDict:=by
    rcases d with ⟨kvs,d⟩|⟨kvs,d⟩
    ·obtain⟨_,_,_,_,o,_,_,e,f,_⟩:=I.hok p _ d
     exact⟨o,e,f⟩
    ·obtain⟨_,_,_,_,o,_,_,e,f,_⟩:=I.hok p _ d
     exact⟨o,e,f⟩
   obtain⟨o,e,f⟩:=z;refine⟨⟨o,e,f.1⟩,λa h=>?_⟩;cases h;exact⟨o,e,f.2.1⟩
  ·obtain⟨o,_,_,_,e,f,_⟩:=I.hok p _ d
   refine⟨⟨o,e,f.1⟩,λa h=>?_⟩;cases h;exact⟨o,e,f.2.1⟩
 |_=>exact False.elim g
/---/def tBM(K:ZX)(T:String)(r:.pU)(to:TE)(t:TA):TE:=λσ H Q=>to σ H λx H1=>tyV K T x H1/\t σ H1 λxs H2=>r x xs H2 Q
variable{o e:Expr}{es:.aO}{to:TE}{t:TA}{name:Str}{apos cpos:Pos}{T id:String}{r:.pU}
def xT(E:PlainAttrs T)(slot:Slot T name id)(i:typeOf .fC=pure (.type "method_descriptor"))(hm:MtR X id r)(p:.D o to)(F:.kg)
  (d:.e8 name X.env .c8=eval o X.env:=by rfl)
  (g:((.iw<|.g0 (e :: es)).all .eK && (.ts).all .eH
   && decide ((.gn).length+([]:List Keyword).length+.mQ<30))=true:=by rfl)
  (f:.sB=true:=by rfl) (B:.it X.env=(false,.aB X.env)::starEach es X.env:=by rfl) (c:(.iw .m2).any (·.1)=false:=by rfl) :
  PE X (.Call (.dS name) .gn [] cpos) (tBM X.K T r to t):=by
 intro pins s σ H Q I h;refine wpAny_Call_method_late d g f rfl (thn (p pins s σ H _ I h) λv D ⟨x,y,l,j,m,q1⟩=>?_);obtain⟨w,z⟩:=Um l j m;refine⟨T,id,E,slot,i,w,z,?_⟩;have k:=F cpos pins D σ y _ l q1;rw[B]at k⊢;refine Calls.callWith_builtin (by show (false||(.iw .m2).any (·.1))=false;rw[c]<;>rfl) (Calls.evalArgs_plain ?_);exact thn k λu A ⟨C,n,G,q,q2⟩=>hm pins A σ n x C v u Q G j q q2
end
/---/def MtM(X:Cx)(id:String)(r:.pU):Prop :=
 ∀(pins:.N) (s:P1) (σ:St) (H:Hp) (x:V) (xs:List V) (v:S1) (us:List S1) (Q:VK),Inv X pins σ H s->cU x v->bM xs us->r x xs H Q->
  wpAny .aq X.A (call .fC (v::us)) .cp X.xe s
def bM.one(h:bM [x] us):∃u,us=[u]/\cU x u:=by
 cases h with
 |cons r t=>cases t;exact⟨_,rfl,r⟩
def bM.two(h:bM [x,y] us):∃u v,us=[u,v]/\cU x u/\cU y v:=by
 cases h with
 |cons r t =>
  cases t with
  |cons q t=>cases t;exact⟨_,_,rfl,r,q⟩
theorem bM.rep(h:bM xs us):∀k:Nat,bM (.ce k xs).flatten (.ce k us).flatten
 |0=>.nil
 |k+1=>by
  rw[Y0,Y0,W2,W2];exact bM.append h (bM.rep h k)
theorem AR(a:List S1):∀(k:Nat) (acc:List S1),
  List.foldl (λd c=>d++c) acc.toArray (.ce k a.toArray)=(acc++(.ce k a).flatten).toArray
 |0,acc=>by simp
 |k+1,acc=>by
  have e:acc.toArray++a.toArray=(acc++a).toArray:=by simp
  have b:(acc++a)++(.ce k a).flatten=acc++(.ce (k+1) a).flatten:=by
   rw[Y0,W2,ZU]
  rw[<-b,<-AR a k (acc++a),<-e,Y0,List.foldl_cons]
section
variable{X:Cx}{pins:.N}{σ:St}{H:Hp}{s:P1}{l b:Addr}{xs ys zs:List V}
def Inv.lset{a its':List S1}(I:.x)(i:H l=some .cM)
  (e:s.heap.get? l=some { cls:=.type "list",data:=.seq a.toArray n }) (h:f a.toArray=its'.toArray) (d:bM ys its') (hz:.vL) :
  Inv X pins σ (.a2 l .gD) { s with heap:=s.heap.update l (Obj.mapSeq f),toks:=t' }:=by
 have q:=PySem.IsL.update e f;rw[h]at q;refine I.write (x:=l) (e:=l) (by rw[i];exact trivial) .aY (λj u c g=>(Heap.get?_update_other s.heap (Obj.mapSeq f)<|wh c).trans g) ⟨_,q⟩ ?_;exact⟨hz,its',_,d,q⟩
def Inv.lnew(I:.x)(c:bM ys a)(hz:.vL):
  Inv X pins σ (.qM .gD) { s with heap:=s.heap.push { cls:=.type "list",data:=.seq a.toArray },toks:=t' } :=
 I.laid (λ_ _ q=>.aa q) .B ⟨hz,a,0,c,ZJ _ rfl⟩
def Inv.fresh(I:.x):H s.heap.objs.size=none:=I.hok.fresh .B
def Inv.lstM(I:.x)(c:H l=some .cM):xs.length<=sizeLine/\∃(a:List S1) (n:Nat),bM xs a/\xs.length=a.length/\s.heap.get? l=some { cls:=.type "list",data:=.seq a.toArray n }:=by
 obtain⟨z,a,n,r,e⟩:=I.hok l _ c;exact⟨z,a,n,r,r.length,e⟩
def Eg(h:n<=sizeLine):Builtin.List.listTooLong n=false:=by
 unfold Builtin.List.listTooLong;exact z4 .b
end
section
variable{X:Cx}
/---/def QV:V->List V->Hp->VK->Prop:=λx vs H Q=>∃l xs y,x=.ref l/\vs=[y]/\H l=some .cM/\xs.length<sizeLine/\Q .non (.a2 l<|.lst<|xs++[y])
def AS:MtM X "list.append" QV:=by
 intro pins s σ H x g v j Q I d f h;obtain⟨l,k,y,rfl,rfl,b,i,q⟩:=h;cases d;obtain⟨u,rfl,c⟩:=f.one;obtain⟨z,a,n,r,m,e⟩:=I.lstM b;refine zXr F.slot_list_append ⟨_,e,rfl⟩ F.entry_list_append (F.args_list_append_2 _ _) (PySem.list_append l a.toArray n u (by rw[v3];omega)) ⟨e,?_⟩;refine⟨.non,_,I.lset (its':=a++[u]) b e .f (r.append<|.cons c .nil) ?_,rfl,q⟩;rw[ZB,List.length_singleton];omega
/---/def QW:V->List V->Hp->VK->Prop:=λx vs H Q=>∃l b xs zs,x=.ref l/\vs=[.ref b]/\H l=some .cM/\H b=some (.lst zs)/\xs.length+zs.length<=sizeLine/\Q .non (.a2 l<|.lst<|xs++zs)
def AT:MtM X "list.extend" QW:=by
 intro pins s σ H x D v B Q I k w h;obtain⟨l,b,G,E,rfl,rfl,g,m,A,q⟩:=h;cases k;obtain⟨u,rfl,i⟩:=w.one;cases i;obtain⟨z,c,n,r,C,e⟩:=I.lstM g;obtain⟨y,a,p,j,o,t⟩:=I.lstM m;have f:c.toArray.size+a.toArray.size<=sizeLine:=by rw[v3,v3];omega
 have d:¬(!c.toArray.isEmpty&&Builtin.List.listTooLong (c.toArray.size+a.toArray.size))=true:=by
  rw[Eg f,Bool.and_false];exact Z4
 refine zXr F.slot_list_extend ⟨_,e,rfl⟩ F.entry_list_extend (F.args_list_extend_2 _ _)
  (AutoSeq1.list_extend_list_list_0 l c.toArray n b a.toArray p d (by rw[v3];omega) .b) ⟨e,t,?_⟩
 refine⟨.non,_,I.lset (its':=c++a) g e .f (r.append j) ?_,rfl,q⟩;rw[ZB];omega
/---/def X4:R2:=λx y H Q=>∃l b xs zs,x=.ref l/\y=.ref b/\H l=some .cM/\H b=some (.lst zs)/\xs.length+zs.length<=sizeLine/\∀p,H p=none->.d1 (.cg<|.lst<|xs++zs)
def Uo:.Y .hI X4:=by
 intro pins s σ H x y v u Q I f m h;obtain⟨l,b,C,B,rfl,rfl,o,g,t,q⟩:=h;cases f;cases m;obtain⟨z,c,n,r,w,e⟩:=I.lstM o;obtain⟨p,a,A,d,j,k⟩:=I.lstM g;refine PySem.P.add_list e k ?_ (by rw[v3,v3];omega);have i:c.toArray++a.toArray=(c++a).toArray:=by simp
 rw[i];exact⟨.ref _,_,I.lnew (t':=s.toks) (r.append d) (by rw[ZB];omega),rfl,q _ I.fresh⟩
/---/def X5:R2:=λx y H Q=>∃l k xs,x=.ref l/\y=.int k/\H l=some .cM/\-(2^63)<=k/\k<2^63/\xs.length*k.toNat<=sizeLine/\
 ∀p,H p=none->.d1 (.cg<|.lst (.ce k.toNat xs).flatten)
def QX{α:Type}(xs:List α)(k:Nat):(.ce k xs).flatten.length=k*xs.length:=by
 induction k with
 |zero=>simp
 |succ k a=>rw[Y0,W2,ZB,a,Nat.succ_mul,Nat.add_comm]
def Up:.Y (.e4 .Mult) X5:=by
 intro pins s σ H x y v u Q I B D h;obtain⟨l,k,L,rfl,rfl,J,w,A,p,q⟩:=h;cases B;obtain⟨t,rfl⟩:=D;obtain⟨z,b,n,r,C,e⟩:=I.lstM J;have f:b.toArray.size*k.toNat<=sizeLine:=by rw[v3,<-C];exact p
 have i:¬b.toArray.size*k.toNat>(2^63-1)/8:=by
  have:(sizeLine:Nat)<=(2^63-1)/8:=by decide
  omega
 have d:¬(!Builtin.List.listFitsIndex k)=true:=by
  rw[fitsIndex_both w A];exact Z4
 have c:¬Builtin.List.listTooLong (b.toArray.size*k.toNat)=true:=by
  rw[Eg f];exact Z4
 have g:List.foldl (λo j=>o++j) #[] (.ce (if b.toArray.isEmpty=true then 0 else k.toNat) b.toArray)=(.ce k.toNat b).flatten.toArray:=by
  have G:∀m:Nat,List.foldl (λo j=>o++j) #[] (.ce m b.toArray)=(.ce m b).flatten.toArray:=λm=>by
   have:=AR b m [];rw[List.nil_append]at this;exact this
  rw[G];cases b with
  |nil=>simp
  |cons a K=>rw[zF .f]
 refine wpAny_binaryOp_repeat_ref (T := "list") (U := "int") .a ⟨_,e,rfl⟩ (λE=>typeIs_int E k t) noFill_list_mul F.fills_int_mul F.slot_int_rmul repeat_list F.slot_int_index.lookup
  (zXr F.slot_int_rmul (typeIs_int s k t) F.entry_int_rmul (F.args_int_rmul_2 _ _) (int___rmul___int_list k t l b.toArray n)
   ⟨e,rfl,⟨_,e,rfl⟩,zXr F.slot_list_mul ⟨_,e,rfl⟩ F.entry_list_mul (F.args_list_mul_2 _ _) (AutoListH.list___mul___list_int_3 l b.toArray n k t d i c) ⟨e,?_⟩⟩)
 rw[g];exact⟨.ref _,_,I.lnew (t':=s.toks) (r.rep k.toNat) (by rw[QX,Nat.mul_comm];exact p),rfl,q _ I.fresh⟩
end
section
variable{prog:N3}{w:N6}{A:P2}{E:.R}{s:P1}
end
section
variable{X:Cx}
end
end L2
namespace Att
open PySem PySem.W PySem.Calls PyProof.Rows
def wC:∀(ns:.c) (vs:List S1),WellAll P h vs (ns.map WData.int)->IntsAre vs ns:=by
 intro ns
 induction ns with
 |nil =>
  intro vs w;rw[zo]at w;cases w;exact .nil
 |cons n ns c =>
  intro vs w;rw[z5]at w;cases w with
  |cons a b =>
   cases a;exact .cons _ _ (c _ b)
def KK{l:OpenLaw}(hn:l.most=some n)
  (b:l.row.toRowW.claim.pre args=true) (j:WellAll P h c args) :
  ∃a vs ns,c=[Value.ref a]/\args=[WData.list (ns.map WData.int)]/\h.get? a=some { cls:=.type "list",data:=.seq vs.toArray }/\IntsAre vs ns/\ns.length<=n:=by
 have i:WShape.hasAll [] args [.list .int]=true:=(pre_splitW b).1;have k:l.pre.holds [] { args:=args }=true:=(pre_splitW b).2;obtain⟨d,r,rfl,o,t⟩:=hasAllW_cons i;obtain rfl:=hasAllW_nil t;obtain⟨w,rfl,s⟩:=hasW_list o;obtain⟨ns,rfl⟩:=items_int s;have e:ns.length<=n:=by
  unfold OpenLaw.pre at k;have g:(WTm.not<|.lt (.lit<|.int (n:Int))<|.len<|.arg 0).holds [] { args:=[.list .c6] }=true:=by
   have g:=(holds_andW k).1;rw[hn]at g;exact g
  have f:=condW_of g (w_not<|w_lt w_lit<|w_len_list<|w_arg rfl);rw[ZA]at f;refine zYb λq=>?_;have u:(n:Int)<((ns.length:Nat):Int):=by omega
  first
   |(rw[z3 u]at f;exact absurd f .a)
   |(simp at f;omega)
 cases j with
 |cons v p =>
  cases p;cases v with
  |list m hall=>exact⟨_,_,ns,rfl,rfl,m,wC ns _ hall,e⟩
def KL(l:OpenLaw)(args:List WData):l.row.toRowW.claim.post args .lG args=true :=
 postW_of (r:=l.row.toRowW) (X:=(true == true))
  (show WShape.has [] (.bool true) .bool=true by first|rfl|decide|simp[WShape.has,WShape.arms,WShape.armsAll])
  (show (WTm.eq .res<|.lit .lG).value [] { args:=args,res:=some .lG,after:=args }=some (.bool<|true == true) from w_eq_bool (w_res rfl) w_lit) rfl
def attach_call{l:OpenLaw}{XP:.vW}
  (hn:l.most=some n) (t:.vH)
  (call:∀(w:N6) (s₀ b : P1) (mg v:.aw) (h:Addr) (o:Obj) (pm m e:S1) (a:Addr) (vs:List S1) (ns:.c),
   Ground q c [] XP w s₀ mg v b.heap->z w b.heap->
   b.heap.get? h=some o->o.data=.func (docDef d.name d.params d.body d.scope pm m e)->b.heap.CodeRec m d.name->mg d.name=some (.ref h)->
   b.heap.get? a=some { cls:=.type "list",data:=.seq vs.toArray }->IntsAre vs ns->ns.length<=n->b.gens = #[]->
   codeAny (model l.prog w) callerA (.call (.ref h) ⟨[.ref a],[]⟩) (λr p=>r=.ok (.ret .lG)/\OldK b.heap p.heap/\p.os=b.os/\AllBare p.gens) b) :
  WalkO q c XP z l.row.toRowW d [] .sQ:=by
 intro w s₀ b mg v G Y h o pm m e K kV C M u x hmg H y A O k B I s D;obtain rfl:K=.none:=Dflts.none x t;obtain rfl:kV=.none:=Dflts.noKw x;obtain⟨a,vs,ns,rfl,rfl,i,g,j⟩:=KK hn k s;refine enter_call (codeAny_mono (call w s₀ b mg v h o pm m e a vs ns G Y C (fd_plain M) u hmg i g j H) λr p J=>?_);obtain⟨rfl,F,E,N⟩:=J;exact⟨.inl ⟨.bool true,.bool true,[],rfl,λ_=>rfl,.bool true,KL l _,λ_=>⟨List.Pairwise.nil,λ_ L=>(nomatch L)⟩⟩,F,E,N⟩
section
variable{prog:N3}{w:N6}{A:P2}{E:.R}{s:P1}{K:Frag}
/---/def noObjs(h:Heap):Heap:={ h with objs := #[] }
def noObjs_get(h:Heap)(b:Addr):(noObjs h).get? b=none:=by
 cases e:(noObjs h).get? b with
 |none=>rfl
 |some o=>exact absurd (ZI e) (va _)
/---/def ledger(h:Heap)(L d:Addr):List .ff:=(.s1).filterMap λa=>if a=L\/a=d then none else (h.get? a).map λo=>(a,o)
def mem_ledger:(a,o)∈ledger h L d↔a≠L/\a≠d/\h.get? a=some o:=by
 unfold ledger;rw[zp];constructor
 ·rintro⟨b,_,e⟩
  split at e
  ·cases e
  ·rename_i f
   obtain⟨k,c,i⟩:=YT.mp e;cases i;exact⟨λq=>f (.inl q),λq=>f (.inr q),c⟩
 ·rintro⟨j,g,c⟩
  refine⟨a,YK.mpr (ZI c),?_⟩;rw[zF (show ¬(a=L\/a=d) from λq=>q.elim j g),c]<;>rfl
def fr_all(n:h.Ns L m):Fr (noObjs h) L h m :=
 ⟨n,λb o e=>(by rw[noObjs_get]at e;cases e),YH _⟩
end
end Att
namespace L2
open PySem PySem.Spec PyProof.Rows
theorem AU:∀{vs:List S1} {ns:.c},IntsAre vs ns->bM .dE vs
 |_,_,.nil=>.nil
 |_,_,.cons n t h=>.cons ⟨t,rfl⟩ (AU h)
/---/def Uq(H:Hp):Prop:=∀b,H b=none\/∃o xs,H b=some (.frz o .cM)
def Nh{K:ZX}{x:Str}{sp:Sp}{c:P1}{vs:List S1}{ns:.c}
  (KX:K.In c.heap) (B:c.heap.Ns mainGlobals mg) (g:c.heap.Ns builtinsNs S) (N:∀x:Str,x≠"__name__"->S x=bootBuiltins x) (E:c.heap.NoLimit) (hg:c.gens = #[])
  (I:c.heap.get? a=some { cls:=.type "list",data:=.seq vs.toArray }) (hi:IntsAre vs ns) (U:ns.length<=sizeLine) (hr:iz k callerA)
  (F:∀base:Heap,K.In base->base.Ns mainGlobals mg->.fY CX k R fd [x] sp) (p:∀(s:P1) (u:S1),.kB ⟨[u],[]⟩ [(x,u)])
  (O:∀H:Hp,Uq H->SqL K H a .dE->sp .ei H (λv _=>v=.bl true) λ_ _ _=>False)
  (Q:∀H e i,CX [] H c (λ_ _ _=>False) e i->False) :
  codeAny .gu callerA .Aq .wV c := by
 have W:=AU hi;have A:=hi.length;have l:∀H:Hp,Uq H->SqL K H a .dE->HOk P w H c.heap->(∀b,H b≠none->b=a)->(H a≠none->K.lookup a=none)->
   codeAny .gu callerA .Aq .wV c := by
  intro H Z hS hok Y hK;have f:∀{b:Addr} {o:Obj},c.heap.get? b=some o->H b=none->(.lS).get? b=some o:=λe n=>My e n;have L:∀{b:Addr} {o:Obj} {y:Array DictEntry} {t:Nat},c.heap.get? b=some o->o.data=.dict y t->H b=none:=λ{b o y t} e d=>by
   cases q:H b with
   |none=>rfl
   |some u =>
    have J:b=a:=Y b .oK;subst J;rw[I]at e;cases e;have d':Data.seq vs.toArray _=Data.dict y t:=d;cases d'
  have j:∀{b:Addr} {m:.aw},c.heap.Ns b m->(.lS).Ns b m:=λ{b m} ⟨o,y,t,e,d,r⟩=>⟨o,y,t,f e (L e d),d,r⟩;have G:K.In .lS:=λb o e=>f (KX b o e) (by
   cases q:H b with
   |none=>rfl
   |some u =>
    have J:b=a:=Y b .oK;subst J;rw[hK .oK]at e;cases e)
  have hM:Mod K mg .lS:=⟨G,j B,⟨S,j g,N⟩,let ⟨mc,h1,h2⟩:=E;⟨mc,j h1,h2⟩⟩;have e0:G4 P w K mg .lS callerA [] c H:=⟨rfl,hM,λb o e=>Qy e,wo (Kw _ _),trivial,λb g=>absurd (show b∈([]:List Addr) from g) .f,hok,.of_eq hg⟩;refine codeAny_mono ((F _ G<|j B).run callerA [] c H ⟨[.ref a],[]⟩ .ei .ei _ _ hr e0 (p c .de) (.cons rfl .nil) (O H Z hS)) λr i h=>?_;cases r with
  |error e=>exact(Q H e i h).elim
  |ok fl =>
   cases fl with
   |next=>exact False.elim h
   |brk=>exact False.elim h
   |cont=>exact False.elim h
   |ret u =>
    obtain⟨v,H',os,bare,T,D,r',q⟩:=h;have q':v=.bl true:=q;subst q';obtain rfl:u=Value.bool true:=r';refine⟨rfl,OldK.of_keep λb o e=>?_,os,bare⟩;cases q:H b with
    |none=>exact T.keep b o e q (by intro z;exact absurd (show b∈([]:List Addr) from z) .f) .f
    |some u =>
     rcases Z b with z|⟨ob,xs,z⟩
     ·rw[q]at z;cases z
     ·have z2:=T.frzs b ob _ z
      obtain⟨X,_⟩:=hok b _ z;obtain⟨e2,_⟩:=D b _ z2;rw[e]at X;cases X;exact e2
 cases M:K.lookup a with
 |some o =>
  have e:=KX a o M;rw[I]at e;cases e;refine l (λ_=>none) (λ_=>.inl rfl) (.inr ⟨_,vs.toArray,_,M,rfl,rfl,rfl,by rw[v3,A];exact U,by simpa using W⟩) (λb u z=>by have C:(none:Option HO)=some u:=z;cases C) (λb z=>absurd rfl z) λz=>absurd rfl z
 |none =>
  refine l (λb=>if b=a then some (.frz { cls:=.type "list",data:=.seq vs.toArray } (.lst .dE)) else none) (λb=>?_) (.inl<|.inr ⟨{ cls:=.type "list",data:=.seq vs.toArray },zE rfl⟩) (λb u z=>?_) (λb z=>?_) λ_=>M
  ·by_cases g:b=a
   ·exact .inr ⟨_,_,zE g⟩
   ·exact .inl (zF g)
  ·by_cases g:b=a
   ·have C:=(zE g).symm.trans z
    cases C;subst g;exact⟨I,by rw[ZA];exact U,vs,_,W,I⟩
   ·have C:=(zF g).symm.trans z
    cases C
  ·by_cases g:b=a
   ·exact g
   ·exact absurd (zF g) z
def QY{l:PySem.W.OpenLaw}{XP:.vW}{K:Params->ZX}{CX:N6->CXT}{sp:N6->Sp}{x:Str}
  (hn:l.most=some n) (p:n<=sizeLine) (y:.vH) (L:iz k callerA)
  (D:∀(w:N6) (h:Heap),B w h->(.dG).In h)
  (F:∀(w:N6) (mg:.aw) (m:Addr) (h:Heap),(.dG).In h->h.Ns mainGlobals mg->mg d.name=some (.ref m)->
   ∃fd:FuncData,(∀(s:P1) (u:S1),.kB ⟨[u],[]⟩ [(x,u)])/\
    ∀base:Heap,(.dG).In base->base.Ns mainGlobals mg->ji l.prog w .dG mg base (CX w) k m fd [x] (sp w))
  (r:∀(w:N6) (H:Hp) (a:Addr) (ns:.c),ns.length<=n->Uq H->SqL .dG H a .dE->sp w .ei H (λv _=>v=.bl true) λ_ _ _=>False)
  (t:∀(w:N6) (H:Hp) (s:P1) (e:S1) (z:P1),CX w [] H s (λ_ _ _=>False) e z->False) :
  PySem.W.WalkO q c XP B l.row.toRowW d [] .sQ:=by
 refine Att.attach_call hn y λw A i mg T m o P R E a vs ns G Y Q S M hmg j g b I=>?_;have KX:=D w _ Y;obtain⟨fd,C,O⟩:=F w mg m _ KX G.T.g hmg;exact Nh KX G.T.g G.T.b G.T.builtins G.T.nolimit I j g (ZM b p) L O C (λH J N=>r w H a ns b J N) λH e z=>t w H i e z
/---/def gG(s:Stmt):Arguments:=match s with
 |.FunctionDef _ a _ _ _ _ _ _ _ _=>a
 |_=>{ posonlyargs:=[],args:=[],vararg:=none,kwonlyargs:=[],kw_defaults:=[],kwarg:=none,defaults:=[] }
/---/def eQ(s:Stmt):List Stmt:=match s with
 |.FunctionDef _ _ b _ _ _ _ _ _ _=>b
 |_=>[]
/---/def bO(s:Stmt):Scope:=match s with
 |.FunctionDef _ _ _ _ _ _ sc _ _ _=>sc
 |_=>{ kind:=.function,names:=[],isGenerator:=false,isCoroutine:=false }
abbrev CX0:CXT:=λ_ _ _ _ _ _=>False
abbrev E0:XK:=λ_ _ _=>False
def Ni:ue CX0 X E0:=λ_ _ _ _ _ _ _ h=>h.elim
structure Fun(K:ZX)(x qual:Str)(st:Stmt)(f:Addr)(fd:.gU):Prop where
 ex:∃(oc:S1) (od:.cw) (kV doc pm:S1) (an:.cw) (cdv ct:S1) (osl:.fQ),
  fd=PySem.W.fnOf x qual .nW .hP .dC .none kV doc pm an cdv ct/\K.lookup f=some ⟨oc,od,.func fd,osl⟩/\.iq cdv qual=true
 kp:.dX .aE=true
section
variable{P:N3}{w:N6}{K:ZX}{mg:.aw}{base:Heap}
def Fun.ok{st:Stmt}{N ps:.az}(F:Fun K x a st f fd)(S:gF N ps .dC)(len:.Ee)
  (c:∀(b:S1) (A:P2) (outer:.eo) (s:P1) (H:Hp) (vs:List V) (Q:VK) (E:XK),iz k (A.deeper<|envOfC a .dC s.heap.objs.size f b)->sp vs H Q E->
   ∃t,PSs (Cc CX0 P w K mg base N a .dC f b A outer s H E).nox .hP t/\t { nx:=λ_ l=>Q .non l,rt:=Q } .mf H):.fY CX0 (k+1) f fd ps sp:=by
 obtain⟨o,p,kV,i,n,u,b,r,g,rfl,m,e⟩:=F.ex;refine Wn m e S len λA outer s H vs Q E j d=>?_;obtain⟨t,h,q⟩:=c b A outer s H vs Q E j d;exact⟨t,h.nox,q⟩
def Fun.binds{st:Stmt}(F:Fun K x a st f fd)
  (h:∀(kV b pm:S1) (d:.cw) (c ct:S1) (us:List S1),us.length=ps.length->bindArgs (PySem.W.fnOf x a .nW .hP .dC .none kV b pm d c ct) ⟨us,[]⟩=pure .jC):ko K fd ps []:=by
 obtain⟨j,i,kV,b,pm,d,c,ct,e,rfl,k,g⟩:=F.ex;exact .all (h kV b pm d c ct)
def Ci{st:Stmt}{kV d pm b ct:S1}(l:K.lookup f=some ⟨i,h,.func .xI,e⟩)
  (c:.iq b a=true) (k:.vA):Fun K x a st f .xI:=⟨⟨i,h,kV,d,pm,g,b,ct,e,rfl,l,c⟩,k⟩
end
section
variable{X:Cx}
end
/---/def lK(H H':Hp):Prop:=∀b o,H b=some o->H' b=some o
def lK.refl(H:Hp):lK H H:=λ_ _ h=>h
end L2
namespace L2
open PySem PySem.Spec
structure X6(h:Heap)(a D:Addr)(o:Obj):Prop where
 at_:h.get? a=some o
 cls:o.cls=.ref D
/---/def Tb(a C:Addr):HO:=.ext λh=>∃o,X6 h a C o
end L2
namespace Fm
open PySem PySem.Spec L2
/---/def toS(x:.m):Str:=⟨x.toArray⟩
/---/def vO(K:ZX)(H:Hp)(a:Addr)(xs:List V):Prop :=
 (∃o,H a=some (.frz o .cM))\/
  ∃(o:Obj) (its:.bL) (n:Nat),K.lookup a=some o/\o.cls=.type "list"/\o.dict=none/\o.data=.seq its n/\its.size<=sizeLine/\bM xs its.toList
/---/def Ur(K:ZX)(p:Addr)(vs:List V):Prop:=∃(o:Obj) (its:.bL) (n:Nat),K.lookup p=some o/\o.cls=.type "tuple"/\o.data=.seq its n/\its.size<=sizeLine/\bM vs its.toList
/---/def Cj(vs:List V):List .eh:=vs.map λv=>(Str.ofString "web",v)
section
variable(K:ZX)(ρ:.U)(H:Hp)
mutual
def RD:D->V->Prop
 |.non,v=>v=.non
 |.bl b,v=>v=.bl b
 |.int i,v=>v=.int i
 |.str x,v=>v=.str (toS x)
 |.tup l,v=>∃p vs,v=.ref p/\H p=some (.tup vs)/\RDs l vs
 |.lit l,v=>∃p vs,v=.ref p/\vO K H p vs/\RDs l vs
 |.ref n,v=>∃a,ρ[n]?=some a/\v=.ref a
 |.exn c l,v=>(c≠""/\l=[]/\∃a C,v=.ref a/\H a=some (Tb a C)/\.cX .us=some (some<|.ref C))\/(c=""/\∃p vs,v=.ref p/\Ur K p vs/\RDs l vs)
def RDs:List D->List V->Prop
 |[],vs=>vs=[]
 |d::ds,vs=>∃v r,vs=v::r/\RD d v/\RDs ds r
end
def RC:cM->Addr->Prop
 |.lst l,a=>∃vs,H a=some (.lst vs)/\.aT l vs
 |.dct l,a=>∃kvs,H a=some (.dK kvs)/\kvs.map (·.1)=l.map .fm/\.aT .eZ (kvs.map (·.2))
 |.dcT l,a=>∃kvs,H a=some .ko/\kvs.map (·.1)=l.map (λp=>p.1.map λi=>(Sum.inl i:Key))/\.aT .eZ (kvs.map (·.2))
 |.ob l,a=>∃vs C dx,H a=some (.ins C dx<|Cj vs)/\RDs K ρ H l vs/\.cX .nI=some (some<|.ref C)
structure RH(hd:Hd):Prop where
 len:ρ.length=hd.length
 nd:ρ.Nodup
 cel:∀(n:Nat) c a,hd[n]?=some c->ρ[n]?=some a->RC K ρ H c a
structure RSt(σd:Sd)(σ:St):Prop where
 len:σd.length=σ.length
 at':∀i d,slot σd i=some d->∃v,σ[i]?=some .fH/\.dZ d v
structure RS(σd:Sd)(hd:Hd)(σ:St):Prop where
 hp:RH K ρ H hd
 st:RSt K ρ H σd σ
end
structure Ext(ρ:.U)(H:Hp)(ρ':.U)(H':Hp):Prop where
 pre:∃t,ρ'=ρ++t
 new:∀a∈ρ',a∈ρ\/H a=none
 frame:∀p o,H p=some o->p∉ρ->H' p=some o
variable{vs:List V}{d:D}{l:List D}
def Ext.refl:.g7 ρ H:=⟨⟨[],by simp⟩,λ_ h=>.inl h,λ_ _ h _=>h⟩
def Ext.out(e:.et a)(h:H p=some o)(n:p∉ρ):p∉ρ':=λz=>by
 rcases e.new p z with q|q
 ·exact n q
 ·rw[h]at q;cases q
theorem Ext.trans(a:.et g)(b:Ext ρ' g ρ'' c):Ext ρ H ρ'' c where
 pre:=by
  obtain⟨t,rfl⟩:=a.pre;obtain⟨u,rfl⟩:=b.pre;exact⟨t++u,by simp⟩
 new:=λx f=>by
  rcases b.new x f with q|q
  ·exact a.new x q
  ·cases e:H x with
   |none=>exact .inr rfl
   |some o =>
    by_cases d:x∈ρ
    ·exact .inl d
    ·rw[a.frame x o e d]at q;cases q
 frame:=λp o h n=>b.frame p o (a.frame p o h n) (a.out h n)
def Ext.same(s:lK H a):.g7 ρ a:=⟨⟨[],by simp⟩,λ_ h=>.inl h,λp o h _=>s p o h⟩
def Ext.get(e:.et b){n:Nat}(h:ρ[n]?=some a):ρ'[n]?=some a:=by
 obtain⟨t,rfl⟩:=e.pre;rw[ZC (zA.mp h).1];exact h
def RH.mut(r:.bh)(h:a∈ρ):(∃vs,H a=some .hT)\/(∃c,H a=some (.dK c))\/(∃c,H a=some (.dT c))\/∃C dx g,H a=some (.ins C dx g):=by
 obtain⟨n,d⟩:=zYo h;have f:=(zA.mp d).1;have i:hd[n]?=some (hd[n]' .CL):=by simp
 have q:=r.cel n _ a i d;cases e:hd[n]' .CL with
 |lst l=>rw[e]at q;obtain⟨vs,b,_⟩:=q;exact .inl ⟨vs,b⟩
 |dct l=>rw[e]at q;obtain⟨vs,b,_⟩:=q;exact .inr (.inl ⟨vs,b⟩)
 |dcT l=>rw[e]at q;obtain⟨vs,b,_⟩:=q;exact .inr (.inr<|.inl ⟨vs,b⟩)
 |ob l=>rw[e]at q;obtain⟨vs,C,dx,b,_⟩:=q;exact .inr (.inr<|.inr ⟨C,dx,_,b⟩)
def RH.noTup(r:.bh)(h:H a=some .gx):a∉ρ:=λz=>by
 rcases r.mut z with ⟨_,q⟩|⟨_,q⟩|⟨_,q⟩|⟨_,_,_,q⟩<;>(rw[h]at q;cases q)
def RH.noFrz(r:.bh)(h:H a=some .gA):a∉ρ:=λz=>by
 rcases r.mut z with ⟨_,q⟩|⟨_,q⟩|⟨_,q⟩|⟨_,_,_,q⟩<;>(rw[h]at q;cases q)
def RH.noExt(r:.bh)(h:H a=some (.ext b)):a∉ρ:=λz=>by
 rcases r.mut z with ⟨_,q⟩|⟨_,q⟩|⟨_,q⟩|⟨_,_,_,q⟩<;>(rw[h]at q;cases q)
structure Kp(ρ:.U)(H:Hp)(ρ':.U)(H':Hp):Prop where
 get:∀(n:Nat) a,ρ[n]?=some a->ρ'[n]?=some a
 tup:∀a vs,H a=some .gx->H' a=some .gx
 frz:∀a o u,H a=some .gA->H' a=some .gA
 ext:∀a φ,H a=some (.ext φ)->H' a=some (.ext φ)
def RH.kp(r:.bh)(e:.et a):Kp ρ H ρ' a :=
 ⟨λ_ _ h=>e.get h,λ_ _ h=>e.frame _ _ h (r.noTup h),λ_ _ _ h=>e.frame _ _ h (r.noFrz h),λ_ _ h=>e.frame _ _ h (r.noExt h)⟩
def Kp.same(s:lK H a):.c1 ρ a:=⟨λ_ _ h=>h,λ_ _ h=>s _ _ h,λ_ _ _ h=>s _ _ h,λ_ _ h=>s _ _ h⟩
def vO.mono(k:.c1 ρ' b)(h:vO K H a xs):vO K b a xs:=by
 rcases h with ⟨o,h⟩|h
 ·exact .inl ⟨o,k.frz _ _ _ h⟩
 ·exact .inr h
mutual
theorem RD.mono(k:.c1 ρ' f):∀{d:D} {v:V},RD K ρ H d v->RD K ρ' f d v
 |.non,_,h=>by dsimp[RD]at h⊢;exact h
 |.bl _,_,h=>by dsimp[RD]at h⊢;exact h
 |.int _,_,h=>by dsimp[RD]at h⊢;exact h
 |.str _,_,h=>by dsimp[RD]at h⊢;exact h
 |.tup l,_,h=>by
  dsimp[RD]at h⊢;obtain⟨p,vs,e,h1,b⟩:=h;exact⟨p,vs,e,k.tup _ _ h1,RDs.mono k b⟩
 |.lit l,_,h=>by
  dsimp[RD]at h⊢;obtain⟨p,vs,e,h1,b⟩:=h;exact⟨p,vs,e,h1.mono k,RDs.mono k b⟩
 |.ref n,_,h=>by
  dsimp[RD]at h⊢;obtain⟨a,h1,b⟩:=h;exact⟨a,k.get _ _ h1,b⟩
 |.exn _ l,_,h=>by
  dsimp[RD]at h⊢;rcases h with ⟨g,c,a,C,e,h1,b⟩|⟨c,p,vs,e,h1,b⟩
  ·exact .inl ⟨g,c,a,C,e,k.ext _ _ h1,b⟩
  ·exact .inr ⟨c,p,vs,e,h1,RDs.mono k b⟩
theorem RDs.mono(k:.c1 ρ' a):∀{l:List D} {vs:List V},RDs K ρ H l vs->RDs K ρ' a l vs
 |[],_,h=>by dsimp[RDs]at h⊢;exact h
 |d::ds,_,h=>by
  dsimp[RDs]at h⊢;obtain⟨v,r,e,h1,b⟩:=h;exact⟨v,r,e,RD.mono k h1,RDs.mono k b⟩
end
def RDs.nil:.aT [] []:=by dsimp[RDs]
def RDs.cons(h:.ek)(t:.aT ds vs):.aT (d::ds) (v::vs):=by
 dsimp[RDs];exact⟨v,vs,rfl,h,t⟩
theorem RDs.length:∀{l:List D} {vs:List V},RDs K ρ H l vs->l.length=vs.length
 |[],_,h=>by dsimp[RDs]at h;subst h;rfl
 |d::ds,_,h=>by
  dsimp[RDs]at h;obtain⟨v,r,e,h1,a⟩:=h;subst e;simp[RDs.length a]
theorem RDs.get:∀{l:List D} {vs:List V} {i:Nat} {d:D},RDs K ρ H l vs->l[i]?=some d->∃v,vs[i]?=some v/\.dZ d v
 |[],_,i,_,_,e=>by simp at e
 |d::ds,_,0,_,h,e=>by
  dsimp[RDs]at h;obtain⟨v,r,a,h1,b⟩:=h;subst a;simp at e;subst e;exact⟨v,rfl,h1⟩
 |d::ds,_,i+1,x,h,e=>by
  dsimp[RDs]at h;obtain⟨v,r,a,h1,b⟩:=h;subst a;obtain⟨w,c,q⟩:=RDs.get b .fw;exact⟨w,by simpa using c,q⟩
theorem RDs.set{d:D}(h:.ek):∀{l:List D} {vs:List V} (i:Nat),RDs K ρ H l vs->.aT (l.set i d) (vs.set i v)
 |[],_,_,q=>by dsimp[RDs]at q;subst q;exact RDs.nil
 |x::xs,_,i,q=>by
  dsimp[RDs]at q;obtain⟨w,r,e,h1,a⟩:=q;subst e;cases i with
  |zero=>exact RDs.cons h a
  |succ i=>exact RDs.cons h1 (RDs.set h i a)
theorem RDs.append:∀{l b:List D} {vs a:List V},RDs K ρ H l vs->RDs K ρ H b a->.aT (l++b) (vs++a)
 |[],_,_,_,h,q=>by dsimp[RDs]at h;subst h;exact q
 |d::ds,_,_,_,h,q=>by
  dsimp[RDs]at h;obtain⟨v,r,e,h1,c⟩:=h;subst e;exact RDs.cons h1 (RDs.append c q)
theorem RDs.take:∀{l:List D} {vs:List V} (n:Nat),RDs K ρ H l vs->.aT (l.take n) (vs.take n)
 |_,_,0,_=>by simp;exact RDs.nil
 |[],_,n+1,h=>by dsimp[RDs]at h;subst h;exact RDs.nil
 |d::ds,_,n+1,h=>by
  dsimp[RDs]at h;obtain⟨v,r,e,h1,a⟩:=h;subst e;exact RDs.cons h1 (RDs.take n a)
theorem RDs.drop:∀{l:List D} {vs:List V} (n:Nat),RDs K ρ H l vs->.aT (l.drop n) (vs.drop n)
 |_,_,0,h=>by simpa using h
 |[],_,n+1,h=>by dsimp[RDs]at h;subst h;exact RDs.nil
 |d::ds,_,n+1,h=>by
  dsimp[RDs]at h;obtain⟨v,r,e,h1,a⟩:=h;subst e;simpa using RDs.drop n a
def RC.mono(k:.c1 ρ' i)(e:i a=H a)(h:RC K ρ H c a):RC K ρ' i c a:=by
 cases c with
 |lst l=>obtain⟨b,f,d⟩:=h;exact⟨b,e.trans f,d.mono k⟩
 |dct l=>obtain⟨b,f,d,g⟩:=h;exact⟨b,e.trans f,d,g.mono k⟩
 |dcT l=>obtain⟨b,f,d,g⟩:=h;exact⟨b,e.trans f,d,g.mono k⟩
 |ob l=>obtain⟨b,C,j,f,d,g⟩:=h;exact⟨b,C,j,e.trans f,d.mono k,g⟩
def RH.same{d}(r:.bh)(s:lK H d):RH K ρ d hd :=
 ⟨r.len,r.nd,λn c a e b=>(r.cel n c a e b).mono (.cz s) (by
  rcases r.mut (ZK b) with ⟨_,q⟩|⟨_,q⟩|⟨_,q⟩|⟨_,_,_,q⟩<;>rw[q,s _ _ q])⟩
def RSt.mono(k:.c1 ρ' b)(r:RSt K ρ H σd σ):RSt K ρ' b σd σ :=
 ⟨r.len,λi d h=>let ⟨v,c,a⟩:=r.at' i d h;⟨v,c,a.mono k⟩⟩
def RS.same(r:.j5)(s:lK H a):RS K ρ a σd hd σ:=⟨r.hp.same s,r.st.mono (.cz s)⟩
def c6(h:H p=none):lK H (.cg o):=λb u e=>by
 rw[bi (cP e h)];exact e
def RH.alloc(r:.bh)(hp:H p=some .hT)(hn:p∉ρ)(h:.fP):RH K .hY H (hd++[.lst l]):=by
 have k:.c1 .hY H:=⟨λn a e=>by rw[ZC (.cN).1];exact e,λ_ _ h=>h,λ_ _ _ h=>h,λ_ _ h=>h⟩;refine⟨by simp[r.len],?_,λn c a d f=>?_⟩
 ·rw[zYl]
  exact⟨r.nd,by simp,λa j b g=>by simp at g;subst g;intro e;subst e;exact hn j⟩
 ·by_cases hlt:n<hd.length
  ·rw[ZC hlt]at d
   rw[ZC .s0]at f;exact(r.cel n c a d f).mono k rfl
  ·have i:n=hd.length:=by
    have:=(zA.mp d).1;simp at this;omega
   subst i;simp at d;subst d;rw[<-r.len]at f;simp at f;subst f;exact⟨vs,hp,h.mono k⟩
theorem rT{α:Type}:∀{l:List α},l.Nodup->∀{i j:Nat} {x:α},l[i]?=some x->l[j]?=some x->i=j
 |[],_,i,_,_,e,_=>by simp at e
 |a::l,nd,0,0,_,_,_=>rfl
 |a::l,nd,0,j+1,x,e,b=>by
  simp at e b;subst e;exact absurd (ZK b) (.hW).1
 |a::l,nd,i+1,0,x,e,b=>by
  simp at e b;subst b;exact absurd (ZK e) (.hW).1
 |a::l,nd,i+1,j+1,x,e,b=>by
  simp at e b;rw[rT (.hW).2 e b]
def RH.write(r:.bh)(hp:ρ[n]?=some p)(hn:n<hd.length)(h:.fP):RH K ρ (.cg .hT) (hd.set n .d7):=by
 have k:.c1 ρ (.cg .hT):=by
  have f:=ZK hp;refine⟨λ_ _ h=>h,λa g e=>?_,λa o u e=>?_,λa i e=>?_⟩
  ·rw[bi (λz=>r.noTup e .tV)];exact e
  ·rw[bi (λz=>r.noFrz e .tV)];exact e
  ·rw[bi (λz=>r.noExt e .tV)];exact e
 refine⟨by simp[r.len],r.nd,λm c a b d=>?_⟩
 by_cases e:n=m
 ·subst e
  rw[wJ hn]at b;cases b;rw[hp]at d;cases d;exact⟨vs,bN,h.mono k⟩
 ·rw[ZP e]at b
  have ne:a≠p:=λz=>by
   subst z;exact e (rT r.nd hp d)
  exact(r.cel m c a b d).mono k (bi ne)
def Ext.write(hp:p∈ρ):Ext ρ H ρ (.cg o) :=
 ⟨⟨[],by simp⟩,λ_ h=>.inl h,λq u e n=>by rw[bi (λz=>n (by rw[z];exact hp))];exact e⟩
def Ext.alloc(h:H p=none):Ext ρ H .hY (.cg o) :=
 ⟨⟨[p],rfl⟩,λa b=>by
  rcases Z3.mp b with q|q
  ·exact .inl q
  ·simp at q;subst q;exact .inr h,λq u e _=>c6 h q u e⟩
def RS.ext(r:.j5)(e:.et a)(h:RH K ρ' a hd'):RS K ρ' a σd hd' σ:=⟨h,r.st.mono (r.hp.kp e)⟩
abbrev VR(α β:Type):=List Addr->Hp->α->β->Prop
section
variable(K:ZX)
/---/def cm{α β:Type}(R:VR α β)(ρ:.U)(H:Hp)(σd:Sd)(σ:St)(r:Res α)(Q:.kb):Prop:=match r with
 |.ok a hd'=>∀b H' ρ',Ext ρ H ρ' H'->RS K ρ' H' σd hd' σ->R ρ' H' a b->Q b H'
 |_=>False
/---/def oZ{α β:Type}(R:VR α β)(f:Sd->Hd->Res α):St->Hp->(β->Hp->Prop)->Prop:=λσ H Q =>
 ∃ρ σd hd,RS K ρ H σd hd σ/\cm K R ρ H σd σ .jN Q
abbrev rD:VR D V:=λρ H d v=>.dZ d v
abbrev rDs:VR .gJ (List V):=λρ H d v=>.aT d v
abbrev rB:VR Bool Bool:=λ_ _ a b=>a=b
abbrev rO:VR .he .he:=λ_ _ a b=>a=b
/---/def rQ:VR .gJ V:=λρ H l v=>∃p vs,v=.ref p/\.Bm/\.aT l vs
/---/def Eh(ρ:.U)(H:Hp)(σd:Sd)(σ:St)(r:Res .gJ)(Q:VK):Prop:=match r with
 |.ok l hd'=>∀q vs H' ρ',Ext ρ H ρ' H'->RS K ρ' H' σd hd' σ->H q=none->H' q=some (.lst vs)->q∉ρ'->RDs K ρ' H' l vs->Q (.ref q) H'
 |_=>False
/---/def Wv(f:LF):TE:=λσ H Q=>∃ρ σd hd,RS K ρ H σd hd σ/\Eh K ρ H σd σ .jN Q
/---/def du(ρ:.U)(H:Hp)(o:Out)(E:Ea):Prop:=match o with
 |.nx σd hd=>∀σ H' ρ',Ext ρ H ρ' H'->RS K ρ' H' σd hd σ->E.nx σ H'
 |.bk σd hd=>∀σ H' ρ',Ext ρ H ρ' H'->RS K ρ' H' σd hd σ->E.bk σ H'
 |.ct σd hd=>∀σ H' ρ',Ext ρ H ρ' H'->RS K ρ' H' σd hd σ->E.ct σ H'
 |.rt d hd=>∀v H' ρ',Ext ρ H ρ' H'->RH K ρ' H' hd->RD K ρ' H' d v->E.rt v H'
 |_=>False
/---/def Tc(f:SF):TS:=λE σ H=>∃ρ σd hd,RS K ρ H σd hd σ/\du K ρ H .jN E
end
/---/def ME(X:Cx)(e:Expr)(f:EF):Prop:=.D e (oZ X.K .fK f)
/---/def MQ(X:Cx)(e:Expr)(f:LF):Prop:=.D e (oZ X.K (rQ X.K) f)
/---/def MF(X:Cx)(e:Expr)(f:LF):Prop:=.D e (Wv X.K f)
/---/def MT(X:Cx)(e:Expr)(f:TF):Prop:=PT X e (oZ X.K rB f)
/---/def MW(X:Cx)(e:Expr)(f:TF):Prop:=PW X e (oZ X.K rB f)
/---/def MA(X:Cx)(es:.aO)(f:LF):Prop:=PA X es (oZ X.K (rDs X.K) f)
/---/def MS(X:Cx)(s:Stmt)(f:SF):Prop:=PS X s (Tc X.K f)
/---/def MSs(X:Cx)(s:.fS)(f:SF):Prop:=PSs X s (Tc X.K f)
variable{e:Expr}
def PE.imp{t u:TE}(h:.D e t)(i:.pO):.D e u:=λpins s σ H Q I q=>.dq Q I .o9
def PT.imp{t u:TT}(h:PT X e t)(i:.pO):PT X e u:=λpins s σ H Q I q=>.dq Q I .o9
def PW.imp{t u:TT}(h:PW X e t)(i:.pO):PW X e u:=λw pins s σ H Q I q=>h w pins s σ H Q I .o9
def PA.imp{e:.aO}{t u:TA}(h:PA X e t)(i:.pO):PA X e u:=λp pins s σ H Q I q=>h p pins s σ H Q I .o9
def PS.imp{e:Stmt}{t u:TS}(h:PS X e t)(i:.EG):PS X e u:=λpins s σ H D I q=>.dq D I (i D σ H q)
def PSs.imp{e:.fS}{t u:TS}(h:PSs X e t)(i:.EG):PSs X e u:=λpins s σ H D I q=>.dq D I (i D σ H q)
section
variable{R:VR α β}
def cm.here{a:α}{b:β}{Q:.kb}(h:.ED)(r:.j5)(q:R ρ H a b):Q b H:=h b H ρ Ext.refl r q
def cm.at{a:α}{b:β}{Q:.kb}(h:.ED)(e:.et c)(r:RS K ρ' c σd hd σ)(q:R ρ' c a b):Q b c:=h b c ρ' e r q
def cm.imp{r:Res α}{Q d:.kb}(h:cm K R ρ H σd σ r Q)(i:∀b c,Q b c->d b c):cm K R ρ H σd σ r d:=by
 cases r with
 |ok a f=>exact λb c ρ' e s q=>i b c (h b c ρ' e s q)
 |exc x f=>exact h
 |bad=>exact h
def cm.ext{r:Res α}{Q:.kb}(e:.et g)(h:cm K R ρ H σd σ r Q):cm K R ρ' g σd σ r Q:=by
 cases r with
 |ok a f=>exact λb c ρ'' d s q=>h b c ρ'' (e.trans d) s q
 |exc x f=>exact h
 |bad=>exact h
def cm.bind{r:Res α}{k:α->Hd->Res α'}{Q:β'->Hp->Prop}(h:cm K f ρ H σd σ (r.bind k) Q):
  cm K R ρ H σd σ r (λb c=>∃ρ' a hd',Ext ρ H ρ' c/\RS K ρ' c σd hd' σ/\R ρ' c a b/\cm K f ρ' c σd σ (k a hd') Q):=by
 cases r with
 |ok a d=>exact λb c ρ' e s q=>⟨ρ',a,d,e,s,q,cm.ext e h⟩
 |exc x d=>exact h
 |bad=>exact h
def du.ext{o:Out}{E:Ea}(e:.et f)(h:du K ρ H o E):du K ρ' f o E:=by
 cases o with
 |nx σ c=>exact λσ' a ρ'' b s=>h σ' a ρ'' .pm s
 |bk σ c=>exact λσ' a ρ'' b s=>h σ' a ρ'' .pm s
 |ct σ c=>exact λσ' a ρ'' b s=>h σ' a ρ'' .pm s
 |rt d c=>exact λv a ρ'' b s q=>h v a ρ'' .pm s q
 |exc x σ c=>exact h
 |bad=>exact h
end
variable{x:Str}{K:ZX}{b:Expr}{H:Hp}{ρ:.U}{f:EF}{t:TF}
section
variable{X:Cx}{pos:Pos}
def Us{i:Nat}(c:.dN)(b:.qR x)(hd:.a4=false:=by decide)(a:.sr=false:=by decide):.i .e0 (aa i):=by
 refine PE.imp (TK c b hd a) λσ H Q ⟨ρ,σd,hd,r,h⟩=>?_;unfold aa at h;cases e:slot σd i with
 |none=>rw[e]at h;exact h.elim
 |some d =>
  rw[e]at h;obtain⟨v,f,g⟩:=r.st.at' i d e;exact⟨v,f,h.here r g⟩
def ug{v:V}(a:∀ρ H,RD K ρ H d v):∀σ H Q,oZ K (rD K) (fC d) σ H Q->tC v σ H Q:=λ_ H _ ⟨ρ,_,_,r,h⟩=>h.here r (a ρ H)
def ao{i:Int}{j}:.i (.gY .v) (fC .v):=PE.imp Mz .nF
def my{b j}:.i (.gY<|.bool b) (fC .eP):=PE.imp V4 .nF
def eF{j}:.i (.gY .none) .aV:=PE.imp TL .nF
def aP{j}(l:.m)(h:x=toS l):.i (.gY .ht) (fC .ls):=PE.imp B8 (ug λ_ _=>by dsimp[RD];rw[h])
def o0{i:Int}{t:Tok}(a:.ab x)(hm:X.mg x=some .pF)(hd:.a4=false:=by decide):ME X .e0 (fC .v) :=
 PE.imp (pV (v:=.int i) a hm ⟨t,rfl⟩ hd) .nF
def me2{a b:Expr}{q o:EF}{r:R2}{g:O2}(h:.D e (tOp r (oZ X.K .fK q)<|oZ X.K .fK o))
  (x:∀ρ H σd hd σ d k v w Q,RS X.K ρ H σd hd σ->RD X.K ρ H d v->RD X.K ρ H k w->cm X.K .fK ρ H σd σ (g d k hd) Q->r v w H Q):.i e (ag g q o):=by
 refine PE.imp h λσ H Q ⟨ρ,σd,hd,z,p⟩=>?_;refine⟨ρ,σd,hd,z,(.cL).imp λv C ⟨m,d,i,B,c,A,s⟩=>?_⟩;refine⟨m,σd,i,c,(.al s).imp λw t ⟨l,k,f,y,n,j,u⟩=>?_⟩;exact x l t σd f σ d k v w Q n (A.mono<|c.hp.kp y) j u
/---/def Og(K:ZX)(g:O2)(r:R2):Prop:=∀ρ H σd hd σ d k v w Q,RS K ρ H σd hd σ->RD K ρ H d v->RD K ρ H k w->cm K (rD K) ρ H σd σ (g d k hd) Q->r v w H Q
def aT{a:Expr}{c d:EF}{op:Operator}{r:R2}{g:O2}(h:.Y (.e4 op) r)(i:Og X.K g r)(e:.i a c)(f:.i b d):ME X (.mJ op) (ag g c d) :=
 me2 (a:=a) (b:=b) (MR h e f) i
def eK{a:Expr}{c d:EF}{op:CmpOp}{r:R2}{g:O2}(h:.kd)(f:Og X.K g r)(i:.i a c)(e:.i b d)(hm:.pT):ME X .qy (ag g c d) :=
 me2 (a:=a) (b:=b) (QK h i e hm) f
def nB{g:.gQ}:Og K (oI g) .DD:=by
 intro ρ H σd e σ d k v w Q c b a p;cases d<;>cases k<;>first|exact p.elim|skip
 dsimp[RD]at b a;exact⟨_,_,b,a,p.here c .ac⟩
def qp{g:.my}:Og K (oB g) (rI0 λi j=>.bl .cu):=by
 intro ρ H σd e σ d k v w Q c b a p;cases d<;>cases k<;>first|exact p.elim|skip
 dsimp[RD]at b a;exact⟨_,_,b,a,p.here c .ac⟩
def Ei{c:.my}{C:Int->Int->Prop}{g:.gQ}(f:∀i j,c i j=true->C i j):Og K (oIc c g) .C9:=by
 intro ρ H σd l σ d k v w Q h b a p;cases d<;>cases k<;>first|exact p.elim|skip
 rename_i i j
 dsimp[RD]at b a;cases e:c i j with
 |false=>dsimp[oIc,e]at p;exact p.elim
 |true =>
  dsimp[oIc,e,Y5]at p;exact⟨i,j,b,a,f i j e,p.here h .ac⟩
def Ck{i:Int}(h:sml i=true): -(2^64)<i/\i<2^64:=by
 dsimp[sml,ZZ,YL]at h;exact h
def iO:Og K dI .Cj:=Ei λi j h=>by
 rcases (Bool.or_eq_true _ _).mp h with q|q
 ·exact .inl (Ck q)
 ·exact .inr (Ck q)
def cW:Og K bL .Ab:=Ei λi j h=>YD h
/---/def Ww(_ j:Int):Prop:=0<j/\j<2^250
def dw:.Y (.e4 .FloorDiv) .Ci:=opI λi j _ _ _ _ _ a q=>by
 have d:j≠0:=by have:=a.1;omega
 refine PyProof.Rows.floordiv_int d (by rw[Int.fdiv_eq_ediv_of_nonneg _ (Int.le_of_lt a.1)];exact q) (.inl (PyProof.noPylong_of_log2 ?_));have c:j.natAbs<2^250:=by have:=a.2;have:=a.1;omega
 have b:j.natAbs≠0:=by omega
 have:=(Nat.log2_lt b).mpr c;omega
def fJ:Og K ek .Ci:=Ei λi j h=>by
 dsimp[ZZ,YL]at h;exact h
def Nj:Og K wB .AR:=Ei λi j h=>by
 dsimp[ZZ,YL]at h;have:=Ck h.2;exact⟨h.1.1,h.1.2,by omega⟩
def Cl{v:V}(h:.ek):rG d=decide (v=.non):=by
 cases d<;>dsimp[RD]at h
 ·subst h;rfl
 ·subst h;rfl
 ·subst h;rfl
 ·subst h;rfl
 ·obtain⟨p,a,rfl,_⟩:=h;rfl
 ·obtain⟨p,a,rfl⟩:=h;rfl
 ·obtain⟨p,a,rfl,_⟩:=h;rfl
 ·rcases h with ⟨_,_,p,a,rfl,_⟩|⟨_,p,a,rfl,_⟩<;>rfl
def o3:Og K nn .yJ:=by
 intro ρ H σd f σ d k v w Q b c a p;unfold nn at p;cases e:rG k with
 |false=>rw[e]at p;exact p.elim
 |true =>
  rw[e,zE rfl]at p;refine⟨YD ((Cl a).symm.trans e),?_⟩;rw[<-Cl c];exact p.here b .ac
def mz:Og K jH .yE:=by
 intro ρ H σd f σ d k v w Q b c a p;unfold jH at p;cases e:rG k with
 |false=>rw[e]at p;exact p.elim
 |true =>
  rw[e,zE rfl]at p;refine⟨YD ((Cl a).symm.trans e),?_⟩;rw[<-Cl c];exact p.here b .ac
def ke(h:cm K rB ρ H σd σ (asB r) Q):cm K (rD K) ρ H σd σ r (λx g=>∃c,x=.bl c/\Q c g):=by
 refine (.al h).imp λv k ⟨i,d,f,j,a,e,b⟩=>?_;cases d<;>first|exact b.elim|skip
 dsimp[rD,RD]at e;exact⟨_,e,b.here a rfl⟩
def cH(h:.dh)(he:∀a,isTrue e X.env a=(do let v <-a;standAt e.pos;holding [v] (truthy v)):=by intro _;rfl):MT X e (tE f) :=
 PT.imp (TM h he) λσ H Q ⟨ρ,σd,b,c,p⟩=>⟨ρ,σd,b,c,ke p⟩
def aQ(u:.kd)(x:Og X.K g r)(A:.i a n)(q:.i b m)(hm:.pT):MT X .qy (tE<|ag g n m):=by
 refine PT.imp (xf u A q hm) λσ H Q ⟨ρ,σd,z,B,p⟩=>?_;have p:=ke p;refine⟨ρ,σd,z,B,(.cL).imp λv E ⟨j,d,f,D,c,C,o⟩=>?_⟩;refine⟨j,σd,f,c,(.al o).imp λw s ⟨i,k,e,y,l,h,t⟩=>?_⟩;exact x i s σd e σ d k v w _ l (C.mono<|c.hp.kp y) h t
def c7(h:MT X a t):MT X .qt (dZ t):=by
 refine PT.imp (TR h) λσ H Q ⟨ρ,σd,g,i,p⟩=>⟨ρ,σd,g,i,(.cL).imp λc m ⟨j,d,f,l,b,k,e⟩=>?_⟩;cases k;exact e.here b rfl
def fK(h:MT X a t)(b:op=BoolOp.And\/op=BoolOp.Or):MW X (.ie op [a]) t:=by
 rcases b with rfl|rfl
 ·exact QB h
 ·exact TN h
def qJ{rest:.aO}{u:TF}(l:MT X a t)(i:MW X .qG u):MW X .qH (iy t u):=by
 refine PW.imp (TQ l i) λσ H Q ⟨ρ,σd,k,m,p⟩=>⟨ρ,σd,k,m,(.cL).imp λc o ⟨h,d,g,n,e,j,f⟩=>?_⟩;cases j;cases c with
 |true=>dsimp[Y5]at f⊢;exact⟨h,σd,g,e,f⟩
 |false=>dsimp[YM,zZb]at f⊢;exact f.here e rfl
def mB{rest:.aO}{u:TF}(l:MT X a t)(i:MW X .qw u):MW X .qx (tOr t u):=by
 refine PW.imp (V5 l i) λσ H Q ⟨ρ,σd,k,m,p⟩=>⟨ρ,σd,k,m,(.cL).imp λc o ⟨h,d,g,n,e,j,f⟩=>?_⟩;cases j;cases c with
 |true=>dsimp[Y5]at f⊢;exact f.here e rfl
 |false=>dsimp[YM,zZb]at f⊢;exact⟨h,σd,g,e,f⟩
def MW.mt(h:MW X e t):MT X e t:=h.pt
def QZ{σ:St}{Q:VK}(h:oZ K (rD K) (fT t) σ H Q):oZ K rB t σ H (λb g=>Q .eP g):=by
 obtain⟨ρ,σd,j,k,p⟩:=h;refine⟨ρ,σd,j,k,(.cL).imp λc n ⟨l,d,f,m,a,i,e⟩=>?_⟩;cases i;exact e.here a .ac
/---/def MB(X:Cx)(e:Expr)(t:TF):Prop:=.D e (λσ H Q=>oZ X.K rB t σ H λb H'=>Q .eP H')
def MB.me(h:MB X e t):.i e (fT t):=PE.imp h λ_ _ _ q=>QZ q
def iA(h:.dh):MB X e (tE f):=by
 refine PE.imp h λσ H Q ⟨ρ,σd,a,b,p⟩=>⟨ρ,σd,a,b,(ke p).imp ?_⟩;rintro v d ⟨c,rfl,q⟩;exact q
def kq(h:MB X a t):MB X (.ie op [a]) t:=TU h
def o4{rest:.aO}{u:TF}(l:MB X a t)(i:MB X .qG u):MB X .qH (iy t u):=by
 refine PE.imp (TV l i) λσ H Q ⟨ρ,σd,k,m,p⟩=>⟨ρ,σd,k,m,(.cL).imp λc o ⟨h,d,g,n,e,j,f⟩=>⟨c,rfl,?_⟩⟩;cases j;cases c with
 |true=>dsimp[Y5]at f⊢;exact⟨h,σd,g,e,f⟩
 |false=>dsimp[YM,zZb]at f⊢;exact f.here e rfl
def Nk{rest:.aO}{u:TF}(l:MB X a t)(i:MB X .qw u):MB X .qx (tOr t u):=by
 refine PE.imp (V8 l i) λσ H Q ⟨ρ,σd,k,m,p⟩=>⟨ρ,σd,k,m,(.cL).imp λc o ⟨h,d,g,n,e,j,f⟩=>⟨c,rfl,?_⟩⟩;cases j;cases c with
 |true=>dsimp[Y5]at f⊢;exact f.here e rfl
 |false=>dsimp[YM,zZb]at f⊢;exact⟨h,σd,g,e,f⟩
def Ut(h:MB X a t):MB X .qt (dZ t):=by
 refine PE.imp (TW h) λσ H Q ⟨ρ,σd,g,i,p⟩=>⟨ρ,σd,g,i,(.cL).imp λc m ⟨j,d,f,l,b,k,e⟩=>⟨c,rfl,?_⟩⟩;cases k;exact e.here b rfl
def vP(l:MT X c t)(n:.i a j)(k:.i b i):.i (.IfExp c a b pos) (fIf t j i):=by
 refine PE.imp (MC l n k) λσ H Q ⟨ρ,σd,m,o,p⟩=>⟨ρ,σd,m,o,(.cL).imp λc s ⟨f,d,e,r,g,q,h⟩=>?_⟩;cases q;cases c with
 |true=>dsimp[Y5]at h⊢;exact⟨f,σd,e,g,h⟩
 |false=>dsimp[YM,zZb]at h⊢;exact⟨f,σd,e,g,h⟩
end
section
variable{X:Cx}{pos:Pos}
def G9{r t:R2}{A x B:EF}{Q:VK}(L:Og K g r)(S:Og K k t)(rs:.j5)
  (p:cm K (rD K) ρ H σd σ (xC g k A x B σd hd) Q):MX r t (oZ K (rD K) A) (oZ K (rD K) x) (oZ K (rD K) B) σ H Q:=by
 refine⟨ρ,σd,hd,rs,(.cL).imp λv V ⟨s,d,o,W,c,P,E⟩=>?_⟩;refine⟨s,σd,o,c,(.al E).imp λw F ⟨j,y,f,M,e,rw2,G⟩=>?_⟩;refine L j F σd f σ d y v w _ e (P.mono<|c.hp.kp M) rw2 ((.al G).imp λz U ⟨l,J,q,O,a,C,n⟩=>?_);cases J<;>first|exact n.elim|skip
 rename_i b
 dsimp[rD,RD]at C;refine⟨b,C,?_⟩;cases b with
 |false =>
  rw[zF Z4];exact n.here a .ac
 |true =>
  rw[zE rfl];refine⟨l,σd,q,a,(.al n).imp λu N ⟨h,R,m,T,i,D,I⟩=>?_⟩;exact S h N σd m σ y R w u Q i ((rw2.mono<|e.hp.kp O).mono (a.hp.kp T)) D I
def Nl{op d:CmpOp}(n:.kd)(e:.Y (.er d) i)(t:Og X.K g r)(l:Og X.K k i)(q:.fT)(m:.i b h)(o:.i c j)
  (hm:lastMarks [op,d] [b,c]=false:=by with_unfolding_all rfl):ME X (.ig [op,d] [b,c]) (xC g k f h j) :=
 PE.imp (MY n e q m o hm) λ_ _ _ ⟨_,_,_,s,p⟩=>G9 t l s p
def aj:MA X [] am:=PA.imp fB λ_ _ _ ⟨_,_,_,a,p⟩=>p.here a RDs.nil
def ae{b:.aO}(he:.dh)(q:MA X b r)(n:starEach (e::b) X.env=(false,.aB X.env)::starEach b X.env:=by rfl):MA X (e::b) (ad f r):=by
 refine PA.imp (dr he q n) λσ H Q ⟨ρ,σd,s,t,p⟩=>?_;refine⟨ρ,σd,s,t,(.cL).imp λv y ⟨g,d,c,x,a,u,j⟩=>?_⟩;refine⟨g,σd,c,a,(.al j).imp λz w ⟨m,A,k,o,i,h,l⟩=>?_⟩;exact l.here i (RDs.cons (u.mono<|a.hp.kp o) h)
def rV(h:n<=SZ):n<=sizeLine:=ZM h .a
def cQ(h:MA X g r):.i (.kr g) (cZ r):=by
 refine PE.imp (M3 h) λσ H Q ⟨ρ,σd,m,n,p⟩=>?_;refine⟨ρ,σd,m,n,(.cL).imp λf u ⟨s,j,l,t,e,a,b⟩=>?_⟩
 by_cases c:j.length<=SZ
 ·rw[zE c]at b
  refine⟨by rw[<-a.length];exact rV c,λq i=>?_⟩;have d:=c6 (o:=HO.tup f) i;exact b.at (.e5 d) (e.same d) (by dsimp[rD,RD];exact⟨q,f,rfl,bN,a.mono (.cz d)⟩)
 ·rw[zF c]at b;exact b.elim
def Ext.fresh{b:Hp}(e:.et b)(h:b q=none)(n:q∉ρ'):H q=none:=by
 cases z:H q with
 |none=>rfl
 |some o =>
  by_cases a:q∈ρ
  ·obtain⟨t,rfl⟩:=e.pre
   exact absurd (List.mem_append_left t a) n
  ·rw[e.frame q o z a]at h;cases h
def RH.free(r:.bh)(h:H q=none):q∉ρ:=λz=>by
 rcases r.mut z with ⟨_,e⟩|⟨_,e⟩|⟨_,e⟩|⟨_,_,_,e⟩<;>(rw[h]at e;cases e)
def Eh.mk{d:Hp}(p:Eh K ρ H σd σ (.ok l c) Q)(h:.g7 a d)(b:RS K a d σd c σ)(r:RDs K a d l vs):
  ∀q,d q=none->Q (.ref q) (upd d q .hT):=λq e=>by
 have f:=c6 (o:=HO.lst vs) e;have g:=b.hp.free e;exact p q vs _ a (h.trans<|.e5 f) (b.same f) (h.fresh e g) bN g (r.mono<|.cz f)
def cz(h:MA X c r)(hz:∀σd hd ds hd',r σd hd=.ok ds hd'->ds.length<=SZ):MF X (.List c pos) r:=by
 refine PE.imp (Uh h) λσ H Q ⟨ρ,σd,hd,g,p⟩=>?_;refine⟨ρ,σd,hd,g,?_⟩;cases e:r σd hd with
 |exc x l=>rw[e]at p;exact p
 |bad=>rw[e]at p;exact p
 |ok ds f =>
  rw[e]at p;intro j k i d b a;exact⟨by rw[<-RDs.length a];exact rV (hz _ _ _ _ e),p.mk d b a⟩
def aH(h:∀σd hd ds hd',r σd hd=.ok ds hd'->ds.length=n):∀σd hd ds hd',ad f r σd hd=.ok ds hd'->ds.length=n+1:=by
 intro σd hd ds hd' e;dsimp[ad]at e;cases b:f σd hd with
 |exc x c=>rw[b]at e;cases e
 |bad=>rw[b]at e;cases e
 |ok d i =>
  rw[b]at e;dsimp[aR]at e;cases a:r σd i with
  |exc x c=>rw[a]at e;cases e
  |bad=>rw[a]at e;cases e
  |ok g j =>
   rw[a]at e;dsimp[aR]at e;cases e;simp[h _ _ _ _ a]
def bu:∀σd hd ds hd',am σd hd=.ok ds hd'->ds.length=0:=by
 intro σd hd ds hd' e;dsimp[am]at e;cases e;rfl
def cE(h:MF X e r):.i e (bR r):=by
 refine PE.imp h λσ H Q ⟨ρ,σd,k,l,p⟩=>⟨ρ,σd,k,l,?_⟩;unfold bR at p;cases e:r σd k with
 |exc x y=>rw[e]at p;exact p
 |bad=>rw[e]at p;exact p
 |ok u m =>
  rw[e]at p;dsimp[aR]at p;intro q A n d c b g s v f
  by_cases i:u.length<=SZ
  ·rw[zE i]at p
   have o:=b.hp.alloc s v f;have j:.g7 (d++[q]) n:=⟨by obtain⟨t,rfl⟩:=c.pre;exact⟨t++[q],by simp⟩,λa w=>by
    rcases Z3.mp w with z|z
    ·exact c.new a z
    ·simp at z;subst z;exact .inr g,c.frame⟩
   refine p.at j (l.ext j o) ?_;dsimp[rD,RD];refine⟨q,?_,rfl⟩;rw[<-b.hp.len];simp
  ·rw[zF i]at p;exact p.elim
def eB(h:MF X e r):MQ X e r:=by
 refine PE.imp h λσ H Q ⟨ρ,σd,d,m,p⟩=>⟨ρ,σd,d,m,?_⟩;cases e:r σd d with
 |exc x s=>rw[e]at p;exact p
 |bad=>rw[e]at p;exact p
 |ok n k =>
  rw[e]at p;intro q f l b j a g i o c;exact p (.ref q) l b j a ⟨q,f,rfl,.inl (SqL.of i),c⟩
def vO.sq(h:vO K H a xs):SqL K H a xs:=by
 rcases h with ⟨o,h⟩|h
 ·exact .inl (.inr ⟨o,h⟩)
 ·exact .inr h
def Cm(r:.bh)(h:.ek)(e:kT hd d=some l):∃p vs,v=.ref p/\.Bm/\.aT l vs:=by
 cases d<;>dsimp[kT]at e<;>try (cases e;done)
 ·cases e
  dsimp[RD]at h;obtain⟨p,vs,f,b,g⟩:=h;exact⟨p,vs,f,.inr b,g⟩
 ·rename_i n
  dsimp[RD]at h;obtain⟨a,f,b⟩:=h;cases c:hd[n]? with
  |none=>rw[c]at e;cases e
  |some x =>
   rw[c]at e;cases x with
   |dct l=>cases e
   |dcT l=>cases e
   |ob l=>cases e
   |lst i =>
    cases e;obtain⟨vs,q1,q2⟩:=r.cel n _ a c f;exact⟨a,vs,b,.inl (SqL.of q1),q2⟩
 ·cases e
  dsimp[RD]at h;obtain⟨p,vs,f,b,g⟩:=h;exact⟨p,vs,f,.inl b.sq,g⟩
def cT(h:.dh):MQ X e (lOf f):=by
 refine PE.imp h λσ H Q ⟨ρ,σd,g,i,p⟩=>⟨ρ,σd,g,i,(.cL).imp λv n ⟨j,d,c,m,a,k,b⟩=>?_⟩;cases e:kT c d with
 |none=>rw[e]at b;exact b.elim
 |some l=>rw[e]at b;exact b.here a (Cm a.hp k e)
def Jh(r:.fP)(e:atI l i=some d):∃v,L2.atI vs i=some v/\.dZ d v:=by
 unfold atI at e;unfold L2.atI;have b:=r.length;have a:ixN l.length i=L2.ixN vs.length i:=by rw[b];rfl
 rw[a]at e;cases c:L2.ixN vs.length i with
 |none=>rw[c]at e;cases e
 |some j =>
  rw[c]at e;dsimp[Option.bind_some]at e⊢;exact r.get e
def aI{t n:EF}(B:.i a t)(y:.i b n)(z:xg b):.i (.dk a b) (fAt t n):=by
 refine me2 (a:=a) (b:=b) (Nc Uk B y z) λρ H σd A σ d k v w Q j C c p=>?_;unfold oAt at p;cases e:kT A d with
 |none=>rw[e]at p;exact p.elim
 |some l =>
  rw[e]at p;cases k<;>first|exact p.elim|skip
  rename_i i
  simp only at p;cases h:atI l i with
  |none=>rw[h]at p;exact p.elim
  |some x =>
   rw[h]at p;dsimp[RD]at c;obtain⟨q,s,o,f,g⟩:=Cm j.hp C e;obtain⟨u,r,m⟩:=Jh g h;rcases f with f|f
   ·exact .inl ⟨q,s,i,u,o,c,f,r,p.here j m⟩
   ·exact .inr (.inl ⟨q,s,i,u,o,c,SqT.of f,r,p.here j m⟩)
def kr(J:MF X a m)(z:.i b r)(D:xg b):.i (.dk a b) (fIx m r):=by
 refine PE.imp (Nc Jg J z D) λσ H Q ⟨ρ,σd,t,K,p⟩=>⟨ρ,σd,t,K,?_⟩;unfold fIx at p;cases e:m σd t with
 |exc x N=>rw[e]at p;exact p
 |bad=>rw[e]at p;exact p
 |ok l g =>
  rw[e]at p;dsimp[aR]at p;intro q E M h A f F G I j;refine⟨h,σd,g,f,(.al<|p.ext A).imp λw L ⟨C,k,y,s,n,d,c⟩=>?_⟩;cases k<;>first|exact c.elim|skip
  rename_i i
  simp only at c;cases o:atI l i with
  |none=>rw[o]at c;exact c.elim
  |some x =>
   rw[o]at c;dsimp[rD,RD]at d;obtain⟨u,B,v⟩:=Jh (j.mono<|f.hp.kp s) o;exact⟨q,E,i,u,rfl,d,SqL.of (s.frame q _ G I),B,c.here n v⟩
end
variable{p:Pos}
section
variable{X:Cx}{pos:Pos}
/---/def B1(X:Cx)(r:.j4)(x:Str)(p pos:Pos)(a:Expr):Prop:=∀t,PA X [a] t->PE X (.cx .fV) (tCB r t)
def Ej{a:Expr}{id:String}{r:.j4}(e:jm X .fC r)(d:.ab x)(hm:.kf)(c:bootBuiltins x=some .fC)(hn:x≠"__name__" := by decide)(b:.a4=false:=by decide)
  (he:.bm X.env=(false,.bw X.env)::starEach [] X.env:=by rfl):.qT a:=λ_ f=>oX e d hm c f hn b he
def Ek{a:Expr}{T:String}{r:.j4}(e:jm X .jV r)(d:.ab x)(hm:.kf)(c:bootBuiltins x=some .jV)(hn:x≠"__name__" := by decide)(b:.a4=false:=by decide)
  (he:.bm X.env=(false,.bw X.env)::starEach [] X.env:=by rfl):.qT a:=λ_ f=>AQ e d hm c f hn b he
def Cn{f:LF}{g:List D->Hd->Res D}(j:.qT a)(u:MQ X a f)
  (o:∀ρ H σd hd σ l q vs Q,RS X.K ρ H σd hd σ->(SqL X.K H q vs\/H q=some .gx)->RDs X.K ρ H l vs->cm X.K .fK ρ H σd σ (g l hd) Q->r [.ref q] H Q)
  (s:.bm X.env=(false,.bw X.env)::starEach [] X.env:=by rfl):.i (.cx .fV) (λσ h=>(f σ h).bind λl h=>g l h):=by
 refine PE.imp (j _<|dr u fB s) λσ H Q ⟨ρ,σd,hd,w,t⟩=>⟨ρ,σd,hd,w,(.al t).imp λv m ⟨c,l,b,y,e,⟨q,vs,k,n,d⟩,i⟩=>?_⟩;subst k;exact o c m σd b σ l q vs Q e n d i
def AV{g:D->Hd->Res D}(j:.qT a)(o:.fT)
  (l:∀ρ H σd hd σ d v Q,RS X.K ρ H σd hd σ->RD X.K ρ H d v->cm X.K .fK ρ H σd σ (g d hd) Q->r [v] H Q)
  (m:.bm X.env=(false,.bw X.env)::starEach [] X.env:=by rfl):.i (.cx .fV) (λσ h=>(f σ h).bind λx h=>g x h):=by
 refine PE.imp (j _<|dr o fB m) λσ H Q ⟨ρ,σd,hd,q,n⟩=>⟨ρ,σd,hd,q,(.al n).imp λv k ⟨c,d,b,t,e,s,i⟩=>?_⟩;exact l c k σd b σ d v Q e s i
def cK{c:LF}(i:.ab "len")(hm:X.mg "len"=none)(f:MQ X a c)(d:.bm X.env=(false,.bw X.env)::starEach [] X.env:=by rfl):ME X .vY (cC c) :=
 Cn (Ej rS i hm PySem.boot_len (he:=d)) f (λρ H σd j σ l q e Q h g b p=>⟨q,e,rfl,g.imp id SqT.of,by rw[<-b.length];exact p.here h .ac⟩) d
def fY{f:LF}(m:.ab "tuple")(hm:X.mg "tuple"=none)(k:MQ X a f)(h:.bm X.env=(false,.bw X.env)::starEach [] X.env:=by rfl):.i (.cx<|.bM "tuple") (fg f):=by
 refine Cn (Ek zV m hm .bq (he:=h)) k (λρ H σd n σ l q d Q g b c p=>⟨q,d,rfl,?_⟩) h;rcases b with b|b
 ·refine .inl ⟨b,λj i=>?_⟩
  have e:=c6 (o:=HO.tup d) i;exact p.at (.e5 e) (g.same e) (by dsimp[rD,RD];exact⟨j,d,rfl,bN,c.mono (.cz e)⟩)
 ·exact .inr ⟨SqT.of b,p.here g (by dsimp[rD,RD];exact⟨q,d,rfl,b,c⟩)⟩
def rW{c:EF}(h:.ab "int")(hm:X.mg "int"=none)(g:.i a c)(f:.bm X.env=(false,.bw X.env)::starEach [] X.env:=by rfl):.i (.cx<|.bM "int") (qG c):=by
 refine AV (Ek KG h hm .bq (he:=f)) g (λρ H σd i σ d v Q e b p=>?_) f;cases d<;>first|exact p.elim|skip
 ·dsimp[RD]at b;subst b
  exact .inr ⟨_,rfl,p.here e .iV⟩
 ·dsimp[RD]at b;subst b
  exact .inl ⟨_,rfl,p.here e .ac⟩
def El(ns:.c):PySem.preSum .tJ ns.length=ns.sum:=by
 have a:∀k,k<=ns.length->PySem.preSum .tJ k=(ns.take k).sum:=by
  intro k
  induction k with
  |zero=>intro _;simp[PySem.preSum]
  |succ k b =>
   intro c;rw[PySem.preSum,b .b,zXn,ZE .b,List.sum_append];simp[List.getD,ZE (show k<ns.length by omega)]
 rw[a _ .B,YN]
def Ji{ns:.c}(r:bM .dE a)(i:Nat)(v:S1)(h:a.toArray[i]?=some v):∃t,v=.int (ns.getD i 0) t:=by
 have f:a[i]?=some v:=by simpa using h
 have j:=r.length;have b:i<a.length:=(zA.mp f).1;have c:i<ns.length:=by rw[<-j]at b;simpa using b
 obtain⟨u,d,g⟩:=r.get (i:=i) (x:=.int ns[i]) .hQ;rw[f]at d;cases d;obtain⟨t,e⟩:=g;exact⟨t,by rw[e];simp[List.getD,c]⟩
def KM(A:.br):jm X (.dm "sum") (λxs H Q=>∃(p:Addr) (ns:.c),xs=.jZ/\(SqL X.K H p .dE\/SqT X.K H p .dE)/\Q (.int ns.sum) H):=by
 intro pins s σ H xs C Q I r q;obtain⟨p,ns,rfl,k,q⟩:=q;obtain⟨u,rfl,y⟩:=bM.one r;cases (show u=Value.ref p from y);have fin:∀{w:Obj} {l:Heap} {t:Nat} {j:Tok} {n:Nat},n=ns.length->(∀b o,b∉[s.heap.objs.size]->(s.heap.push w).get? b=some o->l.get? b=some o)->EP X pins σ Q (.int (PySem.preSum .tJ n) j) { s with heap:=l,toks:=t }:=by
  intro w l t j n B h;subst B;refine⟨.int ns.sum,H,I.kept λb o e=>h b o .Cp .h5,⟨j,by rw[El]⟩,q⟩
 have x:(X.A.in1).handled=none:=I.ok.hd A;rcases k with k|k
 ·obtain⟨a,m,v,z⟩:=I.list k
  have g:s.heap.IsList p a.toArray:=v.isList;have c:p<s.heap.objs.size:=by obtain⟨o,f,_⟩:=g;exact ZI f
  refine PySem.call_sum_walkG (PySem.wpAny_pyIter_list g ?_);refine⟨s.heap.objs.size,_,.ol,_,_,_,λi=>ns.getD i 0,rfl,PySem.Walks.list x s.heap.objs.size p (ZN c) a.toArray,⟨⟨_,ZJ _ rfl,rfl,rfl⟩,?_⟩,?_,Ji m,?_⟩
  ·obtain⟨o,f,r⟩:=g;exact⟨o,.aa f,r⟩
  ·intro b d
   rcases y6.mp d with rfl|d
   ·rw[YS];exact Z6 _
   ·simp at d;subst d;rw[YS];exact Z2 c
  ·exact λl t j h=>fin .A2 h
 ·obtain⟨a,m,v,z⟩:=I.tuple k
  have g:s.heap.IsTuple p a.toArray:=v;have c:p<s.heap.objs.size:=by obtain⟨o,f,_⟩:=g;exact ZI f
  refine PySem.call_sum_walkG (PySem.wpAny_pyIter_tuple g ?_);refine⟨s.heap.objs.size,_,.ol,_,_,_,λi=>ns.getD i 0,rfl,PySem.Walks.tuple x s.heap.objs.size p (ZN c) a.toArray,⟨⟨_,ZJ _ rfl,rfl,rfl⟩,?_⟩,?_,Ji m,?_⟩
  ·obtain⟨o,f,r⟩:=g;exact⟨o,.aa f,r⟩
  ·intro b d
   rcases y6.mp d with rfl|d
   ·rw[YS];exact Z6 _
   ·simp at d;subst d;rw[YS];exact Z2 c
  ·exact λl t j h=>fin .A2 h
theorem rX{K:ZX}{ρ:.U}{H:Hp}:∀{l:List D} {vs:List V} {is:.c},RDs K ρ H l vs->jj l=some is->vs=is.map V.int
 |[],_,is,r,e=>by dsimp[jj]at e;cases e;dsimp[RDs]at r;subst r;rfl
 |d::l,_,is,r,e=>by
  dsimp[RDs]at r;obtain⟨v,vs,rfl,h1,a⟩:=r;cases d<;>dsimp[jj]at e<;>try (cases e;done)
  rename_i i
  cases c:jj l with
  |none=>rw[c]at e;cases e
  |some b =>
   rw[c]at e;cases e;dsimp[RD]at h1;rw[h1,rX a c];rfl
def xU{d:LF}(g:.br)(m:.ab "sum")(hm:X.mg "sum"=none)(i:MQ X a d)(f:.bm X.env=(false,.bw X.env)::starEach [] X.env:=by rfl):.i (.cx<|.bM "sum") (rH d):=by
 refine Cn (Ej (KM g) m hm .bq (he:=f)) i (λρ H σd o σ l q n Q k h b p=>?_) f;cases c:jj l with
 |none=>dsimp[c]at p;exact p.elim
 |some j =>
  dsimp[c]at p;have e:=rX b c;subst e;exact⟨q,j,rfl,h.imp id SqT.of,p.here k .ac⟩
end
section
variable{K:ZX}{ρ:.U}{H:Hp}
mutual
theorem Em:∀{d k:D} {v:V} {b:Bool},RD K ρ H d v->RD K ρ H k v->peq d k=some b->b=true
 |.int i,k,v,b,h1,a,e=>by
  dsimp[RD]at h1;subst h1;cases k<;>dsimp[RD]at a<;>try (cases a;done)
  all_goals first
   |(rcases a with ⟨_,_,_,_,z,_⟩|⟨_,_,_,z,_⟩<;>(cases z;done))
   |(cases a;dsimp[peq]at e;simpa using e.symm)
   |(obtain⟨_,_,z,_⟩:=a;cases z;done)
   |(obtain⟨_,_,z⟩:=a;cases z;done)
   |(obtain⟨_,_,_,z,_⟩:=a;cases z;done)
 |.bl i,k,v,b,h1,a,e=>by
  dsimp[RD]at h1;subst h1;cases k<;>dsimp[RD]at a<;>try (cases a;done)
  all_goals first
   |(rcases a with ⟨_,_,_,_,z,_⟩|⟨_,_,_,z,_⟩<;>(cases z;done))
   |(cases a;dsimp[peq]at e;simpa using e.symm)
   |(obtain⟨_,_,z,_⟩:=a;cases z;done)
   |(obtain⟨_,_,z⟩:=a;cases z;done)
   |(obtain⟨_,_,_,z,_⟩:=a;cases z;done)
 |.str x,k,v,b,h1,a,e=>by
  dsimp[RD]at h1;subst h1;cases k<;>dsimp[RD]at a<;>try (cases a;done)
  all_goals first
   |(rcases a with ⟨_,_,_,_,z,_⟩|⟨_,_,_,z,_⟩<;>(cases z;done))
   |(dsimp[peq]at e;dsimp[toS,V.str.injEq,PySem.Str.mk.injEq]at a;have j:=congrArg Array.toList a;simp at j;subst j;simpa using e.symm)
   |(obtain⟨_,_,z,_⟩:=a;cases z;done)
   |(obtain⟨_,_,z⟩:=a;cases z;done)
   |(obtain⟨_,_,_,z,_⟩:=a;cases z;done)
 |.non,k,v,b,h1,a,e=>by
  dsimp[RD]at h1;subst h1;cases k<;>dsimp[RD]at a<;>try (cases a;done)
  all_goals first
   |(rcases a with ⟨_,_,_,_,z,_⟩|⟨_,_,_,z,_⟩<;>(cases z;done))
   |(dsimp[peq]at e;simpa using e.symm)
   |(obtain⟨_,_,z,_⟩:=a;cases z;done)
   |(obtain⟨_,_,z⟩:=a;cases z;done)
   |(obtain⟨_,_,_,z,_⟩:=a;cases z;done)
 |.tup xs,k,v,b,h1,a,e=>by
  dsimp[RD]at h1;obtain⟨p,vs,rfl,hp,g⟩:=h1;cases k<;>dsimp[peq]at e<;>try (cases e;done)
  ·dsimp[RD]at a;cases a
  ·dsimp[RD]at a;cases a
  ·rename_i o
   dsimp[RD]at a;obtain⟨r,m,z,f,h⟩:=a;cases z;rw[hp]at f;cases f;cases c:mj xs o with
   |none=>rw[c]at e;cases e
   |some q =>
    rw[c]at e;dsimp[Y8,Y2]at e;have:=AW g h c;subst this;rw[<-e,g.length,h.length];simp
 |.ref n,k,v,b,h1,a,e=>by cases k<;>dsimp[peq]at e<;>cases e
 |.lit l,k,v,b,h1,a,e=>by cases k<;>dsimp[peq]at e<;>cases e
 |.exn c l,k,v,b,h1,a,e=>by dsimp[peq]at e<;>cases e
theorem AW:∀{xs ys:List D} {vs:List V} {b:Bool},RDs K ρ H xs vs->RDs K ρ H ys vs->mj xs ys=some b->b=true
 |[],_,_,_,_,_,e=>by dsimp[mj]at e;cases e;rfl
 |x::xs,[],_,_,_,_,e=>by dsimp[mj]at e;cases e;rfl
 |x::xs,y::ys,_,b,h1,d,e=>by
  dsimp[RDs]at h1 d;obtain⟨v,r,rfl,f,g⟩:=h1;obtain⟨j,k,z,h,i⟩:=d;cases z;dsimp[mj]at e;cases c:peq x y with
  |none=>rw[c]at e;cases e
  |some p =>
   cases a:mj xs ys with
   |none=>rw[c,a]at e;cases e
   |some q =>
    rw[c,a]at e;dsimp[Y2]at e;rw[<-e,Em f h c,AW g i a];rfl
end
end
section
variable{K:ZX}{ρ:.U}{H:Hp}{P:N3}{w:N6}{s:P1}
def nC(hok:.qd){p:Addr}(h:H p=some .gx):∃a:List S1,bM vs a/\s.heap.IsTuple p a.toArray:=by
 obtain⟨z,a,r,t⟩:=hok p _ h;exact⟨a,r,t⟩
mutual
theorem Uu(hok:.qd):∀{d k:D} {v o:V} {u r:S1} {b:Bool} {A:P2},RD K ρ H d v->RD K ρ H k o->cU v u->cU o r->peq d k=some b->A.units+dep d<cLine->SeqAt.EqAt A s u r b
 |.int i,k,v,o,u,r,b,A,h1,a,h,g,e,m=>by
  dsimp[RD]at h1;subst h1;obtain⟨t,rfl⟩:=h;cases k<;>dsimp[peq]at e<;>try (cases e;done)
  all_goals cases e
  ·dsimp[RD]at a;subst a;cases g;exact SeqAt.EqAt.int_none i t
  ·dsimp[RD]at a;subst a;cases g;exact SeqAt.EqAt.int_bool i t _
  ·dsimp[RD]at a;subst a;obtain⟨B,rfl⟩:=g;exact zXi i t _ B
  ·dsimp[RD]at a;obtain⟨p,Q,rfl,I,_⟩:=a;cases g
   obtain⟨C,_,G⟩:=nC hok I;exact SeqAt.EqAt.int_tuple i t G (ZS (YR _ _) m)
 |.bl i,k,v,o,u,r,b,A,h1,a,h,g,e,m=>by
  dsimp[RD]at h1;subst h1;cases h;cases k<;>dsimp[peq]at e<;>try (cases e;done)
  all_goals cases e
  ·dsimp[RD]at a;subst a;cases g;exact SeqAt.EqAt.bool_bool i _
  ·dsimp[RD]at a;subst a;obtain⟨B,rfl⟩:=g;exact SeqAt.EqAt.bool_int i _ B
 |.str x,k,v,o,u,r,b,A,h1,a,h,g,e,m=>by
  dsimp[RD]at h1;subst h1;obtain⟨t,rfl⟩:=h;cases k<;>dsimp[peq]at e<;>try (cases e;done)
  all_goals cases e
  rename_i y
  dsimp[RD]at a;subst a;obtain⟨B,rfl⟩:=g;have:decide (x=y)=.ui:=by
   by_cases z:x=y
   ·subst z;simp
   ·have:¬toS x=toS y:=λq=>z .rl
    simp[z,this]
  rw[this];exact SeqAt.EqAt.str_str _ t _ B
 |.non,k,v,o,u,r,b,A,h1,a,h,g,e,m=>by
  dsimp[RD]at h1;subst h1;cases h;cases k<;>dsimp[peq]at e<;>try (cases e;done)
  all_goals cases e
  ·dsimp[RD]at a;subst a;cases g;exact SeqAt.EqAt.same _
  ·dsimp[RD]at a;subst a;obtain⟨B,rfl⟩:=g;exact SeqAt.EqAt.none_int _ B
  ·dsimp[RD]at a;obtain⟨p,Q,rfl,I,_⟩:=a;cases g
   obtain⟨C,_,G⟩:=nC hok I;exact SeqAt.EqAt.none_tuple G (ZS (YR _ _) m)
 |.tup R,k,v,o,u,r,b,A,h1,a,h,g,e,m=>by
  have O:=h1;dsimp[RD]at h1;obtain⟨p,Q,rfl,I,q1⟩:=h1;cases h;obtain⟨C,S,G⟩:=nC hok I;have F:A.units<cLine:=ZS (YR _ _) m;cases k<;>dsimp[peq]at e<;>try (cases e;done)
  ·cases e;dsimp[RD]at a;subst a;cases g;exact SeqAt.EqAt.tuple_none G F
  ·cases e;dsimp[RD]at a;subst a;obtain⟨B,rfl⟩:=g;exact SeqAt.EqAt.tuple_int _ B G F
  ·rename_i U
   have M:=a;dsimp[RD]at a;obtain⟨Y,T,rfl,L,q2⟩:=a;cases g
   by_cases hpp:p=Y
   ·subst hpp
    have:b=true:=Em O M (by dsimp[peq];exact e);subst this;exact SeqAt.EqAt.same _
   ·obtain⟨E,J,N⟩:=nC hok L
    cases c:mj R U with
    |none=>rw[c]at e;cases e
    |some Z =>
     rw[c]at e;dsimp[Y8,Y2]at e;obtain⟨f,W,X⟩:=xh hok (A:=A.in1) q1 q2 S J c (by dsimp[dep]at m;show A.units+1+oK R<cLine;omega);have:=SeqAt.RcAt.tuples G N F (λj h1 a=>by simpa using W j .iS .lh);rw[<-e,<-X,q1.length,q2.length,S.length,J.length];refine SeqAt.EqAt.of_refs hpp ?_;rw[show (decide (C.length=E.length))=(C.length == E.length) from rfl];simpa using this
 |.ref n,k,v,o,u,r,b,A,h1,a,h,g,e,m=>by cases k<;>dsimp[peq]at e<;>cases e
 |.lit l,k,v,o,u,r,b,A,h1,a,h,g,e,m=>by cases k<;>dsimp[peq]at e<;>cases e
 |.exn c l,k,v,o,u,r,b,A,h1,a,h,g,e,m=>by dsimp[peq]at e<;>cases e
theorem xh(hok:.qd):∀{xs ys:List D} {vs d:List V} {us a:List S1} {b:Bool} {A:P2},RDs K ρ H xs vs->RDs K ρ H ys d->bM vs us->bM d a->mj xs ys=some b->A.units+oK xs<cLine->
  ∃f:Nat->Bool,(∀j (h1:j<us.length) (g:j<a.length),SeqAt.EqAt A s us[j] a[j] (f j))/\(.bY<|min us.length a.length).all f=b
 |[],ys,vs,d,us,a,b,A,h1,g,h,i,e,k=>by
  dsimp[RDs]at h1;subst h1;cases h;dsimp[mj]at e;cases e;exact⟨λ_=>true,λj h1=>by simp at h1,by simp⟩
 |x::xs,[],vs,d,us,a,b,A,h1,g,h,i,e,k=>by
  dsimp[RDs]at g;subst g;cases i;dsimp[mj]at e;cases e;exact⟨λ_=>true,λj h1 g=>by simp at g,by simp⟩
 |x::xs,y::ys,vs,d,us,a,b,A,h1,g,h,i,e,k=>by
  dsimp[RDs]at h1 g;obtain⟨v,r,rfl,G,z⟩:=h1;obtain⟨I,J,rfl,B,o⟩:=g;cases h with
  |cons m n =>
   cases i with
   |cons u t =>
    dsimp[mj]at e;cases c:peq x y with
    |none=>rw[c]at e;cases e
    |some p =>
     cases l:mj xs ys with
     |none=>rw[c,l]at e;cases e
     |some q =>
      rw[c,l]at e;dsimp[Y2]at e;dsimp[oK]at k;have F:=Uu hok (A:=A) G B m u c .b;obtain⟨f,C,E⟩:=xh hok (A:=A) z o n t l .b;refine⟨λj=>match j with|0=>p|j+1=>f j,λj h1 g=>?_,?_⟩
      ·cases j with
       |zero=>exact F
       |succ j=>exact C j .iS .nf
      ·rw[<-e,<-E,wI,wI,Nat.succ_min_succ,List.range_succ_eq_map,zZx,List.all_map]
       rfl
end
def Uv(hok:.qd){b:Bool}(h1:.ek)(a:.dZ k G)(r:cU v u)(i:cU G E)(e:peq d k=some b)(I:A.units+dep d<cLine):
  SeqAt.RcAt A s u E b/\SeqAt.RcNeAt A s u E (!b):=by
 have g:A.units<cLine:=ZS (YR _ _) I;cases d<;>dsimp[RD]at h1
 ·subst h1;cases r
  cases k<;>dsimp[peq]at e<;>try (cases e;done)
  all_goals cases e
  ·dsimp[RD]at a;subst a;cases i;exact⟨SeqAt.RcAt.none_none,SeqAt.RcNeAt.none_none⟩
  ·dsimp[RD]at a;subst a;obtain⟨h,rfl⟩:=i;exact⟨SeqAt.RcAt.none_int _ h,SeqAt.RcNeAt.none_int _ h⟩
  ·dsimp[RD]at a;obtain⟨p,J,rfl,C,_⟩:=a;cases i
   obtain⟨m,_,l⟩:=nC hok C;exact⟨SeqAt.RcAt.none_tuple l g,SeqAt.RcNeAt.none_tuple l g⟩
 ·subst h1;cases r
  cases k<;>dsimp[peq]at e<;>try (cases e;done)
  all_goals cases e
  ·dsimp[RD]at a;subst a;cases i;exact⟨SeqAt.RcAt.bool_bool _ _,SeqAt.RcNeAt.bool_bool _ _⟩
  ·dsimp[RD]at a;subst a;obtain⟨h,rfl⟩:=i;exact⟨SeqAt.RcAt.bool_int _ _ h,SeqAt.RcNeAt.bool_int _ _ h⟩
 ·subst h1;obtain⟨t,rfl⟩:=r
  cases k<;>dsimp[peq]at e<;>try (cases e;done)
  all_goals cases e
  ·dsimp[RD]at a;subst a;cases i;exact⟨SeqAt.RcAt.int_none _ t,SeqAt.RcNeAt.int_none _ t⟩
  ·dsimp[RD]at a;subst a;cases i;exact⟨SeqAt.RcAt.int_bool _ t _,SeqAt.RcNeAt.int_bool _ t _⟩
  ·dsimp[RD]at a;subst a;obtain⟨h,rfl⟩:=i;exact⟨SeqAt.RcAt.int_int _ t _ h,SeqAt.RcNeAt.int_int _ t _ h⟩
  ·dsimp[RD]at a;obtain⟨p,J,rfl,C,_⟩:=a;cases i
   obtain⟨m,_,l⟩:=nC hok C;exact⟨SeqAt.RcAt.int_tuple _ t l g,SeqAt.RcNeAt.int_tuple _ t l g⟩
 ·subst h1;obtain⟨t,rfl⟩:=r
  cases k<;>dsimp[peq]at e<;>try (cases e;done)
  all_goals cases e
  rename_i x y
  dsimp[RD]at a;subst a;obtain⟨h,rfl⟩:=i;have:decide (x=y)=.ui:=by
   by_cases z:x=y
   ·subst z;simp
   ·have:¬toS x=toS y:=λq=>z .rl
    simp[z,this]
  rw[this];exact⟨SeqAt.RcAt.str_str _ t _ h,SeqAt.RcNeAt.str_str _ t _ h⟩
 ·rename_i M
  obtain⟨p,J,rfl,C,q1⟩:=h1;cases r;obtain⟨m,N,l⟩:=nC hok C;cases k<;>dsimp[peq]at e<;>try (cases e;done)
  ·cases e;dsimp[RD]at a;subst a;cases i;exact⟨SeqAt.RcAt.tuple_none l g,SeqAt.RcNeAt.tuple_none l g⟩
  ·cases e;dsimp[RD]at a;subst a;obtain⟨h,rfl⟩:=i;exact⟨SeqAt.RcAt.tuple_int _ h l g,SeqAt.RcNeAt.tuple_int _ h l g⟩
  ·rename_i Q
   dsimp[RD]at a;obtain⟨W,O,rfl,F,q2⟩:=a;cases i;obtain⟨n,o,B⟩:=nC hok F;cases c:mj M Q with
   |none=>rw[c]at e;cases e
   |some U =>
    rw[c]at e;dsimp[Y8,Y2]at e;obtain⟨f,L,S⟩:=xh hok (A:=A.in1) q1 q2 N o c (by dsimp[dep]at I;show A.units+1+oK M<cLine;omega);have T:=SeqAt.RcAt.tuples l B g .zr;have R:=SeqAt.RcNeAt.tuples l B g .zr;rw[<-e,<-S,q1.length,q2.length,N.length,o.length,show (decide (m.length=n.length))=(m.length == n.length) from rfl];exact⟨by simpa using T,by simpa using R⟩
 ·cases k<;>dsimp[peq]at e<;>cases e
 ·cases k<;>dsimp[peq]at e<;>cases e
 ·dsimp[peq]at e<;>cases e
end
section
variable{X:Cx}
def Co(r:.bh)(h:.ek)(e:jM hd d=some l):∃p vs,v=.ref p/\SqL K H p vs/\.aT l vs:=by
 cases d<;>dsimp[jM]at e<;>try (cases e;done)
 ·rename_i n
  dsimp[RD]at h;obtain⟨a,f,b⟩:=h;cases c:hd[n]? with
  |none=>rw[c]at e;cases e
  |some x =>
   rw[c]at e;cases x with
   |dct l=>cases e
   |dcT l=>cases e
   |ob l=>cases e
   |lst i =>
    cases e;obtain⟨vs,q1,q2⟩:=r.cel n _ a c f;exact⟨a,vs,b,SqL.of q1,q2⟩
 ·cases e
  dsimp[RD]at h;obtain⟨p,vs,f,b,g⟩:=h;exact⟨p,vs,f,b.sq,g⟩
def Nm{σ:St}{b:Bool}(U:.mt)(I:.x)(r:RH X.K ρ H hd)(h1:RD X.K ρ H d v)(i:RD X.K ρ H k y)
  (C:cU v u) (z:cU y w) (e:eqG hd d k=some b):SeqAt.RcAt X.A s u w b/\SeqAt.RcNeAt X.A s u w (!b):=by
 have g:X.A.units<cLine:=by omega
 dsimp[eqG]at e;cases n:jM hd d with
 |none =>
  cases m:jM hd k with
  |some l=>rw[n,m]at e;cases e
  |none =>
   rw[n,m]at e;simp only at e;split at e
   ·rename_i hd20
    exact Uv I.hok h1 i C z e .b
   ·cases e
 |some F =>
  cases m:jM hd k with
  |none=>rw[n,m]at e;cases e
  |some J =>
   rw[n,m]at e;dsimp[eqL]at e;obtain⟨p,Y,rfl,L,q1⟩:=Co r h1 n;obtain⟨S,P,rfl,Q,q2⟩:=Co r i m;cases C;cases z;obtain⟨c,B,M,_⟩:=I.list L;obtain⟨a,q,x,_⟩:=I.list Q;have t:s.heap.IsList p c.toArray:=M.isList;have h:s.heap.IsList S a.toArray:=x.isList;have T:F.length=c.length:=q1.length.trans B.length;have W:J.length=a.length:=q2.length.trans q.length;split at e
   ·rename_i hd20
    split at e
    ·rename_i K
     obtain⟨f,E,G⟩:=xh I.hok (A:=X.A.in1) q1 q2 B q e (by show X.A.units+1+oK F<cLine;omega);have o:c.toArray.size=a.toArray.size:=by simp;omega
     have O:=SeqAt.RcAt.lists t h o g .yg;have N:=SeqAt.RcNeAt.lists t h o g .yg;have R:min c.length a.length=c.length:=by omega
     rw[R]at G;rw[<-G];exact⟨by simpa using O,by simpa using N⟩
    ·rename_i K
     cases e;have o:(c.toArray.size != a.toArray.size)=true:=by simp;omega
     exact⟨SeqAt.RcAt.lists_lengths t h o g,SeqAt.RcNeAt.lists_lengths t h o g⟩
   ·cases e
/---/def Q0(K:ZX)(f:Bool->Bool):R2:=λx y H Q=>∃ρ hd d k b,RH K ρ H hd/\RD K ρ H d x/\RD K ρ H k y/\eqG hd d k=some b/\Q (.bl<|f b) H
def bq(f:.mt):.Y (.er .Eq) (Q0 X.K id):=by
 intro pins s σ H x y v u Q I i a h;obtain⟨ρ,j,d,k,b,r,c,g,e,q⟩:=h;exact(Nm f I r c g i a e).1 _ _ _ _ ⟨.bl b,H,I,rfl,q⟩
def gB(f:.mt):.Y (.er .NotEq) (Q0 X.K not):=by
 intro pins s σ H x y v u Q I i a h;obtain⟨ρ,j,d,k,b,r,c,g,e,q⟩:=h;exact(Nm f I r c g i a e).2 _ _ _ _ ⟨.bl (!b),H,I,rfl,q⟩
def bT:Og K oEq (Q0 K id):=by
 intro ρ H σd c σ d k v w Q f g a p;unfold oEq at p;cases e:eqG c d k with
 |none=>rw[e]at p;exact p.elim
 |some b=>rw[e]at p;exact⟨ρ,c,d,k,b,f.hp,g,a,e,p.here f .iV⟩
def jo:Og K oNe (Q0 K not):=by
 intro ρ H σd c σ d k v w Q f g a p;unfold oNe at p;cases e:eqG c d k with
 |none=>rw[e]at p;exact p.elim
 |some b=>rw[e]at p;exact⟨ρ,c,d,k,b,f.hp,g,a,e,p.here f .ac⟩
end
def du.outE{H K ρ}{En:Ea}(p:du K ρ H (outE r σd k) En):
  cm K (rD K) ρ H σd σ r (λv a=>∃ρ' d hd',Ext ρ H ρ' a/\RS K ρ' a σd hd' σ/\RD K ρ' a d v/\du K ρ' a (k d hd') En):=by
 cases r with
 |ok d e=>exact λb a ρ' c f q=>⟨ρ',d,e,c,f,q,du.ext c p⟩
 |exc x e=>exact p
 |bad=>exact p
def RSt.set{H K ρ}(r:RSt K ρ H σd σ)(i:Nat)(h:.ek):RSt K ρ H (σd.set i<|some d) .oI:=by
 refine⟨by simp[r.len],λj x e=>?_⟩
 by_cases a:i=j
 ·subst a
  by_cases b:i<σd.length
  ·dsimp[slot,wJ b]at e
   cases e;exact⟨v,by rw[wJ (by rw[<-r.len];exact b)],h⟩
  ·dsimp[slot]at e
   rw[wM .X]at e;cases e
 ·dsimp[slot,ZP a]at e
  rw[ZP a];exact r.at' j x (by simpa only[slot] using e)
/---/def Wx(K:ZX)(g:GF):TG:=λv σ H Q=>∃ρ σd hd d σd',RS K ρ H σd hd σ/\RD K ρ H d v/\g d σd=some σd'/\∀σ',RS K ρ H σd' hd σ'->Q σ' H
/---/def Uw(σ:Sd)(l:.m)(xs:List D):Sd:=(l.zip xs).foldl .AP σ
/---/def Ux(K:ZX)(l:.m):TGs:=λvs σ H Q=>∃ρ σd hd ds,RS K ρ H σd hd σ/\RDs K ρ H ds vs/\ds.length=l.length/\∀σ',RS K ρ H (Uw σd l ds) hd σ'->Q σ' H
/---/def MG(X:Cx)(tg:Expr)(g:GF):Prop:=PG X tg (Wx X.K g)
/---/def MGs(X:Cx)(ts:.aO)(l:.m):Prop:=PGs X ts (Ux X.K l)
section
variable{pos:Pos}
def PG.imp{t u:TG}(h:PG X tg t)(i:.Ez):PG X tg u:=λpins s σ H v w Q I r q=>.dq v w Q I r (i v σ H Q q)
def PGs.imp{t u:TGs}(h:PGs X tg t)(i:.Ez):PGs X tg u:=λpins s σ H v w Q I r q=>.dq v w Q I r (i v σ H Q q)
def Q1(c:.fR)(hi:.dN)(g:.fO)(f:X.fn x=true\/X.env.scope.names.lookup x=some .local:=by first|exact .inl rfl|exact .inr rfl|assumption):MG X .e0 (gN i):=by
 refine PG.imp (QF c hi g f) λv σ H Q ⟨ρ,σd,j,d,a,b,h,e,q⟩=>?_;dsimp[gN,Y2]at e;subst e;exact q _ ⟨b.hp,b.st.set i h⟩
def el:MGs X [] []:=by
 refine PGs.imp QG λd σ H Q ⟨ρ,σd,f,b,c,a,e,q⟩=>?_;have:b=[]:=by simpa using e
 subst this;dsimp[RDs]at a;exact⟨a,q σ c⟩
def br{l:.m}(h1:MG X e (gN i))(f:MGs X a l)
  (n:(.Cr).map (·.2)=assign e X.env::(.od).map (·.2):=by rfl):MGs X (e::a) (i::l):=by
 refine PGs.imp (ML h1 f n) λo σ H Q ⟨ρ,σd,j,b,m,k,e,q⟩=>?_;cases b with
 |nil=>simp at e
 |cons d b =>
  dsimp[RDs]at k;obtain⟨v,r,rfl,h1,f⟩:=k;refine⟨v,r,rfl,ρ,σd,j,d,_,m,h1,rfl,λσ' g=>?_⟩;exact⟨ρ,_,j,b,g,f,by simpa using e,λc h=>q c h⟩
def fL{k:Nat}{l:.m}(j:.br)(h:MGs X a l)
  (hn:(.od).length=l.length:=by rfl) (b:(.od).findIdx? (·.1)=none:=by rfl):MG X (.kr a) (gT l):=by
 refine PG.imp (T4 j h hn b) λv σ H Q ⟨ρ,σd,n,d,c,s,f,e,q⟩=>?_;cases d<;>dsimp[gT]at e<;>try (cases e;done)
 rename_i o
 split at e
 ·rename_i g
  cases e;dsimp[RD]at f;obtain⟨p,i,rfl,m,r⟩:=f;exact⟨p,i,rfl,SqT.of m,by rw[<-r.length];exact g,ρ,σd,n,o,s,r,g,q⟩
 ·cases e
def aG:MSs X [] bh:=PSs.imp QC λEn σ H ⟨ρ,σd,b,a,p⟩=>p σ H ρ Ext.refl a
def af{rest:.fS}{a b:SF}(h1:MS X st a)(h:MSs X rest b):MSs X (st::rest) (ax a b):=by
 refine PSs.imp (MD h1 h) λEn σ H ⟨ρ,σd,f,i,p⟩=>⟨ρ,σd,f,i,?_⟩;unfold ax at p;cases e:a σd f with
 |nx σ1 h1=>rw[e]at p;exact λσ' j ρ' g c=>⟨ρ',σ1,h1,c,du.ext g p⟩
 |rt d h1=>rw[e]at p;exact p
 |bk σ1 h1=>rw[e]at p;exact p
 |ct σ1 h1=>rw[e]at p;exact p
 |exc x σ1 h1=>rw[e]at p;exact p
 |bad=>rw[e]at p;exact p
def ak(h:MS X st a):MSs X [st] a:=QD h
def Nn:MS X (.Break pos) Qu:=PS.imp MH λEn σ H ⟨ρ,σd,b,a,p⟩=>p σ H ρ Ext.refl a
def dB:MS X st fz:=PS.imp MK λEn σ H ⟨ρ,σd,a,b,p⟩=>p.elim
def aB(h:.dh):MS X (.Return (some e) pos) (aS f):=by
 refine PS.imp (TY h) λEn σ H ⟨ρ,σd,j,k,p⟩=>⟨ρ,σd,j,k,(.gv).imp λv i ⟨b,d,g,m,a,l,c⟩=>?_⟩;exact c v i b Ext.refl a.hp l
def cw(h:.dh)(g:swapsWith e none pos.line X.env=pure false:=by rfl):MS X (.Expr e pos) (ed f):=by
 refine PS.imp (QE h g) λEn σ H ⟨ρ,σd,k,l,p⟩=>⟨ρ,σd,k,l,(.gv).imp λv j ⟨b,d,i,m,a,n,c⟩=>?_⟩;exact c σ j b Ext.refl a
def bc{a b:.fS}(l:MT X c t)(m:MSs X a g)(k:MSs X b h):MS X (.If c a b pos) (sIf t g h):=by
 refine PS.imp (Wb l m k) λEn σ H ⟨ρ,σd,i,n,p⟩=>⟨ρ,σd,i,n,?_⟩;unfold sIf at p;cases e:t σd i with
 |ok c f =>
  rw[e]at p;intro b o ρ' j d q;cases q;cases c with
  |true=>dsimp[Y5]at p⊢;exact⟨ρ',σd,f,d,du.ext j p⟩
  |false=>dsimp[YM,zZb]at p⊢;exact⟨ρ',σd,f,d,du.ext j p⟩
 |exc x f=>rw[e]at p;exact p
 |bad=>rw[e]at p;exact p
def Uy(l:.fR)(hi:.dN)(j:.fO)(he:.dh)(k:.v5 X.env=pure false:=by rfl)(m:X.fn x=true\/X.env.scope.names.lookup x=some .local:=by first|exact .inl rfl|exact .inr rfl|assumption):
  MS X (.g1 .oN) (aD (gN i) f):=by
 refine PS.imp (T5 l hi j he k m) λEn σ H ⟨ρ,σd,n,o,p⟩=>⟨ρ,σd,n,o,(.gv).imp λv h ⟨b,d,g,r,a,q,c⟩=>?_⟩;exact c _ h b Ext.refl ⟨a.hp,a.st.set i q⟩
def uh(he:.dh)(m:MG X tg g)(n:swapsWithSole [tg] e pos.line X.env=pure false:=by rfl)(l:swappedStores [tg] e X.env=pure none:=by rfl)
  (h1:(.Df).map (·.2)=[assign tg X.env]:=by rfl):MS X (.g1 [tg]) (aD g f):=by
 refine PS.imp (GR he m n l h1) λEn σ H ⟨ρ,σd,o,q,p⟩=>⟨ρ,σd,o,q,(.gv).imp λv k ⟨a,d,h,s,j,r,b⟩=>?_⟩;cases c:g d σd with
 |none=>rw[c]at b;exact b.elim
 |some σ1=>rw[c]at b;exact⟨a,σd,h,d,σ1,j,r,c,λσ' i=>b σ' k a Ext.refl i⟩
def Uz:Fm.ixN=L2.ixN:=rfl
def lM{G D J:EF}{f:Pos}(he:.i e J)(V:.i o G)(hi:.i i D)(P:swapsWithSole .hz e pos.line X.env=pure false:=by rfl)(Y:swappedStores .hz e X.env=pure none:=by rfl)
  (h1:(.Dg).map (·.2)=.Ar:=by rfl) (u:∀v,assign (.Subscript o i f) X.env v=(do
   let ov <-holding [v] .c8
   let z <-holding [v,ov] .uQ
   standAt f
   holding [v,ov,z] (setItem ov z v)
   release [v,ov,z] []):=by intro _;rfl):MS X (.g1 .hz) (jX G D J):=by
 refine PS.imp (GR he (MM V hi Nf u) P Y h1) λEn σ H ⟨ρ,σd,S,T,p⟩=>⟨ρ,σd,S,T,(.gv).imp λv H1 ⟨C,d,A,e1,q,U,M⟩=>?_⟩;refine⟨C,σd,A,q,(du.outE M).imp λvo H2 ⟨y,dO,w,Q,m,O,f⟩=>?_⟩;refine⟨y,σd,w,m,(du.outE f).imp λvi E ⟨g,W,s,I,h,K,b⟩=>?_⟩;have x:=(U.mono<|q.hp.kp Q).mono (m.hp.kp I);have r:=O.mono (m.hp.kp I);cases dO with
 |ref n =>
  cases W with
  |int j =>
   simp only at b;cases c:s[n]? with
   |none=>rw[c]at b;exact b.elim
   |some cell =>
    rw[c]at b;cases cell with
    |dct l=>exact b.elim
    |dcT l=>exact b.elim
    |ob l=>exact b.elim
    |lst l =>
     simp only at b;cases B:ixN l.length j with
     |none=>rw[B]at b;exact b.elim
     |some k =>
      rw[B]at b;dsimp[RD]at r K;obtain⟨a,u,rfl⟩:=r;obtain⟨L,N,t⟩:=h.hp.cel n _ a c u;refine⟨a,L,j,k,rfl,K,N,by rw[<-t.length,<-Uz];exact B,?_⟩;have R:n<s.length:=(.gE).1;have Z:=h.hp.write u R (RDs.set x k t);have F:Ext g E g (upd E a<|.lst<|L.set k v):=Ext.write (ZK u);exact b σ _ g F (h.ext F Z)
  |_=>exact b.elim
 |_=>exact b.elim
def No(G:.fR)(hi:.dN)(D:.fO)(he:.dh)(y:.Y (inplaceOp op) r)(F:Og X.K g r)(I:X.fn x=true\/X.env.scope.names.lookup x=some .local:=by first|exact .inl rfl|exact .inr rfl|assumption):
  MS X (.AugAssign (.Name x pos') op e pos) (Ko i g f):=by
 refine PS.imp (T6 G hi D he y I) λEn σ H ⟨ρ,σd,K,o,p⟩=>?_;unfold Ko at p;cases c:slot σd i with
 |none=>rw[c]at p;exact p.elim
 |some d =>
  rw[c]at p;obtain⟨v,B,E⟩:=o.st.at' i d c;refine⟨v,B,ρ,σd,K,o,(.gv).imp λw C ⟨j,k,b,A,n,h,q⟩=>?_⟩;refine F j C σd b σ d k v w _ n (E.mono<|o.hp.kp A) h ((du.outE q).imp λz u ⟨l,m,s,L,a,J,t⟩=>?_);exact t _ u l Ext.refl ⟨a.hp,a.st.set i J⟩
end
section
variable(K:ZX)
structure xV(ρ0:.U)(H0:Hp)(J:It)(l:List D)(g:.gR):Prop where
 go:∀ρ H hd (i:Nat) d,Ext ρ0 H0 ρ H->RH K ρ H hd->d9 g l hd->l[i]?=some d->J.go i H/\∀x H',J.yld i H x H'->lK H H'/\RD K ρ H' d x
 stop:∀ρ H hd,Ext ρ0 H0 ρ H->RH K ρ H hd->d9 g l hd->J.stop l.length H
 sz:l.length<=sizeLine
/---/def Wy(ρ:.U)(H:Hp)(σd:Sd)(σ:St)(r:Res .tg)(R:.mC):Prop:=match r with
 |.ok p hd'=>∀J H' ρ',Ext ρ H ρ' H'->RS K ρ' H' σd hd' σ->xV K ρ' H' J p.1 p.2->R J H'
 |_=>False
/---/def Wz(f:IF):TI:=λσ H R=>∃ρ σd hd,RS K ρ H σd hd σ/\Wy K ρ H σd σ .jN R
end
/---/def MI(X:Cx)(tg e:Expr)(f:IF):Prop:=PI X tg e (Wz X.K f)
section
variable{pos:Pos}{tg:Expr}
def PI.imp{t u:TI}(h:PI X tg e t)(i:∀σ H R,u σ H R->t σ H R):PI X tg e u:=λpins s σ H R I q=>.dq R I (i σ H R q)
def eG{t:Expr}{f:IF}{b:SF}(hp:.mq)(W:.br)(hi:MI X tg t f)(Y:MG X tg g)(hb:MSs X body b)
  (Z:∀x,foldedSetIterable t X.env x=pure x:=by intro _;rfl):MS X (.For tg t body [] pos) (fE f g b):=by
 refine PS.imp (MP hp W hi Y hb Z) λEn σ H ⟨ρ,σd,U,rs,p⟩=>⟨ρ,σd,U,rs,?_⟩;unfold fE at p;cases e:f σd U with
 |exc x h'=>rw[e]at p;exact p
 |bad=>rw[e]at p;exact p
 |ok q R =>
  rw[e]at p;obtain⟨l,M⟩:=q;intro J T E N O S;simp only at p S;refine⟨λi m σ' z=>∃ρ' k hd',Ext E T ρ' z/\RS X.K ρ' z k hd' σ'/\i<=l.length/\m=l.length - i/\du X.K ρ' z (i0 M l g b (l.drop i) k hd') En,
   ⟨l.length,E,σd,R,Ext.refl,O,YH _,by simp,by simpa using du.ext N p⟩,?_⟩
  rintro i m σ' z ⟨ρ',k,hd',L,w,a0,rfl,a⟩
  by_cases D:i<l.length
  ·have Q:l[i]?=some l[i]:=by simp[D]
   rw[zZt D]at a;unfold i0 at a
   by_cases B:d9 M l hd'
   ·rw[zE B]at a
    obtain⟨go,yl⟩:=S.go ρ' z hd' i _ L w.hp B Q;refine .inr ⟨go,λF A=>∃s h u,Ext E T s A/\RS X.K s A h u F/\du X.K s A (i0 M l g b (l.drop (i + 1)) h u) En,
     λF A ⟨s,h,u,a1,a2,a3⟩=>⟨l.length-(i+1),by omega,s,h,u,a1,a2,D,rfl,a3⟩,λx A y=>?_⟩
    obtain⟨V,rx⟩:=yl x A y;cases c:g l[i] k with
    |none=>rw[c]at a;exact a.elim
    |some h =>
     rw[c]at a;simp only at a;refine⟨ρ',k,hd',l[i],h,w.same V,rx,c,λF P=>⟨ρ',h,hd',P,?_⟩⟩;have r:Ext ρ' z ρ' A:=Ext.same V;cases I:b h hd' with
     |nx σ3 G=>rw[I]at a;exact λC K n j o=>⟨n,σ3,G,L.trans .jB,o,du.ext .jB a⟩
     |ct σ3 G=>rw[I]at a;exact λC K n j o=>⟨n,σ3,G,L.trans .jB,o,du.ext .jB a⟩
     |bk σ3 G=>rw[I]at a;exact λC K n j o=>a C K n .jB o
     |rt d G=>rw[I]at a;exact λv K n j o rv=>a v K n .jB o rv
     |exc x σ3 G=>rw[I]at a;exact a
     |bad=>rw[I]at a;exact a
   ·rw[zF B]at a;exact a.elim
  ·have e0:i=l.length:=by omega
   subst e0;rw[List.drop_length]at a;unfold i0 at a
   by_cases B:d9 M l hd'
   ·rw[zE B]at a
    exact .inl ⟨S.stop ρ' z hd' L w.hp B,a σ' z ρ' Ext.refl w⟩
   ·rw[zF B]at a;exact a.elim
def Eo{b:SF}(hp:.mq)(I:MT X c t)(F:MSs X body b):MS X (.While c body [] pos) (t8 t b):=by
 refine PS.imp (MN hp I F) λEn σ H ⟨ρ,σd,E,J,p⟩=>?_;unfold t8 at p;refine⟨λm σ' D=>∃ρ' a hd',RS X.K ρ' D a hd' σ'/\du X.K ρ' D (fW t b m a hd') En,⟨Qv t b σd E,ρ,σd,E,J,p⟩,?_⟩;rintro m σ' D ⟨ρ',a,hd',C,f⟩;cases m with
 |zero=>exact f.elim
 |succ m =>
  unfold fW at f;refine⟨ρ',a,hd',C,?_⟩;cases e:t a hd' with
  |exc x B=>rw[e]at f;exact f
  |bad=>rw[e]at f;exact f
  |ok c B =>
   rw[e]at f;intro L G u k z q;cases q;cases c with
   |false=>dsimp[YM,zZb]at f⊢;exact f σ' G u k z
   |true =>
    dsimp[Y5]at f⊢;refine⟨λg A=>∃w l s,RS X.K w A l s g/\du X.K w A (fW t b m l s) En,λg A q=>⟨m,Z6 _,q⟩,u,a,B,z,?_⟩;cases o:b a B with
    |nx g r=>rw[o]at f;exact λn y h j i=>⟨h,g,r,i,du.ext .pi f⟩
    |ct g r=>rw[o]at f;exact λn y h j i=>⟨h,g,r,i,du.ext .pi f⟩
    |bk g r=>rw[o]at f;exact λn y h j i=>f n y h .pi i
    |rt d r=>rw[o]at f;exact λv y h j i K=>f v y h .pi i K
    |exc x g r=>rw[o]at f;exact f
    |bad=>rw[o]at f;exact f
theorem Np(r:.bh)(f:H q=some .gx)(b:.fP)(hz:.vM):xV K ρ H (Itt K q) l none where
 go:=λρ' g hd' i d a j _ h=>by
  have k:=r.kp a;obtain⟨v,c,m⟩:=(b.mono k).get h;have e:SqT K g q vs:=SqT.of (k.tup q vs f);refine⟨⟨vs,v,e,c⟩,λx n y=>?_⟩;obtain⟨rfl,y⟩:=y;have:=y vs e;rw[c]at this;cases this;exact⟨lK.refl _,m⟩
 stop:=λρ' g hd' a j _=>⟨vs,SqT.of ((r.kp a).tup q vs f),by rw[b.length];exact ZL _⟩
 sz:=by rw[b.length];exact hz
theorem Nq(r:.bh)(f:vO K H q vs)(b:.fP)(hz:.vM):xV K ρ H (Itl K q) l none where
 go:=λρ' g hd' i d a j _ h=>by
  have k:=r.kp a;obtain⟨v,c,m⟩:=(b.mono k).get h;have e:SqL K g q vs:=(f.mono k).sq;refine⟨⟨vs,v,e,c⟩,λx n y=>?_⟩;obtain⟨rfl,y⟩:=y;have:=y vs e;rw[c]at this;cases this;exact⟨lK.refl _,m⟩
 stop:=λρ' g hd' a j _=>⟨vs,(f.mono<|r.kp a).sq,by rw[b.length];exact ZL _⟩
 sz:=by rw[b.length];exact hz
theorem Nr(k:ρ[n]?=some q)(hz:l.length<=sizeLine):xV K ρ H (Itl K q) l (some n) where
 sz:=hz
 go:=λρ' m hd' i d b f c o=>by
  obtain⟨a,e,g⟩:=f.cel n _ q c (b.get k);obtain⟨v,h,p⟩:=g.get o;have j:SqL K m q a:=SqL.of e;refine⟨⟨a,v,j,h⟩,λx r y=>?_⟩;obtain⟨rfl,y⟩:=y;have:=y a j;rw[h]at this;cases this;exact⟨lK.refl _,p⟩
 stop:=λρ' m hd' b f c=>by
  obtain⟨a,e,g⟩:=f.cel n _ q c (b.get k);exact⟨a,SqL.of e,by rw[g.length];exact ZL _⟩
def UA{l:Expr}(r:.D l n):PI X tg l (λσ H R=>n σ H λx d=>(∃a xs,x=.ref a/\SqL X.K d a xs/\(xs.length<=sizeLine->R (Itl X.K a) d))\/∃a xs,x=.ref a/\SqT X.K d a xs/\(xs.length<=sizeLine->R (Itt X.K a) d)):=by
 intro pins s σ H R I h;refine thn (r pins s σ H _ I h) λv f ⟨x,d,c,m,q1⟩=>?_;rcases q1 with ⟨a,xs,e,k,q⟩|⟨a,xs,e,k,q⟩
 ·subst e
  cases m;obtain⟨g,t,p,i⟩:=c.list k;refine zYm p.isList ?_;refine⟨f.heap.objs.size,[f.heap.objs.size],_,_,d,rfl,c.kept λb o e=>.aa e,Kx a _,⟨_,ZJ _ rfl,rfl,rfl⟩,λb j=>?_,q i⟩;have e:b=f.heap.objs.size:=by simpa using j
  subst e;exact c.fpOk .B .tS
 ·subst e
  cases m;obtain⟨g,t,p,i⟩:=c.tuple k;refine zv (show f.heap.IsTuple a g.toArray from p) ?_;refine⟨f.heap.objs.size,[f.heap.objs.size],_,_,d,rfl,c.kept λb o e=>.aa e,GS a _,⟨_,ZJ _ rfl,rfl,rfl⟩,λb j=>?_,q i⟩;have e:b=f.heap.objs.size:=by simpa using j
  subst e;exact c.fpOk .B .tS
def dh(h:.dh):MI X tg e (dA f):=by
 refine PI.imp (UA h) λσ H R ⟨ρ,σd,u,z,p⟩=>⟨ρ,σd,u,z,?_⟩;unfold dA at p;cases e:f σd u with
 |exc x A=>rw[e]at p;exact p
 |bad=>rw[e]at p;exact p
 |ok d s =>
  rw[e]at p;dsimp[aR]at p;intro v t j i b k;cases d<;>try exact p.elim
  ·rename_i l
   dsimp[rD,RD]at k;obtain⟨q,o,rfl,r,g⟩:=k;exact .inr ⟨q,o,rfl,SqT.of r,λm=>p _ t j i b (Np b.hp r g m)⟩
  ·rename_i n
   dsimp[rD,RD]at k;obtain⟨a,w,rfl⟩:=k;cases c:s[n]? with
   |none=>dsimp[c]at p;exact p.elim
   |some cell =>
    cases cell with
    |dct l=>dsimp[c]at p;exact p.elim
    |dcT l=>dsimp[c]at p;exact p.elim
    |ob l=>dsimp[c]at p;exact p.elim
    |lst l =>
     dsimp[c]at p;obtain⟨o,y,g⟩:=b.hp.cel n _ a c w;exact .inl ⟨a,o,rfl,SqL.of y,λm=>p _ t j i b (Nr w (by rw[g.length];exact m))⟩
  ·rename_i l
   dsimp[rD,RD]at k;obtain⟨q,o,rfl,r,g⟩:=k;exact .inl ⟨q,o,rfl,r.sq,λm=>p _ t j i b (Nq b.hp r g m)⟩
theorem xW(lo:Int)(n:Nat)(hz:n<=2000000):xV K ρ H (Itr lo n) ((.s).map λk:Nat=>.int (lo+k)) none where
 go:=λρ' f hd' i d g c _ b=>by
  have a:i<n:=by
   have:=(zA.mp b).1;simpa using this
  refine⟨a,λx h y=>?_⟩;obtain⟨rfl,rfl⟩:=y;have e:d=.int (lo+i):=by simpa[a] using b.symm
  subst e;exact⟨lK.refl _,by dsimp[RD]⟩
 stop:=λρ' f hd' g c _=>by
  show n<=_;simp
 sz:=by
  have:(2000000:Nat)<=sizeLine:=by rw[YZ];decide
  simp;omega
def dC(r:.qq)(hm:.qa)(o:.fT)(k:.bm X.env=.i0:=by rfl):MI X tg (.cx .qz) (cr f):=by
 refine PI.imp (Ky r hm (dr o fB k) k) λσ H R ⟨ρ,σd,j,q,b⟩=>⟨ρ,σd,j,q,?_⟩;unfold cr at b;cases e:f σd j with
 |exc x t=>rw[e]at b;exact b
 |bad=>rw[e]at b;exact b
 |ok d m =>
  rw[e]at b;dsimp[aR]at b;intro v i c g h l;cases d<;>try exact b.elim
  rename_i n
  simp only at b;dsimp[rD,RD]at l;subst l;split at b
  ·rename_i s
   refine⟨n,rfl,by omega,by omega,b _ i c g h ?_⟩;have:=xW (K:=X.K) (ρ := c) (H:=i) 0 n.toNat .b;simpa using this
  ·exact b.elim
def kf(D:.qq)(hm:.qa)(F:.fT)(u:.i b g)(w:.kv X.env=.m9:=by rfl)(h:.ky X.env=.nU:=by rfl):MI X tg (.ks .qz) (fj f g):=by
 refine PI.imp (Kz D hm (dr F (dr u fB h) (by rw[w,h])) w h) λσ H R ⟨ρ,σd,y,G,c⟩=>⟨ρ,σd,y,G,?_⟩;unfold fj at c;cases e:f σd y with
 |exc x C=>rw[e]at c;exact c
 |bad=>rw[e]at c;exact c
 |ok d l =>
  rw[e]at c;dsimp[aR]at c;intro v I o m r z;refine⟨o,σd,l,r,?_⟩;cases q:g σd l with
  |exc x C=>rw[q]at c;exact c
  |bad=>rw[q]at c;exact c
  |ok E A =>
   rw[q]at c;dsimp[aR]at c;intro J B n s t k;cases d<;>try exact c.elim
   cases E<;>try exact c.elim
   rename_i i j
   simp only at c;dsimp[rD,RD]at z k;subst z k;split at c
   ·rename_i u
    exact⟨i,j,rfl,⟨by omega,by omega,by omega,by omega⟩,c _ B n (m.trans s) t (xW i (j-i).toNat .b)⟩
   ·exact c.elim
end
def Cp{q d y:Expr}(G:∀e s,¬E e s)(I:Nat->P1->Prop)
  (turn:∀n s,I n s->wpAny .aC A (pyNext it) (λr b => match r with
   |none=>R (.ok .next) b
   | some v=>wpAny .aC A (letOwnedTupleGo d it v) (λ_ b => wpAny .aC A (assign d env v) (λ_ k =>
     wpAny .aC A (forIn C true λc r=>if r=true then do let ok <-isTrue c env (eval c env);pure (ForInStep.yield ok) else pure .og) (λok g =>
      if ok=true then wpAny .aC A (eval q env) (λx j =>
       wpAny .aC A (call (.dm "list.append") [acc,x]) (λ_ l=>∃m,m<n/\I m l) E j) E g
      else ∃m,m<n/\I m g) E k) E b) E b) E s)
  (n:Nat) (h:I n s) :
  codeAny .aC A (.compLoop (.ik q [⟨d,y,C,0⟩]) 0 it acc env) R s:=by
 refine codeAny_loop rfl I (λn s J=>?_) n h;refine wpAny_noted ?_;rw[compTurn_list];have o:∀{α:Type} {t:Sem α} {Q D:α->P1->Prop} {F:.R} {s:P1},wpAny .aC A t Q E s->(∀a s,Q a s->D a s)->wpAny .aC A t D F s:=λh H=>zXq h H λe s z=>(G e s z).elim;refine zD (wpAny_standAt (zD (o (turn n s J) λr b f=>?_)));cases r with
 |none=>exact x3 f
 |some v =>
  refine zD (o f λ_ b f=>?_);refine zD (o f λ_ k u=>zD (o u λok g i=>?_));cases ok with
  |false=>exact x3 ⟨rfl,i⟩
  |true =>
   exact zD (zD<|o i λx j B=>zD (o B λ_ l p=>x3 (x3 ⟨rfl,p⟩)))
theorem qK:∀(l:List .je) (cs:List .hO),(∀y∈l,y.2=.free->∃c,env.cells.lookup y.1=some c)->
  ∃cl,(forIn l cs λ(x:Str × NameKind) (r:List .hO)=>if (x.2 == .free)=true then do let a <-cellOf env x.1;pure .A9 else pure .og)=(pure cl:Sem _)/\
   (∀x c,cl.lookup x=some c->cs.lookup x=some c\/env.cells.lookup x=some c)/\(∀y∈l,y.2=.free->∃c,cl.lookup y.1=some c)/\∀x c,cs.lookup x=some c->∃t,cl.lookup x=some t
 |[],cs,_=>⟨cs,by simp,λx c h=>.inl h,λy f=>by simp at f,λx c h=>⟨c,h⟩⟩
 |(n,k)::l,cs,m=>by
  by_cases i:k=.free
  ·subst i
   obtain⟨c,s⟩:=m (n,.free) .f rfl;obtain⟨cl,j,p,o,g⟩:=qK l ((n,c)::cs) λy f=>m y (by simp[f]);refine⟨cl,?_,λx d h=>?_,λy f b=>?_,λx d h=>?_⟩
   ·rw[List.forIn_cons]
    dsimp[beq_self_eq_true,Y5,cellOf,s];exact j
   ·rcases p x d h with q|q
    ·rw[Z7]at q
     cases e:x == n with
     |true =>
      rw[e]at q;have:x=n:=by simpa using e
      subst this;cases q;exact .inr s
     |false=>rw[e]at q;exact .inl q
    ·exact .inr q
   ·rcases y6.mp f with e|e
    ·subst e
     exact g n c (by simp[Z7])
    ·exact o y e b
   ·by_cases e:x=n
    ·subst e
     exact g x c (by simp[Z7])
    ·exact g x d (by rw[Z7,beq_eq_false_iff_ne.mpr e];exact h)
  ·obtain⟨cl,j,p,o,g⟩:=qK l cs λy f=>m y (by simp[f])
   refine⟨cl,?_,p,λy f b=>?_,g⟩
   ·rw[List.forIn_cons]
    have:(k == NameKind.free)=false:=by simpa using i
    dsimp[this,YM,zZb];exact j
   ·rcases y6.mp f with e|e
    ·subst e;exact absurd b i
    ·exact o y e b
def nD(d:∀y∈scope.names,y.2=.free->∃c,env.cells.lookup y.1=some c):
  ∃cl,closureFor scope env=pure cl/\(∀x c,cl.lookup x=some c->env.cells.lookup x=some c)/\∀y∈scope.names,y.2=.free->∃c,cl.lookup y.1=some c:=by
 obtain⟨cl,b,g,f,_⟩:=qK scope.names [] d;refine⟨cl,?_,λx c h=>(g x c h).elim (λz=>by simp at z) id,f⟩;unfold closureFor;have e:(forIn scope.names ([]:List .hO) λ(x:Str × NameKind) (r:List .hO)=>if (x.2 == .free)=true then do let a <-cellOf env x.1;pure .A9 else pure .og)=(pure cl:Sem _):=b;exact(congrArg (λt:Sem (List .hO)=>t >>= λr=>pure r) e).trans rfl
def cxC(X:Cx)(N:.az)(scope:Scope)(cl:List .hO)(C:Addr)(s:P1)(H:Hp)(ex:.U):Cx where
 prog:=X.prog
 w:=X.w
 K:=X.K
 mg:=X.mg
 base:=X.base
 A:=X.A
 N:=N
 s₀ := s
 H₀ := H
 env:=compEnvC scope cl C X.env
 outer:=X.stack
 stack:=X.stack
 ex:=ex
 fn:=λ_=>false
 calm:=X.calm
 pn:=[]
 xe:=λ_ _=>False
/---/def MTs(X:Cx)(ifs:.aO)(cs:List TF):Prop :=
 ∀(pins:.N) (s:P1) (σ:St) (H:Hp) (Q:.ql),Inv X pins σ H s->oZ X.K rB (j5 cs) σ H Q->
  wpAny .aq X.A (forIn ifs true λc r=>if r=true then do let ok <-isTrue c X.env (eval c X.env);pure (ForInStep.yield ok) else pure .og) .uq X.xe s
def cx:MTs X [] []:=λpins s σ H Q I ⟨ρ,σd,b,a,p⟩=>wpAny_tests_nil ⟨H,I,p.here a rfl⟩
def jI(h:MT X c t):MTs X [c] [t]:=λpins s σ H Q I ⟨ρ,σd,a,f,p⟩=>wpAny_tests_one (h pins s σ H Q I ⟨ρ,σd,a,f,by
 have e:j5 [t] σd a=t σd a:=by
  dsimp[j5];cases c:t σd a with
  |ok b d=>cases b<;>simp
  |exc x d=>rfl
  |bad=>rfl
 rw[e]at p;exact p⟩)
theorem o5{env:Env}{x:Str}:∀{names:List .je} {k:NameKind},(.qX).lookup x=some k->
  ∃e,names.lookup x=some e/\(k=e\/(e=.free/\k=.cell))
 |[],_,h=>by simp at h
 |(n,d)::r,k,h=>by
  have f := @o5 env x r k;have a:List.lookup x ((if .rf=true then (n,NameKind.cell) else (n,d))::_)=some k:=h;cases c:x == n with
  |true =>
   refine⟨d,by simp[Z7,c],?_⟩
   by_cases b:.rf=true
   ·rw[zE b]at a
    dsimp[Z7,c,Y2]at a;dsimp[ZZ,beq_iff_eq]at b;exact .inr ⟨b.1.1,a.symm⟩
   ·rw[zF b]at a
    dsimp[Z7,c,Y2]at a;exact .inl a.symm
  |false =>
   have:List.lookup x ((n,d)::r)=List.lookup x r:=by simp[Z7,c]
   rw[this];refine f ?_
   by_cases b:.rf=true
   ·rw[zE b]at a;simpa only[Z7,c] using a
   ·rw[zF b]at a;simpa only[Z7,c] using a
theorem kt{x:Str}:∀{l:List .je},l.lookup x=some k->(x,k)∈l
 |[],h=>by simp at h
 |(n,a)::r,h=>by
  rw[Z7]at h;cases e:x == n with
  |true =>
   rw[e]at h;have:x=n:=by simpa using e
   subst this;cases h;exact ZV
  |false=>rw[e]at h;exact ZW _ (kt h)
structure cA(X:Cx)(scope:Scope)(own capn:.az)(caps:.m):Prop where
 kind:scope.kind=.function
 cell:∀y∈scope.names,y.2 ≠ .cell
 names:∀y∈scope.names,y.2=.local->scope.names.lookup y.1=some .local
 free:∀y∈scope.names,y.2=.free->X.env.kindOf y.1=some .cell\/X.env.kindOf y.1=some .free
 cap:∀(j:Nat) x,capn[j]?=some x->∃i,caps[j]?=some i/\X.N[i]?=some x/\scope.names.lookup x=some .free
 len:capn.length=caps.length
section
variable{σ:St}{C:Addr}{ex:.U}
/---/def stC(own:.az)(caps:.m)(σ:St):St:=List.replicate own.length none++caps.map λi=>(σ[i]?).join
theorem UB(I:.bE s m)(S:.gN)(t:m.heap.objs.size<=C)(a:.vn)(f:.vm)
  (p:∀b∈ex,xK X pins s b) (l:∀b∈ex,b<m.heap.objs.size):(.v7 m s ex).Ok where
 mod:=I.ok.mod
 kind:=S.kind
 glob:=I.ok.glob
 blt:=I.ok.blt
 above:=t
 inj:=λx y c B F=>I.ok.inj x y c (a x c B) (a y c F)
 has:=λx E=>by
  have g:∀k,(relabel scope X.env).names.lookup x=some k->k=.cell\/k=.free->∃c,cl.lookup x=some c:=λk h A=>by
   obtain⟨D,H,q⟩:=o5 h;have v:=kt H;have:D=.free:=by
    rcases q with q|q
    ·subst q
     rcases A with e|e
     ·exact absurd e (S.cell _ v)
     ·exact e
    ·exact q.1
   exact f _ v this
  rcases E with h|h
  ·exact g _ h .aY
  ·exact g _ h .eY
 cab:=λx c h=>by cases h
 hd:=I.ok.hd
 frames:=I.ok.frames
 stk:=.inl rfl
 exf:=λb d=>by
  obtain⟨w,r,j,n,i,u⟩:=p b d;exact⟨λz=>absurd (ZY (l b d) t) .fq,λx c e=>i x c (a x c e)⟩
 bs:=I.bs
 bsz:=ZM I.ok.bsz I.sz
 noex:=λb o e d=>by
  obtain⟨w,r,j,n,i,u⟩:=p b d;rcases n with z|z
  ·exact I.ok.noex b o e z
  ·exact absurd (ZY (ZI (.lF).1) z) (Z8 _)
 exfs:=λb d G=>by
  obtain⟨w,r,j,n,i,u⟩:=p b d;rcases y6.mp (I.stkSub b G) with z|z
  ·exact r z
  ·exact j z
 funs:=I.stack
 frf:=I.stkFree
theorem rY{env:Env}{x:Str}:∀{names:List .je},names.lookup x=some .free->
  (.qX).lookup x=some .cell\/
  (.qX).lookup x=some .free
 |[],h=>by simp at h
 |(n,c)::r,h=>by
  have d := @rY env x r;show List.lookup x .yh=_\/List.lookup x .yh=_;cases a:x == n with
  |true =>
   dsimp[Z7,a,Y2]at h;subst h
   by_cases b:(NameKind.free == NameKind.free&&env.scope.kind == .function&&env.kindOf n == some .cell)=true
   ·rw[zE b];exact .inl (by dsimp[Z7,a])
   ·rw[zF b];exact .inr (by dsimp[Z7,a])
  |false =>
   dsimp[Z7,a]at h
   by_cases b:.wi=true
   ·rw[zE b];dsimp[Z7,a];exact d h
   ·rw[zF b];dsimp[Z7,a];exact d h
def Q2(h:.os[i]?=some .fH):∃j k,i=own.length+j/\caps[j]?=some k/\σ[k]?=some .fH:=by
 unfold stC at h
 by_cases a:i<own.length
 ·rw[ZC .lh]at h
  simp[a]at h
 ·rw[ZD .DJ]at h
  dsimp[zZr,ZQ]at h;cases c:caps[i-own.length]? with
  |none=>rw[c]at h;cases h
  |some k =>
   rw[c]at h;dsimp[Y8,Y2]at h;refine⟨i-own.length,k,by omega,c,?_⟩;cases e:σ[k]? with
   |none=>rw[e]at h;cases h
   |some o=>rw[e]at h;dsimp[Option.join_some]at h;rw[h]
theorem KN{f}(I:.bE n f)(S:.gN)(A:f.heap.objs.size<C)(a:.vn)(d:.vm)
  (M:∀b∈ex,xK X pins n b) (t:∀b∈ex,b<f.heap.objs.size) {h1:Heap} (hn:h1.Ns C m) (l:∀b o,f.heap.get? b=some o->h1.get? b=some o)
  (H:h1.get? f.heap.objs.size=some { cls:=.type "list",data:=.seq #[] }) :
  Inv (.v7 f n ex) [] .os (upd n f.heap.objs.size<|.lst []) { f with heap:=h1,toks:=tk } where
 ok:=UB I S (YB A) a d M t
 os:=rfl
 bare:=I.bare
 base:=Un.laid l .B .fx
 loc:=by
  refine⟨m,hn,λi x v E K R=>?_⟩;obtain⟨j,k,rfl,L,w⟩:=Q2 K;have s:capn[j]?=some x:=by
   have:.kH[own.length+j]?=some x:=E;rw[ZD .b]at this;simpa using this
  obtain⟨P,q1,q2,q3⟩:=S.cap j x s;rw[L]at q1;cases q1;have D:=kt q3;have B:=S.free _ D rfl;obtain⟨T,G,J⟩:=I.loc;obtain⟨u,r,O⟩:=J k x v q2 w (.inr B);refine⟨u,r,.inr ⟨rY q3,?_⟩⟩;rcases O with ⟨z,_⟩|⟨_,c,F,o,g,q⟩
  ·rcases B with e|e<;>(rw[z]at e;cases e)
  ·obtain⟨Q,h⟩:=d _ D rfl
   have:=a _ _ h;rw[F]at this;cases this;exact⟨c,h,o,l c o g,q⟩
 cell:=λx c e=>by
  obtain⟨v,o,g,q⟩:=.iy (a x c e);exact⟨v,o,l c o g,q⟩
 free:=by
  show upd n _ _ C=none;rw[bi (Z9 A)];exact I.hok.fresh (YB A)
 freeC:=λx c e=>by
  obtain⟨v,o,g,q⟩:=.iy (a x c e);rw[bi (ZN<|ZI g)];exact I.freeC x c (a x c e)
 pin:=λp N=>absurd (show p∈([]:List .ff) from N) .f
 hok:=I.hok.laid l .B ⟨YH _,[],0,.nil,H⟩
 len:=by
  show (.os).length=(.kH).length;simp[stC,S.len]
end
def RS.other{d:Addr}{ys b:List V}(r:.j5)(h:H d=some .gD)(n:d∉ρ):RS K ρ .tL σd hd σ/\.c1 ρ .tL:=by
 have k:.c1 ρ .tL:=⟨λ_ _ h=>h,λa i e=>by
  rw[bi .su];exact e,λa o u e=>by
  rw[bi .su];exact e,λa j e=>by
  rw[bi .su];exact e⟩
 refine⟨⟨⟨r.hp.len,r.hp.nd,λm c a g f=>(r.hp.cel m c a g f).mono k (bi λz=>n (by rw[<-z];exact ZK f))⟩,r.st.mono k⟩,k⟩
def Ext.other{b:Hp}{d:Addr}(e:.et b)(h:H d=none):Ext ρ H ρ' (upd b d o) :=
 ⟨e.pre,e.new,λp u a n=>by rw[bi (cP a h)];exact e.frame p u a n⟩
def Ep(h:slot (gJ a caps σd) i=some d):∃j k,i=a+j/\caps[j]?=some k/\slot σd k=some d:=by
 unfold gJ at h;dsimp[slot]at h
 by_cases b:i<a
 ·rw[ZC .tU]at h
  simp[b]at h
 ·rw[ZD (by simpa using zYb b)]at h
  dsimp[zZr,ZQ]at h;cases c:caps[i-a]? with
  |none=>rw[c]at h;cases h
  |some k =>
   rw[c]at h;dsimp[Y8]at h;refine⟨i-a,k,by omega,c,?_⟩;dsimp[slot]
   revert h
   cases e:σd[k]? with
   |none=>simp
   |some o=>cases o<;>simp
structure vQ(K:ZX)(ρ0:.U)(H0:Hp)(J:It)(l:List D)(G:Hd->Prop):Prop where
 go:∀ρ H hd (i:Nat) d,Ext ρ0 H0 ρ H->RH K ρ H hd->G hd->l[i]?=some d->J.go i H/\∀x H',J.yld i H x H'->lK H H'/\RD K ρ H' d x
 stop:∀ρ H hd,Ext ρ0 H0 ρ H->RH K ρ H hd->G hd->J.stop l.length H
 sz:l.length<=sizeLine
def xV.g{g:.gR}(w:xV K ρ H J l g):vQ K ρ H J l (d9 g l):=⟨w.go,w.stop,w.sz⟩
structure CD where
 i:Nat
 ys:List V
 acc:List D
 rest:List D
 ρ:List Addr
 σd:Sd
 hd:Hd
 H:Hp
 σ:St
structure CI(X:Cx)(own capn:.az)(scope:Scope)(cl:List .hO)(s2:P1)(C:Addr)(H1:Hp)(ρ1:.U)(fp:.U)(tn:Nat->Heap->Prop)(G:Hd->Prop)(g:GF)(cs:List TF)(e:EF)(l:List D)(hdF:Hd)(ds:List D)(d:CD)(s':P1):Prop where
 le:d.i<=l.length
 inv:Inv (.v7 s2 H1 fp) [] d.σ d.H s'
 st:tn d.i s'.heap
 fr:∀b∈fp,d.H b=none
 at':d.H s2.heap.objs.size=some (.lst d.ys)
 out:s2.heap.objs.size∉d.ρ
 yl:d.ys.length<=d.i
 ex:Ext ρ1 H1 d.ρ d.H
 rs:RS X.K d.ρ d.H d.σd d.hd d.σ
 ac:RDs X.K d.ρ d.H d.acc d.ys
 run:eE G g cs e (l.drop d.i) d.σd d.hd=.ok d.rest hdF
 eq:d.acc++d.rest=ds
section
variable{σ:St}
def Ha{f}{b:.U}(S:.gN)(r:RS X.K b f σd a σ){d:Addr}(hd:f d=none):RS X.K b (upd f d<|.lst []) .iX a .os:=by
 have c:=c6 (o:=HO.lst []) hd;refine⟨r.hp.same c,⟨by simp[stC,gJ],λi x e=>?_⟩⟩;obtain⟨j,k,rfl,h,g⟩:=Ep e;obtain⟨v,l,m⟩:=r.st.at' k x g;refine⟨v,?_,m.mono (.cz c)⟩;unfold stC;rw[ZD .f];simp[h,l]
def pW{K f}{c7 tg b1:Expr}{e:EF}{E:.R}{RR:S1->Addr->Result->P1->Prop}
  (hc:.br) (S:.gN) (e6:∀cl C s H ex,MG .ck tg g/\MTs .ck b6 cs/\ME .ck c7 e)
  (I1:.bE K f) (T:Eb X.prog X.w X.K tg J F it tn) (d2:tn 0 f.heap) (hf:∀b∈F,xK X pins K b) (d3:RS X.K M K σd b8 σ) (wk:vQ X.K M K J l G)
  (a6:.vn) (d1:.vm)
  (run:eE G g cs e l .iX b8=.dx a5)
  (e4:∀C s' m j ρ' vs,f.heap.objs.size < C->s'.heap.Ns C m->Inv X pins σ j s'->j C=none->Ext M K ρ' j->RH X.K ρ' j a5->K f.heap.objs.size=none->j f.heap.objs.size=some .hT->f.heap.objs.size ∉ ρ'->RDs X.K ρ' j ds vs->
   RR .rZ C (.ok .next) s') :
  wpAny .aq X.A (newList []) (λacc A => wpAny .aq X.A (newFunctionEnv scope X.env.globals cl [] X.env.qual none .none<|some X.env) (λb4 d5 =>
   codeAny .aq X.A (.compStart (.ik c7 [⟨tg,b1,b6,0⟩]) 0 .fG acc { b4 with scope:=relabel scope X.env }) (RR acc b4.locals) d5) E A) E f:=by
 refine zZg (wpAny_newFunctionEnv S.cell (by intro y hy;simp at hy) (λO w h=>?_) S.kind);dsimp only at w h⊢;generalize hH2:f.heap.push { cls:=.type "list",dict:=none,data:=.seq ([]:List S1).toArray }=N at w h⊢;have hC:N.objs.size=f.heap.objs.size+1:=by rw[<-hH2,YS]
 have e9:f.heap.objs.size≠N.objs.size:=by rw[hC];exact ZN (Z6 _)
 have e2:∀b o,f.heap.get? b=some o->O.get? b=some o:=λb o e=>h.extBut b o (by rw[hC];exact ZN (Z2<|ZI e)) (.aa<|hH2▸ZH _ e);have e1:O.get? f.heap.objs.size=some { cls:=.type "list",data:=.seq #[] }:=h.extBut _ _ e9 (.aa<|hH2▸ZJ _ rfl);have c9:∀b∈F,b<f.heap.objs.size:=λb B=>by
  obtain⟨o,ho,_⟩:=T.obj 0 _ d2 b B;exact ZI ho
 have d7:f.heap.objs.size<N.objs.size:=by rw[hC];exact Z6 _
 have Z:K f.heap.objs.size=none:=I1.hok.fresh .B;have e3:tn 0 O := T.keep 0 _ _ d2 λb B o e=>e2 b o e;have g3:f.heap.objs.size∉M:=d3.hp.free Z;obtain⟨hG,hT,hE⟩:=e6 cl N.objs.size f K F;have I':=KN (tk:=f.toks+([]:List .jG).length) I1 S d7 a6 d1 hf c9 w e2 e1;have c0:∀{pins':.N} {j:Hp},(∀b∈F,j b=none)->∀b∈F,xK .kR [] j b:=λ{pins' j} hn b B=>by
  obtain⟨f0,f1,f2,f3,f4,f5⟩:=hf b B;have lt:=c9 b B;refine⟨hn b B,λz=>absurd lt (by rw[show b=N.objs.size from z,hC];exact zZy.mpr (Nat.le_succ _)),λz=>?_,.inl B,λx c e=>f4 x c (a6 x c e),λp hp=>absurd (show p∈([]:List .ff) from hp) .f⟩;rcases y6.mp (I1.stkSub b z) with q|q
  ·exact f1 q
  ·exact f2 q
 have a7:∀A:P1,A = { f with heap:=O,toks:=f.toks+([]:List .jG).length }->
   codeAny .aq X.A (.compLoop (.ik c7 [⟨tg,b1,b6,0⟩]) 0 .fG .rZ<|compEnvC scope cl N.objs.size X.env) (RR .rZ N.objs.size) A := by
  rintro A rfl;refine Cp (λ_ _ z=>z) (λn s'=>∃d:CD,n=l.length-d.i/\CI X own capn scope cl f N.objs.size K M F tn G g cs e l a5 ds d s') ?_ l.length
   ⟨⟨0,[],[],ds,M,_,b8,_,_⟩,by simp,YH _,I',e3,λb B=>?_,bN,g3,ZL _,Ext.same (c6 Z),Ha S d3 Z,RDs.nil,by simpa using run,rfl⟩
  ·rintro n s' ⟨⟨i,ys,acc,rest,ρ',P,hd',j,σ'⟩,rfl,U⟩
   have g6:i<=l.length:=U.le;have I':Inv .kR [] σ' j s':=U.inv;have d6:tn i s'.heap:=U.st;have d8:∀b∈F,j b=none:=U.fr;have c8:j f.heap.objs.size=some .gD:=U.at';have b7:f.heap.objs.size∉ρ':=U.out;have d4:ys.length<=i:=U.yl;have ex:Ext M K ρ' j:=U.ex;have Y:RS X.K ρ' j P hd' σ':=U.rs;have b2:RDs X.K ρ' j acc ys:=U.ac;have a:eE G g cs e (l.drop i) P hd'=.ok rest a5:=U.run;have a3:acc++rest=ds:=U.eq
   by_cases hlt':i<l.length
   ·have g1:l[i]?=some l[i]:=by simp[hlt']
    rw[zZt hlt']at a;unfold eE at a
    by_cases hh:G hd'
    ·rw[zE hh]at a
     obtain⟨go,yl⟩:=wk.go ρ' j hd' i _ ex Y.hp hh g1;cases c:g l[i] P with
     |none=>rw[c]at a;cases a
     |some σd2 =>
      rw[c]at a;simp only at a;refine thn (T.item .kR rfl rfl rfl hc i [] s' σ' j (λ_ _=>False) I' (c0 (pins':=[]) d8) d6 go) λr b3 ⟨u,hr,h4⟩=>?_;subst hr;refine thn h4 λ_ s5 ⟨x,H5,I5,r5,y5,b9,f7⟩=>?_;obtain⟨sm,rx⟩:=yl x H5 y5;have g0:=I5.pinned (c0 (pins':=[]) f7) (T.obj _ _ b9);have f6:=Y.same sm;refine thn (hG _ s5 σ' H5 x u (λk H6=>H6=H5/\RS X.K ρ' H5 σd2 hd' k) g0 r5 ⟨ρ',P,hd',l[i],σd2,f6,rx,c,λk c1=>⟨rfl,c1⟩⟩) λ_ s6 ⟨k,H6,I6,e8,c1⟩=>?_;subst e8;cases c2:j5 cs σd2 hd' with
      |exc z h7=>rw[c2]at a;cases a
      |bad=>rw[c2]at a;cases a
      |ok b a4 =>
       rw[c2]at a;dsimp[aR]at a;refine thn (hT _ s6 k H6 (λb' H7=>b'=b/\∃t,Ext ρ' H6 t H7/\RS X.K t H7 σd2 a4 k) I6 ⟨ρ',σd2,hd',c1,by
        rw[c2];exact λb' H7 t d0 a2 q=>⟨q.symm,t,d0,a2⟩⟩) λb' s7 ⟨H7,I7,e7,t,d0,a2⟩=>?_
       subst e7;have b0:∀{d9:St} {R:Hp} {s8:P1},Inv .kR ([]++xL F s5.heap) d9 R s8->tn (i+1) s8.heap/\∀b∈F,R b=none:=λ{d9 R s8} I8 =>
        ⟨T.keep _ _ _ b9 λb B o e=>(.z0).1,λb B=>by
         obtain⟨o,e,d⟩:=T.obj _ _ b9 b B;exact (.z0).2.1⟩
       have W:Ext ρ' j t H7:=(.e5 sm).trans d0;have V:H7 f.heap.objs.size=some .gD:=W.frame _ _ c8 b7;have a0:=W.out c8 b7;have a1:=b2.mono (Y.hp.kp W);cases b' with
       |false =>
        dsimp[YM,zZb]at a⊢;obtain⟨g4,f8⟩:=b0 I7;exact⟨l.length-(i+1),by omega,⟨i+1,ys,acc,rest,t,σd2,a4,H7,k⟩,rfl,hlt',I7.unpinned,g4,f8,V,a0,Nat.le_succ_of_le d4,ex.trans W,a2,a1,a,a3⟩
       |true =>
        dsimp[Y5]at a⊢;cases c3:e σd2 a4 with
        |exc z h7=>rw[c3]at a;cases a
        |bad=>rw[c3]at a;cases a
        |ok d b5 =>
         rw[c3]at a;dsimp[aR]at a;cases c4:eE G g cs e (l.drop<|i+1) σd2 b5 with
         |exc z h7=>rw[c4]at a;cases a
         |bad=>rw[c4]at a;cases a
         |ok rest' g7 =>
          rw[c4]at a;dsimp[aR,Res.ok.injEq]at a;obtain⟨L,hF⟩:=a;subst L hF;refine thn (hE _ s7 k H7 (λv R=>∃I,Ext t H7 I R/\RS X.K I R σd2 b5 k/\RD X.K I R d v) I7 ⟨t,σd2,a4,a2,by
           rw[c3];exact λv R I Q c5 q=>⟨I,Q,c5,q⟩⟩) λu8 s8 ⟨v8,R,I8,r8,I,Q,c5,g2⟩=>?_
          have a9:R f.heap.objs.size=some (.lst ys):=Q.frame _ _ V a0;have a8:=Q.out V a0;refine thn (AS _ s8 k R (.ref f.heap.objs.size) [v8] (.ref f.heap.objs.size) [u8] (λ_ H9=>H9=upd R f.heap.objs.size (.lst<|ys++[v8])) I8 rfl (.cons r8 .nil) ⟨_,ys,v8,rfl,rfl,a9,by have:=wk.sz;omega,rfl⟩) λu9 s9 ⟨v9,H9,I9,r9,q9⟩ => ?_;subst q9;obtain⟨e5,f9⟩:=b0 I9;obtain⟨g5,k9⟩:=c5.other a9 a8;exact⟨l.length - (i + 1),by omega,⟨i + 1,ys++[v8],acc++[d],rest',I,σd2,b5,_,k⟩,rfl,hlt',I9.unpinned,e5,f9,bN,a8,by simp;exact d4,(ex.trans<|W.trans Q).other Z,g5,
           ((a1.mono<|a2.hp.kp Q).mono k9).append (.kq<|g2.mono k9),c4,by rw[<-a3];simp⟩
    ·rw[zF hh]at a;cases a
   ·have e0:i=l.length:=by omega
    subst e0;rw[List.drop_length]at a;unfold eE at a
    by_cases hh:G hd'
    ·rw[zE hh]at a
     dsimp[Res.ok.injEq]at a;obtain⟨L,hF⟩:=a;subst L hF;rw[YX]at a3;subst a3;refine thn (T.done .kR rfl rfl rfl hc _ [] s' σ' j (λ_ _=>False) I' (c0 (pins':=[]) d8) d6<|wk.stop ρ' j hd' ex Y.hp hh) λr b3 ⟨hr,I4⟩=>?_;subst hr;obtain⟨m,hm,_⟩:=I4.loc;refine e4 N.objs.size b3 m j ρ' ys d7 hm ?_ I4.free ex Y.hp Z c8 b7 b2;exact I1.call' I4.os I4.base I4.hok I4.bare λb B=>by
      obtain⟨f0,f1,f2,f3,f4,f5⟩:=hf b B;exact⟨f3,f1,f4,f5⟩
    ·rw[zF hh]at a;cases a
  ·show upd K _ _ b=none
   rw[bi (ZN<|c9 b B)];exact(hf b B).1
 exact codeAny_compStart_list (a7 _ rfl) (T.self _ 0 _ _ _ e3<|a7 _ rfl)
end
section
variable{pos:Pos}
def fF{f:IF}{e:EF}(hc:.br)(S:.gN)(hi:MI X tg a f)
  (K:∀cl C s H ex,MG .ck tg g/\MTs .ck n cs/\ME .ck u e)
  (hs:∀x,foldedSetIterable a X.env x=pure x:=by intro _;rfl):MF X (.ik u [⟨tg,a,n,0⟩]) .Bi:=by
 intro pins s σ H Q I ⟨ρ,σd,G,W,p⟩;rw[eval_ListComp];unfold bG at p;cases c:f σd G with
 |exc z Y=>rw[c]at p;exact p.elim
 |bad=>rw[c]at p;exact p.elim
 |ok q t =>
  obtain⟨l,V⟩:=q;rw[c]at p;dsimp[aR]at p;obtain⟨cl,N,r,i⟩:=nD λy hy M=>I.ok.has y.1 (S.free y hy M);refine zZz rfl hs N S.kind S.names (thn (hi pins s σ H (λJ A=>∃d,Ext ρ H d A/\RS X.K d A σd t σ/\xV X.K d A J l V) I ⟨ρ,σd,G,W,by
   rw[c];exact λJ R ρ' ex F P=>⟨ρ',ex,F,P⟩⟩) λv s1 N=>thn N λZ s2 h2=>?_)
  obtain⟨it,fp,tn,J,A,rfl,w,T,E,hf,d,h,j,P⟩:=h2;cases B:cu V l g cs e l .iX t with
  |exc z Y=>rw[B]at p;exact p.elim
  |bad=>rw[B]at p;exact p.elim
  |ok ds hdF =>
   rw[B]at p;refine pW hc S K w T E hf j P.g r i ((B0 _ _ _).symm.trans B) λC s' m R ρ' vs D hn I' O ex rh k hD L U=>?_;refine⟨m,hn,λh' sb=>⟨.ref s2.heap.objs.size,R,?_,rfl,?_⟩⟩
   ·refine I'.turned .nt O ?_ (.inr<|YB<|ZS w.sz D) (λx c e z=>?_) λq hq z=>?_
    ·exact Z9 (Z1 w.lt D)
    ·obtain⟨v,o,ho,G⟩:=w.cell x c e
     exact absurd (Z1 (ZI ho) D) .fq
    ·exact absurd (Z1 (ZI (w.pin q hq).1) D) .fq
   ·exact p _ vs R ρ' (h.trans ex) (W.ext (h.trans ex) rh) (h.fresh k<|j.hp.free k) hD L U
def pX{f:IF}{e:EF}(hN:.fR)(Z:.dN)(hx:.fO)(hc:.br)(S:.gN)(hi:MI X tg h f)
  (a0:∀cl C s H ex,MG .ck tg g/\MTs .ck r cs/\ME .ck A e)
  (a4:swapsWith (.ListComp A [⟨tg,h,r,0⟩] scope n) .xV pos.line X.env=pure true:=by rfl)
  (hs:∀x,foldedSetIterable h X.env x=pure x:=by intro _;rfl) (b1:X.fn x=true\/X.env.scope.names.lookup x=some .local:=by first|exact .inl rfl|exact .inr rfl|assumption) :
  MS X (.Assign .oN (.ListComp A [⟨tg,h,r,0⟩] scope n) pos) (aD (gN i)<|bR .Bi):=by
 intro pins s σ H En I ⟨ρ,σd,hd,rs,p⟩;rw[exec_Assign_Name_used _ _ _ _ a4];refine zD (wpAny_standAt ?_);have d:=du.outE (σ := σ) p;unfold bR bG at d;cases c:f σd hd with
 |exc z h7=>rw[c]at d;exact d.elim
 |bad=>rw[c]at d;exact d.elim
 |ok q K =>
  obtain⟨l,gd⟩:=q;rw[c]at d;dsimp[aR]at d;obtain⟨cl,h1,F,B⟩:=nD λy hy b0=>I.ok.has y.1 (S.free y hy b0);refine zD (zD (zZz rfl hs h1 S.kind S.names (thn (hi pins s σ H (λJ R=>∃j,Ext ρ H j R/\RS X.K j R σd K σ/\xV X.K j R J l gd) I ⟨ρ,σd,hd,rs,by
   rw[c];exact λJ w ρ' ex a8 wk=>⟨ρ',ex,a8,wk⟩⟩) λv s1 h1=>thn h1 λb4 k h2=>?_)))
  obtain⟨it,fp,tn,J,R,rfl,O,T,V,hf,j,D,E,wk⟩:=h2;cases Q:cu gd l g cs e l .iX K with
  |exc z h7=>rw[Q]at d;exact d.elim
  |bad=>rw[Q]at d;exact d.elim
  |ok ds hdF =>
   rw[Q]at d;dsimp[aR]at d
   by_cases hz:ds.length<=SZ
   ·rw[zE hz]at d
    refine pW hc S a0 O T V hf E wk.g F B ((B0 _ _ _).symm.trans Q) λC s' m w ρ' vs U hn I' a3 ex rh L hD a1 b2=>?_;refine wpAny_assign_Name (AK I' hN Z hx (v:=.ref k.heap.objs.size) rfl (λa2 a5 Y=>?_) b1);have M:C≠X.env.locals:=Z9 (Z1 O.lt U);have G:∀y c,X.env.cells.lookup y=some c->c≠C:=λy c e z=>by
     obtain⟨v,o,ho,hd⟩:=O.cell y c e;exact absurd (Z1 (ZI ho) U) .fq
    refine⟨m,?_,λh' sb=>x3 .cU⟩
    ·obtain⟨a,sa,ha⟩:=Y
     refine hn.sameBut sa ?_;rcases ha with z|z
     ·rw[z];exact M
     ·exact wh (G _ _ z)
    ·have I3:Inv X pins (σ.set i<|some<|.ref k.heap.objs.size) w { a2 with heap:=h' }:=a5.turned .nt a3 M (.inr<|YB<|ZS O.sz U) G λq hq z =>
      absurd (Z1 (ZI (O.pin q hq).1) U) .fq
     have u:.et w:=D.trans ex;have a6:=rh.alloc hD a1 b2;have W:H k.heap.objs.size=none:=D.fresh L (E.hp.free L);have P:.g7 .Cd w:=⟨by obtain⟨t,rfl⟩:=u.pre;exact⟨t++[k.heap.objs.size],by simp⟩,λa ha=>by
      rcases Z3.mp ha with z|z
      ·exact u.new a z
      ·simp at z;subst z;exact .inr W,u.frame⟩
     obtain⟨a9,d2,b3,e2,N,a7,pn⟩:=d (.ref k.heap.objs.size) w .Cd P (rs.ext P a6) (by
      dsimp[rD,RD];refine⟨k.heap.objs.size,?_,rfl⟩;rw[<-rh.len];simp)
     exact⟨_,w,I3,pn _ w a9 Ext.refl ⟨N.hp,N.st.set i a7⟩⟩
   ·rw[zF hz]at d;exact d.elim
end
end Fm
namespace Fm
open PySem PySem.Spec L2 PyProof.Rows
mutual
def rfs(k:Nat):D->Prop
 |.ref n=>n<k
 |.tup l=>lN k l
 |.lit l=>lN k l
 |.exn _ l=>lN k l
 |_=>True
def lN(k:Nat):List D->Prop
 |[]=>True
 |x::xs=>rfs k x/\lN k xs
end
section
variable{K:ZX}{ρ ρ' t:.U}
mutual
theorem RD.rfs:∀{d:D} {v:V},RD K ρ H d v->Fm.rfs ρ.length d
 |.non,_,_=>by dsimp[Fm.rfs]
 |.bl _,_,_=>by dsimp[Fm.rfs]
 |.int _,_,_=>by dsimp[Fm.rfs]
 |.str _,_,_=>by dsimp[Fm.rfs]
 |.tup l,_,h=>by
  dsimp[RD]at h;obtain⟨p,vs,_,_,b⟩:=h;dsimp[Fm.rfs];exact RDs.rfs b
 |.lit l,_,h=>by
  dsimp[RD]at h;obtain⟨p,vs,_,_,b⟩:=h;dsimp[Fm.rfs];exact RDs.rfs b
 |.ref n,_,h=>by
  dsimp[RD]at h;obtain⟨a,c,_⟩:=h;dsimp[Fm.rfs];exact (.gE).1
 |.exn _ l,_,h=>by
  dsimp[RD]at h;rcases h with ⟨_,rfl,_⟩|⟨_,p,vs,_,_,b⟩
  ·dsimp[Fm.rfs,Fm.lN]
  ·dsimp[Fm.rfs];exact RDs.rfs b
theorem RDs.rfs:∀{l:List D} {vs:List V},RDs K ρ H l vs->Fm.lN ρ.length l
 |[],_,_=>by dsimp[Fm.lN]
 |d::ds,_,h=>by
  dsimp[RDs]at h;obtain⟨v,r,_,h1,a⟩:=h;dsimp[Fm.lN];exact⟨RD.rfs h1,RDs.rfs a⟩
end
mutual
theorem RD.cut:∀{d:D} {v:V},RD K (ρ++t) H d v->Fm.rfs ρ.length d->.dZ d v
 |.non,_,h,_=>by dsimp[RD]at h⊢;exact h
 |.bl _,_,h,_=>by dsimp[RD]at h⊢;exact h
 |.int _,_,h,_=>by dsimp[RD]at h⊢;exact h
 |.str _,_,h,_=>by dsimp[RD]at h⊢;exact h
 |.tup l,_,h,q=>by
  dsimp[RD]at h⊢;dsimp[Fm.rfs]at q;obtain⟨p,vs,e,h1,b⟩:=h;exact⟨p,vs,e,h1,RDs.cut b q⟩
 |.lit l,_,h,q=>by
  dsimp[RD]at h⊢;dsimp[Fm.rfs]at q;obtain⟨p,vs,e,h1,b⟩:=h;exact⟨p,vs,e,h1,RDs.cut b q⟩
 |.ref n,_,h,q=>by
  dsimp[RD]at h⊢;dsimp[Fm.rfs]at q;obtain⟨a,h1,b⟩:=h;exact⟨a,by rwa[ZC q]at h1,b⟩
 |.exn _ l,_,h,q=>by
  dsimp[RD]at h⊢;dsimp[Fm.rfs]at q;rcases h with h|⟨c,p,vs,e,h1,b⟩
  ·exact .inl h
  ·exact .inr ⟨c,p,vs,e,h1,RDs.cut b q⟩
theorem RDs.cut:∀{l:List D} {vs:List V},RDs K (ρ++t) H l vs->Fm.lN ρ.length l->.aT l vs
 |[],_,h,_=>by dsimp[RDs]at h⊢;exact h
 |d::ds,_,h,q=>by
  dsimp[RDs]at h⊢;dsimp[Fm.lN]at q;obtain⟨v,r,e,h1,a⟩:=h;exact⟨v,r,e,RD.cut h1 q.1,RDs.cut a q.2⟩
end
mutual
theorem rZ:∀{d:D},pure? d=true->Fm.rfs k d
 |.non,_=>by dsimp[Fm.rfs]
 |.bl _,_=>by dsimp[Fm.rfs]
 |.int _,_=>by dsimp[Fm.rfs]
 |.str _,_=>by dsimp[Fm.rfs]
 |.tup l,h=>by dsimp[pure?]at h;dsimp[Fm.rfs];exact kg h
 |.lit l,h=>by dsimp[pure?]at h;dsimp[Fm.rfs];exact kg h
 |.exn _ l,h=>by dsimp[pure?]at h;dsimp[Fm.rfs];exact kg h
 |.ref _,h=>by dsimp[pure?]at h;cases h
theorem kg:∀{l:List D},io l=true->Fm.lN k l
 |[],_=>by dsimp[Fm.lN]
 |x::xs,h=>by
  dsimp[io,ZZ]at h;dsimp[Fm.lN];exact⟨rZ h.1,kg h.2⟩
end
def Nt(k:Nat):cM->Prop
 |.lst l=>Fm.lN k l
 |.dct l=>Fm.lN k .eZ
 |.dcT l=>Fm.lN k .eZ
 |.ob l=>Fm.lN k l
def RC.rfs(h:RC K ρ H c a):Nt ρ.length c:=by
 cases c with
 |lst l=>obtain⟨d,_,b⟩:=h;exact b.rfs
 |dct l=>obtain⟨d,_,_,b⟩:=h;exact b.rfs
 |dcT l=>obtain⟨d,_,_,b⟩:=h;exact b.rfs
 |ob l=>obtain⟨_,_,_,_,b,_⟩:=h;exact b.rfs
def RC.cut(h:RC K (ρ++t) H c a)(q:Nt ρ.length c):RC K ρ H c a:=by
 cases c with
 |lst l=>obtain⟨b,e,d⟩:=h;exact⟨b,e,d.cut q⟩
 |dct l=>obtain⟨b,e,d,f⟩:=h;exact⟨b,e,d,f.cut q⟩
 |dcT l=>obtain⟨b,e,d,f⟩:=h;exact⟨b,e,d,f.cut q⟩
 |ob l=>obtain⟨b,C,g,e,d,f⟩:=h;exact⟨b,C,g,e,d.cut q,f⟩
def Cq(h:xD c=true):Nt k c:=by
 cases c with
 |lst l=>exact kg h
 |ob l=>exact kg h
 |dcT l =>
  have:∀l:List (List Int × D),.DE=true->Fm.lN k .eZ:=by
   intro l
   induction l with
   |nil=>intro _;dsimp[zo,Fm.lN]
   |cons x l a=>intro h;dsimp[zZx,ZZ]at h;simp;exact⟨rZ h.1,a h.2⟩
  exact this l h
 |dct l =>
  have:∀l:List .nr,.DE=true->Fm.lN k .eZ:=by
   intro l
   induction l with
   |nil=>intro _;dsimp[zo,Fm.lN]
   |cons x l a=>intro h;dsimp[zZx,ZZ]at h;simp;exact⟨rZ h.1,a h.2⟩
  exact this l h
def RH.back(r:.bh)(d:RH K (ρ++t) g hd')(o:I0 hd hd'):RH K ρ g (hd'.take hd.length):=by
 have h:(ρ++t).length=hd'.length:=d.len;refine⟨by rw[vf,<-h,ZB,<-r.len];omega,(zYl.mp d.nd).1,λn c a f b=>?_⟩;have e:n<hd.length:=by rw[<-r.len];exact(zA.mp b).1
 rw[zXe e]at f;have q:=d.cel n c a f (by rw[ZC (by rw[r.len];exact e)];exact b);refine q.cut ?_;rcases o n c e f with z|z
 ·exact(r.cel n c a z b).rfs
 ·exact Cq z
/---/def vR(K:ZX)(ρ:.U)(H:Hp)(r:Res D)(Q:VK):Prop:=match r with
 |.ok d hd'=>∀v H' ρ',Ext ρ H ρ' H'->RH K ρ' H' hd'->RD K ρ' H' d v->Q v H'
 |_=>False
/---/def spF(K:ZX)(F:Fn)(np:Nat):Sp:=λvs H Q _=>∃ρ hd ds,RH K ρ H hd/\RDs K ρ H ds vs/\ds.length=np/\vR K ρ H (F ds hd) Q
def Ext.short(e:.g7 (ρ++t) a):.g7 ρ a:=⟨⟨[],by simp⟩,λ_ h=>.inl h,e.frame⟩
def vR.letGo(g:.bh)(p:vR K ρ H (letGo hd r) Q):vR K ρ H r Q:=by
 cases r with
 |exc x h=>exact p
 |bad=>exact p
 |ok d h =>
  intro v e ρ' b a c;dsimp[Fm.letGo]at p;split at p
  ·rename_i f
   obtain⟨t,rfl⟩:=b.pre;exact p v e ρ b.short (g.back a f.2) (c.cut<|rZ f.1)
  ·exact p v e ρ' b a c
def vR.runB(p:vR K ρ H (runB n b ds hd) Q):du K ρ H (b .rO hd) { nx:=λ_ c=>Q .non c,rt:=Q }:=by
 unfold Fm.runB at p;cases e:b .rO hd with
 |nx σ a=>rw[e]at p;exact λσ' c ρ' f g=>p .non c ρ' f g.hp .wF
 |rt d a=>rw[e]at p;exact p
 |bk σ a=>rw[e]at p;exact p.elim
 |ct σ a=>rw[e]at p;exact p.elim
 |exc x σ a=>rw[e]at p;exact p.elim
 |bad=>rw[e]at p;exact p.elim
def AX(r:.aT ds vs):RSt K ρ H (ds.map some++List.replicate (N.length-ds.length) none) (L2.oW N vs):=by
 have f:=r.length;refine⟨by simp[L2.oW,f],λi d e=>?_⟩;dsimp[slot]at e
 by_cases a:i<ds.length
 ·rw[ZC .lh]at e
  dsimp[ZQ,ZE a,Y8]at e;cases e;obtain⟨v,c,q⟩:=r.get (i:=i) (d:=ds[i]) (by simp[a]);refine⟨v,?_,q⟩;unfold L2.oW;rw[ZC .X];simp[c]
 ·rw[ZD .DJ]at e
  dsimp[List.getElem?_replicate]at e
  by_cases b:i-(List.map some ds).length<N.length-ds.length
  ·dsimp[b,Y5]at e;cases e
  ·dsimp[b,zZb]at e;cases e
end
structure Def(P:N3)(w:N6)(K:ZX)(mg:.aw)(base:Heap)(x:Str)(k np:Nat)(F:Fn):Prop where
 ex:∃f fd ps,mg x=some .aE/\.dX .aE=true/\ko K fd ps []/\.fY CX0 k f fd ps .ja
section
variable{K:ZX}
def WA{st:Stmt}(F:Fun K x x st f fd)(S:gF N ps .dC)
  (body:.D8) :
  ji P w K mg base CX0 (k+1) f fd ps .zb:=by
 refine F.ok S .xM λa A outer s H h Q E j ⟨ρ,g,i,d,e,c,p⟩=>⟨_,body a A outer s H E j,ρ,_,g,⟨d,AX e⟩,?_⟩;dsimp[bB,c,Y5]at p;exact(vR.letGo d p).runB
def Def.mk'(hm:mg x=some .aE)(a:.vA)(b:ko K fd ps [])(h:.fY CX0 k f fd ps .ja):.K x k np F:=⟨f,fd,ps,hm,a,b,h⟩
end
section
variable{pos p:Pos}
def Q3(hd:.Ej)(y:iz k X.A)(u:.ab x)(D:MA X (e::b) r)(m:.vo)
  (j:.a4=false:=by decide) (he:starEach (e::b) X.env=(false,.aB X.env)::starEach b X.env:=by rfl) (hpl:(.kC<|.g0 b).any (·.1)=false:=by rfl) :
  ME X (.dR .fV (e::b)) (au F r):=by
 obtain⟨f,N,J,q,t,s,G⟩:=hd.ex;refine PE.imp (QO G y u q t s .nil Ni D j he hpl) λσ H Q ⟨ρ,σd,hd,E,B⟩=>⟨ρ,σd,hd,E,(.al B).imp λM L ⟨l,ds,g,K,i,I,a⟩=>?_⟩;rw[YX];cases c:F ds g with
 |exc z h'=>rw[c]at a;exact a.elim
 |bad=>rw[c]at a;exact a.elim
 |ok d o =>
  rw[c]at a;refine⟨l,g,ds,i.hp,I,m _ _ _ _ c,?_⟩;rw[c];exact λv A ρ' n w C=>a v A ρ' n (i.ext n w) C
def pY:∀ds h d h',bB np n b ds h=.ok d h'->ds.length=np:=by
 intro ds h d h' e;unfold bB at e;split at e
 ·assumption
 ·cases e
end
def WB{l:PySem.W.OpenLaw}{XP:.vW}{d:DefRec}{K:Params->ZX}{F:Fn}{k:Nat}{x:Str}(hn:l.most=some 63)(i:.vH)(E:iz k callerA)
  (A:∀(w:N6) (h:Heap),r w h->(.dG).In h)
  (J:∀(w:N6) (mg:.aw) (m:Addr) (h:Heap),(.dG).In h->h.Ns mainGlobals mg->mg d.name=some (.ref m)->
   ∃fd:FuncData,(∀(s:P1) (u:S1),.kB ⟨[u],[]⟩ [(x,u)])/\∀base:Heap,(.dG).In base->base.Ns mainGlobals mg->ji l.prog w .dG mg base CX0 k m fd [x] (spF .dG F 1))
  (g:∀ns:List Int,ns.length<=63->∃h,F .l2 []=.aM h) :
  PySem.W.WalkO q b XP r l.row.toRowW d [] .sQ:=by
 refine L2.QY hn .a i E A J (λw H a ns j C t=>?_) λ_ _ _ _ _ z=>z;obtain⟨h,e⟩:=g ns j;have p:vO .dG H a .dE:=by
  rcases t with (z|⟨o,z⟩)|z
  ·rcases C a with y|⟨o,P,y⟩<;>(rw[z]at y;cases y)
  ·exact .inl ⟨o,z⟩
  ·exact .inr z
 have L:RDs .dG [] H (ns.map D.int) .dE:=by
  clear j t e p g
  induction ns with
  |nil=>exact RDs.nil
  |cons n ns G=>exact .kw G
 refine⟨[],[],.l2,⟨rfl,List.nodup_nil,λn c a B=>by simp at B⟩,RDs.cons (by dsimp[RD];exact⟨a,_,rfl,p,L⟩) RDs.nil,rfl,?_⟩;rw[e];intro v O ρ' M N I;simpa only[RD] using I
end Fm
namespace Fm
@[simp] def Yt(a:EF):EF:=λσ h=>(.O).bind λx h=>match x with | .int i=>.ok (.int i.natAbs) h|_=>.bad
@[simp] def Er(a b:EF):EF:=λσ h=>(.O).bind λx h=>(.fM).bind λy h=>match x,y with
 |.int i,.int j=>.ok (.int .DF) h
 |_,_=>.bad
section
open Classical
def nE(G:Hd->Prop)(tg:GF)(b:SF):List D->SF
 |[],σ,h=>if G h then .nx σ h else .bad
 |x::xs,σ,h=>if G h then match tg x σ with
   |some σ=>match b σ h with
    |.nx σ h=>nE G tg b xs σ h
    |.ct σ h=>nE G tg b xs σ h
    |.bk σ h=>.dy h
    |r=>r
   |none=>.bad
  else .bad
/---/def gQ(l:List D):List D:=(.n6).zip l |>.map λp=>.tup [.int (p.1:Nat),p.2]
end
end Fm
namespace L2
open PySem PySem.Spec PyProof.Rows PySem.W PySem.Builtin PySem.Builtin.ObjectAttr PySem.Builtin.Getset_descriptor
structure Yu(K:ZX)(D:Addr):Prop where
 ga:.v8 "__getattribute__"=some (some<|.dm "BaseException.__getattribute__")
 gt:.v8 "__getattr__"=some none
 cl:.v8 "__class__"=some (some .r1)
 be:PySem.W.subIn K .l7 (.type "BaseException")=some true
 ob:PySem.W.mroIn K D (.type "object")=some true
 is:(PySem.W.clsIn K D).isSome=true
section
variable{prog:N3}{w:N6}{A:P2}{E:.R}{K:ZX}{D:Addr}{h:Heap}{g:Array GenState}{d:Drawn}{t:Nat}{os:OsState}{a:Addr}{o:Obj}{vs:.bL}
end
end L2
namespace Fm
open PySem PySem.Spec L2
open PyProof.Rows (Subscript_ tail_any)
def tyS:Ty->String
 |.int=>"int" | .bool=>"bool" | .tuple=>"tuple" | .list=>"list" | .str=>"str"
def j7(t:Ty):typeOf .hq=pure (.type "type"):=by
 cases t
 ·exact F.isi_meta_int
 ·exact F.isi_meta_bool
 ·exact F.isi_meta_tuple
 ·exact F.isi_meta_list
 ·exact F.isi_meta_str
def Q4(t:Ty):isSubtype (.type "NoneType") .hq=pure false:=by cases t<;>(rw[zZc];kernel_rfl)
def UC(h:t ≠ .int):isSubtype .qF .mE=pure false:=by cases t<;>first|exact absurd rfl h|(rw[zZc];kernel_rfl)
def Q5(h:t ≠ .int)(a:t ≠ .bool):isSubtype (.type "bool") .mE=pure false:=by cases t<;>first|exact absurd rfl h|exact absurd rfl a|(rw[zZc];kernel_rfl)
def UD(h:t ≠ .str):isSubtype (.type "str") .mE=pure false:=by cases t<;>first|exact absurd rfl h|(rw[zZc];kernel_rfl)
def Nu(h:t ≠ .tuple):isSubtype (.type "tuple") .mE=pure false:=by cases t<;>first|exact absurd rfl h|(rw[zZc];kernel_rfl)
def Jj(h:t ≠ .list):isSubtype .qD .mE=pure false:=by cases t<;>first|exact absurd rfl h|(rw[zZc];kernel_rfl)
def Q6(t:Ty):isSubtype (.type "dict") .hq=pure false:=by cases t<;>(rw[zZc];kernel_rfl)
def pZ(t:Ty):isSubtype .hq .hq=pure true:=by cases t<;>(rw[zZc];kernel_rfl)
def Es:isSubtype (.type "bool") (.type<|tyS .int)=pure true:=by rw[zZc];kernel_rfl
def vS(h:n≠tyS t):(Value.type n == Value.type .hr)=false:=by
 rw[beq_eq_false_iff_ne];intro e;cases e;exact h rfl
def Hb{a b:Ty}(h:a≠b):(a == b)=false:=by cases a<;>cases b<;>first|rfl|exact absurd rfl h
section
variable{X:Cx}{pos p:Pos}
def UE{σ:St}(I:.x)(C:RH X.K ρ H hd)(i:RD X.K ρ H d v)(r:cU v u)(e:Kn hd t d=some b)
  (q:∀F,Inv X pins σ H F->Q (.bool b) F):.aS .yK Q E s:=by
 have j:=q s I;have q1:=q .d5 (I.tok _);have g:∀{n:String},s.TypeIs u n->isSubtype (.type n) .hq=pure true->Q .lG s->.aS .yK Q E s:=λf m K=>vb (isinstance_true (j7 t) m) ⟨f,K⟩;cases d<;>dsimp[RD]at i<;>dsimp[Kn]at e
 ·subst i;cases r;cases e
  exact vb (isinstance_false_none .BL (j7 t)<|Q4 t) q1
 ·subst i;cases r
  by_cases f:t=.int
  ·subst f;cases e;exact g rfl Es j
  ·by_cases m:t=.bool
   ·subst m;cases e;exact g rfl (pZ .bool) j
   ·rw[Hb f,Hb m]at e;cases e
    exact vb (isinstance_false_bool (by cases t<;>first|exact absurd rfl f|exact absurd rfl m|exact vS .a) (j7 t)<|Q5 f m) q1
 ·subst i;obtain⟨G,rfl⟩:=r
  by_cases f:t=.int
  ·subst f;cases e;exact g rfl (pZ .int) j
  ·rw[Hb f]at e;cases e
   exact vb (isinstance_false_int (by cases t<;>first|exact absurd rfl f|exact vS .a) (j7 t)<|UC f) q1
 ·subst i;obtain⟨G,rfl⟩:=r
  by_cases f:t=.str
  ·subst f;cases e;exact g rfl (pZ .str) j
  ·rw[Hb f]at e;cases e
   exact vb (isinstance_false_str (by cases t<;>first|exact absurd rfl f|exact vS .a) (j7 t)<|UD f) q1
 ·obtain⟨a,B,rfl,w,_⟩:=i
  cases r;obtain⟨y,_,o,h,x,_⟩:=nC I.hok w
  by_cases f:t=.tuple
  ·subst f;cases e;exact g ⟨o,h,x⟩ (pZ .tuple) j
  ·rw[Hb f]at e;cases e
   exact vb (isinstance_false_tuple (by cases t<;>first|exact absurd rfl f|exact vS .a) (j7 t)<|Nu f) ⟨⟨o,h,x⟩,q1⟩
 ·rename_i n
  obtain⟨a,w,rfl⟩:=i;cases r;cases c:hd[n]? with
  |none=>rw[c]at e;cases e
  |some cell =>
   rw[c]at e;cases cell with
   |lst l =>
    obtain⟨B,A,_⟩:=C.cel n _ a c w;obtain⟨z,y,k,_,h⟩:=I.hok a _ A
    by_cases f:t=.list
    ·subst f;cases e;exact g ⟨_,h,rfl⟩ (pZ .list) j
    ·dsimp[Hb f]at e;cases e
     exact vb .wJ ⟨⟨_,h,rfl⟩,q1⟩
   |dcT _=>cases e
   |ob _=>cases e
   |dct l =>
    obtain⟨B,A,_,_⟩:=C.cel n _ a c w;obtain⟨_,_,_,_,o,_,_,h,J,_⟩:=I.hok a _ A;cases e;exact vb (isinstance_false_dict .BL (j7 t)<|Q6 t) ⟨⟨o,h,J.1⟩,q1⟩
 ·obtain⟨a,B,rfl,w,_⟩:=i
  cases r;obtain⟨y,_,L,_⟩:=I.list w.sq;obtain⟨o,h,x,_⟩:=L.isList
  by_cases f:t=.list
  ·subst f;cases e;exact g ⟨o,h,x⟩ (pZ .list) j
  ·dsimp[Hb f]at e;cases e
   exact vb .wJ ⟨⟨o,h,x⟩,q1⟩
 ·cases e
/---/def X7(K:ZX)(t:Ty):List V->Hp->VK->Prop:=λxs H Q=>∃ρ hd d v b,xs=[v,.ty .hr]/\RH K ρ H hd/\RD K ρ H d v/\Kn hd t d=some b/\Q .eP H
def Nv(t:Ty):jm X (.dm "isinstance") (X7 X.K t):=by
 intro pins s σ H l k Q I r h;obtain⟨ρ,m,d,v,b,rfl,f,j,e,q⟩:=h;obtain⟨u,g,rfl,c,a⟩:=bM.two r;cases (show g=Value.type .hr from a);exact UE I f j c e λn i=>⟨.bl b,H,i,rfl,q⟩
def i6(r:.ab "isinstance")(hm:X.mg "isinstance"=none)(j:.ab n)(l:X.mg n=none)(q:bootBuiltins n=some .hq)(u:.i a o)
  (m:starEach [a,.Name n e] X.env=(false,.bw X.env)::starEach [.Name n e] X.env:=by rfl) (i:starEach [.Name n e] X.env=(false,eval (.Name n e) X.env)::starEach [] X.env:=by rfl) (hn:n≠"__name__" := by decide) (hd:(n == ("__debug__" : Str))=false:=by decide) :
  ME X (.dR (.bM "isinstance") [a,.Name n e]) (i3 t o):=by
 refine PE.imp (oX (Nv t) r hm .bq (dr u (dr (QA (v:=.ty .hr) j l q rfl hn hd) fB i) m) (he:=m)) λσ H Q ⟨ρ,σd,hd,w,s⟩=>⟨ρ,σd,hd,w,(.al s).imp λv z ⟨k,d,f,y,g,x,h⟩=>?_⟩;cases c:Kn f t d with
 |none=>dsimp[c]at h;exact h.elim
 |some b=>dsimp[c]at h;exact⟨k,f,d,v,b,rfl,g.hp,x,c,h.here g .ac⟩
def em:.Y .hI (λx y H Q=>rI0 (λi j=>.int (i+j)) x y H Q\/Ee X.K x y H Q):=Ua.or Je
def fM{K:ZX}:Og K dR (λx y H Q=>rI0 (λi j=>.int (i+j)) x y H Q\/Ee K x y H Q):=by
 intro ρ H σd E σ d k v w Q r h e c;cases d<;>try exact c.elim
 ·cases k<;>try exact c.elim
  dsimp[RD]at h e;exact .inl ⟨_,_,h,e,c.here r .ac⟩
 ·rename_i l
  cases l with
  |nil=>exact c.elim
  |cons x F =>
   cases k<;>try exact c.elim
   rename_i B
   dsimp[dR]at c;split at c
   ·rename_i A
    dsimp[RD]at h e;obtain⟨a,n,rfl,s,f⟩:=h;obtain⟨b,t,rfl,u,g⟩:=e;refine .inr ⟨a,b,n,t,rfl,rfl,SqT.of s,SqT.of u,?_,?_,λz=>?_,λ_ q C=>?_⟩
    ·intro z;subst z;have:=f.length;simp at this
    ·rw[<-f.length,<-g.length];exact rV A
    ·subst z
     have D:B=[]:=by have:=g.length;simpa using this
     subst D;exact c.here r (by dsimp[rD,RD];exact⟨a,n,rfl,s,by simpa using f⟩)
    ·have m:=c6 (o:=HO.tup (n++t)) C
     exact c.at (.e5 m) (r.same m) (by dsimp[rD,RD];exact⟨q,_,rfl,bN,(RDs.append f g).mono (.cz m)⟩)
   ·exact c.elim
def Jk(s:.ab "list")(hm:X.mg "list"=none)(n:MQ X a d)(g:.bm X.env=(false,.bw X.env)::starEach [] X.env:=by rfl):MF X (.cx<|.bM "list") d:=by
 refine PE.imp (AQ Cg s hm .bq (dr n fB g) (he:=g)) λσ H Q ⟨ρ,σd,f,r,b⟩=>⟨ρ,σd,f,r,?_⟩;cases e:d σd f with
 |exc x u=>rw[e]at b;exact b
 |bad=>rw[e]at b;exact b
 |ok l m =>
  rw[e]at b;intro v t h k c ⟨q,i,j,o,rvs⟩;subst j;exact⟨q,i,rfl,o.imp id SqT.of,b.mk k c rvs⟩
/---/def MO(X:Cx)(e:.mD)(f:OF):Prop:=PO X e (oZ X.K rO f)
def o6:MO X none pNo:=λpins s σ H Q I ⟨ρ,σd,c,b,a⟩=>QS pins s σ H Q I (a.here b rfl)
def o7(h:.dh):MO X (some e) (pAt f):=λpins s σ H Q I ⟨ρ,σd,j,k,i⟩=>QT h pins s σ H Q I ⟨ρ,σd,j,k,(.al i).imp λv n ⟨l,d,g,m,a,c,b⟩=>by
 cases d<;>try exact b.elim
 dsimp[rD,RD]at c;exact⟨_,c,b.here a rfl⟩⟩
def Cr{K:ZX}(r:.fP):.aT (cut l lo hi) (uf vs lo hi):=by
 have e:∀(n d:Nat) (o:.aF),Fm.sIx n d o=HT.sIx n d o:=λn d o=>by cases o<;>rfl
 unfold cut uf;rw[r.length,e,e];exact(r.drop _).take _
def jO{L K:OF}(ha:.i a J)(S:MO X lo L)(P:MO X hi K):.i (.dk a<|.mG B) (eA J L K):=by
 refine PE.imp (xS (SlR.or QU M9) ha S P) λσ H Q ⟨ρ,σd,U,V,I⟩=>?_;unfold eA at I;refine⟨ρ,σd,U,V,(.al I).imp λv H1 ⟨E,d,D,e1,w,Z,M⟩=>?_⟩;refine⟨E,σd,D,w,(.al M).imp λy H2 ⟨C,W,A,T,x,q2,B⟩=>?_⟩;cases q2;refine⟨C,σd,A,x,(.al B).imp λs z ⟨k,N,g,Y,f,q3,b⟩=>?_⟩;cases q3;have j:=(Z.mono<|w.hp.kp T).mono (x.hp.kp Y);have i:∀l,jM g d=some l->cm X.K .fK k z σd σ (.ok .fj<|g++[.lst (cut l y s)]) Q->Wu X.K v y s z Q:=λl c p=>by
  obtain⟨q,r,O,R,h⟩:=Co f.hp j c;refine⟨q,r,O,R,λu t=>?_⟩;have m:=c6 (o:=HO.lst (uf r y s)) t;have nq:=f.hp.free t;have rh:=(f.hp.same m).alloc bN nq ((Cr h).mono (.cz m));have G:Ext k z (k++[u]) (upd z u<|.lst<|uf r y s):=Ext.alloc t;refine p.at G (f.ext G rh) ?_;dsimp[rD,RD];exact⟨u,by rw[<-f.hp.len];simp,rfl⟩
 cases d with
 |tup l =>
  simp only at b;split at b
  ·exact b.elim
  ·rename_i hw
   dsimp[RD]at j;obtain⟨q,r,rfl,t,h⟩:=j;have e:∀(n d:Nat) (o:.aF),Fm.sIx n d o=HT.sIx n d o:=λn d o=>by cases o<;>rfl
   refine .inr ⟨q,r,rfl,SqT.of t,by rw[<-h.length,<-e,<-e];exact hw,λu F=>?_⟩;have m:=c6 (o:=HO.tup (uf r y s)) F;exact b.at (.e5 m) (f.same m) (by dsimp[rD,RD];exact⟨u,_,rfl,bN,(Cr h).mono (.cz m)⟩)
 |ref n =>
  simp only at b;cases c:jM g .fB with
  |none=>rw[c]at b;exact b.elim
  |some l=>rw[c]at b;exact .inl (i l c b)
 |lit l' =>
  simp only at b;cases c:jM g (.lit l') with
  |none=>rw[c]at b;exact b.elim
  |some l=>rw[c]at b;exact .inl (i l c b)
 |_=>exact b.elim
def ju{apos b:Pos}(U:.i o J)(he:.i e L)(i:.e8 "append" X.env .c8=eval o X.env:=by rfl)
  (z:((backTo b .iQ).all .eK && (.mL b).all .eH
   && decide .hb)=true:=by rfl)
  (m:(apos.endLine == b.line)=true:=by rfl) (G:.kx X.env=(false,.aB X.env)::starEach [] X.env:=by rfl) :
  ME X (.Call (.dS "append") [e] [] b) (jY J L):=by
 refine PE.imp (.v4 PySem.F.slot_list_append PySem.F.type_list_append AS U (dr he fB G) i z m G) λσ H Q ⟨ρ,σd,S,T,I⟩=>⟨ρ,σd,S,T,?_⟩;unfold jY at I;refine (.al I).imp λv Z ⟨B,d,u,e1,t,K,g⟩=>?_;cases d<;>try exact g.elim
 rename_i n
 dsimp[rD,RD]at K;obtain⟨a,M,rfl⟩:=K;simp only at g;cases D:u[n]? with
 |none=>rw[D]at g;exact g.elim
 |some cell1 =>
  rw[D]at g;cases cell1 with
  |dct l=>exact g.elim
  |dcT l=>exact g.elim
  |ob l=>exact g.elim
  |lst Y =>
   obtain⟨V,O,_⟩:=t.hp.cel n _ a D M;simp only at g;refine⟨.inl ⟨rfl,V,SqL.of O⟩,B,σd,u,t,(.al g).imp λw E ⟨s,k,r,P,j,A,f⟩=>?_⟩;dsimp[Tz]at f;cases c:r[n]? with
   |none=>rw[c]at f;exact f.elim
   |some cell =>
    rw[c]at f;cases cell with
    |dct l=>exact f.elim
    |dcT l=>exact f.elim
    |ob l=>exact f.elim
    |lst l =>
     simp only at f;split at f
     ·rename_i N
      have q:=P.get M;obtain⟨y,C,h⟩:=j.hp.cel n _ a c q;refine⟨a,y,w,rfl,rfl,C,?_,?_⟩
      ·rw[<-h.length];exact ZY N .lr
      ·have R:n<r.length:=(.gE).1
       have W:=j.hp.write q R (RDs.append h<|.kq A);have F:Ext s E s (upd E a<|.lst<|y++[w]):=Ext.write (ZK q);exact f.at F (j.ext F W) .ac
     ·exact f.elim
end
end Fm
namespace L2
open PySem PySem.Spec PyProof.Rows
section
variable{κ:Type}[DecidableEq κ]
/---/def oN(kvs:List .jT)(k:κ):Option V:=(kvs.find? λkv=>decide (kv.1=k)).map (·.2)
/---/def qL(kvs:List .jT)(k:κ)(v:V):List .jT :=
 if (kvs.any λkv=>decide (kv.1=k))=true then kvs.map (λkv=>if kv.1=k then (kv.1,v) else kv) else kvs++[(k,v)]
def xX{k:κ}(e:p.1=k):oN (p::r) k=some p.2:=by simp[oN,zYg,e]
def r6{k:κ}(e:¬p.1=k):oN (p::r) k=oN r k:=by simp[oN,zYg,e]
theorem Et(k:κ):∀a:List .jT,.BR=(oN a k).isSome
 |[]=>rfl
 |p::r=>by
  rw[zYj]
  by_cases e:p.1=k
  ·dsimp[xX e,z3 e,Bool.true_or,Option.isSome_some]
  ·rw[r6 e,z4 e,Bool.false_or];exact Et k r
def vT(a:List .jT)(k:κ)(v:V):(qL a k v).length<=a.length+1:=by
 unfold qL;split
 ·rw[ZA];omega
 ·rw[ZB,wI,YY];omega
def rL.isSome_eq(r:rL o u):o.isSome=u.isSome:=by
 cases o with
 |none=>cases u with
  |none=>rfl
  |some _=>exact(show False from r).elim
 |some _=>cases u with
  |none=>exact(show False from r).elim
  |some _=>rfl
def KV.val{vs:List .pu}(r:KV a vs)(k:κ):rL (oN a k) (valueAt vs k):=by
 unfold KV at r
 induction r with
 |nil=>exact True.intro
 |@cons p q j c h t g =>
  obtain⟨f,i⟩:=h
  by_cases e:p.1=k
  ·have d:q.1=k:=f.symm.trans e
   have b:valueAt (q::c) k=some q.2:=by simp[valueAt,zYg,d]
   rw[xX e,b];exact i
  ·have d:¬q.1=k:=λz=>e (f.trans z)
   have b:valueAt (q::c) k=valueAt c k:=by simp[valueAt,zYg,d]
   rw[r6 e,b];exact g
def KV.any(r:KV a vs)(k:κ):.BR=vs.any λb=>decide (b.1=k):=by
 unfold KV at r
 induction r with
 |nil=>rfl
 |cons h t c=>rw[zYj,zYj,c,h.1]
def KV.repl(r:KV b vs)(k:κ){y:V}{u:S1}(f:cU y u):
  KV (b.map λa=>if a.1=k then (a.1,y) else a) (vs.map λa=>if a.1=k then (a.1,u) else a):=by
 unfold KV at r⊢
 induction r with
 |nil=>exact .nil
 |@cons p q j i h t d =>
  rw[z5,z5];refine .cons ?_ d;obtain⟨c,g⟩:=h
  by_cases e:p.1=k
  ·rw[zE e,zE (c.symm.trans e)];exact⟨c,f⟩
  ·rw[zF e,zF (λz=>e (c.trans z))];exact⟨c,g⟩
def KV.put(r:KV a vs)(k:κ){y:V}{u:S1}(b:cU y u):KV (qL a k y) (stored vs k u):=by
 unfold qL stored;rw[r.any k]
 by_cases e:(vs.any λc=>decide (c.1=k))=true
 ·rw[zE e,zE e];exact r.repl k b
 ·rw[zF e,zF e];exact Paired.snoc r ⟨rfl,b⟩
def KV.length{vs:List .pu}(r:KV a vs):a.length=vs.length:=Paired.length r
end
def Nw(r:cU (kV k) u):(.hK).is k u=true:=by
 cases k with
 |inl i=>obtain⟨t,e⟩:=(show ∃t,u=Value.int i t from r);subst e;exact D7 P w i t
 |inr x=>obtain⟨t,e⟩:=(show ∃t,u=Value.str x t from r);subst e;exact D8 P w x t
theorem AY:∀{a:List Key} {us:List S1},bM (a.map kV) us->ItemsAre .hK a us
 |[],_,r=>by rw[zo]at r;cases r;exact .nil
 |k::a,_,r=>by
  rw[z5]at r;cases r with
  |cons h t=>exact .cons (Nw h) (AY t)
abbrev KT(H:Hp):List .jn->List .nQ->Prop:=Paired λp q=>p.1=q.1/\H q.2.1=some (.tup<|p.1.map kV)/\cU p.2 q.2.2
def KT.val{xs:List .nQ}(r:KT H a xs)(k:List Key):rL (oN a k) ((atKey xs k).map (·.2)):=by
 induction r with
 |nil=>exact True.intro
 |@cons p q j c h t g =>
  obtain⟨f,_,i⟩:=h
  by_cases e:p.1=k
  ·have d:q.1=k:=f.symm.trans e
   have b:atKey (q::c) k=some q.2:=by simp[atKey,zYg,d]
   rw[xX e,b];exact i
  ·have d:¬q.1=k:=λz=>e (f.trans z)
   have b:atKey (q::c) k=atKey c k:=by simp[atKey,zYg,d]
   rw[r6 e,b];exact g
def KT.repl(r:KT H a xs)(k:List Key)(g:cU y u):
  KT H (a.map λc=>if c.1=k then (c.1,y) else c) (xs.map<|putAt k u):=by
 induction r with
 |nil=>exact .nil
 |@cons p q l j h t f =>
  rw[z5,z5];refine .cons ?_ f;obtain⟨b,d,i⟩:=h;unfold putAt
  by_cases e:p.1=k
  ·rw[zE e,zE (b.symm.trans e)];exact⟨b,d,g⟩
  ·rw[zF e,zF (λz=>e (b.trans z))];exact⟨b,d,i⟩
def KT.put(r:KT H a xs)(k:List Key)(f:H b=some .uh)(c:cU y u):
  KT H (qL a k y) (storedH xs k b u):=by
 have e:(a.any λd=>decide (d.1=k))=(atKey xs k).isSome:=by
  rw[Et,(r.val k).isSome_eq,Option.isSome_map]
 unfold qL storedH;rw[e]
 by_cases q:(atKey xs k).isSome=true
 ·rw[zE q,zE q];exact r.repl k c
 ·rw[zF q,zF q];exact Paired.snoc r ⟨rfl,f,c⟩
def KT.keeps(r:KT H a xs)(ht:∀b ys,H b=some .jW->c b=some .jW):KT c a xs :=
 Paired.mapP r λ_ _ z=>⟨z.1,ht _ _ z.2.1,z.2.2⟩
variable{b:.em}
section
variable{P:N3}{w:N6}{H:Hp}{h:Heap}{a:Addr}
def Td(ok:.cP)(e:Rd H a u):.mO u:=e.ok ok
def Nx(ok:.cP)(e:Rd H a .gL):b.length<=sizeLine/\.gl=false/\∃vs,KV b vs/\h.DictOf .hK a vs :=
 show gM P w H h a .gL from Td ok e
def Ny(ok:.cP)(e:H a=some .gL):b.length<=sizeLine/\.gl=false/\∃vs,KV b vs/\h.DictOf .hK a vs:=Nx ok (.inl e)
def Hc{b:List Key}(ok:.cP)(e:H a=some (.tup<|b.map kV)):(.lk).is h b a:=by
 obtain⟨_,c,r,o,g,f,n,d⟩:=(show gM P w H h a (.tup<|b.map kV) from ok a _ e);exact⟨o,c.toArray,n,g,f,d,by simpa using AY r⟩
def Nz{b:List .jn}(ok:.cP)(e:Rd H a (.dT b)):b.length<=sizeLine/\.gl=false/\
  ∃xs,KT H b xs/\h.DictOfH .lk a xs:=by
 obtain⟨z,y,xs,r,o,i,g,j,n,k,v,u⟩:=(show gM P w H h a (.dT b) from Td ok e);refine⟨z,y,xs,r,o,i,g,j,n,k,v,λx c=>?_,u⟩;have d:∀{l:List .jn} {m:List .nQ},KT H l m->∀x∈m,(.lk).is h x.1 x.2.1:=by
  intro l m q
  induction q with
  |nil=>intro x c;exact nomatch c
  |@cons p q B A f t s =>
   intro x c;rcases y6.mp c with e|c
   ·subst e
    exact Hc ok (by rw[<-f.1];exact f.2.1)
   ·exact s x c
 exact d r x c
def WC{b:List .jn}(ok:.cP)(e:H a=some (.dT b)):b.length<=sizeLine/\.gl=false/\
  ∃xs,KT H b xs/\h.DictOfH .lk a xs:=Nz ok (.inl e)
end
/---/def NA(H:Hp)(a:Addr)(y:V)(r:Option V):Prop :=
 (∃kvs k,Rd H a .l0/\y=kV k/\r=oN kvs k)\/∃kvs k b,Rd H a .ko/\y=.ref b/\H b=some .uh/\r=oN kvs k
/---/def NB(H:Hp)(a:Addr)(y v:V)(H':Hp):Prop :=
 (∃kvs k,H a=some .l0/\y=kV k/\kvs.length<sizeLine/\H'=.a2 a (.dK .o6))\/
 ∃kvs k b,H a=some .ko/\y=.ref b/\H b=some .uh/\kvs.length<sizeLine/\H'=.a2 a (.dT .o6)
def NA.k{k:Key}(e:H a=some .gL):NA H a (kV k) (oN b k):=.inl ⟨b,k,.inl e,rfl,rfl⟩
def NB.k{k:Key}{v:V}(e:H a=some .gL)(c:b.length<sizeLine):NB H a (kV k) v (.a2 a<|.dK<|qL b k v):=.inl ⟨b,k,e,rfl,c,rfl⟩
section
variable{X:Cx}{pins:.N}{σ:St}{H:Hp}{s:P1}{a:Addr}{y v:V}{u r:S1}{o:Option V}{A:P2}{E:.R}
def Inv.big(I:.x):sysModules<s.heap.objs.size:=by
 have h:mainGlobals<s.heap.objs.size:=(I.mod.glob.keeps I.bk).lt;exact Z1 .a h
def X8(n:A.units+1<cLine)(I:.x)(g:NA H a y o)(j:cU y u)(h:∀m,Inv X pins σ H m->Q (.bool o.isSome) m):
  wpAny .aq A (compareOp .In u .de) Q E s:=by
 rcases g with ⟨kvs,k,e,f,l⟩|⟨kvs,k,b,e,f,p,l⟩
 ·subst f
  obtain⟨z,i,t,c,d⟩:=Nx I.hok e;refine wpAny_in_of (Nw j) i d.mapOf ?_;rw[<-(c.val k).isSome_eq,<-l];exact h _ (I.tok _)
 ·subst f
  cases (show u=Value.ref b from j);obtain⟨z,i,w,c,d⟩:=Nz I.hok e;refine wpAny_in_heap (tupleKind_room_in1 n) (Hc I.hok p) i d ?_;have q:=(c.val k).isSome_eq;rw[Option.isSome_map]at q;rw[<-q,<-l];exact h _ (I.tok _)
def Jl(I:.x)(d:Mut (H a))(f:Heap.SameBut a s.heap h')(he:∃q,h'.get? a=some q)(new:gM X.prog X.w (.a2 a ob) h' a ob):
  Inv X pins σ (.a2 a ob) .ga :=
 I.write (x:=a) (e:=a) d .aY (λb q c z=>(f.2 b c).trans z) he new
def UF(z:b.length<=sizeLine)(hd:.gl=false)(rel:KV b vs)(d:h'.DictOf .hK a vs):
  gM P w c h' a .gL:=⟨z,hd,vs,rel,d⟩
def KO(M:A.units+1<cLine)(I:.x)(g:NB H a y v C)(D:cU y u)(J:cU v r)(h:∀G,Inv X pins σ C G->Q () G):
  wpAny .aq A (setItem .de u r) Q E s:=by
 rcases g with ⟨kvs,k,e,t,l,eH⟩|⟨kvs,k,b,e,t,x,l,eH⟩
 ·subst t eH
  obtain⟨z,w,P,d,m⟩:=Ny I.hok e;have j:P.length<=sizeLine:=by rw[<-d.length];exact z
  have p:(.o6).length<=sizeLine:=by have:=vT kvs k v;omega
  refine wpAny_setItem_pairs (hsz:=j) (Nw D) m λB f n=>h _ ?_;have R:∃q,B.get? a=some q:=let ⟨q,_,_,i,_⟩:=f;⟨q,i⟩;exact Jl I .sz n R (UF p w (d.put k J) f)
 ·subst t eH
  cases (show u=Value.ref b from D);obtain⟨z,w,T,d,m⟩:=WC I.hok e;have j:T.length<=sizeLine:=by rw[<-Paired.length d];exact z
  have p:(.o6).length<=sizeLine:=by have:=vT kvs k v;omega
  refine wpAny_setItem_heap (hsz:=j) (tupleKind_room_in1 M) (Hc I.hok x) m λB f n=>h _ ?_;obtain⟨q,L,K,i,O,N,U,_,S⟩:=f;refine Jl I .sz n ⟨q,i⟩ ⟨p,w,_,(d.put k x J).keeps λc V F=>?_,q,L,K,i,O,N,U,S⟩;rw[bi (S7 F e (λz=>nomatch z))];exact F
end
section
variable{X:Cx}{pins:.N}{σ:St}{H:Hp}{s:P1}{a:Addr}{kvs:.em}{k:Key}{u:S1}{A:P2}{E:.R}
end
/---/def UG(i:Expr):Prop:=∀ov iv,subscripted i false ov iv=operate [ov,iv] (getItem ov iv)
def Jm{pos:Pos}{T id:String}{Q:.R}
  (l:typeLookup .jV "__getitem__"=pure (some .fC)) (k:UG a)
  (h:.bP (eval value env) (λo d=>.bP (.bw env) (λi b=>b.TypeIs o T/\.bP (getItem o i) Q E b) E d) E s) :
  wpAny .aC A (eval (.dk value a) env) Q E s:=by
 refine Subscript_ (zXq h (λo d f=>zXq f (λi b c=>?_) λ_ _ x=>x) λ_ _ x=>x);obtain⟨j,c⟩:=c;unfold subscriptTail;refine zD ?_;rw[getitemInPython_of_ne j.not_modules];refine zD (wpAny_specialOf j l ?_);have fin:wpAny .aC A (subscripted a false o i) (λr e=>.bP (letTemporaryGo value o r >>= λ_=>pure r) Q E e) E b := by
  rw[k o i];exact wpAny_operating (zXq c (λr e g=>zD (wpAny_letTemporaryGo<|x3 g)) λ_ _ x=>x)
 first
  |exact x3 (zD fin)
  |exact zD (x3 (zD fin))
  |exact zD fin
section
variable{X:Cx}{o i e value:Expr}{pos pos' tpos:Pos}{td ty tv:TE}
end
def NC(h:Heap)(a:sysModules<h.objs.size):gM P w H (h.push { cls:=.type "dict",data:=.dict #[] }) h.objs.size (.dK []) :=
 ⟨YH _,beq_eq_false_iff_ne.mpr (wh<|ZN a),[],.nil,Heap.DictOf.new h⟩
/---/def UH:TE:=λ_ H Q=>∀p,H p=none->.d1 (.cg<|.dK [])
section
variable{X:Cx}{pos:Pos}
def ND:.D (.Dict [] [] pos) UH:=λpins s σ H Q I h =>
 wpAny_Dict_empty ⟨.ref s.heap.objs.size,_,I.laid (a:=s.heap.objs.size) (o:=.dK []) (t':=s.toks) (λ_ _ q=>.aa q) .B (NC s.heap I.big),rfl,h _ .fx⟩
end
structure M1(X:Cx)(o:Expr)(m:Str)(apos:Pos)(e:Expr)(cpos:Pos):Prop where
 base:.e8 m X.env .c8=eval o X.env
 few:((.iw .iQ).all .eK && (.ts).all .eH
  && decide .hb)=true
 line:.sB=true
 trees:.iw .iQ=[(false,.aB X.env)]
structure M2(X:Cx)(o:Expr)(m:Str)(apos:Pos)(e f:Expr)(cpos:Pos):Prop where
 base:.e8 m X.env .c8=eval o X.env
 few:((.iw .Dx).all .eK && (.ts).all .eH
  && decide (([e,f]:List Expr).length+([]:List Keyword).length+.mQ<30))=true
 line:.sB=true
 trees:.iw .Dx=[(false,.aB X.env),(false,eval f X.env)]
/---/def IsD(H:Hp)(a:Addr):Prop:=(∃kvs,Rd H a .l0)\/∃kvs,Rd H a .ko
def UI{σ:St}{H:Hp}{s:P1}{a:Addr}(I:.x)(d:IsD H a):
  s.TypeIs .de "dict"/\(∀b,Value.ref a=.ref b->∃ob,s.heap.get? b=some ob/\ob.dict=none)/\.gl=false:=by
 rcases d with ⟨kvs,e⟩|⟨kvs,e⟩
 ·obtain⟨_,g,i,_,c⟩:=Nx I.hok e
  refine⟨c.typeIs,λb q=>?_,g⟩;cases q;obtain⟨ob,_,_,f,h,_⟩:=c;exact⟨ob,f,h.2.1⟩
 ·obtain⟨_,g,j,_,c⟩:=Nz I.hok e
  refine⟨c.typeIs,λb q=>?_,g⟩;cases q;obtain⟨ob,_,_,f,h,_⟩:=c;exact⟨ob,f,h.2.1⟩
section
variable{X:Cx}{pins:.N}{σ:St}{H:Hp}{s:P1}{a:Addr}{y d:V}{u r:S1}{o:Option V}{A:P2}{E:.R}
end
section
variable{X:Cx}{o e f:Expr}{apos cpos:Pos}{td ty tx:TE}
end
section
variable{X:Cx}{pins:.N}{σ:St}{H:Hp}{s:P1}{a:Addr}{kvs:.em}{A:P2}{E:.R}
end
section
variable{X:Cx}{pins:.N}{σ:St}{H:Hp}{s:P1}{a:Addr}{y:V}{u:S1}{A:P2}{E:.R}
end
structure Cov(X:Cx)(pins:.N)(H:Hp)(B:Heap):Prop where
 trk:∀b u,H b=some u->∃o,B.get? b=some o
 old:∀b o,X.s₀.heap.get? b=some o->b∉frs X.stack->b∉X.ex->∃o,B.get? b=some o
 pin:∀p∈X.pn++pins,∃o,B.get? p.1=some o
section
variable{σ:St}
/---/def XAt(X:Cx)(pins:.N)(σ:St)(H:Hp)(a C:Addr)(s':P1):Prop :=
 (∃s1 h' vs,Inv X pins σ H s1/\Heap.MadeExcOf s1.heap h' a .bH vs/\s' = { s1 with heap:=h' })\/
 (∃B t,Inv X pins σ H s'/\Heap.FlyingW B X.stack a .bH .hU s'.heap/\Cov X pins H B)
/---/def XP(X:Cx)(E:.mz)(e:S1)(s':P1):Prop:=∃pins σ H a C,e=.ref a/\XAt X pins σ H a C s'/\E C H
/---/def CX1(P:N3)(w:N6):CXT:=λouter H s E e s'=>∃a C B t H',e=.ref a/\s'.os=s.os/\AllBare s'.gens/\Un (frs outer) [] H H' s.heap s'.heap/\HOk P w H' s'.heap/\
 Heap.FlyingW B outer a .bH .hU s'.heap/\(∀b u,H' b=some u->∃o,B.get? b=some o)/\(∀b o,s.heap.get? b=some o->b∉frs outer->∃o,B.get? b=some o)/\E .bH none H'
end
section
variable{np cpos pos:Pos}{rest:.aO}
end
section
variable{K:ZX}
end
section
variable{σ:St}
end
section
variable{np cp vp ap hp pos:Pos}
end
end L2
namespace Fm
end Fm
namespace Fm
open PySem PySem.Spec L2
open AutoSeq1 (wpAny_loadPart')
open PyProof.Rows (Call_)
def Q7(h:Value.type a=Value.type b)(n:a≠b):False:=by injection h with h;exact n h
def o8(l:Addr)(a:.bL)(n:Nat)(f:.cw)(j:.fQ):
  Meets (Builtin.«enumerate.__new__» ⟨[.type "enumerate",.ref l],[]⟩) (λ_ R s=>s.heap.get? l=some { cls:=.type "tuple",dict:=f,data:=.seq a n,slots:=j }/\
   R (.ok<|.ret<|.ref (.kI).objs.size)
    { s with heap:=(.kI).push { cls:=.type "enumerate",data:=.fields #[.none,.bool false,.ref s.heap.objs.size,rawInt 0,.none,.none] } }) :=
 .of_wp λprog w A R s h=>by
  obtain⟨k,g,d,m,o⟩:=s;obtain⟨b,h⟩:=h;have i:=sub_enumerate;have e:Heap.IsTuple (Shared.heap ⟨k,g,d,m,o⟩) l a:=⟨_,b,rfl,n,rfl⟩
  wp_walk using Y7 b
  refine wpAny_stack_any λp=>x3 ?_;split
  ·rename_i c _ _ _ _ _
   cases (c == Value.type "enumerate")
   ·wp_walk using Y7 b,zv e
    exact⟨_,rfl,h⟩
   ·wp_walk using Y7 b,zv e
    exact⟨_,rfl,h⟩
  ·wp_walk using Y7 b,zv e
   exact⟨_,rfl,h⟩
variable{l:Addr}
section
variable{prog:N3}{w:N6}{A:P2}{E:.R}{s:P1}
def o9(k:s.heap.IsTuple l a)
  (h:∀h',IsEnum h' .i1 s.heap.objs.size 0 .none->h'.IsTupleIter s.heap.objs.size l 0->h'.objs.size=s.heap.objs.size + 2->
   (∀b o,s.heap.get? b=some o->h'.get? b=some o)->Q (.ref .b5) .dB) :
  wpAny .aC A (call (.type "enumerate") [.ref l]) Q E s:=by
 obtain⟨⟨c,g,m,j⟩,p,e,n,f⟩:=k;replace e:c=.type "tuple" := e;replace f:m=.seq a n:=f;subst e f;refine callType_new F.called_enumerate .a (F.typeCall_enumerate_1 _) (F.newCall_enumerate_1 _) .Aa F.entry_enumerate_new
  (o8 l a n g j) ⟨p,?_⟩
 have d:(.kI).objs.size=s.heap.objs.size + 1:=YS ..;show _/\_;rw[d];have i:IsEnum ((.kI).push
   { cls:=.type "enumerate",data:=.fields #[.none,.bool false,.ref s.heap.objs.size,rawInt 0,.none,.none] }) .b5 s.heap.objs.size 0 .none:=by
  have:=ZJ .kI
   (o:={ cls:=.type "enumerate",data:=.fields #[.none,.bool false,.ref s.heap.objs.size,rawInt 0,.none,.none] }) rfl
  rw[d]at this;exact this
 refine⟨⟨_,i,rfl⟩,h _ i ⟨_,.aa .jP,rfl,rfl⟩ (by rw[YS,d]) λb o x=>.aa (.aa x)⟩
def kX(b:s.heap.IsTupleIter it l i)
  (k:s.heap.IsTuple l a) (j:a[i]?=some x)
  (g:∀h',h'.IsTupleIter it l (i+1)->Heap.SameBut it s.heap h'->Q x .dB) :
  wpAny .aC A .no Q E s:=by
 obtain⟨o,d,h,c⟩:=id b;obtain⟨n,f,_,m,e⟩:=k;unfold Builtin.SmallTypes.nextOf;refine zD (YU (name:=Str.ofString "__next__") b.typeIs zZn
  (yo zZn b.typeIs F.entry_tuple_iterator_next ?_ .AJ))
 show wpAny _ _ (field .fG 0 >>= _) _ _ s;refine zD (W1 d c (x:=.ref l) rfl ?_);show wpAny _ _ .Bu _ _ s;rw[zF (show ¬(.r8=true) from Z4)];show wpAny _ _ (field .fG 1 >>= _) _ _ s;refine zD (W1 d c (x:=.int i 0) rfl ?_);show wpAny _ _ (seqItems? .jY >>= _) _ _ s;refine zD (zZo f e ?_);dsimp[zZh,j];refine zD (wpAny_setField d c .f (x3 ⟨x,rfl,x3 (g _ ?_ .CX)⟩));exact⟨_,Heap.get?_update_self _ d (Obj.isFreed_of_fields<|Obj.data_mapFields c _),(Obj.cls_mapFields ..).trans h,by
  rw[Obj.data_mapFields c];simp[rawInt]⟩
def mC(j:.ib)
  (c:s.heap.IsTupleIter it l i) (p:s.heap.IsTuple l b) (n:b[i]?=none)
  (k:.D7) :
  wpAny .aC A .no Q E s:=by
 obtain⟨o,d,r,g⟩:=id c;obtain⟨t,h,_,q,f⟩:=p;unfold Builtin.SmallTypes.nextOf;refine zD (YU (name:=Str.ofString "__next__") c.typeIs zZn
  (yo zZn c.typeIs F.entry_tuple_iterator_next ?_ .AJ))
 show wpAny _ _ (field (.ref it) 0 >>= _) _ _ s;refine zD (W1 d g (x:=.ref l) rfl ?_);show wpAny _ _ .Bu _ _ s;rw[zF (show ¬(.r8=true) from Z4)];show wpAny _ _ (field (.ref it) 1 >>= _) _ _ s;refine zD (W1 d g (x:=.int i 0) rfl ?_);show wpAny _ _ (seqItems? (.ref l) >>= _) _ _ s;refine zD (zZo h f ?_);dsimp[zZh,n];refine zD (wpAny_rule (zD (wpAny_setField d g .f ?_)));show wpAny _ _ (newExc (.type "StopIteration") [] >>= _) _ _ _;refine zD ?_;dsimp[newExc,newTuple];refine zD (zZg ?_ (by size_fits));refine zD (m:=firstArgMember _ _) (wpAny_of_eq (a:=Value.none) (by first|rfl|(dsimp[firstArgMember];rfl)) ?_);refine zZg ?_ (by size_fits);dsimp[raiseNew];refine zD (wpAny_handled ?_)
 first|rw[show A.in1.handled=none from j] | rw[j]
 refine zD (x3 (wpAny_throw ?_));exact k _ _ (((.CX).extBut.push _).push _) ⟨_,ZJ _ rfl,rfl⟩
end
theorem Eu(q:.ib)(it l:Addr)(g:l≠it)(a:.bL):
  Draws prog w A it [it,l] a.size .DV (λi h=>h.IsTupleIter it l i/\h.IsTuple l a) where
 live:=λ_ _ b=>let ⟨o,d,_⟩:=b.1;⟨o,d⟩
 frame:=λ_ _ _ b j=>⟨b.1.at λo e=>j it .f o e,let ⟨o,d,r⟩:=b.2;⟨o,j l .f o d,r⟩⟩
 item:=λi s Q E m b n=>by
  have k:a[i]?=some a[i]:=by simp[m]
  refine kX b.1 b.2 k λt c f=>?_;refine n _ t s.toks k ⟨c,?_⟩ f;obtain⟨o,d,r⟩:=b.2;exact⟨o,(f.2 l g).trans d,r⟩
 done:=λs Q E b p=>mC q b.1 b.2 .f p
def itN:Bool->String
 |true=>"list_iterator"
 |false=>"tuple_iterator"
def It2:Bool->Heap->Addr->Addr->Nat->Prop
 |true,h,i,l,k=>h.IsListIter i l k
 |false,h,i,l,k=>h.IsTupleIter i l k
def Sq2:Bool->Heap->Addr->Array S1->Prop
 |true,h,l,xs=>h.IsList l xs
 |false,h,l,xs=>h.IsTuple l xs
def SqM:Bool->ZX->Hp->Addr->List V->Prop
 |true,K,H,a,xs=>SqL K H a xs
 |false,K,H,a,xs=>SqT K H a xs
variable{h:Heap}{L:Bool}
def It2.mk(e:h.get? i=some { cls:=.type (itN L),data:=.fields #[.ref l,.int 0 0] }):It2 L h i l 0:=by
 cases L
 ·exact⟨_,e,rfl,rfl⟩
 ·exact⟨_,e,rfl,rfl⟩
def It2.obj(t:It2 L h i l k):∃o,h.get? i=some o/\∀v,o.data ≠ .cell v:=by
 cases L
 ·obtain⟨o,q,c,d⟩:=t
  exact⟨o,q,λv e=>by rw[d]at e;cases e⟩
 ·obtain⟨o,q,c,d⟩:=t
  exact⟨o,q,λv e=>by rw[d]at e;cases e⟩
def It2.at(t:It2 L h i l k)(a:∀o,h.get? i=some o->h'.get? i=some o):It2 L h' i l k:=by
 cases L
 ·obtain⟨o,q,r⟩:=t
  exact⟨o,a o q,r⟩
 ·obtain⟨o,q,r⟩:=t
  exact⟨o,a o q,r⟩
def It2.extBut(t:It2 L h a l k)(e:Heap.ExtBut b h h')(n:a≠b):It2 L h' a l k:=t.at λo q=>e _ _ n q
def Sq2.lt(t:.qo):l<h.objs.size:=by
 cases L
 ·obtain⟨o,q,_⟩:=t
  exact ZI q
 ·obtain⟨o,q,_⟩:=t
  exact ZI q
def nF(t:.qo)(e:Heap.ExtBut i h h')(n:l≠i):Sq2 L h' l xs:=by
 cases L
 ·obtain⟨o,a,r⟩:=t
  exact⟨o,e _ _ n a,r⟩
 ·obtain⟨o,a,r⟩:=t
  exact⟨o,e _ _ n a,r⟩
def pc{σ:St}(I:.vJ)(h:SqM L X.K H a xs):∃b,bM xs b/\Sq2 L s.heap a b.toArray/\xs.length<=sizeLine:=by
 cases L
 ·exact I.tuple h
 ·obtain⟨b,r,p,z⟩:=I.list h
  exact⟨b,r,p.isList,z⟩
def Cs{σ:St}(I:.vJ)(h:SqM L X.K H a xs)(h':SqM L X.K H a ys):xs=ys:=by
 cases L
 ·exact I.tuple_inj h h'
 ·exact I.list_inj h h'
def It2.cl(t:It2 L h i l k):∃o,h.get? i=some o/\o.cls=.type (itN L):=by
 cases L
 ·obtain⟨o,q,c,d⟩:=t
  exact⟨o,q,c⟩
 ·obtain⟨o,q,c,d⟩:=t
  exact⟨o,q,c⟩
def Sq2.cl(t:.qo):∃o,h.get? l=some o/\o.cls=.type (bif L then "list" else "tuple"):=by
 cases L
 ·obtain⟨o,q,c,_⟩:=t
  exact⟨o,q,c⟩
 ·obtain⟨o,q,c,_⟩:=t
  exact⟨o,q,c⟩
def NF(c:.ib)(it l:Addr)(b:l≠it)(a:.bL):
  Draws prog w A it [it,l] a.size .DV (λi h=>It2 L h it l i/\Sq2 L h l a):=by
 cases L
 ·exact Eu c it l b a
 ·exact Draws.list c it l b a
/---/def ItG(L:Bool)(K:ZX)(a:Addr):It :=
 ⟨λi H=>∃xs x,SqM L K H a xs/\xs[i]?=some x,λi H x H'=>∃q v,x=.ref q/\H q=none/\H'=upd H q (.tup [.int (i:Nat),v])/\∀xs,SqM L K H a xs->xs[i]?=some v,λi H=>∃xs,SqM L K H a xs/\xs.length=i⟩
abbrev Ite:ZX->Addr->It:=ItG false
abbrev ItL:ZX->Addr->It:=ItG true
theorem AZ{K:ZX}(e it a:Addr):Eb P w K (.kr elts) (ItG L K a) [e,it] e (λi h=>(∃old,IsEnum h e it (i:Nat) old)/\It2 L h it a i) where
 mem:=by simp
 obj:=λi h j b d=>by
  obtain⟨⟨old,t⟩,j⟩:=j;rcases y6.mp d with rfl|d
  ·exact⟨_,t,λv z=>by
    have z':Data.fields _=Data.cell v:=z;cases z'⟩
  ·have:b=it:=by simpa using d
   subst this;exact j.obj
 keep:=λi h h' j kk=>by
  obtain⟨⟨old,t⟩,j⟩:=j;exact⟨⟨old,kk e .f _ t⟩,j.at λo x=>kk it .f o x⟩
 item:=by
  intro X hP hw hK hc i pins s σ H E I T j hg;subst hP hw hK;obtain⟨⟨old,t⟩,D⟩:=j;obtain⟨xs,x,hq,hx⟩:=hg;obtain⟨f,rv,Z,hz⟩:=pc I hq;obtain⟨oi,F,G⟩:=D.cl;obtain⟨oa,l,p⟩:=Z.cl;have M:e≠it:=λz=>by
   subst z;have C:s.heap.get? e=_:=t;rw[F]at C;cases C;exact Q7 G .n2
  have a4:e≠a:=λz=>by
   subst z;have C:s.heap.get? e=_:=t;rw[l]at C;cases C;exact Q7 p .n2
  have N:a≠it:=λz=>by
   subst z;rw[F]at l;cases l;rw[G]at p;exact Q7 p .n2
  obtain⟨e0,e1,e2,e3,e4,e5⟩:=T e .f;obtain⟨f0,f1,f2,f3,f4,f5⟩:=T it .f;have a8:i<f.toArray.size:=by
   have:=(zA.mp hx).1;have hl:=rv.length;simp;omega
  refine wpAny_pyNext_enum_itemD .xm t ⟨D,Z⟩ a8 M (by simp;exact⟨M,a4⟩) λy h' S hy a1 U R Q hk=>?_;refine⟨_,rfl,wpAny_letOwnedTupleGo_enum a1 λh2 a7 B=>?_⟩;replace B:Heap.SameBut e h' h2:=B;obtain⟨u,hu,ru⟩:=rv.get hx;have a2:y=u:=by
   have:f.toArray[i]?=some u:=by simpa using hu
   rw[hy]at this;exact ZT this
  subst a2;have Y:e<s.heap.objs.size:=ZI t;have a6:it<s.heap.objs.size:=ZI F;have O:H s.heap.objs.size=none:=I.hok.fresh .B;have keep:∀b o,b≠e->b≠it->s.heap.get? b=some o->h2.get? b=some o:=λb o b1 b2 q=>(B.2 b b1).trans (hk b o b1 b2 q);have J:h2.get? s.heap.objs.size=some { cls:=.type "tuple",data:=.seq #[.int i S,y] }:=(B.2 _<|Z9 Y).trans R;have g:∀b,b∉([e,it]:List Addr)->b≠e/\b≠it:=λb d=>by simpa using d
  refine⟨.ref s.heap.objs.size,.a2 s.heap.objs.size .Dn,?_,rfl,⟨_,x,rfl,O,rfl,λys a3=>by rw[Cs I a3 hq];exact hx⟩,⟨⟨_,by simpa using a7⟩,U.1.extBut B.extBut (wh M)⟩,λb d=>?_⟩
  ·suffices I2:L2.Inv X pins σ (.qM .Dn) { s with heap:=h2,gens:=s.gens,drawn:=s.drawn,toks:=S+1 } from I2
   refine I.step (g':=s.gens) (d':=s.drawn) (t':=S+1) (ch:=[e,it]) (λb d=>?_) (λb o _ _ d q _=>keep b o (g b d).1 (g b d).2 q) (λb o _ _ d q _=>⟨o.slots,keep b o (g b d).1 (g b d).2 q⟩) (λb o _ q n=>?_) (λb o d q=>⟨o,keep b o (g b d).1 (g b d).2 q⟩)
    (λb ys q=>?_) (λb o u q=>?_) (λb ps q=>⟨#[],?_⟩) (λm hm=>?_) (λb u q=>?_) I.bare
   ·rcases y6.mp d with rfl|d
    ·exact⟨e3,e1,e4,e5⟩
    ·have:b=it:=by simpa using d
     subst this;exact⟨f3,f1,f4,f5⟩
   ·rw[bi (ZN<|ZI q)];exact n
   ·rw[bi (cP q O)];exact q
   ·rw[bi (cP q O)];exact q
   ·rw[bi (cP q O),q];simp
   ·obtain⟨o,es,ep,ho,r⟩:=hm
    exact⟨o,es,ep,keep _ o (wh e1) (wh f1) ho,r⟩
   ·by_cases d:b=s.heap.objs.size
    ·subst d
     rw[bN]at q;cases q;exact⟨by show 2<=sizeLine;rw[YZ];decide,[.int i S,y],.cons ⟨S,rfl⟩ (.cons ru .nil),_,J,rfl,_,rfl⟩
    ·rw[bi d]at q
     have V:∀c v,H c=some v->c≠e:=λc v z w=>by rw[w,e0]at z;cases z
     have W:∀c v,H c=some v->c≠it:=λc v z w=>by rw[w,f0]at z;cases z
     refine(I.hok b u q).stay (λc v a0 z=>?_) (λc z=>by rw[bi (cP z O)];exact z) λc ys z=>by rw[bi (cP z O)];exact z
     rcases a0 with w|w
     ·subst w;exact keep c v (V c _ q) (W c _ q) z
     ·exact keep c v (V c _ w) (W c _ w) z
  ·have:b≠s.heap.objs.size:=by
    rcases y6.mp d with rfl|d
    ·exact ZN Y
    ·have:b=it:=by simpa using d
     subst this;exact ZN a6
   rw[bi this];exact(T b d).1
 done:=by
  intro X hP hw hK hc i pins s σ H E I T j hg;subst hP hw hK;obtain⟨⟨old,t⟩,D⟩:=j;obtain⟨xs,hq,hx⟩:=hg;obtain⟨f,rv,Z,hz⟩:=pc I hq;obtain⟨oi,F,G⟩:=D.cl;obtain⟨oa,l,p⟩:=Z.cl;have N:a≠it:=λz=>by
   subst z;rw[F]at l;cases l;rw[G]at p;exact Q7 p .n2
  obtain⟨f0,f1,f2,f3,f4,f5⟩:=T it .f;have Q:f.toArray.size=i:=by have:=rv.length;simp;omega
  refine wpAny_pyNext_enum_endD .xm t ⟨by rw[Q];exact D,Z⟩ λh' a5=>⟨rfl,I.turned (t':=s.toks) (λb o d e=>a5 b o d e) f0 f1 f3 f4 f5⟩
 self:=λ_ _ _ _ _ j h=>by
  obtain⟨⟨old,t⟩,_⟩:=j;exact wpAny_pyIter_enum t h
section
variable{X:Cx}{pos p tp:Pos}{elts:.aO}{tk:Nat}
/---/def iEn(K:ZX)(ta:TE):TI:=λσ H R=>ta σ H λx H1=>∃a xs,x=.ref a/\SqT K H1 a xs/\(xs.length<=sizeLine->R (Ite K a) H1)
def Q8(D:.qe)(hm:.pV)(F:.D a k)(t:.bm X.env=.i0:=by rfl):PI X .ki .qr (iEn X.K k):=by
 intro pins s σ H R I h;have m:=dr F fB t;refine Call_ (oT I D hm PyProof.Rows.boot_enumerate (Y1 (thn (m pos pins s σ H (λv c=>∃a d,v=.ei/\SqT X.K c a d/\.nm) I ?_) λK f ⟨v,c,j,A,q1⟩=>?_) t rfl))
 ·show k σ H λx c=>_
  have r:∀(x:V) (c:Hp),(∃a d,x=.ref a/\SqT X.K c a d/\.nm)=(∃a d,[x]=.ei/\SqT X.K c a d/\.nm):=λx c=>by simp
  have g:k σ H λx c=>∃a d,x=.ref a/\SqT X.K c a d/\.nm:=h;dsimp[r]at g;exact g
 ·obtain⟨a,d,e,E,q⟩:=q1
  subst e;obtain⟨u,rfl,z⟩:=bM.one A;cases (show u=Value.ref a from z);obtain⟨o,M,J,B⟩:=j.tuple E;refine o9 (show f.heap.IsTuple a o.toArray from J) λg w n C y=>?_;refine wpAny_pyIter_enum (s:=.oj) w ?_;have G:.bE c .oj:=j.kept (t':=f.toks) y;refine⟨f.heap.objs.size+1,.zT,_,_,c,rfl,G,AZ (L:=false) (f.heap.objs.size+1) f.heap.objs.size a,⟨⟨_,by simpa using w⟩,n⟩,λb l=>?_,q B⟩;have i:f.heap.objs.size<=b:=by
   rcases y6.mp l with e|l
   ·rw[e];exact Nat.le_succ _
   ·have:b=f.heap.objs.size:=by simpa using l
    rw[this];exact ZL _
  exact j.fpOk i (j.hok.fresh i)
theorem KP{K:ZX}{l:List D}(r:.bh)(j:H q=some .gx)(e:.fP)(hz:.vM):
  xV K ρ H (Ite K q) ((.n6).zip l |>.map λp=>.tup [.int (p.1:Nat),p.2]) none where
 go:=λρ' m hd' i d a t _ n=>by
  have k:=r.kp a;obtain⟨b,c⟩:=zA.mp n;have s:i<l.length:=by simpa using b
  have hd:d=.tup [.int (i:Nat),l[i]]:=by rw[<-c];simp
  subst hd;obtain⟨v,f,w⟩:=(e.mono k).get (i:=i) (d:=l[i]) (by simp[s]);have h:SqT K m q vs:=SqT.of (k.tup q vs j);refine⟨⟨vs,v,h,f⟩,λx z y=>?_⟩;obtain⟨q2,A,rfl,u,rfl,y⟩:=y;have:=y vs h;rw[f]at this;cases this;have g:=c6 (o:=HO.tup [.int (i:Nat),v]) u;refine⟨g,?_⟩;dsimp[RD];exact⟨q2,_,rfl,bN,.kw (.kq<|w.mono<|.cz g)⟩
 stop:=λρ' m hd' a t _=>⟨vs,SqT.of ((r.kp a).tup q vs j),by rw[<-e.length];simp⟩
 sz:=by
  have:=e.length;simp;omega
def Jn(s:.qe)(hm:.pV)(w:.fT)(t:.bm X.env=.i0:=by rfl):MI X .ki .qr (IZ f):=by
 refine PI.imp (Q8 s hm w t) λσ H R ⟨ρ,σd,k,y,b⟩=>⟨ρ,σd,k,y,?_⟩;unfold IZ at b;cases e:f σd k with
 |exc x z=>rw[e]at b;exact b
 |bad=>rw[e]at b;exact b
 |ok d o =>
  rw[e]at b;dsimp[aR]at b;intro v r h g c m;cases d<;>try exact b.elim
  rename_i l
  dsimp[rD,RD]at m;obtain⟨q,u,rfl,j,i⟩:=m;exact⟨q,u,rfl,SqT.of j,λn=>b _ r h g c (KP c.hp j i n)⟩
end
end Fm
namespace Fm
open PySem PySem.Spec L2 PySem.W PyProof.Rows
section
variable{prog:N3}{w:N6}{A:P2}{s:P1}
def He(f:s.heap.get? a=some (seqObj "list" vs.toArray n))(m:vs.length<2)
  (h:P (.done<|.ret .none) { s with heap:=sortedHeap s.heap a vs vs.toArray }):.bP (Builtin.«list.sort» ⟨[.ref a],[]⟩) P E s:=by
 rw[list_sort_plain];have k:a<s.heap.objs.size:=ZI f;refine zD (listItems_at f rfl ?_);refine zD (listUpdate_at f rfl ?_);obtain⟨g,c⟩:∃g,(.DA).get? a=some .D5:=⟨_,get?_update_seq f (λ_=>#[])⟩;refine zD (seqEpoch_at c rfl ?_);refine zD (wpAny_newTuple ?_);refine zD (wpAny_newList ?_);refine vr ?_;have d:(((.DA).push (seqObj "tuple" vs.toArray 0)).push .D6).get? a=some .D5:=by
  rw[zZw _ _ _ (by rw[size_push',zYc];exact ZN (Z2 k)),zZw _ _ _ (by rw[zYc];exact ZN k)];exact c
 dsimp only;have j:vs.toArray.size=vs.length:=by simp
 have b:vs.toArray.size<2:=by rw[j];exact m
 rw[zE b,zE b];refine zD .cU;rw[StateT.run_pure];refine zD .cU;dsimp only;refine zD (seqEpoch_at d rfl ?_);refine zD (listUpdate_at d rfl ?_ (hsz2:=by rw[Array.size_map];show (pairsOf vs).size<=_;rw[pairsOf_size,YZ];omega));dsimp[bne_self_eq_false,YM,zZb];have e:(arrOf<|SortSt.mk' general' .BG #[] 7 none).map (·.2)=vs.toArray:=by
  show (.BG).map (·.2)=vs.toArray;apply Array.ext
  ·simp
  ·intro i o m
   simp
 refine x3 ?_;have l:=h;unfold sortedHeap at l;rw[e];exact l
def UJ:∀(ns a:.c) {xs ys:List S1} (i:Nat),IntsAre xs ns->IntsAre ys a->Q (Fm.lexLt ns a) s->KatLex prog w A true (decide .DW) Q (xs.zip ys) i s:=by
 intro ns
 induction ns with
 |nil =>
  intro a xs ys i d c h;cases d;cases a with
  |nil=>cases c;exact h
  |cons m a =>
   cases c;have b:Q true s:=h;exact b
 |cons n ns j =>
  intro a xs ys i d c h;cases d with
  |cons _ t r =>
   cases a with
   |nil =>
    cases c;have b:Q false s:=h;exact b
   |cons m a =>
    cases c with
    |cons _ f k =>
     rename_i xs ys
     refine kat_cons (zXi n t m f prog w _ _ ?_)
     by_cases e:n=m
     ·subst e
      rw[show (n == n)=true by simp];refine kat_yes ?_;have b:Q (Fm.lexLt ns a) s:=by simpa[Fm.lexLt] using h
      have:=j a (i+1) r k b;have g:decide ((Value.int n t::xs).length<(Value.int n f::ys).length)=decide .DW:=by simp
      rw[g];exact this
     ·rw[show (n == m)=false by simpa using e]
      refine kat_no ?_;have b:Q (decide (n<m)) s:=by simpa[Fm.lexLt,e] using h
      cases i with
      |zero=>exact oneLt_int b
      |succ i =>
       have:(true&&(i+1 == 0))=false:=by simp
       rw[this];exact kat_one _ _ (lt_int (by first|exact⟨_,rfl,b⟩|exact b))
end
def UK{h:Heap}(x:h.Ns a m)(y:h.Ns a c):m=c:=by
 obtain⟨o,l,j,d,f,_,r⟩:=x;obtain⟨k,g,i,b,hd',_,e⟩:=y;rw[d]at b;cases b;rw[f]at hd';cases hd';funext z;rw[<-r z,<-e z]
inductive fD(H:Hp):List V->List .aW->Prop
 |nil:fD H [] []
 |cons {a:Addr} {r:.c} {vs:List V} {rs:.aK}:H a=some (.tup .oY)->fD H vs rs->fD H (.ref a::vs) (r::rs)
theorem fD.get:∀{vs:List V} {rs:.aK} {i:Nat} {v:V},fD H vs rs->vs[i]?=some v->∃a,v=.ref a/\H a=some (.tup<|(.oO).map V.int)
 |_,_,_,_,.nil,e=>by simp at e
 |_,_,0,_,.cons h t,e=>by simp at e;subst e;exact⟨_,rfl,h⟩
 |_,_,i+1,v,.cons h t,e=>by
  obtain⟨a,h1,b⟩:=fD.get t .fw;exact⟨a,h1,by simpa using b⟩
theorem fD.length:∀{vs:List V} {rs:.aK},fD H vs rs->vs.length=rs.length
 |_,_,.nil=>rfl
 |_,_,.cons _ t=>by simp[fD.length t]
def Jo(r:cU .v u):∃t,u=.int i t:=r
end Fm
namespace Fm
open PySem PySem.Spec L2
section
variable{X:Cx}
def mv(i:Nat){pos:Pos}(c:X.N[i]?=some x:=by rfl)(b:.qR x:=by first|exact Or.inl rfl|exact Or.inr (Or.inl rfl)|exact Or.inr (Or.inr rfl))(hd:.a4=false:=by decide)
  (a:.sr=false:=by decide):.i .e0 (aa i):=Us c b hd a
end
def UL(r:iz k A):A.units+24<cLine:=by have:=r.un;omega
def jv(X:Cx):List .je->Prop
 |[]=>True
 |y::r=>(y.2=.free->X.env.kindOf y.1=some .cell\/X.env.kindOf y.1=some .free)/\jv X r
def bU(X:Cx)(scope:Scope):List Str->List Nat->Prop
 |[],[]=>True
 |x::xs,i::is=>(X.N[i]?=some x/\scope.names.lookup x=some .free)/\.kD xs is
 |_,_=>False
theorem jv.get:∀{l:List .je},jv X l->∀y∈l,y.2=.free->X.env.kindOf y.1=some .cell\/X.env.kindOf y.1=some .free
 |[],_,y,a=>by simp at a
 |z::r,h,y,a=>by
  rcases y6.mp a with rfl|a
  ·exact h.1
  ·exact jv.get h.2 y a
theorem bU.get:∀{capn:.az} {caps:.m},bU X scope capn caps->(∀(j:Nat) x,capn[j]?=some x->∃i,caps[j]?=some i/\X.N[i]?=some x/\scope.names.lookup x=some .free)/\capn.length=caps.length
 |[],[],_=>⟨λj x e=>by simp at e,rfl⟩
 |x::xs,i::is,h=>by
  obtain⟨h1,a⟩:=bU.get h.2;refine⟨λj y e=>?_,by simp[a]⟩;cases j with
  |zero=>simp at e;subst e;exact⟨i,rfl,h.1⟩
  |succ j=>exact h1 j y .fw
 |[],_::_,h=>h.elim
 |_::_,[],h=>h.elim
def jv.nil:jv X []:=trivial
def jv.cons(h:y.2=.free->X.env.kindOf y.1=some .cell\/X.env.kindOf y.1=some .free)(t:jv X r):jv X (y::r):=⟨h,t⟩
def bU.nil:.kD [] []:=trivial
def bU.cons(h1:.dN)(a:scope.names.lookup x=some .free)(t:.kD xs is):.kD .dL (i::is):=⟨⟨h1,a⟩,t⟩
def cA.mk'(k:scope.kind=.function)(c:∀y∈scope.names,y.2 ≠ .cell)(n:∀y∈scope.names,y.2=.local->scope.names.lookup y.1=some .local)(f:jv X scope.names)(cp:.kD capn caps):cA X scope own capn caps :=
 ⟨k,c,n,f.get,cp.get.1,cp.get.2⟩
section
variable{K:ZX}{ρ:.U}{H:Hp}
def Ev(h:.ek)(f:iw d=true):qu v=true:=by
 cases d<;>dsimp[RD]at h<;>first|(subst h;rfl)|(simp[iw]at f)
def eqS:(x == y)=.ui:=by
 by_cases z:x=y
 ·subst z;rw[beq_self_eq_true,beq_self_eq_true]
 ·have:¬toS x=toS y:=λq=>z .rl
  rw[beq_eq_false_iff_ne.mpr z,beq_eq_false_iff_ne.mpr this]
def Q9(h:.ek)(g:.dZ k w)(f:iw d=true)(b:iw k=true):eqF d k=eqV v w:=by
 cases d with
 |non=>dsimp[RD]at h;subst h;cases k<;>dsimp[RD]at g<;>first|(subst g;rfl)|(simp[iw]at b)
 |bl a=>dsimp[RD]at h;subst h;cases k<;>dsimp[RD]at g<;>first|(subst g;rfl)|(simp[iw]at b)
 |int a=>dsimp[RD]at h;subst h;cases k<;>dsimp[RD]at g<;>first|(subst g;rfl)|(simp[iw]at b)
 |str a=>dsimp[RD]at h;subst h;cases k<;>dsimp[RD]at g<;>first|(subst g;rfl)|(subst g;exact eqS)|(simp[iw]at b)
 |tup l=>simp[iw]at f
 |ref n=>simp[iw]at f
 |lit l=>simp[iw]at f
 |exn c l=>simp[iw]at f
theorem A0:∀{l:List D} {vs:List V},RDs K ρ H l vs->l.all iw=true->vs.all qu=true
 |[],_,h,_=>by dsimp[RDs]at h;subst h;rfl
 |d::l,_,h,f=>by
  dsimp[RDs]at h;obtain⟨v,r,rfl,h1,a⟩:=h;dsimp[zZx,ZZ]at f⊢;exact⟨Ev h1 f.1,A0 a f.2⟩
theorem Jp(g:.dZ k w)(a:iw k=true):∀{l:List D} {vs:List V},RDs K ρ H l vs->l.all iw=true->(l.any λz=>eqF z k)=vs.any λz=>eqV z w
 |[],_,h,_=>by dsimp[RDs]at h;subst h;rfl
 |d::l,_,h,f=>by
  dsimp[RDs]at h;obtain⟨v,r,rfl,h1,b⟩:=h;dsimp[zZx,ZZ]at f;rw[zYj,zYj,Q9 h1 g f.1 a,Jp g a b f.2]
end
section
variable{X:Cx}{pos:Pos}
def Jq{K:ZX}(rs:.j5)(i:.ek)(h:.dZ k w)(e:inL hd d k=some b)
  (q:Q (.bl<|if f then !b else b) H):rIn K f v w H Q:=by
 dsimp[inL]at e;cases c:kT hd k with
 |none=>rw[c]at e;cases e
 |some l =>
  rw[c]at e;simp only at e;split at e
  ·rename_i a
   cases e;rw[ZZ]at a;obtain⟨p,j,rfl,m,g⟩:=Cm rs.hp h c;refine⟨p,j,rfl,m.imp id SqT.of,Ev i a.1,A0 g a.2,?_⟩;unfold inV;rw[<-Jp i a.1 g a.2];exact q
  ·cases e
def Ew{K:ZX}:Og K oIn (rIn K false):=by
 intro ρ H σd f σ d k v w Q c g a p;unfold oIn at p;cases e:inL f d k with
 |none=>rw[e]at p;exact p.elim
 |some b=>rw[e]at p;exact Jq c g a e (p.here c .iV)
def Ex{K:ZX}:Og K lG (rIn K true):=by
 intro ρ H σd f σ d k v w Q c g a p;unfold lG at p;cases e:inL f d k with
 |none=>rw[e]at p;exact p.elim
 |some b=>rw[e]at p;exact Jq c g a e (p.here c .iV)
def d5:ME X (.UnaryOp .USub (.Constant .v j a) pos) (fC<|.int (-i)) :=
 PE.imp (Wg Ud Mz) λσ H Q ⟨ρ,σd,c,b,p⟩=>⟨i,rfl,p.here b .ac⟩
end
def lc(h:p\/q:=by first|exact .inl rfl|exact .inr rfl):p\/q:=h
def cA.a{own capn:.az}(cp:.kD capn caps)(k:scope.kind=.function:=by rfl)(c:∀y∈scope.names,y.2 ≠ .cell:=by decide +kernel)(n:∀y∈scope.names,y.2=.local->scope.names.lookup y.1=some .local:=by decide +kernel)
  (f:jv X scope.names:=by repeat' (first|exact jv.nil|refine jv.cons (by first|exact(λ_=>.inl rfl)|exact(λ_=>.inr rfl)|(intro z;cases z;done)) ?_)):cA X scope own capn caps:=cA.mk' k c n f cp
section
variable{pos p:Pos}
def ah(hd:.Ej)(g:iz j X.A)(i:MA X (e::a) r)(f:k<=j:=by decide)(l:.ab x:=by rfl)(b:∀ds h d h',F ds h=.ok d h'->ds.length=np:=by exact pY)
  (c:.a4=false:=by decide) (he:starEach (e::a) X.env=(false,.aB X.env)::starEach a X.env:=by rfl) (hpl:(.kC<|.g0 a).any (·.1)=false:=by rfl) :
  ME X (.dR .fV (e::a)) (au F r):=Q3 hd (g.mono f) l i b c he hpl
end
/---/def At(K:ZX)(n:Str)(st:Stmt):Prop:=∃(f:Addr) (od an:.cw) (sl:.fQ) (oc kV dc pm cd ct:S1),.cX n=some .jz/\K.lookup f=some ⟨oc,od,.func (.ip kV dc pm an cd ct),sl⟩/\.iq cd n=true/\.dX .aE=true
/---/def Nb(K:ZX)(n:Str):Prop:=.cX n=some none
structure En(P:N3)(w:N6)(K:ZX)(mg:.aw)(base:Heap):Prop where
 ex:∃h:Heap,K.In h/\h.Ns mainGlobals mg
def At.i{c:.fQ}{d kV dc pm a ct:S1}(h1:.cX n=some .jz)(h:K.lookup f=some ⟨d,b,.func (.ip kV dc pm e a ct),c⟩)(g:.iq a n=true)(i:.vA):.j n st:=⟨f,b,e,c,d,kV,dc,pm,a,ct,h1,h,g,i⟩
def At.out(a:.j n st)(X:K.In h)(G:h.Ns mainGlobals mg):∃f fd,mg n=some .aE/\.dX .aE=true/\Fun K n n st f fd:=by
 obtain⟨f,g,p,j,m,kV,o,l,i,k,c,e,d,b⟩:=a;exact⟨f,_,vy X G c,b,Ci e d b⟩
def At.df(a:.j n st)(q:.mu)(ok:.mm)
  (d:∀(kV b pm:S1) (i:.cw) (c ct:S1) (us:List S1),us.length=ps.length->bindArgs (.ip kV b pm i c ct) ⟨us,[]⟩=pure .jC):.K n k np F:=by
 obtain⟨h,X,G⟩:=q.ex;obtain⟨f,fd,e,g,U⟩:=a.out X G;exact Def.mk' e g (U.binds d) (ok U)
def qv{α:Type}{l:List α}{n:Nat}(h:l.length=n+1):∃a t,l=a::t/\t.length=n:=by
 cases l with
 |nil=>cases h
 |cons a t=>exact⟨a,t,rfl,Nat.succ.inj h⟩
def Jr{α:Type}{l:List α}(h:l.length=0):l=[]:=List.length_eq_zero_iff.mp h
def At.df1(a:.j n st)(q:.mu)(ok:.mm)(i:ps.length=1:=by rfl)
  (e:∀(kV b pm:S1) (d:.cw) (c ct a:S1),bindArgs (.ip kV b pm d c ct) ⟨[a],[]⟩=pure (ps.zip [a]):=by intros;rfl):Def P w K mg base n k np F :=
 a.df q ok λkV b pm d c ct l h=>by obtain⟨a,j,rfl,g⟩:=qv (h.trans i);cases Jr g;exact e kV b pm d c ct a
def At.df2(a:.j n st)(q:.mu)(ok:.mm)(l:ps.length=2:=by rfl)
  (g:∀(kV c pm:S1) (e:.cw) (d ct a b:S1),bindArgs (.ip kV c pm e d ct) ⟨[a,b],[]⟩=pure (ps.zip [a,b]):=by intros;rfl):Def P w K mg base n k np F :=
 a.df q ok λkV c pm e d ct p h=>by obtain⟨a,m,rfl,i⟩:=qv (h.trans l);obtain⟨b,o,rfl,j⟩:=qv (i);cases Jr j;exact g kV c pm e d ct a b
def At.df3(a:.j n st)(q:.mu)(ok:.mm)(l:ps.length=3:=by rfl)
  (i:∀(kV d pm:S1) (g:.cw) (e ct a b c:S1),bindArgs (.ip kV d pm g e ct) ⟨[a,b,c],[]⟩=pure (ps.zip [a,b,c]):=by intros;rfl):Def P w K mg base n k np F :=
 a.df q ok λkV d pm g e ct p h=>by obtain⟨a,s,rfl,o⟩:=qv (h.trans l);obtain⟨b,t,rfl,j⟩:=qv (o);obtain⟨c,r,rfl,m⟩:=qv (j);cases Jr m;exact i kV d pm g e ct a b c
def At.df4(a:.j n st)(q:.mu)(ok:.mm)(m:ps.length=4:=by rfl)
  (j:∀(kV e pm:S1) (i:.cw) (g ct a b c d:S1),bindArgs (.ip kV e pm i g ct) ⟨[a,b,c,d],[]⟩=pure (ps.zip [a,b,c,d]):=by intros;rfl):Def P w K mg base n k np F :=
 a.df q ok λkV e pm i g ct s h=>by obtain⟨a,v,rfl,p⟩:=qv (h.trans m);obtain⟨b,x,rfl,l⟩:=qv (p);obtain⟨c,t,rfl,o⟩:=qv (l);obtain⟨d,u,rfl,r⟩:=qv (o);cases Jr r;exact j kV e pm i g ct a b c d
def fsc{N P:.az}{a:Scope}(h1:a.kind=.function:=by rfl)(f:a.isCoroutine=false:=by rfl)(e:a.isGenerator=false:=by rfl)(g:N.Nodup:=by decide +kernel)(b:N.take P.length=P:=by rfl)(d:∀x∈P,a.names.lookup x=some .local\/a.names.lookup x=some .cell:=by decide +kernel)(c:∀y∈a.names,y.2 ≠ .free:=by decide +kernel):gF N P a:=⟨h1,f,e,g,b,d,c⟩
end Fm
namespace Fm
open PySem PySem.Spec L2 PySem.W PyProof.Rows
def UM(h:l<r):l<=(l+r)/2/\(l+r)/2<r:=by omega
variable{p:.gT}
section
variable{cmp:Nat->Nat->(Bool->P1->Prop)->P1->Prop}{n:Nat}{s:P1}{lt:.qj}
structure Ord(lt:.qj)(n:Nat):Prop where
 asy:∀i j,i<n->j<n->lt i j=true->lt j i=false
 tr:∀i j k,i<n->j<n->k<n->lt i j=true->lt j k=true->lt i k=true
 tot:∀i j,i<n->j<n->i≠j->lt i j=false->lt j i=true
structure Gd(n:Nat)(p:.gT):Prop where
 sz:p.size=n
 pm:p.Perm .t2
def Gd.below{p}(g:Gd n p)(hi:i<n):p.getD i 0<n:=by
 have a:i<p.size:=by rw[g.sz];exact hi
 have e:p.getD i 0=p[i]:=by simp[Array.getD,a]
 rw[e];have m:p[i]∈p.toList:=by simp
 have:=(zYp.mp g.pm).mem_iff.mp m;simpa using this
def Gd.ne{p}(g:Gd n p)(hi:i<n)(c:j<n)(h:i≠j):p.getD i 0≠p.getD j 0:=by
 have b:i<p.size:=by rw[g.sz];exact hi
 have a:j<p.size:=by rw[g.sz];exact c
 have e:p.getD i 0=p[i]:=by simp[Array.getD,b]
 have d:p.getD j 0=p[j]:=by simp[Array.getD,a]
 rw[e,d];have f:p.toList.Nodup:=(zYp.mp g.pm).nodup_iff.mpr (by simpa using List.nodup_range);intro z;have:=(List.getElem_inj f (h₀ := by simpa using b) (h₁ := by simpa using a)).mp (by simpa using z);exact h this
/---/def Srt(lt:.qj)(p:.gT)(m:Nat):Prop:=∀i j,i<j->j<m->lt .jt (p.getD j 0)=true
/---/def Dsc(lt:.qj)(p:.gT)(m:Nat):Prop:=∀i j,i<j->j<m->lt (p.getD j 0) .jt=true
def ku:Gd n .t2:=⟨by simp,Array.Perm.refl _⟩
def Srt.next(O:Ord lt n)(g:Gd n p)(h:Srt lt p m)(h1:1<=m)(hm:m<n)(c:lt .ly .lX=true):Srt lt p (m+1):=by
 intro i j a d
 by_cases e:j<m
 ·exact h i j a e
 ·have:j=m:=by omega
  subst this
  by_cases b:i=j-1
  ·subst b;exact c
  ·exact O.tr _ _ _ .cJ .cJ (g.below hm) (h i (j-1) .b .b) c
def Dsc.next(O:Ord lt n)(g:Gd n p)(h:Dsc lt p m)(h1:1<=m)(hm:m<n)(c:lt .lX .ly=true):Dsc lt p (m+1):=by
 intro i j a d
 by_cases e:j<m
 ·exact h i j a e
 ·have:j=m:=by omega
  subst this
  by_cases b:i=j-1
  ·subst b;exact c
  ·exact O.tr _ _ _ (g.below hm) .cJ .cJ c (h i (j-1) .b .b)
variable(O:Ord lt n)(hc:∀i j,i<n->j<n->∀C:Bool->P1->Prop,C (lt i j) s->cmp i j C s)
include O hc
theorem qM{p:.gT}(g:Gd n p){Q:Nat->P1->Prop}(q:∀m,1<=m->m<=n->Srt lt p m->(m<n->lt .lX .ly=true)->Q m s):
  ∀(f m:Nat),1<=m->m+f=n->Srt lt p m->(kas_asc p f m).kasWp cmp Q s
 |0,m,h1,e,h=>q m h1 .b h λz=>by omega
 |f+1,m,h1,e,h=>by
  refine hc _ _ .cJ .cJ _ ?_;cases c:lt .lX .ly with
  |true=>((try dsimp only);(try rw[zE rfl]));exact q m h1 .b h λ_=>c
  |false =>
   ((try dsimp only);(try rw[zF Z4]))
   have a:=O.tot _ _ .cJ .cJ (g.ne .b .b .b) c;exact qM g q f (m+1) .b .b (h.next O g h1 .b a)
theorem vU{p:.gT}(g:Gd n p){Q:Array Nat × Nat × Nat->P1->Prop}(q:∀m,1<=m->m<=n->Dsc lt p m->Q (p,m,0) s):
  ∀(f m:Nat),1<=m->m+f=n->Dsc lt p m->(kas_desc f p m 0).kasWp cmp Q s
 |0,m,h1,e,h=>q m h1 .b h
 |f+1,m,h1,e,h=>by
  refine hc _ _ .cJ .cJ _ ?_;cases c:lt .lX .ly with
  |true =>
   ((try dsimp only);(try rw[zE rfl]));(try rw[zF .b])
   exact vU g q f (m+1) .b .b (h.next O g h1 .b c)
  |false =>
   ((try dsimp only);(try rw[zF Z4]))
   have a:=O.tot _ _ .cJ .cJ (g.ne .b .b .b) c;refine hc _ _ .cJ .cJ _ ?_;rw[a];((try dsimp only);(try rw[zE rfl]));exact q m h1 .b h
omit hc in
def UN(g:Gd n p)(hm:m<=n)(h:Dsc lt p m):Gd n .uA/\Srt lt .uA m:=by
 have a:∀k,k<m->(.uA).getD k 0=p.getD (m-1-k) 0:=λk b=>by
  have e:=getElem?_mirror_all (i:=0) (by rw[g.sz];exact hm) k;rw[zE ⟨YH _,b⟩]at e;unfold kas_rev;rw[Array.getD_eq_getD_getElem?,Array.getD_eq_getD_getElem?,e,wK]
 refine⟨⟨by unfold kas_rev;rw[mirror_size,g.sz],(mirror_perm _ _ _ _).trans g.pm⟩,λi j d c=>?_⟩;rw[a i .b,a j c];exact h _ _ .b .b
def Ct(x:2<=n)(q:∀m p,Gd n p->1<=m->m<=n->Srt lt p m->Q (m,p) s):(kas_count n .t2).kasWp cmp Q s:=by
 unfold kas_count;rw[zXg];refine qM O hc ku (λm b g a u=>?_) (n-1) 1 .B .b (λi j f d=>by omega)
 by_cases e:m=n
 ·subst e
  rw[zE .f];exact q m _ ku b .B a
 ·rw[zF .fw]
  by_cases r:m>1
  ·rw[zE r]
   refine hc _ _ (ku.below .b) (ku.below .b) _ ?_;have:=a 0 (m-1) .b .b;rw[this];((try dsimp only);(try rw[zE rfl]));exact q m _ ku b g a
  ·rw[zF r]
   have:m=1:=by omega
   subst this;have c:=u .b;unfold kas_descPart;rw[zXg];refine vU O hc ku (λm b g a=>?_) (n-2) 2 .b .b (λi j f d=>?_)
   ·rw[zF .f]
    unfold kas_tail3;rw[zXg];obtain⟨o,w⟩:=UN O ku g a;exact qM O hc o (λv h l k _=>q v _ o h l k) (n-m) m b .b w
   ·have t:i=0:=by omega
    have d:j=1:=by omega
    subst t d;exact c
theorem nG{p:.gT}(g:Gd n p){k:Nat}(h:k<n)(v:Srt lt p k){Q:Nat->P1->Prop}(q:∀l,l<=k->(∀i,i<l->lt .jt .lY=true)->(∀i,l<=i->i<k->lt .lY .jt=true)->Q l s):
  ∀(f l r:Nat),r-l<=f->l<=r->r<=k->(∀i,i<l->lt .jt .lY=true)->(∀i,r<=i->i<k->lt .lY .jt=true)->(kas_place p k f l r).kasWp cmp Q s
 |0,l,r,t,w,o,a,b=>q l (ZM w o) a λi h1 m=>b i (ZM (Nat.le_of_sub_eq_zero<|Nat.le_zero.mp t) h1) m
 |f+1,l,r,t,w,o,a,b=>by
  unfold kas_place
  by_cases e:l≥r
  ·rw[zE e]
   exact q l (ZM w o) a λi h1 m=>b i (ZM e h1) m
  ·rw[zF e]
   have A:l<r:=Nat.not_le.mp e;have j:=UM A;generalize (l+r)/2=M at j;have u:M<k:=ZY j.2 o;have d:M<n:=Z1 u h;refine hc _ _ .pk .pl _ ?_;cases c:lt .lY (p.getD M 0) with
   |true =>
    ((try dsimp only);(try rw[zE rfl]))
    refine nG g h v q f l M (Y3<|ZY (Nat.sub_lt_sub_right j.1 j.2) t) j.1 (YB u) a λi h1 m=>?_
    by_cases z:i=M
    ·subst z;exact c
    ·exact O.tr _ _ _ .pk .pl (g.below<|Z1 m h) c (v _ i (yb h1<|wh z) m)
   |false =>
    ((try dsimp only);(try rw[zF Z4]))
    have y:=O.tot _ _ .pk .pl (g.ne h d<|Z9 u) c;refine nG g h v q f (M+1) r (Y3<|ZY (Nat.sub_lt_sub_left A<|Nat.lt_succ_of_le j.1) t) j.2 o (λi h1=>?_) b
    by_cases z:i=M
    ·subst z;exact y
    ·have x:i<M:=yb (Y3 h1) z
     exact O.tr _ _ _ (g.below<|Z1 x d) .pl .pk (v i _ x u) y
theorem xY(q:.EE):∀(f:Nat) (p:.gT) (k:Nat),Gd n p->k+f=n->Srt lt p k->(kas_bin f p k).kasWp cmp Q s
 |0,p,k,g,e,h=>by
  have:k=n:=e;subst this;exact q p g h
 |f+1,p,k,g,e,h=>by
  unfold kas_bin;rw[zXg];have y:k<n:=e▸Nat.lt_add_of_pos_right (Nat.succ_pos f);refine nG O hc g y h (λl B a b=>?_) k 0 k .B .dM .B (λi z=>.f0 (va _)) (λi z E=>absurd E (zZy.mpr z));have w:k<p.size:=by rw[g.sz];exact y
  have t:∀i,(bubble p k (k-l)).getD i 0=if i=l then p.getD k 0 else if l<i/\i<=k then p.getD (i-1) 0 else p.getD i 0:=λi=>by
   have:=getElem?_bubble w (k-l) (Nat.sub_le _ _) i;rw[Nat.sub_sub_self B]at this;simp;rw[this]
   by_cases m:i=l
   ·rw[zE m,zE m]
   ·rw[zF m,zF m]
    by_cases d:l<i/\i<=k
    ·rw[zE d,zE d]
    ·rw[zF d,zF d]
  refine xY q f _ (k+1) ⟨by rw[bubble_size,g.sz],(bubble_perm _ _ _).trans g.pm⟩ (by rw[Nat.add_right_comm];exact e) λi j c C=>?_;have r:j<=k:=Y3 C;have v:j-1<k:=Nat.sub_one_lt_of_le (Nat.zero_lt_of_lt c) r;rw[t i,t j]
  by_cases m:i=l
  ·have o:l<j:=m▸c
   rw[zE m,zF (Z9 o),zE ⟨o,r⟩];exact b _ (Nat.le_sub_one_of_lt o) v
  ·rw[zF m]
   by_cases d:l<i/\i<=k
   ·have o:l<j:=Z1 d.1 c
    rw[zE d,zF (Z9 o),zE ⟨o,r⟩];exact h _ _ (Nat.sub_lt_sub_right (Nat.zero_lt_of_lt d.1) c) v
   ·rw[zF d]
    have A:i<l:=yb (zZy.mp λz=>d ⟨z,ZM (YB c) r⟩) m
    by_cases x:j=l
    ·rw[zE x];exact a _ A
    ·rw[zF x]
     by_cases u:l<j/\j<=k
     ·rw[zE u]
      exact h _ _ (ZY A<|Nat.le_sub_one_of_lt u.1) v
     ·rw[zF u]
      have D:j<l:=yb (zZy.mp λz=>u ⟨z,r⟩) x;exact h _ _ c (ZY D B)
def Ey(b:2<=n)(q:.EE):(kas_sort n).kasWp cmp Q s:=by
 unfold kas_sort;rw[zXg];refine Ct O hc b λm p g d c a=>?_
 by_cases e:m<n
 ·rw[zE e]
  have:max m 1=m:=by omega
  rw[this];exact xY O hc q (n-m) p m g .b a
 ·rw[zF e]
  have:m=n:=by omega
  subst this;exact q p g a
end
section
variable{X:Cx}{pos p:Pos}
theorem fD.rds{K:ZX}:∀{vs:List V} {rs:.aK},fD H vs rs->.aT (rs.map B4) vs
 |_,_,.nil=>RDs.nil
 |_,_,.cons (a:=a) (r:=r) h t=>by
  refine RDs.cons ?_ (fD.rds t);unfold B4;dsimp[RD];refine⟨a,_,rfl,h,?_⟩;clear h
  induction r with
  |nil=>exact RDs.nil
  |cons x r b=>exact .kw b
theorem fD.pick(h:fD H vs rs):∀(l:.m),(∀i∈l,i<vs.length)->fD H .BI (l.map λi=>rs.getD i [])
 |[],_=>.nil
 |i::l,b=>by
  have hi:i<vs.length:=b i .f;obtain⟨a,e,d⟩:=h.get (i:=i) (v:=vs[i]) (by simp[hi]);have t:=fD.pick h l λj c=>b j .hQ;have:vs.getD i .non=.ref a:=by simp[List.getD,hi,e]
  dsimp[z5,this];exact .cons d t
theorem bM.pick(h:bM vs us):∀(l:.m),(∀i∈l,i<vs.length)->bM .BI (l.map λi=>us.getD i Value.none)
 |[],_=>.nil
 |i::l,a=>by
  have hi:i<vs.length:=a i .f;obtain⟨u,e,b⟩:=h.get (i:=i) (x:=vs[i]) (by simp[hi]);have t:=bM.pick h l λj c=>a j .hQ;simp;refine .cons ?_ t;simp[List.getD,hi,e];exact b
end
variable{K:ZX}
section
variable{X:Cx}{pos p:Pos}
def UO:Og K GO .y4:=Ei λi j h=>YD h
def Rc(h:0<=i):Builtin.bitAnd i 1=i%2:=by
 unfold Builtin.bitAnd;rw[z3 h];show ((i.toNat &&& 1:Nat):Int)=i%2;rw[Nat.and_one_is_mod];omega
theorem RDs.rep{K:ZX}(r:.fP):∀k,RDs K ρ H (.ce k l).flatten (.ce k vs).flatten
 |0=>RDs.nil
 |k+1=>by
  rw[Y0,Y0,W2,W2];exact RDs.append r (RDs.rep r k)
end
section
variable{K:ZX}{ρ:.U}{H:Hp}{hd:Hd}
def RH.allocD(r:.bh){p:Addr}(hp:RC K ρ H .ii p)(hn:p∉ρ):RH K .hY H (hd++[.dct l]):=by
 have k:.c1 .hY H:=⟨λn a e=>by rw[ZC (.cN).1];exact e,λ_ _ h=>h,λ_ _ _ h=>h,λ_ _ h=>h⟩;refine⟨by simp[r.len],?_,λn c a d f=>?_⟩
 ·rw[zYl]
  exact⟨r.nd,by simp,λa m b i=>by simp at i;subst i;intro e;subst e;exact hn m⟩
 ·by_cases hlt:n<hd.length
  ·rw[ZC hlt]at d
   rw[ZC .s0]at f;exact(r.cel n c a d f).mono k rfl
  ·have j:n=hd.length:=by
    have:=(zA.mp d).1;simp at this;omega
   subst j;simp at d;subst d;rw[<-r.len]at f;simp at f;subst f;obtain⟨g,q1,q2,q3⟩:=hp;exact⟨g,q1,q2,q3.mono k⟩
def RH.writeD(r:.bh){p:Addr}{l:.en}{b:.em}(hp:ρ[n]?=some p)(hn:n<hd.length)(h1:b.map (·.1)=l.map .fm)(f:.aT .eZ (b.map (·.2))):RH K ρ (.cg .gL) (hd.set n .ii):=by
 have k:.c1 ρ (.cg .gL):=by
  have d:=ZK hp;refine⟨λ_ _ h=>h,λa g e=>?_,λa o u e=>?_,λa i e=>?_⟩
  ·rw[bi (λz=>r.noTup e .tW)];exact e
  ·rw[bi (λz=>r.noFrz e .tW)];exact e
  ·rw[bi (λz=>r.noExt e .tW)];exact e
 refine⟨by simp[r.len],r.nd,λm c a q1 q2=>?_⟩
 by_cases e:n=m
 ·subst e
  rw[wJ hn]at q1;cases q1;rw[hp]at q2;cases q2;exact⟨b,bN,h1,f.mono k⟩
 ·rw[ZP e]at q1
  have ne:a≠p:=λz=>by
   subst z;exact e (rT r.nd hp q2)
  exact(r.cel m c a q1 q2).mono k (bi ne)
theorem Ez(k:Int):∀{l:.en} {a:.em},a.map (·.1)=l.map .fm->RDs K ρ H .eZ .qE->
  (xF l k=none/\oN a .jF=none)\/∃d v,xF l k=some d/\oN a .jF=some v/\.dZ d v
 |[],[],_,_=>.inl ⟨rfl,rfl⟩
 |[],_::_,h,_=>by simp at h
 |_::_,[],h,_=>by simp at h
 |(j,d)::l,(o,v)::a,h1,b=>by
  dsimp[z5,List.cons.injEq]at h1;dsimp[z5,RDs]at b;obtain⟨n,q,e,q1,q2⟩:=b;cases e;obtain⟨i,c⟩:=h1;subst i
  by_cases e:j=k
  ·subst e
   exact .inr ⟨d,v,by simp[xF],by simp[oN],q1⟩
  ·have f:=Ez k c q2
   have m:xF ((j,d)::l) k=xF l k:=by simp[xF,e]
   have g:oN ((Sum.inl j,v)::a) .jF=oN a .jF:=r6 (λz=>e (by cases z;rfl));rw[m,g];exact f
theorem EA(k:Int):∀{l:.en} {a:.em},a.map (·.1)=l.map .fm->(a.any λc=>decide (c.1=(Sum.inl k:Key)))=l.any λp=>decide (p.1=k)
 |[],[],_=>rfl
 |[],_::_,h=>by simp at h
 |_::_,[],h=>by simp at h
 |(j,d)::l,(f,v)::a,h1=>by
  dsimp[z5,List.cons.injEq]at h1;obtain⟨e,b⟩:=h1;subst e;simp[EA k b]
theorem EB(k:Int){f:D}{c:V}(i:.dZ f c):∀{l:.en} {a:.em},a.map (·.1)=l.map .fm->RDs K ρ H .eZ .qE->
  (.ya).map (·.1)=(.zk).map .fm/\.aT ((.zk).map (·.2)) ((.ya).map (·.2))
 |[],[],_,_=>⟨rfl,RDs.nil⟩
 |[],_::_,h,_=>by simp at h
 |_::_,[],h,_=>by simp at h
 |(j,d)::l,(t,v)::a,h1,n=>by
  dsimp[z5,List.cons.injEq]at h1;dsimp[z5,RDs]at n;obtain⟨s,u,e,q1,q2⟩:=n;cases e;obtain⟨r,o⟩:=h1;subst r;obtain⟨g,m⟩:=EB k i o q2
  by_cases e:j=k
  ·subst e
   dsimp[z5,Y5];exact⟨by rw[g],RDs.cons i m⟩
  ·have q:¬(Sum.inl j:Key)=Sum.inl k:=λz=>e (by cases z;rfl)
   dsimp[z5,zF e,zF q];exact⟨by rw[g],RDs.cons q1 m⟩
def NG(k:Int)(d:.dZ c b){l:.en}{a:.em}(h1:a.map (·.1)=l.map .fm)(e:.aT .eZ .qE):
  (qL a .jF b).map (·.1)=(GP l k c).map .fm/\.aT ((GP l k c).map (·.2)) ((qL a .jF b).map (·.2)):=by
 unfold qL GP;rw[EA k h1];split
 ·exact EB k d h1 e
 ·refine⟨by simp[h1],?_⟩
  rw[ZR,ZR];exact RDs.append e (.kq d)
end
section
variable{X:Cx}{pos p:Pos}
def Re:.i (.Dict [] [] pos) Ja:=by
 refine PE.imp ND λσ H Q ⟨ρ,σd,h,a,g⟩=>λq b=>?_;have e:=c6 (o:=HO.dK []) b;have f:=a.hp.free b;have d:=(a.hp.same e).allocD (l:=[]) ⟨[],bN,rfl,RDs.nil⟩ f;have c:.g7 (ρ++[q]) (.a2 q<|.dK []):=Ext.alloc b;refine cm.at g c (a.ext c d) ?_;dsimp[rD,RD];refine⟨q,?_,rfl⟩;rw[<-a.hp.len];simp
/---/def WD(K:ZX):R2:=λx y H Q=>∃a o,y=.ref a/\NA H a x o/\Q (.bl o.isSome) H
def UP(d:.vR):.Y .uD (WD X.K):=by
 intro pins s σ H x y v u Q I e c h;obtain⟨a,o,rfl,g,q⟩:=h;obtain rfl:u=Value.ref a:=c;exact X8 d I g e λf b=>⟨.bl o.isSome,H,b,rfl,q⟩
def UQ:Og K Mw (WD K):=by
 intro ρ H σd q σ d k v w Q m o g b;cases d<;>try exact b.elim
 cases k<;>try exact b.elim
 rename_i i n
 dsimp[Mw]at b;dsimp[RD]at o g;subst o;obtain⟨a,r,rfl⟩:=g;cases c:q[n]? with
 |none=>rw[c]at b;exact b.elim
 |some cell =>
  rw[c]at b;cases cell with
  |lst l=>exact b.elim
  |dcT _=>exact b.elim
  |ob _=>exact b.elim
  |dct l =>
   simp only at b;obtain⟨f,q1,q2,q3⟩:=m.hp.cel n _ a c r;refine⟨a,oN f (Sum.inl i),rfl,NA.k (k:=Sum.inl i) q1,?_⟩;have e:(oN f<|Sum.inl i).isSome=(xF l i).isSome:=by
    rcases Ez i q2 q3 with ⟨j,h⟩|⟨d,v,j,h,_⟩<;>rw[j,h]<;>rfl
   rw[e];exact b.here m .ac
/---/def WE:V->V->V->Hp->(Hp->Prop)->Prop:=λo i v H Q=>∃a H',o=.ref a/\NB H a i v H'/\Q H'
def NJ(c:.vR):T3 X WE:=by
 intro pins s σ H o i v ov l u Q I e f j h;obtain⟨a,b,rfl,g,q⟩:=h;obtain rfl:ov=Value.ref a:=e;exact KO c I g f j λk d=>⟨b,d,q⟩
def Js(W:.vR)(he:.i e I)(V:.i o F)(hi:.i i C)(N:swapsWithSole .hz e pos.line X.env=pure false:=by rfl)(hw:swappedStores .hz e X.env=pure none:=by rfl)
  (h1:(.Dg).map (·.2)=.Ar:=by rfl) (u:∀v,assign (.Subscript o i f) X.env v=(do
   let ov <-holding [v] .c8
   let z <-holding [v,ov] .uQ
   standAt f
   holding [v,ov,z] (setItem ov z v)
   release [v,ov,z] []):=by intro _;rfl):MS X (.g1 .hz) (D4 F C I):=by
 refine PS.imp (GR he (MM V hi (NJ W) u) N hw h1) λEn σ H ⟨ρ,σd,S,T,p⟩=>⟨ρ,σd,S,T,(.gv).imp λv H1 ⟨B,d,A,e1,q,U,K⟩=>?_⟩;refine⟨B,σd,A,q,(du.outE K).imp λvo H2 ⟨y,dO,w,P,m,M,f⟩=>?_⟩;refine⟨y,σd,w,m,(du.outE f).imp λvi D ⟨g,Z,s,G,h,J,b⟩=>?_⟩;have x:=(U.mono<|q.hp.kp P).mono (m.hp.kp G);have r:=M.mono (m.hp.kp G);cases dO with
 |ref n =>
  cases Z with
  |int j =>
   simp only at b;cases c:s[n]? with
   |none=>rw[c]at b;exact b.elim
   |some cell =>
    rw[c]at b;cases cell with
    |lst l=>exact b.elim
    |dcT _=>exact b.elim
    |ob _=>exact b.elim
    |dct l =>
     simp only at b;split at b
     ·rename_i L
      dsimp[RD]at r J;subst J;obtain⟨a,u,rfl⟩:=r;obtain⟨t,q1,q2,q3⟩:=h.hp.cel n _ a c u;have O:t.length=l.length:=by have:=congrArg List.length q2;simpa using this
      refine⟨a,_,rfl,NB.k (k:=Sum.inl j) q1 (by rw[O];exact ZY L .lr),?_⟩;have R:n<s.length:=(.gE).1;obtain⟨Q,Y⟩:=NG j x q2 q3;have rh:=h.hp.writeD u R Q Y;have E:Ext g D g (upd D a<|.dK<|qL t (Sum.inl j) v):=Ext.write (ZK u);exact b σ _ g E (h.ext E rh)
     ·exact b.elim
  |_=>exact b.elim
 |_=>exact b.elim
end
variable{H:Hp}
section
variable{X:Cx}{pos p:Pos}
theorem A1{H:Hp}(hok:.cP)(f:∀b o xs,H b=some .dc->h.get? b=some o->h'.get? b=some o):∀{vs:List V} {rs:.aK} {c:List S1},fD H vs rs->bM vs c->.CG=true->
  ∃e,KatTups h' c e/\e.length=c.length/\∀v∈e,∃i t,v=Value.int i t
 |_,_,_,.nil,.nil,_=>⟨[],.nil,rfl,λv d=>by simp at d⟩
 |_,_,_,.cons (a:=a) (r:=r) k t,.cons C rt,hne=>by
  dsimp[zZx,ZZ,Bool.not_eq_true']at hne;obtain⟨e,h1,A,y⟩:=A1 hok f t rt hne.2;obtain⟨z,g,s,o,m,q,n,B⟩:=hok a _ k;cases r with
  |nil=>simp at hne
  |cons i r =>
   cases s with
   |cons l E =>
    rename_i u D
    obtain⟨j,rfl⟩:=Jo l;cases C;refine⟨.int i j::e,KatTups.cons (f a o _ k m) q B .f h1,by simp[A],λv d=>?_⟩;rcases y6.mp d with rfl|d
    ·exact⟨i,j,rfl⟩
    ·exact y v d
def UR{σ:L2.St}(I:.x)(G:H B=some .hT)(b9:vs.length<64)(rv:fD H vs rs)(nd:rs.Nodup)(b6:.CG=true)
  (q:∀d s',fD H d (fI rs)->Inv X pins σ .tM s'->Q .none s'):wpAny .aq A (call (.dm "list.sort") [.ref B]) Q E s:=by
 obtain⟨hz,a,n0,W,ho⟩:=I.hok B _ G;have N:a.length=vs.length:=W.length.symm;obtain⟨m,hm,_⟩:=id I.loc;have nL:∀b u,H b=some u->b≠X.env.locals:=λb u e z=>by rw[z,I.free]at e;cases e
 have BL:=nL B _ G;have a5:∀d,d=vs->.a2 B (.lst d)=H:=λd e=>by
  subst e;funext b
  by_cases z:b=B
  ·subst z;rw[bN,G]
  ·rw[bi z]
 have after:∀(L:Heap) (f:List S1) (d:List V) (c t':Nat),fD H d (fI rs)->bM d f->d.length<=sizeLine->L.get? B=some .Bz->(∀b o,b≠X.env.locals->b≠B->s.heap.get? b=some o->L.get? b=some o)->L.Ns X.env.locals m->Inv X pins σ .tM { s with heap:=L,toks:=t' }:=λL f d c t' a3 S a2 a7 l a0=>by
  have I2:L2.Inv X pins σ .tM { s with heap:=L,gens:=s.gens,drawn:=s.drawn,toks:=t' }:=by
   refine I.step (ch:=[]) .fv (λb o D _ _ e n=>l b o D .se e) (λb o D _ _ e n=>⟨o.slots,l b o D .se e⟩) (λb o _ e n=>by rw[bi .se];exact n) (λb o _ e=>?_)
    (λb ys e=>by rw[bi .sf];exact e) (λb o u e=>by rw[bi .sf];exact e) (λb ps e=>⟨#[],by rw[bi .sf,e];simp⟩) (λm' b7=>by rw[UK b7 hm];exact a0) (λb u e=>?_) I.bare
   ·by_cases D:b=X.env.locals
    ·obtain⟨o',_,_,Z,_⟩:=a0
     rw[D];exact⟨o',Z⟩
    ·by_cases F:b=B
     ·subst F;exact⟨_,a7⟩
     ·exact⟨o,l b o D F e⟩
   ·by_cases D:b=B
    ·subst D
     rw[bN]at e;cases e;exact⟨a2,f,c,S,a7⟩
    ·rw[bi D]at e
     refine (.o2).stay (λc v hc z=>?_) (λc z=>by rw[bi .z9];exact z) λc ys z=>by rw[bi .z9];exact z
     rcases hc with w|w
     ·subst w;exact l c v (nL c _ e) D z
     ·exact l c v (nL c _ w) (λy=>by subst y;rw[G]at w;cases w) z
  exact I2
 by_cases L:a.length<2
 ·have hs:fI rs=rs:=by
   have:rs.length<2:=by rw[<-rv.length];omega
   match rs,this with
   |[],_=>rfl
   |[_],_=>rfl
  have ha:B<s.heap.objs.size:=ZI ho;have Z:s.heap.get? B=some (seqObj "list" a.toArray n0):=ho;refine yo slot_list_sort ⟨_,ho,rfl⟩ entry_list_sort (He Z L ⟨_,rfl,?_⟩) (args_list_sort _);obtain⟨e1,b4⟩:∃e1,(.DB).get? B=some .Dz:=⟨_,get?_update_seq Z (λ_=>#[])⟩;have b8:(((.DB).push (seqObj "tuple" a.toArray 0)).push .D6).get? B=some .Dz:=by
   rw[zZw _ _ _ (by rw[size_push',zYc];exact ZN (Z2 ha)),zZw _ _ _ (by rw[zYc];exact ZN ha)];exact b4
  have Y:∀b o,b≠B->s.heap.get? b=some o->(.At).get? b=some o:=λb o D e=>by
   have a9:b<s.heap.objs.size:=ZI e;unfold sortedHeap;rw[Heap.get?_update_ne _ _ _ _ D,zZw _ _ _ (by rw[size_push',zYc];exact ZN (Z2 a9)),zZw _ _ _ (by rw[zYc];exact ZN a9),Heap.get?_update_ne _ _ _ _ D];exact e
  have a0:(.At).Ns X.env.locals m:=by
   obtain⟨o',es,ep,h1,r⟩:=hm;exact⟨o',es,ep,Y _ _ (wh BL) h1,r⟩
  refine q vs _ (by rw[hs];exact rv) (after _ a vs _ s.toks (by rw[hs];exact rv) W hz (get?_update_seq b8 _) (λb o _ D e=>Y b o D e) a0)
 ·have N0:News (Att.noObjs s.heap) X.env.locals s.heap ((B,PySem.W.listOf a.toArray n0)::Att.ledger s.heap X.env.locals B):=λ⟨b,o⟩ D=>by
   rcases y6.mp D with e|D
   ·cases e
    exact⟨ho,BL,Att.noObjs_get _ _⟩
   ·obtain⟨n1,n2,e⟩:=Att.mem_ledger.mp D
    exact⟨e,n1,Att.noObjs_get _ _⟩
  have a8:∀q∈Att.ledger s.heap X.env.locals B,q.1≠B:=λ⟨b,o⟩ hq=>(Att.mem_ledger.mp hq).2.1;refine kat_lsort (vs:=a) (Att.fr_all hm) N0 (UpdF.head a8) .f .b .b λe1 h' F' N'=>?_;have a4:∀b o,b≠X.env.locals->b≠B->s.heap.get? b=some o->(b,o)∈Att.ledger s.heap X.env.locals B:=λb o D F e=>Att.mem_ledger.mpr ⟨D,F,e⟩;have U:∀b o,b≠X.env.locals->b≠B->s.heap.get? b=some o->h'.get? b=some o:=λb o D F e=>(N' (b,o)<|ZW _<|a4 b o D F e).1;obtain⟨fs,t1,t2,t3⟩:=A1 I.hok (λb o xs D e=>U b o (nL b _ D) (λz=>by subst z;rw[G]at D;cases D) e) rv W b6;refine kat_kind (T:=.type "int") t1 .b (λv hv=>?_) rfl ?_
  ·obtain⟨i,t,rfl⟩:=t3 v hv
   exact Looks.of_pure rfl
  ·have hT:(Value.type "int" != Value.type "tuple")=true:=by decide
   rw[hT];have c0:rs.length=a.length:=by rw[<-rv.length,N]
   have b3:∀i j,i<a.length->j<a.length->i≠j->rs.getD i []≠rs.getD j []:=λi j K hj M z=>by
    have e1:rs.getD i []=rs[i]' .b:=by simp[List.getD,show i<rs.length by omega]
    have e2:rs.getD j []=rs[j]' .b:=by simp[List.getD,show j<rs.length by omega]
    rw[e1,e2]at z;exact M ((List.getElem_inj nd).mp z)
   have O:Ord (λi j=>Fm.lexLt .oO (rs.getD j [])) a.length:=⟨λi j _ _ h=>oO h,λi j k _ _ _ h h'=>kU h h',λi j K hj M h=>pU (b3 i j K hj M) h⟩;refine Ey O (λi j K hj C hC=>?_) .b λJ g b5=>?_
   ·unfold kas_ask
    have a6:∀i,i<a.length->∃b,a.getD i Value.none=.ref b/\∃(o:Obj) (zs:List S1) (n:Nat),h'.get? b=some o/\o.data=.seq zs.toArray n/\IntsAre zs .oO:=λi K=>by
     have hv:vs[i]?=some (vs[i]' .b):=by simp[show i<vs.length by omega]
     obtain⟨b,e1,e2⟩:=rv.get hv;obtain⟨u,hu,ru⟩:=W.get hv;rw[e1]at ru;cases (show u=Value.ref b from ru);obtain⟨z,zs,r0,o,ho,hc,n,hd⟩:=I.hok b _ e2;exact⟨b,by simp[List.getD,hu],o,zs,n,U b o (nL b _ e2) (λz=>by subst z;rw[G]at e2;cases e2) ho,hd,qI r0⟩
    obtain⟨b1,x1,o1,z1,n1,y1,d1,i1⟩:=a6 i K;obtain⟨b2,x2,o2,z2,n2,y2,d2,i2⟩:=a6 j hj;rw[x1,x2];refine kat_lt (s:=.dB) y1 d1 y2 d2 ?_;have:=UJ (prog:=X.prog) (w:=X.w) (A:=A.in1) (s:=.dB) (Q:=C) .oO (rs.getD j []) 0 i1 i2 hC;simpa using this
   ·have a1:J.toList.Perm (.bY a.length):=by simpa using zYp.mp g.pm
    have inR:∀i∈J.toList,i<vs.length:=λi K=>by
     have:=a1.mem_iff.mp K;rw[<-N];simpa using this
    obtain⟨d,P⟩:=q0 (J.toList.map λi=>vs.getD i .non);obtain⟨f,R⟩:=q0 (J.toList.map λi=>a.getD i Value.none);have a3:fD H d (fI rs):=by
     have e:(J.toList.map λi=>rs.getD i [])=fI rs:=by
      refine Kq (?_:List.Perm _ _) ?_ (oP nd)
      ·refine((a1.map λi=>rs.getD i []).trans ?_).trans (lH rs).symm
       have:((.bY a.length).map λi=>rs.getD i [])=rs:=by
        apply VM;intro i
        by_cases K:i<rs.length
        ·have:i<a.length:=by omega
         simp[List.getD,K,this]
        ·have:¬i<a.length:=by omega
         simp[K,this]
       rw[this]
      ·rw[Y4]
       rw[zYz];intro i j K hj M;have s1:=b5 i j M (by rw[<-g.sz];simpa using hj);have g1:J.getD i 0=J.toList[i]:=by simp[Array.getD,show i<J.size by simpa using K]
       have g2:J.getD j 0=J.toList[j]:=by simp[Array.getD,show j<J.size by simpa using hj]
       rw[g1,g2]at s1;exact s1
     have:=rv.pick J.toList inR;rw[e,<-P]at this;exact this
    have S:bM d f:=by rw[P,R];exact bM.pick W J.toList inR
    have a2:d.length<=sizeLine:=by
     have l1:d.length=a.length:=by rw[P,ZA,a1.length_eq,ZO]
     rw[l1,N];exact hz
    rw[<-R];refine KasFin.intro F' N' (UpdF.head a8) λL c F2 N2=>?_;have b0:L.get? B=some .Bz:=(N2 (B,_)<|ZV ..).1;have l:∀b o,b≠X.env.locals->b≠B->s.heap.get? b=some o->L.get? b=some o:=λb o D F e=>(N2 (b,o)<|ZW _<|a4 b o D F e).1;exact q d _ a3 (after L f d c s.toks a3 S a2 b0 l F2.ns)
end
section
variable{X:Cx}{pos p:Pos}
/---/def Cu(p d:Addr):Heap->Prop:=λh=>h.get? p=some { cls:=.type "dict_items",data:=.fields #[.ref d] }
/---/def US(td:TE):TE:=λσ H Q=>td σ H λx H1=>∃a kvs,x=.ref a/\H1 a=some .l0/\∀p,H1 p=none->.d1 (upd H1 p<|.ext<|Cu p a)
def NK{apos c:Pos}(t:.D o l)(d:.e8 "items" X.env .c8=eval o X.env:=by rfl)(g:(apos.endLine == c.line)=true:=by rfl):
  PE X (.Call (.dS "items") [] [] c) (US l):=by
 intro pins s σ H Q I h;refine wpAny_Call_method0_late d g (thn (t pins s σ H _ I h) λv n ⟨x,C,i,r,a,j,w,e,q1⟩=>?_);subst w;obtain rfl:v=Value.ref a:=r;obtain⟨m,A,E⟩:=UI i (.inl ⟨j,.inl e⟩);obtain⟨_,z,y,_,u⟩:=Ny i.hok e;refine⟨"dict","dict.items",PySem.F.plainAttrs_dict,PySem.F.slot_dict_items,PySem.F.type_dict_items,m,A,Calls.callWith_builtin rfl (PySem.evalArgs_none ?_)⟩;refine call_meetsIn PySem.F.slot_dict_items m PySem.F.entry_dict_items (PySem.F.args_dict_items_1 _) (meets_dict_items (fX X.prog X.w) a z) ⟨⟨y,u⟩,?_⟩;refine⟨.ref n.heap.objs.size,_,i.laid (o:=.ext (Cu n.heap.objs.size a)) (λb F q=>.aa q) .B ⟨ZJ _ rfl,⟨_,ZJ _ rfl⟩,λB D f k=>k _ f⟩,rfl,q1 _ (i.hok.fresh .B)⟩
def NM{σ:L2.St}{d:Hp}{s:P1}{h':Heap}{t':Nat}(I:.x)(keep:∀b o,s.heap.get? b=some o->h'.get? b=some o)(f:lK H d)(a:∀b,b<s.heap.objs.size->d b=H b)(new:∀b u,s.heap.objs.size<=b->d b=some u->gM X.prog X.w d h' b u/\∀c,u ≠ .own c):.bE d .ga:=by
 have t:L2.Inv X pins σ d { s with heap:=h',gens:=s.gens,drawn:=s.drawn,toks:=t' }:=by
  refine I.step (ch:=[]) .fv (λb o _ _ _ e _=>keep b o e) (λb o _ _ _ e _=>⟨o.slots,keep b o e⟩) (λb o _ e n=>by rw[a b (ZI e)];exact n) (λb o _ e=>⟨o,keep b o e⟩)
   (λb l e=>f _ _ e) (λb o u e=>f _ _ e) (λb w e=>⟨#[],by rw[f _ _ e];simp⟩) (λm q=>?_) (λb u e=>?_) I.bare
  ·obtain⟨i,j,h,k,r⟩:=q
   exact⟨i,j,h,keep _ _ k,r⟩
  ·by_cases g:b<s.heap.objs.size
   ·rw[a b g]at e
    refine (.o2).stay (λc v x z=>keep c v z) (λc z=>f _ _ z) λc l z=>f _ _ z
   ·exact(new b u (zYb g) e).1
 exact t
def ov:List Addr->List .aW->Hp->Hp
 |a::as,r::rs,H=>upd (ov as rs H) a (.tup .oY)
 |_,_,H=>H
theorem Jt{H:Hp}:∀{c:.U} {rs:.aK},b∉c->ov c rs H b=H b
 |[],_,_=>rfl
 |a::c,[],_=>rfl
 |a::c,r::rs,h=>by
  have h1:b≠a:=λz=>h .lx;have d:b∉c:=λz=>h .lx;show upd _ _ _ b=_;rw[bi h1,Jt d]
theorem NN{H:Hp}:∀{c:.U} {rs:.aK} {j:Nat} {a:Addr} {r:.c},c.Nodup->c[j]?=some a->rs[j]?=some r->ov c rs H a=some (.tup .oY)
 |[],_,_,_,_,_,e,_=>by simp at e
 |a::c,[],_,_,_,_,_,e=>by simp at e
 |a::c,r::rs,0,_,_,_,e,d=>by simp at e d;subst e d;exact bN
 |a::c,r::rs,j+1,b,q,nd,e,d=>by
  obtain⟨n1,f⟩:=YW.mp nd;have e:c[j]?=some b:=by simpa using e
  have g:b≠a:=λz=>n1 (by rw[<-z];exact ZK e);show upd _ _ _ b=_;rw[bi g];exact NN f e (by simpa using d)
theorem fD.mono{H b:Hp}(k:∀a xs,H a=some .dc->b a=some .dc):∀{vs:List V} {rs:.aK},fD H vs rs->fD b vs rs
 |_,_,.nil=>.nil
 |_,_,.cons h t=>.cons (k _ _ h) (fD.mono k t)
theorem Ju:∀{c:.U} {rs:.aK},c.length=rs.length->(∀(j:Nat) a r,c[j]?=some a->rs[j]?=some r->d a=some (.tup .oY))->fD d (c.map V.ref) rs
 |[],[],_,_=>.nil
 |[],_::_,h,_=>by simp at h
 |_::_,[],h,_=>by simp at h
 |a::c,r::rs,h,f=>.cons (f 0 a r rfl rfl) (Ju .oo λj b q e g=>f (j+1) b q .fw .nf)
/---/def UT:List V->Hp->VK->Prop:=λxs H Q=>∃(p a:Addr) (ps:.dO),xs=.jZ/\H p=some (.ext<|Cu p a)/\H a=some (.dK<|ps.map λq=>((Sum.inl q.1:Key),V.int q.2))/\ps.length<64/\(.Da).Nodup/\
 ∀H' q vs',lK H H'->H q=none->H' q=some (.lst vs')->fD H' vs' (fI .Da)->Q (.ref q) H'
def WF{vs:List .pu}(r:KV a vs):∀{j:Nat} {k:κ} {x:S1} {b:κ} {v:V},vs[j]?=some (k,x)->a[j]?=some (b,v)->b=k/\cU v x:=by
 induction r with
 |nil=>intro j k x b v e;simp at e
 |cons h t d =>
  intro j k x b v e c;cases j with
  |zero=>simp at e c;subst e c;exact h
  |succ j=>exact d .fw .tT
def Hf(hc:.br):jm X (.dm "sorted") UT:=by
 intro pins s σ H xs us Q I r h;obtain⟨p,a,A,rfl,hp,ha,U,Z,q⟩:=h;obtain⟨u,rfl,ru⟩:=bM.one r;cases (show u=Value.ref p from ru);obtain⟨f,l⟩:=q0 (A.map λq=>[q.1,q.2]);rw[<-l]at Z q;have D:Cu p a s.heap:=(I.hok p _ hp).1;obtain⟨hz,_,vs,C,dd⟩:=Ny I.hok ha;have F:vs.length=A.length:=by rw[<-C.length];simp
 obtain⟨o,es,ep,d1,d2⟩:=id dd;have T:s.heap.DictAt (fX X.prog X.w) a vs ep:=⟨o,es,d1,d2⟩;refine Calls.call_function_entry kind_sorted plain_sorted entry_sorted (args_sorted1 _) ?_;unfold Builtin.«sorted»;refine zD .cU;refine zD (kdx_collect (I.ok.hd hc) ⟨_,D,rfl,rfl⟩ T (by rw[F,YZ];omega) λg tk d hk B J=>?_);have w:d.Nodup:=J.rise.imp λh=>ZN h;have lr:d.length=f.length:=by rw[B,F,l];simp
 have i:∀b∈d,s.heap.objs.size<=b:=λb v=>YB (J.above b v);have K:lK H .kV:=λb u e=>by
  rw[Jt]
  ·exact e
  ·intro z
   exact absurd (I.hok.lt e) (zZy.mpr<|i b z)
 have W:Inv X pins σ .kV { s with heap:=g,toks:=tk }:=by
  refine NM I hk K (λb v=>Jt λz=>absurd v (zZy.mpr<|i b z)) λb u v e=>?_
  by_cases hm:b∈d
  ·obtain⟨j,P⟩:=zYo hm
   have a0:j<d.length:=(zA.mp P).1;obtain⟨M,k,x,e1,e2,e3⟩:=J.pairs j b P;obtain⟨y,E⟩:∃y,A[j]?=some y:=⟨A[j]' .b,by simp[show j<A.length by omega]⟩;have hr:f[j]?=some [y.1,y.2]:=by rw[l,ZQ,E];rfl
   rw[NN w P hr]at e;cases e;refine⟨?_,λc z=>by cases z⟩;obtain⟨O,rx⟩:=WF C e1 (show (A.map λq=>((Sum.inl q.1:Key),V.int q.2))[j]?=some (Sum.inl y.1,V.int y.2) by rw[ZQ,E];rfl);obtain⟨t,rfl⟩:=Jo rx;subst O;have:∃R,M=Value.int y.1 R:=Value.isInt_shape e2;obtain⟨R,rfl⟩:=this;exact⟨by simp[YZ],[_,_],.cons ⟨R,rfl⟩ (.cons ⟨t,rfl⟩ .nil),_,e3,rfl,_,rfl⟩
  ·rw[Jt hm]at e
   exact absurd (I.hok.lt e) (zZy.mpr v)
 refine zD (wpAny_newList ?_ .CK);have S:bM (d.map V.ref) (d.map Value.ref):=by
  clear B J w lr i K W q
  induction d with
  |nil=>exact .nil
  |cons a d ih=>exact .cons rfl ih
 have I2:Inv X pins σ .m5 { s with heap:=g.push { cls:=.type "list",data:=.seq (d.map Value.ref).toArray },toks:=tk }:=W.lnew S .CK;have G:ov d f H g.objs.size=none:=W.hok.fresh .B;have N:lK .kV .m5:=c6 G;have m:fD .m5 (d.map V.ref) f:=Ju lr λj b r e e'=>N _ _ (NN w e e');have L:(f.all λx=>!x.isEmpty)=true:=by rw[l,List.all_map,xb];intro q _;rfl
 refine zD (vr (UR I2 bN (by rw[ZA,B,F];exact U) m Z L λn s' Y I3=>x3 ⟨_,rfl,?_⟩));have uu:upd .m5 g.objs.size (.lst n)=upd .kV g.objs.size (.lst n):=by
  funext b
  by_cases z:b=g.objs.size
  ·subst z;rw[bN,bN]
  ·rw[bi z,bi z,bi z]
 rw[uu]at I3;refine⟨.ref g.objs.size,_,I3,rfl,q _ _ n (λb u e=>c6 G _ _ (K _ _ e)) ?_ bN ?_⟩
 ·cases e:H g.objs.size with
  |none=>rfl
  |some u=>rw[K _ _ e]at G;cases G
 ·refine Y.mono λb ys e=>?_
  have v:b≠g.objs.size:=λz=>by subst z;rw[bN]at e;cases e
  rw[bi v]at e⊢;exact e
theorem vV:∀{l:.en} {r:.aK},i5 l=some r->∃ps:List .wr,l=ps.map (λq=>(q.1,D.int q.2))/\r=ps.map λq=>[q.1,q.2]
 |[],r,e=>by dsimp[i5]at e;cases e;exact⟨[],rfl,rfl⟩
 |(k,d)::l,r,e=>by
  cases d<;>dsimp[i5]at e<;>try (cases e;done)
  rename_i v
  cases c:i5 l with
  |none=>rw[c]at e;cases e
  |some a =>
   rw[c]at e;cases e;obtain⟨ps,rfl,rfl⟩:=vV c;exact⟨(k,v)::ps,rfl,rfl⟩
theorem NO{K:ZX}{ρ:.U}{H:Hp}:∀{ps:.dO} {a:.em},a.map (·.1)=(.Be).map .fm->RDs K ρ H ((.Be).map (·.2)) .qE->a=ps.map λq=>((Sum.inl q.1:Key),V.int q.2)
 |[],[],_,_=>rfl
 |[],_::_,h,_=>by simp at h
 |_::_,[],h,_=>by simp at h
 |(j,d)::ps,(i,v)::a,h1,b=>by
  dsimp[z5,List.cons.injEq]at h1;dsimp[z5,RDs]at b;obtain⟨g,k,e,q1,q2⟩:=b;cases e;obtain⟨f,c⟩:=h1;subst f;dsimp[RD]at q1;subst q1;rw[NO c q2];rfl
def NP(M:.br)(P:.ab "sorted")(hm:X.mg "sorted"=none)(Y:.i o t)
  (R:starEach .za X.env=(false,eval (.Call (.dS "items") [] [] g) X.env)::starEach [] X.env:=by rfl)
  (i:.e8 "items" X.env .c8=eval o X.env:=by rfl) (k:(apos.endLine == g.line)=true:=by rfl) :
  MF X (.dR (.bM "sorted") .za) (ua t):=by
 refine PE.imp (oX (Hf M) P hm .bq<|dr (NK Y i k) fB R) λσ H Q ⟨ρ,σd,I,S,f⟩=>⟨ρ,σd,I,S,?_⟩;unfold ua at f;cases e:t σd I with
 |exc x h'=>rw[e]at f;exact f
 |bad=>rw[e]at f;exact f
 |ok d y =>
  rw[e]at f;dsimp[aR]at f;intro v O B K j J;cases d<;>try exact f.elim
  rename_i n
  simp only at f;dsimp[rD,RD]at J;obtain⟨a,ha,rfl⟩:=J;cases c:y[n]? with
  |none=>rw[c]at f;exact f.elim
  |some cell =>
   rw[c]at f;cases cell with
   |lst l=>exact f.elim
   |dcT _=>exact f.elim
   |ob _=>exact f.elim
   |dct l =>
    simp only at f;cases A:i5 l with
    |none=>rw[A]at f;exact f.elim
    |some r =>
     rw[A]at f;simp only at f;split at f
     ·rename_i D
      obtain⟨U,rfl,rfl⟩:=vV A;obtain⟨Z,q1,q2,q3⟩:=j.hp.cel n _ a c ha;have T:=NO q2 q3;subst T;refine⟨a,_,rfl,q1,λq E=>⟨q,a,U,rfl,bN,by rw[bi (cP q1 E)];exact q1,by simpa using D.1,D.2,λL F w W h s C=>?_⟩⟩;have m:lK O L:=λb u N=>W _ _ (c6 E _ _ N);have V:F≠q:=λz=>by subst z;rw[bN]at h;cases h
      rw[bi V]at h;have G:=j.hp.free h;exact f F w L B (K.trans<|.e5 m) (j.same m) (K.fresh h G) s G C.rds
     ·exact f.elim
end
section
variable{X:Cx}{pos p:Pos}
theorem A2{K:ZX}{ρ:.U}{H:Hp}:∀{l:List D} {vs:List V} {bs:List Bool},RDs K ρ H l vs->ml l=some bs->vs=bs.map V.bl
 |[],_,is,r,e=>by dsimp[ml]at e;cases e;dsimp[RDs]at r;subst r;rfl
 |d::l,_,is,r,e=>by
  dsimp[RDs]at r;obtain⟨v,vs,rfl,h1,a⟩:=r;cases d<;>dsimp[ml]at e<;>try (cases e;done)
  rename_i i
  cases c:ml l with
  |none=>rw[c]at e;cases e
  |some b =>
   rw[c]at e;cases e;dsimp[RD]at h1;rw[h1,A2 a c];rfl
def NQ{bs:List Bool}(r:bM .oZ a):∀(i:Nat) (v:S1),a.toArray[i]?=some v->v=.bool (.iz false):=by
 intro i v e;have b:a[i]?=some v:=by simpa using e
 have c:i<bs.length:=by
  have:=(zA.mp b).1;have:=r.length;simp at this;omega
 obtain⟨u,f,d⟩:=r.get (i:=i) (x:=V.bl bs[i]) .hQ;rw[f]at b;cases b;rw[show v=Value.bool bs[i] from d];simp[List.getD,c]
def NR(bs:List Bool):(.DR).all .Dq=bs.all id:=by
 have:bs=(.DR).map λi=>.iz false:=by
  apply VM;intro i
  by_cases a:i<bs.length<;>simp[List.getD,a]
 conv=>rhs;rw[this]
 rw[List.all_map];rfl
def KQ(B:.br):jm X (.dm "all") (λxs H Q=>∃(p:Addr) (bs:List Bool),xs=.jZ/\(SqL X.K H p .oZ\/SqT X.K H p .oZ)/\Q (.bl .pp) H):=by
 intro pins s σ H xs F Q I r q;obtain⟨p,bs,rfl,j,q⟩:=q;obtain⟨u,rfl,y⟩:=bM.one r;cases (show u=Value.ref p from y);have w:(X.A.in1).handled=none:=I.ok.hd B;have x:∀(a:List S1),bM .oZ a->TruthOf X.prog X.w X.A.in1 (λi v=>a.toArray[i]?=some v) .Dq:=λa f i v s Q E C z=>by
  rw[NQ f i v C];exact zZf z
 have fin:∀{t:Obj} {k:Heap} {l:Nat} {n:Nat},n=bs.length->(∀b o,b∉[s.heap.objs.size]->(s.heap.push t).get? b=some o->k.get? b=some o)->EP X pins σ Q (.bool<|(.s).all λi=>.iz false) { s with heap:=k,toks:=l }:=by
  intro t k l n D h;subst D;refine⟨.bl .pp,H,I.kept λb o e=>h b o .Cp .h5,by rw[NR];rfl,q⟩
 rcases j with j|j
 ·obtain⟨a,f,m,A⟩:=I.list j
  have g:s.heap.IsList p a.toArray:=m.isList;have d:p<s.heap.objs.size:=by obtain⟨o,c,_⟩:=g;exact ZI c
  refine PySem.call_all_walk (PySem.wpAny_pyIter_list g ?_);refine⟨s.heap.objs.size,_,.ol,_,_,_,λi=>.iz false,rfl,PySem.Walks.list w s.heap.objs.size p (ZN d) a.toArray,⟨⟨_,ZJ _ rfl,rfl,rfl⟩,?_⟩,x a f,?_⟩
  ·obtain⟨o,c,r⟩:=g;exact⟨o,.aa c,r⟩
  ·exact λk l h=>fin .A3 h
 ·obtain⟨a,f,m,A⟩:=I.tuple j
  have g:s.heap.IsTuple p a.toArray:=m;have d:p<s.heap.objs.size:=by obtain⟨o,c,_⟩:=g;exact ZI c
  refine PySem.call_all_walk (PySem.wpAny_pyIter_tuple g ?_);refine⟨s.heap.objs.size,_,.ol,_,_,_,λi=>.iz false,rfl,PySem.Walks.tuple w s.heap.objs.size p (ZN d) a.toArray,⟨⟨_,ZJ _ rfl,rfl,rfl⟩,?_⟩,x a f,?_⟩
  ·obtain⟨o,c,r⟩:=g;exact⟨o,.aa c,r⟩
  ·exact λk l h=>fin .A3 h
def qN{a:Expr}(g:.br)(m:.ab "all")(hm:X.mg "all"=none)(i:MQ X a d)(f:.bm X.env=(false,.bw X.env)::starEach [] X.env:=by rfl):.i (.cx<|.bM "all") (rJ d):=by
 refine Cn (Ej (KQ g) m hm .bq (he:=f)) i (λρ H σd o σ l q n Q k h b p=>?_) f;cases c:ml l with
 |none=>dsimp[c]at p;exact p.elim
 |some j =>
  dsimp[c]at p;have e:=A2 b c;subst e;exact⟨q,j,rfl,h.imp id SqT.of,p.here k .ac⟩
def NS(K:MF X a s)(B:.i b j):MF X (.mJ .Mult) (xG s j):=by
 refine PE.imp (MR Up K B) λσ H Q ⟨ρ,σd,w,L,c⟩=>⟨ρ,σd,w,L,?_⟩;unfold xG at c;cases e:s σd w with
 |exc x E=>rw[e]at c;exact c
 |bad=>rw[e]at c;exact c
 |ok l f =>
  rw[e]at c;dsimp[aR]at c;intro q u O m D i G I J g;refine⟨m,σd,f,i,?_⟩;cases o:j σd f with
  |exc x E=>rw[o]at c;exact c
  |bad=>rw[o]at c;exact c
  |ok y A =>
   rw[o]at c;dsimp[aR]at c;intro v C F d t z;cases y<;>try exact c.elim
   rename_i n
   simp only at c;split at c
   ·rename_i N
    dsimp[rD,RD]at z;subst z;have k:C q=some (.lst u):=d.frame q _ I J;have h:=g.mono (i.hp.kp d);refine⟨q,n,u,rfl,rfl,k,by omega,by omega,by rw[<-g.length,YZ];omega,λM r=>?_⟩;exact Eh.mk c (D.trans d) t (RDs.rep h n.toNat) M r
   ·exact c.elim
def Hg(u:.br)(y:.ab "max")(hm:X.mg "max"=none)(B:.i a n)(t:.i b l)(m:.kv X.env=(false,.bw X.env)::starEach [b] X.env:=by rfl)(f:.ky X.env=(false,eval b X.env)::starEach [] X.env:=by rfl)(hpl:(.Au).any (λx=>x.1)=false:=by rfl):.i (.ks<|.bM "max") (ub n l):=by
 refine PE.imp (oX (KD u) y hm .bq (dr B (dr t fB f) m) (he:=m) (hpl:=hpl)) λσ H Q ⟨ρ,σd,A,C,o⟩=>⟨ρ,σd,A,C,?_⟩;unfold ub at o;refine (.al o).imp λv F ⟨h,d,g,E,i,q,r⟩=>?_;refine⟨h,σd,g,i,(.al r).imp λw D ⟨z,k,s,G,j,c,e⟩=>?_⟩;cases d<;>try exact e.elim
 cases k<;>try exact e.elim
 dsimp[rD,RD]at q c;subst q c;exact⟨_,_,rfl,e.here j .ac⟩
def Jv(W:.i a E)(R:.i b t):MF X (.mJ .Add) (vJ E t):=by
 refine PE.imp (MR Uo W R) λσ H Q ⟨ρ,σd,M,Y,c⟩=>⟨ρ,σd,M,Y,?_⟩;unfold vJ at c;cases e:E σd M with
 |exc x U=>rw[e]at c;exact c
 |bad=>rw[e]at c;exact c
 |ok d j =>
  rw[e]at c;dsimp[aR]at c;intro v H1 z T G L;refine⟨z,σd,j,G,?_⟩;cases C:t σd j with
  |exc x U=>rw[C]at c;exact c
  |bad=>rw[C]at c;exact c
  |ok k i =>
   rw[C]at c;dsimp[aR]at c;intro w H2 V q h o;cases d with
   |ref n =>
    cases k with
    |ref m =>
     simp only at c;dsimp[rD,RD]at L o;obtain⟨O,y,rfl⟩:=L;obtain⟨K,s,rfl⟩:=o;have J:=q.get y;cases r:i[n]? with
     |none=>rw[r]at c;exact c.elim
     |some N =>
      cases u:i[m]? with
      |none=>rw[r,u]at c;cases N<;>exact c.elim
      |some P =>
       rw[r,u]at c;cases N with
       |dct _=>exact c.elim
       |dcT _=>exact c.elim
       |ob _=>exact c.elim
       |lst l =>
        cases P with
        |dct _=>exact c.elim
        |dcT _=>exact c.elim
        |ob _=>exact c.elim
        |lst k =>
         simp only at c;split at c
         ·rename_i S
          obtain⟨B,D,f⟩:=h.hp.cel n _ O r J;obtain⟨A,I,g⟩:=h.hp.cel m _ K u s;refine⟨O,K,B,A,rfl,rfl,D,I,by rw[<-f.length,<-g.length];exact rV S,λZ F=>?_⟩;exact Eh.mk c (T.trans q) h (RDs.append f g) Z F
         ·exact c.elim
    |_=>exact c.elim
   |_=>exact c.elim
def EC(l b:Addr)(a c:.bL)(n m:Nat)(j f:.cw)(o e:.fQ)(q:a.isEmpty=true):
  Meets (Builtin.«tuple.__add__» ⟨[.ref l,.ref b],[]⟩) (λ_ R s=>s.heap.get? l=some { cls:=.type "tuple",dict:=j,data:=.seq a n,slots:=o }/\s.heap.get? b=some { cls:=.type "tuple",dict:=f,data:=.seq c m,slots:=e }/\R (.ok<|.ret<|Value.ref b) s) :=
 .of_wp λprog w A R s h=>by obtain⟨x,g,d,t,u⟩:=s;obtain⟨k,i,h⟩:=h;have v:=PySem.AutoSeq1.idx_int;have r:=PySem.AutoSeq1.sub_tuple_tuple;wp_walk using Y7 k,Y7 i;exact⟨_,rfl,h⟩
/---/def NT(K:ZX):R2:=λx y H Q=>∃a b ys,x=.ref a/\y=.ref b/\SqT K H a []/\SqT K H b ys/\Q (.ref b) H
def Rf:.Y .hI (NT X.K):=by
 intro pins s σ H x y v u Q I C F h;obtain⟨a,b,K,rfl,rfl,G,w,q⟩:=h;cases C;cases F;obtain⟨B,t,r,_⟩:=I.tuple G;obtain⟨e,J,z,_⟩:=I.tuple w;cases t;obtain⟨⟨cls,A,data,E⟩,k,l,n,o⟩:=id r;obtain⟨⟨m,j,i,g⟩,f,d,D,c⟩:=id z;simp only at l o d c;subst l o d c;exact concat_meets ⟨_,k,rfl⟩ ⟨_,f,rfl⟩ noFill_tuple_add seq_tuple_add PySem.F.slot_tuple_add PySem.F.entry_tuple_add (zXf _ _)
  (EC a b _ e.toArray n D A j E g rfl) ⟨k,f,⟨.ref b,H,I,rfl,q⟩⟩
def xi:.Y .hI (λx y H Q=>NT X.K x y H Q\/Ee X.K x y H Q):=Rf.or Je
def xj:Og K oQ (λx y H Q=>NT K x y H Q\/Ee K x y H Q):=by
 intro ρ H σd C σ d k v w Q m s f e;cases d with
 |tup r =>
  cases k with
  |tup u =>
   dsimp[oQ]at e;split at e
   ·rename_i t
    dsimp[RD]at s;obtain⟨a,i,rfl,j,c⟩:=s;have rw2:=f;dsimp[RD]at f;obtain⟨b,l,rfl,n,g⟩:=f;cases r with
    |nil =>
     dsimp[RDs]at c;subst c;exact .inl ⟨a,b,l,rfl,rfl,SqT.of j,SqT.of n,e.here m (by simpa using rw2)⟩
    |cons x r =>
     refine .inr ⟨a,b,i,l,rfl,rfl,SqT.of j,SqT.of n,?_,?_,λz=>?_,λ_ q A=>?_⟩
     ·intro z;subst z;have:=c.length;simp at this
     ·rw[<-c.length,<-g.length];exact rV t
     ·subst z
      have B:u=[]:=by have:=g.length;simpa using this
      subst B;exact e.here m (by dsimp[rD,RD];exact⟨a,i,rfl,j,by simpa using c⟩)
     ·have h:=c6 (o:=HO.tup (i++l)) A
      exact e.at (.e5 h) (m.same h) (by dsimp[rD,RD];exact⟨q,_,rfl,bN,(RDs.append c g).mono (.cz h)⟩)
   ·exact e.elim
  |_=>exact e.elim
 |_=>exact e.elim
end
section
variable{K:ZX}{ρ:.U}{H:Hp}{hd:Hd}
def RH.writeO(r:.bh){p C dx:Addr}(hp:ρ[n]?=some p)(hn:n<hd.length)(h1:.Ef)(d:.fP):RH K ρ .Bb (hd.set n<|.ob l):=by
 have k:.c1 ρ .Bb:=by
  have b:=ZK hp;refine⟨λ_ _ h=>h,λa f e=>?_,λa o u e=>?_,λa g e=>?_⟩
  ·rw[bi (λz=>r.noTup e .tX)];exact e
  ·rw[bi (λz=>r.noFrz e .tX)];exact e
  ·rw[bi (λz=>r.noExt e .tX)];exact e
 refine⟨by simp[r.len],r.nd,λm c a q1 q2=>?_⟩
 by_cases e:n=m
 ·subst e
  rw[wJ hn]at q1;cases q1;rw[hp]at q2;cases q2;exact⟨vs,C,dx,bN,d.mono k,h1⟩
 ·rw[ZP e]at q1
  have ne:a≠p:=λz=>by
   subst z;exact e (rT r.nd hp q2)
  exact(r.cel m c a q1 q2).mono k (bi ne)
def RH.allocO(r:.bh){p C dx:Addr}(hp:H p=some .uZ)(hn:p∉ρ)(h1:.Ef):RH K .hY H (hd++[.ob []]):=by
 have k:.c1 .hY H:=⟨λn a e=>by rw[ZC (.cN).1];exact e,λ_ _ h=>h,λ_ _ _ h=>h,λ_ _ h=>h⟩;refine⟨by simp[r.len],?_,λn c a q1 q2=>?_⟩
 ·rw[zYl]
  exact⟨r.nd,by simp,λa g b d=>by simp at d;subst d;intro e;subst e;exact hn g⟩
 ·by_cases hlt:n<hd.length
  ·rw[ZC hlt]at q1
   rw[ZC .s0]at q2;exact(r.cel n c a q1 q2).mono k rfl
  ·have f:n=hd.length:=by
    have:=(zA.mp q1).1;simp at this;omega
   subst f;simp at q1;subst q1;rw[<-r.len]at q2;simp at q2;subst q2;exact⟨[],C,dx,hp,by dsimp[RDs],h1⟩
end
structure qw(K:ZX)(C:Addr):Prop where
 at_:.cX .nI=some .uz
 cls:Cls K C
 no:oV K C "web"
section
variable{X:Cx}{pos p:Pos}{C:Addr}
def qw.one(T:qw X.K C)(h:PySem.W.nsIn X.K mainGlobals .nI=some (some .de)):a=C:=by
 have:=T.at_.symm.trans h;cases this;rfl
def Cv(T:qw X.K C)(he:.i e h)(k:attributeBase e "web" X.env .lI=.aB X.env:=by rfl):.i (.Attribute e "web" pos) (AI h):=by
 refine PE.imp (Uf he k) λσ H Q ⟨ρ,σd,t,w,s⟩=>⟨ρ,σd,t,w,(.al s).imp λv y ⟨q,d,g,x,f,i,b⟩=>?_⟩;cases d with
 |ref n =>
  simp only at b;cases c:g[n]? with
  |none=>rw[c]at b;exact b.elim
  |some cell =>
   rw[c]at b;cases cell with
   |lst l=>exact b.elim
   |dct l=>exact b.elim
   |dcT l=>exact b.elim
   |ob l =>
    match l,b,c with
    |[d],b,c =>
     dsimp[RD]at i;obtain⟨a,u,rfl⟩:=i;obtain⟨z,j,m,q1,q2,q3⟩:=f.hp.cel n _ a c u;dsimp[RDs]at q2;obtain⟨v,r,rfl,o,rfl⟩:=q2;obtain rfl:=T.one q3;exact⟨a,j,m,_,v,rfl,q1,T.cls,T.no,rfl,b.here f o⟩
    |[],b,_=>exact b.elim
    |_::_::_,b,_=>exact b.elim
 |_=>exact b.elim
def Jw(T:qw X.K C)(O:.i o z)(he:.i e A)(G:swapsWith e (some<|.Attribute o "web" b) pos.line X.env=pure false:=by rfl):MS X (.g1 [.Attribute o "web" b]) (D5 z A):=by
 refine PS.imp (Ug O he G) λEn σ H ⟨ρ,σd,L,M,p⟩=>⟨ρ,σd,L,M,(.gv).imp λv S ⟨r,d,q,U,j,N,B⟩=>?_⟩;refine⟨r,σd,q,j,(du.outE B).imp λF i ⟨g,R,f,J,h,y,b⟩=>?_⟩;have k:=N.mono (j.hp.kp J);cases R with
 |ref n =>
  simp only at b;cases c:f[n]? with
  |none=>rw[c]at b;exact b.elim
  |some cell =>
   rw[c]at b;have K:n < f.length:=(.gE).1;have fin:∀{l:List D},f[n]? = some (.ob l)->l.length<=1->du X.K g i (.nx σd<|f.set n .kn) En->_:=λ{l} c I b=>(show ∃a C dx m,F=.ref a/\i a=some (.ins C dx m)/\Cls X.K C/\oV X.K C "web"/\m.length < 1000/\En.nx σ (upd i a<|.ins C dx<|oM "web" v m) by
    dsimp[RD]at y;obtain⟨a,t,rfl⟩:=y;obtain⟨s,u,dx,q1,q2,q3⟩:=h.hp.cel n _ a c t;obtain rfl:=T.one q3;have E:s.length<=1:=by rw[<-q2.length];exact I
    have P:oM "web" v (Cj s)=Cj [v]:=by
     match s,E with
     |[],_=>rfl
     |[x],_=>rfl
    refine⟨a,u,dx,_,rfl,q1,T.cls,T.no,by unfold Cj;rw[ZA];omega,?_⟩;rw[P];have Q:=h.hp.writeO (dx:=dx) (l:=[d]) t K q3 (by dsimp[RDs];exact⟨v,[],rfl,k,rfl⟩);have w:Ext g i g (upd i a<|.ins u dx<|Cj [v]):=Ext.write (ZK t);exact b σ _ g w (h.ext w Q))
   cases cell with
   |lst l=>exact b.elim
   |dct l=>exact b.elim
   |dcT l=>exact b.elim
   |ob l =>
    match l,b,c with
    |[],b,c=>exact fin c .dM b
    |[_],b,c=>exact fin c .B b
    |_::_::_,b,_=>exact b.elim
 |_=>exact b.elim
structure NU(P:N3)(w:N6)(K:ZX)(mg:.aw)(base:Heap)(C:Addr)(m:Str)(k np:Nat)(F:Fn):Prop where
 ex:∃f fd ps,Ue K C m f/\ko K fd ps []/\ji P w K mg base CX0 k f fd ps .ja
def xZ{apos:Pos}{pl:Sem Bool}(T:qw X.K C)(hd:NU X.prog X.w X.K X.mg X.base C m k np F)(O:iz k X.A)(V:.i o J)(G:MA X (e::g) r)(y:.vo)(hm:m≠"web")
  (E:starEach (e::g) X.env=(false,.aB X.env)::starEach g X.env:=by rfl) (hpl:(.kC<|.g0 g).any (·.1)=false:=by rfl)
  (ht:eval (.dR (.dS m) (e :: g)) X.env=(do
   let ov <-eval o X.env
   standAt apos.atName
   let (f,first) <-holding [ov] (getMethod ov m pl)
   callWith pos f first (.kC<|.g0 (e::g)) (.mL pos)):=by rfl) :
  ME X (.dR (.dS m) (e::g)) (nt F J r):=by
 obtain⟨f,fd,ps,W,M,L⟩:=hd.ex;refine PE.imp (QP V T.cls W L O M .nil Ni G E hpl ht) λσ H Q ⟨ρ,σd,hd,U,R⟩=>⟨ρ,σd,hd,U,(.al R).imp λv H1 ⟨B,d,t,e1,i,A,b⟩=>?_⟩;cases d with
 |ref n =>
  simp only at b;cases c:t[n]? with
  |none=>rw[c]at b;exact b.elim
  |some cell =>
   rw[c]at b;cases cell with
   |lst l=>exact b.elim
   |dct l=>exact b.elim
   |dcT l=>exact b.elim
   |ob l =>
    have w:=A;dsimp[RD]at A;obtain⟨a,G,rfl⟩:=A;obtain⟨D,C',Z,q1,q2,q3⟩:=i.hp.cel n _ a c G;obtain rfl:=T.one q3;have nl:(Cj D).lookup m=none:=by
     unfold Cj;clear q1 q2
     induction D with
     |nil=>rfl
     |cons v D P =>
      rw[z5,Z7];rw[show (m == Str.ofString "web")=false from by simpa using hm];exact P
    refine⟨a,Z,_,rfl,q1,nl,B,σd,t,i,(.al b).imp λus H2 ⟨x,ds,q,N,s,K,j⟩=>?_⟩;rw[YX];cases u:F (.ref n::ds) q with
    |exc z h'=>rw[u]at j;exact j.elim
    |bad=>rw[u]at j;exact j.elim
    |ok d Y =>
     rw[u]at j;refine⟨x,q,.ref n::ds,s.hp,?_,y _ _ _ _ u,?_⟩
     ·dsimp[RDs]
      exact⟨_,_,rfl,w.mono (i.hp.kp N),K⟩
     ·rw[u]
      exact λv H' ρ' I rh S=>j v H' ρ' I (s.ext I rh) S
 |_=>exact b.elim
structure UU(P:N3)(w:N6)(K:ZX)(mg:.aw)(base:Heap)(x:Str)(C:Addr)(k np:Nat)(F:Fn):Prop where
 mgC:mg x=some .bH
 ex:∃f fd ps,Mk K C f/\ko K fd ps []/\ji P w K mg base CX0 k f fd ps .ja
def NV(T:qw X.K C)(hd:UU X.prog X.w X.K X.mg X.base x C k np F)(M:iz (k+1) X.A)(L:.ab x)(Z:MA X (e::m) r)(t:.vo)
  (y:.a4=false:=by decide) (he:starEach (e::m) X.env=(false,.aB X.env)::starEach m X.env:=by rfl) (hpl:(.kC<|.g0 m).any (·.1)=false:=by rfl) :
  ME X (.dR .fV (e::m)) (Mx F r):=by
 obtain⟨f,fd,ps,U,K,J⟩:=hd.ex;refine PE.imp (QQ U J M L hd.mgC K .nil Ni Z y he hpl) λσ H Q ⟨ρ,σd,hd,O,N⟩=>⟨ρ,σd,hd,O,(.al N).imp λvs j ⟨a,ds,g,e1,b,R,l⟩=>?_⟩;intro x i B o A;rw[YX];cases c:F (.ref g.length::ds) (g++[.ob []]) with
 |exc z h'=>rw[c]at l;exact l.elim
 |bad=>rw[c]at l;exact l.elim
 |ok d V =>
  rw[c]at l;cases d with
  |non =>
   have G:x∉a:=λz=>by
    rcases b.hp.mut z with ⟨_,q⟩|⟨_,q⟩|⟨_,q⟩|⟨_,_,_,q⟩<;>(rw[B]at q;cases q)
   have P:Ext a j a (upd j i .hX):=⟨⟨[],by simp⟩,λ_ h=>.inl h,λq u e _=>c6 o q u e⟩;have n:upd j i .hX x=none:=by rw[bi (wh A)];exact B
   have E:Ext a (upd j i .hX) (a++[x]) .r4:=Ext.alloc n;have w:Ext a j (a++[x]) .r4:=P.trans E;have S:RH X.K a .r4 g:=(b.hp.same<|c6 o).same (c6 n);have I:=S.allocO bN G T.at_;refine⟨a++[x],g++[.ob []],.ref g.length::ds,I,?_,t _ _ _ _ c,?_⟩
   ·dsimp[RDs]
    refine⟨_,_,rfl,?_,R.mono (b.hp.kp w)⟩;dsimp[RD];exact⟨x,by rw[<-b.hp.len];simp,rfl⟩
   ·rw[c]
    intro v Y ρ' s W D;dsimp[RD]at D;refine⟨D,l .jX Y ρ' (w.trans s) (b.ext (w.trans s) W) ?_⟩;dsimp[rD,RD];exact⟨x,s.get (by rw[<-b.hp.len];simp),rfl⟩
  |_=>exact l.elim
end
/---/def inS(s:Stmt)(j:Nat):Stmt:=match s with
 |.ClassDef _ _ _ b _ _ _ _ _ _ _=>b.getD j (.Pass ⟨0,0,0,0⟩)
 |_=>.Pass ⟨0,0,0,0⟩
def NW{mg:.aw}{base:Heap}{x y:Str}{st:Stmt}{f:Addr}{fd:.gU}{N ps:.az}{k:Nat}{b:SF}(F:Fun K y x st f fd)(S:gF N ps .dC)
  (body:.D8) :
  ji P w K mg base CX0 (k+1) f fd ps .zb:=by
 refine F.ok S .xM λa A outer s H h Q E j ⟨ρ,g,i,d,e,c,p⟩=>⟨_,body a A outer s H E j,ρ,_,g,⟨d,AX e⟩,?_⟩;dsimp[bB,c,Y5]at p;exact(vR.letGo d p).runB
def NX:Builtin.bitAnd i 1=i%2:=by
 by_cases h:0<=i
 ·exact Rc h
 ·unfold Builtin.bitAnd
  rw[z4 h];show (1:Int)-(((1:Int).toNat &&& (Builtin.bitNot i).toNat:Nat):Int)=i%2;rw[show (1:Int).toNat=1 from rfl,Nat.and_comm,Nat.and_one_is_mod];unfold Builtin.bitNot;omega
def Rg:Og K xI .zI:=by
 intro ρ H σd f σ d k v w Q e c a p;cases d<;>cases k<;>first|exact p.elim|skip
 rename_i i j
 dsimp[xI,oIc]at p;split at p
 ·rename_i b
  simp at b;subst b;dsimp[RD]at c a;refine⟨_,_,c,a,?_⟩;show Q (V.int<|Builtin.bitAnd i 1) H;rw[NX];exact p.here e .ac
 ·exact p.elim
end Fm
namespace Fm
open PySem PySem.Spec L2 PyProof.Rows
theorem ED:∀(a b:.c),HT.lexLt a b=lexLt a b
 |[],[]=>rfl
 |[],_::_=>rfl
 |_::_,[]=>rfl
 |x::xs,y::ys=>by
  show (if x=y then HT.lexLt xs ys else decide (x<y))=_;rw[ED xs ys];rfl
def NY{K:ZX}:Og K B5 (Wp K):=by
 intro ρ H σd t σ d k v w Q r i c p;unfold B5 at p;cases d<;>try exact p.elim
 cases k<;>try exact p.elim
 rename_i o l
 dsimp[ltT]at p;cases e:jj o with
 |none=>rw[e]at p;exact p.elim
 |some m =>
  cases f:jj l with
  |none=>rw[e,f]at p;exact p.elim
  |some q =>
   rw[e,f]at p;dsimp[RD]at i c;obtain⟨a,s,rfl,n,h⟩:=i;obtain⟨b,u,rfl,j,g⟩:=c;refine⟨a,b,m,q,rfl,rfl,SqT.of (by rw[n,rX h e]),SqT.of (by rw[j,rX g f]),?_⟩;rw[ED];exact p.here r .ac
section
variable(K:ZX)(mg:.aw)
/---/def spX(F:Fn)(np:Nat):Sp:=λvs H _ E=>∃ρ hd ds,RH K ρ H hd/\RDs K ρ H ds vs/\ds.length=np/\
 ∃c l hd' C,F ds hd=.exc (.exn c l) hd'/\mg .us=some .bH/\∀H' ρ',Ext ρ H ρ' H'->RH K ρ' H' hd'->E .bH none H'
end
section
variable{K:ZX}
end
structure Yv(P:N3)(w:N6)(K:ZX)(mg:.aw)(base:Heap)(x:Str)(k np:Nat)(F:Fn):Prop where
 ex:∃f fd ps,mg x=some .aE/\.dX .aE=true/\ko K fd ps []/\.fY (CX1 P w) k f fd ps (spX K mg F np)
section
variable{pos p:Pos}
end
section
variable{K:ZX}
end
section
variable{X:Cx}{pos p:Pos}
end
end Fm
namespace Fm
open PySem PySem.Spec L2
open PyProof.Rows (Call_)
section
variable{prog:N3}{w:N6}{A:P2}{E:.R}{s:P1}{z TI TO i1 i2 l1 l2:Addr}{k:Nat}{xs ys:.bL}{a b:S1}
end
section
variable{prog:N3}{w:N6}{A:P2}{E:.R}{s:P1}
end
def Rh{σ:St}{t':Nat}{ch:.U}(I:.vJ)(k:∀b o,b∉ch->s.heap.get? b=some o->h'.get? b=some o)(d:∀b∈ch,xK X pins H b):
  L2.Inv X pins σ H .ga:=by
 have f:∀b u,H b=some u->b∉ch:=λb u e z=>by rw[(d b z).1]at e;cases e
 refine I.step (λb g=>⟨(d b g).2.2.2.1,(d b g).2.1,(d b g).2.2.2.2.1,(d b g).2.2.2.2.2⟩) (λb o _ _ a e _=>k b o a e) (λb o _ _ a e _=>⟨o.slots,k b o a e⟩) (λ_ _ _ _ n=>n)
  (λb o a e=>⟨o,k b o a e⟩) (λ_ _ e=>e) (λ_ _ _ e=>e) (λb p e=>⟨#[],by rw[e];simp⟩) (λm l=>?_) (λb u e=>?_) I.bare
 ·obtain⟨o,i,h,j,r⟩:=l
  exact⟨o,i,h,k _ o (λz=>(d _ z).2.1 rfl) j,r⟩
 ·refine (.o2).stay (λc v a q=>k c v ?_ q) .pt λ_ _ q=>q
  rcases a with z|z
  ·rw[z];exact f b u e
  ·exact f c _ z
section
variable{X:Cx}{pos p tp:Pos}{elts:.aO}{tk:Nat}
end
end Fm
namespace L2
open PySem PySem.Spec PyProof.Rows
end L2
namespace Fm
open PySem PySem.Spec L2 PyProof.Rows
section
variable(K:ZX)(mg:.aw)
/---/def XC(ρ:.U)(H:Hp)(E:.mz)(x:D)(hd:Hd):Prop:=∃c l C,x=.exn c l/\mg .us=some .bH/\∀H' ρ',Ext ρ H ρ' H'->RH K ρ' H' hd->E C H'
/---/def WG(R:VR α β)(ρ:.U)(H:Hp)(σd:Sd)(σ:L2.St)(r:Res α)(E:.mz)(Q:.kb):Prop:=match r with
 |.ok a hd'=>∀b H' ρ',Ext ρ H ρ' H'->RS K ρ' H' σd hd' σ->R ρ' H' a b->Q b H'
 |.exc x hd'=>XC K mg ρ H E x hd'
 |.bad=>False
/---/def WH(R:VR α β)(E:.mz)(f:Sd->Hd->Res α):L2.St->Hp->(β->Hp->Prop)->Prop:=λσ H Q=>∃ρ σd hd,RS K ρ H σd hd σ/\WG K mg R ρ H σd σ .jN E Q
/---/def spY(F:Fn)(np:Nat):Sp:=λvs H Q E=>∃ρ hd ds,RH K ρ H hd/\RDs K ρ H ds vs/\ds.length=np/\match F ds hd with
 |.ok d hd'=>∀v H' ρ',Ext ρ H ρ' H'->RH K ρ' H' hd'->RD K ρ' H' d v->Q v H'
 |.exc x hd'=>XC K mg ρ H (λC H'=>E (.ref C) none H') x hd'
 |.bad=>False
end
section
variable{K:ZX}{R:VR α β}
end
/---/def NE(X:Cx)(E:.mz)(e:Expr)(f:EF):Prop:=.D e (WH X.K X.mg .fK E f)
structure Yw(P:N3)(w:N6)(K:ZX)(mg:.aw)(base:Heap)(x:Str)(k np:Nat)(F:Fn):Prop where
 ex:∃f fd ps,mg x=some .aE/\.dX .aE=true/\ko K fd ps []/\.fY (CX1 P w) k f fd ps (spY K mg F np)
section
variable{pos p:Pos}
end
end Fm
namespace L2
open PySem PySem.Spec PyProof.Rows
end L2
namespace Fm
open PySem PySem.Spec L2 PyProof.Rows
section
variable{K:ZX}
end
section
variable{X:Cx}{pos p:Pos}
end
section
variable{X:Cx}{pos p:Pos}
/---/def spM(C:Addr):Sp:=λvs H Q _=>∃a,vs=.ei/\H a=some (Tb a C)/\∀H',lK H H'->Q .dz H'
structure Yx(P:N3)(w:N6)(K:ZX)(mg:.aw)(base:Heap)(x:Str)(k:Nat)(C:Addr):Prop where
 ex:∃f fd ps,mg x=some .aE/\.dX .aE=true/\ko K fd ps []/\.fY CX0 k f fd ps (spM C)
end
end Fm
namespace Fm
open PySem PySem.Spec L2 PySem.W PyProof.Rows
section
variable{pos p:Pos}
def NZ(u:.br)(y:.ab "min")(hm:X.mg "min"=none)(B:.i a n)(t:.i b l)(m:.kv X.env=(false,.bw X.env)::starEach [b] X.env:=by rfl)(f:.ky X.env=(false,eval b X.env)::starEach [] X.env:=by rfl)(hpl:(.Au).any (λx=>x.1)=false:=by rfl):.i (.ks<|.bM "min") (Er n l):=by
 refine PE.imp (oX (KF u) y hm .bq (dr B (dr t fB f) m) (he:=m) (hpl:=hpl)) λσ H Q ⟨ρ,σd,A,C,o⟩=>⟨ρ,σd,A,C,?_⟩;unfold Er at o;refine (.al o).imp λv F ⟨h,d,g,E,i,q,r⟩=>?_;refine⟨h,σd,g,i,(.al r).imp λw D ⟨z,k,s,G,j,c,e⟩=>?_⟩;cases d<;>try exact e.elim
 cases k<;>try exact e.elim
 dsimp[rD,RD]at q c;subst q c;exact⟨_,_,rfl,e.here j .ac⟩
end
end Fm
namespace HT
open PySem PySem.Spec PyProof.Rows L2
def getItem_tuple_whole{lo hi:.aF}(ht:.kA t a)(j:s.heap.IsSliceOf d g k .none)(pl:IsPart g lo)(m:IsPart k hi)
  (i:sIx a.size 0 lo=0/\sIx a.size a.size hi=a.size) (h:Q .hU s):.bP .Db Q E s:=by
 obtain⟨n,f,c,l⟩:=id j;have e:s.TypeIs (.ref d) "slice" := ⟨n,f,c⟩;unfold getItem
 try with_reducible refine vr ?_
 first|refine zD .cU|skip
 refine zD (zXm ht.typeIs .a ?_);refine zD (YU (name:=Str.ofString "__getitem__") ht.typeIs vd
  (yo vd ht.typeIs entry_tuple_getitem ?_ .CQ))
 show wpAny _ _ .zE _ _ s;refine zD (tupleItemsOf_ ht ?_);refine zD (wpAny_typeOf e ?_);rw[zE .a];refine zD (mr j pl m ?_);have b:(.qW=true):=by
  rw[i.1,i.2];simp
 show wpAny _ _ .BJ _ _ s;rw[zE b];refine zD ?_;unfold Builtin.Tuple.tupleIsExact;refine zD (wpAny_typeOf ht.typeIs .cU);rw[zE .a];refine zD (wpAny_rule ?_)
 first
  |exact x3 ⟨_,rfl,x3 h⟩
  |exact zD .i4
  |exact zD (x3 .i4)
end HT
namespace Fm
open PySem PySem.Spec L2 PySem.W PyProof.Rows
/---/def WI(K:ZX):V->Option Int->Option Int->Hp->VK->Prop:=λx lo hi H Q=>∃a xs,x=.ref a/\SqT K H a xs/\
 (.ro->Q .de H)/\
 (¬.ro->∀p,H p=none->.d1 .DY)
def Ri:SlR X (WI X.K):=by
 intro pins s σ H x v o p l k q Q I i j n m h;obtain⟨a,b,rfl,f,q1,q2⟩:=h
 by_cases d:HT.sIx b.length 0 l=0/\HT.sIx b.length b.length k=b.length
 ·cases i
  obtain⟨e,r,g,t⟩:=I.tuple f;have c:e.toArray.size=b.length:=by rw[v3];exact r.length.symm
  refine⟨"tuple",_,PyProof.Rows.slot_tuple_getitem.lookup,g.typeIs,?_⟩;exact HT.getItem_tuple_whole g j n m (by rw[c];exact d) ⟨.ref a,H,I,rfl,q1 d⟩
 ·exact M9 pins s σ H _ v o p l k q Q I i j n m ⟨a,b,rfl,f,d,q2 d⟩
def KR(h:.kz 0 i=0/\.kz l.length j=l.length):cut l i j=l:=by
 unfold cut;rw[h.1,h.2];simp
def A3{lo hi:.mD}(U:.i a z)(G:MO X lo B)(E:MO X hi A):.i (.dk a<|.mG k) (nu z B A):=by
 refine PE.imp (xS Ri U G E) λσ H Q ⟨ρ,σd,L,M,x⟩=>?_;unfold nu at x;refine⟨ρ,σd,L,M,(.ij x).imp λv Y ⟨s,d,r,Z,f,P,C⟩=>?_⟩;refine⟨s,σd,r,f,(cm.bind (R:=rO) C).imp λT V ⟨m,N,j,I,i,q2,k⟩=>?_⟩;cases q2;refine⟨m,σd,j,i,(cm.bind (R:=rO) k).imp λF W ⟨J,D,S,O,g,q3,h⟩=>?_⟩;cases q3;have c:=(P.mono<|f.hp.kp I).mono (i.hp.kp O);cases d with
 |tup l =>
  simp only at h;dsimp[RD]at c;obtain⟨q,t,rfl,w,b⟩:=c;have e:∀(n d:Nat) (o:.aF),Fm.sIx n d o=HT.sIx n d o:=λn d o=>by cases o<;>rfl
  refine⟨q,t,rfl,SqT.of w,λy=>?_,λ_ K u=>?_⟩
  ·rw[<-b.length,<-e,<-e]at y
   rw[KR y]at h;exact h.here g (by dsimp[rD,RD];exact⟨q,t,rfl,w,b⟩)
  ·have p:=c6 (o:=HO.tup (uf t T F)) u
   exact h.at (.e5 p) (g.same p) (by dsimp[rD,RD];exact⟨K,_,rfl,bN,(Cr b).mono (.cz p)⟩)
 |_=>exact h.elim
end Fm
namespace Fm
open PySem PySem.Spec L2
open AutoSeq1 (wpAny_loadPart')
open PyProof.Rows (Call_)
section
variable{X:Cx}{pos p tp:Pos}{elts:.aO}{tk:Nat}
/---/def X9(K:ZX)(ta:TE):TI:=λσ H R=>ta σ H λx H1=>∃a xs,x=.ref a/\SqL K H1 a xs/\(xs.length<=sizeLine->R (ItL K a) H1)
def N1(D:.qe)(hm:.pV)(F:.D a k)(t:.bm X.env=.i0:=by rfl):PI X .ki .qr (X9 X.K k):=by
 intro pins s σ H R I h;have m:=dr F fB t;refine Call_ (oT I D hm PyProof.Rows.boot_enumerate (Y1 (thn (m pos pins s σ H (λv c=>∃a d,v=.ei/\SqL X.K c a d/\.nn) I ?_) λK f ⟨v,c,j,A,q1⟩=>?_) t rfl))
 ·show k σ H λx c=>_
  have r:∀(x:V) (c:Hp),(∃a d,x=.ref a/\SqL X.K c a d/\.nn)=(∃a d,[x]=.ei/\SqL X.K c a d/\.nn):=λx c=>by simp
  have g:k σ H λx c=>∃a d,x=.ref a/\SqL X.K c a d/\.nn:=h;dsimp[r]at g;exact g
 ·obtain⟨a,d,e,E,q⟩:=q1
  subst e;obtain⟨u,rfl,z⟩:=bM.one A;cases (show u=Value.ref a from z);obtain⟨o,M,J,B⟩:=j.list E;refine call_enumerate_list (show f.heap.IsList a o.toArray from J.isList) λg w n C y=>?_;refine wpAny_pyIter_enum (s:=.oj) w ?_;have G:.bE c .oj:=j.kept (t':=f.toks) y;refine⟨f.heap.objs.size+1,.zT,_,_,c,rfl,G,AZ (L:=true) (f.heap.objs.size+1) f.heap.objs.size a,⟨⟨_,by simpa using w⟩,n⟩,λb l=>?_,q B⟩;have i:f.heap.objs.size<=b:=by
   rcases y6.mp l with e|l
   ·rw[e];exact Nat.le_succ _
   ·have:b=f.heap.objs.size:=by simpa using l
    rw[this];exact ZL _
  exact j.fpOk i (j.hok.fresh i)
theorem Hi{K:ZX}{n:Nat}(w:ρ[n]?=some q)(hz:(gQ l).length<=sizeLine):vQ K ρ H (ItL K q) (gQ l) (λh=>h[n]?=some .d7) where
 go:=λρ' z hd' i d j m g u=>by
  have b:=j.get w;obtain⟨e,f,a⟩:=m.cel n _ q g b;unfold gQ at u;obtain⟨k,r⟩:=zA.mp u;have A:i<l.length:=by simpa using k
  have E:d=.tup [.int (i:Nat),l[i]]:=by rw[<-r];simp
  subst E;obtain⟨v,c,C⟩:=a.get (i:=i) (d:=l[i]) (by simp[A]);have t:SqL K z q e:=SqL.of f;refine⟨⟨e,v,t,c⟩,λx F y=>?_⟩;obtain⟨q2,G,rfl,B,rfl,y⟩:=y;have:=y e t;rw[c]at this;cases this;have s:=c6 (o:=HO.tup [.int (i:Nat),v]) B;refine⟨s,?_⟩;dsimp[RD];exact⟨q2,_,rfl,bN,.kw (.kq<|C.mono<|.cz s)⟩
 stop:=λρ' z hd' j m g=>by
  have b:=j.get w;obtain⟨e,f,a⟩:=m.cel n _ q g b;exact⟨e,SqL.of f,by rw[<-a.length];simp[gQ]⟩
 sz:=hz
/---/def N4(K:ZX)(ρ:.U)(H:Hp)(σd:Sd)(σ:St)(r:Res D)(R:.mC):Prop:=match r with
 |.ok (.ref n) hd'=>match hd'[n]? with
  |some .dQ=>∀J H' ρ',Ext ρ H ρ' H'->RS K ρ' H' σd hd' σ->vQ K ρ' H' J (gQ l) .BY->R J H'
  |_=>False
 |_=>False
/---/def WJ(K:ZX)(f:EF):TI:=λσ H R=>∃ρ σd hd,RS K ρ H σd hd σ/\N4 K ρ H σd σ .jN R
/---/def MIE(X:Cx)(tg e:Expr)(f:EF):Prop:=PI X tg e (WJ X.K f)
def EE{f:EF}(y:.qe)(hm:.pV)(A:.fT)(z:.bm X.env=.i0:=by rfl):MIE X .ki .qr f:=by
 refine PI.imp (N1 y hm A z) λσ H R ⟨ρ,σd,r,B,b⟩=>⟨ρ,σd,r,B,?_⟩;unfold N4 at b;cases e:f σd r with
 |exc x C=>rw[e]at b;exact b
 |bad=>rw[e]at b;exact b
 |ok d h =>
  rw[e]at b;intro v w i g c s;cases d<;>try exact b.elim
  rename_i n
  cases k:h[n]? with
  |none=>dsimp[k]at b
  |some cell =>
   dsimp[k]at b;cases cell with
   |dct l=>exact b.elim
   |dcT l=>exact b.elim
   |ob l=>exact b.elim
   |lst l =>
    simp only at b;dsimp[rD,RD]at s;obtain⟨q,o,rfl⟩:=s;obtain⟨m,u,j⟩:=c.hp.cel n _ q k o;exact⟨q,m,rfl,SqL.of u,λt=>b _ w i g c (Hi o (by rw[show (gQ l).length=m.length by rw[<-j.length];simp[gQ]];exact t))⟩
end
section
variable{X:Cx}{pos:Pos}{tg:Expr}
end
end Fm
namespace Fm
section
open Classical
@[simp] def pd(nl:Nat)(caps:.m)(a:EF)(tg:GF)(cs:List TF)(e:EF):LF:=λσ h=>match a σ h with
 |.ok (.ref n) h=>match h[n]? with
  |some .dQ=>eE .BY tg cs e (gQ l) .uB h
  |_=>.bad
 |.ok _ _=>.bad
 |.exc x h=>.exc x h
 |.bad=>.bad
end
@[simp] def kx(x:EF)(L:LF):EF:=λσ h=>(.fI).bind λp h=>match p with
 |.ref n=>match h[n]? with
  |some (.lst _)=>(L σ h).bind λds h=>match h[n]? with
   |some .dQ=>if l.length+ds.length<=SZ then .ok .non (h.set n<|.lst<|l++ds) else .bad
   |_=>.bad
  |_=>.bad
 |_=>.bad
theorem x9{h:Hd}(I:Sd->Prop)(p:D->Bool)(f:D->D)(a:G h):
  ∀{xs:List D} {σ:Sd},(∀x∈xs,∀σ,I σ->∃σ',tg x σ=some σ'/\I σ'/\j5 cs σ' h=.ok (p x) h/\.sq)->I σ->
   eE G tg cs e xs σ h=.ok .to h
 |[],_,_,_=>by simp[eE,a]
 |x::xs,σ,st,i=>by
  obtain⟨σ',h1,j,d,k⟩:=st x .f σ i;have c:=x9 I p f a (xs:=xs) (σ := σ') (λy g=>st y (by simp[g])) j;cases b:p x with
  |true=>simp[eE,a,h1,d,b,k b,c]
  |false=>simp[eE,a,h1,d,b,c]
/---/def EG(x y:EF):EF:=λσ h=>(.fI).bind λp h=>match p with
 |.ref n=>match h[n]? with
  |some (.lst _)=>(y σ h).bind λq h=>match q with
   |.ref m=>match h[n]?,h[m]? with
    |some .dQ,some (.lst k)=>if l.length+k.length<=SZ then .ok .non (h.set n<|.lst<|l++k) else .bad
    |_,_=>.bad
   |_=>.bad
  |_=>.bad
 |_=>.bad
section
open Classical
@[simp] def jZ(h:Hd):D->Option .tg
 |.tup l=>some (l,none)
 |.exn c l=>if c="" then some (l,none) else none
 |.ref n=>match h[n]? with|some .dQ=>some (l,some n)|_=>none
 |_=>none
@[simp] def se(a b:EF)(tg:GF)(body:SF):SF:=λσ h=>match a σ h with
 |.ok x h1=>match b σ h1 with
  |.ok y h2=>match jZ h2 x,jZ h2 y with
   |some (l,o),some (k,o')=>nE .sG tg body .hj σ h2
   |_,_=>.bad
  |.exc x h=>.exc x σ h
  |.bad=>.bad
 |.exc x h=>.exc x σ h
 |.bad=>.bad
end
abbrev qO:=List (List Nat × List .bW)
/---/def sf(l:.aR):D:=.exn "" (l.map .str)
/---/def Hj(T:qO)(a:EF):EF:=λσ h=>(.O).bind λx h=>match x with
 |.str l=>.ok (.bl (.pd).isNone) h
 |_=>.bad
/---/def EH(T:qO)(a:EF):EF:=λσ h=>(.O).bind λx h=>match x with
 |.str l=>(match T.lookup l with|some d=>.ok (sf d) h|none=>.bad)
 |_=>.bad
/---/def N5(a:EF):EF:=λσ h=>(.O).bind λx h=>match x with
 |.exn c l=>if c="" then .ok (.int l.length) h else .bad
 |_=>.bad
/---/def N7(a:EF):EF:=λσ h=>(.O).bind λx h=>match x with
 |.exn c l=>if c="" then .ok (.bl l.isEmpty) h else .bad
 |_=>.bad
/---/def EI(a:EF):EF:=λσ h=>(.O).bind λx h=>match x with
 |.int i=>if i.natAbs.log2<1920 then .ok (.str<|rK .gr) h else .bad
 |.non=>.ok .v0 h
 |_=>.bad
/---/def vW(a:EF):EF:=λσ h=>(.O).bind λx h=>match x with
 |.str l=>if l.length<=1000000 then .ok (.str l) h else .bad
 |_=>.bad
section
open Classical
@[simp] def jw(nl:Nat)(caps:.m)(a b:EF)(tg:GF)(cs:List TF)(e:EF):LF:=λσ h=>match a σ h with
 |.ok x h1=>match b σ h1 with
  |.ok y h2=>match jZ h2 x,jZ h2 y with
   |some (l,o),some (k,o')=>eE .sG tg cs e .hj .uB h2
   |_,_=>.bad
  |.exc x h=>.exc x h
  |.bad=>.bad
 |.exc x h=>.exc x h
 |.bad=>.bad
end
end Fm
namespace Fm
open PySem PySem.Spec L2
section
variable{X:Cx}{pos:Pos}{scope:Scope}{own capn:.az}{caps:.m}
def EJ(hc:.br)(S:.gN)(hi:MIE X tg a f)
  (U:∀cl C s H ex,MG .ck tg g/\MTs .ck w cs/\ME .ck B e)
  (hs:∀x,foldedSetIterable a X.env x=pure x:=by intro _;rfl):MF X (.ik B [⟨tg,a,w,0⟩]) (pd own.length caps f g cs e):=by
 intro pins s σ H Q I ⟨ρ,σd,R,rs,p⟩;rw[eval_ListComp];unfold pd at p;cases c:f σd R with
 |exc z h7=>rw[c]at p;exact p.elim
 |bad=>rw[c]at p;exact p.elim
 |ok d k =>
  rw[c]at p;cases d<;>try exact p.elim
  rename_i n
  simp only at p;cases N:k[n]? with
  |none=>rw[N]at p;exact p.elim
  |some cell =>
   rw[N]at p;cases cell with
   |dct l=>exact p.elim
   |dcT l=>exact p.elim
   |ob l=>exact p.elim
   |lst F =>
    simp only at p;obtain⟨cl,Y,A,r⟩:=nD λy hy W=>I.ok.has y.1 (S.free y hy W);refine zZz rfl hs Y S.kind S.names (thn (hi pins s σ H (λJ E=>∃i,Ext ρ H i E/\RS X.K i E σd k σ/\vQ X.K i E J (gQ F) (λh=>h[n]? = some (.lst F))) I ⟨ρ,σd,R,rs,by
     unfold N4;rw[c];dsimp[N];exact λJ H' ρ' ex P L=>⟨ρ',ex,P,L⟩⟩) λv s1 Y=>thn Y λa1 s2 h2=>?_)
    obtain⟨it,fp,tn,J,E,rfl,D,T,O,hf,i,j,t,L⟩:=h2;generalize hG:(λh:Hd=>h[n]?=some (.lst F))=G at p L;cases K:eE G g cs e (gQ F) .iX k with
    |exc z h7=>rw[K]at p;exact p.elim
    |bad=>rw[K]at p;exact p.elim
    |ok ds hdF =>
     rw[K]at p;refine pW hc S U D T O hf t L A r K λC s' m H' ρ' vs M hn I' Z ex rh u hD V a0=>?_;refine⟨m,hn,λh' sb=>⟨.ref s2.heap.objs.size,H',?_,rfl,?_⟩⟩
     ·refine I'.turned .nt Z ?_ (.inr<|YB<|ZS D.sz M) (λx c e z=>?_) λq hq z=>?_
      ·exact Z9 (Z1 D.lt M)
      ·obtain⟨v,o,ho,R⟩:=D.cell x c e
       exact absurd (Z1 (ZI ho) M) .fq
      ·exact absurd (Z1 (ZI (D.pin q hq).1) M) .fq
     ·exact p _ vs H' ρ' (j.trans ex) (rs.ext (j.trans ex) rh) (j.fresh u<|t.hp.free u) hD V a0
end
section
variable{X:Cx}
def p0{K:EF}{apos f:Pos}(V:.i o K)(he:MF X e L)(h:.e8 "extend" X.env .c8=eval o X.env:=by rfl)
  (u:((backTo f .iQ).all .eK && (.mL f).all .eH
   && decide .hb)=true:=by rfl)
  (k:.CR=true:=by rfl) (F:.kx X.env=(false,.aB X.env)::starEach [] X.env:=by rfl) :
  ME X (.Call (.dS "extend") [e] [] f) (kx K L):=by
 refine PE.imp (.v4 PySem.F.slot_list_extend PySem.F.type_list_extend AT V (dr he fB F) h u k F) λσ H Q ⟨ρ,σd,T,U,J⟩=>⟨ρ,σd,T,U,?_⟩;unfold kx at J;refine (.al J).imp λv H1 ⟨A,d,j,e1,s,M,b⟩=>?_;cases d<;>try exact b.elim
 rename_i n
 dsimp[rD,RD]at M;obtain⟨a,N,rfl⟩:=M;simp only at b;cases C:j[n]? with
 |none=>rw[C]at b;exact b.elim
 |some cell1 =>
  rw[C]at b;cases cell1 with
  |dct l=>exact b.elim
  |dcT l=>exact b.elim
  |ob l=>exact b.elim
  |lst l1 =>
   obtain⟨W,R,_⟩:=s.hp.cel n _ a C N;simp only at b;refine⟨.inl ⟨rfl,W,SqL.of R⟩,A,σd,j,s,?_⟩;cases y:L σd j with
   |exc z h7=>rw[y]at b;exact b.elim
   |bad=>rw[y]at b;exact b.elim
   |ok ds p =>
    rw[y]at b;dsimp[aR]at b;intro q O D r G i Y S I w;cases c:p[n]? with
    |none=>rw[c]at b;exact b.elim
    |some cell =>
     rw[c]at b;cases cell with
     |dct l=>exact b.elim
     |dcT l=>exact b.elim
     |ob l=>exact b.elim
     |lst l =>
      simp only at b;split at b
      ·rename_i P
       have m:=G.get N;obtain⟨t,B,g⟩:=i.hp.cel n _ a c m;refine⟨a,q,t,O,rfl,rfl,B,S,?_,?_⟩
       ·rw[<-g.length,<-w.length];exact ZM P .lr
       ·have I:n<p.length:=(.gE).1
        have Z:=i.hp.write m I (RDs.append g w);have E:Ext r D r (upd D a<|.lst<|t++O):=Ext.write (ZK m);exact(b.ext G).at E (i.ext E Z) .ac
      ·exact b.elim
end
end Fm
namespace Fm
open PySem PySem.Spec L2 PySem.W PyProof.Rows
section
variable{X:Cx}{pos:Pos}
def ay{i:Nat}{x:Str}{f:EF}{pos':Pos}(he:.dh)(d:X.N.Nodup:=by exact YD (by kernel_rfl))(hi:X.N[i]?=some x:=by rfl)(b:Loc X.env.scope x:=by exact lc)(c:.v5 X.env=pure false:=by rfl)(a:X.fn x=true\/X.env.scope.names.lookup x=some .local:=by first|exact .inl rfl|exact .inr rfl|assumption):
  MS X (.g1 .oN) (aD (gN i) f):=Uy d hi b he c a
def aA{i:Nat}{x:Str}(c:X.N.Nodup:=by exact YD (by kernel_rfl))(hi:X.N[i]?=some x:=by rfl)(b:Loc X.env.scope x:=by exact lc)(a:X.fn x=true\/X.env.scope.names.lookup x=some .local:=by first|exact .inl rfl|exact .inr rfl|assumption):MG X .e0 (gN i):=Q1 c hi b a
def ee(own:.az)(hi:MI X tg a f)
  (d:∀{cl C s H ex},MG .sh tg g/\MTs .sh c cs/\ME .sh b e)
  (h:X.calm=true:=by rfl) (S:cA X scope own [] []:=by exact cA.a bU.nil) (i:∀x,foldedSetIterable a X.env x=pure x:=by intro _;rfl):MF X (.ik b [⟨tg,a,c,0⟩]) (bG own.length [] f g cs e):=fF h S hi (λ_ _ _ _ _=>d) i
end
section
variable{K:ZX}
structure OkD(P:N3)(w:N6)(K:ZX)(mg:.aw)(base:Heap)(x:Str)(st:Stmt)(k:Nat)(ps:.az)(F:Fn)(np:Nat):Prop where
 ok:∀{f fd},Fun K x x st f fd->ji P w K mg base CX0 k f fd ps .ja
def okd{st:Stmt}{ps:.az}{k np n:Nat}{b:SF}(N:.az)
  (body:∀{f:Addr} {a:S1} {A:P2} {outer:.eo} {s:P1} {H:Hp} {E:XK},iz k .rh->(.rh).units+24<cLine->MSs (.wz).nox .hP b) (hp:ps.length=np:=by rfl) (hn:N.length=n:=by rfl) (S:gF N ps .dC:=by exact fsc):.l x st (k+1) ps (bB np n b) np:=by
 subst hp hn;exact⟨λF=>WA F S λa A outer s H E c=>body c (UL c)⟩
end
section
variable{A:P2}{E:.R}{s:P1}{κ:Type}[DecidableEq κ]{knd:KeyKind prog w κ}
end
section
variable{X:Cx}
def Rj{K M:EF}{apos f:Pos}(Z:.i o K)(he:.i e M)(q:.e8 "extend" X.env .c8=eval o X.env:=by rfl)
  (A:((backTo f .iQ).all .eK && (.mL f).all .eH
   && decide .hb)=true:=by rfl)
  (r:.CR=true:=by rfl) (I:.kx X.env=(false,.aB X.env)::starEach [] X.env:=by rfl) :
  ME X (.Call (.dS "extend") [e] [] f) (EG K M):=by
 refine PE.imp (.v4 PySem.F.slot_list_extend PySem.F.type_list_extend AT Z (dr he fB I) q A r I) λσ H Q ⟨ρ,σd,V,W,J⟩=>⟨ρ,σd,V,W,?_⟩;unfold EG at J;refine (.ij J).imp λv H1 ⟨C,d,y,e1,w,L,h⟩=>?_;cases d<;>try exact h.elim
 rename_i n
 dsimp[rD,RD]at L;obtain⟨a,N,rfl⟩:=L;simp only at h;cases E:y[n]? with
 |none=>rw[E]at h;exact h.elim
 |some cell1 =>
  rw[E]at h;cases cell1 with
  |dct l=>exact h.elim
  |dcT l=>exact h.elim
  |ob l=>exact h.elim
  |lst l1 =>
   obtain⟨vs,S,_⟩:=w.hp.cel n _ a E N;simp only at h;refine⟨.inl ⟨rfl,vs,SqL.of S⟩,C,σd,y,w,?_⟩;refine (.ij h).imp λv2 F ⟨u,d2,p,T,i,t,g⟩=>?_;cases d2<;>try exact g.elim
   rename_i m
   dsimp[rD,RD]at t;obtain⟨b,Y,rfl⟩:=t;simp only at g;cases c:p[n]? with
   |none=>rw[c]at g;exact g.elim
   |some cell =>
    cases d:p[m]? with
    |none=>rw[c,d]at g;cases cell<;>exact g.elim
    |some cell' =>
     rw[c,d]at g;cases cell<;>cases cell'<;>try exact g.elim
     rename_i l k
     simp only at g;split at g
     ·rename_i P
      have s:=T.get N;obtain⟨z,D,j⟩:=i.hp.cel n _ a c s;obtain⟨O,hw,B⟩:=i.hp.cel m _ b d Y;refine⟨a,b,z,O,rfl,rfl,D,hw,?_,?_⟩
      ·rw[<-j.length,<-B.length];exact ZM P .lr
      ·have U:n<p.length:=(.gE).1
       have rh:=i.hp.write s U (RDs.append j B);have G:Ext u F u (upd F a<|.lst<|z++O):=Ext.write (ZK s);exact g.at G (i.ext G rh) .ac
     ·exact g.elim
end
end Fm
namespace Fm
open PySem PySem.Spec L2
open PyProof.Rows (Call_)
section
variable{X:Cx}{pos p p2 pos2:Pos}
end
section
variable{prog:N3}{w:N6}{A:P2}{E:.R}{s:P1}
def qP(t:It2 L s.heap it l i)(u:Sq2 L s.heap l a)(b:a[i]?=some x)
  (q:∀h',It2 L h' it l (i+1)->Heap.SameBut it s.heap h'->Q x .dB):.bP .no Q E s:=by
 cases L
 ·exact kX t u b q
 ·exact wpAny_nextOf_list_item t u b q
def A4(d:.ib)(t:It2 L s.heap it l i)(u:Sq2 L s.heap l a)(b:a[i]?=none)
  (c:.D7):.bP .no Q E s:=by
 cases L
 ·exact mC d t u b c
 ·exact wpAny_nextOf_list_end d t u b c
end
section
variable{La Lb:Bool}{prog:N3}{w:N6}{A:P2}{E:.R}{s:P1}{z TI TO i1 i2 l1 l2:Addr}{k:Nat}{xs ys:.bL}{a b:S1}
def KS{Q:.R}(Z:.pP)(F:.pR)(gI:.pI)(gO:.p0)
  (W:.pX) (t2:.pW) (X:.p4) (u2:.p3) (ex:xs[k]?=some x) (ey:ys[k]?=some y)
  (q:∀h',IsZip h' z TI TO .Ch->IsPair h' TO x y->It2 La h' i1 l1 (k + 1)->It2 Lb h' i2 l2 (k + 1)->IsPair h' s.heap.objs.size x y->h'.objs.size=s.heap.objs.size + 1->
   (∀c o,c≠z->c≠TO->c≠i1->c≠i2->s.heap.get? c=some o->h'.get? c=some o)->Q .hy .dB) :
  wpAny .aC A .y8 (λfin s'=>∃v,fin=.done (.ret v)/\Q v s') E s:=by
 show wpAny _ _ .Cm _ _ _;refine zD (W1 F rfl (x:=.bool false) rfl ?_);show wpAny _ _ .Cl _ _ _;refine zD (W1 F rfl (x:=.ref TI) rfl (zD (zZo gI rfl ?_)));show wpAny _ _ .x0 _ _ _;unfold Builtin.SmallTypes.ownedTupleIsFree;refine zD (zD<|W1 F rfl (x:=.none) rfl .cU);dsimp[Y5];refine zD (wpAny_rule (zD (W1 F rfl (x:=.ref TO) rfl (zD (zZp F .f λg1 l m=>zD ?_)))));replace l:IsZip g1 z TI TO .ellipsis:=l;dsimp[List.zipIdx_cons,List.zipIdx_nil,List.forIn_cons,List.forIn_nil];refine zD .qs;show wpAny _ _ .yN _ _ _;refine zD (qP (W.extBut m.extBut Z.i1z) (nF X m.extBut Z.l1z) ex λg2 P n=>x3 ?_);have D:IsPair g2 TO a b:=n.extBut _ _ Z.TOi1 (m.extBut _ _ Z.TOz gO);refine zD (zZo D rfl<|zD<|wpAny_updateSeq_pair D λY j p=>zD (wpAny_letGo .cU));replace j:IsPair Y TO x b:=j;refine zD .qs;show wpAny _ _ .yM _ _ _;refine zD (qP (((t2.extBut m.extBut Z.i2z).extBut n.extBut Z.i12.symm).extBut p.extBut Z.TOi2.symm) (nF (nF (nF u2 m.extBut Z.l2z) n.extBut Z.l2i1) p.extBut Z.l2TO) ey λV M B=>x3 ?_);have r:IsPair V TO x b:=B.extBut _ _ Z.TOi2 j;refine zD (zZo r rfl<|zD<|wpAny_updateSeq_pair r λd g t=>zD (wpAny_letGo<|x3 .cU));replace g:IsPair d TO x y:=g;refine zD (zZo g rfl (zD (wpAny_newTuple ?_)));have S:d.objs.size=s.heap.objs.size:=by rw[t.1,B.1,p.1,n.1,m.1]
 have u:IsZip d z TI TO .ellipsis:=t.extBut _ _ Z.TOz.symm (B.extBut _ _ Z.i2z.symm<|p.extBut _ _ Z.TOz.symm<|n.extBut _ _ Z.i1z.symm l);have kp:∀c o,c≠z->c≠TO->c≠i1->c≠i2->s.heap.get? c=some o->d.get? c=some o:=λc o i H L R e=>t.extBut _ _ H (B.extBut _ _ R<|p.extBut _ _ H<|n.extBut _ _ L<|m.extBut _ _ i e);have N:It2 La d i1 l1 (k+1):=((P.extBut p.extBut Z.TOi1.symm).extBut B.extBut Z.i12).extBut t.extBut Z.TOi1.symm;have O:It2 Lb d i2 l2 (k+1):=M.extBut t.extBut Z.TOi2.symm;have T:z<d.objs.size:=ZI u;show wpAny _ _ (Builtin.SmallTypes.ownedTupleHandOut .jH (.ref d.objs.size) >>= λ_=>_) _ _ _;unfold Builtin.SmallTypes.ownedTupleHandOut;have K:IsZip (d.push { cls:=.type "tuple",data:=.seq #[x,y] }) z TI TO .ellipsis:=.aa u;refine zD (zD (zZp K .f λg7 h J=>?_));replace h:IsZip g7 z TI TO (rawInt d.objs.size):=h;refine zZp h .f λC f I=>?_;replace f:IsZip C z TI TO (rawInt d.objs.size):=f;have G:∀c o,c≠z->d.get? c=some o->C.get? c=some o:=λc o i e=>I.extBut _ _ i (J.extBut _ _ i .h5);have gT:IsPair C d.objs.size x y:=I.extBut _ _ (Z9 T) (J.extBut _ _ (Z9 T) .jP);have U:C.objs.size=d.objs.size+1:=by rw[I.1,J.1,YS]
 rw[S]at f gT U;refine x3 ⟨_,rfl,?_⟩;show Q (.ref d.objs.size) _;rw[S];exact q C f (G _ _ Z.TOz g) (N.at λo e=>G _ o Z.i1z e) (O.at λo e=>G _ o Z.i2z e) gT U λc o i H L R e=>G c o i (kp c o i H L R e)
def N8(F:.ib)(Z:.pP)(r:.pR)(O:.pI)(S:.p0)
  (G:.pX) (W:.pW) (I:.p4) (R:.p3) (nd:xs[k]?=none\/ys[k]?=none)
  (q:∀h' e,(∀c o,c≠z->c≠TO->c≠i1->c≠i2->s.heap.get? c=some o->h'.get? c=some o)->(∃o,h'.get? e=some o/\o.cls=.type "StopIteration")->E (.ref e) .dB) :
  wpAny .aC A .y8 Q E s:=by
 show wpAny _ _ .Cm _ _ _;refine zD (W1 r rfl (x:=.bool false) rfl ?_);show wpAny _ _ .Cl _ _ _;refine zD (W1 r rfl (x:=.ref TI) rfl (zD (zZo O rfl ?_)));show wpAny _ _ .x0 _ _ _;unfold Builtin.SmallTypes.ownedTupleIsFree;refine zD (zD<|W1 r rfl (x:=.none) rfl .cU);dsimp[Y5];refine zD (wpAny_rule (zD (W1 r rfl (x:=.ref TO) rfl (zD (zZp r .f λN d f=>zD ?_)))));replace d:IsZip N z TI TO .ellipsis:=d;dsimp[List.zipIdx_cons,List.zipIdx_nil,List.forIn_cons,List.forIn_nil];refine zD .qs;show wpAny _ _ .yN _ _ _;cases t:xs[k]? with
 |none =>
  refine zD (A4 F .Cw (nF I f.extBut Z.l1z) t λy e g C=>?_);obtain⟨u,h,j⟩:=C;have m:IsZip y z TI TO .ellipsis:=g _ _ Z.i1z.symm d;have ne:e≠z:=λv=>by subst v;rw[m]at h;cases h;simp at j
  exact zZp m .f λJ _ i=>q J e (λc o l _ B _ v=>i.extBut _ _ l (g _ _ B<|f.extBut _ _ l v)) ⟨u,i.extBut _ _ ne h,j⟩
 |some x =>
  have T:ys[k]?=none:=nd.resolve_left (by rw[t];exact Option.some_ne_none _);refine zD (qP .Cw (nF I f.extBut Z.l1z) t λy U g=>x3 ?_);have p:IsPair y TO a b:=g.extBut _ _ Z.TOi1 (f.extBut _ _ Z.TOz S);refine zD (zZo p rfl<|zD<|wpAny_updateSeq_pair p λJ P i=>zD (wpAny_letGo .cU));refine zD .qs;show wpAny _ _ .yM _ _ _;refine zD (A4 F (((W.extBut f.extBut Z.i2z).extBut g.extBut Z.i12.symm).extBut i.extBut Z.TOi2.symm) (nF (nF (nF R f.extBut Z.l2z) g.extBut Z.l2i1) i.extBut Z.l2TO) T λK e H C=>?_);obtain⟨u,h,j⟩:=C;have n:IsZip K z TI TO .ellipsis:=H _ _ Z.i2z.symm (i.extBut _ _ Z.TOz.symm<|g.extBut _ _ Z.i1z.symm d);have ne:e≠z:=λv=>by subst v;rw[n]at h;cases h;simp at j
  exact zZp n .f λM _ D=>q M e (λc o l L B V v=>D.extBut _ _ l (H _ _ V<|i.extBut _ _ L<|g.extBut _ _ B<|f.extBut _ _ l v)) ⟨u,D.extBut _ _ ne h,j⟩
def Cw(Z:.pP)(e:.pR)(B:.pI)(l:.p0)
  (m:.pX) (h:.pW) (p:.p4) (g:.p3) (ex:xs[k]?=some x) (t:ys[k]?=some y)
  (q:∀h',IsZip h' z TI TO .Ch->IsPair h' TO x y->It2 La h' i1 l1 (k + 1)->It2 Lb h' i2 l2 (k + 1)->IsPair h' s.heap.objs.size x y->h'.objs.size=s.heap.objs.size + 1->
   (∀c o,c≠z->c≠TO->c≠i1->c≠i2->s.heap.get? c=some o->h'.get? c=some o)->Q (some .hy) .dB) :
  wpAny .aC A (pyNext .jH) Q E s:=by
 have d:s.TypeIs .jH "zip" := ⟨_,e,rfl⟩;unfold pyNext;refine zD (wpAny_attempt (YU (name:=Str.ofString "__next__") d F.slot_zip_next (yo F.slot_zip_next d F.entry_zip_next ?_<|F.args_zip_next_1 _)));exact KS Z e B l m h p g ex t λh' v r i j n u f=>x3 (q h' v r i j n u f)
def EK(i:.ib)(Z:.pP)(f:.pR)(u:.pI)(n:.p0)
  (p:.pX) (m:.pW) (r:.p4) (l:.p3) (nd:xs[k]?=none\/ys[k]?=none)
  (q:∀h',(∀c o,c≠z->c≠TO->c≠i1->c≠i2->s.heap.get? c=some o->h'.get? c=some o)->Q none .dB):.bP (pyNext .jH) Q E s:=by
 have d:s.TypeIs (.ref z) "zip" := ⟨_,f,rfl⟩;unfold pyNext;refine zD (wpAny_attempt (YU (name:=Str.ofString "__next__") d F.slot_zip_next (yo F.slot_zip_next d F.entry_zip_next ?_<|F.args_zip_next_1 _)));refine N8 i Z f u n p m r l nd λh' e g t=>?_;obtain⟨o,h,j⟩:=t;exact zD (wpAny_isInstance (T := "StopIteration") (b:=true) ⟨o,h,j⟩ isSubtype_stop<|x3<|q _ g)
end
/---/def zm1(La:Bool)(h:Heap)(l1:Addr):Heap:=h.push { cls:=.type (itN La),data:=.fields #[.ref l1,.int 0 0] }
/---/def zm2(La Lb:Bool)(h:Heap)(l1 l2:Addr):Heap:=(zm1 La h l1).push { cls:=.type (itN Lb),data:=.fields #[.ref l2,.int 0 0] }
/---/def zm3(La Lb:Bool)(h:Heap)(l1 l2:Addr):Heap:=(zm2 La Lb h l1 l2).push { cls:=.type "tuple",data:=.seq #[.ref h.objs.size,.ref (zm1 La h l1).objs.size] }
/---/def zm4(La Lb:Bool)(h:Heap)(l1 l2:Addr):Heap:=(zm3 La Lb h l1 l2).push { cls:=.type "tuple",data:=.seq #[.none,.none] }
/---/def zm5(La Lb:Bool)(h:Heap)(l1 l2:Addr):Heap:=(zm4 La Lb h l1 l2).push { cls:=.type "zip",data:=.fields #[.none,.bool false,.bool false,.ref (zm2 La Lb h l1 l2).objs.size,.ref (zm3 La Lb h l1 l2).objs.size] }
def Cy{L:Bool}{h:Heap}{l:Addr}{xs:.bL}{o:Obj}(u:.qo):Sq2 L (h.push o) l xs:=by
 cases L<;>(obtain⟨o,a,r⟩:=u;exact⟨o,.aa a,r⟩)
def sqT{h:Heap}{l:Addr}{xs:.bL}(u:Sq2 false h l xs):Heap.IsTuple h l xs:=u
def sqL{h:Heap}{l:Addr}{xs:.bL}(u:Sq2 true h l xs):Heap.IsList h l xs:=u
set_option maxHeartbeats 4000000 in
def Hk(La Lb:Bool)(b e:Addr)(xs ys:.bL):
  Meets (Builtin.«zip.__new__» ⟨[.type "zip",.ref b,.ref e],[]⟩) (λ_ R s=>Sq2 La s.heap b xs/\Sq2 Lb s.heap e ys/\R (.ok<|.ret<|.ref (zm4 La Lb s.heap b e).objs.size) { s with heap:=zm5 La Lb s.heap b e }) :=
 .of_wp λprog w A R s h=>by
  obtain⟨i,g,d,j,k⟩:=s;obtain⟨a,c,h⟩:=h;have f:=sub_zip;cases La<;>cases Lb
  ·wp_walk using zv (sqT a),zv (sqT<|Cy c)
   exact⟨_,rfl,h⟩
  ·wp_walk using zv (sqT a),zYm (sqL<|Cy c)
   exact⟨_,rfl,h⟩
  ·wp_walk using zYm (sqL a),zv (sqT<|Cy c)
   exact⟨_,rfl,h⟩
  ·wp_walk using zYm (sqL a),zYm (sqL<|Cy c)
   exact⟨_,rfl,h⟩
section
variable{La Lb:Bool}{prog:N3}{w:N6}{A:P2}{E:.R}{s:P1}
def KU(r:Sq2 La s.heap a xs)(m:Sq2 Lb s.heap b ys)
  (q:∀h',IsZip h' (s.heap.objs.size + 4) .DC (s.heap.objs.size + 3) .none->IsPair h' .DC .hy (.ref .i1)->
   IsPair h' .tq .none .none->It2 La h' s.heap.objs.size a 0->It2 Lb h' .b5 b 0->h'.objs.size=s.heap.objs.size+5->
   (∀c o,s.heap.get? c=some o->h'.get? c=some o)->Q (.ref<|s.heap.objs.size+4) .dB) :
  wpAny .aC A (call (.type "zip") [.ref a,.ref b]) Q E s:=by
 refine callType_new F.called_zip .a (F.typeCall_zip_2 _ _) (F.newCall_zip_2 _ _) (λobj=>F.args_object_init_3 obj _ _) F.entry_zip_new (Hk La Lb a b xs ys) ⟨r,m,?_⟩;have h:(zm1 La s.heap a).objs.size=s.heap.objs.size+1:=YS ..;have d:(.Dt).objs.size=s.heap.objs.size+2:=(YS ..).trans (by rw[h]);have f:(.Ds).objs.size=s.heap.objs.size+3:=(YS ..).trans (by rw[d]);have g:(zm4 La Lb s.heap a b).objs.size=s.heap.objs.size+4:=(YS ..).trans (by rw[f]);have n:(.fn).objs.size=s.heap.objs.size+5:=(YS ..).trans (by rw[g]);have i:∀{c o},(zm1 La s.heap a).get? c=some o->(.fn).get? c=some o:=λe=>.aa (.aa<|.aa .h5);have k:∀{c o},(.Dt).get? c=some o->(.fn).get? c=some o:=λe=>.aa (.aa .h5);have u:∀{c o},(.Ds).get? c=some o->(.fn).get? c=some o:=λe=>.aa .h5;have p:(.fn).get? s.heap.objs.size=some { cls:=.type (itN La),data:=.fields #[.ref a,.int 0 0] }:=i .jP;have v:(.fn).get? .b5=some { cls:=.type (itN Lb),data:=.fields #[.ref b,.int 0 0] }:=by rw[<-h];exact k .jP
 have t:(.fn).get? (s.heap.objs.size+2)=some { cls:=.type "tuple",data:=.seq #[.ref s.heap.objs.size,.ref .b5] }:=by rw[<-d,<-h];exact u .jP
 have l:(.fn).get? .tq=some { cls:=.type "tuple",data:=.seq #[.none,.none] }:=by rw[<-f];exact .aa .jP
 have j:(.fn).get? (s.heap.objs.size+4)=some { cls:=.type "zip",data:=.fields #[.none,.bool false,.bool false,.ref (s.heap.objs.size+2),.ref .tq] }:=by rw[<-g,<-d,<-f];exact ZJ _ rfl
 show _/\_;rw[g];exact⟨⟨_,j,rfl⟩,q _ j t l (It2.mk p) (It2.mk v) n λc o e=>i .h5⟩
end
/---/def Itm(La Lb:Bool)(K:ZX)(a b:Addr):It :=
 ⟨λi H=>∃xs ys x y,SqM La K H a xs/\SqM Lb K H b ys/\xs[i]?=some x/\ys[i]?=some y,λi H x H'=>∃q v u,x=.ref q/\H q=none/\H'=upd H q (.tup [v,u])/\(∀xs,SqM La K H a xs->xs[i]?=some v)/\∀ys,SqM Lb K H b ys->ys[i]?=some u,λi H=>∃xs ys,SqM La K H a xs/\SqM Lb K H b ys/\min xs.length ys.length=i⟩
theorem KW{K:ZX}(z TI TO j l a b:Addr)(Z:ZipApart z TI TO j l a b):
  Eb P w K (.kr elts) (Itm La Lb K a b) [z,TI,TO,j,l] z (λi h=>IsZip h z TI TO .none/\IsPair h TI (.ref j) .jY/\(∃x y,IsPair h TO x y)/\It2 La h j a i/\It2 Lb h l b i) where
 mem:=by simp
 obj:=λi h A c g=>by
  obtain⟨M,F,⟨x,y,L⟩,O,N⟩:=A;have f:c=z\/c=TI\/c=TO\/c=j\/c=l:=by simpa using g
  rcases f with rfl|rfl|rfl|rfl|rfl
  ·exact⟨_,M,λv e=>by
    have C:Data.fields _=Data.cell v:=e;cases C⟩
  ·exact⟨_,F,λv e=>by
    have C:Data.seq _ _=Data.cell v:=e;cases C⟩
  ·exact⟨_,L,λv e=>by
    have C:Data.seq _ _=Data.cell v:=e;cases C⟩
  ·exact O.obj
  ·exact N.obj
 keep:=λi h h' A t=>by
  obtain⟨M,F,⟨x,y,L⟩,O,N⟩:=A;exact⟨t z .f _ M,t TI .f _ F,⟨x,y,t TO .f _ L⟩,O.at (λo e=>t j .f o e),N.at (λo e=>t l .f o e)⟩
 item:=by
  intro X hP hw hK g i pins s σ H E I T A hg;subst hP hw hK;obtain⟨M,F,⟨x0,y0,L⟩,O,N⟩:=A;obtain⟨xs,ys,x,y,J,G,hx,hy⟩:=hg;obtain⟨B,S,p1,a3⟩:=pc I J;obtain⟨D,Q,p2,a4⟩:=pc I G;obtain⟨u,hu,ru⟩:=S.get hx;obtain⟨v,hv,rv⟩:=Q.get hy;have T1:Sq2 La s.heap a B.toArray:=p1;have T2:Sq2 Lb s.heap b D.toArray:=p2;have ld:=λc (h:c∈[z,TI,TO,j,l])=>T c h;refine Cw Z M F L O N T1 T2 (by simpa using hu) (by simpa using hv) λh' az aO a1 a2 aN a6 t=>⟨_,rfl,wpAny_letOwnedTupleGo_zip az λh2 a5 Y=>?_⟩;have zl:z<s.heap.objs.size:=ZI M;have Il:TI<s.heap.objs.size:=ZI F;have Ol:TO<s.heap.objs.size:=ZI L;have l1:j<s.heap.objs.size:=by obtain⟨_,e,_⟩:=O.obj;exact ZI e
  have l2:l<s.heap.objs.size:=by obtain⟨_,e,_⟩:=N.obj;exact ZI e
  have U:H s.heap.objs.size=none:=I.hok.fresh .B;have keep:∀c o,c∉[z,TO,j,l]->s.heap.get? c=some o->h2.get? c=some o:=λc o g e=>by
   have f:c≠z/\c≠TO/\c≠j/\c≠l:=by simpa using g
   exact(Y.2 c f.1).trans (t c o f.1 f.2.1 f.2.2.1 f.2.2.2 e)
  have nw:IsPair h2 s.heap.objs.size u v:=(Y.2 _<|Z9 zl).trans aN;have p:∀c∈[z,TO,j,l],c∈[z,TI,TO,j,l]:=λc g=>by simp at g⊢;rcases g with e|e|e|e<;>simp[e]
  have a0:IsPair h2 TI (.ref j) .jY:=keep TI _ (by simp;exact⟨Z.TIz,Z.TITO,Z.TIi1,Z.TIi2⟩) F;refine⟨.ref s.heap.objs.size,.a2 s.heap.objs.size (.tup [x,y]),?_,rfl,⟨_,x,y,rfl,U,rfl,λzs R=>by rw[Cs I R J];exact hx,λzs R=>by rw[Cs I R G];exact hy⟩,
   ⟨a5,a0,⟨_,_,(Y.2 _ Z.TOz).trans aO⟩,(a1.at λo e=>(Y.2 _ Z.i1z).trans e),(a2.at λo e=>(Y.2 _ Z.i2z).trans e)⟩,λc g=>?_⟩
  ·suffices I2:L2.Inv X pins σ (.qM<|.tup [x,y]) { s with heap:=h2,gens:=s.gens,drawn:=s.drawn,toks:=s.toks } from I2
   have W:∀c V,H c=some V->c∉[z,TO,j,l]:=λc V e q=>by rw[(T c<|p c q).1]at e;cases e
   refine I.step (g':=s.gens) (d':=s.drawn) (t':=s.toks) (ch:=[z,TO,j,l]) (λc g=>?_) (λc o _ _ g q _=>keep c o g q) (λc o _ _ g q _=>⟨o.slots,keep c o g q⟩) (λc o _ q n=>?_) (λc o g q=>⟨o,keep c o g q⟩)
    (λc zs q=>?_) (λc o V q=>?_) (λc ps q=>⟨#[],?_⟩) (λm hm=>?_) (λc V q=>?_) I.bare
   ·have:=T c (p c g)
    exact⟨this.2.2.2.1,this.2.1,this.2.2.2.2.1,this.2.2.2.2.2⟩
   ·rw[bi (ZN<|ZI q)];exact n
   ·rw[bi (cP q U)];exact q
   ·rw[bi (cP q U)];exact q
   ·rw[bi (cP q U),q];simp
   ·obtain⟨o,es,ep,ho,r⟩:=hm
    exact⟨o,es,ep,keep _ o (λq=>(T _<|p _ q).2.1 rfl) ho,r⟩
   ·by_cases hb:c=s.heap.objs.size
    ·subst hb
     rw[bN]at q;cases q;exact⟨by show 2<=sizeLine;rw[YZ];decide,[u,v],.cons ru (.cons rv .nil),_,nw,rfl,_,rfl⟩
    ·rw[bi hb]at q
     refine(I.hok c V q).stay (λd v' hd' e=>?_) (λd e=>by rw[bi (cP e U)];exact e) λd zs e=>by rw[bi (cP e U)];exact e
     rcases hd' with C|C
     ·subst C;exact keep d v' (W d _ q) e
     ·exact keep d v' (W d _ C) e
  ·have f:c=z\/c=TI\/c=TO\/c=j\/c=l:=by simpa using g
   have:c≠s.heap.objs.size:=by rcases f with e|e|e|e|e<;>rw[e]<;>exact ZN (by assumption)
   rw[bi this];exact(T c g).1
 done:=by
  intro X hP hw hK g i pins s σ H E I T A hg;subst hP hw hK;obtain⟨M,F,⟨x0,y0,L⟩,O,N⟩:=A;obtain⟨xs,ys,J,G,hi⟩:=hg;obtain⟨B,S,p1,a3⟩:=pc I J;obtain⟨D,Q,p2,a4⟩:=pc I G;have T1:Sq2 La s.heap a B.toArray:=p1;have T2:Sq2 Lb s.heap b D.toArray:=p2;have e1:=S.length;have e2:=Q.length;have nd:B.toArray[i]?=none\/D.toArray[i]?=none:=by
   rcases Nat.le_total xs.length ys.length with h|h
   ·exact .inl (Array.getElem?_eq_none .X)
   ·exact .inr (Array.getElem?_eq_none .X)
  have p:∀c∈[z,TO,j,l],c∈[z,TI,TO,j,l]:=λc g=>by simp at g⊢;rcases g with e|e|e|e<;>simp[e]
  refine EK (I.ok.hd g) Z M F L O N T1 T2 nd λh' t=>⟨rfl,Rh (t':=s.toks) (ch:=[z,TO,j,l]) I (λc o g e=>?_) λc g=>T c (p c g)⟩;have f:c≠z/\c≠TO/\c≠j/\c≠l:=by simpa using g
  exact t c o f.1 f.2.1 f.2.2.1 f.2.2.2 e
 self:=λ_ _ _ _ _ A h=>wpAny_pyIter_zip A.1 h
section
variable{X:Cx}{pos p tp:Pos}{elts:.aO}{tk:Nat}
/---/def iZm(K:ZX)(ta:TA):TI:=λσ H R=>ta σ H λvs H1=>∃La Lb a b xs ys,vs=[.ref a,.ref b]/\SqM La K H1 a xs/\SqM Lb K H1 b ys/\(xs.length<=sizeLine->ys.length<=sizeLine->R (Itm La Lb K a b) H1)
def Rk(L:.ab "zip")(hm:X.mg "zip"=none)(V:PA X [a,b] B)(M:.kv X.env=.m9:=by rfl)(g:.ky X.env=.nU:=by rfl):PI X .ki (.ks<|.bM "zip") (iZm X.K B):=by
 intro pins s σ H R I h;refine Call_ (oT I L hm PyProof.Rows.boot_zip (Y1 (thn (V pos pins s σ H _ I h) λus d ⟨vs,w,i,Q,q1⟩=>?_) (by rw[M,g]) (by rw[g];rfl)));obtain⟨La,Lb,j,k,xs,W,e,t,n,q⟩:=q1;subst e;cases Q with
 |cons r v =>
  cases v with
  |cons F v =>
   cases v;cases r;cases F;obtain⟨l,U,C,o⟩:=pc i t;obtain⟨m,D,E,u⟩:=pc i n;have z:Sq2 La d.heap j l.toArray:=C;have y:Sq2 Lb d.heap k m.toArray:=E;have Y:j<d.heap.objs.size:=z.lt;have lb:k<d.heap.objs.size:=y.lt;refine KU z y λx A O T K S J P=>?_;refine wpAny_pyIter_zip (s:={ d with heap:=x }) A ?_;have N:Inv X pins σ w { d with heap:=x }:=i.kept (t':=d.toks) P;have Z:ZipApart (d.heap.objs.size+4) (d.heap.objs.size+2) (d.heap.objs.size+3) d.heap.objs.size (d.heap.objs.size+1) j k:=by
    constructor<;>dsimp[Addr] at *<;>omega
   refine⟨d.heap.objs.size+4,[d.heap.objs.size+4,d.heap.objs.size+2,d.heap.objs.size+3,d.heap.objs.size,d.heap.objs.size+1],_,_,w,rfl,N,KW _ _ _ _ _ j k Z,⟨A,O,⟨_,_,T⟩,K,S⟩,λc G=>?_,q o u⟩;have f:d.heap.objs.size<=c:=by
    have:c=d.heap.objs.size+4\/c=d.heap.objs.size+2\/c=d.heap.objs.size+3\/c=d.heap.objs.size\/c=d.heap.objs.size+1:=by simpa using G
    rcases this with e|e|e|e|e<;>rw[e]<;>first|exact YR _ _|exact ZL _
   exact i.fpOk f (i.hok.fresh f)
theorem KY{K:ZX}(I:∀ρ' a hd',Ext ρ H ρ' a->RH K ρ' a hd'->d9 g l hd'->∃vs,SqM La K a q vs/\RDs K ρ' a l vs)(E:∀ρ' a hd',Ext ρ H ρ' a->RH K ρ' a hd'->d9 g' e hd'->∃vs,SqM Lb K a G vs/\RDs K ρ' a e vs)(hz:l.length<=sizeLine):
  vQ K ρ H (Itm La Lb K q G) ((l.zip e).map λp=>.tup .gB) (λh=>d9 g l h/\d9 g' e h) where
 go:=λρ' a hd' i d k r j M=>by
  obtain⟨m,w⟩:=zA.mp M;have L:i<l.length:=by simp at m;omega
  have t:i<e.length:=by simp at m;omega
  have Q:d=.tup [l[i],e[i]]:=by rw[<-w];simp
  subst Q;obtain⟨vs,s,z⟩:=I ρ' a hd' k r j.1;obtain⟨c,b,f⟩:=E ρ' a hd' k r j.2;obtain⟨v,C,P⟩:=z.get (i:=i) (d:=l[i]) (by simp[L]);obtain⟨B,n,u⟩:=f.get (i:=i) (d:=e[i]) (by simp[t]);refine⟨⟨vs,c,v,B,s,b,C,n⟩,λx S y=>?_⟩;obtain⟨q2,T,R,rfl,O,rfl,y,N⟩:=y;have J:=y vs s;have F:=N c b;rw[C]at J;rw[n]at F;cases J;cases F;have A:=c6 (o:=HO.tup [v,B]) O;refine⟨A,?_⟩;dsimp[RD];exact⟨q2,_,rfl,bN,RDs.cons (P.mono<|.cz A) (.kq<|u.mono<|.cz A)⟩
 stop:=λρ' a hd' k r j=>by
  obtain⟨vs,s,z⟩:=I ρ' a hd' k r j.1;obtain⟨c,b,f⟩:=E ρ' a hd' k r j.2;exact⟨vs,c,s,b,by rw[<-z.length,<-f.length];simp⟩
 sz:=by simp;omega
def EL{K:ZX}(r:.bh)(i:.ek)(e:jZ hd d=some (l,g)):
  ∃(L:Bool) (q:Addr),v=.ref q/\(∃vs,SqM L K H q vs/\RDs K ρ H l vs)/\∀ρ' f hd',Ext ρ H ρ' f->RH K ρ' f hd'->d9 g l hd'->∃vs,SqM L K f q vs/\RDs K ρ' f l vs:=by
 cases d<;>dsimp[jZ]at e<;>try (cases e;done)
 ·cases e
  dsimp[RD]at i;obtain⟨q,vs,rfl,b,a⟩:=i;exact⟨false,q,rfl,⟨vs,SqT.of b,a⟩,λρ' f hd' h o _=>⟨vs,SqT.of ((r.kp h).tup q vs b),a.mono (r.kp h)⟩⟩
 ·rename_i n
  cases c:hd[n]? with
  |none=>rw[c]at e;cases e
  |some cell =>
   rw[c]at e;cases cell with
   |dct _=>cases e
   |dcT _=>cases e
   |ob _=>cases e
   |lst x =>
    cases e;dsimp[RD]at i;obtain⟨q,b,rfl⟩:=i;obtain⟨vs,s,a⟩:=r.cel n _ q c b;refine⟨true,q,rfl,⟨vs,SqL.of s,a⟩,λρ' f hd' h o t=>?_⟩;obtain⟨k,m,j⟩:=o.cel n _ q t (h.get b);exact⟨k,SqL.of m,j⟩
 ·rename_i c x
  split at e
  ·rename_i u
   cases e;dsimp[RD]at i;rcases i with ⟨w,_⟩|⟨_,q,vs,rfl,b,a⟩
   ·exact absurd u w
   ·exact⟨false,q,rfl,⟨vs,.inr b,a⟩,λρ' f hd' h o _=>⟨vs,.inr b,a.mono (r.kp h)⟩⟩
  ·cases e
/---/def Jx(K:ZX)(ρ:.U)(H:Hp)(σd:Sd)(σ:St)(f g:EF)(hd:Hd)(R:.mC):Prop:=match f σd hd with
 |.ok x h1=>match g σd h1 with
  |.ok y h2=>match jZ h2 x,jZ h2 y with
   |some (l,o),some (k,o')=>∀J H' ρ',Ext ρ H ρ' H'->RS K ρ' H' σd h2 σ->vQ K ρ' H' J .hj .sG->R J H'
   |_,_=>False
  |_=>False
 |_=>False
/---/def WK(K:ZX)(f g:EF):TI:=λσ H R=>∃ρ σd hd,RS K ρ H σd hd σ/\Jx K ρ H σd σ f g hd R
/---/def MIZ(X:Cx)(tg e:Expr)(f g:EF):Prop:=PI X tg e (WK X.K f g)
def p5(P:.ab "zip")(hm:X.mg "zip"=none)(ha:.fT)(U:.i b g)(G:.kv X.env=.m9:=by rfl)(i:.ky X.env=.nU:=by rfl):MIZ X .ki (.ks<|.bM "zip") f g:=by
 refine PI.imp (Rk P hm (dr ha (dr U fB i) (by rw[G,i])) G i) λσ H R ⟨ρ,σd,I,T,c⟩=>⟨ρ,σd,I,T,?_⟩;unfold Jx at c;cases e:f σd I with
 |exc x V=>rw[e]at c;exact c
 |bad=>rw[e]at c;exact c
 |ok d n =>
  rw[e]at c;simp only at c;intro v H1 D u m z;refine⟨D,σd,n,m,?_⟩;cases y:g σd n with
  |exc x V=>rw[y]at c;exact c
  |bad=>rw[y]at c;exact c
  |ok W j =>
   rw[y]at c;simp only at c;intro v2 M w r h t;have z:=RD.mono (m.hp.kp r) z;cases s:jZ j d with
   |none=>rw[s]at c;exact c.elim
   |some J =>
    obtain⟨l,o⟩:=J;cases C:jZ j W with
    |none=>rw[s,C]at c;exact c.elim
    |some L =>
     obtain⟨k,o'⟩:=L;rw[s,C]at c;simp only at c;obtain⟨La,q,rfl,⟨Y,O,E⟩,S⟩:=EL h.hp z s;obtain⟨Lb,Q,rfl,⟨B,A,F⟩,N⟩:=EL h.hp t C;exact⟨La,Lb,q,Q,Y,B,rfl,O,A,λK Z=>c _ M w (u.trans r) h (KY S N (by rw[E.length];exact K))⟩
end
section
variable{X:Cx}{pos:Pos}{tg:Expr}
def Cz(hp:.mq)(hc:.br)(hi:MIZ X tg u f S)(hg:MG X tg g)(hb:MSs X body b)
  (hs:∀x,foldedSetIterable u X.env x=pure x:=by intro _;rfl):MS X (.For tg u body [] pos) (se f S g b):=by
 refine PS.imp (MP hp hc hi hg hb hs) λEn σ H ⟨ρ,σd,hd,rs,p⟩=>⟨ρ,σd,hd,rs,?_⟩;unfold se at p;unfold Jx;cases e:f σd hd with
 |exc x h'=>rw[e]at p;exact p
 |bad=>rw[e]at p;exact p
 |ok d Y =>
  rw[e]at p;simp only at p⊢;cases T:S σd Y with
  |exc x h'=>rw[T]at p;exact p
  |bad=>rw[T]at p;exact p
  |ok d2 I =>
   rw[T]at p;simp only at p⊢;cases Z:jZ I d with
   |none=>rw[Z]at p;exact p.elim
   |some p1 =>
    obtain⟨l0,o⟩:=p1;cases A:jZ I d2 with
    |none=>rw[Z,A]at p;exact p.elim
    |some p2 =>
     obtain⟨k0,o'⟩:=p2;rw[Z,A]at p;simp only at p ⊢;intro J H1 L R U Q;generalize hG:(λh:Hd=>d9 o l0 h/\d9 o' k0 h)=G at p Q;generalize ((l0.zip k0).map λp=>D.tup .gB)=l at p Q;refine⟨λi m σ' B=>∃ρ' n hd',Ext L H1 ρ' B/\RS X.K ρ' B n hd' σ'/\i<=l.length/\m=l.length - i/\du X.K ρ' B (nE G g b (l.drop i) n hd') En,
      ⟨l.length,L,σd,I,Ext.refl,U,YH _,by simp,by simpa using du.ext R p⟩,?_⟩
     rintro i m σ' B ⟨ρ',n,hd',P,z,a0,rfl,a⟩
     by_cases K:i<l.length
     ·have W:l[i]?=some l[i]:=by simp[K]
      rw[zZt K]at a;unfold nE at a
      by_cases E:G hd'
      ·rw[zE E]at a
       obtain⟨go,yl⟩:=Q.go ρ' B hd' i _ P z.hp E W;refine .inr ⟨go,λM C=>∃t j w,Ext L H1 t C/\RS X.K t C j w M/\du X.K t C (nE G g b (l.drop (i + 1)) j w) En,
        λM C ⟨t,j,w,a1,a2,a3⟩=>⟨l.length-(i+1),by omega,t,j,w,a1,a2,K,rfl,a3⟩,λx C y=>?_⟩
       obtain⟨sm,rx⟩:=yl x C y;cases c:g l[i] n with
       |none=>rw[c]at a;exact a.elim
       |some j =>
        rw[c]at a;simp only at a;refine⟨ρ',n,hd',l[i],j,z.same sm,rx,c,λM V=>⟨ρ',j,hd',V,?_⟩⟩;have s:Ext ρ' B ρ' C:=Ext.same sm;cases A:b j hd' with
        |nx σ3 N=>rw[A]at a;exact λF O q k r=>⟨q,σ3,N,P.trans .jA,r,du.ext .jA a⟩
        |ct σ3 N=>rw[A]at a;exact λF O q k r=>⟨q,σ3,N,P.trans .jA,r,du.ext .jA a⟩
        |bk σ3 N=>rw[A]at a;exact λF O q k r=>a F O q .jA r
        |rt d N=>rw[A]at a;exact λv O q k r rv=>a v O q .jA r rv
        |exc x σ3 N=>rw[A]at a;exact a
        |bad=>rw[A]at a;exact a
      ·rw[zF E]at a;exact a.elim
     ·have e0:i=l.length:=by omega
      subst e0;rw[List.drop_length]at a;unfold nE at a
      by_cases E:G hd'
      ·rw[zE E]at a
       exact .inl ⟨Q.stop ρ' B hd' P z.hp E,a σ' B ρ' Ext.refl z⟩
      ·rw[zF E]at a;exact a.elim
end
end Fm
namespace Fm
open PySem PySem.Spec L2 PyProof.Rows
section
variable{X:Cx}{pos:Pos}{scope:Scope}{own capn:.az}{caps:.m}
def ya(hc:.br)(S:.gN)(hi:MIZ X tg a f U)
  (Z:∀cl C s H ex,MG .ck tg g/\MTs .ck u cs/\ME .ck A e)
  (hs:∀x,foldedSetIterable a X.env x=pure x:=by intro _;rfl):MF X (.ik A [⟨tg,a,u,0⟩]) (jw own.length caps f U g cs e):=by
 intro pins s σ H Q I ⟨ρ,σd,W,rs,p⟩;rw[eval_ListComp];unfold jw at p;cases c:f σd W with
 |exc z h7=>rw[c]at p;exact p.elim
 |bad=>rw[c]at p;exact p.elim
 |ok d a2 =>
  rw[c]at p;simp only at p;cases O:U σd a2 with
  |exc z h7=>rw[O]at p;exact p.elim
  |bad=>rw[O]at p;exact p.elim
  |ok d2 i =>
   rw[O]at p;simp only at p;cases F:jZ i d with
   |none=>rw[F]at p;exact p.elim
   |some p1 =>
    obtain⟨L,o⟩:=p1;cases Y:jZ i d2 with
    |none=>rw[F,Y]at p;exact p.elim
    |some p2 =>
     obtain⟨N,o'⟩:=p2;rw[F,Y]at p;simp only at p;obtain⟨cl,h1,w,n⟩:=nD (scope:=scope) (env:=X.env) λy hy a1=>I.ok.has y.1 (S.free y hy a1);refine zZz (use:=none) rfl hs h1 S.kind S.names (thn (hi pins s σ H (λJ K=>∃j,Ext ρ H j K/\RS X.K j K σd i σ/\vQ X.K j K J ((L.zip N).map λp=>.tup .gB) (λh=>d9 o L h/\d9 o' N h)) I ⟨ρ,σd,W,rs,by
      unfold Jx;rw[c];dsimp[O,F,Y];exact λJ H' ρ' ex V B=>⟨ρ',ex,V,B⟩⟩) λv s1 h1=>thn h1 λa6 s2 h2=>?_)
     obtain⟨it,fp,tn,J,K,rfl,E,T,R,hf,j,k,r,B⟩:=h2;generalize hG:(λh:Hd=>d9 o L h/\d9 o' N h)=G at p B;generalize ((L.zip N).map λp=>D.tup .gB)=l at p B;cases M:eE G g cs e l .iX i with
     |exc z h7=>rw[M]at p;exact p.elim
     |bad=>rw[M]at p;exact p.elim
     |ok ds hdF =>
      rw[M]at p;refine pW (RR:=λa3 C=>compPost .aq X.A X.xe none .cp a3 C) hc S Z E T R hf r B w n M λC s' m H' ρ' vs P hn I' a4 ex rh t hD a0 a5=>?_;refine⟨m,hn,λh' sb=>⟨.ref s2.heap.objs.size,H',?_,rfl,?_⟩⟩
      ·refine I'.turned (it:=C) (t':=s'.toks) .nt a4 ?_ (.inr<|YB<|ZS E.sz P) (λx c e z=>?_) λq hq z=>?_
       ·exact Z9 (Z1 E.lt P)
       ·obtain⟨v,o,ho,W⟩:=E.cell x c e
        exact absurd (Z1 (ZI ho) P) .fq
       ·exact absurd (Z1 (ZI (E.pin q hq).1) P) .fq
      ·exact p _ vs H' ρ' (k.trans ex) (rs.ext (k.trans ex) rh) (k.fresh t<|r.hp.free t) hD a0 a5
end
section
variable{X:Cx}{pos p:Pos}
theorem yc{K:ZX}{ρ:.U}{H:Hp}:∀{l:List D} {vs:List V} {ss:.aR},RDs K ρ H l vs->mm l=some ss->vs=ss.map λx=>V.str (toS x)
 |[],_,is,r,e=>by dsimp[mm]at e;cases e;dsimp[RDs]at r;subst r;rfl
 |d::l,_,is,r,e=>by
  dsimp[RDs]at r;obtain⟨v,vs,rfl,h1,a⟩:=r;cases d<;>dsimp[mm]at e<;>try (cases e;done)
  rename_i i
  cases c:mm l with
  |none=>rw[c]at e;cases e
  |some b =>
   rw[c]at e;cases e;dsimp[RD]at h1;rw[h1,yc a c];rfl
theorem ph:∀{ss:.aR} {us:List S1},bM .rF us->StrsAre us .lW
 |[],_,.nil=>.nil
 |x::ss,_,.cons r t=>by obtain⟨k,rfl⟩:=r;exact .cons _ _ (ph t)
def nH(a b:.m):(toS a++toS b:Str)=toS (a++b):=by
 show (⟨a.toArray++b.toArray⟩:Str)=⟨(a++b).toArray⟩;rw[List.append_toArray]
theorem EM:∀ss:List .bW,Str.join (toS []) .lW=toS ss.flatten
 |[]=>rfl
 |[x]=>by rw[W2,List.flatten_nil,YX];rfl
 |x::y::r=>by
  have a:=EM (y::r);show toS x++toS []++Str.join (toS []) ((y::r).map toS)=_;rw[a,nH,nH,YX,<-List.flatten_cons]
def EN(ss:.aR):Txt.join (toS []) .lW=toS ss.flatten:=(.BS).trans (EM ss)
/---/def WL(K:ZX):V->List V->Hp->VK->Prop:=λx vs H Q=>∃(q:Addr) (ss:.aR),x=.str (toS [])/\vs=[.ref q]/\.zP/\(.qu).sum<=1000000/\Q (.str<|toS ss.flatten) H
def Rl:MtR X "str.join" (WL X.K):=by
 intro pins s σ H x y v w Q I l n h;obtain⟨q,b,rfl,rfl,c,o,g⟩:=h;obtain⟨t,rfl⟩:=l;obtain⟨u,rfl,i⟩:=n.one;cases (show u=Value.ref q from i);have f:((.jD).map (·.length)).sum+(.jD).length*(toS []).length<=16777216:=by
  have:((.jD).map (·.length))=b.map (·.length):=by rw[y3];apply YE;intro a _;simp[toS,Str.length]
  rw[this];show _+_*0<=_;omega
 rcases c with c|c
 ·obtain⟨e,r,m,_⟩:=I.list c
  exact join_list m.isList .nS f λd k=>⟨.str (toS b.flatten),H,I.tok k,⟨d,by rw[EN]⟩,g⟩
 ·obtain⟨_,e,r,j⟩:=I.hok q _ c
  exact join_tuple j .nS f λd k=>⟨.str (toS b.flatten),H,I.tok k,⟨d,by rw[EN]⟩,g⟩
def Jy{apos a p1:Pos}(o:x=toS [])(he:MQ X e L)(b:attributeBase .id "join" X.env .Ak=eval .id X.env:=by rfl)
  (f:((.uF).all .eK && (.oy).all .eH
   && decide .hb)=true:=by rfl)
  (d:.nP=true:=by rfl) (i:.kx X.env=(false,.aB X.env)::starEach [] X.env:=by rfl) :
  ME X (.Call (.Attribute .id "join" apos) [e] [] a) (D6 L):=by
 refine PE.imp (xT zYe PySem.F.slot_str_join PySem.F.type_str_join Rl B8 (dr he fB i) b f d i) λσ H Q ⟨ρ,σd,u,w,t⟩=>⟨rfl,ρ,σd,u,w,(.al t).imp λv A ⟨s,l,n,z,h,⟨q,B,m,r,g⟩,p1⟩=>?_⟩;subst m;cases c:mm l with
 |none=>dsimp[c]at p1;exact p1.elim
 |some y =>
  dsimp[c]at p1;split at p1
  ·rename_i k
   have e:=yc g c;subst e;exact⟨q,y,by rw[o],rfl,r,k,p1.here h .ac⟩
  ·exact p1.elim
end
end Fm
namespace L2
open PySem PySem.Spec PyProof.Rows
/---/def Its(x:Str):It:=⟨λi _=>i<x.cps.size,λi H v H'=>H'=H/\∃c,x.cps[i]?=some c/\v=.str ⟨#[c]⟩,λi _=>x.cps.size<=i⟩
theorem N9{K:ZX}(it:Addr)(x:Str)(t:Tok):Eb P w K tg (Its x) [it] it (λi h=>h.IsStrIter it "str_ascii_iterator" x t i) where
 mem:=by simp
 obj:=λi h a b f=>by
  have e:b=it:=by simpa using f
  subst e;obtain⟨o,e,c,d⟩:=a;exact⟨o,e,λv z=>by rw[d]at z;cases z⟩
 keep:=λi h p a k=>let ⟨o,G,r⟩:=a;⟨o,k it .f o G,r⟩
 item:=by
  intro X u q n D i pins s σ H E I l a g;subst u q n;obtain⟨C,A,J,y,m,B⟩:=l it .f;have g:i<x.cps.size:=g;have F:x.cps[i]?=some x.cps[i]:=Array.getElem?_eq_getElem g;refine wpAny_pyNext_ascii_item a F λp j M=>?_;have N:Inv X pins σ H { s with heap:=p,toks:=s.toks+1 }:=I.turned (λb o f e=>(M.2 b f).trans e) C A y m B;obtain⟨o,e,c,d⟩:=id j;exact⟨_,rfl,Jc e c d .a ⟨.str ⟨#[x.cps[i]]⟩,H,N,⟨_,rfl⟩,⟨rfl,_,F,rfl⟩,j,λb f=>(l b f).1⟩⟩
 done:=by
  intro X u q n D i pins s σ H E I l a g;subst u q n;obtain⟨C,A,J,y,m,B⟩:=l it .f;have g:x.cps.size<=i:=g;exact wpAny_pyNext_ascii_end (I.ok.hd D) a (Array.getElem?_eq_none g) λp L=>⟨rfl,I.turned (λb o f e=>L b o f e) C A y m B⟩
 self:=λ_ _ _ _ _ a h=>wpAny_pyIter_striter_ascii a h
section
variable{X:Cx}{tg:Expr}
def UV{f:TE}(k:.D l f):PI X tg l (λσ H R=>f σ H λv d=>∃x:Str,v=.str x/\x.cps.all (· < 128)=true/\R (Its x) d):=by
 intro pins s σ H R I h;refine thn (k pins s σ H _ I h) λv a ⟨y,d,c,g,q1⟩=>?_;obtain⟨x,e,j,q⟩:=q1;subst e;obtain⟨t,rfl⟩:=g;refine wpAny_pyIter_ascii j ?_;refine⟨a.heap.objs.size,[a.heap.objs.size],_,_,d,rfl,c.kept λb o e=>.aa e,N9 _ x t,⟨_,ZJ _ rfl,rfl,rfl⟩,λb i=>?_,q⟩;have e:b=a.heap.objs.size:=by simpa using i
 subst e;exact c.fpOk .B .tS
end
end L2
namespace Fm
open PySem PySem.Spec L2 PySem.W PyProof.Rows
section
variable{X:Cx}{pos p:Pos}{tg:Expr}
def CA:(1000000:Nat)<=sizeLine:=by rw[YZ];decide
theorem Oa{K:ZX}(l:.m)(hz:.p8):xV K ρ H (Its .ag) .lg none where
 go:=λρ' h hd' i d j g _ a=>by
  have f:i<l.length:=by
   have:=(zA.mp a).1;simpa using this
  refine⟨by show i<(l.toArray).size;rw[v3];exact f,λx k y=>?_⟩;obtain⟨rfl,c,b,rfl⟩:=y;have b:l[i]?=some c:=by
   have:l.toArray[i]?=some c:=b;simpa using this
  have e:d=.str [c]:=by
   rw[ZQ,b]at a;exact(ZT a).symm
  subst e;exact⟨lK.refl _,by dsimp[RD];rfl⟩
 stop:=λρ' h hd' j g _=>by
  show (l.toArray).size<=_;simp
 sz:=by
  have:=CA;simp;omega
def Hl(h:.dh):MI X tg e (zQ f):=by
 refine PI.imp (UV h) λσ H R ⟨ρ,σd,i,n,p⟩=>⟨ρ,σd,i,n,?_⟩;unfold zQ at p;cases e:f σd i with
 |exc x o=>rw[e]at p;exact p
 |bad=>rw[e]at p;exact p
 |ok d k =>
  rw[e]at p;dsimp[aR]at p;intro v m c a b j;cases d<;>try exact p.elim
  rename_i l
  simp only at p;dsimp[rD,RD]at j;split at p
  ·rename_i g
   exact⟨toS l,j,by show (l.toArray).all (· < 128)=true;rw[List.all_toArray];exact g.2,p _ m c a b (Oa l g.1)⟩
  ·exact p.elim
/---/def WM:R2:=λx y H Q=>∃i j:Str,x=.str i/\y=.str j/\i.length+j.length<=sizeLine/\Q (.str<|i++j) H
def fZ(a:.m):(toS a).length=a.length:=by
 show a.toArray.size=_;rw[v3]
def Rm{K:ZX}:Og K bQ WM:=by
 intro ρ H σd i σ d k v w Q h f e c;cases d<;>try exact c.elim
 cases k<;>try exact c.elim
 rename_i a b
 dsimp[RD]at f e;dsimp[bQ]at c;split at c
 ·rename_i g
  refine⟨toS a,toS b,f,e,by rw[fZ,fZ];exact ZM g CA,?_⟩;rw[nH];exact c.here h .ac
 ·exact c.elim
def cL(e:.i a c)(f:.i b d):.i (.mJ .Add) (.bR c d):=aT GW Rm e f
def UW(s:.i a n)(m:.i b o)(u:xg b):.i (.dk a b) (Qx n o):=by
 refine me2 (a:=a) (b:=b) (Nc Nd s m u) λρ H σd x σ d k v w Q t q g f=>?_;cases d<;>try exact f.elim
 cases k<;>try exact f.elim
 rename_i l i
 dsimp[RD]at q g;dsimp[V3]at f;split at f
 ·rename_i m
  cases e:ixN l.length i with
  |none=>rw[e]at f;exact f.elim
  |some j =>
   rw[e]at f;simp only at f;cases h:l[j]? with
   |none=>rw[h]at f;exact f.elim
   |some c =>
    rw[h]at f;refine⟨toS l,i,c,q,g,by rw[fZ];exact ZM m CA,?_,f.here t .iV⟩;have r:L2.ixN (.ag).cps.toList.length i=some j:=by
     have:(.ag).cps.toList=l:=rfl;rw[this];exact e
    show (L2.ixN (.ag).cps.toList.length i).bind _=_;rw[r];exact h
 ·exact f.elim
def Rn(j:.ab "len")(hm:X.mg "len"=none)(h:.i a c)(e:.bm X.env=(false,.bw X.env)::starEach [] X.env:=by rfl):.i .vY (Jb c):=by
 refine AV (Ej Cf j hm PySem.boot_len (he:=e)) h (λρ H σd k σ d v Q i f b=>?_) e;cases d<;>try exact b.elim
 rename_i l
 dsimp[RD]at f;simp only at b;split at b
 ·rename_i g
  refine⟨toS l,by rw[f],by rw[fZ];exact ZM g CA,?_⟩;rw[fZ];exact b.here i .ac
 ·exact b.elim
def UX(l:.m)(c:Nat):(!(Builtin.Str.occurrences .ag (toS [c]) 0 (.ag).length 1).isEmpty)=decide (c∈l):=StrLaws.found_one .ag c
def UY{K:ZX}:Og K Kt (λx y H Q=>∃i j:Str,x=.str i/\y=.str j/\Q .xQ H):=by
 intro ρ H σd m σ d k v w Q g f e b;cases d<;>try exact b.elim
 rename_i a
 rcases a with _|⟨c,_|⟨h,r⟩⟩
 ·exact b.elim
 ·cases k<;>try exact b.elim
  rename_i l
  dsimp[RD]at f e;refine⟨toS [c],toS l,f,e,?_⟩;rw[UX];exact b.here g .ac
 ·exact b.elim
def UZ(e:.i a c)(f:.i b d)(hm:behindInMarks .In b=false):.i (.ig [.In] [b]) (ag Kt c d):=eK KC UY e f hm
end
end Fm
namespace L2
open PySem PySem.Spec PyProof.Rows
abbrev TJ:=Str->St->Hp->VK->Prop
/---/def PJ(X:Cx)(es:.aO)(t:TJ):Prop:=∀(out:Str) (pins:.N) (s:P1) (σ:St) (H:Hp) (Q:VK),Inv X pins σ H s->t out σ H Q->.aS (joinParts out<|evalEach es X.env) .cp X.xe s
def U0:PJ X [] (λout σ H Q=>out.length<=sizeLine/\Q (.str out) H):=λout pins s σ H Q I ⟨a,q⟩=>joinParts_nil ⟨.str out,H,I.tok _,⟨_,rfl⟩,q⟩ a
def Ro(he:.D e c)(i:PJ X a t)(l:evalEach (e::a) X.env=.aB X.env::evalEach a X.env:=by rfl):PJ X (e::a) (λout σ H Q=>c σ H λv b=>∃y:Str,v=.str y/\(out++y).length<=sizeLine/\t (out++y) σ b Q):=by
 intro out pins s σ H Q I h;rw[l];refine joinParts_cons (thn .eD λv d ⟨x,b,j,f,y,k,g,q⟩=>?_);subst k;obtain⟨m,rfl⟩:=f;exact⟨g,i (out++y) pins d σ b Q j q⟩
def Rp(h:PJ X (e::a::b) t):.D (.JoinedStr (e::a::b) pos) (λσ H Q=>t Str.empty σ H Q):=by
 intro pins s σ H Q I q;exact JoinedStr_many (h Str.empty pins s σ H Q I q)
def U2(he:.D e b):.D .vX (λσ H Q=>b σ H λv a=>∃i:Int,v=.int i/\i.natAbs.log2<1920/\Q (.str .gr) a):=by
 intro pins s σ H Q I h;refine FormattedValue_plain (thn .eD λv k ⟨x,a,d,c,i,g,f,q⟩=>?_);subst g;obtain⟨j,rfl⟩:=c;exact formatField_int_small f ⟨.str .gr,a,d.tok _,⟨_,rfl⟩,q⟩
end L2
namespace Fm
open PySem PySem.Spec L2 PySem.W PyProof.Rows
/---/def MJ(X:Cx)(es:.aO)(r:JF):Prop:=PJ X es (λout σ H Q=>∃l,out=toS l/\oZ X.K .fK (r l) σ H Q)
def ui:MJ X [] oR:=λd pins s σ H Q I ⟨l,e,ρ,σd,f,c,a⟩=>by
 unfold oR at a;split at a
 ·rename_i b
  subst e;exact U0 _ pins s σ H Q I ⟨by rw[fZ];exact ZM b CA,a.here c .ac⟩
 ·exact a.elim
def dP(he:.i e a)(n:MJ X c r)(k:evalEach (e::c) X.env=.aB X.env::evalEach c X.env:=by rfl):MJ X (e::c) (cO a r):=λt pins s σ H Q I ⟨l,m,ρ,σd,p,q,o⟩=>by
 subst m;refine Ro he n k _ pins s σ H Q I ⟨ρ,σd,p,q,(.Dc).imp λv w ⟨g,d,f,u,h,i,b⟩=>?_⟩;cases d<;>try exact b.elim
 rename_i y
 dsimp[rD,RD]at i;simp only at b;split at b
 ·rename_i j
  refine⟨toS y,i,?_,l++y,nH l y,g,σd,f,h,b⟩;rw[nH,fZ,ZB];exact ZM j CA
 ·exact b.elim
def A5(h:MJ X (e::a::b) r):.i (.JoinedStr (e::a::b) pos) (fFs r):=PE.imp (Rp h) λσ H Q q=>⟨[],rfl,q⟩
def pi(he:.i e a):.i .vX (c9 a):=by
 refine PE.imp (U2 he) λσ H Q ⟨ρ,σd,k,l,j⟩=>⟨ρ,σd,k,l,(.ij j).imp λv o ⟨m,d,h,n,c,f,b⟩=>?_⟩;cases d<;>try exact b.elim
 rename_i i
 dsimp[rD,RD]at f;simp only at b;split at b
 ·rename_i g
  exact⟨i,f,g,b.here c .nv⟩
 ·exact b.elim
end Fm
namespace HT
open PySem PySem.Spec
end HT
namespace L2
open PySem PySem.Spec PyProof.Rows
section
variable{X:Cx}
/---/def Ya:V->Option Int->Option Int->Hp->VK->Prop:=λx lo hi H Q=>∃(z:Str) (y:.m),x=.str z/\z.length<=sizeLine/\Fm.GQ z.cps.toList lo hi=some y/\Q (.str ⟨y.toArray⟩) H
def Ob(h:0<=j/\j<=x.cps.toList.length):Txt.slice x none (some j)=⟨(x.cps.toList.take j.toNat).toArray⟩:=by
 have:=eq_of_beq (slice_closes_to h);rw[this];simp
def Hm(h:0<=i/\i<=x.cps.toList.length):Txt.slice x (some i) none=⟨(x.cps.toList.drop i.toNat).toArray⟩:=by
 have:=eq_of_beq (slice_closes_from h);rw[this];congr 2;exact Y9 (by rw[List.length_drop];omega)
def U3:SlR X Ya:=by
 intro pins s σ H x v r w B A C Q I o f p g h;obtain⟨z,y,rfl,d,a,q⟩:=h;obtain⟨t,rfl⟩:=o;refine⟨"str",_,slot_str_getitem.lookup,zXk _ _ _,?_⟩;cases p with
 |none =>
  cases g with
  |none=>cases a
  |int j m =>
   dsimp[Fm.GQ]at a;split at a
   ·rename_i c
    cases a;have e:=Ob (x:=z) c;exact wpAny_getItem_str_slice (l:=none) (u:=some (j,m)) (st:=none) f rfl (post_val_or_str ⟨ZM (Txt.slice_le z _ _) d,λb k=>⟨.str ⟨(z.cps.toList.take j.toNat).toArray⟩,H,I.tok k,⟨b,by rw[<-e];rfl⟩,q⟩⟩)
   ·cases a
 |int i n =>
  cases g with
  |int j m=>cases a
  |none =>
   dsimp[Fm.GQ]at a;split at a
   ·rename_i c
    cases a;have e:=Hm (x:=z) c;exact wpAny_getItem_str_slice (l:=some (i,n)) (u:=none) (st:=none) f rfl (post_val_or_str ⟨ZM (Txt.slice_le z _ _) d,λb k=>⟨.str ⟨(z.cps.toList.drop i.toNat).toArray⟩,H,I.tok k,⟨b,by rw[<-e];rfl⟩,q⟩⟩)
   ·cases a
end
end L2
namespace Fm
open PySem PySem.Spec L2 PySem.W PyProof.Rows
section
variable{X:Cx}{pos p:Pos}
def KZ{lo hi:.mD}(L:.i a q)(z:MO X lo s)(w:MO X hi r):.i (.dk a<|.mG i) (xc q s r):=by
 refine PE.imp (xS U3 L z w) λσ H Q ⟨ρ,σd,C,D,o⟩=>?_;unfold xc at o;refine⟨ρ,σd,C,D,(.Dc).imp λv O ⟨n,d,m,P,f,G,t⟩=>?_⟩;refine⟨n,σd,m,f,(cm.bind (R:=rO) t).imp λK M ⟨j,E,h,A,g,q2,i⟩=>?_⟩;cases q2;refine⟨j,σd,h,g,(cm.bind (R:=rO) i).imp λx N ⟨B,u,J,F,k,q3,b⟩=>?_⟩;cases q3;have c:=(G.mono<|f.hp.kp A).mono (g.hp.kp F);cases d with
 |str l =>
  dsimp[RD]at c;simp only at b;split at b
  ·rename_i I
   cases e:GQ l K x with
   |none=>rw[e]at b;exact b.elim
   |some y =>
    rw[e]at b;exact⟨toS l,y,c,by rw[fZ];exact ZM I CA,e,b.here k .iV⟩
  ·exact b.elim
 |_=>exact b.elim
end
variable{l:.m}
section
variable{X:Cx}{pos p p2:Pos}
def Oc(l:.m)(h:y=toS l)(a:.ab x)(hm:X.mg x=some (.str y t))(hd:.a4=false:=by decide):ME X .e0 (fC .ls) :=
 PE.imp (pV (v:=.str y) a hm ⟨t,rfl⟩ hd) (ug λ_ _=>by dsimp[RD];rw[h])
def dQ(j:.ab "str")(hm:X.mg "str"=none)(g:.i a b)(c:.bm X.env=(false,.bw X.env)::starEach [] X.env:=by rfl):.i (.cx<|.bM "str") (c9 b):=by
 refine AV (Ek Ca j hm .bq (he:=c)) g (λρ H σd k σ d v Q h e p=>?_) c;cases d<;>first|exact p.elim|skip
 rename_i i
 dsimp[RD]at e;subst e;simp only at p;split at p
 ·rename_i f
  exact⟨i,rfl,f,p.here h .nv⟩
 ·exact p.elim
def p6(l:.m):(.ag).cps.toList=l:=by simp[toS]
def Jz(h:Kr l=true):NumText.AllDigits l/\l≠[]:=by
 dsimp[Kr,ZZ,Bool.not_eq_true',xb,YL]at h;exact⟨h.2,λe=>by rw[e]at h;simp at h⟩
def Rq(hz:l.length<=600)(h:qH l=some n):PySem.intText? .ag=some n:=by
 cases l with
 |nil=>cases h
 |cons c r =>
  have d:(toS (c::r)).length<=4300:=by rw[fZ];omega
  rw[qH]at h;split at h
  ·rename_i e
   subst e;split at h
   ·rename_i f
    obtain⟨a,b⟩:=Jz f;cases h;exact PySem.intText_neg (p6 _) a b d
   ·cases h
  ·split at h
   ·rename_i f
    obtain⟨a,b⟩:=Jz f;cases h;have:=PySem.intText_digits (by rw[p6];exact a) (by rw[p6];exact b) d;rw[p6]at this;exact this
   ·cases h
def K0:jm X .qF (λxs H Q=>∃(l:.m) (n:Int),xs=[.str .ag]/\l.length<=600/\qH l=some n/\Q .A H):=by
 intro pins s σ H xs f Q I r h;obtain⟨l,n,rfl,c,d,q⟩:=h;obtain⟨u,rfl,a⟩:=bM.one r;obtain⟨t,rfl⟩:=a;refine KIN.call_text (Rq c d) (by rw[fZ];omega) ⟨.int n,H,?_,⟨_,rfl⟩,q⟩;exact I.kept λb o e=>e
def xk(j:.ab "int")(hm:X.mg "int"=none)(h:.i a b)(e:.bm X.env=(false,.bw X.env)::starEach [] X.env:=by rfl):.i (.cx<|.bM "int") (oq b):=by
 refine AV (Ek K0 j hm .bq (he:=e)) h (λρ H σd k σ d v Q i f p=>?_) e;cases d<;>first|exact p.elim|skip
 rename_i l
 dsimp[RD]at f;subst f;simp only at p;split at p
 ·rename_i g
  cases c:qH l with
  |none=>rw[c]at p;exact p.elim
  |some n=>rw[c]at p;exact⟨l,n,rfl,g,c,p.here i .ac⟩
 ·exact p.elim
def Te:Option Int->KTD.Dat
 |some i=>.flat .cS
 |none=>.flat .none
/---/def A6(T:Tab):List (Str × KTD.Dat):=T.map λp=>(toS p.1,Te p.2)
/---/def yd(K:ZX)(a:Addr)(T:Tab):Prop:=KTD.tabLook (KTD.datLooks λb=>K.lookup b) (λb=>K.lookup b) a (A6 T)=true
def si:toS l=toS k↔l=k:=⟨λe=>by rw[<-p6 l,e,p6],λe=>by rw[e]⟩
theorem CB:∀(T:Tab) (l:.m),KTD.inKeys .ag (A6 T)=(kW T l).isSome
 |[],_=>rfl
 |(k,d)::T,l=>by
  have a:=CB T l;show (decide .oW||KTD.inKeys .ag (A6 T))=_;rw[a];unfold kW;rw[Z7]
  by_cases e:l=k
  ·subst e;simp
  ·have b:(l == k)=false:=by simpa using e
   rw[b,z4 (λz=>e (si.mp z))];rfl
theorem JA{P:S1->Prop}{l:.m}:∀{T:Tab} {d:.aF},kW T l=some d->(∀v,cU (match d with|some i=>V.int i|none=>V.non) v->P v)->KTD.EachL h .ag P (A6 T)
 |[],_,e,_=>by cases e
 |(k,d')::T,d,e,q=>by
  unfold kW at e;rw[Z7]at e;have op:l=k->KTD.Opened h P (Te d'):=λz=>by
   subst z;rw[show (l == l)=true by simp]at e;cases e;cases d' with
   |none=>exact q _ rfl
   |some i=>exact λt=>q _ ⟨t,rfl⟩
  cases T with
  |nil=>exact λz=>op (si.mp z)
  |cons x T =>
   show if decide .oW=true then _ else _
   by_cases z:l=k
   ·rw[zE (by rw[z];simp)];exact op z
   ·rw[zF (by simpa using λy=>z (si.mp y))]
    have a:(l == k)=false:=by simpa using z
    rw[a]at e;exact JA e q
def JB{σ:L2.St}(I:.x)(t:yd X.K a T):KTD.Here s.heap s.heap a (A6 T):=⟨PySem.W.kt_text_in I.kIn t,λ_ _ e=>e⟩
def K1(t:yd X.K a T):.Y .tQ (λx y H Q=>∃l,x=.str .ag/\y=.ref a/\Q (.bl (kW T l).isNone) H):=by
 intro pins s σ H x y v u Q I d c h;obtain⟨l,rfl,rfl,q⟩:=h;obtain⟨f,rfl⟩:=d;cases (show u=Value.ref a from c);refine KTD.notin_text (JB I t) ⟨.bl (kW T l).isNone,H,I.kept λb o e=>e,?_,q⟩;rw[CB];cases kW T l<;>rfl
def K2(j:.ab x)(hm:.qh)(t:yd X.K A T)(m:.fT)(h:.Em)(hd:.a4=false:=by decide):MT X (.ig [.NotIn] [.Name x p]) (tE<|xa T f):=by
 refine PT.imp (xf (K1 t) m .Br h) λσ H Q ⟨ρ,σd,hd,n,e⟩=>?_;have e:=ke e;refine⟨ρ,σd,hd,n,(.al e).imp λv q ⟨k,d,i,o,c,g,b⟩=>?_⟩;cases d<;>try exact b.elim
 rename_i l
 dsimp[rD,RD]at g;simp only at b;exact⟨l,g,rfl,b.here c .ac⟩
def Od(J:.ab x)(hm:.qh)(t:yd X.K A T)(Y:.i b B)(K:UG b:=by intro _ _;rfl)(hd:.a4=false:=by decide):.i (.dk .fV b) (B6 T B):=by
 intro pins s σ H Q I ⟨ρ,σd,hd',U,S⟩;refine Jm PySem.F.slot_dict_getitem.lookup K (thn (pV (v:=.ref A) J hm rfl hd pins s σ H (λy m=>y=.ref A/\m=H) I ⟨rfl,rfl⟩) λu M ⟨y,m,I1,R,E,L⟩=>?_);subst E L;obtain rfl:u=Value.ref A:=R;refine thn (Y pins M σ m (λz g=>∃l d,z=.str .ag/\kW T l=some d/\Q (match d with|some i=>V.int i|none=>V.non) g) I1 ⟨ρ,σd,hd',U,(.al S).imp λv g ⟨a0,d,Z,E,n,h,a⟩=>?_⟩) λiv f ⟨z,g,w,rz,l,d,N,C,q⟩=>?_
 ·cases d<;>try exact a.elim
  rename_i l
  dsimp[rD,RD]at h;simp only at a;cases c:kW T l with
  |none=>rw[c]at a;exact a.elim
  |some d =>
   rw[c]at a;refine⟨l,d,h,c,a.here n ?_⟩;cases d<;>dsimp[rD,RD,Qw]
 ·subst N
  obtain⟨tk,rfl⟩:=rz;have r:=JB w t;have j:f.TypeIs .di "dict" := r.typeIs;refine⟨j,?_⟩;unfold getItem
  try with_reducible refine vr ?_
  refine zD (zXm j .a ?_);refine zD (YU j zZu (yo zZu j PySem.F.entry_dict_getitem ?_ .AB));show wpAny _ _ (dictGet A (.str .ag tk) >>= _) _ _ f;have W:.bE g .Cc:=w.kept λb o e=>e;refine zD (KTD.dictGet_text r (λG v ha F=>x3 ⟨v,rfl,x3 ?_⟩) λO=>?_)
  ·exact(JA (P:=λv=>.g3 v .Cc) C λv h=>⟨_,g,W,h,q⟩).some_of G v ha F
  ·have:=KTD.isSome_datumAt (k:=toS l) (D:=A6 T)
   rw[O,CB,C]at this;cases this
end
def A7:List S1->List .bW->Bool
 |[],[]=>true
 |.str y _::vs,l::ss=>y == toS l&&A7 vs ss
 |_,_=>false
/---/def vTs(ss:.aR):List V:=ss.map λl=>.str .ag
theorem ye:∀{vs:List S1} {ss:.aR},A7 vs ss=true->bM (vTs ss) vs
 |[],[],_=>.nil
 |v::vs,l::ss,h=>by
  cases v<;>dsimp[A7,ZZ,YM]at h;obtain⟨h1,a⟩:=h;rw[beq_iff_eq.mp h1];exact .cons ⟨_,rfl⟩ (ye a)
 |[],_::_,h=>by simp[A7]at h
 |v::_,[],h=>by cases v<;>simp[A7]at h
def yf(K:ZX):List .bW->S1->Bool
 | ss,.ref p=>(match K.lookup p with
  |some o=>o.cls == .type "tuple" && (match o.data with | .seq its _=>decide (its.size<=sizeLine)&&A7 its.toList ss|_=>false)
  |none=>false)
 |_,_=>false
/---/def RTk(K:ZX)(ss:.aR)(v:S1):Prop:=∃p,v=.ref p/\Ur K p (vTs ss)
def CC{K:ZX}(h:yf K ss v=true):RTk K ss v:=by
 cases v<;>dsimp[yf,YM]at h
 rename_i p
 cases c:K.lookup p with
 |none=>rw[c]at h;cases h
 |some o =>
  rw[c]at h;dsimp[ZZ]at h;obtain⟨b,a⟩:=h;cases d:o.data with
  |seq its n =>
   rw[d]at a;dsimp[ZZ,YL]at a;exact⟨p,rfl,o,its,n,c,beq_iff_eq.mp b,d,a.1,ye a.2⟩
  |_=>rw[d]at a;cases a
/---/def Oe(T:qO):List (Str × List .bW):=T.map λp=>(toS p.1,p.2)
/---/def CF(K:ZX)(a:Addr)(T:qO):Prop:=KTD.tabLook (yf K) (λb=>K.lookup b) a (Oe T)=true
theorem Tf{l:.m}:∀{T:qO},KTD.datumAt .ag (Oe T)=T.lookup l
 |[]=>rfl
 |(k,d)::T=>by
  show (if decide .oW=true then some d else KTD.datumAt .ag (Oe T))=_;rw[Z7]
  by_cases e:l=k
  ·subst e;simp
  ·have a:(l == k)=false:=by simpa using e
   rw[a,zF (by simpa using λz=>e (si.mp z))];exact Tf
section
variable{X:Cx}{pos p p2:Pos}
def JC{σ:L2.St}{H:Hp}{s:P1}{a:Addr}{T:qO}(I:.x)(t:CF X.K a T):KTD.TabOf (RTk X.K) s.heap a (Oe T) :=
 KTD.tab_of_look (λ_ _ q=>CC q) (λb o q=>I.kIn b o q) t
def Rr{a:Addr}{D:List (Str × f)}{k:Str}{tk:Tok}{d:f}{Q:Option S1->P1->Prop}(T:KTD.TabOf R s.heap a D)(g:KTD.datumAt k D=some d)
  (h1:∀v,R d v->Q .fH .d5):.bP (dictGet a<|.str k tk) Q E s:=by
 obtain⟨_,o,b,t,h,u,n,m⟩:=T;obtain⟨v,q,r⟩:=m.find_some g;unfold dictGet
 try with_reducible refine vr ?_
 refine zD (wpAny_pyHash_str (zD (KTD.kt_dictFind_strs h n (by obtain⟨l⟩:=b;simpa using m.exact) ?_)));have c:Q (findBy (λk v=>v.isStr k) b k) .d5:=by
  rw[show findBy (λk v=>v.isStr k) b k=some v from (by obtain⟨l⟩:=b;simpa[findBy] using q)];exact h1 v r
 rw[findBy_of_findIdx?]at c;cases j:b.findIdx? λe=>e.key.isStr k with
 |none=>rw[j]at c;exact x3 c
 |some i=>rw[j]at c;exact zD (wpAny_dictEntries h n<|x3 c)
def Of:∀{vs:List S1},bM (vTs ss) vs->KTD.Flats vs .Bd:=by
 induction ss with
 |nil=>intro vs h;cases h;exact .nil
 |cons l ss a =>
  intro vs h;cases h with
  |cons r t=>obtain⟨b,rfl⟩:=r;exact .cons (.str _ _) (a t)
/---/def tkD(ss:.aR):KTD.Dat:=.tup .Bd
/---/def Oh(T:qO):List (Str × KTD.Dat):=(Oe T).map λp=>(p.1,tkD p.2)
def JD{σ:L2.St}{H:Hp}{s:P1}{a:Addr}{T:qO}(I:.x)(t:CF X.K a T):KTD.Here s.heap s.heap a (Oh T):=by
 obtain⟨l,o,d,c,f,g,u,m⟩:=JC I t;refine⟨⟨l,o,d,c,f,g,u,m.mono λx v h=>?_⟩,λ_ _ e=>e⟩;obtain⟨p,e,r,b,n,i,k,j,w,q⟩:=h;exact⟨p,b.toList,e,⟨r,I.kIn _ _ i,k,n,by simpa using j⟩,Of q⟩
theorem JE{l:.m}:∀{T:qO},KTD.inKeys .ag (Oh T)=(.pd).isSome
 |[]=>rfl
 |(k,d)::T=>by
  show (decide .oW||KTD.inKeys .ag (Oh T))=_;rw[JE,Z7]
  by_cases e:l=k
  ·subst e;simp
  ·have a:(l == k)=false:=by simpa using e
   rw[a,z4 (λz=>e (si.mp z))];rfl
def Oi(t:CF X.K a T):.Y .tQ (λx y H Q=>∃l,x=.str .ag/\y=.ref a/\Q (.bl (.pd).isNone) H):=by
 intro pins s σ H x y v u Q I d c h;obtain⟨l,rfl,rfl,q⟩:=h;obtain⟨f,rfl⟩:=d;cases (show u=Value.ref a from c);refine KTD.notin_text (JD I t) ⟨.bl (.pd).isNone,H,I.kept λb o e=>e,?_,q⟩;rw[JE];cases T.lookup l<;>rfl
def Oj(j:.ab x)(hm:.qh)(t:CF X.K A T)(m:.fT)(h:.Em)(hd:.a4=false:=by decide):MT X (.ig [.NotIn] [.Name x p]) (tE<|Hj T f):=by
 refine PT.imp (xf (Oi t) m .Br h) λσ H Q ⟨ρ,σd,hd,n,e⟩=>?_;have e:=ke e;refine⟨ρ,σd,hd,n,(.al e).imp λv q ⟨k,d,i,o,c,g,b⟩=>?_⟩;cases d<;>try exact b.elim
 rename_i l
 dsimp[rD,RD]at g;simp only at b;exact⟨l,g,rfl,b.here c .ac⟩
theorem JG{K:ZX}:∀(ss:.aR),.aT (ss.map .str) (vTs ss)
 |[]=>RDs.nil
 |l::ss=>.kw (JG ss)
def CG(E:.ab x)(hm:.qh)(t:CF X.K A T)(P:.i b w)(F:UG b:=by intro _ _;rfl)(hd:.a4=false:=by decide):.i (.dk .fV b) (EH T w):=by
 intro pins s σ H Q I ⟨ρ,σd,hd',N,M⟩;refine Jm PySem.F.slot_dict_getitem.lookup F (thn (pV (v:=.ref A) E hm rfl hd pins s σ H (λy i=>y=.ref A/\i=H) I ⟨rfl,rfl⟩) λu J ⟨y,i,W,L,B,G⟩=>?_);subst B G;obtain rfl:u=Value.ref A:=L;refine thn (P pins J σ i (λz f=>∃l d,z=.str .ag/\T.lookup l=some d/\∀q,Ur X.K q (vTs d)->Q (.ref q) f) W ⟨ρ,σd,hd',N,(.al M).imp λv f ⟨V,d,S,B,k,r,a⟩=>?_⟩) λZ g ⟨z,f,m,Y,l,d,K,R,q⟩=>?_
 ·cases d<;>try exact a.elim
  rename_i l
  dsimp[rD,RD]at r;simp only at a;cases c:T.lookup l with
  |none=>rw[c]at a;exact a.elim
  |some d =>
   rw[c]at a;refine⟨l,d,r,c,λq j=>a.here k ?_⟩;dsimp[rD,sf,RD];exact .inr ⟨trivial,q,_,rfl,j,JG d⟩
 ·subst K
  obtain⟨U,rfl⟩:=Y;have D:=JD m t;have h:g.TypeIs .di "dict" := D.typeIs;refine⟨h,?_⟩;unfold getItem
  try with_reducible refine vr ?_
  refine zD (zXm h .a ?_);refine zD (YU h zZu (yo zZu h PySem.F.entry_dict_getitem ?_ .AB));show wpAny _ _ (dictGet A (.str .ag U) >>= _) _ _ g;have O:Inv X pins σ f { g with toks:=g.toks+1 }:=m.kept λb o e=>e;refine zD (Rr (JC m t) (Tf.trans R) λv C=>x3 ⟨v,rfl,x3 ?_⟩);obtain⟨n,rfl,j⟩:=C;exact⟨.ref n,f,O,rfl,q n j⟩
def Rs(m:.ab "len")(hm:X.mg "len"=none)(j:.i a b)(e:.bm X.env=(false,.bw X.env)::starEach [] X.env:=by rfl):.i .vY (N5 b):=by
 refine AV (Ej rS m hm PySem.boot_len (he:=e)) j (λρ H σd o σ d v Q k f p=>?_) e;cases d<;>first|exact p.elim|skip
 rename_i c l
 simp only at p;split at p
 ·rename_i i
  dsimp[RD]at f;rcases f with ⟨n,_⟩|⟨_,q,g,rfl,h,rvs⟩
  ·exact absurd i n
  ·exact⟨q,g,rfl,.inr (.inr h),by rw[<-rvs.length];exact p.here k .ac⟩
 ·exact p.elim
def Rt(r:.mt):.Y (.er .Eq) (λx y H Q=>∃p q vs,x=.ref p/\y=.ref q/\SqT X.K H p vs/\SqT X.K H q []/\Q (.bl vs.isEmpty) H):=by
 intro pins s σ H x y v u Q I l n h;obtain⟨p,q,vs,rfl,rfl,b,a,k⟩:=h;cases (show v=Value.ref p from l);cases (show u=Value.ref q from n);obtain⟨i,d,m,_⟩:=I.tuple b;obtain⟨c,f,o,_⟩:=I.tuple a;cases f;have g:=SeqAt.RcAt.tuples (A:=X.A) (e:=λ_=>true) m o .b (λj b a=>absurd a .f);refine g _ _ _ _ ⟨.bl vs.isEmpty,H,I,?_,k⟩;cases d with
 |nil=>rfl
 |cons _ _=>simp;rfl
def Rv(u:.mt)(A:.i a k)(r:behindInMarks .Eq (.Tuple [] i m)=false:=by rfl):MT X (.ig [.Eq] [.Tuple [] i m]) (tE<|N7 k):=by
 refine PT.imp (xf (Rt u) A (M3 fB) r) λσ H Q ⟨ρ,σd,z,B,g⟩=>?_;have g:=ke g;refine⟨ρ,σd,z,B,(.al g).imp λv j ⟨w,d,s,D,f,o,b⟩=>?_⟩;refine⟨by simp,λq x=>?_⟩;cases d<;>try exact b.elim
 rename_i c l
 simp only at b;split at b
 ·rename_i t
  dsimp[rD,RD]at o;rcases o with ⟨n,_⟩|⟨_,C,e,rfl,y,rvs⟩
  ·exact absurd t n
  ·have h:lK j (upd j q<|.tup []):=c6 x
   refine⟨C,q,e,rfl,rfl,.inr y,.inl (Rd.of bN),?_⟩;rw[show e.isEmpty=l.isEmpty from by cases l<;>cases e<;>first|rfl|(have:=rvs.length;simp at this)];exact b.at (.e5 h) (f.same h) .ac
 ·exact b.elim
end
theorem uj(sp:.m):∀ss:List .bW,Str.join (toS sp) .lW=toS .py
 |[]=>rfl
 |[x]=>rfl
 |x::y::r=>by
  have a:=uj sp (y::r);show toS x++toS sp++Str.join (toS sp) ((y::r).map toS)=_;rw[a,nH,nH];rfl
def A8(sp:.m)(ss:.aR):Txt.join (toS sp) .lW=toS .py:=(.BS).trans (uj sp ss)
/---/def U4(K:ZX)(sp:.m):V->List V->Hp->VK->Prop:=λx vs H Q=>∃(q:Addr) (ss:.aR),x=.str (toS sp)/\vs=[.ref q]/\.zP/\(.qu).sum+ss.length*sp.length<=1000000/\Q (.str<|toS .py) H
section
variable{X:Cx}{pos p:Pos}
def Om(sp:.m):MtR X "str.join" (U4 X.K sp):=by
 intro pins s σ H x y v w Q I l n h;obtain⟨q,b,rfl,rfl,c,o,g⟩:=h;obtain⟨t,rfl⟩:=l;obtain⟨u,rfl,i⟩:=n.one;cases (show u=Value.ref q from i);have f:((.jD).map (·.length)).sum+(.jD).length*(toS sp).length<=16777216:=by
  have:((.jD).map (·.length))=b.map (·.length):=by rw[y3];apply YE;intro a _;simp[toS,Str.length]
  rw[this,ZA,fZ];omega
 rcases c with c|c
 ·obtain⟨e,r,m,_⟩:=I.list c
  exact join_list m.isList .nS f λd k=>⟨.str (toS<|bg sp b),H,I.tok k,⟨d,by rw[A8]⟩,g⟩
 ·obtain⟨_,e,r,j⟩:=I.hok q _ c
  exact join_tuple j .nS f λd k=>⟨.str (toS<|bg sp b),H,I.tok k,⟨d,by rw[A8]⟩,g⟩
def sj{apos a p1:Pos}(o:x=toS sp)(he:MQ X e L)(b:attributeBase .id "join" X.env .Ak=eval .id X.env:=by rfl)
  (f:((.uF).all .eK && (.oy).all .eH
   && decide .hb)=true:=by rfl)
  (d:.nP=true:=by rfl) (i:.kx X.env=(false,.aB X.env)::starEach [] X.env:=by rfl) :
  ME X (.Call (.Attribute .id "join" apos) [e] [] a) (lI sp L):=by
 refine PE.imp (xT zYe PySem.F.slot_str_join PySem.F.type_str_join (Om sp) B8 (dr he fB i) b f d i) λσ H Q ⟨ρ,σd,u,w,t⟩=>⟨rfl,ρ,σd,u,w,(cm.bind (R:=rQ X.K) t).imp λv A ⟨s,l,n,z,h,⟨q,B,m,r,g⟩,p1⟩=>?_⟩;subst m;cases c:mm l with
 |none=>dsimp[c]at p1;exact p1.elim
 |some y =>
  dsimp[c]at p1;split at p1
  ·rename_i k
   have e:=yc g c;subst e;exact⟨q,y,by rw[o],rfl,r,k,p1.here h .ac⟩
  ·exact p1.elim
end
end Fm
namespace PySem.P
open PySem PySem.Spec PySem.Builtin
def str_of_non(h:Q (.str "None" s.toks) .d5):wpAny .aC A (call .s8 [.none]) Q E s :=
 callType_new F.called_str .a (F.typeCall_str_1 _) (F.newCall_str_1 _) .Aa F.entry_str_new
  (meets_str_new (S:=λ_ R s=>R (.ok<|.ret<|.str "None" s.toks) { s with toks:=s.toks + 1 }) λ_ _ _ _ s a =>
   wpAny_strOf_gives rfl (typeIs_none s) F.slot_NoneType_str F.slot_NoneType_repr F.entry_NoneType_repr (F.args_NoneType_repr_1 _) gives_none_repr a) ⟨zXk _ _ _,h⟩
end PySem.P
namespace Fm
open PySem PySem.Spec L2 PySem.W PyProof.Rows
def K3:jm X .s8 (λxs H Q=>(∃i,xs=[.int i]/\i.natAbs.log2<1920/\Q (.str .gr) H)\/(xs=[.non]/\Q (.str "None") H)):=by
 intro pins s σ H xs c Q I r h;rcases h with ⟨i,rfl,b,q⟩|⟨rfl,q⟩
 ·obtain⟨u,rfl,t,rfl⟩:=rN r
  exact PySem.P.str_of_int b ⟨.str _,H,I.tok _,⟨_,rfl⟩,q⟩
 ·obtain⟨u,rfl,a⟩:=rN r
  cases a;exact PySem.P.str_of_non ⟨.str _,H,I.tok _,⟨_,rfl⟩,q⟩
def Rw(l:.ab "str")(hm:X.mg "str"=none)(k:.i a c)(f:.bm X.env=(false,.bw X.env)::starEach [] X.env:=by rfl):.i (.cx<|.bM "str") (EI c):=by
 refine AV (g:=λx h=>match x with | .int i=>if i.natAbs.log2<1920 then .ok (.str<|rK .gr) h else .bad | .non=>.ok .v0 h|_=>.bad) (Ek K3 l hm .bq (he:=f)) k (λρ H σd m σ d v Q e b p=>?_) f;cases d<;>first|exact p.elim|skip
 ·dsimp[RD]at b;subst b
  exact .inr ⟨rfl,p.here e .nv⟩
 ·rename_i i
  dsimp[RD]at b;subst b;simp only at p;split at p
  ·rename_i j
   exact .inl ⟨i,rfl,j,p.here e .nv⟩
  ·exact p.elim
def CH(he:.i e a):.i .vX (vW a):=by
 intro pins s σ H Q I ⟨ρ,σd,t,u,p⟩;refine FormattedValue_plain (thn (he pins s σ H (λv c=>∃y:Str,v=.str y/\y.length<=sizeLine/\Q (.str y) c) I ⟨ρ,σd,t,u,(.ij p).imp λv c ⟨n,d,m,w,f,g,b⟩=>?_⟩) λv A ⟨x,c,o,i,y,r,j,q⟩=>?_)
 ·cases d<;>try exact b.elim
  rename_i l
  dsimp[rD,RD]at g;simp only at b;split at b
  ·rename_i k
   exact⟨toS l,g,by rw[fZ];exact ZM k CA,b.here f .ac⟩
  ·exact b.elim
 ·subst r
  obtain⟨h,rfl⟩:=i;exact formatField_str (λh z=>⟨.str y,c,o.tok _,⟨_,rfl⟩,q⟩) j
end Fm
namespace L2
open PySem PySem.Spec PyProof.Rows Builtin.Str
section
variable{X:Cx}
def K4:MtR X "str.startswith" (λx vs H Q=>∃a b:Str,x=.str a/\vs=[.str b]/\Q (.bl<|decide .DT&&subAt a b 0) H):=by
 intro pins s σ H x vs v g Q I f e h;obtain⟨a,b,rfl,rfl,q⟩:=h;obtain⟨t,rfl⟩:=f;obtain⟨u,rfl,d⟩:=e.one;obtain⟨c,rfl⟩:=d;exact call_gives F.slot_str_startswith .pg F.entry_str_startswith (F.args_str_startswith_2 _ _) (gives_str_startswith a b t c) ⟨.bl (decide .DT&&subAt a b 0),H,I,rfl,q⟩
end
end L2
namespace Fm
open PySem PySem.Spec L2 PySem.W PyProof.Rows Builtin.Str
section
variable{X:Cx}{pos p:Pos}
def Yb(l k:.m):(decide (0+(toS k).length<=(.ag).length)&&subAt .ag (toS k) 0)=(decide .tr&&.td):=by
 rw[StrLaws.subAt_eq,fZ,fZ,wK];rfl
def A9{apos a:Pos}(y:.i o t)(he:.i e r)(b:.e8 "startswith" X.env .c8=eval o X.env:=by rfl)
  (g:((.uF).all .eK && (.oy).all .eH
   && decide .hb)=true:=by rfl)
  (c:.nP=true:=by rfl) (s:.kx X.env=(false,.aB X.env)::starEach [] X.env:=by rfl) :
  ME X (.Call (.dS "startswith") [e] [] a) (nv t r):=by
 refine PE.imp (xT zYe PySem.F.slot_str_startswith PySem.F.type_str_startswith K4 y (dr he fB s) b g c s) λσ H Q ⟨ρ,σd,C,D,B⟩=>⟨ρ,σd,C,D,(.ij B).imp λv G ⟨i,d,h,F,j,u,n⟩=>?_⟩;cases d<;>try exact n.elim
 rename_i l
 dsimp[rD,RD]at u;subst u;refine⟨rfl,i,σd,h,j,(.ij n).imp λJ E ⟨z,A,w,I,m,f,q⟩=>?_⟩;cases A<;>try exact q.elim
 rename_i k
 dsimp[rD,RD]at f;subst f;refine⟨toS l,toS k,rfl,rfl,?_⟩;rw[Yb];exact q.here m .ac
end
end Fm
namespace L2
open PySem PySem.Spec PyProof.Rows Builtin.Str
theorem Ba:∀(tk:Nat) (xs:.az),bM (xs.map V.str) (strsFrom tk xs)
 |_,[]=>.nil
 |tk,x::r=>.cons ⟨tk,rfl⟩ (Ba (tk+1) r)
section
variable{X:Cx}
def On:MtR X "str.split" (λx vs H Q=>∃(a:Str) (c:Nat),x=.str a/\vs=[.str ⟨#[c]⟩]/\a.length<=sizeLine/\(.CV).length<=sizeLine/\∀p,H p=none->.d1 (.cg<|.lst<|(.CV).map V.str)):=by
 intro pins s σ H x vs v n Q I j m h;obtain⟨a,c,rfl,rfl,l,g,q⟩:=h;obtain⟨t,rfl⟩:=j;obtain⟨u,rfl,i⟩:=m.one;obtain⟨t',rfl⟩:=i;have self:Txt.split a ⟨#[c]⟩=[a]->listOfItself a t X.A (wants .cp X.xe) s:=λe=>by
  rw[e]at q;exact⟨.ref s.heap.objs.size,_,I.laid (t':=s.toks) (o:=.lst [V.str a]) (λb k q=>.aa q) .B ⟨by show 1<=sizeLine;decide,_,0,.cons ⟨t,rfl⟩ .nil,ZJ _ rfl⟩,rfl,q _ .fx⟩
 cases d:(decide (a.length<(⟨#[c]⟩:Str).length)||decide (strKind a<strKind ⟨#[c]⟩))
 ·cases f:(.rg).isEmpty
  ·have e:Txt.split a ⟨#[c]⟩=partsBetween a .rg (⟨#[c]⟩:Str).length:=by
    unfold Txt.split;rw[zF (by rw[d];exact Z4),zF (by rw[f];exact Z4)]
   rw[e]at g q;refine zXr F.slot_str_split .pg F.entry_str_split .s2 (meets_str_split_sep a ⟨#[c]⟩ t t' d rfl f l g) ?_;exact⟨.ref s.heap.objs.size,_,I.laid (t':=s.toks+(.y0).length) (o:=.lst ((.y0).map V.str)) (λb k q=>.aa q) .B ⟨by rw[ZA];exact g,_,0,Ba _ _,ZJ _ rfl⟩,rfl,q _ .fx⟩
  ·exact zXr F.slot_str_split .pg F.entry_str_split .s2 (meets_str_split_not_found a ⟨#[c]⟩ t t' d rfl f) (self (by unfold Txt.split;rw[zF (by rw[d];exact Z4),zE f]))
 ·exact zXr F.slot_str_split .pg F.entry_str_split .s2 (meets_str_split_cannot_occur a ⟨#[c]⟩ t t' d) (self (by unfold Txt.split;rw[zE d]))
end
end L2
namespace Fm
open PySem PySem.Spec L2 PySem.W PyProof.Rows
def Oo(x:Str):toS x.cps.toList=x:=by unfold toS;cases x;simp
def Bb(l:.m)(c:Nat):Txt.split .ag ⟨#[c]⟩=(fA c l).map toS:=by
 obtain⟨P,a⟩:=q0 ((Txt.split .ag ⟨#[c]⟩).map λx=>x.cps.toList:.aR);have e:Txt.split .ag ⟨#[c]⟩=P.map toS:=by
  rw[a,y3];exact((YE λx _=>Oo x).trans (List.map_id _)).symm
 have j:=StrLaws.join_split .ag ⟨#[c]⟩;rw[e,show (⟨#[c]⟩:Str)=toS [c] from rfl,uj]at j;have g:bg [c] P=l:=by
  have:=congrArg (λs:Str=>s.cps.toList) j;simpa[toS] using this
 have ne:P≠[]:=λz=>by
  have:=split_len .ag c;rw[e,z]at this;have h:(0:Int)<=cnt c (.ag).cps.toList:=countIn_nonneg _ _;have this:(0:Int)=1+cnt c (.ag).cps.toList:=this;omega
 have f:∀p∈P,c∉p:=λp b=>by
  rw[a]at b;obtain⟨x,d,rfl⟩:=z0.mp b;exact StrLaws.split_free .ag c x d
 rw[e,<-g,jN ne f]
theorem yg(c:Nat):∀l:List Nat,(fA c l).length<=l.length+1
 |[]=>ZL _
 |x::r=>by
  have a:=yg c r;rw[fA];split
  ·rw[wI,wI];omega
  ·cases e:fA c r with
   |nil=>simp
   |cons p b=>rw[e]at a;dsimp[wI]at a⊢;omega
theorem EO{K:ZX}:∀P:List .bW,.aT (P.map D.str) ((P.map toS).map V.str)
 |[]=>RDs.nil
 |p::P=>.kw (EO P)
section
variable{X:Cx}{pos p:Pos}
def yh{apos a p1:Pos}{j}(w:x=toS [c])(s:.i o k)(f:.e8 "split" X.env .c8=eval o X.env:=by rfl)
  (h:((backTo a<|.g0 .nZ).all .eK && (.oy).all .eH
   && decide ((.nZ:.aO).length+([]:List Keyword).length+.mQ<30))=true:=by rfl)
  (g:.nP=true:=by rfl) (n:starEach .nZ X.env=(false,eval .id X.env)::starEach [] X.env:=by rfl) :
  MF X (.Call (.dS "split") .nZ [] a) (oS c k):=by
 refine PE.imp (xT zYe PySem.F.slot_str_split PySem.F.type_str_split On s (dr B8 fB n) f h g n) λσ H Q ⟨ρ,σd,q,z,b⟩=>⟨ρ,σd,q,z,?_⟩;unfold oS at b;cases e:k σd q with
 |exc x B=>rw[e]at b;exact b
 |bad=>rw[e]at b;exact b
 |ok d u =>
  rw[e]at b;dsimp[aR]at b;intro v A y t i r;cases d<;>try exact b.elim
  rename_i l
  dsimp[rD,RD]at r;subst r;simp only at b;split at b
  ·rename_i m
   refine⟨rfl,toS l,c,rfl,by rw[w];rfl,by rw[fZ];exact ZM m CA,?_,?_⟩
   ·rw[Bb,ZA]
    exact ZM (yg c l) (ZM (Nat.succ_le_succ m) .lr)
   ·rw[Bb]
    exact b.mk t i (EO _)
  ·exact b.elim
end
end Fm
namespace Fm
open PySem PySem.Spec L2
section
variable{X:Cx}
end
end Fm
namespace Fm
variable{d:D}{h h':Hd}
def uk(e:h'.length<=h.length):.a1 (.ak h')=.ak h':=by
 dsimp[letGo];split
 ·rw[Y9 e]
 ·rfl
@[simp] theorem aJ{h:Hd}{d:D}:letGo h (.ok d h)=.ok d h:=uk .B
@[simp] theorem K5{h:Hd}{d:D}:letGo h (.ok d<|h.set n c)=.ok d (h.set n c):=uk .f
def ul(e:pure? d=false):.a1 (.ak h')=.ak h':=by
 simp[letGo,e]
@[simp] theorem cI{h h':Hd}:letGo h (.ok .fB h')=.ok .fB h':=ul rfl
def bP(e:pure? d=true):.a1 (.ak .aj)=.ak h:=by
 have:I0 h .aj:=λn c a b=>.inl (by rwa[ZC a]at b);simp[letGo,e,this]
def K6(e:pure? d=true)(b:h'.length=h.length)(a:I0 h (h'++g)):.a1 (.ak<|h'++g)=.ak h':=by
 simp[letGo,e,a,<-b]
structure Web where
 ties:List (List .bV)
 bars:List Int
 stays:List .he
def bw:Option Int->D
 |none=>.non
 |some i=>.int i
/---/def qQ(p:.cQ):D:=.tup .fs
/---/def yi(r:.bj):D:=.tup .gy
/---/def ar(l:.c):D:=.tup .gf
/---/def Web.enc(w:Web):D:=.tup [.tup .uy,.tup .t8,.tup .b3]
structure Web.Ok(w:Web)(n:Nat):Prop where
 t:w.ties.length=n
 b:w.bars.length=n
 s:w.stays.length=n
 lt:∀r∈w.ties,∀p∈r,p.1<n
 sz:n<=1000
structure bI(w:Web)(n:Nat)(s:.c):Prop where
 len:s.length=n
 op:∀x∈s,x=0\/x=1
 st:∀(i:Nat) (x:Int),w.stays[i]?=some .fJ->s[i]?=some x
variable{l:List D}
def dN{i:Nat}(e:l[i]?=some d):atI l (i:Int)=some d:=by
 have:=(.cN).1;simp[atI,ixN,this];simpa[ZE this] using e
@[simp] theorem kY(x:D)(l:List D):atI (x::l) 0=some x:=dN rfl
@[simp] theorem EQ(x y:D)(l:List D):atI (x::y::l) 1=some y:=dN rfl
@[simp] theorem Yr(x y z:D)(l:List D):atI (x::y::z::l) 2=some z:=dN rfl
theorem bj{h:Hd}(I:Sd->Prop)(p:D->Bool)(f:D->D)(a:d9 g all h):
  ∀{xs:List D} {σ:Sd},(∀x∈xs,∀σ,I σ->∃σ',tg x σ=some σ'/\I σ'/\j5 cs σ' h=.ok (p x) h/\.sq)->I σ->
   cu g all tg cs e xs σ h=.ok .to h
 |[],_,_,_=>by simp[cu,a]
 |x::xs,σ,st,i=>by
  obtain⟨σ',h1,k,d,l⟩:=st x .f σ i;have c:=bj I p f a (xs:=xs) (λy j=>st y (by simp[j])) k;cases b:p x with
  |true=>simp[cu,a,h1,d,b,l b,c]
  |false=>simp[cu,a,h1,d,b,c]
theorem um{rest:List D}(P:.vS)(j:.vz):
  ∀{xs:List D} {k:Nat} {σ:Sd} {h:Hd},(∀(i:Nat) x σ h,xs[i]?=some x->P (k+i) σ h->∃σ',tg x σ=some σ'/\∃σ'' a,b σ' h=.nx σ'' a/\P (k+i+1) σ'' a)->P k σ h->
   ∃σ' h',i0 g all tg b (xs++rest) σ h=i0 g all tg b rest σ' h'/\P .u2 σ' h'
 |[],k,σ,h,_,p=>⟨σ,h,rfl,by simpa using p⟩
 |x::xs,k,σ,h,st,p=>by
  obtain⟨σ',h1,o,t,m,s⟩:=st 0 x σ h .f (by simpa using p);have f:∀(i:Nat) y σ h,xs[i]?=some y->P (k+1+i) σ h->∃σ',tg y σ=some σ'/\∃σ'' a,b σ' h=.nx σ'' a/\P (k+1+i+1) σ'' a:=λi y σ h e q=>by
   have c:k+1+i=k+(i+1):=by omega
   rw[c]at q⊢;exact st (i+1) y σ h .fw q
  obtain⟨d,n,r,l⟩:=um P j f (by simpa using s);refine⟨d,n,?_,?_⟩
  ·rw[<-r,List.cons_append,i0,zE (j _ _ _ p),h1]
   dsimp[m]
  ·have c:k+(.dL).length=k+1+xs.length:=by simp;omega
   rw[c];exact l
variable{σ:Sd}{b:SF}{tg:GF}
def cn(P:.vS)(c:.vz)(st:∀(i:Nat) x σ h,xs[i]?=some x->P (k+i) σ h->∃σ',tg x σ=some σ'/\∃σ'' a,b σ' h=.nx σ'' a/\P (k+i+1) σ'' a)(p:P k σ h):
   ∃σ' h',i0 g all tg b xs σ h=.nx σ' h'/\P .u2 σ' h':=by
 obtain⟨σ',h',q,z⟩:=um P c st p;rw[YX]at q;exact⟨σ',h',q.trans (by unfold i0;exact zE (c _ _ _ z)),z⟩
theorem qR{tg:GF}(P:.vS)(V:Nat->D->Prop)(b:.vz):
  ∀{xs:List D} {k:Nat} {σ:Sd} {h:Hd},(∀(i:Nat) x σ h,xs[i]?=some x->P (k+i) σ h->∃σ',tg x σ=some σ'/\∃d a,e σ' h=.ok d a/\V (k+i) d/\P (k+i+1) σ' a)->P k σ h->
   ∃ds h',cu g all tg [] e xs σ h=.ok ds h'/\ds.length=xs.length/\(∀(i:Nat) d,ds[i]?=some d->V (k+i) d)/\∃σ',P .u2 σ' h'
 |[],k,σ,h,_,p=>⟨[],h,by simp[cu,b _ _ _ p],rfl,by simp,σ,by simpa using p⟩
 |x::xs,k,σ,h,st,p=>by
  obtain⟨σ',h1,d,z,s,n,w⟩:=st 0 x σ h .f (by simpa using p);have j:∀(i:Nat) y σ h,xs[i]?=some y->P (k+1+i) σ h->∃σ',tg y σ=some σ'/\∃d a,e σ' h=.ok d a/\V (k+1+i) d/\P (k+1+i+1) σ' a:=λi y σ h e q=>by
   have f:k+1+i=k+(i+1):=by omega
   rw[f]at q⊢;exact st (i+1) y σ h .fw q
  obtain⟨ds,u,v,t,l,c,o⟩:=qR P V b j (by simpa using w);refine⟨d::ds,u,?_,by simp[t],λi r m=>?_,c,?_⟩
  ·simp[cu,b _ _ _ p,h1,j5,s,v]
  ·cases i with
   |zero=>simp at m;subst m;simpa using n
   |succ i =>
    have:=l i r (by simpa using m);rwa[show k+1+i=k+(i+1) by omega]at this
  ·have f:k+(.dL).length=k+1+xs.length:=by simp;omega
   rw[f];exact o
variable{n:Nat}
def yj{α:Type}{ds:List α}{f:Nat->α}(b:ds.length=n)(h:∀(i:Nat) d,ds[i]?=some d->d=f i):ds=(.s).map f:=by
 apply VM;intro i
 by_cases a:i<n
 ·have:ds[i]?=some (ds[i]' .b):=by simp[b,a]
  rw[this,h i _ this];simp[a]
 ·simp[a,b]
theorem kZ{b:SF}:∀{n:Nat} {σ:Sd} {h:Hd} {r:Out},fW t b n σ h=r->r ≠ .bad->∀{m:Nat},n<=m->fW t b m σ h=r
 |0,σ,h,r,e,f,m,_=>by dsimp[fW]at e;exact absurd e.symm f
 |n+1,σ,h,r,e,f,m,hm=>by
  cases m with
  |zero=>omega
  |succ m =>
   dsimp[fW]at e⊢;cases c:t σ h with
   |bad=>rw[c]at e;exact e
   |exc x h1=>rw[c]at e;exact e
   |ok i h1 =>
    rw[c]at e;cases i with
    |false=>exact e
    |true =>
     simp only at e⊢;cases a:b σ h1 with
     |nx σ2 g=>rw[a]at e;exact kZ e f .b
     |ct σ2 g=>rw[a]at e;exact kZ e f .b
     |bk σ2 g=>rw[a]at e;exact e
     |rt d g=>rw[a]at e;exact e
     |exc x σ2 g=>rw[a]at e;exact e
     |bad=>rw[a]at e;exact e
variable{t:TF}
def Bc(e:fW t b n σ h=r)(c:r ≠ .bad):t8 t b σ h=r:=by
 have a:∃n,fW t b n σ h ≠ .bad:=⟨n,by rw[e];exact c⟩;have d:Qv t b σ h=Classical.choose a:=by simp[Qv,a]
 have f:=Classical.choose_spec a;unfold t8;rw[d]
 by_cases hle:n<=Classical.choose a
 ·exact kZ e c hle
 ·have:=kZ rfl f (m:=n) .b
  rw[<-this,e]
variable{ds:List D}{h1:Hd}
def aq(a:r σ h=.dx h1)(b:F ds h1=.ak h'):au F r σ h=.ak h':=by
 show Res.bind _ _=_;rw[a];exact b
def aw{b:Hd}(p:a σ h=.ak h1)(q:r σ h1=.dx b):ad a r σ h=.ok (d::ds) b:=by
 show Res.bind _ _=_;rw[p,aR,q];rfl
def av{a b:EF}{d c:Hd}(p:.mx)(q:b σ h1=.ok y d)(r:g x y d=.ok z c):ag g a b σ h=.ok z c:=by
 show Res.bind _ _=_;rw[p,aR,q];exact r
def cX{xs:List D}(p:.vV)(q:xs.length<=SZ:=by exact YD rfl):cZ r σ h=.ok .dc h':=by
 show Res.bind _ _=_;rw[p];exact zE q
def cR{xs:List D}(p:.vV)(q:xs.length<=SZ:=by exact YD rfl):bR r σ h=.ok (.ref h'.length) (h'++[.lst xs]):=by
 show Res.bind _ _=_;rw[p];exact zE q
def iq{b:EF}(p:.j7)(q:b σ h1=.ok .v c)(r:atI l i=some d):fIx a b σ h=.ak c:=by
 show Res.bind _ _=_;rw[p,aR,q];dsimp[aR,r]
def aL{a b:EF}(p:.mx)(q:b σ h1=.ok .v c)(s:kT c x=some l)(r:atI l i=some d):fAt a b σ h=.ak c:=by
 exact av p q (by dsimp[oAt,s,r])
def aF(p:h[n]?=some .d7):kT h .fB=some l:=by dsimp[kT,p]
variable{e:EF}
def aC(p:e σ h=.ak h'):aD (gN i) e σ h=.nx (σ.set i<|some d) h':=by
 show outE _ _ _=_;rw[p];rfl
def aE(p:e σ h=.ak h'):aS e σ h=.rt d h':=by
 show outE _ _ _=_;rw[p];rfl
def dj(p:e σ h=.ak h'):ed e σ h=.dy h':=by
 show outE _ _ _=_;rw[p];rfl
def dD(p:.p6):sIf t a b σ h=a σ h1:=by
 unfold sIf;rw[p];rfl
def bH(p:.p1):sIf t a b σ h=b σ h1:=by
 unfold sIf;rw[p];rfl
def aM{b:Bool}(p:a σ h=.ok .eP h'):tE a σ h=.ok b h':=by
 show asB _=_;rw[p];rfl
def c0{b:Bool}(p:t σ h=.ok b h'):dZ t σ h=.ok (!b) h':=by
 show Res.bind _ _=_;rw[p];rfl
def gC{b:Bool}(p:.p6)(q:u σ h1=.ok b h'):iy t u σ h=.ok b h':=by
 show Res.bind _ _=_;rw[p];exact q
def j8(p:.p1):iy t u σ h=.dr h1:=by
 show Res.bind _ _=_;rw[p];rfl
def iQ{b:Bool}(p:.p1)(q:u σ h1=.ok b h'):tOr t u σ h=.ok b h':=by
 show Res.bind _ _=_;rw[p];exact q
def uo(p:.p6):tOr t u σ h=.ds h1:=by
 show Res.bind _ _=_;rw[p];rfl
variable{j:Int}
def iR:oEq .v .cd h=.ok (.bl<|decide (i=j)) h:=rfl
def dE(p:.j7):cC a σ h=.ok .sD h1:=by
 show Res.bind _ _=_;rw[p];rfl
def cF(p:.mx)(s:kT h1 x=some l):lOf a σ h=.ok l h1:=by
 show Res.bind _ _=_;rw[p];dsimp[aR,s]
def lO{b a:Hd}(p:e σ h=.ak h1)(q:x σ h1=.ok .fB b)(r:i σ b=.ok .cd a)(s:.mw)(t:ixN l.length j=some k):jX x i e σ h=.dy (a.set n<|.lst<|l.set k d):=by
 dsimp[jX,p,q,r,outE,s,t]
def jx{b:List D}(p:.p5)(q:.pY)(r:e σ h1=.ak a)(s:.mw)(t:l.length<SZ):jY x e σ h=.e9 (a.set n<|.lst<|l++[d]):=by
 dsimp[jY,p,aR,q,r,Tz,s,zE t]
def c8(p:0<j):bL .v .cd h=.ok (.int<|i%j) h:=by
 dsimp[bL,oIc,z3 p,Y5]
def f6(p:0<j)(q:j<2^250):ek .v .cd h=.ok (.int<|i/j) h:=by
 dsimp[ek,oIc,z3 p,z3 q,Bool.and_self,Y5]
def CJ(e:i=j):oEq .v .cd h=.aM h:=by rw[iR,z3 e]
def uq(e:¬i=j):oEq .v .cd h=.g8 h:=by rw[iR,z4 e]
def CK(e:¬i<j):oLt .v .cd h=.g8 h:=by show Res.ok (D.bl<|decide (i<j)) h=_;rw[z4 e]
def yk(e:i<j):oLt .v .cd h=.aM h:=by show Res.ok (D.bl<|decide (i<j)) h=_;rw[z3 e]
def Op(p:(sml i||sml j)=true):dI .cS (.int j) h=.ok (.int<|i*j) h:=by
 exact zE p
def p7(p:sml i=true):dI .v .cd h=.ok (.int<|i*j) h:=Op (by rw[p];rfl)
def Rx(p:sml j=true):dI .v .cd h=.ok (.int<|i*j) h:=Op (by rw[p,zYt])
def ot{b:Bool}(p:t σ h=.ok b h'):fT t σ h=.ok .eP h':=by
 show Res.bind _ _=_;rw[p];rfl
variable{A:Nat}
def Ry(b:A=a.length)(p:r σ h=.ok xs (a++g))(q:xs.length<=SZ):bR r σ h=.ok (.ref<|A+g.length) (a++(g++[.lst xs])):=by
 rw[cR p q,b,ZB,ZU]
def xl{a g:Hd}(b:A=a.length)(k:Nat)(c:cM):(a++g).set (A+k) c=a++g.set k c:=by
 subst b;rw[List.set_append_right _ _ .b];congr 2;omega
def xm{a g:Hd}(b:A=a.length)(k:Nat):(a++g)[A+k]?=g[k]? := by
 subst b;rw[ZD .b,zZi]
def bE{j:Nat}(g:Hd)(e:a[j]?=some c):(a++g)[j]?=some c:=(ZC (.cN).1).trans e
def eM(p:a σ h=.ev h1)(hn:n<=1000):cr a σ h=.ok ((.s).map (λk:Nat=>D.int k),none) h1:=by
 show Res.bind _ _=_;rw[p];exact zE ⟨Int.le_trans .a (ve n),Int.le_trans .o4 .a⟩
def eO(p:it σ h=.ok (l,g) h1)(q:i0 g l tg b l σ h1=o):fE it tg b σ h=o:=by
 unfold fE;rw[p];exact q
def bZ{b:Hd}(p:it σ h=.ok (l,g) h1)(q:cu g l tg cs e l (gJ a caps σ) h1=.dx b):bG a caps it tg cs e σ h=.dx b:=by
 show Res.bind _ _=_;rw[p];exact q
def U5{b:EF}{n:Int}(p:.j7)(q:b σ h1=.ev c)(r:0<=n/\n<=1000/\l.length*n.toNat<=1000):xG a b σ h=.ok (.Ca).flatten c:=by
 dsimp[xG,p,aR,q,zE r]
def U6{l:.en}(p:h[n]?=some .ii):Mw (.int k) .fB h=.ok (.bl (xF l k).isSome) h:=by dsimp[Mw,p]
def JH{b a:Hd}{l:.en}(p:e σ h=.ak h1)(q:x σ h1=.ok .fB b)(r:i σ b=.ok .cd a)(s:a[n]?=some .ii)(t:l.length<SZ):D4 x i e σ h=.dy (a.set n<|.dct<|GP l j d):=by
 dsimp[D4,p,q,r,outE,s,zE t]
def CL(p:.ms)(q:h1[n]?=some .d7):i3 .list a σ h=.aM h1:=by
 dsimp[i3,p,aR,Kn,q];rfl
def c5(p:.ms)(q:h1[n]?=some .d7):dA a σ h=.ok (l,some n) h1:=by
 dsimp[dA,p,aR,q]
def U7{a b:EF}(p:.vQ)(q:b σ h1=.ok .cd c):ub a b σ h=.ok .yf c:=by
 dsimp[ub,p,aR,q]
def qS{b:Bool}(p:a σ h=.ok .eP h1):qG a σ h=.ok (.int<|b2i b) h1:=by
 dsimp[qG,p,aR]
def ym(p:.j7)(q:jj l=some is):rH a σ h=.ok (.int is.sum) h1:=by
 dsimp[rH,p,aR,q]
def hU(p:.j7):fg a σ h=.ok (.tup l) h1:=by
 show Res.bind _ _=_;rw[p];rfl
def Hn(e:j<i):oGt .v .cd h=.aM h:=by show Res.ok (D.bl<|decide (j<i)) h=_;rw[z3 e]
def yn(e:¬j<i):oGt .v .cd h=.g8 h:=by show Res.ok (D.bl<|decide (j<i)) h=_;rw[z4 e]
def eu(a:.gS)(c:cM):(h++[c])[A]?=some c:=by rw[a];exact ZG
def hV(a:.gS)(c d:cM):(h++[c]).set A d=h++[d]:=by
 have:=xl (g:=[c]) a 0 d;rwa[Nat.add_zero]at this
def k7(a:A=h'.length)(p:.vV)(q:xs.length<=SZ):bR r σ h=.ok .ar (h'++[.lst xs]):=by rw[a];exact cR p q
def i7{l:.c}(h:i<l.length):atI .hM (i:Int)=some (.int .o7):=dN (by rw[ZQ,ZE h,ZF,ZE h];rfl)
def nI{a b:EF}(p:.p6):fIf t a b σ h=a σ h1:=by
 show Res.bind _ _=_;rw[p];rfl
def pv{a b:EF}(p:.p1):fIf t a b σ h=b σ h1:=by
 show Res.bind _ _=_;rw[p];rfl
def bF(e:.p9):ax a b σ h=b σ' h':=by dsimp[ax,e]
def dS(e:a σ h=.rt d h'):ax a b σ h=.rt d h':=by dsimp[ax,e]
def aU(a:ds.length=np)(st:.Ea)(e:b σ h=.rt d h'):bB np n b ds h=.a1 (.ak h'):=by
 unfold bB runB;rw[zE a,st,e]
def Oq(a:ds.length=np)(st:.Ea)(e:b σ h=.nx σ' h'):bB np n b ds h=.a1 (.e9 h'):=by
 unfold bB runB;rw[zE a,st,e]
def kh{b:Bool}(p:t σ h=.ok b h):j5 [t] σ h=.ok b h:=by
 dsimp[j5,p,aR];cases b<;>rfl
def sr(p:.vD):dA a σ h=.ok (l,none) h1:=by
 show Res.bind _ _=_;rw[p];rfl
def qT(p:.j7)(q:ml l=some bs):rJ a σ h=.ok (.bl .pp) h1:=by
 dsimp[rJ,p,aR,q]
def qU(a b:Int)(h:Hd):oNe .cK (.int b) h=.ok .n7 h:=rfl
def aV{a b:EF}{e:D}(p:a σ h=.ak h1)(q:b σ h1=.ok e c):ad a (ad b am) σ h=.ok [d,e] c:=aw p (.bO q)
def nJ{m:Nat}(h:n<=30)(q:30<=m:=by decide):n<=m:=ZM h q
def sx(p:.p9)(q:b σ' h'=o):ax a b σ h=o:=(bF p).trans q
/---/def f7:Fn:=.du (aS<|fT<|iy (tE<|i3 .int .e)<|dZ<|tE<|i3 .bool .e)
/---/def bC:Fn:=bB 3 3 (aS<|fT<|iy (tE .pr) .Bc)
/---/def d6:Fn:=.du (aS<|au bC<|.cB<|ad .z .gd)
/---/def bS:Fn:=.du (aS<|cC<|lOf .aX)
/---/def eU:Fn:=.dt (aS<|fAt .aX .d)
/---/def mD:Fn:=.dt (aS<|fAt .cn .d)
/---/def ia:Fn:=.dt (aS<|fAt .cI .d)
abbrev JI:SF:=(ax (.fX .DI)
  (ax (.bs<|au ia .cl)
  (.fX<|iy (tE (ag jH .u .aV))<|tE (ag oNe .h .u))))
/---/def CM:Fn:=bB 2 5 (ax (.fX .x5)
  (ax (fE (IZ .d) (gT [2,3]) JI)
  (aS<|fC .dz)))
/---/def bY:Fn:=.dt (.aA<|dZ<|tE<|.cV CM)
/---/def p8:Fn:=bB 3 3 (aS<|.bn .J<|rH<|bG 2 [1] (dA .jE) .bI .ns .d)
def sA(i:Int)(h:Hd):f7 [.int i] h=.aM h:=(.n rfl).trans aJ
def dF(i a b:Int)(h:Hd):bC [.int i,.int a,.int b] h=.ok .z7 h:=by
 have c:xC oLe oLe .d .e .g .Ai h=.ok .z7 h:=by
  show (match D.bl (decide (a<=i)) with | .bl true=>Res.ok (D.bl<|decide (i<=b)) h | .bl false=>.ok (.bl false) h|_=>.bad)=_;cases decide (a<=i)<;>rfl
 have t:iy (tE .pr) .Bc .Ai h=.ok (decide (a<=i)&&decide (i<=b)) h:=gC (aM<|.ah<|sA i h) (aM c);exact (.n<|aE<|ot t).trans aJ
def ky(i:Int)(h:Hd):d6 [.int i] h=.ok (.bl<|decide (0<=i)&&decide (i<=1)) h:=by
 exact (.n<|aE<|aq .b8<|dF i 0 1 h).trans aJ
def pw(w:Web)(h:Hd):bS .aQ h=.ok (.int w.ties.length) h:=by
 have:=(aU (n:=1) (b:=aS (cC<|lOf .aX)) (ds:=.aQ) (h:=h) rfl rfl<|aE<|dE .pa).trans aJ;rwa[ZA]at this
variable{r:.bj}{p:Nat}
def pz(w:Web)(h:Hd)(e:w.ties[p]?=some r):eU .hL h=.ok (yi r) h:=by
 have q:atI .uy (p:Int)=some (yi r):=dN (by simp[e]);exact (.sc).trans aJ
def yp(w:Web)(h:Hd){r:Int}(e:w.bars[p]?=some r):mD .hL h=.ok (.int r) h:=by
 have q:atI .t8 (p:Int)=some (.int r):=dN (by simp[e]);exact (.sc).trans aJ
def pA(w:Web)(h:Hd){r:.aF}(e:w.stays[p]?=some r):ia .hL h=.ok (bw r) h:=by
 have q:atI .b3 (p:Int)=some (bw r):=dN (by simp[e]);exact (.sc).trans aJ
variable{s:.c}{w:Web}
def Rz(W:w.Ok n)(F:.V)(h:Hd):CM .dF h=.aM h:=by
 obtain⟨σ',r,o,A,a,b,c,z⟩:=cn (P:=λ_ σ r=>r=h/\∃a b c,σ=[some w.enc,some .C,a,b,c]) (g:=none) (k:=0)
   .bA
   (xs:=((List.range (.gp).length).zip .gp).map λp=>D.tup [.int (p.1:Nat),p.2]) (tg:=gT [2,3]) (σ:=.hh) (h:=h)
   (b:=JI) (by
   rintro i x σ d q ⟨rfl,a,b,c,rfl⟩;have f:i<s.length:=by
    have:=(zA.mp q).1;simpa using this
   have m:x=.tup [.int (i:Nat),.int s[i]]:=by simpa[f,ZE] using q.symm
   subst m;have l:w.stays[i]?=some (w.stays[i]' .Bv):=ZE _;generalize w.stays[i]' .Bv=u at l;have v:d6 [.int s[i]] d=.aM d:=by
    rw[ky];rcases F.op _ (YA f) with e|e<;>rw[e]<;>rfl
   have j:sIf .DI .fh bh .yD d=.nx .yD d:=bH (c0<|aM<|.ah v);have t:=pA w d l;cases u with
   |none=>exact⟨_,rfl,_,d,(bF j).trans ((bF<|aC<|.F t).trans (bH<|j8 .b9)),rfl,_,_,_,rfl⟩
   |some y =>
    have B:s[i]=y:=by have:=F.st i y l;rw[ZE f]at this;exact ZT this
    exact⟨_,rfl,_,d,(bF j).trans ((bF<|aC<|.F t).trans (bH<|gC .b9<|aM<|.am (by rw[show bw (some y)=D.int y from rfl,qU,z3 B];rfl))),rfl,_,_,_,rfl⟩) ⟨rfl,_,_,_,rfl⟩
 rw[A,z]at o;have j:sIf .x5 .fh bh .hh h=.nx .hh h :=
  bH (iQ .tG<|aM<|av .ow (.ah<|pw w h) (by rw[qU,ZA,F.len,W.t,z3 rfl];rfl))
 exact (.n<|(bF j).trans ((bF<|eO rfl o).trans .cc)).trans aJ
def kA(W:w.Ok n)(F:.V)(h:Hd):bY .dF h=.e9 h:=by
 exact(Oq rfl rfl<|bH<|c0<|aM<|.F<|Rz W F h).trans aJ
def mF(l:.c):jj .gf=some l:=by
 induction l with
 |nil=>rfl
 |cons x b a=>simp[jj,a]
def U8(h:i<s.length):atI (s.map .int) (i:Int)=some (.int s[i]):=dN (by simp[h])
/---/def iG(r:.bj)(s:.c):List Int:=(r.filter λp=>decide (s.getD p.1 0=1)).map (·.2)
/---/def bV(r:.bj)(s:.c):Int:=(iG r s).sum
def ER(j:∀q∈r,q.1<s.length)(h:Hd):.d0 .gy .bI .ns .d .gy [none,none,some .C] h=.ok ((iG r s).map D.int) h:=by
 have c:.d0 .gy .bI .ns .d .gy [none,none,some .C] h
   = .ok (((.gy).filter λd=>match d with | .tup [.int i,_]=>decide (s.getD i.toNat 0=1)|_=>false).map λd=>match d with | .tup [_,x]=>x|_=>.non) h:=by
  refine bj (g:=none) (I:=λσ=>∃a b,σ=[a,b,some .C]) _ _ trivial ?_ ⟨_,_,rfl⟩;rintro x e σ ⟨a,b,rfl⟩;obtain⟨⟨q,k⟩,f,rfl⟩:=z0.mp e;exact⟨_,rfl,⟨_,_,rfl⟩,kh (aM<|av (.aG rfl<|i7<|j _ f) rfl iR),λ_=>rfl⟩
 rw[c,iG,zYh,y3,y3];rfl
def Ho(W:w.Ok n)(c:s.length=n)(e:w.ties[p]?=some r)(h:Hd):
  p8 .tA h=.ok (.int<|2*bV r s) h:=by
 have b:∀q∈r,q.1<s.length:=λq a=>by rw[c];exact W.lt r (ZK e) q a
 exact (.n<|aE<|av rfl (ym (bZ (sr<|.F<|pz w h e)<|ER b h)<|mF _)<|p7 .a).trans aJ
/---/def p9(w:Web)(f s:.c)(p:Nat):Int:=(2*w.bars.getD p 0+1)*(f.getD p 0+s.getD p 0)-(if s.getD p 0=1 then 2*(2*bV .tK f)+2*f.getD p 0 else 0)
def i8(w:Web)(f s:.c):Nat->Int
 |0=>0
 |k+1=>i8 w f s k+p9 w f s k
variable{x:Int}
def RA(h:x=0\/x=1):sml x=true:=by rcases h with e|e<;>subst e<;>decide
/---/def ki:Fn:=bB 3 6 (ax (.a0<|au ia .cl)
  (ax (sIf (tE<|ag jH .h .aV) (aS .h) bh)
  (ax (.bs<|au p8 .rG)
  (ax (.bt<|au mD .cl)
  (ax .yw
  .zo)))))
/---/def cN:Fn:=.dt (aS<|fg<|bG 1 [0,1] (cr .dH) .G [] .Bj)
abbrev yq:SF:=(ax (ed<|jY .g .h)
  (.a0<|au cN .gm))
/---/def iH:Fn:=bB 2 5 (ax .lz
  (ax (.ap .Aw)
  (ax (.a0 .Bk)
  (ax (t8 (tE .oz) yq)
  (ax (.bs .xh)
  (aS<|cZ<|ad .tl (ad .u .d2)))))))
/---/def ef(w:Web)(s:.c)(p:Nat):Int:=match w.stays.getD p none with
 |some x=>x
 |none=>if 2*bV .tK s=w.bars.getD p 0 then s.getD p 0 else if w.bars.getD p 0<2*bV .tK s then 1 else 0
/---/def aW(w:Web)(n:Nat)(s:.c):List Int:=(.s).map (ef w s)
def Hq(W:w.Ok n)(F:.V)(hp:p<n)(h:Hd):ki .tA h=.ok (.int<|ef w s p) h:=by
 have l:p<w.ties.length:=by rw[W.t];exact hp
 have j:p<w.bars.length:=by rw[W.b];exact hp
 have d:p<w.stays.length:=by rw[W.s];exact hp
 have m:p<s.length:=by rw[F.len];exact hp
 have o:w.ties[p]?=some w.ties[p]:=by simp[l]
 have r:w.bars[p]?=some w.bars[p]:=by simp[j]
 have f:w.stays[p]?=some w.stays[p]:=by simp[d]
 have a:=Ho W F.len o h;have A:w.ties.getD p []=w.ties[p]:=by simp[List.getD,l]
 have y:w.bars.getD p 0=w.bars[p]:=by simp[List.getD,j]
 have k:w.stays.getD p none=w.stays[p]:=by simp[List.getD,d]
 have B:s.getD p 0=s[p]:=by simp[List.getD,m]
 have q:=U8 m;cases c:w.stays[p] with
 |some x =>
  rw[c]at f;have t:ef w s p=x:=by unfold ef;rw[k,c]
  rw[t];exact (.n<|(bF<|aC<|.F<|pA w h f).trans (dS<|(dD .b9).trans .cc)).trans aJ
 |none =>
  rw[c]at f;have u:=pA w h f;have z:=yp w h r;dsimp[ef,k,c,A,y,B];generalize 2*bV w.ties[p] s=P at a;have i:∀{v:Int},ax .yw .zo [some w.enc,some .C,some (.int p),some .non,some (.int P),some (.int w.bars[p])] h=.rt .cs h->ki .tA h=.ok .cs h:=λe=>zXo (.n<|sx (aC<|.F u)<|sx .jU<|sx (aC<|aq .b8 a)<|sx (aC<|.F z) e) aJ
  by_cases b:P=w.bars[p]
  ·rw[zE b];exact i (dS<|(dD<|aM<|.am<|CJ b).trans (aE<|.aG rfl q))
  ·rw[zF b]
   by_cases g:w.bars[p]<P
   ·rw[zE g];exact i ((.Al).trans (aE<|(nI<|aM<|.am<|Hn g).trans rfl))
   ·rw[zF g];exact i ((.Al).trans (aE<|(pv<|aM<|.am<|yn g).trans rfl))
def gR(W:w.Ok n)(F:.V)(h:Hd):cN .dF h=.ok (ar .af) h:=by
 have b:.mM [] .Bj ((.s).map λk:Nat=>D.int k) [none,some w.enc,some .C] h
   = .ok ((.yS).map λd=>match d with | .int i=>.int (ef w s i.toNat)|_=>.non) h:=by
  refine bj (g:=none) (I:=λσ=>∃a,σ=[a,some w.enc,some .C]) _ _ trivial ?_ ⟨_,rfl⟩;rintro x j σ ⟨a,rfl⟩;obtain⟨i,c,rfl⟩:=z0.mp j;have c:=YK.mp c;exact⟨_,rfl,⟨_,rfl⟩,by simp,λ_=>aq .b8 (Hq W F c h)⟩
 have e:(.yS).map (λd=>match d with | .int i=>D.int (ef w s i.toNat)|_=>.non)=(.af).map D.int:=by
  rw[wL.mpr .f,y3,aW,y3];rfl
 rw[e]at b;have f:bS .aQ h=.ev h:=W.t▸pw w h;exact (.n<|aE<|hU<|bZ (eM .pB W.sz) b).trans aJ
/---/def cG(w:Web):Prop:=∀x∈w.stays,x=none\/x=some 0\/x=some 1
def iB(F:.V)(i:Nat):s.getD i 0=0\/s.getD i 0=1:=by
 by_cases a:i<s.length
 ·rw[List.getD,ZE a];exact F.op _ (YA a)
 ·rw[List.getD,wM .b];exact .inl rfl
def yr(F:.V)(S:cG w)(p:Nat):ef w s p=0\/ef w s p=1:=by
 unfold ef;cases c:w.stays.getD p none with
 |some x =>
  have:some x∈w.stays:=by
   rw[List.getD]at c;cases e:w.stays[p]? with
   |none=>rw[e]at c;cases c
   |some y=>rw[e]at c;simp at c;subst c;exact ZK e
  have:=S _ this;simp at this;exact this
 |none =>
  simp only;split
  ·exact iB F p
  ·split<;>simp
theorem gp(W:w.Ok n)(S:cG w)(F:.V):bI w n .af where
 len:=by simp[aW]
 op:=λx b=>by
  obtain⟨p,d,rfl⟩:=z0.mp b;exact yr F S p
 st:=λi x e=>by
  have a:i<n:=by rw[<-W.s];exact (.cN).1
  have:.ir none=some x:=by simp[List.getD,e]
  have c:ef w s i=x:=by unfold ef;rw[this]
  simp[aW,a,c]
def hist(w:Web)(n:Nat)(s:.c):Nat->List Int
 |0=>s
 |k+1=>.aU .b7
theorem bm{w:Web}{n:Nat}{s:.c}(W:w.Ok n)(S:cG w)(F:.V):∀k,bI w n .b7
 |0=>F
 |k+1=>gp W S .eL
/---/def bn(w:Web)(n:Nat)(s:.c)(m:Nat):List .aW:=(.bY m).map (.t s)
def yt(m:Nat):bn w n s (m+1)=bn w n s m++[.t s m]:=by simp[bn,vc]
def jy(m:Nat):(.dU m).length=m:=by simp[bn]
def Os(h:i<m):atI ((.dU m).map ar) (i:Int)=some (ar .lH):=dN (by simp[bn,h])
/---/def kB:Fn:=bB 2 4 (ax (.fX<|tOr (dZ<|tE<|i3 .tuple .d)<|tE<|ag oNe .c5 .a5)
  (ax (.ap .k9)
  (ax (.a0 .lN)
  (ax (.fX<|tOr (dZ<|tE<|au bC<|ad .g .AF)<|dZ<|tE<|au bC<|ad .h .AF)
  (aS<|fT<|iy (tE<|ag oNe .g .h)<|tE<|au bC<|ad (fAt .d .J)<|ad .o .Dj)))))
abbrev lQ:SF:=(ax (.aA<|dZ<|tE<|au kB .gm)
  (ax (.bs<|fAt .h .z)
  (ax (.bt<|fAt .h .o)
  (ax (.aA<|tE<|ag Mw .H (.fa .u))
  (ax (D4 (.fa .u) .H<|fAt .h .J)
  (D4 (.fa .H) .u<|fAt .h .J))))))
/---/def j9:Fn:=bB 2 6 (ax (.aA .lc)
  (ax (.ap<|bR<|.e2 (cr .e) Ja)
  (ax (fE (dA .d) .cq lQ)
  .gH)))
/---/def k8:Fn:=bB 2 2 (ax (.aA .ll)
  (ax (.aA<|tOr .lc<|tE<|ag oNe .c5 .fu)
  (ax (.aA<|dZ<|tE<|rJ<|.e2 (dA .d) .pr)
  (aS<|fg<|lOf .d))))
/---/def ka:Fn:=bB 2 2 (ax (sIf .ll (aS<|fg<|.e2 (cr .e) .aV) bh)
  (ax (.aA<|tOr .lc<|tE<|ag oNe .c5 .e)
  (ax (.aA<|dZ<|tE<|rJ<|.e2 (dA .d)<|fT .sy)
  (aS<|fg<|lOf .d))))
/---/def gS:Fn:=bB 4 6 (ax (.aA<|dZ<|tE<|au bC<|.cB<|ad .o .rH)
  (ax (.bs<|.cV j9)
  (ax (.bt<|fg<|.e2 (dA .u)<|fg<|ua .e)
  (aS<|cZ<|ad .H<|ad (au k8 (ad .u .d2))<|ad (au ka .gm) am))))
/---/def CN:Fn:=bB 2 2 (ax .lz
  (aS<|.cV cN))
/---/def Be:Fn:=bB 2 4 (ax .vf
  (ax (sIf .Dv (.ap .u6) bh)
  (ax (.a0<|fT<|tOr (tE<|.be .fu .z)<|tE<|.be (.aH .aX .J) .o)
  (ax (sIf (tE .h) (.ap<|.a3 (.aH .g .rD)<|.bn (fC<|.int 1000003) .d) bh)
  (aS<|bR<|ad .g<|ad .z .c4)))))
/---/def fN:Fn:=bB 2 4 (ax (jX .e .o<|.a3 .cn .o)
  (ax (sIf (tE .cI) (ax (.ap<|.aH (.bn (.a3 (.a3 .aX<|.bn (fC<|.int 7919) .cn) .o)<|fC<|.int 48271) .rD)
  (ax (.ap<|.aH (.bn .g<|.a3 (.aH .g<|fC<|.int 65521) .cn)<|fC<|.int 2147483629)
  (aS<|.aH (.aH (.a3 (.bn .g .g)<|.bn (fC<|.int 69621) .g)<|fC<|.int 2147483563) .d))) bh)
  (ax (.a0<|.aH .aX .d)
  (ax (jX .e .z<|ag ek .aX .d)
  (aS .h)))))
/---/def RB:Fn:=bB 3 3 (ax (sIf (tE<|.be .e .z) .gH bh)
  (ax (sIf (tE<|.be .e .o) (aS<|ag gy .d<|fC<|.int 60) bh)
  (ax (sIf (tE<|.be .e .J) (aS<|ag gy (.a3 .g .lB) .J) bh)
  (ax (sIf (tE<|.be .e .a5) (aS<|.bn .J<|.aH .d<|.a3 .g .o) bh)
  (aS<|.bn (.a3 (ag wB .kG<|fC<|.int 59) .d)<|fIx (ad .o<|ad .cH am)<|.aH .d .J)))))
abbrev ES:SF:=(sIf (tE<|.be (au fN<|ad (aa 9) .c4) .z) (ax (.kE<|.a3 .o<|au fN<|ad (aa 9)<|ad (fIx (ad .a5 .Dj)<|au fN<|ad (aa 9)<|ad .J am) am)
  (ax (ed (Xy .u (au fN<|ad (aa 9)<|ad (.a3 (cC (lOf .u)) .o) am)<|fIx (ad (cZ<|ad .bz<|ad (aa 10)<|ad (aa 11) am)<|ad (cZ<|ad (aa 10)<|ad .bz<|ad (aa 11) am) am)<|.aH (aa 11) .J))
  (ax (jX .ay .bz<|.a3 (fAt .ay .bz)<|aa 11)
  (jX .ay (aa 10)<|.a3 (fAt .ay<|aa 10)<|aa 11)))) bh)
abbrev ET:SF:=(ax (aD (gN 9)<|au Be<|.cB<|ad (.a3 .o .bz) am)
  (ax (ed<|jY .L<|fIx (ad .aV .ni) .AE)
  (ax (ed<|jY .H<|cZ<|ad .AE<|ad (au fN<|ad (aa 9)<|ad (fC<|.int 200) am) am)
  (fE (cr .bz) (gN 10) ES))))
/---/def Hr:Fn:=bB 1 12 (ax (.dW<|au Be .kS)
  (ax (ed<|au fN<|ad .d<|ad .J am)
  (ax (.ap<|.a3 .o<|au fN<|ad .d<|ad (fIx (ad (fC<|.int 6)<|ad (fC<|.int 12) .rH) .Bw) am)
  (ax (.a0<|fIx (ad .o<|ad .J<|ad .ho am) .Bw)
  (ax (.bs .a6)
  (ax .uV
  (ax (aD .a8 .a6)
  (ax (.fc<|bR<|xG .jc .g)
  (ax (fE (cr .g) .m3 ET)
  (ax (.bt<|bR<|bG 1 [7,5] (cr .g) .G []<|au RB<|ad (fAt (.fa .e) .z)<|ad (fAt (.fa .e) .o)<|ad .fl am)
  (aS<|cZ<|ad .g (ad .u<|ad .H<|ad .L<|ad .ay am))))))))))))
def cy(e:.p9):ax a b σ h=b σ' h':=by simp[ax,e]
def xo(a:0<=x)(h1:x<4611686018427387904):sml x=true:=by
 dsimp[sml,ZZ,YL];omega
def lh{α:Type}{f:α->D}{l:List α}(h:i<l.length):atI .mg (i:Int)=some (f l[i]):=dN (by simp[h])
def gq{x:D}(b:((.s).map λk:Nat=>D.int k)[i]?=some x):i<n/\x=.int (i:Nat):=by
 have a:i<n:=by
  have:=(zA.mp b).1;simpa using this
 exact⟨a,by simpa[a,ZE] using b.symm⟩
def WN{α:Type}(f:α->D)(l:List α)(b:0<=x)(h:x<l.length):∃v∈l,atI .mg x=some (f v):=by
 have a:x.toNat<l.length:=by omega
 refine⟨l[x.toNat],YA a,?_⟩;have:=lh (f:=f) a;rwa[show ((x.toNat:Nat):Int)=x by omega]at this
structure Tie where
 a:Nat
 b:Nat
 w:Int
/---/def ca(t:Tie):D:=.tup [.int t.a,.int t.b,.int t.w]
/---/def far(i:Nat)(t:Tie):Option Nat:=if t.a=i then some t.b else if t.b=i then some t.a else none
/---/def wOf(i:Nat)(t:Tie):Int:=if t.a=i\/t.b=i then t.w else 0
/---/def Tg(T:.ax)(i:Nat):Int:=(T.map<|wOf i).sum
/---/def WO(one other:Nat)(t:Tie):Prop:=(t.a<one/\t.b<one)\/(t.a=one/\t.b<other)\/(t.b=one/\t.a<other)
/---/def jz(s t:Tie):Prop:=¬(s.a=t.a/\s.b=t.b)/\¬(s.a=t.b/\s.b=t.a)
structure TOk(n one other:Nat)(T:.ax):Prop where
 ne:∀t∈T,t.a≠t.b
 lt:∀t∈T,t.a<n/\t.b<n
 wt:∀t∈T,1<=t.w/\t.w<=400
 be:∀t∈T,WO one other t
 un:T.Pairwise jz
 len:T.length<=30*one+other
def jz.symm{s t:Tie}(h:jz s t):jz t s:=⟨λz=>h.1 ⟨z.1.symm,z.2.symm⟩,λz=>h.2 ⟨z.2.symm,z.1.symm⟩⟩
variable{T:.ax}
def TOk.skip(o:TOk n one other T):TOk n one .gG T :=
 ⟨o.ne,o.lt,o.wt,λt a=>by
  rcases o.be t a with h|h|h
  ·exact .inl h
  ·exact .inr (.inl ⟨h.1,Z2 h.2⟩)
  ·exact .inr (.inr ⟨h.1,Z2 h.2⟩),o.un,Nat.le_succ_of_le o.len⟩
def TOk.step(o:TOk n one one T)(h:one<n)(hn:n<=30):TOk n (one+1) 0 T :=
 ⟨o.ne,o.lt,o.wt,λt a=>by
  rcases o.be t a with h|h|h
  ·exact .inl ⟨Z2 h.1,Z2 h.2⟩
  ·exact .inl ⟨Nat.lt_succ_of_le (wo h.1),Z2 h.2⟩
  ·exact .inl ⟨Z2 h.2,Nat.lt_succ_of_le (wo h.1)⟩,o.un,ZM o.len (zXc (ZM (YB h) hn) _)⟩
def xp{α:Type}{x y:α}{l:List α}(h:y∈l.take k++[x]++l.drop k):y=x\/y∈l:=by
 dsimp[ZU,Z3,Z5]at h;rcases h with h|h|h
 ·exact .inr (List.mem_of_mem_take h)
 ·exact .inl h
 ·exact .inr (List.mem_of_mem_drop h)
def Ot{α:Type}{R:α->α->Prop}(sym:∀a b,R a b->R b a){x:α}{l:List α}(k:Nat)(h:l.Pairwise R)(d:∀y∈l,R x y):(l.take k++[x]++l.drop k).Pairwise R:=by
 have f:(l.take k++l.drop k).Pairwise R:=by rw[zYk];exact h
 rw[xn]at f;obtain⟨g,m,j⟩:=f;rw[ZU,xn];refine⟨g,?_,λa e b c=>?_⟩
 ·rw[List.singleton_append,YC]
  exact⟨λy i=>d y (List.mem_of_mem_drop i),m⟩
 ·rcases Z3.mp c with c|c
  ·simp at c;subst c;exact sym _ _ (d a<|List.mem_of_mem_take e)
  ·exact j a e b c
theorem TOk.put(o:TOk n one other T)(h1:one<n)(c:other<one){w:Int}(f:1<=w)(d:w<=400){t:Tie}(ht:t=⟨one,other,w⟩\/t=⟨other,one,w⟩)(k:Nat):TOk n one .gG (T.take k++[t]++T.drop k) where
 ne:=λs a=>by
  rcases xp a with rfl|a
  ·rcases ht with e|e<;>subst e
   ·exact Z9 c
   ·exact ZN c
  ·exact o.ne s a
 lt:=λs a=>by
  rcases xp a with rfl|a
  ·rcases ht with e|e<;>subst e
   ·exact⟨h1,Z1 c h1⟩
   ·exact⟨Z1 c h1,h1⟩
  ·exact o.lt s a
 wt:=λs a=>by
  rcases xp a with rfl|a
  ·rcases ht with e|e<;>subst e<;>exact⟨f,d⟩
  ·exact o.wt s a
 be:=λs a=>by
  rcases xp a with rfl|a
  ·rcases ht with e|e<;>subst e
   ·exact .inr (.inl ⟨rfl,Z6 _⟩)
   ·exact .inr (.inr ⟨rfl,Z6 _⟩)
  ·exact o.skip.be s a
 un:=Ot (λ_ _=>jz.symm) k o.un λs a=>by
  have b:=o.be s a;rcases ht with e|e<;>subst e<;>rcases b with b|b|b
  ·exact⟨λz=>Z9 b.1 z.1,λz=>Z9 b.2 z.1⟩
  ·exact⟨λz=>Z9 b.2 z.2,λz=>Z9 .pC z.1⟩
  ·exact⟨λz=>Z9 .pC z.1,λz=>Z9 b.2 z.2⟩
  ·exact⟨λz=>Z9 b.2 z.2,λz=>Z9 b.1 z.2⟩
  ·exact⟨λz=>Z9 .pC z.2,λz=>Z9 b.2 z.1⟩
  ·exact⟨λz=>Z9 b.2 z.1,λz=>Z9 .pC z.2⟩
 len:=by
  have e:(T.take k).length+(T.drop k).length=T.length:=by rw[<-ZB,zYk]
  rw[ZB,ZB,List.length_singleton,Nat.add_right_comm,e];exact Nat.succ_le_succ o.len
/---/def Yc(p:.kh):D:=.tup .fs
structure PH(n i:Nat)(T:.ax)(bs:.dO)(ss:.Q)(h:Hd):Prop where
 ti:h[1]?=some .ft
 ba:h[2]?=some (.lst<|bs.map Yc)
 st:h[3]?=some .dI
 to:h[4]?=some .Ap
 len:h.length=5+i
 lb:bs.length=i
 ls:ss.length=i
 os:∀x∈ss,x=none\/x=some 0\/x=some 1
def U9{g:Hd}(a:cM)(h:g[k]?=some c):(g.set k a)[k]?=some a:=wJ (zA.mp h).1
def xq{j:Nat}(h:j<n):ixN n (j:Int)=some j:=by simp[ixN,h]
abbrev XP(lit:D)(hd:.E)(n thin one:Nat)(a b:.E):Sd:=[some lit,hd,some .A,some (.int thin),some (.ref 1),some (.ref 2),some (.ref 3),some (.ref 4),some .eb,some (.ref<|5+one),a,b]
abbrev SC(c t:Int)(b:Bool):cM:=.lst [.int c,.int t,.bl b]
inductive PI(lit:D)(hd:.E)(n thin one:Nat)(bs:.dO)(ss:.Q)(m:Bool):Nat->Sd->Hd->Prop
 |mk {i:Nat} {h:Hd} {T:.ax} {a b:.E} {c t:Int} (P:PH n (one+1) T bs ss h) (O:TOk n one i T) (hs:h[5+one]?=some (SC c t m)):PI lit hd n thin one bs ss m i (XP lit hd n thin one a b) h
def few{l one i:Nat}(h:l<=30*one+i)(h1:one<n)(hn:n<=30)(hi:i<one):l<1000:=by omega
abbrev XQ(lit:D)(hd:.E)(n thin:Nat)(a b c d:.E):Sd:=[some lit,hd,some .A,some (.int thin),some (.ref 1),some (.ref 2),some (.ref 3),some (.ref 4),a,b,c,d]
def Xx{u:.aF}(h:u∈[none,none,none,some 0,some 1]):u=none\/u=some 0\/u=some 1:=by
 simp at h;exact h
inductive PO(ns:.c)(hd:.E)(n thin:Nat):Nat->Sd->Hd->Prop
 |mk {i:Nat} {h:Hd} {a b c d:.E} {T:.ax} {bs:.dO} {ss:.Q} (P:PH n i T bs ss h) (O:TOk n i 0 T):PO ns hd n thin i (XQ (.lit .c6) hd n thin a b c d) h
structure Yd(ns:.c)(n:Nat)(T:.ax)(bs:.c)(ss:.Q)(h:Hd):Prop where
 run:Hr .l2 []=.ok (.tup [.int n,.ref 1,.ref (5+n),.ref 3,.ref 4]) h
 n1:1<=n
 n30:n<=30
 ok:.iA T
 ti:h[1]?=some .ft
 ba:h[5+n]?=some .cr
 st:h[3]?=some .dI
 to:h[4]?=some .Ap
 len:h.length=6+n
 lb:bs.length=n
 ls:ss.length=n
 os:∀x∈ss,x=none\/x=some 0\/x=some 1
theorem kj{α:Type}{f:α->D}:∀{l:List α},(∀x∈l,pure? (f x)=true)->io .mg=true
 |[],_=>rfl
 |x::l,h=>by
  dsimp[z5,io,ZZ];exact⟨h x .f,kj λy a=>h y (by simp[a])⟩
def pB(w:Web):pure? w.enc=true:=by
 have d:∀r:List .bV,pure? (yi r)=true:=λr=>by
  unfold yi;dsimp[pure?];exact kj λp _=>rfl
 have b:io .uy=true:=kj λr _=>d r;have a:io (w.bars.map D.int)=true:=kj λr _=>rfl;have c:io .b3=true:=kj λr _=>by cases r<;>rfl
 unfold Web.enc;dsimp[pure?,io,b,a,c];rfl
/---/def sB(p:.cQ):List Int:=[(p.1:Int),p.2]
def qV(x:.cQ):List .bV->List .bV
 |[]=>[x]
 |y::r=>if lexLt (sB x) (sB y)=true then x::y::r else y::qV x r
def dG:List .bV->List .bV
 |[]=>[]
 |x::r=>qV x (dG r)
theorem EU(x:.cQ):∀r,(qV x r).map sB=B3 (sB x) (r.map sB)
 |[]=>rfl
 |y::r=>by
  dsimp[qV,B3,z5];split
  ·rfl
  ·simp[EU x r]
theorem Bf:∀r,(dG r).map sB=fI (r.map sB)
 |[]=>rfl
 |x::r=>by dsimp[dG,fI,z5,EU,Bf r]
theorem yu{x p:.cQ}:∀{r},p∈qV x r↔p=x\/p∈r
 |[]=>by simp[qV]
 |y::r=>by
  dsimp[qV];split
  ·simp
  ·dsimp[y6,yu]
   constructor
   ·rintro (h|h|h)
    ·exact .inr (.inl h)
    ·exact .inl h
    ·exact .inr (.inr h)
   ·rintro (h|h|h)
    ·exact .inr (.inl h)
    ·exact .inl h
    ·exact .inr (.inr h)
theorem eV{p:.cQ}:∀{r},p∈dG r↔p∈r
 |[]=>by simp[dG]
 |x::r=>by dsimp[dG,yu,eV,y6]
theorem EV(f:Nat × Int->Int)(x:.cQ):∀r,((qV x r).map f).sum=f x+(r.map f).sum
 |[]=>by simp[qV]
 |y::r=>by
  dsimp[qV];split
  ·simp
  ·simp[EV f x r];omega
theorem ur(f:Nat × Int->Int):∀r,((dG r).map f).sum=(r.map f).sum
 |[]=>rfl
 |x::r=>by simp[dG,EV,ur f r]
/---/def nbs(T:.ax)(i:Nat):List .bV:=T.filterMap λt=>(far i t).map λj=>(j,t.w)
/---/def wD(p:.cQ):Int × D:=((p.1:Int),.int p.2)
def EW(T:.ax)(t:Tie)(i:Nat):nbs (T++[t]) i=nbs T i++(match far i t with|some j=>[(j,t.w)] | none=>[]):=by
 unfold nbs;rw[List.filterMap_append];congr 1;cases e:far i t<;>simp[e]
def K7{l:.bj}(h:∀p∈l,p.1≠k):xF .pw k=none:=by
 unfold xF;rw[List.find?_eq_none.mpr]
 ·rfl
 ·intro x c
  obtain⟨p,b,rfl⟩:=z0.mp c;have a:=h p b;have:¬((p.1:Int)=(k:Int)):=λz=>a .b;rw[YL];exact this
def EX{l:.bj}{k:Nat}(h:∀p∈l,p.1≠k):GP .pw k .cs=(l++[(k,v)]).map wD:=by
 unfold GP;rw[zF]
 ·simp[wD]
 ·dsimp[List.any_eq_true,z0,YL]
  rintro⟨x,⟨p,b,rfl⟩,e⟩;have a:=h p b;have e:(p.1:Int)=(k:Int):=e;exact a .b
def EY{i j:Nat}{t:Tie}(h:.j9):(t.a=i/\t.b=j)\/(t.b=i/\t.a=j):=by
 unfold far at h
 by_cases a:t.a=i
 ·rw[zE a]at h;exact .inl ⟨a,ZT h⟩
 ·rw[zF a]at h
  by_cases b:t.b=i
  ·rw[zE b]at h;exact .inr ⟨b,ZT h⟩
  ·rw[zF b]at h;cases h
def Hs{t:Tie}{i j:Nat}(g:.j9)(un:∀s∈T,jz s t):∀p∈nbs T i,p.1≠j:=λp h e=>by
 obtain⟨s,l,q⟩:=zp.mp h;obtain⟨k,f,rfl⟩:=YT.mp q;have u:=un s l;rw[show k=j from e]at f;rcases EY g with ⟨d,a⟩|⟨d,a⟩<;>rcases EY f with ⟨b,c⟩|⟨b,c⟩
 ·exact u.1 ⟨b.trans d.symm,c.trans a.symm⟩
 ·exact u.2 ⟨c.trans a.symm,b.trans d.symm⟩
 ·exact u.2 ⟨b.trans d.symm,c.trans a.symm⟩
 ·exact u.1 ⟨c.trans a.symm,b.trans d.symm⟩
def Bg{t:Tie}(h1:t.a≠t.b)(j:t.a<n)(g:t.b<n)(d:1<=t.w/\t.w<=400)(h:Hd):kB [.int n,ca t] h=.aM h:=by
 have f:(t.a:Int)<=n-1:=Int.le_sub_one_of_lt (Int.ofNat_lt.mpr j);have e:(t.b:Int)<=n-1:=Int.le_sub_one_of_lt (Int.ofNat_lt.mpr g);have k:¬(t.a:Int)=t.b:=λz=>h1 (Int.ofNat.inj z);have c:∀{i a b:Int},a<=i->i<=b->bC [.int i,.int a,.int b] h=.aM h:=λx y=>by rw[dF,z3 x,z3 y];rfl
 exact zXo (.n<|sx (bH<|iQ .tG<|aM<|.cy .ow)<|sx (aC .bU)<|sx (aC .bU)<|sx (bH<|iQ (c0<|aM<|aq .A4<|c (ve _) f)<|c0<|aM<|aq .A4<|c (ve _) e)<|aE<|ot<|gC (aM<|.am (by rw[qU,z4 k];rfl))<|aM<|aq (aw .bU .gt)<|c d.1 d.2) aJ
structure NH(n A:Nat)(h0:Hd)(T:.ax)(h:Hd):Prop where
 pre:∃g,h=h0++g/\g.length=n+1
 dc:∀j,j<n->h[A+j]?=some (.dct<|(nbs T j).map wD)
 rf:h[A+n]?=some (.lst .hs)
def NH.put(f:A=a.length)(N:NH n A a T h){j:Nat}(d:j<n)(c:cM):(∃g,h.set (A+j) c=a++g/\g.length=n+1)/\(h.set (A+j) c)[A+j]?=some c/\(∀k,k≠j->(h.set (A+j) c)[A+k]?=h[A+k]?):=by
 obtain⟨g,e,l⟩:=N.pre;have lt:=(zA.mp<|N.dc j d).1;exact⟨⟨g.set j c,by rw[e,xl f],by rw[zYf];exact l⟩,wJ lt,λk b=>ZP λz=>b (zZm z).symm⟩
def Ou{i j:Nat}(hn:n<=30)(O:.au):((nbs .hE j).map wD).length<SZ:=by
 rw[ZA];exact ZS (ZM (List.length_filterMap_le _ _)<|ZM (zYq _ _)<|ZM O.len<|zYr (Nat.mul_le_mul_left 30 hn) 0) .a
abbrev XN(n tk A:Nat)(a b c:.E):Sd:=[some .A,some .bX,some .hB,a,b,c]
def RE{tk i:Nat}(hn:n<=30)(O:.au)(I:.gS)(N:NH n A h .hE u){t:Tie}(mt:t∈T)(un:∀s∈T.take i,jz s t)(y:T.take (i+1)=T.take i++[t])(b c:.E):
  ∃m,lQ (XN n tk A (some (ca t)) b c) u=.nx (XN n tk A (some<|ca t) (some<|.int t.a)<|some<|.int t.b) m/\NH n A h (T.take<|i+1) m:=by
 have f:=O.ne t mt;have a:=O.lt t mt;have K:far t.a t=some t.b:=zE rfl;have F:far t.b t=some t.a:=(zF f).trans (zE rfl);have J:=Hs K un;have L:=Hs F un;have o:∀j:Nat,j < n->atI ((.s).map λi=>D.ref (A + i)) (j:Int)=some (.ref<|A + j):=λj x=>dN (by rw[ZQ,YP x];rfl);have G:=o t.a a.1;have M:=o t.b a.2;have B:=N.dc t.a a.1;obtain⟨C,E,r⟩:=N.put I a.1 (.dct .z8);obtain⟨k,q⟩:=q0 (u.set (A + t.a)<|.dct .z8);rw[<-q]at C E r;have p:k[A + n]? = some (.lst<|(.s).map λi=>.ref (A + i)):=(r n<|Z9 a.1).trans N.rf;have H:k[A + t.b]? = some (.dct<|(nbs .hE t.b).map wD):=(r t.b<|wh f).trans (N.dc t.b a.2);obtain⟨m,d⟩:=q0 (k.set (A + t.b)<|.dct<|(nbs .hE t.b++[(t.a,t.w)]).map wD);refine⟨m,sx (bH<|c0<|aM<|aq .gt<|Bg f a.1 a.2 (O.wt t mt) u) (sx (aC .bU) (sx (aC .bU) (sx (bH<|aM<|av rfl .CS (by rw[U6 B,K7 J];rfl)) (sx (h':=k) (by
  rw[q,<-EX J];exact JH .bU .CS rfl B (Ou hn O)) (by
  rw[d,<-EX L];exact JH .bU (.aG (aF p) M) rfl H (Ou hn O)))))),?_,λj x=>?_,?_⟩
 ·obtain⟨g,e,l⟩:=C
  exact⟨_,by rw[d,e,xl I],by rw[zYf];exact l⟩
 ·rw[y,EW]
  by_cases v:t.b=j
  ·subst v
   rw[d,U9 _ H,F]
  ·rw[d,ZP (λz=>v (zZm z))]
   by_cases w:t.a=j
   ·subst w
    rw[E,K]
   ·have:far j t=none:=(zF w).trans (zF v)
    rw[r j (wh w),this,N.dc j x];simp
 ·rw[d];exact(ZP (λz=>ZN a.2 (zZm z))).trans p
def K8(v:.gS):∃h1 g,cu none ((.s).map λk:Nat=>D.int k) .G [] Ja ((.s).map λk:Nat=>D.int k) .ao h=.ok .hs h1/\h1=h++g/\g.length=n/\∀j,j<n->h1[A+j]?=some (.dct []):=by
 obtain⟨y,h1,u,m,B,w,-,g,t,b,r⟩:=qR (g:=none) (tg:=gN 0) (k:=0)
  (e:=Ja) (σ:=.ao) (h:=h)
  (P:=λi σ o=>(∃a,σ = [a])/\∃g,o=h++g/\g.length=i/\∀j,j < i->o[A + j]? = some (.dct [])) (V:=λi d=>d=.ref (A + i)) .bA (by
   rintro i x σ l s ⟨⟨a,rfl⟩,g,q,b,c⟩;obtain⟨C,rfl⟩:=gq s;rw[wK]at b c⊢;have p:l.length=A+i:=by rw[q,ZB,b,v]
   refine⟨_,rfl,.ref l.length,l++[.dct []],rfl,by rw[p],⟨_,rfl⟩,g++[.dct []],by rw[q,ZU],by rw[ZB,b];rfl,λj f=>?_⟩
   by_cases hji:j<i
   ·exact .I (c j hji)
   ·rw[Nat.le_antisymm (Y3 f) (zZy.mp hji),<-p];exact ZG) ⟨⟨_,rfl⟩,[],(YX _).symm,rfl,λj f=>absurd f (va _)⟩
 rw[ZA,ZO]at m;rw[wK,ZA,ZO]at b r;have c:y=(.s).map λi=>.ref (A+i):=yj m λi d z=>by have:=B i d z;rwa[wK]at this
 exact⟨h1,g,by rw[u,c],t,b,r⟩
inductive NI(n A tk:Nat)(h:Hd)(T:.ax):Nat->Sd->Hd->Prop
 |mk {i:Nat} {h':Hd} {a b c:.E} (N:NH n A h .hE h'):NI n A tk h T i (XN n tk A a b c) h'
def zW(L:1<=n)(hn:n<=30)(O:.au)(ht:h[tk]?=some .ft):
  ∃h',j9 [.int n,.ref tk] h=.ok (.ref<|h.length+n) h'/\NH n h.length h T h':=by
 obtain⟨A,o⟩:=q0 .eg;rw[<-o];obtain⟨w,g,M,r,v,J⟩:=K8 o;obtain⟨l,d⟩:=q0 (w++[.lst .hs]);have m:w.length=A+n:=by rw[r,ZB,v,o]
 have E:NH n A h [] l:=⟨⟨g++[.lst .hs],by rw[d,r,ZU],by rw[ZB,v];rfl⟩,λj F=>by rw[d];exact .I (J j F),by rw[d,<-m];exact ZG⟩;obtain⟨_,C,H,@⟨_,R,S,Q,t⟩⟩:=cn (P:=NI n A tk h T) (g:=some tk) (k:=0)
   (λ_ _ h' q=>by
    obtain⟨N⟩:=q;obtain⟨g,e,_⟩:=N.pre;rw[e];exact .I ht)
   (xs:=T.map ca) (tg:=gN 3) (σ:=XN n tk A none none none) (h:=l) (b:=lQ) (by
   intro i x σ U p z;rw[wK]at z⊢;obtain @⟨_,a,b,c,N⟩:=z;have f:i<T.length:=by have:=(zA.mp p).1;rwa[ZA]at this
   rw[ZQ,ZE f]at p;cases p;have K:T[i]∈T:=YA f;have y:∀s∈T.take i,jz s T[i]:=λs D=>by
    obtain⟨k,u,rfl⟩:=List.getElem_of_mem D;rw[vf]at u;rw[List.getElem_take];exact zYz.mp O.un k i _ f (ZY u<|Nat.min_le_left _ _)
   obtain⟨G,I,B⟩:=RE (tk:=tk) hn O o N K y (List.take_succ_eq_append_getElem f) b c;exact⟨_,rfl,_,G,I,.mk B⟩) (.mk E)
 rw[wK,ZA,YN]at t;refine⟨C,zXo (aU (σ:=[some .A,some .bX,none,none,none,none]) rfl rfl (sx (bH<|c0<|aM<|CL rfl ht) (sx (σ':=[some .A,some .bX,some (.ref<|A + n),none,none,none]) (h':=l) (by
  rw[d,<-m];exact aC (cR (bZ (eM rfl<|ZM hn .a) M) (by rw[ZA,ZO];exact ZM hn .a))) (sx (eO (c5 rfl (by rw[d,r];exact .I (.I ht))) H) .cc)))) (by simp[letGo,pure?]),t⟩
def WP(a b:Int)(h:Hd):oNe .cK (.int b) h=.ok .n7 h:=rfl
def Ht{l:.m}(nd:l.Nodup)(h:∀x∈l,x<n):l.length<=n:=by
 induction n generalizing l with
 |zero=>match l,h with
  |[],_=>exact ZL _
  |x::_,h=>exact absurd (h x ZV) (va _)
 |succ n b =>
  by_cases m:n∈l
  ·have:=b (nd.erase n) λx a=>by
    have z:=(List.Nodup.mem_erase_iff nd).mp a;exact yb (Y3<|h x z.2) z.1
   rw[List.length_erase_of_mem m]at this;exact Nat.le_add_of_sub_le this
  ·exact Nat.le_succ_of_le (b nd λx a=>yb (Y3<|h x a) λz=>m (z▸a))
/---/def bA(n:Nat)(T:.ax)(bs:.c)(ss:.Q):Web:=⟨(.s).map λi=>dG .aP,bs,ss⟩
theorem sC:∀l:List .bV,i5 .pw=some (l.map sB)
 |[]=>rfl
 |p::l=>by
  have a:=sC l;simp;show (i5 .pw).map _=_;rw[a];rfl
def lV(un:T.Pairwise jz)(i:Nat):((.aP).map (·.1)).Nodup:=by
 unfold nbs
 induction T with
 |nil=>simp
 |cons t T a =>
  obtain⟨f,d⟩:=YC.mp un;have a:=a d;cases e:far i t with
  |none=>dsimp[zZl,e,Option.map_none];exact a
  |some j =>
   dsimp[zZl,e,Y8,z5,YW];refine⟨λz=>?_,a⟩;obtain⟨p,c,b⟩:=z0.mp z;exact Hs e (λs g=>(f s g).symm) p c b
def RF{l:.bj}(nd:(l.map (·.1)).Nodup):(l.map sB).Nodup:=by
 rw[Y6,Y4]at nd⊢;exact nd.imp λ{a b} h e=>h (by have:=(List.cons.inj e).1;omega)
def qa{α:Type}{l:List α}:ml .te=some .ou:=by
 induction l with
 |nil=>rfl
 |cons x l a=>simp[ml,a]
def CO{bs:.c}(hn:h[f]?=some .d7)(j:l.length=n)(d:h[bk]?=some .cr)(lb:.bD):k8 [.ref f,.ref bk] h=.ok (.tup .bG) h:=by
 have c:cu (some bk) .ec .G [] .pr .ec .ao h=.ok ((.ec).map λ_=>D.bl true) h:=by
  have:=bj (g:=some bk) (tg:=gN 0) (cs:=[]) (e:=au f7 .ad) (I:=λσ=>∃a,σ = [a]) .aI .hG d (xs:=bs.map D.int) (σ:=.ao) (by
   rintro x m σ ⟨a,rfl⟩;obtain⟨i,_,rfl⟩:=z0.mp m;exact⟨_,rfl,⟨_,rfl⟩,rfl,λ_=>aq .bo (sA _ _)⟩) ⟨_,rfl⟩
  rw[this,wL.mpr .f]
 have k:((.ec).map λ_=>true).all id=true:=by simp
 exact zXo (aU (σ:=[some .aE,some (.ref bk)]) rfl rfl<|sx .jU<|sx (bH<|iQ (.bN<|aM<|CL rfl d)<|aM<|av (dE<|.bu<|aF d) (dE<|.bu<|aF hn) (by rw[WP,ZA,lb,j,z3 rfl];rfl))<|sx (bH<|.bN<|aM<|zXo (qT (bZ (c5 rfl d) c) qa) (by rw[k]))<|aE<|hU<|.bu<|aF d) aJ
def zX{d:Nat}{ss:.Q}(f:h[d]?=some .dI)(ls:.bi)(os:.a9):ka [.int n,.ref d] h=.ok (.tup .an) h:=by
 have c:cu (some d) .an .G [] (fT .sy) .an .ao h=.ok ((.an).map λ_=>D.bl true) h:=by
  have:=bj (g:=some d) (tg:=gN 0) (cs:=[]) (e:=fT .sy) (I:=λσ=>∃a,σ = [a]) .aI .hG f (xs:=ss.map bw) (σ:=.ao) (by
   rintro x k σ ⟨a,rfl⟩;obtain⟨i,j,rfl⟩:=z0.mp k;refine⟨_,rfl,⟨_,rfl⟩,rfl,λ_=>?_⟩;rcases os i j with e|e|e<;>subst e
   ·exact ot (uo .b9)
   ·exact ot (iQ .b9<|aM<|.ah<|ky 0 h)
   ·exact ot (iQ .b9<|aM<|.ah<|ky 1 h)) ⟨_,rfl⟩
  rw[this,wL.mpr .f]
 exact zXo (aU (σ:=[some .A,some (.ref d)]) rfl rfl<|sx .jU<|sx (bH<|iQ (.bN<|aM<|CL rfl f)<|aM<|av (dE<|.bu<|aF f) rfl (by rw[WP,ZA,ls,z3 rfl];rfl))<|sx (bH<|.bN<|aM<|zXo (qT (bZ (c5 rfl f) c) qa) (by rw[List.all_map];simp))<|aE<|hU<|.bu<|aF f) aJ
def RG(hn:n<=30)(O:.au)(N:NH n A h T h1):
  cu (some<|A+n) .hs .G [] (fg<|ua .e) .hs .ao h1=.ok ((.ra).map yi) h1:=by
 have:=bj (g:=some (A+n)) (tg:=gN 0) (cs:=[]) (e:=fg (ua .e)) (h:=h1) (I:=λσ=>∃a,σ=[a]) .aI
  (λd=>match d with | .ref k=>yi (dG<|nbs T<|k - A)|_=>.non) N.rf (xs:=(.s).map λi=>.ref (A + i)) (σ:=.ao) (by
   rintro x f σ ⟨a,rfl⟩;obtain⟨i,c,rfl⟩:=z0.mp f;have c:=YK.mp c;refine⟨_,rfl,⟨_,rfl⟩,rfl,λ_=>?_⟩;have r:=lV O.un i;have l:((.aP).map sB).length<64:=by
    have lt:∀p∈nbs T i,p.1<n:=λp b=>by
     unfold nbs at b;obtain⟨t,j,q⟩:=zp.mp b;have:=O.lt t j;unfold far at q
     by_cases m:t.a=i
     ·rw[zE m]at q;simp at q;subst q;exact this.2
     ·rw[zF m]at q
      by_cases o:t.b=i
      ·rw[zE o]at q;simp at q;subst q;exact this.1
      ·rw[zF o]at q;cases q
    have:=Ht r (n:=n) (λx f=>by
     obtain⟨p,b,rfl⟩:=z0.mp f;exact lt p b)
    simp at this⊢;omega
   have e:((fI<|(.aP).map sB).map B4)=(dG .aP).map qQ:=by rw[<-Bf,y3];rfl
   dsimp[List.set_cons_zero,fg,ua,aa,slot,List.getElem?_cons_zero,aR,N.dc i c,sC,zE (And.intro l<|RF r),e,yi,zZi]) ⟨_,rfl⟩
 rw[this,wL.mpr .f,y3,y3];congr 1;apply YE;intro i _;simp
def qb(d:1<=n)(hn:n<=30)(O:.au)(lb:.bD)(ls:.bi)(os:.a9)
  (ht:h[tk]?=some .ft) (p:h[bk]?=some .cr) (t:h[o]?=some .dI):gS [.int n,.ref tk,.ref bk,.ref o] h=.ok (.S).enc h:=by
 obtain⟨l,j,N⟩:=zW d hn O ht;obtain⟨A,s⟩:=q0 .eg;rw[<-s]at j N;obtain⟨g,m,w⟩:=N.pre;have f:∀{k:Nat} {c:cM},h[k]?=some c->l[k]?=some c:=λ{k c} e=>by rw[m,ZC (.cN).1];exact e
 have a:=RG hn O N;have r:=CO N.rf .f (f p) lb;have i:=zX (f t) ls os;have q:(1:Int)<=n:=zYu.mpr d;have u:(n:Int)<=30:=zYu.mpr hn;have v:=N.rf;refine zXo (.n<|sx (bH<|.bN<|aM<|aq (.cA .gt) (by rw[dF,z3 q,z3 u];rfl))<|sx (aC<|aq .gt j)<|sx (aC<|hU<|bZ (c5 rfl v) a)<|aE<|cX (.cA<|aw (aq .gt r)<|.bO<|aq .gt i) .ud) ?_;show letGo h (.ok (.S).enc l)=_;rw[m];exact bP (pB _)
theorem nK(s:.c):∀r:List .bV,bV r s=(r.map λp=>if s.getD p.1 0=1 then p.2 else 0).sum
 |[]=>rfl
 |p::r=>by
  have a:=nK s r;dsimp[bV,iG,zYd,z5,VN]at a⊢
  by_cases e:s.getD p.1 0=1
  ·dsimp[e,decide_true,Y5,z5,VN];rw[a]
  ·dsimp[e,decide_false,zZb,YM];rw[a];omega
def pC(s:.c)(r:.bj):bV (dG r) s=bV r s:=by rw[nK,nK,ur]
def qW(lt:.vG):∀p∈nbs T i,p.1<n:=λp b=>by
 unfold nbs at b;obtain⟨t,a,q⟩:=zp.mp b;have:=lt t a;unfold far at q
 by_cases d:t.a=i
 ·rw[zE d]at q;simp at q;subst q;exact this.2
 ·rw[zF d]at q
  by_cases c:t.b=i
  ·rw[zE c]at q;simp at q;subst q;exact this.1
  ·rw[zF c]at q;cases q
def i9(hn:n<=30)(O:.au)(lb:.bD)(ls:.bi):(.S).Ok n:=by
 refine⟨by simp[bA],lb,ls,λr a p b=>?_,by omega⟩;obtain⟨i,_,rfl⟩:=z0.mp a;exact qW O.lt p (eV.mp b)
structure Yy(n:Nat)(T:.ax)(bs:.c)(ss:.Q)(tk bk sk:Nat)(h:Hd):Prop where
 ti:h[tk]?=some .ft
 ba:h[bk]?=some .cr
 st:h[sk]?=some .dI
theorem Hu(h1:one<n):ef .S s one=match ss.getD one none with
  |some x=>x
  |none=>if 2*bV (nbs T one) s=bs.getD one 0 then s.getD one 0 else if bs.getD one 0<2*bV (nbs T one) s then 1 else 0:=by
 have e:((.S).ties.getD one [])=dG (nbs T one):=by simp[bA,List.getD,h1]
 unfold ef;rw[e,pC];rfl
theorem Bh{α:Type}{f:α->D}(h:∀x,dep (f x)<=k):∀l:List α,oK .mg<=k
 |[]=>YH _
 |x::l=>by simp;exact Nat.max_le.mpr ⟨h x,Bh h l⟩
structure Ye(n:Nat)(ss:.Q)(s:.c):Prop where
 len:s.length=n
 op:∀x∈s,x=0\/x=1
 st:∀(i:Nat) x,ss[i]?=some .fJ->s[i]?=some x
/---/def LeS(a b:.c):Prop:=∀i:Nat,a.getD i 0<=b.getD i 0
def LeS.refl(a:.c):LeS a a:=λ_=>wb _
/---/def sD(a:.c):Prop:=∀i:Nat,a.getD i 0=0\/a.getD i 0=1
def LeS.eq{a b:.c}(l:.j6)(x:LeS a b)(y:LeS b a):a=b:=by
 apply List.ext_getElem l;intro i f d;have e:=x i;have c:=y i;dsimp[List.getD,ZE f,ZE d,zYv]at e c;omega
def iS(p:.cQ)(r:.bj)(s:.c):bV (p::r) s=(if s.getD p.1 0=1 then p.2 else 0)+bV r s:=by
 unfold bV iG
 by_cases e:s.getD p.1 0=1
 ·rw[zYd,zE .B1,zE e];rfl
 ·rw[zYd,zF .B1,zF e];omega
theorem vX{a b:.c}(B:sD b)(l:LeS a b):∀{r:.bj},(∀p∈r,0<=p.2)->bV r a<=bV r b
 |[],_=>wb _
 |p::r,h=>by
  have g:=vX B l (r:=r) λq d=>h q (by simp[d]);have j:=h p .f;have i:=l p.1;have f:=B p.1;rw[iS,iS]
  by_cases e:a.getD p.1 0=1
  ·have c:b.getD p.1 0=1:=by omega
   rw[zE e,zE c];omega
  ·rw[zF e]
   by_cases c:b.getD p.1 0=1
   ·rw[zE c];omega
   ·rw[zF c];omega
def RI{d c e b y:Int}(hp:d<=c)(h:b<=e)(l:x<=y)(j:x=0\/x=1)(m:y=0\/y=1):(if 2*d=e then x else if e<2*d then 1 else 0)<=(if 2*c=b then y else if b<2*c then (1:Int) else 0):=by
 have k:0<=y:=by rcases m with rfl|rfl<;>decide
 have n:x<=1:=by rcases j with rfl|rfl<;>decide
 have q:2*d<=2*c:=Int.mul_le_mul_of_nonneg_left hp .a;generalize 2*d=A at q;generalize 2*c=B at q
 by_cases f:A=e
 ·rw[zE f]
  by_cases a:B=b
  ·rw[zE a];exact l
  ·rw[zF a,zE (Int.lt_iff_le_and_ne.mpr ⟨Int.le_trans h (f▸q),wh a⟩)];exact n
 ·rw[zF f]
  by_cases g:e<A
  ·have i:b<B:=Int.lt_of_le_of_lt h (Int.lt_of_lt_of_le g q)
   rw[zE g,zF (Int.ne_of_gt i),zE i];exact wb _
  ·rw[zF g]
   by_cases a:B=b
   ·rw[zE a];exact k
   ·rw[zF a]
    split
    ·decide
    ·exact wb _
def Hv{d c:Web}{a b:.c}(hp:bV .tP a<=bV .tR b)(f:c.bars.getD p 0<=d.bars.getD p 0)(B1:sD a)(h:sD b)(le:LeS a b)
  (st:.yl\/d.stays.getD p none=some 0\/c.stays.getD p none=some 1) (n1:ef d a p=0\/ef d a p=1) (k:ef c b p=0\/ef c b p=1):ef d a p<=ef c b p:=by
 rcases st with ⟨e,j⟩|s|s
 ·have g:=B1 p
  have i:=h p;have l:=le p;unfold ef;rw[e,j];generalize bV .tP a=o at *;generalize bV .tR b=m at *;generalize d.bars.getD p 0=q at *;generalize c.bars.getD p 0=n at *;generalize a.getD p 0=x at *;generalize b.getD p 0=y at *;exact RI hp f l g i
 ·have:ef d a p=0:=by unfold ef;rw[s]
  omega
 ·have:ef c b p=1:=by unfold ef;rw[s]
  omega
def Bi(w:Web)(n:Nat)(s:.c)(i:Nat):(.af).getD i 0=if i<n then ef w s i else 0:=by
 unfold aW
 by_cases h:i<n<;>simp[List.getD,h]
def bI.bits(F:.V):sD s:=λi=>iB F i
structure qX(w1 w2:Web)(n:Nat):Prop where
 go:∀a b,bI w1 n a->bI w2 n b->LeS a b->LeS (aW w1 n a) (aW w2 n b)
def RJ{d c:Web}(k:cG d)(S2:cG c)(hp:∀p,p<n->∀a b,sD a->sD b->LeS a b->bV .tP a<=bV .tR b)(j:∀p,p<n->c.bars.getD p 0<=d.bars.getD p 0)
  (st:∀p,p<n->.yl\/d.stays.getD p none=some 0\/c.stays.getD p none=some 1):qX d c n :=
 ⟨λa b e f g i=>by
  rw[Bi,Bi]
  by_cases h:i<n
  ·rw[zE h,zE h]
   exact Hv (hp i h a b e.bits f.bits g) (j i h) e.bits f.bits g (st i h) (yr e k i) (yr f S2 i)
  ·rw[zF h,zF h];exact wb _⟩
theorem iT{d c:Web}{n:Nat}(i:d.Ok n)(e:c.Ok n)(g:cG d)(S2:cG c)(M:qX d c n){a b:.c}(f:bI d n a)(h:bI c n b)(le:LeS a b):∀k,LeS (hist d n a k) (hist c n b k)
 |0=>le
 |k+1=>M.go _ _ (bm i g f k) (bm e S2 h k) (iT i e g S2 M f h le k)
def S2(R:Nat->List .bV)(f s:.eX):Nat->Int
 |0=>0
 |k+1=>S2 R f s k+((R k).map λp=>p.2*f p.1*s k).sum
def eg(g:.eX):Nat->Int
 |0=>0
 |n+1=>eg g n+g n
def ut(g:.eX)(n:Nat):((.s).map g).sum=eg g n:=by
 induction n with
 |zero=>rfl
 |succ n a=>rw[vc,ZR,List.sum_append,a];simp[eg]
def EZ(l:.c):l.sum=eg (λk=>l.getD k 0) l.length:=by
 rw[<-ut];congr 1;apply VM;intro i
 by_cases a:i<l.length<;>simp[List.getD,a]
/---/def uv(w:Web)(n:Nat)(f s:.c):Int :=
 2*eg .rS n+f.sum+s.sum-4*S2 .iB .t7 .t6 n-2*eg .sw n
def K9(b:∀p∈r,f.getD p.1 0=0\/f.getD p.1 0=1):bV r f=(r.map λp=>p.2*f.getD p.1 0).sum:=by
 induction r with
 |nil=>rfl
 |cons p r d =>
  have g:=b p .f;have a:=d λq c=>b q .hQ;dsimp[bV,iG]at a⊢;rcases g with e|e
  ·simp[-List.getD_eq_getElem?_getD,e,a]
  ·simp[-List.getD_eq_getElem?_getD,e,a]
def Bj(W:w.Ok n)(g:.b0 f)(o:.V):i8 w f s n=uv w n f s:=by
 have a:∀{l:.c} (F:.b0 l) (i:Nat),l.getD i 0=0\/l.getD i 0=1:=λ{l} F i=>by
  by_cases h:i<l.length
  ·rw[List.getD,ZE h];exact F.op _ (YA h)
  ·rw[List.getD,wM .b];exact .inl rfl
 have d:∀m,m<=n->i8 w f s m=2*eg .rS m+eg .t7 m+eg .t6 m
   - 4*S2 .iB .t7 .t6 m-2*eg .sw m:=by
  intro m
  induction m with
  |zero=>intro _;rfl
  |succ m b =>
   intro v;have b:=b .b;dsimp[i8,eg,S2,p9,b];have u:=K9 (r:=w.ties.getD m []) λp _=>a g p.1;have q:=a g m;have t:=a o m;have c:((.gj).map λp=>p.2*f.getD p.1 0*s.getD m 0).sum=bV .gj f*s.getD m 0:=by
    rw[u];generalize w.ties.getD m []=r
    induction r with
    |nil=>simp
    |cons p r b=>dsimp[z5,VN,b,Int.add_mul]
   rw[c];rcases q with e|e<;>rcases t with j|j<;>dsimp[e,j]<;>simp<;>omega
 rw[d n .B,uv,EZ f,EZ s,g.len,o.len]
def Hw(sym:.h8):uv w n f s=uv w n s f:=by
 have b:.rS=λk=>(s.getD k 0+f.getD k 0)*w.bars.getD k 0:=by funext k;rw[Int.add_comm]
 have a:.sw=λk=>s.getD k 0*f.getD k 0:=by funext k;rw[Int.mul_comm]
 rw[uv,uv,b,a,sym];omega
def Lc(W:w.Ok n)(a:.b0 f)(b:.V)(sym:.h8):i8 w f s n=i8 w s f n:=by
 rw[Bj W a b,Bj W b a,Hw sym]
/---/def unl(a b:.c)(n:Nat):Int:=eg (λp=>if a.getD p 0=b.getD p 0 then 0 else 1) n
theorem qY(a b:.c):∀n,0<=unl a b n
 |0=>by simp[unl,eg]
 |n+1=>by
  have:=qY a b n;dsimp[unl,eg]at this⊢;split<;>omega
theorem JJ{a b:.c}:∀{n:Nat},(∃p,p<n/\a.getD p 0≠b.getD p 0)->1<=unl a b n
 |0,⟨p,hp,_⟩=>by omega
 |n+1,⟨p,hp,hne⟩=>by
  have c:=qY a b n
  by_cases e:p=n
  ·subst e
   dsimp[unl,eg]at c⊢;rw[zF hne];omega
  ·have:=JJ (n:=n) ⟨p,by omega,hne⟩
   dsimp[unl,eg]at this⊢;split<;>omega
def RK{a b:.c}(e:.eV)(f:.eU)(h:a≠b):∃p,p<n/\a.getD p 0≠b.getD p 0:=by
 refine zXa λq=>h ?_;apply List.ext_getElem .b;intro i d c;refine zXa λz=>q ⟨i,by omega,?_⟩;simpa[List.getD,d,c] using z
def Ld(hp:p<n):(.af).getD p 0=ef w s p:=by simp[aW,List.getD,hp]
def Lf(F:.V)(e:w.stays.getD p none=some x):s.getD p 0=x:=by
 have:w.stays[p]?=some .fJ:=by
  rw[List.getD]at e;cases c:w.stays[p]? with
  |none=>rw[c]at e;cases e
  |some y=>rw[c]at e;simp at e;rw[e]
 have:=F.st p x this;simp[List.getD,this]
def Yf{d a:.c}(W:w.Ok n)(h:.b0 d)(r:.cR)(sym:.h8):
  i8 w a .jO n+unl d .jO n<=i8 w d a n:=by
 rw[Lc W h r sym];have k:∀m,m<=n->i8 w a .jO m+unl d .jO m<=i8 w a d m:=by
  intro m
  induction m with
  |zero=>intro _;simp[i8,unl,eg]
  |succ m j =>
   intro u;have j:=j .b;have e:=iB h m;have g:=iB r m;have t:=Ld (w:=w) (s:=a) (p:=m) (n:=n) .b;have o:p9 w a .jO m+(if d.getD m 0=(.jO).getD m 0 then 0 else 1)<=p9 w a d m:=by
    unfold p9;rw[t];unfold ef;cases c:w.stays.getD m none with
    |some x =>
     have:=Lf h c;dsimp[this];simp
    |none =>
     simp only;generalize w.bars.getD m 0=b;generalize bV .gj a=P;generalize d.getD m 0=v at e⊢;generalize a.getD m 0=A at g⊢
     by_cases l:2*P=b
     ·rw[zE l]
      rcases e with z|z<;>rcases g with y|y<;>subst z y<;>simp<;>omega
     ·rw[zF l]
      by_cases q:b<2*P
      ·rw[zE q]
       rcases e with z|z<;>rcases g with y|y<;>subst z y<;>simp<;>omega
      ·rw[zF q]
       rcases e with z|z<;>rcases g with y|y<;>subst z y<;>simp<;>omega
   dsimp[i8,unl,eg]at j⊢;omega
 exact k n .B
/---/def Lg(r:.bj):Int:=(r.map λp=>(p.2.natAbs:Int)).sum
def Lh(r:.bj)(f:.c):bV r f<=Lg r:=by
 induction r with
 |nil=>simp[bV,iG,Lg]
 |cons p r a =>
  dsimp[bV,iG,Lg,zYd,z5,VN]at a⊢;split
  ·dsimp[z5,VN];omega
  ·omega
theorem Ov{w:Web}{n:Nat}:∀m,∃C:Int,∀f s,bI w n f->bI w n s->-C<=i8 w f s m
 |0=>⟨0,λf s _ _=>by simp[i8]⟩
 |m+1=>by
  obtain⟨C,e⟩:=Ov m;refine⟨C+(2*((2*w.bars.getD m 0+1).natAbs:Int)+4*Lg .gj+2+4*((Lg .gj).natAbs:Int)),λf s a c=>?_⟩;have i:=e f s a c;have d:=iB a m;have g:=iB c m;have h:=Lh .gj f;dsimp[i8,p9];generalize w.bars.getD m 0=b at *;generalize bV .gj f=P at *;generalize Lg .gj=A at *;generalize i8 w f s m=T at *;rcases d with z|z<;>rcases g with y|y<;>dsimp[z,y]<;>simp<;>omega
def Hx{P:Nat->Prop}(h:∃t,P t):∃t,P t/\∀k,k<t->¬P k:=by
 obtain⟨t,c⟩:=h
 induction t using Nat.strongRecOn with
 |ind t d =>
  by_cases q:∃k,k<t/\P k
  ·obtain⟨k,a,b⟩:=q
   exact d k a b
  ·exact⟨t,c,λk a b=>q ⟨k,a,b⟩⟩
/---/def eN(w:Web)(n:Nat)(s:.c)(k:Nat):Int:=i8 w .b7 .om n
def JK(W:w.Ok n)(S:cG w)(F:.V)(sym:.h8)(k:Nat):
  eN w n s (k+1)+unl .b7 (.dp s<|k+2) n<=eN w n s k:=Yf W .eL .lA sym
def Th(W:w.Ok n)(S:cG w)(F:.V)(sym:.h8)(h:hist w n s (k+2)≠hist w n s k):eN w n s (k+1)+1<=eN w n s k:=by
 have:=JK W S F sym k;have:=JJ (RK (.eL).len (bm W S F<|k+2).len (wh h));omega
theorem Ti{w:Web}{n:Nat}{s:.c}(W:w.Ok n)(S:cG w)(F:.V)(sym:.h8):∀{m:Nat},k<=m->eN w n s m<=eN w n s k
 |0,h=>by
  have:k=0:=by omega
  subst this;exact wb _
 |m+1,h=>by
  by_cases e:k=m+1
  ·subst e;exact wb _
  ·have c:=Ti W S F sym (k:=k) (m:=m) .b
   have b:=JK W S F sym m;have a:=qY (.dp s m) (.dp s<|m+2) n;omega
def Yg(W:w.Ok n)(S:cG w)(F:.V)(sym:.h8):∃t,hist w n s (t+2)=hist w n s t/\∀k,k<t->hist w n s (k+2)≠hist w n s k:=by
 refine Hx ?_;refine zXa λq=>?_;obtain⟨C,b⟩:=Ov n;have a:∀k:Nat,eN w n s k+k<=eN w n s 0:=by
  intro k
  induction k with
  |zero=>simp
  |succ k c =>
   have:=Th W S F sym λz=>q ⟨k,z⟩;omega
 have d:=a (eN w n s 0+C+1).toNat;have e : -C<=eN w n s (eN w n s 0+C+1).toNat:=b _ _ (bm W S F _) (bm W S F _);omega
theorem Bk:∀(a b:.c),a.length=b.length->mj (a.map .int) (b.map .int)=some (decide (a=b))
 |[],[],_=>by simp[mj]
 |x::a,y::b,h=>by
  have c:=Bk a b .oo;dsimp[z5,mj,peq,c]
  by_cases e:x=y<;>by_cases d:a=b<;>simp[e,d]
 |[],_::_,h=>by simp at h
 |_::_,[],h=>by simp at h
def Li(l:.c):oK .gf=0:=by
 induction l with
 |nil=>rfl
 |cons x l a=>simp[oK,dep,a]
def RL(l:.c):dep (ar l)=1:=by simp[ar,dep,Li]
def RM{a b:.c}(h:.j6):peq .bf .cm=some (decide (a=b)):=by
 dsimp[ar,peq,Bk a b h,Y8,ZA,h];simp
def JL{a b:.c}(h:.j6)(hd:Hd):eqG hd .bf .cm=some (decide (a=b)):=by
 have c:∀l,jM hd (ar l)=none:=λl=>rfl;dsimp[eqG,c,RL,RM h];rfl
def CP{a b:.c}(h:.j6)(hd:Hd):oNe .bf .cm hd=.ok .n7 hd:=by
 unfold oNe;rw[JL h]
def li{a b:.c}(h:.j6)(hd:Hd):oEq .bf .cm hd=.ok (.bl<|decide (a=b)) hd:=by
 unfold oEq;rw[JL h]
def WQ{k:Nat}(h1:1<=k)(a:k<=n):¬ 0<=-(k:Int)/\-(n:Int)<=-(k:Int)/\(-(k:Int)+(n:Int)).toNat=n-k:=by omega
def xr{k:Nat}(h1:1<=k)(a:k<=l.length):atI l (-(k:Int))=l[l.length-k]? := by
 have q:=WQ h1 a;unfold atI ixN;rw[zF q.1,zE q.2.1,q.2.2];rfl
def gg(k j:Nat)(h1:1<=j):atI ((.dU<|k+j).map ar) (-(j:Int))=some (ar .b7):=by
 rw[xr h1 (by rw[ZA,jy];exact Nat.le_add_left j k),ZA,jy,Nat.add_sub_cancel,ZQ,bn,ZQ,YP (Nat.lt_add_of_pos_right h1)];rfl
def uw(e:.p9):ax a b σ h=b σ' h':=by simp[ax,e]
def yv(W:w.Ok n)(S:cG w)(F:.V){t:Nat}(ht:.t s (t+2)=.t s t)(hm:∀k,k<t->hist w n s (k+2)≠hist w n s k)(hz:t<=900000)(h:Hd):
  iH .dF h=.ok (.tup [.int t,.str .ry,.ref h.length]) .hH:=by
 have L:∀k,(.b7).length=n:=λk=>(.eL).len;have f:∀j k,k+j=t->fW (tE .oz) yq (j+1) .iC .cj
   = .nx .xw .hH:=by
  intro j
  induction j with
  |zero =>
   intro k c;have:k=t:=c;subst this;have l:atI .hd (-2)=some (ar .b7):=gg k 2 .a;have a:tE .oz .iC .cj=.dr .cj:=by
    rw[ht];exact aM (av rfl .DP (by rw[CP rfl,z3 rfl];rfl))
   dsimp[fW,a]
  |succ j E =>
   intro k c;have l:atI .hd (-2)=some (ar .b7):=gg k 2 .a;have a:tE .oz .iC .cj=.ds .cj:=by
    exact aM (av rfl .DP (by rw[CP ((L<|k+2).trans (L k).symm),z4 (hm k<|c▸Nat.lt_add_of_pos_right (Nat.succ_pos j))];rfl))
   have G:(.hd).length<SZ:=by rw[ZA,jy];exact ZS (zYr (ZM (c▸YR k (j+1)) hz) 2) .a
   have B:=gR W (bm W S F<|k+2) .sa;have d:yq .iC .cj=.nx [some w.enc,some .C,some .M,some (ar<|.dp s<|k+3),none] .sa:=by
    have i:ed (jY .g .h) .iC .cj=.nx .iC .sa:=by
     rw[show bn w n s (k+3)=bn w n s (k+2)++[.t s (k+2)] from yt (k+2),ZR];exact(dj<|jx rfl ZG rfl ZG G).trans (by rw[hV rfl];rfl)
    exact(uw i).trans (aC<|.F B)
   rw[fW,a];dsimp[d];exact E (k+1) (by rw[Nat.add_right_comm];exact c)
 have o:=Bc (f t 0<|wK t) .f;have H:=gR W F h;have p:=gR W (bm W S F 1) .nu;have y:[ar s,ar .af]=(.dU 2).map ar:=by simp[bn,vc,hist]
 have r:atI ((.dU 2).map ar) 1=some (ar<|.dp s 1):=Os .a;have e:atI .bx (-1)=some .mi:=gg (t+1) 1 .a;have g:atI .bx (-2)=some .h1:=gg t 2 .a;have x:(.dU<|t+2).length=t+2:=jy _;have b:=li ((L<|t+1).trans (L t).symm) .hH;dsimp[hist]at p;dsimp[hist]at r;have m:.t s (0+2)=.aU .af:=rfl;rw[m,show 0+2=2 from rfl]at o;have D:.bQ .Aw .hh h
   = .nx .zq .nu:=by
  rw[<-y];exact aC (cR<|.cA<|.bO<|.F H)
 have C:.c0 .Bk .zq .nu
   = .nx [some w.enc,some .C,some .M,some (ar<|.aU .af),none] .nu:=by
  exact aC (aq (.cA<|.bO .DO) p)
 have v:.fd .xh .xw .hH
   = .nx [some w.enc,some .C,some .M,some (ar<|.dp s<|t+2),some (.str .ry)] .hH:=by
  by_cases q:.t s (t+1)=.t s t
  ·rw[zE q];rw[z3 q]at b
   exact aC ((nI .xY).trans rfl)
  ·rw[zF q];rw[z4 q]at b
   exact aC ((pv .xY).trans rfl)
 have u:ed (.cV bY) .hh h=.nx .hh h:=dj .ln;have A:((.dF).map some++List.replicate (5 - (.dF).length) none:Sd)=.hh:=rfl;unfold iH bB runB;rw[zE (show (.dF).length=2 from rfl),A,uw u,uw D,uw C,uw o,uw v];have z:((t:Int)+2)-2=t:=by omega
 simp[x,SZ,z,letGo,pure?,io]
/---/def mG:Fn:=bB 2 2 (ax .lz
  (aS<|.be (.cV cN) .d))
/---/def gh:Fn:=.dt (aS .AS)
/---/def bK:Fn:=.du (aS<|bR<|lOf .cI)
/---/def eP:Fn:=.dt (aS .yk)
/---/def fu:Fn:=.du (aS<|au gh<|.cB<|ad (au eP .kS) am)
/---/def dJ:Fn:=.du (aS<|au gh<|ad .e<|ad (au eP<|.cB .gd) am)
/---/def eJ:Fn:=bB 3 3 (ax .lz
  (ax (ed<|au bY .cl)
  (.aA<|tOr (dZ<|tE<|.cV mG)<|dZ<|tE<|au mG .cl)))
/---/def pD:Fn:=bB 3 3 (ax (ed .pb)
  (aS .An))
/---/def E1:Fn:=bB 3 3 (ax (ed .pb)
  (aS .Am))
def qc(l:.c):pure? (ar l)=true:=by
 unfold ar;dsimp[pure?]
 induction l with
 |nil=>rfl
 |cons x l a=>simp[io,pure?,a]
/---/def gD(ss:.Q):List Int:=ss.map λu=>if u=some 1 then 1 else 0
/---/def gU(ss:.Q):List Int:=ss.map λu=>if u=some 0 then 0 else 1
def ux(W:w.Ok n)(S:cG w):.b0 .fD:=by
 refine⟨by simp[gD,W.s],λx a=>?_,λi x a=>?_⟩
 ·obtain⟨u,_,rfl⟩:=z0.mp a
  split<;>simp
 ·have:=S _ (ZK a)
  simp at this;rcases this with e|e<;>subst e<;>simp[gD,a]
def uy(W:w.Ok n)(S:cG w):.b0 .gs:=by
 refine⟨by simp[gU,W.s],λx a=>?_,λi x a=>?_⟩
 ·obtain⟨u,_,rfl⟩:=z0.mp a
  split<;>simp
 ·have:=S _ (ZK a)
  simp at this;rcases this with e|e<;>subst e<;>simp[gU,a]
def yw(F:.V):LeS .fD s:=λi=>by
 have b:=F.bits i;cases e:w.stays[i]? with
 |none =>
  have z:(.fD).getD i 0=0:=by simp[gD,List.getD,e]
  omega
 |some u =>
  by_cases c:u=some 1
  ·subst c
   have:=F.st i 1 e;simp[gD,List.getD,e,this]
  ·dsimp[gD,List.getD,ZQ,e,Y8,zYv,zF c]at b⊢;omega
def E2(W:w.Ok n)(F:.V):LeS s .gs:=λi=>by
 have b:=F.bits i;cases e:w.stays[i]? with
 |none =>
  have l:w.stays.length<=i:=List.getElem?_eq_none_iff.mp e;have a:s.length<=i:=by rw[F.len,<-W.s];exact l
  simp[gU,List.getD,e,wM a]
 |some u =>
  by_cases c:u=some 0
  ·subst c
   have:=F.st i 0 e;simp[gU,List.getD,e,this]
  ·dsimp[gU,List.getD,ZQ,e,Y8,zYv,zF c]at b⊢;omega
def qZ(s:.c):Nat->Int
 |0=>0
 |n+1=>qZ s n+s.getD n 0
theorem sE{s:.c}(B:sD s):∀n,0<=qZ s n/\qZ s n<=n
 |0=>by simp[qZ]
 |n+1=>by have:=sE B n;have:=B n;rw[qZ];omega
theorem JM{a b:.c}(l:LeS a b):∀n,qZ a n<=qZ b n
 |0=>wb _
 |n+1=>by have:=JM l n;have:=l n;rw[qZ,qZ];omega
def ol1{A B y:Int}(h:A<=B)(l:x<=y)(ne:x≠y):A+x+1<=B+y:=by omega
def ol2{A B y:Int}(h:A+1<=B)(l:x<=y):A+x+1<=B+y:=by omega
theorem CQ{a b:.c}(l:LeS a b):∀{n:Nat},(∃p,p<n/\a.getD p 0≠b.getD p 0)->qZ a n+1<=qZ b n
 |0,h=>by obtain⟨p,hp,_⟩:=h;exact absurd hp (va _)
 |n+1,h=>by
  obtain⟨p,hp,ne⟩:=h;have c:=l n;rw[qZ,qZ]
  by_cases e:p=n
  ·subst e
   exact ol1 (JM l p) c ne
  ·exact ol2 (CQ l ⟨p,yb (Y3 hp) e,ne⟩) c
def Tj{a b:.c}(g:.eV)(j:.eU)(h:a≠b):∃p,p<n/\a.getD p 0≠b.getD p 0:=by
 by_cases c:∃p,p<n/\a.getD p 0≠b.getD p 0
 ·exact c
 ·exfalso
  apply h;apply List.ext_getElem .b;intro i f d
  by_cases e:a.getD i 0=b.getD i 0
  ·simpa[List.getD,f,d] using e
  ·exact absurd ⟨i,by omega,e⟩ c
section
variable{w:Web}{n:Nat}{s:.c}
theorem Bl(W:w.Ok n)(S:cG w)(M:.eW)(F:.V)(r:LeS s .af):∀k,LeS .b7 .om
 |0=>r
 |k+1=>M.go _ _ .eL .lA (Bl W S M F r k)
theorem Bm(W:w.Ok n)(S:cG w)(M:.eW)(F:.V)(r:LeS .af s):∀k,LeS .om .b7
 |0=>r
 |k+1=>M.go _ _ .lA .eL (Bm W S M F r k)
theorem ie{t:Nat}(h:.pN):∀k,t<=k->.t s k=.t s t
 |0,a=>by rw[Nat.le_zero.mp a]
 |k+1,a=>by
  by_cases e:t=k+1
  ·subst e;rfl
  ·rw[hist,ie h k (Y3<|yb a e)];exact h
def yx(W:w.Ok n)(S:cG w)(M:.eW)(F:.V)(r:LeS s .af):∃t,t<=n/\.t s (t+1)=.t s t:=by
 by_cases c:∃t,t<=n/\.t s (t+1)=.t s t
 ·exact c
 ·exfalso
  have a:∀k:Nat,k<=n+1->(k:Int)<=qZ .b7 n:=λk=>by
   induction k with
   |zero=>intro _;have:=sE F.bits n;simp[hist];omega
   |succ k d =>
    intro b;have ne:hist w n s k≠hist w n s (k+1):=λz=>c ⟨k,by omega,z.symm⟩;have:=CQ (Bl W S M F r k) (Tj (.eL).len (.lA).len ne);omega
  have:=a (n+1) .B;have:=sE (bm W S F<|n+1).bits n;omega
def yy(W:w.Ok n)(S:cG w)(M:.eW)(F:.V)(r:LeS .af s):∃t,t<=n/\.t s (t+1)=.t s t:=by
 by_cases c:∃t,t<=n/\.t s (t+1)=.t s t
 ·exact c
 ·exfalso
  have a:∀k:Nat,k<=n+1->qZ .b7 n+k<=n:=λk=>by
   induction k with
   |zero=>intro _;have:=sE F.bits n;simp[hist];omega
   |succ k d =>
    intro b;have ne:hist w n s (k+1)≠hist w n s k:=λz=>c ⟨k,by omega,z⟩;have:=CQ (Bm W S M F r k) (Tj (.lA).len (.eL).len ne);omega
  have:=a (n+1) .B;have:=sE (bm W S F<|n+1).bits n;omega
def lt2(a t:Nat):t<=a+2*t/\t<=a+2*t+1:=by omega
def Yh{t:Nat}(h:.pN):∃b,b<=t/\.t s (b+2)=hist w n s b/\(∀k,k<b->hist w n s (k+2)≠hist w n s k)/\hist w n s b=hist w n s t/\.t s (b+1)=.t s t:=by
 have u:∃k,hist w n s (k+2)=.t s k:=⟨t,by rw[ie h (t+2) (YR t 2)]⟩;have p:∃k,hist w n s (k+2)=hist w n s k/\∀j,j<k->hist w n s (j+2)≠hist w n s j:=by
  obtain⟨k,o⟩:=u
  induction k using Nat.strongRecOn with
  |_ k g =>
   by_cases c:∃j,j<k/\hist w n s (j+2)=.t s j
   ·obtain⟨j,f,e⟩:=c
    exact g j f e
   ·exact⟨k,o,λj f e=>c ⟨j,f,e⟩⟩
 obtain⟨b,i,l⟩:=p;have r:b<=t:=by
  by_cases z:b<=t
  ·exact z
  ·exact absurd (by rw[ie h (t+2) (YR t 2)]) (l t<|Nat.not_le.mp z)
 have d:∀m,hist w n s (b+2*m)=hist w n s b/\.t s (b+2*m+1)=.t s (b+1):=λm=>by
  induction m with
  |zero=>exact⟨rfl,rfl⟩
  |succ m g =>
   have q:b+2*(m+1)=(b+2*m+1)+1:=rfl;have a:.t s (b+2*(m+1))=.t s b:=by
    rw[q,hist,g.2,<-i];rfl
   refine⟨a,?_⟩;rw[hist,a];rfl
 refine⟨b,r,i,l,?_,?_⟩
 ·rw[<-(d t).1];exact ie h _ (lt2 b t).1
 ·rw[<-(d t).2];exact ie h _ (lt2 b t).2
def Lj(W:w.Ok n)(S:cG w)(F:.V){t:Nat}(h:.pN)(hz:t<=900000)(g:Hd):
  ∃(a:Nat) (L:List D),iH .dF g=.ok (.tup [.int a,.str .f8,.ref g.length]) (g++[.lst L])/\atI L (-1)=some .h1:=by
 obtain⟨a,e,c,f,i,b⟩:=Yh h;have q:=yv W S F c f (ZM e hz) g;have d:.t s (a+1)=.t s a:=by rw[i,b]
 refine⟨a,(.dU<|a+2).map ar,?_,?_⟩
 ·rw[q,zE d]
 ·rw[<-b];exact gg (a+1) 1 .a
def qd(W:w.Ok n)(S:cG w)(F:.V){t:Nat}(h:.pN)(hz:t<=900000)(g:Hd):gh .dF g=.ok .h1 g:=by
 obtain⟨d,L,q,a⟩:=Lj W S F h hz g;have c:atI [D.int d,.str .f8,.ref g.length] 2=some (.ref g.length):=rfl;have b:(g++[cM.lst L])[g.length]?=some (.lst L):=by simp
 have e:aS .AS [some w.enc,some .C] g=.rt .h1 (g++[.lst L]):=by
  exact aE (aL (aL (.F q) rfl rfl c) rfl (aF b) a)
 exact (.n e).trans (bP<|qc _)
end
section
variable{w:Web}{n:Nat}{s:.c}
def Ow(S:cG w)(j:v=0\/v=1)(f:h[k]?=some .o3)(a:.E):cu .bJ .b3 .G [] (fIf .iO .d .e) .b3 [a,some .cs] h=.ok ((.r5).map .int) h:=by
 have:=bj (g:=some k) (tg:=gN 0) (cs:=[]) (e:=fIf .iO .d .e) (I:=λσ=>∃a,σ=[a,some (.int v)]) .aI (λd=>match d with | .int i=>.int i|_=>.int v) f
  (xs:=w.stays.map bw) (σ:=[a,some .cs]) (by
   rintro x l σ ⟨c,rfl⟩;obtain⟨u,b,rfl⟩:=z0.mp l;refine⟨_,rfl,⟨_,rfl⟩,rfl,λ_=>?_⟩;cases u with
   |none=>exact(nI .b9).trans rfl
   |some z=>exact(pv .b9).trans rfl) ⟨_,rfl⟩
 rw[this,wL.mpr .f,y3];congr 1;rcases j with e|e
 ·subst e
  rw[zE rfl,gD,y3];apply YE;intro u b;rcases S u b with z|z|z<;>subst z<;>rfl
 ·subst e
  rw[zF .a,gU,y3];apply YE;intro u b;rcases S u b with z|z|z<;>subst z<;>rfl
def sF(W:w.Ok n)(S:cG w)(d:v=0\/v=1)(h:Hd):eP [w.enc,.int v] h=.ok (ar .r5) h:=by
 have a:=Ow S d (k:=h.length) ZG none;have f:(.b3).length<=SZ:=by rw[ZA,W.s];exact ZM W.sz .a
 have c:bK .aQ h=.cC .eJ:=(.n<|aE<|cR .pa f).trans cI;generalize .r5=l at a⊢;have e:aS .yk [some w.enc,some .cs] h=.rt (ar l) .eJ:=by
  exact aE (hU<|bZ (c5 (.ah c) ZG) a)
 have b:([w.enc,D.int v].map some++List.replicate (2 - [w.enc,D.int v].length) none:Sd)=[some w.enc,some .cs]:=rfl;unfold eP bB runB;rw[zE .h4,b,e];exact bP (qc _)
def E3(W:w.Ok n)(S:cG w)(M:.eW):∃t,t<=n/\.t .fD (t+1)=.t .fD t:=by
 have F:=ux W S;exact yx W S M F (yw<|gp W S F)
def E4(W:w.Ok n)(S:cG w)(M:.eW):∃t,t<=n/\.t .gs (t+1)=.t .gs t:=by
 have F:=uy W S;exact yy W S M F (E2 W<|gp W S F)
def zY(W:w.Ok n)(S:cG w){t:Nat}(ht:t<=1000)(e:.t .fD (t+1)=.t .fD t)(h:Hd):fu .aQ h=.ok (ar<|.dp .fD t) h:=by
 have q1:=sF W S .aY h;rw[zE rfl]at q1;have q2:=qd W S (ux W S) e .ps h;exact (.x9).trans aJ
def zZ(W:w.Ok n)(S:cG w){t:Nat}(ht:t<=1000)(e:.t .gs (t+1)=.t .gs t)(h:Hd):dJ .aQ h=.ok (ar<|.dp .gs t) h:=by
 have q1:=sF W S .eY h;rw[zF .a]at q1;have q2:=qd W S (uy W S) e .ps h;exact (.x9).trans aJ
def yz(W:w.Ok n)(F:.V)(h:Hd):mG .dF h=.ok (.bl<|decide (.aU s=s)) h:=by
 have l:(.af).length=s.length:=by rw[F.len];simp[aW]
 have q:=li l h;exact (.n<|(bF<|dj .ln).trans (aE<|av (.F<|gR W F h) rfl q)).trans aJ
def pE{a b:.c}(W:w.Ok n)(c:.cR)(f:.dP)(i:.aU a=a)(g:.aU b=b)(h:Hd):eJ .fy h=.e9 h:=by
 have d:=yz W c h;have e:=yz W f h;rw[z3 i]at d;rw[z3 g]at e;exact(Oq rfl rfl<|(bF<|dj<|.F<|kA W c h).trans ((bF<|dj<|.F<|kA W f h).trans (bH<|iQ (c0<|aM<|.F d)<|c0<|aM<|.F e))).trans aJ
end
/---/def mH(a b:.c):List Int:=(.gC).map λp=>if p.2>p.1 then p.2 else p.1
/---/def mI(a b:.c):List Int:=(.gC).map λp=>if p.2<p.1 then p.2 else p.1
theorem yA{G:Hd->Prop}(a:∀h,G h){tg:GF}{cs:List TF}{e:EF}{all:List D}:∀{xs:List D} {σ:Sd} {h:Hd},eE G tg cs e xs σ h=.d0 all tg cs e xs σ h
 |[],σ,h=>by unfold eE cu;rw[zE (a h),zE (show d9 none all h from trivial)]
 |x::xs,σ,h=>by
  unfold eE cu;rw[zE (a h),zE (show d9 none all h from trivial)];cases tg x σ with
  |none=>rfl
  |some σ'=>dsimp[yA a (all:=all)]
theorem Bn{G:Hd->Prop}(a:∀h,G h){tg:GF}{b:SF}{all:List D}:∀{xs:List D} {σ:Sd} {h:Hd},nE G tg b xs σ h=i0 none all tg b xs σ h
 |[],σ,h=>by unfold nE i0;rw[zE (a h),zE (show d9 none all h from trivial)]
 |x::xs,σ,h=>by
  unfold nE i0;rw[zE (a h),zE (show d9 none all h from trivial)];cases tg x σ with
  |none=>rfl
  |some σ' =>
   show (match b σ' h with | .nx σ h=>nE G tg b xs σ h | .ct σ h=>nE G tg b xs σ h | .bk σ h=>.nx σ h|r=>r)=(match b σ' h with | .nx σ h=>i0 none all tg b xs σ h | .ct σ h=>i0 none all tg b xs σ h | .bk σ h=>.nx σ h|r=>r);cases b σ' h<;>first|rfl|exact Bn a
def Bo{c:Nat}{caps:.m}{a b:EF}{cs:List TF}{f d:Hd}{k all:List D}(p:.vD)(q:b σ h1=.ok (.tup k) f)(r:.d0 all tg cs e .hj (gJ c caps σ) f=.dx d):jw c caps a b tg cs e σ h=.dx d:=by
 rw[<-r,<-yA (G:=λh=>d9 none l h/\d9 none k h) λh=>⟨trivial,trivial⟩];unfold jw;rw[p];dsimp[q,jZ]
def Ox{a b:EF}{body:SF}{c:Hd}{k all:List D}{o:Out}(p:.vD)(q:b σ h1=.ok (.tup k) c)(r:i0 none all tg body .hj σ c=o):se a b tg body σ h=o:=by
 rw[<-r,<-Bn (G:=λh=>d9 none l h/\d9 none k h) λh=>⟨trivial,trivial⟩];unfold se;rw[p];dsimp[q,jZ]
def E5{g:.gQ}(f:∀(x y:Int) (h:Hd),E [some .ed,some .jq] h=.ok (.int<|g x y) h)(a b:.c)(u v:.E)(h:Hd):.d0 .Cb .bI [] E .Cb [u,v] h=.ok ((.CA).map .int) h:=by
 have e:(.xD).map (λp=>D.tup .gB)=(.gC).map λp=>D.tup .fs:=by
  rw[List.zip_map,y3];rfl
 rw[e];have:=bj (g:=none) (all:=(.gC).map λp=>D.tup .fs) (tg:=gT [0,1]) (cs:=[]) (h:=h) (I:=λσ=>∃a b,σ=[a,b]) .aI (λd=>match d with | .tup [.int x,.int y]=>.int (g x y)|_=>.non) trivial
  (xs:=(.gC).map λp=>D.tup .fs) (σ:=[u,v]) (by
   rintro x i σ ⟨c,d,rfl⟩;obtain⟨p,j,rfl⟩:=z0.mp i;exact⟨_,rfl,⟨_,_,rfl⟩,rfl,λ_=>f _ _ _⟩) ⟨_,_,rfl⟩
 rw[this,wL.mpr .f,y3,y3];rfl
def Oy{g:.gQ}{a b:.c}(f:.eV)(lb:.eU)(hi:i<n):.CA[i]?=some (g (a.getD i 0)<|b.getD i 0):=by
 have d:i<a.length:=f▸hi;have c:i<b.length:=lb▸hi;have e:i<(.gC).length:=by rw[List.length_zip];exact Nat.lt_min.mpr ⟨d,c⟩
 rw[ZQ,ZE e];simp[List.getD,d,c]
section
variable{w:Web}{n:Nat}{a b:.c}
def yB(d:.eV)(lb:.eU)(i:Nat):(.cb).getD i 0=if b.getD i 0>a.getD i 0 then b.getD i 0 else a.getD i 0:=by
 by_cases c:i<n
 ·rw[List.getD,mH,Oy (g:=λx y=>if y>x then y else x) d lb c];rfl
 ·have:¬i<(.cb).length:=by simp[mH];omega
  simp[List.getD,wM (show a.length<=i by omega),wM (show b.length<=i by omega),wM (show (.cb).length<=i by omega)]
def yC(d:.eV)(lb:.eU)(i:Nat):(.ca).getD i 0=if b.getD i 0<a.getD i 0 then b.getD i 0 else a.getD i 0:=by
 by_cases c:i<n
 ·rw[List.getD,mI,Oy (g:=λx y=>if y<x then y else x) d lb c];rfl
 ·have:¬i<(.ca).length:=by simp[mI];omega
  simp[List.getD,wM (show a.length<=i by omega),wM (show b.length<=i by omega),wM (show (.ca).length<=i by omega)]
def JN(W:w.Ok n)(lc:c.length=n)(B:sD c)(st:∀(i:Nat) (x:Int),w.stays[i]?=some .fJ->c.getD i 0=x):.b0 c:=by
 refine⟨lc,λx f=>?_,λi x e=>?_⟩
 ·obtain⟨i,d⟩:=zZs.mp f
  have:=B i;simpa[List.getD,d] using this
 ·have d:i<c.length:=by rw[lc,<-W.s];exact (.cN).1
  have:=st i x e;dsimp[List.getD,ZE d,zYv]at this;rw[ZE d,this]
def CS(F:.cR)(e:w.stays[i]?=some .fJ):a.getD i 0=x:=by
 have:=F.st i x e;simp[List.getD,this]
def yD(W:w.Ok n)(c:.cR)(d:.dP):.b0 .cb:=by
 refine JN W (by simp[mH];have:=c.len;have:=d.len;omega) (λi=>?_) λi x e=>?_
 ·rw[yB c.len d.len]
  have:=c.bits i;have:=d.bits i;split<;>assumption
 ·rw[yB c.len d.len,CS c e,CS d e];simp
def yE(W:w.Ok n)(c:.cR)(d:.dP):.b0 .ca:=by
 refine JN W (by simp[mI];have:=c.len;have:=d.len;omega) (λi=>?_) λi x e=>?_
 ·rw[yC c.len d.len]
  have:=c.bits i;have:=d.bits i;split<;>assumption
 ·rw[yC c.len d.len,CS c e,CS d e];simp
def Oz(c:.cR)(d:.dP):LeS a .cb/\LeS b .cb:=⟨λi=>by rw[yB c.len d.len];split<;>omega,λi=>by rw[yB c.len d.len];split<;>omega⟩
def OA(c:.cR)(d:.dP):LeS .ca a/\LeS .ca b:=⟨λi=>by rw[yC c.len d.len];split<;>omega,λi=>by rw[yC c.len d.len];split<;>omega⟩
def JO(e:.cR)(f:.dP)(h1:LeS a c)(d:LeS b c):LeS .cb c:=λi=>by
 rw[yB e.len f.len];have:=h1 i;have:=d i;split<;>omega
def JP(e:.cR)(f:.dP)(h1:LeS c a)(d:LeS c b):LeS c .ca:=λi=>by
 rw[yC e.len f.len];have:=h1 i;have:=d i;split<;>omega
def Lk(W:w.Ok n)(S:cG w)(M:.eW)(c:.cR)(d:.dP)(f:.aU a=a)(e:.aU b=b):∃t,t<=n/\.t .cb (t+1)=.t .cb t:=by
 have Fm:=yD W c d;have l:=Oz c d;refine yx W S M Fm (JO c d ?_ ?_)
 ·have:=M.go _ _ c Fm l.1;rwa[f]at this
 ·have:=M.go _ _ d Fm l.2;rwa[e]at this
def Ll(W:w.Ok n)(S:cG w)(M:.eW)(c:.cR)(d:.dP)(f:.aU a=a)(e:.aU b=b):∃t,t<=n/\.t .ca (t+1)=.t .ca t:=by
 have Fm:=yE W c d;have l:=OA c d;refine yy W S M Fm (JP c d ?_ ?_)
 ·have:=M.go _ _ Fm c l.1;rwa[f]at this
 ·have:=M.go _ _ Fm d l.2;rwa[e]at this
def Lm(W:w.Ok n)(S:cG w)(d:.cR)(f:.dP)(j:.aU a=a)(m:.aU b=b){t:Nat}(ht:t<=1000)(e:.t .cb (t+1)=.t .cb t)(h:Hd):pD .fy h=.ok .DM h:=by
 have c:=E5 (E:=ub .e .d) (λ_ _ _=>rfl) a b none none h;have q:=qd W S (yD W d f) e .ps h;have k:=pE W d f j m h;have g:ed .pb .ex h=.nx .ex h:=dj (aq .b8 k);have i:fg .xe .ex h=.ok (ar .cb) h:=by
  exact hU (Bo rfl rfl c)
 have o:aS .An .ex h=.rt .DM h:=by
  exact aE .B3
 have l:((.fy).map some++List.replicate (3 - (.fy).length) none:Sd)=.ex:=rfl;exact (.BP).trans aJ
def Va(W:w.Ok n)(S:cG w)(d:.cR)(f:.dP)(j:.aU a=a)(m:.aU b=b){t:Nat}(ht:t<=1000)(e:.t .ca (t+1)=.t .ca t)(h:Hd):E1 .fy h=.ok .DN h:=by
 have c:=E5 (E:=Er .e .d) (λ_ _ _=>rfl) a b none none h;have q:=qd W S (yE W d f) e .ps h;have k:=pE W d f j m h;have g:ed .pb .ex h=.nx .ex h:=dj (aq .b8 k);have i:fg .xf .ex h=.ok (ar .ca) h:=by
  exact hU (Bo rfl rfl c)
 have o:aS .Am .ex h=.rt .DN h:=by
  exact aE .B3
 have l:((.fy).map some++List.replicate (3 - (.fy).length) none:Sd)=.ex:=rfl;exact (.BP).trans aJ
end
/---/def bW:Fn:=bB 2 2 (ax (sIf .Dv (aS .u6) bh)
  (aS<|.a3 (.bn (.bn (fC<|.int 71) .d) .d)<|.bn .hn .d))
abbrev yF:SF:=(sIf (tE .k5) (ax (.bt .wl)
  (ed (jY .u<|.aH (ag ek .H .hn) .h))) (ax (ed (jY .u<|.aH .H .h))
  (.bt<|ag ek .H .h)))
/---/def eR:Fn:=bB 4 7 (ax (.bs .a6)
  (ax (.bt .e)
  (ax (sIf (tE .k5) .wy bh)
  (ax (fE (cr .g) .a8 yF)
  (aS .u)))))
abbrev kC:SF:=(jX (aa 9) .L<|fIx (ad (ag gy (fAt (aa 10) .L)<|fC<|.int 1000)<|ad (ag gy (.a3 (fAt (aa 9) .L)<|.aH (fAt (aa 10) .L) .hn) .a5) am)<|.aH (ag ek .g<|fC<|.int 256) .J)
abbrev rc:SF:=(ax (.cZ .xb)
  (ax (sIf .mY .wj bh)
  (ax (jX (fAt .u .L) .ay .bz)
  (jX (fAt .u .ay) .L .bz))))
abbrev nM:SF:=(fE (cr .L) .lK rc)
/---/def mJ:Fn:=bB 2 12 (ax (.ap<|au bW .kS)
  (ax (.a0 .zz)
  (ax (.bs .yn)
  (ax (.bt .wE)
  (ax (.qQ nM)
  (ax (aD (gN 9) .yV)
  (ax (sIf .xU (ax (aD (gN 10) .q6)
  (.qQ kC)) bh)
  (ax (.kE .Cq)
  (ax (sIf .xT (ax (.bt .q8)
  (.kE .rQ)) bh)
  (aS .zl))))))))))
abbrev uz:SF:=(ax (.fc<|.bn .J<|rH .q4)
  (ax (.cZ<|fAt .d .L)
  (ax (sIf .C5 (.cZ .o) bh)
  (ax (sIf .C4 (.cZ .z) bh)
  (ax (sIf .AQ .CT bh)
  (ed<|jY .H .bz))))))
/---/def dm:Fn:=bB 2 9 (ax (aD (gT [2,3,4]) .e)
  (ax .uV
  (ax (fE (cr .hl) .a8 uz)
  (aS<|fg<|lOf .H))))
abbrev nN:SF:=(ax (ed<|jY .g .u5)
  (sIf .D3 (jX .g .h .tw) bh))
/---/def fS:Fn:=bB 2 4 (ax (.ap .a6)
  (ax (fE (cr .c5) .cq nN)
  (aS<|fg .lw)))
/---/def ig:Fn:=.dt (aS<|.be (bR .z5) .a6)
theorem Bp{x:.cQ}:∀{r:.bj},(∀p∈r,p.1≠x.1)->r.Pairwise .jg->(qV x r).Pairwise .jg
 |[],_,_=>by simp[qV]
 |y::r,hne,hp=>by
  obtain⟨h1,g⟩:=YC.mp hp;have h:=hne y .f;have f:=Bp (λp hp=>hne p (by simp[hp])) g;have e:lexLt (sB x) (sB y)=decide (x.1<y.1):=by
   dsimp[sB,lexLt];rw[zF .b];simp
  dsimp[qV];split
  ·rename_i c
   rw[e,YL]at c;refine YC.mpr ⟨λb d=>?_,hp⟩;rcases y6.mp d with z|d
   ·rw[z];exact c
   ·exact Z1 c (h1 b d)
  ·rename_i c
   rw[e,YL]at c;refine YC.mpr ⟨λb d=>?_,f⟩;rcases yu.mp d with z|d
   ·rw[z];omega
   ·exact h1 b d
theorem kD:∀{r:.bj},(r.map (·.1)).Nodup->(dG r).Pairwise .jg
 |[],_=>by simp[dG]
 |x::r,nd=>by
  rw[z5,YW]at nd;refine Bp (λp hp e=>nd.1 ?_) (kD nd.2);rw[<-e];exact z0.mpr ⟨p,eV.mp hp,rfl⟩
theorem JQ:∀{a b:.bj},a.Pairwise .jg->b.Pairwise .jg->(∀p,p∈a↔p∈b)->a=b
 |[],[],_,_,_=>rfl
 |[],y::b,_,_,h=>absurd ((h y).mpr .f) .f
 |x::a,[],_,_,h=>absurd ((h x).mp .f) .f
 |x::a,y::b,k,i,h=>by
  obtain⟨f,j⟩:=YC.mp k;obtain⟨g,l⟩:=YC.mp i;have e:x=y:=by
   rcases y6.mp ((h x).mp .f) with e|e
   ·exact e
   ·rcases y6.mp ((h y).mpr .f) with d|d
    ·exact d.symm
    ·have q1:=g x e
     have q2:=f y d;omega
  subst e;have t:=JQ j l λp=>⟨λc=>by
   rcases y6.mp ((h p).mp .hQ) with e|e
   ·subst e;exact absurd (f p c) (Z8 _)
   ·exact e,λc=>by
   rcases y6.mp ((h p).mpr .hQ) with e|e
   ·subst e;exact absurd (g p c) (Z8 _)
   ·exact e⟩
  rw[t]
def yG{a b:.bj}(c:(a.map (·.1)).Nodup)(nb:(b.map (·.1)).Nodup)(h:∀p,p∈a↔p∈b):dG a=dG b :=
 JQ (kD c) (kD nb) λp=>by rw[eV,eV];exact h p
def jJ{p:.cQ}:p∈nbs T i ↔ ∃t∈T,far i t=some p.1/\t.w=p.2:=by
 unfold nbs;rw[zp];constructor
 ·rintro⟨t,a,q⟩
  cases e:far i t with
  |none=>rw[e]at q;cases q
  |some j=>rw[e]at q;simp at q;subst q;exact⟨t,a,e,rfl⟩
 ·rintro⟨t,a,q1,q2⟩
  exact⟨t,a,by rw[q1,q2];rfl⟩
def OB{t:Tie}(ne:t.a≠t.b){i j:Nat}(h:.j9):far j t=some i:=by
 unfold far at h⊢
 by_cases b:t.a=i
 ·rw[zE b]at h
  cases h;rw[zF ne,zE rfl,b]
 ·rw[zF b]at h
  by_cases a:t.b=i
  ·rw[zE a]at h
   cases h;rw[zE rfl,a]
  ·rw[zF a]at h;cases h
def E6(ne:∀t∈T,t.a≠t.b){i j:Nat}(h:(j,x)∈nbs T i):(i,x)∈nbs T j:=by
 obtain⟨t,a,q1,q2⟩:=jJ.mp h;exact jJ.mpr ⟨t,a,OB (ne t a) q1,q2⟩
def Vb{t:Tie}(ne:t.a≠t.b){i j:Nat}(h:.j9):i≠j:=by
 unfold far at h
 by_cases b:t.a=i
 ·rw[zE b]at h;cases h;omega
 ·rw[zF b]at h
  by_cases a:t.b=i
  ·rw[zE a]at h;cases h;omega
  ·rw[zF a]at h;cases h
/---/def jp(i:Nat)(r:.bj):List Tie:=(r.filter λp=>decide (i<p.1)).map λp=>⟨i,p.1,p.2⟩
def iU(R:List (List .bV)):Nat->List Tie
 |0=>[]
 |k+1=>iU R k++jp k .vg
def uA{t:Tie}:t∈jp i r↔t.a=i/\i<t.b/\(t.b,t.w)∈r:=by
 unfold jp;rw[z0];constructor
 ·rintro⟨p,c,rfl⟩
  obtain⟨b,a⟩:=YF.mp c;exact⟨rfl,by simpa using a,b⟩
 ·rintro⟨b,a,d⟩
  exact⟨_,YF.mpr ⟨d,by simpa using a⟩,by cases t;cases b;rfl⟩
theorem km{t:Tie}:∀{k:Nat},t∈iU R k↔t.a<k/\t.a<t.b/\(t.b,t.w)∈R.getD t.a []
 |0=>by simp[iU]
 |k+1=>by
  rw[iU,Z3,km,uA];constructor
  ·rintro (⟨h1,b,a⟩|⟨h1,b,a⟩)
   ·exact⟨by omega,b,a⟩
   ·exact⟨by omega,by omega,by rw[h1];exact a⟩
  ·rintro⟨h1,b,a⟩
   by_cases c:t.a<k
   ·exact .inl ⟨c,b,a⟩
   ·have:t.a=k:=by omega
    exact .inr ⟨this,by omega,by rw[<-this];exact a⟩
theorem E7(nd:∀i,((.vh).map (·.1)).Nodup):∀k,(iU R k).Pairwise jz
 |0=>by simp[iU]
 |k+1=>by
  rw[iU,xn];refine⟨E7 nd k,?_,λs d t ht=>?_⟩
  ·unfold jp
   rw[Y4];have n1:=nd k;rw[Y6,Y4]at n1;refine(n1.filter _).imp_of_mem λ{a b} c f h=>?_;have e:k<a.1:=by simpa using (YF.mp c).2
   exact⟨λz=>h z.2,λz=>by have:=z.2;simp at this;omega⟩
  ·obtain⟨g,l,_⟩:=km.mp d
   obtain⟨j,m,_⟩:=uA.mp ht;exact⟨λz=>by omega,λz=>by omega⟩
theorem uB(l:∀i,(.vh).length<=30):∀k,(iU R k).length<=30*k
 |0=>by simp[iU]
 |k+1=>by
  have a:=uB l k;have c:(jp k .vg).length<=(.vg).length:=by unfold jp;rw[ZA];exact YG _ _
  have b:=l k;rw[iU,ZB];omega
def Ln(h:p<n):(.S).ties.getD p []=dG (nbs T p):=by simp[bA,List.getD,h]
def Bq:∀r:List .bV,(dG r).length=r.length:=λr=>by
 have:=ur (λ_=>1) r;have q:∀l:List .bV,(l.map λ_=>(1:Int)).sum=l.length:=λl=>by
  induction l with
  |nil=>rfl
  |cons x l a=>simp;omega
 rw[q,q]at this;omega
def JR(lt:.vG)(un:T.Pairwise jz)(i:Nat):(.aP).length<=n:=by
 have:=Ht (lV un i) λx b=>by
  obtain⟨p,a,rfl⟩:=z0.mp b;exact qW lt p a
 simpa using this
/---/def jA(n:Nat)(T:.ax):List Tie:=iU .ra n
def iI(hn:n<=30)(O:.au):TOk n n 0 .db/\∀i,i<n->dG (nbs .db i)=dG .aP:=by
 have l:∀{i:Nat},i<n->.iK=dG .aP:=λ{i} g=>by simp[List.getD,g]
 have m:∀{i:Nat},¬i<n->.iK=[]:=λ{i} g=>by simp[List.getD,g]
 have mem:∀{t:Tie},t∈jA n T↔t.a<n/\t.a<t.b/\(t.b,t.w)∈nbs T t.a:=λ{t}=>by
  unfold jA;rw[km];constructor
  ·rintro⟨f,o,d⟩
   rw[l f,eV]at d;exact⟨f,o,d⟩
  ·rintro⟨f,o,d⟩
   exact⟨f,o,by rw[l f,eV];exact d⟩
 have z:∀i,((.iK).map (·.1)).Nodup:=λi=>by
  by_cases g:i<n
  ·rw[l g,Y6,Y4]
   exact(kD<|lV O.un i).imp λ{a b} h e=>by omega
  ·rw[m g];simp
 have ok:.iA .db:=by
  refine⟨λt k=>?_,λt k=>?_,λt k=>?_,λt k=>?_,E7 z n,?_⟩
  ·have:=(mem.mp k).2.1;omega
  ·obtain⟨f,o,d⟩:=mem.mp k
   exact⟨f,qW O.lt _ d⟩
  ·obtain⟨f,o,d⟩:=mem.mp k
   obtain⟨s,u,_,q⟩:=jJ.mp d;have q:s.w=t.w:=q;rw[<-q];exact O.wt s u
  ·obtain⟨f,o,d⟩:=mem.mp k
   exact .inl ⟨f,qW O.lt _ d⟩
  ·have:=uB (λi=>by
    by_cases g:i<n
    ·rw[l g,Bq]
     have:=JR O.lt O.un i;omega
    ·rw[m g];simp) n
   exact this
 refine⟨ok,λi g=>yG (lV ok.un i) (lV O.un i) λp=>?_⟩;obtain⟨j,x⟩:=p;constructor
 ·intro h
  obtain⟨t,k,q1,q2⟩:=jJ.mp h;obtain⟨f,o,d⟩:=mem.mp k;have q2:t.w=x:=q2;subst q2;unfold far at q1
  by_cases w:t.a=i
  ·rw[zE w]at q1
   have q1:t.b=j:=by simpa using q1
   rw[<-q1,<-w];exact d
  ·rw[zF w]at q1
   by_cases v:t.b=i
   ·rw[zE v]at q1
    have q1:t.a=j:=by simpa using q1
    rw[<-q1,<-v];exact E6 O.ne d
   ·rw[zF v]at q1;cases q1
 ·intro h
  obtain⟨s,u,q1,q2⟩:=jJ.mp h;have r:i≠j:=Vb (O.ne s u) q1;have y:=qW O.lt _ h
  by_cases c:i<j
  ·exact jJ.mpr ⟨⟨i,j,x⟩,mem.mpr ⟨g,c,h⟩,by simp[far],rfl⟩
  ·exact jJ.mpr ⟨⟨j,i,x⟩,mem.mpr ⟨y,by show j<i;omega,E6 O.ne h⟩,by simp[far,wh r],rfl⟩
def yH(bs:.c)(ss:.Q)(h:∀i,i<n->dG (nbs S i)=dG .aP):bA n S bs ss=bA n T bs ss:=by
 unfold bA;congr 1;apply YE;intro i a;exact h i (YK.mp a)
def rj(hn:n<=30)(O:.au)(bs:.c)(ss:.Q):bA n .db bs ss=bA n T bs ss:=yH bs ss (.hZ).2
/---/def eW:Fn:=.du (aS<|bR<|lOf .cn)
abbrev nO:SF:=(ed<|kx .d<|bG 2 [2] (dA .jE) .bI .ld<|cZ .hR)
/---/def dy:Fn:=bB 1 3 (ax (.dW .a6)
  (ax (fE (cr .dH) .fk nO)
  (aS .d)))
def rk(W:w.Ok n)(h:Hd):bS .aQ h=.ev h:=by
 simp[bS,bB,runB,Web.enc,W.t]
def nP(W:w.Ok n)(h:Hd):eW .aQ h=.cC (h++[.lst .t8]):=by
 have z:w.bars.length<=1000000:=by have:=W.b;have:=W.sz;omega
 simp[eW,bB,runB,Web.enc,SZ,z]
def lm(W:w.Ok n)(h:Hd):bK .aQ h=.cC .eJ:=by
 have z:w.stays.length<=1000000:=by have:=W.s;have:=W.sz;omega
 simp[bK,bB,runB,Web.enc,SZ,z]
def Hy(i:Nat)(r:.bj)(h:Hd):.d0 .gy .bI .ld (cZ .hR) .gy [none,none,some .v] h=.ok .vi h:=by
 have:=bj (g:=none) (all:=r.map qQ) (tg:=gT [0,1]) (cs:=.ld) (e:=cZ .hR) (h:=h) (I:=λσ=>∃a b,σ=[a,b,some .v])
  (λd=>match d with | .tup [.int j,_]=>decide ((i:Int) < j)|_=>false) (λd=>match d with | .tup [j,x]=>.tup [.int i,j,x] | _=>.non) trivial (xs:=r.map qQ) (σ:=[none,none,some .cS]) (by
  rintro x l σ ⟨a,b,rfl⟩;obtain⟨p,_,rfl⟩:=z0.mp l;exact⟨_,rfl,⟨_,_,rfl⟩,by by_cases c:i<p.1<;>simp[qQ,c],λ_=>rfl⟩) ⟨_,_,rfl⟩
 rw[this];congr 1;clear this
 induction r with
 |nil=>rfl
 |cons p r f =>
  unfold jp at f⊢
  by_cases c:i<p.1
  ·have k:(i:Int)<(p.1:Int):=by omega
   dsimp[z5,zYd,qQ,z3 c,z3 k,Y5,z5]at f⊢;rw[f];rfl
  ·have k:¬(i:Int)<(p.1:Int):=by omega
   dsimp[z5,zYd,qQ,z4 c,z4 k,YM,zZb]at f⊢;rw[f]
def CT(W:w.Ok n)(n30:n<=30)(m:∀i,(w.ties.getD i []).length<=30)(h:Hd):dy .aQ h=.cC (h++[.lst ((iU w.ties n).map ca)]):=by
 have J:aD .gw .a6 .ta h=.nx .sF .ae:=by simp[SZ]
 obtain⟨σ',e,q,y,p,G⟩:=cn (P:=λi σ e=>∃y,σ=[some w.enc,some .bb,y]/\e=h++[.lst .DU]) (g:=none)
  (.bA) (tg:=gN 2) (h:=h++[.lst []]) (b:=nO) (by
  rintro i d σ R v ⟨y,rfl,rfl⟩;rw[wK] at *;obtain⟨C,rfl⟩:=gq v;have a:i<w.ties.length:=by rw[W.t];exact C
  obtain⟨r,j⟩:=q0 (w.ties.getD i []);have c:w.ties[i]?=some r:=by rw[j];simp[List.getD,a]
  have Q:r.length<=30:=by rw[j];exact m i
  obtain⟨L,f⟩:=q0 .DU;have O:L.length<=30*30:=by
   have:=uB m i;rw[f,ZA];omega
  have u:(.vi).length<=30:=by
   have N:(.lM).length<=r.length:=by unfold jp;rw[ZA];exact YG _ _
   rw[ZA];omega
  have B:(iU w.ties<|i+1).map ca=L++(.lM).map ca:=by rw[iU,ZR,<-f,<-j]
  rw[<-f,B];obtain⟨H,l⟩:=q0 (h++[.lst L]:Hd);have A:H[h.length]?=some (.lst L):=by rw[l];simp
  have K:H.set h.length (.lst .uu)=h++[.lst .uu]:=by rw[l];simp
  have t:=pz w H c;have k:bG 2 [2] (dA .jE) .bI .ld (cZ .hR) .nB H=.ok .vi H:=by
   have q:dA .jE .nB H=.ok (r.map qQ,none) H:=by simp[t,yi]
   generalize dA .jE=I at q⊢;dsimp[bG,q,aR];exact Hy i r H
  refine⟨_,rfl,.nB,h++[.lst .uu],?_,_,rfl,rfl⟩;show ed (kx .d _) .nB (h++[.lst L])=_;rw[<-l,<-K];generalize bG 2 [2] (dA .jE) .bI .ld (cZ .hR)=E at k⊢;generalize (.lM).map ca=M at k u⊢;have z:L.length+M.length<=1000000:=by omega
  simp[A,k,SZ,z]) ⟨none,rfl,by simp[iU]⟩
 have F : -1000000<=(n:Int):=by omega
 have o:(n:Int)<=1000000:=by omega
 have x:fE (cr .dH) .fk nO .sF .ae=.nx σ' e:=by
  have q1:cr .dH .sF .ae=.ok ((.s).map λk:Nat=>D.int k,none) .ae:=by simp[rk W,F,o]
  generalize cr .dH=I at q1⊢;dsimp[fE,q1,aR];exact q
 have s:((.aQ).map some++List.replicate (3 - (.aQ).length) none:Sd)=.ta:=rfl;unfold dy bB runB;rw[zE (show (.aQ).length=1 from rfl),s,cy J,cy x,p,G];simp
def jK(hn:n<=30)(O:.au)(lb:.bD)(ls:.bi)(h:Hd):dy [(.S).enc] h=.cC (h++[.lst .lT]):=by
 refine CT (.g4 ls) hn (λi=>?_) h
 by_cases a:i<n
 ·rw[Ln a,Bq]
  have:=JR O.lt O.un i;omega
 ·simp[bA,List.getD,a]
/---/def inR(h:Hd)(x y:D):Option Bool:=match jM h y with
 |some l=>match Tx l with
  |some rs=>match Tx [x] with
   |some [r]=>if ∀z∈rs,z.length=r.length then some (decide (r∈rs)) else none
   |_=>none
  |none=>none
 |none=>none
abbrev ja:qO:=[(.m0,[]),(.hu,.tc),([101,110,100,101,100],.tc),(.nL,.tc),(.i8,[]),(.iL,[]),(.i2,[]),(.i7,[]),(.nM,.BD),(.oV,.BD),([102,101,119,101,115,116],[]),(.gg,[[112,101,114,115,111,110],.iU,.sX]),(.hF,[[112,101,114,115,111,110],.sX]),(.d9,[[112,101,114,115,111,110],.d9])]
/---/def mK:Fn:=.du (aS<|bR<|pd 2 [] .eM .bI [.ll] .e)
abbrev Br:SF:=(sIf (tE (.be .u .o)) (ax (Ko 2 V1<|au mD .gm)
  (Ko 2 V2<|rH<|bG 2 [1] (dA<|au eU .gm) .bI .ns .d)) bh)
/---/def sG:Fn:=bB 2 5 (ax .lz
  (ax .vf
  (ax (fE (IZ .d) .jM Br)
  .gH)))
/---/def dz:Fn:=.dt (aS<|au bC<|ad .d<|ad .z<|ad (ag gy .dH .o) am)
/---/def dq:Fn:=.dt (.aA<|dZ<|tE<|.cV dz)
/---/def nQ:Fn:=bB 4 6 (ax .um
  (ax (ed<|au dq .cl)
  (ax (.aA<|tE<|.cf .g)
  (ax (.bs<|cZ .zN)
  (ax (.bt<|bR<|bG 1 [4] (dA .l6) .G .nc .e)
  (ax (sIf .zu .zg bh)
  (aS<|au gS<|ad .dH<|ad .H<|ad (au eW .ad)<|ad .eM am)))))))
/---/def nR:Fn:=bB 3 4 (ax .um
  (ax (.a0<|au eW .ad)
  (ax (jX .h .d .g)
  (aS<|au gS<|ad .dH<|ad .l6<|ad .h<|ad .eM am))))
/---/def lq:Fn:=bB 3 4 (ax .um
  (ax (.a0 .eM)
  (ax (jX .h .d .g)
  (aS<|au gS<|ad .dH<|ad .l6<|ad (au eW .ad) .c4))))
/---/def eC:Fn:=.dt (aS<|fT<|iy (tE<|.cV dz)<|tE<|ag oNe (.cV ia) .z)
/---/def gj:Fn:=bB 2 2 (ax (.fX .lc)
  (ax (.fX .x6)
  (aS<|rJ<|bG 1 [1] (cr<|ag gy .c5 .o) .G []<|ag oLt .fl .sR)))
/---/def sH:Fn:=bB 2 2 (ax (.aA<|dZ<|tE<|.cV gj)
  (aS<|fg<|pd 2 [1] .eM .bI []<|fIf .rK .o .z))
/---/def iV:Fn:=bB 2 5 (ax (.ap .z6)
  (ax (.a0 .kW)
  (ax (.bs .u4)
  (ax (sIf (tE .sv) .xj bh)
  (ax (sIf (tE .B5) (aS<|cZ<|ad (fC<|.str [110,111,116])<|ad (eA .u (pAt .cH) pNo) am) bh)
  (aS<|cZ<|ad (fC<|.str .hu)<|ad (eA .u pNo<|pAt .cH) am))))))
abbrev gH:SF:=(ed<|kx .H<|bG 1 [6] (fj .h (.a3 .u .o)) .G []<|ag oQ .d<|cZ .ad)
abbrev jb:SF:=(ax .uV
  (ax (fE (dA .g) .a8 gH)
  (.ap .H)))
/---/def fO:Fn:=bB 2 7 (ax (.ap<|bR<|ad (cZ am) am)
  (ax (se .e .d .jM jb)
  .gH))
/---/def eX:Fn:=bB 1 1 (ax (.aA .ym)
  (aS .y7))
/---/def sI:Fn:=.du (aS<|bR<|bG 1 [0] (dA<|au eX .ad) .G .AC .e)
abbrev E8:SF:=(ax (.a0<|au cN .cl)
  (sIf (iy (tE .uG)<|tE .sT) (ed<|jY .d<|cZ<|ad .g .c4) bh))
/---/def sJ:Fn:=bB 1 4 (ax (.dW .a6)
  (ax (fE (dA<|au eX .ad) .fk E8)
  (aS .d)))
/---/def nS:Fn:=bB 1 3 (ax (.dW .dH)
  (ax (.ap .xX)
  (ax (ed<|kx .g<|bG 3 [] (dA .l6) (gT [0,1,2]) []<|fFs .wQ)
  (ax (ed .w3)
  (ax (ed<|kx .g<|.e2 (dA .eM)<|fIf .iO .fg .zs)
  (aS .oR))))))
/---/def fv:Fn:=bB 1 2 (ax (.dW .xA)
  (ax (.fX .xB)
  (ax (.fX<|dZ<|tE<|rJ<|.e2 (zQ .d)<|ag Kt .e<|fC<|.str .sp)
  (aS .wK))))
/---/def cB:Fn:=bB 2 3 (ax (.ap<|bR<|oS 32 .d)
  (ax (sIf .ws (aS .a6) bh)
  (aS .xO)))
/---/def jP:Fn:=bB 1 2 (ax (.dW<|au cB<|ad (fC<|.str .sN)<|ad .aX am)
  (ax (.aA .wB)
  (aS .k9)))
/---/def gr:Fn:=.dt (aS<|fT<|iy (tE<|ag oLt .k9 .lN)<|tOr (tE .ug) .xq)
abbrev ii:SF:=(ax (sIf .rW Qu bh)
  (ax (.bs .xF)
  (ax (.aA .wS)
  (ed (jY .g .u)))))
/---/def jQ:Fn:=bB 2 5 (ax (.ap .a6)
  (ax (fE (fj .o .fu) .cq ii)
  .gH))
/---/def iW:Fn:=bB 2 2 (ax (.aA .Dw)
  (aS .u6))
abbrev sK:SF:=(ax (.bt .yC)
  (ax (.aA .Du)
  (ed<|EG .h .H)))
/---/def jR:Fn:=bB 3 6 (ax .uW
  (ax (fE (fj .d .oL) .gk sK)
  (aS .h)))
abbrev qx:SF:=(ax (.bt<|au iW .iY)
  (ax (.aA<|tE<|xa .ha .H)
  (ed<|jY .h<|B6 .ha .H)))
/---/def jc:Fn:=bB 3 6 (ax .uW
  (ax (fE (fj .d .oL) .gk qx)
  (aS .h)))
/---/def nT:Fn:=bB 1 7 (ax (.aA .s6)
  (ax (.dW<|bR<|oS 10 .e)
  (ax (.ap<|au jP .fe)
  (ax (.a0<|au jQ<|ad .d .d2)
  (ax (.bs .AU)
  (ax (.bt .zd)
  (ax (aD .a8 .Bx)
  (ax (.aA .C6)
  (aS .yQ)))))))))
/---/def cS:Fn:=.du .zp
/---/def kb:Fn:=bB 2 3 (ax (.aA<|tOr (dZ<|tE<|i3 .str .d)<|dZ<|tE<|rJ .yG)
  (ax (.ap<|fg .Ae)
  (ax (ed<|au bY .cl)
  .gH)))
/---/def eD:Fn:=.dt (D5 .e<|au nT .fe)
/---/def kE:Fn:=bB 1 1 (ax (.aA .s6)
  (aS<|bR<|oS 32 .e))
/---/def gW:Fn:=bB 3 3 (ax (sIf .Aj (aS<|au kb .cl) bh)
  (aS<|fIf .D2 .aV<|oq .g))
/---/def fw:Fn:=bB 2 2 (ax (sIf .qY (aS<|fC .dz) bh)
  (aS<|au fv .fe))
abbrev sM:SF:=(.aA<|iy (tE<|.be .h<|fC<|.str .iU)<|dZ<|tE<|au dz<|.cB<|ad (oq .u) am)
abbrev sN:SF:=(.aA<|dZ<|tE<|au fw<|ad .h (ad .u am))
/---/def fV:Fn:=bB 3 5 (ax (se .d .g .jM sN)
  (ax (se .d .g .jM sM)
  (aS<|bR<|jw 2 [0] .d .g .bI []<|au gW .hR)))
/---/def iJ:Fn:=bB 1 5 (ax (.dW .aX)
  (ax (.ap .cn)
  (ax (.a0 .AV)
  (ax (.bs .A5)
  (ax .wn
  .wt)))))
/---/def gc:Fn:=bB 3 3 (ax (sIf (tE<|.cf<|fC<|.str .hu) (aS<|au cS<|ad (au CN .tm) am) bh)
  (ax (sIf (tE<|.cf<|fC<|.str .nL) (aS<|c9<|au sG .tm) bh)
  (ax (sIf (tE<|.cf<|fC<|.str .nM) (aS<|au cS<|ad (au pD .m6) am) bh)
  (ax (sIf (tE<|.cf<|fC<|.str .oV) (aS<|au cS<|ad (au E1 .m6) am) bh)
  (aS<|au iJ<|ad (au iH .tm) am)))))
/---/def gm:Fn:=bB 2 2 (ax (sIf (tE<|.cf .oa) (aS<|au nS .ad) bh)
  (ax (sIf (tE<|.cf<|fC<|.str .i8) (aS<|au cS<|ad (au fu .ad) am) bh)
  (ax (sIf (tE<|.cf<|fC<|.str .iL) (aS<|au cS<|ad (au dJ .ad) am) bh)
  (ax (sIf (tE<|.cf<|fC<|.str .i2) (aS<|c9<|cC<|lOf<|au sI .ad) bh)
  (ax (sIf (tE<|.cf<|fC<|.str .i7) (aS<|c9<|cC<|lOf<|au sJ .ad) bh)
  fz)))))
/---/def mL:Fn:=bB 3 3 (ax (sIf (tE<|.cf .uk) (aS<|fIf .yj (fC<|.str .hJ)<|fC<|.str .jR) bh)
  (ax (sIf (tE<|N7<|EH ja .d) (aS<|.cV gm) bh)
  (aS<|au gc .rG)))
/---/def ij:Fn:=bB 1 1 (ax (sIf (tE<|.be .aX .uk) (aS<|fg<|.e2 (dA<|eA .e (pAt .o) pNo)<|fC<|.str .iU) bh)
  (ax (.aA<|tE<|Hj ja .aX)
  (ax (.aA<|tE<|ag oNe (ag gy .fu .o)<|N5<|EH ja .aX)
  (aS<|EH ja .aX))))
/---/def jL:Fn:=bB 3 3 (ax (sIf (tE<|.cf<|fC<|.str .gg) (aS<|au nQ<|.cB<|ad .hp<|ad .kW<|ad .u4 am) bh)
  (ax (sIf (tE<|.cf<|fC<|.str .hF) (aS<|au nR .m6) bh)
  (aS<|au lq .m6)))
/---/def bp:Fn:=bB 2 4 (ax .DQ
  (ax .wY
  (ax (sIf (tE<|ag oIn .hp .q3) (ax (D5 .e<|au jL .By)
  (aS<|fC<|.str .md)) bh)
  (aS<|au mL .By))))
abbrev lA:SF:=(sIf (tE<|ag nn .g .aV) (ed<|kx .h<|ad (ag oQ .u<|cZ .jc)<|ad (ag oQ .u<|cZ .gd) am)<|ed<|jY .h (ag oQ .u<|cZ .d2))
abbrev vY:SF:=(ax .uW
  (ax (fE (dA .d) .gk lA)
  (.dW .h)))
/---/def ge:Fn:=bB 1 5 (ax (.dW<|bR<|ad (cZ am) am)
  (ax (fE (dA .cI) .fk vY)
  (aS .d)))
abbrev nU:SF:=(ax (.a0<|au dm<|.cB .n4)
  (ax (sIf (tE<|.be .h .f5) .gH bh)
  (ed<|jY .g .h)))
/---/def jB:Fn:=bB 2 4 (ax (.ap .Av)
  (t8 (tE<|fC .dz) nU))
/---/def iC:Fn:=.du (aS<|bR<|bG 1 [0] (cr .hD) .G [(tE<|ag oNe .s5 .z)] .e)
/---/def iD:Fn:=bB 2 4 (ax (.ap<|au fS<|.cB<|ad (bR .yB) am)
  (ax (.a0<|au jB .cl)
  (aS<|fT<|iy (tE .sU)<|tE .sL)))
abbrev uC:SF:=(ed<|jY .g<|fIx .yp<|qG<|ag jH .L .aV)
abbrev Bs:SF:=(ax (.bt (fAt (fAt .aX .h) .u))
  (sIf (tE<|ag oGt .H .z) (ed<|jY .g<|lI [32] .xr) bh))
abbrev uD:SF:=(fE (fj (.a3 .h .o) .d) .gk Bs)
/---/def gX:Fn:=bB 1 7 (ax (.dW .hD)
  (ax (.ap .yX)
  (ax (fE (cr .d) .cq uD)
  (ax (.ap .De)
  (ax (fE (dA .cI) .a8 uC)
  (aS .oR))))))
/---/def bJ:Fn:=.du .zp
/---/def gu:Fn:=.du (aS<|bR<|bG 1 [0] (dA .pq) .G [(tE .Cs)] .e)
/---/def jd:Fn:=bB 2 4 (ax (.ap<|.cV jB)
  (ax (.a0<|c9 .tl)
  (ax (sIf (tE<|.be (.fa .cH) .f5) (aS<|.bR .zw<|au bJ<|ad .f5 am) bh)
  (aS<|.bR .wC<|au bJ .n4))))
abbrev vZ:SF:=(sIf (tE<|.be .u5 .o) (ax (.bs<|rH .zY)
  (.ap (ag gy (.a3 .g<|fAt .cn .h) .u))) bh)
/---/def jC:Fn:=bB 2 5 (ax .vf
  (ax (fE (cr .c5) .cq vZ)
  .gH))
abbrev yI:SF:=(ax (.fc .rj)
  (ax .Bq
  (sIf (iy .w5 .w6) (sIf .wp (.bt .L) bh) bh)))
/---/def qe:Fn:=bB 4 8 (ax (.bs .l5)
  (ax (.bt .aV)
  (ax (fE (dA .u) .a8 yI)
  (aS .H))))
abbrev yJ:SF:=(ax (aD .a8<|au dm<|.cB<|ad .H am)
  (.bs (.a3 .u<|qG<|fT<|iy .s4 .rN)))
/---/def iX:Fn:=bB 2 7 (ax (.ap .lB)
  (ax (.a0 .l5)
  (ax (sIf .n1 .zA bh)
  (ax (sIf .n0 (aS<|cZ<|ad (fIx (ad (fC<|.str .i8)<|ad (fC<|.str .iL) am) .of)<|ad (au bJ .Dh) am) bh)
  (ax (sIf .D1 (aS<|cZ<|ad (fC<|.str .i2)<|ad (c9 .hl) am) bh)
  (ax (.bs .z)
  (ax (fE (dA .pq) .iT yJ)
  (aS<|cZ<|ad (fC<|.str .i7)<|ad (c9 (ag ek .u .J)) am))))))))
/---/def d7:Fn:=bB 2 9 (ax (.ap .lB)
  (ax (.a0 .pq)
  (ax (.bs .zy)
  (ax (sIf .n1 (aS<|cZ<|ad (.bR (fC<|.str .oc) .oe)<|ad (au bJ<|ad (au dm .iY) am) am) bh)
  (ax (sIf .D0 (aS<|cZ<|ad (.bR (fC<|.str .CC) .oe)<|ad (au jd .iY) am) bh)
  (ax (sIf .DZ (aS<|cZ<|ad (.bR (fC<|.str .nE) .oe)<|ad (c9<|au jC .iY) am) bh)
  (ax (.bt .l5)
  (ax (aD .a8 .zt)
  (ax (.fc .yA)
  (ax (.cZ .we)
  (aS<|cZ<|ad .bz<|ad (au bJ<|ad (au qe<|.cB<|ad .L<|ad .ay<|ad (ag gy .g .a5) am) am) am)))))))))))
/---/def ik:Fn:=bB 2 4 (ax (.ap .yW)
  (ax (.a0<|lI [32]<|vJ (bR<|ad .uk am)<|bR .sj)
  (aS<|cZ<|ad .h<|ad (fIx .yo<|qG<|au iD .cl) am)))
/---/def jS:Fn:=bB 2 7 (ax (.ap .hD)
  (ax (.a0<|.aH .d .a5)
  (ax (.bs .BO)
  (ax (.bt .zM)
  (ax (aD .a8 .BN)
  (ax (sIf .rL (ax .xy
  (ax (jX (fAt .aX .H) .u .q9)
  .wh)) bh)
  (ax (sIf .nG (ax (jX .cn .u<|fIx .mR .st)
  .ww) bh)
  (ax (jX .cI .u<|fIx .ni .kT)
  .wg))))))))
/---/def d8:Fn:=bB 2 4 (ax (.ap<|.aH .d .bp)
  (ax (.a0 .wP)
  (ax (sIf .n1 (aS<|cZ<|ad (.bR (fC<|.str .oc)<|au bJ .c4)<|ad (au bJ<|ad (au dm .gm) am) am) bh)
  (ax (sIf .D0 (aS<|cZ<|ad (.bR (fC<|.str .nE)<|au bJ .c4)<|ad (c9<|au jC .gm) am) bh)
  (ax (sIf .DZ (aS<|au ik<|.cB<|ad (ag ek .d .bp) am) bh)
  .zA)))))
abbrev OC:SF:=(.dW<|au mJ<|.cB<|ad (fIx .zn<|qG .q5) am)
abbrev OD:SF:=(.ap<|ag oGt (cC<|lOf .lN)<|fC<|.int 6)
abbrev OE:SF:=(.a0<|au gX .fe)
abbrev OG:SF:=(.bs<|Mx eD .c4)
abbrev OH:SF:=(.bt<|Mx eD .c4)
abbrev Hz:SF:=(ax (.fc .Bl)
  (ax (.cZ<|ag ek .ay .bp)
  (ax .wb
  .t9)))
abbrev Vc:SF:=(fE (fj .bp<|fC<|.int 18) .a8 Hz)
abbrev OI:SF:=(aS<|fT<|iy (tE<|.be (nt bp .u<|ad .oa am)<|au gX .fe)<|tE<|.be (nt bp .H<|ad .oa am) .h)
/---/def E9:Fn:=bB 1 11 (ax OC<|ax OD<|ax OE<|ax OG<|ax OH<|ax Vc OI)
end Fm
set_option maxHeartbeats 4000000
namespace Fm
open PySem PySem.Spec L2
section
abbrev ce(i:Nat):Stmt := PySem.Challenge.pw_followmost_k52_desk_rows_answered.main.body.getD i (.Pass ⟨0, 0, 0, 0⟩)
abbrev yK:Stmt:=ce 10
abbrev sO:Stmt:=ce 11
abbrev sQ:Stmt:=ce 12
abbrev Fc:Stmt:=ce 27
abbrev nV:Stmt:=ce 26
abbrev v5:Stmt:=ce 28
abbrev sS:Stmt:=ce 29
abbrev Fd:Stmt:=ce 16
abbrev Bt:Stmt:=ce 17
abbrev Bu:Stmt:=ce 18
abbrev Fe:Stmt:=ce 19
abbrev Bv:Stmt:=ce 20
abbrev Bw:Stmt:=ce 21
abbrev yL:Stmt:=ce 22
abbrev Bx:Stmt:=ce 23
abbrev OJ:Stmt:=ce 31
abbrev qy:Stmt:=ce 33
abbrev yM:Stmt:=ce 57
abbrev v6:Stmt:=ce 24
abbrev v7:Stmt:=ce 25
abbrev By:Stmt:=ce 34
abbrev Bz:Stmt:=ce 35
abbrev BA:Stmt:=ce 36
abbrev OK:Stmt:=ce 32
abbrev pF:Stmt:=ce 41
abbrev rm:Stmt:=ce 38
abbrev yN:Stmt:=ce 39
abbrev wa:Stmt:=ce 40
abbrev JS:Stmt:=ce 43
abbrev ou:Stmt:=ce 48
abbrev ow:Stmt:=ce 47
abbrev JT:Stmt:=ce 45
abbrev wc:Stmt:=ce 46
abbrev BB:Stmt:=ce 58
abbrev Fg:Stmt:=ce 69
abbrev pG:Stmt:=ce 68
abbrev sT:Stmt:=ce 61
abbrev oy:Stmt:=ce 62
abbrev mM:Stmt:=ce 71
abbrev oz:Stmt:=ce 70
abbrev JU:Stmt:=ce 63
abbrev JV:Stmt:=ce 64
abbrev qz:Stmt:=ce 67
abbrev Fh:Stmt:=ce 65
abbrev Tk:Stmt:=ce 66
abbrev yO:Stmt:=ce 76
abbrev we:Stmt:=ce 80
abbrev mN:Stmt:=ce 87
abbrev wf:Stmt:=ce 81
abbrev qA:Stmt:=ce 83
abbrev wg:Stmt:=ce 82
abbrev BC:Stmt:=ce 86
abbrev wj:Stmt:=ce 84
abbrev sU:Stmt:=ce 85
abbrev yP:Stmt:=ce 77
abbrev sV:Stmt:=ce 78
abbrev sW:Stmt:=ce 79
abbrev eZ:Stmt:=inS (ce 90) 0
abbrev yQ:Stmt:=ce 91
abbrev yR:Stmt:=ce 95
abbrev sX:Stmt:=ce 94
abbrev wm:Stmt:=ce 93
abbrev oA:Stmt:=ce 101
abbrev kF:Stmt:=ce 100
abbrev oC:Stmt:=ce 98
abbrev Fk:Stmt:=ce 97
abbrev BD:Stmt:=ce 92
abbrev qB:Stmt:=ce 96
abbrev jD:Stmt:=inS (ce 90) 1
abbrev wn:Stmt:=ce 103
abbrev yS:Stmt:=ce 104
abbrev nW:Stmt:=ce 105
abbrev wq:Stmt:=ce 107
abbrev pH:Stmt:=ce 108
abbrev sY:Stmt:=ce 109
abbrev qC:Stmt:=ce 110
abbrev sZ:Stmt:=ce 111
abbrev mO:Stmt:=ce 112
abbrev mP:Stmt:=ce 113
abbrev wu:Stmt:=ce 114
abbrev tf:Stmt:=ce 115
abbrev tm:Stmt:=ce 116
abbrev oE:Stmt:=ce 117
abbrev qD:Stmt:=ce 118
abbrev tq:Stmt:=ce 119
abbrev tu:Stmt:=ce 120
abbrev mQ:Stmt:=ce 121
abbrev nX:Stmt:=ce 122
abbrev pI:Stmt:=ce 123
abbrev mS:Stmt:=ce 124
abbrev BE:Stmt:=ce 125
variable{P:N3}{w:N6}{K:ZX}{mg:.aw}{base:Heap}{f:Addr}{fd:.gU}
def Fl(a:.eS)(b:mg "bool"=none)(c:.eT):.l "is_whole" yK 1 .me f7 1:=okd .me λd e=>(ak<|aB<|MB.me<|o4 (iA<|i6 (t:=.int) rfl a rfl c .bq .k)<|kq<|Ut<|iA<|i6 (t:=.bool) rfl a rfl b .bq .k)
def z6(a:.Ex):.l "is_between" sO 2 .CD bC 3:=okd .CD λb c=>(ak<|aB<|MB.me<|o4 (iA<|ah a b .b2)<|kq<|iA<|Nl S9 S9 qp qp .p .k .q)
def z7(a:.h6):.l "is_opinion" sQ 3 .me d6 1:=okd .me λb c=>(ak<|aB<|ah a b<|.dv .lZ)
def Lo(g:.as)(e:.eS)(i:.cv){h:Tok}(d:mg "MOST_WEIGHT"=some (.int 400 h))(b:.h6):.l "is_tie" Fc 3 ["many","thing"] kB 2:=okd ["many","thing","one","other"] λa c=>(af (.e3<|MW.mt<|mB (c7<|cH<|i6 (t:=.tuple) rfl e rfl i .bq .p)<|.dn<|aQ (gB c) jo (.im g) ao .w)
  (af (ay .fA)
  (af (ay .fA)
  (af (.e3<|MW.mt<|mB (c7<|cH<|.bv<|ae .q .Ax)<|.dn<|c7<|cH<|.bv<|ae .y .Ax)
  (ak<|aB<|MB.me<|o4 (iA<|eK (gB c) jo .q .y .w)<|kq<|iA<|.bv<|ae .fA .B7)))))
def z8:gF ["many","ties","near","tie","one","other"] ["many","ties"] (bO nV):=fsc
def z9(g:.bC)(d:.eS)(b:.j8)(e:.EB):.l "neighbours" nV 4 ["many","ties"] j9 2:=okd ["many","ties","near","tie","one","other"] λc a=>(af (.aL<|c7<|cH<|.qL d b)
  (af (pX (i:=2) z8.nd rfl lc (own:=["person"]) (capn:=[]) (caps:=[]) rfl .jo (dC rfl g .k)
   (λj C s H h=>⟨aA,cx,Re⟩))
  (af (eG Z0 rfl (dh .p) aA (af (.aL<|c7<|cH<|ah e c .gq)
  (af (ay .jm)
  (af (ay .jm)
  (af (.aL<|aQ (UP .t1) UQ .T (aI .q .W .r) rfl)
  (af (Js .t1 .jm (aI .q .W .r) .T)
  (ak<|Js .t1 .jm (aI .q .T .r) .W)))))))
  .hN)))
def CU(i:.cv)(d:.ka)(a:.as)(e:.eS)(b:.j8)(g:.Ex):.l "bars_told" v5 2 ["near","bars"] k8 2:=okd ["near","bars"] λc h=>(af (.aL .tn)
  (af (.aL<|MW.mt<|mB (c7<|cH<|.qL e b)<|.dn<|aQ (gB h) jo (.im a) .tF .w)
  (af (.aL<|c7<|cH<|qN rfl rfl d<|eB<|ee ["bar"] (dh .p) ⟨aA,cx,(ah g c .b2)⟩)
  (ak<|aB<|fY rfl i .nY))))
def Aa(a:.cv)(e:.ka)(i:.as)(g:.eS)(b:.j8)(h:.bC)(d:.Es):.l "stays_told" sS 4 ["many","stays"] ka 2:=okd ["many","stays"] λc j=>(af (bc .tn (ak<|aB<|fY rfl a<|eB<|ee ["person"] (dC rfl h .k) ⟨aA,cx,eF⟩) aG)
  (af (.aL<|MW.mt<|mB (c7<|cH<|.qL g b)<|.dn<|aQ (gB j) jo (.im i) .k .w)
  (af (.aL<|c7<|cH<|qN rfl rfl e<|eB<|ee ["stay"] (dh .p) ⟨aA,cx,(MB.me<|Nk (iA<|eK oU o3 .k eF .w)<|kq<|iA<|ah d c .b2)⟩)
  (ak<|aB<|fY rfl a .nY))))
def Lp(b:.cv)(e:mg "sorted"=none){h:Tok}(d:mg "MOST_PEOPLE"=some (.int 30 h))(c:.K "stays_told" 4 2 ka)(g:.K "bars_told" 2 2 k8)(j:.K "neighbours" 4 2 j9)(i:.h6):.l "web_of" Fd 5 ["many","ties","bars","stays"] gS 4:=okd ["many","ties","bars","stays","near","rows"] λa k=>(af (.aL<|c7<|cH<|ah i a<|.dv .B7)
  (af (ay<|ah j a .cF)
  (af (ay<|fY rfl b<|eB<|ee ["row"] (dh .W) ⟨aA,cx,(fY rfl b<|eB<|NP rfl rfl e .k)⟩)
  (ak<|aB<|cQ<|ae .T<|ae (ah g a<|ae .W .ez)<|ae (ah c a .gq) aj))))
def HA(a:.as):.l "many_of" Bt 1 .a7 bS 1:=okd .a7 λb c=>(ak<|aB<|.kt a)
def HB:.l "ties_of" Bu 1 .jf eU 2:=okd .jf λa b=>.sK
def Lq:.l "bar_of" Fe 1 .jf mD 2:=okd .jf λa b=>.sK
def HC:.l "stay_of" Bv 1 .jf ia 2:=okd .jf λa b=>.sK
def HD(a:.j8):.l "bars_of" Bw 1 .a7 eW 1:=okd .a7 λb c=>.A6
def Fo(a:.j8):.l "stays_of" yL 1 .a7 bK 1:=okd .a7 λb c=>.A6
def HE(a:.p2)(b:.h7):.l "free_of" Bx 2 .a7 mK 1:=okd .a7 λc g=>(ak (aB (cE (EJ (own:=["person","stay"]) (capn:=[]) (caps:=[]) rfl .jo (EE rfl a<|ah b c .b2)
   (λe C s H d=>⟨.bF,(jI .tn),.k⟩)))))
def RN(d:.p2)(i:.as)(h:.eS)(j:.cv)(c:.vx)(g:.Es)(e:.gM):.l "fits" OJ 4 .ea CM 2:=okd ["web","thing","person","opinion","stay"] λa b=>(af (.e3<|MW.mt<|mB (c7<|cH<|i6 (t:=.tuple) rfl h rfl j .bq .p)<|.dn<|.mH (.im i) .fE)
  (af (eG Z0 rfl (Jn rfl d .p) .bF (af (.e3<|c7<|cH<|ah g a .fr)
  (af (ay .lO)
  (ak<|.e3<|MW.mt<|qJ (aQ rM mz .W eF .w)<|fK (.mH .y .W) .aY))))
  .rB))
def yT(a:.K "fits" 4 2 CM):.l "check_stand" qy 5 .ea bY 2:=okd .ea λb c=>.zv
def BF:gF ["web","stand","total","person","opinion"] .dD (bO yM):=fsc
def Lr(c:.p2)(e:.mA)(h:.vw)(d:.EC)(g:.j3):.l "weight" yM 6 .dD sG 2:=okd ["web","stand","total","person","opinion"] λa b=>(af (cw<|ah g a .cF)
  (af (ay ao)
  (af (eG Z0 rfl (Jn rfl c .p) .bF (ak (bc (aQ .ef bT .W ao .w) (af (No (i:=2) BF.nd rfl lc (.ch .gq) QI nB)
  (ak (No (i:=2) BF.nd rfl lc (xU rfl rfl e (eB (fF (own:=["other", "heft"]) (capn:=.jS) (caps:=[1]) rfl .b1 (dh<|ah h a .gq)
   (λk C s H j=>⟨.bF,(jI<|aQ .ef bT .up ao .w),.p⟩)))) QJ nB))) aG)))
  .hN)))
def CV(c:.bC)(b:.gM)(d:.vw):.l "ties_once" v6 2 .a7 dy 1:=okd ["web","ties","one"] λa h=>(af .eR
  (af (eG Z0 rfl (dC rfl c .jv) aA (ak (cw (p0 .p (fF (own:=["other", "weight"]) (capn:=["one"]) (caps:=[2]) rfl .b1 (dh<|.ch .f6)
   (λg C s H e=>⟨.bF,(jI<|aQ xM qp .q .k .w),(cQ<|ae .q .cF)⟩))))))
  .u7))
def CW(b:.h6)(c:.gM):.l "is_person" v7 3 .ea dz 2:=okd .ea λa d=>(ak<|aB<|.bv<|.dw<|ae ao<|ae (.fW .fF) aj)
def HF(b:.mA)(c:.vw):.l "pull_at" By 2 .sY p8 3:=okd .sY λa d=>(ak (aB (aT iN iO ao (xU rfl rfl b (eB (fF (own:=["other","weight"]) (capn:=.jS) (caps:=[1]) rfl .b1 (dh .lO)
   (λg C s H e=>⟨.bF,(jI<|.gZ .up ao),.p⟩)))))))
def HG(c:.EC)(d:.K "pull_at" 2 3 p8)(b:.vx):.l "next_at" Bz 3 .sY ki 3:=okd ["web","stand","person","stay","strength","bar"] λa e=>(af .tY
  (af (bc (aQ rM mz .y eF .w) .u8 aG)
  (af (ay<|.ch .nV)
  (af (ay .lO)
  (af (bc (aQ (bq e) bT .W .T .w) (ak<|aB<|aI .p .q .r) aG)
  (ak<|aB<|vP (aQ xN qp .W .T .w) ao ao))))))
def HI(e:.cv)(c:.bC)(b:.gM)(d:.K "next_at" 3 3 ki):.l "turn_at" BA 4 .dD cN 2:=okd .dD λa i=>(ak (aB (fY rfl e (eB (fF (own:=["person"]) (capn:=.dD) (caps:=[0,1]) rfl (cA.a .rs) (dC rfl c .jv)
   (λh C s H g=>⟨aA,cx,(.ch<|.dw<|ae .q .b2)⟩))))))
def RO(b:.mp)(c:.j3):.l "turn" OK 6 .dD CN 2:=okd .dD λa d=>(af (cw .ju)
  (ak<|aB .jw))
def wE(a:.vu):.l "check_person" pF 4 .ea dq 2:=okd .ea λb c=>.zv
def Fp:gF ["web","one","other","weight","pair","ties"] .AY (bO rm):=fsc
def Fq(k:mg "max"=none)(m:mg "min"=none)(l:.pL)(j:.h7)(e:.pK)(d:.gM)(g:.h6)(h:.pJ)(c:.vq):.l "with_tie" rm 6 .AY nQ 4:=okd ["web","one","other","weight","pair","ties"] λa b=>(af (cw .ju)
  (af (cw .lO)
  (af (.aL<|.dj .q)
  (af (ay<|cQ<|ae (NZ rfl rfl m .p .q)<|ae (Hg rfl rfl k .p .q) aj)
  (af (pX (i:=5) Fp.nd rfl lc (own:=["tie"]) (capn:=["pair"]) (caps:=[4]) rfl .b1 (dh<|.dV h)
   (λn C s H o=>⟨aA,(jI<|.mH (jO .k o6<|o7 ao) .p),.k⟩))
  (af (bc (c7<|cH<|ah g a<|ae .y .lZ) (ak<|cw<|ju .T<|cQ<|.dw<|ae .q .fr) aG)
  (ak<|aB<|ah l a<|ae (.dV d)<|ae .T<|ae .fE<|ae (.dV j) aj)))))))
def Ft(h:.pL)(c:.h7)(b:.pJ)(e:.gM)(g:.pK)(d:.vq):.l "with_bar" yN 6 ["web","person","bar"] nR 3:=okd ["web","person","bar","bars"] λa i=>(af (cw<|.ch .cF)
  (af (ay .pc)
  (af (lM .q .y .p)
  (ak<|aB<|ah h a<|ae .fE<|ae .jv<|ae .y<|ae .fF aj))))
def CY(h:.pL)(g:.pK)(b:.pJ)(e:.gM)(c:.h7)(d:.vq):.l "with_stay" wa 6 ["web","person","stay"] lq 3:=okd ["web","person","stay","stays"] λa i=>(af (cw<|.ch .cF)
  (af (ay .fF)
  (af (lM .q .y .p)
  (ak<|aB<|ah h a<|ae .fE<|ae .jv<|ae .pc .fr))))
def OL(d:.as)(b:.mp)(e:.j3):.l "ended" JS 6 .dD iH 2:=okd ["web","stand","stands","later","word"] λa c=>(af (cw<|.cW .cF)
  (af (ay<|cE<|.ci<|.dw<|ae .jw aj)
  (af (ay<|.bv .n3)
  (af (Eo Z0 (aQ (gB c) jo .y .gi .w) (af (cw<|ju .q .y)
  (ak<|ay<|.bv .gq)))
  (af (ay<|vP (.mK .gi .gi) (.P .f8)<|.P .iP)
  (ak<|aB<|cQ<|ae (.fW<|cK rfl d<|cT .q)<|ae .W .ez))))))
def uE(b:.vx)(c:.vu):.l "may_be_chosen" ou 4 .ea eC 2:=okd .ea λa d=>(ak<|aB<|MB.me<|o4 (iA .ju)<|kq<|iA<|eK (gB d) jo .jw ao .w)
def uF(a:.ka)(g:.bC)(j:.as)(i:.eS)(c:.j8)(b:.K "may_be_chosen" 4 2 eC):.l "are_choosable" ow 5 .ea gj 2:=okd .ea λd k=>(af (.e3<|c7<|cH<|.qL i c)
  (af (bc (c7 (cH (qN rfl rfl a (eB (fF (own:=["person"]) (capn:=.a7) (caps:=[0]) rfl .b1 (dh .p)
   (λe C s H h=>⟨aA,cx,(ah b d<|.dw .b2)⟩)))))) .rB aG)
  (ak (aB (qN rfl rfl a (eB (fF (own:=["place"]) (capn:=.me) (caps:=[1]) rfl .b1 (dC rfl g<|.fW<|.im j)
   (λe C s H h=>⟨aA,cx,(eK xM qp .oH (aI .p (.dl .k ao) .r) .w)⟩))))))))
def OM(g:.cv)(b:.p2)(c:.h7)(d:.K "are_choosable" 5 2 gj):.l "begun" JT 6 .uK sH 2:=okd .uK λa e=>(af (.aL<|c7<|cH<|.ch .cF)
  (ak (aB (fY rfl g (eB (EJ (own:=["person", "stay"]) (capn:=["some"]) (caps:=[1]) rfl .b1 (EE rfl b .fF)
   (λi C s H h=>⟨.bF,cx,(vP (MW.mt<|mB (aQ mx Ew .k .q rfl)<|.dn<|aQ (bq e) bT .p ao .w) ao ao)⟩)))))))
def CZ(c:.vy)(b:.K "begun" 6 2 sH):.l "turns_all" wc 7 .uK iV 2:=okd ["web","some","end","word","stands"] λa d=>(af (ay<|ah c a<|.dv<|ae .jw aj)
  (af (ay .d4)
  (af (ay .d4)
  (af (bc (.gZ .y<|.P .iP) .xl aG)
  (af (bc (aQ mx Ew ao (aI .W d5 .r) rfl) .xl aG)
  (ak<|aB<|cQ<|ae .vd<|ae (jO .W o6<|o7 d5) aj))))))
def HJ(b:.mp)(c:.j3):.l "is_rest" BB 6 .dD mG 2:=okd .dD λa d=>(af (cw .ju)
  (ak<|aB<|eK (bq d) bT .jw .p .w))
def Ls(a:.vy):.l "end_of" Fg 7 .dD gh 2:=okd .dD λb c=>(ak<|aB<|aI (aI (ah a b .cF) ao .r) d5 .r)
def wF(c:.cv)(a:.h7):.l "stand_of_all" pG 2 ["web","opinion"] eP 2:=okd ["web","opinion"] λb g=>(ak (aB (fY rfl c (eB (fF (own:=["stay"]) (capn:=["opinion"]) (caps:=[1]) rfl .b1 (dh<|ah a b .b2)
   (λe C s H d=>⟨aA,cx,(vP (aQ oU o3 .k eF .w) .p .k)⟩))))))
def Ab(b:.pM)(c:.Ek):.l "least_rest" sT 8 .a7 fu 1:=okd .a7 λa d=>.xS
def uG(b:.pM)(c:.Ek):.l "greatest_rest" oy 8 .a7 dJ 1:=okd .a7 λa d=>.xS
def tw(a:.qm)(b:.bC):.l "stands_between" mM 1 ["low","high"] fO 2:=okd ["low","high","stands","least","greatest","longer","stand"] λd g=>(af .Af
  (af (Cz Z0 rfl (p5 rfl a .k .p) .bF (af .eR
  (af (eG Z0 rfl (dh .q) aA (ak (cw (p0 .T (fF (own:=["opinion"]) (capn:=.jS) (caps:=[6]) rfl .b1 (kf rfl b .y<|.dl .W ao)
   (λe C s H c=>⟨aA,cx,(aT xi xj .p<|cQ .b2)⟩))))))
  (ak<|ay .T))))
  .hN))
def uH(g:.as){b:Tok}(i:mg "MOST_FREE"=some (.int 12 b))(d:.K "stands_between" 1 2 fO)(e:.Eh)(h:.Er)(c:.K "free_of" 2 1 mK):.l "stands_to_try" oz 9 .a7 eX 1:=okd .a7 λa j=>(af (.aL<|aQ xN qp (cK rfl g<|cT .fF) (o0 rfl i) .w)
  (ak<|aB<|.ch<|ae (.dV h)<|ae .fE aj))
def ON(b:.mp)(c:.Eg):.l "rests" JU 10 .a7 sI 1:=okd .a7 λa d=>(ak (aB (cE (fF (own:=.jS) (capn:=.a7) (caps:=[0]) rfl .b1 (dh .fF)
   (λg C s H e=>⟨aA,(jI<|.gZ (.bv<|.dw .b2) .k),.k⟩)))))
def OO(c:.Eg)(b:.mp):.l "pairs" JV 10 .a7 sJ 1:=okd ["web","found","one","other"] λa d=>(af .eR
  (af (eG Z0 rfl (dh .fF) aA (af .tY
  (ak<|bc (MW.mt<|qJ (aQ (Na a.units0) NY .q .y .w)<|fK (.gZ (.bv .gq) .q) .aY) (ak<|cw<|ju .p<|cQ<|ae .q .fr) aG)))
  .u7))
def yU(b:.K "is_rest" 6 2 mG)(c:.j3):.l "check_rests" qz 7 .i3 eJ 3:=okd .i3 λa d=>(af (cw .ju)
  (af (cw .lO)
  (ak<|.aL<|MW.mt<|mB (c7<|cH .jw)<|.dn<|c7<|cH<|.bv .f6)))
def Lu(g:.cv)(c:.qm)(d:mg "max"=none)(b:.pM)(e:.En):.l "joined" Fh 8 .i3 pD 3:=okd .i3 λa j=>(af (cw<|.cW .nV)
  (ak (aB (ah b a (ae .k (ae (fY rfl g (eB (ya (own:=["low", "high"]) (capn:=[]) (caps:=[]) rfl .jo (p5 rfl c .p .q)
   (λi C s H h=>⟨.bF,cx,(Hg rfl rfl d .k .p)⟩)))) aj))))))
def Vd(g:.cv)(d:.qm)(c:mg "min"=none)(b:.pM)(e:.En):.l "met" Tk 8 .i3 E1 3:=okd .i3 λa j=>(af (cw<|.cW .nV)
  (ak (aB (ah b a (ae .k (ae (fY rfl g (eB (ya (own:=["low", "high"]) (capn:=[]) (caps:=[]) rfl .jo (p5 rfl d .p .q)
   (λi C s H h=>⟨.bF,cx,(NZ rfl rfl c .k .p)⟩)))) aj))))))
def Fv(c:.h7)(e:.pK)(b:.pJ)(d:.gM):.l "show_web" yO 3 .a7 nS 1:=okd ["web","many","lines"] λa g=>(af (ay<|.dV d)
  (af (ay<|cE<|cz (ae (A5<|dP (.P .m7)<|dP (pi .p) ui) aj) .iE)
  (af (cw<|p0 .q<|ee ["one", "other", "weight"] (dh .jv) ⟨.Ac,cx,(A5<|dP .ve<|dP (pi .k)<|dP .da<|dP (pi .p)<|dP .da<|dP (pi .q) ui)⟩)
  (af (cw<|p0 .q<|ee ["bar"] (dh .fE) ⟨aA,cx,(A5<|dP .va<|dP (pi .k) ui)⟩)
  (af (cw<|p0 .q<|ee ["stay"] (dh .fF) ⟨aA,cx,(vP (aQ oU o3 .k eF .w) .jp<|A5<|dP (.P .iN)<|dP (pi .k) ui)⟩)
  .zL)))))
def C1(h:.ka)(i:.as){g:Tok}(c:mg "FIGURES"=some (.str .AA g)){d:Tok}(b:mg "MOST_FIGURES"=some (.int 60 d))(j:.h6):.l "is_number" we 3 ["text"] fv 1:=okd ["text","figures"] λe a=>(af (ay<|vP (cH<|A9 .k<|.P [45]) (KZ .k (o7 ao) o6) .k)
  (af (.e3<|c7<|cH<|ah j e<|ae (Rn rfl i .p) .B8)
  (af (.e3<|c7<|cH<|qN rfl rfl h<|eB<|.v9 ⟨aA,cx,(UZ .k (Oc .sp rfl rfl c) rfl)⟩)
  (ak<|aB<|MB.me<|Nk (iA<|eK (gB a) jo (UW .p ao .r) (.P [48]) .w)<|kq<|iA<|eK (bq a) bT .k (.P [48]) .w))))
def tz(b:.eT)(e:.ka)(a:.Ev):.l "numbers_behind" mN 4 ["word","line"] cB 2:=okd ["word","line","words"] λd g=>(af (ay<|cE<|yh (c:=32) rfl .p)
  (af (bc (MW.mt<|mB (aQ (gB g) jo .d4 .k .w)<|.dn<|c7<|cH<|qN rfl rfl e<|eB<|ee ["figures"] (dh .tE) ⟨aA,cx,(ah a d .b2)⟩) (ak<|aB .mP) aG)
  (ak<|aB<|cE<|ee ["figures"] (dh .tE) ⟨aA,cx,(xk rfl b .k)⟩)))
def C2(d:.as){c:Tok}(b:mg "MOST_PEOPLE"=some (.int 30 c))(e:.h6)(g:.vp):.l "read_many" wf 5 ["lines"] jP 1:=okd ["lines","numbers"] λa h=>(af (ay<|ah g a<|ae (.P .sN)<|ae .bT aj)
  (af (.aL<|MW.mt<|mB (aQ (gB h) jo (.im d) ao .w)<|.dn<|c7<|cH<|.cW<|ae .fA .B8)
  (ak<|aB .fA)))
def yV:.l "is_next_tie" qA 1 ["ties","tie"] gr 2:=okd ["ties","tie"] λa b=>(ak<|aB<|MB.me<|o4 (iA<|eK xM qp .fA .fA .w)<|kq<|Nk (iA<|eK .ef bT .k .mP .w)<|kq<|iA<|eK (Na a.units0) NY (A3 (aI .k d5 .r) o6<|o7 ao) (A3 .p o6<|o7 ao) .w)
def C3(e:.bC)(d:.as)(h:.cv)(c:.K "is_next_tie" 1 2 gr)(b:.EB)(g:.vp):.l "read_ties" wg 5 ["lines","many"] jQ 2:=okd ["lines","many","ties","place","tie"] λa i=>(af .eR
  (af (eG Z0 rfl (kf rfl e ao<|cK rfl d<|cT .k) aA (af (bc (c7<|cH<|A9 (aI .k .y .r) .ve) (ak Nn) aG)
  (af (ay<|fY rfl h<|cT<|ah g a<|ae .o1<|ae (aI .k .y .r) aj)
  (af (.aL<|MW.mt<|mB (c7<|cH<|.bv<|.dw .lb)<|.dn<|c7<|cH<|ah c a<|ae .q .lb)
  (ak<|cw<|ju .q .W)))))
  .hN))
def HK(a:.as):.l "line_at" BC 1 ["lines","place"] iW 2:=okd ["lines","place"] λc b=>(af (.aL<|.dj .tF)
  .B4)
def C4(b:.bC)(d:.as)(e:.vp)(c:.EA):.l "read_bars" wj 5 .CE jR 3:=okd ["lines","start","many","bars","place","numbers"] λa g=>(af .eR
  (af (eG Z0 rfl (kf rfl b .p<|.dl .p .q) aA (af (ay<|.cW<|ae .vb<|ae (ah c a .lP) aj)
  (af (.aL<|aQ (gB g) jo (cK rfl d<|cT .T) ao .w)
  (ak<|cw<|Rj .y .T))))
  .u8))
def Ac(e:.bC){b:Addr}(c:mg "STAYS"=some (.ref b))(a:yd K b .ha)(g:.EA):.l "read_stays" sU 2 .CE jc 3:=okd ["lines","start","many","stays","place","line"] λd h=>(af .eR
  (af (eG Z0 rfl (kf rfl e .p<|.dl .p .q) aA (af (ay<|ah g d .lP)
  (af (.aL<|K2 (T:=.ha) rfl c a .T rfl)
  (ak<|cw<|ju .y<|Od (T:=.ha) rfl c a .T))))
  .u8))
def Fw(b:.as)(g:.eS)(h:.cO)(k:.pL)(d:.K "read_stays" 2 3 jc)(e:.K "read_bars" 5 3 jR)(j:.K "read_ties" 5 2 jQ)(i:.K "read_many" 5 1 jP):.l "read_web" yP 6 ["text"] nT 1:=okd ["text","lines","many","ties","bars","stays","end"] λa l=>(af (.aL<|c7<|cH<|i6 (t:=.str) rfl g rfl h .bq .k)
  (af (ay<|cE<|yh (c:=10) rfl .k)
  (af (ay<|ah i a .f4)
  (af (ay<|ah j a<|.dw .ez)
  (af (ay<|.cW<|.dw<|ae .tZ .ez)
  (af (ay<|.ch<|.dw<|ae (.dl .tZ .q) .ez)
  (af (ay<|.dl .tZ<|.e6 ao .q)
  (af (.aL<|aQ xN qp (.im b) .bB .w)
  (ak<|aB<|ah k a<|ae .q<|ae .y<|ae .W<|ae .T aj)))))))))
def Ad(a:.cO):.l "show_stand" sV 1 .jS cS 1:=okd .jS λb c=>(ak<|aB<|Jy rfl<|eB<|ee ["opinion"] (dh .k) ⟨aA,cx,.uR⟩)
def Ae(h:.cv)(a:.eT)(d:.ka)(c:.eS)(e:.cO)(g:.j3):.l "read_stand" sW 6 ["web","text"] kb 2:=okd ["web","text","stand"] λb i=>(af (.aL<|MW.mt<|mB (c7<|cH<|i6 (t:=.str) rfl c rfl e .bq .p)<|.dn<|c7<|cH<|qN rfl rfl d<|eB<|.v9 ⟨aA,cx,(eK mx Ew .k (cQ .zx) rfl)⟩)
  (af (ay<|fY rfl h<|eB<|.v9 ⟨aA,cx,(xk rfl a .k)⟩)
  (af (cw<|ah g b .f6)
  .hN)))
def uI:gF .pf .pf (bO eZ):=fsc
def uJ(F:Fun K "__init__" "Desk.__init__" eZ f fd){C:Addr}(T:qw K C)(d:.K "read_web" 6 1 nT):.fY CX0 7 f fd .pf (spF K eD 2):=by
 refine NW F uI λc A a s H E b=>?_;have e:=UL b;exact(ak<|Jw T .k<|ah d b .f4)
def Fx(b:.eS)(a:.cO):.l "words_of" yQ 1 ["row"] kE 1:=okd ["row"] λd e=>(af (.aL<|c7<|cH<|i6 (t:=.str) rfl b rfl a .bq .k)
  (ak<|aB<|cE<|yh (c:=32) rfl .k))
def Fy(c:.eT)(b:.K "read_stand" 6 2 kb):.l "thing_of" yR 7 ["web","kind","word"] gW 3:=okd ["web","kind","word"] λd a=>(af (bc (.mI .p<|.P .k3) (ak<|aB<|ah b d .f6) aG)
  (ak<|aB<|vP (.mI .q .jp) eF<|xk rfl c .q))
def Af(b:.Ev):.l "is_written" sX 4 ["kind","word"] fw 2:=okd ["kind","word"] λc a=>(af (.e3<|MW.mt<|mB (.mI .k<|.P .k3)<|.dn<|MW.mt<|qJ (.mI .k<|.P .d9)<|fK (.mI .p .jp) .aY)
  (ak<|aB<|ah b c .f4))
def C5(a:.qm)(e:.eT)(c:.K "thing_of" 7 3 gW)(g:.vu)(d:.K "is_written" 4 2 fw):.l "things_of" wm 8 ["web","form","words"] fV 3:=okd ["web","form","words","kind","word"] λb h=>(af (Cz Z0 rfl .tO .bF<|ak<|.aL<|c7<|cH<|ah d b<|ae .y .lb)
  (af (Cz Z0 rfl .tO .bF<|ak<|.aL<|MW.mt<|qJ (aQ (bq h) bT .y (.P .iU) .w)<|fK (c7<|cH<|ah g b<|.dv<|ae (xk rfl e .W) aj) .aY)
  (ak (aB (cE (ya (own:=["kind", "word"]) (capn:=.a7) (caps:=[0]) rfl .b1 .tO
   (λj C s H i=>⟨.bF,cx,(ah c b<|ae .q .cF)⟩)))))))
def uK(a:.vs):.l "answer_of_end" oA 2 ["told"] iJ 1:=okd ["told","turns","word","one","other"] λb c=>(af (ay .bT)
  (af (ay .bT)
  (af .zZ
  (af .zZ
  (af (bc (.mK .q<|.P .f8) (ak<|aB<|A5<|dP (.P .nK)<|dP (pi .p)<|dP .da<|dP (CH .y) ui) aG)
  (ak<|aB<|A5<|dP (.P .tC)<|dP (pi .p)<|dP .da<|dP (CH .y)<|dP .da<|dP (CH .W) ui))))))
def qq(h:.cO)(k:.K "answer_of_end" 2 1 iJ)(e:.vy)(c:.vs)(j:.K "met" 8 3 E1)(d:.K "joined" 8 3 pD)(i:.K "weight" 6 2 sG)(g:.K "turn" 6 2 CN):.l "answer_of_stands" kF 9 .C2 gc 3:=okd .C2 λa b=>(af (bc (.dj .vd) (ak<|aB<|ah c a<|ae (ah g a .n3) aj) aG)
  (af (bc (.dj<|.P .nL) (ak<|aB<|dQ rfl h<|ah i a .n3) aG)
  (af (bc (.dj<|.P .nM) (ak<|aB<|ah c a<|ae (.ch .nA) aj) aG)
  (af (bc (.dj<|.P .oV) (ak<|aB<|ah c a<|ae (ah j a .nA) aj) aG)
  (ak<|aB<|ah k a<|ae (.cW .n3) aj)))))
def uL(c:.cO)(d:.as)(g:.K "pairs" 10 1 sJ)(k:.K "rests" 10 1 sI)(e:.vs)(i:.Eh)(j:.Er)(h:.K "show_web" 3 1 nS):.l "answer_of_web" oC 11 ["web","word"] gm 2:=okd ["web","word"] λa b=>(af (bc (.dj .lQ) (ak<|aB<|.dV h) aG)
  (af (bc (.dj<|.P .i8) (ak<|aB<|.cW<|ae (.dV j) aj) aG)
  (af (bc (.dj<|.P .iL) (ak<|aB<|.cW<|ae (.dV i) aj) aG)
  (af (bc (.dj<|.P .i2) (ak<|aB<|dQ rfl c<|cK rfl d<|cT<|.dV k) aG)
  (af (bc (.dj<|.P .i7) (ak<|aB<|dQ rfl c<|cK rfl d<|cT .pc) aG)
  .rw)))))
def Lv{a:Addr}(i:mg "FORMS"=some .de)(b:CF K a ja)(h:.K "answer_of_stands" 9 3 gc)(g:.K "answer_of_web" 11 2 gm)(e:.K "turns_all" 7 2 iV):.l "answer" Fk 12 .nR mL 3:=okd .nR λc d=>(af (bc (.gZ .p .vc) (ak<|aB<|vP (.gZ (aI (ah e c .f6) ao .r) .vd) (.P .hJ)<|.P .jR) aG)
  (af (bc (Rv d<|CG (T:=ja) rfl i b .p) (ak<|aB<|ah g c .cF) aG)
  (ak<|aB<|ah h c .nV)))
def HL(d:.as)(g:.cv){b:Addr}(c:mg "FORMS"=some (.ref b))(a:CF K b ja):.l "form_of" BD 1 ["words"] ij 1:=okd ["words"] λh e=>(af (bc (aQ (bq e) bT .bT .vc .w) (ak<|aB<|fY rfl g<|eB<|ee ["word"] (dh<|jO .k (o7 ao) o6) ⟨aA,cx,(.P .iU)⟩) aG)
  (af (.aL<|Oj (T:=ja) rfl c a .bT rfl)
  (af (.aL<|aQ (gB e) jo (.fW<|cK rfl d<|cT .k) (Rs rfl d .CZ) .w)
  (ak<|aB .CZ))))
def yW(d:.K "with_stay" 6 3 lq)(e:.K "with_bar" 6 3 nR)(c:.K "with_tie" 6 4 nQ):.l "changed_web" qB 7 .nR jL 3:=okd .nR λa b=>(af (bc (.dj .o1) (ak<|aB<|ah c a<|.dv<|ae .d4<|ae .d4<|ae .d4 aj) aG)
  (af (bc (.dj .vb) (ak<|aB<|.cW .nA) aG)
  (ak<|aB<|.ch .nA)))
def Fz:gF ["self","row","words","things"] .uL (bO jD):=fsc
def FA(F:Fun K "say" "Desk.say" jD f fd){C:Addr}(T:qw K C)(c:.K "answer" 12 3 mL)(d:.K "changed_web" 7 3 jL)(i:.K "things_of" 8 3 fV)(g:.K "form_of" 1 1 ij)(e:.K "words_of" 1 1 kE):.fY CX0 13 f fd .uL (spF K bp 2):=by
 refine NW F Fz λh A b s H E a => ?_;have j:=UL a;exact(af (ay<|.cW .f4)
  (af (ay<|ah i a<|ae (Cv T .k)<|ae (ah g a .ez)<|ae .tE aj)
  (af (bc (aQ mx Ew .d4 (cQ<|ae .o1<|ae .vb<|ae (.P .d9) aj) rfl) (af (Jw T .k<|.ch .A7)
  (ak<|aB<|.P .md)) aG)
  (ak<|aB<|ah c a .A7))))
def C6(a:.as):.l "_law_cell" wn 1 .CF bW 2:=okd .CF λb c=>(af (bc (aQ xM qp .p .tF .w) .B4 aG)
  (ak<|aB<|.dl (aT iN iO (.e6 ao .p) .p)<|.e6 ao .p))
def FB(b:.bC):.l "_law_row" yS 1 ["_law_cell_here","_law_way","_law_many","_law_base"] eR 4:=okd ["_law_cell_here","_law_way","_law_many","_law_base","_law_found","_law_number","_law_k"] λc a=>(af .eR
  (af (ay .k)
  (af (bc .B9 (ak<|ay<|aT cV cW (.e6 (.il .k) ao) ao) aG)
  (af (eG Z0 rfl (dC rfl b .q) aA (ak (bc .B9 (af (ay<|.il<|aT em fM (aT em fM (.dl (.e6 .T .T)<|.e6 ao .T)<|.e6 ao .bB) ao)
  (ak<|cw<|ju .W<|aT cV cW (.g2 .T) .y)) (af (cw<|ju .W<|aT cV cW .T .y)
  (ak<|ay<|aT dw fJ .T .y)))))
  (ak<|aB .W)))))
def l8:gF ["_law_script","_law_most","_law_way","_law_many","_law_tied","_law_told","_law_one","_law_other","_law_heavy","_law_levels","_law_steps","_law_holders"] .BE (bO nW):=fsc
def Ag(c:.bC)(j:.mA)(k:mg "max"=none)(d:.Ey)(b:.Ew):.l "_law_model" nW 2 .BE mJ 2:=okd ["_law_script","_law_most","_law_way","_law_many","_law_tied","_law_told","_law_one","_law_other","_law_heavy","_law_levels","_law_steps","_law_holders"] λa e=>(af (ay<|.bv .lq)
  (af (ay<|.dl ao<|aT cV cW (.g2 .q) .p)
  (af (pX (i:=4) l8.nd rfl lc (own:=.lV) (capn:=["_law_many"]) (caps:=[3]) rfl .b1 .uS
   (λh C s H g=>⟨aA,cx,(cE<|NS (cz .hw .iE) .p)⟩))
  (af (ay<|.ch<|ae (.bv .lq)<|ae .q<|ae (.e6 .y .y) .hw)
  (af (eG Z0 rfl .uS aA (ak (eG Z0 rfl (dC rfl c .bB) aA (af (ay<|Hg rfl rfl k ao<|.fW .yq)
  (af (bc .rz (ak<|ay<|kr (cz (ae ao<|ae ao<|ae ao<|ae ao<|ae ao .lZ) .w2) (.il .yq) .r) aG)
  (af (lM (mv 8) .t0<|mv 7)
  (ak<|lM (mv 8) (aI .W (mv 7) .r) .bB)))))))
  (af (pX (i:=9) l8.nd rfl lc (own:=["_law_row_here"]) (capn:=[]) (caps:=[]) rfl .jo (dh .W)
   (λh C s H g=>⟨aA,cx,(xU rfl rfl j<|cT .k)⟩))
  (af (bc .rz (af .xz
  (ak<|eG Z0 rfl .uS aA<|ak<|lM (kr (.ci<|ae (.fW<|.ku<|mv 10)<|ae (.fW<|.dl (.ku<|mv 9)<|.il<|.ku<|mv 10) aj) (.il<|.g2 .q) .r) (mv 9) .bB)) aG)
  (af (ay<|cE<|NS (cz (ae eF aj) .iE) .y)
  (af (bc .rz (af .xz
  (ak (pX (i:=11) l8.nd rfl lc (own:=["_law_number"]) (capn:=[]) (caps:=[]) rfl .jo (dh .T)
   (λh C s H g=>⟨aA,cx,(kr (cz (ae ao<|ae ao<|ae eF<|ae eF<|ae eF<|ae eF<|ae eF aj) .w2) .k .r)⟩)))) aG)
  (ak<|aB<|cQ<|ae .W<|ae (mv 9)<|ae (mv 11) aj))))))))))
def C7(d:.cv)(a:.bC)(b:.as)(c:.mA):.l "_law_turn" wq 1 .ny dm 2:=okd ["_law_model_here","_law_stand","_law_tied","_law_levels","_law_holders","_law_found","_law_one","_law_force","_law_held"] λg i=>(af (uh .k .Ac)
  (af .eR
  (af (eG Z0 rfl (dC rfl a .si) aA (af (ay (aT iN iO ao (xU rfl rfl c (eB (fF (own:=["_law_other"]) (capn:=["_law_stand", "_law_tied", "_law_one"]) (caps:=[1,2,6]) rfl .Bf (dC rfl a .si)
   (λh C s H e=>⟨aA,cx,(.e6 (aI (aI .q .y .r) .k .r) .oH)⟩))))))
  (af (ay<|.ku .p)
  (af (bc (aQ xN qp (mv 7) (.ku .y) .w) (ak<|ay ao) aG)
  (af (bc (aQ xM qp (mv 7) (.ku .y) .w) (ak<|ay ao) aG)
  (af (bc (aQ rM mz .t0 eF .w) (ak<|ay .t0) aG)
  (ak<|cw<|ju .T<|mv 8)))))))
  (ak<|aB<|fY rfl d<|cT .T))))
def wG(c:.cv)(a:.bC)(b:.as):.l "_law_fitting" pH 1 .AO fS 2:=okd ["_law_model_here","_law_some","_law_found","_law_one"] λd e=>(af .eR
  (af (eG Z0 rfl .sJ aA (af (cw<|ju .q<|aI .p .y .r)
  (ak<|bc (aQ rM mz .oG eF .w) (ak<|lM .oG .q .y) aG)))
  (ak<|aB<|fY rfl c<|cT .q)))
def Ah(a:.bC)(b:.as):.l "_law_below" sY 1 .sO ig 2:=okd .sO λe c=>(ak (aB (eK (bq c) bT (cE (fF (own:=["_law_k"]) (capn:=.sO) (caps:=[0,1]) rfl (cA.a .rs) (dC rfl a<|cK rfl b<|cT .k)
   (λg C s H d=>⟨aA,(jI<|aQ xN qp .oH .up .w),.k⟩))) .mP .w)))
def yX:.l "_law_stands" qC 1 .gh ge 1:=okd ["_law_model_here","_law_found","_law_holder","_law_longer","_law_stand"] λa b=>(af .Af
  (af (eG Z0 rfl (dh .bT) aA (af .eR
  (af (eG Z0 rfl (dh .p) aA<|ak<|bc (aQ oU o3 .q eF .w) (ak<|cw<|p0 .y<|.ci<|ae .Cu<|ae .Cu aj)<|ak<|cw<|ju .y<|aT xi xj .W<|cQ .ez)
  (ak<|ay .y))))
  .u7))
def Ai(a:.mo):.l "_law_ended" sZ 2 .ny jB 2:=okd ["_law_model_here","_law_stand","_law_stands_here","_law_later"] λb c=>(af (ay<|cE<|.ci<|.dw<|ae (ah a b .cF) aj)
  (ak (Eo Z0 (cH my) (af (ay<|ah a b<|.dv<|ae .gi aj)
  (af (bc (.mK .y .gi) .hN aG)
  (ak<|cw<|ju .q .y))))))
def tD(a:.bC)(b:.as):.l "_law_choosable" mO 1 .gh iC 1:=okd .gh λe c=>(ak (aB (cE (fF (own:=.lV) (capn:=.gh) (caps:=[0]) rfl .b1 (dC rfl a<|.kt b)
   (λg C s H d=>⟨aA,(jI<|aQ (gB c) jo (aI .fA .k .r) ao .w),.k⟩)))))
def tF(e:.bC)(g:.as)(d:.eT)(b:.Eu)(c:.El):.l "_law_turns_all" mP 3 .AO iD 2:=okd ["_law_model_here","_law_some","_law_stand","_law_stands_here"] λa j=>(af (ay (ah c a (ae .k (ae (cE (fF (own:=.lV) (capn:=["_law_some"]) (caps:=[1]) rfl .b1 (dC rfl e<|.kt g)
   (λi C s H h=>⟨aA,cx,(rW rfl d<|eK mx Ew .k .p rfl)⟩))) aj))))
  (af .tY
  (ak<|aB<|MB.me<|o4 .zJ<|kq .zJ)))
def C8(a:.cO)(c:.eT)(b:.bC)(d:.as):.l "_law_text" wu 1 .gh gX 1:=okd ["_law_model_here","_law_many","_law_lines_here","_law_one","_law_other","_law_heavy","_law_holder"] λe g=>(af (ay<|.kt d)
  (af (ay<|cE<|cz (ae (cL (.P .m7)<|dQ rfl a .p) aj) .iE)
  (af (eG Z0 rfl (dC rfl b .p) aA (ak (eG Z0 rfl (kf rfl b (.dl .y ao) .p) aA (af (ay<|aI .oG .W .r)
  (ak<|bc (aQ xN qp .T ao .w) (ak<|cw<|ju .q<|sj (sp:=[32]) rfl<|eB<|cz (ae .o1<|ae (dQ rfl a .y)<|ae .oJ<|ae (dQ rfl a .T) aj) .ru) aG)))))
  (af (ay<|cE<|Jv .q<|cE<|ee ["_law_level"] (dh .bT) ⟨aA,cx,(cL .va .uR)⟩)
  (af (eG Z0 rfl (dh .bT) aA<|ak<|cw<|ju .q<|kr (.ci<|ae .jp<|ae (cL (.P .iN)<|Rw rfl a .bB) aj) (rW rfl c<|eK rM mz .bB eF .w) .r)
  .zL)))))
def Aj(a:.cO):.l "_law_signs" tf 1 .uM bJ 1:=okd .uM λb c=>(ak<|aB<|Jy rfl<|eB<|ee ["_law_held"] (dh .k) ⟨aA,cx,.uR⟩)
def Ak(d:.mo)(b:.vr):.l "_law_rests" tm 2 .gh gu 1:=okd .gh λa c=>(ak (aB (cE (fF (own:=.uM) (capn:=.gh) (caps:=[0]) rfl .b1 (dh .jv)
   (λg C s H e=>⟨aA,(jI<|.mK (.ch<|.dw .b2) .k),.k⟩)))))
def uM(d:.cO)(e:.as)(b:.pH)(c:.Eu):.l "_law_end_text" oE 3 .ny jd 2:=okd ["_law_model_here","_law_stand","_law_stands_here","_law_turns"] λa g=>(af (ay .ju)
  (af (ay<|dQ rfl d<|.fW<|cK rfl e<|cT .q)
  (af (bc (aQ (bq g) bT .gi .gi .w) (ak<|aB<|cL (cL (cL (.P .nK) .y) .da) .tk) aG)
  (ak<|aB<|cL (cL (cL (cL (cL (.P .tC) .y) .da) .tk) .da) .tk))))
def yY(a:.bC)(b:.as)(c:.mA):.l "_law_weight" qD 1 .ny jC 2:=okd ["_law_model_here","_law_stand","_law_found","_law_one","_law_force"] λg d=>(af (ay ao)
  (af (eG Z0 rfl .sJ aA (ak (bc (.gZ (aI .p .y .r) ao) (af (ay (xU rfl rfl c (eB (fF (own:=["_law_other"]) (capn:=["_law_stand", "_law_one", "_law_model_here"]) (caps:=[1,3,0]) rfl .Bf .sJ
   (λh C s H e=>⟨aA,cx,(.e6 (aI (aI .jm .q .r) .k .r) .oH)⟩)))))
  (ak<|ay<|aT gP nB (.dl .q .oG) .W)) aG)))
  .hN))
def Al(b:.K "_law_below" 1 2 ig)(c:.vt):.l "_law_bound" tq 3 ["_law_model_here","_law_one","_law_other","_law_way"] qe 4:=okd ["_law_model_here","_law_one","_law_other","_law_way","_law_some","_law_found","_law_stand","_law_bounds"] λa d=>(af (ay .fF)
  (af (ay eF)
  (af (eG Z0 rfl (dh .W) aA (af (ay<|cE<|.ci<|ae (cQ<|.dw .jx)<|ae (cQ<|ae .q .jx) aj)
  (af (bc (.gZ .y ao) (ak<|ay<|cE<|.ci<|ae (cQ<|ae .bB .f4)<|ae (cQ<|ae .bB .ez) aj) aG)
  (ak<|bc (MW.mt<|qJ .wN<|fK .wN .aY) (ak<|bc (MW.mt<|mB (aQ oU o3 .T eF .w)<|.dn<|cH<|.bv<|ae (kr (.ci<|ae .bB<|ae .T aj) .y .r)<|ae (kr (.ci<|ae .T .jx) .y .r) aj) (ak<|ay .bB) aG) aG))))
  (ak<|aB .T))))
def Am(d:.cO)(i:.eT)(j:.as)(g:.vr)(c:.mo)(h:.pH)(e:.vv)(k:.vt):.l "_law_alone" tu 3 .iJ iX 2:=okd ["_law_model_here","_law_cell_here","_law_way","_law_some","_law_many","_law_stand","_law_later"] λa b=>(af (ay .lj)
  (af (ay<|.dV k)
  (af (bc .Dk (ak<|aB<|cQ<|ae .lQ<|ae .fE aj) aG)
  (af (bc (aQ xM qp .q ao .w) (ak<|aB<|cQ<|ae (kr (.ci<|ae (.P .i8)<|ae (.P .iL) aj) .oA .r)<|ae (ah h a<|ae (kr (.ci<|ae .jm<|ae (aI .y d5 .r) aj) .oA .r) aj) aj) aG)
  (af (bc .Dk (ak<|aB<|cQ<|ae (.P .i2)<|ae (dQ rfl d<|cK rfl j<|cT .y) aj) aG)
  (af (ay ao)
  (af (eG Z0 rfl (dh .pc) aA (af (ay<|ah c a<|.dv<|ae .T aj)
  (ak<|ay<|.dl .W<|rW rfl i<|MB.me<|o4 (iA<|eK (gB b) jo .bB .T .w)<|kq<|iA<|eK .ef bT (ah c a<|.dv .jx) .T .w)))
  (ak<|aB<|cQ<|ae (.P .i7)<|ae (dQ rfl d<|.g2 .W) aj))))))))
def tG(d:.as)(g:.cO)(b:.pH)(j:.K "_law_bound" 3 4 qe)(l:.vt)(k:.Eo)(i:.K "_law_end_text" 3 2 jd)(h:.mo)(e:.vr):.l "_law_of_stands" mQ 4 .iJ d7 2:=okd ["_law_model_here","_law_cell_here","_law_way","_law_stands_here","_law_stand","_law_some","_law_one","_law_other","_law_row_here"] λa c=>(af (ay .lj)
  (af (ay .fE)
  (af (ay<|aI .y (aT cV cW .iZ<|cK rfl d<|cT .y) .r)
  (af (bc .iW (ak<|aB<|cQ<|ae (cL (.P .oc) .u9)<|ae (.bv<|ae (ah h a .lP) aj) aj) aG)
  (af (bc .iW (ak<|aB<|cQ<|ae (cL (.P .CC) .u9)<|ae (ah i a .lP) aj) aG)
  (af (bc .iW (ak<|aB<|cQ<|ae (cL (.P .nE) .u9)<|ae (dQ rfl g<|ah k a .lP) aj) aG)
  (af (ay<|.dV l)
  (af .x8
  (af .x8
  (af (ay<|cL (cL (cL (kr (.ci<|ae (.P .Bo)<|ae (.P [109,101,116,32]) aj) .oA .r)<|.bv .jx) .da)<|.bv<|ae (mv 7) aj)
  (ak<|aB<|cQ<|ae (mv 8)<|ae (.bv<|ae (ah j a<|.dv<|ae .bB<|ae (mv 7)<|ae .oA aj) aj) aj)))))))))))
def An:gF ["_law_model_here","_law_cell_here","_law_some","_law_row_here"] .iJ (bO nX):=fsc
def Ao(d:.eT)(b:.cO)(g:.K "_law_turns_all" 3 2 iD)(e:.K "_law_choosable" 1 1 iC):.l "_law_sways" nX 4 .iJ ik 2:=okd ["_law_model_here","_law_cell_here","_law_some","_law_row_here"] λa c=>(af (pX (i:=2) An.nd rfl lc (own:=.lV) (capn:=["_law_cell_here"]) (caps:=[1]) rfl .b1 (dh .fE)
   (λh C s H j=>⟨aA,(jI<|.mK (aT Uc Rg (aT Ub UO .p .k) ao) ao),.k⟩))
  (af (ay<|sj (sp:=[32]) rfl<|eB<|Jv (cE<|cz (ae .vc aj) .iE)<|cE<|ee .lV (dh .q) ⟨aA,cx,(dQ rfl b .k)⟩)
  (ak<|aB<|cQ<|ae .y<|ae (kr (.ci<|ae (.P .jR)<|ae (.P .hJ) aj) (rW rfl d<|ah g a .f6) .r) aj)))
def wH(a:.cO)(c:.as):.l "_law_changed" pI 1 .iJ jS 2:=okd ["_law_model_here","_law_cell_here","_law_many","_law_way","_law_one","_law_other","_law_more"] λd b=>(af (ay<|.kt c)
  (af (ay .lj)
  (af .CP
  (af .CP
  (af (ay .iZ)
  (af (bc (MW.mt<|qJ .Dl<|fK (.mH .W .T) .aY) (af (lM (kr (.ci<|ae ao<|ae .jd aj) (.g2 .jd) .r) .oB .T)
  (af (lM (aI .oB .T .r) (aI .bT .T .r) .W)
  (ak<|aB<|cQ<|ae (cL (cL (cL (cL (cL .ve .oJ) .da)<|dQ rfl a .T) .da)<|dQ rfl a<|aI .oB .T .r) .sM))) aG)
  (af (bc .Dl (af (lM (kr (.ci<|ae (.fW .jd)<|ae (aT gP nB (aT cV cW .bB<|aT MV Nj ao ao)<|aT MV Nj ao ao) aj) (.g2 .jd) .r) .bT .W)
  (ak<|aB<|cQ<|ae (cL (cL (cL .va .oJ) .da)<|dQ rfl a .oB) .sM)) aG)
  (af (lM (kr (cz (ae eF<|ae eF .lZ) .ru) .jd .r) .bT .W)
  (ak<|aB<|cQ<|ae (cL (cL (cL (.P .tB) .oJ) .da)<|kr (cz (ae .jp<|ae .jp .zx) .ru) .jd .r) .sM)))))))))
def tH(j:.cO)(l:.as)(d:.vv)(k:.Et)(h:.Eo)(b:.pH)(g:.mo)(e:.El)(i:.Ey):.l "_law_great_row" mS 5 .iJ d8 2:=okd ["_law_model_here","_law_cell_here","_law_way","_law_stand"] λa c=>(af (ay .lj)
  (af (ay<|.cW<|.dv<|ae (ah i a<|ae .iZ<|ae ao<|ae (.kt l) .hw) aj)
  (af (bc .iW (ak<|aB<|cQ<|ae (cL (.P .oc)<|.bv .fr)<|ae (.bv<|ae (ah g a .gq) aj) aj) aG)
  (af (bc .iW (ak<|aB<|cQ<|ae (cL (.P .nE)<|.bv .fr)<|ae (dQ rfl j<|ah h a .gq) aj) aG)
  (af (bc .iW (ak<|aB<|ah k a<|.dv<|ae .iZ aj) aG)
  (ak<|aB<|cQ<|ae .lQ<|ae (.dV d) aj))))))
def Ve(h:.bC)(p:.as)(l:.eT){C:Addr}(T:qw K C)(c:NU P w K mg base C "say" 13 2 bp)(d:.vv)(j:.K "_law_great_row" 5 2 d8)(n:.K "_law_alone" 3 2 iX)(m:.K "_law_of_stands" 4 2 d7)(o:.Et)(i:.K "_law_changed" 1 2 jS)(e:.Ew)(g:UU P w K mg base "Desk" C 7 2 eD)(k:.K "_law_model" 2 2 mJ):.l "law" BE 14 ["_law_script"] E9 1:=okd ["_law_script","_law_model_here","_law_great","_law_text_here","_law_desk","_law_beside","_law_k","_law_cell_here","_law_more","_law_row_here","_law_due"] λa b=>(af (ay<|ah k a<|.dv<|ae (kr (.ci .lZ) (rW rfl l<|eK .ef bT (.il<|.g2<|.cW .lq) ao .w) .r) aj)
  (af (ay<|eK xN qp (cK rfl p<|cT .fA) ao .w)
  (af (ay<|.ch .f4)
  (af .y5
  (af .y5
  (af (eG Z0 rfl (kf rfl h ao ao) aA (af (ay<|.cW<|.dv .jx)
  (af (ay<|.g2<|mv 7)
  (af (bc (MW.mt<|qJ (cH .q)<|fK (aQ xM qp (.il<|mv 7) ao .w) .aY) (ak<|uh (ah j a .lf) .bF)<|ak<|bc .r6 (ak<|uh (ah n a .lf) .bF)<|ak<|bc .r6 (ak<|uh (ah m a .lf) .bF)<|ak<|bc .r6 (ak<|uh (ah o a .lf) .bF)<|ak<|uh (ah i a .lf) .bF)
  (ak<|.e3<|.mH (.v3 .W<|ae (mv 9) aj)<|mv 10)))))
  (ak<|aB<|MB.me<|o4 (iA<|eK .ef bT (.v3 .W<|ae .lQ aj) (.ch .f4) .w)<|kq<|iA<|eK .ef bT (.v3 .T<|ae .lQ aj) .y .w)))))))
end
def FC{α:Type}(us:List α)(c:us.length=2):∃a b,us=[a,b]:=match us,c with | [a,b],_=>⟨a,b,rfl⟩
def Vf{l:PySem.W.OpenLaw}{w:N6}{K:ZX}{h:Heap}{mg:.aw}{fa D I:Addr}(X:K.In h)(G:h.Ns mainGlobals mg)(a0:mg "law"=some (.ref fa))(IG:.j "is_whole" yK)(DC:.j "is_between" sO)(DD:.j "is_opinion" sQ)(Qj:.j "is_tie" Fc)(DE:.j "neighbours" nV)(Ge:.j "bars_told" v5)(DF:.j "stays_told" sS)(Qk:.j "web_of" Fd)(Me:.j "many_of" Bt)(Mf:.j "ties_of" Bu)(Ql:.j "bar_of" Fe)(Mg:.j "stay_of" Bv)(Mh:.j "bars_of" Bw)(IH:.j "stays_of" yL)(Mi:.j "free_of" Bx)(VO:.j "fits" OJ)(Ay:.j "check_stand" qy)(Qm:.j "weight" yM)(Gf:.j "ties_once" v6)(Gg:.j "is_person" v7)(Mj:.j "pull_at" By)(Ml:.j "next_at" Bz)(Mm:.j "turn_at" BA)(VP:.j "turn" OK)(zG:.j "check_person" pF)(II:.j "with_tie" rm)(IJ:.j "with_bar" yN)(Gh:.j "with_stay" wa)(SS:.j "ended" JS)(wN:.j "may_be_chosen" ou)(wO:.j "are_choosable" ow)(ST:.j "begun" JT)(Gi:.j "turns_all" wc)(Mn:.j "is_rest" BB)(Qn:.j "end_of" Fg)(zH:.j "stand_of_all" pG)(DG:.j "least_rest" sT)(wP:.j "greatest_rest" oy)(vg:.j "stands_between" mM)(wQ:.j "stands_to_try" oz)(SU:.j "rests" JU)(SV:.j "pairs" JV)(Az:.j "check_rests" qz)(Qo:.j "joined" Fh)(Xi:.j "met" Tk)(IK:.j "show_web" yO)(Gj:.j "is_number" we)(vh:.j "numbers_behind" mN)(Gk:.j "read_many" wf)(AA:.j "is_next_tie" qA)(Gm:.j "read_ties" wg)(Mo:.j "line_at" BC)(Gn:.j "read_bars" wj)(DH:.j "read_stays" sU)(IL:.j "read_web" yP)(DI:.j "show_stand" sV)(DJ:.j "read_stand" sW)(IM:.j "words_of" yQ)(IN:.j "thing_of" yR)(DK:.j "is_written" sX)(Gp:.j "things_of" wm)(wR:.j "answer_of_end" oA)(rE:.j "answer_of_stands" kF)(wT:.j "answer_of_web" oC)(Qp:.j "answer" Fk)(Mp:.j "form_of" BD)(AB:.j "changed_web" qB)(Gq:.j "_law_cell" wn)(IO:.j "_law_row" yS)(DL:.j "_law_model" nW)(Gr:.j "_law_turn" wq)(zI:.j "_law_fitting" pH)(DM:.j "_law_below" sY)(AC:.j "_law_stands" qC)(DN:.j "_law_ended" sZ)(vj:.j "_law_choosable" mO)(vk:.j "_law_turns_all" mP)(Gs:.j "_law_text" wu)(DO:.j "_law_signs" tf)(DP:.j "_law_rests" tm)(wU:.j "_law_end_text" oE)(AD:.j "_law_weight" qD)(DQ:.j "_law_bound" tq)(DR:.j "_law_alone" tu)(vm:.j "_law_of_stands" mQ)(DS:.j "_law_sways" nX)(zJ:.j "_law_changed" pI)(vn:.j "_law_great_row" mS)(Xj:.j "law" BE)(DT:Nb K "isinstance")(VQ:Nb K "bool")(Xk:Nb K "int")(Xl:Nb K "len")(SW:Nb K "tuple")(SX:Nb K "range")(VS:Nb K "list")(Xm:Nb K "all")(Qq:Nb K "sorted")(Gu:Nb K "enumerate")(Xn:Nb K "sum")(Xo:Nb K "max")(Xp:Nb K "min")(Xq:Nb K "zip")(Xr:Nb K "str"){l9:Tok}(AE:.cX "MOST_WEIGHT"=some (some<|.int 400 l9)){iE:Tok}(AF:.cX "MOST_PEOPLE"=some (some<|.int 30 iE)){pN:Tok}(Gv:.cX "MOST_FREE"=some (some<|.int 12 pN)){kL:Tok}(zK:.cX "MOST_FIGURES"=some (some<|.int 60 kL))
  {C:Addr} (B:.cX "Desk"=some .uz) (E:.wa Str.empty=true) (F:.vB) (M:.EJ) (A:.Ed) (Q:.es "web"=some none) (L:PySem.W.makesIn K C=true) (J:.dX .bH=true)
  {vq vt:.cw} {vv:.fQ} {vw vx vz vA ni vB:S1}
  (wV:.es "__init__"=some (some .l7)) (b:.mN .l7=true) (wW:K.lookup D=some ⟨vw,vq,.func (PySem.W.fnOf "__init__" "Desk.__init__" (gG eZ) (eQ eZ) (bO eZ) .none vx vz vA vt ni vB),vv⟩) (iM:.iq ni "Desk.__init__"=true) (wX:.dX .l7=true)
  {Gw Gx:.cw} {Gy:.fQ} {Gz GA GB GC wx GD:S1}
  (IP:.es "say"=some (some<|.ref I)) (j:.mN (.ref I)=true) (IQ:K.lookup I=some ⟨Gz,Gw,.func (PySem.W.fnOf "say" "Desk.say" (gG jD) (eQ jD) (bO jD) .none GA GB GC Gx wx GD),Gy⟩) (kP:.iq wx "Desk.say"=true) (zL:.dX (.ref I)=true)
  {u5:Tok} (Mq:.cX "FIGURES"=some (some<|.str .AA u5))
  {d:Addr} (SY:.cX "STAYS"=some (some<|.ref d)) (n:yd K d .ha)
  {i:Addr} (S3:.cX "FORMS"=some (some<|.ref i)) (g:CF K i ja):∃fd:FuncData,(∀(s:P1) (v:S1),.kB ⟨[v],[]⟩ [("_law_script",v)])/\∀base:Heap,K.In base->base.Ns mainGlobals mg->ji l.prog w K mg base CX0 14 fa fd ["_law_script"] (spF K E9 1):=by
 obtain⟨f,od,VT,sl,oc,VU,VV,VW,VX,VY,e,Xs,Xt,Xu⟩:=Xj;have e:=a0.symm.trans (vy X G e);cases e;have Xv:=Ci (st:=BE) Xs Xt Xu;have p:=.cD DT;have Iy:=.cD VQ;have o:=.cD Xk;have a:=.cD Xl;have k:=.cD SW;have c:=.cD SX;have y:=.cD VS;have z:=.cD Xm;have zC:=.cD Qq;have Z:=.cD Gu;have N:=.cD Xn;have tU:=.cD Xo;have BX:=.cD Xp;have R:=.cD Xq;have m:=.cD Xr;have ma:=vy X G AE;have gw:=vy X G AF;have pO:=vy X G Gv;have kM:=vy X G zK;have u6:=vy X G Mq;have xB:=vy X G SY;have lC:=vy X G S3;have T:qw K C:=⟨B,⟨E,F,M,A⟩,Q⟩;have oG:=Ci (st:=eZ) wW iM wX;have wY:=oG.binds (ps:=.pf) λ_ _ _ _ _ _ us hl=>by obtain⟨_,_,rfl⟩:=FC us hl;rfl
 have zM:=Ci (st:=jD) IQ kP zL;have IR:=zM.binds (ps:=.uL) λ_ _ _ _ _ _ us hl=>by obtain⟨_,_,rfl⟩:=FC us hl;rfl
 refine⟨PySem.W.fnOf "law" "law" (gG BE) (eQ BE) (bO BE) .none VU VV VW VT VX VY,λs v=>.of_eq rfl,λbase KB _=>?_⟩;have q:En l.prog w K mg base:=⟨h,X,G⟩;have zN:=IG.df1 q (Fl p Iy o).ok;have t:=DC.df3 q (z6 zN).ok;have tW:=DD.df1 q (z7 t).ok;have GE:=Qj.df2 q (Lo a p k ma t).ok;have DU:=DE.df2 q (z9 c p y GE).ok;have GG:=Ge.df2 q (CU k z a p y zN).ok;have DV:=DF.df2 q (Aa k z a p y c tW).ok;have S:=Qk.df4 q (Lp k zC gw DV GG DU t).ok;have r:=Me.df1 q (HA a).ok;have vC:=Mf.df2 q HB.ok;have GH:=Ql.df2 q Lq.ok;have vD:=Mg.df2 q HC.ok;have V:=Mh.df1 q (HD y).ok;have u:=IH.df1 q (Fo y).ok;have Mr:=Mi.df1 q (HE Z u).ok;have VZ:=VO.df2 q (RN Z a p k vD tW r).ok;have x:=Ay.df2 q (yT VZ).ok;have Qr:=Qm.df2 q (Lr Z N vC GH x).ok;have W:=Gf.df1 q (CV c r vC).ok;have pQ:=Gg.df2 q (CW t r).ok;have Ms:=Mj.df3 q (HF N vC).ok;have Mt:=Ml.df3 q (HG GH Ms vD).ok;have O:=Mm.df2 q (HI k c r Mt).ok;have V0:=VP.df2 q (RO O x).ok;have kR:=zG.df2 q (wE pQ).ok;have IS:=II.df4 q (Fq tU BX S u V r t W kR).ok;have IT:=IJ.df3 q (Ft S u W r V kR).ok;have GI:=Gh.df3 q (CY S V W r u kR).ok;have DW:=SS.df2 q (OL a O x).ok;have wZ:=wN.df2 q (uE vD pQ).ok;have w4:=wO.df2 q (uF z c a p y wZ).ok;have S4:=ST.df2 q (OM k Z u w4).ok;have GJ:=Gi.df2 q (CZ DW S4).ok;have Mu:=Mn.df2 q (HJ O x).ok;have U:=Qn.df2 q (Ls DW).ok;have pR:=zH.df2 q (wF k u).ok;have tZ:=DG.df1 q (Ab U pR).ok;have oH:=wP.df1 q (uG U pR).ok;have vE:=vg.df2 q (tw R c).ok;have oJ:=wQ.df1 q (uH a pO vE oH tZ Mr).ok;have S5:=SU.df1 q (ON O oJ).ok;have S6:=SV.df1 q (OO oJ O).ok;have qE:=Az.df3 q (yU Mu x).ok;have Qs:=Qo.df3 q (Lu k R tU U qE).ok;have Xw:=Xi.df3 q (Vd k R BX U qE).ok;have IU:=IK.df1 q (Fv u V W r).ok;have wy:=Gj.df1 q (C1 z a u6 kM t).ok;have jG:=vh.df2 q (tz o z wy).ok;have GK:=Gk.df1 q (C2 a gw t jG).ok;have AG:=AA.df2 q yV.ok;have GL:=Gm.df2 q (C3 c a k AG GE jG).ok;have BZ:=Mo.df2 q (HK a).ok;have GM:=Gn.df3 q (C4 c a jG BZ).ok;have DX:=DH.df3 q (Ac c xB n BZ).ok;have IV:=IL.df1 q (Fw a p m S DX GM GL GK).ok;have om:=DI.df1 q (Ad m).ok;have DY:=DJ.df2 q (Ae k o z p m x).ok;have w5:UU l.prog w K mg base "Desk" C 7 2 eD:=⟨vy X G B,D,_,_,⟨L,wV,b,J⟩,wY,uJ (P:=l.prog) (w:=w) (base:=base) oG T IV⟩;have IW:=IM.df1 q (Fx p m).ok;have IX:=IN.df3 q (Fy o DY).ok;have DZ:=DK.df2 q (Af wy).ok;have GN:=Gp.df3 q (C5 R o IX pQ DZ).ok;have w6:=wR.df1 q (uK om).ok;have rF:=rE.df3 q (qq m w6 DW om Xw Qs Qr V0).ok;have w8:=wT.df2 q (uL m a S6 S5 om oH tZ IU).ok;have Qt:=Qp.df3 q (Lv lC g rF w8 GJ).ok;have Mv:=Mp.df1 q (HL a k lC g).ok;have AH:=AB.df3 q (yW GI IT IS).ok;have IY:NU l.prog w K mg base C "say" 13 2 bp:=⟨I,_,_,⟨IP,j,zL⟩,IR,FA (P:=l.prog) (w:=w) (base:=base) zM T Qt AH GN Mv IW⟩;have wA:=Gq.df2 q (C6 a).ok;have zO:=IO.df4 q (FB c).ok;have D0:=DL.df2 q (Ag c N tU zO wA).ok;have H:=Gr.df2 q (C7 k c a N).ok;have pS:=zI.df2 q (wG k c a).ok;have D1:=DM.df2 q (Ah c a).ok;have mi:=AC.df1 q yX.ok;have t6:=DN.df2 q (Ai H).ok;have vF:=vj.df1 q (tD c a).ok;have vG:=vk.df2 q (tF c a o t6 pS).ok;have pT:=Gs.df1 q (C8 m o c a).ok;have Y:=DO.df1 q (Aj m).ok;have oo:=DP.df1 q (Ak H mi).ok;have w9:=wU.df2 q (uM m a Y t6).ok;have qF:=AD.df2 q (yY c a N).ok;have D2:=DQ.df4 q (Al D1 oo).ok;have D3:=DR.df2 q (Am m o a mi H Y pT oo).ok;have vH:=vm.df2 q (tG a m Y D2 oo qF w9 H mi).ok;have t7:=DS.df2 q (Ao o m vG vF).ok;have zP:=zJ.df2 q (wH m a).ok;have vI:=vn.df2 q (tH m a pT t7 qF Y H pS zO).ok;exact(Ve (P:=l.prog) (w:=w) (base:=base) c a o T IY pT vI D3 vH t7 zP wA w5 D0).ok Xv
end Fm
namespace Fm
/---/def dg(n:Nat):List Nat:=(Nat.toDigits 10 n).map Char.toNat
variable{n:Nat}
def jT(h:n<10):dg n=[48+n]:=by
 have:n=0\/n=1\/n=2\/n=3\/n=4\/n=5\/n=6\/n=7\/n=8\/n=9:=by omega
 rcases this with e|e|e|e|e|e|e|e|e|e<;>subst e<;>rfl
def dgc(h:n<10):(n.digitChar).toNat=48+n:=by
 have:=jT h;rw[dg,Nat.toDigits_of_lt_base h]at this;simpa using this
def C9(h:10<=n):dg n=dg (n/10)++[48+n%10]:=by
 rw[dg,Nat.toDigits_of_base_le .b h,ZR,z5,zo,dgc (Nat.mod_lt _ .b),dg]
def OP(n:Nat)(h:n<10^60):1<=(dg n).length/\(dg n).length<=60:=by
 rw[dg,ZA];exact⟨Nat.length_toDigits_pos,(Nat.length_toDigits_le_iff .b .b).mpr h⟩
def yZ(n:Nat):∀c∈dg n,48<=c/\c<=57:=by
 induction n using Nat.strongRecOn with
 |ind n b =>
  intro c a
  by_cases h:n<10
  ·rw[jT h]at a;simp at a;omega
  ·rw[C9 .b]at a
   rcases Z3.mp a with a|a
   ·exact b (n/10) .b c a
   ·simp at a;omega
def OQ(n:Nat):Ks (dg n)=n:=by
 induction n using Nat.strongRecOn with
 |ind n a =>
  by_cases h:n<10
  ·rw[jT h];simp[Ks]
  ·rw[C9 .b,Ks,List.foldl_append]
   have:=a (n/10) .b;rw[Ks]at this;rw[this];simp;omega
def Da(n:Nat):∃c r,dg n=c::r/\(n≠0->c≠48)/\(n=0->c=48/\r=[]):=by
 induction n using Nat.strongRecOn with
 |ind n a =>
  by_cases h:n<10
  ·exact⟨48+n,[],jT h,λz=>by omega,λz=>⟨by omega,rfl⟩⟩
  ·obtain⟨c,r,e,b,_⟩:=a (n/10) .b
   exact⟨c,r++[48+n%10],by rw[C9 .b,e];rfl,λ_=>b .b,λz=>by omega⟩
def JW(n:Nat):Kr (dg n)=true:=by
 obtain⟨c,r,e,_⟩:=Da n;have:=yZ n;dsimp[Kr,ZZ,xb,YL];exact⟨by rw[e];rfl,this⟩
/---/def tx(i:Int):List Nat:=rK .gr
def y7(n:Nat):tx (n:Int)=dg n:=by
 have e:toString (n:Int)=n.repr:=by rw[Int.toString_eq_repr,Int.repr_eq_if,zE .b,zZh]
 rw[tx,rK,e,Nat.repr_eq_ofList_toDigits,String.toList_ofList,dg]
def Vg(h:0<n):tx (-(n:Int))=45::dg n:=by
 have e:toString (-(n:Int))="-" ++ n.repr:=by rw[Int.toString_eq_repr,Int.repr_eq_if,zF .b];congr 2;omega
 rw[tx,rK,e,String.toList_append,Nat.repr_eq_ofList_toDigits,dg,ZR];dsimp[String.toList_ofList];rfl
def y8(i:Int):tx i=dg i.natAbs/\0<=i\/tx i=45::dg i.natAbs/\i<0:=by
 by_cases h:0<=i
 ·refine .inl ⟨?_,h⟩
  have:=y7 i.natAbs;rwa[show ((i.natAbs:Nat):Int)=i by omega]at this
 ·refine .inr ⟨?_,by omega⟩
  have:=Vg (n:=i.natAbs) .b;rwa[show -((i.natAbs:Nat):Int)=i by omega]at this
def OR(i:Int):∀c∈tx i,c=45\/.uY:=by
 intro c a;rcases y8 i with ⟨e,_⟩|⟨e,_⟩<;>rw[e]at a
 ·exact .inr (yZ _ c a)
 ·rcases y6.mp a with z|a
  ·exact .inl z
  ·exact .inr (yZ _ c a)
def dM(i:Int)(h:.gP):1<=(.co).length/\(.co).length<=61:=by
 have:=OP _ h;rcases y8 i with ⟨e,_⟩|⟨e,_⟩<;>rw[e]
 ·omega
 ·simp;omega
def tI(i:Int):qH .co=some i:=by
 rcases y8 i with ⟨e,h⟩|⟨e,h⟩<;>rw[e]
 ·obtain⟨c,r,q,_⟩:=Da i.natAbs
  have f:=yZ i.natAbs c .oK;have g:=JW i.natAbs;have v:=OQ i.natAbs;rw[q]at g v⊢;rw[qH,zF .b,zE g,v];congr 1;omega
 ·rw[qH,zE rfl,zE (JW _),OQ]
  congr 1;omega
def OU{i:Int}(h:.gP):i.natAbs.log2<1920:=by
 by_cases z:i.natAbs=0
 ·rw[z];decide
 ·exact(Nat.log2_lt z).mpr (ZY h<|ZM (show 10^60<=2^200 by decide)<|zZd .a .a)
variable{h h1:Hd}{σ:Sd}
def dU(p:.vQ)(b:.gP):c9 a σ h=.ok .lu h1:=by
 show Res.bind _ _=_;rw[p];exact zE (OU b)
def iu(p:a σ h=.ok (.str y) h1)(b:out.length+y.length<=1000000)(q:r (out++y) σ h1=o):cO a r out σ h=o:=by
 show Res.bind _ _=_;rw[p];exact(zE b).trans q
def BG(b:out.length<=1000000):oR out σ h=.ok (.str out) h:=zE b
def BH(p:r [] σ h=o):fFs r σ h=o:=p
def dH(p:a σ h=.g9 h1)(q:b σ h1=.ok (.str y) c)(l:x.length+y.length<=1000000):.bR a b σ h=.ok (.str<|x++y) c :=
 av p q (zE l)
theorem uN:∀l:List .bW,mm (l.map D.str)=some l
 |[]=>rfl
 |x::l=>by dsimp[z5,mm,uN l,Y8]
theorem tJ:∀{l:.aR},(∀x∈l,x.length<=k)->(l.map (·.length)).sum<=k*l.length
 |[],_=>by simp
 |x::l,h=>by
  have h1:=h x .f;have b:=tJ (l:=l) λy a=>h y (by simp[a]);have e:k*(x::l).length=k*l.length+k:=by rw[wI,Nat.mul_succ]
  rw[z5,VN,e];omega
def tK(p:a σ h=.ok .lR h1)(b:.mr)(l:L.length<=1100):lI [sp] a σ h=.ok (.str<|bg [sp] L) h1:=by
 have:=tJ b;show Res.bind _ _=_;rw[p];show (match mm .lR with|some c=>_|none=>_)=_;rw[uN];exact zE .X
def Db(p:.p5)(q:.pY)(r:L σ h1=.dx a)(s:.mw)(t:l.length+ds.length<=SZ):kx x L σ h=.e9 .CU:=by
 show Res.bind _ _=_;rw[p,aR];dsimp[q,r,aR,s];exact zE t
abbrev fG:List Nat:=.sN
abbrev HM:List Nat:=.gg
abbrev HN:List Nat:=.hF
/---/def line(w:.m)(l:.c):List Nat:=bg [32] (w::l.map tx)
/---/def j0(t:Tie):List Nat:=line HM [(t.a:Int),t.b,t.w]
/---/def mT(b:Int):List Nat:=line HN [b]
def eS:Option Int->List Nat
 |none=>[102,114,101,101]
 |some x=>[115,116,97,121,115,32]++tx x
/---/def bX(n:Nat)(T:.ax)(bs:.c)(ss:.Q):List .bW:=line fG [(n:Int)]::(T.map j0++(bs.map mT++ss.map eS))
def big{i:Int}(a:0<=i)(h1:i<=400):i.natAbs<10^60:=ZS (show i.natAbs<=400 by omega) .a
structure TS(n:Nat)(t:Tie):Prop where
 a:(t.a:Int).natAbs<10^60
 b:(t.b:Int).natAbs<10^60
 w:t.w.natAbs<10^60
variable{t:Tie}{T:.ax}
def OV(hn:n<=30)(O:.au)(ht:t∈T):TS n t:=by
 have b:=O.lt t ht;have a:=O.wt t ht;exact⟨big .b .b,big .b .b,big .b .b⟩
variable{x:Int}{o:.aF}
def y9(h:.h9)(e:o=some x):x.natAbs<10^60:=by
 subst e;simp at h;rcases h with z|z<;>subst z<;>decide
def OW(h:TS n t):(j0 t).length<=200:=by
 have c:=dM _ h.a;have b:=dM _ h.b;have a:=dM _ h.w;dsimp[j0,line,bg,z5,zo,ZB,wI,YY];omega
def OX(h:.qi):(mT b).length<=200:=by
 have a:=dM _ h;dsimp[mT,line,bg,z5,zo,ZB,wI,YY];omega
def Lx(h:.qi):(line fG [b]).length<=200:=by
 have a:=dM _ h;dsimp[line,bg,z5,zo,ZB,wI,YY];omega
def Ly(h:.h9):(eS o).length<=200:=by
 rcases h with e|e|e<;>subst e<;>decide +kernel
def uO(hn:n<=30)(O:.au)(lb:.bD)(ls:.bi)(os:.a9)(bb:.ej):
  (∀x∈bX n T bs ss,x.length<=200)/\(bX n T bs ss).length<=1100:=by
 have d:=O.len;constructor
 ·intro x a
  unfold bX at a;rcases y6.mp a with e|a
  ·rw[e];exact Lx (big .b .b)
  ·rcases Z3.mp a with a|a
   ·obtain⟨t,c,rfl⟩:=z0.mp a
    exact OW (OV hn O c)
   ·rcases Z3.mp a with a|a
    ·obtain⟨t,c,rfl⟩:=z0.mp a
     exact OX (bb t c)
    ·obtain⟨t,c,rfl⟩:=z0.mp a
     exact Ly (os t c)
 ·dsimp[bX,wI,ZB,ZA]
  omega
abbrev Vh:EF:=fFs .wQ
abbrev OY:EF:=fIf .iO .fg .zs
def JX{g:Hd}:(h++c::g).set h.length d=h++d::g:=by
 rw[List.set_append_right _ _ .B,Nat.sub_self];rfl
def pJ{g k:Hd}:((h++c::g)++k).set h.length d=h++d::(g++k):=by
 rw[ZU,List.cons_append,JX]
def fH{g:Hd}:(h++c::g)[h.length]?=some c:=by
 rw[ZD .B,Nat.sub_self];rfl
def OZ:t∈jA n T↔t.a<n/\t.a<t.b/\(t.b,t.w)∈nbs T t.a:=by
 have a:∀{i:Nat},i<n->.iK=dG .aP:=λ{i} e=>by simp[List.getD,e]
 unfold jA;rw[km];constructor
 ·rintro⟨b,d,c⟩
  rw[a b,eV]at c;exact⟨b,d,c⟩
 ·rintro⟨b,d,c⟩
  exact⟨b,d,by rw[a b,eV];exact c⟩
/---/def uP(s t:Tie):Prop:=s.a<t.a\/(s.a=t.a/\s.b<t.b)
theorem za(c:∀i,(.vh).Pairwise .jg):∀k,(iU R k).Pairwise uP
 |0=>by simp[iU]
 |k+1=>by
  rw[iU,xn];refine⟨za c k,?_,λs d t ht=>?_⟩
  ·unfold jp
   rw[Y4];exact((c k).filter _).imp λh=>.inr ⟨rfl,h⟩
  ·obtain⟨h1,_,_⟩:=km.mp d
   obtain⟨e,_,_⟩:=uA.mp ht;exact .inl .b
def Lz(O:.au):(.db).Pairwise uP:=by
 unfold jA;refine za (λi=>?_) n
 by_cases a:i<n
 ·have:.iK=dG .aP:=by simp[List.getD,a]
  rw[this];exact kD (lV O.un i)
 ·have:.iK=[]:=by simp[List.getD,a]
  rw[this];exact .nil
def LA{bs:.c}(bb:.ej)(f:h[k]?=some .cr):
  cu .bJ .bG .G [] (.bR .kL .eG) .bG .ao h=.ok ((.po).map D.str) h:=by
 have:=bj (g:=some k) (all:=bs.map .int) (tg:=gN 0) (cs:=[]) (e:=.bR .kL .eG) (h:=h) (I:=λσ=>∃a,σ=[a]) .aI
  (λd=>match d with | .int a=>.str (line HN [a])|_=>.non) f (xs:=bs.map .int) (σ:=.ao) (by
  rintro x i σ ⟨a,rfl⟩;obtain⟨t,c,rfl⟩:=z0.mp i;have j:=dM _ (bb t c);exact⟨_,rfl,⟨_,rfl⟩,rfl,λ_=>(dH (x:=.nX) (y:=tx t) rfl (dU rfl<|bb t c) .X).trans rfl⟩) ⟨_,rfl⟩
 rw[this,wL.mpr .f,y3,y3];rfl
def JY(p:.ms)(q:b σ h1=.ok (.ref m) c)(e:c[n]?=some .d7)(d:c[m]?=some (.lst k))(z:l.length+k.length<=SZ):vJ a b σ h=.ok (l++k) c:=by
 show Res.bind _ _=_;rw[p,aR,q,aR];dsimp[e,d];exact zE z
inductive LI(told:D)(n tk bk sk qk A B:Nat)(h0 g:Hd)(P:.aR)(ss:.Q):Nat->Sd->Hd->Prop
 |mk {i:Nat} {y:.E}:LI told n tk bk sk qk A B h0 g P ss i [some told,some .aZ,some .kp,some (.ref bk),some (.ref sk),some (.ref qk),some (.ref B),some (.ref (A+2)),y] (h0++g++[.lst ((P++(.lL).map eS).map D.str)])
def RP(a b:.m)(h:Hd):oNe .dd (.str b) h=.ok .n7 h:=rfl
def uQ(a b:.m)(h:Hd):oEq .dd (.str b) h=.ok (.bl<|decide (a=b)) h:=rfl
variable{l:.m}
def qf(p:.gO)(q:b σ h1=.ok (.str k) c):nv a b σ h=.ok (.bl<|decide .tr&&.td) c:=by
 show Res.bind _ _=_;rw[p,aR];rw[q];rfl
def FD(p:.gO)(q:l.length<=1000000/\l.all (· < 128)=true):zQ a σ h=.ok (l.map λc=>D.str [c],none) h1:=by
 show Res.bind _ _=_;rw[p,aR];exact zE q
def RQ(p:.gO)(q:.p8):Jb a σ h=.ok .sD h1:=by
 show Res.bind _ _=_;rw[p,aR];exact zE q
abbrev FG:List Nat:=.sp
def Vi(h:48<=c/\c<=57):c∈FG:=by
 have:c=48\/c=49\/c=50\/c=51\/c=52\/c=53\/c=54\/c=55\/c=56\/c=57:=by omega
 rcases this with e|e|e|e|e|e|e|e|e|e<;>subst e<;>decide
def RT(f:∀c∈l,48<=c/\c<=57)(h:Hd):.d0 .lg .G [] .B6 .lg .ao h=.ok ((.lg).map λ_=>D.bl true) h:=by
 have:=bj (g:=none) (all:=l.map λc=>D.str [c]) (tg:=gN 0) (cs:=[]) (e:=ag Kt .e (fC<|.str FG)) (h:=h) (I:=λσ=>∃a,σ = [a]) .aI .hG trivial (xs:=l.map λc=>D.str [c]) (σ:=.ao) (by
  rintro x b σ ⟨a,rfl⟩;obtain⟨c,d,rfl⟩:=z0.mp b;refine⟨_,rfl,⟨_,rfl⟩,rfl,λ_=>av rfl rfl ?_⟩;show Res.ok (D.bl<|decide (c∈FG)) h=_;rw[z3 (Vi<|f c d)]) ⟨_,rfl⟩
 rw[this,wL.mpr .f]
def nY{i:Int}(b:.gP)(h:Hd):fv [.str .co] h=.aM h:=by
 obtain⟨l,g⟩:=q0 (dg i.natAbs);have k:=OP _ b;have d:=yZ i.natAbs;obtain⟨c,r,f,x,w⟩:=Da i.natAbs;rw[<-g]at k d f;have B:=d c (by rw[f];simp);have u:aD .gw .xA [some (.str .co),none] h=.nx .hk h:=by
  rcases y8 i with ⟨e,z⟩|⟨e,z⟩
  ·rw[<-g]at e
   rw[e];refine aC ((pv (aM ((qf rfl rfl).trans ?_))).trans rfl);rw[f];have:((c::r).take [45].length == [45])=false:=by
    have:c≠45:=by omega
    simp[this]
   rw[this,Bool.and_false]
  ·rw[<-g]at e
   rw[e];refine aC ((nI (h1:=h) (aM ((qf rfl rfl).trans ?_))).trans ?_)
   ·simp
   ·show (if (45::l).length<=1000000 then (match GQ (45::l) (some 1) none with|some y=>Res.ok (D.str y) h|none=>.bad) else .bad)=_
    rw[zE .X];have:GQ (45::l) (some 1) none=some l:=by
     show (if (0:Int)<=1/\(1:Int)<=(45::l).length then some (List.drop 1 (45::l)) else none)=_;rw[zE .X];rfl
    rw[this]
 have s:sIf .xB .fh bh .hk h=.nx .hk h :=
  bH (.bN<|aM<|aq (aw (RQ rfl .b) .gt) .Bh)
 have n:sIf (dZ<|tE<|rJ<|.e2 (zQ .d) .B6) .fh bh .hk h=.nx .hk h:=by
  have m:((.lg).map λ_=>true).all id=true:=by simp
  exact bH (.bN<|aM<|(qT (bZ (FD rfl ⟨by omega,xb.mpr λc o=>by have:=d c o;simp;omega⟩)<|RT d h) qa).trans (by rw[m]))
 have p:aS .wK .hk h=.rt .dz h:=by
  have a:Qx .d .z .hk h=.ok (.str [c]) h:=by
   refine av rfl rfl ?_;rw[f]at k⊢;show (if (c::r).length<=1000000 then (match ixN (c::r).length 0 with|some j=>(match (c::r)[j]? with|some c=>Res.ok (D.str [c]) h|none=>.bad)|none=>.bad) else .bad)=_;have v:ixN (c::r).length 0=some 0:=by simp[ixN]
   rw[zE .b,v];rfl
  by_cases z:i.natAbs=0
  ·obtain⟨t,A⟩:=w z
   have e:tx i=[48]:=by
    have:i=0:=by omega
    subst this;rcases y8 0 with ⟨e,_⟩|⟨_,q⟩
    ·exact e
    ·omega
   refine aE (ot (iQ (h1:=h) (aM (av a rfl ?_)) (aM (av rfl rfl ?_))))
   ·rw[RP,t];rfl
   ·rw[uQ,e];rfl
  ·refine aE (ot (uo (aM (av a rfl ?_))))
   rw[RP,z4 (λq=>x z (by simpa using q))];rfl
 exact (.n<|(bF u).trans ((bF s).trans ((bF n).trans p))).trans aJ
def zc{α:Type}(l:List α):ml .te=some .ou:=qa
variable{ns:.c}
def O0(b:.vC)(d:h[k]?=some (.lst .ge)):cu .bJ .ge .G [] (au fv .ad) .ge .ao h=.ok ((.ge).map λ_=>D.bl true) h:=by
 have:=bj (g:=some k) (tg:=gN 0) (cs:=[]) (e:=au fv .ad) (I:=λσ=>∃a,σ = [a]) .aI .hG d (xs:=(ns.map tx).map D.str) (σ:=.ao) (by
  rintro x l σ ⟨a,rfl⟩;obtain⟨c,j,rfl⟩:=z0.mp l;obtain⟨i,f,rfl⟩:=z0.mp j;exact⟨_,rfl,⟨_,rfl⟩,rfl,λ_=>aq .bo (nY (b i f) h)⟩) ⟨_,rfl⟩
 rw[this,wL.mpr .f]
def xt{n:Int}(p:.gO)(q:l.length<=600)(r:qH l=some n):oq a σ h=.ev h1:=by
 show Res.bind _ _=_;rw[p,aR];show (if l.length<=600 then (match qH l with|some n=>Res.ok (D.int n) h1|none=>.bad) else .bad)=_;rw[zE q,r]
def LB(b:.vC)(f:h[k]?=some (.lst .ge)):cu .bJ .ge .G [] (oq .e) .ge .ao h=.ok .c6 h:=by
 have:=bj (g:=some k) (tg:=gN 0) (cs:=[]) (e:=oq .e) (I:=λσ=>∃a,σ = [a]) .aI (λd=>match d with | .str l=>(match qH l with|some n=>.int n|none=>.non)|_=>.non) f (xs:=(ns.map tx).map D.str) (σ:=.ao) (by
  rintro x o σ ⟨a,rfl⟩;obtain⟨c,m,rfl⟩:=z0.mp o;obtain⟨i,j,rfl⟩:=z0.mp m;have l:=dM _ (b i j);refine⟨_,rfl,⟨_,rfl⟩,rfl,λ_=>(xt rfl .b<|tI i).trans ?_⟩;show _=Res.ok (match qH .co with|some n=>D.int n|none=>.non) h;rw[tI]) ⟨_,rfl⟩
 rw[this,wL.mpr .f,y3,y3];congr 1;apply YE;intro i _;show (match qH .co with|some n=>D.int n|none=>.non)=.int i;rw[tI]
def tL(h:c≠45)(a:¬.uY):c∉tx i:=λz=>by
 rcases OR i c z with e|e
 ·exact h e
 ·exact a e
theorem qg:∀{L:.aR},(bg [sp] L).length<=(L.map (·.length)).sum+L.length
 |[]=>ZL _
 |[x]=>by simp[bg]
 |x::y::r=>by
  have a:=qg (sp:=sp) (L:=y::r);rw[bg,ZB,ZB,z5,VN,wI];dsimp[wI,YY]at a⊢;omega
def HP(b:32∉w):fA 32 .ph=w::ns.map tx:=by
 refine jN .f λp a=>?_;rcases y6.mp a with e|e
 ·rw[e];exact b
 ·obtain⟨i,_,rfl⟩:=z0.mp e
  exact tL .a .a
def zd(p:.gO)(q:.p8):oS c a σ h=.ok ((fA c l).map D.str) h1:=by
 show Res.bind _ _=_;rw[p,aR];exact zE q
def qh{x:D}{l:List D}(p:.ms)(q:h1[n]?=some (.lst (x::l))):eA a (pAt .o) pNo σ h=.ok (.ref h1.length) (h1++[.lst l]):=by
 have e:cut (x::l) (some 1) none=l:=by
  simp[cut,sIx]
 show Res.bind _ _=_;rw[p,aR];dsimp[pAt,fC,aR,pNo,jM,q,e]
def rn{w:.m}(v:32∉w)(C:w.length<=10)(r:ns.length<=10)(b:.vC)(h:Hd):
  ∃k g,cB [.str w,.str .ph] h=.ok .Z .aj/\h.length<=k/\.aj[k]?=some (.lst .c6):=by
 have len:(.ph).length<=1000000:=by
  have s:=qg (sp:=32) (L:=w::ns.map tx);have u:=tJ λx t=>by
   obtain⟨i,z,rfl⟩:=z0.mp t;exact(dM _<|b i z).2
  unfold line;dsimp[z5,VN,wI,ZA]at s u;omega
 obtain⟨W,d⟩:=q0 .ge;obtain⟨L,m⟩:=q0 .ph;have B:W.length<=10:=by rw[d];simp;exact r
 have sp:(fA 32 L).map D.str=.str w::W:=by rw[m,HP v,z5,d]
 rw[<-m]at len⊢;have A:.bQ (bR<|oS 32 .d) .Ah h=.nx .ng (h++[.lst .ee]):=by
  have q:=zd (c:=32) (a:=aa 1) (σ:=.Ah) (h:=h) rfl len;rw[sp]at q;exact aC (cR q .k8)
 have n:(h++[cM.lst .ee]++[.lst W])[h.length+1]?=some (.lst W):=by
  have e:h.length+1=(h++[cM.lst .ee]).length:=by simp
  rw[e];exact ZG
 have j:=O0 b (k:=h.length+1) (h:=h++[cM.lst .ee]++[.lst W]) (by rw[<-d];exact n);rw[<-d]at j;have o:(W.map λ_=>true).all id=true:=by simp
 have y:sIf .ws (aS .a6) bh .ng (h++[.lst .ee])
   = .nx .ng .BZ:=by
  refine bH (iQ (aM<|av (.aG (aF fH) .eF) rfl (by rw[RP,z3 rfl];rfl))<|.bN<|aM<|(qT (bZ (c5 ((qh rfl fH).trans (by rw[ZB];rfl)) n) j)<|zc W).trans (by rw[o]))
 have f:(h++[cM.lst .ee]++[.lst W]++[.lst W])[h.length+2]?=some (.lst W):=by
  have e:h.length+2=(h++[cM.lst .ee]++[cM.lst W]).length:=by simp
  rw[e];exact ZG
 have l:=LB b (k:=h.length+2) (h:=h++[cM.lst .ee]++[cM.lst W]++[cM.lst W]) (by rw[<-d];exact f);rw[<-d]at l;have p:aS .xO .ng .BZ
   = .rt (.ref<|h.length+3) (h++[.lst .ee]++[.lst W]++[.lst W]++[.lst .c6]):=by
  refine(aE<|cR (bZ (c5 ((qh rfl<|.I fH).trans (by rw[ZB,ZB];rfl)) f) l) .k8).trans ?_;congr 2;simp
 refine⟨h.length+3,[cM.lst .ee,.lst W,.lst W,.lst .c6],?_,by omega,by rw[ZD .b];simp⟩;refine (.n<|(bF A).trans ((bF y).trans p)).trans ?_;rw[cI];simp
theorem BJ:∀{L:.aR},c∈bg [sp] L->c=sp\/∃x∈L,c∈x
 |[],h=>by simp[bg]at h
 |[x],h=>.inr ⟨x,by simp,h⟩
 |x::y::r,h=>by
  rw[bg]at h;rcases Z3.mp h with h|h
  ·rcases Z3.mp h with h|h
   ·exact .inr ⟨x,by simp,h⟩
   ·exact .inl .oo
  ·rcases BJ h with e|⟨z,hz,q⟩
   ·exact .inl e
   ·exact .inr ⟨z,ZW _ hz,q⟩
def uR(b:10∉w):10∉line w ns:=λh=>by
 rcases BJ h with e|⟨z,a,q⟩
 ·cases e
 ·rcases y6.mp a with e|e
  ·rw[e]at q;exact b q
  ·obtain⟨i,_,rfl⟩:=z0.mp e
   exact tL .a .a q
def LC(o:.aF):10∉eS o:=λh=>by
 cases o with
 |none=>simp[eS]at h
 |some x =>
  rcases Z3.mp h with h|h
  ·revert h;decide
  ·exact tL .a .a h
def FE(n:Nat)(T:.ax)(bs:.c)(ss:.Q):fA 10 .hv=bX n T bs ss:=by
 refine jN (by simp[bX]) λp a=>?_;unfold bX at a;rcases y6.mp a with e|a
 ·rw[e];exact uR .a
 ·rcases Z3.mp a with a|a
  ·obtain⟨t,_,rfl⟩:=z0.mp a
   exact uR .a
  ·rcases Z3.mp a with a|a
   ·obtain⟨t,_,rfl⟩:=z0.mp a
    exact uR .a
   ·obtain⟨t,_,rfl⟩:=z0.mp a
    exact LC t
def RU{x:D}(a:d9 g all h)(t:.vU)(e:b σ' h=.bk σ'' h'):i0 g all tg b .dL σ h=.nx σ'' h':=by
 rw[i0,zE a,t];dsimp[e]
variable{A:Nat}
section
variable{n:Nat}{T:.ax}{bs:.c}{ss:.Q}{h:Hd}{lk:Nat}
abbrev LLs(n:Nat)(T:.ax)(bs:.c)(ss:.Q):List D:=(bX n T bs ss).map D.str
def Dc:(.f7).length=1+T.length+bs.length+ss.length:=by simp[bX];omega
def Yi:atI .f7 0=some (.str<|line fG [(n:Int)]):=kY _ _
def Vj(hi:i<T.length):atI .f7 ((1+i:Nat):Int)=some (.str<|j0 T[i]):=dN (by
 rw[ZQ,bX,Nat.add_comm 1 i,zZj,ZC (by simpa using hi)];simp[hi])
def O4(hi:i<bs.length):atI .f7 ((1+T.length+i:Nat):Int)=some (.str<|mT bs[i]):=dN (by
 rw[ZQ,bX,show 1+T.length+i=T.length+i+1 by omega,zZj,ZD .f,ZA,zZi,ZC (by simpa using hi)];simp[hi])
def RV(hi:i<ss.length):atI .f7 ((1+T.length+bs.length+i:Nat):Int)=some (.str<|eS ss[i]):=dN (by
 rw[ZQ,bX,show 1+T.length+bs.length+i=T.length+(bs.length+i)+1 by omega,zZj,ZD .f,ZA,zZi,ZD .f,ZA,zZi];simp[hi])
def Dd(f:1<=n)(hn:n<=30)(m:.qb):jP [.ref lk] h=.ev h:=by
 have j:(n:Int).natAbs<10^60:=big .b .b;obtain⟨k,g,q,o,c⟩:=rn (w:=fG) (ns:=[(n:Int)]) .a .a .f (by intro i d;rw[Z5.mp d];exact j) h;have e:aD .gw (au cB<|ad (fC<|.str fG)<|ad .aX am) [some .ih,none] h=.nx .nC .aj:=aC (aq (.bc<|.aG (aF m) Yi) q);have a:fAt .d .z .nC .aj=.ok .aZ .aj:=aL rfl rfl (aF c) rfl;have l:sIf .wB fz bh .nC .aj=.nx .nC .aj :=
  bH (iQ (aM<|.cy<|dE<|.bu<|aF c)<|.bN<|aM<|aq (aw a .gt) .Bh)
 exact (.n<|(bF e).trans ((bF l).trans (aE a))).trans .fL
def ze{x y z:D}(p:a σ h1=.ok (.tup [x,y,z]) b):nu a pNo (pAt .J) σ h1=.ok (.tup [x,y]) b:=by
 show Res.bind _ _=_;rw[p];rfl
def Ef{l:List D}{x:D}:atI (l++[x]) (-1)=some x:=by
 have e:ixN (l++[x]).length (-1)=some l.length:=by
  unfold ixN;rw[zF .b,zE .X];simp;congr 1;omega
 unfold atI;rw[e];exact ZG
def LD(X:.ax):oK .pD<=20:=ZM (Bh (k:=1) (λt=>by simp[ca,dep,oK]) X) .a
def RW{X:.ax}(k:h[A]?=some (.lst .pD))(lt:t.a<t.b)(up:∀s∈X,uP s t):gr [.ref A,ca t] h=.aM h:=by
 have i:tE (ag oLt .k9 .lN) .tb h=.ds h:=aM (av .bU .bU<|yk .b);have a:.jh[A]?=some (.lst .pD):=.I k;have f:∀b,eqL .pD []=some b->tE .ug .tb h=.ok b .ae:=λb e=>by
  refine aM (av rfl (cR rfl) ?_);show (match eqG .jh .di .bb with|some b=>Res.ok (D.bl b) .jh|none=>.bad)=_;have:eqG .jh .di .bb=some b:=by
   dsimp[eqG,jM,a,ZG];exact e
  rw[this]
 have fin:∀d,(∃g,d=h++g)->tOr (tE .ug) .xq .tb h=.ok true d->gr [.ref A,ca t] h=.aM h:=λd ⟨g,e⟩ q=>by
  have:=(aU (n:=2) (ds:=[.ref A,ca t]) rfl rfl<|aE<|ot<|gC i q);refine this.trans ?_;rw[e];exact bP rfl
 rcases List.eq_nil_or_concat X with e|⟨Y,s,e⟩
 ·refine fin .ae ⟨_,rfl⟩ (uo (f true ?_))
  rw[e];rfl
 ·have j:uP s t:=up s .uE
  have q:=f false (by
   unfold eqL;rw[zE (LD X),zF .uE])
  refine fin .ae ⟨_,rfl⟩ (iQ q (aM (av (ze<|.aG (aF a) (by rw[e,List.concat_eq_append,ZR];exact Ef)) (ze rfl) ?_)));have l:lexLt [(s.a:Int),s.b] [(t.a:Int),t.b]=true:=by
   rcases j with c|⟨i,m⟩
   ·rw[lexLt,zF .b];exact z3 .b
   ·rw[lexLt,zE .b,lexLt,zF .b];exact z3 .b
  show Res.ok (D.bl<|lexLt [(s.a:Int),s.b] [(t.a:Int),t.b]) _=_;rw[l]
inductive TI(n lk A:Nat)(h:Hd)(T:.ax):Nat->Sd->Hd->Prop
 |mk {i:Nat} {y z:.E} {g:Hd}:TI n lk A h T i [some .ih,some .aZ,some .di,y,z] (h ++ .lst .jr::g)
def HQ(t:Tie):(decide ((.dA).length<=(j0 t).length)&&((j0 t).take (.dA).length == .dA))=true:=by
 have e:j0 t=116::105::101::32::bg [32] [tx t.a,tx t.b,tx t.w]:=rfl;rw[e];generalize bg [32] [tx t.a,tx t.b,tx t.w]=r;simp
def HR(b:Int):(decide ((.dA).length<=(mT b).length)&&((mT b).take (.dA).length == .dA))=false:=by
 have e:mT b=98::97::114::32::bg [32] [tx b]:=rfl;rw[e];generalize bg [32] [tx b]=r;simp
def mU(p:a σ h1=.ok (.int m) d)(q:b σ d=.ok (.int (m+k:Nat)) c)(l:m+k<=1000000):fj a b σ h1=.ok ((.oU).map (λj:Nat=>D.int ((m+j:Nat):Int)),none) c:=by
 show Res.bind _ _=_;rw[p,aR];rw[q];show (if (-1000000<=(m:Int)/\(m:Int)<=1000000)/\-1000000<=((m+k:Nat):Int)/\((m+k:Nat):Int)<=1000000 then _ else _)=_;rw[zE .b];have e:(((m+k:Nat):Int)-m).toNat=k:=by omega
 rw[e];congr 2
def De(a0:1<=n)(hn:n<=30)(O:.au)(m:T.Pairwise uP)(y:.vT)(lb:.bD)(ls:.bi)(C:.qb):
  ∃g,jQ [.ref lk,.int n] h=.cC .eB:=by
 have ol:=O.len;have len:=Dc (n:=n) (T:=T) (bs:=bs) (ss:=ss);have X:.bQ .a6 [some .ih,some .aZ,none,none,none] h=.nx [some .ih,some .aZ,some .bb,none,none] .ae:=aC (cR rfl);obtain⟨r,hr⟩:∃r,bs.length+ss.length=r+1:=⟨bs.length+ss.length-1,by omega⟩;have er:(.nk).map (λj:Nat=>D.int ((1+j:Nat):Int))=(.bY T.length).map (λj:Nat=>D.int ((1+j:Nat):Int))++(D.int ((1+T.length:Nat):Int)::(.uX).map λj:Nat=>D.int ((1+.ur:Nat):Int)):=by
  rw[List.range_add,ZR,List.range_succ_eq_map];simp[Function.comp_def]
 have q2:fj .o .fu .nh .ae=.ok ((.nk).map (λj:Nat=>D.int ((1+j:Nat):Int)),none) .ae :=
  mU rfl ((dE<|.bu<|aF<|.I C).trans (by rw[len];congr 3;omega)) .b
 obtain⟨S,h3,q3,J⟩:=um (P:=TI n lk h.length h T) (g:=none) (k:=0) (all:=(.nk).map (λj:Nat=>D.int ((1+j:Nat):Int))) .bA
  (xs:=(.bY T.length).map (λj:Nat=>D.int ((1+j:Nat):Int))) (rest:=D.int ((1+T.length:Nat):Int)::(.uX).map λj:Nat=>D.int ((1+.ur:Nat):Int)) (tg:=gN 3) (b:=ii)
  (σ:=.nh) (h:=h++[.lst []]) (by
  intro i x σ h0 K z;rw[wK]at z⊢;have f:i<T.length:=by have:=(zA.mp K).1;simpa using this
  have G:x=.int ((1+i:Nat):Int):=by simpa[f] using K.symm
  subst G;cases z
  rename_i I a g
  obtain⟨t,E⟩:=q0 (T[i]);have p:t∈T:=by rw[E];exact YA f
  have u:T.take (i+1)=T.take i++[t]:=by rw[E,zXn];simp[f]
  have c:∀(v:Hd) (z:.E),v[lk]? = some .kk->.fb .h [some .ih,some .aZ,some .bb,some (.int ((1 + i:Nat):Int)),z] v=.ok (.str<|j0 t) v:=λv z e=>aL rfl rfl (aF e) (by rw[E];exact Vj f);have d:(h++cM.lst .jr :: g)[lk]? = some .kk:=.I C;have z:=OV hn O p;obtain⟨k,o,q,Z,L⟩:=rn (w:=HM) (ns:=[(t.a:Int),t.b,t.w]) .a .a .f (by
   intro i f;dsimp[y6,zYw,or_false]at f;rcases f with e|e|e<;>rw[e]
   ·exact z.a
   ·exact z.b
   ·exact z.w) (h++cM.lst .jr::g)
  obtain⟨H,F⟩:=q0 (h++cM.lst .jr::g);have A:H[h.length]?=some (.lst .jr):=by rw[F];exact fH
  rw[<-F]at q L d Z⊢;have B:sIf .rW Qu bh .r3 H=.nx .r3 H :=
   bH (.bN<|aM<|(qf (c H _ d) rfl).trans (by rw[HQ]))
  have t2:.fd .xF .r3 H=.nx .k1 (H++o) :=
   aC ((hU<|cF (aq (.bc<|c H _ d) q)<|aF L).trans rfl)
  have lt:=O.lt t p;have U:∀s∈T.take i,uP s t:=λs W=>by
   have M:=m;rw[<-List.take_append_drop (i+1) T,u,ZU,xn]at M;exact M.2.2 s W t .f
  have t3:sIf .wS fz bh .k1 (H++o)=.nx .k1 (H++o) :=
   bH (iQ (.bN<|aM<|.F<|Bg (O.ne t p) lt.1 lt.2 (O.wt t p) _)<|.bN<|aM<|.F<|RW (.I A) (y t p) U)
  have Y:(.jr).length<SZ:=by simp[SZ];omega
  have N:ed (jY .g .u) .k1 (H++o)=.nx .k1 (h ++ .lst ((T.take<|i+1).map ca)::(g++o)):=by
   refine(dj<|jx rfl (.I A) rfl (.I A) Y).trans ?_;rw[F,pJ,u,ZR];rfl
  exact⟨_,rfl,_,_,(bF B).trans ((bF t2).trans ((bF t3).trans N)),.mk⟩) (TI.mk (i:=0) (g:=[]))
 rw[wK,ZA,ZO]at J;cases J
 rename_i I a g
 rw[YN]at q3;have Q:0<bs.length:=by omega
 have c:.fb .h .hm .eB=.ok (.str<|mT bs[0]) .eB:=aL rfl rfl (aF<|.I C) (O4 (i:=0) Q);have B:ii .hm .eB=.bk .hm .eB:=by
  have e:sIf .rW Qu bh .hm .eB=.bk .hm .eB :=
   (dD<|c0 (b:=false)<|aM<|(qf c rfl).trans (by rw[HR])).trans rfl
  show ax _ _ _ _=_;unfold ax;rw[e]
 have V:i0 none .ze .cq ii (D.int ((1+T.length:Nat):Int)::(.uX).map λj:Nat=>D.int ((1+.ur:Nat):Int)) [some .c2,some .A,some .M,I,a] .eB=.nx .hm .eB:=by
  exact RU trivial rfl B
 have R:fE (fj .o .fu) .cq ii .nh .ae=.nx .hm .eB :=
  eO q2 ((congrArg (λl=>i0 none .ze .cq ii l .nh .ae) er).trans (q3.trans V))
 exact⟨g,(.n<|(bF X).trans ((bF R).trans .cc)).trans cI⟩
end
variable{d:D}
section
variable{n:Nat}{T:.ax}{bs:.c}{ss:.Q}{h:Hd}{lk:Nat}
def zf(a:h[lk]?=some (.lst L))(lt:k<L.length)(e:atI L (k:Int)=some d):iW [.ref lk,.int k] h=.ak h:=by
 have b:sIf .Dw fz bh .CB h=.nx .CB h:=bH (aM<|av rfl (dE<|.bu<|aF a)<|uq .b);exact (.n<|(bF b).trans (aE<|.aG (aF a) e)).trans aJ
def RX{x y:EF}{h a:Hd}{n m:Nat}{b l k:List D}(p:.p5)(q:.pY)(r:y σ h1=.ok (.ref m) a)(s:.mw)(t:a[m]?=some (.lst k))(z:l.length+k.length<=SZ):EG x y σ h=.e9 (a.set n<|.lst<|l++k):=by
 show Res.bind _ _=_;rw[p,aR];dsimp[q];rw[r,aR];dsimp[s,t];exact zE z
inductive BI(lk st n A:Nat)(h:Hd)(bs:List D):Nat->Sd->Hd->Prop
 |mk {i:Nat} {y z:.E} {g:Hd}:BI lk st n A h bs i [some .ih,some (.int st),some .aZ,some .di,y,z] (h ++ .lst (bs.take i)::g)
def Df(hn:n<=30)(O:T.length<=900)(lb:.bD)(ls:.bi)(bb:.ej)(I:.qb):
  ∃g,jR [.ref lk,.int ((1+T.length:Nat):Int),.int n] h=.cC (h ++ .lst .bG::g):=by
 have len:=Dc (n:=n) (T:=T) (bs:=bs) (ss:=ss);obtain⟨a,d⟩:=q0 (1+T.length);rw[<-d];have J:.c0 .a6 .xL h=.nx .mT .ae:=aC (cR rfl);have q2:fj .d .oL .mT .ae=.ok ((.s).map (λj:Nat=>D.int ((a+j:Nat):Int)),none) .ae :=
  mU rfl .cE .b
 obtain⟨C,N,q3,t⟩:=cn (P:=BI lk a n h.length h .bG) (g:=none) (k:=0) (all:=(.s).map (λj:Nat=>D.int ((a+j:Nat):Int))) .bA
  (xs:=(.s).map (λj:Nat=>D.int ((a+j:Nat):Int))) (tg:=gN 4) (b:=sK)
  (σ:=.yI) (h:=h++[.lst []]) (by
  intro i x σ Q s z;rw[wK]at z⊢;have o:i<n:=by have:=(zA.mp s).1;simpa using this
  have r:x=.int ((a+i:Nat):Int):=by simpa[o] using s.symm
  subst r;cases z
  rename_i B y g
  have c:i<bs.length:=by omega
  obtain⟨b,l⟩:=q0 (bs[i]);have K:b∈bs:=by rw[l];exact YA c
  have p:(.ec).take (i+1)=(.ec).take i++[.int b]:=by rw[l,zXn];simp[c]
  obtain⟨H,f⟩:=q0 (h++cM.lst ((.ec).take i)::g);have m:H[lk]?=some .kk:=by rw[f];exact .I I
  have v:=zf (k:=a+i) m .b (by rw[d];exact O4 c);rw[<-l]at v;obtain⟨k,e,q,M,A⟩:=rn (w:=HN) (ns:=[b]) .a .a .f (by intro i o;rw[Z5.mp o];exact bb b K) H;have u:H[h.length]?=some (.lst<|(.ec).take i):=by rw[f];exact fH
  rw[<-f];have G:.eu .yC [some .c2,some .cK,some .A,some .M,some .mU,y] H=.nx .kQ (H++e) :=
   aC (aq (.bc<|.F v) q)
  have F:sIf .Du fz bh .kQ (H++e)=.nx .kQ (H++e):=bH (aM<|.cy<|dE<|.bu<|aF A);have L:ed (EG .h .H) .kQ (H++e)=.nx .kQ (h ++ .lst ((.ec).take (i+1))::(g++e)):=by
   refine(dj<|RX rfl (.I u) rfl (.I u) A .k8).trans ?_;rw[f,pJ,p];rfl
  exact⟨_,rfl,_,_,(bF G).trans ((bF F).trans L),.mk⟩) .DS
 rw[wK,ZA,ZO]at t;cases t
 rename_i B y g
 have E:(.ec).take n=bs.map D.int:=Y9 .X;rw[E]at q3;exact⟨g,(.n<|(bF J).trans .BA).trans cI⟩
abbrev HS:Tab:=.ha
def O6(h:.h9):kW HS (eS o)=some o:=by
 rcases h with e|e|e<;>subst e
 ·rfl
 ·have:eS (some 0)=[115,116,97,121,115,32,48]:=by
   have:=y7 0;rw[jT .a]at this;show .iN++tx 0=_;rw[show (0:Int)=((0:Nat):Int) from rfl,this];rfl
  rw[this];rfl
 ·have:eS (some 1)=[115,116,97,121,115,32,49]:=by
   have:=y7 1;rw[jT .a]at this;show .iN++tx 1=_;rw[show (1:Int)=((1:Nat):Int) from rfl,this];rfl
  rw[this];rfl
def O7(o:.aF):Qw o=bw o:=by cases o<;>rfl
def Ap(hn:n<=30)(O:T.length<=900)(lb:.bD)(ls:.bi)(os:.a9)(F:.qb):
  ∃g,jc [.ref lk,.int ((1+T.length+n:Nat):Int),.int n] h=.cC (h ++ .lst .an::g):=by
 have len:=Dc (n:=n) (T:=T) (bs:=bs) (ss:=ss);obtain⟨a,f⟩:=q0 (1+T.length+n);rw[<-f];have I:.c0 .a6 .xL h=.nx .mT .ae:=aC (cR rfl);have q2:fj .d .oL .mT .ae=.ok ((.s).map (λj:Nat=>D.int ((a+j:Nat):Int)),none) .ae :=
  mU rfl .cE .b
 obtain⟨A,N,q3,s⟩:=cn (P:=BI lk a n h.length h .an) (g:=none) (k:=0) (all:=(.s).map (λj:Nat=>D.int ((a+j:Nat):Int))) .bA
  (xs:=(.s).map (λj:Nat=>D.int ((a+j:Nat):Int))) (tg:=gN 4) (b:=qx)
  (σ:=.yI) (h:=h++[.lst []]) (by
  intro i x σ Q r z;rw[wK]at z⊢;have G:i<n:=by have:=(zA.mp r).1;simpa using this
  have q:x=.int ((a+i:Nat):Int):=by simpa[G] using r.symm
  subst q;cases z
  rename_i w v g
  have c:i<ss.length:=by omega
  obtain⟨b,m⟩:=q0 (ss[i]);have L:b∈ss:=by rw[m];exact YA c
  have p:(.an).take (i+1)=(.an).take i++[bw b]:=by rw[m,zXn];simp[c]
  obtain⟨H,l⟩:=q0 (h++cM.lst ((.an).take i)::g);have o:H[lk]?=some .kk:=by rw[l];exact .I F
  have u:=zf (k:=a+i) o .b (by rw[f,<-lb];exact RV c);rw[<-m]at u;have t:H[h.length]?=some (.lst<|(.an).take i):=by rw[l];exact fH
  rw[<-l];have tb:=O6 (os b L);have E:.eu (au iW .iY) [some .c2,some .cK,some .A,some .M,some .mU,v] H=.nx .kP H :=
   aC (.F u)
  have K:∀σ:Sd,aa 5 σ H=.ok (.str<|eS b) H->xa HS .H σ H=.g8 H:=λσ e=>by
   show Res.bind _ _=_;rw[e,aR];show Res.ok (D.bl (kW HS<|eS b).isNone) H=_;rw[tb];rfl
  have y:∀σ:Sd,aa 5 σ H=.ok (.str<|eS b) H->B6 HS .H σ H=.ok (bw b) H:=λσ e=>by
   show Res.bind _ _=_;rw[e,aR];show (match kW HS (eS b) with|some d=>Res.ok (Qw d) H|none=>.bad)=_;rw[tb,<-O7]
  have C:sIf (tE<|xa HS .H) fz bh .kP H=.nx .kP H:=bH (aM<|K _ rfl);have J:((.an).take i).length<SZ:=by simp[SZ];omega
  have M:ed (jY .h<|B6 HS .H) .kP H=.nx .kP (h ++ .lst ((.an).take (i+1))::g):=by
   refine(dj<|jx rfl t (y _ rfl) t J).trans ?_;rw[l,JX,p]
  exact⟨_,rfl,_,_,(bF E).trans ((bF C).trans M),.mk⟩) .DS
 rw[wK,ZA,ZO]at s;cases s
 rename_i w v g
 have B:(.an).take n=ss.map bw:=Y9 .X;rw[B]at q3;exact⟨g,(.n<|(bF I).trans .BA).trans cI⟩
def RY(o:1<=n)(hn:n<=30)(O:.au)(p:T.Pairwise uP)(s:.vT)(lb:.bD)(ls:.bi)(os:.a9)(bb:.ej)(h:Hd):
  nT [.str .hv] h=.ok (.S).enc h:=by
 have len:=Dc (n:=n) (T:=T) (bs:=bs) (ss:=ss);have ol:=O.len;obtain⟨Q,lc⟩:=uO hn O lb ls os bb;have J:(.hv).length<=1000000:=by
  have d:=qg (sp:=10) (L:=bX n T bs ss);have f:=tJ Q;omega
 obtain⟨X,G⟩:=q0 .hv;have sp:(fA 10 X).map D.str=LLs n T bs ss:=by rw[G,FE]
 rw[<-G]at J⊢;have Y:sIf .s6 fz bh .rV h=.nx .rV h:=bH .tG;obtain⟨d,m⟩:=q0 (h++[cM.lst .f7]);have U:aD .gw (bR<|oS 10 .e) .rV h=.nx .xG d:=by
  have q:=zd (c:=10) (a:=aa 0) (σ:=[some .fo,none,none,none,none,none,none]) (h:=h) rfl J;rw[sp]at q;rw[m];exact aC (cR q (by rw[len];dsimp[SZ];omega))
 have u:d[h.length]?=some .q2:=by rw[m];exact ZG
 have s2:.bQ (au jP .fe) .xG d=.nx .xo d:=aC (.ah<|Dd o hn u);obtain⟨W,A⟩:=De o hn O p s lb ls u;obtain⟨f,l⟩:=q0 (d ++ .lst .iI::W);rw[<-l]at A;have M:.c0 (au jQ<|ad .d .d2) .xo d=.nx [some .gW,some .bb,some .aZ,some .qA,none,none,none] f:=aC (.F A);have E:f[h.length]?=some .kk:=by rw[l];exact .I u
 have C:f[d.length]?=some .ft:=by rw[l];exact fH
 obtain⟨S,F⟩:=Df hn .b lb ls bb E;obtain⟨g,k⟩:=q0 (f ++ .lst .bG::S);rw[<-k]at F;have v:∀{r:Hd} {x y z:.E},r[d.length]?=some (.lst .iI)->.a3 .o .hl [some .gW,some .bb,some .aZ,some .qA,x,y,z] r=.ok (.int ((1+T.length:Nat):Int)) r:=λ{r x y z} e=>by
  refine av rfl (dE<|.bu<|aF e) ?_;rw[ZA];congr 2
 have P:.fd .AU [some .fo,some .M,some .A,some .na,none,none,none] f=.nx [some .fo,some .M,some .A,some .na,some .qB,none,none] g:=aC (aq (.cA<|aV (v C) rfl) F);have H:g[h.length]?=some .q2:=by rw[k];exact .I E
 have I:g[d.length]?=some .ft:=by rw[k];exact .I C
 have b3:g[f.length]?=some .cr:=by rw[k];exact fH
 obtain⟨K,B⟩:=Ap hn .b lb ls os H;obtain⟨j,i⟩:=q0 (g ++ .lst .an::K);rw[<-i]at B;have Z:.eu .zd [some .gW,some .bb,some .aZ,some .qA,some .qB,none,none] g=.nx [some .gW,some .bb,some .aZ,some .qA,some .qB,some (.ref g.length),none] j:=aC (aq (.cA<|aV (.cy<|v I) rfl) B);have l4:j[h.length]?=some .kk:=by rw[i];exact .I H
 have w:j[d.length]?=some .ft:=by rw[i];exact .I I
 have R:j[f.length]?=some .cr:=by rw[i];exact .I b3
 have y4:j[g.length]?=some .dI:=by rw[i];exact fH
 have V:aD .a8 .Bx [some .fo,some .M,some .A,some .na,some .qB,some .fj,none] j=.nx .np j :=
  aC (av (v w) (.am<|p7 .a) rfl)
 have N:sIf .C6 fz bh .np j=.nx .np j :=
  bH (aM<|av (dE<|.bu<|aF l4) rfl<|yn .b)
 have s8:aS .yQ .np j=.rt (.S).enc j:=aE (aq .o0<|qb o hn O lb ls os w R y4);refine (.n<|(bF Y).trans ((bF U).trans ((bF s2).trans ((bF M).trans ((bF P).trans ((bF Z).trans ((bF V).trans ((bF N).trans s8)))))))).trans ?_;rw[i,k,l,m];simp;exact bP (pB _)
end
/---/def sg(s:.c):List Nat:=s.map λi=>if i=1 then 49 else 48
abbrev SLt(l:.m):List D:=l.map λc=>D.str [c]
def O8(h:i=0\/i=1):tx i=[if i=1 then 49 else 48]:=by
 rcases h with rfl|rfl
 ·exact(y7 0).trans (jT .a)
 ·exact(y7 1).trans (jT .a)
def pK(s:.c):(.dJ).length=s.length:=by simp[sg]
variable{s:.c}
def Dg(h:c∈sg s):c=48\/c=49:=by
 obtain⟨i,_,rfl⟩:=z0.mp h;split
 ·exact .inr rfl
 ·exact .inl rfl
def JZ(B:.p7)(h:Hd):.d0 .gp .G [] .eG .gp .ao h=.ok .jQ h:=by
 have:=bj (g:=none) (all:=s.map D.int) (tg:=gN 0) (cs:=[]) (e:=c9 .e) (h:=h) (I:=λσ=>∃a,σ = [a]) .aI (λd=>match d with | .int i=>.str .co|_=>.non) trivial (xs:=s.map D.int) (σ:=.ao) (by
  rintro x c σ ⟨a,rfl⟩;obtain⟨i,b,rfl⟩:=z0.mp c;exact⟨_,rfl,⟨_,rfl⟩,rfl,λ_=>dU rfl (by rcases B i b with rfl|rfl<;>decide)⟩) ⟨_,rfl⟩
 rw[this,wL.mpr .r,y3];congr 1;unfold SLt sg;rw[y3];apply YE;intro i b;show D.str .co=_;rw[O8 (B i b)];rfl
theorem Tl:∀l:List Nat,(.oD).flatten=l
 |[]=>rfl
 |c::l=>by simp[Tl l]
theorem WR:∀l:List Nat,((.oD).map (·.length)).sum=l.length
 |[]=>rfl
 |c::l=>by
  have:=WR l;dsimp[z5,VN,this,wI,YY];omega
def FF(p:a σ h=.ok (SLt l) h1)(b:l.length<=1000):D6 a σ h=.ok .ls h1:=by
 unfold D6;rw[p,aR];have e:mm (SLt l)=some .oD:=by
  have:=uN .oD;rwa[y3]at this
 rw[e];have:=WR l;dsimp[this,Tl];rw[zE .b]
def qi(B:.p7)(l:.kc)(h:Hd):cS [ar s] h=.ok .js h :=
 (.xC).trans aJ
def tM(B:.p7)(l:.kc)(h:Hd):bJ [ar s] h=.ok .js h :=
 (.xC).trans aJ
def WS(h:c=48\/c=49):qH [c]=some ((c:Int)-48):=by
 rcases h with rfl|rfl<;>decide
def RZ(B:.p7)(h:Hd):.d0 .jQ .G [] (oq .e) .jQ .ao h=.ok .gp h:=by
 have:=bj (g:=none) (all:=SLt .dJ) (tg:=gN 0) (cs:=[]) (e:=oq .e) (h:=h) (I:=λσ=>∃a,σ = [a]) .aI (λd=>match d with | .str [c]=>.int ((c:Int) - 48)|_=>.non) trivial (xs:=SLt .dJ) (σ:=.ao) (by
  rintro x f σ ⟨a,rfl⟩;obtain⟨c,j,rfl⟩:=z0.mp f;exact⟨_,rfl,⟨_,rfl⟩,rfl,λ_=>xt rfl (show 1<=600 by decide) (WS<|Dg j)⟩) ⟨_,rfl⟩
 rw[this,wL.mpr .r,y3];congr 1;unfold sg;rw[y3];apply YE;intro i b;rcases B i b with rfl|rfl<;>rfl
def J0(p:a σ h=.ok .js h1)(l:.kc):zQ a σ h=.ok (SLt .dJ,none) h1 :=
 FD p ⟨by rw[pK];omega,by
  rw[xb];intro c b;rcases Dg b with rfl|rfl<;>rfl⟩
def Vk(c:Nat)(k:c=48\/c=49)(h:Hd):oIn (.str [c]) (.tup [.str [48],.str [49]]) h=.aM h:=by
 rcases k with rfl|rfl<;>rfl
def O9(s:.c)(h:Hd):.d0 .jQ .G [] (ag oIn .e<|cZ .kK) .jQ .ao h=.ok ((.jQ).map λ_=>D.bl true) h:=by
 have:=bj (g:=none) (all:=SLt .dJ) (tg:=gN 0) (cs:=[]) (e:=ag oIn .e (cZ .kK)) (I:=λσ=>∃a,σ = [a]) .aI .hG trivial (xs:=SLt .dJ) (σ:=.ao) (by
  rintro x b σ ⟨a,rfl⟩;obtain⟨c,d,rfl⟩:=z0.mp b;exact⟨_,rfl,⟨_,rfl⟩,rfl,λ_=>av rfl (cX .bS) (Vk c (Dg d) h)⟩) ⟨_,rfl⟩
 rw[this,wL.mpr .r]
section
variable{w:Web}{n:Nat}{s:.c}
def Vl(F:.V):∀x∈s,x=0\/x=1:=F.op
def Aq(W:w.Ok n)(F:.V)(l:.kc)(h:Hd):kb [w.enc,.str .dJ] h=.ok .C h:=by
 have B:=Vl F;have q:rJ .yG .BB h=.ok .dz h :=
  (qT (bZ (J0 rfl l)<|O9 s h)<|zc _).trans .f
 have t:=bH (a:=fz) (b:=bh) (iQ (c0 (t:=tE (i3 .str .d)) (b:=true) .c7)<|c0<|aM q);have e:fg .Ae .BB h=.ok .C h:=hU (bZ (J0 rfl l)<|RZ B h);exact (.n<|sx t<|sx (aC e)<|sx (dj .ln) .cc).trans aJ
end
abbrev wSt:List Nat:=.k3
abbrev wPe:List Nat:=.iU
abbrev wNu:List Nat:=.sX
section
variable{G:Hd->Prop}{tg:GF}{b:SF}{e:EF}{x:D}{xs ds:List D}{σ σ' σ'':Sd}{h h':Hd}{d:D}
def Pa(g:G h):nE G tg b [] σ h=.dy h:=by unfold nE;rw[zE g]
def LE{o:Out}(g:G h)(t:.vU)(q:b σ' h=.nx σ'' h')(r:nE G tg b xs σ'' h'=o):nE G tg b .dL σ h=o:=by
 rw[<-r];unfold nE;rw[zE g];dsimp[t,q];cases xs<;>rfl
def LG(g:G h):eE G tg [] e [] σ h=.ok [] h:=by unfold eE;rw[zE g]
def HU(g:G h)(t:.vU)(q:e σ' h=.ak h)(r:eE G tg [] e xs σ' h=.dx h'):eE G tg [] e .dL σ h=.ok (d::ds) h':=by
 unfold eE;rw[zE g];dsimp[t,j5,aR,q,r,Y5]
end
def J1{x y:D}{l k:List D}{o d:.gR}(p:.mx)(q:b σ h1=.ok y c)(f:jZ c x=some (l,o))(e:jZ c y=some (k,d))
  (r:nE (λh=>d9 o l h/\d9 d k h) tg body .hj σ c=out):se a b tg body σ h=out:=by
 unfold se;dsimp[p,q,f,e];exact r
def Pb{d:Nat}{x y:D}{l k ds:List D}{o f:.gR}(p:.mx)(q:b σ h1=.ok y c)(j:jZ c x=some (l,o))(i:jZ c y=some (k,f))
  (r:eE (λh=>d9 o l h/\d9 f k h) tg [] e .hj (gJ d caps σ) c=.dx g):jw d caps a b tg [] e σ h=.dx g:=by
 unfold jw;dsimp[p,q,j,i];exact r
def uS(h:Hd)(l:.aR):jZ h (sf l)=some (l.map .str,none):=by simp[jZ,sf]
def Vm{l:List D}(e:h[k]?=some .d7):jZ h .Z=some (l,some k):=by simp[jZ,e]
def Pc(sp:fA 32 r=L)(f:r.length<=1000000)(d:L.length<=100)(h:Hd):kE [.str r] h=.cC (h++[.lst .fz]):=by
 have t:=bH (a:=fz) (b:=bh) (c0 (t:=tE (i3 .str .e)) (σ:=[some (.str r)]) (h:=h) .c7);have e:=cR (zd (c:=32) (a:=aa 0) (σ:=[some (.str r)]) (h:=h) rfl f) (by rw[sp,ZA];exact ZM d .a);rw[sp]at e;exact (.n<|sx t<|aE e).trans cI
def tN{T:qO}{d:.aR}(p:.gO)(q:T.lookup l=some d):EH T a σ h=.ok (sf d) h1:=by
 show Res.bind _ _=_;rw[p,aR];dsimp[q]
def Pd{T:qO}{d:.aR}(p:.gO)(q:T.lookup l=some d):Hj T a σ h=.g8 h1:=by
 show Res.bind _ _=_;rw[p,aR];dsimp[q,Option.isNone_some]
def R0{d:.aR}(p:a σ h=.ok (sf d) h1):N5 a σ h=.ok (.int d.length) h1:=by
 show Res.bind _ _=_;rw[p,aR];simp[sf]
def Dh{d:.aR}(p:a σ h=.ok (sf d) h1):N7 a σ h=.ok (.bl d.isEmpty) h1:=by
 show Res.bind _ _=_;rw[p,aR];cases d<;>simp[sf]
variable{c:.m}
def qj(f:h[k]?=some (.lst .lv))(n1:c≠[115,119,97,121,115])(q:ja.lookup c=some e)(l:e.length=L.length):ij [.ref k] h=.ok (sf e) h:=by
 have d:.fb .z .l8 h=.ok (.str c) h:=aL rfl rfl (aF f) .eF;have j:=λa=>bH (a:=a) (b:=bh) (aM<|av d (rfl:fC (.str .nb) .l8 h=_) .sE);have m:=bH (a:=fz) (b:=bh) (aM<|Pd d q);have i:=bH (a:=fz) (b:=bh) (aM (av (g:=oNe) (av (g:=gy) (dE<|cF (a:=aa 0) rfl<|aF f) (rfl:fC (.int 1) .l8 h=_) rfl) (R0<|tN d q) ((qU _ _ _).trans (by
  rw[l];have:(((c::L).map D.str).length:Int)-1=(L.length:Int):=by simp
  show Res.ok (D.bl<|!decide ((((c::L).map D.str).length:Int)-1=(L.length:Int))) h=Res.ok (D.bl false) h;rw[this,z3 rfl];rfl))))
 exact (.n<|sx (j _)<|sx m<|sx i<|aE<|tN d q).trans aJ
def Tm(n1:kd≠wSt)(a:kd≠[115,116,97,121])(b:.gP)(h:Hd):fw [.str kd,.str .co] h=.aM h:=by
 have t:(.qY) [some (.str kd),some .lu] h=.ok false h :=
  iQ (aM<|.am .sE) (j8<|aM<|.am<|(.go).trans (by rw[z4 a]))
 exact (.y2).trans aJ
section
variable{w:Web}
def n60{i:Nat}(h:i<=30):(.ml).natAbs<10^60:=ZS (show (.ml).natAbs<=30 by omega) .a
def FH(i:Int):tx i≠[102,114,101,101]:=λe=>by
 have:=OR i 102 .uE;omega
def Pe(n1:kd≠wSt)(b:.gP)(h:Hd):gW [w.enc,.str kd,.str .co] h=.ok .v h:=by
 have t:(.Aj) .zR h=.dr h:=aM (.am .sE);have u:(.D2) .zR h=.dr h:=aM .y6;exact (.n<|sx .nT<|aE<|(pv u).trans (xt rfl (by have:=dM i b;omega)<|tI i)).trans aJ
def WT(x:.m)(h:Hd):fw [.str wSt,.str x] h=.ok .dz h :=
 (.n<|dS (d:=.bl true) (h':=h)<|(dD (h1:=h)<|uo .c7).trans .cc).trans aJ
def WU(W:w.Ok n)(F:.V)(l:.kc)(h:Hd):gW [w.enc,.str wSt,.str .dJ] h=.ok .C h :=
 (.n<|dS<|(dD (h1:=h) .c7).trans (aE<|.F<|Aq W F l h)).trans aJ
def WV(h:Hd):fw [.str .d9,.str .k0] h=.ok .dz h :=
 (.n<|dS<|(dD<|iQ .c7<|gC .c7 .c7).trans .cc).trans aJ
def WW(b:.gP)(h:Hd):fw [.str .d9,.str .co] h=.aM h:=by
 have t:(.qY) [some (.str .d9),some .lu] h=.ok false h :=
  iQ .c7 (gC .c7<|aM .y6)
 exact (.y2).trans aJ
def WX(h:Hd):gW [w.enc,.str .d9,.str .k0] h=.ok .non h :=
 (.n<|sx .li<|aE<|(nI .c7).trans rfl).trans aJ
structure TOf(w:Web)(g:Hd)(z:List Nat × List Nat × D):Prop where
 wr:fw [.str z.1,.str z.2.1] g=.aM g
 pe:z.1=wPe->∃p:Int,qH z.2.1=some p/\z.2.1.length<=600/\dz .hL g=.aM g
 th:gW [w.enc,.str z.1,.str z.2.1] g=.ok z.2.2 g
abbrev rw2(Z:List .gb):List D:=Z.map λz=>.tup [.str z.1,.str z.2.1]
theorem Vn{a b c:D}(h:G g):∀{Z:List .gb} {x y:.E},(∀z∈Z,body .x1 g=.nx .x1 g)->∃f d,nE G .jM body (rw2 Z) [some a,some b,some c,x,y] g=.nx [some a,some b,some c,f,d] g
 |[],x,y,_=>⟨x,y,Pa h⟩
 |z::Z,x,y,H=>by
  obtain⟨f,d,e⟩:=Vn h λj i=>H j (.tail _ i);exact⟨f,d,LE h rfl (H z .ep) e⟩
theorem Tn(a:G g):∀{Z:List .gb} {x y:.E},(∀z∈Z,TOf w g z)->eE G .bI [] (au gW .hR) (rw2 Z) [x,y,some w.enc] g=.ok (Z.map (·.2.2)) g
 |[],x,y,_=>LG a
 |z::Z,x,y,H=>HU a rfl (aq .b8 (H z .ep).th) (Tn a λb h'=>H b (.tail _ h'))
abbrev kz(Z:List .gb):List D:=Z.map λz=>D.str z.1
abbrev wz(Z:List .gb):List D:=Z.map λz=>D.str z.2.1
theorem Vo:∀Z:List .gb,(((kz Z).zip (wz Z)).map λp=>D.tup .gB)=rw2 Z
 |[]=>rfl
 |z::Z=>by dsimp[z5,zXj,Vo Z]
def jE{l:D}(u:Z.length<=100)(f:jZ g l=some (kz Z,none))(m:g[k]?=some (.lst<|wz Z))(H:∀z∈Z,TOf w g z):fV [w.enc,l,.ref k] g=.ok .fj (g++[.lst (Z.map (·.2.2))]):=by
 have e:=Vm m;have j:d9 none (kz Z) g/\.qS g:=⟨trivial,m⟩;obtain⟨a,b,n⟩:=Vn (G:=λh=>d9 none (kz Z) h/\.qS h) (body:=sN) j λz i=>(bH<|.bN<|aM<|aq .bS (H z i).wr).trans rfl;obtain⟨c,d,q⟩:=Vn (G:=λh=>d9 none (kz Z) h/\.qS h) (body:=sM) (a:=w.enc) (b:=l) (c:=.ref k) (g:=g) j (Z:=Z) (x:=a) (y:=b) λz i=>by
  by_cases c:z.1=wPe
  ·obtain⟨p,s,r,t⟩:=(H z i).pe c
   exact(bH<|gC (aM<|.am<|(.go).trans (by rw[z3 c]))<|.bN<|aM<|aq (.bc<|xt rfl r s) t).trans rfl
  ·exact(bH<|j8<|aM<|.am<|(.go).trans (by rw[z4 c])).trans rfl
 rw[<-Vo]at n q;have o:=Tn (G:=λh=>d9 none (kz Z) h/\.qS h) (x:=none) (y:=none) j H;rw[<-Vo]at o;exact (.n<|sx (J1 rfl rfl f e n)<|sx (J1 rfl rfl f e q)<|aE<|cR (Pb rfl rfl f e o) (by rw[ZA];exact ZM u .a)).trans cI
end
variable{p:Nat}
def iK{w:Web}(W:w.Ok n)(hp:p<n)(h:Hd):dq .hL h=.e9 h:=by
 have e:(p:Int)<=(n:Int)-1:=by omega
 have q:dz .hL h=.aM h:=by simp[dz,bB,runB,rk W,dF,e]
 simp[dq,bB,runB,q]
def J2{l:List D}(b:∀g,aa 3 σ g=.cC g)(c:∀g,aa 1 σ g=.ok (.int p) g)(a:∀g,aa 2 σ g=.ak g)(hp:p<l.length):jX .h .d .g σ (h++[.lst l])=.nx σ (h++[.lst (l.set p d)]) :=
 (lO (k:=p) (a _) (b _) (c _) .gz (by simp[ixN,hp])).trans (by rw[hV rfl])
def at3{a b c:cM}:.on[h.length]?=some a/\.on[(h++[a]).length]?=some b/\.on[(h++[a]++[b]).length]?=some c:=⟨.I (.I ZG),.I ZG,ZG⟩
def go3{a b c:cM}(w:Web):.a1 (.ok w.enc .on)=.ok w.enc h:=by rw[ZU,ZU];exact bP (pB _)
def FI(e:1<=n)(hn:n<=30)(O:.au)(lb:.bD)(ls:.bi)(os:.a9)(hp:p<n)(x:Int)(h:Hd):
  nR [(.S).enc,.int p,.int x] h=.ok (bA n T (bs.set p x) ss).enc h:=by
 have W:=.g4 ls;have i:=jK hn O lb ls (h++[.lst .s9]);have c:=nP W h;have f:=lm W (h++[.lst .s9]++[.lst .lT]);have j:=qb e hn (.hZ).1 (bs:=bs.set p x) (by simp[lb]) ls os at3.2.1 at3.1 (at3 (h:=h) (a:=.lst .s9) (b:=.lst .lT)).2.2;rw[rj hn O]at j;have g:=J2 (h:=h) (l:=bs.map .int) (p:=p) (d:=.int x) (σ:=[some (.S).enc,some (.int p),some .gX,some .bb]) .jK .jK .jK (by simp[lb,hp]);rw[<-List.map_set]at g;have k:(.S).bars=bs:=rfl;have m:(.S).stays=ss:=rfl;obtain⟨w,o⟩:=q0 .S;rw[<-o]at W i c f k m g⊢;rw[k]at c;rw[m]at f;exact (.n<|sx .Co<|sx (aC<|.ah c)<|sx g<|aE<|aq (aw .uf<|aw .pA<|.bc .pB) j).trans (go3 _)
def HV(p:a σ h=.ok .Z h1)(q:h1[k]?=some .kn):AI a σ h=.ak h1:=by
 show Res.bind _ _=_;rw[p,aR];dsimp[q]
def LH(c:32∉a)(d:.qf):fA 32 .ji=a::L:=jN .f λp b=>by
 rcases y6.mp b with e|e
 ·rw[e];exact c
 ·exact d p e
def R1(d:.mB)(f:.mr)(l:.qp):(.ji).length<=1000000:=by
 have g:=qg (sp:=32) (L:=a::L);have c:=tJ λx b=>by
  rcases y6.mp b with e|e
  ·rw[e];exact d
  ·exact f x e
 dsimp[wI]at g c;omega
section
variable{w:Web}{n:Nat}{s:.c}{h:Hd}{dk:Nat}
def FJ(hd:.bK)(m:32∉c)(u:.qf)(v:c.length<=200)(q:.mr)(j:.qp)
  (z:∀(g:Hd) (k:Nat),g[k]?=some (.lst .lv)->ij [.ref k] g=.ok fd g)
  (th:.vl) {o:Out} {rest:SF}
  (r:∀g:Hd,g=h++[.lst .lv,.lst .fz,.lst ths]->rest [some .jy,some (.str .uo),some .M,some .sC] g=o) :
  (ax .DQ
  (ax .wY rest)) [some .jy,some (.str .uo),none,none] h=o:=by
 have d:=Pc (LH m u) (R1 v q j) .X h;obtain⟨R,e⟩:=q0 .uo;obtain⟨a,b⟩:=q0 (h++[.lst .lv]:Hd);rw[<-e,<-b]at d;rw[<-e]at r⊢;have f:a[h.length]?=some (.lst .lv):=by rw[b];simp
 have i:a[dk]?=some .kM:=by rw[b];exact .I hd
 have y:=z a h.length f;have p:eA .g (pAt .o) pNo [some .jy,some (.str R),some .M,none] a=.ok (.ref a.length) (a++[.lst .fz]):=qh rfl (by rw[f,z5]);have t:=th (a++[.lst .fz]) a.length .f;have l:(a++[cM.lst .lR]).length=h.length+2:=by rw[b];simp
 rw[l]at t;refine sx (aC<|.ah d) (sx (aC<|aq (aw (HV rfl i)<|aV (.ah y) p) t) ?_);exact r _ (by rw[b];simp)
def in3(p:a σ g=.ok (.str b) g)(n1:b≠[116,105,101])(c:b≠[98,97,114])(d:b≠[115,116,97,121]):(tE<|ag oIn a .q3) σ g=.dr g:=by
 refine aM (av p (cX .b8) ?_);have f:∀k:List Nat,b≠k->(k == b)=false:=λk z=>beq_eq_false_iff_ne.mpr (wh z);show Res.ok (D.bl ((.gg:.m) == b||(.hF == b||(.d9 == b||false)))) g=_;rw[f _ n1,f _ c,f _ d];rfl
abbrev inT:TF:=tE (ag oIn .hp .q3)
def xu{P:List Nat->Prop}(hd:.bK)(i:32∉a)(p:.qf)(q:.mB)(o:.mr)(f:.qp)
  (r:.vP) (j:a≠[98,97,114]) (l:.vI)
  (t:.D9)
  (th:.vl)
  (c:∀(g:Hd) (k:Nat),g[k]?=some (.lst ths)->∃x,P x/\mL .ti g=.g9 g) :
  ∃x,P x/\bp [.ref dk,.str .ji] h=.g9 h:=by
 obtain⟨x,u,c⟩:=c (h++[.lst .i9,.lst .fz,.lst ths]) (h.length+2) .f;refine⟨x,u,(aU (h':=h++[.lst .i9,.lst .fz,.lst ths]) rfl rfl (FJ hd i p q o f t th λg b=>?_)).trans .fL⟩;rw[<-b]at c;obtain⟨R,m⟩:=q0 .ji;rw[<-m];have v:g[h.length]?=some (.lst .i9):=by rw[b];simp
 have d:g[dk]?=some .kM:=by rw[b];exact .I hd
 have e:.fa .z [some .jy,some (.str R),some .M,some .sC] g=.ok .dd g:=aL rfl rfl (aF v) .eF;rw[<-b];exact sx ((bH<|in3 e r j l).trans rfl) (aE<|aq (aw (HV rfl d)<|aV e rfl) c)
end
section
variable{w:Web}{n:Nat}{s:.c}{h:Hd}{dk:Nat}
def R3(w:Web):xD .kM=true:=by
 show io .aQ=true;dsimp[io,pB,Bool.and_true]
def Pf{w':Web}(e:pure? d=true)(b:dk<h.length):.a1 (.ak<|(.aj).set dk .tx)=.ak (h.set dk .tx):=by
 rw[List.set_append_left _ _ b];refine K6 e .f λk c f a=>?_;rw[ZC (by simpa using f)]at a
 by_cases z:dk=k
 ·subst z
  rw[wJ b]at a;cases a;exact .inr (R3 w')
 ·rw[ZP z]at a
  exact .inl a
def J3{x e:EF}{l:List D}(p:e σ g=.ak b)(q:x σ b=.ok .jy a)(r:a[dk]?=some (.ob l))(c:l.length<=1):D5 x e σ g=.dy (a.set dk .kn):=by
 unfold D5;dsimp[p,q,outE,r]
 match l,c with
 |[],_=>rfl
 |[_],_=>rfl
def R4(d:1<=n)(hn:n<=30)(O:.au)(a:T.Pairwise uP)(c:.vT)(lb:.bD)(ls:.bi)(os:.a9)(bb:.ej)(hd:h[dk]?=some (.ob [])):
  eD [.ref dk,.str .hv] h=.e9 (h.set dk .nJ):=by
 have r:=RY d hn O a c lb ls os bb h;obtain⟨R,e⟩:=q0 .hv;rw[<-e]at r⊢;exact(Oq rfl rfl<|J3 (.ah r) rfl hd .f).trans K5
def Di{w':Web}(hd:.bK)(m:32∉a)(q:.qf)(r:.mB)(p:.mr)(l:.qp)
  (u:a=.gg\/a=.hF\/a=.d9)
  (v:.D9)
  (th:.vl)
  (ch:∀(g:Hd) (k:Nat),g[k]?=some (.lst ths)->jL .ti g=.ok w'.enc g) :
  bp [.ref dk,.str .ji] h=.ok (.str .md) (h.set dk .tx):=by
 have A:dk<h.length:=(zA.mp hd).1;refine(aU (d:=.str .md) (h':=(h++[cM.lst .i9,cM.lst .fz,cM.lst ths]).set dk (.ob [w'.enc])) rfl rfl (FJ hd m q r p l v th λg e=>?_)).trans (Pf rfl A);obtain⟨R,o⟩:=q0 .ji;rw[<-o,<-e];have z:g[h.length]?=some (.lst .i9):=by rw[e];simp
 have y:g[h.length+2]?=some (.lst ths):=by rw[e];simp
 have c:g[dk]?=some .kM:=by rw[e];exact .I hd
 obtain⟨σ,b⟩:=q0 ([some (.ref dk),some (.str R),some .bb,some (.ref<|h.length+2)]:Sd);rw[<-b];have f:aa 0 σ g=.ok (.ref dk) g:=by rw[b];rfl
 have j:aa 3 σ g=.ok .sC g:=by rw[b];rfl
 have i:.fa .z σ g=.ok (.str a) g:=aL (by rw[b];rfl) rfl (aF z) .eF;have t:inT σ g=.ds g:=aM (av i (cX .b8) (by rcases u with rfl|rfl|rfl<;>rfl));exact dS ((dD t).trans (sx (J3 (aq (aw (HV f c)<|aV i j)<|ch g _ y) f c .f) .cc))
end
def Yj{t:TF}(e:t σ h=.ds h'):sIf t a b σ h=a σ h':=by simp[sIf,e]
def Vp{t:TF}(e:t σ h=.dr h'):sIf t a b σ h=b σ h':=by simp[sIf,e]
def yc1(ns:.c)(k:Nat)(e:k<ns.length)(h:Hd):bW [.lit .c6,.int k] h=.ok (.int ns[k]) h:=by
 have a:=lh (f:=D.int) e;simp[bW,bB,runB,e,a]
def LJ(e:(sml x||sml y)=true)(h:Hd):dI .gX (.int y) h=.ok (.int<|x*y) h:=by
 dsimp[dI,oIc,e,Y5]
def yc2(ns:.c)(K:Int)(e:¬K<(ns.length:Int))(d:sml K=true)(h:Hd):bW [.lit .c6,.int K] h=.ok (.int<|71*K*K+7*K) h:=by
 have i:∀h,dI (.int 71) (.int K) h=.ok (.int<|71*K) h:=λh=>LJ .uT h;have f:∀h,dI (.int (71*K)) (.int K) h=.ok (.int<|71*K*K) h:=λh=>LJ .uT h;have g:∀h,dI (.int 7) (.int K) h=.ok (.int<|7*K) h:=λh=>LJ .uT h;generalize 71*K=a at i f⊢;generalize a*K=b at f⊢;generalize 7*K=c at g⊢;simp[-dI,bW,bB,runB,e,i,f,g]
def BK(ns:.c)(k:Nat)(a:k<=63):∃v,∀h,bW [.lit .c6,.int k] h=.ok .cs h:=by
 by_cases e:k<ns.length
 ·exact⟨_,yc1 ns k e⟩
 ·exact⟨_,yc2 ns k .b (xo .b .b)⟩
def R5(c way base:Int)(m:Nat)(hm:m<=1000)(o:0<base)(b1:base<2^250)(h:Hd):∃l:List Int,eR [.int c,.int way,.int m,.int base] h=.ok .M .oF/\l.length=m/\∀x∈l,0<=x/\x<base:=by
 obtain⟨A,B⟩:=q0 .eg;obtain⟨j,p⟩:=q0 (if way%2=1 then c%2147483629*48271%2147483647 else c:Int)
 have zb:way%2=1->0<=j/\j<4611686018427387904:=λe=>by
  rw[p,zE e];exact⟨zYi _ .a,Int.lt_trans (zZq _ .a) .a⟩
 obtain⟨σ',G,L,l,z,y,U,W,H,k5,k6⟩:=cn (P:=λi σ G=>∃(l:.c) (z:Int) (y:.E),σ=[some .e1,some .gV,some (.int m),some (.int base),some .di,some (.int z),y]/\G=h++[.lst .gf]/\l.length=i/\(∀x∈l,0<=x/\x<base)/\(way%2=1->0<=z/\z<4611686018427387904)) (g:=none) (k:=0)
   .bA
   (tg:=gN 6) (σ:=.re) (h:=h++[.lst []]) (b:=yF) (by
   rintro i x σ d a ⟨l,z,y,rfl,s,w,J,N⟩;obtain⟨S,rfl⟩:=gq a;rw[wK]at w⊢;have u:d[A]?=some .mF:=by rw[s];exact eu B _
   have I:(.hM).length<SZ:=by rw[ZA,w];exact Z1 S (ZS hm .a)
   have t:∀v:Int,d.set A (.lst<|l.map .int++[.int v])=h++[.lst ((l++[v]).map .int)]:=λv=>by rw[s,hV B,ZR];rfl
   have K:∀q:Int,(0<=q%base/\q%base<base):=λq=>⟨zYi q (Int.ne_of_gt o),zZq q o⟩
   by_cases e:way%2=1
   ·have r:=N e
    have O:sml z=true:=xo r.1 r.2;have Z:sml 69621=true:=by decide
    have E:sml 11=true:=by decide
    obtain⟨f,n⟩:=q0 ((z*z+69621*z+11*i+5)%2147483549);have c1:0<=f:=by rw[n];exact zYi _ .a
    have Y:f<2147483549:=by rw[n];exact zZq _ .a
    refine⟨_,rfl,.w4,_,?_,l++[f/7%base],f,_,rfl,rfl,by simp[w],λx a=>?_,λ_=>⟨c1,Int.lt_trans Y .a⟩⟩
    ·rw[<-t]
     have R:.eu .wl .kJ d=.nx .w4 d:=by
      rw[n];exact aC (.io<|.cy<|av (av (.am<|p7 O) (.am<|p7 Z) rfl) (.am<|p7 E) rfl)
     have C:tE .k5 .kJ d=.ds d:=aM (av .c3 rfl<|CJ e);show sIf _ _ _ .kJ d=_;rw[Yj C,cy R];exact dj (jx rfl u (av .eA rfl<|c8 o) u I)
    ·rcases Z3.mp a with a|a
     ·exact J x a
     ·simp at a;subst a;exact K _
   ·refine⟨_,rfl,[some .aD,some .av,some (.int m),some .i6,some .ar,some (.int<|z/base),some .v],_,?_,l++[z%base],z/base,_,rfl,rfl,by simp[w],λx a=>?_,λq=>absurd q e⟩
    ·rw[<-t]
     have C:tE .k5 .kJ d=.dr d:=aM (av .c3 rfl<|uq e);show sIf _ _ _ .kJ d=_;rw[Vp C];exact(cy<|dj<|jx rfl u (.am<|c8 o) u I).trans (aC<|.am<|f6 o b1)
    ·rcases Z3.mp a with a|a
     ·exact J x a
     ·simp at a;subst a;exact K _) ⟨[],j,none,rfl,rfl,rfl,by simp,zb⟩
 have V:0+((.bY m).map λk:Nat=>D.int k).length=m:=by simp
 rw[V]at H;refine⟨l,?_,H,k5⟩;have T:.fd .a6 .xR h=.nx .xE .ae:=aC (k7 B rfl .dM);have s2:.eu .e .xE .ae=.nx .xu .ae:=rfl;have M:sIf (tE .k5) .wy bh .xu .ae=.nx .re .ae:=by
  have F:sml 48271=true:=by decide
  rw[p]
  by_cases e:way%2=1
  ·rw[zE e];exact(dD<|aM<|av .c3 rfl<|CJ e).trans (aC<|.io<|av .c3 rfl<|Rx F)
  ·rw[zF e];exact bH (aM<|av .c3 rfl<|uq e)
 have Q:fE (cr .g) .a8 yF .re .ae=.nx .xp .oF:=by
  rw[U,W]at L;exact eO (eM rfl hm) L
 have X:aS .u .xp .oF=.rt .ar .oF:=aE rfl;have t:((.zH).map some++List.replicate (7 - (.zH).length) none:Sd)=.xR:=rfl;unfold eR bB runB;rw[zE .h4,t,cy T,cy s2,cy M,cy Q,X,<-B];exact cI
/---/def im(M:.aJ)(n i:Nat):List Int:=(.s).map (M i)
/---/def je(M:.aJ)(a b:Nat)(v:Int):Nat->Nat->Int:=λi j=>if i=a/\j=b then v else M i j
structure j2(A n:Nat)(M:.aJ)(h:Hd):Prop where
 ro:∀i,i<n->h[A+i]?=some (.lst<|(.hS).map .int)
 ti:h[A+n]?=some (.lst .hs)
structure MOk(M:.aJ):Prop where
 sym:∀i j,M i j=M j i
 bd:∀i j,0<=M i j/\M i j<=400
 no:∀i,M i i=0
def Pg(M:.aJ)(n a b:Nat)(v:Int)(i:Nat):im (je M a b v) n i=if i=a then (im M n a).set b v else im M n i:=by
 by_cases e:i=a
 ·subst e
  rw[zE rfl];apply VM;intro j
  by_cases c:j<n
  ·by_cases d:j=b
   ·subst d
    rw[wJ (by simp[im,c])];simp[im,je,c]
   ·rw[ZP .b]
    simp[im,je,c,d]
  ·rw[wM (by simp[im];omega),wM (by simp[im];omega)]
 ·rw[zF e]
  apply YE;intro j _;simp[je,e]
variable{b:Nat}
theorem j2.put(m:j2 A n M h)(d:a<n)(v:Int):j2 A n (je M a b v) (h.set (A+a)<|.lst<|(.n9).set b .cs) where
 ro:=λi c=>by
  rw[Pg]
  by_cases e:i=a
  ·subst e
   rw[zE rfl,wJ (zA.mp<|m.ro i c).1,zYx]
  ·rw[zF e,ZP (λz=>e (zZm z).symm)];exact m.ro i c
 ti:=by rw[ZP (λz=>ZN d (zZm z))];exact m.ti
def j2.more(m:j2 A n M h)(g:Hd):j2 A n M .aj:=by
 have k:∀{i:Nat} {x:cM},h[i]?=some x->.aj[i]?=some x:=λ{i x} e=>by
  rw[ZC (.cN).1];exact e
 exact⟨λi a=>k (m.ro i a),k m.ti⟩
def j2.set(m:j2 A n M h)(b:A+n<k)(c:cM):j2 A n M (h.set k c) :=
 ⟨λi a=>by rw[ZP .b];exact m.ro i a,by rw[ZP .b];exact m.ti⟩
theorem MOk.put(o:MOk M)(ne:a≠b)(c:0<=v)(h1:v<=400):MOk (je (je M a b v) b a v) where
 sym:=λi j=>by
  dsimp[je]
  by_cases q:i=b/\j=a
  ·rw[zE q]
   by_cases r:j=b/\i=a
   ·rw[zE r]
   ·rw[zF r,zE ⟨q.2,q.1⟩]
  ·rw[zF q]
   by_cases p:i=a/\j=b
   ·rw[zE p,zE ⟨p.2,p.1⟩]
   ·rw[zF p,zF λz=>p ⟨z.2,z.1⟩,zF λz=>q ⟨z.2,z.1⟩];exact o.sym i j
 bd:=λi j=>by
  dsimp[je];split
  ·exact⟨c,h1⟩
  ·split
   ·exact⟨c,h1⟩
   ·exact o.bd i j
 no:=λi=>by
  dsimp[je];rw[zF λz=>ne (z.2.symm.trans z.1),zF λz=>ne (z.1.symm.trans z.2)];exact o.no i
def Yk{t:Int}(h:0<=t/\t<803):0<=.ss/\.ss<=400:=by split<;>omega
variable{j:Nat}
def Dj(a:j<n):atI ((.hS).map D.int) (j:Int)=some .tz:=by
 rw[lh (by simp[im,a])];simp[im]
def BM{i:Nat}(hi:i<n):atI ((.s).map λi=>D.ref (A+i)) (i:Int)=some (.ref<|A+i):=by
 refine dN ?_;simp[hi]
def To{a f b d c:.E}{r:Sd}(e:(sml O||sml N)=true)(h:Hd):.bn .L .h .yL h=.ok (.int<|O*N) h:=by
 rw[show ag dI .L .h .yL h=dI (.int O) (.int N) h from rfl];exact LJ e h
variable{way:Int}
def q1{tk one i:Nat}{t q:Int}{c b:.E}(f:E .wR a=.ok (.int q) a)(g:a[tk]?=some (.lst e))(d:atI e (q+i)=some (.int t)):.cZ (ub .z<|ag gy .Cn<|fC<|.int 402) .wR a=.nx [some S0,some p1,some .av,some .A,c,some .bX,some .eb,some .v,some (.int .ss),none,none,none] a:=by
 exact aC (U7 rfl<|av (aL rfl (.cy f) (aF g) d) rfl rfl)
def q2{tk one i:Nat}{t y q d:Int}{c:.E}(g:E .wD a=.ok (.int q) a)(h:a[tk]?=some (.lst f))(b:atI f (q+i)=some (.int t))(e:way/64%2=1)(j:atI [D.int 0,.int 0,.int 1,.int 1,.int 2,.int 3,.int 1] (t%7)=some .jq):sIf .mY (.cZ<|fIx (ad .z<|ad .z<|ad .o<|ad .o<|ad .J<|ad .a5 .gd)<|.aH .Cn .hn) bh .wD a=.nx [some S0,some p1,some .av,some .A,c,some .bX,some .eb,some .v,some .jq,none,none,none] a:=by
 exact(dD<|aM<|av (.io .eA) rfl<|CJ e).trans (aC<|iq (aw rfl<|aw rfl<|.cA .o0) (.io<|aL rfl (.cy g) (aF h) b) j)
def q3{tk one i:Nat}{c:.E}{b:Hd}(e:¬way/64%2=1):sIf .mY B bh .wH b=.nx .wH b:=by
 exact bH (aM<|av (.io .eA) rfl<|uq e)
def R6{j:.c}(h1:one<n)(hn:n<=30)(tl:j.length=n*n)(tb:∀x∈j,0<=x/\x<803)(J:A+n<tk){M:.aJ}(O:MOk M)(m:j2 A n M h)(ht:h[tk]?=some .vZ){S0 p1:D}{a b:.E}{L:Nat}(hL:h.length=L):
  ∃p h' F u,i0 none ((.bY one).map λk:Nat=>D.int k) .lK rc ((.bY one).map λk:Nat=>D.int k) [some S0,some p1,some .av,some .A,some .hB,some .bX,some .eb,a,b,none,none,none] h
   = .nx [some S0,some p1,some .av,some .A,some .hB,some .bX,some .eb,F,u,none,none,none] h'/\MOk p/\j2 A n p h'/\h'[tk]?=some .vZ/\h'.length=L:=by
 obtain⟨σ',h',k1,p,F,u,Y,k3,W,k5,k6⟩:=cn (P:=λi σ h'=>∃(p:.aJ) (a b:.E),σ=[some S0,some p1,some .gV,some .aZ,some .qI,some .kp,some (.int one),a,b,none,none,none]/\MOk p/\j2 A n p h'/\h'[tk]?=some .vZ/\h'.length=L) (g:=none) (k:=0)
   .bA
   (tg:=gN 7) (σ:=[some S0,some p1,some .av,some .A,some (.ref<|A + n),some .bX,some .eb,a,b,none,none,none]) (h:=h) (b:=rc) (by
   rintro i x σ d U ⟨M1,a,b,rfl,O1,z,B,T⟩;obtain⟨I,rfl⟩:=gq U;have c:i<n:=Z1 I h1;have lt:one*n+i<j.length:=by
    rw[tl];exact ZY (zXd c _) (by rw[<-Nat.succ_mul];exact zYs n h1)
   have o:atI (j.map D.int) ((one:Int)*n+i)=some (.int j[one*n+i]):=by
    have:=lh (f:=D.int) lt;rw[show (one:Int)*n+i=((one*n+i:Nat):Int) by rw[Int.natCast_add,Int.natCast_mul]];exact this
   have q:=tb _ (YA lt);generalize j[one*n+i]=t at o q;have H:sml (n:Int)=true:=xo (ve n) (Int.lt_of_le_of_lt .o4 .a);obtain⟨l,r⟩:=q0 (if t-402>0 then t-402 else 0:Int)
   have w:0<=l/\l<=400:=by rw[r];exact Yk q
   have X:.cZ .xb .wG d=.nx [some S0,some p1,some .av,some .A,some .hB,some .bX,some .eb,some .v,some (.int l),none,none,none] d:=by
    rw[r];exact q1 (E:=.bn .L .h) (To (by rw[H,zYt]) d) B o
   obtain⟨v,K,s2⟩:∃v:Int,(0<=v/\v<=400)/\sIf .mY .wj bh [some S0,some p1,some .gV,some .aZ,some .qI,some .kp,some (.int one),some .cS,some (.int l),none,none,none] d=.nx [some S0,some p1,some .gV,some .aZ,some .qI,some .kp,some (.int one),some .cS,some (.int v),none,none,none] d:=by
    by_cases e:way/64%2=1
    ·obtain⟨y,R,N⟩:=WN D.int [0,0,1,1,2,3,1] (x:=t%7) (zYi t .a) (zZq t .a)
     dsimp[z5,zo]at N;refine⟨y,by simp at R;rcases R with rfl|rfl|rfl|rfl|rfl<;>decide,?_⟩;exact q2 (E:=.bn .L .h) (To (by rw[H,zYt]) d) B o e N
    ·refine⟨l,w,?_⟩
     exact q3 e
   have Q:∀(M:.aJ) (i:Nat),(.hS).length=n:=λM i=>by simp[im]
   have ne:one≠i:=Z9 I;have C:=z.put (b:=i) h1 v;have m3:=C.put (b:=one) c v;have s:=z.ro one h1;have G:=C.ro i c;have a1:=BM (A:=A) h1;have Z:=BM (A:=A) c;have S:jX (fAt .u .L) .ay .bz .kF d=.nx .kF .rp:=by
    exact lO rfl (.aG (aF z.ti) a1) rfl s (xq (by rw[ZA,Q];exact c))
   have V:jX (fAt .u .ay) .L .bz .kF .rp=.nx .kF ((.rp).set (A+i) (.lst<|((im (je M1 one i v) n i).map .int).set one .cs)):=by
    exact lO rfl (.aG (aF C.ti) Z) rfl G (xq (by rw[ZA,Q];exact h1))
   refine⟨_,rfl,.kF,_,?_,je (je M1 one i v) i one v,_,_,rfl,O1.put ne K.1 K.2,m3,?_,by simp[T]⟩
   ·show ax _ _ .wG d=_
    rw[cy X,cy s2,cy S,V]
   ·exact(ZP<|ZN<|Z1 (zXd c A) J).trans ((ZP<|ZN<|Z1 (zXd h1 A) J).trans B)) ⟨M,a,b,rfl,O,m,ht,hL⟩
 exact⟨p,h',F,u,by rw[k1,Y],k3,W,k5,k6⟩
def R7{e:.c}(hn:n<=30)(E:e.length=n*n)(tb:∀x∈e,0<=x/\x<803)(G:A+n<tk){M:.aJ}(O:MOk M)(m:j2 A n M h)(ht:h[tk]?=some (.lst<|e.map .int)){S0 p1:D}{L:Nat}(K:h.length=L):
  ∃d h' c a b,i0 none ((.s).map λk:Nat=>D.int k) .a8 nM ((.s).map λk:Nat=>D.int k) [some S0,some p1,some .av,some .A,some .hB,some .bX,none,none,none,none,none,none] h
   = .nx [some S0,some p1,some .av,some .A,some .hB,some .bX,c,a,b,none,none,none] h'/\MOk d/\j2 A n d h'/\h'.length=L:=by
 obtain⟨σ',h',H,d,J,C,l,v,y,p,R,z⟩:=cn (P:=λi σ h'=>∃(d:.aJ) (c a b:.E),σ=[some S0,some p1,some .gV,some .aZ,some .qI,some .kp,c,a,b,none,none,none]/\MOk d/\j2 A n d h'/\h'[tk]?=some (.lst<|e.map .int)/\h'.length=L) (g:=none) (k:=0)
   .bA
   (tg:=gN 6) (h:=h) (b:=nM) (by
   rintro i x σ Q o ⟨M1,c,a,b,rfl,I,s,u,j⟩;obtain⟨f,rfl⟩:=gq o;obtain⟨M2,t,w,r,q,O2,B,N,F⟩:=R6 f hn E tb G I s u (S0:=S0) (p1:=p1) (way:=way) (a:=a) (b:=b) j;refine⟨_,rfl,_,t,?_,M2,some .cS,w,r,rfl,O2,B,N,F⟩;exact eO (eM rfl<|ZM (YB f)<|nJ hn) q) ⟨M,none,none,none,rfl,O,m,ht,K⟩
 exact⟨d,h',J,C,l,by rw[H,v],y,p,z⟩
structure Mdl(ns:.c)(mo:Int)(n:Nat)(M:.aJ)(bs:.c)(ss:.Q)(bk sk:Nat)(h:Hd):Prop where
 run:mJ [.lit .c6,.int mo] []=.ok (.tup .Bp) h
 n1:1<=n
 n30:n<=30
 nmo:(n:Int)<=mo
 bkn:n<bk
 skn:bk<sk
 mt:j2 0 n M h
 mo:MOk M
 ba:h[bk]?=some .cr
 st:h[sk]?=some .dI
 lb:bs.length=n
 ls:ss.length=n
 os:∀x∈ss,x=none\/x=some 0\/x=some 1
 bb:∀x∈bs,-20000<=x/\x<=20000
def FK{d:Int}(hi:σ[i]?=some (some .av))(b:0<d)(a:d<2^250):tE (.be (.aH (ag ek (aa i)<|fC<|.int d) .J) .o) σ h=.ok (decide (way/d%2=1)) h:=by
 have v:aa i σ h=.ok .av h:=by dsimp[aa,slot,hi]
 exact aM (av (.io<|av v rfl<|f6 b a) rfl iR)
def Vq(x:Int):x%2=0\/x%2=1:=Int.emod_two_eq x
def lv1(h:0<=x/\x<2001): -20000<=x-1000/\x-1000<=20000:=by omega
def lv2(h:0<=x/\x<=12000): -20000<=x+y%7-3/\x+y%7-3<=20000:=by omega
def lv3(h:0<=x/\x<=12000): -20000<=x/\x<=20000:=by omega
def Ph{A lk tk:Nat}{f:.c}(hn:n<=30)(X:f.length=n)(ne:lk≠tk){bs:.c}(lb:.bD)(Y:∀x∈f,0<=x/\x<2001)(bb:∀x∈bs,0<=x/\x<=12000)(J:h[lk]?=some .cr)(ht:h[tk]?=some (.lst<|f.map .int)){S0 p1 q4 q5:D}{a b c:.E}:
  ∃(d:.c) (v:.E),i0 none ((.s).map λk:Nat=>D.int k) .a8 kC ((.s).map λk:Nat=>D.int k) [some S0,some p1,some .av,some .A,some q4,some q5,c,a,b,some .c2,some .bX,none] h
   = .nx [some S0,some p1,some .av,some .A,some q4,some q5,v,a,b,some .c2,some .bX,none] (h.set lk<|.lst<|d.map .int)/\d.length=n/\∀x∈d,-20000<=x/\x<=20000:=by
 have u:lk<h.length:=(zA.mp J).1;obtain⟨σ',I,W,d,v,S,U,O,k5⟩:=cn (P:=λi σ I=>∃(d:.c) (v:.E),σ=[some S0,some p1,some .gV,some .aZ,some q4,some q5,v,a,b,some .ih,some .kp,none]/\I=h.set lk (.lst<|d.map .int)/\d.length=n/\∀(j:Nat) x,d[j]?=some x->(-20000<=x/\x<=20000)/\(i<=j->0<=x/\x<=12000)) (g:=none)
   .bA
   (tg:=gN 6) (h:=h) (b:=kC) (by
   rintro i x σ E N ⟨m,c1,rfl,r,H,p⟩;rw[wK]at p⊢;obtain⟨K,rfl⟩:=gq N;have B:E[lk]?=some (.lst<|m.map .int):=by rw[r,wJ u]
   have C:E[tk]?=some (.lst<|f.map .int):=by rw[r,ZP ne];exact ht
   have l:i<m.length:=H▸K;have F:atI (m.map D.int) (i:Int)=some (.int m[i]):=lh l;have s:atI (f.map D.int) (i:Int)=some (.int f[i]):=lh (X▸K);have t:=(p i m[i] (by simp[l])).2 .B;have w:=Y f[i] (YA _);generalize m[i]=V at F t;generalize f[i]=G at s w;have Q:=Vq (way/256);have L:ixN (m.map D.int).length (i:Int)=some i:=xq (by rw[ZA];exact l);obtain⟨y,Z,R⟩:∃y:Int,(-20000<=y/\y<=20000)/\kC .wq E=.nx .wq (E.set lk<|.lst<|(m.map .int).set i (.int y)):=by
    rcases Q with e|e
    ·exact⟨G-1000,lv1 w,.wd⟩
    ·exact⟨V+G%7-3,lv2 t,.wd⟩
   refine⟨_,rfl,_,_,R,m.set i y,some .v,rfl,?_,by simp[H],λj z o=>?_⟩
   ·rw[r,List.set_set,zYx]
   ·by_cases e:i=j
    ·subst e
     rw[wJ l]at o;cases o;exact⟨Z,λq=>absurd q (Nat.not_succ_le_self _)⟩
    ·rw[ZP e]at o
     have q:=p j z o;exact⟨q.1,λM=>q.2 (Nat.le_of_succ_le M)⟩) ⟨bs,c,rfl,by
    apply VM;intro j
    by_cases e:lk=j
    ·subst e;rw[wJ u];exact J
    ·rw[ZP e],lb,λj z o=>by
     have q:=bb z (ZK o);exact⟨lv3 q,λ_=>q⟩⟩
 exact⟨d,v,by rw[W,S,U],O,λz o=>by
  obtain⟨j,T⟩:=zYo o;exact(k5 j z T).1⟩
theorem J4(v:D):∀n,(.ce n [v]).flatten=List.replicate n v
 |0=>rfl
 |n+1=>by rw[Y0,Y0,W2,J4 v n];rfl
def LK{l:.c}(j:∀x∈l,0<=x/\x<7)(i:h[k]?=some .mF)(a:.E):∃ss:List .he,cu .bJ .gf .G [] (fIx .qZ .e) .gf [a] h=.ok .an h/\ss.length=l.length/\∀x∈ss,x=none\/x=some 0\/x=some 1:=by
 have:=bj (g:=some k) (tg:=gN 0) (cs:=[]) (e:=fIx .qZ .e) (I:=λσ=>∃a,σ=[a]) .aI (λd=>match d with | .int x=>bw (if x=0 then some 0 else if x=1 then some 1 else none)|_=>.non) i
  (xs:=l.map .int) (σ:=[a]) (by
   rintro x f σ ⟨c,rfl⟩;obtain⟨u,m,rfl⟩:=z0.mp f;have b:=j u m;refine⟨_,rfl,⟨_,rfl⟩,rfl,λ_=>?_⟩;obtain⟨u,rfl⟩:=Int.eq_ofNat_of_zero_le b.1
   match u,Int.ofNat_lt.mp b.2 with
   |0,_|1,_|2,_|3,_|4,_|5,_|6,_=>rfl
   |k+7,z=>exact .f0 (zZy.mpr<|Nat.le_add_left 7 k)) ⟨_,rfl⟩
 refine⟨l.map λx=>if x=0 then some 0 else if x=1 then some 1 else none,?_,by simp,λx f=>?_⟩
 ·rw[this,wL.mpr .f,y3,y3];rfl
 ·obtain⟨u,_,rfl⟩:=z0.mp f
  split
  ·exact .inr .aY
  ·split
   ·exact .inr .eY
   ·exact .inl rfl
def WY{a c b:.E}{r:Sd}(e:(sml N||sml N)=true)(h:Hd):.bn .h .h .BQ h=.ok (.int<|N*N) h:=by
 rw[show ag dI .h .h .BQ h=dI (.int N) (.int N) h from rfl];exact LJ e h
def Vr{e c:D}(b:bW [S0,.int 1] a=.ok (.int g) a)(h:E .w8 a=.ok (.int q) a)(q4:eR [.int g,.int way,.int q,.int 803] a=.ok .Z f):
  aD .iT (au eR<|ad (au bW<|.cB .gd)<|ad .g<|ad E<|ad (fC<|.int 803) am) .w8 a=.nx [some S0,some e,some .av,some d,some c,some .Z,none,none,none,none,none,none] f:=by
 exact aC (aq (aw (.F b)<|.cA<|aw h .bo) q4)
def Tp(hn:n<=30){b:EF}(a:b σ h=.ev h):bR (xG (ad (fC v) am) b) σ h=.ok .M (h++[.lst (.ce n v)]) :=
 cR (by rw[U5 rfl a ⟨ve n,Int.le_trans .o4 .a,by rw[zZh];exact ZM (wo<|Nat.one_mul n) (nJ hn)⟩,zZh,J4]) (by rw[zZr];exact nJ hn)
def Vs(way:Int)(c:0<mo)(h1:mo<=17):∃n:Nat,(n:Int)=1+way/2%mo/\1<=n/\n<=30/\(n:Int)<=mo:=by
 have a:=zYi (way/2) (Int.ne_of_gt c);have b:=zZq (way/2) c;generalize way/2%mo=x at a b;obtain⟨k,rfl⟩:=Int.eq_ofNat_of_zero_le a;exact⟨1+k,rfl,YR 1 k,by omega,by have b:(k:Int)<mo:=b;omega⟩
theorem Tq:∀l:List Int,(∀y∈l,0<=y/\y<=400)->0<=l.sum/\l.sum<=400*l.length
 |[],_=>⟨wb _,wb _⟩
 |y::l,h=>by
  have a:=h y ZV;have b:=Tq l λz c=>h z (ZW _ c);rw[VN,wI];omega
def Yl(hn:n<=30)(h:0<=x/\x<=400*n):0<=x/\x<=12000:=⟨h.1,Int.le_trans h.2 (Int.mul_le_mul_of_nonneg_left .o4 .a)⟩
abbrev XM(S0:D)(mo way:Int)(n:Nat)(a5 a6 a7 a8 a9 a10 a11:.E):Sd:=[some S0,some (.int mo),some .av,some .A,some (.ref<|0+n),a5,a6,a7,a8,a9,a10,a11]
def Pi(ns:.c){mo:Int}(h0:0<mo)(a8:mo<=17):∃n M bs ss bk T h,Mdl ns mo n M bs ss bk T h:=by
 obtain⟨way,F⟩:=BK ns 0 .a;obtain⟨c1,X⟩:=BK ns 1 .a;obtain⟨c2,a0⟩:=BK ns 2 .a;obtain⟨c3,a1⟩:=BK ns 3 .a;obtain⟨S0,z⟩:=q0 (.lit .c6:D);have F:∀h,bW [S0,.int 0] h=.ok .gV h:=by rw[z];exact F
 have X:∀h,bW [S0,.int 1] h=.ok (.int c1) h:=by rw[z];exact X
 have a0:∀h,bW [S0,.int 2] h=.ok (.int c2) h:=by rw[z];exact a0
 have a1:∀h,bW [S0,.int 3] h=.ok (.int c3) h:=by rw[z];exact a1
 obtain⟨n,hn,n1,f,a7⟩:=Vs way h0 a8;have e0:.bQ (au bW .kS) .w9 []=.nx .wO []:=aC (.F<|F _);have e1:.c0 .zz .wO []=.nx [some S0,some (.int mo),some .gV,some .aZ,none,none,none,none,none,none,none,none] []:=by rw[hn];exact aC (av rfl (av .eA rfl<|c8 h0) rfl)
 obtain⟨ds,h2,k2,l2,v2,c6,q2,S,g2⟩:=qR (g:=none) (tg:=gN 0) (k:=0)
  (e:=bR (xG .jc .d)) (σ:=[none,some .A]) (h:=[])
  (P:=λi σ h=>(∃a,σ = [a,some .A])/\h.length=i/\∀j,j < i->h[j]? = some (.lst .AX)) (V:=λi d=>d=.ref i) .bA (by
   rintro i x σ h0 H ⟨⟨a,rfl⟩,hl,e1⟩;obtain⟨hi,rfl⟩:=gq H;rw[wK]at hl e1⊢;refine⟨_,rfl,.ref h0.length,h0++[.lst .AX],?_,by rw[hl],⟨_,rfl⟩,by simp[hl],λj hj=>?_⟩
   ·rw[List.map_replicate];exact Tp f rfl
   ·by_cases hji:j<i
    ·exact .I (e1 j hji)
    ·have:j=i:=Nat.le_antisymm (Y3 hj) (zZy.mp hji)
     subst this;rw[<-hl];exact ZG) ⟨⟨_,rfl⟩,rfl,λj hj=>absurd hj (va _)⟩
 simp at l2 S g2;have b4:ds=(.s).map λi=>.ref (0+i):=yj l2 λi d hd=>by simpa using v2 i d hd
 subst b4;obtain⟨C,J⟩:=q0 (h2++[cM.lst .sW]);have l3:C.length=n+1:=by rw[J];simp[S]
 have e2:.fd .yn [some S0,some (.int mo),some .av,some .A,none,none,none,none,none,none,none,none] []=.nx .ys C:=by
  rw[J];show _=Out.nx [some S0,some (.int mo),some .av,some .A,some (.ref<|0+n),none,none,none,none,none,none,none] _;rw[show D.ref (0+n)=.ref h2.length by rw[S,wK]];exact aC (cR (bZ .uC k2) (by rw[ZA,ZO];exact(nJ f)))
 have m3:j2 0 n (λ_ _=>0) C:=by
  refine⟨λi hi=>?_,?_⟩
  ·rw[J,wK,.I (g2 i hi)]
   congr 2;dsimp[im,y3];apply VM;intro j
   by_cases hj:j<n<;>simp[hj]
  ·rw[J,wK,<-S];exact ZG
 have O3:MOk (λ_ _=>0):=⟨λ_ _=>rfl,λ_ _=>⟨wb _,by decide⟩,λ_=>rfl⟩;obtain⟨td,q4,tl,tb⟩:=R5 c1 way 803 (n*n) (ZM (Nat.mul_le_mul f f) .a) .a .a C;obtain⟨Z,R⟩:=q0 (C++[cM.lst (td.map .int)]);rw[<-R,l3]at q4;have sn:sml (n:Int)=true:=xo (ve n) (Int.lt_of_le_of_lt (zYu.mpr f) .a);have e3:.eu .wE .ys C=.nx .yt Z:=by
  have a9:eR [.int c1,.int way,.int ((n:Int)*n),.int 803] C=.ok (.ref<|n+1) Z:=by rw[<-Int.natCast_mul];exact q4
  exact Vr (E:=.bn .h .h) (X C) (WY (by rw[sn,Bool.or_self]) C) a9
 have m4:j2 0 n (λ_ _=>0) Z:=by rw[R];exact m3.more _
 have t4:Z[n+1]?=some (.lst<|td.map .int):=by rw[R,<-l3];exact ZG
 obtain⟨M,Y,O,p,q,q5,O5,m5,l5⟩:=R7 (A:=0) (tk:=n+1) (way:=way) f tl tb .b O3 m4 t4 (S0:=S0) (p1:=.int mo) (L:=n+2) (by rw[R];simp[l3]);have e4:.qQ nM .yt Z=.nx .zi Y:=eO .uC q5;have cs:cu (some<|0+n) .sW .G [] (rH<|lOf .e) .sW .ao Y=.ok ((.Dp).map D.int) Y:=by
  have:=bj (g:=some (0 + n)) (all:=(.s).map λi=>.ref (0 + i)) (tg:=gN 0) (cs:=[]) (e:=rH (lOf .e)) (h:=Y) (I:=λσ=>∃a,σ = [a]) .aI (λd=>match d with | .ref k=>.int (im M n k).sum|_=>.non) m5.ti (xs:=(.s).map λi=>.ref (0 + i)) (σ:=.ao) (by
   rintro x H σ ⟨a,rfl⟩;obtain⟨i,hi,rfl⟩:=z0.mp H;have hi:=YK.mp hi;have r:=m5.ro i hi;dsimp[wK]at r⊢;refine⟨_,rfl,⟨_,rfl⟩,rfl,λ_=>?_⟩;exact ym (.bu<|aF r) (mF _)) ⟨_,rfl⟩
  rw[this,wL.mpr .f,y3,y3];refine congrArg (λl=>Res.ok l Y) ?_;apply YE;intro i _;simp
 obtain⟨t,w⟩:=q0 .Dp;rw[<-w]at cs;have a2:t.length=n:=by rw[w];simp
 have a6:∀x∈t,0<=x/\x<=12000:=λx H=>by
  rw[w]at H;obtain⟨i,_,rfl⟩:=z0.mp H;have:=Tq .hS λy hy=>by
   obtain⟨j,_,rfl⟩:=z0.mp hy;exact O5.bd i j
  have ll:(.hS).length=n:=by simp[im]
  rw[ll]at this;exact Yl f this
 obtain⟨v,K⟩:=q0 (Y++[cM.lst (t.map .int)]);have l6:v.length=n+3:=by rw[K];simp[l5]
 have e5:aD (gN 9) .yV .zi Y=.nx .mW v:=by
  rw[K,<-l5];exact aC (cR (bZ (c5 rfl m5.ti) cs) (by rw[ZA,a2];exact(nJ f)))
 have m6:j2 0 n M v:=by rw[K];exact m5.more _
 have b6:v[n+2]?=some (.lst<|t.map .int):=by rw[K,<-l5];exact ZG
 have e6:∃(bs:.c) (m o:.E) (u:Hd),sIf .xU (ax (aD (gN 10) .q6)
  (.qQ kC)) bh .mW v=.nx .zD u/\j2 0 n M u/\u[n+2]?=some .cr/\bs.length=n/\n+3<=u.length/\∀x∈bs,-20000<=x/\x<=20000:=by
  have N:=FK (way:=way) (d:=128) (σ:=.mW) (h:=v) (i:=2) rfl .a .a
  by_cases e:way/128%2=1
  ·rw[z3 e]at N
   obtain⟨W,q7,sl,sb⟩:=R5 c2 way 2001 n (nJ f) .a .a v;rw[l6]at q7;have t1:aD (gN 10) .q6 .mW v=.nx (XM S0 mo way n .iF O p q .hf (some<|.ref<|n+3) none) (v++[.lst (W.map .int)]):=by
    exact aC (aq (aw (.F<|a0 _) .b8) q7)
   obtain⟨a4,c',q8,b3,c0⟩:=Ph (A:=0) (lk:=n+2) (tk:=n+3) (way:=way) f sl (ZN<|Z6 _) (h:=v++[.lst (W.map .int)]) a2 sb a6 (.I b6) (by rw[<-l6];exact ZG) (S0:=S0) (p1:=.int mo) (q4:=.ref (0+n)) (q5:=.ref (n+1)) (a:=p) (b:=q) (c:=O);refine⟨a4,c',some (.ref<|n+3),_,?_,(m6.more [.lst (W.map .int)]).set (k:=n+2) .b (.lst<|a4.map .int),?_,b3,by simp[l6],c0⟩
   ·exact(dD N).trans ((cy t1).trans (eO .uC q8))
   ·rw[wJ (by simp[l6])]
  ·rw[z4 e]at N
   exact⟨t,O,none,v,by rw[Vp N];rfl,m6,b6,a2,wo l6.symm,λx H=>lv3 (a6 x H)⟩
 obtain⟨bs,m,o,u,e6,m7,b7,b1,l7,c4⟩:=e6;obtain⟨s,B⟩:=q0 (u++[cM.lst .y3]);have e7:.kE .Cq .zD u=.nx .mS s:=by
  rw[B,List.map_replicate];exact aC (Tp f rfl)
 have m8:j2 0 n M s:=by rw[B];exact m7.more _
 have b8:s[n+2]?=some .cr:=by rw[B];exact .I b7
 have s8:s[u.length]?=some (.lst .y3):=by rw[B];simp
 have e8:∃(ss:.Q) (x5:D) (T:Nat) (U:Hd),sIf .xT (ax (.bt .q8)
  (.kE .rQ)) bh .mS s=.nx .yd U/\j2 0 n M U/\U[n+2]?=some .cr/\U[T]?=some .dI/\ss.length=n/\(∀x∈ss,x=none\/x=some 0\/x=some 1)/\n+2<T:=by
  have N:=FK (way:=way) (d:=512) (σ:=.mS) (h:=s) (i:=2) rfl .a .a
  by_cases e:way/512%2=1
  ·rw[z3 e]at N
   obtain⟨a5,q9,sl,sb⟩:=R5 c3 way 7 n (nJ f) .a .a s;obtain⟨Q,G⟩:=q0 (s++[cM.lst (a5.map .int)]);rw[<-G]at q9;have g9:Q[s.length]?=some (.lst<|a5.map .int):=by rw[G];simp
   obtain⟨ss,cq,a3,b2⟩:=LK sb g9 none;have t1:.eu .q8 .mS s=.nx .w7 Q:=by
    exact aC (aq (aw (.F<|a1 _) .b8) q9)
   have t2:.kE .rQ .w7 Q=.nx (XM S0 mo way n (some<|.ref s.length) m p q .hf o<|some<|.ref Q.length) (Q++[.lst .an]):=by
    exact aC (cR (bZ (c5 rfl g9) cq) (by rw[ZA,a3,sl];exact(nJ f)))
   refine⟨ss,.ref s.length,Q.length,Q++[.lst .an],?_,by rw[G];exact(m8.more _).more _,?_,by simp,a3.trans sl,b2,by rw[G,B];simp;omega⟩
   ·exact(dD N).trans ((cy t1).trans t2)
   ·exact .I (by rw[G];exact .I b8)
  ·rw[z4 e]at N
   exact⟨List.replicate n none,.ref (n+1),u.length,s,by rw[Vp N];rfl,m8,b8,s8,by simp,λx H=>.inl (List.eq_of_mem_replicate H),by omega⟩
 obtain⟨ss,x5,T,U,e8,m9,b9,s9,b0,b5,k9⟩:=e8;have e9:aS .zl .yd U=.rt (.tup [.ref (0+n),.ref (n+2),.ref T]) U:=aE (cX .b8);refine⟨n,M,bs,ss,n+2,T,U,?_,n1,f,a7,by omega,k9,m9,O5,b9,s9,b1,b0,b5,c4⟩;have st:([S0,D.int mo].map some++List.replicate (12 - [S0,D.int mo].length) none:Sd)=.w9:=rfl;rw[<-z];unfold mJ bB runB;rw[zE .h4,st,cy e0,cy e1,cy e2,cy e3,cy e4,cy e5,cy e6,cy e7,cy e8,e9];exact ul rfl
/---/def rp(one other i j:Nat):Prop:=(i<one/\j<one)\/(i=one/\j<other)\/(j=one/\i<other)
instance(one other i j:Nat):Decidable (rp one other i j):=by unfold rp;infer_instance
/---/def jr(M:.aJ)(s:.c)(one other i j:Nat):Int:=if rp one other i j/\s.getD j 0=1 then M i j else 0
structure LP(n:Nat)(M:.aJ)(one other:Nat)(T:.ax):Prop where
 ok:TOk n one other T
 pl:∀i,i<n->∀s,bV .aP s=eg (jr M s one other i) n
def pa1(a b c:Int):a+(b+c)=a+b+c:=(Int.add_assoc a b c).symm
def HW(r a:.bj)(s:.c):bV (r++a) s=bV r s+bV a s:=by
 induction r with
 |nil=>simp[bV,iG]
 |cons p r b=>rw[List.cons_append,iS,iS,b];exact pa1 _ _ _
def sr1(S x y:Int):S+0+x=S+y+(x-y):=by omega
theorem xv{p:Nat}(h:∀j,j≠p->f j=g j):∀n,eg f n=eg g n+if p<n then f p-g p else 0
 |0=>by simp[eg]
 |n+1=>by
  rw[eg,eg,xv h n]
  by_cases e:n=p
  ·subst e
   rw[zF (Z8 _),zE (Z6 _)];exact sr1 _ _ _
  ·rw[h n e]
   by_cases l:p<n
   ·rw[zE l,zE (Z2 l)];exact Int.add_right_comm _ _ _
   ·rw[zF l,zF λz=>(zZa.mp z).elim l λz=>e z.symm,zYy,zYy]
theorem kG:∀n,(∀j,j<n->f j=g j)->eg f n=eg g n
 |0,_=>rfl
 |n+1,h=>by rw[eg,eg,kG n λj a=>h j .b,h n .b]
def LL:rp one .gG i j↔rp one other i j\/(i=one/\j=other)\/(j=one/\i=other):=by
 constructor
 ·rintro (h|⟨a,b⟩|⟨a,b⟩)
  ·exact .inl (.inl h)
  ·exact(zZa.mp b).elim (λb=>.inl (.inr<|.inl ⟨a,b⟩)) λb=>.inr (.inl ⟨a,b⟩)
  ·exact(zZa.mp b).elim (λb=>.inl (.inr<|.inr ⟨a,b⟩)) λb=>.inr (.inr ⟨a,b⟩)
 ·rintro ((h|⟨a,b⟩|⟨a,b⟩)|⟨a,b⟩|⟨a,b⟩)
  ·exact .inl h
  ·exact .inr (.inl ⟨a,Z2 b⟩)
  ·exact .inr (.inr ⟨a,Z2 b⟩)
  ·exact .inr (.inl ⟨a,b▸Z6 _⟩)
  ·exact .inr (.inr ⟨a,b▸Z6 _⟩)
def uT(h1:¬(i=one/\j=other))(a:¬(j=one/\i=other)):rp one .gG i j↔rp one other i j :=
 LL.trans ⟨λz=>z.elim id λz=>z.elim (λz=>.f0 h1) λz=>.f0 a,.inl⟩
def J5(a:other<one):¬rp one other one other/\¬rp one other other one:=by
 refine⟨?_,?_⟩
 ·rintro (h|h|h)
  ·exact Z8 _ h.1
  ·exact Z8 _ h.2
  ·exact Z8 _ (h.1▸a)
 ·rintro (h|h|h)
  ·exact Z8 _ h.2
  ·exact Z8 _ (h.1▸a)
  ·exact Z8 _ h.2
def LM(e:¬(i=one/\j=one)):rp one one i j↔rp (one+1) 0 i j:=by
 constructor
 ·rintro (h|h|h)
  ·exact .inl ⟨Z2 h.1,Z2 h.2⟩
  ·exact .inl ⟨h.1▸Z6 _,Z2 h.2⟩
  ·exact .inl ⟨Z2 h.2,h.1▸Z6 _⟩
 ·rintro (⟨a,b⟩|h|h)
  ·rcases zZa.mp a with a|a<;>rcases zZa.mp b with b|b
   ·exact .inl ⟨a,b⟩
   ·exact .inr (.inr ⟨b,a⟩)
   ·exact .inr (.inl ⟨a,b⟩)
   ·exact absurd ⟨a,b⟩ e
  ·exact absurd h.2 (va _)
  ·exact absurd h.2 (va _)
def BN(O:MOk M)(a:other<one)(hn:one<n)(i:Nat)(s:.c):
  eg (jr M s one .gG i) n=eg (jr M s one other i) n+(if i=one then (if s.getD other 0=1 then M one other else 0) else if i=other then (if s.getD one 0=1 then M one other else 0) else 0):=by
 by_cases b:i=one
 ·subst b
  rw[zE rfl,xv (g:=jr M s i other i) (λj e=>?_),zE (Z1 a hn)]
  ·have c:rp i .gG i other:=.inr (.inl ⟨rfl,Z6 _⟩)
   have f:=(J5 a).1;dsimp[jr,c,f,true_and,false_and,zZb,Int.sub_zero]
  ·have:=uT (one:=i) (λz=>e z.2) λz=>Z9 a z.2
   dsimp[jr,this]
 ·rw[zF b]
  by_cases d:i=other
  ·subst d
   rw[zE rfl,xv (g:=jr M s one i i) (λj e=>?_),zE hn]
   ·have c:rp one (i+1) i one:=.inr (.inr ⟨rfl,Z6 _⟩)
    have f:=(J5 a).2;dsimp[jr,c,f,true_and,false_and,zZb,O.sym i one,Int.sub_zero]
   ·have:=uT (i:=i) (other:=i) (λz=>b z.1) λz=>e z.1
    dsimp[jr,this]
  ·rw[zF d,kG n (g:=jr M s one other i) λj _=>?_]
   ·exact(zYy _).symm
   ·have:=uT (i:=i) (j:=j) (λz=>b z.1) λz=>d z.2
    dsimp[jr,this]
def LP.skip(O:MOk M)(L:LP n M one other T)(b:other<one)(hn:one<n)(z:M one other=0):LP n M one .gG T :=
 ⟨L.ok.skip,λi a s=>by
  rw[L.pl i a s,BN O b hn i s,z];split<;>(try split)<;>(try split)<;>omega⟩
def LP.put(O:MOk M)(L:LP n M one other T)(d:other<one)(hn:one<n)(z:0<M one other):LP n M one .gG (T++[⟨other,one,M one other⟩]):=by
 have b:=O.bd one other;refine⟨?_,λi e s=>?_⟩
 ·have:=L.ok.put hn d z b.2 .eY T.length
  simpa using this
 ·rw[EW,HW,L.pl i e s,BN O d hn i s]
  congr 1
  by_cases a:i=one
  ·have f:far i ⟨other,one,M one other⟩=some other:=by
    unfold far;rw[zF (λz:other=i=>ZN d (z.trans a)),zE a.symm]
   rw[f,zE a];simp only;rw[iS];simp[bV,iG]
  ·rw[zF a]
   by_cases c:i=other
   ·have f:far i ⟨other,one,M one other⟩=some one:=by unfold far;rw[zE c.symm]
    rw[f,zE c];simp only;rw[iS];simp[bV,iG]
   ·have f:far i ⟨other,one,M one other⟩=none:=by
     unfold far;rw[zF (λz:other=i=>c z.symm),zF (λz:one=i=>a z.symm)]
    rw[f,zF c];simp[bV,iG]
def LP.step(O:MOk M)(L:LP n M one one T)(h:one<n)(hn:n<=30):LP n M (one+1) 0 T :=
 ⟨L.ok.step h hn,λi a s=>by
  rw[L.pl i a s];refine kG n λj _=>?_;unfold jr
  by_cases e:i=one/\j=one
  ·rw[e.1,e.2,O.no one];split<;>split<;>rfl
  ·have:=LM e
   dsimp[this]⟩
structure Md(Z n:Nat)(M:.aJ)(bs:.c)(ss:.Q)(bk sk:Nat)(h:Hd):Prop where
 n1:1<=n
 n30:n<=30
 mt:j2 Z n M h
 mo:MOk M
 ba:h[bk]?=some .cr
 st:h[sk]?=some .dI
 lb:bs.length=n
 ls:ss.length=n
 os:∀x∈ss,x=none\/x=some 0\/x=some 1
def Md.more(m:.e7 a h)(g:Hd):.e7 a .aj:=by
 have k:∀{i:Nat} {x:cM},h[i]?=some x->.aj[i]?=some x:=λ{i x} e=>by
  rw[ZC (.cN).1];exact e
 exact⟨m.n1,m.n30,m.mt.more g,m.mo,k m.ba,k m.st,m.lb,m.ls,m.os⟩
section
variable{Z n:Nat}{M:.aJ}{bs:.c}{ss:.Q}{bk sk:Nat}{h:Hd}
abbrev XT(td:D)(s:.c)(Z n bk sk:Nat)(a5 a6 a7 a8:.E):Sd:=[some td,some .C,some .kj,some (.ref bk),some (.ref sk),a5,a6,a7,a8]
def zg(L:.ke)(B:sD s)(hi:i<n):eg .C3 n=bV .aP s:=by
 rw[L.pl i hi s];refine kG n λj a=>?_;have p:rp n 0 i j:=.inl ⟨hi,a⟩;rcases B j with e|e
 ·dsimp[jr,e];simp
 ·dsimp[jr,p,e];simp
def WZ(e:y=0\/y=1)(h:Hd):dI .ed .jq h=.ok (.int<|x*y) h:=LJ (by rw[RA e,zYt]) h
def HX(m:.vE)(ls:s.length=n)(B:sD s)(hi:i<n)(a:.E):
  cu none ((.s).map λk:Nat=>D.int k) .G [] (.bn (fAt (.fa .h) .e) .fl) ((.s).map λk:Nat=>D.int k) [a,some .C,some .kj,some .v] h=.ok .uJ h:=by
 have:=bj (g:=none) (all:=(.s).map λk:Nat=>D.int k) (tg:=gN 0) (cs:=[]) (I:=λσ=>∃a,σ=[a,some .C,some .kj,some .cS]) .aI (λd=>match d with | .int j=>.int .A8|_=>.non) trivial
  (xs:=(.s).map λk:Nat=>D.int k) (σ:=[a,some .C,some (.ref<|Z + n),some .v]) (by
   rintro x p σ ⟨c,rfl⟩;obtain⟨j,b,rfl⟩:=z0.mp p;have b:=YK.mp b;refine⟨_,rfl,⟨_,rfl⟩,rfl,λ_=>?_⟩;have u:=BM (A:=Z) hi;have f:=m.mt.ro i hi;have t:=Dj (M:=M) (n:=n) (i:=i) b;have e:=m.mt.ti;have r:=i7 (l:=s) (i:=j) (ls▸b);have o:fAt (.fa .h) .e [some (.int (j:Nat)),some .C,some .kj,some .cS] h=.ok (.int<|M i j) h:=by
    exact aL (.aG (aF e) u) rfl (aF f) t
   have q:fAt .d .e [some (.int (j:Nat)),some .C,some .kj,some .v] h=.ok (.int<|s.getD j 0) h:=by
    exact aL rfl rfl rfl r
   exact av o q (WZ (B j) h)) ⟨_,rfl⟩
 rw[this,wL.mpr .f,y3,y3];rfl
def Vt(m:.vE)(L:.ke)(ls:s.length=n)(B:sD s):
  dm [.tup .k4,ar s] h=.ok (ar<|aW .S n s) h:=by
 have t:=m.n30;obtain⟨w,hw⟩:=q0 .S;obtain⟨d,C⟩:=q0 (.tup .k4:D);obtain⟨A,S⟩:=q0 .eg;obtain⟨σ',h',k1,x6,x7,x8,k2,k3⟩:=cn (P:=λi σ h'=>∃(a b c:.E),σ=(XT d s Z n bk sk (some .di) a b c)/\h'=h++[.lst ((.oh).map .int)]) (g:=none)
   .bA
   (tg:=gN 6) (h:=h++[.lst []]) (b:=uz) (by
   rintro i x σ f hx ⟨a,b,c,rfl,o⟩;obtain⟨r,rfl⟩:=gq hx;rw[wK]at o⊢;have X:.e7 sk f:=by rw[o];exact m.more _
   have fc:=HX X ls B r none;have v2:=i7 (l:=s) (i:=i) (ls▸r);have l3:i<ss.length:=by rw[m.ls];exact r
   have v:=i7 (l:=bs) (i:=i) (m.lb▸r);have Q:atI .an (i:Int)=some (bw .eI):=by rw[lh l3];simp[List.getD,l3]
   have I:=X.ba;have y:=X.st;have q:=Hu (T:=T) (bs:=bs) (ss:=ss) (s:=s) r;rw[<-hw]at q;obtain⟨P,hP⟩:=q0 (bV .aP s);have fe:=zg L B r;rw[<-hP]at fe q;have sm:jj .uJ=some .m4:=mF _;have su:(.m4).sum=P:=by rw[ut];exact fe
   generalize (.s).map .C3=FL at fc sm su;have O:.fc (.bn .J<|rH .q4) .m8 f=.nx (XT d s Z n bk sk .fi (some .v) (some<|.int<|2*P) c) f:=by
    have a0:rH .q4 .m8 f=.ok (.int P) f:=by
     rw[<-su];have R:=dE (cF (a:=aa 3) (σ:=.m8) rfl<|aF I);rw[ZA,m.lb]at R;exact ym (bZ (eM R<|nJ t) fc) sm
    exact aC (av rfl a0<|p7 .a)
   generalize ss.getD i none=u at Q q;generalize bs.getD i 0=N at v q;generalize s.getD i 0=x at v2 q;generalize 2*P=F at O q;obtain⟨K,J⟩:=q0 (if N<F then 1 else x:Int)
   obtain⟨G,E⟩:=q0 (if F<N then 0 else K:Int)
   obtain⟨p,H⟩:=q0 (u.getD G:Int);have ny:ef w s i=p:=by
    rw[q,H];cases u with
    |some z=>rfl
    |none =>
     simp;rw[E,J];split<;>split<;>(try split)<;>omega
   have Y:.cZ (fAt .d .L) (XT d s Z n bk sk .fi (some .v) .kN c) f=.nx .yr f:=aC (.aG rfl v2);have U:sIf .C5 (.cZ .o) bh .yr f=.nx .yb f:=by
    rw[J]
    by_cases e:N<F
    ·rw[zE e];exact(dD<|aM<|av rfl .n5<|Hn e).trans .gI
    ·rw[zF e];exact bH (aM<|av rfl .n5<|yn e)
   have W:sIf .C4 (.cZ .z) bh .yb f=.nx .yc f:=by
    rw[E]
    by_cases e:F<N
    ·rw[zE e];exact(dD<|aM<|av rfl .n5<|yk e).trans .gI
    ·rw[zF e];exact bH (aM<|av rfl .n5<|CK e)
   have s5:sIf .AQ .CT bh .yc f=.nx .mV f:=by
    rw[H];cases u with
    |none=>exact bH .zB
    |some z=>exact(dD .zB).trans (aC<|.aG (aF y) Q)
   have gA:f[A]?=some (.lst<|(.oh).map .int):=by rw[o];exact eu S _
   have lz:((.oh).map D.int).length<SZ:=by rw[ZA,ZA,ZO];exact Z1 r (ZS t .a)
   have V:f.set A (.lst<|(.oh).map .int++[.int p])=h++[.lst .y9]:=by
    rw[o,hV S,vc,<-ny,ZR,ZR];rfl
   have s6:ed (jY .H .bz) .mV f=.nx .mV (h++[.lst .y9]):=by
    rw[<-V];exact dj (jx rfl gA rfl gA lz)
   refine⟨_,rfl,.mV,_,?_,_,_,_,rfl,rfl⟩;show ax _ _ .m8 f=_;rw[cy O,cy Y,cy U,cy W,cy s5,s6]) ⟨none,none,none,rfl,by simp⟩
 have e0:0+((.s).map λk:Nat=>D.int k).length=n:=by simp
 rw[e0]at k3;have b1:=(m.more [.lst []]).ba;have O:aD (gT [2,3,4]) .e .yi h=.nx .zO h:=by rw[C];rfl
 have Y:.eu .a6 .zO h=.nx .r9 .ae:=aC (k7 S rfl .dM);have U:fE (cr .hl) .a8 uz .r9 .ae=.nx .AG .sI:=by
  rw[k2,k3]at k1;have R:cC (lOf .h) .r9 .ae=.ev .ae:=by
   exact(dE<|.bu<|aF b1).trans (by rw[ZA,m.lb])
  exact eO (eM R<|nJ t) k1
 have W:aS (fg<|lOf .H) .AG .sI=.rt (ar .af) .sI:=by
  exact aE (hU<|.bu<|aF<|eu S _)
 have y:([d,ar s].map some++List.replicate (9 - [d,ar s].length) none:Sd)=.yi:=rfl;rw[<-C,<-hw];unfold dm bB runB;rw[zE .h4,y,cy O,cy Y,cy U,W];exact bP (qc _)
/---/def uU(ss:.Q)(l:.c):List Int:=(.n6).map λi=>(.eI).getD .o7
def zh(m:.vE){l:.c}(C:l.length=n)(H:h[k]?=some .mF):
  fS [.tup .k4,.ref k] h=.ok (ar<|uU ss l) h:=by
 have s:=m.n30;obtain⟨c,r⟩:=q0 (.tup .k4:D);obtain⟨A,p⟩:=q0 .eg;obtain⟨f,T⟩:=q0 (λi=>(.eI).getD .o7:.eX);have q:k<h.length:=(zA.mp H).1;obtain⟨σ',K,S,O,k2,R⟩:=cn (P:=λi σ K=>∃(a:.E),σ=[some c,some .cT,some .di,a]/\K=h++[.lst ((.l1).map .int)]) (g:=none)
   .bA
   (tg:=gN 3) (h:=h++[.lst []]) (b:=nN) (by
   rintro i x σ t W ⟨a,rfl,o⟩;obtain⟨E,rfl⟩:=gq W;rw[wK]at o⊢;have gk:t[k]?=some .mF:=by rw[o,ZC q];exact H
   have U:i<ss.length:=by rw[m.ls];exact E
   have Q:=i7 (C▸E);have N:atI .an (i:Int)=some (bw .eI):=by rw[lh U];simp[List.getD,U]
   have v:f i=(.eI).getD .o7:=by rw[T]
   generalize l.getD i 0=x at Q v;generalize ss.getD i none=u at N v;have L:t[A]?=some (.lst<|(.l1).map .int):=by rw[o];exact eu p _
   have lz:((.l1).map D.int).length<SZ:=by rw[ZA,ZA,ZO];exact Z1 E (ZS s .a)
   have J:t.set A (.lst<|(.l1).map .int++[.int x])=h++[.lst .k6]:=by rw[o,hV p,ZR];rfl
   have F:ed (jY .g .u5) .hi t=.nx .hi (h++[.lst .k6]):=by
    rw[<-J];exact dj (jx rfl L (.aG (aF gk) Q) L lz)
   obtain⟨j,d⟩:=q0 (h++[cM.lst .k6]);have X:.e7 sk j:=by rw[d];exact m.more _
   have w:fAt .cI .h .hi j=.ok (bw u) j:=by
    have B:=X.st;rw[r];exact aL .bU rfl (aF B) N
   have g1:j[A]?=some (.lst .k6):=by rw[d];exact eu p _
   have I:sIf .D3 (jX .g .h .tw) bh .hi j=.nx .hi (h++[.lst .sb]):=by
    have y:(.l1).length=i:=by simp
    cases u with
    |none =>
     have e:j=h++[.lst .sb]:=by rw[d,vc];simp[v]
     rw[<-e];exact bH (aM<|.cy w)
    |some z =>
     have ix:ixN (((.m1).map f++[x]).map D.int).length (i:Int)=some i:=xq (by rw[ZA,ZB,y];exact Z6 _);have e:j.set A (.lst<|(.k6).set i (.int z))=h++[.lst .sb]:=by
      have Y:f i=z:=v;rw[d,p,vc];simp[Y,List.set_append_right]
     rw[<-e];exact(dD<|aM<|.cy w).trans (lO w rfl rfl g1 ix)
   refine⟨_,rfl,.hi,_,?_,_,rfl,rfl⟩;show ax _ _ .hi t=_;rw[cy F,<-d,I]) ⟨none,rfl,by simp⟩
 have e0:0+((.s).map λk:Nat=>D.int k).length=n:=by simp
 rw[e0]at R;have G:.jh[k]?=some .mF:=by rw[ZC q];exact H
 have F:.bQ .a6 .BC h=.nx .so .ae:=aC (k7 p rfl .dM);have I:fE (cr .c5) .cq nN .so .ae=.nx .Bn .sm:=by
  rw[k2,R]at S;have ln:cC (lOf .d) .so .ae=.ev .ae:=by
   exact(dE<|.bu<|aF G).trans (by rw[ZA,C])
  exact(eO (eM ln<|nJ s) S).trans (by rw[uU,C,T])
 have V:aS (fg .lw) .Bn .sm=.rt (ar<|uU ss l) .sm:=by
  exact aE (hU<|.bu<|aF<|eu p _)
 have B:([c,D.ref k].map some++List.replicate (4 - [c,D.ref k].length) none:Sd)=.BC:=rfl;rw[<-r];unfold fS bB runB;rw[zE .h4,B,cy F,cy I,V];exact bP (qc _)
def Pj(ls:.bi)(os:.a9){l:.c}(d:l.length=n)(B:sD l):Ye n ss (uU ss l):=by
 refine⟨by simp[uU,d],λx f=>?_,λi x e=>?_⟩
 ·obtain⟨i,a,rfl⟩:=z0.mp f
  have b:=B i;cases c:ss.getD i none with
  |none=>simpa using b
  |some z =>
   have:some z∈ss:=by
    rw[List.getD]at c;cases e:ss[i]? with
    |none=>rw[e]at c;cases c
    |some y=>rw[e]at c;simp at c;subst c;exact ZK e
   have:=os _ this;simp at this;simpa using this
 ·have a:i<l.length:=by rw[d,<-ls];exact (.cN).1
  simp[uU,a,List.getD,e]
end
/---/def j6(M:.aJ)(i k:Nat):List Tie:=((.oU).filter λj=>decide (0<M i (i+1+j))).map λj=>⟨i,i+1+j,M i (i+1+j)⟩
def HY(M:.aJ)(i k:Nat):j6 M i (k+1)=j6 M i k++(if 0<M i .gK then [⟨i,i+1+k,M i .gK⟩] else []):=by
 unfold j6;rw[vc,zXl,ZR];congr 1
 by_cases c:0<M i .gK
 ·rw[zE c];simp[c]
 ·rw[zF c];simp[c]
def BO(M:.aJ)(i k:Nat):(.px).length<=k:=by
 unfold j6;rw[ZA];exact ZM .fN .f
/---/def qt(M:.aJ)(n k:Nat):List Tie:=(.oU).flatMap λi=>j6 M i (n-(i+1))
def uV(M:.aJ)(n k:Nat):qt M n (k+1)=qt M n k++j6 M k (n-(k+1)):=by
 unfold qt;rw[vc,List.flatMap_append];simp
theorem zi(M:.aJ)(n:Nat):∀k,(.pv).length<=n*k
 |0=>YH _
 |k+1=>by
  have h1:=zi M n k;have a:=BO M k (n-(k+1));rw[uV,ZB,Nat.mul_succ];omega
def R8{d h n}(m:.e7 d h)(hi:i<n)(c:j<n)(a:aa 0 σ h=.ok (.tup [.ref (Z+n),.ref bk,.ref d]) h)(b:aa 3 σ h=.ok .v h)(e:aa 4 σ h=.ok .cd h):fAt (fAt .aX .h) .u σ h=.ok .tz h :=
 aL (aL (aL a rfl rfl rfl) b (aF m.mt.ti)<|BM hi) e (aF<|m.mt.ro i hi) (Dj c)
def R9{h n t}(m:.e7 t h)(hi:i<n)(N:X.length<=1000)(a b:.E):
  ∃q s,uD [some (.tup .k7),some .A,some .M,some .v,a,b,none] .nO =
   .nx [some (.tup .k7),some .A,some .M,some .v,q,s,none] (h++[.lst ((X++(j6 M i<|n-(i+1)).map j0).map .str)]):=by
 have y:=m.n30;obtain⟨d,o⟩:=q0 (.tup .k7:D);rw[<-o];have I:fj (.a3 .h .o) .d .xt .nO=.ok ((.bY<|n-(i+1)).map (λj:Nat=>D.int ((i+1+j:Nat):Int)),none) .nO :=
  mU .cE (by show Res.ok (D.int (n:Int)) _=_;rw[show i+1+(n-(i+1))=n by omega]) .b
 obtain⟨σ',u,C,G,q,s,K⟩:=cn (g:=none) (tg:=gN 4) (b:=Bs) (P:=λk σ u=>u=h++[.lst ((X++(.px).map j0).map .str)]/\∃a b,σ=.xt) .bA
  (xs:=(.bY<|n - (i + 1)).map (λj:Nat=>D.int ((i + 1 + j:Nat):Int))) (k:=0) (σ:=[some d,some .A,some .M,some .v,a,b,none]) (h:=h++[.lst .lo]) (λk x σ g f p=>by
   obtain⟨rfl,a,b,rfl⟩:=p;rw[wK];have w:k<n-(i+1):=by
    have:=(zA.mp f).1;simpa using this
   have E:x=.int ((i+1+k:Nat):Int):=by
    rw[ZQ,YP w]at f;exact(ZT f).symm
   subst E;obtain⟨Y,r⟩:=q0 (X++(.px).map j0);rw[<-r];have B:Y.length<=1030:=by
    have:=BO M i k;rw[r,ZB,ZA];omega
   have J:=m.more [.lst (Y.map .str)];have l:=m.mo.bd i .gK;have c:=R8 J hi (j:=i+1+k) .b (σ:=[some d,some .A,some .M,some .v,some .C0,b,none]) (by rw[o];rfl) rfl rfl;have F:X++(j6 M i<|k+1).map j0=Y++(if 0<M i .gK then [j0 ⟨i,i+1+k,M i .gK⟩] else []):=by
    rw[HY,ZR,r,ZU]
    by_cases z:0<M i .gK
    ·rw[zE z,zE z,z5,zo]
    ·rw[zF z,zF z,zo]
   refine⟨_,rfl,?_⟩;rw[F];obtain⟨v,A⟩:=q0 (M i .gK);rw[<-A]at c l⊢
   by_cases z:0<v
   ·rw[zE z]
    have H:lI [32] .xr [some d,some .A,some .M,some .v,some .C0,some .cs,none] .nN=.ok (.str<|j0 ⟨i,i+1+k,v⟩) .nN:=by
     have q1:=dM _ (n60<|show i<=30 by omega);have q2:=dM _ (n60<|show i + 1 + k<=30 by omega);have q3:=dM _ (big l.1 l.2);exact tK (sp:=32) (L:=[HM,tx (i:Int),tx ((i + 1 + k:Nat):Int),tx v]) (.cA<|aw (dU rfl<|n60 .b)<|aV (dU rfl<|n60 .b)<|dU rfl<|big l.1 l.2) (λx f=>by
      dsimp[y6,zYw,or_false]at f;rcases f with e|e|e|e
      ·rw[e];decide
      ·rw[e];omega
      ·rw[e];omega
      ·rw[e];omega) (by show 4<=1100;decide)
    refine⟨_,_,sx (aC c) ((dD<|aM<|.am<|Hn z).trans (dj<|jx rfl .gz H .gz (by rw[ZA];exact ZS B .a))),?_,_,_,rfl⟩;rw[hV rfl];simp
   ·rw[zF z]
    refine⟨_,_,sx (aC c) ((bH<|aM<|.am<|yn z).trans rfl),?_,_,_,rfl⟩;simp) ⟨by simp[j6],a,b,rfl⟩
 refine⟨q,s,eO I (C.trans ?_)⟩;rw[G,K];simp
section
variable{ss:.Q}{h:Hd}
def Sa{n}(m:.e7 r h)(f:.m):∃a b c,fE (cr .d) .cq uD [some (.tup .sx),some .A,some .M,none,none,none,none] (h++[.lst ([f].map .str)]) =
   .nx [some (.tup .sx),some .A,some .M,a,b,c,none] (h++[.lst ((f::(.jL).map j0).map .str)]):=by
 have l:=m.n30;obtain⟨j,q⟩:=q0 (.tup .sx:D);have d:=λ(i:Nat) (A:i<n) (X:.aR) (z:X.length<=1000) a b=>R9 m A z a b;rw[<-q]at d⊢;obtain⟨σ',v,w,B,t,u,C,E⟩:=cn (g:=none) (tg:=gN 3) (P:=λk σ v=>v=h++[.lst ((f::(.pv).map j0).map .str)]/\∃a b c,σ=[some j,some .aZ,some .bb,a,b,c,none]) .bA
  (xs:=(.s).map λk:Nat=>D.int k) (k:=0) (σ:=[some j,some .A,some .M,none,none,none,none]) (h:=h++[.lst ([f].map .str)]) (λk x σ g o p=>by
   obtain⟨rfl,a,b,c,rfl⟩:=p;rw[wK];have s:k<n:=by
    have:=(zA.mp o).1;simpa using this
   have y:x=.int ((k:Nat):Int):=by
    rw[ZQ,YP s]at o;exact(ZT o).symm
   subst y;have F:=zi M n k;have G:n*k<=30*30:=Nat.mul_le_mul l .b;obtain⟨t,u,e⟩:=d k s (f::(.pv).map j0) (by rw[wI,ZA];omega) b c;refine⟨_,rfl,_,_,e,?_,_,_,_,rfl⟩;rw[uV];simp) ⟨by rfl,_,_,_,rfl⟩
 refine⟨t,u,C,eO (eM rfl .b) (w.trans ?_)⟩;rw[B,E];simp
def J6{h:Hd}(p:.vQ)(b:.gP):EI a σ h=.ok .lu h1:=by
 show Res.bind _ _=_;rw[p,aR];show (if i.natAbs.log2<1920 then _ else _)=_;rw[zE (OU b)];rfl
def Sb{s}(C:∀(σ:Sd) (g:Hd),aa 0 σ g=.ok f g->.fb .J σ g=.ok (.ref s) g)(A:h[s]?=some .dI)(os:.a9)(ls:ss.length<=30)(G:X.length<=1000)(a b c:.E):
  ∃d,fE (dA .cI) .a8 uC .nl .nO=.nx [some f,some .A,some .M,a,b,c,d] (h++[.lst ((X++ss.map eS).map .str)]):=by
 have e:∀c:cM,(h++[c])[s]?=some (.lst .an):=λc=>.I A;obtain⟨σ',r,u,B,v,F⟩:=cn (g:=some s) (tg:=gN 6) (b:=uC) (P:=λk σ r=>r=h++[.lst ((X++(.hC).map eS).map .str)]/\∃d,σ=[some f,some .aZ,some .bb,a,b,c,d]) (λ_ _ r p=>by rw[p.1];exact e _)
  (xs:=ss.map bw) (k:=0) (σ:=.nl) (h:=h++[.lst .lo]) (λk x σ g q p=>by
   obtain⟨rfl,d,rfl⟩:=p;rw[wK];have j:k<ss.length:=by
    have:=(zA.mp q).1;simpa using this
   have w:x=bw ss[k]:=by
    rw[ZQ,ZE j]at q;exact(ZT q).symm
   subst w;obtain⟨Y,l⟩:=q0 (X++(.hC).map eS);have t:Y.length<=1030:=by
    rw[l,ZB,ZA,vf];omega
   have z:X++(ss.take<|k+1).map eS=Y++[eS ss[k]]:=by rw[List.take_succ_eq_append_getElem j,ZR,l,ZU];rfl
   rw[z,<-l];have o:=os ss[k] (YA j);obtain⟨y,E⟩:=q0 (ss[k]);rw[<-E]at o⊢;refine⟨_,rfl,?_⟩;have m:fIx .yp (qG<|ag jH .L .aV) [some f,some .aZ,some .bb,a,b,c,some (bw y)] .nN=.ok (.str<|eS y) .nN:=by
    rcases o with rfl|rfl|rfl
    ·exact iq (.bc<|dH rfl (rfl:EI .L _ _=.ok .v0 _) .a) (qS (b:=false) .cE) rfl
    ·exact iq (.bc<|dH rfl (J6 (i:=0) rfl .a) (by rw[O8 .aY];decide)) (qS (b:=true) .cE) rfl
    ·exact iq (.bc<|dH rfl (J6 (i:=1) rfl .a) (by rw[O8 .eY];decide)) (qS (b:=true) .cE) rfl
   refine⟨_,_,dj (jx rfl .gz m .gz (by rw[ZA];exact ZS t .a)),?_,_,rfl⟩;rw[hV rfl];simp) ⟨by simp,none,rfl⟩
 refine⟨v,eO (c5 (C _ _ rfl)<|e _) .qJ⟩;rw[B,F];simp
def xw{n t}(m:.e7 t h)(bb:.ej)(O:.iA .jL):
  gX [.tup .k7] h=.ok (.str<|bg [10]<|bX n .jL bs ss) h:=by
 have j:=m.n30;have lb:=m.lb;have I:=m.ls;obtain⟨f,q⟩:=q0 (.tup .k7:D);obtain⟨T,x⟩:=q0 .jL;have R:T.length<=900:=by
  have N:=zi M n n;have Q:n*n<=30*30:=Nat.mul_le_mul j j;rw[x];omega
 obtain⟨z,lc⟩:=uO j O lb I m.os bb;rw[<-x]at z lc O⊢;have B:∀(σ:Sd) (g:Hd),aa 0 σ g=.ok f g->.fb .o σ g=.ok (.ref bk) g:=λσ g e=>aL (by rw[e,q]) rfl rfl rfl;have H:∀(σ:Sd) (g:Hd),aa 0 σ g=.ok f g->.fb .J σ g=.ok (.ref t) g:=λσ g e=>aL (by rw[e,q]) rfl rfl rfl;have G:aD .gw .hD .zG h=.nx [some f,some .aZ,none,none,none,none,none] h:=by
  have:=aC (i:=1) (dE<|cF (B .zG h rfl)<|aF m.ba);rw[ZA,lb]at this;exact this
 have L:=dM _ (n60 j);have E:.bQ .yX [some f,some .A,none,none,none,none,none] h=.nx [some f,some .A,some .M,none,none,none,none] (h++[.lst ([line fG [(n:Int)]].map .str)]) :=
  aC (cR<|.bO<|dH rfl (dU rfl<|n60 j) (by show 7+(tx (n:Int)).length<=1000000;omega))
 obtain⟨a,b,c,s⟩:=Sa m (line fG [(n:Int)]);rw[<-q,<-x]at s;obtain⟨X,w⟩:=q0 (line fG [(n:Int)]::T.map j0);rw[<-w]at s;have P:X.length<=901:=by rw[w,wI,ZA];omega
 obtain⟨o,l⟩:=q0 (h++[.lst .lo]:Hd);rw[<-l]at s;have K:o[h.length]?=some (.lst .lo):=by rw[l];simp
 have A:o[bk]?=some .cr:=by rw[l];exact .I m.ba
 have r:bR .ri .nl o=.ok (.ref o.length) (o++[.lst ((.po).map .str)]) :=
  cR (bZ (c5 (B _ _ rfl) A)<|LA bb A) (by dsimp[ZA,lb];exact ZM j .a)
 obtain⟨p,k⟩:=q0 (o++[.lst ((.po).map .str)]:Hd);rw[<-k]at r;have v:vJ .g (bR .ri) [some f,some .aZ,some .bb,a,b,c,none] o=.ok .Cz p:=by
  rw[ZR];exact JY rfl r (by rw[k];exact .I K) (by rw[k];simp) (by dsimp[ZA,lb];exact ZM (show X.length+n<=931 by omega) .a)
 have C:.bQ .De .nl o=.nx [some f,some .A,some (.ref p.length),a,b,c,none] (p++[.lst .Cz]) :=
  aC (cR v (by dsimp[ZA,ZB,lb];exact ZM (show X.length+n<=931 by omega) .a))
 have u:p[t]?=some .dI:=by rw[k,l];exact .I (.I m.st)
 obtain⟨d,y⟩:=Sb H u m.os .b (X:=X++bs.map mT) (by rw[ZB,ZA];omega) a b c;have F:X++bs.map mT++ss.map eS=bX n T bs ss:=by rw[w];simp[bX]
 rw[F]at y;have J:aS .oR [some f,some .A,some (.ref p.length),a,b,c,d] .zV=.rt (.str .hv) .zV :=
  aE (tK (.bu<|aF .f) z .b)
 rw[<-q];refine (.n<|sx G<|sx E<|sx s<|sx C<|sx y J).trans ?_;rw[k,l,ZU,ZU];exact bP rfl
end
theorem HZ{j:Nat}:∀{r:.bj},(∀p∈r,p.1≠j)->(.zU).sum=0
 |[],_=>rfl
 |p::r,h=>by
  rw[z5,VN,HZ λq a=>h q (ZW _ a),zF (h p ZV)];rfl
theorem Ia{j:Nat}:∀{r:.bj},(r.map (·.1)).Nodup->(j,v)∈r->(.zU).sum=v
 |[],_,h=>by cases h
 |p::r,nd,h=>by
  rw[z5]at nd;obtain⟨n1,a⟩:=YW.mp nd;rw[z5,VN];rcases y6.mp h with e|h
  ·subst e
   rw[zE rfl,HZ λq b z=>n1 (z0.mpr ⟨q,b,z⟩)];exact zYy _
  ·rw[zF λz=>n1 (z0.mpr ⟨_,h,z.symm⟩),Ia a h];exact Int.zero_add _
/---/def J7(n j:Nat):List Int:=(.s).map λk=>if k=j then 1 else 0
def ql(n j k:Nat):(J7 n j).getD k 0=if k<n/\k=j then 1 else 0:=by
 unfold J7;rw[ZF,ZQ]
 by_cases h:k<n
 ·rw[YP h]
  by_cases e:k=j
  ·rw[zE ⟨h,e⟩];simp[e]
  ·rw[zF (λz=>e z.2)];simp[e]
 ·rw[wM (by rw[ZO];omega),zF (λz=>h z.1)];rfl
theorem Ib:∀n,eg (λ_=>0) n=0
 |0=>rfl
 |n+1=>by rw[eg,Ib n];rfl
def xx(L:.ke)(hi:i<n):(j,v)∈nbs T i↔j<n/\M i j=v/\0<v:=by
 have b:j<n->((.aP).map λp=>if p.1=j then p.2 else 0).sum=M i j:=λa=>by
  have e:=L.pl i hi (J7 n j);rw[nK]at e;have l:((.aP).map λp=>if (J7 n j).getD p.1 0=1 then p.2 else 0)=(.aP).map λp=>if p.1=j then p.2 else 0:=YE λp d=>by
   have d:=qW L.ok.lt p d
   by_cases c:p.1=j
   ·rw[zE c,zE (by rw[ql,zE ⟨d,c⟩])]
   ·rw[zF c,zF (by rw[ql,zF (λz=>c z.2)];decide)]
  rw[l]at e;rw[e,xv (λk g=>?_) n,zE a,Ib]
  ·unfold jr
   rw[zE ⟨.inl ⟨hi,a⟩,by rw[ql,zE ⟨a,rfl⟩]⟩];omega
  ·unfold jr
   rw[zF];rintro⟨_,z⟩;rw[ql,zF λz=>g z.2]at z;exact .f0 .a
 constructor
 ·intro h
  have a:=qW L.ok.lt _ h;obtain⟨t,m,_,q⟩:=jJ.mp h;have w:=L.ok.wt t m;exact⟨a,(b a).symm.trans (Ia (lV L.ok.un i) h),by rw[q]at w;exact Int.lt_of_lt_of_le .a w.1⟩
 ·rintro⟨a,e,p⟩
  by_cases c:∃w,(j,w)∈nbs T i
  ·obtain⟨w,f⟩:=c
   have:=(b a).symm.trans (Ia (lV L.ok.un i) f);rw[<-e,this];exact f
  ·have:=(b a).symm.trans (HZ λp d z=>c ⟨p.2,by rw[<-z];exact d⟩)
   omega
theorem BP{α:Type}{r:α->α->Prop}(d:∀a b,r a b->¬r b a):∀{l k:List α},l.Pairwise r->k.Pairwise r->(∀x,x∈l↔x∈k)->l=k
 |[],[],_,_,_=>rfl
 |[],y::k,_,_,m=>absurd ((m y).mpr ZV) zYw
 |x::l,[],_,_,m=>absurd ((m x).mp ZV) zYw
 |x::l,y::k,h1,p,m=>by
  obtain⟨f,i⟩:=YC.mp h1;obtain⟨g,o⟩:=YC.mp p;have e:x=y:=by
   rcases y6.mp ((m x).mp ZV) with e|j
   ·exact e
   ·rcases y6.mp ((m y).mpr ZV) with e|n
    ·exact e.symm
    ·exact absurd (g x j) (d _ _<|f y n)
  subst e;have h:¬r x x:=λz=>d x x z z;rw[BP d i o λz=>⟨λc=>?_,λc=>?_⟩]
  ·rcases y6.mp ((m z).mp (ZW _ c)) with e|q
   ·subst e;exact absurd (f _ c) h
   ·exact q
  ·rcases y6.mp ((m z).mpr (ZW _ c)) with e|q
   ·subst e;exact absurd (g _ c) h
   ·exact q
def Sc(s t:Tie)(h:uP s t):¬uP t s:=λz=>by
 unfold uP at h z;omega
def zj:t∈qt M n k↔t.a<k/\t.a<t.b/\t.b<n/\M t.a t.b=t.w/\0<t.w:=by
 unfold qt j6;rw[List.mem_flatMap];constructor
 ·rintro⟨i,d,o⟩
  obtain⟨j,l,rfl⟩:=z0.mp o;obtain⟨c,f⟩:=YF.mp l;have c:=YK.mp c;have d:=YK.mp d;exact⟨d,show i<i+1+j by omega,show i+1+j<n by omega,rfl,YD f⟩
 ·rintro⟨c,f,m,h,g⟩
  obtain⟨a,b,w⟩:=t;simp only at c f m h g;subst h;have e:a+1+(b-(a+1))=b:=by omega
  refine⟨a,YK.mpr c,z0.mpr ⟨b-(a+1),YF.mpr ⟨YK.mpr .b,?_⟩,?_⟩⟩
  ·rw[e];exact z3 g
  ·rw[e]
def LN(M:.aJ)(i k:Nat):(.px).Pairwise uP:=by
 unfold j6;rw[Y4];exact(List.pairwise_lt_range.imp λ{a b} h=>.inr ⟨rfl,show i+1+a<i+1+b by omega⟩).filter _
theorem uW(M:.aJ)(n:Nat):∀k,(.pv).Pairwise uP
 |0=>List.Pairwise.nil
 |k+1=>by
  rw[uV];refine xn.mpr ⟨uW M n k,LN M k _,λs a t ht=>.inl ?_⟩;have h1:=(zj.mp a).1;unfold j6 at ht;obtain⟨j,_,rfl⟩:=z0.mp ht;exact h1
theorem Tr{n:Nat}(O:MOk M)(hn:one<n){T:.ax}(L:LP n M one 0 T):∀k,k<=one->∃T,LP n M one k T
 |0,_=>⟨T,L⟩
 |k+1,h=>by
  obtain⟨b,a⟩:=Tr O hn L k .b
  by_cases z:0<M one k
  ·exact⟨_,a.put O .b hn z⟩
  ·exact⟨_,a.skip O .b hn (by have:=O.bd one k;omega)⟩
theorem Pk{n:Nat}(O:MOk M)(hn:n<=30):∀k,k<=n->∃T,LP n M k 0 T
 | 0,_=>⟨[],⟨⟨nofun,nofun,nofun,nofun,List.Pairwise.nil,YH _⟩,λi hi s=>by
   have:∀j,jr M s 0 0 i j=0:=λj=>by
    unfold jr;rw[zF];rintro⟨z,_⟩;unfold rp at z;omega
   rw[kG n λj _=>this j,Ib];rfl⟩⟩
 |k+1,h=>by
  obtain⟨T,L⟩:=Pk O hn k .b;obtain⟨b,a⟩:=Tr O (show k<n by omega) L k .B;exact⟨b,a.step O .b hn⟩
def mV(hn:n<=30)(L:.ke):qt M n n=jA n T :=
 BP Sc (uW M n n) (Lz L.ok) λt=>by
  rw[zj,OZ];constructor
  ·rintro⟨a,c,b,e,d⟩
   exact⟨a,c,(xx L a).mpr ⟨b,e,d⟩⟩
  ·rintro⟨a,c,b⟩
   obtain⟨q1,q2,q3⟩:=(xx L a).mp b;exact⟨a,c,q1,q2,q3⟩
def zk(l:.c):io .hM=true:=kj λ_ _=>rfl
abbrev NL(l:.m):List D:=l.map λk:Nat=>D.int k
structure Ch(w:Web)(n:Nat)(l:.m):Prop where
 up:l.Pairwise (· < ·)
 lt:∀p∈l,p<n
 no:∀p∈l,w.stays.getD p none≠some 0
/---/def fP(w:Web)(n:Nat)(l:.m):List Int:=(.s).map λi=>if i∈l\/.ir none=some 1 then 1 else 0
def J8(u:.aF)(h:Hd):oNe (bw u) (.int 0) h=.ok (.bl<|decide (u≠some 0)) h:=by
 cases u with
 |none=>rfl
 |some v =>
  show oNe .cs (.int 0) h=_;rw[qU]
  by_cases e:v=0
  ·rw[z3 e,z4 (λz=>z .ma)];rfl
  ·rw[z4 e,z3 (show (some v≠some (0:Int)) from λz=>e (ZT z))];rfl
def Pl(u:.aF)(h:Hd):oEq (bw u) (.int 1) h=.ok (.bl<|decide (u=some 1)) h:=by
 cases u with
 |none=>rfl
 |some v =>
  show oEq .cs (.int 1) h=_;rw[iR]
  by_cases e:v=1
  ·rw[z3 e,z3 .ma]
  ·rw[z4 e,z4 (λz=>e (ZT z))]
def Ts(c:.ia)(i:Nat):oIn (.int (i:Nat)) .Z h=.ok (.bl<|decide (i∈l)) h:=by
 have f:(.df).all iw=true:=by
  rw[xb];intro x b;obtain⟨j,_,rfl⟩:=z0.mp b;rfl
 have a:((.df).any λz=>eqF z (.int (i:Nat)))=decide (i∈l):=by
  by_cases e:i∈l
  ·rw[z3 e,List.any_eq_true]
   exact⟨.int (i:Nat),z0.mpr ⟨i,e,rfl⟩,by simp⟩
  ·rw[z4 e,List.any_eq_false]
   intro x b z;obtain⟨j,d,rfl⟩:=z0.mp b;have z:((j:Int) == (i:Int))=true:=z;have:j=i:=by have:=eq_of_beq z;omega
   exact e (this▸d)
 dsimp[oIn,inL,kT,c,iw,f,Bool.and_self,Y5,a]
section
variable{w:Web}{n:Nat}{l:.m}
def W3(W:w.Ok n)(hp:p<n):atI .b3 (p:Int)=some .B2:=by
 have h:p<w.stays.length:=W.s.symm▸hp;rw[ZF,ZE h];exact dN (by rw[ZQ,ZE h];rfl)
def LO(W:w.Ok n)(hp:p<n)(h:Hd):dz [w.enc,.int (p:Nat)] h=.aM h:=by
 have m:bS .aQ h=.ev h:=by rw[pw,W.t]
 have b:bC [.int (p:Nat),.int 0,.int ((n:Int)-1)] h=.aM h:=by
  have:=dF (p:Int) 0 ((n:Int)-1) h;rw[this,z3 (show (0:Int)<=p by omega),z3 (show (p:Int)<=(n:Int)-1 by omega)];rfl
 exact (.n<|aE<|aq (.cA<|.bc<|.cy<|.ah m) b).trans aJ
def LR(W:w.Ok n)(hp:p<n)(no:w.stays.getD p none≠some 0)(h:Hd):eC [w.enc,.int (p:Nat)] h=.aM h:=by
 have s:ia [w.enc,.int (p:Nat)] h=.ok .B2 h:=(.n<|aE<|aL .bU rfl rfl<|W3 W hp).trans aJ;exact (.n<|aE<|ot<|gC (aM<|.F<|LO W hp h)<|aM<|av (.F s) rfl (by rw[J8,z3 no])).trans aJ
def Pm{α:Type}(l:List α):ml .te=some .ou:=by
 induction l with
 |nil=>rfl
 |cons x l a=>simp[ml,a]
def W4{α:Type}(l:List α):(.ou).all id=true:=by simp
def Se(hm:m<=1000)(p:a σ h=.ok (.int<|(m:Int)-1) h):cr a σ h=.ok ((.bY<|m-1).map (λk:Nat=>D.int k),none) h:=by
 show Res.bind _ _=_;rw[p];show (if -1000000<=(m:Int)-1/\(m:Int)-1<=1000000 then Res.ok ((List.range ((m:Int)-1).toNat).map (λk:Nat=>D.int k),(none:.gR)) h else Res.bad)=_;rw[zE ⟨by omega,by omega⟩,show ((m:Int)-1).toNat=m-1 by omega]
theorem FM:∀{m:Nat} {l:.m},l.Pairwise (· < ·)->(∀x∈l,x<m)->l.length<=m
 |m,[],_,_=>YH _
 |0,x::l,_,h=>absurd (h x .f) .b
 |m+1,x::l,p,h=>by
  have c:=YC.mp p;have:=FM (m:=m) (l:=l.map (· - 1)) (by
   rw[Y4];refine c.2.imp_of_mem λ{a b} e f q=>?_;have:=c.1 a e;have:=c.1 b f;omega) (λy g=>by
   obtain⟨z,d,rfl⟩:=z0.mp g;have:=h z (by simp[d]);have:=c.1 z d;omega)
  simp at this⊢;omega
def Pn(C:.fU):l.length<=n:=FM C.up C.lt
def Dk(W:w.Ok n)(n30:n<=30)(C:.fU)(c:.ia):gj .oM h=.aM h:=by
 have t:cu .bJ .df .G [] (au eC .lp) .df .t5 h=.ok ((.df).map λ_=>D.bl true) h:=by
  have:=bj (g:=some k) (tg:=gN 0) (cs:=[]) (e:=au eC .lp) (h:=h) (I:=λσ=>∃a,σ = [a,some w.enc]) .aI .hG c (xs:=NL l) (σ:=.t5) (by
   rintro x f σ ⟨a,rfl⟩;obtain⟨i,d,rfl⟩:=z0.mp f;exact⟨_,rfl,⟨_,rfl⟩,rfl,λ_=>aq .bS (LR W (C.lt i d) (C.no i d) h)⟩) ⟨_,rfl⟩
  rw[this,wL.mpr .r]
 have o:.d0 ((.sV).map λk:Nat=>D.int k) .G [] (ag oLt .fl .sR) ((.sV).map λk:Nat=>D.int k) [none,some .Z] h=.ok (((.sV).map λk:Nat=>D.int k).map λ_=>D.bl true) h:=by
  have:=bj (g:=none) (all:=(.BU).map λk:Nat=>D.int k) (tg:=gN 0) (cs:=[]) (e:=ag oLt .fl .sR) (h:=h) (I:=λσ=>∃a,σ = [a,some .Z]) .aI .hG trivial (xs:=(.BU).map λk:Nat=>D.int k) (σ:=[none,some .Z]) (by
   rintro x f σ ⟨a,rfl⟩;obtain⟨i,d,rfl⟩:=z0.mp f;have d:=YK.mp d;have j:i<l.length:=by omega
   have m:i+1<l.length:=by omega
   have u:atI .df (i:Int)=some (.int (l[i]:Nat)):=dN (by rw[ZQ,ZE j];rfl);have r:atI .df ((i:Int)+1)=some (.int (l[i+1]:Nat)):=by
    have:atI .df ((i+1:Nat):Int)=some (.int (l[i+1]:Nat)):=dN (by rw[ZQ,ZE m];rfl);exact this
   have lt:=zYz.mp C.up i (i+1) j m (Z6 _);exact⟨_,rfl,⟨_,rfl⟩,rfl,λ_=>av (.aG (aF c) u) (aL rfl .cE (aF c) r) (yk .b)⟩) ⟨_,rfl⟩
  rw[this,wL.mpr .r]
 have v:=Pn C;have q:sIf .lc .fh bh .fp h=.nx .fp h:=(bH<|.bN<|aM<|CL rfl c).trans rfl;have p:sIf .x6 .fh bh .fp h=.nx .fp h:=(bH<|.bN<|aM<|(qT (bZ (c5 rfl c) t)<|Pm _).trans (by rw[W4])).trans rfl;have s:ag gy .c5 .o .fp h=.ok (.int<|(l.length:Int)-1) h:=av (x:=.int (l.length:Nat)) ((dE<|.bu<|aF c).trans .l4) rfl rfl;exact (.n<|(bF q).trans ((bF p).trans (aE<|(qT (bZ (Se .b s) o)<|Pm _).trans (by rw[W4])))).trans aJ
def mW(W:w.Ok n)(S:cG w)(C:.fU):.b0 .aN:=by
 refine⟨by simp[fP],λx c=>?_,λi x e=>?_⟩
 ·obtain⟨i,_,rfl⟩:=z0.mp c
  split
  ·exact .inr rfl
  ·exact .inl rfl
 ·have a:i<n:=by have:=(.cN).1;rwa[W.s]at this
  have g:.ir none=some x:=by rw[ZF,e];rfl
  have b:=S .fJ (ZK e);show ((.s).map _)[i]?=_;rw[ZQ,YP a];show some (if i∈l\/.ir none=some 1 then (1:Int) else 0)=_;rcases b with z|z|z
  ·cases z
  ·have z:=ZT z
   subst z;rw[zF];rintro (q|q)
   ·exact C.no i q g
   ·rw[g]at q;cases q
  ·have z:=ZT z
   subst z;rw[zE (.inr g)]
def Po{l:List D}{x:D}(b:x∈gQ l):∃(i:Nat) (d:D),l[i]?=some d/\x=.tup [.int (i:Nat),d]:=by
 unfold gQ at b;obtain⟨p,e,rfl⟩:=z0.mp b;obtain⟨k,a⟩:=zYo e;rw[YQ]at a;obtain⟨c,f⟩:=a;have:p.1=k:=by
  obtain⟨h,g⟩:=zA.mp c;simpa using g.symm
 exact⟨k,p.2,f,by rw[this]⟩
def Pp(ss:.Q)(f:Nat->Option Int->D):(gQ .an).map (λd=>match d with | .tup [.int i,_]=>f i.toNat .Dy|_=>.non)=(.bY ss.length).map λi=>f i .eI:=by
 unfold gQ;rw[y3];apply VM;intro i
 by_cases a:i<ss.length
 ·rw[ZQ,ZQ,YP a]
  have:((List.range (.an).length).zip .an)[i]?=some (i,bw ss[i]):=by
   rw[YQ];exact⟨YP .lh,by rw[ZQ,ZE a];rfl⟩
  rw[this];rfl
 ·rw[wM .X,wM .X]
def Pq(W:w.Ok n)(n30:n<=30)(C:.fU)(v:.ia):sH .oM h=.ok (ar .aN) h:=by
 obtain⟨A,B⟩:=q0 .eg;have y:bK .aQ h=.ok .di .eJ:=(.n<|aE<|k7 B .pa (by rw[ZA,W.s];exact ZM n30 .a)).trans cI;obtain⟨e,g⟩:=q0 (h++[.lst .b3]:Hd);rw[<-g]at y;have E:e[A]?=some (.lst .b3):=by rw[g];exact eu B _
 have s:e[k]?=some .r0:=by rw[g];exact .I v
 have c:=x9 (G:=λK=>K[A]?=some .o3) (tg:=gT [0,1]) (cs:=[]) (I:=λσ=>∃a b,σ=[a,b,some .Z]) .aI
  (λd=>match d with | .tup [.int i,_]=>(.yF) i.toNat (w.stays.getD i.toNat none)|_=>.non) E (xs:=gQ .b3) (σ:=[none,none,some .cT]) (by
   rintro x J σ ⟨a,b,rfl⟩;obtain⟨i,d,t,rfl⟩:=Po J;have m:i<w.stays.length:=by have:=(zA.mp t).1;rwa[ZA]at this
   have hd':d=bw (.ir none):=by
    rw[ZQ,ZE m]at t;rw[ZF,ZE m];exact(ZT t).symm
   subst hd';refine⟨_,rfl,⟨_,_,rfl⟩,rfl,λ_=>?_⟩;show fIf .rK .o .z .rE e=.ok (.int<|if (.ml).toNat∈l\/w.stays.getD (.ml).toNat none=some 1 then 1 else 0) e;rw[zZh];have j:tE (ag oIn .e .g) .rE e=.ok (decide (i∈l)) e:=aM (.am<|Ts s i);have q:tE (.cf .o) .rE e=.ok (decide (.ir none=some 1)) e:=aM (.am<|Pl _ _)
   by_cases p:i∈l
   ·rw[z3 p]at j
    rw[zE (.inl p)];exact(nI<|uo j).trans rfl
   ·rw[z4 p]at j
    by_cases o:.ir none=some 1
    ·rw[z3 o]at q
     rw[zE (.inr o)];exact(nI<|iQ j q).trans rfl
    ·rw[z4 o]at q
     rw[zF (λz=>z.elim p o)];exact(pv<|iQ j q).trans rfl) ⟨_,_,rfl⟩
 rw[wL.mpr .r,Pp w.stays .yF,W.s]at c;have H:pd 2 [1] .eM .bI [] (fIf .rK .o .z) .fp h=.ok ((.aN).map .int) e:=by
  have f:=aq (F:=bK) (r:=ad .e am) (σ:=.fp) .bo y;unfold pd;rw[f];dsimp[E];refine c.trans ?_;unfold fP;rw[y3];rfl
 have L:sIf (dZ<|tE<|.cV gj) fz bh .fp h=.nx .fp h:=(bH<|.bN<|aM<|.F<|Dk W n30 C v).trans rfl;refine (.n<|(bF L).trans (aE<|hU H)).trans ?_;rw[g];exact bP (by dsimp[pure?];exact zk _)
end
def Pr{l:List D}{k:Nat}(a:1<=k):cut l .ot none=l.drop (l.length-k):=by
 have e:.kz 0 .ot=l.length-k:=by
  show .xN=_;rw[zE .b];omega
 unfold cut;rw[e];exact Y9 (by rw[List.length_drop];exact ZL _)
def LT{l:List D}{k:Nat}(a:1<=k):cut l none .ot=l.take (l.length-k):=by
 have e:.kz l.length .ot=l.length-k:=by
  show .xN=_;rw[zE .b];omega
 unfold cut;rw[e];rfl
def FN{c b:Hd}{i j:.aF}{l:List D}(p:.ms)(q:lo σ h1=.ok i c)(r:hi σ c=.ok j b)(s:b[n]?=some .d7):eA a lo hi σ h=.ok .qC (b++[.lst .pn]):=by
 dsimp[eA,p,aR,q,r,jM,s]
section
variable{w:Web}{n:Nat}{s:.c}
def zm(t j:Nat):(.dU<|t+j).drop t=(.bY j).map λi=>.t s (t+i):=by
 unfold bn;apply VM;intro i;rw[List.getElem?_drop,ZQ,ZQ]
 by_cases a:i<j
 ·rw[YP .b,YP a];rfl
 ·rw[wM .X,wM .X];rfl
def Ic(t j:Nat):(.dU<|t+j).take t=bn w n s t:=by
 unfold bn;rw[<-List.map_take,List.take_range,Nat.min_eq_left (YR t j)]
/---/def NOT:D:=.str [110,111,116]
/---/def TRN:D:=.str .hu
/---/def LU(w:Web)(n:Nat)(s:.c)(t:Nat):D:=if hist w n s (t+1)=hist w n s t then (if (0:Int)∈hist w n s (t+1) then NOT else TRN) else NOT
/---/def Sf(w:Web)(n:Nat)(s:.c)(t:Nat):List .aW:=if hist w n s (t+1)=hist w n s t then (if (0:Int)∈hist w n s (t+1) then [.t s (t+1)] else bn w n s (t+1)) else [.t s t,.t s (t+1)]
def J9(l:.c)(x:Int)(h:Hd):inL h .ed (ar l)=some (decide (x∈l)):=by
 have f:(.hM).all iw=true:=by
  rw[xb];intro x b;obtain⟨j,_,rfl⟩:=z0.mp b;rfl
 have a:((.hM).any λz=>eqF z .ed)=decide (x∈l):=by
  by_cases e:x∈l
  ·rw[z3 e,List.any_eq_true]
   exact⟨.int x,z0.mpr ⟨x,e,rfl⟩,by simp⟩
  ·rw[z4 e,List.any_eq_false]
   intro y c z;obtain⟨j,d,rfl⟩:=z0.mp c;have z:(j == x)=true:=z;exact e (eq_of_beq z▸d)
 dsimp[inL,ar,kT,iw,f,Bool.and_self,Y5,a]
def Vu(l:.c)(x:Int)(h:Hd):oIn .ed (ar l) h=.ok (.bl<|decide (x∈l)) h:=by
 unfold oIn;rw[J9]
def BQ(l:.c)(x:Int)(h:Hd):lG .ed (ar l) h=.ok (.bl<|!decide (x∈l)) h:=by
 unfold lG;rw[J9]
def Dl(W:w.Ok n)(n30:n<=30)(S:cG w)(C:.fU)(M:.ia)(x:.gS){t:Nat}(ht:.t .aN (t+2)=.t .aN t)(hm:∀k,k<t->hist w n .aN (k+2)≠hist w n .aN k)(hz:t<=900000):
  iV .oM h=.ok (.tup [LU w n .aN t,.ref (A+1)]) (h++[.lst ((bn w n .aN<|t+2).map ar),.lst ((Sf w n .aN t).map ar)]):=by
 have F:=mW W S C;obtain⟨s,O⟩:=q0 .aN;have H:=Pq W n30 C M;rw[<-O]at ht hm F H⊢;have o:=yv W S F ht hm hz h;rw[<-x]at o;obtain⟨b,i⟩:=q0 .ry
 rw[<-i]at o;obtain⟨c,f⟩:=q0 (h++[cM.lst .bx]);rw[<-f]at o;have B:c[A]?=some (.lst .bx):=by rw[f];exact eu x _
 have G:c.length=A+1:=by rw[f,ZB,x];rfl
 have E:(.bx).length=t+2:=by rw[ZA,jy]
 have y:.bQ .z6 [some w.enc,some .Z,none,none,none] h=.nx .zj c:=aC (aq (.bc<|.F H) o);have v:.c0 .kW .zj c=.nx .yv c:=aC .bU;have p:.fd .u4 .yv c=.nx .f2 c:=aC .bU;have P:atI .bx (-1)=some .mi:=gg (t+1) 1 .a;have fin:∀(d:D) (L:List D),(c++[cM.lst L])=h++[.lst .bx,.lst L]:=λd L=>by rw[f,ZU];rfl
 have u:∀{d:D} {g:Hd},.a1 (.ok (.tup [d,.ref (A+1)]) g)=.ok (.tup [d,.ref (A+1)]) g:=λ{d g}=>ul (by simp[pure?,io]);have J:∀{j:Nat} (K:1<=j) (σ:Sd) (e:aa 4 σ c=.ok .ar c),eA .u (pAt .DH) pNo σ c=.ok (.ref<|A+1) (c++[.lst ((.bx).drop (t+2-j))]):=λ{j} K σ e=>by
  have:=FN (lo:=pAt .DH) (hi:=pNo) e rfl rfl B;rw[Pr K,E,G]at this;exact this
 by_cases q:.t s (t+1)=.t s t
 ·rw[zE q]at i
  have I:sIf (tE .sv) .xj bh .f2 c=.nx .f2 c:=by
   rw[i];exact (.jU).trans rfl
  have m:tE .B5 .f2 c=.ok (decide ((0:Int)∈hist w n s (t+1))) c:=aM (av rfl (.aG (aF B) P)<|Vu _ _ _)
  by_cases z:(0:Int)∈hist w n s (t+1)
  ·rw[z3 z]at m
   have r:=J .B .f2 rfl;rw[show t+2-1=t+1 from rfl,<-List.map_drop,show t+2=(t+1)+1 from rfl,zm]at r;unfold LU Sf;rw[zE q,zE z,zE q,zE z];refine (.n<|(bF y).trans ((bF v).trans ((bF p).trans ((bF I).trans (dS<|(dD m).trans .tt))))).trans .qJ;rw[fin .non];rfl
  ·rw[z4 z]at m
   have r:=FN (a:=aa 4) (lo:=pNo) (hi:=pAt (fC<|.int (-((1:Nat):Int)))) (σ:=.f2) (h:=c) rfl rfl rfl B;rw[LT (ZL 1),E,G,<-List.map_take,show t+2-1=t+1 from rfl,show t+2=(t+1)+1 from rfl,Ic]at r;unfold LU Sf;rw[zE q,zF z,zE q,zF z];refine (.n<|(bF y).trans ((bF v).trans ((bF p).trans ((bF I).trans ((bF<|(bH m).trans rfl).trans .tt))))).trans .qJ;rw[fin .non];rfl
 ·rw[zF q]at i
  have N:tE .sv .f2 c=.ds c:=by
   rw[i];exact aM .cE
  have r:=J (j:=2) .a .f2 rfl;rw[show t+2-2=t from rfl,<-List.map_drop,zm]at r;unfold LU Sf;rw[zF q,zF q];refine (.n<|(bF y).trans ((bF v).trans ((bF p).trans (dS<|(dD N).trans .tt)))).trans .qJ;rw[fin .non];rfl
end
theorem Id(A B:Nat->List .bV)(f s:.eX):∀n,S2 (λk=>A k++B k) f s n=S2 A f s n+S2 B f s n
 |0=>rfl
 |k+1=>by
  dsimp[S2,Id A B f s k,ZR,List.sum_append];omega
theorem Ie(f s:.eX):∀n,S2 (λ_=>[]) f s n=0
 |0=>rfl
 |k+1=>by simp[S2,Ie f s k]
def Ym{l m:.c}(p:l.Perm m):l.sum=m.sum:=by
 induction p with
 |nil=>rfl
 |cons x _ c=>simp[c]
 |swap x y l=>simp;omega
 |trans _ _ a b=>exact a.trans b
theorem Ka{A B:Nat->List .bV}(f s:.eX):∀n,(∀i,i<n->(A i).Perm (B i))->S2 A f s n=S2 B f s n
 |0,_=>rfl
 |k+1,h=>by
  have p:=Ym ((h k<|Z6 k).map λp:Nat × Int=>p.2*f p.1*s k);dsimp[S2,Ka f s k λi a=>h i (Z2 a),p]
/---/def Dm(t:Tie)(i:Nat):List .bV:=match far i t with|some j=>[(j,t.w)] | none=>[]
def W5(t:Tie):Dm t t.a=[(t.b,t.w)]:=by simp[Dm,far]
def W6(h:t.a≠t.b):Dm t t.b=[(t.a,t.w)]:=by simp[Dm,far,h]
def W7(h1:t.a≠i)(a:t.b≠i):Dm t i=[]:=by simp[Dm,far,h1,a]
theorem Ig(t:Tie)(d:t.a≠t.b)(f s:.eX):∀n,S2 (Dm t) f s n=(if t.a<n then t.w*f t.b*s t.a else 0)+(if t.b<n then t.w*f t.a*s t.b else 0)
 |0=>rfl
 |k+1=>by
  dsimp[S2,Ig t d f s k]
  by_cases a:t.a=k
  ·subst a
   rw[W5];have h1:¬t.a<t.a:=Z8 _
   by_cases b:t.b<t.a
   ·simp[b,Z2 b];omega
   ·have:¬t.b<t.a+1:=by omega
    simp[b,this]
  ·by_cases b:t.b=k
   ·subst b
    rw[W6 d]
    by_cases c:t.a<t.b
    ·simp[c,Z2 c]
    ·have:¬t.a<t.b+1:=by omega
     simp[c,this]
   ·rw[W7 a b]
    have h1:t.a<k+1↔t.a<k:=by omega
    have e:t.b<k+1↔t.b<k:=by omega
    simp[h1,e]
theorem Ps{n:Nat}(f s:.eX):∀T:List Tie,(∀t∈T,t.a≠t.b)->(∀t∈T,t.a<n/\t.b<n)->S2 (nbs T) f s n=S2 (nbs T) s f n
 |[],_,_=>by
  have:nbs []=λ_=>[]:=by funext i;rfl
  rw[this,Ie,Ie]
 |t::T,h,l=>by
  have e:nbs (t::T)=λk=>Dm t k++nbs T k:=by
   funext i;unfold nbs Dm;rw[zZl];cases far i t<;>rfl
  obtain⟨c,d⟩:=l t .ep;rw[e,Id,Id,Ps f s T (λa b=>h a (.tail _ b)) (λa b=>l a (.tail _ b)),Ig t (h t .ep),Ig t (h t .ep),zE c,zE d,zE c,zE d];rw[Int.mul_right_comm t.w (f t.b),Int.mul_right_comm t.w (f t.a)];omega
theorem W8(x:.cQ):∀r,(qV x r).Perm (x::r)
 |[]=>.refl _
 |y::r=>by
  unfold qV;split
  ·exact .refl _
  ·exact((W8 x r).cons y).trans (.swap x y r)
theorem Tt:∀r,(dG r).Perm r
 |[]=>.refl _
 |x::r=>(W8 x _).trans ((Tt r).cons x)
def Sg(O:.au)(bs:.c)(ss:.Q)(f s:.eX):S2 .sP f s n=S2 .sP s f n:=by
 have c:∀f s,S2 .sP f s n=S2 (nbs T) f s n:=λf s=>Ka f s n λi a=>by
  have e:(.S).ties.getD i []=dG .aP:=by simp[bA,List.getD,a]
  rw[e];exact Tt _
 rw[c,c,Ps f s T O.ne O.lt]
theorem php:∀(N t:Nat) (f:Nat->Nat),(∀i,i<=t->f i<N)->(∀i j,i<j->j<=t->f i≠f j)->t+1<=N
 |0,t,f,h,_=>by have:=h 0 .dM;omega
 |N+1,0,f,_,_=>by omega
 |N+1,t+1,f,h,d=>by
  have l:=h (t + 1) .B;have:=php N t (λi=>if f i < f (t + 1) then f i else f i - 1) (λi e=>by
   have c:=h i .b;have b:=d i (t+1) .b .B;split<;>omega) (λi j a g=>by
   have c:=d i j a .b;have b:=d i (t+1) .b .B;have k:=d j (t+1) .b .B;split<;>split<;>omega)
  omega
def Ar:List Int->Nat
 |[]=>0
 |x::xs=>2*Ar xs+x.toNat
theorem Kb:∀xs:List Int,(∀x∈xs,x=0\/x=1)->Ar xs<2^xs.length
 |[],_=>by decide
 |x::xs,h=>by
  have b:=Kb xs λy a=>h y (.tail _ a);rw[wI,Nat.pow_succ];show 2*Ar xs+x.toNat<_;rcases h x .ep with e|e<;>subst e<;>simp<;>omega
theorem FO:∀xs ys:List Int,xs.length=ys.length->(∀x∈xs,x=0\/x=1)->(∀x∈ys,x=0\/x=1)->Ar xs=Ar ys->xs=ys
 |[],[],_,_,_,_=>rfl
 |[],_::_,h,_,_,_=>by simp at h
 |_::_,[],h,_,_,_=>by simp at h
 |x::xs,y::ys,h,f,d,c=>by
  have c:2*Ar xs+x.toNat=2*Ar ys+y.toNat:=c;have e:x=y/\Ar xs=Ar ys:=by
   rcases f x .ep with e|e<;>rcases d y .ep with b|b<;>subst e b<;>simp at c⊢<;>omega
  rw[e.1,FO xs ys .oo (λz a=>f z (.tail _ a)) (λz a=>d z (.tail _ a)) e.2]
structure Go(w:Web)(n:Nat):Prop where
 W:w.Ok n
 n13:n<=13
 S:cG w
 more:qX w w n
 sym:∀f s,S2 .iB f s n=S2 .iB s f n
def Go.n30(G:Go w n):n<=30:=ZM G.n13 .a
structure zn(w:Web)(n:Nat)(s:.c)(t:Nat):Prop where
 ht:.t s (t+2)=.t s t
 hm:∀k,k<t->hist w n s (k+2)≠hist w n s k
 hz:t<=8192
def Go.fin(G:Go w n)(F:.V):∃t,zn w n s t:=by
 obtain⟨t,g,c⟩:=Yg G.W G.S F G.sym;have:=php 8192 t (λi=>Ar .lH) (λi _=>by
  have b:=Kb .lH (.iv i).op;rw[(.iv i).len]at b;exact ZY b (zZd .a G.n13)) (λi j f h e=>by
  have a:=.iv i;have d:=.iv j;have q:=FO _ _ (by rw[a.len,d.len]) a.op d.op e;have l:=Th G.W G.S F G.sym (c i .b);have p:=Ti G.W G.S F G.sym (k:=i+1) (m:=j) .b;have o:eN w n s i=eN w n s j:=by
   unfold eN;show i8 w .lH (.aU .lH) n=i8 w .uO (.aU .uO) n;rw[q]
  omega)
 exact⟨t,g,c,by omega⟩
structure Tu(w:Web)(n:Nat)(s:.c)(t:Nat):Prop where
 re:.t s (t+1)=.t s t
 no:(0:Int)∉hist w n s (t+1)
section
variable{w:Web}{n:Nat}{s s':.c}{t t':Nat}
def Kc(F:.V)(no:(0:Int)∉s):s=List.replicate n 1:=by
 have l:s.length=n:=F.len;apply List.ext_getElem (by rw[l,zZr]);intro i a c;have b:=iB F i;rw[ZF,ZE a]at b;rw[List.getElem_replicate];rcases b with b|b
 ·exact absurd (b▸YA a) no
 ·exact b
def zn.one(a:zn w n s t)(b:zn w n s t'):t=t':=by
 rcases Nat.lt_trichotomy t t' with c|c|c
 ·exact absurd a.ht (b.hm t c)
 ·exact c
 ·exact absurd b.ht (a.hm t' c)
open Classical in
/---/def tb(w:Web)(n:Nat)(l:.m):Bool:=decide (∃t,zn w n .aN t/\Tu w n .aN t)
def BR(E:zn w n .aN t):tb w n l=true↔Tu w n .aN t:=by
 unfold tb;exact(@decide_eq_true_iff _<|Classical.propDecidable _).trans ⟨λ⟨t',a,T⟩=>E.one a▸T,λT=>⟨t,E,T⟩⟩
def Yn(E:zn w n .aN t):LU w n .aN t=if tb w n l=true then TRN else NOT:=by
 unfold LU
 by_cases c:.t .aN (t+1)=.t .aN t
 ·rw[zE c]
  by_cases z:(0:Int)∈hist w n .aN (t+1)
  ·rw[zE z,zF λq=>((BR E).mp q).no z]
  ·rw[zF z,zE ((BR E).mpr ⟨c,z⟩)]
 ·rw[zF c,zF λq=>c ((BR E).mp q).re]
def Sh(G:Go w n)(C:.fU)(E:zn w n .aN t):(!decide ((0:Int)∈hist w n .aN (t+1)) && !decide ((0:Int)∈hist w n .aN t))=tb w n l:=by
 have F:=mW G.W G.S C
 by_cases a:(0:Int)∈hist w n .aN (t+1)
 ·rw[z3 a]
  cases c:tb w n l with
  |false=>rfl
  |true=>exact absurd a ((BR E).mp c).no
 ·rw[z4 a]
  by_cases b:(0:Int)∈hist w n .aN t
  ·rw[z3 b]
   cases c:tb w n l with
   |false=>rfl
   |true=>have:=((BR E).mp c).re;rw[this]at a;exact absurd b a
  ·rw[z4 b]
   exact((BR E).mpr ⟨(Kc (.iv _) a).trans (Kc (.iv _) b).symm,a⟩).symm
def Pt(G:Go w n)(C:.fU)(a:.ia):∃L g,iV .oM h=.ok (.tup [if tb w n l=true then TRN else NOT,L]) .aj:=by
 obtain⟨t,E⟩:=G.fin .uN;have:=Dl G.W G.n30 G.S C a rfl E.ht E.hm (ZM E.hz .a);rw[Yn E]at this;exact⟨_,_,this⟩
end
structure Lw(Z n:Nat)(M:.aJ)(bs:.c)(ss:.Q)(bk sk:Nat)(T:.ax)(w:Web)(td:D)(h:Hd):Prop where
 m:.e7 sk h
 L:LP n M n 0 T
 w':w=bA n T bs ss
 t':td=.tup .k4
def Lw.more{T b h n}(l:.pQ)(g:Hd):.bd b T w a .aj:=⟨l.m.more g,l.L,l.w',l.t'⟩
def Lw.turn{T b h n}(l:.pQ)(F:.V):dm [a,ar s] h=.ok (ar .af) h:=by
 rw[l.w',l.t'];exact Vt l.m l.L F.len λi=>iB F i
def Lw.many{T b h n}(l:.pQ)(e:σ[0]?=some (some a)):cC (lOf .cn) σ h=.ok (.int (n:Nat)) h:=by
 have v:aa 0 σ h=.ok a h:=by dsimp[aa,slot,e]
 rw[l.t']at v;refine zXo (dE<|cF (aL v rfl rfl rfl)<|aF l.m.ba) ?_;rw[ZA,l.m.lb]
def zq{T b h n}(G:Go w n)(l:.bd v T w b h){t:Nat}(F:.V)(E:zn w n s t):jB [b,ar s] h=.cC .hH:=by
 have len:∀k,(.b7).length=n:=λk=>(.un).len;have c:∀k x,aD .cq (au dm (.cB .n4)) .nD .cj=.nx .rx .cj:=λk x=>by
  have r:atI .hd (-1)=some (ar .om):=gg (k+1) 1 .a;exact aC (aq (.bc .DO)<|(l.more _).turn (.iv<|k+1))
 have e:∀k,tE (ag oEq .h .f5) .rx .cj=.ok (decide (.t s (k+2)=.t s k)) .cj:=λk=>by
  have u:atI .hd (-2)=some (ar .b7):=gg k 2 .a;exact aM (av rfl (.aG (aF ZG) u)<|li ((len _).trans (len _).symm) _)
 have d:∀j k x,k+j=t->fW (tE<|fC .dz) nU (j+1) .nD .cj=.rt .M .hH:=by
  intro j
  induction j with
  |zero =>
   intro k x g;have g:k=t:=g;subst g;have f:=e k;rw[z3 E.ht]at f;have a:nU .nD .cj=.rt .M .cj:=sx (c k x) (dS<|(dD f).trans .cc);rw[fW];dsimp[tE,asB,fC,aR,a]
  |succ j m =>
   intro k x g;have f:=e k;rw[z4 (E.hm k .b)]at f;have q:(.hd).length<SZ:=by rw[ZA,jy];have:=E.hz;dsimp[SZ];omega
   have a:nU .nD .cj=.nx .rx (h++[.lst ((.dU<|k+1+2).map ar)]):=by
    rw[show bn w n s (k+1+2)=bn w n s (k+2)++[.t s (k+2)] from yt (k+2),ZR];exact sx (c k x) (sx (bH f)<|(dj<|jx rfl ZG rfl ZG q).trans (by rw[hV rfl];rfl))
   rw[fW];dsimp[tE,asB,fC,aR,a];exact m (k+1) _ .b
 have o:=Bc (d t 0 none<|wK t) .f;have p:[ar s,ar .af]=(.dU 2).map ar:=by simp[bn,vc,hist]
 have i:.bQ .Av [some b,some .C,none,none] h=.nx [some b,some .C,some .M,none] (h++[.lst ((.dU<|0+2).map ar)]):=by
  rw[show 0+2=2 from rfl,<-p];exact aC (cR<|.cA<|.bO<|.F<|l.turn F)
 exact (.n<|sx i o).trans cI
def Si{n}(G:Go w n)(g:w.stays=ss)(C:Ch w n c):uU ss .q0=fP w n c:=by
 subst g;unfold uU fP;rw[ZA,ZO];refine YE λi b=>?_;have b:=YK.mp b;have e:(.q0).getD i 0=b2i (decide (i∈c)):=by simp[List.getD,b]
 rw[e];have mem:w.stays.getD i none∈w.stays:=by
  have f:i<w.stays.length:=by rw[G.W.s];exact b
  rw[ZF,ZE f];exact YA f
 have d:=λh=>C.no i h;rcases G.S _ mem with z|z|z<;>rw[z]at d⊢
 ·by_cases a:i∈c
  ·simp[a]
  ·simp[a]
 ·by_cases a:i∈c
  ·exact absurd rfl (d a)
  ·simp[a]
 ·simp
def Sj{h n}(b:h[k]?=some (.lst<|NL c))(a:.E):.mM [] (qG<|ag oIn .e .d) ((.s).map λk:Nat=>D.int k) [a,some .Z] h=.ok .jj h:=by
 have:=bj (g:=none) (all:=(.s).map λk:Nat=>D.int k) (tg:=gN 0) (cs:=[]) (e:=qG (ag oIn .e .d)) (I:=λσ=>∃a,σ = [a,some .cT]) .aI (λd=>match d with | .int i=>.int (b2i<|decide (i.toNat∈c))|_=>.non) trivial (xs:=(.s).map λk:Nat=>D.int k) (σ:=[a,some .cT]) (by
  rintro x f σ ⟨a,rfl⟩;obtain⟨i,j,rfl⟩:=z0.mp f;exact⟨_,rfl,⟨_,rfl⟩,rfl,λ_=>qS (.am<|Ts b i)⟩) ⟨_,rfl⟩
 rw[this,wL.mpr .r,y3,y3];rfl
def Ih{T b h n}(G:Go w n)(l:.bd z T w b h)(C:Ch w n c)(p:h[k]?=some (.lst<|NL c)):iD [b,.ref k] h=.ok (.bl<|tb w n c) h:=by
 obtain⟨t,E⟩:=G.fin .uN;have y:w.stays=ss:=by rw[l.w'];rfl
 have q:=G.n30;have s:bR .yB [some b,some .cT,none,none] h=.ok .bb (h++[.lst .jj]):=cR (bZ (eM (l.many rfl) .b)<|Sj p none) .k8;have o:=zh (l.more [.lst .jj]).m .f ZG;rw[Si G y C,<-l.t']at o;have j:=zq G (l.more [.lst .jj]) .uN E;have v:atI .nq (-1)=some (ar<|.dp (fP w n c)<|t+1):=gg (t+1) 1 .a;have u:atI .nq (-2)=some (ar<|.dp (fP w n c) t):=gg t 2 .a;obtain⟨a,e⟩:=q0 (h++[cM.lst .jj]++[cM.lst .nq]);obtain⟨A,m⟩:=q0 ((h++[cM.lst .jj]).length);have g:a[A]?=some (.lst .nq):=by rw[e,m];exact ZG
 rw[<-m,<-e]at j;have d:tE .sU .rP a=.ok (!decide .z1) a:=aM (av rfl (.aG (aF g) v)<|BQ _ 0 _);have r:tE .sL .rP a=.ok (!decide ((0:Int)∈hist w n (fP w n c) t)) a:=aM (av rfl (.aG (aF g) u)<|BQ _ 0 _);have x:iy (tE .sU) (tE .sL) .rP a=.ok (tb w n c) a:=by
  rw[<-Sh G C E];cases f:decide .z1 with
  |true=>rw[f]at d;exact j8 d
  |false=>rw[f]at d;exact gC d r
 refine zXo (.n<|sx (aC<|aq (.bc s) o)<|sx (aC<|.F j)<|aE<|ot x) ?_;rw[e,ZU];exact bP rfl
section
variable{w:Web}
def Ii{n}(p:Nat->Bool)(q:D->Bool)(a:∀i:Nat,q .v=p i):(((.s).map λk:Nat=>D.int k).filter q).map .j0=NL ((.s).filter p):=by
 rw[zXp,zYh];congr 2;funext i;exact a i
def LV{T b h j n}(l:.EI){t:EF->TF}(p:Option Int->Bool)(ht:∀i:Nat,i<n->t .s5 [some .v,some b] h=.ok (p .eI) h):.mM [t .s5] .e ((.s).map λk:Nat=>D.int k) [none,some b] h=.ok (NL<|(.s).filter λi=>p .eI) h:=by
 have:=bj (g:=none) (all:=(.s).map λk:Nat=>D.int k) (tg:=gN 0) (e:=aa 0) (I:=λσ=>∃a,σ = [a,some b]) (λd=>match d with | .int i=>p .Dy|_=>false) .j0 trivial (xs:=(.s).map λk:Nat=>D.int k) (σ:=[none,some b]) (by
  rintro x f σ ⟨a,rfl⟩;obtain⟨i,c,rfl⟩:=z0.mp f;exact⟨_,rfl,⟨_,rfl⟩,kh (ht i<|YK.mp c),λ_=>rfl⟩) ⟨_,rfl⟩
 rw[this,Ii (λi=>p .eI) _ λi=>rfl]
def Sk{T c h n}(l:.bd c T w a h)(hi:i<n):fAt (fAt .d .J) .e [some .v,some a] h=.ok (bw .eI) h:=by
 have b:i<ss.length:=by rw[l.m.ls];exact hi
 rw[l.t'];refine aL .bU rfl (aF l.m.st) (dN ?_);rw[ZQ,ZF,ZE b];rfl
/---/def chL(ss:.Q)(n:Nat):List Nat:=(.s).filter λi=>decide .Cg
def FP{T d h n}(l:.bd f T w d h)(n30:n<=30):iC [d] h=.cC (h++[.lst .lE]):=by
 have c:=LV l (t:=λa=>tE (ag oNe a .z)) (λu=>decide (u≠some 0)) (λi b=>aM (av (Sk l b) rfl<|J8 _ _));have e:(chL ss n).length<=n:=by
  have:=YG (λi=>decide .Cg) .s;rwa[ZO]at this
 exact (.n<|aE<|cR (bZ (eM (l.many rfl) .b) c) (by rw[ZA];exact ZM e (nJ n30))).trans cI
end
def Ij(O:.au)(os:.a9):qX .S .S n:=by
 refine RJ os os (λp f a b _ B l=>vX B l λq c=>?_) (λ_ _=>wb _) λp _=>?_
 ·have e:(.S).ties.getD p []=dG (nbs T p):=by simp[bA,List.getD,f]
  rw[e]at c;have c:=eV.mp c;unfold nbs at c;obtain⟨t,d,z⟩:=zp.mp c;have:=O.wt t d;cases e:far p t with
  |none=>rw[e]at z;cases z
  |some j=>rw[e]at z;simp at z;subst z;simp only;omega
 ·show (ss.getD p none=none/\ss.getD p none=none)\/ss.getD p none=some 0\/ss.getD p none=some 1
  by_cases h:p<ss.length
  ·have:=os _ (YA h)
   rw[show ss.getD p none=ss[p] by simp[List.getD,h]];rcases this with e|e|e
   ·exact .inl ⟨e,e⟩
   ·exact .inr (.inl e)
   ·exact .inr (.inr e)
  ·left;simp[List.getD,wM (show ss.length<=p by omega)]
def Sl(d:∀h,bW [S0,.int 0] h=.ok .cK h):∃mo:Int,fIx .zn (qG .q5) .xK []=.ok (.int mo) []/\0<mo/\mo<=13:=by
 have i:∀b:Bool,b=decide (a/1024%8=3)->qG .q5 .xK []=.ok (.int<|b2i b) []:=λb e=>by
  rw[e];exact qS (av (.io<|av (.F<|d _) rfl .iG) rfl iR)
 cases c:decide (a/1024%8=3) with
 |true=>exact⟨13,iq .bS (i true c.symm) rfl,by decide,by decide⟩
 |false=>exact⟨6,iq .bS (i false c.symm) rfl,by decide,by decide⟩
/---/def same(a b:Nat)(t:Tie):Bool:=(t.a == a&&t.b == b)||(t.a == b&&t.b == a)
def mX:.g5 t=true↔(t.a=a/\t.b=b)\/(t.a=b/\t.b=a):=by simp[same]
/---/def tO(a b i j:Nat):Prop:=(i=a/\j=b)\/(i=b/\j=a)
/---/def jU(T:.ax)(a b:Nat)(x:Int):List Tie:=T.filter (λt=>!same a b t)++if 0<x then [⟨a,b,x⟩] else []
def LW(h:.j9):(t.a=i/\t.b=j)\/(t.b=i/\t.a=j):=by
 unfold far at h
 by_cases b:t.a=i
 ·rw[zE b]at h;cases h;exact .inl ⟨b,rfl⟩
 ·rw[zF b]at h
  by_cases a:t.b=i
  ·rw[zE a]at h;cases h;exact .inr ⟨a,rfl⟩
  ·rw[zF a]at h;cases h
def zr(h:.j9):.g5 t=true↔tO a b i j:=by
 rw[mX];unfold tO;rcases LW h with ⟨d,c⟩|⟨d,c⟩
 ·rw[d,c]
 ·rw[d,c];exact⟨λh=>h.elim .Ce .Cf,λh=>h.elim .Ce .Cf⟩
def Vv(ne:a≠b)(e:.g5 t=true)(hp:tO a b i j):far i t=some j:=by
 rw[mX]at e;unfold far;rcases hp with ⟨rfl,rfl⟩|⟨rfl,rfl⟩<;>rcases e with ⟨d,c⟩|⟨d,c⟩
 ·rw[zE d,c]
 ·rw[zF .b,zE c,d]
 ·rw[zF .b,zE c,d]
 ·rw[zE d,c]
def uX(ne:a≠b){p:.cQ}:p∈nbs .jl i↔(p∈nbs T i/\¬tO a b i p.1)\/(0<x/\tO a b i p.1/\p.2=x):=by
 rw[jJ,jJ];constructor
 ·rintro⟨t,d,q1,q2⟩
  rcases Z3.mp d with d|d
  ·obtain⟨g,f⟩:=YF.mp d
   refine .inl ⟨⟨t,g,q1,q2⟩,λz=>?_⟩;rw[(zr q1).mpr z]at f;cases f
  ·by_cases c:0<x
   ·rw[zE c]at d
    have e:t=⟨a,b,x⟩:=by simpa using d
    subst e;exact .inr ⟨c,(zr q1).mp (by simp[same]),q2.symm⟩
   ·rw[zF c]at d;cases d
 ·rintro (⟨⟨t,d,q1,q2⟩,h⟩|⟨g,f,j⟩)
  ·refine⟨t,Z3.mpr (.inl (YF.mpr ⟨d,?_⟩)),q1,q2⟩
   cases c:same a b t with
   |false=>rfl
   |true=>exact absurd ((zr q1).mp c) h
  ·exact⟨⟨a,b,x⟩,Z3.mpr (.inr (by rw[zE g];simp)),Vv ne (by simp[same]) f,j.symm⟩
def Vw(hn:n<=30)(lt:.vG)(un:T.Pairwise jz):T.length<=30*n:=by
 have g:(T.map λt=>n*t.a+t.b).Nodup:=by
  rw[Y6,Y4];refine un.imp_of_mem λ{s t} d a u e=>?_;have i:=ZS .dM (lt s d).1;have c:∀m M:Nat,M<n->(n*m+M)/n=m:=λm M h=>by rw[Nat.mul_add_div i,Nat.div_eq_of_lt h];rfl
  have b:(n*s.a+s.b)/n=(n*t.a+t.b)/n:=congrArg (· / n) e;rw[c _ _ (lt s d).2,c _ _ (lt t a).2]at b;rw[b]at e;exact u.1 ⟨b,zZm e⟩
 have l:=Ht g λx f=>by
  obtain⟨t,a,rfl⟩:=z0.mp f;exact ZY (zXd (lt t a).2 _) (Nat.mul_le_mul_left n (lt t a).1)
 rw[ZA]at l;exact ZM l (zYs n hn)
def tP(hn:n<=30)(O:.au)(ne:a≠b)(l:a<n)(j:b<n)(k:x<=400):.iA .jl:=by
 have mem:∀t∈jU T a b x,t∈T/\same a b t=false\/0<x/\t=⟨a,b,x⟩:=λt d=>by
  rcases Z3.mp d with d|d
  ·obtain⟨g,f⟩:=YF.mp d
   exact .inl ⟨g,by simpa using f⟩
  ·by_cases c:0<x
   ·rw[zE c]at d;exact .inr ⟨c,by simpa using d⟩
   ·rw[zF c]at d;cases d
 have lt:∀t∈jU T a b x,t.a<n/\t.b<n:=λt d=>by
  rcases mem t d with ⟨h,_⟩|⟨_,rfl⟩
  ·exact O.lt t h
  ·exact⟨l,j⟩
 have i:(.jl).Pairwise jz:=by
  unfold jU;rw[xn];refine⟨O.un.filter _,by split<;>simp,λs m t d=>?_⟩;obtain⟨g,f⟩:=YF.mp m
  by_cases c:0<x
  ·rw[zE c]at d
   have e:t=⟨a,b,x⟩:=by simpa using d
   subst e;have f:.g5 s=false:=by simpa using f
   refine⟨λz=>?_,λz=>?_⟩
   ·have:.g5 s=true:=mX.mpr (.inl z)
    rw[this]at f;cases f
   ·have:.g5 s=true:=mX.mpr (.inr z)
    rw[this]at f;cases f
  ·rw[zF c]at d;cases d
 refine⟨λt d=>?_,lt,λt d=>?_,λt d=>.inl (lt t d),i,Vw hn lt i⟩
 ·rcases mem t d with ⟨h,_⟩|⟨_,rfl⟩
  ·exact O.ne t h
  ·exact ne
 ·rcases mem t d with ⟨h,_⟩|⟨c,rfl⟩
  ·exact O.wt t h
  ·exact⟨by show 1<=x;omega,k⟩
def BS(b:.iA S)(c:.au)(bs:.c)(ss:.Q)(h:∀i,i<n->∀p,p∈nbs S i↔p∈nbs T i):bA n S bs ss=bA n T bs ss :=
 yH bs ss λi a=>yG (lV b.un i) (lV c.un i) (h i a)
def Pu(hn:n<=30)(O:.au)(hi:i<n)(p:.cQ):p∈nbs .db i↔p∈nbs T i:=by
 have:=(.hZ).2 i hi;rw[<-eV,this,eV]
def Ik(hn:n<=30)(O:.au)(ne:a≠b)(d:a<n)(c:b<n)(e:x<=400)(bs:.c)(ss:.Q):bA n (jU .db a b x) bs ss=bA n .jl bs ss :=
 BS (tP hn (.hZ).1 ne d c e) (tP hn O ne d c e) bs ss λi f p=>by rw[uX ne,uX ne,Pu hn O f]
abbrev wSw:List Nat:=.nb
abbrev As:List Nat:=.d9
abbrev Sm:List Nat:=.m0
abbrev wOk:List Nat:=.md
theorem FQ(x:.m):∀L:List .bW,io (L.map λ_=>D.str x)=true
 |[]=>rfl
 |_::L=>by dsimp[z5,io,pure?,FQ x L,Bool.and_self]
def Sn(b:g[k]?=some (.lst<|(wSw::L).map .str)):ij [.ref k] g=.ok (.tup<|L.map λ_=>.str wPe) g:=by
 have f:.fb .z .l8 g=.ok (.str wSw) g:=aL rfl rfl (aF b) .eF;have d:eA .e (pAt .o) pNo .l8 g=.ok .fj (g++[.lst .fz]):=qh rfl (by rw[b,z5]);have c:=bj (g:=some g.length) (tg:=gN 0) (cs:=[]) (e:=fC (.str wPe)) (h:=g++[cM.lst .lR]) (I:=λσ=>∃a,σ = [a]) .aI (λ_=>.str wPe) (show (g++[cM.lst .lR])[g.length]? = some .BV from ZG) (xs:=L.map D.str) (σ:=.ao) (by
  rintro x i σ ⟨a,rfl⟩;exact⟨_,rfl,⟨_,rfl⟩,rfl,λ_=>rfl⟩) ⟨_,rfl⟩
 rw[wL.mpr .r,y3]at c;exact (.n<|dS<|(dD (h1:=g)<|aM<|.cy f).trans (aE<|hU<|bZ (c5 d ZG) c)).trans (bP<|FQ wPe L)
def zt{n}(W:w.Ok n)(n30:n<=30)(hp:p<n)(g:Hd):TOf w g (wPe,tx (p:Int),.int (p:Int)):=by
 have a:=n60 (show p<=30 by omega);have b:dz .hL g=.aM g:=by
  have e:(p:Int)<=(n:Int)-1:=by omega
  simp[dz,bB,runB,rk W,dF,e]
 exact⟨Tm (kd:=wPe) .a .a a g,λ_=>⟨p,tI p,by have:=dM _ a;show (tx (p:Int)).length<=600;omega,b⟩,Pe (kd:=wPe) .a a g⟩
def Pv{b:Int}(bb:.qi)(g:Hd):TOf w g (wNu,tx b,.int b):=⟨Tm (kd:=wNu) .a .a bb g,λe=>absurd (show wNu=wPe from e) .a,Pe (kd:=wNu) .a bb g⟩
def Au:Option Int->List Nat
 |none=>[102,114,101,101]
 |some x=>tx x
def Vx(h:.h9)(g:Hd):TOf w g (As,Au o,bw o):=by
 cases o with
 |none=>exact⟨WV g,λe=>absurd (show As=wPe from e) .a,WX g⟩
 |some x =>
  have b:=y9 h rfl;exact⟨WW b g,λe=>absurd (show As=wPe from e) .a,Pe (kd:=As) .a b g⟩
def Pw:32∉Au o:=by
 cases o with
 |none=>decide
 |some x=>exact tL .a .a
def Kd(h:.h9):(Au o).length<=200:=by
 cases o with
 |none=>decide
 |some x=>have:=dM _ (y9 h rfl);show (tx x).length<=200;omega
def f32(x:Int):32∉tx x:=tL .a .a
def FR(h:p<=30):(tx (p:Int)).length<=200:=by have:=dM _ (n60 h);omega
def Vy{α:Type}{P:α->Prop}{a b c:α}(h1:P a)(f:P b)(e:P c):∀x∈[a,b,c],P x:=λx d=>by
 rcases y6.mp d with rfl|d
 ·exact h1
 ·rcases y6.mp d with rfl|d
  ·exact f
  ·rw[Z5.mp d];exact e
def al2{α:Type}{P:α->Prop}{a b:α}(h1:P a)(d:P b):∀x∈[a,b],P x:=λx c=>by
 rcases y6.mp c with rfl|c
 ·exact h1
 ·rw[Z5.mp c];exact d
def So{T h n}(d:1<=n)(hn:n<=30)(O:.au)(lb:.bD)(ls:.bi)(os:.a9)(hp:p<n){b:Int}(bb:.qi)(hd:.qc):
  bp [.ref dk,.str (.bZ [HN,tx (p:Int),tx b])] h=.ok .mc (h.set dk<|.ob [(.CO).enc]):=by
 have W:=.g4 ls;have f:=λg=>FI d hn O lb ls os hp b g;obtain⟨w,e⟩:=q0 .S;obtain⟨i,a⟩:=q0 .CO;rw[<-e,<-a]at f;rw[<-e]at W hd;rw[<-a];refine Di (fd:=sf [wPe,wNu]) hd .a (al2 (f32 _)<|f32 _) .a (al2 (FR .b) (by have:=dM _ bb;omega)) (show 2<=30 by decide) (.inr .aY) .BF (λg k c=>jE (Z:=[(wPe,tx (p:Int),.int (p:Int)),(wNu,tx b,.int b)]) (show 2<=100 by decide) (uS g [wPe,wNu]) c (al2 (zt W hn hp g)<|Pv bb g)) λg k j=>?_;exact (.n<|sx .li<|dS<|(.eE).trans .wL).trans aJ
def W9(p q r s:Int)(h:Hd):oNe (.tup [.int p,.int q]) (.tup [.int r,.int s]) h=.ok (.bl<|!decide (p=r/\q=s)) h:=by
 by_cases b:p=r<;>by_cases a:q=s<;>simp[peq,mj,dep,oK,b,a]
def Yo(t:Tie)(v:.E)(h:Hd)(σ:Sd):eA .e pNo (pAt .J) (some (ca t)::σ) h=.ok (.tup [.int t.a,.int t.b]) h:=rfl
def Im{S:.ax}{a:Nat}(ne:a≠b)(up:∀t∈S,t.a<t.b)(n:P=.tup [.int .Bt,.int .Bs])(r:h1[k]?=some (.lst .pE)):
  cu .bJ .pE .G .nc .e .pE [none,some P] h1=.ok ((.BT).map ca) h1:=by
 have:=bj (g:=some k) (all:=S.map ca) (tg:=gN 0) (cs:=.nc) (e:=aa 0) (h:=h1) (I:=λσ=>∃a,σ=[a,some P])
   (λd=>match d with | .tup [.int i,.int j,.int x] => !same a b ⟨i.toNat,j.toNat,x⟩|_=>false) .j0 r (xs:=S.map ca) (σ:=[none,some P]) (by
   rintro x o σ ⟨y,rfl⟩;obtain⟨t,p,rfl⟩:=z0.mp o;refine⟨_,rfl,⟨_,rfl⟩,?_,λ_=>rfl⟩;have q:oNe (.tup [.int t.a,.int t.b]) P h1=.ok (.bl .vj) h1:=by
    have lt:=up t p;rw[n]
    by_cases c:a<b
    ·have l:¬(b:Int)<a:=by omega
     have f:(b:Int)>a:=by omega
     have e:decide ((t.a:Int)=a/\(t.b:Int)=b)=.g5 t:=by rw[Bool.eq_iff_iff,mX,YL];omega
     rw[zF l,zE f,W9,e]
    ·have l:(b:Int)<a:=by omega
     have f:¬(b:Int)>a:=by omega
     have e:decide ((t.a:Int)=b/\(t.b:Int)=a)=.g5 t:=by rw[Bool.eq_iff_iff,mX,YL];omega
     rw[zE l,zF f,W9,e]
   have k:=Yo t none h1 [some P];show j5 .nc [some (ca t),some P] h1=.ok .vj h1;generalize eA .e pNo (pAt .J)=E at k⊢;generalize .vj=m at q⊢;dsimp[j5,tE,ag,aa,slot,k,aR,zZj,List.getElem?_cons_zero,q];cases m<;>rfl) ⟨_,rfl⟩
 rw[this,zXp,zYh];rfl
def FS(l:1<=n)(hn:n<=30)(O:.au)(lb:.bD)(ls:.bi)(os:.a9)(ne:a≠b)(p:a<n)(j:b<n)(o:0<=x)(r:x<=400)(h:Hd):
  nQ [(.S).enc,.int a,.int b,.int x] h=.ok (.ue).enc h:=by
 have W:=.g4 ls;obtain⟨S,d⟩:=q0 .db;have C:.iA S:=by rw[d];exact (.hZ).1
 have H:∀t∈S,t.a<t.b:=λt s=>by rw[d]at s;exact(km.mp s).2.1
 have e:=jK hn O lb ls h;rw[<-d]at e;obtain⟨P,B⟩:=q0 (.tup [.int .Bt,.int .Bs]:D);obtain⟨g,f⟩:=q0 (h++[.lst .pE]:Hd);have u:=Im ne H B (h1:=g) (k:=h.length) (by rw[f];exact ZG);obtain⟨F,q⟩:=q0 .BT;have G:F.length<=900:=by rw[q];exact ZM .fN (ZM C.len .b)
 have v:(F.map ca).length<SZ:=by rw[ZA];exact ZS G .a
 rw[<-q]at u;rw[<-f]at e;have K:jU S a b x=F++if 0<x then [⟨a,b,x⟩] else []:=by rw[q];rfl
 have y:(.S).bars=bs:=rfl;have E:(.S).stays=ss:=rfl;have i:=nP W (g++[.lst .n8]);have m:=lm W (g++[.lst .n8]++[.lst .bG]);have z:=qb l hn (tP hn C ne p j r) lb ls os at3.1 at3.2.1 (at3 (h:=g) (a:=.lst .n8) (b:=.lst .bG)).2.2;rw[d,Ik hn O ne p j r,<-d]at z;obtain⟨w,J⟩:=q0 .S;rw[<-J]at W e i m y E⊢;rw[y]at i;rw[E]at m;have L:sIf .zu .zg bh .wT .DG=.nx .wT (g++[.lst .n8]):=by
  have A:=dF x 0 0 .DG;rw[K]
  by_cases c:0<x
  ·rw[zE c]
   refine(dD<|c0 (b:=false)<|aM<|aq .b8<|A.trans (by rw[z4 (show ¬x<=0 by omega),Bool.and_false])).trans ((dj<|jx rfl .gz (cX .b8) .gz v).trans ?_);rw[hV rfl,ZR];rfl
  ·rw[zF c,YX]
   exact(bH<|.bN<|aM<|aq .b8<|A.trans (by rw[z3 o,z3 (show x<=0 by omega)];rfl)).trans rfl
 have I:oEq .cK (.int b) h=.g8 h:=iR.trans (by rw[z4 .b]);refine (.n<|sx (dj<|.F<|iK W p h)<|sx (dj<|.F<|iK W j h)<|sx ((bH<|aM<|.am I).trans rfl)<|sx (aC (show cZ .zN [some w.enc,some .cK,some (.int b),some .ed,none,none] h=.ok P h by rw[B];rfl))<|sx (aC<|cR (bZ (c5 (.ah e) (by rw[f];exact ZG)) u)<|YB v)<|sx L<|aE<|aq (aw .uf<|.cA<|aV .pA<|.ah m) z).trans ?_;rw[f,ZU,ZU,ZU];exact bP (pB _)
def Dn(e:1<=n)(hn:n<=30)(O:.au)(lb:.bD)(ls:.bi)(os:.a9)(hp:p<n){x:.aF}(o:x=none\/x=some 0\/x=some 1)(h:Hd):
  lq [(.S).enc,.int p,bw x] h=.ok (bA n T bs<|ss.set p x).enc h:=by
 have W:=.g4 ls;have i:=jK hn O lb ls (h++[.lst .tp]);have f:=lm W h;have c:=nP W (h++[.lst .tp]++[.lst .lT]);have j:=qb e hn (.hZ).1 (ss:=ss.set p x) lb (by simp[ls]) (λy r=>by
  rcases List.mem_or_eq_of_mem_set r with z|z
  ·exact os y z
  ·rw[z];exact o) at3.2.1 (at3 (h:=h) (a:=.lst .tp) (b:=.lst .lT)).2.2 at3.1
 rw[rj hn O]at j;have g:=J2 (h:=h) (l:=ss.map bw) (p:=p) (d:=bw x) (σ:=[some (.S).enc,some (.int p),some (bw x),some .bb]) .jK .jK .jK (by simp[ls,hp]);rw[<-List.map_set]at g;have k:(.S).bars=bs:=rfl;have m:(.S).stays=ss:=rfl;obtain⟨w,q⟩:=q0 .S;rw[<-q]at W i c f k m g⊢;rw[k]at c;rw[m]at f;exact (.n<|sx .Co<|sx (aC .pB)<|sx g<|aE<|aq (aw .uf<|aw .pA<|aV (.ah c) rfl) j).trans (go3 _)
def Px(hn:n<=30)(O:.au)(f:h[k]?=some .ft):
  cu .bJ .iI (gT [0,1,2]) [] Vh .iI [none,none,none] h=.ok ((T.map j0).map D.str) h:=by
 have:=bj (g:=some k) (tg:=gT [0,1,2]) (cs:=[]) (e:=Vh) (I:=λσ=>∃a b c,σ=[a,b,c]) .aI
  (λd=>match d with | .tup [.int a,.int b,.int c]=>.str (line HM [a,b,c])|_=>.non) f (xs:=T.map ca) (σ:=[none,none,none]) (by
  rintro x i σ ⟨a,b,c,rfl⟩;obtain⟨t,j,rfl⟩:=z0.mp i;have z:=OV hn O j;have l:=dM _ z.a;have o:=dM _ z.b;have m:=dM _ z.w;refine⟨_,rfl,⟨_,_,_,rfl⟩,rfl,λ_=>?_⟩;refine BH (iu rfl .f<|iu (dU rfl z.a) .X<|iu rfl .X<|iu (dU rfl z.b) .X<|iu rfl .X<|.qN<|dU rfl z.w);congr 2;simp[line,bg]) ⟨_,_,_,rfl⟩
 rw[this,wL.mpr .f,y3,y3];rfl
def Py{bs:.c}(bb:.ej)(f:h[k]?=some .cr):
  cu .bJ .bG .G [] (fFs .r7) .bG .ao h=.ok ((.po).map D.str) h:=by
 have:=bj (g:=some k) (tg:=gN 0) (cs:=[]) (e:=fFs .r7) (I:=λσ=>∃a,σ=[a]) .aI
  (λd=>match d with | .int a=>.str (line HN [a])|_=>.non) f (xs:=bs.map .int) (σ:=.ao) (by
  rintro x i σ ⟨a,rfl⟩;obtain⟨t,c,rfl⟩:=z0.mp i;have j:=dM _ (bb t c);refine⟨_,rfl,⟨_,rfl⟩,rfl,λ_=>?_⟩;refine BH (iu rfl .f<|.qN<|dU rfl<|bb t c);congr 2) ⟨_,rfl⟩
 rw[this,wL.mpr .f,y3,y3];rfl
def Pz{ss:.Q}(os:.a9)(c:h[k]?=some .dI):
  cu .bJ .an .G [] OY .an .ao h=.ok ((ss.map eS).map D.str) h:=by
 have:=bj (g:=some k) (tg:=gN 0) (cs:=[]) (e:=OY) (I:=λσ=>∃a,σ=[a]) .aI
  (λd=>match d with | .int a=>.str (eS<|some a)|_=>.str (eS none)) c (xs:=ss.map bw) (σ:=.ao) (by
  rintro x f σ ⟨a,rfl⟩;obtain⟨t,j,rfl⟩:=z0.mp f;refine⟨_,rfl,⟨_,rfl⟩,rfl,λ_=>?_⟩;cases t with
  |none=>exact(nI .b9).trans rfl
  |some i =>
   have b:=y9 (os _ j) rfl;have l:=dM _ b;exact(pv .b9).trans (BH<|iu rfl .f<|iu (dU rfl b) .X<|(.uw).trans rfl)) ⟨_,rfl⟩
 rw[this,wL.mpr .f,y3,y3];congr 1;apply YE;intro o _;cases o<;>rfl
def FT(hn:n<=30)(O:.au)(lb:.bD)(ls:.bi)(os:.a9)(bb:.ej)(h:Hd):
  nS [(.S).enc] h=.ok (.str .nH) h:=by
 have W:=.g4 ls;have z:(.S).bars=bs:=rfl;have E:(.S).stays=ss:=rfl;have k:=jK hn O lb ls;have s:=rk W;have j:=nP W;have l:=lm W;rw[z]at j;rw[E]at l;have e:=(.hZ).1;obtain⟨w,y⟩:=q0 .S;rw[<-y]at k s j l⊢;obtain⟨a,m⟩:=q0 .db;rw[<-m]at k e⊢;have F:=e.len;have q:(n:Int).natAbs<10^60:=big .b .b;have f:=dM _ q;have B:aD .gw .dH .ta h=.nx .AM h:=aC (.ah<|s h);have r:.bQ .xX .AM h=.nx .yP .zc :=
  aC (cR<|.bO<|BH<|iu rfl .f<|iu (dU rfl q) .X<|(.uw).trans rfl)
 obtain⟨σ,d⟩:=q0 (.yP:Sd);have i:∀c,aa 0 σ c=.ok w.enc c:=λc=>by rw[d];rfl
 have g:∀c,aa 2 σ c=.cC c:=λc=>by rw[d];rfl
 have o:∀f,gJ f [] σ=List.replicate f none:=λf=>by simp[gJ]
 have t:ed (kx .g<|bG 3 [] (dA .l6) (gT [0,1,2]) [] Vh) σ .zc=.dy .xk:=by
  refine(dj<|.v2<|bZ (c5 (aq .uU<|k _) ZG) (by rw[o];exact Px hn e ZG)).trans ?_;rw[pJ,<-ZR];rfl
 have u:ed .w3 σ .xk=.dy .wI:=by
  refine(dj<|.v2<|bZ (c5 (aq .uU<|j _) ZG) (by rw[o];exact Py bb ZG)).trans ?_;rw[pJ,<-ZR];rfl
 have p:ed (kx .g<|.e2 (dA .eM) OY) σ .wI=.dy (h++[.lst (([line fG [(n:Int)]]++a.map j0++bs.map mT++ss.map eS).map D.str),.lst (a.map ca),.lst .bG,.lst .an]):=by
  refine(dj<|.v2<|bZ (c5 (aq .uU<|l _) ZG) (by rw[o];exact Pz os ZG)).trans ?_;rw[pJ,<-ZR];rfl
 have A:[line fG [(n:Int)]]++a.map j0++bs.map mT++ss.map eS=bX n a bs ss:=by simp[bX]
 rw[A]at p;obtain⟨v,lc⟩:=uO hn e lb ls os bb;have C:aS .oR σ .xg=.rt (.str<|bg [10]<|bX n a bs ss) .xg:=aE (tK (cF (g _)<|aF fH) v lc);rw[<-d]at r;exact (.n<|(bF B).trans ((bF r).trans ((bF t).trans ((bF u).trans ((bF p).trans C))))).trans .fL
def PB{T h n}(d:1<=n)(hn:n<=30)(O:.au)(lb:.bD)(ls:.bi)(os:.a9)(hp:p<n)(c:.h9)(hd:.qc):
  bp [.ref dk,.str (.bZ [As,tx (p:Int),Au o])] h=.ok .mc (h.set dk<|.ob [(.CN).enc]):=by
 have W:=.g4 ls;have f:=λg=>Dn d hn O lb ls os hp c g;obtain⟨w,e⟩:=q0 .S;obtain⟨i,a⟩:=q0 .CN;rw[<-e,<-a]at f;rw[<-e]at W hd;rw[<-a];refine Di (fd:=sf [wPe,As]) hd .a (al2 (f32 _) Pw) .a (al2 (FR .b)<|Kd c) (show 2<=30 by decide) (.inr .eY) (λg k b=>qj b .a .a rfl) (λg k b=>jE (Z:=[(wPe,tx (p:Int),.int (p:Int)),(As,Au o,bw o)]) (show 2<=100 by decide) (uS g [wPe,As]) b (al2 (zt W hn hp g)<|Vx c g)) λg k j=>?_;exact (.n<|sx .li<|sx .li .wL).trans aJ
def Sq{T h n}(e:1<=n)(hn:n<=30)(O:.au)(lb:.bD)(ls:.bi)(os:.a9)(ne:a≠b)(p:a<n)(l:b<n)(f:0<=x)(i:x<=400)(hd:.qc):
  bp [.ref dk,.str .zm] h=.ok .mc (h.set dk<|.ob [(.ue).enc]):=by
 have W:=.g4 ls;have o:=λg=>FS e hn O lb ls os ne p l f i g;obtain⟨w,m⟩:=q0 .S;obtain⟨q,c⟩:=q0 .ue;rw[<-m,<-c]at o;rw[<-m]at W hd;rw[<-c];refine Di (fd:=sf [wPe,wPe,wNu]) hd .a (Vy (f32 _) (f32 _)<|f32 _) .a (Vy (FR .b) (FR .b) (by have:=dM _ (big f i);omega)) (show 3<=30 by decide) .aY (λg k d=>qj d .a .a rfl) (λg k d=>jE (Z:=[(wPe,tx (a:Int),.int (a:Int)),(wPe,tx (b:Int),.int (b:Int)),(wNu,tx x,.int x)]) (show 3<=100 by decide) (uS g [wPe,wPe,wNu]) d (Vy (zt W hn p g) (zt W hn l g)<|Pv (big f i) g)) λg k j=>?_;exact (.n<|dS<|(.eE).trans (aE<|aq (.cA<|aw (.aG (aF j) .eF)<|aV (.aG (aF j)<|EQ _ _ _)<|.aG (aF j) rfl)<|o g)).trans aJ
def tQ{T h n}(hn:n<=30)(O:.au)(lb:.bD)(ls:.bi)(os:.a9)(bb:.ej)(hd:.qc):
  bp [.ref dk,.str Sm] h=.ok (.str .nH) h:=by
 have i:=λg=>FT hn O lb ls os bb g;obtain⟨w,j⟩:=q0 .S;obtain⟨X,f⟩:=q0 .nH;rw[<-j,<-f]at i;rw[<-j]at hd;rw[<-f];have l:∀(g:Hd) (k:Nat),g[k]?=some (.lst [])->∃x,x=X/\mL [w.enc,.str Sm,.ref k] g=.ok (.str x) g:=λg k m=>by
  have a:gm [w.enc,.str Sm] g=.ok .fo g:=(.n<|dS<|(.eE).trans (aE<|.ah<|i g)).trans aJ;exact⟨X,rfl,(.n<|sx .li<|dS<|(dD<|aM<|Dh<|tN (d:=[]) rfl .a).trans (aE<|.F a)).trans aJ⟩
 obtain⟨x,rfl,e⟩:=xu (L:=[]) (fd:=sf []) (ths:=[]) hd .a .fv .a .fv .a .a .a .a .BF (λg k c=>jE (Z:=[]) .a (uS g []) c .fv) l;exact e
/---/def txs(l:.m):List .bW:=l.map λp:Nat=>tx (p:Int)
def PC{h}(b:∀p∈l,p<=30)(f:.ia):cu .bJ .df .G [] .eG .df .ao h=.ok ((txs l).map D.str) h:=by
 have c:=bj (g:=some k) (tg:=gN 0) (cs:=[]) (e:=c9 .e) (I:=λσ=>∃a,σ = [a]) .aI (λd=>match d with | .int i=>.str .co|_=>.non) f (xs:=NL l) (σ:=.ao) (by
  rintro x m σ ⟨a,rfl⟩;obtain⟨i,j,rfl⟩:=z0.mp m;exact⟨_,rfl,⟨_,rfl⟩,rfl,λ_=>dU rfl (n60<|b i j)⟩) ⟨_,rfl⟩
 rw[c,wL.mpr .r,y3,txs,y3];rfl
def PD:∀x∈txs l,32∉x:=λx a=>by
 obtain⟨p,_,rfl⟩:=z0.mp a;exact f32 _
def Ke(a:∀p∈l,p<=30):∀x∈txs l,x.length<=200:=λx c=>by
 obtain⟨p,b,rfl⟩:=z0.mp c;exact FR (a p b)
/---/def peZ(l:.m):List .gb:=l.map λp:Nat=>(wPe,tx (p:Int),.int (p:Int))
def PF{h n}(G:Go w n)(C:.fU)(hd:.bK):
  bp [.ref dk,.str (.bZ (wSw::txs l))] h=.ok (.str<|if tb w n l=true then .hJ else .jR) h:=by
 have v:l.length<=13:=ZM (Pn C) G.n13;have b:∀p∈l,p<=30:=λp d=>by have:=C.lt p d;have:=G.n13;omega
 have m:(txs l).map (λ_=>D.str wPe)=kz (peZ l):=by unfold txs kz peZ;rw[y3,y3];rfl
 have o:(txs l).map D.str=wz (peZ l):=by unfold txs wz peZ;rw[y3,y3];rfl
 have s:NL l=(peZ l).map (·.2.2):=by unfold NL peZ;rw[y3];rfl
 obtain⟨X,i⟩:=q0 (if tb w n l=true then .hJ else .jR:.m)
 rw[<-i];have r:∀(g:Hd) (k:Nat),g[k]?=some .r0->∃x,x=X/\mL [w.enc,.str wSw,.ref k] g=.g9 g:=λg k u=>by
  obtain⟨L,f,q⟩:=Pt G C u;have t:(.yj) [some w.enc,some (.str wSw),some .cT] g=.ok (tb w n l) (g++f):=aM (av (aL (.F q) rfl rfl rfl) rfl (by cases tb w n l<;>rfl));refine⟨X,rfl,(aU (h':=g++f) rfl rfl (dS ((.eE).trans (aE ?_)))).trans .fL⟩;rw[i];cases c:tb w n l with
  |true=>rw[c]at t;exact(nI t).trans rfl
  |false=>rw[c]at t;exact(pv t).trans rfl
 obtain⟨x,rfl,e⟩:=xu hd .a PD .a (Ke b) (by rw[txs,ZA];omega) .a .a .a (λg k a=>Sn a) (λg k a=>by
  rw[m,s];rw[o]at a;refine jE (by rw[peZ,ZA];omega) rfl a λz j=>?_;obtain⟨p,d,rfl⟩:=z0.mp j;exact zt G.W G.n30 (C.lt p d) g) r
 exact e
def Sr{T n}(hn:n<=30)(L:.ke)(O:MOk M)(ne:a≠b)(t:a<n)(k:b<n)(s:0<=x)(h:x<=400):
  ∃e,LP n (je .jk b a x) n 0 e/\∀bs ss,bA n .jl bs ss=bA n e bs ss:=by
 obtain⟨e,L2⟩:=Pk (O.put ne s h) hn n .B;refine⟨e,L2,λbs ss=>BS (tP hn L.ok ne t k h) L2.ok bs ss λi g p=>?_⟩;obtain⟨j,v⟩:=p;rw[uX ne,xx L2 g,xx L g];have r:tO a b i j->je .jk b a x i j=x:=λz=>by
  unfold je
  by_cases f:i=b/\j=a
  ·rw[zE f]
  ·rw[zF f,zE (z.resolve_right f)]
 have l:¬tO a b i j->je .jk b a x i j=M i j:=λz=>by
  unfold je;rw[zF λc=>z (.inr c),zF λc=>z (.inl c)]
 have o:tO a b i j->j<n:=λz=>by rcases z with z|z<;>omega
 by_cases c:tO a b i j
 ·rw[r c]
  constructor
  ·rintro (⟨_,z⟩|⟨q,_,d⟩)
   ·exact absurd c z
   ·exact⟨o c,d.symm,by rw[show v=x from d];exact q⟩
  ·rintro⟨_,d,m⟩
   exact .inr ⟨by rw[d];exact m,c,d.symm⟩
 ·rw[l c]
  constructor
  ·rintro (⟨z,_⟩|⟨_,z,_⟩)
   ·exact z
   ·exact .f0 c
  ·intro z
   exact .inl ⟨z,c⟩
def Md.ob{h n}(m:Md 0 n M bs ss bk a h)(nd:n<dk)(nb:bk≠dk)(b:a≠dk)(c:cM):Md 0 n M bs ss bk a (h.set dk c) :=
 ⟨m.n1,m.n30,m.mt.set .b c,m.mo,by rw[ZP (wh nb)];exact m.ba,by rw[ZP (wh b)];exact m.st,m.lb,m.ls,m.os⟩
structure Stt(n bk sk dk:Nat)(W0:D)(M:.aJ)(T:.ax)(bs:.c)(ss:.Q)(h:Hd):Prop where
 md:Md 0 n M bs ss bk sk h
 lp:LP n M n 0 T
 de:h[dk]?=some .nJ
 d2:h[dk+1]?=some (.ob [W0])
 bb:∀b∈bs,b.natAbs<10^30
structure Lay(n bk sk dk:Nat):Prop where
 nb:n<bk
 bs:bk<sk
 sd:sk<dk
/---/def Io(n bk sk dk:Nat)(W0:D)(h:Hd)(o:Res D):Prop:=∃row h' h'' M T bs ss,o=.ok (.str row) h'/\h'.length=h.length/\(∃l,h'[dk]?=some (.ob l))/\bp .tI h'=.ok .mc h''/\.cY sk dk W0 M T bs ss h''
def Xa{T h n}(Y:.g6 e dk)(S:.cY e dk q M T bs ss h)(ne:a≠b)(o:a<n)(i:b<n)(l:0<=x)(k:x<=400):
  Io n bk e dk q h (.ok (.str .zm)<|(h.set (0+a)<|.lst<|(.n9).set b .ed).set (0+b) (.lst<|(.s3).set a .ed)):=by
 obtain⟨m,L,w,g,t⟩:=S;obtain⟨B,u,A⟩:=Y;obtain⟨v,L2,y⟩:=Sr m.n30 L m.mo ne o i l k;have p:=(m.mt.put (b:=b) o x).put (b:=a) i x;obtain⟨d,c⟩:=q0 ((h.set (0+a)<|.lst<|(.n9).set b .gX).set (0+b) (.lst<|(.s3).set a .gX):Hd);have keep:∀j,n<=j->d[j]?=h[j]? := λj C=>by rw[c,ZP .b,ZP .b]
 rw[<-c]at p⊢;have f:=(.u1).trans w;have z:dk<d.length:=(zA.mp f).1;have r:=Sq m.n1 m.n30 L.ok m.lb m.ls m.os ne o i l k f;rw[y]at r;have s:Md 0 n (je .jk b a x) bs ss bk e d:=⟨m.n1,m.n30,p,m.mo.put ne l k,(keep bk .b).trans m.ba,(keep e .b).trans m.st,m.lb,m.ls,m.os⟩;exact⟨_,d,_,_,v,bs,ss,rfl,by rw[c];simp,⟨_,f⟩,r,s.ob .b .b .b _,L2,wJ z,(ZP .b).trans ((.ua).trans g),t⟩
def FU{α:Type}{l:List α}{x y:α}(h:y∈l.set p x):y=x\/y∈l:=(List.mem_or_eq_of_mem_set h).symm
def Xb{T h n}(Y:.g6 e dk){k:D}(S:.cY e dk k M T bs ss h)(u:a<n)(l:x.natAbs<10^30):
  Io n bk e dk k h (.ok (.str<|.bZ [HN,tx (a:Int),tx x])<|h.set bk<|.lst<|(.bG).set a .ed):=by
 obtain⟨m,L,t,g,q⟩:=S;obtain⟨A,s,z⟩:=Y;obtain⟨d,c⟩:=q0 (h.set bk (.lst<|(.bG).set a .gX):Hd);have keep:∀j,bk≠j->d[j]?=h[j]? := λj r=>by rw[c,ZP r]
 have v:bk<h.length:=(zA.mp m.ba).1;rw[<-c];have f:=(.u1).trans t;have y:dk<d.length:=(zA.mp f).1;have o:x.natAbs<10^60:=Z1 l .a;have w:=So m.n1 m.n30 L.ok m.lb m.ls m.os u o f;have p:Md 0 n M (bs.set a x) ss bk e d:=⟨m.n1,m.n30,by rw[c];exact m.mt.set .b _,m.mo,by rw[c,wJ v,zYx],(keep e .b).trans m.st,by rw[zYf];exact m.lb,m.ls,m.os⟩;refine⟨_,d,_,_,T,_,ss,rfl,by rw[c];simp,⟨_,f⟩,w,p.ob .b .b .b _,L,wJ y,(ZP .b).trans ((.ua).trans g),λb i=>?_⟩;rcases FU i with rfl|i
 ·exact l
 ·exact q b i
def Vz{T c h n}(Y:.g6 c dk){i:D}(S:.cY c dk i M T bs ss h)(u:a<n)(k:.h9):
  Io n bk c dk i h (.ok (.str<|.bZ [As,tx (a:Int),Au o])<|h.set c<|.lst .uv):=by
 obtain⟨m,L,t,f,p⟩:=S;obtain⟨z,s,y⟩:=Y;obtain⟨d,b⟩:=q0 (h.set c (.lst .uv):Hd);have keep:∀j,c≠j->d[j]?=h[j]? := λj r=>by rw[b,ZP r]
 have q:c<h.length:=(zA.mp m.st).1;rw[<-b];have e:=(.u1).trans t;have w:dk<d.length:=(.cN).1;have v:=PB m.n1 m.n30 L.ok m.lb m.ls m.os u k e;have l:Md 0 n M bs (ss.set a o) bk c d:=⟨m.n1,m.n30,by rw[b];exact m.mt.set .b _,m.mo,(keep bk .b).trans m.ba,by rw[b,wJ q,zYx],m.lb,by rw[zYf];exact m.ls,λx g=>?_⟩
 ·exact⟨_,d,_,_,T,bs,_,rfl,by rw[b];simp,⟨_,e⟩,v,l.ob .b .b .b _,L,wJ w,(ZP .b).trans ((.ua).trans f),p⟩
 ·rcases FU g with rfl|g
  ·exact k
  ·exact m.os x g
abbrev FV:List Nat:=.hu
abbrev VA:List Nat:=[101,110,100,101,100]
abbrev Kf:List Nat:=.f8
abbrev Kg:List Nat:=.iP
abbrev PK:List Nat:=.nL
abbrev Yp:List Nat:=.nM
abbrev Yq:List Nat:=.oV
abbrev Ss:List Nat:=.i8
abbrev Su:List Nat:=.iL
abbrev Xc:List Nat:=.i2
abbrev VB:List Nat:=.i7
section
variable{w:Web}{n:Nat}{s:.c}{h:Hd}{dk:Nat}
def Xd{a b:.m}(e:a≠b)(h:Hd):oEq .dd (.str b) h=.g8 h:=(.go).trans (by rw[z4 e])
def sk3{e d:.m}{b:SF}{a c:D}(ne:e≠d):sIf (tE<|.cf<|fC<|.str d) b bh .Ba g=.nx .Ba g:=(.AD).trans rfl
def sk2{d:.m}{b:SF}(ne:d≠c):sIf (tE<|.cf<|fC<|.str c) b bh [some a,some (.str d)] g=.nx [some a,some (.str d)] g:=(.AD).trans rfl
def Sv{s:.c}:32∉sg s:=λh=>by rcases Dg h with e|e<;>cases e
def tR{S:.aK}{x:.m}(W:w.Ok n)(n30:n<=30)(F:∀s∈S,bI w n s)(E:S.length<=2)(C:(.ut).isEmpty=false)(hd:.bK)(m:32∉a)(t:.mB)(n1:a≠wSw)
  (A:.vP) (o:a≠[98,97,114]) (r:.vI) (q:ja.lookup a=some .ut)
  (v:∀(g:Hd) (k:Nat),g[k]?=some (.lst<|S.map ar)->gc .ti g=.g9 g) :
  bp [.ref dk,.str (.bZ (a::S.map sg))] h=.g9 h:=by
 have i:∀s∈S,s.length<=30:=λs d=>by rw[(F s d).len];exact n30
 obtain⟨Z,f⟩:=q0 (S.map λs=>(wSt,sg s,ar s):List .gb);have l:kz Z=(.ut).map .str:=by rw[f];unfold kz;rw[y3,y3];rfl
 have p:wz Z=(S.map sg).map .str:=by rw[f];unfold wz;rw[y3,y3];rfl
 have u:Z.map (·.2.2)=S.map ar:=by rw[f,y3];rfl
 obtain⟨y,rfl,e⟩:=xu (L:=S.map sg) hd m (λz b=>by
  obtain⟨s,_,rfl⟩:=z0.mp b;exact Sv) t (λz b=>by
  obtain⟨s,d,rfl⟩:=z0.mp b;rw[pK];exact ZM (i s d) .a) (by rw[ZA];omega) A o r (λg k j=>qj j n1 q (by rw[ZA,ZA])) (λg k j=>by
  rw[<-u];refine jE (by rw[f,ZA];omega) (by rw[l];exact uS g _) (by rw[p];exact j) λz b=>?_;rw[f]at b;obtain⟨s,d,rfl⟩:=z0.mp b;exact⟨WT _ g,λc=>absurd (show wSt=wPe from c) .a,WU W (F s d) (i s d) g⟩) λg k B =>
  ⟨x,rfl,(.n<|sx (sk3 n1)<|sx ((bH<|aM<|(Dh<|tN rfl q).trans (by rw[C])).trans rfl)<|aE<|aq .b8<|v g k B).trans aJ⟩
 exact e
def xy{x:.m}(hd:.bK)(l:32∉a)(f:.mB)(n1:a≠wSw)
  (j:.vP) (c:a≠[98,97,114]) (d:.vI) (q:ja.lookup a=some [])
  (i:∀g:Hd,gm [w.enc,.str a] g=.g9 g):bp [.ref dk,.str a] h=.g9 h:=by
 obtain⟨y,rfl,e⟩:=xu (L:=[]) hd l .fv f .fv .a j c d (λg k b=>qj b n1 q rfl) (λg k b=>jE (Z:=[]) .a (uS g []) b .fv) λg k m =>
  ⟨x,rfl,(.n<|sx (sk3 n1)<|dS<|(dD<|aM<|Dh<|tN rfl q).trans (aE<|.F<|i g)).trans aJ⟩
 exact e
end
section
variable{w:Web}{n:Nat}{s:.c}{h:Hd}{dk:Nat}
def Kh(a b c:.m):bg [32] [a,b,c]=((a++[32]++b)++[32])++c:=by simp[bg]
def Tv(a b c d:.m):bg [32] [a,b,c,d]=(((a++[32]++b)++[32])++c)++[32]++d:=by simp[bg]
def Tw(a b:.m):bg [32] [a,b]=(a++[32])++b:=by simp[bg]
def PL{P:α->Prop}(h:P a):∀x∈[a],P x:=λx b=>by rw[Z5.mp b];exact h
def PM(W:w.Ok n)(F:.V)(h:Hd):CN .dF h=.ok (ar .af) h :=
 (.n<|sx (dj .ln)<|aE<|.F<|gR W F h).trans aJ
def FW(G:Go w n)(F:.V)(hd:.bK):bp [.ref dk,.str (.bZ [FV,sg s])] h=.ok (.str<|sg .af) h:=by
 have a:=.ix F;exact tR (S:=[s]) G.W G.n30 (PL F) .f rfl hd .a .a .a .a .a .a rfl λg k b =>
  (.n<|dS<|(.eE).trans (aE<|aq (.bO<|aq (.bc<|.aG (aF b) .eF)<|PM G.W F g)<|qi a.op (by rw[a.len];exact G.n30) g)).trans aJ
/---/def FX(w:Web)(n:Nat)(s:.c)(t:Nat):List .bW:=if hist w n s (t+1)=hist w n s t then [Kf,tx (t:Int),sg .f9] else [Kg,tx (t:Int),sg .f9,sg .kX]
def t60{t:Nat}(h:t<=8192):((t:Int)).natAbs<10^60:=ZS (show (t:Int).natAbs<=8192 by omega) .a
def Do{h:Hd}(p:.gO)(b:.p8):vW a σ h=.ok .ls h1:=by
 show Res.bind _ _=_;rw[p,aR];exact zE b
def VC(W:w.Ok n)(S:cG w)(F:.V)(l:n<=30){t:Nat}(ht:t<=8192){h:Hd}{k:Nat}(i:h[k]?=some (.lst .bx)):
  iJ [.tup [.int t,.str .yz,.ref k]] h=.ok .k2 h:=by
 have L:=λk=>(.eL).len;have B:=λk=>(.eL).op;have p:∀k,(sg .b7).length<=30:=λk=>by rw[pK,L];exact l
 have M:=dM (t:Int) (t60 ht);obtain⟨a,d⟩:=q0 .yz
 obtain⟨T,e⟩:=q0 (.tup [.int t,.str a,.ref k]:D);have len:(.bx).length=t+2:=by simp[bn]
 have g:∀j,j<t+2->.bx[j]?=some (ar .uO):=λj I=>by simp[bn,I]
 have q:∀x y z,fAt .e .J [some T,x,y,z,none] h=.ok .Z h:=λx y z=>by rw[e];exact aL rfl rfl rfl rfl
 have A:fAt .cI .iD .rT h=.ok .h1 h:=aL (q _ _ _) rfl (aF i) ((xr (k:=2) .a (by rw[len];omega)).trans ((congrArg (λj=>.bx[j]?) (show _=t by rw[len];omega)).trans (g t .b)));have G:fAt .cI .cH .rq h=.ok .mi h:=aL (q _ _ _) rfl (aF i) ((xr (k:=1) .a (by rw[len];omega)).trans ((congrArg (λj=>.bx[j]?) (show _=t+1 by rw[len];omega)).trans (g (t+1) .b)));have H:aD .gw .aX [some T,none,none,none,none] h=.nx .zS h:=aC .Ad;have E:.bQ .cn .zS h=.nx .rT h:=aC .Ad;have v:.c0 .AV .rT h=.nx .rq h:=aC (aq (.bO A)<|qi (B t) (by rw[L];exact l) h);have C:.fd .A5 .rq h=.nx .wX h:=aC (aq (.bO G)<|qi (B<|t+1) (by rw[L];exact l) h);have N:=p t;have K:=p (t+1);rw[<-d,<-e];obtain⟨σ,b⟩:=q0 (.wX:Sd);have u:∀g:Hd,aa 1 σ g=.ok (.int t) g:=λg=>by rw[b];rfl
 have m:∀g:Hd,aa 3 σ g=.ok (.str<|sg .f9) g:=λg=>by rw[b];rfl
 have J:∀g:Hd,aa 4 σ g=.ok (.str<|sg .kX) g:=λg=>by rw[b];rfl
 have o:(ax .wn
  .wt ) σ h=.rt .k2 h:=by
  have r:aa 2 σ h=.ok .dd h:=by rw[b];rfl
  unfold FX
  by_cases c:.t s (t+1)=.t s t
  ·rw[zE c]at d⊢
   have f:(.rm) σ h=.ds h:=aM .zQ;refine dS ((dD f).trans (aE (BH ?_)));refine iu (rfl:fC (.str .nK) σ h=_) .a (iu (dU (u h)<|t60 ht) .X<|.EK<|.qN<|Do (m h) .b);simp[bg]
  ·rw[zF c]at d⊢
   have f:(.rm) σ h=.dr h:=aM .zQ;refine sx ((bH f).trans rfl) (aE (BH ?_));refine iu (rfl:fC (.str .tC) σ h=_) .a (iu (dU (u h)<|t60 ht) .X<|iu (rfl:fC .uI σ h=_) .X<|iu (Do (m h) .b) .X<|.EK<|.qN<|Do (J h) .b);simp[bg]
 rw[b]at o;exact (.n<|sx H<|sx E<|sx v<|sx C o).trans aJ
def Sw(G:Go w n)(F:.V){t:Nat}(E:zn w n s t)(hd:.bK):bp [.ref dk,.str (.bZ [VA,sg s])] h=.ok .k2 h :=
 tR (S:=[s]) G.W G.n30 (PL F) .f rfl hd .a .a .a .a .a .a rfl λg k a=>by
  have q:=yv G.W G.S F E.ht E.hm (ZM E.hz .a) g;have r:=VC G.W G.S F G.n30 E.hz (h:=g++[.lst .bx]) (k:=g.length) .f;exact (.n<|sx .gc<|sx .gc<|sx .gc<|sx .gc<|aE<|aq (.bO<|aq .Ay q) r).trans .fL
def PN{T}(G:Go w n)(l:.bd K T w f h)(F:.V){t:Nat}(E:zn w n s t):jd [f,ar s] h=.ok .k2 h:=by
 have L:=λk=>(.un).len;have r:∀k,(sg .b7).length<=30:=λk=>by rw[pK,L];exact G.n30
 have i:=λk g=>tM (.un).op (by rw[L];exact G.n30) g;have C:=zq G l F E;obtain⟨g,m⟩:=q0 (h++[.lst .bx]:Hd);have j:g[h.length]?=some (.lst .bx):=by rw[m];exact ZG
 have H:atI .bx (-1)=some .mi:=gg (t+1) 1 .a;have z:atI .bx (-2)=some .h1:=gg t 2 .a;have J:=dM (t:Int) (t60 E.hz);have N:=r t;have I:=r (t+1);obtain⟨X,b⟩:=q0 (λx=>[some f,some .C,some .bb,x]:Option D->Sd);have y:∀x,fAt .g .cH (X x) g=.ok .mi g:=λx=>by rw[b];exact aL rfl rfl (aF j) H
 have o:∀x,fAt .g .iD (X x) g=.ok .h1 g:=λx=>by rw[b];exact aL rfl rfl (aF j) z
 have q:aa 3 (X .iR) g=.ok (.str<|tx (t:Int)) g:=by rw[b];rfl
 have e:∀(a:.m) x,fC .dd (X x) g=.ok .dd g:=λa x=>rfl;have u:.c0 (c9 .tl) (X none) g=.nx (X .iR) g:=by
  have:ag gy (cC .lw) .J (X none) g=.ok (.int (t:Int)) g:=by
   rw[b];refine (.cy<|dE<|.bu<|aF j).trans ?_;rw[ZA,jy];show Res.ok (D.int<|((t+2:Nat):Int)-2) g=_;rw[show (((t+2:Nat):Int)-2)=(t:Int) by omega]
  rw[b]at this⊢;exact aC (dU this<|t60 E.hz)
 have v:=λx=>aM (av (y x) (o x)<|li ((L _).trans (L _).symm) _);have A:.bR .zw (au bJ<|ad .f5 am) (X .iR) g=.ok (.str<|.bZ [Kf,tx (t:Int),sg .f9]) g:=by
  rw[Kh];exact dH .xi .BM .X
 have B:.bR .wC (au bJ .n4) (X .iR) g=.ok (.str<|.bZ [Kg,tx (t:Int),sg .f9,sg .kX]) g:=by
  rw[Tv];exact dH (dH (dH .xi .BM .X) (e _ _) .X) (aq (.bO<|y _)<|i (t+1) g) .X
 have p:.bQ (.cV jB) [some f,some .C,none,none] h=.nx (X none) g:=by
  rw[b,m];exact aC (.F C)
 have fin:jd [f,ar s] h=.a1 (.ok .k2 g):=by
  unfold FX
  by_cases c:.t s (t+1)=.t s t
  ·have d:=v .iR
   rw[z3 c]at d;rw[zE c];exact aU rfl rfl (sx p<|sx u<|dS<|(dD d).trans (aE A))
  ·have d:=v .iR
   rw[z4 c]at d;rw[zF c];exact aU rfl rfl (sx p<|sx u<|sx ((bH d).trans rfl)<|aE B)
 rw[fin,m];exact bP rfl
end
section
variable{w:Web}{n:Nat}{s:.c}{h:Hd}{dk:Nat}
/---/def gY(w:Web)(s:.c):Nat->Int:=λk=>if s.getD k 0=1 then w.bars.getD k 0-bV (w.ties.getD k []) s else 0
def PP{h b:Hd}{x y z:D}(p:slot σ i=some x)(q:a σ h=.ok y h1)(r:g x y h1=.ok z b):Ko i g a σ h=.nx .tD b:=by
 dsimp[Ko,p,q,aR,r,outE]
def LX(W:w.Ok n)(F:.V)(h:Hd):sG .dF h=.ok (.int .lC) h:=by
 obtain⟨σ',p,m,z,x,y,r⟩:=cn (P:=λi σ p=>p=h/\∃x y,σ=[some w.enc,some .C,some (.int<|eg .eN i),x,y]) (g:=none)
   .bA
   (xs:=gQ .gp) (tg:=gT [3,4])
   (b:=Br) (by
   rintro i x σ e o ⟨rfl,a,b,rfl⟩;rw[wK];have j:i<s.length:=by
    have:=(zA.mp o).1;simpa[gQ] using this
   have k:x=.tup [.int (i:Nat),.int s[i]]:=by simpa[gQ,j,ZE] using o.symm
   subst k;have d:i<n:=by rw[<-F.len];exact j
   have f:i<w.ties.length:=by rw[W.t];exact d
   have l:i<w.bars.length:=by rw[W.b];exact d
   have t:w.ties[i]?=some w.ties[i]:=by simp[f]
   have v:w.bars[i]?=some w.bars[i]:=by simp[l]
   have C:gY w s i=if s[i]=1 then w.bars[i]-bV w.ties[i] s else 0:=by
    unfold gY;dsimp[List.getD,ZE j,ZE l,ZE f,zYv]
   refine⟨_,rfl,[some w.enc,some .C,some (.int<|eg .eN<|i+1),some .v,some (.int s[i])],e,?_,rfl,_,_,rfl⟩;rw[show eg .eN (i+1)=eg .eN i+gY w s i by rw[eg],C];generalize eg .eN i=S
   by_cases c:s[i]=1
   ·have B:∀q∈w.ties[i],q.1<s.length:=λq A=>by rw[F.len];exact W.lt _ (YA f) q A
    rw[zE c,<-Int.add_sub_assoc];refine(dD<|aM<|.am .CI).trans ?_;exact sx (PP rfl (.F<|yp w e v) rfl) (PP rfl (ym (bZ (sr<|.F<|pz w e t)<|ER B e)<|mF _) rfl)
   ·rw[zF c,zYy]
    exact(bH<|aM<|.am .CH).trans rfl) ⟨rfl,_,_,rfl⟩
 have u:(gQ .gp).length=n:=by simp[gQ,F.len]
 rw[u,wK]at r;rw[z,r]at m;exact (.n<|sx (dj .ln)<|sx .gI<|sx (eO rfl m) .cc).trans aJ
def wv{T}(G:Go w n)(l:.bd V T w m h)(F:.V):jC [m,ar s] h=.ok (.int .lC) h:=by
 have C:=G.n30;have B:=λi=>iB F i;have t:=F.len;have p:∀(a b c d:.E),cr .c5 [a,some .C,b,c,d] h=.ok ((.s).map (λk:Nat=>D.int k),none) h:=λa b c d=>by
  refine eM ((.ow).trans ?_) .b;rw[ZA,t]
 obtain⟨σ',v,z,K,x,y,A⟩:=cn (P:=λi σ v=>v=h/\∃x y,σ=[some m,some .C,some (.int<|eg .eN i),x,y]) (g:=none) (k:=0) .bA
   (xs:=(.s).map λk:Nat=>D.int k) (tg:=gN 3) (b:=vZ) (by
   rintro i x σ f r ⟨H,a,b,rfl⟩;subst H;obtain⟨o,rfl⟩:=gq r;rw[wK];refine⟨_,rfl,?_⟩;have R:=i7 (t▸o);have E:=i7 (i:=i) (l.m.lb▸o);have J:w.bars.getD i 0=.iz 0:=by rw[l.w'];rfl
   have Q:w.ties.getD i []=dG .aP:=by rw[l.w'];simp[bA,List.getD,o]
   have U:gY w s i=if s.getD i 0=1 then bs.getD i 0-bV .aP s else 0:=by unfold gY;rw[J,Q,pC]
   rw[show eg .eN (i+1)=eg .eN i+gY w s i by rw[eg],U];generalize eg .eN i=S;have q1:fAt .d .h .zf f=.ok (.int<|s.getD i 0) f:=aL rfl rfl rfl R
   by_cases c:s.getD i 0=1
   ·have O:.mM [] .wu ((.s).map λk:Nat=>D.int k) .AN f=.ok .uJ f:=by
     have:=bj (g:=none) (all:=(.s).map λk:Nat=>D.int k) (tg:=gN 0) (cs:=[]) (e:=.bn (fAt (fAt (fAt .h .z) .g) .e) .fl) (h:=f) (I:=λσ=>∃a,σ=[a,some .C,some .cS,some m]) .aI (λd=>match d with | .int j=>.int .A8|_=>.non) trivial
      (xs:=(.s).map λk:Nat=>D.int k) (σ:=.AN) (by
       rintro x r σ ⟨c,rfl⟩;obtain⟨j,q,rfl⟩:=z0.mp r;have q:=YK.mp q;refine⟨_,rfl,⟨_,rfl⟩,rfl,λ_=>?_⟩;have L:fAt .h .z [some (.int (j:Nat)),some .C,some .cS,some m] f=.ok .kj f:=by rw[l.t'];exact aL rfl rfl rfl rfl
       exact av (aL (aL L rfl (aF l.m.mt.ti)<|BM o) rfl (aF<|l.m.mt.ro i o)<|Dj q) (.aG rfl<|i7<|t▸q) (WZ (B j) f)) ⟨_,rfl⟩
     rw[this,wL.mpr .f,y3,y3];rfl
    have N:(.m4).sum=bV .aP s:=by rw[ut];exact zg l.L B o
    have u:rH .zY .zf f=.ok (.int<|bV .aP s) f:=by
     rw[<-N];exact ym (bZ (p _ _ _ _) O) (mF _)
    generalize bV .aP s=P at u;have q2:fAt .cn .h [some m,some .C,some (.int S),some .v,some (.int P)] f=.ok (.int<|.iz 0) f:=by rw[l.t'];exact aL .bU rfl (aF l.m.ba) E
    rw[zE c,<-Int.add_sub_assoc];exact⟨_,f,(dD<|aM<|av q1 rfl .CI).trans (sx (aC u)<|aC<|.cy<|av rfl q2 rfl),rfl,_,_,rfl⟩
   ·rw[zF c,zYy]
    exact⟨_,f,(bH<|aM<|av q1 rfl .CH).trans rfl,rfl,_,_,rfl⟩) ⟨rfl,_,_,rfl⟩
 rw[ZA,ZO,wK]at A;rw[K,A]at z;exact (.n<|sx .gI<|sx (eO (p _ _ _ _) z) .cc).trans aJ
end
def Sx(p:xs.length+ys.length<=SZ):oQ .dc .jW h=.ok (.tup<|xs++ys) h:=by dsimp[oQ,zE p]
/---/def PQ(o:.aF)(s:.c):List .aW:=match o with|none=>[s++[0],s++[1]] | some v=>[s++[v]]
/---/def jf(E:.aK)(o:.aF):List .aW:=E.flatMap (PQ o)
/---/def dW(ss:.Q):List .aW:=ss.foldl jf [[]]
def mY{ss:.Q}(h:ss[k]?=some o):dW (ss.take<|k+1)=jf .h0 o:=by
 unfold dW;rw[zZe,h,List.foldl_append];rfl
def FY(E:.aK)(o:.aF):(jf E o).length<=2*E.length:=by
 unfold jf
 induction E with
 |nil=>exact ZL _
 |cons s E a =>
  rw[zYn,ZB,wI];have:(PQ o s).length<=2:=by
   cases o with
   |none=>exact ZL 2
   |some v=>exact Nat.le_succ 1
  omega
theorem xz(ss:.Q):∀k,k<=ss.length->(.h0).length<=2^k
 |0,_=>by rw[U1];exact ZL _
 |k+1,a=>by
  rw[mY (ZE<|show k<ss.length by omega),Nat.pow_succ];have:=FY .h0 (ss[k]' .b);have:=xz ss k .b;omega
structure InK(ss:.Q)(k:Nat)(s:.c):Prop where
 len:s.length=k
 op:∀x∈s,x=0\/x=1
 st:∀(i:Nat) x,i<k->ss[i]?=some .fJ->s[i]?=some x
theorem tS{ss:.Q}(os:.a9):∀k,k<=ss.length->∀s,s∈dW .hC↔InK ss k s
 |0,_,s=>by
  rw[U1];constructor
  ·intro h
   have h:=Z5.mp h;subst h;exact⟨rfl,(λx b=>absurd b zYw),λi x d=>absurd d (va i)⟩
  ·intro h
   rw[List.eq_nil_of_length_eq_zero h.len];exact Z5.mpr rfl
 |k+1,r,s=>by
  have a:=r;have e:=ZE a;have ok:=os _ (YA a);obtain⟨o,u⟩:=q0 (ss[k]);rw[<-u]at e ok;rw[mY e];unfold jf;rw[List.mem_flatMap];have p:=tS os k (YB a);constructor
  ·rintro⟨t,f,n⟩
   have T:=(p t).mp f;have:∃v,s=t++[v]/\(v=0\/v=1)/\(∀x,o=some x->v=x):=by
    cases o with
    |none =>
     rcases y6.mp n with z|z
     ·exact⟨0,z,.inl rfl,λx q=>by cases q⟩
     ·exact⟨1,Z5.mp z,.inr rfl,λx q=>by cases q⟩
    |some v=>exact⟨v,Z5.mp n,by simpa using ok,λx q=>by cases q;rfl⟩
   obtain⟨v,rfl,g,y⟩:=this;refine⟨by rw[ZB,T.len];rfl,λx b=>?_,λi x d q=>?_⟩
   ·rcases Z3.mp b with z|z
    ·exact T.op x z
    ·rw[Z5.mp z];exact g
   ·by_cases hik:i<k
    ·rw[ZC (by rw[T.len];exact hik)];exact T.st i x hik q
    ·have:i=k:=by omega
     subst this;rw[e]at q;rw[ZD (by rw[T.len];exact ZL _),T.len,Nat.sub_self,y x (ZT q)];rfl
  ·intro S
   have l:k<s.length:=by rw[S.len];exact Z6 k
   have c:s=s.take k++[s[k]]:=by
    conv=>lhs;rw[<-List.take_append_drop k s]
    rw[zZt l,List.drop_of_length_le (by rw[S.len];exact ZL _)]
   refine⟨s.take k,(p _).mpr ⟨by rw[vf];omega,λx b=>S.op x (List.mem_of_mem_take b),λi x d q=>by rw[zXe d];exact S.st i x (Z2 d) q⟩,?_⟩;have g:=S.op _ (YA l);obtain⟨t,f⟩:=q0 (s.take k);obtain⟨v,m⟩:=q0 (s[k]);have j:=λx q=>S.st k x (Z6 k) q;rw[ZE l]at j;rw[<-m]at g j;rw[<-f,<-m]at c;rw[<-f,c];cases o with
   |none =>
    rcases g with z|z
    ·rw[z];exact ZV
    ·rw[z];exact ZW _ ZV
   |some w =>
    rw[ZT (j w e)];exact ZV
def PR{a b:.c}(f:a.length=k)(lb:b.length=k)(h:LeS (b++[y]) (a++[x])):LeS b a/\y<=x:=by
 have d:∀(c:.c) (z:Int) (i:Nat),c.length=k->(c++[z]).getD i 0=if i<k then c.getD i 0 else if i=k then z else 0:=λc z i lc=>by
  rw[ZF,ZF]
  by_cases e:i<k
  ·rw[ZC (by rw[lc];exact e),zE e]
  ·rw[ZD (by rw[lc];exact zZy.mp e),zF e,lc]
   by_cases g:i=k
   ·subst g;rw[Nat.sub_self,zE rfl];rfl
   ·rw[zF g,wM (by show 1<=i-k;omega)];rfl
 constructor
 ·intro i
  have:=h i;rw[d b y i lb,d a x i f]at this
  by_cases e:i<k
  ·rw[zE e,zE e]at this;exact this
  ·rw[ZF,wM .b,ZF,wM .b];exact wb _
 ·have:=h k
  rw[d b y k lb,d a x k f,zF (Z8 k),zE rfl,zF (Z8 k),zE rfl]at this;exact this
theorem zu{ss:.Q}(os:.a9):∀k,k<=ss.length->(.h0).Pairwise λa b=>¬LeS b a
 |0,_=>by rw[U1];exact .v6 _
 |k+1,j=>by
  have d:=j;rw[mY (ZE d)];unfold jf;rw[List.pairwise_flatMap];have g:=λs o=>((tS os k (YB d) s).mp o).len;refine⟨λa e=>?_,?_⟩
  ·cases ss[k] with
   |none =>
    refine YC.mpr ⟨λb h=>?_,.v6 _⟩;rw[Z5.mp h];intro z;have:=(PR (g a e) (g a e) z).2;omega
   |some v=>exact .v6 _
  ·refine List.Pairwise.imp_of_mem ?_ (zu os k<|YB d)
   intro a b e h l x m y n z;have i:∀(c t:.c),t∈PQ ss[k] c->∃v,t=c++[v]:=λc t f=>by
    cases q:ss[k] with
    |none =>
     rw[q]at f;rcases y6.mp f with z|z
     ·exact⟨0,z⟩
     ·exact⟨1,Z5.mp z⟩
    |some v=>rw[q]at f;exact⟨v,Z5.mp f⟩
   obtain⟨u,rfl⟩:=i a x m;obtain⟨v,rfl⟩:=i b y n;exact l (PR (g a e) (g b h) z).1
def xA(s:.c)(v:Int)(ls:.kc)(h:Hd):oQ .C (.tup [.int v]) h=.ok (ar<|s++[v]) h:=by
 have:=Sx (xs:=s.map D.int) (ys:=[.int v]) (h:=h) (by rw[ZA];exact ZM (zYr ls 1) .a);unfold ar;rw[ZR];exact this
/---/def jt(E:.aK)(p:.kh):List .aW:=E.flatMap λs=>(.kY).map λk:Nat=>s++[p.1+k]
/---/def kS(l:.dO):List .aW:=l.foldl jt [[]]
def uY{l:.dO}{p:.kh}(h:l[k]?=some p):kS (l.take<|k+1)=jt (kS .hV) p:=by
 unfold kS;rw[zZe,h,List.foldl_append];rfl
/---/def btw(l:.dO)(s:.c):Bool:=(l.zip s).all λq=>decide (q.1.1<=q.2)&&decide (q.2<=q.1.2)
def tT{l:.dO}{p:.kh}(h:s.length=l.length):btw (l++[p]) (s++[v])=(btw l s&&(decide (p.1<=v)&&decide (v<=p.2))):=by
 unfold btw;rw[List.zip_append h.symm,List.all_append];simp
def FZ(E:List α)(q:α->Bool)(f g:α->List β)(p:β->Bool)(h:∀s∈E,(f s).filter p=if q s then g s else []):(E.flatMap f).filter p=(E.filter q).flatMap g:=by
 induction E with
 |nil=>rfl
 |cons s E a =>
  have a:=a λx b=>h x (ZW _ b);have d:=h s ZV;rw[zYn,zXl,a,d];cases c:q s with
  |true=>rw[YJ c,zYn,zE rfl]
  |false=>rw[YV .ox,zF .a];rfl
structure Bd(ss:.Q)(l:.dO):Prop where
 len:l.length=ss.length
 bit:∀p∈l,.oQ/\.oP/\p.1<=p.2
 st:∀(i:Nat) x p,ss[i]?=some .fJ->l[i]?=some p->p=(x,x)
theorem pL{ss:.Q}(os:.a9){l:.dO}(B:Bd ss l):∀k,k<=ss.length->kS .hV=(.h0).filter (btw .hV)
 |0,_=>rfl
 |k+1,r=>by
  have a:=r;have b:k<l.length:=by rw[B.len];exact a
  obtain⟨o,i⟩:∃o,ss[k]?=some o:=⟨_,ZE a⟩;obtain⟨p,f⟩:∃p,l[k]?=some p:=⟨_,ZE b⟩;rw[uY f,mY i,pL os B k (YB a)];have lt:l.take (k+1)=l.take k++[p]:=by rw[zZe,f];rfl
  have A:(.hV).length=k:=by rw[vf];exact Nat.min_eq_left (YB b)
  unfold jt jf
  symm
  refine FZ _ _ _ _ _ λs w=>?_;have d:s.length=(.hV).length:=by rw[A];exact((tS os k (YB a) s).mp w).len
  obtain⟨q,n,m⟩:=B.bit p (ZK f);rw[lt];cases c:btw .hV s with
  |false =>
   rw[zF .a,List.filter_eq_nil_iff];intro t j;have:∃v,t=s++[v]:=by
    cases o with
    |none =>
     rcases y6.mp j with z|z
     ·exact⟨0,z⟩
     ·exact⟨1,Z5.mp z⟩
    |some v=>exact⟨v,Z5.mp j⟩
   obtain⟨v,rfl⟩:=this;rw[tT d,c,Bool.false_and];decide
  |true =>
   rw[zE rfl];cases o with
   |some v =>
    have e:=B.st k v p i f;rw[e];show ([s++[v]]).filter _=_;rw[YJ (by rw[tT d,c];simp),List.filter_nil];have u:(v+1-v).toNat=1:=by omega
    rw[u];show [s++[v]]=[s++[v+((0:Nat):Int)]];rw[show v+((0:Nat):Int)=v from zYy v]
   |none =>
    obtain⟨x,y⟩:=p;show ([s++[0],s++[1]]).filter _=_;have h:btw (l.take k++[(x,y)]) (s++[0])=(decide (x<=0)&&decide (0<=y)):=by rw[tT d,c,Bool.true_and]
    have g:btw (l.take k++[(x,y)]) (s++[1])=(decide (x<=1)&&decide (1<=y)):=by rw[tT d,c,Bool.true_and]
    simp only at q n m;rcases q with rfl|rfl<;>rcases n with rfl|rfl
    ·rw[YJ .ub,YV .uc];rfl
    ·rw[YJ .ub,YJ .uc];rfl
    ·exact absurd m .a
    ·rw[YV .ub,YJ .uc];rfl
def LY{a b:EF}{d:Hd}{m n:Int}(p:a σ h=.ok (.int m) h1)(q:b σ h1=.ev d)(c:(-1000000<=m/\m<=1000000)/\-1000000<=n/\n<=1000000):fj a b σ h=.ok ((.CW).map (λk:Nat=>D.int (m+k)),none) d:=by
 dsimp[fj,p,q,aR,zE c]
def PU{x:EF}{l b ds:List D}(p:.p5)(q:.pY)(r:L σ h1=.dx a)(s:.mw)(t:l.length+ds.length<=SZ):kx x L σ h=.e9 .CU:=by
 dsimp[kx,p,aR,q,r,s,zE t]
def LZ{p:.kh}(b:.oQ/\.oP)(E:.aK):(jt E p).length<=2*E.length:=by
 unfold jt
 induction E with
 |nil=>exact ZL _
 |cons s E a =>
  rw[zYn,ZB,wI,ZA,ZO];omega
def PV{x y:D}{p:.kh}(F:.oQ/\.oP)(R:E.length<=100000)(ls:∀s∈E,s.length<=30)(C:.qg)(t:.gS)(c:.E):
  ∃o,i0 .bJ .bg .a8 gH .bg [some x,some y,some .Z,some .kl,some .km,some .ar,c] .ae=.nx [some x,some y,some .Z,some .kl,some .km,some .ar,o] (h++[.lst ((jt E p).map ar)]):=by
 obtain⟨σ',m,q,o,G,B⟩:=cn (P:=λi σ m=>∃c,σ=[some x,some y,some .cT,some .kl,some .km,some .di,c]/\m=h++[.lst .lm]) (g:=some k) (λi σ m ⟨_,_,e⟩=>by rw[e];exact .I C)
  (tg:=gN 6) (h:=h++[.lst []]) (b:=gH) (by
   rintro i M σ T K ⟨c,rfl,rfl⟩;rw[wK];have r:E[i]?.map ar=some M:=by rw[<-ZQ];exact K
   obtain⟨s,w,rfl⟩:=YT.mp r;have l:=ls s (ZK w);have n:=eu t (.lst .lm);have J:E.take (i+1)=E.take i++[s]:=by rw[zZe,w];rfl
   have H:jt .lJ p=jt .d8 p++(.kY).map λk:Nat=>s++[p.1+k]:=by rw[J];unfold jt;rw[List.flatMap_append];simp
   have N:(.lm).length<=200000:=by
    rw[ZA];have:=LZ F .d8;have:(.d8).length<=E.length:=zYq _ _;omega
   obtain⟨f,a⟩:=q0 (h++[.lst .lm]:Hd);have L:.d0 ((.kY).map λk:Nat=>D.int (p.1+k)) .G [] (ag oQ .d<|cZ .ad) ((.kY).map λk:Nat=>D.int (p.1+k)) [none,some .C] f=.ok .zF f:=by
    have:=bj (g:=none) (all:=(.Ao).map λk:Nat=>D.int (p.1 + k)) (tg:=gN 0) (cs:=[]) (e:=ag oQ .d (cZ .ad)) (h:=f) (I:=λσ=>∃x,σ = [x,some .C]) .aI (λd=>match d with | .int v=>ar (s++[v])|_=>.non) trivial (xs:=(.Ao).map λk:Nat=>D.int (p.1 + k)) (σ:=[none,some .C]) (by
     rintro d O σ ⟨u,rfl⟩;obtain⟨j,S,rfl⟩:=z0.mp O;exact⟨_,rfl,⟨_,rfl⟩,rfl,λ_=>av rfl (cX .bo) (xA s _ l _)⟩) ⟨_,rfl⟩
    rw[this,wL.mpr .r,y3,y3];rfl
   refine⟨_,rfl,[some x,some y,some .Z,some .kl,some .km,some .ar,some .C],h++[.lst ((jt .lJ p).map ar)],?_,_,rfl,rfl⟩;rw[H,ZR];rw[<-a]at n⊢;have z:(.lm).length+(.zF).length<=SZ:=by
    rw[ZA]at N;rw[ZA,ZA,ZA,ZO];show _<=1000000;omega
   refine(dj<|PU rfl n (bZ (LY rfl .cE (by show (-1000000<=p.1/\p.1<=1000000)/\-1000000<=p.2+1/\p.2+1<=1000000;omega)) L) n z).trans ?_;rw[a,hV t];rfl) ⟨_,rfl,by rw[U1];rfl⟩
 have Q:0+(.bg).length=E.length:=by rw[ZA,wK]
 rw[Q,YN]at B;rw[G,B]at q;exact⟨o,q⟩
theorem F3{l:.dO}:∀k,k<=l.length->∀s∈kS .hV,s.length=k
 |0,_,s,h=>by rw[U1]at h;rw[Z5.mp h];rfl
 |k+1,a,s,h=>by
  rw[uY (ZE<|show k<l.length from a)]at h;unfold jt at h;obtain⟨t,ht,b⟩:=List.mem_flatMap.mp h;obtain⟨j,_,rfl⟩:=z0.mp b;rw[ZB,F3 k (Nat.le_of_succ_le a) t ht];rfl
def Ip{c a:.c}(w:∀p∈c.zip a,.oQ/\.oP)(hn:(.mh).length<=30)(hz:∀k,k<=(.mh).length->(kS<|(.mh).take k).length<=100000)(h:Hd):
  ∃k g,fO [ar c,ar a] h=.ok .Z .aj/\.aj[k]?=some (.lst<|(kS .mh).map ar)/\h.length<=k:=by
 obtain⟨A,r⟩:=q0 .eg;obtain⟨l,y⟩:=q0 .mh;rw[<-y]at w hn hz⊢;have I:((c.map D.int).zip (a.map D.int)).map (λp=>D.tup .gB)=l.map (λp=>D.tup .fs):=by
  rw[y,List.zip_map,y3];rfl
 obtain⟨σ',m,q,k,g,n,o,e,d,E,B,u,F⟩:=cn (P:=λi σ m=>∃(k:Nat) (g:Hd) (n o e d:.E),σ=[some (ar c),some .bf,some .cT,n,o,e,d]/\m=h++g/\m[k]?=some (.lst<|(kS<|l.take i).map ar)/\h.length<=k) (g:=none) (all:=l.map λp=>D.tup .fs) .bA
  (tg:=gT [3,4]) (b:=jb) (by
   rintro i x σ O G ⟨k,g,n,o,e,d,rfl,rfl,f,_⟩;rw[wK]at f⊢;have v:l[i]?.map (λp=>D.tup .fs)=some x:=by rw[<-ZQ];exact G
   obtain⟨p,t,rfl⟩:=YT.mp v;have z:=(zA.mp t).1;have j:∀s∈kS (l.take i),s.length<=30:=λs J=>by rw[F3 i (YB z) s J];omega
   obtain⟨M,C⟩:=PV (w p<|ZK t) (hz i<|YB z) j f rfl d;have K:.eu .a6 [some (ar c),some .bf,some .cT,some .kl,some .km,e,d] .aj=.nx .wA .ov:=aC (cR rfl .dM);have H:fE (dA .g) .a8 gH .wA .ov=.nx [some (ar c),some .bf,some .cT,some .kl,some .km,some (.ref (.aj).length),M] (h++g++[.lst .AW]):=eO (c5 rfl<|.I f) C;refine⟨_,rfl,_,_,(bF K).trans ((bF H).trans .gI),(.aj).length,g++[.lst .AW],_,_,_,_,rfl,by rw[ZU],?_,by rw[ZB];exact YR _ _⟩;rw[uY t];exact ZG) ⟨A,[.lst [.tup []]],none,none,none,none,rfl,rfl,by rw[U1];exact eu r _,wo r.symm⟩
 have N:0+(l.map λp=>D.tup .fs).length=l.length:=by rw[ZA,wK]
 rw[N,YN]at u;rw[E,B]at q;rw[B]at u;refine⟨k,g,?_,u,F⟩;exact (.n<|(bF<|aC<|k7 r .DL .ud).trans ((bF<|Ox rfl rfl<|(congrArg (λL=>i0 none _ .jM jb L _ _) I).trans q).trans .cc)).trans cI
theorem ww{h:Hd}(I:Sd->Prop)(p:D->Bool)(f:D->D)(a:G h):
  ∀{xs:List D} {σ:Sd},(∀x∈xs,∀σ,I σ->∃σ',tg x σ=some σ'/\I σ'/\j5 cs σ' h=.ok (p x) h/\.sq)->I σ->eE G tg cs e xs σ h=.ok .to h
 |[],_,_,_=>by unfold eE;rw[zE a];rfl
 |x::xs,σ,st,i=>by
  obtain⟨σ',h1,j,g,k⟩:=st x ZV σ i;have b:=ww I p f a (λy d=>st y (ZW _ d)) j;unfold eE;rw[zE a,h1];dsimp[g,aR];cases c:p x with
  |true=>rw[YJ c,z5,k c];simp[b]
  |false=>rw[YV .ox,b];simp
/---/def oF(ss:.Q):Nat:=(ss.filter λo=>o.isNone).length
def PX(ss:.Q):∀k,((((List.range' k ss.length).zip .an).map λp=>D.tup [.int (p.1:Nat),p.2]).filter λd=>match d with | .tup [_,x]=>rG x|_=>false).length=oF ss:=by
 induction ss with
 |nil=>intro k;rfl
 |cons o ss a =>
  intro k;rw[wI,List.range'_succ,z5,zXj,z5];have a:=a (k+1);unfold oF at a⊢;cases o with
  |none =>
   rw[YJ .h4,YJ .h4,wI,wI,a]
  |some v =>
   rw[YV .Bg,YV .Bg,a]
section
variable{w:Web}{n:Nat}
def Sy(W:w.Ok n)(hn:n<=30)(h:Hd):∃l g,mK .aQ h=.ok .rk (h++g++[.lst l])/\l.length=oF w.stays:=by
 obtain⟨K,s⟩:=q0 .eg;have j:(.b3).length<=SZ:=by rw[ZA,W.s];exact nJ hn
 have q:bK .aQ h=.ok .bb .eJ:=(.n<|aE<|cR .pa j).trans cI;obtain⟨l,i⟩:=q0 (((gQ .b3).filter λd=>match d with | .tup [_,x]=>rG x|_=>false).map λd=>match d with | .tup [x,_]=>x|_=>.non:List D)
 have c:.eJ[h.length]?=some .o3:=ZG;have r:eE (λo=>o[h.length]?=some .o3) .bI [.ll] .e (gQ .b3) [none,none] .eJ=.ok l .eJ:=by
  rw[i];refine ww (I:=λσ=>∃a b,σ=[a,b]) _ _ c (λx m σ ⟨a,b,e⟩=>?_) ⟨_,_,rfl⟩;subst e;obtain⟨p,t,rfl⟩:=z0.mp m;exact⟨_,rfl,⟨_,_,rfl⟩,kh .b9,λ_=>rfl⟩
 have k:pd 2 [] .eM .bI [.ll] .e .lU h=.ok l .eJ:=by
  have e:au bK .ad .lU h=.cC .eJ:=aq .bo q;unfold pd;rw[e];dsimp[c];exact r
 have f:l.length=oF w.stays:=by
  rw[i,ZA];have:=PX w.stays 0;rw[<-List.range_eq_range']at this;rw[<-this];unfold gQ;rw[ZA]
 refine⟨l,[.lst .b3],(.n (aE (cR k ?_))).trans cI,f⟩;rw[f];exact ZM .fN (by rw[W.s];exact nJ hn)
end
def Sz:D->List Int
 |.tup l=>l.map λd=>match d with | .int i=>i|_=>0
 |_=>[]
def Ki(s:.c):Sz .C=s:=by
 show (.gp).map _=s;rw[y3];exact zXp s
def BT{E:.aK}{t:TF}(p:.qk)(b:.qg)(ht:∀s∈E,t (some .C::cp) h=.ok (p s) h)(a:.E):cu .bJ .bg .G [t] .e .bg (a::cp) h=.ok ((E.filter p).map ar) h:=by
 have:=bj (g:=some k) (tg:=gN 0) (cs:=[t]) (e:=aa 0) (I:=λσ=>∃x,σ = x :: cp) (λd=>p (Sz d)) .j0 b (σ:=a :: cp) (by
  rintro x c σ ⟨u,rfl⟩;obtain⟨s,f,rfl⟩:=z0.mp c;refine⟨_,rfl,⟨_,rfl⟩,kh ?_,λ_=>rfl⟩;rw[Ki];exact ht s f) ⟨_,rfl⟩
 rw[this,zXp,zYh];have e:((λd=>p (Sz d)) ∘ ar)=p:=funext λs=>by show p (Sz .C)=p s;rw[Ki]
 rw[e]
theorem BU(ss:.Q):∀k,k<=ss.length->(.h0).length<=2^oF .hC
 |0,_=>by rw[U1];exact ZL _
 |k+1,f=>by
  have b:=f;obtain⟨o,d⟩:∃o,ss[k]?=some o:=⟨_,ZE b⟩;have a:=BU ss k (YB b);have h:ss.take (k+1)=ss.take k++[o]:=by rw[zZe,d];rfl
  rw[mY d,h];unfold oF at a⊢;rw[zXl,ZB];generalize .h0=E at a⊢;generalize ((.hC).filter λo=>o.isNone).length=m at a⊢;have e:∀(c:Nat) (E:.aK),(∀s,(PQ o s).length=c)->(jf E o).length=E.length*c:=λc E g=>by
   unfold jf
   induction E with
   |nil=>rw[List.flatMap_nil,YY,Nat.zero_mul]
   |cons s E a=>rw[zYn,ZB,a,g,wI,Nat.succ_mul,Nat.add_comm]
  cases o with
  |none =>
   rw[e 2 E (λs=>rfl)];show E.length*2<=2^(m+1);rw[Nat.pow_succ];exact zYs 2 a
  |some v =>
   rw[e 1 E (λs=>rfl),Nat.mul_one];exact a
def Iq(ss:.Q)(k:Nat):oF .hC<=oF ss:=by
 unfold oF;exact((List.take_sublist k ss).filter _).length_le
structure pM(w:Web)(n:Nat)(a:.c):Prop where
 fit:.b0 a
 rest:.aU a=a
theorem pM.hist(R:pM w n a):∀k,hist w n a k=a
 |0=>rfl
 |k+1=>by rw[Fm.hist,R.hist k];exact R.rest
def nZ(W:w.Ok n)(a:w.stays=ss)(ls:.bi)(os:.a9)(s:.c):s∈dW ss↔bI w n s:=by
 have:=tS os n (wo ls.symm) s;rw[Y9 (wo ls)]at this;rw[this];constructor
 ·intro k
  exact⟨k.len,k.op,λi x e=>k.st i x (by rw[a]at e;rw[<-ls];exact (.cN).1) (by rw[<-a];exact e)⟩
 ·intro F
  exact⟨F.len,F.op,λi x _ e=>F.st i x (by rw[a];exact e)⟩
structure G23(w:Web)(n:Nat)(lo hi:.c):Prop where
 W:w.Ok n
 hn:n<=30
 S:cG w
 M:qX w w n
 f12:oF w.stays<=12
 lo_is:∀h,fu .aQ h=.ok (ar lo) h
 hi_is:∀h,dJ .aQ h=.ok (ar hi) h
 loF:.b0 lo
 hiF:.b0 hi
 le:LeS lo hi
 mid:∀s,bI w n s->aW w n .af=s->LeS lo s/\LeS s hi
 loR:.aU lo=lo
 hiR:.aU hi=hi
section
variable{w:Web}{n:Nat}{lo hi:.c}
def G23.bd(G:.ba):Bd w.stays .c9:=by
 have j:=G.loF.len;have l:=G.hiF.len;refine⟨by rw[List.length_zip,j,l,G.W.s];exact Nat.min_self n,λp k=>?_,λi x p f h=>?_⟩
 ·obtain⟨i,e⟩:=zZs.mp k
  obtain⟨c,d⟩:=YQ.mp e;have g:=G.le i;rw[ZF,ZF,c,d]at g;exact⟨G.loF.op _ (ZK c),G.hiF.op _ (ZK d),g⟩
 ·obtain⟨c,d⟩:=YQ.mp h
  have a:=G.loF.st i x f;have b:=G.hiF.st i x f;rw[c]at a;rw[d]at b;exact Prod.ext (ZT a) (ZT b)
def G23.btw(G:.ba):kS .c9=(.b4).filter (btw .c9):=by
 have:=pL G.S G.bd w.stays.length .B;rw[YN,Y9 (wo G.bd.len)]at this;exact this
def G23.sz(G:.ba)(k:Nat)(b:k<=(.c9).length):(kS<|(.c9).take k).length<=100000:=by
 have a:k<=w.stays.length:=by rw[<-G.bd.len];exact b
 rw[pL G.S G.bd k a];refine ZM .fN (ZM (BU w.stays k a) ?_);exact ZM (zZd .a<|ZM (Iq _ _) G.f12) .a
def VD(j:lo.length=n)(l:hi.length=n)(k:s.length=n)(a:LeS lo s)(b:LeS s hi):btw .c9 s=true:=by
 unfold btw;rw[xb];intro x f;obtain⟨i,c⟩:=zZs.mp f;obtain⟨e,d⟩:=YQ.mp c;obtain⟨g,h⟩:=YQ.mp e;have q1:=a i;have q2:=b i;rw[ZF,ZF,g,d]at q1;rw[ZF,ZF,d,h]at q2;rw[ZZ];exact⟨z3 q1,z3 q2⟩
def G23.pick(G:.ba)(p:.qk)(hp:∀s,bI w n s->p s=true->LeS lo s/\LeS s hi):(kS .c9).filter p=(.b4).filter p:=by
 rw[G.btw,List.filter_filter];refine List.filter_congr λs d=>?_;have F:=(.sZ).mp d;cases c:p s with
 |false=>rfl
 |true =>
  obtain⟨a,b⟩:=hp s F c;rw[VD G.loF.len G.hiF.len F.len a b];rfl
def PY(G:.ba)(h:Hd):∃k g,eX .aQ h=.ok .Z .aj/\.aj[k]?=some (.lst .op)/\h.length<=k:=by
 obtain⟨l,a,f,d⟩:=Sy G.W G.hn h;obtain⟨k,g,e,j,i⟩:=Ip (λp b=>⟨(G.bd.bit p b).1,(G.bd.bit p b).2.1⟩) (by rw[G.bd.len,G.W.s];exact G.hn) G.sz .uj;have c:sIf .ym fz bh .lU h=.nx .lU .uj :=
  bH (aM<|av (dE<|cF .pB<|aF .gz) rfl<|yn (by rw[d];have:=G.f12;omega))
 have m:aS .y7 .lU .uj=.rt .Z (h++a++[.lst l]++g):=aE (aq (aV (.ah<|G.lo_is _)<|.ah<|G.hi_is _) e);refine⟨k,a++[.lst l]++g,?_,?_,?_⟩
 ·have:=(aU (n:=1) (ds:=.aQ) rfl rfl<|(bF c).trans m).trans cI
  rw[<-ZU,<-ZU];exact this
 ·rw[<-ZU,<-ZU];exact j
 ·rw[ZB,ZB]at i;omega
end
def L0(l:.c):jj .hM=some l:=by
 induction l with
 |nil=>rfl
 |cons x l a=>rw[z5,jj,a];rfl
def VE(a b:.c)(h:Hd):B5 .bf .cm h=.ok (.bl<|lexLt a b) h:=by
 have:ltT .bf .cm=some (lexLt a b):=by
  unfold ar ltT;dsimp[L0]
 dsimp[B5,this]
section
variable{w:Web}{n:Nat}{lo hi:.c}
/---/def isR(w:Web)(n:Nat)(s:.c):Bool:=decide (.aU s=s)
/---/def isP(w:Web)(n:Nat)(s:.c):Bool:=lexLt s .af&&decide .oS
/---/def zw(w:Web)(n:Nat)(s:.c):D:=.tup [ar s,ar .af]
def G23.mem(G:.ba)(h:s∈kS .c9):.b0 s:=by
 rw[G.btw]at h;exact (.sZ).mp (YF.mp h).1
def G23.rs(G:.ba):(kS .c9).filter .d3=(.b4).filter .d3:=G.pick _ λs F e=>G.mid s F (by have:=YD e;rw[this,this])
def G23.ps(G:.ba):(kS .c9).filter .eC=(.b4).filter .eC:=G.pick _ λs F e=>by
 unfold isP at e;rw[ZZ]at e;exact G.mid s F (YD e.2)
def G23.zB(G:.ba):(kS .c9).length<=100000:=by
 have:=G.sz (.c9).length .B;rwa[YN]at this
def L1(G:.ba){k:Nat}(b:h[k]?=some (.lst .op)):cu .bJ .op .G .AC .e .op .t5 h=.ok .pe h:=by
 rw[<-G.rs];exact BT .d3 b (λs a=>aM (av (.F<|gR G.W (G.mem a) h) rfl<|li (by rw[(G.mem a).len];simp[aW]) h)) none
def zR(G:.ba):(.pe).length<=SZ:=by
 rw[ZA,<-G.rs];exact ZM .fN (ZM G.zB .a)
def PZ(G:.ba)(h:Hd):∃g,sI .aQ h=.ok .rk (h++g++[.lst .pe]):=by
 obtain⟨k,g,b,a,_⟩:=PY G h;exact⟨g,(.n<|aE<|cR (bZ (c5 (.ah b) a)<|L1 G a)<|zR G).trans cI⟩
def SA(W:w.Ok n)(F:.V)(d:.b0 .af)(b:H[A]?=some (.lst X))(f:X.length<SZ)(c:.E):
  E8 .sl H=.nx .iH .xW:=by
 have e:.c0 (au cN .cl) .sl H=.nx .iH H:=aC (.F<|gR W F H);have a:tE .uG .iH H=.ok (lexLt s .af) H:=aM (.am<|VE _ _ H);have g:tE .sT .iH H=.ok (decide .oS) H:=aM (av (.F<|gR W d H) rfl<|li .Dd H);have t:iy (tE .uG) (tE .sT) .iH H=.ok (isP w n s) H:=by
  unfold isP;cases c:lexLt s .af with
  |true=>rw[c]at a;rw[Bool.true_and];exact gC a g
  |false=>rw[c]at a;rw[Bool.false_and];exact j8 a
 refine(bF e).trans ?_;cases c:isP w n s with
 |true =>
  rw[c]at t;rw[zE rfl];exact(dD t).trans (dj<|jx rfl b (cX .bS) b f)
 |false =>
  rw[c]at t;rw[zF .a];exact bH t
def Ir(j:.gS){E:.aK}(z:E.length<=100000)(o:∀X,(h++(.lst X::g))[k]?=some .xP)
  (y:∀s∈E,∀(X:List D) (H:Hd) (c:.E),H[A]?=some (.lst X)->X.length<SZ->B .sl H=.nx .iH .xW) :
  ∃a b,i0 .bJ .bg .fk B .bg [some w.enc,some .ar,none,none] (h++(.lst []::g))=.nx [some w.enc,some .ar,a,b] (h++(.lst ((E.filter .eC).map (zw w n))::g)):=by
 obtain⟨σ',d,q,a,b,p,m⟩:=cn (P:=λi σ d=>∃a b,σ=[some w.enc,some .di,a,b]/\d=h++(.lst .nj::g)) (g:=some k) (λi σ d ⟨_,_,_,e⟩=>by rw[e];exact o _)
  (tg:=gN 2) (h:=h++(.lst [] :: g)) (by
   rintro i x σ F t ⟨a,b,rfl,rfl⟩;rw[wK];have f:E[i]?.map ar=some x:=by rw[<-ZQ];exact t
   obtain⟨s,l,rfl⟩:=YT.mp f;have u:(h++(.lst .nj::g))[A]?=some (.lst .nj):=xm j 0;have v:(.nj).length<SZ:=by
    rw[ZA];exact ZS (ZM .fN<|ZM (zYq _ _) z) .a
   have r:E.take (i+1)=E.take i++[s]:=by rw[zZe,l];rfl
   refine⟨_,rfl,_,_,y s (ZK l) _ _ b u v,_,_,rfl,?_⟩;rw[r,zXl,ZR];cases c:isP w n s with
   |true =>
    rw[zE rfl,YJ c];exact xl j 0 _
   |false=>rw[zF .a,YV .ox,List.filter_nil,zo,YX]) ⟨_,_,rfl,by rw[U1];rfl⟩
 have C:0+(.bg).length=E.length:=by rw[ZA,wK]
 rw[C,YN]at m;rw[p,m]at q;exact⟨a,b,q⟩
def SB{c:cM}(lk:(.jh).length<=k)(a:(h++[.lst []]++g)[k]?=some c)(X:List D):(h++(.lst X::g))[k]?=some c:=by
 rw[ZD lk]at a;rw[ZB]at lk a;have lk:h.length+1<=k:=lk;rw[ZD (Nat.le_of_succ_le lk)];have:k-h.length=(k-(h.length+1))+1:=by omega
 rw[this,zZj];exact a
def P0(G:.ba)(h:Hd):∃g,sJ .aQ h=.cC (h++(.lst .oi::g)):=by
 obtain⟨A,e⟩:=q0 .eg;obtain⟨k,g,i,d,p⟩:=PY G .ae;obtain⟨a,b,f⟩:=Ir e G.zB (λX=>SB p d X) λs j X H c m l=>SA G.W (G.mem j) (.ix<|G.mem j) m l c;rw[G.ps]at f;have o:h++[.lst []]++g=h++(.lst []::g):=by rw[ZU];rfl
 rw[o]at i d;refine⟨g,?_⟩;rw[<-e];exact (.n<|(bF<|aC<|k7 e rfl .dM).trans ((bF<|eO (c5 .pA d) f).trans .cc)).trans cI
end
def VF(W:w.Ok n)(hn:n<=30)(S:cG w)(M:.eW)(f12:oF w.stays<=12):∃lo hi,G23 w n lo hi:=by
 obtain⟨f,l,b⟩:=E3 W S M;obtain⟨d,j,c⟩:=E4 W S M;have g:=ux W S;have e:=uy W S;have a:∀s,aW w n .af=s->∀k,hist w n s (2*k)=s:=λs h k=>by
  induction k with
  |zero=>rfl
  |succ k i =>
   show aW w n (.aU<|.dp s<|2*k)=s;rw[i,h]
 refine⟨.t .fD f,.t .gs d,W,hn,S,M,f12,λh=>zY W S .b b h,λh=>zZ W S .b c h,bm W S g f,bm W S e d,?_,λs F h=>⟨?_,?_⟩,b,c⟩
 ·have:=.iu g e (yw e) (f+d)
  rwa[ie b _ (YR _ _),ie c _ (Nat.le_add_left _ _)]at this
 ·have:=.iu g F (yw F) (2*f)
  rwa[ie b _ .b,a s h]at this
 ·have:=.iu F e (E2 W F) (2*d)
  rwa[ie c _ .b,a s h]at this
def P3(F:E.length<=256)(ls:∀s∈E,s.length<=30)(u:.qg)(l:.gS)(c:.E):
  ∃m,i0 .bJ .bg .gk lA .bg [some d,some .Z,some .eQ,some .ar,c] .ae=.nx [some d,some .Z,some .eQ,some .ar,m] (h++[.lst ((jf E o).map ar)]):=by
 obtain⟨σ',j,q,m,w,r⟩:=cn (P:=λi σ j=>∃c,σ=[some d,some .cT,some .eQ,some .di,c]/\j=h++[.lst .tv]) (g:=some k) (λi σ j ⟨_,_,e⟩=>by rw[e];exact .I u)
  (tg:=gN 4) (h:=h++[.lst []]) (b:=lA) (by
   rintro i x σ G B ⟨c,rfl,rfl⟩;rw[wK];have n:E[i]?.map ar=some x:=by rw[<-ZQ];exact B
   obtain⟨s,p,rfl⟩:=YT.mp n;have a:=ls s (ZK p);have f:=eu l (.lst .tv);have z:E.take (i+1)=E.take i++[s]:=by rw[zZe,p];rfl
   have y:jf .lJ o=jf .d8 o++PQ o s:=by rw[z];unfold jf;rw[List.flatMap_append];simp
   have t:(.tv).length<=512:=by
    rw[ZA];have:=FY .d8 o;have:(.d8).length<=E.length:=zYq _ _;omega
   refine⟨_,rfl,[some d,some .Z,some .eQ,some .ar,some .C],h++[.lst ((jf .lJ o).map ar)],?_,_,rfl,rfl⟩;rw[y,ZR];cases o with
   |none =>
    refine(dD .b9).trans ((dj<|PU rfl f (aV (av rfl (cX .bo)<|xA s 0 a _)<|av rfl (cX .bo)<|xA s 1 a _) f<|ZM (zYr t 2) .a).trans ?_);rw[hV l];rfl
   |some v =>
    refine (.jU).trans ((dj<|jx rfl f (av rfl (cX .bo)<|xA s v a _) f<|ZS t .a).trans ?_);rw[hV l];rfl) ⟨_,rfl,by rw[U1];rfl⟩
 have C:0+(.bg).length=E.length:=by rw[ZA,wK]
 rw[C,YN]at r;rw[w,r]at q;exact⟨m,q⟩
def uZ(m:.e7 j h)(Q:n<=8)(r:d=.tup [.ref (Z+n),.ref bk,.ref j]):
  ∃k g,ge [d] h=.ok .Z .aj/\.aj[k]?=some (.lst<|(dW ss).map ar)/\h.length<=k:=by
 obtain⟨A,w⟩:=q0 .eg;obtain⟨σ',f,q,k,g,a,b,c,K,z,u,L⟩:=cn (P:=λi σ f=>∃(k:Nat) (g:Hd) (a b c:.E),σ=[some d,some .cT,a,b,c]/\f=h++g/\f[k]?=some (.lst<|(dW .lL).map ar)/\h.length<=k) (g:=some j) (λi σ f ⟨_,_,_,_,_,_,e,_,_⟩=>by rw[e];exact .I m.st)
  (tg:=gN 2) (b:=vY) (by
   rintro i x σ T E ⟨k,g,a,b,c,rfl,rfl,v,_⟩;rw[wK]at v⊢;have p:ss[i]?.map bw=some x:=by rw[<-ZQ];exact E
   obtain⟨o,B,rfl⟩:=YT.mp p;have y:=(zA.mp B).1;have t:i<=7:=by have:=m.ls;omega
   have G:(dW .lL).length<=256:=by
    have S:=xz ss i (YB y);have R:2^i<=2^7:=zZd .a t;omega
   have l:∀s∈dW .lL,s.length<=30:=λs F=>by rw[((tS m.os i (YB y) s).mp F).len];omega
   obtain⟨O,C⟩:=P3 G l v rfl c;have H:.c0 .a6 [some d,some .cT,some .eQ,b,c] .aj=.nx .xH .ov:=aC (cR rfl .dM);have N:fE (dA .d) .gk lA .xH .ov=.nx [some d,some .cT,some .eQ,some (.ref (.aj).length),O] (h++g++[.lst .Cy]):=eO (c5 rfl<|.I v) C;refine⟨_,rfl,_,_,(bF H).trans ((bF N).trans .gI),(.aj).length,g++[.lst .Cy],_,_,_,rfl,by rw[ZU],?_,by rw[ZB];exact YR _ _⟩;rw[mY B];exact ZG) ⟨A,[.lst [.tup []]],none,none,none,rfl,rfl,by rw[U1];exact eu w _,wo w.symm⟩
 have J:0+(.an).length=ss.length:=by rw[ZA,wK]
 rw[J,YN]at u;rw[K,z]at q;rw[z]at u;refine⟨k,g,?_,u,L⟩;have I:.fb .J [some d,some .ar,none,none,none] (h++[.lst [.tup []]])=.ok (.ref j) (h++[.lst [.tup []]]):=by rw[r];exact aL rfl rfl rfl rfl
 exact (.n<|(bF<|aC<|k7 w .DL .ud).trans ((bF<|eO (c5 I<|.I m.st) q).trans .cc)).trans cI
section
variable{w:Web}{n:Nat}{lo hi:.c}{h:Hd}
def SD:isR w n s=true↔aW w n s=s:=decide_eq_true_iff
def rq{T b j}(l:.EI)(W:w.Ok n)(S:cG w)(e:n<=8):∃g,gu [b] h=.ok .rk (h++g++[.lst (((dW ss).filter .d3).map ar)]):=by
 obtain⟨k,g,q1,q2,_⟩:=uZ l.m e l.t';have f:w.stays=ss:=by rw[l.w'];rfl
 have mem:=λs a=>(nZ W f l.m.ls l.m.os s).mp a;have c:=BT (cp:=[some b]) (t:=tE .Cs) .d3 q2 (λs a=>aM (av (.F<|(l.more g).turn (mem s a)) rfl<|li (by rw[(mem s a).len];simp[aW]) _)) none;refine⟨g,(.n (aE (cR (bZ (c5 (.ah q1) q2) c) ?_))).trans cI⟩;rw[ZA];refine ZM .fN ?_;have d:=xz ss ss.length .B;rw[YN]at d;have i:2^ss.length<=2^8:=zZd .a (by rw[l.m.ls];exact e);exact ZM (ZM d i) .a
def P4{l:.aK}(P:l.Pairwise λa b=>¬LeS b a)(c:a∈l)(H:∀x∈l,LeS a x):l[0]?=some a:=by
 cases l with
 |nil=>cases c
 |cons x l =>
  rcases y6.mp c with rfl|d
  ·rfl
  ·exact absurd (H x .ep) ((YC.mp P).1 a d)
theorem Kj:∀{l:.aK},(l.Pairwise λa b=>¬LeS b a)->a∈l->(∀x∈l,LeS x a)->l[l.length-1]?=some a
 |[],_,c,_=>nomatch c
 |[x],_,c,_=>by rw[Z5.mp c];rfl
 |x::y::l,P,c,H=>by
  obtain⟨p1,e⟩:=YC.mp P;have m:a∈y::l:=by
   rcases y6.mp c with rfl|g
   ·exact absurd (H y<|.tail _ .ep) (p1 y .ep)
   ·exact g
  have f:=Kj e m λz d=>H z (.tail _ d);exact f
def zx(W:w.Ok n)(S:cG w):(.ew).Pairwise λa b=>¬LeS b a:=by
 have:=zu S w.stays.length .B;rw[YN]at this;exact this.filter _
def kn(W:w.Ok n)(S:cG w):s∈(.b4).filter .d3↔bI w n s/\.aU s=s:=by
 rw[YF,SD,nZ W rfl W.s S]
def G23.first(G:.ba):.ew[0]?=some lo :=
 P4 (zx G.W G.S) ((.o8).mpr ⟨G.loF,G.loR⟩) λx a=>by
  obtain⟨F,e⟩:=(.o8).mp a;exact (.CY).1
def G23.last(G:.ba):.ew[(.ew).length-1]?=some hi :=
 Kj (zx G.W G.S) ((.o8).mpr ⟨G.hiF,G.hiR⟩) λx a=>by
  obtain⟨F,e⟩:=(.o8).mp a;exact (.CY).2
def G23.ne(G:.ba):1<=(.ew).length:=by
 have:=(zA.mp G.first).1;omega
def Go.g23(G:Go w n)(a:n<=6):∃lo hi,G23 w n lo hi:=VF G.W G.n30 G.S G.more (by
 have:=YG (λo:Option Int=>o.isNone) w.stays;unfold oF;rw[G.W.s]at this;omega)
end
/---/def leB(a b:.c):Bool:=(.gC).all λp=>decide (p.1<=p.2)
def Kk{a b:.c}(g:.eV)(lb:.eU):leB a b=true ↔ ∀i,i<n->a.getD i 0<=b.getD i 0:=by
 unfold leB;rw[xb];constructor
 ·intro q i e
  have c:i<a.length:=by omega
  have d:i<b.length:=by omega
  have:=q (a[i],b[i]) (zZs.mpr ⟨i,by rw[YQ];exact⟨ZE c,ZE d⟩⟩);rw[ZF,ZF,ZE c,ZE d];exact YD this
 ·intro q x f
  obtain⟨i,e⟩:=zZs.mp f;obtain⟨c,d⟩:=YQ.mp e;have:=q i (by rw[<-g];exact (.gE).1);rw[ZF,ZF,c,d]at this;exact z3 this
def P5{a b:.c}(d:.eV)(lb:.eU):leB a b=true↔LeS a b:=by
 rw[Kk d lb];constructor
 ·intro q i
  by_cases c:i<n
  ·exact q i c
  ·rw[ZF,wM .b,ZF,wM .b];exact wb _
 ·intro q i _;exact q i
def SE{l:List D}(hd:oK l<=20):eqL l []=some l.isEmpty:=by
 unfold eqL;rw[zE hd];cases l with
 |nil=>rfl
 |cons x l=>exact zF (Nat.succ_ne_zero _)
theorem F4:∀(l:.c),oK .hM<=20
 |[]=>YH _
 |x::l=>by
  rw[z5,oK];exact Nat.max_le.mpr ⟨YH _,F4 l⟩
def SG{a c:Nat}{l k:List D}{b:Bool}(h1:h[a]?=some .d7)(d:h[c]?=some (.lst k))(e:eqL l k=some b):oEq .de (.ref c) h=.ok .eP h:=by
 dsimp[oEq,eqG,jM,h1,d,e]
def mZ(hn:n<=30){a b:.c}(p:.eV)(lb:.eU)(h:Hd):ig [ar a,ar b] h=.ok (.bl<|leB a b) h:=by
 obtain⟨A,l⟩:=q0 .eg;have r:(a.map D.int).length=n:=by rw[ZA,p]
 obtain⟨q,m⟩:=q0 (λi=>decide (b.getD i 0<a.getD i 0):Nat->Bool);obtain⟨xs,f⟩:=q0 (((.s).filter q).map λk:Nat=>D.int k:List D);have v:.mM .rr .e ((.s).map λk:Nat=>D.int k) .BX h=.ok xs h:=by
  have:=bj (g:=none) (all:=(.s).map λk:Nat=>D.int k) (tg:=gN 0) (cs:=.rr) (e:=aa 0) (h:=h) (I:=λσ=>∃x,σ = [x,some .bf,some .cm]) (λd=>match d with | .int i=>q i.toNat|_=>false) .j0 trivial (xs:=(.s).map λk:Nat=>D.int k) (σ:=.BX) (by
   rintro x w σ ⟨u,rfl⟩;obtain⟨i,j,rfl⟩:=z0.mp w;have j:=YK.mp j;refine⟨_,rfl,⟨_,rfl⟩,kh ?_,λ_=>rfl⟩;rw[m];exact aM (av (.aG rfl<|i7 (by rw[p];exact j)) (.aG rfl<|i7 (by rw[lb];exact j)) rfl)) ⟨_,rfl⟩
  rw[this,zXp,zYh,f];rfl
 have B:oK xs<=20:=by
  have:=F4 (((.s).filter q).map λk:Nat=>(k:Int));rw[y3]at this;rw[f];exact this
 have C:xs.length<=SZ:=by
  rw[f,ZA];exact ZM .fN (by rw[ZO];exact nJ hn)
 have o:xs.isEmpty=leB a b:=by
  apply Bool.eq_iff_iff.mpr;rw[Kk p lb,List.isEmpty_iff,f,List.map_eq_nil_iff,List.filter_eq_nil_iff];constructor
  ·intro z i j
   have:=z i (YK.mpr j);rw[m]at this;exact Int.not_lt.mp λc=>this (z3 c)
  ·intro z i j c
   rw[m]at c;exact absurd (z i<|YK.mp j) (Int.not_le.mpr<|YD c)
 have t:bR .z5 [some .bf,some .cm] h=.ok .ar .uP:=k7 l (bZ (eM .ow (by rw[r];exact nJ hn)) (by rw[r];exact v)) C;have y:bR am [some .bf,some .cm] .uP=.ok (.ref<|A+1) (h++[.lst xs,.lst []]):=Ry (g:=[.lst xs]) (xs:=[]) l rfl .dM;have s:=SG (h:=h++[.lst xs,.lst []]) (a:=A) (c:=A+1) (xm l 0) (xm l 1) (SE B);rw[o]at s;exact (.n<|aE<|av t y s).trans .fL
section
variable{w:Web}{n:Nat}{a b:.c}
/---/def Le(v:Bool)(a b:.c):Prop:=if v then LeS b a else LeS a b
/---/def lb(v:Bool)(a b:.c):Bool:=if v then leB b a else leB a b
def BV(d:.eV)(c:.eU):lb v a b=true↔Le v a b:=by
 cases v
 ·exact P5 d c
 ·exact P5 c d
def Le.eq(l:.j6)(p:Le v a b)(q:Le v b a):a=b:=by
 cases v
 ·exact LeS.eq l p q
 ·exact LeS.eq l q p
structure Bnd(w:Web)(n:Nat)(v:Bool)(a b U:.c):Prop where
 r:pM w n U
 ab:Le v a U/\Le v b U
 le:∀c,pM w n c->Le v a c->Le v b c->Le v U c
/---/def Xe(v:Bool):Fn:=if v then E1 else pD
def VG(W:w.Ok n)(hn:n<=30)(S:cG w)(M:.eW)(A:pM w n a)(B:pM w n b)(v:Bool):∃U,Bnd w n v a b U/\∀h,Xe v .fy h=.ok (ar U) h:=by
 cases v with
 |false =>
  obtain⟨t,i,e⟩:=Lk W S M A.fit B.fit A.rest B.rest;have Fm:=yD W A.fit B.fit;have l:=Oz A.fit B.fit;have d:∀c,pM w n c->LeS c .cb->∀k,LeS c (.dp .cb k):=λc C g k=>by
   have:=.iu C.fit Fm g k;rwa[C.hist]at this
  refine⟨.t .cb t,⟨⟨bm W S Fm t,e⟩,⟨d a A l.1 t,d b B l.2 t⟩,λc C f j=>?_⟩,λh=>Lm W S A.fit B.fit A.rest B.rest (ZM i<|ZM hn .a) e h⟩;have:=.iu Fm C.fit (JO A.fit B.fit f j) t;rwa[C.hist]at this
 |true =>
  obtain⟨t,i,e⟩:=Ll W S M A.fit B.fit A.rest B.rest;have Fm:=yE W A.fit B.fit;have l:=OA A.fit B.fit;have d:∀c,pM w n c->LeS .ca c->∀k,LeS (.dp .ca k) c:=λc C g k=>by
   have:=.iu Fm C.fit g k;rwa[C.hist]at this
  refine⟨.t .ca t,⟨⟨bm W S Fm t,e⟩,⟨d a A l.1 t,d b B l.2 t⟩,λc C f j=>?_⟩,λh=>Va W S A.fit B.fit A.rest B.rest (ZM i<|ZM hn .a) e h⟩;have:=.iu C.fit Fm (JP A.fit B.fit f j) t;rwa[C.hist]at this
def Av:Option .aW->D
 |none=>.non
 |some s=>ar s
def fst(v:Bool)(s:.c):Option .aW->Bool
 |none=>true
 |some u=>lb v s u
/---/def nxt(v:Bool)(a b s:.c)(f:Option .aW):Option .aW:=if lb v a s&&lb v b s&&fst v s f then some s else f
/---/def P6(w:Web)(n:Nat)(v:Bool)(a b U:.c)(E:.aK)(f:Option .aW):Prop:=(U∈E->f=some U)/\(U∉E->∀u,f=some u->pM w n u/\Le v a u/\Le v b u)
def L3(J:Bnd w n v a b U)(A:pM w n a)(B:pM w n b)(R:pM w n s)(I:P6 w n v a b U E f):P6 w n v a b U (E++[s]) (nxt v a b s f):=by
 have m:=A.fit.len;have h:=B.fit.len;have g:=R.fit.len;have k:=J.r.fit.len;obtain⟨j,o⟩:=I;have d:∀u,f=some u->pM w n u/\Le v a u/\Le v b u:=λu e=>by
  by_cases c:U∈E
  ·rw[j c]at e
   cases e;exact⟨J.r,J.ab⟩
  ·exact o c u e
 by_cases c:Le v a s/\Le v b s
 ·have C:=(BV m g).mpr c.1
  have t:=(BV h g).mpr c.2
  by_cases e:s=U
  ·have r:nxt v a b s f=some U:=by
    unfold nxt;rw[C,t,e];cases f with
    |none=>rfl
    |some u =>
     obtain⟨l,p,x⟩:=d u rfl;have:=(BV k l.fit.len).mpr (J.le u l p x);dsimp[fst,this];rfl
   exact⟨λ_=>r,λz=>absurd (YO _ (by rw[e];exact .head _)) z⟩
  ·have mem:U∈E++[s]↔U∈E:=by
    rw[Z3,Z5];exact⟨λz=>z.resolve_right λq=>e q.symm,.inl⟩
   unfold P6;rw[mem];refine⟨λz=>?_,λz u i=>?_⟩
   ·have:=j z
    subst this;unfold nxt;have y:lb v s U=false:=by
     cases q:lb v s U with
     |false=>rfl
     |true=>exact absurd (Le.eq (by rw[g,k]) ((BV g k).mp q)<|J.le s R c.1 c.2) e
    simp[fst,y]
   ·unfold nxt at i
    split at i
    ·cases i
     exact⟨R,c⟩
    ·exact d u i
 ·have r:nxt v a b s f=f:=by
   unfold nxt;have:(lb v a s&&lb v b s)=false:=by
    cases q:(lb v a s&&lb v b s) with
    |false=>rfl
    |true =>
     rw[ZZ]at q;exact absurd ⟨(BV m g).mp q.1,(BV h g).mp q.2⟩ c
   rw[this];rfl
  have e:s≠U:=λq=>c (by rw[q];exact J.ab);have mem:U∈E++[s]↔U∈E:=by
   rw[Z3,Z5];exact⟨λz=>z.resolve_right λq=>e q.symm,.inl⟩
  unfold P6;rw[r,mem];exact⟨j,o⟩
abbrev XB(td:D)(a b:.c)(v:Bool)(k:Nat)(f x y:.E):Sd:=[some td,some .bf,some .cm,some (.int<|b2i v),some .Z,f,x,y]
def Iu(n30:n<=30)(C:.eV)(l:.eU)(ls:s.length=n)(I:∀u,f=some u->u.length=n)(g:Hd)(y:.E):
  ∃g' J,yI .sn g=.nx (XB e a b v k (some<|Av<|nxt v a b s f) .hA J) (g++g'):=by
 obtain⟨P,p⟩:=q0 (if v then .kZ else .ey:List D)
 obtain⟨L,m,E,d⟩:∃L m,(∀o,∀r:SF,r .yZ (g++m)=o->(ax (.fc .rj)<|ax .Bq r) .sn g=o)/\(g++m)[L]?=some (.lst P):=by
  have A:.fc .rj .sn g=.nx (XB e a b v k .jb .hA<|some .fj) (g++[.lst .ey]):=aC .x7;cases v with
  |false =>
   refine⟨g.length,[.lst .ey],λo r q=>?_,?_⟩
   ·exact sx A (sx ((.jU).trans rfl) q)
   ·rw[p];exact ZG
  |true =>
   refine⟨(g++[cM.lst .ey]).length,[.lst .ey,.lst .kZ],λo r q=>?_,?_⟩
   ·have B:=(show aD .lK .wo (XB e a b true k .jb .hA<|some .fj) (g++[.lst .ey])=.nx (XB e a b true k .jb .hA<|some<|.ref (g++[cM.lst .ey]).length) (g++[.lst .ey]++[.lst .kZ]) from aC .x7)
    rw[ZU]at B;exact sx A (sx ((dD .b9).trans B) q)
   ·rw[p]
    have:g++[cM.lst .ey,.lst .kZ]=g++[cM.lst .ey]++[.lst .kZ]:=by simp
    rw[this];exact ZG
 obtain⟨H,G⟩:=q0 (g++m);rw[<-G]at E d;obtain⟨σ,c⟩:=q0 .yZ;have h:(.w5) σ H=.ok (lb v a s) H:=by
  rw[c];cases v<;>rw[p]at d
  ·exact aM (aq .oT<|mZ n30 C ls H)
  ·exact aM (aq .oT<|mZ n30 ls C H)
 have j:(.w6) σ H=.ok (lb v b s) H:=by
  rw[c];cases v<;>rw[p]at d
  ·exact aM (aq .oT<|mZ n30 l ls H)
  ·exact aM (aq .oT<|mZ n30 ls l H)
 have i:(.wp) σ H=.ok (fst v s f) H:=by
  rw[c];cases f with
  |none=>exact uo .b9
  |some u =>
   have x:=I u rfl;refine iQ .b9 ?_;cases v
   ·exact aM (aq (aV .oE .oE)<|mZ n30 ls x H)
   ·exact aM (aq (aV .oE .oE)<|mZ n30 x ls H)
 refine⟨m,some (.ref L),?_⟩;refine E _ _ ?_;rw[<-G,<-c];unfold nxt;cases t:lb v a s with
 |false =>
  rw[t]at h;rw[c]at h⊢;exact(bH<|j8 h).trans rfl
 |true =>
  rw[t]at h;cases z:lb v b s with
  |false =>
   rw[z]at j;rw[c]at h j⊢;exact(bH<|gC h j).trans rfl
  |true =>
   rw[z]at j;refine(dD<|gC h j).trans ?_;cases F:fst v s f with
   |false =>
    rw[F]at i;rw[c]at i⊢;exact(bH i).trans rfl
   |true =>
    rw[F]at i;rw[c]at i⊢;exact(dD i).trans .gI
def Iv{T p}(G:Go w n)(n6:n<=6)(l:.bd sk T w p h)(A:pM w n a)(B:pM w n b)(v:Bool)(J:Bnd w n v a b U):∃g,qe [p,ar a,ar b,.int (b2i v)] h=.ok (ar U) h/\g=h:=by
 obtain⟨g,q⟩:=rq l G.W G.S .b;have ws:w.stays=ss:=by rw[l.w'];rfl
 obtain⟨E,H⟩:=q0 ((dW ss).filter .d3);have O:∀s,s∈E↔pM w n s:=λs=>by
  rw[H,<-ws,kn G.W G.S];exact⟨λ⟨x,y⟩=>⟨x,y⟩,λ⟨x,y⟩=>⟨x,y⟩⟩
 rw[<-H]at q;obtain⟨K,r⟩:=q0 ((.aj).length);obtain⟨j,d⟩:=q0 (h++g++[.lst .bg]);rw[<-r,<-d]at q;have N:j[K]?=some (.lst .bg):=by rw[d,r];exact ZG
 obtain⟨σ',m,C,f,x,y,k,L,k3,t⟩:=cn (P:=λi σ m=>∃(f:Option .aW) (x y:.E) (k:Hd),σ=XB p a b v K .jb x y/\m=j++k/\P6 w n v a b U .d8 f) (g:=some K) (λi σ m ⟨_,_,_,_,_,e,_⟩=>by rw[e];exact .I N)
  (tg:=gN 6) (by
   rintro i Y σ h0 V ⟨f,x,y,k,rfl,rfl,I⟩;rw[wK]at I⊢;have o:E[i]?.map ar=some Y:=by rw[<-ZQ];exact V
   obtain⟨s,F,rfl⟩:=YT.mp o;have R:=(O s).mp (ZK F);have W:∀u,f=some u->u.length=n:=λu e=>by
    by_cases c:U∈E.take i
    ·rw[I.1 c]at e
     cases e;exact J.r.fit.len
    ·exact(I.2 c u e).1.fit.len
   obtain⟨X,y',Q⟩:=Iu G.n30 A.fit.len B.fit.len R.fit.len W (j++k) y;have S:E.take (i+1)=E.take i++[s]:=by rw[zZe,F];rfl
   refine⟨_,rfl,_,_,Q,_,_,_,k++X,rfl,by rw[ZU],?_⟩;rw[S];exact L3 J A B R I) ⟨none,none,none,[],rfl,by rw[YX],by rw[U1];exact⟨λz=>(nomatch z),λ_ u z=>(nomatch z)⟩⟩
 have l0:0+(.bg).length=E.length:=by rw[ZA,wK]
 rw[l0,YN]at t;have fU:=t.1 ((O U).mpr J.r);rw[fU]at L;rw[L,k3]at C;refine⟨h,?_,rfl⟩;refine (.n<|sx (aC .pz)<|sx .gI<|sx (eO (c5 rfl N) C) .cc).trans ?_;rw[d,ZU,ZU];exact bP (zk U)
end
section
variable{w:Web}{n:Nat}{lo hi:.c}{h:Hd}{dk:Nat}
/---/def isQ(w:Web)(n:Nat)(s:.c):Bool:=.th&&decide .oS
def G23.nd(G:.ba):(.b4).Nodup:=by
 have:=zu G.S w.stays.length .B;rw[YN]at this;exact this.imp λ{a b} h e=>h (by rw[e];exact LeS.refl _)
def VH{l:List α}(h:l.Nodup)(inj:∀a∈l,∀b∈l,f a=f b->a=b):(.mg).Nodup:=by
 rw[Y6,Y4];exact(Y6.mp h).imp_of_mem λ{a b} c d ne e=>ne (inj a c b d e)
def G23.two(G:.ba):((.b4).filter .jI).length=2*(.kO).length:=by
 have A:=λs=>nZ G.W rfl G.W.s G.S s;have Q:∀s,s∈(.b4).filter .jI↔bI w n s/\aW w n s≠s/\aW w n .af=s:=λs=>by
  rw[YF,A];unfold isQ;rw[ZZ,decide_eq_true_iff,Bool.not_eq_true',decide_eq_false_iff_not]
 have S:∀s,s∈(.b4).filter .eC↔bI w n s/\lexLt s .af=true/\.aU .af=s:=λs=>by
  rw[YF,A];unfold isP;rw[ZZ,decide_eq_true_iff]
 have f:((.b4).filter .jI).Nodup:=G.nd.sublist List.filter_sublist;have d:(.kO).Nodup:=G.nd.sublist List.filter_sublist;generalize (.b4).filter .jI=LQ at Q f;generalize (.b4).filter .eC=LS at S d;have ne:∀s,lexLt s .af=true->aW w n s≠s:=λs e q=>by rw[q,nr]at e;cases e
 have p:LQ.Perm (LS++LS.map (aW w n)):=by
  refine(List.perm_ext_iff_of_nodup f ?_).mpr λs=>?_
  ·rw[zYl]
   refine⟨d,VH d λa i b g e=>?_,λx l y m e=>?_⟩
   ·rw[<-((S a).mp i).2.2,<-((S b).mp g).2.2,e]
   ·obtain⟨b,g,rfl⟩:=z0.mp m
    have j:=((S x).mp l).2.1;have o:=((S b).mp g).2.1;rw[e,((S b).mp g).2.2,oO o]at j;cases j
  ·rw[Q,Z3,S,z0]
   constructor
   ·rintro⟨F,c,e⟩
    cases k:lexLt s .af with
    |true=>exact .inl ⟨F,rfl,e⟩
    |false=>exact .inr ⟨.aU s,(S _).mpr ⟨.ix F,by rw[e];exact pU (wh c) k,by rw[e]⟩,e⟩
   ·rintro (⟨F,c,e⟩|⟨a,i,rfl⟩)
    ·exact⟨F,ne s c,e⟩
    ·obtain⟨F,c,e⟩:=(S a).mp i
     exact⟨.ix F,by rw[e];exact λq=>ne a c q.symm,by rw[e]⟩
 rw[p.length_eq,ZB,ZA];omega
def Dp(c:n<=6)(ls:.bi)(p:.qk):((dW ss).filter p).length<=64:=by
 have a:=xz ss ss.length .B;rw[YN]at a;have b:2^ss.length<=2^6:=zZd .a (by rw[ls];exact c);exact ZM .fN (ZM a b)
def k60{k:Nat}(h:k<=64):((k:Int)).natAbs<10^60:=ZS (show (k:Int).natAbs<=64 by omega) .a
def L4(G:.ba)(hd:.bK):bp [.ref dk,.str Ss] h=.ok (.str<|sg lo) h :=
 xy hd .a .a .a .a .a .a .a λg =>
  (.n<|sx (sk2 .a)<|dS<|(.eE).trans (aE<|aq (.bO<|.ah<|G.lo_is g)<|qi G.loF.op (by rw[G.loF.len];exact G.hn) g)).trans aJ
def L5(G:.ba)(hd:.bK):bp [.ref dk,.str Su] h=.ok (.str<|sg hi) h :=
 xy hd .a .a .a .a .a .a .a λg =>
  (.n<|sx (sk2 .a)<|sx (sk2 .a)<|dS<|(.eE).trans (aE<|aq (.bO<|.ah<|G.hi_is g)<|qi G.hiF.op (by rw[G.hiF.len];exact G.hn) g)).trans aJ
def L6(G:.ba)(c:n<=6)(hd:.bK):bp [.ref dk,.str Xc] h=.ok (.str<|tx (((.ew).length:Nat):Int)) h :=
 xy hd .a .a .a .a .a .a .a λg=>by
  obtain⟨a,q⟩:=PZ G g;have b:=k60 (Dp c G.W.s .d3);have f:cC (lOf<|au sI .ad) [some w.enc,some (.str Xc)] g=.ok (.int (((.ew).length:Nat):Int)) (g++a++[.lst .pe]):=(dE<|cF .pz<|aF ZG).trans .l4;exact (.n .wW).trans (by rw[ZU];exact bP rfl)
def L7(G:.ba)(d:n<=6)(hd:.bK):bp [.ref dk,.str VB] h=.ok (.str<|tx (((.kO).length:Nat):Int)) h :=
 xy hd .a .a .a .a .a .a .a λg=>by
  obtain⟨c,q⟩:=P0 G g;have b:=k60 (Dp d G.W.s .eC);have a:(g++(cM.lst .oi::c))[g.length]?=some (.lst .oi):=xm rfl 0;have f:cC (lOf<|au sJ .ad) [some w.enc,some (.str VB)] g=.ok (.int (((.kO).length:Nat):Int)) (g++(.lst .oi::c)):=(dE<|cF .pz<|aF a).trans .l4;exact (.n<|sx (sk2 .a) .wW).trans .fL
/---/def Row(dk:Nat)(h:Hd)(o:Res D):Prop:=∃row due,o=.ok (.tup [.str row,.str due]) h/\bp .tI h=.ok (.str due) h
abbrev XA(td:D)(c:Int)(k:Nat)(x4 x5 x6:.E):Sd:=[some td,some .aD,some (.int<|c%5),some .Z,x4,x5,x6]
def iL{b a:.m}(e:F=.a1 (.ok (.tup [.str b,.str a]) .aj))(q:bp [.ref dk,.str b] h=.ok .dd h):Row dk h F:=⟨b,a,e.trans .fL,q⟩
def Xf(x:Int):x%5=0\/x%5=1\/x%5=2\/x%5=3\/x%5=4:=by omega
def SH{E:.aK}(p:.qk)(a:E[i]?=some s):((((.d8).filter p).length:Nat):Int)+b2i (p s)=((((.lJ).filter p).length:Nat):Int):=by
 rw[zZe,a];simp;cases c:p s with
 |true=>rw[YJ c];simp[b2i]
 |false=>rw[YV .ox];simp[b2i]
def P7{T j}(G:Go w n)(L:n<=6)(l:.bd sk T w j h)(bb:.ej)(hd:.bK)(c:Int):Row dk h (iX .jJ h):=by
 obtain⟨lo,hi,m⟩:=G.g23 L;have ws:w.stays=ss:=by rw[l.w'];rfl
 obtain⟨g,q⟩:=rq l G.W G.S .b;have fi:=m.first;have la:=m.last;have ne:=m.ne;have sR:=L6 m L hd;have lR:=Dp L G.W.s .d3;rw[<-ws]at q;obtain⟨E,hE⟩:=q0 .ew;rw[<-hE]at q fi la ne sR lR;obtain⟨K,hK⟩:=q0 ((.aj).length);obtain⟨a,k⟩:=q0 (h++(g++[.lst .bg]));rw[ZU,<-hK,<-k]at q;have gK:a[K]?=some (.lst .bg):=by rw[k,hK,<-ZU];exact ZG
 have l1:.bd sk T w j a:=by rw[k];exact l.more _
 have W:.bQ .lB [some j,some .aD,none,none,none,none,none] h=.nx .x4 h:=aC .c3;have H:.c0 .l5 .x4 h=.nx .d6 a:=aC .pz;have o:(.n1) .d6 a=.ok (decide (c%5=0)) a:=aM .lD;have O:(.D1) .d6 a=.ok (decide (c%5=3)) a:=aM .lD;have a0:atI .bg 0=some (ar lo):=dN (by rw[ZQ,fi];rfl);have V:atI .bg (-1)=some (ar hi):=(xr .a (by rw[ZA];exact ne)).trans (by rw[ZA,ZQ,la];rfl);have I:∀d,atI [ar lo,ar hi] (c%5-1)=some d->fIx .w1 .of .d6 a=.ak a:=λd hd=>iq (aV (.aG (aF gK) a0)<|.aG (aF gK) V) .cE hd;have wd:∀d,atI [D.str Ss,.str Su] (c%5-1)=some d->fIx (ad (fC<|.str Ss)<|ad (fC<|.str Su) am) .of .d6 a=.ak a:=λd hd=>iq .bS .cE hd;have ps:∀s:List Int,atI [ar lo,ar hi] (c%5-1)=some .C->bI w n s->au bJ .Dh .d6 a=.ok .js a:=λs q F=>aq (.bO<|I _ q) (tM F.op (by rw[F.len];exact G.n30) _);have r:∀{p:.m} {s:.c},c%5≠0->c%5<3->atI [D.str Ss,.str Su] (c%5-1)=some (.str p)->atI [ar lo,ar hi] (c%5-1)=some .C->bI w n s->bp [.ref dk,.str p] h=.ok .js h->Row dk h (iX .jJ h):=λ{p s} n0 n3 q1 q2 F sy=>by
  rw[z4 n0]at o;have C:(.n0) .d6 a=.ds a:=aM (.am<|yk n3);have fin:iX .jJ h=.a1 (.ok (.tup [.str p,.str .dJ]) a):=aU rfl rfl (sx W<|sx H<|sx .t3<|dS<|(dD C).trans (aE<|cX<|aV (wd _ q1)<|ps s q2 F));rw[k]at fin;exact iL fin sy
 rcases Xf c with e|e|e|e|e
 ·rw[e]at o
  have T1:=mV G.n30 l.L;have z:=xw l1.m bb (by rw[T1];exact(iI G.n30 l.L.ok).1);rw[T1,<-l.t']at z;have sh:=tQ G.n30 l.L.ok l.m.lb l.m.ls l.m.os bb .CM;rw[k]at z o H;exact iL (.n<|sx W<|sx H<|dS<|(dD o).trans (aE<|cX<|.bc<|.ah z)) sh
 ·exact r .b .b .b6 .b6 m.loF (L4 m hd)
 ·exact r .b .b .b6 .b6 m.hiF (L5 m hd)
 ·rw[e]at o O
  have C:(.n0) .d6 a=.dr a:=aM .Ag;have f:cC (lOf .h) .d6 a=.ok (.int ((E.length:Nat):Int)) a:=(dE<|.bu<|aF gK).trans .l4;rw[k]at o C O H f;exact iL (.n<|sx W<|sx H<|sx .t3<|sx ((bH C).trans rfl)<|dS<|(dD O).trans (aE<|cX<|.bc<|dU f<|k60 lR)) sR
 ·rw[e]at o O
  have C:(.n0) .d6 a=.dr a:=aM .Ag;obtain⟨A,g2,V,J,_⟩:=uZ l1.m .b l.t';rw[<-ws]at J;obtain⟨S,U⟩:=q0 .b4;have mem:∀s∈S,bI w n s:=λs Q=>(.sZ).mp (by rw[<-U];exact Q);have r:=m.two;have Y:=L7 m L hd;have lP:=Dp L G.W.s .eC;rw[<-U]at J;obtain⟨v,B⟩:=q0 (a++g2);rw[<-B]at V J;have l2:.bd sk T w j v:=by rw[B];exact l1.more _
  obtain⟨σ',h',X,k2,x,y,k3⟩:=cn (P:=λi σ h'=>h'=v/\∃x y,σ=XA j c K (some<|.int (((.C1).length:Nat):Int)) x y) (g:=some A) (λi σ h' ⟨e,_⟩=>by rw[e];exact J)
   (tg:=gN 5) (b:=yJ) (by
    rintro i x' σ t hx ⟨rfl,x,y,rfl⟩;rw[wK];have a3:S[i]?.map ar=some x':=by rw[<-ZQ];exact hx
    obtain⟨s,Q,rfl⟩:=YT.mp a3;have F:=mem s (ZK Q);have F2:=.ix F;refine⟨_,rfl,?_⟩;rw[<-SH .jI Q];generalize (((.C1).length:Nat):Int)=N;have R:(.s4) .rA t=.ok .th t:=aM (.am<|CP (by rw[F.len,F2.len]) t);have u2:(.rN) .rA t=.ok (decide .oS) t:=aM (av (.F<|l2.turn F2) rfl<|li .Dd _);have u:(iy .s4 .rN) .rA t=.ok (isQ w n s) t:=by
     unfold isQ;cases c1:.th with
     |false=>rw[c1]at R;exact j8 R
     |true=>rw[c1]at R;exact gC R u2
    exact⟨_,t,sx (aC<|.F<|l2.turn F) (aC<|av rfl (qS<|ot u) rfl),rfl,_,_,rfl⟩) ⟨rfl,_,_,rfl⟩
  have l0:0+(S.map ar).length=S.length:=by rw[ZA,wK]
  rw[l0,YN,U,r]at k3;rw[k2,k3]at X;rw[<-U]at X Y lP;obtain⟨N,hN⟩:=q0 ((S.filter .eC).length);rw[<-hN]at X Y lP;have dv:ag ek .u .J (XA j c K (some<|.int ((2*N:Nat):Int)) x y) v=.ok (.int (N:Int)) v:=(.eA).trans (by rw[show ((2*N:Nat):Int)/2=(N:Int) by omega]);have s5:.fd .z .d6 a=.nx (XA j c K (some<|.int 0) none none) a:=aC rfl;have fin:iX .jJ h=.a1 (.ok (.tup [.str VB,.str (tx (N:Int))]) v):=aU rfl rfl (sx W<|sx H<|sx .t3<|sx ((bH C).trans rfl)<|sx ((bH O).trans rfl)<|sx s5<|sx (eO (c5 (.ah V) J) X)<|aE<|cX<|.bc<|dU dv<|k60 lP) ;rw[B,k,ZU]at fin;exact iL fin Y
end
section
variable{w:Web}{n:Nat}{s:.c}{h:Hd}{dk:Nat}
def Dq{n:Nat}(h:1<=n):∃a:Nat,x%(n:Int)=(a:Int)/\a<n:=by
 have b:=zYi x (show (n:Int)≠0 by omega);have c:=zZq x (show 0<(n:Int) by omega);exact⟨(x%(n:Int)).toNat,(Int.toNat_of_nonneg b).symm,by omega⟩
theorem zy:∀k,(∀j,j<k->(f j).natAbs<=B)->(eg f k).natAbs<=k*B
 |0,_=>by simp[eg]
 |k+1,H=>by
  have a:=zy k λj b=>H j .b;have:=H k .b;rw[eg,Nat.succ_mul];omega
def VI{T o}(l:.bd o T w k h)(n30:n<=30)(bb:.pS)(F:.V):(.lC).natAbs<10^60:=by
 have B:=λi=>iB F i;have c:∀j,j<n->(gY w s j).natAbs<=10^30+12000:=λj a=>by
  have f:w.bars.getD j 0=bs.getD j 0:=by rw[l.w'];rfl
  have d:w.ties.getD j []=dG (nbs T j):=by rw[l.w'];simp[bA,List.getD,a]
  have m:(bs.getD j 0).natAbs<10^30:=by
   have:j<bs.length:=by rw[l.m.lb];exact a
   rw[ZF,ZE this];exact bb _ (YA this)
  have q:(bV (nbs T j) s).natAbs<=n*400:=by
   rw[<-zg l.L B a];refine zy n λi g=>?_;have p:=(l.m.mo.bd j i).1;have r:=(l.m.mo.bd j i).2;rcases B i with e|e<;>rw[e]<;>simp<;>omega
  have:n*400<=12000:=by omega
  unfold gY;rw[f,d,pC];split<;>omega
 have:=zy n c;refine ZS this (ZS (zYs _ n30) .a)
def zz{T c d}(G:Go w n)(l:.bd d T w c h)(bb:.pS)(F:.V)(hd:.bK):bp [.ref dk,.str (.bZ [PK,sg s])] h=.ok (.str<|tx .lC) h:=by
 have b:=VI l G.n30 bb F;exact tR (S:=[s]) G.W G.n30 (PL F) .f rfl hd .a .a .a .a .a .a rfl λg k a =>
  (.n<|sx .gc<|dS<|(.eE).trans (aE<|dU (aq .Ay<|LX G.W F g) b)).trans aJ
/---/def wJM(v:Bool):List Nat:=if v then Yq else Yp
def SI{a b U:.c}(G:Go w n)(A:.cR)(B:.dP)(d:.b0 U)(q:∀h,Xe v .fy h=.ok (ar U) h)(hd:.bK):bp [.ref dk,.str .sA] h=.ok (.str<|sg U) h:=by
 have e:=λg=>qi d.op (by rw[d.len];exact G.n30) g;cases v with
 |false =>
  exact tR (S:=[a,b]) G.W G.n30 (al2 A B) .f rfl hd .a .a .a .a .a .a rfl λg k c =>
   (.n .wf).trans aJ
 |true =>
  exact tR (S:=[a,b]) G.W G.n30 (al2 A B) .f rfl hd .a .a .a .a .a .a rfl λg k c =>
   (.n<|sx .gc .wf).trans aJ
def Iw{E:.aK}(a:.qg)(ne:1<=E.length){c d:Int}(l:0<d)(ds:d<2^250)(v:aa j σ h=.ok .Z h)(f:aa 1 σ h=.ok .aD h):
  ∃s∈E,fAt (aa j) (ag bL .Ct (cC (lOf (aa j)))) σ h=.ok .C h:=by
 obtain⟨i,e,b⟩:=Dq ne;refine⟨E[i],YA b,?_⟩;have g:=(dE<|cF v<|aF a).trans .l4;have m:.aH .Ct (cC<|lOf<|aa j) σ h=.ok (.int (i:Int)) h:=by
  rw[<-e];exact av (av f rfl<|f6 l ds) g (c8 .b)
 exact aL v m (aF a) (dN (by rw[ZQ,ZE b];rfl))
abbrev XS(td:D)(c:Int)(A:Nat)(s:.c)(x5 x6 x7 x8:.E):Sd:=[some td,some .aD,some (.int<|c%5),some .ar,some .C,x5,x6,x7,x8]
def Dr{T}(G:Go w n)(n6:n<=6)(l:.bd sk T w f h)(bb:.pS)(hd:.bK)(c:Int):Row dk h (d7 .eO h):=by
 obtain⟨lo,hi,G2⟩:=G.g23 n6;have o:=G.n30;have ws:w.stays=ss:=by rw[l.w'];rfl
 obtain⟨A,g1,q1,S,_⟩:=uZ l.m .b l.t';rw[<-ws]at S;have mem:=λs=>nZ G.W rfl G.W.s G.S s;have Q:=List.length_pos_of_mem ((mem lo).mpr G2.loF);obtain⟨k,m⟩:=q0 (h++g1);rw[<-m]at q1 S;have r:.bd sk T w f k:=by rw[m];exact l.more _
 have L:.bQ .lB [some f,some .e1,none,none,none,none,none,none,none] h=.nx .xn h:=aC .c3;have I:.c0 .pq .xn h=.nx .rb k:=aC (.ah q1);obtain⟨s,hs,ps⟩:=Iw (d:=5) (j:=3) (σ:=.rb) S Q .a .a rfl rfl;have F:=(mem s).mp hs;have N:.fd .zy .rb k=.nx .nz k:=aC ps;have z:∀{u:.c},bI w n u->∀g,bJ [ar u] g=.ok (.str<|sg u) g:=λ{u} O g=>tM O.op (by rw[O.len];exact o) g;have V:∀{u:.c},bI w n u->(sg u).length<=30:=λ{u} O=>by rw[pK,O.len];exact o
 have t:∀v:Int,(tE<|.be .g<|fC .cs) .nz k=.ok (decide (c%5=v)) k:=λv=>aM .lD;have q:∀W:List Nat,W.length<=10->.bR (fC<|.str<|W++[32]) .oe .nz k=.ok .Cx k:=λW lW=>by
  rw[Tw];have:=V F;exact dH rfl (.ah<|z F k) .DK
 have H:=t 0;have P:=t 1;have R:=t 2;rcases Xf c with e|e|e|e|e<;>rw[e]at H P R
 ·have fin:d7 .eO h=.a1 (.ok .yR k):=aU rfl rfl (sx L<|sx I<|sx N<|dS<|(dD H).trans (aE<|cX<|aV (q FV .a)<|aq (.bO<|.F<|r.turn F)<|z (.ix F) k))
  rw[m]at fin;exact iL fin (FW G F hd)
 ·obtain⟨t',E⟩:=G.fin F
  have fin:d7 .eO h=.a1 (.ok (.tup [.str (.bZ [VA,sg s]),.str (.bZ<|FX w n s t')]) k):=aU rfl rfl (sx L<|sx I<|sx N<|sx .oq<|dS<|(dD P).trans (aE<|cX<|aV (q VA .a)<|.F<|PN G r F E));rw[m]at fin;exact iL fin (Sw G F E hd)
 ·have fin:d7 .eO h=.a1 (.ok .ye k):=aU rfl rfl (sx L<|sx I<|sx N<|sx .oq<|sx ((bH P).trans rfl)<|dS<|(dD R).trans (aE<|cX<|aV (q PK .a)<|dU (.F<|wv G r F)<|VI l o bb F))
  rw[m]at fin;exact iL fin (zz G l bb F hd)
 all_goals
  obtain⟨v,hv⟩:∃v:Bool,c%5-3=b2i v:=by first|exact⟨false,by rw[e];rfl⟩|exact⟨true,by rw[e];rfl⟩
  obtain⟨g2,q2⟩:=rq r G.W G.S .b;rw[<-ws]at q2;have X:∀u,u∈(.b4).filter .d3↔pM w n u:=λu=>by
   rw[kn G.W G.S];exact⟨λ⟨x,y⟩=>⟨x,y⟩,λ⟨x,y⟩=>⟨x,y⟩⟩
  have ne:=G2.ne;obtain⟨E,hE⟩:=q0 .ew;rw[<-hE]at q2 X ne;obtain⟨K,hK⟩:=q0 ((k++g2).length);obtain⟨i,p⟩:=q0 (k++g2++[.lst .bg]);rw[<-hK,<-p]at q2;have gK:i[K]?=some (.lst .bg):=by rw[p,hK];exact ZG
  have l2:.bd sk T w f i:=by rw[p];exact(r.more _).more _
  have s5:.eu .l5 .nz k=.nx .AH i:=aC (.ah q2);obtain⟨a,ha,pa⟩:=Iw (d:=7) (j:=5) (σ:=XS f c A s .hx none none none) gK ne .a .a rfl rfl;obtain⟨b,hb,pb⟩:=Iw (d:=77) (j:=5) (σ:=XS f c A s .hx (some .bf) none none) gK ne .a .a rfl rfl;have C:=(X a).mp ha;have B:=(X b).mp hb;have s6:aD .a8 .zt .AH i=.nx .zC i:=aC pa;have s7:.fc .yA .zC i=.nx .rI i:=aC pb;obtain⟨U,J,jq⟩:=VG G.W o G.S G.more C B v;have la:=V C.fit;have lb:=V B.fit;have vi:∀x,ag gy .g .a5 (XS f c A s .hx (some .bf) (some .cm) x) i=.ok (.int<|b2i v) i:=λx=>(.cE).trans (by show Res.ok (D.int<|c%5-3) i=_;rw[hv]);have wd:fIx (ad (fC<|.str .Bo)<|ad (fC<|.str [109,101,116,32]) am) (ag gy .g .a5) .rI i=.ok (.str<|wJM v++[32]) i:=iq .bS (vi none) (by cases v<;>rfl);have Y:(wJM v++[32]).length<=7:=by cases v<;>decide
  have s8:.cZ .we .rI i=.nx (XS f c A s .hx (some .bf) (some .cm)<|some<|.str .sA) i:=by
   rw[Kh];exact aC (dH (dH (dH wd (.ah<|z C.fit i) .b) rfl .zX) (.ah<|z B.fit i) .zX)
  obtain⟨_,bo,_⟩:=Iv G n6 l2 C B v J;have fin:d7 .eO h=.a1 (.ok (.tup [.str .sA,.str (sg U)]) i):=aU rfl rfl (sx L<|sx I<|sx N<|sx .oq<|sx ((bH P).trans rfl)<|sx ((bH R).trans rfl)<|sx s5<|sx s6<|sx s7<|sx s8<|aE<|cX<|aV rfl<|aq (.bO<|aq (aw rfl<|.cA<|.bc<|vi _) bo)<|z J.r.fit i);rw[p,m,ZU,ZU]at fin;exact iL fin (SI G C.fit B.fit J.r.fit jq hd)
end
section
variable{w:Web}{n:Nat}{s:.c}{h:Hd}{dk:Nat}
def Xg(w:Web)(n:Nat):Ch w n (chL w.stays n):=⟨List.pairwise_lt_range.filter _,λp a=>YK.mp (.mj).1,λp a=>YD (.mj).2⟩
def Ch.pick(C:.fU)(p:Nat->Bool):Ch w n (l.filter p):=⟨C.up.filter _,λx a=>C.lt x (.mj).1,λx a=>C.no x (.mj).1⟩
/---/def SJ(c:Int)(i:Nat):Bool:=decide (c/2^i%2=1)
def P8(c:Int)(b:.ia):cu .bJ .df .G .mX .e .df [none,some .aD] h=.ok (NL<|l.filter<|SJ c) h:=by
 have:=bj (g:=some k) (tg:=gN 0) (cs:=.mX) (e:=aa 0) (I:=λσ=>∃a,σ = [a,some .e1]) (λd=>match d with | .int i=>SJ c i.toNat|_=>false) .j0 b (xs:=NL l) (σ:=[none,some .e1]) (by
  rintro x j σ ⟨a,rfl⟩;obtain⟨i,m,rfl⟩:=z0.mp j;have f:GO .e1 (.int (i:Nat)) h=.ok (.int<|c/2^i) h:=by
   show (if (decide (0<=(i:Int)))=true then Res.ok (D.int<|c/2^(.ml).toNat) h else Res.bad)=_;rw[zE .f,zZh]
  exact⟨_,rfl,⟨_,rfl⟩,kh (aM<|av (.cy<|.am f) rfl iR),λ_=>rfl⟩) ⟨_,rfl⟩
 rw[this,zXp,zYh];congr 2
abbrev swL(ss:.Q)(n:Nat)(c:Int):List Nat:=(chL ss n).filter (SJ c)
abbrev swX(w:Web)(n:Nat)(v:.m):List Nat:=if tb w n v=true then .hJ else .jR
def Lw.sw{T b d}(l:.bd d T w b h)(c:Int):Ch w n .o5:=by
 have a:=Xg w n;rw[show w.stays=ss by rw[l.w'];rfl]at a;exact a.pick (SJ c)
def BW{T j}(G:Go w n)(l:.bd O T w j h)(c:Int):ik .jJ h=.ok (.tup [.str (.bZ (wSw::txs .o5)),.str (swX w n .o5)]) h:=by
 have q:=G.n30;have H:=FP l q;have C:=l.sw c;obtain⟨b,f⟩:=q0 (h++[.lst .lE]:Hd);rw[<-f]at H;have E:b[h.length]?=some (.lst .lE):=by rw[f];exact ZG
 have t:=P8 c E;obtain⟨v,A⟩:=q0 .o5;rw[<-A]at C⊢;have t:cu (some h.length) .lE .G .mX .e .lE [none,some .e1] b=.ok (NL v) b:=by rw[A];exact t
 have k:=ZM (Pn C) G.n13;have m:∀p∈v,p<=30:=λp Q=>by have:=C.lt p Q;omega
 obtain⟨a,e⟩:=q0 (b++[.lst (NL v)]:Hd);have r:a[b.length]?=some (.lst<|NL v):=by rw[e];exact ZG
 have L:.bQ .yW [some j,some .aD,none,none] h=.nx [some j,some .aD,some .qC,none] a:=by
  rw[e];exact aC (cR (bZ (c5 (.ah H) E) t) (by rw[ZA];exact ZM k .a))
 have lt:(txs v).length<=13:=by rw[txs,ZA];exact k
 obtain⟨σ,o⟩:=q0 ([some j,some .e1,some .qC,none]:Sd);have J:bR .Di σ a=.ok (.ref a.length) (a++[.lst .l9]):=cR .bo;have K:bR .sj σ (a++[.lst .l9])=.ok (.ref (a++[cM.lst .l9]).length) (a++[.lst .l9]++[.lst ((txs v).map .str)]):=by
  rw[o];exact cR (bZ (c5 rfl<|.I r)<|PC m<|.I r) (by rw[ZA];exact ZM lt .a)
 have I:=JY J K (.I ZG) ZG (by simp;exact ZM (show 1 + (txs v).length<=14 by omega) .a);obtain⟨g,d⟩:=q0 (a++[.lst .l9]++[.lst ((txs v).map .str)]:Hd);rw[<-d]at I;have B:lI [32] (vJ (bR .Di)<|bR .sj) σ a=.ok (.str<|.bZ (wSw :: txs v)) g:=tK I (λx u=>by
  rcases y6.mp u with rfl|u
  ·decide
  ·exact Ke m x u) (by rw[wI];omega)
 rw[o]at B;have D:=aC (i:=3) B;have S:.bd O T w j g:=by rw[d,e,f];exact(((l.more _).more _).more _).more _
 have y:g[b.length]?=some (.lst<|NL v):=by rw[d];exact .I (.I r)
 have z:=Ih G S C y;obtain⟨X,F⟩:=q0 (swX w n v:.m);rw[<-F];obtain⟨R,N⟩:=q0 (.bZ (wSw::txs v));rw[<-N]at D⊢;have P:fIx .yo (qG<|au iD .cl) [some j,some .e1,some .qC,some (.str R)] g=.ok .gW g:=by
  rw[F];refine iq .bS (qS<|.F z) ?_;unfold swX;cases tb w n v<;>rfl
 have fin:ik .jJ h=.a1 (.ok (.tup [.str R,.str X]) g):=aU rfl rfl (sx L<|sx D<|aE<|cX<|.bc P);rw[d,e,f,ZU,ZU,ZU]at fin;exact fin.trans .fL
def P9{T b}(G:Go w n)(l:.pQ)(hd:.bK)(c:Int):Row dk h (ik [a,.int c] h):=⟨_,_,BW G l c,PF G (l.sw c) hd⟩
def L8{T j}(l:.bd j T w g h){x:.c}(f:x.length=n)(B:sD x):.b0 (uU ss x):=by
 have d:w.stays=ss:=by rw[l.w'];rfl
 obtain⟨a,b,c⟩:=Pj l.m.ls l.m.os f B;exact⟨a,b,λi x e=>c i x (by rw[<-d];exact e)⟩
def Qa{T}(G:Go w n)(l:.bd U T w f h)(bb:.pS)(hd:.bK)(c:Int):Row dk h (d8 .eO h):=by
 have j:=G.n30;obtain⟨x,q,N,Q⟩:=R5 (c/4) 0 2 n .b .a .a h;have B:sD x:=λi=>by
  by_cases J:i<x.length
  ·have:=Q _ (YA J)
   rw[ZF,ZE J];show x[i]=0\/x[i]=1;omega
  ·rw[ZF,wM .b];exact .inl rfl
 have F:=L8 l N B;obtain⟨a,d⟩:=q0 (h++[.lst (x.map .int)]:Hd);rw[<-d]at q;have m:.bd U T w f a:=by rw[d];exact l.more _
 have E:=zh m.m N (by rw[d];exact ZG);rw[<-l.t']at E;obtain⟨s,P⟩:=q0 (uU ss x);rw[<-P]at F E;have R:ag ek .d .bp .rU h=.ok .qK h:=av rfl rfl .iG;have z:.bQ (.aH .d .bp) [some f,some .e1,none,none] h=.nx .rU h:=aC .c3;have y:.c0 .wP .rU h=.nx .rJ a :=
  aC (aq (.bc<|aq (aw R<|.cA<|aV (l.many rfl) rfl) q) E)
 have I:∀{u:.c},bI w n u->∀g,bJ [ar u] g=.ok (.str<|sg u) g:=λ{u} L g=>tM L.op (by rw[L.len];exact j) g;have X:(.dJ).length<=30:=by rw[pK,F.len];exact j
 obtain⟨σ,r⟩:=q0 (.rJ:Sd);have t:∀(v:Int) (b:Bool),decide (c%4=v)=b->(tE<|.be .g<|fC<|.int v) .rJ a=.ok b a:=λv b q=>by rw[<-q];exact aM .lD
 have k:∀W:List Nat,W.length<=10->.bR (fC<|.str<|W++[32]) (au bJ .c4) σ a=.ok .Cx a:=λW V=>by
  rw[Tw,r];exact dH rfl (.ah<|I F a) .DK
 rw[r]at k;have SK:c%4=0\/c%4=1\/c%4=2\/c%4=3:=by omega
 rcases SK with e|e|e|e<;>(have A:=t 0 _ .ma;have D:=t 1 _ .ma;have H:=t 2 _ .ma)
 ·have fin:d8 .eO h=.a1 (.ok .yR a):=aU rfl rfl (sx z<|sx y<|dS<|(dD A).trans (aE<|cX<|aV (k FV .a)<|aq (.bO<|.F<|m.turn F)<|I (.ix F) a))
  rw[d]at fin;exact iL fin (FW G F hd)
 ·have fin:d8 .eO h=.a1 (.ok .ye a):=aU rfl rfl (sx z<|sx y<|sx .t4<|dS<|(dD D).trans (aE<|cX<|aV (k PK .a)<|dU (.F<|wv G m F)<|VI l j bb F))
  rw[d]at fin;exact iL fin (zz G l bb F hd)
 ·have C:ag ek .d .bp [some f,some .aD,some (.int<|c%4),some .C] a=.ok .qK a:=av rfl rfl .iG
  have fin:d8 .eO h=.a1 (.ok (.tup [.str (.bZ (wSw::txs (swL ss n<|c/4))),.str (swX w n<|swL ss n<|c/4)]) a):=aU rfl rfl (sx z<|sx y<|sx .t4<|sx ((bH D).trans rfl)<|dS<|(dD H).trans (aE<|aq (.bc C)<|BW G m<|c/4));rw[d]at fin;exact iL fin (PF G (l.sw<|c/4) hd)
 ·have K:=mV j l.L
  have o:∀b∈bs,b.natAbs<10^60:=λb S=>Z1 (bb b S) .a;have p:=xw m.m o (by rw[K];exact(iI j l.L.ok).1);rw[K,<-l.t']at p;have O:=tQ j l.L.ok l.m.lb l.m.ls l.m.os o .CM;have fin:d8 .eO h=.a1 (.ok (.tup [.str Sm,.str .nH]) a):=aU rfl rfl (sx z<|sx y<|sx .t4<|sx ((bH D).trans rfl)<|sx .oq<|aE<|cX<|.bc<|.ah p);rw[d]at fin;exact iL fin O
end
abbrev tdM(n bk sk:Nat):D:=.tup .Bp
def Qb{c h n}(m:j2 0 n M h)(hi:i<n)(a:aa 0 σ h=.ok (.fZ c) h)(b:E σ h=.ok .v h):fAt .aX E σ h=.ok (.ref<|0+i) h :=
 aL (aL a rfl rfl rfl) b (aF m.ti) (BM hi)
def Qc{h n}(m:j2 0 n M h)(hi:i<n)(c:j<n)(a:aa 0 σ h=.ok (.fZ e) h)(b:E σ h=.ok .v h)(d:F σ h=.ok .cd h):fAt (fAt .aX E) F σ h=.ok .tz h :=
 aL (Qb m hi a b) d (aF<|m.ro i hi) (Dj c)
def Qd{h}{a:Nat}(c:aa 4 σ h=.ok .cK h)(b:a<=30)(e:E σ h=.ok (.str y) h)(l:W.length<=10)(d:y.length<=200):.bR (.bR (.bR (fC<|.str W) (c9 .u)) .cG) E σ h=.ok (.str<|((W++tx (a:Int))++[32])++y) h:=by
 have k:=FR b;exact dH (dH (dH rfl (dU c<|n60 b) .b) rfl .X) e .X
def Kl{l:List D}(a:l.length=k)(hi:i<k):ixN l.length (i:Int)=some i:=by rw[a];simp[ixN,hi]
def SK(x:Int):x%4=0\/x%4=1\/x%4=2\/x%4=3:=by omega
/---/def Chg(n bk sk dk:Nat)(W0:D)(o:Res D):Prop:=∃row h' h'' M T bs ss,o=.ok (.tup [.str row,.str wOk]) h'/\(∃l,h'[dk]?=some (.ob l))/\bp .tI h'=.ok .mc h''/\.cY sk dk W0 M T bs ss h''
def Ds{d n}{c:D}(e:F=.a1 (.ok (.tup [.str a,.str wOk]) h'))(st:Io n bk d dk c h (.ok .dd h')):Chg n bk d dk c F:=by
 obtain⟨l,m,i,M2,f,j,b,q1,q2,g,q3,k⟩:=st;cases q1;exact⟨a,h',i,M2,f,j,b,e.trans (uk<|wo q2),g,q3,k⟩
abbrev XCh(td:D)(c:Int)(n a b:Nat):Sd:=[some td,some .aD,some .A,some (.int<|c%3),some .cK,some (.int b),some (.int<|c/301)]
def SL{T h n}(Y:.g6 u dk)(S:.cY u dk H M T bs ss h){c:Int}(l:a<n)(k:b<n)(ne:a≠b)(w:d=.fZ u):
  ∃q h',(ax .xy
  (ax (jX (fAt .aX .H) .u .q9)
  .wh)) .ai h=.rt (.tup [.str q,.str wOk]) h'/\Io n bk u dk H h (.ok (.str q) h'):=by
 have Q:=S.md.n30;obtain⟨x,A,C,O⟩:∃x:Int,0<=x/\x<=400/\fIx .rn (ag ek (.aH .L .a5) .J) .ai h=.ok .gX h:=by
  have L:ag ek (.aH .L .a5) .J .ai h=.ok (.int<|c/301%3/2) h:=av .c3 rfl .iG;have G:(.rn) .ai h=.ok [.int 0,.int (c/301%401)] h:=aV rfl .c3;have y:c/301%3/2=0\/c/301%3/2=1:=by omega
  rcases y with e|e
  ·exact⟨0,by omega,by omega,iq G L .b6⟩
  ·exact⟨c/301%401,by omega,by omega,iq G L .b6⟩
 have v:=Xa Y S ne l k A C;have m:=S.md.mt;have o:=m.put (b:=b) l x;have B:=o.put (b:=a) k x;obtain⟨f,p⟩:=q0 (h.set (0+a) (.lst<|(.n9).set b .gX):Hd);rw[<-p]at v o B;obtain⟨j,s⟩:=q0 (f.set (0+b) (.lst<|(.s3).set a .gX):Hd);rw[<-s]at v B;have t:∀g,aa 0 .ai g=.ok (.fZ u) g:=λg=>by rw[w];rfl
 have E:∀(M:.aJ) i,((.hS).map D.int).length=n:=λM i=>by simp[im]
 have I:je M a b x a b=x:=zE ⟨rfl,rfl⟩;have P:je .jk b a x a b=x:=(zF λz=>ne z.1).trans I;have F:=lO O (Qb m l (t h) (rfl:aa 4 .ai h=_)) (rfl:aa 5 .ai h=_) (m.ro a l) (Kl (E _ _) k);rw[<-p]at F;have N:=Qc o l k (t f) (rfl:aa 4 .ai f=_) (rfl:aa 5 .ai f=_);rw[I]at N;have K:=lO N (Qb o k (t f) (rfl:aa 5 .ai f=_)) (rfl:aa 4 .ai f=_) (o.ro b k) (Kl (E _ _) l);rw[<-s]at K;have J:=Qc B l k (t j) (rfl:aa 4 .ai j=_) (rfl:aa 5 .ai j=_);rw[P]at J;have U:=dM _ (big A C);have R:=FR (show a<=30 by omega);have lb:=FR (show b<=30 by omega);have r:=dH (dH (Qd (W:=.dA) rfl .b (dU (a:=aa 5) rfl<|n60 .b) .a .b) (rfl:fC .uI .ai j=_) .X) (dU J<|big A C) .X;rw[show .dA++tx (a:Int)++[32]++tx (b:Int)++[32]++tx x=bg [32] [HM,tx (a:Int),tx (b:Int),tx x] by rw[Tv];rfl]at r;exact⟨_,j,sx F (sx K .tu),v⟩
def Qe{T h j n}(Y:.g6 j dk)(S:.cY j dk m M T bs ss h){c:Int}(u:a<n)(k:d=.fZ j):
  ∃i h',(ax (jX .cI .u (fIx .ni .kT))
  .wg) .ai h=.rt (.tup [.str i,.str wOk]) h'/\Io n bk j dk m h (.ok (.str i) h'):=by
 have v:=S.md.n30;have t:∀g,ag bL .L .bp .ai g=.ok (.int<|c/301%4) g:=λg=>av rfl rfl .hg;have C:=O8 .aY;have y:=O8 .eY;obtain⟨o,p,w,A⟩:∃o:Option Int,(o=none\/o=some 0\/o=some 1)/\atI [.non,.non,.int 0,.int 1] (c/301%4)=some .eQ/\atI [D.str .k0,.str .k0,.str [48],.str [49]] (c/301%4)=some (.str<|Au o):=by
  rcases SK (c/301) with e|e|e|e<;>rw[e]
  ·exact⟨none,.inl rfl,rfl,rfl⟩
  ·exact⟨none,.inl rfl,rfl,rfl⟩
  ·exact⟨some 0,.inr .aY,rfl,by show _=some (D.str<|tx 0);rw[C];rfl⟩
  ·exact⟨some 1,.inr .eY,rfl,by show _=some (D.str<|tx 1);rw[y];rfl⟩
 have q:=Vz Y S u p;have z:fIx .ni .kT .ai h=.ok .eQ h:=iq .o0 (t h) w;have s:=lO (x:=.fb .J) z (by rw[k];exact aL rfl rfl rfl rfl) (rfl:aa 4 .ai h=_) S.md.st (Kl (by rw[ZA,S.md.ls]) u);obtain⟨f,l⟩:=q0 (h.set j (.lst .uv):Hd);rw[<-l]at q s;have B:fIx (ad .fg<|ad .fg .kK) .kT .ai f=.ok (.str<|Au o) f:=iq .o0 (t f) A;have r:=Qd (W:=.tB) rfl .b B .a (Kd p);rw[show .tB++tx (a:Int)++[32]++Au o=bg [32] [As,tx (a:Int),Au o] by rw[Kh];rfl]at r;exact⟨_,f,sx s .tu,q⟩
def SM{T h n}(Y:.g6 m dk)(S:.cY m dk u M T bs ss h){c:Int}(o:a<n)(i:d=.fZ m):
  ∃j h',(ax (jX .cn .u (fIx .mR .st))
  .ww) .ai h=.rt (.tup [.str j,.str wOk]) h'/\Io n bk m dk u h (.ok (.str j) h'):=by
 have E:=S.md.n30;have F:∀g,aa 0 .ai g=.ok (.fZ m) g:=λg=>by rw[i];rfl
 obtain⟨y,C,G⟩:∃y:Int,y.natAbs<10^30/\fIx .mR .st .ai h=.ok (.int y) h:=by
  have B:ag ek (.aH .L .ho) .bp .ai h=.ok (.int<|c/301%5/4) h:=av .c3 rfl .iG;have t:ag wB .kG (fC<|.int 20) .ai h=.ok (.int 100000000000000000000) h:=rfl;have p:ag wB .kG (fC<|.int 19) .ai h=.ok (.int 10000000000000000000) h:=rfl;have A:(.mR) .ai h=.ok [.int (c/301%801-400),.int (c/301%100000000000000000000-10000000000000000000)] h:=aV (.cy .c3) (av (av rfl t .hg) p rfl);have q:c/301%5/4=0\/c/301%5/4=1:=by omega
  rcases q with e|e
  ·exact⟨c/301%801-400,by omega,iq A B .b6⟩
  ·exact⟨c/301%100000000000000000000-10000000000000000000,by omega,iq A B .b6⟩
 have v:y.natAbs<10^60:=Z1 C .a;have w:=Xb Y S o C;have z:=lO (x:=.fb .o) G (by rw[i];exact aL rfl rfl rfl rfl) (rfl:aa 4 .ai h=_) S.md.ba (Kl (by rw[ZA,S.md.lb]) o);have H:=(zA.mp S.md.ba).1;obtain⟨f,k⟩:=q0 (h.set bk (.lst<|(.bG).set a (.int y)):Hd);rw[<-k]at w z;have I:f[bk]?=some (.lst<|(.bG).set a (.int y)):=by rw[k];exact wJ H
 have s:atI ((.ec).set a .jq) (a:Int)=some .jq:=by
  have:=i7 (l:=bs.set a y) (by rw[zYf,S.md.lb];exact o);rw[zYx]at this;rw[this,ZF,wJ (by rw[S.md.lb];exact o)];rfl
 have r:=Qd (W:=.nX) rfl .b (dU (aL (aL (b:=fC (.int 1)) (F f) rfl rfl rfl) (rfl:aa 4 .ai f=_) (aF I) s) v) .a (by have:=dM _ v;omega);rw[show .nX++tx (a:Int)++[32]++tx y=bg [32] [HN,tx (a:Int),tx y] by rw[Kh];rfl]at r;exact⟨_,f,sx z .tu,w⟩
def Ix{T h n}(Y:.g6 r dk)(S:.cY r dk v M T bs ss h)(c:Int)(f:d=.fZ r):Chg n bk r dk v (jS [d,.int c] h):=by
 have x:=S.md.n1;obtain⟨a,C,s⟩:=Dq x;obtain⟨b,B,A⟩:=Dq x;have z:0<(n:Int):=by omega
 have q:.bQ .hD [some d,some .aD,none,none,none,none,none] h=.nx .yT h :=
  (aC<|dE<|cF (by rw[f];exact aL rfl rfl rfl rfl)<|aF S.md.ba).trans (by rw[ZA,S.md.lb];rfl)
 have p:.c0 (.aH .d .a5) .yT h=.nx .xJ h:=aC .c3;have m:.fd .BO .xJ h=.nx .xx h:=by
  rw[<-C];exact aC (av .eA rfl<|c8 z)
 have o:.eu .zM .xx h=.nx .xa h:=by
  rw[<-B];exact aC (av .eA rfl<|c8 z)
 have l:aD .a8 .BN .xa h=.nx .ai h:=aC .eA;have g:(tE<|.be .h .z) .ai h=.ok (decide (c%3=0)) h:=aM .lD
 by_cases w:c%3=0/\a≠b
 ·obtain⟨j,y,e,i⟩:=SL Y S s A w.2 f
  rw[z3 w.1]at g;have t:(.rL) .ai h=.ds h:=gC g (aM<|.am<|(qU _ _ _).trans (by rw[z4 .b];rfl));exact Ds (.n<|sx q<|sx p<|sx m<|sx o<|sx l<|dS<|(dD t).trans e) i
 ·have t:(.rL) .ai h=.dr h:=by
   by_cases k:c%3=0
   ·rw[z3 k]at g
    exact gC g (aM<|.am<|(qU _ _ _).trans (by rw[z3 (show (a:Int)=b by omega)];rfl))
   ·rw[z4 k]at g
    exact j8 g
  by_cases k:c%3=1
  ·obtain⟨j,y,e,i⟩:=SM Y S s f
   have u:(.nG) .ai h=.ds h:=aM (.am<|iR.trans (by rw[z3 k]));exact Ds (.n<|sx q<|sx p<|sx m<|sx o<|sx l<|sx .nT<|dS<|(dD u).trans e) i
  ·obtain⟨j,y,e,i⟩:=Qe Y S s f
   have u:(.nG) .ai h=.dr h:=aM (.am<|iR.trans (by rw[z4 k]));exact Ds (.n<|sx q<|sx p<|sx m<|sx o<|sx l<|sx .nT<|sx ((bH u).trans rfl) e) i
def Dt{x:EF}{c b:Hd}{l ds:List D}(p:x σ h=.ok .Z h1)(q:h1[k]?=some (.ob l))(a:r σ h1=.dx c)(f:F (.ref k::ds) c=.ak b):nt F x r σ h=.ak b:=by
 unfold nt;rw[p,aR];dsimp[q,a,aR,f]
def Km(p:f σ h=.ak h')(q:tg d σ=some σ'):aD tg f σ h=.nx σ' h':=by
 dsimp[aD,p,outE,q]
def F5(a:.m)(h:Hd):oEq .dd .dd h=.aM h:=(.go).trans (by rw[z3 rfl])
def Qf(a:.m)(h:Hd):oNe .dd .dd h=.g8 h:=(RP _ _ _).trans (by rw[z3 rfl];rfl)
def Stt.go{T b h n}(S:.cY b dk a M T bs ss h)(n13:n<=13):Go .S n:=⟨i9 S.md.n30 S.lp.ok S.md.lb S.md.ls,n13,S.md.os,Ij S.lp.ok S.md.os,Sg S.lp.ok bs ss⟩
abbrev XW(S0 td:D)(gt:Bool)(X:.m)(dk:Nat)(a b c d e:.E):Sd:=[some S0,some td,some (.bl gt),some .fo,some .jy,some (.ref<|dk+1),a,b,c,d,e]
def SN{T h n x}(Y:.g6 x dk)(A:a=.fZ x)(n13:n<=13)(S:.cY x dk E M T bs ss h){c k:Int}(Z:∀g,bW [S0,.int k] g=.ok .aD g)(X:.m)(W C o m:.E):
  ∃h' M T bs ss d e,Hz .zh h=.nx (XW S0 a (decide (6<n)) X dk .hc (some .aD) (some .qK) d e) h'/\.cY x dk E M T bs ss h':=by
 have G:=S.go n13;have H:∀b∈bs,b.natAbs<10^60:=λb hb=>Z1 (S.bb b hb) .a;have l:Lw 0 n M bs ss bk x T .S a h:=⟨S.md,S.lp,rfl,A⟩;have U:.fc .Bl .zh h=.nx .x3 h:=aC (.F<|Z h);have Q:.cZ (ag ek .ay .bp) .x3 h=.nx (XW S0 a (decide (6<n)) X dk .hc (some .e1) (some .qK) o m) h:=aC .eA;obtain⟨i,r⟩:=q0 (decide (6<n));rw[<-r]at U Q⊢;have K:.aH .ay .bp .f3 h=.ok (.int<|c%4) h:=av rfl rfl .hg;have s:∀{p j:.m} {B u:Hd},(∃l,B[dk]?=some (.ob l))->bp [.ref dk,.str p] B=.ok (.str j) u->sIf .wk .fh bh .wM B=.nx .wM u:=λ{p j B u} ⟨l,hl⟩ q =>
  (bH<|aM<|av (Dt rfl hl .bo q) rfl<|Qf j u).trans rfl
 have f:∀{F:Fn} {I:SF},Row dk h (F [a,.int (c/4)] h)->(∀σ',aD (gT [9,10]) (au F (ad .d (ad .bz am))) .f3 h=.nx σ' h->I .f3 h=.nx σ' h)->
   ∃h' M T bs ss d e,(ax I .t9) .f3 h=.nx .x2 h'/\.cY x dk E M T bs ss h':=λ{F I} R q=>by
  obtain⟨p,j,q1,q2⟩:=R;exact⟨h,M,T,bs,ss,_,_,sx (q _<|Km (.F q1) rfl) (s ⟨_,S.de⟩ q2),S⟩
 have t:∀(v:Int) (b:Bool),decide (c%4=v)=b->(tE<|.be (.aH .ay .bp)<|fC .cs) .f3 h=.ok b h:=λv b q=>by rw[<-q];exact aM (av K rfl iR)
 have J:∃h' M T bs ss d e,(ax .wb
  .t9) .f3 h=.nx .x2 h'/\.cY x dk E M T bs ss h':=by
  by_cases g:6<n/\c%4<3
  ·have w:(.qV) .f3 h=.ds h:=gC (aM (by rw[r,z3 g.1];rfl)) (aM<|av K rfl<|yk g.2)
   exact f (Qa G l S.bb S.de<|c/4) λσ' q=>(dD w).trans q
  ·have w:(.qV) .f3 h=.dr h:=by
    by_cases O:6<n
    ·exact gC (aM (by rw[r,z3 O];rfl)) (aM<|av K rfl<|CK λz=>g ⟨O,z⟩)
    ·exact j8 (aM (by rw[r,z4 O];rfl))
   have V:=λz=>zYb λy=>g ⟨y,z⟩;rcases SK c with e|e|e|e
   ·exact f (P7 G (V .b) l H S.de<|c/4) λσ' q=>(bH w).trans ((dD<|t 0 true .b6).trans q)
   ·exact f (Dr G (V .b) l S.bb S.de<|c/4) λσ' q=>(bH w).trans ((.tj).trans ((dD<|t 1 true .b6).trans q))
   ·exact f (P9 G l S.de<|c/4) λσ' q=>(bH w).trans ((.tj).trans ((bH<|t 1 false .b6).trans ((dD<|t 2 true .b6).trans q)))
   ·obtain⟨p,B,u,M2,T2,N,s2,q1,d1,q2,S2⟩:=Ix Y S (c/4) A
    exact⟨u,M2,T2,N,s2,_,_,sx ((bH w).trans ((.tj).trans ((bH<|t 1 false .b6).trans ((bH<|t 2 false .b6).trans (Km (.F q1) rfl))))) (s d1 q2),S2⟩
 obtain⟨h',M',T',L,P,d,e,q,S'⟩:=J;exact⟨h',M',T',L,P,d,e,sx U (sx Q q),S'⟩
def VJ{T h n}(m:Md 0 n M bs ss bk f h)(bb:.ej)(L:.ke)(c:X=bg [10] (bX n .db bs ss))(p:a σ g=.ok .fo g):Mx eD (ad a am) σ g=.ok .fj (g++[.ob [(.S).enc]]):=by
 have e:=mV m.n30 L;have O:.iA .jL:=by rw[e];exact(iI m.n30 L.ok).1
 have w:bA n .jL bs ss=bA n T bs ss:=by rw[e];exact rj m.n30 L.ok _ _
 have i:=R4 (h:=g++[.ob []]) (dk:=g.length) m.n1 m.n30 O (uW M n n) (λt d=>(zj.mp d).2.1) m.lb m.ls m.os bb .f;rw[w,e,<-c]at i;have s:(g++[cM.ob []]).set g.length .nJ=g++[.ob [(.S).enc]]:=hV rfl _ _;rw[s]at i;unfold Mx;rw[aw p rfl,aR];dsimp[i]
def VL(ns:.c)(a6:ns.length<=63):∃h,E9 .l2 []=.aM h:=by
 obtain⟨l,y⟩:=q0 (.lit .c6:D);obtain⟨v0,R⟩:=BK ns 0 .a;rw[<-y]at R;obtain⟨mo,qm,m0,a5⟩:=Sl R;obtain⟨n,M,u,C,U,Z,h,P⟩:=Pi ns m0 .b;have o:=P.n30;have a4:n<=13:=by have:=P.nmo;omega
 have m:Md 0 n M u C U Z h:=⟨P.n1,P.n30,P.mt,P.mo,P.ba,P.st,P.lb,P.ls,P.os⟩;have kl:=(zA.mp P.st).1;obtain⟨T,L⟩:=Pk P.mo o n .B;have bb:∀b∈u,b.natAbs<10^30:=λb W=>by have:=P.bb b W;omega
 have F:∀b∈u,b.natAbs<10^60:=λb W=>Z1 (bb b W) .a;obtain⟨f,s⟩:=q0 (tdM n U Z:D);have Y:Lay n U Z h.length:=⟨P.bkn,P.skn,kl⟩;have on:=mV o L;have I:=xw m F (by rw[on];exact(iI o L.ok).1);obtain⟨X,hX⟩:=q0 (bg [10]<|bX n .db u C);have I:gX [f] h=.ok .gW h:=by rw[s,hX,<-on];exact I
 have e0:OC [some l,none,none,none,none,none,none,none,none,none,none] []=.nx .rv h:=by
  have r:=P.run;rw[<-y]at r;rw[s];exact aC (aq (.bc qm) r)
 have e1:OD .rv h=.nx [some l,some f,some (.bl<|decide (6<n)),none,none,none,none,none,none,none,none] h:=by
  have ln:cC (lOf .lN) .rv h=.ok (.int (n:Nat)) h:=(dE<|cF (by rw[s];exact aL rfl rfl rfl rfl)<|aF P.ba).trans (by rw[ZA,P.lb]);refine aC (av ln rfl ?_);show Res.ok (D.bl<|decide ((6:Int)<(n:Int))) h=_;rw[show decide ((6:Int)<(n:Int))=decide (6<n) from decide_eq_decide.mpr ⟨λz=>by omega,λz=>by omega⟩]
 obtain⟨q,a0⟩:=q0 (decide (6<n));rw[<-a0]at e1;have e2:OE [some l,some f,some (.bl q),none,none,none,none,none,none,none,none] h=.nx .wZ h:=aC (.ah I);obtain⟨N,H⟩:=q0 ((bA n T u C).enc:D);have mk:=λ{a:EF} {σ:Sd} {g:Hd} (p:a σ g=.ok .gW g)=>VJ m F L hX p;rw[<-H]at mk;obtain⟨J,A⟩:=q0 (h++[.ob [N]]:Hd);have e3:OG .wZ h=.nx [some l,some f,some (.bl q),some .gW,some .bb,none,none,none,none,none,none] J:=by
  rw[A];exact aC (mk rfl)
 obtain⟨G,B⟩:=q0 (J++[.ob [N]]:Hd);have l1:J.length=h.length+1:=by rw[A];simp
 have e4:OH .w0 J=.nx .yY G:=by
  have:=aC (i:=5) (mk (a:=aa 3) (σ:=.w0) (g:=J) rfl);rw[<-B,l1]at this;exact this
 have a1:Stt n U Z h.length N M T u C G:=⟨by rw[B,A];exact(m.more _).more _,L,by rw[B,A,<-H];exact .I ZG,by rw[B,<-l1];exact ZG,bb⟩;have rg:fj .bp (fC<|.int 18) .yY G=.ok ((.bY 14).map (λj:Nat=>D.int ((4+j:Nat):Int)),none) G:=mU rfl rfl .a;obtain⟨σ',K,k1,a,b,c,d,e,M',T',Q,a3,k2,t⟩:=cn (g:=none) (tg:=gN 6) (b:=Hz) (P:=λk σ K=>∃a b c d e M T u C,σ=XW l f q X h.length a b c d e/\Stt n U Z h.length N M T u C K) .bA
  (xs:=(.bY 14).map λj:Nat=>D.int ((4 + j:Nat):Int)) (k:=0) (σ:=XW l f q X h.length none none none none none) (h:=G) (λk x σ g hx p=>by
   obtain⟨a,b,c,d,e,M,T,u,C,rfl,S⟩:=p;have hk:k<14:=by
    have:=(zA.mp hx).1;simpa using this
   have ex:x=.int ((4+k:Nat):Int):=by
    rw[ZQ,YP hk]at hx;exact(ZT hx).symm
   subst ex;obtain⟨v,hv⟩:=BK ns (4+k) .b;rw[<-y]at hv;obtain⟨g',M2,T2,b2,s2,d',e',st,S2⟩:=SN Y s a4 S hv X b c d e;rw[<-a0]at st;exact⟨_,rfl,_,_,st,_,_,_,_,_,M2,T2,b2,s2,rfl,S2⟩) ⟨_,_,_,_,_,M,T,u,C,rfl,a1⟩
 have e5:=eO rg k1;rw[k2]at e5;have V:=mV o t.lp;have E:∀b∈Q,b.natAbs<10^60:=λb W=>Z1 (t.bb b W) .a;have w:=xw t.md E (by rw[V];exact(iI o t.lp.ok).1);rw[V]at w;have w:gX [f] K=.ok (.str<|bg [10]<|bX n (jA n T') Q a3) K:=by rw[s];exact w
 have a2:=tQ o t.lp.ok t.md.lb t.md.ls t.md.os E t.de;have d2:=t.d2;rw[H]at d2;have O:=tQ o L.ok P.lb P.ls P.os F d2;rw[<-hX]at O;have e6:OI (XW l f q X h.length a b c d e) K=.rt .dz K:=aE (ot<|gC (aM<|av (Dt rfl t.de .bo a2) (.ah w)<|F5 _ _)<|aM<|av (Dt rfl d2 .bo O) rfl<|F5 _ _);have fin:=aU (np:=1) (n:=11) (ds:=[l]) rfl rfl (sx e0<|sx e1<|sx e2<|sx e3<|sx e4<|sx e5 e6);rw[y]at fin;rw[show E9 .l2 []=_ from fin];unfold letGo;simp only;split
 ·exact⟨_,rfl⟩
 ·exact⟨_,rfl⟩
end Fm
end
end
noncomputable section
def PySem.W.Fast.tw90343872475197607 : Type := PySem.Params
theorem PySem.W.Fast.te90343872475197607 : PySem.Params = PySem.W.Fast.tw90343872475197607 := rfl
def PySem.W.Fast.tw18326204090370189320 : PySem.Program := PySem.Challenge.pw_followmost_k52_desk_rows_answered
theorem PySem.W.Fast.te18326204090370189320 : PySem.Challenge.pw_followmost_k52_desk_rows_answered = PySem.W.Fast.tw18326204090370189320 := rfl
def PySem.W.Fast.tw8660528385274906585 : Nat := 0
def PySem.W.Fast.tw12567189869600603991 : Nat := 0
def PySem.W.Fast.tw5692988848725148506 : Nat := 0
def PySem.W.Fast.tw4365790545193944407 : Nat := 0
def PySem.W.Fast.tw15211500706471459867 : Nat := 0
def PySem.W.Fast.tw15701426796893983922 : Nat := 0
def PySem.W.Fast.tw5651134462235642537 : Nat := 0
def PySem.W.Fast.tw12564037661359902512 : Nat := 0
def PySem.W.Fast.tw6559083745582286235 : Nat := 0
def PySem.W.Fast.tw5522016870712428645 : Nat := 0
def PySem.W.Fast.tw9283529294688140105 : Nat := 0
open PySem PySem.W PyProof.Rows
set_option maxRecDepth 100000 in
set_option maxHeartbeats 0 in
theorem PySem.Challenge.cw_followmost_k52_desk_rows_answered_holds : PySem.Challenge.rw_followmost_k52_desk_rows_answered.Holds := by
 w_on;o_law;k_head;(case hw=>w_witness2)
 k_fill
 refine Fm.WB (l := PySem.Challenge.rw_followmost_k52_desk_rows_answered) (F := Fm.E9) (k := 14) (x := "_law_script") rfl rfl ⟨rfl, by decide, by decide, rfl⟩ (fun w h Y => PySem.W.kIn_of Y) ?F Fm.VL
 case F =>
  intro w mg fa h KX G hmg
  refine' Fm.Vf KX G hmg ?_ ?_ ?_ ?_ ?_ ?_ ?_ ?_ ?_ ?_ ?_ ?_ ?_ ?_ ?_ ?_ ?_ ?_ ?_ ?_ ?_ ?_ ?_ ?_ ?_ ?_ ?_ ?_ ?_ ?_ ?_ ?_ ?_ ?_ ?_ ?_ ?_ ?_ ?_ ?_ ?_ ?_ ?_ ?_ ?_ ?_ ?_ ?_ ?_ ?_ ?_ ?_ ?_ ?_ ?_ ?_ ?_ ?_ ?_ ?_ ?_ ?_ ?_ ?_ ?_ ?_ ?_ ?_ ?_ ?_ ?_ ?_ ?_ ?_ ?_ ?_ ?_ ?_ ?_ ?_ ?_ ?_ ?_ ?_ ?_ ?_ ?_ ?_ ?_ ?_ ?_ ?_ ?_ ?_ ?_ ?_ ?_ ?_ ?_ ?_ ?_ ?_ ?_ ?_ ?_ ?_ ?_ ?_ ?_ ?_ ?_ ?_ ?_ ?_ ?_ ?_ ?_ ?_ ?_ ?_ ?_ ?_ ?_ ?_ ?_ ?_ ?_ ?_ ?_ ?_ ?_
  all_goals first|refine' Fm.At.i ?_ ?_ ?_ ?_|unfold Fm.Nb|skip
  all_goals try first|k_is|k_exc|kit_is
  all_goals first|(unfold Fm.yd;kernel_rfl)|(unfold Fm.CF;kernel_rfl)
