import PyProof.Rows.All
import Wide.All
import OpenK.AllK
import Wide.FinOn
import Lean
import PyProof.SetKind
import PyProof.EqAt
import PyProof.EqKinds
import PyProof.TupleCall
import PyProof.NeKinds
import PyProof.IsInstanceH
import PyProof.IsiNone
import PyProof.EnumMake
import PyProof.Draws
import PyProof.Rows.SetFrom
import PyProof.FactsAll.set
import PyProof.DictIter
import KE.KDictList
import PyProof.ZipIter
import KE.RegKIsAll
import PyProof.ExcAttrAll.ValueError
import PyProof.ListRange
import PyProof.NsDelKeeps
import PyProof.Rows.StrJoin2
import PyProof.Rows.SortRuns
import KE.KTops
import KE.KIntText
import KE.IntTextLaws
import PyProof.FString5
import PyProof.CallStr
import PyProof.Rows.StrSplitCount
import PySem.Challenge.RW_followmost_k53_whole_fewest_at_a_desk
set_option Elab.async false
set_option linter.all false
abbrev ZA:=@List.length_map
abbrev ZB:=@List.length_append
abbrev ZC:=@List.getElem?_append_left
abbrev ZD:=@List.getElem?_append_right
abbrev ZE:=@List.getElem?_eq_getElem
abbrev ZF:=@List.getD_eq_getElem?_getD
abbrev ZG:=@List.getElem?_concat_length
abbrev ZH:=@PySem.Heap.get?_push_of_some
abbrev ZI:=@PySem.Heap.lt_size
abbrev ZJ:=@PySem.Heap.get?_push_size
abbrev ZK:=@List.mem_of_getElem?
abbrev ZL:=@Nat.le_refl
abbrev ZM:=@Nat.le_trans
abbrev ZN:=@Nat.ne_of_lt
abbrev ZO:=@List.length_range
abbrev ZP:=@List.getElem?_set_ne
abbrev ZQ:=@List.getElem?_map
abbrev ZR:=@List.map_append
abbrev ZS:=@Nat.lt_of_le_of_lt
abbrev ZT:=@Option.some.inj
abbrev ZU:=@List.append_assoc
abbrev ZV:=@List.mem_cons_self
abbrev ZW:=@List.mem_cons_of_mem
abbrev ZX:=PySem.W.Frag
abbrev zF:=@PySem.wpAny_bind
abbrev z0:=@List.getElem?_eq_some_iff
abbrev z3:=@PySem.wpAny_pure
abbrev z4:=@if_pos
abbrev z5:=@List.mem_map
abbrev y3:=@if_neg
abbrev y6:=@List.map_cons
abbrev xB:=@List.mem_cons
abbrev xC:=@decide_eq_false
abbrev x3:=@decide_eq_true
abbrev x4:=@List.getElem?_set_self
abbrev v3:=@List.size_toArray
abbrev ZY:=@List.map_map
abbrev ZZ:=@Nat.lt_succ_of_lt
abbrev Z0:=@Nat.lt_of_lt_of_le
abbrev Z1:=@List.mem_append
abbrev Z2:=@List.length_cons
abbrev Z3:=@Nat.lt_trans
abbrev Z4:=@List.pairwise_cons
abbrev Z5:=@List.filter_eq_self
abbrev Z6:=@Nat.zero_add
abbrev Z7:=@Bool.false_ne_true
abbrev Z8:=@PySem.PassesOwn.never
abbrev Z9:=@Nat.lt_succ_self
abbrev YA:=@Nat.ne_of_gt
abbrev YB:=@Bool.and_eq_true
abbrev YC:=@List.lookup_cons
abbrev YD:=@List.getElem?_eq_none
abbrev YE:=@List.mem_singleton
abbrev YF:=@Nat.lt_irrefl
abbrev YG:=@PySem.sizeLine_eq
abbrev YH:=@Bool.false_eq_true
abbrev YI:=@PySem.Heap.size_push
abbrev YJ:=@PySem.W.mg_none_of
abbrev YK:=@PySem.Heap.get?_update_ne
abbrev YL:=@PySem.wpAny_callSpecial?_slot
abbrev YM:=@List.getElem_mem
abbrev YN:=@List.mem_filter
abbrev YO:=@PySem.Heap.get?_push_ne
abbrev YP:=@PySem.wpAny_call_entry
abbrev YQ:=@List.map_congr_left
abbrev YR:=@Nat.zero_le
abbrev YS:=@decide_eq_true_eq
abbrev YT:=@List.getElem?_range
abbrev YU:=@List.mem_range
abbrev YV:=@PySem.wpAny_newObj_type
abbrev YW:=@PySem.Heap.size_update
abbrev YX:=@List.ext_getElem?
abbrev YY:=@Eq.trans
abbrev YZ:=@PySem.wpAny_holding
abbrev Y0:=@List.nodup_iff_pairwise_ne
abbrev Y1:=@List.mem_append_right
abbrev Y2:=@Array.getElem?_eq_getElem
abbrev Y3:=@List.nodup_cons
abbrev Y4:=@of_decide_eq_true
abbrev Y5:=@List.pairwise_map
abbrev Y6:=@PySem.Heap.get?_update_self
abbrev Y7:=@List.length_set
abbrev Y8:=@Option.some.injEq
abbrev Y9:=@List.pairwise_append
abbrev XA:=@List.append_nil
abbrev XB:=@List.filter_cons
abbrev XE:=@List.replicate_succ
abbrev XF:=@Nat.le_of_lt
abbrev XG:=@PyProof.Rows.callWith_type1
abbrev XH:=@if_true
abbrev XI:=@PySem.isSubtype_type
abbrev XJ:=@PySem.wpAny_ite_split
abbrev XO:=@Ne.symm
abbrev XR:=@PySem.wpAny_field
abbrev XS:=@PySem.wpAny_setState_of
abbrev XU:=@List.length_filter_le
abbrev XW:=@PyProof.Rows.get?_update_seq
abbrev XX:=@List.mem_filterMap
abbrev XY:=@PySem.wpAny_pyIter_tuple
abbrev XZ:=@if_false
abbrev X0:=@Nat.le_add_right
abbrev X1:=@List.length_eq_zero_iff
abbrev X2:=@List.sum_cons
abbrev X3:=@List.map_nil
abbrev X4:=@List.nodup_append
abbrev X5:=@PySem.wpAny_seqItems
abbrev X6:=@Nat.le_of_lt_succ
abbrev X7:=@List.take_succ_eq_append_getElem
abbrev X8:=@PySem.Heap.SameBut.update
abbrev X9:=@Nat.add_le_add_left
abbrev UO:=@Nat.not_lt_zero
abbrev zb:=@PySem.wpAny_loadPart'
abbrev zo:=@Option.map_some
abbrev yb:=@PySem.call_isinstance
abbrev yh:=@List.cons.injEq
abbrev yi:=@List.range_succ
abbrev yj:=@PyProof.Rows.slot_tuple_getitem
abbrev yo:=@List.length_take
abbrev xb:=@PySem.W.mg_of
abbrev xn:=@Nat.lt_succ_iff_lt_or_eq
abbrev wb:=@Nat.pow_le_pow_right
abbrev wd:=@PySem.wpAny_truthy_bool
abbrev wh:=@List.flatten_cons
abbrev wo:=@Nat.add_sub_cancel_left
abbrev vb:=@List.length_nil
abbrev ve:=@PySem.Str.ofString_eq_toList
abbrev vr:=@List.filterMap_cons
abbrev vy:=@Array.length_toList
abbrev zZa:=@PyProof.Rows.F.plain_set_update_loop
abbrev zZb:=@Nat.add_left_cancel
abbrev zZc:=@Array.getElem?_eq_none
abbrev zZd:=@List.take_of_length_le
abbrev zZe:=@List.all_eq_true
abbrev zZf:=@Nat.not_lt
abbrev zZg:=@PySem.wpAny_mono
abbrev zZh:=@PySem.F.slot_tuple_iterator_next
abbrev zZi:=@PySem.wpAny_setField
abbrev zZj:=@Nat.lt_of_le_of_ne
abbrev zZk:=@PySem.wpAny_setField_rec
abbrev zZl:=@Int.natCast_nonneg
abbrev zZm:=@Int.emod_lt_of_pos
abbrev zZn:=@List.length_replicate
abbrev zZo:=@List.pairwise_iff_getElem
abbrev zZp:=@PySem.F.slot_dict_getitem
abbrev zZq:=@PySem.wpAny_passesOwn
abbrev zZr:=@List.foldl_cons
abbrev zZs:=@PySem.wpAny_pyIter_list
abbrev zZt:=@Nat.le_succ_of_le
abbrev zZu:=@Int.toNat_natCast
abbrev zZv:=@PySem.Around.under_plainId
abbrev zZw:=@Int.le_refl
abbrev zZx:=@List.set_append_left
abbrev zZy:=@List.all_cons
abbrev zZz:=@List.any_cons
abbrev zYa:=@PySem.wpAny_comprehension_free
abbrev zYb:=@PyProof.Rows.size_push'
abbrev zYc:=@PySem.wpAny_attempt
abbrev zYd:=@PySem.mem_of_lookup
abbrev zYe:=@PySem.wpAny_setEntries_of
abbrev zYf:=@List.cons_append
abbrev zYg:=@List.take_length
abbrev zYh:=@List.not_mem_nil
abbrev zYi:=@List.getElem?_cons_succ
abbrev zYj:=@List.pairwise_lt_range
abbrev zYk:=@PySem.wpAny_Call_Name_kw
abbrev zYl:=@PySem.Heap.get?_update_other
abbrev zYm:=@Nat.add_right_comm
abbrev zYn:=@List.forIn_cons
abbrev zYo:=@PySem.codeAny_builtin
abbrev zYp:=@List.find?_cons
abbrev zYq:=@Int.emod_nonneg
abbrev zYr:=@List.take_append_drop
abbrev zYs:=@List.take_add_one
abbrev zYt:=@Nat.le_succ
abbrev zYu:=@List.getElem?_of_mem
abbrev zYv:=@PySem.wpAny_rule
abbrev zYw:=@Array.perm_iff_toList_perm
abbrev zYx:=@Nat.le_of_eq
abbrev zYy:=@PySem.codeAny_mono
abbrev zYz:=@Nat.le_of_not_lt
abbrev zXa:=@Bool.or_true
abbrev zXb:=@Int.ofNat_le
abbrev zXc:=@List.map_set
abbrev zXd:=@List.drop_eq_getElem_cons
abbrev zXe:=@PySem.Calls.call_function_entry
abbrev zXf:=@Classical.byContradiction
abbrev zXg:=@List.getElem?_zip_eq_some
abbrev zXh:=@Nat.add_lt_add_left
abbrev zXi:=@PyProof.Rows.listUpdate_at
abbrev zXj:=@PySem.wpAny_newList
abbrev zXk:=@PySem.W.KasT.kasWp_bind
abbrev zXl:=@List.filter_map
abbrev zXm:=@PySem.SeqAt.EqAt.int_int
abbrev zXn:=@PySem.typeIs_str
abbrev zXo:=@List.filter_append
abbrev zXp:=@PySem.tupleKind_room_in1
abbrev zXq:=@PySem.Value.isInt_shape
abbrev zXr:=@PySem.wpAny_sequenceKey
abbrev zXs:=@List.nodup_nil
abbrev zXt:=@Int.le_trans
abbrev zXu:=@PySem.fits_of_scanBound
abbrev zXv:=@PySem.call_meets
abbrev zXw:=@PySem.plainId_quiet
abbrev S1:=PySem.Value
abbrev P1:=PySem.Shared
abbrev P2:=PySem.Around
abbrev N3:=PySem.Program
abbrev N6:=PySem.World
section
set_option hygiene false
set_option compiler.extract_closed false
theorem Q0Q(h:True:=by first|exact .inl rfl|exact .inr rfl|assumption):True:=trivial
theorem Q1Q(h:True:=by decide):True:=trivial
theorem Q2Q(h:True:=by intro _;rfl):True:=trivial
theorem Q3Q(h:True:=by rfl):True:=trivial
theorem Q4Q(h:True:=by decide +kernel):True:=trivial
theorem Q5Q(h:True:=by intros;rfl):True:=trivial
theorem Q6Q(h:True:=by intro _ _;rfl):True:=trivial
def en:Nat->Lean.Syntax->List String->List String
|0,_,l=>l
|_,.atom _ v,l=>("a"++v)::l
|_,.ident _ _ x _,l=>("i"++toString x)::l
|n+1,.node _ k s,l=>(match k with|.str `Lean.Parser.Term w=>"t"++w|_=>"n"++toString k)::s.foldr (en n) ("e"::l)
|_,_,l=>l
def de(r:Lean.SourceInfo)(h:Array Lean.Syntax):List String->List (String×Array Lean.Syntax)->Lean.Syntax
|t::l,(k,s)::m=>
 let v:=String.ofList t.toList.tail
 match t.toList.head?,m with
 |some 'n',_=>de r h l ((v,#[])::(k,s)::m)
 |some 't',_=>de r h l (("Lean.Parser.Term."++v,#[])::(k,s)::m)
 |some 'e',(j,u)::q=>de r h l ((j,u.push (.node r k.toName s))::q)
 |some 'a',_=>de r h l ((k,s.push (.atom r v))::m)
 |_,_=>de r h l ((k,s.push (h.getD (["γ","δ"].idxOf v) (Lean.mkIdent v.toName).raw))::m)
|_,(_,s)::_=>s.getD 0 .missing
|_,_=>.missing
local macro_rules
|`('§' [$a,*])=>
 let l:=a.getElems.toList.map λx=>"\n".intercalate (en 999 (if x.raw.isOfKind ``Lean.Parser.Term.paren then x.raw[1] else x.raw) [])
 pure (Lean.quote (k:=`term) ((List.range (l.length/32+1)).map λi=>"\t".intercalate ((l.drop (32*i)).take 32)))
def tb:List String:='§' [(by omega),(by decide),List Int,(by simp),aa 0,aa 1,ME X,aa 2,List Nat,aa 3,aH _,fC (.int 1),mv 0,At K,ZL _,Inv X pins σ H s,OkD P w K mg base,mv 1,mv 2,List.range n,.int i,bm rfl rfl γ,PE X,.int n,(λ_ _=>rfl),mv 3,.ref h.length,fC (.int 0),aa 4,S1->P1->Prop,aa 5,Def P w K mg base,Option D,ZH _,List Addr,List .eO,gN 0,a σ h,h++g,model prog w,aL _,bg n T bs ss,List .gt,fC (.int 2),(by simp;omega),(by decide +kernel),Gl X,List Tie,h++[.lst []],toS l,(by dsimp[rD,RD]),mv 4,z3 ?_,au .eN γ,aa 6,Nat->Nat->Int,OpR X,model X.prog X.w,mv 5,aj rfl rfl γ,aT γ rfl,ss.map bj,.ref f,sIf γ ef bc,.int way,TOk n n 0 T,wpAny .N A,Str->Option S1,List Str,bh γ .qE aC,.ok d,0,dF w n l,bP.bind γ,RDs K ρ H,[none],au .bz γ,eval e,upd H,.ref k,aK s,XD d c n a b,aW ar,Sim prog w A E s,ab .e ar,fC .non,gN 3,mg "len"=none,Option Int,List Expr,aG .h8 γ,.ok .ej,ag bY,RH K ρ H hd,List .bJ,cv rfl γ,starEach [a],fAt .e .B,X.calm=true,.int n,eval a,ag cJ,x == ("__debug__" : Str),fr w.stays n,aa 7,aq γ a .dB,wpAny .af X.A,[w.enc],mv 6,fZ w n s,List .bA,.ref h.length,.inl rfl,aG .aI γ,bA w n s,(λ_=>true),aR rfl rfl γ δ,aG .cI γ,Inv X pins σ,.ok .A,w.stays.map bj,.ref A,aR rfl rfl rfl rfl,{ s with heap:=h' },0,0,NL l,nbs T i,bs.length=n,Array S1,cH (b:=true) γ,upd H p γ,bs.map .int,.ref C,.ref a,ss.length=n,.Name γ p,ag cZ,0,ak rfl rfl,Nat × Int,.ref tk,x::xs,(∀x∈ss,x=none\/x=some 0\/x=some 1),ae .m γ,RD K ρ H,ag oNe,ag oEq,s.heap.objs.size+1,List Nat,(λ_ _ _ _=>trivial),EP X pins σ Q,ak rfl .eN,ns.map V.int,NL v,.int j,[.ref a],gN 6,mg "range"=none,A.handled=none,.cT γ [a],List.range γ,YO _ _ _,Ext ρ H,Kp ρ H,YJ X G,h++[.lst .gs],cxC X .jW scope cl C s H ex,ab .e .cB,fC (.int 4),aP .m am .y,.lst .bs,l.map (·.2),ak rfl γ,bI rfl γ,YK _ _ _ _,cu.a (bQ.cons rfl rfl bQ.nil),(by simp[SZ];omega),ss.getD i none,.str x,eval o X.env,.int c,g.below .a,.dcT mm,.int a,bP.bind p,gT [0,1],.lst xs,aM .dz,g i j,Option Addr,HOk P w H h,.lst l,List.replicate γ δ,aj γ rfl rfl,0,.builtin γ,Kp.same γ,ak γ rfl,PySem.W.nsIn K mainGlobals,StateT S m,ab .e,.nx σ,ab .f ar,.ref lk,fAt .e .l,tx i,List Int,ns.map .int,.ref q,gN 5,gN 4,rf Z,["web"],eqU x,aa 8,Nat × Int,List .mB,List .qm,List .cF,SetTable,.Call γ δ [] pos,sIf γ .gu bc,ag oEq .f γ,bh γ .qC aC,aZ c8 eB γ δ,aG .cJ γ,h pins s σ H,aG .qr,tb w n,aq d a,aq c a,ae .r,Q .DE,[116,105,101,32],Ho w n h d mm f g,ae .s ao,bC st,aM rfl,K w.params,av bG .aG,.ref d,dD w n s,.tup xs,.lst .aj,ZI e,.bl b,some k,NL .aZ,mg "tuple"=none,ME X e f,.inr rfl,0,.int i,.Attribute o γ apos,bD 1 [] γ .K [] δ,aQ .rY gm γ δ .O,gw γ .dn,I.ok.hd γ,PySem.W.keepIn K,w.stays.getD i,k _ _ .a8,aG .h8,aj rfl rfl rfl,ae .m .ei,ae .m ao,ab .h ar,.ref s.heap.objs.size,{ s with toks:=s.toks+1 },c6 .b,cM (lOf .f),.lst l,jc n T,I.hok.fresh .o,0,[115,116,97,121],["web","thing"],.int one,bs.map D.int,.str w::W,Str × V,some v,z0.mp e,0,aJ rfl,mv 7,kyT k,kyL l,RD K ρ H d v,PE X a ta,List .DD,Array Nat,List Env,Nat->Int,.head _,.Subscript γ δ pos,compareOp γ,bu w n s γ,bA w n s γ,h.set n γ,aG .g6 γ,PySem.W.findIn K .bt,.ok false,absurd z,.ok true,XL S0 td dk f j .gq .jV (some (.ref q)) none none,fC (.int 3),[.ref (Z+n),.ref bk,.ref sk],ae .r ao,.bl true,some .bh,h ++ .lst .hX::g,(by simpa using e),dq .e,aP .r am .y,.lst .bO,0,.int x,bA w n s k,.ref I,.int v,x σ h,rD X.K,ZH _ e,YR _,Stt n bk sk dk k M T bs ss h,(∀b∈bs,b.natAbs<10^60),X.N[i]?=some x,Ch w n l,.Name x pos,.ref A,.tail _ γ,aZ jp uQ γ am,Ext.same γ,aZ gW gX γ δ,ie P w K mg base,attributeBase o,br [32],.ok .x,bI rfl rfl,Addr × Obj,(λ_ _ _ _ z=>by rw[(aI bp) _ _ _ _ z];decide),fC (.int (-1)),((bu w n s (t+2)).map aK),(λp=>(Sum.inl p.1:Key)),aP .s am .y,zm5 La Lb s.heap a b,he pins s σ H _ I h,[some w.enc,some .aB],l.map .int,(by rw[z];exact YF _),cM (lOf .e),.lst .hX,(λ_ z=>nomatch z),txs v,(λx=>x.1.isSome),.ref n,L.map .str,(by simp[z]),(λx => !x.1),.builtin id,sS _ _ _,.ref c,.ref it,av bM .aG,popK k,ρ++[p],O.arr s,.ref b,some x,b σ h,ax .gp,.dK b,mg "isinstance"=none,RDs K ρ H l vs,Option Nat,List Stmt,.bw x,aQ .rA cO γ δ .O,.Assign γ e pos,Ts.byK (·.1) γ,XL S0 td dk f j,[some w.enc,some (.ref k),some .qa,some (.str b),some (.ref A)],LLs n T bs ss,{ s with heap:=h',toks:=t' },kU rfl (cD ay (cD ay iU)),[some w.enc,some (.ref c),some (.ref d),some (.ref m),some .A,some .h2,y],ab .l ar,((ns.map tx).map D.str),[116,105,101],((.e2).map .str),fAt .e .R,.head _,w.ties.getD m [],a == sysModules,ab .j ar,h++[.lst .bg],e::es,l.map D.int,ae .m .c8,toString i,ak rfl .bz,model P w,cF.outE p,.tup vs,(λ_=>rfl),r.map pS,.frz o u,.lst ys,z0.mp c,vs++dvs,other+1,I.tok _,.dcT a,e σ h,List D,i+1+k,emb t,Def P w K mg base "many_of" 1 1 bG,Lw Z n M bs ss bk sk T w td h,cu X scope own capn caps,h[k]?=some .mH,i.natAbs<10^60,Lay n bk sk dk,Array .wc,List .vu,FuncData,.int k tk,.int way,.ref k,bP.bind (R:=rD X.K) γ,Ts.insK (·.1) γ δ,.uT γ pos,.fq .r γ,EP X pins σ Q,Ho w n h d mm,same a b,.ok .non,.ok .mK,bx (ca ao (λ_ _ _ _ z=>by rw[bp _ _ _ _ z];decide)),some (.str X),[([102,114,101,101],none),([115,116,97,121,115,32,48],some 0),([115,116,97,121,115,32,49],some 1)],((bu w n s (k+2)).map aK),Option Int,aY (fC (.bl false)),some (.ref (n+2)),[some w.enc,some .aC,none,none,none],[some c,some .aB,some .bh,some .u],[some (.str .cE),some (.str l)],[some .cC,some .x,some .A,some .DA,a],.str X,List Nat × List Nat × D,.type .gD,tyS t,((.t).map λi=>.ref (A+i)),intKind prog w,(by simpa using h1),[116,117,114,110],br [10] (bK n T bs ss),ab .e .dC,aj rfl rfl .dF,[.Subscript o i f],s.heap.push (eJ w),.ref (A+n),qF _ _,T.take i,[98,97,114],hb.set d .ch,h++[.lst .eR],(by kernel_rfl),a.mono .b,eV P w,[w.enc,.int p],(λp=>kyT p.1),(by simp[SZ]),Str × Addr,.lst .cK,dP st,[w.enc,aK s],["_law_one"],ab .h .b2,gh M n i,gN 1,.lst vs,["person"],eX rfl _,ZJ _ rfl,Y3.mp nd,.ref l,.own x,[111,107],l.map f,us++ds,bT rfl,bS b,.tup l,.ref t,lo+hi,Def P w K mg base "is_between" 2 3 bq,(∀f s,S2 .hU f s n=S2 .hU s f n),o=none\/o=some 0\/o=some 1,Md Z n M bs ss bk sk h,t.fits es.size=true,a σ h=.ok .r7 h1,X.A.units+1<cLine,Loc X.env.scope x,mg "str"=none,mg "int"=none,Array Keyed,Array .ku,X.N.Nodup,PE X b tb,List .DC,.BoolOp γ δ pos,.Compare a γ δ pos,.ref lk,.dct l,.ref q,.ListComp γ δ scope pos,RDs.cons γ RDs.nil,aQ (bS c) cO γ δ .O,Obj.mapSeq γ,PySem.W.fnOf n n .nh .g1 .c9 .none,congrArg List.length,PySem.W.codeIn K,starEach .fJ,RDs.cons .vm,AF prog w led,h.extBut _ _,I.cell x c,TOk n n 0,(([e]:List Expr).length+([]:List Keyword).length+.l6<30),(λi=>w.ties.getD i []),[some w.enc,some .aC,some .A,some (aK (bA w n s (k+2))),none],some (.ref (n+1)),T.map bL,((.qj).getD i []),fC (.str .j3),fC (.int 7),cM (lOf .j),.int (p:Nat),.ref g.length,aj rfl rfl (jv .b .b),backTo pos .ml,[115,116,97,121,115,32],seqObj "list" #[] 0,gN 2,.ob [w.enc],[115,104,111,119],[112,101,114,115,111,110],(by dsimp[rD,RD];rfl),fAt .h .B,fS own.length caps σd,0,ae am ao,.builtin "sorted",[(false,eval a X.env)],s.heap.objs.size + 1,aP .b4 .z .y,z3 ⟨_,rfl,z3 h⟩,tE (ag nC .f .aH),0,(by simpa using a),List.range l.length,.int base,((a::L).map .str),0,spF K F np,Nat × Nat × Nat,(by rw[YG];decide),(λx y=>a x<=a y),ZS (X9 .b _) a,Str × NameKind,cM (lOf .cD),["web","person"],(λa b=>a.1<b.1),br [32] (a::L),((.qf).map D.int),kz.zip vs,ae .z ao,ji T a b x,iD M a b x,(λ_=>.bl true),[121,101,115],aT [32] rfl,((.gP).map bL),p.getD i 0,(by simp[c]),av fE .gJ,ae .Z ao,Int × Int,.int y,.ref dk,some .gA,some .cd,some .ak,s.trans k,r.trans j,ps.zip us,Sum.inl k,Str × S1,.ref z,[some .aB],tb w n l,ph M n n,h.length,f σd hd,dD w n a,O.pend s,[110,111],κ × V,.type T,.ref x,((i:Int)),[.ref p],t σ h,r σ h,.dcT l,Def P w K mg base "stays_of" 1 1 bM,List V->Hp->VK->Prop,RS K ρ H σd hd σ,a σ h=.ok .e4 h1,tg x σ=some σ',mg "list"=none,far i t=some j,Int->Int->Int,β->Hp->Prop,OpR X .DF r,LP n M n 0 T,X.mg x=none,PA X .fJ t,.Tuple elts tk tp,.lst .fv,.lst .eX,.ob [d],.dT kvs,.ref tk,.eF a,aQ pJ pL γ dH .O,starEach γ X.env,aR γ rfl rfl rfl,aZ dw dy γ am,cE G.W G.S F γ,.cT γ [a,b],backTo γ .vo,cT rfl γ .kM,cT rfl γ .y2,Md Z n M bs ss bk,starEach [a,b],gu g all tg b,starEach [b],sIx l.length,IsTup s.heap,BindsTo s fd,backTo cpos,bQ X scope,aG (gN 11),some (.str x),own++capn,[some S0,some p1,some .am,some .x,some (.ref (A+n)),some (.ref tk),some (.int one),some .u,some (.int v),none,none,none],s.heap.push { cls:=.type "tuple_iterator",data:=.fields #[.ref l,.int 0 0] },[some (.int c),some .am,some (.int m),some (.int base),some .bh,some (.int z),some .u],fC (.str [98,97,114,32]),XL S0 td dk f j .gq .jV none none none,(λ_ _ _ _ z=>by rw[(aI (aI bp)) _ _ _ _ z];decide),[102,114,101,101],(by rw[e];rfl),some (.int F),Obj.mapSeq λ_=>#[],[some .cC,some (.int a),some .x,some .A,some .mb,some (.str (dS b))],[some .cC,some (.int a),some .x,some .A,some .mb,some .aB],cxC X .jW scope cl O.objs.size f F L,fAt .f .e,pickOrder .qv es,fC (.int 5),s.heap.push PySem.W.emptyDict,ov d f H,[some .cC,some .x,some .A,some .vi,some (bL t)],((l.zip k).map λp=>.tup [p.1,p.2]),SetTable.grown c.size,tE (ag nC .e .aH),[115,116,97,110,100],eQ .e (aW .cB),ag oEq (ag bY .f .R) .l,(((.mj).map f++[x]).map .int),.ref (h.length+2),fAt .f .B,(by dsimp[v3]<;>omega),[some (.tup [.ref a,t])],dm (tE (i6 .list .f)),[(tE (ag oLt .h .e))],(λa b=>lexLt a b=true),Int × S1,some (.ref l.length),l.map λc=>D.str [c],(λz=>decide (a z=k)),((bU .da).trans rfl),tupleKind .gV,["_law_model_here"],ab .B ar,nW es ep t,X.map .str,ab .E ar,ae .m .ig,fAt .C .ac,fAt .h .l,.str .cE,aZ dw dy .r am,.tup (k.map kV),((c::L).map .str),cN .r,aq b a .dA,p.getD (m-1) 0,h++[bJ.lst []],binaryOp .Add,aP .s fO .y,I.ok.bs b o e,.bool true,XD f c n a b,["_law_some"],ns.getD i 0,iH i r,fAt .f .l,cu.a bQ.nil,ak rfl .bM,aT .j3 rfl,L.map D.str,Ai c.heap H,((.dI).map bL),((.gF).hash k),p.getD m 0,p.getD k 0,l.getD i 0,bA w n s i,.dK kvs,((.mj).map f),[.lit .cG],upd H a o,f _ _ .b,av cQ .aG,(λ_=>#[]),z0.mp hd,X.wish E,.tup .eh,[.ref k],[p.1,p.2],[(.P).enc],["thing"],z0.mp f,nG N vs,fr ss n,fI .da,c/256%4,0,.tup ys,(∀{f fd},Fun K n n st f fd->ie P w K mg base CX0 k f fd ps .it),ie X.prog X.w X.K X.mg X.base CX k f fd ps sp,PassesOwn .af X.A X.env X.xe,(∀x∈L,x.length<=200),X.A.units+24<cLine,h[dk]?=some .h9,En P w K mg base,jU X.K fd ps ds,a σ h=.ok x h1,a σ h=.ok l h1,Unit->P1->Prop,Int->Int->Bool,Addr->Hp->Prop,mg "all"=none,It->Hp->Prop,Option Expr,.bw "sorted",.uT .cd p1,a.map (·.2),.type .gD,YV ?_ .re,.ref (Z+n),.d5 a b,.lst .bg,aQ .hi cO .r γ .O,.Slice lo hi none γ,cT rfl γ (cN .b4),.BinOp a γ b pos,backToKw γ .qi,absurd (show false=true from f),SetTable.below t.place,SetTable.below xs,BD n bk sk dk k h,PySem.W.isFn K,eR prog w led,starEach [e],fL P w H h a,(if ([]:List Keyword).isEmpty then 0 else 1),XM S0 mo way n .hW m q p .gv o (some (.ref u.length)),[some (.ref lk),some (.int a),some (.int n),some (.ref h.length),none,none],[110,111,98,111,100,121],aj .h4 rfl .dF,.int ((a+i:Nat):Int),XT d s Z n bk sk .ek (some .u) .j5 (some (.int p)),XM S0 mo way n .hW J q p .gv none none,(λ_ _ _ _ z=>by rw[(aI (aI (aI (aI bp)))) _ _ _ _ z];decide),[some w.enc,some .ak,some (.ref d),some (.ref z.1),none],fAt .h (fC (.int (-2))),tE (ag oEq (ag bY (ag iJ .h (fC (.int 64))) .R) .l),A.under (.builtin "type.__call__" ⟨.ref C::us,a⟩),List.range i,0,starEach es X.env,upd .ke g.objs.size (.lst (d.map V.ref)),[112,101,111,112,108,101,32],XT d s Z n bk sk .ek (some .u) b c,[(false,eval a X.env),(false,eval b X.env)],ps.map λ(k:Nat)=>Value.int k 0,.ref d.length,[115,119,97,121,115],ag bY .f .b3,[(tE (ag oNe (dv .e pNo (pAt .R)) .f))],l.map λp=>if p.1=k then (p.1,f) else p,(λw g=>nH i j r e w .mx),(by simpa using g),[102,101,119,101,115,116],[some (.str w),some (.str L),some .A],[some .cC,some .x,some .A,none,none],Int × D,List.range (T.length+(r+1)),[some f,some .x,some .A,a,b,c,none],d.length<=sizeLine->R (Ite X.K a) c,d.length<=sizeLine->R (ItL X.K a) c,Builtin.SmallTypes.nextOf (.ref it),.lst .bm,w.stays.getD i none,.ref f.length,.bl false,((bu w n (dF w n c) (t+2)).map aK),[some .gA,some .A,some .x,some .mr,some .mJ,some .h3,some .DB],(λb o hb e=>(sb.2 b hb).trans e),h++[.lst ((bu w n s 2).map aK)],.ins C dx fs,[some td,some .aC,some .A,x],(by dsimp[rD,RD];rw[ve];rfl),[110,111,110,101],.ob [(.P).enc],((.t).map λj=>M i j*s.getD j 0),[some w.enc,some .A,some .u],[some (.ref lk),some (.ref k)],cT rfl b (cN .z),.ref (h.length+1),seqObj "list" vs.toArray 0,rT λ_ _=>by dsimp[RD],{ s with heap:=G,toks:=tk },seqObj "list" g.toArray 0,seqObj "list" d.toArray 0,Str.ofString "Desk",fC (.str .l9),h++[.lst (Y.map .str)],h++[.lst .kD],(by rw[r.len];exact hlt),List Key × Addr × S1,some (.int c),["web","word","things"],fAt (fAt .f .R) .e,((bU t).trans rfl),0,[(false,eval b X.env)],s.heap.update a .j6,fN st,[98,97,114,32],[.Constant .cd j p1],seqObj "list" #[] M,(by cases L<;>decide),aR rfl rfl (aF C) I,.bl (!decide (a=b)),0,((ji S a b x).map bL),assignEach a X.env,jo [10] (lOf .h),ForInStep.yield r,((.mj).map (dh w s)),{ f with heap:=i },[s.heap.objs.size],[.Subscript o i g],0,h++[a]++[b]++[c],compareOp .NotIn,(by simpa using h),(by simpa using c),aZ dw dy .ag am,ZM (lh _ _) G.n8,(λb u q=>ZH _ q),stC own caps σ,some (-(k:Int)),l.map λ_=>true,ag oNe .j .mg,((p,w)::P.zip vs),h++[.lst .eX],["web","stand"],σ.set i .dR,(by rw[q];simp),(by rw[e];simp),ag cJ .f .h,aP .z am .y,[w.enc,.ref k],[.Name x pos'],(λ_ _=>False),rs.getD i [],jR G.W G.S C,fR rfl a .z,eval i X.env,eval e X.env,List.range k,.lst (NL ch),toS l=toS k,tOp r ta tb,r.map V.int,pyNext .et,k+xs.length,bs.map V.bl,aT .fB rfl,Option Bool,NL (v++[p]),I.hok b u e,0,lD kvs k v,k.trans ex,insK a x l,0,i σ H Q q,failedOf s,cE W S F k,ae am .ig,0,T.lookup l,["self","text"],zXn _ _ _,some .cH,line w ns,k.trans h,0,j b o e a,g.below h,g.below d,e.trans b,cut l i j,bs.map lS,bs.all id,bP.bind o,av eZ .aG,(λ_ q=>q),κ × S1,ph M n k,l.map uS,jC M i k,chL ss n,br sp ss,au .bz e,Z3 b.2 c,X.map bL,S.map bL,Int × V,.str wOk,.int i t,(∀b u,h.get? b=some u->h'.get? b=some u),IsPair s.heap TI (.ref i1) (.ref i2),Def P w K mg base "ties_once" 2 1 cQ,Def P w K mg base "bars_of" 1 1 dZ,Def P w K mg base "web_of" 5 4 fW,(∀i σ h,P i σ h->dC g all h),(∀σ H Q,u σ H Q->t σ H Q),eR prog w (jB w) q ns s.heap,ZipApart z TI TO i1 i2 l1 l2,IsZip s.heap z TI TO .none,behindInMarks op b=false,s.heap.get? q=some .kC,V->List V->Hp->VK->Prop,X.mg "enumerate"=none,It2 Lb s.heap i2 l2 k,It2 La s.heap i1 l1 k,Str->Option NameKind,IsPair s.heap TO a b,t σ h=.ok false h1,ns.length<scanBound,Sq2 Lb s.heap l2 ys,Sq2 La s.heap l1 xs,t σ h=.ok true h1,X.mg "sorted"=none,a.length=b.length,a σ h=.nx σ' h',X.mg "range"=none,Nat->Sd->Hd->Prop,mg "sorted"=none,h[lk]?=some .qg,h[dk]?=some .mT,HOk P w H s.heap,Gl X "enumerate",(∀x∈L,32∉x),e σ h=.ok d h',a[n]?=some .dH,X.mg x=some .bh,X.mg "len"=none,Nat->Heap->Prop,A.units+1<cLine,b.natAbs<10^60,Nat->Nat->Bool,Ext ρ H ρ' a,Bool->Hp->Prop,ρ[n]?=some p,Nat->P1->Prop,H a=some .mP,Gl X "sorted",Sq2 L h l xs,L.length<=10,Gl X "range",.bU (.bw "enumerate"),wpAny_fieldsOf a rfl ?_,zF (wpAny_onRaise ?_),.UnaryOp .Not a pos,.cT .fp .fJ,zZi a rfl .d ?_,.Dict [] [] pos,(byK (·.1) .iE),.hB .Or .xz,.hB .Or .we,.hC [op] [b],.bw "range",.ref d.length,.type "list",m.map (·.2),.type "int",.uZ .xz,.uZ .we,.ref (A+n),iV (t:=.list) rfl γ rfl δ .T .r,upd H s.heap.objs.size γ,eR X.prog X.w (jB X.w) γ δ,YP dX γ mF ?_ (oM _),lE (sp:=[32]) rfl γ,assignEach γ X.env,I.base.there b o e,.cons ⟨t,rfl⟩,j.hp.cel n _ a c,Ts.insK (·.1) x,.ok (.str .qz),dC .dj (wz Z),B1 X r x p pos,D.tup [.int t,.str b,.ref A],ab .B (ab .l (ab .aH (ab .aH (ab .aH (ab .aH (ab .aH ar)))))),tOr (tE (ag oEq .e (fC (.str [115,116,97,110,100])))) (jS (tE (ag oEq .e (fC (.str [115,116,97,121])))) (tE (ag oEq .f (fC (.str [102,114,101,101]))))),(((sIx a.size 0 lo:Nat):Int) == 0&&(1:Int) == 1&&(sIx a.size a.size hi-sIx a.size 0 lo) == a.size),names.map λ(n,k)=>if (k == NameKind.free&&env.scope.kind == .function&&env.kindOf n == some .cell) then (n,NameKind.cell) else (n,k),((.t).map λi=>b2i (decide (i∈c))),.lst .fv,ig (ab (fC (.str [116,105,101])) (ab (fC (.str [98,97,114])) (ab (fC (.str [115,116,97,121])) ar))),keywordEach [] X.env,((.t).map λi=>c5 .bn),av fg (ab (av bV (ab .e (ab .eg ar))) (ab .h (ab .j (ab .h0 ar)))),g++[.lst [.int (p:Nat)],.lst .bm],List Int × D,av fg (ab (av bV (ab .e (ab .R ar))) (ab .h (ab .j (ab (fC (.int 2001)) ar)))),ab .B (ab (ag cJ .l (ag bY .E (fC (.int 400)))) ar),[some (.int c),some .am,some (.int m),some (.int base),some .bh,some (.int j),none],s.heap.push { cls:=.type "range",data:=.fields #[.int lo t,.int hi u,.int 1 v] },gN 8,((a.toList.drop (sIx a.size 0 lo)).take (sIx a.size a.size hi-sIx a.size 0 lo)),{ a with heap:=a.heap.push { cls:=.type "slice",data:=.fields #[d,c,.none] } },c == NameKind.free&&env.scope.kind == .function&&env.kindOf n == some .cell,w.params.setOrder q ep,(if bA w n s (t+1)=bA w n s t then [114,101,115,116] else [112,97,105,114]),occurrences a ⟨#[c]⟩ 0 a.length (a.length+1),A.deeper (envOfC x .c9 s.heap.objs.size f a),br [10] (bK n .dI bs ss),(by have:=congrArg (λ(s:Str)=>s.cps.toList) q;simpa[toS] using this),bD 1 [] (cU .cD) .K [] (ag cV .j0 .en),ah (aD jA),HT.sIx xs.length 0 lo=0/\HT.sIx xs.length xs.length hi=xs.length,ah cG,d.set (A+one) (.lst (((gh M1 n one).map .int).set i (.int v))),jS (tE (ag oLt .mt .R)) (tE (ag oNe .j .C)),ag cJ .l .h1,[some td,some .aC,some .A,some (aK (bA w n s (k+2)))],fC (.int 2147483647),PySem.W.instObj C s.heap.objs.size,[some .u,some (bj .mI),some .aB],ab (fC (.int 30)) ar,Ts.byK (λz:Nat × List Nat=>(z.2.length:Int)) Z,tOr (tE (ag oIn .e .h)) (tE (ag oEq .f .l)),An CX P w K mg base N a scope f c A outer s H E,[some td,some .aB,some (aK (dF w n c)),some .bh],ds.map some++List.replicate (n-ds.length) none,(λk=>(f.getD k 0+s.getD k 0)*w.bars.getD k 0),aW (bD 1 [] (cU .E) .K [] (fIx .qb .e)),[some (.str X),none,none,none,none,none,none],h++g++k++[.lst (rf d)]++[.lst (rf Z++rf d)],dm (tE (mr (fAt .e .j) (fC (.str .c6)))),(if k=f then (k,v)::r else (k,x)::nA f v r),f.2 b (ZN (Z0 .dh (I.ok.cab x c L t))),.ref f.heap.objs.size,av hV (ab .e (ab .C ar)),.builtin "object.__class__",envOfC qual scope s.heap.objs.size f cd,(by rw[z];exact d),[some .cC,some .x,some .A,some .vi,a],upd (upd j i (.own x)) x (.ins C i []),dR .j0 (dR .en rM),Value.ref l == Value.none,ag kO .B (fAt .j (fC (.int (-2)))),XT d s Z n bk sk .ek none none none,l.foldl (λacc x=>insK a x acc) acc,h++[.lst ((bu w n s (k+3)).map aK)],(((List.range (i+1)).map f).map .int),jT bO .h (ab (fC (.str .ia)) ar),(by size_fits),bm rfl rfl (aJ (aR .bi rfl rfl q)),.int (k+1:Nat),{ s with heap:=s.heap.push (eJ w) },(λz=>by subst z;rw[G]at n;cases n),(λz=>by subst z;rw[G]at e;cases e),f.2 b (ZN (Z0 .dh I.ok.above)),cxC X (own++[]) scope cl C s H ex,bD 1 [] (cU .e) .K [] .en,[(tE (ag oEq (fAt .h .e) .l))],[103,114,101,97,116,101,115,116],h++[.lst ((DR ss l).map .int)],[some c,some .aB,some .bh,none],[48,49,50,51,52,53,54,55,56,57],p x=true->e σ' h=.ok (f x) h,0,x == ("__classdict__" : Str),(if t-402>0 then t-402 else 0),((gh M n a).map .int),(λz=>by rw[z,h]at e;cases e),seqObj "tuple" vs.toArray 0,Z.map λz=>(z.2.length:Int),bS a,["web","m","chosen","known"],(λk=>f.getD k 0*s.getD k 0),tOr .ki (tE (av c9 .aG)),ss.map λx=>V.str (toS x),h++[.lst ((.de).map .int)],(by rw[e];exact True.intro),apos.endLine == cpos.line,.int l.length,((.e9).trans (by rw[xC n1])),[some w.enc,some .A,none],(λh=>dC o l h/\dC o' k h),sliceBounds lo hi none n,ah (aD (aP .b4 .r .y)),ag kO .B (fAt .j .eQ),[112,101,111,112,108,101],(λi=>(.P).ties.getD i []),(λf vs=>PySem.call f vs),f (.int i t) (.int j u),List.range (l.length-1),((.t).map λi=>.ref (0+i)),[110,117,109,98,101,114],[(tE (ag oEq .eZ .f))],["web","stand","person"],dU b,apos.endLine == a.line,List.range h.objs.size,F.args_str_split_2 _ _,tdM n bk sk,tE (ag oEq .mt .eg),dm (tE (i6 .str .e)),I.base.free b o e n a,.type "str",.str l,((bs.set p x).map .int),fC (.str .mS),[some w.enc,none,none],[some .bh,some (bL t)],[[115,116,97,110,100]],l.take k.length == k,l.map λ_=>D.bl true,(by rw[XI];kernel_rfl),ae .eT (ae .eT ao),PySem.W.instObj C dx,List.range ss.length,List D × Option Nat,Ho w n h d mm f .ql,[114,101,115,116,115],i pins s σ H _ I h,((xs.filter p).map f),0,((ss.set p x).map bj),[112,97,105,114,115],[108,101,97,115,116],s.heap.objs.size+3,k.length<=l.length,backToKw cpos .qi,aJ (jr (bI rfl r)),fAt .fD .j,.ob [w'.enc],.int (M i j),{ s with drawn:=c },[w.enc,aK s,.int p],[115,116,97,121,32],(λz=>by simp at z),relayAll d c .kh,r.cel m c a q1 q2,i8 .s (nO am) nN,cH (b:=true) .da,(by simp[pure?,fK]),Ho w n h d mm a g,((i:Int)+(m:Int)*1),(λi=>ns.getD i 0),w.ties.getD p [],upd H d (.lst b),upd H B (.lst d),rS xs lo hi,eQ .j (aW .kE),d.ties.getD p [],c.ties.getD p [],(by simpa using b),(by rw[z];exact f),(by rw[z];exact b),args_list_sort _,aZ c8 eB am .mX,aP .ik .Z .y,aP .Z .a4 .y,List.toArray .t,AO rfl b .r .s,((.aj).set a (bj o)),(λk=>s.getD k 0),(λk=>f.getD k 0),(λb o e=>ZH _ e),(λ_ _ q=>ZH _ q),w.bars.map .int,r.cel n c a d f,c.hok.fresh .o,(by rw[YG];omega),bg n .iG bs ss,backToKw a .qi,au .bz (p5 W _),ag oIn .E .j,ag oEq .j .vq,ag oEq .e .aE,Ts.byK_perm _ _,[112,97,114,116],[108,101,97,102],toS x == toS y,gp (ns.take i),fC (.str .ms),f b _ q λz=>z,eG (av cI .b2),br [32] (c::L),args_sorted1 _,TP X pins σ Q,T.length+(j+1),Str.ofString c,List.toArray q,L++(.kX).map bL,[.int i,.int j],["_law_script"],w.ties.map wF,0,some .bt,s.heap.push o,nJ r.nd hp q2,kas_rev p 0 m,fS nl caps σ,fC (.int 256),dJ rfl (oh f),compareOp .In,chL w.stays n,cT rfl b .kM,(by rw[f];simp),I.freeC x c e,((.fd).getD i 0),["web","some"],["self","row"],gZ (lOf .f),c0 rfl c .z,(by rw[d,zXa]),ak (j _) rfl,aG .cJ .aE,List.range r,48<=c/\c<=57,.lst (NL fr),.ins C dx [],(λz=>a .e6),m.push .h7,keep dk .a,fs.lookup f,fAt .h .R,fAt .e .f,ah (aD .s),ah (aD .z),ae .m .iF,ab .f .dC,ab .e .kB,ab .e .fH,aT [48] rfl,aT .ni rfl,aT .gQ rfl,aT .ms rfl,aT .gH rfl,aT .l9 rfl,aT .c6 rfl,R.getD k [],R.getD i [],.swap x y r,.lst (NL a),((.kX).map bL),!same a b t,(∀b∈ch,.vs/\b≠X.env.locals/\(∀x c,X.env.cells.lookup x=some c->c≠b)/\∀p∈X.pn++pins,p.1≠b),(∀h',(∀b o,b≠I->s.heap.get? b=some o->h'.get? b=some o)->Q none .bj),(∀(g:Hd) (k:Nat),g[k]?=some .AA->eT .DG g=.ok .h3 .DI),(∀y∈scope.names,y.2=.free->∃c,cl.lookup y.1=some c),(∀x c,cl.lookup x=some c->X.env.cells.lookup x=some c),(∀ds h d h',F ds h=.ok d h'->ds.length=np),Def P w K mg base "numbers_behind" 4 2 bW,Def P w K mg base "check_person" 4 2 cI,Def P w K mg base "is_person" 3 2 cR,Def P w K mg base "stay_of" 1 2 f6,PySem.W.keepIn K .ak=true,PySem.W.hasDictIn K C=true,(∀i∈ns,i.natAbs<10^60),(∃u,h'.get? e=some u),(∀t∈T,t.a<n/\t.b<n),ns.length+1<scanBound,h1[n]?=some (.lst b),d.params.defaults=[],aa 0 σ h=.ok .r2 h,L2.Inv X pins σ H s,HOk X.prog X.w H' h',ys.length<=sizeLine,vs.length<=sizeLine,mg "enumerate"=none,E6 s.heap x dx C mA,x σ h=.ok .e4 h1,x σ h1=.ok .e4 b,e=x\/H e=some .hd,l.length<=1000000,a σ h=.ok .u h1,(∀t∈T,t.a<t.b),r σ h=.ok xs h',.DH->Heap->Prop,.Constant γ j δ,aQ (bS e) cO .vE am .O,.bU (.bw "len"),.lst (j.map .int),zYe d rfl fit ?_,.str (qg "None"),.hB .And γ,Bp (f _) eF γ (aH _ eF) .cb,cz none ((.t).map λk:Nat=>D.int k) .K,AH PySem.F.slot_dict_getitem.lookup,yF PySem.F.plainAttrs_list,yF PySem.F.plainAttrs_str,swapsWith e .wz pos.line,PySem.W.findIn K (.ref D),cxC X .jW scope cl C,SortSt.mk' (kindOf s),PySem.W.plainGet K C,ag cZ (fIx (ab .eQ (ab .l (ab (fC (.int (-2))) (ab .eg ar)))) (ag bY .E .b3)) (ag cJ .l (ag bY (ag iJ .E .b3) (fC (.int 400)))),kY (lH (ak (aj (aR rfl rfl (aF E) t) rfl rfl) (ak (aj (aj (aR rfl rfl (aF B) F) (aj (aR rfl rfl (aF E) t) rfl .dF) rfl) rfl rfl) rfl)) .ma .j4) rfl rfl B L,aY (ag cV (ag cV (ag cV (fC (.str [115,116,97,121,32])) (dq .j)) (fC (.str [32]))) (fIx (ab .hZ (ab (fC (.str [48])) (ab (fC (.str [49])) (ab (fC (.str [49])) ar)))) (ag bY .E .b3))),bD 1 [1,2,6] (bZ .h1) .K [] (ag cZ (fAt (fAt .h .j) .e) .ka),aG .qr (fIx (ab .B (ab .B (ab .l (ab .l (ab .R (ab .eg .fz)))))) (ag bY (fAt .E (ag cJ (ag cZ .ac .j) .a0)) .h0)),b == NameKind.free&&env.scope.kind == .function&&env.kindOf n == some .cell,ag bY (ag cJ (ag cJ (ag cJ (ag cZ .E .E) (ag cZ (fC (.int 69621)) .E)) (ag cZ (fC (.int 11)) .ac)) .kc) (fC (.int 2147483549)),aY (ag cV (ag cV (ag cV (ag cV (ag cV (fC (.str .c6)) (dq .j)) (fC (.str [32]))) (dq .C)) (fC (.str [32]))) (dq (fAt (fAt .aT .j) .C))),.int ((1+i:Nat):Int),[some S0,some p1,some (.int way),some (.int n),some q4,some q5,some (.int i),a,b,some (.ref lk),some (.ref tk),none],tOr (tE (ag oNe .id .e)) (dm (tE (uN (bD 1 [] (cU (dv .h (pAt .l) pNo)) .K [] (av ek .aG))))),dR (fC (.str .c6)) (dR .en (dR (fC (.str [32])) (dR (dq .f) (dR (fC (.str [32])) (dR (dq .h) rM))))),(by dsimp[RD]),{ s with heap:=s.heap.push { cls:=.type "range",data:=.fields #[.int lo t,.int hi u,.int 1 v] },toks:=tk },starEach [e] X.env,bD 1 [j] (cU (aa i)) .K [] (aW .kk),fC (.str [112,97,105,114]),aG .cI (ag bY (ag cZ (ag bY .e (fC (.int 2147483629))) (fC (.int 48271))) .qJ),b∈X.ex\/X.s₀.heap.objs.size<=b,An CX0 P w K mg base N x .c9 f a A outer s H E,List Key × V,tOr (tE (ag oNe .dG .l)) (dm (tE (av bq (ab .ko (ab .l .qM))))),[some S0,some p1,some .am,some .x,c,some .bB,some .dN,some .u,some (.int d),none,none,none],av fg (ab (av bV (ab .e .fz)) (ab .h (ab (ag cZ .j .j) (ab (fC (.int 803)) ar)))),[some S0,some p1,some .am,some .x,some .gN,some .bB,some .dN,some .u,b,none,none,none],[some S0,some p1,some .am,some .x,c,some .bB,some .dN,some .u,some .ci,none,none,none],h++[.lst (([line eD [(n:Int)]]++a.map jx++bs.map lS).map D.str),.lst (a.map bL),.lst .bs],isinstance_false_list (by cases t<;>first|exact absurd rfl f|exact ud .b) (jF t) (HU f),fT (tOr (tE (ag oNe (Pt .f .B) (fC (.str [48])))) (tE (ag oEq .e (fC (.str [48]))))),aJ (au (ak rfl (bI (aR rfl rfl (aF i) .gO) (aR rfl rfl (aF i) (ND _ _ _)))) (l g)),aZ dw dy (aZ fV jX .s am) am,[some S0,some (.int mo),some (.int way),none,none,none,none,none,none,none,none,none],tOr (dm (tE (av j5 (ab .f (ab .C ar))))) (dm (tE (av fF (ab .h (ab .C ar))))),aY (ig (ab (fC (.str [110,111,116])) (ab (dv .C (pAt (fC (.int (-2)))) pNo) ar))),[some S0,some p1,some .am,some .x,c,some .bB,some .dN,some .u,b,none,none,none],[some w.enc,some (.int a),some (.int b),some (.int x),some P,some (.ref g.length)],thn (k pos pins s σ H _ I h) λj f ⟨b,l,g,i,q1⟩=>m pins f σ l b j Q g i q1,(λr i=>r=.ok (.ret (.bool true))/\OldK c.heap i.heap/\i.os=c.os/\AllBare i.gens),bQ.cons rfl rfl (bQ.cons rfl rfl bQ.nil),aG .aI (av eT (ab (yx .e) (ab (av gf .dC) (ab (dv .h (pAt .l) pNo) ar)))),jm .fD .j (fIx (ab .aH (ab .B (ab .l .fz))) (ag bY .E .b3)),aY (ag cV (ag cV (ag cV .j0 (dq .j)) (fC (.str [32]))) (dq (fAt .cD .j))),[some .cf,some .am,some (.int m),some .iq,some .bh,some (.int f),some .u],(λ_ _ _ _ z=>by rw[(aI (aI (aI (aI (aI (aI (aI bp))))))) _ _ _ _ z];decide),nU .h (bD 1 [] (cU (av dZ .aG)) .K [] (fFs .q6)),XM S0 mo way n (some (.ref s.length)) m q p .gv o (some (.ref u.length)),[some S0,some d,some .am,some b,some e,none,none,none,none,none,none,none],[some S0,some (.int mo),none,none,none,none,none,none,none,none,none,none],fIx (ab .ac (ab (fC (.str [])) ar)) (uO (ag oEq .ac .m5)),fIf (tE (ag oEq (fAt .h .eQ) .mg)) (fC (.str [114,101,115,116])) .vq,aw Ga (aw Gb (aw Gc (aw Ge (aw Gf (aw Gg (aw A5 (aw A6 (aw A7 IL)))))))),some (.builtin "object.__setattr__"),Ag .B (ag kN (fAt .E (ag cJ (ag cZ .ac .j) .a0)) (fC (.int 402))),h++[.lst ((bK n a bs ss).map D.str),.lst (a.map bL),.lst .bs,.lst .aj],h++[.lst (([line eD [(n:Int)]]++a.map jx).map D.str),.lst (a.map bL)],ah (aD (iK (ae (aT [110,111,116] rfl) (ae (i8 .Z (nO fO) nN) ao)))),Mt (prog:=X.prog) (w:=X.w) (A:=X.A.in1) (I.ok.hd hc) it a N g.toArray,[some (.str X),some (.ref h.length),some (.int n),none,none,none,none],[some .cf,some .am,some (.int m),some .iq,some .bh,some (.int z),y],tE (ag Pq (mj (fAt .e .eQ) pNo (pAt .R)) (mj .f pNo (pAt .R))),[some .cf,some .am,some (.int m),some .iq,some .bh,some .cf,none],ab (fC (.str .fB)) (ab (dq .j) (ab (dq .C) (ab (dq .E) ar))),[some w.enc,some .fa,some .dd,some (.ref u),some .A,some .h2,O],SQ k g I h λv u f x y e l d i q=>j pins f σ e x y v u Q l d i q,Option S1,[some d,some (.int n),some (.ref h.length),some (.int i),a,b,none],a::b::rest,ax (aq d a (ae (aq b a .kF) (ae .s (ae .z .ig)))),XL S0 e h.length .na none none none none none none,[some w.enc,some .aC,some .A,some (aK (bA w n s (t+2))),none],[some .cf,some .am,some (.int m),some .iq,some .bh,none,none],fIf (tE (mr .e (fC (.str [45])))) (vj .e (pAt .l) pNo) .e,dm (tE (uN (bD 1 [0] (cU .f) .K [] (av dA (ab .f .aG))))),dm (tE (av bq (ab (HJ .f) (ab .l (ab (fC (.int 60)) ar))))),ab .f (ab (ag kN .j .l) (ab (aW (eQ .C (aW .aG))) .dC)),gZ (lOf (av bW (ab (fC (.str .fB)) (ab (fAt .e .j) ar)))),XL S0 td dk d (some (.int (k:Int))) none none none none none,[some (.str X),some (.ref h.length),none,none,none,none,none],PySem.W.fnOf x a .nh .g1 .c9 .none kV d pm g b ct,[some (.ref lk),some (.int a),some (.int n),none,none,none],[some .cf,some .am,some (.int m),some .iq,none,none,none],(λh H Q E ⟨ρ,g,i,d,c,e,p⟩=>by rw[<-c.length];exact e),(if -(k:Int)<0 then (-(k:Int)+(l.length:Nat)).toNat else _),aW (bD 1 [] (cU (dv .h (pAt .l) pNo)) .K [] (nE .e)),.bl (!(Builtin.Str.occurrences j i 0 j.length 1).isEmpty),tE (ag oEq (ag bY (ag iJ .h (fC (.int 512))) .R) .l),tE (ag oEq (ag bY (ag iJ .h (fC (.int 128))) .R) .l),some (.Name x pos'),(by rw[typeLookup_type,builtinLookup_eq_fast];kernel_rfl),aW (ab (fFs (dR (fC (.str .mn)) (dR (dq .f) rM))) ar),aM (aj (aR rfl rfl (aF ZG) g) (aR rfl rfl (aF ZG) e) b),Builtin.SmallTypes.ownedTupleIsFree (.ref z) >>= λ_=>_,[some d,some .cf,some .x,some .ci,some (.int b),none],[some a,some b,some c,some (.str z.1),some (.str z.2.1)],[some S0,some e,none,none,none,none,none,none,none,none],tOr (dm (tE (i6 .tuple .f))) (tE (ag oNe .dG .dc)),a.map λb=>if b.1=(Sum.inl k:Key) then (b.1,c) else b,XT d s Z n bk sk .ek (some .u) .j5 (some (.int E)),XM S0 mo way n (some x5) m q p .gv o (some (.ref N)),.int (if j>i then j else i),(λj h1 i=>by simpa using G j .gG (by simpa using i)),[some d,some .aC,none,none,none,none,none,none,none],tE (ag oEq (fAt (av eS .gJ) .B) (fC (.str .gH))),XL S0 e h.length none none none none none none none,((if .vf=true then (n,NameKind.cell) else (n,b))::_),[some w.enc,some .rg,some .fa,some .dd,none,none],[some .h2,some w.enc,some .dd,some .rg,some .fa],c.stays.getD p none=none/\d.stays.getD p none=none,ab .hZ (ab (ag cV (fC (.str .h6)) (CL .ac)) ar),aM (aj rfl rfl (YY (zV (jh l) hd) (by rw[a];rfl))),sIf (tE (ag oEq .C .E)) (aY (fAt .f .h)) bc,aW (bD 1 [3] (bZ .j) .K [] (aW (vT .kB .f))),aP .ag (aZ c8 eB (aZ gW gX .a4 .z) .dV) .y,XT d s Z n bk sk .ek (some .u) .j5 (some .eu),XT d s Z n bk sk .ek (some .u) .j5 (some .er),XM S0 mo way n none none none none none none none,XM S0 mo way n .hW none none none none none none,PySem.W.fnOf name a d body scope R kV l pm M c ct,[some w.enc,some .aC,some .u,some (.int s[i]),c],[some w.enc,some .aB,some .qa,some (.str b),none],(if v<0 then max (v+(n:Int)) 0 else min v (n:Int)),(if v<0 then (v+(n:Int)).toNat else min v.toNat n),bD 1 [1] (bZ .iz) .K [] (uO (ag oIn .e .f)),(λx y H Q=>y=.non/\Q (.bl (!decide (x=.non))) H),(λi u=>D.int (if i∈l\/u=some 1 then 1 else 0)),f++[.lst [.int (p:Nat)]]++[.lst (NL (ch++[p]))],An CX P w K mg base N d scope f C A outer s H E,0,[some .cC,some .ci,some .x,some .A,none,none],(λx y H Q=>y=.non/\Q (.bl (decide (x=.non))) H),rf (Z.filter λz=>decide ((z.2.length:Int)=s)),jm (fAt .aT .C) .j (fAt (fAt .aT .j) .C),f::b::a::some (.int N)::d::c::some (.int O)::r,call (.builtin "isinstance") [u,.type .gD],ag oLt .ka (fAt .f (ag cJ .e .l)),Builtin.SmallTypes.nextOf (.ref i2) >>= λ_=>_,Builtin.SmallTypes.nextOf (.ref i1) >>= λ_=>_,{ s with heap:=h',gens:=g',drawn:=d',toks:=t' },[some w.enc,some (.int n),some (.ref h.length)],[some d,some .cf,some .x,some .ci,none,none],aW (bD 1 [] (cU .C) .K [] (vL (lOf .e))),((((.t).map λk:Nat=>D.int k).filter λ_=>true)),j3 T d .gU .s (ae (aT .my rfl) ao) ik .b,j3 T d .gU .s (ae (aT .ia rfl) ao) ik .b,h.push { cls:=.type "dict",data:=.dict #[] },(by rw[I.ok.glob];exact I.mod.glob.keeps I.bk),aW (ab (ag cV (fC (.str .mn)) (dq .f)) ar),partsBetween a .qx (⟨#[c]⟩:Str).length,bm rfl rfl (sx .nd (aJ (au .bz (mY b h)))),b::rest,a.map λb=>if b.1=kyT k then (b.1,c) else b,((gh .iH n b).map .int),((List.replicate n (none:Option Int)).map bj),aj rfl rfl ((.e9).trans (by rw[xC (DM i)])),Builtin.«zip.__next__» ⟨[.ref z],[]⟩,(((List.range (i+1)).map (dh w s)).map .int),[.Call (.Attribute o "items" apos) [] [] g],spF K (bE ps.length N.length b) ps.length,h++[.lst ([line eD [(n:Int)]].map D.str)],av iC (ab .f (ab (ag cJ .qH .h) .dC)),Builtin.Tuple.tupleItemsOf (.ref t) >>= _,.type "StopIteration",((.mC).map (λj:Nat=>D.int ((1+j:Nat):Int))),[some w.enc,some .mY,some .kn,none,none],[some d,some .cf,some .x,none,none,none],jo [32] (bD 1 [] (cU .a0) .K [] .en),ig (ab .C (ab (aa 9) (ab (aa 11) ar))),eG (jE .E (ig (ab .f (ab .h .fH)))),av bW (ab (fC (.str .gQ)) (ab .q0 ar)),aY (fIf (tE (ag oGt .C .E)) .l .B),XM S0 mo way n .hW J q p none none none,XL S0 td dk f j none none none none none,XL S0 td dk f j .gq none none none none,[some w.enc,some .aC,some .A,none,none],[some w.enc,some .aB,some .qa,none,none],gw (aQ .rY gm .z .Z .O) (.inl rfl),br [32] [Gv,tx (a:Int),tx (b:Int),tx x],(λj h1 a=>by simpa using M j .gG .io),(if v=[] then .l9 else br [32] .e2),fFs (dR (fC (.str .h6)) (dR .en rM)),dm (tE (av bq (ab .j (ab .B .kB)))),ax (bx (ca (ae .r (ae .kN ao)) .j2)),av fW (ab .h (ab .j (ab .C .kE))),[some w.enc,some .ak,some .dd,y,none],jm (fAt .aT .j) .C (fIx .qo .mt),(by rw[List.toList_toArray];exact wx r),av iB (ab .e (ab (fAt .h .eQ) ar)),ag cJ .l (ag bY (ag iJ .h .R) .f),aR rfl rfl (aF K) Q,[bJ.lst .bg,bJ.lst .dk,bJ.dcT []]++g,XM S0 mo way n .hW m q p .gv o none,[⟨some "key",.Name "len" p2,kpos⟩],[some f,none,none,none,none,none,none],[D.int c,D.int way,D.int m,D.int base],jm .cD .j (ag cJ (fAt .cD .j) .va),ij (fH qm Cw am (aP .z fO .y) rfl),(by unfold sortedHeap;simpa using fin),ah (aD (lE (sp:=[10]) rfl (cN .s))),ag bY (ag iJ .f (fC (.int 32))) .h,ab (Qi .f .h) (ab (Ag .f .h) ar),XT d s Z n bk sk none none none none,[some w.enc,some (.str kd),some .kI],[some w.enc,some .mY,none,none,none],[f.heap.objs.size+1,f.heap.objs.size],r.map λp=>if p.1=j then p.2 else 0,q++[.lst ((bK n T bs ss).map .str)],envOfC d scope s.heap.objs.size f C,ax (aZ dw dy (aZ fV jX .r am) .s),I8.pin (b,o) (Y1 _ (Y1 _ (my B e))),[some w.enc,some .aB,some .dd,none],[.Call (.Name "set" p2) [a] [] pos2],upd H q (.lst ((iG ns).map V.int)),p.pin (b,o) (Y1 _ (Y1 _ (my k e))),jT bO .h (ab (fC (.str .my)) ar),(if i<n then some i.toNat else none),fAt .j .ac,av oS (ab .e (ab (av qM .b2) ar)),aj rfl rfl (by rw[e];exact xA _ _),.bl (decide (a<=i)&&decide (i<=b)),((nbs .gP t.a++[(t.b,t.w)]).map uS),(λy=>by subst y;rw[G]at z;cases z),(λp=>if p.1=k then (p.1,v) else p),(λobj=>F.args_object_init_2 obj _),rI (λ_ j=>0<j) λi j=>.int (i%j),kU rfl (cD ay (cD ay (cD ay iU))),h++[.lst [],.lst [.ref h.length]],h++[.lst [.str wSw]]++[.lst .fC],(by rw[List.length_dropLast];omega),((0:Int)∈bA w n (dF w n c) (t+1)),[some (.str w),some (.str L),none],[some .u,some .ci,some (.int b)],tE (ag oEq .f (fC (.str .kj))),bN (bU (aM (aj rfl rfl (pT d)))),ah (aD (bx (HV rfl a (cN .b4)))),.lst (((.t).map (zm T)).map .int),.call (.ref O) ⟨[.ref a],[]⟩,[assign (.Subscript o i f) X.env],w.params.followText "set-order",tE (ag oNe (cM (lOf .E)) .l),sortedHeap s.heap B a a.toArray,cN .m,backTo pos (starEach [b] X.env),ae am (ae (aZ jp uQ .m am) ao),aW (ab .f (ab (av iB .b2) ar)),aW (ab .f (ab (av g6 .b2) ar)),PySem.W.methodObj .ak (.ref y),PySem.Str.ofString "0123456789",PySem.F.args_dict_getitem_2 _ _,["_law_model_here","_law_stand"],(by rw[zYb,YW];exact ZN (ZZ n2)),bx (kC .m (bx (ca .ei .eP))),av eM (ab (aa 9) (ab .kc ar)),ah (bh (cS (cC .kN)) .qE aC),ab .B (ab (ag kN .e .l) ar),XT d s Z n bk sk .ek x6 x7 x8,SqL X.K H p ys\/SqT X.K H p ys,G.update a.heap.objs.size .j6,F.args_tuple_iterator_next_1 _,{ s with heap:=(.kd).push .qK },{ D with nx:=N,ct:=N,bk:=D.nx },[some w.enc,some (.int n),none],["_law_model_here","_law_some"],(λσ p=>σ.set p.1 (some p.2)),backTo pos (starEach i X.env),av jf (ab .f (ab .qH .dC)),av gc (ab .e (ab .ac .dC)),ab .e (ab .id (ab .kH ar)),X L (some (.int (fr[m]:Nat))),((List.replicate n 0).map .int),["web","one","other","weight"],(λd f i e=>fin c g k d f i e),(λb o g e=>(V.2 b g).trans e),(if g=f then some u else mA g),cellsFrom .bI scope.names [],(by simpa using l.length.symm),(by simpa using c.length.symm),ax (bx (ca (ae .gp ao) .eP)),av gc (ab .e (ab .j .dC)),ak rfl (ak rfl (ak .dz rfl)),ae (AJ T .m) (ae .eT .iF),aM (IT (vF (d:=[]) rfl .b)),PySem.F.args_tuple_add_2 _ _,ForInStep.yield ((x.1,a)::r),!t.plain&&decide (es.size>1),xK k t λi=>vs.getD i .none,upd H p (.ins C dx (Au vs)),tE (vK oLe oLe .f .e .h),ss.map λl=>PyData.str .X,ps.map λq=>(q.1,D.int q.2),l.find? λp=>decide (p.1=k),(by rw[cX,x3 .a,x3 .a];rfl),bD own.length caps f g cs e,av jL (ab .f (ab .h .aG)),av g6 (ab .e (ab .kH ar)),av eM (ab .f (ab .eg ar)),SqL K H p vs\/H p=some .fQ,!t.plain&&decide (a.size>1),{ s with heap:=h',toks:=tk },[some c,some .aB,some .bh,Q],[.ref (0+n),.ref bk,.ref sk],seqObj "list" vs.toArray n,oE (v:=.ref A) h hm rfl hd,(if (b:Int)>a then b else a),(if (b:Int)<a then b else a),(if .q7=true then _ else _),h++[bJ.lst [.int (p:Nat)]],(by rw[W.s,<-F.len];exact f),ag oIn .B (fAt .C .eQ),ag cJ .qH (ag cZ .R .h),ag bY (ag iJ .f .b3) .h,ab (yx .e) (ab .id .fH),PySem.W.listOf f.toArray c,G.update h1.objs.size .j6,.dcT (mm++[(kyL l,.bl b)]),((bu w n .au (t+2)).map aK),((bN (eK q2 q3)).trans .dU),[some w.enc,some (.str Lc)],[some c,some .aB,none,none],[[115,116,97,110,100],.kj],["_law_script","_law_most"],(λg k c=>rj c .b .b rfl),vs.toArray.zip vs.toArray,r.map λ(k:Nat)=>rawInt k,(letOwnedTupleGo tg .fb u),l.map λi=>vs.getD i .non,l.any λp=>decide (p.1=k),(if .qd=true then _ else _),c::b::a::some (.int N)::r,(by dsimp[v3,YG];omega),(by rw[e];exact⟨_,y,q⟩),(by rw[ZA];exact ZM l6 .b),(by cases t<;>exact ud .b),ag oGt .dG (fC (.int 9)),a.any λb=>decide (b.1=k),S.filter λt=>!same a b t,List.range (l.length - 1),.lst .e5,{ s with heap:=g,toks:=B },{ s with heap:=G,toks:=d },(λh=>h[n]?=some (.lst l)),h++g++k++[bJ.lst (rf d)],h++[.lst .dP]++[.lst W],eval (.Name x pos) X.env,(by dsimp[YS];exact e),bj (w.stays.getD p none),ah (aD (aP .m .r .y)),ag Jy .e (fC (.str FG)),ae am (ae (nK rfl h) ao),aW (vT (ab .aH ar) .j),List.replicate n.toNat l,{ f with toks:=f.toks+1 },ρ'++[n.heap.objs.size],(λz=>.inr ⟨z.2,z.1⟩),(λz=>.inl ⟨z.2,z.1⟩),ss.getD i none≠some 0,rawInt s.heap.objs.size,rI Vt λi j=>.int (i/j),rI PF λi j=>.int (i*j),nV (.int sl 0) i q n ep,field .i1 3 >>= λ_=>_,field .i1 2 >>= λ_=>_,fAt .E (ag cJ E .a0),dW (au .eN (gU W hp h)),assignEach (e::a) X.env,aT [112,97,105,114] rfl,aA (iw (cv rfl (aF o))),I.base.keep b o e n G w,G.extBut d.extBut Z.i1z,((X++bs.map lS).map .str),[some .cC,some (.int k)],["thing","least","most"],["lines","start","many"],["_law_script","_law_k"],rs.all λx=>!x.isEmpty,eK (cy rfl (aH _ b)) m,(by rw[l];exact c.val k),(by rw[e];simpa using n),(by rw[ZA,C,D,YG];omega),(by rw[<-r.len];exact d),bg n T bs (ss.set p o),bg n T (bs.set p b) ss,args_tuple_getitem _ _,apos.endLine == f.line,aR rfl rfl (aF N.rf) F,Txt.split a ⟨#[c]⟩,List.range (.fd).length,AX (T:=jw) rfl c a .b4,.int ((i+1+k:Nat):Int),((OH w n .au t).map aK),(λz=>(z.2.length:Int)),(λj=>M i j*s.getD j 0),tE (ag oLt .a0 .yD),tE (ag oGt .a0 .yD),tE (ag oGt .dG .ac),tE (ag oEq .ac .r9),rI C λi j=>.int .cn,ps.map λq=>[q.1,q.2],mm.all λp=>pure? p.2,c0 rfl c (aq b a .dB),(by simp;exact ZN .dh),(by rw[YW];exact ZN n2),(by rw[YI];exact zYt _),assignEach [tg] X.env,assignEach .gL X.env,ab (fC (.str wSw)) ar,ab (fC (.int 400)) ar,aW (eQ .h (aW .qB)),X++(ss.take k).map dS,PySem.W.plainGet_of a,.tup [.int (i:Nat),x],.ins C dx (nA f y fs),((.t).map λi=>(.g5).sum),(λi=>bs.getD i false),(λb o g e=>W b o g e),zm3 La Lb s.heap a b,zm2 La Lb s.heap a b,uO (ag iT .ac .aH),tE (ag oLt .f .eZ),tE (ag oEq .h .hZ),tE (ag oEq .f .eZ),tE (ag oEq .aT .aE),tE (ag iT .sw .aH),tE (ag iT .kG .aH),starEach [e,f] X.env,ss.getD i.toNat none,seqObj "list" #[] e1,s.heap.update B .j6,s.heap.objs.size + 2,rI0 λi j=>.int .cn,nV (.ref T) i q n ep,l.all λp=>pure? p.2,jE .h (fAt .f .j),(if j<i then j else i),h++[.lst [.str wSw]],g++[.lst (F.map bL)],fC (.int (-(j:Int))),dm (tE (av c9 .fH)),(by simpa using zYz a),bQ.cons rfl rfl .vM,ae .Z (ae .ag ao),aR rfl rfl (aF ZG) r,aR rfl rfl (aF ZG) i,aM (aj .yc rfl rfl),aG .h8 (av j9 .cB),List.range bs.length,LT hp hc hi hg hb hs,BI.mk (i:=0) (g:=[]),0+b.length<=a.length,((hU w.ties i).map bL),(λz=>r.noTup e .q3),(λz=>r.noFrz e .q3),(λz=>r.noExt e .q3),(λi v=>a[i]?=some v),xs.length<ys.length,x.above y c (zYd h),w pins s σ H _ I h,upd H p (.tup .sO),storeName X.env x u,seqObj "list" #[] n,seqObj "list" #[] l,seqObj "list" #[] j,rI0 λi j=>.bl .cn,r pins s σ H _ I h,mC B d.extBut Z.l1z,j pins s σ H _ I h,fv (bZ .j) .bR j6,eQ (aa i) (aW .vp),dm (tE (av fz .b2)),dJ (l.many rfl) .a,d pins s σ H Q I h,(by rw[txs,ZA];omega),ag cZ .R (vL .vd),ab .j (ab .C ar),aP (mv 10) .a4 .y,aK (bA w n s (t+1)),ZW _ (a4 b o D F e),Sf (by rw[F,zXa]) d,List.replicate k xs,List.range a.length,List.range T.length,Ho w n h d j f .ql,F.args_zip_next_1 _,D.bl (decide (j<i)),D.bl (decide (i<j)),.tup [d,.ref (A+1)],((Av a).symm.trans e),((.xB).set a (.int x)),((.rw).set b (.int x)),(∀h' e,Heap.ExtBut it s.heap h'->(∃o,h'.get? e=some o/\o.cls=.type "StopIteration")->E (.ref e) .bj),(∀(a:S1) (A:P2) (outer:List Env) (s:P1) (H:Hp) (E:XK),gF k .qy->MSs (.vt).nox .g1 b),s.heap.get? T=some { cls:=.type "tuple",data:=.seq (.mq).toArray m },(∀(g:Hd) (k:Nat),g[k]?=some (.lst .ir)->gf .lk g=.ok fd g),((ds.map some++List.replicate (n-ds.length) none:Sd)=σ),(∀b u,b≠e->h.get? b=some u->h'.get? b=some u),(∀b u,s.heap.get? b=some u->h'.get? b=some u),PySem.W.findIn K .bt "__setattr__"=some .vZ,(∀vs H Q E,sp vs H Q E->vs.length=ps.length),PySem.W.nsIn K mainGlobals .m4=some .tz,RDs K ρ H (l.map (·.2)) (b.map (·.2)),RDs K ρ H (l.map (·.2)) (a.map (·.2)),(∀i c,Sim prog w A E s (f i c) (g i c)),V->Option Int->Option Int->Hp->VK->Prop,Def X.prog X.w X.K X.mg X.base x k np F,behindInMarks .NotIn (.Name x p)=false,(∀b xs,H b=some .df->H' b=some .df),Def P w K mg base "is_opinion" 3 1 c9,Def P w K mg base "turns_all" 7 2 eS,Def P w K mg base "is_number" 3 1 ek,Def P w K mg base "_law_cell" 1 2 bV,Def P w K mg base "is_whole" 1 1 eZ,(∀v σ H Q,u v σ H Q->t v σ H Q),Def P w K mg base "ties_of" 1 2 fE,Def P w K mg base "line_at" 1 2 hV,Def P w K mg base "free_of" 2 1 jP,Def P w K mg base "do_turn" 8 3 gc,Def P w K mg base "is_tie" 3 2 j5,bP K R ρ H σd σ (.ok a hd) Q,(∀p,Gd n p->Srt lt p n->Q p s),PySem.W.plainGet K C name=true,(∀D σ H,u D σ H->t D σ H),Fe P w K mg base A outer s H,PySem.W.plainOver K C=true,.int ((1+T.length:Nat):Int),.int (((1+T.length:Nat):Int)+2*n),Nat × List Nat,Key × V,.ref p,compareOp op,[w.enc,fd,.ref k],Str->Option S1,g++[.lst ths]]
def ix(c:Char):Nat:=if 'a'<=c&&c<='z' then c.toNat-97 else if 'A'<=c&&c<='Z' then c.toNat-39 else if c.isDigit then c.toNat+4 else 99999
def lk(x:Lean.Name)(a:Array Lean.Syntax):Lean.MacroM Lean.Syntax:=do
 let .str .anonymous w:=x|Lean.Macro.throwUnsupported
 let i:=match w.toList with|[p]=>ix p|[p,q]=>52+62*ix p+ix q|_=>99999
 let some y:=((tb.getD (i/32) "").splitOn "\t")[i%32]?|Lean.Macro.throwUnsupported
 let l:=y.splitOn "\n"
 if y==""||y=="nnum\na0\ne" then Lean.Macro.throwUnsupported
 let r<-Lean.MonadRef.mkInfoFromRefPos
 if a.isEmpty then return de r #[] l [("",#[])]
 if l.contains "iγ" then return de r a l [("",#[])]
 let t:=de r #[] l [("",#[])]
 return if t.isOfKind ``Lean.Parser.Term.app then t.setArg 1 (Lean.mkNullNode (t[1].getArgs++a)) else .node r ``Lean.Parser.Term.app #[t,Lean.mkNullNode a]
local macro_rules
|`(.$x:ident)=>lk x.getId #[]
|`(.$x:ident $a*)=>lk x.getId (a.map (·.raw))
local macro_rules
|`(command|def $i $b* : $t := $v)=>`(command|theorem $i $b* : $t := $v)
local macro_rules
|`(tactic|dsimp[$a,*]$[$l]?)=>`(tactic|simp only[$a,*]$[$l]?)
local macro_rules
|`(command|$_:docComment def $i:declId $t:optDeclSig $v:declVal)=>`(command|noncomputable def $i:declId $t:optDeclSig $v:declVal)
noncomputable section
def qq{α:Sort _}(e:α):∃x,x=e:=⟨_,rfl⟩
namespace Fm
inductive D where
 |non|bl (b:Bool)|int (i:Int)|str (x:.i)|tup (l:List D)|ref (n:Nat)|lit (l:List D)|exn (c:String) (l:List D)
deriving Inhabited
inductive bJ where
 |lst (l:List D)|dct (l:.cP)|dcT (l:.cQ)|ob (l:List D)
noncomputable abbrev Hd:=List bJ
inductive Res(α:Type) where
 |ok (a:α) (h:Hd)|exc (x:D) (h:Hd)|bad
/---/def Res.bind{α β:Type}(r:Res α)(f:α->Hd->Res β):Res β := match r with
 |.ok a h=>f a h | .exc x h=>.exc x h | .bad=>.bad
@[simp] theorem aE{α β:Type}(a:α)(h:Hd)(f:α->Hd->Res β):(Res.ok a h).bind f=f a h:=rfl
noncomputable abbrev Sd:=List (Option D)
noncomputable abbrev EF:=Sd->Hd->Res D
noncomputable abbrev TF:=Sd->Hd->Res Bool
noncomputable abbrev LF:=Sd->Hd->Res .f1
inductive Out where
 |nx (σ:Sd) (h:Hd)|rt (d:D) (h:Hd)|bk (σ:Sd) (h:Hd)|ct (σ:Sd) (h:Hd)|exc (x:D) (σ:Sd) (h:Hd)|bad
noncomputable abbrev SF:=Sd->Hd->Out
noncomputable abbrev Fn:=List D->Hd->Res D
noncomputable abbrev SZ:Nat:=1000000
@[simp] noncomputable def slot(σ:Sd)(i:Nat):Option D:=match σ[i]? with|some (some d)=>some d|_=>none
@[simp] noncomputable def aa(i:Nat):EF:=λσ h=>match slot σ i with|some d=>.ok d h|none=>.bad
@[simp] noncomputable def fC(d:D):EF:=λ_ h=>.ok d h
noncomputable abbrev O2:=D->D->Hd->Res D
@[simp] noncomputable def ag(g:O2)(a b:EF):EF:=λσ h=>(.L).bind λx h=>(.fi).bind λy h=>g x y h
@[simp] noncomputable def oI(g:.jp):O2:=λx y h=>match x,y with | .int i,.int j=>.ok (.int .cn) h|_,_=>.bad
@[simp] noncomputable def oB(g:.lG):O2:=λx y h=>match x,y with | .int i,.int j=>.ok (.bl .cn) h|_,_=>.bad
@[simp] noncomputable def oIc(c:.lG)(g:.jp):O2:=λx y h=>match x,y with | .int i,.int j=>if c i j then .ok (.int .cn) h else .bad|_,_=>.bad
/---/def sml(i:Int):Bool:=decide (-18446744073709551616<i)&&decide (i<18446744073709551616)
@[simp] noncomputable def cJ:O2:=λx y h=>match x,y with
 |.int i,.int j=>.ok (.int<|i+j) h
 |.tup .bC,.tup ys=>if (.bC).length+ys.length<=SZ then .ok (.tup (x::xs++ys)) h else .bad
 |_,_=>.bad
@[simp] noncomputable def kN:O2:=λx y h=>(oI (· - ·)) x y h
@[simp] noncomputable def cZ:O2:=λx y h=>(oIc (λi j=>sml i||sml j) (· * ·)) x y h
@[simp] noncomputable def bY:O2:=λx y h=>(oIc (λ_ j=>decide (0<j)) (· % ·)) x y h
@[simp] noncomputable def iJ:O2:=λx y h=>(oIc (λ_ j=>decide (0<j)&&decide (j<2^250)) (· / ·)) x y h
@[simp] noncomputable def Wt:O2:=λx y h=>(oIc (λi j=>decide (0<=j)&&decide (j<=1000000)&&sml i) (λi j=>i^j.toNat)) x y h
@[simp] noncomputable def oLt:O2:=λx y h=>(oB λi j=>decide (i<j)) x y h
@[simp] noncomputable def oLe:O2:=λx y h=>(oB λi j=>decide (i<=j)) x y h
@[simp] noncomputable def oGt:O2:=λx y h=>(oB λi j=>decide (j<i)) x y h
@[simp] noncomputable def Xd:D->Hd->Res D:=λx h=>match x with | .int i=>.ok (.int (-i)) h|_=>.bad
@[simp] noncomputable def pi:D->Bool | .non=>true|_=>false
@[simp] noncomputable def nC:O2:=λx y h=>if pi y then .ok (.bl<|pi x) h else .bad
@[simp] noncomputable def iT:O2:=λx y h=>if pi y then .ok (.bl<|!pi x) h else .bad
@[simp] noncomputable def b2i(b:Bool):Int:=if b then 1 else 0
mutual
noncomputable def peq:D->D->Option Bool
 |.int i,k=>match k with | .int j=>some (decide (i=j)) | .bl c=>some (decide (i=b2i c)) | .non=>some false | .tup _=>some false|_=>none
 |.bl c,k=>match k with | .int j=>some (decide (b2i c=j)) | .bl d=>some (decide (c=d))|_=>none
 |.str x,k=>match k with | .str y=>some (decide (x=y))|_=>none
 |.non,k=>match k with | .non=>some true | .int _=>some false | .tup _=>some false|_=>none
 |.tup xs,k=>match k with | .tup ys=>(kr xs ys).map λb=>b&&decide (xs.length=ys.length) | .non=>some false | .int _=>some false|_=>none
 |.ref _,_=>none
 |.lit _,_=>none
 |.exn _ _,_=>none
noncomputable def kr:List D->List D->Option Bool
 |x::xs,y::ys=>match peq x y,kr xs ys with
  |some a,some b=>some (a&&b)
  |_,_=>none
 |_,_=>some true
end
mutual
noncomputable def dep:D->Nat
 |.tup l=>mi l+1
 |_=>0
noncomputable def mi:List D->Nat
 |[]=>0
 |x::xs=>max (dep x) (mi xs)
end
/---/def eqL(xs ys:List D):Option Bool:=if mi xs<=20 then (if xs.length=ys.length then kr xs ys else some false) else none
@[simp] noncomputable def ee(h:Hd):D->Option .f1
 |.ref n=>match h[n]? with|some .cq=>some l|_=>none
 |.lit l=>some l
 |_=>none
@[simp] noncomputable def eqG(h:Hd)(x y:D):Option Bool:=match ee h x,ee h y with
 |some xs,some ys=>eqL xs ys
 |none,none=>if dep x<=20 then peq x y else none
 |_,_=>none
@[simp] noncomputable def oEq:O2:=λx y h=>match eqG h x y with|some b=>.ok (.bl b) h|none=>.bad
@[simp] noncomputable def oNe:O2:=λx y h=>match eqG h x y with|some b=>.ok (.bl<|!b) h|none=>.bad
@[simp] noncomputable def gD:D->Bool
 |.non=>true | .bl _=>true | .int _=>true | .str _=>true|_=>false
@[simp] noncomputable def eqF:D->D->Bool
 |.non,k=>match k with | .non=>true|_=>false
 |.bl a,k=>match k with | .bl b=>a == b | .int b=>b2i a == b|_=>false
 |.int a,k=>match k with | .bl b=>a == b2i b | .int b=>a == b|_=>false
 |.str a,k=>match k with | .str b=>a == b|_=>false
 |.tup _,_=>false
 |.ref _,_=>false
 |.lit _,_=>false
 |.exn _ _,_=>false
@[simp] noncomputable def asB(r:Res D):Res Bool:=r.bind λx h=>match x with | .bl b=>.ok b h|_=>.bad
@[simp] noncomputable def tE(a:EF):TF:=λσ h=>asB .L
@[simp] noncomputable def dm(t:TF):TF:=λσ h=>(.jf).bind λb h=>.ok (!b) h
@[simp] noncomputable def jS(t u:TF):TF:=λσ h=>(.jf).bind λb h=>if b then u σ h else .ok false h
@[simp] noncomputable def tOr(t u:TF):TF:=λσ h=>(.jf).bind λb h=>if b then .ok true h else u σ h
@[simp] noncomputable def fT(t:TF):EF:=λσ h=>(.jf).bind λb h=>.ok .di h
@[simp] noncomputable def fIf(t:TF)(a b:EF):EF:=λσ h=>(.jf).bind λc h=>if c then a σ h else b σ h
@[simp] noncomputable def vK(g k:O2)(a b c:EF):EF:=λσ h=>(.L).bind λx h=>(.fi).bind λy h=>(g x y h).bind λz h=>match z with
 |.bl true=>(c σ h).bind λw h=>k y w h
 |.bl false=>.ok (.bl false) h
 |_=>.bad
@[simp] noncomputable def ar:LF:=λ_ h=>.ok [] h
@[simp] noncomputable def ab(a:EF)(r:LF):LF:=λσ h=>(.L).bind λx h=>(.jg).bind λxs h=>.ok .bC h
@[simp] noncomputable def ig(r:LF):EF:=λσ h=>(.jg).bind λxs h=>if xs.length<=SZ then .ok .df h else .bad
@[simp] noncomputable def aW(r:LF):EF:=λσ h=>(.jg).bind λxs h=>if xs.length<=SZ then .ok .A (h++[.lst xs]) else .bad
@[simp] noncomputable def kt(h:Hd):D->Option .f1
 |.tup l=>some l
 |.lit l=>some l
 |.ref n=>match h[n]? with|some .cq=>some l|_=>none
 |_=>none
@[simp] noncomputable def lOf(a:EF):LF:=λσ h=>(.L).bind λx h=>match kt h x with|some l=>.ok l h|none=>.bad
@[simp] noncomputable def inL(h:Hd)(x y:D):Option Bool:=match kt h y with
 |some l=>if gD x&&l.all gD then some (l.any λz=>eqF z x) else none
 |none=>none
@[simp] noncomputable def oIn:O2:=λx y h=>match inL h x y with|some b=>.ok (.bl b) h|none=>.bad
@[simp] noncomputable def kO:O2:=λx y h=>match inL h x y with|some b=>.ok (.bl<|!b) h|none=>.bad
/---/def ixN(n:Nat)(i:Int):Option Nat:=if 0<=i then .yC else if -(n:Int)<=i then some (i+n).toNat else none
/---/def atI(xs:List D)(i:Int):Option D:=(ixN xs.length i).bind λj=>xs[j]?
@[simp] noncomputable def fIx(a:LF)(b:EF):EF:=λσ h=>(.L).bind λl h=>(.fi).bind λy h=>match y with
 |.int i=>match atI l i with|some d=>.ok d h|none=>.bad
 |_=>.bad
@[simp] noncomputable def oAt:O2:=λx y h=>match kt h x,y with
 |some l,.int i=>match atI l i with|some d=>.ok d h|none=>.bad
 |_,_=>.bad
@[simp] noncomputable def fAt(a b:EF):EF:=λσ h=>ag oAt a b σ h
@[simp] noncomputable def cM(a:LF):EF:=λσ h=>(.L).bind λl h=>.ok .rI h
noncomputable def dG:List D->Option .cF
 |[]=>some []
 |.int i::r=>(dG r).map (i :: ·)
 |_=>none
@[simp] noncomputable def vL(a:LF):EF:=λσ h=>(.L).bind λl h=>match dG l with|some is=>.ok (.int is.sum) h|none=>.bad
noncomputable def lq:List D->Option (List Bool)
 |[]=>some []
 |.bl b::r=>(lq r).map (b :: ·)
 |_=>none
@[simp] noncomputable def uN(a:LF):EF:=λσ h=>(.L).bind λl h=>match lq l with|some bs=>.ok (.bl .oy) h|none=>.bad
@[simp] noncomputable def gZ(a:LF):EF:=λσ h=>(.L).bind λl h=>.ok .hj h
@[simp] noncomputable def uO(a:EF):EF:=λσ h=>(.L).bind λx h=>match x with | .int i=>.ok .dp h | .bl b=>.ok (.int<|b2i b) h|_=>.bad
inductive Ty where|int|bool|tuple|list|str
deriving DecidableEq
@[simp] noncomputable def Jt(h:Hd)(t:Ty):D->Option Bool
 |.non=>some false
 |.bl _=>some (t == .bool||t == .int)
 |.int _=>some (t == .int)
 |.str _=>some (t == .str)
 |.tup _=>some (t == .tuple)
 |.lit _=>some (t == .list)
 |.ref n=>match h[n]? with|some (.lst _)=>some (t == .list)|some (.dct _)=>some false|some (.dcT _)=>none|some (.ob _)=>none|none=>none
 |.exn _ _=>none
@[simp] noncomputable def i6(t:Ty)(a:EF):EF:=λσ h=>(.L).bind λx h=>match Jt h t x with|some b=>.ok (.bl b) h|none=>.bad
noncomputable def sIx(n d:Nat):Option Int->Nat
 |none=>d
 |some i=>if i<0 then (i+n).toNat else min i.toNat n
/---/def cut(l:List D)(lo hi:.aK):List D:=(l.drop<|.jP 0 lo).take (sIx l.length l.length hi-sIx l.length 0 lo)
noncomputable abbrev OF:=Sd->Hd->Res .gt
@[simp] noncomputable def pNo:OF:=λ_ h=>.ok none h
@[simp] noncomputable def pAt(a:EF):OF:=λσ h=>(.L).bind λx h=>match x with | .int i=>.ok (some i) h|_=>.bad
@[simp] noncomputable def dv(a:EF)(lo hi:OF):EF:=λσ h=>(.L).bind λx h=>(lo σ h).bind λi h=>(hi σ h).bind λj h=>match x with
 |.tup l=>if sIx l.length 0 i=0/\.jP l.length j=l.length then .bad else .ok (.tup .ow) h
 |x=>match ee h x with|some l=>.ok .a7 (h++[.lst .ow])|none=>.bad
noncomputable def lexLt:List Int->List Int->Bool
 |[],[]=>false
 |[],_::_=>true
 |_::_,[]=>false
 |x::xs,y::ys=>if x=y then lexLt xs ys else decide (x<y)
noncomputable def Wu:List D->Option (List .cF)
 |[]=>some []
 |.tup l::r=>match dG l,Wu r with|some a,some b=>some (a::b)|_,_=>none
 |_=>none
@[simp] noncomputable def av(F:Fn)(r:LF):EF:=λσ h=>(.jg).bind λxs h=>F xs h
noncomputable abbrev IF:=Sd->Hd->Res .sj
@[simp] noncomputable def bZ(a:EF):IF:=λσ h=>(.L).bind λx h=>match x with
 |.int n=>if -1000000<=n/\n<=1000000 then .ok ((.bV n.toNat).map (λk:Nat=>.int k),none) h else .bad
 |_=>.bad
@[simp] noncomputable def gM(a b:EF):IF:=λσ h=>(.L).bind λx h=>(.fi).bind λy h=>match x,y with
 |.int m,.int n=>if (-1000000<=m/\m<=1000000)/\-1000000<=n/\n<=1000000 then .ok ((List.range (n-m).toNat).map (λk:Nat=>.int (m+k)),none) h else .bad
 |_,_=>.bad
@[simp] noncomputable def cU(a:EF):IF:=λσ h=>(.L).bind λx h=>match x with
 |.tup l=>.ok (l,none) h
 |.lit l=>.ok (l,none) h
 |.ref n=>match h[n]? with|some .cq=>.ok (l,some n) h|_=>.bad
 |_=>.bad
@[simp] noncomputable def LB(a:EF):IF:=λσ h=>(.L).bind λx h=>match x with
 |.tup l=>.ok ((.ip).zip l |>.map λp=>.tup [.int (p.1:Nat),p.2],none) h
 |_=>.bad
section
open Classical
/---/def dC(g:.fn)(all:List D)(h:Hd):Prop:=match g with|none=>True|some n=>h[n]?=some (.lst all)
noncomputable abbrev GF:=D->Sd->Option Sd
@[simp] noncomputable def gN(i:Nat):GF:=λd σ=>some (σ.set i<|some d)
@[simp] noncomputable def gT(l:.i):GF:=λd σ=>match d with
 |.tup xs=>if xs.length=l.length then some ((l.zip xs).foldl .zo σ) else none
 |_=>none
@[simp] noncomputable def aw(a b:SF):SF:=λσ h=>match a σ h with | .nx σ h=>b σ h|r=>r
@[simp] noncomputable def bc:SF:=λσ h=>.nx σ h
@[simp] noncomputable def outE(r:Res D)(σ:Sd)(k:D->Hd->Out):Out:=match r with | .ok d h=>k d h | .exc x h=>.exc x σ h | .bad=>.bad
@[simp] noncomputable def aG(g:GF)(a:EF):SF:=λσ h=>outE .L σ λd h=>match g d σ with|some σ=>.nx σ h|none=>.bad
@[simp] noncomputable def aY(a:EF):SF:=λσ h=>outE .L σ λd h=>.rt d h
@[simp] noncomputable def eG(a:EF):SF:=λσ h=>outE .L σ λ_ h=>.nx σ h
@[simp] noncomputable def sIf(t:TF)(a b:SF):SF:=λσ h=>match t σ h with | .ok c h=>if c then a σ h else b σ h | .exc x h=>.exc x σ h | .bad=>.bad
@[simp] noncomputable def Po:SF:=λσ h=>.bk σ h
@[simp] noncomputable def So:SF:=λσ h=>.ct σ h
/---/def ef:SF:=λ_ _=>.bad
@[simp] noncomputable def jm(x i e:EF):SF:=λσ h=>outE .f0 σ λd h=>outE .ev σ λp h=>outE (i σ h) σ λj h=>match p,j with
 |.ref n,.int j=>match h[n]? with
  |some .cq=>match ixN l.length j with
   |some k=>.cA (.d9<|.lst<|l.set k d)
   |none=>.bad
  |_=>.bad
 |_,_=>.bad
@[simp] noncomputable def Sq:O2:=λp d h=>match p with
 |.ref n=>match h[n]? with
  |some .cq=>if l.length<SZ then .ok .non (.d9<|.lst<|l++[d]) else .bad
  |_=>.bad
 |_=>.bad
@[simp] noncomputable def jE(x e:EF):EF:=λσ h=>(.ev).bind λp h=>match p with
 |.ref n=>match h[n]? with
  |some (.lst _)=>(.f0).bind λd h=>Sq (.ref n) d h
  |_=>.bad
 |_=>.bad
noncomputable def gu(g:.fn)(all:List D)(tg:GF)(b:SF):List D->SF
 |[],σ,h=>if dC g all h then .nx σ h else .bad
 |x::xs,σ,h=>if dC g all h then match tg x σ with
   |some σ=>match b σ h with
    |.nx σ h=>.jN xs σ h
    |.ct σ h=>.jN xs σ h
    |.bk σ h=>.cA h
    |r=>r
   |none=>.bad
  else .bad
@[simp] noncomputable def fv(it:IF)(tg:GF)(b:SF):SF:=λσ h=>match it σ h with
 |.ok (l,g) h=>gu g l tg b l σ h
 |.exc x h=>.exc x σ h
 |.bad=>.bad
noncomputable def eU(t:TF)(b:SF):Nat->SF
 |0,_,_=>.bad
 |n+1,σ,h=>match t σ h with
  |.ok true h=>match b σ h with
   |.nx σ h=>eU t b n σ h
   |.ct σ h=>eU t b n σ h
   |.bk σ h=>.cA h
   |r=>r
  |.ok false h=>.cA h
  |.exc x h=>.exc x σ h
  |.bad=>.bad
/---/def o7(t:TF)(b:SF):Sd->Hd->Nat:=λσ h=>if ex:∃n,eU t b n σ h ≠ .bad then Classical.choose ex else 0
/---/def rH(t:TF)(b:SF):SF:=λσ h=>eU t b (o7 t b σ h) σ h
@[simp] noncomputable def i7:List TF->TF
 |[],_,h=>.ee h
 |t::r,σ,h=>(.jf).bind λb h=>if b then i7 r σ h else .ok false h
noncomputable def cz(g:.fn)(all:List D)(tg:GF)(cs:List TF)(e:EF):List D->Sd->Hd->Res .f1
 |[],_,h=>if dC g all h then .ok [] h else .bad
 |x::xs,σ,h=>if dC g all h then match tg x σ with
   |some σ=>(i7 cs σ h).bind λb h=>if b then (.f0).bind λd h=>(cz g all tg cs e xs σ h).bind λds h=>.ok (d::ds) h
    else cz g all tg cs e xs σ h
   |none=>.bad
  else .bad
@[simp] noncomputable def fS(nl:Nat)(caps:.i)(σ:Sd):Sd:=List.replicate nl none++caps.map λi=>slot σ i
@[simp] noncomputable def bD(nl:Nat)(caps:.i)(it:IF)(tg:GF)(cs:List TF)(e:EF):LF:=λσ h=>(it σ h).bind λp h =>
 cz p.2 p.1 tg cs e p.1 .tD h
mutual
noncomputable def pure?: D->Bool
 |.ref _=>false
 |.tup l=>fK l
 |.lit l=>fK l
 |.exn _ l=>fK l
 |_=>true
noncomputable def fK:List D->Bool
 |[]=>true
 |x::xs=>pure? x&&fK xs
end
noncomputable def qe:bJ->Bool
 |.lst l=>fK l
 |.dct l=>l.all λp=>pure? p.2
 |.dcT l=>l.all λp=>pure? p.2
 |.ob l=>fK l
/---/def HG(h h':Hd):Prop:=∀n c,n<h.length->h'[n]?=some c->h[n]?=some c\/qe c=true
/---/def letGo(h:Hd)(r:Res D):Res D:=match r with
 |.ok d h'=>if pure? d=true/\HG h h' then .ok d (h'.take h.length) else .ok d h'
 |r=>r
/---/def runB(n:Nat)(b:SF):Fn:=λds h=>match b .qR h with
 |.nx _ h=>.gn h
 |.rt d h=>.as h
 |.exc x _ h=>.exc x h
 |_=>.bad
/---/def bE(np n:Nat)(b:SF):Fn:=λds h=>if ds.length=np then letGo h (runB n b ds h) else .bad
end
end Fm
namespace Fm
section
open Classical
noncomputable def dQ(G:Hd->Prop)(tg:GF)(cs:List TF)(e:EF):List D->Sd->Hd->Res .f1
 |[],_,h=>if G h then .ok [] h else .bad
 |x::xs,σ,h=>if G h then match tg x σ with
   |some σ=>(i7 cs σ h).bind λb h=>if b then (.f0).bind λd h=>(dQ G tg cs e xs σ h).bind λds h=>.ok (d::ds) h
    else dQ G tg cs e xs σ h
   |none=>.bad
  else .bad
end
theorem Ac:∀(xs:List D) (σ:Sd) (h:Hd),cz g all tg cs e xs σ h=dQ (dC g all) tg cs e xs σ h
 |[],_,h=>by unfold cz dQ;rfl
 |x::xs,σ,h=>by
  unfold cz dQ
  by_cases a:dC g all h
  ·rw[z4 a,z4 a]
   cases tg x σ with
   |none=>rfl
   |some σ'=>dsimp[Ac xs]
  ·rw[y3 a,y3 a]
end Fm
set_option maxRecDepth 100000
namespace Fm
open PySem
noncomputable abbrev xL(xs:.d1):Prop:=xs.toList.Pairwise (· < ·)
variable{xs:.d1}
def xL.lt(r:xL xs){i j:Nat}(a:j<xs.size)(h:i<j):xs[i]' .a<xs[j]:=by
 have:=zZo.mp r i j (by simpa using Z3 h a) .io h;simpa using this
theorem vM{xs:.d1}(r:xL xs):∀(o7 lo hi:Nat),lo<=hi->hi<=xs.size->hi-lo<=o7->(∀i (q:i<xs.size),i<lo->xs[i]<j)->(∀i (q:i<xs.size),hi<=i->j<=xs[i])->
  SetTable.below.go xs j o7 lo hi<=xs.size/\(∀i (q:i<xs.size),i<SetTable.below.go xs j o7 lo hi->xs[i]<j)/\(∀i (q:i<xs.size),SetTable.below.go xs j o7 lo hi<=i->j<=xs[i])
 |0,lo,hi,h1,f,k,b,d=>by
  have:lo=hi:=by omega
  subst this;exact⟨f,b,d⟩
 |o7+1,lo,hi,h1,f,k,b,d=>by
  unfold SetTable.below.go
  by_cases c:lo<hi
  ·rw[z4 c]
   have h:.hl/2<xs.size:=by omega
   have e:xs.getD (.hl/2) j=xs[.hl/2]:=by simp[Array.getD,h]
   dsimp[e]
   by_cases a:xs[.hl/2]<j
   ·rw[z4 a]
    refine vM r o7 _ _ .a f .a (λi q l=>?_) d
    by_cases g:i=.hl/2
    ·subst g;exact a
    ·exact Z3 (r.lt h .a) a
   ·rw[y3 a]
    refine vM r o7 _ _ .a .a .a b λi q l=>?_
    by_cases g:i=.hl/2
    ·subst g;omega
    ·have:=r.lt q (i:=.hl/2) .a
     omega
  ·rw[y3 c]
   have:lo=hi:=by omega
   subst this;exact⟨f,b,d⟩
def vN(r:xL xs):SetTable.below xs j<=xs.size/\(∀i (q:i<xs.size),i<SetTable.below xs j->xs[i]<j)/\(∀i (q:i<xs.size),SetTable.below xs j<=i->j<=xs[i]) :=
 vM r _ _ _ .ey .o .a (λi q l=>absurd l (UO _)) λi q l=>absurd q (zZf.mpr l)
def vO(r:xL xs)(e:k<xs.size):.l0 (xs[k]+1)=k+1:=by
 obtain⟨a,b,c⟩:=vN (j:=xs[k]+1) r;rcases Nat.lt_trichotomy (SetTable.below xs (xs[k]+1)) (k+1) with h|h|h
 ·have:=c k e .a;omega
 ·exact h
 ·have d:k+1<xs.size:=by omega
  have:=b (k+1) d h;have:=r.lt d (Z9 k);omega
def vP(r:xL xs):.l0 0=0:=by
 obtain⟨a,b,c⟩:=vN (j:=0) r
 by_cases h:.l0 0=0
 ·exact h
 ·exact absurd (b 0 .a .a) .a
def B5(r:xL xs)(n:xs[.l0 j]? ≠some j):xL (SetTable.insertAt xs (.l0 j) j):=by
 obtain⟨a,b,c⟩:=vN r;generalize SetTable.below xs j=p at a b c n;show List.Pairwise _ _;rw[SetTable.toList_insertAt];have k:(xs.toList.take p++xs.toList.drop p).Pairwise (· < ·):=by rw[zYr];exact r
 rw[Y9]at k⊢;have m:∀x∈xs.toList.take p,x<j:=λx d=>by
  obtain⟨i,g,e⟩:=List.mem_take_iff_getElem.mp d;have q:i<xs.size:=by simp at g;omega
  have:=b i q .a;simpa[<-e] using this
 have o:∀x∈xs.toList.drop p,j<x:=λx d=>by
  obtain⟨i,g,e⟩:=List.mem_drop_iff_getElem.mp d;have q:i+p<xs.size:=by simp at g;omega
  have w:=c (i+p) q .a;have u:x=xs[i+p]:=by rw[<-e];simp;congr 1;omega
  rcases Nat.lt_or_ge j x with h|h
  ·exact h
  ·exfalso
   have t:x=j:=by omega
   by_cases s:i=0
   ·subst s
    apply n;have l:p<xs.size:=by omega
    rw[Y2 l,<-t,u];congr 1;congr 1;omega
   ·have l:p<xs.size:=by omega
    have z:=r.lt q (i:=p) .a;have v:=c p l .o;omega
 exact⟨k.1,Z4.mpr ⟨o,k.2.1⟩,λx d y f=>by
  rcases xB.mp f with rfl|f
  ·exact m x d
  ·exact Z3 (m x d) (o y f)⟩
def EV(n:Nat):xL (Array.range n):=by
 show List.Pairwise _ _;rw[Array.toList_range];exact zYj
structure GT(led:Bool)(t:.cS):Prop where
 up:xL t.place
 no:t.dummies = #[]
 le:t.led=led
def GT.fresh(led:Bool):GT led (.fresh 0 0 led):=⟨List.Pairwise.nil,rfl,rfl⟩
def GT.standIn(g:GT led t)(n:Nat):GT led (t.standIn n):=⟨EV n,rfl,g.le⟩
def LC(j:Nat):SetTable.has #[] j=false:=rfl
def Ju{t:.cS}(h:t.slot j=.empty):t.place[.lZ j]? ≠some j:=λe=>by
 unfold SetTable.slot at h;simp[e]at h
def Ad{t:.cS}(n:t.dummies = #[]):t.slot j ≠ .dummy:=λe=>by
 unfold SetTable.slot at e;rw[n]at e;dsimp[LC]at e;split at e<;>simp at e
def xM(t:.cS)(p:SetTable.Probe):(t.advance p).dummy=p.dummy:=by
 unfold SetTable.advance;split<;>rfl
theorem vQ{t:.cS}(n:t.dummies = #[])(f:.d3)(h:Int):∀(o7:Nat) (p:SetTable.Probe) {j:Nat} {d:.fn},p.dummy=none->SetTable.probe.go t f h o7 p=some (.empty j d)->d=none/\t.slot j=.empty
 |0,_,_,_,_,e=>by cases e
 |o7+1,p,j,d,a,e=>by
  unfold SetTable.probe.go at e;cases c:t.slot p.j with
  |empty =>
   rw[c]at e;dsimp[Y8,SetTable.Met.empty.injEq]at e;obtain⟨rfl,rfl⟩:=e;exact⟨a,c⟩
  |dummy=>exact absurd c (Ad n)
  |live i =>
   rw[c]at e;simp only at e;split at e
   ·simp at e
   ·exact vQ n f h o7 _ (by rw[xM];exact a) e
def Pp{t:.cS}(n:t.dummies = #[])(e:t.freeSlot h=some (j,b)):t.slot j=.empty:=by
 unfold SetTable.freeSlot at e;split at e
 ·rename_i a d q
  obtain⟨rfl,s⟩:=vQ n _ h _ _ rfl q;cases e;exact s
 ·cases e
def GT.layNew{led:Bool}{t:.cS}(g:GT led t)(b:.hx)(h:Int)(x:S1):GT led (layNew t b h x).2.1:=by
 unfold PySem.layNew;split
 ·rename_i slot c e
  have f:=Pp g.no e;have a:GT led (t.put slot).1:=⟨B5 g.up (Ju f),by
   show (if SetTable.has t.dummies slot then _ else t.dummies) = #[];rw[g.no,LC];rfl,g.le⟩
  show GT led (SetTable.orStandIn _ _);unfold SetTable.orStandIn;split
  ·exact a
  ·exact a.standIn _
 ·exact g.standIn _
def GT.relayAll(g:GT led t)(i:.hx)(n:Nat):GT led (relayAll t i n).2.1:=by
 unfold PySem.relayAll;split
 ·rename_i m order e
  dsimp only;split
  ·unfold SetTable.relaid SetTable.laid at e
   cases c:SetTable.layClean (SetTable.sizeAbove n-1) (i.map (·.1)) with
   |none=>rw[c]at e;cases e
   |some owner =>
    rw[c]at e;cases e;refine⟨?_,rfl,g.le⟩;show List.Pairwise _ _;dsimp[List.map_filterMap];rw[List.pairwise_filterMap];refine List.Pairwise.imp ?_ zYj;intro a b h x f y d;have l:x=a:=by
     cases q:owner.getD a none with
     |none=>rw[q]at f;cases f
     |some k=>rw[q]at f;cases f;rfl
    have j:y=b:=by
     cases q:owner.getD b none with
     |none=>rw[q]at d;cases d
     |some k=>rw[q]at d;cases d;rfl
    subst l;subst j;exact h
  ·exact g.standIn _
 ·exact g.standIn _
end Fm
namespace Fm
noncomputable def Ae(x:.c):List .cF->List .cF
 |[]=>[x]
 |y::r=>if lexLt x y=true then x::y::r else y::Ae x r
noncomputable def eI:List .cF->List .cF
 |[]=>[]
 |x::r=>Ae x (eI r)
/---/def Af(r:.c):D:=.tup (r.map .int)
theorem qf:∀a,lexLt a a=false
 |[]=>rfl
 |x::a=>by simp[lexLt,qf a]
theorem ku:∀{a b c},lexLt a b=true->lexLt b c=true->lexLt a c=true
 |[],[],_,h,_=>by simp[lexLt]at h
 |[],_::_,[],_,h=>by simp[lexLt]at h
 |[],_::_,_::_,_,_=>rfl
 |_::_,[],_,h,_=>by simp[lexLt]at h
 |_::_,_::_,[],_,h=>by simp[lexLt]at h
 |x::a,y::b,z::c,h,h'=>by
  dsimp[lexLt]at h h' ⊢
  by_cases e:x=y
  ·subst e
   rw[z4 rfl]at h
   by_cases d:x=z
   ·subst d
    rw[z4 rfl]at h' ⊢;exact ku h h'
   ·rw[y3 d]at h' ⊢;exact h'
  ·rw[y3 e]at h
   by_cases d:y=z
   ·subst d
    rw[y3 e];exact h
   ·rw[y3 d]at h'
    simp at h h';rw[y3 .a];simp;omega
theorem rJ:∀{a b},a≠b->lexLt a b=false->lexLt b a=true
 |[],[],h,_=>absurd rfl h
 |[],_::_,_,h=>by simp[lexLt]at h
 |_::_,[],_,_=>rfl
 |x::a,y::b,h,h'=>by
  dsimp[lexLt]at h' ⊢
  by_cases e:x=y
  ·subst e
   rw[z4 rfl]at h' ⊢;exact rJ (λz=>h (by rw[z])) h'
  ·rw[y3 e]at h'
   rw[y3 (XO e)];simp at h' ⊢;omega
def tW(h:lexLt a b=true):lexLt b a=false:=by
 cases c:lexLt b a with
 |false=>rfl
 |true=>have:=ku h c;rw[qf]at this;cases this
theorem rK(x:.c):∀r,(Ae x r).Perm (x::r)
 |[]=>.refl _
 |y::r=>by
  dsimp[Ae];split
  ·exact .refl _
  ·exact((rK x r).cons y).trans .ui
theorem kP:∀r,(eI r).Perm r
 |[]=>.refl _
 |x::r=>(rK x _).trans ((kP r).cons x)
theorem vR:∀{r:.cR},x∉r->r.Pairwise .kt->(Ae x r).Pairwise .kt
 |[],_,_=>by simp[Ae]
 |y::r,f,h=>by
  dsimp[Ae];have g:¬x=y:=λz=>f .e6;have j:x∉r:=λz=>f .e6;obtain⟨e,k⟩:=Z4.mp h;split
  ·rename_i c
   refine Z4.mpr ⟨λb d=>?_,h⟩;rcases xB.mp d with rfl|d
   ·exact c
   ·exact ku c (e b d)
  ·rename_i c
   have i:=rJ g .nB;refine Z4.mpr ⟨λb d=>?_,vR j k⟩;rcases xB.mp ((rK x r).mem_iff.mp d) with rfl|d
   ·exact i
   ·exact e b d
theorem nD:∀{r:.cR},r.Nodup->(eI r).Pairwise .kt
 |[],_=>.nil
 |x::r,h=>by
  obtain⟨h1,c⟩:=Y3.mp h;exact vR (λz=>h1 ((kP r).mem_iff.mp z)) (nD c)
def Jv{a b:.cR}(p:a.Perm b)(c:a.Pairwise .kt)(e:b.Pairwise .kt):a=b :=
 List.Perm.eq_of_pairwise (λx y _ _ h d=>by have:=tW h;rw[d]at this;cases this) c e p
@[simp] noncomputable def HI:EF:=λ_ h=>.ok .A (h++[.dct []])
/---/def vS(l:.cP)(k:Int):Option D:=(.zP).map (·.2)
/---/def EW(l:.cP)(k:Int)(v:D):List .mB:=if .Ap=true then l.map .yJ else l++[(k,v)]
@[simp] noncomputable def LD:O2:=λx y h=>match x,y with
 |.int k,.ref n=>match h[n]? with|some .hE=>.ok (.bl (vS l k).isSome) h|_=>.bad
 |_,_=>.bad
@[simp] noncomputable def B6(x i e:EF):SF:=λσ h=>outE .f0 σ λd h=>outE .ev σ λp h=>outE (i σ h) σ λj h=>match p,j with
 |.ref n,.int k=>match h[n]? with
  |some .hE=>if l.length<SZ then .nx σ (.d9<|.dct<|EW l k d) else .bad
  |_=>.bad
 |_,_=>.bad
noncomputable def ii:List .mB->Option (List .cF)
 |[]=>some []
 |(k,.int v)::r=>(ii r).map λl=>[k,v]::l
 |_=>none
@[simp] noncomputable def rL(a:EF):LF:=λσ h=>(.L).bind λx h=>match x with
 |.ref n=>match h[n]? with
  |some .hE=>match ii l with
   |some r=>if r.length<64/\r.Nodup then .ok ((eI r).map Af) h else .bad
   |none=>.bad
  |_=>.bad
 |_=>.bad
@[simp] noncomputable def vT(la:LF)(b:EF):LF:=λσ h=>(la σ h).bind λl h=>(.fi).bind λy h=>match y with
 |.int n=>if 0<=n/\n<=1000/\l.length*n.toNat<=1000 then .ok (.AN).flatten h else .bad
 |_=>.bad
@[simp] noncomputable def Wv(x i e:EF):EF:=λσ h=>(.ev).bind λp h=>match p with
 |.ref n=>match h[n]? with
  |some (.lst _)=>(i σ h).bind λj h=>(.f0).bind λd h=>match j with
   |.int k=>match h[n]? with
    |some .cq=>if 0<=k/\k<=l.length/\l.length<SZ then .ok .non (.d9<|.lst<|l.take k.toNat++[d]++l.drop k.toNat) else .bad
    |_=>.bad
   |_=>.bad
  |_=>.bad
 |_=>.bad
@[simp] noncomputable def Ag(a b:EF):EF:=λσ h=>(.L).bind λx h=>(.fi).bind λy h=>match x,y with
 |.int i,.int j=>.ok (.int<|if j>i then j else i) h
 |_,_=>.bad
@[simp] noncomputable def eQ(a b:EF):LF:=λσ h=>(.L).bind λx h=>(.fi).bind λy h=>match x,y with
 |.ref n,.ref m=>match h[n]?,h[m]? with
  |some .cq,some (.lst k)=>if l.length+k.length<=SZ then .ok (l++k) h else .bad
  |_,_=>.bad
 |_,_=>.bad
noncomputable def noX:Res α->Res α
 |.exc _ _=>.bad
 |r=>r
/---/def fPl(f:Sd->Hd->Res α):Sd->Hd->Res α := λσ h=>noX (f σ h)
noncomputable def ltT:D->D->Option Bool
 |.tup xs,.tup ys=>match dG xs,dG ys with
  |some ns,some ms=>some (lexLt ns ms)
  |_,_=>none
 |_,_=>none
@[simp] noncomputable def Pq:O2:=λx y h=>match ltT x y with|some b=>.ok (.bl b) h|none=>.bad
/---/def yx(x:EF):EF:=λσ h=>(.ev).bind λp h=>match p with
 |.ref n=>match h[n]? with|some .jy=>.ok d h|_=>.bad
 |_=>.bad
/---/def B7(x e:EF):SF:=λσ h=>outE .f0 σ λd h=>outE .ev σ λp h=>match p with
 |.ref n=>match h[n]? with|some (.ob [])=>.nx σ (.d9 .jy)|some (.ob [_])=>.nx σ (.d9 .jy)|_=>.bad
 |_=>.bad
/---/def Pr(F:Fn)(r:LF):EF:=λσ h=>(.jg).bind λxs h=>match F (.ref h.length::xs) (h++[.ob []]) with
 |.ok .non h'=>.ok .a7 h'
 |_=>.bad
/---/def jT(F:Fn)(x:EF)(r:LF):EF:=λσ h=>(.ev).bind λp h=>match p with
 |.ref n=>match h[n]? with|some (.ob _)=>(.jg).bind λxs h=>F (.ref n::xs) h|_=>.bad
 |_=>.bad
/---/def qg(s:String):List Nat:=s.toList.map Char.toNat
noncomputable abbrev JF:=List Nat->EF
/---/def rM:JF:=λout _ h=>if out.length<=1000000 then .ok (.str out) h else .bad
/---/def dR(a:EF)(r:JF):JF:=λout σ h=>(.L).bind λx h=>match x with
 |.str y=>if out.length+y.length<=1000000 then r (out++y) σ h else .bad
 |_=>.bad
/---/def fFs(r:JF):EF:=r []
/---/def dq(a:EF):EF:=λσ h=>(.L).bind λx h=>match x with
 |.int i=>if i.natAbs.log2<1920 then .ok (.str<|qg .fM) h else .bad
 |_=>.bad
/---/def Jw(l:.i):Bool := !l.isEmpty&&l.all λc=>decide .tU
/---/def Jx(l:.i):Nat:=l.foldl (λacc c=>acc*10+(c-48)) 0
noncomputable def o8:List Nat->Option Int
 |[]=>none
 |c::r=>if c=45 then (if Jw r=true then some (-(Jx r:Int)) else none) else if Jw (c::r)=true then some (Jx (c::r):Int) else none
/---/def nE(a:EF):EF:=λσ h=>(.L).bind λx h=>match x with
 |.str l=>if l.length<=600 then (match o8 l with|some n=>.ok .aV h|none=>.bad) else .bad
 |_=>.bad
noncomputable abbrev Tab:=List (List Nat × Option Int)
noncomputable def Ps:Option Int->D
 |some i=>.int i
 |none=>.non
/---/def kx(T:Tab)(l:.i):Option .gt:=T.lookup l
/---/def vh(T:Tab)(a:EF):EF:=λσ h=>(.L).bind λx h=>match x with
 |.str l=>.ok (.bl (kx T l).isNone) h
 |_=>.bad
/---/def Ah(T:Tab)(a:EF):EF:=λσ h=>(.L).bind λx h=>match x with
 |.str l=>(match kx T l with|some d=>.ok (Ps d) h|none=>.bad)
 |_=>.bad
/---/def cV:O2:=λx y h=>match x,y with
 |.str a,.str b=>if a.length+b.length<=1000000 then .ok (.str<|a++b) h else .bad
 |_,_=>.bad
/---/def UZ:O2:=λx y h=>match x,y with
 |.str a,.int i=>if a.length<=1000000 then (match ixN a.length i with|some j=>(match a[j]? with|some c=>.ok (.str [c]) h|none=>.bad)|none=>.bad) else .bad
 |_,_=>.bad
/---/def Pt(a b:EF):EF:=ag UZ a b
/---/def HJ(a:EF):EF:=λσ h=>(.L).bind λx h=>match x with
 |.str l=>if l.length<=1000000 then .ok (.int l.length) h else .bad
 |_=>.bad
/---/def Jy:O2:=λx y h=>match x,y with
 |.str [c],.str l=>.ok (.bl<|decide (c∈l)) h
 |_,_=>.bad
noncomputable def EX(l:.i):Option Int->Option Int->Option .bJ
 |none,some j=>if 0<=j/\j<=l.length then some (l.take j.toNat) else none
 |some i,none=>if 0<=i/\i<=l.length then some (l.drop i.toNat) else none
 |_,_=>none
/---/def vj(a:EF)(lo hi:OF):EF:=λσ h=>(.L).bind λx h=>(lo σ h).bind λi h=>(hi σ h).bind λj h=>match x with
 |.str l=>if l.length<=1000000 then (match EX l i j with|some y=>.ok (.str y) h|none=>.bad) else .bad
 |_=>.bad
/---/def LE(a:EF):IF:=λσ h=>(.L).bind λx h=>match x with
 |.str l=>if l.length<=1000000/\l.all (· < 128)=true then .ok (l.map λc=>D.str [c],none) h else .bad
 |_=>.bad
noncomputable def pv:List D->Option (List .bJ)
 |[]=>some []
 |.str x::r=>(pv r).map (x :: ·)
 |_=>none
/---/def mj(a:EF)(lo hi:OF):EF:=λσ h=>(.L).bind λx h=>(lo σ h).bind λi h=>(hi σ h).bind λj h=>match x with
 |.tup l=>.ok (.tup .ow) h
 |_=>.bad
/---/def mr(a b:EF):EF:=λσ h=>(.L).bind λx h=>match x with
 |.str l=>(.fi).bind λy h=>match y with
  |.str k=>.ok (.bl<|decide .st&&.sd) h
  |_=>.bad
 |_=>.bad
noncomputable def br(sp:.i):List .bJ->List Nat
 |[]=>[]
 |[x]=>x
 |x::y::r=>x++sp++br sp (y::r)
/---/def jo(sp:.i)(a:LF):EF:=λσ h=>(.L).bind λl h=>match pv l with
 |some ss=>if (ss.map (·.length)).sum+ss.length*sp.length<=1000000 then .ok (.str .oH) h else .bad
 |none=>.bad
noncomputable def eu(c:Nat):List Nat->List .bJ
 |[]=>[[]]
 |x::r=>if x=c then []::eu c r else match eu c r with
  |p::ps=>(x::p)::ps
  |[]=>[[x]]
theorem tX:∀{p:.i},c∉p->eu c p=[p]
 |[],_=>rfl
 |x::r,h=>by
  have h1:x≠c:=λe=>h (by rw[e];exact ZV);have a:=tX (p:=r) λz=>h (ZW _ z);rw[eu,y3 h1,a]
theorem vU:∀{p:.i},c∉p->eu c (p++c::t)=p::eu c t
 |[],_=>by rw[List.nil_append,eu,z4 rfl]
 |x::r,h=>by
  have h1:x≠c:=λe=>h (by rw[e];exact ZV);have a:=vU (t:=t) (p:=r) λz=>h (ZW _ z);rw[zYf,eu,y3 h1,a]
theorem fU:∀{P:.aQ},P≠[]->(∀p∈P,c∉p)->eu c (br [c] P)=P
 |[],h,_=>absurd rfl h
 |[p],_,f=>tX (f p ZV)
 |p::q::r,_,f=>by
  have a:=fU (P:=q::r) .d λx b=>f x (ZW _ b);have e:br [c] (p::q::r)=p++c::br [c] (q::r):=by rw[br,ZU];rfl
  rw[e,vU (f p ZV),a]
/---/def mx(c:Nat)(a:EF):LF:=λσ h=>(.L).bind λx h=>match x with
 |.str l=>if l.length<=1000000 then .ok ((eu c l).map D.str) h else .bad
 |_=>.bad
/---/def gj(l:.cQ)(k:.c):Option D:=(.zP).map (·.2)
/---/def vV(l:.cQ)(k:.c)(v:D):List .qm:=if .Ap=true then l.map .yJ else l++[(k,v)]
/---/def EY:EF:=λ_ h=>.bf (h++[.dcT []])
/---/def qh:O2:=λx y h=>match x,y with
 |.tup l,.ref n=>match dG l,h[n]? with
  |some k,some (.dcT m)=>.ok (.bl<|!(gj m k).isSome) h
  |_,_=>.bad
 |_,_=>.bad
/---/def HK(x i e:EF):SF:=λσ h=>outE .f0 σ λd h=>outE .ev σ λp h=>outE (i σ h) σ λj h=>match p,j with
 |.ref n,.tup l=>match dG l,h[n]? with
  |some k,some (.dcT m)=>if m.length<SZ then .nx σ (.d9<|.dcT<|vV m k d) else .bad
  |_,_=>.bad
 |_,_=>.bad
/---/def LG:O2:=λx y h=>match x,y with
 |.ref n,.tup l=>match dG l,h[n]? with
  |some k,some (.dcT m)=>match gj m k with|some d=>.ok d h|none=>.bad
  |_,_=>.bad
 |_,_=>.bad
/---/def LH(a b:EF):EF:=ag LG a b
end Fm
namespace L2
open PySem PySem.Spec PyProof.Rows
noncomputable abbrev Key:=Sum Int Str
noncomputable def yy:Key->S1->Bool
 |.inl k,v=>Value.isInt k v
 |.inr x,v=>Value.isStrOf x v
noncomputable def Ww(w:N6):Key->Int
 |.inl k=>hashInt k
 |.inr x=>hashStr w x
theorem eh:∀{k:Key} {v:S1},yy k v=true->(∃i t,k=Sum.inl i/\v=Value.int i t)\/(∃x t,k=Sum.inr x/\v=Value.str x t)
 |.inl i,v,h=>by
  obtain⟨t,e⟩:=zXq (k:=i) (v:=v) h;exact .inl ⟨i,t,rfl,e⟩
 |.inr x,v,h=>by
  obtain⟨t,e⟩:=Value.isStrOf_shape (x:=x) (v:=v) h;exact .inr ⟨x,t,rfl,e⟩
def Jz(i:Int)(t:Tok):yy (.inl i) .oO=true:=by simp[yy,Value.isInt]
def JA(x:Str)(t:Tok):yy (.inr x) (.str x t)=true:=by simp[yy,Value.isStrOf]
def Sr(a b:Int):decide ((Sum.inl a:Key)=Sum.inl b)=(a == b):=by
 by_cases e:a=b
 ·subst e;simp
 ·have h:¬(Sum.inl a:Key)=Sum.inl b:=λq=>e (Sum.inl.inj q)
  rw[xC h];exact(beq_eq_false_iff_ne.mpr e).symm
def Ss(a b:Str):decide ((Sum.inr a:Key)=Sum.inr b)=decide (a=b):=by
 by_cases e:a=b
 ·subst e;simp
 ·have h:¬(Sum.inr a:Key)=Sum.inr b:=λq=>e (Sum.inr.inj q)
  rw[xC h,xC e]
def Su(a:Int)(b:Str):decide ((Sum.inl a:Key)=Sum.inr b)=false:=xC (λq=>nomatch q)
def Sv(a:Str)(b:Int):decide ((Sum.inr a:Key)=Sum.inl b)=false:=xC (λq=>nomatch q)
def eV(prog:N3)(w:N6):PySem.KeyKind prog w Key where
 is:=yy
 hash:=Ww w
 inj:=λv a b ha hb=>by
  rcases eh ha with ⟨i,t,rfl,rfl⟩|⟨x,t,rfl,rfl⟩
  ·rcases eh hb with ⟨j,u,rfl,e⟩|⟨y,u,rfl,e⟩
   ·injection e with e1 _;rw[e1]
   ·exact nomatch e
  ·rcases eh hb with ⟨j,u,rfl,e⟩|⟨y,u,rfl,e⟩
   ·exact nomatch e
   ·injection e with e1 _;rw[e1]
 byValue:=λk v h=>by
  rcases eh h with ⟨i,t,rfl,rfl⟩|⟨x,t,rfl,rfl⟩<;>rfl
 pyHash:=λhv h=>by
  rcases eh hv with ⟨i,t,rfl,rfl⟩|⟨x,t,rfl,rfl⟩
  ·exact wpAny_pyHash_int h
  ·exact wpAny_pyHash_str h
 eqBool:=λhu hv h=>by
  rcases eh hu with ⟨i,t,rfl,rfl⟩|⟨x,t,rfl,rfl⟩
  ·rcases eh hv with ⟨j,u,rfl,rfl⟩|⟨y,u,rfl,rfl⟩
   ·rw[Sr]at h;exact wpAny_eqBool_int h
   ·rw[Su]at h;exact SeqAt.EqAt.int_str i t y u _ _ _ _ h
  ·rcases eh hv with ⟨j,u,rfl,rfl⟩|⟨y,u,rfl,rfl⟩
   ·rw[Sv]at h;exact SeqAt.EqAt.str_int x t j u _ _ _ _ h
   ·rw[Ss]at h;exact wpAny_eqBool_str h
 «strs» := λk x t v h=>by
  rcases eh h with ⟨i,u,rfl,e⟩|⟨y,u,rfl,e⟩
  ·exact nomatch e
  ·injection e with e1 _
   subst e1
   cases v<;>rfl
def B8(prog:N3)(w:N6)(i:Int)(t:Tok):(eV prog w).is (.inl i) .oO=true:=Jz i t
def B9(prog:N3)(w:N6)(x:Str)(t:Tok):(eV prog w).is (.inr x) (.str x t)=true:=JA x t
inductive V where
 |non|bl (b:Bool)|int (i:Int)|str (x:Str)|byt (b:Array UInt8)|flt (b:UInt64)|ref (a:Addr)|ty (n:String)
 deriving DecidableEq
noncomputable def cw:V->S1->Prop
 |.non,u=>u=Value.none
 |.bl b,u=>u=Value.bool b
 |.int i,u=>∃t,u=Value.int i t
 |.str x,u=>∃t,u=Value.str x t
 |.byt b,u=>∃t,u=Value.bytes b t
 |.flt b,u=>∃t,u=Value.float b t
 |.ref a,u=>u=Value.ref a
 |.ty n,u=>u=Value.type n
noncomputable abbrev bn:List V->List S1->Prop:=Paired cw
variable{us:List S1}
def bn.length(r:bn xs us):xs.length=us.length:=Paired.length r
theorem bn.get:∀{xs:List V} {us:List S1} {i:Nat} {x:V},bn xs us->xs[i]?=some x->∃u,us[i]?=some u/\cw x u
 |_,_,_,_,.nil,e=>by simp at e
 |_,_,0,_,.cons r _,e=>by simp at e;subst e;exact⟨_,rfl,r⟩
 |_,_,i+1,x,.cons _ t,e=>by
  obtain⟨u,h1,a⟩:=bn.get (i:=i) (x:=x) t .em;exact⟨u,by simpa using h1,a⟩
theorem bn.set(r:cw x u):∀{xs:List V} {us:List S1} (i:Nat),bn xs us->bn (xs.set i x) (us.set i u)
 |_,_,_,.nil=>.nil
 |_,_,0,.cons _ t=>.cons r t
 |_,_,i+1,.cons q t=>.cons q (bn.set r i t)
theorem bn.append:∀{xs ys:List V} {us a:List S1},bn xs us->bn ys a->bn (xs++ys) (us++a)
 |_,_,_,_,.nil,s=>s
 |_,_,_,_,.cons r t,s=>.cons r (bn.append t s)
theorem bn.take:∀{xs:List V} {us:List S1} (n:Nat),bn xs us->bn (xs.take n) (us.take n)
 |_,_,0,_=>.nil
 |_,_,_+1,.nil=>.nil
 |_,_,n+1,.cons r t=>.cons r (bn.take n t)
theorem bn.drop:∀{xs:List V} {us:List S1} (n:Nat),bn xs us->bn (xs.drop n) (us.drop n)
 |_,_,0,r=>r
 |_,_,_+1,.nil=>.nil
 |_,_,n+1,.cons _ t=>bn.drop n t
noncomputable def o9:Option V->Option S1->Prop
 |some v,some u=>cw v u
 |none,none=>True
 |_,_=>False
/---/def KV:List .ja->List .oC->Prop:=Paired λ(p:κ × V) (q:κ × S1)=>p.1=q.1/\cw p.2 q.2
noncomputable def kV:Key->V
 |.inl i=>.int i
 |.inr x=>.str x
inductive HO where
  |lst (xs:List V)
  |tup (xs:List V)
  |dK (kvs:.d0)|dT (kvs:.gb)
  |set (S:Int->Bool) (n:Nat)
  |ins (C dx:Addr) (fs:List .dQ)
  |own (x:Addr)
  |xd (fs:List .dQ)
  |met (f x:Addr)
  |rng (lo hi:Int)
  |frz (o:Obj) (u:HO)
  |tbl (ps:.bp)
  |ext (φ:Heap->Prop)
noncomputable abbrev Hp:=Addr->Option HO
/---/def upd(H:Hp)(a:Addr)(o:HO):Hp:=λb=>if b=a then some o else H b
variable{H:Hp}
def bw:.aA a o a=some o:=by unfold upd;rw[z4 rfl]
variable{b:Addr}
def aS(h:b≠a):.aA a o b=H b:=by unfold upd;rw[y3 h]
def RU{a:Addr}{o u:HO}(h:H a=some o)(h':H b=some u)(d:o≠u):a≠b:=by
 intro e;subst e;rw[h]at h';exact d (ZT h')
def cr(h:H a=some o)(h':H b=none):a≠b:=by
 intro e;subst e;rw[h]at h';cases h'
section
variable(P:N3)(w:N6)
noncomputable def fL(H:Hp)(h:Heap)(a:Addr):HO->Prop
 |.lst xs=>xs.length<=sizeLine/\∃(its:List S1) (n:Nat),bn xs its/\h.get? a=some { cls:=.type "list",data:=.seq its.toArray n }
 |.tup xs=>xs.length<=sizeLine/\∃its:List S1,bn xs its/\IsTup h a its.toArray
 |.dK kvs=>kvs.length<=sizeLine/\.fG=false/\∃vs,KV kvs vs/\h.DictOf .gV a vs
 |.dT kvs=>kvs.length<=sizeLine/\.fG=false/\∃xs:List .m9,
   Paired (λ(p:List Key × V) (q:List Key × Addr × S1)=>p.1=q.1/\H q.2.1=some (.tup<|p.1.map kV)/\cw p.2 q.2.2) kvs xs/\
   ∃o es ep,h.get? a=some o/\o.ExactDict/\o.data=.dict es ep/\es.toList=xs.map (entryOfKey .kz)/\(xs.map (·.1)).Nodup
 |.set S n=>h.SetOf (intKind P w) a S n
 |.ins C dx fs=>H dx=some (.own a)/\fs.length<=1000/\dx≠a/\h.get? a=some .sh/\
   ∃mA,h.Ns1 dx mA/\(∀f,o9 .t0 (mA f))/\PySem.Within mA (fs.map (·.1))
 |.own _=>∃o,h.get? a=some o
 |.xd fs=>∃mA,h.Ns1 a mA/\∀f,o9 .t0 (mA f)
 |.rng lo hi=>∃t u v,h.get? a=some { cls:=.type "range",data:=.fields #[.int lo t,.int hi u,.int 1 v] }
 |.frz o u=>h.get? a=some o/\fL H h a u
 |.tbl ps=>h.get? a=some { cls:=.none,data:=.fields ps }
 |.met f x=>h.get? a=some (PySem.W.methodObj (.ref f)<|.ref x)
 |.ext φ=>φ h/\(∃o,h.get? a=some o)/\∀h1 h2:Heap,φ h1->(∀o,h1.get? a=some o->h2.get? a=some o)->φ h2
/---/def HOk(H:Hp)(h:Heap):Prop:=∀a o,H a=some o->.l5 o
end
section
variable{P:N3}{w:N6}{H H':Hp}{h h':Heap}{a:Addr}{o:HO}
def fL.lt(x:.l5 o):a<h.objs.size:=by
 cases o with
 |lst b=>obtain⟨_,_,_,_,e⟩:=x;exact ZI e
 |tup b=>obtain⟨_,_,_,p⟩:=x;exact p.lt
 |dK kvs=>obtain⟨_,_,_,_,o,_,_,e,_⟩:=x;exact ZI e
 |dT kvs=>obtain⟨_,_,_,_,o,_,_,e,_⟩:=x;exact ZI e
 |set S n=>obtain⟨o,_,_,_,e,_⟩:=x;exact ZI e
 |ins C k c=>obtain⟨_,_,_,e,_⟩:=x;exact ZI e
 |own y=>obtain⟨_,e⟩:=x;exact ZI e
 |xd c=>obtain⟨_,⟨_,_,_,e,_⟩,_⟩:=x;exact ZI e
 |rng d j=>obtain⟨_,_,_,e⟩:=x;exact ZI e
 |frz i u=>obtain⟨e,_⟩:=x;exact ZI e
 |tbl g=>exact ZI (show h.get? a=some _ from x)
 |met f y=>exact ZI (show h.get? a=some _ from x)
 |ext φ=>obtain⟨_,⟨_,e⟩,_⟩:=x;exact ZI e
theorem Paired.mapP:∀{d:List α} {c:List β},Paired F d c->(∀a b,F a b->G a b)->Paired G d c
 |_,_,.nil,_=>.nil
 |_,_,.cons r t,f=>.cons (f _ _ r) (Paired.mapP t f)
def fL.stay(x:.l5 o)(k:∀b u,(b=a\/H b=some (.own a))->h.get? b=some u->h'.get? b=some u)
  (E:∀b,H b=some (.own a)->H' b=some (.own a)) (ht:.Di):fL P w H' h' a o:=by
 induction o with
 |lst xs=>obtain⟨z,l,n,r,e⟩:=x;exact⟨z,l,n,r,.dx e⟩
 |tup xs=>obtain⟨z,l,r,g,e,c⟩:=x;exact⟨z,l,r,g,.dx e,c⟩
 |dK kvs=>obtain⟨z,y,B,r,g,j,i,e,c⟩:=x;exact⟨z,y,B,r,g,j,i,.dx e,c⟩
 |dT kvs =>
  obtain⟨z,y,xs,r,g,j,i,e,c⟩:=x;exact⟨z,y,xs,Paired.mapP r λp q z=>⟨z.1,ht _ _ z.2.1,z.2.2⟩,g,j,i,.dx e,c⟩
 |set S n=>obtain⟨g,j,i,t,e,c⟩:=x;exact⟨g,j,i,t,.dx e,c⟩
 |ins C K G =>
  obtain⟨d,z,ne,e,mA,⟨m,j,i,D,c⟩,r⟩:=x;exact⟨E _ d,z,ne,.dx e,mA,⟨m,j,i,k _ _ (.inr d) D,c⟩,r⟩
 |own y=>obtain⟨g,e⟩:=x;exact⟨g,.dx e⟩
 |xd G=>obtain⟨mA,⟨m,j,i,e,c⟩,r⟩:=x;exact⟨mA,⟨m,j,i,.dx e,c⟩,r⟩
 |rng I J=>obtain⟨t,u,v,e⟩:=x;exact⟨t,u,v,.dx e⟩
 |frz g u F=>obtain⟨e,q⟩:=x;exact⟨.dx e,F q⟩
 |tbl s =>
  have e:h.get? a=some { cls:=.none,data:=.fields s }:=x;show h'.get? a=some { cls:=.none,data:=.fields s };exact k a _ .a8 e
 |met f y =>
  have e:h.get? a=some .y7:=x;show h'.get? a=some .y7;exact k a _ .a8 e
 |ext φ=>obtain⟨p,⟨o,e⟩,A⟩:=x;exact⟨A _ _ p λo q=>.dx q,⟨o,.dx e⟩,A⟩
def HOk.lt(x:.cp)(e:H a=some o):a<h.objs.size:=(x a o e).lt
def HOk.fresh(x:.cp)(e:h.objs.size<=a):H a=none:=by
 cases q:H a with
 |none=>rfl
 |some u=>exact absurd (Z0 (x.lt q) e) (YF _)
def HOk.kept(x:.cp)(k:.oP):HOk P w H h':=λa o e =>
 (x a o e).stay (λb u _ q=>k b u q) .oB λ_ _ q=>q
def HOk.laid(x:.cp)(k:.oP)(hp:h.objs.size<=a)(new:fL P w .ld h' a o):HOk P w .ld h':=λb u e=>by
 have d:=x.fresh hp
 by_cases f:b=a
 ·subst f;rw[bw]at e;cases e;exact new
 ·rw[aS f]at e
  exact(x b u e).stay (λc v _ q=>k c v q) (λc q=>by rw[aS (cr q d)];exact q) λc g q=>by rw[aS (cr q d)];exact q
end
/---/def Rd(H:Hp)(a:Addr)(u:HO):Prop:=H a=some u\/∃o,H a=some .fT
def Rd.of(h:H a=some u):Rd H a u:=.inl h
variable{h:Heap}
def Rd.ok(r:Rd H a u)(x:.cp):.l5 u:=by
 rcases r with r|⟨o,r⟩
 ·exact x a u r
 ·obtain⟨_,q⟩:=x a _ r
  exact q
noncomputable def Mut:Option HO->Prop
 |some (.lst _)=>True
 |some (.dK _)=>True
 |some (.dT _)=>True
 |some (.set _ _)=>True
 |some (.ins _ _ _)=>True
 |some (.ext _)=>True
 |_=>False
section
variable{P:N3}{w:N6}{H:Hp}{h h':Heap}{x e:Addr}{o':HO}
def HOk.write(ok:.cp)(f:Mut (H x))(he:.uN)(k:.C7)(l:.uz)
  (new:fL P w (.aA x o') h' x o'):HOk P w (.aA x o') h':=λb u q=>by
 have a:∀c y,H c=some (.own y)->c≠x:=λc y r z=>by subst z;rw[r]at f;exact f
 have d:∀c i,H c=some (.tup i)->c≠x:=λc i r z=>by subst z;rw[r]at f;exact f
 by_cases g:b=x
 ·subst g;rw[bw]at q;cases q;exact new
 ·rw[aS g]at q
  by_cases hbe:b=e
  ·have m:H b=some .hd:=by
    rcases he with z|z
    ·exact absurd (hbe.trans z) g
    ·rw[hbe];exact z
   rw[q]at m;cases m;obtain⟨v,n⟩:=l;exact⟨v,by rw[hbe];exact n⟩
  ·refine(ok b u q).stay (λc v j r=>k c v ?_ r) (λc r=>by rw[aS (a c b r)];exact r) λc i r=>by rw[aS (d c i r)];exact r
   rcases j with rfl|j
   ·exact hbe
   ·rintro rfl
    rcases he with z|z
    ·exact a c b j z
    ·rw[j]at z;cases z;exact g rfl
end
structure Un(fs ex:.I)(H H':Hp)(h h':Heap):Prop where
 keep:∀b o,h.get? b=some o->H b=none->b∉fs->b∉ex->h'.get? b=some o
 slot:∀b o,h.get? b=some o->H b=none->b∈fs->b∉ex->∃sl,h'.get? b=some { o with slots:=sl }
 free:∀b o,h.get? b=some o->H b=none->b∉ex->H' b=none
 there:∀b o,h.get? b=some o->b∉ex->∃o',h'.get? b=some o'
 tups:∀b xs,H b=some .df->H' b=some .df
 frzs:∀b o u,H b=some .fT->H' b=some .fT
 tbls:∀b ps,H b=some (.tbl ps)->∃more,H' b=some (.tbl<|ps++more)
section
variable{fs fs' ex ex':.I}{H H1 H2:Hp}{h h1 h2 h':Heap}{a x e:Addr}{o:HO}
def Un.any(u:Un fs ex H H1 h h1)(q:h.get? b=some ob)(n:H b=none)(d:b∉ex):∃f,h1.get? b=some { ob with slots:=f }:=by
 by_cases c:b∈fs
 ·exact u.slot b ob q n c d
 ·exact⟨ob.slots,u.keep b ob q n c d⟩
def Un.kept(k:.oP):Un fs ex H H h h' :=
 ⟨λb c q _ _ _=>k b c q,λb c q _ _ _=>⟨c.slots,k b c q⟩,λ_ _ _ n _=>n,λb c q _=>⟨c,k b c q⟩,λ_ _ q=>q,λ_ _ _ q=>q,λ_ d q=>⟨#[],by rw[q];simp⟩⟩
def Un.refl:Un fs ex H H h h:=Un.kept λ_ _ q=>q
theorem Un.laid(k:.oP)(hp:h.objs.size<=a)(c:H a=none):Un fs ex H .ld h h' where
 keep:=λb u q _ _ _=>k b u q
 slot:=λb u q _ _ _=>⟨u.slots,k b u q⟩
 free:=λb u q n _=>by rw[aS (ZN<|Z0 (ZI q) hp)];exact n
 there:=λb u q _=>⟨u,k b u q⟩
 tups:=λb d q=>by rw[aS (cr q c)];exact q
 frzs:=λb u d q=>by rw[aS (cr q c)];exact q
 tbls:=λb f q=>⟨#[],by rw[aS (cr q c),q];simp⟩
def Un.write(c:Mut (H x))(he:.uN)(k:.C7)(d:.uz):Un fs ex H (.aA x o) h h':=by
 have i:∀b,H b=none->b≠x:=λb n z=>by subst z;rw[n]at c;exact c
 have g:∀b,H b=none->b≠e:=λb n z=>by
  subst z;rcases he with r|r
  ·exact i b n r
  ·rw[n]at r;cases r
 have f:∀b u,H b=some u->¬Mut (some u)->b≠x:=λb u q l z=>by subst z;rw[q]at c;exact l c
 refine⟨λb u q n _ _=>k b u (g b n) q,λb u q n _ _=>⟨u.slots,k b u (g b n) q⟩,λb u q n _=>by rw[aS (i b n)];exact n,λb u q _ => ?_,
  λb j q=>by rw[aS .tm];exact q,λb u j q=>by rw[aS .tm];exact q,λb m q=>⟨#[],by rw[aS .tm,q];simp⟩⟩
 by_cases hbe:b=e
 ·subst hbe;exact d
 ·exact⟨u,k b u hbe q⟩
end
/---/def trk(h:Heap)(H:Hp):List Addr:=(.r0).filter λa=>(H a).isSome
/---/def Ai(h:Heap)(H:Hp):Heap:=PySem.W.hideAll h (trk h H)
def JB(h:Heap)(H:Hp):(Ai h H).objs.size=h.objs.size:=PySem.W.hideAll_size _ _
def LJ(e:h.get? b=some o)(n:H b=none):(Ai h H).get? b=some o :=
 PySem.W.hideAll_get _ e λa=>by
  have q:(H b).isSome=true:=(YN.mp a).2;rw[n]at q;simp at q
def Pu(e:(Ai h H).get? b=some o):h.get? b=some o/\H b=none:=by
 have a:h.get? b=some o:=PySem.W.of_hideAll (trk h H) e;refine⟨a,?_⟩;cases q:H b with
 |none=>rfl
 |some x =>
  have c:b∈trk h H:=YN.mpr ⟨YU.mpr (ZI a),by simp[q]⟩;have z:(Ai h H).get? b=none:=PySem.W.hideAll_none (trk h H) c;rw[z]at e;cases e
/---/def Pv(g h:Heap)(L:Addr):List .eO:=(.r0).filterMap λa=>if a=L\/(g.get? a).isSome=true then none else (h.get? a).map λo=>(a,o)
/---/def rest(g h:Heap)(L d:Addr):List .eO:=(Pv g h L).filter λp=>decide (p.1≠d)
structure Mod(K:ZX)(mg:.ap)(base:Heap):Prop where
 kin:K.In base
 glob:base.Ns mainGlobals mg
 blt:∃mb,base.Ns builtinsNs mb/\∀x:Str,x≠"__name__"->mb x=bootBuiltins x
 nolimit:base.NoLimit
structure Cx where
 prog:N3
 w:N6
 K:ZX
 mg:Str->Option S1
 base:Heap
 A:P2
 N:List Str
 s₀:P1
 H₀:Hp
 env:Env
 outer:List Env
 stack:List Env
 ex:List Addr
 fn:Str->Bool
 calm:Bool
 pn:List .eO
 xe:S1->P1->Prop
/---/def frs(l:.d2):List Addr:=l.filterMap (·.frame)
noncomputable abbrev Cx.fs(X:Cx):List Addr:=frs X.outer
/---/def Vis(sc:Scope)(x:Str):Prop:=sc.names.lookup x=some .local\/sc.names.lookup x=some .cell\/sc.names.lookup x=some .free
/---/def Loc(sc:Scope)(x:Str):Prop:=sc.names.lookup x=some .local\/sc.names.lookup x=some .cell
/---/def Wx(env:Env)(h:Heap)(m:.ap)(x:Str)(u:S1):Prop :=
 (env.kindOf x=some .local/\m x=some u)\/((env.kindOf x=some .cell\/env.kindOf x=some .free)/\∃c,env.cells.lookup x=some c/\h.IsCell c (some u))
structure Cx.Ok(X:Cx):Prop where
 mod:Mod X.K X.mg X.base
 kind:X.env.scope.kind=.function
 glob:X.env.globals=mainGlobals
 blt:X.env.builtins=builtinsNs
 above:X.s₀.heap.objs.size<=X.env.locals
 inj:∀x y c,X.env.cells.lookup x=some c->X.env.cells.lookup y=some c->x=y
 has:∀x,(X.env.kindOf x=some .cell\/X.env.kindOf x=some .free)->∃c,X.env.cells.lookup x=some c
 cab:∀x c,X.fn x=true->X.env.cells.lookup x=some c->X.s₀.heap.objs.size<=c
 hd:X.calm=true->X.A.handled=none
 frames:X.A.frames=some X.stack
 stk:X.stack=X.outer\/(X.stack=X.env::X.outer/\X.env.frame=some X.env.locals)
 exf:∀b∈X.ex,b≠X.env.locals/\∀x c,X.env.cells.lookup x=some c->c≠b
 bs:∀b o,X.base.get? b=some o->X.s₀.heap.get? b=some o/\X.H₀ b=none
 bsz:X.base.objs.size<=X.s₀.heap.objs.size
 noex:∀b o,X.base.get? b=some o->b∉X.ex
 exfs:∀b∈X.ex,b∉X.fs
 funs:X.s₀.heap.FunFrames X.base X.outer
 frf:∀b∈X.fs,X.H₀ b=none
structure Inv(X:Cx)(pins:.J)(σ:List (Option V))(H:Hp)(s:P1):Prop where
 ok:X.Ok
 os:s.os=X.s₀.os
 bare:AllBare s.gens
 base:Un X.fs X.ex X.H₀ H X.s₀.heap s.heap
 loc:∃m,s.heap.Ns X.env.locals m/\∀(i:Nat) (x:Str) (v:V),X.N[i]?=some x->σ[i]?=some .dR->Vis X.env.scope x->∃u,cw v u/\Wx X.env s.heap m x u
 cell:∀x c,X.env.cells.lookup x=some c->∃v,s.heap.IsCell c v
 free:H X.env.locals=none
 freeC:∀x c,X.env.cells.lookup x=some c->H c=none
 pin:∀p∈X.pn++pins,s.heap.get? p.1=some p.2/\H p.1=none/\p.1≠X.env.locals/\p.1∉X.fs/\∀v,p.2.data ≠ .cell v
 hok:HOk X.prog X.w H s.heap
 len:σ.length=X.N.length
variable{x:Str}{u:S1}{E:.D}{A:P2}
section
variable{X:Cx}{pins:.J}{σ:List (Option V)}{H H':Hp}{s:P1}{h':Heap}
def Cx.Ok.nofr(ok:X.Ok)(e:X.base.get? b=some o):b∉X.fs:=λa=>by
 have:=(ok.funs.mem a).1;rw[e]at this;cases this
def Inv.bs(I:.p):∀b o,X.base.get? b=some o->s.heap.get? b=some o/\H b=none:=λb o e =>
 ⟨I.base.keep b o (.kS).1 (.kS).2 (I.ok.nofr e) (I.ok.noex b o e),I.base.free b o (.kS).1 (.kS).2 (I.ok.noex b o e)⟩
def Inv.bk(I:.p):∀b o,X.base.get? b=some o->s.heap.get? b=some o:=λb o e=>(I.bs b o e).1
def Inv.mod(I:.p):Mod X.K X.mg X.base:=I.ok.mod
def Inv.kIn(I:.p):X.K.In s.heap:=I.ok.mod.kin.keeps I.bk
def Inv.lt(I:.p):X.env.locals<s.heap.objs.size:=let ⟨_,a,_⟩:=I.loc;a.lt
def Inv.sz(I:.p):X.s₀.heap.objs.size<=s.heap.objs.size:=ZM I.ok.above (XF I.lt)
def Inv.nofs(I:.p){a:Addr}(h:s.heap.objs.size<=a):a∉X.fs:=λc=>by
 obtain⟨_,o,b,_⟩:=I.ok.funs.mem c;exact absurd (Z0 (ZI b)<|ZM I.sz h) (YF _)
def Inv.cne(I:.p):∀x c,X.env.cells.lookup x=some c->c≠X.env.locals:=λx c e z=>by
 obtain⟨v,o,d,b⟩:=.hR e;obtain⟨m,⟨g,h,f,a,hd',_⟩,_⟩:=I.loc;rw[z,a]at d;cases d;rw[hd']at b;cases b
def Inv.funs(I:.p):s.heap.FunFrames X.base X.outer:=by
 have c:∀(l:.d2),(∀b∈frs l,b∈X.fs)->X.s₀.heap.FunFrames X.base l->s.heap.FunFrames X.base l:=by
  intro l
  induction l with
  |nil=>intro _ _;trivial
  |cons env r p =>
   intro g h;obtain⟨j,⟨L,o,a,i,n,m⟩,k⟩:=h;have f:L∈X.fs:=g L (by unfold frs;rw[vr,a];exact ZV);obtain⟨q,e⟩:=I.base.slot L o n (I.ok.frf L f) f λz=>I.ok.exfs L z f;exact⟨j,⟨L,_,a,i,e,m⟩,p (λb d=>g b (by unfold frs;rw[vr,a];exact ZW _ d)) k⟩
 exact c X.outer (λ_ d=>d) I.ok.funs
def Inv.stack(I:.p):s.heap.FunFrames X.base X.stack:=by
 rcases I.ok.stk with e|⟨e,b⟩
 ·rw[e];exact I.funs
 ·rw[e]
  obtain⟨m,a,_⟩:=I.loc;refine .cons (by rw[I.ok.kind];decide) b a ?_ I.funs;exact Heap.get?_none_of_le (ZM I.ok.bsz I.ok.above)
def Inv.stkSub(I:.p):∀b∈frs X.stack,b∈X.env.locals::X.fs:=λb a=>by
 rcases I.ok.stk with e|⟨e,c⟩
 ·rw[e]at a;exact ZW _ a
 ·rw[e]at a
  unfold frs at a;rw[vr,c]at a;exact a
def Inv.stkFree(I:.p):∀b∈frs X.stack,H b=none:=λb a=>by
 rcases xB.mp (I.stkSub b a) with e|a
 ·rw[e];exact I.free
 ·obtain⟨_,o,c,_⟩:=I.ok.funs.mem a
  exact I.base.free b o c (I.ok.frf b a) λz=>I.ok.exfs b z a
def Inv.step{ch:.I}(I:.p)
  (h:.um)
  (keep:∀b o,b≠X.env.locals->b∉X.fs->b∉ch->s.heap.get? b=some o->H b=none->h'.get? b=some o)
  (slot:∀b o,b≠X.env.locals->b∈X.fs->b∉ch->s.heap.get? b=some o->H b=none->∃F,h'.get? b=some { o with slots:=F }) (free:∀b o,b∉ch->s.heap.get? b=some o->H b=none->H' b=none)
  (there:∀b o,b∉ch->s.heap.get? b=some o->∃B,h'.get? b=some B)
  (tups:.Di) (frzs:∀b o u,H b=some .fT->H' b=some .fT) (tbls:∀b ps,H b=some (.tbl ps)->∃more,H' b=some (.tbl<|ps++more))
  (ns:∀m,s.heap.Ns X.env.locals m->h'.Ns X.env.locals m) (hok:.uG) (M:AllBare g') :
  Inv X pins σ H' .xn:=by
 have A:∀b o,X.s₀.heap.get? b=some o->b≠X.env.locals:=λb o e=>ZN (Z0 .dh I.ok.above);have j:∀b o,X.s₀.heap.get? b=some o->b∉X.ex->b∉ch:=λb o e a w=>by
  rcases (h b w).1 with z|z
  ·exact a z
  ·exact absurd (Z0 .dh z) (YF _)
 have g:∀x c,X.env.cells.lookup x=some c->∀v,s.heap.IsCell c v->h'.IsCell c v:=λx c e v ⟨o,y,E⟩=>by
  have f:c∉ch:=λz=>(h c z).2.2.1 x c e rfl
  by_cases K:c∈X.fs
  ·obtain⟨F,q⟩:=slot c o (I.cne x c e) K f y .tK
   exact⟨_,q,E⟩
  ·exact⟨o,keep c o (I.cne x c e) K f y .tK,E⟩
 refine⟨I.ok,I.os,M,⟨λb o e n w a=>?_,λb o e n w a=>?_,λb o e n a=>?_,λb o e a=>?_,λb xs e=>tups b xs (I.base.tups b xs e),λb o xs e=>frzs b o xs (I.base.frzs b o xs e),λb ps e=>?_⟩,?_,λx c e=>?_,?_,λx c e=>?_,λp G=>?_,hok,I.len⟩
 ·exact keep b o (A b o e) w .os (I.base.keep b o e n w a) .r5
 ·obtain⟨F,t⟩:=I.base.slot b o e n w a
  obtain⟨D,C⟩:=slot b _ (A b o e) w .os t .r5;exact⟨D,C⟩
 ·obtain⟨B,t⟩:=.p3 a
  exact free b B .os t .r5
 ·obtain⟨B,t⟩:=.p3 a
  exact there b B .os t
 ·obtain⟨m1,t⟩:=I.base.tbls b ps e
  obtain⟨m2,C⟩:=tbls b _ t;exact⟨m1++m2,by rw[C,Array.append_assoc]⟩
 ·obtain⟨m,N,L⟩:=I.loc
  refine⟨m,ns m N,λi x v t C O=>?_⟩;obtain⟨u,r,l⟩:=L i x v t C O;refine⟨u,r,?_⟩;rcases l with l|⟨k,c,e,z⟩
  ·exact .inl l
  ·exact .inr ⟨k,c,e,g x c e _ z⟩
 ·obtain⟨v,z⟩:=.hR e
  exact⟨v,g x c e v z⟩
 ·obtain⟨m,⟨o,_,_,y,_⟩,_⟩:=I.loc
  exact free _ o (λz=>(h _ z).2.1 rfl) y I.free
 ·obtain⟨v,o,y,E⟩:=.hR e
  exact free c o (λz=>(h c z).2.2.1 x c e rfl) y .tK
 ·obtain⟨e,n,ne,J,d⟩:=I.pin p G
  have f:p.1∉ch:=λz=>(h p.1 z).2.2.2 p G rfl;exact⟨keep p.1 p.2 ne J f e n,free p.1 p.2 f e n,ne,J,d⟩
def Inv.un(I:.p)(u:Un X.fs [] H H' s.heap h')(hok:.uG):.be H' .fw:=by
 obtain⟨m,⟨o,t,p,g,r⟩,_⟩:=id I.loc;obtain⟨l,h⟩:=u.any g I.free .d;exact I.step (g':=s.gens) (d':=s.drawn) (ch:=[]) .e1 (λb o _ f _ e n=>u.keep b o e n f .d) (λb o _ f _ e n=>u.slot b o e n f .d) (λb o _ e n=>u.free b o e n .d) (λb o _ e=>u.there b o e .d) u.tups u.frzs u.tbls (λq j=>by
  obtain⟨k,d,c,a,i⟩:=j;rw[g]at a;cases a;exact⟨_,d,c,h,i⟩) hok I.bare
def Inv.call{ch:.I}(I:.p)(u:Un (frs X.stack) ch H H' s.heap h')(hok:.uG)(k:AllBare g')
  (f:.um) :
  Inv X pins σ H' .xn:=by
 obtain⟨m,⟨o,B,y,j,r⟩,_⟩:=id I.loc;obtain⟨w,h⟩:=u.any j I.free λz=>(f _ z).2.1 rfl;exact I.step (ch:=ch) f (λb o h q a e n=>u.keep b o e n (λz=>(xB.mp<|I.stkSub b z).elim h q) a) (λb o _ _ a e n=>u.any e n a) (λb o a e n=>u.free b o e n a) (λb o a e=>u.there b o e a) u.tups u.frzs u.tbls (λA t=>by
  obtain⟨v,i,g,d,l⟩:=t;rw[j]at d;cases d;exact⟨_,i,g,h,l⟩) hok k
def Inv.turned(I:.p)(k:∀b o,b≠it->s.heap.get? b=some o->h'.get? b=some o)(g:H it=none)(f:it≠X.env.locals)
  (h1:it∈X.ex\/X.s₀.heap.objs.size<=it) (w:∀x c,X.env.cells.lookup x=some c->c≠it) (h:∀p∈X.pn++pins,p.1≠it):.be H .fw:=by
 have d:∀b u,H b=some u->b≠it:=λb u e z=>by rw[z,g]at e;cases e
 refine I.step (g':=s.gens) (d':=s.drawn) (ch:=[it]) (λb i=>?_) (λb o _ _ a e _=>k b o .tX e) (λb o _ _ a e _=>⟨o.slots,k b o .tX e⟩) (λ_ _ _ _ n=>n)
  (λb o a e=>⟨o,k b o .tX e⟩) (λ_ _ e=>e) (λ_ _ _ e=>e) (λb A e=>⟨#[],by rw[e];simp⟩) (λm y=>?_) (λb u e=>?_) I.bare
 ·have e:b=it:=by simpa using i
  subst e;exact⟨h1,f,w,h⟩
 ·obtain⟨o,t,j,l,r⟩:=y
  exact⟨o,t,j,k _ o (XO f) l,r⟩
 ·refine (.oa).stay (λc v a q=>k c v ?_ q) .oB λ_ _ q=>q
  rcases a with z|z
  ·rw[z];exact d b u e
  ·exact d c _ z
def Inv.tok(I:.p)(t:Nat):Inv X pins σ H { s with toks:=t }:=I.un (h':=s.heap) (t':=t) Un.refl I.hok
def Inv.kept(I:.p)(k:.C8):.be H .fw:=I.un (Un.kept k) (I.hok.kept k)
def Inv.laid{a:Addr}(I:.p)(k:.C8)(hp:s.heap.objs.size<=a)(new:fL X.prog X.w .ld h' a o):
  Inv X pins σ .ld .fw:=I.un (Un.laid k hp<|I.hok.fresh hp) (I.hok.laid k hp new)
def Inv.write{x e:Addr}(I:.p)(c:Mut (H x))(he:.uN)(k:∀b u,b≠e->s.heap.get? b=some u->h'.get? b=some u)(a:.uz)
  (new:fL X.prog X.w (.aA x o) h' x o):.be (.aA x o) .fw:=I.un (Un.write c he k a) (I.hok.write c he k a new)
def Inv.pins_of(I:.p)(h:∀p∈pins',s.heap.get? p.1=some p.2/\H p.1=none/\p.1≠X.env.locals/\p.1∉X.fs/\∀v,p.2.data ≠ .cell v):Inv X pins' σ H s :=
 ⟨I.ok,I.os,I.bare,I.base,I.loc,I.cell,I.free,I.freeC,λp a=>(Z1.mp a).elim (λz=>I.pin p (List.mem_append_left _ z)) (h p),I.hok,I.len⟩
def Ca{N:.aq}(d:N.Nodup){i j:Nat}(a:N[i]?=some x)(b:N[j]?=some x):i=j:=by
 obtain⟨f,c⟩:=z0.mp a;obtain⟨g,e⟩:=z0.mp b;exact(List.getElem_inj d).mp (c.trans e.symm)
def yz{M:Model}(I:.p)(hN:.hy)(hi:.eB)(w:.ht)(r:cw v u)
  (h:∀U,Inv X pins .nM H U->(∃a,Heap.SameBut a s.heap U.heap/\(a=X.env.locals\/X.env.cells.lookup x=some a))->Q () U) (hf:autoParam (X.fn x=true\/X.env.scope.names.lookup x=some .local) Q0Q._auto_1):wpAny M A .Cx Q E s:=by
 obtain⟨m,hn,hl⟩:=id I.loc;have O:(X.env.scope.kind == .class||(X.env.scope.kind == .module&&X.env.locals != X.env.globals))=false:=by rw[I.ok.kind];rfl
 have F:i<σ.length:=by rw[I.len];exact(z0.mp hi).1
 have K:=I.cne;have g:∀{a:Addr} {h':Heap},(∃o,s.heap.get? a=some o/\H a=none)->Heap.SameBut a s.heap h'->HOk X.prog X.w H h':=λ{a h'} ha f b ob e=>by
  obtain⟨_,_,B⟩:=ha;refine(I.hok b ob e).stay (λc S t q=>(f.2 c ?_).trans q) .oB λ_ _ q=>q;rintro rfl;rcases t with rfl|t
  ·rw[B]at e;cases e
  ·rw[B]at t;cases t
 rcases w with D|D
 ·refine wpAny_storeName_local D hn (λh' Y f=>?_) O
  obtain⟨oL,_,_,Z,_⟩:=id hn;refine h _ ⟨I.ok,I.os,I.bare,⟨λb o e n G w=>?_,λb o e n G w=>?_,I.base.free,λb o e w=>?_,I.base.tups,I.base.frzs,I.base.tbls⟩,⟨_,Y,λj y v' l C e3=>?_⟩,λy c e=>?_,I.free,I.freeC,λp W=>?_,g ⟨oL,Z,I.free⟩ f,by simpa using I.len⟩ ⟨_,f,.inl rfl⟩
  ·exact (.rk).trans .A4
  ·obtain⟨sl,l⟩:=I.base.slot b o e n G w
   exact⟨sl,(.rk).trans l⟩
  ·obtain⟨o',l⟩:=.p3 w
   exact⟨o',(.rk).trans l⟩
  ·by_cases J:j=i
   ·subst J
    rw[hi]at l;cases l;rw[x4 F]at C;cases C;exact⟨u,r,.inl ⟨D,by simp⟩⟩
   ·rw[ZP (XO J)]at C
    obtain⟨u',r',q⟩:=hl j y v' l C e3;refine⟨u',r',?_⟩;rcases q with ⟨k,e⟩|⟨k,c,e,z⟩
    ·refine .inl ⟨k,?_⟩
     have:y≠x:=λe=>J (Ca hN l<|e▸hi);simp[this,e]
    ·exact .inr ⟨k,c,e,z.sameBut f (K y c e)⟩
  ·obtain⟨S,z⟩:=I.cell y c e
   exact⟨S,z.sameBut f (K y c e)⟩
  ·obtain⟨e,n,ne,nf,d⟩:=I.pin p W
   exact⟨(f.2 p.1 ne).trans e,n,ne,nf,d⟩
 ·have L:X.fn x=true:=by
   rcases hf with z|z
   ·exact z
   ·rw[z]at D;cases D
  obtain⟨c,t⟩:=I.ok.has x (.inl D);obtain⟨S,z⟩:=.hR t;refine wpAny_storeName_cell I.ok.kind D t z (λh' R f=>?_);obtain⟨oc,P,N⟩:=id z;refine h .bj ⟨I.ok,I.os,I.bare,⟨λb o e n G w=>?_,λb o e n G w=>?_,I.base.free,λb o e w=>?_,I.base.tups,I.base.frzs,I.base.tbls⟩,⟨m,hn.sameBut f (XO<|K x c t),λj y v' l C e3=>?_⟩,λy T e=>?_,I.free,I.freeC,λp W=>?_,g ⟨oc,P,I.freeC x c t⟩ f,by simpa using I.len⟩ ⟨c,f,.inr t⟩
  ·exact (.qY).trans .A4
  ·obtain⟨sl,l⟩:=I.base.slot b o e n G w
   exact⟨sl,(.qY).trans l⟩
  ·obtain⟨o',l⟩:=.p3 w
   exact⟨o',(.qY).trans l⟩
  ·by_cases J:j=i
   ·subst J
    rw[hi]at l;cases l;rw[x4 F]at C;cases C;exact⟨u,r,.inr ⟨.inl D,c,t,R⟩⟩
   ·rw[ZP (XO J)]at C
    obtain⟨u',r',q⟩:=hl j y v' l C e3;refine⟨u',r',?_⟩;rcases q with q|⟨k,T,e,z'⟩
    ·exact .inl q
    ·refine .inr ⟨k,T,e,z'.sameBut f ?_⟩
     rintro rfl;exact J (Ca hN l<|I.ok.inj _ _ _ e t▸hi)
  ·by_cases hcc:T=c
   ·subst hcc;exact⟨_,R⟩
   ·obtain⟨w2,z2⟩:=I.cell y T e
    exact⟨w2,z2.sameBut f hcc⟩
  ·obtain⟨e,n,ne,nf,d⟩:=I.pin p W
   refine⟨(f.2 p.1 ?_).trans e,n,ne,nf,d⟩;intro q;rw[q,P]at e;have q':oc=p.2:=ZT e;exact d S (by rw[<-q'];exact N)
def Cb(I:.p)(d:.hy)(hi:.eB)(e:.ht)(r:cw v u)
  (h:∀a,Inv X pins .nM H a->Q () a) (b:autoParam (X.fn x=true\/X.env.scope.names.lookup x=some .local) Q0Q._auto_1):wpAny M A .Cx Q E s :=
 yz I d hi e r (λa c _=>h a c) b
def Inv.call'(I:.p)(h:a.os=s.os)(u:Un (frs X.stack) ch H H' s.heap a.heap)(hok:HOk X.prog X.w H' a.heap)(f:AllBare a.gens)
  (d:.um):.be H' a:=by
 obtain⟨h',g',d',t',g⟩:=a;have e:g=s.os:=h;subst e;exact I.call (g':=g') (t':=t') (d':=d') u hok f d
end
noncomputable abbrev XK:=S1->Option Addr->Hp->Prop
noncomputable abbrev St:=List (Option V)
noncomputable abbrev VK:=V->Hp->Prop
noncomputable abbrev TE:=St->Hp->VK->Prop
noncomputable abbrev TT:=St->Hp->(Bool->Hp->Prop)->Prop
noncomputable abbrev TA:=St->Hp->(List V->Hp->Prop)->Prop
structure vW where
 nx:St->Hp->Prop
 rt:VK
 bk:St->Hp->Prop:=λ_ _=>False
 ct:St->Hp->Prop:=λ_ _=>False
noncomputable abbrev TS:=vW->St->Hp->Prop
/---/def EP(X:Cx)(pins:.J)(σ:St)(Q:VK)(u:S1)(s':P1):Prop:=∃v H',Inv X pins σ H' s'/\cw v u/\Q v H'
/---/def TP(X:Cx)(pins:.J)(σ:St)(Q:.pw)(b:Bool)(s':P1):Prop:=∃H',Inv X pins σ H' s'/\Q b H'
/---/def AP(X:Cx)(pins:.J)(σ:St)(Q:List V->Hp->Prop)(us:List S1)(s':P1):Prop:=∃vs H',Inv X pins σ H' s'/\bn vs us/\Q vs H'
/---/def SP(X:Cx)(pins:.J)(D:vW)(f:Flow)(s':P1):Prop :=
 match f with
 |.next=>∃σ' H',Inv X pins σ' H' s'/\D.nx σ' H'
 |.brk=>∃σ' H',Inv X pins σ' H' s'/\D.bk σ' H'
 |.cont=>∃σ' H',Inv X pins σ' H' s'/\D.ct σ' H'
 |.ret u=>∃v σ' H',Inv X pins σ' H' s'/\cw v u/\D.rt v H'
/---/def PE(X:Cx)(e:Expr)(t:TE):Prop :=
 ∀(pins:.J) (s:P1) (σ:St) (H:Hp) (Q:VK),Inv X pins σ H s->t σ H Q->.a2 .nY .bL X.xe s
/---/def PT(X:Cx)(e:Expr)(t:TT):Prop :=
 ∀(pins:.J) (s:P1) (σ:St) (H:Hp) (Q:.pw),Inv X pins σ H s->t σ H Q->.a2 (isTrue e X.env .nY) .tq X.xe s
/---/def PW(X:Cx)(e:Expr)(t:TT):Prop :=
 ∀(whole:Sem S1) (pins:.J) (s:P1) (σ:St) (H:Hp) (Q:.pw),Inv X pins σ H s->t σ H Q->.a2 (isTrue e X.env whole) .tq X.xe s
def PW.pt(h:PW X e t):PT X e t:=h _
/---/def PA(X:Cx)(es:.aL)(t:TA):Prop :=
 ∀(pos:Pos) (pins:.J) (s:P1) (σ:St) (H:Hp) (Q:List V->Hp->Prop),Inv X pins σ H s->t σ H Q->.a2 (spliced .h5) (AP X pins σ Q) X.xe s
/---/def PS(X:Cx)(st:Stmt)(t:TS):Prop :=
 ∀(pins:.J) (s:P1) (σ:St) (H:Hp) (D:vW),Inv X pins σ H s->t D σ H->.a2 (exec st X.env) (SP X pins D) X.xe s
/---/def PSs(X:Cx)(st:.fo)(t:TS):Prop :=
 ∀(pins:.J) (s:P1) (σ:St) (H:Hp) (D:vW),Inv X pins σ H s->t D σ H->.a2 (execs st X.env) (SP X pins D) X.xe s
variable{s:P1}
def thn{Q b:α->P1->Prop}{M:Model}(h:wpAny M A t Q E s)(c:∀a s,Q a s->b a s):wpAny M A t b E s:=zZg h c λ_ _ x=>x
variable{pos:Pos}{Q:.D}{σ:St}{pins:.J}
section
variable{X:Cx}
/---/def Wy(i:Nat):TE:=λσ H Q=>∃v,σ[i]?=some .dR/\Q v H
/---/def tC(v:V):TE:=λ_ H Q=>Q v H
def Sw(j:.eB)(n:Vis X.env.scope x)(hd:autoParam (.aY=false) Q1Q._auto_1)(b:autoParam (.ru=false) Q1Q._auto_1):.w .eD (Wy i):=by
 intro pins s σ H Q I h;obtain⟨v,e,h⟩:=h;obtain⟨m,g,f⟩:=I.loc;obtain⟨u,r,l⟩:=f i x v j e n;have fin:.gk u s:=⟨v,H,I,r,h⟩;rcases l with ⟨a,k⟩|⟨a,c,d,hcell⟩
 ·exact wpAny_Name (wpAny_loadName_local I.ok.kind a g k fin) hd
 ·rcases a with a|a
  ·exact wpAny_Name (wpAny_loadName_cell I.ok.kind a d hcell fin) hd
  ·exact wpAny_Name (wpAny_loadName_free I.ok.kind a d hcell fin b) hd
def LK{i j pos}:.w (.gi .u) (tC .u):=λ_ _ _ H _ I h=>wpAny_Constant_int ⟨.int i,H,I.tok _,⟨_,rfl⟩,h⟩
def U0{b j pos}:.w (.gi<|.bool b) (tC .di):=λ_ _ _ H _ I h=>Constant_bool ⟨.bl b,H,I,rfl,h⟩
def Sx{j pos}:.w (.gi .none) (tC .non):=λ_ _ _ H _ I h=>Constant_none ⟨.non,H,I,rfl,h⟩
def EZ{x j pos}:.w (.gi .cd) (tC .cd):=λ_ _ _ H _ I h=>Calls.Constant_str ⟨.str x,H,I.tok _,⟨_,rfl⟩,h⟩
/---/def Gl(X:Cx)(x:Str):Prop:=X.env.kindOf x=some .globalImplicit
def Aj(I:.p)(a:.U x)(hm:X.mg x=some u)(h:Q u s)
  (hd:autoParam (.aY=false) Q1Q._auto_1):wpAny .af X.A .AG Q E s :=
 Calls.Name_function_global I.ok.kind a (Calls.loadGlobal_global .xv hm h) hd
def kQ(I:.p)(a:.U x)(hm:.jt)(e:bootBuiltins x=some u)(h:Q u s)
  (b:autoParam (x≠"__name__") Q1Q._auto_1) (hd:autoParam (.aY=false) Q1Q._auto_1):.a2 .AG Q E s:=by
 obtain⟨f,c,d⟩:=I.mod.blt;exact Calls.Name_function_global I.ok.kind a (Calls.loadGlobal_builtin .xv hm (by rw[I.ok.blt];exact c.keeps I.bk) ((d x b).trans e) h) hd
def oE(a:.U x)(hm:X.mg x=some u)(r:cw v u)(hd:autoParam (.aY=false) Q1Q._auto_1):PE X .eD (tC v) :=
 λ_ _ _ H _ I h=>Aj I a hm ⟨v,H,I,r,h⟩ hd
def Pw(a:.U x)(hm:.jt)(c:bootBuiltins x=some u)(r:cw v u)(b:autoParam (x≠"__name__") Q1Q._auto_1)(hd:autoParam (.aY=false) Q1Q._auto_1):PE X .eD (tC v) :=
 λ_ _ _ H _ I h=>kQ I a hm c ⟨v,H,I,r,h⟩ b hd
variable{a b:Expr}{ta tb:TE}{pos:Pos}
/---/def tB(t:TE):TT:=λσ H Q=>t σ H λx H1=>∃c,x=.bl c/\Q c H1
def Sy(h:.w e t)(he:autoParam (∀c,isTrue e X.env c=(do let v <-c;standAt e.pos;holding [v] (truthy v))) Q2Q._auto_1):PT X e (tB t):=by
 intro pins s σ H Q I i;refine isTrue_plain (thn (.cZ _ I i) λv k ⟨x,j,f,g,q1⟩=>?_) (he _);obtain⟨d,rfl,q⟩:=q1;cases g;exact wd ⟨j,f,q⟩
variable{tA tB':TT}{rest:.aL}
/---/def jS(t u:TT):TT:=λσ H Q=>t σ H λc H1=>if c=true then u σ H1 Q else Q false H1
/---/def tOr(t u:TT):TT:=λσ H Q=>t σ H λc H1=>if c=true then Q true H1 else u σ H1 Q
/---/def dm(t:TT):TT:=λσ H Q=>t σ H λc H1=>Q (!c) H1
def Px(d:PT X a tA):PW X (.uZ [a]) tA:=by
 intro g pins s σ H Q I h;refine isTrue_and (thn .CJ λc f e=>?_);cases c with
 |true=>exact isTrue_and_nil e
 |false=>exact e
def Sz(d:PT X a tA):PW X (.hB .Or [a]) tA:=by
 intro g pins s σ H Q I h;refine isTrue_or (thn .CJ λc f e=>?_);cases c with
 |false=>exact isTrue_or_nil e
 |true=>exact e
def SA(i:PT X a tA)(g:PW X .pU tB'):PW X .pV (jS tA tB'):=by
 intro j pins s σ H Q I h;refine isTrue_and (thn .sm λc f ⟨e,d,q1⟩=>?_);cases c with
 |true=>exact g j pins f σ e Q d q1
 |false=>exact⟨e,d,q1⟩
def U1(i:PT X a tA)(g:PW X .pM tB'):PW X .pN (tOr tA tB'):=by
 intro j pins s σ H Q I h;refine isTrue_or (thn .sm λc f ⟨e,d,q1⟩=>?_);cases c with
 |true=>exact⟨e,d,q1⟩
 |false=>exact g j pins f σ e Q d q1
def SB(d:PT X a tA):PT X .pH (dm tA):=by
 intro pins s σ H Q I h;exact isTrue_not (d pins s σ H (λc e=>Q (!c) e) I h)
/---/def U2(ta tb:TE):TE:=λσ H Q=>ta σ H λx H1=>∃c,x=.bl c/\if c=true then tb σ H1 Q else Q .mK H1
/---/def Wz(ta tb:TE):TE:=λσ H Q=>ta σ H λx H1=>∃c,x=.bl c/\if c=true then Q .ej H1 else tb σ H1 Q
/---/def U3(ta:TE):TE:=λσ H Q=>ta σ H λx H1=>∃c,x=.bl c/\Q (.bl<|!c) H1
def SD(h:.w a t):.w (.hB op [a]) t:=λpins s σ H Q I c=>BoolOp_one (.cZ Q I c)
def SE(j:.dZ)(g:.w .pU tb):.w .pV (U2 ta tb):=by
 intro pins s σ H Q I h;refine BoolOp_and (thn .CE λv f ⟨x,e,d,i,q1⟩=>?_);obtain⟨c,rfl,q1⟩:=q1;cases i;refine wd ?_;cases c with
 |true=>exact g pins f σ e Q d q1
 |false=>exact⟨.bl false,e,d,rfl,q1⟩
def U4(j:.dZ)(g:.w .pM tb):.w .pN (Wz ta tb):=by
 intro pins s σ H Q I h;refine BoolOp_or (thn .CE λv f ⟨x,e,d,i,q1⟩=>?_);obtain⟨c,rfl,q1⟩:=q1;cases i;refine wd ?_;cases c with
 |false=>exact g pins f σ e Q d q1
 |true=>exact⟨.bl true,e,d,rfl,q1⟩
def SG(f:.dZ):.w .pH (U3 ta):=by
 intro pins s σ H Q I h;refine UnaryOp_ (thn (f pins s σ H _ I h) λv i ⟨x,g,d,e,q1⟩=>?_);obtain⟨c,rfl,q1⟩:=q1;cases e;exact not_of (wd ⟨.bl (!c),g,d,rfl,q1⟩)
/---/def tIf(t:TT)(ta tb:TE):TE:=λσ H Q=>t σ H λc H1=>if c=true then ta σ H1 Q else tb σ H1 Q
def LL(k:PT X c tA)(j:.dZ)(i:.hz):.w (.IfExp c a b pos) (tIf tA ta tb):=by
 intro pins s σ H Q I h;refine wpAny_IfExp (thn (k pins s σ H _ I h) λd e ⟨g,f,q1⟩=>?_);cases d with
 |true=>exact j pins e σ g Q f q1
 |false=>exact i pins e σ g Q f q1
end
/---/def SqL(K:ZX)(H:Hp)(a:Addr)(xs:List V):Prop :=
 Rd H a .cl\/
  ∃(o:Obj) (its:.bp) (n:Nat),K.lookup a=some o/\o.cls=.type "list"/\o.dict=none/\o.data=.seq its n/\its.size<=sizeLine/\bn xs its.toList
/---/def SqT(K:ZX)(H:Hp)(a:Addr)(xs:List V):Prop :=
 Rd H a .df\/
  ∃(o:Obj) (its:.bp) (n:Nat),K.lookup a=some o/\o.cls=.type "tuple"/\o.data=.seq its n/\its.size<=sizeLine/\bn xs its.toList
noncomputable def WA:S1->Option V
 |.none=>some .non
 |.bool b=>some (.bl b)
 |.int i _=>some .dp
 |.str x _=>some (.str x)
 |.bytes b _=>some (.byt b)
 |.float b _=>some (.flt b)
 |.ref a=>some (.ref a)
 |.type n=>some (.ty n)
 |_=>none
def cw.abs{x:V}(r:cw x u):WA u=some x:=by
 cases x with
 |non=>cases r;rfl
 |bl _=>cases r;rfl
 |int _=>obtain⟨t,rfl⟩:=r;rfl
 |str _=>obtain⟨t,rfl⟩:=r;rfl
 |byt _=>obtain⟨t,rfl⟩:=r;rfl
 |flt _=>obtain⟨t,rfl⟩:=r;rfl
 |ref _=>cases r;rfl
 |ty _=>cases r;rfl
def cw.inj{x y:V}(r:cw x u)(q:cw y u):x=y:=ZT (r.abs.symm.trans q.abs)
theorem bn.inj:∀{xs ys:List V} {us:List S1},bn xs us->bn ys us->xs=ys
 |_,_,_,.nil,.nil=>rfl
 |_,_,_,.cons r t,.cons a t'=>by rw[r.inj a,bn.inj t t']
variable{K:ZX}
section
variable{X:Cx}{pins:.J}{σ:St}{H:Hp}{s:P1}{a:Addr}{xs ys:List V}
def SqL.of(h:H a=some .cl):SqL K H a xs:=.inl (.inl h)
def SqT.of(h:H a=some .df):SqT K H a xs:=.inl (.inl h)
def Inv.list(I:.p)(h:SqL X.K H a xs):∃b:List S1,bn xs b/\PlainL s.heap a b.toArray/\xs.length<=sizeLine:=by
 rcases h with h|⟨o,b,n,f,c,g,d,i,r⟩
 ·obtain⟨z,b,n,r,e⟩:=h.ok I.hok
  exact⟨b,r,⟨_,n,e,rfl,rfl,rfl⟩,z⟩
 ·refine⟨b.toList,r,⟨o,n,I.kIn a o f,c,g,by simpa using d⟩,?_⟩
  have e:=r.length;dsimp[vy]at e;omega
def Inv.tuple(I:.p)(h:SqT X.K H a xs):∃b:List S1,bn xs b/\IsTup s.heap a b.toArray/\xs.length<=sizeLine:=by
 rcases h with h|⟨o,b,n,d,f,c,g,r⟩
 ·obtain⟨z,b,r,p⟩:=h.ok I.hok
  exact⟨b,r,p,z⟩
 ·refine⟨b.toList,r,⟨o,I.kIn a o d,f,n,by simpa using c⟩,?_⟩
  have e:=r.length;dsimp[vy]at e;omega
def Inv.list_inj(I:.p)(h:SqL X.K H a xs)(h':SqL X.K H a ys):xs=ys:=by
 obtain⟨c,r,⟨o,n,e,_,_,d⟩,_⟩:=I.list h;obtain⟨b,i,⟨l,k,f,_,_,g⟩,_⟩:=I.list h';rw[e]at f;cases f;rw[d]at g;injection g with j _
 have:c=b:=by simpa using congrArg Array.toList j
 subst this;exact r.inj i
def Inv.tuple_inj(I:.p)(h:SqT X.K H a xs)(h':SqT X.K H a ys):xs=ys:=by
 obtain⟨c,r,⟨o,e,_,n,d⟩,_⟩:=I.tuple h;obtain⟨b,i,⟨l,f,_,k,g⟩,_⟩:=I.tuple h';rw[e]at f;cases f;rw[d]at g;injection g with j _
 have:c=b:=by simpa using congrArg Array.toList j
 subst this;exact r.inj i
end
noncomputable abbrev Cx.wish(X:Cx)(E:.D):Cx:={ X with xe:=E }
noncomputable abbrev Cx.nox(X:Cx):Cx:=X.wish λ_ _=>False
def Cx.Ok.wish{X:Cx}(ok:X.Ok)(E:.D):(.li).Ok :=
 ⟨ok.mod,ok.kind,ok.glob,ok.blt,ok.above,ok.inj,ok.has,ok.cab,ok.hd,ok.frames,ok.stk,ok.exf,ok.bs,ok.bsz,ok.noex,ok.exfs,ok.funs,ok.frf⟩
def Cx.Ok.unwish{X:Cx}(ok:(.li).Ok):X.Ok :=
 ⟨ok.mod,ok.kind,ok.glob,ok.blt,ok.above,ok.inj,ok.has,ok.cab,ok.hd,ok.frames,ok.stk,ok.exf,ok.bs,ok.bsz,ok.noex,ok.exfs,ok.funs,ok.frf⟩
section
variable{X:Cx}{pins:.J}{σ:St}{H:Hp}{s:P1}{E:.D}
def Inv.wish(I:.p)(E:.D):Inv .li pins σ H s:=⟨I.ok.wish E,I.os,I.bare,I.base,I.loc,I.cell,I.free,I.freeC,I.pin,I.hok,I.len⟩
def Inv.unwish(I:Inv .li pins σ H s):.be H s:=⟨I.ok.unwish,I.os,I.bare,I.base,I.loc,I.cell,I.free,I.freeC,I.pin,I.hok,I.len⟩
def SP.unwish{D:vW}{b:P1}(h:SP .li pins D f b):SP X pins D f b:=by
 cases f with
 |next=>obtain⟨σ',a,I,q⟩:=h;exact⟨σ',a,I.unwish,q⟩
 |brk=>obtain⟨σ',a,I,q⟩:=h;exact⟨σ',a,I.unwish,q⟩
 |cont=>obtain⟨σ',a,I,q⟩:=h;exact⟨σ',a,I.unwish,q⟩
 |ret u=>obtain⟨v,σ',a,I,r,q⟩:=h;exact⟨v,σ',a,I.unwish,r,q⟩
def PSs.nox{st:.fo}(h:PSs X.nox st t):PSs X st t:=λpins s σ H D I a =>
 zZg (.cZ D (I.wish _) a) (λ_ _ q=>q.unwish) λ_ _ z=>False.elim z
end
section
variable{X:Cx}{st:Stmt}{rest:.fo}{t u:TS}{e:Expr}{te:TE}{pos:Pos}
/---/def U5:TS:=λD σ H=>D.nx σ H
/---/def WB(t u:TS):TS:=λD σ H=>t { D with nx:=u D } σ H
def Py:PSs X [] U5:=λ_ _ σ H _ I h=>wpAny_execs_nil ⟨σ,H,I,h⟩
def LM(h1:PS X st t)(d:PSs X rest u):PSs X (st::rest) (WB t u):=by
 intro pins s σ H D I h;refine wpAny_execs_cons (thn (h1 pins s σ H { D with nx:=u D } I h) λf a q=>?_);cases f with
 |next =>
  obtain⟨σ',c,b,q⟩:=q;exact d pins a σ' c D b q
 |ret v=>exact q
 |brk=>exact q
 |cont=>exact q
def Pz(h1:PS X st t):PSs X [st] t:=by
 intro pins s σ H D I h;refine wpAny_execs_cons (thn (h1 pins s σ H D I h) λf a q=>?_);cases f with
 |next=>exact wpAny_execs_nil q
 |ret v=>exact q
 |brk=>exact q
 |cont=>exact q
/---/def SH:TS:=λD σ H=>D.bk σ H
/---/def U6:TS:=λD σ H=>D.ct σ H
def LN:PS X (.Break pos) SH:=λ_ _ σ H _ I h=>wpAny_Break ⟨σ,H,I,h⟩
def Cc:PS X (.Continue pos) U6:=λ_ _ σ H _ I h=>wpAny_Continue ⟨σ,H,I,h⟩
def Inv.quiet(I:.p):interactive X.env=false:=by simp[interactive,I.ok.kind]
/---/def U7(te:TE):TS:=λD σ H=>te σ H λ_ H1=>D.nx σ H1
def PB(he:.w e te)(a:autoParam (swapsWith e none pos.line X.env=pure false) Q3Q._auto_1):PS X (.Expr e pos) (U7 te):=by
 intro pins s σ H D I h;exact wpAny_Expr_any (thn .eV λv d ⟨x,c,b,f,q1⟩=>⟨σ,c,b,q1⟩) I.quiet a
/---/def WC(te:TE):TS:=λD σ H=>te σ H D.rt
def SI(he:.w e te):PS X (.Return (some e) pos) (WC te):=by
 intro pins s σ H D I h;exact wpAny_Return_some (thn .eV λv d ⟨x,c,a,b,q1⟩=>⟨x,σ,c,a,b,q1⟩)
/---/def WD(c:TT)(t u:TS):TS:=λD σ H=>c σ H λb H1=>if b=true then t D σ H1 else u D σ H1
def U8{a b:.fo}(m:PT X c f)(l:PSs X a t)(k:PSs X b u):PS X (.If c a b pos) (WD f t u):=by
 intro pins s σ H D I h;refine wpAny_If (thn (m pins s σ H _ I h) λd g ⟨j,i,q1⟩=>?_);cases d with
 |true=>exact l pins g σ j D i q1
 |false=>exact k pins g σ j D i q1
/---/def SJ:TS:=λ_ _ _=>False
def LQ:PS X st SJ:=λ_ _ _ _ _ _ h=>h.elim
end
noncomputable abbrev TG:=V->St->Hp->(St->Hp->Prop)->Prop
noncomputable abbrev TGs:=List V->St->Hp->(St->Hp->Prop)->Prop
/---/def PG(X:Cx)(target:Expr)(t:TG):Prop :=
 ∀(pins:.J) (s:P1) (σ:St) (H:Hp) (v:V) (u:S1) (Q:St->Hp->Prop),Inv X pins σ H s->cw v u->t v σ H Q->
  wpAny .af X.A (assign target X.env u) (λ_ s'=>∃σ' H',Inv X pins σ' H' s'/\Q σ' H') X.xe s
/---/def PGs(X:Cx)(ts:.aL)(t:TGs):Prop :=
 ∀(pins:.J) (s:P1) (σ:St) (H:Hp) (vs:List V) (us:List S1) (Q:St->Hp->Prop),Inv X pins σ H s->bn vs us->t vs σ H Q->
  wpAny .af X.A (assignInOrder ((.p2 ts).map (·.2)) us) (λ_ s'=>∃σ' H',Inv X pins σ' H' s'/\Q σ' H') X.xe s
noncomputable abbrev SK:=V->V->V->Hp->(Hp->Prop)->Prop
/---/def SL(X:Cx)(t:SK):Prop :=
 ∀(pins:.J) (s:P1) (σ:St) (H:Hp) (o i v:V) (ov iv u:S1) (Q:Hp->Prop),Inv X pins σ H s->cw o ov->cw i iv->cw v u->t o i v H Q->
  wpAny .af X.A (setItem ov iv u) (λ_ s'=>∃H',Inv X pins σ H' s'/\Q H') X.xe s
section
variable{X:Cx}{pos:Pos}
/---/def RV(i:Nat):TG:=λv σ H Q=>Q .nM H
def PC(c:.hy)(hi:.eB)(d:.ht)(a:autoParam (X.fn x=true\/X.env.scope.names.lookup x=some .local) Q0Q._auto_1):PG X .eD (RV i):=by
 intro pins s σ H v u Q I r h;exact wpAny_assign_Name (Cb I c hi d r (λe b=>⟨_,H,b,h⟩) a)
/---/def WE:TGs:=λvs σ H Q=>vs=[]/\Q σ H
/---/def U9(t:TG)(u:TGs):TGs:=λvs σ H Q=>∃v r,vs=v::r/\t v σ H λσ' H'=>u r σ' H' Q
def PD:PGs X [] WE:=by
 intro pins s σ H a b Q I r h;obtain⟨e,h⟩:=h;subst e;cases r;exact assignInOrder_nil ⟨σ,H,I,h⟩
def LR{u:TGs}(h1:PG X e t)(k:PGs X a u)
  (d:autoParam ((.A1).map (·.2)=assign e X.env::(.nq).map (·.2)) Q3Q._auto_1):PGs X (e::a) (U9 t u):=by
 intro pins s σ H m n Q I r h;obtain⟨v,l,i,h⟩:=h;subst i;cases r with
 |cons r g =>
  rw[d];refine assignInOrder_cons (thn (h1 pins s σ H _ _ _ I r h) λ_ c ⟨b,j,f,q1⟩=>?_);exact k pins c b j _ _ Q f g q1
/---/def WF(K:ZX)(n:Nat)(t:TGs):TG:=λv σ H Q=>∃a xs,v=.ref a/\SqT K H a xs/\xs.length=n/\t xs σ H Q
def SM{k:Nat}(x:.aU)(h:PGs X c t)
  (i:autoParam ((.p2 c).length=n) Q3Q._auto_1) (f:autoParam ((.p2 c).findIdx? (·.1)=none) Q3Q._auto_1):PG X (.Tuple c k pos) (WF X.K n t):=by
 intro pins s σ H v u Q I r d;obtain⟨a,l,y,p,m,d⟩:=d;subst y;cases r;obtain⟨w,g,A,B⟩:=I.tuple p;refine assign_Tuple_tuple (.du x) A (by simp[i,<-m,g.length]) f λq z=>?_;have j:Inv X pins σ H { s with heap:=q }:=I.kept (t':=s.toks) λb o e=>z b o (ZN .dh) e;exact h pins _ σ H l _ Q j .mx d
/---/def WG(to ti:TE)(t:SK):TG:=λv σ H Q=>to σ H λo H1=>ti σ H1 λi H2=>t o i v H2 λH3=>Q σ H3
def E1(n:.w o to)(hi:.w i ti)(c:SL X t)
  (p:autoParam (∀v,assign (.d5 o i) X.env v=(do
   let ov <-holding [v] .ce
   let a <-holding [v,ov] .nX
   standAt pos
   holding [v,ov,a] (setItem ov a v)
   release [v,ov,a] [])) Q2Q._auto_1):PG X (.d5 o i) (WG to ti t):=by
 intro pins s σ H v u Q I r h;rw[p];refine zF (YZ (thn (n pins s σ H _ I h) λov b ⟨x,q,f,j,q1⟩=>?_));refine zF (YZ (thn (hi pins b σ q _ f q1) λa e ⟨y,d,k,l,q2⟩=>?_));refine zF (wpAny_standAt (zF (YZ (thn (c pins e σ d x y v ov a u _ k j l r q2) λ_ w ⟨m,g,q3⟩=>?_))));exact wpAny_release ⟨σ,m,g,q3⟩
/---/def Va(te:TE)(g:TG):TS:=λD σ H=>te σ H λx H1=>g x σ H1 D.nx
def Ak(he:.w e a)(b:PG X tg g)(d:autoParam (swapsWithSole [tg] e pos.line X.env=pure false) Q3Q._auto_1)(j:autoParam (swappedStores [tg] e X.env=pure none) Q3Q._auto_1)
  (h1:autoParam ((.BE).map (·.2)=[assign tg X.env]) Q3Q._auto_1):PS X (.fr [tg]) (Va a g):=by
 intro pins s σ H D I h;refine wpAny_Assign_stores (thn .eV λv c ⟨x,k,f,i,q1⟩=>?_) d j;rw[h1];exact thn (b pins c σ k x v _ f i q1) λ_ l q=>q
def SN(c:.hy)(hi:.eB)(l:.ht)(he:.w e a)(b:autoParam (.u5 X.env=pure false) Q3Q._auto_1)(j:autoParam (X.fn x=true\/X.env.scope.names.lookup x=some .local) Q0Q._auto_1):
  PS X (.fr .nS) (Va a<|RV i):=by
 intro pins s σ H D I h;refine wpAny_Assign_Name (thn .eV λv m ⟨y,k,d,f,q1⟩=>?_) b;exact Cb d c hi l f (λn g=>⟨_,k,g,q1⟩) j
end
section
variable{X:Cx}{pos:Pos}
/---/def SO(c:TT)(tb:TS):TS:=λD σ H=>∃W:Nat->St->Hp->Prop,(∃m,W m σ H)/\∀m σ H,W m σ H->
 c σ H λb H1=>if b=true then ∃N:St->Hp->Prop,(∀σ' H',N σ' H'->∃m',m'<m/\W m' σ' H')/\tb .zl σ H1 else D.nx σ H1
def LS{tb:TS}(hp:.lx)(C:PT X c q)(A:PSs X body tb):PS X (.While c body [] pos) (SO q tb):=by
 intro pins s σ H D I h;obtain⟨W,⟨y,z⟩,turn⟩:=h;refine wpAny_While (codeAny_whileLoop (λn x=>∃σ' o,Inv X pins σ' o x/\W n σ' o) ?_ y ⟨σ,H,I,z⟩);rintro n t ⟨d,r,w,B⟩;refine zZq hp (thn (C pins t d r _ w<|turn n d r B) λb u ⟨l,p,q2⟩=>?_);cases b with
 |true =>
  obtain⟨N,m,q2⟩:=q2;rw[z4 rfl];refine zZq hp (thn (A pins u d l _ p q2) λf E q3=>?_);cases f with
  |next =>
   obtain⟨a,e,i,n3⟩:=q3;obtain⟨j,k,g⟩:=m a e n3;exact⟨j,k,a,e,i,g⟩
  |cont =>
   obtain⟨a,e,i,n3⟩:=q3;obtain⟨j,k,g⟩:=m a e n3;exact⟨j,k,a,e,i,g⟩
  |brk=>exact q3
  |ret v=>exact q3
 |false =>
  rw[y3 Z7];exact wpAny_execs_nil ⟨d,l,p,q2⟩
end
structure It where
 go:Nat->Hp->Prop
 yld:Nat->Hp->V->Hp->Prop
 stop:Nat->Hp->Prop
/---/def vX(X:Cx)(pins:.J)(H:Hp)(b:Addr):Prop :=
 H b=none/\b≠X.env.locals/\b∉X.fs/\.vs/\(∀x c,X.env.cells.lookup x=some c->c≠b)/\∀p∈X.pn++pins,p.1≠b
def Inv.fpOk(I:.p)(a:s.heap.objs.size<=b)(f:d b=none):vX X pins d b:=by
 refine⟨f,YA (Z0 I.lt a),I.nofs a,.inr (ZM I.sz a),λx c e z=>?_,λp g z=>?_⟩
 ·obtain⟨v,q⟩:=.hR e
  exact absurd (Z0 q.lt (by rw[z];exact a)) (YF _)
 ·exact absurd (Z0 (ZI (I.pin p g).1) (by rw[z];exact a)) (YF _)
structure Cd(P:N3)(w:N6)(K:ZX)(tg:Expr)(J:It)(fp:.I)(it:Addr)(tn:.pr):Prop where
 mem:it∈fp
 obj:∀i h,tn i h->∀b∈fp,∃o,h.get? b=some o/\∀v,o.data ≠ .cell v
 keep:∀i h h',tn i h->(∀b∈fp,∀o,h.get? b=some o->h'.get? b=some o)->tn i h'
 item:∀(X:Cx),X.prog=P->X.w=w->X.K=K->X.calm=true->∀(i:Nat) (pins:.J) (s:P1) (σ:St) (H:Hp) (E:.D),Inv X pins σ H s->(∀b∈fp,vX X pins H b)->tn i s.heap->J.go i H->
  wpAny .fO X.A (pyNext .fb) (λr s1=>∃u,r=some u/\
   wpAny .fO X.A .An (λ_ s2=>∃x H',Inv X pins σ H' s2/\cw x u/\J.yld i H x H'/\tn (i+1) s2.heap/\∀b∈fp,H' b=none) E s1) E s
 done:∀(X:Cx),X.prog=P->X.w=w->X.K=K->X.calm=true->∀(i:Nat) (pins:.J) (s:P1) (σ:St) (H:Hp) (E:.D),Inv X pins σ H s->(∀b∈fp,vX X pins H b)->tn i s.heap->J.stop i H->
  wpAny .fO X.A (pyNext .fb) (λr s1=>r=none/\.be H s1) E s
 self:∀(A:P2) (i:Nat) (s:P1) (Q:.D) (E:.D),tn i s.heap->Q .fb s->wpAny .fO A (pyIter .fb) Q E s
noncomputable abbrev TI:=St->Hp->(It->Hp->Prop)->Prop
/---/def PIE(X:Cx)(pins:.J)(σ:St)(tg:Expr)(R:.lJ)(itv:S1)(s2:P1):Prop :=
 ∃(it:Addr) (fp:.I) (tn:.pr) (J:It) (H':Hp),itv=.ref it/\Inv X pins σ H' s2/\Cd X.prog X.w X.K tg J fp it tn/\tn 0 s2.heap/\(∀b∈fp,vX X pins H' b)/\R J H'
/---/def PI(X:Cx)(tg iter:Expr)(wi:TI):Prop :=
 ∀(pins:.J) (s:P1) (σ:St) (H:Hp) (R:.lJ),Inv X pins σ H s->wi σ H R->
  wpAny .af X.A (eval iter X.env) (λv s1=>.a2 (pyIter v) (PIE X pins σ tg R) X.xe s1) X.xe s
def HL{Q:.lF}(c:s.heap.get? it=some o)(d:o.cls=.type n)(hd:o.data=.fields vs)
  (b:["enumerate","zip","dict_itemiterator","dict_reverseitemiterator","odict_iterator","itertools.zip_longest","itertools.pairwise"].contains n=false) (a:Q () s):wpAny M A .An Q E s:=by
 unfold letOwnedTupleGo;cases tg<;>first
  |exact z3 a
  | (cases u<;>first
    |exact z3 a
    | (refine zF (wpAny_load c ?_)
       rw[d,hd];show wpAny M A (if (["enumerate","zip","dict_itemiterator","dict_reverseitemiterator","odict_iterator","itertools.zip_longest","itertools.pairwise"].contains n&&vs[0]? == some (rawInt _))=true then _ else _) Q E s;rw[y3 (by intro h;rw[b,Bool.false_and]at h;cases h)];exact z3 a))
/---/def Itl(K:ZX)(a:Addr):It :=
 ⟨λi H=>∃xs x,SqL K H a xs/\xs[i]?=some x,λi H x H'=>H'=H/\∀xs,SqL K H a xs->xs[i]?=some x,λi H=>∃xs,SqL K H a xs/\xs.length<=i⟩
/---/def Itt(K:ZX)(a:Addr):It :=
 ⟨λi H=>∃xs x,SqT K H a xs/\xs[i]?=some x,λi H x H'=>H'=H/\∀xs,SqT K H a xs->xs[i]?=some x,λi H=>∃xs,SqT K H a xs/\xs.length<=i⟩
/---/def Itr(lo:Int)(n:Nat):It:=⟨λi _=>i<n,λi H x H'=>H'=H/\x=.int (lo+i),λi _=>n<=i⟩
theorem JC(a it:Addr):Cd P w K tg (Itl K a) [it] it (λi h=>h.IsListIter it a i) where
 mem:=by simp
 obj:=λi h f b g=>by
  have e:b=it:=by simpa using g
  subst e;obtain⟨o,e,c,d⟩:=f;exact⟨o,e,λv z=>by rw[d]at z;cases z⟩
 keep:=λi h l f k=>f.at λo e=>k it .d o e
 item:=by
  intro X q r L M i pins s σ H E I n f C;subst q r L;obtain⟨O,x,m,J⟩:=C;obtain⟨y,D,p,Q⟩:=I.list m;obtain⟨u,N,S⟩:=D.get J;obtain⟨B,t,U,A,F,G⟩:=n it .d;refine wpAny_pyNext_list_item f p.isList (x:=u) (by simpa using N) λl j V=>?_;have R:Inv X pins σ H { s with heap:=l }:=I.turned (t':=s.toks) .zx B t A F G;obtain⟨o,e,c,d⟩:=id j;exact⟨u,rfl,HL (s:={ s with heap:=l }) e c d .b ⟨x,H,R,S,⟨rfl,λZ T=>by rw[I.list_inj T m];exact J⟩,j,λb g=>(n b g).1⟩⟩
 done:=by
  intro X q r L M i pins s σ H E I n f C;subst q r L;obtain⟨O,m,J⟩:=C;obtain⟨y,D,p,Q⟩:=I.list m;obtain⟨B,t,U,A,F,G⟩:=n it .d;have Y:=D.length;exact wpAny_pyNext_list_end (.du M) f p.isList .S λl W=>⟨rfl,I.turned (t':=s.toks) .BP B t A F G⟩
 self:=λ_ _ _ _ _ f h=>wpAny_pyIter_listiter f h
theorem E2(a it:Addr):Cd P w K tg (Itt K a) [it] it (λi h=>h.IsTupleIter it a i) where
 mem:=by simp
 obj:=λi h f b g=>by
  have e:b=it:=by simpa using g
  subst e;obtain⟨o,e,c,d⟩:=f;exact⟨o,e,λv z=>by rw[d]at z;cases z⟩
 keep:=λi h m f k=>f.at λo e=>k it .d o e
 item:=by
  intro X r t L M i pins s σ H E I q f C;subst r t L;obtain⟨O,x,n,J⟩:=C;obtain⟨j,D,p,Q⟩:=I.tuple n;obtain⟨u,N,S⟩:=D.get J;obtain⟨B,y,U,A,F,G⟩:=q it .d;refine wpAny_pyNext_tuple_item f (show s.heap.IsTuple a j.toArray from p) (x:=u) (by simpa using N) λm l V=>?_;have R:Inv X pins σ H { s with heap:=m }:=I.turned (t':=s.toks) .zx B y A F G;obtain⟨o,e,c,d⟩:=id l;exact⟨u,rfl,HL (s:={ s with heap:=m }) e c d .b ⟨x,H,R,S,⟨rfl,λZ T=>by rw[I.tuple_inj T n];exact J⟩,l,λb g=>(q b g).1⟩⟩
 done:=by
  intro X r t L M i pins s σ H E I q f C;subst r t L;obtain⟨O,n,J⟩:=C;obtain⟨j,D,p,Q⟩:=I.tuple n;obtain⟨B,y,U,A,F,G⟩:=q it .d;have Y:=D.length;exact wpAny_pyNext_tuple_end (.du M) f (show s.heap.IsTuple a j.toArray from p) .S λm W=>⟨rfl,I.turned (t':=s.toks) .BP B y A F G⟩
 self:=λ_ _ _ _ _ f h=>wpAny_pyIter_tupleiter f h
theorem E3(it:Addr)(lo:Int)(n:Nat):Cd P w K tg (Itr lo n) [it] it (λi h=>IsRangeIter h it (lo+(i:Nat)*1) ((n:Int)-(i:Nat)) 1) where
 mem:=by simp
 obj:=λi h a b c=>by
  have e:b=it:=by simpa using c
  subst e;exact⟨_,a,λv z=>by
   have C:Data.fields _=Data.cell v:=z;cases C⟩
 keep:=λi h g a k=>k it .d _ a
 item:=by
  intro X m p A x i pins s σ H E I f a l;subst m p A;obtain⟨j,u,F,y,q,r⟩:=f it .d;have W:=Walks.range (prog:=X.prog) (w:=X.w) (.du x) it lo 1 n;refine W.item i s _ _ l a λv g B L d J=>?_;obtain⟨t,rfl⟩:=L;have D:.be H .AB:=I.turned (λb o c e=>J b o .nB e) j u y q r;refine⟨_,rfl,HL (s:=.AB) (n := "range_iterator") d rfl rfl .b ⟨.int (lo+i),H,D,⟨t,?_⟩,⟨rfl,rfl⟩,d,λb c=>(f b c).1⟩⟩;rw[Int.mul_one]
 done:=by
  intro X m p A x i pins s σ H E I f a l;subst m p A;obtain⟨j,u,F,y,q,r⟩:=f it .d;exact wpAny_pyNext_range_end (.du x) a (by have:n<=i:=l;omega) λg G=>⟨rfl,I.turned (t':=s.toks) (λb o c e=>G b o c e) j u y q r⟩
 self:=λ_ _ _ _ _ a h=>wpAny_pyIter_rangeiter a h
section
variable{X:Cx}{tg:Expr}
def Ce{lo hi:Int}{t u v:Tok}{tk:Nat}(I:.p)(h1 : -(2^62)<=lo)(h:lo<2^62)(d : -(2^62)<=hi)(c:hi<2^62)
  (q:R (Itr lo (hi-lo).toNat) H):.a2 (pyIter .dD) (PIE X pins σ tg R) E .vn:=by
 refine wpAny_pyIter_range (IsRange.new ..) (small_one h1 h d c) ?_;have a:.be H .vn:=I.kept λb o e=>.H e;refine⟨(.qq).objs.size,[(.qq).objs.size],_,_,H,rfl,
  a.kept (t':=tk) λb o e=>.H e,E3 _ lo (hi-lo).toNat,?_,λb g=>?_,q⟩
 ·have i:lo+((0:Nat):Int)*1=lo:=by simp
  have f:(((hi-lo).toNat:Nat):Int)-((0:Nat):Int)=Builtin.Range.rangeSize lo hi 1:=by rw[rangeSize_one];split<;>omega
  show IsRangeIter _ _ (lo+((0:Nat):Int)*1) ((((hi-lo).toNat:Nat):Int)-((0:Nat):Int)) 1;rw[i,f];exact ZJ _ rfl
 ·have e:b=(.qq).objs.size:=by simpa using g
  subst e;exact a.fpOk .o (a.hok.fresh .o)
/---/def Vb(ta:TA):TI:=λσ H R=>ta σ H λvs H1=>∃j:Int,vs=[.int j]/\-(2^62)<=j/\j<2^62/\R (Itr 0 j.toNat) H1
/---/def Vc(ta:TA):TI:=λσ H R=>ta σ H λvs H1=>∃i j:Int,vs=.tv/\(-(2^62)<=i/\i<2^62/\-(2^62)<=j/\j<2^62)/\R (Itr i (j-i).toNat) H1
def JD{b:TA}(c:.pD)(hm:.pf)(k:PA X [a] b)(d:autoParam (.aS X.env=.ii) Q3Q._auto_1):PI X tg (.bU .pP) (Vb b):=by
 intro pins s σ H R I h;refine Call_ (kQ I c hm boot_range (XG (thn (k pos pins s σ H _ I h) λn m ⟨l,o,f,g,q1⟩=>?_) d rfl));obtain⟨j,e,q1,q2,q⟩:=q1;subst e;cases g with
 |cons r i =>
  cases i;obtain⟨t,rfl⟩:=r;exact call_range_1 (Ce f .a .a q1 q2 (by simpa using q))
def JE{a b:Expr}{p:Pos}(g:.pD)(hm:.pf)(o:PA X [a,b] f)(k:autoParam (.jM X.env=.mp) Q3Q._auto_1)(c:autoParam (.jO X.env=.nf) Q3Q._auto_1):
  PI X tg (.jH .pP) (Vc f):=by
 intro pins s σ H R I h;refine Call_ (kQ I g hm boot_range (XG (thn (o pos pins s σ H _ I h) λy w ⟨v,z,l,m,q1⟩=>?_) (by rw[k,c]) (by rw[c];rfl)));obtain⟨i,j,e,⟨q1,q2,q3,u⟩,q⟩:=q1;subst e;cases m with
 |cons r d =>
  cases d with
  |cons n d =>
   cases d;obtain⟨t,rfl⟩:=r;obtain⟨x,rfl⟩:=n;exact call_range_2 (Ce l q1 q2 q3 u q)
/---/def WH(wi:TI)(g:TG)(tb:TS):TS:=λD σ H=>wi σ H λJ H1=>∃W:Nat->Nat->St->Hp->Prop,(∃m,W 0 m σ H1)/\∀i m σ H,W i m σ H->
 (J.stop i H/\D.nx σ H)\/(J.go i H/\∃N:St->Hp->Prop,(∀σ' H',N σ' H'->∃m',m'<m/\W (i+1) m' σ' H')/\∀x H',J.yld i H x H'->g x σ H' λσ2 H2=>tb .zl σ2 H2)
/---/def vY(fp:.I)(h:Heap):List .eO:=fp.filterMap λb=>(h.get? b).map λo=>(b,o)
def my(c:b∈a)(e:h.get? b=some o):(b,o)∈vY a h:=XX.mpr ⟨b,c,by rw[e];rfl⟩
def JG(hp:p∈vY a h):p.1∈a/\h.get? p.1=some p.2:=by
 obtain⟨b,c,e⟩:=XX.mp hp;cases q:h.get? b with
 |none=>rw[q]at e;cases e
 |some o =>
  rw[q]at e;have d:(b,o)=p:=ZT e;subst d;exact⟨c,q⟩
def Inv.pinned(I:.p)(h:∀b∈a,vX X pins H b)(i:∀b∈a,∃o,s.heap.get? b=some o/\∀v,o.data ≠ .cell v):Inv X (pins++vY a s.heap) σ H s :=
 I.pins_of λp l=>(Z1.mp l).elim (λz=>I.pin p (Y1 _ z)) λz=>by
  obtain⟨c,e⟩:=JG z;obtain⟨g,j,k,_⟩:=h p.1 c;obtain⟨o,f,d⟩:=i p.1 c;rw[e]at f;cases f;exact⟨e,g,j,k,d⟩
def Inv.unpinned(I:Inv X (pins++pl) σ H s):.be H s:=I.pins_of λp a=>I.pin p (Y1 _<|List.mem_append_left _ a)
def LT{V:TI}{tb:TS}(hp:.lx)(Y:.aU)(hi:PI X tg l V)(hg:PG X tg g)(k:PSs X body tb)
  (hs:autoParam (∀x,foldedSetIterable l X.env x=pure x) Q2Q._auto_1):PS X (.For tg l body [] pos) (WH V g tb):=by
 intro pins s σ H D I h;refine wpAny_For (thn (hi pins s σ H _ I h) λv s1 h1=>thn h1 λa0 s2 h2=>?_) hs;obtain⟨it,E,tn,J,H2,e,I2,T,K,f2,W,⟨m0,w0⟩,turn⟩:=h2;subst e;have q:∀{w:Hp},(∀b∈E,w b=none)->∀b∈E,vX X pins w b:=λhn b k=>⟨hn b k,(f2 b k).2⟩;refine codeAny_forLoop_any (λn S=>∃i σ' w,Inv X pins σ' w S/\tn i S.heap/\(∀b∈E,w b=none)/\W i n σ' w) ?_ m0 ⟨0,σ,H2,I2,K,λb k=>(f2 b k).1,w0⟩;rintro n Q ⟨i,j,F,R,A,B,w3⟩;rcases turn i n j F w3 with ⟨stop,qn⟩|⟨go,N,hN,step⟩
 ·refine zZq hp (thn (T.done X rfl rfl rfl Y i pins Q j F X.xe R (q B) A stop) λr s4 ⟨G,I4⟩=>?_)
  subst G;exact wpAny_execs_nil ⟨j,F,I4,qn⟩
 ·refine zZq hp (thn (T.item X rfl rfl rfl Y i pins Q j F X.xe R (q B) A go) λr s4 ⟨u,G,h4⟩=>?_)
  subst G;refine zZq hp (thn h4 λ_ Z zz=>?_);obtain⟨x,U,I5,r5,y5,z,O⟩:=zz;have P:=I5.pinned (q O) (T.obj _ _ z);refine zZq hp (thn (hg _ Z j U x u _ P r5<|step x U y5) λ_ s6 ⟨L,H6,I6,q6⟩=>?_);refine zZq hp (thn (k _ s6 L H6 _ I6 q6) λf M y=>?_);have c:∀{a:St} {t:Hp},Inv X (pins++vY E Z.heap) a t M->N a t->∃m,m<n/\∃i σ' w,Inv X pins σ' w M/\tn i M.heap/\(∀b∈E,w b=none)/\W i m σ' w:=λ{a t} p C=>by
   obtain⟨m',hm,w7⟩:=hN a t C;refine⟨m',hm,i+1,a,t,p.unpinned,T.keep _ _ _ z λb k o e=>(.yA).1,λb k=>?_,w7⟩;obtain⟨o,e,d⟩:=T.obj _ _ z b k;exact (.yA).2.1
  cases f with
  |next=>obtain⟨a,t,p,C⟩:=y;exact c p C
  |cont=>obtain⟨a,t,p,C⟩:=y;exact c p C
  |brk=>obtain⟨a,t,p,y⟩:=y;exact⟨a,t,p.unpinned,y⟩
  |ret v=>obtain⟨x7,a,t,p,r7,y⟩:=y;exact⟨x7,a,t,p.unpinned,r7,y⟩
end
noncomputable abbrev R2:=V->V->Hp->VK->Prop
/---/def OpR(X:Cx)(f:S1->S1->Sem S1)(r:R2):Prop :=
 ∀(pins:.J) (s:P1) (σ:St) (H:Hp) (x y:V) (v u:S1) (Q:VK),Inv X pins σ H s->cw x v->cw y u->r x y H Q->
  wpAny .af X.A (f v u) .bL X.xe s
/---/def UnR(X:Cx)(f:S1->Sem S1)(r:V->Hp->VK->Prop):Prop :=
 ∀(pins:.J) (s:P1) (σ:St) (H:Hp) (x:V) (v:S1) (Q:VK),Inv X pins σ H s->cw x v->r x H Q->
  wpAny .af X.A (f v) .bL X.xe s
/---/def gE(X:Cx)(f:S1)(r:.jj):Prop :=
 ∀(pins:.J) (s:P1) (σ:St) (H:Hp) (xs:List V) (us:List S1) (Q:VK),Inv X pins σ H s->bn xs us->r xs H Q->
  wpAny .af X.A (call f us) .bL X.xe s
/---/def tOp(r:R2)(ta tb:TE):TE:=λσ H Q=>ta σ H λx H1=>tb σ H1 λy H2=>r x y H2 Q
/---/def tUn(r:V->Hp->VK->Prop)(ta:TE):TE:=λσ H Q=>ta σ H λx H1=>r x H1 Q
/---/def rI(C:Int->Int->Prop)(g:Int->Int->V):R2:=λx y H Q=>∃i j,x=.int i/\y=.int j/\C i j/\Q .cn H
/---/def rI0(g:Int->Int->V):R2:=λx y H Q=>∃i j,x=.int i/\y=.int j/\Q .cn H
/---/def rU(g:Int->V):V->Hp->VK->Prop:=λx H Q=>∃i,x=.int i/\Q (g i) H
section
variable{X:Cx}{a b c:Expr}{ta tb tc:TE}{pos:Pos}
def SQ(r:.dZ)(p:.hz){R:V->V->Hp->Prop}(I:.p)
  (h:ta σ H λx j=>tb σ j λy d=>R x y d)  {f:S1->S1->Sem S1}
  (o:∀v u i x y d,Inv X pins σ d i->cw x v->cw y u->R x y d->wpAny .af X.A (f v u) Q X.xe i) :
  wpAny .af X.A (.aW X.env) (λv e=>.a2 (eval b X.env) (λu g=>.a2 (f v u) Q X.xe g) X.xe e) X.xe s:=by
 refine thn .CC λv k ⟨x,j,l,m,q1⟩=>?_;refine thn (p pins k σ j _ l q1) λu i ⟨y,d,n,q,q2⟩=>?_;exact o v u i x y d n m q q2
def LU(j:.ae (binaryOp op) r)(k:.dZ)(g:.hz):.w (.lW op) .n2:=by
 intro pins s σ H Q I h;exact wpAny_BinOp .wb
def Vd(g:UnR X (unaryOp op) r)(i:.dZ):.w (.UnaryOp op a pos) (tUn r ta):=by
 intro pins s σ H Q I h;exact UnaryOp_ (thn .sm λv d ⟨x,j,e,f,q1⟩=>g pins d σ j x v Q e f q1)
def opI{g:.jp}
  (d:∀(i j:Int) (t u:Tok) (s:P1) (Q:.D) (E:.D),C i j->Q (.int .cn s.toks) .dE->.a2 .rS Q E s) :
  OpR X f .Bx:=by
 intro pins s σ H x y v u Q I e l h;obtain⟨i,j,rfl,rfl,m,q⟩:=h;obtain⟨t,rfl⟩:=e;obtain⟨k,rfl⟩:=l;exact d i j t k s _ _ m ⟨.int .cn,H,I.tok _,⟨_,rfl⟩,q⟩
def Ve{g:.jp}
  (d:∀(i j:Int) (t u:Tok) (s:P1) (Q:.D) (E:.D),Q (.int .cn s.toks) .dE->.a2 .rS Q E s) :
  OpR X f .B4:=by
 intro pins s σ H x y v u Q I e l h;obtain⟨i,j,rfl,rfl,q⟩:=h;obtain⟨t,rfl⟩:=e;obtain⟨k,rfl⟩:=l;exact d i j t k s _ _ ⟨.int .cn,H,I.tok _,⟨_,rfl⟩,q⟩
def SR{g:.lG}
  (d:∀(i j:Int) (t u:Tok) (s:P1) (Q:.D) (E:.D),Q (.bool .cn) s->.a2 .rS Q E s) :
  OpR X f .CB:=by
 intro pins s σ H x y v u Q I e l h;obtain⟨i,j,rfl,rfl,q⟩:=h;obtain⟨t,rfl⟩:=e;obtain⟨k,rfl⟩:=l;exact d i j t k s _ _ ⟨.bl .cn,H,I,rfl,q⟩
/---/def PF(i j:Int):Prop:=(-(2^64)<i/\i<2^64)\/(-(2^64)<j/\j<2^64)
def PF.ok(h:PF i j):IntMulOk i j:=by
 rcases h with ⟨d,e⟩|⟨d,e⟩
 ·exact .of_left (intBits_le_64 d e)
 ·exact .of_right (intBits_le_64 d e)
def SS:.ae .kQ (rI0 λi j=>.int (i+j)):=Ve λ_ _ _ _ _ _ _ q=>add_int q
def jp:.ae (binaryOp .Sub) (rI0 λi j=>.int (i-j)):=Ve λ_ _ _ _ _ _ _ q=>sub_int q
def gW:.ae (binaryOp .Mult) .AV:=opI λ_ _ _ _ _ _ _ d q=>mul_int q d.ok
def dw:.ae (binaryOp .Mod) .yL:=opI λi j _ _ _ _ _ d q=>by
 have e:(0:Int)<j:=d;exact mod_int' .a (by rw[Int.fmod_eq_emod_of_nonneg i .a];exact q)
def unI{g:Int->Int}
  (d:∀(i:Int) (t:Tok) (s:P1) (Q:.D) (E:.D),Q (.int (g i) s.toks) .dE->.a2 (f .oO) Q E s) :
  UnR X f (rU λi=>.int (g i)):=by
 intro pins s σ H x v Q I e h;obtain⟨i,rfl,q⟩:=h;obtain⟨t,rfl⟩:=e;exact d i t s _ _ ⟨.int (g i),H,I.tok _,⟨_,rfl⟩,q⟩
def ST:UnR X (unaryOp .USub) (rU λi=>.int (-i)):=unI λ_ _ _ _ _ q=>neg_int q
end
section
variable{X:Cx}{a b c:Expr}{ta tb tc:TE}{pos:Pos}
def E4{Q:VK}(I:.p)(q:Q (.bl k) H)(e:k=d):.gk (.bool d) s:=by
 subst e;exact⟨.bl k,H,I,rfl,q⟩
def yA:.ae (.d6 .Lt) (rI0 λi j=>.bl (decide (i<j))):=SR λ_ _ _ _ _ _ _ q=>lt_int q
def RW:.ae (.d6 .LtE) (rI0 λi j=>.bl (decide (i<=j))):=SR λ_ _ _ _ _ _ _ q=>le_int q
def Cf:.ae (.d6 .Gt) (rI0 λi j=>.bl (decide (j<i))):=SR λ_ _ _ _ _ _ _ q=>gt_int q
def JH:.ae .tG (λx y H Q=>∃i j,x=.str i/\y=.str j/\Q .ww H):=by
 intro pins s σ H x y v u Q I d e h;obtain⟨i,j,rfl,rfl,q⟩:=h;obtain⟨t,rfl⟩:=d;obtain⟨f,rfl⟩:=e;exact in_str (E4 I q rfl)
def pJ:.ae (.d6 .Is) .xf:=by
 intro pins s σ H x y v u Q I d e h;obtain⟨rfl,q⟩:=h;cases e;refine is_none_gen (E4 I q ?_);cases x<;>first
  |(cases d;rfl)
  |(obtain⟨t,rfl⟩:=d;rfl)
def qi:.ae (.d6 .IsNot) .w9:=by
 intro pins s σ H x y v u Q I d e h;obtain⟨rfl,q⟩:=h;cases e;refine isnot_none_gen (E4 I q ?_);cases x<;>first
  |(cases d;rfl)
  |(obtain⟨t,rfl⟩:=d;rfl)
def OpR.or(h:.ae f r)(h':.ae f e):.ae f (λx y H Q=>r x y H Q\/e x y H Q):=by
 intro pins s σ H x y v u Q I d g q;rcases q with q|q
 ·exact .cZ x y v u Q I d g q
 ·exact h' pins s σ H x y v u Q I d g q
def aL(b:Expr)(h:autoParam (op ≠ .In) Q1Q._auto_1)(d:autoParam (op ≠ .NotIn) Q1Q._auto_1):behindInMarks op b=false:=by
 have e:(op == CmpOp.In)=false:=by cases op<;>first|rfl|exact absurd rfl h
 have f:(op == CmpOp.NotIn)=false:=by cases op<;>first|rfl|exact absurd rfl d
 cases b<;>simp[behindInMarks,e,f]
def PK(j:.jr)(k:.dZ)(g:.hz)(hm:.oZ):.w .pO .n2:=by
 intro pins s σ H Q I h;exact wpAny_Compare1 .wb hm
/---/def Vf(t:TE):TT:=λσ H Q=>t σ H λx H'=>∃k,x=.bl k/\Q k H'
def vk(t:.jr)(w:.dZ)(o:.hz)(hm:.oZ):PT X .pO (Vf .n2):=by
 intro pins s σ H Q I h;refine wpAny_isTrue_Compare1 (thn .Cv λv d ⟨x,A,j,m,q1⟩=>thn (o pins d σ A _ j q1) λu i ⟨y,g,n,p,q2⟩ =>
  thn (t pins i σ g x y v u _ n m p q2) λc B zz=>?_) hm;obtain⟨z,q,l,f,k,e,q3⟩:=zz
 subst e;cases f;exact wd ⟨q,l,q3⟩
/---/def LV(r r':R2)(ta tb tc:TE):TE:=λσ H Q=>ta σ H λx H1=>tb σ H1 λy H2=>r x y H2 λz H3=>∃k,z=.bl k/\
 (if k=true then tc σ H3 λw' H4=>r' y w' H4 Q else Q .mK H3)
def LW(K:.jr)(g:.ae (.d6 f) j)(M:.dZ)(G:.hz)(O:.w c tc)
  (hm:lastMarks [op,f] [b,c]=false:=by with_unfolding_all rfl):.w (.hC [op,f] [b,c]) (LV r j ta tb tc):=by
 intro pins s σ H Q I h;refine Compare_chain (thn (M pins s σ H _ I h) λv p ⟨x,N,B,C,q1⟩=>chain_link (thn (G pins p σ N _ B q1) λu w ⟨y,t,E,l,q2⟩ =>
  thn (K pins w σ t x y v u _ E C l q2) λd o zz=>?_)) hm;obtain⟨z,m,i,q,k,e,q3⟩:=zz
 subst e;cases q;refine wd ?_;cases k with
 |false=>exact ite_ff ⟨.bl false,m,i,rfl,q3⟩
 |true=>exact ite_tt (chain_last<|thn (O pins o σ m _ i q3) λJ D ⟨n,L,F,A,P⟩=>g pins D σ L y n u J Q F l A P)
def pK:(sizeLine:Nat)<2^63:=by rw[YG];decide
def E5:.ae .kQ (λx y H Q=>∃i j,x=.str i/\y=.str j/\i.length+j.length<=sizeLine/\Q (.str<|i++j) H):=by
 intro pins s σ H x y v u Q I d g h;obtain⟨i,j,rfl,rfl,e,q⟩:=h;obtain⟨t,rfl⟩:=d;obtain⟨f,rfl⟩:=g;exact add_str (λf k=>⟨.str (i++j),H,I.tok _,⟨_,rfl⟩,q⟩) e
def qj{x:V}(r:bn [x] us):∃u,us=[u]/\cw x u:=by
 cases r with
 |cons e d=>cases d;exact⟨_,rfl,e⟩
def RX{x y:V}(r:bn [x,y] us):∃u w',us=[u,w']/\cw x u/\cw y w':=by
 cases r with
 |cons g d =>
  cases d with
  |cons e f=>cases f;exact⟨_,_,rfl,g,e⟩
def JI(e:.aU):gE X (.cu "max") (λxs H Q=>∃i j,xs=.tv/\Q .wL H):=by
 intro pins s σ H xs l Q I r h;obtain⟨i,j,rfl,q⟩:=h;obtain⟨u,g,rfl,⟨t,rfl⟩,⟨f,rfl⟩⟩:=RX r;refine max_two_ints (.du e) λn m k=>⟨_,H,I.kept k,?_,q⟩
 by_cases d:j>i
 ·rw[z4 d,z4 d];exact⟨_,rfl⟩
 ·rw[y3 d,y3 d];exact⟨_,rfl⟩
def JJ(e:.aU):gE X (.cu "min") (λxs H Q=>∃i j,xs=.tv/\Q (.int .B8) H):=by
 intro pins s σ H xs l Q I r h;obtain⟨i,j,rfl,q⟩:=h;obtain⟨u,g,rfl,⟨t,rfl⟩,⟨f,rfl⟩⟩:=RX r;refine min_two_ints (.du e) λn m k=>⟨_,H,I.kept k,?_,q⟩
 by_cases d:j<i
 ·rw[z4 d,z4 d];exact⟨_,rfl⟩
 ·rw[y3 d,y3 d];exact⟨_,rfl⟩
def JK:gE X .pT (λxs H Q=>(∃i,xs=[.int i]/\Q .u H)\/∃k,xs=[.bl k]/\Q (.int<|if k then 1 else 0) H):=by
 intro pins s σ H xs e Q I r h;rcases h with ⟨i,rfl,q⟩|⟨k,rfl,q⟩
 ·obtain⟨u,rfl,t,rfl⟩:=qj r
  exact call_int_int ⟨.int i,H,I,⟨_,rfl⟩,q⟩
 ·obtain⟨u,rfl,d⟩:=qj r
  cases d;exact call_int_bool ⟨.int (if k then 1 else 0),H,I.tok _,⟨_,rfl⟩,q⟩
def Al:gE X .r6 (λxs H Q=>∃i,xs=[.int i]/\i.natAbs.log2<1920/\Q (.str .fM) H):=by
 intro pins s σ H xs e Q I r h;obtain⟨i,rfl,d,q⟩:=h;obtain⟨u,rfl,t,rfl⟩:=qj r;exact PySem.P.str_of_int d ⟨.str _,H,I.tok _,⟨_,rfl⟩,q⟩
end
structure E6(h:Heap)(x dx C:Addr)(mA:.ap):Prop where
 obj:h.get? x=some .sh
 ns:h.Ns1 dx mA
 ne:dx≠x
def JL(n:h.Ns1 dx mA):∃c,h.get? dx=some c/\∀name,PySem.W.lookIn name c=some (mA name):=by
 obtain⟨o,d,m,k,i,g,_,l⟩:=n;refine⟨o,k,λname=>?_⟩;have e:=l name;unfold nsFind findBy at e;rw[<-Array.find?_toList]at e;unfold PySem.W.lookIn;rw[i];dsimp only;split
 ·rename_i y q
  rw[q]at e;exact congrArg some e
 ·rename_i q
  rw[q]at e;have a:d.toList.any (·.refKey)=false:=by
   rw[List.any_eq_false];intro y j;obtain⟨z,t,b⟩:=g y (Array.mem_toList_iff.mp j);simp[DictEntry.refKey,b]
  have f:¬d.toList.any (·.refKey)=true:=by rw[a];exact Z7
  rw[y3 f];exact congrArg some e
def E6.look{x dx C:Addr}(I:E6 h x dx C mA):∃a,PySem.W.InstAt h x .sh C (some a)/\∀name,PySem.W.lookIn name a=some (mA name) :=
 let ⟨a,c,b⟩:=JL I.ns
 ⟨a,⟨I.obj,rfl,rfl,c⟩,b⟩
section
variable{prog:N3}{w:N6}{A:P2}{E:.D}{s:P1}{K:ZX}{x dx C f:Addr}{mA:.ap}{name:Str}{v:S1}
def PL(X:K.In s.heap)(I:.uK)(d:.Dw)(e:.ux)
  (g:.eb name=some none) (i:mA name=some v) (b:PySem.W.handedIn v=true) (h:Q v .dE) :
  wpAny .N A (getAttr .jc name a) Q E s:=by
 obtain⟨j,J,c⟩:=I.look;exact PySem.W.get_value X J (PySem.W.plainGet_of d).1 (PySem.W.findObj_own e g rfl (by rw[c,i])) b h
def LX{Q:S1 × List S1->P1->Prop}(X:K.In s.heap)(I:.uK)(a:.Dw)
  (d:.eb name=some .iV) (ht:.l2 .ak=true) (e:mA name=none) (h:Q (.ref f,[.ref x]) s) :
  wpAny .N A (getMethod .jc name pl) Q E s:=by
 obtain⟨c,J,b⟩:=I.look;exact PySem.W.method_fn X J (.BK).1 (.BK).2 d (beq_iff_eq.mp ht) (by show (PySem.W.lookIn name c).map (·.isSome)=some false;rw[b,e];rfl) h
def PM{Q:.lF}(X:K.In s.heap)(I:.uK)
  (k:.C9) (hp:.Dz) (ht:PySem.W.takerIn K C name=some none) (m:.ux)
  (l:PySem.Within mA ns) (hsz:ns.length<=sizeLine)
  (h:∀h',E6 h' x dx C (λy=>if y=name then some v else mA y)->Heap.SameBut dx s.heap h'->Q () { s with heap:=h',toks:=s.toks+2 }) :
  wpAny .N A (setAttr .jc name v) Q E s:=by
 obtain⟨q,J,z⟩:=I.look;refine PySem.W.set_plain X J k (PySem.W.osa_open (s:=.dE) (r:=none) X J hp ht λb=>?_);obtain⟨t,n,hd'⟩:=PySem.W.any_some m;have p:s.heap.get? x=some ⟨.ref C,some dx,.plain,#[]⟩:=I.obj;refine zF (z3 (zF (zF (wpAny_loadPart p (zF (PySem.W.Looks.here (s:=.dE) (PySem.W.looks_clsIn X n) ?_))))));rw[hd'];refine z3 (a:=some dx) (zF (z3 (zF ?_)));refine wpAny_nsSet1 (s:=.dE) I.ns λh' c d=>?_;obtain⟨u,j,o,g,i,e⟩:=c.count (PySem.Within.cons name v l);refine zF (wpAny_lookBehind g (by rw[i];exact pastItsLine_dict (ZM e (by rw[Z2];omega))) ?_);exact z3 (h _ ⟨(d.2 _<|XO I.ne).trans I.obj,c,I.ne⟩ d)
def LY(X:K.In s.heap)(hm:PySem.W.makesIn K C=true)
  (hi:.eb "__init__"=some .iV) (b:PySem.W.typeIn K .ak=some (.type "function"))
  (h:codeAny .N (A.under<|.builtin "type.__call__" ⟨.ref C :: vs,a⟩) (.call .ak ⟨.ref .ij :: vs,a⟩) (PySem.W.InitBack .ij R)
   .zk) :
  codeAny .N A (.call .bt ⟨vs,a⟩) R s:=by
 obtain⟨e,g,d,t,c⟩:=s;exact PySem.W.make_core (PySem.W.makes_of X hm) (PySem.W.looks_findIn X hi) (λself=>PySem.W.bind_fn X self b) .a8 h
end
noncomputable def nA(f:Str)(v:V):List .dQ->List .dQ
 |[]=>[(f,v)]
 |(g,x)::r=>if g=f then (g,v)::r else (g,x)::nA f v r
theorem tY(f g:Str)(v:V):∀c:List .dQ,(nA f v c).lookup g=if g=f then some v else c.lookup g
 |[]=>by
  show List.lookup g [(f,v)]=_
  by_cases h:g=f
  ·have a:(g == f)=true:=beq_iff_eq.mpr h
   dsimp[List.lookup,a,z4 h]
  ·have a:(g == f)=false:=beq_eq_false_iff_ne.mpr h
   dsimp[List.lookup,a,y3 h]
 |(k,x)::r=>by
  have d:=tY f g v r;rw[show nA f v ((k,x)::r)=.qX from rfl]
  by_cases b:k=f
  ·rw[z4 b]
   by_cases h:g=k
   ·have a:(g == k)=true:=beq_iff_eq.mpr h
    dsimp[List.lookup,a,z4 (h.trans b)]
   ·have a:(g == k)=false:=beq_eq_false_iff_ne.mpr h
    dsimp[List.lookup,a,y3 (λe:g=f=>h (e.trans b.symm))]
  ·rw[y3 b]
   by_cases h:g=k
   ·have a:(g == k)=true:=beq_iff_eq.mpr h
    dsimp[List.lookup,a,y3 (λe:g=f=>b (h.symm.trans e))]
   ·have a:(g == k)=false:=beq_eq_false_iff_ne.mpr h
    dsimp[List.lookup,a];exact d
theorem rN(f:Str)(v:V):∀a:List .dQ,f∈(nA f v a).map (·.1)/\∀g,g∈a.map (·.1)->g∈(nA f v a).map (·.1)
 |[]=>⟨by simp[nA],λg h=>by simp at h⟩
 |(k,x)::r=>by
  obtain⟨c,d⟩:=rN f v r;rw[show nA f v ((k,x)::r)=.qX from rfl]
  by_cases b:k=f
  ·rw[z4 b]
   subst b;exact⟨by simp,λg h=>by simpa using h⟩
  ·rw[y3 b]
   refine⟨?_,λg h=>?_⟩
   ·rw[y6]
    exact ZW _ c
   ·rw[y6]at h⊢
    rcases xB.mp h with e|e
    ·exact xB.mpr (.inl e)
    ·exact ZW _ (d g e)
theorem tZ(f:Str)(v:V):∀a:List .dQ,(nA f v a).length<=a.length+1
 |[]=>by simp[nA]
 |(k,x)::r=>by
  have c:=tZ f v r;rw[show nA f v ((k,x)::r)=.qX from rfl]
  by_cases b:k=f
  ·rw[z4 b,Z2,Z2];omega
  ·rw[y3 b,Z2,Z2];omega
def o9.some_of(r:o9 .dR o):∃u,o=some u/\cw v u:=by
 cases o with
 |none=>exact(show False from r).elim
 |some u=>exact⟨u,rfl,r⟩
def o9.none_of(r:o9 none o):o=none:=by
 cases o with
 |none=>rfl
 |some u=>exact(show False from r).elim
def JM(r:cw v u):PySem.W.handedIn u=true:=by
 cases v with
 |non=>cases (show u=Value.none from r);rfl
 |bl b=>cases (show u=Value.bool b from r);rfl
 |int i=>obtain⟨t,e⟩:=(show ∃t,u=Value.int i t from r);cases e;rfl
 |str x=>obtain⟨t,e⟩:=(show ∃t,u=Value.str x t from r);cases e;rfl
 |byt b=>obtain⟨t,e⟩:=(show ∃t,u=Value.bytes b t from r);cases e;rfl
 |flt b=>obtain⟨t,e⟩:=(show ∃t,u=Value.float b t from r);cases e;rfl
 |ref a=>cases (show u=Value.ref a from r);rfl
 |ty n=>cases (show u=Value.type n from r);rfl
section
variable{P:N3}{w:N6}{H H':Hp}{h h':Heap}{a C dx:Addr}{fs fs':List .dQ}
def Am(hok:.cp)(e:.pz):∃mA,E6 h a dx C mA/\(∀f,o9 .t0 (mA f))/\PySem.Within mA (fs.map (·.1))/\fs.length<=1000/\H dx=some (.own a):=by
 obtain⟨d,z,ne,b,mA,n,r,q⟩:=(show fL P w H h a (.ins C dx fs) from hok a _ e);exact⟨mA,⟨b,n,ne⟩,r,q,z,d⟩
end
structure Cls(K:ZX)(C:Addr):Prop where
 pg:.u9 Str.empty=true
 hd:PySem.W.hasDictIn K C=true
 po:PySem.W.plainOver K C=true
 sa:.eb "__setattr__"=some .vZ
def Cls.get(c:Cls K C)(f:Str):.u9 f=true:=c.pg
/---/def nF(K:ZX)(C:Addr)(f:Str):Prop:=.eb f=some none
def nF.taker(n:nF K C f):PySem.W.takerIn K C f=some none:=by
 unfold PySem.W.takerIn;rw[show PySem.W.findIn K .bt f=some none from n];rfl
structure Con(K:ZX)(C:Addr)(f:Str)(v:V)(u:S1):Prop where
 at_:.eb f=some (some u)
 rel:cw v u
 get:PySem.W.specialIn K u "__get__"=some none
 cp:PySem.W.copiedNames.contains f=false
structure SU(K:ZX)(C:Addr)(m:Str)(f:Addr):Prop where
 at_:.eb m=some .iV
 fn:.l2 .ak=true
 kp:.dv .ak=true
section
variable{X:Cx}{pins:.J}{σ:St}{H:Hp}{s:P1}{a C dx:Addr}{fs:List .dQ}{f:Str}{v:V}{A:P2}{E:.D}
def E7{b:Bool}(I:.p)(e:.pz)(c:Cls X.K C)(n:nF X.K C f)(l:fs.lookup f=some v)
  (h:∀u d,Inv X pins σ H d->cw v u->Q u d):wpAny .af A (getAttr .bu f b) Q E s:=by
 obtain⟨mA,O,r,_,_,_⟩:=Am I.hok e;obtain⟨u,i,g⟩:=o9.some_of (v:=v) (o:=mA f) (by rw[<-l];exact r f);exact PL I.kIn O (c.get f) c.hd n i (JM g) (h u _ .fY g)
def E8{Q:S1 × List S1->P1->Prop}(I:.p)(e:.pz)(c:Cls X.K C)(k:SU X.K C m g)(l:fs.lookup m=none)
  (h:Q (.ref g,.bQ) s):wpAny .af A (getMethod .bu m pl) Q E s:=by
 obtain⟨mA,O,r,_,_,_⟩:=Am I.hok e;have b:mA m=none:=o9.none_of (by rw[<-l];exact r m);exact LX I.kIn O (c.get m) k.at_ k.fn b h
def E9{Q:.lF}(I:.p)(e:.pz)(c:Cls X.K C)(n:nF X.K C f)(G:fs.length<1000)(D:cw y u)
  (h:∀i,Inv X pins σ (upd H a .BM) i->Q () i):wpAny .af A (setAttr .bu f u) Q E s:=by
 obtain⟨mA,O,r,j,_,k⟩:=Am I.hok e;have w:(fs.map (·.1)).length<=sizeLine:=by rw[ZA,YG];omega
 refine PM I.kIn O c.sa c.po n.taker c.hd j w λF d p=>h _ ?_;have B:∃o,F.get? dx=some o:=let ⟨o,_,_,m,_⟩:=d.ns;⟨o,m⟩;refine I.write (x:=a) (e:=dx) .rG (.inr k) (λb q t z=>(p.2 b t).trans z) B ?_;refine⟨by rw[aS O.ne];exact k,?_,O.ne,d.obj,_,d.ns,λg=>?_,λg l=>?_⟩
 ·have:=tZ f y fs;omega
 ·show o9 ((nA f y fs).lookup g) .zy
  rw[tY]
  by_cases q:g=f
  ·rw[z4 q,z4 q];exact D
  ·rw[y3 q,y3 q];exact r g
 ·by_cases q:g=f
  ·rw[q];exact(rN f y fs).1
  ·refine(rN f y fs).2 g (j g λz=>l ?_)
   show .zy=none;rw[y3 q];exact z
def Inv.made(I:.p):.be (upd (.pY<|.own .bI) .bI<|.ins C s.heap.objs.size [])
  .zk:=by
 have c:(.kd).get? s.heap.objs.size=some PySem.W.emptyDict:=ZJ s.heap rfl;have j:((.kd).push .qK).get? .bI=some .qK:=by
  have:=ZJ .kd (o:=PySem.W.instObj C s.heap.objs.size) rfl;rwa[YI]at this
 have g:(.kd).Ns s.heap.objs.size (λ_=>none):=⟨PySem.W.emptyDict,#[],_,c,rfl,(λe d=>absurd d .d),λ_=>rfl⟩;have h:=I.laid (a:=s.heap.objs.size) (o:=.own .bI) (h':=s.heap.push PySem.W.emptyDict) (t':=s.toks) .nE .o ⟨_,c⟩;refine h.laid (a:=s.heap.objs.size+1) (o:=.ins C s.heap.objs.size []) (t':=s.toks) .nE (zYx<|YI _ _) ?_;have ne:s.heap.objs.size≠s.heap.objs.size+1:=ZN (Z9 _);refine⟨by rw[aS ne,bw],YR _,ne,j,λ_=>none,(Heap.Ns1.of_empty g).at λo q=>.H q,λ_=>True.intro,λy i=>absurd rfl i⟩
def PN{f:Str}{s:P1}(c:attributeBase e f env (.az env)=.az env)
  (h:.ao (.az env) (λo b=>.ao (getAttr o f true) Q E b) E s):wpAny .N A (eval (.Attribute e f pos) env) Q E s :=
 Attribute_any_ h (by rw[arm_eval_Attribute,c])
end
/---/def WI(K:ZX)(ta:TE)(f:Str):TE:=λσ H Q=>ta σ H λx H1=>∃a C dx fs v,x=.ref a/\H1 a=some .mP/\Cls K C/\nF K C f/\fs.lookup f=some v/\Q v H1
/---/def WJ(K:ZX)(ta tv:TE)(f:Str):TS:=λD σ H=>tv σ H λy H1=>ta σ H1 λx H2=>∃a C dx fs,x=.ref a/\H2 a=some .mP/\Cls K C/\nF K C f/\fs.length<1000/\
 D.nx σ (upd H2 a .BM)
section
variable{X:Cx}{o e value:Expr}{f:Str}{pos pos' tpos:Pos}{ta tv:TE}
def SV(he:.w e ta)(m:attributeBase e f X.env .nY=.az X.env):.w (.Attribute e f pos) (WI X.K ta f):=by
 intro pins s σ H Q I h;refine PN m (thn .eV λu t zz=>?_);obtain⟨x,p,d,b,a,C,z,y,v,i,k,c,n,l,q⟩:=zz;subst i;obtain rfl:u=Value.ref a:=b;exact E7 d k c n l λr w j g=>⟨v,p,j,g,q⟩
def SW(t:.w o ta)(w:.w value tv)(d:swapsWith value (some<|.Attribute o f pos') pos.line X.env=pure false):PS X (.Assign [.Attribute o f pos'] value pos) (WJ X.K ta tv f):=by
 intro pins s σ H D I h;refine plainObj_wpAny_Assign_Attribute (thn .Cv λu b ⟨y,v,i,r,q⟩=>thn (t pins b σ v _ i q) λov B zz=>?_) d;obtain⟨x,A,m,g,a,C,F,E,k,p,c,n,l,q2⟩:=zz;subst k;obtain rfl:ov=Value.ref a:=g;exact E9 m p c n l r λz j=>⟨σ,_,j,q2⟩
end
section
variable{X:Cx}{pins:.J}{σ:St}{H:Hp}{s:P1}{A:P2}{E:.D}{Q:.D}{c:S1}{b:Bool}
inductive vZ(K:ZX)(H:Hp):V->S1->Prop where
 |non:vZ K H .non (.type "NoneType")
 |bl (x:Bool):vZ K H (.bl x) (.type "bool")
 |int (i:Int):vZ K H .dp .pT
 |str (x:Str):vZ K H (.str x) (.type "str")
 |flt (x:UInt64):vZ K H (.flt x) (.type "float")
 |lst {a:Addr} {xs:List V} (e:H a=some (.lst xs)):vZ K H (.ref a) .pR
 |frz {a:Addr} {o:Obj} {xs:List V} (e:H a=some (.frz o (.lst xs))):vZ K H (.ref a) .pR
 |tup {a:Addr} {xs:List V} (e:H a=some (.tup xs)):vZ K H (.ref a) (.type "tuple")
 |dK {a:Addr} {kvs:.d0} (e:H a=some (.dK kvs)):vZ K H (.ref a) (.type "dict")
 |dT {a:Addr} {kvs:.gb} (e:H a=some .jz):vZ K H (.ref a) (.type "dict")
 |ins {a C dx:Addr} {fs:List .dQ} (e:H a=some (.ins C dx fs)) (cl:Cls K C) (ha:PySem.W.findIn K (.ref C) "__class__"=some (some (.cu "object.__class__")))
   (hn:PySem.W.specialIn K .q1 "__get__"=some (some<|.cu "getset_descriptor.__get__")) (htk:PySem.W.takesIn K .q1=some true)
   (hm:PySem.W.mroIn K C (.type "object")=some true):vZ K H .bu .bt
end
structure gF(k:Nat)(A:P2):Prop where
 hd:A.handled=none
 dp:A.depth+3*k+5<recursionLimit
 un:A.units+16*k+200<cLine
 gd:A.guards=some []
def gF.mono(r:gF k A)(h:j<=k):gF j A:=⟨r.hd,by have:=r.dp;omega,by have:=r.un;omega,r.gd⟩
def gF.deeper(r:gF (k+1) A)(env:Env):gF k (A.deeper env) :=
 ⟨r.hd,by have:=r.dp;show A.depth+1+3*k+5<_;omega,by have:=r.un;show A.units+3+16*k+200<_;omega,r.gd⟩
def Fc:(.mi).depth=A.depth+1:=by
 first|rfl|simp[Around.under,Code.weight,Code.isCreation,Code.isGuard,Code.isCaller,Code.frames,Code.isFrame,guardIds]
def Fd:(.mi).units=A.units+1:=by
 first|rfl|simp[Around.under,Code.cUnits,Code.frames,Code.isFrame]
def gF.make(r:gF (k+1) A)(C:Addr)(us:List S1)(a:List .i0):gF k .mi :=
 ⟨r.hd,by have:=r.dp;rw[Fc];omega,by have:=r.un;rw[Fd];omega,by first|exact r.gd|(simp[Around.under,Code.isGuard,guardIds];exact r.gd)⟩
def gF.depth(r:gF k A):A.depth<recursionLimit:=by have:=r.dp;omega
def gF.units0(r:gF k A):A.units<cLine:=by have:=r.un;omega
/---/def Vg:TA:=λ_ H Q=>Q [] H
/---/def RY(ta:TE)(tr:TA):TA:=λσ H Q=>ta σ H λx H1=>tr σ H1 λxs H2=>Q .bC H2
section
variable{X:Cx}{e:Expr}{es:.aL}{te:TE}{t:TA}{pos:Pos}
def dE:PA X [] Vg:=λ_ _ _ _ H Q I h=>Calls.spliced_nil ⟨[],H,I,.nil,h⟩
def cx(l:.w e te)(j:PA X es t)(b:autoParam (.hN X.env=(false,.az X.env)::starEach es X.env) Q3Q._auto_1):PA X .fJ (RY te t):=by
 intro pos pins s σ H Q I h;rw[b];show wpAny _ _ (spliced ((false,.az X.env)::backTo pos .ml)) _ _ s;refine Calls.spliced_cons (thn (l pins s σ H _ I h) λu a ⟨x,m,d,f,q1⟩=>?_);exact thn (j pos pins a σ m _ d q1) λo n ⟨g,c,i,k,q2⟩=>⟨x::g,c,i,.cons f k,q2⟩
/---/def WK(t:TA):TE:=λσ H Q=>t σ H λxs H1=>xs.length<=sizeLine/\∀p,H1 p=none->.c5 (upd H1 p .df)
/---/def WL(t:TA):TE:=λσ H Q=>t σ H λxs H1=>xs.length<=sizeLine/\∀p,H1 p=none->.c5 (upd H1 p .cl)
def L0(h:PA X es t):.w (.Tuple es g pos) (WK t):=by
 intro pins s σ H Q I k;refine wpAny_Tuple_spliced (thn (h pos pins s σ H _ I k) λj a ⟨i,d,c,r,z,q⟩=>⟨by rw[<-r.length];exact z,?_⟩);have f:d a.heap.objs.size=none:=c.hok.fresh .o;refine⟨.ref a.heap.objs.size,upd d a.heap.objs.size (.tup i),c.laid (t':=a.toks) (λb u e=>.H e) .o ?_,rfl,q _ f⟩;exact⟨z,j,r,⟨_,ZJ _ rfl,rfl,_,rfl⟩⟩
def SY(h:PA X es t):.w (.List es pos) (WL t):=by
 intro pins s σ H Q I j;refine wpAny_List_spliced (thn (h pos pins s σ H _ I j) λi a ⟨g,d,c,r,z,q⟩=>⟨by rw[<-r.length];exact z,?_⟩);have f:d a.heap.objs.size=none:=c.hok.fresh .o;refine⟨.ref a.heap.objs.size,upd d a.heap.objs.size (.lst g),c.laid (t':=a.toks) (λb u e=>.H e) .o ?_,rfl,q _ f⟩;exact⟨z,i,0,r,ZJ _ rfl⟩
end
noncomputable abbrev Sp:=List V->Hp->VK->XK->Prop
noncomputable abbrev CXT:=List Env->Hp->P1->XK->S1->P1->Prop
structure Fe(P:N3)(w:N6)(K:ZX)(mg:.ap)(base:Heap)(A:P2)(outer:.d2)(s:P1)(H:Hp):Prop where
 frames:A.frames=some outer
 mod:Mod K mg base
 bs:∀b o,base.get? b=some o->s.heap.get? b=some o/\H b=none
 bsz:base.objs.size<=s.heap.objs.size
 funs:s.heap.FunFrames base outer
 frf:∀b∈frs outer,H b=none
 hok:HOk P w H s.heap
 bare:AllBare s.gens
/---/def CE(outer:.d2)(P:N3)(w:N6)(H:Hp)(s:P1)(Q:VK)(u:S1)(s':P1):Prop :=
 ∃v H',s'.os=s.os/\AllBare s'.gens/\Un (frs outer) [] H H' s.heap s'.heap/\HOk P w H' s'.heap/\cw v u/\Q v H'
/---/def CR(CX:CXT)(outer:.d2)(P:N3)(w:N6)(H:Hp)(s:P1)(Q:VK)(E:XK)(r:Result)(s':P1):Prop :=
 match r with
 |.ok (.ret u)=>CE outer P w H s Q u s'
 |.ok _=>False
 |.error e=>CX outer H s E e s'
structure ie(P:N3)(w:N6)(K:ZX)(mg:.ap)(base:Heap)(CX:CXT)(k:Nat)(f:Addr)(fd:.gc)(ps:.aq)(sp:Sp):Prop where
 len:∀vs H Q E,sp vs H Q E->vs.length=ps.length
 run:∀(A:P2) (outer:.d2) (s:P1) (H:Hp) (args:Args) (us:List S1) (vs:List V) (Q:VK) (E:XK),gF k A->Fe P w K mg base A outer s H->BindsTo s fd args .iY->bn vs us->sp vs H Q E->
  codeAny .fO A (.call .ak args) (CR CX outer P w H s Q E) s
def Fe.make(e:.Dy)(C:Addr)(us:List S1)(a:List .i0):
  Fe P w K mg base .mi outer s H:=⟨by first|exact e.frames|(simpa[Around.under,Code.envs,Code.isFrame,pushEnvs] using e.frames),e.mod,e.bs,e.bsz,e.funs,e.frf,e.hok,e.bare⟩
section
variable{X:Cx}{pins:.J}{σ:St}{H:Hp}{s s':P1}
def Inv.env0(I:.p):Fe X.prog X.w X.K X.mg X.base X.A X.stack s H :=
 ⟨I.ok.frames,I.ok.mod,I.bs,ZM I.ok.bsz I.sz,I.stack,I.stkFree,I.hok,I.bare⟩
def Inv.after{Q:VK}(I:.p)(h:CE X.stack X.prog X.w H s Q u s'):.gk u s':=by
 obtain⟨v,e,c,bare,i,hok,r,q⟩:=h;obtain⟨f,g,d,t,a⟩:=s';obtain rfl:a=s.os:=c;exact⟨v,e,I.call (h':=f) (g':=g) (d':=d) (t':=t) (ch:=[]) i hok bare (λb z=>.ed .d),r,q⟩
end
/---/def Vh(sp:Sp)(dvs:List V)(E:XK)(t:TA):TE:=λσ H Q=>t σ H λvs H1=>sp .fW H1 Q E
/---/def Vi(C:Addr)(m:Str)(sp:Sp)(dvs:List V)(E:XK)(ta:TE)(t:TA):TE:=λσ H Q=>ta σ H λx H1=>∃a dx fs,x=.ref a/\H1 a=some .mP/\fs.lookup m=none/\
 t σ H1 λvs H2=>sp (x::.fW) H2 Q E
/---/def Vj(C:Addr)(sp:Sp)(dvs:List V)(E:XK)(t:TA):TE:=λσ H Q=>t σ H λvs H1=>∀x dx,H1 x=none->H1 dx=none->dx≠x->
 sp (.ref x::.fW) (upd (upd H1 dx .hd) x .tW) (λv H2=>v=.non/\Q .jc H2) E
/---/def jU(K:ZX)(fd:.gc)(ps:.aq)(ds:List S1):Prop :=
 ∀(s:P1) (us:List S1),K.In s.heap->(.hg).length=ps.length->.jR ⟨us,[]⟩ (ps.zip .hg)
def jU.all(h:∀us:List S1,us.length=ps.length->bindArgs fd ⟨us,[]⟩=pure .iY):jU K fd ps []:=λs us _ a=>by
 rw[XA]at a⊢;exact .of_eq (h us a)
/---/def rP(CX:CXT)(X:Cx)(E:XK):Prop:=∀(pins:.J) (σ:St) (H:Hp) (s:P1) (e:S1) (s':P1),Inv X pins σ H s->CX X.stack H s E e s'->X.xe e s'
section
variable{X:Cx}{CX:CXT}{k:Nat}{f C:Addr}{fd:.gc}{ps:.aq}{sp:Sp}{dvs:List V}{ds:List S1}{E:XK}{x m:Str}{p pos apos:Pos}{e o:Expr}{es:.aL}{ta:TE}{t:TA}
def L1{Q:VK}(F:.lw)(d:gF k X.A)(i:.lC)(hd:bn dvs ds)(l:rP CX X E)
  (I:.p) (r:bn vs us) (h:sp .fW H Q E):.a2 (call .ak us) .bL X.xe s:=by
 have b:bn .fW .hg:=r.append hd;have c:(.hg).length=ps.length:=by rw[<-b.length];exact F.len _ _ _ _ h
 refine wpAny_call (zYy (F.run X.A X.stack s H ⟨us,[]⟩ .hg .fW Q E d I.env0 (i s us I.kIn c) b h) λr j a=>?_);cases r with
 |error e=>exact l pins σ H s e j I a
 |ok g =>
  cases g with
  |ret u=>exact I.after a
  |next=>exact False.elim a
  |brk=>exact False.elim a
  |cont=>exact False.elim a
def PP(F:.lw)(g:gF k X.A)(c:.U x)(hm:X.mg x=some .ak)(d:PySem.W.keepIn X.K .ak=true)(i:.lC)(hd:bn dvs ds)(l:rP CX X E)
  (j:.ju) (a:autoParam (.aY=false) Q1Q._auto_1) (he:autoParam (.hN X.env=(false,.az X.env)::starEach es X.env) Q3Q._auto_1) (hpl:autoParam ((.h5).any (·.1)=false) Q3Q._auto_1) :
  PE X .pI (Vh sp dvs E t):=by
 intro pins s σ H Q I h;refine zYk (Aj I c hm ?_ a);refine PySem.W.callWith_K (h₀ := X.base) I.ok.mod.kin d (thn (j pos pins s σ H _ I h) λv u ⟨n,w,b,r,q⟩=>⟨b.kIn,?_⟩) he hpl;exact L1 F g i hd l b r q
def PQ{pl:Sem Bool}(he:.w o ta)(c:Cls X.K C)(hm:SU X.K C m f)(F:.lw)(w:gF k X.A)(y:.lC)(hd:bn dvs ds)(B:rP CX X E)(z:.ju)
  (b:autoParam (.hN X.env=(false,.az X.env)::starEach es X.env) Q3Q._auto_1) (hpl:autoParam ((.h5).any (·.1)=false) Q3Q._auto_1)
  (ht:autoParam (eval (.cT (.dq m) (e :: es)) X.env=(do
   let ov <-eval o X.env
   standAt apos.atName
   let (f,first) <-holding [ov] (getMethod ov m pl)
   callWith pos f first (backTo pos<|.jD .fJ) (.lX pos))) Q3Q._auto_1) :
  PE X (.cT (.dq m) .fJ) (Vi C m sp dvs E ta t):=by
 intro pins s σ H Q I h;refine PySem.W.methodCall_KW (pl:=pl) (thn .eV λu i zz=>?_) ht;obtain⟨x,A,d,j,a,K,J,n,v,l,q⟩:=zz;subst n;obtain rfl:u=Value.ref a:=j;refine E8 d v c hm l ?_;refine PySem.W.callWith_K (first:=.bQ) (h₀ := X.base) I.ok.mod.kin hm.kp (thn (z pos pins i σ A _ d q) λus G ⟨vs,D,g,r,q2⟩=>⟨g.kIn,?_⟩) b hpl;exact L1 (us:=.ref a::us) (vs:=.ref a::vs) F w y hd B g (.cons rfl r) q2
structure Mk(K:ZX)(C f:Addr):Prop where
 makes:PySem.W.makesIn K C=true
 init:.eb "__init__"=some .iV
 fn:.l2 .ak=true
 kp:.dv .bt=true
def L3{Q:VK}(M:Mk X.K C f)(F:.lw)(z:gF (k+1) X.A)(A:.lC)(hd:bn dvs ds)
  (B:rP CX X E) (I:.p) (r:bn vs us)
  (h:∀x dx,H x=none->H dx=none->dx≠x->sp (.ref x::.fW) (upd (.aA dx .hd) x .tW) (λv g=>v=.non/\Q .jc g) E) :
  wpAny .af X.A (call .bt us) .bL X.xe s:=by
 have d:=h .bI s.heap.objs.size (I.hok.fresh<|zYt _) .dJ (ZN<|Z9 _);have b:=Inv.made (C:=C) I;have c:bn (V.ref .bI::.fW) (Value.ref .bI::.hg):=.cons rfl (r.append hd);have y:(Value.ref .bI::us++ds).length=ps.length:=by
  have e:=c.length;rw[F.len _ _ _ _ d]at e;exact e.symm
 refine wpAny_call (LY (f:=f) I.kIn M.makes M.init (beq_iff_eq.mp M.fn) (zYy (F.run _ X.stack _ _ ⟨Value.ref .ij :: us,[]⟩ (Value.ref .ij :: .hg) _ _ E (z.make C us [])
  (b.env0.make C us []) (A _ (Value.ref .bI::us) b.kIn y) c d) λr n a=>?_))
 cases r with
 |error e=>exact B pins σ _ _ e n b a
 |ok i =>
  cases i with
  |ret u =>
   obtain⟨v,l,j,q,w,q3⟩:=b.after a;subst w;exact⟨q,⟨V.ref .bI,l,j,rfl,q3⟩⟩
  |next=>exact False.elim a
  |brk=>exact False.elim a
  |cont=>exact False.elim a
def PR(M:Mk X.K C f)(F:.lw)(d:gF (k+1) X.A)(c:.U x)(hm:X.mg x=some .bt)(g:.lC)(hd:bn dvs ds)(j:rP CX X E)
  (i:.ju) (a:autoParam (.aY=false) Q1Q._auto_1) (he:autoParam (.hN X.env=(false,.az X.env)::starEach es X.env) Q3Q._auto_1) (hpl:autoParam ((.h5).any (·.1)=false) Q3Q._auto_1) :
  PE X .pI (Vj C sp dvs E t):=by
 intro pins s σ H Q I h;refine zYk (Aj I c hm ?_ a);refine PySem.W.callWith_K (h₀ := X.base) I.ok.mod.kin M.kp (thn (i pos pins s σ H _ I h) λu n ⟨l,v,b,r,q⟩=>⟨b.kIn,?_⟩) he hpl;exact L3 M F d g hd j b r q
end
section
variable{X:Cx}{CX:CXT}{k:Nat}{f C:Addr}{fd:.gc}{ps ks:.aq}{sp:Sp}{E:XK}{x m:Str}{p pos apos kpos:Pos}{e o:Expr}{es:.aL}{kws:List Keyword}{te ta:TE}{t tk:TA}{nm:Option Str}
structure WM(K:ZX)(fd:.gc)(ps ks:.aq)(g:List S1->List S1->List S1)(gV:List V->List V->List V):Prop where
 to:∀(s:P1) (us ws:List S1),K.In s.heap->(g us ws).length=ps.length->.jR ⟨us,ks.zip ws⟩ (ps.zip<|g us ws)
 rel:∀{vs:List V} {us:List S1} {zs:List V} {ws:List S1},bn vs us->bn zs ws->bn (gV vs zs) (g us ws)
variable{g:List S1->List S1->List S1}{gV:List V->List V->List V}
end
structure fM(N P:.aq)(sc:Scope):Prop where
 kind:sc.kind=.function
 co:sc.isCoroutine=false
 gen:sc.isGenerator=false
 nd:N.Nodup
 pre:N.take P.length=P
 par:∀x∈P,sc.names.lookup x=some .local\/sc.names.lookup x=some .cell
 nofree:∀y∈sc.names,y.2 ≠ .free
theorem yB{b:.o5}{x:Str}:∀{a:List .i0} {m:.ap},(∀v,(x,v)∉a)->bindL b a m x=m x
 |[],_,_=>rfl
 |(n,v)::r,m,h=>by
  unfold bindL;rw[yB λw c=>h w (ZW _ c)];split
  ·have:x≠n:=by rintro rfl;exact h v ZV
   simp[this]
  ·rfl
theorem yC{b:.o5}{x:Str}:∀{a:List .i0} {m:.ap},(∀v,(x,v)∉a)->bindC b a m x=m x
 |[],_,_=>rfl
 |(n,v)::r,m,h=>by
  unfold bindC;rw[yC λw c=>h w (ZW _ c)];split
  ·rfl
  ·have:x≠n:=by rintro rfl;exact h v ZV
   simp[this]
theorem yD{a:.o5}{x:Str}{v:S1}:∀{P:.aq} {vs:List S1} {i:Nat} {m:.ap},P.Nodup->P[i]?=some x->vs[i]?=some v->a x=some .local->
  bindL a (P.zip vs) m x=some v
 |[],_,_,_,_,h,_,_=>by simp at h
 |_::_,[],_,_,_,_,h,_=>by simp at h
 |p::P,w::vs,0,m,nd,h1,b,c=>by
  simp at h1 b;subst h1;subst b;show bindL a .nJ m p=_;unfold bindL;rw[yB λv d=>(.hb).1 (List.of_mem_zip d).1,z4 c];simp
 |p::P,w::vs,i+1,m,nd,h1,b,c=>by
  show bindL a .nJ m x=_;unfold bindL;exact yD (i:=i) (.hb).2 .gG .sS c
theorem yE{a:.o5}{x:Str}{v:S1}:∀{P:.aq} {vs:List S1} {i:Nat} {m:.ap},P.Nodup->P[i]?=some x->vs[i]?=some v->a x≠some .local->
  bindC a (P.zip vs) m x=some v
 |[],_,_,_,_,h,_,_=>by simp at h
 |_::_,[],_,_,_,_,h,_=>by simp at h
 |p::P,w::vs,0,m,nd,h1,b,c=>by
  simp at h1 b;subst h1;subst b;show bindC a .nJ m p=_;unfold bindC;rw[yC λv d=>(.hb).1 (List.of_mem_zip d).1,y3 c];simp
 |p::P,w::vs,i+1,m,nd,h1,b,c=>by
  show bindC a .nJ m x=_;unfold bindC;exact yE (i:=i) (.hb).2 .gG .sS c
/---/def nG(N:.aq)(vs:List V):St:=vs.map some++List.replicate (N.length-vs.length) none
def An(CX:CXT)(P:N3)(w:N6)(K:ZX)(mg:.ap)(base:Heap)(N:.aq)(qual:Str)(scope:Scope)(f:Addr)(cd:S1)(A:P2)(outer:.d2)(s:P1)(H:Hp)(E:XK):Cx where
 prog:=P
 w:=w
 K:=K
 mg:=mg
 base:=base
 A:=A.deeper .q2
 N:=N
 s₀ := s
 H₀ := H
 env:=envOfC qual scope s.heap.objs.size f cd
 outer:=outer
 stack:=envOfC qual scope s.heap.objs.size f cd::outer
 ex:=[]
 calm:=true
 fn:=λ_=>true
 pn:=[]
 xe:=λe s'=>wpAny .fO (A.deeper .q2) (leaving .q2 e) (λ_ s''=>CX outer H s E e s'') (λe' s''=>CX outer H s E e' s'') s'
def Cg{a:Scope}(h:a.names.lookup x=some .cell):∃c,(cellsFrom n a.names []).lookup x=some c:=by
 have q:=PySem.W.cellsFrom_some a.names n [] (.inl h);exact Option.isSome_iff_exists.mp q
def JN{CX:CXT}{scope:Scope}{f:Addr}{C:S1}{outer:.d2}{G:P1}{E:XK}{vs:List V}
  (S:fM N ps scope) (hd:.bT) (j:.Dy) (R:vs.length=ps.length) (r:bn vs us)
  (x:InCallC s s.heap.objs.size (bindL (.yu).kindOf .iY λ_=>none) .zz (bindC (.yu).kindOf .iY λ_=>none) G) :
  Inv .xc [] .lp H G:=by
 have L:ps.length<=N.length:=by have:=.hL S.pre;rw[yo]at this;omega
 obtain⟨B,O,rfl,I⟩:=x.done;have m:∀b:Addr,b∉(.xc).ex:=λb z=>absurd (show b∈([] : List Addr) from z) .d;refine⟨⟨j.mod,S.kind,rfl,rfl,ZL _,λy z c B g => ?_,λy l => ?_,λy c _ h => ?_,λ_=>hd,Around.frames_deeper j.frames,.inr ⟨rfl,rfl⟩,λb z=>.ed (m b),j.bs,j.bsz,λb _ _=>m b,λb z=>.ed (m b),j.funs,j.frf⟩,
  rfl,j.bare,Un.kept I,⟨_,x.toInCall.ns,λi y v B g Q=>?_⟩,λy c h=>⟨_,x.cell y c h⟩,j.hok.fresh .o,λy c h=>?_,λp t=>absurd (show p∈([]:List .eO) from t) .d,j.hok.kept I,?_⟩
 ·exact name_of_addr x.apart (zYd B) (zYd g)
 ·have l:scope.names.lookup y=some .cell\/scope.names.lookup y=some .free:=l
  rcases l with l|l
  ·exact Cg l
  ·exact absurd rfl (S.nofree _<|zYd l)
 ·exact XF .Cu
 ·have D:i<vs.length:=by
   unfold nG at g
   by_cases D:i<vs.length
   ·exact D
   ·rw[ZD (by simpa using D)]at g
    rw[List.getElem?_replicate]at g;split at g<;>cases g
  have M:vs[i]?=some v:=by
   unfold nG at g;rw[ZC (by simpa using D),ZQ]at g;cases e:vs[i]? with
   |none=>rw[e]at g;cases g
   |some a=>rw[e]at g;cases g;rfl
  obtain⟨u,F,J⟩:=r.get M;have t:ps[i]?=some y:=by
   rw[<-S.pre,List.getElem?_take_of_lt .a];exact B
  have o:ps.Nodup:=by rw[<-S.pre];exact S.nd.sublist (List.take_sublist _ _)
  refine⟨u,J,?_⟩;rcases S.par y (ZK t) with k|k
  ·exact .inl ⟨k,yD o t F k⟩
  ·obtain⟨c,e⟩:=Cg (n:=s.heap.objs.size+1) k
   refine .inr ⟨.inl k,c,e,?_⟩;have q:=x.cell y c e;rw[yE o t F (by show scope.names.lookup y≠_;rw[k];decide)]at q;exact q
 ·exact j.hok.fresh (XF .Cu)
 ·unfold nG
  show _=N.length;rw[ZB,ZA,zZn];omega
def Vk{name a:Str}{d:Arguments}{body:.fo}{scope:Scope}{R kV l pm c ct T:S1}{M Y:.co}
  {D:.ga} {N ps:.aq} {sp:Sp} (lk:K.lookup f=some ⟨T,Y,.func .w3,D⟩) (C:.hM c a=true) (S:fM N ps scope)
  (len:.Da)
  (i:∀(A:P2) (outer:.d2) (s:P1) (H:Hp) (vs:List V) (Q:VK) (E:XK),gF k (A.deeper<|envOfC a scope s.heap.objs.size f c)->sp vs H Q E->
   ∃t,PSs .qP body t/\t { nx:=λ_ g=>Q .non g,rt:=Q } .lp H) :
  ie P w K mg base CX (k+1) f .w3 ps sp:=by
 refine⟨len,λA outer s H L us vs Q E F p W r m=>?_⟩;have U:=len _ _ _ _ m;have KX:K.In s.heap:=p.mod.kin.keeps λb o e=>(p.bs b o e).1;have z:s.heap.NoLimit:=p.mod.nolimit.keeps λb o e=>(p.bs b o e).1;have h:∀y∈ps.zip us,scope.names.lookup y.1=some .local\/(scope.names.lookup y.1=some .cell/\((.zz).lookup y.1).isSome=true):=λ⟨n,v⟩ hy=>by
  rcases S.par n (List.of_mem_zip hy).1 with q|q
  ·exact .inl q
  ·exact .inr ⟨q,PySem.W.cellsFrom_some _ _ _ (.inl q)⟩
 refine codeAny_call_function F.depth (KX _ _ lk) rfl S.co S.gen rfl (PySem.W.codeRec_of KX C) (W _ _ _ _ ?_);refine wpAny_newFunctionEnv_cells S.kind h λa0 he O x=>?_;subst he;refine⟨z.keeps x.toInCall.keep,codeAny_func ?_⟩;obtain⟨t,ht,X⟩:=i A outer s H vs Q E (F.deeper _) m;have I:Inv .qP [] .lp H O:=JN S F.hd p U r x;refine zZg (ht [] O .lp H _ I X) (λZ B j=>?_) λe B j=>j;have fin:∀{σ':St} {g:Hp} {v:V} {u:S1},Inv .qP [] σ' g B->cw v u->Q v g->CE outer P w H s Q u B :=
  λ{σ' g v u} J G q=>⟨v,g,J.os,J.bare,J.base,J.hok,G,q⟩
 cases Z with
 |ret u =>
  obtain⟨v,σ',g,J,G,q⟩:=j;exact fin J G q
 |next =>
  obtain⟨σ',g,J,q⟩:=j;exact fin (v:=V.non) (u:=Value.none) J rfl q
 |brk =>
  obtain⟨_,_,_,q⟩:=j;exact False.elim q
 |cont =>
  obtain⟨_,_,_,q⟩:=j;exact False.elim q
section
variable{X:Cx}{x:Str}{p pos:Pos}{e:Expr}{es:.aL}{t:TA}{id T:String}{r:.jj}
/---/def tCB(r:.jj)(t:TA):TE:=λσ H Q=>t σ H λvs H1=>r vs H1 Q
def jV(m:gE X .e8 r)(c:.U x)(hm:.jt)(n:bootBuiltins x=some .e8)(k:.ju)(d:autoParam (x≠"__name__") Q1Q._auto_1)(a:autoParam (.aY=false) Q1Q._auto_1)
  (he:autoParam (.hN X.env=(false,.az X.env)::starEach es X.env) Q3Q._auto_1) (hpl:autoParam ((.h5).any (·.1)=false) Q3Q._auto_1):.w .pI (tCB r t):=by
 intro pins s σ H Q I h;refine zYk (kQ I c hm n ?_ d a);exact PyProof.Rows.callWith_builtin1 .vK he hpl
def rR(m:gE X .jb r)(c:.U x)(hm:.jt)(n:bootBuiltins x=some .jb)(k:.ju)(d:autoParam (x≠"__name__") Q1Q._auto_1)(a:autoParam (.aY=false) Q1Q._auto_1)
  (he:autoParam (.hN X.env=(false,.az X.env)::starEach es X.env) Q3Q._auto_1) (hpl:autoParam ((.h5).any (·.1)=false) Q3Q._auto_1):.w .pI (tCB r t):=by
 intro pins s σ H Q I h;refine zYk (kQ I c hm n ?_ d a);exact XG .vK he hpl
end
end L2
namespace HT
open PySem PyProof.Rows
noncomputable def lexLt:List Int->List Int->Bool
 |[],[]=>false
 |[],_::_=>true
 |_::_,[]=>false
 |x::xs,y::ys=>if x=y then lexLt xs ys else decide (x<y)
def Fg(x y:Int)(xs ys:.c):lexLt .bC (y::ys)=if x=y then lexLt xs ys else decide (x<y):=rfl
def xN:lexLt [] []=false:=rfl
def v5(y:Int)(ys:.c):lexLt [] (y::ys)=true:=rfl
def v6(x:Int)(xs:.c):lexLt .bC []=false:=rfl
def L4(A:P2)(s:P1)(a:Int)(t:Tok)(c:Int)(u:Tok):∃e,SeqAt.EqAt A s (.int a t) (.int c u) e/\(e=true↔a=c) :=
 ⟨(a == c),zXm a t c u,by simp⟩
def L5(A:P2)(s:P1)(a:Int)(t:Tok)(c:Int)(u:Tok)(prog:N3)(w:N6)(E:.D)(Q:.D)(h:Q (.bool<|decide (a<c)) s):
  wpAny .N A (richCompare .Lt (.int a t)<|.int c u) Q E s :=
 (PyProof.Rows.lt_int h:.ao (compareOp .Lt (.int a t)<|.int c u) Q E s)
section
open PySem.SeqAt
open PySem.AutoSeq1 (wpAny_loadPart')
open PySem.MeetsSeq PySem.MeetsSeq2 PySem.MeetsSeq3
def xO(l b:Addr)(i f:.bp)(n n2:Nat)(V L:.co)(U K:.ga)(ns F:.c)(hi:IntsAre i.toList ns)(M:IntsAre f.toList F):
  Meets (Builtin.«tuple.__lt__» ⟨[.ref l,.ref b],[]⟩)
   (λ_ R s=>s.heap.get? l=some { cls:=.type "tuple",dict:=V,data:=.seq i n,slots:=U }/\s.heap.get? b=some { cls:=.type "tuple",dict:=L,data:=.seq f n2,slots:=K }/\
    R (.ok<|.ret<|.bool<|lexLt ns F) s) :=
 .of_wp λprog w A R s h=>by
  obtain⟨C,g,d,H,E⟩:=s;obtain⟨P,Q,h⟩:=h;have Z:=AutoSeq1.sub_tuple_tuple;have z1:i.size=ns.length:=by rw[<-hi.length];simp
  have z2:f.size=F.length:=by rw[<-M.length];simp
  wp_walk using zb P,zb Q,wpAny_forIn_list _ (λrest b J=>b.1=none/\J=⟨C,g,d,H,E⟩/\∃(D G:List S1) (m k:.c),rest=D.zip G/\
   IntsAre D m/\IntsAre G k/\m.length+f.size=k.length+i.size/\R (.ok<|.ret<|.bool<|lexLt m k) ⟨C,g,d,H,E⟩) _
  case turn =>
   rintro⟨y,x⟩ rest b J ⟨B,rfl,D,G,m,k,p,z,o,j,v⟩;cases z with
   |nil=>rw[List.zip_nil_left]at p;cases p
   |cons a t hvi' =>
    cases o with
    |nil=>rw[List.zip_nil_right]at p;cases p
    |cons c u hwi' =>
     rw[List.zip_cons_cons]at p;injection p with hyx hrest
     injection hyx with S W
     subst S W;rw[Fg]at v;dsimp[Z2]at j;obtain⟨e,T,r⟩:=L4 A.in1 ⟨C,g,d,H,E⟩ a t c u;refine zF (T prog w _ _ ?_);cases e with
     |true =>
      rw[z4 (r.mp rfl)]at v
      wp_walk
      exact⟨rfl,rfl,_,_,_,_,hrest,hvi',hwi',by omega,v⟩
     |false =>
      rw[y3 (λq=>absurd (r.mpr q) Z7)]at v;have I:=L5 A.in1 ⟨C,g,d,H,E⟩ a t c u prog w
      wp_walk using I
      exact⟨_,rfl,by simpa using v⟩
  case fin =>
   rintro⟨X,Y⟩ J ⟨B,rfl,D,G,m,k,p,z,o,j,v⟩;simp only at B;subst B;have N:lexLt m k=decide (i.size<f.size):=by
    cases z with
    |nil =>
     cases o with
     |nil =>
      dsimp[vb]at j;rw[xN];exact(xC .a).symm
     |cons c u O =>
      dsimp[vb,Z2]at j;rw[v5];exact(x3 .a).symm
    |cons a t N =>
     cases o with
     |nil =>
      dsimp[vb,Z2]at j;rw[v6];exact(xC .a).symm
     |cons c u O =>
      rw[List.zip_cons_cons]at p;cases p
   rw[N]at v
   wp_walk
   exact⟨_,rfl,by simpa[Builtin.Tuple.tupleCompareSizes] using v⟩
  case h =>
   exact⟨rfl,rfl,i.toList,f.toList,ns,F,rfl,hi,M,by omega,h⟩
end
section
variable{prog:N3}{w:N6}{A:P2}{E:.D}{s:P1}
def lt_tupInts(u:.jQ l c)(v:.jQ b a)(hi:IntsAre c.toList ns)(t:IntsAre a.toList d)
  (r:A.units<cLine) (h:Q (.bool<|lexLt ns d) s):.ao (compareOp .Lt .hc .fg) Q E s:=by
 obtain⟨⟨cls,z,data,y⟩,p,q,n,o⟩:=id u;obtain⟨⟨m,k,i,j⟩,f,g,n2,e⟩:=id v;simp only at q o g e;subst q o g e;exact richCompare_meets_room (op:=.Lt) ⟨_,p,rfl⟩ ⟨_,f,rfl⟩ PySem.F.slot_tuple_lt PySem.F.entry_tuple_lt (PySem.F.args_tuple_lt_2 _ _) (xO l b c a n n2 z k y j ns d hi t)
  ⟨p,f,show Value.bool (lexLt ns d)≠Value.notImplemented/\Q (.bool<|lexLt ns d) s from ⟨(λx=>nomatch x),h⟩⟩ r
def cat_tup(ht:.jQ t vs.toArray)(u:.jQ b a.toArray)(r:vs≠[])
  (h1:a=[]->Q .hk s) (v:a≠[]->Q .dD { s with heap:=s.heap.push { cls:=.type "tuple",data:=.seq (vs++a).toArray } })
  (hsz:vs.length+a.length<=sizeLine):.ao (binaryOp .Add .hk .fg) Q E s:=by
 obtain⟨⟨cls,p,data,o⟩,j,q,n,m⟩:=id ht;obtain⟨⟨l,h,k,f⟩,c,g,n2,d⟩:=id u;simp only at q m g d;subst q m g d;have e:vs.toArray++a.toArray=(vs++a).toArray:=by simp
 by_cases i:a=[]
 ·exact concat_meets ⟨_,j,rfl⟩ ⟨_,c,rfl⟩ noFill_tuple_add seq_tuple_add PySem.F.slot_tuple_add PySem.F.entry_tuple_add .zH
   (tuple_addW1 t b vs.toArray a.toArray n n2 p h o f (by simpa using r) (by simp[i])) ⟨j,c,h1 i⟩
 ·refine concat_meets ⟨_,j,rfl⟩ ⟨_,c,rfl⟩ noFill_tuple_add seq_tuple_add PySem.F.slot_tuple_add PySem.F.entry_tuple_add .zH
   (tuple_addW2 t b vs.toArray a.toArray n n2 p h o f (by simpa using r) (by simpa using i) (by rw[v3,v3];exact hsz)) ⟨j,c,?_⟩
  rw[e];exact v i
noncomputable def sIx(n d:Nat):Option Int->Nat
 |none=>d
 |some v=>if v<0 then (v+(n:Int)).toNat else min v.toNat n
def S3(n d:Nat)(hd:d<=n)(o:.aK):sIx n d o<=n:=by
 cases o with
 |none=>exact hd
 |some v =>
  show .w7<=n
  by_cases a:v<0
  ·rw[z4 a];omega
  ·rw[y3 a];exact Nat.min_le_right _ _
def HM(v:Int)(n d:Nat):.w6=((sIx n d .dR:Nat):Int):=by
 show .w6=((.w7:Nat):Int)
 by_cases a:v<0
 ·dsimp[z4 a];omega
 ·dsimp[y3 a];omega
def Fh(lo hi:.aK)(n:Nat):Builtin.Slice.sliceAdjust lo hi 1 (n:Int)=(((sIx n 0 lo:Nat):Int),((sIx n n hi:Nat):Int)):=by
 have a:¬((1:Int)<0):=by omega
 unfold Builtin.Slice.sliceAdjust;dsimp[a,XZ];refine Prod.ext ?_ ?_
 ·cases lo with
  |none=>rfl
  |some v=>exact HM v n 0
 ·cases hi with
  |none=>rfl
  |some v=>exact HM v n n
def Fk(i j:Nat):Builtin.Slice.slicePlaces (i:Int) (j:Int) 1=j-i:=by
 unfold Builtin.Slice.slicePlaces;have a:(1:Int)>0:=by omega
 dsimp[a,XH,Int.ediv_one];split<;>omega
def v7(p:IsPart v o)(h:Q o s):.ao (Builtin.Slice.slicePartIndex v) Q E s:=by
 cases p with
 |none=>exact slicePart_none h
 |int i t=>exact slicePart_int h
def lu{lo hi:.aK}{Q:Int × Int × Nat->P1->Prop}(f:s.heap.IsSliceOf e d c .none)(pl:IsPart d lo)(i:IsPart c hi)
  (h:Q (((sIx n 0 lo:Nat):Int),1,sIx n n hi-sIx n 0 lo) s):.ao (Builtin.Slice.sliceApplied (.ref e)<|pure (n:Int)) Q E s:=by
 obtain⟨j,b,g,a⟩:=id f;unfold Builtin.Slice.sliceApplied Builtin.Slice.sliceFields;refine zF (zF<|XR b a (x:=d) rfl<|zF<|XR b a (x:=c) rfl<|zF<|XR b a (x:=.none) rfl .aa);refine zF (slicePart_none ?_);show wpAny _ _ (if ((1:Int) == 0)=true then _ else _) _ _ s;rw[y3 .b];refine zF (v7 pl<|zF<|v7 i<|zF .aa);show wpAny _ _ (match Builtin.Slice.sliceAdjust lo hi 1 (n:Int) with|(lo,hi)=>pure (lo,(1:Int),Builtin.Slice.slicePlaces lo hi 1)) _ _ s;rw[Fh lo hi n];show wpAny _ _ (pure (((sIx n 0 lo:Nat):Int),(1:Int),Builtin.Slice.slicePlaces ((sIx n 0 lo:Nat):Int) ((sIx n n hi:Nat):Int) 1)) _ _ s;rw[Fk];exact z3 h
def L6(xs:.bp)(i k:Nat):((.nZ).filterMap λ(m:Nat)=>xs[(.sJ).toNat]?).toArray=((xs.toList.drop i).take k).toArray:=by
 have e:(λ(m:Nat)=>xs[(.sJ).toNat]?)=λm=>xs[i+m]? := by
  funext m;have:(.sJ).toNat=i+m:=by omega
  rw[this]
 rw[e];have:=pick_run xs i k;rw[List.filterMap_map]at this;have a:((λx=>xs[x]?) ∘ λx=>i+x)=λm=>xs[i+m]? := rfl;rw[a]at this;rw[this]
def getItem_tuple_cut{lo hi:.aK}(ht:.jQ t a)(j:s.heap.IsSliceOf f k i .none)(pl:IsPart k lo)(o:IsPart i hi)
  (p:¬(sIx a.size 0 lo=0/\sIx a.size a.size hi=a.size))
  (h:Q .dD { s with heap:=s.heap.push { cls:=.type "tuple",data:=.seq (.qs).toArray } })
  (hsz:a.size<=sizeLine):.ao (getItem .hk .ak) Q E s:=by
 have b:sizeOk (.seq (.qs).toArray):=by
  show (.qs).toArray.size<=sizeLine;rw[v3,yo,List.length_drop,vy];omega
 have r:sIx a.size a.size hi<=a.size:=S3 _ _ .o hi;obtain⟨n,e,c,l⟩:=id j;have d:s.TypeIs (.ref f) "slice" := ⟨n,e,c⟩;unfold getItem
 try with_reducible refine YZ ?_
 first|refine zF .aa|skip
 refine zF (zXr ht.typeIs .b ?_);refine zF (YL (name:=Str.ofString "__getitem__") ht.typeIs yj
  (YP yj ht.typeIs entry_tuple_getitem ?_ .Bj))
 show wpAny _ _ .xK _ _ s;refine zF (tupleItemsOf_ ht ?_);refine zF (wpAny_typeOf d ?_);rw[z4 .b];refine zF (lu j pl o ?_);have g:¬(.qd=true):=by
  intro q;rw[YB,YB]at q;have q1:((sIx a.size 0 lo:Nat):Int)=0:=eq_of_beq q.1.1;have q2:sIx a.size a.size hi-sIx a.size 0 lo=a.size:=eq_of_beq q.2;exact p ⟨by omega,by omega⟩
 show wpAny _ _ .Aq _ _ s;rw[y3 g,L6]
 first
  |exact zF (m:=Builtin.Tuple.tupleExact _) (YV .il b)
  |exact zF (m:=Builtin.Tuple.tupleExact _) (YV (zF (z3 .il)) b)
  |exact zF (zF (m:=Builtin.Tuple.tupleExact _) (YV (z3 .il) b))
  |exact zF (zF (m:=Builtin.Tuple.tupleExact _) (YV .il b))
end
end HT
namespace L2
open PySem PySem.Spec PyProof.Rows
noncomputable abbrev TO:=St->Hp->(Option Int->Hp->Prop)->Prop
/---/def PO(X:Cx)(e:.lK)(t:TO):Prop :=
 ∀(pins:.J) (s:P1) (σ:St) (H:Hp) (Q:Option Int->Hp->Prop),Inv X pins σ H s->t σ H Q->
  wpAny .af X.A (evalPart e X.env) (λu s'=>∃o H',Inv X pins σ H' s'/\IsPart u o/\Q o H') X.xe s
/---/def PU:TO:=λ_ H Q=>Q none H
/---/def Vl(t:TE):TO:=λσ H Q=>t σ H λx H1=>∃i,x=.int i/\Q (some i) H1
def jW:∀{us:List S1},bn .bN us->IntsAre us ns:=by
 induction ns with
 |nil=>intro us r;rw[X3]at r;cases r;exact .nil
 |cons n ns b =>
  intro us r;rw[y6]at r;cases r with
  |cons c a =>
   obtain⟨t,e⟩:=c;subst e;exact .cons n t (b a)
section
variable{X:Cx}{e:Expr}{te:TE}{lo hi:.lK}{tl th:TO}{pos p2:Pos}
def PV:PO X none PU:=by
 intro pins s σ H Q I h;rw[evalPart_none];exact z3 ⟨none,H,I,.none,h⟩
def PX(h:.w e te):PO X (some e) (Vl te):=by
 intro pins s σ H Q I c;rw[evalPart_some];refine thn (.cZ _ I c) λu f ⟨x,d,a,b,q1⟩=>?_;obtain⟨i,rfl,q⟩:=q1;obtain⟨t,rfl⟩:=b;exact⟨some i,d,a,.int i t,q⟩
/---/def SlR(X:Cx)(r:.Df):Prop :=
 ∀(pins:.J) (s:P1) (σ:St) (H:Hp) (x:V) (v vl vu:S1) (lo hi:.aK) (sl:Addr) (Q:VK),Inv X pins σ H s->cw x v->s.heap.IsSliceOf sl vl vu .none->IsPart vl lo->IsPart vu hi->r x lo hi H Q->
  ∃T id,typeLookup .jb "__getitem__"=pure (some .e8)/\s.TypeIs v T/\.a2 (getItem v<|.ref sl) .bL X.xe s
def SlR.or(h:SlR X r)(h':SlR X f):SlR X (λx lo hi H Q=>r x lo hi H Q\/f x lo hi H Q):=by
 intro pins s σ H x v j a lo hi i Q I d b c g q;rcases q with q|q
 ·exact .cZ x v j a lo hi i Q I d b c g q
 ·exact h' pins s σ H x v j a lo hi i Q I d b c g q
/---/def tSl(r:.Df)(te:TE)(tl th:TO):TE:=λσ H Q=>te σ H λx H1=>tl σ H1 λl H2=>th σ H2 λu H3=>r x l u H3 Q
def wa(C:SlR X r)(he:.w e te)(A:PO X lo tl)(g:PO X hi th):.w (.d5 e<|.lU p2) (tSl r te tl th):=by
 intro pins s σ H Q I h;refine Subscript_ (thn .eV λv j ⟨x,D,t,y,q1⟩=>?_);refine wpAny_Slice (thn (A pins j σ D _ t q1) λd o ⟨l,n,z,k,q2⟩=>thn (g pins o σ n _ z q2) λc a ⟨u,f,w,p,q3⟩=>?_);rw[evalPart_none];refine z3 ?_;have B:.be f .qt:=w.kept (t':=a.toks) λb F q=>.H q;obtain⟨T,id,m,E,i⟩:=C pins .qt σ f x v d c l u a.heap.objs.size Q B y (Heap.IsSliceOf.new ..) k p q3;show wpAny .af X.A (subscriptTail e (.lU p2) v<|.ref a.heap.objs.size) .bL X.xe .qt;exact tail_any (ops:=[.ref a.heap.objs.size,v]) E m i (by with_unfolding_all rfl)
/---/def rS(xs:List V)(lo hi:.aK):List V:=(xs.drop<|HT.sIx xs.length 0 lo).take (HT.sIx xs.length xs.length hi-HT.sIx xs.length 0 lo)
def t7(xs:List V)(lo hi:.aK):(.sO).length<=xs.length:=by
 unfold rS;rw[yo,List.length_drop];omega
/---/def WN(K:ZX):V->Option Int->Option Int->Hp->VK->Prop:=λx lo hi H Q=>∃a xs,x=.ref a/\SqT K H a xs/\
 ¬.qD/\∀p,H p=none->.c5 .Cw
def L7:SlR X (WN X.K):=by
 intro pins s σ H x v y t lo hi w Q I k j l m h;obtain⟨a,d,rfl,p,n,q⟩:=h;cases k;obtain⟨f,r,i,g⟩:=I.tuple p;have c:f.toArray.size=d.length:=by rw[v3];exact r.length.symm
 refine⟨"tuple",_,PyProof.Rows.slot_tuple_getitem.lookup,i.typeIs,?_⟩;refine HT.getItem_tuple_cut i j l m (by rw[c];exact n) ?_ (by rw[c];exact g);rw[c];refine⟨.ref s.heap.objs.size,_,I.laid (t':=s.toks) (o:=.tup (rS d lo hi)) .nE .o ?_,rfl,q _ .dJ⟩;exact⟨ZM (t7 d lo hi) g,_,(r.drop<|HT.sIx d.length 0 lo).take (HT.sIx d.length d.length hi-HT.sIx d.length 0 lo),IsTup.new _ _⟩
/---/def Vm(K:ZX):R2:=λx y H Q=>∃a b ns ms,x=.ref a/\y=.ref b/\SqT K H a .bN/\SqT K H b (ms.map V.int)/\Q (.bl<|HT.lexLt ns ms) H
def S4(i:X.A.units<cLine):.ae (.d6 .Lt) (Vm X.K):=by
 intro pins s σ H x y v u Q I j p h;obtain⟨a,b,g,f,rfl,rfl,r,n,q⟩:=h;cases j;cases p;obtain⟨d,k,l,_⟩:=I.tuple r;obtain⟨c,o,p2,_⟩:=I.tuple n;have m:IntsAre d.toArray.toList g:=jW k;have t:IntsAre c.toArray.toList f:=jW o;exact HT.lt_tupInts l p2 m t i ⟨.bl (HT.lexLt g f),H,I,rfl,q⟩
/---/def L8(K:ZX):R2:=λx y H Q=>∃a b xs ys,x=.ref a/\y=.ref b/\SqT K H a xs/\SqT K H b ys/\xs≠[]/\xs.length+ys.length<=sizeLine/\
 (ys=[]->Q .bu H)/\(ys≠[]->∀p,H p=none->.c5 (.br<|.tup<|xs++ys))
def bn.nil_iff(r:bn xs us):us=[]↔xs=[]:=by
 cases r with
 |nil=>simp
 |cons _ _=>simp
def PY:.ae .kQ (L8 X.K):=by
 intro pins s σ H x y v u Q I i m h;obtain⟨a,b,j,n,rfl,rfl,p,l,t,g,q1,q2⟩:=h;cases i;cases m;obtain⟨r,d,k,_⟩:=I.tuple p;obtain⟨f,c,p2,_⟩:=I.tuple l;refine HT.cat_tup k p2 (λz=>t (d.nil_iff.mp z)) (λz=>⟨.ref a,H,I,rfl,q1 (c.nil_iff.mp z)⟩) (λz=>?_) (by rw[<-d.length,<-c.length];exact g);refine⟨.ref s.heap.objs.size,_,I.laid (t':=s.toks) (o:=.tup (j++n)) (λb A q=>.H q) .o ?_,rfl,q2 (λw=>z (c.nil_iff.mpr w)) _ .dJ⟩;exact⟨by rw[ZB];exact g,_,d.append c,IsTup.new _ _⟩
end
/---/def ixN(n:Nat)(i:Int):Option Nat:=if 0<=i then .yC else if -(n:Int)<=i then some (i+n).toNat else none
/---/def atI{α:Type}(xs:List α)(i:Int):Option α := (ixN xs.length i).bind λj=>xs[j]?
def HN(h:ixN n i=some j):seqIndex? i n=some j/\j<n/\-(n:Int)<=i/\i<n:=by
 unfold ixN at h
 by_cases b:0<=i
 ·rw[z4 b]at h
  by_cases a:i<n
  ·rw[z4 a]at h
   have e:i.toNat=j:=ZT h;exact⟨by rw[seqIndex_of b a,e],by omega,by omega,a⟩
  ·rw[y3 a]at h;cases h
 ·rw[y3 b]at h
  by_cases a : -(n:Int)<=i
  ·rw[z4 a]at h
   have e:(i+n).toNat=j:=ZT h;exact⟨by rw[seqIndex_neg .a a,e],by omega,a,by omega⟩
  ·rw[y3 a]at h;cases h
def Ao(h:atI xs i=some v):∃j,seqIndex? i xs.length=some j/\xs[j]?=some v/\j<xs.length/\-(xs.length:Int)<=i/\i<xs.length:=by
 unfold atI at h;cases e:ixN xs.length i with
 |none=>rw[e]at h;cases h
 |some j =>
  rw[e]at h;obtain⟨a,c,d,b⟩:=HN e;exact⟨j,a,h,c,d,b⟩
def du{α:Type}{xs:List α}{j:Nat}{v:α}(h:xs[j]?=some v):atI xs (j:Int)=some v:=by
 have a:j<xs.length:=(z0.mp h).1;have e:ixN xs.length (j:Int)=some j:=by
  unfold ixN;rw[z4 .a,z4 .a];simp
 unfold atI;rw[e];exact h
def Ci{α:Type}(xs:List α)(v:α):atI (xs++[v]) (-1)=some v:=by
 have a:(xs++[v]).length=xs.length+1:=by simp
 have e:ixN (xs++[v]).length (-1)=some xs.length:=by
  unfold ixN;rw[a,y3 .b,z4 .a];congr 1;omega
 unfold atI;rw[e];show (xs++[v])[xs.length]?=some v;simp
/---/def vm(b:Expr):Prop:=∀o i,subscripted b false o i=operate [o,i] (getItem o i)
/---/def IxR(X:Cx)(r:R2):Prop :=
 ∀(value slice:Expr) (pins:.J) (s:P1) (σ:St) (H:Hp) (x y:V) (v u:S1) (Q:VK),Inv X pins σ H s->cw x v->cw y u->r x y H Q->
  subscripted slice false v u=operate [v,u] (getItem v u)->.a2 (subscriptTail value slice v u) .bL X.xe s
/---/def MtR(X:Cx)(id:String)(r:.o1):Prop :=
 ∀(pins:.J) (s:P1) (σ:St) (H:Hp) (x:V) (xs:List V) (v:S1) (us:List S1) (Q:VK),Inv X pins σ H s->cw x v->bn xs us->r x xs H Q->
  wpAny .af X.A (call .e8 (v::us)) .bL X.xe s
section
variable{X:Cx}{a b:Expr}{ta tb:TE}{pos:Pos}
def IxR.or(h:IxR X r)(h':IxR X f):IxR X (λx y H Q=>r x y H Q\/f x y H Q):=by
 intro value c pins s σ H x y v u Q I e g q d;rcases q with q|q
 ·exact h value c pins s σ H x y v u Q I e g q d
 ·exact h' value c pins s σ H x y v u Q I e g q d
def L9(f:IxR X r)(k:.dZ)(i:.hz)(d:vm b):.w .lR .n2:=by
 intro pins s σ H Q I h;exact Subscript_ (SQ k i I h λv u g x y e l c j q=>f a b pins g σ e x y v u Q l c j q (d _ _))
/---/def Vn(K:ZX):R2:=λx y H Q=>∃p xs i v,x=.ref p/\y=.int i/\SqL K H p xs/\atI xs i=some v/\Q v H
/---/def Vo(K:ZX):R2:=λx y H Q=>∃p xs i v,x=.ref p/\y=.int i/\SqT K H p xs/\atI xs i=some v/\Q v H
/---/def Vp:R2:=λx y H Q=>∃z i c,x=.str z/\y=.int i/\z.length<=sizeLine/\atI z.cps.toList i=some c/\Q (.str ⟨#[c]⟩) H
def HP:IxR X (Vn X.K):=by
 intro value g pins s σ H x y v u Q I o F h l;obtain⟨p,L,i,z,rfl,rfl,J,E,q⟩:=h;cases o;obtain⟨t,rfl⟩:=F;obtain⟨k,r,d,N⟩:=I.list J;obtain⟨j,c,G,M,A,C⟩:=Ao E;obtain⟨w,n,f⟩:=r.get G;have D:=r.length;have K:=pK;have fin:.gk w s:=⟨z,H,I,f,q⟩
 by_cases m:0<=i
 ·have e:i.toNat=j:=by
   rw[seqIndex_of m C]at c;exact ZT c
  exact item_listR d.isList m .a .Be fin l
 ·have e:(i+(k.toArray.size:Int)).toNat=j:=by
   rw[seqIndex_neg .a A]at c;rw[v3,<-D];exact ZT c
  exact subscriptTail_builtinR (x:=w) d.isList.typeIs slot_list_getitem.lookup
   (wpAny_getItem_list_neg (Q:=λr B=>r=w/\.gk r B) d.isList .a (by rw[v3]<;>omega) .a .Be ⟨rfl,fin⟩) l
def S5:IxR X (Vo X.K):=by
 intro value d pins s σ H x y v u Q I g o h f;obtain⟨p,G,i,z,rfl,rfl,D,n,q⟩:=h;cases g;obtain⟨t,rfl⟩:=o;obtain⟨B,r,e,L⟩:=I.tuple D;obtain⟨j,k,C,K,F,J⟩:=Ao n;obtain⟨w,A,c⟩:=r.get C;have m:=r.length;have E:=pK;have fin:.gk w s:=⟨z,H,I,c,q⟩;exact subscriptTail_builtinR (x:=w) e.typeIs slot_tuple_getitem.lookup
  (getItem_tuple (j:=j) (Q:=λr l=>r=w/\.gk r l) e .a .a (by rw[v3,<-m];exact k) (by simpa using A) ⟨rfl,fin⟩) f
def Ma:IxR X Vp:=by
 intro value d pins s σ H x y v u Q I g p h f;obtain⟨z,i,c,rfl,rfl,D,o,q⟩:=h;obtain⟨t,rfl⟩:=g;obtain⟨B,rfl⟩:=p;obtain⟨j,e,r,C,k,l⟩:=Ao o;have n:z.cps.toList.length=z.length:=by simp[Str.length]
 rw[n]at e k l;have A:=pK;exact tail_any (zXn s z t) slot_str_getitem.lookup (getItem_str (c:=c) (by
  have w:decide (i < -(2^63:Int))=false:=xC .a;have m:decide (i≥2^63)=false:=xC .a;rw[w,m,Bool.or_false]) (by rw[e];simpa using r) ⟨.str ⟨#[c]⟩,H,I.tok _,⟨_,rfl⟩,q⟩) f
/---/def rIx(K:ZX):R2:=λx y H Q=>Vn K x y H Q\/Vo K x y H Q\/Vp x y H Q
def S6:IxR X (rIx X.K):=HP.or (S5.or Ma)
def Fl(c:List S1)(n j:Nat)(u:S1):Obj.mapSeq (·.setIfInBounds j u) { cls:=.type "list",data:=.seq c.toArray n } = { cls:=.type "list",data:=.seq (c.set j u).toArray n }:=by
 simp[Obj.mapSeq]
def Inv.lst{σ:St}(I:.p)(h:H p=some .cl):
  ∃(c:List S1) (n:Nat),bn xs c/\s.heap.get? p=some { cls:=.type "list",data:=.seq c.toArray n }/\xs.length<=sizeLine:=by
 obtain⟨z,c,n,r,e⟩:=I.hok p _ h;exact⟨c,n,r,e,z⟩
def Inv.lstUpd{σ:St}{c its':List S1}{f:Obj->Obj}(I:.p)(h:H p=some .cl)
  (j:s.heap.get? p=some { cls:=.type "list",data:=.seq c.toArray n }) (g:f { cls:=.type "list",data:=.seq c.toArray n } = { cls:=.type "list",data:=.seq its'.toArray d }) (r:bn ys its') (hz:.uH) (t:Nat) :
  Inv X pins σ (.br .fU) { s with heap:=s.heap.update p f,toks:=t }:=by
 have e:(s.heap.update p f).get? p=some { cls:=.type "list",data:=.seq its'.toArray d }:=by
  rw[Y6 f j (by rw[g]<;>rfl),g]
 refine I.write (x:=p) (e:=p) (by rw[h];trivial) .a8 (λb u i q=>(zYl _ _<|XO i).trans q) ⟨_,e⟩ ?_;exact⟨hz,its',d,r,e⟩
/---/def Vq:V->V->V->Hp->(Hp->Prop)->Prop:=λo i v H Q=>∃p xs k j,o=.ref p/\i=.int k/\H p=some .cl/\ixN xs.length k=some j/\Q (.br<|.lst<|xs.set j v)
def Mb:SL X Vq:=by
 intro pins s σ H o i v ov G u Q I E A C h;obtain⟨p,B,k,j,rfl,rfl,w,z,q⟩:=h;cases E;obtain⟨t,rfl⟩:=A;obtain⟨c,n,r,g,D⟩:=I.lst w;obtain⟨d,J,m,l⟩:=HN z;have f:=r.length;have F:=pK;have y:Inv X pins σ (.br<|.lst<|B.set j v) { s with heap:=s.heap.update p (.hJ (·.setIfInBounds j u)) } :=
  I.lstUpd w g (Fl c n j u) (r.set C j) (by rw[Y7];exact D) s.toks
 by_cases x:0<=k
 ·have e:k.toNat=j:=by
   rw[seqIndex_of x l]at d;exact ZT d
  exact PySem.W.ki_setAt g x .a (by rw[v3,<-f];exact l) .At
 ·have e:(k+(c.toArray.size:Int)).toNat=j:=by
   rw[seqIndex_neg .a m]at d;rw[v3,<-f];exact ZT d
  exact PySem.W.ki_setBack g .a (by rw[v3,<-f];exact m) .a .At
def Ap(lo hi:.aK)(n:Nat):(.rM).1=((HT.sIx n 0 lo:Nat):Int)/\(.rM).2.1=((HT.sIx n n hi:Nat):Int)/\(.rM).2.2=1:=by
 refine⟨?_,?_,rfl⟩
 ·cases lo with
  |none=>simp[sliceBounds,HT.sIx]
  |some i =>
   dsimp[sliceBounds,HT.sIx,Option.getD_none,show (1:Int)>0 by decide,XH]
   by_cases h:i<0
   ·dsimp[h,XH]<;>omega
   ·dsimp[h,XZ]<;>omega
 ·cases hi with
  |none=>simp[sliceBounds,HT.sIx]
  |some i =>
   dsimp[sliceBounds,HT.sIx,Option.getD_none,show (1:Int)>0 by decide,XH]
   by_cases h:i<0
   ·dsimp[h,XH]<;>omega
   ·dsimp[h,XZ]<;>omega
def xP(c:List S1)(lo hi:.aK):slicePick c.toArray lo hi none=((c.drop<|HT.sIx c.length 0 lo).take (HT.sIx c.length c.length hi-HT.sIx c.length 0 lo)).toArray:=by
 obtain⟨d,f,e⟩:=Ap lo hi c.toArray.size;unfold slicePick;rw[d,f,e];dsimp[sliceRange_one,pick_run,v3]<;>rfl
/---/def Vr(K:ZX):V->Option Int->Option Int->Hp->VK->Prop:=λx lo hi H Q=>∃a xs,x=.ref a/\SqL K H a xs/\∀p,H p=none->.c5 (.br<|.lst .sO)
def PZ:SlR X (Vr X.K):=by
 intro pins s σ H x v y t e f w Q I j i k l h;obtain⟨a,c,rfl,p,q⟩:=h;cases j;obtain⟨n,r,g,m⟩:=I.list p;have d:=r.length;refine⟨"list",_,slot_list_getitem.lookup,g.isList.typeIs,?_⟩;refine wpAny_getItem_list_slice g.isList i k l .none .d ?_ (by rw[v3]<;>omega);rw[xP,<-d];refine⟨.ref s.heap.objs.size,_,I.laid (t':=s.toks) (o:=.lst (rS c e f)) .nE .o ?_,rfl,q _ .dJ⟩;exact⟨ZM (t7 c e f) m,_,0,(r.drop<|HT.sIx c.length 0 e).take (HT.sIx c.length c.length f-HT.sIx c.length 0 e),ZJ _ rfl⟩
noncomputable def pz:V->Bool
 |.non=>true
 |.bl _=>true
 |.int _=>true
 |.str _=>true
 |_=>false
noncomputable def eqV:V->V->Bool
 |.non,.non=>true
 |.bl a,.bl b=>a == b
 |.bl a,.int b=>(if a then 1 else 0) == b
 |.int a,.bl b=>a == (if b then 1 else 0)
 |.int a,.int b=>a == b
 |.str a,.str b=>a == b
 |_,_=>false
def S7(e:cw y u)(c:cw x v)(g:pz y=true)(f:pz x=true):SeqAt.EqAt A s u v (eqV y x):=by
 cases y with
 |non =>
  cases e;cases x with
  |non=>cases c;exact SeqAt.EqAt.same _
  |bl b=>cases c;exact SeqAt.EqAt.none_bool b
  |int b=>obtain⟨t,rfl⟩:=c;exact SeqAt.EqAt.none_int b t
  |str b=>obtain⟨t,rfl⟩:=c;exact SeqAt.EqAt.none_str b t
  |_=>exact .lY Z7
 |bl a =>
  cases e;cases x with
  |non=>cases c;exact SeqAt.EqAt.bool_none a
  |bl b=>cases c;exact SeqAt.EqAt.bool_bool a b
  |int b=>obtain⟨t,rfl⟩:=c;exact SeqAt.EqAt.bool_int a b t
  |str b=>obtain⟨t,rfl⟩:=c;exact SeqAt.EqAt.bool_str a b t
  |_=>exact .lY Z7
 |int a =>
  obtain⟨d,rfl⟩:=e;cases x with
  |non=>cases c;exact SeqAt.EqAt.int_none a d
  |bl b=>cases c;exact SeqAt.EqAt.int_bool a d b
  |int b=>obtain⟨t,rfl⟩:=c;exact zXm a d b t
  |str b=>obtain⟨t,rfl⟩:=c;exact SeqAt.EqAt.int_str a d b t
  |_=>exact .lY Z7
 |str a =>
  obtain⟨d,rfl⟩:=e;cases x with
  |non=>cases c;exact SeqAt.EqAt.str_none a d
  |bl b=>cases c;exact SeqAt.EqAt.str_bool a d b
  |int b=>obtain⟨t,rfl⟩:=c;exact SeqAt.EqAt.str_int a d b t
  |str b=>obtain⟨t,rfl⟩:=c;exact SeqAt.EqAt.str_str a d b t
  |_=>exact .lY Z7
 |_=>exact absurd (show false=true from g) Z7
/---/def eqU(x:V)(u:S1):Bool:=match u with
 |.none=>eqV .non x
 |.bool b=>eqV (.bl b) x
 |.int i _=>eqV .dp x
 |.str z _=>eqV (.str z) x
 |_=>false
def Mc(r:cw y u)(f:pz y=true):eqU x u=eqV y x:=by
 cases y with
 |non=>cases r;rfl
 |bl b=>cases r;rfl
 |int i=>obtain⟨t,rfl⟩:=r;rfl
 |str z=>obtain⟨t,rfl⟩:=r;rfl
 |_=>exact .lY Z7
theorem ql:∀{xs:List V} {us:List S1},bn xs us->xs.all pz=true->us.any .cM=xs.any λy=>eqV y x
 |_,_,.nil,_=>rfl
 |y::xs,u::us,.cons r t,f=>by
  rw[zZy,YB]at f;rw[zZz,zZz,Mc r f.1,ql t f.2]
theorem nH{x:V}{v:S1}(d:cw x v)(e:pz x=true):∀{xs:List V} {us:List S1},bn xs us->xs.all pz=true->∀u∈us,SeqAt.EqAt A s u v (eqU x u)
 |_,_,.nil,_=>λu c=>by cases c
 |y::xs,u::us,.cons r t,f=>λg c=>by
  rw[zZy,YB]at f;rcases xB.mp c with rfl|c
  ·rw[Mc r f.1];exact S7 r d f.1 e
  ·exact nH d e t f.2 g c
/---/def inV(x:V)(xs:List V):Bool:=xs.any λy=>eqV y x
/---/def rIn(K:ZX)(neg:Bool):R2:=λx y H Q=>∃p xs,y=.ref p/\(SqL K H p xs\/SqT K H p xs)/\pz x=true/\xs.all pz=true/\Q (.bl<|if neg then !inV x xs else inV x xs) H
def lA:.ae .tG (rIn X.K false):=by
 intro pins s σ H x y v u Q I i l h;obtain⟨p,m,rfl,d,j,e,q⟩:=h;cases l;rcases d with d|d
 ·obtain⟨c,r,f,k⟩:=I.list d
  refine SeqAt.in_listAt .cM f.isList .mw ⟨.bl _,H,I,rfl,?_⟩;rw[show c.toArray.any .cM=c.any .cM by simp,ql r e];exact q
 ·obtain⟨c,r,f,k⟩:=I.tuple d
  refine SeqAt.in_tupleAt .cM f .mw ⟨.bl _,H,I,rfl,?_⟩;rw[show c.toArray.any .cM=c.any .cM by simp,ql r e];exact q
def qm:.ae .nz (rIn X.K true):=by
 intro pins s σ H x y v u Q I i l h;obtain⟨p,m,rfl,d,j,e,q⟩:=h;cases l;rcases d with d|d
 ·obtain⟨c,r,f,k⟩:=I.list d
  refine SeqAt.notIn_listAt .cM f.isList .mw ⟨.bl _,H,I,rfl,?_⟩;rw[show c.toArray.any .cM=c.any .cM by simp,ql r e];exact q
 ·obtain⟨c,r,f,k⟩:=I.tuple d
  refine SeqAt.notIn_tupleAt .cM f .mw ⟨.bl _,H,I,rfl,?_⟩;rw[show c.toArray.any .cM=c.any .cM by simp,ql r e];exact q
def qo:gE X (.cu "len") (λxs H Q=>∃p ys,xs=.je/\.zh/\Q (.int ys.length) H):=by
 intro pins s σ H xs l Q I r h;obtain⟨p,ys,rfl,d,q⟩:=h;obtain⟨u,rfl,i⟩:=qj r;cases i;have k:=pK;rcases d with d|d
 ·obtain⟨g,f,e,j⟩:=I.list d
  have c:=f.length;exact Calls.call_len_list e.isList .kp ⟨.int ys.length,H,I.tok _,⟨s.toks+1,by rw[v3,c]⟩,q⟩
 ·obtain⟨g,f,e,j⟩:=I.tuple d
  have c:=f.length;exact len_tuple e .kp ⟨.int ys.length,H,I.tok _,⟨s.toks+1,by rw[v3,c]⟩,q⟩
def Aq:gE X (.cu "len") (λxs H Q=>∃z,xs=[.str z]/\z.length<=sizeLine/\Q (.int z.length) H):=by
 intro pins s σ H xs e Q I r h;obtain⟨z,rfl,d,q⟩:=h;obtain⟨u,rfl,t,rfl⟩:=qj r;have c:=pK;exact len_str .a ⟨.int z.length,H,I.tok _,⟨_,rfl⟩,q⟩
def Ar:gE X .pR (λxs H Q=>∃p ys,xs=.je/\.zh/\∀l,H l=none->Q .hc (.aA l .fU)):=by
 intro pins s σ H xs A Q I r h;obtain⟨p,ys,rfl,m,q⟩:=h;obtain⟨u,rfl,z⟩:=qj r;cases z;have fin:∀(c:List S1),bn ys c->ys.length<=sizeLine->∀(d:Heap) (f:Nat),(∀b y,s.heap.get? b=some y->d.get? b=some y)->
   d.get? s.heap.objs.size=some { cls:=.type "list",dict:=none,data:=.seq c.toArray f,slots := #[] }->EP X pins σ Q .dD { s with heap:=d }:=λc g k d f i e =>
  ⟨.ref s.heap.objs.size,_,I.laid (t':=s.toks) i .o (show fL X.prog X.w _ d _ .fU from ⟨k,c,f,g,e⟩),rfl,q _ .dJ⟩
 rcases m with m|m
 ·obtain⟨c,g,t,k⟩:=I.list m
  have j:=g.length;obtain⟨o,w,x,n,v⟩:=t.isList;exact call_list_seq p .a8 w x v .zw .kp
 ·obtain⟨c,g,t,k⟩:=I.tuple m
  have j:=g.length;obtain⟨o,w,x,n,v⟩:=t;exact call_list_seq p .dn w x v .zw .kp
def xQ:gE X (.type "tuple") (λxs H Q=>∃p ys,xs=.je/\((SqL X.K H p ys/\∀l,H l=none->Q .hc (.aA l .lu))\/(SqT X.K H p ys/\.c5 H))):=by
 intro pins s σ H xs w Q I r h;obtain⟨p,ys,rfl,h⟩:=h;obtain⟨u,rfl,t⟩:=qj r;cases t;rcases h with ⟨i,q⟩|⟨i,q⟩
 ·obtain⟨c,g,f,m⟩:=I.list i
  have j:=g.length;refine call_tuple_list f.isList (λd n=>?_) .kp;have k:Inv X pins σ H { s with heap:=d }:=I.kept (t':=s.toks) n;have v:Inv X pins σ (.aA d.objs.size .lu) { s with heap:=d.push { cls:=.type "tuple",data:=.seq c.toArray } } :=
   k.laid (t':=s.toks) .s4 .o (show fL X.prog X.w _ _ _ .lu from ⟨m,c,g,IsTup.new _ _⟩)
  exact⟨.ref d.objs.size,_,v,rfl,q _ (k.hok.fresh .o)⟩
 ·obtain⟨c,g,f,m⟩:=I.tuple i
  exact call_tuple_same f ⟨.ref p,H,I,rfl,q⟩
/---/def tyV(K:ZX)(T:String)(x:V)(H:Hp):Prop:=match x with
 |.str _=>T="str"
 |.int _=>T="int"
 |.ref p=>(T="list"/\∃xs,SqL K H p xs)\/(T="tuple"/\∃o,K.lookup p=some o/\o.cls=.type "tuple"/\o.dict=none)\/
   (T="dict"/\((∃kvs,H p=some .la)\/∃kvs,H p=some .jz))\/(T="set"/\∃S n,H p=some (.set S n))
 |_=>False
def S8{σ:St}(I:.p)(r:cw x v)(g:tyV X.K T x H):
  s.TypeIs v T/\∀a,v=.ref a->∃ob,s.heap.get? a=some ob/\ob.dict=none:=by
 cases x with
 |str z =>
  obtain⟨t,rfl⟩:=r;cases (show T="str" from g);exact⟨zXn s z t,λ_ e=>nomatch e⟩
 |int i =>
  obtain⟨t,rfl⟩:=r;cases (show T="int" from g);exact⟨typeIs_int s i t,λ_ e=>nomatch e⟩
 |ref p =>
  cases r;rcases g with ⟨rfl,u,q⟩|⟨rfl,o,d,m,h⟩|⟨rfl,d⟩|⟨rfl,S,n,d⟩
  ·obtain⟨l,_,k,_⟩:=I.list q
   refine⟨k.isList.typeIs,λa e=>?_⟩;cases e;obtain⟨o,n,e,c,h,_⟩:=k;exact⟨o,e,h⟩
  ·refine⟨⟨o,I.kIn p o d,m⟩,λa e=>?_⟩
   cases e;exact⟨o,I.kIn _ o d,h⟩
  ·have z:∃o,s.heap.get? p=some o/\o.ExactDict:=by
    rcases d with ⟨kvs,d⟩|⟨kvs,d⟩
    ·obtain⟨_,_,_,_,o,_,_,e,f,_⟩:=I.hok p _ d
     exact⟨o,e,f⟩
    ·obtain⟨_,_,_,_,o,_,_,e,f,_⟩:=I.hok p _ d
     exact⟨o,e,f⟩
   obtain⟨o,e,f⟩:=z;refine⟨⟨o,e,f.1⟩,λa j=>?_⟩;cases j;exact⟨o,e,f.2.1⟩
  ·obtain⟨o,_,_,_,e,f,_⟩:=I.hok p _ d
   refine⟨⟨o,e,f.1⟩,λa j=>?_⟩;cases j;exact⟨o,e,f.2.1⟩
 |_=>exact False.elim g
/---/def tBM(K:ZX)(T:String)(r:.o1)(to:TE)(t:TA):TE:=λσ H Q=>to σ H λx H1=>tyV K T x H1/\t σ H1 λxs H2=>r x xs H2 Q
variable{o e:Expr}{es:.aL}{to:TE}{t:TA}{name:Str}{apos cpos:Pos}{T id:String}{r:.o1}
def yF(q:PlainAttrs T)(slot:Slot T name id)(i:typeOf .e8=pure (.type "method_descriptor"))(hm:MtR X id r)(C:.w o to)(E:.ju)
  (f:autoParam (.eK name X.env .ce=eval o X.env) Q3Q._auto_1)
  (g:autoParam (((.jS<|.jD (e :: es)).all .e7 && (.su).all .e3
   && decide ((.fJ).length+([]:List Keyword).length+.l6<30))=true) Q3Q._auto_1)
  (d:autoParam (.rH=true) Q3Q._auto_1) (u:autoParam (.hN X.env=(false,.az X.env)::starEach es X.env) Q3Q._auto_1) (c:autoParam ((.jS .ml).any (·.1)=false) Q3Q._auto_1) :
  PE X (.Call (.dq name) .fJ [] cpos) (tBM X.K T r to t):=by
 intro pins s σ H Q I h;refine wpAny_Call_method_late f g d rfl (thn (C pins s σ H _ I h) λv p zz=>?_);obtain⟨x,F,j,k,m,q1⟩:=zz;obtain⟨y,G⟩:=S8 j k m;refine⟨T,id,q,slot,i,y,G,?_⟩;have l:=E cpos pins p σ F _ j q1;rw[u]at l⊢;refine Calls.callWith_builtin (by show (false||(.jS .ml).any (·.1))=false;rw[c]<;>rfl) (Calls.evalArgs_plain ?_);exact thn l λD z ⟨n,w,A,B,q2⟩=>hm pins z σ w x n v D Q A k B q2
end
/---/def MtM(X:Cx)(id:String)(r:.o1):Prop :=
 ∀(pins:.J) (s:P1) (σ:St) (H:Hp) (x:V) (xs:List V) (v:S1) (us:List S1) (Q:VK),Inv X pins σ H s->cw x v->bn xs us->r x xs H Q->
  wpAny .af X.A (call .e8 (v::us)) .bL X.xe s
def bn.one(h:bn [x] us):∃u,us=[u]/\cw x u:=by
 cases h with
 |cons r t=>cases t;exact⟨_,rfl,r⟩
def bn.two(h:bn [x,y] us):∃u v,us=[u,v]/\cw x u/\cw y v:=by
 cases h with
 |cons r t =>
  cases t with
  |cons q t=>cases t;exact⟨_,_,rfl,r,q⟩
theorem bn.rep(h:bn xs us):∀k:Nat,bn (.CR).flatten (.cr k us).flatten
 |0=>.nil
 |k+1=>by
  rw[XE,XE,wh,wh];exact bn.append h (bn.rep h k)
theorem yG(a:List S1):∀(k:Nat) (acc:List S1),
  List.foldl (λc b=>c++b) acc.toArray (.cr k a.toArray)=(acc++(.cr k a).flatten).toArray
 |0,acc=>by simp
 |k+1,acc=>by
  have e:acc.toArray++a.toArray=(acc++a).toArray:=by simp
  have d:(acc++a)++(.cr k a).flatten=acc++(.cr (k+1) a).flatten:=by
   rw[XE,wh,ZU]
  rw[<-d,<-yG a k (acc++a),<-e,XE,zZr]
section
variable{X:Cx}{pins:.J}{σ:St}{H:Hp}{s:P1}{l b:Addr}{xs ys zs:List V}
def Inv.lset{a its':List S1}(I:.p)(h:H l=some .cl)
  (e:s.heap.get? l=some { cls:=.type "list",data:=.seq a.toArray n }) (d:f a.toArray=its'.toArray) (i:bn ys its') (hz:.uH) :
  Inv X pins σ (.aA l .fU) { s with heap:=s.heap.update l (.hJ f),toks:=t' }:=by
 have q:=PySem.IsL.update e f;rw[d]at q;refine I.write (x:=l) (e:=l) (by rw[h];exact trivial) .a8 (λj u g c=>(zYl s.heap (.hJ f)<|XO g).trans c) ⟨_,q⟩ ?_;exact⟨hz,its',_,i,q⟩
def Inv.lnew(I:.p)(c:bn ys a)(hz:.uH):
  Inv X pins σ (.pY .fU) { s with heap:=s.heap.push { cls:=.type "list",data:=.seq a.toArray },toks:=t' } :=
 I.laid .s5 .o ⟨hz,a,0,c,ZJ _ rfl⟩
def Inv.fresh(I:.p):H s.heap.objs.size=none:=I.hok.fresh .o
def Inv.lstM(I:.p)(c:H l=some .cl):xs.length<=sizeLine/\∃(a:List S1) (n:Nat),bn xs a/\xs.length=a.length/\s.heap.get? l=some { cls:=.type "list",data:=.seq a.toArray n }:=by
 obtain⟨z,a,n,r,e⟩:=I.hok l _ c;exact⟨z,a,n,r,r.length,e⟩
def Cj(h:n<=sizeLine):Builtin.List.listTooLong n=false:=by
 unfold Builtin.List.listTooLong;exact xC .a
end
section
variable{X:Cx}
/---/def P0:V->List V->Hp->VK->Prop:=λx vs H Q=>∃l xs y,x=.ref l/\vs=[y]/\H l=some .cl/\xs.length<sizeLine/\Q .non (.aA l<|.lst<|xs++[y])
def yH:MtM X "list.append" P0:=by
 intro pins s σ H x g v m Q I c f h;obtain⟨l,k,y,rfl,rfl,b,j,q⟩:=h;cases c;obtain⟨u,rfl,d⟩:=f.one;obtain⟨z,a,n,r,i,e⟩:=I.lstM b;refine zXv F.slot_list_append ⟨_,e,rfl⟩ F.entry_list_append (F.args_list_append_2 _ _) (PySem.list_append l a.toArray n u (by rw[v3];omega)) ⟨e,?_⟩;refine⟨.non,_,I.lset (its':=a++[u]) b e .d (r.append<|.cons d .nil) ?_,rfl,q⟩;rw[ZB,List.length_singleton];omega
/---/def P3:V->List V->Hp->VK->Prop:=λx vs H Q=>∃l b xs zs,x=.ref l/\vs=[.ref b]/\H l=some .cl/\H b=some (.lst zs)/\xs.length+zs.length<=sizeLine/\Q .non (.aA l<|.lst<|xs++zs)
def yI:MtM X "list.extend" P3:=by
 intro pins s σ H x w v E Q I i k h;obtain⟨l,b,y,D,rfl,rfl,g,t,C,q⟩:=h;cases i;obtain⟨u,rfl,j⟩:=k.one;cases j;obtain⟨z,c,n,r,B,e⟩:=I.lstM g;obtain⟨A,a,n2,p,m,o⟩:=I.lstM t;have f:c.toArray.size+a.toArray.size<=sizeLine:=by rw[v3,v3];omega
 have d:¬(!c.toArray.isEmpty&&Builtin.List.listTooLong (c.toArray.size+a.toArray.size))=true:=by
  rw[Cj f,Bool.and_false];exact Z7
 refine zXv F.slot_list_extend ⟨_,e,rfl⟩ F.entry_list_extend (F.args_list_extend_2 _ _)
  (AutoSeq1.list_extend_list_list_0 l c.toArray n b a.toArray n2 d (by rw[v3];omega) .a) ⟨e,o,?_⟩
 refine⟨.non,_,I.lset (its':=c++a) g e .d (r.append p) ?_,rfl,q⟩;rw[ZB];omega
/---/def WO:R2:=λx y H Q=>∃l b xs zs,x=.ref l/\y=.ref b/\H l=some .cl/\H b=some (.lst zs)/\xs.length+zs.length<=sizeLine/\∀p,H p=none->.c5 (.br<|.lst<|xs++zs)
def S9:.ae .kQ WO:=by
 intro pins s σ H x y v u Q I d k h;obtain⟨l,b,p,B,rfl,rfl,o,m,A,q⟩:=h;cases d;cases k;obtain⟨z,c,n,r,w,e⟩:=I.lstM o;obtain⟨t,a,n2,j,f,g⟩:=I.lstM m;refine PySem.P.add_list e g ?_ (by rw[v3,v3];omega);have i:c.toArray++a.toArray=(c++a).toArray:=by simp
 rw[i];exact⟨.ref _,_,I.lnew (t':=s.toks) (r.append j) (by rw[ZB];omega),rfl,q _ I.fresh⟩
/---/def WP:R2:=λx y H Q=>∃l k xs,x=.ref l/\y=.int k/\H l=some .cl/\-(2^63)<=k/\k<2^63/\xs.length*k.toNat<=sizeLine/\
 ∀p,H p=none->.c5 (.br<|.lst (.cr k.toNat xs).flatten)
def P4{α:Type}(xs:List α)(k:Nat):(.CR).flatten.length=k*xs.length:=by
 induction k with
 |zero=>simp
 |succ k a=>rw[XE,wh,ZB,a,Nat.succ_mul,Nat.add_comm]
def Ta:.ae (binaryOp .Mult) WP:=by
 intro pins s σ H x y v u Q I A E h;obtain⟨l,k,K,rfl,rfl,G,B,J,p,q⟩:=h;cases A;obtain⟨t,rfl⟩:=E;obtain⟨z,b,n,r,D,e⟩:=I.lstM G;have d:b.toArray.size*k.toNat<=sizeLine:=by rw[v3,<-D];exact p
 have f:¬b.toArray.size*k.toNat>(2^63-1)/8:=by
  have:(sizeLine:Nat)<=(2^63-1)/8:=by decide
  omega
 have i:¬(!Builtin.List.listFitsIndex k)=true:=by
  rw[fitsIndex_both B J];exact Z7
 have c:¬Builtin.List.listTooLong (b.toArray.size*k.toNat)=true:=by
  rw[Cj d];exact Z7
 have g:List.foldl (λo j=>o++j) #[] (.cr (if b.toArray.isEmpty=true then 0 else k.toNat) b.toArray)=(.cr k.toNat b).flatten.toArray:=by
  have w:∀m:Nat,List.foldl (λo j=>o++j) #[] (.cr m b.toArray)=(.cr m b).flatten.toArray:=λm=>by
   have:=yG b m [];rw[List.nil_append]at this;exact this
  rw[w];cases b with
  |nil=>simp
  |cons a L=>rw[y3 .d]
 refine wpAny_binaryOp_repeat_ref (T := "list") (U := "int") .b ⟨_,e,rfl⟩ (λC=>typeIs_int C k t) noFill_list_mul F.fills_int_mul F.slot_int_rmul repeat_list F.slot_int_index.lookup
  (zXv F.slot_int_rmul (typeIs_int s k t) F.entry_int_rmul (F.args_int_rmul_2 _ _) (int___rmul___int_list k t l b.toArray n)
   ⟨e,rfl,⟨_,e,rfl⟩,zXv F.slot_list_mul ⟨_,e,rfl⟩ F.entry_list_mul (F.args_list_mul_2 _ _) (AutoListH.list___mul___list_int_3 l b.toArray n k t i f c) ⟨e,?_⟩⟩)
 rw[g];exact⟨.ref _,_,I.lnew (t':=s.toks) (r.rep k.toNat) (by rw[P4,Nat.mul_comm];exact p),rfl,q _ I.fresh⟩
end
section
variable{prog:N3}{w:N6}{A:P2}{E:.D}{s:P1}
end
section
variable{X:Cx}
end
end L2
namespace Att
open PySem PySem.W PySem.Calls PyProof.Rows
def uP:∀(ns:.c) (vs:List S1),WellAll P h vs (ns.map WData.int)->IntsAre vs ns:=by
 intro ns
 induction ns with
 |nil =>
  intro vs w;rw[X3]at w;cases w;exact .nil
 |cons n ns c =>
  intro vs w;rw[y6]at w;cases w with
  |cons a b =>
   cases a;exact .cons _ _ (c _ b)
def JO{l:OpenLaw}(m:l.most=some n)
  (c:l.row.toRowW.claim.pre args=true) (j:WellAll P h b args) :
  ∃a vs ns,b=[Value.ref a]/\args=[WData.list (ns.map WData.int)]/\h.get? a=some { cls:=.type "list",data:=.seq vs.toArray }/\IntsAre vs ns/\ns.length<=n:=by
 have i:WShape.hasAll [] args [.list .int]=true:=(pre_splitW c).1;have k:l.pre.holds [] { args:=args }=true:=(pre_splitW c).2;obtain⟨d,r,rfl,o,w⟩:=hasAllW_cons i;obtain rfl:=hasAllW_nil w;obtain⟨x,rfl,p⟩:=hasW_list o;obtain⟨ns,rfl⟩:=items_int p;have e:ns.length<=n:=by
  unfold OpenLaw.pre at k;have f:(WTm.not<|.lt (.lit<|.int (n:Int))<|.len<|.arg 0).holds [] { args:=[.list .cG] }=true:=by
   have f:=(holds_andW k).1;rw[m]at f;exact f
  have g:=condW_of f (w_not<|w_lt w_lit<|w_len_list<|w_arg rfl);rw[ZA]at g;refine zYz λq=>?_;have v:(n:Int)<((ns.length:Nat):Int):=by omega
  first
   |(rw[x3 v]at g;exact absurd g .b)
   |(simp at g;omega)
 cases j with
 |cons s u =>
  cases u;cases s with
  |list t hall=>exact⟨_,_,ns,rfl,rfl,t,uP ns _ hall,e⟩
def JP(l:OpenLaw)(args:List WData):l.row.toRowW.claim.post args .kT args=true :=
 postW_of (r:=l.row.toRowW) (X:=(true == true))
  (show WShape.has [] (.bool true) .bool=true by first|rfl|decide|simp[WShape.has,WShape.arms,WShape.armsAll])
  (show (WTm.eq .res<|.lit .kT).value [] { args:=args,res:=some .kT,after:=args }=some (.bool<|true == true) from w_eq_bool (w_res rfl) w_lit) rfl
def attach_call{l:OpenLaw}{XP:.uS}
  (D:l.most=some n) (s:.uD)
  (call:∀(w:N6) (s₀ b : P1) (mg u:.ap) (i:Addr) (o:Obj) (pm p g:S1) (a:Addr) (vs:List S1) (ns:.c),
   Ground q c [] XP w s₀ mg u b.heap->x w b.heap->
   b.heap.get? i=some o->o.data=.func (docDef d.name d.params d.body d.scope pm p g)->b.heap.CodeRec p d.name->mg d.name=some (.ref i)->
   b.heap.get? a=some { cls:=.type "list",data:=.seq vs.toArray }->IntsAre vs ns->ns.length<=n->b.gens = #[]->
   codeAny (model l.prog w) callerA (.call (.ref i) ⟨[.ref a],[]⟩) (λr m=>r=.ok (.ret .kT)/\OldK b.heap m.heap/\m.os=b.os/\AllBare m.gens) b) :
  WalkO q c XP x l.row.toRowW d [] .rR:=by
 intro w s₀ b mg u G Y i o pm p g K kV L J t A hmg C B y P j z F v I;obtain rfl:K=.none:=Dflts.none A s;obtain rfl:kV=.none:=Dflts.noKw A;obtain⟨a,vs,ns,rfl,rfl,k,e,h⟩:=JO D j v;refine enter_call (zYy (call w s₀ b mg u i o pm p g a vs ns G Y L (fd_plain J) t hmg k e h C) λr m N=>?_);obtain⟨rfl,M,H,E⟩:=N;exact⟨.inl ⟨.bool true,.bool true,[],rfl,λ_=>rfl,.bool true,JP l _,λ_=>⟨List.Pairwise.nil,λ_ O=>(nomatch O)⟩⟩,M,H,E⟩
section
variable{prog:N3}{w:N6}{A:P2}{E:.D}{s:P1}{K:Frag}
/---/def noObjs(h:Heap):Heap:={ h with objs := #[] }
def noObjs_get(h:Heap)(b:Addr):(noObjs h).get? b=none:=by
 cases e:(noObjs h).get? b with
 |none=>rfl
 |some o=>exact absurd .dh (UO _)
/---/def ledger(h:Heap)(L d:Addr):List .eO:=(.r0).filterMap λa=>if a=L\/a=d then none else (h.get? a).map λo=>(a,o)
def mem_ledger:(a,o)∈ledger h L d↔a≠L/\a≠d/\h.get? a=some o:=by
 unfold ledger;rw[XX];constructor
 ·rintro⟨b,_,e⟩
  split at e
  ·cases e
  ·rename_i f
   obtain⟨i,c,g⟩:=Option.map_eq_some_iff.mp e;cases g;exact⟨λq=>f (.inl q),λq=>f (.inr q),c⟩
 ·rintro⟨n1,n2,c⟩
  refine⟨a,YU.mpr (ZI c),?_⟩;rw[y3 (show ¬(a=L\/a=d) from λq=>q.elim n1 n2),c]<;>rfl
def fr_all(n:h.Ns L m):Fr (noObjs h) L h m :=
 ⟨n,λb o e=>(by rw[noObjs_get]at e;cases e),YR _⟩
end
end Att
namespace L2
open PySem PySem.Spec PyProof.Rows
theorem yJ:∀{vs:List S1} {ns:.c},IntsAre vs ns->bn .bN vs
 |_,_,.nil=>.nil
 |_,_,.cons n t h=>.p4 (yJ h)
/---/def Tb(H:Hp):Prop:=∀b,H b=none\/∃o xs,H b=some (.frz o .cl)
def Me{K:ZX}{x:Str}{sp:Sp}{c:P1}{vs:List S1}{ns:.c}
  (KX:K.In c.heap) (B:c.heap.Ns mainGlobals mg) (g:c.heap.Ns builtinsNs M) (S:∀x:Str,x≠"__name__"->M x=bootBuiltins x) (A:c.heap.NoLimit) (hg:c.gens = #[])
  (I:c.heap.get? a=some { cls:=.type "list",data:=.seq vs.toArray }) (hi:IntsAre vs ns) (T:ns.length<=sizeLine) (hr:gF k callerA)
  (F:∀base:Heap,K.In base->base.Ns mainGlobals mg->.eJ CX k O fd [x] sp) (p:∀(s:P1) (u:S1),.jR ⟨[u],[]⟩ [(x,u)])
  (N:∀H:Hp,Tb H->SqL K H a .bN->sp .bQ H (λv _=>v=.bl true) λ_ _ _=>False)
  (Q:∀H e i,CX [] H c (λ_ _ _=>False) e i->False) :
  codeAny .fO callerA .yX .vL c := by
 have U:=yJ hi;have D:=hi.length;have l:∀H:Hp,Tb H->SqL K H a .bN->HOk P w H c.heap->(∀b,H b≠none->b=a)->(H a≠none->K.lookup a=none)->
   codeAny .fO callerA .yX .vL c := by
  intro H Y hS hok X hK;have f:∀{b:Addr} {o:Obj},c.heap.get? b=some o->H b=none->(.k3).get? b=some o:=λe n=>LJ e n;have R:∀{b:Addr} {o:Obj} {C:Array DictEntry} {G:Nat},c.heap.get? b=some o->o.data=.dict C G->H b=none:=λ{b o C G} e d=>by
   cases q:H b with
   |none=>rfl
   |some u =>
    have L:b=a:=X b .nN;subst L;rw[I]at e;cases e;have d':Data.seq vs.toArray _=Data.dict C G:=d;cases d'
  have j:∀{b:Addr} {m:.ap},c.heap.Ns b m->(.k3).Ns b m:=λ{b m} ⟨o,C,G,e,d,r⟩=>⟨o,C,G,f e (R e d),d,r⟩;have E:K.In .k3:=λb o e=>f (KX b o e) (by
   cases q:H b with
   |none=>rfl
   |some u =>
    have L:b=a:=X b .nN;subst L;rw[hK .nN]at e;cases e)
  have hM:Mod K mg .k3:=⟨E,j B,⟨M,j g,S⟩,let ⟨mc,h1,h2⟩:=A;⟨mc,j h1,h2⟩⟩;have e0:Fe P w K mg .k3 callerA [] c H:=⟨rfl,hM,λb o e=>Pu e,zYx (JB _ _),trivial,λb g=>absurd (show b∈([]:List Addr) from g) .d,hok,.of_eq hg⟩;refine zYy ((F _ E<|j B).run callerA [] c H ⟨[.ref a],[]⟩ .bQ .bQ _ _ hr e0 (p c .bu) (.cons rfl .nil) (N H Y hS)) λr i h=>?_;cases r with
  |error e=>exact(Q H e i h).elim
  |ok fl =>
   cases fl with
   |next=>exact False.elim h
   |brk=>exact False.elim h
   |cont=>exact False.elim h
   |ret u =>
    obtain⟨v,H',os,bare,W,y,r',q⟩:=h;have q':v=.bl true:=q;subst q';obtain rfl:u=Value.bool true:=r';refine⟨rfl,OldK.of_keep λb o e=>?_,os,bare⟩;cases q:H b with
    |none=>exact W.keep b o e q (by intro z;exact absurd (show b∈([]:List Addr) from z) .d) .d
    |some u =>
     rcases Y b with z|⟨ob,xs,z⟩
     ·rw[q]at z;cases z
     ·have z2:=W.frzs b ob _ z
      obtain⟨Z,_⟩:=hok b _ z;obtain⟨e2,_⟩:=y b _ z2;rw[e]at Z;cases Z;exact e2
 cases J:K.lookup a with
 |some o =>
  have e:=KX a o J;rw[I]at e;cases e;refine l (λ_=>none) (λ_=>.inl rfl) (.inr ⟨_,vs.toArray,_,J,rfl,rfl,rfl,by rw[v3,D];exact T,by simpa using U⟩) (λb u z=>by have t:(none:Option HO)=some u:=z;cases t) (λb z=>absurd rfl z) λz=>absurd rfl z
 |none =>
  refine l (λb=>if b=a then some (.frz { cls:=.type "list",data:=.seq vs.toArray } (.lst .bN)) else none) (λb=>?_) (.inl<|.inr ⟨{ cls:=.type "list",data:=.seq vs.toArray },z4 rfl⟩) (λb u z=>?_) (λb z=>?_) λ_=>J
  ·by_cases g:b=a
   ·exact .inr ⟨_,_,z4 g⟩
   ·exact .inl (y3 g)
  ·by_cases g:b=a
   ·have t:=(z4 g).symm.trans z
    cases t;subst g;exact⟨I,by rw[ZA];exact T,vs,_,U,I⟩
   ·have t:=(y3 g).symm.trans z
    cases t
  ·by_cases g:b=a
   ·exact g
   ·exact absurd (y3 g) z
def P5{l:PySem.W.OpenLaw}{XP:.uS}{K:Params->ZX}{CX:N6->CXT}{sp:N6->Sp}{x:Str}
  (D:l.most=some n) (y:n<=sizeLine) (p:.uD) (L:gF k callerA)
  (P:∀(w:N6) (h:Heap),A w h->(.db).In h)
  (F:∀(w:N6) (mg:.ap) (m:Addr) (h:Heap),(.db).In h->h.Ns mainGlobals mg->mg d.name=some (.ref m)->
   ∃fd:FuncData,(∀(s:P1) (u:S1),.jR ⟨[u],[]⟩ [(x,u)])/\
    ∀base:Heap,(.db).In base->base.Ns mainGlobals mg->ie l.prog w .db mg base (CX w) k m fd [x] (sp w))
  (t:∀(w:N6) (H:Hp) (a:Addr) (ns:.c),ns.length<=n->Tb H->SqL .db H a .bN->sp w .bQ H (λv _=>v=.bl true) λ_ _ _=>False)
  (z:∀(w:N6) (H:Hp) (s:P1) (e:S1) (r:P1),CX w [] H s (λ_ _ _=>False) e r->False) :
  PySem.W.WalkO q g XP A l.row.toRowW d [] .rR:=by
 refine Att.attach_call D p λw B i mg R m o U Q J a vs ns G Y T S E hmg j c b C=>?_;have KX:=P w _ Y;obtain⟨fd,M,I⟩:=F w mg m _ KX G.T.g hmg;exact Me KX G.T.g G.T.b G.T.builtins G.T.nolimit C j c (ZM b y) L I M (λH O N=>t w H a ns b O N) λH e r=>z w H i e r
/---/def fN(s:Stmt):Arguments:=match s with
 |.FunctionDef _ a _ _ _ _ _ _ _ _=>a
 |_=>{ posonlyargs:=[],args:=[],vararg:=none,kwonlyargs:=[],kw_defaults:=[],kwarg:=none,defaults:=[] }
/---/def dP(s:Stmt):List Stmt:=match s with
 |.FunctionDef _ _ b _ _ _ _ _ _ _=>b
 |_=>[]
/---/def bC(s:Stmt):Scope:=match s with
 |.FunctionDef _ _ _ _ _ _ sc _ _ _=>sc
 |_=>{ kind:=.function,names:=[],isGenerator:=false,isCoroutine:=false }
noncomputable abbrev CX0:CXT:=λ_ _ _ _ _ _=>False
noncomputable abbrev E0:XK:=λ_ _ _=>False
def Mf:rP CX0 X E0:=λ_ _ _ _ _ _ _ h=>h.elim
structure Fun(K:ZX)(x qual:Str)(st:Stmt)(f:Addr)(fd:.gc):Prop where
 ex:∃(oc:S1) (od:.co) (kV doc pm:S1) (an:.co) (cdv ct:S1) (osl:.ga),
  fd=PySem.W.fnOf x qual .nh .g1 .c9 .none kV doc pm an cdv ct/\K.lookup f=some ⟨oc,od,.func fd,osl⟩/\.hM cdv qual=true
 kp:.dv .ak=true
section
variable{P:N3}{w:N6}{K:ZX}{mg:.ap}{base:Heap}
def Fun.ok{st:Stmt}{N ps:.aq}(F:Fun K x a st f fd)(S:fM N ps .c9)(len:.Da)
  (c:∀(b:S1) (A:P2) (outer:.d2) (s:P1) (H:Hp) (vs:List V) (Q:VK) (E:XK),gF k (A.deeper<|envOfC a .c9 s.heap.objs.size f b)->sp vs H Q E->
   ∃t,PSs (An CX0 P w K mg base N a .c9 f b A outer s H E).nox .g1 t/\t { nx:=λ_ g=>Q .non g,rt:=Q } .lp H):.eJ CX0 (k+1) f fd ps sp:=by
 obtain⟨o,n,kV,i,p,r,b,u,j,rfl,m,d⟩:=F.ex;refine Vk m d S len λA outer s H vs Q E l e=>?_;obtain⟨t,h,q⟩:=c b A outer s H vs Q E l e;exact⟨t,h.nox,q⟩
def Fun.binds{st:Stmt}(F:Fun K x a st f fd)
  (h:∀(kV b pm:S1) (d:.co) (c ct:S1) (us:List S1),us.length=ps.length->bindArgs (PySem.W.fnOf x a .nh .g1 .c9 .none kV b pm d c ct) ⟨us,[]⟩=pure .iY):jU K fd ps []:=by
 obtain⟨k,i,kV,b,pm,d,c,ct,e,rfl,j,g⟩:=F.ex;exact .all (h kV b pm d c ct)
def As{st:Stmt}{kV d pm b ct:S1}(l:K.lookup f=some ⟨i,h,.func .wq,e⟩)
  (c:.hM b a=true) (k:.uw):Fun K x a st f .wq:=⟨⟨i,h,kV,d,pm,g,b,ct,e,rfl,l,c⟩,k⟩
end
section
variable{X:Cx}
end
/---/def kR(H H':Hp):Prop:=∀b o,H b=some o->H' b=some o
def kR.refl(H:Hp):kR H H:=λ_ _ h=>h
end L2
namespace L2
open PySem PySem.Spec
structure WQ(h:Heap)(a D:Addr)(o:Obj):Prop where
 at_:h.get? a=some o
 cls:o.cls=.ref D
/---/def RZ(a C:Addr):HO:=.ext λh=>∃o,WQ h a C o
end L2
namespace Fm
open PySem PySem.Spec L2
/---/def toS(x:.i):Str:=⟨x.toArray⟩
/---/def t8(K:ZX)(H:Hp)(a:Addr)(xs:List V):Prop :=
 (∃o,H a=some (.frz o .cl))\/
  ∃(o:Obj) (its:.bp) (n:Nat),K.lookup a=some o/\o.cls=.type "list"/\o.dict=none/\o.data=.seq its n/\its.size<=sizeLine/\bn xs its.toList
/---/def Tc(K:ZX)(p:Addr)(vs:List V):Prop:=∃(o:Obj) (its:.bp) (n:Nat),K.lookup p=some o/\o.cls=.type "tuple"/\o.data=.seq its n/\its.size<=sizeLine/\bn vs its.toList
/---/def Au(vs:List V):List .dQ:=vs.map λv=>(Str.ofString "web",v)
section
variable(K:ZX)(ρ:.I)(H:Hp)
mutual
noncomputable def RD:D->V->Prop
 |.non,v=>v=.non
 |.bl b,v=>v=.bl b
 |.int i,v=>v=.int i
 |.str x,v=>v=.str (toS x)
 |.tup l,v=>∃p vs,v=.ref p/\H p=some (.tup vs)/\RDs l vs
 |.lit l,v=>∃p vs,v=.ref p/\t8 K H p vs/\RDs l vs
 |.ref n,v=>∃a,ρ[n]?=some a/\v=.ref a
 |.exn c l,v=>(c≠""/\l=[]/\∃a C,v=.ref a/\H a=some (RZ a C)/\.cx .ts=some (some<|.ref C))\/(c=""/\∃p vs,v=.ref p/\Tc K p vs/\RDs l vs)
noncomputable def RDs:List D->List V->Prop
 |[],vs=>vs=[]
 |d::ds,vs=>∃v r,vs=v::r/\RD d v/\RDs ds r
end
noncomputable def RC:bJ->Addr->Prop
 |.lst l,a=>∃vs,H a=some (.lst vs)/\.aw l vs
 |.dct l,a=>∃kvs,H a=some (.dK kvs)/\kvs.map (·.1)=l.map .eS/\.aw .b6 (kvs.map (·.2))
 |.dcT l,a=>∃kvs,H a=some .jz/\kvs.map (·.1)=l.map (λp=>p.1.map λi=>(Sum.inl i:Key))/\.aw .b6 (kvs.map (·.2))
 |.ob l,a=>∃vs C dx,H a=some (.ins C dx<|Au vs)/\RDs K ρ H l vs/\.cx .m4=some (some<|.ref C)
structure RH(hd:Hd):Prop where
 len:ρ.length=hd.length
 nd:ρ.Nodup
 cel:∀(n:Nat) c a,hd[n]?=some c->ρ[n]?=some a->RC K ρ H c a
structure RSt(σd:Sd)(σ:St):Prop where
 len:σd.length=σ.length
 at':∀i d,slot σd i=some d->∃v,σ[i]?=some .dR/\.bF d v
structure RS(σd:Sd)(hd:Hd)(σ:St):Prop where
 hp:RH K ρ H hd
 st:RSt K ρ H σd σ
end
structure Ext(ρ:.I)(H:Hp)(ρ':.I)(H':Hp):Prop where
 pre:∃t,ρ'=ρ++t
 new:∀a∈ρ',a∈ρ\/H a=none
 frame:∀p o,H p=some o->p∉ρ->H' p=some o
variable{vs:List V}{d:D}{l:List D}
def Ext.refl:.bX ρ H:=⟨⟨[],by simp⟩,λ_ h=>.inl h,λ_ _ h _=>h⟩
def Ext.out(e:.pv)(h:H p=some o)(n:p∉ρ):p∉ρ':=λz=>by
 rcases e.new p z with q|q
 ·exact n q
 ·rw[h]at q;cases q
theorem Ext.trans(a:.bX ρ' g)(b:Ext ρ' g ρ'' c):Ext ρ H ρ'' c where
 pre:=by
  obtain⟨t,rfl⟩:=a.pre;obtain⟨u,rfl⟩:=b.pre;exact⟨t++u,by simp⟩
 new:=λx f=>by
  rcases b.new x f with q|q
  ·exact a.new x q
  ·cases e:H x with
   |none=>exact .inr rfl
   |some o =>
    by_cases d:x∈ρ
    ·exact .inl d
    ·rw[a.frame x o e d]at q;cases q
 frame:=λp o h n=>b.frame p o (a.frame p o h n) (a.out h n)
def Ext.same(s:kR H a):.bX ρ a:=⟨⟨[],by simp⟩,λ_ h=>.inl h,λp o h _=>s p o h⟩
def Ext.get(e:.bX ρ' b){n:Nat}(h:ρ[n]?=some a):ρ'[n]?=some a:=by
 obtain⟨t,rfl⟩:=e.pre;rw[ZC (z0.mp h).1];exact h
def RH.mut(r:.aP)(h:a∈ρ):(∃vs,H a=some .g7)\/(∃b,H a=some .fk)\/(∃b,H a=some (.dT b))\/∃C dx g,H a=some (.ins C dx g):=by
 obtain⟨n,f⟩:=zYu h;have d:=(.lo).1;have i:hd[n]?=some (hd[n]' .Bg):=by simp
 have q:=r.cel n _ a i f;cases e:hd[n]' .Bg with
 |lst l=>rw[e]at q;obtain⟨vs,c,_⟩:=q;exact .inl ⟨vs,c⟩
 |dct l=>rw[e]at q;obtain⟨vs,c,_⟩:=q;exact .inr (.inl ⟨vs,c⟩)
 |dcT l=>rw[e]at q;obtain⟨vs,c,_⟩:=q;exact .inr (.inr<|.inl ⟨vs,c⟩)
 |ob l=>rw[e]at q;obtain⟨vs,C,dx,c,_⟩:=q;exact .inr (.inr<|.inr ⟨C,dx,_,c⟩)
def RH.noTup(r:.aP)(h:H a=some .fQ):a∉ρ:=λz=>by
 rcases r.mut z with ⟨_,q⟩|⟨_,q⟩|⟨_,q⟩|⟨_,_,_,q⟩<;>(rw[h]at q;cases q)
def RH.noFrz(r:.aP)(h:H a=some .fT):a∉ρ:=λz=>by
 rcases r.mut z with ⟨_,q⟩|⟨_,q⟩|⟨_,q⟩|⟨_,_,_,q⟩<;>(rw[h]at q;cases q)
def RH.noExt(r:.aP)(h:H a=some (.ext b)):a∉ρ:=λz=>by
 rcases r.mut z with ⟨_,q⟩|⟨_,q⟩|⟨_,q⟩|⟨_,_,_,q⟩<;>(rw[h]at q;cases q)
structure Kp(ρ:.I)(H:Hp)(ρ':.I)(H':Hp):Prop where
 get:∀(n:Nat) a,ρ[n]?=some a->ρ'[n]?=some a
 tup:∀a vs,H a=some .fQ->H' a=some .fQ
 frz:∀a o u,H a=some .fT->H' a=some .fT
 ext:∀a φ,H a=some (.ext φ)->H' a=some (.ext φ)
def RH.kp(r:.aP)(e:.pv):Kp ρ H ρ' a :=
 ⟨λ_ _ h=>e.get h,λ_ _ h=>e.frame _ _ h (r.noTup h),λ_ _ _ h=>e.frame _ _ h (r.noFrz h),λ_ _ h=>e.frame _ _ h (r.noExt h)⟩
def Kp.same(s:kR H a):.bY ρ a:=⟨λ_ _ h=>h,λ_ _ h=>s _ _ h,λ_ _ _ h=>s _ _ h,λ_ _ h=>s _ _ h⟩
def t8.mono(k:.bY ρ' b)(h:t8 K H a xs):t8 K b a xs:=by
 rcases h with ⟨o,h⟩|h
 ·exact .inl ⟨o,k.frz _ _ _ h⟩
 ·exact .inr h
mutual
theorem RD.mono(k:.bY ρ' g):∀{d:D} {v:V},RD K ρ H d v->RD K ρ' g d v
 |.non,_,h=>by dsimp[RD]at h⊢;exact h
 |.bl _,_,h=>by dsimp[RD]at h⊢;exact h
 |.int _,_,h=>by dsimp[RD]at h⊢;exact h
 |.str _,_,h=>by dsimp[RD]at h⊢;exact h
 |.tup l,_,h=>by
  dsimp[RD]at h⊢;obtain⟨p,vs,e,h1,b⟩:=h;exact⟨p,vs,e,k.tup _ _ h1,RDs.mono k b⟩
 |.lit l,_,h=>by
  dsimp[RD]at h⊢;obtain⟨p,vs,e,h1,b⟩:=h;exact⟨p,vs,e,h1.mono k,RDs.mono k b⟩
 |.ref n,_,h=>by
  dsimp[RD]at h⊢;obtain⟨a,h1,b⟩:=h;exact⟨a,k.get _ _ h1,b⟩
 |.exn _ l,_,h=>by
  dsimp[RD]at h⊢;rcases h with ⟨f,c,a,C,e,h1,b⟩|⟨c,p,vs,e,h1,b⟩
  ·exact .inl ⟨f,c,a,C,e,k.ext _ _ h1,b⟩
  ·exact .inr ⟨c,p,vs,e,h1,RDs.mono k b⟩
theorem RDs.mono(k:.bY ρ' b):∀{l:List D} {vs:List V},RDs K ρ H l vs->RDs K ρ' b l vs
 |[],_,h=>by dsimp[RDs]at h⊢;exact h
 |d::ds,_,h=>by
  dsimp[RDs]at h⊢;obtain⟨v,r,e,h1,a⟩:=h;exact⟨v,r,e,RD.mono k h1,RDs.mono k a⟩
end
def RDs.nil:.aw [] []:=by dsimp[RDs]
def RDs.cons(h:.dY)(t:.aw ds vs):.aw (d::ds) (v::vs):=by
 dsimp[RDs];exact⟨v,vs,rfl,h,t⟩
theorem RDs.length:∀{l:List D} {vs:List V},RDs K ρ H l vs->l.length=vs.length
 |[],_,h=>by dsimp[RDs]at h;subst h;rfl
 |d::ds,_,h=>by
  dsimp[RDs]at h;obtain⟨v,r,e,h1,a⟩:=h;subst e;simp[RDs.length a]
theorem RDs.get:∀{l:List D} {vs:List V} {i:Nat} {d:D},RDs K ρ H l vs->l[i]?=some d->∃v,vs[i]?=some v/\.bF d v
 |[],_,i,_,_,e=>by simp at e
 |d::ds,_,0,_,h,e=>by
  dsimp[RDs]at h;obtain⟨v,r,a,h1,b⟩:=h;subst a;simp at e;subst e;exact⟨v,rfl,h1⟩
 |d::ds,_,i+1,x,h,e=>by
  dsimp[RDs]at h;obtain⟨v,r,a,h1,b⟩:=h;subst a;obtain⟨w,c,q⟩:=RDs.get b .em;exact⟨w,by simpa using c,q⟩
theorem RDs.set{d:D}(h:.dY):∀{l:List D} {vs:List V} (i:Nat),RDs K ρ H l vs->.aw (l.set i d) (vs.set i v)
 |[],_,_,q=>by dsimp[RDs]at q;subst q;exact RDs.nil
 |x::xs,_,i,q=>by
  dsimp[RDs]at q;obtain⟨w,r,e,h1,a⟩:=q;subst e;cases i with
  |zero=>exact RDs.cons h a
  |succ i=>exact RDs.cons h1 (RDs.set h i a)
theorem RDs.append:∀{l b:List D} {vs a:List V},RDs K ρ H l vs->RDs K ρ H b a->.aw (l++b) (vs++a)
 |[],_,_,_,h,q=>by dsimp[RDs]at h;subst h;exact q
 |d::ds,_,_,_,h,q=>by
  dsimp[RDs]at h;obtain⟨v,r,e,h1,c⟩:=h;subst e;exact RDs.cons h1 (RDs.append c q)
theorem RDs.take:∀{l:List D} {vs:List V} (n:Nat),RDs K ρ H l vs->.aw (l.take n) (vs.take n)
 |_,_,0,_=>by simp;exact RDs.nil
 |[],_,n+1,h=>by dsimp[RDs]at h;subst h;exact RDs.nil
 |d::ds,_,n+1,h=>by
  dsimp[RDs]at h;obtain⟨v,r,e,h1,a⟩:=h;subst e;exact RDs.cons h1 (RDs.take n a)
theorem RDs.drop:∀{l:List D} {vs:List V} (n:Nat),RDs K ρ H l vs->.aw (l.drop n) (vs.drop n)
 |_,_,0,h=>by simpa using h
 |[],_,n+1,h=>by dsimp[RDs]at h;subst h;exact RDs.nil
 |d::ds,_,n+1,h=>by
  dsimp[RDs]at h;obtain⟨v,r,e,h1,a⟩:=h;subst e;simpa using RDs.drop n a
def RC.mono(k:.bY ρ' i)(e:i a=H a)(h:RC K ρ H c a):RC K ρ' i c a:=by
 cases c with
 |lst l=>obtain⟨b,d,f⟩:=h;exact⟨b,e.trans d,f.mono k⟩
 |dct l=>obtain⟨b,d,f,g⟩:=h;exact⟨b,e.trans d,f,g.mono k⟩
 |dcT l=>obtain⟨b,d,f,g⟩:=h;exact⟨b,e.trans d,f,g.mono k⟩
 |ob l=>obtain⟨b,C,j,d,f,g⟩:=h;exact⟨b,C,j,e.trans d,f.mono k,g⟩
def RH.same(r:.aP)(s:kR H e):RH K ρ e hd :=
 ⟨r.len,r.nd,λn c a d b=>(r.cel n c a d b).mono (.cv s) (by
  rcases r.mut (ZK b) with ⟨_,q⟩|⟨_,q⟩|⟨_,q⟩|⟨_,_,_,q⟩<;>rw[q,s _ _ q])⟩
def RSt.mono(k:.bY ρ' c)(r:RSt K ρ H σd σ):RSt K ρ' c σd σ :=
 ⟨r.len,λi d h=>let ⟨v,a,b⟩:=r.at' i d h;⟨v,a,b.mono k⟩⟩
def RS.same(r:.jk)(s:kR H a):RS K ρ a σd hd σ:=⟨r.hp.same s,r.st.mono (.cv s)⟩
def cA(h:H p=none):kR H (.br o):=λb u e=>by
 rw[aS (cr e h)];exact e
def RH.alloc(r:.aP)(hp:H p=some .g7)(i:p∉ρ)(h:.fm):RH K .fe H (hd++[.lst l]):=by
 have k:.bY .fe H:=⟨λn a e=>by rw[ZC (.dS).1];exact e,λ_ _ h=>h,λ_ _ _ h=>h,λ_ _ h=>h⟩;refine⟨by simp[r.len],?_,λn c a d f=>?_⟩
 ·rw[X4]
  exact⟨r.nd,by simp,λa j b g=>by simp at g;subst g;intro e;subst e;exact i j⟩
 ·by_cases hlt:n<hd.length
  ·rw[ZC hlt]at d
   rw[ZC .m8]at f;exact (.s7).mono k rfl
  ·have m:n=hd.length:=by
    have:=(z0.mp d).1;simp at this;omega
   subst m;simp at d;subst d;rw[<-r.len]at f;simp at f;subst f;exact⟨vs,hp,h.mono k⟩
theorem nJ{α:Type}:∀{l:List α},l.Nodup->∀{i j:Nat} {x:α},l[i]?=some x->l[j]?=some x->i=j
 |[],_,i,_,_,e,_=>by simp at e
 |a::l,nd,0,0,_,_,_=>rfl
 |a::l,nd,0,j+1,x,e,b=>by
  simp at e b;subst e;exact absurd (ZK b) (.hb).1
 |a::l,nd,i+1,0,x,e,b=>by
  simp at e b;subst b;exact absurd (ZK e) (.hb).1
 |a::l,nd,i+1,j+1,x,e,b=>by
  simp at e b;rw[nJ (.hb).2 e b]
def RH.write(r:.aP)(hp:.px)(g:n<hd.length)(h:.fm):RH K ρ (.br .g7) (hd.set n .dH):=by
 have k:.bY ρ (.br .g7):=by
  have f:=ZK hp;refine⟨λ_ _ h=>h,λa j e=>?_,λa o u e=>?_,λa i e=>?_⟩
  ·rw[aS (λz=>r.noTup e .sT)];exact e
  ·rw[aS (λz=>r.noFrz e .sT)];exact e
  ·rw[aS (λz=>r.noExt e .sT)];exact e
 refine⟨by simp[r.len],r.nd,λm c a b d=>?_⟩
 by_cases e:n=m
 ·subst e
  rw[x4 g]at b;cases b;rw[hp]at d;cases d;exact⟨vs,bw,h.mono k⟩
 ·rw[ZP e]at b
  have ne:a≠p:=λz=>by
   subst z;exact e (nJ r.nd hp d)
  exact(r.cel m c a b d).mono k (aS ne)
def Ext.write(hp:p∈ρ):Ext ρ H ρ (.br o) :=
 ⟨⟨[],by simp⟩,λ_ h=>.inl h,λq u e n=>by rw[aS (λz=>n (by rw[z];exact hp))];exact e⟩
def Ext.alloc(h:H p=none):Ext ρ H .fe (.br o) :=
 ⟨⟨[p],rfl⟩,λa b=>by
  rcases Z1.mp b with q|q
  ·exact .inl q
  ·simp at q;subst q;exact .inr h,λq u e _=>cA h q u e⟩
def RS.ext(r:.jk)(e:.pv)(h:RH K ρ' a hd'):RS K ρ' a σd hd' σ:=⟨h,r.st.mono (r.hp.kp e)⟩
noncomputable abbrev VR(α β:Type):=List Addr->Hp->α->β->Prop
section
variable(K:ZX)
/---/def bP{α β:Type}(R:VR α β)(ρ:.I)(H:Hp)(σd:Sd)(σ:St)(r:Res α)(Q:.jq):Prop:=match r with
 |.ok a hd'=>∀b H' ρ',Ext ρ H ρ' H'->RS K ρ' H' σd hd' σ->R ρ' H' a b->Q b H'
 |_=>False
/---/def nB{α β:Type}(R:VR α β)(f:Sd->Hd->Res α):St->Hp->(β->Hp->Prop)->Prop:=λσ H Q =>
 ∃ρ σd hd,RS K ρ H σd hd σ/\bP K R ρ H σd σ .i6 Q
noncomputable abbrev rD:VR D V:=λρ H d v=>.bF d v
noncomputable abbrev rDs:VR .f1 (List V):=λρ H d v=>.aw d v
noncomputable abbrev rB:VR Bool Bool:=λ_ _ a b=>a=b
noncomputable abbrev rO:VR .gt .gt:=λ_ _ a b=>a=b
/---/def rQ:VR .f1 V:=λρ H l v=>∃p vs,v=.ref p/\.zV/\.aw l vs
/---/def Ck(ρ:.I)(H:Hp)(σd:Sd)(σ:St)(r:Res .f1)(Q:VK):Prop:=match r with
 |.ok l hd'=>∀q vs H' ρ',Ext ρ H ρ' H'->RS K ρ' H' σd hd' σ->H q=none->H' q=some (.lst vs)->q∉ρ'->RDs K ρ' H' l vs->Q .hF H'
 |_=>False
/---/def Vs(f:LF):TE:=λσ H Q=>∃ρ σd hd,RS K ρ H σd hd σ/\Ck K ρ H σd σ .i6 Q
/---/def cF(ρ:.I)(H:Hp)(o:Out)(E:vW):Prop:=match o with
 |.nx σd hd=>∀σ H' ρ',Ext ρ H ρ' H'->RS K ρ' H' σd hd σ->E.nx σ H'
 |.bk σd hd=>∀σ H' ρ',Ext ρ H ρ' H'->RS K ρ' H' σd hd σ->E.bk σ H'
 |.ct σd hd=>∀σ H' ρ',Ext ρ H ρ' H'->RS K ρ' H' σd hd σ->E.ct σ H'
 |.rt d hd=>∀v H' ρ',Ext ρ H ρ' H'->RH K ρ' H' hd->RD K ρ' H' d v->E.rt v H'
 |_=>False
/---/def R0(f:SF):TS:=λE σ H=>∃ρ σd hd,RS K ρ H σd hd σ/\cF K ρ H .i6 E
end
/---/def ME(X:Cx)(e:Expr)(f:EF):Prop:=.w e (nB X.K .ew f)
/---/def MQ(X:Cx)(e:Expr)(f:LF):Prop:=.w e (nB X.K (rQ X.K) f)
/---/def MF(X:Cx)(e:Expr)(f:LF):Prop:=.w e (Vs X.K f)
/---/def MT(X:Cx)(e:Expr)(f:TF):Prop:=PT X e (nB X.K rB f)
/---/def MW(X:Cx)(e:Expr)(f:TF):Prop:=PW X e (nB X.K rB f)
/---/def MA(X:Cx)(es:.aL)(f:LF):Prop:=PA X es (nB X.K (rDs X.K) f)
/---/def MS(X:Cx)(s:Stmt)(f:SF):Prop:=PS X s (R0 X.K f)
/---/def MSs(X:Cx)(s:.fo)(f:SF):Prop:=PSs X s (R0 X.K f)
variable{e:Expr}
def PE.imp{t u:TE}(h:.w e t)(i:.oV):.w e u:=λpins s σ H Q I q=>.cZ Q I .og
def PT.imp{t u:TT}(h:PT X e t)(i:.oV):PT X e u:=λpins s σ H Q I q=>.cZ Q I .og
def PW.imp{t u:TT}(h:PW X e t)(i:.oV):PW X e u:=λw pins s σ H Q I q=>h w pins s σ H Q I .og
def PA.imp{e:.aL}{t u:TA}(h:PA X e t)(i:.oV):PA X e u:=λp pins s σ H Q I q=>h p pins s σ H Q I .og
def PS.imp{e:Stmt}{t u:TS}(h:PS X e t)(i:.Dx):PS X e u:=λpins s σ H D I q=>.cZ D I (i D σ H q)
def PSs.imp{e:.fo}{t u:TS}(h:PSs X e t)(i:.Dx):PSs X e u:=λpins s σ H D I q=>.cZ D I (i D σ H q)
section
variable{R:VR α β}
def bP.here{a:α}{b:β}{Q:.jq}(h:.Du)(r:.jk)(q:R ρ H a b):Q b H:=h b H ρ Ext.refl r q
def bP.at{a:α}{b:β}{Q:.jq}(h:.Du)(e:.bX ρ' c)(r:RS K ρ' c σd hd σ)(q:R ρ' c a b):Q b c:=h b c ρ' e r q
def bP.imp{r:Res α}{Q d:.jq}(h:bP K R ρ H σd σ r Q)(i:∀b c,Q b c->d b c):bP K R ρ H σd σ r d:=by
 cases r with
 |ok a f=>exact λb c ρ' e s q=>i b c (h b c ρ' e s q)
 |exc x f=>exact h
 |bad=>exact h
def bP.ext{r:Res α}{Q:.jq}(e:.bX ρ' g)(h:bP K R ρ H σd σ r Q):bP K R ρ' g σd σ r Q:=by
 cases r with
 |ok a d=>exact λb c ρ'' f s q=>h b c ρ'' (e.trans f) s q
 |exc x d=>exact h
 |bad=>exact h
def bP.bind{r:Res α}{k:α->Hd->Res α'}{Q:β'->Hp->Prop}(h:bP K f ρ H σd σ (r.bind k) Q):
  bP K R ρ H σd σ r (λb c=>∃ρ' a hd',Ext ρ H ρ' c/\RS K ρ' c σd hd' σ/\R ρ' c a b/\bP K f ρ' c σd σ (k a hd') Q):=by
 cases r with
 |ok a d=>exact λb c ρ' e s q=>⟨ρ',a,d,e,s,q,bP.ext e h⟩
 |exc x d=>exact h
 |bad=>exact h
def cF.ext{o:Out}{E:vW}(e:.bX ρ' f)(h:cF K ρ H o E):cF K ρ' f o E:=by
 cases o with
 |nx σ c=>exact λσ' a ρ'' b s=>h σ' a ρ'' .ov s
 |bk σ c=>exact λσ' a ρ'' b s=>h σ' a ρ'' .ov s
 |ct σ c=>exact λσ' a ρ'' b s=>h σ' a ρ'' .ov s
 |rt d c=>exact λv a ρ'' b s q=>h v a ρ'' .ov s q
 |exc x σ c=>exact h
 |bad=>exact h
end
variable{x:Str}{K:ZX}{b:Expr}{H:Hp}{ρ:.I}{f:EF}
section
variable{X:Cx}{pos:Pos}
def Td{i:Nat}(b:.eB)(g:Vis X.env.scope x)(hd:autoParam (.aY=false) Q1Q._auto_1)(a:autoParam (.ru=false) Q1Q._auto_1):.g .eD (aa i):=by
 refine PE.imp (Sw b g hd a) λσ H Q ⟨ρ,σd,hd,r,h⟩=>?_;unfold aa at h;cases e:slot σd i with
 |none=>rw[e]at h;exact h.elim
 |some d =>
  rw[e]at h;obtain⟨v,c,f⟩:=r.st.at' i d e;exact⟨v,c,h.here r f⟩
def rT{v:V}(a:∀ρ H,RD K ρ H d v):∀σ H Q,nB K (rD K) (fC d) σ H Q->tC v σ H Q:=λ_ H _ ⟨ρ,_,_,r,h⟩=>h.here r (a ρ H)
def am{i:Int}{j}:.g (.gi .u) (fC .u):=PE.imp LK .m0
def jA{b j}:.g (.gi<|.bool b) (fC .di):=PE.imp U0 .m0
def dH{j}:.g (.gi .none) .aH:=PE.imp Sx .m0
def aT{j}(l:.i)(h:x=toS l):.g (.gi .cd) (fC .r7):=PE.imp EZ (rT λ_ _=>by dsimp[RD];rw[h])
def nK{i:Int}{t:Tok}(a:.U x)(hm:X.mg x=some .oO)(hd:autoParam (.aY=false) Q1Q._auto_1):ME X .eD (fC .u) :=
 PE.imp (oE (v:=.int i) a hm ⟨t,rfl⟩ hd) .m0
def me2{a b:Expr}{q o:EF}{r:R2}{g:O2}(h:.w e (tOp r (nB X.K .ew q)<|nB X.K .ew o))
  (s:∀ρ H σd hd σ d k v w Q,RS X.K ρ H σd hd σ->RD X.K ρ H d v->RD X.K ρ H k w->bP X.K .ew ρ H σd σ (g d k hd) Q->r v w H Q):.g e (ag g q o):=by
 refine PE.imp h λσ H Q ⟨ρ,σd,hd,u,p⟩=>?_;refine⟨ρ,σd,hd,u,(.cj).imp λv B zz=>?_⟩;obtain⟨f,d,m,C,c,x,y⟩:=zz;refine⟨f,σd,m,c,(.av y).imp λw t zz=>?_⟩;obtain⟨l,k,i,z,n,j,A⟩:=zz;exact s l t σd i σ d k v w Q n (x.mono<|c.hp.kp z) j A
/---/def Og(K:ZX)(g:O2)(r:R2):Prop:=∀ρ H σd hd σ d k v w Q,RS K ρ H σd hd σ->RD K ρ H d v->RD K ρ H k w->bP K (rD K) ρ H σd σ (g d k hd) Q->r v w H Q
def aZ{a:Expr}{c d:EF}{op:Operator}{r:R2}{g:O2}(e:.ae (binaryOp op) r)(f:Og X.K g r)(h:.g a c)(i:.g b d):ME X (.lW op) (ag g c d) :=
 me2 (a:=a) (b:=b) (LU e h i) f
def fH{a:Expr}{c d:EF}{op:CmpOp}{r:R2}{g:O2}(h:.jr)(e:Og X.K g r)(i:.g a c)(f:.g b d)(hm:.oZ):ME X .pO (ag g c d) :=
 me2 (a:=a) (b:=b) (PK h i f hm) e
def uQ{g:.jp}:Og K (oI g) .B4:=by
 intro ρ H σd e σ d k v w Q c b a p;cases d<;>cases k<;>first|exact p.elim|skip
 dsimp[RD]at b a;exact⟨_,_,b,a,p.here c .Y⟩
def rV{g:.lG}:Og K (oB g) .CB:=by
 intro ρ H σd e σ d k v w Q c b a p;cases d<;>cases k<;>first|exact p.elim|skip
 dsimp[RD]at b a;exact⟨_,_,b,a,p.here c .Y⟩
def Mg{c:.lG}{C:Int->Int->Prop}{g:.jp}(h:∀i j,c i j=true->C i j):Og K (oIc c g) .Bx:=by
 intro ρ H σd l σ d k v w Q f b a p;cases d<;>cases k<;>first|exact p.elim|skip
 rename_i i j
 dsimp[RD]at b a;cases e:c i j with
 |false=>dsimp[oIc,e]at p;exact p.elim
 |true =>
  dsimp[oIc,e,XH]at p;exact⟨i,j,b,a,h i j e,p.here f .Y⟩
def HQ{i:Int}(h:sml i=true): -(2^64)<i/\i<2^64:=by
 dsimp[sml,YB,YS]at h;exact h
def gX:Og K cZ .AV:=Mg λi j h=>by
 rcases (Bool.or_eq_true _ _).mp h with q|q
 ·exact .inl (HQ q)
 ·exact .inr (HQ q)
def dy:Og K bY .yL:=Mg λi j h=>Y4 h
/---/def Vt(_ j:Int):Prop:=0<j/\j<2^250
def fV:.ae (binaryOp .FloorDiv) .AU:=opI λi j _ _ _ _ _ a q=>by
 have b:j≠0:=by have:=a.1;omega
 refine PyProof.Rows.floordiv_int b (by rw[Int.fdiv_eq_ediv_of_nonneg _ (Int.le_of_lt a.1)];exact q) (.inl (PyProof.noPylong_of_log2 ?_));have c:j.natAbs<2^250:=by have:=a.2;have:=a.1;omega
 have d:j.natAbs≠0:=by omega
 have:=(Nat.log2_lt d).mpr c;omega
def jX:Og K iJ .AU:=Mg λi j h=>by
 dsimp[YB,YS]at h;exact h
def Av{v:V}(h:.dY):pi d=decide (v=.non):=by
 cases d<;>dsimp[RD]at h
 ·subst h;rfl
 ·subst h;rfl
 ·subst h;rfl
 ·subst h;rfl
 ·obtain⟨p,a,rfl,_⟩:=h;rfl
 ·obtain⟨p,a,rfl⟩:=h;rfl
 ·obtain⟨p,a,rfl,_⟩:=h;rfl
 ·rcases h with ⟨_,_,p,a,rfl,_⟩|⟨_,p,a,rfl,_⟩<;>rfl
def pL:Og K nC .xf:=by
 intro ρ H σd f σ d k v w Q b c a p;unfold nC at p;cases e:pi k with
 |false=>rw[e]at p;exact p.elim
 |true =>
  rw[e,z4 rfl]at p;refine⟨Y4 .CZ,?_⟩;rw[<-Av c];exact p.here b .Y
def lB:Og K iT .w9:=by
 intro ρ H σd f σ d k v w Q b c a p;unfold iT at p;cases e:pi k with
 |false=>rw[e]at p;exact p.elim
 |true =>
  rw[e,z4 rfl]at p;refine⟨Y4 .CZ,?_⟩;rw[<-Av c];exact p.here b .Y
def jJ(h:bP K rB ρ H σd σ (asB r) Q):bP K (rD K) ρ H σd σ r (λx g=>∃c,x=.bl c/\Q c g):=by
 refine (.av h).imp λv j zz=>?_;obtain⟨f,d,i,k,a,b,e⟩:=zz;cases d<;>first|exact e.elim|skip
 dsimp[rD,RD]at b;exact⟨_,b,e.here a rfl⟩
def cC(h:.dm)(he:autoParam (∀a,isTrue e X.env a=(do let v <-a;standAt e.pos;holding [v] (truthy v))) Q2Q._auto_1):MT X e (tE f) :=
 PT.imp (Sy h he) λσ H Q ⟨ρ,σd,c,b,p⟩=>⟨ρ,σd,c,b,jJ p⟩
def aQ(B:.jr)(o:Og X.K g r)(C:.g a n)(z:.g b m)(hm:.oZ):MT X .pO (tE<|ag g n m):=by
 refine PT.imp (vk B C z hm) λσ H Q ⟨ρ,σd,A,s,p⟩=>?_;have p:=jJ p;refine⟨ρ,σd,A,s,(.cj).imp λv D zz=>?_⟩;obtain⟨e,d,j,E,c,t,u⟩:=zz;refine⟨e,σd,j,c,(.av u).imp λw q zz=>?_⟩;obtain⟨i,k,f,x,l,h,y⟩:=zz;exact o i q σd f σ d k v w _ l (t.mono<|c.hp.kp x) h y
def cS(h:MT X a t):MT X .pH (dm t):=by
 refine PT.imp (SB h) λσ H Q ⟨ρ,σd,e,g,p⟩=>⟨ρ,σd,e,g,(.cj).imp λc l zz=>?_⟩;obtain⟨f,d,k,m,b,i,j⟩:=zz;cases i;exact j.here b rfl
def gw(h:MT X a t)(b:op=BoolOp.And\/op=BoolOp.Or):MW X (.hB op [a]) t:=by
 rcases b with rfl|rfl
 ·exact Px h
 ·exact Sz h
def Aw{rest:.aL}{t u:TF}(m:MT X a t)(i:MW X .pU u):MW X .pV (jS t u):=by
 refine PW.imp (SA m i) λσ H Q ⟨ρ,σd,j,k,p⟩=>⟨ρ,σd,j,k,(.cj).imp λc n zz=>?_⟩;obtain⟨g,d,h,o,e,l,f⟩:=zz;cases l;cases c with
 |true=>dsimp[XH]at f⊢;exact⟨g,σd,h,e,f⟩
 |false=>dsimp[YH,XZ]at f⊢;exact f.here e rfl
def ni{rest:.aL}{t u:TF}(m:MT X a t)(i:MW X .pM u):MW X .pN (tOr t u):=by
 refine PW.imp (U1 m i) λσ H Q ⟨ρ,σd,j,k,p⟩=>⟨ρ,σd,j,k,(.cj).imp λc n zz=>?_⟩;obtain⟨g,d,h,o,e,l,f⟩:=zz;cases l;cases c with
 |true=>dsimp[XH]at f⊢;exact f.here e rfl
 |false=>dsimp[YH,XZ]at f⊢;exact⟨g,σd,h,e,f⟩
def MW.mt(h:MW X e t):MT X e t:=h.pt
def P6{σ:St}{Q:VK}(h:nB K (rD K) (fT t) σ H Q):nB K rB t σ H (λb g=>Q .di g):=by
 obtain⟨ρ,σd,e,i,p⟩:=h;refine⟨ρ,σd,e,i,(.cj).imp λc m zz=>?_⟩;obtain⟨f,d,l,n,a,j,k⟩:=zz;cases j;exact k.here a .Y
/---/def MB(X:Cx)(e:Expr)(t:TF):Prop:=.w e (λσ H Q=>nB X.K rB t σ H λb H'=>Q .di H')
def MB.me(h:MB X e t):.g e (fT t):=PE.imp h λ_ _ _ q=>P6 q
def ij(h:.dm):MB X e (tE f):=by
 refine PE.imp h λσ H Q ⟨ρ,σd,b,a,p⟩=>⟨ρ,σd,b,a,(jJ p).imp ?_⟩;rintro v d ⟨c,rfl,q⟩;exact q
def kS(h:MB X a t):MB X (.hB op [a]) t:=SD h
def pM{rest:.aL}{t u:TF}(m:MB X a t)(i:MB X .pU u):MB X .pV (jS t u):=by
 refine PE.imp (SE m i) λσ H Q ⟨ρ,σd,j,k,p⟩=>⟨ρ,σd,j,k,(.cj).imp λc n ⟨g,d,h,o,e,l,f⟩=>⟨c,rfl,?_⟩⟩;cases l;cases c with
 |true=>dsimp[XH]at f⊢;exact⟨g,σd,h,e,f⟩
 |false=>dsimp[YH,XZ]at f⊢;exact f.here e rfl
def Mh{rest:.aL}{t u:TF}(m:MB X a t)(i:MB X .pM u):MB X .pN (tOr t u):=by
 refine PE.imp (U4 m i) λσ H Q ⟨ρ,σd,j,k,p⟩=>⟨ρ,σd,j,k,(.cj).imp λc n ⟨g,d,h,o,e,l,f⟩=>⟨c,rfl,?_⟩⟩;cases l;cases c with
 |true=>dsimp[XH]at f⊢;exact f.here e rfl
 |false=>dsimp[YH,XZ]at f⊢;exact⟨g,σd,h,e,f⟩
def Mi(h:MB X a t):MB X .pH (dm t):=by
 refine PE.imp (SG h) λσ H Q ⟨ρ,σd,e,g,p⟩=>⟨ρ,σd,e,g,(.cj).imp λc l ⟨f,d,k,m,b,i,j⟩=>⟨c,rfl,?_⟩⟩;cases i;exact j.here b rfl
def ua(q:MT X c t)(o:.g a j)(m:.g b i):.g (.IfExp c a b pos) (fIf t j i):=by
 refine PE.imp (LL q o m) λσ H Q ⟨ρ,σd,n,k,p⟩=>⟨ρ,σd,n,k,(.cj).imp λc r zz=>?_⟩;obtain⟨e,d,f,s,g,l,h⟩:=zz;cases l;cases c with
 |true=>dsimp[XH]at h⊢;exact⟨e,σd,f,g,h⟩
 |false=>dsimp[YH,XZ]at h⊢;exact⟨e,σd,f,g,h⟩
end
section
variable{X:Cx}{pos:Pos}
def Fo{Q:VK}(N:Og K g r)(D:Og K k B)(rs:.jk)
  (p:bP K (rD K) ρ H σd σ (vK g k y A C σd hd) Q):LV r B (nB K (rD K) y) (nB K (rD K) A) (nB K (rD K) C) σ H Q:=by
 refine⟨ρ,σd,hd,rs,(.cj).imp λv U zz=>?_⟩;obtain⟨o,d,j,W,c,R,G⟩:=zz;refine⟨o,σd,j,c,(.av G).imp λw E zz=>?_⟩;obtain⟨i,t,q,S,e,rw2,T⟩:=zz;refine N i E σd q σ d t v w _ e (R.mono<|c.hp.kp S) rw2 ((.av T).imp λz V zz=>?_);obtain⟨f,L,n,O,a,x,l⟩:=zz;cases L<;>first|exact l.elim|skip
 rename_i b
 dsimp[rD,RD]at x;refine⟨b,x,?_⟩;cases b with
 |false =>
  rw[y3 Z7];exact l.here a .Y
 |true =>
  rw[z4 rfl];refine⟨f,σd,n,a,(.av l).imp λu J zz=>?_⟩;obtain⟨s,M,h,F,m,P,I⟩:=zz;exact D s J σd h σ t M w u Q m ((rw2.mono<|e.hp.kp O).mono (a.hp.kp F)) P I
def Mj{op d:CmpOp}(q:.jr)(e:.ae (.d6 d) h)(l:Og X.K g r)(m:Og X.K k h)(s:.g a f)(n:.g b j)(t:.g c i)
  (hm:lastMarks [op,d] [b,c]=false:=by with_unfolding_all rfl):ME X (.hC [op,d] [b,c]) (vK g k f j i) :=
 PE.imp (LW q e s n t hm) λ_ _ _ ⟨_,_,_,o,p⟩=>Fo l m o p
def ao:MA X [] ar:=PA.imp dE λ_ _ _ ⟨_,_,_,a,p⟩=>p.here a RDs.nil
def ae{b:.aL}(he:.dm)(t:MA X b r)(j:autoParam (starEach (e::b) X.env=(false,.az X.env)::starEach b X.env) Q3Q._auto_1):MA X (e::b) (ab f r):=by
 refine PA.imp (cx he t j) λσ H Q ⟨ρ,σd,u,l,p⟩=>?_;refine⟨ρ,σd,u,l,(.cj).imp λv z zz=>?_⟩;obtain⟨c,d,g,A,a,m,n⟩:=zz;refine⟨c,σd,g,a,(.av n).imp λw y zz=>?_⟩;obtain⟨o,x,k,q,i,h,s⟩:=zz;exact s.here i (RDs.cons (m.mono<|a.hp.kp q) h)
def vn(h:n<=SZ):n<=sizeLine:=ZM h .b
def iK(h:MA X g r):.g (.Tuple g k pos) (ig r):=by
 refine PE.imp (L0 h) λσ H Q ⟨ρ,σd,j,m,p⟩=>?_;refine⟨ρ,σd,j,m,(.cj).imp λf t zz=>?_⟩;obtain⟨l,i,n,u,d,a,b⟩:=zz
 by_cases e:i.length<=SZ
 ·rw[z4 e]at b
  refine⟨by rw[<-a.length];exact vn e,λq s=>?_⟩;have c:=cA (o:=HO.tup f) s;exact b.at (.eH c) (d.same c) (by dsimp[rD,RD];exact⟨q,f,rfl,bw,a.mono (.cv c)⟩)
 ·rw[y3 e]at b;exact b.elim
def Ext.fresh{b:Hp}(e:.bX ρ' b)(h:b q=none)(n:q∉ρ'):H q=none:=by
 cases z:H q with
 |none=>rfl
 |some o =>
  by_cases a:q∈ρ
  ·obtain⟨t,rfl⟩:=e.pre
   exact absurd (List.mem_append_left t a) n
  ·rw[e.frame q o z a]at h;cases h
def RH.free(r:.aP)(h:H q=none):q∉ρ:=λz=>by
 rcases r.mut z with ⟨_,e⟩|⟨_,e⟩|⟨_,e⟩|⟨_,_,_,e⟩<;>(rw[h]at e;cases e)
def Ck.mk{d:Hp}(p:Ck K ρ H σd σ (.ok l c) Q)(h:.bX a d)(b:RS K a d σd c σ)(r:RDs K a d l vs):
  ∀q,d q=none->Q .cH (upd d q .g7):=λq f=>by
 have e:=cA (o:=HO.lst vs) f;have g:=b.hp.free f;exact p q vs _ a (h.trans<|.eH e) (b.same e) (h.fresh f g) bw g (r.mono<|.cv e)
def ca(h:MA X c r)(hz:∀σd hd ds hd',r σd hd=.ok ds hd'->ds.length<=SZ):MF X (.List c pos) r:=by
 refine PE.imp (SY h) λσ H Q ⟨ρ,σd,hd,f,p⟩=>?_;refine⟨ρ,σd,hd,f,?_⟩;cases e:r σd hd with
 |exc x k=>rw[e]at p;exact p
 |bad=>rw[e]at p;exact p
 |ok ds g =>
  rw[e]at p;intro j l d i b a;exact⟨by rw[<-RDs.length a];exact vn (hz _ _ _ _ e),p.mk i b a⟩
def aI(h:∀σd hd ds hd',r σd hd=.ok ds hd'->ds.length=n):∀σd hd ds hd',ab f r σd hd=.ok ds hd'->ds.length=n+1:=by
 intro σd hd ds hd' e;dsimp[ab]at e;cases b:f σd hd with
 |exc x g=>rw[b]at e;cases e
 |bad=>rw[b]at e;cases e
 |ok d i =>
  rw[b]at e;dsimp[aE]at e;cases a:r σd i with
  |exc x g=>rw[a]at e;cases e
  |bad=>rw[a]at e;cases e
  |ok c j =>
   rw[a]at e;dsimp[aE]at e;cases e;simp[h _ _ _ _ a]
def bp:∀σd hd ds hd',ar σd hd=.ok ds hd'->ds.length=0:=by
 intro σd hd ds hd' e;dsimp[ar]at e;cases e;rfl
def bx(h:MF X e r):.g e (aW r):=by
 refine PE.imp h λσ H Q ⟨ρ,σd,l,i,p⟩=>⟨ρ,σd,l,i,?_⟩;unfold aW at p;cases e:r σd l with
 |exc x A=>rw[e]at p;exact p
 |bad=>rw[e]at p;exact p
 |ok n o =>
  rw[e]at p;dsimp[aE]at p;intro q y v c g b f w m d
  by_cases k:n.length<=SZ
  ·rw[z4 k]at p
   have s:=b.hp.alloc w m d;have j:.bX (c++[q]) v:=⟨by obtain⟨t,rfl⟩:=g.pre;exact⟨t++[q],by simp⟩,λa u=>by
    rcases Z1.mp u with z|z
    ·exact g.new a z
    ·simp at z;subst z;exact .inr f,g.frame⟩
   refine p.at j (i.ext j s) ?_;dsimp[rD,RD];refine⟨q,?_,rfl⟩;rw[<-b.hp.len];simp
  ·rw[y3 k]at p;exact p.elim
def eW(h:MF X e r):MQ X e r:=by
 refine PE.imp h λσ H Q ⟨ρ,σd,d,g,p⟩=>⟨ρ,σd,d,g,?_⟩;cases e:r σd d with
 |exc x s=>rw[e]at p;exact p
 |bad=>rw[e]at p;exact p
 |ok o j =>
  rw[e]at p;intro q f k c l a i m n b;exact p .cH k c l a ⟨q,f,rfl,.inl (SqL.of m),b⟩
def t8.sq(h:t8 K H a xs):SqL K H a xs:=by
 rcases h with ⟨o,h⟩|h
 ·exact .inl (.inr ⟨o,h⟩)
 ·exact .inr h
def Ax(r:.aP)(h:.dY)(e:kt hd d=some l):∃p vs,v=.ref p/\.zV/\.aw l vs:=by
 cases d<;>dsimp[kt]at e<;>try (cases e;done)
 ·cases e
  dsimp[RD]at h;obtain⟨p,vs,b,f,g⟩:=h;exact⟨p,vs,b,.inr f,g⟩
 ·rename_i n
  dsimp[RD]at h;obtain⟨a,b,f⟩:=h;cases c:hd[n]? with
  |none=>rw[c]at e;cases e
  |some x =>
   rw[c]at e;cases x with
   |dct l=>cases e
   |dcT l=>cases e
   |ob l=>cases e
   |lst i =>
    cases e;obtain⟨vs,q1,q2⟩:=r.cel n _ a c b;exact⟨a,vs,f,.inl (SqL.of q1),q2⟩
 ·cases e
  dsimp[RD]at h;obtain⟨p,vs,b,f,g⟩:=h;exact⟨p,vs,b,.inl f.sq,g⟩
def cN(h:.dm):MQ X e (lOf f):=by
 refine PE.imp h λσ H Q ⟨ρ,σd,g,j,p⟩=>⟨ρ,σd,g,j,(.cj).imp λv m zz=>?_⟩;obtain⟨i,d,c,n,a,k,b⟩:=zz;cases e:kt c d with
 |none=>rw[e]at b;exact b.elim
 |some l=>rw[e]at b;exact b.here a (Ax a.hp k e)
def HR(r:.fm)(e:atI l i=some d):∃v,L2.atI vs i=some v/\.bF d v:=by
 unfold atI at e;unfold L2.atI;have a:=r.length;have b:ixN l.length i=L2.ixN vs.length i:=by rw[a];rfl
 rw[b]at e;cases c:L2.ixN vs.length i with
 |none=>rw[c]at e;cases e
 |some j =>
  rw[c]at e;dsimp[Option.bind_some]at e⊢;exact r.get e
def aP(C:.g a s)(A:.g b r)(y:vm b):.g .lR (fAt s r):=by
 refine me2 (a:=a) (b:=b) (L9 S6 C A y) λρ H σd B σ d k v w Q g z c p=>?_;unfold oAt at p;cases e:kt B d with
 |none=>rw[e]at p;exact p.elim
 |some l =>
  rw[e]at p;cases k<;>first|exact p.elim|skip
  rename_i i
  simp only at p;cases h:atI l i with
  |none=>rw[h]at p;exact p.elim
  |some x =>
   rw[h]at p;dsimp[RD]at c;obtain⟨q,n,t,f,j⟩:=Ax g.hp z e;obtain⟨u,m,o⟩:=HR j h;rcases f with f|f
   ·exact .inl ⟨q,n,i,u,t,c,f,m,p.here g o⟩
   ·exact .inr (.inl ⟨q,n,i,u,t,c,SqT.of f,m,p.here g o⟩)
def qp(G:MF X a j)(F:.g b s)(A:vm b):.g .lR (fIx j s):=by
 refine PE.imp (L9 HP G F A) λσ H Q ⟨ρ,σd,t,D,p⟩=>⟨ρ,σd,t,D,?_⟩;unfold fIx at p;cases e:j σd t with
 |exc x M=>rw[e]at p;exact p
 |bad=>rw[e]at p;exact p
 |ok l m =>
  rw[e]at p;dsimp[aE]at p;intro q y N h J f I K z n;refine⟨h,σd,m,f,(.av<|p.ext J).imp λw L zz=>?_⟩;obtain⟨E,k,B,r,o,d,c⟩:=zz;cases k<;>first|exact c.elim|skip
  rename_i i
  simp only at c;cases g:atI l i with
  |none=>rw[g]at c;exact c.elim
  |some x =>
   rw[g]at c;dsimp[rD,RD]at d;obtain⟨u,v,C⟩:=HR (n.mono<|f.hp.kp r) g;exact⟨q,y,i,u,rfl,d,SqL.of (r.frame q _ K z),v,c.here o C⟩
end
variable{p:Pos}
section
variable{X:Cx}{pos:Pos}
/---/def B1(X:Cx)(r:.jj)(x:Str)(p pos:Pos)(a:Expr):Prop:=∀t,PA X [a] t->PE X (.bU .fp) (tCB r t)
def Cl{a:Expr}{id:String}{r:.jj}(f:gE X .e8 r)(c:.U x)(hm:.jt)(g:bootBuiltins x=some .e8)(d:autoParam (x≠"__name__") Q1Q._auto_1)(b:autoParam (.aY=false) Q1Q._auto_1)
  (he:autoParam (.aS X.env=(false,.aW X.env)::starEach [] X.env) Q3Q._auto_1):.p9 a:=λ_ e=>jV f c hm g e d b he
def Cm{a:Expr}{T:String}{r:.jj}(f:gE X .jb r)(c:.U x)(hm:.jt)(g:bootBuiltins x=some .jb)(d:autoParam (x≠"__name__") Q1Q._auto_1)(b:autoParam (.aY=false) Q1Q._auto_1)
  (he:autoParam (.aS X.env=(false,.aW X.env)::starEach [] X.env) Q3Q._auto_1):.p9 a:=λ_ e=>rR f c hm g e d b he
def Ay{f:LF}{g:List D->Hd->Res D}(s:.p9 a)(t:MQ X a f)
  (j:∀ρ H σd hd σ l q vs Q,RS X.K ρ H σd hd σ->(SqL X.K H q vs\/H q=some .fQ)->RDs X.K ρ H l vs->bP X.K .ew ρ H σd σ (g l hd) Q->r [.ref q] H Q)
  (k:autoParam (.aS X.env=(false,.aW X.env)::starEach [] X.env) Q3Q._auto_1):.g (.bU .fp) (λσ h=>(f σ h).bind λl h=>g l h):=by
 refine PE.imp (s _<|cx t dE k) λσ H Q ⟨ρ,σd,hd,m,o⟩=>⟨ρ,σd,hd,m,(.oz).imp λv u ⟨b,l,c,y,d,⟨q,vs,w,i,e⟩,n⟩=>?_⟩;subst w;exact j b u σd c σ l q vs Q d i e n
def yK{g:D->Hd->Res D}(o:.p9 a)(q:.g a f)
  (i:∀ρ H σd hd σ d v Q,RS X.K ρ H σd hd σ->RD X.K ρ H d v->bP X.K .ew ρ H σd σ (g d hd) Q->r [v] H Q)
  (j:autoParam (.aS X.env=(false,.aW X.env)::starEach [] X.env) Q3Q._auto_1):.g (.bU .fp) (λσ h=>(f σ h).bind λx h=>g x h):=by
 refine PE.imp (o _<|cx q dE j) λσ H Q ⟨ρ,σd,hd,k,n⟩=>⟨ρ,σd,hd,k,(.av n).imp λv s zz=>?_⟩;obtain⟨b,d,c,t,e,l,m⟩:=zz;exact i b s σd c σ d v Q e l m
def cT{d:LF}(g:.U "len")(hm:.pq)(i:MQ X a d)(c:autoParam (.aS X.env=(false,.aW X.env)::starEach [] X.env) Q3Q._auto_1):ME X .uV (cM d) :=
 Ay (Cl qo g hm PySem.boot_len (he:=c)) i (λρ H σd j σ l q e Q h f b p=>⟨q,e,rfl,f.imp id SqT.of,by rw[<-b.length];exact p.here h .Y⟩) c
def gP{h:LF}(i:.U "tuple")(hm:X.mg "tuple"=none)(j:MQ X a h)(f:autoParam (.aS X.env=(false,.aW X.env)::starEach [] X.env) Q3Q._auto_1):.g (.bU<|.bw "tuple") (gZ h):=by
 refine Ay (Cm xQ i hm .T (he:=f)) j (λρ H σd n σ l q d Q g b c p=>⟨q,d,rfl,?_⟩) f;rcases b with b|b
 ·refine .inl ⟨b,λk m=>?_⟩
  have e:=cA (o:=HO.tup d) m;exact p.at (.eH e) (g.same e) (by dsimp[rD,RD];exact⟨k,d,rfl,bw,c.mono (.cv e)⟩)
 ·exact .inr ⟨SqT.of b,p.here g (by dsimp[rD,RD];exact⟨q,d,rfl,b,c⟩)⟩
def Az{e:EF}(g:.U "int")(hm:X.mg "int"=none)(h:.g a e)(c:autoParam (.aS X.env=(false,.aW X.env)::starEach [] X.env) Q3Q._auto_1):.g (.bU<|.bw "int") (uO e):=by
 refine yK (Cm JK g hm .T (he:=c)) h (λρ H σd i σ d v Q f b p=>?_) c;cases d<;>first|exact p.elim|skip
 ·dsimp[RD]at b;subst b
  exact .inr ⟨_,rfl,p.here f .ic⟩
 ·dsimp[RD]at b;subst b
  exact .inl ⟨_,rfl,p.here f .Y⟩
def Cn(ns:.c):PySem.preSum .sK ns.length=ns.sum:=by
 have a:∀k,k<=ns.length->PySem.preSum .sK k=(ns.take k).sum:=by
  intro k
  induction k with
  |zero=>intro _;simp[PySem.preSum]
  |succ k b =>
   intro c;rw[PySem.preSum,b .a,zYs,ZE .a,List.sum_append];simp[List.getD,ZE (show k<ns.length by omega)]
 rw[a _ .o,zYg]
def HS{ns:.c}(r:bn .bN a)(i:Nat)(v:S1)(h:a.toArray[i]?=some v):∃t,v=.int .kW t:=by
 have f:a[i]?=some v:=by simpa using h
 have g:=r.length;have d:i<a.length:=(.lo).1;have c:i<ns.length:=by rw[<-g]at d;simpa using d
 obtain⟨u,b,j⟩:=r.get (i:=i) (x:=.int ns[i]) .iN;rw[f]at b;cases b;obtain⟨t,e⟩:=j;exact⟨t,by rw[e];simp[List.getD,c]⟩
def JQ(B:.aU):gE X (.cu "sum") (λxs H Q=>∃(p:Addr) (ns:.c),xs=.je/\(SqL X.K H p .bN\/SqT X.K H p .bN)/\Q (.int ns.sum) H):=by
 intro pins s σ H xs C Q I r q;obtain⟨p,ns,rfl,h,q⟩:=q;obtain⟨u,rfl,z⟩:=bn.one r;cases (show u=Value.ref p from z);have fin:∀{w:Obj} {m:Heap} {t:Nat} {k:Tok} {n:Nat},n=ns.length->(∀b o,b∉[s.heap.objs.size]->(s.heap.push w).get? b=some o->m.get? b=some o)->EP X pins σ Q (.int (PySem.preSum .sK n) k) { s with heap:=m,toks:=t }:=by
  intro w m t k n y j;subst y;refine⟨.int ns.sum,H,I.kept λb o e=>j b o .BB .ex,⟨k,by rw[Cn]⟩,q⟩
 have x:(X.A.in1).handled=none:=I.ok.hd B;rcases h with h|h
 ·obtain⟨c,l,v,A⟩:=I.list h
  have f:s.heap.IsList p c.toArray:=v.isList;have a:p<s.heap.objs.size:=by obtain⟨o,g,_⟩:=f;exact ZI g
  refine PySem.call_sum_walkG (PySem.wpAny_pyIter_list f ?_);refine⟨s.heap.objs.size,_,.nv,_,_,_,λi=>ns.getD i 0,rfl,PySem.Walks.list x s.heap.objs.size p (ZN a) c.toArray,⟨⟨_,ZJ _ rfl,rfl,rfl⟩,?_⟩,?_,HS l,?_⟩
  ·obtain⟨o,g,r⟩:=f;exact⟨o,.H g,r⟩
  ·intro b d
   rcases xB.mp d with rfl|d
   ·rw[YI];exact Z9 _
   ·simp at d;subst d;rw[YI];exact ZZ a
  ·exact λm t k j=>fin .zA j
 ·obtain⟨c,l,v,A⟩:=I.tuple h
  have f:s.heap.IsTuple p c.toArray:=v;have a:p<s.heap.objs.size:=by obtain⟨o,g,_⟩:=f;exact ZI g
  refine PySem.call_sum_walkG (PySem.wpAny_pyIter_tuple f ?_);refine⟨s.heap.objs.size,_,.nv,_,_,_,λi=>ns.getD i 0,rfl,PySem.Walks.tuple x s.heap.objs.size p (ZN a) c.toArray,⟨⟨_,ZJ _ rfl,rfl,rfl⟩,?_⟩,?_,HS l,?_⟩
  ·obtain⟨o,g,r⟩:=f;exact⟨o,.H g,r⟩
  ·intro b d
   rcases xB.mp d with rfl|d
   ·rw[YI];exact Z9 _
   ·simp at d;subst d;rw[YI];exact ZZ a
  ·exact λm t k j=>fin .zA j
theorem jY{K:ZX}{ρ:.I}{H:Hp}:∀{l:List D} {vs:List V} {is:.c},RDs K ρ H l vs->dG l=some is->vs=is.map V.int
 |[],_,is,r,e=>by dsimp[dG]at e;cases e;dsimp[RDs]at r;subst r;rfl
 |d::l,_,is,r,e=>by
  dsimp[RDs]at r;obtain⟨v,vs,rfl,h1,a⟩:=r;cases d<;>dsimp[dG]at e<;>try (cases e;done)
  rename_i i
  cases c:dG l with
  |none=>rw[c]at e;cases e
  |some b =>
   rw[c]at e;cases e;dsimp[RD]at h1;rw[h1,jY a c];rfl
def Fp{f:LF}(m:.aU)(h:.U "sum")(hm:X.mg "sum"=none)(k:MQ X a f)(d:autoParam (.aS X.env=(false,.aW X.env)::starEach [] X.env) Q3Q._auto_1):.g (.bU<|.bw "sum") (vL f):=by
 refine Ay (Cl (JQ m) h hm .T (he:=d)) k (λρ H σd o σ l q n Q i g b p=>?_) d;cases c:dG l with
 |none=>dsimp[c]at p;exact p.elim
 |some j =>
  dsimp[c]at p;have e:=jY b c;subst e;exact⟨q,j,rfl,g.imp id SqT.of,p.here i .Y⟩
end
section
variable{K:ZX}{ρ:.I}{H:Hp}
mutual
theorem Co:∀{d k:D} {v:V} {b:Bool},RD K ρ H d v->RD K ρ H k v->peq d k=some b->b=true
 |.int i,k,v,b,h1,a,e=>by
  dsimp[RD]at h1;subst h1;cases k<;>dsimp[RD]at a<;>try (cases a;done)
  all_goals first
   |(rcases a with ⟨_,_,_,_,z,_⟩|⟨_,_,_,z,_⟩<;>(cases z;done))
   |(cases a;dsimp[peq]at e;simpa using e.symm)
   |(obtain⟨_,_,z,_⟩:=a;cases z;done)
   |(obtain⟨_,_,z⟩:=a;cases z;done)
   |(obtain⟨_,_,_,z,_⟩:=a;cases z;done)
 |.bl i,k,v,b,h1,a,e=>by
  dsimp[RD]at h1;subst h1;cases k<;>dsimp[RD]at a<;>try (cases a;done)
  all_goals first
   |(rcases a with ⟨_,_,_,_,z,_⟩|⟨_,_,_,z,_⟩<;>(cases z;done))
   |(cases a;dsimp[peq]at e;simpa using e.symm)
   |(obtain⟨_,_,z,_⟩:=a;cases z;done)
   |(obtain⟨_,_,z⟩:=a;cases z;done)
   |(obtain⟨_,_,_,z,_⟩:=a;cases z;done)
 |.str x,k,v,b,h1,a,e=>by
  dsimp[RD]at h1;subst h1;cases k<;>dsimp[RD]at a<;>try (cases a;done)
  all_goals first
   |(rcases a with ⟨_,_,_,_,z,_⟩|⟨_,_,_,z,_⟩<;>(cases z;done))
   |(dsimp[peq]at e;dsimp[toS,V.str.injEq,PySem.Str.mk.injEq]at a;have j:=congrArg Array.toList a;simp at j;subst j;simpa using e.symm)
   |(obtain⟨_,_,z,_⟩:=a;cases z;done)
   |(obtain⟨_,_,z⟩:=a;cases z;done)
   |(obtain⟨_,_,_,z,_⟩:=a;cases z;done)
 |.non,k,v,b,h1,a,e=>by
  dsimp[RD]at h1;subst h1;cases k<;>dsimp[RD]at a<;>try (cases a;done)
  all_goals first
   |(rcases a with ⟨_,_,_,_,z,_⟩|⟨_,_,_,z,_⟩<;>(cases z;done))
   |(dsimp[peq]at e;simpa using e.symm)
   |(obtain⟨_,_,z,_⟩:=a;cases z;done)
   |(obtain⟨_,_,z⟩:=a;cases z;done)
   |(obtain⟨_,_,_,z,_⟩:=a;cases z;done)
 |.tup xs,k,v,b,h1,a,e=>by
  dsimp[RD]at h1;obtain⟨p,vs,rfl,hp,g⟩:=h1;cases k<;>dsimp[peq]at e<;>try (cases e;done)
  ·dsimp[RD]at a;cases a
  ·dsimp[RD]at a;cases a
  ·rename_i o
   dsimp[RD]at a;obtain⟨r,m,z,f,h⟩:=a;cases z;rw[hp]at f;cases f;cases c:kr xs o with
   |none=>rw[c]at e;cases e
   |some q =>
    rw[c]at e;dsimp[zo,Y8]at e;have:=yL g h c;subst this;rw[<-e,g.length,h.length];simp
 |.ref n,k,v,b,h1,a,e=>by cases k<;>dsimp[peq]at e<;>cases e
 |.lit l,k,v,b,h1,a,e=>by cases k<;>dsimp[peq]at e<;>cases e
 |.exn c l,k,v,b,h1,a,e=>by dsimp[peq]at e<;>cases e
theorem yL:∀{xs ys:List D} {vs:List V} {b:Bool},RDs K ρ H xs vs->RDs K ρ H ys vs->kr xs ys=some b->b=true
 |[],_,_,_,_,_,e=>by dsimp[kr]at e;cases e;rfl
 |x::xs,[],_,_,_,_,e=>by dsimp[kr]at e;cases e;rfl
 |x::xs,y::ys,_,b,h1,d,e=>by
  dsimp[RDs]at h1 d;obtain⟨v,r,rfl,g,f⟩:=h1;obtain⟨k,j,z,h,i⟩:=d;cases z;dsimp[kr]at e;cases c:peq x y with
  |none=>rw[c]at e;cases e
  |some p =>
   cases a:kr xs ys with
   |none=>rw[c,a]at e;cases e
   |some q =>
    rw[c,a]at e;dsimp[Y8]at e;rw[<-e,Co g h c,yL f i a];rfl
end
end
section
variable{K:ZX}{ρ:.I}{H:Hp}{P:N3}{w:N6}{s:P1}
def kT(hok:.pk){p:Addr}(h:H p=some .fQ):∃a:List S1,bn vs a/\s.heap.IsTuple p a.toArray:=by
 obtain⟨z,a,r,t⟩:=hok p _ h;exact⟨a,r,t⟩
mutual
theorem Te(hok:.pk):∀{d k:D} {v r:V} {u o:S1} {b:Bool} {A:P2},RD K ρ H d v->RD K ρ H k r->cw v u->cw r o->peq d k=some b->A.units+dep d<cLine->SeqAt.EqAt A s u o b
 |.int i,k,v,r,u,o,b,A,h1,a,h,g,e,m=>by
  dsimp[RD]at h1;subst h1;obtain⟨t,rfl⟩:=h;cases k<;>dsimp[peq]at e<;>try (cases e;done)
  all_goals cases e
  ·dsimp[RD]at a;subst a;cases g;exact SeqAt.EqAt.int_none i t
  ·dsimp[RD]at a;subst a;cases g;exact SeqAt.EqAt.int_bool i t _
  ·dsimp[RD]at a;subst a;obtain⟨B,rfl⟩:=g;exact zXm i t _ B
  ·dsimp[RD]at a;obtain⟨p,Q,rfl,J,_⟩:=a;cases g
   obtain⟨C,_,F⟩:=kT hok J;exact SeqAt.EqAt.int_tuple i t F (ZS (X0 _ _) m)
 |.bl i,k,v,r,u,o,b,A,h1,a,h,g,e,m=>by
  dsimp[RD]at h1;subst h1;cases h;cases k<;>dsimp[peq]at e<;>try (cases e;done)
  all_goals cases e
  ·dsimp[RD]at a;subst a;cases g;exact SeqAt.EqAt.bool_bool i _
  ·dsimp[RD]at a;subst a;obtain⟨B,rfl⟩:=g;exact SeqAt.EqAt.bool_int i _ B
 |.str x,k,v,r,u,o,b,A,h1,a,h,g,e,m=>by
  dsimp[RD]at h1;subst h1;obtain⟨t,rfl⟩:=h;cases k<;>dsimp[peq]at e<;>try (cases e;done)
  all_goals cases e
  rename_i y
  dsimp[RD]at a;subst a;obtain⟨B,rfl⟩:=g;have:decide (x=y)=.tj:=by
   by_cases z:x=y
   ·subst z;simp
   ·have:¬toS x=toS y:=λq=>z .qA
    simp[z,this]
  rw[this];exact SeqAt.EqAt.str_str _ t _ B
 |.non,k,v,r,u,o,b,A,h1,a,h,g,e,m=>by
  dsimp[RD]at h1;subst h1;cases h;cases k<;>dsimp[peq]at e<;>try (cases e;done)
  all_goals cases e
  ·dsimp[RD]at a;subst a;cases g;exact SeqAt.EqAt.same _
  ·dsimp[RD]at a;subst a;obtain⟨B,rfl⟩:=g;exact SeqAt.EqAt.none_int _ B
  ·dsimp[RD]at a;obtain⟨p,Q,rfl,J,_⟩:=a;cases g
   obtain⟨C,_,F⟩:=kT hok J;exact SeqAt.EqAt.none_tuple F (ZS (X0 _ _) m)
 |.tup R,k,v,r,u,o,b,A,h1,a,h,g,e,m=>by
  have M:=h1;dsimp[RD]at h1;obtain⟨p,Q,rfl,J,q1⟩:=h1;cases h;obtain⟨C,S,F⟩:=kT hok J;have G:A.units<cLine:=ZS (X0 _ _) m;cases k<;>dsimp[peq]at e<;>try (cases e;done)
  ·cases e;dsimp[RD]at a;subst a;cases g;exact SeqAt.EqAt.tuple_none F G
  ·cases e;dsimp[RD]at a;subst a;obtain⟨B,rfl⟩:=g;exact SeqAt.EqAt.tuple_int _ B F G
  ·rename_i X
   have O:=a;dsimp[RD]at a;obtain⟨U,T,rfl,N,q2⟩:=a;cases g
   by_cases hpp:p=U
   ·subst hpp
    have:b=true:=Co M O (by dsimp[peq];exact e);subst this;exact SeqAt.EqAt.same _
   ·obtain⟨E,I,L⟩:=kT hok N
    cases c:kr R X with
    |none=>rw[c]at e;cases e
    |some Z =>
     rw[c]at e;dsimp[zo,Y8]at e;obtain⟨f,W,Y⟩:=vq hok (A:=A.in1) q1 q2 S I c (by dsimp[dep]at m;show A.units+1+mi R<cLine;omega);have:=SeqAt.RcAt.tuples F L G (λj h1 a=>by simpa using W j .gG .io);rw[<-e,<-Y,q1.length,q2.length,S.length,I.length];refine SeqAt.EqAt.of_refs hpp ?_;rw[show (decide (C.length=E.length))=(C.length == E.length) from rfl];simpa using this
 |.ref n,k,v,r,u,o,b,A,h1,a,h,g,e,m=>by cases k<;>dsimp[peq]at e<;>cases e
 |.lit l,k,v,r,u,o,b,A,h1,a,h,g,e,m=>by cases k<;>dsimp[peq]at e<;>cases e
 |.exn c l,k,v,r,u,o,b,A,h1,a,h,g,e,m=>by dsimp[peq]at e<;>cases e
theorem vq(hok:.pk):∀{xs ys:List D} {vs d:List V} {us a:List S1} {b:Bool} {A:P2},RDs K ρ H xs vs->RDs K ρ H ys d->bn vs us->bn d a->kr xs ys=some b->A.units+mi xs<cLine->
  ∃f:Nat->Bool,(∀j (h1:j<us.length) (g:j<a.length),SeqAt.EqAt A s us[j] a[j] (f j))/\(.bV<|min us.length a.length).all f=b
 |[],ys,vs,d,us,a,b,A,h1,g,h,i,e,k=>by
  dsimp[RDs]at h1;subst h1;cases h;dsimp[kr]at e;cases e;exact⟨λ_=>true,λj h1=>by simp at h1,by simp⟩
 |x::xs,[],vs,d,us,a,b,A,h1,g,h,i,e,k=>by
  dsimp[RDs]at g;subst g;cases i;dsimp[kr]at e;cases e;exact⟨λ_=>true,λj h1 g=>by simp at g,by simp⟩
 |x::xs,y::ys,vs,d,us,a,b,A,h1,g,h,i,e,k=>by
  dsimp[RDs]at h1 g;obtain⟨v,r,rfl,C,B⟩:=h1;obtain⟨J,I,rfl,t,z⟩:=g;cases h with
  |cons o F =>
   cases i with
   |cons m n =>
    dsimp[kr]at e;cases c:peq x y with
    |none=>rw[c]at e;cases e
    |some p =>
     cases l:kr xs ys with
     |none=>rw[c,l]at e;cases e
     |some q =>
      rw[c,l]at e;dsimp[Y8]at e;dsimp[mi]at k;have u:=Te hok (A:=A) C t o m c .a;obtain⟨f,E,G⟩:=vq hok (A:=A) B z F n l .a;refine⟨λj=>match j with|0=>p|j+1=>f j,λj h1 g=>?_,?_⟩
      ·cases j with
       |zero=>exact u
       |succ j=>exact E j .gG .mx
      ·rw[<-e,<-G,Z2,Z2,Nat.succ_min_succ,List.range_succ_eq_map,zZy,List.all_map]
       rfl
end
def Tf(hok:.pk){b:Bool}(h1:.dY)(a:.bF k N)(o:cw v u)(i:cw N E)(e:peq d k=some b)(G:A.units+dep d<cLine):
  SeqAt.RcAt A s u E b/\SeqAt.RcNeAt A s u E (!b):=by
 have g:A.units<cLine:=ZS (X0 _ _) G;cases d<;>dsimp[RD]at h1
 ·subst h1;cases o
  cases k<;>dsimp[peq]at e<;>try (cases e;done)
  all_goals cases e
  ·dsimp[RD]at a;subst a;cases i;exact⟨SeqAt.RcAt.none_none,SeqAt.RcNeAt.none_none⟩
  ·dsimp[RD]at a;subst a;obtain⟨h,rfl⟩:=i;exact⟨SeqAt.RcAt.none_int _ h,SeqAt.RcNeAt.none_int _ h⟩
  ·dsimp[RD]at a;obtain⟨p,I,rfl,C,_⟩:=a;cases i
   obtain⟨m,_,l⟩:=kT hok C;exact⟨SeqAt.RcAt.none_tuple l g,SeqAt.RcNeAt.none_tuple l g⟩
 ·subst h1;cases o
  cases k<;>dsimp[peq]at e<;>try (cases e;done)
  all_goals cases e
  ·dsimp[RD]at a;subst a;cases i;exact⟨SeqAt.RcAt.bool_bool _ _,SeqAt.RcNeAt.bool_bool _ _⟩
  ·dsimp[RD]at a;subst a;obtain⟨h,rfl⟩:=i;exact⟨SeqAt.RcAt.bool_int _ _ h,SeqAt.RcNeAt.bool_int _ _ h⟩
 ·subst h1;obtain⟨t,rfl⟩:=o
  cases k<;>dsimp[peq]at e<;>try (cases e;done)
  all_goals cases e
  ·dsimp[RD]at a;subst a;cases i;exact⟨SeqAt.RcAt.int_none _ t,SeqAt.RcNeAt.int_none _ t⟩
  ·dsimp[RD]at a;subst a;cases i;exact⟨SeqAt.RcAt.int_bool _ t _,SeqAt.RcNeAt.int_bool _ t _⟩
  ·dsimp[RD]at a;subst a;obtain⟨h,rfl⟩:=i;exact⟨SeqAt.RcAt.int_int _ t _ h,SeqAt.RcNeAt.int_int _ t _ h⟩
  ·dsimp[RD]at a;obtain⟨p,I,rfl,C,_⟩:=a;cases i
   obtain⟨m,_,l⟩:=kT hok C;exact⟨SeqAt.RcAt.int_tuple _ t l g,SeqAt.RcNeAt.int_tuple _ t l g⟩
 ·subst h1;obtain⟨t,rfl⟩:=o
  cases k<;>dsimp[peq]at e<;>try (cases e;done)
  all_goals cases e
  rename_i x y
  dsimp[RD]at a;subst a;obtain⟨h,rfl⟩:=i;have:decide (x=y)=.tj:=by
   by_cases z:x=y
   ·subst z;simp
   ·have:¬toS x=toS y:=λq=>z .qA
    simp[z,this]
  rw[this];exact⟨SeqAt.RcAt.str_str _ t _ h,SeqAt.RcNeAt.str_str _ t _ h⟩
 ·rename_i J
  obtain⟨p,I,rfl,C,q1⟩:=h1;cases o;obtain⟨m,L,l⟩:=kT hok C;cases k<;>dsimp[peq]at e<;>try (cases e;done)
  ·cases e;dsimp[RD]at a;subst a;cases i;exact⟨SeqAt.RcAt.tuple_none l g,SeqAt.RcNeAt.tuple_none l g⟩
  ·cases e;dsimp[RD]at a;subst a;obtain⟨h,rfl⟩:=i;exact⟨SeqAt.RcAt.tuple_int _ h l g,SeqAt.RcNeAt.tuple_int _ h l g⟩
  ·rename_i S
   dsimp[RD]at a;obtain⟨U,O,rfl,F,q2⟩:=a;cases i;obtain⟨n,B,r⟩:=kT hok F;cases c:kr J S with
   |none=>rw[c]at e;cases e
   |some W =>
    rw[c]at e;dsimp[zo,Y8]at e;obtain⟨f,M,T⟩:=vq hok (A:=A.in1) q1 q2 L B c (by dsimp[dep]at G;show A.units+1+mi J<cLine;omega);have Q:=SeqAt.RcAt.tuples l r g .x1;have R:=SeqAt.RcNeAt.tuples l r g .x1;rw[<-e,<-T,q1.length,q2.length,L.length,B.length,show (decide (m.length=n.length))=(m.length == n.length) from rfl];exact⟨by simpa using Q,by simpa using R⟩
 ·cases k<;>dsimp[peq]at e<;>cases e
 ·cases k<;>dsimp[peq]at e<;>cases e
 ·dsimp[peq]at e<;>cases e
end
section
variable{X:Cx}
def oF(r:.aP)(h:.dY)(e:ee hd d=some l):∃p vs,v=.ref p/\SqL K H p vs/\.aw l vs:=by
 cases d<;>dsimp[ee]at e<;>try (cases e;done)
 ·rename_i n
  dsimp[RD]at h;obtain⟨a,b,f⟩:=h;cases c:hd[n]? with
  |none=>rw[c]at e;cases e
  |some x =>
   rw[c]at e;cases x with
   |dct l=>cases e
   |dcT l=>cases e
   |ob l=>cases e
   |lst i =>
    cases e;obtain⟨vs,q1,q2⟩:=r.cel n _ a c b;exact⟨a,vs,f,SqL.of q1,q2⟩
 ·cases e
  dsimp[RD]at h;obtain⟨p,vs,b,f,g⟩:=h;exact⟨p,vs,b,f.sq,g⟩
def Ml{σ:St}{b:Bool}(T:.lz)(I:.p)(r:RH X.K ρ H hd)(h1:RD X.K ρ H d v)(i:RD X.K ρ H k B)
  (y:cw v u) (C:cw B w) (e:eqG hd d k=some b):SeqAt.RcAt X.A s u w b/\SeqAt.RcNeAt X.A s u w (!b):=by
 have h:X.A.units<cLine:=by omega
 dsimp[eqG]at e;cases n:ee hd d with
 |none =>
  cases m:ee hd k with
  |some l=>rw[n,m]at e;cases e
  |none =>
   rw[n,m]at e;simp only at e;split at e
   ·rename_i hd20
    exact Tf I.hok h1 i y C e .a
   ·cases e
 |some z =>
  cases m:ee hd k with
  |none=>rw[n,m]at e;cases e
  |some S =>
   rw[n,m]at e;dsimp[eqL]at e;obtain⟨p,W,rfl,M,q1⟩:=oF r h1 n;obtain⟨P,O,rfl,N,q2⟩:=oF r i m;cases y;cases C;obtain⟨c,F,J,_⟩:=I.list M;obtain⟨a,q,x,_⟩:=I.list N;have t:s.heap.IsList p c.toArray:=J.isList;have g:s.heap.IsList P a.toArray:=x.isList;have U:z.length=c.length:=q1.length.trans F.length;have Y:S.length=a.length:=q2.length.trans q.length;split at e
   ·rename_i hd20
    split at e
    ·rename_i K
     obtain⟨f,G,E⟩:=vq I.hok (A:=X.A.in1) q1 q2 F q e (by show X.A.units+1+mi z<cLine;omega);have o:c.toArray.size=a.toArray.size:=by simp;omega
     have Q:=SeqAt.RcAt.lists t g o h .wM;have R:=SeqAt.RcNeAt.lists t g o h .wM;have L:min c.length a.length=c.length:=by omega
     rw[L]at E;rw[<-E];exact⟨by simpa using Q,by simpa using R⟩
    ·rename_i K
     cases e;have o:(c.toArray.size != a.toArray.size)=true:=by simp;omega
     exact⟨SeqAt.RcAt.lists_lengths t g o h,SeqAt.RcNeAt.lists_lengths t g o h⟩
   ·cases e
/---/def P7(K:ZX)(f:Bool->Bool):R2:=λx y H Q=>∃ρ hd d k b,RH K ρ H hd/\RD K ρ H d x/\RD K ρ H k y/\eqG hd d k=some b/\Q (.bl<|f b) H
def bS(a:.lz):.ae (.d6 .Eq) (P7 X.K id):=by
 intro pins s σ H x y v u Q I c g h;obtain⟨ρ,j,d,k,b,r,f,i,e,q⟩:=h;exact(Ml a I r f i c g e).1 _ _ _ _ ⟨.bl b,H,I,rfl,q⟩
def dU(a:.lz):.ae (.d6 .NotEq) (P7 X.K not):=by
 intro pins s σ H x y v u Q I c g h;obtain⟨ρ,j,d,k,b,r,f,i,e,q⟩:=h;exact(Ml a I r f i c g e).2 _ _ _ _ ⟨.bl (!b),H,I,rfl,q⟩
def cO:Og K oEq (P7 K id):=by
 intro ρ H σd f σ d k v w Q c g a p;unfold oEq at p;cases e:eqG f d k with
 |none=>rw[e]at p;exact p.elim
 |some b=>rw[e]at p;exact⟨ρ,f,d,k,b,c.hp,g,a,e,p.here c .ic⟩
def gm:Og K oNe (P7 K not):=by
 intro ρ H σd f σ d k v w Q c g a p;unfold oNe at p;cases e:eqG f d k with
 |none=>rw[e]at p;exact p.elim
 |some b=>rw[e]at p;exact⟨ρ,f,d,k,b,c.hp,g,a,e,p.here c .Y⟩
end
def cF.outE{H K ρ}{En:vW}(p:cF K ρ H (outE r σd k) En):
  bP K (rD K) ρ H σd σ r (λv a=>∃ρ' d hd',Ext ρ H ρ' a/\RS K ρ' a σd hd' σ/\RD K ρ' a d v/\cF K ρ' a (k d hd') En):=by
 cases r with
 |ok d e=>exact λb a ρ' c f q=>⟨ρ',d,e,c,f,q,cF.ext c p⟩
 |exc x e=>exact p
 |bad=>exact p
def RSt.set{H K ρ}(r:RSt K ρ H σd σ)(i:Nat)(h:.dY):RSt K ρ H (σd.set i<|some d) .nM:=by
 refine⟨by simp[r.len],λj x e=>?_⟩
 by_cases a:i=j
 ·subst a
  by_cases b:i<σd.length
  ·dsimp[slot,x4 b]at e
   cases e;exact⟨v,by rw[x4 (by rw[<-r.len];exact b)],h⟩
  ·dsimp[slot]at e
   rw[YD .S]at e;cases e
 ·dsimp[slot,ZP a]at e
  rw[ZP a];exact r.at' j x (by simpa only[slot] using e)
/---/def Vu(K:ZX)(g:GF):TG:=λv σ H Q=>∃ρ σd hd d σd',RS K ρ H σd hd σ/\RD K ρ H d v/\g d σd=some σd'/\∀σ',RS K ρ H σd' hd σ'->Q σ' H
/---/def Tg(σ:Sd)(l:.i)(xs:List D):Sd:=(l.zip xs).foldl .zo σ
/---/def Th(K:ZX)(l:.i):TGs:=λvs σ H Q=>∃ρ σd hd ds,RS K ρ H σd hd σ/\RDs K ρ H ds vs/\ds.length=l.length/\∀σ',RS K ρ H (Tg σd l ds) hd σ'->Q σ' H
/---/def MG(X:Cx)(tg:Expr)(g:GF):Prop:=PG X tg (Vu X.K g)
/---/def MGs(X:Cx)(ts:.aL)(l:.i):Prop:=PGs X ts (Th X.K l)
section
variable{pos:Pos}
def PG.imp(h:PG X tg t)(i:.Do):PG X tg u:=λpins s σ H v w Q I r q=>.cZ v w Q I r (i v σ H Q q)
def PGs.imp(h:PGs X tg t)(i:.Do):PGs X tg u:=λpins s σ H v w Q I r q=>.cZ v w Q I r (i v σ H Q q)
def P8(f:.hy)(hi:.eB)(h:.ht)(c:autoParam (X.fn x=true\/X.env.scope.names.lookup x=some .local) Q0Q._auto_1):MG X .eD (gN i):=by
 refine PG.imp (PC f hi h c) λv σ H Q zz=>?_;obtain⟨ρ,σd,j,d,b,a,g,e,q⟩:=zz;dsimp[gN,Y8]at e;subst e;exact q _ ⟨a.hp,a.st.set i g⟩
def iU:MGs X [] []:=by
 refine PGs.imp PD λd σ H Q zz=>?_;obtain⟨ρ,σd,f,c,b,a,e,q⟩:=zz;have:c=[]:=by simpa using e
 subst this;dsimp[RDs]at a;exact⟨a,q σ b⟩
def cD{l:.i}(h1:MG X e (gN i))(h:MGs X a l)
  (m:autoParam ((.A1).map (·.2)=assign e X.env::(.nq).map (·.2)) Q3Q._auto_1):MGs X (e::a) (i::l):=by
 refine PGs.imp (LR h1 h m) λo σ H Q zz=>?_;obtain⟨ρ,σd,j,f,n,k,e,q⟩:=zz;cases f with
 |nil=>simp at e
 |cons d f =>
  dsimp[RDs]at k;obtain⟨v,r,rfl,h1,h⟩:=k;refine⟨v,r,rfl,ρ,σd,j,d,_,n,h1,rfl,λσ' c=>?_⟩;exact⟨ρ,_,j,f,c,h,by simpa using e,λb g=>q b g⟩
def kU{k:Nat}{l:.i}(s:.aU)(h:MGs X a l)
  (j:autoParam ((.nq).length=l.length) Q3Q._auto_1) (b:autoParam ((.nq).findIdx? (·.1)=none) Q3Q._auto_1):MG X (.Tuple a k pos) (gT l):=by
 refine PG.imp (SM s h j b) λv σ H Q zz=>?_;obtain⟨ρ,σd,m,d,g,n,f,e,q⟩:=zz;cases d<;>dsimp[gT]at e<;>try (cases e;done)
 rename_i o
 split at e
 ·rename_i c
  cases e;dsimp[RD]at f;obtain⟨p,i,rfl,t,r⟩:=f;exact⟨p,i,rfl,SqT.of t,by rw[<-r.length];exact c,ρ,σd,m,o,n,r,c,q⟩
 ·cases e
def aC:MSs X [] bc:=PSs.imp Py λEn σ H ⟨ρ,σd,b,a,p⟩=>p σ H ρ Ext.refl a
def af{rest:.fo}{a b:SF}(h1:MS X st a)(i:MSs X rest b):MSs X (st::rest) (aw a b):=by
 refine PSs.imp (LM h1 i) λEn σ H ⟨ρ,σd,f,g,p⟩=>⟨ρ,σd,f,g,?_⟩;unfold aw at p;cases e:a σd f with
 |nx σ1 h1=>rw[e]at p;exact λσ' j ρ' h c=>⟨ρ',σ1,h1,c,cF.ext h p⟩
 |rt d h1=>rw[e]at p;exact p
 |bk σ1 h1=>rw[e]at p;exact p
 |ct σ1 h1=>rw[e]at p;exact p
 |exc x σ1 h1=>rw[e]at p;exact p
 |bad=>rw[e]at p;exact p
def ah(h:MS X st a):MSs X [st] a:=Pz h
def Mm:MS X (.Break pos) Po:=PS.imp LN λEn σ H ⟨ρ,σd,b,a,p⟩=>p σ H ρ Ext.refl a
def Cp:MS X (.Continue pos) So:=PS.imp Cc λEn σ H ⟨ρ,σd,b,a,p⟩=>p σ H ρ Ext.refl a
def cG:MS X st ef:=PS.imp LQ λEn σ H ⟨ρ,σd,b,a,p⟩=>p.elim
def aD(h:.dm):MS X (.Return (some e) pos) (aY f):=by
 refine PS.imp (SI h) λEn σ H ⟨ρ,σd,c,g,p⟩=>⟨ρ,σd,c,g,(.fP).imp λv l zz=>?_⟩;obtain⟨b,d,k,m,a,i,j⟩:=zz;exact j v l b Ext.refl a.hp i
def cW(h:.dm)(c:autoParam (swapsWith e none pos.line X.env=pure false) Q3Q._auto_1):MS X (.Expr e pos) (eG f):=by
 refine PS.imp (PB h c) λEn σ H ⟨ρ,σd,g,i,p⟩=>⟨ρ,σd,g,i,(.fP).imp λv l zz=>?_⟩;obtain⟨b,d,k,n,a,m,j⟩:=zz;exact j σ l b Ext.refl a
def bh{a b:.fo}(n:MT X c t)(m:MSs X a g)(k:MSs X b j):MS X (.If c a b pos) (sIf t g j):=by
 refine PS.imp (U8 n m k) λEn σ H ⟨ρ,σd,h,l,p⟩=>⟨ρ,σd,h,l,?_⟩;unfold sIf at p;cases e:t σd h with
 |ok c f =>
  rw[e]at p;intro b o ρ' i d q;cases q;cases c with
  |true=>dsimp[XH]at p⊢;exact⟨ρ',σd,f,d,cF.ext i p⟩
  |false=>dsimp[YH,XZ]at p⊢;exact⟨ρ',σd,f,d,cF.ext i p⟩
 |exc x f=>rw[e]at p;exact p
 |bad=>rw[e]at p;exact p
def Ti(g:.hy)(hi:.eB)(q:.ht)(he:.dm)(c:autoParam (.u5 X.env=pure false) Q3Q._auto_1)(m:autoParam (X.fn x=true\/X.env.scope.names.lookup x=some .local) Q0Q._auto_1):
  MS X (.fr .nS) (aG (gN i) f):=by
 refine PS.imp (SN g hi q he c m) λEn σ H ⟨ρ,σd,n,h,p⟩=>⟨ρ,σd,n,h,(.fP).imp λv o zz=>?_⟩;obtain⟨b,d,l,r,a,j,k⟩:=zz;exact k _ o b Ext.refl ⟨a.hp,a.st.set i j⟩
def Tj(he:.dm)(k:MG X tg g)(l:autoParam (swapsWithSole [tg] e pos.line X.env=pure false) Q3Q._auto_1)(n:autoParam (swappedStores [tg] e X.env=pure none) Q3Q._auto_1)
  (h1:autoParam ((.BE).map (·.2)=[assign tg X.env]) Q3Q._auto_1):MS X (.fr [tg]) (aG g f):=by
 refine PS.imp (Ak he k l n h1) λEn σ H ⟨ρ,σd,q,m,p⟩=>⟨ρ,σd,q,m,(.fP).imp λv r zz=>?_⟩;obtain⟨a,d,i,s,j,o,b⟩:=zz;cases c:g d σd with
 |none=>rw[c]at b;exact b.elim
 |some σ1=>rw[c]at b;exact⟨a,σd,i,d,σ1,j,o,c,λσ' h=>b σ' r a Ext.refl h⟩
def Tk:Fm.ixN=L2.ixN:=rfl
def kW{F D E:EF}{f:Pos}(he:.g e E)(Z:.g o F)(hi:.g i D)(S:autoParam (swapsWithSole .gL e pos.line X.env=pure false) Q3Q._auto_1)(N:autoParam (swappedStores .gL e X.env=pure none) Q3Q._auto_1)
  (h1:autoParam ((.BF).map (·.2)=.yY) Q3Q._auto_1) (t:autoParam (∀v,assign (.Subscript o i f) X.env v=(do
   let ov <-holding [v] .ce
   let y <-holding [v,ov] .nX
   standAt f
   holding [v,ov,y] (setItem ov y v)
   release [v,ov,y] [])) Q2Q._auto_1):MS X (.fr .gL) (jm F D E):=by
 refine PS.imp (Ak he (E1 Z hi Mb t) S N h1) λEn σ H ⟨ρ,σd,Y,M,p⟩=>⟨ρ,σd,Y,M,(.fP).imp λv H1 zz=>?_⟩;obtain⟨A,d,x,e1,r,V,O⟩:=zz;refine⟨A,σd,x,r,(cF.outE O).imp λvo H2 zz=>?_⟩;obtain⟨w,T,B,W,m,ro,f⟩:=zz;refine⟨w,σd,B,m,(cF.outE f).imp λvi L zz=>?_⟩;obtain⟨g,Q,u,I,h,J,b⟩:=zz;have z:=(V.mono<|r.hp.kp W).mono (m.hp.kp I);have q:=ro.mono (m.hp.kp I);cases T with
 |ref n =>
  cases Q with
  |int j =>
   simp only at b;cases c:u[n]? with
   |none=>rw[c]at b;exact b.elim
   |some cell =>
    rw[c]at b;cases cell with
    |dct l=>exact b.elim
    |dcT l=>exact b.elim
    |ob l=>exact b.elim
    |lst l =>
     simp only at b;cases C:ixN l.length j with
     |none=>rw[C]at b;exact b.elim
     |some k =>
      rw[C]at b;dsimp[RD]at q J;obtain⟨a,t,rfl⟩:=q;obtain⟨G,U,s⟩:=h.hp.cel n _ a c t;refine⟨a,G,j,k,rfl,J,U,by rw[<-s.length,<-Tk];exact C,?_⟩;have R:n<u.length:=(.fV).1;have P:=h.hp.write t R (RDs.set z k s);have K:Ext g L g (upd L a<|.lst<|G.set k v):=Ext.write (ZK t);exact b σ _ g K (h.ext K P)
  |_=>exact b.elim
 |_=>exact b.elim
end
section
variable(K:ZX)
structure wc(ρ0:.I)(H0:Hp)(J:It)(l:List D)(g:.fn):Prop where
 go:∀ρ H hd (i:Nat) d,Ext ρ0 H0 ρ H->RH K ρ H hd->dC g l hd->l[i]?=some d->J.go i H/\∀x H',J.yld i H x H'->kR H H'/\RD K ρ H' d x
 stop:∀ρ H hd,Ext ρ0 H0 ρ H->RH K ρ H hd->dC g l hd->J.stop l.length H
 sz:l.length<=sizeLine
/---/def Vv(ρ:.I)(H:Hp)(σd:Sd)(σ:St)(r:Res .sj)(R:.lJ):Prop:=match r with
 |.ok p hd'=>∀J H' ρ',Ext ρ H ρ' H'->RS K ρ' H' σd hd' σ->wc K ρ' H' J p.1 p.2->R J H'
 |_=>False
/---/def Vw(f:IF):TI:=λσ H R=>∃ρ σd hd,RS K ρ H σd hd σ/\Vv K ρ H σd σ .i6 R
end
/---/def MI(X:Cx)(tg e:Expr)(f:IF):Prop:=PI X tg e (Vw X.K f)
section
variable{pos:Pos}{tg:Expr}
def PI.imp(h:PI X tg e t)(i:∀σ H R,u σ H R->t σ H R):PI X tg e u:=λpins s σ H R I q=>.cZ R I (i σ H R q)
def eA{f:IF}{b:SF}(hp:.lx)(hc:.aU)(hi:MI X tg t f)(hg:MG X tg g)(hb:MSs X body b)
  (hs:autoParam (∀x,foldedSetIterable t X.env x=pure x) Q2Q._auto_1):MS X (.For tg t body [] pos) (fv f g b):=by
 refine PS.imp .Cl λEn σ H ⟨ρ,σd,V,Y,p⟩=>⟨ρ,σd,V,Y,?_⟩;unfold fv at p;cases e:f σd V with
 |exc x h'=>rw[e]at p;exact p
 |bad=>rw[e]at p;exact p
 |ok q N =>
  rw[e]at p;obtain⟨l,L⟩:=q;intro J T E O P R;simp only at p R;refine⟨λi m σ' z=>∃ρ' k hd',Ext E T ρ' z/\RS X.K ρ' z k hd' σ'/\i<=l.length/\m=l.length - i/\cF X.K ρ' z (gu L l g b (l.drop i) k hd') En,
   ⟨l.length,E,σd,N,Ext.refl,P,YR _,by simp,by simpa using cF.ext O p⟩,?_⟩
  rintro i m σ' z ⟨ρ',k,hd',M,u,a0,rfl,a⟩
  by_cases F:i<l.length
  ·have Q:l[i]?=some l[i]:=by simp[F]
   rw[zXd F]at a;unfold gu at a
   by_cases C:dC L l hd'
   ·rw[z4 C]at a
    obtain⟨go,yl⟩:=R.go ρ' z hd' i _ M u.hp C Q;refine .inr ⟨go,λD A=>∃s h w,Ext E T s A/\RS X.K s A h w D/\cF X.K s A (gu L l g b (l.drop (i + 1)) h w) En,
     λD A ⟨s,h,w,a1,Z,a3⟩=>⟨l.length-(i+1),by omega,s,h,w,a1,Z,F,rfl,a3⟩,λx A y=>?_⟩
    obtain⟨U,W⟩:=yl x A y;cases c:g l[i] k with
    |none=>rw[c]at a;exact a.elim
    |some h =>
     rw[c]at a;simp only at a;refine⟨ρ',k,hd',l[i],h,u.same U,W,c,λD S=>⟨ρ',h,hd',S,?_⟩⟩;have r:Ext ρ' z ρ' A:=Ext.same U;cases I:b h hd' with
     |nx σ3 G=>rw[I]at a;exact λB K o j n=>⟨o,σ3,G,M.trans .iX,n,cF.ext .iX a⟩
     |ct σ3 G=>rw[I]at a;exact λB K o j n=>⟨o,σ3,G,M.trans .iX,n,cF.ext .iX a⟩
     |bk σ3 G=>rw[I]at a;exact λB K o j n=>a B K o .iX n
     |rt d G=>rw[I]at a;exact λv K o j n rv=>a v K o .iX n rv
     |exc x σ3 G=>rw[I]at a;exact a
     |bad=>rw[I]at a;exact a
   ·rw[y3 C]at a;exact a.elim
  ·have e0:i=l.length:=by omega
   subst e0;rw[List.drop_length]at a;unfold gu at a
   by_cases C:dC L l hd'
   ·rw[z4 C]at a
    exact .inl ⟨R.stop ρ' z hd' M u.hp C,a σ' z ρ' Ext.refl u⟩
   ·rw[y3 C]at a;exact a.elim
def Cq{b:SF}(hp:.lx)(K:MT X c t)(J:MSs X body b):MS X (.While c body [] pos) (rH t b):=by
 refine PS.imp (LS hp K J) λEn σ H ⟨ρ,σd,E,G,p⟩=>?_;unfold rH at p;refine⟨λm σ' C=>∃ρ' a hd',RS X.K ρ' C a hd' σ'/\cF X.K ρ' C (eU t b m a hd') En,⟨o7 t b σd E,ρ,σd,E,G,p⟩,?_⟩;rintro m σ' C ⟨ρ',a,hd',A,f⟩;cases m with
 |zero=>exact f.elim
 |succ m =>
  unfold eU at f;refine⟨ρ',a,hd',A,?_⟩;cases e:t a hd' with
  |exc x B=>rw[e]at f;exact f
  |bad=>rw[e]at f;exact f
  |ok c B =>
   rw[e]at f;intro L F u k w q;cases q;cases c with
   |false=>dsimp[YH,XZ]at f⊢;exact f σ' F u k w
   |true =>
    dsimp[XH]at f⊢;refine⟨λg D=>∃s l z,RS X.K s D l z g/\cF X.K s D (eU t b m l z) En,λg D q=>⟨m,Z9 _,q⟩,u,a,B,w,?_⟩;cases r:b a B with
    |nx g o=>rw[r]at f;exact λn y j h i=>⟨j,g,o,i,cF.ext .oq f⟩
    |ct g o=>rw[r]at f;exact λn y j h i=>⟨j,g,o,i,cF.ext .oq f⟩
    |bk g o=>rw[r]at f;exact λn y j h i=>f n y j .oq i
    |rt d o=>rw[r]at f;exact λv y j h i I=>f v y j .oq i I
    |exc x g o=>rw[r]at f;exact f
    |bad=>rw[r]at f;exact f
theorem Mn(r:.aP)(g:H q=some .fQ)(b:.fm)(hz:.uI):wc K ρ H (Itt K q) l none where
 go:=λρ' e hd' i d a m _ h=>by
  have k:=r.kp a;obtain⟨v,f,j⟩:=(b.mono k).get h;have c:SqT K e q vs:=SqT.of (k.tup q vs g);refine⟨⟨vs,v,c,f⟩,λx n y=>?_⟩;obtain⟨rfl,y⟩:=y;have:=y vs c;rw[f]at this;cases this;exact⟨kR.refl _,j⟩
 stop:=λρ' e hd' a m _=>⟨vs,SqT.of ((r.kp a).tup q vs g),by rw[b.length];exact ZL _⟩
 sz:=by rw[b.length];exact hz
theorem Mo(r:.aP)(g:t8 K H q vs)(b:.fm)(hz:.uI):wc K ρ H (Itl K q) l none where
 go:=λρ' e hd' i d a m _ h=>by
  have k:=r.kp a;obtain⟨v,f,j⟩:=(b.mono k).get h;have c:SqL K e q vs:=(g.mono k).sq;refine⟨⟨vs,v,c,f⟩,λx n y=>?_⟩;obtain⟨rfl,y⟩:=y;have:=y vs c;rw[f]at this;cases this;exact⟨kR.refl _,j⟩
 stop:=λρ' e hd' a m _=>⟨vs,(g.mono<|r.kp a).sq,by rw[b.length];exact ZL _⟩
 sz:=by rw[b.length];exact hz
theorem Mp(m:ρ[n]?=some q)(hz:l.length<=sizeLine):wc K ρ H (Itl K q) l (some n) where
 sz:=hz
 go:=λρ' j hd' i d b f g o=>by
  obtain⟨a,e,c⟩:=f.cel n _ q g (b.get m);obtain⟨v,k,p⟩:=c.get o;have h:SqL K j q a:=SqL.of e;refine⟨⟨a,v,h,k⟩,λx r y=>?_⟩;obtain⟨rfl,y⟩:=y;have:=y a h;rw[k]at this;cases this;exact⟨kR.refl _,p⟩
 stop:=λρ' j hd' b f g=>by
  obtain⟨a,e,c⟩:=f.cel n _ q g (b.get m);exact⟨a,SqL.of e,by rw[c.length];exact ZL _⟩
def Tl{l:Expr}(t:.w l n):PI X tg l (λσ H R=>n σ H λx f=>(∃a xs,x=.ref a/\SqL X.K f a xs/\(xs.length<=sizeLine->R (Itl X.K a) f))\/∃a xs,x=.ref a/\SqT X.K f a xs/\(xs.length<=sizeLine->R (Itt X.K a) f)):=by
 intro pins s σ H R I h;refine thn (t pins s σ H _ I h) λv d ⟨x,f,c,m,q1⟩=>?_;rcases q1 with ⟨a,xs,e,k,q⟩|⟨a,xs,e,k,q⟩
 ·subst e
  cases m;obtain⟨g,r,p,j⟩:=c.list k;refine zZs p.isList ?_;refine⟨d.heap.objs.size,[d.heap.objs.size],_,_,f,rfl,c.kept λb o e=>.H e,JC a _,⟨_,ZJ _ rfl,rfl,rfl⟩,λb i=>?_,q j⟩;have e:b=d.heap.objs.size:=by simpa using i
  subst e;exact c.fpOk .o .s8
 ·subst e
  cases m;obtain⟨g,r,p,j⟩:=c.tuple k;refine XY (show d.heap.IsTuple a g.toArray from p) ?_;refine⟨d.heap.objs.size,[d.heap.objs.size],_,_,f,rfl,c.kept λb o e=>.H e,E2 a _,⟨_,ZJ _ rfl,rfl,rfl⟩,λb i=>?_,q j⟩;have e:b=d.heap.objs.size:=by simpa using i
  subst e;exact c.fpOk .o .s8
def cK(h:.dm):MI X tg e (cU f):=by
 refine PI.imp (Tl h) λσ H R ⟨ρ,σd,u,y,p⟩=>⟨ρ,σd,u,y,?_⟩;unfold cU at p;cases e:f σd u with
 |exc x A=>rw[e]at p;exact p
 |bad=>rw[e]at p;exact p
 |ok d s =>
  rw[e]at p;dsimp[aE]at p;intro v t i j b k;cases d<;>try exact p.elim
  ·rename_i l
   dsimp[rD,RD]at k;obtain⟨q,m,rfl,r,g⟩:=k;exact .inr ⟨q,m,rfl,SqT.of r,λo=>p _ t i j b (Mn b.hp r g o)⟩
  ·rename_i n
   dsimp[rD,RD]at k;obtain⟨a,w,rfl⟩:=k;cases c:s[n]? with
   |none=>dsimp[c]at p;exact p.elim
   |some cell =>
    cases cell with
    |dct l=>dsimp[c]at p;exact p.elim
    |dcT l=>dsimp[c]at p;exact p.elim
    |ob l=>dsimp[c]at p;exact p.elim
    |lst l =>
     dsimp[c]at p;obtain⟨m,z,g⟩:=b.hp.cel n _ a c w;exact .inl ⟨a,m,rfl,SqL.of z,λo=>p _ t i j b (Mp w (by rw[g.length];exact o))⟩
  ·rename_i l
   dsimp[rD,RD]at k;obtain⟨q,m,rfl,r,g⟩:=k;exact .inl ⟨q,m,rfl,r.sq,λo=>p _ t i j b (Mo b.hp r g o)⟩
theorem we(lo:Int)(n:Nat)(hz:n<=2000000):wc K ρ H (Itr lo n) ((.t).map λk:Nat=>.int (lo+k)) none where
 go:=λρ' f hd' i d g c _ b=>by
  have a:i<n:=by
   have:=(z0.mp b).1;simpa using this
  refine⟨a,λx h y=>?_⟩;obtain⟨rfl,rfl⟩:=y;have e:d=.int (lo+i):=by simpa[a] using b.symm
  subst e;exact⟨kR.refl _,by dsimp[RD]⟩
 stop:=λρ' f hd' g c _=>by
  show n<=_;simp
 sz:=by
  have:(2000000:Nat)<=sizeLine:=by rw[YG];decide
  simp;omega
def c0(m:.pD)(hm:.pf)(q:.g a f)(i:autoParam (.aS X.env=.ii) Q3Q._auto_1):MI X tg (.bU .pP) (bZ f):=by
 refine PI.imp (JD m hm (cx q dE i) i) λσ H R ⟨ρ,σd,j,o,b⟩=>⟨ρ,σd,j,o,?_⟩;unfold bZ at b;cases e:f σd j with
 |exc x s=>rw[e]at b;exact b
 |bad=>rw[e]at b;exact b
 |ok d r =>
  rw[e]at b;dsimp[aE]at b;intro v l c h g k;cases d<;>try exact b.elim
  rename_i n
  simp only at b;dsimp[rD,RD]at k;subst k;split at b
  ·rename_i t
   refine⟨n,rfl,by omega,by omega,b _ l c h g ?_⟩;have:=we (K:=X.K) (ρ := c) (H:=l) 0 n.toNat .a;simpa using this
  ·exact b.elim
def oG(A:.pD)(hm:.pf)(G:.g a f)(y:.g b g)(u:autoParam (.jM X.env=.mp) Q3Q._auto_1)(h:autoParam (.jO X.env=.nf) Q3Q._auto_1):MI X tg (.jH .pP) (gM f g):=by
 refine PI.imp (JE A hm (cx G (cx y dE h) (by rw[u,h])) u h) λσ H R ⟨ρ,σd,z,F,c⟩=>⟨ρ,σd,z,F,?_⟩;unfold gM at c;cases e:f σd z with
 |exc x C=>rw[e]at c;exact c
 |bad=>rw[e]at c;exact c
 |ok d k =>
  rw[e]at c;dsimp[aE]at c;intro v J m q s w;refine⟨m,σd,k,s,?_⟩;cases r:g σd k with
  |exc x C=>rw[r]at c;exact c
  |bad=>rw[r]at c;exact c
  |ok D E =>
   rw[r]at c;dsimp[aE]at c;intro I B o n t l;cases d<;>try exact c.elim
   cases D<;>try exact c.elim
   rename_i i j
   simp only at c;dsimp[rD,RD]at w l;subst w l;split at c
   ·rename_i y
    exact⟨i,j,rfl,⟨by omega,by omega,by omega,by omega⟩,c _ B o (q.trans n) t (we i (j-i).toNat .a)⟩
   ·exact c.elim
end
noncomputable def AA{B d q:Expr}(F:∀e s,¬E e s)(I:.py)
  (turn:∀n s,I n s->wpAny .N A (pyNext it) (λr b => match r with
   |none=>R (.ok .next) b
   | some v=>wpAny .N A (letOwnedTupleGo d it v) (λ_ b => wpAny .N A (assign d env v) (λ_ l =>
     wpAny .N A (forIn u true λc r=>if r=true then do let ok <-isTrue c env (eval c env);pure (ForInStep.yield ok) else pure .ns) (λok g =>
      if ok=true then wpAny .N A (eval B env) (λx k =>
       wpAny .N A (call (.cu "list.append") [acc,x]) (λ_ j=>∃m,m<n/\I m j) E k) E g
      else ∃m,m<n/\I m g) E l) E b) E b) E s)
  (n:Nat) (h:I n s) :
  codeAny .N A (.compLoop (.hG B [⟨d,q,u,0⟩]) 0 it acc env) R s:=by
 refine codeAny_loop rfl I (λn s G=>?_) n h;refine wpAny_noted ?_;rw[compTurn_list];have no:∀{α:Type} {t:Sem α} {Q C:α->P1->Prop} {D:.D} {s:P1},wpAny .N A t Q E s->(∀a s,Q a s->C a s)->wpAny .N A t C D s:=λh H=>zZg h H λe s z=>(F e s z).elim;refine zF (wpAny_standAt (zF (no (turn n s G) λr b f=>?_)));cases r with
 |none=>exact z3 f
 |some v =>
  refine zF (no f λ_ b f=>?_);refine zF (no f λ_ l p=>zF (no p λok g i=>?_));cases ok with
  |false=>exact z3 ⟨rfl,i⟩
  |true =>
   exact zF (zF<|no i λx k y=>zF (no y λ_ j o=>z3 (z3 ⟨rfl,o⟩)))
theorem pN:∀(l:List .iy) (cs:List .gZ),(∀y∈l,y.2=.free->∃c,env.cells.lookup y.1=some c)->
  ∃cl,(forIn l cs λ(x:Str × NameKind) (r:List .gZ)=>if (x.2 == .free)=true then do let a <-cellOf env x.1;pure .zI else pure .ns)=(pure cl:Sem _)/\
   (∀x c,cl.lookup x=some c->cs.lookup x=some c\/env.cells.lookup x=some c)/\(∀y∈l,y.2=.free->∃c,cl.lookup y.1=some c)/\∀x c,cs.lookup x=some c->∃t,cl.lookup x=some t
 |[],cs,_=>⟨cs,by simp,λx c h=>.inl h,λy f=>by simp at f,λx c h=>⟨c,h⟩⟩
 |(n,k)::l,cs,i=>by
  by_cases j:k=.free
  ·subst j
   obtain⟨c,s⟩:=i (n,.free) .d rfl;obtain⟨cl,m,p,o,g⟩:=pN l ((n,c)::cs) λy f=>i y (by simp[f]);refine⟨cl,?_,λx d h=>?_,λy f b=>?_,λx d h=>?_⟩
   ·rw[zYn]
    dsimp[beq_self_eq_true,XH,cellOf,s];exact m
   ·rcases p x d h with q|q
    ·rw[YC]at q
     cases e:x == n with
     |true =>
      rw[e]at q;have:x=n:=by simpa using e
      subst this;cases q;exact .inr s
     |false=>rw[e]at q;exact .inl q
    ·exact .inr q
   ·rcases xB.mp f with e|e
    ·subst e
     exact g n c (by simp[YC])
    ·exact o y e b
   ·by_cases e:x=n
    ·subst e
     exact g x c (by simp[YC])
    ·exact g x d (by rw[YC,beq_eq_false_iff_ne.mpr e];exact h)
  ·obtain⟨cl,m,p,o,g⟩:=pN l cs λy f=>i y (by simp[f])
   refine⟨cl,?_,p,λy f b=>?_,g⟩
   ·rw[zYn]
    have:(k == NameKind.free)=false:=by simpa using j
    dsimp[this,YH,XZ];exact m
   ·rcases xB.mp f with e|e
    ·subst e;exact absurd b j
    ·exact o y e b
def mz(b:∀y∈scope.names,y.2=.free->∃c,env.cells.lookup y.1=some c):
  ∃cl,closureFor scope env=pure cl/\(∀x c,cl.lookup x=some c->env.cells.lookup x=some c)/\∀y∈scope.names,y.2=.free->∃c,cl.lookup y.1=some c:=by
 obtain⟨cl,d,g,f,_⟩:=pN scope.names [] b;refine⟨cl,?_,λx c h=>(g x c h).elim .sC id,f⟩;unfold closureFor;have e:(forIn scope.names ([]:List .gZ) λ(x:Str × NameKind) (r:List .gZ)=>if (x.2 == .free)=true then do let a <-cellOf env x.1;pure .zI else pure .ns)=(pure cl:Sem _):=d;exact(congrArg (λt:Sem (List .gZ)=>t >>= λr=>pure r) e).trans rfl
def cxC(X:Cx)(N:.aq)(scope:Scope)(cl:List .gZ)(C:Addr)(s:P1)(H:Hp)(ex:.I):Cx where
 prog:=X.prog
 w:=X.w
 K:=X.K
 mg:=X.mg
 base:=X.base
 A:=X.A
 N:=N
 s₀ := s
 H₀ := H
 env:=compEnvC scope cl C X.env
 outer:=X.stack
 stack:=X.stack
 ex:=ex
 fn:=λ_=>false
 calm:=X.calm
 pn:=[]
 xe:=λ_ _=>False
/---/def MTs(X:Cx)(ifs:.aL)(cs:List TF):Prop :=
 ∀(pins:.J) (s:P1) (σ:St) (H:Hp) (Q:.pw),Inv X pins σ H s->nB X.K rB (i7 cs) σ H Q->
  wpAny .af X.A (forIn ifs true λc r=>if r=true then do let ok <-isTrue c X.env (eval c X.env);pure (ForInStep.yield ok) else pure .ns) .tq X.xe s
def cm:MTs X [] []:=λpins s σ H Q I ⟨ρ,σd,b,a,p⟩=>wpAny_tests_nil ⟨H,I,p.here a rfl⟩
def mB(h:MT X c t):MTs X [c] [t]:=λpins s σ H Q I ⟨ρ,σd,a,d,p⟩=>wpAny_tests_one (h pins s σ H Q I ⟨ρ,σd,a,d,by
 have e:i7 [t] σd a=t σd a:=by
  dsimp[i7];cases c:t σd a with
  |ok b f=>cases b<;>simp
  |exc x f=>rfl
  |bad=>rfl
 rw[e]at p;exact p⟩)
theorem nM{env:Env}{x:Str}:∀{names:List .iy} {k:NameKind},(.qe).lookup x=some k->
  ∃e,names.lookup x=some e/\(k=e\/(e=.free/\k=.cell))
 |[],_,h=>by simp at h
 |(n,c)::r,k,h=>by
  have f := @nM env x r k;have a:List.lookup x ((if .qu=true then (n,NameKind.cell) else (n,c))::_)=some k:=h;cases d:x == n with
  |true =>
   refine⟨c,by simp[YC,d],?_⟩
   by_cases b:.qu=true
   ·rw[z4 b]at a
    dsimp[YC,d,Y8]at a;dsimp[YB,beq_iff_eq]at b;exact .inr ⟨b.1.1,a.symm⟩
   ·rw[y3 b]at a
    dsimp[YC,d,Y8]at a;exact .inl a.symm
  |false =>
   have:List.lookup x ((n,c)::r)=List.lookup x r:=by simp[YC,d]
   rw[this];refine f ?_
   by_cases b:.qu=true
   ·rw[z4 b]at a;simpa only[YC,d] using a
   ·rw[y3 b]at a;simpa only[YC,d] using a
theorem jZ{x:Str}:∀{l:List .iy},l.lookup x=some k->(x,k)∈l
 |[],h=>by simp at h
 |(n,a)::r,h=>by
  rw[YC]at h;cases e:x == n with
  |true =>
   rw[e]at h;have:x=n:=by simpa using e
   subst this;cases h;exact ZV
  |false=>rw[e]at h;exact ZW _ (jZ h)
structure cu(X:Cx)(scope:Scope)(own capn:.aq)(caps:.i):Prop where
 kind:scope.kind=.function
 cell:∀y∈scope.names,y.2 ≠ .cell
 names:∀y∈scope.names,y.2=.local->scope.names.lookup y.1=some .local
 free:∀y∈scope.names,y.2=.free->X.env.kindOf y.1=some .cell\/X.env.kindOf y.1=some .free
 cap:∀(j:Nat) x,capn[j]?=some x->∃i,caps[j]?=some i/\X.N[i]?=some x/\scope.names.lookup x=some .free
 len:capn.length=caps.length
section
variable{σ:St}{C:Addr}{ex:.I}
/---/def stC(own:.aq)(caps:.i)(σ:St):St:=List.replicate own.length none++caps.map λi=>(σ[i]?).join
theorem Tm(I:.be v i)(S:.f6)(u:i.heap.objs.size<=C)(a:.uq)(g:.up)
  (n:∀b∈ex,vX X pins v b) (m:∀b∈ex,b<i.heap.objs.size):(.u7 i v ex).Ok where
 mod:=I.ok.mod
 kind:=S.kind
 glob:=I.ok.glob
 blt:=I.ok.blt
 above:=u
 inj:=λx y c D G=>I.ok.inj x y c (a x c D) (a y c G)
 has:=λx H=>by
  have f:∀k,(relabel scope X.env).names.lookup x=some k->k=.cell\/k=.free->∃c,cl.lookup x=some c:=λk h B=>by
   obtain⟨F,E,q⟩:=nM h;have w:=jZ E;have:F=.free:=by
    rcases q with q|q
    ·subst q
     rcases B with e|e
     ·exact absurd e (S.cell _ w)
     ·exact e
    ·exact q.1
   exact g _ w this
  rcases H with h|h
  ·exact f _ h .a8
  ·exact f _ h .dn
 cab:=λx c h=>by cases h
 hd:=I.ok.hd
 frames:=I.ok.frames
 stk:=.inl rfl
 exf:=λb d=>by
  obtain⟨s,p,j,r,l,t⟩:=n b d;exact⟨λz=>absurd (Z0 (m b d) u) .eY,λx c e=>l x c (a x c e)⟩
 bs:=I.bs
 bsz:=ZM I.ok.bsz I.sz
 noex:=λb o e d=>by
  obtain⟨s,p,j,r,l,t⟩:=n b d;rcases r with z|z
  ·exact I.ok.noex b o e z
  ·exact absurd (Z0 (ZI (.kS).1) z) (YF _)
 exfs:=λb d A=>by
  obtain⟨s,p,j,r,l,t⟩:=n b d;rcases xB.mp (I.stkSub b A) with z|z
  ·exact p z
  ·exact j z
 funs:=I.stack
 frf:=I.stkFree
theorem qt{env:Env}{x:Str}:∀{names:List .iy},names.lookup x=some .free->
  (.qe).lookup x=some .cell\/
  (.qe).lookup x=some .free
 |[],h=>by simp at h
 |(n,b)::r,h=>by
  have d := @qt env x r;show List.lookup x .wQ=_\/List.lookup x .wQ=_;cases a:x == n with
  |true =>
   dsimp[YC,a,Y8]at h;subst h
   by_cases c:(NameKind.free == NameKind.free&&env.scope.kind == .function&&env.kindOf n == some .cell)=true
   ·rw[z4 c];exact .inl (by dsimp[YC,a])
   ·rw[y3 c];exact .inr (by dsimp[YC,a])
  |false =>
   dsimp[YC,a]at h
   by_cases c:.vf=true
   ·rw[z4 c];dsimp[YC,a];exact d h
   ·rw[y3 c];dsimp[YC,a];exact d h
def P9(h:.nF[i]?=some .dR):∃j k,i=own.length+j/\caps[j]?=some k/\σ[k]?=some .dR:=by
 unfold stC at h
 by_cases a:i<own.length
 ·rw[ZC .io]at h
  simp[a]at h
 ·rw[ZD .Cd]at h
  dsimp[zZn,ZQ]at h;cases c:caps[i-own.length]? with
  |none=>rw[c]at h;cases h
  |some k =>
   rw[c]at h;dsimp[zo,Y8]at h;refine⟨i-own.length,k,by omega,c,?_⟩;cases e:σ[k]? with
   |none=>rw[e]at h;cases h
   |some o=>rw[e]at h;dsimp[Option.join_some]at h;rw[h]
theorem JR{f}(I:.be q f)(S:.f6)(w:f.heap.objs.size<C)(a:.uq)(d:.up)
  (M:∀b∈ex,vX X pins q b) (s:∀b∈ex,b<f.heap.objs.size) {h1:Heap} (E:h1.Ns C m) (l:∀b o,f.heap.get? b=some o->h1.get? b=some o)
  (H:h1.get? f.heap.objs.size=some { cls:=.type "list",data:=.seq #[] }) :
  Inv (.u7 f q ex) [] .nF (upd q f.heap.objs.size<|.lst []) { f with heap:=h1,toks:=tk } where
 ok:=Tm I S (XF w) a d M s
 os:=rfl
 bare:=I.bare
 base:=Un.laid l .o .dJ
 loc:=by
  refine⟨m,E,λi x v P J Q=>?_⟩;obtain⟨j,k,rfl,F,t⟩:=P9 J;have A:capn[j]?=some x:=by
   have:.jW[own.length+j]?=some x:=P;rw[ZD .a]at this;simpa using this
  obtain⟨R,q1,q2,q3⟩:=S.cap j x A;rw[F]at q1;cases q1;have D:=jZ q3;have B:=S.free _ D rfl;obtain⟨U,G,L⟩:=I.loc;obtain⟨u,r,N⟩:=L k x v q2 t (.inr B);refine⟨u,r,.inr ⟨qt q3,?_⟩⟩;rcases N with ⟨z,_⟩|⟨_,c,O,o,h,n⟩
  ·rcases B with e|e<;>(rw[z]at e;cases e)
  ·obtain⟨T,g⟩:=d _ D rfl
   have:=a _ _ g;rw[O]at this;cases this;exact⟨c,g,o,l c o h,n⟩
 cell:=λx c e=>by
  obtain⟨v,o,h,n⟩:=.hR (a x c e);exact⟨v,o,l c o h,n⟩
 free:=by
  show upd q _ _ C=none;rw[aS (YA w)];exact I.hok.fresh (XF w)
 freeC:=λx c e=>by
  obtain⟨v,o,h,n⟩:=.hR (a x c e);rw[aS (ZN<|ZI h)];exact I.freeC x c (a x c e)
 pin:=λp K=>absurd (show p∈([]:List .eO) from K) .d
 hok:=I.hok.laid l .o ⟨YR _,[],0,.nil,H⟩
 len:=by
  show (.nF).length=(.jW).length;simp[stC,S.len]
end
def RS.other{d:Addr}{ys b:List V}(r:.jk)(h:H d=some .fU)(n:d∉ρ):RS K ρ .sM σd hd σ/\.bY ρ .sM:=by
 have k:.bY ρ .sM:=⟨λ_ _ h=>h,λa j e=>by
  rw[aS .rx];exact e,λa o u e=>by
  rw[aS .rx];exact e,λa i e=>by
  rw[aS .rx];exact e⟩
 refine⟨⟨⟨r.hp.len,r.hp.nd,λm c a g f=>(r.hp.cel m c a g f).mono k (aS λz=>n (by rw[<-z];exact ZK f))⟩,r.st.mono k⟩,k⟩
def Ext.other{d:Addr}(e:.pv)(h:H d=none):Ext ρ H ρ' (upd a d o) :=
 ⟨e.pre,e.new,λp u b n=>by rw[aS (cr b h)];exact e.frame p u b n⟩
def Cr(h:slot (fS a caps σd) i=some d):∃j k,i=a+j/\caps[j]?=some k/\slot σd k=some d:=by
 unfold fS at h;dsimp[slot]at h
 by_cases b:i<a
 ·rw[ZC .sS]at h
  simp[b]at h
 ·rw[ZD (by simpa using zYz b)]at h
  dsimp[zZn,ZQ]at h;cases c:caps[i-a]? with
  |none=>rw[c]at h;cases h
  |some k =>
   rw[c]at h;dsimp[zo]at h;refine⟨i-a,k,by omega,c,?_⟩;dsimp[slot]
   revert h
   cases e:σd[k]? with
   |none=>simp
   |some o=>cases o<;>simp
structure ub(K:ZX)(ρ0:.I)(H0:Hp)(J:It)(l:List D)(G:Hd->Prop):Prop where
 go:∀ρ H hd (i:Nat) d,Ext ρ0 H0 ρ H->RH K ρ H hd->G hd->l[i]?=some d->J.go i H/\∀x H',J.yld i H x H'->kR H H'/\RD K ρ H' d x
 stop:∀ρ H hd,Ext ρ0 H0 ρ H->RH K ρ H hd->G hd->J.stop l.length H
 sz:l.length<=sizeLine
def wc.g{g:.fn}(w:wc K ρ H J l g):ub K ρ H J l (dC g l):=⟨w.go,w.stop,w.sz⟩
structure CD where
 i:Nat
 ys:List V
 acc:List D
 rest:List D
 ρ:List Addr
 σd:Sd
 hd:Hd
 H:Hp
 σ:St
structure CI(X:Cx)(own capn:.aq)(scope:Scope)(cl:List .gZ)(s2:P1)(C:Addr)(H1:Hp)(ρ1:.I)(fp:.I)(tn:.pr)(G:Hd->Prop)(g:GF)(cs:List TF)(e:EF)(l:List D)(hdF:Hd)(ds:List D)(d:CD)(s':P1):Prop where
 le:d.i<=l.length
 inv:Inv (.u7 s2 H1 fp) [] d.σ d.H s'
 st:tn d.i s'.heap
 fr:∀b∈fp,d.H b=none
 at':d.H s2.heap.objs.size=some (.lst d.ys)
 out:s2.heap.objs.size∉d.ρ
 yl:d.ys.length<=d.i
 ex:Ext ρ1 H1 d.ρ d.H
 rs:RS X.K d.ρ d.H d.σd d.hd d.σ
 ac:RDs X.K d.ρ d.H d.acc d.ys
 run:dQ G g cs e (l.drop d.i) d.σd d.hd=.ok d.rest hdF
 eq:d.acc++d.rest=ds
section
variable{σ:St}
def Fq{f}{b:Hd}(S:.f6)(r:RS X.K a f σd b σ){d:Addr}(hd:f d=none):RS X.K a (upd f d<|.lst []) .ie b .nF:=by
 have c:=cA (o:=HO.lst []) hd;refine⟨r.hp.same c,⟨by simp[stC,fS],λi x e=>?_⟩⟩;obtain⟨j,k,rfl,l,g⟩:=Cr e;obtain⟨v,h,m⟩:=r.st.at' k x g;refine⟨v,?_,m.mono (.cv c)⟩;unfold stC;rw[ZD .d];simp[l,h]
def oH{f}{c9 tg a6:Expr}{e:EF}{K:.I}{E:.D}{RR:S1->Addr->Result->P1->Prop}
  (hc:.aU) (S:.f6) (e6:∀cl C s H ex,MG .b1 tg g/\MTs .b1 b9 cs/\ME .b1 c9 e)
  (I1:.be F f) (T:Cd X.prog X.w X.K tg J L it tn) (d8:tn 0 f.heap) (hf:∀b∈L,vX X pins F b) (d0:RS X.K K F σd b7 σ) (wk:ub X.K K F J l G)
  (b3:.uq) (d4:.up)
  (run:dQ G g cs e l .ie b7=.ok ds a3)
  (f6:∀C s' m j ρ' vs,f.heap.objs.size < C->s'.heap.Ns C m->Inv X pins σ j s'->j C=none->Ext K F ρ' j->RH X.K ρ' j a3->F f.heap.objs.size=none->j f.heap.objs.size=some .g7->f.heap.objs.size ∉ ρ'->RDs X.K ρ' j ds vs->
   RR .qZ C (.ok .next) s') :
  wpAny .af X.A (newList []) (λacc A => wpAny .af X.A (newFunctionEnv scope X.env.globals cl [] X.env.qual none .none<|some X.env) (λa8 d7 =>
   codeAny .af X.A (.compStart (.hG c9 [⟨tg,a6,b9,0⟩]) 0 .fb acc { a8 with scope:=relabel scope X.env }) (RR acc a8.locals) d7) E A) E f:=by
 refine YV (wpAny_newFunctionEnv S.cell (by intro y hy;simp at hy) (λP t h=>?_) S.kind);dsimp only at t h⊢;generalize hH2:f.heap.push { cls:=.type "list",dict:=none,data:=.seq ([]:List S1).toArray }=O at t h⊢;have hC:O.objs.size=f.heap.objs.size+1:=by rw[<-hH2,YI]
 have e3:f.heap.objs.size≠O.objs.size:=by rw[hC];exact ZN (Z9 _)
 have d2:∀b o,f.heap.get? b=some o->P.get? b=some o:=λb o e=>h.extBut b o (by rw[hC];exact ZN (ZZ .dh)) (.H<|hH2▸ZH _ e);have d6:P.get? f.heap.objs.size=some { cls:=.type "list",data:=.seq #[] }:=.hQ e3 (.H<|hH2▸ZJ _ rfl);have c6:∀b∈L,b<f.heap.objs.size:=λb B=>by
  obtain⟨o,ho,_⟩:=T.obj 0 _ d8 b B;exact ZI ho
 have d9:f.heap.objs.size<O.objs.size:=by rw[hC];exact Z9 _
 have Y:F f.heap.objs.size=none:=I1.hok.fresh .o;have e1:tn 0 P := T.keep 0 _ _ d8 λb B o e=>d2 b o e;have e8:f.heap.objs.size∉K:=d0.hp.free Y;obtain⟨hG,hT,hE⟩:=e6 cl O.objs.size f F L;have I':=JR (tk:=f.toks+([]:List .i0).length) I1 S d9 b3 d4 hf c6 t d2 d6;have b6:∀{pins':.J} {j:Hp},(∀b∈L,j b=none)->∀b∈L,vX .j9 [] j b:=λ{pins' j} hn b B=>by
  obtain⟨f0,f1,f2,f3,f4,f5⟩:=hf b B;have lt:=c6 b B;refine⟨hn b B,λz=>absurd lt (by rw[show b=O.objs.size from z,hC];exact zZf.mpr (zYt _)),λz=>?_,.inl B,λx c e=>f4 x c (b3 x c e),λp hp=>absurd (show p∈([]:List .eO) from hp) .d⟩;rcases xB.mp (I1.stkSub b z) with q|q
  ·exact f1 q
  ·exact f2 q
 have b1:∀A:P1,A = { f with heap:=P,toks:=f.toks+([]:List .i0).length }->
   codeAny .af X.A (.compLoop (.hG c9 [⟨tg,a6,b9,0⟩]) 0 .fb .qZ<|compEnvC scope cl O.objs.size X.env) (RR .qZ O.objs.size) A := by
  rintro A rfl;refine AA (λ_ _ z=>z) (λn s'=>∃d:CD,n=l.length-d.i/\CI X own capn scope cl f O.objs.size F K L tn G g cs e l a3 ds d s') ?_ l.length
   ⟨⟨0,[],[],ds,K,_,b7,_,_⟩,by simp,YR _,I',e1,λb B=>?_,bw,e8,ZL _,Ext.same (cA Y),Fq S d0 Y,RDs.nil,by simpa using run,rfl⟩
  ·rintro n s' ⟨⟨i,ys,acc,rest,ρ',N,hd',j,σ'⟩,rfl,U⟩
   have g5:i<=l.length:=U.le;have I':Inv .j9 [] σ' j s':=U.inv;have e2:tn i s'.heap:=U.st;have d5:∀b∈L,j b=none:=U.fr;have c1:j f.heap.objs.size=some .fU:=U.at';have b5:f.heap.objs.size∉ρ':=U.out;have d1:ys.length<=i:=U.yl;have ex:Ext K F ρ' j:=U.ex;have a1:RS X.K ρ' j N hd' σ':=U.rs;have b2:RDs X.K ρ' j acc ys:=U.ac;have a:dQ G g cs e (l.drop i) N hd'=.ok rest a3:=U.run;have a5:acc++rest=ds:=U.eq
   by_cases hlt':i<l.length
   ·have e7:l[i]?=some l[i]:=by simp[hlt']
    rw[zXd hlt']at a;unfold dQ at a
    by_cases hh:G hd'
    ·rw[z4 hh]at a
     obtain⟨go,yl⟩:=wk.go ρ' j hd' i _ ex a1.hp hh e7;cases c:g l[i] N with
     |none=>rw[c]at a;cases a
     |some σd2 =>
      rw[c]at a;simp only at a;refine thn (T.item .j9 rfl rfl rfl hc i [] s' σ' j .nT I' (b6 (pins':=[]) d5) e2 go) λr a9 ⟨u,hr,h4⟩=>?_;subst hr;refine thn h4 λ_ s5 zz=>?_;obtain⟨x,H5,I5,r5,y5,b8,e9⟩:=zz;obtain⟨sm,rx⟩:=yl x H5 y5;have g4:=I5.pinned (b6 (pins':=[]) e9) (T.obj _ _ b8);have f7:=a1.same sm;refine thn (hG _ s5 σ' H5 x u (λk H6=>H6=H5/\RS X.K ρ' H5 σd2 hd' k) g4 r5 ⟨ρ',N,hd',l[i],σd2,f7,rx,c,λk c5=>⟨rfl,c5⟩⟩) λ_ s6 ⟨k,H6,I6,e5,c5⟩=>?_;subst e5;cases c2:i7 cs σd2 hd' with
      |exc z h7=>rw[c2]at a;cases a
      |bad=>rw[c2]at a;cases a
      |ok b a4 =>
       rw[c2]at a;dsimp[aE]at a;refine thn (hT _ s6 k H6 (λb' H7=>b'=b/\∃w,Ext ρ' H6 w H7/\RS X.K w H7 σd2 a4 k) I6 ⟨ρ',σd2,hd',c5,by
        rw[c2];exact λb' H7 w c8 W q=>⟨q.symm,w,c8,W⟩⟩) λb' s7 zz=>?_;obtain⟨H7,I7,g2,w,c8,W⟩:=zz
       subst g2;have a7:∀{d3:St} {R:Hp} {s8:P1},Inv .j9 ([]++vY L s5.heap) d3 R s8->tn (i+1) s8.heap/\∀b∈L,R b=none:=λ{d3 R s8} I8 =>
        ⟨T.keep _ _ _ b8 λb B o e=>(.yw).1,λb B=>by
         obtain⟨o,e,d⟩:=T.obj _ _ b8 b B;exact (.yw).2.1⟩
       have V:Ext ρ' j w H7:=(.eH sm).trans c8;have a0:H7 f.heap.objs.size=some .fU:=V.frame _ _ c1 b5;have Z:=V.out c1 b5;have a2:=b2.mono (a1.hp.kp V);cases b' with
       |false =>
        dsimp[YH,XZ]at a⊢;obtain⟨g3,f8⟩:=a7 I7;exact⟨l.length-(i+1),by omega,⟨i+1,ys,acc,rest,w,σd2,a4,H7,k⟩,rfl,hlt',I7.unpinned,g3,f8,a0,Z,zZt d1,ex.trans V,W,a2,a,a5⟩
       |true =>
        dsimp[XH]at a⊢;cases c3:e σd2 a4 with
        |exc z h7=>rw[c3]at a;cases a
        |bad=>rw[c3]at a;cases a
        |ok d c7 =>
         rw[c3]at a;dsimp[aE]at a;cases c4:dQ G g cs e (l.drop<|i+1) σd2 c7 with
         |exc z h7=>rw[c4]at a;cases a
         |bad=>rw[c4]at a;cases a
         |ok rest' g6 =>
          rw[c4]at a;dsimp[aE,Res.ok.injEq]at a;obtain⟨M,hF⟩:=a;subst M hF;refine thn (hE _ s7 k H7 (λv R=>∃I,Ext w H7 I R/\RS X.K I R σd2 c7 k/\RD X.K I R d v) I7 ⟨w,σd2,a4,W,by
           rw[c3];exact λv R I Q c0 q=>⟨I,Q,c0,q⟩⟩) λu8 s8 zz=>?_;obtain⟨v8,R,I8,r8,I,Q,c0,e4⟩:=zz
          have b0:R f.heap.objs.size=some (.lst ys):=Q.frame _ _ a0 Z;have b4:=Q.out a0 Z;refine thn (yH _ s8 k R (.ref f.heap.objs.size) [v8] (.ref f.heap.objs.size) [u8] (λ_ H9=>H9=upd R f.heap.objs.size (.lst<|ys++[v8])) I8 rfl (.cons r8 .nil) ⟨_,ys,v8,rfl,rfl,b0,by have:=wk.sz;omega,rfl⟩) λu9 s9 ⟨v9,H9,I9,r9,q9⟩ => ?_;subst q9;obtain⟨g0,f9⟩:=a7 I9;obtain⟨g1,k9⟩:=c0.other b0 b4;exact⟨l.length - (i + 1),by omega,⟨i + 1,ys++[v8],acc++[d],rest',I,σd2,c7,_,k⟩,rfl,hlt',I9.unpinned,g0,f9,bw,b4,by simp;exact d1,(ex.trans<|V.trans Q).other Y,g1,
           ((a2.mono<|W.hp.kp Q).mono k9).append (.hH<|e4.mono k9),c4,by rw[<-a5];simp⟩
    ·rw[y3 hh]at a;cases a
   ·have e0:i=l.length:=by omega
    subst e0;rw[List.drop_length]at a;unfold dQ at a
    by_cases hh:G hd'
    ·rw[z4 hh]at a
     dsimp[Res.ok.injEq]at a;obtain⟨M,hF⟩:=a;subst M hF;rw[XA]at a5;subst a5;refine thn (T.done .j9 rfl rfl rfl hc _ [] s' σ' j .nT I' (b6 (pins':=[]) d5) e2<|wk.stop ρ' j hd' ex a1.hp hh) λr a9 ⟨hr,I4⟩=>?_;subst hr;obtain⟨m,hm,_⟩:=I4.loc;refine f6 O.objs.size a9 m j ρ' ys d9 hm ?_ I4.free ex a1.hp Y c1 b5 b2;exact I1.call' I4.os I4.base I4.hok I4.bare λb B=>by
      obtain⟨f0,f1,f2,f3,f4,f5⟩:=hf b B;exact⟨f3,f1,f4,f5⟩
    ·rw[y3 hh]at a;cases a
  ·show upd F _ _ b=none
   rw[aS (ZN<|c6 b B)];exact(hf b B).1
 exact codeAny_compStart_list (b1 _ rfl) (T.self _ 0 _ _ _ e1<|b1 _ rfl)
end
section
variable{pos:Pos}
def gQ{f:IF}{e:EF}(hc:.aU)(S:.f6)(hi:MI X tg a f)
  (N:∀cl C s H ex,MG .b1 tg g/\MTs .b1 t cs/\ME .b1 w e)
  (hs:autoParam (∀x,foldedSetIterable a X.env x=pure x) Q2Q._auto_1):MF X (.hG w [⟨tg,a,t,0⟩]) .zR:=by
 intro pins s σ H Q I ⟨ρ,σd,U,V,p⟩;rw[eval_ListComp];unfold bD at p;cases c:f σd U with
 |exc z Y=>rw[c]at p;exact p.elim
 |bad=>rw[c]at p;exact p.elim
 |ok q i =>
  obtain⟨l,W⟩:=q;rw[c]at p;dsimp[aE]at p;obtain⟨cl,F,r,k⟩:=mz λy hy E=>I.ok.has y.1 (S.free y hy E);refine zYa rfl hs F S.kind S.names (thn (hi pins s σ H (λJ B=>∃d,Ext ρ H d B/\RS X.K d B σd i σ/\wc X.K d B J l W) I ⟨ρ,σd,U,V,by
   rw[c];exact λJ G ρ' ex O P=>⟨ρ',ex,O,P⟩⟩) λv s1 F=>thn F λa0 s2 h2=>?_)
  obtain⟨it,fp,tn,J,B,rfl,n,T,L,hf,d,h,j,P⟩:=h2;cases D:cz W l g cs e l .ie i with
  |exc z Y=>rw[D]at p;exact p.elim
  |bad=>rw[D]at p;exact p.elim
  |ok ds hdF =>
   rw[D]at p;refine oH hc S N n T L hf j P.g r k ((Ac _ _ _).symm.trans D) λC s' m G ρ' vs A hn I' M ex rh u Z K R=>?_;refine⟨m,hn,λh' sb=>⟨.ref s2.heap.objs.size,G,?_,rfl,?_⟩⟩
   ·refine I'.turned .mN M ?_ (.inr<|XF<|ZS n.sz A) (λx c e z=>?_) λq hq z=>?_
    ·exact YA (Z3 n.lt A)
    ·obtain⟨v,o,ho,U⟩:=n.cell x c e
     exact absurd (Z3 (ZI ho) A) .eY
    ·exact absurd (Z3 (ZI (n.pin q hq).1) A) .eY
   ·exact p _ vs G ρ' (h.trans ex) (V.ext (h.trans ex) rh) (h.fresh u<|j.hp.free u) Z K R
def ky{f:IF}{e:EF}(hN:.hy)(a8:.eB)(hx:.ht)(hc:.aU)(S:.f6)(hi:MI X tg h f)
  (a4:∀cl C s H ex,MG .b1 tg g/\MTs .b1 w cs/\ME .b1 A e)
  (b3:autoParam (swapsWith (.ListComp A [⟨tg,h,w,0⟩] scope k) .wz pos.line X.env=pure true) Q3Q._auto_1)
  (hs:autoParam (∀x,foldedSetIterable h X.env x=pure x) Q2Q._auto_1) (b0:autoParam (X.fn x=true\/X.env.scope.names.lookup x=some .local) Q0Q._auto_1) :
  MS X (.Assign .nS (.ListComp A [⟨tg,h,w,0⟩] scope k) pos) (aG (gN i)<|aW .zR):=by
 intro pins s σ H En I ⟨ρ,σd,hd,rs,p⟩;rw[exec_Assign_Name_used _ _ _ _ b3];refine zF (wpAny_standAt ?_);have d:=cF.outE (σ := σ) p;unfold aW bD at d;cases c:f σd hd with
 |exc z h7=>rw[c]at d;exact d.elim
 |bad=>rw[c]at d;exact d.elim
 |ok q B =>
  obtain⟨l,gd⟩:=q;rw[c]at d;dsimp[aE]at d;obtain⟨cl,W,P,F⟩:=mz λy hy V=>I.ok.has y.1 (S.free y hy V);refine zF (zF (zYa rfl hs W S.kind S.names (thn (hi pins s σ H (λJ Q=>∃j,Ext ρ H j Q/\RS X.K j Q σd B σ/\wc X.K j Q J l gd) I ⟨ρ,σd,hd,rs,by
   rw[c];exact λJ u ρ' ex b2 wk=>⟨ρ',ex,b2,wk⟩⟩) λv s1 W=>thn W λb5 n h2=>?_)))
  obtain⟨it,fp,tn,J,Q,rfl,O,T,a7,hf,j,D,E,wk⟩:=h2;cases U:cz gd l g cs e l .ie B with
  |exc z h7=>rw[U]at d;exact d.elim
  |bad=>rw[U]at d;exact d.elim
  |ok ds hdF =>
   rw[U]at d;dsimp[aE]at d
   by_cases hz:ds.length<=SZ
   ·rw[z4 hz]at d
    refine oH hc S a4 O T a7 hf E wk.g P F ((Ac _ _ _).symm.trans U) λC s' m u ρ' vs R hn I' a2 ex rh M hD Z a6=>?_;refine wpAny_assign_Name (yz I' hN a8 hx (v:=.ref n.heap.objs.size) rfl (λa5 a9 a3=>?_) b0);have N:C≠X.env.locals:=YA (Z3 O.lt R);have K:∀y c,X.env.cells.lookup y=some c->c≠C:=λy c e z=>by
     obtain⟨v,o,ho,hd⟩:=O.cell y c e;exact absurd (Z3 (ZI ho) R) .eY
    refine⟨m,?_,λh' sb=>z3 .aa⟩
    ·obtain⟨a,sa,ha⟩:=a3
     refine hn.sameBut sa ?_;rcases ha with z|z
     ·rw[z];exact N
     ·exact XO (K _ _ z)
    ·have I3:Inv X pins (σ.set i<|some<|.ref n.heap.objs.size) u { a5 with heap:=h' }:=a9.turned .mN a2 N (.inr<|XF<|ZS O.sz R) K λq hq z =>
      absurd (Z3 (ZI (O.pin q hq).1) R) .eY
     have r:.bX ρ' u:=D.trans ex;have a0:=rh.alloc hD Z a6;have b1:H n.heap.objs.size=none:=D.fresh M (E.hp.free M);have G:.bX .AP u:=⟨by obtain⟨t,rfl⟩:=r.pre;exact⟨t++[n.heap.objs.size],by simp⟩,λa ha=>by
      rcases Z1.mp ha with z|z
      ·exact r.new a z
      ·simp at z;subst z;exact .inr b1,r.frame⟩
     obtain⟨a1,d2,b4,e2,L,Y,pn⟩:=d (.ref n.heap.objs.size) u .AP G (rs.ext G a0) (by
      dsimp[rD,RD];refine⟨n.heap.objs.size,?_,rfl⟩;rw[<-rh.len];simp)
     exact⟨_,u,I3,pn _ u a1 Ext.refl ⟨L.hp,L.st.set i Y⟩⟩
   ·rw[y3 hz]at d;exact d.elim
end
end Fm
namespace Fm
open PySem PySem.Spec L2 PyProof.Rows
mutual
noncomputable def rfs(k:Nat):D->Prop
 |.ref n=>n<k
 |.tup l=>kX k l
 |.lit l=>kX k l
 |.exn _ l=>kX k l
 |_=>True
noncomputable def kX(k:Nat):List D->Prop
 |[]=>True
 |x::xs=>rfs k x/\kX k xs
end
section
variable{K:ZX}{ρ ρ' t:.I}
mutual
theorem RD.rfs:∀{d:D} {v:V},RD K ρ H d v->Fm.rfs ρ.length d
 |.non,_,_=>by dsimp[Fm.rfs]
 |.bl _,_,_=>by dsimp[Fm.rfs]
 |.int _,_,_=>by dsimp[Fm.rfs]
 |.str _,_,_=>by dsimp[Fm.rfs]
 |.tup l,_,h=>by
  dsimp[RD]at h;obtain⟨p,vs,_,_,b⟩:=h;dsimp[Fm.rfs];exact RDs.rfs b
 |.lit l,_,h=>by
  dsimp[RD]at h;obtain⟨p,vs,_,_,b⟩:=h;dsimp[Fm.rfs];exact RDs.rfs b
 |.ref n,_,h=>by
  dsimp[RD]at h;obtain⟨a,c,_⟩:=h;dsimp[Fm.rfs];exact (.fV).1
 |.exn _ l,_,h=>by
  dsimp[RD]at h;rcases h with ⟨_,rfl,_⟩|⟨_,p,vs,_,_,b⟩
  ·dsimp[Fm.rfs,Fm.kX]
  ·dsimp[Fm.rfs];exact RDs.rfs b
theorem RDs.rfs:∀{l:List D} {vs:List V},RDs K ρ H l vs->Fm.kX ρ.length l
 |[],_,_=>by dsimp[Fm.kX]
 |d::ds,_,h=>by
  dsimp[RDs]at h;obtain⟨v,r,_,h1,a⟩:=h;dsimp[Fm.kX];exact⟨RD.rfs h1,RDs.rfs a⟩
end
mutual
theorem RD.cut:∀{d:D} {v:V},RD K (ρ++t) H d v->Fm.rfs ρ.length d->.bF d v
 |.non,_,h,_=>by dsimp[RD]at h⊢;exact h
 |.bl _,_,h,_=>by dsimp[RD]at h⊢;exact h
 |.int _,_,h,_=>by dsimp[RD]at h⊢;exact h
 |.str _,_,h,_=>by dsimp[RD]at h⊢;exact h
 |.tup l,_,h,q=>by
  dsimp[RD]at h⊢;dsimp[Fm.rfs]at q;obtain⟨p,vs,e,h1,b⟩:=h;exact⟨p,vs,e,h1,RDs.cut b q⟩
 |.lit l,_,h,q=>by
  dsimp[RD]at h⊢;dsimp[Fm.rfs]at q;obtain⟨p,vs,e,h1,b⟩:=h;exact⟨p,vs,e,h1,RDs.cut b q⟩
 |.ref n,_,h,q=>by
  dsimp[RD]at h⊢;dsimp[Fm.rfs]at q;obtain⟨a,h1,b⟩:=h;exact⟨a,by rwa[ZC q]at h1,b⟩
 |.exn _ l,_,h,q=>by
  dsimp[RD]at h⊢;dsimp[Fm.rfs]at q;rcases h with h|⟨c,p,vs,e,h1,b⟩
  ·exact .inl h
  ·exact .inr ⟨c,p,vs,e,h1,RDs.cut b q⟩
theorem RDs.cut:∀{l:List D} {vs:List V},RDs K (ρ++t) H l vs->Fm.kX ρ.length l->.aw l vs
 |[],_,h,_=>by dsimp[RDs]at h⊢;exact h
 |d::ds,_,h,q=>by
  dsimp[RDs]at h⊢;dsimp[Fm.kX]at q;obtain⟨v,r,e,h1,a⟩:=h;exact⟨v,r,e,RD.cut h1 q.1,RDs.cut a q.2⟩
end
mutual
theorem qu:∀{d:D},pure? d=true->Fm.rfs k d
 |.non,_=>by dsimp[Fm.rfs]
 |.bl _,_=>by dsimp[Fm.rfs]
 |.int _,_=>by dsimp[Fm.rfs]
 |.str _,_=>by dsimp[Fm.rfs]
 |.tup l,h=>by dsimp[pure?]at h;dsimp[Fm.rfs];exact jK h
 |.lit l,h=>by dsimp[pure?]at h;dsimp[Fm.rfs];exact jK h
 |.exn _ l,h=>by dsimp[pure?]at h;dsimp[Fm.rfs];exact jK h
 |.ref _,h=>by dsimp[pure?]at h;cases h
theorem jK:∀{l:List D},fK l=true->Fm.kX k l
 |[],_=>by dsimp[Fm.kX]
 |x::xs,h=>by
  dsimp[fK,YB]at h;dsimp[Fm.kX];exact⟨qu h.1,jK h.2⟩
end
noncomputable def Mq(k:Nat):bJ->Prop
 |.lst l=>Fm.kX k l
 |.dct l=>Fm.kX k .b6
 |.dcT l=>Fm.kX k .b6
 |.ob l=>Fm.kX k l
def RC.rfs(h:RC K ρ H c a):Mq ρ.length c:=by
 cases c with
 |lst l=>obtain⟨d,_,b⟩:=h;exact b.rfs
 |dct l=>obtain⟨d,_,_,b⟩:=h;exact b.rfs
 |dcT l=>obtain⟨d,_,_,b⟩:=h;exact b.rfs
 |ob l=>obtain⟨_,_,_,_,b,_⟩:=h;exact b.rfs
def RC.cut(h:RC K (ρ++t) H c a)(q:Mq ρ.length c):RC K ρ H c a:=by
 cases c with
 |lst l=>obtain⟨b,d,e⟩:=h;exact⟨b,d,e.cut q⟩
 |dct l=>obtain⟨b,d,e,f⟩:=h;exact⟨b,d,e,f.cut q⟩
 |dcT l=>obtain⟨b,d,e,f⟩:=h;exact⟨b,d,e,f.cut q⟩
 |ob l=>obtain⟨b,C,g,d,e,f⟩:=h;exact⟨b,C,g,d,e.cut q,f⟩
def AB(h:qe c=true):Mq k c:=by
 cases c with
 |lst l=>exact jK h
 |ob l=>exact jK h
 |dcT l =>
  have:∀l:List .qm,.B6=true->Fm.kX k .b6:=by
   intro l
   induction l with
   |nil=>intro _;dsimp[X3,Fm.kX]
   |cons x l a=>intro h;dsimp[zZy,YB]at h;simp;exact⟨qu h.1,a h.2⟩
  exact this l h
 |dct l =>
  have:∀l:List .mB,.B6=true->Fm.kX k .b6:=by
   intro l
   induction l with
   |nil=>intro _;dsimp[X3,Fm.kX]
   |cons x l a=>intro h;dsimp[zZy,YB]at h;simp;exact⟨qu h.1,a h.2⟩
  exact this l h
def RH.back(r:.aP)(d:RH K (ρ++t) h hd')(o:HG hd hd'):RH K ρ h (hd'.take hd.length):=by
 have g:(ρ++t).length=hd'.length:=d.len;refine⟨by rw[yo,<-g,ZB,<-r.len];omega,(X4.mp d.nd).1,λn c a e f=>?_⟩;have b:n<hd.length:=by rw[<-r.len];exact (.lo).1
 rw[List.getElem?_take_of_lt b]at e;have q:=d.cel n c a e (by rw[ZC (by rw[r.len];exact b)];exact f);refine q.cut ?_;rcases o n c b e with z|z
 ·exact(r.cel n c a z f).rfs
 ·exact AB z
/---/def uc(K:ZX)(ρ:.I)(H:Hp)(r:Res D)(Q:VK):Prop:=match r with
 |.ok d hd'=>∀v H' ρ',Ext ρ H ρ' H'->RH K ρ' H' hd'->RD K ρ' H' d v->Q v H'
 |_=>False
/---/def spF(K:ZX)(F:Fn)(np:Nat):Sp:=λvs H Q _=>∃ρ hd ds,RH K ρ H hd/\RDs K ρ H ds vs/\ds.length=np/\uc K ρ H (F ds hd) Q
def Ext.short(e:.bX (ρ++t) a):.bX ρ a:=⟨⟨[],by simp⟩,λ_ h=>.inl h,e.frame⟩
def uc.letGo(h:.aP)(p:uc K ρ H (letGo hd r) Q):uc K ρ H r Q:=by
 cases r with
 |exc x g=>exact p
 |bad=>exact p
 |ok d g =>
  intro v f ρ' b a e;dsimp[Fm.letGo]at p;split at p
  ·rename_i c
   obtain⟨t,rfl⟩:=b.pre;exact p v f ρ b.short (h.back a c.2) (e.cut<|qu c.1)
  ·exact p v f ρ' b a e
def uc.runB(p:uc K ρ H (runB n b ds hd) Q):cF K ρ H (b .qR hd) { nx:=λ_ c=>Q .non c,rt:=Q }:=by
 unfold Fm.runB at p;cases e:b .qR hd with
 |nx σ a=>rw[e]at p;exact λσ' c ρ' g f=>p .non c ρ' g f.hp .vm
 |rt d a=>rw[e]at p;exact p
 |bk σ a=>rw[e]at p;exact p.elim
 |ct σ a=>rw[e]at p;exact p.elim
 |exc x σ a=>rw[e]at p;exact p.elim
 |bad=>rw[e]at p;exact p.elim
def yM(r:.aw ds vs):RSt K ρ H (ds.map some++List.replicate (N.length-ds.length) none) (L2.nG N vs):=by
 have c:=r.length;refine⟨by simp[L2.nG,c],λi d e=>?_⟩;dsimp[slot]at e
 by_cases a:i<ds.length
 ·rw[ZC .io]at e
  dsimp[ZQ,ZE a,zo]at e;cases e;obtain⟨v,f,q⟩:=r.get (i:=i) (d:=ds[i]) (by simp[a]);refine⟨v,?_,q⟩;unfold L2.nG;rw[ZC .S];simp[f]
 ·rw[ZD .Cd]at e
  dsimp[List.getElem?_replicate]at e
  by_cases b:i-(List.map some ds).length<N.length-ds.length
  ·dsimp[b,XH]at e;cases e
  ·dsimp[b,XZ]at e;cases e
end
structure Def(P:N3)(w:N6)(K:ZX)(mg:.ap)(base:Heap)(x:Str)(k np:Nat)(F:Fn):Prop where
 ex:∃f fd ps,mg x=some .ak/\.dv .ak=true/\jU K fd ps []/\.eJ CX0 k f fd ps .it
section
variable{K:ZX}
def R1{st:Stmt}(F:Fun K x x st f fd)(S:fM N ps .c9)
  (body:.C3) :
  ie P w K mg base CX0 (k+1) f fd ps .xH:=by
 refine F.ok S .wt λa A outer s H h Q E j ⟨ρ,g,i,d,c,e,p⟩=>⟨_,body a A outer s H E j,ρ,_,g,⟨d,yM c⟩,?_⟩;dsimp[bE,e,XH]at p;exact(uc.letGo d p).runB
def Def.mk'(hm:mg x=some .ak)(a:.uw)(b:jU K fd ps [])(h:.eJ CX0 k f fd ps .it):.F x k np F:=⟨f,fd,ps,hm,a,b,h⟩
end
section
variable{pos p:Pos}
def vt(hd:.Dg)(E:gF k X.A)(o:.U x)(I:MA X (e::i) r)(m:.ur)
  (j:autoParam (.aY=false) Q1Q._auto_1) (he:autoParam (starEach (e::i) X.env=(false,.az X.env)::starEach i X.env) Q3Q._auto_1) (hpl:autoParam ((.zp).any (·.1)=false) Q3Q._auto_1) :
  ME X (.cT .fp (e::i)) (av F r):=by
 obtain⟨f,K,L,q,G,A,s⟩:=hd.ex;refine PE.imp (PP s E o q G A .nil Mf I j he hpl) λσ H Q ⟨ρ,σd,hd,w,D⟩=>⟨ρ,σd,hd,w,(.av D).imp λJ M zz=>?_⟩;obtain⟨l,ds,b,N,g,y,a⟩:=zz;rw[XA];cases c:F ds b with
 |exc z h'=>rw[c]at a;exact a.elim
 |bad=>rw[c]at a;exact a.elim
 |ok d u =>
  rw[c]at a;refine⟨l,b,ds,g.hp,y,m _ _ _ _ c,?_⟩;rw[c];exact λv t ρ' n C B=>a v t ρ' n (g.ext n C) B
def ik:∀ds h d h',bE np n b ds h=.ok d h'->ds.length=np:=by
 intro ds h d h' e;unfold bE at e;split at e
 ·assumption
 ·cases e
end
def Vx{l:PySem.W.OpenLaw}{XP:.uS}{d:DefRec}{K:Params->ZX}{F:Fn}{k:Nat}{x:Str}(A:l.most=some 63)(i:.uD)(G:gF k callerA)
  (M:∀(w:N6) (h:Heap),j w h->(.db).In h)
  (E:∀(w:N6) (mg:.ap) (r:Addr) (h:Heap),(.db).In h->h.Ns mainGlobals mg->mg d.name=some (.ref r)->
   ∃fd:FuncData,(∀(s:P1) (u:S1),.jR ⟨[u],[]⟩ [(x,u)])/\∀base:Heap,(.db).In base->base.Ns mainGlobals mg->ie l.prog w .db mg base CX0 k r fd [x] (spF .db F 1))
  (g:∀ns:List Int,ns.length<=63->∃h,F .lc []=.aN h) :
  PySem.W.WalkO q b XP j l.row.toRowW d [] .rR:=by
 refine L2.P5 A .b i G M E (λw H a ns p I t=>?_) λ_ _ _ _ _ z=>z;obtain⟨h,e⟩:=g ns p;have m:t8 .db H a .bN:=by
  rcases t with (z|⟨o,z⟩)|z
  ·rcases I a with y|⟨o,P,y⟩<;>(rw[z]at y;cases y)
  ·exact .inl ⟨o,z⟩
  ·exact .inr z
 have J:RDs .db [] H (ns.map D.int) .bN:=by
  clear p t e m g
  induction ns with
  |nil=>exact RDs.nil
  |cons n ns L=>exact .hO L
 refine⟨[],[],.lc,⟨rfl,zXs,λn c a B=>by simp at B⟩,RDs.cons (by dsimp[RD];exact⟨a,_,rfl,m,J⟩) RDs.nil,rfl,?_⟩;rw[e];intro v N ρ' O Q C;simpa only[RD] using C
end Fm
namespace Fm
open PySem PySem.Spec L2
open PyProof.Rows (Subscript_ tail_any)
noncomputable def tyS:Ty->String
 |.int=>"int" | .bool=>"bool" | .tuple=>"tuple" | .list=>"list" | .str=>"str"
def jF(t:Ty):typeOf .gC=pure (.type "type"):=by
 cases t
 ·exact F.isi_meta_int
 ·exact F.isi_meta_bool
 ·exact F.isi_meta_tuple
 ·exact F.isi_meta_list
 ·exact F.isi_meta_str
def Qa(t:Ty):isSubtype (.type "NoneType") .gC=pure false:=by cases t<;>(rw[XI];kernel_rfl)
def Tn(h:t ≠ .int):isSubtype .pT .lO=pure false:=by cases t<;>first|exact absurd rfl h|(rw[XI];kernel_rfl)
def Qb(h:t ≠ .int)(a:t ≠ .bool):isSubtype (.type "bool") .lO=pure false:=by cases t<;>first|exact absurd rfl h|exact absurd rfl a|(rw[XI];kernel_rfl)
def To(h:t ≠ .str):isSubtype (.type "str") .lO=pure false:=by cases t<;>first|exact absurd rfl h|(rw[XI];kernel_rfl)
def Mr(h:t ≠ .tuple):isSubtype (.type "tuple") .lO=pure false:=by cases t<;>first|exact absurd rfl h|(rw[XI];kernel_rfl)
def HU(h:t ≠ .list):isSubtype .pR .lO=pure false:=by cases t<;>first|exact absurd rfl h|(rw[XI];kernel_rfl)
def Qc(t:Ty):isSubtype (.type "dict") .gC=pure false:=by cases t<;>(rw[XI];kernel_rfl)
def oJ(t:Ty):isSubtype .gC .gC=pure true:=by cases t<;>(rw[XI];kernel_rfl)
def Cs:isSubtype (.type "bool") (.type<|tyS .int)=pure true:=by rw[XI];kernel_rfl
def ud(h:n≠tyS t):(Value.type n == Value.type .gD)=false:=by
 rw[beq_eq_false_iff_ne];intro e;cases e;exact h rfl
def Ft{a b:Ty}(h:a≠b):(a == b)=false:=by cases a<;>cases b<;>first|rfl|exact absurd rfl h
section
variable{X:Cx}{pos p:Pos}
def Tp{σ:St}(I:.p)(F:RH X.K ρ H hd)(i:RD X.K ρ H d v)(r:cw v u)(e:Jt hd t d=some b)
  (q:∀C,Inv X pins σ H C->Q (.bool b) C):.a2 .xj Q E s:=by
 have j:=q s I;have q1:=q .dE .fY;have g:∀{n:String},s.TypeIs u n->isSubtype (.type n) .gC=pure true->Q .kT s->.a2 .xj Q E s:=λf m L=>yb (isinstance_true (jF t) m) ⟨f,L⟩;cases d<;>dsimp[RD]at i<;>dsimp[Jt]at e
 ·subst i;cases r;cases e
  exact yb (isinstance_false_none .Av (jF t)<|Qa t) q1
 ·subst i;cases r
  by_cases f:t=.int
  ·subst f;cases e;exact g rfl Cs j
  ·by_cases m:t=.bool
   ·subst m;cases e;exact g rfl (oJ .bool) j
   ·rw[Ft f,Ft m]at e;cases e
    exact yb (isinstance_false_bool (by cases t<;>first|exact absurd rfl f|exact absurd rfl m|exact ud .b) (jF t)<|Qb f m) q1
 ·subst i;obtain⟨K,rfl⟩:=r
  by_cases f:t=.int
  ·subst f;cases e;exact g rfl (oJ .int) j
  ·rw[Ft f]at e;cases e
   exact yb (isinstance_false_int (by cases t<;>first|exact absurd rfl f|exact ud .b) (jF t)<|Tn f) q1
 ·subst i;obtain⟨K,rfl⟩:=r
  by_cases f:t=.str
  ·subst f;cases e;exact g rfl (oJ .str) j
  ·rw[Ft f]at e;cases e
   exact yb (isinstance_false_str (by cases t<;>first|exact absurd rfl f|exact ud .b) (jF t)<|To f) q1
 ·obtain⟨a,A,rfl,w,_⟩:=i
  cases r;obtain⟨x,_,o,h,y,_⟩:=kT I.hok w
  by_cases f:t=.tuple
  ·subst f;cases e;exact g ⟨o,h,y⟩ (oJ .tuple) j
  ·rw[Ft f]at e;cases e
   exact yb (isinstance_false_tuple (by cases t<;>first|exact absurd rfl f|exact ud .b) (jF t)<|Mr f) ⟨⟨o,h,y⟩,q1⟩
 ·rename_i n
  obtain⟨a,w,rfl⟩:=i;cases r;cases c:hd[n]? with
  |none=>rw[c]at e;cases e
  |some cell =>
   rw[c]at e;cases cell with
   |lst l =>
    obtain⟨A,B,_⟩:=F.cel n _ a c w;obtain⟨z,x,k,_,h⟩:=I.hok a _ B
    by_cases f:t=.list
    ·subst f;cases e;exact g ⟨_,h,rfl⟩ (oJ .list) j
    ·dsimp[Ft f]at e;cases e
     exact yb .vB ⟨⟨_,h,rfl⟩,q1⟩
   |dcT _=>cases e
   |ob _=>cases e
   |dct l =>
    obtain⟨A,B,_,_⟩:=F.cel n _ a c w;obtain⟨_,_,_,_,o,_,_,h,J,_⟩:=I.hok a _ B;cases e;exact yb (isinstance_false_dict .Av (jF t)<|Qc t) ⟨⟨o,h,J.1⟩,q1⟩
 ·obtain⟨a,A,rfl,w,_⟩:=i
  cases r;obtain⟨x,_,G,_⟩:=I.list w.sq;obtain⟨o,h,y,_⟩:=G.isList
  by_cases f:t=.list
  ·subst f;cases e;exact g ⟨o,h,y⟩ (oJ .list) j
  ·dsimp[Ft f]at e;cases e
   exact yb .vB ⟨⟨o,h,y⟩,q1⟩
 ·cases e
/---/def WR(K:ZX)(t:Ty):List V->Hp->VK->Prop:=λxs H Q=>∃ρ hd d v b,xs=[v,.ty .gD]/\RH K ρ H hd/\RD K ρ H d v/\Jt hd t d=some b/\Q .di H
def Ms(t:Ty):gE X (.cu "isinstance") (WR X.K t):=by
 intro pins s σ H m n Q I r h;obtain⟨ρ,k,d,v,b,rfl,j,i,e,q⟩:=h;obtain⟨u,c,rfl,g,a⟩:=bn.two r;cases (show c=Value.type .gD from a);exact Tp I j i g e λl f=>⟨.bl b,H,f,rfl,q⟩
def iV(q:.U "isinstance")(hm:X.mg "isinstance"=none)(k:.U n)(j:X.mg n=none)(s:bootBuiltins n=some .gC)(y:.g a o)
  (m:autoParam (starEach [a,.Name n f] X.env=(false,.aW X.env)::starEach [.Name n f] X.env) Q3Q._auto_1) (l:autoParam (starEach [.Name n f] X.env=(false,eval (.Name n f) X.env)::starEach [] X.env) Q3Q._auto_1) (r:autoParam (n≠"__name__") Q1Q._auto_1) (hd:autoParam ((n == ("__debug__" : Str))=false) Q1Q._auto_1) :
  ME X (.cT (.bw "isinstance") [a,.Name n f]) (i6 t o):=by
 refine PE.imp (jV (Ms t) q hm .T (cx y (cx (Pw (v:=.ty .gD) k j s rfl r hd) dE l) m) (he:=m)) λσ H Q ⟨ρ,σd,hd,u,x⟩=>⟨ρ,σd,hd,u,(.av x).imp λv z zz=>?_⟩;obtain⟨i,d,e,A,g,w,h⟩:=zz;cases c:Jt e t d with
 |none=>dsimp[c]at h;exact h.elim
 |some b=>dsimp[c]at h;exact⟨i,e,d,v,b,rfl,g.hp,w,c,h.here g .Y⟩
def c8:.ae .kQ (λx y H Q=>rI0 (λi j=>.int (i+j)) x y H Q\/L8 X.K x y H Q):=SS.or PY
def eB{K:ZX}:Og K cJ (λx y H Q=>rI0 (λi j=>.int (i+j)) x y H Q\/L8 K x y H Q):=by
 intro ρ H σd F σ d k v w Q r h e c;cases d<;>try exact c.elim
 ·cases k<;>try exact c.elim
  dsimp[RD]at h e;exact .inl ⟨_,_,h,e,c.here r .Y⟩
 ·rename_i l
  cases l with
  |nil=>exact c.elim
  |cons x E =>
   cases k<;>try exact c.elim
   rename_i C
   dsimp[cJ]at c;split at c
   ·rename_i B
    dsimp[RD]at h e;obtain⟨a,m,rfl,t,f⟩:=h;obtain⟨b,s,rfl,A,g⟩:=e;refine .inr ⟨a,b,m,s,rfl,rfl,SqT.of t,SqT.of A,?_,?_,λz=>?_,λ_ q D=>?_⟩
    ·intro z;subst z;have:=f.length;simp at this
    ·rw[<-f.length,<-g.length];exact vn B
    ·subst z
     have u:C=[]:=by have:=g.length;simpa using this
     subst u;exact c.here r (by dsimp[rD,RD];exact⟨a,m,rfl,t,by simpa using f⟩)
    ·have n:=cA (o:=HO.tup (m++s)) D
     exact c.at (.eH n) (r.same n) (by dsimp[rD,RD];exact⟨q,_,rfl,bw,(RDs.append f g).mono (.cv n)⟩)
   ·exact c.elim
def HV(i:.U "list")(hm:X.mg "list"=none)(o:MQ X a d)(f:autoParam (.aS X.env=(false,.aW X.env)::starEach [] X.env) Q3Q._auto_1):MF X (.bU<|.bw "list") d:=by
 refine PE.imp (rR Ar i hm .T (cx o dE f) (he:=f)) λσ H Q ⟨ρ,σd,g,n,b⟩=>⟨ρ,σd,g,n,?_⟩;cases e:d σd g with
 |exc x t=>rw[e]at b;exact b
 |bad=>rw[e]at b;exact b
 |ok l r =>
  rw[e]at b;intro v u k s c ⟨q,h,m,j,rvs⟩;subst m;exact⟨q,h,rfl,j.imp id SqT.of,b.mk s c rvs⟩
/---/def MO(X:Cx)(e:.lK)(f:OF):Prop:=PO X e (nB X.K rO f)
def nN:MO X none pNo:=λpins s σ H Q I ⟨ρ,σd,c,a,b⟩=>PV pins s σ H Q I (b.here a rfl)
def nO(h:.dm):MO X (some e) (pAt f):=λpins s σ H Q I ⟨ρ,σd,i,k,g⟩=>PX h pins s σ H Q I ⟨ρ,σd,i,k,(.av g).imp λv m ⟨j,d,l,n,a,b,c⟩=>by
 cases d<;>try exact c.elim
 dsimp[rD,RD]at b;exact⟨_,b,c.here a rfl⟩⟩
def AC{K:ZX}(r:.fm):.aw (cut l lo hi) (rS vs lo hi):=by
 have e:∀(n d:Nat) (o:.aK),Fm.sIx n d o=HT.sIx n d o:=λn d o=>by cases o<;>rfl
 unfold cut rS;rw[r.length,e,e];exact(r.drop _).take _
def i8(W:.g a I)(V:MO X lo J)(R:MO X hi L):.g (.d5 a<|.lU E) (dv I J L):=by
 refine PE.imp (wa (SlR.or PZ L7) W V R) λσ H Q ⟨ρ,σd,hd,O,G⟩=>?_;unfold dv at G;refine⟨ρ,σd,hd,O,(.av G).imp λv H1 zz=>?_⟩;obtain⟨C,d,A,e1,s,rv,S⟩:=zz;refine⟨C,σd,A,s,(.av S).imp λy H2 zz=>?_⟩;obtain⟨B,T,D,e2,x,q2,E⟩:=zz;cases q2;refine⟨B,σd,D,x,(.av E).imp λt z zz=>?_⟩;obtain⟨j,M,g,Z,f,q3,b⟩:=zz;cases q3;have k:=(rv.mono<|s.hp.kp e2).mono (x.hp.kp Z);have i:∀l,ee g d=some l->bP X.K .ew j z σd σ (.ok .h3<|g++[.lst (cut l y t)]) Q->Vr X.K v y t z Q:=λl c p=>by
  obtain⟨q,m,hv,N,h⟩:=oF f.hp k c;refine⟨q,m,hv,N,λu w=>?_⟩;have r:=cA (o:=HO.lst (rS m y t)) w;have Y:=f.hp.free w;have U:=(f.hp.same r).alloc bw Y ((AC h).mono (.cv r));have K:Ext j z (j++[u]) (upd z u<|.lst<|rS m y t):=Ext.alloc w;refine p.at K (f.ext K U) ?_;dsimp[rD,RD];exact⟨u,by rw[<-f.hp.len];simp,rfl⟩
 cases d with
 |tup l =>
  simp only at b;split at b
  ·exact b.elim
  ·rename_i P
   dsimp[RD]at k;obtain⟨q,m,rfl,w,h⟩:=k;have e:∀(n d:Nat) (o:.aK),Fm.sIx n d o=HT.sIx n d o:=λn d o=>by cases o<;>rfl
   refine .inr ⟨q,m,rfl,SqT.of w,by rw[<-h.length,<-e,<-e];exact P,λu F=>?_⟩;have r:=cA (o:=HO.tup (rS m y t)) F;exact b.at (.eH r) (f.same r) (by dsimp[rD,RD];exact⟨u,_,rfl,bw,(AC h).mono (.cv r)⟩)
 |ref n =>
  simp only at b;cases c:ee g .e4 with
  |none=>rw[c]at b;exact b.elim
  |some l=>rw[c]at b;exact .inl (i l c b)
 |lit l' =>
  simp only at b;cases c:ee g (.lit l') with
  |none=>rw[c]at b;exact b.elim
  |some l=>rw[c]at b;exact .inl (i l c b)
 |_=>exact b.elim
def jq{apos b:Pos}(W:.g o I)(he:.g e F)(q:autoParam (.eK "append" X.env .ce=eval o X.env) Q3Q._auto_1)
  (y:autoParam (((.jI b).all .e7 && (.lX b).all .e3
   && decide .hT)=true) Q3Q._auto_1)
  (i:autoParam ((apos.endLine == b.line)=true) Q3Q._auto_1) (K:autoParam (.l4 X.env=(false,.az X.env)::starEach [] X.env) Q3Q._auto_1) :
  ME X (.Call (.dq "append") [e] [] b) (jE I F):=by
 refine PE.imp (.u3 PySem.F.slot_list_append PySem.F.type_list_append yH W (cx he dE K) q y i K) λσ H Q ⟨ρ,σd,V,N,G⟩=>⟨ρ,σd,V,N,?_⟩;unfold jE at G;refine (.av G).imp λv Y zz=>?_;obtain⟨C,d,s,e1,t,M,g⟩:=zz;cases d<;>try exact g.elim
 rename_i n
 dsimp[rD,RD]at M;obtain⟨a,J,rfl⟩:=M;simp only at g;cases A:s[n]? with
 |none=>rw[A]at g;exact g.elim
 |some cell1 =>
  rw[A]at g;cases cell1 with
  |dct l=>exact g.elim
  |dcT l=>exact g.elim
  |ob l=>exact g.elim
  |lst Z =>
   obtain⟨R,T,_⟩:=t.hp.cel n _ a A J;simp only at g;refine⟨.inl ⟨rfl,R,SqL.of T⟩,C,σd,s,t,(.av g).imp λw E zz=>?_⟩;obtain⟨r,k,z,U,m,D,f⟩:=zz;dsimp[Sq]at f;cases c:z[n]? with
   |none=>rw[c]at f;exact f.elim
   |some cell =>
    rw[c]at f;cases cell with
    |dct l=>exact f.elim
    |dcT l=>exact f.elim
    |ob l=>exact f.elim
    |lst l =>
     simp only at f;split at f
     ·rename_i P
      have j:=U.get J;obtain⟨u,B,h⟩:=m.hp.cel n _ a c j;refine⟨a,u,w,rfl,rfl,B,?_,?_⟩
      ·rw[<-h.length];exact Z0 P .iv
      ·have S:n<z.length:=(.fV).1
       have O:=m.hp.write j S (RDs.append h<|.hH D);have L:Ext r E r (upd E a<|.lst<|u++[w]):=Ext.write (ZK j);exact f.at L (m.ext L O) .Y
     ·exact f.elim
end
end Fm
namespace Fm
open PySem PySem.Spec L2
open AutoSeq1 (wpAny_loadPart')
open PyProof.Rows (Call_)
def Qd(h:Value.type a=Value.type b)(n:a≠b):False:=by injection h with h;exact n h
def nP(l:Addr)(a:.bp)(n:Nat)(e:.co)(k:.ga):
  Meets (Builtin.«enumerate.__new__» ⟨[.type "enumerate",.ref l],[]⟩) (λ_ R s=>s.heap.get? l=some { cls:=.type "tuple",dict:=e,data:=.seq a n,slots:=k }/\
   R (.ok<|.ret<|.ref (.jY).objs.size)
    { s with heap:=(.jY).push { cls:=.type "enumerate",data:=.fields #[.none,.bool false,.ref s.heap.objs.size,rawInt 0,.none,.none] } }) :=
 .of_wp λprog w A R s h=>by
  obtain⟨o,g,d,m,j⟩:=s;obtain⟨b,h⟩:=h;have i:=sub_enumerate;have f:Heap.IsTuple (Shared.heap ⟨o,g,d,m,j⟩) l a:=⟨_,b,rfl,n,rfl⟩
  wp_walk using zb b
  refine wpAny_stack_any λp=>z3 ?_;split
  ·rename_i c _ _ _ _ _
   cases (c == Value.type "enumerate")
   ·wp_walk using zb b,XY f
    exact⟨_,rfl,h⟩
   ·wp_walk using zb b,XY f
    exact⟨_,rfl,h⟩
  ·wp_walk using zb b,XY f
   exact⟨_,rfl,h⟩
variable{l:Addr}
section
variable{prog:N3}{w:N6}{A:P2}{E:.D}{s:P1}
def nQ(p:s.heap.IsTuple l a)
  (h:∀h',IsEnum h' .ij s.heap.objs.size 0 .none->h'.IsTupleIter s.heap.objs.size l 0->h'.objs.size=s.heap.objs.size + 2->
   (∀b o,s.heap.get? b=some o->h'.get? b=some o)->Q (.ref .bI) .bj) :
  wpAny .N A (call (.type "enumerate") [.ref l]) Q E s:=by
 obtain⟨⟨c,g,m,k⟩,j,f,n,e⟩:=p;replace f:c=.type "tuple" := f;replace e:m=.seq a n:=e;subst f e;refine callType_new F.called_enumerate .b (F.typeCall_enumerate_1 _) (F.newCall_enumerate_1 _) .yK F.entry_enumerate_new
  (nP l a n g k) ⟨j,?_⟩
 have d:(.jY).objs.size=s.heap.objs.size + 1:=YI ..;show _/\_;rw[d];have i:IsEnum ((.jY).push
   { cls:=.type "enumerate",data:=.fields #[.none,.bool false,.ref s.heap.objs.size,rawInt 0,.none,.none] }) .bI s.heap.objs.size 0 .none:=by
  have:=ZJ .jY
   (o:={ cls:=.type "enumerate",data:=.fields #[.none,.bool false,.ref s.heap.objs.size,rawInt 0,.none,.none] }) rfl
  rw[d]at this;exact this
 refine⟨⟨_,i,rfl⟩,h _ i ⟨_,.H .ha,rfl,rfl⟩ (by rw[YI,d]) λb o x=>.H (.H x)⟩
def kA(b:s.heap.IsTupleIter it l i)
  (g:s.heap.IsTuple l a) (j:a[i]?=some x)
  (h:∀h',h'.IsTupleIter it l (i+1)->Heap.SameBut it s.heap h'->Q x .bj) :
  wpAny .N A .mG Q E s:=by
 obtain⟨o,d,k,c⟩:=id b;obtain⟨n,f,_,m,e⟩:=g;unfold Builtin.SmallTypes.nextOf;refine zF (YL (name:=Str.ofString "__next__") b.typeIs zZh
  (YP zZh b.typeIs F.entry_tuple_iterator_next ?_ .zj))
 show wpAny _ _ (field .fb 0 >>= _) _ _ s;refine zF (XR d c (x:=.ref l) rfl ?_);show wpAny _ _ .z4 _ _ s;rw[y3 (show ¬(.q7=true) from Z7)];show wpAny _ _ (field .fb 1 >>= _) _ _ s;refine zF (XR d c (x:=.int i 0) rfl ?_);show wpAny _ _ (seqItems? .hc >>= _) _ _ s;refine zF (X5 f e ?_);dsimp[zZu,j];refine zF (zZi d c .d (z3 ⟨x,rfl,z3 (h _ ?_<|X8 ..)⟩));exact⟨_,Y6 _ d (Obj.isFreed_of_fields<|Obj.data_mapFields c _),(Obj.cls_mapFields ..).trans k,by
  rw[Obj.data_mapFields c];simp[rawInt]⟩
def lC(j:.bT)
  (c:s.heap.IsTupleIter it l i) (k:s.heap.IsTuple l b) (p:b[i]?=none)
  (n:.C2) :
  wpAny .N A .mG Q E s:=by
 obtain⟨o,g,r,d⟩:=id c;obtain⟨t,h,_,q,f⟩:=k;unfold Builtin.SmallTypes.nextOf;refine zF (YL (name:=Str.ofString "__next__") c.typeIs zZh
  (YP zZh c.typeIs F.entry_tuple_iterator_next ?_ .zj))
 show wpAny _ _ (field (.ref it) 0 >>= _) _ _ s;refine zF (XR g d (x:=.ref l) rfl ?_);show wpAny _ _ .z4 _ _ s;rw[y3 (show ¬(.q7=true) from Z7)];show wpAny _ _ (field (.ref it) 1 >>= _) _ _ s;refine zF (XR g d (x:=.int i 0) rfl ?_);show wpAny _ _ (seqItems? (.ref l) >>= _) _ _ s;refine zF (X5 h f ?_);dsimp[zZu,p];refine zF (zYv (zF (zZi g d .d ?_)));show wpAny _ _ (newExc (.type "StopIteration") [] >>= _) _ _ _;refine zF ?_;dsimp[newExc,newTuple];refine zF .lP;refine zF (m:=firstArgMember _ _) (wpAny_of_eq (a:=Value.none) (by first|rfl|(dsimp[firstArgMember];rfl)) ?_);refine YV ?_ .re;dsimp[raiseNew];refine zF (wpAny_handled ?_)
 first|rw[show A.in1.handled=none from j] | rw[j]
 refine zF (z3 (wpAny_throw ?_));exact n _ _ (((X8 ..).extBut.push _).push _) ⟨_,ZJ _ rfl,rfl⟩
end
theorem Ct(p:.bT)(it l:Addr)(g:l≠it)(a:.bp):
  Draws prog w A it [it,l] a.size .Cs (λi h=>h.IsTupleIter it l i/\h.IsTuple l a) where
 live:=λ_ _ b=>let ⟨o,f,_⟩:=b.1;⟨o,f⟩
 frame:=λ_ _ _ b j=>⟨b.1.at λo e=>j it .d o e,let ⟨o,f,r⟩:=b.2;⟨o,j l .d o f,r⟩⟩
 item:=λi s Q E q b n=>by
  have k:a[i]?=some a[i]:=by simp[q]
  refine kA b.1 b.2 k λt c d=>?_;refine n _ t s.toks k ⟨c,?_⟩ d;obtain⟨o,f,r⟩:=b.2;exact⟨o,(d.2 l g).trans f,r⟩
 done:=λs Q E b m=>lC p b.1 b.2 .d m
noncomputable def itN:Bool->String
 |true=>"list_iterator"
 |false=>"tuple_iterator"
noncomputable def It2:Bool->Heap->Addr->Addr->Nat->Prop
 |true,h,i,l,k=>h.IsListIter i l k
 |false,h,i,l,k=>h.IsTupleIter i l k
noncomputable def Sq2:Bool->Heap->Addr->Array S1->Prop
 |true,h,l,xs=>h.IsList l xs
 |false,h,l,xs=>h.IsTuple l xs
noncomputable def SqM:Bool->ZX->Hp->Addr->List V->Prop
 |true,K,H,a,xs=>SqL K H a xs
 |false,K,H,a,xs=>SqT K H a xs
variable{h:Heap}{L:Bool}
def It2.mk(e:h.get? i=some { cls:=.type (itN L),data:=.fields #[.ref l,.int 0 0] }):It2 L h i l 0:=by
 cases L
 ·exact⟨_,e,rfl,rfl⟩
 ·exact⟨_,e,rfl,rfl⟩
def It2.obj(t:It2 L h i l k):∃o,h.get? i=some o/\∀v,o.data ≠ .cell v:=by
 cases L
 ·obtain⟨o,q,c,d⟩:=t
  exact⟨o,q,λv e=>by rw[d]at e;cases e⟩
 ·obtain⟨o,q,c,d⟩:=t
  exact⟨o,q,λv e=>by rw[d]at e;cases e⟩
def It2.at(t:It2 L h i l k)(a:∀o,h.get? i=some o->h'.get? i=some o):It2 L h' i l k:=by
 cases L
 ·obtain⟨o,q,r⟩:=t
  exact⟨o,a o q,r⟩
 ·obtain⟨o,q,r⟩:=t
  exact⟨o,a o q,r⟩
def It2.extBut(t:It2 L h a l k)(e:Heap.ExtBut b h h')(n:a≠b):It2 L h' a l k:=t.at λo q=>e _ _ n q
def Sq2.lt(t:.pB):l<h.objs.size:=by
 cases L
 ·obtain⟨o,q,_⟩:=t
  exact ZI q
 ·obtain⟨o,q,_⟩:=t
  exact ZI q
def mC(t:.pB)(e:Heap.ExtBut i h h')(n:l≠i):Sq2 L h' l xs:=by
 cases L
 ·obtain⟨o,a,r⟩:=t
  exact⟨o,e _ _ n a,r⟩
 ·obtain⟨o,a,r⟩:=t
  exact⟨o,e _ _ n a,r⟩
def nR{σ:St}(I:.uF)(h:SqM L X.K H a xs):∃b,bn xs b/\Sq2 L s.heap a b.toArray/\xs.length<=sizeLine:=by
 cases L
 ·exact I.tuple h
 ·obtain⟨b,r,p,z⟩:=I.list h
  exact⟨b,r,p.isList,z⟩
def AD{σ:St}(I:.uF)(h:SqM L X.K H a xs)(h':SqM L X.K H a ys):xs=ys:=by
 cases L
 ·exact I.tuple_inj h h'
 ·exact I.list_inj h h'
def It2.cl(t:It2 L h i l k):∃o,h.get? i=some o/\o.cls=.type (itN L):=by
 cases L
 ·obtain⟨o,q,c,d⟩:=t
  exact⟨o,q,c⟩
 ·obtain⟨o,q,c,d⟩:=t
  exact⟨o,q,c⟩
def Sq2.cl(t:.pB):∃o,h.get? l=some o/\o.cls=.type (bif L then "list" else "tuple"):=by
 cases L
 ·obtain⟨o,q,c,_⟩:=t
  exact⟨o,q,c⟩
 ·obtain⟨o,q,c,_⟩:=t
  exact⟨o,q,c⟩
def Mt(c:.bT)(it l:Addr)(b:l≠it)(a:.bp):
  Draws prog w A it [it,l] a.size .Cs (λi h=>It2 L h it l i/\Sq2 L h l a):=by
 cases L
 ·exact Ct c it l b a
 ·exact Draws.list c it l b a
/---/def ItG(L:Bool)(K:ZX)(a:Addr):It :=
 ⟨λi H=>∃xs x,SqM L K H a xs/\xs[i]?=some x,λi H x H'=>∃q v,x=.ref q/\H q=none/\H'=upd H q (.tup [.int (i:Nat),v])/\∀xs,SqM L K H a xs->xs[i]?=some v,λi H=>∃xs,SqM L K H a xs/\xs.length=i⟩
noncomputable abbrev Ite:ZX->Addr->It:=ItG false
noncomputable abbrev ItL:ZX->Addr->It:=ItG true
theorem yN{K:ZX}(e it a:Addr):Cd P w K (.Tuple elts k pos) (ItG L K a) [e,it] e (λi h=>(∃old,IsEnum h e it (i:Nat) old)/\It2 L h it a i) where
 mem:=by simp
 obj:=λi h l b d=>by
  obtain⟨⟨old,t⟩,l⟩:=l;rcases xB.mp d with rfl|d
  ·exact⟨_,t,λv z=>by
    have z':Data.fields _=Data.cell v:=z;cases z'⟩
  ·have:b=it:=by simpa using d
   subst this;exact l.obj
 keep:=λi h h' l kk=>by
  obtain⟨⟨old,t⟩,l⟩:=l;exact⟨⟨old,kk e .d _ t⟩,l.at λo x=>kk it .d o x⟩
 item:=by
  intro X hP hw hK hc i pins s σ H E I V l hg;subst hP hw hK;obtain⟨⟨old,t⟩,B⟩:=l;obtain⟨xs,x,hq,hx⟩:=hg;obtain⟨g,rv,W,hz⟩:=nR I hq;obtain⟨oi,C,G⟩:=B.cl;obtain⟨oa,j,f⟩:=W.cl;have J:e≠it:=λz=>by
   subst z;have F:s.heap.get? e=_:=t;rw[C]at F;cases F;exact Qd G .nl
  have a1:e≠a:=λz=>by
   subst z;have F:s.heap.get? e=_:=t;rw[j]at F;cases F;exact Qd f .nl
  have N:a≠it:=λz=>by
   subst z;rw[C]at j;cases j;rw[G]at f;exact Qd f .nl
  obtain⟨e0,e1,e2,e3,e4,e5⟩:=V e .d;obtain⟨f0,f1,f2,f3,f4,f5⟩:=V it .d;have a5:i<g.toArray.size:=by
   have:=(z0.mp hx).1;have hl:=rv.length;simp;omega
  refine wpAny_pyNext_enum_itemD .v4 t ⟨B,W⟩ a5 J (by simp;exact⟨J,a1⟩) λy h' U hy a3 R Q T hk=>?_;refine⟨_,rfl,wpAny_letOwnedTupleGo_enum a3 λh2 a0 D=>?_⟩;replace D:Heap.SameBut e h' h2:=D;obtain⟨u,hu,ru⟩:=rv.get hx;have a2:y=u:=by
   have:g.toArray[i]?=some u:=by simpa using hu
   rw[hy]at this;exact ZT this
  subst a2;have Z:e<s.heap.objs.size:=ZI t;have a6:it<s.heap.objs.size:=ZI C;have O:H s.heap.objs.size=none:=I.hok.fresh .o;have keep:∀b o,b≠e->b≠it->s.heap.get? b=some o->h2.get? b=some o:=λb o b1 b2 q=>(D.2 b b1).trans (hk b o b1 b2 q);have M:h2.get? s.heap.objs.size=some { cls:=.type "tuple",data:=.seq #[.int i U,y] }:=(D.2 _<|YA Z).trans Q;have p:∀b,b∉([e,it]:List Addr)->b≠e/\b≠it:=λb d=>by simpa using d
  refine⟨.ref s.heap.objs.size,.aA s.heap.objs.size .BL,?_,rfl,⟨_,x,rfl,O,rfl,λys a8=>by rw[AD I a8 hq];exact hx⟩,⟨⟨_,by simpa using a0⟩,R.1.extBut D.extBut (XO J)⟩,λb d=>?_⟩
  ·suffices I2:L2.Inv X pins σ (.pY .BL) { s with heap:=h2,gens:=s.gens,drawn:=s.drawn,toks:=U+1 } from I2
   refine I.step (g':=s.gens) (d':=s.drawn) (t':=U+1) (ch:=[e,it]) (λb d=>?_) (λb o _ _ d q _=>keep b o (p b d).1 (p b d).2 q) (λb o _ _ d q _=>⟨o.slots,keep b o (p b d).1 (p b d).2 q⟩) (λb o _ q n=>?_) (λb o d q=>⟨o,keep b o (p b d).1 (p b d).2 q⟩)
    (λb ys q=>?_) (λb o u q=>?_) (λb ps q=>⟨#[],?_⟩) (λm hm=>?_) (λb u q=>?_) I.bare
   ·rcases xB.mp d with rfl|d
    ·exact⟨e3,e1,e4,e5⟩
    ·have:b=it:=by simpa using d
     subst this;exact⟨f3,f1,f4,f5⟩
   ·rw[aS (ZN<|ZI q)];exact n
   ·rw[aS (cr q O)];exact q
   ·rw[aS (cr q O)];exact q
   ·rw[aS (cr q O),q];simp
   ·obtain⟨o,es,ep,ho,r⟩:=hm
    exact⟨o,es,ep,keep _ o (XO e1) (XO f1) ho,r⟩
   ·by_cases d:b=s.heap.objs.size
    ·subst d
     rw[bw]at q;cases q;exact⟨by show 2<=sizeLine;rw[YG];decide,[.int i U,y],.cons ⟨U,rfl⟩ (.cons ru .nil),_,M,rfl,_,rfl⟩
    ·rw[aS d]at q
     have Y:∀c v,H c=some v->c≠e:=λc v z w=>by rw[w,e0]at z;cases z
     have S:∀c v,H c=some v->c≠it:=λc v z w=>by rw[w,f0]at z;cases z
     refine(I.hok b u q).stay (λc v a4 z=>?_) (λc z=>by rw[aS (cr z O)];exact z) λc ys z=>by rw[aS (cr z O)];exact z
     rcases a4 with w|w
     ·subst w;exact keep c v (Y c _ q) (S c _ q) z
     ·exact keep c v (Y c _ w) (S c _ w) z
  ·have:b≠s.heap.objs.size:=by
    rcases xB.mp d with rfl|d
    ·exact ZN Z
    ·have:b=it:=by simpa using d
     subst this;exact ZN a6
   rw[aS this];exact(V b d).1
 done:=by
  intro X hP hw hK hc i pins s σ H E I V l hg;subst hP hw hK;obtain⟨⟨old,t⟩,B⟩:=l;obtain⟨xs,hq,hx⟩:=hg;obtain⟨g,rv,W,hz⟩:=nR I hq;obtain⟨oi,C,G⟩:=B.cl;obtain⟨oa,j,f⟩:=W.cl;have N:a≠it:=λz=>by
   subst z;rw[C]at j;cases j;rw[G]at f;exact Qd f .nl
  obtain⟨f0,f1,f2,f3,f4,f5⟩:=V it .d;have T:g.toArray.size=i:=by have:=rv.length;simp;omega
  refine wpAny_pyNext_enum_endD .v4 t ⟨by rw[T];exact B,W⟩ λh' a7=>⟨rfl,I.turned (t':=s.toks) (λb o d e=>a7 b o d e) f0 f1 f3 f4 f5⟩
 self:=λ_ _ _ _ _ l h=>by
  obtain⟨⟨old,t⟩,_⟩:=l;exact wpAny_pyIter_enum t h
section
variable{X:Cx}{pos p tp:Pos}{elts:.aL}{tk:Nat}
/---/def iEn(K:ZX)(ta:TE):TI:=λσ H R=>ta σ H λx H1=>∃a xs,x=.ref a/\SqT K H1 a xs/\(xs.length<=sizeLine->R (Ite K a) H1)
def Qe(y:.pl)(hm:.o2)(G:.w a k)(v:autoParam (.aS X.env=.ii) Q3Q._auto_1):PI X .jv .pE (iEn X.K k):=by
 intro pins s σ H R I h;have n:=cx G dE v;refine Call_ (kQ I y hm PyProof.Rows.boot_enumerate (XG (thn (n pos pins s σ H (λt c=>∃a d,t=.bQ/\SqT X.K c a d/\.mE) I ?_) λM f ⟨t,c,j,A,q1⟩=>?_) v rfl))
 ·show k σ H λx c=>_
  have m:∀(x:V) (c:Hp),(∃a d,x=.ref a/\SqT X.K c a d/\.mE)=(∃a d,[x]=.bQ/\SqT X.K c a d/\.mE):=λx c=>by simp
  have i:k σ H λx c=>∃a d,x=.ref a/\SqT X.K c a d/\.mE:=h;dsimp[m]at i;exact i
 ·obtain⟨a,d,e,J,q⟩:=q1
  subst e;obtain⟨u,rfl,B⟩:=bn.one A;cases (show u=Value.ref a from B);obtain⟨r,K,F,E⟩:=j.tuple J;refine nQ (show f.heap.IsTuple a r.toArray from F) λi w l D z=>?_;refine wpAny_pyIter_enum (s:=.nu) w ?_;have C:.be c .nu:=j.kept (t':=f.toks) z;refine⟨f.heap.objs.size+1,.yr,_,_,c,rfl,C,yN (L:=false) (f.heap.objs.size+1) f.heap.objs.size a,⟨⟨_,by simpa using w⟩,l⟩,λb o=>?_,q E⟩;have g:f.heap.objs.size<=b:=by
   rcases xB.mp o with e|o
   ·rw[e];exact zYt _
   ·have:b=f.heap.objs.size:=by simpa using o
    rw[this];exact ZL _
  exact j.fpOk g (j.hok.fresh g)
theorem JS{K:ZX}{l:List D}(r:.aP)(m:H q=some .fQ)(b:.fm)(hz:.uI):
  wc K ρ H (Ite K q) ((.ip).zip l |>.map λp=>.tup [.int (p.1:Nat),p.2]) none where
 go:=λρ' h hd' i d a u _ s=>by
  have k:=r.kp a;obtain⟨c,e⟩:=z0.mp s;have w:i<l.length:=by simpa using c
  have hd:d=.tup [.int (i:Nat),l[i]]:=by rw[<-e];simp
  subst hd;obtain⟨v,j,t⟩:=(b.mono k).get (i:=i) (d:=l[i]) (by simp[w]);have g:SqT K h q vs:=SqT.of (k.tup q vs m);refine⟨⟨vs,v,g,j⟩,λx A y=>?_⟩;obtain⟨q2,z,rfl,n,rfl,y⟩:=y;have:=y vs g;rw[j]at this;cases this;have f:=cA (o:=HO.tup [.int (i:Nat),v]) n;refine⟨f,?_⟩;dsimp[RD];exact⟨q2,_,rfl,bw,.hO (.hH<|t.mono<|.cv f)⟩
 stop:=λρ' h hd' a u _=>⟨vs,SqT.of ((r.kp a).tup q vs m),by rw[<-b.length];simp⟩
 sz:=by
  have:=b.length;simp;omega
def Qf(o:.pl)(hm:.o2)(w:.g a f)(r:autoParam (.aS X.env=.ii) Q3Q._auto_1):MI X .jv .pE (LB f):=by
 refine PI.imp (Qe o hm w r) λσ H R ⟨ρ,σd,k,s,b⟩=>⟨ρ,σd,k,s,?_⟩;unfold LB at b;cases e:f σd k with
 |exc x z=>rw[e]at b;exact b
 |bad=>rw[e]at b;exact b
 |ok d t =>
  rw[e]at b;dsimp[aE]at b;intro v y g h c j;cases d<;>try exact b.elim
  rename_i l
  dsimp[rD,RD]at j;obtain⟨q,n,rfl,m,i⟩:=j;exact⟨q,n,rfl,SqT.of m,λu=>b _ y g h c (JS c.hp m i u)⟩
end
end Fm
namespace Fm
open PySem PySem.Spec L2 PySem.W PyProof.Rows
section
variable{prog:N3}{w:N6}{A:P2}{s:P1}
def Fu(f:s.heap.get? a=some .z0)(m:vs.length<2)
  (h:P (.done<|.ret .none) { s with heap:=sortedHeap s.heap a vs vs.toArray }):.ao (Builtin.«list.sort» ⟨[.ref a],[]⟩) P E s:=by
 rw[list_sort_plain];have k:a<s.heap.objs.size:=ZI f;refine zF (listItems_at f rfl ?_);refine zF (zXi f rfl ?_);obtain⟨j,b⟩:∃j,(.ng).get? a=some .CA:=⟨_,XW f .lg⟩;refine zF (seqEpoch_at b rfl ?_);refine zF (wpAny_newTuple ?_);refine zF (zXj ?_);refine YZ ?_;have c:(((.ng).push .ry).push .h7).get? a=some .CA:=by
  rw[.bW (by rw[zYb,YW];exact ZN (ZZ k)),.bW (by rw[YW];exact ZN k)];exact b
 dsimp only;have g:vs.toArray.size=vs.length:=by simp
 have d:vs.toArray.size<2:=by rw[g];exact m
 rw[z4 d,z4 d];refine zF .aa;rw[StateT.run_pure];refine zF .aa;dsimp only;refine zF (seqEpoch_at c rfl ?_);refine zF (zXi c rfl ?_ (hsz2:=by rw[Array.size_map];show (pairsOf vs).size<=_;rw[pairsOf_size,YG];omega));dsimp[bne_self_eq_false,YH,XZ];have e:(arrOf<|SortSt.mk' general' .Al #[] 7 none).map (·.2)=vs.toArray:=by
  show (.Al).map (·.2)=vs.toArray;apply Array.ext
  ·simp
  ·intro i o m
   simp
 refine z3 ?_;have l:=h;unfold sortedHeap at l;rw[e];exact l
def Tq:∀(ns a:.c) {xs ys:List S1} (i:Nat),IntsAre xs ns->IntsAre ys a->Q (Fm.lexLt ns a) s->KatLex prog w A true (decide .Ct) Q (xs.zip ys) i s:=by
 intro ns
 induction ns with
 |nil =>
  intro a xs ys i d c h;cases d;cases a with
  |nil=>cases c;exact h
  |cons m a =>
   cases c;have b:Q true s:=h;exact b
 |cons n ns j =>
  intro a xs ys i d c h;cases d with
  |cons _ t r =>
   cases a with
   |nil =>
    cases c;have b:Q false s:=h;exact b
   |cons m a =>
    cases c with
    |cons _ f g =>
     rename_i xs ys
     refine kat_cons (zXm n t m f prog w _ _ ?_)
     by_cases e:n=m
     ·subst e
      rw[show (n == n)=true by simp];refine kat_yes ?_;have b:Q (Fm.lexLt ns a) s:=by simpa[Fm.lexLt] using h
      have:=j a (i+1) r g b;have k:decide ((Value.int n t::xs).length<(Value.int n f::ys).length)=decide .Ct:=by simp
      rw[k];exact this
     ·rw[show (n == m)=false by simpa using e]
      refine kat_no ?_;have b:Q (decide (n<m)) s:=by simpa[Fm.lexLt,e] using h
      cases i with
      |zero=>exact oneLt_int b
      |succ i =>
       have:(true&&(i+1 == 0))=false:=by simp
       rw[this];exact kat_one _ _ (lt_int (by first|exact⟨_,rfl,b⟩|exact b))
end
def Tr{h:Heap}(x:h.Ns a m)(y:h.Ns a c):m=c:=by
 obtain⟨o,l,j,i,g,_,r⟩:=x;obtain⟨k,d,e,b,hd',_,f⟩:=y;rw[i]at b;cases b;rw[g]at hd';cases hd';funext z;rw[<-r z,<-f z]
inductive eC(H:Hp):List V->List .cF->Prop
 |nil:eC H [] []
 |cons {a:Addr} {r:.c} {vs:List V} {rs:.cR}:H a=some (.tup .n3)->eC H vs rs->eC H (.ref a::vs) (r::rs)
theorem eC.get:∀{vs:List V} {rs:.cR} {i:Nat} {v:V},eC H vs rs->vs[i]?=some v->∃a,v=.ref a/\H a=some (.tup<|(.nU).map V.int)
 |_,_,_,_,.nil,e=>by simp at e
 |_,_,0,_,.cons h t,e=>by simp at e;subst e;exact⟨_,rfl,h⟩
 |_,_,i+1,v,.cons h t,e=>by
  obtain⟨a,h1,b⟩:=eC.get t .em;exact⟨a,h1,by simpa using b⟩
theorem eC.length:∀{vs:List V} {rs:.cR},eC H vs rs->vs.length=rs.length
 |_,_,.nil=>rfl
 |_,_,.cons _ t=>by simp[eC.length t]
def HW(r:cw .u u):∃t,u=.int i t:=r
end Fm
namespace Fm
open PySem PySem.Spec L2
section
variable{X:Cx}
def mv(i:Nat){pos:Pos}(b:autoParam (X.N[i]?=some x) Q3Q._auto_1)(c:Vis X.env.scope x:=by first|exact Or.inl rfl|exact Or.inr (Or.inl rfl)|exact Or.inr (Or.inr rfl))(hd:autoParam (.aY=false) Q1Q._auto_1)
  (a:autoParam (.ru=false) Q1Q._auto_1):.g .eD (aa i):=Td b c hd a
end
def Qg(r:gF k A):A.units+24<cLine:=by have:=r.un;omega
noncomputable def iL(X:Cx):List .iy->Prop
 |[]=>True
 |y::r=>(y.2=.free->X.env.kindOf y.1=some .cell\/X.env.kindOf y.1=some .free)/\iL X r
noncomputable def bQ(X:Cx)(scope:Scope):List Str->List Nat->Prop
 |[],[]=>True
 |x::xs,i::is=>(X.N[i]?=some x/\scope.names.lookup x=some .free)/\.jT xs is
 |_,_=>False
theorem iL.get:∀{l:List .iy},iL X l->∀y∈l,y.2=.free->X.env.kindOf y.1=some .cell\/X.env.kindOf y.1=some .free
 |[],_,y,a=>by simp at a
 |z::r,h,y,a=>by
  rcases xB.mp a with rfl|a
  ·exact h.1
  ·exact iL.get h.2 y a
theorem bQ.get:∀{capn:.aq} {caps:.i},bQ X scope capn caps->(∀(j:Nat) x,capn[j]?=some x->∃i,caps[j]?=some i/\X.N[i]?=some x/\scope.names.lookup x=some .free)/\capn.length=caps.length
 |[],[],_=>⟨λj x e=>by simp at e,rfl⟩
 |x::xs,i::is,h=>by
  obtain⟨h1,a⟩:=bQ.get h.2;refine⟨λj y e=>?_,by simp[a]⟩;cases j with
  |zero=>simp at e;subst e;exact⟨i,rfl,h.1⟩
  |succ j=>exact h1 j y .em
 |[],_::_,h=>h.elim
 |_::_,[],h=>h.elim
def iL.nil:iL X []:=trivial
def iL.cons(h:y.2=.free->X.env.kindOf y.1=some .cell\/X.env.kindOf y.1=some .free)(t:iL X r):iL X (y::r):=⟨h,t⟩
def bQ.nil:.jT [] []:=trivial
def bQ.cons(h1:.eB)(a:scope.names.lookup x=some .free)(t:.jT xs is):.jT .bC (i::is):=⟨⟨h1,a⟩,t⟩
def cu.mk'(k:scope.kind=.function)(c:∀y∈scope.names,y.2 ≠ .cell)(n:∀y∈scope.names,y.2=.local->scope.names.lookup y.1=some .local)(f:iL X scope.names)(cp:.jT capn caps):cu X scope own capn caps :=
 ⟨k,c,n,f.get,cp.get.1,cp.get.2⟩
section
variable{K:ZX}{ρ:.I}{H:Hp}
def Cu(h:.dY)(f:gD d=true):pz v=true:=by
 cases d<;>dsimp[RD]at h<;>first|(subst h;rfl)|(simp[gD]at f)
def eqS:(x == y)=.tj:=by
 by_cases z:x=y
 ·subst z;rw[beq_self_eq_true,beq_self_eq_true]
 ·have:¬toS x=toS y:=λq=>z .qA
  rw[beq_eq_false_iff_ne.mpr z,beq_eq_false_iff_ne.mpr this]
def Qh(h:.dY)(g:.bF k w)(f:gD d=true)(b:gD k=true):eqF d k=eqV v w:=by
 cases d with
 |non=>dsimp[RD]at h;subst h;cases k<;>dsimp[RD]at g<;>first|(subst g;rfl)|(simp[gD]at b)
 |bl a=>dsimp[RD]at h;subst h;cases k<;>dsimp[RD]at g<;>first|(subst g;rfl)|(simp[gD]at b)
 |int a=>dsimp[RD]at h;subst h;cases k<;>dsimp[RD]at g<;>first|(subst g;rfl)|(simp[gD]at b)
 |str a=>dsimp[RD]at h;subst h;cases k<;>dsimp[RD]at g<;>first|(subst g;rfl)|(subst g;exact eqS)|(simp[gD]at b)
 |tup l=>simp[gD]at f
 |ref n=>simp[gD]at f
 |lit l=>simp[gD]at f
 |exn c l=>simp[gD]at f
theorem yO:∀{l:List D} {vs:List V},RDs K ρ H l vs->l.all gD=true->vs.all pz=true
 |[],_,h,_=>by dsimp[RDs]at h;subst h;rfl
 |d::l,_,h,f=>by
  dsimp[RDs]at h;obtain⟨v,r,rfl,h1,a⟩:=h;dsimp[zZy,YB]at f⊢;exact⟨Cu h1 f.1,yO a f.2⟩
theorem HX(g:.bF k w)(a:gD k=true):∀{l:List D} {vs:List V},RDs K ρ H l vs->l.all gD=true->(l.any λz=>eqF z k)=vs.any λz=>eqV z w
 |[],_,h,_=>by dsimp[RDs]at h;subst h;rfl
 |d::l,_,h,f=>by
  dsimp[RDs]at h;obtain⟨v,r,rfl,h1,b⟩:=h;dsimp[zZy,YB]at f;rw[zZz,zZz,Qh h1 g f.1 a,HX g a b f.2]
end
section
variable{X:Cx}{pos:Pos}
def HY{K:ZX}(rs:.jk)(i:.dY)(h:.bF k w)(e:inL hd d k=some b)
  (q:Q (.bl<|if g then !b else b) H):rIn K g v w H Q:=by
 dsimp[inL]at e;cases c:kt hd k with
 |none=>rw[c]at e;cases e
 |some l =>
  rw[c]at e;simp only at e;split at e
  ·rename_i a
   cases e;rw[YB]at a;obtain⟨p,j,rfl,m,f⟩:=Ax rs.hp h c;refine⟨p,j,rfl,m.imp id SqT.of,Cu i a.1,yO f a.2,?_⟩;unfold inV;rw[<-HX i a.1 f a.2];exact q
  ·cases e
def Cv{K:ZX}:Og K oIn (rIn K false):=by
 intro ρ H σd g σ d k v w Q c f a p;unfold oIn at p;cases e:inL g d k with
 |none=>rw[e]at p;exact p.elim
 |some b=>rw[e]at p;exact HY c f a e (p.here c .ic)
def Cw{K:ZX}:Og K kO (rIn K true):=by
 intro ρ H σd g σ d k v w Q c f a p;unfold kO at p;cases e:inL g d k with
 |none=>rw[e]at p;exact p.elim
 |some b=>rw[e]at p;exact HY c f a e (p.here c .ic)
def fO:ME X (.UnaryOp .USub (.uT .u b) pos) (fC<|.int (-i)) :=
 PE.imp (Vd ST LK) λσ H Q ⟨ρ,σd,c,a,p⟩=>⟨i,rfl,p.here a .Y⟩
end
def lc(h:p\/q:=by first|exact .inl rfl|exact .inr rfl):p\/q:=h
def cu.a{own capn:.aq}(cp:.jT capn caps)(k:autoParam (scope.kind=.function) Q3Q._auto_1)(c:autoParam (∀y∈scope.names,y.2 ≠ .cell) Q4Q._auto_1)(n:autoParam (∀y∈scope.names,y.2=.local->scope.names.lookup y.1=some .local) Q4Q._auto_1)
  (f:iL X scope.names:=by repeat' (first|exact iL.nil|refine iL.cons (by first|exact(λ_=>.inl rfl)|exact(λ_=>.inr rfl)|(intro z;cases z;done)) ?_)):cu X scope own capn caps:=cu.mk' k c n f cp
section
variable{pos p:Pos}
def aq(hd:.Dg)(g:gF j X.A)(l:MA X (e::a) r)(i:autoParam (k<=j) Q1Q._auto_1)(f:autoParam (.U x) Q3Q._auto_1)(c:∀ds h d h',F ds h=.ok d h'->ds.length=np:=by exact ik)
  (b:autoParam (.aY=false) Q1Q._auto_1) (he:autoParam (starEach (e::a) X.env=(false,.az X.env)::starEach a X.env) Q3Q._auto_1) (hpl:autoParam ((backTo pos<|.jD a).any (·.1)=false) Q3Q._auto_1) :
  ME X (.cT .fp (e::a)) (av F r):=vt hd (g.mono i) f l c b he hpl
end
/---/def At(K:ZX)(n:Str)(st:Stmt):Prop:=∃(f:Addr) (od an:.co) (sl:.ga) (oc kV dc pm cd ct:S1),.cx n=some .iV/\K.lookup f=some ⟨oc,od,.func (.hK kV dc pm an cd ct),sl⟩/\.hM cd n=true/\.dv .ak=true
/---/def Nb(K:ZX)(n:Str):Prop:=.cx n=some none
structure En(P:N3)(w:N6)(K:ZX)(mg:.ap)(base:Heap):Prop where
 ex:∃h:Heap,K.In h/\h.Ns mainGlobals mg
def At.i{c:.ga}{d kV dc pm a ct:S1}(h1:.cx n=some .iV)(i:K.lookup f=some ⟨d,b,.func (.hK kV dc pm e a ct),c⟩)(h:.hM a n=true)(g:.uw):.n n st:=⟨f,b,e,c,d,kV,dc,pm,a,ct,h1,i,h,g⟩
def At.out(a:.n n st)(X:K.In h)(G:h.Ns mainGlobals mg):∃f fd,mg n=some .ak/\.dv .ak=true/\Fun K n n st f fd:=by
 obtain⟨f,g,m,i,k,kV,j,o,l,p,c,e,d,b⟩:=a;exact⟨f,_,xb X G c,b,As e d b⟩
def At.df(a:.n n st)(q:.lB)(ok:.lv)
  (e:∀(kV b pm:S1) (i:.co) (c ct:S1) (us:List S1),us.length=ps.length->bindArgs (.hK kV b pm i c ct) ⟨us,[]⟩=pure .iY):.F n k np F:=by
 obtain⟨h,X,G⟩:=q.ex;obtain⟨f,fd,d,g,U⟩:=a.out X G;exact Def.mk' d g (U.binds e) (ok U)
def pA{α:Type}{l:List α}{n:Nat}(h:l.length=n+1):∃a t,l=a::t/\t.length=n:=by
 cases l with
 |nil=>cases h
 |cons a t=>exact⟨a,t,rfl,Nat.succ.inj h⟩
def HZ{α:Type}{l:List α}(h:l.length=0):l=[]:=X1.mp h
def At.df1(a:.n n st)(q:.lB)(ok:.lv)(e:autoParam (ps.length=1) Q3Q._auto_1)
  (g:autoParam (∀(kV b pm:S1) (d:.co) (c ct a:S1),bindArgs (.hK kV b pm d c ct) ⟨[a],[]⟩=pure (ps.zip [a])) Q5Q._auto_1):Def P w K mg base n k np F :=
 a.df q ok λkV b pm d c ct l h=>by obtain⟨a,j,rfl,i⟩:=pA (h.trans e);cases HZ i;exact g kV b pm d c ct a
def At.df2(a:.n n st)(q:.lB)(ok:.lv)(g:autoParam (ps.length=2) Q3Q._auto_1)
  (i:autoParam (∀(kV c pm:S1) (e:.co) (d ct a b:S1),bindArgs (.hK kV c pm e d ct) ⟨[a,b],[]⟩=pure (ps.zip [a,b])) Q5Q._auto_1):Def P w K mg base n k np F :=
 a.df q ok λkV c pm e d ct p h=>by obtain⟨a,m,rfl,l⟩:=pA (h.trans g);obtain⟨b,o,rfl,j⟩:=pA (l);cases HZ j;exact i kV c pm e d ct a b
def At.df3(a:.n n st)(q:.lB)(ok:.lv)(j:autoParam (ps.length=3) Q3Q._auto_1)
  (l:autoParam (∀(kV d pm:S1) (g:.co) (e ct a b c:S1),bindArgs (.hK kV d pm g e ct) ⟨[a,b,c],[]⟩=pure (ps.zip [a,b,c])) Q5Q._auto_1):Def P w K mg base n k np F :=
 a.df q ok λkV d pm g e ct t h=>by obtain⟨a,p,rfl,o⟩:=pA (h.trans j);obtain⟨b,r,rfl,m⟩:=pA (o);obtain⟨c,s,rfl,i⟩:=pA (m);cases HZ i;exact l kV d pm g e ct a b c
def At.df4(a:.n n st)(q:.lB)(ok:.lv)(m:autoParam (ps.length=4) Q3Q._auto_1)
  (o:autoParam (∀(kV e pm:S1) (i:.co) (g ct a b c d:S1),bindArgs (.hK kV e pm i g ct) ⟨[a,b,c,d],[]⟩=pure (ps.zip [a,b,c,d])) Q5Q._auto_1):Def P w K mg base n k np F :=
 a.df q ok λkV e pm i g ct x h=>by obtain⟨a,s,rfl,r⟩:=pA (h.trans m);obtain⟨b,t,rfl,p⟩:=pA (r);obtain⟨c,u,rfl,l⟩:=pA (p);obtain⟨d,v,rfl,j⟩:=pA (l);cases HZ j;exact o kV e pm i g ct a b c d
def fsc{N P:.aq}{a:Scope}(h1:autoParam (a.kind=.function) Q3Q._auto_1)(g:autoParam (a.isCoroutine=false) Q3Q._auto_1)(f:autoParam (a.isGenerator=false) Q3Q._auto_1)(b:autoParam (N.Nodup) Q4Q._auto_1)(e:autoParam (N.take P.length=P) Q3Q._auto_1)(d:autoParam (∀x∈P,a.names.lookup x=some .local\/a.names.lookup x=some .cell) Q4Q._auto_1)(c:autoParam (∀y∈a.names,y.2 ≠ .free) Q4Q._auto_1):fM N P a:=⟨h1,g,f,b,e,d,c⟩
end Fm
namespace Fm
@[simp] noncomputable def Xe(a:EF):EF:=λσ h=>(.L).bind λx h=>match x with | .int i=>.ok (.int i.natAbs) h|_=>.bad
@[simp] noncomputable def Qi(a b:EF):EF:=λσ h=>(.L).bind λx h=>(.fi).bind λy h=>match x,y with
 |.int i,.int j=>.ok (.int .B8) h
 |_,_=>.bad
section
open Classical
noncomputable def qv(G:Hd->Prop)(tg:GF)(b:SF):List D->SF
 |[],σ,h=>if G h then .nx σ h else .bad
 |x::xs,σ,h=>if G h then match tg x σ with
   |some σ=>match b σ h with
    |.nx σ h=>qv G tg b xs σ h
    |.ct σ h=>qv G tg b xs σ h
    |.bk σ h=>.cA h
    |r=>r
   |none=>.bad
  else .bad
/---/def im(l:List D):List D:=(.ip).zip l |>.map λp=>.tup [.int (p.1:Nat),p.2]
end
end Fm
namespace Fm
open PySem PySem.Spec L2 PySem.W PyProof.Rows
def Tt(h:l<r):l<=(l+r)/2/\(l+r)/2<r:=by omega
variable{p:.d1}
section
variable{cmp:Nat->Nat->(Bool->P1->Prop)->P1->Prop}{n:Nat}{s:P1}{lt:.pu}
structure Ord(lt:.pu)(n:Nat):Prop where
 asy:∀i j,i<n->j<n->lt i j=true->lt j i=false
 tr:∀i j k,i<n->j<n->k<n->lt i j=true->lt j k=true->lt i k=true
 tot:∀i j,i<n->j<n->i≠j->lt i j=false->lt j i=true
structure Gd(n:Nat)(p:.d1):Prop where
 sz:p.size=n
 pm:p.Perm .sZ
def Gd.below{p}(g:Gd n p)(hi:i<n):p.getD i 0<n:=by
 have a:i<p.size:=by rw[g.sz];exact hi
 have e:p.getD i 0=p[i]:=by simp[Array.getD,a]
 rw[e];have m:p[i]∈p.toList:=by simp
 have:=(zYw.mp g.pm).mem_iff.mp m;simpa using this
def Gd.ne{p}(g:Gd n p)(hi:i<n)(f:j<n)(h:i≠j):p.getD i 0≠p.getD j 0:=by
 have a:i<p.size:=by rw[g.sz];exact hi
 have b:j<p.size:=by rw[g.sz];exact f
 have e:p.getD i 0=p[i]:=by simp[Array.getD,a]
 have d:p.getD j 0=p[j]:=by simp[Array.getD,b]
 rw[e,d];have c:p.toList.Nodup:=(zYw.mp g.pm).nodup_iff.mpr (by simpa using List.nodup_range);intro z;have:=(List.getElem_inj c (h₀ := by simpa using a) (h₁ := by simpa using b)).mp (by simpa using z);exact h this
/---/def Srt(lt:.pu)(p:.d1)(m:Nat):Prop:=∀i j,i<j->j<m->lt .iM (p.getD j 0)=true
/---/def Dsc(lt:.pu)(p:.d1)(m:Nat):Prop:=∀i j,i<j->j<m->lt (p.getD j 0) .iM=true
def j0:Gd n .sZ:=⟨by simp,Array.Perm.refl _⟩
def Srt.next(O:Ord lt n)(g:Gd n p)(h:Srt lt p m)(h1:1<=m)(hm:m<n)(c:lt .kO .k6=true):Srt lt p (m+1):=by
 intro i j a d
 by_cases e:j<m
 ·exact h i j a e
 ·have:j=m:=by omega
  subst this
  by_cases b:i=j-1
  ·subst b;exact c
  ·exact O.tr _ _ _ .cg .cg (g.below hm) (h i (j-1) .a .a) c
def Dsc.next(O:Ord lt n)(g:Gd n p)(h:Dsc lt p m)(h1:1<=m)(hm:m<n)(c:lt .k6 .kO=true):Dsc lt p (m+1):=by
 intro i j a d
 by_cases e:j<m
 ·exact h i j a e
 ·have:j=m:=by omega
  subst this
  by_cases b:i=j-1
  ·subst b;exact c
  ·exact O.tr _ _ _ (g.below hm) .cg .cg c (h i (j-1) .a .a)
variable(O:Ord lt n)(hc:∀i j,i<n->j<n->∀C:Bool->P1->Prop,C (lt i j) s->cmp i j C s)
include O hc
theorem pO{p:.d1}(g:Gd n p){Q:.py}(q:∀m,1<=m->m<=n->Srt lt p m->(m<n->lt .k6 .kO=true)->Q m s):
  ∀(f m:Nat),1<=m->m+f=n->Srt lt p m->(kas_asc p f m).kasWp cmp Q s
 |0,m,h1,e,h=>q m h1 .a h λz=>by omega
 |f+1,m,h1,e,h=>by
  refine hc _ _ .cg .cg _ ?_;cases c:lt .k6 .kO with
  |true=>((try dsimp only);(try rw[z4 rfl]));exact q m h1 .a h λ_=>c
  |false =>
   ((try dsimp only);(try rw[y3 Z7]))
   have a:=O.tot _ _ .cg .cg (g.ne .a .a .a) c;exact pO g q f (m+1) .a .a (h.next O g h1 .a a)
theorem ue{p:.d1}(g:Gd n p){Q:Array Nat × Nat × Nat->P1->Prop}(q:∀m,1<=m->m<=n->Dsc lt p m->Q (p,m,0) s):
  ∀(f m:Nat),1<=m->m+f=n->Dsc lt p m->(kas_desc f p m 0).kasWp cmp Q s
 |0,m,h1,e,h=>q m h1 .a h
 |f+1,m,h1,e,h=>by
  refine hc _ _ .cg .cg _ ?_;cases c:lt .k6 .kO with
  |true =>
   ((try dsimp only);(try rw[z4 rfl]));(try rw[y3 .a])
   exact ue g q f (m+1) .a .a (h.next O g h1 .a c)
  |false =>
   ((try dsimp only);(try rw[y3 Z7]))
   have a:=O.tot _ _ .cg .cg (g.ne .a .a .a) c;refine hc _ _ .cg .cg _ ?_;rw[a];((try dsimp only);(try rw[z4 rfl]));exact q m h1 .a h
omit hc in
def Tu(g:Gd n p)(hm:m<=n)(h:Dsc lt p m):Gd n .tC/\Srt lt .tC m:=by
 have a:∀k,k<m->(.tC).getD k 0=p.getD (m-1-k) 0:=λk c=>by
  have e:=getElem?_mirror_all (i:=0) (by rw[g.sz];exact hm) k;rw[z4 ⟨YR _,c⟩]at e;unfold kas_rev;rw[Array.getD_eq_getD_getElem?,Array.getD_eq_getD_getElem?,e,Z6]
 refine⟨⟨by unfold kas_rev;rw[mirror_size,g.sz],(mirror_perm _ _ _ _).trans g.pm⟩,λi j b d=>?_⟩;rw[a i .a,a j d];exact h _ _ .a .a
def AE(x:2<=n)(q:∀m p,Gd n p->1<=m->m<=n->Srt lt p m->Q (m,p) s):(kas_count n .sZ).kasWp cmp Q s:=by
 unfold kas_count;rw[zXk];refine pO O hc j0 (λm b l a t=>?_) (n-1) 1 .o .a (λi j d g=>by omega)
 by_cases e:m=n
 ·subst e
  rw[z4 .d];exact q m _ j0 b .o a
 ·rw[y3 .em]
  by_cases r:m>1
  ·rw[z4 r]
   refine hc _ _ (j0.below .a) (j0.below .a) _ ?_;have:=a 0 (m-1) .a .a;rw[this];((try dsimp only);(try rw[z4 rfl]));exact q m _ j0 b l a
  ·rw[y3 r]
   have:m=1:=by omega
   subst this;have c:=t .a;unfold kas_descPart;rw[zXk];refine ue O hc j0 (λm b l a=>?_) (n-2) 2 .a .a (λi j d g=>?_)
   ·rw[y3 .d]
    unfold kas_tail3;rw[zXk];obtain⟨o,u⟩:=Tu O j0 l a;exact pO O hc o (λv k h f _=>q v _ o k h f) (n-m) m b .a u
   ·have w:i=0:=by omega
    have g:j=1:=by omega
    subst w g;exact c
theorem mD{p:.d1}(g:Gd n p){k:Nat}(h:k<n)(u:Srt lt p k){Q:.py}(q:∀l,l<=k->(∀i,i<l->lt .iM .k7=true)->(∀i,l<=i->i<k->lt .k7 .iM=true)->Q l s):
  ∀(f l r:Nat),r-l<=f->l<=r->r<=k->(∀i,i<l->lt .iM .k7=true)->(∀i,r<=i->i<k->lt .k7 .iM=true)->(kas_place p k f l r).kasWp cmp Q s
 |0,l,r,t,w,o,a,b=>q l (ZM w o) a λi h1 m=>b i (ZM (Nat.le_of_sub_eq_zero<|Nat.le_zero.mp t) h1) m
 |f+1,l,r,t,w,o,a,b=>by
  unfold kas_place
  by_cases e:l≥r
  ·rw[z4 e]
   exact q l (ZM w o) a λi h1 m=>b i (ZM e h1) m
  ·rw[y3 e]
   have A:l<r:=Nat.not_le.mp e;have j:=Tt A;generalize (l+r)/2=M at j;have v:M<k:=Z0 j.2 o;have d:M<n:=Z3 v h;refine hc _ _ .ot .ou _ ?_;cases c:lt .k7 (p.getD M 0) with
   |true =>
    ((try dsimp only);(try rw[z4 rfl]))
    refine mD g h u q f l M (X6<|Z0 (Nat.sub_lt_sub_right j.1 j.2) t) j.1 (XF v) a λi h1 m=>?_
    by_cases z:i=M
    ·subst z;exact c
    ·exact O.tr _ _ _ .ot .ou (g.below<|Z3 m h) c (u _ i (zZj h1<|XO z) m)
   |false =>
    ((try dsimp only);(try rw[y3 Z7]))
    have x:=O.tot _ _ .ot .ou (g.ne h d<|YA v) c;refine mD g h u q f (M+1) r (X6<|Z0 (Nat.sub_lt_sub_left A<|Nat.lt_succ_of_le j.1) t) j.2 o (λi h1=>?_) b
    by_cases z:i=M
    ·subst z;exact x
    ·have y:i<M:=zZj (X6 h1) z
     exact O.tr _ _ _ (g.below<|Z3 y d) .ou .ot (u i _ y v) x
theorem wf(q:.Dv):∀(f:Nat) (p:.d1) (k:Nat),Gd n p->k+f=n->Srt lt p k->(kas_bin f p k).kasWp cmp Q s
 |0,p,k,g,e,h=>by
  have:k=n:=e;subst this;exact q p g h
 |f+1,p,k,g,e,h=>by
  unfold kas_bin;rw[zXk];have A:k<n:=e▸Nat.lt_add_of_pos_right (Nat.succ_pos f);refine mD O hc g A h (λl y a b=>?_) k 0 k .o .ey .o (λi z=>.ed (UO _)) (λi z C=>absurd C (zZf.mpr z));have w:k<p.size:=by rw[g.sz];exact A
  have r:∀i,(bubble p k (k-l)).getD i 0=if i=l then p.getD k 0 else if l<i/\i<=k then p.getD (i-1) 0 else p.getD i 0:=λi=>by
   have:=getElem?_bubble w (k-l) (Nat.sub_le _ _) i;rw[Nat.sub_sub_self y]at this;simp;rw[this]
   by_cases m:i=l
   ·rw[z4 m,z4 m]
   ·rw[y3 m,y3 m]
    by_cases d:l<i/\i<=k
    ·rw[z4 d,z4 d]
    ·rw[y3 d,y3 d]
  refine wf q f _ (k+1) ⟨by rw[bubble_size,g.sz],(bubble_perm _ _ _).trans g.pm⟩ (by rw[zYm];exact e) λi j c D=>?_;have t:j<=k:=X6 D;have x:j-1<k:=Nat.sub_one_lt_of_le (Nat.zero_lt_of_lt c) t;rw[r i,r j]
  by_cases m:i=l
  ·have o:l<j:=m▸c
   rw[z4 m,y3 (YA o),z4 ⟨o,t⟩];exact b _ (Nat.le_sub_one_of_lt o) x
  ·rw[y3 m]
   by_cases d:l<i/\i<=k
   ·have o:l<j:=Z3 d.1 c
    rw[z4 d,y3 (YA o),z4 ⟨o,t⟩];exact h _ _ (Nat.sub_lt_sub_right (Nat.zero_lt_of_lt d.1) c) x
   ·rw[y3 d]
    have B:i<l:=zZj (zZf.mp λz=>d ⟨z,ZM (XF c) t⟩) m
    by_cases v:j=l
    ·rw[z4 v];exact a _ B
    ·rw[y3 v]
     by_cases u:l<j/\j<=k
     ·rw[z4 u]
      exact h _ _ (Z0 B<|Nat.le_sub_one_of_lt u.1) x
     ·rw[y3 u]
      have E:j<l:=zZj (zZf.mp λz=>u ⟨z,t⟩) v;exact h _ _ c (Z0 E y)
def Cy(b:2<=n)(q:.Dv):(kas_sort n).kasWp cmp Q s:=by
 unfold kas_sort;rw[zXk];refine AE O hc b λm p g c d a=>?_
 by_cases e:m<n
 ·rw[z4 e]
  have:max m 1=m:=by omega
  rw[this];exact wf O hc q (n-m) p m g .a a
 ·rw[y3 e]
  have:m=n:=by omega
  subst this;exact q p g a
end
section
variable{X:Cx}{pos p:Pos}
theorem eC.rds{K:ZX}:∀{vs:List V} {rs:.cR},eC H vs rs->.aw (rs.map Af) vs
 |_,_,.nil=>RDs.nil
 |_,_,.cons (a:=a) (r:=r) h t=>by
  refine RDs.cons ?_ (eC.rds t);unfold Af;dsimp[RD];refine⟨a,_,rfl,h,?_⟩;clear h
  induction r with
  |nil=>exact RDs.nil
  |cons x r b=>exact .hO b
theorem eC.pick(h:eC H vs rs):∀(l:.i),(∀i∈l,i<vs.length)->eC H .Ao (l.map λi=>rs.getD i [])
 |[],_=>.nil
 |i::l,b=>by
  have hi:i<vs.length:=b i .d;obtain⟨a,e,d⟩:=h.get (i:=i) (v:=vs[i]) (by simp[hi]);have t:=eC.pick h l λj c=>b j .iN;have:vs.getD i .non=.ref a:=by simp[List.getD,hi,e]
  dsimp[y6,this];exact .cons d t
theorem bn.pick(h:bn vs us):∀(l:.i),(∀i∈l,i<vs.length)->bn .Ao (l.map λi=>us.getD i Value.none)
 |[],_=>.nil
 |i::l,a=>by
  have hi:i<vs.length:=a i .d;obtain⟨u,e,b⟩:=h.get (i:=i) (x:=vs[i]) (by simp[hi]);have t:=bn.pick h l λj c=>a j .iN;simp;refine .cons ?_ t;simp[List.getD,hi,e];exact b
end
section
variable{X:Cx}{pos p:Pos}
theorem RDs.rep{K:ZX}(r:.fm):∀k,RDs K ρ H (.cr k l).flatten (.cr k vs).flatten
 |0=>RDs.nil
 |k+1=>by
  rw[XE,XE,wh,wh];exact RDs.append r (RDs.rep r k)
end
end Fm
namespace Fm
section
open Classical
@[simp] noncomputable def nT(nl:Nat)(caps:.i)(a:EF)(tg:GF)(cs:List TF)(e:EF):LF:=λσ h=>match a σ h with
 |.ok (.ref n) h=>match h[n]? with
  |some .cq=>dQ .AD tg cs e (im l) .tD h
  |_=>.bad
 |.ok _ _=>.bad
 |.exc x h=>.exc x h
 |.bad=>.bad
end
@[simp] noncomputable def nU(x:EF)(L:LF):EF:=λσ h=>(.ev).bind λp h=>match p with
 |.ref n=>match h[n]? with
  |some (.lst _)=>(L σ h).bind λds h=>match h[n]? with
   |some .cq=>if l.length+ds.length<=SZ then .ok .non (.d9<|.lst<|l++ds) else .bad
   |_=>.bad
  |_=>.bad
 |_=>.bad
theorem wg{h:Hd}(I:Sd->Prop)(p:D->Bool)(f:D->D)(a:G h):
  ∀{xs:List D} {σ:Sd},(∀x∈xs,∀σ,I σ->∃σ',tg x σ=some σ'/\I σ'/\i7 cs σ' h=.ok (p x) h/\.rs)->I σ->
   dQ G tg cs e xs σ h=.ok .sn h
 |[],_,_,_=>by simp[dQ,a]
 |x::xs,σ,st,i=>by
  obtain⟨σ',h1,k,d,g⟩:=st x .d σ i;have c:=wg I p f a (xs:=xs) (σ := σ') (λy j=>st y (by simp[j])) k;cases b:p x with
  |true=>simp[dQ,a,h1,d,b,g b,c]
  |false=>simp[dQ,a,h1,d,b,c]
noncomputable def Fv(x:Int):List Int->List Int
 |[]=>[x]
 |y::r=>if x<=y then x::y::r else y::Fv x r
noncomputable def iG:List Int->List Int
 |[]=>[]
 |x::r=>Fv x (iG r)
theorem rW(x:Int):∀r,(Fv x r).Perm (x::r)
 |[]=>.refl _
 |y::r=>by
  unfold Fv;split
  ·exact .refl _
  ·exact((rW x r).cons y).trans .ui
theorem iM:∀r,(iG r).Perm r
 |[]=>.refl _
 |x::r=>(rW x _).trans ((iM r).cons x)
theorem yP:∀{r:.c},r.Pairwise (·<=·)->(Fv x r).Pairwise (·<=·)
 |[],_=>by simp[Fv]
 |y::r,h=>by
  obtain⟨h1,d⟩:=Z4.mp h;unfold Fv;split
  ·rename_i c
   refine Z4.mpr ⟨λb a=>?_,h⟩;rcases xB.mp a with e|a
   ·rw[e];exact c
   ·exact zXt c (h1 b a)
  ·rename_i c
   refine Z4.mpr ⟨λb a=>?_,yP d⟩;rcases xB.mp ((rW x r).mem_iff.mp a) with e|a
   ·rw[e];omega
   ·exact h1 b a
theorem mE:∀{r:.c},(iG r).Pairwise (·<=·)
 |[]=>by simp[iG]
 |x::r=>yP mE
def yQ(p:a.Perm r)(h:a.Pairwise (·<=·)):a=iG r :=
 List.Perm.eq_of_pairwise (λx y _ _ h b=>Int.le_antisymm h b) h mE (p.trans (iM r).symm)
@[simp] noncomputable def rX(L:LF):LF:=λσ h=>(L σ h).bind λl h=>match dG l with
 |some xs=>if xs.length<64 then .ok ((iG xs).map .int) h else .bad
 |none=>.bad
/---/def CA(x y:EF):EF:=λσ h=>(.ev).bind λp h=>match p with
 |.ref n=>match h[n]? with
  |some (.lst _)=>(y σ h).bind λq h=>match q with
   |.ref m=>match h[n]?,h[m]? with
    |some .cq,some (.lst k)=>if l.length+k.length<=SZ then .ok .non (.d9<|.lst<|l++k) else .bad
    |_,_=>.bad
   |_=>.bad
  |_=>.bad
 |_=>.bad
/---/def uR(ns:.c)(k:Int):List Int:=if k∈ns then ns else k::ns
/---/def gp(l:.c):List Int:=l.foldl uR []
def Mu(ns:.c)(k x:Int):x∈uR ns k↔x∈ns\/x=k:=by
 unfold uR;split
 ·rename_i h
  exact⟨.inl,λq=>q.elim id λe=>e▸h⟩
 ·rw[xB];exact Or.comm
def Fw(h:ns.Nodup)(k:Int):(uR ns k).Nodup:=by
 unfold uR;split
 ·exact h
 ·exact Y3.mpr ⟨by assumption,h⟩
theorem CB:∀(l acc:.c) (x:Int),x∈l.foldl uR acc↔x∈acc\/x∈l
 |[],acc,x=>by simp
 |k::l,acc,x=>by
  rw[zZr,CB l,Mu,xB,or_assoc]
theorem wj:∀(l acc:.c),acc.Nodup->(l.foldl uR acc).Nodup
 |[],acc,h=>h
 |k::l,acc,h=>wj l _ (Fw h k)
theorem CC:∀(l acc:.c),(l.foldl uR acc).length<=acc.length+l.length
 |[],acc=>by simp
 |k::l,acc=>by
  have:=CC l (uR acc k);have h:(uR acc k).length<=acc.length+1:=by unfold uR;split<;>simp
  rw[zZr,Z2];omega
def JT(l:.c)(x:Int):x∈gp l↔x∈l:=by unfold gp;rw[CB];simp
def CF(l:.c):(gp l).Nodup:=wj l [] zXs
def yR(l:.c):(gp l).length<=l.length:=by unfold gp;have:=CC l [];simpa using this
def Fx{l:.c}(h:i<l.length):gp (l.take<|i+1)=uR (gp<|l.take i) .k8:=by
 unfold gp;have e:l.take (i+1)=l.take i++[l.getD i 0]:=by
  rw[zYs,ZE h];simp[List.getD,h]
 rw[e,List.foldl_append];rfl
@[simp] noncomputable def oK(a:EF):LF:=λσ h=>(.L).bind λx h=>match ee h x with
 |some l=>match dG l with
  |some xs=>if xs.length<64 then .ok ((iG<|gp xs).map .int) h else .bad
  |none=>.bad
 |none=>.bad
end Fm
namespace Fm
open PySem PySem.Spec
noncomputable def uf:Int × S1->Int
 |(_,.int n _)=>n
 |_=>0
section
variable(prog:N3)(w:N6)
structure AF(led:Bool)(es:.hx)(t:.cS)(ns:.c):Prop where
 el:ElemsOf .gF es.toList
 ks:(es.toList.map uf).Perm ns
 fit:t.fits es.size=true
 gt:GT led t
/---/def eR(led:Bool)(a:Addr)(ns:.c)(h:Heap):Prop :=
 ∃es ep t,h.get? a=some { cls:=.type "set",dict:=none,data:=.set es ep t }/\.hP es t ns
end
def AF.len(g:.hP a t ns):a.size=ns.length:=by
 have:=g.ks.length_eq;simpa using this
def AG(h:(.gF).is k e.2=true):uf e=k:=by
 obtain⟨x,y⟩:=e;obtain⟨t,e⟩:=zXq (show Value.isInt k y=true from h);subst e;rfl
def AF.mem(g:.hP c t ns)(k:Int):k∈ns ↔ ∃e∈c.toList,(.gF).is k e.2=true:=by
 rw[<-g.ks.mem_iff,z5];constructor
 ·rintro⟨e,a,rfl⟩
  obtain⟨⟨d,b,_⟩,_⟩:=g.el e a;exact⟨e,a,by rw[AG b];exact b⟩
 ·rintro⟨e,a,q⟩
  exact⟨e,a,AG q⟩
def eR.put{h:Heap}{o:Obj}(b:h.get? a=some { cls:=.type "set",dict:=none,data:=.set c ep t }):
  (h.update a<|Obj.putSet es' t').get? a=some { cls:=.type "set",dict:=none,data:=.set es' (ep+1) t' }:=by
 have:=Y6 (Obj.putSet es' t') b rfl;exact this
def Ia{g:Bool->Sem Unit}(v:∀(b:Bool) (f:P1) (q:.lF),q () f->.ao (g b) q E f)
  (u:s.heap.get? a=some { cls:=.type "set",dict:=none,data:=.set z ep t }) (G:.hP c d ns) (r:.o8)
  (h:∀h',Heap.SameBut a s.heap h'->eR prog w led a ns h'->R (some true) .bj) :
  wpAny .N A (storeSet a c d >>= λ_=>if (!x&&d.tooFull)=true then g (.sD).2.2 >>= λ_=>storeSet a (.sD).1 (.sD).2.1 >>= λ_=>pure (some true) else pure (some true)) R E s:=by
 have y:c.size<scanBound:=by rw[G.len];exact r
 refine zF (wpAny_storeSet_of u rfl ?_<|zXu y);have l:=eR.put (o:=default) (es':=c) (t':=d) u;have p:=X8 s.heap a (Obj.putSet c d);split
 ·have i:=relayAll_perm d c .kh
  have k:=relayAll_fits d c .kh;have m:=G.gt.relayAll c .kh;generalize relayAll d c .kh=L at i k m;obtain⟨e,j,B⟩:=L;dsimp only at i k m⊢;have n:.hP e j ns:=⟨G.el.perm i,(i.map uf).trans G.ks,k,m⟩;refine zF (v _ _ _ ?_);refine zF (wpAny_storeSet_of l rfl ?_<|zXu (by rw[n.len];exact r));refine z3 ?_;refine h ((s.heap.update a<|Obj.putSet c d).update a (Obj.putSet e j)) (p.trans<|X8 _ a<|Obj.putSet e j) ?_;exact⟨e,_,j,eR.put (o:=default) l,n⟩
 ·exact z3 (h _ p ⟨c,_,d,l,G⟩)
def Mv{k:Int}(J:.l3 a ns s.heap)(x:.uB)
  (h:∀h' b,Heap.SameBut a s.heap h'->eR prog w led a (if k∈ns then ns else k::ns) h'->Q b .bj) :
  wpAny .N A (setAddHashed a .gd<|hashInt k) Q E s:=by
 obtain⟨f,I,t,m,G⟩:=J;have g:(.gF).is k .gd=true:=by show Value.isInt k (Value.int k tk)=true;simp[Value.isInt]
 have H:f.size<scanBound:=by rw[G.len];omega
 unfold setAddHashed setAddHashedIn;refine YZ (zF (XS m rfl G.fit ?_));dsimp only;rw[byScan_of rfl H G.el];dsimp[↓reduceIte];unfold setAddByScan;refine zF (zF (zYv (zF (wpAny_setScan_of g m rfl G.fit G.el ?_))));cases v:List.findIdx? (λe=>(.gF).is k e.2) f.toList with
 |some j =>
  dsimp only;obtain⟨B,D,_⟩:=List.findIdx?_eq_some_iff_getElem.mp v;have u:k∈ns:=(G.mem k).mpr ⟨_,YM B,D⟩;refine z3 .aa;have:=h s.heap false (Heap.SameBut.refl a s.heap);rw[z4 u]at this;exact this ⟨f,I,t,m,G⟩
 |none =>
  dsimp only;have u:k∉ns:=λq=>by
   obtain⟨e,F,q⟩:=(G.mem k).mp q;have:=List.findIdx?_eq_none_iff.mp v e F;rw[q]at this;cases this
  have l:=layNew_perm t f .k5 .gd;have o:=layNew_fits t f .k5 .gd;have n:=G.gt.layNew f .k5 .gd;have C:layNew t f (hashInt k) .gd=layNew t f .k5 .gd:=rfl;dsimp[C];generalize layNew t f .k5 .gd=L at l o n ⊢;obtain⟨p,z,K,M⟩:=L;dsimp only at l o n ⊢;rw[Array.toList_push]at l;have y:.hP p z (k :: ns):=⟨(G.el.push g rfl).perm l,(l.map uf).trans (by
   rw[ZR];exact(List.perm_append_comm).trans (List.Perm.cons k G.ks)),o,n⟩
  have i:∀(b:Bool) (d:P1) (r:.lF),r () d->wpAny .N A (match b with|true=>rule "set.scan.the-table-gave-way" | false=>pure ()) r E d := λb d r q=>by
   cases b
   ·exact z3 q
   ·exact zYv q
  have fin:∀{c:Bool} h',Heap.SameBut a s.heap h'->eR prog w led a (k::ns) h'->Q c .bj:=λ{c} h' q1 q2=>h h' c q1 (by rw[y3 u];exact q2);refine zF (i _ _ _ ?_);split
  ·refine zF ?_
   rw[hashByValue_scannable 8 (show (Value.int k tk).scannable=true from rfl)];refine z3 ?_;dsimp[plainKind,↓reduceIte];exact Ia i m y x λh' q1 q2=>z3 (fin h' q1 q2)
  ·refine zF .aa
   dsimp[↓reduceIte];exact Ia i m y x λh' q1 q2=>z3 (fin h' q1 q2)
section
variable{prog:N3}{w:N6}{A:P2}{R:Result->P1->Prop}{I:Addr}{fp wr:.I}{G:Array GenState->Array GenState->Prop}{P:Nat->S1->Prop}{St:.py}
def eR.kept(x:.l3 a ns h)(k:∀o,h.get? a=some o->h'.get? a=some o):.l3 a ns h':=by
 obtain⟨c,d,t,b,g⟩:=x;exact⟨c,d,t,k _ b,g⟩
def Mw(ns:.c)(W:WalksS prog w A.in1 I fp wr G ns.length P St)(S:Addr)(d:S∉fp)(f:∀i v,P i v->∃t,v=.int .kW t)(m:.uB):
  ∀(k i:Nat) (s:P1),ns.length-i=k->i<=ns.length->St i s->eR prog w led S .tk s.heap->
   (∀a,Moved (S::wr) G s a->eR prog w led S (gp ns) a.heap->R (.ok<|.ret .none) a)->codeAny .N A (.builtin "set.update.loop" ⟨[.ref S,.ref I],[]⟩) R s:=by
 have g:S∉wr:=λh=>d (W.sub _ h);have E:∀b∈wr,b∈S::wr:=λb q=>ZW _ q;intro k
 induction k with
 |zero =>
  intro i s J L C n D;have e:i=ns.length:=by omega
  subst e;rw[zYg]at n;refine zYo PyProof.Rows.F.entry_set_update_loop ?_;rw[zZv zZa _];show wpAny _ A.in1 (pyNext .et >>= _) _ _ s;refine zF (W.done s _ _ C λa l=>?_);show wpAny _ A.in1 (ret Value.none) _ _ a;exact z3 (D a (l.mono E)<|n.kept λo q=>l.heap S o g q)
 |succ k M =>
  intro i s J L C n D;have c:i<ns.length:=by omega
  refine zYo PyProof.Rows.F.entry_set_update_loop ?_;rw[zZv zZa _];show wpAny _ A.in1 (pyNext (.ref I) >>= _) _ _ s;refine zF (W.item i s _ _ c C λv a H u l=>?_);obtain⟨t,rfl⟩:=f i v H;have B:.l3 S .tk a.heap:=n.kept λo q=>l.heap S o g q;show wpAny _ A.in1 (holding [Value.int .kW t] (setAdd S<|.int .kW t) >>= _) _ _ a;unfold setAdd;refine zF (YZ (YZ (zF (wpAny_pyHash_int ?_))));have j:(.tk).length+1<scanBound:=by
   have K:=yR (ns.take i);rw[yo]at K;omega
  refine Mv (s:={ a with toks:=a.toks+1 }) B j λN b F z=>?_;have y:.l3 S (gp<|ns.take<|i+1) N:=by rw[Fx c];exact z
  refine z3 ⟨zXw zZa _,M (i+1) _ .a c (W.frame _ a _ _ u (zYt _) λb m o e=>?_) y λp x r=>?_⟩
  ·rw[F.2 b (λq:b=S=>d (q▸m))];exact e
  ·refine D p (Moved.trans W.gtrans ((l.mono E).then_heap (zYt _) λb o m e=>?_) x) r
   rw[F.2 b (λq:b=S=>m (q▸ZV))];exact e
end
/---/def jB(w:N6):Bool := ! .yZ
/---/def eJ(w:N6):Obj:={ cls:=.type "set",dict:=none,data:=.set #[] 0 (.fresh 0 0<|jB w) }
section
variable{prog:N3}{w:N6}{A:P2}{E:.D}{s:P1}
def Qj(a:S1)(h:Q .dD .rh):
  codeAny .N A (.call (.cu "set.__new__") ⟨[.type "set",a],[]⟩) (wants Q E) s:=by
 refine codeAny_of_tree ?_;show wpAny _ A.in1 (checkBuiltinCall "set.__new__" ⟨[.type "set",a],[]⟩ >>= λ_=>again (.builtin "set.__new__" ⟨[.type "set",a],[]⟩)) _ _ s;refine zF (wpAny_of_eq (F.newCall_set_1 a) (z3 ⟨zXw F.plain_set_new _,zYo F.entry_set_new ?_⟩));rw[zZv F.plain_set_new _];unfold Builtin.«set.__new__» Builtin.Frozenset.newClass;have c:=sub_set_self;obtain⟨f,g,d,e,b⟩:=s;dsimp only
 wp_walk
 refine wpAny_askSetting .aa;dsimp only;dsimp[newObj];exact zF (wpAny_alloc<|z3<|z3 h)
def JU(ns:.c)(e:ns=[]):eR prog w (jB w) s.heap.objs.size ns .gM:=by
 subst e;exact⟨#[],0,_,ZJ _ rfl,λe a=>by simp at a,List.Perm.nil,rfl,GT.fresh _⟩
set_option maxHeartbeats 3200000 in
def CG(Z:.bT)(hl:s.heap.IsList l a)(hi:PyProof.Rows.IntsAre a.toList ns)(hb:.uB)
  (h:∀(h':Heap) (tk:Nat),eR prog w (jB w) s.heap.objs.size (gp ns) h'->(∀b o,s.heap.get? b=some o->h'.get? b=some o)->Q .dD .zX) :
  wpAny .N A (call (.type "set") [.ref l]) Q E s:=by
 obtain⟨c,tl,T⟩:=F.called_set.mro;have K:=F.called_set.made;have O:=F.called_set.sub;refine wpAny_call (codeAny_of_tree ?_);show wpAny _ _ (callAny (.type "set") _) _ _ _;refine z3 ⟨Code.quiet_builtin _ .T,zYo F.entry_type_call ?_⟩;rw[Around.under_plain (weight_type_call_type "set" [.ref l] []) rfl];have h1:=F.called_set.notType;have h2:=F.called_set.canCreate;have a1:=F.typeCall_set_1 (.ref l)
 repeat (any_goals (first|assumption|wp_step))
 refine zYy (Qj .hc (E:=E) (Q:=λv g=>v=.ref s.heap.objs.size/\g = .rh) ⟨rfl,rfl⟩) λr g I=>?_;cases r with
 |error e=>exact I
 |ok fl =>
  cases fl with
  |ret obj =>
   obtain⟨rfl,rfl⟩:=I;have hS:(.gM).get? s.heap.objs.size=some (eJ w):=ZJ _ rfl;have hT:Shared.TypeIs .rh (.ref s.heap.objs.size) "set" := ⟨_,hS,rfl⟩;have a3:=F.called_set.init.lookup;have a0:=F.called_set.init.bind (.ref s.heap.objs.size)
   repeat (any_goals (first|assumption|wp_step))
   refine zYy (codeAny_call_builtin (R:=wants (λr j=>r=.none/\∃h' tk,j = .zX/\eR prog w (jB w) s.heap.objs.size (gp ns) h'/\(∀b o,s.heap.get? b=some o->h'.get? b=some o)) E) F.called_set.init.plain F.entry_set_init (check_set_init_1 hT ?_)) λy j d=>?_
   ·obtain⟨ol,p,u,S,x⟩:=hl
    obtain⟨U,m,J,f⟩:=ol;simp only at u x;subst u;subst x;have M:(.gM).get? l=some { cls:=.type "list",dict:=m,data:=.seq a S,slots:=f }:=.H p;have P:=F.sub_list_set;have V:=F.sub_list_frozenset;have a2:(Value.type "list" == Value.type "dict")=false:=by decide
    have C:(.gM).IsList l a:=⟨_,M,rfl,S,rfl⟩;unfold Builtin.«set.__init__» noKeywords Builtin.Frozenset.updateFrom;generalize hPI:pyIter=PI
    wp_walk
    subst hPI;refine zZs C ?_;refine zF (wpAny_runValue ?_);have lt:l<s.heap.objs.size:=ZI p;have N:A.in1.in1.in1.handled=none:=by simp[Z]
    have nI:l≠(.gM).objs.size:=by rw[YI];exact ZN (ZZ lt)
    have nS:s.heap.objs.size∉[(.gM).objs.size,l]:=by
     rw[YI];dsimp[xB,zYh,or_false,not_or];exact⟨ZN (Z9 _),YA lt⟩
    have n:a.size=ns.length:=by have:=PyProof.Rows.IntsAre.length hi;simpa using this
    have z:∀(i:Nat) (v:S1),a[i]?=some v->∃t,v=.int .kW t:=λi v hv=>PyProof.Rows.IntsAre.int_at hi i v (by rw[Array.getElem?_toList];exact hv);have W:=(Walks.list (prog:=prog) (w:=w) N (.gM).objs.size l nI a).toS;rw[n]at W;refine Mw (led:=jB w) ns W s.heap.objs.size nS z hb (ns.length-0) 0 _ rfl .ey ⟨⟨_,ZJ _ rfl,rfl,rfl⟩,C.push _⟩ ((JU _ rfl).kept λo q=>.H q) λY D k=>?_;obtain⟨h',X,d',G,H⟩:=Y;have eg:X=s.gens:=D.gens;have ed:d'=s.drawn:=D.drawn;have eo:H=s.os:=D.os;subst eg;subst ed;subst eo;show wpAny _ _ _ _ _ _;refine z3 ?_;show wpAny _ _ (ret Value.none) _ _ _;refine z3 ⟨rfl,h',G,rfl,k,λb o e=>?_⟩;have B:=ZI e;exact D.heap b o (by rw[YI];dsimp[xB,zYh,or_false,not_or];exact⟨ZN B,ZN (ZZ B)⟩) (.H .ex)
   ·cases y with
    |error e=>exact d
    |ok fl₂ =>
     cases fl₂ with
     |ret r =>
      obtain⟨rfl,h',tk,rfl,k,L⟩:=d
      repeat (any_goals (first|assumption|wp_step))
      exact h _ _ k L
     |_=>exact d.elim
  |_=>exact I.elim
end
def dX:Slot "set_iterator" "__next__" "set_iterator.__next__" :=
 .of (owner := "set_iterator") (n := "__next__") .wA .T .T .T (by first|exact .inl .T|exact .inr .T) .sf
def wm:Slot "set_iterator" "__iter__" "set_iterator.__iter__" :=
 .of (owner := "set_iterator") (n := "__iter__") .wA .T .T .T (by first|exact .inl .T|exact .inr .T) .sf
def mF:entryFor table "set_iterator.__next__"=some Builtin.«set_iterator.__next__» := entryFor_of_tree .gT
def oM(a:S1):argsOk "set_iterator.__next__" ⟨[a],[]⟩:=by unfold argsOk;kernel_rfl
def Fy:entryFor table "set.__iter__"=some Builtin.«frozenset.__iter__» := entryFor_alias (id' := "frozenset.__iter__") .gT rfl .T .gT
def CH:entryFor table "set_iterator.__iter__"=some Builtin.«dict_keyiterator.__iter__» := entryFor_alias (id' := "dict_keyiterator.__iter__") .gT rfl .T .gT
def Fz(a:S1):argsOk "set_iterator.__iter__" ⟨[a],[]⟩:=by unfold argsOk;kernel_rfl
/---/def nV(first:S1)(i:Nat)(q:Addr)(n ep:Nat):Obj:={ cls:=.type "set_iterator",data:=.fields #[first,.int i 0,.ref q,.int n 0,.int ep 0] }
/---/def nW(es:.hx)(ep:Nat)(t:.cS):Obj:={ cls:=.type "set",dict:=none,data:=.set es ep t }
section
variable{prog:N3}{w:N6}{A:P2}{E:.D}{s:P1}{I q:Addr}{i n ep sl sl':Nat}{es:.hx}{t:.cS}{x:S1}
/---/def rY(prog:N3)(w:N6)(q:Addr)(es:.hx)(ep:Nat)(t:.cS)(sl i:Nat)(r:Option (S1 × Nat)):Prop :=
 ∀(A:P2) (Q:Option (S1 × Nat)->P1->Prop) (E:.D) (s:P1),s.heap.get? q=some .kC->Q r s->.ao (setNext q sl i ep) Q E s
def FA(a:s.heap.get? I=some .AW)(d:.o0)(fit:.hq)(e:es.size=n)(N:rY prog w q es ep t sl i (some (x,sl')))
  (f:∀h',h'.get? I=some (nV (.int sl' 0) (i+1) q n ep)->Heap.SameBut I s.heap h'->Q .fh .bj):.ao .n4 Q E s:=by
 have b:s.TypeIs .et "set_iterator" := ⟨_,a,rfl⟩;unfold pyNext;refine zF (zYc<|YL b dX<|.p0 b);unfold Builtin.«set_iterator.__next__»;refine zF .aa;refine zF .pF;refine zF .uX;rw[y3 .nO];refine zF (N _ _ _ _ d ?_);dsimp only;refine zF .pJ;have c:(s.heap.update I (Obj.mapFields (·.setIfInBounds 0 (rawInt sl')))).get? I=some (nV (.int sl' 0) i q n ep):=Y6 _ a rfl;refine zF (zZi c rfl .d ?_);have g:=Y6 (Obj.mapFields (·.setIfInBounds 1 (rawInt<|(i:Int)+1))) c rfl;refine z3 ⟨x,rfl,z3 (f _ g<|(X8 ..).trans (X8 ..))⟩
def yS(a:.bT)(c:.un)(k:∀b o,b≠I->s.heap.get? b=some o->h0.get? b=some o):
  wpAny .N A.in1 (newExc .xL [] >>= λe=>(raiseNew e:Sem Fin)) .nT (λe f=>.ao (isInstance e .xL >>= λb=>if b=true then (pure none:Sem .wc) else throw e) Q E f) { s with heap:=h0 }:=by
 refine zF ?_;dsimp[newExc,newTuple];refine zF .lP;refine zF (wpAny_of_eq (by first|rfl|(simp;rfl)) ?_);refine YV ?_ .re;dsimp[raiseNew];refine zF (wpAny_handled ?_);rw[show A.in1.handled=none from a];refine zF (z3 (wpAny_throw ?_));refine zF (wpAny_isInstance ⟨_,ZJ _ rfl,rfl⟩ isSubtype_stop ?_);exact z3 (c _ λb o d e=>.H (.H<|k b o d e))
def JV(j:.bT)(a:s.heap.get? I=some .AW)(d:.o0)(fit:.hq)(f:es.size=n)(N:rY prog w q es ep t sl i none)
  (g:.un):.ao .n4 Q E s:=by
 have c:s.TypeIs .et "set_iterator" := ⟨_,a,rfl⟩;unfold pyNext;refine zF (zYc<|YL c dX<|.p0 c);unfold Builtin.«set_iterator.__next__»;refine zF .aa;refine zF .pF;refine zF .uX;rw[y3 .tJ];refine zF (N _ _ _ _ d ?_);dsimp only;refine zF .pJ;refine zZg (yS j g λb o h e=>(.b9 h).trans e) (λ_ _ z=>z.elim) λe k z=>z
def FB{ps:.i}(a:s.heap.get? I=some .B5)(d:.o0)(b:.C4)(fit:.hq)(f:es.size=n)(hp:ps[i]?=some p)(j:es[p]?=some (y,x))
  (g:∀h',h'.get? I=some (nV (.ref T) (i+1) q n ep)->Heap.SameBut I s.heap h'->Q .fh .bj):.ao .n4 Q E s:=by
 have e:s.TypeIs .et "set_iterator" := ⟨_,a,rfl⟩;unfold pyNext;refine zF (zYc<|YL e dX<|.p0 e);unfold Builtin.«set_iterator.__next__»;refine zF .aa;refine zF .pF;refine zF .uX;rw[y3 .tJ];refine zF (X5 b rfl ?_);have c:(.mq).toArray[(.jd).toNat]?=some (.int p 0):=by simp[hp]
 dsimp[c];show wpAny _ _ (setNextDrawn q p ep >>= _) _ _ s;unfold setNextDrawn;refine zF (zF (XS d rfl fit ?_));dsimp[bne_self_eq_false,YH,XZ,j];refine z3 ?_;refine zF .pJ;have h:=Y6 (Obj.mapFields (·.setIfInBounds 1 (rawInt<|(i:Int)+1))) a rfl;refine z3 ⟨x,rfl,z3 (g _ h<|X8 ..)⟩
def JW{ps:.i}(p:.bT)(a:s.heap.get? I=some .B5)(r:.o0)(c:.C4)(fit:.hq)(h:es.size=n)(hp:ps[i]?=none)
  (l:.un):.ao .n4 Q E s:=by
 have f:s.TypeIs .et "set_iterator" := ⟨_,a,rfl⟩;unfold pyNext;refine zF (zYc<|YL f dX<|.p0 f);unfold Builtin.«set_iterator.__next__»;refine zF .aa;refine zF .pF;refine zF (zYe r rfl fit ?_);rw[y3 (by rw[h];simp)];refine zF (X5 c rfl ?_);have d:(.mq).toArray[(.jd).toNat]?=none:=by
  rw[List.getElem?_eq_none_iff]at hp;simp[hp]
 dsimp[d];refine zF .pJ;have j:(s.heap.update I (Obj.mapFields (·.setIfInBounds 0 (rawInt 0)))).get? I=some (nV (.int 0 0) i q n ep):=Y6 _ a rfl;refine zF (zZi j rfl .d ?_);refine zZg (yS (s:=s) p l λb o g e=>(.b9 g).trans ((.b9 g).trans e)) (λ_ _ z=>z.elim) λe u z=>z
def CJ(b:s.heap.get? I=some (nV first i q n ep))(h:Q .et s):.ao (pyIter .et) Q E s:=by
 have a:s.TypeIs .et "set_iterator" := ⟨_,b,rfl⟩;refine wpAny_pyIter_slot a wm (YP wm a CH ?_<|Fz _);unfold Builtin.«dict_keyiterator.__iter__»;refine zF .aa;exact z3 ⟨_,rfl,"set_iterator",_,a,dX.lookup,h⟩
theorem R3(p:.bT)(f:q≠I)(fit:.hq)(sl:Nat->Nat)(v:Nat->S1)(N:∀i,i<es.size->rY prog w q es ep t (sl i) i (some (v i,sl (i+1))))(Ne:rY prog w q es ep t (sl es.size) es.size none):
  Walks prog w A I [I,q] [I] es.size (λi x=>x=v i) (λi h=>h.get? I=some (nV (.int (sl i) 0) i q es.size ep)/\h.get? q=some .kC) where
 sub:=λb c=>by simp at c;simp[c]
 frame:=λ_ _ _ a l=>⟨l I .d _ a.1,l q .d _ a.2⟩
 item:=λi s Q E r a d=>FA a.1 a.2 fit rfl (N i r) λj g m=>d _ j s.toks rfl ⟨g,(m.2 q f).trans a.2⟩ λb o c e=>(m.2 b λz=>c .e6).trans e
 done:=λs Q E a d=>JV p a.1 a.2 fit rfl Ne λj k=>d j s.toks λb o c e=>k b o (λz=>c .e6) e
 self:=λ_ _ _ _ a d=>CJ a.1 d
theorem Vy{T:Addr}{ps:.i}(C:.bT)(f:q≠I)(m:T≠I)(fit:.hq)(G:ps.length=es.size)(hp:∀(i p:Nat),ps[i]?=some p->p<es.size):
  Walks prog w A I [I,q,T] [I] es.size (λi x=>∃p y,ps[i]?=some p/\es[p]?=some (y,x)) (λi h=>h.get? I=some (nV (.ref T) i q es.size ep)/\h.get? q=some .kC/\h.get? T=some { cls:=.type "tuple",data:=.seq (.mq).toArray 0 }) where
 sub:=λb c=>by simp at c;simp[c]
 frame:=λ_ _ _ a j=>⟨j I .d _ a.1,j q .d _ a.2.1,j T .d _ a.2.2⟩
 item:=λi s Q E F a d=>by
  have r:i<ps.length:=by omega
  have v:ps[i]?=some ps[i]:=ZE r;have D:=hp i _ v;have B:es[ps[i]]?=some (es[ps[i]].1,es[ps[i]].2):=Y2 D;exact FB a.1 a.2.1 a.2.2 fit rfl v B λu g l=>d _ u s.toks ⟨_,_,v,B⟩ ⟨g,(l.2 q f).trans a.2.1,(l.2 T m).trans a.2.2⟩ λb o c e=>(l.2 b λz=>c .e6).trans e
 done:=λs Q E a d=>JW C a.1 a.2.1 a.2.2 fit rfl (YD .a) λu k=>d u s.toks λb o c e=>k b o (λz=>c .e6) e
 self:=λ_ _ _ _ a d=>CJ a.1 d
end
theorem pP{α:Type}:∀(l:List α) (i:Nat) (x:α),l[i]?=some x->(x::l.eraseIdx i).Perm l
 |[],_,_,e=>by simp at e
 |y::l,0,x,e=>by simp at e;subst e;exact List.Perm.refl _
 |y::l,i+1,x,e=>by
  rw[List.eraseIdx_cons_succ];exact(List.Perm.swap y x _).trans (List.Perm.cons y<|pP l i x .em)
theorem Ib(f:Nat->Nat):∀(n k:Nat) (left:List α) (out:Array α),left.length=n->(pickOrder.go f n k left out).toList.Perm (out.toList++left)
 |0,k,left,out,h=>by
  have:left=[]:=X1.mp h;subst this;simp[pickOrder.go]
 |n+1,k,left,out,h=>by
  unfold pickOrder.go;have a:f k%left.length<left.length:=Nat.mod_lt _ .a;have e:left[f k%left.length]?=some (left[f k%left.length]):=ZE a;rw[e];refine(Ib f n (k+1) _ _ (by rw[List.length_eraseIdx_of_lt a];omega)).trans ?_;rw[Array.toList_push,ZU];exact List.Perm.append_left _ (pP _ _ _ e)
def JX(f:Nat->Nat)(xs:Array α):(pickOrder f xs).toList.Perm xs.toList:=by
 have:=Ib f xs.size 0 xs.toList #[] .d;simpa[pickOrder] using this
def JY(b:n≠0)(h:∀i c,i<n->Q i .sz):wpAny M A (choose a n) Q E s:=by
 intro d p _;exact⟨b,h _ _ (Nat.mod_lt _<|Nat.pos_of_ne_zero b)⟩
theorem yT:∀(n:Nat) (xs:List α) {s:P1} {Q:List α->P1->Prop},xs.length=n->(∀ys c,ys.Perm xs->Q ys .sz)->wpAny M A (drawOrder n xs) Q E s
 |0,xs,s,Q,a,h=>by
  have e:xs=[]:=X1.mp a;subst e;exact z3 (h [] s.drawn<|List.Perm.refl _)
 |n+1,[],s,Q,a,h=>by simp at a
 |n+1,x::xs,s,Q,a,h=>by
  unfold drawOrder;refine zF (JY .d λi c d=>?_);have e:.bC[i]?=some .bC[i]:=ZE d;rw[e];dsimp only;refine zF (yT n _ (s:=.sz) (by rw[List.length_eraseIdx_of_lt d];omega) λys b p=>?_);exact z3 (h _ b<|(List.Perm.cons _ p).trans (pP _ _ _ e))
def vv(h:Q .yZ s):.ao setsByText Q E s:=by
 unfold setsByText;exact zF (wpAny_askSetting<|z3 h)
def R4(a:w.params.followText "set-order"=true)(fit:t.fits b.size=true)(i:Nat):rY prog w q b ep t 0 i (((pickOrder .qv b)[i]?).map λe=>(e.2,0)):=by
 intro A Q E s c h;unfold setNext;refine zF (XS c rfl fit ?_);refine zF (vv ?_);refine XJ (λ_=>?_) λz=>absurd a z;refine XJ .sC λ_=>?_;unfold setWalk;refine zF (zF (XS c rfl fit ?_));refine zF (vv ?_);refine XJ (λ_=>?_) λz=>absurd a z;exact zF (wpAny_askSetting<|z3<|z3 h)
def R5(c:w.params.followText "set-order"=false)(fit:t.fits a.size=true)(g:GT true t)(hd:.zW=false)(b i:Nat):rY prog w q a ep t b i (match a[.lZ b]?,t.place[.lZ b]? with|some (_,x),some j=>some (x,j+1)|_,_=>none):=by
 intro A Q E s d h;unfold setNext;refine zF (XS d rfl fit ?_);refine zF (vv ?_);refine XJ (λz=>by rw[c]at z;cases z) λ_=>?_;refine XJ (λz=>absurd (show .zW=true from z) (by rw[hd];simp)) λ_=>?_;refine zF (m:=if (!t.led && !a.isEmpty)=true then unsupported "set:maker-not-led" else pure ()) ?_;rw[g.le];exact z3 (z3 h)
section
variable{s:P1}{es:.hx}{t:.cS}
theorem Ic:∀(l:List .ku),ElemsOf .gF l->PyProof.Rows.IntsAre .b6 (l.map uf)
 |[],_=>.nil
 |e::l,h=>by
  obtain⟨⟨k,h1,_⟩,_⟩:=h e .d4;obtain⟨a,c⟩:=zXq (show Value.isInt k e.2=true from h1);have b:uf e=k:=AG h1;rw[y6,y6,b,c];exact .cons k a (Ic l λx d=>h x (.eF d))
def wn(G:.hP es t ns){l:List .ku}(p:l.Perm es.toList)(d:∀j v,P j v->j<l.length->v=(l.getD j (0,.none)).2)(h:ItemsOf P acc ns.length):
  ∃a,PyProof.Rows.IntsAre acc.toList a/\a.Perm ns:=by
 have i:l.length=ns.length:=by rw[p.length_eq,vy,G.len]
 have e:acc.toList=l.map (·.2):=by
  apply YX;intro j
  by_cases f:j<ns.length
  ·have b:j<acc.size:=by rw[h.1];exact f
   have c:j<l.length:=by omega
   have g:=d j acc[j] (h.2 j _<|Y2 b) c;rw[Array.getElem?_toList,Y2 b,g];simp[List.getD,c]
  ·rw[YD (by rw[vy,h.1];omega),YD .S]
 refine⟨l.map uf,?_,(p.map uf).trans G.ks⟩;rw[e];exact Ic l (G.el.perm p)
def Mx{α:Type}(d:α)(es:Array α):(.bV es.size).map (λp=>es.getD p d)=es.toList:=by
 apply YX;intro j
 by_cases a:j<es.size
 ·simp[a,Array.getD]
 ·simp[a]
def My(h:.hq):t.place.size=es.size:=by
 dsimp[SetTable.fits,YB,beq_iff_eq]at h;exact h.1
noncomputable def ug(t:.cS):Nat->Nat
 |0=>0
 |i+1=>t.place.getD i 0+1
def Mz{Q:.D}(hS:.oW)(d:.o8)
  (h:∀(I:Addr) (h':Heap) (T:Drawn) (Y:.I) (P:Nat->S1->Prop) (St:.pr),(∀b o,s.heap.get? b=some o->h'.get? b=some o)->s.heap.objs.size<=I->(∀b∈Y,b=q\/s.heap.objs.size<=b)->
   (∀g:P2,g.handled=none->Walks prog w g I Y [I] ns.length P St)->St 0 h'->(∀acc,ItemsOf P acc ns.length->∃V,PyProof.Rows.IntsAre acc.toList V/\V.Perm ns)->Q .et { s with heap:=h',drawn:=T }) :
  wpAny .N A (pyIter .cH) Q E s:=by
 obtain⟨es,ep,t,m,G⟩:=hS;have X:s.TypeIs .hF "set" := ⟨_,m,rfl⟩;have H:q<s.heap.objs.size:=ZI m;have B:q≠s.heap.objs.size:=ZN H;have f:=G.len;have a0:=My G.fit;refine wpAny_pyIter_slot X F.slot_set_iter (YP F.slot_set_iter X Fy ?_<|F.args_set_iter_1 _);unfold Builtin.«frozenset.__iter__» Builtin.Frozenset.slot0 Builtin.Frozenset.sizeOf;refine zF (zF<|z3 .aa);refine zF (zF<|zYe m rfl G.fit .aa);unfold setDrawn;refine zF (zF (XS m rfl G.fit ?_));refine zF (vv .aa);cases hB:w.params.followText "set-order" with
 |true =>
  refine XJ .sC λ_=>?_;refine zF (z3 (zF ?_));unfold setEpoch;refine zF (XS m rfl G.fit .aa);refine zF .lP;refine z3 ⟨_,rfl,"set_iterator",_,⟨_,ZJ _ rfl,rfl⟩,dX.lookup,?_⟩;have n:=JX .qv es;have a1:(.kb).size=es.size:=by have:=n.length_eq;simpa using this
  have W:=λ(g:P2) (J:g.handled=none)=>R3 J B G.fit (λ_=>0) (λi=>((.kb).toList.getD i (0,.none)).2) (λi R=>by
   have z:=R4 (prog:=prog) (q:=q) (ep:=ep) hB G.fit i;have e:(.kb[i]?).map (λe=>(e.2,0))=some (((.kb).toList.getD i (0,Value.none)).2,0):=by
    have U:i<(.kb).size:=by omega
    simp[List.getD,U]
   rw[e]at z;exact z) (by
   have z:=R4 (prog:=prog) (q:=q) (ep:=ep) hB G.fit es.size;rw[zZc .a]at z;exact z)
  rw[f]at W;refine h s.heap.objs.size _ s.drawn _ _ _ .s4 .o (λb d=>?_) W ⟨?_,.H m⟩ λacc M=>wn G n (λj v e _=>e) M
  ·rcases xB.mp d with rfl|d
   ·exact .inr .o
   ·exact .inl (YE.mp d)
  ·rw[<-f];exact ZJ _ rfl
 |false =>
  have x:GT true t:=by have:=G.gt;rw[show jB w=true from by unfold jB;rw[hB];rfl]at this;exact this
  cases hD:.zJ with
  |true =>
   refine XJ (λ_=>?_) λz=>absurd (show (!false&&.zJ)=true from by rw[hD];rfl) z;refine zF (yT es.size (.bV es.size) .d λr T n=>?_);have D:r.length=es.size:=by rw[n.length_eq,ZO]
   dsimp[newTuple];refine zF (YV ?_ (show (List.map (λ(i:Nat)=>rawInt i) r).toArray.size<=sizeLine by rw[v3,ZA,D];exact zXu .a));refine zF ?_;unfold setEpoch;have K:∀o:Obj,(.tA).get? q=some .kC:=λo=>.H m;refine zF (XS (K _) rfl G.fit .aa);refine zF .lP;refine z3 ⟨_,rfl,"set_iterator",_,⟨_,ZJ _ rfl,rfl⟩,dX.lookup,?_⟩;have C:∀o:Obj,q≠(.tA).objs.size:=λo=>by rw[YI];exact ZN (ZZ H)
   have S:∀o:Obj,s.heap.objs.size≠(.tA).objs.size:=λo=>by rw[YI];exact ZN (Z9 _)
   have W:=λ(g:P2) (J:g.handled=none)=>Vy (prog:=prog) (w:=w) (A:=g) (ep:=ep) (t:=t) J (C { cls:=.type "tuple",data:=.seq (.Am).toArray }) (S { cls:=.type "tuple",data:=.seq (.Am).toArray }) G.fit D λi p e=>by
    have:=(n.mem_iff (a:=p)).mp (ZK e);simpa using this
   rw[f]at W;refine h _ _ T _ _ _ (λb o e=>.H .ex) .BD (λb d=>?_) W ⟨?_,.H (K _),.H .ha⟩ λacc M=>wn G (l:=r.map λp=>es.getD p (0,.none)) ?_ (λj v e u=>?_) M
   ·rcases xB.mp d with rfl|d
    ·exact .inr .BD
    ·rcases xB.mp d with rfl|d
     ·exact .inl rfl
     ·rw[YE.mp d];exact .inr .o
   ·rw[<-f];exact ZJ _ rfl
   ·have:=n.map λp=>es.getD p (0,Value.none)
    rw[Mx]at this;exact this
   ·obtain⟨p,y,e1,N⟩:=e
    have Z:p<es.size:=by
     have:=(n.mem_iff (a:=p)).mp (ZK e1);simpa using this
    rw[Y2 Z]at N;have O:(r.map λp=>es.getD p (0,Value.none)).getD j (0,Value.none)=es[p]:=by simp[List.getD,e1,Array.getD,Z]
    rw[O,ZT N]
  |false =>
   refine XJ (λz=>absurd (show (!false && (!t.plain && decide (es.size > 1)))=true from z) (by rw[hD];simp)) λ_ => ?_;refine zF (z3 (zF ?_));unfold setEpoch;refine zF (XS m rfl G.fit .aa);refine zF .lP;refine z3 ⟨_,rfl, "set_iterator",_,⟨_,ZJ _ rfl,rfl⟩,dX.lookup,?_⟩;have W:=λ(g:P2) (J:g.handled=none)=>R3 (prog:=prog) (w:=w) (A:=g) (ep:=ep) (t:=t) J B G.fit (ug t) (λi=>(es.toList.getD i (0,.none)).2) (λi R=>by
    have z:=R5 (prog:=prog) (q:=q) (ep:=ep) hB G.fit x hD (ug t i) i;have L:i<t.place.size:=by omega
    have e:.lZ (ug t i)=i:=by
     cases i with
     |zero=>exact vP x.up
     |succ j =>
      have u:j<t.place.size:=by omega
      have:=vO x.up u;simpa[ug,Array.getD,u] using this
    rw[e,Y2 R,Y2 L]at z;have N:(es.toList.getD i (0,Value.none)).2=es[i].2:=by simp[List.getD,R]
    have O:t.place.getD i 0=t.place[i]:=by simp[Array.getD,L]
    rw[N,show ug t (i+1)=t.place[i]+1 from by rw[<-O];rfl];exact z) (by
    have z:=R5 (prog:=prog) (q:=q) (ep:=ep) hB G.fit x hD (ug t es.size) es.size;have e:.lZ (ug t es.size)=es.size:=by
     cases c:es.size with
     |zero=>exact vP x.up
     |succ j =>
      have u:j<t.place.size:=by omega
      have:=vO x.up u;simpa[ug,Array.getD,u] using this
    rw[e,zZc .o]at z;exact z)
   rw[f]at W;refine h s.heap.objs.size _ s.drawn _ _ _ .s4 .o (λb d=>?_) W ⟨?_,.H m⟩ λacc M=>wn G (List.Perm.refl _) (λj v e _=>e) M
   ·rcases xB.mp d with rfl|d
    ·exact .inr .o
    ·exact .inl (YE.mp d)
   ·rw[<-f];exact ZJ _ rfl
end
end Fm
namespace Fm
section
open Classical
@[simp] noncomputable def j2(h:Hd):D->Option .sj
 |.tup l=>some (l,none)
 |.exn c l=>if c="" then some (l,none) else none
 |.ref n=>match h[n]? with|some .cq=>some (l,some n)|_=>none
 |_=>none
@[simp] noncomputable def yU(a b:EF)(tg:GF)(body:SF):SF:=λσ h=>match a σ h with
 |.ok x h1=>match b σ h1 with
  |.ok y h2=>match j2 h2 x,j2 h2 y with
   |some (l,o),some (k,o')=>qv .rL tg body .kg σ h2
   |_,_=>.bad
  |.exc x h=>.exc x σ h
  |.bad=>.bad
 |.exc x h=>.exc x σ h
 |.bad=>.bad
end
noncomputable abbrev pQ:=List (List Nat × List .bJ)
/---/def qw(l:.aQ):D:=.exn "" (l.map .str)
/---/def FC(T:pQ)(a:EF):EF:=λσ h=>(.L).bind λx h=>match x with
 |.str l=>.ok (.bl (.ol).isNone) h
 |_=>.bad
/---/def CK(T:pQ)(a:EF):EF:=λσ h=>(.L).bind λx h=>match x with
 |.str l=>(match T.lookup l with|some d=>.ok (qw d) h|none=>.bad)
 |_=>.bad
/---/def MC(a:EF):EF:=λσ h=>(.L).bind λx h=>match x with
 |.exn c l=>if c="" then .ok (.int l.length) h else .bad
 |_=>.bad
/---/def MD(a:EF):EF:=λσ h=>(.L).bind λx h=>match x with
 |.exn c l=>if c="" then .ok (.bl l.isEmpty) h else .bad
 |_=>.bad
/---/def CL(a:EF):EF:=λσ h=>(.L).bind λx h=>match x with
 |.int i=>if i.natAbs.log2<1920 then .ok (.str<|qg .fM) h else .bad
 |.non=>.ok .uY h
 |_=>.bad
section
open Classical
@[simp] noncomputable def wp(nl:Nat)(caps:.i)(a b:EF)(tg:GF)(cs:List TF)(e:EF):LF:=λσ h=>match a σ h with
 |.ok x h1=>match b σ h1 with
  |.ok y h2=>match j2 h2 x,j2 h2 y with
   |some (l,o),some (k,o')=>dQ .rL tg cs e .kg .tD h2
   |_,_=>.bad
  |.exc x h=>.exc x h
  |.bad=>.bad
 |.exc x h=>.exc x h
 |.bad=>.bad
end
end Fm
namespace Ts
noncomputable def insK{α:Type}(key:α->Int)(x:α):List α->List α
 |[]=>[x]
 |y::l=>if key x<key y then x::y::l else y::insK key x l
/---/def byK{α:Type}(key:α->Int)(l:List α):List α := l.foldl (λacc x=>insK key x acc) []
theorem rZ{α:Type}(a:α->Int)(x:α):∀l:List α,(.oe).Perm (x::l)
 |[]=>.refl _
 |y::l=>by
  unfold insK;split
  ·exact .refl _
  ·exact((rZ a x l).cons y).trans (.swap _ _ _)
theorem wq{α:Type}(a:α->Int)(x:α):∀{l:List α},l.Pairwise .iw->(.oe).Pairwise .iw
 |[],_=>List.pairwise_singleton _ _
 |y::l,h=>by
  have p:=Z4.mp h;unfold insK;split
  ·rename_i c
   refine Z4.mpr ⟨λz b=>?_,h⟩;rcases xB.mp b with rfl|b
   ·omega
   ·have:=p.1 z b;omega
  ·rename_i c
   refine Z4.mpr ⟨λz b=>?_,wq a x p.2⟩;rcases xB.mp ((rZ a x l).mem_iff.mp b) with rfl|b
   ·omega
   ·exact p.1 z b
theorem uh{α:Type}(a:α->Int)(x:α)(k:Int):∀{l:List α},l.Pairwise .iw->(.oe).filter .kx=(l++[x]).filter .kx
 |[],_=>rfl
 |y::l,h=>by
  have p:=Z4.mp h;unfold insK;split
  ·rename_i c
   rw[zYf,XB,XB,XB,zXo]
   by_cases e:a x=k
   ·have n:¬a y=k:=by omega
    have b:l.filter .kx=[]:=by
     rw[List.filter_eq_nil_iff];intro z d;have:=p.1 z d;simp;omega
    simp[e,n,b]
   ·simp[e]
  ·rw[zYf,XB,XB,uh a x k p.2]
theorem FD{α:Type}(a:α->Int):∀(l acc:List α),acc.Pairwise .iw->
  (.ra).Perm (acc++l)/\(.ra).Pairwise .iw/\∀k,(.ra).filter .kx=(acc++l).filter .kx
 |[],acc,h=>by simp[h]
 |x::l,acc,h=>by
  obtain⟨h1,b,c⟩:=FD a l (insK a x acc) (wq a x h);refine⟨h1.trans ?_,b,λk=>?_⟩
  ·exact((rZ a x acc).append_right l).trans (List.perm_middle.symm)
  ·rw[zZr,c k,zXo,uh a x k h,<-List.filter_append,ZU];rfl
def byK_perm{α:Type}(a:α->Int)(l:List α):(byK a l).Perm l:=(FD a l [] .nil).1
def byK_rises{α:Type}(a:α->Int)(l:List α):(byK a l).Pairwise .iw:=(FD a l [] .nil).2.1
theorem CM{α β:Type}(f:α->β)(a:α->Int)(b:β->Int)(h:∀x,b (f x)=a x)(x:α):∀l:List α,insK b (f x) .hf=(.oe).map f
 |[]=>rfl
 |y::l=>by
  dsimp[y6,insK,h];split
  ·rfl
  ·rw[CM f a b h x l];rfl
def byK_map{α β:Type}(f:α->β)(b:α->Int)(c:β->Int)(h:∀x,c (f x)=b x)(l:List α):byK c .hf=(byK b l).map f:=by
 have:∀(l:List α) a,(.hf).foldl (λa x=>insK c x a) (a.map f)=(l.foldl (λa x=>insK b x a) a).map f:=by
  intro l
  induction l with
  |nil=>intro a;rfl
  |cons x l d =>
   intro a;rw[y6,zZr,zZr,CM f b c h,d]
 exact this l []
noncomputable def popK:Nat->List Int
 |0=>[0]
 |k+1=>popK k++(.fd).map (· + 1)
end Ts
namespace Fm
noncomputable def CN(h:Hd):D->Option Int
 |.ref n=>match h[n]? with|some .cq=>some (l.length:Int)|_=>none
 |_=>none
noncomputable def CO(h:Hd):List D->Option .cF
 |[]=>some []
 |x::l=>match CN h x,CO h l with|some k,some kz=>some (k::kz)|_,_=>none
open Classical in
/---/def nX(a:EF):LF:=λσ h=>(.L).bind λx h=>match ee h x with
 |some l=>match CO h l with
  |some kz=>if ∃k,k<=6/\kz=Ts.popK k then .ok ((.fs<|kz.zip l).map (·.2)) h else .bad
  |none=>.bad
 |none=>.bad
end Fm
namespace L2
open PySem PySem.Spec PyProof.Rows
section
variable{κ:Type}[DecidableEq κ]
/---/def i9(kvs:List .ja)(k:κ):Option V:=(kvs.find? λkv=>decide (kv.1=k)).map (·.2)
/---/def lD(kvs:List .ja)(k:κ)(v:V):List .ja :=
 if (kvs.any λkv=>decide (kv.1=k))=true then kvs.map (λkv=>if kv.1=k then (kv.1,v) else kv) else kvs++[(k,v)]
def wu{k:κ}(e:p.1=k):i9 (p::r) k=some p.2:=by simp[i9,zYp,e]
def nY{k:κ}(e:¬p.1=k):i9 (p::r) k=i9 r k:=by simp[i9,zYp,e]
theorem CP(k:κ):∀a:List .ja,.Ax=(i9 a k).isSome
 |[]=>rfl
 |p::r=>by
  rw[zZz]
  by_cases e:p.1=k
  ·dsimp[wu e,x3 e,Bool.true_or,Option.isSome_some]
  ·rw[nY e,xC e,Bool.false_or];exact CP k r
def ui(a:List .ja)(k:κ)(v:V):(lD a k v).length<=a.length+1:=by
 unfold lD;split
 ·rw[ZA];omega
 ·rw[ZB,Z2,vb];omega
def o9.isSome_eq(r:o9 o u):o.isSome=u.isSome:=by
 cases o with
 |none=>cases u with
  |none=>rfl
  |some _=>exact(show False from r).elim
 |some _=>cases u with
  |none=>exact(show False from r).elim
  |some _=>rfl
def KV.val{vs:List .oC}(r:KV a vs)(k:κ):o9 (i9 a k) (valueAt vs k):=by
 unfold KV at r
 induction r with
 |nil=>exact True.intro
 |@cons p q j d h t g =>
  obtain⟨f,i⟩:=h
  by_cases e:p.1=k
  ·have c:q.1=k:=f.symm.trans e
   have b:valueAt (q::d) k=some q.2:=by simp[valueAt,zYp,c]
   rw[wu e,b];exact i
  ·have c:¬q.1=k:=λz=>e (f.trans z)
   have b:valueAt (q::d) k=valueAt d k:=by simp[valueAt,zYp,c]
   rw[nY e,b];exact g
def KV.any(r:KV a vs)(k:κ):.Ax=vs.any λb=>decide (b.1=k):=by
 unfold KV at r
 induction r with
 |nil=>rfl
 |cons h t c=>rw[zZz,zZz,c,h.1]
def KV.repl(r:KV b vs)(k:κ){y:V}{u:S1}(d:cw y u):
  KV (b.map λa=>if a.1=k then (a.1,y) else a) (vs.map λa=>if a.1=k then (a.1,u) else a):=by
 unfold KV at r⊢
 induction r with
 |nil=>exact .nil
 |@cons p q i j h t f =>
  rw[y6,y6];refine .cons ?_ f;obtain⟨c,g⟩:=h
  by_cases e:p.1=k
  ·rw[z4 e,z4 (c.symm.trans e)];exact⟨c,d⟩
  ·rw[y3 e,y3 (λz=>e (c.trans z))];exact⟨c,g⟩
def KV.put(r:KV a vs)(k:κ){y:V}{u:S1}(b:cw y u):KV (lD a k y) (stored vs k u):=by
 unfold lD stored;rw[r.any k]
 by_cases e:(vs.any λc=>decide (c.1=k))=true
 ·rw[z4 e,z4 e];exact r.repl k b
 ·rw[y3 e,y3 e];exact Paired.snoc r ⟨rfl,b⟩
def KV.length{vs:List .oC}(r:KV a vs):a.length=vs.length:=Paired.length r
end
def CQ(r:cw (kV k) u):(.gV).is k u=true:=by
 cases k with
 |inl i=>obtain⟨t,e⟩:=(show ∃t,u=Value.int i t from r);subst e;exact B8 P w i t
 |inr x=>obtain⟨t,e⟩:=(show ∃t,u=Value.str x t from r);subst e;exact B9 P w x t
theorem yV:∀{ks:List Key} {us:List S1},bn (ks.map kV) us->ItemsAre .gV ks us
 |[],_,r=>by rw[X3]at r;cases r;exact .nil
 |k::ks,_,r=>by
  rw[y6]at r;cases r with
  |cons h t=>exact .cons (CQ h) (yV t)
noncomputable abbrev KT(H:Hp):List .vu->List .m9->Prop:=Paired λp q=>p.1=q.1/\H q.2.1=some (.tup<|p.1.map kV)/\cw p.2 q.2.2
variable{H:Hp}
def KT.val{xs:List .m9}(r:KT H a xs)(k:List Key):o9 (i9 a k) ((atKey xs k).map (·.2)):=by
 induction r with
 |nil=>exact True.intro
 |@cons p q j d h t g =>
  obtain⟨f,_,i⟩:=h
  by_cases e:p.1=k
  ·have c:q.1=k:=f.symm.trans e
   have b:atKey (q::d) k=some q.2:=by simp[atKey,zYp,c]
   rw[wu e,b];exact i
  ·have c:¬q.1=k:=λz=>e (f.trans z)
   have b:atKey (q::d) k=atKey d k:=by simp[atKey,zYp,c]
   rw[nY e,b];exact g
def KT.repl(r:KT H a xs)(k:List Key)(f:cw y u):
  KT H (a.map λc=>if c.1=k then (c.1,y) else c) (xs.map<|putAt k u):=by
 induction r with
 |nil=>exact .nil
 |@cons p q j l h t g =>
  rw[y6,y6];refine .cons ?_ g;obtain⟨b,d,i⟩:=h;unfold putAt
  by_cases e:p.1=k
  ·rw[z4 e,z4 (b.symm.trans e)];exact⟨b,d,f⟩
  ·rw[y3 e,y3 (λz=>e (b.trans z))];exact⟨b,d,i⟩
def KT.put(r:KT H a xs)(k:List Key)(d:H b=some .kK)(c:cw y u):
  KT H (lD a k y) (storedH xs k b u):=by
 have e:(a.any λf=>decide (f.1=k))=(atKey xs k).isSome:=by
  rw[CP,(r.val k).isSome_eq,Option.isSome_map]
 unfold lD storedH;rw[e]
 by_cases q:(atKey xs k).isSome=true
 ·rw[z4 q,z4 q];exact r.repl k c
 ·rw[y3 q,y3 q];exact Paired.snoc r ⟨rfl,d,c⟩
def KT.keeps(r:KT H a xs)(ht:∀b ys,H b=some .lu->c b=some .lu):KT c a xs :=
 Paired.mapP r λ_ _ z=>⟨z.1,ht _ _ z.2.1,z.2.2⟩
variable{b:.d0}
section
variable{P:N3}{w:N6}{H:Hp}{h:Heap}{a:Addr}
def R6(ok:.cp)(e:Rd H a u):.l5 u:=e.ok ok
def yW(ok:.cp)(e:Rd H a .fk):b.length<=sizeLine/\.fG=false/\∃vs,KV b vs/\h.DictOf .gV a vs :=
 show fL P w H h a .fk from R6 ok e
def MH(ok:.cp)(e:H a=some .fk):b.length<=sizeLine/\.fG=false/\∃vs,KV b vs/\h.DictOf .gV a vs:=yW ok (.inl e)
def wv(ok:.cp)(e:H a=some (.tup<|ks.map kV)):(.kz).is h ks a:=by
 obtain⟨_,b,r,o,c,f,n,d⟩:=(show fL P w H h a (.tup<|ks.map kV) from ok a _ e);exact⟨o,b.toArray,n,c,f,d,by simpa using yV r⟩
def yX{b:.gb}(ok:.cp)(e:Rd H a (.dT b)):b.length<=sizeLine/\.fG=false/\
  ∃xs,KT H b xs/\h.DictOfH .kz a xs:=by
 obtain⟨z,y,xs,r,o,u,n,g,v,k,i,j⟩:=(show fL P w H h a (.dT b) from R6 ok e);refine⟨z,y,xs,r,o,u,n,g,v,k,i,λx c=>?_,j⟩;have d:∀{l:.gb} {m:List .m9},KT H l m->∀x∈m,(.kz).is h x.1 x.2.1:=by
  intro l m q
  induction q with
  |nil=>intro x c;exact nomatch c
  |@cons p q A B f t s =>
   intro x c;rcases xB.mp c with e|c
   ·subst e
    exact wv ok (by rw[<-f.1];exact f.2.1)
   ·exact s x c
 exact d r x c
def Vz{b:.gb}(ok:.cp)(e:H a=some (.dT b)):b.length<=sizeLine/\.fG=false/\
  ∃xs,KT H b xs/\h.DictOfH .kz a xs:=yX ok (.inl e)
end
/---/def qx(H:Hp)(a:Addr)(y:V)(r:Option V):Prop :=
 (∃kvs k,Rd H a .la/\y=kV k/\r=i9 kvs k)\/∃kvs k b,Rd H a .jz/\y=.ref b/\H b=some .kK/\r=i9 kvs k
/---/def CS(H:Hp)(a:Addr)(y v:V)(H':Hp):Prop :=
 (∃kvs k,H a=some .la/\y=kV k/\kvs.length<sizeLine/\H'=.aA a (.dK .oc))\/
 ∃kvs k b,H a=some .jz/\y=.ref b/\H b=some .kK/\kvs.length<sizeLine/\H'=.aA a (.dT .oc)
def qx.k{k:Key}(e:H a=some .fk):qx H a (kV k) (i9 b k):=.inl ⟨b,k,.inl e,rfl,rfl⟩
def qx.t{a b:Addr}{k:List Key}(e:H a=some (.dT c))(d:H b=some .kK):qx H a .fg (i9 c k):=.inr ⟨c,k,b,.inl e,rfl,d,rfl⟩
def CS.k{k:Key}{v:V}(e:H a=some .fk)(c:b.length<sizeLine):CS H a (kV k) v (.aA a<|.dK<|lD b k v):=.inl ⟨b,k,e,rfl,c,rfl⟩
def CS.t{a b:Addr}{k:List Key}{v:V}(e:H a=some (.dT c))(f:H b=some .kK)(d:c.length<sizeLine):
  CS H a .fg v (.aA a<|.dT<|lD c k v):=.inr ⟨c,k,b,e,rfl,f,d,rfl⟩
section
variable{X:Cx}{pins:.J}{σ:St}{H:Hp}{s:P1}{a:Addr}{y v:V}{u r:S1}{o:Option V}{A:P2}{E:.D}
def Inv.big(I:.p):sysModules<s.heap.objs.size:=by
 have h:mainGlobals<s.heap.objs.size:=(I.mod.glob.keeps I.bk).lt;exact Z3 .b h
def JZ(t:.ps)(I:.p)(g:qx H a y .dR)(q:cw y u)(h:∀w' n,Inv X pins σ H n->cw v w'->Q w' n):
  wpAny .af A (getItem .bu u) Q E s:=by
 rcases g with ⟨kvs,k,e,f,l⟩|⟨kvs,k,b,e,f,C,l⟩
 ·subst f
  obtain⟨z,x,w,c,i⟩:=yW I.hok e;obtain⟨w',j,d⟩:=o9.some_of (v:=v) (o:=valueAt w k) .Bd;exact wpAny_getItem_of (CQ q) i.mapOf j (h w' _ .fY d)
 ·subst f
  cases (show u=Value.ref b from q);obtain⟨z,x,B,c,i⟩:=yX I.hok e;obtain⟨w',j,d⟩:=o9.some_of (v:=v) (o:=(atKey B k).map (·.2)) .Bd;obtain⟨p,D,m⟩:=Option.map_eq_some_iff.mp j;refine wpAny_getItem_heap (zXp t) (wv I.hok C) i D ?_;rw[m];exact h w' _ .fY d
def WS(n:.ps)(I:.p)(g:qx H a y o)(m:cw y u)(h:∀j,Inv X pins σ H j->Q (.bool o.isSome) j):
  wpAny .af A (compareOp .In u .bu) Q E s:=by
 rcases g with ⟨kvs,k,e,d,l⟩|⟨kvs,k,b,e,d,p,l⟩
 ·subst d
  obtain⟨z,f,t,c,i⟩:=yW I.hok e;refine wpAny_in_of (CQ m) f i.mapOf ?_;rw[<-(c.val k).isSome_eq,<-l];exact h _ .fY
 ·subst d
  cases (show u=Value.ref b from m);obtain⟨z,f,w,c,i⟩:=yX I.hok e;refine wpAny_in_heap (zXp n) (wv I.hok p) f i ?_;have q:=(c.val k).isSome_eq;rw[Option.isSome_map]at q;rw[<-q,<-l];exact h _ .fY
def Qk(n:.ps)(I:.p)(g:qx H a y o)(m:cw y u)(h:∀j,Inv X pins σ H j->Q (.bool (!o.isSome)) j):
  wpAny .af A (compareOp .NotIn u .bu) Q E s:=by
 rcases g with ⟨kvs,k,e,d,l⟩|⟨kvs,k,b,e,d,p,l⟩
 ·subst d
  obtain⟨z,f,t,c,i⟩:=yW I.hok e;refine wpAny_notIn_of (CQ m) f i.mapOf ?_;rw[<-(c.val k).isSome_eq,<-l];exact h _ .fY
 ·subst d
  cases (show u=Value.ref b from m);obtain⟨z,f,w,c,i⟩:=yX I.hok e;refine wpAny_notIn_heap (zXp n) (wv I.hok p) f i ?_;have q:=(c.val k).isSome_eq;rw[Option.isSome_map]at q;rw[<-q,<-l];exact h _ .fY
def Id(I:.p)(c:Mut (H a))(d:Heap.SameBut a s.heap h')(he:∃q,h'.get? a=some q)(new:fL X.prog X.w (.aA a ob) h' a ob):
  Inv X pins σ (.aA a ob) .fw :=
 I.write (x:=a) (e:=a) c .a8 (λb q f z=>(d.2 b f).trans z) he new
def Tv(z:b.length<=sizeLine)(hd:.fG=false)(rel:KV b vs)(c:h'.DictOf .gV a vs):
  fL P w d h' a .fk:=⟨z,hd,vs,rel,c⟩
def J0(K:.ps)(I:.p)(g:CS H a y v x)(F:cw y u)(C:cw v r)(h:∀B,Inv X pins σ x B->Q () B):
  wpAny .af A (setItem .bu u r) Q E s:=by
 rcases g with ⟨kvs,k,e,m,l,eH⟩|⟨kvs,k,b,e,m,G,l,eH⟩
 ·subst m eH
  obtain⟨z,t,L,d,w⟩:=MH I.hok e;have p:L.length<=sizeLine:=by rw[<-d.length];exact z
  have n:(.oc).length<=sizeLine:=by have:=ui kvs k v;omega
  refine wpAny_setItem_pairs (hsz:=p) (CQ F) w λJ f j=>h _ ?_;have R:∃q,J.get? a=some q:=let ⟨q,_,_,i,_⟩:=f;⟨q,i⟩;exact Id I .rG j R (Tv n t (d.put k C) f)
 ·subst m eH
  cases (show u=Value.ref b from F);obtain⟨z,t,N,d,w⟩:=Vz I.hok e;have p:N.length<=sizeLine:=by rw[<-Paired.length d];exact z
  have n:(.oc).length<=sizeLine:=by have:=ui kvs k v;omega
  refine wpAny_setItem_heap (hsz:=p) (zXp K) (wv I.hok G) w λJ f j=>h _ ?_;obtain⟨q,T,S,i,U,P,M,_,O⟩:=f;refine Id I .rG j ⟨q,i⟩ ⟨n,t,_,(d.put k G C).keeps λc V D=>?_,q,T,S,i,U,P,M,O⟩;rw[aS (RU D e (λz=>nomatch z))];exact D
end
section
variable{X:Cx}{pins:.J}{σ:St}{H:Hp}{s:P1}{a:Addr}{kvs:.d0}{k:Key}{u:S1}{A:P2}{E:.D}
end
/---/def MK(i:Expr):Prop:=∀ov iv,subscripted i false ov iv=operate [ov,iv] (getItem ov iv)
def AH{pos:Pos}{T id:String}{Q:.D}
  (k:typeLookup .jb "__getitem__"=pure (some .e8)) (l:MK a)
  (h:.ao (eval value env) (λo d=>.ao (.aW env) (λi b=>b.TypeIs o T/\.ao (getItem o i) Q E b) E d) E s) :
  wpAny .N A (eval (.d5 value a) env) Q E s:=by
 refine Subscript_ (zZg h (λo d g=>zZg g (λi b c=>?_) λ_ _ x=>x) λ_ _ x=>x);obtain⟨j,c⟩:=c;unfold subscriptTail;refine zF ?_;rw[getitemInPython_of_ne j.not_modules];refine zF (wpAny_specialOf j k ?_);have fin:wpAny .N A (subscripted a false o i) (λr e=>.ao (letTemporaryGo value o r >>= λ_=>pure r) Q E e) E b := by
  rw[l o i];exact wpAny_operating (zZg c (λr e f=>zF (wpAny_letTemporaryGo<|z3 f)) λ_ _ x=>x)
 first
  |exact z3 (zF fin)
  |exact zF (z3 (zF fin))
  |exact zF fin
def CT{σ:St}{s:P1}{a:Addr}{y:V}{o:Option V}(I:.p)(g:qx H a y o):s.TypeIs .bu "dict" := by
 rcases g with ⟨kvs,k,e,_,_⟩|⟨kvs,k,b,e,_,_,_⟩
 ·obtain⟨_,_,d,_,c⟩:=yW I.hok e
  exact c.typeIs
 ·obtain⟨_,_,f,_,c⟩:=yX I.hok e
  exact c.typeIs
/---/def VA(td ty:TE):TE:=λσ H Q=>td σ H λx H1=>ty σ H1 λy H2=>∃a v,x=.ref a/\qx H2 a y .dR/\Q v H2
section
variable{X:Cx}{o i e value:Expr}{pos pos' tpos:Pos}{td ty tv:TE}
def Ql(d:.hs)(r:.w o td)(hi:.w i ty)(j:MK i):.w (.d5 o i) (VA td ty):=by
 intro pins s σ H Q I h;refine .u2 j (thn .CC λu f ⟨x,t,m,k,q1⟩=>thn (hi pins f σ t _ m q1) λA z zz=>?_);obtain⟨y,l,c,q,a,v,p,g,q2⟩:=zz;subst p;obtain rfl:u=Value.ref a:=k;exact⟨CT c g,JZ d c g q λB w n b=>⟨v,l,n,b,q2⟩⟩
end
def ML(h:Heap)(a:sysModules<h.objs.size):fL P w H .xu h.objs.size (.dK []) :=
 ⟨YR _,beq_eq_false_iff_ne.mpr (XO<|ZN a),[],.nil,Heap.DictOf.new h⟩
def MM(h:Heap)(a:sysModules<h.objs.size):fL P w H .xu h.objs.size (.dT []) :=
 ⟨YR _,beq_eq_false_iff_ne.mpr (XO<|ZN a),[],.nil,_,#[],0,ZJ _ rfl,⟨rfl,rfl,rfl⟩,rfl,rfl,zXs⟩
/---/def Tw:TE:=λ_ H Q=>∀p,H p=none->.c5 (.br<|.dK [])
/---/def Tx:TE:=λ_ H Q=>∀p,H p=none->.c5 (.br<|.dT [])
section
variable{X:Cx}{pos:Pos}
def MN:.w .pK Tw:=λpins s σ H Q I h =>
 wpAny_Dict_empty ⟨.ref s.heap.objs.size,_,I.laid (a:=s.heap.objs.size) (o:=.dK []) (t':=s.toks) .s5 .o (ML s.heap I.big),rfl,h _ .dJ⟩
def MP:.w .pK Tx:=λpins s σ H Q I h =>
 wpAny_Dict_empty ⟨.ref s.heap.objs.size,_,I.laid (a:=s.heap.objs.size) (o:=.dT []) (t':=s.toks) .s5 .o (MM s.heap I.big),rfl,h _ .dJ⟩
end
structure M1(X:Cx)(o:Expr)(m:Str)(apos:Pos)(e:Expr)(cpos:Pos):Prop where
 base:.eK m X.env .ce=eval o X.env
 few:((.jI cpos).all .e7 && (.su).all .e3
  && decide .hT)=true
 line:.rH=true
 trees:.jS .vo=[(false,.az X.env)]
structure M2(X:Cx)(o:Expr)(m:Str)(apos:Pos)(e f:Expr)(cpos:Pos):Prop where
 base:.eK m X.env .ce=eval o X.env
 few:((.jS .BZ).all .e7 && (.su).all .e3
  && decide (([e,f]:List Expr).length+([]:List Keyword).length+.l6<30))=true
 line:.rH=true
 trees:.jS .BZ=[(false,.az X.env),(false,eval f X.env)]
/---/def IsD(H:Hp)(a:Addr):Prop:=(∃kvs,Rd H a .la)\/∃kvs,Rd H a .jz
def Tz{σ:St}{s:P1}{a:Addr}(I:.p)(d:IsD H a):
  s.TypeIs .bu "dict"/\(∀b,Value.ref a=.ref b->∃ob,s.heap.get? b=some ob/\ob.dict=none)/\.fG=false:=by
 rcases d with ⟨kvs,e⟩|⟨kvs,e⟩
 ·obtain⟨_,g,i,_,c⟩:=yW I.hok e
  refine⟨c.typeIs,λb q=>?_,g⟩;cases q;obtain⟨ob,_,_,f,h,_⟩:=c;exact⟨ob,f,h.2.1⟩
 ·obtain⟨_,g,j,_,c⟩:=yX I.hok e
  refine⟨c.typeIs,λb q=>?_,g⟩;cases q;obtain⟨ob,_,_,f,h,_⟩:=c;exact⟨ob,f,h.2.1⟩
section
variable{X:Cx}{pins:.J}{σ:St}{H:Hp}{s:P1}{a:Addr}{y d:V}{u r:S1}{o:Option V}{A:P2}{E:.D}
end
section
variable{X:Cx}{o e f:Expr}{apos cpos:Pos}{td ty tx:TE}
end
section
variable{X:Cx}{pins:.J}{σ:St}{H:Hp}{s:P1}{a:Addr}{kvs:.d0}{A:P2}{E:.D}
end
section
variable{X:Cx}{pins:.J}{σ:St}{H:Hp}{s:P1}{a:Addr}{y:V}{u:S1}{A:P2}{E:.D}
end
end L2
namespace Fm
open PySem PySem.Spec L2 PySem.W PyProof.Rows
section
variable{K:ZX}{ρ:.I}{H:Hp}{hd:Hd}
def RH.allocD(r:.aP)(hp:RC K ρ H .hE p)(j:p∉ρ):RH K .fe H (hd++[.dct l]):=by
 have k:.bY .fe H:=⟨λn a e=>by rw[ZC (.dS).1];exact e,λ_ _ h=>h,λ_ _ _ h=>h,λ_ _ h=>h⟩;refine⟨by simp[r.len],?_,λn c a d f=>?_⟩
 ·rw[X4]
  exact⟨r.nd,by simp,λa m b i=>by simp at i;subst i;intro e;subst e;exact j m⟩
 ·by_cases hlt:n<hd.length
  ·rw[ZC hlt]at d
   rw[ZC .m8]at f;exact (.s7).mono k rfl
  ·have o:n=hd.length:=by
    have:=(z0.mp d).1;simp at this;omega
   subst o;simp at d;subst d;rw[<-r.len]at f;simp at f;subst f;obtain⟨g,q1,q2,q3⟩:=hp;exact⟨g,q1,q2,q3.mono k⟩
def RH.writeD(r:.aP){l:.cP}{b:.d0}(hp:.px)(f:n<hd.length)(h1:b.map (·.1)=l.map .eS)(g:.Dc):RH K ρ (.br .fk) (hd.set n .hE):=by
 have k:.bY ρ (.br .fk):=by
  have d:=ZK hp;refine⟨λ_ _ h=>h,λa j e=>?_,λa o u e=>?_,λa i e=>?_⟩
  ·rw[aS .Cp];exact e
  ·rw[aS .Cq];exact e
  ·rw[aS .Cr];exact e
 refine⟨by simp[r.len],r.nd,λm c a q1 q2=>?_⟩
 by_cases e:n=m
 ·subst e
  rw[x4 f]at q1;cases q1;rw[hp]at q2;cases q2;exact⟨b,bw,h1,g.mono k⟩
 ·rw[ZP e]at q1
  have ne:a≠p:=λz=>by
   subst z;exact e .tB
  exact (.sE).mono k (aS ne)
theorem CU(k:Int):∀{l:.cP} {a:.d0},a.map (·.1)=l.map .eS->RDs K ρ H .b6 .lN->
  (vS l k=none/\i9 a .iZ=none)\/∃d v,vS l k=some d/\i9 a .iZ=some v/\.bF d v
 |[],[],_,_=>.inl ⟨rfl,rfl⟩
 |[],_::_,h,_=>by simp at h
 |_::_,[],h,_=>by simp at h
 |(j,d)::l,(q,v)::a,h1,b=>by
  dsimp[y6,yh]at h1;dsimp[y6,RDs]at b;obtain⟨o,n,e,q1,q2⟩:=b;cases e;obtain⟨m,g⟩:=h1;subst m
  by_cases e:j=k
  ·subst e
   exact .inr ⟨d,v,by simp[vS],by simp[i9],q1⟩
  ·have i:=CU k g q2
   have f:vS ((j,d)::l) k=vS l k:=by simp[vS,e]
   have c:i9 ((Sum.inl j,v)::a) .iZ=i9 a .iZ:=nY (λz=>e (by cases z;rfl));rw[f,c];exact i
theorem CV(k:Int):∀{l:.cP} {a:.d0},a.map (·.1)=l.map .eS->(a.any λc=>decide (c.1=(Sum.inl k:Key)))=l.any λp=>decide (p.1=k)
 |[],[],_=>rfl
 |[],_::_,h=>by simp at h
 |_::_,[],h=>by simp at h
 |(j,d)::l,(f,v)::a,h1=>by
  dsimp[y6,yh]at h1;obtain⟨b,e⟩:=h1;subst b;simp[CV k e]
theorem CW(k:Int){f:D}{c:V}(i:.bF f c):∀{l:.cP} {a:.d0},a.map (·.1)=l.map .eS->RDs K ρ H .b6 .lN->
  (.wI).map (·.1)=(.mv).map .eS/\.aw ((.mv).map (·.2)) ((.wI).map (·.2))
 |[],[],_,_=>⟨rfl,RDs.nil⟩
 |[],_::_,h,_=>by simp at h
 |_::_,[],h,_=>by simp at h
 |(j,d)::l,(u,v)::a,h1,m=>by
  dsimp[y6,yh]at h1;dsimp[y6,RDs]at m;obtain⟨t,s,e,q1,q2⟩:=m;cases e;obtain⟨r,o⟩:=h1;subst r;obtain⟨g,n⟩:=CW k i o q2
  by_cases e:j=k
  ·subst e
   dsimp[y6,XH];exact⟨by rw[g],RDs.cons i n⟩
  ·have q:¬(Sum.inl j:Key)=Sum.inl k:=λz=>e (by cases z;rfl)
   dsimp[y6,y3 e,y3 q];exact⟨by rw[g],RDs.cons q1 n⟩
def MR(k:Int)(e:.bF b c){l:.cP}{a:.d0}(h1:a.map (·.1)=l.map .eS)(d:.Dd):
  (lD a .iZ c).map (·.1)=(EW l k b).map .eS/\.aw ((EW l k b).map (·.2)) ((lD a .iZ c).map (·.2)):=by
 unfold lD EW;rw[CV k h1];split
 ·exact CW k e h1 d
 ·refine⟨by simp[h1],?_⟩
  rw[ZR,ZR];exact RDs.append d (.hH e)
end
section
variable{X:Cx}{pos p:Pos}
def Qm:.g .pK HI:=by
 refine PE.imp MN λσ H Q ⟨ρ,σd,h,a,d⟩=>λq b=>?_;have e:=cA (o:=HO.dK []) b;have f:=a.hp.free b;have g:=(a.hp.same e).allocD (l:=[]) ⟨[],bw,rfl,RDs.nil⟩ f;have c:.bX (ρ++[q]) (.aA q<|.dK []):=Ext.alloc b;refine bP.at d c (a.ext c g) ?_;dsimp[rD,RD];refine⟨q,?_,rfl⟩;rw[<-a.hp.len];simp
/---/def VB(K:ZX):R2:=λx y H Q=>∃a o,y=.ref a/\qx H a x o/\Q (.bl o.isSome) H
def TB(b:.hs):.ae .tG (VB X.K):=by
 intro pins s σ H x y v u Q I c e h;obtain⟨a,o,rfl,g,q⟩:=h;obtain rfl:u=Value.ref a:=e;exact WS b I g c λf d=>⟨.bl o.isSome,H,d,rfl,q⟩
def TD{K:ZX}:Og K LD (VB K):=by
 intro ρ H σd q σ d k v w Q j m g b;cases d<;>try exact b.elim
 cases k<;>try exact b.elim
 rename_i i n
 dsimp[LD]at b;dsimp[RD]at m g;subst m;obtain⟨a,r,rfl⟩:=g;cases c:q[n]? with
 |none=>rw[c]at b;exact b.elim
 |some cell =>
  rw[c]at b;cases cell with
  |lst l=>exact b.elim
  |dcT _=>exact b.elim
  |ob _=>exact b.elim
  |dct l =>
   simp only at b;obtain⟨f,q1,q2,q3⟩:=.p5 r;refine⟨a,i9 f (Sum.inl i),rfl,qx.k (k:=Sum.inl i) q1,?_⟩;have e:(i9 f<|Sum.inl i).isSome=(vS l i).isSome:=by
    rcases CU i q2 q3 with ⟨o,h⟩|⟨d,v,o,h,_⟩<;>rw[o,h]<;>rfl
   rw[e];exact b.here j .Y
/---/def VC:V->V->V->Hp->(Hp->Prop)->Prop:=λo i v H Q=>∃a H',o=.ref a/\CS H a i v H'/\Q H'
def CY(b:.hs):SL X VC:=by
 intro pins s σ H o i v ov k u Q I j e f h;obtain⟨a,d,rfl,g,q⟩:=h;obtain rfl:ov=Value.ref a:=j;exact J0 b I g e f λl c=>⟨d,c,q⟩
def Ie{E C D:EF}(K:.hs)(he:.g e D)(ho:.g o E)(hi:.g i C)(V:autoParam (swapsWithSole .gL e pos.line X.env=pure false) Q3Q._auto_1)(M:autoParam (swappedStores .gL e X.env=pure none) Q3Q._auto_1)
  (h1:autoParam ((.BF).map (·.2)=.yY) Q3Q._auto_1) (t:autoParam (∀v,assign (.Subscript o i f) X.env v=(do
   let ov <-holding [v] .ce
   let y <-holding [v,ov] .nX
   standAt f
   holding [v,ov,y] (setItem ov y v)
   release [v,ov,y] [])) Q2Q._auto_1):MS X (.fr .gL) (B6 E C D):=by
 refine PS.imp (Ak he (E1 ho hi (CY K) t) V M h1) λEn σ H ⟨ρ,σd,hd,L,p⟩=>⟨ρ,σd,hd,L,(.fP).imp λv H1 zz=>?_⟩;obtain⟨A,d,x,e1,s,Y,O⟩:=zz;refine⟨A,σd,x,s,(cF.outE O).imp λvo H2 zz=>?_⟩;obtain⟨w,W,B,Z,m,ro,f⟩:=zz;refine⟨w,σd,B,m,(cF.outE f).imp λvi J zz=>?_⟩;obtain⟨g,T,u,F,h,G,b⟩:=zz;have z:=(Y.mono<|s.hp.kp Z).mono (m.hp.kp F);have r:=ro.mono (m.hp.kp F);cases W with
 |ref n =>
  cases T with
  |int j =>
   simp only at b;cases c:u[n]? with
   |none=>rw[c]at b;exact b.elim
   |some cell =>
    rw[c]at b;cases cell with
    |lst l=>exact b.elim
    |dcT _=>exact b.elim
    |ob _=>exact b.elim
    |dct l =>
     simp only at b;split at b
     ·rename_i S
      dsimp[RD]at r G;subst G;obtain⟨a,t,rfl⟩:=r;obtain⟨q,q1,q2,q3⟩:=h.hp.cel n _ a c t;have Q:q.length=l.length:=by have:=.hL q2;simpa using this
      refine⟨a,_,rfl,CS.k (k:=Sum.inl j) q1 (by rw[Q];exact Z0 S .iv),?_⟩;have U:n<u.length:=(.fV).1;obtain⟨N,R⟩:=MR j z q2 q3;have P:=h.hp.writeD t U N R;have I:Ext g J g (upd J a<|.dK<|lD q (Sum.inl j) v):=Ext.write (ZK t);exact b σ _ g I (h.ext I P)
     ·exact b.elim
  |_=>exact b.elim
 |_=>exact b.elim
end
section
variable{X:Cx}{pos p:Pos}
theorem yY(hok:.cp)(f:∀b o xs,H b=some .df->h.get? b=some o->h'.get? b=some o):∀{vs:List V} {rs:.cR} {c:List S1},eC H vs rs->bn vs c->.Bb=true->
  ∃e,KatTups h' c e/\e.length=c.length/\∀v∈e,∃i t,v=Value.int i t
 |_,_,_,.nil,.nil,_=>⟨[],.nil,rfl,λv d=>by simp at d⟩
 |_,_,_,.cons (a:=a) (r:=r) k t,.cons l rt,hne=>by
  dsimp[zZy,YB,Bool.not_eq_true']at hne;obtain⟨e,h1,C,m⟩:=yY hok f t rt hne.2;obtain⟨z,j,s,o,A,B,n,y⟩:=hok a _ k;cases r with
  |nil=>simp at hne
  |cons i r =>
   cases s with
   |cons q D =>
    rename_i u E
    obtain⟨g,rfl⟩:=HW q;cases l;refine⟨.int i g::e,KatTups.cons (f a o _ k A) B y .d h1,by simp[C],λv d=>?_⟩;rcases xB.mp d with rfl|d
    ·exact⟨i,g,rfl⟩
    ·exact m v d
def TH{σ:L2.St}(I:.p)(G:H B=some .g7)(c1:vs.length<64)(rv:eC H vs rs)(nd:rs.Nodup)(b4:.Bb=true)
  (q:∀d s',eC H d (eI rs)->Inv X pins σ .sN s'->Q .none s'):wpAny .af A (call (.cu "list.sort") [.ref B]) Q E s:=by
 obtain⟨hz,a,n0,N,ho⟩:=I.hok B _ G;have S:a.length=vs.length:=N.length.symm;obtain⟨m,hm,_⟩:=id I.loc;have nL:∀b u,H b=some u->b≠X.env.locals:=λb u e z=>by rw[z,I.free]at e;cases e
 have BL:=nL B _ G;have a5:∀d,d=vs->.aA B (.lst d)=H:=λd e=>by
  subst e;funext b
  by_cases z:b=B
  ·subst z;rw[bw,G]
  ·rw[aS z]
 have after:∀(L:Heap) (f:List S1) (d:List V) (c t':Nat),eC H d (eI rs)->bn d f->d.length<=sizeLine->L.get? B=some .Ab->(∀b o,b≠X.env.locals->b≠B->s.heap.get? b=some o->L.get? b=some o)->L.Ns X.env.locals m->Inv X pins σ .sN { s with heap:=L,toks:=t' }:=λL f d c t' a3 W a2 a9 l Z=>by
  have I2:L2.Inv X pins σ .sN { s with heap:=L,gens:=s.gens,drawn:=s.drawn,toks:=t' }:=by
   refine I.step (ch:=[]) .e1 (λb o D _ _ e n=>l b o D .ri e) (λb o D _ _ e n=>⟨o.slots,l b o D .ri e⟩) (λb o _ e n=>by rw[aS .ri];exact n) (λb o _ e=>?_)
    (λb ys e=>by rw[aS .rj];exact e) (λb o u e=>by rw[aS .rj];exact e) (λb ps e=>⟨#[],by rw[aS .rj,e];simp⟩) (λm' b9=>by rw[Tr b9 hm];exact Z) (λb u e=>?_) I.bare
   ·by_cases D:b=X.env.locals
    ·obtain⟨o',_,_,a0,_⟩:=Z
     rw[D];exact⟨o',a0⟩
    ·by_cases F:b=B
     ·subst F;exact⟨_,a9⟩
     ·exact⟨o,l b o D F e⟩
   ·by_cases D:b=B
    ·subst D
     rw[bw]at e;cases e;exact⟨a2,f,c,W,a9⟩
    ·rw[aS D]at e
     refine (.oa).stay (λc v hc z=>?_) (λc z=>by rw[aS .yI];exact z) λc ys z=>by rw[aS .yI];exact z
     rcases hc with w|w
     ·subst w;exact l c v (nL c _ e) D z
     ·exact l c v (nL c _ w) (λy=>by subst y;rw[G]at w;cases w) z
  exact I2
 by_cases L:a.length<2
 ·have hs:eI rs=rs:=by
   have:rs.length<2:=by rw[<-rv.length];omega
   match rs,this with
   |[],_=>rfl
   |[_],_=>rfl
  have ha:B<s.heap.objs.size:=ZI ho;have a0:s.heap.get? B=some (seqObj "list" a.toArray n0):=ho;refine YP slot_list_sort ⟨_,ho,rfl⟩ entry_list_sort (Fu a0 L ⟨_,rfl,?_⟩) .sV;obtain⟨e1,b8⟩:∃e1,(.B2).get? B=some .B1:=⟨_,XW a0 .lg⟩;have b6:(((.B2).push (seqObj "tuple" a.toArray 0)).push .h7).get? B=some .B1:=by
   rw[.bW (by rw[zYb,YW];exact ZN (ZZ ha)),.bW (by rw[YW];exact ZN ha)];exact b8
  have P:∀b o,b≠B->s.heap.get? b=some o->(.y1).get? b=some o:=λb o D e=>by
   have b0:b<s.heap.objs.size:=ZI e;unfold sortedHeap;rw[.b9 D,.bW (by rw[zYb,YW];exact ZN (ZZ b0)),.bW (by rw[YW];exact ZN b0),.b9 D];exact e
  have Z:(.y1).Ns X.env.locals m:=by
   obtain⟨o',es,ep,h1,r⟩:=hm;exact⟨o',es,ep,P _ _ (XO BL) h1,r⟩
  refine q vs _ (by rw[hs];exact rv) (after _ a vs _ s.toks (by rw[hs];exact rv) N hz (XW b6 _) (λb o _ D e=>P b o D e) Z)
 ·have N0:News (Att.noObjs s.heap) X.env.locals s.heap ((B,PySem.W.listOf a.toArray n0)::Att.ledger s.heap X.env.locals B):=λ⟨b,o⟩ D=>by
   rcases xB.mp D with e|D
   ·cases e
    exact⟨ho,BL,Att.noObjs_get _ _⟩
   ·obtain⟨n1,n2,e⟩:=Att.mem_ledger.mp D
    exact⟨e,n1,Att.noObjs_get _ _⟩
  have a6:∀q∈Att.ledger s.heap X.env.locals B,q.1≠B:=λ⟨b,o⟩ hq=>(Att.mem_ledger.mp hq).2.1;refine kat_lsort (vs:=a) (Att.fr_all hm) N0 (UpdF.head a6) .d .a .a λe1 h' F' N'=>?_;have a4:∀b o,b≠X.env.locals->b≠B->s.heap.get? b=some o->(b,o)∈Att.ledger s.heap X.env.locals B:=λb o D F e=>Att.mem_ledger.mpr ⟨D,F,e⟩;have U:∀b o,b≠X.env.locals->b≠B->s.heap.get? b=some o->h'.get? b=some o:=λb o D F e=>(N' (b,o) .CP).1;obtain⟨fs,t1,t2,t3⟩:=yY I.hok (λb o xs D e=>U b o (nL b _ D) (λz=>by subst z;rw[G]at D;cases D) e) rv N b4;refine kat_kind (T:=.type "int") t1 .a (λv hv=>?_) rfl ?_
  ·obtain⟨i,t,rfl⟩:=t3 v hv
   exact Looks.of_pure rfl
  ·have hT:(Value.type "int" != Value.type "tuple")=true:=by decide
   rw[hT];have c0:rs.length=a.length:=by rw[<-rv.length,S]
   have b3:∀i j,i<a.length->j<a.length->i≠j->rs.getD i []≠rs.getD j []:=λi j K hj Y z=>by
    have e1:rs.getD i []=rs[i]' .a:=by simp[List.getD,show i<rs.length by omega]
    have e2:rs.getD j []=rs[j]' .a:=by simp[List.getD,show j<rs.length by omega]
    rw[e1,e2]at z;exact Y ((List.getElem_inj nd).mp z)
   have O:Ord (λi j=>Fm.lexLt .nU (rs.getD j [])) a.length:=⟨λi j _ _ h=>tW h,λi j k _ _ _ h h'=>ku h h',λi j K hj Y h=>rJ (b3 i j K hj Y) h⟩;refine Cy O (λi j K hj C hC=>?_) .a λJ g b7=>?_
   ·unfold kas_ask
    have a7:∀i,i<a.length->∃b,a.getD i Value.none=.ref b/\∃(o:Obj) (zs:List S1) (n:Nat),h'.get? b=some o/\o.data=.seq zs.toArray n/\IntsAre zs .nU:=λi K=>by
     have hv:vs[i]?=some (vs[i]' .a):=by simp[show i<vs.length by omega]
     obtain⟨b,e1,e2⟩:=rv.get hv;obtain⟨u,hu,ru⟩:=N.get hv;rw[e1]at ru;cases (show u=Value.ref b from ru);obtain⟨z,zs,r0,o,ho,hc,n,hd⟩:=I.hok b _ e2;exact⟨b,by simp[List.getD,hu],o,zs,n,U b o (nL b _ e2) (λz=>by subst z;rw[G]at e2;cases e2) ho,hd,jW r0⟩
    obtain⟨b1,x1,o1,z1,n1,y1,d1,i1⟩:=a7 i K;obtain⟨b2,x2,o2,z2,n2,y2,d2,i2⟩:=a7 j hj;rw[x1,x2];refine kat_lt (s:=.bj) y1 d1 y2 d2 ?_;have:=Tq (prog:=X.prog) (w:=X.w) (A:=A.in1) (s:=.bj) (Q:=C) .nU (rs.getD j []) 0 i1 i2 hC;simpa using this
   ·have a1:J.toList.Perm .CS:=by simpa using zYw.mp g.pm
    have a8:∀i∈J.toList,i<vs.length:=λi K=>by
     have:=a1.mem_iff.mp K;rw[<-S];simpa using this
    obtain⟨d,M⟩:=qq (J.toList.map λi=>vs.getD i .non);obtain⟨f,R⟩:=qq (J.toList.map λi=>a.getD i Value.none);have a3:eC H d (eI rs):=by
     have e:(J.toList.map λi=>rs.getD i [])=eI rs:=by
      refine Jv (?_:List.Perm _ _) ?_ (nD nd)
      ·refine((a1.map λi=>rs.getD i []).trans ?_).trans (kP rs).symm
       have:((.CS).map λi=>rs.getD i [])=rs:=by
        apply YX;intro i
        by_cases K:i<rs.length
        ·have:i<a.length:=by omega
         simp[List.getD,K,this]
        ·have:¬i<a.length:=by omega
         simp[K,this]
       rw[this]
      ·rw[Y5]
       rw[zZo];intro i j K hj Y;have s1:=b7 i j Y (by rw[<-g.sz];simpa using hj);have g1:J.getD i 0=J.toList[i]:=by simp[Array.getD,show i<J.size by simpa using K]
       have g2:J.getD j 0=J.toList[j]:=by simp[Array.getD,show j<J.size by simpa using hj]
       rw[g1,g2]at s1;exact s1
     have:=rv.pick J.toList a8;rw[e,<-M]at this;exact this
    have W:bn d f:=by rw[M,R];exact bn.pick N J.toList a8
    have a2:d.length<=sizeLine:=by
     have l1:d.length=a.length:=by rw[M,ZA,a1.length_eq,ZO]
     rw[l1,S];exact hz
    rw[<-R];refine KasFin.intro F' N' (UpdF.head a6) λL c F2 N2=>?_;have b5:L.get? B=some .Ab:=(N2 (B,_)<|ZV ..).1;have l:∀b o,b≠X.env.locals->b≠B->s.heap.get? b=some o->L.get? b=some o:=λb o D F e=>(N2 (b,o) .CP).1;exact q d _ a3 (after L f d c s.toks a3 W a2 b5 l F2.ns)
end
section
variable{X:Cx}{pos p:Pos}
/---/def AI(p d:Addr):Heap->Prop:=λh=>h.get? p=some { cls:=.type "dict_items",data:=.fields #[.ref d] }
/---/def TK(td:TE):TE:=λσ H Q=>td σ H λx H1=>∃a kvs,x=.ref a/\H1 a=some .la/\∀p,H1 p=none->.c5 (upd H1 p<|.ext<|AI p a)
def MU{apos c:Pos}(A:.w o n)(g:autoParam (.eK "items" X.env .ce=eval o X.env) Q3Q._auto_1)(d:autoParam ((apos.endLine == c.line)=true) Q3Q._auto_1):
  PE X (.Call (.dq "items") [] [] c) (TK n):=by
 intro pins s σ H Q I h;refine wpAny_Call_method0_late g d (thn (A pins s σ H _ I h) λv m zz=>?_);obtain⟨x,E,i,t,a,j,u,e,q1⟩:=zz;subst u;obtain rfl:v=Value.ref a:=t;obtain⟨l,w,B⟩:=Tz i (.inl ⟨j,.inl e⟩);obtain⟨_,y,r,_,z⟩:=MH i.hok e;refine⟨"dict","dict.items",PySem.F.plainAttrs_dict,PySem.F.slot_dict_items,PySem.F.type_dict_items,l,w,Calls.callWith_builtin rfl (PySem.evalArgs_none ?_)⟩;refine call_meetsIn PySem.F.slot_dict_items l PySem.F.entry_dict_items (PySem.F.args_dict_items_1 _) (meets_dict_items (eV X.prog X.w) a y) ⟨⟨r,z⟩,?_⟩;refine⟨.ref m.heap.objs.size,_,i.laid (o:=.ext (AI m.heap.objs.size a)) (λb C q=>.H q) .o ⟨ZJ _ rfl,⟨_,ZJ _ rfl⟩,λD F f k=>k _ f⟩,rfl,q1 _ (i.hok.fresh .o)⟩
def MV{σ:L2.St}{H d:Hp}{s:P1}{h':Heap}{t':Nat}(I:.p)(keep:∀b o,s.heap.get? b=some o->h'.get? b=some o)(f:kR H d)(a:∀b,b<s.heap.objs.size->d b=H b)(new:∀b u,s.heap.objs.size<=b->d b=some u->fL X.prog X.w d h' b u/\∀c,u ≠ .own c):.be d .fw:=by
 have j:L2.Inv X pins σ d { s with heap:=h',gens:=s.gens,drawn:=s.drawn,toks:=t' }:=by
  refine I.step (ch:=[]) .e1 (λb o _ _ _ e _=>keep b o e) (λb o _ _ _ e _=>⟨o.slots,keep b o e⟩) (λb o _ e n=>by rw[a b .dh];exact n) (λb o _ e=>⟨o,keep b o e⟩)
   (λb l e=>f _ _ e) (λb o u e=>f _ _ e) (λb w e=>⟨#[],by rw[f _ _ e];simp⟩) (λm t=>?_) (λb u e=>?_) I.bare
  ·obtain⟨i,q,k,h,r⟩:=t
   exact⟨i,q,k,keep _ _ h,r⟩
  ·by_cases g:b<s.heap.objs.size
   ·rw[a b g]at e
    refine (.oa).stay (λc v x z=>keep c v z) (λc z=>f _ _ z) λc l z=>f _ _ z
   ·exact(new b u (zYz g) e).1
 exact j
noncomputable def ov:List Addr->List .cF->Hp->Hp
 |a::as,r::rs,H=>upd (ov as rs H) a (.tup .n3)
 |_,_,H=>H
theorem Ig:∀{c:.I} {rs:.cR},b∉c->ov c rs H b=H b
 |[],_,_=>rfl
 |a::c,[],_=>rfl
 |a::c,r::rs,h=>by
  have h1:b≠a:=λz=>h .e6;have d:b∉c:=λz=>h .e6;show upd _ _ _ b=_;rw[aS h1,Ig d]
theorem MX:∀{c:.I} {rs:.cR} {j:Nat} {a:Addr} {r:.c},c.Nodup->c[j]?=some a->rs[j]?=some r->ov c rs H a=some (.tup .n3)
 |[],_,_,_,_,_,e,_=>by simp at e
 |a::c,[],_,_,_,_,_,e=>by simp at e
 |a::c,r::rs,0,_,_,_,e,d=>by simp at e d;subst e d;exact bw
 |a::c,r::rs,j+1,b,q,nd,e,d=>by
  obtain⟨n1,n2⟩:=Y3.mp nd;have e:c[j]?=some b:=by simpa using e
  have f:b≠a:=λz=>n1 (by rw[<-z];exact ZK e);show upd _ _ _ b=_;rw[aS f];exact MX n2 e (by simpa using d)
theorem eC.mono(k:∀a xs,H a=some .df->b a=some .df):∀{vs:List V} {rs:.cR},eC H vs rs->eC b vs rs
 |_,_,.nil=>.nil
 |_,_,.cons h t=>.cons (k _ _ h) (eC.mono k t)
theorem Ih:∀{c:.I} {rs:.cR},c.length=rs.length->(∀(j:Nat) a r,c[j]?=some a->rs[j]?=some r->d a=some (.tup .n3))->eC d (c.map V.ref) rs
 |[],[],_,_=>.nil
 |[],_::_,h,_=>by simp at h
 |_::_,[],h,_=>by simp at h
 |a::c,r::rs,h,f=>.cons (f 0 a r rfl rfl) (Ih .nA λj b q e g=>f (j+1) b q .em .mx)
/---/def TL:List V->Hp->VK->Prop:=λxs H Q=>∃(p a:Addr) (ps:List .iQ),xs=.je/\H p=some (.ext<|AI p a)/\H a=some (.dK<|ps.map λq=>((Sum.inl q.1:Key),V.int q.2))/\ps.length<64/\(.By).Nodup/\
 ∀H' q vs',kR H H'->H q=none->H' q=some (.lst vs')->eC H' vs' (eI .By)->Q .cH H'
def VD{vs:List .oC}(r:KV a vs):∀{j:Nat} {k:κ} {x:S1} {b:κ} {v:V},vs[j]?=some (k,x)->a[j]?=some (b,v)->b=k/\cw v x:=by
 induction r with
 |nil=>intro j k x b v e;simp at e
 |cons h t d =>
  intro j k x b v e c;cases j with
  |zero=>simp at e c;subst e c;exact h
  |succ j=>exact d .em .nB
def FE(hc:.aU):gE X .ih TL:=by
 intro pins s σ H xs us Q I r h;obtain⟨p,a,A,rfl,hp,ha,W,Z,q⟩:=h;obtain⟨u,rfl,ru⟩:=bn.one r;cases (show u=Value.ref p from ru);obtain⟨f,l⟩:=qq (A.map λq=>[q.1,q.2]);rw[<-l]at Z q;have B:AI p a s.heap:=(I.hok p _ hp).1;obtain⟨hz,_,vs,F,dd⟩:=MH I.hok ha;have D:vs.length=A.length:=by rw[<-F.length];simp
 obtain⟨o,es,ep,d1,d2⟩:=id dd;have S:s.heap.DictAt (eV X.prog X.w) a vs ep:=⟨o,es,d1,d2⟩;refine zXe kind_sorted plain_sorted entry_sorted .tp ?_;unfold Builtin.«sorted»;refine zF .aa;refine zF (kdx_collect (.du hc) ⟨_,B,rfl,rfl⟩ S (by rw[D,YG];omega) λg tk d hk C G=>?_);have v:d.Nodup:=G.rise.imp λh=>ZN h;have lr:d.length=f.length:=by rw[C,D,l];simp
 have i:∀b∈d,s.heap.objs.size<=b:=λb n=>XF (G.above b n);have J:kR H .ke:=λb u e=>by
  rw[Ig]
  ·exact e
  ·intro z
   exact absurd (I.hok.lt e) (zZf.mpr<|i b z)
 have P:Inv X pins σ .ke { s with heap:=g,toks:=tk }:=by
  refine MV I hk J (λb n=>Ig λz=>absurd n (zZf.mpr<|i b z)) λb u n e=>?_
  by_cases hm:b∈d
  ·obtain⟨j,R⟩:=zYu hm
   have a0:j<d.length:=(z0.mp R).1;obtain⟨O,k,x,e1,e2,e3⟩:=G.pairs j b R;obtain⟨y,E⟩:∃y,A[j]?=some y:=⟨A[j]' .a,by simp[show j<A.length by omega]⟩;have hr:f[j]?=some [y.1,y.2]:=by rw[l,ZQ,E];rfl
   rw[MX v R hr]at e;cases e;refine⟨?_,λc z=>by cases z⟩;obtain⟨K,rx⟩:=VD F e1 (show (A.map λq=>((Sum.inl q.1:Key),V.int q.2))[j]?=some (Sum.inl y.1,V.int y.2) by rw[ZQ,E];rfl);obtain⟨t,rfl⟩:=HW rx;subst K;have:∃L,O=Value.int y.1 L:=zXq e2;obtain⟨L,rfl⟩:=this;exact⟨by simp[YG],[_,_],.cons ⟨L,rfl⟩ (.p4 .nil),_,e3,rfl,_,rfl⟩
  ·rw[Ig hm]at e
   exact absurd (I.hok.lt e) (zZf.mpr n)
 refine zF (zXj ?_ .Bf);have M:bn (d.map V.ref) (d.map Value.ref):=by
  clear C G v lr i J P q
  induction d with
  |nil=>exact .nil
  |cons a d ih=>exact .cons rfl ih
 have I2:Inv X pins σ .mm { s with heap:=g.push { cls:=.type "list",data:=.seq (d.map Value.ref).toArray },toks:=tk }:=P.lnew M .Bf;have fr:ov d f H g.objs.size=none:=P.hok.fresh .o;have U:kR .ke .mm:=cA fr;have m:eC .mm (d.map V.ref) f:=Ih lr λj b r e e'=>U _ _ (MX v e e');have N:(f.all λx=>!x.isEmpty)=true:=by rw[l,List.all_map,zZe];intro q _;rfl
 refine zF (YZ (TH I2 bw (by rw[ZA,C,D];exact W) m Z N λw s' T Y=>z3 ⟨_,rfl,?_⟩));have uu:upd .mm g.objs.size (.lst w)=upd .ke g.objs.size (.lst w):=by
  funext b
  by_cases z:b=g.objs.size
  ·subst z;rw[bw,bw]
  ·rw[aS z,aS z,aS z]
 rw[uu]at Y;refine⟨.ref g.objs.size,_,Y,rfl,q _ _ w (λb u e=>cA fr _ _ (J _ _ e)) ?_ bw ?_⟩
 ·cases e:H g.objs.size with
  |none=>rfl
  |some u=>rw[J _ _ e]at fr;cases fr
 ·refine T.mono λb ys e=>?_
  have n:b≠g.objs.size:=λz=>by subst z;rw[bw]at e;cases e
  rw[aS n]at e⊢;exact e
theorem uj:∀{l:.cP} {r:.cR},ii l=some r->∃ps:List .iQ,l=ps.map (λq=>(q.1,D.int q.2))/\r=ps.map λq=>[q.1,q.2]
 |[],r,e=>by dsimp[ii]at e;cases e;exact⟨[],rfl,rfl⟩
 |(k,d)::l,r,e=>by
  cases d<;>dsimp[ii]at e<;>try (cases e;done)
  rename_i v
  cases c:ii l with
  |none=>rw[c]at e;cases e
  |some a =>
   rw[c]at e;cases e;obtain⟨ps,rfl,rfl⟩:=uj c;exact⟨(k,v)::ps,rfl,rfl⟩
theorem MY{K:ZX}{ρ:.I}{H:Hp}:∀{ps:List .iQ} {a:.d0},a.map (·.1)=(.zO).map .eS->RDs K ρ H ((.zO).map (·.2)) .lN->a=ps.map λq=>((Sum.inl q.1:Key),V.int q.2)
 |[],[],_,_=>rfl
 |[],_::_,h,_=>by simp at h
 |_::_,[],h,_=>by simp at h
 |(j,d)::ps,(k,v)::a,h1,b=>by
  dsimp[y6,yh]at h1;dsimp[y6,RDs]at b;obtain⟨i,g,e,q1,q2⟩:=b;cases e;obtain⟨c,f⟩:=h1;subst c;dsimp[RD]at q1;subst q1;rw[MY f q2];rfl
def MZ(S:.aU)(W:.pA)(hm:.pc)(Z:.g o t)
  (Y:autoParam (starEach .xG X.env=(false,eval (.Call (.dq "items") [] [] g) X.env)::starEach [] X.env) Q3Q._auto_1)
  (k:autoParam (.eK "items" X.env .ce=eval o X.env) Q3Q._auto_1) (i:autoParam ((apos.endLine == g.line)=true) Q3Q._auto_1) :
  MF X (.cT .lL .xG) (rL t):=by
 refine PE.imp (jV (FE S) W hm .T<|cx (MU Z k i) dE Y) λσ H Q ⟨ρ,σd,K,O,f⟩=>⟨ρ,σd,K,O,?_⟩;unfold rL at f;cases e:t σd K with
 |exc x h'=>rw[e]at f;exact f
 |bad=>rw[e]at f;exact f
 |ok d s =>
  rw[e]at f;dsimp[aE]at f;intro v R y L j J;cases d<;>try exact f.elim
  rename_i n
  simp only at f;dsimp[rD,RD]at J;obtain⟨a,P,rfl⟩:=J;cases c:s[n]? with
  |none=>rw[c]at f;exact f.elim
  |some cell =>
   rw[c]at f;cases cell with
   |lst l=>exact f.elim
   |dcT _=>exact f.elim
   |ob _=>exact f.elim
   |dct l =>
    simp only at f;cases C:ii l with
    |none=>rw[C]at f;exact f.elim
    |some r =>
     rw[C]at f;simp only at f;split at f
     ·rename_i E
      obtain⟨U,rfl,rfl⟩:=uj C;obtain⟨M,q1,q2,q3⟩:=.p5 P;have N:=MY q2 q3;subst N;refine⟨a,_,rfl,q1,λq G=>⟨q,a,U,rfl,bw,by rw[aS (cr q1 G)];exact q1,by simpa using E.1,E.2,λD F A V h w B=>?_⟩⟩;have m:kR R D:=λb u eb=>V _ _ (cA G _ _ eb);have T:F≠q:=λz=>by subst z;rw[bw]at h;cases h
      rw[aS T]at h;have I:=j.hp.free h;exact f F A D y (L.trans<|.eH m) (j.same m) (L.fresh h I) w I B.rds
     ·exact f.elim
end
section
variable{X:Cx}{pos p:Pos}
theorem yZ{K:ZX}{ρ:.I}{H:Hp}:∀{l:List D} {vs:List V} {bs:List Bool},RDs K ρ H l vs->lq l=some bs->vs=bs.map V.bl
 |[],_,is,r,e=>by dsimp[lq]at e;cases e;dsimp[RDs]at r;subst r;rfl
 |d::l,_,is,r,e=>by
  dsimp[RDs]at r;obtain⟨v,vs,rfl,h1,a⟩:=r;cases d<;>dsimp[lq]at e<;>try (cases e;done)
  rename_i i
  cases c:lq l with
  |none=>rw[c]at e;cases e
  |some b =>
   rw[c]at e;cases e;dsimp[RD]at h1;rw[h1,yZ a c];rfl
def M0{bs:List Bool}(r:bn .n6 a):∀(i:Nat) (v:S1),a.toArray[i]?=some v->v=.bool (bs.getD i false):=by
 intro i v e;have b:a[i]?=some v:=by simpa using e
 have c:i<bs.length:=by
  have:=(z0.mp b).1;have:=r.length;simp at this;omega
 obtain⟨u,f,d⟩:=r.get (i:=i) (x:=V.bl bs[i]) .iN;rw[f]at b;cases b;rw[show v=Value.bool bs[i] from d];simp[List.getD,c]
def M3(bs:List Bool):(.Ck).all .BO=bs.all id:=by
 have:bs=(.Ck).map λi=>bs.getD i false:=by
  apply YX;intro i
  by_cases a:i<bs.length<;>simp[List.getD,a]
 conv=>rhs;rw[this]
 rw[List.all_map];rfl
def J1(D:.aU):gE X (.cu "all") (λxs H Q=>∃(p:Addr) (bs:List Bool),xs=.je/\(SqL X.K H p .n6\/SqT X.K H p .n6)/\Q (.bl .oy) H):=by
 intro pins s σ H xs F Q I r q;obtain⟨p,bs,rfl,h,q⟩:=q;obtain⟨u,rfl,A⟩:=bn.one r;cases (show u=Value.ref p from A);have w:(X.A.in1).handled=none:=I.ok.hd D;have x:∀(a:List S1),bn .n6 a->TruthOf X.prog X.w X.A.in1 (λi v=>a.toArray[i]?=some v) .BO:=λa c i v s Q E z B=>by
  rw[M0 c i v z];exact wd B
 have fin:∀{t:Obj} {k:Heap} {l:Nat} {n:Nat},n=bs.length->(∀b o,b∉[s.heap.objs.size]->(s.heap.push t).get? b=some o->k.get? b=some o)->EP X pins σ Q (.bool<|(.t).all λi=>bs.getD i false) { s with heap:=k,toks:=l }:=by
  intro t k l n y j;subst y;refine⟨.bl .oy,H,I.kept λb o e=>j b o .BB .ex,by rw[M3];rfl,q⟩
 rcases h with h|h
 ·obtain⟨a,c,m,C⟩:=I.list h
  have d:s.heap.IsList p a.toArray:=m.isList;have f:p<s.heap.objs.size:=by obtain⟨o,g,_⟩:=d;exact ZI g
  refine PySem.call_all_walk (PySem.wpAny_pyIter_list d ?_);refine⟨s.heap.objs.size,_,.nv,_,_,_,λi=>bs.getD i false,rfl,PySem.Walks.list w s.heap.objs.size p (ZN f) a.toArray,⟨⟨_,ZJ _ rfl,rfl,rfl⟩,?_⟩,x a c,?_⟩
  ·obtain⟨o,g,r⟩:=d;exact⟨o,.H g,r⟩
  ·exact λk l j=>fin .zB j
 ·obtain⟨a,c,m,C⟩:=I.tuple h
  have d:s.heap.IsTuple p a.toArray:=m;have f:p<s.heap.objs.size:=by obtain⟨o,g,_⟩:=d;exact ZI g
  refine PySem.call_all_walk (PySem.wpAny_pyIter_tuple d ?_);refine⟨s.heap.objs.size,_,.nv,_,_,_,λi=>bs.getD i false,rfl,PySem.Walks.tuple w s.heap.objs.size p (ZN f) a.toArray,⟨⟨_,ZJ _ rfl,rfl,rfl⟩,?_⟩,x a c,?_⟩
  ·obtain⟨o,g,r⟩:=d;exact⟨o,.H g,r⟩
  ·exact λk l j=>fin .zB j
def r6{a:Expr}(m:.aU)(h:.U "all")(hm:X.mg "all"=none)(k:MQ X a f)(d:autoParam (.aS X.env=(false,.aW X.env)::starEach [] X.env) Q3Q._auto_1):.g (.bU<|.bw "all") (uN f):=by
 refine Ay (Cl (J1 m) h hm .T (he:=d)) k (λρ H σd o σ l q n Q i g b p=>?_) d;cases c:lq l with
 |none=>dsimp[c]at p;exact p.elim
 |some j =>
  dsimp[c]at p;have e:=yZ b c;subst e;exact⟨q,j,rfl,g.imp id SqT.of,p.here i .Y⟩
def M4(I:MF X a k)(G:.g b o):MF X (.lW .Mult) (vT k o):=by
 refine PE.imp (LU Ta I G) λσ H Q ⟨ρ,σd,z,D,c⟩=>⟨ρ,σd,z,D,?_⟩;unfold vT at c;cases e:k σd z with
 |exc x K=>rw[e]at c;exact c
 |bad=>rw[e]at c;exact c
 |ok l g =>
  rw[e]at c;dsimp[aE]at c;intro q u O j L h J M A i;refine⟨j,σd,g,h,?_⟩;cases m:o σd g with
  |exc x K=>rw[m]at c;exact c
  |bad=>rw[m]at c;exact c
  |ok y C =>
   rw[m]at c;dsimp[aE]at c;intro v B F d r w;cases y<;>try exact c.elim
   rename_i n
   simp only at c;split at c
   ·rename_i N
    dsimp[rD,RD]at w;subst w;have s:B q=some (.lst u):=d.frame q _ M A;have f:=i.mono (h.hp.kp d);refine⟨q,n,u,rfl,rfl,s,by omega,by omega,by rw[<-i.length,YG];omega,λE t=>?_⟩;exact Ck.mk c (L.trans d) r (RDs.rep f n.toNat) E t
   ·exact c.elim
def M5(C:.aU)(r:.U "max")(hm:X.mg "max"=none)(B:.g a q)(z:.g b n)(l:autoParam (.jM X.env=(false,.aW X.env)::starEach [b] X.env) Q3Q._auto_1)(j:autoParam (.jO X.env=(false,eval b X.env)::starEach [] X.env) Q3Q._auto_1)(hpl:autoParam ((.y3).any (λx=>x.1)=false) Q3Q._auto_1):.g (.jH<|.bw "max") (Ag q n):=by
 refine PE.imp (jV (JI C) r hm .T (cx B (cx z dE j) l) (he:=l) (hpl:=hpl)) λσ H Q ⟨ρ,σd,A,t,o⟩=>⟨ρ,σd,A,t,?_⟩;unfold Ag at o;refine (.oz).imp λv F zz=>?_;obtain⟨e,d,f,G,h,m,u⟩:=zz;refine⟨e,σd,f,h,(.av u).imp λw D zz=>?_⟩;obtain⟨y,k,s,E,i,c,g⟩:=zz;cases d<;>try exact g.elim
 cases k<;>try exact g.elim
 dsimp[rD,RD]at m c;subst m c;exact⟨_,_,rfl,g.here i .Y⟩
def kC{D z:EF}(W:.g a D)(U:.g b z):MF X (.lW .Add) (eQ D z):=by
 refine PE.imp (LU S9 W U) λσ H Q ⟨ρ,σd,O,P,c⟩=>⟨ρ,σd,O,P,?_⟩;unfold eQ at c;cases e:D σd O with
 |exc x Y=>rw[e]at c;exact c
 |bad=>rw[e]at c;exact c
 |ok d q =>
  rw[e]at c;dsimp[aE]at c;intro v H1 u Z C K;refine⟨u,σd,q,C,?_⟩;cases y:z σd q with
  |exc x Y=>rw[y]at c;exact c
  |bad=>rw[y]at c;exact c
  |ok k i =>
   rw[y]at c;dsimp[aE]at c;intro w H2 T o h j;cases d with
   |ref n =>
    cases k with
    |ref m =>
     simp only at c;dsimp[rD,RD]at K j;obtain⟨M,B,rfl⟩:=K;obtain⟨L,s,rfl⟩:=j;have J:=o.get B;cases r:i[n]? with
     |none=>rw[r]at c;exact c.elim
     |some N =>
      cases A:i[m]? with
      |none=>rw[r,A]at c;cases N<;>exact c.elim
      |some R =>
       rw[r,A]at c;cases N with
       |dct _=>exact c.elim
       |dcT _=>exact c.elim
       |ob _=>exact c.elim
       |lst l =>
        cases R with
        |dct _=>exact c.elim
        |dcT _=>exact c.elim
        |ob _=>exact c.elim
        |lst k =>
         simp only at c;split at c
         ·rename_i V
          obtain⟨t,G,g⟩:=h.hp.cel n _ M r J;obtain⟨E,I,f⟩:=h.hp.cel m _ L A s;refine⟨M,L,t,E,rfl,rfl,G,I,by rw[<-g.length,<-f.length];exact vn V,λS F=>?_⟩;exact Ck.mk c (Z.trans o) h (RDs.append g f) S F
         ·exact c.elim
    |_=>exact c.elim
   |_=>exact c.elim
end
section
variable{K:ZX}{ρ:.I}{H:Hp}{hd:Hd}
def RH.writeO(r:.aP)(hp:.px)(d:n<hd.length)(h1:.Db)(f:.fm):RH K ρ .zL (hd.set n<|.ob l):=by
 have k:.bY ρ .zL:=by
  have b:=ZK hp;refine⟨λ_ _ h=>h,λa i e=>?_,λa o u e=>?_,λa g e=>?_⟩
  ·rw[aS (λz=>r.noTup e .sU)];exact e
  ·rw[aS (λz=>r.noFrz e .sU)];exact e
  ·rw[aS (λz=>r.noExt e .sU)];exact e
 refine⟨by simp[r.len],r.nd,λm c a q1 q2=>?_⟩
 by_cases e:n=m
 ·subst e
  rw[x4 d]at q1;cases q1;rw[hp]at q2;cases q2;exact⟨vs,C,dx,bw,f.mono k,h1⟩
 ·rw[ZP e]at q1
  have ne:a≠p:=λz=>by
   subst z;exact e .tB
  exact (.sE).mono k (aS ne)
def RH.allocO(r:.aP)(hp:H p=some .tW)(f:p∉ρ)(h1:.Db):RH K .fe H (hd++[.ob []]):=by
 have k:.bY .fe H:=⟨λn a e=>by rw[ZC (.dS).1];exact e,λ_ _ h=>h,λ_ _ _ h=>h,λ_ _ h=>h⟩;refine⟨by simp[r.len],?_,λn c a q1 q2=>?_⟩
 ·rw[X4]
  exact⟨r.nd,by simp,λa g b d=>by simp at d;subst d;intro e;subst e;exact f g⟩
 ·by_cases hlt:n<hd.length
  ·rw[ZC hlt]at q1
   rw[ZC .m8]at q2;exact(r.cel n c a q1 q2).mono k rfl
  ·have i:n=hd.length:=by
    have:=(z0.mp q1).1;simp at this;omega
   subst i;simp at q1;subst q1;rw[<-r.len]at q2;simp at q2;subst q2;exact⟨[],C,dx,hp,by dsimp[RDs],h1⟩
end
structure pB(K:ZX)(C:Addr):Prop where
 at_:.cx .m4=some .tz
 cls:Cls K C
 no:nF K C "web"
section
variable{X:Cx}{pos p:Pos}{C:Addr}
def pB.one(T:pB X.K C)(h:PySem.W.nsIn X.K mainGlobals .m4=some (some .bu)):a=C:=by
 have:=T.at_.symm.trans h;cases this;rfl
def AJ(T:pB X.K C)(he:.g e i)(q:autoParam (attributeBase e "web" X.env .nY=.az X.env) Q3Q._auto_1):.g (.Attribute e "web" pos) (yx i):=by
 refine PE.imp (SV he q) λσ H Q ⟨ρ,σd,s,m,o⟩=>⟨ρ,σd,s,m,(.oz).imp λv y zz=>?_⟩;obtain⟨k,d,g,z,f,h,b⟩:=zz;cases d with
 |ref n =>
  simp only at b;cases c:g[n]? with
  |none=>rw[c]at b;exact b.elim
  |some cell =>
   rw[c]at b;cases cell with
   |lst l=>exact b.elim
   |dct l=>exact b.elim
   |dcT l=>exact b.elim
   |ob l =>
    match l,b,c with
    |[d],b,c =>
     dsimp[RD]at h;obtain⟨a,t,rfl⟩:=h;obtain⟨x,j,u,q1,q2,q3⟩:=f.hp.cel n _ a c t;dsimp[RDs]at q2;obtain⟨v,r,rfl,w,rfl⟩:=q2;obtain rfl:=T.one q3;exact⟨a,j,u,_,v,rfl,q1,T.cls,T.no,rfl,b.here f w⟩
    |[],b,_=>exact b.elim
    |_::_::_,b,_=>exact b.elim
 |_=>exact b.elim
def Ii(T:pB X.K C)(R:.g o y)(he:.g e w)(J:autoParam (swapsWith e (some<|.Attribute o "web" b) pos.line X.env=pure false) Q3Q._auto_1):MS X (.fr [.Attribute o "web" b]) (B7 y w):=by
 refine PS.imp (SW R he J) λEn σ H ⟨ρ,σd,Q,B,p⟩=>⟨ρ,σd,Q,B,(.fP).imp λv S zz=>?_⟩;obtain⟨r,d,k,U,j,O,E⟩:=zz;refine⟨r,σd,k,j,(cF.outE E).imp λN i zz=>?_⟩;obtain⟨f,K,g,P,h,A,b⟩:=zz;have s:=O.mono (j.hp.kp P);cases K with
 |ref n =>
  simp only at b;cases c:g[n]? with
  |none=>rw[c]at b;exact b.elim
  |some cell =>
   rw[c]at b;have I:n < g.length:=(.fV).1;have fin:∀{l:List D},g[n]? = some (.ob l)->l.length<=1->cF X.K f i (.nx σd<|g.set n .jy) En->_:=λ{l} c G b=>(show ∃a C dx t,N=.ref a/\i a=some (.ins C dx t)/\Cls X.K C/\nF X.K C "web"/\t.length < 1000/\En.nx σ (upd i a<|.ins C dx<|nA "web" v t) by
    dsimp[RD]at A;obtain⟨a,m,rfl⟩:=A;obtain⟨q,u,dx,q1,q2,q3⟩:=h.hp.cel n _ a c m;obtain rfl:=T.one q3;have M:q.length<=1:=by rw[<-q2.length];exact G
    have L:nA "web" v (Au q)=Au [v]:=by
     match q,M with
     |[],_=>rfl
     |[x],_=>rfl
    refine⟨a,u,dx,_,rfl,q1,T.cls,T.no,by unfold Au;rw[ZA];omega,?_⟩;rw[L];have F:=h.hp.writeO (dx:=dx) (l:=[d]) m I q3 (by dsimp[RDs];exact⟨v,[],rfl,s,rfl⟩);have z:Ext f i f (upd i a<|.ins u dx<|Au [v]):=Ext.write (ZK m);exact b σ _ f z (h.ext z F))
   cases cell with
   |lst l=>exact b.elim
   |dct l=>exact b.elim
   |dcT l=>exact b.elim
   |ob l =>
    cases l with
    |nil=>exact fin c .ey b
    |cons _ l=>
     cases l with
     |nil=>exact fin c .o b
     |cons _ _=>exact b.elim
 |_=>exact b.elim
structure M6(P:N3)(w:N6)(K:ZX)(mg:.ap)(base:Heap)(C:Addr)(m:Str)(k np:Nat)(F:Fn):Prop where
 ex:∃f fd ps,SU K C m f/\jU K fd ps []/\ie P w K mg base CX0 k f fd ps .it
def j3{apos:Pos}{pl:Sem Bool}(T:pB X.K C)(hd:M6 X.prog X.w X.K X.mg X.base C m k np F)(R:gF k X.A)(ho:.g o I)(y:MA X (e::i) r)(w:.ur)(hm:m≠"web")
  (G:autoParam (starEach (e::i) X.env=(false,.az X.env)::starEach i X.env) Q3Q._auto_1) (hpl:autoParam ((.zp).any (·.1)=false) Q3Q._auto_1)
  (ht:autoParam (eval (.cT (.dq m) (e :: i)) X.env=(do
   let ov <-eval o X.env
   standAt apos.atName
   let (f,first) <-holding [ov] (getMethod ov m pl)
   callWith pos f first (backTo pos<|.jD (e::i)) (.lX pos))) Q3Q._auto_1) :
  ME X (.cT (.dq m) (e::i)) (jT F I r):=by
 obtain⟨f,fd,ps,K,U,W⟩:=hd.ex;refine PE.imp (PQ ho T.cls K W R U .nil Mf y G hpl ht) λσ H Q ⟨ρ,σd,hd,M,O⟩=>⟨ρ,σd,hd,M,(.av O).imp λv H1 zz=>?_⟩;obtain⟨D,d,q,e1,g,E,b⟩:=zz;cases d with
 |ref n =>
  simp only at b;cases c:q[n]? with
  |none=>rw[c]at b;exact b.elim
  |some cell =>
   rw[c]at b;cases cell with
   |lst l=>exact b.elim
   |dct l=>exact b.elim
   |dcT l=>exact b.elim
   |ob l =>
    have B:=E;dsimp[RD]at E;obtain⟨a,y,rfl⟩:=E;obtain⟨A,C',dx,q1,q2,q3⟩:=g.hp.cel n _ a c y;obtain rfl:=T.one q3;have P:(Au A).lookup m=none:=by
     unfold Au;clear q1 q2
     induction A with
     |nil=>rfl
     |cons v A ih =>
      rw[y6,YC];rw[show (m == Str.ofString "web")=false from by simpa using hm];exact ih
    refine⟨a,dx,_,rfl,q1,P,D,σd,q,g,(.av b).imp λus H2 zz=>?_⟩;obtain⟨x,ds,s,Y,u,V,j⟩:=zz;rw[XA];cases t:F (.ref n::ds) s with
    |exc z h'=>rw[t]at j;exact j.elim
    |bad=>rw[t]at j;exact j.elim
    |ok d S =>
     rw[t]at j;refine⟨x,s,.ref n::ds,u.hp,?_,w _ _ _ _ t,?_⟩
     ·dsimp[RDs]
      exact⟨_,_,rfl,B.mono (g.hp.kp Y),V⟩
     ·rw[t]
      exact λv L ρ' J N Z=>j v L ρ' J (u.ext J N) Z
 |_=>exact b.elim
structure TM(P:N3)(w:N6)(K:ZX)(mg:.ap)(base:Heap)(x:Str)(C:Addr)(k np:Nat)(F:Fn):Prop where
 mgC:mg x=some .bt
 ex:∃f fd ps,Mk K C f/\jU K fd ps []/\ie P w K mg base CX0 k f fd ps .it
def TN(T:pB X.K C)(hd:TM X.prog X.w X.K X.mg X.base x C k np F)(N:gF (k+1) X.A)(U:.U x)(P:MA X (e::o) r)(t:.ur)
  (s:autoParam (.aY=false) Q1Q._auto_1) (he:autoParam (starEach (e::o) X.env=(false,.az X.env)::starEach o X.env) Q3Q._auto_1) (hpl:autoParam ((backTo pos<|.jD o).any (·.1)=false) Q3Q._auto_1) :
  ME X (.cT .fp (e::o)) (Pr F r):=by
 obtain⟨f,fd,ps,E,S,W⟩:=hd.ex;refine PE.imp (PR E W N U hd.mgC S .nil Mf P s he hpl) λσ H Q ⟨ρ,σd,hd,J,M⟩=>⟨ρ,σd,hd,J,(.av M).imp λvs j zz=>?_⟩;obtain⟨a,ds,g,e1,b,V,l⟩:=zz;intro x i B n w;rw[XA];cases c:F (.ref g.length::ds) (g++[.ob []]) with
 |exc z h'=>rw[c]at l;exact l.elim
 |bad=>rw[c]at l;exact l.elim
 |ok d R =>
  rw[c]at l;cases d with
  |non =>
   have Y:x∉a:=λz=>by
    rcases b.hp.mut z with ⟨_,q⟩|⟨_,q⟩|⟨_,q⟩|⟨_,_,_,q⟩<;>(rw[B]at q;cases q)
   have Z:Ext a j a (upd j i .hd):=⟨⟨[],by simp⟩,λ_ h=>.inl h,λq u e _=>cA n q u e⟩;have m:upd j i .hd x=none:=by rw[aS (XO w)];exact B
   have K:Ext a (upd j i .hd) (a++[x]) .q5:=Ext.alloc m;have y:Ext a j (a++[x]) .q5:=Z.trans K;have I:RH X.K a .q5 g:=(b.hp.same<|cA n).same (cA m);have O:=I.allocO bw Y T.at_;refine⟨a++[x],g++[.ob []],.ref g.length::ds,O,?_,t _ _ _ _ c,?_⟩
   ·dsimp[RDs]
    refine⟨_,_,rfl,?_,V.mono (b.hp.kp y)⟩;dsimp[RD];exact⟨x,by rw[<-b.hp.len];simp,rfl⟩
   ·rw[c]
    intro v G ρ' A L D;dsimp[RD]at D;refine⟨D,l .jc G ρ' (y.trans A) (b.ext (y.trans A) L) ?_⟩;dsimp[rD,RD];exact⟨x,A.get (by rw[<-b.hp.len];simp),rfl⟩
  |_=>exact l.elim
end
/---/def inS(s:Stmt)(j:Nat):Stmt:=match s with
 |.ClassDef _ _ _ b _ _ _ _ _ _ _=>b.getD j (.Pass ⟨0,0,0,0⟩)
 |_=>.Pass ⟨0,0,0,0⟩
def M7{K:ZX}{mg:.ap}{base:Heap}{x y:Str}{st:Stmt}{f:Addr}{fd:.gc}{N ps:.aq}{k:Nat}{b:SF}(F:Fun K y x st f fd)(S:fM N ps .c9)
  (body:.C3) :
  ie P w K mg base CX0 (k+1) f fd ps .xH:=by
 refine F.ok S .wt λa A outer s H h Q E j ⟨ρ,g,i,d,c,e,p⟩=>⟨_,body a A outer s H E j,ρ,_,g,⟨d,yM c⟩,?_⟩;dsimp[bE,e,XH]at p;exact(uc.letGo d p).runB
section
variable{K:ZX}{ρ:.I}{H:Hp}{hd:Hd}
noncomputable abbrev kyT(k:.c):List Key:=k.map λi=>(Sum.inl i:Key)
def AK(e:kyT a=kyT b):a=b:=by
 have:=congrArg (List.map λx:Key=>match x with | .inl i=>i|_=>0) e;simpa[kyT,ZY,Function.comp_def] using this
def TQ(k:.c):(.dW).map kV=k.map V.int:=by
 rw[kyT,ZY];rfl
def RH.allocT(r:.aP)(hp:RC K ρ H .jh p)(j:p∉ρ):RH K .fe H (hd++[.dcT l]):=by
 have k:.bY .fe H:=⟨λn a e=>by rw[ZC (.dS).1];exact e,λ_ _ h=>h,λ_ _ _ h=>h,λ_ _ h=>h⟩;refine⟨by simp[r.len],?_,λn c a d f=>?_⟩
 ·rw[X4]
  exact⟨r.nd,by simp,λa m b i=>by simp at i;subst i;intro e;subst e;exact j m⟩
 ·by_cases hlt:n<hd.length
  ·rw[ZC hlt]at d
   rw[ZC .m8]at f;exact (.s7).mono k rfl
  ·have o:n=hd.length:=by
    have:=(z0.mp d).1;simp at this;omega
   subst o;simp at d;subst d;rw[<-r.len]at f;simp at f;subst f;obtain⟨g,q1,q2,q3⟩:=hp;exact⟨g,q1,q2,q3.mono k⟩
def RH.writeT(r:.aP)(hp:.px)(f:n<hd.length)(h1:b.map (·.1)=l.map .gX)(g:.Dc):RH K ρ (.br<|.dT b) (hd.set n .jh):=by
 have k:.bY ρ (.br<|.dT b):=by
  have d:=ZK hp;refine⟨λ_ _ h=>h,λa j e=>?_,λa o u e=>?_,λa i e=>?_⟩
  ·rw[aS .Cp];exact e
  ·rw[aS .Cq];exact e
  ·rw[aS .Cr];exact e
 refine⟨by simp[r.len],r.nd,λm c a q1 q2=>?_⟩
 by_cases e:n=m
 ·subst e
  rw[x4 f]at q1;cases q1;rw[hp]at q2;cases q2;exact⟨b,bw,h1,g.mono k⟩
 ·rw[ZP e]at q1
  have ne:a≠p:=λz=>by
   subst z;exact e .tB
  exact (.sE).mono k (aS ne)
theorem sf(k:.c):∀{l:.cQ} {a:.gb},a.map (·.1)=l.map .gX->RDs K ρ H .b6 .lN->
  (gj l k=none/\i9 a .dW=none)\/∃d v,gj l k=some d/\i9 a .dW=some v/\.bF d v
 |[],[],_,_=>.inl ⟨rfl,rfl⟩
 |[],_::_,h,_=>by simp at h
 |_::_,[],h,_=>by simp at h
 |(j,d)::l,(q,v)::a,h1,b=>by
  dsimp[y6,yh]at h1;dsimp[y6,RDs]at b;obtain⟨o,n,e,q1,q2⟩:=b;cases e;obtain⟨m,g⟩:=h1;subst m
  by_cases e:j=k
  ·subst e
   exact .inr ⟨d,v,by simp[gj],by simp[i9],q1⟩
  ·have i:=sf k g q2
   have f:gj ((j,d)::l) k=gj l k:=by simp[gj,e]
   have c:i9 ((kyT j,v)::a) .dW=i9 a .dW:=nY (λz=>e (AK z));rw[f,c];exact i
theorem CZ(k:.c):∀{l:.cQ} {a:.gb},a.map (·.1)=l.map .gX->(a.any λc=>decide (c.1=kyT k))=l.any λp=>decide (p.1=k)
 |[],[],_=>rfl
 |[],_::_,h=>by simp at h
 |_::_,[],h=>by simp at h
 |(j,d)::l,(g,v)::a,h1=>by
  dsimp[y6,yh]at h1;obtain⟨b,f⟩:=h1;subst b;have:decide (kyT j=kyT k)=decide (j=k):=by
   by_cases e:j=k
   ·simp[e]
   ·rw[xC e,xC λz=>e (AK z)]
  dsimp[zZz,this,CZ k f]
theorem y7(k:.c){f:D}{c:V}(n:.bF f c):∀{l:.cQ} {a:.gb},a.map (·.1)=l.map .gX->RDs K ρ H .b6 .lN->
  (.xA).map (·.1)=(.mv).map .gX/\.aw ((.mv).map (·.2)) ((.xA).map (·.2))
 |[],[],_,_=>⟨rfl,RDs.nil⟩
 |[],_::_,h,_=>by simp at h
 |_::_,[],h,_=>by simp at h
 |(j,d)::l,(u,v)::a,h1,i=>by
  dsimp[y6,yh]at h1;dsimp[y6,RDs]at i;obtain⟨t,s,e,q1,q2⟩:=i;cases e;obtain⟨q,o⟩:=h1;subst q;obtain⟨g,m⟩:=y7 k n o q2
  by_cases e:j=k
  ·subst e
   dsimp[y6,XH];exact⟨by rw[g],RDs.cons n m⟩
  ·have r:¬kyT j=kyT k:=λz=>e (AK z)
   dsimp[y6,y3 e,y3 r];exact⟨by rw[g],RDs.cons q1 m⟩
def J2(k:.c)(e:.bF b c)(h1:a.map (·.1)=l.map .gX)(d:.Dd):
  (lD a .dW c).map (·.1)=(vV l k b).map .gX/\.aw ((vV l k b).map (·.2)) ((lD a .dW c).map (·.2)):=by
 unfold lD vV;rw[CZ k h1];split
 ·exact y7 k e h1 d
 ·refine⟨by simp[h1],?_⟩
  rw[ZR,ZR];exact RDs.append d (.hH e)
def AL(a:.bF .hj v)(e:dG l=some k):∃b,v=.ref b/\H b=some (.tup<|(.dW).map kV):=by
 dsimp[RD]at a;obtain⟨b,f,rfl,c,d⟩:=a;rw[jY d e]at c;exact⟨b,rfl,by rw[TQ];exact c⟩
end
section
variable{X:Cx}{pos p:Pos}
def M8:.g .pK EY:=by
 refine PE.imp MP λσ H Q ⟨ρ,σd,h,a,d⟩=>λq b=>?_;have e:=cA (o:=HO.dT []) b;have f:=a.hp.free b;have g:=(a.hp.same e).allocT (l:=[]) ⟨[],bw,rfl,RDs.nil⟩ f;have c:.bX (ρ++[q]) (.aA q<|.dT []):=Ext.alloc b;refine bP.at d c (a.ext c g) ?_;dsimp[rD,RD];refine⟨q,?_,rfl⟩;rw[<-a.hp.len];simp
/---/def Ij(K:ZX):R2:=λx y H Q=>∃a o,y=.ref a/\qx H a x o/\Q (.bl<|!o.isSome) H
def J3(b:.hs):.ae .nz (Ij X.K):=by
 intro pins s σ H x y v u Q I c e h;obtain⟨a,o,rfl,g,q⟩:=h;obtain rfl:u=Value.ref a:=e;exact Qk b I g c λf d=>⟨.bl (!o.isSome),H,d,rfl,q⟩
def J4{K:ZX}:Og K qh (Ij K):=by
 intro ρ H σd s σ d k v w Q o t h f;unfold qh at f;cases d<;>try exact f.elim
 cases k<;>try exact f.elim
 rename_i l n
 simp only at f;cases i:dG l with
 |none=>rw[i]at f;exact f.elim
 |some k =>
  rw[i]at f;obtain⟨b,rfl,r⟩:=AL t i;dsimp[RD]at h;obtain⟨a,u,rfl⟩:=h;cases c:s[n]? with
  |none=>rw[c]at f;exact f.elim
  |some cell =>
   rw[c]at f;cases cell with
   |lst l=>exact f.elim
   |dct _=>exact f.elim
   |ob _=>exact f.elim
   |dcT m =>
    simp only at f;obtain⟨g,q1,q2,q3⟩:=o.hp.cel n _ a c u;refine⟨a,i9 g .dW,rfl,qx.t q1 r,?_⟩;have e:(i9 g .dW).isSome=(gj m k).isSome:=by
     rcases sf k q2 q3 with ⟨q,j⟩|⟨d,v,q,j,_⟩<;>rw[q,j]<;>rfl
    rw[e];exact f.here o .Y
def Qn(L:.hs)(he:.g e F)(ho:.g o G)(hi:.g i E)(Y:autoParam (swapsWithSole .nw e pos.line X.env=pure false) Q3Q._auto_1)(N:autoParam (swappedStores .nw e X.env=pure none) Q3Q._auto_1)
  (h1:autoParam ((.p2 .nw).map (·.2)=[assign (.Subscript o i g) X.env]) Q3Q._auto_1) (u:autoParam (∀v,assign (.Subscript o i g) X.env v=(do
   let ov <-holding [v] .ce
   let A <-holding [v,ov] .nX
   standAt g
   holding [v,ov,A] (setItem ov A v)
   release [v,ov,A] [])) Q2Q._auto_1):MS X (.fr .nw) (HK G E F):=by
 refine PS.imp (Ak he (E1 ho hi (CY L) u) Y N h1) λEn σ H ⟨ρ,σd,hd,M,p⟩=>⟨ρ,σd,hd,M,(.fP).imp λv H1 zz=>?_⟩;obtain⟨C,d,z,e1,t,rv,P⟩:=zz;refine⟨C,σd,z,t,(cF.outE P).imp λvo H2 zz=>?_⟩;obtain⟨y,Z,D,e2,q,ro,g⟩:=zz;refine⟨y,σd,D,q,(cF.outE g).imp λvi K zz=>?_⟩;obtain⟨h,V,w,I,j,ri,f⟩:=zz;have B:=(rv.mono<|t.hp.kp e2).mono (q.hp.kp I);have s:=ro.mono (q.hp.kp I);cases Z with
 |ref n =>
  cases V with
  |tup l =>
   simp only at f;cases x:dG l with
   |none=>rw[x]at f;exact f.elim
   |some k =>
    rw[x]at f;obtain⟨b,rfl,T⟩:=AL ri x;cases c:w[n]? with
    |none=>rw[c]at f;exact f.elim
    |some cell =>
     rw[c]at f;cases cell with
     |lst l=>exact f.elim
     |dct _=>exact f.elim
     |ob _=>exact f.elim
     |dcT m =>
      simp only at f;split at f
      ·rename_i U
       dsimp[RD]at s;obtain⟨a,u,rfl⟩:=s;obtain⟨r,q1,q2,q3⟩:=.p5 u;have R:r.length=m.length:=by have:=.hL q2;simpa using this
       refine⟨a,_,rfl,CS.t q1 T (by rw[R];exact Z0 U .iv),?_⟩;have W:n<w.length:=(.fV).1;obtain⟨O,S⟩:=J2 k B q2 q3;have Q:=j.hp.writeT u W O S;have J:Ext h K h (upd K a<|.dT<|lD r .dW v):=Ext.write (ZK u);exact f σ _ h J (j.ext J Q)
      ·exact f.elim
  |_=>exact f.elim
 |_=>exact f.elim
def Qo(t:.hs)(h:.g a s)(g:.g b r)(x:autoParam (MK b) Q6Q._auto_1):.g .lR (LH s r):=by
 refine me2 (a:=a) (b:=b) (Ql t h g x) λρ H σd A σ d k v w Q j o f p=>?_;unfold LG at p;cases d<;>try exact p.elim
 cases k<;>try exact p.elim
 rename_i n l
 simp only at p;cases e:dG l with
 |none=>rw[e]at p;exact p.elim
 |some k =>
  rw[e]at p;obtain⟨b,rfl,g⟩:=AL f e;dsimp[RD]at o;obtain⟨a,h,rfl⟩:=o;cases c:A[n]? with
  |none=>rw[c]at p;exact p.elim
  |some cell =>
   rw[c]at p;cases cell with
   |lst l=>exact p.elim
   |dct _=>exact p.elim
   |ob _=>exact p.elim
   |dcT m =>
    simp only at p;obtain⟨u,q1,q2,q3⟩:=.p5 h;rcases sf k q2 q3 with ⟨i,q⟩|⟨d,v,i,q,y⟩
    ·rw[i]at p;exact p.elim
    ·rw[i]at p
     exact⟨a,v,rfl,by have z:=qx.t q1 g;rw[q]at z;exact z,p.here j y⟩
end
end Fm
namespace Fm
open PySem PySem.Spec L2
open PyProof.Rows (Call_)
section
variable{prog:N3}{w:N6}{A:P2}{E:.D}{s:P1}{z TI TO i1 i2 l1 l2:Addr}{k:Nat}{xs ys:.bp}{a b:S1}
end
section
variable{prog:N3}{w:N6}{A:P2}{E:.D}{s:P1}
end
def Qp{σ:St}{t':Nat}{ch:.I}(I:.uF)(k:∀b o,b∉ch->s.heap.get? b=some o->h'.get? b=some o)(d:∀b∈ch,vX X pins H b):
  L2.Inv X pins σ H .fw:=by
 have f:∀b u,H b=some u->b∉ch:=λb u e z=>by rw[(d b z).1]at e;cases e
 refine I.step (λb g=>⟨(d b g).2.2.2.1,(d b g).2.1,(d b g).2.2.2.2.1,(d b g).2.2.2.2.2⟩) (λb o _ _ a e _=>k b o a e) (λb o _ _ a e _=>⟨o.slots,k b o a e⟩) (λ_ _ _ _ n=>n)
  (λb o a e=>⟨o,k b o a e⟩) (λ_ _ e=>e) (λ_ _ _ e=>e) (λb p e=>⟨#[],by rw[e];simp⟩) (λm l=>?_) (λb u e=>?_) I.bare
 ·obtain⟨o,j,h,i,r⟩:=l
  exact⟨o,j,h,k _ o (λz=>(d _ z).2.1 rfl) i,r⟩
 ·refine (.oa).stay (λc v a q=>k c v ?_ q) .oB λ_ _ q=>q
  rcases a with z|z
  ·rw[z];exact f b u e
  ·exact f c _ z
section
variable{X:Cx}{pos p tp:Pos}{elts:.aL}{tk:Nat}
end
end Fm
namespace HT
open PySem PySem.Spec PyProof.Rows L2
def getItem_tuple_whole{lo hi:.aK}(ht:.jQ t a)(i:s.heap.IsSliceOf d k g .none)(pl:IsPart k lo)(n:IsPart g hi)
  (j:sIx a.size 0 lo=0/\sIx a.size a.size hi=a.size) (h:Q .hk s):.ao (getItem .hk .dd) Q E s:=by
 obtain⟨m,f,c,l⟩:=id i;have e:s.TypeIs (.ref d) "slice" := ⟨m,f,c⟩;unfold getItem
 try with_reducible refine YZ ?_
 first|refine zF .aa|skip
 refine zF (zXr ht.typeIs .b ?_);refine zF (YL (name:=Str.ofString "__getitem__") ht.typeIs yj
  (YP yj ht.typeIs entry_tuple_getitem ?_ .Bj))
 show wpAny _ _ .xK _ _ s;refine zF (tupleItemsOf_ ht ?_);refine zF (wpAny_typeOf e ?_);rw[z4 .b];refine zF (lu i pl n ?_);have b:(.qd=true):=by
  rw[j.1,j.2];simp
 show wpAny _ _ .Aq _ _ s;rw[z4 b];refine zF ?_;unfold Builtin.Tuple.tupleIsExact;refine zF (wpAny_typeOf ht.typeIs .aa);rw[z4 .b];refine zF (zYv ?_)
 first
  |exact z3 ⟨_,rfl,z3 h⟩
  |exact zF .il
  |exact zF (z3 .il)
end HT
namespace Fm
open PySem PySem.Spec L2 PySem.W PyProof.Rows
/---/def VE(K:ZX):V->Option Int->Option Int->Hp->VK->Prop:=λx lo hi H Q=>∃a xs,x=.ref a/\SqT K H a xs/\
 (.qD->Q .bu H)/\
 (¬.qD->∀p,H p=none->.c5 .Cw)
def Qq:SlR X (VE X.K):=by
 intro pins s σ H x v q o k l p Q I g f i j h;obtain⟨a,b,rfl,m,q1,q2⟩:=h
 by_cases d:HT.sIx b.length 0 k=0/\HT.sIx b.length b.length l=b.length
 ·cases g
  obtain⟨e,r,n,t⟩:=I.tuple m;have c:e.toArray.size=b.length:=by rw[v3];exact r.length.symm
  refine⟨"tuple",_,PyProof.Rows.slot_tuple_getitem.lookup,n.typeIs,?_⟩;exact HT.getItem_tuple_whole n f i j (by rw[c];exact d) ⟨.ref a,H,I,rfl,q1 d⟩
 ·exact L7 pins s σ H _ v q o k l p Q I g f i j ⟨a,b,rfl,m,d,q2 d⟩
def J5(h:.jP 0 i=0/\.jP l.length j=l.length):cut l i j=l:=by
 unfold cut;rw[h.1,h.2];simp
def y8{lo hi:.lK}(L:.g a y)(J:MO X lo A)(F:MO X hi B):.g (.d5 a<|.lU t) (mj y A B):=by
 refine PE.imp (wa Qq L J F) λσ H Q ⟨ρ,σd,T,E,x⟩=>?_;unfold mj at x;refine⟨ρ,σd,T,E,(.gg x).imp λv W zz=>?_⟩;obtain⟨r,d,j,Z,f,P,G⟩:=zz;refine⟨r,σd,j,f,(bP.bind (R:=rO) G).imp λU V zz=>?_⟩;obtain⟨k,I,s,S,i,q2,t⟩:=zz;cases q2;refine⟨k,σd,s,i,(bP.bind (R:=rO) t).imp λK Y zz=>?_⟩;obtain⟨D,C,M,O,h,q3,c⟩:=zz;cases q3;have g:=(P.mono<|f.hp.kp S).mono (i.hp.kp O);cases d with
 |tup l =>
  simp only at c;dsimp[RD]at g;obtain⟨q,m,rfl,z,b⟩:=g;have e:∀(n d:Nat) (o:.aK),Fm.sIx n d o=HT.sIx n d o:=λn d o=>by cases o<;>rfl
  refine⟨q,m,rfl,SqT.of z,λw=>?_,λ_ N u=>?_⟩
  ·rw[<-b.length,<-e,<-e]at w
   rw[J5 w]at c;exact c.here h (by dsimp[rD,RD];exact⟨q,m,rfl,z,b⟩)
  ·have p:=cA (o:=HO.tup (rS m U K)) u
   exact c.at (.eH p) (h.same p) (by dsimp[rD,RD];exact⟨N,_,rfl,bw,(AC b).mono (.cv p)⟩)
 |_=>exact c.elim
section
variable{pos p:Pos}
def TR(C:.aU)(r:.U "min")(hm:X.mg "min"=none)(B:.g a q)(z:.g b n)(l:autoParam (.jM X.env=(false,.aW X.env)::starEach [b] X.env) Q3Q._auto_1)(j:autoParam (.jO X.env=(false,eval b X.env)::starEach [] X.env) Q3Q._auto_1)(hpl:autoParam ((.y3).any (λx=>x.1)=false) Q3Q._auto_1):.g (.jH<|.bw "min") (Qi q n):=by
 refine PE.imp (jV (JJ C) r hm .T (cx B (cx z dE j) l) (he:=l) (hpl:=hpl)) λσ H Q ⟨ρ,σd,A,t,o⟩=>⟨ρ,σd,A,t,?_⟩;unfold Qi at o;refine (.oz).imp λv F zz=>?_;obtain⟨e,d,f,G,h,m,u⟩:=zz;refine⟨e,σd,f,h,(.av u).imp λw D zz=>?_⟩;obtain⟨y,k,s,E,i,c,g⟩:=zz;cases d<;>try exact g.elim
 cases k<;>try exact g.elim
 dsimp[rD,RD]at m c;subst m c;exact⟨_,_,rfl,g.here i .Y⟩
end
end Fm
namespace Fm
open PySem PySem.Spec L2
open AutoSeq1 (wpAny_loadPart')
open PyProof.Rows (Call_)
section
variable{X:Cx}{pos p tp:Pos}{elts:.aL}{tk:Nat}
/---/def WT(K:ZX)(ta:TE):TI:=λσ H R=>ta σ H λx H1=>∃a xs,x=.ref a/\SqL K H1 a xs/\(xs.length<=sizeLine->R (ItL K a) H1)
def M9(y:.pl)(hm:.o2)(G:.w a k)(v:autoParam (.aS X.env=.ii) Q3Q._auto_1):PI X .jv .pE (WT X.K k):=by
 intro pins s σ H R I h;have n:=cx G dE v;refine Call_ (kQ I y hm PyProof.Rows.boot_enumerate (XG (thn (n pos pins s σ H (λt c=>∃a d,t=.bQ/\SqL X.K c a d/\.mF) I ?_) λM f ⟨t,c,j,A,q1⟩=>?_) v rfl))
 ·show k σ H λx c=>_
  have m:∀(x:V) (c:Hp),(∃a d,x=.ref a/\SqL X.K c a d/\.mF)=(∃a d,[x]=.bQ/\SqL X.K c a d/\.mF):=λx c=>by simp
  have i:k σ H λx c=>∃a d,x=.ref a/\SqL X.K c a d/\.mF:=h;dsimp[m]at i;exact i
 ·obtain⟨a,d,e,J,q⟩:=q1
  subst e;obtain⟨u,rfl,B⟩:=bn.one A;cases (show u=Value.ref a from B);obtain⟨r,K,F,E⟩:=j.list J;refine call_enumerate_list (show f.heap.IsList a r.toArray from F.isList) λi w l D z=>?_;refine wpAny_pyIter_enum (s:=.nu) w ?_;have C:.be c .nu:=j.kept (t':=f.toks) z;refine⟨f.heap.objs.size+1,.yr,_,_,c,rfl,C,yN (L:=true) (f.heap.objs.size+1) f.heap.objs.size a,⟨⟨_,by simpa using w⟩,l⟩,λb o=>?_,q E⟩;have g:f.heap.objs.size<=b:=by
   rcases xB.mp o with e|o
   ·rw[e];exact zYt _
   ·have:b=f.heap.objs.size:=by simpa using o
    rw[this];exact ZL _
  exact j.fpOk g (j.hok.fresh g)
theorem FF{K:ZX}{n:Nat}(z:ρ[n]?=some q)(hz:(im l).length<=sizeLine):ub K ρ H (ItL K q) (im l) (λh=>h[n]?=some .dH) where
 go:=λρ' u hd' i d f j g w=>by
  have b:=f.get z;obtain⟨c,r,a⟩:=j.cel n _ q g b;unfold im at w;obtain⟨k,m⟩:=z0.mp w;have C:i<l.length:=by simpa using k
  have E:d=.tup [.int (i:Nat),l[i]]:=by rw[<-m];simp
  subst E;obtain⟨v,e,B⟩:=a.get (i:=i) (d:=l[i]) (by simp[C]);have t:SqL K u q c:=SqL.of r;refine⟨⟨c,v,t,e⟩,λx G y=>?_⟩;obtain⟨q2,F,rfl,A,rfl,y⟩:=y;have:=y c t;rw[e]at this;cases this;have s:=cA (o:=HO.tup [.int (i:Nat),v]) A;refine⟨s,?_⟩;dsimp[RD];exact⟨q2,_,rfl,bw,.hO (.hH<|B.mono<|.cv s)⟩
 stop:=λρ' u hd' f j g=>by
  have b:=f.get z;obtain⟨c,r,a⟩:=j.cel n _ q g b;exact⟨c,SqL.of r,by rw[<-a.length];simp[im]⟩
 sz:=hz
/---/def Na(K:ZX)(ρ:.I)(H:Hp)(σd:Sd)(σ:St)(r:Res D)(R:.lJ):Prop:=match r with
 |.ok (.ref n) hd'=>match hd'[n]? with
  |some .cq=>∀J H' ρ',Ext ρ H ρ' H'->RS K ρ' H' σd hd' σ->ub K ρ' H' J (im l) .AD->R J H'
  |_=>False
 |_=>False
/---/def VF(K:ZX)(f:EF):TI:=λσ H R=>∃ρ σd hd,RS K ρ H σd hd σ/\Na K ρ H σd σ .i6 R
/---/def MIE(X:Cx)(tg e:Expr)(f:EF):Prop:=PI X tg e (VF X.K f)
def C0{f:EF}(t:.pl)(hm:.o2)(z:.g a f)(u:autoParam (.aS X.env=.ii) Q3Q._auto_1):MIE X .jv .pE f:=by
 refine PI.imp (M9 t hm z u) λσ H R ⟨ρ,σd,r,w,b⟩=>⟨ρ,σd,r,w,?_⟩;unfold Na at b;cases e:f σd r with
 |exc x C=>rw[e]at b;exact b
 |bad=>rw[e]at b;exact b
 |ok d i =>
  rw[e]at b;intro v A h j c o;cases d<;>try exact b.elim
  rename_i n
  cases g:i[n]? with
  |none=>dsimp[g]at b
  |some cell =>
   dsimp[g]at b;cases cell with
   |dct l=>exact b.elim
   |dcT l=>exact b.elim
   |ob l=>exact b.elim
   |lst l =>
    simp only at b;dsimp[rD,RD]at o;obtain⟨q,s,rfl⟩:=o;obtain⟨m,B,k⟩:=c.hp.cel n _ q g s;exact⟨q,m,rfl,SqL.of B,λy=>b _ A h j c (FF s (by rw[show (im l).length=m.length by rw[<-k.length];simp[im]];exact y))⟩
end
section
variable{X:Cx}{pos:Pos}{tg:Expr}
end
end Fm
namespace Fm
open PySem PySem.Spec L2
section
variable{X:Cx}{pos:Pos}{scope:Scope}{own capn:.aq}{caps:.i}
def C1{D tg a:Expr}(hc:.aU)(S:.f6)(hi:MIE X tg a f)
  (Y:∀cl C s H ex,MG .b1 tg g/\MTs .b1 A cs/\ME .b1 D e)
  (hs:autoParam (∀x,foldedSetIterable a X.env x=pure x) Q2Q._auto_1):MF X (.hG D [⟨tg,a,A,0⟩]) (nT own.length caps f g cs e):=by
 intro pins s σ H Q I ⟨ρ,σd,hd,rs,p⟩;rw[eval_ListComp];unfold nT at p;cases c:f σd hd with
 |exc z h7=>rw[c]at p;exact p.elim
 |bad=>rw[c]at p;exact p.elim
 |ok d j =>
  rw[c]at p;cases d<;>try exact p.elim
  rename_i n
  simp only at p;cases O:j[n]? with
  |none=>rw[O]at p;exact p.elim
  |some cell =>
   rw[O]at p;cases cell with
   |dct l=>exact p.elim
   |dcT l=>exact p.elim
   |ob l=>exact p.elim
   |lst M =>
    simp only at p;obtain⟨cl,P,w,t⟩:=mz λy hy N=>I.ok.has y.1 (S.free y hy N);refine zYa rfl hs P S.kind S.names (thn (hi pins s σ H (λJ F=>∃i,Ext ρ H i F/\RS X.K i F σd j σ/\ub X.K i F J (im M) (λh=>h[n]? = some (.lst M))) I ⟨ρ,σd,hd,rs,by
     unfold Na;rw[c];dsimp[O];exact λJ R ρ' ex Z K=>⟨ρ',ex,Z,K⟩⟩) λv s1 P=>thn P λa1 s2 h2=>?_)
    obtain⟨it,fp,tn,J,F,rfl,u,T,V,hf,i,k,r,K⟩:=h2;generalize hG:(λh:Hd=>h[n]?=some (.lst M))=G at p K;cases L:dQ G g cs e (im M) .ie j with
    |exc z h7=>rw[L]at p;exact p.elim
    |bad=>rw[L]at p;exact p.elim
    |ok ds hdF =>
     rw[L]at p;refine oH hc S Y u T V hf r K w t L λC s' m R ρ' vs E hn I' W ex rh B hD U a0=>?_;refine⟨m,hn,λh' sb=>⟨.ref s2.heap.objs.size,R,?_,rfl,?_⟩⟩
     ·refine I'.turned .mN W ?_ (.inr<|XF<|ZS u.sz E) (λx c e z=>?_) λq hq z=>?_
      ·exact YA (Z3 u.lt E)
      ·obtain⟨v,o,ho,hd⟩:=u.cell x c e
       exact absurd (Z3 (ZI ho) E) .eY
      ·exact absurd (Z3 (ZI (u.pin q hq).1) E) .eY
     ·exact p _ vs R ρ' .od (rs.ext .od rh) (k.fresh B<|r.hp.free B) hD U a0
end
section
variable{X:Cx}
def vw{apos f:Pos}(Y:.g o F)(he:MF X e L)(m:autoParam (.eK "extend" X.env .ce=eval o X.env) Q3Q._auto_1)
  (u:autoParam (((.jI f).all .e7 && (.lX f).all .e3
   && decide .hT)=true) Q3Q._auto_1)
  (h:autoParam (.Bk=true) Q3Q._auto_1) (J:autoParam (.l4 X.env=(false,.az X.env)::starEach [] X.env) Q3Q._auto_1) :
  ME X (.Call (.dq "extend") [e] [] f) (nU F L):=by
 refine PE.imp (.u3 PySem.F.slot_list_extend PySem.F.type_list_extend yI Y (cx he dE J) m u h J) λσ H Q ⟨ρ,σd,W,P,E⟩=>⟨ρ,σd,W,P,?_⟩;unfold nU at E;refine (.av E).imp λv H1 zz=>?_;obtain⟨B,d,i,e1,r,M,b⟩:=zz;cases d<;>try exact b.elim
 rename_i n
 dsimp[rD,RD]at M;obtain⟨a,G,rfl⟩:=M;simp only at b;cases y:i[n]? with
 |none=>rw[y]at b;exact b.elim
 |some cell1 =>
  rw[y]at b;cases cell1 with
  |dct l=>exact b.elim
  |dcT l=>exact b.elim
  |ob l=>exact b.elim
  |lst l1 =>
   obtain⟨U,V,_⟩:=r.hp.cel n _ a y G;simp only at b;refine⟨.inl ⟨rfl,U,SqL.of V⟩,B,σd,i,r,?_⟩;cases C:L σd i with
   |exc z h7=>rw[C]at b;exact b.elim
   |bad=>rw[C]at b;exact b.elim
   |ok ds w =>
    rw[C]at b;dsimp[aE]at b;intro q N D p O k Z T I t;cases c:w[n]? with
    |none=>rw[c]at b;exact b.elim
    |some cell =>
     rw[c]at b;cases cell with
     |dct l=>exact b.elim
     |dcT l=>exact b.elim
     |ob l=>exact b.elim
     |lst l =>
      simp only at b;split at b
      ·rename_i S
       have j:=O.get G;obtain⟨s,A,g⟩:=k.hp.cel n _ a c j;refine⟨a,q,s,N,rfl,rfl,A,T,?_,?_⟩
       ·rw[<-g.length,<-t.length];exact ZM S .iv
       ·have I:n<w.length:=(.fV).1
        have R:=k.hp.write j I (RDs.append g t);have K:Ext p D p (upd D a<|.lst<|s++N):=Ext.write (ZK j);exact(b.ext O).at K (k.ext K R) .Y
      ·exact b.elim
end
end Fm
namespace L2
open PySem PySem.Spec PyProof.Rows PySem.W PySem.Builtin PySem.Builtin.ObjectAttr PySem.Builtin.Getset_descriptor
structure Xf(K:ZX)(D:Addr):Prop where
 ga:.u6 "__getattribute__"=some (some<|.cu "BaseException.__getattribute__")
 gt:.u6 "__getattr__"=some none
 cl:.u6 "__class__"=some (some .q1)
 be:PySem.W.subIn K (.ref D) (.type "BaseException")=some true
 ob:PySem.W.mroIn K D (.type "object")=some true
 is:(PySem.W.clsIn K D).isSome=true
section
variable{prog:N3}{w:N6}{A:P2}{E:.D}{K:ZX}{D:Addr}{h:Heap}{g:Array GenState}{d:Drawn}{t:Nat}{os:OsState}{a:Addr}{o:Obj}{vs:.bp}
end
end L2
namespace Fm
open PySem PySem.Spec L2 PySem.W PyProof.Rows
section
variable{X:Cx}{pos:Pos}
def ax{i:Nat}{x:Str}{f:EF}{pos':Pos}(he:.dm)(c:X.N.Nodup:=by exact Y4 .gT)(hi:autoParam (X.N[i]?=some x) Q3Q._auto_1)(d:Loc X.env.scope x:=by exact lc)(b:autoParam (.u5 X.env=pure false) Q3Q._auto_1)(a:autoParam (X.fn x=true\/X.env.scope.names.lookup x=some .local) Q0Q._auto_1):
  MS X (.fr .nS) (aG (gN i) f):=Ti c hi d he b a
def ay{i:Nat}{x:Str}(b:X.N.Nodup:=by exact Y4 .gT)(hi:autoParam (X.N[i]?=some x) Q3Q._auto_1)(c:Loc X.env.scope x:=by exact lc)(a:autoParam (X.fn x=true\/X.env.scope.names.lookup x=some .local) Q0Q._auto_1):MG X .eD (gN i):=P8 b hi c a
def dI(own:.aq)(hi:MI X tg a f)
  (d:∀{cl C s H ex},MG .rl tg g/\MTs .rl b cs/\ME .rl c e)
  (i:autoParam (X.calm=true) Q3Q._auto_1) (S:cu X scope own [] []:=by exact cu.a bQ.nil) (h:autoParam (∀x,foldedSetIterable a X.env x=pure x) Q2Q._auto_1):MF X (.hG c [⟨tg,a,b,0⟩]) (bD own.length [] f g cs e):=gQ i S hi (λ_ _ _ _ _=>d) h
end
section
variable{K:ZX}
structure OkD(P:N3)(w:N6)(K:ZX)(mg:.ap)(base:Heap)(x:Str)(st:Stmt)(k:Nat)(ps:.aq)(F:Fn)(np:Nat):Prop where
 ok:∀{f fd},Fun K x x st f fd->ie P w K mg base CX0 k f fd ps .it
def okd{st:Stmt}{ps:.aq}{k np n:Nat}{b:SF}(N:.aq)
  (body:∀{f:Addr} {a:S1} {A:P2} {outer:.d2} {s:P1} {H:Hp} {E:XK},gF k .qy->(.qy).units+24<cLine->MSs (.vt).nox .g1 b) (hp:autoParam (ps.length=np) Q3Q._auto_1) (d:autoParam (N.length=n) Q3Q._auto_1) (S:fM N ps .c9:=by exact fsc):.q x st (k+1) ps (bE np n b) np:=by
 subst hp d;exact⟨λF=>R1 F S λa A outer s H E c=>body c (Qg c)⟩
end
def Nc(p:T="list"\/T="tuple")(z:s.heap.get? it=some o)(C:o.cls=.type T)(hd:o.data=.seq vs.toArray n)(hi:IntsAre vs ns)(m:vs.length<64)
  (h:∀(h1 h':Heap) (e:Nat) (g:List S1) (c:.c),(∀b u,s.heap.get? b=some u->h1.get? b=some u)->(∀b u,h1.get? b=some u->h'.get? b=some u)->h'.get? h1.objs.size=some (seqObj "list" g.toArray e)->IntsAre g c->c.Perm ns->c.Pairwise (·<=·)->Q (.ref h1.objs.size) .bj) :
  wpAny .N A (call .ih [.ref it]) Q E s:=by
 refine zXe kind_sorted plain_sorted entry_sorted .tp ?_;unfold Builtin.«sorted»;refine zF .aa;refine zF (wpAny_collect_seq it p z C hd (λh1 r=>?_) (by rw[v3,YG];omega));have v:vs.toArray.toList=vs:=by simp
 rw[v];refine zF (zXj ?_ .s9);have d:(h1.push .mZ).get? h1.objs.size=some .mZ:=ZJ _ rfl;have keep:∀b u,h1.get? b=some u->(h1.push .mZ).get? b=some u:=λb u q=>.H q;generalize hG:h1.push .mZ=G at d keep;have B:G.objs.size=h1.objs.size+1:=by rw[<-hG,zYb]
 refine zF (YZ (YP slot_list_sort ⟨_,d,rfl⟩ entry_list_sort (list_sort_tree d hi m λf c y t x=>⟨_,rfl,?_⟩) .sV));refine z3 ⟨_,rfl,?_⟩;have a:h1.objs.size<G.objs.size:=by omega
 obtain⟨l,j⟩:∃l,(.Ac).get? h1.objs.size=some .Cz:=⟨_,XW d .lg⟩;have k:(((.Ac).push .ry).push .h7).get? h1.objs.size=some .Cz:=by
  rw[.bW (by rw[zYb,YW];exact ZN (ZZ a)),.bW (by rw[YW];exact ZN a)];exact j
 have fin:=XW k (λ_=>f);refine h h1 (sortedHeap G h1.objs.size vs f) _ f.toList c r (λb u q=>?_) .yk y t x;have i:b<h1.objs.size:=ZI q;have n1:b≠h1.objs.size:=ZN i;have n2:b<G.objs.size:=Z3 i a;unfold sortedHeap;rw[.b9 n1,.bW .zb,.bW .BC,.b9 n1];exact keep b u q
theorem ww:∀{us:List S1} {ns:.c},IntsAre us ns->bn .bN us
 |_,_,.nil=>.nil
 |_,_,.cons n t r=>.p4 (ww r)
/---/def TU(K:ZX):List V->Hp->VK->Prop:=λxs H Q=>∃(a:Addr) (ns:.c),xs=.bQ/\(SqL K H a .bN\/H a=some (.tup .bN))/\ns.length<64/\∀q,H q=none->Q .cH .yz
def FH:gE X .ih (TU X.K):=by
 intro pins s σ H L P Q I r h;obtain⟨a,c,rfl,k,K,q⟩:=h;obtain⟨u,rfl,A⟩:=bn.one r;cases (show u=Value.ref a from A);have d:∀{T:String} {o:Obj} {j:List S1} {n:Nat},T="list"\/T="tuple"->s.heap.get? a=some o->o.cls=.type T->o.data=.seq j.toArray n->bn (c.map V.int) j->.a2 (call (.cu "sorted") .bQ) .bL X.xe s:=λ{T o j n} x g i f v=>by
  have M:j.length=c.length:=by have:=v.length;simpa using this.symm
  refine Nc x g i f (L2.jW v) .a λp R e l F y z J D B C=>?_;have G:=yQ B C;subst G;have t:Inv X pins σ H { s with heap:=p }:=I.kept y;have O:(iG c).length=c.length:=(iM c).length_eq;exact⟨.ref p.objs.size,_,t.laid (o:=.lst ((iG c).map V.int)) z .o ⟨by rw[ZA,YG];omega,l,e,ww D,J⟩,rfl,q _ (t.hok.fresh .o)⟩
 rcases k with k|E
 ·obtain⟨m,b,w,N⟩:=I.list k
  obtain⟨o,g,i,n,f⟩:=w.isList;exact d .a8 g i f b
 ·obtain⟨m,b,o,g,i,n,f⟩:=kT I.hok E
  exact d .dn g i f b
theorem TV{K:ZX}:∀l:List Int,.aw .fK (l.map V.int)
 |[]=>RDs.nil
 |x::l=>.hO (TV l)
def Nd(j:.pA)(hm:.pc)(u:MQ X a d)(h:autoParam (.aS X.env=(false,.aW X.env)::starEach [] X.env) Q3Q._auto_1):MF X (.bU .lL) (rX d):=by
 refine PE.imp (jV FH j hm .T (cx u dE h) (he:=h)) λσ H Q ⟨ρ,σd,i,o,b⟩=>⟨ρ,σd,i,o,?_⟩;unfold rX at b;cases e:d σd i with
 |exc x B=>rw[e]at b;exact b
 |bad=>rw[e]at b;exact b
 |ok l r =>
  rw[e]at b;dsimp[aE]at b;intro v C m y g ⟨q,A,n,k,rvs⟩;subst n;cases c:dG l with
  |none=>rw[c]at b;exact b.elim
  |some s =>
   rw[c]at b;simp only at b;split at b
   ·rename_i t
    have f:=jY rvs c;subst f;exact⟨q,s,rfl,k,t,λw z=>b.mk y g (TV _) w z⟩
   ·exact b.elim
section
variable{A:P2}{E:.D}{s:P1}{κ:Type}[DecidableEq κ]{knd:KeyKind prog w κ}
end
section
variable{X:Cx}
def Qr{apos f:Pos}(ho:.g o J)(he:.g e G)(s:autoParam (.eK "extend" X.env .ce=eval o X.env) Q3Q._auto_1)
  (A:autoParam (((.jI f).all .e7 && (.lX f).all .e3
   && decide .hT)=true) Q3Q._auto_1)
  (p:autoParam (.Bk=true) Q3Q._auto_1) (L:autoParam (.l4 X.env=(false,.az X.env)::starEach [] X.env) Q3Q._auto_1) :
  ME X (.Call (.dq "extend") [e] [] f) (CA J G):=by
 refine PE.imp (.u3 PySem.F.slot_list_extend PySem.F.type_list_extend yI ho (cx he dE L) s A p L) λσ H Q ⟨ρ,σd,hd,S,I⟩=>⟨ρ,σd,hd,S,?_⟩;unfold CA at I;refine (.gg I).imp λv H1 zz=>?_;obtain⟨E,d,u,e1,w,N,h⟩:=zz;cases d<;>try exact h.elim
 rename_i n
 dsimp[rD,RD]at N;obtain⟨a,K,rfl⟩:=N;simp only at h;cases C:u[n]? with
 |none=>rw[C]at h;exact h.elim
 |some cell1 =>
  rw[C]at h;cases cell1 with
  |dct l=>exact h.elim
  |dcT l=>exact h.elim
  |ob l=>exact h.elim
  |lst l1 =>
   obtain⟨Y,hv,_⟩:=w.hp.cel n _ a C K;simp only at h;refine⟨.inl ⟨rfl,Y,SqL.of hv⟩,E,σd,u,w,?_⟩;refine (.gg h).imp λv2 F zz=>?_;obtain⟨t,P,r,e2,i,B,g⟩:=zz;cases P<;>try exact g.elim
   rename_i m
   dsimp[rD,RD]at B;obtain⟨b,V,rfl⟩:=B;simp only at g;cases c:r[n]? with
   |none=>rw[c]at g;exact g.elim
   |some cell =>
    cases d:r[m]? with
    |none=>rw[c,d]at g;cases cell<;>exact g.elim
    |some cell' =>
     rw[c,d]at g;cases cell<;>cases cell'<;>try exact g.elim
     rename_i l k
     simp only at g;split at g
     ·rename_i W
      have q:=e2.get K;obtain⟨y,D,j⟩:=i.hp.cel n _ a c q;obtain⟨O,T,z⟩:=i.hp.cel m _ b d V;refine⟨a,b,y,O,rfl,rfl,D,T,?_,?_⟩
      ·rw[<-j.length,<-z.length];exact ZM W .iv
      ·have Z:n<r.length:=(.fV).1
       have U:=i.hp.write q Z (RDs.append j z);have M:Ext t F t (upd F a<|.lst<|y++O):=Ext.write (ZK q);exact g.at M (i.ext M U) .Y
     ·exact g.elim
end
def Nf(a:s.TypeIs .cH "set")(h:Q false s):.ao (Builtin.List.listLengthHint .cH) Q E s:=by
 unfold Builtin.List.listLengthHint;refine zF (wpAny_specialOf a PySem.F.slot_set_len.lookup ?_);generalize hid:("set.__len__" : String)=c
 wp_delta
 rw[show splitId c=some ("set","__len__") from by subst hid;decide +kernel];subst hid;refine zF (wpAny_isInstance (b:=true) a .sf ?_);refine XJ (λz=>.ed .b) λ_=>?_;refine XJ (λ_=>?_) λz=>absurd .T z;exact zF (wpAny_typeOf a<|z3 h)
def FI(J:.bT)(E:.oW)(B:.o8)(S:Addr)(v:S≠q)(res:S1)(c:Nat)(K:s.heap.get? S=some { cls:=.type "list",data:=.seq #[] c })
  (hR:∀d (acc:.bp) p C,(∀b o,b≠S->s.heap.get? b=some o->d.heap.get? b=some o)->d.os=s.os->d.gens=s.gens->d.heap.get? S=some { cls:=.type "list",dict:=none,data:=.seq acc p,slots := #[] }->IntsAre acc.toList C->C.Perm ns->R (.ok<|.ret res) d) :
  wpAny .N A.in1 (Builtin.List.listExtendWith (.ref S) .hF res) (λfin d=>match fin with | .done f=>R (.ok f) d | .again p=>p.quiet=true/\codeAny .N A p R d) (λe d=>R (.error e) d) s:=by
 have V:s.TypeIs .hF "set" := by obtain⟨es,ep,t,e,_⟩:=E;exact⟨_,e,rfl⟩
 have H:S<s.heap.objs.size:=ZI K;unfold Builtin.List.listExtendWith;refine zF (wpAny_typeOf V ?_);have O:Builtin.List.listSameRef (.ref S) .cH=false:=by simp[Builtin.List.listSameRef,v]
 have U:(Value.type "set" == Value.type "list")=false:=by decide
 have X:(Value.type "set" == Value.type "tuple")=false:=by decide
 dsimp[O,U,X,Bool.or_false,YH,XZ];refine zF (Mz E B λI L dr fp P St k T Z W M fin=>?_);have u:S∉fp:=λz=>(Z S z).elim v λz=>.ed (Nat.not_le.mpr H);have x:∀(h:Heap) (i:Nat),St 0 h->(∀b o,b≠S->s.heap.get? b=some o->h.get? b=some o)->h.get? S=some { cls:=.type "list",data:=.seq #[] i }->
   codeAny .N A (.builtin "list.extend.loop" ⟨[.ref S,.ref I,res],[]⟩) R { s with heap:=h,drawn:=dr }:=by
  intro h i G N a;refine codeAny_extend_loopS (W A.in1 J).toS (zXu B) S u res ns.length 0 _ #[] i rfl .ey G a (ItemsOf.nil _) λd l p F D y=>?_;obtain⟨C,Y,i2⟩:=fin l y;refine hR d l p C (λb o m e=>F.heap b o (λj=>?_) (N b o m e)) F.os F.gens D Y i2;rcases xB.mp j with Q|j
  ·exact m Q
  ·rw[YE.mp j]at e
   exact absurd .dh (zZf.mpr T)
 have a := k _ _ K;refine zF (YZ (Nf (by obtain⟨es,ep,t,e,_⟩:=E;exact⟨_,k _ _ e,rfl⟩) ?_));refine XJ (λ_=>?_) (λ_=>z3 ⟨zXw PySem.F.plain_extend_loop _,x _ c M (λb o _ e=>k b o e) a⟩);refine zF (zYv (zF ?_));refine zF (wpAny_updateSeq a rfl ?_);have g := Y6 (.hJ (·.push Value.none)) a rfl;refine wpAny_updateSeq g rfl ?_;have n := Y6 (.hJ (·.pop)) g rfl;have r:∀b o,b≠S->L.get? b=some o->((L.update S (.hJ (·.push Value.none))).update S (.hJ (·.pop))).get? b=some o:=λb o m e=>(zYl _ _<|XO m).trans ((zYl _ _<|XO m).trans e);exact z3 ⟨zXw PySem.F.plain_extend_loop _,x _ _ ((W A.in1 J).frame 0 _ _ M λb B o e=>r b o (λz=>u (z▸B)) e) (λb o m e=>r b o m (k b o e)) n⟩
def C2(B:.bT)(z:.oW)(D:.o8)
  (h:∀a (vs:List S1) d,(∀b o,s.heap.get? b=some o->a.heap.get? b=some o)->a.os=s.os->a.gens=s.gens->IntsAre vs d->d.Perm ns->R vs a):.ao (collect .cH) R E s:=by
 have v:q<s.heap.objs.size:=by obtain⟨H,G,t,e,_⟩:=z;exact ZI e
 unfold collect;refine zF (wpAny_runValue (zYo PySem.F.entry_proto_collect ?_));rw[zZv PySem.F.plain_proto_collect _];refine zF (YV ?_);refine z3 ⟨zXw PySem.F.plain_list_iadd _,zYo PySem.F.entry_list_iadd ?_⟩;rw[zZv PySem.F.plain_list_iadd _];have F:(s.heap.push { cls:=.type "list",data:=.seq ([]:List S1).toArray }).get? s.heap.objs.size=some { cls:=.type "list",data:=.seq #[] 0 }:=ZJ _ rfl;have u:=FI (s:={ s with heap:=s.heap.push { cls:=.type "list",data:=.seq ([]:List S1).toArray } })
  (R:=λ(r:Result) (a:P1)=>∃(c:.bp) (i:Nat) (d:.c),r=.ok (.ret .dD)/\(∀b o,s.heap.get? b=some o->a.heap.get? b=some o)/\a.os=s.os/\a.gens=s.gens/\a.heap.get? s.heap.objs.size=some { cls:=.type "list",dict:=none,data:=.seq c i,slots := #[] }/\IntsAre c.toList d/\d.Perm ns)
  B (z.kept λo e=>.H e) D s.heap.objs.size (YA v) .dD 0 F
  (λa c i d k p j g l n=>⟨c,i,d,rfl,λb o e=>k b o (ZN .dh) .ex,p,j,g,l,n⟩)
 refine zZg u (λfin a x=>?_) λe a x=>?_
 ·cases fin with
  |done f =>
   obtain⟨c,i,d,e,k,p,j,g,l,n⟩:=x;cases e;exact zF (wpAny_load g<|z3<|h a _ d k p j l n)
  |again c₁ =>
   refine⟨x.1,zYy x.2 λr m y=>?_⟩;obtain⟨c,i,d,rfl,k,p,j,g,l,n⟩:=y;exact zF (wpAny_load g<|z3<|h m _ d k p j l n)
 ·obtain⟨_,_,_,C,_⟩:=x
  cases C
def Ng(v:.bT)(H:.oW)(o:ns.length<64)
  (h:∀(a:P1) (h':Heap) (e:Nat) (j:List S1) (d:.c),(∀b u,s.heap.get? b=some u->a.heap.get? b=some u)->a.os=s.os->a.gens=s.gens->(∀b u,a.heap.get? b=some u->h'.get? b=some u)->h'.get? a.heap.objs.size=some (seqObj "list" j.toArray e)->IntsAre j d->d.Perm ns->d.Pairwise (·<=·)->Q (.ref a.heap.objs.size) { a with heap:=h' }) :
  wpAny .N A (call .ih [.ref q]) Q E s:=by
 refine zXe kind_sorted plain_sorted entry_sorted .tp ?_;unfold Builtin.«sorted»;refine zF .aa;refine zF (C2 v H (Z3 o .b) λa g I t D y p r=>?_);have J:g.length=ns.length:=by rw[IntsAre.length p,r.length_eq]
 refine zF (zXj ?_ .s9);have f:(a.heap.push .m2).get? a.heap.objs.size=some .m2:=ZJ _ rfl;have keep:∀b u,a.heap.get? b=some u->(a.heap.push .m2).get? b=some u:=λb u z=>.H z;generalize hG:a.heap.push .m2=G at f keep;have F:G.objs.size=a.heap.objs.size+1:=by rw[<-hG,zYb]
 refine zF (YZ (YP slot_list_sort ⟨_,f,rfl⟩ entry_list_sort (list_sort_tree f p .a λi d C x B=>⟨_,rfl,?_⟩) .sV));refine z3 ⟨_,rfl,?_⟩;have c:a.heap.objs.size<G.objs.size:=by omega
 obtain⟨n,l⟩:∃n,(.zi).get? a.heap.objs.size=some .Cy:=⟨_,XW f .lg⟩;have m:(((.zi).push (seqObj "tuple" g.toArray 0)).push .h7).get? a.heap.objs.size=some .Cy:=by
  rw[.bW (by rw[zYb,YW];exact ZN (ZZ c)),.bW (by rw[YW];exact ZN c)];exact l
 have fin:=XW m (λ_=>i);refine h a (sortedHeap G a.heap.objs.size g i) _ i.toList d t D y (λb u z=>?_) .yk C (x.trans r) B;have k:b<a.heap.objs.size:=ZI z;have n1:b≠a.heap.objs.size:=ZN k;have n2:b<G.objs.size:=Z3 k c;unfold sortedHeap;rw[.b9 n1,.bW .zb,.bW .BC,.b9 n1];exact keep b u z
section
variable{pos p pos2 p2:Pos}
/---/def WU(X:Cx):List V->Hp->VK->Prop:=λxs H Q=>∃(a:Addr) (ns:.c),xs=.bQ/\SqL X.K H a .bN/\ns.length<64/\∀q,H q=none->Q .cH (.aA q<|.ext<|.pZ q<|gp ns)
def J6(m:.aU):gE X (.type "set") (WU X):=by
 intro pins s σ H w A Q I r h;obtain⟨a,c,rfl,g,n,q⟩:=h;obtain⟨u,rfl,j⟩:=bn.one r;cases (show u=Value.ref a from j);obtain⟨l,b,i,y⟩:=I.list g;refine CG (.du m) i.isList (by simpa using L2.jW b) (Z3 (show c.length+1<65 by omega) .b) λB x d k=>?_;exact⟨.ref s.heap.objs.size,_,I.laid (o:=.ext (.pZ s.heap.objs.size<|gp c)) k .o ⟨d,by obtain⟨C,z,t,e,_⟩:=d;exact⟨_,e⟩,λv D f k=>f.kept k⟩,rfl,q _ .dJ⟩
/---/def TW(X:Cx):List V->Hp->VK->Prop:=λxs H Q=>∃(a:Addr) (ns:.c),xs=.bQ/\H a=some (.ext<|.pZ a ns)/\ns.length<64/\∀q,H q=none->Q .cH .yz
def FJ(A:.aU):gE X .ih (TW X):=by
 intro pins s σ H D E Q I r h;obtain⟨a,c,rfl,y,g,q⟩:=h;obtain⟨u,rfl,l⟩:=bn.one r;cases (show u=Value.ref a from l);have w:eR X.prog X.w (jB X.w) a c s.heap:=(I.hok a _ y).1;refine Ng (.du A) w g λd G e f z j x n k C v m t=>?_;have B:=yQ m t;subst B;have b:Inv X pins σ H { s with heap:=d.heap,toks:=d.toks }:=I.kept j;have i:.be H d:=⟨b.ok,x.trans b.os,by rw[n];exact b.bare,b.base,b.loc,b.cell,b.free,b.freeC,b.pin,b.hok,b.len⟩;have F:(iG c).length=c.length:=(iM c).length_eq;exact⟨.ref d.heap.objs.size,_,i.laid (o:=.lst ((iG c).map V.int)) k .o ⟨by rw[ZA,YG];omega,f,e,ww v,C⟩,rfl,q _ (i.hok.fresh .o)⟩
end
end Fm
namespace Fm
open PySem PySem.Spec L2
open PyProof.Rows (Call_)
section
variable{X:Cx}{pos p p2 pos2:Pos}
end
section
variable{prog:N3}{w:N6}{A:P2}{E:.D}{s:P1}
def pR(t:It2 L s.heap it l i)(u:Sq2 L s.heap l a)(b:a[i]?=some x)
  (q:∀h',It2 L h' it l (i+1)->Heap.SameBut it s.heap h'->Q x .bj):.ao .mG Q E s:=by
 cases L
 ·exact kA t u b q
 ·exact wpAny_nextOf_list_item t u b q
def y9(b:.bT)(t:It2 L s.heap it l i)(u:Sq2 L s.heap l a)(d:a[i]?=none)
  (c:.C2):.ao .mG Q E s:=by
 cases L
 ·exact lC b t u d c
 ·exact wpAny_nextOf_list_end b t u d c
end
section
variable{La Lb:Bool}{prog:N3}{w:N6}{A:P2}{E:.D}{s:P1}{z TI TO i1 i2 l1 l2:Addr}{k:Nat}{xs ys:.bp}{a b:S1}
def J7{Q:.D}(Z:.oX)(u:.oY)(Y:.oQ)(X:.o6)
  (t1:.o4) (t2:.o3) (U:.pa) (W:.o9) (ex:xs[k]?=some x) (S:ys[k]?=some y)
  (q:∀h',IsZip h' z TI TO .AT->IsPair h' TO x y->It2 La h' i1 l1 (k + 1)->It2 Lb h' i2 l2 (k + 1)->IsPair h' s.heap.objs.size x y->h'.objs.size=s.heap.objs.size + 1->
   (∀c o,c≠z->c≠TO->c≠i1->c≠i2->s.heap.get? c=some o->h'.get? c=some o)->Q .dD .bj) :
  wpAny .N A .xE (λfin T=>∃v,fin=.done (.ret v)/\Q v T) E s:=by
 show wpAny _ _ .AY _ _ _;refine zF (XR u rfl (x:=.bool false) rfl ?_);show wpAny _ _ .AX _ _ _;refine zF (XR u rfl (x:=.ref TI) rfl (zF (X5 Y rfl ?_)));show wpAny _ _ .wD _ _ _;unfold Builtin.SmallTypes.ownedTupleIsFree;refine zF (zF<|XR u rfl (x:=.none) rfl .aa);dsimp[XH];refine zF (zYv (zF (XR u rfl (x:=.ref TO) rfl (zF (zZk u .d λg1 j h=>zF ?_)))));replace j:IsZip g1 z TI TO .ellipsis:=j;dsimp[List.zipIdx_cons,List.zipIdx_nil,zYn,List.forIn_nil];refine zF .pG;show wpAny _ _ .xm _ _ _;refine zF (pR (t1.extBut h.extBut Z.i1z) (mC U h.extBut Z.l1z) ex λg2 H m=>z3 ?_);have t:IsPair g2 TO a b:=m.extBut _ _ Z.TOi1 (.hQ Z.TOz X);refine zF (X5 t rfl<|zF<|wpAny_updateSeq_pair t λg3 l n=>zF (wpAny_letGo .aa));replace l:IsPair g3 TO x b:=l;refine zF .pG;show wpAny _ _ .xl _ _ _;refine zF (pR (((t2.extBut h.extBut Z.i2z).extBut m.extBut Z.i12.symm).extBut n.extBut Z.TOi2.symm) (mC (mC (mC W h.extBut Z.l2z) m.extBut Z.l2i1) n.extBut Z.l2TO) S λg4 M r=>z3 ?_);have B:IsPair g4 TO x b:=r.extBut _ _ Z.TOi2 l;refine zF (X5 B rfl<|zF<|wpAny_updateSeq_pair B λd g p=>zF (wpAny_letGo<|z3 .aa));replace g:IsPair d TO x y:=g;refine zF (X5 g rfl (zF (wpAny_newTuple ?_)));have N:d.objs.size=s.heap.objs.size:=by rw[p.1,r.1,n.1,m.1,h.1]
 have C:IsZip d z TI TO .ellipsis:=p.extBut _ _ Z.TOz.symm (r.extBut _ _ Z.i2z.symm<|n.extBut _ _ Z.TOz.symm<|m.extBut _ _ Z.i1z.symm j);have R:∀c o,c≠z->c≠TO->c≠i1->c≠i2->s.heap.get? c=some o->d.get? c=some o:=λc o n1 n2 n3 n4 e=>p.extBut _ _ n2 (r.extBut _ _ n4<|n.extBut _ _ n2<|m.extBut _ _ n3<|.hQ n1 e);have G:It2 La d i1 l1 (k+1):=((H.extBut n.extBut Z.TOi1.symm).extBut r.extBut Z.i12).extBut p.extBut Z.TOi1.symm;have K:It2 Lb d i2 l2 (k+1):=M.extBut p.extBut Z.TOi2.symm;have O:z<d.objs.size:=ZI C;show wpAny _ _ (Builtin.SmallTypes.ownedTupleHandOut .i1 (.ref d.objs.size) >>= λ_=>_) _ _ _;unfold Builtin.SmallTypes.ownedTupleHandOut;have I:IsZip (d.push { cls:=.type "tuple",data:=.seq #[x,y] }) z TI TO .ellipsis:=.H C;refine zF (zF (zZk I .d λV i J=>?_));replace i:IsZip V z TI TO (rawInt d.objs.size):=i;refine zZk i .d λD f L=>?_;replace f:IsZip D z TI TO (rawInt d.objs.size):=f;have F:∀c o,c≠z->d.get? c=some o->D.get? c=some o:=λc o n1 e=>L.extBut _ _ n1 (J.extBut _ _ n1 .ex);have gT:IsPair D d.objs.size x y:=L.extBut _ _ (YA O) (J.extBut _ _ (YA O) .ha);have P:D.objs.size=d.objs.size+1:=by rw[L.1,J.1,YI]
 rw[N]at f gT P;refine z3 ⟨_,rfl,?_⟩;show Q (.ref d.objs.size) _;rw[N];exact q D f (F _ _ Z.TOz g) (G.at λo e=>F _ o Z.i1z e) (K.at λo e=>F _ o Z.i2z e) gT P λc o n1 n2 n3 n4 e=>F c o n1 (R c o n1 n2 n3 n4 e)
def Nh(C:.bT)(Z:.oX)(l:.oY)(M:.oQ)(K:.o6)
  (G:.o4) (P:.o3) (B:.pa) (J:.o9) (nd:xs[k]?=none\/ys[k]?=none)
  (q:∀h' e,(∀c o,c≠z->c≠TO->c≠i1->c≠i2->s.heap.get? c=some o->h'.get? c=some o)->(∃o,h'.get? e=some o/\o.cls=.type "StopIteration")->E (.ref e) .bj) :
  wpAny .N A .xE Q E s:=by
 show wpAny _ _ .AY _ _ _;refine zF (XR l rfl (x:=.bool false) rfl ?_);show wpAny _ _ .AX _ _ _;refine zF (XR l rfl (x:=.ref TI) rfl (zF (X5 M rfl ?_)));show wpAny _ _ .wD _ _ _;unfold Builtin.SmallTypes.ownedTupleIsFree;refine zF (zF<|XR l rfl (x:=.none) rfl .aa);dsimp[XH];refine zF (zYv (zF (XR l rfl (x:=.ref TO) rfl (zF (zZk l .d λO f d=>zF ?_)))));replace f:IsZip O z TI TO .ellipsis:=f;dsimp[List.zipIdx_cons,List.zipIdx_nil,zYn,List.forIn_nil];refine zF .pG;show wpAny _ _ .xm _ _ _;cases t:xs[k]? with
 |none =>
  refine zF (y9 C .A5 .CD t λy e g u=>?_);obtain⟨r,i,m⟩:=u;have p:IsZip y z TI TO .ellipsis:=g _ _ Z.i1z.symm f;have ne:e≠z:=λv=>by subst v;rw[p]at i;cases i;simp at m
  exact zZk p .d λH _ h=>q H e (λc o n1 _ n3 _ v=>.hQ n1 (g _ _ n3<|d.extBut _ _ n1 v)) ⟨r,.hQ ne i,m⟩
 |some x =>
  have I:ys[k]?=none:=nd.resolve_left (by rw[t];exact Option.some_ne_none _);refine zF (pR .A5 .CD t λy L g=>z3 ?_);have j:IsPair y TO a b:=g.extBut _ _ Z.TOi1 (d.extBut _ _ Z.TOz K);refine zF (X5 j rfl<|zF<|wpAny_updateSeq_pair j λH S h=>zF (wpAny_letGo .aa));refine zF .pG;show wpAny _ _ .xl _ _ _;refine zF (y9 C (((P.extBut d.extBut Z.i2z).extBut g.extBut Z.i12.symm).extBut h.extBut Z.TOi2.symm) (mC (mC (mC J d.extBut Z.l2z) g.extBut Z.l2i1) h.extBut Z.l2TO) I λR e F u=>?_);obtain⟨r,i,m⟩:=u;have n:IsZip R z TI TO .ellipsis:=F _ _ Z.i2z.symm (.hQ Z.TOz.symm<|g.extBut _ _ Z.i1z.symm f);have ne:e≠z:=λv=>by subst v;rw[n]at i;cases i;simp at m
  exact zZk n .d λN _ D=>q N e (λc o n1 n2 n3 n4 v=>D.extBut _ _ n1 (F _ _ n4<|.hQ n2<|g.extBut _ _ n3<|d.extBut _ _ n1 v)) ⟨r,D.extBut _ _ ne i,m⟩
def AM(Z:.oX)(e:.oY)(B:.oQ)(v:.o6)
  (g:.o4) (t:.o3) (l:.pa) (p:.o9) (ex:xs[k]?=some x) (h:ys[k]?=some y)
  (q:∀h',IsZip h' z TI TO .AT->IsPair h' TO x y->It2 La h' i1 l1 (k + 1)->It2 Lb h' i2 l2 (k + 1)->IsPair h' s.heap.objs.size x y->h'.objs.size=s.heap.objs.size + 1->
   (∀c o,c≠z->c≠TO->c≠i1->c≠i2->s.heap.get? c=some o->h'.get? c=some o)->Q (some .dD) .bj) :
  wpAny .N A (pyNext .i1) Q E s:=by
 have d:s.TypeIs .i1 "zip" := ⟨_,e,rfl⟩;unfold pyNext;refine zF (zYc (YL (name:=Str.ofString "__next__") d F.slot_zip_next (YP F.slot_zip_next d F.entry_zip_next ?_ .CV)));exact J7 Z e B v g t l p ex h λh' r n i j m f u=>z3 (q h' r n i j m f u)
def C3(i:.bT)(Z:.oX)(f:.oY)(p:.oQ)(n:.o6)
  (g:.o4) (m:.o3) (h:.pa) (j:.o9) (nd:xs[k]?=none\/ys[k]?=none)
  (q:∀h',(∀c o,c≠z->c≠TO->c≠i1->c≠i2->s.heap.get? c=some o->h'.get? c=some o)->Q none .bj):.ao (pyNext .i1) Q E s:=by
 have d:s.TypeIs (.ref z) "zip" := ⟨_,f,rfl⟩;unfold pyNext;refine zF (zYc (YL (name:=Str.ofString "__next__") d F.slot_zip_next (YP F.slot_zip_next d F.entry_zip_next ?_ .CV)));refine Nh i Z f p n g m h j nd λh' e t l=>?_;obtain⟨o,r,u⟩:=l;exact zF (wpAny_isInstance (T := "StopIteration") (b:=true) ⟨o,r,u⟩ isSubtype_stop<|z3<|q _ t)
end
/---/def zm1(La:Bool)(h:Heap)(l1:Addr):Heap:=h.push { cls:=.type (itN La),data:=.fields #[.ref l1,.int 0 0] }
/---/def zm2(La Lb:Bool)(h:Heap)(l1 l2:Addr):Heap:=(zm1 La h l1).push { cls:=.type (itN Lb),data:=.fields #[.ref l2,.int 0 0] }
/---/def zm3(La Lb:Bool)(h:Heap)(l1 l2:Addr):Heap:=(zm2 La Lb h l1 l2).push { cls:=.type "tuple",data:=.seq #[.ref h.objs.size,.ref (zm1 La h l1).objs.size] }
/---/def zm4(La Lb:Bool)(h:Heap)(l1 l2:Addr):Heap:=(zm3 La Lb h l1 l2).push { cls:=.type "tuple",data:=.seq #[.none,.none] }
/---/def zm5(La Lb:Bool)(h:Heap)(l1 l2:Addr):Heap:=(zm4 La Lb h l1 l2).push { cls:=.type "zip",data:=.fields #[.none,.bool false,.bool false,.ref (zm2 La Lb h l1 l2).objs.size,.ref (zm3 La Lb h l1 l2).objs.size] }
def AN{L:Bool}{h:Heap}{l:Addr}{xs:.bp}{o:Obj}(u:.pB):Sq2 L (h.push o) l xs:=by
 cases L<;>(obtain⟨o,a,r⟩:=u;exact⟨o,.H a,r⟩)
def sqT{h:Heap}{l:Addr}{xs:.bp}(u:Sq2 false h l xs):Heap.IsTuple h l xs:=u
def sqL{h:Heap}{l:Addr}{xs:.bp}(u:Sq2 true h l xs):Heap.IsList h l xs:=u
set_option maxHeartbeats 4000000 in
def FK(La Lb:Bool)(e c:Addr)(xs ys:.bp):
  Meets (Builtin.«zip.__new__» ⟨[.type "zip",.ref e,.ref c],[]⟩) (λ_ R s=>Sq2 La s.heap e xs/\Sq2 Lb s.heap c ys/\R (.ok<|.ret<|.ref (zm4 La Lb s.heap e c).objs.size) { s with heap:=zm5 La Lb s.heap e c }) :=
 .of_wp λprog w A R s h=>by
  obtain⟨k,g,d,j,i⟩:=s;obtain⟨b,a,h⟩:=h;have f:=sub_zip;cases La<;>cases Lb
  ·wp_walk using XY (sqT b),XY (sqT<|AN a)
   exact⟨_,rfl,h⟩
  ·wp_walk using XY (sqT b),zZs (sqL<|AN a)
   exact⟨_,rfl,h⟩
  ·wp_walk using zZs (sqL b),XY (sqT<|AN a)
   exact⟨_,rfl,h⟩
  ·wp_walk using zZs (sqL b),zZs (sqL<|AN a)
   exact⟨_,rfl,h⟩
section
variable{La Lb:Bool}{prog:N3}{w:N6}{A:P2}{E:.D}{s:P1}
def J8(l:Sq2 La s.heap a xs)(n:Sq2 Lb s.heap b ys)
  (q:∀h',IsZip h' (s.heap.objs.size + 4) .B3 (s.heap.objs.size + 3) .none->IsPair h' .B3 .dD (.ref .ij)->
   IsPair h' .ss .none .none->It2 La h' s.heap.objs.size a 0->It2 Lb h' .bI b 0->h'.objs.size=s.heap.objs.size+5->
   (∀c o,s.heap.get? c=some o->h'.get? c=some o)->Q (.ref<|s.heap.objs.size+4) .bj) :
  wpAny .N A (call (.type "zip") [.ref a,.ref b]) Q E s:=by
 refine callType_new F.called_zip .b (F.typeCall_zip_2 _ _) (F.newCall_zip_2 _ _) (λobj=>F.args_object_init_3 obj _ _) F.entry_zip_new (FK La Lb a b xs ys) ⟨l,n,?_⟩;have f:(zm1 La s.heap a).objs.size=s.heap.objs.size+1:=YI ..;have d:(.BR).objs.size=s.heap.objs.size+2:=(YI ..).trans (by rw[f]);have g:(.BQ).objs.size=s.heap.objs.size+3:=(YI ..).trans (by rw[d]);have h:(zm4 La Lb s.heap a b).objs.size=s.heap.objs.size+4:=(YI ..).trans (by rw[g]);have k:(.eU).objs.size=s.heap.objs.size+5:=(YI ..).trans (by rw[h]);have i:∀{c o},(zm1 La s.heap a).get? c=some o->(.eU).get? c=some o:=λe=>.H (.H<|.H .ex);have r:∀{c o},(.BR).get? c=some o->(.eU).get? c=some o:=λe=>.H (.H .ex);have p:∀{c o},(.BQ).get? c=some o->(.eU).get? c=some o:=λe=>.H .ex;have m:(.eU).get? s.heap.objs.size=some { cls:=.type (itN La),data:=.fields #[.ref a,.int 0 0] }:=i .ha;have t:(.eU).get? .bI=some { cls:=.type (itN Lb),data:=.fields #[.ref b,.int 0 0] }:=by rw[<-f];exact r .ha
 have v:(.eU).get? (s.heap.objs.size+2)=some { cls:=.type "tuple",data:=.seq #[.ref s.heap.objs.size,.ref .bI] }:=by rw[<-d,<-f];exact p .ha
 have u:(.eU).get? .ss=some { cls:=.type "tuple",data:=.seq #[.none,.none] }:=by rw[<-g];exact .H .ha
 have j:(.eU).get? (s.heap.objs.size+4)=some { cls:=.type "zip",data:=.fields #[.none,.bool false,.bool false,.ref (s.heap.objs.size+2),.ref .ss] }:=by rw[<-h,<-d,<-g];exact ZJ _ rfl
 show _/\_;rw[h];exact⟨⟨_,j,rfl⟩,q _ j v u (It2.mk m) (It2.mk t) k λc o e=>i .ex⟩
end
/---/def Itm(La Lb:Bool)(K:ZX)(a b:Addr):It :=
 ⟨λi H=>∃xs ys x y,SqM La K H a xs/\SqM Lb K H b ys/\xs[i]?=some x/\ys[i]?=some y,λi H x H'=>∃q v u,x=.ref q/\H q=none/\H'=upd H q (.tup [v,u])/\(∀xs,SqM La K H a xs->xs[i]?=some v)/\∀ys,SqM Lb K H b ys->ys[i]?=some u,λi H=>∃xs ys,SqM La K H a xs/\SqM Lb K H b ys/\min xs.length ys.length=i⟩
theorem J9{K:ZX}(z TI TO j l a b:Addr)(Z:ZipApart z TI TO j l a b):
  Cd P w K (.Tuple elts k pos) (Itm La Lb K a b) [z,TI,TO,j,l] z (λi h=>IsZip h z TI TO .none/\IsPair h TI (.ref j) .hc/\(∃x y,IsPair h TO x y)/\It2 La h j a i/\It2 Lb h l b i) where
 mem:=by simp
 obj:=λi h t c g=>by
  obtain⟨L,p,⟨x,y,J⟩,M,N⟩:=t;have f:c=z\/c=TI\/c=TO\/c=j\/c=l:=by simpa using g
  rcases f with rfl|rfl|rfl|rfl|rfl
  ·exact⟨_,L,λv e=>by
    have F:Data.fields _=Data.cell v:=e;cases F⟩
  ·exact⟨_,p,λv e=>by
    have F:Data.seq _ _=Data.cell v:=e;cases F⟩
  ·exact⟨_,J,λv e=>by
    have F:Data.seq _ _=Data.cell v:=e;cases F⟩
  ·exact M.obj
  ·exact N.obj
 keep:=λi h h' t A=>by
  obtain⟨L,p,⟨x,y,J⟩,M,N⟩:=t;exact⟨A z .d _ L,A TI .d _ p,⟨x,y,A TO .d _ J⟩,M.at (λo e=>A j .d o e),N.at (λo e=>A l .d o e)⟩
 item:=by
  intro X hP hw hK g i pins s σ H E I Q t hg;subst hP hw hK;obtain⟨L,p,⟨x0,y0,J⟩,M,N⟩:=t;obtain⟨xs,ys,x,y,D,G,hx,hy⟩:=hg;obtain⟨C,O,p1,a3⟩:=nR I D;obtain⟨B,R,p2,a4⟩:=nR I G;obtain⟨u,hu,ru⟩:=O.get hx;obtain⟨v,hv,rv⟩:=R.get hy;have T1:Sq2 La s.heap a C.toArray:=p1;have T2:Sq2 Lb s.heap b B.toArray:=p2;have ld:=λc (h:c∈[z,TI,TO,j,l])=>Q c h;refine AM Z L p J M N T1 T2 (by simpa using hu) (by simpa using hv) λh' az aO a1 a2 aN a5 A=>⟨_,rfl,wpAny_letOwnedTupleGo_zip az λh2 a0 U=>?_⟩;have zl:z<s.heap.objs.size:=ZI L;have Il:TI<s.heap.objs.size:=ZI p;have Ol:TO<s.heap.objs.size:=ZI J;have l1:j<s.heap.objs.size:=by obtain⟨_,e,_⟩:=M.obj;exact ZI e
  have l2:l<s.heap.objs.size:=by obtain⟨_,e,_⟩:=N.obj;exact ZI e
  have T:H s.heap.objs.size=none:=I.hok.fresh .o;have keep:∀c o,c∉[z,TO,j,l]->s.heap.get? c=some o->h2.get? c=some o:=λc o g e=>by
   have f:c≠z/\c≠TO/\c≠j/\c≠l:=by simpa using g
   exact(U.2 c f.1).trans (A c o f.1 f.2.1 f.2.2.1 f.2.2.2 e)
  have nw:IsPair h2 s.heap.objs.size u v:=(U.2 _<|YA zl).trans aN;have sub:∀c∈[z,TO,j,l],c∈[z,TI,TO,j,l]:=λc g=>by simp at g⊢;rcases g with e|e|e|e<;>simp[e]
  have V:IsPair h2 TI (.ref j) .hc:=keep TI _ (by simp;exact⟨Z.TIz,Z.TITO,Z.TIi1,Z.TIi2⟩) p;refine⟨.ref s.heap.objs.size,.aA s.heap.objs.size (.tup [x,y]),?_,rfl,⟨_,x,y,rfl,T,rfl,λzs S=>by rw[AD I S D];exact hx,λzs S=>by rw[AD I S G];exact hy⟩,
   ⟨a0,V,⟨_,_,(U.2 _ Z.TOz).trans aO⟩,(a1.at λo e=>(U.2 _ Z.i1z).trans e),(a2.at λo e=>(U.2 _ Z.i2z).trans e)⟩,λc g=>?_⟩
  ·suffices I2:L2.Inv X pins σ (.pY<|.tup [x,y]) { s with heap:=h2,gens:=s.gens,drawn:=s.drawn,toks:=s.toks } from I2
   have Y:∀c W,H c=some W->c∉[z,TO,j,l]:=λc W e q=>by rw[(Q c<|sub c q).1]at e;cases e
   refine I.step (g':=s.gens) (d':=s.drawn) (t':=s.toks) (ch:=[z,TO,j,l]) (λc g=>?_) (λc o _ _ g q _=>keep c o g q) (λc o _ _ g q _=>⟨o.slots,keep c o g q⟩) (λc o _ q n=>?_) (λc o g q=>⟨o,keep c o g q⟩)
    (λc zs q=>?_) (λc o W q=>?_) (λc ps q=>⟨#[],?_⟩) (λm hm=>?_) (λc W q=>?_) I.bare
   ·have:=Q c (sub c g)
    exact⟨this.2.2.2.1,this.2.1,this.2.2.2.2.1,this.2.2.2.2.2⟩
   ·rw[aS (ZN<|ZI q)];exact n
   ·rw[aS (cr q T)];exact q
   ·rw[aS (cr q T)];exact q
   ·rw[aS (cr q T),q];simp
   ·obtain⟨o,es,ep,ho,r⟩:=hm
    exact⟨o,es,ep,keep _ o (λq=>(Q _<|sub _ q).2.1 rfl) ho,r⟩
   ·by_cases hb:c=s.heap.objs.size
    ·subst hb
     rw[bw]at q;cases q;exact⟨by show 2<=sizeLine;rw[YG];decide,[u,v],.cons ru (.cons rv .nil),_,nw,rfl,_,rfl⟩
    ·rw[aS hb]at q
     refine(I.hok c W q).stay (λd v' hd' e=>?_) (λd e=>by rw[aS (cr e T)];exact e) λd zs e=>by rw[aS (cr e T)];exact e
     rcases hd' with F|F
     ·subst F;exact keep d v' (Y d _ q) e
     ·exact keep d v' (Y d _ F) e
  ·have f:c=z\/c=TI\/c=TO\/c=j\/c=l:=by simpa using g
   have:c≠s.heap.objs.size:=by rcases f with e|e|e|e|e<;>rw[e]<;>exact ZN (by assumption)
   rw[aS this];exact(Q c g).1
 done:=by
  intro X hP hw hK g i pins s σ H E I Q t hg;subst hP hw hK;obtain⟨L,p,⟨x0,y0,J⟩,M,N⟩:=t;obtain⟨xs,ys,D,G,hi⟩:=hg;obtain⟨C,O,p1,a3⟩:=nR I D;obtain⟨B,R,p2,a4⟩:=nR I G;have T1:Sq2 La s.heap a C.toArray:=p1;have T2:Sq2 Lb s.heap b B.toArray:=p2;have e1:=O.length;have e2:=R.length;have nd:C.toArray[i]?=none\/B.toArray[i]?=none:=by
   rcases Nat.le_total xs.length ys.length with h|h
   ·exact .inl (zZc .S)
   ·exact .inr (zZc .S)
  have sub:∀c∈[z,TO,j,l],c∈[z,TI,TO,j,l]:=λc g=>by simp at g⊢;rcases g with e|e|e|e<;>simp[e]
  refine C3 (.du g) Z L p J M N T1 T2 nd λh' A=>⟨rfl,Qp (t':=s.toks) (ch:=[z,TO,j,l]) I (λc o g e=>?_) λc g=>Q c (sub c g)⟩;have f:c≠z/\c≠TO/\c≠j/\c≠l:=by simpa using g
  exact A c o f.1 f.2.1 f.2.2.1 f.2.2.2 e
 self:=λ_ _ _ _ _ t h=>wpAny_pyIter_zip t.1 h
section
variable{X:Cx}{pos p tp:Pos}{elts:.aL}{tk:Nat}
/---/def iZm(K:ZX)(ta:TA):TI:=λσ H R=>ta σ H λvs H1=>∃La Lb a b xs ys,vs=[.ref a,.ref b]/\SqM La K H1 a xs/\SqM Lb K H1 b ys/\(xs.length<=sizeLine->ys.length<=sizeLine->R (Itm La Lb K a b) H1)
def Qs(N:.U "zip")(hm:X.mg "zip"=none)(K:PA X [a,b] A)(O:autoParam (.jM X.env=.mp) Q3Q._auto_1)(i:autoParam (.jO X.env=.nf) Q3Q._auto_1):PI X .jv (.jH<|.bw "zip") (iZm X.K A):=by
 intro pins s σ H R I h;refine Call_ (kQ I N hm PyProof.Rows.boot_zip (XG (thn (K pos pins s σ H _ I h) λus d ⟨Y,z,f,D,q1⟩=>?_) (by rw[O,i]) (by rw[i];rfl)));obtain⟨La,Lb,k,j,W,ys,e,n,v,q⟩:=q1;subst e;cases D with
 |cons r u =>
  cases u with
  |cons U u =>
   cases u;cases r;cases U;obtain⟨m,P,E,t⟩:=nR f n;obtain⟨l,V,S,o⟩:=nR f v;have w:Sq2 La d.heap k m.toArray:=E;have B:Sq2 Lb d.heap j l.toArray:=S;have la:k<d.heap.objs.size:=w.lt;have lb:j<d.heap.objs.size:=B.lt;refine J8 w B λy x J G M T F C=>?_;refine wpAny_pyIter_zip (s:={ d with heap:=y }) x ?_;have Q:Inv X pins σ z { d with heap:=y }:=f.kept (t':=d.toks) C;have Z:ZipApart (d.heap.objs.size+4) (d.heap.objs.size+2) (d.heap.objs.size+3) d.heap.objs.size (d.heap.objs.size+1) k j:=by
    constructor<;>dsimp[Addr] at *<;>omega
   refine⟨d.heap.objs.size+4,[d.heap.objs.size+4,d.heap.objs.size+2,d.heap.objs.size+3,d.heap.objs.size,d.heap.objs.size+1],_,_,z,rfl,Q,J9 _ _ _ _ _ k j Z,⟨x,J,⟨_,_,G⟩,M,T⟩,λc L=>?_,q t o⟩;have g:d.heap.objs.size<=c:=by
    have:c=d.heap.objs.size+4\/c=d.heap.objs.size+2\/c=d.heap.objs.size+3\/c=d.heap.objs.size\/c=d.heap.objs.size+1:=by simpa using L
    rcases this with e|e|e|e|e<;>rw[e]<;>first|exact X0 _ _|exact ZL _
   exact f.fpOk g (f.hok.fresh g)
theorem Ka{K:ZX}(G:∀ρ' a hd',Ext ρ H ρ' a->RH K ρ' a hd'->dC g l hd'->∃vs,SqM La K a q vs/\RDs K ρ' a l vs)(I:∀ρ' a hd',Ext ρ H ρ' a->RH K ρ' a hd'->dC g' e hd'->∃vs,SqM Lb K a E vs/\RDs K ρ' a e vs)(hz:l.length<=sizeLine):
  ub K ρ H (Itm La Lb K q E) ((l.zip e).map λp=>.tup .ll) (λh=>dC g l h/\dC g' e h) where
 go:=λρ' a hd' i d n k j L=>by
  obtain⟨m,A⟩:=z0.mp L;have M:i<l.length:=by simp at m;omega
  have u:i<e.length:=by simp at m;omega
  have Q:d=.tup [l[i],e[i]]:=by rw[<-A];simp
  subst Q;obtain⟨vs,s,z⟩:=G ρ' a hd' n k j.1;obtain⟨b,c,f⟩:=I ρ' a hd' n k j.2;obtain⟨v,J,P⟩:=z.get (i:=i) (d:=l[i]) (by simp[M]);obtain⟨B,r,t⟩:=f.get (i:=i) (d:=e[i]) (by simp[u]);refine⟨⟨vs,b,v,B,s,c,J,r⟩,λx R y=>?_⟩;obtain⟨q2,S,T,rfl,N,rfl,y,O⟩:=y;have C:=y vs s;have F:=O b c;rw[J]at C;rw[r]at F;cases C;cases F;have w:=cA (o:=HO.tup [v,B]) N;refine⟨w,?_⟩;dsimp[RD];exact⟨q2,_,rfl,bw,RDs.cons (P.mono<|.cv w) (.hH<|t.mono<|.cv w)⟩
 stop:=λρ' a hd' n k j=>by
  obtain⟨vs,s,z⟩:=G ρ' a hd' n k j.1;obtain⟨b,c,f⟩:=I ρ' a hd' n k j.2;exact⟨vs,b,s,c,by rw[<-z.length,<-f.length];simp⟩
 sz:=by simp;omega
def C4{K:ZX}(r:.aP)(i:.dY)(e:j2 hd d=some (l,g)):
  ∃(L:Bool) (q:Addr),v=.ref q/\(∃vs,SqM L K H q vs/\RDs K ρ H l vs)/\∀ρ' f hd',Ext ρ H ρ' f->RH K ρ' f hd'->dC g l hd'->∃vs,SqM L K f q vs/\RDs K ρ' f l vs:=by
 cases d<;>dsimp[j2]at e<;>try (cases e;done)
 ·cases e
  dsimp[RD]at i;obtain⟨q,vs,rfl,b,a⟩:=i;exact⟨false,q,rfl,⟨vs,SqT.of b,a⟩,λρ' f hd' h m _=>⟨vs,SqT.of ((r.kp h).tup q vs b),a.mono (r.kp h)⟩⟩
 ·rename_i n
  cases c:hd[n]? with
  |none=>rw[c]at e;cases e
  |some cell =>
   rw[c]at e;cases cell with
   |dct _=>cases e
   |dcT _=>cases e
   |ob _=>cases e
   |lst t =>
    cases e;dsimp[RD]at i;obtain⟨q,b,rfl⟩:=i;obtain⟨vs,x,a⟩:=r.cel n _ q c b;refine⟨true,q,rfl,⟨vs,SqL.of x,a⟩,λρ' f hd' h m s=>?_⟩;obtain⟨k,o,j⟩:=m.cel n _ q s (h.get b);exact⟨k,SqL.of o,j⟩
 ·rename_i c t
  split at e
  ·rename_i w
   cases e;dsimp[RD]at i;rcases i with ⟨u,_⟩|⟨_,q,vs,rfl,b,a⟩
   ·exact absurd w u
   ·exact⟨false,q,rfl,⟨vs,.inr b,a⟩,λρ' f hd' h m _=>⟨vs,.inr b,a.mono (r.kp h)⟩⟩
  ·cases e
/---/def Ik(K:ZX)(ρ:.I)(H:Hp)(σd:Sd)(σ:St)(f g:EF)(hd:Hd)(R:.lJ):Prop:=match f σd hd with
 |.ok x h1=>match g σd h1 with
  |.ok y h2=>match j2 h2 x,j2 h2 y with
   |some (l,o),some (k,o')=>∀J H' ρ',Ext ρ H ρ' H'->RS K ρ' H' σd h2 σ->ub K ρ' H' J .kg .rL->R J H'
   |_,_=>False
  |_=>False
 |_=>False
/---/def VG(K:ZX)(f g:EF):TI:=λσ H R=>∃ρ σd hd,RS K ρ H σd hd σ/\Ik K ρ H σd σ f g hd R
/---/def MIZ(X:Cx)(tg e:Expr)(f g:EF):Prop:=PI X tg e (VG X.K f g)
def AO(V:.U "zip")(hm:X.mg "zip"=none)(S:.g a f)(P:.g b g)(G:autoParam (.jM X.env=.mp) Q3Q._auto_1)(i:autoParam (.jO X.env=.nf) Q3Q._auto_1):MIZ X .jv (.jH<|.bw "zip") f g:=by
 refine PI.imp (Qs V hm (cx S (cx P dE i) (by rw[G,i])) G i) λσ H R ⟨ρ,σd,I,N,c⟩=>⟨ρ,σd,I,N,?_⟩;unfold Ik at c;cases e:f σd I with
 |exc x L=>rw[e]at c;exact c
 |bad=>rw[e]at c;exact c
 |ok d m =>
  rw[e]at c;simp only at c;intro v H1 y u n A;refine⟨y,σd,m,n,?_⟩;cases B:g σd m with
  |exc x L=>rw[B]at c;exact c
  |bad=>rw[B]at c;exact c
  |ok M r =>
   rw[B]at c;simp only at c;intro v2 K t j h E;have A:=RD.mono (n.hp.kp j) A;cases s:j2 r d with
   |none=>rw[s]at c;exact c.elim
   |some O =>
    obtain⟨l,o⟩:=O;cases C:j2 r M with
    |none=>rw[s,C]at c;exact c.elim
    |some Y =>
     obtain⟨k,o'⟩:=Y;rw[s,C]at c;simp only at c;obtain⟨La,q,rfl,⟨U,J,w⟩,Z⟩:=C4 h.hp A s;obtain⟨Lb,T,rfl,⟨z,D,F⟩,w2⟩:=C4 h.hp E C;exact⟨La,Lb,q,T,U,z,rfl,J,D,λQ W=>c _ K t (u.trans j) h (Ka Z w2 (by rw[w.length];exact Q))⟩
end
section
variable{X:Cx}{pos:Pos}{tg:Expr}
def Im{f V:EF}(hp:.lx)(hc:.aU)(hi:MIZ X tg u f V)(hg:MG X tg g)(hb:MSs X body b)
  (hs:autoParam (∀x,foldedSetIterable u X.env x=pure x) Q2Q._auto_1):MS X (.For tg u body [] pos) (yU f V g b):=by
 refine PS.imp .Cl λEn σ H ⟨ρ,σd,hd,rs,p⟩=>⟨ρ,σd,hd,rs,?_⟩;unfold yU at p;unfold Ik;cases e:f σd hd with
 |exc x h'=>rw[e]at p;exact p
 |bad=>rw[e]at p;exact p
 |ok d Y =>
  rw[e]at p;simp only at p⊢;cases W:V σd Y with
  |exc x h'=>rw[W]at p;exact p
  |bad=>rw[W]at p;exact p
  |ok d2 I =>
   rw[W]at p;simp only at p⊢;cases R:j2 I d with
   |none=>rw[R]at p;exact p.elim
   |some p1 =>
    obtain⟨l0,o⟩:=p1;cases A:j2 I d2 with
    |none=>rw[R,A]at p;exact p.elim
    |some p2 =>
     obtain⟨k0,o'⟩:=p2;rw[R,A]at p;simp only at p ⊢;intro J H1 L S T P;generalize hG:(λh:Hd=>dC o l0 h/\dC o' k0 h)=G at p P;generalize ((l0.zip k0).map λp=>D.tup .ll)=l at p P;refine⟨λi m σ' B=>∃ρ' n hd',Ext L H1 ρ' B/\RS X.K ρ' B n hd' σ'/\i<=l.length/\m=l.length - i/\cF X.K ρ' B (qv G g b (l.drop i) n hd') En,
      ⟨l.length,L,σd,I,Ext.refl,T,YR _,by simp,by simpa using cF.ext S p⟩,?_⟩
     rintro i m σ' B ⟨ρ',n,hd',Q,w,a0,rfl,a⟩
     by_cases M:i<l.length
     ·have U:l[i]?=some l[i]:=by simp[M]
      rw[zXd M]at a;unfold qv at a
      by_cases F:G hd'
      ·rw[z4 F]at a
       obtain⟨go,yl⟩:=P.go ρ' B hd' i _ Q w.hp F U;refine .inr ⟨go,λK C=>∃t j z,Ext L H1 t C/\RS X.K t C j z K/\cF X.K t C (qv G g b (l.drop (i + 1)) j z) En,
        λK C ⟨t,j,z,a1,a2,a3⟩=>⟨l.length-(i+1),by omega,t,j,z,a1,a2,M,rfl,a3⟩,λx C y=>?_⟩
       obtain⟨sm,rx⟩:=yl x C y;cases c:g l[i] n with
       |none=>rw[c]at a;exact a.elim
       |some j =>
        rw[c]at a;simp only at a;refine⟨ρ',n,hd',l[i],j,w.same sm,rx,c,λK Z=>⟨ρ',j,hd',Z,?_⟩⟩;have s:Ext ρ' B ρ' C:=Ext.same sm;cases A:b j hd' with
        |nx σ3 N=>rw[A]at a;exact λE O r k q=>⟨r,σ3,N,Q.trans .iW,q,cF.ext .iW a⟩
        |ct σ3 N=>rw[A]at a;exact λE O r k q=>⟨r,σ3,N,Q.trans .iW,q,cF.ext .iW a⟩
        |bk σ3 N=>rw[A]at a;exact λE O r k q=>a E O r .iW q
        |rt d N=>rw[A]at a;exact λv O r k q rv=>a v O r .iW q rv
        |exc x σ3 N=>rw[A]at a;exact a
        |bad=>rw[A]at a;exact a
      ·rw[y3 F]at a;exact a.elim
     ·have e0:i=l.length:=by omega
      subst e0;rw[List.drop_length]at a;unfold qv at a
      by_cases F:G hd'
      ·rw[z4 F]at a
       exact .inl ⟨P.stop ρ' B hd' Q w.hp F,a σ' B ρ' Ext.refl w⟩
      ·rw[y3 F]at a;exact a.elim
end
end Fm
namespace L2
open PySem PySem.Spec PyProof.Rows
structure Cov(X:Cx)(pins:.J)(H:Hp)(B:Heap):Prop where
 trk:∀b u,H b=some u->∃o,B.get? b=some o
 old:∀b o,X.s₀.heap.get? b=some o->b∉frs X.stack->b∉X.ex->∃o,B.get? b=some o
 pin:∀p∈X.pn++pins,∃o,B.get? p.1=some o
section
variable{σ:St}
/---/def XAt(X:Cx)(pins:.J)(σ:St)(H:Hp)(a C:Addr)(s':P1):Prop :=
 (∃s1 h' vs,Inv X pins σ H s1/\Heap.MadeExcOf s1.heap h' a .bt vs/\s' = { s1 with heap:=h' })\/
 (∃B t,Inv X pins σ H s'/\Heap.FlyingW B X.stack a .bt .hk s'.heap/\Cov X pins H B)
/---/def XP(X:Cx)(E:.lH)(e:S1)(s':P1):Prop:=∃pins σ H a C,e=.ref a/\XAt X pins σ H a C s'/\E C H
/---/def CX1(P:N3)(w:N6):CXT:=λouter H s E e s'=>∃a C B t H',e=.ref a/\s'.os=s.os/\AllBare s'.gens/\Un (frs outer) [] H H' s.heap s'.heap/\HOk P w H' s'.heap/\
 Heap.FlyingW B outer a .bt .hk s'.heap/\(∀b u,H' b=some u->∃o,B.get? b=some o)/\(∀b o,s.heap.get? b=some o->b∉frs outer->∃o,B.get? b=some o)/\E .bt none H'
end
section
variable{np cpos pos:Pos}{rest:.aL}
end
section
variable{K:ZX}
end
section
variable{σ:St}
end
section
variable{np cp vp ap hp pos:Pos}
end
end L2
namespace Fm
open PySem PySem.Spec L2 PyProof.Rows
theorem C5:∀(a b:.c),HT.lexLt a b=lexLt a b
 |[],[]=>rfl
 |[],_::_=>rfl
 |_::_,[]=>rfl
 |x::xs,y::ys=>by
  show (if x=y then HT.lexLt xs ys else decide (x<y))=_;rw[C5 xs ys];rfl
def TX{K:ZX}:Og K Pq (Vm K):=by
 intro ρ H σd t σ d k v w Q m i c p;unfold Pq at p;cases d<;>try exact p.elim
 cases k<;>try exact p.elim
 rename_i n o
 dsimp[ltT]at p;cases e:dG n with
 |none=>rw[e]at p;exact p.elim
 |some r =>
  cases h:dG o with
  |none=>rw[e,h]at p;exact p.elim
  |some j =>
   rw[e,h]at p;dsimp[RD]at i c;obtain⟨a,s,rfl,q,f⟩:=i;obtain⟨b,u,rfl,l,g⟩:=c;refine⟨a,b,r,j,rfl,rfl,SqT.of (by rw[q,jY f e]),SqT.of (by rw[l,jY g h]),?_⟩;rw[C5];exact p.here m .Y
section
variable{X:Cx}{pos:Pos}{scope:Scope}{own capn:.aq}{caps:.i}
def Ni(hc:.aU)(S:.f6)(hi:MIZ X tg a f f2)
  (a1:∀cl C s H ex,MG .b1 tg g/\MTs .b1 A cs/\ME .b1 E e)
  (hs:autoParam (∀x,foldedSetIterable a X.env x=pure x) Q2Q._auto_1):MF X (.hG E [⟨tg,a,A,0⟩]) (wp own.length caps f f2 g cs e):=by
 intro pins s σ H Q I ⟨ρ,σd,hd,rs,p⟩;rw[eval_ListComp];unfold wp at p;cases c:f σd hd with
 |exc z h7=>rw[c]at p;exact p.elim
 |bad=>rw[c]at p;exact p.elim
 |ok d a4 =>
  rw[c]at p;simp only at p;cases M:f2 σd a4 with
  |exc z h7=>rw[M]at p;exact p.elim
  |bad=>rw[M]at p;exact p.elim
  |ok d2 i =>
   rw[M]at p;simp only at p;cases F:j2 i d with
   |none=>rw[F]at p;exact p.elim
   |some p1 =>
    obtain⟨O,o⟩:=p1;cases Y:j2 i d2 with
    |none=>rw[F,Y]at p;exact p.elim
    |some p2 =>
     obtain⟨P,o'⟩:=p2;rw[F,Y]at p;simp only at p;obtain⟨cl,U,w,r⟩:=mz (scope:=scope) (env:=X.env) λy hy R=>I.ok.has y.1 (S.free y hy R);refine zYa (use:=none) rfl hs U S.kind S.names (thn (hi pins s σ H (λJ L=>∃j,Ext ρ H j L/\RS X.K j L σd i σ/\ub X.K j L J ((O.zip P).map λp=>.tup .ll) (λh=>dC o O h/\dC o' P h)) I ⟨ρ,σd,hd,rs,by
      unfold Ik;rw[c];dsimp[M,F,Y];exact λJ V ρ' ex a2 u=>⟨ρ',ex,a2,u⟩⟩) λv s1 U=>thn U λa6 s2 h2=>?_)
     obtain⟨it,fp,tn,J,L,rfl,t,T,Z,hf,j,k,n,u⟩:=h2;generalize hG:(λh:Hd=>dC o O h/\dC o' P h)=G at p u;generalize ((O.zip P).map λp=>D.tup .ll)=l at p u;cases N:dQ G g cs e l .ie i with
     |exc z h7=>rw[N]at p;exact p.elim
     |bad=>rw[N]at p;exact p.elim
     |ok ds hdF =>
      rw[N]at p;refine oH (RR:=λa3 C=>compPost .af X.A X.xe none .bL a3 C) hc S a1 t T Z hf n u w r N λC s' m V ρ' vs K hn I' a0 ex rh B hD W a5=>?_;refine⟨m,hn,λh' sb=>⟨.ref s2.heap.objs.size,V,?_,rfl,?_⟩⟩
      ·refine I'.turned (it:=C) (t':=s'.toks) .mN a0 ?_ (.inr<|XF<|ZS t.sz K) (λx c e z=>?_) λq hq z=>?_
       ·exact YA (Z3 t.lt K)
       ·obtain⟨v,o,ho,hd⟩:=t.cell x c e
        exact absurd (Z3 (ZI ho) K) .eY
       ·exact absurd (Z3 (ZI (t.pin q hq).1) K) .eY
      ·exact p _ vs V ρ' .od (rs.ext .od rh) (k.fresh B<|n.hp.free B) hD W a5
end
section
variable{X:Cx}{pos p:Pos}
theorem C6{K:ZX}{ρ:.I}{H:Hp}:∀{l:List D} {vs:List V} {ss:.aQ},RDs K ρ H l vs->pv l=some ss->vs=ss.map λx=>V.str (toS x)
 |[],_,is,r,e=>by dsimp[pv]at e;cases e;dsimp[RDs]at r;subst r;rfl
 |d::l,_,is,r,e=>by
  dsimp[RDs]at r;obtain⟨v,vs,rfl,h1,a⟩:=r;cases d<;>dsimp[pv]at e<;>try (cases e;done)
  rename_i i
  cases c:pv l with
  |none=>rw[c]at e;cases e
  |some b =>
   rw[c]at e;cases e;dsimp[RD]at h1;rw[h1,C6 a c];rfl
theorem wx:∀{ss:.aQ} {us:List S1},bn .rE us->StrsAre us (ss.map toS)
 |[],_,.nil=>.nil
 |x::ss,_,.cons r t=>by obtain⟨k,rfl⟩:=r;exact .cons _ _ (wx t)
def qy(a b:.i):(toS a++toS b:Str)=toS (a++b):=by
 show (⟨a.toArray++b.toArray⟩:Str)=⟨(a++b).toArray⟩;rw[List.append_toArray]
end
section
variable(K:ZX)(mg:.ap)
/---/def spX(F:Fn)(np:Nat):Sp:=λvs H _ E=>∃ρ hd ds,RH K ρ H hd/\RDs K ρ H ds vs/\ds.length=np/\
 ∃c l hd' C,F ds hd=.exc (.exn c l) hd'/\mg .ts=some .bt/\∀H' ρ',Ext ρ H ρ' H'->RH K ρ' H' hd'->E .bt none H'
end
section
variable{K:ZX}
end
structure Xg(P:N3)(w:N6)(K:ZX)(mg:.ap)(base:Heap)(x:Str)(k np:Nat)(F:Fn):Prop where
 ex:∃f fd ps,mg x=some .ak/\.dv .ak=true/\jU K fd ps []/\.eJ (CX1 P w) k f fd ps (spX K mg F np)
section
variable{pos p:Pos}
end
section
variable{K:ZX}
end
section
variable{X:Cx}{pos p:Pos}
end
end Fm
namespace L2
open PySem PySem.Spec PyProof.Rows
end L2
namespace Fm
open PySem PySem.Spec L2 PyProof.Rows
section
variable(K:ZX)(mg:.ap)
/---/def XC(ρ:.I)(H:Hp)(E:.lH)(x:D)(hd:Hd):Prop:=∃c l C,x=.exn c l/\mg .ts=some .bt/\∀H' ρ',Ext ρ H ρ' H'->RH K ρ' H' hd->E C H'
/---/def VH(R:VR α β)(ρ:.I)(H:Hp)(σd:Sd)(σ:L2.St)(r:Res α)(E:.lH)(Q:.jq):Prop:=match r with
 |.ok a hd'=>∀b H' ρ',Ext ρ H ρ' H'->RS K ρ' H' σd hd' σ->R ρ' H' a b->Q b H'
 |.exc x hd'=>XC K mg ρ H E x hd'
 |.bad=>False
/---/def VI(R:VR α β)(E:.lH)(f:Sd->Hd->Res α):L2.St->Hp->(β->Hp->Prop)->Prop:=λσ H Q=>∃ρ σd hd,RS K ρ H σd hd σ/\VH K mg R ρ H σd σ .i6 E Q
/---/def spY(F:Fn)(np:Nat):Sp:=λvs H Q E=>∃ρ hd ds,RH K ρ H hd/\RDs K ρ H ds vs/\ds.length=np/\match F ds hd with
 |.ok d hd'=>∀v H' ρ',Ext ρ H ρ' H'->RH K ρ' H' hd'->RD K ρ' H' d v->Q v H'
 |.exc x hd'=>XC K mg ρ H (λC H'=>E (.ref C) none H') x hd'
 |.bad=>False
end
section
variable{K:ZX}{R:VR α β}
end
/---/def NE(X:Cx)(E:.lH)(e:Expr)(f:EF):Prop:=.w e (VI X.K X.mg .ew E f)
structure Xh(P:N3)(w:N6)(K:ZX)(mg:.ap)(base:Heap)(x:Str)(k np:Nat)(F:Fn):Prop where
 ex:∃f fd ps,mg x=some .ak/\.dv .ak=true/\jU K fd ps []/\.eJ (CX1 P w) k f fd ps (spY K mg F np)
section
variable{pos p:Pos}
end
end Fm
namespace L2
open PySem PySem.Spec PyProof.Rows
end L2
namespace Fm
open PySem PySem.Spec L2 PyProof.Rows
section
variable{K:ZX}
end
section
variable{X:Cx}{pos p:Pos}
end
section
variable{X:Cx}{pos p:Pos}
/---/def spM(C:Addr):Sp:=λvs H Q _=>∃a,vs=.bQ/\H a=some (RZ a C)/\∀H',kR H H'->Q .ej H'
structure Xi(P:N3)(w:N6)(K:ZX)(mg:.ap)(base:Heap)(x:Str)(k:Nat)(C:Addr):Prop where
 ex:∃f fd ps,mg x=some .ak/\.dv .ak=true/\jU K fd ps []/\.eJ CX0 k f fd ps (spM C)
end
end Fm
namespace L2
open PySem PySem.Spec PyProof.Rows
/---/def Its(x:Str):It:=⟨λi _=>i<x.cps.size,λi H v H'=>H'=H/\∃c,x.cps[i]?=some c/\v=.str ⟨#[c]⟩,λi _=>x.cps.size<=i⟩
theorem Nj{K:ZX}(it:Addr)(x:Str)(t:Tok):Cd P w K tg (Its x) [it] it (λi h=>h.IsStrIter it "str_ascii_iterator" x t i) where
 mem:=by simp
 obj:=λi h a b g=>by
  have e:b=it:=by simpa using g
  subst e;obtain⟨o,e,c,d⟩:=a;exact⟨o,e,λv z=>by rw[d]at z;cases z⟩
 keep:=λi h A a k=>let ⟨o,M,r⟩:=a;⟨o,k it .d o M,r⟩
 item:=by
  intro X n p C D i pins s σ H E I l a f;subst n p C;obtain⟨m,y,J,B,q,u⟩:=l it .d;have f:i<x.cps.size:=f;have F:x.cps[i]?=some x.cps[i]:=Y2 f;refine wpAny_pyNext_ascii_item a F λA j L=>?_;have G:Inv X pins σ H { s with heap:=A,toks:=s.toks+1 }:=I.turned (λb o g e=>(L.2 b g).trans e) m y B q u;obtain⟨o,e,c,d⟩:=id j;exact⟨_,rfl,HL e c d .b ⟨.str ⟨#[x.cps[i]]⟩,H,G,⟨_,rfl⟩,⟨rfl,_,F,rfl⟩,j,λb g=>(l b g).1⟩⟩
 done:=by
  intro X n p C D i pins s σ H E I l a f;subst n p C;obtain⟨m,y,J,B,q,u⟩:=l it .d;have f:x.cps.size<=i:=f;exact wpAny_pyNext_ascii_end (.du D) a (zZc f) λA N=>⟨rfl,I.turned (λb o g e=>N b o g e) m y B q u⟩
 self:=λ_ _ _ _ _ a h=>wpAny_pyIter_striter_ascii a h
section
variable{X:Cx}{tg:Expr}
def TY{f:TE}(g:.w l f):PI X tg l (λσ H R=>f σ H λv d=>∃x:Str,v=.str x/\x.cps.all (· < 128)=true/\R (Its x) d):=by
 intro pins s σ H R I h;refine thn (g pins s σ H _ I h) λv a ⟨y,d,c,j,q1⟩=>?_;obtain⟨x,e,k,q⟩:=q1;subst e;obtain⟨t,rfl⟩:=j;refine wpAny_pyIter_ascii k ?_;refine⟨a.heap.objs.size,[a.heap.objs.size],_,_,d,rfl,c.kept λb o e=>.H e,Nj _ x t,⟨_,ZJ _ rfl,rfl,rfl⟩,λb i=>?_,q⟩;have e:b=a.heap.objs.size:=by simpa using i
 subst e;exact c.fpOk .o .s8
end
end L2
namespace Fm
open PySem PySem.Spec L2 PySem.W PyProof.Rows
section
variable{X:Cx}{pos p:Pos}{tg:Expr}
def C7:(1000000:Nat)<=sizeLine:=by rw[YG];decide
theorem Nk{K:ZX}(l:.i)(hz:.uO):wc K ρ H (Its .X) .kw none where
 go:=λρ' h hd' i d j g _ b=>by
  have a:i<l.length:=by
   have:=(z0.mp b).1;simpa using this
  refine⟨by show i<(l.toArray).size;rw[v3];exact a,λx k y=>?_⟩;obtain⟨rfl,c,f,rfl⟩:=y;have f:l[i]?=some c:=by
   have:l.toArray[i]?=some c:=f;simpa using this
  have e:d=.str [c]:=by
   rw[ZQ,f]at b;exact(ZT b).symm
  subst e;exact⟨kR.refl _,by dsimp[RD];rfl⟩
 stop:=λρ' h hd' j g _=>by
  show (l.toArray).size<=_;simp
 sz:=by
  have:=C7;simp;omega
def TZ(h:.dm):MI X tg e (LE f):=by
 refine PI.imp (TY h) λσ H R ⟨ρ,σd,i,k,p⟩=>⟨ρ,σd,i,k,?_⟩;unfold LE at p;cases e:f σd i with
 |exc x o=>rw[e]at p;exact p
 |bad=>rw[e]at p;exact p
 |ok d m =>
  rw[e]at p;dsimp[aE]at p;intro v n b c a j;cases d<;>try exact p.elim
  rename_i l
  simp only at p;dsimp[rD,RD]at j;split at p
  ·rename_i g
   exact⟨toS l,j,by show (l.toArray).all (· < 128)=true;rw[List.all_toArray];exact g.2,p _ n b c a (Nk l g.1)⟩
  ·exact p.elim
/---/def VJ:R2:=λx y H Q=>∃i j:Str,x=.str i/\y=.str j/\i.length+j.length<=sizeLine/\Q (.str<|i++j) H
def fP(a:.i):(toS a).length=a.length:=by
 show a.toArray.size=_;rw[v3]
def Qt{K:ZX}:Og K cV VJ:=by
 intro ρ H σd i σ d k v w Q h f e c;cases d<;>try exact c.elim
 cases k<;>try exact c.elim
 rename_i a b
 dsimp[RD]at f e;dsimp[cV]at c;split at c
 ·rename_i g
  refine⟨toS a,toS b,f,e,by rw[fP,fP];exact ZM g C7,?_⟩;rw[qy];exact c.here h .Y
 ·exact c.elim
def fQ(e:.g a c)(f:.g b d):.g (.lW .Add) (ag cV c d):=aZ E5 Qt e f
def T0(t:.g a n)(h:.g b q)(r:vm b):.g .lR (Pt n q):=by
 refine me2 (a:=a) (b:=b) (L9 Ma t h r) λρ H σd x σ d k v w Q s o g f=>?_;cases d<;>try exact f.elim
 cases k<;>try exact f.elim
 rename_i l i
 dsimp[RD]at o g;dsimp[UZ]at f;split at f
 ·rename_i h
  cases e:ixN l.length i with
  |none=>rw[e]at f;exact f.elim
  |some j =>
   rw[e]at f;simp only at f;cases m:l[j]? with
   |none=>rw[m]at f;exact f.elim
   |some c =>
    rw[m]at f;refine⟨toS l,i,c,o,g,by rw[fP];exact ZM h C7,?_,f.here s .ic⟩;have u:L2.ixN (.X).cps.toList.length i=some j:=by
     have:(.X).cps.toList=l:=rfl;rw[this];exact e
    show (L2.ixN (.X).cps.toList.length i).bind _=_;rw[u];exact m
 ·exact f.elim
def Qu(g:.U "len")(hm:.pq)(j:.g a e)(c:autoParam (.aS X.env=(false,.aW X.env)::starEach [] X.env) Q3Q._auto_1):.g .uV (HJ e):=by
 refine yK (Cl Aq g hm PySem.boot_len (he:=c)) j (λρ H σd k σ d v Q i f b=>?_) c;cases d<;>try exact b.elim
 rename_i l
 dsimp[RD]at f;simp only at b;split at b
 ·rename_i h
  refine⟨toS l,by rw[f],by rw[fP];exact ZM h C7,?_⟩;rw[fP];exact b.here i .Y
 ·exact b.elim
def T3(l:.i)(c:Nat):(!(Builtin.Str.occurrences .X (toS [c]) 0 (.X).length 1).isEmpty)=decide (c∈l):=StrLaws.found_one .X c
def T4{K:ZX}:Og K Jy (λx y H Q=>∃i j:Str,x=.str i/\y=.str j/\Q .ww H):=by
 intro ρ H σd m σ d k v w Q g f e b;cases d<;>try exact b.elim
 rename_i a
 rcases a with _|⟨c,_|⟨h,r⟩⟩
 ·exact b.elim
 ·cases k<;>try exact b.elim
  rename_i l
  dsimp[RD]at f e;refine⟨toS [c],toS l,f,e,?_⟩;rw[T3];exact b.here g .Y
 ·exact b.elim
def T5(e:.g a c)(f:.g b d)(hm:behindInMarks .In b=false):.g (.hC [.In] [b]) (ag Jy c d):=fH JH T4 e f hm
end
end Fm
namespace L2
open PySem PySem.Spec PyProof.Rows
noncomputable abbrev TJ:=Str->St->Hp->VK->Prop
/---/def PJ(X:Cx)(es:.aL)(t:TJ):Prop:=∀(out:Str) (pins:.J) (s:P1) (σ:St) (H:Hp) (Q:VK),Inv X pins σ H s->t out σ H Q->.a2 (joinParts out<|evalEach es X.env) .bL X.xe s
def T6:PJ X [] (λout σ H Q=>out.length<=sizeLine/\Q (.str out) H):=λout pins s σ H Q I ⟨a,q⟩=>joinParts_nil ⟨.str out,H,I.tok _,⟨_,rfl⟩,q⟩ a
def Qv(he:.w e c)(i:PJ X b t)(f:autoParam (evalEach (e::b) X.env=.az X.env::evalEach b X.env) Q3Q._auto_1):PJ X (e::b) (λout σ H Q=>c σ H λv a=>∃y:Str,v=.str y/\(out++y).length<=sizeLine/\t (out++y) σ a Q):=by
 intro out pins s σ H Q I h;rw[f];refine joinParts_cons (thn .eV λv d zz=>?_);obtain⟨x,a,k,l,y,g,j,q⟩:=zz;subst g;obtain⟨m,rfl⟩:=l;exact⟨j,i (out++y) pins d σ a Q k q⟩
def Qw(h:PJ X (e::a::b) t):.w (.JoinedStr (e::a::b) pos) (λσ H Q=>t Str.empty σ H Q):=by
 intro pins s σ H Q I q;exact JoinedStr_many (h Str.empty pins s σ H Q I q)
def T7(he:.w e b):.w (.FormattedValue e (-1) none pos) (λσ H Q=>b σ H λv a=>∃i:Int,v=.int i/\i.natAbs.log2<1920/\Q (.str .fM) a):=by
 intro pins s σ H Q I h;refine FormattedValue_plain (thn .eV λv j zz=>?_);obtain⟨x,a,c,f,i,g,d,q⟩:=zz;subst g;obtain⟨k,rfl⟩:=f;exact formatField_int_small d ⟨.str .fM,a,c.tok _,⟨_,rfl⟩,q⟩
end L2
namespace Fm
open PySem PySem.Spec L2 PySem.W PyProof.Rows
/---/def MJ(X:Cx)(es:.aL)(r:JF):Prop:=PJ X es (λout σ H Q=>∃l,out=toS l/\nB X.K .ew (r l) σ H Q)
def AQ:MJ X [] rM:=λc pins s σ H Q I ⟨l,e,ρ,σd,f,b,a⟩=>by
 unfold rM at a;split at a
 ·rename_i d
  subst e;exact T6 _ pins s σ H Q I ⟨by rw[fP];exact ZM d C7,a.here b .Y⟩
 ·exact a.elim
def gR(he:.g e a)(o:MJ X h r)(j:autoParam (evalEach (e::h) X.env=.az X.env::evalEach h X.env) Q3Q._auto_1):MJ X (e::h) (dR a r):=λm pins s σ H Q I ⟨l,t,ρ,σd,q,k,n⟩=>by
 subst t;refine Qv he o j _ pins s σ H Q I ⟨ρ,σd,q,k,(.gg n).imp λv u zz=>?_⟩;obtain⟨c,d,f,w,g,i,b⟩:=zz;cases d<;>try exact b.elim
 rename_i y
 dsimp[rD,RD]at i;simp only at b;split at b
 ·rename_i p
  refine⟨toS y,i,?_,l++y,qy l y,c,σd,f,g,b⟩;rw[qy,fP,ZB];exact ZM p C7
 ·exact b.elim
def Io(h:MJ X (e::a::b) r):.g (.JoinedStr (e::a::b) pos) (fFs r):=PE.imp (Qw h) λσ H Q q=>⟨[],rfl,q⟩
def si(he:.g e a):.g (.FormattedValue e (-1) none pos) (dq a):=by
 refine PE.imp (T7 he) λσ H Q ⟨ρ,σd,j,l,g⟩=>⟨ρ,σd,j,l,(.gg g).imp λv n zz=>?_⟩;obtain⟨k,d,m,o,c,f,b⟩:=zz;cases d<;>try exact b.elim
 rename_i i
 dsimp[rD,RD]at f;simp only at b;split at b
 ·rename_i h
  exact⟨i,f,h,b.here c .mR⟩
 ·exact b.elim
end Fm
namespace Ts
open PySem PyProof.Rows
structure Ops(S:Type)(m:Type->Type) where
 arr:S->Array Keyed
 pend:S->Array .iu
 gal:S->Nat
 setA:S->Array Keyed->S
 setP:S->Array .iu->S
 setG:S->Nat->S
 fine:S->Bool
 lt:Keyed->Keyed->.cy .n8
 el:Array Keyed->Nat->.cy Keyed
 ru:String->.cy Unit
 bad:{α:Type}->String->.cy α
 hi:Array Keyed->Array Keyed->.cy (Array Keyed)
section
variable{S:Type}{m:Type->Type}[Monad m](O:Ops S m)
noncomputable abbrev uk(i j:Nat):.cy .n8:=do
 let a:=O.arr (<-get)
 O.lt (<-O.el a i) (<-O.el a j)
noncomputable abbrev Kb(i j:Nat):StateT S m Unit :=
 modify λs=>O.setA s ((.bV<|(j-i)/2).foldl (λa k=>a.swapIfInBounds (i+k) (j-1-k)) .ff)
noncomputable abbrev Nl(src dst:Nat):StateT S m Unit :=
 modify λs=>O.setA s ((.bV<|src-dst).foldl (λa k=>a.swapIfInBounds (src-k) (src-k-1)) .ff)
/---/def AR(lo nrem:Nat):.cy (Option Nat):=do
 let mut n:=1
 for _ in [1:nrem] do
  let some smaller <-uk O (lo+n) (lo+n-1)|return none
  if smaller then break
  n:=n+1
 if n == nrem then return some n
 if n>1 then
  let some rose <-uk O lo (lo+n-1)|return none
  if rose then return some n
  Kb O lo (lo+n)
 O.ru "list.sort.descending-run"
 n:=n+1
 let mut neq:=0
 for _ in [n:nrem] do
  let some smaller <-uk O (lo+n) (lo+n-1)|return none
  if smaller then
   if neq>0 then Kb O (lo+n-(neq+1)) (lo+n)
   neq:=0
  else
   let some larger <-uk O (lo+n-1) (lo+n)|return none
   if larger then break
   neq:=neq+1
  n:=n+1
 if neq>0 then Kb O (lo+n-(neq+1)) (lo+n)
 Kb O lo (lo+n)
 for _ in [n:nrem] do
  let some smaller <-uk O (lo+n) (lo+n-1)|return none
  if smaller then break
  n:=n+1
 return some n
/---/def Qx(lo n ok:Nat):.cy Bool:=do
 for k in [max ok 1:n] do
  let mut l:=0
  let mut r:=k
  for _ in [0:k] do
   if l≥r then break
   let m:=(l+r)/2
   let some less <-uk O (lo+k) (lo+m)|return false
   if less then r:=m else l:=m+1
  Nl O (lo+k) (lo+l)
 return true
/---/def FM(left:Bool)(key:Keyed)(arr:.hw)(base n hint:Nat):.cy (Option Nat):=do
 let beyond (i:Nat):.cy .n8:=do
  let x <-O.el arr (base+i)
  if left then O.lt x key else return (<-O.lt key x).map (!·)
 let mut lastofs:=0
 let mut ofs:=1
 let mut lo:=0
 let mut hi:=0
 let some right <-beyond hint|return none
 if right then
  let maxofs:=n-hint
  for _ in [0:n] do
   if ofs≥maxofs then break
   let some more <-beyond (hint+ofs)|return none
   if !more then break
   lastofs:=ofs
   ofs:=2*ofs+1
  lo:=hint+lastofs+1
  hi:=hint+min ofs maxofs
 else
  let maxofs:=hint+1
  for _ in [0:n] do
   if ofs≥maxofs then break
   let some found <-beyond (hint-ofs)|return none
   if found then break
   lastofs:=ofs
   ofs:=2*ofs+1
  lo:=hint+1-min ofs maxofs
  hi:=hint-lastofs
 for _ in [0:n] do
  if lo≥hi then break
  let m:=lo+(hi-lo)/2
  let some more <-beyond m|return none
  if more then lo:=m+1 else hi:=m
 return some hi
noncomputable abbrev Ip(g:Nat):.cy Unit:=modify λs=>O.setG s g
/---/def loG(a b:.hw):.cy (Array Keyed):=do
 O.ru "list.sort.merge-lo"
 let zm:=a.size+b.size
 let done (out:.hw) (ia ib:Nat):=out++a.extract ia a.size++b.extract ib b.size
 let lastOfA (out:.hw) (ia ib:Nat):=out++b.extract ib b.size++a.extract ia a.size
 let mut out:Array Keyed := #[<-O.el b 0]
 let mut ia:=0
 let mut ib:=1
 if ib == b.size then return done out ia ib
 if ia+1 == a.size then return lastOfA out ia ib
 let mut minGallop:=O.gal (<-get)
 for _ in [0:zm] do
  let mut acount:=0
  let mut bcount:=0
  for _ in [0:zm] do
   let some bWins <-O.lt (<-O.el b ib) (<-O.el a ia)|return done out ia ib
   if bWins then
    out:=out.push (<-O.el b ib);ib:=ib+1;bcount:=bcount+1;acount:=0
    if ib == b.size then return done out ia ib
    if bcount≥minGallop then break
   else
    out:=out.push (<-O.el a ia);ia:=ia+1;acount:=acount+1;bcount:=0
    if ia+1 == a.size then return lastOfA out ia ib
    if acount≥minGallop then break
  O.ru "list.sort.gallop"
  minGallop:=minGallop+1
  for _ in [0:zm] do
   if minGallop>1 then minGallop:=minGallop-1
   Ip O minGallop
   let some k <-FM O false (<-O.el b ib) a ia (a.size-ia) 0|return done out ia ib
   acount:=k
   if k>0 then
    out:=out++a.extract ia (ia+k);ia:=ia+k
    if ia+1 == a.size then return lastOfA out ia ib
    if ia == a.size then return done out ia ib
   out:=out.push (<-O.el b ib);ib:=ib+1
   if ib == b.size then return done out ia ib
   let some k <-FM O true (<-O.el a ia) b ib (b.size-ib) 0|return done out ia ib
   bcount:=k
   if k>0 then
    out:=out++b.extract ib (ib+k);ib:=ib+k
    if ib == b.size then return done out ia ib
   out:=out.push (<-O.el a ia);ia:=ia+1
   if ia+1 == a.size then return lastOfA out ia ib
   if acount<7&&bcount<7 then break
  minGallop:=minGallop+1
  Ip O minGallop
 O.bad "internal:list.sort.merge-bound"
/---/def atG(i:Nat):.cy Bool:=do
 let s <-get
 let (some (sa,na,power),some (sb,nb,_)):=(.i8[i]?,.i8[i+1]?)|O.bad "internal:list.sort.pending"
 set (O.setP s<|((.i8).setIfInBounds i (sa,na+nb,power)).eraseIdxIfInBounds (i+1))
 let some k <-FM O false (<-O.el .ff sb) .ff sa na 0|return false
 let (sa,na):=(sa+k,na-k)
 if na == 0 then return true
 let some nb <-FM O true (<-O.el .ff (sa+na-1)) .ff sb nb (nb-1)|return false
 if nb == 0 then return true
 let x:=(.ff).extract sa sb
 let y:=(.ff).extract sb (sb+nb)
 let merged <-if na<=nb then loG O x y else O.hi x y
 modify λs=>O.setA s (merged.toList.zipIdx.foldl (λa (p,j)=>a.setIfInBounds (sa+j) p) .ff)
 return O.fine (<-get)
/---/def T8(p:Array .iu):Option .iu:=if p.size>1 then p[p.size-2]? else none
/---/def za(minRun:Nat->Nat->Nat->Nat)(power:Nat->Nat->Nat->Nat->Nat):.cy Unit:=do
 let size:=(O.arr (<-get)).size
 let minrun:=minRun size size 0
 let mut lo:=0
 for _ in [0:size] do
  if lo≥size then break
  let some found <-AR O lo (size-lo)|return
  let mut n:=found
  if n<minrun then
   O.ru "list.sort.binary-insertion"
   let force:=min (size-lo) minrun
   if !(<-Qx O lo force n) then return
   n:=force
  if let some (s1,n1,_):=(O.pend (<-get)).back? then
   let pw:=power size (2*s1+n1) (2*s1+n1+n1+n) size
   for _ in [0:size] do
    let p:=O.pend (<-get)
    let some (_,_,older):=T8 p|break
    if older<=pw then break
    if !(<-atG O (p.size-2)) then return
   modify λs=>O.setP s ((.i8).modify ((.i8).size-1) λ(st,len,_)=>(st,len,pw))
  modify λs=>O.setP s ((.i8).push (lo,n,0))
  lo:=lo+n
 for _ in [0:size] do
  let p:=O.pend (<-get)
  if p.size<=1 then break
  let i:=p.size-2
  let before:=if i>0 then p[i-1]?.map (·.2.1) else none
  let i:=if before.any (· < (p[i+1]?.elim 0 (·.2.1))) then i-1 else i
  if !(<-atG O i) then return
end
def O1:Ops SortSt Sem where
 arr:=arrOf
 pend:=pendingOf
 gal:=gallopOf
 setA s x:=.u8 x (pendingOf s) (gallopOf s) .oh
 setP s x:=.u8 (arrOf s) x (gallopOf s) .oh
 setG s x:=.u8 (arrOf s) (pendingOf s) x .oh
 fine s:=(.oh).isNone
 lt:=lt'
 el:=elem'
 ru t:=liftM (rule t:Sem Unit)
 bad w:=liftM (unsupported w)
 hi:=sortPriv% PySem.Builtin.mergeHi
/---/def FN:Nat->Nat->Nat->Nat->Nat:=sortPriv% PySem.Builtin.power
/---/def AS:Nat->Nat->Nat->Nat:=sortPriv% PySem.Builtin.minRun
def Qy:sortRuns'=za O1 AS FN:=rfl
noncomputable abbrev TS:=Array Keyed × Array .iu × Nat
/---/def ltP(x y:Keyed):StateT TS Option .n8:=match x.1,y.1 with
 |.int i _,.int j _=>pure (some<|decide (i<j))
 |_,_=>failure
/---/def elP(a:.hw)(i:Nat):StateT TS Option Keyed:=match a[i]? with
 |some p=>pure p
 |none=>failure
def O2:Ops TS Option where
 arr t:=t.1
 pend t:=t.2.1
 gal t:=t.2.2
 setA t x:=(x,t.2.1,t.2.2)
 setP t x:=(t.1,x,t.2.2)
 setG t x:=(t.1,t.2.1,x)
 fine _:=true
 lt:=ltP
 el:=elP
 ru _:=pure ()
 bad _:=failure
 hi _ _:=failure
section
variable{prog:N3}{w:N6}{A:P2}{E:.D}{s:P1}
noncomputable abbrev emb(t:TS):SortSt:=SortSt.mk' oneType' t.1 t.2.1 t.2.2 none
/---/def Sim(prog:N3)(w:N6)(A:P2)(E:.D)(s:P1){α:Type}(m:StateT SortSt Sem α)(p:StateT TS Option α):Prop :=
 ∀t x t',p t=some (x,t')->∀Q:α->SortSt->Prop,Q x (emb t')->wpS .N A E s m Q .f3
variable{α β:Type}
def io{x:α}:.aF (pure x) (pure x):=λt y a h Q q=>by
 cases h;exact wpS_pure q
def AT{m:StateT SortSt Sem α}:.aF m failure:=λt y a h Q q=>by cases h
def C8:.aF m (O2.bad x):=AT
def T9:.aF m (O2.hi x y):=AT
def iq{q:α->StateT TS Option β}(h1:.aF m p)(c:∀x,Sim prog w A E s (f x) (q x)):.aF (m >>= f) (p >>= q):=λt y a h Q b=>by
 refine wpS_bind ?_;change (p t).bind (λr=>q r.1 r.2)=some (y,a) at h;cases e:p t with
 |none=>rw[e]at h;cases h
 |some r =>
  rw[e]at h;exact h1 t r.1 r.2 e _ (c r.1 r.2 y a h Q b)
def vx(h:∀t,Sim prog w A E s (f .f3) (q t)):.aF (get >>= f) (get >>= q):=λt y b e Q a =>
 wpS_bind (wpS_get<|h t t y b e Q a)
def qz(h:∀t,f .f3=emb (g t)):.aF (modify f) (modify g):=λt y b e Q a=>by
 cases e;refine wpS_modify ?_;rw[h];exact a
def Qz(h:u=emb a):.aF (set u) (set a):=λt y c e Q b=>by
 cases e;rw[h];exact λ_ _ _=>⟨rfl,b⟩
def kD{p q:StateT TS Option α}(h1:.aF a p)(d:.aF b q):.aF (@ite _ c i a b) (@ite _ c j p q):=by
 by_cases z:c
 ·rw[z4 z,z4 z];exact h1
 ·rw[y3 z,y3 z];exact d
def FO{x:String}:.aF (O1.ru x) (O2.ru x):=λt y a h Q q=>by
 cases h;exact wpS_lift (zYv ⟨rfl,q⟩)
def wy:.aF (O1.el a i) (O2.el a i):=by
 show Sim prog w A E s (elem' a i) (elP a i);rw[elem'_eq];unfold elP;cases a[i]? with
 |none=>exact AT
 |some p=>exact io
def FP{x y:Keyed}:.aF (O1.lt x y) (O2.lt x y):=λt z e h Q q=>by
 obtain⟨b,c⟩:=x;obtain⟨a,d⟩:=y;change ltP (b,c) (a,d) t=_ at h;show wpS _ A E s (lt' _ _) Q _;unfold ltP at h;cases b with
 |int i u =>
  cases a with
  |int j v =>
   cases h;rw[lt'_eq];refine wpS_bind (wpS_get (wpS_bind (wpS_lift (zYc ?_))));rw[keyLt'_oneType];exact oneLt_int ⟨rfl,wpS_pure q⟩
  |_=>cases h
 |_=>cases h
theorem C9(h:.De):∀(l:.i) (c:β),.aF (forIn l c f) (forIn l c g)
 |[],c=>by rw[List.forIn_nil,List.forIn_nil];exact io
 |i::l,c=>by
  rw[zYn,zYn];refine iq (h i c) λr=>?_;cases r with
  |done c=>exact io
  |yield c=>exact C9 h l c
def qB{r:Std.Legacy.Range}{g:Nat->β->StateT TS Option (ForInStep β)}(h:.De):.aF (forIn r c f) (forIn r c g):=by
 rw[Std.Legacy.Range.forIn_eq_forIn_range',Std.Legacy.Range.forIn_eq_forIn_range'];exact C9 h _ c
def n1(t:TS):O1.arr .f3=t.1:=rfl
def n2(t:TS):O1.pend .f3=t.2.1:=rfl
def n3(t:TS):O1.gal .f3=t.2.2:=rfl
def n4(t:TS):O1.fine .f3=true:=rfl
def n5(t:TS)(x):O1.setP .f3 x=emb (t.1,x,t.2.2):=rfl
def m1(t:TS):O2.arr t=t.1:=rfl
def m2(t:TS):O2.pend t=t.2.1:=rfl
def m3(t:TS):O2.gal t=t.2.2:=rfl
def m4(t:TS):O2.fine t=true:=rfl
def m5(t:TS)(x):O2.setP t x=(t.1,x,t.2.2):=rfl
def Iq{l:Bool}:.aF (FM O1 l k a b n i) (FM O2 l k a b n i):=by
 unfold FM;dsimp only
 repeat' (first|with_reducible (first|exact io|exact FP|exact wy|refine iq ?_ λx=>?_|refine qB λi c=>?_|refine kD ?_ ?_)|split)
def Da{i j:Nat}:Sim prog w A E s (uk O1 i j) (uk O2 i j) :=
 vx λt=>iq wy λx=>iq wy λy=>FP
def QA{i j:Nat}:.aF (Kb O1 i j) (Kb O2 i j):=qz λt=>rfl
def Nm{i j:Nat}:.aF (Nl O1 i j) (Nl O2 i j):=qz λt=>rfl
def Ua{i:Nat}:.aF (Ip O1 i) (Ip O2 i):=qz λt=>rfl
def Kc{l n:Nat}:.aF (AR O1 l n) (AR O2 l n):=by
 unfold AR;dsimp only
 repeat' (first|with_reducible (first|exact io|exact Da|exact QA|exact FO|refine iq ?_ λx=>?_|refine qB λi c=>?_|refine kD ?_ ?_)|split)
def QB{l n o:Nat}:.aF (Qx O1 l n o) (Qx O2 l n o):=by
 unfold Qx;dsimp only
 repeat' (first|with_reducible (first|exact io|exact Da|exact Nm|refine iq ?_ λx=>?_|refine qB λi c=>?_|refine kD ?_ ?_)|split)
def Ub{a b:.hw}:.aF (loG O1 a b) (loG O2 a b):=by
 unfold loG;dsimp only
 repeat' (first|with_reducible (first|exact io|exact C8|exact Iq|exact FP|exact wy|exact FO|exact Ua|(refine vx λt=>?_;dsimp[n3 t,m3 t])|refine iq ?_ λx=>?_|refine qB λi c=>?_|refine kD ?_ ?_)|split)
def Nn{i:Nat}:.aF (atG O1 i) (atG O2 i):=by
 unfold atG;dsimp only
 repeat' (first|with_reducible (first|exact io|exact C8|exact T9|exact Iq|exact Ub|exact wy|exact Qz rfl|(refine vx λt=>?_;dsimp[n1 t,n2 t,n4 t,n5 t,m1 t,m2 t,m4 t,m5 t])|refine iq ?_ λx=>?_|refine kD ?_ ?_)|refine kD ?_ ?_|exact qz λt=>rfl|split)
def No{f:Nat->Nat->Nat->Nat}{g:Nat->Nat->Nat->Nat->Nat}:.aF (za O1 f g) (za O2 f g):=by
 unfold za;dsimp only
 repeat' (first|with_reducible (first|exact io|exact Kc|exact QB|exact Nn|exact FO|(refine vx λt=>?_;dsimp[n1 t,n2 t,m1 t,m2 t])|refine iq ?_ λx=>?_|refine qB λi c=>?_|refine kD ?_ ?_)|exact Nn|refine kD ?_ ?_|exact qz λt=>rfl|split)
/---/def xK(k:Nat)(t:Nat->Tok)(v:Nat->S1):List Keyed:=(.Bn).map λi=>(Value.int .tL (t i),v i)
end
section
variable{prog:N3}{w:N6}{A:P2}{E:.D}{s:P1}
/---/def VL(k:Nat)(t:Nat->Tok)(v:Nat->S1):Option (List S1):=((za O2 AS FN).run ((xK k t v).toArray,#[],7)).map λr=>r.2.1.toList.map (·.2)
def nZ{k:Nat}(h:k<=6)(t:Nat->Tok)(v:Nat->S1):VL k t v=some ((byK (·.1)<|(.fd).zip ((.Bn).map v)).map (·.2)):=by
 have:∀k<7,k=0\/k=1\/k=2\/k=3\/k=4\/k=5\/k=6:=by decide
 rcases this k (Nat.lt_succ_of_le h) with rfl|rfl|rfl|rfl|rfl|rfl|rfl<;>kernel_rfl
theorem Db:∀{ks:List S1} {kz:.c},IntsAre ks kz->∀{i:Nat} (h:i<kz.length),∃u,ks[i]?=some (.int (kz.getD i 0) u)
 |_,_,.cons n t h,i,hi=>by
  cases i with
  |zero=>exact⟨t,rfl⟩
  |succ i=>exact Db h (Nat.lt_of_succ_lt_succ hi)
def Uc{α:Type}{d:α}(l:List α):l=(.ip).map λi=>l.getD i d:=by
 apply List.ext_getElem
 ·simp
 ·intro i a b;simp[a]
def Ud(c:IntsAre ks .fd)(lk:(.fd).length=vs.length):∃t,ks.zip vs=xK k t λi=>vs.getD i .none:=by
 refine⟨λi=>match ks.getD i .none with | .int _ u=>u|_=>default,?_⟩;have l:=c.length;apply List.ext_getElem
 ·simp[xK];omega
 ·intro i j g
  have f:i<(.fd).length:=by simpa[xK] using g
  obtain⟨u,a⟩:=Db c f;have b:i<ks.length:=by omega
  have d:i<vs.length:=by omega
  have e:ks[i]=.int .tL u:=by
   rw[ZE b]at a;exact ZT a
  have h:ks.getD i .none=.int .tL u:=by rw[ZF,a];rfl
  dsimp[List.getElem_zip,xK,List.getElem_map,List.getElem_range,e,h];congr 1;rw[ZF,ZE d];rfl
theorem wA:∀k,(.fd).length=2^k
 |0=>rfl
 |k+1=>by rw[popK,ZB,ZA,wA k,Nat.pow_succ];omega
def popK_le(h:k<=6):(.fd).length<=64:=by
 rw[wA];exact wb .b h
def sort_keyed{kz:.c}(X:s.heap.get? a=some .z0)(h6:k<=6)(l:kz=popK k)(lk:kz.length=vs.length)
  (hf:∀(i:Nat) v k,vs[i]?=some v->kz[i]?=some k->∀(G:Heap) (tk:Nat),(∀b u,b≠a->s.heap.get? b=some u->G.get? b=some u)->∀Q:S1->P1->Prop,(∀t d,Q (.int k t) .AC)->wpAny .N A (call f [v]) Q .nT .m1)
  (h:∀(G:Heap) (tk c:Nat),(∀b u,b≠a->s.heap.get? b=some u->G.get? b=some u)->G.get? a=some (seqObj "list" ((.pL).map (·.2)).toArray c)->P (.done<|.ret .none) .m1) :
  wpAny .N A (ksk_tree a f false) P E s:=by
 have hz:vs.length<=100000:=by rw[<-lk,l];exact ZM (popK_le h6) .b
 unfold ksk_tree;have ha:a<s.heap.objs.size:=ZI X;refine zF (listItems_at X rfl (zF (zXi X rfl ?_)));obtain⟨M,H⟩:∃M,(.ng).get? a=some .nk:=⟨_,XW X .lg⟩;refine zF (seqEpoch_at H rfl (zF (wpAny_newTuple ?_ (by rw[YG];simp;omega))));refine zF (zXj ?_);refine YZ ?_;obtain⟨R,y⟩:=qq .ng;rw[<-y]at H;have F:R.objs.size=s.heap.objs.size:=by rw[y,YW]
 have n1:a≠R.objs.size:=by rw[F];exact ZN ha
 obtain⟨m,o⟩:=qq (R.push .ry);have n2:a≠m.objs.size:=by rw[o,zYb,F];exact ZN (ZZ ha)
 have Z:(.tY).get? a=some .nk:=by
  rw[.bW n2,o,.bW n1];exact H
 have a0:(.tY).get? m.objs.size=some .h7:=ZJ _ rfl;have Y:∀b u,b≠a->s.heap.get? b=some u->(.tY).get? b=some u:=λb u J e=>.H (by rw[o];exact .H (by rw[y];exact(.b9 J).trans e));have nk:∀b u,s.heap.get? b=some u->b≠m.objs.size:=λb u e=>by rw[o,zYb,F];exact ZN (ZZ .dh)
 rw[<-y,<-o];unfold ksk_rest;refine zF (zYv ?_);rw[List.forIn_toArray];refine zF (ksk_fold (I:=λj V=>∃G tk q e,V = .m1/\G.get? m.objs.size=some (seqObj "list" .tt e)/\IntsAre q (kz.take j)/\G.get? a=some .nk/\∀b u,b≠a->s.heap.get? b=some u->G.get? b=some u) vs 0 _ ⟨_,s.toks,[],0,rfl,a0,by rw[List.take_zero];exact .nil,Z,Y⟩ ?_ ?_)
 ·rintro j x V hx ⟨G,tk,q,e,rfl,T,B,g3,W⟩
  rw[Z6]at B⊢;have hj:j<vs.length:=(z0.mp hx).1;have O:j<kz.length:=by rw[lk];exact hj
  refine zF (zYc (zZg (hf j x kz[j] hx (ZE O) G tk W (λv S=>∃t d,v=.int kz[j] t/\S = .AC) λt d=>⟨t,d,rfl,rfl⟩) ?_ λ_ _ z=>z.elim));rintro v S ⟨t,d,rfl,rfl⟩;dsimp only;have kl:q.length=j:=by rw[B.length,yo];omega
  refine zF (zXi T rfl (z3 ⟨rfl,?_⟩) .As (by dsimp[Array.size_push,v3,YG];omega));have up:=XW T (λp=>p.push (.int kz[j] t));refine⟨_,d,q++[.int kz[j] t],_,rfl,by rw[up];simp;rfl,?_,?_,λb u J U=>?_⟩
  ·rw[X7 O];exact ksk_snoc B
  ·rw[.b9 n2];exact g3
  ·rw[.b9 (nk b u U)];exact W b u J U
 rintro V ⟨G,tk,q,e,rfl,T,B,g3,W⟩;rw[Z6,<-lk,zYg]at B;refine zF (listItems_at T rfl ?_);have kl:q.length=vs.length:=by rw[B.length,lk]
 have C:∀{kd:SortKind} {p:.hw} {pd:Array .iu} {g:Nat},p.toList.map (·.2)=(.pL).map (·.2)->.ao (ksk_tail a false M (.ref m.objs.size)<|SortSt.mk' kd p pd g none) P E .m1:=λ{kd p pd g} z1=>by
  have zl:p.size=vs.length:=by
   have:=.hL z1;rw[ZA,ZA,vy,(byK_perm _ _).length_eq,List.length_zip,lk,Nat.min_self]at this;exact this
  unfold ksk_tail;dsimp only;refine zF (zXi T rfl (zF (wpAny_letGo ?_)) .As .d);have D:(G.update m.objs.size .j6).get? a=some .nk:=by rw[.b9 n2];exact g3
  refine zF (seqEpoch_at D rfl ?_);refine zF (zXi D rfl ?_ .d (by show (p.map (·.2)).size<=_;rw[Array.size_map,zl,YG];omega));simp;have e0:p.map (·.2)=((.pL).map (·.2)).toArray:=by
   rw[<-z1,<-Array.toList_map]
  obtain⟨c,hc⟩ : ∃c,((G.update m.objs.size (Obj.mapSeq λ_ => #[])).update a (Obj.mapSeq λ_=>p.map (·.2))).get? a=some (seqObj "list" ((.pL).map (·.2)).toArray c):=⟨_,by
   have:=XW D (λ_=>p.map (·.2));rw[this,<-e0]⟩
  refine z3 (h _ tk c (λb u J U=>?_) hc);rw[.b9 J,.b9 (nk b u U)];exact W b u J U
 unfold ksk_end;dsimp only;dsimp[YH,XZ];have zp:((.tt).zip vs.toArray).toList=q.zip vs:=ksk_zip _ _;rw[l]at B;obtain⟨t,ht⟩:=Ud B (by rw[<-l];exact lk);have L:=nZ h6 t λi=>vs.getD i .none;rw[<-l,lk,<-Uc vs]at L
 by_cases K:vs.toArray.size<2
 ·rw[z4 K,z4 K]
  refine zF (z3<|zF .aa);refine C ?_;rw[zp];cases k with
  |zero =>
   subst l;have lv:vs.length=1:=lk.symm;obtain⟨v,rfl⟩:=List.length_eq_one_iff.mp lv;obtain⟨u,rfl⟩:=List.length_eq_one_iff.mp (kl.trans lv);rfl
  |succ k =>
   rw[l,wA,Nat.pow_succ]at lk;have:=Nat.two_pow_pos k;simp at K;omega
 ·rw[y3 K,y3 K]
  have a1:2<=vs.length:=by simp at K;omega
  rw[ksk_kind B .S];refine zF .aa;have ea:(.tt).zip vs.toArray=(.zK).toArray:=by rw[<-ht,<-zp]
  rw[ea,Qy];unfold VL at L;cases e:(za O2 AS FN).run ((.zK).toArray,#[],7) with
  |none=>rw[e]at L;cases L
  |some r =>
   rw[e]at L;refine zF (zZg (No _ _ _ e (λ_ N=>N=emb r.2) rfl) ?_ λ_ _ e=>e);rintro⟨⟨⟩,N⟩ V ⟨rfl,rfl⟩;exact C (ZT L)
end
end Ts
namespace HT
open PySem PySem.Spec
end HT
namespace L2
open PySem PySem.Spec PyProof.Rows
section
variable{X:Cx}
/---/def WV:V->Option Int->Option Int->Hp->VK->Prop:=λx lo hi H Q=>∃(z:Str) (y:.i),x=.str z/\z.length<=sizeLine/\Fm.EX z.cps.toList lo hi=some y/\Q (.str ⟨y.toArray⟩) H
def Np(h:0<=j/\j<=x.cps.toList.length):Txt.slice x none (some j)=⟨(x.cps.toList.take j.toNat).toArray⟩:=by
 have:=eq_of_beq (slice_closes_to h);rw[this];simp
def FQ(h:0<=i/\i<=x.cps.toList.length):Txt.slice x (some i) none=⟨(x.cps.toList.drop i.toNat).toArray⟩:=by
 have:=eq_of_beq (slice_closes_from h);rw[this];congr 2;exact zZd (by rw[List.length_drop];omega)
def Ue:SlR X WV:=by
 intro pins s σ H x v C r w A B Q I o d n f h;obtain⟨z,y,rfl,m,a,q⟩:=h;obtain⟨t,rfl⟩:=o;refine⟨"str",_,slot_str_getitem.lookup,zXn _ _ _,?_⟩;cases n with
 |none =>
  cases f with
  |none=>cases a
  |int j g =>
   dsimp[Fm.EX]at a;split at a
   ·rename_i c
    cases a;have e:=Np (x:=z) c;exact wpAny_getItem_str_slice (l:=none) (u:=some (j,g)) (st:=none) d rfl (post_val_or_str ⟨ZM (Txt.slice_le z _ _) m,λb k=>⟨.str ⟨(z.cps.toList.take j.toNat).toArray⟩,H,I.tok k,⟨b,by rw[<-e];rfl⟩,q⟩⟩)
   ·cases a
 |int i p =>
  cases f with
  |int j g=>cases a
  |none =>
   dsimp[Fm.EX]at a;split at a
   ·rename_i c
    cases a;have e:=FQ (x:=z) c;exact wpAny_getItem_str_slice (l:=some (i,p)) (u:=none) (st:=none) d rfl (post_val_or_str ⟨ZM (Txt.slice_le z _ _) m,λb k=>⟨.str ⟨(z.cps.toList.drop i.toNat).toArray⟩,H,I.tok k,⟨b,by rw[<-e];rfl⟩,q⟩⟩)
   ·cases a
end
end L2
namespace Fm
open PySem PySem.Spec L2 PySem.W PyProof.Rows
section
variable{X:Cx}{pos p:Pos}
def Kd{lo hi:.lK}(E:.g a q)(B:MO X lo r)(x:MO X hi s):.g (.d5 a<|.lU n) (vj q r s):=by
 refine PE.imp (wa Ue E B x) λσ H Q ⟨ρ,σd,K,w,o⟩=>?_;unfold vj at o;refine⟨ρ,σd,K,w,(.gg o).imp λv N zz=>?_⟩;obtain⟨k,d,h,P,c,I,z⟩:=zz;refine⟨k,σd,h,c,(bP.bind (R:=rO) z).imp λL M zz=>?_⟩;obtain⟨i,A,m,J,g,q2,n⟩:=zz;cases q2;refine⟨i,σd,m,g,(bP.bind (R:=rO) n).imp λD O zz=>?_⟩;obtain⟨u,t,F,G,j,q3,b⟩:=zz;cases q3;have f:=(I.mono<|c.hp.kp J).mono (g.hp.kp G);cases d with
 |str l =>
  dsimp[RD]at f;simp only at b;split at b
  ·rename_i C
   cases e:EX l L D with
   |none=>rw[e]at b;exact b.elim
   |some y =>
    rw[e]at b;exact⟨toS l,y,f,by rw[fP];exact ZM C C7,e,b.here j .ic⟩
  ·exact b.elim
 |_=>exact b.elim
end
variable{l:.i}{H:Hp}
section
variable{X:Cx}{pos p p2:Pos}
def Nq(l:.i)(h:y=toS l)(a:.U x)(hm:X.mg x=some (.str y t))(hd:autoParam (.aY=false) Q1Q._auto_1):ME X .eD (fC .r7) :=
 PE.imp (oE (v:=.str y) a hm ⟨t,rfl⟩ hd) (rT λ_ _=>by dsimp[RD];rw[h])
def fR(f:.U "str")(hm:X.mg "str"=none)(j:.g a c)(b:autoParam (.aS X.env=(false,.aW X.env)::starEach [] X.env) Q3Q._auto_1):.g (.bU<|.bw "str") (dq c):=by
 refine yK (Cm Al f hm .T (he:=b)) j (λρ H σd k σ d v Q h e p=>?_) b;cases d<;>first|exact p.elim|skip
 rename_i i
 dsimp[RD]at e;subst e;simp only at p;split at p
 ·rename_i g
  exact⟨i,rfl,g,p.here h .mR⟩
 ·exact p.elim
def oN(l:.i):(.X).cps.toList=l:=by simp[toS]
def Ir(h:Jw l=true):NumText.AllDigits l/\l≠[]:=by
 dsimp[Jw,YB,Bool.not_eq_true',zZe,YS]at h;exact⟨h.2,λe=>by rw[e]at h;simp at h⟩
def QC(hz:l.length<=600)(h:o8 l=some n):PySem.intText? .X=some n:=by
 cases l with
 |nil=>cases h
 |cons c r =>
  have d:(toS (c::r)).length<=4300:=by rw[fP];omega
  rw[o8]at h;split at h
  ·rename_i e
   subst e;split at h
   ·rename_i f
    obtain⟨a,b⟩:=Ir f;cases h;exact PySem.intText_neg (oN _) a b d
   ·cases h
  ·split at h
   ·rename_i f
    obtain⟨a,b⟩:=Ir f;cases h;have:=PySem.intText_digits (by rw[oN];exact a) (by rw[oN];exact b) d;rw[oN]at this;exact this
   ·cases h
def Ke:gE X .pT (λxs H Q=>∃(l:.i) (n:Int),xs=[.str .X]/\l.length<=600/\o8 l=some n/\Q .x H):=by
 intro pins s σ H xs f Q I r h;obtain⟨l,n,rfl,c,a,q⟩:=h;obtain⟨u,rfl,d⟩:=bn.one r;obtain⟨t,rfl⟩:=d;refine KIN.call_text (QC c a) (by rw[fP];omega) ⟨.int n,H,?_,⟨_,rfl⟩,q⟩;exact I.kept λb o e=>e
def vz(g:.U "int")(hm:X.mg "int"=none)(j:.g a e)(b:autoParam (.aS X.env=(false,.aW X.env)::starEach [] X.env) Q3Q._auto_1):.g (.bU<|.bw "int") (nE e):=by
 refine yK (Cm Ke g hm .T (he:=b)) j (λρ H σd k σ d v Q i f p=>?_) b;cases d<;>first|exact p.elim|skip
 rename_i l
 dsimp[RD]at f;subst f;simp only at p;split at p
 ·rename_i h
  cases c:o8 l with
  |none=>rw[c]at p;exact p.elim
  |some n=>rw[c]at p;exact⟨l,n,rfl,h,c,p.here i .Y⟩
 ·exact p.elim
noncomputable def R7:Option Int->KTD.Dat
 |some i=>.flat .dp
 |none=>.flat .none
/---/def zc(T:Tab):List (Str × KTD.Dat):=T.map λp=>(toS p.1,R7 p.2)
/---/def wB(K:ZX)(a:Addr)(T:Tab):Prop:=KTD.tabLook (KTD.datLooks λb=>K.lookup b) (λb=>K.lookup b) a (zc T)=true
def qC:toS l=toS k↔l=k:=⟨λe=>by rw[<-oN l,e,oN],λe=>by rw[e]⟩
theorem AU:∀(T:Tab) (l:.i),KTD.inKeys .X (zc T)=(kx T l).isSome
 |[],_=>rfl
 |(k,d)::T,l=>by
  have b:=AU T l;show (decide .n1||KTD.inKeys .X (zc T))=_;rw[b];unfold kx;rw[YC]
  by_cases e:l=k
  ·subst e;simp
  ·have a:(l == k)=false:=by simpa using e
   rw[a,xC (λz=>e (qC.mp z))];rfl
theorem Iu{P:S1->Prop}{l:.i}:∀{T:Tab} {d:.aK},kx T l=some d->(∀v,cw (match d with|some i=>V.int i|none=>V.non) v->P v)->KTD.EachL h .X P (zc T)
 |[],_,e,_=>by cases e
 |(k,d')::T,d,e,q=>by
  unfold kx at e;rw[YC]at e;have op:l=k->KTD.Opened h P (R7 d'):=λz=>by
   subst z;rw[show (l == l)=true by simp]at e;cases e;cases d' with
   |none=>exact q _ rfl
   |some i=>exact λt=>q _ ⟨t,rfl⟩
  cases T with
  |nil=>exact λz=>op (qC.mp z)
  |cons x T =>
   show if decide .n1=true then _ else _
   by_cases z:l=k
   ·rw[z4 (by rw[z];simp)];exact op z
   ·rw[y3 (by simpa using λy=>z (qC.mp y))]
    have a:(l == k)=false:=by simpa using z
    rw[a]at e;exact Iu e q
def Iv{σ:L2.St}(I:.p)(t:wB X.K a T):KTD.Here s.heap s.heap a (zc T):=⟨PySem.W.kt_text_in I.kIn t,λ_ _ e=>e⟩
def Kf(t:wB X.K a T):.ae .nz (λx y H Q=>∃l,x=.str .X/\y=.ref a/\Q (.bl (kx T l).isNone) H):=by
 intro pins s σ H x y v u Q I c d h;obtain⟨l,rfl,rfl,q⟩:=h;obtain⟨f,rfl⟩:=c;cases (show u=Value.ref a from d);refine KTD.notin_text (Iv I t) ⟨.bl (kx T l).isNone,H,I.kept λb o e=>e,?_,q⟩;rw[AU];cases kx T l<;>rfl
def Kg(h:.U x)(hm:.pp)(t:wB X.K A T)(n:.g a g)(m:.Dh)(hd:autoParam (.aY=false) Q1Q._auto_1):MT X (.hC [.NotIn] [.Name x p]) (tE<|vh T g):=by
 refine PT.imp (vk (Kf t) n .z1 m) λσ H Q ⟨ρ,σd,hd,j,c⟩=>?_;have c:=jJ c;refine⟨ρ,σd,hd,j,(.av c).imp λv o zz=>?_⟩;obtain⟨i,d,k,q,e,f,b⟩:=zz;cases d<;>try exact b.elim
 rename_i l
 dsimp[rD,RD]at f;simp only at b;exact⟨l,f,rfl,b.here e .Y⟩
def Nr(S:.U x)(hm:.pp)(t:wB X.K A T)(N:.g b B)(Y:autoParam (MK b) Q6Q._auto_1)(hd:autoParam (.aY=false) Q1Q._auto_1):.g (.d5 .fp b) (Ah T B):=by
 intro pins s σ H Q I ⟨ρ,σd,hd',J,M⟩;refine .u2 Y (thn (oE (v:=.ref A) S hm rfl hd pins s σ H (λy n=>y=.ref A/\n=H) I ⟨rfl,rfl⟩) λu W zz=>?_);obtain⟨y,n,Z,O,E,e2⟩:=zz;subst E e2;obtain rfl:u=Value.ref A:=O;refine thn (N pins W σ n (λz g=>∃l d,z=.str .X/\kx T l=some d/\Q (match d with|some i=>V.int i|none=>V.non) g) Z ⟨ρ,σd,hd',J,(.av M).imp λv g ⟨a0,d,K,E,m,j,a⟩=>?_⟩) λiv f ⟨z,g,w,G,l,d,ez,C,q⟩=>?_
 ·cases d<;>try exact a.elim
  rename_i l
  dsimp[rD,RD]at j;simp only at a;cases c:kx T l with
  |none=>rw[c]at a;exact a.elim
  |some d =>
   rw[c]at a;refine⟨l,d,j,c,a.here m ?_⟩;cases d<;>dsimp[rD,RD,Ps]
 ·subst ez
  obtain⟨tk,rfl⟩:=G;have r:=Iv w t;have h:f.TypeIs .eE "dict" := r.typeIs;refine⟨h,?_⟩;unfold getItem
  try with_reducible refine YZ ?_
  refine zF (zXr h .b ?_);refine zF (YL h zZp (YP zZp h PySem.F.entry_dict_getitem ?_ .y9));show wpAny _ _ (dictGet A (.str .X tk) >>= _) _ _ f;have F:.be g .AO:=w.kept λb o e=>e;refine zF (KTD.dictGet_text r (λL v R hv=>z3 ⟨v,rfl,z3 ?_⟩) λU=>?_)
  ·exact(Iu (P:=λv=>.gk v .AO) C λv j=>⟨_,g,F,j,q⟩).some_of L v R hv
  ·have:=KTD.isSome_datumAt (k:=toS l) (D:=zc T)
   rw[U,AU,C]at this;cases this
end
noncomputable def zd:List S1->List .bJ->Bool
 |[],[]=>true
 |.str y _::vs,l::ss=>y == toS l&&zd vs ss
 |_,_=>false
/---/def vTs(ss:.aQ):List V:=ss.map λl=>.str .X
theorem wC:∀{vs:List S1} {ss:.aQ},zd vs ss=true->bn (vTs ss) vs
 |[],[],_=>.nil
 |v::vs,l::ss,h=>by
  cases v<;>dsimp[zd,YB,YH]at h;obtain⟨h1,a⟩:=h;rw[beq_iff_eq.mp h1];exact .cons ⟨_,rfl⟩ (wC a)
 |[],_::_,h=>by simp[zd]at h
 |v::_,[],h=>by cases v<;>simp[zd]at h
noncomputable def wD(K:ZX):List .bJ->S1->Bool
 | ss,.ref p=>(match K.lookup p with
  |some o=>o.cls == .type "tuple" && (match o.data with | .seq its _=>decide (its.size<=sizeLine)&&zd its.toList ss|_=>false)
  |none=>false)
 |_,_=>false
/---/def RTk(K:ZX)(ss:.aQ)(v:S1):Prop:=∃p,v=.ref p/\Tc K p (vTs ss)
def AV{K:ZX}(h:wD K ss v=true):RTk K ss v:=by
 cases v<;>dsimp[wD,YH]at h
 rename_i p
 cases c:K.lookup p with
 |none=>rw[c]at h;cases h
 |some o =>
  rw[c]at h;dsimp[YB]at h;obtain⟨b,a⟩:=h;cases d:o.data with
  |seq its n =>
   rw[d]at a;dsimp[YB,YS]at a;exact⟨p,rfl,o,its,n,c,beq_iff_eq.mp b,d,a.1,wC a.2⟩
  |_=>rw[d]at a;cases a
/---/def Nt(T:pQ):List (Str × List .bJ):=T.map λp=>(toS p.1,p.2)
/---/def AW(K:ZX)(a:Addr)(T:pQ):Prop:=KTD.tabLook (wD K) (λb=>K.lookup b) a (Nt T)=true
theorem R8{l:.i}:∀{T:pQ},KTD.datumAt .X (Nt T)=T.lookup l
 |[]=>rfl
 |(k,d)::T=>by
  show (if decide .n1=true then some d else KTD.datumAt .X (Nt T))=_;rw[YC]
  by_cases e:l=k
  ·subst e;simp
  ·have a:(l == k)=false:=by simpa using e
   rw[a,y3 (by simpa using λz=>e (qC.mp z))];exact R8
section
variable{X:Cx}{pos p p2:Pos}
def Iw{σ:L2.St}{s:P1}{a:Addr}{T:pQ}(I:.p)(t:AW X.K a T):KTD.TabOf (RTk X.K) s.heap a (Nt T) :=
 KTD.tab_of_look (λ_ _ q=>AV q) (λb o q=>I.kIn b o q) t
def QD{a:Addr}{D:List (Str × g)}{k:Str}{tk:Tok}{d:g}{Q:Option S1->P1->Prop}(T:KTD.TabOf R s.heap a D)(f:KTD.datumAt k D=some d)
  (h1:∀v,R d v->Q .dR .dE):.ao (dictGet a<|.str k tk) Q E s:=by
 obtain⟨_,o,b,t,n,u,m,j⟩:=T;obtain⟨v,r,q⟩:=j.find_some f;unfold dictGet
 try with_reducible refine YZ ?_
 refine zF (wpAny_pyHash_str (zF (KTD.kt_dictFind_strs n m (by obtain⟨l⟩:=b;simpa using j.exact) ?_)));have c:Q (findBy (λk v=>v.isStr k) b k) .dE:=by
  rw[show findBy (λk v=>v.isStr k) b k=some v from (by obtain⟨l⟩:=b;simpa[findBy] using r)];exact h1 v q
 rw[findBy_of_findIdx?]at c;cases h:b.findIdx? λe=>e.key.isStr k with
 |none=>rw[h]at c;exact z3 c
 |some i=>rw[h]at c;exact zF (wpAny_dictEntries n m<|z3 c)
def Nu:∀{vs:List S1},bn (vTs ss) vs->KTD.Flats vs .zN:=by
 induction ss with
 |nil=>intro vs h;cases h;exact .nil
 |cons l ss a =>
  intro vs h;cases h with
  |cons r t=>obtain⟨b,rfl⟩:=r;exact .cons (.str _ _) (a t)
/---/def tkD(ss:.aQ):KTD.Dat:=.tup .zN
/---/def Nv(T:pQ):List (Str × KTD.Dat):=(Nt T).map λp=>(p.1,tkD p.2)
def Ix{σ:L2.St}{s:P1}{a:Addr}{T:pQ}(I:.p)(t:AW X.K a T):KTD.Here s.heap s.heap a (Nv T):=by
 obtain⟨f,o,r,l,m,q,k,j⟩:=Iw I t;refine⟨⟨f,o,r,l,m,q,k,j.mono λx v h=>?_⟩,λ_ _ e=>e⟩;obtain⟨p,e,c,b,n,d,u,i,w,g⟩:=h;exact⟨p,b.toList,e,⟨c,I.kIn _ _ d,u,n,by simpa using i⟩,Nu g⟩
theorem Iy{l:.i}:∀{T:pQ},KTD.inKeys .X (Nv T)=(.ol).isSome
 |[]=>rfl
 |(k,d)::T=>by
  show (decide .n1||KTD.inKeys .X (Nv T))=_;rw[Iy,YC]
  by_cases e:l=k
  ·subst e;simp
  ·have a:(l == k)=false:=by simpa using e
   rw[a,xC (λz=>e (qC.mp z))];rfl
def Nw(t:AW X.K a T):.ae .nz (λx y H Q=>∃l,x=.str .X/\y=.ref a/\Q (.bl (.ol).isNone) H):=by
 intro pins s σ H x y v u Q I c d h;obtain⟨l,rfl,rfl,q⟩:=h;obtain⟨f,rfl⟩:=c;cases (show u=Value.ref a from d);refine KTD.notin_text (Ix I t) ⟨.bl (.ol).isNone,H,I.kept λb o e=>e,?_,q⟩;rw[Iy];cases T.lookup l<;>rfl
def Nx(h:.U x)(hm:.pp)(t:AW X.K A T)(n:.g a g)(m:.Dh)(hd:autoParam (.aY=false) Q1Q._auto_1):MT X (.hC [.NotIn] [.Name x p]) (tE<|FC T g):=by
 refine PT.imp (vk (Nw t) n .z1 m) λσ H Q ⟨ρ,σd,hd,j,c⟩=>?_;have c:=jJ c;refine⟨ρ,σd,hd,j,(.av c).imp λv o zz=>?_⟩;obtain⟨i,d,k,q,e,f,b⟩:=zz;cases d<;>try exact b.elim
 rename_i l
 dsimp[rD,RD]at f;simp only at b;exact⟨l,f,rfl,b.here e .Y⟩
theorem Iz{K:ZX}{H:Hp}:∀(ss:.aQ),.aw (ss.map .str) (vTs ss)
 |[]=>RDs.nil
 |l::ss=>.hO (Iz ss)
def AX(M:.U x)(hm:.pp)(t:AW X.K A T)(K:.g b w)(O:autoParam (MK b) Q6Q._auto_1)(hd:autoParam (.aY=false) Q1Q._auto_1):.g (.d5 .fp b) (CK T w):=by
 intro pins s σ H Q I ⟨ρ,σd,hd',F,J⟩;refine .u2 O (thn (oE (v:=.ref A) M hm rfl hd pins s σ H (λy j=>y=.ref A/\j=H) I ⟨rfl,rfl⟩) λu N zz=>?_);obtain⟨y,j,P,L,B,V⟩:=zz;subst B V;obtain rfl:u=Value.ref A:=L;refine thn (K pins N σ j (λz f=>∃l d,z=.str .X/\T.lookup l=some d/\∀q,Tc X.K q (vTs d)->Q .hF f) P ⟨ρ,σd,hd',F,(.av J).imp λv f ⟨R,d,G,B,i,r,a⟩=>?_⟩) λZ h ⟨z,f,m,E,l,d,Y,W,q⟩=>?_
 ·cases d<;>try exact a.elim
  rename_i l
  dsimp[rD,RD]at r;simp only at a;cases c:T.lookup l with
  |none=>rw[c]at a;exact a.elim
  |some d =>
   rw[c]at a;refine⟨l,d,r,c,λq k=>a.here i ?_⟩;dsimp[rD,qw,RD];exact .inr ⟨trivial,q,_,rfl,k,Iz d⟩
 ·subst Y
  obtain⟨U,rfl⟩:=E;have C:=Ix m t;have g:h.TypeIs .eE "dict" := C.typeIs;refine⟨g,?_⟩;unfold getItem
  try with_reducible refine YZ ?_
  refine zF (zXr g .b ?_);refine zF (YL g zZp (YP zZp g PySem.F.entry_dict_getitem ?_ .y9));show wpAny _ _ (dictGet A (.str .X U) >>= _) _ _ h;have D:Inv X pins σ f { h with toks:=h.toks+1 }:=m.kept λb o e=>e;refine zF (QD (Iw m t) (R8.trans W) λv S=>z3 ⟨v,rfl,z3 ?_⟩);obtain⟨n,rfl,k⟩:=S;exact⟨.ref n,f,D,rfl,q n k⟩
def QE(h:.U "len")(hm:.pq)(j:.g a e)(b:autoParam (.aS X.env=(false,.aW X.env)::starEach [] X.env) Q3Q._auto_1):.g .uV (MC e):=by
 refine yK (Cl qo h hm PySem.boot_len (he:=b)) j (λρ H σd o σ d v Q i f p=>?_) b;cases d<;>first|exact p.elim|skip
 rename_i c l
 simp only at p;split at p
 ·rename_i k
  dsimp[RD]at f;rcases f with ⟨n,_⟩|⟨_,q,g,rfl,m,rvs⟩
  ·exact absurd k n
  ·exact⟨q,g,rfl,.inr (.inr m),by rw[<-rvs.length];exact p.here i .Y⟩
 ·exact p.elim
def QF(r:.lz):.ae (.d6 .Eq) (λx y H Q=>∃p q vs,x=.ref p/\y=.ref q/\SqT X.K H p vs/\SqT X.K H q []/\Q (.bl vs.isEmpty) H):=by
 intro pins s σ H x y v u Q I f n h;obtain⟨p,q,vs,rfl,rfl,b,a,k⟩:=h;cases (show v=Value.ref p from f);cases (show u=Value.ref q from n);obtain⟨o,i,d,_⟩:=I.tuple b;obtain⟨c,m,l,_⟩:=I.tuple a;cases m;have g:=SeqAt.RcAt.tuples (A:=X.A) (e:=λ_=>true) d l .a (λj b a=>absurd a .d);refine g _ _ _ _ ⟨.bl vs.isEmpty,H,I,?_,k⟩;cases i with
 |nil=>rfl
 |cons _ _=>simp;rfl
def QG(r:.lz)(A:.g a k)(y:autoParam (behindInMarks .Eq (.Tuple [] m j)=false) Q3Q._auto_1):MT X (.hC [.Eq] [.Tuple [] m j]) (tE<|MD k):=by
 refine PT.imp (vk (QF r) A (L0 dE) y) λσ H Q ⟨ρ,σd,z,t,f⟩=>?_;have f:=jJ f;refine⟨ρ,σd,z,t,(.av f).imp λv o zz=>?_⟩;obtain⟨s,d,w,D,g,i,b⟩:=zz;refine⟨by simp,λq C=>?_⟩;cases d<;>try exact b.elim
 rename_i c l
 simp only at b;split at b
 ·rename_i B
  dsimp[rD,RD]at i;rcases i with ⟨n,_⟩|⟨_,u,e,rfl,x,rvs⟩
  ·exact absurd B n
  ·have h:kR o (upd o q<|.tup []):=cA C
   refine⟨u,q,e,rfl,rfl,.inr x,.inl (Rd.of bw),?_⟩;rw[show e.isEmpty=l.isEmpty from by cases l<;>cases e<;>first|rfl|(have:=rvs.length;simp at this)];exact b.at (.eH h) (g.same h) .Y
 ·exact b.elim
end
theorem sj(sp:.i):∀ss:List .bJ,Str.join (toS sp) (ss.map toS)=toS .oH
 |[]=>rfl
 |[x]=>rfl
 |x::y::r=>by
  have a:=sj sp (y::r);show toS x++toS sp++Str.join (toS sp) ((y::r).map toS)=_;rw[a,qy,qy];rfl
def ze(sp:.i)(ss:.aQ):Txt.join (toS sp) (ss.map toS)=toS .oH:=(StrLaws.glued_eq_join _ _).trans (sj sp ss)
/---/def Uf(K:ZX)(sp:.i):V->List V->Hp->VK->Prop:=λx vs H Q=>∃(q:Addr) (ss:.aQ),x=.str (toS sp)/\vs=[.ref q]/\(SqL K H q .rE\/H q=some (.tup .rE))/\(ss.map (·.length)).sum+ss.length*sp.length<=1000000/\Q (.str<|toS .oH) H
section
variable{X:Cx}{pos p:Pos}
def Ny(sp:.i):MtR X "str.join" (Uf X.K sp):=by
 intro pins s σ H x o v y Q I j m h;obtain⟨q,b,rfl,rfl,c,w,g⟩:=h;obtain⟨t,rfl⟩:=j;obtain⟨u,rfl,l⟩:=m.one;cases (show u=Value.ref q from l);have f:((b.map toS).map (·.length)).sum+(b.map toS).length*(toS sp).length<=16777216:=by
  have:((b.map toS).map (·.length))=b.map (·.length):=by rw[ZY];apply YQ;intro a _;simp[toS,Str.length]
  rw[this,ZA,fP];omega
 rcases c with c|c
 ·obtain⟨e,r,i,_⟩:=I.list c
  exact join_list i.isList .x9 f λd k=>⟨.str (toS<|br sp b),H,I.tok k,⟨d,by rw[ze]⟩,g⟩
 ·obtain⟨_,e,r,n⟩:=I.hok q _ c
  exact join_tuple n .x9 f λd k=>⟨.str (toS<|br sp b),H,I.tok k,⟨d,by rw[ze]⟩,g⟩
def lE{apos a p1:Pos}(y:x=toS sp)(he:MQ X e L)(d:autoParam (attributeBase .lM "join" X.env (eval .lM X.env)=eval .lM X.env) Q3Q._auto_1)
  (f:autoParam (((.jI a).all .e7 && (.tb).all .e3
   && decide .hT)=true) Q3Q._auto_1)
  (b:autoParam (.rZ=true) Q3Q._auto_1) (i:autoParam (.l4 X.env=(false,.az X.env)::starEach [] X.env) Q3Q._auto_1) :
  ME X (.Call (.Attribute .lM "join" apos) [e] [] a) (jo sp L):=by
 refine PE.imp (.u4 PySem.F.slot_str_join PySem.F.type_str_join (Ny sp) EZ (cx he dE i) d f b i) λσ H Q ⟨ρ,σd,u,n,s⟩=>⟨rfl,ρ,σd,u,n,(bP.bind (R:=rQ X.K) s).imp λv B ⟨m,l,r,A,g,⟨q,z,w,k,h⟩,p1⟩=>?_⟩;subst w;cases c:pv l with
 |none=>dsimp[c]at p1;exact p1.elim
 |some o =>
  dsimp[c]at p1;split at p1
  ·rename_i t
   have e:=C6 h c;subst e;exact⟨q,o,by rw[y],rfl,k,t,p1.here g .Y⟩
  ·exact p1.elim
end
section
variable{X:Cx}{pos p p2 kpos:Pos}
inductive qD(K:ZX)(H:Hp):List V->List Int->Prop
 |nil:qD K H [] []
 |cons {b:Addr} {ys vs:List V} {kz:.c} (h:SqL K H b ys) (t:qD K H vs kz):qD K H (.ref b::vs) ((ys.length:Int)::kz)
theorem qD.length{K:ZX}:∀{vs:List V} {kz:.c},qD K H vs kz->kz.length=vs.length
 |_,_,.nil=>rfl
 |_,_,.cons _ t=>by simp[t.length]
theorem qD.at{K:ZX}:∀{vs:List V} {kz:.c} {a:List S1},qD K H vs kz->bn vs a->∀(i:Nat) v k,a[i]?=some v->kz[i]?=some k->∃b ys,v=.ref b/\SqL K H b ys/\k=(ys.length:Int)
 |_,_,_,.nil,.nil,i,v,k,h,_=>by simp at h
 |_,_,_,.cons (b:=b) (ys:=ys) h0 t,.cons d rt,i,v,k,h1,c=>by
  cases d;cases i with
  |zero=>simp at h1 c;exact⟨b,ys,h1.symm,h0,c.symm⟩
  |succ i=>exact t.at rt i v k .gG .nB
def Nz:∀{vs:List V} {c:List S1} (kz:.c),bn vs c->bn ((.fs .iE).map (·.2)) ((.fs<|kz.zip c).map (·.2)):=by
 have j:∀{x:Int × V} {y:Int × S1} (e:x.1=y.1) (n:cw x.2 y.2) {l:List .oM} {m:List .ku},l.map (·.1)=m.map (·.1)->bn .b6 .pS->(.gh x l).map (·.1)=(.gh y m).map (·.1)/\bn ((.gh x l).map (·.2)) ((.gh y m).map (·.2)):=by
  intro x y e n l
  induction l with
  |nil =>
   intro m d f;cases m with
   |nil=>exact⟨by simp[Ts.insK,e],.cons n .nil⟩
   |cons _ _=>simp at d
  |cons a l o =>
   intro m d f;cases m with
   |nil=>simp at d
   |cons b m =>
    dsimp[y6,yh]at d;cases f with
    |cons h i =>
     unfold Ts.insK;rw[e,d.1];split
     ·exact⟨by simp[e,d.1,d.2],.cons n (.cons h i)⟩
     ·obtain⟨q1,q2⟩:=o d.2 i
      exact⟨by simp[d.1,q1],.cons h q2⟩
 have q:∀{vs:List V} {c:List S1} (kz:.c),bn vs c->∀{l:List .oM} {m:List .ku},l.map (·.1)=m.map (·.1)->bn .b6 .pS->bn (((.iE).foldl (λg x=>.p6 g) l).map (·.2)) (((kz.zip c).foldl (λg x=>.p6 g) m).map (·.2)):=by
  intro vs
  induction vs with
  |nil =>
   intro c kz r l m d f;cases r;cases kz<;>exact f
  |cons v vs o =>
   intro c kz r l m d f;cases r with
   |cons h i =>
    cases kz with
    |nil=>exact f
    |cons k kz =>
     simp;obtain⟨q1,q2⟩:=j (x:=(k,_)) (y:=(k,_)) rfl h d f;exact o kz i q1 q2
 intro vs c kz r;exact q kz r rfl .nil
/---/def NA(K:ZX):List V->Hp->VK->Prop:=λxs H Q=>∃(a:Addr) (vs:List V) (kz:.c),xs=.bQ/\SqL K H a vs/\(∃k,k<=6/\kz=Ts.popK k)/\qD K H vs kz/\∀q,H q=none->Q .cH (.aA q (.lst ((.fs .iE).map (·.2))))
def FR{σ:L2.St}(I:.p)(r:bn xs us)(h:NA X.K xs H Q):
  wpAny .af X.A (call .ih us [(Str.ofString "key",.builtin "len")]) .bL X.xe s:=by
 obtain⟨a,w,kz,rfl,P,⟨k,M,m⟩,C,q⟩:=h;have a0:w.length<=1000:=by rw[<-C.length,m];exact ZM (Ts.popK_le M) .b
 obtain⟨u,rfl,Z⟩:=bn.one r;cases (show u=Value.ref a from Z);obtain⟨d,g,R,hz⟩:=I.list P;have T:s.heap.IsList a d.toArray:=R.isList;have j:d.length=w.length:=g.length.symm;obtain⟨o,ho,U,n,hd⟩:=T;refine call_function_entry_kw kind_sorted plain_sorted entry_sorted (ksk_s1 _ _) ?_;unfold Builtin.«sorted»;refine zF .aa;refine zF (wpAny_collect_seq a .a8 ho U hd (λe K=>?_) (by rw[v3,YG];omega));have et:d.toArray.toList=d:=by simp
 rw[et];refine zF (zXj ?_ .s9);have f:(e.push .m3).get? e.objs.size=some .m3:=ZJ _ rfl;have keep:∀b u,e.get? b=some u->(e.push .m3).get? b=some u:=λb u z=>.H z;generalize hG:e.push .m3=G at f keep;have O:Inv X pins σ H { s with heap:=e }:=I.kept K;refine zF (YZ (wpAny_call_entry_kw slot_list_sort ⟨_,f,rfl⟩ entry_list_sort (by
  rw[ksk_t4];refine Ts.sort_keyed f M m (by rw[C.length,j]) (λi v k hv S y tk x Q2 J=>?_) λy tk c x E=>⟨_,rfl,?_⟩
  ·obtain⟨b,ys,rfl,sb,rfl⟩:=C.at g i v k hv S
   obtain⟨L,t,A,W⟩:=I.list sb;obtain⟨l,F,B,n2,D⟩:=A.isList;have N:=K b l F;have e2:y.get? b=some l:=x b l (ZN<|ZI N) (keep b l N);have hn:=pK;refine Calls.call_len_list ⟨l,e2,B,n2,D⟩ (by rw[v3,<-t.length];omega) ?_;rw[v3,<-t.length];exact J _ _
  ·refine z3 ⟨_,rfl,?_⟩
   have Y:∀b u,e.get? b=some u->y.get? b=some u:=λb u z=>x b u (ZN<|ZI z) (keep b u z);have rv:=Nz kz g;have vl:((.fs<|kz.zip w).map (·.2)).length<=1000:=by
    rw[ZA,(.tg).length_eq,List.length_zip];omega
   exact⟨.ref e.objs.size,_,O.laid (o:=.lst ((.fs<|kz.zip w).map (·.2))) Y .o ⟨by rw[YG];omega,_,c,rv,E⟩,rfl,q _ (O.hok.fresh .o)⟩) (ksk_l1 _ _)))
def QH{K:ZX}:∀{l:List D} {vs:List V} (kz:.c),RDs K ρ H l vs->.aw ((.fs<|kz.zip l).map (·.2)) ((.fs .iE).map (·.2)):=by
 have n:∀{x:Int × D} {y:Int × V} (e:x.1=y.1) (o:.bF x.2 y.2) {l:.cP} {m:List .oM},l.map (·.1)=m.map (·.1)->RDs K ρ H .b6 .pS->(.gh x l).map (·.1)=(.gh y m).map (·.1)/\.aw ((.gh x l).map (·.2)) ((.gh y m).map (·.2)):=by
  intro x y e o l
  induction l with
  |nil =>
   intro m c g;cases m with
   |nil=>exact⟨by simp[Ts.insK,e],⟨_,_,rfl,o,rfl⟩⟩
   |cons _ _=>simp at c
  |cons a l q =>
   intro m c g;cases m with
   |nil=>simp at c
   |cons b m =>
    dsimp[y6,yh]at c;obtain⟨v,r,j,h,i⟩:=g;cases j;unfold Ts.insK;rw[e,c.1];split
    ·exact⟨by simp[e,c.1,c.2],⟨_,_,rfl,o,⟨_,_,rfl,h,i⟩⟩⟩
    ·obtain⟨q1,q2⟩:=q c.2 i
     exact⟨by simp[c.1,q1],⟨_,_,rfl,h,q2⟩⟩
 have s:∀{vs:List D} {d:List V} (kz:.c),RDs K ρ H vs d->∀{l:.cP} {m:List .oM},l.map (·.1)=m.map (·.1)->RDs K ρ H .b6 .pS->.aw (((.iE).foldl (λf x=>.p6 f) l).map (·.2)) (((kz.zip d).foldl (λf x=>.p6 f) m).map (·.2)):=by
  intro vs
  induction vs with
  |nil =>
   intro d kz r l m c g;cases r;cases kz<;>exact g
  |cons v vs q =>
   intro d kz r l m c g;obtain⟨u,t,j,h,i⟩:=r;cases j;cases kz with
   |nil=>exact g
   |cons k kz =>
    simp;obtain⟨q1,q2⟩:=n (x:=(k,_)) (y:=(k,_)) rfl h c g;exact q kz i q1 q2
 intro l vs kz r;exact s kz r rfl rfl
theorem Dc{K:ZX}{ρ:.I}{H:Hp}{hd:Hd}(r:.aP):∀{l:List D} {vs:List V} {kz:.c},RDs K ρ H l vs->CO hd l=some kz->qD K H vs kz
 |[],_,_,h,e=>by cases h;cases e;exact .nil
 |x::l,_,_,h,e=>by
  obtain⟨v,s,rfl,i,m⟩:=h;unfold CO at e;cases a:CN hd x with
  |none=>rw[a]at e;cases e
  |some k =>
   cases d:CO hd l with
   |none=>rw[a,d]at e;cases e
   |some kz' =>
    rw[a,d]at e;cases e;have t:=Dc r m d;cases x with
    |ref n =>
     replace a:(match hd[n]? with|some .cq=>some (l.length:Int)|_=>none)=some k:=a;cases c:hd[n]? with
     |none=>rw[c]at a;cases a
     |some o =>
      rw[c]at a;cases o with
      |lst g =>
       cases a;obtain⟨q,j,rfl,f,b⟩:=oF r i (l:=g) (by simp[ee,c]);rw[RDs.length b];exact .cons f t
      |dct _=>cases a
      |dcT _=>cases a
      |ob _=>cases a
    |_=>cases a
def FS(z:.pA)(hm:.pc)(o:.U "len")(n:.pq)(F:.g a j)(k:autoParam (.aS X.env=(false,.aW X.env)::starEach [] X.env) Q3Q._auto_1):MF X (.Call .lL [a] .yf pos) (nX j):=by
 have E:.w (.Call .lL [a] .yf pos) (tCB (NA X.K)<|RY (nB X.K .ew j) Vg):=by
  intro pins s σ H Q I h;refine zYk (kQ (u:=.builtin "sorted") I z hm .T ?_);refine callWith_kw (thn ((cx F dE k) pos pins s σ H _ I h) λO N ⟨r,G,t,B,q1⟩=>?_) (by rw[k];rfl) (by rw[k];rfl) rfl rfl;refine wpAny_evalAll_cons (zF<|kQ (u:=.builtin "len") t o n .T<|zF<|wpAny_standAt .aa);refine wpAny_evalAll_nil ?_;exact FR t B q1
 refine PE.imp E λσ H Q ⟨ρ,σd,w,C,b⟩=>⟨ρ,σd,w,C,?_⟩;unfold nX at b;cases e:j σd w with
 |exc x P=>rw[e]at b;exact b
 |bad=>rw[e]at b;exact b
 |ok d g =>
  rw[e]at b;dsimp[aE]at b;intro v G A L f D;cases c:ee g d with
  |none=>rw[c]at b;exact b.elim
  |some l =>
   rw[c]at b;simp only at b;cases m:CO g l with
   |none=>rw[m]at b;exact b.elim
   |some kz =>
    rw[m]at b;simp only at b;split at b
    ·rename_i J
     obtain⟨q,r,rfl,y,i⟩:=oF f.hp D c;exact⟨q,r,kz,rfl,y,J,Dc f.hp i m,λK M=>b.mk L f (QH kz i) K M⟩
    ·exact b.elim
end
end Fm
namespace PySem.P
open PySem PySem.Spec PySem.Builtin
def str_of_non(h:Q (.str "None" s.toks) .dE):wpAny .N A (call .r6 [.none]) Q E s :=
 callType_new F.called_str .b (F.typeCall_str_1 _) (F.newCall_str_1 _) .yK F.entry_str_new
  (meets_str_new (S:=λ_ R s=>R (.ok<|.ret<|.str "None" s.toks) { s with toks:=s.toks + 1 }) λ_ _ _ _ s a =>
   wpAny_strOf_gives rfl (typeIs_none s) F.slot_NoneType_str F.slot_NoneType_repr F.entry_NoneType_repr (F.args_NoneType_repr_1 _) gives_none_repr a) ⟨zXn _ _ _,h⟩
end PySem.P
namespace Fm
open PySem PySem.Spec L2 PySem.W PyProof.Rows
def Kh:gE X .r6 (λxs H Q=>(∃i,xs=[.int i]/\i.natAbs.log2<1920/\Q (.str .fM) H)\/(xs=[.non]/\Q (.str "None") H)):=by
 intro pins s σ H xs c Q I r h;rcases h with ⟨i,rfl,a,q⟩|⟨rfl,q⟩
 ·obtain⟨u,rfl,t,rfl⟩:=qj r
  exact PySem.P.str_of_int a ⟨.str _,H,I.tok _,⟨_,rfl⟩,q⟩
 ·obtain⟨u,rfl,b⟩:=qj r
  cases b;exact PySem.P.str_of_non ⟨.str _,H,I.tok _,⟨_,rfl⟩,q⟩
def QI(j:.U "str")(hm:X.mg "str"=none)(l:.g a e)(c:autoParam (.aS X.env=(false,.aW X.env)::starEach [] X.env) Q3Q._auto_1):.g (.bU<|.bw "str") (CL e):=by
 refine yK (g:=λx h=>match x with | .int i=>if i.natAbs.log2<1920 then .ok (.str<|qg .fM) h else .bad | .non=>.ok .uY h|_=>.bad) (Cm Kh j hm .T (he:=c)) l (λρ H σd m σ d v Q f b p=>?_) c;cases d<;>first|exact p.elim|skip
 ·dsimp[RD]at b;subst b
  exact .inr ⟨rfl,p.here f .mR⟩
 ·rename_i i
  dsimp[RD]at b;subst b;simp only at p;split at p
  ·rename_i k
   exact .inl ⟨i,rfl,k,p.here f .mR⟩
  ·exact p.elim
end Fm
namespace Fm
open PySem PySem.Spec L2
section
variable{X:Cx}{pos p pos2 p2:Pos}
def Ki(B:.aU)(D:.pA)(hm:.pc)(n:.U "set")(i:X.mg "set"=none)(I:.g a s)
  (y:autoParam (starEach .yy X.env=(false,eval (.Call (.Name "set" p2) [a] [] pos2) X.env)::starEach [] X.env) Q3Q._auto_1)
  (g:autoParam (.aS X.env=(false,.aW X.env)::starEach [] X.env) Q3Q._auto_1) :
  MF X (.cT .lL .yy) (oK s):=by
 refine PE.imp (jV (FJ B) D hm .T (cx (rR (J6 B) n i .T (cx I dE g) (he:=g)) dE y) (he:=y)) λσ H Q ⟨ρ,σd,A,F,b⟩=>⟨ρ,σd,A,F,?_⟩;unfold oK at b;cases e:s σd A with
 |exc x L=>rw[e]at b;exact b
 |bad=>rw[e]at b;exact b
 |ok d j =>
  rw[e]at b;dsimp[aE]at b;intro v M E J f G;cases c:ee j d with
  |none=>rw[c]at b;exact b.elim
  |some l =>
   rw[c]at b;simp only at b;cases r:dG l with
   |none=>rw[r]at b;exact b.elim
   |some h =>
    rw[r]at b;simp only at b;split at b
    ·rename_i z
     obtain⟨q,K,rfl,C,t⟩:=oF f.hp G c;have k:=jY t r;subst k;refine⟨q,h,rfl,C,z,λq1 m=>?_⟩;have w:=cA (o:=HO.ext (.pZ q1<|gp h)) m;exact⟨q1,gp h,rfl,bw,ZS (yR h) z,λq2 u=>b.mk (J.trans<|.eH w) (f.same w) (TV _) q2 u⟩
    ·exact b.elim
end
end Fm
namespace L2
open PySem PySem.Spec PyProof.Rows Builtin.Str
section
variable{X:Cx}
def Kj:MtR X "str.startswith" (λx vs H Q=>∃a b:Str,x=.str a/\vs=[.str b]/\Q (.bl<|decide .Cn&&subAt a b 0) H):=by
 intro pins s σ H x vs v g Q I c f h;obtain⟨a,b,rfl,rfl,q⟩:=h;obtain⟨t,rfl⟩:=c;obtain⟨u,rfl,e⟩:=f.one;obtain⟨d,rfl⟩:=e;exact call_gives F.slot_str_startswith .on F.entry_str_startswith (F.args_str_startswith_2 _ _) (gives_str_startswith a b t d) ⟨.bl (decide .Cn&&subAt a b 0),H,I,rfl,q⟩
end
end L2
namespace Fm
open PySem PySem.Spec L2 PySem.W PyProof.Rows Builtin.Str
section
variable{X:Cx}{pos p:Pos}
def WW(l k:.i):(decide (0+(toS k).length<=(.X).length)&&subAt .X (toS k) 0)=(decide .st&&.sd):=by
 rw[StrLaws.subAt_eq,fP,fP,Z6];rfl
def zf{apos a:Pos}(D:.g o u)(he:.g e s)(c:autoParam (.eK "startswith" X.env .ce=eval o X.env) Q3Q._auto_1)
  (f:autoParam (((.jI a).all .e7 && (.tb).all .e3
   && decide .hT)=true) Q3Q._auto_1)
  (b:autoParam (.rZ=true) Q3Q._auto_1) (n:autoParam (.l4 X.env=(false,.az X.env)::starEach [] X.env) Q3Q._auto_1) :
  ME X (.Call (.dq "startswith") [e] [] a) (mr u s):=by
 refine PE.imp (.u4 PySem.F.slot_str_startswith PySem.F.type_str_startswith Kj D (cx he dE n) c f b n) λσ H Q ⟨ρ,σd,C,z,B⟩=>⟨ρ,σd,C,z,(.gg B).imp λv I zz=>?_⟩;obtain⟨h,d,i,J,j,q,r⟩:=zz;cases d<;>try exact r.elim
 rename_i l
 dsimp[rD,RD]at q;subst q;refine⟨rfl,h,σd,i,j,(.gg r).imp λE F zz=>?_⟩;obtain⟨A,w,y,G,m,g,t⟩:=zz;cases w<;>try exact t.elim
 rename_i k
 dsimp[rD,RD]at g;subst g;refine⟨toS l,toS k,rfl,rfl,?_⟩;rw[WW];exact t.here m .Y
end
end Fm
namespace L2
open PySem PySem.Spec PyProof.Rows Builtin.Str
theorem zg:∀(tk:Nat) (xs:.aq),bn (xs.map V.str) (strsFrom tk xs)
 |_,[]=>.nil
 |tk,x::r=>.cons ⟨tk,rfl⟩ (zg (tk+1) r)
section
variable{X:Cx}
def NB:MtR X "str.split" (λx vs H Q=>∃(a:Str) (c:Nat),x=.str a/\vs=[.str ⟨#[c]⟩]/\a.length<=sizeLine/\(.Bm).length<=sizeLine/\∀p,H p=none->.c5 (.br<|.lst<|(.Bm).map V.str)):=by
 intro pins s σ H x vs v n Q I j l h;obtain⟨a,c,rfl,rfl,m,g,q⟩:=h;obtain⟨t,rfl⟩:=j;obtain⟨u,rfl,k⟩:=l.one;obtain⟨t',rfl⟩:=k;have self:Txt.split a ⟨#[c]⟩=[a]->listOfItself a t X.A (wants .bL X.xe) s:=λe=>by
  rw[e]at q;exact⟨.ref s.heap.objs.size,_,I.laid (t':=s.toks) (o:=.lst [V.str a]) (λb i q=>.H q) .o ⟨by show 1<=sizeLine;decide,_,0,.p4 .nil,ZJ _ rfl⟩,rfl,q _ .dJ⟩
 cases d:(decide (a.length<(⟨#[c]⟩:Str).length)||decide (strKind a<strKind ⟨#[c]⟩))
 ·cases f:(.qx).isEmpty
  ·have e:Txt.split a ⟨#[c]⟩=partsBetween a .qx (⟨#[c]⟩:Str).length:=by
    unfold Txt.split;rw[y3 (by rw[d];exact Z7),y3 (by rw[f];exact Z7)]
   rw[e]at g q;refine zXv F.slot_str_split .on F.entry_str_split .r1 (meets_str_split_sep a ⟨#[c]⟩ t t' d rfl f m g) ?_;exact⟨.ref s.heap.objs.size,_,I.laid (t':=s.toks+(.xx).length) (o:=.lst ((.xx).map V.str)) (λb i q=>.H q) .o ⟨by rw[ZA];exact g,_,0,zg _ _,ZJ _ rfl⟩,rfl,q _ .dJ⟩
  ·exact zXv F.slot_str_split .on F.entry_str_split .r1 (meets_str_split_not_found a ⟨#[c]⟩ t t' d rfl f) (self (by unfold Txt.split;rw[y3 (by rw[d];exact Z7),z4 f]))
 ·exact zXv F.slot_str_split .on F.entry_str_split .r1 (meets_str_split_cannot_occur a ⟨#[c]⟩ t t' d) (self (by unfold Txt.split;rw[z4 d]))
end
end L2
namespace Fm
open PySem PySem.Spec L2 PySem.W PyProof.Rows
def NC(x:Str):toS x.cps.toList=x:=by unfold toS;cases x;simp
def zh(l:.i)(c:Nat):Txt.split .X ⟨#[c]⟩=(eu c l).map toS:=by
 obtain⟨P,a⟩:=qq ((Txt.split .X ⟨#[c]⟩).map λx=>x.cps.toList:.aQ);have e:Txt.split .X ⟨#[c]⟩=P.map toS:=by
  rw[a,ZY];exact((YQ λx _=>NC x).trans (List.map_id _)).symm
 have j:=StrLaws.join_split .X ⟨#[c]⟩;rw[e,show (⟨#[c]⟩:Str)=toS [c] from rfl,sj]at j;have d:br [c] P=l:=by
  have:=congrArg (λs:Str=>s.cps.toList) j;simpa[toS] using this
 have ne:P≠[]:=λz=>by
  have:=split_len .X c;rw[e,z]at this;have g:(0:Int)<=cnt c (.X).cps.toList:=countIn_nonneg _ _;have this:(0:Int)=1+cnt c (.X).cps.toList:=this;omega
 have fr:∀p∈P,c∉p:=λp b=>by
  rw[a]at b;obtain⟨x,f,rfl⟩:=z5.mp b;exact StrLaws.split_free .X c x f
 rw[e,<-d,fU ne fr]
theorem wE(c:Nat):∀l:List Nat,(eu c l).length<=l.length+1
 |[]=>ZL _
 |x::r=>by
  have a:=wE c r;rw[eu];split
  ·rw[Z2,Z2];omega
  ·cases e:eu c r with
   |nil=>simp
   |cons p b=>rw[e]at a;dsimp[Z2]at a⊢;omega
theorem Dd{K:ZX}:∀P:List .bJ,.aw (P.map D.str) ((P.map toS).map V.str)
 |[]=>RDs.nil
 |p::P=>.hO (Dd P)
section
variable{X:Cx}{pos p:Pos}
def qE{apos a p1:Pos}{j}(z:x=toS [c])(w:.g o k)(g:autoParam (.eK "split" X.env .ce=eval o X.env) Q3Q._auto_1)
  (h:autoParam (((backTo a<|.jD .nj).all .e7 && (.tb).all .e3
   && decide ((.nj:.aL).length+([]:List Keyword).length+.l6<30))=true) Q3Q._auto_1)
  (f:autoParam (.rZ=true) Q3Q._auto_1) (m:autoParam (starEach .nj X.env=(false,eval .lM X.env)::starEach [] X.env) Q3Q._auto_1) :
  MF X (.Call (.dq "split") .nj [] a) (mx c k):=by
 refine PE.imp (.u4 PySem.F.slot_str_split PySem.F.type_str_split NB w (cx EZ dE m) g h f m) λσ H Q ⟨ρ,σd,r,t,b⟩=>⟨ρ,σd,r,t,?_⟩;unfold mx at b;cases e:k σd r with
 |exc x A=>rw[e]at b;exact b
 |bad=>rw[e]at b;exact b
 |ok d u =>
  rw[e]at b;dsimp[aE]at b;intro v B s y i n;cases d<;>try exact b.elim
  rename_i l
  dsimp[rD,RD]at n;subst n;simp only at b;split at b
  ·rename_i q
   refine⟨rfl,toS l,c,rfl,by rw[z];rfl,by rw[fP];exact ZM q C7,?_,?_⟩
   ·rw[zh,ZA]
    exact ZM (wE c l) (ZM (Nat.succ_le_succ q) .iv)
   ·rw[zh]
    exact b.mk y i (Dd _)
  ·exact b.elim
end
end Fm
namespace Fm
variable{d:D}{h h':Hd}
def sr(e:h'.length<=h.length):letGo h (.as h')=.as h':=by
 dsimp[letGo];split
 ·rw[zZd e]
 ·rfl
@[simp] theorem aU{h:Hd}{d:D}:letGo h (.ok d h)=.ok d h:=sr .o
@[simp] theorem Kl{h:Hd}{d:D}:letGo h (.ok d<|.d9 c)=.ok d (.d9 c):=sr .d
def lG(e:pure? d=false):letGo h (.as h')=.as h':=by
 simp[letGo,e]
@[simp] theorem cL{h h':Hd}:letGo h (.ok .e4 h')=.ok .e4 h':=lG rfl
def bT(e:pure? d=true):letGo h (.as .M)=.as h:=by
 have:HG h .M:=λn c a b=>.inl (by rwa[ZC a]at b);simp[letGo,e,this]
def zi(e:pure? d=true)(a:h'.length=h.length)(b:HG h (h'++g)):letGo h (.as<|h'++g)=.as h':=by
 simp[letGo,e,b,<-a]
structure Web where
 ties:List (List .bA)
 bars:List Int
 stays:List .gt
noncomputable def bj:Option Int->D
 |none=>.non
 |some i=>.int i
/---/def pS(p:.cO):D:=.tup [.int p.1,.int p.2]
/---/def wF(r:.a6):D:=.tup .fS
/---/def aK(l:.c):D:=.tup .eX
/---/def Web.enc(w:Web):D:=.tup [.tup .tx,.tup .s6,.tup .bg]
structure Web.Ok(w:Web)(n:Nat):Prop where
 t:w.ties.length=n
 b:w.bars.length=n
 s:w.stays.length=n
 lt:∀r∈w.ties,∀p∈r,p.1<n
 sz:n<=1000
structure fZ(w:Web)(n:Nat)(s:.c):Prop where
 len:s.length=n
 op:∀x∈s,x=0\/x=1
 st:∀(i:Nat) (x:Int),w.stays[i]?=some .fh->s[i]?=some x
variable{l:List D}
def du{i:Nat}(e:l[i]?=some d):atI l (i:Int)=some d:=by
 have:=(.dS).1;simp[atI,ixN,this];simpa[ZE this] using e
@[simp] theorem qF(x:D)(l:List D):atI (x::l) 0=some x:=du rfl
@[simp] theorem ND(x y:D)(l:List D):atI (x::y::l) 1=some y:=du rfl
@[simp] theorem Xc(x y z:D)(l:List D):atI (x::y::z::l) 2=some z:=du rfl
theorem bB{h:Hd}(I:Sd->Prop)(p:D->Bool)(f:D->D)(a:dC g all h):
  ∀{xs:List D} {σ:Sd},(∀x∈xs,∀σ,I σ->∃σ',tg x σ=some σ'/\I σ'/\i7 cs σ' h=.ok (p x) h/\.rs)->I σ->
   cz g all tg cs e xs σ h=.ok .sn h
 |[],_,_,_=>by simp[cz,a]
 |x::xs,σ,st,i=>by
  obtain⟨σ',h1,l,d,j⟩:=st x .d σ i;have c:=bB I p f a (xs:=xs) (λy k=>st y (by simp[k])) l;cases b:p x with
  |true=>simp[cz,a,h1,d,b,j b,c]
  |false=>simp[cz,a,h1,d,b,c]
theorem sw{rest:List D}(P:.pg)(j:.oU):
  ∀{xs:List D} {k:Nat} {σ:Sd} {h:Hd},(∀(i:Nat) x σ h,xs[i]?=some x->P (k+i) σ h->∃σ',tg x σ=some σ'/\∃σ'' a,b σ' h=.nx σ'' a/\P (k+i+1) σ'' a)->P k σ h->
   ∃σ' h',gu g all tg b (xs++rest) σ h=gu g all tg b rest σ' h'/\P .n5 σ' h'
 |[],k,σ,h,_,p=>⟨σ,h,rfl,by simpa using p⟩
 |x::xs,k,σ,h,st,p=>by
  obtain⟨σ',h1,s,t,o,l⟩:=st 0 x σ h .d (by simpa using p);have c:∀(i:Nat) y σ h,xs[i]?=some y->P (k+1+i) σ h->∃σ',tg y σ=some σ'/\∃σ'' a,b σ' h=.nx σ'' a/\P (k+1+i+1) σ'' a:=λi y σ h e q=>by
   have f:k+1+i=k+(i+1):=by omega
   rw[f]at q⊢;exact st (i+1) y σ h .em q
  obtain⟨d,n,r,m⟩:=sw P j c (by simpa using l);refine⟨d,n,?_,?_⟩
  ·rw[<-r,zYf,gu,z4 (j _ _ _ p),h1]
   dsimp[o]
  ·have f:k+(.bC).length=k+1+xs.length:=by simp;omega
   rw[f];exact m
variable{σ:Sd}{b:SF}
def cP(P:.pg)(c:.oU)(st:∀(i:Nat) x σ h,xs[i]?=some x->P (k+i) σ h->∃σ',tg x σ=some σ'/\∃σ'' a,b σ' h=.nx σ'' a/\P (k+i+1) σ'' a)(p:P k σ h):
   ∃σ' h',gu g all tg b xs σ h=.nx σ' h'/\P .n5 σ' h':=by
 obtain⟨σ',h',q,z⟩:=sw P c st p;rw[XA]at q;exact⟨σ',h',q.trans (by unfold gu;exact z4 (c _ _ _ z)),z⟩
theorem mG(P:.pg)(V:Nat->D->Prop)(c:.oU):
  ∀{xs:List D} {k:Nat} {σ:Sd} {h:Hd},(∀(i:Nat) x σ h,xs[i]?=some x->P (k+i) σ h->∃σ',tg x σ=some σ'/\∃d a,e σ' h=.ok d a/\V (k+i) d/\P (k+i+1) σ' a)->P k σ h->
   ∃ds h',cz g all tg [] e xs σ h=.ok ds h'/\ds.length=xs.length/\(∀(i:Nat) d,ds[i]?=some d->V (k+i) d)/\∃σ',P .n5 σ' h'
 |[],k,σ,h,_,p=>⟨[],h,by simp[cz,c _ _ _ p],rfl,by simp,σ,by simpa using p⟩
 |x::xs,k,σ,h,st,p=>by
  obtain⟨σ',h1,d,z,s,w,n⟩:=st 0 x σ h .d (by simpa using p);have b:∀(i:Nat) y σ h,xs[i]?=some y->P (k+1+i) σ h->∃σ',tg y σ=some σ'/\∃d a,e σ' h=.ok d a/\V (k+1+i) d/\P (k+1+i+1) σ' a:=λi y σ h e q=>by
   have m:k+1+i=k+(i+1):=by omega
   rw[m]at q⊢;exact st (i+1) y σ h .em q
  obtain⟨ds,r,t,v,f,j,o⟩:=mG P V c b (by simpa using n);refine⟨d::ds,r,?_,by simp[v],λi u l=>?_,j,?_⟩
  ·simp[cz,c _ _ _ p,h1,i7,s,t]
  ·cases i with
   |zero=>simp at l;subst l;simpa using w
   |succ i =>
    have:=f i u (by simpa using l);rwa[show k+1+i=k+(i+1) by omega]at this
  ·have m:k+(.bC).length=k+1+xs.length:=by simp;omega
   rw[m];exact o
variable{n:Nat}
def wG{α:Type}{ds:List α}{f:Nat->α}(b:ds.length=n)(h:∀(i:Nat) d,ds[i]?=some d->d=f i):ds=(.t).map f:=by
 apply YX;intro i
 by_cases a:i<n
 ·have:ds[i]?=some (ds[i]' .a):=by simp[b,a]
  rw[this,h i _ this];simp[a]
 ·simp[a,b]
theorem kE{b:SF}:∀{n:Nat} {σ:Sd} {h:Hd} {r:Out},eU t b n σ h=r->r ≠ .bad->∀{m:Nat},n<=m->eU t b m σ h=r
 |0,σ,h,r,e,f,m,_=>by dsimp[eU]at e;exact absurd e.symm f
 |n+1,σ,h,r,e,f,m,hm=>by
  cases m with
  |zero=>omega
  |succ m =>
   dsimp[eU]at e⊢;cases c:t σ h with
   |bad=>rw[c]at e;exact e
   |exc x h1=>rw[c]at e;exact e
   |ok i h1 =>
    rw[c]at e;cases i with
    |false=>exact e
    |true =>
     simp only at e⊢;cases a:b σ h1 with
     |nx σ2 g=>rw[a]at e;exact kE e f .a
     |ct σ2 g=>rw[a]at e;exact kE e f .a
     |bk σ2 g=>rw[a]at e;exact e
     |rt d g=>rw[a]at e;exact e
     |exc x σ2 g=>rw[a]at e;exact e
     |bad=>rw[a]at e;exact e
def zj(e:eU t b n σ h=r)(c:r ≠ .bad):rH t b σ h=r:=by
 have a:∃n,eU t b n σ h ≠ .bad:=⟨n,by rw[e];exact c⟩;have d:o7 t b σ h=Classical.choose a:=by simp[o7,a]
 have f:=Classical.choose_spec a;unfold rH;rw[d]
 by_cases hle:n<=Classical.choose a
 ·exact kE e c hle
 ·have:=kE rfl f (m:=n) .a
  rw[<-this,e]
variable{h1:Hd}
def au(a:r σ h=.ok ds h1)(b:F ds h1=.as h'):av F r σ h=.as h':=by
 show Res.bind _ _=_;rw[a];exact b
def ak{b:Hd}(p:a σ h=.as h1)(q:r σ h1=.ok ds b):ab a r σ h=.ok (d::ds) b:=by
 show Res.bind _ _=_;rw[p,aE,q];rfl
def aj{a b:EF}{d c:Hd}(p:.lD)(q:b σ h1=.ok y d)(r:g x y d=.ok z c):ag g a b σ h=.ok z c:=by
 show Res.bind _ _=_;rw[p,aE,q];exact r
def jr{xs:List D}(p:.uR)(q:xs.length<=SZ:=by exact Y4 rfl):ig r σ h=.ok .df h':=by
 show Res.bind _ _=_;rw[p];exact z4 q
def bF{xs:List D}(p:.uR)(q:xs.length<=SZ:=by exact Y4 rfl):aW r σ h=.ok (.ref h'.length) (h'++[.lst xs]):=by
 show Res.bind _ _=_;rw[p];exact z4 q
def lH{b:EF}(p:.lE)(q:b σ h1=.ok .u c)(r:atI l i=some d):fIx a b σ h=.as c:=by
 show Res.bind _ _=_;rw[p,aE,q];dsimp[aE,r]
def aR{a b:EF}(p:.lD)(q:b σ h1=.ok .u c)(s:kt c x=some l)(r:atI l i=some d):fAt a b σ h=.as c:=by
 exact aj p q (by dsimp[oAt,s,r])
def aF(p:h[n]?=some .dH):kt h .e4=some l:=by dsimp[kt,p]
variable{e:EF}
def aA(p:.pn):aG (gN i) e σ h=.nx (σ.set i<|some d) h':=by
 show outE _ _ _=_;rw[p];rfl
def aJ(p:.pn):aY e σ h=.rt d h':=by
 show outE _ _ _=_;rw[p];rfl
def dW(p:.pn):eG e σ h=.cA h':=by
 show outE _ _ _=_;rw[p];rfl
def fI(p:.pb):sIf t a b σ h=a σ h1:=by
 unfold sIf;rw[p];rfl
def bU(p:.o7):sIf t a b σ h=b σ h1:=by
 unfold sIf;rw[p];rfl
def aM{b:Bool}(p:a σ h=.ok .di h'):tE a σ h=.ok b h':=by
 show asB _=_;rw[p];rfl
def cH{b:Bool}(p:t σ h=.ok b h'):dm t σ h=.ok (!b) h':=by
 show Res.bind _ _=_;rw[p];rfl
def jt{b:Bool}(p:.pb)(q:u σ h1=.ok b h'):jS t u σ h=.ok b h':=by
 show Res.bind _ _=_;rw[p];exact q
def qG(p:.o7):jS t u σ h=.ec h1:=by
 show Res.bind _ _=_;rw[p];rfl
def iu{b:Bool}(p:.o7)(q:u σ h1=.ok b h'):tOr t u σ h=.ok b h':=by
 show Res.bind _ _=_;rw[p];exact q
def AY(p:.pb):tOr t u σ h=.ee h1:=by
 show Res.bind _ _=_;rw[p];rfl
variable{j:Int}
def qH:oEq .u .bP h=.ok (.bl<|decide (i=j)) h:=rfl
def dz(p:.lE):cM a σ h=.ok .rI h1:=by
 show Res.bind _ _=_;rw[p];rfl
def cv(p:.lD)(s:kt h1 x=some l):lOf a σ h=.ok l h1:=by
 show Res.bind _ _=_;rw[p];dsimp[aE,s]
def kY{b a:Hd}(p:e σ h=.as h1)(q:.uM)(r:i σ b=.ok .bP a)(s:.po)(t:ixN l.length j=some k):jm x i e σ h=.cA (a.set n<|.lst<|l.set k d):=by
 dsimp[jm,p,q,r,outE,s,t]
def ju{b:List D}(p:.uL)(q:.uC)(r:e σ h1=.as a)(s:.po)(t:l.length<SZ):jE x e σ h=.gn (a.set n<|.lst<|l++[d]):=by
 dsimp[jE,p,aE,q,r,Sq,s,z4 t]
def c6(p:0<j):bY .u .bP h=.ok (.int<|i%j) h:=by
 dsimp[bY,oIc,x3 p,XH]
def jv(p:0<j)(q:j<2^250):iJ .u .bP h=.ok (.int<|i/j) h:=by
 dsimp[iJ,oIc,x3 p,x3 q,Bool.and_self,XH]
def AZ(e:i=j):oEq .u .bP h=.aN h:=by rw[qH,x3 e]
def pT(e:¬i=j):oEq .u .bP h=.go h:=by rw[qH,xC e]
def NF(e:¬i<j):oLt .u .bP h=.go h:=by show Res.ok .CX h=_;rw[xC e]
def wH(e:i<j):oLt .u .bP h=.aN h:=by show Res.ok .CX h=_;rw[x3 e]
def NG(p:(sml i||sml j)=true):cZ .dp (.int j) h=.ok (.int<|i*j) h:=by
 exact z4 p
def mH(p:sml i=true):cZ .u .bP h=.ok (.int<|i*j) h:=NG (by rw[p];rfl)
def QJ(p:sml j=true):cZ .u .bP h=.ok (.int<|i*j) h:=NG (by rw[p,zXa])
def n9{b:Bool}(p:t σ h=.ok b h'):fT t σ h=.ok .di h':=by
 show Res.bind _ _=_;rw[p];rfl
variable{A:Nat}
def oO{h0 g:Hd}(a:A=h0.length)(k:Nat)(c:bJ):(h0++g).set (A+k) c=h0++g.set k c:=by
 subst a;rw[List.set_append_right _ _ .a];congr 2;omega
def IA{h0 g:Hd}(a:A=h0.length)(k:Nat):(h0++g)[A+k]?=g[k]? := by
 subst a;rw[ZD .a,wo]
def aH{j:Nat}(g:Hd)(e:h0[j]?=some c):(h0++g)[j]?=some c:=(ZC (.dS).1).trans e
def dJ(p:a σ h=.eM h1)(b:n<=1000):bZ a σ h=.ok ((.t).map (λk:Nat=>D.int k),none) h1:=by
 show Res.bind _ _=_;rw[p];exact z4 ⟨zXt .b (zZl n),zXt (zXb.mpr b) .b⟩
def eK(p:it σ h=.ok (l,g) h1)(q:gu g l tg b l σ h1=o):fv it tg b σ h=o:=by
 unfold fv;rw[p];exact q
def ce{b:Hd}(p:it σ h=.ok (l,g) h1)(q:cz g l tg cs e l (fS a caps σ) h1=.ok ds b):bD a caps it tg cs e σ h=.ok ds b:=by
 show Res.bind _ _=_;rw[p];exact q
def Ug{b:EF}{n:Int}(p:c σ h=.ok l h1)(q:b σ h1=.eM a)(r:0<=n/\n<=1000/\l.length*n.toNat<=1000):vT c b σ h=.ok (.AN).flatten a:=by
 dsimp[vT,p,aE,q,z4 r]
def Uh{l:.cP}(p:h[n]?=some .hE):LD (.int k) .e4 h=.ok (.bl (vS l k).isSome) h:=by dsimp[LD,p]
def IB{b a:Hd}{l:.cP}(p:e σ h=.as h1)(q:.uM)(r:i σ b=.ok .bP a)(s:a[n]?=some .hE)(t:l.length<SZ):B6 x i e σ h=.cA (a.set n<|.dct<|EW l j d):=by
 dsimp[B6,p,q,r,outE,s,z4 t]
def A0(p:.jl)(q:h1[n]?=some .dH):i6 .list a σ h=.aN h1:=by
 dsimp[i6,p,aE,Jt,q];rfl
def cy(p:.jl)(q:h1[n]?=some .dH):cU a σ h=.ok (l,some n) h1:=by
 dsimp[cU,p,aE,q]
def Ui{a b:EF}(p:.uP)(q:b σ h1=.ok .bP c):Ag a b σ h=.ok .wL c:=by
 dsimp[Ag,p,aE,q]
def sA{b:Bool}(p:a σ h=.ok .di h1):uO a σ h=.ok (.int<|b2i b) h1:=by
 dsimp[uO,p,aE]
def FT(p:.lE)(q:dG l=some is):vL a σ h=.ok (.int is.sum) h1:=by
 dsimp[vL,p,aE,q]
def iw(p:.lE):gZ a σ h=.ok .hj h1:=by
 show Res.bind _ _=_;rw[p];rfl
def FU(e:j<i):oGt .u .bP h=.aN h:=by show Res.ok .CW h=_;rw[x3 e]
def wI(e:¬j<i):oGt .u .bP h=.go h:=by show Res.ok .CW h=_;rw[xC e]
def eX(a:A=h.length)(c:bJ):(h++[c])[A]?=some c:=by rw[a];exact ZG
def iW(a:A=h.length)(c d:bJ):(h++[c]).set A d=h++[d]:=by
 have:=oO (g:=[c]) a 0 d;rwa[Nat.add_zero]at this
def vA(a:A=h'.length)(p:.uR)(q:xs.length<=SZ):aW r σ h=.ok .bh (h'++[.lst xs]):=by rw[a];exact bF p q
def mI{l:.c}(h:i<l.length):atI .fK (i:Int)=some (.int .k8):=du (by rw[ZQ,ZE h,ZF,ZE h];rfl)
def mJ{a b:EF}(p:.pb):fIf t a b σ h=a σ h1:=by
 show Res.bind _ _=_;rw[p];rfl
def og{a b:EF}(p:.o7):fIf t a b σ h=b σ h1:=by
 show Res.bind _ _=_;rw[p];rfl
def bN(e:.pe):aw a b σ h=b σ' h':=by dsimp[aw,e]
def gG(e:a σ h=.rt d h'):aw a b σ h=.rt d h':=by dsimp[aw,e]
def bm(a:ds.length=np)(st:.C6)(e:b σ h=.rt d h'):bE np n b ds h=letGo h (.as h'):=by
 unfold bE runB;rw[z4 a,st,e]
def R9(a:ds.length=np)(st:.C6)(e:b σ h=.nx σ' h'):bE np n b ds h=letGo h (.gn h'):=by
 unfold bE runB;rw[z4 a,st,e]
def oP{b:Bool}(p:t σ h=.ok b h):i7 [t] σ h=.ok b h:=by
 dsimp[i7,p,aE];cases b<;>rfl
def NJ(p:a σ h=.ok .hj h1):cU a σ h=.ok (l,none) h1:=by
 show Res.bind _ _=_;rw[p];rfl
def nZ{a:LF}{bs:List Bool}(p:.lE)(q:lq l=some bs):uN a σ h=.ok (.bl .oy) h1:=by
 dsimp[uN,p,aE,q]
def pU(a b:Int)(h:Hd):oNe .ci (.int b) h=.ok .nn h:=rfl
def bI{a b:EF}{e:D}(p:a σ h=.as h1)(q:b σ h1=.ok e c):ab a (ab b ar) σ h=.ok [d,e] c:=ak p (.cw q)
def oh{m:Nat}(h:n<=30)(q:autoParam (30<=m) Q1Q._auto_1):n<=m:=ZM h q
def sx(p:.pe)(q:b σ' h'=o):aw a b σ h=o:=(bN p).trans q
/---/def eZ:Fn:=bE 1 1 (aY<|fT<|jS (tE<|i6 .int .e)<|dm<|tE<|i6 .bool .e)
/---/def bq:Fn:=bE 3 3 (aY<|fT<|jS (tE .oA) .zM)
/---/def c9:Fn:=bE 1 1 (aY<|av bq<|.cz<|ab .B .fz)
/---/def bG:Fn:=bE 1 1 (aY<|cM (lOf .aT))
/---/def fE:Fn:=bE 2 2 (aY (fAt .aT .f))
/---/def qI:Fn:=bE 2 2 (aY<|fAt .cD .f)
/---/def f6:Fn:=bE 2 2 (aY<|fAt .fD .f)
noncomputable abbrev IC:SF:=(aw (.cU .Cc)
  (aw (.cY<|av f6 .gJ)
  (.cU<|jS (tE<|ag iT .C .aH)<|tE<|.bG .j .C)))
/---/def A1:Fn:=bE 2 5 (aw (.cU .wH)
  (aw (fv (LB .f) (gT [2,3]) IC)
  (aY<|fC .ej)))
/---/def gH:Fn:=bE 2 2 (.al<|dm<|tE<|av A1 .b2)
/---/def oQ:Fn:=bE 3 3 (aY<|.bx .R<|vL<|bD 2 [1] (cU .iO) .ck .rn .f)
def qJ(i:Int)(h:Hd):eZ [.int i] h=.aN h:=(.v rfl).trans aU
def cX(i a b:Int)(h:Hd):bq [.int i,.int a,.int b] h=.ok .yG h:=by
 have c:vK oLe oLe .f .e .h .yS h=.ok .yG h:=by
  show (match D.bl (decide (a<=i)) with | .bl true=>Res.ok (D.bl<|decide (i<=b)) h | .bl false=>.ok (.bl false) h|_=>.bad)=_;cases decide (a<=i)<;>rfl
 have t:jS (tE .oA) .zM .yS h=.ok (decide (a<=i)&&decide (i<=b)) h:=jt (aM<|.ay<|qJ i h) (aM c);exact (.v<|aJ<|n9 t).trans aU
def j4(i:Int)(h:Hd):c9 [.int i] h=.ok (.bl<|decide (0<=i)&&decide (i<=1)) h:=by
 exact (.v<|aJ<|au .bM<|cX i 0 1 h).trans aU
def oj(w:Web)(h:Hd):bG .a3 h=.ok (.int w.ties.length) h:=by
 have:=(bm (n:=1) (b:=aY (cM (lOf .aT))) (ds:=.a3) (h:=h) rfl rfl<|aJ<|dz<|cv .bi rfl).trans aU;rwa[ZA]at this
variable{r:.a6}{p:Nat}
def ul(w:Web)(h:Hd)(e:w.ties[p]?=some r):fE .gW h=.ok (wF r) h:=by
 have q:atI .tx (p:Int)=some (wF r):=du (by simp[e]);exact (.rf).trans aU
def FV(w:Web)(h:Hd){r:Int}(e:w.bars[p]?=some r):qI .gW h=.ok (.int r) h:=by
 have q:atI .s6 (p:Int)=some (.int r):=du (by simp[e]);exact (.rf).trans aU
def om(w:Web)(h:Hd){r:.aK}(e:w.stays[p]?=some r):f6 .gW h=.ok (bj r) h:=by
 have q:atI .bg (p:Int)=some (bj r):=du (by simp[e]);exact (.rf).trans aU
variable{s:.c}{w:Web}
def QK(W:w.Ok n)(F:.a5)(h:Hd):A1 .g2 h=.aN h:=by
 obtain⟨σ',r,o,B,a,b,c,v⟩:=cP (P:=λ_ σ r=>r=h/\∃a b c,σ=[some w.enc,some .aC,a,b,c]) (g:=none) (k:=0)
   .bK
   (xs:=((List.range (s.map D.int).length).zip (s.map D.int)).map λp=>D.tup [.int (p.1:Nat),p.2]) (tg:=gT [2,3]) (σ:=.gw) (h:=h)
   (b:=IC) (by
   rintro i x σ d t ⟨rfl,a,b,c,rfl⟩;have f:i<s.length:=by
    have:=(z0.mp t).1;simpa using this
   have m:x=.tup [.int (i:Nat),.int s[i]]:=by simpa[f,ZE] using t.symm
   subst m;have l:w.stays[i]?=some (w.stays[i]' .z6):=ZE _;generalize w.stays[i]' .z6=A at l;have z:c9 [.int s[i]] d=.aN d:=by
    rw[j4];rcases F.op _ (YM f) with e|e<;>rw[e]<;>rfl
   have j:sIf .Cc .gu bc .w4 d=.nx .w4 d:=bU (cH<|aM<|.ay z);have q:=om w d l;cases A with
   |none=>exact⟨_,rfl,_,d,(bN j).trans ((bN<|aA<|.ab q).trans (bU<|qG .cm)),rfl,_,_,_,rfl⟩
   |some y =>
    have u:s[i]=y:=by have:=F.st i y l;rw[ZE f]at this;exact ZT this
    exact⟨_,rfl,_,d,(bN j).trans ((bN<|aA<|.ab q).trans (bU<|jt .cm<|aM<|.ah (by rw[show bj (some y)=D.int y from rfl,pU,x3 u];rfl))),rfl,_,_,_,rfl⟩) ⟨rfl,_,_,_,rfl⟩
 rw[B,v]at o;have j:sIf .wH .gu bc .gw h=.nx .gw h :=
  bU (iu .sG<|aM<|aj (dz<|.aR rfl) (.ay<|oj w h) (by rw[pU,ZA,F.len,W.t,x3 rfl];rfl))
 exact (.v<|(bN j).trans ((bN<|eK rfl o).trans .dU)).trans aU
def NK(W:w.Ok n)(F:.a5)(h:Hd):gH .g2 h=.gn h:=by
 exact(R9 rfl rfl<|bU<|cH<|aM<|.ab<|QK W F h).trans aU
def sC(l:.c):dG .eX=some l:=by
 induction l with
 |nil=>rfl
 |cons x b a=>simp[dG,a]
def Uj(h:i<s.length):atI (s.map .int) (i:Int)=some (.int s[i]):=du (by simp[h])
/---/def gS(r:.a6)(s:.c):List Int:=(r.filter λp=>decide (s.getD p.1 0=1)).map (·.2)
/---/def bX(r:.a6)(s:.c):Int:=(gS r s).sum
def NM(e:∀q∈r,q.1<s.length)(h:Hd):cz none .fS .ck .rn .f .fS [none,none,some .aC] h=.ok ((gS r s).map D.int) h:=by
 have c:cz none .fS .ck .rn .f .fS [none,none,some .aC] h
   = .ok (((.fS).filter λd=>match d with | .tup [.int i,_]=>decide (s.getD i.toNat 0=1)|_=>false).map λd=>match d with | .tup [_,x]=>x|_=>.non) h:=by
  refine bB (g:=none) (I:=λσ=>∃a b,σ=[a,b,some .aC]) _ _ trivial ?_ ⟨_,_,rfl⟩;rintro x f σ ⟨a,b,rfl⟩;obtain⟨⟨q,k⟩,j,rfl⟩:=z5.mp f;exact⟨_,rfl,⟨_,_,rfl⟩,oP (aM<|aj (.bc rfl<|mI<|e _ j) rfl qH),λ_=>rfl⟩
 rw[c,gS,zXl,ZY,ZY];rfl
def FW(W:w.Ok n)(a:s.length=n)(e:w.ties[p]?=some r)(h:Hd):
  oQ .sA h=.ok (.int<|2*bX r s) h:=by
 have b:∀q∈r,q.1<s.length:=λq c=>by rw[a];exact W.lt r (ZK e) q c
 exact (.v<|aJ<|aj rfl (FT (ce (NJ<|.ab<|ul w h e)<|NM b h)<|sC _)<|mH .b).trans aU
/---/def oR(w:Web)(f s:.c)(p:Nat):Int:=(2*w.bars.getD p 0+1)*(f.getD p 0+s.getD p 0)-(if s.getD p 0=1 then 2*(2*bX .sL f)+2*f.getD p 0 else 0)
noncomputable def iy(w:Web)(f s:.c):Nat->Int
 |0=>0
 |k+1=>iy w f s k+oR w f s k
def QL(h:x=0\/x=1):sml x=true:=by rcases h with e|e<;>subst e<;>decide
/---/def jL:Fn:=bE 3 6 (aw (.a9<|av f6 .gJ)
  (aw (sIf (tE<|ag iT .j .aH) (aY .j) bc)
  (aw (.cY<|av oQ<|.cz .t6)
  (aw (.bd<|av qI .gJ)
  (aw .wW
  .xT)))))
/---/def g6:Fn:=bE 2 2 (aY<|gZ<|bD 1 [0,1] (bZ .dc) .K [] .zS)
noncomputable abbrev wJ:SF:=(aw (eG<|jE .h .j)
  (.a9<|av g6 .t8))
/---/def oS:Fn:=bE 2 5 (aw (eG<|av gH .b2)
  (aw (.aM .y6)
  (aw (.a9 .zT)
  (aw (rH (tE .nI) wJ)
  (aw (.cY .vX)
  (aY<|ig<|ab (ag kN (cM<|lOf .h) .R)<|ab .C .dC))))))
/---/def dh(w:Web)(s:.c)(p:Nat):Int:=match w.stays.getD p none with
 |some x=>x
 |none=>if 2*bX .sL s=w.bars.getD p 0 then s.getD p 0 else if w.bars.getD p 0<2*bX .sL s then 1 else 0
/---/def dD(w:Web)(n:Nat)(s:.c):List Int:=(.t).map (dh w s)
def FX(W:w.Ok n)(F:.a5)(hp:p<n)(h:Hd):jL .sA h=.ok (.int<|dh w s p) h:=by
 have m:p<w.ties.length:=by rw[W.t];exact hp
 have l:p<w.bars.length:=by rw[W.b];exact hp
 have b:p<w.stays.length:=by rw[W.s];exact hp
 have j:p<s.length:=by rw[F.len];exact hp
 have r:w.ties[p]?=some w.ties[p]:=by simp[m]
 have B:w.bars[p]?=some w.bars[p]:=by simp[l]
 have g:w.stays[p]?=some w.stays[p]:=by simp[b]
 have a:=FW W F.len r h;have t:w.ties.getD p []=w.ties[p]:=by simp[List.getD,m]
 have z:w.bars.getD p 0=w.bars[p]:=by simp[List.getD,l]
 have k:w.stays.getD p none=w.stays[p]:=by simp[List.getD,b]
 have y:s.getD p 0=s[p]:=by simp[List.getD,j]
 have o:=Uj j;cases c:w.stays[p] with
 |some x =>
  rw[c]at g;have q:dh w s p=x:=by unfold dh;rw[k,c]
  rw[q];exact (.v<|(bN<|aA<|.ab<|om w h g).trans (gG<|(fI .cm).trans .dU)).trans aU
 |none =>
  rw[c]at g;have u:=om w h g;have A:=FV w h B;dsimp[dh,k,c,t,z,y];generalize 2*bX w.ties[p] s=P at a;have i:∀{v:Int},aw .wW .xT [some w.enc,some .aC,some (.int p),some .non,some (.int P),some (.int w.bars[p])] h=.rt .eu h->jL .sA h=.ok .eu h:=λe=>YY (.v<|sx (aA<|.ab u)<|sx (bU .cm)<|sx (aA<|au .bM a)<|sx (aA<|.ab A) e) aU
  by_cases d:P=w.bars[p]
  ·rw[z4 d];exact i (gG<|(fI<|aM<|.ah<|AZ d).trans (aJ<|.bc rfl o))
  ·rw[y3 d]
   by_cases f:w.bars[p]<P
   ·rw[z4 f];exact i ((.yU).trans (aJ<|(mJ<|aM<|.ah<|FU f).trans rfl))
   ·rw[y3 f];exact i ((.yU).trans (aJ<|(og<|aM<|.ah<|wI f).trans rfl))
def pV(W:w.Ok n)(F:.a5)(h:Hd):g6 .g2 h=.ok (aK .de) h:=by
 have b:.u1 [] .zS ((.t).map λk:Nat=>D.int k) [none,some w.enc,some .aC] h
   = .ok ((.xr).map λd=>match d with | .int i=>.int (dh w s i.toNat)|_=>.non) h:=by
  refine bB (g:=none) (I:=λσ=>∃a,σ=[a,some w.enc,some .aC]) _ _ trivial ?_ ⟨_,rfl⟩;rintro x j σ ⟨a,rfl⟩;obtain⟨i,c,rfl⟩:=z5.mp j;have c:=YU.mp c;exact⟨_,rfl,⟨_,rfl⟩,by simp,λ_=>au .bM (FX W F c h)⟩
 have f:(.xr).map (λd=>match d with | .int i=>D.int (dh w s i.toNat)|_=>.non)=(.de).map D.int:=by
  rw[Z5.mpr .d,ZY,dD,ZY];rfl
 rw[f]at b;have e:bG .a3 h=.eM h:=W.t▸oj w h;exact (.v<|aJ<|iw<|ce (dJ .oI W.sz) b).trans aU
/---/def gx(w:Web):Prop:=∀x∈w.stays,x=none\/x=some 0\/x=some 1
def ja(F:.a5)(i:Nat):s.getD i 0=0\/s.getD i 0=1:=by
 by_cases a:i<s.length
 ·rw[List.getD,ZE a];exact F.op _ (YM a)
 ·rw[List.getD,YD .a];exact .inl rfl
def wK(F:.a5)(S:gx w)(p:Nat):dh w s p=0\/dh w s p=1:=by
 unfold dh;cases c:w.stays.getD p none with
 |some x =>
  have:some x∈w.stays:=by
   rw[List.getD]at c;cases e:w.stays[p]? with
   |none=>rw[e]at c;cases c
   |some y=>rw[e]at c;simp at c;subst c;exact ZK e
  have:=S _ this;simp at this;exact this
 |none =>
  simp only;split
  ·exact ja F p
  ·split<;>simp
theorem Km(W:w.Ok n)(S:gx w)(F:.a5):fZ w n .de where
 len:=by simp[dD]
 op:=λx c=>by
  obtain⟨p,d,rfl⟩:=z5.mp c;exact wK F S p
 st:=λi x e=>by
  have b:i<n:=by rw[<-W.s];exact (.dS).1
  have:.dw none=some x:=by simp[List.getD,e]
  have a:dh w s i=x:=by unfold dh;rw[this]
  simp[dD,b,a]
noncomputable def bA(w:Web)(n:Nat)(s:.c):Nat->List Int
 |0=>s
 |k+1=>dD w n .es
theorem cE{w:Web}{n:Nat}{s:.c}(W:w.Ok n)(S:gx w)(F:.a5):∀k,fZ w n .es
 |0=>F
 |k+1=>Km W S .oi
/---/def bu(w:Web)(n:Nat)(s:.c)(m:Nat):List .cF:=(.bV m).map (bA w n s)
def wL(m:Nat):bu w n s (m+1)=bu w n s m++[.ba m]:=by simp[bu,yi]
def jM(m:Nat):(.d7 m).length=m:=by simp[bu]
def NN(h:i<m):atI ((.d7 m).map aK) (i:Int)=some (aK .k9):=du (by simp[bu,h])
/---/def j5:Fn:=bE 2 4 (aw (.cU<|tOr (dm<|tE<|i6 .tuple .f)<|tE<|.bG .dG .eg)
  (aw (.aM .ko)
  (aw (.a9 .kY)
  (aw (.cU<|tOr (dm<|tE<|av bq<|ab .h .zf)<|dm<|tE<|av bq<|ab .j .zf)
  (aY<|fT<|jS (tE<|.bG .h .j)<|tE<|av bq<|ab (fAt .f .R)<|ab .l .BH)))))
noncomputable abbrev kZ:SF:=(aw (.al<|dm<|tE<|av j5 .t8)
  (aw (.cY<|fAt .j .B)
  (aw (.bd<|fAt .j .l)
  (aw (.al<|tE<|ag LD .E<|fAt .h .C)
  (aw (B6 (fAt .h .C) .E<|fAt .j .R)
  (B6 (fAt .h .E) .C<|fAt .j .R))))))
/---/def jG:Fn:=bE 2 6 (aw (.al .kr)
  (aw (.aM<|aW<|.dr (bZ .e) HI)
  (aw (fv (cU .f) .aI kZ)
  (aY .h))))
/---/def kF:Fn:=bE 2 2 (aw (.al .im)
  (aw (.al<|tOr .kr<|tE<|.bG .dG .eZ)
  (aw (.al<|dm<|tE<|uN<|.dr (cU .f) .oA)
  (aY .tO))))
/---/def jH:Fn:=bE 2 2 (aw (sIf .im (aY<|gZ<|.dr (bZ .e) .aH) bc)
  (aw (.al<|tOr .kr<|tE<|.bG .dG .e)
  (aw (.al<|dm<|tE<|uN<|.dr (cU .f)<|fT .rD)
  (aY .tO))))
/---/def fW:Fn:=bE 4 6 (aw (.al<|dm<|tE<|av bq<|.cz<|ab .l .qM)
  (aw (.cY<|av jG .b2)
  (aw (.bd<|gZ<|.dr (cU .C)<|gZ<|rL .e)
  (aY<|ig<|ab .E<|ab (av kF<|ab .C .dC)<|ab (av jH .t8) ar))))
/---/def zk:Fn:=bE 2 4 (aw (.aM .B)
  (aw (sIf .BT (.aM .t2) bc)
  (aw (.a9<|fT<|tOr (tE<|.bH .eZ .B)<|tE<|.bH (.aO .aT .R) .l)
  (aw (sIf (tE .j) (.aM<|.aX (.aO .h .qJ)<|.bx (fC<|.int 1000003) .f) bc)
  (aY<|aW<|ab .h<|ab .B .fH)))))
/---/def eM:Fn:=bE 2 4 (aw (jm .e .l<|.aX .cD .l)
  (aw (sIf (tE .fD) (aw (.aM<|.aO (.bx (.aX (.aX .aT<|.bx (fC<|.int 7919) .cD) .l)<|fC<|.int 48271) .qJ)
  (aw (.aM<|.aO (.bx .h<|.aX (.aO .h<|fC<|.int 65521) .cD)<|fC<|.int 2147483629)
  (aY<|.aO (.aO (.aX (.bx .h .h)<|.bx (fC<|.int 69621) .h)<|fC<|.int 2147483563) .f))) bc)
  (aw (.a9 (.aO .aT .f))
  (aw (jm .e .B (ag iJ .aT .f))
  (aY .j)))))
/---/def QM:Fn:=bE 3 3 (aw (sIf (tE<|.bH .e .B) (aY .h) bc)
  (aw (sIf (tE<|.bH .e .l) (aY<|ag kN .f<|fC<|.int 60) bc)
  (aw (sIf (tE<|.bH .e .R) (aY<|ag kN (.aX .h<|.aO .f .kc) .R) bc)
  (aw (sIf (tE<|.bH .e .eg) (aY<|.bx .R<|.aO .f<|.aX .h .l) bc)
  (aY<|.bx (.aX (ag Wt (fC<|.int 10)<|fC<|.int 59) .f)<|fIx (ab .l<|ab .eQ ar)<|.aO .f .R)))))
noncomputable abbrev De:SF:=(sIf (tE<|.bH (av eM<|ab (aa 9) .fH) .B) (aw (.jU<|.aX .l<|av eM<|ab (aa 9)<|ab (fIx (ab .eg .BH)<|av eM<|ab (aa 9)<|ab .R ar) ar)
  (aw (eG<|Wv .C (av eM<|ab (aa 9)<|ab (.aX (cM<|lOf .C) .l) ar)<|fIx (ab (ig<|ab .cN<|ab (aa 10)<|ab (aa 11) ar)<|ab (ig<|ab (aa 10)<|ab .cN<|ab (aa 11) ar) ar)<|.aO (aa 11) .R)
  (aw (jm .a0 .cN<|.aX (fAt .a0 .cN)<|aa 11)
  (jm .a0 (aa 10)<|.aX (fAt .a0<|aa 10)<|aa 11)))) bc)
noncomputable abbrev Df:SF:=(aw (aG (gN 9)<|av zk<|.cz<|ab (.aX .l .cN) ar)
  (aw (eG<|jE .ac<|fIx (ab .aH<|ab .aH<|ab .aH<|ab .B .fz) .zd)
  (aw (eG<|jE .E<|ig<|ab .zd<|ab (av eM<|ab (aa 9)<|ab (fC<|.int 200) ar) ar)
  (fv (bZ .cN) (gN 10) De))))
/---/def FY:Fn:=bE 1 12 (aw (.ea<|av zk .t7)
  (aw (eG<|av eM<|ab .f<|ab .R ar)
  (aw (.aM<|.aX .l<|av eM<|ab .f<|ab (fIx (ab (fC<|.int 6)<|ab (fC<|.int 12) .qM) .zU) ar)
  (aw (.a9<|fIx (ab .l<|ab .R<|ab .kc ar) .zU)
  (aw .tS
  (aw (.bd .aE)
  (aw (aG .bR .aE)
  (aw (aG (gN 7)<|aW<|vT .kB .h)
  (aw (fv (bZ .h) .qr Df)
  (aw (.bd<|aW<|bD 1 [7,5] (bZ .h) .K []<|av QM<|ab (fAt (fAt .h .e) .B)<|ab (fAt (fAt .h .e) .l)<|ab .ka ar)
  (aY<|ig<|ab .h<|ab .C<|ab .E<|ab .ac<|ab .a0 ar)))))))))))
def bR(e:.pe):aw a b σ h=b σ' h':=by simp[aw,e]
def vB(h0:0<=x)(h1:x<4611686018427387904):sml x=true:=by
 dsimp[sml,YB,YS];omega
def kG{α:Type}{f:α->D}{l:List α}(h:i<l.length):atI .hf (i:Int)=some (f l[i]):=du (by simp[h])
def f7(a:((.t).map λk:Nat=>D.int k)[i]?=some x):i<n/\x=.int (i:Nat):=by
 have b:i<n:=by
  have:=(z0.mp a).1;simpa using this
 exact⟨b,by simpa[b,ZE] using a.symm⟩
def VM{α:Type}(f:α->D)(l:List α){x:Int}(h0:0<=x)(h:x<l.length):∃v∈l,atI .hf x=some (f v):=by
 have a:x.toNat<l.length:=by omega
 refine⟨l[x.toNat],YM a,?_⟩;have:=kG (f:=f) a;rwa[show ((x.toNat:Nat):Int)=x by omega]at this
structure Tie where
 a:Nat
 b:Nat
 w:Int
/---/def bL(t:Tie):D:=.tup [.int t.a,.int t.b,.int t.w]
/---/def far(i:Nat)(t:Tie):Option Nat:=if t.a=i then some t.b else if t.b=i then some t.a else none
/---/def wOf(i:Nat)(t:Tie):Int:=if t.a=i\/t.b=i then t.w else 0
/---/def zm(T:.V)(i:Nat):Int:=(T.map<|wOf i).sum
/---/def VN(one other:Nat)(t:Tie):Prop:=(t.a<one/\t.b<one)\/(t.a=one/\t.b<other)\/(t.b=one/\t.a<other)
/---/def iN(s t:Tie):Prop:=¬(s.a=t.a/\s.b=t.b)/\¬(s.a=t.b/\s.b=t.a)
structure TOk(n one other:Nat)(T:.V):Prop where
 ne:∀t∈T,t.a≠t.b
 lt:∀t∈T,t.a<n/\t.b<n
 wt:∀t∈T,1<=t.w/\t.w<=400
 be:∀t∈T,VN one other t
 un:T.Pairwise iN
 len:T.length<=30*one+other
def iN.symm{s t:Tie}(h:iN s t):iN t s:=⟨λz=>h.1 ⟨z.1.symm,z.2.symm⟩,λz=>h.2 ⟨z.2.symm,z.1.symm⟩⟩
variable{T:.V}
def TOk.skip(o:TOk n one other T):TOk n one .fX T :=
 ⟨o.ne,o.lt,o.wt,λt a=>by
  rcases o.be t a with h|h|h
  ·exact .inl h
  ·exact .inr (.inl ⟨h.1,ZZ h.2⟩)
  ·exact .inr (.inr ⟨h.1,ZZ h.2⟩),o.un,zZt o.len⟩
def TOk.step(o:TOk n one one T)(h:one<n)(a:n<=30):TOk n (one+1) 0 T :=
 ⟨o.ne,o.lt,o.wt,λt b=>by
  rcases o.be t b with h|h|h
  ·exact .inl ⟨ZZ h.1,ZZ h.2⟩
  ·exact .inl ⟨Nat.lt_succ_of_le (zYx h.1),ZZ h.2⟩
  ·exact .inl ⟨ZZ h.2,Nat.lt_succ_of_le (zYx h.1)⟩,o.un,ZM o.len (X9 (ZM (XF h) a) _)⟩
def vC{α:Type}{x y:α}{l:List α}(h:y∈l.take k++[x]++l.drop k):y=x\/y∈l:=by
 dsimp[ZU,Z1,YE]at h;rcases h with h|h|h
 ·exact .inr (List.mem_of_mem_take h)
 ·exact .inl h
 ·exact .inr (List.mem_of_mem_drop h)
def NO{α:Type}{R:α->α->Prop}(sym:∀a b,R a b->R b a){x:α}{l:List α}(k:Nat)(h:l.Pairwise R)(f:∀y∈l,R x y):(l.take k++[x]++l.drop k).Pairwise R:=by
 have d:(l.take k++l.drop k).Pairwise R:=by rw[zYr];exact h
 rw[Y9]at d;obtain⟨g,m,j⟩:=d;rw[ZU,Y9];refine⟨g,?_,λa e b c=>?_⟩
 ·rw[List.singleton_append,Z4]
  exact⟨λy i=>f y (List.mem_of_mem_drop i),m⟩
 ·rcases Z1.mp c with c|c
  ·simp at c;subst c;exact sym _ _ (f a<|List.mem_of_mem_take e)
  ·exact j a e b c
theorem TOk.put(o:TOk n one other T)(h1:one<n)(c:other<one){w:Int}(d:1<=w)(f:w<=400){t:Tie}(ht:t=⟨one,other,w⟩\/t=⟨other,one,w⟩)(k:Nat):TOk n one .fX (T.take k++[t]++T.drop k) where
 ne:=λs a=>by
  rcases vC a with rfl|a
  ·rcases ht with e|e<;>subst e
   ·exact YA c
   ·exact ZN c
  ·exact o.ne s a
 lt:=λs a=>by
  rcases vC a with rfl|a
  ·rcases ht with e|e<;>subst e
   ·exact⟨h1,Z3 c h1⟩
   ·exact⟨Z3 c h1,h1⟩
  ·exact o.lt s a
 wt:=λs a=>by
  rcases vC a with rfl|a
  ·rcases ht with e|e<;>subst e<;>exact⟨d,f⟩
  ·exact o.wt s a
 be:=λs a=>by
  rcases vC a with rfl|a
  ·rcases ht with e|e<;>subst e
   ·exact .inr (.inl ⟨rfl,Z9 _⟩)
   ·exact .inr (.inr ⟨rfl,Z9 _⟩)
  ·exact o.skip.be s a
 un:=NO (λ_ _=>iN.symm) k o.un λs a=>by
  have b:=o.be s a;rcases ht with e|e<;>subst e<;>rcases b with b|b|b
  ·exact⟨λz=>YA b.1 z.1,λz=>YA b.2 z.1⟩
  ·exact⟨λz=>YA b.2 z.2,λz=>YA .oJ z.1⟩
  ·exact⟨λz=>YA .oJ z.1,λz=>YA b.2 z.2⟩
  ·exact⟨λz=>YA b.2 z.2,λz=>YA b.1 z.2⟩
  ·exact⟨λz=>YA .oJ z.2,λz=>YA b.2 z.1⟩
  ·exact⟨λz=>YA b.2 z.1,λz=>YA .oJ z.2⟩
 len:=by
  have e:(T.take k).length+(T.drop k).length=T.length:=by rw[<-ZB,zYr]
  rw[ZB,ZB,List.length_singleton,zYm,e];exact Nat.succ_le_succ o.len
/---/def WX(p:Int × Int):D:=.tup [.int p.1,.int p.2]
structure PH(n i:Nat)(T:.V)(bs:List .iQ)(ss:.Q)(h:Hd):Prop where
 ti:h[1]?=some .e0
 ba:h[2]?=some (.lst<|bs.map WX)
 st:h[3]?=some .dg
 to:h[4]?=some .yW
 len:h.length=5+i
 lb:bs.length=i
 ls:ss.length=i
 os:∀x∈ss,x=none\/x=some 0\/x=some 1
def Uk{g:Hd}(a:bJ)(h:g[k]?=some c):(g.set k a)[k]?=some a:=x4 (z0.mp h).1
def vD{j:Nat}(h:j<n):ixN n (j:Int)=some j:=by simp[ixN,h]
noncomputable abbrev XP(lit:D)(hd:.G)(n thin one:Nat)(a b:.G):Sd:=[some lit,hd,some .x,some (.int thin),some (.ref 1),some (.ref 2),some (.ref 3),some (.ref 4),some .dN,some (.ref<|5+one),a,b]
noncomputable abbrev SC(c t:Int)(b:Bool):bJ:=.lst [.int c,.int t,.bl b]
inductive PI(lit:D)(hd:.G)(n thin one:Nat)(bs:List .iQ)(ss:.Q)(m:Bool):Nat->Sd->Hd->Prop
 |mk {i:Nat} {h:Hd} {T:.V} {a b:.G} {c t:Int} (P:PH n (one+1) T bs ss h) (O:TOk n one i T) (hs:h[5+one]?=some (SC c t m)):PI lit hd n thin one bs ss m i (XP lit hd n thin one a b) h
def few{l one i:Nat}(h:l<=30*one+i)(h1:one<n)(a:n<=30)(hi:i<one):l<1000:=by omega
noncomputable abbrev XQ(lit:D)(hd:.G)(n thin:Nat)(a b c d:.G):Sd:=[some lit,hd,some .x,some (.int thin),some (.ref 1),some (.ref 2),some (.ref 3),some (.ref 4),a,b,c,d]
def Ws{u:.aK}(h:u∈[none,none,none,some 0,some 1]):u=none\/u=some 0\/u=some 1:=by
 simp at h;exact h
inductive PO(ns:.c)(hd:.G)(n thin:Nat):Nat->Sd->Hd->Prop
 |mk {i:Nat} {h:Hd} {a b c d:.G} {T:.V} {bs:List .iQ} {ss:.Q} (P:PH n i T bs ss h) (O:TOk n i 0 T):PO ns hd n thin i (XQ (.lit .cG) hd n thin a b c d) h
structure WY(ns:.c)(n:Nat)(T:.V)(bs:.c)(ss:.Q)(h:Hd):Prop where
 run:FY .lc []=.ok (.tup [.int n,.ref 1,.ref (5+n),.ref 3,.ref 4]) h
 n1:1<=n
 n30:n<=30
 ok:.hS T
 ti:h[1]?=some .e0
 ba:h[5+n]?=some .b5
 st:h[3]?=some .dg
 to:h[4]?=some .yW
 len:h.length=6+n
 lb:bs.length=n
 ls:ss.length=n
 os:∀x∈ss,x=none\/x=some 0\/x=some 1
theorem jN{α:Type}{f:α->D}:∀{l:List α},(∀x∈l,pure? (f x)=true)->fK .hf=true
 |[],_=>rfl
 |x::l,h=>by
  dsimp[y6,fK,YB];exact⟨h x .d,jN λy a=>h y (by simp[a])⟩
def oo(w:Web):pure? w.enc=true:=by
 have a:∀r:List .bA,pure? (wF r)=true:=λr=>by
  unfold wF;dsimp[pure?];exact jN λp _=>rfl
 have d:fK .tx=true:=jN λr _=>a r;have c:fK (w.bars.map D.int)=true:=jN λr _=>rfl;have b:fK .bg=true:=jN λr _=>by cases r<;>rfl
 unfold Web.enc;dsimp[pure?,fK,d,c,b];rfl
/---/def qK(p:.cO):List Int:=[(p.1:Int),p.2]
noncomputable def pW(x:.cO):List .bA->List .bA
 |[]=>[x]
 |y::r=>if lexLt (qK x) (qK y)=true then x::y::r else y::pW x r
noncomputable def c5:List .bA->List .bA
 |[]=>[]
 |x::r=>pW x (c5 r)
theorem Dg(x:.cO):∀r,(pW x r).map qK=Ae (qK x) (r.map qK)
 |[]=>rfl
 |y::r=>by
  dsimp[pW,Ae,y6];split
  ·rfl
  ·simp[Dg x r]
theorem zn:∀r,(c5 r).map qK=eI (r.map qK)
 |[]=>rfl
 |x::r=>by dsimp[c5,eI,y6,Dg,zn r]
theorem wM{x p:.cO}:∀{r},p∈pW x r↔p=x\/p∈r
 |[]=>by simp[pW]
 |y::r=>by
  dsimp[pW];split
  ·simp
  ·dsimp[xB,wM]
   constructor
   ·rintro (h|h|h)
    ·exact .inr (.inl h)
    ·exact .inl h
    ·exact .inr (.inr h)
   ·rintro (h|h|h)
    ·exact .inr (.inl h)
    ·exact .inl h
    ·exact .inr (.inr h)
theorem dY{p:.cO}:∀{r},p∈c5 r↔p∈r
 |[]=>by simp[c5]
 |x::r=>by dsimp[c5,wM,dY,xB]
theorem Dh(f:Nat × Int->Int)(x:.cO):∀r,((pW x r).map f).sum=f x+(r.map f).sum
 |[]=>by simp[pW]
 |y::r=>by
  dsimp[pW];split
  ·simp
  ·simp[Dh f x r];omega
theorem sD(f:Nat × Int->Int):∀r,((c5 r).map f).sum=(r.map f).sum
 |[]=>rfl
 |x::r=>by simp[c5,Dh,sD f r]
/---/def nbs(T:.V)(i:Nat):List .bA:=T.filterMap λt=>(far i t).map λj=>(j,t.w)
/---/def uS(p:.cO):Int × D:=((p.1:Int),.int p.2)
def Di(T:.V)(t:Tie)(i:Nat):nbs (T++[t]) i=nbs T i++(match far i t with|some j=>[(j,t.w)] | none=>[]):=by
 unfold nbs;rw[List.filterMap_append];congr 1;cases e:far i t<;>simp[e]
def Ko{l:.a6}(h:∀p∈l,p.1≠k):vS .oE k=none:=by
 unfold vS;rw[List.find?_eq_none.mpr]
 ·rfl
 ·intro x b
  obtain⟨p,c,rfl⟩:=z5.mp b;have a:=h p c;have:¬((p.1:Int)=(k:Int)):=λz=>a .a;rw[YS];exact this
def Dj{l:.a6}{k:Nat}(h:∀p∈l,p.1≠k):EW .oE k .eu=(l++[(k,v)]).map uS:=by
 unfold EW;rw[y3]
 ·simp[uS]
 ·dsimp[List.any_eq_true,z5,YS]
  rintro⟨x,⟨p,b,rfl⟩,e⟩;have a:=h p b;have e:(p.1:Int)=(k:Int):=e;exact a .a
def Dk{i j:Nat}(h:.jo):(t.a=i/\t.b=j)\/(t.b=i/\t.a=j):=by
 unfold far at h
 by_cases a:t.a=i
 ·rw[z4 a]at h;exact .inl ⟨a,ZT h⟩
 ·rw[y3 a]at h
  by_cases b:t.b=i
  ·rw[z4 b]at h;exact .inr ⟨b,ZT h⟩
  ·rw[y3 b]at h;cases h
def FZ{i j:Nat}(g:.jo)(un:∀s∈T,iN s t):∀p∈nbs T i,p.1≠j:=λp l e=>by
 obtain⟨s,h,q⟩:=XX.mp l;obtain⟨k,f,rfl⟩:=Option.map_eq_some_iff.mp q;have u:=un s h;rw[show k=j from e]at f;rcases Dk g with ⟨b,a⟩|⟨b,a⟩<;>rcases Dk f with ⟨c,d⟩|⟨c,d⟩
 ·exact u.1 ⟨c.trans b.symm,d.trans a.symm⟩
 ·exact u.2 ⟨d.trans a.symm,c.trans b.symm⟩
 ·exact u.2 ⟨c.trans b.symm,d.trans a.symm⟩
 ·exact u.1 ⟨d.trans a.symm,c.trans b.symm⟩
def zq{t:Tie}(h1:t.a≠t.b)(j:t.a<n)(g:t.b<n)(d:1<=t.w/\t.w<=400)(h:Hd):j5 [.int n,bL t] h=.aN h:=by
 have f:(t.a:Int)<=n-1:=Int.le_sub_one_of_lt (Int.ofNat_lt.mpr j);have k:(t.b:Int)<=n-1:=Int.le_sub_one_of_lt (Int.ofNat_lt.mpr g);have e:¬(t.a:Int)=t.b:=λz=>h1 (Int.ofNat.inj z);have c:∀{i a b:Int},a<=i->i<=b->bq [.int i,.int a,.int b] h=.aN h:=λx y=>by rw[cX,x3 x,x3 y];rfl
 exact YY (.v<|sx (bU<|iu .sG<|aM<|.cs<|dz<|.aR rfl)<|sx (aA .bi)<|sx (aA .bi)<|sx (bU<|iu (cH<|aM<|au .zE<|c (zZl _) f)<|cH<|aM<|au .zE<|c (zZl _) k)<|aJ<|n9<|jt (aM<|.ah (by rw[pU,xC e];rfl))<|aM<|au (ak .bi .fN)<|c d.1 d.2) aU
structure NH(n A:Nat)(h0:Hd)(T:.V)(h:Hd):Prop where
 pre:∃g,h=h0++g/\g.length=n+1
 dc:∀j,j<n->h[A+j]?=some (.dct<|(nbs T j).map uS)
 rf:h[A+n]?=some (.lst .gE)
def NH.put(a:A=h0.length)(N:NH n A h0 T h){j:Nat}(d:j<n)(c:bJ):(∃g,h.set (A+j) c=h0++g/\g.length=n+1)/\(h.set (A+j) c)[A+j]?=some c/\(∀k,k≠j->(h.set (A+j) c)[A+k]?=h[A+k]?):=by
 obtain⟨g,e,l⟩:=N.pre;have lt:=(z0.mp<|N.dc j d).1;exact⟨⟨g.set j c,by rw[e,oO a],by rw[Y7];exact l⟩,x4 lt,λk b=>ZP λz=>b (zZb z).symm⟩
def NP{i j:Nat}(a:n<=30)(O:.an):((nbs .gP j).map uS).length<SZ:=by
 rw[ZA];exact ZS (ZM (List.length_filterMap_le _ _)<|ZM (List.length_take_le' _ _)<|ZM O.len<|Nat.add_le_add_right (Nat.mul_le_mul_left 30 a) 0) .b
noncomputable abbrev XN(n tk A:Nat)(a b c:.G):Sd:=[some .x,some .bB,some .gN,a,b,c]
def QN{tk i:Nat}(B:n<=30)(O:.an)(J:A=h.length)(N:NH n A h .gP h0)(mt:t∈T)(un:∀s∈T.take i,iN s t)(w:T.take (i+1)=T.take i++[t])(b c:.G):
  ∃m,kZ (XN n tk A (some (bL t)) b c) h0=.nx (XN n tk A (some<|bL t) (some<|.int t.a)<|some<|.int t.b) m/\NH n A h (T.take<|i+1) m:=by
 have f:=O.ne t mt;have a:=O.lt t mt;have K:far t.a t=some t.b:=z4 rfl;have H:far t.b t=some t.a:=(y3 f).trans (z4 rfl);have E:=FZ K un;have L:=FZ H un;have p:∀j:Nat,j < n->atI ((.t).map λi=>D.ref (A + i)) (j:Int)=some (.ref<|A + j):=λj u=>du (by rw[ZQ,YT u];rfl);have F:=p t.a a.1;have M:=p t.b a.2;have C:=N.dc t.a a.1;obtain⟨G,I,r⟩:=N.put J a.1 (.dct .yH);obtain⟨k,o⟩:=qq (h0.set (A + t.a)<|.dct .yH);rw[<-o]at G I r;have q:k[A + n]? = some (.lst<|(.t).map λi=>.ref (A + i)):=(r n<|YA a.1).trans N.rf;have y:k[A + t.b]? = some (.dct<|(nbs .gP t.b).map uS):=(r t.b<|XO f).trans (N.dc t.b a.2);obtain⟨m,d⟩:=qq (k.set (A + t.b)<|.dct<|(nbs .gP t.b++[(t.a,t.w)]).map uS);refine⟨m,sx (bU<|cH<|aM<|au .fN<|zq f a.1 a.2 (O.wt t mt) h0) (sx (aA .bi) (sx (aA .bi) (sx (bU<|aM<|aj rfl .Bl (by rw[Uh C,Ko E];rfl)) (sx (h':=k) (by
  rw[o,<-Dj E];exact IB .bi .Bl rfl C (NP B O)) (by
  rw[d,<-Dj L];exact IB .bi (.bc (aF q) M) rfl y (NP B O)))))),?_,λj u=>?_,?_⟩
 ·obtain⟨g,e,l⟩:=G
  exact⟨_,by rw[d,e,oO J],by rw[Y7];exact l⟩
 ·rw[w,Di]
  by_cases x:t.b=j
  ·subst x
   rw[d,Uk _ y,H]
  ·rw[d,ZP (λz=>x (zZb z))]
   by_cases v:t.a=j
   ·subst v
    rw[I,K]
   ·have:far j t=none:=(y3 v).trans (y3 x)
    rw[r j (XO v),this,N.dc j u];simp
 ·rw[d];exact(ZP (λz=>ZN a.2 (zZb z))).trans q
def Kq(y:A=h.length):∃h1 g,cz none ((.t).map λk:Nat=>D.int k) .K [] HI ((.t).map λk:Nat=>D.int k) .ax h=.ok .gE h1/\h1=h++g/\g.length=n/\∀j,j<n->h1[A+j]?=some (.dct []):=by
 obtain⟨t,h1,u,m,v,w,-,g,s,b,o⟩:=mG (g:=none) (tg:=gN 0) (k:=0)
  (e:=HI) (σ:=.ax) (h:=h)
  (P:=λi σ q=>(∃a,σ = [a])/\∃g,q=h++g/\g.length=i/\∀j,j < i->q[A + j]? = some (.dct [])) (V:=λi d=>d=.ref (A + i)) .bK (by
   rintro i x σ l B ⟨⟨a,rfl⟩,g,r,b,c⟩;obtain⟨C,rfl⟩:=f7 B;rw[Z6]at b c⊢;have p:l.length=A+i:=by rw[r,ZB,b,y]
   refine⟨_,rfl,.ref l.length,l++[.dct []],rfl,by rw[p],⟨_,rfl⟩,g++[.dct []],by rw[r,ZU],by rw[ZB,b];rfl,λj f=>?_⟩
   by_cases hji:j<i
   ·exact .k (c j hji)
   ·rw[Nat.le_antisymm (X6 f) (zZf.mp hji),<-p];exact ZG) ⟨⟨_,rfl⟩,[],(XA _).symm,rfl,λj f=>absurd f (UO _)⟩
 rw[ZA,ZO]at m;rw[Z6,ZA,ZO]at b o;have c:t=(.t).map λi=>.ref (A+i):=wG m λi d z=>by have:=v i d z;rwa[Z6]at this
 exact⟨h1,g,by rw[u,c],s,b,o⟩
inductive NI(n A tk:Nat)(h:Hd)(T:.V):Nat->Sd->Hd->Prop
 |mk {i:Nat} {h':Hd} {a b c:.G} (N:NH n A h .gP h'):NI n A tk h T i (XN n tk A a b c) h'
def xR(M:1<=n)(r:n<=30)(O:.an)(ht:h[tk]?=some .e0):
  ∃h',jG [.int n,.ref tk] h=.ok (.ref<|h.length+n) h'/\NH n h.length h T h':=by
 obtain⟨A,o⟩:=qq .i5;rw[<-o];obtain⟨w,g,B,p,u,L⟩:=Kq o;obtain⟨l,d⟩:=qq (w++[.lst .gE]);have m:w.length=A+n:=by rw[p,ZB,u,o]
 have I:NH n A h [] l:=⟨⟨g++[.lst .gE],by rw[d,p,ZU],by rw[ZB,u];rfl⟩,λj G=>by rw[d];exact .k (L j G),by rw[d,<-m];exact ZG⟩;obtain⟨_,K,D,@⟨_,S,U,R,y⟩⟩:=cP (P:=NI n A tk h T) (g:=some tk) (k:=0)
   (λ_ _ h' q=>by
    obtain⟨N⟩:=q;obtain⟨g,e,_⟩:=N.pre;rw[e];exact .k ht)
   (xs:=T.map bL) (tg:=gN 3) (σ:=XN n tk A none none none) (h:=l) (b:=kZ) (by
   intro i x σ V t z;rw[Z6]at z⊢;obtain @⟨_,a,b,c,N⟩:=z;have f:i<T.length:=by have:=(z0.mp t).1;rwa[ZA]at this
   rw[ZQ,ZE f]at t;cases t;have Q:T[i]∈T:=YM f;have J:∀s∈T.take i,iN s T[i]:=λs F=>by
    obtain⟨k,v,rfl⟩:=List.getElem_of_mem F;rw[yo]at v;rw[List.getElem_take];exact zZo.mp O.un k i _ f (Z0 v<|Nat.min_le_left _ _)
   obtain⟨C,E,H⟩:=QN (tk:=tk) r O o N Q J (X7 f) b c;exact⟨_,rfl,_,C,E,.mk H⟩) (.mk I)
 rw[Z6,ZA,zYg]at y;refine⟨K,YY (bm (σ:=[some .x,some .bB,none,none,none,none]) rfl rfl (sx (bU<|cH<|aM<|A0 rfl ht) (sx (σ':=[some .x,some .bB,some (.ref<|A + n),none,none,none]) (h':=l) (by
  rw[d,<-m];exact aA (bF (ce (dJ rfl<|ZM r .b) B) (by rw[ZA,ZO];exact ZM r .b))) (sx (eK (cy rfl (by rw[d,p];exact .k (.k ht))) D) .dU)))) (by simp[letGo,pure?]),y⟩
def VO(a b:Int)(h:Hd):oNe .ci (.int b) h=.ok .nn h:=rfl
def F3{l:.i}(nd:l.Nodup)(h:∀x∈l,x<n):l.length<=n:=by
 induction n generalizing l with
 |zero=>match l,h with
  |[],_=>exact ZL _
  |x::_,h=>exact absurd (h x ZV) (UO _)
 |succ n b =>
  by_cases m:n∈l
  ·have:=b (nd.erase n) λx a=>by
    have z:=(List.Nodup.mem_erase_iff nd).mp a;exact zZj (X6<|h x z.2) z.1
   rw[List.length_erase_of_mem m]at this;exact Nat.le_add_of_sub_le this
  ·exact zZt (b nd λx a=>zZj (X6<|h x a) λz=>m (z▸a))
/---/def bg(n:Nat)(T:.V)(bs:.c)(ss:.Q):Web:=⟨(.t).map λi=>c5 .bn,bs,ss⟩
theorem qL:∀l:List .bA,ii .oE=some (l.map qK)
 |[]=>rfl
 |p::l=>by
  have a:=qL l;simp;show (ii .oE).map _=_;rw[a];rfl
def k7(un:T.Pairwise iN)(i:Nat):((.bn).map (·.1)).Nodup:=by
 unfold nbs
 induction T with
 |nil=>simp
 |cons t T a =>
  obtain⟨d,f⟩:=Z4.mp un;have a:=a f;cases e:far i t with
  |none=>dsimp[vr,e,Option.map_none];exact a
  |some j =>
   dsimp[vr,e,zo,y6,Y3];refine⟨λz=>?_,a⟩;obtain⟨p,g,b⟩:=z5.mp z;exact FZ e (λs c=>(d s c).symm) p g b
def QO{l:.a6}(nd:(l.map (·.1)).Nodup):(l.map qK).Nodup:=by
 rw[Y0,Y5]at nd⊢;exact nd.imp λ{a b} h e=>h (by have:=(List.cons.inj e).1;omega)
def oT{α:Type}{l:List α}:lq .se=some .nH:=by
 induction l with
 |nil=>rfl
 |cons x l a=>simp[lq,a]
def A2{bs:.c}(k:h[f]?=some .dH)(j:l.length=n)(d:h[bk]?=some .b5)(lb:.bo):kF [.ref f,.ref bk] h=.ok (.tup .bs) h:=by
 have c:cz (some bk) .dO .K [] .oA .dO .ax h=.ok ((.dO).map λ_=>D.bl true) h:=by
  have:=bB (g:=some bk) (tg:=gN 0) (cs:=[]) (e:=av eZ .aG) (I:=λσ=>∃a,σ = [a]) .bb .iI d (xs:=bs.map D.int) (σ:=.ax) (by
   rintro x m σ ⟨a,rfl⟩;obtain⟨i,_,rfl⟩:=z5.mp m;exact⟨_,rfl,⟨_,rfl⟩,rfl,λ_=>au .bz (qJ _ _)⟩) ⟨_,rfl⟩
  rw[this,Z5.mpr .d]
 have o:((.dO).map λ_=>true).all id=true:=by simp
 exact YY (bm (σ:=[some .ak,some (.ref bk)]) rfl rfl<|sx (bU .cm)<|sx (bU<|iu (.bq<|aM<|A0 rfl d)<|aM<|aj (dz<|.aR<|aF d) (dz<|.aR<|aF k) (by rw[VO,ZA,lb,j,x3 rfl];rfl))<|sx (bU<|.bq<|aM<|YY (nZ (ce (cy rfl d) c) oT) (by rw[o]))<|aJ<|iw<|.aR<|aF d) aU
def xS{d:Nat}{ss:.Q}(f:h[d]?=some .dg)(ls:.bv)(os:.bD):jH [.int n,.ref d] h=.ok (.tup .aj) h:=by
 have c:cz (some d) .aj .K [] (fT .rD) .aj .ax h=.ok ((.aj).map λ_=>D.bl true) h:=by
  have:=bB (g:=some d) (tg:=gN 0) (cs:=[]) (e:=fT .rD) (I:=λσ=>∃a,σ = [a]) .bb .iI f (xs:=ss.map bj) (σ:=.ax) (by
   rintro x k σ ⟨a,rfl⟩;obtain⟨i,j,rfl⟩:=z5.mp k;refine⟨_,rfl,⟨_,rfl⟩,rfl,λ_=>?_⟩;rcases os i j with e|e|e<;>subst e
   ·exact n9 (AY .cm)
   ·exact n9 (iu .cm<|aM<|.ay<|j4 0 h)
   ·exact n9 (iu .cm<|aM<|.ay<|j4 1 h)) ⟨_,rfl⟩
  rw[this,Z5.mpr .d]
 exact YY (bm (σ:=[some .x,some .dd]) rfl rfl<|sx (bU .cm)<|sx (bU<|iu (.bq<|aM<|A0 rfl f)<|aM<|aj (dz<|.aR<|aF f) rfl (by rw[VO,ZA,ls,x3 rfl];rfl))<|sx (bU<|.bq<|aM<|YY (nZ (ce (cy rfl f) c) oT) (by rw[List.all_map];simp))<|aJ<|iw<|.aR<|aF f) aU
def QP(s:n<=30)(O:.an)(N:NH n A h T h1):
  cz (some<|A+n) .gE .K [] (gZ<|rL .e) .gE .ax h1=.ok ((.qj).map wF) h1:=by
 have:=bB (g:=some (A+n)) (tg:=gN 0) (cs:=[]) (e:=gZ (rL .e)) (h:=h1) (I:=λσ=>∃a,σ=[a]) .bb
  (λd=>match d with | .ref k=>wF (c5<|nbs T<|k - A)|_=>.non) N.rf (xs:=(.t).map λi=>.ref (A + i)) (σ:=.ax) (by
   rintro x l σ ⟨a,rfl⟩;obtain⟨i,f,rfl⟩:=z5.mp l;have f:=YU.mp f;refine⟨_,rfl,⟨_,rfl⟩,rfl,λ_=>?_⟩;have r:=k7 O.un i;have c:((.bn).map qK).length<64:=by
    have lt:∀p∈nbs T i,p.1<n:=λp b=>by
     unfold nbs at b;obtain⟨t,j,q⟩:=XX.mp b;have:=O.lt t j;unfold far at q
     by_cases o:t.a=i
     ·rw[z4 o]at q;simp at q;subst q;exact this.2
     ·rw[y3 o]at q
      by_cases m:t.b=i
      ·rw[z4 m]at q;simp at q;subst q;exact this.1
      ·rw[y3 m]at q;cases q
    have:=F3 r (n:=n) (λx l=>by
     obtain⟨p,b,rfl⟩:=z5.mp l;exact lt p b)
    simp at this⊢;omega
   have e:((eI<|(.bn).map qK).map Af)=(c5 .bn).map pS:=by rw[<-zn,ZY];rfl
   dsimp[List.set_cons_zero,gZ,rL,aa,slot,List.getElem?_cons_zero,aE,N.dc i f,qL,z4 (And.intro c<|QO r),e,wF,wo]) ⟨_,rfl⟩
 rw[this,Z5.mpr .d,ZY,ZY];congr 1;apply YQ;intro i _;simp
def oU(f:1<=n)(i:n<=30)(O:.an)(lb:.bo)(ls:.bv)(os:.bD)
  (ht:h[tk]?=some .e0) (t:h[bk]?=some .b5) (q:h[p]?=some .dg):fW [.int n,.ref tk,.ref bk,.ref p] h=.ok (.P).enc h:=by
 obtain⟨m,o,N⟩:=xR f i O ht;obtain⟨A,s⟩:=qq .i5;rw[<-s]at o N;obtain⟨g,l,w⟩:=N.pre;have d:∀{k:Nat} {c:bJ},h[k]?=some c->m[k]?=some c:=λ{k c} e=>by rw[l,ZC (.dS).1];exact e
 have a:=QP i O N;have u:=A2 N.rf .d (d t) lb;have j:=xS (d q) ls os;have r:(1:Int)<=n:=zXb.mpr f;have v:(n:Int)<=30:=zXb.mpr i;have rf:=N.rf;refine YY (.v<|sx (bU<|.bq<|aM<|au (.b7 .fN) (by rw[cX,x3 r,x3 v];rfl))<|sx (aA<|au .fN o)<|sx (aA<|iw<|ce (cy rfl rf) a)<|aJ<|jr (.b7<|ak (au .fN u)<|.cw<|au .fN j) (by exact Y4 rfl)) ?_;show letGo h (.ok (.P).enc m)=_;rw[l];exact bT (oo _)
theorem mK(s:.c):∀r:List .bA,bX r s=(r.map λp=>if s.getD p.1 0=1 then p.2 else 0).sum
 |[]=>rfl
 |p::r=>by
  have a:=mK s r;dsimp[bX,gS,XB,y6,X2]at a⊢
  by_cases e:s.getD p.1 0=1
  ·dsimp[e,decide_true,XH,y6,X2];rw[a]
  ·dsimp[e,decide_false,XZ,YH];rw[a];omega
def Dl(s:.c)(r:.a6):bX (c5 r) s=bX r s:=by rw[mK,mK,sD]
def pX(lt:.uA):∀p∈nbs T i,p.1<n:=λp d=>by
 unfold nbs at d;obtain⟨t,a,q⟩:=XX.mp d;have:=lt t a;unfold far at q
 by_cases c:t.a=i
 ·rw[z4 c]at q;simp at q;subst q;exact this.2
 ·rw[y3 c]at q
  by_cases b:t.b=i
  ·rw[z4 b]at q;simp at q;subst q;exact this.1
  ·rw[y3 b]at q;cases q
def iz(c:n<=30)(O:.an)(lb:.bo)(ls:.bv):(.P).Ok n:=by
 refine⟨by simp[bg],lb,ls,λr a p b=>?_,by omega⟩;obtain⟨i,_,rfl⟩:=z5.mp a;exact pX O.lt p (dY.mp b)
structure Xj(n:Nat)(T:.V)(bs:.c)(ss:.Q)(tk bk sk:Nat)(h:Hd):Prop where
 ti:h[tk]?=some .e0
 ba:h[bk]?=some .b5
 st:h[sk]?=some .dg
theorem F4(h1:one<n):dh .P s one=match ss.getD one none with
  |some x=>x
  |none=>if 2*bX (nbs T one) s=bs.getD one 0 then s.getD one 0 else if bs.getD one 0<2*bX (nbs T one) s then 1 else 0:=by
 have e:((.P).ties.getD one [])=c5 (nbs T one):=by simp[bg,List.getD,h1]
 unfold dh;rw[e,Dl];rfl
theorem zr{α:Type}{f:α->D}(h:∀x,dep (f x)<=k):∀l:List α,mi .hf<=k
 |[]=>YR _
 |x::l=>by simp;exact Nat.max_le.mpr ⟨h x,zr h l⟩
structure Xk(n:Nat)(ss:.Q)(s:.c):Prop where
 len:s.length=n
 op:∀x∈s,x=0\/x=1
 st:∀(i:Nat) x,ss[i]?=some .fh->s[i]?=some x
/---/def LeS(a b:.c):Prop:=∀i:Nat,a.getD i 0<=b.getD i 0
/---/def A3(a:.c):Prop:=∀i:Nat,a.getD i 0=0\/a.getD i 0=1
def hJ(p:.cO)(r:.a6)(s:.c):bX (p::r) s=(if s.getD p.1 0=1 then p.2 else 0)+bX r s:=by
 unfold bX gS
 by_cases e:s.getD p.1 0=1
 ·rw[XB,z4 .AH,z4 e];rfl
 ·rw[XB,y3 .AH,y3 e];omega
theorem um{a b:.c}(B:A3 b)(l:LeS a b):∀{r:.a6},(∀p∈r,0<=p.2)->bX r a<=bX r b
 |[],_=>zZw _
 |p::r,h=>by
  have i:=um B l (r:=r) λq d=>h q (by simp[d]);have f:=h p .d;have g:=l p.1;have j:=B p.1;rw[hJ,hJ]
  by_cases e:a.getD p.1 0=1
  ·have c:b.getD p.1 0=1:=by omega
   rw[z4 e,z4 c];omega
  ·rw[y3 e]
   by_cases c:b.getD p.1 0=1
   ·rw[z4 c];omega
   ·rw[y3 c];omega
def QQ{c e d a x y:Int}(hp:c<=e)(h:a<=d)(l:x<=y)(m:x=0\/x=1)(n:y=0\/y=1):(if 2*c=d then x else if d<2*c then 1 else 0)<=(if 2*e=a then y else if a<2*e then (1:Int) else 0):=by
 have k:0<=y:=by rcases n with rfl|rfl<;>decide
 have j:x<=1:=by rcases m with rfl|rfl<;>decide
 have q:2*c<=2*e:=Int.mul_le_mul_of_nonneg_left hp .b;generalize 2*c=A at q;generalize 2*e=B at q
 by_cases g:A=d
 ·rw[z4 g]
  by_cases b:B=a
  ·rw[z4 b];exact l
  ·rw[y3 b,z4 (Int.lt_iff_le_and_ne.mpr ⟨zXt h (g▸q),XO b⟩)];exact j
 ·rw[y3 g]
  by_cases f:d<A
  ·have i:a<B:=Int.lt_of_le_of_lt h (Int.lt_of_lt_of_le f q)
   rw[z4 f,y3 (Int.ne_of_gt i),z4 i];exact zZw _
  ·rw[y3 f]
   by_cases b:B=a
   ·rw[z4 b];exact k
   ·rw[y3 b]
    split
    ·decide
    ·exact zZw _
def F5{c d:Web}{a b:.c}(hp:bX .sR a<=bX .sQ b)(g:d.bars.getD p 0<=c.bars.getD p 0)(B1:A3 a)(h:A3 b)(le:LeS a b)
  (st:.wT\/c.stays.getD p none=some 0\/d.stays.getD p none=some 1) (n1:dh c a p=0\/dh c a p=1) (n2:dh d b p=0\/dh d b p=1):dh c a p<=dh d b p:=by
 rcases st with ⟨e,f⟩|s|s
 ·have i:=B1 p
  have j:=h p;have l:=le p;unfold dh;rw[e,f];generalize bX .sR a=k at *;generalize bX .sQ b=o at *;generalize c.bars.getD p 0=n at *;generalize d.bars.getD p 0=m at *;generalize a.getD p 0=x at *;generalize b.getD p 0=y at *;exact QQ hp g l i j
 ·have:dh c a p=0:=by unfold dh;rw[s]
  omega
 ·have:dh d b p=1:=by unfold dh;rw[s]
  omega
def zt(w:Web)(n:Nat)(s:.c)(i:Nat):(.de).getD i 0=if i<n then dh w s i else 0:=by
 unfold dD
 by_cases h:i<n<;>simp[List.getD,h]
def fZ.bits(F:.a5):A3 s:=λi=>ja F i
structure Ul(w1 w2:Web)(n:Nat):Prop where
 go:∀a b,fZ w1 n a->fZ w2 n b->LeS a b->LeS (dD w1 n a) (dD w2 n b)
def QR{c d:Web}(k:gx c)(S2:gx d)(hp:∀p,p<n->∀a b,A3 a->A3 b->LeS a b->bX .sR a<=bX .sQ b)(j:∀p,p<n->d.bars.getD p 0<=c.bars.getD p 0)
  (st:∀p,p<n->.wT\/c.stays.getD p none=some 0\/d.stays.getD p none=some 1):Ul c d n :=
 ⟨λa b e f g i=>by
  rw[zt,zt]
  by_cases h:i<n
  ·rw[z4 h,z4 h]
   exact F5 (hp i h a b e.bits f.bits g) (j i h) e.bits f.bits g (st i h) (wK e k i) (wK f S2 i)
  ·rw[y3 h,y3 h];exact zZw _⟩
noncomputable def S2(R:Nat->List .bA)(f s:.d3):Nat->Int
 |0=>0
 |k+1=>S2 R f s k+((R k).map λp=>p.2*f p.1*s k).sum
noncomputable def gy(g:.d3):Nat->Int
 |0=>0
 |n+1=>gy g n+g n
def zu(g:.d3)(n:Nat):((.t).map g).sum=gy g n:=by
 induction n with
 |zero=>rfl
 |succ n a=>rw[yi,ZR,List.sum_append,a];simp[gy]
def Dm(l:.c):l.sum=gy (λk=>l.getD k 0) l.length:=by
 rw[<-zu];congr 1;apply YX;intro i
 by_cases a:i<l.length<;>simp[List.getD,a]
/---/def sE(w:Web)(n:Nat)(f s:.c):Int :=
 2*gy .qS n+f.sum+s.sum-4*S2 .hU .s3 .s2 n-2*gy .rC n
def Kr(b:∀p∈r,f.getD p.1 0=0\/f.getD p.1 0=1):bX r f=(r.map λp=>p.2*f.getD p.1 0).sum:=by
 induction r with
 |nil=>rfl
 |cons p r c =>
  have d:=b p .d;have a:=c λq g=>b q (by simp[g]);dsimp[bX,gS]at a⊢;rcases d with e|e
  ·simp[-List.getD_eq_getElem?_getD,e,a]
  ·simp[-List.getD_eq_getElem?_getD,e,a]
def zv(W:w.Ok n)(d:fZ w n f)(h:.a5):iy w f s n=sE w n f s:=by
 have a:∀{l:.c} (F:fZ w n l) (i:Nat),l.getD i 0=0\/l.getD i 0=1:=λ{l} F i=>by
  by_cases j:i<l.length
  ·rw[List.getD,ZE j];exact F.op _ (YM j)
  ·rw[List.getD,YD .a];exact .inl rfl
 have c:∀m,m<=n->iy w f s m=2*gy .qS m+gy .s3 m+gy .s2 m
   - 4*S2 .hU .s3 .s2 m-2*gy .rC m:=by
  intro m
  induction m with
  |zero=>intro _;rfl
  |succ m b =>
   intro v;have b:=b .a;dsimp[iy,gy,S2,oR,b];have t:=Kr (r:=w.ties.getD m []) λp _=>a d p.1;have u:=a d m;have q:=a h m;have g:((.fF).map λp=>p.2*f.getD p.1 0*s.getD m 0).sum=bX .fF f*s.getD m 0:=by
    rw[t];generalize w.ties.getD m []=r
    induction r with
    |nil=>simp
    |cons p r b=>dsimp[y6,X2,b,Int.add_mul]
   rw[g];rcases u with e|e<;>rcases q with o|o<;>dsimp[e,o]<;>simp<;>omega
 rw[c n .o,sE,Dm f,Dm s,d.len,h.len]
def F6(sym:.hn):sE w n f s=sE w n s f:=by
 have b:.qS=λk=>(s.getD k 0+f.getD k 0)*w.bars.getD k 0:=by funext k;rw[Int.add_comm]
 have a:.rC=λk=>s.getD k 0*f.getD k 0:=by funext k;rw[Int.mul_comm]
 rw[sE,sE,b,a,sym];omega
def Ks(W:w.Ok n)(b:fZ w n f)(a:.a5)(sym:.hn):iy w f s n=iy w s f n:=by
 rw[zv W b a,zv W a b,F6 sym]
/---/def unl(a b:.c)(n:Nat):Int:=gy (λp=>if a.getD p 0=b.getD p 0 then 0 else 1) n
theorem pY(a b:.c):∀n,0<=unl a b n
 |0=>by simp[unl,gy]
 |n+1=>by
  have:=pY a b n;dsimp[unl,gy]at this⊢;split<;>omega
theorem ID{a b:.c}:∀{n:Nat},(∃p,p<n/\a.getD p 0≠b.getD p 0)->1<=unl a b n
 |0,⟨p,hp,_⟩=>by omega
 |n+1,⟨p,hp,hne⟩=>by
  have h0:=pY a b n
  by_cases e:p=n
  ·subst e
   dsimp[unl,gy]at h0⊢;rw[y3 hne];omega
  ·have:=ID (n:=n) ⟨p,by omega,hne⟩
   dsimp[unl,gy]at this⊢;split<;>omega
def QS{a b:.c}(e:a.length=n)(f:b.length=n)(h:a≠b):∃p,p<n/\a.getD p 0≠b.getD p 0:=by
 refine zXf λq=>h ?_;apply List.ext_getElem .a;intro i c d;refine zXf λz=>q ⟨i,by omega,?_⟩;simpa[List.getD,c,d] using z
def Kt(hp:p<n):(.de).getD p 0=dh w s p:=by simp[dD,List.getD,hp]
def Ku(F:.a5)(e:w.stays.getD p none=some x):s.getD p 0=x:=by
 have:w.stays[p]?=some .fh:=by
  rw[List.getD]at e;cases c:w.stays[p]? with
  |none=>rw[c]at e;cases e
  |some y=>rw[c]at e;simp at e;rw[e]
 have:=F.st p x this;simp[List.getD,this]
def WZ{d a:.c}(W:w.Ok n)(h:fZ w n d)(o:fZ w n a)(sym:.hn):
  iy w a .i7 n+unl d .i7 n<=iy w d a n:=by
 rw[Ks W h o sym];have j:∀m,m<=n->iy w a .i7 m+unl d .i7 m<=iy w a d m:=by
  intro m
  induction m with
  |zero=>intro _;simp[iy,unl,gy]
  |succ m k =>
   intro A;have k:=k .a;have e:=ja h m;have g:=ja o m;have t:=Kt (w:=w) (s:=a) (p:=m) (n:=n) .a;have q:oR w a .i7 m+(if d.getD m 0=(.i7).getD m 0 then 0 else 1)<=oR w a d m:=by
    unfold oR;rw[t];unfold dh;cases c:w.stays.getD m none with
    |some x =>
     have:=Ku h c;dsimp[this];simp
    |none =>
     simp only;generalize w.bars.getD m 0=b;generalize bX .fF a=P;generalize d.getD m 0=v at e⊢;generalize a.getD m 0=u at g⊢
     by_cases l:2*P=b
     ·rw[z4 l]
      rcases e with z|z<;>rcases g with y|y<;>subst z y<;>simp<;>omega
     ·rw[y3 l]
      by_cases r:b<2*P
      ·rw[z4 r]
       rcases e with z|z<;>rcases g with y|y<;>subst z y<;>simp<;>omega
      ·rw[y3 r]
       rcases e with z|z<;>rcases g with y|y<;>subst z y<;>simp<;>omega
   dsimp[iy,unl,gy]at k⊢;omega
 exact j n .o
/---/def Kv(r:.a6):Int:=(r.map λp=>(p.2.natAbs:Int)).sum
def Kw(r:.a6)(f:.c):bX r f<=Kv r:=by
 induction r with
 |nil=>simp[bX,gS,Kv]
 |cons p r a =>
  dsimp[bX,gS,Kv,XB,y6,X2]at a⊢;split
  ·dsimp[y6,X2];omega
  ·omega
theorem NQ{w:Web}{n:Nat}:∀m,∃C:Int,∀f s,fZ w n f->fZ w n s->-C<=iy w f s m
 |0=>⟨0,λf s _ _=>by simp[iy]⟩
 |m+1=>by
  obtain⟨C,d⟩:=NQ m;refine⟨C+(2*((2*w.bars.getD m 0+1).natAbs:Int)+4*Kv .fF+2+4*((Kv .fF).natAbs:Int)),λf s c a=>?_⟩;have h:=d f s c a;have e:=ja c m;have g:=ja a m;have i:=Kw .fF f;dsimp[iy,oR];generalize w.bars.getD m 0=b at *;generalize bX .fF f=P at *;generalize Kv .fF=A at *;generalize iy w f s m=T at *;rcases e with z|z<;>rcases g with y|y<;>dsimp[z,y]<;>simp<;>omega
def F7{P:Nat->Prop}(h:∃t,P t):∃t,P t/\∀k,k<t->¬P k:=by
 obtain⟨t,d⟩:=h
 induction t using Nat.strongRecOn with
 |ind t c =>
  by_cases q:∃k,k<t/\P k
  ·obtain⟨k,b,a⟩:=q
   exact c k b a
  ·exact⟨t,d,λk b a=>q ⟨k,b,a⟩⟩
/---/def eN(w:Web)(n:Nat)(s:.c)(k:Nat):Int:=iy w .es (.d8<|k+1) n
def IE(W:w.Ok n)(S:gx w)(F:.a5)(sym:.hn)(k:Nat):
  eN w n s (k+1)+unl .es (.d8<|k+2) n<=eN w n s k:=WZ W .oi (cE W S F<|k+1) sym
def Sa(W:w.Ok n)(S:gx w)(F:.a5)(sym:.hn)(h:bA w n s (k+2)≠bA w n s k):eN w n s (k+1)+1<=eN w n s k:=by
 have:=IE W S F sym k;have:=ID (QS (.oi).len (cE W S F<|k+2).len (XO h));omega
theorem Sb{w:Web}{n:Nat}{s:.c}(W:w.Ok n)(S:gx w)(F:.a5)(sym:.hn):∀{m:Nat},k<=m->eN w n s m<=eN w n s k
 |0,h=>by
  have:k=0:=by omega
  subst this;exact zZw _
 |m+1,h=>by
  by_cases e:k=m+1
  ·subst e;exact zZw _
  ·have a:=Sb W S F sym (k:=k) (m:=m) .a
   have c:=IE W S F sym m;have b:=pY (.d8 m) (.d8<|m+2) n;omega
def W0(W:w.Ok n)(S:gx w)(F:.a5)(sym:.hn):∃t,bA w n s (t+2)=bA w n s t/\∀k,k<t->bA w n s (k+2)≠bA w n s k:=by
 refine F7 ?_;refine zXf λq=>?_;obtain⟨C,b⟩:=NQ n;have a:∀k:Nat,eN w n s k+k<=eN w n s 0:=by
  intro k
  induction k with
  |zero=>simp
  |succ k d =>
   have:=Sa W S F sym λz=>q ⟨k,z⟩;omega
 have c:=a (eN w n s 0+C+1).toNat;have e : -C<=eN w n s (eN w n s 0+C+1).toNat:=b _ _ (cE W S F _) (cE W S F _);omega
theorem zw:∀(a b:.c),a.length=b.length->kr (a.map .int) (b.map .int)=some (decide (a=b))
 |[],[],_=>by simp[kr]
 |x::a,y::b,h=>by
  have d:=zw a b .nA;dsimp[y6,kr,peq,d]
  by_cases e:x=y<;>by_cases c:a=b<;>simp[e,c]
 |[],_::_,h=>by simp at h
 |_::_,[],h=>by simp at h
def Kx(l:.c):mi .eX=0:=by
 induction l with
 |nil=>rfl
 |cons x l a=>simp[mi,dep,a]
def QT(l:.c):dep (aK l)=1:=by simp[aK,dep,Kx]
def QU{a b:.c}(h:.pd):peq (aK a) (aK b)=some (decide (a=b)):=by
 dsimp[aK,peq,zw a b h,zo,ZA,h];simp
def IG{a b:.c}(h:.pd)(hd:Hd):eqG hd (aK a) (aK b)=some (decide (a=b)):=by
 have c:∀l,ee hd (aK l)=none:=λl=>rfl;dsimp[eqG,c,QT,QU h];rfl
def IH{a b:.c}(h:.pd)(hd:Hd):oNe (aK a) (aK b) hd=.ok .nn hd:=by
 unfold oNe;rw[IG h]
def II{a b:.c}(h:.pd)(hd:Hd):oEq (aK a) (aK b) hd=.ok (.bl<|decide (a=b)) hd:=by
 unfold oEq;rw[IG h]
def VP{k:Nat}(h1:1<=k)(a:k<=n):¬ 0<=-(k:Int)/\-(n:Int)<=-(k:Int)/\(-(k:Int)+(n:Int)).toNat=n-k:=by omega
def QV{k:Nat}(h1:1<=k)(a:k<=l.length):atI l (-(k:Int))=l[l.length-k]? := by
 have q:=VP h1 a;unfold atI ixN;rw[y3 q.1,z4 q.2.1,q.2.2];rfl
def iA(k j:Nat)(h1:1<=j):atI ((.d7<|k+j).map aK) (-(j:Int))=some (aK .es):=by
 rw[QV h1 (by rw[ZA,jM];exact Nat.le_add_left j k),ZA,jM,Nat.add_sub_cancel,ZQ,bu,ZQ,YT (Nat.lt_add_of_pos_right h1)];rfl
def sF(e:.pe):aw a b σ h=b σ' h':=by simp[aw,e]
def NR(W:w.Ok n)(S:gx w)(F:.a5)(ht:.ba (t+2)=.ba t)(hm:∀k,k<t->bA w n s (k+2)≠bA w n s k)(hz:t<=900000)(h:Hd):
  oS .g2 h=.ok (.tup [.int t,.str .qw,.ref h.length]) .gS:=by
 have L:∀k,(.es).length=n:=λk=>(.oi).len;have c:∀j k,k+j=t->eU (tE .nI) wJ (j+1) .hV .b0
   = .nx .wh .gS:=by
  intro j
  induction j with
  |zero =>
   intro k d;have:k=t:=d;subst this;have i:atI .gs (-2)=some (aK .es):=iA k 2 .b;have a:tE .nI .hV .b0=.ec .b0:=by
    rw[ht];exact aM (aj rfl .Ch (by rw[IH rfl,x3 rfl];rfl))
   dsimp[eU,a]
  |succ j G =>
   intro k d;have i:atI .gs (-2)=some (aK .es):=iA k 2 .b;have a:tE .nI .hV .b0=.ee .b0:=by
    exact aM (aj rfl .Ch (by rw[IH ((L<|k+2).trans (L k).symm),xC (hm k<|d▸Nat.lt_add_of_pos_right (Nat.succ_pos j))];rfl))
   have E:(.gs).length<SZ:=by rw[ZA,jM];exact ZS (Nat.add_le_add_right (ZM (d▸X0 k (j+1)) hz) 2) .b
   have C:=pV W (cE W S F<|k+2) .rb;have f:wJ .hV .b0=.nx [some w.enc,some .aC,some .A,some (aK<|.d8<|k+3),none] .rb:=by
    have m:eG (jE .h .j) .hV .b0=.nx .hV .rb:=by
     rw[show bu w n s (k+3)=bu w n s (k+2)++[.ba (k+2)] from wL (k+2),ZR];exact(dW<|ju rfl ZG rfl ZG E).trans (by rw[iW rfl];rfl)
    exact(sF m).trans (aA<|.ab C)
   rw[eU,a];dsimp[f];exact G (k+1) (by rw[zYm];exact d)
 have p:=zj (c t 0<|Z6 t) .d;have y:=pV W F h;have o:=pV W (cE W S F 1) .mO;have H:[aK s,aK .de]=(.d7 2).map aK:=by simp[bu,yi,bA]
 have r:atI ((.d7 2).map aK) 1=some (aK<|.d8 1):=NN .b;have g:atI .eR (-1)=some .CO:=iA (t+1) 1 .b;have e:atI .eR (-2)=some (aK<|.d8 t):=iA t 2 .b;have u:(.d7<|t+2).length=t+2:=jM _;have b:=II ((L<|t+1).trans (L t).symm) .gS;dsimp[bA]at o;dsimp[bA]at r;have l:.ba (0+2)=dD w n .de:=rfl;rw[l,show 0+2=2 from rfl]at p;have x:.dy .y6 .gw h
   = .nx .xX .mO:=by
  rw[<-H];exact aA (bF<|.b7<|.cw<|.ab y)
 have A:aG .aI .zT .xX .mO
   = .nx [some w.enc,some .aC,some .A,some (aK<|dD w n .de),none] .mO:=by
  exact aA (au (.b7<|.cw .Cg) o)
 have v:aG .cJ .vX .wh .gS
   = .nx [some w.enc,some .aC,some .A,some (aK<|.d8<|t+2),some (.str .qw)] .gS:=by
  by_cases q:.ba (t+1)=.ba t
  ·rw[z4 q];rw[x3 q]at b
   exact aA ((mJ .wC).trans rfl)
  ·rw[y3 q];rw[xC q]at b
   exact aA ((og .wC).trans rfl)
 have B:eG (av gH .b2) .gw h=.nx .gw h:=dW (.ab<|NK W F h);have D:((.g2).map some++List.replicate (5 - (.g2).length) none:Sd)=.gw:=rfl;unfold oS bE runB;rw[z4 (show (.g2).length=2 from rfl),D,sF B,sF x,sF A,sF p,sF v];have z:((t:Int)+2)-2=t:=by omega
 simp[u,SZ,z,letGo,pure?,fK]
/---/def bM:Fn:=bE 1 1 (aY<|aW<|lOf .fD)
def zx(l:.c):pure? (aK l)=true:=by
 unfold aK;dsimp[pure?]
 induction l with
 |nil=>rfl
 |cons x l a=>simp[fK,pure?,a]
section
variable{w:Web}{n:Nat}{s:.c}
end
section
variable{w:Web}{n:Nat}{s:.c}
end
section
variable{w:Web}{n:Nat}{a b:.c}
end
/---/def bV:Fn:=bE 2 2 (aw (sIf .BT (aY .t2) bc)
  (aY<|.aX (.bx (.bx (fC<|.int 71) .f) .f)<|.bx .h0 .f))
noncomputable abbrev wN:SF:=(sIf (tE .kl) (aw (.bd .vg)
  (eG<|jE .C<|.aO (ag iJ .E .h0) .j)) (aw (eG<|jE .C<|.aO .E .j)
  (.bd<|ag iJ .E .j)))
/---/def fg:Fn:=bE 4 7 (aw .tS
  (aw (.bd .e)
  (aw (sIf (tE .kl) .vr bc)
  (aw (fv (bZ .h) .bR wN)
  (aY .C)))))
noncomputable abbrev j6:SF:=(jm (aa 9) .ac<|fIx (ab (ag kN (fAt (aa 10) .ac)<|fC<|.int 1000)<|ab (ag kN (.aX (fAt (aa 9) .ac)<|.aO (fAt (aa 10) .ac) .h0) .eg) ar)<|.aO (ag iJ .h .tE) .R)
noncomputable abbrev pZ:SF:=(aw (.c0 .v0)
  (aw (sIf .mh .ve bc)
  (aw (jm .kG .a0 .cN)
  (jm (fAt .C .a0) .ac .cN))))
noncomputable abbrev mL:SF:=(fv (bZ .ac) (gN 7) pZ)
/---/def lI:Fn:=bE 2 12 (aw (.aM<|av bV .t7)
  (aw (.a9 .yb)
  (aw (.cY .wX)
  (aw (.bd .vx)
  (aw (fv (bZ .j) .bR mL)
  (aw (aG (gN 9) .xq)
  (aw (sIf .wy (aw (aG (gN 10) .qn)
  .CF) bc)
  (aw (.jU .AM)
  (aw (sIf .wx (aw (.bd .qk)
  (.jU .qT)) bc)
  (aY .xQ))))))))))
noncomputable abbrev sG:SF:=(aw (aG (gN 7) .CL)
  (aw (.c0<|fAt .f .ac)
  (aw (sIf .Bu (.c0 .l) bc)
  (aw (sIf .Bt (.c0 .B) bc)
  (aw (sIf .BY (.c0 .kG) bc)
  (eG<|jE .E .cN))))))
/---/def iB:Fn:=bE 2 9 (aw (aG (gT [2,3,4]) .e)
  (aw (.bd .aE)
  (aw (fv (bZ .h1) .bR sG)
  (aY<|gZ<|lOf .E))))
noncomputable abbrev mM:SF:=(aw (eG .B7)
  (sIf .BX (jm .h .j .sw) bc))
/---/def jb:Fn:=bE 2 4 (aw (.aM .aE)
  (aw (fv (bZ .dG) .aI mM)
  (aY<|gZ<|lOf .h)))
theorem zy:∀{r:.a6},(∀p∈r,p.1≠x.1)->r.Pairwise .iB->(pW x r).Pairwise .iB
 |[],_,_=>by simp[pW]
 |y::r,hne,hp=>by
  obtain⟨h1,g⟩:=Z4.mp hp;have h:=hne y .d;have f:=zy (λp hp=>hne p (by simp[hp])) g;have e:lexLt (qK x) (qK y)=decide (x.1<y.1):=by
   dsimp[qK,lexLt];rw[y3 .a];simp
  dsimp[pW];split
  ·rename_i c
   rw[e,YS]at c;refine Z4.mpr ⟨λb d=>?_,hp⟩;rcases xB.mp d with z|d
   ·rw[z];exact c
   ·exact Z3 c (h1 b d)
  ·rename_i c
   rw[e,YS]at c;refine Z4.mpr ⟨λb d=>?_,f⟩;rcases wM.mp d with z|d
   ·rw[z];omega
   ·exact h1 b d
theorem j7:∀{r:.a6},(r.map (·.1)).Nodup->(c5 r).Pairwise .iB
 |[],_=>by simp[c5]
 |x::r,nd=>by
  rw[y6,Y3]at nd;refine zy (λp hp e=>nd.1 ?_) (j7 nd.2);rw[<-e];exact z5.mpr ⟨p,dY.mp hp,rfl⟩
theorem IJ:∀{a b:.a6},a.Pairwise .iB->b.Pairwise .iB->(∀p,p∈a↔p∈b)->a=b
 |[],[],_,_,_=>rfl
 |[],y::b,_,_,h=>absurd ((h y).mpr .d) .d
 |x::a,[],_,_,h=>absurd ((h x).mp .d) .d
 |x::a,y::b,k,j,h=>by
  obtain⟨f,i⟩:=Z4.mp k;obtain⟨g,l⟩:=Z4.mp j;have e:x=y:=by
   rcases xB.mp ((h x).mp .d) with e|e
   ·exact e
   ·rcases xB.mp ((h y).mpr .d) with d|d
    ·exact d.symm
    ·have q1:=g x e
     have q2:=f y d;omega
  subst e;have t:=IJ i l λp=>⟨λc=>by
   rcases xB.mp ((h p).mp .iN) with e|e
   ·subst e;exact absurd (f p c) (YF _)
   ·exact e,λc=>by
   rcases xB.mp ((h p).mpr .iN) with e|e
   ·subst e;exact absurd (g p c) (YF _)
   ·exact e⟩
  rw[t]
def wO{a b:.a6}(c:(a.map (·.1)).Nodup)(nb:(b.map (·.1)).Nodup)(h:∀p,p∈a↔p∈b):c5 a=c5 b :=
 IJ (j7 c) (j7 nb) λp=>by rw[dY,dY];exact h p
def iX{p:.cO}:p∈nbs T i ↔ ∃t∈T,far i t=some p.1/\t.w=p.2:=by
 unfold nbs;rw[XX];constructor
 ·rintro⟨t,a,q⟩
  cases e:far i t with
  |none=>rw[e]at q;cases q
  |some j=>rw[e]at q;simp at q;subst q;exact⟨t,a,e,rfl⟩
 ·rintro⟨t,a,q1,q2⟩
  exact⟨t,a,by rw[q1,q2];rfl⟩
def NS(ne:t.a≠t.b){i j:Nat}(h:.jo):far j t=some i:=by
 unfold far at h⊢
 by_cases b:t.a=i
 ·rw[z4 b]at h
  cases h;rw[y3 ne,z4 rfl,b]
 ·rw[y3 b]at h
  by_cases a:t.b=i
  ·rw[z4 a]at h
   cases h;rw[z4 rfl,a]
  ·rw[y3 a]at h;cases h
def Dn(ne:∀t∈T,t.a≠t.b){i j:Nat}(h:(j,x)∈nbs T i):(i,x)∈nbs T j:=by
 obtain⟨t,a,q1,q2⟩:=iX.mp h;exact iX.mpr ⟨t,a,NS (ne t a) q1,q2⟩
def Um(ne:t.a≠t.b){i j:Nat}(h:.jo):i≠j:=by
 unfold far at h
 by_cases b:t.a=i
 ·rw[z4 b]at h;cases h;omega
 ·rw[y3 b]at h
  by_cases a:t.b=i
  ·rw[z4 a]at h;cases h;omega
  ·rw[y3 a]at h;cases h
/---/def iH(i:Nat)(r:.a6):List Tie:=(r.filter λp=>decide (i<p.1)).map λp=>⟨i,p.1,p.2⟩
noncomputable def hU(R:List (List .bA)):Nat->List Tie
 |0=>[]
 |k+1=>hU R k++iH k .ug
def sH:t∈iH i r↔t.a=i/\i<t.b/\(t.b,t.w)∈r:=by
 unfold iH;rw[z5];constructor
 ·rintro⟨p,d,rfl⟩
  obtain⟨a,b⟩:=YN.mp d;exact⟨rfl,by simpa using b,a⟩
 ·rintro⟨a,b,c⟩
  exact⟨_,YN.mpr ⟨c,by simpa using b⟩,by cases t;cases a;rfl⟩
theorem jO:∀{k:Nat},t∈hU R k↔t.a<k/\t.a<t.b/\(t.b,t.w)∈R.getD t.a []
 |0=>by simp[hU]
 |k+1=>by
  rw[hU,Z1,jO,sH];constructor
  ·rintro (⟨h1,b,a⟩|⟨h1,b,a⟩)
   ·exact⟨by omega,b,a⟩
   ·exact⟨by omega,by omega,by rw[h1];exact a⟩
  ·rintro⟨h1,b,a⟩
   by_cases c:t.a<k
   ·exact .inl ⟨c,b,a⟩
   ·have:t.a=k:=by omega
    exact .inr ⟨this,by omega,by rw[<-this];exact a⟩
theorem Do(nd:∀i,((.uh).map (·.1)).Nodup):∀k,(hU R k).Pairwise iN
 |0=>by simp[hU]
 |k+1=>by
  rw[hU,Y9];refine⟨Do nd k,?_,λs c t ht=>?_⟩
  ·unfold iH
   rw[Y5];have n1:=nd k;rw[Y0,Y5]at n1;refine(n1.filter _).imp_of_mem λ{a b} d j h=>?_;have e:k<a.1:=by simpa using (YN.mp d).2
   exact⟨λz=>h z.2,λz=>by have:=z.2;simp at this;omega⟩
  ·obtain⟨f,m,_⟩:=jO.mp c
   obtain⟨l,g,_⟩:=sH.mp ht;exact⟨λz=>by omega,λz=>by omega⟩
theorem sI(l:∀i,(.uh).length<=30):∀k,(hU R k).length<=30*k
 |0=>by simp[hU]
 |k+1=>by
  have b:=sI l k;have c:(iH k .ug).length<=(.ug).length:=by unfold iH;rw[ZA];exact XU _ _
  have a:=l k;rw[hU,ZB];omega
def Ky(h:p<n):(.P).ties.getD p []=c5 (nbs T p):=by simp[bg,List.getD,h]
def zz:∀r:List .bA,(c5 r).length=r.length:=λr=>by
 have:=sD (λ_=>1) r;have q:∀l:List .bA,(l.map λ_=>(1:Int)).sum=l.length:=λl=>by
  induction l with
  |nil=>rfl
  |cons x l a=>simp;omega
 rw[q,q]at this;omega
def IK(lt:.uA)(un:T.Pairwise iN)(i:Nat):(.bn).length<=n:=by
 have:=F3 (k7 un i) λx a=>by
  obtain⟨p,b,rfl⟩:=z5.mp a;exact pX lt p b
 simpa using this
/---/def jc(n:Nat)(T:.V):List Tie:=hU .qj n
def jI(A:n<=30)(O:.an):TOk n n 0 .dI/\∀i,i<n->c5 (nbs .dI i)=c5 .bn:=by
 have k:∀{i:Nat},i<n->.hY=c5 .bn:=λ{i} g=>by simp[List.getD,g]
 have m:∀{i:Nat},¬i<n->.hY=[]:=λ{i} g=>by simp[List.getD,g]
 have mem:∀{t:Tie},t∈jc n T↔t.a<n/\t.a<t.b/\(t.b,t.w)∈nbs T t.a:=λ{t}=>by
  unfold jc;rw[jO];constructor
  ·rintro⟨f,o,d⟩
   rw[k f,dY]at d;exact⟨f,o,d⟩
  ·rintro⟨f,o,d⟩
   exact⟨f,o,by rw[k f,dY];exact d⟩
 have z:∀i,((.hY).map (·.1)).Nodup:=λi=>by
  by_cases g:i<n
  ·rw[k g,Y0,Y5]
   exact(j7<|k7 O.un i).imp λ{a b} h e=>by omega
  ·rw[m g];simp
 have ok:.hS .dI:=by
  refine⟨λt l=>?_,λt l=>?_,λt l=>?_,λt l=>?_,Do z n,?_⟩
  ·have:=(mem.mp l).2.1;omega
  ·obtain⟨f,o,d⟩:=mem.mp l
   exact⟨f,pX O.lt _ d⟩
  ·obtain⟨f,o,d⟩:=mem.mp l
   obtain⟨s,u,_,q⟩:=iX.mp d;have q:s.w=t.w:=q;rw[<-q];exact O.wt s u
  ·obtain⟨f,o,d⟩:=mem.mp l
   exact .inl ⟨f,pX O.lt _ d⟩
  ·have:=sI (λi=>by
    by_cases g:i<n
    ·rw[k g,zz]
     have:=IK O.lt O.un i;omega
    ·rw[m g];simp) n
   exact this
 refine⟨ok,λi g=>wO (k7 ok.un i) (k7 O.un i) λp=>?_⟩;obtain⟨j,x⟩:=p;constructor
 ·intro h
  obtain⟨t,l,q1,q2⟩:=iX.mp h;obtain⟨f,o,d⟩:=mem.mp l;have q2:t.w=x:=q2;subst q2;unfold far at q1
  by_cases w:t.a=i
  ·rw[z4 w]at q1
   have q1:t.b=j:=by simpa using q1
   rw[<-q1,<-w];exact d
  ·rw[y3 w]at q1
   by_cases v:t.b=i
   ·rw[z4 v]at q1
    have q1:t.a=j:=by simpa using q1
    rw[<-q1,<-v];exact Dn O.ne d
   ·rw[y3 v]at q1;cases q1
 ·intro h
  obtain⟨s,u,q1,q2⟩:=iX.mp h;have r:i≠j:=Um (O.ne s u) q1;have y:=pX O.lt _ h
  by_cases c:i<j
  ·exact iX.mpr ⟨⟨i,j,x⟩,mem.mpr ⟨g,c,h⟩,by simp[far],rfl⟩
  ·exact iX.mpr ⟨⟨j,i,x⟩,mem.mpr ⟨y,by show j<i;omega,Dn O.ne h⟩,by simp[far,XO r],rfl⟩
def wP(bs:.c)(ss:.Q)(h:∀i,i<n->c5 (nbs S i)=c5 .bn):bg n S bs ss=bg n T bs ss:=by
 unfold bg;congr 1;apply YQ;intro i a;exact h i (YU.mp a)
def p0(a:n<=30)(O:.an)(bs:.c)(ss:.Q):bg n .dI bs ss=bg n T bs ss:=wP bs ss (jI a O).2
/---/def dZ:Fn:=bE 1 1 (aY<|aW<|lOf .cD)
noncomputable abbrev mN:SF:=(eG<|nU .f<|bD 2 [2] (cU .iO) .ck .ks<|ig .g4)
/---/def cQ:Fn:=bE 1 3 (aw (.ea .aE)
  (aw (fv (bZ .dc) .h8 mN)
  (aY .f)))
def p5(W:w.Ok n)(h:Hd):bG .a3 h=.eM h:=by
 simp[bG,bE,runB,Web.enc,W.t]
def mO(W:w.Ok n)(h:Hd):dZ .a3 h=.bf (h++[.lst .s6]):=by
 have z:w.bars.length<=1000000:=by have:=W.b;have:=W.sz;omega
 simp[dZ,bE,runB,Web.enc,SZ,z]
def kH(W:w.Ok n)(h:Hd):bM .a3 h=.bf .fI:=by
 have z:w.stays.length<=1000000:=by have:=W.s;have:=W.sz;omega
 simp[bM,bE,runB,Web.enc,SZ,z]
def F8(i:Nat)(r:.a6)(h:Hd):cz none .fS .ck .ks (ig .g4) .fS [none,none,some .u] h=.ok .uk h:=by
 have:=bB (g:=none) (all:=r.map pS) (tg:=gT [0,1]) (cs:=.ks) (e:=ig .g4) (h:=h) (I:=λσ=>∃a b,σ=[a,b,some .u])
  (λd=>match d with | .tup [.int j,_]=>decide ((i:Int) < j)|_=>false) (λd=>match d with | .tup [j,x]=>.tup [.int i,j,x] | _=>.non) trivial (xs:=r.map pS) (σ:=[none,none,some .dp]) (by
  rintro x l σ ⟨a,b,rfl⟩;obtain⟨p,_,rfl⟩:=z5.mp l;exact⟨_,rfl,⟨_,_,rfl⟩,by by_cases c:i<p.1<;>simp[pS,c],λ_=>rfl⟩) ⟨_,_,rfl⟩
 rw[this];congr 1;clear this
 induction r with
 |nil=>rfl
 |cons p r f =>
  unfold iH at f⊢
  by_cases c:i<p.1
  ·have k:(i:Int)<(p.1:Int):=by omega
   dsimp[y6,XB,pS,x3 c,x3 k,XH,y6]at f⊢;rw[f];rfl
  ·have k:¬(i:Int)<(p.1:Int):=by omega
   dsimp[y6,XB,pS,xC c,xC k,YH,XZ]at f⊢;rw[f]
def A4(W:w.Ok n)(n30:n<=30)(m:∀i,(w.ties.getD i []).length<=30)(h:Hd):cQ .a3 h=.bf (h++[.lst ((hU w.ties n).map bL)]):=by
 have o:aG .g6 .aE .sa h=.nx .rK .W:=by simp[SZ]
 obtain⟨σ',j,q,y,J,x⟩:=cP (P:=λi σ j=>∃y,σ=[some w.enc,some .a7,y]/\j=h++[.lst .Co]) (g:=none)
  (.bK) (tg:=gN 2) (h:=h++[.lst []]) (b:=mN) (by
  rintro i d σ R K ⟨y,rfl,rfl⟩;rw[Z6] at *;obtain⟨u,rfl⟩:=f7 K;have a:i<w.ties.length:=by rw[W.t];exact u
  obtain⟨r,e⟩:=qq (w.ties.getD i []);have f:w.ties[i]?=some r:=by rw[e];simp[List.getD,a]
  have Q:r.length<=30:=by rw[e];exact m i
  obtain⟨L,c⟩:=qq .Co;have O:L.length<=30*30:=by
   have:=sI m i;rw[c,ZA];omega
  have p:(.uk).length<=30:=by
   have N:(.kX).length<=r.length:=by unfold iH;rw[ZA];exact XU _ _
   rw[ZA];omega
  have G:(hU w.ties<|i+1).map bL=L++(.kX).map bL:=by rw[hU,ZR,<-c,<-e]
  rw[<-c,G];obtain⟨H,l⟩:=qq (h++[.lst L]:Hd);have A:H[h.length]?=some (.lst L):=by rw[l];simp
  have C:H.set h.length (.lst .tu)=h++[.lst .tu]:=by rw[l];simp
  have t:=ul w H f;have k:bD 2 [2] (cU .iO) .ck .ks (ig .g4) .mV H=.ok .uk H:=by
   have q:cU .iO .mV H=.ok (r.map pS,none) H:=by simp[t,wF]
   generalize cU .iO=I at q⊢;dsimp[bD,q,aE];exact F8 i r H
  refine⟨_,rfl,.mV,h++[.lst .tu],?_,_,rfl,rfl⟩;show eG (nU .f _) .mV (h++[.lst L])=_;rw[<-l,<-C];generalize bD 2 [2] (cU .iO) .ck .ks (ig .g4)=E at k⊢;generalize (.kX).map bL=M at k p⊢;have z:L.length+M.length<=1000000:=by omega
  simp[A,k,SZ,z]) ⟨none,rfl,by simp[hU]⟩
 have B : -1000000<=(n:Int):=by omega
 have v:(n:Int)<=1000000:=by omega
 have s:fv (bZ .dc) .h8 mN .rK .W=.nx σ' j:=by
  have q1:bZ .dc .rK .W=.ok ((.t).map λk:Nat=>D.int k,none) .W:=by simp[p5 W,B,v]
  generalize bZ .dc=I at q1⊢;dsimp[fv,q1,aE];exact q
 have F:((.a3).map some++List.replicate (3 - (.a3).length) none:Sd)=.sa:=rfl;unfold cQ bE runB;rw[z4 (show (.a3).length=1 from rfl),F,bR o,bR s,J,x];simp
def iY(a:n<=30)(O:.an)(lb:.bo)(ls:.bv)(h:Hd):cQ .lm h=.bf (h++[.lst .k4]):=by
 refine A4 (iz a O lb ls) a (λi=>?_) h
 by_cases b:i<n
 ·rw[Ky b,zz]
  have:=IK O.lt O.un i;omega
 ·simp[bg,List.getD,b]
noncomputable abbrev jw:pQ:=[(.ia,[]),(.gH,.sc),([101,110,100,101,100],.sc),([119,101,105,103,104,116],.sc),(.sr,[]),(.ro,[]),(.sl,[]),(.sq,[]),([106,111,105,110,101,100],.Ai),([109,101,116],.Ai),(.my,[]),(.fB,[[112,101,114,115,111,110],.ib,.rV]),(.gQ,[[112,101,114,115,111,110],.rV]),(.dL,[[112,101,114,115,111,110],.dL])]
/---/def jP:Fn:=bE 1 1 (aY<|aW<|nT 2 [] .fc .ck [.im] .e)
/---/def cR:Fn:=bE 2 2 (aY<|av bq<|ab .f<|ab .B<|ab (ag kN .dc .l) ar)
/---/def cI:Fn:=bE 2 2 (.al<|dm<|tE<|av cR .b2)
/---/def mP:Fn:=bE 4 6 (aw .tn
  (aw (eG<|av cI .gJ)
  (aw (.al<|tE<|.cV .h)
  (aw (.cY<|ig .yn)
  (aw (.bd<|aW<|bD 1 [4] (cU .lf) .K .mu .e)
  (aw (sIf .x4 .xR bc)
  (aY<|av fW<|ab .dc<|ab .E<|ab (av dZ .aG)<|ab .fc ar)))))))
/---/def mQ:Fn:=bE 3 4 (aw .tn
  (aw (.a9<|av dZ .aG)
  (aw (jm .j .f .h)
  (aY<|av fW<|ab .dc<|ab .lf<|ab .j<|ab .fc ar))))
/---/def kI:Fn:=bE 3 4 (aw .tn
  (aw (.a9 .fc)
  (aw (jm .j .f .h)
  (aY<|av fW<|ab .dc<|ab .lf<|ab (av dZ .aG) .fH))))
/---/def dA:Fn:=bE 2 2 (aY<|fT<|jS (tE<|av cR .b2)<|tE<|.bG (av f6 .b2) .B)
/---/def fz:Fn:=bE 2 2 (aw (.cU .kr)
  (aw (.cU .wk)
  (aY<|uN<|bD 1 [1] (bZ<|ag kN .dG .l) .K [] .xk)))
/---/def qM:Fn:=bE 2 2 (aw (.al .CH)
  (aY<|gZ<|nT 2 [1] .fc .ck []<|fIf .qO .l .B))
/---/def eS:Fn:=bE 2 5 (aw (.aM .yE)
  (aw (.a9 .kH)
  (aw (.cY .t1)
  (aw (sIf (tE .te) .vH bc)
  (aw (sIf (tE .z7) (aY<|ig<|ab (fC<|.str [110,111,116])<|ab (dv .C (pAt .eQ) pNo) ar) bc)
  (aY<|ig<|ab (fC<|.str .gH)<|ab (dv .C pNo<|pAt .eQ) ar))))))
noncomputable abbrev Dp:SF:=(.ea<|aW<|eQ .f<|aW<|bD 1 [2] (cU .f) .K []<|aW .kk)
/---/def j8:Fn:=bE 1 3 (aw (.ea<|aW<|ab .aE ar)
  (aw (fv (cU .e) .h8 Dp)
  (aY<|aW<|nX .f)))
/---/def gc:Fn:=bE 3 4 (aw (.a9 .tO)
  (aw (sIf (tE<|ag qh .j .h) (HK .h .j<|.bH (fAt (av eS .b2) .B)<|fC<|.str .gH) bc)
  (aY<|LH .h .j)))
noncomputable abbrev kJ:SF:=(aw (sIf (tE .td) So bc)
  (aw (aG .bR<|aW<|rX .sP)
  (sIf (tE .zr) (eG<|jE .C .E)<|.a9 .ac)))
/---/def mR:Fn:=bE 3 7 (aw (.a9 .f)
  (aw .tS
  (aw (fv (cU<|av jP .aG) .cI kJ)
  (aY .C))))
noncomputable def cY:Nat->Fn
 |0=>λ_ _=>.bad
 | j + 1=>bE 4 6 (aw (sIf (tE<|.cV .B) (aY<|ig<|ab (fC<|.str .ti) ar) bc)
  (aw (.cY<|av mR<|.cz<|ab .h .fH)
  (aw (.bd<|aW<|bD 1 [0,3,1,2] (cU .C) .K []<|av (cY j) .wm)
  (aY<|ig<|ab (fC<|.str .th)<|ab .C .kE))))
noncomputable abbrev iO:SF:=(sIf (tE .zD) (aw (.cY<|fIf (tE<|.bH .j .aE) .aH<|av (cY 9)<|.cz<|ab (ag kN .h1 .l)<|ab .aE .dC)
  (aY<|ig .CM)) bc)
/---/def lJ:Fn:=bE 1 5 (aw (.ea<|av jP .aG)
  (aw (.al<|tE .Aw)
  (aw (.aM EY)
  (aw (fv (cU<|av j8 .cB) .aI iO)
  (aY .aH)))))
/---/def mS:Fn:=bE 1 3 (aw (.ea .dc)
  (aw (.aM .wB)
  (aw (eG<|nU .h<|bD 3 [] (cU .lf) (gT [0,1,2]) []<|fFs .vl)
  (aw (eG .vS)
  (aw (eG<|nU .h<|.dr (cU .fc)<|fIf .ki .hZ .x3)
  (aY .nr))))))
/---/def ek:Fn:=bE 1 2 (aw (.ea .wj)
  (aw (.cU .wl)
  (aw (.cU<|dm<|tE<|uN<|.dr (LE .f)<|ag Jy .e<|fC<|.str .rr)
  (aY .vC))))
/---/def bW:Fn:=bE 2 3 (aw (.aM<|aW<|mx 32 .f)
  (aw (sIf .vk (aY .aE) bc)
  (aY .wv)))
/---/def jd:Fn:=bE 1 2 (aw (.ea<|av bW<|ab (fC<|.str .rP) (ab .aT ar))
  (aw (.al .vv)
  (aY .ko)))
/---/def fF:Fn:=bE 2 2 (aY<|fT<|jS (tE<|ag oLt .ko .kY)<|tOr (tE .tf) .v7)
noncomputable abbrev ge:SF:=(aw (sIf .qW Po bc)
  (aw (.cY .wn)
  (aw (.al .vG)
  (eG<|jE .h .C))))
/---/def je:Fn:=bE 2 5 (aw (.aM .aE)
  (aw (fv (gM .l .eZ) .aI ge)
  (aY .h)))
/---/def hV:Fn:=bE 2 2 (aw (.al .BV)
  (aY .t2))
noncomputable abbrev qN:SF:=(aw (.bd .xS)
  (aw (.al .y0)
  (eG<|CA .j .E)))
/---/def jf:Fn:=bE 3 6 (aw (.a9 .aE)
  (aw (fv (gM .f .nP) .cJ qN)
  (aY .j)))
noncomputable abbrev pC:SF:=(aw (.bd .q0)
  (aw (.al<|tE<|vh .gr .E)
  (eG<|jE .j<|Ah .gr .E)))
/---/def iC:Fn:=bE 3 6 (aw (.a9 .aE)
  (aw (fv (gM .f .nP) .cJ pC)
  (aY .j)))
/---/def mT:Fn:=bE 1 7 (aw (.al .r4)
  (aw (.ea<|aW<|mx 10 .e)
  (aw (.aM<|av jd .cB)
  (aw (.a9<|av je .t6)
  (aw (.cY .zq)
  (aw (.bd .xJ)
  (aw (aG .bR .z8)
  (aw (.al .Bv)
  (aY .x6)))))))))
/---/def d5:Fn:=bE 2 2 (B7 .e<|av mT .cB)
/---/def j9:Fn:=bE 1 1 (aw (.al .r4)
  (aY<|aW<|mx 32 .e))
/---/def gY:Fn:=bE 3 3 (aw (.al .yT)
  (aY<|fIf .BU .aH<|nE .h))
/---/def fj:Fn:=bE 2 2 (aw (sIf .qc (aY<|fC .ej) bc)
  (aY<|av ek .cB))
noncomputable abbrev qO:SF:=(.al<|jS (tE<|.bH .j<|fC<|.str .ib)<|dm<|tE<|av cR<|.cz<|ab (nE .C) ar)
noncomputable abbrev qP:SF:=(.al<|dm<|tE<|av fj .CM)
/---/def eT:Fn:=bE 3 5 (aw (yU .f .h (gT [3,4]) qP)
  (aw (yU .f .h (gT [3,4]) qO)
  (aY<|aW<|wp 2 [0] .f .h .ck []<|av gY .g4)))
/---/def dL:Fn:=bE 1 1 (aw (sIf .ki (aY .r9) bc)
  (aw (sIf .BW (aY .m5) bc)
  (aY<|jo [32]<|.dr (cU .aT) .en)))
/---/def d6:Fn:=bE 2 2 (aw (sIf (tE<|.cV<|fC<|.str .ia) (aY<|av mS .aG) bc)
  (aw (.al<|tE<|.cV<|fC<|.str .sr)
  (aw (.al<|tE<|.cV<|fC<|.str .ro)
  (aw (.al<|tE<|.cV<|fC<|.str .sl)
  (aw (.al<|tE<|.cV<|fC<|.str .sq)
  (aY<|av dL<|ab (av lJ .aG) ar))))))
/---/def lK:Fn:=bE 3 3 (aw (sIf (tE<|.cV .tl) (aY<|fIf .wO (fC<|.str .iJ)<|fC<|.str .i9) bc)
  (aw (sIf (tE<|MD<|CK jw .f) (aY<|av d6 .b2) bc)
  ef))
/---/def gf:Fn:=bE 1 1 (aw (sIf (tE (.bH .aT .tl)) (aY<|gZ<|.dr (cU<|dv .e (pAt .l) pNo)<|fC<|.str .ib) bc)
  (aw (.al<|tE (FC jw .aT))
  (aw (.al<|tE<|.bG (ag kN .eZ .l)<|MC (CK jw .aT))
  (aY (CK jw .aT)))))
/---/def iZ:Fn:=bE 3 3 (aw (sIf (tE<|.cV<|fC<|.str .fB) (aY<|av mP<|.cz<|ab .id<|ab .kH<|ab .t1 ar) bc)
  (aw (sIf (tE<|.cV<|fC<|.str .gQ) (aY<|av mQ .zs) bc)
  (aY<|av kI .zs)))
/---/def bO:Fn:=bE 2 4 (aw .Cj
  (aw .vN
  (aw (sIf (tE<|ag oIn .id .qh) (aw (B7 .e<|av iZ .Aa)
  (aY<|fC<|.str .he)) bc)
  (aY<|av lK .Aa))))
noncomputable abbrev mU:SF:=(aw (.a9 .ya)
  (aw (sIf (tE<|.bH .j .mg) (aY .h) bc)
  (eG<|jE .h .j)))
/---/def oV:Fn:=bE 2 4 (aw (.aM .y5)
  (rH (tE<|fC .ej) mU))
/---/def i3:Fn:=bE 1 1 (aY<|aW<|bD 1 [0] (bZ .iz) .K [(tE<|.bG .nc .B)] .e)
/---/def gJ:Fn:=bE 2 4 (aw (.aM<|av jb<|.cz<|ab (aW .w8) ar)
  (aw (.a9<|av oV .gJ)
  (aY<|fT<|jS (tE .rO)<|tE .q8)))
noncomputable abbrev sJ:SF:=(eG<|jE .h<|fIx .wU .BS)
noncomputable abbrev zA:SF:=(aw (.bd<|fAt (fAt .aT .j) .C)
  (sIf (tE<|ag oGt .E .B) (eG<|jE .h<|jo [32] .v9) bc))
noncomputable abbrev sK:SF:=(fv (gM (.aX .j .l) .f) .cJ zA)
/---/def kc:Fn:=bE 1 7 (aw (.ea .iz)
  (aw (.aM .xw)
  (aw (fv (bZ .f) .aI sK)
  (aw (.aM .BI)
  (aw (fv (cU .fD) .bR sJ)
  (aY .nr))))))
noncomputable abbrev Kz:SF:=(.aM<|aW<|eQ .h<|aW<|bD 1 [3] (cU .h) .K []<|aW .kk)
/---/def qQ:Fn:=bE 2 4 (aw (.aM<|aW<|ab .aE ar)
  (aw (fv (cU .e) .aI Kz)
  (aY<|aW<|bD 1 [1] (cU .h) .K .rW .e)))
/---/def ke:Fn:=bE 1 1 (aY<|jo [32]<|eQ (aW<|ab .tl ar)<|aW .rm)
/---/def lM:Fn:=bE 2 6 (aw (.aM .iz)
  (aw (.a9 .z9)
  (aw (.cY .ym)
  (aw (.bd<|ag iJ .f .tE)
  (aw (sIf .qG (aw .x8
  (aw .xh
  .vh)) bc)
  (aw (sIf .r3 (aw .vO
  .vc) bc)
  (aw .yi
  .vP)))))))
noncomputable abbrev NT:SF:=(.ea<|av lI<|.cz<|ab (fC<|.int 6) ar)
noncomputable abbrev NU:SF:=(.aM<|Pr d5<|ab (av kc .cB) ar)
noncomputable abbrev NV:SF:=(.a9<|av bV<|.cz<|ab .b3 ar)
noncomputable abbrev F9:SF:=(aw (eG .yB)
  (.cU<|tE<|.bG (jT bO .h<|ab (av lM<|ab .f<|ab (av bV<|.cz<|ab (.aX .kc .C) ar) ar) ar)<|fC<|.str .he))
noncomputable abbrev Uo:SF:=(fv (bZ<|.aO .j .b3) .cJ F9)
noncomputable abbrev Ga:SF:=(.bd<|av kc .cB)
noncomputable abbrev Gb:SF:=(aG .bR .yB)
noncomputable abbrev Gc:SF:=(sIf .Bw (aY<|fT<|jS (dm<|tE<|av gJ<|ab .f<|ab (av i3 .cB) ar)<|tE<|.bH .rd .E) bc)
noncomputable abbrev Ge:SF:=(aG (gN 7) .aE)
noncomputable abbrev Gf:SF:=(sIf (tE<|.bG .ac .m5) (aG (gN 7)<|aW<|.dr (cU<|aW<|mx 32 .ac)<|nE .e) bc)
noncomputable abbrev Gg:SF:=(.cU<|tOr (tE<|.bG .a0<|aW<|oK .a0)<|tE<|.bG .xP .vW)
noncomputable abbrev A5:SF:=(.cU<|tOr (tE<|.bG (jT bO .h<|ab (av ke<|ab .a0 ar) ar)<|fC<|.str .iJ)<|dm<|tE<|av gJ<|ab .f<|ab .a0 ar)
noncomputable abbrev A6:SF:=(.c0<|aW<|bD 1 [1] (bZ<|cM<|lOf .kY) .K [(tE<|ag nC .nc .aH)] .e)
noncomputable abbrev NW:SF:=(.cU<|tE<|.bG (jT bO .h<|ab (av ke<|ab (aa 9) ar) ar)<|fC<|.str .i9)
noncomputable abbrev A7:SF:=(fv (cU<|av qQ<|ab .cN<|ab (ag kN (cM<|lOf .a0) .l) ar) (gN 9) NW)
noncomputable abbrev IL:SF:=(aY<|.bH .rd .E)
/---/def Dq:Fn:=bE 1 10 (aw NT<|aw NU<|aw NV<|aw Uo .vY)
end Fm
set_option maxHeartbeats 4000000
namespace Fm
open PySem PySem.Spec L2
section
noncomputable abbrev cB(i:Nat):Stmt := PySem.Challenge.pw_followmost_k53_whole_fewest_at_a_desk.main.body.getD i (.Pass ⟨0, 0, 0, 0⟩)
noncomputable abbrev wQ:Stmt:=cB 10
noncomputable abbrev qR:Stmt:=cB 11
noncomputable abbrev qS:Stmt:=cB 12
noncomputable abbrev Dr:Stmt:=cB 27
noncomputable abbrev mV:Stmt:=cB 26
noncomputable abbrev uo:Stmt:=cB 28
noncomputable abbrev qT:Stmt:=cB 29
noncomputable abbrev Ds:Stmt:=cB 16
noncomputable abbrev zC:Stmt:=cB 17
noncomputable abbrev zD:Stmt:=cB 18
noncomputable abbrev Dt:Stmt:=cB 19
noncomputable abbrev zE:Stmt:=cB 20
noncomputable abbrev zG:Stmt:=cB 21
noncomputable abbrev wR:Stmt:=cB 22
noncomputable abbrev zH:Stmt:=cB 23
noncomputable abbrev NX:Stmt:=cB 31
noncomputable abbrev pD:Stmt:=cB 33
noncomputable abbrev uq:Stmt:=cB 24
noncomputable abbrev ur:Stmt:=cB 25
noncomputable abbrev zI:Stmt:=cB 34
noncomputable abbrev zJ:Stmt:=cB 35
noncomputable abbrev zK:Stmt:=cB 36
noncomputable abbrev oq:Stmt:=cB 41
noncomputable abbrev p6:Stmt:=cB 38
noncomputable abbrev wT:Stmt:=cB 39
noncomputable abbrev ut:Stmt:=cB 40
noncomputable abbrev IM:Stmt:=cB 43
noncomputable abbrev nj:Stmt:=cB 48
noncomputable abbrev nn:Stmt:=cB 47
noncomputable abbrev IN:Stmt:=cB 45
noncomputable abbrev uv:Stmt:=cB 46
noncomputable abbrev wU:Stmt:=cB 52
noncomputable abbrev zL:Stmt:=cB 53
noncomputable abbrev wV:Stmt:=cB 55
noncomputable abbrev mW:Stmt:=cB 54
noncomputable abbrev Du:Stmt:=cB 51
noncomputable abbrev wW:Stmt:=cB 76
noncomputable abbrev uw:Stmt:=cB 80
noncomputable abbrev lN:Stmt:=cB 87
noncomputable abbrev ux:Stmt:=cB 81
noncomputable abbrev pE:Stmt:=cB 83
noncomputable abbrev uy:Stmt:=cB 82
noncomputable abbrev zM:Stmt:=cB 86
noncomputable abbrev uz:Stmt:=cB 84
noncomputable abbrev qU:Stmt:=cB 85
noncomputable abbrev wX:Stmt:=cB 77
noncomputable abbrev d7:Stmt:=inS (cB 90) 0
noncomputable abbrev wY:Stmt:=cB 91
noncomputable abbrev wZ:Stmt:=cB 95
noncomputable abbrev qV:Stmt:=cB 94
noncomputable abbrev uA:Stmt:=cB 93
noncomputable abbrev kf:Stmt:=cB 99
noncomputable abbrev nr:Stmt:=cB 98
noncomputable abbrev Dv:Stmt:=cB 97
noncomputable abbrev zN:Stmt:=cB 92
noncomputable abbrev pF:Stmt:=cB 96
noncomputable abbrev iP:Stmt:=inS (cB 90) 1
noncomputable abbrev uB:Stmt:=cB 103
noncomputable abbrev w4:Stmt:=cB 104
noncomputable abbrev mX:Stmt:=cB 105
noncomputable abbrev uC:Stmt:=cB 107
noncomputable abbrev ot:Stmt:=cB 108
noncomputable abbrev qW:Stmt:=cB 109
noncomputable abbrev lO:Stmt:=cB 110
noncomputable abbrev lP:Stmt:=cB 111
noncomputable abbrev uD:Stmt:=cB 112
noncomputable abbrev uE:Stmt:=cB 114
noncomputable abbrev pG:Stmt:=cB 115
noncomputable abbrev uF:Stmt:=cB 116
noncomputable abbrev w5:Stmt:=cB 117
variable{P:N3}{w:N6}{K:ZX}{mg:.ap}{base:Heap}{f:Addr}{fd:.gc}
def NY{ps:.aq}{k np:Nat}:ie P w K mg base CX0 k f fd ps (spF K (λ_ _=>.bad) np) :=
 ⟨λc H Q E ⟨_,_,_,_,_,_,p⟩=>p.elim,λA a s H b g c Q E d h e r ⟨_,_,_,_,_,_,p⟩=>p.elim⟩
theorem nt:∀j ds h d h',cY j ds h=.ok d h'->ds.length=4
 |0=>λ_ _ _ _ e=>nomatch e
 |j+1=>ik
def Dw(a:.fl)(b:mg "bool"=none)(c:.hv):.q "is_whole" wQ 1 .ln eZ 1:=okd .ln λe d=>(ah<|aD<|MB.me<|pM (ij<|iV (t:=.int) rfl a rfl c .T .m)<|kS<|Mi<|ij<|iV (t:=.bool) rfl a rfl b .T .m)
def xT(b:.Dn):.q "is_between" qR 2 .A8 bq 3:=okd .A8 λa c=>(ah<|aD<|MB.me<|pM (ij<|.a1 b)<|kS<|ij<|Mj RW RW rV rV .r .m .s)
def xU(b:.hm):.q "is_opinion" qS 3 .ln c9 1:=okd .ln λa c=>(ah<|aD<|aq b a<|.bE .oj)
def KA(h:.aJ)(g:.fl)(i:.dl){d:Tok}(e:mg "MOST_WEIGHT"=some (.int 400 d))(a:.hm):.q "is_tie" Dr 3 ["many","thing"] j5 2:=okd ["many","thing","one","other"] λb c=>(af (.cW<|MW.mt<|ni (cS<|cC<|iV (t:=.tuple) rfl g rfl i .T .r)<|.dt (aQ (dU c) gm (.jJ h) am .O))
  (af (ax .eo)
  (af (ax .eo)
  (af (.cW<|MW.mt<|ni (cS<|cC<|aq a b<|ae .s .y4)<|.dt<|cS<|cC<|aq a b<|ae .z .y4)
  (ah<|aD<|MB.me<|pM (ij (fH (dU c) gm .s .z .O))<|kS<|ij<|aq a b<|ae .eo<|ae am<|ae (nK rfl e) ao)))))
def xV:fM ["many","ties","near","tie","one","other"] ["many","ties"] (bC mV):=fsc
def xW(c:.bS)(g:.fl)(d:.jn)(b:.Dt):.q "neighbours" mV 4 ["many","ties"] jG 2:=okd ["many","ties","near","tie","one","other"] λe a=>(af (.ar<|cS<|cC<|.pX g d)
  (af (ky (i:=2) xV.nd rfl lc (own:=.g8) (capn:=[]) (caps:=[]) rfl .kZ (c0 rfl c .m)
   (λj C s H h=>⟨ay,cm,Qm⟩))
  (af (eA Z8 rfl (cK .r) ay (af (.ar<|cS<|cC<|aq b e .t5)
  (af (ax .nQ)
  (af (ax .nQ)
  (af (.ar<|aQ (TB .ix) TD .ag (aP .s .Z .y) rfl)
  (af (Ie .ix .nQ (aP .s .Z .y) .ag)
  (ah<|Ie .ix .nQ (aP .s .ag .y) .Z)))))))
  .t3)))
def A8(i:.dl)(c:.lI)(a:.aJ)(h:.fl)(d:.jn)(g:.Dn):.q "bars_told" uo 2 ["near","bars"] kF 2:=okd ["near","bars"] λe b=>(af (.ar<|.jC .r)
  (af (.ar<|MW.mt<|ni (cS<|cC<|.pX h d)<|.dt<|.ds (.jJ a)<|.jK a)
  (af (.ar<|cS<|cC<|r6 rfl rfl c<|eW<|dI ["bar"] (cK .r) ⟨ay,cm,(aq g e .dB)⟩)
  (ah<|aD<|gP rfl i .kM))))
def xX(a:.dl)(d:.lI)(j:.aJ)(i:.fl)(e:.jn)(c:.bS)(g:.Dj):.q "stays_told" qT 4 ["many","stays"] jH 2:=okd ["many","stays"] λh b=>(af (bh (.jC .r) (ah<|aD<|gP rfl a<|eW<|dI .g8 (c0 rfl c .m) ⟨ay,cm,dH⟩) aC)
  (af (.ar<|MW.mt<|ni (cS<|cC<|.pX i e)<|.dt<|.ds (.jJ j) .m)
  (af (.ar<|cS<|cC<|r6 rfl rfl d<|eW<|dI ["stay"] (cK .r) ⟨ay,cm,(MB.me<|Mh (ij (fH pJ pL .m dH .O))<|kS<|ij (aq g h .dB))⟩)
  (ah<|aD<|gP rfl a .kM))))
def KC(b:.dl)(d:.ph){i:Tok}(h:mg "MOST_PEOPLE"=some (.int 30 i))(g:.F "stays_told" 4 2 jH)(e:.F "bars_told" 2 2 kF)(j:.F "neighbours" 4 2 jG)(c:.hm):.q "web_of" Ds 5 ["many","ties","bars","stays"] fW 4:=okd ["many","ties","bars","stays","near","rows"] λa k=>(af (.ar<|cS<|cC<|.c3<|.bE .AL)
  (af (ax<|aq j a .dA)
  (af (ax<|gP rfl b<|eW<|dI ["row"] (cK .Z) ⟨ay,cm,(gP rfl b<|eW<|MZ rfl rfl d .m)⟩)
  (ah<|aD<|iK<|ae .ag<|ae (aq e a<|ae .Z .c8)<|ae (aq g a .t5) ao))))
def Gh(a:.aJ):.q "many_of" zC 1 .cL bG 1:=okd .cL λb c=>(ah<|aD<|.lV a)
def Gi:.q "ties_of" zD 1 .iA fE 2:=okd .iA λa b=>.rN
def KD:.q "bar_of" Dt 1 .iA qI 2:=okd .iA λa b=>.rN
def Gj:.q "stay_of" zE 1 .iA f6 2:=okd .iA λa b=>.rN
def Gk(a:.jn):.q "bars_of" zG 1 .cL dZ 1:=okd .cL λb c=>.yV
def Dx(a:.jn):.q "stays_of" wR 1 .cL bM 1:=okd .cL λb c=>.yV
def Gm(a:.uJ)(c:.ji):.q "free_of" zH 2 .cL jP 1:=okd .cL λb d=>(ah (aD (bx (C1 (own:=["person","stay"]) (capn:=[]) (caps:=[]) rfl .kZ (C0 rfl a (aq c b .dB))
   (λg C s H e=>⟨.fx,(mB<|.jC .r),.m⟩)))))
def QW(e:.uJ)(i:.aJ)(h:.fl)(j:.dl)(g:.uv)(d:.Dj)(c:.f4):.q "fits" NX 4 .dM A1 2:=okd ["web","thing","person","opinion","stay"] λa b=>(af (.cW<|MW.mt<|ni (cS<|cC<|iV (t:=.tuple) rfl h rfl j .T .r)<|.dt<|.ds (.jJ i)<|.a1 c)
  (af (eA Z8 rfl (Qf rfl e .r) .fx (af (.cW<|cS<|cC<|.c2 .iF)
  (af (ax<|aq g a .fL)
  (ah<|.cW<|MW.mt<|Aw (aQ qi lB .Z dH .O) .xZ))))
  .qC))
def w6(b:.F "fits" 4 2 A1):.q "check_stand" pD 5 .dM gH 2:=okd .dM λa c=>.ze
def A9(c:.bS)(b:.f4)(d:.Dp):.q "ties_once" uq 2 .cL cQ 1:=okd ["web","ties","one"] λa e=>(af .fj
  (af (eA Z8 rfl .BA ay (ah (cW (vw .r (gQ (own:=["other", "weight"]) (capn:=["one"]) (caps:=[2]) rfl .ca (cK<|.c2 .fL)
   (λh C s H g=>⟨.fx,(mB (aQ yA rV .s .m .O)),(iK<|ae .s .dA)⟩))))))
  (ah<|aD .r)))
def Ba(b:.hm)(c:.f4):.q "is_person" ur 3 .dM cR 2:=okd .dM λa d=>(ah<|aD<|aq b a<|.c4<|ae am<|ae (.eG<|.a1 c) ao)
def Gn(c:mg "sum"=none)(d:.Dp):.q "pull_at" zI 2 .rX oQ 3:=okd .rX λb a=>(ah (aD (aZ gW gX am (Fp rfl rfl c (eW (gQ (own:=["other","weight"]) (capn:=["stand"]) (caps:=[1]) rfl .ca (cK<|aq d b .fL)
   (λg C s H e=>⟨.fx,(mB<|.fq (aP .s .m .y) am),.r⟩)))))))
def Gp(d:.F "bar_of" 1 2 qI)(b:.F "pull_at" 2 3 oQ)(e:.uv):.q "next_at" zJ 3 .rX jL 3:=okd ["web","stand","person","stay","strength","bar"] λa c=>(af (ax<|aq e a .fL)
  (af (bh (aQ qi lB .z dH .O) .t4 aC)
  (af (ax<|aq b a<|.bE<|.c4 .c8)
  (af (ax<|.c2 .fL)
  (af (bh (.hI .Z .ag) (ah<|aD<|aP .r .s .y) aC)
  (ah<|aD<|ua (aQ Cf rV .Z .ag .O) am am))))))
def Gq(e:.dl)(c:.bS)(b:.f4)(d:.F "next_at" 3 3 jL):.q "turn_at" zK 4 .nL g6 2:=okd .nL λa g=>(ah (aD (gP rfl e (eW (gQ (own:=.g8) (capn:=.nL) (caps:=[0,1]) rfl (cu.a .vM) .BA
   (λi C s H h=>⟨ay,cm,(.c2<|.c4 (ae .s .dB))⟩))))))
def uT(b:.uu):.q "check_person" oq 4 .dM cI 2:=okd .dM λa c=>.ze
def Dy:fM ["web","one","other","weight","pair","ties"] .zv (bC p6):=fsc
def Dz(h:mg "max"=none)(k:mg "min"=none)(d:.oT)(g:.ji)(j:.oS)(l:.f4)(e:.hm)(m:.oR)(c:.ut):.q "with_tie" p6 6 .zv mP 4:=okd ["web","one","other","weight","pair","ties"] λa b=>(af (cW<|.c3 .dA)
  (af (cW<|.c3 .fL)
  (af (.ar<|.lT .s)
  (af (ax<|iK<|ae (TR rfl rfl k .r .s)<|ae (M5 rfl rfl h .r .s) ao)
  (af (ky (i:=5) Dy.nd rfl lc (own:=["tie"]) (capn:=["pair"]) (caps:=[4]) rfl .ca (cK<|.a1 m)
   (λo C s H n=>⟨ay,(mB<|.ds (i8 .m nN<|nO am) .r),.m⟩))
  (af (bh (cS<|cC<|aq e a<|ae .z .oj) (ah<|cW<|jq .ag<|iK<|.c4<|ae .s .iF) aC)
  (ah<|aD<|.c2<|ae (.a1 l)<|ae .ag<|ae (.a1 j)<|ae (.a1 g) ao)))))))
def DA(c:.oT)(h:.ji)(g:.oR)(d:.f4)(e:.oS)(b:.ut):.q "with_bar" wT 6 ["web","person","bar"] mQ 3:=okd ["web","person","bar","bars"] λa i=>(af (cW .kN)
  (af (ax<|.a1 e)
  (af (kW .s .z .r)
  (ah<|aD<|.c3<|ae (.a1 d)<|ae (.a1 g)<|ae .z<|ae (.a1 h) ao))))
def Bb(c:.oT)(e:.oS)(g:.oR)(d:.f4)(h:.ji)(b:.ut):.q "with_stay" ut 6 ["web","person","stay"] kI 3:=okd ["web","person","stay","stays"] λa i=>(af (cW .kN)
  (af (ax<|.a1 h)
  (af (kW .s .z .r)
  (ah<|aD<|.c3<|ae (.a1 d)<|ae (.a1 g)<|ae (.a1 e) .iF))))
def NZ(e:.aJ)(b:.F "turn_at" 4 2 g6)(d:.F "check_stand" 5 2 gH):.q "ended" IM 6 .nL oS 2:=okd ["web","stand","stands","later","word"] λa c=>(af (cW<|.c2 .dA)
  (af .x5
  (af (ax<|aq b a<|.bE<|ae .eT ao)
  (af (Cq Z8 (aQ (dU c) gm .z .kR .O) (af (cW<|jq .s .z)
  (ah<|ax<|aq b a .t5)))
  (af (ax<|ua (.hI .kR .kR) (.ai [114,101,115,116]) .A2)
  (ah<|aD<|iK<|ae (.eG<|cT rfl e<|cN .s)<|ae .Z .c8))))))
def sL(c:.uv)(d:.uu):.q "may_be_chosen" nj 4 .dM dA 2:=okd .dM λa b=>(ah<|aD<|MB.me<|pM (ij<|.c2 .dA)<|kS<|ij (fH .rY gm (.c3 .dA) am .O))
def sM(a:.lI)(i:.bS)(e:.aJ)(d:.fl)(b:.jn)(h:.F "may_be_chosen" 4 2 dA):.q "are_choosable" nn 5 .dM fz 2:=okd .dM λc k=>(af (.cW<|cS<|cC<|.pX d b)
  (af (bh (cS (cC (r6 rfl rfl a (eW (gQ (own:=.g8) (capn:=.cL) (caps:=[0]) rfl .ca (cK .r)
   (λj C s H g=>⟨ay,cm,(aq h c (.c4 .dB))⟩)))))) .qC aC)
  (ah (aD (r6 rfl rfl a (eW (gQ (own:=["place"]) (capn:=.ln) (caps:=[1]) rfl .ca (c0 rfl i<|.eG<|.jJ e)
   (λj C s H g=>⟨ay,cm,(fH yA rV (aP .r .m .y) (aP .r (.cX .m am) .y) .O)⟩))))))))
def N1(g:.dl)(c:.uJ)(e:.ji)(d:.F "are_choosable" 5 2 fz):.q "begun" IN 6 .tM qM 2:=okd .tM λa b=>(af (.ar<|cS<|cC<|.c2 .dA)
  (ah (aD (gP rfl g (eW (C1 (own:=["person", "stay"]) (capn:=["some"]) (caps:=[1]) rfl .ca (C0 rfl c<|.a1 e)
   (λi C s H h=>⟨.fx,cm,(ua (MW.mt<|ni (aQ lA Cv .m .s rfl)<|.dt<|.lT am) am am)⟩)))))))
def Bc(c:.F "ended" 6 2 oS)(b:.F "begun" 6 2 qM):.q "turns_all" uv 7 .tM eS 2:=okd ["web","some","end","word","stands"] λa d=>(af (ax<|.c3<|.bE<|ae .kN ao)
  (af (ax .eT)
  (af (ax .eT)
  (af (bh (aQ (bS d) cO .z .A2 .O) .v3 aC)
  (af (bh (aQ lA Cv am (aP .Z fO .y) rfl) .v3 aC)
  (ah<|aD<|iK<|ae .ud<|ae (i8 .Z nN<|nO fO) ao))))))
def DB(a:.ph)(b:.aJ):.q "lists_of" wU 1 ["people"] j8 1:=okd ["people","lists","person"] λe c=>(af .zC
  (af (eA Z8 rfl (cK .m) ay (ah (ax (bx (kC .r (bx (gQ (own:=["some"]) (capn:=.g8) (caps:=[2]) rfl .ca (cK .r)
   (λg C s H d=>⟨ay,cm,.zc⟩))))))))
  (ah<|aD<|bx<|FS rfl a rfl b .r)))
def Gr(d:.dl)(b:.Dk):.q "do_turn" zL 8 ["web","some","known"] gc 3:=okd ["web","some","known","people"] λc a=>(af (ax<|gP rfl d .kM)
  (af (bh (aQ (J3 .ix) J4 .z .s rfl) (ah<|Qn .ix (fH .rA cO (aP (aq b c .dA) am .y) .ud .O) .s .z) aC)
  (ah<|aD<|Qo .ix .s .z)))
def DC(b:.ph)(d:.Dr)(c:.Ds):.q "left_out" wV 9 ["web","chosen","known"] mR 3:=okd ["web","chosen","known","grown","left","person","more"] λa e=>(af (ax .r)
  (af .fj
  (af (eA Z8 rfl (cK<|.a1 d) ay (af (bh (aQ lA Cv .ag .z rfl) (ah Cp) aC)
  (af (ax<|bx<|Nd rfl b<|eW<|kC .z<|bx<|ca (ae .ag ao) .eP)
  (ah<|bh (cC<|.c3<|.bE<|ae .a4 .c8) (ah<|cW<|jq .Z .ag)<|ah<|ax .a4))))
  (ah<|aD .Z))))
def pH:fM ["web","m","chosen","known","some","trees"] .rB (bC mW):=fsc
def xY(j:Nat)(F:Fun K "tree_above" "tree_above" mW f fd)(d:.F "left_out" 9 3 mR)(c:.F "tree_above" (9+j) 4 (cY j)):.eJ CX0 (9+(j+1)) f fd .rB (spF K (cY<|j+1) 4):=R1 F pH λ_ _ _ _ _ _ a=>have b:=Qg a;(af (bh (.lT am) (ah<|aD<|iK<|ae (.ai .ti) ao) aC)
  (af (ax<|vt d (a.mono<|ZM .b<|X0 9 j) rfl (.bE<|ae .s .iF)<|ik)
  (af (ky (i:=5) pH.nd rfl lc (own:=.g8) (capn:=["web", "known", "m", "chosen"]) (caps:=[0,3,1,2]) rfl (cu.a<|bQ.cons rfl rfl .Ce) (cK .Z)
   (λg C s H e=>⟨ay,cm,(vt c (a.mono .o) rfl (.c4<|ae (.eG .z)<|ae (bx<|kC .Z<|bx (ca .dB .eP)) .c8)<|nt j)⟩))
  (ah<|aD<|iK<|ae (.ai .th) .Cf))))
def KF(b:.aJ){h:Tok}(d:mg "MOST_FREE_TRIED"=some (.int 9 h))(e:.F "lists_of" 1 1 j8)(g:.Ds)(j:.F "tree_above" 18 4 (cY 9))(i:.Dr):.q "fewest" Du 19 .cL lJ 1:=okd ["web","free","known","some","tree"] λa c=>(af (ax<|.a1 i)
  (af (.ar (aQ Cf rV .tI (nK rfl d) .O))
  (af (ax M8)
  (af (eA Z8 rfl (cK<|aq e a .ei) ay (ah (bh (cC<|aq g a<|.bE<|ae .z .c8) (af (ax<|ua (.hI .z .gp) dH<|vt j .gU rfl (.bE<|ae (.eG .mX)<|ae .gp .c8)<|nt 9)
  (ah<|aD<|iK<|ae .z .iP)) aC)))
  (ah<|aD dH)))))
def DD(e:.ji)(c:.oS)(d:.oR)(b:.f4):.q "show_web" wW 3 .cL mS 1:=okd ["web","many","lines"] λa g=>(af (ax<|.a1 b)
  (af (ax<|bx<|ca (ae (Io<|gR (.ai .mn)<|gR (si .r) AQ) ao) .eP)
  (af (cW<|vw .s<|dI ["one", "other", "weight"] (cK<|.a1 d) ⟨.yM,cm,(Io<|gR .uf<|gR (si .m)<|gR .iK<|gR (si .r)<|gR .iK<|gR (si .s) AQ)⟩)
  (af (cW<|vw .s<|dI ["bar"] (cK<|.a1 c) ⟨ay,cm,(Io<|gR .ua<|gR (si .m) AQ)⟩)
  (af (cW<|vw .s<|dI ["stay"] (cK<|.a1 e) ⟨ay,cm,(ua (.jC .m) .k1<|Io<|gR (.ai .h6)<|gR (si .m) AQ)⟩)
  .yl)))))
def Bd(d:.lI)(i:.aJ){e:Tok}(j:mg "FIGURES"=some (.str .y8 e)){c:Tok}(h:mg "MOST_FIGURES"=some (.int 60 c))(b:.hm):.q "is_number" uw 3 ["text"] ek 1:=okd ["text","figures"] λg a=>(af (ax<|ua (cC<|zf .m<|.ai [45]) (Kd .m (nO am) nN) .m)
  (af (.cW<|cS<|cC<|aq b g<|ae (Qu rfl i .r) .AL)
  (af (.cW<|cS<|cC<|r6 rfl rfl d<|eW<|dI ["sign"] (TZ .r) ⟨ay,cm,(T5 .m (Nq .rr rfl rfl j) rfl)⟩)
  (ah<|aD<|MB.me<|Mh (ij (fH (dU a) gm (T0 .r am .y) .t9 .O))<|kS<|ij (fH .rA cO .m .t9 .O)))))
def qX(g:.hv)(d:.lI)(b:.Dl):.q "numbers_behind" lN 4 ["word","line"] bW 2:=okd ["word","line","words"] λe a=>(af (ax<|bx<|qE (c:=32) rfl .r)
  (af (bh (MW.mt<|ni (aQ (dU a) gm .eT .m .O)<|.dt<|cS<|cC<|r6 rfl rfl d<|eW<|dI ["figures"] (cK .sF) ⟨ay,cm,(aq b e .dB)⟩) (ah<|aD .gp) aC)
  (ah<|aD<|bx<|dI ["figures"] (cK .sF) ⟨ay,cm,(vz rfl g .m)⟩)))
def Be(h:.aJ){e:Tok}(d:mg "MOST_PEOPLE"=some (.int 30 e))(c:.hm)(g:.us):.q "read_many" ux 5 ["lines"] jd 1:=okd ["lines","numbers"] λa b=>(af (ax<|aq g a<|ae (.ai .rP)<|ae .b4 ao)
  (af (.ar<|MW.mt<|ni (.ds (.jJ h) am)<|.dt<|cS<|cC<|.c3<|ae .eo<|ae am<|ae (nK rfl d) ao)
  (ah<|aD .eo)))
def w8:.q "is_next_tie" pE 1 ["ties","tie"] fF 2:=okd ["ties","tie"] λa b=>(ah<|aD<|MB.me<|pM (ij (fH yA rV .eo .eo .O))<|kS<|Mh (ij (fH .hi cO .m .gp .O))<|kS<|ij (fH (S4 a.units0) TX (y8 (aP .m fO .y) nN<|nO am) (y8 .r nN<|nO am) .O))
def Bf(d:.bS)(g:.aJ)(h:.dl)(c:.F "is_next_tie" 1 2 fF)(b:.Dt)(e:.us):.q "read_ties" uy 5 ["lines","many"] je 2:=okd ["lines","many","ties","place","tie"] λa i=>(af .fj
  (af (eA Z8 rfl (oG rfl d am<|.jK g) ay (af (bh (cS<|cC<|zf (aP .m .z .y) .uf) (ah Mm) aC)
  (af (ax<|gP rfl h<|cN<|aq e a<|ae .n7<|ae (aP .m .z .y) ao)
  (af (.ar<|MW.mt<|ni (cS<|cC<|aq b a<|.c4 .iP)<|.dt<|cS<|cC<|.c3<|ae .s .iP)
  (ah<|cW<|jq .s .Z)))))
  .t3))
def Gs(b:.aJ):.q "line_at" zM 1 ["lines","place"] hV 2:=okd ["lines","place"] λc a=>(af (.ar<|.gj<|.jK b)
  .AJ)
def Bg(d:.bS)(g:.aJ)(e:.us)(c:.Dq):.q "read_bars" uz 5 .A9 jf 3:=okd ["lines","start","many","bars","place","numbers"] λa b=>(af .fj
  (af (eA Z8 rfl (oG rfl d .r<|.cX .r .s) ay (af (ax<|aq e a<|ae .ub<|ae (.c3<|.bE .iP) ao)
  (af (.ar<|.ds (cT rfl g<|cN .ag) am)
  (ah<|cW<|Qr .z .ag))))
  .t4))
def xZ(e:.bS){b:Addr}(c:mg "STAYS"=some .fg)(a:wB K b .gr)(d:.Dq):.q "read_stays" qU 2 .A9 iC 3:=okd ["lines","start","many","stays","place","line"] λg h=>(af .fj
  (af (eA Z8 rfl (oG rfl e .r<|.cX .r .s) ay (af (ax<|aq d g<|.bE .iP)
  (af (.ar<|Kg (T:=.gr) rfl c a .ag rfl)
  (ah<|cW<|jq .z<|Nr (T:=.gr) rfl c a .ag))))
  .t4))
def DE(b:.aJ)(k:.fl)(g:.hu)(d:.oT)(h:.F "read_stays" 2 3 iC)(e:.F "read_bars" 5 3 jf)(j:.F "read_ties" 5 2 je)(i:.F "read_many" 5 1 jd):.q "read_web" wX 6 ["text"] mT 1:=okd ["text","lines","many","ties","bars","stays","end"] λa l=>(af (.ar<|cS<|cC<|iV (t:=.str) rfl k rfl g .T .m)
  (af (ax<|bx<|qE (c:=10) rfl .m)
  (af (ax<|aq i a .ei)
  (af (ax<|aq j a<|.c4 .c8)
  (af (ax<|aq e a<|.c4<|ae .sW .c8)
  (af (ax<|aq h a<|.c4<|ae (.cX .sW .s) .c8)
  (af (ax<|.cX .sW<|.eI am .s)
  (af (.ar (aQ Cf rV .tI .a4 .O))
  (ah<|aD<|.c2<|ae .s<|ae .z .Cf)))))))))
def sN:fM .om .om (bC d7):=fsc
def sO(F:Fun K "__init__" "Desk.__init__" d7 f fd){C:Addr}(T:pB K C)(d:.F "read_web" 6 1 mT):.eJ CX0 7 f fd .om (spF K d5 2):=by
 refine M7 F sN λc A a s H E b=>?_;have e:=Qg b;exact(ah<|Ii T .m<|aq d b .ei)
def DF(a:.fl)(b:.hu):.q "words_of" wY 1 ["row"] j9 1:=okd ["row"] λd e=>(af (.ar<|cS<|cC<|iV (t:=.str) rfl a rfl b .T .m)
  (ah<|aD<|bx<|qE (c:=32) rfl .m))
def DG(b:.hv):.q "thing_of" wZ 1 ["web","kind","word"] gY 3:=okd ["web","kind","word"] λc a=>(af (.ar<|.gj<|.ai .kj)
  (ah<|aD<|ua (.fq .s .k1) dH<|vz rfl b .s))
def x9(c:.Dl):.q "is_written" qV 4 ["kind","word"] fj 2:=okd ["kind","word"] λb a=>(af (.cW<|MW.mt<|ni (.fq .m<|.ai .kj)<|.dt<|MW.mt<|Aw (.fq .m<|.ai .dL)<|gw (.gj .k1) .a8)
  (ah<|aD<|aq c b .ei))
def Bh(b:mg "zip"=none)(e:.hv)(d:.F "thing_of" 1 3 gY)(g:.uu)(h:.F "is_written" 4 2 fj):.q "things_of" uA 5 ["web","form","words"] eT 3:=okd ["web","form","words","kind","word"] λa c=>(af (Im Z8 rfl .s0 .fx<|ah<|.ar<|cS<|cC<|aq h a<|ae .z .iP)
  (af (Im Z8 rfl .s0 .fx<|ah<|.ar<|MW.mt<|Aw (.hI .z<|.ai .ib)<|gw (cS<|cC<|aq g a<|.bE<|ae (vz rfl e .Z) ao) .a8)
  (ah (aD (bx (Ni (own:=["kind", "word"]) (capn:=.cL) (caps:=[0]) rfl .ca .s0
   (λj C s H i=>⟨.fx,cm,(.c2<|ae .s .dA)⟩)))))))
def pc(b:.hu):.q "answer_of_fewest" kf 1 ["told"] dL 1:=okd ["told"] λc a=>(af (bh (.jC .m) (ah<|aD<|.ai .mS) aC)
  (af (bh (.fq .b4 .gp) (ah<|aD .ue) aC)
  (ah<|aD<|.p1<|eW<|dI .g8 (cK .b4) ⟨ay,cm,(fR rfl b .m)⟩)))
def sP(e:.F "answer_of_fewest" 1 1 dL)(d:.F "fewest" 19 1 lJ)(c:.F "show_web" 3 1 mS):.q "answer_of_web" nr 20 ["web","word"] d6 2:=okd ["web","word"] λb a=>(af (bh (.gj<|.ai .ia) (ah<|aD (aq c b .dB)) aC)
  (af (.ar<|.gj<|.ai .sr)
  (af (.ar<|.gj<|.ai .ro)
  (af (.ar<|.gj<|.ai .sl)
  (af (.ar<|.gj<|.ai .sq)
  (ah<|aD<|aq e b<|ae (aq d b .dB) ao))))))
def KG{a:Addr}(e:mg "FORMS"=some .bu)(b:AW K a jw)(g:.F "answer_of_web" 20 2 d6)(h:.Dk):.q "answer" Dv 21 .nb lK 3:=okd .nb λd c=>(af (bh (.hI .r .uc) (ah<|aD<|ua (.hI (aP (aq h d .fL) am .y) .ud) (.ai .iJ)<|.ai .i9) aC)
  (af (bh (QG c<|AX (T:=jw) rfl e b .r) (ah<|aD<|aq g d .dA) aC)
  .qE))
def Gu(e:.aJ)(g:.dl){b:Addr}(c:mg "FORMS"=some .fg)(a:AW K b jw):.q "form_of" zN 1 ["words"] gf 1:=okd ["words"] λh d=>(af (bh (aQ (bS d) cO .b4 .uc .O) (ah<|aD<|gP rfl g<|eW<|dI ["word"] (cK<|i8 .m (nO am) nN) ⟨ay,cm,(.ai .ib)⟩) aC)
  (af (.ar<|Nx (T:=jw) rfl c a .b4 rfl)
  (af (.ar (aQ (dU d) gm (.eG<|.jK e) (QE rfl e .Bo) .O))
  (ah<|aD .Bo))))
def w9(d:.F "with_stay" 6 3 kI)(c:.F "with_bar" 6 3 mQ)(e:.F "with_tie" 6 4 mP):.q "changed_web" pF 7 .nb iZ 3:=okd .nb λa b=>(af (bh (.lT .n7) (ah<|aD<|aq e a<|.bE<|ae .eT .sg) aC)
  (af (bh (.lT .ub) (ah<|aD<|.c3<|.bE .sg) aC)
  (ah<|aD<|.c2<|.bE .sg)))
def DH:fM ["self","row","words","things"] .tN (bC iP):=fsc
def DI(F:Fun K "say" "Desk.say" iP f fd){C:Addr}(T:pB K C)(h:.F "answer" 21 3 lK)(i:.F "changed_web" 7 3 iZ)(d:.F "things_of" 5 3 eT)(c:.F "form_of" 1 1 gf)(g:.F "words_of" 1 1 j9):.eJ CX0 22 f fd .tN (spF K bO 2):=by
 refine M7 F DH λe A b s H E a => ?_;have j:=Qg a;exact(af (ax<|aq g a .ei)
  (af (ax<|.c2<|ae (AJ T .m)<|ae (.c3 .c8)<|ae .sF ao)
  (af (bh (aQ lA Cv .eT (iK<|ae .n7<|ae .ub<|ae (.ai .dL) ao) rfl) (af (Ii T .m<|aq i a .zF)
  (ah<|aD<|.ai .he)) aC)
  (ah<|aD<|aq h a .zF))))
def Bi(a:.aJ):.q "_law_cell" uB 1 .Ba bV 2:=okd .Ba λb c=>(af (bh (aQ yA rV .r (.jK a) .O) .AJ aC)
  (ah<|aD<|.cX (aZ gW gX (.eI am .r) .r)<|.eI am .r))
def DJ(b:.bS):.q "_law_row" w4 1 ["_law_cell_here","_law_way","_law_many","_law_base"] fg 4:=okd ["_law_cell_here","_law_way","_law_many","_law_base","_law_found","_law_number","_law_k"] λc a=>(af .fj
  (af (ax .m)
  (af (bh (.fq .kJ am) (ah<|ax<|aZ dw dy (.eI (.jF .m) am) am) aC)
  (af (eA Z8 rfl (c0 rfl b .s) ay (ah (bh (.fq .kJ am) (af (ax<|.jF<|aZ c8 eB (aZ c8 eB (.cX (.eI .ag .ag)<|.eI am .ag)<|.eI am .a4) am)
  (ah<|cW<|jq .Z<|aZ dw dy (aZ fV jX .ag am) .z)) (af (cW<|jq .Z<|aZ dw dy .ag .z)
  (ah<|ax<|aZ fV jX .ag .z)))))
  (ah<|aD .Z)))))
def k8:fM ["_law_script","_law_most","_law_way","_law_many","_law_tied","_law_told","_law_one","_law_other","_law_heavy","_law_levels","_law_steps","_law_holders"] .Aj (bC mX):=fsc
def ya(c:.bS)(j:mg "sum"=none)(k:mg "max"=none)(d:.F "_law_row" 1 4 fg)(b:.Dm):.q "_law_model" mX 2 .Aj lI 2:=okd ["_law_script","_law_most","_law_way","_law_many","_law_tied","_law_told","_law_one","_law_other","_law_heavy","_law_levels","_law_steps","_law_holders"] λa e=>(af (ax<|aq b a .kF)
  (af (ax<|.cX am<|aZ dw dy (aZ fV jX .s am) .r)
  (af (ky (i:=4) k8.nd rfl lc (own:=.g3) (capn:=["_law_many"]) (caps:=[3]) rfl .ca .tP
   (λh C s H g=>⟨ay,cm,(bx<|M4 (ca .ig .eP) .r)⟩))
  (af (ax<|.c2<|ae (aq b a .kF)<|ae .s<|ae (.eI .z .z) .ig)
  (af (eA Z8 rfl .tP ay (ah (eA Z8 rfl (c0 rfl c .a4) ay (af (ax<|M5 rfl rfl k am<|.eG .wY)
  (af (bh .uU (ah<|ax<|qp (ca (ae am<|ae am<|ae am<|ae am<|ae am .oj) .vR) (.jF .wY) .y) aC)
  (af (kW (mv 8) .sY .dV)
  (ah<|kW (mv 8) (aP .Z .dV .y) .a4)))))))
  (af (ky (i:=9) k8.nd rfl lc (own:=["_law_row_here"]) (capn:=[]) (caps:=[]) rfl .kZ (cK .Z)
   (λh C s H g=>⟨ay,cm,(Fp rfl rfl j .y2)⟩))
  (af (bh .uU (af .wf
  (ah<|eA Z8 rfl .tP ay<|ah<|kW (qp (ca (ae (.eG .CN)<|ae (.eG<|.cX (aP (mv 9) .a4 .y)<|.jF .CN) ao) .j2) .vE .y) (mv 9) .a4)) aC)
  (af (ax<|bx<|M4 (ca (ae dH ao) .eP) .z)
  (af (bh .uU (af .wf
  (ah (ky (i:=11) k8.nd rfl lc (own:=["_law_number"]) (capn:=[]) (caps:=[]) rfl .kZ (cK .ag)
   (λh C s H g=>⟨ay,cm,(qp (ca (ae am<|ae am<|ae dH<|ae dH<|ae dH<|ae dH<|ae dH ao) .vR) .m .y)⟩)))) aC)
  (ah<|aD<|iK<|ae .Z<|ae (mv 9)<|ae (mv 11) ao))))))))))
def Bj(d:.dl)(a:.bS)(b:.aJ)(c:mg "sum"=none):.q "_law_turn" uC 1 .za iB 2:=okd ["_law_model_here","_law_stand","_law_tied","_law_levels","_law_holders","_law_found","_law_one","_law_force","_law_held"] λh e=>(af (Tj .m .yM)
  (af .fj
  (af (eA Z8 rfl (c0 rfl a .mX) ay (af (ax (aZ gW gX am (Fp rfl rfl c (eW (gQ (own:=["_law_other"]) (capn:=["_law_stand", "_law_tied", "_law_one"]) (caps:=[1,2,6]) rfl (cu.a .Ce) (c0 rfl a .mX)
   (λi C s H g=>⟨ay,cm,(.eI (aP (aP .s .z .y) .m .y)<|aP .r .m .y)⟩))))))
  (af (ax<|aP .r .a4 .y)
  (af (bh (aQ Cf rV .dV (aP .z .a4 .y) .O) (ah<|ax am) aC)
  (af (bh (aQ yA rV .dV (aP .z .a4 .y) .O) (ah<|ax am) aC)
  (af (bh (aQ qi lB .sY dH .O) (ah<|ax .sY) aC)
  (ah<|cW<|jq .ag<|mv 8)))))))
  (ah<|aD<|gP rfl d<|cN .ag))))
def uU(c:.dl)(a:.bS)(b:.aJ):.q "_law_fitting" ot 1 .zn jb 2:=okd ["_law_model_here","_law_some","_law_found","_law_one"] λe d=>(af .fj
  (af (eA Z8 rfl (c0 rfl a .tI) ay (af (cW<|jq .s<|aP .r .z .y)
  (ah<|bh (aQ qi lB .ik dH .O) (ah<|kW .ik .s .z) aC)))
  (ah<|aD<|gP rfl c<|cN .s)))
def yc(b:.F "_law_turn" 1 2 iB):.q "_law_ended" qW 2 .za oV 2:=okd ["_law_model_here","_law_stand","_law_stands","_law_later"] λa c=>(af .x5
  (ah (Cq Z8 (cC jA) (af (ax<|aq b a<|.bE<|ae .kR ao)
  (af (bh (.hI .z .kR) .t3 aC)
  (ah<|cW<|jq .s .z))))))
def qY(b:.bS)(c:.aJ):.q "_law_choosable" lO 1 .kA i3 1:=okd .kA λe a=>(ah (aD (bx (gQ (own:=.g3) (capn:=.kA) (caps:=[0]) rfl .ca (c0 rfl b<|.lV c)
   (λg C s H d=>⟨ay,(mB (aQ (dU a) gm (aP .eo .m .y) am .O)),.m⟩)))))
def qZ(e:.bS)(d:.aJ)(c:.hv)(b:.F "_law_ended" 2 2 oV)(g:.F "_law_fitting" 1 2 jb):.q "_law_turns_all" lP 3 .zn gJ 2:=okd ["_law_model_here","_law_some","_law_stand","_law_stands"] λa h=>(af (ax (aq g a (ae .m (ae (bx (gQ (own:=.g3) (capn:=.kV) (caps:=[1]) rfl .ca (c0 rfl e<|.lV d)
   (λj C s H i=>⟨ay,cm,(Az rfl c<|fH lA Cv .m .r rfl)⟩))) ao))))
  (af (ax<|aq b a .fL)
  (ah<|aD<|MB.me<|pM .yj<|kS .yj)))
def Bk(a:.hu)(c:.hv)(b:.bS)(d:.aJ):.q "_law_text" uD 1 .kA kc 1:=okd ["_law_model_here","_law_many","_law_lines_here","_law_one","_law_other","_law_heavy","_law_holder"] λg e=>(af (ax<|.lV d)
  (af (ax<|bx<|ca (ae (fQ (.ai .mn)<|fR rfl a .r) ao) .eP)
  (af (eA Z8 rfl (c0 rfl b .r) ay (ah (eA Z8 rfl (oG rfl b (.cX .z am) .r) ay (af (ax .sX)
  (ah<|bh (aQ Cf rV .ag am .O) (ah<|cW<|jq .s<|.p1<|eW<|ca (ae .n7<|ae .nW<|ae (fR rfl a .Z)<|ae (fR rfl a .ag) ao) .me) aC)))))
  (af (ax<|bx<|kC .s<|bx<|dI ["_law_level"] (cK .b4) ⟨ay,cm,(fQ .ua<|fR rfl a .m)⟩)
  (af (eA Z8 rfl (cK .b4) ay<|ah<|cW<|jq .s<|qp (ca (ae .k1<|ae (fQ (.ai .h6)<|QI rfl a .a4) ao) .j2) (Az rfl c (fH qi lB .a4 dH .O)) .y)
  .yl)))))
def Bl(d:.aJ):.q "_law_sets" uE 1 ["_law_people","_law_size"] qQ 2:=okd ["_law_people","_law_size","_law_found","_law_one"] λe a=>(af .zC
  (af (eA Z8 rfl (cK .m) ay (ah (ax (bx (kC .s (bx (gQ (own:=.kV) (capn:=.g3) (caps:=[3]) rfl .ca (cK .s)
   (λc C s H b=>⟨ay,cm,.zc⟩))))))))
  (ah (aD (bx (gQ (own:=.kV) (capn:=["_law_size"]) (caps:=[1]) rfl .ca (cK .s)
   (λc C s H b=>⟨ay,(mB<|.fq (.jK d) .r),.m⟩)))))))
def xa(a:.hu):.q "_law_row_of" pG 1 .kV ke 1:=okd .kV λc b=>(ah<|aD<|.p1<|eW<|kC (bx<|ca (ae .uc ao) .eP)<|bx<|dI .g3 (cK .m) ⟨ay,cm,(fR rfl a .m)⟩)
def Bm(a:.hu)(c:.aJ):.q "_law_deed" uF 1 ["_law_model_here","_law_cell_here"] lM 2:=okd ["_law_model_here","_law_cell_here","_law_many","_law_one","_law_other","_law_more"] λd b=>(af (ax<|.lV c)
  (af .yv
  (af .yv
  (af (ax<|aZ fV jX .r am)
  (af (bh (MW.mt<|Aw (aQ yA rV .kJ am .O) .xZ) (af (kW (qp (ca (ae am<|ae (.cX am .nC) ao) .j2) .kJ .y) .ik .Z)
  (af (kW .sX (aP .b4 .Z .y) .z)
  (ah<|aD<|fQ (fQ (fQ (fQ (fQ .uf .nW) .iK)<|fR rfl a .Z) .iK)<|fR rfl a .sX))) aC)
  (af (bh (aQ .hi cO .kJ am .O) (af (kW (qp (ca (ae dH<|ae am .oj) .me) .nC .y) .b4 .z)
  (ah<|aD<|fQ (fQ (fQ (.ai .sB) .nW) .iK)<|qp (ca (ae .k1<|ae .t9<|ae (.ai [49])<|ae (.ai [49]) ao) .me) .nC .y)) aC)
  (af (kW (aZ c8 eB .ik<|.eI (qp (ca (ae fO<|ae am<|ae fO .ig) .me) .nC .y)<|.cX am<|.jF<|aZ fV jX .ag am) .b4 .z)
  (ah<|aD<|fQ (fQ (fQ .ua .nW) .iK)<|fR rfl a .ik))))))))
def N4:fM ["_law_script","_law_model_here","_law_desk","_law_cell_here","_law_k","_law_text_here","_law_told","_law_some","_law_free","_law_fewer"] .tw (bC w5):=fsc
def Up(h:.aJ)(k:.bS)(u:.hu)(e:.hv)(t:.ph)(o:mg "set"=none){C:Addr}(T:pB K C)(d:M6 P w K mg base C "say" 22 2 bO)(v:.F "_law_sets" 1 2 qQ)(j:.F "_law_row_of" 1 1 ke)(g:.F "_law_turns_all" 3 2 gJ)(x:.F "_law_choosable" 1 1 i3)(m:.F "_law_text" 1 1 kc)(n:.F "_law_deed" 1 2 lM)(l:.Dm)(q:TM P w K mg base "Desk" C 7 2 d5)(p:.F "_law_model" 2 2 lI):.q "law" w5 23 .tw Dq 1:=okd ["_law_script","_law_model_here","_law_desk","_law_cell_here","_law_k","_law_text_here","_law_told","_law_some","_law_free","_law_fewer"] λa b=>(af (ax<|aq p a .kF)
  (af (ax<|TN T q .gU rfl (ae (aq m a .ei) ao)<|id ik )
  (af (ax<|aq l a .kF)
  (af (eA Z8 rfl (c0 rfl k<|.jF .z) ay (af (cW .xs)
  (ah<|.cW<|.ds (j3 T d .gU .s (ae (aq n a<|.c4<|ae (aq l a<|.bE<|ae (.cX am .Z) ao) ao) ao) ik .b)<|.ai .he)))
  (af (ax<|aq m a .ei)
  (af (ax .xs)
  (af (bh (aQ .hi cO .a4 (.ai .mS) .O) (ah<|aD<|MB.me<|pM (Mi<|ij<|aq g a<|.c4<|ae (aq x a .ei) ao)<|kS<|ij (fH .hi cO .xt .ag .O)) aC)
  (af .fj
  (af (bh (.ds .a4 .ue) (ah (ky (i:=7) N4.nd rfl lc (own:=["_law_word"]) (capn:=[]) (caps:=[]) rfl .kZ (cK<|bx<|qE (c:=32) rfl .a4)
   (λy C s H r=>⟨ay,cm,(vz rfl e .m)⟩))) aC)
  (af (.cW<|MW.mt<|ni (.ds .dV<|bx<|Ki rfl rfl t rfl o .dV)<|.dt<|.ds (.p1<|eW<|dI .g3 (cK .dV) ⟨ay,cm,(fR rfl u .m)⟩)<|qp (ca (ae .a4<|ae (.ai []) ao) .j2) (Az rfl e (fH .hi cO .a4 .ue .O)) .y)
  (af (.cW<|MW.mt<|ni (.ds (j3 T d .gU .s (ae (aq j a<|ae .dV ao) ao) ik .b)<|.ai .iJ)<|.dt<|cS<|cC<|aq g a<|.c4<|ae .dV ao)
  (af (ky (i:=8) N4.nd rfl lc (own:=.g3) (capn:=.kA) (caps:=[1]) rfl .ca (c0 rfl k<|cT rfl h<|cN .eo)
   (λy C s H r=>⟨ay,(mB<|.jC<|aP .eo .m .y),.m⟩))
  (af (eA Z8 rfl (cK<|aq v a<|ae (mv 8)<|ae (.eG<|cT rfl h<|cN .dV) ao) ay<|ah<|.cW<|.ds (j3 T d .gU .s (ae (aq j a<|ae (mv 9) ao) ao) ik .b)<|.ai .i9)
  (ah<|aD (fH .hi cO .xt .ag .O)))))))))))))))
end
def DK{α:Type}(us:List α)(c:us.length=2):∃b a,us=[b,a]:=match us,c with | [b,a],_=>⟨b,a,rfl⟩
def Uq{l:PySem.W.OpenLaw}{w:N6}{K:ZX}{h:Heap}{mg:.ap}{fa A F:Addr}(X:K.In h)(G:h.Ns mainGlobals mg)(a0:mg "law"=some (.ref fa))(Hf:.n "is_whole" wQ)(BN:.n "is_between" qR)(BO:.n "is_opinion" qS)(Pf:.n "is_tie" Dr)(BP:.n "neighbours" mV)(Ei:.n "bars_told" uo)(BQ:.n "stays_told" qT)(Pg:.n "web_of" Ds)(Lj:.n "many_of" zC)(Lk:.n "ties_of" zD)(Ph:.n "bar_of" Dt)(Ll:.n "stay_of" zE)(Lm:.n "bars_of" zG)(Hg:.n "stays_of" wR)(Ln:.n "free_of" zH)(UP:.n "fits" NX)(yk:.n "check_stand" pD)(Ej:.n "ties_once" uq)(Ek:.n "is_person" ur)(Lo:.n "pull_at" zI)(Lp:.n "next_at" zJ)(Lq:.n "turn_at" zK)(xD:.n "check_person" oq)(Hi:.n "with_tie" p6)(Hj:.n "with_bar" wT)(El:.n "with_stay" ut)(RK:.n "ended" IM)(uY:.n "may_be_chosen" nj)(uZ:.n "are_choosable" nn)(RL:.n "begun" IN)(Em:.n "turns_all" uv)(Hk:.n "lists_of" wU)(Lr:.n "do_turn" zL)(Hl:.n "left_out" wV)(rC:.n "tree_above" mW)(Pi:.n "fewest" Du)(Hm:.n "show_web" wW)(Eo:.n "is_number" uw)(tI:.n "numbers_behind" lN)(Ep:.n "read_many" ux)(ym:.n "is_next_tie" pE)(Er:.n "read_ties" uy)(Ls:.n "line_at" zM)(Es:.n "read_bars" uz)(BR:.n "read_stays" qU)(Hn:.n "read_web" wX)(Hq:.n "words_of" wY)(Hr:.n "thing_of" wZ)(BS:.n "is_written" qV)(Et:.n "things_of" uA)(qc:.n "answer_of_fewest" kf)(u4:.n "answer_of_web" nr)(Pj:.n "answer" Dv)(Lu:.n "form_of" zN)(yn:.n "changed_web" pF)(Eu:.n "_law_cell" uB)(Hs:.n "_law_row" w4)(BT:.n "_law_model" mX)(Ev:.n "_law_turn" uC)(xE:.n "_law_fitting" ot)(BU:.n "_law_ended" qW)(tJ:.n "_law_choosable" lO)(tK:.n "_law_turns_all" lP)(Ew:.n "_law_text" uD)(Ex:.n "_law_sets" uE)(yp:.n "_law_row_of" pG)(Ey:.n "_law_deed" uF)(We:.n "law" w5)(BV:Nb K "isinstance")(UQ:Nb K "bool")(Wf:Nb K "int")(Wg:Nb K "len")(RM:Nb K "tuple")(RN:Nb K "range")(UR:Nb K "list")(Wh:Nb K "all")(Pk:Nb K "sorted")(Ez:Nb K "enumerate")(Wi:Nb K "sum")(Wj:Nb K "max")(Wk:Nb K "min")(Wl:Nb K "str")(Wm:Nb K "zip")(Wn:Nb K "set"){li:Tok}(yq:.cx "MOST_WEIGHT"=some (some<|.int 400 li)){gL:Tok}(yr:.cx "MOST_PEOPLE"=some (some<|.int 30 gL)){iE:Tok}(rE:.cx "MOST_FREE_TRIED"=some (some<|.int 9 iE)){ki:Tok}(xF:.cx "MOST_FIGURES"=some (some<|.int 60 ki))
  {C:Addr} (H:.cx "Desk"=some .tz) (B:.u9 Str.empty=true) (J:.ux) (z:.Dz) (E:.C9) (D:.eb "web"=some none) (L:PySem.W.makesIn K C=true) (I:.dv .bt=true)
  {tL tM:.co} {tN:.ga} {tO tP tQ tR mh tS:S1}
  (u5:.eb "__init__"=some .ek) (a:.l2 .bh=true) (u6:K.lookup A=some ⟨tO,tL,.func (PySem.W.fnOf "__init__" "Desk.__init__" (fN d7) (dP d7) (bC d7) .none tP tQ tR tM mh tS),tN⟩) (jz:.hM mh "Desk.__init__"=true) (u7:.dv .bh=true)
  {EA EB:.co} {EC:.ga} {ED EE EG EH uJ EI:S1}
  (Ht:.eb "say"=some (some<|.ref F)) (i:.l2 (.ref F)=true) (Hu:K.lookup F=some ⟨ED,EA,.func (PySem.W.fnOf "say" "Desk.say" (fN iP) (dP iP) (bC iP) .none EE EG EH EB uJ EI),EC⟩) (fq:.hM uJ "Desk.say"=true) (xG:.dv (.ref F)=true)
  {tD:Tok} (Lv:.cx "FIGURES"=some (some<|.str .y8 tD))
  {c:Addr} (RO:.cx "STAYS"=some (some .fa)) (n:wB K c .gr)
  {g:Addr} (RP:.cx "FORMS"=some (some<|.ref g)) (d:AW K g jw):∃fd:FuncData,(∀(s:P1) (v:S1),.jR ⟨[v],[]⟩ [("_law_script",v)])/\∀base:Heap,K.In base->base.Ns mainGlobals mg->ie l.prog w K mg base CX0 23 fa fd .tw (spF K Dq 1):=by
 obtain⟨f,od,US,sl,oc,UT,UU,UV,UW,UX,e,Wo,Wp,Wq⟩:=We;have e:=a0.symm.trans (xb X G e);cases e;have Wr:=As (st:=w5) Wo Wp Wq;have o:=.bZ BV;have G5:=.bZ UQ;have t:=.bZ Wf;have b:=.bZ Wg;have m:=.bZ RM;have k:=.bZ RN;have x:=.bZ UR;have M:=.bZ Wh;have R:=.bZ Pk;have em:=.bZ Ez;have V:=.bZ Wi;have z7:=.bZ Wj;have Pb:=.bZ Wk;have r:=.bZ Wl;have Ed:=.bZ Wm;have Pe:=.bZ Wn;have lm:=xb X G yq;have fG:=xb X G yr;have iF:=xb X G rE;have kj:=xb X G xF;have tF:=xb X G Lv;have vJ:=xb X G RO;have kL:=xb X G RP;have T:pB K C:=⟨H,⟨B,J,z,E⟩,D⟩;have nv:=As (st:=d7) u6 jz u7;have va:=nv.binds (ps:=.om) λ_ _ _ _ _ _ Z hl=>by obtain⟨_,_,rfl⟩:=DK Z hl;rfl
 have xH:=As (st:=iP) Hu fq xG;have Hv:=xH.binds (ps:=.tN) λ_ _ _ _ _ _ Z hl=>by obtain⟨_,_,rfl⟩:=DK Z hl;rfl
 refine⟨PySem.W.fnOf "law" "law" (fN w5) (dP w5) (bC w5) .none UT UU UV US UW UX,λs v=>.of_eq rfl,λbase KB _=>?_⟩;have q:En l.prog w K mg base:=⟨h,X,G⟩;have xI:=Hf.df1 q (Dw o G5 t).ok;have u:=BN.df3 q (xT xI).ok;have rF:=BO.df1 q (xU u).ok;have EJ:=Pf.df2 q (KA b o m lm u).ok;have BW:=BP.df2 q (xW k o x EJ).ok;have EK:=Ei.df2 q (A8 m M b o x xI).ok;have BY:=BQ.df2 q (xX m M b o x k rF).ok;have N:=Pg.df4 q (KC m R fG BY EK BW u).ok;have p:=Lj.df1 q (Gh b).ok;have z8:=Lk.df2 q Gi.ok;have Pl:=Ph.df2 q KD.ok;have S:=Ll.df2 q Gj.ok;have O:=Lm.df1 q (Gk x).ok;have y:=Hg.df1 q (Dx x).ok;have z9:=Ln.df1 q (Gm em y).ok;have UY:=UP.df2 q (QW em b o m S rF p).ok;have yt:=yk.df2 q (w6 UY).ok;have Q:=Ej.df1 q (A9 k p z8).ok;have W:=Ek.df2 q (Ba u p).ok;have Lx:=Lo.df3 q (Gn V z8).ok;have Ly:=Lp.df3 q (Gp Pl Lx S).ok;have Lz:=Lq.df2 q (Gq m k p Ly).ok;have Y:=xD.df2 q (uT W).ok;have Hw:=Hi.df4 q (Dz z7 Pb N y O p u Q Y).ok;have Hx:=Hj.df3 q (DA N y Q p O Y).ok;have EL:=El.df3 q (Bb N O Q p y Y).ok;have RQ:=RK.df2 q (NZ b Lz yt).ok;have vc:=uY.df2 q (sL S W).ok;have vd:=uZ.df2 q (sM M k b o x vc).ok;have RT:=RL.df2 q (N1 m em y vd).ok;have uK:=Em.df2 q (Bc RQ RT).ok;have Hy:=Hk.df1 q (DB R b).ok;have Aa:=Lr.df3 q (Gr m uK).ok;have Hz:=Hl.df3 q (DC R z9 Aa).ok;have nh:∀j,Def l.prog w K mg base "tree_above" (9+j) 4 (cY j):=λj=>by
  induction j with
  |zero=>exact rC.df4 (ps:=.rB) q λ_=>NY
  |succ j ih=>exact rC.df4 q λU=>xY j U Hz ih
 replace nh:=nh 9;have Pm:=Pi.df1 q (KF b iF Hy Aa nh z9).ok;have HA:=Hm.df1 q (DD y O Q p).ok;have uL:=Eo.df1 q (Bd M b tF kj u).ok;have iS:=tI.df2 q (qX t M uL).ok;have EM:=Ep.df1 q (Be b fG u iS).ok;have yu:=ym.df2 q w8.ok;have EN:=Er.df2 q (Bf k b m yu EJ iS).ok;have Ab:=Ls.df2 q (Gs b).ok;have EO:=Es.df3 q (Bg k b iS Ab).ok;have BZ:=BR.df3 q (xZ k vJ n Ab).ok;have HB:=Hn.df1 q (DE b o r N BZ EO EN EM).ok;have vf:TM l.prog w K mg base "Desk" C 7 2 d5:=⟨xb X G H,A,_,_,⟨L,u5,a,I⟩,va,sO (P:=l.prog) (w:=w) (base:=base) nv T HB⟩;have HC:=Hq.df1 q (DF o r).ok;have HD:=Hr.df3 q (DG t).ok;have B0:=BS.df2 q (x9 uL).ok;have EQ:=Et.df3 q (Bh Ed t HD W B0).ok;have qd:=qc.df1 q (pc r).ok;have vg:=u4.df2 q (sP qd Pm HA).ok;have Pn:=Pj.df3 q (KG kL d vg uK).ok;have LA:=Lu.df1 q (Gu b m kL d).ok;have yv:=yn.df3 q (w9 EL Hx Hw).ok;have HE:M6 l.prog w K mg base C "say" 22 2 bO:=⟨F,_,_,⟨Ht,i,xG⟩,Hv,DI (P:=l.prog) (w:=w) (base:=base) xH T Pn yv EQ LA HC⟩;have uM:=Eu.df2 q (Bi b).ok;have HF:=Hs.df4 q (DJ k).ok;have B3:=BT.df2 q (ya k V z7 HF uM).ok;have ER:=Ev.df2 q (Bj m k b V).ok;have xJ:=xE.df2 q (uU m k b).ok;have B4:=BU.df2 q (yc ER).ok;have tU:=tJ.df1 q (qY k b).ok;have tV:=tK.df2 q (qZ k b t B4 xJ).ok;have ES:=Ew.df1 q (Bk r t k b).ok;have ET:=Ex.df2 q (Bl b).ok;have yw:=yp.df1 q (xa r).ok;have EU:=Ey.df2 q (Bm r b).ok;exact(Up (P:=l.prog) (w:=w) (base:=base) b k r t R Pe T HE ET yw tV tU ES EU uM vf B3).ok Wr
end Fm
namespace Fm
/---/def dg(n:Nat):List Nat:=(Nat.toDigits 10 n).map Char.toNat
variable{n:Nat}
def jgg:∀n<10,dg n=[48+n]:=by decide +kernel
def jg(h:n<10):dg n=[48+n]:=jgg n h
def dgc(h:n<10):(n.digitChar).toNat=48+n:=by
 have:=jg h;rw[dg,Nat.toDigits_of_lt_base h]at this;simpa using this
def Bn(h:10<=n):dg n=dg (n/10)++[48+n%10]:=by
 rw[dg,Nat.toDigits_of_base_le .a h,ZR,y6,X3,dgc (Nat.mod_lt _ .a),dg]
def N5(n:Nat)(h:n<10^60):1<=(dg n).length/\(dg n).length<=60:=by
 rw[dg,ZA];exact⟨Nat.length_toDigits_pos,(Nat.length_toDigits_le_iff .a .a).mpr h⟩
def xc(n:Nat):∀c∈dg n,48<=c/\c<=57:=by
 induction n using Nat.strongRecOn with
 |ind n b =>
  intro c a
  by_cases h:n<10
  ·rw[jg h]at a;simp at a;omega
  ·rw[Bn .a]at a
   rcases Z1.mp a with a|a
   ·exact b (n/10) .a c a
   ·simp at a;omega
def N7(n:Nat):Jx (dg n)=n:=by
 induction n using Nat.strongRecOn with
 |ind n a =>
  by_cases h:n<10
  ·rw[jg h];simp[Jx]
  ·rw[Bn .a,Jx,List.foldl_append]
   have:=a (n/10) .a;rw[Jx]at this;rw[this];simp;omega
def Bo(n:Nat):∃c r,dg n=c::r/\(n≠0->c≠48)/\(n=0->c=48/\r=[]):=by
 induction n using Nat.strongRecOn with
 |ind n b =>
  by_cases h:n<10
  ·exact⟨48+n,[],jg h,λz=>by omega,λz=>⟨by omega,rfl⟩⟩
  ·obtain⟨c,r,e,a,_⟩:=b (n/10) .a
   exact⟨c,r++[48+n%10],by rw[Bn .a,e];rfl,λ_=>a .a,λz=>by omega⟩
def IO(n:Nat):Jw (dg n)=true:=by
 obtain⟨c,r,e,_⟩:=Bo n;have:=xc n;dsimp[Jw,YB,zZe,YS];exact⟨by rw[e];rfl,this⟩
/---/def tx(i:Int):List Nat:=qg .fM
def xf(n:Nat):tx (n:Int)=dg n:=by
 have e:toString (n:Int)=n.repr:=by rw[Int.toString_eq_repr,Int.repr_eq_if,z4 .a,zZu]
 rw[tx,qg,e,Nat.repr_eq_ofList_toDigits,String.toList_ofList,dg]
def Ur(h:0<n):tx (-(n:Int))=45::dg n:=by
 have e:toString (-(n:Int))="-" ++ n.repr:=by rw[Int.toString_eq_repr,Int.repr_eq_if,y3 .a];congr 2;omega
 rw[tx,qg,e,String.toList_append,Nat.repr_eq_ofList_toDigits,dg,ZR];dsimp[String.toList_ofList];rfl
def xg(i:Int):tx i=dg i.natAbs/\0<=i\/tx i=45::dg i.natAbs/\i<0:=by
 by_cases h:0<=i
 ·refine .inl ⟨?_,h⟩
  have:=xf i.natAbs;rwa[show ((i.natAbs:Nat):Int)=i by omega]at this
 ·refine .inr ⟨?_,by omega⟩
  have:=Ur (n:=i.natAbs) .a;rwa[show -((i.natAbs:Nat):Int)=i by omega]at this
def N8(i:Int):∀c∈tx i,c=45\/.tU:=by
 intro c a;rcases xg i with ⟨e,_⟩|⟨e,_⟩<;>rw[e]at a
 ·exact .inr (xc _ c a)
 ·rcases xB.mp a with z|a
  ·exact .inl z
  ·exact .inr (xc _ c a)
def dj(i:Int)(h:.f8):1<=(.cE).length/\(.cE).length<=61:=by
 have:=N5 _ h;rcases xg i with ⟨e,_⟩|⟨e,_⟩<;>rw[e]
 ·omega
 ·simp;omega
def kK(i:Int):o8 .cE=some i:=by
 rcases xg i with ⟨e,h⟩|⟨e,h⟩<;>rw[e]
 ·obtain⟨c,r,q,_⟩:=Bo i.natAbs
  have f:=xc i.natAbs c .nN;have g:=IO i.natAbs;have v:=N7 i.natAbs;rw[q]at g v⊢;rw[o8,y3 .a,z4 g,v];congr 1;omega
 ·rw[o8,z4 rfl,z4 (IO _),N7]
  congr 1;omega
def N9{i:Int}(h:.f8):i.natAbs.log2<1920:=by
 by_cases z:i.natAbs=0
 ·rw[z];decide
 ·exact(Nat.log2_lt z).mpr (Z0 h<|ZM (show 10^60<=2^200 by decide)<|wb .b .b)
variable{h h1:Hd}{σ:Sd}
def gC(p:.uP)(b:.f8):dq a σ h=.ok .kI h1:=by
 show Res.bind _ _=_;rw[p];exact z4 (N9 b)
def nu(p:a σ h=.ok (.str y) h1)(b:out.length+y.length<=1000000)(q:r (out++y) σ h1=o):dR a r out σ h=o:=by
 show Res.bind _ _=_;rw[p];exact(z4 b).trans q
def IP(b:out.length<=1000000):rM out σ h=.ok (.str out) h:=z4 b
def IQ(p:r [] σ h=o):fFs r σ h=o:=p
def i5(p:a σ h=.ok .cd h1)(q:b σ h1=.ok (.str y) c)(l:x.length+y.length<=1000000):ag cV a b σ h=.ok (.str<|x++y) c :=
 aj p q (z4 l)
theorem zO:∀l:List .bJ,pv (l.map D.str)=some l
 |[]=>rfl
 |x::l=>by dsimp[y6,pv,zO l,zo]
theorem oW:∀{l:.aQ},(∀x∈l,x.length<=k)->(l.map (·.length)).sum<=k*l.length
 |[],_=>by simp
 |x::l,h=>by
  have h1:=h x .d;have b:=oW (l:=l) λy a=>h y (by simp[a]);have e:k*(x::l).length=k*l.length+k:=by rw[Z2,Nat.mul_succ]
  rw[y6,X2,e];omega
def lQ(p:a σ h=.ok .k2 h1)(b:.ly)(l:L.length<=1100):jo [sp] a σ h=.ok (.str<|br [sp] L) h1:=by
 have:=oW b;show Res.bind _ _=_;rw[p];show (match pv .k2 with|some c=>_|none=>_)=_;rw[zO];exact z4 .S
def Bp(p:.uL)(q:.uC)(r:L σ h1=.ok ds a)(s:.po)(t:l.length+ds.length<=SZ):nU x L σ h=.gn (a.set n<|.lst<|l++ds):=by
 show Res.bind _ _=_;rw[p,aE];dsimp[q,r,aE,s];exact z4 t
noncomputable abbrev eD:List Nat:=.rP
noncomputable abbrev Gv:List Nat:=.fB
noncomputable abbrev Gw:List Nat:=.gQ
/---/def line(w:.i)(l:.c):List Nat:=.eL (w::l.map tx)
/---/def jx(t:Tie):List Nat:=line Gv [(t.a:Int),t.b,t.w]
/---/def lS(b:Int):List Nat:=line Gw [b]
noncomputable def dS:Option Int->List Nat
 |none=>[102,114,101,101]
 |some x=>[115,116,97,121,115,32]++tx x
/---/def bK(n:Nat)(T:.V)(bs:.c)(ss:.Q):List .bJ:=line eD [(n:Int)]::(T.map jx++(bs.map lS++ss.map dS))
def big{i:Int}(h0:0<=i)(h1:i<=400):i.natAbs<10^60:=ZS (show i.natAbs<=400 by omega) .b
structure TS(n:Nat)(t:Tie):Prop where
 a:(t.a:Int).natAbs<10^60
 b:(t.b:Int).natAbs<10^60
 w:t.w.natAbs<10^60
variable{T:.V}
def Oa(a:n<=30)(O:.an)(ht:t∈T):TS n t:=by
 have b:=O.lt t ht;have c:=O.wt t ht;exact⟨big .a .a,big .a .a,big .a .a⟩
variable{x:Int}{o:.aK}
def xh(h:.ho)(e:o=some x):x.natAbs<10^60:=by
 subst e;simp at h;rcases h with z|z<;>subst z<;>decide
def Ob(h:TS n t):(jx t).length<=200:=by
 have a:=dj _ h.a;have c:=dj _ h.b;have b:=dj _ h.w;dsimp[jx,line,br,y6,X3,ZB,Z2,vb];omega
def Oc(h:.pt):(lS b).length<=200:=by
 have a:=dj _ h;dsimp[lS,line,br,y6,X3,ZB,Z2,vb];omega
def KH(h:.pt):(line eD [b]).length<=200:=by
 have a:=dj _ h;dsimp[line,br,y6,X3,ZB,Z2,vb];omega
def KI(h:.ho):(dS o).length<=200:=by
 rcases h with e|e|e<;>subst e<;>decide +kernel
def sQ(d:n<=30)(O:.an)(lb:.bo)(ls:.bv)(os:.bD)(bb:.eA):
  (∀x∈bK n T bs ss,x.length<=200)/\(bK n T bs ss).length<=1100:=by
 have f:=O.len;constructor
 ·intro x a
  unfold bK at a;rcases xB.mp a with e|a
  ·rw[e];exact KH (big .a .a)
  ·rcases Z1.mp a with a|a
   ·obtain⟨t,c,rfl⟩:=z5.mp a
    exact Ob (Oa d O c)
   ·rcases Z1.mp a with a|a
    ·obtain⟨t,c,rfl⟩:=z5.mp a
     exact Oc (bb t c)
    ·obtain⟨t,c,rfl⟩:=z5.mp a
     exact KI (os t c)
 ·dsimp[bK,Z2,ZB,ZA]
  omega
noncomputable abbrev Us:EF:=fFs .vl
noncomputable abbrev Od:EF:=fIf .ki .hZ .x3
def IR{g:Hd}:(h++c::g).set h.length d=h++d::g:=by
 rw[List.set_append_right _ _ .o,Nat.sub_self];rfl
def ou{g k:Hd}:((h++c::g)++k).set h.length d=h++d::(g++k):=by
 rw[ZU,zYf,IR]
def eF{g:Hd}:(h++c::g)[h.length]?=some c:=by
 rw[ZD .o,Nat.sub_self];rfl
def Oe:t∈jc n T↔t.a<n/\t.a<t.b/\(t.b,t.w)∈nbs T t.a:=by
 have a:∀{i:Nat},i<n->.hY=c5 .bn:=λ{i} e=>by simp[List.getD,e]
 unfold jc;rw[jO];constructor
 ·rintro⟨b,d,c⟩
  rw[a b,dY]at c;exact⟨b,d,c⟩
 ·rintro⟨b,d,c⟩
  exact⟨b,d,by rw[a b,dY];exact c⟩
/---/def sR(s t:Tie):Prop:=s.a<t.a\/(s.a=t.a/\s.b<t.b)
theorem xi(c:∀i,(.uh).Pairwise .iB):∀k,(hU R k).Pairwise sR
 |0=>by simp[hU]
 |k+1=>by
  rw[hU,Y9];refine⟨xi c k,?_,λs d t ht=>?_⟩
  ·unfold iH
   rw[Y5];exact((c k).filter _).imp λh=>.inr ⟨rfl,h⟩
  ·obtain⟨h1,_,_⟩:=jO.mp d
   obtain⟨e,_,_⟩:=sH.mp ht;exact .inl .a
def KJ(O:.an):(.dI).Pairwise sR:=by
 unfold jc;refine xi (λi=>?_) n
 by_cases a:i<n
 ·have:.hY=c5 .bn:=by simp[List.getD,a]
  rw[this];exact j7 (k7 O.un i)
 ·have:.hY=[]:=by simp[List.getD,a]
  rw[this];exact .nil
def KK{bs:.c}(bb:.eA)(f:h[k]?=some .b5):
  cz .dj .bs .K [] (ag cV .j0 .en) .bs .ax h=.ok ((.ox).map D.str) h:=by
 have:=bB (g:=some k) (all:=bs.map .int) (tg:=gN 0) (cs:=[]) (e:=ag cV .j0 .en) (h:=h) (I:=λσ=>∃a,σ=[a]) .bb
  (λd=>match d with | .int a=>.str (line Gw [a])|_=>.non) f (xs:=bs.map .int) (σ:=.ax) (by
  rintro x i σ ⟨a,rfl⟩;obtain⟨t,c,rfl⟩:=z5.mp i;have j:=dj _ (bb t c);exact⟨_,rfl,⟨_,rfl⟩,rfl,λ_=>(i5 (x:=.ni) (y:=tx t) rfl (gC rfl<|bb t c) .S).trans rfl⟩) ⟨_,rfl⟩
 rw[this,Z5.mpr .d,ZY,ZY];rfl
def oX(p:.jl)(q:b σ h1=.ok (.ref m) c)(e:c[n]?=some .dH)(d:c[m]?=some (.lst k))(z:l.length+k.length<=SZ):eQ a b σ h=.ok (l++k) c:=by
 show Res.bind _ _=_;rw[p,aE,q,aE];dsimp[e,d];exact z4 z
inductive LI(told:D)(n tk bk sk qk A B:Nat)(h0 g:Hd)(P:.aQ)(ss:.Q):Nat->Sd->Hd->Prop
 |mk {i:Nat} {y:.G}:LI told n tk bk sk qk A B h0 g P ss i [some told,some .aV,some .jA,some (.ref bk),some (.ref sk),some (.ref qk),some (.ref B),some (.ref (A+2)),y] (h0++g++[.lst ((P++(ss.take i).map dS).map D.str)])
def KL(a b:.i)(h:Hd):oNe (.str a) (.str b) h=.ok .nn h:=rfl
def sS(a b:.i)(h:Hd):oEq (.str a) (.str b) h=.ok (.bl<|decide (a=b)) h:=rfl
variable{l:.i}
def oY(p:.hr)(q:b σ h1=.ok (.str k) c):mr a b σ h=.ok (.bl<|decide .st&&.sd) c:=by
 show Res.bind _ _=_;rw[p,aE];rw[q];rfl
def Of(p:.hr)(q:l.length<=1000000/\l.all (· < 128)=true):LE a σ h=.ok (l.map λc=>D.str [c],none) h1:=by
 show Res.bind _ _=_;rw[p,aE];exact z4 q
def QX(p:.hr)(q:.uO):HJ a σ h=.ok .rI h1:=by
 show Res.bind _ _=_;rw[p,aE];exact z4 q
noncomputable abbrev FG:List Nat:=.rr
variable{c:Nat}
def Utt:∀k<10,48+k∈FG:=by decide
def Ut(h:48<=c/\c<=57):c∈FG:=by
 have e:=Utt (c-48) (by omega);rwa[show 48+(c-48)=c by omega]at e
def QY(f:∀c∈l,48<=c/\c<=57)(h:Hd):cz none .kw .K [] .AK .kw .ax h=.ok ((.kw).map λ_=>D.bl true) h:=by
 have:=bB (g:=none) (all:=l.map λc=>D.str [c]) (tg:=gN 0) (cs:=[]) (e:=ag Jy .e (fC<|.str FG)) (h:=h) (I:=λσ=>∃a,σ = [a]) .bb .iI trivial (xs:=l.map λc=>D.str [c]) (σ:=.ax) (by
  rintro x d σ ⟨a,rfl⟩;obtain⟨c,b,rfl⟩:=z5.mp d;refine⟨_,rfl,⟨_,rfl⟩,rfl,λ_=>aj rfl rfl ?_⟩;show Res.ok (D.bl<|decide (c∈FG)) h=_;rw[x3 (Ut<|f c b)]) ⟨_,rfl⟩
 rw[this,Z5.mpr .d]
def mY{i:Int}(b:.f8)(h:Hd):ek [.str .cE] h=.aN h:=by
 obtain⟨l,g⟩:=qq (dg i.natAbs);have k:=N5 _ b;have d:=xc i.natAbs;obtain⟨c,r,f,o,v⟩:=Bo i.natAbs;rw[<-g]at k d f;have B:=d c .tJ;have n:aG .g6 .wj [some (.str .cE),none] h=.nx .gy h:=by
  rcases xg i with ⟨e,z⟩|⟨e,z⟩
  ·rw[<-g]at e
   rw[e];refine aA ((og (aM ((oY rfl rfl).trans ?_))).trans rfl);rw[f];have:((c::r).take [45].length == [45])=false:=by
    have:c≠45:=by omega
    simp[this]
   rw[this,Bool.and_false]
  ·rw[<-g]at e
   rw[e];refine aA ((mJ (h1:=h) (aM ((oY rfl rfl).trans ?_))).trans ?_)
   ·simp
   ·show (if (45::l).length<=1000000 then (match EX (45::l) (some 1) none with|some y=>Res.ok (D.str y) h|none=>.bad) else .bad)=_
    rw[z4 .S];have:EX (45::l) (some 1) none=some l:=by
     show (if (0:Int)<=1/\(1:Int)<=(45::l).length then some (List.drop 1 (45::l)) else none)=_;rw[z4 .S];rfl
    rw[this]
 have p:sIf .wl .gu bc .gy h=.nx .gy h :=
  bU (.bq<|aM<|au (ak (QX rfl .a) .fN) .zQ)
 have m:sIf (dm<|tE<|uN<|.dr (LE .f) .AK) .gu bc .gy h=.nx .gy h:=by
  have x:((.kw).map λ_=>true).all id=true:=by simp
  exact bU (.bq<|aM<|(nZ (ce (Of rfl ⟨by omega,zZe.mpr λc w=>by have:=d c w;simp;omega⟩)<|QY d h) oT).trans (by rw[x]))
 have t:aY .vC .gy h=.rt .ej h:=by
  have a:Pt .f .B .gy h=.ok (.str [c]) h:=by
   refine aj rfl rfl ?_;rw[f]at k⊢;show (if (c::r).length<=1000000 then (match ixN (c::r).length 0 with|some j=>(match (c::r)[j]? with|some c=>Res.ok (D.str [c]) h|none=>.bad)|none=>.bad) else .bad)=_;have s:ixN (c::r).length 0=some 0:=by simp[ixN]
   rw[z4 .a,s];rfl
  by_cases z:i.natAbs=0
  ·obtain⟨u,A⟩:=v z
   have e:tx i=[48]:=by
    have:i=0:=by omega
    subst this;rcases xg 0 with ⟨e,_⟩|⟨_,q⟩
    ·exact e
    ·omega
   refine aJ (n9 (iu (h1:=h) (aM (aj a rfl ?_)) (aM (aj rfl rfl ?_))))
   ·rw[KL,u];rfl
   ·rw[sS,e];rfl
  ·refine aJ (n9 (AY (aM (aj a rfl ?_))))
   rw[KL,xC (λq=>o z (by simpa using q))];rfl
 exact (.v<|(bN n).trans ((bN p).trans ((bN m).trans t))).trans aU
def Gx{α:Type}(l:List α):lq .se=some .nH:=oT
variable{ns:.c}
def Oh(b:.uy)(d:h[k]?=some (.lst .fA)):cz .dj .fA .K [] (av ek .aG) .fA .ax h=.ok ((.fA).map λ_=>D.bl true) h:=by
 have:=bB (g:=some k) (tg:=gN 0) (cs:=[]) (e:=av ek .aG) (I:=λσ=>∃a,σ = [a]) .bb .iI d (xs:=(ns.map tx).map D.str) (σ:=.ax) (by
  rintro x l σ ⟨a,rfl⟩;obtain⟨c,j,rfl⟩:=z5.mp l;obtain⟨i,f,rfl⟩:=z5.mp j;exact⟨_,rfl,⟨_,rfl⟩,rfl,λ_=>au .bz (mY (b i f) h)⟩) ⟨_,rfl⟩
 rw[this,Z5.mpr .d]
def vE{n:Int}(p:.hr)(q:l.length<=600)(r:o8 l=some n):nE a σ h=.eM h1:=by
 show Res.bind _ _=_;rw[p,aE];show (if l.length<=600 then (match o8 l with|some n=>Res.ok (D.int n) h1|none=>.bad) else .bad)=_;rw[z4 q,r]
def KM(b:.uy)(f:h[k]?=some (.lst .fA)):cz .dj .fA .K [] (nE .e) .fA .ax h=.ok .cG h:=by
 have:=bB (g:=some k) (tg:=gN 0) (cs:=[]) (e:=nE .e) (I:=λσ=>∃a,σ = [a]) .bb (λd=>match d with | .str l=>(match o8 l with|some n=>.int n|none=>.non)|_=>.non) f (xs:=(ns.map tx).map D.str) (σ:=.ax) (by
  rintro x o σ ⟨a,rfl⟩;obtain⟨c,m,rfl⟩:=z5.mp o;obtain⟨i,j,rfl⟩:=z5.mp m;have l:=dj _ (b i j);refine⟨_,rfl,⟨_,rfl⟩,rfl,λ_=>(vE rfl .a<|kK i).trans ?_⟩;show _=Res.ok (match o8 .cE with|some n=>D.int n|none=>.non) h;rw[kK]) ⟨_,rfl⟩
 rw[this,Z5.mpr .d,ZY,ZY];congr 1;apply YQ;intro i _;show (match o8 .cE with|some n=>D.int n|none=>.non)=.int i;rw[kK]
def oZ(h:c≠45)(a:¬.tU):c∉tx i:=λz=>by
 rcases N8 i c z with e|e
 ·exact h e
 ·exact a e
theorem lU:∀{L:.aQ},(br [sp] L).length<=(L.map (·.length)).sum+L.length
 |[]=>ZL _
 |[x]=>by simp[br]
 |x::y::r=>by
  have a:=lU (sp:=sp) (L:=y::r);rw[br,ZB,ZB,y6,X2,Z2];dsimp[Z2,vb]at a⊢;omega
def Gy(a:32∉w):eu 32 .op=w::ns.map tx:=by
 refine fU .d λp b=>?_;rcases xB.mp b with e|e
 ·rw[e];exact a
 ·obtain⟨i,_,rfl⟩:=z5.mp e
  exact oZ .b .b
def rc(p:.hr)(q:.uO):mx c a σ h=.ok ((eu c l).map D.str) h1:=by
 show Res.bind _ _=_;rw[p,aE];exact z4 q
def o0{x:D}{l:List D}(p:.jl)(q:h1[n]?=some (.lst (x::l))):dv a (pAt .l) pNo σ h=.ok (.ref h1.length) (h1++[.lst l]):=by
 have e:cut (x::l) (some 1) none=l:=by
  simp[cut,sIx]
 show Res.bind _ _=_;rw[p,aE];dsimp[pAt,fC,aE,pNo,ee,q,e]
def p7{w:.i}(u:32∉w)(B:w.length<=10)(o:ns.length<=10)(b:.uy)(h:Hd):
  ∃k g,bW [.str w,.str .op] h=.ok .aB .M/\h.length<=k/\.M[k]?=some (.lst .cG):=by
 have len:(.op).length<=1000000:=by
  have s:=lU (sp:=32) (L:=w::ns.map tx);have y:=oW λx z=>by
   obtain⟨i,v,rfl⟩:=z5.mp z;exact(dj _<|b i v).2
  unfold line;dsimp[y6,X2,Z2,ZA]at s y;omega
 obtain⟨W,d⟩:=qq .fA;obtain⟨L,l⟩:=qq .op;have C:W.length<=10:=by rw[d];simp;exact o
 have sp:(eu 32 L).map D.str=.str w::W:=by rw[l,Gy u,y6,d]
 rw[<-l]at len⊢;have r:.dy (aW<|mx 32 .f) .yR h=.nx .mz (h++[.lst .dP]):=by
  have q:=rc (c:=32) (a:=aa 1) (σ:=.yR) (h:=h) rfl len;rw[sp]at q;exact aA (bF q .cb)
 have j:(h++[bJ.lst .dP]++[.lst W])[h.length+1]?=some (.lst W):=by
  have e:h.length+1=(h++[bJ.lst .dP]).length:=by simp
  rw[e];exact ZG
 have m:=Oh b (k:=h.length+1) (h:=h++[bJ.lst .dP]++[.lst W]) (by rw[<-d];exact j);rw[<-d]at m;have A:(W.map λ_=>true).all id=true:=by simp
 have t:sIf .vk (aY .aE) bc .mz (h++[.lst .dP])
   = .nx .mz .AF:=by
  refine bU (iu (aM<|aj (.bc (aF eF) .gO) rfl (by rw[KL,x3 rfl];rfl))<|.bq<|aM<|(nZ (ce (cy ((o0 rfl eF).trans (by rw[ZB];rfl)) j) m)<|Gx W).trans (by rw[A]))
 have f:(h++[bJ.lst .dP]++[.lst W]++[.lst W])[h.length+2]?=some (.lst W):=by
  have e:h.length+2=(h++[bJ.lst .dP]++[bJ.lst W]).length:=by simp
  rw[e];exact ZG
 have n:=KM b (k:=h.length+2) (h:=h++[bJ.lst .dP]++[bJ.lst W]++[bJ.lst W]) (by rw[<-d];exact f);rw[<-d]at n;have p:aY .wv .mz .AF
   = .rt (.ref<|h.length+3) (h++[.lst .dP]++[.lst W]++[.lst W]++[.lst .cG]):=by
  refine(aJ<|bF (ce (cy ((o0 rfl<|.k eF).trans (by rw[ZB,ZB];rfl)) f) n) .cb).trans ?_;congr 2;simp
 refine⟨h.length+3,[bJ.lst .dP,.lst W,.lst W,.lst .cG],?_,by omega,by rw[ZD .a];simp⟩;refine (.v<|(bN r).trans ((bN t).trans p)).trans ?_;rw[cL];simp
theorem zP{c sp:Nat}:∀{L:.aQ},c∈br [sp] L->c=sp\/∃x∈L,c∈x
 |[],h=>by simp[br]at h
 |[x],h=>.inr ⟨x,by simp,h⟩
 |x::y::r,h=>by
  rw[br]at h;rcases Z1.mp h with h|h
  ·rcases Z1.mp h with h|h
   ·exact .inr ⟨x,by simp,h⟩
   ·exact .inl .nA
  ·rcases zP h with e|⟨z,hz,q⟩
   ·exact .inl e
   ·exact .inr ⟨z,ZW _ hz,q⟩
def sT(a:10∉w):10∉line w ns:=λh=>by
 rcases zP h with e|⟨z,b,q⟩
 ·cases e
 ·rcases xB.mp b with e|e
  ·rw[e]at q;exact a q
  ·obtain⟨i,_,rfl⟩:=z5.mp e
   exact oZ .b .b q
def KN(o:.aK):10∉dS o:=λh=>by
 cases o with
 |none=>simp[dS]at h
 |some x =>
  rcases Z1.mp h with h|h
  ·revert h;decide
  ·exact oZ .b .b h
def DL(n:Nat)(T:.V)(bs:.c)(ss:.Q):eu 10 .gI=bK n T bs ss:=by
 refine fU (by simp[bK]) λp a=>?_;unfold bK at a;rcases xB.mp a with e|a
 ·rw[e];exact sT .b
 ·rcases Z1.mp a with a|a
  ·obtain⟨t,_,rfl⟩:=z5.mp a
   exact sT .b
  ·rcases Z1.mp a with a|a
   ·obtain⟨t,_,rfl⟩:=z5.mp a
    exact sT .b
   ·obtain⟨t,_,rfl⟩:=z5.mp a
    exact KN t
variable{tg:GF}
def QZ{x:D}(a:dC g all h)(t:.jm)(e:b σ' h=.bk σ'' h'):.jN .bC σ h=.nx σ'' h':=by
 rw[gu,z4 a,t];dsimp[e]
variable{A:Nat}
section
variable{n:Nat}{T:.V}{bs:.c}{ss:.Q}{h:Hd}{lk:Nat}
noncomputable abbrev LLs(n:Nat)(T:.V)(bs:.c)(ss:.Q):List D:=(bK n T bs ss).map D.str
def Bq:(.fv).length=1+T.length+bs.length+ss.length:=by simp[bK];omega
def W1:atI .fv 0=some (.str<|line eD [(n:Int)]):=qF _ _
def Uu(hi:i<T.length):atI .fv ((1+i:Nat):Int)=some (.str<|jx T[i]):=du (by
 rw[ZQ,bK,Nat.add_comm 1 i,zYi,ZC (by simpa using hi)];simp[hi])
def Oi(hi:i<bs.length):atI .fv ((1+T.length+i:Nat):Int)=some (.str<|lS bs[i]):=du (by
 rw[ZQ,bK,show 1+T.length+i=T.length+i+1 by omega,zYi,ZD .d,ZA,wo,ZC (by simpa using hi)];simp[hi])
def Q0(hi:i<ss.length):atI .fv ((1+T.length+bs.length+i:Nat):Int)=some (.str<|dS ss[i]):=du (by
 rw[ZQ,bK,show 1+T.length+bs.length+i=T.length+(bs.length+i)+1 by omega,zYi,ZD .d,ZA,wo,ZD .d,ZA,wo];simp[hi])
def Br(l:1<=n)(o:n<=30)(d:.pi):jd [.ref lk] h=.eM h:=by
 have j:(n:Int).natAbs<10^60:=big .a .a;obtain⟨k,g,q,p,c⟩:=p7 (w:=eD) (ns:=[(n:Int)]) .b .b .d (by intro i m;rw[YE.mp m];exact j) h;have e:aG .g6 (av bW<|ab (fC<|.str eD) (ab .aT ar)) [some .hD,none] h=.nx .mW .M:=aA (au (.b8<|.bc (aF d) W1) q);have a:fAt .f .B .mW .M=.ok .aV .M:=aR rfl rfl (aF c) rfl;have f:sIf .vv ef bc .mW .M=.nx .mW .M :=
  bU (iu (aM<|.cs<|dz<|.aR<|aF c)<|.bq<|aM<|au (ak a .fN) .zQ)
 exact (.v<|(bN e).trans ((bN f).trans (aJ a))).trans .hh
def xj{x y z:D}(p:a σ h1=.ok (.tup [x,y,z]) b):mj a pNo (pAt .R) σ h1=.ok (.tup [x,y]) b:=by
 show Res.bind _ _=_;rw[p];rfl
def Ci{l:List D}{x:D}:atI (l++[x]) (-1)=some x:=by
 have e:ixN (l++[x]).length (-1)=some l.length:=by
  unfold ixN;rw[y3 .a,z4 .S];simp;congr 1;omega
 unfold atI;rw[e];exact ZG
def KO(X:.V):mi .oK<=20:=ZM (zr (k:=1) (λt=>by simp[bL,dep,mi]) X) .b
def Q1{X:.V}(j:h[A]?=some (.lst .oK))(lt:t.a<t.b)(up:∀s∈X,sR s t):fF [.ref A,bL t] h=.aN h:=by
 have f:tE (ag oLt .ko .kY) .sb h=.ee h:=aM (aj .bi .bi<|wH .a);have a:.kP[A]?=some (.lst .oK):=.k j;have i:∀b,eqL .oK []=some b->tE .tf .sb h=.ok b .W:=λb e=>by
  refine aM (aj rfl (bF rfl) ?_);show (match eqG .kP .eE .a7 with|some b=>Res.ok (D.bl b) .kP|none=>.bad)=_;have:eqG .kP .eE .a7=some b:=by
   dsimp[eqG,ee,a,ZG];exact e
  rw[this]
 have fin:∀d,(∃g,d=h++g)->tOr (tE .tf) .v7 .sb h=.ok true d->fF [.ref A,bL t] h=.aN h:=λd ⟨g,e⟩ q=>by
  have:=(bm (n:=2) (ds:=[.ref A,bL t]) rfl rfl<|aJ<|n9<|jt f q);refine this.trans ?_;rw[e];exact bT rfl
 rcases List.eq_nil_or_concat X with e|⟨Y,s,e⟩
 ·refine fin .W ⟨_,rfl⟩ (AY (i true ?_))
  rw[e];rfl
 ·have k:sR s t:=up s .nO
  have q:=i false (by
   unfold eqL;rw[z4 (KO X),y3 .nO])
  refine fin .W ⟨_,rfl⟩ (iu q (aM (aj (xj<|.bc (aF a) (by rw[e,List.concat_eq_append,ZR];exact Ci)) (xj rfl) ?_)));have l:lexLt [(s.a:Int),s.b] [(t.a:Int),t.b]=true:=by
   rcases k with c|⟨f,m⟩
   ·rw[lexLt,y3 .a];exact x3 .a
   ·rw[lexLt,z4 .a,lexLt,y3 .a];exact x3 .a
  show Res.ok (D.bl<|lexLt [(s.a:Int),s.b] [(t.a:Int),t.b]) _=_;rw[l]
inductive TI(n lk A:Nat)(h:Hd)(T:.V):Nat->Sd->Hd->Prop
 |mk {i:Nat} {y z:.G} {g:Hd}:TI n lk A h T i [some .hD,some .aV,some .eE,y,z] (h ++ .lst .iL::g)
def Gz(t:Tie):(decide ((.c6).length<=(jx t).length)&&((jx t).take (.c6).length == .c6))=true:=by
 have e:jx t=116::105::101::32::br [32] [tx t.a,tx t.b,tx t.w]:=rfl;rw[e];generalize br [32] [tx t.a,tx t.b,tx t.w]=r;simp
def GA(b:Int):(decide ((.c6).length<=(lS b).length)&&((lS b).take (.c6).length == .c6))=false:=by
 have e:lS b=98::97::114::32::br [32] [tx b]:=rfl;rw[e];generalize br [32] [tx b]=r;simp
def o3{c d:Hd}(p:a σ h1=.ok (.int m) c)(q:b σ c=.ok (.int (m+k:Nat)) d)(l:m+k<=1000000):gM a b σ h1=.ok ((.nZ).map (λj:Nat=>D.int ((m+j:Nat):Int)),none) d:=by
 show Res.bind _ _=_;rw[p,aE];rw[q];show (if (-1000000<=(m:Int)/\(m:Int)<=1000000)/\-1000000<=((m+k:Nat):Int)/\((m+k:Nat):Int)<=1000000 then _ else _)=_;rw[z4 .a];have e:(((m+k:Nat):Int)-m).toNat=k:=by omega
 rw[e];congr 2
def Bs(a0:1<=n)(X:n<=30)(O:.an)(u:T.Pairwise sR)(A:.uQ)(lb:.bo)(ls:.bv)(y:.pi):
  ∃g,je [.ref lk,.int n] h=.bf .el:=by
 have ol:=O.len;have len:=Bq (n:=n) (T:=T) (bs:=bs) (ss:=ss);have Y:.dy .aE [some .hD,some .aV,none,none,none] h=.nx [some .hD,some .aV,some .a7,none,none] .W:=aA (bF rfl);obtain⟨r,hr⟩:∃r,bs.length+ss.length=r+1:=⟨bs.length+ss.length-1,by omega⟩;have er:(.mC).map (λj:Nat=>D.int ((1+j:Nat):Int))=(.CT).map (λj:Nat=>D.int ((1+j:Nat):Int))++(D.int ((1+T.length:Nat):Int)::(.tT).map λj:Nat=>D.int ((1+.tr:Nat):Int)):=by
  rw[List.range_add,ZR,List.range_succ_eq_map];simp[Function.comp_def]
 have q2:gM .l .eZ .mA .W=.ok ((.mC).map (λj:Nat=>D.int ((1+j:Nat):Int)),none) .W :=
  o3 rfl ((dz<|.aR<|aF<|.k y).trans (by rw[len];congr 3;omega)) .a
 obtain⟨S,h3,q3,J⟩:=sw (P:=TI n lk h.length h T) (g:=none) (k:=0) (all:=(.mC).map (λj:Nat=>D.int ((1+j:Nat):Int))) .bK
  (xs:=(.CT).map (λj:Nat=>D.int ((1+j:Nat):Int))) (rest:=D.int ((1+T.length:Nat):Int)::(.tT).map λj:Nat=>D.int ((1+.tr:Nat):Int)) (tg:=gN 3) (b:=ge)
  (σ:=.mA) (h:=h++[.lst []]) (by
  intro i x σ h0 M z;rw[Z6]at z⊢;have d:i<T.length:=by have:=(z0.mp M).1;simpa using this
  have E:x=.int ((1+i:Nat):Int):=by simpa[d] using M.symm
  subst E;cases z
  rename_i I a g
  obtain⟨t,G⟩:=qq (T[i]);have p:t∈T:=by rw[G];exact YM d
  have m:T.take (i+1)=T.take i++[t]:=by rw[G,zYs];simp[d]
  have c:∀(v:Hd) (z:.G),v[lk]? = some .jw->fAt .e .j [some .hD,some .aV,some .a7,some (.int ((1 + i:Nat):Int)),z] v=.ok (.str<|jx t) v:=λv z e=>aR rfl rfl (aF e) (by rw[G];exact Uu d);have f:(h++bJ.lst .iL :: g)[lk]? = some .jw:=.k y;have z:=Oa X O p;obtain⟨k,o,q,Q,K⟩:=p7 (w:=Gv) (ns:=[(t.a:Int),t.b,t.w]) .b .b .d (by
   intro i d;dsimp[xB,zYh,or_false]at d;rcases d with e|e|e<;>rw[e]
   ·exact z.a
   ·exact z.b
   ·exact z.w) (h++bJ.lst .iL::g)
  obtain⟨H,F⟩:=qq (h++bJ.lst .iL::g);have B:H[h.length]?=some (.lst .iL):=by rw[F];exact eF
  rw[<-F]at q K f Q⊢;have C:sIf .qW Po bc .q4 H=.nx .q4 H :=
   bU (.bq<|aM<|(oY (c H _ f) rfl).trans (by rw[Gz]))
  have t2:aG .cJ .wn .q4 H=.nx .kf (H++o) :=
   aA ((iw<|cv (au (.b8<|c H _ f) q)<|aF K).trans rfl)
  have lt:=O.lt t p;have R:∀s∈T.take i,sR s t:=λs Z=>by
   have L:=u;rw[<-List.take_append_drop (i+1) T,m,ZU,Y9]at L;exact L.2.2 s Z t .d
  have U:sIf .vG ef bc .kf (H++o)=.nx .kf (H++o) :=
   bU (iu (.bq<|aM<|.ab<|zq (O.ne t p) lt.1 lt.2 (O.wt t p) _)<|.bq<|aM<|.ab<|Q1 (.k B) (A t p) R)
  have V:(.iL).length<SZ:=by simp[SZ];omega
  have t4:eG (jE .h .C) .kf (H++o)=.nx .kf (h ++ .lst ((T.take<|i+1).map bL)::(g++o)):=by
   refine(dW<|ju rfl (.k B) rfl (.k B) V).trans ?_;rw[F,ou,m,ZR];rfl
  exact⟨_,rfl,_,_,(bN C).trans ((bN t2).trans ((bN U).trans t4)),.mk⟩) (TI.mk (i:=0) (g:=[]))
 rw[Z6,ZA,ZO]at J;cases J
 rename_i I a g
 rw[zYg]at q3;have W:0<bs.length:=by omega
 have c:fAt .e .j .gz .el=.ok (.str<|lS bs[0]) .el:=aR rfl rfl (aF<|.k y) (Oi (i:=0) W);have C:ge .gz .el=.bk .gz .el:=by
  have e:sIf .qW Po bc .gz .el=.bk .gz .el :=
   (fI<|cH (b:=false)<|aM<|(oY c rfl).trans (by rw[GA])).trans rfl
  show aw _ _ _ _=_;unfold aw;rw[e]
 have q4:gu none .xM .aI ge (D.int ((1+T.length:Nat):Int)::(.tT).map λj:Nat=>D.int ((1+.tr:Nat):Int)) [some .cC,some .x,some .A,I,a] .el=.nx .gz .el:=by
  exact QZ trivial rfl C
 have N:fv (gM .l .eZ) .aI ge .mA .W=.nx .gz .el :=
  eK q2 ((congrArg (λl=>gu none .xM .aI ge l .mA .W) er).trans (q3.trans q4))
 exact⟨g,(.v<|(bN Y).trans ((bN N).trans .dU)).trans cL⟩
end
variable{d:D}
section
variable{n:Nat}{T:.V}{bs:.c}{ss:.Q}{h:Hd}{lk:Nat}
def xk(a:h[lk]?=some (.lst L))(lt:k<L.length)(e:atI L (k:Int)=some d):hV [.ref lk,.int k] h=.as h:=by
 have b:sIf .BV ef bc .A7 h=.nx .A7 h:=bU (aM<|aj rfl (dz<|.aR<|aF a)<|pT .a);exact (.v<|(bN b).trans (aJ<|.bc (aF a) e)).trans aU
def Q3{x y:EF}{h a:Hd}{n m:Nat}{b l k:List D}(p:.uL)(q:.uC)(r:y σ h1=.ok (.ref m) a)(s:.po)(t:a[m]?=some (.lst k))(z:l.length+k.length<=SZ):CA x y σ h=.gn (a.set n<|.lst<|l++k):=by
 show Res.bind _ _=_;rw[p,aE];dsimp[q];rw[r,aE];dsimp[s,t];exact z4 z
inductive BI(lk st n A:Nat)(h:Hd)(bs:List D):Nat->Sd->Hd->Prop
 |mk {i:Nat} {y z:.G} {g:Hd}:BI lk st n A h bs i [some .hD,some (.int st),some .aV,some .eE,y,z] (h ++ .lst (bs.take i)::g)
def Bt(M:n<=30)(O:T.length<=900)(lb:.bo)(ls:.bv)(bb:.eA)(F:.pi):
  ∃g,jf [.ref lk,.int ((1+T.length:Nat):Int),.int n] h=.bf (h ++ .lst .bs::g):=by
 have len:=Bq (n:=n) (T:=T) (bs:=bs) (ss:=ss);obtain⟨a,d⟩:=qq (1+T.length);rw[<-d];have C:aG .aI .aE .wr h=.nx .l8 .W:=aA (bF rfl);have q2:gM .f .nP .l8 .W=.ok ((.t).map (λj:Nat=>D.int ((a+j:Nat):Int)),none) .W :=
  o3 rfl .dz .a
 obtain⟨G,Q,q3,u⟩:=cP (P:=BI lk a n h.length h .bs) (g:=none) (k:=0) (all:=(.t).map (λj:Nat=>D.int ((a+j:Nat):Int))) .bK
  (xs:=(.t).map (λj:Nat=>D.int ((a+j:Nat):Int))) (tg:=gN 4) (b:=qN)
  (σ:=.xe) (h:=h++[.lst []]) (by
  intro i x σ R y z;rw[Z6]at z⊢;have l:i<n:=by have:=(z0.mp y).1;simpa using this
  have o:x=.int ((a+i:Nat):Int):=by simpa[l] using y.symm
  subst o;cases z
  rename_i E s g
  have c:i<bs.length:=by omega
  obtain⟨b,r⟩:=qq (bs[i]);have I:b∈bs:=by rw[r];exact YM c
  have m:(.dO).take (i+1)=(.dO).take i++[.int b]:=by rw[r,zYs];simp[c]
  obtain⟨H,f⟩:=qq (h++bJ.lst ((.dO).take i)::g);have p:H[lk]?=some .jw:=by rw[f];exact .k F
  have t:=xk (k:=a+i) p .a (by rw[d];exact Oi c);rw[<-r]at t;obtain⟨k,e,q,N,A⟩:=p7 (w:=Gw) (ns:=[b]) .b .b .d (by intro i l;rw[YE.mp l];exact bb b I) H;have v:H[h.length]?=some (.lst<|(.dO).take i):=by rw[f];exact eF
  rw[<-f];have B:aG .cI .xS [some .cC,some .ci,some .x,some .A,some .mb,s] H=.nx .j8 (H++e) :=
   aA (au (.b8<|.ab t) q)
  have J:sIf .y0 ef bc .j8 (H++e)=.nx .j8 (H++e):=bU (aM<|.cs<|dz<|.aR<|aF A);have K:eG (CA .j .E) .j8 (H++e)=.nx .j8 (h ++ .lst ((.dO).take (i+1))::(g++e)):=by
   refine(dW<|Q3 rfl (.k v) rfl (.k v) A .cb).trans ?_;rw[f,ou,m];rfl
  exact⟨_,rfl,_,_,(bN B).trans ((bN J).trans K),.mk⟩) .Cm
 rw[Z6,ZA,ZO]at u;cases u
 rename_i E s g
 have L:(.dO).take n=bs.map D.int:=zZd .S;rw[L]at q3;exact⟨g,(.v<|(bN C).trans .Af).trans cL⟩
noncomputable abbrev GB:Tab:=.gr
def Oj(h:.ho):kx GB (dS o)=some o:=by
 rcases h with e|e|e<;>subst e
 ·rfl
 ·have:dS (some 0)=[115,116,97,121,115,32,48]:=by
   have:=xf 0;rw[jg .b]at this;show .h6++tx 0=_;rw[show (0:Int)=((0:Nat):Int) from rfl,this];rfl
  rw[this];rfl
 ·have:dS (some 1)=[115,116,97,121,115,32,49]:=by
   have:=xf 1;rw[jg .b]at this;show .h6++tx 1=_;rw[show (1:Int)=((1:Nat):Int) from rfl,this];rfl
  rw[this];rfl
def Om(o:.aK):Ps o=bj o:=by cases o<;>rfl
def yd(N:n<=30)(O:T.length<=900)(lb:.bo)(ls:.bv)(os:.bD)(E:.pi):
  ∃g,iC [.ref lk,.int ((1+T.length+n:Nat):Int),.int n] h=.bf (h ++ .lst .aj::g):=by
 have len:=Bq (n:=n) (T:=T) (bs:=bs) (ss:=ss);obtain⟨a,f⟩:=qq (1+T.length+n);rw[<-f];have y:aG .aI .aE .wr h=.nx .l8 .W:=aA (bF rfl);have q2:gM .f .nP .l8 .W=.ok ((.t).map (λj:Nat=>D.int ((a+j:Nat):Int)),none) .W :=
  o3 rfl .dz .a
 obtain⟨F,Q,q3,t⟩:=cP (P:=BI lk a n h.length h .aj) (g:=none) (k:=0) (all:=(.t).map (λj:Nat=>D.int ((a+j:Nat):Int))) .bK
  (xs:=(.t).map (λj:Nat=>D.int ((a+j:Nat):Int))) (tg:=gN 4) (b:=pC)
  (σ:=.xe) (h:=h++[.lst []]) (by
  intro i x σ R v z;rw[Z6]at z⊢;have A:i<n:=by have:=(z0.mp v).1;simpa using this
  have o:x=.int ((a+i:Nat):Int):=by simpa[A] using v.symm
  subst o;cases z
  rename_i C r g
  have c:i<ss.length:=by omega
  obtain⟨b,q⟩:=qq (ss[i]);have G:b∈ss:=by rw[q];exact YM c
  have m:(.aj).take (i+1)=(.aj).take i++[bj b]:=by rw[q,zYs];simp[c]
  obtain⟨H,l⟩:=qq (h++bJ.lst ((.aj).take i)::g);have p:H[lk]?=some .jw:=by rw[l];exact .k E
  have s:=xk (k:=a+i) p .a (by rw[f,<-lb];exact Q0 c);rw[<-q]at s;have u:H[h.length]?=some (.lst<|(.aj).take i):=by rw[l];exact eF
  rw[<-l];have tb:=Oj (os b G);have w:aG .cI .q0 [some .cC,some .ci,some .x,some .A,some .mb,r] H=.nx .j7 H :=
   aA (.ab s)
  have M:∀σ:Sd,aa 5 σ H=.ok (.str<|dS b) H->vh GB .E σ H=.go H:=λσ e=>by
   show Res.bind _ _=_;rw[e,aE];show Res.ok (D.bl (kx GB<|dS b).isNone) H=_;rw[tb];rfl
  have B:∀σ:Sd,aa 5 σ H=.ok (.str<|dS b) H->Ah GB .E σ H=.ok (bj b) H:=λσ e=>by
   show Res.bind _ _=_;rw[e,aE];show (match kx GB (dS b) with|some d=>Res.ok (Ps d) H|none=>.bad)=_;rw[tb,<-Om]
  have I:sIf (tE<|vh GB .E) ef bc .j7 H=.nx .j7 H:=bU (aM<|M _ rfl);have K:((.aj).take i).length<SZ:=by simp[SZ];omega
  have J:eG (jE .j<|Ah GB .E) .j7 H=.nx .j7 (h ++ .lst ((.aj).take (i+1))::g):=by
   refine(dW<|ju rfl u (B _ rfl) u K).trans ?_;rw[l,IR,m]
  exact⟨_,rfl,_,_,(bN w).trans ((bN I).trans J),.mk⟩) .Cm
 rw[Z6,ZA,ZO]at t;cases t
 rename_i C r g
 have L:(.aj).take n=ss.map bj:=zZd .S;rw[L]at q3;exact⟨g,(.v<|(bN y).trans .Af).trans cL⟩
def Q4(m:1<=n)(p:n<=30)(O:.an)(r:T.Pairwise sR)(v:.uQ)(lb:.bo)(ls:.bv)(os:.bD)(bb:.eA)(h:Hd):
  mT [.str .gI] h=.ok (.P).enc h:=by
 have len:=Bq (n:=n) (T:=T) (bs:=bs) (ss:=ss);have ol:=O.len;obtain⟨ll,lc⟩:=sQ p O lb ls os bb;have I:(.gI).length<=1000000:=by
  have d:=lU (sp:=10) (L:=bK n T bs ss);have f:=oW ll;omega
 obtain⟨X,F⟩:=qq .gI;have sp:(eu 10 X).map D.str=LLs n T bs ss:=by rw[F,DL]
 rw[<-F]at I⊢;have S:sIf .r4 ef bc .qU h=.nx .qU h:=bU .sG;obtain⟨d,o⟩:=qq (h++[bJ.lst .fv]);have Q:aG .g6 (aW<|mx 10 .e) .qU h=.nx .wp d:=by
  have q:=rc (c:=10) (a:=aa 0) (σ:=[some .gA,none,none,none,none,none,none]) (h:=h) rfl I;rw[sp]at q;rw[o];exact aA (bF q (by rw[len];dsimp[SZ];omega))
 have w:d[h.length]?=some .qg:=by rw[o];exact ZG
 have U:.dy (av jd .cB) .wp d=.nx .v5 d:=aA (.ay<|Br m p w);obtain⟨g2,C⟩:=Bs m p O r v lb ls w;obtain⟨f,l⟩:=qq (d ++ .lst .hX::g2);rw[<-l]at C;have M:aG .aI (av je .t6) .v5 d=.nx [some (.str X),some .a7,some .aV,some .pQ,none,none,none] f:=aA (.ab C);have K:f[h.length]?=some .jw:=by rw[l];exact .k w
 have J:f[d.length]?=some .e0:=by rw[l];exact eF
 obtain⟨g3,E⟩:=Bt p .a lb ls bb K;obtain⟨g,k⟩:=qq (f ++ .lst .bs::g3);rw[<-k]at E;have u:∀{s:Hd} {x y z:.G},s[d.length]?=some (.lst .hX)->.aX .l .h1 [some (.str X),some .a7,some .aV,some .pQ,x,y,z] s=.ok (.int ((1+T.length:Nat):Int)) s:=λ{s x y z} e=>by
  refine aj rfl (dz<|.aR<|aF e) ?_;rw[ZA];congr 2
 have V:aG .cJ .zq [some .gA,some .A,some .x,some .mr,none,none,none] f=.nx [some .gA,some .A,some .x,some .mr,some .mJ,none,none] g:=aA (au (.b7<|bI (u J) rfl) E);have G:g[h.length]?=some .qg:=by rw[k];exact .k K
 have B:g[d.length]?=some .e0:=by rw[k];exact .k J
 have W:g[f.length]?=some .b5:=by rw[k];exact eF
 obtain⟨g4,A⟩:=yd p .a lb ls os G;obtain⟨i,j⟩:=qq (g ++ .lst .aj::g4);rw[<-j]at A;have R:aG .cI .xJ [some (.str X),some .a7,some .aV,some .pQ,some (.ref f.length),none,none] g=.nx [some (.str X),some .a7,some .aV,some .pQ,some (.ref f.length),some (.ref g.length),none] i:=aA (au (.b7<|bI (.cs<|u B) rfl) A);have l4:i[h.length]?=some .jw:=by rw[j];exact .k G
 have H:i[d.length]?=some .e0:=by rw[j];exact .k B
 have N:i[f.length]?=some .b5:=by rw[j];exact .k W
 have y4:i[g.length]?=some .dg:=by rw[j];exact eF
 have P:aG .bR .z8 [some .gA,some .A,some .x,some .mr,some .mJ,some .h3,none] i=.nx .mM i :=
  aA (aj (u H) (.ah<|mH .b) rfl)
 have Y:sIf .Bv ef bc .mM i=.nx .mM i :=
  bU (aM<|aj (dz<|.aR<|aF l4) rfl<|wI .a)
 have Z:aY .x6 .mM i=.rt (.P).enc i:=aJ (au .k0<|oU m p O lb ls os H N y4);refine (.v<|(bN S).trans ((bN Q).trans ((bN U).trans ((bN M).trans ((bN V).trans ((bN R).trans ((bN P).trans ((bN Y).trans Z)))))))).trans ?_;rw[j,k,l,o];simp;exact bT (oo _)
end
noncomputable abbrev wSt:List Nat:=.kj
noncomputable abbrev wPe:List Nat:=.ib
noncomputable abbrev wNu:List Nat:=.rV
def Q5(h:i=0\/i=1):tx i=[if i=1 then 49 else 48]:=by
 rcases h with rfl|rfl
 ·exact(xf 0).trans (jg .b)
 ·exact(xf 1).trans (jg .b)
section
variable{G:Hd->Prop}{tg:GF}{b:SF}{e:EF}{x:D}{xs ds:List D}{σ σ' σ'':Sd}{h h':Hd}{d:D}
def On(g:G h):qv G tg b [] σ h=.cA h:=by unfold qv;rw[z4 g]
def KP{o:Out}(g:G h)(t:.jm)(q:b σ' h=.nx σ'' h')(r:qv G tg b xs σ'' h'=o):qv G tg b .bC σ h=o:=by
 rw[<-r];unfold qv;rw[z4 g];dsimp[t,q];cases xs<;>rfl
def KQ(g:G h):dQ G tg [] e [] σ h=.ok [] h:=by unfold dQ;rw[z4 g]
def GC(g:G h)(t:.jm)(q:e σ' h=.as h)(r:dQ G tg [] e xs σ' h=.ok ds h'):dQ G tg [] e .bC σ h=.ok (d::ds) h':=by
 unfold dQ;rw[z4 g];dsimp[t,i7,aE,q,r,XH]
end
def IS{c:Hd}{x y:D}{l k:List D}{o d:.fn}(p:.lD)(q:b σ h1=.ok y c)(e:j2 c x=some (l,o))(f:j2 c y=some (k,d))
  (r:qv (λh=>dC o l h/\dC d k h) tg body .kg σ c=out):yU a b tg body σ h=out:=by
 unfold yU;dsimp[p,q,e,f];exact r
def Oo{d:Nat}{c g:Hd}{x y:D}{l k ds:List D}{o f:.fn}(p:.lD)(q:b σ h1=.ok y c)(i:j2 c x=some (l,o))(j:j2 c y=some (k,f))
  (r:dQ (λh=>dC o l h/\dC f k h) tg [] e .kg (fS d caps σ) c=.ok ds g):wp d caps a b tg [] e σ h=.ok ds g:=by
 unfold wp;dsimp[p,q,i,j];exact r
def xm(h:Hd)(l:.aQ):j2 h (qw l)=some (l.map .str,none):=by simp[j2,qw]
def Uv{l:List D}(e:h[k]?=some .dH):j2 h .aB=some (l,some k):=by simp[j2,e]
def Op(sp:eu 32 r=L)(f:r.length<=1000000)(d:L.length<=100)(h:Hd):j9 [.str r] h=.bf (h++[.lst .e5]):=by
 have t:=bU (a:=ef) (b:=bc) (cH (t:=tE (i6 .str .e)) (σ:=[some (.str r)]) (h:=h) .da);have e:=bF (rc (c:=32) (a:=aa 0) (σ:=[some (.str r)]) (h:=h) rfl f) (by rw[sp,ZA];exact ZM d .b);rw[sp]at e;exact (.v<|sx t<|aJ e).trans cL
def vF{T:pQ}{d:.aQ}(p:.hr)(q:T.lookup l=some d):CK T a σ h=.ok (qw d) h1:=by
 show Res.bind _ _=_;rw[p,aE];dsimp[q]
def Oq{T:pQ}{d:.aQ}(p:.hr)(q:T.lookup l=some d):FC T a σ h=.go h1:=by
 show Res.bind _ _=_;rw[p,aE];dsimp[q,Option.isNone_some]
def Q6{d:.aQ}(p:a σ h=.ok (qw d) h1):MC a σ h=.ok (.int d.length) h1:=by
 show Res.bind _ _=_;rw[p,aE];simp[qw]
def IT{d:.aQ}(p:a σ h=.ok (qw d) h1):MD a σ h=.ok (.bl d.isEmpty) h1:=by
 show Res.bind _ _=_;rw[p,aE];cases d<;>simp[qw]
def rj{c:.i}(f:h[k]?=some (.lst .kL))(n1:c≠[115,119,97,121,115])(q:jw.lookup c=some e)(l:e.length=L.length):gf .lk h=.ok (qw e) h:=by
 have d:fAt .e .B .i2 h=.ok (.str c) h:=aR rfl rfl (aF f) .gO;have i:=λa=>bU (a:=a) (b:=bc) (aM<|aj d (rfl:fC (.str .ms) .i2 h=_) .rJ);have j:=bU (a:=ef) (b:=bc) (aM<|Oq d q);have m:=bU (a:=ef) (b:=bc) (aM (aj (g:=oNe) (aj (g:=kN) (dz<|cv (a:=aa 0) rfl<|aF f) (rfl:fC (.int 1) .i2 h=_) rfl) (Q6<|vF d q) ((pU _ _ _).trans (by
  rw[l];have:(((c::L).map D.str).length:Int)-1=(L.length:Int):=by simp
  show Res.ok (D.bl<|!decide ((((c::L).map D.str).length:Int)-1=(L.length:Int))) h=Res.ok (D.bl false) h;rw[this,x3 rfl];rfl))))
 exact (.v<|sx (i _)<|sx j<|sx m<|aJ<|vF d q).trans aU
def Sc(n1:kd≠wSt)(n2:kd≠[115,116,97,121])(b:.f8)(h:Hd):fj [.str kd,.str .cE] h=.aN h:=by
 have t:(.qc) [some (.str kd),some .kI] h=.ok false h :=
  iu (aM<|.ah .rJ) (qG<|aM<|.ah<|(.e9).trans (by rw[xC n2]))
 exact (.xy).trans aU
section
variable{w:Web}{n:Nat}{s:.c}
def n60{i:Nat}(h:i<=30):(.jd).natAbs<10^60:=ZS (show (.jd).natAbs<=30 by omega) .b
def DM(i:Int):tx i≠[102,114,101,101]:=λe=>by
 have:=N8 i 102 .nO;omega
def Os(n1:kd≠wSt)(b:.f8)(h:Hd):gY [w.enc,.str kd,.str .cE] h=.ok .u h:=by
 have t:(.yT) .yp h=.ec h:=aM (.ah .rJ);have u:(.BU) .yp h=.ec h:=aM .xD;exact (.v<|sx .nd<|aJ<|(og u).trans (vE rfl (by have:=dj i b;omega)<|kK i)).trans aU
def VQ(h:Hd):fj [.str .dL,.str .j3] h=.ok .ej h :=
 (.v<|gG<|(fI<|iu .da<|jt .da .da).trans .dU).trans aU
def VS(b:.f8)(h:Hd):fj [.str .dL,.str .cE] h=.aN h:=by
 have t:(.qc) [some (.str .dL),some .kI] h=.ok false h :=
  iu .da (jt .da<|aM .xD)
 exact (.xy).trans aU
def VT(h:Hd):gY [w.enc,.str .dL,.str .j3] h=.ok .non h :=
 (.v<|sx .ky<|aJ<|(mJ .da).trans rfl).trans aU
structure TOf(w:Web)(g:Hd)(z:List Nat × List Nat × D):Prop where
 wr:fj [.str z.1,.str z.2.1] g=.aN g
 pe:z.1=wPe->∃p:Int,o8 z.2.1=some p/\z.2.1.length<=600/\cR .gW g=.aN g
 th:gY [w.enc,.str z.1,.str z.2.1] g=.ok z.2.2 g
noncomputable abbrev rw2(Z:List .gB):List D:=Z.map λz=>.tup [.str z.1,.str z.2.1]
theorem Uw{a b c:D}(d:G g):∀{Z:List .gB} {x y:.G},(∀z∈Z,body .wF g=.nx .wF g)->∃f h,qv G (gT [3,4]) body (rw2 Z) [some a,some b,some c,x,y] g=.nx [some a,some b,some c,f,h] g
 |[],x,y,_=>⟨x,y,On d⟩
 |z::Z,x,y,H=>by
  obtain⟨f,h,e⟩:=Uw d λi j=>H i (.eF j);exact⟨f,h,KP d rfl (H z .d4) e⟩
theorem Se(a:G g):∀{Z:List .gB} {x y:.G},(∀z∈Z,TOf w g z)->dQ G .ck [] (av gY .g4) (rw2 Z) [x,y,some w.enc] g=.ok (Z.map (·.2.2)) g
 |[],x,y,_=>KQ a
 |z::Z,x,y,H=>GC a rfl (au .bM (H z .d4).th) (Se a λb h'=>H b (.eF h'))
noncomputable abbrev kz(Z:List .gB):List D:=Z.map λz=>D.str z.1
noncomputable abbrev wz(Z:List .gB):List D:=Z.map λz=>D.str z.2.1
theorem Ux:∀Z:List .gB,(((kz Z).zip (wz Z)).map λp=>D.tup .ll)=rw2 Z
 |[]=>rfl
 |z::Z=>by dsimp[y6,List.zip_cons_cons,Ux Z]
def jQ(t:Z.length<=100)(f:j2 g e=some (kz Z,none))(q:g[k]?=some (.lst<|wz Z))(H:∀z∈Z,TOf w g z):eT [w.enc,e,.ref k] g=.ok .h3 (g++[.lst (Z.map (·.2.2))]):=by
 have l:=Uv q;have j:dC none (kz Z) g/\.p8 g:=⟨trivial,q⟩;obtain⟨a,b,o⟩:=Uw (G:=λh=>dC none (kz Z) h/\.p8 h) (body:=qP) j λz i=>(bU<|.bq<|aM<|au .eN (H z i).wr).trans rfl;obtain⟨c,d,r⟩:=Uw (G:=λh=>dC none (kz Z) h/\.p8 h) (body:=qO) (a:=w.enc) (b:=e) (c:=.ref k) (g:=g) j (Z:=Z) (x:=a) (y:=b) λz i=>by
  by_cases c:z.1=wPe
  ·obtain⟨p,A,v,u⟩:=(H z i).pe c
   exact(bU<|jt (aM<|.ah<|(.e9).trans (by rw[x3 c]))<|.bq<|aM<|au (.b8<|vE rfl v A) u).trans rfl
  ·exact(bU<|qG<|aM<|.ah<|(.e9).trans (by rw[xC c])).trans rfl
 rw[<-Ux]at o r;have m:=Se (G:=λh=>dC none (kz Z) h/\.p8 h) (x:=none) (y:=none) j H;rw[<-Ux]at m;exact (.v<|sx (IS rfl rfl f l o)<|sx (IS rfl rfl f l r)<|aJ<|bF (Oo rfl rfl f l m) (by rw[ZA];exact ZM t .b)).trans cL
end
variable{p:Nat}{w:Web}
def gU(W:w.Ok n)(hp:p<n)(h:Hd):cI .gW h=.gn h:=by
 have e:(p:Int)<=(n:Int)-1:=by omega
 have q:cR .gW h=.aN h:=by simp[cR,bE,runB,p5 W,cX,e]
 simp[cI,bE,runB,q]
def IU{l:List D}(c:∀g,aa 3 σ g=.bf g)(b:∀g,aa 1 σ g=.ok (.int p) g)(a:∀g,aa 2 σ g=.as g)(hp:p<l.length):jm .j .f .h σ (h++[.lst l])=.nx σ (h++[.lst (l.set p d)]) :=
 (kY (k:=p) (a _) (c _) (b _) .g9 (by simp[ixN,hp])).trans (by rw[iW rfl])
def at3{a b c:bJ}:.ny[h.length]?=some a/\.ny[(h++[a]).length]?=some b/\.ny[(h++[a]++[b]).length]?=some c:=⟨.k (.k ZG),.k ZG,ZG⟩
def go3{a b c:bJ}(w:Web):letGo h (.ok w.enc .ny)=.ok w.enc h:=by rw[ZU,ZU];exact bT (oo _)
def DN(f:1<=n)(c:n<=30)(O:.an)(lb:.bo)(ls:.bv)(os:.bD)(hp:p<n)(x:Int)(h:Hd):
  mQ [(.P).enc,.int p,.int x] h=.ok (bg n T (bs.set p x) ss).enc h:=by
 have W:=iz c O lb ls;have o:=iY c O lb ls (h++[.lst .r8]);have i:=mO W h;have e:=kH W (h++[.lst .r8]++[.lst .k4]);have m:=oU f c (jI c O).1 (bs:=bs.set p x) (by simp[lb]) ls os at3.2.1 at3.1 (at3 (h:=h) (a:=.lst .r8) (b:=.lst .k4)).2.2;rw[p0 c O]at m;have g:=IU (h:=h) (l:=bs.map .int) (p:=p) (d:=.int x) (σ:=[some (.P).enc,some (.int p),some (.int x),some .a7]) .fR .fR .fR (by simp[lb,hp]);rw[<-List.map_set]at g;have j:(.P).bars=bs:=rfl;have k:(.P).stays=ss:=rfl;obtain⟨w,q⟩:=qq .P;rw[<-q]at W o i e j k g⊢;rw[j]at i;rw[k]at e;exact (.v<|sx .A0<|sx (aA<|.ay i)<|sx g<|aJ<|au (ak .tc<|ak (.ay o)<|.b8 .oI) m).trans (go3 _)
def GD(p:a σ h=.ok .aB h1)(q:h1[k]?=some .jy):yx a σ h=.as h1:=by
 show Res.bind _ _=_;rw[p,aE];dsimp[q]
def KR(b:32∉a)(c:.pm):eu 32 .iC=a::L:=fU .d λp d=>by
 rcases xB.mp d with e|e
 ·rw[e];exact b
 ·exact c p e
def Q7(b:a.length<=200)(c:.ly)(l:.pC):(.iC).length<=1000000:=by
 have d:=lU (sp:=32) (L:=a::L);have f:=oW λx g=>by
  rcases xB.mp g with e|e
  ·rw[e];exact b
  ·exact c x e
 dsimp[Z2]at d f;omega
section
variable{w:Web}{n:Nat}{s:.c}{h:Hd}{dk:Nat}
def DO{c:.i}(hd:.lA)(j:32∉c)(p:.pm)(m:c.length<=200)(l:.ly)(i:.pC)
  (v:∀(g:Hd) (k:Nat),g[k]?=some (.lst .kL)->gf .lk g=.ok fd g)
  (th:.uo) {o:Out} {rest:SF}
  (r:∀g:Hd,g=h++[.lst .kL,.lst .e5,.lst ths]->rest [some .iS,some (.str .to),some .A,some .kn] g=o) :
  (aw .Cj
  (aw .vN rest)) [some .iS,some (.str .to),none,none] h=o:=by
 have e:=Op (KR j p) (Q7 m l i) .S h;obtain⟨R,f⟩:=qq .to;obtain⟨a,b⟩:=qq (h++[.lst .kL]:Hd);rw[<-f,<-b]at e;rw[<-f]at r⊢;have d:a[h.length]?=some (.lst .kL):=by rw[b];simp
 have u:a[dk]?=some .h9:=by rw[b];exact .k hd
 have y:=v a h.length d;have q:dv .h (pAt .l) pNo [some .iS,some (.str R),some .A,none] a=.ok (.ref a.length) (a++[.lst .e5]):=o0 rfl (by rw[d,y6]);have t:=th (a++[.lst .e5]) a.length .d;have z:(a++[bJ.lst .k2]).length=h.length+2:=by rw[b];simp
 rw[z]at t;refine sx (aA .oI) (sx (aA<|au (ak (GD rfl u)<|bI (.ay y) q) t) ?_);exact r _ (by rw[b];simp)
def in3(p:a σ g=.ok (.str b) g)(n1:b≠[116,105,101])(n2:b≠[98,97,114])(n3:b≠[115,116,97,121]):(tE<|ag oIn a .qh) σ g=.ec g:=by
 refine aM (aj p (jr .bM) ?_);have f:∀k:List Nat,b≠k->(k == b)=false:=λk z=>beq_eq_false_iff_ne.mpr (XO z);show Res.ok (D.bl ((.fB:.i) == b||(.gQ == b||(.dL == b||false)))) g=_;rw[f _ n1,f _ n2,f _ n3];rfl
noncomputable abbrev inT:TF:=tE (ag oIn .id .qh)
def Bu{P:List Nat->Prop}(hd:.lA)(i:32∉a)(m:.pm)(l:a.length<=200)(j:.ly)(f:.pC)
  (n4:a≠[116,105,101]) (n2:a≠[98,97,114]) (n3:a≠[115,116,97,121])
  (q:.C5)
  (th:.uo)
  (c:∀(g:Hd) (k:Nat),g[k]?=some (.lst ths)->∃x,P x/\lK [w.enc,.str a,.ref k] g=.ok .cd g) :
  ∃x,P x/\bO [.ref dk,.str .iC] h=.ok .cd h:=by
 obtain⟨x,p,c⟩:=c (h++[.lst .ir,.lst .e5,.lst ths]) (h.length+2) .d;refine⟨x,p,(bm (h':=h++[.lst .ir,.lst .e5,.lst ths]) rfl rfl (DO hd i m l j f q th λg b=>?_)).trans .hh⟩;rw[<-b]at c;obtain⟨R,r⟩:=qq .iC;rw[<-r];have o:g[h.length]?=some (.lst .ir):=by rw[b];simp
 have d:g[dk]?=some .h9:=by rw[b];exact .k hd
 have e:fAt .h .B [some .iS,some (.str R),some .A,some .kn] g=.ok (.str a) g:=aR rfl rfl (aF o) .gO;rw[<-b];exact sx ((bU<|in3 e n4 n2 n3).trans rfl) (aJ<|au (ak (GD rfl d)<|bI e rfl) c)
end
section
variable{w:Web}{n:Nat}{s:.c}{h:Hd}{dk:Nat}
def Q8(w:Web):qe .h9=true:=by
 show fK .a3=true;dsimp[fK,oo,Bool.and_true]
def Ot{w':Web}(e:pure? d=true)(b:dk<h.length):letGo h (.as<|(.M).set dk .sx)=.as (h.set dk .sx):=by
 rw[zZx _ _ b];refine zi e .d λk c f a=>?_;rw[ZC (by simpa using f)]at a
 by_cases z:dk=k
 ·subst z
  rw[x4 b]at a;cases a;exact .inr (Q8 w')
 ·rw[ZP z]at a
  exact .inl a
def IV{x e:EF}{l:List D}(p:e σ g=.as g1)(q:x σ g1=.ok .iS g2)(r:g2[dk]?=some (.ob l))(ll:l.length<=1):B7 x e σ g=.cA (g2.set dk .jy):=by
 unfold B7;dsimp[p,q,outE,r]
 match l,ll with
 |[],_=>rfl
 |[_],_=>rfl
def Q9(d:1<=n)(e:n<=30)(O:.an)(a:T.Pairwise sR)(c:.uQ)(lb:.bo)(ls:.bv)(os:.bD)(bb:.eA)(hd:h[dk]?=some (.ob [])):
  d5 [.ref dk,.str .gI] h=.gn (h.set dk .mT):=by
 have r:=Q4 d e O a c lb ls os bb h;obtain⟨R,f⟩:=qq .gI;rw[<-f]at r⊢;exact(R9 rfl rfl<|IV (.ay r) rfl hd .d).trans Kl
def Bv{w':Web}(hd:.lA)(o:32∉a)(r:.pm)(q:a.length<=200)(p:.ly)(j:.pC)
  (n4:a=.fB\/a=.gQ\/a=.dL)
  (v:.C5)
  (th:.uo)
  (ch:∀(g:Hd) (k:Nat),g[k]?=some (.lst ths)->iZ [w.enc,.str a,.ref k] g=.ok w'.enc g) :
  bO [.ref dk,.str .iC] h=.ok (.str .he) (h.set dk .sx):=by
 have m:dk<h.length:=(.lh).1;refine(bm (d:=.str .he) (h':=(h++[bJ.lst .ir,bJ.lst .e5,bJ.lst ths]).set dk (.ob [w'.enc])) rfl rfl (DO hd o r q p j v th λg e=>?_)).trans (Ot rfl m);obtain⟨R,y⟩:=qq .iC;rw[<-y,<-e];have t:g[h.length]?=some (.lst .ir):=by rw[e];simp
 have u:g[h.length+2]?=some (.lst ths):=by rw[e];simp
 have c:g[dk]?=some .h9:=by rw[e];exact .k hd
 obtain⟨σ,b⟩:=qq ([some (.ref dk),some (.str R),some .a7,some (.ref<|h.length+2)]:Sd);rw[<-b];have f:aa 0 σ g=.ok (.ref dk) g:=by rw[b];rfl
 have l:aa 3 σ g=.ok .kn g:=by rw[b];rfl
 have i:fAt .h .B σ g=.ok (.str a) g:=aR (by rw[b];rfl) rfl (aF t) .gO;have z:inT σ g=.ee g:=aM (aj i (jr .bM) (by rcases n4 with rfl|rfl|rfl<;>rfl));exact gG ((fI z).trans (sx (IV (au (ak (GD f c)<|bI i l)<|ch g _ u) f c .d) .dU))
end
def W2(e:t σ h=.ee h'):sIf t a b σ h=a σ h':=by simp[sIf,e]
def Uy(e:t σ h=.ec h'):sIf t a b σ h=b σ h':=by simp[sIf,e]
def yc1(ns:.c)(k:Nat)(e:k<ns.length)(h:Hd):bV [.lit .cG,.int k] h=.ok (.int ns[k]) h:=by
 have a:=kG (f:=D.int) e;simp[bV,bE,runB,e,a]
def KS(e:(sml x||sml y)=true)(h:Hd):cZ (.int x) (.int y) h=.ok (.int<|x*y) h:=by
 dsimp[cZ,oIc,e,XH]
def yc2(ns:.c)(K:Int)(e:¬K<(ns.length:Int))(d:sml K=true)(h:Hd):bV [.lit .cG,.int K] h=.ok (.int<|71*K*K+7*K) h:=by
 have m1:∀h,cZ (.int 71) (.int K) h=.ok (.int<|71*K) h:=λh=>KS .tQ h;have m2:∀h,cZ (.int (71*K)) (.int K) h=.ok (.int<|71*K*K) h:=λh=>KS .tQ h;have m3:∀h,cZ (.int 7) (.int K) h=.ok (.int<|7*K) h:=λh=>KS .tQ h;generalize 71*K=a at m1 m2⊢;generalize a*K=b at m2⊢;generalize 7*K=c at m3⊢;simp[-cZ,bV,bE,runB,e,m1,m2,m3]
def zQ(ns:.c)(k:Nat)(a:k<=63):∃v,∀h,bV [.lit .cG,.int k] h=.ok .eu h:=by
 by_cases e:k<ns.length
 ·exact⟨_,yc1 ns k e⟩
 ·exact⟨_,yc2 ns k .a (vB .a .a)⟩
def Uz(c way base:Int)(m:Nat)(hm:m<=1000)(p:0<base)(Q:base<2^250)(h:Hd):∃l:List Int,fg [.int c,.int way,.int m,.int base] h=.ok .A .nK/\l.length=m/\∀x∈l,0<=x/\x<base:=by
 obtain⟨A,u⟩:=qq .i5;obtain⟨j,r⟩:=qq (if way%2=1 then c%2147483629*48271%2147483647 else c:Int)
 have T:way%2=1->0<=j/\j<4611686018427387904:=λe=>by
  rw[r,z4 e];exact⟨zYq _ .b,Int.lt_trans (zZm _ .b) .b⟩
 obtain⟨σ',K,G,l,z,y,Z,U,L,k5,k6⟩:=cP (P:=λi σ K=>∃(l:.c) (z:Int) (y:.G),σ=[some (.int c),some .ge,some (.int m),some (.int base),some .eE,some (.int z),y]/\K=h++[.lst .eX]/\l.length=i/\(∀x∈l,0<=x/\x<base)/\(way%2=1->0<=z/\z<4611686018427387904)) (g:=none) (k:=0)
   .bK
   (tg:=gN 6) (σ:=.qp) (h:=h++[.lst []]) (b:=wN) (by
   rintro i x σ d a ⟨l,z,y,rfl,o,w,H,R⟩;obtain⟨O,rfl⟩:=f7 a;rw[Z6]at w⊢;have t:d[A]?=some .jx:=by rw[o];exact eX u _
   have J:(.fK).length<SZ:=by rw[ZA,w];exact Z3 O (ZS hm .b)
   have B:∀v:Int,d.set A (.lst<|l.map .int++[.int v])=h++[.lst ((l++[v]).map .int)]:=λv=>by rw[o,iW u,ZR];rfl
   have I:∀q:Int,(0<=q%base/\q%base<base):=λq=>⟨zYq q (Int.ne_of_gt p),zZm q p⟩
   by_cases e:way%2=1
   ·have s:=R e
    have S:sml z=true:=vB s.1 s.2;have s9:sml 69621=true:=by decide
    have E:sml 11=true:=by decide
    obtain⟨f,n⟩:=qq ((z*z+69621*z+11*i+5)%2147483549);have N:0<=f:=by rw[n];exact zYq _ .b
    have c2:f<2147483549:=by rw[n];exact zZm _ .b
    refine⟨_,rfl,.vQ,_,?_,l++[f/7%base],f,_,rfl,rfl,by simp[w],λx a=>?_,λ_=>⟨N,Int.lt_trans c2 .b⟩⟩
    ·rw[<-B]
     have V:aG .cI .vg .jZ d=.nx .vQ d:=by
      rw[n];exact aA (aj (.cs<|aj (aj (.ah<|mH S) (.ah<|mH s9) rfl) (.ah<|mH E) rfl) rfl .dF)
     have F:tE .kl .jZ d=.ee d:=aM (aj .gK rfl<|AZ e);show sIf _ _ _ .jZ d=_;rw[W2 F,bR V];exact dW (ju rfl t (aj .h4 rfl<|c6 p) t J)
    ·rcases Z1.mp a with a|a
     ·exact H x a
     ·simp at a;subst a;exact I _
   ·refine⟨_,rfl,[some .cf,some .am,some (.int m),some .iq,some .bh,some (.int<|z/base),some .u],_,?_,l++[z%base],z/base,_,rfl,rfl,by simp[w],λx a=>?_,λq=>absurd q e⟩
    ·rw[<-B]
     have F:tE .kl .jZ d=.ec d:=aM (aj .gK rfl<|pT e);show sIf _ _ _ .jZ d=_;rw[Uy F];exact(bR<|dW<|ju rfl t (.ah<|c6 p) t J).trans (aA<|.ah<|jv p Q)
    ·rcases Z1.mp a with a|a
     ·exact H x a
     ·simp at a;subst a;exact I _) ⟨[],j,none,rfl,rfl,rfl,by simp,T⟩
 have e0:0+((.bV m).map λk:Nat=>D.int k).length=m:=by simp
 rw[e0]at L;refine⟨l,?_,L,k5⟩;have W:aG .cJ .aE .ws h=.nx .wi .W:=aA (vA u rfl .ey);have Y:aG .cI .e .wi .W=.nx .v8 .W:=rfl;have M:sIf (tE .kl) .vr bc .v8 .W=.nx .qp .W:=by
  have C:sml 48271=true:=by decide
  rw[r]
  by_cases e:way%2=1
  ·rw[z4 e];exact(fI<|aM<|aj .gK rfl<|AZ e).trans (aA<|aj (aj .gK rfl<|QJ C) rfl .dF)
  ·rw[y3 e];exact bU (aM<|aj .gK rfl<|pT e)
 have s4:fv (bZ .h) .bR wN .qp .W=.nx .v6 .nK:=by
  rw[Z,U]at G;exact eK (dJ rfl hm) G
 have X:aY .C .v6 .nK=.rt .bh .nK:=aJ rfl;have B:((.yh).map some++List.replicate (7 - (.yh).length) none:Sd)=.ws:=rfl;unfold fg bE runB;rw[z4 (by rfl),B,bR W,bR Y,bR M,bR s4,X,<-u];exact cL
/---/def gh(M:.ad)(n i:Nat):List Int:=(.t).map (M i)
/---/def iD(M:.ad)(a b:Nat)(v:Int):Nat->Nat->Int:=λi j=>if i=a/\j=b then v else M i j
structure jy(A n:Nat)(M:.ad)(h:Hd):Prop where
 ro:∀i,i<n->h[A+i]?=some (.lst<|(.g5).map .int)
 ti:h[A+n]?=some (.lst .gE)
structure MOk(M:.ad):Prop where
 sym:∀i j,M i j=M j i
 bd:∀i j,0<=M i j/\M i j<=400
 no:∀i,M i i=0
def Ou(M:.ad)(n a b:Nat)(v:Int)(i:Nat):gh (iD M a b v) n i=if i=a then (gh M n a).set b v else gh M n i:=by
 by_cases e:i=a
 ·subst e
  rw[z4 rfl];apply YX;intro j
  by_cases c:j<n
  ·by_cases d:j=b
   ·subst d
    rw[x4 (by simp[gh,c])];simp[gh,iD,c]
   ·rw[ZP .a]
    simp[gh,iD,c,d]
  ·rw[YD (by simp[gh];omega),YD (by simp[gh];omega)]
 ·rw[y3 e]
  apply YQ;intro j _;simp[iD,e]
variable{b:Nat}
theorem jy.put(m:jy A n M h)(d:a<n)(v:Int):jy A n (iD M a b v) (h.set (A+a)<|.lst<|(.rw).set b .eu) where
 ro:=λi c=>by
  rw[Ou]
  by_cases e:i=a
  ·subst e
   rw[z4 rfl,x4 (z0.mp<|m.ro i c).1,zXc]
  ·rw[y3 e,ZP (λz=>e (zZb z).symm)];exact m.ro i c
 ti:=by rw[ZP (λz=>ZN d (zZb z))];exact m.ti
def jy.more(m:jy A n M h)(g:Hd):jy A n M .M:=by
 have k:∀{i:Nat} {x:bJ},h[i]?=some x->.M[i]?=some x:=λ{i x} e=>by
  rw[ZC (.dS).1];exact e
 exact⟨λi a=>k (m.ro i a),k m.ti⟩
def jy.set(m:jy A n M h)(b:A+n<k)(c:bJ):jy A n M (h.set k c) :=
 ⟨λi a=>by rw[ZP .a];exact m.ro i a,by rw[ZP .a];exact m.ti⟩
theorem MOk.put(o:MOk M)(ne:a≠b)(h0:0<=v)(h1:v<=400):MOk (iD (iD M a b v) b a v) where
 sym:=λi j=>by
  dsimp[iD]
  by_cases q:i=b/\j=a
  ·rw[z4 q]
   by_cases r:j=b/\i=a
   ·rw[z4 r]
   ·rw[y3 r,z4 ⟨q.2,q.1⟩]
  ·rw[y3 q]
   by_cases p:i=a/\j=b
   ·rw[z4 p,z4 ⟨p.2,p.1⟩]
   ·rw[y3 p,y3 λz=>p ⟨z.2,z.1⟩,y3 λz=>q ⟨z.2,z.1⟩];exact o.sym i j
 bd:=λi j=>by
  dsimp[iD];split
  ·exact⟨h0,h1⟩
  ·split
   ·exact⟨h0,h1⟩
   ·exact o.bd i j
 no:=λi=>by
  dsimp[iD];rw[y3 λz=>ne (z.2.symm.trans z.1),y3 λz=>ne (z.1.symm.trans z.2)];exact o.no i
def W3{t:Int}(h:0<=t/\t<803):0<=.rv/\.rv<=400:=by split<;>omega
variable{j:Nat}
def GE(a:j<n):atI ((.g5).map D.int) (j:Int)=some .sy:=by
 rw[kG (by simp[gh,a])];simp[gh]
def DP{i:Nat}(hi:i<n):atI ((.t).map λi=>D.ref (A+i)) (i:Int)=some (.ref<|A+i):=by
 refine du ?_;simp[hi]
def Sf{f b a d c:.G}{r:Sd}(e:(sml O||sml N)=true)(h:Hd):.bx .ac .j .xi h=.ok (.int<|O*N) h:=by
 rw[show ag cZ .ac .j .xi h=cZ (.int O) (.int N) h from rfl];exact KS e h
variable{way:Int}
def q1{tk one i:Nat}{d:List D}{c b:.G}(f:E .vI h0=.ok (.int q) h0)(e:h0[tk]?=some (.lst d))(a:atI d (q+i)=some (.int t)):.c0 (Ag .B<|ag kN .AZ<|fC<|.int 402) .vI h0=.nx [some S0,some p1,some .am,some .x,c,some .bB,some .dN,some .u,some (.int .rv),none,none,none] h0:=by
 exact aA (Ui rfl<|aj (aR rfl (.cs f) (aF e) a) rfl rfl)
def q2{tk one i:Nat}{t y q d:Int}{b:List D}{c:.G}(g:E .vw h0=.ok (.int q) h0)(f:h0[tk]?=some (.lst b))(a:atI b (q+i)=some (.int t))(e:way/64%2=1)(h:atI [D.int 0,.int 0,.int 1,.int 1,.int 2,.int 3,.int 1] (t%7)=some .iR):sIf .mh (.c0<|fIx (ab .B<|ab .B<|ab .l<|ab .l<|ab .R<|ab .eg .fz)<|.aO .AZ .h0) bc .vw h0=.nx [some S0,some p1,some .am,some .x,c,some .bB,some .dN,some .u,some .iR,none,none,none] h0:=by
 exact(fI<|aM<|aj .ma rfl<|AZ e).trans (aA<|lH (ak rfl<|ak rfl<|.b7 .k0) (aj (aR rfl (.cs g) (aF f) a) rfl .dF) h)
def q3{tk one i:Nat}{c:.G}(e:¬way/64%2=1):sIf .mh B bc .vz h0=.nx .vz h0:=by
 exact bU (aM<|aj .ma rfl<|pT e)
def Ra{j:.c}(h1:one<n)(V:n<=30)(tl:j.length=n*n)(tb:∀x∈j,0<=x/\x<803)(N:A+n<tk){M:.ad}(O:MOk M)(m:jy A n M h)(ht:h[tk]?=some .uW){S0 p1:D}{a b:.G}{L:Nat}(hL:h.length=L):
  ∃l h' B C,gu none ((.bV one).map λk:Nat=>D.int k) (gN 7) pZ ((.bV one).map λk:Nat=>D.int k) [some S0,some p1,some .am,some .x,some .gN,some .bB,some .dN,a,b,none,none,none] h
   = .nx [some S0,some p1,some .am,some .x,some .gN,some .bB,some .dN,B,C,none,none,none] h'/\MOk l/\jy A n l h'/\h'[tk]?=some .uW/\h'.length=L:=by
 obtain⟨σ',h',R,l,B,C,Y,T,k4,k5,k6⟩:=cP (P:=λi σ h'=>∃(l:.ad) (a b:.G),σ=[some S0,some p1,some .ge,some .aV,some .pW,some .jA,some (.int one),a,b,none,none,none]/\MOk l/\jy A n l h'/\h'[tk]?=some .uW/\h'.length=L) (g:=none) (k:=0)
   .bK
   (tg:=gN 7) (σ:=[some S0,some p1,some .am,some .x,some (.ref<|A + n),some .bB,some .dN,a,b,none,none,none]) (h:=h) (b:=pZ) (by
   rintro i x σ d hx ⟨M1,a,b,rfl,O1,m1,w,U⟩;obtain⟨G,rfl⟩:=f7 hx;have c:i<n:=Z3 G h1;have lt:one*n+i<j.length:=by
    rw[tl];exact Z0 (zXh c _) (by rw[<-Nat.succ_mul];exact Nat.mul_le_mul_right n h1)
   have p:atI (j.map D.int) ((one:Int)*n+i)=some (.int j[one*n+i]):=by
    have:=kG (f:=D.int) lt;rw[show (one:Int)*n+i=((one*n+i:Nat):Int) by rw[Int.natCast_add,Int.natCast_mul]];exact this
   have q:=tb _ (YM lt);generalize j[one*n+i]=t at p q;have F:sml (n:Int)=true:=vB (zZl n) (Int.lt_of_le_of_lt (zXb.mpr V) .b);obtain⟨o,r⟩:=qq (if t-402>0 then t-402 else 0:Int)
   have u:0<=o/\o<=400:=by rw[r];exact W3 q
   have W:.c0 .v0 .vy d=.nx [some S0,some p1,some .am,some .x,some .gN,some .bB,some .dN,some .u,some (.int o),none,none,none] d:=by
    rw[r];exact q1 (E:=.bx .ac .j) .CQ w p
   obtain⟨v,I,X⟩:∃v:Int,(0<=v/\v<=400)/\sIf .mh .ve bc [some S0,some p1,some .ge,some .aV,some .pW,some .jA,some (.int one),some .dp,some (.int o),none,none,none] d=.nx [some S0,some p1,some .ge,some .aV,some .pW,some .jA,some (.int one),some .dp,some (.int v),none,none,none] d:=by
    by_cases e:way/64%2=1
    ·obtain⟨y,J,H⟩:=VM D.int [0,0,1,1,2,3,1] (x:=t%7) (zYq t .b) (zZm t .b)
     dsimp[y6,X3]at H;refine⟨y,by simp at J;rcases J with rfl|rfl|rfl|rfl|rfl<;>decide,?_⟩;exact q2 (E:=.bx .ac .j) .CQ w p e H
    ·refine⟨o,u,?_⟩
     exact q3 e
   have K:∀(M:.ad) (i:Nat),(.g5).length=n:=λM i=>by simp[gh]
   have ne:one≠i:=YA G;have m2:=m1.put (b:=i) h1 v;have m3:=m2.put (b:=one) c v;have s:=m1.ro one h1;have z:=m2.ro i c;have a1:=DP (A:=A) h1;have S:=DP (A:=A) c;have Q:jm .kG .a0 .cN .jX d=.nx .jX .qF:=by
    exact kY rfl (.bc (aF m1.ti) a1) rfl s (vD (by rw[ZA,K];exact c))
   have Z:jm (fAt .C .a0) .ac .cN .jX .qF=.nx .jX ((.qF).set (A+i) (.lst<|((gh (iD M1 one i v) n i).map .int).set one .eu)):=by
    exact kY rfl (.bc (aF m2.ti) S) rfl z (vD (by rw[ZA,K];exact h1))
   refine⟨_,rfl,.jX,_,?_,iD (iD M1 one i v) i one v,_,_,rfl,O1.put ne I.1 I.2,m3,?_,by simp[U]⟩
   ·show aw _ _ .vy d=_
    rw[bR W,bR X,bR Q,Z]
   ·exact(ZP<|ZN<|Z3 (zXh c A) N).trans ((ZP<|ZN<|Z3 (zXh h1 A) N).trans w)) ⟨M,a,b,rfl,O,m,ht,hL⟩
 exact⟨l,h',B,C,by rw[R,Y],T,k4,k5,k6⟩
def Rb{e:.c}(j:n<=30)(G:e.length=n*n)(tb:∀x∈e,0<=x/\x<803)(E:A+n<tk){M:.ad}(O:MOk M)(m:jy A n M h)(ht:h[tk]?=some (.lst<|e.map .int)){S0 p1:D}{L:Nat}(y:h.length=L):
  ∃d h' c a b,gu none ((.t).map λk:Nat=>D.int k) .bR mL ((.t).map λk:Nat=>D.int k) [some S0,some p1,some .am,some .x,some .gN,some .bB,none,none,none,none,none,none] h
   = .nx [some S0,some p1,some .am,some .x,some .gN,some .bB,c,a,b,none,none,none] h'/\MOk d/\jy A n d h'/\h'.length=L:=by
 obtain⟨σ',h',l,d,w,z,B,v,r,I,N,C⟩:=cP (P:=λi σ h'=>∃(d:.ad) (c a b:.G),σ=[some S0,some p1,some .ge,some .aV,some .pW,some .jA,c,a,b,none,none,none]/\MOk d/\jy A n d h'/\h'[tk]?=some (.lst<|e.map .int)/\h'.length=L) (g:=none) (k:=0)
   .bK
   (tg:=gN 6) (h:=h) (b:=mL) (by
   rintro i x σ K J ⟨M1,c,a,b,rfl,O1,m1,u,t⟩;obtain⟨f,rfl⟩:=f7 J;obtain⟨M2,s,p,o,q,O2,m2,F,H⟩:=Ra f j G tb E O1 m1 u (S0:=S0) (p1:=p1) (way:=way) (a:=a) (b:=b) t;refine⟨_,rfl,_,s,?_,M2,some .dp,p,o,rfl,O2,m2,F,H⟩;exact eK (dJ rfl<|ZM (XF f)<|oh j) q) ⟨M,none,none,none,rfl,O,m,ht,y⟩
 exact⟨d,h',w,z,B,by rw[l,v],r,I,C⟩
structure Mdl(ns:.c)(mo:Int)(n:Nat)(M:.ad)(bs:.c)(ss:.Q)(bk sk:Nat)(h:Hd):Prop where
 run:lI [.lit .cG,.int mo] []=.ok (.tup .zZ) h
 n1:1<=n
 n30:n<=30
 nmo:(n:Int)<=mo
 bkn:n<bk
 skn:bk<sk
 mt:jy 0 n M h
 mo:MOk M
 ba:h[bk]?=some .b5
 st:h[sk]?=some .dg
 lb:bs.length=n
 ls:ss.length=n
 os:∀x∈ss,x=none\/x=some 0\/x=some 1
 bb:∀x∈bs,-20000<=x/\x<=20000
def DQ{d:Int}(hi:σ[i]?=some (some .am))(b:0<d)(a:d<2^250):tE (.bH (.aO (ag iJ (aa i)<|fC<|.int d) .R) .l) σ h=.ok (decide (way/d%2=1)) h:=by
 have v:aa i σ h=.ok .am h:=by dsimp[aa,slot,hi]
 exact aM (aj (aj (aj v rfl<|jv b a) rfl .dF) rfl qH)
def UA(x:Int):x%2=0\/x%2=1:=Int.emod_two_eq x
def lv1(h:0<=x/\x<2001): -20000<=x-1000/\x-1000<=20000:=by omega
def lv2(h:0<=x/\x<=12000): -20000<=x+y%7-3/\x+y%7-3<=20000:=by omega
def lv3(h:0<=x/\x<=12000): -20000<=x/\x<=20000:=by omega
def Ov{A lk tk:Nat}{f:.c}(hn:n<=30)(X:f.length=n)(ne:lk≠tk){bs:.c}(lb:.bo)(U:∀x∈f,0<=x/\x<2001)(bb:∀x∈bs,0<=x/\x<=12000)(I:h[lk]?=some .b5)(ht:h[tk]?=some (.lst<|f.map .int)){S0 p1 q4 q5:D}{a b c:.G}:
  ∃(d:.c) (v:.G),gu none ((.t).map λk:Nat=>D.int k) .bR j6 ((.t).map λk:Nat=>D.int k) [some S0,some p1,some .am,some .x,some q4,some q5,c,a,b,some .cC,some .bB,none] h
   = .nx [some S0,some p1,some .am,some .x,some q4,some q5,v,a,b,some .cC,some .bB,none] (h.set lk<|.lst<|d.map .int)/\d.length=n/\∀x∈d,-20000<=x/\x<=20000:=by
 have w:lk<h.length:=(z0.mp I).1;obtain⟨σ',J,M,d,v,Q,N,k4,Z⟩:=cP (P:=λi σ J=>∃(d:.c) (v:.G),σ=[some S0,some p1,some .ge,some .aV,some q4,some q5,v,a,b,some .hD,some .jA,none]/\J=h.set lk (.lst<|d.map .int)/\d.length=n/\∀(j:Nat) x,d[j]?=some x->(-20000<=x/\x<=20000)/\(i<=j->0<=x/\x<=12000)) (g:=none)
   .bK
   (tg:=gN 6) (h:=h) (b:=j6) (by
   rintro i x σ C R ⟨l,c1,rfl,r,K,p⟩;rw[Z6]at p⊢;obtain⟨H,rfl⟩:=f7 R;have B:C[lk]?=some .jx:=by rw[r,x4 w]
   have E:C[tk]?=some (.lst<|f.map .int):=by rw[r,ZP ne];exact ht
   have m:i<l.length:=K▸H;have F:atI .fK (i:Int)=some (.int l[i]):=kG m;have t:atI (f.map D.int) (i:Int)=some (.int f[i]):=kG (X▸H);have u:=(p i l[i] (by simp[m])).2 .o;have s:=U f[i] (YM _);generalize l[i]=W at F u;generalize f[i]=G at t s;have V:=UA (way/256);have L:ixN (.fK).length (i:Int)=some i:=vD (by rw[ZA];exact m);obtain⟨y,T,O⟩:∃y:Int,(-20000<=y/\y<=20000)/\j6 .vj C=.nx .vj (C.set lk<|.lst<|(.eX).set i (.int y)):=by
    rcases V with e|e
    ·exact⟨G-1000,lv1 s,.vb⟩
    ·exact⟨W+G%7-3,lv2 u,.vb⟩
   refine⟨_,rfl,_,_,O,l.set i y,some .u,rfl,?_,by simp[K],λj z o=>?_⟩
   ·rw[r,List.set_set,zXc]
   ·by_cases e:i=j
    ·subst e
     rw[x4 m]at o;cases o;exact⟨T,λq=>absurd q (Nat.not_succ_le_self _)⟩
    ·rw[ZP e]at o
     have q:=p j z o;exact⟨q.1,λY=>q.2 (Nat.le_of_succ_le Y)⟩) ⟨bs,c,rfl,by
    apply YX;intro j
    by_cases e:lk=j
    ·subst e;rw[x4 w];exact I
    ·rw[ZP e],lb,λj z o=>by
     have q:=bb z (ZK o);exact⟨lv3 q,λ_=>q⟩⟩
 exact⟨d,v,by rw[M,Q,N],k4,λz o=>by
  obtain⟨j,S⟩:=zYu o;exact(Z j z S).1⟩
theorem IW(v:D):∀n,(.cr n [v]).flatten=List.replicate n v
 |0=>rfl
 |n+1=>by rw[XE,XE,wh,IW v n];rfl
def KU{l:.c}(m:∀x∈l,0<=x/\x<7)(j:h[k]?=some .jx)(a:.G):∃ss:List .gt,cz .dj .eX .K [] (fIx .qb .e) .eX [a] h=.ok .aj h/\ss.length=l.length/\∀x∈ss,x=none\/x=some 0\/x=some 1:=by
 have:=bB (g:=some k) (tg:=gN 0) (cs:=[]) (e:=fIx .qb .e) (I:=λσ=>∃a,σ=[a]) .bb (λd=>match d with | .int x=>bj (if x=0 then some 0 else if x=1 then some 1 else none)|_=>.non) j
  (xs:=l.map .int) (σ:=[a]) (by
   rintro x f σ ⟨c,rfl⟩;obtain⟨u,i,rfl⟩:=z5.mp f;have b:=m u i;refine⟨_,rfl,⟨_,rfl⟩,rfl,λ_=>?_⟩;obtain⟨u,rfl⟩:=Int.eq_ofNat_of_zero_le b.1
   match u,Int.ofNat_lt.mp b.2 with
   |0,_|1,_|2,_|3,_|4,_|5,_|6,_=>rfl
   |k+7,z=>exact .ed (zZf.mpr<|Nat.le_add_left 7 k)) ⟨_,rfl⟩
 refine⟨l.map λx=>if x=0 then some 0 else if x=1 then some 1 else none,?_,by simp,λx f=>?_⟩
 ·rw[this,Z5.mpr .d,ZY,ZY];rfl
 ·obtain⟨u,_,rfl⟩:=z5.mp f
  split
  ·exact .inr .a8
  ·split
   ·exact .inr .dn
   ·exact .inl rfl
def VU{c b a:.G}{r:Sd}(e:(sml N||sml N)=true)(h:Hd):.bx .j .j .Ar h=.ok (.int<|N*N) h:=by
 rw[show ag cZ .j .j .Ar h=cZ (.int N) (.int N) h from rfl];exact KS e h
def UB{b e:D}(c:bV [S0,.int 1] a=.ok (.int f) a)(h:E .vU a=.ok (.int q) a)(q4:fg [.int f,.int way,.int q,.int 803] a=.ok .aB g):
  aG .cI (av fg<|ab (av bV<|.cz .fz)<|ab .h<|ab E<|ab (fC<|.int 803) ar) .vU a=.nx [some S0,some d,some .am,some b,some e,some .aB,none,none,none,none,none,none] g:=by
 exact aA (au (ak (.ab c)<|.b7<|ak h .bz) q4)
def Sg(a:n<=30){b:EF}(c:b σ h=.eM h):aW (vT (ab (fC v) ar) b) σ h=.ok .A (h++[.lst (.cr n v)]) :=
 bF (by rw[Ug rfl c ⟨zZl n,zXt (zXb.mpr a) .b,by rw[zZu];exact ZM (zYx<|Nat.one_mul n) (oh a)⟩,zZu,IW]) (by rw[zZn];exact oh a)
def UC(way:Int)(h0:0<mo)(h1:mo<=17):∃n:Nat,(n:Int)=1+way/2%mo/\1<=n/\n<=30/\(n:Int)<=mo:=by
 have a:=zYq (way/2) (Int.ne_of_gt h0);have b:=zZm (way/2) h0;generalize way/2%mo=x at a b;obtain⟨k,rfl⟩:=Int.eq_ofNat_of_zero_le a;exact⟨1+k,rfl,X0 1 k,by omega,by have b:(k:Int)<mo:=b;omega⟩
theorem Sh:∀l:List Int,(∀y∈l,0<=y/\y<=400)->0<=l.sum/\l.sum<=400*l.length
 |[],_=>⟨zZw _,zZw _⟩
 |y::l,h=>by
  have a:=h y ZV;have b:=Sh l λz c=>h z (ZW _ c);rw[X2,Z2];omega
def W4(a:n<=30)(h:0<=x/\x<=400*n):0<=x/\x<=12000:=⟨h.1,zXt h.2 (Int.mul_le_mul_of_nonneg_left (zXb.mpr a) .b)⟩
noncomputable abbrev XM(S0:D)(mo way:Int)(n:Nat)(a5 a6 a7 a8 a9 a10 a11:.G):Sd:=[some S0,some (.int mo),some .am,some .x,some (.ref<|0+n),a5,a6,a7,a8,a9,a10,a11]
def Ow(ns:.c){mo:Int}(h0:0<mo)(a8:mo<=17):∃n M bs ss bk N h,Mdl ns mo n M bs ss bk N h:=by
 obtain⟨way,F⟩:=zQ ns 0 .b;obtain⟨c1,a0⟩:=zQ ns 1 .b;obtain⟨c2,Y⟩:=zQ ns 2 .b;obtain⟨c3,W⟩:=zQ ns 3 .b;obtain⟨S0,w⟩:=qq (.lit .cG:D);have F:∀h,bV [S0,.int 0] h=.ok .ge h:=by rw[w];exact F
 have a0:∀h,bV [S0,.int 1] h=.ok (.int c1) h:=by rw[w];exact a0
 have Y:∀h,bV [S0,.int 2] h=.ok (.int c2) h:=by rw[w];exact Y
 have W:∀h,bV [S0,.int 3] h=.ok (.int c3) h:=by rw[w];exact W
 obtain⟨n,hn,n1,f,b0⟩:=UC way h0 a8;have e0:.dy (av bV .t7) .vV []=.nx .vF []:=aA (.ab<|F _);have e1:aG .aI .yb .vF []=.nx [some S0,some (.int mo),some .ge,some .aV,none,none,none,none,none,none,none,none] []:=by rw[hn];exact aA (aj rfl (aj .h4 rfl<|c6 h0) rfl)
 obtain⟨ds,h2,k2,l2,v2,c4,q2,K,g2⟩:=mG (g:=none) (tg:=gN 0) (k:=0)
  (e:=aW (vT .kB .f)) (σ:=[none,some .x]) (h:=[])
  (P:=λi σ h=>(∃a,σ = [a,some .x])/\h.length=i/\∀j,j < i->h[j]? = some (.lst .zu)) (V:=λi d=>d=.ref i) .bK (by
   rintro i x σ h0 H ⟨⟨a,rfl⟩,hl,e1⟩;obtain⟨hi,rfl⟩:=f7 H;rw[Z6]at hl e1⊢;refine⟨_,rfl,.ref h0.length,h0++[.lst .zu],?_,by rw[hl],⟨_,rfl⟩,by simp[hl],λj hj=>?_⟩
   ·rw[List.map_replicate];exact Sg f rfl
   ·by_cases hji:j<i
    ·exact .k (e1 j hji)
    ·have:j=i:=Nat.le_antisymm (X6 hj) (zZf.mp hji)
     subst this;rw[<-hl];exact ZG) ⟨⟨_,rfl⟩,rfl,λj hj=>absurd hj (UO _)⟩
 simp at l2 K g2;have a9:ds=(.t).map λi=>.ref (0+i):=wG l2 λi d hd=>by simpa using v2 i d hd
 subst a9;obtain⟨B,S⟩:=qq (h2++[bJ.lst .rU]);have l3:B.length=n+1:=by rw[S];simp[K]
 have e2:aG .cJ .wX [some S0,some (.int mo),some .am,some .x,none,none,none,none,none,none,none,none] []=.nx .w1 B:=by
  rw[S];show _=Out.nx [some S0,some (.int mo),some .am,some .x,some (.ref<|0+n),none,none,none,none,none,none,none] _;rw[show D.ref (0+n)=.ref h2.length by rw[K,Z6]];exact aA (bF (ce .tF k2) (by rw[ZA,ZO];exact(oh f)))
 have m3:jy 0 n (λ_ _=>0) B:=by
  refine⟨λi hi=>?_,?_⟩
  ·rw[S,Z6,.k (g2 i hi)]
   congr 2;dsimp[gh,ZY];apply YX;intro j
   by_cases hj:j<n<;>simp[hj]
  ·rw[S,Z6,<-K];exact ZG
 have O3:MOk (λ_ _=>0):=⟨λ_ _=>rfl,λ_ _=>⟨zZw _,by decide⟩,λ_=>rfl⟩;obtain⟨td,q4,tl,tb⟩:=Uz c1 way 803 (n*n) (ZM (Nat.mul_le_mul f f) .b) .b .b B;obtain⟨Z,R⟩:=qq (B++[bJ.lst (td.map .int)]);rw[<-R,l3]at q4;have sn:sml (n:Int)=true:=vB (zZl n) (Int.lt_of_le_of_lt (zXb.mpr f) .b);have e3:aG .cI .vx .w1 B=.nx .w2 Z:=by
  have b2:fg [.int c1,.int way,.int ((n:Int)*n),.int 803] B=.ok (.ref<|n+1) Z:=by rw[<-Int.natCast_mul];exact q4
  exact UB (E:=.bx .j .j) (a0 B) (VU (by rw[sn,Bool.or_self]) B) b2
 have m4:jy 0 n (λ_ _=>0) Z:=by rw[R];exact m3.more _
 have t4:Z[n+1]?=some (.lst<|td.map .int):=by rw[R,<-l3];exact ZG
 obtain⟨M,h5,J,q,p,q5,O5,m5,l5⟩:=Rb (A:=0) (tk:=n+1) (way:=way) f tl tb .a O3 m4 t4 (S0:=S0) (p1:=.int mo) (L:=n+2) (by rw[R];simp[l3]);have e4:fv (bZ .j) .bR mL .w2 Z=.nx .xU h5:=eK .tF q5;have cs:cz (some<|0+n) .rU .K [] (vL<|lOf .e) .rU .ax h5=.ok ((.BN).map D.int) h5:=by
  have:=bB (g:=some (0 + n)) (all:=(.t).map λi=>.ref (0 + i)) (tg:=gN 0) (cs:=[]) (e:=vL (lOf .e)) (h:=h5) (I:=λσ=>∃a,σ = [a]) .bb (λd=>match d with | .ref k=>.int (gh M n k).sum|_=>.non) m5.ti (xs:=(.t).map λi=>.ref (0 + i)) (σ:=.ax) (by
   rintro x H σ ⟨a,rfl⟩;obtain⟨i,hi,rfl⟩:=z5.mp H;have hi:=YU.mp hi;have r:=m5.ro i hi;dsimp[Z6]at r⊢;refine⟨_,rfl,⟨_,rfl⟩,rfl,λ_=>?_⟩;exact FT (.aR<|aF r) (sC _)) ⟨_,rfl⟩
  rw[this,Z5.mpr .d,ZY,ZY];refine congrArg (λl=>Res.ok l h5) ?_;apply YQ;intro i _;simp
 obtain⟨t,z⟩:=qq .BN;rw[<-z]at cs;have a1:t.length=n:=by rw[z];simp
 have a5:∀x∈t,0<=x/\x<=12000:=λx H=>by
  rw[z]at H;obtain⟨i,_,rfl⟩:=z5.mp H;have:=Sh .g5 λy hy=>by
   obtain⟨j,_,rfl⟩:=z5.mp hy;exact O5.bd i j
  have ll:(.g5).length=n:=by simp[gh]
  rw[ll]at this;exact W4 f this
 obtain⟨v,T⟩:=qq (h5++[bJ.lst (t.map .int)]);have l6:v.length=n+3:=by rw[T];simp[l5]
 have e5:aG (gN 9) .xq .xU h5=.nx .md v:=by
  rw[T,<-l5];exact aA (bF (ce (cy rfl m5.ti) cs) (by rw[ZA,a1];exact(oh f)))
 have m6:jy 0 n M v:=by rw[T];exact m5.more _
 have b6:v[n+2]?=some (.lst<|t.map .int):=by rw[T,<-l5];exact ZG
 have e6:∃(bs:.c) (m o:.G) (u:Hd),sIf .wy (aw (aG (gN 10) .qn)
  .CF) bc .md v=.nx .ye u/\jy 0 n M u/\u[n+2]?=some .b5/\bs.length=n/\n+3<=u.length/\∀x∈bs,-20000<=x/\x<=20000:=by
  have Q:=DQ (way:=way) (d:=128) (σ:=.md) (h:=v) (i:=2) rfl .b .b
  by_cases e:way/128%2=1
  ·rw[x3 e]at Q
   obtain⟨X,q7,sl,sb⟩:=Uz c2 way 2001 n (oh f) .b .b v;rw[l6]at q7;have t1:aG (gN 10) .qn .md v=.nx (XM S0 mo way n .hW J q p .gv (some<|.ref<|n+3) none) (v++[.lst (X.map .int)]):=by
    exact aA (au (ak (.ab<|Y _) .bM) q7)
   obtain⟨a3,c',q8,a7,b4⟩:=Ov (A:=0) (lk:=n+2) (tk:=n+3) (way:=way) f sl (ZN<|Z9 _) (h:=v++[.lst (X.map .int)]) a1 sb a5 (.k b6) (by rw[<-l6];exact ZG) (S0:=S0) (p1:=.int mo) (q4:=.ref (0+n)) (q5:=.ref (n+1)) (a:=q) (b:=p) (c:=J);refine⟨a3,c',some (.ref<|n+3),_,?_,(m6.more [.lst (X.map .int)]).set (k:=n+2) .a (.lst<|a3.map .int),?_,a7,by simp[l6],b4⟩
   ·exact(fI Q).trans ((bR t1).trans (eK .tF q8))
   ·rw[x4 (by simp[l6])]
  ·rw[xC e]at Q
   exact⟨t,J,none,v,by rw[Uy Q];rfl,m6,b6,a1,zYx l6.symm,λx H=>lv3 (a5 x H)⟩
 obtain⟨bs,m,o,u,e6,m7,b7,b1,l7,a6⟩:=e6;obtain⟨s,G⟩:=qq (u++[bJ.lst .xC]);have e7:.jU .AM .ye u=.nx .l7 s:=by
  rw[G,List.map_replicate];exact aA (Sg f rfl)
 have m8:jy 0 n M s:=by rw[G];exact m7.more _
 have b8:s[n+2]?=some .b5:=by rw[G];exact .k b7
 have s8:s[u.length]?=some (.lst .xC):=by rw[G];simp
 have e8:∃(ss:.Q) (x5:D) (N:Nat) (U:Hd),sIf .wx (aw (.bd .qk)
  (.jU .qT)) bc .l7 s=.nx .wK U/\jy 0 n M U/\U[n+2]?=some .b5/\U[N]?=some .dg/\ss.length=n/\(∀x∈ss,x=none\/x=some 0\/x=some 1)/\n+2<N:=by
  have Q:=DQ (way:=way) (d:=512) (σ:=.l7) (h:=s) (i:=2) rfl .b .b
  by_cases e:way/512%2=1
  ·rw[x3 e]at Q
   obtain⟨a4,q9,sl,sb⟩:=Uz c3 way 7 n (oh f) .b .b s;obtain⟨O,C⟩:=qq (s++[bJ.lst (a4.map .int)]);rw[<-C]at q9;have g9:O[s.length]?=some (.lst<|a4.map .int):=by rw[C];simp
   obtain⟨ss,cq,a2,b5⟩:=KU sb g9 none;have t1:aG .cI .qk .l7 s=.nx .vT O:=by
    exact aA (au (ak (.ab<|W _) .bM) q9)
   have t2:.jU .qT .vT O=.nx (XM S0 mo way n (some<|.ref s.length) m q p .gv o<|some<|.ref O.length) (O++[.lst .aj]):=by
    exact aA (bF (ce (cy rfl g9) cq) (by rw[ZA,a2,sl];exact(oh f)))
   refine⟨ss,.ref s.length,O.length,O++[.lst .aj],?_,by rw[C];exact(m8.more _).more _,?_,by simp,a2.trans sl,b5,by rw[C,G];simp;omega⟩
   ·exact(fI Q).trans ((bR t1).trans t2)
   ·exact .k (by rw[C];exact .k b8)
  ·rw[xC e]at Q
   exact⟨List.replicate n none,.ref (n+1),u.length,s,by rw[Uy Q];rfl,m8,b8,s8,by simp,λx H=>.inl (List.eq_of_mem_replicate H),by omega⟩
 obtain⟨ss,x5,N,U,e8,m9,b9,s9,b3,c0,k9⟩:=e8;have e9:aY .xQ .wK U=.rt (.tup [.ref (0+n),.ref (n+2),.ref N]) U:=aJ (jr .bM);refine⟨n,M,bs,ss,n+2,N,U,?_,n1,f,b0,by omega,k9,m9,O5,b9,s9,b1,b3,c0,a6⟩;have st:([S0,D.int mo].map some++List.replicate (12 - [S0,D.int mo].length) none:Sd)=.vV:=rfl;rw[<-w];unfold lI bE runB;rw[z4 (by rfl),st,bR e0,bR e1,bR e2,bR e3,bR e4,bR e5,bR e6,bR e7,bR e8,e9];exact lG rfl
/---/def p8(one other i j:Nat):Prop:=(i<one/\j<one)\/(i=one/\j<other)\/(j=one/\i<other)
instance(one other i j:Nat):Decidable (p8 one other i j):=by unfold p8;infer_instance
/---/def iI(M:.ad)(s:.c)(one other i j:Nat):Int:=if p8 one other i j/\s.getD j 0=1 then M i j else 0
structure LP(n:Nat)(M:.ad)(one other:Nat)(T:.V):Prop where
 ok:TOk n one other T
 pl:∀i,i<n->∀s,bX .bn s=gy (iI M s one other i) n
def pa1(a b c:Int):a+(b+c)=a+b+c:=(Int.add_assoc a b c).symm
def GG(r a:.a6)(s:.c):bX (r++a) s=bX r s+bX a s:=by
 induction r with
 |nil=>simp[bX,gS]
 |cons p r b=>rw[zYf,hJ,hJ,b];exact pa1 _ _ _
def sr1(S x y:Int):S+0+x=S+y+(x-y):=by omega
theorem vG{p:Nat}(h:∀j,j≠p->f j=g j):∀n,gy f n=gy g n+if p<n then f p-g p else 0
 |0=>by simp[gy]
 |n+1=>by
  rw[gy,gy,vG h n]
  by_cases e:n=p
  ·subst e
   rw[y3 (YF _),z4 (Z9 _)];exact sr1 _ _ _
  ·rw[h n e]
   by_cases l:p<n
   ·rw[z4 l,z4 (ZZ l)];exact Int.add_right_comm _ _ _
   ·rw[y3 l,y3 λz=>(xn.mp z).elim l λz=>e z.symm,Int.add_zero,Int.add_zero]
theorem kg:∀n,(∀j,j<n->f j=g j)->gy f n=gy g n
 |0,_=>rfl
 |n+1,h=>by rw[gy,gy,kg n λj a=>h j .a,h n .a]
def KW:p8 one .fX i j↔p8 one other i j\/(i=one/\j=other)\/(j=one/\i=other):=by
 constructor
 ·rintro (h|⟨a,b⟩|⟨a,b⟩)
  ·exact .inl (.inl h)
  ·exact(xn.mp b).elim (λb=>.inl (.inr<|.inl ⟨a,b⟩)) λb=>.inr (.inl ⟨a,b⟩)
  ·exact(xn.mp b).elim (λb=>.inl (.inr<|.inr ⟨a,b⟩)) λb=>.inr (.inr ⟨a,b⟩)
 ·rintro ((h|⟨a,b⟩|⟨a,b⟩)|⟨a,b⟩|⟨a,b⟩)
  ·exact .inl h
  ·exact .inr (.inl ⟨a,ZZ b⟩)
  ·exact .inr (.inr ⟨a,ZZ b⟩)
  ·exact .inr (.inl ⟨a,b▸Z9 _⟩)
  ·exact .inr (.inr ⟨a,b▸Z9 _⟩)
def sU(h1:¬(i=one/\j=other))(a:¬(j=one/\i=other)):p8 one .fX i j↔p8 one other i j :=
 KW.trans ⟨λz=>z.elim id λz=>z.elim (λz=>.ed h1) λz=>.ed a,.inl⟩
def IX(a:other<one):¬p8 one other one other/\¬p8 one other other one:=by
 refine⟨?_,?_⟩
 ·rintro (h|h|h)
  ·exact YF _ h.1
  ·exact YF _ h.2
  ·exact YF _ (h.1▸a)
 ·rintro (h|h|h)
  ·exact YF _ h.2
  ·exact YF _ (h.1▸a)
  ·exact YF _ h.2
def KY(e:¬(i=one/\j=one)):p8 one one i j↔p8 (one+1) 0 i j:=by
 constructor
 ·rintro (h|h|h)
  ·exact .inl ⟨ZZ h.1,ZZ h.2⟩
  ·exact .inl ⟨h.1▸Z9 _,ZZ h.2⟩
  ·exact .inl ⟨ZZ h.2,h.1▸Z9 _⟩
 ·rintro (⟨a,b⟩|h|h)
  ·rcases xn.mp a with a|a<;>rcases xn.mp b with b|b
   ·exact .inl ⟨a,b⟩
   ·exact .inr (.inr ⟨b,a⟩)
   ·exact .inr (.inl ⟨a,b⟩)
   ·exact absurd ⟨a,b⟩ e
  ·exact absurd h.2 (UO _)
  ·exact absurd h.2 (UO _)
def zR(O:MOk M)(b:other<one)(h:one<n)(i:Nat)(s:.c):
  gy (iI M s one .fX i) n=gy (iI M s one other i) n+(if i=one then (if s.getD other 0=1 then M one other else 0) else if i=other then (if s.getD one 0=1 then M one other else 0) else 0):=by
 by_cases a:i=one
 ·subst a
  rw[z4 rfl,vG (g:=iI M s i other i) (λj d=>?_),z4 (Z3 b h)]
  ·have e:p8 i .fX i other:=.inr (.inl ⟨rfl,Z9 _⟩)
   have c:=(IX b).1;dsimp[iI,e,c,true_and,false_and,XZ,Int.sub_zero]
  ·have:=sU (one:=i) (λz=>d z.2) λz=>YA b z.2
   dsimp[iI,this]
 ·rw[y3 a]
  by_cases f:i=other
  ·subst f
   rw[z4 rfl,vG (g:=iI M s one i i) (λj d=>?_),z4 h]
   ·have e:p8 one (i+1) i one:=.inr (.inr ⟨rfl,Z9 _⟩)
    have c:=(IX b).2;dsimp[iI,e,c,true_and,false_and,XZ,O.sym i one,Int.sub_zero]
   ·have:=sU (i:=i) (other:=i) (λz=>a z.1) λz=>d z.1
    dsimp[iI,this]
  ·rw[y3 f,kg n (g:=iI M s one other i) λj _=>?_]
   ·exact(Int.add_zero _).symm
   ·have:=sU (i:=i) (j:=j) (λz=>a z.1) λz=>f z.2
    dsimp[iI,this]
def LP.skip(O:MOk M)(L:LP n M one other T)(a:other<one)(b:one<n)(z:M one other=0):LP n M one .fX T :=
 ⟨L.ok.skip,λi c s=>by
  rw[L.pl i c s,zR O a b i s,z];split<;>(try split)<;>(try split)<;>omega⟩
def LP.put(O:MOk M)(L:LP n M one other T)(d:other<one)(e:one<n)(z:0<M one other):LP n M one .fX (T++[⟨other,one,M one other⟩]):=by
 have b:=O.bd one other;refine⟨?_,λi g s=>?_⟩
 ·have:=L.ok.put e d z b.2 .dn T.length
  simpa using this
 ·rw[Di,GG,L.pl i g s,zR O d e i s]
  congr 1
  by_cases a:i=one
  ·have f:far i ⟨other,one,M one other⟩=some other:=by
    unfold far;rw[y3 (λz:other=i=>ZN d (z.trans a)),z4 a.symm]
   rw[f,z4 a];simp only;rw[hJ];simp[bX,gS]
  ·rw[y3 a]
   by_cases c:i=other
   ·have f:far i ⟨other,one,M one other⟩=some one:=by unfold far;rw[z4 c.symm]
    rw[f,z4 c];simp only;rw[hJ];simp[bX,gS]
   ·have f:far i ⟨other,one,M one other⟩=none:=by
     unfold far;rw[y3 (λz:other=i=>c z.symm),y3 (λz:one=i=>a z.symm)]
    rw[f,y3 c];simp[bX,gS]
def LP.step(O:MOk M)(L:LP n M one one T)(h:one<n)(a:n<=30):LP n M (one+1) 0 T :=
 ⟨L.ok.step h a,λi b s=>by
  rw[L.pl i b s];refine kg n λj _=>?_;unfold iI
  by_cases e:i=one/\j=one
  ·rw[e.1,e.2,O.no one];split<;>split<;>rfl
  ·have:=KY e
   dsimp[this]⟩
structure Md(Z n:Nat)(M:.ad)(bs:.c)(ss:.Q)(bk sk:Nat)(h:Hd):Prop where
 n1:1<=n
 n30:n<=30
 mt:jy Z n M h
 mo:MOk M
 ba:h[bk]?=some .b5
 st:h[sk]?=some .dg
 lb:bs.length=n
 ls:ss.length=n
 os:∀x∈ss,x=none\/x=some 0\/x=some 1
def Md.more(m:.jL a h)(g:Hd):.jL a .M:=by
 have k:∀{i:Nat} {x:bJ},h[i]?=some x->.M[i]?=some x:=λ{i x} e=>by
  rw[ZC (.dS).1];exact e
 exact⟨m.n1,m.n30,m.mt.more g,m.mo,k m.ba,k m.st,m.lb,m.ls,m.os⟩
variable{s:.c}
section
variable{Z n:Nat}{M:.ad}{bs:.c}{ss:.Q}{bk sk:Nat}{h:Hd}
noncomputable abbrev XT(td:D)(s:.c)(Z n bk sk:Nat)(a5 a6 a7 a8:.G):Sd:=[some td,some .aC,some .lQ,some (.ref bk),some (.ref sk),a5,a6,a7,a8]
def Ox(L:.js)(B:A3 s)(hi:i<n):gy .Bs n=bX .bn s:=by
 rw[L.pl i hi s];refine kg n λj a=>?_;have p:p8 n 0 i j:=.inl ⟨hi,a⟩;rcases B j with e|e
 ·dsimp[iI,e];simp
 ·dsimp[iI,p,e];simp
def W5(e:y=0\/y=1)(h:Hd):cZ .er .iR h=.ok (.int<|x*y) h:=KS (by rw[QL e,zXa]) h
def GH(m:.hp)(ls:s.length=n)(B:A3 s)(hi:i<n)(a:.G):
  cz none ((.t).map λk:Nat=>D.int k) .K [] (.bx (fAt (fAt .h .j) .e) .ka) ((.t).map λk:Nat=>D.int k) [a,some .aC,some .lQ,some .u] h=.ok ((.mU).map .int) h:=by
 have:=bB (g:=none) (all:=(.t).map λk:Nat=>D.int k) (tg:=gN 0) (cs:=[]) (I:=λσ=>∃a,σ=[a,some .aC,some .lQ,some .dp]) .bb (λd=>match d with | .int j=>.int (M i j.toNat*s.getD j.toNat 0)|_=>.non) trivial
  (xs:=(.t).map λk:Nat=>D.int k) (σ:=[a,some .aC,some (.ref<|Z + n),some .u]) (by
   rintro x u σ ⟨c,rfl⟩;obtain⟨j,b,rfl⟩:=z5.mp u;have b:=YU.mp b;refine⟨_,rfl,⟨_,rfl⟩,rfl,λ_=>?_⟩;have r:=DP (A:=Z) hi;have o:=m.mt.ro i hi;have p:=GE (M:=M) (n:=n) (i:=i) b;have e:=m.mt.ti;have f:=mI (l:=s) (i:=j) (ls▸b);have t:fAt (fAt .h .j) .e [some (.int (j:Nat)),some .aC,some .lQ,some .dp] h=.ok (.int<|M i j) h:=by
    exact aR (.bc (aF e) r) rfl (aF o) p
   have q:fAt .f .e [some (.int (j:Nat)),some .aC,some .lQ,some .u] h=.ok (.int<|s.getD j 0) h:=by
    exact aR rfl rfl rfl f
   exact aj t q (W5 (B j) h)) ⟨_,rfl⟩
 rw[this,Z5.mpr .d,ZY,ZY];rfl
def UD(m:.hp)(L:.js)(ls:s.length=n)(B:A3 s):
  iB [.tup .eh,aK s] h=.ok (aK<|dD .P n s) h:=by
 have t:=m.n30;obtain⟨w,hw⟩:=qq .P;obtain⟨d,J⟩:=qq (.tup .eh:D);obtain⟨A,S⟩:=qq .i5;obtain⟨σ',h',k1,x6,x7,x8,k2,k3⟩:=cP (P:=λi σ h'=>∃(a b c:.G),σ=(XT d s Z n bk sk (some .eE) a b c)/\h'=h++[.lst ((.nt).map .int)]) (g:=none)
   .bK
   (tg:=gN 6) (h:=h++[.lst []]) (b:=sG) (by
   rintro i x σ f hx ⟨a,b,c,rfl,o⟩;obtain⟨r,rfl⟩:=f7 hx;rw[Z6]at o⊢;have V:.jL sk f:=by rw[o];exact m.more _
   have fc:=GH V ls B r none;have v2:=mI (l:=s) (i:=i) (ls▸r);have l3:i<ss.length:=by rw[m.ls];exact r
   have I:=mI (l:=bs) (i:=i) (m.lb▸r);have Q:atI .aj (i:Int)=some (bj .cc):=by rw[kG l3];simp[List.getD,l3]
   have C:=V.ba;have K:=V.st;have q:=F4 (T:=T) (bs:=bs) (ss:=ss) (s:=s) r;rw[<-hw]at q;obtain⟨P,hP⟩:=qq (bX .bn s);have fe:=Ox L B r;rw[<-hP]at fe q;have sm:dG ((.mU).map .int)=some .mU:=sC _;have su:(.mU).sum=P:=by rw[zu];exact fe
   generalize (.t).map .Bs=FL at fc sm su;have R:aG (gN 7) .CL .mo f=.nx (XT d s Z n bk sk .ek (some .u) (some<|.int<|2*P) c) f:=by
    have X:vL .vd .mo f=.ok (.int P) f:=by
     rw[<-su];have N:=dz (cv (a:=aa 3) (σ:=.mo) rfl<|aF C);rw[ZA,m.lb]at N;exact FT (ce (dJ N<|oh t) fc) sm
    exact aA (aj rfl X<|mH .b)
   generalize ss.getD i none=u at Q q;generalize bs.getD i 0=O at I q;generalize s.getD i 0=x at v2 q;generalize 2*P=F at R q;obtain⟨v,G⟩:=qq (if O<F then 1 else x:Int)
   obtain⟨E,y⟩:=qq (if F<O then 0 else v:Int)
   obtain⟨p,H⟩:=qq (u.getD E:Int);have ny:dh w s i=p:=by
    rw[q,H];cases u with
    |some z=>rfl
    |none =>
     simp;rw[y,G];split<;>split<;>(try split)<;>omega
   have Y:.c0 (fAt .f .ac) (XT d s Z n bk sk .ek (some .u) .j5 c) f=.nx .w0 f:=aA (.bc rfl v2);have U:sIf .Bu (.c0 .l) bc .w0 f=.nx .wZ f:=by
    rw[G]
    by_cases e:O<F
    ·rw[z4 e];exact(fI<|aM<|aj rfl .nm<|FU e).trans (aA rfl)
    ·rw[y3 e];exact bU (aM<|aj rfl .nm<|wI e)
   have s4:sIf .Bt (.c0 .B) bc .wZ f=.nx .wJ f:=by
    rw[y]
    by_cases e:F<O
    ·rw[z4 e];exact(fI<|aM<|aj rfl .nm<|wH e).trans (aA rfl)
    ·rw[y3 e];exact bU (aM<|aj rfl .nm<|NF e)
   have s5:sIf .BY (.c0 .kG) bc .wJ f=.nx .mc f:=by
    rw[H];cases u with
    |none=>exact bU .Ci
    |some z=>exact(fI .Ci).trans (aA .yc)
   have gA:f[A]?=some (.lst<|(.nt).map .int):=by rw[o];exact eX S _
   have lz:((.nt).map D.int).length<SZ:=by rw[ZA,ZA,ZO];exact Z3 r (ZS t .b)
   have W:f.set A (.lst<|(.nt).map .int++[.int p])=h++[.lst .xF]:=by
    rw[o,iW S,yi,<-ny,ZR,ZR];rfl
   have s6:eG (jE .E .cN) .mc f=.nx .mc (h++[.lst .xF]):=by
    rw[<-W];exact dW (ju rfl gA rfl gA lz)
   refine⟨_,rfl,.mc,_,?_,_,_,_,rfl,rfl⟩;show aw _ _ .mo f=_;rw[bR R,bR Y,bR U,bR s4,bR s5,s6]) ⟨none,none,none,rfl,by simp⟩
 have e0:0+((.t).map λk:Nat=>D.int k).length=n:=by simp
 rw[e0]at k3;have b1:=(m.more [.lst []]).ba;have R:aG (gT [2,3,4]) .e .wN h=.nx .yo h:=by rw[J];rfl
 have Y:aG .cI .aE .yo h=.nx .q9 .W:=aA (vA S rfl .ey);have U:fv (bZ .h1) .bR sG .q9 .W=.nx .zg .rF:=by
  rw[k2,k3]at k1;have N:cM (lOf .j) .q9 .W=.eM .W:=by
   exact(dz<|.aR<|aF b1).trans (by rw[ZA,m.lb])
  exact eK (dJ N<|oh t) k1
 have s4:aY (gZ<|lOf .E) .zg .rF=.rt (aK .de) .rF:=by
  exact aJ (iw<|.aR<|aF<|eX S _)
 have K:([d,aK s].map some++List.replicate (9 - [d,aK s].length) none:Sd)=.wN:=rfl;rw[<-J,<-hw];unfold iB bE runB;rw[z4 (by rfl),K,bR R,bR Y,bR U,s4];exact bT (zx _)
/---/def DR(ss:.Q)(l:.c):List Int:=(.ip).map λi=>(.cc).getD .k8
def GI(m:.hp){l:.c}(ll:l.length=n)(w:h[k]?=some .jx):
  jb [.tup .eh,.ref k] h=.ok (aK<|DR ss l) h:=by
 have s:=m.n30;obtain⟨c,r⟩:=qq (.tup .eh:D);obtain⟨A,p⟩:=qq .i5;obtain⟨f,T⟩:=qq (λi=>(.cc).getD .k8:.d3);have t:k<h.length:=(z0.mp w).1;obtain⟨σ',N,J,Q,k2,O⟩:=cP (P:=λi σ N=>∃(a:.G),σ=[some c,some .gf,some .eE,a]/\N=h++[.lst ((.lb).map .int)]) (g:=none)
   .bK
   (tg:=gN 3) (h:=h++[.lst []]) (b:=mM) (by
   rintro i x σ q hx ⟨a,rfl,o⟩;obtain⟨y,rfl⟩:=f7 hx;rw[Z6]at o⊢;have Y:q[k]?=some .jx:=by rw[o,ZC t];exact w
   have S:i<ss.length:=by rw[m.ls];exact y
   have R:=mI (ll▸y);have K:atI .aj (i:Int)=some (bj .cc):=by rw[kG S];simp[List.getD,S]
   have v:f i=(.cc).getD .k8:=by rw[T]
   generalize l.getD i 0=x at R v;generalize ss.getD i none=u at K v;have L:q[A]?=some (.lst<|(.lb).map .int):=by rw[o];exact eX p _
   have X:((.lb).map D.int).length<SZ:=by rw[ZA,ZA,ZO];exact Z3 y (ZS s .b)
   have C:q.set A (.lst<|(.lb).map .int++[.int x])=h++[.lst .km]:=by rw[o,iW p,ZR];rfl
   have F:eG .B7 .gx q=.nx .gx (h++[.lst .km]):=by
    rw[<-C];exact dW (ju rfl L (.bc (aF Y) R) L X)
   obtain⟨j,d⟩:=qq (h++[bJ.lst .km]);have m1:.jL sk j:=by rw[d];exact m.more _
   have H:fAt .fD .j .gx j=.ok (bj u) j:=by
    have I:=m1.st;rw[r];exact aR .bi rfl (aF I) K
   have g1:j[A]?=some (.lst .km):=by rw[d];exact eX p _
   have G:sIf .BX (jm .h .j .sw) bc .gx j=.nx .gx (h++[.lst .rc]):=by
    have E:(.lb).length=i:=by simp
    cases u with
    |none =>
     have e:j=h++[.lst .rc]:=by rw[d,yi];simp[v]
     rw[<-e];exact bU (aM<|.cs H)
    |some z =>
     have ix:ixN (((.mj).map f++[x]).map D.int).length (i:Int)=some i:=vD (by rw[ZA,ZB,E];exact Z9 _);have e:j.set A (.lst<|(.km).set i (.int z))=h++[.lst .rc]:=by
      have V:f i=z:=v;rw[d,p,yi];simp[V,List.set_append_right]
     rw[<-e];exact(fI<|aM<|.cs H).trans (kY H rfl rfl g1 ix)
   refine⟨_,rfl,.gx,_,?_,_,rfl,rfl⟩;show aw _ _ .gx q=_;rw[bR F,<-d,G]) ⟨none,rfl,by simp⟩
 have e0:0+((.t).map λk:Nat=>D.int k).length=n:=by simp
 rw[e0]at O;have B:.kP[k]?=some .jx:=by rw[ZC t];exact w
 have F:.dy .aE .Ah h=.nx .rq .W:=aA (vA p rfl .ey);have G:fv (bZ .dG) .aI mM .rq .W=.nx .zY .rp:=by
  rw[k2,O]at J;have U:cM (lOf .f) .rq .W=.eM .W:=by
   exact(dz<|.aR<|aF B).trans (by rw[ZA,ll])
  exact(eK (dJ U<|oh s) J).trans (by rw[DR,ll,T])
 have W:aY (gZ<|lOf .h) .zY .rp=.rt (aK<|DR ss l) .rp:=by
  exact aJ (iw<|.aR<|aF<|eX p _)
 have I:([c,D.ref k].map some++List.replicate (4 - [c,D.ref k].length) none:Sd)=.Ah:=rfl;rw[<-r];unfold jb bE runB;rw[z4 (by rfl),I,bR F,bR G,W];exact bT (zx _)
end
/---/def jC(M:.ad)(i k:Nat):List Tie:=((.nZ).filter λj=>decide (0<M i (i+1+j))).map λj=>⟨i,i+1+j,M i (i+1+j)⟩
def GJ(M:.ad)(i k:Nat):jC M i (k+1)=jC M i k++(if 0<M i .f2 then [⟨i,i+1+k,M i .f2⟩] else []):=by
 unfold jC;rw[yi,zXo,ZR];congr 1
 by_cases c:0<M i .f2
 ·rw[z4 c];simp[c]
 ·rw[y3 c];simp[c]
def zS(M:.ad)(i k:Nat):(.oF).length<=k:=by
 unfold jC;rw[ZA];exact ZM (XU _ _) .d
/---/def ph(M:.ad)(n k:Nat):List Tie:=(.nZ).flatMap λi=>jC M i (n-(i+1))
def sV(M:.ad)(n k:Nat):ph M n (k+1)=ph M n k++jC M k (n-(k+1)):=by
 unfold ph;rw[yi,List.flatMap_append];simp
theorem xo(M:.ad)(n:Nat):∀k,(.oD).length<=n*k
 |0=>YR _
 |k+1=>by
  have h1:=xo M n k;have a:=zS M k (n-(k+1));rw[sV,ZB,Nat.mul_succ];omega
section
variable{Z n:Nat}{M:.ad}{bs:.c}{ss:.Q}{bk sk:Nat}{h:Hd}
def Rc(m:.hp)(hi:i<n)(d:j<n)(c:aa 0 σ h=.ok .lj h)(a:aa 3 σ h=.ok .u h)(b:aa 4 σ h=.ok .bP h):fAt (fAt .aT .j) .C σ h=.ok .sy h :=
 aR (aR (.jE c) a (aF m.mt.ti)<|DP hi) b (aF<|m.mt.ro i hi) (GE d)
def Re(m:.hp)(hi:i<n)(J:X.length<=1000)(a b:.G):
  ∃q r,sK [some .lj,some .x,some .A,some .u,a,b,none] .m7 =
   .nx [some .lj,some .x,some .A,some .u,q,r,none] (h++[.lst ((X++(jC M i<|n-(i+1)).map jx).map .str)]):=by
 have H:=m.n30;obtain⟨d,o⟩:=qq (.tup .eh:D);rw[<-o];have C:gM (.aX .j .l) .f .wd .m7=.ok ((.bV<|n-(i+1)).map (λj:Nat=>D.int ((i+1+j:Nat):Int)),none) .m7 :=
  o3 .dz (by show Res.ok (D.int (n:Int)) _=_;rw[show i+1+(n-(i+1))=n by omega]) .a
 obtain⟨σ',t,G,E,q,r,u⟩:=cP (g:=none) (tg:=gN 4) (b:=zA) (P:=λk σ t=>t=h++[.lst ((X++(.oF).map jx).map .str)]/\∃a b,σ=.wd) .bK
  (xs:=(.bV<|n - (i + 1)).map (λj:Nat=>D.int ((i + 1 + j:Nat):Int))) (k:=0) (σ:=[some d,some .x,some .A,some .u,a,b,none]) (h:=h++[.lst .kD]) (λk x σ g f p=>by
   obtain⟨rfl,a,b,rfl⟩:=p;rw[Z6];have w:k<n-(i+1):=by
    have:=(.lo).1;simpa using this
   have A:x=.int ((i+1+k:Nat):Int):=by
    rw[ZQ,YT w]at f;exact(ZT f).symm
   subst A;obtain⟨Y,s⟩:=qq (X++(.oF).map jx);rw[<-s];have F:Y.length<=1030:=by
    have:=zS M i k;rw[s,ZB,ZA];omega
   have m2:=m.more [.lst (Y.map .str)];have l:=m.mo.bd i .f2;have c:=Rc m2 hi (j:=i+1+k) .a (σ:=[some d,some .x,some .A,some .u,some .Bp,b,none]) (by rw[o];rfl) rfl rfl;have B:X++(jC M i<|k+1).map jx=Y++(if 0<M i .f2 then [jx ⟨i,i+1+k,M i .f2⟩] else []):=by
    rw[GJ,ZR,s,ZU]
    by_cases z:0<M i .f2
    ·rw[z4 z,z4 z,y6,X3]
    ·rw[y3 z,y3 z,X3]
   refine⟨_,rfl,?_⟩;rw[B];obtain⟨v,I⟩:=qq (M i .f2);rw[<-I]at c l⊢
   by_cases z:0<v
   ·rw[z4 z]
    have y:jo [32] .v9 [some d,some .x,some .A,some .u,some .Bp,some .eu,none] .m6=.ok (.str<|jx ⟨i,i+1+k,v⟩) .m6:=by
     have q1:=dj _ (n60<|show i<=30 by omega);have q2:=dj _ (n60<|show i + 1 + k<=30 by omega);have q3:=dj _ (big l.1 l.2);exact lQ (sp:=32) (L:=[Gv,tx (i:Int),tx ((i + 1 + k:Nat):Int),tx v]) (.b7<|ak (gC rfl<|n60 .a)<|bI (gC rfl<|n60 .a)<|gC rfl<|big l.1 l.2) (λx f=>by
      dsimp[xB,zYh,or_false]at f;rcases f with e|e|e|e
      ·rw[e];decide
      ·rw[e];omega
      ·rw[e];omega
      ·rw[e];omega) (by show 4<=1100;decide)
    refine⟨_,_,sx (aA c) ((fI<|aM<|.ah<|FU z).trans (dW<|ju rfl .g9 y .g9 (by rw[ZA];exact ZS F .b))),?_,_,_,rfl⟩;rw[iW rfl];simp
   ·rw[y3 z]
    refine⟨_,_,sx (aA c) ((bU<|aM<|.ah<|wI z).trans rfl),?_,_,_,rfl⟩;simp) ⟨by simp[jC],a,b,rfl⟩
 refine⟨q,r,eK C (G.trans ?_)⟩;rw[E,u];simp
end
section
variable{Z n:Nat}{M:.ad}{bs:.c}{ss:.Q}{bk sk:Nat}{h:Hd}
def Rf(m:.hp)(f:.i):∃a b c,fv (bZ .f) .aI sK [some .lj,some .x,some .A,none,none,none,none] (h++[.lst ([f].map .str)]) =
   .nx [some .lj,some .x,some .A,a,b,c,none] (h++[.lst ((f::(.i4).map jx).map .str)]):=by
 have q:=m.n30;obtain⟨j,o⟩:=qq (.tup .eh:D);have d:=λ(i:Nat) (z:i<n) (X:.aQ) (B:X.length<=1000) a b=>Re m z B a b;rw[<-o]at d⊢;obtain⟨σ',u,C,A,s,t,y,v⟩:=cP (g:=none) (tg:=gN 3) (P:=λk σ u=>u=h++[.lst ((f::(.oD).map jx).map .str)]/\∃a b c,σ=[some j,some .aV,some .a7,a,b,c,none]) .bK
  (xs:=(.t).map λk:Nat=>D.int k) (k:=0) (σ:=[some j,some .x,some .A,none,none,none,none]) (h:=h++[.lst ([f].map .str)]) (λk x σ g l p=>by
   obtain⟨rfl,a,b,c,rfl⟩:=p;rw[Z6];have r:k<n:=by
    have:=(z0.mp l).1;simpa using this
   have w:x=.int ((k:Nat):Int):=by
    rw[ZQ,YT r]at l;exact(ZT l).symm
   subst w;have F:=xo M n k;have E:n*k<=30*30:=Nat.mul_le_mul q .a;obtain⟨s,t,e⟩:=d k r (f::(.oD).map jx) (by rw[Z2,ZA];omega) b c;refine⟨_,rfl,_,_,e,?_,_,_,_,rfl⟩;rw[sV];simp) ⟨by rfl,_,_,_,rfl⟩
 refine⟨s,t,y,eK (dJ rfl .a) (C.trans ?_)⟩;rw[A,v];simp
def IY{h:Hd}(p:.uP)(b:.f8):CL a σ h=.ok .kI h1:=by
 show Res.bind _ _=_;rw[p,aE];show (if i.natAbs.log2<1920 then _ else _)=_;rw[z4 (N9 b)];rfl
def Rg(B:∀(σ:Sd) (g:Hd),aa 0 σ g=.ok f g->fAt .e .R σ g=.ok (.ref sk) g)(t:h[sk]?=some .dg)(os:.bD)(ls:ss.length<=30)(F:X.length<=1000){n:Nat}(a b c:.G):
  ∃d,fv (cU .fD) .bR sJ .mD .m7=.nx [some f,some .x,some .A,a,b,c,d] (h++[.lst ((X++ss.map dS).map .str)]):=by
 have e:∀c:bJ,(h++[c])[sk]?=some (.lst .aj):=λc=>.k t;obtain⟨σ',m,E,z,A,s⟩:=cP (g:=some sk) (tg:=gN 6) (b:=sJ) (P:=λk σ m=>m=h++[.lst ((.BJ).map .str)]/\∃d,σ=[some f,some .aV,some .a7,a,b,c,d]) (λ_ _ m p=>by rw[p.1];exact e _)
  (xs:=ss.map bj) (k:=0) (σ:=.mD) (h:=h++[.lst .kD]) (λk x σ g q p=>by
   obtain⟨rfl,d,rfl⟩:=p;rw[Z6];have j:k<ss.length:=by
    have:=(z0.mp q).1;simpa using this
   have v:x=bj ss[k]:=by
    rw[ZQ,ZE j]at q;exact(ZT q).symm
   subst v;obtain⟨Y,r⟩:=qq .BJ;have C:Y.length<=1030:=by
    rw[r,ZB,ZA,yo];omega
   have w:X++(ss.take<|k+1).map dS=Y++[dS ss[k]]:=by rw[X7 j,ZR,r,ZU];rfl
   rw[w,<-r];have o:=os ss[k] (YM j);obtain⟨y,u⟩:=qq (ss[k]);rw[<-u]at o⊢;refine⟨_,rfl,?_⟩;have l:fIx .wU .BS [some f,some .aV,some .a7,a,b,c,some (bj y)] .m6=.ok (.str<|dS y) .m6:=by
    rcases o with rfl|rfl|rfl
    ·exact lH (.b8<|i5 rfl (rfl:CL .ac _ _=.ok .uY _) .b) (sA (b:=false) .dz) rfl
    ·exact lH (.b8<|i5 rfl (IY (i:=0) rfl .b) (by rw[Q5 .a8];decide)) (sA (b:=true) .dz) rfl
    ·exact lH (.b8<|i5 rfl (IY (i:=1) rfl .b) (by rw[Q5 .dn];decide)) (sA (b:=true) .dz) rfl
   refine⟨_,_,dW (ju rfl .g9 l .g9 (by rw[ZA];exact ZS C .b)),?_,_,rfl⟩;rw[iW rfl];simp) ⟨by simp,none,rfl⟩
 refine⟨A,eK (cy (B _ _ rfl)<|e _) (E.trans ?_)⟩;rw[z,s];simp
def IZ(m:.hp)(bb:.eA)(O:.hS .i4):
  kc [.tup .eh] h=.ok (.str<|br [10]<|bK n .i4 bs ss) h:=by
 have j:=m.n30;have r:=m.lb;have G:=m.ls;obtain⟨f,p⟩:=qq (.tup .eh:D);obtain⟨T,u⟩:=qq .i4;have L:T.length<=900:=by
  have R:=xo M n n;have Q:n*n<=30*30:=Nat.mul_le_mul j j;rw[u];omega
 obtain⟨B,lc⟩:=sQ j O r G m.os bb;rw[<-u]at B lc O⊢;have A:∀(σ:Sd) (g:Hd),aa 0 σ g=.ok f g->fAt .e .l σ g=.ok (.ref bk) g:=λσ g e=>aR (by rw[e,p]) rfl rfl rfl;have J:∀(σ:Sd) (g:Hd),aa 0 σ g=.ok f g->fAt .e .R σ g=.ok (.ref sk) g:=λσ g e=>aR (by rw[e,p]) rfl rfl rfl;have C:aG .g6 .iz .yg h=.nx [some f,some .aV,none,none,none,none,none] h:=by
  have:=aA (i:=1) (dz<|cv (A .yg h rfl)<|aF m.ba);rw[ZA,r]at this;exact this
 have P:=dj _ (n60 j);have E:.dy .xw [some f,some .x,none,none,none,none,none] h=.nx [some f,some .x,some .A,none,none,none,none] (h++[.lst ([line eD [(n:Int)]].map .str)]) :=
  aA (bF<|.cw<|i5 rfl (gC rfl<|n60 j) (by show 7+(tx (n:Int)).length<=1000000;omega))
 obtain⟨a,b,c,t⟩:=Rf m (line eD [(n:Int)]);rw[<-p,<-u]at t;obtain⟨X,v⟩:=qq (line eD [(n:Int)]::T.map jx);rw[<-v]at t;have N:X.length<=901:=by rw[v,Z2,ZA];omega
 obtain⟨o,l⟩:=qq (h++[.lst .kD]:Hd);rw[<-l]at t;have H:o[h.length]?=some (.lst .kD):=by rw[l];simp
 have z:o[bk]?=some .b5:=by rw[l];exact .k m.ba
 have s:aW .qB .mD o=.ok (.ref o.length) (o++[.lst ((.ox).map .str)]) :=
  bF (ce (cy (A _ _ rfl) z)<|KK bb z) (by dsimp[ZA,r];exact ZM j .b)
 obtain⟨q,k⟩:=qq (o++[.lst ((.ox).map .str)]:Hd);rw[<-k]at s;have w:eQ .h (aW .qB) [some f,some .aV,some .a7,a,b,c,none] o=.ok .A6 q:=by
  rw[ZR];exact oX rfl s (by rw[k];exact .k H) (by rw[k];simp) (by dsimp[ZA,r];exact ZM (show X.length+n<=931 by omega) .b)
 have F:.dy .BI .mD o=.nx [some f,some .x,some (.ref q.length),a,b,c,none] (q++[.lst .A6]) :=
  aA (bF w (by dsimp[ZA,ZB,r];exact ZM (show X.length+n<=931 by omega) .b))
 have x:q[sk]?=some .dg:=by rw[k,l];exact .k (.k m.st)
 obtain⟨d,y⟩:=Rg J x m.os .a (X:=X++bs.map lS) (by rw[ZB,ZA];omega) a b c;have I:X++bs.map lS++ss.map dS=bK n T bs ss:=by rw[v];simp[bK]
 rw[I]at y;have K:aY .nr [some f,some .x,some (.ref q.length),a,b,c,d] .yt=.rt (.str .gI) .yt :=
  aJ (lQ (.aR<|aF .d) B .a)
 rw[<-p];refine (.v<|sx C<|sx E<|sx t<|sx F<|sx y K).trans ?_;rw[k,l,ZU,ZU];exact bT rfl
end
theorem GK{j:Nat}:∀{r:.a6},(∀p∈r,p.1≠j)->(.ys).sum=0
 |[],_=>rfl
 |p::r,h=>by
  rw[y6,X2,GK λq a=>h q (ZW _ a),y3 (h p ZV)];rfl
theorem GL{j:Nat}:∀{r:.a6},(r.map (·.1)).Nodup->(j,v)∈r->(.ys).sum=v
 |[],_,h=>by cases h
 |p::r,nd,h=>by
  rw[y6]at nd;obtain⟨n1,n2⟩:=Y3.mp nd;rw[y6,X2];rcases xB.mp h with e|h
  ·subst e
   rw[z4 rfl,GK λq a z=>n1 (z5.mpr ⟨q,a,z⟩)];exact Int.add_zero _
  ·rw[y3 λz=>n1 (z5.mpr ⟨_,h,z.symm⟩),GL n2 h];exact Int.zero_add _
/---/def Ja(n j:Nat):List Int:=(.t).map λk=>if k=j then 1 else 0
def o4(n j k:Nat):(Ja n j).getD k 0=if k<n/\k=j then 1 else 0:=by
 unfold Ja;rw[ZF,ZQ]
 by_cases h:k<n
 ·rw[YT h]
  by_cases e:k=j
  ·rw[z4 ⟨h,e⟩];simp[e]
  ·rw[y3 (λz=>e z.2)];simp[e]
 ·rw[YD (by rw[ZO];omega),y3 (λz=>h z.1)];rfl
theorem GM:∀n,gy (λ_=>0) n=0
 |0=>rfl
 |n+1=>by rw[gy,GM n];rfl
def vH(L:.js)(hi:i<n):(j,v)∈nbs T i↔j<n/\M i j=v/\0<v:=by
 have b:j<n->((.bn).map λp=>if p.1=j then p.2 else 0).sum=M i j:=λa=>by
  have e:=L.pl i hi (Ja n j);rw[mK]at e;have m:((.bn).map λp=>if (Ja n j).getD p.1 0=1 then p.2 else 0)=(.bn).map λp=>if p.1=j then p.2 else 0:=YQ λp d=>by
   have d:=pX L.ok.lt p d
   by_cases c:p.1=j
   ·rw[z4 c,z4 (by rw[o4,z4 ⟨d,c⟩])]
   ·rw[y3 c,y3 (by rw[o4,y3 (λz=>c z.2)];decide)]
  rw[m]at e;rw[e,vG (λk g=>?_) n,z4 a,GM]
  ·unfold iI
   rw[z4 ⟨.inl ⟨hi,a⟩,by rw[o4,z4 ⟨a,rfl⟩]⟩];omega
  ·unfold iI
   rw[y3];rintro⟨_,z⟩;rw[o4,y3 λz=>g z.2]at z;exact .ed .b
 constructor
 ·intro h
  have a:=pX L.ok.lt _ h;obtain⟨t,l,_,q⟩:=iX.mp h;have w:=L.ok.wt t l;exact⟨a,(b a).symm.trans (GL (k7 L.ok.un i) h),by rw[q]at w;exact Int.lt_of_lt_of_le .b w.1⟩
 ·rintro⟨a,e,p⟩
  by_cases c:∃w,(j,w)∈nbs T i
  ·obtain⟨w,f⟩:=c
   have:=(b a).symm.trans (GL (k7 L.ok.un i) f);rw[<-e,this];exact f
  ·have:=(b a).symm.trans (GK λp d z=>c ⟨p.2,by rw[<-z];exact d⟩)
   omega
theorem sW{α:Type}{r:α->α->Prop}(d:∀a b,r a b->¬r b a):∀{l k:List α},l.Pairwise r->k.Pairwise r->(∀x,x∈l↔x∈k)->l=k
 |[],[],_,_,_=>rfl
 |[],y::k,_,_,m=>absurd ((m y).mpr ZV) zYh
 |x::l,[],_,_,m=>absurd ((m x).mp ZV) zYh
 |x::l,y::k,h1,n,m=>by
  obtain⟨f,i⟩:=Z4.mp h1;obtain⟨h,o⟩:=Z4.mp n;have e:x=y:=by
   rcases xB.mp ((m x).mp ZV) with e|p
   ·exact e
   ·rcases xB.mp ((m y).mpr ZV) with e|j
    ·exact e.symm
    ·exact absurd (h x p) (d _ _<|f y j)
  subst e;have g:¬r x x:=λz=>d x x z z;rw[sW d i o λz=>⟨λc=>?_,λc=>?_⟩]
  ·rcases xB.mp ((m z).mp (ZW _ c)) with e|q
   ·subst e;exact absurd (f _ c) g
   ·exact q
  ·rcases xB.mp ((m z).mpr (ZW _ c)) with e|q
   ·subst e;exact absurd (h _ c) g
   ·exact q
def Rh(s t:Tie)(h:sR s t):¬sR t s:=λz=>by
 unfold sR at h z;omega
def xp:t∈ph M n k↔t.a<k/\t.a<t.b/\t.b<n/\M t.a t.b=t.w/\0<t.w:=by
 unfold ph jC;rw[List.mem_flatMap];constructor
 ·rintro⟨i,d,o⟩
  obtain⟨j,l,rfl⟩:=z5.mp o;obtain⟨c,f⟩:=YN.mp l;have c:=YU.mp c;have d:=YU.mp d;exact⟨d,show i<i+1+j by omega,show i+1+j<n by omega,rfl,Y4 f⟩
 ·rintro⟨c,f,m,g,h⟩
  obtain⟨a,b,w⟩:=t;simp only at c f m g h;subst g;have e:a+1+(b-(a+1))=b:=by omega
  refine⟨a,YU.mpr c,z5.mpr ⟨b-(a+1),YN.mpr ⟨YU.mpr .a,?_⟩,?_⟩⟩
  ·rw[e];exact x3 h
  ·rw[e]
def KZ(M:.ad)(i k:Nat):(.oF).Pairwise sR:=by
 unfold jC;rw[Y5];exact(List.pairwise_lt_range.imp λ{a b} h=>.inr ⟨rfl,show i+1+a<i+1+b by omega⟩).filter _
theorem sX(M:.ad)(n:Nat):∀k,(.oD).Pairwise sR
 |0=>List.Pairwise.nil
 |k+1=>by
  rw[sV];refine Y9.mpr ⟨sX M n k,KZ M k _,λs a t ht=>.inl ?_⟩;have h1:=(xp.mp a).1;unfold jC at ht;obtain⟨j,_,rfl⟩:=z5.mp ht;exact h1
theorem Si{n:Nat}(O:MOk M)(a:one<n){T:.V}(L:LP n M one 0 T):∀k,k<=one->∃T,LP n M one k T
 |0,_=>⟨T,L⟩
 |k+1,h=>by
  obtain⟨c,b⟩:=Si O a L k .a
  by_cases z:0<M one k
  ·exact⟨_,b.put O .a a z⟩
  ·exact⟨_,b.skip O .a a (by have:=O.bd one k;omega)⟩
theorem Oy{n:Nat}(O:MOk M)(a:n<=30):∀k,k<=n->∃T,LP n M k 0 T
 | 0,_=>⟨[],⟨⟨nofun,nofun,nofun,nofun,List.Pairwise.nil,YR _⟩,λi hi s=>by
   have:∀j,iI M s 0 0 i j=0:=λj=>by
    unfold iI;rw[y3];rintro⟨z,_⟩;unfold p8 at z;omega
   rw[kg n λj _=>this j,GM];rfl⟩⟩
 |k+1,h=>by
  obtain⟨T,L⟩:=Oy O a k .a;obtain⟨c,b⟩:=Si O (show k<n by omega) L k .o;exact⟨c,b.step O .a a⟩
def zT(f:n<=30)(L:.js):ph M n n=jc n T :=
 sW Rh (sX M n n) (KJ L.ok) λt=>by
  rw[xp,Oe];constructor
  ·rintro⟨a,c,b,d,e⟩
   exact⟨a,c,(vH L a).mpr ⟨b,d,e⟩⟩
  ·rintro⟨a,c,b⟩
   obtain⟨q1,q2,q3⟩:=(vH L a).mp b;exact⟨a,c,q1,q2,q3⟩
def Ri(m:.jL c h)(bb:.eA)(L:.js)(p:a σ h=.ok (.tup [.ref (Z+n),.ref bk,.ref c]) h):
  Pr d5 (ab (av kc<|ab a ar) ar) σ h=.bf (h++[.ob .lm]):=by
 have e:=zT m.n30 L;have O:.hS .i4:=by rw[e];exact(jI m.n30 L.ok).1
 have t:=IZ m bb O;have w:bg n .i4 bs ss=bg n T bs ss:=by rw[e];exact p0 m.n30 L.ok _ _
 have i:=Q9 (h:=h++[.ob []]) (dk:=h.length) m.n1 m.n30 O (sX M n n) (λt d=>(xp.mp d).2.1) m.lb m.ls m.os bb .d;rw[w]at i;have s:(h++[bJ.ob []]).set h.length .mT=h++[.ob .lm]:=iW rfl _ _;rw[s]at i;unfold Pr;rw[ak (au (.cw p) t) rfl,aE];dsimp[i]
def GN(l:.c):fK .fK=true:=jN λ_ _=>rfl
noncomputable abbrev NL(l:.i):List D:=l.map λk:Nat=>D.int k
structure Ch(w:Web)(n:Nat)(l:.i):Prop where
 up:l.Pairwise (· < ·)
 lt:∀p∈l,p<n
 no:∀p∈l,w.stays.getD p none≠some 0
/---/def dF(w:Web)(n:Nat)(l:.i):List Int:=(.t).map λi=>if i∈l\/.dw none=some 1 then 1 else 0
def Jb(u:.aK)(h:Hd):oNe (bj u) (.int 0) h=.ok (.bl<|decide (u≠some 0)) h:=by
 cases u with
 |none=>rfl
 |some v =>
  show oNe .eu (.int 0) h=_;rw[pU]
  by_cases e:v=0
  ·rw[x3 e,xC (λz=>z (by rw[e]))];rfl
  ·rw[xC e,x3 (show (some v≠some (0:Int)) from λz=>e (ZT z))];rfl
def Oz(u:.aK)(h:Hd):oEq (bj u) (.int 1) h=.ok (.bl<|decide (u=some 1)) h:=by
 cases u with
 |none=>rfl
 |some v =>
  show oEq .eu (.int 1) h=_;rw[qH]
  by_cases e:v=1
  ·rw[x3 e,x3 (by rw[e])]
  ·rw[xC e,xC (λz=>e (ZT z))]
def OA(c:.f7)(i:Nat):oIn (.int (i:Nat)) .aB h=.ok (.bl<|decide (i∈l)) h:=by
 have f:(.bm).all gD=true:=by
  rw[zZe];intro x b;obtain⟨j,_,rfl⟩:=z5.mp b;rfl
 have a:((.bm).any λz=>eqF z (.int (i:Nat)))=decide (i∈l):=by
  by_cases e:i∈l
  ·rw[x3 e,List.any_eq_true]
   exact⟨.int (i:Nat),z5.mpr ⟨i,e,rfl⟩,by simp⟩
  ·rw[xC e,List.any_eq_false]
   intro x b z;obtain⟨j,d,rfl⟩:=z5.mp b;have z:((j:Int) == (i:Int))=true:=z;have:j=i:=by have:=eq_of_beq z;omega
   exact e (this▸d)
 dsimp[oIn,inL,kt,c,gD,f,Bool.and_self,XH,a]
section
variable{w:Web}{n:Nat}{l:.i}
def VV(W:w.Ok n)(hp:p<n):atI .bg (p:Int)=some .AI:=by
 have h:p<w.stays.length:=W.s.symm▸hp;rw[ZF,ZE h];exact du (by rw[ZQ,ZE h];rfl)
def K2(W:w.Ok n)(hp:p<n)(h:Hd):cR [w.enc,.int (p:Nat)] h=.aN h:=by
 have m:bG .a3 h=.eM h:=by rw[oj,W.t]
 have b:bq [.int (p:Nat),.int 0,.int ((n:Int)-1)] h=.aN h:=by
  have:=cX (p:Int) 0 ((n:Int)-1) h;rw[this,x3 (show (0:Int)<=p by omega),x3 (show (p:Int)<=(n:Int)-1 by omega)];rfl
 exact (.v<|aJ<|au (.b7<|.b8<|.cs<|.ay m) b).trans aU
def K4(W:w.Ok n)(hp:p<n)(no:w.stays.getD p none≠some 0)(h:Hd):dA [w.enc,.int (p:Nat)] h=.aN h:=by
 have s:f6 [w.enc,.int (p:Nat)] h=.ok .AI h:=(.v<|aJ<|aR .bi rfl rfl<|VV W hp).trans aU;exact (.v<|aJ<|n9<|jt (aM<|.ab<|K2 W hp h)<|aM<|aj (.ab s) rfl (by rw[Jb,x3 no])).trans aU
def OB{α:Type}(l:List α):lq .se=some .nH:=by
 induction l with
 |nil=>rfl
 |cons x l a=>simp[lq,a]
def VW{α:Type}(l:List α):(.nH).all id=true:=by simp
def Rj(hm:m<=1000)(p:a σ h=.ok (.int<|(m:Int)-1) h):bZ a σ h=.ok ((.bV<|m-1).map (λk:Nat=>D.int k),none) h:=by
 show Res.bind _ _=_;rw[p];show (if -1000000<=(m:Int)-1/\(m:Int)-1<=1000000 then Res.ok ((List.range ((m:Int)-1).toNat).map (λk:Nat=>D.int k),(none:.fn)) h else Res.bad)=_;rw[z4 ⟨by omega,by omega⟩,show ((m:Int)-1).toNat=m-1 by omega]
theorem DS:∀{m:Nat} {l:.i},l.Pairwise (· < ·)->(∀x∈l,x<m)->l.length<=m
 |m,[],_,_=>YR _
 |0,x::l,_,h=>absurd (h x .d) .a
 |m+1,x::l,p,h=>by
  have c:=Z4.mp p;have:=DS (m:=m) (l:=l.map (· - 1)) (by
   rw[Y5];refine c.2.imp_of_mem λ{a b} g f q=>?_;have:=c.1 a g;have:=c.1 b f;omega) (λy e=>by
   obtain⟨z,d,rfl⟩:=z5.mp e;have:=h z (by simp[d]);have:=c.1 z d;omega)
  simp at this⊢;omega
def DT(C:.eC):l.length<=n:=DS C.up C.lt
def Bw(W:w.Ok n)(n30:n<=30)(C:.eC)(c:.f7):fz .nR h=.aN h:=by
 have p:cz .dj .bm .K [] (av dA<|ab .f .aG) .bm [none,some w.enc] h=.ok ((.bm).map λ_=>D.bl true) h:=by
  have:=bB (g:=some k) (tg:=gN 0) (cs:=[]) (e:=av dA (ab .f .aG)) (h:=h) (I:=λσ=>∃a,σ = [a,some w.enc]) .bb .iI c (xs:=NL l) (σ:=[none,some w.enc]) (by
   rintro x f σ ⟨a,rfl⟩;obtain⟨i,d,rfl⟩:=z5.mp f;exact⟨_,rfl,⟨_,rfl⟩,rfl,λ_=>au .eN (K4 W (C.lt i d) (C.no i d) h)⟩) ⟨_,rfl⟩
  rw[this,Z5.mpr .y]
 have s:cz none ((.rT).map λk:Nat=>D.int k) .K [] .xk ((.rT).map λk:Nat=>D.int k) [none,some .aB] h=.ok (((.rT).map λk:Nat=>D.int k).map λ_=>D.bl true) h:=by
  have:=bB (g:=none) (all:=(.Az).map λk:Nat=>D.int k) (tg:=gN 0) (cs:=[]) (e:=ag oLt .ka (fAt .f<|.aX .e .l)) (h:=h) (I:=λσ=>∃a,σ = [a,some .aB]) .bb .iI trivial (xs:=(.Az).map λk:Nat=>D.int k) (σ:=[none,some .aB]) (by
   rintro x f σ ⟨a,rfl⟩;obtain⟨i,d,rfl⟩:=z5.mp f;have d:=YU.mp d;have j:i<l.length:=by omega
   have m:i+1<l.length:=by omega
   have u:atI .bm (i:Int)=some (.int (l[i]:Nat)):=du (by rw[ZQ,ZE j];rfl);have t:atI .bm ((i:Int)+1)=some (.int (l[i+1]:Nat)):=by
    have:atI .bm ((i+1:Nat):Int)=some (.int (l[i+1]:Nat)):=du (by rw[ZQ,ZE m];rfl);exact this
   have lt:=zZo.mp C.up i (i+1) j m (Z9 _);exact⟨_,rfl,⟨_,rfl⟩,rfl,λ_=>aj (.bc (aF c) u) (aR rfl .dz (aF c) t) (wH .a)⟩) ⟨_,rfl⟩
  rw[this,Z5.mpr .y]
 have v:=DT C;have o:sIf .kr .gu bc .eW h=.nx .eW h:=(bU<|.bq<|aM<|A0 rfl c).trans rfl;have q:sIf .wk .gu bc .eW h=.nx .eW h:=(bU<|.bq<|aM<|(nZ (ce (cy rfl c) p)<|OB _).trans (by rw[VW])).trans rfl;have r:ag kN .dG .l .eW h=.ok (.int<|(l.length:Int)-1) h:=aj (x:=.int (l.length:Nat)) ((dz<|.aR<|aF c).trans (by rw[ZA])) rfl rfl;exact (.v<|(bN o).trans ((bN q).trans (aJ<|(nZ (ce (Rj .a r) s)<|OB _).trans (by rw[VW])))).trans aU
def jR(W:w.Ok n)(S:gx w)(C:.eC):fZ w n .au:=by
 refine⟨by simp[dF],λx c=>?_,λi x e=>?_⟩
 ·obtain⟨i,_,rfl⟩:=z5.mp c
  split
  ·exact .inr rfl
  ·exact .inl rfl
 ·have b:i<n:=by have:=(.dS).1;rwa[W.s]at this
  have g:.dw none=some x:=by rw[ZF,e];rfl
  have a:=S .fh (ZK e);show ((.t).map _)[i]?=_;rw[ZQ,YT b];show some (if i∈l\/.dw none=some 1 then (1:Int) else 0)=_;rcases a with z|z|z
  ·cases z
  ·have z:=ZT z
   subst z;rw[y3];rintro (q|q)
   ·exact C.no i q g
   ·rw[g]at q;cases q
  ·have z:=ZT z
   subst z;rw[z4 (.inr g)]
def OC{l:List D}{x:D}(b:x∈im l):∃(i:Nat) (d:D),l[i]?=some d/\x=.tup [.int (i:Nat),d]:=by
 unfold im at b;obtain⟨p,g,rfl⟩:=z5.mp b;obtain⟨k,a⟩:=zYu g;rw[zXg]at a;obtain⟨c,f⟩:=a;have:p.1=k:=by
  obtain⟨h,e⟩:=z0.mp c;simpa using e.symm
 exact⟨k,p.2,f,by rw[this]⟩
def OD(ss:.Q)(f:Nat->Option Int->D):(im .aj).map (λd=>match d with | .tup [.int i,_]=>f i.toNat .B0|_=>.non)=(.si).map λi=>f i .cc:=by
 unfold im;rw[ZY];apply YX;intro i
 by_cases a:i<ss.length
 ·rw[ZQ,ZQ,YT a]
  have:((List.range (.aj).length).zip .aj)[i]?=some (i,bj ss[i]):=by
   rw[zXg];exact⟨YT .io,by rw[ZQ,ZE a];rfl⟩
  rw[this];rfl
 ·rw[YD .S,YD .S]
def OE(W:w.Ok n)(n30:n<=30)(C:.eC)(v:.f7):qM .nR h=.ok (aK .au) h:=by
 obtain⟨A,E⟩:=qq .i5;have y:bM .a3 h=.ok .eE .fI:=(.v<|aJ<|vA E (cv .bi rfl) (by rw[ZA,W.s];exact ZM n30 .b)).trans cL;obtain⟨e,g⟩:=qq (h++[.lst .bg]:Hd);rw[<-g]at y;have B:e[A]?=some .lS:=by rw[g];exact eX E _
 have s:e[k]?=some .mH:=by rw[g];exact .k v
 have c:=wg (G:=λJ=>J[A]?=some .lS) (tg:=gT [0,1]) (cs:=[]) (I:=λσ=>∃a b,σ=[a,b,some .aB]) .bb
  (λd=>match d with | .tup [.int i,_]=>(.xa) i.toNat (w.stays.getD i.toNat none)|_=>.non) B (xs:=im .bg) (σ:=[none,none,some .gf]) (by
   rintro x L σ ⟨a,b,rfl⟩;obtain⟨i,d,t,rfl⟩:=OC L;have m:i<w.stays.length:=by have:=(z0.mp t).1;rwa[ZA]at this
   have hd':d=bj .mI:=by
    rw[ZQ,ZE m]at t;rw[ZF,ZE m];exact(ZT t).symm
   subst hd';refine⟨_,rfl,⟨_,_,rfl⟩,rfl,λ_=>?_⟩;show fIf .qO .l .B .qL e=.ok (.int<|if (.jd).toNat∈l\/w.stays.getD (.jd).toNat none=some 1 then 1 else 0) e;rw[zZu];have j:tE (ag oIn .e .h) .qL e=.ok (decide (i∈l)) e:=aM (.ah<|OA s i);have q:tE (.cV .l) .qL e=.ok (decide (.dw none=some 1)) e:=aM (.ah<|Oz _ _)
   by_cases o:i∈l
   ·rw[x3 o]at j
    rw[z4 (.inl o)];exact(mJ<|AY j).trans rfl
   ·rw[xC o]at j
    by_cases p:.dw none=some 1
    ·rw[x3 p]at q
     rw[z4 (.inr p)];exact(mJ<|iu j q).trans rfl
    ·rw[xC p]at q
     rw[y3 (λz=>z.elim o p)];exact(og<|iu j q).trans rfl) ⟨_,_,rfl⟩
 rw[Z5.mpr .y,OD w.stays .xa,W.s]at c;have K:nT 2 [1] .fc .ck [] (fIf .qO .l .B) .eW h=.ok ((.au).map .int) e:=by
  have f:=au (F:=bM) (r:=.cz ar) (σ:=.eW) .bz y;unfold nT;rw[f];dsimp[B];refine c.trans ?_;unfold dF;rw[ZY];rfl
 have H:sIf .CH ef bc .eW h=.nx .eW h:=(bU<|.bq<|aM<|.ab<|Bw W n30 C v).trans rfl;refine (.v<|(bN H).trans (aJ<|iw K)).trans ?_;rw[g];exact bT (by dsimp[pure?];exact GN _)
end
def OG{l:List D}{k:Nat}(a:1<=k):cut l .nG none=l.drop (l.length-k):=by
 have e:.jP 0 .nG=l.length-k:=by
  show .wu=_;rw[z4 .a];omega
 unfold cut;rw[e];exact zZd (by rw[List.length_drop];exact ZL _)
def K5{l:List D}{k:Nat}(a:1<=k):cut l none .nG=l.take (l.length-k):=by
 have e:.jP l.length .nG=l.length-k:=by
  show .wu=_;rw[z4 .a];omega
 unfold cut;rw[e];rfl
def DU{c b:Hd}{i j:.aK}{l:List D}(p:.jl)(q:lo σ h1=.ok i c)(r:hi σ c=.ok j b)(s:b[n]?=some .dH):dv a lo hi σ h=.ok (.ref b.length) (b++[.lst .ow]):=by
 dsimp[dv,p,aE,q,r,ee,s]
section
variable{w:Web}{n:Nat}{s:.c}
def xq(t j:Nat):(.d7<|t+j).drop t=(.bV j).map λi=>.ba (t+i):=by
 unfold bu;apply YX;intro i;rw[List.getElem?_drop,ZQ,ZQ]
 by_cases a:i<j
 ·rw[YT .a,YT a];rfl
 ·rw[YD .S,YD .S];rfl
def GO(t j:Nat):(.d7<|t+j).take t=bu w n s t:=by
 unfold bu;rw[<-List.map_take,List.take_range,Nat.min_eq_left (X0 t j)]
/---/def NOT:D:=.str [110,111,116]
/---/def TRN:D:=.str .gH
/---/def DV(w:Web)(n:Nat)(s:.c)(t:Nat):D:=if bA w n s (t+1)=bA w n s t then (if (0:Int)∈bA w n s (t+1) then NOT else TRN) else NOT
/---/def OH(w:Web)(n:Nat)(s:.c)(t:Nat):List .cF:=if bA w n s (t+1)=bA w n s t then (if (0:Int)∈bA w n s (t+1) then [.ba (t+1)] else bu w n s (t+1)) else [.ba t,.ba (t+1)]
def Jc(l:.c)(x:Int)(h:Hd):inL h .er (aK l)=some (decide (x∈l)):=by
 have f:(.fK).all gD=true:=by
  rw[zZe];intro x c;obtain⟨j,_,rfl⟩:=z5.mp c;rfl
 have a:((.fK).any λz=>eqF z .er)=decide (x∈l):=by
  by_cases e:x∈l
  ·rw[x3 e,List.any_eq_true]
   exact⟨.int x,z5.mpr ⟨x,e,rfl⟩,by simp⟩
  ·rw[xC e,List.any_eq_false]
   intro y b z;obtain⟨j,d,rfl⟩:=z5.mp b;have z:(j == x)=true:=z;exact e (eq_of_beq z▸d)
 dsimp[inL,aK,kt,gD,f,Bool.and_self,XH,a]
def UE(l:.c)(x:Int)(h:Hd):oIn .er (aK l) h=.ok (.bl<|decide (x∈l)) h:=by
 unfold oIn;rw[Jc]
def zU(l:.c)(x:Int)(h:Hd):kO .er (aK l) h=.ok (.bl<|!decide (x∈l)) h:=by
 unfold kO;rw[Jc]
def rk(W:w.Ok n)(n30:n<=30)(S:gx w)(C:.eC)(N:.f7)(B:A=h.length)(ht:bA w n .au (t+2)=bA w n .au t)(hm:∀k,k<t->bA w n .au (k+2)≠bA w n .au k)(hz:t<=900000):
  eS .nR h=.ok (.tup [DV w n .au t,.ref (A+1)]) (h++[.lst .Ae,.lst .Bq]):=by
 have F:=jR W S C;obtain⟨s,M⟩:=qq .au;have G:=OE W n30 C N;rw[<-M]at ht hm F G⊢;have o:=NR W S F ht hm hz h;rw[<-B]at o;obtain⟨b,i⟩:=qq .qw
 rw[<-i]at o;obtain⟨c,f⟩:=qq (h++[bJ.lst .eR]);rw[<-f]at o;have x:c[A]?=some (.lst .eR):=by rw[f];exact eX B _
 have K:c.length=A+1:=by rw[f,ZB,B];rfl
 have E:(.eR).length=t+2:=by rw[ZA,jM]
 have u:.dy .yE [some w.enc,some .aB,none,none,none] h=.nx .xY c:=aA (au (.b8<|.ab G) o);have v:aG .aI .kH .xY c=.nx .w5 c:=aA .bi;have p:aG .cJ .t1 .w5 c=.nx .fu c:=aA .bi;have P:atI .eR (-1)=some .CO:=iA (t+1) 1 .b;have fin:∀(d:D) (L:List D),(c++[bJ.lst L])=h++[.lst .eR,.lst L]:=λd L=>by rw[f,ZU];rfl
 have y:∀{d:D} {g:Hd},letGo h (.ok .CY g)=.ok .CY g:=λ{d g}=>lG .sH;have J:∀{j:Nat} (H:1<=j) (σ:Sd) (e:aa 4 σ c=.ok .bh c),dv .C (pAt .Cb) pNo σ c=.ok (.ref<|A+1) (c++[.lst ((.eR).drop (t+2-j))]):=λ{j} H σ e=>by
  have:=DU (lo:=pAt .Cb) (hi:=pNo) e rfl rfl x;rw[OG H,E,K]at this;exact this
 by_cases q:.ba (t+1)=.ba t
 ·rw[z4 q]at i
  have I:sIf (tE .te) .vH bc .fu c=.nx .fu c:=by
   rw[i];exact(bU .cm).trans rfl
  have m:tE .z7 .fu c=.ok (decide ((0:Int)∈bA w n s (t+1))) c:=aM (aj rfl (.bc (aF x) P)<|UE _ _ _)
  by_cases z:(0:Int)∈bA w n s (t+1)
  ·rw[x3 z]at m
   have r:=J .o .fu rfl;rw[show t+2-1=t+1 from rfl,<-List.map_drop,show t+2=(t+1)+1 from rfl,xq]at r;unfold DV OH;rw[z4 q,z4 z,z4 q,z4 z];refine (.v<|(bN u).trans ((bN v).trans ((bN p).trans ((bN I).trans (gG<|(fI m).trans .sv))))).trans (y.trans ?_);rw[fin .non];rfl
  ·rw[xC z]at m
   have r:=DU (a:=aa 4) (lo:=pNo) (hi:=pAt (fC<|.int (-((1:Nat):Int)))) (σ:=.fu) (h:=c) rfl rfl rfl x;rw[K5 (ZL 1),E,K,<-List.map_take,show t+2-1=t+1 from rfl,show t+2=(t+1)+1 from rfl,GO]at r;unfold DV OH;rw[z4 q,y3 z,z4 q,y3 z];refine (.v<|(bN u).trans ((bN v).trans ((bN p).trans ((bN I).trans ((bN<|(bU m).trans rfl).trans .sv))))).trans (y.trans ?_);rw[fin .non];rfl
 ·rw[y3 q]at i
  have O:tE .te .fu c=.ee c:=by
   rw[i];exact aM .dz
  have r:=J (j:=2) .b .fu rfl;rw[show t+2-2=t from rfl,<-List.map_drop,xq]at r;unfold DV OH;rw[y3 q,y3 q];refine (.v<|(bN u).trans ((bN v).trans ((bN p).trans (gG<|(fI O).trans .sv)))).trans (y.trans ?_);rw[fin .non];rfl
end
structure vW(w:Web)(n:Nat)(s:.c)(b:Bool):Prop where
 go:∃t,t<=900000/\.ba (t+2)=bA w n s t/\(∀k,k<t->bA w n s (k+2)≠bA w n s k)/\DV w n s t=if b=true then TRN else NOT
/---/def kyL(l:.i):List Int:=l.map λk:Nat=>(k:Int)
theorem jh:∀l:List Nat,dG .bm=some .dX
 |[]=>rfl
 |x::l=>by
  show (dG .bm).map ((x:Int) :: ·)=_;rw[jh l];rfl
def Rk{a b:.i}(e:kyL a=kyL b):a=b:=by
 have:=congrArg (List.map Int.toNat) e;simpa[kyL,ZY,Function.comp_def] using this
def GP(h:gj mm k=none):gj (mm++[(k,v)]) a=if a=k then some v else gj mm a:=by
 unfold gj at h⊢;rw[List.find?_append]
 by_cases c:a=k
 ·subst c
  have:mm.find? (λp=>decide (p.1=a))=none:=Option.map_eq_none_iff.mp h;rw[this];simp
 ·have:¬k=a:=λz=>c z.symm
  rw[y3 c];simp[this]
def K6(h:gj mm k=none):vV mm k v=mm++[(k,v)]:=by
 unfold vV;rw[y3];intro z;obtain⟨p,b,e⟩:=List.any_eq_true.mp z;have a:mm.find? (λp=>decide (p.1=k))=none:=Option.map_eq_none_iff.mp h;exact List.find?_eq_none.mp a p b e
def zV{l:List D}(e:dG l=some k)(p:h[n]?=some .ch):qh .hj .e4 h=.ok (.bl<|!(gj mm k).isSome) h:=by
 dsimp[qh,e,p]
def Rl{x i e:EF}{b a:Hd}{l:List D}(p:e σ h=.ok v h1)(q:.uM)(r:i σ b=.ok .hj a)(c:dG l=some k)(g:a[n]?=some .ch)(z:mm.length<SZ):HK x i e σ h=.cA (a.set n<|.dcT<|vV mm k v):=by
 dsimp[HK,outE,p,q,r,c,g,z4 z]
def Jd{a b:EF}{d:Hd}{l:List D}(p:.jl)(q:b σ h1=.ok .hj d)(c:dG l=some k)(g:d[n]?=some .ch)(z:gj mm k=some v):LH a b σ h=.ok v d :=
 aj p q (by dsimp[LG,c,g,z])
/---/def Kn(b:Bool)(l:.i)(mm mm':.cQ):Prop:=mm'=mm\/gj mm .dX=none/\mm'=mm++[(kyL l,.bl b)]
def GQ{b:Bool}(W:w.Ok n)(n30:n<=30)(S:gx w)(C:.eC){k d:Nat}(o:.f7)(hd:h[d]?=some .ch)(hz:mm.length<1000)(x:.Bz=true)(E:vW w n .au b)(a:gj mm .dX=none\/gj mm .dX=some .di):
  ∃f,gc [w.enc,.ref k,.ref d] h=.ok .di (h.set d<|.dcT f)/\Kn b l mm f:=by
 have m:d<h.length:=(.lh).1;rcases a with a|a
 ·obtain⟨t,s,B,F,y⟩:=E.go
  have r:=rk W n30 S C o rfl B F s;obtain⟨g,u⟩:=qq ([.lst .Ae,.lst .Bq]:Hd);rw[<-u]at r;have q:.M[d]?=some (.dcT mm):=.k hd;have G:oEq (DV w n .au t) (.str .gH) .M=.ok (.bl b) .M:=by
   rw[y];cases b<;>rfl
  have A:(.M).set d .Ad=h.set d .Ad++g:=zZx _ _ m;refine⟨mm++[(kyL l,.bl b)],?_,.inr ⟨a,rfl⟩⟩;refine YY (bm (σ:=.yx) rfl rfl<|sx .A3<|sx (YY (fI .wV)<|YY (Rl (aj (.jE<|.ab r) rfl G) rfl rfl (jh l) q<|Z3 hz .b) (by rw[K6 a,A]))<|aJ<|Jd rfl rfl (jh l) (.k<|x4 m) (by rw[GP a,z4 rfl])) ?_;refine zi rfl .d λi c z j=>?_;rw[ZC (by simpa using z)]at j
  by_cases e:d=i
  ·subst e
   rw[x4 m]at j;cases j;exact .inr (by simp[qe,x,pure?])
  ·rw[ZP e]at j
   exact .inl j
 ·refine⟨mm,?_,.inl rfl⟩
  have v:h.set d .ch=h:=by
   apply YX;intro i
   by_cases e:d=i
   ·subst e;rw[x4 m,hd]
   ·rw[ZP e]
  rw[v];exact YY (bm (σ:=.yx) rfl rfl<|sx .A3<|sx (bU .wV)<|aJ<|Jd rfl rfl (jh l) hd a) aU
noncomputable abbrev rf(Z:.hA):List D:=Z.map λz=>D.ref z.1
noncomputable abbrev LZ(h:Hd)(Z:.hA):Prop:=∀z∈Z,h[z.1]?=some (.lst<|NL z.2)
def LZ.more(z:LZ h Z)(g:Hd):LZ .M Z:=λx a=>aH g (z x a)
def GR{x:D}(c:dC g all h)(t:.jm)(b:e σ' h=.as h1)(r:cz g all tg [] e xs σ' h1=.ok ds a):cz g all tg [] e .bC σ h=.ok (d::ds) a:=by
 simp[cz,c,t,i7,b,r]
def vI(v:.i)(p:Nat):NL v++[.int (p:Nat)]=NL (v++[p]):=by simp
theorem VX{L p:Nat}{all:List D}:∀{Z:.hA} {h:Hd} {a:.G},h[L]?=some (.lst all)->LZ h Z->(∀z∈Z,z.2.length<=30)->
  ∃d g,cz (some L) all .K [] (aW .kk) .cK [a,some .h2] h=.ok (rf d) .M/\LZ .M d/\d.map (·.2)=(Z.map (·.2)).map (· ++ [p])
 |[],h,a,hL,_,_=>⟨[],[],(by simp[cz,dC,hL]),(λz hz=>nomatch hz),rfl⟩
 |(b,v)::Z,h,a,hL,hz,e=>by
  have f:h[b]?=some .ep:=hz (b,v) .fE;have l:v.length<=30:=e (b,v) .fE;have j:aW .cB [some .fg,some .h2] h=.bf (h++[.lst [.int (p:Nat)]]):=bF .bz .gY;have k:aW .kk [some .fg,some .h2] h=.ok (.ref (.z5).length) (h++[.lst [.int (p:Nat)]]++[.lst .n9]):=by
   refine YY (bF (oX rfl j (.k f) ZG .cb) .cb) ?_;rw[vI]
  obtain⟨d,g,q1,q2,q3⟩:=VX (.k<|.k hL) (LZ.more (LZ.more (λz c=>hz z (.eF c)) _) _) (λz c=>e z (.eF c));refine⟨((.z5).length,v++[p])::d,[.lst [.int (p:Nat)],.lst .n9]++g,?_,?_,?_⟩
  ·refine YY (GR hL rfl k q1) ?_
   simp
  ·have i:h++([.lst [.int (p:Nat)],.lst .n9]++g)=h++[.lst [.int (p:Nat)]]++[.lst .n9]++g:=by simp
   rw[i];intro z c;rcases xB.mp c with rfl|c
   ·exact .k ZG
   ·exact q2 z c
  ·simp[q3]
/---/def lV(l:.i):List .bJ:=l.foldl (λacc p=>acc++acc.map (· ++ [p])) [[]]
def sY(l:.i)(p:Nat):lV (l++[p])=lV l++(lV l).map (· ++ [p]):=by simp[lV]
def xr(l:.i):∀k,k=l.length->(lV l).length=2^k:=by
 intro k
 induction k generalizing l with
 |zero=>intro h;rw[X1.mp h.symm];rfl
 |succ k a =>
  intro h;have:l≠[]:=λz=>by rw[z]at h;cases h
  rw[<-List.dropLast_concat_getLast this,sY,ZB,ZA,a l.dropLast .yP,Nat.pow_succ];omega
def OI(l:.i):(lV l).map (λv=>(v.length:Int))=Ts.popK l.length:=by
 obtain⟨k,a⟩:=qq (l.length);rw[<-a]
 induction k generalizing l with
 |zero=>rw[X1.mp a.symm];rfl
 |succ k b =>
  have:l≠[]:=λz=>by rw[z]at a;cases a
  have q:=b l.dropLast .yP;rw[<-List.dropLast_concat_getLast this,sY,ZR,q,Ts.popK,<-q,ZY,ZY];congr 1;apply YQ;intro v _;simp
theorem Je{h:Hd}:∀{Z:.hA},LZ h Z->CO h .cK=some .rz
 |[],_=>rfl
 |(b,v)::Z,hz=>by
  have c:h[b]?=some .ep:=hz (b,v) .fE;have e:CN h .fg=some (v.length:Int):=by simp[CN,c]
  show (match CN h (.ref b),CO h .cK with|some k,some kz=>some (k::kz)|_,_=>none)=_;rw[e,Je λz a=>hz z .jB];rfl
def Rm(Z:.hA):(.fs<|(.rz).zip .cK).map (·.2)=rf .qN:=by
 have:(.rz).zip .cK=Z.map λz=>((z.2.length:Int),D.ref z.1):=by
  rw[List.zip_map']
 rw[this,Ts.byK_map (λz:Nat × List Nat=>((z.2.length:Int),D.ref z.1)) .Br (·.1) .fR,ZY];rfl
def Rn(t:tg d σ=some σ')(p:.pn):aG tg e σ h=.nx σ' h':=by dsimp[aG,p,outE,t]
noncomputable abbrev BX(i j:Nat):SF:=(aG (gN i)<|aW .CG)
structure SX(i j:Nat)(X:Nat->Option D->Sd):Prop where
 v:∀L y g,aa i (X L y) g=.ok (.ref L) g
 s:∀L y L',gN i (.ref L') (X L y)=some (X L' y)
 t:∀L y x,gN j x (X L y)=some (X L .fh)
 c:∀L x,fS 1 [j] (X L .fh)=[none,some x]
/---/def W6(X:Nat->Option D->Sd)(fr:.i)(h:Hd)(i:Nat)(σ:Sd)(h':Hd):Prop:=∃L g Z y,σ=X L y/\h'=h++g/\h'[L]?=some .g0/\LZ h' Z/\Z.map (·.2)=lV (fr.take i)/\∀z∈Z,z.2.length<=i
def zW(V:SX i j X){fr:.i}(C:h[f]?=some .tV)(w:fr.length<=6):
  ∃L g Z y,gu (some f) (NL fr) (gN j) (BX i j) (NL fr) (X (h.length+1) none) .yN=.nx (X L y) .M/\.M[L]?=some .g0/\LZ .M Z/\Z.map (·.2)=lV fr/\Z.length<=512:=by
 obtain⟨_,_,v,L,g,Z,y,rfl,rfl,n,l,e,o⟩:=cP (P:=W6 X fr h) (g:=some f) (λ_ _ _ p=>by obtain⟨_,_,_,_,_,rfl,_⟩:=p;exact .k C) (xs:=NL fr) (tg:=gN j) (σ:=X (h.length + 1) none) (h:=h++[.lst [],.lst [.ref h.length]]) (b:=BX i j) (by
   rintro m x _ _ q ⟨L,g,Z,y,rfl,rfl,n,l,e,o⟩;have s:m<fr.length:=by have:=(z0.mp q).1;rwa[ZA]at this
   rw[ZQ,ZE s]at q;cases q;rw[Z6]at e o⊢;obtain⟨d,k,q1,q2,q3⟩:=VX (p:=fr[m]) (a:=none) n l (λz c=>ZM (o z c) .a);have I:Z.length<=512:=by
    have:=.hL e;rw[ZA,xr _ m .S]at this;rw[this];exact wb .b (show m<=9 by omega)
   have E:d.length=Z.length:=by have:=.hL q3;simpa using this
   have G:aW .vp .zt .M=.ok (.ref (h++g++k).length) (h++g++k++[.lst (rf d)]):=bF (ce (cy (V.v _ _ _) n) (by rw[V.c];exact q1)) .cb;have A:aW .CG .zt .M=.ok (.ref (.AE).length) .qV:=bF (oX (V.v _ _ _) G (.k<|.k n) ZG .cb) .cb;refine⟨_,V.t _ _ _,_,_,Rn (V.s _ _ _) A,?_⟩;have F:h++g++k++[.lst (rf d)]++[.lst (rf Z++rf d)]=h++(g++(k++([.lst (rf d)]++[.lst (rf Z++rf d)]))):=by simp
   have r:.qV[(.AE).length]?=some (.lst<|rf<|Z++d):=by rw[ZG,show rf (Z++d)=rf Z++rf d from ZR]
   have t:LZ .qV (Z++d):=λz c=>by
    rcases Z1.mp c with c|c
    ·exact .k (.k<|.k<|l z c)
    ·exact .k (.k<|q2 z c)
   rw[F]at r t⊢;refine⟨_,_,Z++d,_,rfl,rfl,r,t,?_,λz c=>?_⟩
   ·rw[ZR,q3,e,X7 s,sY]
   ·rcases Z1.mp c with c|c
    ·exact zZt (o z c)
    ·have:z.2∈d.map (·.2):=z5.mpr ⟨z,c,rfl⟩
     rw[q3,ZY]at this;obtain⟨u,B,H⟩:=z5.mp this;have:=o u B;rw[<-H];simp;omega) ⟨_,_,[(h.length,[])],_,rfl,rfl,by simp,λz l=>by
    rw[YE.mp l];simp,rfl,λz l=>by rw[YE.mp l];exact ZL _⟩
 rw[Z6,ZA,zYg]at e;refine⟨L,g,Z,y,v,n,l,e,?_⟩;have:=.hL e;rw[ZA,xr _ _ rfl]at this;rw[this];exact wb .b (ZM w .b:fr.length<=9)
def OJ(h:Hd):aW (ab .aE ar) σ h=.ok .mY .yN:=by
 refine YY (bF (.cw<|bF rfl .b) .gY) ?_;simp
def DW{fr:.i}(b:h[f]?=some .tV)(c:fr.length<=6):
  ∃g K Z,j8 [.ref f] h=.ok (.ref K) .M/\.M[K]?=some .g0/\LZ .M Z/\Z.map (·.2)=Ts.byK (λv:List Nat=>(v.length:Int)) (lV fr):=by
 obtain⟨L,g,Z,y,m,n,d,e,q⟩:=zW (i:=1) (j:=2) (X:=λL y=>[some (.ref f),some (.ref L),y]) ⟨λ_ _ _=>rfl,λ_ _ _=>rfl,λ_ _ _=>rfl,λ_ _=>rfl⟩ b c;have o:nX .f [some (.ref f),some (.ref L),y] .M=.ok (rf .qN) .M:=by
  unfold nX;have p:ee .M (.ref L)=some .cK:=by simp[ee,n]
  show (match ee .M (.ref L) with|some l=>_|none=>_)=_;rw[p];dsimp[Je d];rw[z4 ⟨fr.length,c,by
   have:=congrArg (List.map λv:List Nat=>(v.length:Int)) e;rw[ZY]at this;exact this.trans (OI fr)⟩,Rm]
 have k:=Ts.byK_perm (λz:Nat × List Nat=>(z.2.length:Int)) Z;refine⟨g++[.lst (rf .qN)],(.M).length,Ts.byK (λz:Nat × List Nat=>(z.2.length:Int)) Z,?_,?_,?_,?_⟩
 ·refine YY (.v<|sx (aA<|OJ h)<|sx .Bc<|aJ<|bF o (by rw[ZA,k.length_eq];simp[SZ];omega)) (cL.trans ?_)
  rw[ZU]
 ·rw[<-ZU];exact ZG
 ·rw[<-ZU]
  exact LZ.more (λz a=>d z (k.mem_iff.mp a)) _
 ·rw[<-e,Ts.byK_map (λz:Nat × List Nat=>z.2) .Br (λv:List Nat=>(v.length:Int)) .fR]
theorem GS(A B:Nat->List .bA)(f s:.d3):∀n,S2 (λk=>A k++B k) f s n=S2 A f s n+S2 B f s n
 |0=>rfl
 |k+1=>by
  dsimp[S2,GS A B f s k,ZR,List.sum_append];omega
theorem GU(f s:.d3):∀n,S2 (λ_=>[]) f s n=0
 |0=>rfl
 |k+1=>by simp[S2,GU f s k]
def W7{l m:.c}(p:l.Perm m):l.sum=m.sum:=by
 induction p with
 |nil=>rfl
 |cons x _ c=>simp[c]
 |swap x y l=>simp;omega
 |trans _ _ a b=>exact a.trans b
theorem Jf{A B:Nat->List .bA}(f s:.d3):∀n,(∀i,i<n->(A i).Perm (B i))->S2 A f s n=S2 B f s n
 |0,_=>rfl
 |k+1,h=>by
  have p:=W7 ((h k<|Z9 k).map λp:Nat × Int=>p.2*f p.1*s k);dsimp[S2,Jf f s k λi a=>h i (ZZ a),p]
/---/def Bx(t:Tie)(i:Nat):List .bA:=match far i t with|some j=>[(j,t.w)] | none=>[]
def VY(t:Tie):Bx t t.a=[(t.b,t.w)]:=by simp[Bx,far]
def VZ(h:t.a≠t.b):Bx t t.b=[(t.a,t.w)]:=by simp[Bx,far,h]
def V0(h1:t.a≠i)(a:t.b≠i):Bx t i=[]:=by simp[Bx,far,h1,a]
theorem GV(t:Tie)(d:t.a≠t.b)(f s:.d3):∀n,S2 (Bx t) f s n=(if t.a<n then t.w*f t.b*s t.a else 0)+(if t.b<n then t.w*f t.a*s t.b else 0)
 |0=>rfl
 |k+1=>by
  dsimp[S2,GV t d f s k]
  by_cases a:t.a=k
  ·subst a
   rw[VY];have h1:¬t.a<t.a:=YF _
   by_cases b:t.b<t.a
   ·simp[b,ZZ b];omega
   ·have:¬t.b<t.a+1:=by omega
    simp[b,this]
  ·by_cases b:t.b=k
   ·subst b
    rw[VZ d]
    by_cases c:t.a<t.b
    ·simp[c,ZZ c]
    ·have:¬t.a<t.b+1:=by omega
     simp[c,this]
   ·rw[V0 a b]
    have h1:t.a<k+1↔t.a<k:=by omega
    have e:t.b<k+1↔t.b<k:=by omega
    simp[h1,e]
theorem OK{n:Nat}(f s:.d3):∀T:List Tie,(∀t∈T,t.a≠t.b)->(∀t∈T,t.a<n/\t.b<n)->S2 (nbs T) f s n=S2 (nbs T) s f n
 |[],_,_=>by
  have:nbs []=λ_=>[]:=by funext i;rfl
  rw[this,GU,GU]
 |t::T,h,l=>by
  have e:nbs (t::T)=λk=>Bx t k++nbs T k:=by
   funext i;unfold nbs Bx;rw[vr];cases far i t<;>rfl
  obtain⟨d,c⟩:=l t .d4;rw[e,GS,GS,OK f s T (λb a=>h b .jB) (λb a=>l b .jB),GV t (h t .d4),GV t (h t .d4),z4 d,z4 c,z4 d,z4 c];rw[Int.mul_right_comm t.w (f t.b),Int.mul_right_comm t.w (f t.a)];omega
theorem V1(x:.cO):∀r,(pW x r).Perm (x::r)
 |[]=>.refl _
 |y::r=>by
  unfold pW;split
  ·exact .refl _
  ·exact((V1 x r).cons y).trans .ui
theorem Sj:∀r,(c5 r).Perm r
 |[]=>.refl _
 |x::r=>(V1 x _).trans ((Sj r).cons x)
def Ro(O:.an)(bs:.c)(ss:.Q)(f s:.d3):S2 .rQ f s n=S2 .rQ s f n:=by
 have c:∀f s,S2 .rQ f s n=S2 (nbs T) f s n:=λf s=>Jf f s n λi a=>by
  have e:(.P).ties.getD i []=c5 .bn:=by simp[bg,List.getD,a]
  rw[e];exact Sj _
 rw[c,c,OK f s T O.ne O.lt]
theorem php:∀(N t:Nat) (f:Nat->Nat),(∀i,i<=t->f i<N)->(∀i j,i<j->j<=t->f i≠f j)->t+1<=N
 |0,t,f,h,_=>by have:=h 0 .ey;omega
 |N+1,0,f,_,_=>by omega
 |N+1,t+1,f,h,d=>by
  have g:=h (t + 1) .o;have:=php N t (λi=>if f i < f (t + 1) then f i else f i - 1) (λi e=>by
   have b:=h i .a;have c:=d i (t+1) .a .o;split<;>omega) (λi j a l=>by
   have b:=d i j a .a;have c:=d i (t+1) .a .o;have k:=d j (t+1) .a .o;split<;>split<;>omega)
  omega
noncomputable def ye:List Int->Nat
 |[]=>0
 |x::xs=>2*ye xs+x.toNat
theorem Jg:∀xs:List Int,(∀x∈xs,x=0\/x=1)->ye xs<2^xs.length
 |[],_=>by decide
 |x::xs,h=>by
  have b:=Jg xs λy a=>h y .jB;rw[Z2,Nat.pow_succ];show 2*ye xs+x.toNat<_;rcases h x .d4 with e|e<;>subst e<;>simp<;>omega
theorem DX:∀xs ys:List Int,xs.length=ys.length->(∀x∈xs,x=0\/x=1)->(∀x∈ys,x=0\/x=1)->ye xs=ye ys->xs=ys
 |[],[],_,_,_,_=>rfl
 |[],_::_,h,_,_,_=>by simp at h
 |_::_,[],h,_,_,_=>by simp at h
 |x::xs,y::ys,h,d,f,c=>by
  have c:2*ye xs+x.toNat=2*ye ys+y.toNat:=c;have e:x=y/\ye xs=ye ys:=by
   rcases d x .d4 with e|e<;>rcases f y .d4 with b|b<;>subst e b<;>simp at c⊢<;>omega
  rw[e.1,DX xs ys .nA (λz a=>d z .jB) (λz a=>f z .jB) e.2]
structure Go(w:Web)(n:Nat):Prop where
 W:w.Ok n
 n6:n<=6
 S:gx w
 more:Ul w w n
 sym:∀f s,S2 .hU f s n=S2 .hU s f n
def Go.n8(G:Go w n):n<=8:=ZM G.n6 .b
def Go.n30(G:Go w n):n<=30:=ZM G.n8 .b
structure By(w:Web)(n:Nat)(s:.c)(t:Nat):Prop where
 ht:.ba (t+2)=.ba t
 hm:∀k,k<t->bA w n s (k+2)≠bA w n s k
 hz:t<=900000
def Go.fin(G:Go w n)(F:.a5):∃t,By w n s t:=by
 obtain⟨t,g,d⟩:=W0 G.W G.S F G.sym;have:=php 256 t (λi=>ye .k9) (λi _=>by
  have b:=Jg .k9 (.jG i).op;rw[(.jG i).len]at b;exact Z0 b (wb .b G.n8)) (λi j f h e=>by
  have a:=cE G.W G.S F i;have c:=cE G.W G.S F j;have q:=DX _ _ (by rw[a.len,c.len]) a.op c.op e;have p:=Sa G.W G.S F G.sym (d i .a);have o:=Sb G.W G.S F G.sym (k:=i+1) (m:=j) .a;have l:eN w n s i=eN w n s j:=by
   unfold eN;show iy w .k9 (dD w n .k9) n=iy w (.d8 j) (dD w n<|.d8 j) n;rw[q]
  omega)
 exact⟨t,g,d,by omega⟩
structure Sk(w:Web)(n:Nat)(s:.c)(t:Nat):Prop where
 re:.ba (t+1)=.ba t
 no:(0:Int)∉bA w n s (t+1)
section
variable{w:Web}{n:Nat}{s s':.c}{t t':Nat}
def Jh(F:.a5)(no:(0:Int)∉s):s=List.replicate n 1:=by
 have l:s.length=n:=F.len;apply List.ext_getElem (by rw[l,zZn]);intro i a c;have b:=ja F i;rw[ZF,ZE a]at b;rw[List.getElem_replicate];rcases b with b|b
 ·exact absurd (b▸YM a) no
 ·exact b
def By.one(a:By w n s t)(b:By w n s t'):t=t':=by
 rcases Nat.lt_trichotomy t t' with c|c|c
 ·exact absurd a.ht (b.hm t c)
 ·exact c
 ·exact absurd b.ht (a.hm t' c)
open Classical in
/---/def tb(w:Web)(n:Nat)(l:.i):Bool:=decide (∃t,By w n .au t/\Sk w n .au t)
def zX(E:By w n .au t):.c1 l=true↔Sk w n .au t:=by
 unfold tb;exact(@decide_eq_true_iff _<|Classical.propDecidable _).trans ⟨λ⟨t',a,T⟩=>E.one a▸T,λT=>⟨t,E,T⟩⟩
def V2(E:By w n .au t):DV w n .au t=if tb w n l=true then TRN else NOT:=by
 unfold DV
 by_cases c:bA w n .au (t+1)=bA w n .au t
 ·rw[z4 c]
  by_cases z:(0:Int)∈bA w n .au (t+1)
  ·rw[z4 z,y3 λq=>((zX E).mp q).no z]
  ·rw[y3 z,z4 ((zX E).mpr ⟨c,z⟩)]
 ·rw[y3 c,y3 λq=>c ((zX E).mp q).re]
def Rp(G:Go w n)(C:.eC):vW w n .au .i3:=by
 obtain⟨t,E⟩:=G.fin .nV;exact⟨t,E.hz,E.ht,E.hm,V2 E⟩
def Rq(G:Go w n)(C:.eC)(E:By w n .au t):(!decide ((0:Int)∈bA w n .au (t+1)) && !decide ((0:Int)∈bA w n .au t))=.c1 l:=by
 have F:=jR G.W G.S C
 by_cases a:(0:Int)∈bA w n .au (t+1)
 ·rw[x3 a]
  cases c:tb w n l with
  |false=>rfl
  |true=>exact absurd a ((zX E).mp c).no
 ·rw[xC a]
  by_cases b:(0:Int)∈bA w n .au t
  ·rw[x3 b]
   cases c:tb w n l with
   |false=>rfl
   |true=>have:=((zX E).mp c).re;rw[this]at a;exact absurd b a
  ·rw[xC b]
   exact((zX E).mpr ⟨(Jh (.jG _) a).trans (Jh (.jG _) b).symm,a⟩).symm
def OL(G:Go w n)(C:.eC)(a:.f7):∃L g,eS .nR h=.ok (.tup [if tb w n l=true then TRN else NOT,L]) .M:=by
 obtain⟨t,E⟩:=G.fin .nV;have:=rk G.W G.n30 G.S C a rfl E.ht E.hm E.hz;rw[V2 E]at this;exact⟨_,_,this⟩
end
section
variable{Z n:Nat}{M:.ad}{bs:.c}{ss:.Q}{bk sk:Nat}{h:Hd}{T:.V}{w:Web}{td:D}
structure Lw(Z n:Nat)(M:.ad)(bs:.c)(ss:.Q)(bk sk:Nat)(T:.V)(w:Web)(td:D)(h:Hd):Prop where
 m:.jL sk h
 L:LP n M n 0 T
 w':w=bg n T bs ss
 t':td=.tup .eh
def Lw.more(l:.f5)(g:Hd):Lw Z n M bs ss bk sk T w td .M:=⟨l.m.more g,l.L,l.w',l.t'⟩
def Lw.turn(l:.f5)(F:.a5):iB [td,aK s] h=.ok (aK .de) h:=by
 rw[l.w',l.t'];exact UD l.m l.L F.len λi=>ja F i
def Lw.many(l:.f5)(e:σ[0]?=some (some td)):cM (lOf .cD) σ h=.ok (.int (n:Nat)) h:=by
 have v:aa 0 σ h=.ok td h:=by dsimp[aa,slot,e]
 rw[l.t']at v;refine YY (dz<|cv (.jE v)<|aF l.m.ba) ?_;rw[ZA,l.m.lb]
def GW(G:Go w n)(l:.f5)(F:.a5)(E:By w n s t):oV [td,aK s] h=.bf .gS:=by
 have len:∀k,(.es).length=n:=λk=>(.jG k).len;have d:∀k x,aG .aI .ya .mQ .b0=.nx .qI .b0:=λk x=>by
  have p:atI .gs (-1)=some (aK<|.d8<|k+1):=iA (k+1) 1 .b;exact aA (au (.b8<|.bc (aF ZG) p)<|(l.more _).turn (.jG<|k+1))
 have e:∀k,tE (ag oEq .j .mg) .qI .b0=.ok (decide (.ba (k+2)=.ba k)) .b0:=λk=>by
  have r:atI .gs (-2)=some (aK .es):=iA k 2 .b;exact aM (aj rfl .Cg<|II ((len _).trans (len _).symm) _)
 have c:∀j k x,k+j=t->eU (tE<|fC .ej) mU (j+1) .mQ .b0=.rt .A .gS:=by
  intro j
  induction j with
  |zero =>
   intro k x f;have f:k=t:=f;subst f;have b:=e k;rw[x3 E.ht]at b;have a:mU .mQ .b0=.rt .A .b0:=sx (d k x) (gG<|(fI b).trans .dU);rw[eU];dsimp[tE,asB,fC,aE,a]
  |succ j o =>
   intro k x f;have b:=e k;rw[xC (E.hm k .a)]at b;have m:(.gs).length<SZ:=by rw[ZA,jM];have:=E.hz;dsimp[SZ];omega
   have a:mU .mQ .b0=.nx .qI (h++[.lst ((.d7<|k+1+2).map aK)]):=by
    rw[show bu w n s (k+1+2)=bu w n s (k+2)++[.ba (k+2)] from wL (k+2),ZR];exact sx (d k x) (sx (bU b)<|(dW<|ju rfl ZG rfl ZG m).trans (by rw[iW rfl];rfl))
   rw[eU];dsimp[tE,asB,fC,aE,a];exact o (k+1) _ .a
 have i:=zj (c t 0 none<|Z6 t) .d;have q:[aK s,aK .de]=(.d7 2).map aK:=by simp[bu,yi,bA]
 have g:.dy .y5 [some td,some .aC,none,none] h=.nx [some td,some .aC,some .A,none] (h++[.lst ((.d7<|0+2).map aK)]):=by
  rw[show 0+2=2 from rfl,<-q];exact aA (bF<|.b7<|.cw<|.ab<|l.turn F)
 exact (.v<|sx g i).trans cL
def Rr(G:Go w n)(f:w.stays=ss){c:.i}(C:Ch w n c):DR ss .qf=dF w n c:=by
 subst f;unfold DR dF;rw[ZA,ZO];refine YQ λi b=>?_;have b:=YU.mp b;have e:(.qf).getD i 0=b2i (decide (i∈c)):=by simp[List.getD,b]
 rw[e];have mem:w.stays.getD i none∈w.stays:=by
  have d:i<w.stays.length:=by rw[G.W.s];exact b
  rw[ZF,ZE d];exact YM d
 have no:=λg=>C.no i g;rcases G.S _ mem with z|z|z<;>rw[z]at no⊢
 ·by_cases a:i∈c
  ·simp[a]
  ·simp[a]
 ·by_cases a:i∈c
  ·exact absurd rfl (no a)
  ·simp[a]
 ·simp
def Rs{c:.i}(b:h[k]?=some (.lst<|NL c))(a:.G):.u1 [] (uO<|ag oIn .e .f) ((.t).map λk:Nat=>D.int k) [a,some .aB] h=.ok .iD h:=by
 have:=bB (g:=none) (all:=(.t).map λk:Nat=>D.int k) (tg:=gN 0) (cs:=[]) (e:=uO (ag oIn .e .f)) (I:=λσ=>∃a,σ = [a,some .gf]) .bb (λd=>match d with | .int i=>.int (b2i<|decide (i.toNat∈c))|_=>.non) trivial (xs:=(.t).map λk:Nat=>D.int k) (σ:=[a,some .gf]) (by
  rintro x f σ ⟨a,rfl⟩;obtain⟨i,j,rfl⟩:=z5.mp f;exact⟨_,rfl,⟨_,rfl⟩,rfl,λ_=>sA (.ah<|OA b i)⟩) ⟨_,rfl⟩
 rw[this,Z5.mpr .y,ZY,ZY];rfl
def xt(G:Go w n)(l:.f5){c:.i}(C:Ch w n c)(o:h[k]?=some (.lst<|NL c)):gJ [td,.ref k] h=.ok (.bl<|.c1 c) h:=by
 obtain⟨t,E⟩:=G.fin .nV;have q:w.stays=ss:=by rw[l.w'];rfl
 have v:=G.n30;have u:aW .w8 [some td,some .gf,none,none] h=.ok .a7 (h++[.lst .iD]):=bF (ce .CI<|Rs o none) .cb;have g:=GI (l.more [.lst .iD]).m .d ZG;rw[Rr G q C,<-l.t']at g;have m:=GW G (l.more [.lst .iD]) .nV E;have r:atI .mL (-1)=some (aK<|bA w n (dF w n c)<|t+1):=iA (t+1) 1 .b;have s:atI .mL (-2)=some (aK<|bA w n (dF w n c) t):=iA t 2 .b;obtain⟨a,d⟩:=qq (h++[bJ.lst .iD]++[bJ.lst .mL]);obtain⟨A,f⟩:=qq ((h++[bJ.lst .iD]).length);have j:a[A]?=some (.lst .mL):=by rw[d,f];exact ZG
 rw[<-f,<-d]at m;have b:tE .rO .qQ a=.ok (!decide .yQ) a:=aM (aj rfl (.bc (aF j) r)<|zU _ 0 _);have p:tE .q8 .qQ a=.ok (!decide ((0:Int)∈bA w n (dF w n c) t)) a:=aM (aj rfl (.bc (aF j) s)<|zU _ 0 _);have x:jS (tE .rO) (tE .q8) .qQ a=.ok (.c1 c) a:=by
  rw[<-Rq G C E];cases e:decide .yQ with
  |true=>rw[e]at b;exact qG b
  |false=>rw[e]at b;exact jt b p
 refine YY (.v<|sx (aA<|au (.b8 u) g)<|sx (aA<|.ab m)<|aJ<|n9 x) ?_;rw[d,ZU];exact bT rfl
end
theorem DY:∀(l:.i) (acc:.aQ) (v:.i),v∈l.foldl (λacc p=>acc++acc.map (· ++ [p])) acc ↔ ∃u∈acc,∃s,s.Sublist l/\v=u++s
 |[],acc,v=>by
  constructor
  ·intro h;exact⟨v,h,[],.slnil,by simp⟩
  ·rintro⟨u,a,s,b,rfl⟩
   rw[List.sublist_nil.mp b,XA];exact a
 |p::l,acc,v=>by
  rw[zZr,DY l];constructor
  ·rintro⟨u,a,s,b,rfl⟩
   rcases Z1.mp a with a|a
   ·exact⟨u,a,s,b.cons p,rfl⟩
   ·obtain⟨d,c,rfl⟩:=z5.mp a
    exact⟨d,c,p::s,b.cons₂ p,by simp⟩
  ·rintro⟨u,a,s,b,rfl⟩
   rcases List.sublist_cons_iff.mp b with b|⟨r,rfl,e⟩
   ·exact⟨u,Z1.mpr (.inl a),s,b,rfl⟩
   ·exact⟨u++[p],Z1.mpr (.inr<|z5.mpr ⟨u,a,rfl⟩),r,e,by simp⟩
variable{v:.i}
def rm:v∈lV l↔v.Sublist l:=by
 unfold lV;rw[DY];constructor
 ·rintro⟨u,a,s,b,rfl⟩
  rw[YE.mp a];exact b
 ·intro h;exact⟨[],.head _,v,h,rfl⟩
/---/def W8(j i:Nat):Bool:=decide (j/2^i%2=1)
/---/def pick(l:.i)(j:Nat):List Nat:=((.ip).filter (W8 j)).map λi=>l.getD i 0
/---/def fr(ss:.Q)(n:Nat):List Nat:=(.t).filter λi=>(.cc).isNone
def DZ(h:v.Sublist .aZ):Ch w n v:=by
 have b:(.aZ).Pairwise (· < ·):=List.Pairwise.filter _ zYj;refine⟨b.sublist h,λp a=>YU.mp (YN.mp<|h.subset a).1,λp a e=>?_⟩;have:=(YN.mp<|h.subset a).2;rw[e]at this;cases this
def lh(ss:.Q)(n:Nat):(.lq).length<=n:=by
 have:=XU (λi=>(.cc).isNone) .t;rwa[ZO]at this
section
variable{Z n:Nat}{M:.ad}{bs:.c}{ss:.Q}{bk sk:Nat}{h:Hd}{T:.V}{w:Web}{td:D}
def GX(p:Nat->Bool)(q:D->Bool)(a:∀i:Nat,q .u=p i):(((.t).map λk:Nat=>D.int k).filter q).map (λd=>d)=NL ((.t).filter p):=by
 rw[List.map_id',zXl];congr 2;funext i;exact a i
def zY(l:.f5){t:EF->TF}(p:Option Int->Bool)(ht:∀i:Nat,i<n->t .nc [some .u,some td] h=.ok (p .cc) h):.u1 [t .nc] .e ((.t).map λk:Nat=>D.int k) [none,some td] h=.ok (NL<|(.t).filter λi=>p .cc) h:=by
 have:=bB (g:=none) (all:=(.t).map λk:Nat=>D.int k) (tg:=gN 0) (e:=aa 0) (I:=λσ=>∃a,σ = [a,some td]) (λd=>match d with | .int i=>p .B0|_=>false) (λd=>d) trivial (xs:=(.t).map λk:Nat=>D.int k) (σ:=[none,some td]) (by
  rintro x c σ ⟨a,rfl⟩;obtain⟨i,b,rfl⟩:=z5.mp c;exact⟨_,rfl,⟨_,rfl⟩,oP (ht i<|YU.mp b),λ_=>rfl⟩) ⟨_,rfl⟩
 rw[this,GX (λi=>p .cc) _ λi=>rfl]
def Ji(l:.f5)(hi:i<n):fAt (fAt .f .R) .e [some .u,some td] h=.ok (bj .cc) h:=by
 have a:i<ss.length:=by rw[l.m.ls];exact hi
 rw[l.t'];refine aR .bi rfl (aF l.m.st) (du ?_);rw[ZQ,ZF,ZE a];rfl
def Jj(u:.aK):pi (bj u)=u.isNone:=by cases u<;>rfl
/---/def chL(ss:.Q)(n:Nat):List Nat:=(.t).filter λi=>decide .AS
def D0(l:.f5)(n30:n<=30):i3 [td] h=.bf (h++[.lst (NL .oG)]):=by
 have c:=zY l (t:=λa=>tE (.bG a .B)) (λu=>decide (u≠some 0)) (λi d=>aM (aj (Ji l d) rfl<|Jb _ _));have b:(.oG).length<=n:=by
  have:=XU (λi=>decide .AS) .t;rwa[ZO]at this
 exact (.v<|aJ<|bF (ce .CI c) (by rw[ZA];exact ZM b (oh n30))).trans cL
def D1(ss:.Q):im .aj=(.si).map λi=>D.tup [.int (i:Nat),bj .cc]:=by
 unfold im;rw[ZA];apply YX;intro i
 by_cases a:i<ss.length
 ·have z:((.si).zip .aj)[i]?=some (i,bj .cc):=by
   rw[zXg];exact⟨YT a,by rw[ZQ,ZF,ZE a];rfl⟩
  rw[ZQ,z,ZQ,YT a];rfl
 ·rw[YD .S,YD .S]
theorem uG{tg:GF}{h:Hd}(I:Sd->Prop)(p:D->Bool)(f:D->D)(a:G h):
  ∀{xs:List D} {σ:Sd},(∀x∈xs,∀σ,I σ->∃σ',tg x σ=some σ'/\I σ'/\i7 cs σ' h=.ok (p x) h/\.rs)->I σ->dQ G tg cs e xs σ h=.ok .sn h
 |[],_,_,_=>by unfold dQ;rw[z4 a];rfl
 |x::xs,σ,st,i=>by
  obtain⟨σ',h1,k,j,d⟩:=st x ZV σ i;have b:=uG I p f a (λy g=>st y (ZW _ g)) k;unfold dQ;rw[z4 a,h1];dsimp[j,aE];cases c:p x with
  |true=>rw[List.filter_cons_of_pos c,y6,d c];simp[b]
  |false=>rw[List.filter_cons_of_neg (by rw[c];decide),b];simp
def xu(W:w.Ok n)(n30:n<=30)(h:Hd):jP .a3 h=.ok .mY (h++[.lst .bg,.lst .dk]):=by
 have l:(.bg).length<=SZ:=by rw[ZA,W.s];exact oh n30
 have m:bM .a3 h=.bf .fI:=(.v<|aJ<|bF (cv .bi rfl) l).trans cL;have f:.fI[h.length]?=some .lS:=ZG;have k:dQ (λc=>c[h.length]?=some .lS) .ck [.im] .e (im .bg) [none,none] .fI=.ok .dk .fI:=by
  have:=uG (G:=λc=>c[h.length]? = some .lS) (tg:=gT [0,1]) (cs:=[.im]) (e:=aa 0) (I:=λσ=>∃a b,σ = [a,b]) (λd=>match d with | .tup [_,x]=>pi x|_=>false) (λd=>match d with | .tup [x,_]=>x|_=>.non) f (xs:=im .bg) (σ:=[none,none]) (λy g σ ⟨a,b,e⟩=>by
   subst e;rw[D1]at g;obtain⟨i,_,rfl⟩:=z5.mp g;exact⟨_,rfl,⟨_,_,rfl⟩,oP .cm,λ_=>rfl⟩) ⟨_,_,rfl⟩
  rw[this];congr 1;rw[D1,zXl,ZY,W.s];have e:((λd=>match d with | .tup [_,x]=>pi x|_=>false) ∘ λi:Nat=>D.tup [.int (i:Nat),bj .mI])=λi=>(.mI).isNone:=by
   funext i;exact Jj _
  rw[e];rfl
 have j:nT 2 [] .fc .ck [.im] .e [some w.enc] h=.ok .dk .fI:=by
  have e:av bM .aG [some w.enc] h=.bf .fI:=au .bz m;unfold nT;rw[e];dsimp[f];exact k
 refine (.v<|aJ<|bF j (by rw[ZA];exact ZM (lh _ _) (oh n30))).trans (cL.trans ?_);simp
end
theorem GY:∀{b a:.i},a.Pairwise (· < ·)->b.Pairwise (· < ·)->(∀x∈a,x∈b)->a.Sublist b
 |[],a,_,_,h=>by
  cases a with
  |nil=>exact .slnil
  |cons x a=>exact absurd (h x .d4) .d
 |y::b,[],_,_,_=>List.nil_sublist _
 |y::b,x::a,g,i,h=>by
  have d:=Z4.mp g;have c:=Z4.mp i
  by_cases e:x=y
  ·subst e
   refine(GY d.2 c.2 λz f=>?_).cons₂ x;rcases xB.mp (h z (.eF f)) with q|q
   ·exact absurd (d.1 z f) (by rw[q];exact YF _)
   ·exact q
  ·refine(GY g c.2 λz f=>?_).cons y
   rcases xB.mp (h z f) with q|q
   ·have j:x∈b:=(xB.mp<|h x .fE).resolve_left e
    have k:=c.1 x j;rcases xB.mp f with r|r
    ·exact absurd (r.symm.trans q) e
    ·have:=d.1 z r
     rw[q]at this;omega
   ·exact q
theorem Jk:∀{α:Type} [DecidableEq α] {a b:List α},a.Nodup->(∀x∈a,x∈b)->a.length<=b.length
 |_,_,[],_,_,_=>YR _
 |_,_,x::a,b,nd,h=>by
  have c:=Y3.mp nd;have:=Jk (a:=a) (b:=b.erase x) c.2 λy d=>(List.mem_erase_of_ne (λe:y=x=>c.1 (e▸d))).mpr (h y<|.eF d);rw[List.length_erase_of_mem (h x .fE)]at this;have p:=List.length_pos_of_mem (h x .fE);rw[Z2];omega
def Rt(nd:l.Nodup):∃mo:List Nat,(iG .dX).map D.int=NL mo/\mo.Pairwise (· < ·)/\∀x,x∈mo↔x∈l:=by
 have d:=iM .dX;have f:∀z∈iG .dX,0<=z:=λz c=>by
  obtain⟨k,_,rfl⟩:=z5.mp (d.mem_iff.mp c);omega
 have j:(iG .dX).Nodup:=d.nodup_iff.mpr (by
  unfold kyL;rw[Y0,Y5];exact(Y0.mp nd).imp λ{a b} h e=>h (Int.ofNat.inj e))
 refine⟨(iG .dX).map Int.toNat,?_,?_,λx=>?_⟩
 ·unfold NL
  rw[ZY];refine YQ λz c=>?_;show D.int z=D.int ((z.toNat:Nat):Int);rw[Int.toNat_of_nonneg (f z c)]
 ·rw[Y5]
  refine((mE (r:=kyL l)).and (Y0.mp j)).imp_of_mem ?_;intro a b m i ⟨o,p⟩;have:=f a m;have:=f b i;omega
 ·rw[z5]
  constructor
  ·rintro⟨z,c,rfl⟩
   obtain⟨k,g,rfl⟩:=z5.mp (d.mem_iff.mp c);simpa using g
  ·intro n
   exact⟨(x:Int),d.mem_iff.mpr (z5.mpr ⟨x,n,rfl⟩),by simp⟩
section
variable{w:Web}{n:Nat}
structure Kk(w:Web)(n:Nat)(mm:.cQ):Prop where
 nd:(mm.map (·.1)).Nodup
 en:∀p∈mm,∃l,l.Sublist .aZ/\p=(kyL l,.bl .i3)
def Kk.len(K:Kk w n mm)(c:n<=8):mm.length<1000:=by
 have:=Jk (b:=(lV .aZ).map kyL) K.nd λx d=>by
  obtain⟨p,e,rfl⟩:=z5.mp d;obtain⟨l,a,rfl⟩:=K.en p e;exact z5.mpr ⟨l,rm.mpr a,rfl⟩
 rw[ZA,ZA,xr _ _ rfl]at this;have p:2^(.aZ).length<=2^8:=wb .b (ZM (lh _ _) c);omega
def Kk.pu(K:Kk w n mm):.Bz=true:=by
 rw[zZe];intro p a;obtain⟨l,_,rfl⟩:=K.en p a;rfl
def Kk.val(K:Kk w n mm):gj mm .dX=none\/gj mm .dX=some (.bl .i3):=by
 unfold gj;cases c:mm.find? (λp=>decide (p.1=kyL l)) with
 |none=>exact .inl rfl
 |some p =>
  have b:=List.mem_of_find?_eq_some c;have a:=List.find?_some c;obtain⟨d,_,rfl⟩:=K.en p b;have e:kyL d=kyL l:=Y4 a;rw[Rk e];exact .inr rfl
def Sl(G:Go w n)(g:l.Sublist .aZ){k d:Nat}(j:.f7)(hd:h[d]?=some .ch)(K:Kk w n mm):
  ∃c,gc [w.enc,.ref k,.ref d] h=.ok (.bl .i3) (h.set d<|.dcT c)/\Kk w n c:=by
 obtain⟨c,q,i⟩:=GQ G.W G.n30 G.S (DZ g) j hd (K.len G.n8) K.pu (Rp G<|DZ g) K.val;refine⟨c,q,?_⟩;rcases i with e|⟨s,o⟩
 ·rw[e];exact K
 ·rw[o]
  refine⟨?_,λp f=>?_⟩
  ·rw[ZR,X4]
   refine⟨K.nd,by simp,λa r b m e=>?_⟩;rw[YE.mp m]at e;obtain⟨p,f,rfl⟩:=z5.mp r;have:=List.find?_eq_none.mp (Option.map_eq_none_iff.mp s) p f;exact this (x3 e)
  ·rcases Z1.mp f with f|f
   ·exact K.en p f
   ·exact⟨l,g,YE.mp f⟩
end
theorem xv{tg:GF}{b:SF}(P:.pg)(c:.oU):
  ∀{xs:List D} {k:Nat} {σ:Sd} {h:Hd},(∀(i:Nat) x σ h,xs[i]?=some x->P (k+i) σ h->∃σ',tg x σ=some σ'/\∃σ'' a,(b σ' h=.nx σ'' a\/b σ' h=.ct σ'' a)/\P (k+i+1) σ'' a)->P k σ h->
   ∃σ' h',gu g all tg b xs σ h=.nx σ' h'/\P .n5 σ' h'
 |[],k,σ,h,_,p=>⟨σ,h,by unfold gu;exact z4 (c _ _ _ p),p⟩
 |x::xs,k,σ,h,st,p=>by
  obtain⟨σ',h1,m,n,l,f⟩:=st 0 x σ h rfl p;obtain⟨d,j,q,z⟩:=xv P c (λi y σ h e q=>by
   rw[zYm k 1 i]at q⊢;exact st (i+1) y σ h e q) f
  refine⟨d,j,?_,by rw[Z2,<-Nat.add_assoc,zYm];exact z⟩;rw[gu,z4 (c _ _ _ p),h1];rcases l with e|e<;>dsimp[e,q]
def Bz{x:D}(e:σ[i]?=some .fh):aa i σ h=.ok x h:=by dsimp[aa,slot,e]
def ow{g:Hd}{d:Nat}(hd:d<h.length)(x y:bJ):(h.set d x++g).set d y=h.set d y++g:=by
 rw[zZx _ _ (by rw[Y7];exact hd),List.set_set]
section
variable{w:Web}{n:Nat}{h:Hd}{c d:Nat}{ch:.i}
noncomputable abbrev Ho(w:Web)(n:Nat)(h:Hd)(d:Nat)(mm:.cQ)(lf:.i)(g:Hd):Hd:=h.set d .ch++(.lst (NL lf) :: .lst .bg :: .lst .dk::g)
structure LO(w:Web)(n:Nat)(h:Hd)(c d:Nat)(ch:.i)(i gk:Nat)(gr lf:.i)(mm:.cQ)(g:Hd):Prop where
 K:Kk w n mm
 gn:gr.Nodup
 gs:∀x∈gr,x∈fr w.stays n
 cg:∀x∈ch,x∈gr
 g1:gk≠d
 g2:gk≠h.length
 ga:(.gl lf g)[gk]?=some (.lst<|NL gr)
 ls:∀x∈lf,x∈fr w.stays n/\x∉ch
 ll:lf.length<=i
def GZ(hd:d<h.length){mm a:.cQ}{b:.i}:(.gl b g).set d .fZ=Ho w n h d a b g:=ow hd _ _
def W9(hd:d<h.length):.sI[d]?=some .ch:=.k (x4 hd)
def OM{b a:.i}:(.gl b g).set h.length .uj=.gl a g:=by
 unfold Ho;have:=oO (h0:=h.set d .ch) (g:=.lst (NL b) :: .lst .bg :: .lst .dk::g) (by rw[Y7]) 0 .uj;exact this
def UF:.sI[h.length]?=some .uj:=IA (by rw[Y7]) 0
def V3:.sI[h.length+2]?=some (.lst .dk):=IA (by rw[Y7]) 2
def UG:Ho w n h d mm a g++g'=.gl a (g++g'):=by unfold Ho;simp
def K7(G:Go w n)(hd:d<h.length){s f:.i}(L:LO w n h c d ch i m s f mm g)(hp:p∈fr w.stays n)(X:i<30)(y:.G):
  ∃u H B j g' O,(kJ .fy .c7=.nx .wa (Ho w n h d j B g')\/kJ .fy .c7=.ct .wa (Ho w n h d j B g'))/\LO w n h c d ch (i+1) u H B j g':=by
 have C:tE .td .fy .c7=.ok (decide (p∈s)) .c7:=aM (.ah<|OA L.ga p)
 by_cases E:p∈s
 ·rw[x3 E]at C
  refine⟨m,s,f,mm,g,y,.inr ?_,{ L with ll:=zZt L.ll }⟩;have:sIf (tE .td) So bc .fy .c7=.ct .fy .c7:=(fI C).trans rfl;show aw _ _ _ _=_;unfold aw;rw[this]
 ·rw[xC E]at C
  have gl:s.length<=8:=ZM (Jk L.gn L.gs) .nD;have U:(s++[p]).Nodup:=by
   rw[X4];exact⟨L.gn,by simp,λa V b T e=>E (by rw[YE.mp T]at e;exact e▸V)⟩
  obtain⟨l,m1,m2,m3⟩:=Rt U;have J:l.Sublist .aZ:=GY m2 (List.Pairwise.filter _ zYj) λx A=>by
   rcases Z1.mp ((m3 x).mp A) with z|z
   ·exact L.gs x z
   ·rw[YE.mp z];exact hp
  have ml:l.length<=8:=ZM J.length_le .nD;obtain⟨t,o⟩:=qq (Ho w n h d mm f g++[bJ.lst [.int (p:Nat)]]);obtain⟨r,v⟩:=qq (t.length);have Z:∀σ:Sd,σ[5]?=some (some<|.int (p:Nat))->aW .kE σ .c7=.ok (.ref (.c7).length) t:=λσ e=>by
   rw[o];exact bF (.cw<|Bz e) .gY
  have Y:rX .sP .fy .c7=.ok .bm t:=by
   have W:eQ .j (aW .kE) .fy .c7=.ok (NL<|s++[p]) t:=by
    rw[<-vI];exact oX rfl (Z _ rfl) (by rw[o];exact .k L.ga) (by rw[o];exact ZG) .cb
   unfold rX;rw[W];dsimp[aE,jh];rw[z4 (by simp[kyL];omega),m1]
  have N:.gl f .ql=t++[.lst .bm]:=by rw[o];simp[Ho]
  have M:aW (rX .sP) .fy .c7=.ok (.ref r) .sk:=by
   rw[N,v];exact bF Y .cb
  have K:.sk[r]?=some .mH:=by
   rw[N,v];exact ZG
  obtain⟨j,q,R⟩:=Sl G J K (W9 hd) L.K;rw[GZ hd]at q;have kl:h.length+2<r:=by rw[v,o,ZB];simp;omega
  have Q:r≠d:=by omega
  have S:∀{k:Nat} {I:bJ},k≠d->.c7[k]?=some I->.CU[k]?=some I:=λ{k I} z e=>by
   rw[<-GZ hd,ZP z.symm,<-UG];exact .k e
  have F:∀σ:Sd,σ[0]?=some (some w.enc)->σ[6]?=some (some<|.ref r)->σ[2]?=some (some .dd)->tE .zr σ .sk=.ok .i3 .CU:=λσ a b e =>
   aM (au (ak (Bz a)<|bI (Bz b)<|Bz e) q)
  cases P:tb w n l with
  |true =>
   rw[P]at F;refine⟨m,s,f++[p],j,g++[.lst [.int (p:Nat)],.lst .bm],some (.ref r),.inl ?_,⟨R,L.gn,L.gs,L.cg,L.g1,L.g2,?_,?_,by rw[ZB];exact Nat.add_le_add_right L.ll 1⟩⟩
   ·refine sx (bU C) (sx (aA M) ((fI<|F _ rfl rfl rfl).trans ((dW<|ju rfl UF rfl UF (by have:=L.ll;simp[SZ];omega)).trans ?_)))
    rw[vI,OM];rfl
   ·rw[<-OM,ZP L.g2.symm]
    exact S L.g1 L.ga
   ·intro x A
    rcases Z1.mp A with z|z
    ·exact L.ls x z
    ·rw[YE.mp z];exact⟨hp,λe=>E (L.cg p e)⟩
  |false =>
   rw[P]at F;refine⟨r,l,f,j,g++[.lst [.int (p:Nat)],.lst .bm],some (.ref r),.inl ?_,⟨R,m2.imp λh=>ZN h,λx A=>J.subset A,λx A=>(m3 x).mpr (Z1.mpr<|.inl<|L.cg x A),Q,by omega,?_,L.ls,zZt L.ll⟩⟩
   ·exact sx (bU C) (sx (aA M)<|(bU<|F _ rfl rfl rfl).trans (aA rfl))
   ·rw[<-GZ hd,ZP Q.symm];exact K
/---/def LOi(w:Web)(n:Nat)(h:Hd)(c d:Nat)(ch:.i)(i:Nat)(σ:Sd)(h':Hd):Prop:=∃gk gr lf mm g x y,σ=[some w.enc,some .fa,some .dd,some (.ref gk),some .A,x,y]/\h'=Ho w n h d mm lf g/\LO w n h c d ch i gk gr lf mm g
def oy{h:Hd}{d:Nat}{x:bJ}(hd:h[d]?=some x):h.set d x=h:=by
 apply YX;intro i
 by_cases e:d=i
 ·subst e;rw[x4 (.lh).1,hd]
 ·rw[ZP e]
def D2(G:Go w n)(hd:h[d]?=some .ch)(K:Kk w n mm)(l:h[c]?=some .n0)(I:ch.Nodup)(cs:∀x∈ch,x∈fr w.stays n):
  ∃f a g,mR [w.enc,.ref c,.ref d] h=.ok .A (h.set d .fZ++g)/\(h.set d .fZ++g)[h.length]?=some (.lst<|NL f)/\Kk w n a/\(∀x∈f,x∈fr w.stays n/\x∉ch)/\f.length<=8:=by
 have z:=(.lh).1;have F:=(z0.mp l).1;have C:c≠d:=λe=>by rw[e,hd]at l;cases l
 have N:=G.n8;have M:=lh w.stays n;have s:=xu G.W G.n30 (h++[.lst (NL [])]);have u:h++[bJ.lst (NL [])]++[.lst .bg,.lst .dk]=.gl [] []:=by unfold Ho;rw[oy hd];simp
 rw[u,ZB]at s;obtain⟨_,_,v,J,E,f,a,g,x,y,rfl,rfl,L⟩:=xv (P:=LOi w n h c d ch) (g:=some (h.length + 2)) (k:=0) (λ_ _ _ p=>by obtain⟨_,_,_,_,_,_,_,_,rfl,_⟩:=p;exact V3) (xs:=NL .aZ) (tg:=gN 5) (σ:=[some w.enc,some (.ref c),some (.ref d),some (.ref c),some .a7,none,none]) (h:=.gl [] []) (b:=kJ) (by
  rintro i x _ _ j ⟨J,E,f,mm,g,x,y,rfl,rfl,L⟩;have t:i<(.aZ).length:=by have:=(z0.mp j).1;rwa[ZA]at this
  rw[ZQ,ZE t]at j;cases j;obtain⟨m,o,r,a,B,A,q,H⟩:=K7 G z L (YM t) .a y;exact⟨_,rfl,_,_,q,m,o,r,a,B,_,A,rfl,rfl,H⟩) ⟨c,ch,[],mm,[],none,none,rfl,rfl,⟨K,I,cs,λ_ h=>h,C,ZN F,by unfold Ho;rw[oy hd];exact .k l,λx j=>(by cases j),YR _⟩⟩
 refine⟨f,a,.lst (NL f) :: .lst .bg :: .lst .dk::g,?_,UF (w:=w) (n:=n) (g:=g),L.K,L.ls,by have:=L.ll;rw[ZA]at this;omega⟩;exact YY (bm (σ:=[some w.enc,some .fa,some .dd,none,none,none,none]) rfl rfl<|sx (aA rfl)<|sx (aA<|bF (xs:=[]) rfl .b)<|sx (eK (cy (.ay s) V3) v) .dU) cL
end
section
variable{w:Web}{n d:Nat}
/---/def Xa:D:=.tup [.str .ti]
/---/def TC(w:Web)(n d c k:Nat)(h1:Hd)(i:Nat)(σ:Sd)(h':Hd):Prop:=∃a mm g,σ=[a,some w.enc,some .dd,some .rg,some .fa]/\h'=h1.set d .ch++g/\Kk w n mm
theorem Jl(G:Go w n):∀j m:Nat,m<j->∀(h:Hd) (c:Nat) (ch:.i) (mm:.cQ),h[d]?=some .ch->Kk w n mm->h[c]?=some .n0->ch.Nodup->(∀x∈ch,x∈fr w.stays n)->
  ∃t l g,cY j [w.enc,.int (m:Nat),.ref c,.ref d] h=.ok t (h.set d .jh++g)/\Kk w n l
 |0,m,hm,_,_,_,_,_,_,_,_,_=>absurd hm (UO m)
 |j+1,0,_,h,c,ch,mm,hd,K,_,_,_=>by
  refine⟨Xa,mm,[],?_,K⟩;rw[oy hd,XA];unfold cY;exact YY (.v<|gG<|YY (fI .cm)<|aJ<|jr .bz .b) aU
 |j+1,k+1,hm,h,c,ch,mm,hd,K,v,A,cs=>by
  obtain⟨T,m1,g1,q,I,K1,ls,ll⟩:=D2 G hd K v A cs;have F:=(.lh).1;have N:d≠c:=λe=>by rw[<-e,hd]at v;cases v
  have Y:ch.length<=8:=ZM (Jk A cs) .nD;obtain⟨s,r⟩:=qq (h.set d (.dcT m1)++g1);rw[<-r]at q I;have O:d<s.length:=by rw[r,ZB,Y7];omega
  have C:s[c]?=some .n0:=by rw[r];exact .k (by rw[ZP N];exact v)
  have y:s[d]?=some (.dcT m1):=by rw[r];exact .k (x4 F)
  obtain⟨E,h',Q,u,_,σ',a,l,g,rfl,rfl,K'⟩:=mG (P:=TC w n d c k s) (V:=λ_ _=>True) (g:=some h.length) (tg:=gN 0) (e:=av (cY j) .wm) (λ_ _ _ p=>by
   obtain⟨_,_,_,_,rfl,_⟩:=p;exact .k (by rw[ZP (ZN F)];exact I)) (xs:=NL T) (k:=0) (σ:=[none,some w.enc,some (.ref d),some (.int (k+1:Nat)),some (.ref c)]) (h:=s) (by
   rintro i x _ _ M ⟨a,mm,g,rfl,rfl,K⟩;obtain⟨p,U,rfl⟩:=z5.mp (ZK M);obtain⟨L,J⟩:=ls p U;obtain⟨f,o⟩:=qq (s.set d (.dcT mm)++g);have S:d<f.length:=by rw[o,ZB,Y7];omega
   have B:f[c]?=some .n0:=by rw[o];exact .k (by rw[ZP N];exact C)
   have H:f[d]?=some .ch:=by rw[o];exact .k (x4 O)
   rw[<-o];have e1:aW .aG .wS f=.ok .mJ (f++[.lst [.int (p:Nat)]]):=bF .bz .gY;have Z:aW (eQ .C<|aW .aG) .wS f=.ok (.ref (f++[bJ.lst [.int (p:Nat)]]).length) .xb:=by
    refine YY (bF (oX rfl e1 (.k B) ZG .cb) .cb) ?_;rw[vI]
   obtain⟨t,m3,g3,q3,K3⟩:=Jl G j k (Nat.lt_of_succ_lt_succ hm) .xb _ _ _ (.k<|.k H) K ZG (by
    rw[X4];exact⟨A,by simp,λa X b W e=>J (by rw[YE.mp W]at e;exact e▸X)⟩) (λx M=>(Z1.mp M).elim (cs x) λz=>by rw[YE.mp z];exact L)
   have sb:kN (.int ((k+1:Nat):Int)) (.int 1) f=.ok (.int (k:Nat)) f:=by
    show Res.ok (D.int<|((k+1:Nat):Int)-1) f=_;rw[show ((k+1:Nat):Int)-1=(k:Int) by omega]
   refine⟨_,rfl,t,_,au (.b7<|ak (.ah sb)<|bI Z rfl) q3,trivial,_,m3,g++([.lst [.int (p:Nat)]]++[.lst (NL<|ch++[p])]++g3),rfl,?_,K3⟩;rw[ZU f,zZx _ _ S,o,ow O];simp) ⟨none,m1,[],rfl,by rw[oy y,XA],K1⟩
  rw[ZA]at u;refine⟨.tup [.str .th,.ref h.length,.ref (s.set d .jh++g).length],l,g1++g++[.lst E],?_,K'⟩;have fin:h.set d .jh++(g1++g++[bJ.lst E])=s.set d .jh++g++[.lst E]:=by rw[r,ow F];simp
  rw[fin];unfold cY;have R:tE (.cV .B) .wR h=.ec h:=aM (.ah<|pT .a);exact YY (bm (σ:=.wR) rfl rfl<|sx (bU R)<|sx (aA<|au .bM q)<|sx (aA<|bF (ce (cy rfl I) Q) (by rw[u];simp[SZ];omega))<|aJ<|jr .bM .gY) (lG .sH)
end
def Ru{b:SF}{x:D}(a:dC g all h)(t:.jm)(e:b σ' h=.rt d h'):.jN .bC σ h=.rt d h':=by
 rw[gu,z4 a,t];dsimp[e]
def Jm{b:SF}{x:D}(a:dC g all h)(t:.jm)(e:b σ' h=.nx σ'' h'):.jN .bC σ h=.jN xs σ'' h':=by
 rw[gu,z4 a,t];dsimp[e]
def BA{l k:List D}{b:Bool}(h1:h[a]?=some .dH)(d:h[c]?=some (.lst k))(e:eqL l k=some b):oEq .bu .fa h=.ok .di h:=by
 dsimp[oEq,eqG,ee,h1,d,e]
section
variable{w:Web}{n:Nat}{hb:Hd}{d K f:Nat}
structure Zo(w:Web)(n d:Nat)(hb:Hd)(z:Nat × List Nat):Prop where
 ne:d≠z.1
 at':hb[z.1]?=some (.lst<|NL z.2)
 su:z.2.Sublist .aZ
def Sm(h:l≠[]):eqL .bm []=some false:=by
 cases l with
 |nil=>exact absurd rfl h
 |cons x l =>
  have:mi (NL (x::l))<=20:=by
   have e:mi (NL (x::l))=0:=by
    unfold NL
    induction (x::l) with
    |nil=>rfl
    |cons y l a=>dsimp[y6,mi,dep,a];rfl
   rw[e];decide
  unfold eqL;rw[z4 this];rfl
def ON(G:Go w n)(hd:d<hb.length)(Z:Zo w n d hb z)(o:Kk w n mm):
  (.c1 z.2=false/\∃a,iO .mf .gR=.nx .mf (hb.set d .fZ)/\Kk w n a)\/
  (.c1 z.2=true/\∃t a g,iO .mf .gR=.rt (.tup [.ref z.1,t]) (hb.set d .fZ++g)):=by
 obtain⟨a,q,m⟩:=Sl G Z.su (by rw[ZP Z.ne];exact Z.at') (x4 hd) o;rw[List.set_set]at q;obtain⟨i,b⟩:=qq (hb.set d<|.dcT a);have j:i[z.1]?=some (.lst<|NL z.2):=by rw[b,ZP Z.ne];exact Z.at'
 have s:i[d]?=some .fZ:=by rw[b];exact x4 hd
 have p:d<i.length:=by rw[b,Y7];exact hd
 rw[<-b]at q;have t:tE .zD .mf .gR=.ok (.c1 z.2) i:=aM (au .bM q);cases c:tb w n z.2 with
 |false =>
  rw[c]at t;refine .inl ⟨rfl,a,?_,m⟩;rw[<-b];exact(bU t).trans rfl
 |true =>
  rw[c]at t;refine .inr ⟨rfl,?_⟩;have k:∀(σ:Sd) (h:Hd),aW ar σ h=.bf .W:=λσ h=>bF rfl .b
  by_cases e:z.2=[]
  ·refine⟨.non,a,[.lst []],?_⟩
   rw[<-b];exact YY (fI t) (sx (aA<|YY (mJ<|aM<|aj rfl (k _ i)<|BA (.k j) ZG .j4) rfl)<|aJ<|jr .eN .gY)
  ·have B:z.2.length<=8:=ZM Z.su.length_le .nD
   have A:z.2.length≠0:=λq=>e (X1.mp q);obtain⟨v,m3,l,q3,_⟩:=Jl G 9 (z.2.length-1) .a (i++[.lst []]++[.lst []]) _ [] _ (.k<|.k s) m ZG zXs (λx y=>by cases y);have r:kN (.int ((NL z.2).length:Nat)) (.int 1) (i++[.lst []])=.ok (.int (z.2.length-1:Nat)) (i++[.lst []]):=by
    rw[ZA];show Res.ok (D.int<|(z.2.length:Int)-1) _=_;rw[show (z.2.length:Int)-1=((z.2.length-1:Nat):Int) by omega]
   refine⟨v,m3,[.lst [],.lst []]++l,?_⟩;have u:(i++[bJ.lst []]++[bJ.lst []]).set d (.dcT m3)++l=hb.set d (.dcT m3)++([bJ.lst [],bJ.lst []]++l):=by
    rw[ZU i,zZx _ _ p,b,List.set_set];simp
   rw[u]at q3;exact YY (fI t) (sx (aA<|YY (og<|aM<|aj rfl (k _ i)<|BA (.k j) ZG<|Sm e)<|au (.b7<|ak (aj (dz<|.aR<|aF<|.k j) rfl r)<|bI (k _ _) rfl) q3)<|aJ<|jr .eN .gY)
theorem D3(G:Go w n)(hd:d<hb.length){Z:.hA}(kd:d≠K)(k:hb[K]?=some .g0):
  ∀{c:.hA} {mm:.cQ} {y:.G},(∀z∈c,Zo w n d hb z)->Kk w n mm->
   (∃a i,gu (some K) .cK .aI iO (rf c) .x7 .gR=.nx [some w.enc,some .ak,some .dd,i,none] (hb.set d .fZ)/\∀z∈c,tb w n z.2=false)\/
   (∃A z B t a g,c=A++z::B/\(∀x∈A,tb w n x.2=false)/\.c1 z.2=true/\gu (some K) .cK .aI iO (rf c) .x7 .gR=.rt (.tup [.ref z.1,t]) (hb.set d .fZ++g))
 | [],mm,y,_,_=>.inl ⟨mm,y,by
   unfold gu;exact z4 (show .gR[K]?=_ by rw[ZP kd];exact k),λz hz=>by cases hz⟩
 |z::c,mm,y,hz,m=>by
  have he:.gR[K]?=some .g0:=by rw[ZP kd];exact k
  rcases ON G hd (hz z .d4) m with ⟨h,e,q,r⟩|⟨h,t,e,g,q⟩
  ·rcases D3 G hd kd k (λl s=>hz l (.eF s)) r with ⟨a,i,q2,j⟩|⟨A,o,B,t,a,g,rfl,j,p,q2⟩
   ·refine .inl ⟨a,i,YY (Jm he rfl q) q2,λx b=>?_⟩
    rcases xB.mp b with rfl|b
    ·exact h
    ·exact j x b
   ·refine .inr ⟨z::A,o,B,t,a,g,rfl,λx b=>?_,p,YY (Jm he rfl q) q2⟩
    rcases xB.mp b with rfl|b
    ·exact h
    ·exact j x b
  ·exact .inr ⟨[],z,c,t,e,g,rfl,λx b=>(by cases b),h,Ru he rfl q⟩
def K8(G:Go w n)(h:Hd):
  (lJ .a3 h=.ok .non h/\∀u∈lV .aZ,tb w n u=false)\/
  (∃a t g v,lJ .a3 h=.ok (.tup [.ref a,t]) .M/\.M[a]?=some .ep/\v.Sublist .aZ/\.c1 v=true/\∀u∈lV .aZ,tb w n u=true->v.length<=u.length):=by
 have X:=G.n8;have V:=lh w.stays n;obtain⟨c,i⟩:=qq (h++[.lst .bg,.lst .dk]:Hd);have H:c.length=h.length+2:=by rw[i];simp
 have y:=xu G.W G.n30 h;rw[<-i]at y;have O:c[h.length+1]?=some (.lst .dk):=by rw[i];simp
 have J:EY .yq c=.ok .kn (c++[.dcT []]):=by rw[<-H];rfl
 obtain⟨g,K,Z,q1,q2,q3,D⟩:=DW (.k O) (by have:=G.n6;omega);obtain⟨hb,l⟩:=qq (c++[.dcT []]++g);rw[<-l]at q1 q2 q3;have s:hb[h.length+2]?=some (.dcT []):=by rw[l];exact .k (by rw[<-H];exact ZG)
 have Q:=(z0.mp s).1;have R:h.length+2≠K:=λe=>by rw[<-e,s]at q2;cases q2
 have P:hb=h++([.lst .bg,.lst .dk,.dcT []]++g):=by rw[l,i];simp
 have F:=oy s;have r:∀z∈Z,Zo w n (h.length + 2) hb z:=λz b=>⟨λe=>(by have:=q3 z b;rw[<-e,s]at this;cases this),q3 z b,by
  have:z.2∈Ts.byK (λv:List Nat=>(v.length:Int)) (lV .aZ):=by rw[<-D];exact z5.mpr ⟨z,b,rfl⟩
  exact rm.mp ((.tg).mem_iff.mp this)⟩
 have N:∀{o:Out},gu (some K) .cK .aI iO .cK .xN hb=o->fv (cU<|av j8 .cB) .aI iO .xN (c++[.dcT []])=o:=λ{o} e=>eK (cy (.ay q1) q2) e;have I:tE .Aw .yq c=.ec c:=aM (aj (dz<|.aR<|aF O) rfl<|wI (by rw[ZA];omega));have mem:∀u,u∈lV .aZ->∃z∈Z,z.2=u:=λu m=>by
  have:u∈Z.map (·.2):=by rw[D];exact (.tg).mem_iff.mpr m
  obtain⟨z,b,e⟩:=z5.mp this;exact⟨z,b,e⟩
 rcases D3 G Q R q2 (mm:=[]) r ⟨zXs,λp S=>by cases S⟩ with ⟨mm',W,q,E⟩|⟨A,z,B,t,mm',C,e,E,T,q⟩
 ·rw[F]at q
  refine .inl ⟨?_,λu m=>by obtain⟨z,b,rfl⟩:=mem u m;exact E z b⟩;refine YY (.v<|sx (aA<|.ay y)<|sx (bU I)<|sx (aA J)<|sx (N q) .dU) ?_;rw[P,oO rfl];exact bT rfl
 ·rw[F]at q
  have b:z∈Z:=by rw[e];exact Z1.mpr (.inr .fE)
  have M:hb.set (h.length+2) (.dcT mm')++C=h++((.yd).set 2 (.dcT mm')++C):=by rw[P,oO rfl,ZU]
  refine .inr ⟨z.1,t,(.yd).set 2 (.dcT mm')++C,z.2,?_,?_,(r z b).su,T,λu m L=>?_⟩
  ·rw[<-M]
   exact YY (.v<|sx (aA<|.ay y)<|sx (bU I)<|sx (aA J)<|gG<|N q) (lG .sH)
  ·rw[<-M]
   exact .k (by rw[ZP (r z b).ne];exact(r z b).at')
  ·obtain⟨x,k,rfl⟩:=mem u m
   have j:=Ts.byK_rises (λv:List Nat=>(v.length:Int)) (lV .aZ);rw[<-D,e,ZR,y6]at j;have U:=(Z4.mp (Y9.mp j).2.1).1;rw[e]at k;rcases Z1.mp k with k|k
   ·rw[E x k]at L;cases L
   ·rcases xB.mp k with rfl|k
    ·exact ZL _
    ·have:=U x.2 (z5.mpr ⟨x,k,rfl⟩)
     omega
end
def G0(O:.an)(os:.bD):Ul .P .P n:=by
 refine QR os os (λp f a b _ B l=>um B l λq c=>?_) (λ_ _=>zZw _) λp _=>?_
 ·have e:(.P).ties.getD p []=c5 (nbs T p):=by simp[bg,List.getD,f]
  rw[e]at c;have c:=dY.mp c;unfold nbs at c;obtain⟨t,d,z⟩:=XX.mp c;have:=O.wt t d;cases e:far p t with
  |none=>rw[e]at z;cases z
  |some j=>rw[e]at z;simp at z;subst z;simp only;omega
 ·show (ss.getD p none=none/\ss.getD p none=none)\/ss.getD p none=some 0\/ss.getD p none=some 1
  by_cases h:p<ss.length
  ·have:=os _ (YM h)
   rw[show ss.getD p none=ss[p] by simp[List.getD,h]];rcases this with e|e|e
   ·exact .inl ⟨e,e⟩
   ·exact .inr (.inl e)
   ·exact .inr (.inr e)
  ·left;simp[List.getD,YD (show ss.length<=p by omega)]
/---/def same(a b:Nat)(t:Tie):Bool:=(t.a == a&&t.b == b)||(t.a == b&&t.b == a)
def l8:.gm t=true↔(t.a=a/\t.b=b)\/(t.a=b/\t.b=a):=by simp[same]
/---/def rn(a b i j:Nat):Prop:=(i=a/\j=b)\/(i=b/\j=a)
/---/def ji(T:.V)(a b:Nat)(x:Int):List Tie:=T.filter (λt=>!same a b t)++if 0<x then [⟨a,b,x⟩] else []
def K9(h:.jo):(t.a=i/\t.b=j)\/(t.b=i/\t.a=j):=by
 unfold far at h
 by_cases b:t.a=i
 ·rw[z4 b]at h;cases h;exact .inl ⟨b,rfl⟩
 ·rw[y3 b]at h
  by_cases a:t.b=i
  ·rw[z4 a]at h;cases h;exact .inr ⟨a,rfl⟩
  ·rw[y3 a]at h;cases h
def xw(h:.jo):.gm t=true↔rn a b i j:=by
 rw[l8];unfold rn;rcases K9 h with ⟨c,d⟩|⟨c,d⟩
 ·rw[c,d]
 ·rw[c,d];exact⟨λh=>h.elim .AQ .AR,λh=>h.elim .AQ .AR⟩
def UH(ne:a≠b)(e:.gm t=true)(hp:rn a b i j):far i t=some j:=by
 rw[l8]at e;unfold far;rcases hp with ⟨rfl,rfl⟩|⟨rfl,rfl⟩<;>rcases e with ⟨c,d⟩|⟨c,d⟩
 ·rw[z4 c,d]
 ·rw[y3 .a,z4 d,c]
 ·rw[y3 .a,z4 d,c]
 ·rw[z4 c,d]
def sZ(ne:a≠b){p:.cO}:p∈nbs .iG i↔(p∈nbs T i/\¬rn a b i p.1)\/(0<x/\rn a b i p.1/\p.2=x):=by
 rw[iX,iX];constructor
 ·rintro⟨t,d,q1,q2⟩
  rcases Z1.mp d with d|d
  ·obtain⟨g,f⟩:=YN.mp d
   refine .inl ⟨⟨t,g,q1,q2⟩,λz=>?_⟩;rw[(xw q1).mpr z]at f;cases f
  ·by_cases c:0<x
   ·rw[z4 c]at d
    have e:t=⟨a,b,x⟩:=by simpa using d
    subst e;exact .inr ⟨c,(xw q1).mp (by simp[same]),q2.symm⟩
   ·rw[y3 c]at d;cases d
 ·rintro (⟨⟨t,d,q1,q2⟩,h⟩|⟨g,f,j⟩)
  ·refine⟨t,Z1.mpr (.inl (YN.mpr ⟨d,?_⟩)),q1,q2⟩
   cases c:same a b t with
   |false=>rfl
   |true=>exact absurd ((xw q1).mp c) h
  ·exact⟨⟨a,b,x⟩,Z1.mpr (.inr (by rw[z4 g];simp)),UH ne (by simp[same]) f,j.symm⟩
def UI(g:n<=30)(lt:.uA)(un:T.Pairwise iN):T.length<=30*n:=by
 have i:(T.map λt=>n*t.a+t.b).Nodup:=by
  rw[Y0,Y5];refine un.imp_of_mem λ{s t} c a u e=>?_;have f:=ZS .ey (lt s c).1;have d:∀m M:Nat,M<n->(n*m+M)/n=m:=λm M h=>by rw[Nat.mul_add_div f,Nat.div_eq_of_lt h];rfl
  have b:(n*s.a+s.b)/n=(n*t.a+t.b)/n:=congrArg (· / n) e;rw[d _ _ (lt s c).2,d _ _ (lt t a).2]at b;rw[b]at e;exact u.1 ⟨b,zZb e⟩
 have l:=F3 i λx j=>by
  obtain⟨t,a,rfl⟩:=z5.mp j;exact Z0 (zXh (lt t a).2 _) (Nat.mul_le_mul_left n (lt t a).1)
 rw[ZA]at l;exact ZM l (Nat.mul_le_mul_right n g)
def rp(j:n<=30)(O:.an)(ne:a≠b)(m:a<n)(l:b<n)(o:x<=400):.hS .iG:=by
 have mem:∀t∈ji T a b x,t∈T/\same a b t=false\/0<x/\t=⟨a,b,x⟩:=λt d=>by
  rcases Z1.mp d with d|d
  ·obtain⟨g,f⟩:=YN.mp d
   exact .inl ⟨g,by simpa using f⟩
  ·by_cases c:0<x
   ·rw[z4 c]at d;exact .inr ⟨c,by simpa using d⟩
   ·rw[y3 c]at d;cases d
 have lt:∀t∈ji T a b x,t.a<n/\t.b<n:=λt d=>by
  rcases mem t d with ⟨h,_⟩|⟨_,rfl⟩
  ·exact O.lt t h
  ·exact⟨m,l⟩
 have i:(.iG).Pairwise iN:=by
  unfold ji;rw[Y9];refine⟨O.un.filter _,by split<;>simp,λs k t d=>?_⟩;obtain⟨g,f⟩:=YN.mp k
  by_cases c:0<x
  ·rw[z4 c]at d
   have e:t=⟨a,b,x⟩:=by simpa using d
   subst e;have f:.gm s=false:=by simpa using f
   refine⟨λz=>?_,λz=>?_⟩
   ·have:.gm s=true:=l8.mpr (.inl z)
    rw[this]at f;cases f
   ·have:.gm s=true:=l8.mpr (.inr z)
    rw[this]at f;cases f
  ·rw[y3 c]at d;cases d
 refine⟨λt d=>?_,lt,λt d=>?_,λt d=>.inl (lt t d),i,UI j lt i⟩
 ·rcases mem t d with ⟨h,_⟩|⟨_,rfl⟩
  ·exact O.ne t h
  ·exact ne
 ·rcases mem t d with ⟨h,_⟩|⟨c,rfl⟩
  ·exact O.wt t h
  ·exact⟨by show 1<=x;omega,o⟩
def zZ(a:.hS S)(c:.an)(bs:.c)(ss:.Q)(h:∀i,i<n->∀p,p∈nbs S i↔p∈nbs T i):bg n S bs ss=bg n T bs ss :=
 wP bs ss λi b=>wO (k7 a.un i) (k7 c.un i) (h i b)
def OO(a:n<=30)(O:.an)(hi:i<n)(p:.cO):p∈nbs .dI i↔p∈nbs T i:=by
 have:=(jI a O).2 i hi;rw[<-dY,this,dY]
def G3(c:n<=30)(O:.an)(ne:a≠b)(e:a<n)(d:b<n)(f:x<=400)(bs:.c)(ss:.Q):bg n (ji .dI a b x) bs ss=bg n .iG bs ss :=
 zZ (rp c (jI c O).1 ne e d f) (rp c O ne e d f) bs ss λi g p=>by rw[sZ ne,sZ ne,OO c O g]
noncomputable abbrev wSw:List Nat:=.ms
noncomputable abbrev yf:List Nat:=.dL
noncomputable abbrev Lc:List Nat:=.my
noncomputable abbrev Rv:List Nat:=.ia
noncomputable abbrev wOk:List Nat:=.he
section
variable{w:Web}{n:Nat}{h:Hd}{dk:Nat}
theorem D4(x:.i):∀L:List .bJ,fK (L.map λ_=>D.str x)=true
 |[]=>rfl
 |_::L=>by dsimp[y6,fK,pure?,D4 x L,Bool.and_self]
def Rw(b:g[k]?=some (.lst<|(wSw::L).map .str)):gf .lk g=.ok (.tup<|L.map λ_=>.str wPe) g:=by
 have f:fAt .e .B .i2 g=.ok (.str wSw) g:=aR rfl rfl (aF b) .gO;have d:dv .e (pAt .l) pNo .i2 g=.ok .h3 (g++[.lst .e5]):=o0 rfl (by rw[b,y6]);have c:=bB (g:=some g.length) (tg:=gN 0) (cs:=[]) (e:=fC (.str wPe)) (h:=g++[bJ.lst .k2]) (I:=λσ=>∃a,σ = [a]) .bb (λ_=>.str wPe) (show (g++[bJ.lst .k2])[g.length]? = some .AA from ZG) (xs:=L.map D.str) (σ:=.ax) (by
  rintro x i σ ⟨a,rfl⟩;exact⟨_,rfl,⟨_,rfl⟩,rfl,λ_=>rfl⟩) ⟨_,rfl⟩
 rw[Z5.mpr .y,ZY]at c;exact (.v<|gG<|(fI (h1:=g)<|aM<|.cs f).trans (aJ<|iw<|ce (cy d ZG) c)).trans (bT<|D4 wPe L)
def xx(W:w.Ok n)(n30:n<=30)(hp:p<n)(g:Hd):TOf w g (wPe,tx (p:Int),.int (p:Int)):=by
 have a:=n60 (show p<=30 by omega);have b:cR .gW g=.aN g:=by
  have e:(p:Int)<=(n:Int)-1:=by omega
  simp[cR,bE,runB,p5 W,cX,e]
 exact⟨Sc (kd:=wPe) .b .b a g,λ_=>⟨p,kK p,by have:=dj _ a;show (tx (p:Int)).length<=600;omega,b⟩,Os (kd:=wPe) .b a g⟩
def OP{b:Int}(bb:.pt)(g:Hd):TOf w g (wNu,tx b,.int b):=⟨Sc (kd:=wNu) .b .b bb g,λe=>absurd (show wNu=wPe from e) .b,Os (kd:=wNu) .b bb g⟩
noncomputable def yg:Option Int->List Nat
 |none=>[102,114,101,101]
 |some x=>tx x
def UJ(h:.ho)(g:Hd):TOf w g (yf,yg o,bj o):=by
 cases o with
 |none=>exact⟨VQ g,λe=>absurd (show yf=wPe from e) .b,VT g⟩
 |some x =>
  have b:=xh h rfl;exact⟨VS b g,λe=>absurd (show yf=wPe from e) .b,Os (kd:=yf) .b b g⟩
def OQ:32∉yg o:=by
 cases o with
 |none=>decide
 |some x=>exact oZ .b .b
def Jn(h:.ho):(yg o).length<=200:=by
 cases o with
 |none=>decide
 |some x=>have:=dj _ (xh h rfl);show (tx x).length<=200;omega
def f32(x:Int):32∉tx x:=oZ .b .b
def BB(h:p<=30):(tx (p:Int)).length<=200:=by have:=dj _ (n60 h);omega
def UK{α:Type}{P:α->Prop}{a b c:α}(h1:P a)(f:P b)(e:P c):∀x∈[a,b,c],P x:=λx d=>by
 rcases xB.mp d with rfl|d
 ·exact h1
 ·rcases xB.mp d with rfl|d
  ·exact f
  ·rw[YE.mp d];exact e
def al2{α:Type}{P:α->Prop}{a b:α}(h1:P a)(d:P b):∀x∈[a,b],P x:=λx c=>by
 rcases xB.mp c with rfl|c
 ·exact h1
 ·rw[YE.mp c];exact d
section
variable{T:.V}{bs:.c}{ss:.Q}
def Rx(e:1<=n)(c:n<=30)(O:.an)(lb:.bo)(ls:.bv)(os:.bD)(hp:p<n){b:Int}(bb:.pt)(hd:.pj):
  bO [.ref dk,.str (.eL [Gw,tx (p:Int),tx b])] h=.ok .oN (h.set dk<|.ob [(.Bi).enc]):=by
 have W:=iz c O lb ls;have l:=λg=>DN e c O lb ls os hp b g;obtain⟨w,f⟩:=qq .P;obtain⟨j,a⟩:=qq .Bi;rw[<-f,<-a]at l;rw[<-f]at W hd;rw[<-a];refine Bv (fd:=qw [wPe,wNu]) hd .b (al2 (f32 _)<|f32 _) .b (al2 (BB .a) (by have:=dj _ bb;omega)) (show 2<=10 by decide) (.inr .a8) (λg k d=>rj d .b .b rfl) (λg k d=>jQ (Z:=[(wPe,tx (p:Int),.int (p:Int)),(wNu,tx b,.int b)]) (show 2<=100 by decide) (xm g [wPe,wNu]) d (al2 (xx W c hp g)<|OP bb g)) λg k i=>?_;exact (.v<|sx .ky<|gG<|(.lr).trans .vD).trans aU
end
end
def V4(p q r s:Int)(h:Hd):oNe (.tup [.int p,.int q]) (.tup [.int r,.int s]) h=.ok (.bl<|!decide (p=r/\q=s)) h:=by
 by_cases a:p=r<;>by_cases b:q=s<;>simp[peq,kr,dep,mi,a,b]
def Xb(t:Tie)(v:.G)(h:Hd)(σ:Sd):dv .e pNo (pAt .R) (some (bL t)::σ) h=.ok (.tup [.int t.a,.int t.b]) h:=rfl
def G4{S:.V}{a:Nat}(ne:a≠b)(up:∀t∈S,t.a<t.b)(m:P=.tup [.int .z3,.int .z2])(g1:h1[k]?=some (.lst .oL)):
  cz .dj .oL .K .mu .e .oL [none,some P] h1=.ok ((.Ay).map bL) h1:=by
 have:=bB (g:=some k) (all:=S.map bL) (tg:=gN 0) (cs:=.mu) (e:=aa 0) (h:=h1) (I:=λσ=>∃a,σ=[a,some P])
   (λd=>match d with | .tup [.int i,.int j,.int x] => !same a b ⟨i.toNat,j.toNat,x⟩|_=>false) (λd=>d) g1 (xs:=S.map bL) (σ:=[none,some P]) (by
   rintro x o σ ⟨y,rfl⟩;obtain⟨t,p,rfl⟩:=z5.mp o;refine⟨_,rfl,⟨_,rfl⟩,?_,λ_=>rfl⟩;have q:oNe (.tup [.int t.a,.int t.b]) P h1=.ok (.bl .ul) h1:=by
    have lt:=up t p;rw[m]
    by_cases c:a<b
    ·have l:¬(b:Int)<a:=by omega
     have f:(b:Int)>a:=by omega
     have e:decide ((t.a:Int)=a/\(t.b:Int)=b)=.gm t:=by rw[Bool.eq_iff_iff,l8,YS];omega
     rw[y3 l,z4 f,V4,e]
    ·have l:(b:Int)<a:=by omega
     have f:¬(b:Int)>a:=by omega
     have e:decide ((t.a:Int)=b/\(t.b:Int)=a)=.gm t:=by rw[Bool.eq_iff_iff,l8,YS];omega
     rw[z4 l,y3 f,V4,e]
   have k:=Xb t none h1 [some P];show i7 .mu [some (bL t),some P] h1=.ok .ul h1;generalize dv .e pNo (pAt .R)=E at k⊢;generalize .ul=n at q⊢;dsimp[i7,tE,ag,aa,slot,k,aE,zYi,List.getElem?_cons_zero,q];cases n<;>rfl) ⟨_,rfl⟩
 rw[this,List.map_id',zXl];rfl
def D5(p:1<=n)(d:n<=30)(O:.an)(lb:.bo)(ls:.bv)(os:.bD)(ne:a≠b)(q:a<n)(o:b<n)(l:0<=x)(E:x<=400)(h:Hd):
  mP [(.P).enc,.int a,.int b,.int x] h=.ok (.ta).enc h:=by
 have W:=iz d O lb ls;obtain⟨S,e⟩:=qq .dI;have A:.hS S:=by rw[e];exact(jI d O).1
 have I:∀t∈S,t.a<t.b:=λt G=>by rw[e]at G;exact(jO.mp G).2.1
 have i:=iY d O lb ls h;rw[<-e]at i;obtain⟨P,u⟩:=qq (.tup [.int .z3,.int .z2]:D);obtain⟨g,f⟩:=qq (h++[.lst .oL]:Hd);have C:=G4 ne I u (h1:=g) (k:=h.length) (by rw[f];exact ZG);obtain⟨F,m⟩:=qq .Ay;have M:F.length<=900:=by rw[m];exact ZM (XU _ _) (ZM A.len .a)
 have y:(F.map bL).length<SZ:=by rw[ZA];exact ZS M .b
 rw[<-m]at C;rw[<-f]at i;have K:ji S a b x=F++if 0<x then [⟨a,b,x⟩] else []:=by rw[m];rfl
 have v:(.P).bars=bs:=rfl;have z:(.P).stays=ss:=rfl;have r:=mO W (g++[.lst .np]);have j:=kH W (g++[.lst .np]++[.lst .bs]);have B:=oU p d (rp d A ne q o E) lb ls os at3.1 at3.2.1 (at3 (h:=g) (a:=.lst .np) (b:=.lst .bs)).2.2;rw[e,G3 d O ne q o E,<-e]at B;obtain⟨w,H⟩:=qq .P;rw[<-H]at W i r j v z⊢;rw[v]at r;rw[z]at j;have L:sIf .x4 .xR bc .vJ .Ca=.nx .vJ (g++[.lst .np]):=by
  have s:=cX x 0 0 .Ca;rw[K]
  by_cases c:0<x
  ·rw[z4 c]
   refine(fI<|cH (b:=false)<|aM<|au .bM<|s.trans (by rw[xC (show ¬x<=0 by omega),Bool.and_false])).trans ((dW<|ju rfl .g9 (jr .bM) .g9 y).trans ?_);rw[iW rfl,ZR];rfl
  ·rw[y3 c,XA]
   exact(bU<|.bq<|aM<|au .bM<|s.trans (by rw[x3 l,x3 (show x<=0 by omega)];rfl)).trans rfl
 have J:oEq .ci (.int b) h=.go h:=qH.trans (by rw[xC .a]);refine (.v<|sx (dW<|.ab<|gU W q h)<|sx (dW<|.ab<|gU W o h)<|sx ((bU<|aM<|.ah J).trans rfl)<|sx (aA (show ig .yn [some w.enc,some .ci,some (.int b),some .er,none,none] h=.ok P h by rw[u];rfl))<|sx (aA<|bF (ce (cy (.ay i) (by rw[f];exact ZG)) C)<|XF y)<|sx L<|aJ<|au (ak .tc<|.b7<|bI (.ay r)<|.ay j) B).trans ?_;rw[f,ZU,ZU,ZU];exact bT (oo _)
def BC(f:1<=n)(c:n<=30)(O:.an)(lb:.bo)(ls:.bv)(os:.bD)(hp:p<n){x:.aK}(s:x=none\/x=some 0\/x=some 1)(h:Hd):
  kI [(.P).enc,.int p,bj x] h=.ok (bg n T bs<|ss.set p x).enc h:=by
 have W:=iz c O lb ls;have o:=iY c O lb ls (h++[.lst .sp]);have e:=kH W h;have i:=mO W (h++[.lst .sp]++[.lst .k4]);have m:=oU f c (jI c O).1 (ss:=ss.set p x) lb (by simp[ls]) (λy q=>by
  rcases List.mem_or_eq_of_mem_set q with z|z
  ·exact os y z
  ·rw[z];exact s) at3.2.1 (at3 (h:=h) (a:=.lst .sp) (b:=.lst .k4)).2.2 at3.1
 rw[p0 c O]at m;have g:=IU (h:=h) (l:=ss.map bj) (p:=p) (d:=bj x) (σ:=[some (.P).enc,some (.int p),some (bj x),some .a7]) .fR .fR .fR (by simp[ls,hp]);rw[<-List.map_set]at g;have j:(.P).bars=bs:=rfl;have k:(.P).stays=ss:=rfl;obtain⟨w,r⟩:=qq .P;rw[<-r]at W o i e j k g⊢;rw[j]at i;rw[k]at e;exact (.v<|sx .A0<|sx (aA .oI)<|sx g<|aJ<|au (ak .tc<|ak (.ay o)<|bI (.ay i) rfl) m).trans (go3 _)
def OR(f:n<=30)(O:.an)(i:h[k]?=some .e0):
  cz .dj .hX (gT [0,1,2]) [] Us .hX [none,none,none] h=.ok ((T.map jx).map D.str) h:=by
 have:=bB (g:=some k) (tg:=gT [0,1,2]) (cs:=[]) (e:=Us) (I:=λσ=>∃a b c,σ=[a,b,c]) .bb
  (λd=>match d with | .tup [.int a,.int b,.int c]=>.str (line Gv [a,b,c])|_=>.non) i (xs:=T.map bL) (σ:=[none,none,none]) (by
  rintro x j σ ⟨a,b,c,rfl⟩;obtain⟨t,l,rfl⟩:=z5.mp j;have z:=Oa f O l;have m:=dj _ z.a;have p:=dj _ z.b;have o:=dj _ z.w;refine⟨_,rfl,⟨_,_,_,rfl⟩,rfl,λ_=>?_⟩;refine IQ (nu rfl .d (nu (gC rfl z.a) .S (nu rfl .S (nu (gC rfl z.b) .S (nu rfl .S (nu (gC rfl z.w) .S ((IP .S).trans ?_)))))));congr 2;simp[line,br]) ⟨_,_,_,rfl⟩
 rw[this,Z5.mpr .d,ZY,ZY];rfl
def OU{bs:.c}(bb:.eA)(f:h[k]?=some .b5):
  cz .dj .bs .K [] (fFs .q6) .bs .ax h=.ok ((.ox).map D.str) h:=by
 have:=bB (g:=some k) (tg:=gN 0) (cs:=[]) (e:=fFs .q6) (I:=λσ=>∃a,σ=[a]) .bb
  (λd=>match d with | .int a=>.str (line Gw [a])|_=>.non) f (xs:=bs.map .int) (σ:=.ax) (by
  rintro x i σ ⟨a,rfl⟩;obtain⟨t,c,rfl⟩:=z5.mp i;have j:=dj _ (bb t c);refine⟨_,rfl,⟨_,rfl⟩,rfl,λ_=>?_⟩;refine IQ (nu rfl .d (nu (gC rfl<|bb t c) .S ((IP .S).trans ?_)));congr 2) ⟨_,rfl⟩
 rw[this,Z5.mpr .d,ZY,ZY];rfl
def OV{ss:.Q}(os:.bD)(c:h[k]?=some .dg):
  cz .dj .aj .K [] Od .aj .ax h=.ok ((ss.map dS).map D.str) h:=by
 have:=bB (g:=some k) (tg:=gN 0) (cs:=[]) (e:=Od) (I:=λσ=>∃a,σ=[a]) .bb
  (λd=>match d with | .int a=>.str (dS<|some a)|_=>.str (dS none)) c (xs:=ss.map bj) (σ:=.ax) (by
  rintro x f σ ⟨a,rfl⟩;obtain⟨t,j,rfl⟩:=z5.mp f;refine⟨_,rfl,⟨_,rfl⟩,rfl,λ_=>?_⟩;cases t with
  |none=>exact(mJ .cm).trans rfl
  |some i =>
   have b:=xh (os _ j) rfl;have l:=dj _ b;exact(og .cm).trans (IQ<|nu rfl .d<|nu (gC rfl b) .S<|(IP .S).trans rfl)) ⟨_,rfl⟩
 rw[this,Z5.mpr .d,ZY,ZY];congr 1;apply YQ;intro o _;cases o<;>rfl
def D6(e:n<=30)(O:.an)(lb:.bo)(ls:.bv)(os:.bD)(bb:.eA)(h:Hd):
  mS .lm h=.p7 h:=by
 have W:=iz e O lb ls;have v:(.P).bars=bs:=rfl;have A:(.P).stays=ss:=rfl;have m:=iY e O lb ls;have q:=p5 W;have o:=mO W;have l:=kH W;rw[v]at o;rw[A]at l;have O1:=(jI e O).1;obtain⟨w,z⟩:=qq .P;rw[<-z]at m q o l⊢;obtain⟨a,i⟩:=qq .dI;rw[<-i]at m O1⊢;have F:=O1.len;have s:(n:Int).natAbs<10^60:=big .a .a;have g:=dj _ s;have u:aG .g6 .dc .sa h=.nx .zm h:=aA (.ay<|q h);have r:.dy .wB .zm h=.nx .xo .xI :=
  aA (bF<|.cw<|IQ<|nu rfl .d<|nu (gC rfl s) .S<|(IP .S).trans rfl)
 obtain⟨σ,c⟩:=qq (.xo:Sd);have j:∀d,aa 0 σ d=.ok w.enc d:=λd=>by rw[c];rfl
 have f:∀d,aa 2 σ d=.bf d:=λd=>by rw[c];rfl
 have k:∀g,fS g [] σ=List.replicate g none:=λg=>by simp[fS]
 have t:eG (nU .h<|bD 3 [] (cU .lf) (gT [0,1,2]) [] Us) σ .xI=.cA .v2:=by
  refine(dW<|.u0<|ce (cy (au .tR<|m _) ZG) (by rw[k];exact OR e O1 ZG)).trans ?_;rw[ou,<-ZR];rfl
 have y:eG .vS σ .v2=.cA .vA:=by
  refine(dW<|.u0<|ce (cy (au .tR<|o _) ZG) (by rw[k];exact OU bb ZG)).trans ?_;rw[ou,<-ZR];rfl
 have p:eG (nU .h<|.dr (cU .fc) Od) σ .vA=.cA (h++[.lst (([line eD [(n:Int)]]++a.map jx++bs.map lS++ss.map dS).map D.str),.lst (a.map bL),.lst .bs,.lst .aj]):=by
  refine(dW<|.u0<|ce (cy (au .tR<|l _) ZG) (by rw[k];exact OV os ZG)).trans ?_;rw[ou,<-ZR];rfl
 have B:[line eD [(n:Int)]]++a.map jx++bs.map lS++ss.map dS=bK n a bs ss:=by simp[bK]
 rw[B]at p;obtain⟨C,lc⟩:=sQ e O1 lb ls os bb;have E:aY .nr σ .v1=.rt (.str<|br [10]<|bK n a bs ss) .v1:=aJ (lQ (cv (f _)<|aF eF) C lc);rw[<-c]at r;exact (.v<|(bN u).trans ((bN r).trans ((bN t).trans ((bN y).trans ((bN p).trans E))))).trans .hh
section
variable{w:Web}{n:Nat}{h:Hd}{dk:Nat}
section
variable{T:.V}{bs:.c}{ss:.Q}
def OW(d:1<=n)(b:n<=30)(O:.an)(lb:.bo)(ls:.bv)(os:.bD)(hp:p<n)(e:.ho)(hd:.pj):
  bO [.ref dk,.str (.eL [yf,tx (p:Int),yg o])] h=.ok .oN (h.set dk<|.ob [(.Bh).enc]):=by
 have W:=iz b O lb ls;have l:=λg=>BC d b O lb ls os hp e g;obtain⟨w,f⟩:=qq .P;obtain⟨j,a⟩:=qq .Bh;rw[<-f,<-a]at l;rw[<-f]at W hd;rw[<-a];refine Bv (fd:=qw [wPe,yf]) hd .b (al2 (f32 _) OQ) .b (al2 (BB .a)<|Jn e) (show 2<=10 by decide) (.inr .dn) .Ak (λg k c=>jQ (Z:=[(wPe,tx (p:Int),.int (p:Int)),(yf,yg o,bj o)]) (show 2<=100 by decide) (xm g [wPe,yf]) c (al2 (xx W b hp g)<|UJ e g)) λg k i=>?_;exact (.v<|sx .ky<|sx .ky .vD).trans aU
def Ry(j:1<=n)(d:n<=30)(O:.an)(lb:.bo)(ls:.bv)(os:.bD)(ne:a≠b)(q:a<n)(o:b<n)(f:0<=x)(i:x<=400)(hd:.pj):
  bO [.ref dk,.str .x0] h=.ok .oN (h.set dk<|.ob [(.ta).enc]):=by
 have W:=iz d O lb ls;have r:=λg=>D5 j d O lb ls os ne q o f i g;obtain⟨w,m⟩:=qq .P;obtain⟨p,c⟩:=qq .ta;rw[<-m,<-c]at r;rw[<-m]at W hd;rw[<-c];refine Bv (fd:=qw [wPe,wPe,wNu]) hd .b (UK (f32 _) (f32 _)<|f32 _) .b (UK (BB .a) (BB .a) (by have:=dj _ (big f i);omega)) (show 3<=10 by decide) .a8 (λg k e=>rj e .b .b rfl) (λg k e=>jQ (Z:=[(wPe,tx (a:Int),.int (a:Int)),(wPe,tx (b:Int),.int (b:Int)),(wNu,tx x,.int x)]) (show 3<=100 by decide) (xm g [wPe,wPe,wNu]) e (UK (xx W d q g) (xx W d o g)<|OP (big f i) g)) λg k l=>?_;exact (.v<|gG<|(.lr).trans (aJ<|au (.b7<|ak (.bc (aF l) .gO)<|bI (.bc (aF l)<|ND _ _ _)<|.bc (aF l) rfl)<|r g)).trans aU
def OX(l:n<=30)(O:.an)(lb:.bo)(ls:.bv)(os:.bD)(bb:.eA)(hd:.pj):
  bO [.ref dk,.str Rv] h=.p7 h:=by
 have i:=λg=>D6 l O lb ls os bb g;obtain⟨w,j⟩:=qq .P;obtain⟨X,f⟩:=qq .qz;rw[<-j,<-f]at i;rw[<-j]at hd;rw[<-f];have m:∀(g:Hd) (k:Nat),g[k]?=some (.lst [])->∃x,x=X/\lK [w.enc,.str Rv,.ref k] g=.ok (.str x) g:=λg k o=>by
  have a:d6 [w.enc,.str Rv] g=.ok .gA g:=(.v<|gG<|(.lr).trans (aJ<|.ay<|i g)).trans aU;exact⟨X,rfl,(.v<|sx .ky<|gG<|(fI .zG).trans (aJ<|.ab a)).trans aU⟩
 obtain⟨x,rfl,e⟩:=Bu (L:=[]) (fd:=qw []) (ths:=[]) hd .b .e1 .b .e1 .b .b .b .b .Ak (λg k c=>jQ (Z:=[]) .b (xm g []) c .e1) m;exact e
end
/---/def txs(l:.i):List .bJ:=l.map λp:Nat=>tx (p:Int)
def xy(b:∀p∈l,p<=30)(f:.f7):cz .dj .bm .K [] .en .bm .ax h=.ok ((txs l).map D.str) h:=by
 have c:=bB (g:=some k) (tg:=gN 0) (cs:=[]) (e:=dq .e) (I:=λσ=>∃a,σ = [a]) .bb (λd=>match d with | .int i=>.str .cE|_=>.non) f (xs:=NL l) (σ:=.ax) (by
  rintro x m σ ⟨a,rfl⟩;obtain⟨i,j,rfl⟩:=z5.mp m;exact⟨_,rfl,⟨_,rfl⟩,rfl,λ_=>gC rfl (n60<|b i j)⟩) ⟨_,rfl⟩
 rw[c,Z5.mpr .y,ZY,txs,ZY];rfl
def xz:∀x∈txs l,32∉x:=λx a=>by
 obtain⟨p,_,rfl⟩:=z5.mp a;exact f32 _
def rq(a:∀p∈l,p<=30):∀x∈txs l,x.length<=200:=λx b=>by
 obtain⟨p,c,rfl⟩:=z5.mp b;exact BB (a p c)
/---/def peZ(l:.i):List .gB:=l.map λp:Nat=>(wPe,tx (p:Int),.int (p:Int))
def OY(G:Go w n)(C:.eC)(hd:.lA):
  bO [.ref dk,.str (.eL (wSw::txs l))] h=.ok (.str<|if tb w n l=true then .iJ else .i9) h:=by
 have v:l.length<=6:=ZM (DT C) G.n6;have b:∀p∈l,p<=30:=λp d=>by have:=C.lt p d;have:=G.n6;omega
 have u:(txs l).map (λ_=>D.str wPe)=kz (peZ l):=by unfold txs kz peZ;rw[ZY,ZY];rfl
 have m:(txs l).map D.str=wz (peZ l):=by unfold txs wz peZ;rw[ZY,ZY];rfl
 have j:NL l=(peZ l).map (·.2.2):=by unfold NL peZ;rw[ZY];rfl
 obtain⟨X,f⟩:=qq (if tb w n l=true then .iJ else .i9:.i)
 rw[<-f];have s:∀(g:Hd) (k:Nat),g[k]?=some .mH->∃x,x=X/\lK [w.enc,.str wSw,.ref k] g=.ok .cd g:=λg k r=>by
  obtain⟨L,i,q⟩:=OL G C r;have t:(.wO) [some w.enc,some (.str wSw),some .gf] g=.ok .i3 (g++i):=aM (aj (.jE<|.ab q) rfl (by cases tb w n l<;>rfl));refine⟨X,rfl,(bm (h':=g++i) rfl rfl (gG ((.lr).trans (aJ ?_)))).trans .hh⟩;rw[f];cases c:tb w n l with
  |true=>rw[c]at t;exact(mJ t).trans rfl
  |false=>rw[c]at t;exact(og t).trans rfl
 obtain⟨x,rfl,e⟩:=Bu hd .b xz .b (rq b) .CK .b .b .b (λg k a=>Rw a) (λg k a=>by
  rw[u,j];rw[m]at a;refine jQ (by rw[peZ,ZA];omega) rfl a λz o=>?_;obtain⟨p,d,rfl⟩:=z5.mp o;exact xx G.W G.n30 (C.lt p d) g) s
 exact e
inductive Few(w:Web)(n:Nat)(x:.i):Prop
 |no (e:x=.mS) (a:∀u∈lV .aZ,tb w n u=false)
 |so (v:.i) (e:x=if v=[] then .l9 else br [32] .e2) (s:v.Sublist .aZ) (t:tb w n v=true) (m:∀u∈lV .aZ,tb w n u=true->v.length<=u.length)
def Rz(i:h[a]?=some .ep)(d:∀p∈v,p<=30)(o:v.length<=6):dL [.tup [.ref a,t]] h=.ok (.str .x2) h:=by
 obtain⟨X,f⟩:=qq .x2
 rw[<-f];have j:∀g,fAt .e .B .kq g=.ok .bu g:=λg=>aR rfl rfl rfl rfl;have m:aW ar .kq h=.bf .W:=bF rfl .b;have k:sIf .ki (aY .r9) bc .kq h=.nx .kq h:=(bU .da).trans rfl;have l:∀b,eqL .bO []=some b->(.BW) .kq h=.ok b .W:=λb e=>aM (aj (j h) m<|BA (.k i) ZG e)
 by_cases c:v=[]
 ·rw[z4 c]at f
  exact (.v<|sx k<|gG<|(fI<|l true (by rw[c];rfl)).trans (aJ (by rw[f];rfl))).trans .hh
 ·rw[y3 c]at f
  rw[f];exact (.v<|sx k<|sx ((bU<|l false<|Sm c).trans rfl)<|aJ<|lQ (ce (cy (j _)<|.k i)<|xy d<|.k i) (rq d) .CK).trans .hh
def Jo(G:Go w n)(hd:.lA):∃x,Few w n x/\bO [.ref dk,.str Lc] h=.ok .cd h:=by
 refine Bu (L:=[]) hd .b .e1 .b .e1 .b .b .b .b (λg k l=>rj l .b .b rfl) (λg k l=>jQ (Z:=[]) .b (xm g []) l .e1) λg k H=>?_;have m:∃x,Few w n x/\d6 [w.enc,.str Lc] g=.ok .cd g:=by
  have j:∀{d:D} {x:.i} {i:Hd},lJ .a3 g=.ok d (g++i)->dL [d] (g++i)=.ok .cd (g++i)->d6 [w.enc,.str Lc] g=.ok .cd g:=λ{d x i} E r=>by
   have f:∀(o:.i) (b:SF),o≠Lc->sIf (tE<|.cV<|fC<|.str o) b bc .Ag g=.nx .Ag g:=λo b c=>(bU<|aM<|.ah<|(.e9).trans (by rw[xC (XO c)])).trans rfl;exact (.v<|sx .le<|sx .le<|sx .le<|sx .le<|sx .le<|aJ<|au (.cw<|.ay E) r).trans .hh
  rcases K8 G g with ⟨e,F⟩|⟨a,t,i,v,e,B,q,A,u⟩
  ·refine⟨_,.no rfl F,j (by rw[XA];exact e) ?_⟩
   exact (.v<|gG<|(.lr).trans .dU).trans aU
  ·have C:=DZ q
   exact⟨_,.so v rfl q A u,j e (Rz B (λp s=>by have:=C.lt p s;have:=G.n6;omega)<|ZM (DT C) G.n6)⟩
 obtain⟨x,y,e⟩:=m;exact⟨x,y,(.v<|sx ((bU (h1:=g) .da).trans rfl)<|gG<|(fI (h1:=g) .zG).trans (aJ<|.ab e)).trans aU⟩
end
section
variable{n:Nat}{M:.ad}{T:.V}{bs:.c}{ss:.Q}{bk sk dk:Nat}{h:Hd}
def RA(g:n<=30)(L:.js)(O:MOk M)(ne:a≠b)(w:a<n)(u:b<n)(m:0<=x)(l:x<=400):
  ∃e,LP n (iD .iH b a x) n 0 e/\∀bs ss,bg n .iG bs ss=bg n e bs ss:=by
 obtain⟨e,L2⟩:=Oy (O.put ne m l) g n .o;refine⟨e,L2,λbs ss=>zZ (rp g L.ok ne w u l) L2.ok bs ss λi k p=>?_⟩;obtain⟨j,v⟩:=p;rw[sZ ne,vH L2 k,vH L k];have o:rn a b i j->iD .iH b a x i j=x:=λz=>by
  unfold iD
  by_cases f:i=b/\j=a
  ·rw[z4 f]
  ·rw[y3 f,z4 (z.resolve_right f)]
 have r:¬rn a b i j->iD .iH b a x i j=M i j:=λz=>by
  unfold iD;rw[y3 λc=>z (.inr c),y3 λc=>z (.inl c)]
 have q:rn a b i j->j<n:=λz=>by rcases z with z|z<;>omega
 by_cases c:rn a b i j
 ·rw[o c]
  constructor
  ·rintro (⟨_,z⟩|⟨s,_,d⟩)
   ·exact absurd c z
   ·exact⟨q c,d.symm,by rw[show v=x from d];exact s⟩
  ·rintro⟨_,d,t⟩
   exact .inr ⟨by rw[d];exact t,c,d.symm⟩
 ·rw[r c]
  constructor
  ·rintro (⟨z,_⟩|⟨_,z,_⟩)
   ·exact z
   ·exact .ed c
  ·intro z
   exact .inl ⟨z,c⟩
def Md.ob(m:Md 0 n M bs ss bk sk h)(nd:n<dk)(nb:bk≠dk)(a:sk≠dk)(c:bJ):Md 0 n M bs ss bk sk (h.set dk c) :=
 ⟨m.n1,m.n30,m.mt.set .a c,m.mo,by rw[ZP (XO nb)];exact m.ba,by rw[ZP (XO a)];exact m.st,m.lb,m.ls,m.os⟩
structure Stt(n bk sk dk k:Nat)(M:.ad)(T:.V)(bs:.c)(ss:.Q)(h:Hd):Prop where
 md:Md 0 n M bs ss bk sk h
 lp:LP n M n 0 T
 de:h[dk]?=some .mT
 bb:∀b∈bs,b.natAbs<=20000+1200*k
structure Lay(n bk sk dk:Nat):Prop where
 nb:n<bk
 bs:bk<sk
 sd:sk<dk
/---/def BD(n bk sk dk k:Nat)(h:Hd)(o:Res D):Prop:=∃row h' h'' M T bs ss,o=.ok (.str row) h'/\h'.length=h.length/\bO [.ref dk,.str row] h'=.ok .oN h''/\Stt n bk sk dk (k+1) M T bs ss h''
def V5(Y:.f9)(S:.ez)(ne:a≠b)(i:a<n)(e:b<n)(f:0<=x)(g:x<=400):
  BD n bk sk dk k h (.ok (.str .x0)<|(h.set (0+a)<|.lst<|(.rw).set b .er).set (0+b) (.lst<|(.xB).set a .er)):=by
 obtain⟨m,L,t,q⟩:=S;obtain⟨z,s,w⟩:=Y;obtain⟨u,L2,v⟩:=RA m.n30 L m.mo ne i e f g;have p:=(m.mt.put (b:=b) i x).put (b:=a) e x;obtain⟨d,c⟩:=qq ((h.set (0+a)<|.lst .C1).set (0+b) (.lst .C0):Hd);have keep:∀j,n<=j->d[j]?=h[j]? := λj y=>by rw[c,ZP .a,ZP .a]
 rw[<-c]at p⊢;have o:=(.tZ).trans t;have r:dk<d.length:=(z0.mp o).1;have l:=Ry m.n1 m.n30 L.ok m.lb m.ls m.os ne i e f g o;rw[v]at l;have m1:Md 0 n (iD .iH b a x) bs ss bk sk d:=⟨m.n1,m.n30,p,m.mo.put ne f g,(keep bk .a).trans m.ba,(keep sk .a).trans m.st,m.lb,m.ls,m.os⟩;exact⟨_,d,_,_,u,bs,ss,rfl,by rw[c];simp,l,m1.ob .a .a .a _,L2,x4 r,λb e=>ZM (q b e) .a⟩
def D7{α:Type}{l:List α}{x y:α}(h:y∈l.set p x):y=x\/y∈l:=(List.mem_or_eq_of_mem_set h).symm
def V6(Y:.f9){k:Nat}(z:k<=3)(S:.ez)(v:a<n)(e:x.natAbs<=20000+1200*(k+1)):
  BD n bk sk dk k h (.ok (.str<|.eL [Gw,tx (a:Int),tx x])<|h.set bk<|.lst<|(.bs).set a .er):=by
 obtain⟨m,L,u,o⟩:=S;obtain⟨y,r,w⟩:=Y;obtain⟨d,c⟩:=qq (h.set bk (.lst<|(.bs).set a (.int x)):Hd);have keep:∀j,bk≠j->d[j]?=h[j]? := λj q=>by rw[c,ZP q]
 have s:bk<h.length:=(z0.mp m.ba).1;rw[<-c];have g:=(.tZ).trans u;have p:dk<d.length:=(z0.mp g).1;have i:x.natAbs<=30000:=ZM e (by clear e;omega);have l:x.natAbs<10^60:=ZS i .b;have t:=Rx m.n1 m.n30 L.ok m.lb m.ls m.os v l g;have m1:Md 0 n M (bs.set a x) ss bk sk d:=⟨m.n1,m.n30,by rw[c];exact m.mt.set .a _,m.mo,by rw[c,x4 s,zXc],(keep sk .a).trans m.st,by rw[Y7];exact m.lb,m.ls,m.os⟩;refine⟨_,d,_,_,T,_,ss,rfl,by rw[c];simp,t,m1.ob .a .a .a _,L,x4 p,λb f=>?_⟩;rcases D7 f with rfl|f
 ·exact e
 ·exact ZM (o b f) .a
def UL(Y:.f9){k:Nat}(S:.ez)(v:a<n)(g:.ho):
  BD n bk sk dk k h (.ok (.str<|.eL [yf,tx (a:Int),yg o])<|h.set sk<|.lst .s1):=by
 obtain⟨m,L,t,i⟩:=S;obtain⟨y,q,w⟩:=Y;obtain⟨d,c⟩:=qq (h.set sk (.lst .s1):Hd);have keep:∀j,sk≠j->d[j]?=h[j]? := λj p=>by rw[c,ZP p]
 have u:sk<h.length:=(z0.mp m.st).1;rw[<-c];have f:=(.tZ).trans t;have l:dk<d.length:=(.lo).1;have r:=OW m.n1 m.n30 L.ok m.lb m.ls m.os v g f;have m1:Md 0 n M bs (ss.set a o) bk sk d:=⟨m.n1,m.n30,by rw[c];exact m.mt.set .a _,m.mo,(keep bk .a).trans m.ba,by rw[c,x4 u,zXc],m.lb,by rw[Y7];exact m.ls,λx e=>?_⟩
 ·exact⟨_,d,_,_,T,bs,_,rfl,by rw[c];simp,r,m1.ob .a .a .a _,L,x4 l,λb s=>ZM (i b s) .a⟩
 ·rcases D7 e with rfl|e
  ·exact g
  ·exact m.os x e
end
section
variable{n:Nat}{M:.ad}{T:.V}{bs:.c}{ss:.Q}{bk sk dk:Nat}{h:Hd}
noncomputable abbrev tdM(n bk sk:Nat):D:=.tup .zZ
def OZ(m:jy 0 n M h)(hi:i<n)(b:.uE)(a:E σ h=.ok .u h):fAt .aT E σ h=.ok (.ref<|0+i) h :=
 aR (.jE b) a (aF m.ti) (DP hi)
def O0(m:jy 0 n M h)(hi:i<n)(d:j<n)(c:.uE)(a:E σ h=.ok .u h)(b:F σ h=.ok .bP h):fAt (fAt .aT E) F σ h=.ok .sy h :=
 aR (OZ m hi c a) b (aF<|m.ro i hi) (GE d)
def O4{a:Nat}(c:aa 3 σ h=.ok .ci h)(b:a<=30)(e:E σ h=.ok (.str y) h)(l:W.length<=10)(d:y.length<=200):ag cV (ag cV (ag cV (fC<|.str W)<|dq .j)<|fC<|.str [32]) E σ h=.ok (.str<|((W++tx (a:Int))++[32])++y) h:=by
 have k:=BB b;exact i5 (i5 (i5 rfl (gC c<|n60 b) .a) rfl .S) e .S
def Sn(a b c:.i):.eL [a,b,c]=((a++[32]++b)++[32])++c:=by simp[br]
def V7(a b c d:.i):.eL [a,b,c,d]=(((a++[32]++b)++[32])++c)++[32]++d:=by simp[br]
def Jp{l:List D}(a:l.length=k)(hi:i<k):ixN l.length (i:Int)=some i:=by rw[a];simp[ixN,hi]
def V8(m:Md 0 n M bs ss bk sk h)(c:a<n)(d:.uE)(b:aa 3 σ h=.ok .ci h):fAt .cD .j σ h=.ok (.int<|bs.getD a 0) h :=
 aR (.jE d) b (aF m.ba) (mI (by rw[m.lb];exact c))
def BE{n:Nat}(h:1<=n):∃a:Nat,x%(n:Int)=(a:Int)/\a<n:=by
 have b:=zYq x (show (n:Int)≠0 by omega);have c:=zZm x (show 0<(n:Int) by omega);exact⟨(x%(n:Int)).toNat,(Int.toNat_of_nonneg b).symm,by omega⟩
def V9(x:Int):x%4=0\/x%4=1\/x%4=2\/x%4=3:=by omega
noncomputable abbrev XD(td:D)(c:Int)(n a b:Nat):Sd:=[some td,some .cf,some .x,some .ci,some (.int b),some (.int<|c/256)]
def O6(Y:.f9)(S:.ez){c:Int}(o:a<n)(j:b<n)(ne:a≠b)(u:c%4=0\/c%4=1)(y:d=tdM n bk sk):
  ∃q h',(aw .x8
  (aw .xh
  .vh)) .aD h=.rt (.str q) h'/\.l1 (.ok (.str q) h'):=by
 have L:=S.md.n30;obtain⟨x,v,w,J⟩:∃x:Int,0<=x/\x<=400/\fIx .qo .mt .aD h=.ok (.int x) h:=by
  have H:.aO .f .b3 .aD h=.ok (.int<|c%4) h:=aj rfl rfl .dF;have G:(.qo) .aD h=.ok [.int 0,.int (1+c/256%400)] h:=bI rfl (aj rfl .gK rfl);rcases u with e|e
  ·exact⟨0,by omega,by omega,lH G H .j4⟩
  ·exact⟨1+c/256%400,by omega,by omega,lH G H .j4⟩
 have A:=V5 Y S ne o j v w;have m:=S.md.mt;have m1:=m.put (b:=b) o x;have m2:=m1.put (b:=a) j x;obtain⟨f,s⟩:=qq (h.set (0+a) (.lst .C1):Hd);rw[<-s]at A m1 m2;obtain⟨l,p⟩:=qq (f.set (0+b) (.lst .C0):Hd);rw[<-p]at A m2;have t:∀g,aa 0 .aD g=.ok .r2 g:=λg=>by rw[y];rfl
 have F:∀(M:.ad) i,((.g5).map D.int).length=n:=λM i=>by simp[gh]
 have I:iD M a b x a b=x:=z4 ⟨rfl,rfl⟩;have K:iD .iH b a x a b=x:=(y3 λz=>ne z.1).trans I;have B:=kY J (OZ m o (t h) (rfl:aa 3 .aD h=_)) (rfl:aa 4 .aD h=_) (m.ro a o) (Jp (F _ _) j);rw[<-s]at B;have C:=O0 m1 o j (t f) (rfl:aa 3 .aD f=_) (rfl:aa 4 .aD f=_);rw[I]at C;have E:=kY C (OZ m1 j (t f) (rfl:aa 4 .aD f=_)) (rfl:aa 3 .aD f=_) (m1.ro b j) (Jp (F _ _) o);rw[<-p]at E;have u:=O0 m2 o j (t l) (rfl:aa 3 .aD l=_) (rfl:aa 4 .aD l=_);rw[K]at u;have P:=dj _ (big v w);have O:=BB (show a<=30 by omega);have N:=BB (show b<=30 by omega);have r:=i5 (i5 (O4 (W:=.c6) rfl .a (gC (a:=aa 4) rfl<|n60 .a) .b .a) (rfl:fC (.str [32]) .aD l=_) .S) (gC u<|big v w) .S;rw[show .c6++tx (a:Int)++[32]++tx (b:Int)++[32]++tx x=br [32] [Gv,tx (a:Int),tx (b:Int),tx x] by rw[V7];rfl]at r;exact⟨_,l,sx B (sx E<|aJ r),A⟩
def Ld(Y:.f9)(S:.ez){c:Int}(u:a<n)(j:f=tdM n bk sk):
  ∃i h',(aw .vO
  .vc) .kU h=.rt (.str i) h'/\.l1 (.ok (.str i) h'):=by
 have B:=S.md.n30;have q:∀g,ag bY .E .b3 .kU g=.ok (.int .ls) g:=λg=>aj rfl rfl .dF;have y:tx 0=[48]:=Q5 .a8;have m:tx 1=[49]:=Q5 .dn;obtain⟨o,t,z,w⟩:∃o:Option Int,(o=none\/o=some 0\/o=some 1)/\atI [.non,.int 0,.int 1,.int 1] .ls=some (bj o)/\atI [D.str .j3,.str [48],.str [49],.str [49]] .ls=some (.str<|yg o):=by
  rcases V9 (c/256) with e|e|e|e<;>rw[e]
  ·exact⟨none,.inl rfl,rfl,rfl⟩
  ·exact⟨some 0,.inr .a8,rfl,by show _=some (D.str<|tx 0);rw[y];rfl⟩
  ·exact⟨some 1,.inr .dn,rfl,by show _=some (D.str<|tx 1);rw[m];rfl⟩
  ·exact⟨some 1,.inr .dn,rfl,by show _=some (D.str<|tx 1);rw[m];rfl⟩
 have s:=UL Y S u t;have A:fIx (ab .aH<|ab .B<|ab .l .fz) (.aO .E .b3) .kU h=.ok (bj o) h:=lH .k0 (q h) z;have p:=kY (x:=fAt .e .R) A (by rw[j];exact aR rfl rfl rfl rfl) (rfl:aa 3 .kU h=_) S.md.st (Jp (by rw[ZA,S.md.ls]) u);obtain⟨d,l⟩:=qq (h.set sk (.lst .s1):Hd);rw[<-l]at s p;have v:fIx (ab .hZ<|ab (fC<|.str [48])<|ab (fC<|.str [49])<|ab (fC<|.str [49]) ar) (.aO .E .b3) .kU d=.ok (.str<|yg o) d:=lH .k0 (q d) w;have r:=O4 (W:=.sB) rfl .a v .b (Jn t);rw[show .sB++tx (a:Int)++[32]++yg o=br [32] [yf,tx (a:Int),yg o] by rw[Sn];rfl]at r;exact⟨_,d,sx p (aJ r),s⟩
def O7(Y:.f9)(N:k<=3)(S:.ez){c:Int}(j:a<n)(o:d=tdM n bk sk):
  ∃m h',(aw .yi
  .vP) .aD h=.rt (.str m) h'/\.l1 (.ok (.str m) h'):=by
 have O:=S.md.n30;have w:∀g,aa 0 .aD g=.ok .r2 g:=λg=>by rw[o];rfl
 have J:.aO .E .b3 .aD h=.ok (.int .ls) h:=aj rfl rfl .dF;obtain⟨f,P,I,E⟩:∃f:Int,sml f=true/\(f = -1\/f=1\/f = -2\/f=3)/\atI [.int (-1),.int 1,.int (-2),.int 3] .ls=some (.int f):=by
  rcases V9 (c/256) with e|e|e|e<;>rw[e]
  ·exact⟨-1,by decide,.inl rfl,rfl⟩
  ·exact⟨1,by decide,.inr .a8,rfl⟩
  ·exact⟨-2,by decide,.inr (.inr .a8),rfl⟩
  ·exact⟨3,by decide,.inr (.inr .dn),rfl⟩
 have Q:bs.getD a 0∈bs:=by
  have:a<bs.length:=by rw[S.md.lb];exact j
  rw[ZF,ZE this];exact YM this
 have B:=S.bb _ Q;obtain⟨q,K⟩:=qq (c/256/4%400);obtain⟨y,A⟩:=qq (bs.getD a 0+f*(1+q));have t:y.natAbs<=20000+1200*(k+1):=by
  rw[A];generalize bs.getD a 0=z at B;rcases I with rfl|rfl|rfl|rfl<;>omega
 have G:y.natAbs<=30000:=ZM t (by clear t B;omega);have u:y.natAbs<10^60:=ZS G .b;have C:=V6 Y N S j t;have F:.aX (fAt .cD .j) .va .aD h=.ok .iR h:=by
  rw[A,K];exact aj (V8 S.md j (w h) rfl) (aj (lH .k0 J E) (aj rfl .ma rfl)<|mH P) rfl
 have v:=kY (x:=fAt .e .l) F (by rw[o];exact aR rfl rfl rfl rfl) (rfl:aa 3 .aD h=_) S.md.ba (Jp (by rw[ZA,S.md.lb]) j);have L:bk<h.length:=(z0.mp S.md.ba).1;obtain⟨i,p⟩:=qq (h.set bk (.lst<|(.bs).set a (.int y)):Hd);rw[<-p]at C v;have H:i[bk]?=some (.lst<|(.bs).set a (.int y)):=by rw[p];exact x4 L
 have s:atI ((.dO).set a .iR) (a:Int)=some .iR:=by
  have:=mI (l:=bs.set a y) (by rw[Y7,S.md.lb];exact j);rw[zXc]at this;rw[this,ZF,x4 (by rw[S.md.lb];exact j)];rfl
 have r:=O4 (W:=.ni) (a:=a) rfl .a (gC (aR (aR (a:=aa 0) (b:=fC (.int 1)) (w i) rfl rfl rfl) (rfl:aa 3 .aD i=_) (aF H) s) u) .b (by have:=dj _ u;omega);rw[show .ni++tx (a:Int)++[32]++tx y=br [32] [Gw,tx (a:Int),tx y] by rw[Sn];rfl]at r;exact⟨_,i,sx v (aJ r),C⟩
def RB(Y:.f9)(E:k<=3)(S:.ez)(c:Int)(g:d=tdM n bk sk):.l1 (lM [d,.int c] h):=by
 have n1:=S.md.n1;obtain⟨a,A,v⟩:=BE n1;obtain⟨b,C,B⟩:=BE n1;have w:0<(n:Int):=by omega
 have p:.dy .iz [some d,some .cf,none,none,none,none] h=.nx .xO h :=
  (aA<|dz<|cv (by rw[g];exact aR rfl rfl rfl rfl)<|aF S.md.ba).trans (by rw[ZA,S.md.lb];rfl)
 have q:aG .aI .z9 .xO h=.nx .xp h:=by
  rw[<-A];exact aA (aj .h4 rfl<|c6 w)
 have o:aG .cJ .ym .xp h=.nx .wE h:=by
  rw[<-C];exact aA (aj .h4 rfl<|c6 w)
 have r:aG .cI (ag iJ .f .tE) .wE h=.nx .aD h:=aA .h4;have m:.aO .f .b3 .aD h=.ok (.int<|c%4) h:=aj rfl rfl .dF;have fin:∀{f j},lM [d,.int c] h=letGo h (.ok (.str f) j)->BD n bk sk dk k h (.ok (.str f) j)->.l1 (lM [d,.int c] h):=λ{f j} e i=>by
  obtain⟨H,I,y,M2,F,z,u,q1,q2,q3,G⟩:=i;cases q1;exact⟨f,j,y,M2,F,z,u,e.trans (sr<|zYx q2),q2,q3,G⟩
 by_cases x:c%4<2/\a≠b
 ·obtain⟨f,j,e,i⟩:=O6 (c:=c) Y S v B x.2 .a g
  have t:(.qG) .aD h=.ee h:=jt (aM<|aj m rfl<|wH x.1) (aM<|.ah<|(pU _ _ _).trans (by rw[xC .a];rfl));exact fin (.v<|sx p<|sx q<|sx o<|sx r<|gG<|(fI t).trans e) i
 ·have t:(.qG) .aD h=.ec h:=by
   by_cases l:c%4<2
   ·exact jt (aM<|aj m rfl<|wH l) (aM<|.ah<|(pU _ _ _).trans (by rw[x3 (show (a:Int)=b by omega)];rfl))
   ·exact qG (aM<|aj m rfl<|NF l)
  by_cases l:c%4=3
  ·obtain⟨f,j,e,i⟩:=Ld Y S v g
   have s:(.r3) .aD h=.ee h:=aM (aj m rfl<|qH.trans (by rw[x3 l]));exact fin (.v<|sx p<|sx q<|sx o<|sx r<|sx .nd<|gG<|(fI s).trans e) i
  ·obtain⟨f,j,e,i⟩:=O7 Y E S v g
   have s:(.r3) .aD h=.ec h:=aM (aj m rfl<|qH.trans (by rw[xC l]));exact fin (.v<|sx p<|sx q<|sx o<|sx r<|sx .nd<|sx ((bU s).trans rfl) e) i
end
def o5{x:EF}{c b:Hd}{l ds:List D}(p:x σ h=.ok .aB h1)(q:h1[k]?=some (.ob l))(a:r σ h1=.ok ds c)(f:F (.ref k::ds) c=.as b):jT F x r σ h=.as b:=by
 unfold jT;rw[p,aE];dsimp[q,a,aE,f]
theorem Jq:∀v:List Nat,mi .bO=0
 |[]=>rfl
 |x::v=>by dsimp[y6,mi,dep,Jq v];rfl
theorem Jr:∀v:List Nat,kr .bO .bO=some true
 |[]=>rfl
 |x::v=>by
  have:=Jr v;dsimp[y6,kr,peq,this,decide_true];rfl
def RE(h1:h[a]?=some .ep)(b:h[c]?=some .ep):oNe .bu .fa h=.go h:=by
 have e:eqL .bO .bO=some true:=by unfold eqL;rw[z4 (by rw[Jq];decide),z4 rfl,Jr]
 dsimp[oNe,eqG,ee,h1,b,e];rfl
def Wa(up:v.Pairwise (· < ·)):iG (gp<|kyL v)=kyL v:=by
 have c:=iM (gp<|kyL v);refine sW (r:=λa b:Int=>a<b) (λa b h=>by omega) ?_ ?_ λx=>by rw[c.mem_iff,JT]
 ·refine((mE).and (Y0.mp<|c.nodup_iff.mpr<|CF _)).imp ?_
  intro a b ⟨d,e⟩;omega
 ·unfold kyL
  rw[Y5];exact up.imp λ{a b} h=>by omega
def Wb(v:.i):(kyL v).map D.int=NL v:=by unfold kyL NL;rw[ZY];rfl
def Le(p:a σ h=.ok .aB h1)(b:h1[k]?=some .ep)(up:v.Pairwise (· < ·))(l:v.length<=6):oK a σ h=.ok .bO h1:=by
 unfold oK;rw[p,aE];dsimp[ee,b,jh];rw[z4 (by unfold kyL;rw[ZA];omega),Wa up,Wb]
def O8(b:∀p∈v,p<=30)(f:h[k]?=some (.lst .fC)):cz .dj .fC .K [] (nE .e) .fC .ax h=.ok .bO h:=by
 have c:=bB (g:=some k) (tg:=gN 0) (cs:=[]) (e:=nE .e) (I:=λσ=>∃a,σ = [a]) .bb (λd=>match d with | .str l=>(match o8 l with|some i=>.int i|none=>.non)|_=>.non) f (xs:=(.e2).map D.str) (σ:=.ax) (by
  rintro x m σ ⟨a,rfl⟩;obtain⟨y,j,rfl⟩:=z5.mp m;obtain⟨p,n,rfl⟩:=z5.mp j;exact⟨_,rfl,⟨_,rfl⟩,rfl,λ_=>(vE rfl (by have:=BB (b p n);omega)<|kK p).trans (by dsimp[kK])⟩) ⟨_,rfl⟩
 rw[c,Z5.mpr .y,ZY,txs,ZY];congr 1;apply YQ;intro p _;show (match o8 (tx (p:Int)) with|some i=>D.int i|none=>.non)=_;rw[kK]
theorem Js{c:Nat}(a:c≠32):∀{L:.aQ},(∀x∈L,c∉x)->c∉br [32] L
 |[],_=>by simp[br]
 |[x],H=>by simpa[br] using H x .d
 |x::y::L,H=>by
  have:=Js a λz d=>H z (.eF d);have b:=H x .fE;dsimp[br,Z1,not_or];exact⟨⟨b,by simpa using a⟩,this⟩
def D8{x:.i}(a:110∈x):br [32] .e2≠x:=λe=>by
 rw[<-e]at a;refine Js .b (λy b=>?_) a;obtain⟨p,_,rfl⟩:=z5.mp b;exact oZ .b .b
def z6(a:∀p∈v,p<=30)(e:v.length<=6)(c:h[k]?=some .ep):ke .lk h=.ok (.str<|.eL (wSw::txs v)) h:=by
 have g:aW .BG .i2 h=.bf .B9:=bF .bz;have lt:(.e2).length<=6:=by rw[txs,ZA];exact e
 have f:aW .rm [some .gf] .B9=.ok (.ref (h++[bJ.lst [.str wSw]]).length) .yO:=bF (ce (cy rfl<|.k c)<|xy a<|.k c) (by rw[ZA];exact ZM lt .b);have d:eQ (aW .BG) (aW .rm) [some .gf] h=.ok ((wSw::txs v).map .str) .yO:=oX g f (.k ZG) ZG (by simp;exact ZM (show 1+(.e2).length<=7 by omega) .b);refine (.v (aJ (lQ d (λx b=>?_) (by rw[Z2];omega)))).trans (by rw[ZU];exact bT rfl);rcases xB.mp b with rfl|b
 ·decide
 ·exact rq a x b
def O9{K:Nat}{s:Int}(hz:LZ h Z)(i:h[K]?=some .g0):cz (some K) .cK .K .rW .e .cK [none,some (.int s)] h=.ok .xg h:=by
 have c:=bB (g:=some K) (tg:=gN 0) (cs:=.rW) (e:=aa 0) (I:=λσ=>∃a,σ = [a,some (.int s)]) (λd=>match ee h d with|some l=>decide ((l.length:Int)=s)|none=>false) (λd=>d) i (xs:=rf Z) (σ:=[none,some (.int s)]) (by
  rintro x f σ ⟨a,rfl⟩;obtain⟨z,b,rfl⟩:=z5.mp f;exact⟨_,rfl,⟨_,rfl⟩,oP (aM<|aj (dz<|.aR<|aF<|hz z b) rfl<|qH.trans (by dsimp[ee,hz z b])),λ_=>rfl⟩) ⟨_,rfl⟩
 rw[c,List.map_id',zXl];congr 2;refine List.filter_congr λz b=>?_;dsimp[Function.comp,ee,hz z b,ZA]
def Lf{fr:.i}(b:h[f]?=some .tV)(n:fr.length<=6)(s:Int):
  ∃g K Z,qQ [.ref f,.int s] h=.ok (.ref K) .M/\.M[K]?=some .g0/\LZ .M Z/\∀z∈Z,z.2∈lV fr/\(z.2.length:Int)=s:=by
 obtain⟨L,g,Z,y,m,k,d,e,l⟩:=zW (i:=2) (j:=3) (X:=λL y=>[some (.ref f),some (.int s),some (.ref L),y]) ⟨λ_ _ _=>rfl,λ_ _ _=>rfl,λ_ _ _=>rfl,λ_ _=>rfl⟩ b n;have c:=O9 (s:=s) d k;refine⟨g++[.lst .xg],(.M).length,Z.filter λz=>decide ((z.2.length:Int)=s),?_,?_,?_,λz a=>?_⟩
 ·refine YY (.v<|sx (aA<|OJ h)<|sx .Bc<|aJ<|bF (ce (cy rfl k) c) (by rw[ZA];exact ZM (XU _ _) (ZM l .b))) (cL.trans ?_)
  rw[ZU]
 ·rw[<-ZU];exact ZG
 ·rw[<-ZU]
  exact LZ.more (λz a=>d z (YN.mp a).1) _
 ·obtain⟨p,o⟩:=YN.mp a
  exact⟨by rw[<-e];exact z5.mpr ⟨z,p,rfl⟩,Y4 o⟩
def UM(S:gx w)(ls:w.stays.length=n):dF w n .tH=dF w n .aZ:=by
 unfold dF;apply YQ;intro i a;have a:=YU.mp a;have o:.dw none=none\/.dw none=some 0\/.dw none=some 1:=by
  have b:i<w.stays.length:=by rw[ls];exact a
  rw[ZF,ZE b];exact S _ (YM b)
 have e:(i∈chL w.stays n\/.dw none=some 1)↔(i∈fr w.stays n\/.dw none=some 1):=by
  unfold chL fr;rw[YN,YN,YU,YS];rcases o with o|o|o<;>rw[o]<;>simp
 by_cases c:i∈chL w.stays n\/.dw none=some 1
 ·rw[z4 c,z4 (e.mp c)]
 ·rw[y3 c,y3 (λz=>c (e.mpr z))]
def Wc(S:gx w)(ls:w.stays.length=n):.c1 .tH=.c1 .aZ:=by
 unfold tb;rw[UM S ls]
def Wd(w:Web)(n:Nat):Ch w n .tH:=⟨List.pairwise_lt_range.filter _,λp a=>YU.mp (YN.mp a).1,λp a=>Y4 (YN.mp a).2⟩
section
variable{n:Nat}{M:.ad}{T:.V}{bs:.c}{ss:.Q}{bk sk dk:Nat}{h:Hd}{S0 td:D}
noncomputable abbrev XL(S0 td:D)(dk:Nat)(a b c d e f g:.G):Sd:=[some S0,some td,some .iS,a,b,c,d,e,f,g]
def Stt.go(S:.ez)(n6:n<=6):Go .P n:=⟨iz S.md.n30 S.lp.ok S.md.lb S.md.ls,n6,S.md.os,G0 S.lp.ok S.md.os,Ro S.lp.ok bs ss⟩
def RF(Y:.f9)(a:td=tdM n bk sk)(l:k<=3)(n6:n<=6)(S:.ez){c:Int}(m:∀g,bV [S0,.int ((5+k:Nat):Int)] g=.ok .cf g)(d:.G):
  ∃h' M T bs ss,F9 .wo h=.nx .wo h'/\Stt n bk sk dk (k+1) M T bs ss h':=by
 obtain⟨x,_,j⟩:=Jo (S.go n6) S.de;obtain⟨f,h',b,M2,o,i,e,q1,_,q3,S2⟩:=RB Y l S c a;exact⟨b,M2,o,i,e,sx (dW<|o5 rfl S.de .bz j) ((bU<|aM<|.cs<|o5 rfl S.de (.cw<|au (bI rfl<|au (.b8 .dz)<|m h) q1) q3).trans rfl),S2⟩
def xA(a:.i)(h:Hd):oEq (.str a) (.str a) h=.aN h:=(.e9).trans (by rw[x3 rfl])
def RG(R:td=tdM n bk sk)(n6:n<=6)(k3:k<=4)(S:.ez)(f j:.G):
  ∃h',(.vY) .xV h=.rt .ej h':=by
 have G:=S.go n6;obtain⟨m,L,W,a7⟩:=S;have B:=m.n30;have bb:∀b∈bs,b.natAbs<10^60:=λb hb=>ZS (ZM (a7 b hb)<|show 20000+1200*k<=30000 by omega) .b;have on:=zT B L;have s:=IZ m bb (by rw[on];exact(jI B L.ok).1);rw[on]at s;have s:kc [td] h=.p7 h:=by rw[R];exact s
 have sh:∀g:Hd,g[dk]?=some (.ob .lm)->bO [.ref dk,.str Rv] g=.p7 g:=λg hg=>OX B L.ok m.lb m.ls m.os bb hg;obtain⟨X,hX⟩:=qq .qz;rw[<-hX]at s;dsimp[<-hX]at sh;have lw:Lw 0 n M bs ss bk sk T .P td h:=⟨m,L,rfl,R⟩;have N:(.P).stays=ss:=rfl;obtain⟨w,hw⟩:=qq .P;rw[<-hw]at G W sh lw N;obtain⟨x,fw,e5⟩:=Jo G W;have e4:Ga .xV h=.nx .xW h:=aA (.ay s);have e5:Gb .xW h=.nx .j1 h:=aA (o5 rfl W .bz e5);have Y:∀(a b c d:.G) (g:Hd),g[dk]?=some (.ob .a3)->.bH .rd .E (.ft .gq a b c d) g=.ok (.bl true) g:=λa b c d g hg=>aj (o5 rfl hg .bz<|sh g hg) rfl (xA X g);cases fw with
 |no e al =>
  have f0:.c1 .oG=false:=by
   have:=Wc (n:=n) G.S (by rw[N];exact m.ls);rw[N]at this;rw[this];have:=al .lq (by rw[N];exact rm.mpr (List.Sublist.refl _));exact this
  have ch:=D0 lw B;have C:=Wd w n;rw[N]at C;have lt:=xt G (lw.more [.lst (NL .oG)]) C ZG;rw[f0]at lt;have t6:(.Bw) .j1 h=.ee h:=aM .yF;exact⟨_,sx e4 (sx e5<|gG<|(fI t6).trans (aJ<|n9<|jt (cH<|aM<|au (.b8<|.ay ch) lt)<|aM<|Y _ _ _ _ _<|.k W))⟩
 |so v e su tv mn =>
  rw[N]at su mn;have C:Ch w n v:=DZ (by rw[N];exact su);have l6:v.length<=6:=ZM (DT C) n6;have r:∀p∈v,p<=30:=λp hp=>by have:=C.lt p hp;omega
  have lt:(.e2).length<=6:=by rw[txs,ZA];exact l6
  have x6:x≠[110,111,110,101]:=by
   rw[e];split
   ·decide
   ·exact D8 .b
  have e6:Gc .j1 h=.nx .j1 h:=(bU<|aM<|.ah<|(.e9).trans (by rw[xC x6])).trans rfl;obtain⟨I,F⟩:=qq (h++[.lst []]:Hd);have e7:Ge .j1 h=.nx (.ft .gq .jV (some .a7) none none) I:=by rw[F];exact aA (bF rfl .b)
  have e8:∃q g,Gf (XL S0 td dk f j .iT .iU (some .A) none none) I=.nx .ef .M/\.M[q]?=some .ep/\fIx (ab .ac<|ab (fC<|.str []) ar) (uO<|.bH .ac .m5) .ef (h++g++[.lst .bO])=.ok (.str<|.eL .e2) (h++g++[.lst .bO]):=by
   by_cases c:v=[]
   ·rw[z4 c]at e
    refine⟨h.length,[.lst []],?_,by rw[c];exact ZG,?_⟩
    ·rw[<-F]
     exact(bU<|aM<|.ah<|(KL _ _ _).trans .j4).trans rfl
    ·rw[c]
     exact lH .eN (sA .yF) rfl
   ·rw[y3 c]at e
    have nb:x≠[110,111,98,111,100,121]:=by rw[e];exact D8 .b
    have xl:x.length<=1000000:=by
     have h1:=lU (sp:=32) (L:=txs v);have h2:=oW (rq r);rw[e];omega
    have tn:txs v≠[]:=λz=>c (List.map_eq_nil_iff.mp z);have sp:=bF (rc (c:=32) (a:=aa 6) (σ:=.ft .iT .iU (some .A) none none) (h:=I) rfl xl) (by rw[e,fU tn xz,ZA];exact ZM lt .b);rw[e,fU tn xz,<-e]at sp;refine⟨I.length+1,[.lst [],.lst .fC,.lst .bO],?_,?_,?_⟩
    ·refine(fI<|aM<|.ah<|(KL _ _ _).trans (by rw[xC nb];rfl)).trans ((aA<|bF (ce (cy sp ZG)<|O8 r ZG) .Au).trans ?_)
     rw[F];simp
    ·have:h++[bJ.lst [],.lst .fC,.lst .bO]=I++[.lst .fC]++[.lst .bO]:=by rw[F];simp
     rw[this,show I.length+1=(I++[bJ.lst .fC]).length by simp];exact ZG
    ·rw[<-e]
     exact lH .eN (sA (b:=false)<|.ah<|(.e9).trans (by rw[xC nb])) rfl
  obtain⟨q,g,e8,hq,ix⟩:=e8;obtain⟨J,Q⟩:=qq .M;rw[<-Q]at e8 hq ix;have d8:J[dk]?=some (.ob .a3):=by rw[Q];exact .k W
  have a2:Lw 0 n M bs ss bk sk T w td J:=by rw[Q];exact lw.more g
  obtain⟨l,o⟩:=qq (J++[bJ.lst .bO]);rw[<-o]at ix;have U:l[q]?=some (.lst .bO):=by rw[o];exact .k hq
  have d9:l[dk]?=some .h9:=by rw[o];exact .k d8
  have A:Lw 0 n M bs ss bk sk T w td l:=by rw[o];exact a2.more _
  have e9:Gg .ef J=.nx .ef l:=by
   have t1:.bG .a0 (aW<|oK .a0) .ef J=.go l:=by
    have nw:=bF (Le (a:=aa 7) (σ:=.ft .iT .iU .oo none none) (h:=J) rfl hq C.up l6) .Au;rw[<-o]at nw;exact aj rfl nw (RE U (by rw[o];exact ZG))
   have t2:.bG .xP .vW .ef l=.ok .mK l :=
    aj (lQ (ce (cy rfl U)<|xy r U) (rq r) .a) ix ((KL _ _ _).trans (by rw[x3 rfl];rfl))
   exact(bU<|iu (aM t1)<|aM t2).trans rfl
  have sy:=OY G C d9;rw[z4 tv]at sy;have a1:=xt G A C U;rw[tv]at a1;have a4:A5 .ef l=.nx .ef l:=(bU<|iu (aM<|.cs<|o5 rfl d9 (.cw<|.ay<|z6 r l6 U) sy)<|.bq<|aM<|.ab a1).trans rfl;obtain⟨O,H⟩:=qq (l++[bJ.lst (NL .lq)]);have a6:A6 .ef l=.nx (.ft .gq .jV (some .hF) .kv none) O:=by
   have c:=zY A (t:=λE=>tE (ag nC E .aH)) (λu=>u.isNone) λi hi=>aM (aj (Ji A hi) rfl (by rw[<-Jj];rfl));have a3:cM (lOf .kY) .ef l=.ok (.int (n:Nat)) l:=by
    rw[R];exact(dz<|cv .bi<|aF A.m.ba).trans (by rw[ZA,A.m.lb])
   have ln:(.lq).length<=30:=ZM (lh ss n) B;rw[H];exact aA (bF (ce (dJ a3 .a) c) (by rw[ZA];exact ZM ln .b))
  have fA:O[l.length]?=some (.lst<|NL .lq):=by rw[H];exact ZG
  have qA:O[q]?=some .ep:=by rw[H];exact .k U
  obtain⟨gB,K,Z,sB,kB,zB,aB⟩:=Lf fA (ZM (lh ss n) n6) ((v.length:Int)-1);obtain⟨V,a0⟩:=qq (O++gB);rw[<-a0]at sB kB zB;have dB:V[dk]?=some (.ob .a3):=by rw[a0,H];exact .k (.k d9)
  obtain⟨σ',h',k1,k2,y,k3⟩:=cP (g:=some K) (all:=rf Z) (tg:=gN 9) (b:=NW) (P:=λ_ σ h'=>h'=V/\∃y,σ=.ft .gq .jV (some .hF) .kv y) (λ_ _ h' p=>by rw[p.1];exact kB)
   (xs:=rf Z) (k:=0) (σ:=.ft .iT .iU .oo .kv none) (h:=V) (λi x' σ g' hx p=>by
    obtain⟨rfl,y,rfl⟩:=p;obtain⟨z,hz,rfl⟩:=z5.mp (ZK hx);obtain⟨z1,z2⟩:=aB z hz;have Cz:Ch w n z.2:=DZ (by rw[N];exact rm.mp z1);have tz:.c1 z.2=false:=by
     cases c:tb w n z.2 with
     |false=>rfl
     |true=>have:=mn z.2 z1 c;omega
    have sz:=OY G Cz dB;rw[tz]at sz;refine⟨_,rfl,_,_,(bU<|aM<|.cs<|o5 rfl dB (.cw<|.ay<|z6 (λp hp=>by have:=Cz.lt p hp;omega) (ZM (DT Cz) n6)<|zB z hz) sz).trans rfl,rfl,_,rfl⟩) ⟨rfl,none,rfl⟩
  have a5:A7 (.ft .iT .iU .oo .kv none) O=.nx (.ft .iT .iU .oo .kv y) V:=by
   refine(eK (cy (au (.b8 (aj (dz<|.aR<|aF qA) rfl ?_)) sB) kB) k1).trans (by rw[k2,k3]);rw[ZA];rfl
  exact⟨_,sx e4 (sx e5<|sx e6<|sx e7<|sx e8<|sx e9<|sx a4<|sx a6<|sx a5<|aJ<|Y _ _ _ _ _ dB)⟩
end
def UN(ns:.c)(U:ns.length<=63):∃h,Dq .lc []=.aN h:=by
 obtain⟨n,M,i,l,s,q,h,P⟩:=Ow ns (mo:=6) .b .b;have y:=P.n30;have A:n<=6:=by have:=P.nmo;omega
 have m:Md 0 n M i l s q h:=⟨P.n1,P.n30,P.mt,P.mo,P.ba,P.st,P.lb,P.ls,P.os⟩;have kl:q<h.length:=(z0.mp P.st).1;obtain⟨T,L⟩:=Oy P.mo y n .o;have t:∀b∈i,b.natAbs<=20000+1200*0:=λb u=>by have:=P.bb b u;omega
 have I:∀b∈i,b.natAbs<10^60:=λb u=>ZS (t b u) .b;obtain⟨e,j⟩:=qq (tdM n s q:D);obtain⟨S0,f⟩:=qq (.lit .cG:D);have Y:Lay n s q h.length:=⟨P.bkn,P.skn,kl⟩;have e0:NT [some S0,none,none,none,none,none,none,none,none,none] []=.nx .wG h:=by
  have r:=P.run;rw[<-f]at r;rw[j];exact aA (.ab r)
 obtain⟨d,o⟩:=qq (h++[.ob [(bg n T i l).enc]]:Hd);have e1:NU .wG h=.nx .wP d:=by
  rw[o];exact aA (Ri m I L (by rw[j];rfl))
 obtain⟨c,E⟩:=zQ ns 4 .b;rw[<-f]at E;have e2:NV .wP d=.nx .wg d:=aA (.ab<|E d);have w:Stt n s q h.length 0 M T i l d:=⟨by rw[o];exact m.more _,L,by rw[o];exact ZG,t⟩;obtain⟨R,hR,H⟩:=BE (n:=4) .b;have O:bZ (.aO .j .b3) .wg d=.ok ((.bV R).map (λk:Nat=>D.int k),none) d:=dJ ((.gK).trans (by rw[show c%4=(R:Int) from hR])) .a;obtain⟨σ',B,K,a,M',T',Z,Q,W,C⟩:=cP (g:=none) (tg:=gN 4) (b:=F9) (P:=λk σ B=>∃a M T i l,σ=XL S0 e h.length .na a none none none none none/\Stt n s q h.length k M T i l B) .bK
  (xs:=(.bV R).map λk:Nat=>D.int k) (k:=0) (σ:=XL S0 e h.length (some .cf) none none none none none none) (h:=d) (λk x σ g z p=>by
   obtain⟨a,M,T,i,l,rfl,S⟩:=p;rw[Z6]at S⊢;have J:k<R:=by
    have:=(z0.mp z).1;simpa using this
   have X:x=.int ((k:Nat):Int):=by
    rw[ZQ,YT J]at z;exact(ZT z).symm
   subst X;obtain⟨v,G⟩:=zQ ns (5+k) .a;rw[<-f]at G;obtain⟨h2,M2,T2,t,V,st,S2⟩:=RF Y j (show k<=3 by omega) A S G .na;exact⟨_,rfl,_,_,st,_,M2,T2,t,V,rfl,S2⟩) ⟨_,M,T,i,l,rfl,w⟩
 have F:=eK O K;rw[W]at F;rw[Z6,ZA,ZO]at C;obtain⟨hE,N⟩:=RG (S0:=S0) j A .a C .na a;have fin:=bm (np:=1) (n:=10) (ds:=[S0]) rfl rfl (sx e0<|sx e1<|sx e2<|sx F N);rw[f]at fin;rw[show Dq .lc []=_ from fin];unfold letGo;simp only;split
 ·exact⟨_,rfl⟩
 ·exact⟨_,rfl⟩
end Fm
end
end
noncomputable section
def PySem.W.Fast.tw90343872475197607 : Type := PySem.Params
theorem PySem.W.Fast.te90343872475197607 : PySem.Params = PySem.W.Fast.tw90343872475197607 := rfl
def PySem.W.Fast.tw5122432944833612750 : PySem.Program := PySem.Challenge.pw_followmost_k53_whole_fewest_at_a_desk
theorem PySem.W.Fast.te5122432944833612750 : PySem.Challenge.pw_followmost_k53_whole_fewest_at_a_desk = PySem.W.Fast.tw5122432944833612750 := rfl
def PySem.W.Fast.tw11100674880845909541 : Nat := 0
def PySem.W.Fast.tw7462145436449308870 : Nat := 0
def PySem.W.Fast.tw6924569289792314955 : Nat := 0
def PySem.W.Fast.tw497685576176212043 : Nat := 0
def PySem.W.Fast.tw647676443251147751 : Nat := 0
def PySem.W.Fast.tw10187754768306928934 : Nat := 0
def PySem.W.Fast.tw5348318985631635381 : Nat := 0
def PySem.W.Fast.tw13680697518082876324 : Nat := 0
def PySem.W.Fast.tw11265968397005163673 : Nat := 0
def PySem.W.Fast.tw13162586012716373781 : Nat := 0
def PySem.W.Fast.tw7893993321732799621 : Nat := 0
open PySem PySem.W PyProof.Rows
set_option maxRecDepth 100000 in
set_option maxHeartbeats 0 in
theorem PySem.Challenge.cw_followmost_k53_whole_fewest_at_a_desk_holds : PySem.Challenge.rw_followmost_k53_whole_fewest_at_a_desk.Holds := by
 w_on;o_law;k_head;(case hw=>w_witness2)
 k_fill
 refine Fm.Vx (l := PySem.Challenge.rw_followmost_k53_whole_fewest_at_a_desk) (F := Fm.Dq) (k := 23) (x := "_law_script") rfl rfl ⟨rfl, by decide, by decide, rfl⟩ (fun w h Y => PySem.W.kIn_of Y) ?F Fm.UN
 case F =>
  intro w mg fa h KX G hmg
  refine' Fm.Uq KX G hmg ?_ ?_ ?_ ?_ ?_ ?_ ?_ ?_ ?_ ?_ ?_ ?_ ?_ ?_ ?_ ?_ ?_ ?_ ?_ ?_ ?_ ?_ ?_ ?_ ?_ ?_ ?_ ?_ ?_ ?_ ?_ ?_ ?_ ?_ ?_ ?_ ?_ ?_ ?_ ?_ ?_ ?_ ?_ ?_ ?_ ?_ ?_ ?_ ?_ ?_ ?_ ?_ ?_ ?_ ?_ ?_ ?_ ?_ ?_ ?_ ?_ ?_ ?_ ?_ ?_ ?_ ?_ ?_ ?_ ?_ ?_ ?_ ?_ ?_ ?_ ?_ ?_ ?_ ?_ ?_ ?_ ?_ ?_ ?_ ?_ ?_ ?_ ?_ ?_ ?_ ?_ ?_ ?_ ?_ ?_ ?_ ?_ ?_ ?_ ?_ ?_ ?_ ?_ ?_ ?_ ?_ ?_ ?_ ?_ ?_ ?_
  all_goals first|refine' Fm.At.i ?_ ?_ ?_ ?_|unfold Fm.Nb|skip
  all_goals try first|k_is|k_exc|kit_is
  all_goals first|(unfold Fm.wB;kernel_rfl)|(unfold Fm.AW;kernel_rfl)
