import PyProof.Rows.All
import Wide.All
import OpenK.AllK
import Wide.FinOn
import Lean
import PyProof.Rows.SortRuns
import PyProof.EqAt
import PyProof.EqKinds
import PyProof.TupleCall
import PyProof.NeKinds
import PyProof.IsInstanceH
import PyProof.IsiNone
import PyProof.EnumMake
import PyProof.Draws
import PyProof.ZipIter
import PyProof.ListRange
import PySem.Challenge.RW_followmost_k56_whole_answers_exchanged
set_option Elab.async false
set_option linter.all false
abbrev ZA:=@List.length_map
abbrev ZB:=@List.length_append
abbrev ZC:=@List.getElem?_append_left
abbrev ZD:=@List.getElem?_append_right
abbrev ZE:=@List.getElem?_eq_getElem
abbrev ZF:=@List.getD_eq_getElem?_getD
abbrev ZG:=@List.getElem?_concat_length
abbrev ZH:=@PySem.Heap.get?_push_of_some
abbrev ZI:=@PySem.Heap.lt_size
abbrev ZJ:=@PySem.Heap.get?_push_size
abbrev ZK:=@List.mem_of_getElem?
abbrev ZL:=@Nat.le_refl
abbrev ZM:=@Nat.le_trans
abbrev ZN:=@Nat.ne_of_lt
abbrev ZO:=@List.length_range
abbrev ZP:=@List.getElem?_set_ne
abbrev ZQ:=@List.getElem?_map
abbrev ZR:=@List.map_append
abbrev ZS:=@Nat.lt_of_le_of_lt
abbrev ZT:=@Option.some.inj
abbrev ZU:=@List.append_assoc
abbrev ZV:=@List.mem_cons_self
abbrev ZW:=@List.mem_cons_of_mem
abbrev ZX:=PySem.W.Frag
abbrev zS:=@List.getElem?_eq_some_iff
abbrev z0:=@PySem.wpAny_bind
abbrev z4:=@if_pos
abbrev z5:=@List.mem_map
abbrev yD:=@if_neg
abbrev yP:=@List.map_cons
abbrev yS:=@List.mem_singleton
abbrev y3:=@List.map_map
abbrev y4:=@List.mem_cons
abbrev wX:=@PySem.wpAny_pure
abbrev wZ:=@List.getElem?_eq_none
abbrev v3:=@PyProof.Rows.wpS_bind
abbrev ZY:=@List.size_toArray
abbrev ZZ:=@decide_eq_true
abbrev Z0:=@List.mem_append
abbrev Z1:=@List.getElem?_set_self
abbrev Z2:=@Nat.lt_succ_of_lt
abbrev Z3:=@PyProof.Rows.wpS_pure
abbrev Z4:=@List.pairwise_cons
abbrev Z5:=@Nat.lt_of_lt_of_le
abbrev Z6:=@decide_eq_false
abbrev Z7:=@Bool.false_ne_true
abbrev Z8:=@List.pairwise_append
abbrev Z9:=@List.filter_eq_self
abbrev YA:=@List.getElem?_range
abbrev YB:=@Bool.and_eq_true
abbrev YC:=@Nat.lt_trans
abbrev YD:=@List.mem_range
abbrev YE:=@Nat.zero_add
abbrev YF:=@Nat.le_add_right
abbrev YG:=@Array.getElem?_toList
abbrev YH:=@PySem.Heap.get?_push_ne
abbrev YI:=@Nat.lt_irrefl
abbrev YJ:=@List.pairwise_map
abbrev YK:=@List.map_congr_left
abbrev YL:=@List.nodup_iff_pairwise_ne
abbrev YM:=@PySem.Heap.size_update
abbrev YN:=@Nat.ne_of_gt
abbrev YO:=@List.ext_getElem?
abbrev YP:=@PySem.PassesOwn.never
abbrev YQ:=@PySem.sizeLine_eq
abbrev YR:=@List.getElem_mem
abbrev YS:=@List.mem_append_right
abbrev YT:=@List.length_cons
abbrev YU:=@Nat.lt_succ_self
abbrev YV:=@List.pairwise_singleton
abbrev YW:=@PySem.Heap.get?_update_ne
abbrev YX:=@Nat.le_of_lt
abbrev YZ:=@Nat.zero_le
abbrev Y0:=@List.length_filter_le
abbrev Y1:=@List.filter_cons_of_pos
abbrev Y2:=@List.mem_filter
abbrev Y3:=@of_decide_eq_true
abbrev Y4:=@Bool.false_eq_true
abbrev Y5:=@PySem.W.mg_none_of
abbrev Y6:=@Array.length_toList
abbrev Y7:=@List.lookup_cons
abbrev Y8:=@Option.map_some
abbrev Y9:=@List.pairwise_iff_getElem
abbrev XA:=@Option.map_eq_some_iff
abbrev XB:=@List.take_of_length_le
abbrev XC:=@List.take_append_drop
abbrev XD:=@List.append_nil
abbrev XE:=@List.drop_eq_getElem_cons
abbrev XF:=@PyProof.Rows.callWith_type1
abbrev XG:=@List.mem_of_mem_take
abbrev XH:=@List.take_length
abbrev XI:=@List.nodup_cons
abbrev XJ:=@List.filter_cons_of_neg
abbrev XM:=@Eq.trans
abbrev XO:=@Array.getElem?_eq_getElem
abbrev XR:=@List.filter_cons
abbrev XS:=@List.filter_append
abbrev XT:=@Nat.add_left_cancel
abbrev XU:=@PyProof.Rows.get?_update_seq
abbrev XW:=@List.all_cons
abbrev XX:=@List.mem_drop_iff_getElem
abbrev XY:=@List.getElem?_zip_eq_some
abbrev XZ:=@PyProof.Rows.wpS_forRange
abbrev X0:=@Nat.not_lt_zero
abbrev X1:=@PySem.Heap.size_push
abbrev X2:=@Option.getD_some
abbrev X3:=@List.filterMap_cons
abbrev X4:=@List.replicate_succ
abbrev X5:=@Int.le_refl
abbrev X6:=@List.flatten_cons
abbrev X7:=@decide_eq_true_eq
abbrev X8:=@Option.some.injEq
abbrev X9:=@Int.toNat_natCast
abbrev WA:=@Nat.le_of_lt_succ
abbrev WB:=@if_true
abbrev WC:=@List.eraseIdx_eq_take_drop_succ
abbrev WD:=@List.mem_of_mem_drop
abbrev WE:=@PySem.wpAny_holding
abbrev WG:=@PySem.wpAny_loadPart'
abbrev WH:=@List.length_set
abbrev WI:=@List.length_take
abbrev WJ:=@PySem.wpAny_call_entry
abbrev WK:=@PySem.wpAny_field
abbrev WL:=@List.nodup_append
abbrev WM:=@Option.isSome_iff_exists
abbrev WN:=@if_false
abbrev WO:=@List.Pairwise.imp_of_mem
abbrev WQ:=@Ne.symm
abbrev WR:=@List.cons.injEq
abbrev WS:=@List.mem_filterMap
abbrev WT:=@PySem.wpAny_pyIter_tuple
abbrev WU:=@PyProof.Rows.size_push'
abbrev WV:=@Nat.lt_of_le_of_ne
abbrev WW:=@PySem.wpAny_callSpecial?_slot
abbrev WX:=@List.length_eq_zero_iff
abbrev WY:=@Array.toList_reverse
abbrev WZ:=@PySem.wpAny_truthy_bool
abbrev W0:=@Array.getElem?_eq_some_iff
abbrev W1:=@List.take_zero
abbrev W2:=@List.perm_ext_iff_of_nodup
abbrev W3:=@Nat.add_le_add_left
abbrev W4:=@List.filter_sublist
abbrev W5:=@PySem.call_isinstance
abbrev W6:=@PyProof.Rows.slot_tuple_getitem
abbrev W7:=@List.mem_take_iff_getElem
abbrev W8:=@List.all_eq_true
abbrev W9:=@List.mem_reverse
abbrev VA:=@Int.emod_lt_of_pos
abbrev VB:=@List.getElem?_take_of_lt
abbrev VC:=@PySem.wpAny_comprehension_free
abbrev VD:=@Nat.lt_succ_iff_lt_or_eq
abbrev VE:=@PySem.isSubtype_type
abbrev VF:=@Nat.pow_le_pow_right
abbrev VG:=@PySem.wpAny_newObj_type
abbrev VH:=@PyProof.Rows.wpS_modify
abbrev VI:=@List.length_pos_iff
abbrev VJ:=@List.pairwise_lt_range
abbrev VL:=@List.sum_cons
abbrev VM:=@PyProof.Rows.wpS_mono
abbrev VN:=@Nat.not_lt
abbrev VO:=@PySem.F.slot_tuple_iterator_next
abbrev VP:=@PySem.wpAny_seqItems
abbrev VQ:=@List.getElem?_drop
abbrev VS:=@PySem.wpAny_setField_rec
abbrev VT:=@Int.natCast_nonneg
abbrev VU:=@PySem.Calls.call_function_entry
abbrev VV:=@Classical.byContradiction
abbrev VW:=@PySem.wpAny_passesOwn
abbrev VX:=@List.range_succ
abbrev VY:=@Int.emod_nonneg
abbrev VZ:=@List.mem_append_left
abbrev V0:=@List.map_nil
abbrev V1:=@Nat.le_of_eq
abbrev V2:=@Nat.le_succ_of_le
abbrev V3:=@List.take_succ_eq_append_getElem
abbrev V4:=@List.flatMap_cons
abbrev V5:=@List.any_cons
abbrev V6:=@PyProof.Rows.listUpdate_at
abbrev V7:=@PySem.wpAny_newList
abbrev V8:=@PySem.W.mg_of
abbrev V9:=@PySem.mem_of_lookup
abbrev UA:=@Nat.mul_le_mul_left
abbrev UB:=@List.ext_getElem
abbrev UC:=@List.getElem?_cons_succ
abbrev UD:=@Nat.add_sub_cancel_left
abbrev UE:=@PySem.wpAny_mono
abbrev UF:=@Nat.add_right_comm
abbrev UG:=@List.foldl_cons
abbrev UH:=@List.find?_cons
abbrev UI:=@List.length_replicate
abbrev UJ:=@List.pairwise_reverse
abbrev UK:=@PySem.wpAny_pyIter_list
abbrev UL:=@Bool.not_eq_true'
abbrev UM:=@Array.toList_push
abbrev UN:=@List.getElem?_of_mem
abbrev UO:=@Array.perm_iff_toList_perm
abbrev UP:=@Array.reverse_append
abbrev UQ:=@List.reverse_reverse
abbrev UR:=@Nat.add_le_add_right
abbrev US:=@List.take_succ
abbrev UT:=@List.set_append_left
abbrev UU:=@Nat.le_of_not_lt
abbrev UV:=@List.cons_append
abbrev UW:=@Int.ofNat_le
abbrev UX:=@List.any_eq_true
abbrev UY:=@List.getElem_of_mem
abbrev UZ:=@List.flatten_append
abbrev U0:=@Nat.add_lt_add_left
abbrev U1:=@List.Perm.eq_of_pairwise
abbrev U2:=@PySem.F.args_tuple_add_2
abbrev U3:=@PySem.wpAny_pyIter_tuple
abbrev U4:=@List.length_nil
abbrev U5:=@PyProof.Rows.entry_list_sort
abbrev U6:=@PySem.W.KasT.kasWp_bind
abbrev U7:=@PySem.wpAny_Call_Name_kw
abbrev U8:=@PySem.SeqAt.EqAt.int_int
abbrev U9:=@List.zip_cons_cons
abbrev zo:=@PySem.tupleKind_room_in1
abbrev zp:=@Array.append_empty
abbrev ya:=@Int.lt_of_le_of_lt
abbrev xa:=@Nat.le_succ
abbrev wa:=@Nat.add_comm
abbrev wb:=@Int.le_trans
abbrev wd:=@PyProof.Rows.slot_list_sort
abbrev wh:=@List.drop_sublist
abbrev wo:=@PyProof.Rows.wpS_get
abbrev wq:=@Bool.or_true
abbrev wz:=@PySem.wpAny_standAt
abbrev vb:=@PySem.wpAny_attempt
abbrev vn:=@PyProof.Rows.seqEpoch_at
abbrev S1:=PySem.Value
abbrev Q5:=PySem.Shared
abbrev P1:=PySem.Around
abbrev P2:=PySem.Program
abbrev N3:=PySem.World
section
set_option hygiene false
set_option compiler.extract_closed false
theorem Q0Q(h:True:=by first|exact .inl rfl|exact .inr rfl|assumption):True:=trivial
theorem Q1Q(h:True:=by decide):True:=trivial
theorem Q2Q(h:True:=by intro _;rfl):True:=trivial
theorem Q3Q(h:True:=by rfl):True:=trivial
theorem Q4Q(h:True:=by decide +kernel):True:=trivial
theorem Q5Q(h:True:=by intros;rfl):True:=trivial
theorem Q6Q(h:True:=by intro _ _;rfl):True:=trivial
def en:Nat->Lean.Syntax->List String->List String
|0,_,l=>l
|_,.atom _ v,l=>("a"++v)::l
|_,.ident _ _ x _,l=>("i"++toString x)::l
|n+1,.node _ k s,l=>(match k with|.str `Lean.Parser.Term w=>"t"++w|_=>"n"++toString k)::s.foldr (en n) ("e"::l)
|_,_,l=>l
def de(r:Lean.SourceInfo)(h:Array Lean.Syntax):List String->List (String×Array Lean.Syntax)->Lean.Syntax
|t::l,(k,s)::m=>
 let v:=String.ofList t.toList.tail
 match t.toList.head?,m with
 |some 'n',_=>de r h l ((v,#[])::(k,s)::m)
 |some 't',_=>de r h l (("Lean.Parser.Term."++v,#[])::(k,s)::m)
 |some 'e',(j,u)::q=>de r h l ((j,u.push (.node r k.toName s))::q)
 |some 'a',_=>de r h l ((k,s.push (.atom r v))::m)
 |_,_=>de r h l ((k,s.push (h.getD (["γ","δ"].idxOf v) (Lean.mkIdent v.toName).raw))::m)
|_,(_,s)::_=>s.getD 0 .missing
|_,_=>.missing
local macro_rules
|`('§' [$a,*])=>
 let l:=a.getElems.toList.map λx=>"\n".intercalate (en 999 (if x.raw.isOfKind ``Lean.Parser.Term.paren then x.raw[1] else x.raw) [])
 pure (Lean.quote (k:=`term) ((List.range (l.length/32+1)).map λi=>"\t".intercalate ((l.drop (32*i)).take 32)))
def tb:List String:='§' [(by lia),List Int,(by decide),aa 1,(by simp),aa 0,aa 2,aa 3,List Nat,aC _,List.range n,ME X,mv 0,At K,OkD P w K mg base,hist w n,S1->Q5->Prop,ZL _,Inv X pins σ H s,mv 1,fC (.int 1),mv 3,PE X,aM n T bs ss,List .hX,.int i,aT _,gN 0,Array Keyed,aa 4,dj n,ab .f aj,ao s,fC (.int 0),List Addr,List .ex,fC (.int 2),(λ_ _=>rfl),mv 2,h++g,ar .dw γ,Option D,(by simp;lia),ZH _,aX w n s,.ref A,.int n,lE r,ar .cg γ,Def P w K mg base,[w.enc],ay w n s,mv 4,bJ rfl rfl γ,.int way,wpS M A E s,G23 w n lo hi,List Str,model X.prog X.w,List Tie,ay w n,model prog w,aa 6,a σ h,List Keyed,.ref k,["web"],OpR X,w.stays.map aP,Keyed->Keyed->Bool,List .aT,0,aa 5,Nat->Nat->Int,ab .f .cf,gT [0,1],RDs K ρ H,upd H,Stb r,fC .non,List Int,ss.map aP,.ref f,Option Int,.ok d,(by simpa using c),Str->Option S1,X.calm=true,YH _ _ _,eJ st,(λ_=>true),nbs T i,fY w n l,mv 5,ss.length=n,TOk n n 0 T,wpAny .ag X.A,Nat × Int,(by dsimp[rD,RD]),kindOf st=kd,RH K ρ H hd,bs.length=n,List .aC,wX ?_,cB.bind γ,aG .ef γ,.ok .gF,aq dr,.ref h.length,.ref ok,h++[.lst []],Cmp M A E s kd S r,List Expr,aq de,aq cL,bn rfl rfl rfl rfl,bm .gz,(by decide +kernel),arrOf st,cx w n,Two M A E s kd S r a b,ag c a γ,fr w.stays n,aa 7,0,0,(by omega),gN 6,(∀x∈ss,x=none\/x=some 0\/x=some 1),av rfl rfl γ,starEach [a],l.map .int,zS.mp e,mv 6,[none],mg "len"=none,Array S1,upd H p γ,0,aX w n,.lst .c6,dN n o T bs ss,NL l,.ref tk,aI aj,YF _ _,aG .bR γ,Inv X pins σ,wpAny .aj A,RD K ρ H,.ok .a4,eval a,bL.a (bF.cons rfl rfl bF.nil),ae .m ak,h++[.lst .aq],mvd o 0 s,cF w n,gN 3,.int j,.Name γ p,bY γ .A4 aV,sIf γ kO bT,aG .dd γ,YW _ _ _ _,x == ("__debug__" : Str),ab .g aj,(λ_ _ _ _=>trivial),s.heap.objs.size+1,oW n T bs ss,.lst l,ns.map V.int,.lst xs,jj a b,some x,some k,mg "tuple"=none,.inl rfl,.yield γ,ag b a γ,mvd o 0,Y5 X G,ab .d aj,am rfl rfl,hJ rfl (bE ax (bE ax eU)),{ s with heap:=h' },nN o,hist w n s k,g.below .a,.dcT mm,.tup xs,cB.bind p,.int v,g i j,xcs s,mg "range"=none,0,LP n M n 0 T,Option Addr,HOk P w H h,l.length=n,l.map (·.2),.lst l,.ref A,sIf γ .ea bT,am rfl γ,am γ rfl,cm rfl γ,cW rfl γ,Ext ρ H,eval e,ae .m .d9,((bA w n s (t+2)).map ao),ab .au aj,EP X pins σ Q,lo.zip hi,l.map D.int,am rfl .dw,xcw n w,h.length,x::xs,RD K ρ H d v,Nat × Int,List .mc,List .po,aX w n a,.int i,compareOp γ,.builtin γ,Kp.same γ,ab .f γ,h pins s σ H,Mgd r a b,aG .mH,aq oEq,bs.map .int,seqObj "list" #[] 0,Ho w n h d mm f g,af aQ .F,af aK .F,eval o X.env,.ref d,gN 5,K w.params,.lst .aD,.ref a,NL .bi,[.ref a],YZ _,Keyed->Prop,List .tS,List Env,.ref ok,0,.int n,rv.mono γ,aG .fR γ,k _ _ .ca,ag d a,ae .M,Q .pB,bK rfl rfl,ha pins s σ H _ I h,(by rw[z];exact YI _),ae .M ak,cT (lOf .d),(by simpa using e),pendingOf st,.int one,ae .aP ak,iM w.stays,bI st,E.map ao,o.push y,.bl b,0,l.map f,e::es,Y0 _ _,kyT k,kyL l,rf Z,aa 8,a++b,0,Iso w w' n φ ψ,X.N[i]?=some x,MH r a b o n m,PE X a ta,List .A3,.Subscript γ δ pos,List.replicate γ δ,ee (b:=true) γ,bY γ .j2 aV,bq eV hU γ δ,ij γ .gm,bq fP fQ γ δ,PySem.W.nsIn K mainGlobals,lexLt a,.ok .U,ae .t ak,aS (fC (.bl false)),[some w.enc,some (ao a),some (ao b)],Option Nat,own++capn,.ref c,gN 2,o.push x,[w.enc,ao s],lOf .f,ay w n a,some v,.int x,X0 _,(∀t∈T,t.a<n/\t.b<n),ME X e f,Nat->Int,0,q.q1 _ _ _ _ _ _ _ γ,.hM γ [a],bA w n s γ,congrArg List.length,bs.getD i,aG .ef,Addr × Obj,Obj.mapSeq λ_=>#[],(λp=>(Sum.inl p.1:Key)),zm5 La Lb s.heap a b,[some w.enc,some .an],(λz=>decide (a z=k)),[.int p.1,.int p.2],(λx y=>a x<=a y),(by simp[SZ];lia),a.toList.drop i,ns.map .int,(by rw[f];rfl),["web","person"],ss.getD i none,.head _,fAt .f .H,["web","thing"],T.map (ren o),.ref n,r.map gJ,setArr st xs,.int c,.builtin id,back n o,fE w.stays,bh W S F k,.ref it,model P w,[p.1,p.2],aB .lT,List D,Def P w K mg base "many_of" 1 1 aQ,bL X scope own capn caps,a.toList.Pairwise .V,mg "list"=none,s.length=n,a.length=n,List Stmt,aX w n b,.Name x pos,.int way,.head _,Ts.byK (·.1) γ,av γ rfl rfl,dk rfl γ .mC,hist w n s γ,bn rfl rfl γ δ,Ext.same γ,bh W S F γ,dk rfl b γ,EP X pins σ Q,cP ha eQ,[some w.enc,some (.ref k),some .pe,some (.str b),some (.ref A)],fC (.int 3),{ s with heap:=h',toks:=t' },seqObj "list" vs.toArray 0,[some w.enc,some (.ref c),some (.ref d),some (.ref m),some .a4,some .jQ,y],List.range i,ae aw ak,ab .u aj,((cF w' n).map (eK w' n)),((.k).map λi=>.ref (A+i)),.lst .cj,lOf .jV,ab .D aj,ab .h aj,ab .f .bZ,w.ties.getD m [],(by simpa using h),(by rw[j];rfl),a == sysModules,iM .kb,["web","stand"],h++[.lst l],bL.a bF.nil,Array Keyed,spF K F np,fW w.stays,fN M n i,ag b a .bN,ae .aa ak,((S b).mp g),gN 4,eh n T n,.ref b,.tup vs,a.size-n,.frz o u,a.zip b,.lst ys,uh n T,other+1,pO a b,.dcT a,(by rfl),b σ h,aL rfl,ZH _ e,.dK b,Loc X.env.scope x,RDs K ρ H l vs,Ext ρ H ρ' H',Int->Int->Int,b.length=n,Option Nat,A=h.length,X.N.Nodup,PE X b tb,List .tZ,Array Nat,qz w w n,FuncData,Ch w n l,.inr rfl,.ref k,.Constant γ j pos,bu .nu jc γ δ .A,Ts.insK (·.1) γ δ,bq iF rP γ aw,eval γ X.env,List.range γ,PySem.W.fnOf n n .mz .ha .dG .none,attributeBase o,Ho w n h d mm,absurd z,a.getD i,av rfl rfl rfl,(λ_ _ _ _ z=>by rw[(bx bX) _ _ _ _ z];decide),some (.ref (n+2)),[some w.enc,some .G,none,none,none],h++[.lst .lZ],[some c,some .an,some .T,some .z],.bl true,[.ref (t),.ref bk,.ref sk],.type .gI,tyS t,(by simpa using h2),(by simpa using h1),gZ own.length caps σd,φ .Z,.ref s.heap.objs.size,T.map cH,[.Subscript o i f],X[X.length-1]' .a,List.range n.toNat,.lst ((.bf).map ao),fAt .f .K,σ none none none,Nat × Nat × Nat,ss.map xco,I.hok.fresh .r,((cx w' n).map ao),[w.enc,ao a,ao b],mvd o none ss,hb.set d .cm,bp .t aw .L,eP P w,σ none none,(λp=>kyT p.1),setArr st ys,bs.map D.int,s.map D.int,(by simp[SZ]),ek st,[some w.enc],mvd o 0 bs,cm .bb rfl,ag d a .bN,ag c a .bN,[none,none],.lst vs,["person"],(λ_=>#[]),l.take k,b.size-m,XI.mp nd,.tup l,ρ++[p],I.tok _,[some j],[.ref p],x σ h,rD X.K,e σ h,eqU x,(∀x∈b.toList,∀y∈a.toList.drop .qg,r x y=true),(∀f s,S2 .hY f s n=S2 .hY s f n),mg "isinstance"=none,X.A.units+1<cLine,mg "sorted"=none,h[ok]?=some .fx,MI r a b out i j,G23 w' n lo' hi',h[k]?=some .pS,MI r a b o i j,A.handled=none,Array .A6,ME X o fo,List .pR,List .A2,At K n st,.Call γ δ [] pos,.tail _ a,.BoolOp γ δ pos,.dct l,.inl h,.ListComp γ δ scope pos,.hM (.bT x) γ,bp .t γ .L,backTo cpos,I.cell x c,[some S0,some p1,some (.int way),some (.int n),some (.ref (A+n)),some (.ref tk),some (.int one),some (.int i),some (.int v),none,none,none],Option Int,(λi=>w.ties.getD i []),[some w.enc,some .G,some .a4,some (ao (hist w n s (k+2))),none],[some (.int c),some .U,some .T,some (.ref (A+1)),some .z],some (.ref (n+1)),[some w.enc,some .T,some .G,some (ao .Z)],tE (aq gX .f .aB),[some d,some .T,some .z,some (.int j)],fC (.int 7),s.heap.update a .ey,(by simpa using rv.length.symm),cxC X .ed scope cl C s H ex,fC (.int (-1)),isP w n,{ s with heap:=G,toks:=tk },[ao (φ s),ao .gM],tE (aq gX .d .aB),aq fM .u .f,0,fC (.int 200),.builtin "sorted",[some w.enc,none,none],[(false,eval a X.env)],["web","one","other"],wX ⟨_,rfl,wX h⟩,seqObj "list" #[] j,0,List.range l.length,.int base,nN (f.eraseIdx j),[s.heap.objs.size],0,xs.toList.drop i,w.ties.getD i [],ae .v ak,.ref (A+n),(λx=>x.1.isSome),(by rw[eI,O.len]),ae .m .dz,ab .f .fA,ZS (W3 .c _) a,Str × NameKind,(by rw[a];rfl),bp .v aw .L,binaryOp .Add,af cE .F,.bl false,h++[b,C1,C2],(λx => !x.1),.lst .aq,p.getD i 0,am rfl .cg,ag g a .bN,af bO .fB,T.take i,s.trans k,r.trans j,o.idxOf i,cQ.outE p,(by rw[ZA]),Sum.inl k,.ref z,c8 .jT,.tup ys,(λ_=>rfl),ZJ _ rfl,Str × V,κ × V,zS.mp c,mvd o 0,.type T,.ref q,.ref l,t σ h,fo o p,cN .t,.dcT l,[(.x).enc],(∀x,b[0]?=some x->∀y∈a.toList,r x y=true),Def P w K mg base "stays_of" 1 1 aK,b.toList.Pairwise .V,List V->Hp->VK->Prop,RS K ρ H σd hd σ,a.length=b.length,En P w K mg base,a σ h=.ok l h1,OpR X .A5 r,X.mg x=none,Seq x l g h,Int × Int,.Tuple elts tk tp,r.map (·.2),.int p.1,.int p.2,.dT kvs,.Attribute o γ apos,bi 1 [] γ .B [] δ,.hM γ [a,b],bq gD gF aw γ,av γ rfl .lX,StateT SortSt Sem,bU none .eQ .ax,PySem.W.keepIn K,w.stays.getD i,starEach [a,b],RDs.cons .t8,starEach [b],sIx l.length,IsTup s.heap,bF X scope,aG (gN 11),Kp ρ H ρ,[some (.int c),some .ac,some (.int m),some (.int base),some .T,some (.int z),some .z],s.heap.push { cls:=.type "tuple_iterator",data:=.fields #[.ref l,.int 0 0] },seqObj "tuple" vs.toArray 0,av rfl rfl (kC .c .c),ab (fAt .h .f) (ab (fAt .h .d) .bZ),.int (p:Nat),[some w,some (.ref (A+1)),some (.ref (A+2))],ae .m .ft,bp .m aw .L,cxC X .ed scope cl N.objs.size s2 H1 I,fAt .f .u,ov d f H,List.range (p.2+1-p.1).toNat,((.k).map λi=>bZ .aN),[some x,some .a5,some .a4,none,none],((l.zip k).map λp=>.tup [p.1,p.2]),((bA w n s (t+2)).map λs=>ao .bP),au (aE jB),(λb o hb e=>(sb.2 b hb).trans e),ha pos pins s σ H _ I h,aq oEq (aq de .d .K) .u,(((.fs).map f++[x]).map .int),seqObj "list" c.toArray 0,fAt .d .f,.ref (h.length+1),((iD (E.take i) p).map ao),ss.take k,[116,117,114,110],gM (tE (kN .list .d)),(by dsimp[ZY]<;>lia),[(tE (aq oLt .g .f))],(λa b=>lexLt a b=true),[112,97,105,114],he pins s σ H _ I h,av rfl rfl .lX,hist w n .b6 t,tupleKind .g3,starEach [e] X.env,ab .f (ab .H aj),cT (lOf .g),bV (af bO .aw),{ s with heap:=B },w.ties.getD p [],some (ao a),(by simpa using a),bs.map V.bl,H++[.lst (NL m)],[114,101,115,116],b.toList.drop j,.tup (k.map kV),bZ (nbs T p),List.range k,(by simp[z]),(λa b=>a.1<b.1),p.getD (m-1) 0,h++[.lst .gO],bh W S F (k+1),ag c a .jS,[w.enc,.ref ok],h++[.lst .cJ],gZ nl caps σ,I.ok.bs b o e,.lst .gO,.bool true,lsr w n φ s,hist w n s i,yZ c.heap H,k+xs.length,iW i r,ae .m .iv,NL (v++[p]),((.gW).map aP),xcw n .cP,p.getD m 0,p.getD k 0,l.getD i 0,(by simp[d]),(by simp[c]),ag d a .cI,ag b a .cI,.dK kvs,((.fs).map f),.ref L,upd H a o,mvd o d l,.lst .pG,tb w n l,f σd hd,X.wish E,["thing"],["stand"],zS.mp f,nu N vs,iO T.sb,iO T.sa,ce .c9,c.zip a,Def P w K mg base "ties_of" 1 2 bO,PassesOwn .ag X.A X.env X.xe,Dbl w d n lo hi lo2 hi2,a σ h=.ok .eP h1,X.A.units+24<cLine,List Int->List Int,X.mg "range"=none,Nat->Sd->Hd->Prop,A.units+1<cLine,0,Kp ρ H ρ' H',Int->Int->Bool,β->Hp->Prop,held g all h,a[i]?=some x,It->Hp->Prop,Gl X "range",.bT "sorted",.ref h.length,a.map (·.2),.type .gI,.Assign γ e pos,assignEach γ X.env,RDs.cons γ RDs.nil,upd H s.heap.objs.size,kP P w K mg base,PySem.W.codeIn K,Md Z t n M bs ss,I.back G.W G.S,starEach .dM,eM g all tg b,DI r P W ys n,fO P w H h a,bh G.W G.S F,I.ok.has y.1,bH (dv ak (λ_ _ _ _ z=>by rw[bX _ _ _ _ z];decide)),(([e]:List Expr).length+([]:List Keyword).length+.pg<30),XMy S0 mo way n .h1 m p q .gB o (some (.ref u.length)),σ (some (.tup [.int t,.str i,.ref P])) (some (.tup [.int t,.str i,.ref Q])),eC .c,XMy S0 mo way n .h1 Q p q .gB none none,((bA w n s (k+2)).map ao),[some w.enc,some .aE,some (.ref d),some (.ref z.1),none],tE (aq oEq (aq de (aq jy .g (fC (.int 64))) .K) .u),ab .g (ab (aq dr .h .f) (ab (aq cL .K .d) aj)),[some S0,some f,none,none,none,none,none,none,none],(λ_ _ _ _ z=>by rw[(bx (bx bX)) _ _ _ _ z];decide),upd .jW g.objs.size (.lst (d.map V.ref)),(((E.take i).filter .ia).map (eK w n)),[(false,eval a X.env),(false,eval b X.env)],l.map λp=>if p.1=k then (p.1,c) else p,fIf .h3 .aB .ie,aq oNe .h (fAt .g (fC (.int (-2)))),[some w.enc,some (.ref f.length),none],Int × D,d.length<=sizeLine->R (Ite X.K a) c,d.length<=sizeLine->R (ItL X.K a) c,Builtin.SmallTypes.nextOf (.ref it),w.stays.getD i none,starEach es X.env,((.k).map λi=>2*k8 T i-bs.getD i 0),keywordEach [] X.env,0,h++[.lst ((bA w n s 2).map ao)],Fm.lsr w n φ s,[some w.enc,some .a4,some .z],af dD (ab .f (ab .d .bZ)),0,vw λ_ _=>by dsimp[RD],seqObj "list" d.toArray 0,{ s with toks:=s.toks+1 },List Key × Addr × S1,((S.map (ren o)).map cH),.ref (.N).length,[(false,eval b X.env)],(λi=>bs.getD i false),fAt .d .H,f6 st,List.range bs.length,I.same G.W G.S F _ _,c8 .t,[some w.enc,some .z],seqObj "list" #[] D,(by cases L<;>decide),aq fM .pn .d,gN 1,assignEach a X.env,a.toList++b.toList,Nat.add_le_add a a,q3 _ _ _ _ _ L2 z,q2 _ _ _ _ _ L2 z,lOf (fAt .d .u),ao (hist w n s t),ForInStep.yield r,.lst .br,{ s with heap:=G },{ f with heap:=g },[some w,none,none],[.Subscript o i g],(by simpa using t),(by simpa using l),(by simpa using j),(by rw[YQ];decide),args_list_sort _,ZM (mE _ _) G.n8,I.same W S F _ _,.ref (A+1),((jU .cM).map ao),stC own caps σ,some (-(k:Int)),s.heap.push .c7,d9 (ab .g .aw),backTo pos .mh,((p,w)::P.zip vs),((cx l n).map ao),.lst (NL v),h++[.lst .br],args_sorted1 _,0,aq oEq .d .H,D1++D2.reverse,((.jY).getD i []),σ.set i .ek,(λ_=>.bl true),[w.enc,.ref k],v.map (fo o),rs.getD i [],p.2=0\/p.2=1,p.1=0\/p.1=1,gR a b o i j,eval i X.env,.lst (NL ch),tOp r ta tb,r.map V.int,gG b,au (aE .M),I.hok b u e,0,pairsOf vs,mvd .eU 0,kU kvs k v,k.trans ex,i σ H Q q,(by simp[e]),ag h a .bN,ag e a .bN,X.length-k,List Keyed,((S a).mp f),[.lit .eH],t b o e a,some .aE,k.trans i,g.below h,g.below d,e.trans c,cut l i j,bs.all id,af ff .aw,af eX .F,ZM ht .c,YC b.2 h2,UW.mpr hn,Str × S1,.lst .dQ,.lst .dH,(λ_ q=>q),κ × S1,zS.mp hd,l.map ug,l.drop i,gT [3,4],d.lt s a,a.zip vs,Int × V,.int i t,["web","bars","stays"],0,(∀b u,h.get? b=some u->h'.get? b=some u),Def P w K mg base "is_between" 2 3 cr,IsPair s.heap TI (.ref i1) (.ref i2),Def P w K mg base "turn_at" 4 2 cy,Def P w K mg base "web_of" 5 4 dM,Def P w K mg base "end_of" 7 2 fj,(∀i σ h,P i σ h->held g all h),hist w n s (t+1)=hist w n s t,0,(∀σ H Q,u σ H Q->t σ H Q),ZipApart z TI TO i1 i2 l1 l2,IsZip s.heap z TI TO .none,behindInMarks op b=false,Md Z t n M bs ss bk sk h,V->List V->Hp->VK->Prop,0,X.mg "enumerate"=none,It2 Lb s.heap i2 l2 k,It2 La s.heap i1 l1 k,Str->Option NameKind,IsPair s.heap TO a b,t σ h=.ok false h1,mg "enumerate"=none,Sq2 Lb s.heap l2 ys,Sq2 La s.heap l1 xs,t σ h=.ok true h1,X.mg "sorted"=none,a σ h=.nx σ' h',h2[n]?=some .b3,HOk P w H s.heap,Gl X "enumerate",w=aM n T bs ss,far i t=some j,Nat->Nat->Bool,Bool->Hp->Prop,mg "zip"=none,Gl X "sorted",(∀x∈W,S x),Sq2 L h l xs,.hM (.bT "enumerate") [a],Obj.mapSeq (· ++ vs.toArray),.Compare a [op] [b] pos,z0 (wpAny_onRaise ?_),.UnaryOp .Not a pos,.Dict [] [] pos,.hO .Or .vY,.hO .Or .uE,.bT "range",.type "list",m.map (·.2),c.map (·.2),.tB .vY,.tB .uE,V7 ?_ .vp,.Slice lo hi none γ,absurd (show false=true from e),PySem.W.findIn K .qW,I.base.there b o e,s.heap.IsTuple p,Ts.insK (·.1) x,st (i+1) y σ h,s.heap.IsList p,q1 _ _ _ _ _ _,HOk X.prog X.w,D.tup [.int t,.str b,.ref A],(((sIx a.size 0 lo:Nat):Int) == 0&&(1:Int) == 1&&(sIx a.size a.size hi-sIx a.size 0 lo) == a.size),(if ([]:List Keyword).isEmpty then 0 else 1),names.map λ(n,k)=>if (k == NameKind.free&&env.scope.kind == .function&&env.kindOf n == some .cell) then (n,NameKind.cell) else (n,k),reverseSlice' P.length (P.length+n) >>= λ_=>forIn [n:a] ((none,n):Option .ec × Nat) .pj >>= f,(λ_ c=>DN P.length c.2),ab .H (ab .u (ab .aB (ab .aB (ab .aB (ab .aB (ab .aB aj)))))),af d5 (ab (af bM (ab .f (ab .fo aj))) (ab .g (ab .h (ab .h5 aj)))),g++[.lst [.int (p:Nat)],.lst .bC],aq cL .K (af cX (ab .g .F)),List Int × D,af d5 (ab (af bM (ab .f (ab .K aj))) (ab .g (ab .h (ab (fC (.int 2001)) aj)))),[some (.int c),some .ac,some (.int m),some (.int base),some .T,some (.int j),none],s.heap.push { cls:=.type "range",data:=.fields #[.int lo t,.int hi u,.int 1 v] },(if hist w n s (t+1)=hist w n s t then [114,101,115,116] else [112,97,105,114]),((a.toList.drop (sIx a.size 0 lo)).take (sIx a.size a.size hi-sIx a.size 0 lo)),{ a with heap:=a.heap.push { cls:=.type "slice",data:=.fields #[c,d,.none] } },d == NameKind.free&&env.scope.kind == .function&&env.kindOf n == some .cell,(by have:=congrArg (λ(s:Str)=>s.cps.toList) q;simpa[toS] using this),HT.sIx xs.length 0 lo=0/\HT.sIx xs.length xs.length hi=xs.length,d.set (A+one) (.lst (((fN M1 n one).map .int).set i (.int v))),pendingOf (sta kd b a g'),ab .f (ab (aq dr .d .f) .fu),.ref p,bu (dH e) fS (bq fP fQ (bq ig lO .M aw) aw) aw .A,fC (.int 2147483647),[some .z,some (aP .mg),some .an],bi 1 [2] (bV .d) .B [] (aI (fJ .f (aI .cf))),((.bQ).map (eK w n)),Ts.byK (λz:Nat × List Nat=>(z.2.length:Int)) Z,A.deeper (envOfC x .dG s.heap.objs.size f a),tOr (tE (aq oIn .f .g)) (tE (aq oEq .d .u)),A6 CX P w K mg base N a scope f c A outer s H E,ds.map some++List.replicate (n-ds.length) none,(λk=>(f.getD k 0+s.getD k 0)*w.bars.getD k 0),h++g++m++[.lst (rf d)]++[.lst (rf Z++rf d)],.ref s2.heap.objs.size,aI (bi 1 [] (bV .au) .B [] (fIx .pk .f)),f.2 b (ZN (Z5 (ZI e) (I.ok.cab x c K t))),Str × Addr,.lst .bC,bF.cons rfl rfl (bF.cons rfl rfl bF.nil),envOfC qual scope s.heap.objs.size f cd,(by rw[z];exact d),(if v=0 then fE w.stays else fW w.stays),o.push x++(b.extract p (m-1)).reverse,Value.ref l == Value.none,l.foldl (λacc x=>insK a x acc) acc,h++[.lst ((bA w n s (k+3)).map ao)],(((List.range (i+1)).map f).map .int),bJ rfl rfl (aL (bn .bb rfl rfl q)),.int (k+1:Nat),(λz=>by subst z;rw[G]at n;cases n),(λz=>by subst z;rw[G]at e;cases e),f.2 b (ZN (Z5 (ZI e) I.ok.above)),P.length+X.length,cxC X (own++[]) scope d C s H ex,[some w.enc,some .T,some .G,c],[(tE (aq oEq (fAt .g .f) .u))],h++[.lst ((xy ss l).map .int)],(((.dF).filter (isR w n)).map ao),[some w,some .U,some .T,none],[some c,some .an,some .T,none],p x=true->e σ' h=.ok (f x) h,a.size-1,(λh=>held o l h/\held o' k h),x == ("__classdict__" : Str),(if t-402>0 then t-402 else 0),ab (fC (.int 5)) aj,(λz=>by rw[z,h]at e;cases e),aq oEq .h (fC (.str .kh)),Z.map λz=>(z.2.length:Int),["web","m","chosen","known"],(λk=>f.getD k 0*s.getD k 0),o++(a.extract p n).reverse,cxC X .ed scope W C s H ex,cxC X .ed scope M C s H ex,cxC X .ed scope K C s H ex,cxC X .ed scope D C s H ex,c.set (fo o i) (l[i]' .a),((.bQ).map λs=>eK w' n .mm),[some d,some .T,none,none],tOr .h3 (tE (af dh .F)),au (aE (bp .jT .t .L)),apos.endLine == cpos.line,((.h6).push .jN),{ s with heap:=G,toks:=l },[some w.enc,some .a4,none],[some w.enc,some .a5,none],sliceBounds lo hi none n,(by simpa using g),(λi=>(.x).ties.getD i []),(λf vs=>PySem.call f vs),f (.int i t) (.int j u),(by simp;exact ZN (ZI e)),aq oEq (af cy .iA) .g,am (d:=w'.enc) .eI rfl,List.range (l.length-1),((.k).map λi=>.ref (0+i)),["web","stand","person"],fAt (fAt .eM .g) .h,(by rw[r.len];exact hlt),aq oGt .d .ig,am (d:=l.enc) .fE rfl,List.range h.objs.size,I.base.free b o e n a,.ref C,((cF l n).map (eK l n)),o++a.extract i (i+k),bu kq kt .t dz .A,ae .m (ae .t .dz),List.range ss.length,List D × Option Nat,Ho w n h d mm f .pm,[some .fT,some .jQ],w.stays.getD p none,gR a b .eg i (j+1),(by simpa using UU a),ab (fC (.int 6)) aj,.bl (!decide (a=b)),((xs.filter p).map f),[some .G,some .a5],s.heap.objs.size+3,backToKw cpos .mj,aL (hV (bK rfl r)),Option .ec × Nat,List.replicate k a,.done (.ret .none),fAt .gT .h,[w.enc,ao s,.int p],[some (.x).enc,none],["_law_order_here"],["_law_model_here"],h++[b,C1,C2,C3,d],(by simp[pure?,hX]),Ho w n h d mm a g,((i:Int)+(m:Int)*1),((eh n T i).map cH),((eh n T 0).map cH),0,{ s with heap:=l },["other","weight"],(λi=>ns.getD i 0),(λ_ z=>nomatch z),upd H d (.lst b),upd H B (.lst d),sta kd a0 #[] g0,rM xs lo hi,hist w n s (k+1),d.ties.getD p [],c.ties.getD p [],(by simpa using p),(by simpa using M),(by rw[z];exact f),(by rw[ZY,YQ];lia),List.toArray .k,((iy bs).map .int),[none,some w.enc],(λk=>s.getD k 0),(λk=>f.getD k 0),(λ_ _ q=>ZH _ q),w.stays.map xco,w.bars.map .int,r.cel n c a f d,l.map λ_=>true,h++[b,C1,C2,C3],fJ .h (aI .cK),(by rw[h];decide),(by rw[g];decide),(by rw[c];decide),bq gD gF aw .t,aq oIn .au .h,a.toList.drop 0,Ts.byK_perm _ _,[w.enc,D.ref ok],[112,97,114,116],[108,101,97,102],zn a l [] .nil,toS x == toS y,h++a++[.lst l],gx (af cS .aw),f b _ q λz=>z,TP X pins σ Q,List.toArray o,L++(.kR).map cH,B.length+(m+1),[.ref (0+n),.ref bk,.ref sk],[w.enc,D.int i],[ao s,D.ref ok],[.int i,.int j],w.ties.map nG,kas_rev p 0 m,h++[cv.lst c],dJ rfl (kX f),(by rw[q];simp),(by rw[ZY];lia),(by assumption),bp .M j5 .L,bp .M aw .L,ar .cg (qT h),aq Do .g .h,I.freeC x c e,((.qB).push .c7),[w.enc,.int p],["web","some"],["_law_stand"],(λ_ _=>False),iy bs++iy bs,iC a b o n m,dR (lOf .d),c9 rfl c .v,ae .aa .dz,aG .mH .bE,aG .fR .bE,ForInStep D3,ForInStep C3,.int (i:Nat),(λz=>a .kB),kr .kc rfl,failedOf st,fC (.int 4),(by simp[hy]),(by simp[hi]),(by rw[f,wq]),au (aE .t),ag b a .iz,R.getD k [],.swap x y r,.lst (NL a),((.kR).map cH),((.fZ).map cH),(∀b∈ch,.tW/\b≠X.env.locals/\(∀x c,X.env.cells.lookup x=some c->c≠b)/\∀p∈X.pn++pins,p.1≠b),(∀y∈scope.names,y.2=.free->∃c,cl.lookup y.1=some c),(∀{x y z:Keyed},r y x=false->r z y=false->r z x=false),(∀x c,cl.lookup x=some c->X.env.cells.lookup x=some c),Def P w K mg base "greatest_rest" 8 1 bD,Def P w K mg base "check_stand" 5 2 cS,Def P w K mg base "least_rest" 8 1 cu,Def P w K mg base "stay_of" 1 2 f7,Def P w K mg base "free_of" 2 1 ft,Def P w K mg base "bars_of" 1 1 cO,Def P w K mg base "rests" 10 1 eo,Def P w K mg base "pairs" 10 1 ge,Def P w K mg base "named" 6 2 ff,Def P w K mg base "ended" 6 2 eZ,PySem.W.keepIn K .aE=true,s.heap.get? a=some .uk,e=x\/H e=some (.own x),(∃u,h'.get? e=some u),h1[n]?=some (.lst a),d.params.defaults=[],L2.Inv X pins σ H s,HOk X.prog X.w H' h',ys.length<=sizeLine,xs.toList=P++(X++R),xs.toList=P++(D++R),x σ h1=.ok .eP h2,vs.length<=sizeLine,Inv X pins σ H1 s2,x σ h=.ok .eP h1,a σ h=.ok .hn h1,l.all (ja k)=true,tg x σ=some σ',r σ h=.ok xs h',h[tk]?=some .kL,h[sk]?=some .df,.A8->Heap->Prop,(byK (·.1) (p.zip vs)),0,.lF [.Name x a],.lst (j.map .int),.hO .And γ,PySem.wpAny_pyIter_list γ ?_,IK PySem.F.plainAttrs_list,swapsWith e .A7 pos.line,fU 2 [] .da .ax [.id],r6 (JU (am (av (bn rfl rfl (bc w) r) rfl rfl) (am (av (av (bn rfl rfl (bc B) E) (av (bn rfl rfl (bc w) r) rfl .lX) rfl) rfl rfl) rfl)) (av .jO rfl .lX) (by rw[e];rfl)) rfl rfl B H,aG (gN 8) (fIx (ab .H (ab .H (ab .u (ab .u (ab .K (ab .fo .fu)))))) (aq de (fAt .au (aq dr (aq cL .ak .h) .bj)) .h5)),tOr (tE (aq oNe (jY .ak pNo (pAt .K)) (jY .bj pNo (pAt .K)))) (tE (aq oNe (fAt .bj .K) (aI (bi 1 [1] (bV (fAt .ak .K)) .B [] (af aR .aw))))),aS (fT (kM (tE (aq oEq (cT (lOf (fAt .h .H))) (cT (lOf (fAt .D .H))))) (tE (aq oEq (fAt (af eL (ab .g .cK)) .H) (fC (.str [116,117,114,110])))))),aq de (aq dr (aq dr (aq dr (aq cL .au .au) (aq cL (fC (.int 69621)) .au)) (aq cL (fC (.int 11)) .ak)) (fC (.int 5))) (fC (.int 2147483549)),c == NameKind.free&&env.scope.kind == .function&&env.kindOf n == some .cell,tOr (tE (aq oNe (af ge .fz) (af d6 (ab .g (ab .H (ab .aB aj)))))) (tE (aq oNe (af cu .fz) (af aF (ab (af bD .F) aj)))),fIf (tE (aq oEq (fAt .g .h9) (fAt .g (fC (.int (-2)))))) (fC (.str [114,101,115,116])) (fC (.str [112,97,105,114])),fT (kM (tE (aq oEq .bj (af aF (ab (af BU (ab .f (ab .au (ab .ak aj)))) aj)))) (tE (aq oEq (af dE .fz) .f))),tOr (tE (aq oNe (af ge .cK) (af d6 (ab .h (ab .u .cf))))) (tE (aq oNe (af cu .cK) (af aR (ab (af cu .F) .cf)))),[some S0,some p1,some (.int way),some (.int n),some q4,some q5,some (.int i),a,b,some (.ref lk),some (.ref tk),none],sIf (tOr (tE (aq gX .h .aB)) (tE (aq gX .D .aB))) (aS (fT (kM (tE (aq gX .h .aB)) (tE (aq gX .D .aB))))) bT,Int × Int,{ s with heap:=s.heap.push { cls:=.type "range",data:=.fields #[.int lo t,.int hi u,.int 1 v] },toks:=tk },[some w.enc,some (.ref ok),some b.enc,some (.tup [.ref a,t]),some (.tup [.ref I,s]),some (.ref H.length)],aG .dd (aq de (aq cL (aq de .f (fC (.int 2147483629))) (fC (.int 48271))) .pD),b∈X.ex\/X.s₀.heap.objs.size<=b,[some S0,some p1,some .ac,some .U,some (.ref (A+n)),some .bD,some .dD,some .z,b,none,none,none],bi 1 [1] (bV (fAt .h .H)) .B [] .j8,List Key × V,[some (ao c),some (ao a),some (.ref k),some (.int p.1),some (.int p.2),some (.ref (.N).length),d],[some S0,some q,r,some w.enc,some (.int n),some (.ref ok),some (.ref c),some (.ref p),some .G],[some S0,some p1,some .ac,some .U,c,some .bD,some .dD,some .z,some (.int b),none,none,none],[some S0,some p1,some .ac,some .U,c,some .bD,some .dD,some .z,some (.int a),none,none,none],iE (aI (bi 1 [1] (bV .g) .B [] (af aR .aw))),af dM (ab (aq cL .K .c9) (ab (af eF .F) (ab (aI (fJ .d .d)) (ab (aI (fJ .g .g)) aj)))),af d5 (ab (af bM (ab .f .fu)) (ab .g (ab (aq cL .h .h) (ab (fC (.int 803)) aj)))),iE (aI (bi 1 [] (bV .d) .B [] (af aF .F))),(by dsimp[RD]),af dM (ab .c9 (ab .g (ab (af gj (ab (af cO .F) .cf)) (ab (af gj (ab .da .cf)) aj)))),[some S0,some q,r,some w.enc,some (.int n),some (.ref ok),some (.ref c),some (.ref p),none],isinstance_false_list (by cases t<;>first|exact absurd rfl f|exact tG .c) (jg t) (Fe f),[some S0,some (.int mo),some (.int way),none,none,none,none,none,none,none,none,none],aS (d9 (ab (fC (.str [110,111,116])) (ab (lM .D (pAt (fC (.int (-2)))) pNo) aj))),[some w.enc,some .a5,some b.enc,some (.tup [.ref a,t]),some (.tup [.ref I,s]),none],[some S0,some p1,some .ac,some .U,c,some .bD,some .dD,some .z,b,none,none,none],[some S0,some q,r,some w.enc,some (.int n),some (.ref ok),some (.ref c),none,none],(λr g=>r=.ok (.ret (.bool true))/\OldK c.heap g.heap/\g.os=c.os/\AllBare g.gens),t.modify (t.size-1) λq=>(q.1,q.2.1,power' a0.size (2*T+F) (2*T+F+F+G) a0.size),(((.dC).setIfInBounds i (P.length,X.length+Y.length,e)).eraseIdxIfInBounds (i+1)),seqObj "list" vs.toArray n,[some .eS,some .ac,some (.int m),some .ip,some .T,some (.int f),some .z],(λ_ _ _ _ z=>by rw[(bx (bx (bx (bx (bx (bx (bx bX))))))) _ _ _ _ z];decide),XMy S0 mo way n (some (.ref s.length)) m p q .gB o (some (.ref u.length)),vc .H (aq fM (fAt .au (aq dr (aq cL .ak .h) .bj)) (fC (.int 402))),[some S0,some d,some .ac,some c,some b,none,none,none,none,none,none,none],[some S0,some (.int mo),none,none,none,none,none,none,none,none,none,none],[some S0,some q,r,some w.enc,some (.int n),some (.ref ok),none,none,none],aG .bn (aI (ab (af aR (ab .D .bZ)) (ab (af aR (ab .au .bZ)) aj))),au (aE (fR (ae (kr [110,111,116] rfl) (ae (vA .aa (Bl j5) Bk) ak)))),Jb (prog:=X.prog) (w:=X.w) (A:=X.A.in1) (I.ok.hd hc) it a M j.toArray,ab (cT .fy) (ab (af iJ .F) (ab (aI .fy) (ab (aI (lOf .gT)) aj))),[some .eS,some .ac,some (.int m),some .ip,some .T,some (.int z),y],B.rn.mod (w:=power' a0.size (2*T+F) (2*T+F+F+G) a0.size) (t.size-1),[some .eS,some .ac,some (.int m),some .ip,some .T,some .eS,none],[some w.enc,some .ee,some .dc,some (.ref v),some .a4,some .jQ,N],af fj (ab .f (ab (dR (kA 2 [] .d .g .ax [] (vc .f .d))) aj)),af fj (ab .f (ab (dR (kA 2 [] .d .g .ax [] (ue .f .d))) aj)),aI (bi 1 [] (bV (af cO .F)) .B [] (aq dr (aq cL .K .f) .u)),[some w.enc,some .a5,some .ee,some .pB,some .G,none,none,none],a::b::rest,[some w.enc,some .G,some .a4,some (ao (hist w n s (t+2))),none],Value.type (if k then "int" else "tuple") != Value.type "tuple",[some (.int t.a),some (.int t.b),some (.int t.w),some (.ref ok)],[some S0,some q,r,some w.enc,some (.int n),none,none,none,none],[some .eS,some .ac,some (.int m),some .ip,some .T,none,none],gM (tE (AX (bi 1 [0] (bV .d) .B [] (af dw (ab .d .F))))),af nM (ab .D (ab (af aF .cK) (ab (af aF (ab .ak aj)) aj))),((a.map D.int).zip (b.map D.int)),[some w.enc,some .ee,some .pB,some .cp,none,none,none,none],ab .d (ab (aq fM .h .u) (ab (aI (fJ .D (aI .F))) .bZ)),thn .j4 λl j ⟨g,f,i,c,q1⟩=>d pins j σ f g l Q i c q1,aB (ag d a (ae (ag b a .jS) (ae .M (ae .v .ft)))),bi 1 [] (bV (fAt .my .g)) .B [] (ue .ig .f),PySem.W.fnOf x a .mz .ha .dG .none kV d pm g b ct,[some .eS,some .ac,some (.int m),some .ip,none,none,none],(if -(k:Int)<0 then (-(k:Int)+(l.length:Nat)).toNat else _),lOf (af eo (ab (af jx (ab (af ff (ab .h .cK)) aj)) aj)),aI (bi 1 [3] (ce .h) .B [] (aI (va (ab .H aj) .d))),[some w.enc,some .j9,some (.ref (h.length+2)),none,none],(λd a=>⟨X[d],n d a,i _ (YR a),by simp[List.getD,a]⟩),tE (aq oEq (aq de (aq jy .g (fC (.int 512))) .K) .u),tE (aq oEq (aq de (aq jy .g (fC (.int 128))) .K) .u),(if isP w n s then H.set A (.lst (X++[eK w n s])) else H),bm (av (bn rfl rfl (bc ZG) g) (bn rfl rfl (bc ZG) e) b),XMy S0 mo way n (some x5) m p q .gB o (some (.ref sk)),Builtin.SmallTypes.ownedTupleIsFree (.ref z) >>= λ_=>_,[some S0,some f,some .z,none,none,none,none,none,none],tOr (gM (tE (kN .tuple .d))) (tE (aq oNe .dA .c9)),bJ rfl rfl (aL (ar (am rfl (am (ar .dw q1) rfl)) q2)),a.map λb=>if b.1=(Sum.inl k:Key) then (b.1,f) else b,.int (if j>i then j else i),.int (if j<i then j else i),.builtin "object.__class__",[some w.enc,some (.ref f.length),some (.ref o.length)],[some S0,some q,r,some w.enc,none,none,none,none,none],VH (Z3 ⟨⟨g+1,rfl⟩,f,i,j,g+1,rfl,L2,by lia⟩),((if .tL=true then (n,NameKind.cell) else (n,c))::_),[some w.enc,some .p3,some .ee,some .dc,none,none],[some .jQ,some w.enc,some .dc,some .p3,some .ee],dR (bi 1 [1] (bV .da) .B [] (fIf .h3 .d .f)),c.stays.getD p none=none/\d.stays.getD p none=none,aG .bn (aI (ab (af aF .fz) (ab (af aF .cK) aj))),XMy S0 mo way n none none none none none none none,XMy S0 mo way n .h1 none none none none none none,tE (aq oGt (cT (lOf (af ft .F))) (fC (.int 12))),sIf (tE (aq oEq .D .au)) (aS (fAt .d .g)) bT,(by rw[YQ];lia),bp .aP (bq eV hU (bq gD gF .bt .v) (mv 7)) .L,aI (bi 3 [1] (bV .iG) (gT [0,1,2]) [] (d9 .jP)),{ s with heap:=G.update m.objs.size .ey,toks:=tk },[some w.enc,some .G,some .z,some (.int s[i]),c],[some w.enc,some .an,some .pe,some (.str b),none],sx s0 (sx s1 (sx s2 (sx s3 (sx s4 (sx s5 s6))))),(if v<0 then max (v+(n:Int)) 0 else min v (n:Int)),(if v<0 then (v+(n:Int)).toNat else min v.toNat n),(if (.pz).size>1 then .pz[(.pz).size-2]? else none),aq oEq (af bD .cK) (af aR (ab (af bD .F) .cf)),[some S0,none,none,none,none,none,none,none,none],(λx y H Q=>y=.non/\Q (.bl (!decide (x=.non))) H),(λi u=>D.int (if i∈l\/u=some 1 then 1 else 0)),fAt .d (aq de (aq jy .h (fC (.int 64))) .dA),f++[.lst [.int (p:Nat)]]++[.lst (NL (ch++[p]))],A6 CX0 P w K mg base N x .dG f a A outer s H E,A6 CX P w K mg base N d scope f D A outer s H E,[some S0,some f,a,none,none,none,none,none,none],(λx y H Q=>y=.non/\Q (.bl (decide (x=.non))) H),d::f::a::some (.int N)::c::b::some (.int O)::r,call (.builtin "isinstance") [u,.type .gI],aq oLt .j8 (fAt .d (aq dr .f .u)),af eZ (ab .au (ab (af aR (ab .D .cf)) aj)),PySem.W.fnOf name a d g scope T kV z pm R c ct,Builtin.SmallTypes.nextOf (.ref i2) >>= λ_=>_,Builtin.SmallTypes.nextOf (.ref i1) >>= λ_=>_,{ s with heap:=h',gens:=g',drawn:=d',toks:=t' },((((.k).map λk:Nat=>D.int k).filter λ_=>true)),σ (some (.tup [.int t,.str i,.ref P])) none,σ .ks (some (ao b)) (some (ao (xcs .kk))),h.push { cls:=.type "dict",data:=.dict #[] },(by rw[I.ok.glob];exact I.mod.glob.keeps I.bk),out++b.extract j b.size++a.extract i a.size,ed (dA (jZ (t:=.list) rfl b rfl e .bd .t)),b::rest,a.map λb=>if b.1=kyT k then (b.1,f) else b,((List.replicate n (none:Option Int)).map aP),af eE (ab (af cu .F) (ab (af bD .F) aj)),Builtin.«zip.__next__» ⟨[.ref z],[]⟩,[.Call (.Attribute o "items" apos) [] [] g],XMy S0 mo way n .h1 Q p q none none none,Builtin.Tuple.tupleItemsOf (.ref t) >>= _,d9 (ab .D (ab (aa 9) (ab (aa 11) aj))),bm (av rfl rfl (XM (yN (i0 l) hd) .iD)),aS (fIf (tE (aq oGt .D .au)) .u .H),aI (bi 1 [] (bV .D) .B [] (uY .ei)),aI (bi 1 [1] (ce .d) .B [] (d9 .pA)),Heap.push (Heap.update s.heap a .ey) .jN,[some w.enc,some .G,some .a4,none,none],[some w.enc,some .a5,none,none,none,none],[some w.enc,some .an,some .pe,none,none],(λxs q=>xs.setIfInBounds (base+q.2) q.1),(λj h1 h2=>by simpa using J j .gK .gJ),(λj h1 h2=>by simpa using C j .gK .gJ),Builtin.«list.sort» ⟨[.ref a],[]⟩,((.be).extract .p7 (P.length+X.length+m)),[(tE (aq oEq (af cy (ab .d .F)) .f))],bu (dH a) fS (bq fP fQ .t aw) aw .A,au (aE (ag b a (ae .m (ae .kG ak)))),af dM (ab .c9 (ab .iG (ab .d .bZ))),XMy S0 mo way n .h1 m p q .gB o none,[some w.enc,some .aE,some .dc,y,none],(λj C s H m=>⟨ax,bP,(ag c a .cI)⟩),aq dr .u (aq de (aq jy .g .K) .d),aI (fU 2 [0] (af cO .F) .ax [] .mG),[cv.lst .aq,cv.lst .dh,cv.dcT []]++g,RDs.cons (w.mono (Kp.same u)) RDs.nil,(((.jX).map λk:Nat=>s++[p.1+k]).map ao),[⟨some "key",.Name "len" p2,kpos⟩],[some .z,some (.int a),some (.int b)],[D.int c,D.int way,D.int m,D.int base],[.Call (.Name "range" p2) [a] [] pos2],af cy (ab .f (ab (fAt .g .u) aj)),[some w.enc,some .j9,none,none,none],[f.heap.objs.size+1,f.heap.objs.size],r.map λp=>if p.1=j then p.2 else 0,k.pin (b,o) (YS _ (YS _ (lN hb e))),envOfC d scope s.heap.objs.size f D,aI (bi 1 [] (bV .da) .B [] .l9),I8.pin (b,o) (YS _ (YS _ (lN w e))),((q++[(⟨j,i,M i j⟩:Tie)]).map cH),(((.bQ).take i).map λs=>eK w' n .mm),[some w.enc,some .an,some .dc,none],tE (aq oNe (af eo .fz) (aI .t7)),(if i<n then some i.toNat else none),af eZ (ab .f (ab (af qH .aw) aj)),SqL X.K H p .ku\/SqT X.K H p .ku,.bl (decide (a<=i)&&decide (i<=b)),((nbs .iP t.a++[(t.b,t.w)]).map ug),{ h with heap:=z,toks:=h.toks+1+1 },[some .eS,some .U,none,none,none],(λy=>by subst y;rw[G]at z;cases z),(λp=>if p.1=k then (p.1,v) else p),tE (aq oNe (af eo .cK) (aI .t4)),rI (λ_ j=>0<j) λi j=>.int (i%j),o.push x++b.extract (j+1) (j+1+k),((.kA).filter λo=>decide (0<M i o)),mY .h (DJ .g (aq de .f .ko)),cz (dy (bm (av rfl rfl (pK d)))),List.range (p.2 + 1 - p.1).toNat,.lst (((.k).map (k8 T)).map .int),[assign (.Subscript o i f) X.env],(λy u=>mem y (by rw[c];simp[u])),tE (aq oGt .c9 (fC (.int 15))),sortedHeap s.heap B a a.toArray,backTo pos (starEach [b] X.env),ae aw (ae (bq iF rP .m aw) ak),aI (ab .d (ab (af cy .aw) aj)),PySem.W.methodObj .aE (.ref y),BG z.toList (P.length + k) .be,[some x,some .a5,none,none,none],0,fAt (fAt (af eZ .aw) .K) .h9,ab .H (ab (aq fM .f .u) aj),SqL X.K H p ys\/SqT X.K H p ys,F.args_tuple_iterator_next_1 _,((.kz).any λq=>decide (200<q.2)),((.be).extract (P.length+k) .p7),{ D with nx:=N,ct:=N,bk:=D.nx },(λσ p=>σ.set p.1 (some p.2)),cxC X .ed scope cl C s2 H1 ex,(by rw[uO,a.loF.len,G.hiF.len]),am rfl (am rfl (am .gz rfl)),MD (bi 2 [] .kp .ax [] .qS),((iD (jU (l.take i)) p).map ao),((List.replicate n 0).map .int),(λd g i e=>fin c f k d g i e),(λb o g e=>(O.2 b g).trans e),ltK (ds.map rwK) (f.map rwK),bp (bp .jT .M .L) .v .L,au (aE (bH (qk rfl a .iX))),af gp (ab .f (ab .ak .bZ)),ForInStep.yield ((x.1,a)::r),.call .k5 ⟨[.ref a],[]⟩,(λi v=>a.toArray[i]?=some v),tE (uX oLe oLe .d .f .g),ps.map λq=>(q.1,D.int q.2),l.find? λp=>decide (p.1=k),h++(.lst L::g)++[.lst .ic],fU own.length caps f g cs e,(by show ¬false=true;decide),bi own.length caps f g cs e,af jt (ab .d (ab .g .F)),af gp (ab .f (ab .h .bZ)),af eD (ab .d (ab .fo aj)),SqL K H p vs\/H p=some .fU,[some c,some .an,some .T,K],[some (.x).enc,some (.int p)],σ .ks (some (ao b)) none,(if .pY=true then _ else _),h++[cv.lst [.int (p:Nat)]],(by rw[W.s,<-F.len];exact f),aq oIn .H (fAt .D .h9),aq jy .f (aq dr .ko .u),PySem.W.listOf f.toArray c,.dcT (mm++[(kyL l,.bl b)]),((bA w n .aO (t+2)).map ao),[some w,some .U,none,none],[some c,some .an,none,none],["_law_script","_law_most"],vs.toArray.zip vs.toArray,tE (aq oLt .d (cT .ei)),(letOwnedTupleGo tg .eX u),l.map λi=>vs.getD i .non,l.any λp=>decide (p.1=k),(if .pf=true then _ else _),h++[.lst ((.bP).map .int)],(by rw[e];exact⟨_,y,q⟩),(by rw[e];exact True.intro),(by rw[d.hy];dsimp[ZU]),(by cases t<;>exact tG .c),bJ rfl l ((cz j).trans i),b::c::a::some (.int N)::r,aq oGt .dA (fC (.int 9)),a.any λb=>decide (b.1=k),Option .ec × Nat × Nat,List.range (l.length - 1),List.Pairwise.filter _ VJ,G.update h1.objs.size .ey,((fN (clp M) n i).map .int),{ s with heap:=h,toks:=k },{ s with heap:=f,toks:=B },(λw g=>vv i j r e w .qG),(λh=>h[n]?=some (.lst l)),h++g++m++[cv.lst (rf d)],fAt .d (aq de .h .dA),eval (.Name x pos) X.env,(by dsimp[X7];exact e),bu (dH b) fS .t aw .A,ar (am rfl (am g rfl)) q,List.replicate n.toNat l,List.length_take_le' _ _,I.base.keep b o e n F hx,G.update f.objs.size .ey,((.uM).map λp=>D.tup .eZ),((.bQ).map (Fm.lsr w n φ)),((.k).map λk=>D.ref (0+k)),ρ'++[u.heap.objs.size],ρ'++[k.heap.objs.size],rawInt s.heap.objs.size,rI RP λi j=>.int (i/j),rI Mf λi j=>.int (i*j),out++b.extract j b.size,out++a.extract i a.size,h++[.lst ((.fS).map cH)],h pos pins s σ H _ I f,field .iW 3 >>= λ_=>_,field .iW 2 >>= λ_=>_,fAt .au (aq dr E .bj),(by dsimp[rD,RD];rfl),(by dsimp[ZY,YQ];lia),(by rw[Fv d.hq .a,d.hy]),assignEach (e::a) X.env,aI (va (ab .aB aj) .h),aD (gS (cm rfl (bc o))),D.extBut f.extBut Z.i1z,((qU os k (YX d) s).mp n),((.fX).map λp=>g p.1 p.2),((.bf).map λs=>ao (φ s)),["thing","least","most"],["_law_script","_law_k"],rs.all λx=>!x.isEmpty,out++b.extract j (j+k),out++a.extract i (i+k),(by rw[l];exact d.val k),(by rw[f];simpa using o),(by rw[<-r.len];exact g),bn rfl rfl (bc N.rf) F,args_tuple_getitem _ _,apos.endLine == g.line,af eD (ab (aa 9) .qk),aG .dd (aI (kx .tY)),List.range (n-m).toNat,Heap.SameBut.update ..,Ag G.W rfl G.W.s G.S s,((Lk w n .aO t).map ao),[some w,some .m2,none],[some w,none,none,none],[some d,none,none,none],[some .aE,some .k5,y],(λz=>(z.2.length:Int)),(λj=>M i j*s.getD j 0),rI C λi j=>.int .cq,q.q3 _ _ _ _ _ _ L2 z,q.q2 _ _ _ _ _ _ L2 z,ps.map λq=>[q.1,q.2],mm.all λp=>pure? p.2,getItem (.ref t) .dc,ee (b:=true) (bm rfl),assignEach .gP X.env,ao (hist w n s (t+1)),ab (fC (.int 400)) aj,.tup [.int (i:Nat),x],((.bf).map λs=>ao .bP),((.k).map λi=>(.fN).sum),(λb o g e=>M b o g e),zm3 La Lb s.heap a b,zm2 La Lb s.heap a b,starEach [e,f] X.env,seqObj "list" #[] e1,s.heap.objs.size + 2,s.heap.objs.size + 1,rI0 λi j=>.int .cq,mY .g (fAt .d .h),l.map λ_=>D.bl true,l.all λp=>pure? p.2,ha pins s σ H Q I h,gM (tE (af dh .fA)),fC (.int (-(j:Int))),dR (lOf (af gj .aw)),cP ha (cP hb eQ i) n,(by rw[ZA];exact zc G),(by rw[ZA,D,F,YQ];lia),bu kq kt .m dz .A,bn rfl rfl (bc ZG) i,ao (hist w n .f1 t),am rfl (am rfl .cO),PySem.W.instObj C dx,.lst ((.fN).map .int),((iX w.ties i).map cH),(λz=>r.noTup e .pV),(λz=>r.noFrz e .pV),(λz=>r.noExt e .pV),(λx=>decide (a x=k)),(λi v=>a[i]?=some v),xs.length<ys.length,upd H p (.tup .rB),tE (aq oy .ri .aB),storeName X.env x u,seqObj "list" #[] m,seqObj "list" #[] f,s.heap.update B .ey,rI0 λi j=>.bl .cq,lT G f.extBut Z.l1z,iP a b .eg n (m-1),iI a b .dI (i+1) j,iC a b .dI (n-1) m,h++[b,C1,C2,C3,d,l],gM (tE (af fm .aw)),fz (ce .h) .bn jJ,(by simpa using this),(by rw[eI,O.len];lia),bp (mv 10) .bt .L,av rfl rfl (j7 .c),af eZ (ab .f .fz),ZW _ (a9 b o D F e),Option Unit × Unit,List.reverse_perm _,List.replicate k xs,List.range a.length,Ho w n h d j f .pm,F.args_zip_next_1 _,D.bl (decide (j<i)),.yield (none,n+1,0),.tup [d,.ref (A+1)],((zg a).symm.trans e),((.b2).ties.getD p []),(∀h' e,Heap.ExtBut it s.heap h'->(∃o,h'.get? e=some o/\o.cls=.type "StopIteration")->E (.ref e) .ci),((ds.map some++List.replicate (n-ds.length) none:Sd)=σ),(∀n st,Q (some n) st->wpS M A E s (f (none,n)) Q st),(∀b u,b≠e->h.get? b=some u->h'.get? b=some u),(∀b u,s.heap.get? b=some u->h'.get? b=some u),kP X.prog X.w X.K X.mg X.base CX k f fd ps sp,Def P w K mg base "exchanged_stand" 1 1 aF,RDs K ρ H (l.map (·.2)) (b.map (·.2)),RDs K ρ H (l.map (·.2)) (a.map (·.2)),Def P w K mg base "stands_to_try" 9 1 dU,Def P w K mg base "_law_pairs_by" 3 3 d6,V->Option Int->Option Int->Hp->VK->Prop,Def P w K mg base "stand_of_all" 2 2 dL,Def P w K mg base "named_stand" 2 2 aR,Def P w K mg base "check_rests" 7 3 dD,(∀b xs,H b=some .cn->H' b=some .cn),Def P w K mg base "is_opinion" 3 1 dh,Def P w K mg base "turns_all" 7 2 eL,Def P w K mg base "ties_once" 2 1 cE,Def P w K mg base "_law_cell" 1 2 bM,Def P w K mg base "is_whole" 1 1 eX,Def P w K mg base "_law_row" 1 4 d5,(∀v σ H Q,u v σ H Q->t v σ H Q),Def P w K mg base "do_turn" 8 3 gp,(∀x k,Mgd r a b x->Q x (eJ st k)),Def P w K mg base "moved" 1 2 gj,cB K R ρ H σd σ (.ok a hd) Q,(∀p,Gd n p->Srt lt p n->Q p s),(∀b∈ex,b<s2.heap.objs.size),(∀D σ H,u D σ H->t D σ H),DI r P W ys n q D1 D2 (h::R),Nat × List Nat,Key × V,au gH,compareOp op,Option S1,some (.Name x a),Str->Option S1]
def ix(c:Char):Nat:=if 'a'<=c&&c<='z' then c.toNat-97 else if 'A'<=c&&c<='Z' then c.toNat-39 else if c.isDigit then c.toNat+4 else 99999
def lk(x:Lean.Name)(a:Array Lean.Syntax):Lean.MacroM Lean.Syntax:=do
 let .str .anonymous w:=x|Lean.Macro.throwUnsupported
 let i:=match w.toList with|[p]=>ix p|[p,q]=>52+62*ix p+ix q|_=>99999
 let some y:=((tb.getD (i/32) "").splitOn "\t")[i%32]?|Lean.Macro.throwUnsupported
 let l:=y.splitOn "\n"
 if y==""||y=="nnum\na0\ne" then Lean.Macro.throwUnsupported
 let r<-Lean.MonadRef.mkInfoFromRefPos
 if a.isEmpty then return de r #[] l [("",#[])]
 if l.contains "iγ" then return de r a l [("",#[])]
 let t:=de r #[] l [("",#[])]
 return if t.isOfKind ``Lean.Parser.Term.app then t.setArg 1 (Lean.mkNullNode (t[1].getArgs++a)) else .node r ``Lean.Parser.Term.app #[t,Lean.mkNullNode a]
local macro_rules
|`(.$x:ident)=>lk x.getId #[]
|`(.$x:ident $a*)=>lk x.getId (a.map (·.raw))
local macro_rules
|`(command|def $i $b* : $t := $v)=>`(command|theorem $i $b* : $t := $v)
local macro_rules
|`(tactic|dsimp[$a,*]$[$l]?)=>`(tactic|simp only[$a,*]$[$l]?)
local macro_rules
|`(command|$_:docComment def $i:declId $t:optDeclSig $v:declVal)=>`(command|noncomputable def $i:declId $t:optDeclSig $v:declVal)
noncomputable section
def q0{α:Sort _}(e:α):∃x,x=e:=⟨_,rfl⟩
namespace Fm
inductive D where
 |non|bl (b:Bool)|int (i:Int)|str (x:.i)|tup (l:List D)|ref (n:Nat)|lit (l:List D)|exn (c:String) (l:List D)
deriving Inhabited
inductive cv where
 |lst (l:List D)|dct (l:.cU)|dcT (l:.cV)|ob (l:List D)
noncomputable abbrev Hd:=List cv
inductive Res(α:Type) where
 |ok (a:α) (h:Hd)|exc (x:D) (h:Hd)|bad
/---/def Res.bind{α β:Type}(r:Res α)(f:α->Hd->Res β):Res β := match r with
 |.ok a h=>f a h | .exc x h=>.exc x h | .bad=>.bad
@[simp] theorem aH{α β:Type}(a:α)(h:Hd)(f:α->Hd->Res β):(Res.ok a h).bind f=f a h:=rfl
noncomputable abbrev Sd:=List (Option D)
noncomputable abbrev EF:=Sd->Hd->Res D
noncomputable abbrev TF:=Sd->Hd->Res Bool
noncomputable abbrev LF:=Sd->Hd->Res .e1
inductive Out where
 |nx (σ:Sd) (h:Hd)|rt (d:D) (h:Hd)|bk (σ:Sd) (h:Hd)|ct (σ:Sd) (h:Hd)|exc (x:D) (σ:Sd) (h:Hd)|bad
noncomputable abbrev SF:=Sd->Hd->Out
noncomputable abbrev Fn:=List D->Hd->Res D
noncomputable abbrev SZ:Nat:=1000000
@[simp] noncomputable def slot(σ:Sd)(i:Nat):Option D:=match σ[i]? with|some (some d)=>some d|_=>none
@[simp] noncomputable def aa(i:Nat):EF:=λσ h=>match slot σ i with|some d=>.ok d h|none=>.bad
@[simp] noncomputable def fC(d:D):EF:=λ_ h=>.ok d h
noncomputable abbrev O2:=D->D->Hd->Res D
@[simp] noncomputable def aq(g:O2)(a b:EF):EF:=λσ h=>(.al).bind λx h=>(.f4).bind λy h=>g x y h
@[simp] noncomputable def oI(g:.gb):O2:=λx y h=>match x,y with | .int i,.int j=>.ok (.int .cq) h|_,_=>.bad
@[simp] noncomputable def oB(g:.lv):O2:=λx y h=>match x,y with | .int i,.int j=>.ok (.bl .cq) h|_,_=>.bad
@[simp] noncomputable def oIc(c:.lv)(g:.gb):O2:=λx y h=>match x,y with | .int i,.int j=>if c i j then .ok (.int .cq) h else .bad|_,_=>.bad
/---/def sml(i:Int):Bool:=decide (-18446744073709551616<i)&&decide (i<18446744073709551616)
@[simp] noncomputable def dr:O2:=λx y h=>match x,y with
 |.int i,.int j=>.ok (.int<|i+j) h
 |.tup .cR,.tup ys=>if (.cR).length+ys.length<=SZ then .ok (.tup (x::xs++ys)) h else .bad
 |_,_=>.bad
@[simp] noncomputable def fM:O2:=λx y h=>(oI (· - ·)) x y h
@[simp] noncomputable def cL:O2:=λx y h=>(oIc (λi j=>sml i||sml j) (· * ·)) x y h
@[simp] noncomputable def de:O2:=λx y h=>(oIc (λ_ j=>decide (0<j)) (· % ·)) x y h
@[simp] noncomputable def jy:O2:=λx y h=>(oIc (λ_ j=>decide (0<j)&&decide (j<2^250)) (· / ·)) x y h
@[simp] noncomputable def Td:O2:=λx y h=>(oIc (λi j=>decide (0<=j)&&decide (j<=1000000)&&sml i) (λi j=>i^j.toNat)) x y h
@[simp] noncomputable def oLt:O2:=λx y h=>(oB λi j=>decide (i<j)) x y h
@[simp] noncomputable def oLe:O2:=λx y h=>(oB λi j=>decide (i<=j)) x y h
@[simp] noncomputable def oGt:O2:=λx y h=>(oB λi j=>decide (j<i)) x y h
@[simp] noncomputable def Ub:D->Hd->Res D:=λx h=>match x with | .int i=>.ok (.int (-i)) h|_=>.bad
@[simp] noncomputable def mM:D->Bool | .non=>true|_=>false
@[simp] noncomputable def gX:O2:=λx y h=>if mM y then .ok (.bl<|mM x) h else .bad
@[simp] noncomputable def oy:O2:=λx y h=>if mM y then .ok (.bl<|!mM x) h else .bad
@[simp] noncomputable def b2i(b:Bool):Int:=if b then 1 else 0
mutual
noncomputable def peq:D->D->Option Bool
 |.int i,k=>match k with | .int j=>some (decide (i=j)) | .bl c=>some (decide (i=b2i c)) | .non=>some false | .tup _=>some false|_=>none
 |.bl c,k=>match k with | .int j=>some (decide (b2i c=j)) | .bl d=>some (decide (c=d))|_=>none
 |.str x,k=>match k with | .str y=>some (decide (x=y))|_=>none
 |.non,k=>match k with | .non=>some true | .int _=>some false | .tup _=>some false|_=>none
 |.tup xs,k=>match k with | .tup ys=>(gY xs ys).map λb=>b&&decide (xs.length=ys.length) | .non=>some false | .int _=>some false|_=>none
 |.ref _,_=>none
 |.lit _,_=>none
 |.exn _ _,_=>none
noncomputable def gY:List D->List D->Option Bool
 |x::xs,y::ys=>match peq x y,gY xs ys with
  |some a,some b=>some (a&&b)
  |_,_=>none
 |_,_=>some true
end
mutual
noncomputable def dep:D->Nat
 |.tup l=>jT l+1
 |_=>0
noncomputable def jT:List D->Nat
 |[]=>0
 |x::xs=>max (dep x) (jT xs)
end
/---/def eqL(xs ys:List D):Option Bool:=if jT xs<=20 then (if xs.length=ys.length then gY xs ys else some false) else none
@[simp] noncomputable def ev(h:Hd):D->Option .e1
 |.ref n=>match h[n]? with|some .cz=>some l|_=>none
 |.lit l=>some l
 |_=>none
@[simp] noncomputable def eqG(h:Hd)(x y:D):Option Bool:=match ev h x,ev h y with
 |some xs,some ys=>eqL xs ys
 |none,none=>if dep x<=20 then peq x y else none
 |_,_=>none
@[simp] noncomputable def oEq:O2:=λx y h=>match eqG h x y with|some b=>.ok (.bl b) h|none=>.bad
@[simp] noncomputable def oNe:O2:=λx y h=>match eqG h x y with|some b=>.ok (.bl<|!b) h|none=>.bad
@[simp] noncomputable def gL:D->Bool
 |.non=>true | .bl _=>true | .int _=>true | .str _=>true|_=>false
@[simp] noncomputable def eqF:D->D->Bool
 |.non,k=>match k with | .non=>true|_=>false
 |.bl a,k=>match k with | .bl b=>a == b | .int b=>b2i a == b|_=>false
 |.int a,k=>match k with | .bl b=>a == b2i b | .int b=>a == b|_=>false
 |.str a,k=>match k with | .str b=>a == b|_=>false
 |.tup _,_=>false
 |.ref _,_=>false
 |.lit _,_=>false
 |.exn _ _,_=>false
@[simp] noncomputable def asB(r:Res D):Res Bool:=r.bind λx h=>match x with | .bl b=>.ok b h|_=>.bad
@[simp] noncomputable def tE(a:EF):TF:=λσ h=>asB .al
@[simp] noncomputable def gM(t:TF):TF:=λσ h=>(.i8).bind λb h=>.ok (!b) h
@[simp] noncomputable def kM(t u:TF):TF:=λσ h=>(.i8).bind λb h=>if b then u σ h else .ok false h
@[simp] noncomputable def tOr(t u:TF):TF:=λσ h=>(.i8).bind λb h=>if b then .ok true h else u σ h
@[simp] noncomputable def fT(t:TF):EF:=λσ h=>(.i8).bind λb h=>.ok .dJ h
@[simp] noncomputable def fIf(t:TF)(a b:EF):EF:=λσ h=>(.i8).bind λc h=>if c then a σ h else b σ h
@[simp] noncomputable def uX(g k:O2)(a b c:EF):EF:=λσ h=>(.al).bind λx h=>(.f4).bind λy h=>(g x y h).bind λz h=>match z with
 |.bl true=>(c σ h).bind λw h=>k y w h
 |.bl false=>.ok (.bl false) h
 |_=>.bad
@[simp] noncomputable def aj:LF:=λ_ h=>.ok [] h
@[simp] noncomputable def ab(a:EF)(r:LF):LF:=λσ h=>(.al).bind λx h=>(r σ h).bind λxs h=>.ok .cR h
@[simp] noncomputable def d9(r:LF):EF:=λσ h=>(r σ h).bind λxs h=>if xs.length<=SZ then .ok .cn h else .bad
@[simp] noncomputable def aI(r:LF):EF:=λσ h=>(r σ h).bind λxs h=>if xs.length<=SZ then .ok .a4 (h++[.lst xs]) else .bad
@[simp] noncomputable def jV(h:Hd):D->Option .e1
 |.tup l=>some l
 |.lit l=>some l
 |.ref n=>match h[n]? with|some .cz=>some l|_=>none
 |_=>none
@[simp] noncomputable def lOf(a:EF):LF:=λσ h=>(.al).bind λx h=>match jV h x with|some l=>.ok l h|none=>.bad
@[simp] noncomputable def inL(h:Hd)(x y:D):Option Bool:=match jV h y with
 |some l=>if gL x&&l.all gL then some (l.any λz=>eqF z x) else none
 |none=>none
@[simp] noncomputable def oIn:O2:=λx y h=>match inL h x y with|some b=>.ok (.bl b) h|none=>.bad
/---/def ixN(n:Nat)(i:Int):Option Nat:=if 0<=i then .wM else if -(n:Int)<=i then some (i+n).toNat else none
/---/def atI(xs:List D)(i:Int):Option D:=(ixN xs.length i).bind λj=>xs[j]?
@[simp] noncomputable def fIx(a:LF)(b:EF):EF:=λσ h=>(.al).bind λl h=>(.f4).bind λy h=>match y with
 |.int i=>match atI l i with|some d=>.ok d h|none=>.bad
 |_=>.bad
@[simp] noncomputable def oAt:O2:=λx y h=>match jV h x,y with
 |some l,.int i=>match atI l i with|some d=>.ok d h|none=>.bad
 |_,_=>.bad
@[simp] noncomputable def fAt(a b:EF):EF:=λσ h=>aq oAt a b σ h
@[simp] noncomputable def cT(a:LF):EF:=λσ h=>(.al).bind λl h=>.ok (.int l.length) h
noncomputable def cC:List D->Option .aC
 |[]=>some []
 |.int i::r=>(cC r).map (i :: ·)
 |_=>none
@[simp] noncomputable def uY(a:LF):EF:=λσ h=>(.al).bind λl h=>match cC l with|some is=>.ok (.int is.sum) h|none=>.bad
noncomputable def i9:List D->Option (List Bool)
 |[]=>some []
 |.bl b::r=>(i9 r).map (b :: ·)
 |_=>none
@[simp] noncomputable def AX(a:LF):EF:=λσ h=>(.al).bind λl h=>match i9 l with|some bs=>.ok (.bl .nR) h|none=>.bad
@[simp] noncomputable def dR(a:LF):EF:=λσ h=>(.al).bind λl h=>.ok .hn h
inductive Ty where|int|bool|tuple|list|str
deriving DecidableEq
@[simp] noncomputable def Gj(h:Hd)(t:Ty):D->Option Bool
 |.non=>some false
 |.bl _=>some (t == .bool||t == .int)
 |.int _=>some (t == .int)
 |.str _=>some (t == .str)
 |.tup _=>some (t == .tuple)
 |.lit _=>some (t == .list)
 |.ref n=>match h[n]? with|some (.lst _)=>some (t == .list)|some (.dct _)=>some false|some (.dcT _)=>none|some (.ob _)=>none|none=>none
 |.exn _ _=>none
@[simp] noncomputable def kN(t:Ty)(a:EF):EF:=λσ h=>(.al).bind λx h=>match Gj h t x with|some b=>.ok (.bl b) h|none=>.bad
noncomputable def sIx(n d:Nat):Option Int->Nat
 |none=>d
 |some i=>if i<0 then (i+n).toNat else min i.toNat n
/---/def cut(l:List D)(lo hi:.aF):List D:=(l.drop<|.jG 0 lo).take (sIx l.length l.length hi-sIx l.length 0 lo)
noncomputable abbrev OF:=Sd->Hd->Res .hX
@[simp] noncomputable def pNo:OF:=λ_ h=>.ok none h
@[simp] noncomputable def pAt(a:EF):OF:=λσ h=>(.al).bind λx h=>match x with | .int i=>.ok (some i) h|_=>.bad
@[simp] noncomputable def lM(a:EF)(lo hi:OF):EF:=λσ h=>(.al).bind λx h=>(lo σ h).bind λi h=>(hi σ h).bind λj h=>match x with
 |.tup l=>if sIx l.length 0 i=0/\.jG l.length j=l.length then .bad else .ok (.tup .nQ) h
 |x=>match ev h x with|some l=>.ok .lC (h++[.lst .nQ])|none=>.bad
noncomputable def lexLt:List Int->List Int->Bool
 |[],[]=>false
 |[],_::_=>true
 |_::_,[]=>false
 |x::xs,y::ys=>if x=y then lexLt xs ys else decide (x<y)
noncomputable def OM:List D->Option (List .aC)
 |[]=>some []
 |.tup l::r=>match cC l,OM r with|some a,some b=>some (a::b)|_,_=>none
 |_=>none
@[simp] noncomputable def af(F:Fn)(r:LF):EF:=λσ h=>(r σ h).bind λxs h=>F xs h
noncomputable abbrev IF:=Sd->Hd->Res .q2
@[simp] noncomputable def ce(a:EF):IF:=λσ h=>(.al).bind λx h=>match x with
 |.int n=>if -1000000<=n/\n<=1000000 then .ok ((.gR).map (λk:Nat=>.int k),none) h else .bad
 |_=>.bad
@[simp] noncomputable def p9(a b:EF):IF:=λσ h=>(.al).bind λx h=>(.f4).bind λy h=>match x,y with
 |.int m,.int n=>if (-1000000<=m/\m<=1000000)/\-1000000<=n/\n<=1000000 then .ok ((.za).map (λk:Nat=>.int (m+k)),none) h else .bad
 |_,_=>.bad
@[simp] noncomputable def bV(a:EF):IF:=λσ h=>(.al).bind λx h=>match x with
 |.tup l=>.ok (l,none) h
 |.lit l=>.ok (l,none) h
 |.ref n=>match h[n]? with|some .cz=>.ok (l,some n) h|_=>.bad
 |_=>.bad
@[simp] noncomputable def Ih(a:EF):IF:=λσ h=>(.al).bind λx h=>match x with
 |.tup l=>.ok ((.io).zip l |>.map λp=>.tup [.int (p.1:Nat),p.2],none) h
 |_=>.bad
section
open Classical
/---/def held(g:.gd)(all:List D)(h:Hd):Prop:=match g with|none=>True|some n=>h[n]?=some (.lst all)
noncomputable abbrev GF:=D->Sd->Option Sd
@[simp] noncomputable def gN(i:Nat):GF:=λd σ=>some (σ.set i<|some d)
@[simp] noncomputable def gT(l:.i):GF:=λd σ=>match d with
 |.tup xs=>if xs.length=l.length then some ((l.zip xs).foldl .xl σ) else none
 |_=>none
@[simp] noncomputable def aA(a b:SF):SF:=λσ h=>match a σ h with | .nx σ h=>b σ h|r=>r
@[simp] noncomputable def bT:SF:=λσ h=>.nx σ h
@[simp] noncomputable def outE(r:Res D)(σ:Sd)(k:D->Hd->Out):Out:=match r with | .ok d h=>k d h | .exc x h=>.exc x σ h | .bad=>.bad
@[simp] noncomputable def aG(g:GF)(a:EF):SF:=λσ h=>outE .al σ λd h=>match g d σ with|some σ=>.nx σ h|none=>.bad
@[simp] noncomputable def aS(a:EF):SF:=λσ h=>outE .al σ λd h=>.rt d h
@[simp] noncomputable def gx(a:EF):SF:=λσ h=>outE .al σ λ_ h=>.nx σ h
@[simp] noncomputable def sIf(t:TF)(a b:SF):SF:=λσ h=>match t σ h with | .ok c h=>if c then a σ h else b σ h | .exc x h=>.exc x σ h | .bad=>.bad
@[simp] noncomputable def ON:SF:=λσ h=>.ct σ h
/---/def kO:SF:=λ_ _=>.bad
@[simp] noncomputable def nn(x i e:EF):SF:=λσ h=>outE .hu σ λd h=>outE .hs σ λp h=>outE (i σ h) σ λj h=>match p,j with
 |.ref n,.int j=>match h[n]? with
  |some .cz=>match ixN l.length j with
   |some k=>.nx σ (h.set n<|.lst<|l.set k d)
   |none=>.bad
  |_=>.bad
 |_,_=>.bad
@[simp] noncomputable def OO:O2:=λp d h=>match p with
 |.ref n=>match h[n]? with
  |some .cz=>if l.length<SZ then .ok .non (h.set n<|.lst<|l++[d]) else .bad
  |_=>.bad
 |_=>.bad
@[simp] noncomputable def mY(x e:EF):EF:=λσ h=>(.hs).bind λp h=>match p with
 |.ref n=>match h[n]? with
  |some (.lst _)=>(.hu).bind λd h=>OO (.ref n) d h
  |_=>.bad
 |_=>.bad
noncomputable def eM(g:.gd)(all:List D)(tg:GF)(b:SF):List D->SF
 |[],σ,h=>if held g all h then .nx σ h else .bad
 |x::xs,σ,h=>if held g all h then match tg x σ with
   |some σ=>match b σ h with
    |.nx σ h=>.lO xs σ h
    |.ct σ h=>.lO xs σ h
    |.bk σ h=>.nx σ h
    |r=>r
   |none=>.bad
  else .bad
@[simp] noncomputable def fz(it:IF)(tg:GF)(b:SF):SF:=λσ h=>match it σ h with
 |.ok (l,g) h=>eM g l tg b l σ h
 |.exc x h=>.exc x σ h
 |.bad=>.bad
noncomputable def gy(t:TF)(b:SF):Nat->SF
 |0,_,_=>.bad
 |n+1,σ,h=>match t σ h with
  |.ok true h=>match b σ h with
   |.nx σ h=>gy t b n σ h
   |.ct σ h=>gy t b n σ h
   |.bk σ h=>.nx σ h
   |r=>r
  |.ok false h=>.nx σ h
  |.exc x h=>.exc x σ h
  |.bad=>.bad
/---/def LV(t:TF)(b:SF):Sd->Hd->Nat:=λσ h=>if ex:∃n,gy t b n σ h ≠ .bad then Classical.choose ex else 0
/---/def uZ(t:TF)(b:SF):SF:=λσ h=>gy t b (LV t b σ h) σ h
@[simp] noncomputable def jW:List TF->TF
 |[],_,h=>.ok true h
 |t::r,σ,h=>(.i8).bind λb h=>if b then jW r σ h else .ok false h
noncomputable def bU(g:.gd)(all:List D)(tg:GF)(cs:List TF)(e:EF):List D->Sd->Hd->Res .e1
 |[],_,h=>if held g all h then .ok [] h else .bad
 |x::xs,σ,h=>if held g all h then match tg x σ with
   |some σ=>(jW cs σ h).bind λb h=>if b then (.hu).bind λd h=>(bU g all tg cs e xs σ h).bind λds h=>.ok (d::ds) h
    else bU g all tg cs e xs σ h
   |none=>.bad
  else .bad
@[simp] noncomputable def gZ(nl:Nat)(caps:.i)(σ:Sd):Sd:=List.replicate nl none++caps.map λi=>slot σ i
@[simp] noncomputable def bi(nl:Nat)(caps:.i)(it:IF)(tg:GF)(cs:List TF)(e:EF):LF:=λσ h=>(it σ h).bind λp h =>
 bU p.2 p.1 tg cs e p.1 .kJ h
mutual
noncomputable def pure?: D->Bool
 |.ref _=>false
 |.tup l=>hX l
 |.lit l=>hX l
 |.exn _ l=>hX l
 |_=>true
noncomputable def hX:List D->Bool
 |[]=>true
 |x::xs=>pure? x&&hX xs
end
noncomputable def u5:cv->Bool
 |.lst l=>hX l
 |.dct l=>l.all λp=>pure? p.2
 |.dcT l=>l.all λp=>pure? p.2
 |.ob l=>hX l
/---/def EX(h h':Hd):Prop:=∀n c,n<h.length->h'[n]?=some c->h[n]?=some c\/u5 c=true
/---/def letGo(h:Hd)(r:Res D):Res D:=match r with
 |.ok d h'=>if pure? d=true/\EX h h' then .ok d (h'.take h.length) else .ok d h'
 |r=>r
/---/def runB(n:Nat)(b:SF):Fn:=λds h=>match b .pL h with
 |.nx _ h=>.ok .non h
 |.rt d h=>.aG h
 |.exc x _ h=>.exc x h
 |_=>.bad
/---/def bC(np n:Nat)(b:SF):Fn:=λds h=>if ds.length=np then letGo h (runB n b ds h) else .bad
end
end Fm
namespace Fm
section
open Classical
noncomputable def dX(G:Hd->Prop)(tg:GF)(cs:List TF)(e:EF):List D->Sd->Hd->Res .e1
 |[],_,h=>if G h then .ok [] h else .bad
 |x::xs,σ,h=>if G h then match tg x σ with
   |some σ=>(jW cs σ h).bind λb h=>if b then (.hu).bind λd h=>(dX G tg cs e xs σ h).bind λds h=>.ok (d::ds) h
    else dX G tg cs e xs σ h
   |none=>.bad
  else .bad
end
theorem yT:∀(xs:List D) (σ:Sd) (h:Hd),bU g all tg cs e xs σ h=dX (held g all) tg cs e xs σ h
 |[],_,h=>by unfold bU dX;rfl
 |x::xs,σ,h=>by
  unfold bU dX
  by_cases a:held g all h
  ·rw[z4 a,z4 a]
   cases tg x σ with
   |none=>rfl
   |some σ'=>dsimp[yT xs]
  ·rw[yD a,yD a]
noncomputable def yU(x:.b):List .aC->List .aC
 |[]=>[x]
 |y::r=>if lexLt x y=true then x::y::r else y::yU x r
noncomputable def eA:List .aC->List .aC
 |[]=>[]
 |x::r=>yU x (eA r)
/---/def yV(r:.b):D:=.tup (r.map .int)
theorem eO:∀a,lexLt a a=false
 |[]=>rfl
 |x::a=>by simp[lexLt,eO a]
theorem iR:∀{a b c},lexLt a b=true->lexLt b c=true->.d7 c=true
 |[],[],_,h,_=>by simp[lexLt]at h
 |[],_::_,[],_,h=>by simp[lexLt]at h
 |[],_::_,_::_,_,_=>rfl
 |_::_,[],_,h,_=>by simp[lexLt]at h
 |_::_,_::_,[],_,h=>by simp[lexLt]at h
 |x::a,y::b,z::c,h,h'=>by
  dsimp[lexLt]at h h' ⊢
  by_cases e:x=y
  ·subst e
   rw[z4 rfl]at h
   by_cases d:x=z
   ·subst d
    rw[z4 rfl]at h' ⊢;exact iR h h'
   ·rw[yD d]at h' ⊢;exact h'
  ·rw[yD e]at h
   by_cases d:y=z
   ·subst d
    rw[yD e];exact h
   ·rw[yD d]at h'
    simp at h h';rw[yD .a];simp;lia
theorem hZ:∀{a b},a≠b->lexLt a b=false->lexLt b a=true
 |[],[],h,_=>absurd rfl h
 |[],_::_,_,h=>by simp[lexLt]at h
 |_::_,[],_,_=>rfl
 |x::a,y::b,h,h'=>by
  dsimp[lexLt]at h' ⊢
  by_cases e:x=y
  ·subst e
   rw[z4 rfl]at h' ⊢;exact hZ (λz=>h (by rw[z])) h'
  ·rw[yD e]at h'
   rw[yD (WQ e)];simp at h' ⊢;lia
def iS(h:.d7 b=true):lexLt b a=false:=by
 cases c:lexLt b a with
 |false=>rfl
 |true=>have:=iR h c;rw[eO]at this;cases this
theorem rF(x:.b):∀r,(yU x r).Perm (x::r)
 |[]=>.refl _
 |y::r=>by
  dsimp[yU];split
  ·exact .refl _
  ·exact((rF x r).cons y).trans .sT
theorem kj:∀r,(eA r).Perm r
 |[]=>.refl _
 |x::r=>(rF x _).trans ((kj r).cons x)
theorem u6:∀{r:.aY},x∉r->r.Pairwise .kg->(yU x r).Pairwise .kg
 |[],_,_=>by simp[yU]
 |y::r,hx,h=>by
  dsimp[yU];have hy:¬x=y:=λz=>hx .kB;have f:x∉r:=λz=>hx .kB;obtain⟨e,g⟩:=Z4.mp h;split
  ·rename_i c
   refine Z4.mpr ⟨λb d=>?_,h⟩;rcases y4.mp d with rfl|d
   ·exact c
   ·exact iR c (e b d)
  ·rename_i c
   have i:=hZ hy .aH;refine Z4.mpr ⟨λb d=>?_,u6 f g⟩;rcases y4.mp ((rF x r).mem_iff.mp d) with rfl|d
   ·exact i
   ·exact e b d
theorem nr:∀{r:.aY},r.Nodup->(eA r).Pairwise .kg
 |[],_=>.nil
 |x::r,h=>by
  obtain⟨h1,h2⟩:=XI.mp h;exact u6 (λz=>h1 ((kj r).mem_iff.mp z)) (nr h2)
def Gk{a b:.aY}(p:a.Perm b)(ha:a.Pairwise .kg)(hb:b.Pairwise .kg):a=b :=
 U1 (λx y _ _ h c=>by have:=iS h;rw[c]at this;cases this) ha hb p
@[simp] noncomputable def EY:EF:=λ_ h=>.ok .a4 (h++[.dct []])
/---/def u7(l:.cU)(k:Int):Option D:=(.xD).map (·.2)
/---/def Dm(l:.cU)(k:Int)(v:D):List .mc:=if .x4=true then l.map .wU else l++[(k,v)]
@[simp] noncomputable def Ii:O2:=λx y h=>match x,y with
 |.int k,.ref n=>match h[n]? with|some .hP=>.ok (.bl (u7 l k).isSome) h|_=>.bad
 |_,_=>.bad
@[simp] noncomputable def AY(x i e:EF):SF:=λσ h=>outE .hu σ λd h=>outE .hs σ λp h=>outE (i σ h) σ λj h=>match p,j with
 |.ref n,.int k=>match h[n]? with
  |some .hP=>if l.length<SZ then .nx σ (h.set n<|.dct<|Dm l k d) else .bad
  |_=>.bad
 |_,_=>.bad
noncomputable def ie:List .mc->Option (List .aC)
 |[]=>some []
 |(k,.int v)::r=>(ie r).map λl=>[k,v]::l
 |_=>none
@[simp] noncomputable def rG(a:EF):LF:=λσ h=>(.al).bind λx h=>match x with
 |.ref n=>match h[n]? with
  |some .hP=>match ie l with
   |some r=>if r.length<64/\r.Nodup then .ok ((eA r).map yV) h else .bad
   |none=>.bad
  |_=>.bad
 |_=>.bad
@[simp] noncomputable def va(la:LF)(b:EF):LF:=λσ h=>(la σ h).bind λl h=>(.f4).bind λy h=>match y with
 |.int n=>if 0<=n/\n<=1000/\l.length*n.toNat<=1000 then .ok (.yu).flatten h else .bad
 |_=>.bad
@[simp] noncomputable def Te(x i e:EF):EF:=λσ h=>(.hs).bind λp h=>match p with
 |.ref n=>match h[n]? with
  |some (.lst _)=>(i σ h).bind λj h=>(.hu).bind λd h=>match j with
   |.int k=>match h[n]? with
    |some .cz=>if 0<=k/\k<=l.length/\l.length<SZ then .ok .non (h.set n<|.lst<|l.take k.toNat++[d]++l.drop k.toNat) else .bad
    |_=>.bad
   |_=>.bad
  |_=>.bad
 |_=>.bad
@[simp] noncomputable def vc(a b:EF):EF:=λσ h=>(.al).bind λx h=>(.f4).bind λy h=>match x,y with
 |.int i,.int j=>.ok (.int<|if j>i then j else i) h
 |_,_=>.bad
@[simp] noncomputable def fJ(a b:EF):LF:=λσ h=>(.al).bind λx h=>(.f4).bind λy h=>match x,y with
 |.ref n,.ref m=>match h[n]?,h[m]? with
  |some .cz,some (.lst k)=>if l.length+k.length<=SZ then .ok (l++k) h else .bad
  |_,_=>.bad
 |_,_=>.bad
@[simp] noncomputable def tw:O2:=λx y h=>match x,y with
 |.tup xs,.tup ys=>if xs.length+ys.length<=SZ then .ok (.tup<|xs++ys) h else .bad
 |_,_=>.bad
/---/def gw(l:.cV)(k:.b):Option D:=(.xD).map (·.2)
/---/def vd(l:.cV)(k:.b)(v:D):List .po:=if .x4=true then l.map .wU else l++[(k,v)]
/---/def Dn:EF:=λ_ h=>.bK (h++[.dcT []])
/---/def qc:O2:=λx y h=>match x,y with
 |.tup l,.ref n=>match cC l,h[n]? with
  |some k,some (.dcT m)=>.ok (.bl<|!(gw m k).isSome) h
  |_,_=>.bad
 |_,_=>.bad
/---/def EZ(x i e:EF):SF:=λσ h=>outE .hu σ λd h=>outE .hs σ λp h=>outE (i σ h) σ λj h=>match p,j with
 |.ref n,.tup l=>match cC l,h[n]? with
  |some k,some (.dcT m)=>if m.length<SZ then .nx σ (h.set n<|.dcT<|vd m k d) else .bad
  |_,_=>.bad
 |_,_=>.bad
/---/def Ij:O2:=λx y h=>match x,y with
 |.ref n,.tup l=>match cC l,h[n]? with
  |some k,some (.dcT m)=>match gw m k with|some d=>.ok d h|none=>.bad
  |_,_=>.bad
 |_,_=>.bad
/---/def Ik(a b:EF):EF:=aq Ij a b
noncomputable def rwK:D->List Int
 |.int i=>[i]
 |.tup l=>(cC l).getD []
 |_=>[]
noncomputable def ve:D->List .aC
 |.tup l=>l.map rwK
 |_=>[]
noncomputable def elT(k:Bool):D->Bool
 |.int _=>k
 |.tup l=>!k&&(cC l).isSome
 |_=>false
noncomputable def ja(k:Bool):D->Bool
 |.tup l=>!l.isEmpty&&l.all (elT k)
 |_=>false
noncomputable def ltK:List .aC->List .aC->Bool
 |[],[]=>false
 |[],_::_=>true
 |_::_,[]=>false
 |x::xs,y::ys=>if x=y then ltK xs ys else lexLt x y
/---/def LW(l:List D):Prop:=l.Pairwise λa b=>ltK (ve a) (ve b)=true
/---/def w5(l l':List D):Prop:=l'.Perm l/\LW l'
open Classical in
/---/def jX(l:List D):Option .e1:=if h:(∃k,l.all (ja k)=true)/\l.length<=1000/\∃l',w5 l l' then some h.2.2.choose else none
/---/def iE(a:EF):LF:=λσ h=>(.al).bind λx h=>match ev h x with
 |some l=>match jX l with|some l=>.ok l h|none=>.bad
 |none=>.bad
theorem pz:∀a,ltK a a=false
 |[]=>rfl
 |x::xs=>by simp[ltK,pz xs]
theorem rH:∀{a b c},ltK a b=true->ltK b c=true->ltK a c=true
 |[],[],_,h,_=>by simp[ltK]at h
 |[],_::_,[],_,h=>by simp[ltK]at h
 |[],_::_,_::_,_,_=>rfl
 |_::_,[],_,h,_=>by simp[ltK]at h
 |_::_,_::_,[],_,h=>by simp[ltK]at h
 |x::xs,y::ys,z::d,h,g=>by
  unfold ltK at *
  by_cases e:x=y
  ·subst e
   by_cases f:x=z
   ·subst f;simp at h g⊢;exact rH h g
   ·simpa[f] using g
  ·by_cases f:y=z
   ·subst f;simpa[e] using h
   ·rw[yD e]at h
    rw[yD f]at g;have:=iR h g
    by_cases i:x=z
    ·subst i;rw[eO]at this;cases this
    ·rw[yD i];exact this
def xF(h:ltK a b=true):ltK b a=false:=by
 cases e:ltK b a with
 |false=>rfl
 |true=>have:=rH h e;rw[pz]at this;cases this
theorem yW:∀{a b},a≠b->ltK a b=false->ltK b a=true
 |[],[],h,_=>absurd rfl h
 |[],_::_,_,h=>by simp[ltK]at h
 |_::_,[],_,_=>rfl
 |x::xs,y::ys,h,g=>by
  unfold ltK at *
  by_cases e:x=y
  ·subst e
   simp at h g⊢;exact yW h g
  ·rw[yD e]at g
   rw[yD (WQ e)];exact hZ e g
def LX(h1:ltK y x=false)(h2:ltK z y=false):ltK z x=false:=by
 cases w:ltK z x with
 |false=>rfl
 |true =>
  by_cases e:y=x
  ·subst e;rw[h2]at w;cases w
  ·have:=rH w (yW e h1)
   rw[h2]at this;cases this
def E3(h:w5 l a)(g:w5 l b):a=b :=
 U1 (λx y _ _ p q=>by rw[xF p]at q;cases q) h.2 g.2 (h.1.trans g.1.symm)
def pA(k:Bool)(b:.tr)(hz:l.length<=1000)(h:w5 l a):jX l=some a:=by
 unfold jX;have c:(∃k,l.all (ja k)=true)/\l.length<=1000/\∃a,w5 l a:=⟨⟨k,b⟩,hz,a,h⟩;rw[dif_pos c];exact congrArg some (E3 c.2.2.choose_spec h)
def yX(h:jX l=some a):(∃k,l.all (ja k)=true)/\l.length<=1000/\w5 l a:=by
 unfold jX at h;split at h
 ·rename_i c
  cases h;exact⟨c.1,c.2.1,c.2.2.choose_spec⟩
 ·cases h
noncomputable def ltT:D->D->Option Bool
 |.tup xs,.tup ys=>match cC xs,cC ys with
  |some ns,some ms=>some (lexLt ns ms)
  |_,_=>none
 |_,_=>none
@[simp] noncomputable def Do:O2:=λx y h=>match ltT x y with|some b=>.ok (.bl b) h|none=>.bad
/---/def jY(a:EF)(lo hi:OF):EF:=λσ h=>(.al).bind λx h=>(lo σ h).bind λi h=>(hi σ h).bind λj h=>match x with
 |.tup l=>.ok (.tup .nQ) h
 |_=>.bad
end Fm
set_option maxRecDepth 100000
namespace Ts
open PySem PyProof.Rows
/---/def nt:Bool->Keyed->Array Keyed->Nat->Nat->Nat->.jz .ec:=sortPriv% PySem.Builtin.gallop
/---/def Dp(lf:Bool)(ky:Keyed)(xs:.C)(b i:Nat):.jz (Option Bool):=do
 let z <-elem' xs (b+i)
 if lf then lt' z ky else return (<-lt' ky z).map (!·)
/---/def AZ(lf:Bool)(ky:Keyed)(xs:.C)(b n x0 y0:Nat):.jz .ec:=do
 let mut x:=x0
 let mut y:=y0
 for _ in [0:n] do
  if x≥y then break
  let m:=x+(y-x)/2
  let some e <-Dp lf ky xs b m|return none
  if e then x:=m+1 else y:=m
 return some y
def LY(c:Bool)(a:Keyed)(xs:.C)(b n ht:Nat):nt c a xs b n ht=(do
  let mut u:=0
  let mut v:=1
  let some rt <-Dp c a xs b ht|return none
  if rt then
   let w:=n-ht
   for _ in [0:n] do
    if v≥w then break
    let some e <-Dp c a xs b (ht+v)|return none
    if !e then break
    u:=v
    v:=2*v+1
   AZ c a xs b n (ht+u+1) (ht+min v w)
  else
   let w:=ht+1
   for _ in [0:n] do
    if v≥w then break
    let some e <-Dp c a xs b (ht-v)|return none
    if e then break
    u:=v
    v:=2*v+1
   AZ c a xs b n (ht+1-min v w) (ht-u)):=rfl
section
variable{M:Model}{A:P1}{E:.q}{s:Q5}
structure Cmp(M:Model)(A:P1)(E:.q)(s:Q5)(kd:SortKind)(S:.dk)(r:.ar):Prop where
 ask:∀{x y:Keyed} {st:SortSt} {Q:Option Bool->SortSt->Prop},S x->S y->kindOf st=kd->Q (some<|r x y) st->.ad (lt' x y) Q st
 asym:∀{x y:Keyed},r x y=true->r y x=false
 tr:∀{x y z:Keyed},r y x=false->r z y=false->r z x=false
end
section
variable{M:Model}{A:P1}{E:.q}{s:Q5}{kd:SortKind}{S:.dk}{r:.ar}
def cU{st:SortSt}(e:xs[i]?=some x)(h:Q x st):.ad (elem' xs i) Q st:=by
 rw[elem'_eq,e];exact Z3 h
def OP(C:.a7){st:SortSt}(g:.aV)(e:xs[b+i]?=some x)(d:S x)(f:S a)(h:Q (some<|if c then r x a else !r a x) st):.ad (Dp c a xs b i) Q st:=by
 unfold Dp;refine v3 (cU e ?_);cases c with
 |true=>exact C.ask d f g h
 |false=>exact v3 (C.ask f d g<|Z3 h)
def yY(C:.a7){st:SortSt}(Z:.aV)(p:Nat->Bool)(hp:∀i,i<n->∃x,xs[b+i]?=some x/\S x/\p i=(if N then r x F else !r F x))(Sk:S F)(f:∀i j,i<=j->j<n->p j=true->p i=true)(Y:ht<n)
  (q:∀k,k<=n->(∀i,i<k->p i=true)->(∀i,k<=i->i<n->p i=false)->Q .b8 st):.ad (nt N F xs b n ht) Q st:=by
 have K:∀{i:Nat} {R:Option Bool->SortSt->Prop},i<n->R (some<|p i) st->.ad (Dp N F xs b i) R st:=λ{i R} B h=>by
  obtain⟨x,e,Sx,V⟩:=hp i B;exact OP C Z e Sx Sk (by rw[<-V];exact h)
 have bin:∀G D,G<=D->D<=n->(∀i,i<G->p i=true)->(∀i,D<=i->i<n->p i=false)->
   wpS M A E s (AZ N F xs b n G D) Q st:=by
  intro G D T W X U;unfold AZ;refine v3 (VM (XZ (I:=λi c a=>a=st/\∃x y,c=(none,x,y)/\x<=y/\y<=n/\(∀i,i < x->p i=true)/\(∀i,y<=i->i < n->p i=false)/\y - x + i<=n)
   (Q:=λc a=>a=st/\∃y,c=(none,y,y)/\y<=n/\(∀i,i<y->p i=true)/\(∀i,y<=i->i<n->p i=false)) ?m ?fin ⟨rfl,G,D,rfl,T,W,X,U,by omega⟩) λc a h=>?_)
  case fin =>
   rintro c a ⟨rfl,x,y,rfl,l,o,g,d,w⟩;have:x=y:=by omega
   subst this;exact⟨rfl,x,rfl,o,g,d⟩
  case m =>
   rintro i c a _ B ⟨rfl,x,y,rfl,l,o,g,d,w⟩;dsimp only
   by_cases c:x≥y
   ·rw[z4 c]
    have:x=y:=by omega
    subst this;exact Z3 ⟨rfl,x,rfl,o,g,d⟩
   ·rw[yD c]
    have hm:x+(y-x)/2<y:=by omega
    refine v3 (K .bm ?_);dsimp only;cases t:p (x+(y-x)/2) with
    |true =>
     rw[z4 rfl];exact Z3 ⟨rfl,_,_,rfl,by omega,o,λj hj=>f j _ .bm .bm t,d,by omega⟩
    |false =>
     rw[yD Z7];refine Z3 ⟨rfl,_,_,rfl,by omega,by omega,g,λj O J=>?_,by omega⟩;cases H:p j with
     |false=>rfl
     |true=>rw[f _ j O J H]at t;cases t
  ·obtain⟨rfl,y,rfl,o,g,d⟩:=h
   exact Z3 (q y o g d)
 rw[LY];refine v3 (K Y ?_);dsimp only;cases P:p ht with
 |true =>
  rw[z4 rfl];refine v3 (VM (XZ (I:=λi c a=>a=st/\∃u v,c=(none,u,v)/\u < v/\i < v/\ht + u < n/\p (ht + u)=true)
   (Q:=λc a=>a=st/\∃u v,c=(none,u,v)/\u<v/\ht+u<n/\p (ht+u)=true/\(n-ht<=v\/ht+v<n/\p (ht+v)=false)) ?m ?fin ⟨rfl,0,1,rfl,by omega,by omega,by omega,P⟩) λc a h=>?_)
  case fin =>
   rintro c a ⟨rfl,u,v,rfl,l,o,g,d⟩;exact⟨rfl,u,v,rfl,l,g,d,.inl .bm⟩
  case m =>
   rintro i c a _ B ⟨rfl,u,v,rfl,l,o,g,d⟩;dsimp only
   by_cases c:v≥n-ht
   ·rw[z4 c]
    exact Z3 ⟨rfl,u,v,rfl,l,g,d,.inl c⟩
   ·rw[yD c]
    refine v3 (K .bm ?_);dsimp only;cases t:p (ht+v) with
    |false =>
     rw[z4 .c];exact Z3 ⟨rfl,u,v,rfl,l,g,d,.inr ⟨by omega,t⟩⟩
    |true =>
     rw[yD .c];exact Z3 ⟨rfl,_,_,rfl,by omega,by omega,by omega,t⟩
  ·obtain⟨rfl,u,v,rfl,l,g,d,w⟩:=h
   dsimp only;refine bin (ht+u+1) (ht+min v (n-ht)) .bm .bm (λi B=>f i _ .bm g d) λi O J=>?_;rcases w with w|⟨w,L⟩
   ·omega
   ·cases H:p i with
    |false=>rfl
    |true=>rw[f _ i .bm J H]at L;cases L
 |false =>
  rw[yD Z7];refine v3 (VM (XZ (I:=λi c a=>a=st/\∃u v,c=(none,u,v)/\u < v/\i < v/\u<=ht/\p (ht - u)=false)
   (Q:=λc a=>a=st/\∃u v,c=(none,u,v)/\u<v/\u<=ht/\p (ht-u)=false/\(ht+1<=v\/v<=ht/\p (ht-v)=true)) ?z ?fin2 ⟨rfl,0,1,rfl,by omega,by omega,by omega,P⟩) λc a h=>?_)
  case fin2 =>
   rintro c a ⟨rfl,u,v,rfl,l,o,g,d⟩;exact⟨rfl,u,v,rfl,l,g,d,.inl .bm⟩
  case z =>
   rintro i c a _ B ⟨rfl,u,v,rfl,l,o,g,d⟩;dsimp only
   by_cases c:v≥ht+1
   ·rw[z4 c]
    exact Z3 ⟨rfl,u,v,rfl,l,g,d,.inl c⟩
   ·rw[yD c]
    refine v3 (K .bm ?_);dsimp only;cases t:p (ht-v) with
    |true =>
     rw[z4 rfl];exact Z3 ⟨rfl,u,v,rfl,l,g,d,.inr ⟨by omega,t⟩⟩
    |false =>
     rw[yD Z7];exact Z3 ⟨rfl,_,_,rfl,by omega,by omega,by omega,t⟩
  ·obtain⟨rfl,u,v,rfl,l,g,d,w⟩:=h
   dsimp only;refine bin (ht+1-min v (ht+1)) (ht-u) .bm .bm (λi B=>?_) λi O J=>?_
   ·rcases w with w|⟨w,L⟩
    ·omega
    ·exact f i _ .bm .bm L
   ·cases H:p i with
    |false=>rfl
    |true=>rw[f _ i .bm J H]at d;cases d
end
end Ts
namespace L2
open PySem PySem.Spec PyProof.Rows
noncomputable abbrev Key:=Sum Int Str
noncomputable def xG:Key->S1->Bool
 |.inl k,v=>Value.isInt k v
 |.inr x,v=>Value.isStrOf x v
noncomputable def Tf(w:N3):Key->Int
 |.inl k=>hashInt k
 |.inr x=>hashStr w x
theorem dY:∀{k:Key} {v:S1},xG k v=true->(∃i t,k=Sum.inl i/\v=Value.int i t)\/(∃x t,k=Sum.inr x/\v=Value.str x t)
 |.inl i,v,h=>by
  obtain⟨t,e⟩:=Value.isInt_shape (k:=i) (v:=v) h;exact .inl ⟨i,t,rfl,e⟩
 |.inr x,v,h=>by
  obtain⟨t,e⟩:=Value.isStrOf_shape (x:=x) (v:=v) h;exact .inr ⟨x,t,rfl,e⟩
def Gm(i:Int)(t:Tok):xG (.inl i) .n9=true:=by simp[xG,Value.isInt]
def Gn(x:Str)(t:Tok):xG (.inr x) (.str x t)=true:=by simp[xG,Value.isStrOf]
def OQ(a b:Int):decide ((Sum.inl a:Key)=Sum.inl b)=(a == b):=by
 by_cases e:a=b
 ·subst e;simp
 ·have h:¬(Sum.inl a:Key)=Sum.inl b:=λq=>e (Sum.inl.inj q)
  rw[Z6 h];exact(beq_eq_false_iff_ne.mpr e).symm
def OR(a b:Str):decide ((Sum.inr a:Key)=Sum.inr b)=decide (a=b):=by
 by_cases e:a=b
 ·subst e;simp
 ·have h:¬(Sum.inr a:Key)=Sum.inr b:=λq=>e (Sum.inr.inj q)
  rw[Z6 h,Z6 e]
def OU(a:Int)(b:Str):decide ((Sum.inl a:Key)=Sum.inr b)=false:=Z6 (λq=>nomatch q)
def OV(a:Str)(b:Int):decide ((Sum.inr a:Key)=Sum.inl b)=false:=Z6 (λq=>nomatch q)
def eP(prog:P2)(w:N3):PySem.KeyKind prog w Key where
 is:=xG
 hash:=Tf w
 inj:=λv a b ha hb=>by
  rcases dY ha with ⟨i,t,rfl,rfl⟩|⟨x,t,rfl,rfl⟩
  ·rcases dY hb with ⟨j,u,rfl,e⟩|⟨y,u,rfl,e⟩
   ·injection e with e1 _;rw[e1]
   ·exact nomatch e
  ·rcases dY hb with ⟨j,u,rfl,e⟩|⟨y,u,rfl,e⟩
   ·exact nomatch e
   ·injection e with e1 _;rw[e1]
 byValue:=λk v h=>by
  rcases dY h with ⟨i,t,rfl,rfl⟩|⟨x,t,rfl,rfl⟩<;>rfl
 pyHash:=λhv h=>by
  rcases dY hv with ⟨i,t,rfl,rfl⟩|⟨x,t,rfl,rfl⟩
  ·exact wpAny_pyHash_int h
  ·exact wpAny_pyHash_str h
 eqBool:=λhu hv h=>by
  rcases dY hu with ⟨i,t,rfl,rfl⟩|⟨x,t,rfl,rfl⟩
  ·rcases dY hv with ⟨j,u,rfl,rfl⟩|⟨y,u,rfl,rfl⟩
   ·rw[OQ]at h;exact wpAny_eqBool_int h
   ·rw[OU]at h;exact SeqAt.EqAt.int_str i t y u _ _ _ _ h
  ·rcases dY hv with ⟨j,u,rfl,rfl⟩|⟨y,u,rfl,rfl⟩
   ·rw[OV]at h;exact SeqAt.EqAt.str_int x t j u _ _ _ _ h
   ·rw[OR]at h;exact wpAny_eqBool_str h
 «strs» := λk x t v h=>by
  rcases dY h with ⟨i,u,rfl,e⟩|⟨y,u,rfl,e⟩
  ·exact nomatch e
  ·injection e with e1 _
   subst e1
   cases v<;>rfl
def A0(prog:P2)(w:N3)(i:Int)(t:Tok):(eP prog w).is (.inl i) .n9=true:=Gm i t
def A1(prog:P2)(w:N3)(x:Str)(t:Tok):(eP prog w).is (.inr x) (.str x t)=true:=Gn x t
inductive V where
 |non|bl (b:Bool)|int (i:Int)|str (x:Str)|byt (b:Array UInt8)|flt (b:UInt64)|ref (a:Addr)|ty (n:String)
 deriving DecidableEq
noncomputable def cf:V->S1->Prop
 |.non,u=>u=Value.none
 |.bl b,u=>u=Value.bool b
 |.int i,u=>∃t,u=Value.int i t
 |.str x,u=>∃t,u=Value.str x t
 |.byt b,u=>∃t,u=Value.bytes b t
 |.flt b,u=>∃t,u=Value.float b t
 |.ref a,u=>u=Value.ref a
 |.ty n,u=>u=Value.type n
noncomputable abbrev aY:List V->List S1->Prop:=Paired cf
def aY.length(r:aY xs a):xs.length=a.length:=Paired.length r
theorem aY.get:∀{xs:List V} {a:List S1} {i:Nat} {x:V},aY xs a->xs[i]?=some x->∃u,a[i]?=some u/\cf x u
 |_,_,_,_,.nil,e=>by simp at e
 |_,_,0,_,.cons r _,e=>by simp at e;subst e;exact⟨_,rfl,r⟩
 |_,_,i+1,x,.cons _ t,e=>by
  obtain⟨u,h1,h2⟩:=aY.get (i:=i) (x:=x) t .dB;exact⟨u,by simpa using h1,h2⟩
theorem aY.set(r:cf x u):∀{xs:List V} {a:List S1} (i:Nat),aY xs a->aY (xs.set i x) (a.set i u)
 |_,_,_,.nil=>.nil
 |_,_,0,.cons _ t=>.cons r t
 |_,_,i+1,.cons q t=>.cons q (aY.set r i t)
theorem aY.append:∀{xs ys:List V} {a b:List S1},aY xs a->aY ys b->aY (xs++ys) .dS
 |_,_,_,_,.nil,s=>s
 |_,_,_,_,.cons r t,s=>.cons r (aY.append t s)
theorem aY.take:∀{xs:List V} {a:List S1} (n:Nat),aY xs a->aY (xs.take n) (a.take n)
 |_,_,0,_=>.nil
 |_,_,_+1,.nil=>.nil
 |_,_,n+1,.cons r t=>.cons r (aY.take n t)
theorem aY.drop:∀{xs:List V} {a:List S1} (n:Nat),aY xs a->aY (xs.drop n) (a.drop n)
 |_,_,0,r=>r
 |_,_,_+1,.nil=>.nil
 |_,_,n+1,.cons _ t=>aY.drop n t
noncomputable def w6:Option V->Option S1->Prop
 |some v,some u=>cf v u
 |none,none=>True
 |_,_=>False
/---/def KV:List .i2->List .n1->Prop:=Paired λ(p:κ × V) (q:κ × S1)=>p.1=q.1/\cf p.2 q.2
noncomputable def kV:Key->V
 |.inl i=>.int i
 |.inr x=>.str x
inductive HO where
  |lst (xs:List V)
  |tup (xs:List V)
  |dK (kvs:.dY)|dT (kvs:.gh)
  |set (S:Int->Bool) (n:Nat)
  |ins (C dx:Addr) (fs:List .i1)
  |own (x:Addr)
  |xd (fs:List .i1)
  |met (f x:Addr)
  |rng (lo hi:Int)
  |frz (o:Obj) (u:HO)
  |tbl (ps:.bw)
  |ext (φ:Heap->Prop)
noncomputable abbrev Hp:=Addr->Option HO
/---/def upd(H:Hp)(a:Addr)(o:HO):Hp:=λb=>if b=a then some o else H b
variable{H:Hp}
def bB:.az a o a=some o:=by unfold upd;rw[z4 rfl]
variable{b:Addr}
def aJ(h:b≠a):.az a o b=H b:=by unfold upd;rw[yD h]
def Rh(h:H a=some o)(h':H b=some u)(d:o≠u):a≠b:=by
 intro e;subst e;rw[h]at h';exact d (ZT h')
def cj(h:H a=some o)(h':H b=none):a≠b:=by
 intro e;subst e;rw[h]at h';cases h'
section
variable(P:P2)(w:N3)
noncomputable def fO(H:Hp)(h:Heap)(a:Addr):HO->Prop
 |.lst xs=>xs.length<=sizeLine/\∃(its:List S1) (n:Nat),aY xs its/\h.get? a=some { cls:=.type "list",data:=.seq its.toArray n }
 |.tup xs=>xs.length<=sizeLine/\∃its:List S1,aY xs its/\IsTup h a its.toArray
 |.dK kvs=>kvs.length<=sizeLine/\.fF=false/\∃vs,KV kvs vs/\h.DictOf .g3 a vs
 |.dT kvs=>kvs.length<=sizeLine/\.fF=false/\∃xs:List .mt,
   Paired (λ(p:List Key × V) (q:List Key × Addr × S1)=>p.1=q.1/\H q.2.1=some (.tup<|p.1.map kV)/\cf p.2 q.2.2) kvs xs/\
   ∃o es ep,h.get? a=some o/\o.ExactDict/\o.data=.dict es ep/\es.toList=xs.map (entryOfKey .kl)/\(xs.map (·.1)).Nodup
 |.set S n=>h.SetOf (intKind P w) a S n
 |.ins C dx fs=>H dx=some (.own a)/\fs.length<=1000/\dx≠a/\h.get? a=some .zT/\
   ∃mA,h.Ns1 dx mA/\(∀f,w6 (fs.lookup f) (mA f))/\PySem.Within mA (fs.map (·.1))
 |.own _=>∃o,h.get? a=some o
 |.xd fs=>∃mA,h.Ns1 a mA/\∀f,w6 (fs.lookup f) (mA f)
 |.rng lo hi=>∃t u v,h.get? a=some { cls:=.type "range",data:=.fields #[.int lo t,.int hi u,.int 1 v] }
 |.frz o u=>h.get? a=some o/\fO H h a u
 |.tbl ps=>h.get? a=some { cls:=.none,data:=.fields ps }
 |.met f x=>h.get? a=some (PySem.W.methodObj (.ref f)<|.ref x)
 |.ext φ=>φ h/\(∃o,h.get? a=some o)/\∀h1 h2:Heap,φ h1->(∀o,h1.get? a=some o->h2.get? a=some o)->φ h2
/---/def HOk(H:Hp)(h:Heap):Prop:=∀a o,H a=some o->.lQ o
end
section
variable{P:P2}{w:N3}{H H':Hp}{h h':Heap}{a:Addr}{o:HO}
def fO.lt(x:.lQ o):a<h.objs.size:=by
 cases o with
 |lst b=>obtain⟨_,_,_,_,e⟩:=x;exact ZI e
 |tup b=>obtain⟨_,_,_,p⟩:=x;exact p.lt
 |dK kvs=>obtain⟨_,_,_,_,o,_,_,e,_⟩:=x;exact ZI e
 |dT kvs=>obtain⟨_,_,_,_,o,_,_,e,_⟩:=x;exact ZI e
 |set S n=>obtain⟨o,_,_,_,e,_⟩:=x;exact ZI e
 |ins C i c=>obtain⟨_,_,_,e,_⟩:=x;exact ZI e
 |own y=>obtain⟨_,e⟩:=x;exact ZI e
 |xd c=>obtain⟨_,⟨_,_,_,e,_⟩,_⟩:=x;exact ZI e
 |rng g d=>obtain⟨_,_,_,e⟩:=x;exact ZI e
 |frz j u=>obtain⟨e,_⟩:=x;exact ZI e
 |tbl k=>exact ZI (show h.get? a=some _ from x)
 |met f y=>exact ZI (show h.get? a=some _ from x)
 |ext φ=>obtain⟨_,⟨_,e⟩,_⟩:=x;exact ZI e
theorem Paired.mapP:∀{c:List α} {d:List β},Paired F c d->(∀a b,F a b->G a b)->Paired G c d
 |_,_,.nil,_=>.nil
 |_,_,.cons r t,f=>.cons (f _ _ r) (Paired.mapP t f)
def fO.stay(x:.lQ o)(k:∀b u,(b=a\/H b=some (.own a))->h.get? b=some u->h'.get? b=some u)
  (E:∀b,H b=some (.own a)->H' b=some (.own a)) (ht:.AM):fO P w H' h' a o:=by
 induction o with
 |lst xs=>obtain⟨z,l,n,r,e⟩:=x;exact⟨z,l,n,r,.ds e⟩
 |tup xs=>obtain⟨z,l,r,g,e,c⟩:=x;exact⟨z,l,r,g,.ds e,c⟩
 |dK kvs=>obtain⟨z,y,F,r,g,j,i,e,c⟩:=x;exact⟨z,y,F,r,g,j,i,.ds e,c⟩
 |dT kvs =>
  obtain⟨z,y,xs,r,g,j,i,e,c⟩:=x;exact⟨z,y,xs,Paired.mapP r λp q z=>⟨z.1,ht _ _ z.2.1,z.2.2⟩,g,j,i,.ds e,c⟩
 |set S n=>obtain⟨g,j,i,t,e,c⟩:=x;exact⟨g,j,i,t,.ds e,c⟩
 |ins C L G =>
  obtain⟨d,z,ne,e,s,⟨m,j,i,D,c⟩,r⟩:=x;exact⟨E _ d,z,ne,.ds e,s,⟨m,j,i,k _ _ (.inr d) D,c⟩,r⟩
 |own y=>obtain⟨g,e⟩:=x;exact⟨g,.ds e⟩
 |xd G=>obtain⟨s,⟨m,j,i,e,c⟩,r⟩:=x;exact⟨s,⟨m,j,i,.ds e,c⟩,r⟩
 |rng K J=>obtain⟨t,u,v,e⟩:=x;exact⟨t,u,v,.ds e⟩
 |frz g u I=>obtain⟨e,q⟩:=x;exact⟨.ds e,I q⟩
 |tbl B =>
  have e:h.get? a=some { cls:=.none,data:=.fields B }:=x;show h'.get? a=some { cls:=.none,data:=.fields B };exact k a _ .ca e
 |met f y =>
  have e:h.get? a=some .xa:=x;show h'.get? a=some .xa;exact k a _ .ca e
 |ext φ=>obtain⟨p,⟨o,e⟩,A⟩:=x;exact⟨A _ _ p λo q=>.ds q,⟨o,.ds e⟩,A⟩
def HOk.lt(x:.cw)(e:H a=some o):a<h.objs.size:=(x a o e).lt
def HOk.fresh(x:.cw)(e:h.objs.size<=a):H a=none:=by
 cases q:H a with
 |none=>rfl
 |some u=>exact absurd (Z5 (x.lt q) e) (YI _)
def HOk.kept(x:.cw)(k:.oc):HOk P w H h':=λa o e =>
 (x a o e).stay (λb u _ q=>k b u q) .n0 λ_ _ q=>q
def HOk.laid(x:.cw)(k:.oc)(hp:h.objs.size<=a)(new:fO P w .k6 h' a o):HOk P w .k6 h':=λb u e=>by
 have d:=x.fresh hp
 by_cases f:b=a
 ·subst f;rw[bB]at e;cases e;exact new
 ·rw[aJ f]at e
  exact(x b u e).stay (λc v _ q=>k c v q) (λc q=>by rw[aJ (cj q d)];exact q) λc g q=>by rw[aJ (cj q d)];exact q
end
/---/def Rd(H:Hp)(a:Addr)(u:HO):Prop:=H a=some u\/∃o,H a=some .fW
def Rd.ok(r:Rd H a u)(x:.cw):.lQ u:=by
 rcases r with r|⟨o,r⟩
 ·exact x a u r
 ·obtain⟨_,q⟩:=x a _ r
  exact q
noncomputable def Mut:Option HO->Prop
 |some (.lst _)=>True
 |some (.dK _)=>True
 |some (.dT _)=>True
 |some (.set _ _)=>True
 |some (.ins _ _ _)=>True
 |some (.ext _)=>True
 |_=>False
section
variable{P:P2}{w:N3}{H:Hp}{h h':Heap}{x e:Addr}{o':HO}
def HOk.write(ok:.cw)(g:Mut (H x))(he:.td)(k:.AA)(l:.te)
  (new:fO P w (.az x o') h' x o'):HOk P w (.az x o') h':=λb u q=>by
 have a:∀c y,H c=some (.own y)->c≠x:=λc y r z=>by subst z;rw[r]at g;exact g
 have d:∀c i,H c=some (.tup i)->c≠x:=λc i r z=>by subst z;rw[r]at g;exact g
 by_cases j:b=x
 ·subst j;rw[bB]at q;cases q;exact new
 ·rw[aJ j]at q
  by_cases hbe:b=e
  ·have m:H b=some (.own x):=by
    rcases he with z|z
    ·exact absurd (hbe.trans z) j
    ·rw[hbe];exact z
   rw[q]at m;cases m;obtain⟨v,n⟩:=l;exact⟨v,by rw[hbe];exact n⟩
  ·refine(ok b u q).stay (λc v f r=>k c v ?_ r) (λc r=>by rw[aJ (a c b r)];exact r) λc i r=>by rw[aJ (d c i r)];exact r
   rcases f with rfl|f
   ·exact hbe
   ·rintro rfl
    rcases he with z|z
    ·exact a c b f z
    ·rw[f]at z;cases z;exact j rfl
end
structure Un(fs ex:.I)(H H':Hp)(h h':Heap):Prop where
 keep:∀b o,h.get? b=some o->H b=none->b∉fs->b∉ex->h'.get? b=some o
 slot:∀b o,h.get? b=some o->H b=none->b∈fs->b∉ex->∃sl,h'.get? b=some { o with slots:=sl }
 free:∀b o,h.get? b=some o->H b=none->b∉ex->H' b=none
 there:∀b o,h.get? b=some o->b∉ex->∃o',h'.get? b=some o'
 tups:∀b xs,H b=some .cn->H' b=some .cn
 frzs:∀b o u,H b=some .fW->H' b=some .fW
 tbls:∀b ps,H b=some (.tbl ps)->∃more,H' b=some (.tbl<|ps++more)
section
variable{fs fs' ex ex':.I}{H H1 H2:Hp}{h h1 h2 h':Heap}{a x e:Addr}{o:HO}
def Un.any(u:Un fs ex H H1 h h1)(q:h.get? b=some c)(n:H b=none)(hx:b∉ex):∃f,h1.get? b=some { c with slots:=f }:=by
 by_cases d:b∈fs
 ·exact u.slot b c q n d hx
 ·exact⟨c.slots,u.keep b c q n d hx⟩
def Un.kept(k:.oc):Un fs ex H H h h' :=
 ⟨λb c q _ _ _=>k b c q,λb c q _ _ _=>⟨c.slots,k b c q⟩,λ_ _ _ n _=>n,λb c q _=>⟨c,k b c q⟩,λ_ _ q=>q,λ_ _ _ q=>q,λ_ d q=>⟨#[],by rw[q];simp⟩⟩
def Un.refl:Un fs ex H H h h:=Un.kept λ_ _ q=>q
theorem Un.laid(k:.oc)(hp:h.objs.size<=a)(hn:H a=none):Un fs ex H .k6 h h' where
 keep:=λb u q _ _ _=>k b u q
 slot:=λb u q _ _ _=>⟨u.slots,k b u q⟩
 free:=λb u q n _=>by rw[aJ (ZN<|Z5 (ZI q) hp)];exact n
 there:=λb u q _=>⟨u,k b u q⟩
 tups:=λb c q=>by rw[aJ (cj q hn)];exact q
 frzs:=λb u c q=>by rw[aJ (cj q hn)];exact q
 tbls:=λb d q=>⟨#[],by rw[aJ (cj q hn),q];simp⟩
def Un.write(c:Mut (H x))(he:.td)(k:.AA)(d:.te):Un fs ex H (.az x o) h h':=by
 have g:∀b,H b=none->b≠x:=λb n z=>by subst z;rw[n]at c;exact c
 have i:∀b,H b=none->b≠e:=λb n z=>by
  subst z;rcases he with r|r
  ·exact g b n r
  ·rw[n]at r;cases r
 have f:∀b u,H b=some u->¬Mut (some u)->b≠x:=λb u q j z=>by subst z;rw[q]at c;exact j c
 refine⟨λb u q n _ _=>k b u (i b n) q,λb u q n _ _=>⟨u.slots,k b u (i b n) q⟩,λb u q n _=>by rw[aJ (g b n)];exact n,λb u q _ => ?_,
  λb l q=>by rw[aJ .r9];exact q,λb u l q=>by rw[aJ .r9];exact q,λb m q=>⟨#[],by rw[aJ .r9,q];simp⟩⟩
 by_cases hbe:b=e
 ·subst hbe;exact d
 ·exact⟨u,k b u hbe q⟩
end
/---/def trk(h:Heap)(H:Hp):List Addr:=(.qU).filter λa=>(H a).isSome
/---/def yZ(h:Heap)(H:Hp):Heap:=PySem.W.hideAll h (trk h H)
def Gp(h:Heap)(H:Hp):(yZ h H).objs.size=h.objs.size:=PySem.W.hideAll_size _ _
def Im(e:h.get? b=some o)(n:H b=none):(yZ h H).get? b=some o :=
 PySem.W.hideAll_get _ e λa=>by
  have q:(H b).isSome=true:=(Y2.mp a).2;rw[n]at q;simp at q
def L4(e:(yZ h H).get? b=some o):h.get? b=some o/\H b=none:=by
 have a:h.get? b=some o:=PySem.W.of_hideAll (trk h H) e;refine⟨a,?_⟩;cases q:H b with
 |none=>rfl
 |some x =>
  have c:b∈trk h H:=Y2.mpr ⟨YD.mpr (ZI a),by simp[q]⟩;have z:(yZ h H).get? b=none:=PySem.W.hideAll_none (trk h H) c;rw[z]at e;cases e
/---/def L5(g h:Heap)(L:Addr):List .ex:=(.qU).filterMap λa=>if a=L\/(g.get? a).isSome=true then none else (h.get? a).map λo=>(a,o)
/---/def rest(g h:Heap)(L d:Addr):List .ex:=(L5 g h L).filter λp=>decide (p.1≠d)
structure Mod(K:ZX)(mg:.aI)(base:Heap):Prop where
 kin:K.In base
 glob:base.Ns mainGlobals mg
 blt:∃mb,base.Ns builtinsNs mb/\∀x:Str,x≠"__name__"->mb x=bootBuiltins x
 nolimit:base.NoLimit
structure Cx where
 prog:P2
 w:N3
 K:ZX
 mg:Str->Option S1
 base:Heap
 A:P1
 N:List Str
 s₀:Q5
 H₀:Hp
 env:Env
 outer:List Env
 stack:List Env
 ex:List Addr
 fn:Str->Bool
 calm:Bool
 pn:List .ex
 xe:S1->Q5->Prop
/---/def frs(l:.dm):List Addr:=l.filterMap (·.frame)
noncomputable abbrev Cx.fs(X:Cx):List Addr:=frs X.outer
/---/def Vis(sc:Scope)(x:Str):Prop:=sc.names.lookup x=some .local\/sc.names.lookup x=some .cell\/sc.names.lookup x=some .free
/---/def Loc(sc:Scope)(x:Str):Prop:=sc.names.lookup x=some .local\/sc.names.lookup x=some .cell
/---/def Tg(env:Env)(h:Heap)(m:.aI)(x:Str)(u:S1):Prop :=
 (env.kindOf x=some .local/\m x=some u)\/((env.kindOf x=some .cell\/env.kindOf x=some .free)/\∃c,env.cells.lookup x=some c/\h.IsCell c (some u))
structure Cx.Ok(X:Cx):Prop where
 mod:Mod X.K X.mg X.base
 kind:X.env.scope.kind=.function
 glob:X.env.globals=mainGlobals
 blt:X.env.builtins=builtinsNs
 above:X.s₀.heap.objs.size<=X.env.locals
 inj:∀x y c,X.env.cells.lookup x=some c->X.env.cells.lookup y=some c->x=y
 has:∀x,(X.env.kindOf x=some .cell\/X.env.kindOf x=some .free)->∃c,X.env.cells.lookup x=some c
 cab:∀x c,X.fn x=true->X.env.cells.lookup x=some c->X.s₀.heap.objs.size<=c
 hd:X.calm=true->X.A.handled=none
 frames:X.A.frames=some X.stack
 stk:X.stack=X.outer\/(X.stack=X.env::X.outer/\X.env.frame=some X.env.locals)
 exf:∀b∈X.ex,b≠X.env.locals/\∀x c,X.env.cells.lookup x=some c->c≠b
 bs:∀b o,X.base.get? b=some o->X.s₀.heap.get? b=some o/\X.H₀ b=none
 bsz:X.base.objs.size<=X.s₀.heap.objs.size
 noex:∀b o,X.base.get? b=some o->b∉X.ex
 exfs:∀b∈X.ex,b∉X.fs
 funs:X.s₀.heap.FunFrames X.base X.outer
 frf:∀b∈X.fs,X.H₀ b=none
structure Inv(X:Cx)(pins:.J)(σ:List (Option V))(H:Hp)(s:Q5):Prop where
 ok:X.Ok
 os:s.os=X.s₀.os
 bare:AllBare s.gens
 base:Un X.fs X.ex X.H₀ H X.s₀.heap s.heap
 loc:∃m,s.heap.Ns X.env.locals m/\∀(i:Nat) (x:Str) (v:V),X.N[i]?=some x->σ[i]?=some .ek->Vis X.env.scope x->∃u,cf v u/\Tg X.env s.heap m x u
 cell:∀x c,X.env.cells.lookup x=some c->∃v,s.heap.IsCell c v
 free:H X.env.locals=none
 freeC:∀x c,X.env.cells.lookup x=some c->H c=none
 pin:∀p∈X.pn++pins,s.heap.get? p.1=some p.2/\H p.1=none/\p.1≠X.env.locals/\p.1∉X.fs/\∀v,p.2.data ≠ .cell v
 hok:.pd H s.heap
 len:σ.length=X.N.length
variable{x:Str}{u:S1}{E:.q}{A:P1}
section
variable{X:Cx}{pins:.J}{σ:List (Option V)}{H H':Hp}{s:Q5}{h':Heap}
def Cx.Ok.nofr(ok:X.Ok)(e:X.base.get? b=some o):b∉X.fs:=λa=>by
 have:=(ok.funs.mem a).1;rw[e]at this;cases this
def Inv.bs(I:.s):∀b o,X.base.get? b=some o->s.heap.get? b=some o/\H b=none:=λb o e =>
 ⟨I.base.keep b o (.kK).1 (.kK).2 (I.ok.nofr e) (I.ok.noex b o e),I.base.free b o (.kK).1 (.kK).2 (I.ok.noex b o e)⟩
def Inv.bk(I:.s):∀b o,X.base.get? b=some o->s.heap.get? b=some o:=λb o e=>(I.bs b o e).1
def Inv.mod(I:.s):Mod X.K X.mg X.base:=I.ok.mod
def Inv.kIn(I:.s):X.K.In s.heap:=I.ok.mod.kin.keeps I.bk
def Inv.lt(I:.s):X.env.locals<s.heap.objs.size:=let ⟨_,a,_⟩:=I.loc;a.lt
def Inv.sz(I:.s):X.s₀.heap.objs.size<=s.heap.objs.size:=ZM I.ok.above (YX I.lt)
def Inv.nofs(I:.s){a:Addr}(h:s.heap.objs.size<=a):a∉X.fs:=λc=>by
 obtain⟨_,o,b,_⟩:=I.ok.funs.mem c;exact absurd (Z5 (ZI b)<|ZM I.sz h) (YI _)
def Inv.cne(I:.s):∀x c,X.env.cells.lookup x=some c->c≠X.env.locals:=λx c e z=>by
 obtain⟨v,o,d,b⟩:=.hV e;obtain⟨m,⟨h,g,f,a,hd',_⟩,_⟩:=I.loc;rw[z,a]at d;cases d;rw[hd']at b;cases b
def Inv.funs(I:.s):s.heap.FunFrames X.base X.outer:=by
 have a:∀(l:.dm),(∀b∈frs l,b∈X.fs)->X.s₀.heap.FunFrames X.base l->s.heap.FunFrames X.base l:=by
  intro l
  induction l with
  |nil=>intro _ _;trivial
  |cons env r n =>
   intro g p;obtain⟨m,⟨L,o,c,k,j,i⟩,h⟩:=p;have f:L∈X.fs:=g L (by unfold frs;rw[X3,c];exact ZV);obtain⟨q,e⟩:=I.base.slot L o j (I.ok.frf L f) f λz=>I.ok.exfs L z f;exact⟨m,⟨L,_,c,k,e,i⟩,n (λb d=>g b (by unfold frs;rw[X3,c];exact ZW _ d)) h⟩
 exact a X.outer (λ_ d=>d) I.ok.funs
def Inv.stack(I:.s):s.heap.FunFrames X.base X.stack:=by
 rcases I.ok.stk with e|⟨e,b⟩
 ·rw[e];exact I.funs
 ·rw[e]
  obtain⟨m,a,_⟩:=I.loc;refine .cons (by rw[I.ok.kind];decide) b a ?_ I.funs;exact Heap.get?_none_of_le (ZM I.ok.bsz I.ok.above)
def Inv.stkSub(I:.s):∀b∈frs X.stack,b∈X.env.locals::X.fs:=λb a=>by
 rcases I.ok.stk with e|⟨e,c⟩
 ·rw[e]at a;exact ZW _ a
 ·rw[e]at a
  unfold frs at a;rw[X3,c]at a;exact a
def Inv.stkFree(I:.s):∀b∈frs X.stack,H b=none:=λb a=>by
 rcases y4.mp (I.stkSub b a) with e|a
 ·rw[e];exact I.free
 ·obtain⟨_,o,c,_⟩:=I.ok.funs.mem a
  exact I.base.free b o c (I.ok.frf b a) λz=>I.ok.exfs b z a
def Inv.step{ch:.I}(I:.s)
  (g:.sX)
  (keep:∀b o,b≠X.env.locals->b∉X.fs->b∉ch->s.heap.get? b=some o->H b=none->h'.get? b=some o)
  (slot:∀b o,b≠X.env.locals->b∈X.fs->b∉ch->s.heap.get? b=some o->H b=none->∃F,h'.get? b=some { o with slots:=F }) (free:∀b o,b∉ch->s.heap.get? b=some o->H b=none->H' b=none)
  (there:∀b o,b∉ch->s.heap.get? b=some o->∃C,h'.get? b=some C)
  (tups:.AM) (frzs:∀b o u,H b=some .fW->H' b=some .fW) (tbls:∀b ps,H b=some (.tbl ps)->∃more,H' b=some (.tbl<|ps++more))
  (ns:∀m,s.heap.Ns X.env.locals m->h'.Ns X.env.locals m) (hok:.ti) (L:AllBare g') :
  Inv X pins σ H' .vQ:=by
 have B:∀b o,X.s₀.heap.get? b=some o->b≠X.env.locals:=λb o e=>ZN (Z5 (ZI e) I.ok.above);have t:∀b o,X.s₀.heap.get? b=some o->b∉X.ex->b∉ch:=λb o e a w=>by
  rcases (g b w).1 with z|z
  ·exact a z
  ·exact absurd (Z5 (ZI e) z) (YI _)
 have h:∀x c,X.env.cells.lookup x=some c->∀v,s.heap.IsCell c v->h'.IsCell c v:=λx c e v ⟨o,y,E⟩=>by
  have f:c∉ch:=λz=>(g c z).2.2.1 x c e rfl
  by_cases G:c∈X.fs
  ·obtain⟨F,q⟩:=slot c o (I.cne x c e) G f y .st
   exact⟨_,q,E⟩
  ·exact⟨o,keep c o (I.cne x c e) G f y .st,E⟩
 refine⟨I.ok,I.os,L,⟨λb o e n w a=>?_,λb o e n w a=>?_,λb o e n a=>?_,λb o e a=>?_,λb xs e=>tups b xs (I.base.tups b xs e),λb o xs e=>frzs b o xs (I.base.frzs b o xs e),λb ps e=>?_⟩,?_,λx c e=>?_,?_,λx c e=>?_,λp K=>?_,hok,I.len⟩
 ·exact keep b o (B b o e) w .nK (I.base.keep b o e n w a) .qV
 ·obtain⟨F,j⟩:=I.base.slot b o e n w a
  obtain⟨D,A⟩:=slot b _ (B b o e) w .nK j .qV;exact⟨D,A⟩
 ·obtain⟨C,j⟩:=.o7 a
  exact free b C .nK j .qV
 ·obtain⟨C,j⟩:=.o7 a
  exact there b C .nK j
 ·obtain⟨O,j⟩:=I.base.tbls b ps e
  obtain⟨Q,A⟩:=tbls b _ j;exact⟨O++Q,by rw[A,Array.append_assoc]⟩
 ·obtain⟨m,P,N⟩:=I.loc
  refine⟨m,ns m P,λi x v j A M=>?_⟩;obtain⟨u,r,l⟩:=N i x v j A M;refine⟨u,r,?_⟩;rcases l with l|⟨k,c,e,z⟩
  ·exact .inl l
  ·exact .inr ⟨k,c,e,h x c e _ z⟩
 ·obtain⟨v,z⟩:=.hV e
  exact⟨v,h x c e v z⟩
 ·obtain⟨m,⟨o,_,_,y,_⟩,_⟩:=I.loc
  exact free _ o (λz=>(g _ z).2.1 rfl) y I.free
 ·obtain⟨v,o,y,E⟩:=.hV e
  exact free c o (λz=>(g c z).2.2.1 x c e rfl) y .st
 ·obtain⟨e,n,ne,J,d⟩:=I.pin p K
  have f:p.1∉ch:=λz=>(g p.1 z).2.2.2 p K rfl;exact⟨keep p.1 p.2 ne J f e n,free p.1 p.2 f e n,ne,J,d⟩
def Inv.un(I:.s)(u:Un X.fs [] H H' s.heap h')(hok:.ti):.bH H' .fp:=by
 obtain⟨m,⟨o,q,p,g,r⟩,_⟩:=id I.loc;obtain⟨k,j⟩:=u.any g I.free .e;exact I.step (g':=s.gens) (d':=s.drawn) (ch:=[]) .rx (λb o _ c _ e n=>u.keep b o e n c .e) (λb o _ c _ e n=>u.slot b o e n c .e) (λb o _ e n=>u.free b o e n .e) (λb o _ e=>u.there b o e .e) u.tups u.frzs u.tbls (λl i=>by
  obtain⟨t,f,d,a,h⟩:=i;rw[g]at a;cases a;exact⟨_,f,d,j,h⟩) hok I.bare
def Inv.call{ch:.I}(I:.s)(u:Un (frs X.stack) ch H H' s.heap h')(hok:.ti)(k:AllBare g')
  (d:.sX) :
  Inv X pins σ H' .vQ:=by
 obtain⟨m,⟨o,A,y,j,r⟩,_⟩:=id I.loc;obtain⟨v,i⟩:=u.any j I.free λz=>(d _ z).2.1 rfl;exact I.step (ch:=ch) d (λb o i t a e n=>u.keep b o e n (λz=>(y4.mp<|I.stkSub b z).elim i t) a) (λb o _ _ a e n=>u.any e n a) (λb o a e n=>u.free b o e n a) (λb o a e=>u.there b o e a) u.tups u.frzs u.tbls (λw q=>by
  obtain⟨B,h,g,f,l⟩:=q;rw[j]at f;cases f;exact⟨_,h,g,i,l⟩) hok k
def Inv.turned(I:.s)(k:∀b o,b≠it->s.heap.get? b=some o->h'.get? b=some o)(hn:H it=none)(f:it≠X.env.locals)
  (h1:it∈X.ex\/X.s₀.heap.objs.size<=it) (h2:∀x c,X.env.cells.lookup x=some c->c≠it) (j:∀p∈X.pn++pins,p.1≠it):.bH H .fp:=by
 have d:∀b u,H b=some u->b≠it:=λb u e z=>by rw[z,hn]at e;cases e
 refine I.step (g':=s.gens) (d':=s.drawn) (ch:=[it]) (λb h=>?_) (λb o _ _ a e _=>k b o .sJ e) (λb o _ _ a e _=>⟨o.slots,k b o .sJ e⟩) (λ_ _ _ _ n=>n)
  (λb o a e=>⟨o,k b o .sJ e⟩) (λ_ _ e=>e) (λ_ _ _ e=>e) (λb w e=>⟨#[],by rw[e];simp⟩) (λm g=>?_) (λb u e=>?_) I.bare
 ·have e:b=it:=by simpa using h
  subst e;exact⟨h1,f,h2,j⟩
 ·obtain⟨o,t,i,l,r⟩:=g
  exact⟨o,t,i,k _ o (WQ f) l,r⟩
 ·refine (.nw).stay (λc v a q=>k c v ?_ q) .n0 λ_ _ q=>q
  rcases a with z|z
  ·rw[z];exact d b u e
  ·exact d c _ z
def Inv.tok(I:.s)(t:Nat):Inv X pins σ H { s with toks:=t }:=I.un (h':=s.heap) (t':=t) Un.refl I.hok
def Inv.kept(I:.s)(k:.AB):.bH H .fp:=I.un (Un.kept k) (I.hok.kept k)
def Inv.laid{a:Addr}(I:.s)(k:.AB)(hp:s.heap.objs.size<=a)(new:fO X.prog X.w .k6 h' a o):
  Inv X pins σ .k6 .fp:=I.un (Un.laid k hp<|I.hok.fresh hp) (I.hok.laid k hp new)
def Inv.write{x e:Addr}(I:.s)(c:Mut (H x))(he:.td)(k:∀b u,b≠e->s.heap.get? b=some u->h'.get? b=some u)(a:.te)
  (new:fO X.prog X.w (.az x o) h' x o):.bH (.az x o) .fp:=I.un (Un.write c he k a) (I.hok.write c he k a new)
def Inv.pins_of(I:.s)(h:∀p∈pins',s.heap.get? p.1=some p.2/\H p.1=none/\p.1≠X.env.locals/\p.1∉X.fs/\∀v,p.2.data ≠ .cell v):Inv X pins' σ H s :=
 ⟨I.ok,I.os,I.bare,I.base,I.loc,I.cell,I.free,I.freeC,λp a=>(Z0.mp a).elim (λz=>I.pin p (VZ _ z)) (h p),I.hok,I.len⟩
def A2{N:.af}(c:N.Nodup){i j:Nat}(a:N[i]?=some x)(b:N[j]?=some x):i=j:=by
 obtain⟨g,e⟩:=zS.mp a;obtain⟨f,d⟩:=zS.mp b;exact(List.getElem_inj c).mp (e.trans d.symm)
def rJ{M:Model}(I:.s)(hN:.gf)(hi:.dV)(hx:.f8)(r:cf v u)
  (h:∀s',Inv X pins .ni H s'->(∃a,Heap.SameBut a s.heap s'.heap/\(a=X.env.locals\/X.env.cells.lookup x=some a))->Q () s') (hf:autoParam (X.fn x=true\/X.env.scope.names.lookup x=some .local) Q0Q._auto_1):wpAny M A .z4 Q E s:=by
 obtain⟨m,Y,hl⟩:=id I.loc;have N:(X.env.scope.kind == .class||(X.env.scope.kind == .module&&X.env.locals != X.env.globals))=false:=by rw[I.ok.kind];rfl
 have D:i<σ.length:=by rw[I.len];exact(zS.mp hi).1
 have G:=I.cne;have l:∀{a:Addr} {h':Heap},(∃o,s.heap.get? a=some o/\H a=none)->Heap.SameBut a s.heap h'->.pd H h':=λ{a h'} ha f b ob e=>by
  obtain⟨_,_,w⟩:=ha;refine(I.hok b ob e).stay (λc R t q=>(f.2 c ?_).trans q) .n0 λ_ _ q=>q;rintro rfl;rcases t with rfl|t
  ·rw[w]at e;cases e
  ·rw[w]at t;cases t
 rcases hx with C|C
 ·refine wpAny_storeName_local C Y (λh' a0 f=>?_) N
  obtain⟨oL,_,_,U,_⟩:=id Y;refine h _ ⟨I.ok,I.os,I.bare,⟨λb o e n F hx=>?_,λb o e n F hx=>?_,I.base.free,λb o e hx=>?_,I.base.tups,I.base.frzs,I.base.tbls⟩,⟨_,a0,λj y v' g B T=>?_⟩,λy c e=>?_,I.free,I.freeC,λp hp=>?_,l ⟨oL,U,I.free⟩ f,by simpa using I.len⟩ ⟨_,f,.inl rfl⟩
  ·exact (.p6).trans .yw
  ·obtain⟨sl,g⟩:=I.base.slot b o e n F hx
   exact⟨sl,(.p6).trans g⟩
  ·obtain⟨o',g⟩:=.o7 hx
   exact⟨o',(.p6).trans g⟩
  ·by_cases J:j=i
   ·subst J
    rw[hi]at g;cases g;rw[Z1 D]at B;cases B;exact⟨u,r,.inl ⟨C,by simp⟩⟩
   ·rw[ZP (WQ J)]at B
    obtain⟨u',Z,q⟩:=hl j y v' g B T;refine⟨u',Z,?_⟩;rcases q with ⟨k,e⟩|⟨k,c,e,z⟩
    ·refine .inl ⟨k,?_⟩
     have:y≠x:=λe=>J (A2 hN g<|e▸hi);simp[this,e]
    ·exact .inr ⟨k,c,e,z.sameBut f (G y c e)⟩
  ·obtain⟨R,z⟩:=I.cell y c e
   exact⟨R,z.sameBut f (G y c e)⟩
  ·obtain⟨e,n,ne,W,d⟩:=I.pin p hp
   exact⟨(f.2 p.1 ne).trans e,n,ne,W,d⟩
 ·have K:X.fn x=true:=by
   rcases hf with z|z
   ·exact z
   ·rw[z]at C;cases C
  obtain⟨c,t⟩:=I.ok.has x (.inl C);obtain⟨R,z⟩:=.hV t;refine wpAny_storeName_cell I.ok.kind C t z (λh' L f=>?_);obtain⟨oc,P,O⟩:=id z;refine h .ci ⟨I.ok,I.os,I.bare,⟨λb o e n F hx=>?_,λb o e n F hx=>?_,I.base.free,λb o e hx=>?_,I.base.tups,I.base.frzs,I.base.tbls⟩,⟨m,Y.sameBut f (WQ<|G x c t),λj y v' g B T=>?_⟩,λy S e=>?_,I.free,I.freeC,λp hp=>?_,l ⟨oc,P,I.freeC x c t⟩ f,by simpa using I.len⟩ ⟨c,f,.inr t⟩
  ·exact (.pQ).trans .yw
  ·obtain⟨sl,g⟩:=I.base.slot b o e n F hx
   exact⟨sl,(.pQ).trans g⟩
  ·obtain⟨o',g⟩:=.o7 hx
   exact⟨o',(.pQ).trans g⟩
  ·by_cases J:j=i
   ·subst J
    rw[hi]at g;cases g;rw[Z1 D]at B;cases B;exact⟨u,r,.inr ⟨.inl C,c,t,L⟩⟩
   ·rw[ZP (WQ J)]at B
    obtain⟨u',Z,q⟩:=hl j y v' g B T;refine⟨u',Z,?_⟩;rcases q with q|⟨k,S,e,z'⟩
    ·exact .inl q
    ·refine .inr ⟨k,S,e,z'.sameBut f ?_⟩
     rintro rfl;exact J (A2 hN g<|I.ok.inj _ _ _ e t▸hi)
  ·by_cases hcc:S=c
   ·subst hcc;exact⟨_,L⟩
   ·obtain⟨w2,z2⟩:=I.cell y S e
    exact⟨w2,z2.sameBut f hcc⟩
  ·obtain⟨e,n,ne,W,d⟩:=I.pin p hp
   refine⟨(f.2 p.1 ?_).trans e,n,ne,W,d⟩;intro q;rw[q,P]at e;have q':oc=p.2:=ZT e;exact d R (by rw[<-q'];exact O)
def A3(I:.s)(b:.gf)(hi:.dV)(hx:.f8)(r:cf v u)
  (h:∀a,Inv X pins .ni H a->Q () a) (c:autoParam (X.fn x=true\/X.env.scope.names.lookup x=some .local) Q0Q._auto_1):wpAny M A .z4 Q E s :=
 rJ I b hi hx r (λa d _=>h a d) c
def Inv.call'(I:.s)(f:a.os=s.os)(u:Un (frs X.stack) ch H H' s.heap a.heap)(hok:.pd H' a.heap)(g:AllBare a.gens)
  (d:.sX):.bH H' a:=by
 obtain⟨h',g',d',t',h⟩:=a;have e:h=s.os:=f;subst e;exact I.call (g':=g') (t':=t') (d':=d') u hok g d
end
noncomputable abbrev XK:=S1->Option Addr->Hp->Prop
noncomputable abbrev St:=List (Option V)
noncomputable abbrev VK:=V->Hp->Prop
noncomputable abbrev TE:=St->Hp->VK->Prop
noncomputable abbrev TT:=St->Hp->(Bool->Hp->Prop)->Prop
noncomputable abbrev TA:=St->Hp->(List V->Hp->Prop)->Prop
structure vf where
 nx:St->Hp->Prop
 rt:VK
 bk:St->Hp->Prop:=λ_ _=>False
 ct:St->Hp->Prop:=λ_ _=>False
noncomputable abbrev TS:=vf->St->Hp->Prop
/---/def EP(X:Cx)(pins:.J)(σ:St)(Q:VK)(u:S1)(s':Q5):Prop:=∃v H',Inv X pins σ H' s'/\cf v u/\Q v H'
/---/def TP(X:Cx)(pins:.J)(σ:St)(Q:.oK)(b:Bool)(s':Q5):Prop:=∃H',Inv X pins σ H' s'/\Q b H'
/---/def AP(X:Cx)(pins:.J)(σ:St)(Q:List V->Hp->Prop)(us:List S1)(s':Q5):Prop:=∃vs H',Inv X pins σ H' s'/\aY vs us/\Q vs H'
/---/def SP(X:Cx)(pins:.J)(D:vf)(f:Flow)(s':Q5):Prop :=
 match f with
 |.next=>∃σ' H',Inv X pins σ' H' s'/\D.nx σ' H'
 |.brk=>∃σ' H',Inv X pins σ' H' s'/\D.bk σ' H'
 |.cont=>∃σ' H',Inv X pins σ' H' s'/\D.ct σ' H'
 |.ret u=>∃v σ' H',Inv X pins σ' H' s'/\cf v u/\D.rt v H'
/---/def PE(X:Cx)(e:Expr)(t:TE):Prop :=
 ∀(pins:.J) (s:Q5) (σ:St) (H:Hp) (Q:VK),Inv X pins σ H s->t σ H Q->.aS (.gs e) .cL X.xe s
/---/def PT(X:Cx)(e:Expr)(t:TT):Prop :=
 ∀(pins:.J) (s:Q5) (σ:St) (H:Hp) (Q:.oK),Inv X pins σ H s->t σ H Q->.aS (isTrue e X.env<|.gs e) .sa X.xe s
/---/def PW(X:Cx)(e:Expr)(t:TT):Prop :=
 ∀(whole:Sem S1) (pins:.J) (s:Q5) (σ:St) (H:Hp) (Q:.oK),Inv X pins σ H s->t σ H Q->.aS (isTrue e X.env whole) .sa X.xe s
def PW.pt(h:PW X e t):PT X e t:=h _
/---/def PA(X:Cx)(es:.a8)(t:TA):Prop :=
 ∀(pos:Pos) (pins:.J) (s:Q5) (σ:St) (H:Hp) (Q:List V->Hp->Prop),Inv X pins σ H s->t σ H Q->.aS (spliced .m8) (AP X pins σ Q) X.xe s
/---/def PS(X:Cx)(st:Stmt)(t:TS):Prop :=
 ∀(pins:.J) (s:Q5) (σ:St) (H:Hp) (D:vf),Inv X pins σ H s->t D σ H->.aS (exec st X.env) (SP X pins D) X.xe s
/---/def PSs(X:Cx)(st:.e8)(t:TS):Prop :=
 ∀(pins:.J) (s:Q5) (σ:St) (H:Hp) (D:vf),Inv X pins σ H s->t D σ H->.aS (execs st X.env) (SP X pins D) X.xe s
variable{s:Q5}
def thn{Q b:α->Q5->Prop}{M:Model}(h:wpAny M A t Q E s)(c:∀a s,Q a s->b a s):wpAny M A t b E s:=UE h c λ_ _ x=>x
variable{σ:St}{pins:.J}{pos:Pos}
section
variable{X:Cx}
def bin{a b:Expr}{j tb:TE}(ha:.w a j)(hb:.gg){R:V->V->Hp->Prop}(I:.s)(h:j σ H λx i=>tb σ i λy c=>R x y c){f:S1->S1->Sem α}
  (o:∀v u g x y c,Inv X pins σ c g->cf x v->cf y u->R x y c->wpAny .ag X.A (f v u) Q X.xe g) :
  wpAny .ag X.A (.gs a) (λv d=>.aS (.gs b) (λu e=>.aS (f v u) Q X.xe e) X.xe d) X.xe s:=by
 refine thn .dx λv n ⟨x,i,m,k,q1⟩=>?_;refine thn (hb pins n σ i _ m q1) λu g ⟨y,c,p,l,q2⟩=>?_;exact o v u g x y c p k l q2
/---/def Th(i:Nat):TE:=λσ H Q=>∃v,σ[i]?=some .ek/\Q v H
/---/def tC(v:V):TE:=λ_ H Q=>Q v H
def OW(g:.dV)(f:Vis X.env.scope x)(hd:autoParam (.bY=false) Q1Q._auto_1)(b:autoParam (.qi=false) Q1Q._auto_1):.w .fa (Th i):=by
 intro pins s σ H Q I h;obtain⟨v,e,h⟩:=h;obtain⟨m,j,n⟩:=I.loc;obtain⟨u,r,l⟩:=n i x v g e f;have fin:.fl u s:=⟨v,H,I,r,h⟩;rcases l with ⟨a,k⟩|⟨a,c,d,hcell⟩
 ·exact wpAny_Name (wpAny_loadName_local I.ok.kind a j k fin) hd
 ·rcases a with a|a
  ·exact wpAny_Name (wpAny_loadName_cell I.ok.kind a d hcell fin) hd
  ·exact wpAny_Name (wpAny_loadName_free I.ok.kind a d hcell fin b) hd
def Io{i j pos}:.w (.go .z) (tC .z):=λ_ _ _ H _ I h=>wpAny_Constant_int ⟨.int i,H,I.tok _,⟨_,rfl⟩,h⟩
def Ri{b j pos}:.w (.go<|.bool b) (tC .dJ):=λ_ _ _ H _ I h=>Constant_bool ⟨.bl b,H,I,rfl,h⟩
def OX{j pos}:.w (.go .none) (tC .non):=λ_ _ _ H _ I h=>Constant_none ⟨.non,H,I,rfl,h⟩
def OY{x j pos}:.w (.go<|.str x) (tC<|.str x):=λ_ _ _ H _ I h=>Calls.Constant_str ⟨.str x,H,I.tok _,⟨_,rfl⟩,h⟩
/---/def Gl(X:Cx)(x:Str):Prop:=X.env.kindOf x=some .globalImplicit
def E4(I:.s)(a:Gl X x)(hm:X.mg x=some u)(h:Q u s)
  (hd:autoParam (.bY=false) Q1Q._auto_1):wpAny .ag X.A .yq Q E s :=
 Calls.Name_function_global I.ok.kind a (Calls.loadGlobal_global .vV hm h) hd
def i4{Q:.q}(I:.s)(d:Gl X x)(hm:.jm)(a:bootBuiltins x=some u)(h:Q u s)
  (hn:autoParam (x≠"__name__") Q1Q._auto_1) (hd:autoParam (.bY=false) Q1Q._auto_1):.aS .yq Q E s:=by
 obtain⟨e,c,b⟩:=I.mod.blt;exact Calls.Name_function_global I.ok.kind d (Calls.loadGlobal_builtin .vV hm (by rw[I.ok.blt];exact c.keeps I.bk) ((b x hn).trans a) h) hd
def L6(a:Gl X x)(hm:X.mg x=some u)(r:cf v u)(hd:autoParam (.bY=false) Q1Q._auto_1):PE X .fa (tC v) :=
 λ_ _ _ H _ I h=>E4 I a hm ⟨v,H,I,r,h⟩ hd
def L7(a:Gl X x)(hm:.jm)(b:bootBuiltins x=some u)(r:cf v u)(hn:autoParam (x≠"__name__") Q1Q._auto_1)(hd:autoParam (.bY=false) Q1Q._auto_1):PE X .fa (tC v) :=
 λ_ _ _ H _ I h=>i4 I a hm b ⟨v,H,I,r,h⟩ hn hd
variable{a b:Expr}{ta tb:TE}{pos:Pos}
/---/def tB(t:TE):TT:=λσ H Q=>t σ H λx H1=>∃c,x=.bl c/\Q c H1
def OZ(h:.w e t)(he:autoParam (∀c,isTrue e X.env c=(do let v <-c;standAt e.pos;holding [v] (truthy v))) Q2Q._auto_1):PT X e (tB t):=by
 intro pins s σ H Q I j;refine isTrue_plain (thn (.c2 _ I j) λv k ⟨x,g,i,f,q1⟩=>?_) (he _);obtain⟨d,rfl,q⟩:=q1;cases f;exact WZ ⟨g,i,q⟩
variable{tA tB':TT}{rest:.a8}
/---/def kM(t u:TT):TT:=λσ H Q=>t σ H λc H1=>if c=true then u σ H1 Q else Q false H1
/---/def tOr(t u:TT):TT:=λσ H Q=>t σ H λc H1=>if c=true then Q true H1 else u σ H1 Q
/---/def gM(t:TT):TT:=λσ H Q=>t σ H λc H1=>Q (!c) H1
def L8(ha:PT X a tA):PW X (.tB [a]) tA:=by
 intro f pins s σ H Q I h;refine isTrue_and (thn .zI λc d e=>?_);cases c with
 |true=>exact isTrue_and_nil e
 |false=>exact e
def O0(ha:PT X a tA):PW X (.hO .Or [a]) tA:=by
 intro f pins s σ H Q I h;refine isTrue_or (thn .zI λc d e=>?_);cases c with
 |false=>exact isTrue_or_nil e
 |true=>exact e
def O4(ha:PT X a tA)(hb:PW X .o1 tB'):PW X .o2 (kM tA tB'):=by
 intro f pins s σ H Q I h;refine isTrue_and (thn .dx λc g ⟨d,e,q1⟩=>?_);cases c with
 |true=>exact hb f pins g σ d Q e q1
 |false=>exact⟨d,e,q1⟩
def Rj(ha:PT X a tA)(hb:PW X .oV tB'):PW X .oW (tOr tA tB'):=by
 intro f pins s σ H Q I h;refine isTrue_or (thn .dx λc g ⟨d,e,q1⟩=>?_);cases c with
 |true=>exact⟨d,e,q1⟩
 |false=>exact hb f pins g σ d Q e q1
def O6(ha:PT X a tA):PT X .oT (gM tA):=by
 intro pins s σ H Q I h;exact isTrue_not (ha pins s σ H (λc d=>Q (!c) d) I h)
/---/def Rk(ta tb:TE):TE:=λσ H Q=>ta σ H λx H1=>∃c,x=.bl c/\if c=true then tb σ H1 Q else Q .iH H1
/---/def Ti(ta tb:TE):TE:=λσ H Q=>ta σ H λx H1=>∃c,x=.bl c/\if c=true then Q .gF H1 else tb σ H1 Q
/---/def Rl(ta:TE):TE:=λσ H Q=>ta σ H λx H1=>∃c,x=.bl c/\Q (.bl<|!c) H1
def O7(h:.w a t):.w (.hO op [a]) t:=λpins s σ H Q I c=>BoolOp_one (.c2 Q I c)
def O8(ha:.dX)(hb:.w .o1 tb):.w .o2 (Rk ta tb):=by
 intro pins s σ H Q I h;refine BoolOp_and (thn .dx λv g ⟨x,d,e,f,q1⟩=>?_);obtain⟨c,rfl,q1⟩:=q1;cases f;refine WZ ?_;cases c with
 |true=>exact hb pins g σ d Q e q1
 |false=>exact⟨.bl false,d,e,rfl,q1⟩
def Rm(ha:.dX)(hb:.w .oV tb):.w .oW (Ti ta tb):=by
 intro pins s σ H Q I h;refine BoolOp_or (thn .dx λv g ⟨x,d,e,f,q1⟩=>?_);obtain⟨c,rfl,q1⟩:=q1;cases f;refine WZ ?_;cases c with
 |false=>exact hb pins g σ d Q e q1
 |true=>exact⟨.bl true,d,e,rfl,q1⟩
def O9(ha:.dX):.w .oT (Rl ta):=by
 intro pins s σ H Q I h;refine UnaryOp_ (thn .dx λv g ⟨x,e,f,d,q1⟩=>?_);obtain⟨c,rfl,q1⟩:=q1;cases d;exact not_of (WZ ⟨.bl (!c),e,f,rfl,q1⟩)
/---/def tIf(t:TT)(ta tb:TE):TE:=λσ H Q=>t σ H λc H1=>if c=true then ta σ H1 Q else tb σ H1 Q
def Ip(i:PT X c tA)(ha:.dX)(hb:.gg):.w (.IfExp c a b pos) (tIf tA ta tb):=by
 intro pins s σ H Q I h;refine wpAny_IfExp (thn (i pins s σ H _ I h) λd g ⟨e,f,q1⟩=>?_);cases d with
 |true=>exact ha pins g σ e Q f q1
 |false=>exact hb pins g σ e Q f q1
end
/---/def SqL(K:ZX)(H:Hp)(a:Addr)(xs:List V):Prop :=
 Rd H a .b5\/
  ∃(o:Obj) (its:.bw) (n:Nat),K.lookup a=some o/\o.cls=.type "list"/\o.dict=none/\o.data=.seq its n/\its.size<=sizeLine/\aY xs its.toList
/---/def SqT(K:ZX)(H:Hp)(a:Addr)(xs:List V):Prop :=
 Rd H a .cn\/
  ∃(o:Obj) (its:.bw) (n:Nat),K.lookup a=some o/\o.cls=.type "tuple"/\o.data=.seq its n/\its.size<=sizeLine/\aY xs its.toList
noncomputable def Tj:S1->Option V
 |.none=>some .non
 |.bool b=>some (.bl b)
 |.int i _=>some .cX
 |.str x _=>some (.str x)
 |.bytes b _=>some (.byt b)
 |.float b _=>some (.flt b)
 |.ref a=>some (.ref a)
 |.type n=>some (.ty n)
 |_=>none
def cf.abs{x:V}(r:cf x u):Tj u=some x:=by
 cases x with
 |non=>cases r;rfl
 |bl _=>cases r;rfl
 |int _=>obtain⟨t,rfl⟩:=r;rfl
 |str _=>obtain⟨t,rfl⟩:=r;rfl
 |byt _=>obtain⟨t,rfl⟩:=r;rfl
 |flt _=>obtain⟨t,rfl⟩:=r;rfl
 |ref _=>cases r;rfl
 |ty _=>cases r;rfl
def cf.inj{x y:V}(r:cf x u)(q:cf y u):x=y:=ZT (r.abs.symm.trans q.abs)
theorem aY.inj:∀{xs ys:List V} {a:List S1},aY xs a->aY ys a->xs=ys
 |_,_,_,.nil,.nil=>rfl
 |_,_,_,.cons r t,.cons b t'=>by rw[r.inj b,aY.inj t t']
section
variable{X:Cx}{pins:.J}{σ:St}{H:Hp}{s:Q5}{a:Addr}{xs ys:List V}
def SqL.of{K:ZX}(h:H a=some .b5):SqL K H a xs:=.inl .hQ
def SqT.of{K:ZX}(h:H a=some .cn):SqT K H a xs:=.inl .hQ
def Inv.list(I:.s)(h:SqL X.K H a xs):∃b:List S1,aY xs b/\PlainL s.heap a b.toArray/\xs.length<=sizeLine:=by
 rcases h with h|⟨o,b,n,g,d,c,f,i,r⟩
 ·obtain⟨z,b,n,r,e⟩:=h.ok I.hok
  exact⟨b,r,⟨_,n,e,rfl,rfl,rfl⟩,z⟩
 ·refine⟨b.toList,r,⟨o,n,I.kIn a o g,d,c,by simpa using f⟩,?_⟩
  have e:=r.length;dsimp[Y6]at e;lia
def Inv.tuple(I:.s)(h:SqT X.K H a xs):∃b:List S1,aY xs b/\IsTup s.heap a b.toArray/\xs.length<=sizeLine:=by
 rcases h with h|⟨o,b,n,f,c,d,g,r⟩
 ·obtain⟨z,b,r,p⟩:=h.ok I.hok
  exact⟨b,r,p,z⟩
 ·refine⟨b.toList,r,⟨o,I.kIn a o f,c,n,by simpa using d⟩,?_⟩
  have e:=r.length;dsimp[Y6]at e;lia
def Inv.list_inj(I:.s)(h:SqL X.K H a xs)(h':SqL X.K H a ys):xs=ys:=by
 obtain⟨c,r,⟨o,n,e,_,_,d⟩,_⟩:=I.list h;obtain⟨b,j,⟨l,k,g,_,_,f⟩,_⟩:=I.list h';rw[e]at g;cases g;rw[d]at f;injection f with i _
 have:c=b:=by simpa using congrArg Array.toList i
 subst this;exact r.inj j
def Inv.tuple_inj(I:.s)(h:SqT X.K H a xs)(h':SqT X.K H a ys):xs=ys:=by
 obtain⟨c,r,⟨o,e,_,n,d⟩,_⟩:=I.tuple h;obtain⟨b,j,⟨l,g,_,k,f⟩,_⟩:=I.tuple h';rw[e]at g;cases g;rw[d]at f;injection f with i _
 have:c=b:=by simpa using congrArg Array.toList i
 subst this;exact r.inj j
end
noncomputable abbrev Cx.wish(X:Cx)(E:.q):Cx:={ X with xe:=E }
noncomputable abbrev Cx.nox(X:Cx):Cx:=X.wish λ_ _=>False
def Cx.Ok.wish{X:Cx}(ok:X.Ok)(E:.q):(.lb).Ok :=
 ⟨ok.mod,ok.kind,ok.glob,ok.blt,ok.above,ok.inj,ok.has,ok.cab,ok.hd,ok.frames,ok.stk,ok.exf,ok.bs,ok.bsz,ok.noex,ok.exfs,ok.funs,ok.frf⟩
def Cx.Ok.unwish{X:Cx}(ok:(.lb).Ok):X.Ok :=
 ⟨ok.mod,ok.kind,ok.glob,ok.blt,ok.above,ok.inj,ok.has,ok.cab,ok.hd,ok.frames,ok.stk,ok.exf,ok.bs,ok.bsz,ok.noex,ok.exfs,ok.funs,ok.frf⟩
section
variable{X:Cx}{pins:.J}{σ:St}{H:Hp}{s:Q5}{E:.q}
def Inv.wish(I:.s)(E:.q):Inv .lb pins σ H s:=⟨I.ok.wish E,I.os,I.bare,I.base,I.loc,I.cell,I.free,I.freeC,I.pin,I.hok,I.len⟩
def Inv.unwish(I:Inv .lb pins σ H s):.bH H s:=⟨I.ok.unwish,I.os,I.bare,I.base,I.loc,I.cell,I.free,I.freeC,I.pin,I.hok,I.len⟩
def SP.unwish{D:vf}(h:SP .lb pins D f c):SP X pins D f c:=by
 cases f with
 |next=>obtain⟨a,b,I,q⟩:=h;exact⟨a,b,I.unwish,q⟩
 |brk=>obtain⟨a,b,I,q⟩:=h;exact⟨a,b,I.unwish,q⟩
 |cont=>obtain⟨a,b,I,q⟩:=h;exact⟨a,b,I.unwish,q⟩
 |ret u=>obtain⟨v,a,b,I,r,q⟩:=h;exact⟨v,a,b,I.unwish,r,q⟩
def PSs.nox{st:.e8}(h:PSs X.nox st t):PSs X st t:=λpins s σ H D I a =>
 UE (.c2 D (I.wish _) a) (λ_ _ q=>q.unwish) λ_ _ z=>False.elim z
end
section
variable{X:Cx}{st:Stmt}{rest:.e8}{t u:TS}{e:Expr}{te:TE}{pos:Pos}
/---/def Ro:TS:=λD σ H=>D.nx σ H
/---/def Tk(t u:TS):TS:=λD σ H=>t { D with nx:=u D } σ H
def L9:PSs X [] Ro:=λ_ _ σ H _ I h=>wpAny_execs_nil ⟨σ,H,I,h⟩
def Iq(h1:PS X st t)(h2:PSs X rest u):PSs X (st::rest) (Tk t u):=by
 intro pins s σ H D I h;refine wpAny_execs_cons (thn (h1 pins s σ H { D with nx:=u D } I h) λf c q=>?_);cases f with
 |next =>
  obtain⟨a,b,d,q⟩:=q;exact h2 pins c a b D d q
 |ret v=>exact q
 |brk=>exact q
 |cont=>exact q
def Ma(h1:PS X st t):PSs X [st] t:=by
 intro pins s σ H D I h;refine wpAny_execs_cons (thn (h1 pins s σ H D I h) λf a q=>?_);cases f with
 |next=>exact wpAny_execs_nil q
 |ret v=>exact q
 |brk=>exact q
 |cont=>exact q
/---/def Rp:TS:=λD σ H=>D.ct σ H
def A4:PS X (.Continue pos) Rp:=λ_ _ σ H _ I h=>wpAny_Continue ⟨σ,H,I,h⟩
def Inv.quiet(I:.s):interactive X.env=false:=by simp[interactive,I.ok.kind]
/---/def Rq(te:TE):TS:=λD σ H=>te σ H λ_ H1=>D.nx σ H1
def Mb(he:.w e te)(c:autoParam (swapsWith e none pos.line X.env=pure false) Q3Q._auto_1):PS X (.Expr e pos) (Rq te):=by
 intro pins s σ H D I h;exact wpAny_Expr_any (thn .ki λv f ⟨x,a,b,d,q1⟩=>⟨σ,a,b,q1⟩) I.quiet c
/---/def Tl(te:TE):TS:=λD σ H=>te σ H D.rt
def Pa(he:.w e te):PS X (.Return (some e) pos) (Tl te):=by
 intro pins s σ H D I h;exact wpAny_Return_some (thn .ki λv d ⟨x,b,c,a,q1⟩=>⟨x,σ,b,c,a,q1⟩)
/---/def Tn(c:TT)(t u:TS):TS:=λD σ H=>c σ H λb H1=>if b=true then t D σ H1 else u D σ H1
def Rr{a b:.e8}(k:PT X c g)(ha:PSs X a t)(hb:PSs X b u):PS X (.If c a b pos) (Tn g t u):=by
 intro pins s σ H D I h;refine wpAny_If (thn (k pins s σ H _ I h) λd j ⟨f,i,q1⟩=>?_);cases d with
 |true=>exact ha pins j σ f D i q1
 |false=>exact hb pins j σ f D i q1
/---/def Pb:TS:=λ_ _ _=>False
def Ir:PS X st Pb:=λ_ _ _ _ _ _ h=>h.elim
end
noncomputable abbrev TG:=V->St->Hp->(St->Hp->Prop)->Prop
noncomputable abbrev TGs:=List V->St->Hp->(St->Hp->Prop)->Prop
/---/def PG(X:Cx)(target:Expr)(t:TG):Prop :=
 ∀(pins:.J) (s:Q5) (σ:St) (H:Hp) (v:V) (u:S1) (Q:St->Hp->Prop),Inv X pins σ H s->cf v u->t v σ H Q->
  wpAny .ag X.A (assign target X.env u) (λ_ s'=>∃σ' H',Inv X pins σ' H' s'/\Q σ' H') X.xe s
/---/def PGs(X:Cx)(ts:.a8)(t:TGs):Prop :=
 ∀(pins:.J) (s:Q5) (σ:St) (H:Hp) (vs:List V) (us:List S1) (Q:St->Hp->Prop),Inv X pins σ H s->aY vs us->t vs σ H Q->
  wpAny .ag X.A (assignInOrder ((.lG ts).map (·.2)) us) (λ_ s'=>∃σ' H',Inv X pins σ' H' s'/\Q σ' H') X.xe s
noncomputable abbrev Pc:=V->V->V->Hp->(Hp->Prop)->Prop
/---/def Pd(X:Cx)(t:Pc):Prop :=
 ∀(pins:.J) (s:Q5) (σ:St) (H:Hp) (o i v:V) (ov iv u:S1) (Q:Hp->Prop),Inv X pins σ H s->cf o ov->cf i iv->cf v u->t o i v H Q->
  wpAny .ag X.A (setItem ov iv u) (λ_ s'=>∃H',Inv X pins σ H' s'/\Q H') X.xe s
section
variable{X:Cx}{pos:Pos}
/---/def Om(i:Nat):TG:=λv σ H Q=>Q .ni H
def Mc(a:.gf)(hi:.dV)(hx:.f8)(b:autoParam (X.fn x=true\/X.env.scope.names.lookup x=some .local) Q0Q._auto_1):PG X .fa (Om i):=by
 intro pins s σ H v u Q I r h;exact wpAny_assign_Name (A3 I a hi hx r (λd c=>⟨_,H,c,h⟩) b)
/---/def To:TGs:=λvs σ H Q=>vs=[]/\Q σ H
/---/def Rs(t:TG)(u:TGs):TGs:=λvs σ H Q=>∃v r,vs=v::r/\t v σ H λσ' H'=>u r σ' H' Q
def Me:PGs X [] To:=by
 intro pins s σ H a b Q I r h;obtain⟨e,h⟩:=h;subst e;cases r;exact assignInOrder_nil ⟨σ,H,I,h⟩
def Iu{u:TGs}(h1:PG X e t)(h2:PGs X a u)
  (j:autoParam ((.yQ).map (·.2)=assign e X.env::(.mI).map (·.2)) Q3Q._auto_1):PGs X (e::a) (Rs t u):=by
 intro pins s σ H m k Q I r h;obtain⟨v,l,c,h⟩:=h;subst c;cases r with
 |cons r f =>
  rw[j];refine assignInOrder_cons (thn (h1 pins s σ H _ _ _ I r h) λ_ i ⟨b,d,g,q1⟩=>?_);exact h2 pins i b d _ _ Q g f q1
/---/def Tp(K:ZX)(n:Nat)(t:TGs):TG:=λv σ H Q=>∃a xs,v=.ref a/\SqT K H a xs/\xs.length=n/\t xs σ H Q
def Pe{k:Nat}(g:.aJ)(h:PGs X c t)
  (hn:autoParam ((.lG c).length=n) Q3Q._auto_1) (d:autoParam ((.lG c).findIdx? (·.1)=none) Q3Q._auto_1):PG X (.Tuple c k pos) (Tp X.K n t):=by
 intro pins s σ H v u Q I r f;obtain⟨a,x,p,i,y,f⟩:=f;subst p;cases r;obtain⟨m,rv,j,z⟩:=I.tuple i;refine assign_Tuple_tuple (I.ok.hd g) j (by simp[hn,<-y,rv.length]) d λl w=>?_;have q:.bH H .ru:=I.kept (t':=s.toks) λb o e=>w b o (ZN<|ZI e) e;exact h pins _ σ H x _ Q q (by simpa using rv) f
/---/def Tq(to ti:TE)(t:Pc):TG:=λv σ H Q=>to σ H λo H1=>ti σ H1 λi H2=>t o i v H2 λH3=>Q σ H3
def Dq(g:.w o to)(hi:.w i ti)(f:Pd X t)
  (ha:autoParam (∀v,assign (.dZ o i) X.env v=(do
   let ov <-holding [v] .db
   let a <-holding [v,ov] .nq
   standAt pos
   holding [v,ov,a] (setItem ov a v)
   release [v,ov,a] [])) Q2Q._auto_1):PG X (.dZ o i) (Tq to ti t):=by
 intro pins s σ H v u Q I r h;rw[ha];refine z0 (WE (thn (g pins s σ H _ I h) λov l ⟨x,j,k,b,q1⟩=>?_));refine z0 (WE (thn (hi pins l σ j _ k q1) λa c ⟨y,n,p,d,q2⟩=>?_));refine z0 (wz (z0 (WE (thn (f pins c σ n x y v ov a u _ p b d r q2) λ_ q ⟨m,e,q3⟩=>?_))));exact wpAny_release ⟨σ,m,e,q3⟩
/---/def Rt(te:TE)(g:TG):TS:=λD σ H=>te σ H λx H1=>g x σ H1 D.nx
def Dr(he:.w e a)(i:PG X tg g)(k:autoParam (swapsWithSole [tg] e pos.line X.env=pure false) Q3Q._auto_1)(j:autoParam (swappedStores [tg] e X.env=pure none) Q3Q._auto_1)
  (h1:autoParam ((.lG [tg]).map (·.2)=[assign tg X.env]) Q3Q._auto_1):PS X (.lF [tg]) (Rt a g):=by
 intro pins s σ H D I h;refine wpAny_Assign_stores (thn .ki λv f ⟨x,c,d,b,q1⟩=>?_) k j;rw[h1];exact thn (i pins f σ c x v _ d b q1) λ_ l q=>q
def Pf{b:TE}(f:.gf)(hi:.dV)(hx:.f8)(he:.w e b)(d:autoParam (.tE X.env=pure false) Q3Q._auto_1)(k:autoParam (X.fn x=true\/X.env.scope.names.lookup x=some .local) Q0Q._auto_1):
  PS X .tz (Rt b<|Om i):=by
 intro pins s σ H D I h;refine wpAny_Assign_Name (thn .ki λv n ⟨y,g,j,c,q1⟩=>?_) d;exact A3 j f hi hx c (λm l=>⟨_,g,l,q1⟩) k
end
section
variable{X:Cx}{pos:Pos}
/---/def Pg(c:TT)(tb:TS):TS:=λD σ H=>∃W:Nat->St->Hp->Prop,(∃m,W m σ H)/\∀m σ H,W m σ H->
 c σ H λb H1=>if b=true then ∃N:St->Hp->Prop,(∀σ' H',N σ' H'->∃m',m'<m/\W m' σ' H')/\tb .xk σ H1 else D.nx σ H1
def Iv{tb:TS}(hp:.ll)(x:PT X c t)(hb:PSs X e tb):PS X (.While c e [] pos) (Pg t tb):=by
 intro pins s σ H D I h;obtain⟨W,⟨B,z⟩,turn⟩:=h;refine wpAny_While (codeAny_whileLoop (λn A=>∃g p,Inv X pins g p A/\W n g p) ?_ B ⟨σ,H,I,z⟩);rintro n F ⟨d,r,E,C⟩;refine VW hp (thn (x pins F d r _ E<|turn n d r C) λb y ⟨u,w,q2⟩=>?_);cases b with
 |true =>
  obtain⟨N,q,q2⟩:=q2;rw[z4 rfl];refine VW hp (thn (hb pins y d u _ w q2) λf G q3=>?_);cases f with
  |next =>
   obtain⟨a,i,k,j⟩:=q3;obtain⟨m,l,o⟩:=q a i j;exact⟨m,l,a,i,k,o⟩
  |cont =>
   obtain⟨a,i,k,j⟩:=q3;obtain⟨m,l,o⟩:=q a i j;exact⟨m,l,a,i,k,o⟩
  |brk=>exact q3
  |ret v=>exact q3
 |false =>
  rw[yD Z7];exact wpAny_execs_nil ⟨d,u,w,q2⟩
end
structure It where
 go:Nat->Hp->Prop
 yld:Nat->Hp->V->Hp->Prop
 stop:Nat->Hp->Prop
/---/def vg(X:Cx)(pins:.J)(H:Hp)(b:Addr):Prop :=
 H b=none/\b≠X.env.locals/\b∉X.fs/\.tW/\(∀x c,X.env.cells.lookup x=some c->c≠b)/\∀p∈X.pn++pins,p.1≠b
def Inv.fpOk(I:.s)(hb:s.heap.objs.size<=b)(hn:a b=none):vg X pins a b:=by
 refine⟨hn,YN (Z5 I.lt hb),I.nofs hb,.inr (ZM I.sz hb),λx c e z=>?_,λp d z=>?_⟩
 ·obtain⟨v,q⟩:=.hV e
  exact absurd (Z5 q.lt (by rw[z];exact hb)) (YI _)
 ·exact absurd (Z5 (ZI (I.pin p d).1) (by rw[z];exact hb)) (YI _)
structure Dt(P:P2)(w:N3)(K:ZX)(tg:Expr)(J:It)(fp:.I)(it:Addr)(tn:Nat->Heap->Prop):Prop where
 mem:it∈fp
 obj:∀i h,tn i h->∀b∈fp,∃o,h.get? b=some o/\∀v,o.data ≠ .cell v
 keep:∀i h h',tn i h->(∀b∈fp,∀o,h.get? b=some o->h'.get? b=some o)->tn i h'
 item:∀(X:Cx),X.prog=P->X.w=w->X.K=K->X.calm=true->∀(i:Nat) (pins:.J) (s:Q5) (σ:St) (H:Hp) (E:.q),Inv X pins σ H s->(∀b∈fp,vg X pins H b)->tn i s.heap->J.go i H->
  wpAny .eY X.A (pyNext .eX) (λr s1=>∃u,r=some u/\
   wpAny .eY X.A .x2 (λ_ s2=>∃x H',Inv X pins σ H' s2/\cf x u/\J.yld i H x H'/\tn (i+1) s2.heap/\∀b∈fp,H' b=none) E s1) E s
 done:∀(X:Cx),X.prog=P->X.w=w->X.K=K->X.calm=true->∀(i:Nat) (pins:.J) (s:Q5) (σ:St) (H:Hp) (E:.q),Inv X pins σ H s->(∀b∈fp,vg X pins H b)->tn i s.heap->J.stop i H->
  wpAny .eY X.A (pyNext .eX) (λr s1=>r=none/\.bH H s1) E s
 self:∀(A:P1) (i:Nat) (s:Q5) (Q:.q) (E:.q),tn i s.heap->Q .eX s->wpAny .eY A (pyIter .eX) Q E s
noncomputable abbrev TI:=St->Hp->(It->Hp->Prop)->Prop
/---/def PIE(X:Cx)(pins:.J)(σ:St)(tg:Expr)(R:.lz)(itv:S1)(s2:Q5):Prop :=
 ∃(it:Addr) (fp:.I) (tn:Nat->Heap->Prop) (J:It) (H':Hp),itv=.ref it/\Inv X pins σ H' s2/\Dt X.prog X.w X.K tg J fp it tn/\tn 0 s2.heap/\(∀b∈fp,vg X pins H' b)/\R J H'
/---/def PI(X:Cx)(tg iter:Expr)(wi:TI):Prop :=
 ∀(pins:.J) (s:Q5) (σ:St) (H:Hp) (R:.lz),Inv X pins σ H s->wi σ H R->
  wpAny .ag X.A (.gs iter) (λv s1=>.aS (pyIter v) (PIE X pins σ tg R) X.xe s1) X.xe s
def qd{M:Model}{tg:Expr}{it:Addr}{o:Obj}{n:String}{vs:.bw}{Q:Unit->Q5->Prop}(c:s.heap.get? it=some o)(b:o.cls=.type n)(hd:o.data=.fields vs)
  (hn:["enumerate","zip","dict_itemiterator","dict_reverseitemiterator","odict_iterator","itertools.zip_longest","itertools.pairwise"].contains n=false) (a:Q () s):wpAny M A .x2 Q E s:=by
 unfold letOwnedTupleGo;cases tg<;>first
  |exact wX a
  | (cases u<;>first
    |exact wX a
    | (refine z0 (wpAny_load c ?_)
       rw[b,hd];show wpAny M A (if (["enumerate","zip","dict_itemiterator","dict_reverseitemiterator","odict_iterator","itertools.zip_longest","itertools.pairwise"].contains n&&vs[0]? == some (rawInt _))=true then _ else _) Q E s;rw[yD (by intro h;rw[hn,Bool.false_and]at h;cases h)];exact wX a))
/---/def Itl(K:ZX)(a:Addr):It :=
 ⟨λi H=>∃xs x,SqL K H a xs/\xs[i]?=some x,λi H x H'=>H'=H/\∀xs,SqL K H a xs->xs[i]?=some x,λi H=>∃xs,SqL K H a xs/\xs.length<=i⟩
/---/def Itt(K:ZX)(a:Addr):It :=
 ⟨λi H=>∃xs x,SqT K H a xs/\xs[i]?=some x,λi H x H'=>H'=H/\∀xs,SqT K H a xs->xs[i]?=some x,λi H=>∃xs,SqT K H a xs/\xs.length<=i⟩
/---/def Itr(lo:Int)(n:Nat):It:=⟨λi _=>i<n,λi H x H'=>H'=H/\x=.int (lo+i),λi _=>n<=i⟩
theorem Gq{K:ZX}(a it:Addr):Dt P w K tg (Itl K a) [it] it (λi h=>h.IsListIter it a i) where
 mem:=by simp
 obj:=λi h f b g=>by
  have e:b=it:=by simpa using g
  subst e;obtain⟨o,e,c,d⟩:=f;exact⟨o,e,λv z=>by rw[d]at z;cases z⟩
 keep:=λi h l f k=>f.at λo e=>k it .e o e
 item:=by
  intro X A J B L i pins s σ H E I n f r;subst A J B;obtain⟨S,x,m,G⟩:=r;obtain⟨D,rv,p,U⟩:=I.list m;obtain⟨u,Q,T⟩:=rv.get G;obtain⟨y,q,N,C,F,t⟩:=n it .e;refine wpAny_pyNext_list_item f p.isList (x:=u) (by simpa using Q) λl j O=>?_;have R:.bH H .ru:=I.turned (t':=s.toks) .xt y q C F t;obtain⟨o,e,c,d⟩:=id j;exact⟨u,rfl,qd (s:=.ru) e c d .c ⟨x,H,R,T,⟨rfl,λY V=>by rw[I.list_inj V m];exact G⟩,j,λb g=>(n b g).1⟩⟩
 done:=by
  intro X A J B L i pins s σ H E I n f r;subst A J B;obtain⟨S,m,G⟩:=r;obtain⟨D,rv,p,U⟩:=I.list m;obtain⟨y,q,N,C,F,t⟩:=n it .e;have W:=rv.length;exact wpAny_pyNext_list_end (I.ok.hd L) f p.isList .Q λl M=>⟨rfl,I.turned (t':=s.toks) .zx y q C F t⟩
 self:=λ_ _ _ _ _ f h=>wpAny_pyIter_listiter f h
theorem Du{K:ZX}(a it:Addr):Dt P w K tg (Itt K a) [it] it (λi h=>h.IsTupleIter it a i) where
 mem:=by simp
 obj:=λi h f b g=>by
  have e:b=it:=by simpa using g
  subst e;obtain⟨o,e,c,d⟩:=f;exact⟨o,e,λv z=>by rw[d]at z;cases z⟩
 keep:=λi h m f k=>f.at λo e=>k it .e o e
 item:=by
  intro X B J C L i pins s σ H E I q f t;subst B J C;obtain⟨S,x,n,G⟩:=t;obtain⟨j,rv,p,U⟩:=I.tuple n;obtain⟨u,Q,T⟩:=rv.get G;obtain⟨A,r,N,D,F,y⟩:=q it .e;refine wpAny_pyNext_tuple_item f (show s.heap.IsTuple a j.toArray from p) (x:=u) (by simpa using Q) λm l O=>?_;have R:Inv X pins σ H { s with heap:=m }:=I.turned (t':=s.toks) .xt A r D F y;obtain⟨o,e,c,d⟩:=id l;exact⟨u,rfl,qd (s:={ s with heap:=m }) e c d .c ⟨x,H,R,T,⟨rfl,λY V=>by rw[I.tuple_inj V n];exact G⟩,l,λb g=>(q b g).1⟩⟩
 done:=by
  intro X B J C L i pins s σ H E I q f t;subst B J C;obtain⟨S,n,G⟩:=t;obtain⟨j,rv,p,U⟩:=I.tuple n;obtain⟨A,r,N,D,F,y⟩:=q it .e;have W:=rv.length;exact wpAny_pyNext_tuple_end (I.ok.hd L) f (show s.heap.IsTuple a j.toArray from p) .Q λm M=>⟨rfl,I.turned (t':=s.toks) .zx A r D F y⟩
 self:=λ_ _ _ _ _ f h=>wpAny_pyIter_tupleiter f h
theorem Dv{K:ZX}(it:Addr)(lo:Int)(n:Nat):Dt P w K tg (Itr lo n) [it] it (λi h=>IsRangeIter h it (lo+(i:Nat)*1) ((n:Int)-(i:Nat)) 1) where
 mem:=by simp
 obj:=λi h a b c=>by
  have e:b=it:=by simpa using c
  subst e;exact⟨_,a,λv z=>by
   have D:Data.fields _=Data.cell v:=z;cases D⟩
 keep:=λi h f a k=>k it .e _ a
 item:=by
  intro X j A m l i pins s σ H E I g a r;subst j A m;obtain⟨x,q,G,p,y,u⟩:=g it .e;have W:=Walks.range (prog:=X.prog) (w:=X.w) (I.ok.hd l) it lo 1 n;refine W.item i s _ _ r a λv f B F d J=>?_;obtain⟨t,rfl⟩:=F;have L:.bH H .yl:=I.turned (λb o c e=>J b o .aH e) x q p y u;refine⟨_,rfl,qd (s:=.yl) (n := "range_iterator") d rfl rfl .c ⟨.int (lo+i),H,L,⟨t,?_⟩,⟨rfl,rfl⟩,d,λb c=>(g b c).1⟩⟩;rw[Int.mul_one]
 done:=by
  intro X j A m l i pins s σ H E I g a r;subst j A m;obtain⟨x,q,G,p,y,u⟩:=g it .e;exact wpAny_pyNext_range_end (I.ok.hd l) a (by have:n<=i:=r;lia) λf C=>⟨rfl,I.turned (t':=s.toks) (λb o c e=>C b o c e) x q p y u⟩
 self:=λ_ _ _ _ _ a h=>wpAny_pyIter_rangeiter a h
section
variable{X:Cx}{tg:Expr}
def A5{lo hi:Int}{t u v:Tok}{tk:Nat}(I:.s)(h1 : -(2^62)<=lo)(h2:lo<2^62)(g : -(2^62)<=hi)(d:hi<2^62)
  (q:R (Itr lo (hi-lo).toNat) H):.aS (pyIter .gN) (PIE X pins σ tg R) E .tT:=by
 refine wpAny_pyIter_range (IsRange.new ..) (small_one h1 h2 g d) ?_;have a:.bH H .tT:=I.kept λb o e=>.R e;refine⟨(.pr).objs.size,[(.pr).objs.size],_,_,H,rfl,
  a.kept (t':=tk) λb o e=>.R e,Dv _ lo (hi-lo).toNat,?_,λb f=>?_,q⟩
 ·have h:lo+((0:Nat):Int)*1=lo:=by simp
  have c:(((hi-lo).toNat:Nat):Int)-((0:Nat):Int)=Builtin.Range.rangeSize lo hi 1:=by rw[rangeSize_one];split<;>lia
  show IsRangeIter _ _ (lo+((0:Nat):Int)*1) ((((hi-lo).toNat:Nat):Int)-((0:Nat):Int)) 1;rw[h,c];exact ZJ _ rfl
 ·have e:b=(.pr).objs.size:=by simpa using f
  subst e;exact a.fpOk .r (a.hok.fresh .r)
/---/def Ru(ta:TA):TI:=λσ H R=>ta σ H λvs H1=>∃j:Int,vs=[.int j]/\-(2^62)<=j/\j<2^62/\R (Itr 0 j.toNat) H1
/---/def Rv(ta:TA):TI:=λσ H R=>ta σ H λvs H1=>∃i j:Int,vs=.sh/\(-(2^62)<=i/\i<2^62/\-(2^62)<=j/\j<2^62)/\R (Itr i (j-i).toNat) H1
def Gr{b:TA}(d:.lA)(hm:.lq)(ha:PA X [a] b)(f:autoParam (.bq X.env=.ij) Q3Q._auto_1):PI X tg (.es .oX) (Ru b):=by
 intro pins s σ H R I h;refine Call_ (i4 I d hm boot_range (XF (thn .j4 λk n ⟨m,l,g,c,q1⟩=>?_) f rfl));obtain⟨j,e,q1,q2,q⟩:=q1;subst e;cases c with
 |cons r i =>
  cases i;obtain⟨t,rfl⟩:=r;exact call_range_1 (A5 g .a .a q1 q2 (by simpa using q))
def Gs{a b:Expr}{p:Pos}(k:.lA)(hm:.lq)(ha:PA X [a,b] f)(m:autoParam (.jD X.env=.l7) Q3Q._auto_1)(c:autoParam (.jF X.env=.mw) Q3Q._auto_1):
  PI X tg (.jw .oX) (Rv f):=by
 intro pins s σ H R I h;refine Call_ (i4 I k hm boot_range (XF (thn .j4 λu x ⟨w,v,o,g,q1⟩=>?_) (by rw[m,c]) (by rw[c];rfl)));obtain⟨i,j,e,⟨q1,q2,q3,n⟩,q⟩:=q1;subst e;cases g with
 |cons r d =>
  cases d with
  |cons l d =>
   cases d;obtain⟨t,rfl⟩:=r;obtain⟨y,rfl⟩:=l;exact call_range_2 (A5 o q1 q2 q3 n q)
/---/def Tr(wi:TI)(g:TG)(tb:TS):TS:=λD σ H=>wi σ H λJ H1=>∃W:Nat->Nat->St->Hp->Prop,(∃m,W 0 m σ H1)/\∀i m σ H,W i m σ H->
 (J.stop i H/\D.nx σ H)\/(J.go i H/\∃N:St->Hp->Prop,(∀σ' H',N σ' H'->∃m',m'<m/\W (i+1) m' σ' H')/\∀x H',J.yld i H x H'->g x σ H' λσ2 H2=>tb .xk σ2 H2)
/---/def vh(fp:.I)(h:Heap):List .ex:=fp.filterMap λb=>(h.get? b).map λo=>(b,o)
def lN(hb:b∈a)(e:h.get? b=some o):(b,o)∈vh a h:=WS.mpr ⟨b,hb,by rw[e];rfl⟩
def Gu(hp:p∈vh a h):p.1∈a/\h.get? p.1=some p.2:=by
 obtain⟨b,d,e⟩:=WS.mp hp;cases q:h.get? b with
 |none=>rw[q]at e;cases e
 |some o =>
  rw[q]at e;have c:(b,o)=p:=ZT e;subst c;exact⟨d,q⟩
def Inv.pinned(I:.s)(l:∀b∈a,vg X pins H b)(h:∀b∈a,∃o,s.heap.get? b=some o/\∀v,o.data ≠ .cell v):Inv X (pins++vh a s.heap) σ H s :=
 I.pins_of λp i=>(Z0.mp i).elim (λz=>I.pin p (YS _ z)) λz=>by
  obtain⟨f,e⟩:=Gu z;obtain⟨j,k,g,_⟩:=l p.1 f;obtain⟨o,c,d⟩:=h p.1 f;rw[e]at c;cases c;exact⟨e,j,k,g,d⟩
def Inv.unpinned(I:Inv X (pins++pl) σ H s):.bH H s:=I.pins_of λp a=>I.pin p (YS _<|VZ _ a)
def Iw{tb:TS}(hp:.ll)(S:.aJ)(hi:PI X tg l Y)(hg:PG X tg g)(hb:PSs X z tb)
  (hs:autoParam (∀x,foldedSetIterable l X.env x=pure x) Q2Q._auto_1):PS X (.For tg l z [] pos) (Tr Y g tb):=by
 intro pins s σ H D I h;refine wpAny_For (thn (hi pins s σ H _ I h) λv s1 h1=>thn h1 λa0 s2 h2=>?_) hs;obtain⟨it,C,V,J,H2,e,I2,T,L,U,W,⟨m0,w0⟩,turn⟩:=h2;subst e;have j:∀{w:Hp},(∀b∈C,w b=none)->∀b∈C,vg X pins w b:=λhn b hb=>⟨hn b hb,(U b hb).2⟩;refine codeAny_forLoop_any (λn s'=>∃i c w,Inv X pins c w s'/\V i s'.heap/\(∀b∈C,w b=none)/\W i n c w) ?_ m0 ⟨0,σ,H2,I2,L,λb hb=>(U b hb).1,w0⟩;rintro n s3 ⟨i,t,G,I3,E,B,w3⟩;rcases turn i n t G w3 with ⟨stop,qn⟩|⟨go,N,hN,step⟩
 ·refine VW hp (thn (T.done X rfl rfl rfl S i pins s3 t G X.xe I3 (j B) E stop) λr s4 ⟨P,I4⟩=>?_)
  subst P;exact wpAny_execs_nil ⟨t,G,I4,qn⟩
 ·refine VW hp (thn (T.item X rfl rfl rfl S i pins s3 t G X.xe I3 (j B) E go) λr s4 ⟨u,P,h4⟩=>?_)
  subst P;refine VW hp (thn h4 λ_ R zz=>?_);obtain⟨x,Z,I5,r5,y5,A,M⟩:=zz;have O:=I5.pinned (j M) (T.obj _ _ A);refine VW hp (thn (hg _ R t Z x u _ O r5<|step x Z y5) λ_ s6 ⟨Q,H6,I6,q6⟩=>?_);refine VW hp (thn (hb _ s6 Q H6 _ I6 q6) λf K y=>?_);have p:∀{a:St} {q:Hp},Inv X (pins++vh C R.heap) a q K->N a q->∃m,m<n/\∃i c w,Inv X pins c w K/\V i K.heap/\(∀b∈C,w b=none)/\W i m c w:=λ{a q} k F=>by
   obtain⟨m',hm,w7⟩:=hN a q F;refine⟨m',hm,i+1,a,q,k.unpinned,T.keep _ _ _ A λb hb o e=>(.wE).1,λb hb=>?_,w7⟩;obtain⟨o,e,d⟩:=T.obj _ _ A b hb;exact (.wE).2.1
  cases f with
  |next=>obtain⟨a,q,k,F⟩:=y;exact p k F
  |cont=>obtain⟨a,q,k,F⟩:=y;exact p k F
  |brk=>obtain⟨a,q,k,y⟩:=y;exact⟨a,q,k.unpinned,y⟩
  |ret v=>obtain⟨x7,a,q,k,r7,y⟩:=y;exact⟨x7,a,q,k.unpinned,r7,y⟩
end
noncomputable abbrev R2:=V->V->Hp->VK->Prop
/---/def OpR(X:Cx)(f:S1->S1->Sem S1)(r:R2):Prop :=
 ∀(pins:.J) (s:Q5) (σ:St) (H:Hp) (x y:V) (v u:S1) (Q:VK),Inv X pins σ H s->cf x v->cf y u->r x y H Q->
  wpAny .ag X.A (f v u) .cL X.xe s
/---/def UnR(X:Cx)(f:S1->Sem S1)(r:V->Hp->VK->Prop):Prop :=
 ∀(pins:.J) (s:Q5) (σ:St) (H:Hp) (x:V) (v:S1) (Q:VK),Inv X pins σ H s->cf x v->r x H Q->
  wpAny .ag X.A (f v) .cL X.xe s
/---/def jb(X:Cx)(f:S1)(r:.jg):Prop :=
 ∀(pins:.J) (s:Q5) (σ:St) (H:Hp) (xs:List V) (us:List S1) (Q:VK),Inv X pins σ H s->aY xs us->r xs H Q->
  wpAny .ag X.A (call f us) .cL X.xe s
/---/def tOp(r:R2)(ta tb:TE):TE:=λσ H Q=>ta σ H λx H1=>tb σ H1 λy H2=>r x y H2 Q
/---/def tUn(r:V->Hp->VK->Prop)(ta:TE):TE:=λσ H Q=>ta σ H λx H1=>r x H1 Q
/---/def rI(C:Int->Int->Prop)(g:Int->Int->V):R2:=λx y H Q=>∃i j,x=.int i/\y=.int j/\C i j/\Q .cq H
/---/def rI0(g:Int->Int->V):R2:=λx y H Q=>∃i j,x=.int i/\y=.int j/\Q .cq H
/---/def rU(g:Int->V):V->Hp->VK->Prop:=λx H Q=>∃i,x=.int i/\Q (g i) H
section
variable{X:Cx}{a b c:Expr}{ta tb tc:TE}{pos:Pos}
def AZ(ha:.dX)(hb:.gg){R:V->V->Hp->Prop}(I:.s)
  (h:ta σ H λx j=>tb σ j λy d=>R x y d) {Q:.q} {f:S1->S1->Sem S1}
  (o:∀v u i x y d,Inv X pins σ d i->cf x v->cf y u->R x y d->wpAny .ag X.A (f v u) Q X.xe i) :
  wpAny .ag X.A (.gs a) (λv e=>.aS (.gs b) (λu g=>.aS (f v u) Q X.xe g) X.xe e) X.xe s:=by
 refine thn .dx λv n ⟨x,j,m,k,q1⟩=>?_;refine thn (hb pins n σ j _ m q1) λu i ⟨y,d,p,l,q2⟩=>?_;exact o v u i x y d p k l q2
def Ix(d:.ap (binaryOp op) r)(ha:.dX)(hb:.gg):.w (.BinOp a op b pos) .ns:=by
 intro pins s σ H Q I h;exact wpAny_BinOp (AZ ha hb I h λv u e x y i g f j q=>d pins e σ i x y v u Q g f j q)
def Rw(e:UnR X (unaryOp op) r)(ha:.dX):.w (.UnaryOp op a pos) (tUn r ta):=by
 intro pins s σ H Q I h;exact UnaryOp_ (thn .dx λv i ⟨x,f,g,d,q1⟩=>e pins i σ f x v Q g d q1)
def opI{g:.gb}
  (rule:∀(i j:Int) (t u:Tok) (s:Q5) (Q:.q) (E:.q),C i j->Q (.int .cq s.toks) .ms->.aS .qJ Q E s) :
  OpR X f .zk:=by
 intro pins s σ H x y v u Q I k l h;obtain⟨i,j,rfl,rfl,d,q⟩:=h;obtain⟨t,rfl⟩:=k;obtain⟨e,rfl⟩:=l;exact rule i j t e s _ _ d ⟨.int .cq,H,I.tok _,⟨_,rfl⟩,q⟩
def Rx{g:.gb}
  (rule:∀(i j:Int) (t u:Tok) (s:Q5) (Q:.q) (E:.q),Q (.int .cq s.toks) .ms->.aS .qJ Q E s) :
  OpR X f .zE:=by
 intro pins s σ H x y v u Q I e k h;obtain⟨i,j,rfl,rfl,q⟩:=h;obtain⟨t,rfl⟩:=e;obtain⟨d,rfl⟩:=k;exact rule i j t d s _ _ ⟨.int .cq,H,I.tok _,⟨_,rfl⟩,q⟩
def Ph{g:.lv}
  (rule:∀(i j:Int) (t u:Tok) (s:Q5) (Q:.q) (E:.q),Q (.bool .cq) s->.aS .qJ Q E s) :
  OpR X f .z8:=by
 intro pins s σ H x y v u Q I e k h;obtain⟨i,j,rfl,rfl,q⟩:=h;obtain⟨t,rfl⟩:=e;obtain⟨d,rfl⟩:=k;exact rule i j t d s _ _ ⟨.bl .cq,H,I,rfl,q⟩
/---/def Mf(i j:Int):Prop:=(-(2^64)<i/\i<2^64)\/(-(2^64)<j/\j<2^64)
def Mf.ok(h:Mf i j):IntMulOk i j:=by
 rcases h with ⟨e,d⟩|⟨e,d⟩
 ·exact .of_left (intBits_le_64 e d)
 ·exact .of_right (intBits_le_64 e d)
def Pi:.ap .iF (rI0 λi j=>.int (i+j)):=Rx λ_ _ _ _ _ _ _ q=>add_int q
def iF:.ap (binaryOp .Sub) (rI0 λi j=>.int (i-j)):=Rx λ_ _ _ _ _ _ _ q=>sub_int q
def gD:.ap (binaryOp .Mult) .yF:=opI λ_ _ _ _ _ _ _ d q=>mul_int q d.ok
def fP:.ap (binaryOp .Mod) .wW:=opI λi j _ _ _ _ _ d q=>by
 have e:(0:Int)<j:=d;exact mod_int' .a (by rw[Int.fmod_eq_emod_of_nonneg i .a];exact q)
def unI{g:Int->Int}
  (rule:∀(i:Int) (t:Tok) (s:Q5) (Q:.q) (E:.q),Q (.int (g i) s.toks) .ms->.aS (f .n9) Q E s) :
  UnR X f (rU λi=>.int (g i)):=by
 intro pins s σ H x v Q I d h;obtain⟨i,rfl,q⟩:=h;obtain⟨t,rfl⟩:=d;exact rule i t s _ _ ⟨.int (g i),H,I.tok _,⟨_,rfl⟩,q⟩
def Pj:UnR X (unaryOp .USub) (rU λi=>.int (-i)):=unI λ_ _ _ _ _ q=>neg_int q
end
section
variable{X:Cx}{a b c:Expr}{ta tb tc:TE}{pos:Pos}
def Iy(I:.s)(q:Q (.bl k) H)(e:k=d):.fl (.bool d) s:=by
 subst e;exact⟨.bl k,H,I,rfl,q⟩
def Iz:.ap (.cY .Lt) (rI0 λi j=>.bl (decide (i<j))):=Ph λ_ _ _ _ _ _ _ q=>lt_int q
def On:.ap (.cY .LtE) (rI0 λi j=>.bl (decide (i<=j))):=Ph λ_ _ _ _ _ _ _ q=>le_int q
def vj:.ap (.cY .Gt) (rI0 λi j=>.bl (decide (j<i))):=Ph λ_ _ _ _ _ _ _ q=>gt_int q
def kq:.ap (.cY .Is) .vI:=by
 intro pins s σ H x y v u Q I d e h;obtain⟨rfl,q⟩:=h;cases e;refine is_none_gen (Iy I q ?_);cases x<;>first
  |(cases d;rfl)
  |(obtain⟨t,rfl⟩:=d;rfl)
def y6:.ap (.cY .IsNot) .vB:=by
 intro pins s σ H x y v u Q I d e h;obtain⟨rfl,q⟩:=h;cases e;refine isnot_none_gen (Iy I q ?_);cases x<;>first
  |(cases d;rfl)
  |(obtain⟨t,rfl⟩:=d;rfl)
def OpR.or(h:.ap f r)(h':.ap f d):.ap f (λx y H Q=>r x y H Q\/d x y H Q):=by
 intro pins s σ H x y v u Q I e g q;rcases q with q|q
 ·exact .c2 x y v u Q I e g q
 ·exact h' pins s σ H x y v u Q I e g q
def aT(b:Expr)(h:autoParam (op ≠ .In) Q1Q._auto_1)(h2:autoParam (op ≠ .NotIn) Q1Q._auto_1):behindInMarks op b=false:=by
 have e:(op == CmpOp.In)=false:=by cases op<;>first|rfl|exact absurd rfl h
 have d:(op == CmpOp.NotIn)=false:=by cases op<;>first|rfl|exact absurd rfl h2
 cases b<;>simp[behindInMarks,e,d]
def Mg(d:.jl)(ha:.dX)(hb:.gg)(hm:.oo):.w .oR .ns:=by
 intro pins s σ H Q I h;exact wpAny_Compare1 (AZ ha hb I h λv u e x y g i f j q=>d pins e σ g x y v u Q i f j q) hm
/---/def Ry(t:TE):TT:=λσ H Q=>t σ H λx H'=>∃k,x=.bl k/\Q k H'
def Mh(l:.jl)(ha:.dX)(hb:.gg)(hm:.oo):PT X .oR (Ry .ns):=by
 intro pins s σ H Q I h;refine wpAny_isTrue_Compare1 (thn .dx λv o ⟨x,m,n,d,q1⟩=>thn (hb pins o σ m _ n q1) λu f ⟨y,q,t,g,q2⟩ =>
  thn (l pins f σ q x y v u _ t d g q2) λc w zz=>?_) hm;obtain⟨z,p,i,j,k,e,q3⟩:=zz
 subst e;cases j;exact WZ ⟨p,i,q3⟩
/---/def IA(r r':R2)(ta tb tc:TE):TE:=λσ H Q=>ta σ H λx H1=>tb σ H1 λy H2=>r x y H2 λz H3=>∃k,z=.bl k/\
 (if k=true then tc σ H3 λw' H4=>r' y w' H4 Q else Q .iH H3)
def IB(C:.jl)(g:.ap (.cY f) j)(ha:.dX)(hb:.gg)(p:.w c tc)
  (hm:lastMarks [op,f] [b,c]=false:=by with_unfolding_all rfl):.w (.Compare a [op,f] [b,c] pos) (IA r j ta tb tc):=by
 intro pins s σ H Q I h;refine Compare_chain (thn .dx λv K ⟨x,D,J,o,q1⟩=>chain_link (thn (hb pins K σ D _ J q1) λu q ⟨y,L,M,i,q2⟩ =>
  thn (C pins q σ L x y v u _ M o i q2) λd E zz=>?_)) hm;obtain⟨z,m,l,t,k,e,q3⟩:=zz
 subst e;cases t;refine WZ ?_;cases k with
 |false=>exact ite_ff ⟨.bl false,m,l,rfl,q3⟩
 |true=>exact ite_tt (chain_last<|thn (p pins E σ m _ l q3) λN w ⟨n,B,F,G,A⟩=>g pins w σ B y n u N Q F i G A)
def rL:(sizeLine:Nat)<2^63:=by rw[YQ];decide
def IC{x:V}(r:aY [x] d):∃u,d=[u]/\cf x u:=by
 cases r with
 |cons f e=>cases e;exact⟨_,rfl,f⟩
def Oo{x y:V}(r:aY [x,y] d):∃u e,d=[u,e]/\cf x u/\cf y e:=by
 cases r with
 |cons g f =>
  cases f with
  |cons h i=>cases i;exact⟨_,_,rfl,g,h⟩
def Gv(e:.aJ):jb X (.cZ "max") (λxs H Q=>∃i j,xs=.sh/\Q .u9 H):=by
 intro pins s σ H xs m Q I r h;obtain⟨i,j,rfl,q⟩:=h;obtain⟨u,n,rfl,⟨t,rfl⟩,⟨l,rfl⟩⟩:=Oo r;refine max_two_ints (I.ok.hd e) λg f k=>⟨_,H,I.kept k,?_,q⟩
 by_cases d:j>i
 ·rw[z4 d,z4 d];exact⟨_,rfl⟩
 ·rw[yD d,yD d];exact⟨_,rfl⟩
def Gw(e:.aJ):jb X (.cZ "min") (λxs H Q=>∃i j,xs=.sh/\Q .va H):=by
 intro pins s σ H xs m Q I r h;obtain⟨i,j,rfl,q⟩:=h;obtain⟨u,n,rfl,⟨t,rfl⟩,⟨l,rfl⟩⟩:=Oo r;refine min_two_ints (I.ok.hd e) λg f k=>⟨_,H,I.kept k,?_,q⟩
 by_cases d:j<i
 ·rw[z4 d,z4 d];exact⟨_,rfl⟩
 ·rw[yD d,yD d];exact⟨_,rfl⟩
end
structure Uc(h:Heap)(x dx C:Addr)(mA:.aI):Prop where
 obj:h.get? x=some .zT
 ns:h.Ns1 dx mA
 ne:dx≠x
section
variable{prog:P2}{w:N3}{A:P1}{E:.q}{s:Q5}{K:ZX}{x dx C f:Addr}{mA:.aI}{name:Str}{v:S1}
end
def w6.some_of(r:w6 .ek o):∃u,o=some u/\cf v u:=by
 cases o with
 |none=>exact(show False from r).elim
 |some u=>exact⟨u,rfl,r⟩
section
variable{P:P2}{w:N3}{H H':Hp}{h h':Heap}{a C dx:Addr}{fs fs':List .i1}
end
structure Cls(K:ZX)(C:Addr):Prop where
 pg:PySem.W.plainGet K C Str.empty=true
 hd:PySem.W.hasDictIn K C=true
 po:PySem.W.plainOver K C=true
 sa:.o6 "__setattr__"=some (some<|.cZ "object.__setattr__")
structure Con(K:ZX)(C:Addr)(f:Str)(v:V)(u:S1):Prop where
 at_:.o6 f=some (some u)
 rel:cf v u
 get:PySem.W.specialIn K u "__get__"=some none
 cp:PySem.W.copiedNames.contains f=false
structure Ud(K:ZX)(C:Addr)(m:Str)(f:Addr):Prop where
 at_:.o6 m=some .nL
 fn:PySem.W.isFn K .aE=true
 kp:.jB .aE=true
section
variable{X:Cx}{pins:.J}{σ:St}{H:Hp}{s:Q5}{a C dx:Addr}{fs:List .i1}{f:Str}{v:V}{A:P1}{E:.q}
end
section
variable{X:Cx}{o e value:Expr}{f:Str}{pos pos' tpos:Pos}{ta tv:TE}
end
section
variable{X:Cx}{pins:.J}{σ:St}{H:Hp}{s:Q5}{A:P1}{E:.q}{Q:.q}{c:S1}{b:Bool}
inductive vk(K:ZX)(H:Hp):V->S1->Prop where
 |non:vk K H .non (.type "NoneType")
 |bl (x:Bool):vk K H (.bl x) (.type "bool")
 |int (i:Int):vk K H .cX (.type "int")
 |str (x:Str):vk K H (.str x) (.type "str")
 |flt (x:UInt64):vk K H (.flt x) (.type "float")
 |lst {a:Addr} {xs:List V} (e:H a=some (.lst xs)):vk K H (.ref a) .oY
 |frz {a:Addr} {o:Obj} {xs:List V} (e:H a=some (.frz o (.lst xs))):vk K H (.ref a) .oY
 |tup {a:Addr} {xs:List V} (e:H a=some (.tup xs)):vk K H (.ref a) (.type "tuple")
 |dK {a:Addr} {kvs:.dY} (e:H a=some (.dK kvs)):vk K H (.ref a) (.type "dict")
 |dT {a:Addr} {kvs:.gh} (e:H a=some .jt):vk K H (.ref a) (.type "dict")
 |ins {a C dx:Addr} {fs:List .i1} (e:H a=some (.ins C dx fs)) (cl:Cls K C) (ha:PySem.W.findIn K (.ref C) "__class__"=some (some (.cZ "object.__class__")))
   (hn:PySem.W.specialIn K .vb "__get__"=some (some<|.cZ "getset_descriptor.__get__")) (htk:PySem.W.takesIn K .vb=some true)
   (hm:PySem.W.mroIn K C (.type "object")=some true):vk K H .dg .qW
end
structure jz(k:Nat)(A:P1):Prop where
 hd:A.handled=none
 dp:A.depth+3*k+5<recursionLimit
 un:A.units+16*k+200<cLine
 gd:A.guards=some []
def jz.mono(r:jz k A)(h:j<=k):jz j A:=⟨r.hd,by have:=r.dp;lia,by have:=r.un;lia,r.gd⟩
def jz.deeper(r:jz (k+1) A)(env:Env):jz k (A.deeper env) :=
 ⟨r.hd,by have:=r.dp;show A.depth+1+3*k+5<_;lia,by have:=r.un;show A.units+3+16*k+200<_;lia,r.gd⟩
def jz.depth(r:jz k A):A.depth<recursionLimit:=by have:=r.dp;lia
def jz.units0(r:jz k A):A.units<cLine:=by have:=r.un;lia
/---/def Rz:TA:=λ_ H Q=>Q [] H
/---/def Op(ta:TE)(tr:TA):TA:=λσ H Q=>ta σ H λx H1=>tr σ H1 λxs H2=>Q .cR H2
section
variable{X:Cx}{e:Expr}{es:.a8}{te:TE}{t:TA}{pos:Pos}
def eQ:PA X [] Rz:=λ_ _ _ _ H Q I h=>Calls.spliced_nil ⟨[],H,I,.nil,h⟩
def cP(ha:.w e te)(d:PA X es t)(c:autoParam (.lN X.env=(false,.cH X.env)::starEach es X.env) Q3Q._auto_1):PA X .dM (Op te t):=by
 intro pos pins s σ H Q I h;rw[c];show wpAny _ _ (spliced ((false,.cH X.env)::backTo pos .mh)) _ _ s;refine Calls.spliced_cons (thn .dx λu i ⟨x,f,g,a,q1⟩=>?_);exact thn (d pos pins i σ f _ g q1) λn m ⟨k,l,j,b,q2⟩=>⟨x::k,l,j,.cons a b,q2⟩
/---/def Tt(t:TA):TE:=λσ H Q=>t σ H λxs H1=>xs.length<=sizeLine/\∀p,H1 p=none->.dv (upd H1 p .cn)
/---/def Tu(t:TA):TE:=λσ H Q=>t σ H λxs H1=>xs.length<=sizeLine/\∀p,H1 p=none->.dv (upd H1 p .b5)
def Pk(h:PA X es t):.w (.Tuple es g pos) (Tt t):=by
 intro pins s σ H Q I f;refine wpAny_Tuple_spliced (thn .yJ λk a ⟨j,c,d,r,z,q⟩=>⟨by rw[<-r.length];exact z,?_⟩);have i:c a.heap.objs.size=none:=d.hok.fresh .r;refine⟨.ref a.heap.objs.size,upd c a.heap.objs.size (.tup j),d.laid (t':=a.toks) (λb u e=>.R e) .r ?_,rfl,q _ i⟩;exact⟨z,k,r,⟨_,ZJ _ rfl,rfl,_,rfl⟩⟩
def Pl(h:PA X es t):.w (.List es pos) (Tu t):=by
 intro pins s σ H Q I f;refine wpAny_List_spliced (thn .yJ λj a ⟨i,c,d,r,z,q⟩=>⟨by rw[<-r.length];exact z,?_⟩);have g:c a.heap.objs.size=none:=d.hok.fresh .r;refine⟨.ref a.heap.objs.size,upd c a.heap.objs.size (.lst i),d.laid (t':=a.toks) (λb u e=>.R e) .r ?_,rfl,q _ g⟩;exact⟨z,j,0,r,ZJ _ rfl⟩
end
noncomputable abbrev Sp:=List V->Hp->VK->XK->Prop
noncomputable abbrev CXT:=List Env->Hp->Q5->XK->S1->Q5->Prop
structure Mi(P:P2)(w:N3)(K:ZX)(mg:.aI)(base:Heap)(A:P1)(outer:.dm)(s:Q5)(H:Hp):Prop where
 frames:A.frames=some outer
 mod:Mod K mg base
 bs:∀b o,base.get? b=some o->s.heap.get? b=some o/\H b=none
 bsz:base.objs.size<=s.heap.objs.size
 funs:s.heap.FunFrames base outer
 frf:∀b∈frs outer,H b=none
 hok:HOk P w H s.heap
 bare:AllBare s.gens
/---/def CE(outer:.dm)(P:P2)(w:N3)(H:Hp)(s:Q5)(Q:VK)(u:S1)(s':Q5):Prop :=
 ∃v H',s'.os=s.os/\AllBare s'.gens/\Un (frs outer) [] H H' s.heap s'.heap/\HOk P w H' s'.heap/\cf v u/\Q v H'
/---/def CR(CX:CXT)(outer:.dm)(P:P2)(w:N3)(H:Hp)(s:Q5)(Q:VK)(E:XK)(r:Result)(s':Q5):Prop :=
 match r with
 |.ok (.ret u)=>CE outer P w H s Q u s'
 |.ok _=>False
 |.error e=>CX outer H s E e s'
structure kP(P:P2)(w:N3)(K:ZX)(mg:.aI)(base:Heap)(CX:CXT)(k:Nat)(f:Addr)(fd:.gk)(ps:.af)(sp:Sp):Prop where
 len:∀vs H Q E,sp vs H Q E->vs.length=ps.length
 run:∀(A:P1) (outer:.dm) (s:Q5) (H:Hp) (args:Args) (us:List S1) (vs:List V) (Q:VK) (E:XK),jz k A->Mi P w K mg base A outer s H->BindsTo s fd args (ps.zip us)->aY vs us->sp vs H Q E->
  codeAny .eY A (.call .aE args) (CR CX outer P w H s Q E) s
section
variable{X:Cx}{pins:.J}{σ:St}{H:Hp}{s s':Q5}
def Inv.env0(I:.s):Mi X.prog X.w X.K X.mg X.base X.A X.stack s H :=
 ⟨I.ok.frames,I.ok.mod,I.bs,ZM I.ok.bsz I.sz,I.stack,I.stkFree,I.hok,I.bare⟩
def Inv.after(I:.s)(h:CE X.stack X.prog X.w H s Q u s'):.fl u s':=by
 obtain⟨v,c,f,bare,e,hok,r,q⟩:=h;obtain⟨i,g,d,t,a⟩:=s';obtain rfl:a=s.os:=f;exact⟨v,c,I.call (h':=i) (g':=g) (d':=d) (t':=t) (ch:=[]) e hok bare (λb z=>.gx .e),r,q⟩
end
/---/def RA(sp:Sp)(dvs:List V)(E:XK)(t:TA):TE:=λσ H Q=>t σ H λvs H1=>sp (vs++dvs) H1 Q E
/---/def vm(K:ZX)(fd:.gk)(ps:.af)(ds:List S1):Prop :=
 ∀(s:Q5) (us:List S1),K.In s.heap->(us++ds).length=ps.length->BindsTo s fd ⟨us,[]⟩ (ps.zip<|us++ds)
def vm.all{K:ZX}{b:.gk}(h:∀a:List S1,a.length=ps.length->bindArgs b ⟨a,[]⟩=pure (ps.zip a)):vm K b ps []:=λs a _ c=>by
 rw[XD]at c⊢;exact .of_eq (h a c)
/---/def Dw(CX:CXT)(X:Cx)(E:XK):Prop:=∀(pins:.J) (σ:St) (H:Hp) (s:Q5) (e:S1) (s':Q5),Inv X pins σ H s->CX X.stack H s E e s'->X.xe e s'
section
variable{X:Cx}{CX:CXT}{k:Nat}{f C:Addr}{fd:.gk}{ps:.af}{sp:Sp}{dvs:List V}{ds:List S1}{E:XK}{x m:Str}{p pos apos:Pos}{e o:Expr}{es:.a8}{ta:TE}{t:TA}
def Pm(F:.AC)(d:jz k X.A)(hb:vm X.K fd ps ds)(hd:aY dvs ds)(hx:Dw CX X E)
  (I:.s) (r:aY vs a) (h:sp (vs++dvs) H Q E):.aS (call .aE a) .cL X.xe s:=by
 have c:aY (vs++dvs) (a++ds):=r.append hd;have j:(a++ds).length=ps.length:=by rw[<-c.length];exact F.len _ _ _ _ h
 refine wpAny_call (codeAny_mono (F.run X.A X.stack s H ⟨a,[]⟩ (a++ds) (vs++dvs) Q E d I.env0 (hb s a I.kIn j) c h) λr i b=>?_);cases r with
 |error e=>exact hx pins σ H s e i I b
 |ok g =>
  cases g with
  |ret u=>exact I.after b
  |next=>exact False.elim b
  |brk=>exact False.elim b
  |cont=>exact False.elim b
def Mj(F:.AC)(g:jz k X.A)(c:Gl X x)(hm:X.mg x=some .aE)(d:PySem.W.keepIn X.K .aE=true)(hb:vm X.K fd ps ds)(hd:aY dvs ds)(hx:Dw CX X E)
  (ha:PA X .dM t) (a:autoParam (.bY=false) Q1Q._auto_1) (he:autoParam (.lN X.env=(false,.cH X.env)::starEach es X.env) Q3Q._auto_1) (hpl:autoParam ((.m8).any (·.1)=false) Q3Q._auto_1) :
  PE X (.hS .dM) (RA sp dvs E t):=by
 intro pins s σ H Q I h;refine U7 (E4 I c hm ?_ a);refine PySem.W.callWith_K (h₀ := X.base) I.ok.mod.kin d (thn .j4 λi n ⟨l,j,b,r,q⟩=>⟨b.kIn,?_⟩) he hpl;exact Pm F g hb hd hx b r q
structure Mk(K:ZX)(C f:Addr):Prop where
 makes:PySem.W.makesIn K C=true
 init:.o6 "__init__"=some .nL
 fn:PySem.W.isFn K .aE=true
 kp:.jB .qW=true
end
section
variable{X:Cx}{CX:CXT}{k:Nat}{f C:Addr}{fd:.gk}{ps ks:.af}{sp:Sp}{E:XK}{x m:Str}{p pos apos kpos:Pos}{e o:Expr}{es:.a8}{kws:List Keyword}{te ta:TE}{t tk:TA}{nm:Option Str}
structure Tv(K:ZX)(fd:.gk)(ps ks:.af)(g:List S1->List S1->List S1)(gV:List V->List V->List V):Prop where
 to:∀(s:Q5) (us ws:List S1),K.In s.heap->(g us ws).length=ps.length->BindsTo s fd ⟨us,ks.zip ws⟩ (ps.zip<|g us ws)
 rel:∀{vs:List V} {us:List S1} {zs:List V} {ws:List S1},aY vs us->aY zs ws->aY (gV vs zs) (g us ws)
variable{g:List S1->List S1->List S1}{gV:List V->List V->List V}
end
structure fZ(N P:.af)(sc:Scope):Prop where
 kind:sc.kind=.function
 co:sc.isCoroutine=false
 gen:sc.isGenerator=false
 nd:N.Nodup
 pre:N.take P.length=P
 par:∀x∈P,sc.names.lookup x=some .local\/sc.names.lookup x=some .cell
 nofree:∀y∈sc.names,y.2 ≠ .free
theorem xH{kindOf:.ov}{x:Str}:∀{a:List .nX} {m:.aI},(∀v,(x,v)∉a)->bindL kindOf a m x=m x
 |[],_,_=>rfl
 |(n,v)::r,m,h=>by
  unfold bindL;rw[xH λw b=>h w (ZW _ b)];split
  ·have:x≠n:=by rintro rfl;exact h v ZV
   simp[this]
  ·rfl
theorem xI{kindOf:.ov}{x:Str}:∀{a:List .nX} {m:.aI},(∀v,(x,v)∉a)->bindC kindOf a m x=m x
 |[],_,_=>rfl
 |(n,v)::r,m,h=>by
  unfold bindC;rw[xI λw b=>h w (ZW _ b)];split
  ·rfl
  ·have:x≠n:=by rintro rfl;exact h v ZV
   simp[this]
theorem xJ{kindOf:.ov}{x:Str}{v:S1}:∀{P:.af} {vs:List S1} {i:Nat} {m:.aI},P.Nodup->P[i]?=some x->vs[i]?=some v->kindOf x=some .local->
  bindL kindOf (P.zip vs) m x=some v
 |[],_,_,_,_,h,_,_=>by simp at h
 |_::_,[],_,_,_,_,h,_=>by simp at h
 |p::P,w::vs,0,m,nd,h1,h2,a=>by
  simp at h1 h2;subst h1;subst h2;show bindL kindOf .m9 m p=_;unfold bindL;rw[xH λv b=>(.hm).1 (List.of_mem_zip b).1,z4 a];simp
 |p::P,w::vs,i+1,m,nd,h1,h2,a=>by
  show bindL kindOf .m9 m x=_;unfold bindL;exact xJ (i:=i) (.hm).2 .gK .gJ a
theorem xK{kindOf:.ov}{x:Str}{v:S1}:∀{P:.af} {vs:List S1} {i:Nat} {m:.aI},P.Nodup->P[i]?=some x->vs[i]?=some v->kindOf x≠some .local->
  bindC kindOf (P.zip vs) m x=some v
 |[],_,_,_,_,h,_,_=>by simp at h
 |_::_,[],_,_,_,_,h,_=>by simp at h
 |p::P,w::vs,0,m,nd,h1,h2,a=>by
  simp at h1 h2;subst h1;subst h2;show bindC kindOf .m9 m p=_;unfold bindC;rw[xI λv b=>(.hm).1 (List.of_mem_zip b).1,yD a];simp
 |p::P,w::vs,i+1,m,nd,h1,h2,a=>by
  show bindC kindOf .m9 m x=_;unfold bindC;exact xK (i:=i) (.hm).2 .gK .gJ a
/---/def nu(N:.af)(vs:List V):St:=vs.map some++List.replicate (N.length-vs.length) none
def A6(CX:CXT)(P:P2)(w:N3)(K:ZX)(mg:.aI)(base:Heap)(N:.af)(qual:Str)(scope:Scope)(f:Addr)(cd:S1)(A:P1)(outer:.dm)(s:Q5)(H:Hp)(E:XK):Cx where
 prog:=P
 w:=w
 K:=K
 mg:=mg
 base:=base
 A:=A.deeper .pU
 N:=N
 s₀ := s
 H₀ := H
 env:=envOfC qual scope s.heap.objs.size f cd
 outer:=outer
 stack:=envOfC qual scope s.heap.objs.size f cd::outer
 ex:=[]
 calm:=true
 fn:=λ_=>true
 pn:=[]
 xe:=λe s'=>wpAny .eY (A.deeper .pU) (leaving .pU e) (λ_ s''=>CX outer H s E e s'') (λe' s''=>CX outer H s E e' s'') s'
def A7{a:Scope}(h:a.names.lookup x=some .cell):∃c,(cellsFrom n a.names []).lookup x=some c:=by
 have q:=PySem.W.cellsFrom_some a.names n [] .hQ;exact WM.mp q
def Gx{CX:CXT}{K:ZX}{scope:Scope}{f:Addr}{D:S1}{outer:.dm}{J:Q5}{E:XK}{F:List S1}{vs:List V}
  (S:fZ N ps scope) (hd:.hG) (j:Mi P w K mg base A outer s H) (R:vs.length=ps.length) (r:aY vs F)
  (x:InCallC s s.heap.objs.size (bindL (.wF).kindOf (ps.zip F) λ_=>none) (cellsFrom .b1 scope.names []) (bindC (.wF).kindOf (ps.zip F) λ_=>none) J) :
  Inv .vG [] .lf H J:=by
 have L:ps.length<=N.length:=by have:=.eu S.pre;rw[WI]at this;lia
 obtain⟨C,O,rfl,I⟩:=x.done;have l:∀b:Addr,b∉(.vG).ex:=λb z=>absurd (show b∈([] : List Addr) from z) .e;refine⟨⟨j.mod,S.kind,rfl,rfl,ZL _,λy z c C g => ?_,λy m => ?_,λy c _ h => ?_,λ_=>hd,Around.frames_deeper j.frames,.inr ⟨rfl,rfl⟩,λb z=>.gx (l b),j.bs,j.bsz,λb _ _=>l b,λb z=>.gx (l b),j.funs,j.frf⟩,
  rfl,j.bare,Un.kept I,⟨_,x.toInCall.ns,λi y v C g Q=>?_⟩,λy c h=>⟨_,x.cell y c h⟩,j.hok.fresh .r,λy c h=>?_,λp t=>absurd (show p∈([]:List .ex) from t) .e,j.hok.kept I,?_⟩
 ·exact name_of_addr x.apart (V9 C) (V9 g)
 ·have m:scope.names.lookup y=some .cell\/scope.names.lookup y=some .free:=m
  rcases m with m|m
  ·exact A7 m
  ·exact absurd rfl (S.nofree _<|V9 m)
 ·exact YX (x.above y c<|V9 h)
 ·have B:i<vs.length:=by
   unfold nu at g
   by_cases B:i<vs.length
   ·exact B
   ·rw[ZD (by simpa using B)]at g
    rw[List.getElem?_replicate]at g;split at g<;>cases g
  have M:vs[i]?=some v:=by
   unfold nu at g;rw[ZC (by simpa using B),ZQ]at g;cases e:vs[i]? with
   |none=>rw[e]at g;cases g
   |some a=>rw[e]at g;cases g;rfl
  obtain⟨u,G,rv⟩:=r.get M;have t:ps[i]?=some y:=by
   rw[<-S.pre,VB .a];exact C
  have o:ps.Nodup:=by rw[<-S.pre];exact S.nd.sublist (List.take_sublist _ _)
  refine⟨u,rv,?_⟩;rcases S.par y (ZK t) with k|k
  ·exact .inl ⟨k,xJ o t G k⟩
  ·obtain⟨c,e⟩:=A7 (n:=s.heap.objs.size+1) k
   refine .inr ⟨.inl k,c,e,?_⟩;have q:=x.cell y c e;rw[xK o t G (by show scope.names.lookup y≠_;rw[k];decide)]at q;exact q
 ·exact j.hok.fresh (YX<|x.above y c<|V9 h)
 ·unfold nu
  show _=N.length;rw[ZB,ZA,UI];lia
def RB{K:ZX}{name a:Str}{d:Arguments}{g:.e8}{scope:Scope}{T kV z pm c ct oc:S1}{R Z:.cv}
  {G:.hH} {N ps:.af} {M:Sp} (lk:K.lookup f=some ⟨oc,Z,.func .vN,G⟩) (C:.lK c a=true) (S:fZ N ps scope)
  (len:∀vs H Q E,M vs H Q E->vs.length=ps.length)
  (l:∀(A:P1) (outer:.dm) (s:Q5) (H:Hp) (vs:List V) (Q:VK) (E:XK),jz k (A.deeper<|envOfC a scope s.heap.objs.size f c)->M vs H Q E->
   ∃t,PSs .pK g t/\t { nx:=λ_ i=>Q .non i,rt:=Q } .lf H) :
  kP P w K mg base CX (k+1) f .vN ps M:=by
 refine⟨len,λA outer s H O us vs Q E L p Y r B=>?_⟩;have hl:=len _ _ _ _ B;have KX:K.In s.heap:=p.mod.kin.keeps λb o e=>(p.bs b o e).1;have D:s.heap.NoLimit:=p.mod.nolimit.keeps λb o e=>(p.bs b o e).1;have j:∀y∈ps.zip us,scope.names.lookup y.1=some .local\/(scope.names.lookup y.1=some .cell/\((cellsFrom .b1 scope.names []).lookup y.1).isSome=true):=λ⟨n,v⟩ hy=>by
  rcases S.par n (List.of_mem_zip hy).1 with q|q
  ·exact .inl q
  ·exact .inr ⟨q,PySem.W.cellsFrom_some _ _ _ (.inl q)⟩
 refine codeAny_call_function L.depth (KX _ _ lk) rfl S.co S.gen rfl (PySem.W.codeRec_of KX C) (Y _ _ _ _ ?_);refine wpAny_newFunctionEnv_cells S.kind j λX he U x=>?_;subst he;refine⟨D.keeps x.toInCall.keep,codeAny_func ?_⟩;obtain⟨t,W,hq⟩:=l A outer s H vs Q E (L.deeper _) B;have I:Inv .pK [] .lf H U:=Gx S L.hd p hl r x;refine UE (W [] U .lf H _ I hq) (λfl F m=>?_) λe F m=>m;have fin:∀{h:St} {i:Hp} {v:V} {u:S1},Inv .pK [] h i F->cf v u->Q v i->CE outer P w H s Q u F :=
  λ{h i v u} J rv q=>⟨v,i,J.os,J.bare,J.base,J.hok,rv,q⟩
 cases fl with
 |ret u =>
  obtain⟨v,h,i,J,rv,q⟩:=m;exact fin J rv q
 |next =>
  obtain⟨h,i,J,q⟩:=m;exact fin (v:=V.non) (u:=Value.none) J rfl q
 |brk =>
  obtain⟨_,_,_,q⟩:=m;exact False.elim q
 |cont =>
  obtain⟨_,_,_,q⟩:=m;exact False.elim q
section
variable{X:Cx}{x:Str}{p pos:Pos}{e:Expr}{es:.a8}{t:TA}{id T:String}{r:.jg}
/---/def tCB(r:.jg)(t:TA):TE:=λσ H Q=>t σ H λvs H1=>r vs H1 Q
def jA(d:jb X .eT r)(k:Gl X x)(hm:.jm)(b:bootBuiltins x=some .eT)(ha:PA X .dM t)(hn:autoParam (x≠"__name__") Q1Q._auto_1)(a:autoParam (.bY=false) Q1Q._auto_1)
  (he:autoParam (.lN X.env=(false,.cH X.env)::starEach es X.env) Q3Q._auto_1) (hpl:autoParam ((.m8).any (·.1)=false) Q3Q._auto_1):.w (.hS .dM) (tCB r t):=by
 intro pins s σ H Q I h;refine U7 (i4 I k hm b ?_ hn a);exact PyProof.Rows.callWith_builtin1 .uP he hpl
def xL(d:jb X .i5 r)(k:Gl X x)(hm:.jm)(b:bootBuiltins x=some .i5)(ha:PA X .dM t)(hn:autoParam (x≠"__name__") Q1Q._auto_1)(a:autoParam (.bY=false) Q1Q._auto_1)
  (he:autoParam (.lN X.env=(false,.cH X.env)::starEach es X.env) Q3Q._auto_1) (hpl:autoParam ((.m8).any (·.1)=false) Q3Q._auto_1):.w (.hS .dM) (tCB r t):=by
 intro pins s σ H Q I h;refine U7 (i4 I k hm b ?_ hn a);exact XF .uP he hpl
end
end L2
namespace HT
open PySem PyProof.Rows
noncomputable def lexLt:List Int->List Int->Bool
 |[],[]=>false
 |[],_::_=>true
 |_::_,[]=>false
 |x::xs,y::ys=>if x=y then lexLt xs ys else decide (x<y)
def Dx(x y:Int)(xs ys:.b):lexLt .cR (y::ys)=if x=y then lexLt xs ys else decide (x<y):=rfl
def w8:lexLt [] []=false:=rfl
def vp(y:Int)(ys:.b):lexLt [] (y::ys)=true:=rfl
def vq(x:Int)(xs:.b):lexLt .cR []=false:=rfl
def ID(A:P1)(s:Q5)(a:Int)(t:Tok)(c:Int)(u:Tok):∃e,SeqAt.EqAt A s (.int a t) (.int c u) e/\(e=true↔a=c) :=
 ⟨(a == c),U8 a t c u,by simp⟩
def IE(A:P1)(s:Q5)(a:Int)(t:Tok)(c:Int)(u:Tok)(prog:P2)(w:N3)(E:.q)(Q:.q)(h:Q (.bool<|decide (a<c)) s):
  wpAny .aj A (richCompare .Lt (.int a t)<|.int c u) Q E s :=
 (PyProof.Rows.lt_int h:.bI (compareOp .Lt (.int a t)<|.int c u) Q E s)
section
open PySem.SeqAt
open PySem.AutoSeq1 (wpAny_loadPart')
open PySem.MeetsSeq PySem.MeetsSeq2 PySem.MeetsSeq3
def w9(l b:Addr)(i f:.bw)(n Q:Nat)(T I:.cv)(P J:.hH)(ns C:.b)(hi:IntsAre i.toList ns)(hj:IntsAre f.toList C):
  Meets (Builtin.«tuple.__lt__» ⟨[.ref l,.ref b],[]⟩)
   (λ_ R s=>s.heap.get? l=some { cls:=.type "tuple",dict:=T,data:=.seq i n,slots:=P }/\s.heap.get? b=some { cls:=.type "tuple",dict:=I,data:=.seq f Q,slots:=J }/\
    R (.ok<|.ret<|.bool<|lexLt ns C) s) :=
 .of_wp λprog w A R s h=>by
  obtain⟨H,g,d,G,D⟩:=s;obtain⟨O,N,h⟩:=h;have Y:=AutoSeq1.sub_tuple_tuple;have X:i.size=ns.length:=by rw[<-hi.length];simp
  have z2:f.size=C.length:=by rw[<-hj.length];simp
  wp_walk using WG O,WG N,wpAny_forIn_list _ (λrest b K=>b.1=none/\K=⟨H,g,d,G,D⟩/\∃(F E:List S1) (m k:.b),rest=F.zip E/\
   IntsAre F m/\IntsAre E k/\m.length+f.size=k.length+i.size/\R (.ok<|.ret<|.bool<|lexLt m k) ⟨H,g,d,G,D⟩) _
  case turn =>
   rintro⟨y,x⟩ rest b K ⟨z,rfl,F,E,m,k,p,B,o,j,v⟩;cases B with
   |nil=>rw[List.zip_nil_left]at p;cases p
   |cons a t hvi' =>
    cases o with
    |nil=>rw[List.zip_nil_right]at p;cases p
    |cons c u hwi' =>
     rw[U9]at p;injection p with hyx hrest
     injection hyx with U V
     subst U V;rw[Dx]at v;dsimp[YT]at j;obtain⟨e,S,r⟩:=ID A.in1 ⟨H,g,d,G,D⟩ a t c u;refine z0 (S prog w _ _ ?_);cases e with
     |true =>
      rw[z4 (r.mp rfl)]at v
      wp_walk
      exact⟨rfl,rfl,_,_,_,_,hrest,hvi',hwi',by lia,v⟩
     |false =>
      rw[yD (λq=>absurd (r.mpr q) Z7)]at v;have L:=IE A.in1 ⟨H,g,d,G,D⟩ a t c u prog w
      wp_walk using L
      exact⟨_,rfl,by simpa using v⟩
  case fin =>
   rintro⟨Z,b2⟩ K ⟨z,rfl,F,E,m,k,p,B,o,j,v⟩;simp only at z;subst z;have M:lexLt m k=decide (i.size<f.size):=by
    cases B with
    |nil =>
     cases o with
     |nil =>
      dsimp[U4]at j;rw[w8];exact(Z6 .a).symm
     |cons c u W =>
      dsimp[U4,YT]at j;rw[vp];exact(ZZ .a).symm
    |cons a t M =>
     cases o with
     |nil =>
      dsimp[U4,YT]at j;rw[vq];exact(Z6 .a).symm
     |cons c u W =>
      rw[U9]at p;cases p
   rw[M]at v
   wp_walk
   exact⟨_,rfl,by simpa[Builtin.Tuple.tupleCompareSizes] using v⟩
  case h =>
   exact⟨rfl,rfl,i.toList,f.toList,ns,C,rfl,hi,hj,by lia,h⟩
end
section
variable{prog:P2}{w:N3}{A:P1}{E:.q}{s:Q5}
def lt_tupInts(y:.jH l c)(hb:.jH b a)(hi:IntsAre c.toList ns)(hj:IntsAre a.toList d)
  (r:A.units<cLine) (h:Q (.bool<|lexLt ns d) s):.bI (compareOp .Lt .i7 .fT) Q E s:=by
 obtain⟨⟨cls,v,data,t⟩,q,m,n,p⟩:=id y;obtain⟨⟨o,i,k,j⟩,e,g,u,f⟩:=id hb;simp only at m p g f;subst m p g f;exact richCompare_meets_room (op:=.Lt) ⟨_,q,rfl⟩ ⟨_,e,rfl⟩ PySem.F.slot_tuple_lt PySem.F.entry_tuple_lt (PySem.F.args_tuple_lt_2 _ _) (w9 l b c a n u v i t j ns d hi hj)
  ⟨q,e,show Value.bool (lexLt ns d)≠Value.notImplemented/\Q (.bool<|lexLt ns d) s from ⟨(λx=>nomatch x),h⟩⟩ r
def cat_tup(ht:.jH t vs.toArray)(hb:.jH b a.toArray)(l:vs≠[])
  (h1:a=[]->Q (.ref t) s) (h2:a≠[]->Q .gN { s with heap:=s.heap.push { cls:=.type "tuple",data:=.seq (vs++a).toArray } })
  (hsz:vs.length+a.length<=sizeLine):.bI (binaryOp .Add (.ref t) .fT) Q E s:=by
 obtain⟨⟨cls,u,data,o⟩,i,m,n,r⟩:=id ht;obtain⟨⟨q,g,k,h⟩,c,f,p,d⟩:=id hb;simp only at m r f d;subst m r f d;have e:vs.toArray++a.toArray=(vs++a).toArray:=by simp
 by_cases j:a=[]
 ·exact concat_meets ⟨_,i,rfl⟩ ⟨_,c,rfl⟩ noFill_tuple_add seq_tuple_add PySem.F.slot_tuple_add PySem.F.entry_tuple_add (U2 _ _)
   (tuple_addW1 t b vs.toArray a.toArray n p u g o h .mW (by simp[j])) ⟨i,c,h1 j⟩
 ·refine concat_meets ⟨_,i,rfl⟩ ⟨_,c,rfl⟩ noFill_tuple_add seq_tuple_add PySem.F.slot_tuple_add PySem.F.entry_tuple_add (U2 _ _)
   (tuple_addW2 t b vs.toArray a.toArray n p u g o h .mW .mX (by rw[ZY,ZY];exact hsz)) ⟨i,c,?_⟩
  rw[e];exact h2 j
noncomputable def sIx(n d:Nat):Option Int->Nat
 |none=>d
 |some v=>if v<0 then (v+(n:Int)).toNat else min v.toNat n
def Pn(n d:Nat)(hd:d<=n)(o:.aF):sIx n d o<=n:=by
 cases o with
 |none=>exact hd
 |some v =>
  show .vx<=n
  by_cases a:v<0
  ·rw[z4 a];lia
  ·rw[yD a];exact Nat.min_le_right _ _
def E5(v:Int)(n d:Nat):.vw=((sIx n d .ek:Nat):Int):=by
 show .vw=((.vx:Nat):Int)
 by_cases a:v<0
 ·dsimp[z4 a];lia
 ·dsimp[yD a];lia
def Dy(lo hi:.aF)(n:Nat):Builtin.Slice.sliceAdjust lo hi 1 (n:Int)=(((sIx n 0 lo:Nat):Int),((sIx n n hi:Nat):Int)):=by
 have a:¬((1:Int)<0):=by lia
 unfold Builtin.Slice.sliceAdjust;dsimp[a,WN];refine Prod.ext ?_ ?_
 ·cases lo with
  |none=>rfl
  |some v=>exact E5 v n 0
 ·cases hi with
  |none=>rfl
  |some v=>exact E5 v n n
def Dz(i j:Nat):Builtin.Slice.slicePlaces (i:Int) (j:Int) 1=j-i:=by
 unfold Builtin.Slice.slicePlaces;have a:(1:Int)>0:=by lia
 dsimp[a,WB,Int.ediv_one];split<;>lia
def vt(p:IsPart v o)(h:Q o s):.bI (Builtin.Slice.slicePartIndex v) Q E s:=by
 cases p with
 |none=>exact slicePart_none h
 |int i t=>exact slicePart_int h
def kQ{lo hi:.aF}{Q:Int × Int × Nat->Q5->Prop}(g:s.heap.IsSliceOf e d c .none)(pl:IsPart d lo)(f:IsPart c hi)
  (h:Q (((sIx n 0 lo:Nat):Int),1,sIx n n hi-sIx n 0 lo) s):.bI (Builtin.Slice.sliceApplied (.ref e)<|pure (n:Int)) Q E s:=by
 obtain⟨j,a,i,b⟩:=id g;unfold Builtin.Slice.sliceApplied Builtin.Slice.sliceFields;refine z0 (z0<|WK a b (x:=d) rfl<|z0<|WK a b (x:=c) rfl<|z0<|WK a b (x:=.none) rfl .aZ);refine z0 (slicePart_none ?_);show wpAny _ _ (if ((1:Int) == 0)=true then _ else _) _ _ s;rw[yD .c];refine z0 (vt pl<|z0<|vt f<|z0 .aZ);show wpAny _ _ (match Builtin.Slice.sliceAdjust lo hi 1 (n:Int) with|(lo,hi)=>pure (lo,(1:Int),Builtin.Slice.slicePlaces lo hi 1)) _ _ s;rw[Dy lo hi n];show wpAny _ _ (pure (((sIx n 0 lo:Nat):Int),(1:Int),Builtin.Slice.slicePlaces ((sIx n 0 lo:Nat):Int) ((sIx n n hi:Nat):Int) 1)) _ _ s;rw[Dz];exact wX h
def IG(xs:.bw)(i k:Nat):((.kA).filterMap λ(m:Nat)=>xs[(.rq).toNat]?).toArray=((.it).take k).toArray:=by
 have e:(λ(m:Nat)=>xs[(.rq).toNat]?)=λm=>xs[i+m]? := by
  funext m;have:(.rq).toNat=i+m:=by lia
  rw[this]
 rw[e];have:=pick_run xs i k;rw[List.filterMap_map]at this;have a:((λx=>xs[x]?) ∘ λx=>i+x)=λm=>xs[i+m]? := rfl;rw[a]at this;rw[this]
def getItem_tuple_cut{lo hi:.aF}(ht:.jH t a)(i:s.heap.IsSliceOf d j k .none)(pl:IsPart j lo)(n:IsPart k hi)
  (p:¬(sIx a.size 0 lo=0/\sIx a.size a.size hi=a.size))
  (h:Q .gN { s with heap:=s.heap.push { cls:=.type "tuple",data:=.seq (.pt).toArray } })
  (hsz:a.size<=sizeLine):.bI .zp Q E s:=by
 have b:sizeOk (.seq (.pt).toArray):=by
  show (.pt).toArray.size<=sizeLine;rw[ZY,WI,List.length_drop,Y6];lia
 have r:sIx a.size a.size hi<=a.size:=Pn _ _ .r hi;obtain⟨l,c,e,o⟩:=id i;have g:s.TypeIs (.ref d) "slice" := ⟨l,c,e⟩;unfold getItem
 try with_reducible refine WE ?_
 first|refine z0 .aZ|skip
 refine z0 (wpAny_sequenceKey ht.typeIs .c ?_);refine z0 (WW (name:=Str.ofString "__getitem__") ht.typeIs W6
  (WJ W6 ht.typeIs entry_tuple_getitem ?_ .y6))
 show wpAny _ _ .v5 _ _ s;refine z0 (tupleItemsOf_ ht ?_);refine z0 (wpAny_typeOf g ?_);rw[z4 .c];refine z0 (kQ i pl n ?_);have f:¬(.pf=true):=by
  intro q;rw[YB,YB]at q;have q1:((sIx a.size 0 lo:Nat):Int)=0:=eq_of_beq q.1.1;have q2:sIx a.size a.size hi-sIx a.size 0 lo=a.size:=eq_of_beq q.2;exact p ⟨by lia,by lia⟩
 show wpAny _ _ .x5 _ _ s;rw[yD f,IG]
 first
  |exact z0 (m:=Builtin.Tuple.tupleExact _) (VG .il b)
  |exact z0 (m:=Builtin.Tuple.tupleExact _) (VG (z0 (wX .il)) b)
  |exact z0 (z0 (m:=Builtin.Tuple.tupleExact _) (VG (wX .il) b))
  |exact z0 (z0 (m:=Builtin.Tuple.tupleExact _) (VG .il b))
end
end HT
namespace L2
open PySem PySem.Spec PyProof.Rows
noncomputable abbrev TO:=St->Hp->(Option Int->Hp->Prop)->Prop
/---/def PO(X:Cx)(e:Option Expr)(t:TO):Prop :=
 ∀(pins:.J) (s:Q5) (σ:St) (H:Hp) (Q:Option Int->Hp->Prop),Inv X pins σ H s->t σ H Q->
  wpAny .ag X.A (evalPart e X.env) (λu s'=>∃o H',Inv X pins σ H' s'/\IsPart u o/\Q o H') X.xe s
/---/def Ml:TO:=λ_ H Q=>Q none H
/---/def RE(t:TE):TO:=λσ H Q=>t σ H λx H1=>∃i,x=.int i/\Q (some i) H1
def iG:∀{a:List S1},aY .b4 a->IntsAre a ns:=by
 induction ns with
 |nil=>intro a r;rw[V0]at r;cases r;exact .nil
 |cons n ns d =>
  intro a r;rw[yP]at r;cases r with
  |cons c b =>
   obtain⟨t,e⟩:=c;subst e;exact .cons n t (d b)
section
variable{X:Cx}{e:Expr}{te:TE}{lo hi:Option Expr}{tl th:TO}{pos p2:Pos}
def Mm:PO X none Ml:=by
 intro pins s σ H Q I h;rw[evalPart_none];exact wX ⟨none,H,I,.none,h⟩
def Mn(h:.w e te):PO X (some e) (RE te):=by
 intro pins s σ H Q I d;rw[evalPart_some];refine thn (.c2 _ I d) λu f ⟨x,b,c,a,q1⟩=>?_;obtain⟨i,rfl,q⟩:=q1;obtain⟨t,rfl⟩:=a;exact⟨some i,b,c,.int i t,q⟩
/---/def SlR(X:Cx)(r:.AI):Prop :=
 ∀(pins:.J) (s:Q5) (σ:St) (H:Hp) (x:V) (v vl vu:S1) (lo hi:.aF) (sl:Addr) (Q:VK),Inv X pins σ H s->cf x v->s.heap.IsSliceOf sl vl vu .none->IsPart vl lo->IsPart vu hi->r x lo hi H Q->
  ∃T id,typeLookup .i5 "__getitem__"=pure (some .eT)/\s.TypeIs v T/\.aS (getItem v<|.ref sl) .cL X.xe s
def SlR.or(h:SlR X r)(h':SlR X c):SlR X (λx lo hi H Q=>r x lo hi H Q\/c x lo hi H Q):=by
 intro pins s σ H x v j f lo hi d Q I g i a b q;rcases q with q|q
 ·exact .c2 x v j f lo hi d Q I g i a b q
 ·exact h' pins s σ H x v j f lo hi d Q I g i a b q
/---/def tSl(r:.AI)(te:TE)(tl th:TO):TE:=λσ H Q=>te σ H λx H1=>tl σ H1 λl H2=>th σ H2 λu H3=>r x l u H3 Q
def A8(o:SlR X r)(he:.w e te)(E:PO X lo tl)(k:PO X hi th):.w (.dZ e<|.o4 p2) (tSl r te tl th):=by
 intro pins s σ H Q I h;refine Subscript_ (thn .ki λv A ⟨x,t,y,g,q1⟩=>?_);refine wpAny_Slice (thn (E pins A σ t _ y q1) λc i ⟨l,B,C,p,q2⟩=>thn (k pins i σ B _ C q2) λd a ⟨u,f,n,z,q3⟩=>?_);rw[evalPart_none];refine wX ?_;have w:.bH f .pu:=n.kept (t':=a.toks) λb F q=>.R q;obtain⟨T,id,D,j,m⟩:=o pins .pu σ f x v c d l u a.heap.objs.size Q w g (Heap.IsSliceOf.new ..) p z q3;show wpAny .ag X.A (subscriptTail e (.o4 p2) v<|.ref a.heap.objs.size) .cL X.xe .pu;exact tail_any (ops:=[.ref a.heap.objs.size,v]) j D m (by with_unfolding_all rfl)
/---/def rM(xs:List V)(lo hi:.aF):List V:=(xs.drop<|HT.sIx xs.length 0 lo).take (HT.sIx xs.length xs.length hi-HT.sIx xs.length 0 lo)
def tD(xs:List V)(lo hi:.aF):(.rB).length<=xs.length:=by
 unfold rM;rw[WI,List.length_drop];lia
/---/def Tw(K:ZX):V->Option Int->Option Int->Hp->VK->Prop:=λx lo hi H Q=>∃a xs,x=.ref a/\SqT K H a xs/\
 ¬.px/\∀p,H p=none->.dv .z2
def IH:SlR X (Tw X.K):=by
 intro pins s σ H x v w y lo hi t Q I j k l m h;obtain⟨a,d,rfl,n,p,q⟩:=h;cases j;obtain⟨f,r,g,i⟩:=I.tuple n;have c:f.toArray.size=d.length:=by rw[ZY];exact r.length.symm
 refine⟨"tuple",_,PyProof.Rows.slot_tuple_getitem.lookup,g.typeIs,?_⟩;refine HT.getItem_tuple_cut g k l m (by rw[c];exact p) ?_ (by rw[c];exact i);rw[c];refine⟨.ref s.heap.objs.size,_,I.laid (t':=s.toks) (o:=.tup (rM d lo hi)) (λb u q=>.R q) .r ?_,rfl,q _ .gX⟩;exact⟨ZM (tD d lo hi) i,_,(r.drop<|HT.sIx d.length 0 lo).take (HT.sIx d.length d.length hi-HT.sIx d.length 0 lo),IsTup.new _ _⟩
/---/def RF(K:ZX):R2:=λx y H Q=>∃a b ns ms,x=.ref a/\y=.ref b/\SqT K H a .b4/\SqT K H b (ms.map V.int)/\Q (.bl<|HT.lexLt ns ms) H
def Po(n:X.A.units<cLine):.ap (.cY .Lt) (RF X.K):=by
 intro pins s σ H x y v u Q I p t h;obtain⟨a,b,f,g,rfl,rfl,i,r,q⟩:=h;cases p;cases t;obtain⟨d,k,j,_⟩:=I.tuple i;obtain⟨c,o,p2,_⟩:=I.tuple r;have m:IntsAre d.toArray.toList f:=iG k;have l:IntsAre c.toArray.toList g:=iG o;exact HT.lt_tupInts j p2 m l n ⟨.bl (HT.lexLt f g),H,I,rfl,q⟩
/---/def A9(K:ZX):R2:=λx y H Q=>∃a b xs ys,x=.ref a/\y=.ref b/\SqT K H a xs/\SqT K H b ys/\xs≠[]/\xs.length+ys.length<=sizeLine/\
 (ys=[]->Q .dg H)/\(ys≠[]->∀p,H p=none->.dv (.bx<|.tup<|xs++ys))
def aY.nil_iff(r:aY xs a):a=[]↔xs=[]:=by
 cases r with
 |nil=>simp
 |cons _ _=>simp
def E6:.ap .iF (A9 X.K):=by
 intro pins s σ H x y v u Q I l n h;obtain⟨a,b,t,k,rfl,rfl,i,m,r,f,q1,q2⟩:=h;cases l;cases n;obtain⟨p,d,j,_⟩:=I.tuple i;obtain⟨g,c,p2,_⟩:=I.tuple m;refine HT.cat_tup j p2 (λz=>r (d.nil_iff.mp z)) (λz=>⟨.ref a,H,I,rfl,q1 (c.nil_iff.mp z)⟩) (λz=>?_) (by rw[<-d.length,<-c.length];exact f);refine⟨.ref s.heap.objs.size,_,I.laid (t':=s.toks) (o:=.tup (t++k)) (λb A q=>.R q) .r ?_,rfl,q2 (λw=>z (c.nil_iff.mpr w)) _ .gX⟩;exact⟨by rw[ZB];exact f,_,d.append c,IsTup.new _ _⟩
end
/---/def ixN(n:Nat)(i:Int):Option Nat:=if 0<=i then .wM else if -(n:Int)<=i then some (i+n).toNat else none
/---/def atI{α:Type}(xs:List α)(i:Int):Option α := (ixN xs.length i).bind λj=>xs[j]?
def E7(h:ixN n i=some j):seqIndex? i n=some j/\j<n/\-(n:Int)<=i/\i<n:=by
 unfold ixN at h
 by_cases b:0<=i
 ·rw[z4 b]at h
  by_cases a:i<n
  ·rw[z4 a]at h
   have e:i.toNat=j:=ZT h;exact⟨by rw[seqIndex_of b a,e],by lia,by lia,a⟩
  ·rw[yD a]at h;cases h
 ·rw[yD b]at h
  by_cases a : -(n:Int)<=i
  ·rw[z4 a]at h
   have e:(i+n).toNat=j:=ZT h;exact⟨by rw[seqIndex_neg .a a,e],by lia,a,by lia⟩
  ·rw[yD a]at h;cases h
def y7(h:atI xs i=some v):∃j,seqIndex? i xs.length=some j/\xs[j]?=some v/\j<xs.length/\-(xs.length:Int)<=i/\i<xs.length:=by
 unfold atI at h;cases e:ixN xs.length i with
 |none=>rw[e]at h;cases h
 |some j =>
  rw[e]at h;obtain⟨c,a,b,d⟩:=E7 e;exact⟨j,c,h,a,b,d⟩
def du{α:Type}{xs:List α}{j:Nat}{v:α}(h:xs[j]?=some v):atI xs (j:Int)=some v:=by
 have a:j<xs.length:=(zS.mp h).1;have e:ixN xs.length (j:Int)=some j:=by
  unfold ixN;rw[z4 .a,z4 .a];simp
 unfold atI;rw[e];exact h
/---/def y8(b:Expr):Prop:=∀o i,subscripted b false o i=operate [o,i] (getItem o i)
/---/def IxR(X:Cx)(r:R2):Prop :=
 ∀(value slice:Expr) (pins:.J) (s:Q5) (σ:St) (H:Hp) (x y:V) (v u:S1) (Q:VK),Inv X pins σ H s->cf x v->cf y u->r x y H Q->
  subscripted slice false v u=operate [v,u] (getItem v u)->.aS (subscriptTail value slice v u) .cL X.xe s
/---/def MtR(X:Cx)(id:String)(r:.oq):Prop :=
 ∀(pins:.J) (s:Q5) (σ:St) (H:Hp) (x:V) (xs:List V) (v:S1) (us:List S1) (Q:VK),Inv X pins σ H s->cf x v->aY xs us->r x xs H Q->
  wpAny .ag X.A (call .eT (v::us)) .cL X.xe s
section
variable{X:Cx}{a b:Expr}{ta tb:TE}{pos:Pos}
def IxR.or(h:IxR X r)(h':IxR X e):IxR X (λx y H Q=>r x y H Q\/e x y H Q):=by
 intro c d pins s σ H x y v u Q I f i q g;rcases q with q|q
 ·exact h c d pins s σ H x y v u Q I f i q g
 ·exact h' c d pins s σ H x y v u Q I f i q g
def Oq(c:IxR X r)(ha:.dX)(hb:.gg)(i:y8 b):.w (.dZ a b) .ns:=by
 intro pins s σ H Q I h;exact Subscript_ (AZ ha hb I h λv u d x y g f e j q=>c a b pins d σ g x y v u Q f e j q (i _ _))
/---/def RG(K:ZX):R2:=λx y H Q=>∃p xs i v,x=.ref p/\y=.int i/\SqL K H p xs/\atI xs i=some v/\Q v H
/---/def RI(K:ZX):R2:=λx y H Q=>∃p xs i v,x=.ref p/\y=.int i/\SqT K H p xs/\atI xs i=some v/\Q v H
/---/def RJ:R2:=λx y H Q=>∃z i c,x=.str z/\y=.int i/\z.length<=sizeLine/\atI z.cps.toList i=some c/\Q (.str ⟨#[c]⟩) H
def E8:IxR X (RG X.K):=by
 intro d e pins s σ H x y v u Q I D F h m;obtain⟨p,O,i,z,rfl,rfl,A,G,q⟩:=h;cases D;obtain⟨t,rfl⟩:=F;obtain⟨g,r,k,M⟩:=I.list A;obtain⟨j,c,J,N,C,B⟩:=y7 G;obtain⟨w,o,l⟩:=r.get J;have K:=r.length;have L:=rL;have fin:.fl w s:=⟨z,H,I,l,q⟩
 by_cases n:0<=i
 ·have f:i.toNat=j:=by
   rw[seqIndex_of n B]at c;exact ZT c
  exact item_listR k.isList n .a .y3 fin m
 ·have f:(i+(g.toArray.size:Int)).toNat=j:=by
   rw[seqIndex_neg .a C]at c;rw[ZY,<-K];exact ZT c
  exact subscriptTail_builtinR (x:=w) k.isList.typeIs slot_list_getitem.lookup
   (wpAny_getItem_list_neg (Q:=λr E=>r=w/\.fl r E) k.isList .a (by rw[ZY]<;>lia) .a .y3 ⟨rfl,fin⟩) m
def Pp:IxR X (RI X.K):=by
 intro c d pins s σ H x y v u Q I l o h n;obtain⟨p,M,i,z,rfl,rfl,k,B,q⟩:=h;cases l;obtain⟨t,rfl⟩:=o;obtain⟨A,r,f,K⟩:=I.tuple k;obtain⟨j,g,C,L,G,F⟩:=y7 B;obtain⟨w,D,e⟩:=r.get C;have E:=r.length;have J:=rL;have fin:.fl w s:=⟨z,H,I,e,q⟩;exact subscriptTail_builtinR (x:=w) f.typeIs slot_tuple_getitem.lookup
  (getItem_tuple (j:=j) (Q:=λr m=>r=w/\.fl r m) f .a .a (by rw[ZY,<-E];exact g) (by simpa using D) ⟨rfl,fin⟩) n
def Pq:IxR X RJ:=by
 intro d e pins s σ H x y v u Q I m o h n;obtain⟨z,i,c,rfl,rfl,C,p,q⟩:=h;obtain⟨t,rfl⟩:=m;obtain⟨E,rfl⟩:=o;obtain⟨j,f,r,D,l,k⟩:=y7 p;have A:z.cps.toList.length=z.length:=by simp[Str.length]
 rw[A]at f l k;have B:=rL;exact tail_any (typeIs_str s z t) slot_str_getitem.lookup (getItem_str (c:=c) (by
  have w:decide (i < -(2^63:Int))=false:=Z6 .a;have g:decide (i≥2^63)=false:=Z6 .a;rw[w,g,Bool.or_false]) (by rw[f];simpa using r) ⟨.str ⟨#[c]⟩,H,I.tok _,⟨_,rfl⟩,q⟩) n
/---/def rIx(K:ZX):R2:=λx y H Q=>RG K x y H Q\/RI K x y H Q\/RJ x y H Q
def Pr:IxR X (rIx X.K):=E8.or (Pp.or Pq)
def DA(c:List S1)(n j:Nat)(u:S1):Obj.mapSeq (·.setIfInBounds j u) { cls:=.type "list",data:=.seq c.toArray n } = { cls:=.type "list",data:=.seq (c.set j u).toArray n }:=by
 simp[Obj.mapSeq]
def Inv.lst{σ:St}(I:.s)(h:H p=some .b5):
  ∃(c:List S1) (n:Nat),aY xs c/\s.heap.get? p=some { cls:=.type "list",data:=.seq c.toArray n }/\xs.length<=sizeLine:=by
 obtain⟨z,c,n,r,e⟩:=I.hok p _ h;exact⟨c,n,r,e,z⟩
def Inv.lstUpd{σ:St}{c its':List S1}{f:Obj->Obj}(I:.s)(h:H p=some .b5)
  (i:s.heap.get? p=some { cls:=.type "list",data:=.seq c.toArray n }) (g:f { cls:=.type "list",data:=.seq c.toArray n } = { cls:=.type "list",data:=.seq its'.toArray d }) (r:aY ys its') (hz:.tj) (t:Nat) :
  Inv X pins σ (.bx .fY) { s with heap:=s.heap.update p f,toks:=t }:=by
 have e:(s.heap.update p f).get? p=some { cls:=.type "list",data:=.seq its'.toArray d }:=by
  rw[Heap.get?_update_self f i (by rw[g]<;>rfl),g]
 refine I.write (x:=p) (e:=p) (by rw[h];trivial) .ca (λb u j q=>(Heap.get?_update_other _ _<|WQ j).trans q) ⟨_,e⟩ ?_;exact⟨hz,its',d,r,e⟩
/---/def RK:V->V->V->Hp->(Hp->Prop)->Prop:=λo i v H Q=>∃p xs k j,o=.ref p/\i=.int k/\H p=some .b5/\ixN xs.length k=some j/\Q (.bx<|.lst<|xs.set j v)
def II:Pd X RK:=by
 intro pins s σ H o i v ov E u Q I B C rv h;obtain⟨p,D,k,j,rfl,rfl,w,z,q⟩:=h;cases B;obtain⟨t,rfl⟩:=C;obtain⟨c,n,r,f,A⟩:=I.lst w;obtain⟨d,G,m,l⟩:=E7 z;have g:=r.length;have F:=rL;have y:Inv X pins σ (.bx<|.lst<|D.set j v) { s with heap:=s.heap.update p (Obj.mapSeq (·.setIfInBounds j u)) } :=
  I.lstUpd w f (DA c n j u) (r.set rv j) (by rw[WH];exact A) s.toks
 by_cases x:0<=k
 ·have e:k.toNat=j:=by
   rw[seqIndex_of x l]at d;exact ZT d
  exact PySem.W.ki_setAt f x .a (by rw[ZY,<-g];exact l) .x7
 ·have e:(k+(c.toArray.size:Int)).toNat=j:=by
   rw[seqIndex_neg .a m]at d;rw[ZY,<-g];exact ZT d
  exact PySem.W.ki_setBack f .a (by rw[ZY,<-g];exact m) .a .x7
def y9(lo hi:.aF)(n:Nat):(.qF).1=((HT.sIx n 0 lo:Nat):Int)/\(.qF).2.1=((HT.sIx n n hi:Nat):Int)/\(.qF).2.2=1:=by
 refine⟨?_,?_,rfl⟩
 ·cases lo with
  |none=>simp[sliceBounds,HT.sIx]
  |some i =>
   dsimp[sliceBounds,HT.sIx,Option.getD_none,show (1:Int)>0 by decide,WB]
   by_cases h:i<0
   ·dsimp[h,WB]<;>lia
   ·dsimp[h,WN]<;>lia
 ·cases hi with
  |none=>simp[sliceBounds,HT.sIx]
  |some i =>
   dsimp[sliceBounds,HT.sIx,Option.getD_none,show (1:Int)>0 by decide,WB]
   by_cases h:i<0
   ·dsimp[h,WB]<;>lia
   ·dsimp[h,WN]<;>lia
def xb(c:List S1)(lo hi:.aF):slicePick c.toArray lo hi none=((c.drop<|HT.sIx c.length 0 lo).take (HT.sIx c.length c.length hi-HT.sIx c.length 0 lo)).toArray:=by
 obtain⟨f,d,e⟩:=y9 lo hi c.toArray.size;unfold slicePick;rw[f,d,e];dsimp[sliceRange_one,pick_run,ZY]<;>rfl
/---/def RL(K:ZX):V->Option Int->Option Int->Hp->VK->Prop:=λx lo hi H Q=>∃a xs,x=.ref a/\SqL K H a xs/\∀p,H p=none->.dv (.bx<|.lst .rB)
def Mo:SlR X (RL X.K):=by
 intro pins s σ H x v w y e f t Q I i k m n h;obtain⟨a,c,rfl,p,q⟩:=h;cases i;obtain⟨l,r,g,j⟩:=I.list p;have d:=r.length;refine⟨"list",_,slot_list_getitem.lookup,g.isList.typeIs,?_⟩;refine wpAny_getItem_list_slice g.isList k m n .none .e ?_ (by rw[ZY]<;>lia);rw[xb,<-d];refine⟨.ref s.heap.objs.size,_,I.laid (t':=s.toks) (o:=.lst (rM c e f)) (λb u q=>.R q) .r ?_,rfl,q _ .gX⟩;exact⟨ZM (tD c e f) j,_,0,(r.drop<|HT.sIx c.length 0 e).take (HT.sIx c.length c.length f-HT.sIx c.length 0 e),ZJ _ rfl⟩
noncomputable def o0:V->Bool
 |.non=>true
 |.bl _=>true
 |.int _=>true
 |.str _=>true
 |_=>false
noncomputable def eqV:V->V->Bool
 |.non,.non=>true
 |.bl a,.bl b=>a == b
 |.bl a,.int b=>(if a then 1 else 0) == b
 |.int a,.bl b=>a == (if b then 1 else 0)
 |.int a,.int b=>a == b
 |.str a,.str b=>a == b
 |_,_=>false
def Ps(f:cf y u)(c:cf x v)(g:o0 y=true)(e:o0 x=true):SeqAt.EqAt A s u v (eqV y x):=by
 cases y with
 |non =>
  cases f;cases x with
  |non=>cases c;exact SeqAt.EqAt.same _
  |bl b=>cases c;exact SeqAt.EqAt.none_bool b
  |int b=>obtain⟨t,rfl⟩:=c;exact SeqAt.EqAt.none_int b t
  |str b=>obtain⟨t,rfl⟩:=c;exact SeqAt.EqAt.none_str b t
  |_=>exact .o5 Z7
 |bl a =>
  cases f;cases x with
  |non=>cases c;exact SeqAt.EqAt.bool_none a
  |bl b=>cases c;exact SeqAt.EqAt.bool_bool a b
  |int b=>obtain⟨t,rfl⟩:=c;exact SeqAt.EqAt.bool_int a b t
  |str b=>obtain⟨t,rfl⟩:=c;exact SeqAt.EqAt.bool_str a b t
  |_=>exact .o5 Z7
 |int a =>
  obtain⟨d,rfl⟩:=f;cases x with
  |non=>cases c;exact SeqAt.EqAt.int_none a d
  |bl b=>cases c;exact SeqAt.EqAt.int_bool a d b
  |int b=>obtain⟨t,rfl⟩:=c;exact U8 a d b t
  |str b=>obtain⟨t,rfl⟩:=c;exact SeqAt.EqAt.int_str a d b t
  |_=>exact .o5 Z7
 |str a =>
  obtain⟨d,rfl⟩:=f;cases x with
  |non=>cases c;exact SeqAt.EqAt.str_none a d
  |bl b=>cases c;exact SeqAt.EqAt.str_bool a d b
  |int b=>obtain⟨t,rfl⟩:=c;exact SeqAt.EqAt.str_int a d b t
  |str b=>obtain⟨t,rfl⟩:=c;exact SeqAt.EqAt.str_str a d b t
  |_=>exact .o5 Z7
 |_=>exact absurd (show false=true from g) Z7
/---/def eqU(x:V)(u:S1):Bool:=match u with
 |.none=>eqV .non x
 |.bool b=>eqV (.bl b) x
 |.int i _=>eqV .cX x
 |.str z _=>eqV (.str z) x
 |_=>false
def IJ(r:cf y u)(f:o0 y=true):eqU x u=eqV y x:=by
 cases y with
 |non=>cases r;rfl
 |bl b=>cases r;rfl
 |int i=>obtain⟨t,rfl⟩:=r;rfl
 |str z=>obtain⟨t,rfl⟩:=r;rfl
 |_=>exact absurd (show false=true from f) Z7
theorem zd:∀{xs:List V} {c:List S1},aY xs c->xs.all o0=true->c.any .hv=xs.any λy=>eqV y x
 |_,_,.nil,_=>rfl
 |y::xs,u::c,.cons r t,f=>by
  rw[XW,YB]at f;rw[V5,V5,IJ r f.1,zd t f.2]
theorem vv{x:V}{v:S1}(e:cf x v)(g:o0 x=true):∀{xs:List V} {d:List S1},aY xs d->xs.all o0=true->∀u∈d,SeqAt.EqAt A s u v (eqU x u)
 |_,_,.nil,_=>λu c=>by cases c
 |y::xs,u::d,.cons r t,f=>λh c=>by
  rw[XW,YB]at f;rcases y4.mp c with rfl|c
  ·rw[IJ r f.1];exact Ps r e f.1 g
  ·exact vv e g t f.2 h c
/---/def inV(x:V)(xs:List V):Bool:=xs.any λy=>eqV y x
/---/def rIn(K:ZX)(neg:Bool):R2:=λx y H Q=>∃p xs,y=.ref p/\(SqL K H p xs\/SqT K H p xs)/\o0 x=true/\xs.all o0=true/\Q (.bl<|if neg then !inV x xs else inV x xs) H
def rN:.ap (.cY .In) (rIn X.K false):=by
 intro pins s σ H x y v u Q I i l h;obtain⟨p,m,rfl,d,j,e,q⟩:=h;cases l;rcases d with d|d
 ·obtain⟨c,r,f,k⟩:=I.list d
  refine SeqAt.in_listAt .hv f.isList .ym ⟨.bl _,H,I,rfl,?_⟩;rw[show c.toArray.any .hv=c.any .hv by simp,zd r e];exact q
 ·obtain⟨c,r,f,k⟩:=I.tuple d
  refine SeqAt.in_tupleAt .hv f .ym ⟨.bl _,H,I,rfl,?_⟩;rw[show c.toArray.any .hv=c.any .hv by simp,zd r e];exact q
def ze:jb X (.cZ "len") (λxs H Q=>∃p ys,xs=.hr/\.xg/\Q (.int ys.length) H):=by
 intro pins s σ H xs l Q I r h;obtain⟨p,ys,rfl,d,q⟩:=h;obtain⟨u,rfl,i⟩:=IC r;cases i;have k:=rL;rcases d with d|d
 ·obtain⟨e,g,f,j⟩:=I.list d
  have c:=g.length;exact Calls.call_len_list f.isList .ke ⟨.int ys.length,H,I.tok _,⟨s.toks+1,by rw[ZY,c]⟩,q⟩
 ·obtain⟨e,g,f,j⟩:=I.tuple d
  have c:=g.length;exact len_tuple f .ke ⟨.int ys.length,H,I.tok _,⟨s.toks+1,by rw[ZY,c]⟩,q⟩
def zf:jb X .oY (λxs H Q=>∃p ys,xs=.hr/\.xg/\∀l,H l=none->Q .i7 (.az l .fY)):=by
 intro pins s σ H xs A Q I r h;obtain⟨p,ys,rfl,j,q⟩:=h;obtain⟨u,rfl,z⟩:=IC r;cases z;have fin:∀(c:List S1),aY ys c->ys.length<=sizeLine->∀(d:Heap) (g:Nat),(∀b y,s.heap.get? b=some y->d.get? b=some y)->
   d.get? s.heap.objs.size=some { cls:=.type "list",dict:=none,data:=.seq c.toArray g,slots := #[] }->EP X pins σ Q .gN { s with heap:=d }:=λc f k d g i e =>
  ⟨.ref s.heap.objs.size,_,I.laid (t':=s.toks) i .r (show fO X.prog X.w _ d _ .fY from ⟨k,c,g,f,e⟩),rfl,q _ .gX⟩
 rcases j with j|j
 ·obtain⟨c,f,w,k⟩:=I.list j
  have m:=f.length;obtain⟨o,x,t,n,v⟩:=w.isList;exact call_list_seq p .ca x t v .xs .ke
 ·obtain⟨c,f,w,k⟩:=I.tuple j
  have m:=f.length;obtain⟨o,x,t,n,v⟩:=w;exact call_list_seq p .gm x t v .xs .ke
def xc:jb X (.type "tuple") (λxs H Q=>∃p ys,xs=.hr/\((SqL X.K H p ys/\∀l,H l=none->Q .i7 (.az l .iY))\/(SqT X.K H p ys/\.dv H))):=by
 intro pins s σ H xs w Q I r h;obtain⟨p,ys,rfl,h⟩:=h;obtain⟨u,rfl,t⟩:=IC r;cases t;rcases h with ⟨f,q⟩|⟨f,q⟩
 ·obtain⟨c,g,i,j⟩:=I.list f
  have k:=g.length;refine call_tuple_list i.isList (λd n=>?_) .ke;have m:Inv X pins σ H { s with heap:=d }:=I.kept (t':=s.toks) n;have v:Inv X pins σ (.az d.objs.size .iY) { s with heap:=d.push { cls:=.type "tuple",data:=.seq c.toArray } } :=
   m.laid (t':=s.toks) (λb o e=>.R e) .r (show fO X.prog X.w _ _ _ .iY from ⟨j,c,g,IsTup.new _ _⟩)
  exact⟨.ref d.objs.size,_,v,rfl,q _ (m.hok.fresh .r)⟩
 ·obtain⟨c,g,i,j⟩:=I.tuple f
  exact call_tuple_same i ⟨.ref p,H,I,rfl,q⟩
/---/def tyV(K:ZX)(T:String)(x:V)(H:Hp):Prop:=match x with
 |.str _=>T="str"
 |.int _=>T="int"
 |.ref p=>(T="list"/\∃xs,SqL K H p xs)\/(T="tuple"/\∃o,K.lookup p=some o/\o.cls=.type "tuple"/\o.dict=none)\/
   (T="dict"/\((∃kvs,H p=some .k3)\/∃kvs,H p=some .jt))\/(T="set"/\∃S n,H p=some (.set S n))
 |_=>False
def Pt{σ:St}(I:.s)(r:cf x v)(g:tyV X.K T x H):
  s.TypeIs v T/\∀a,v=.ref a->∃l,s.heap.get? a=some l/\l.dict=none:=by
 cases x with
 |str z =>
  obtain⟨t,rfl⟩:=r;cases (show T="str" from g);exact⟨typeIs_str s z t,λ_ e=>nomatch e⟩
 |int i =>
  obtain⟨t,rfl⟩:=r;cases (show T="int" from g);exact⟨typeIs_int s i t,λ_ e=>nomatch e⟩
 |ref p =>
  cases r;rcases g with ⟨rfl,w,u⟩|⟨rfl,o,d,q,h⟩|⟨rfl,d⟩|⟨rfl,S,n,d⟩
  ·obtain⟨m,_,k,_⟩:=I.list u
   refine⟨k.isList.typeIs,λa e=>?_⟩;cases e;obtain⟨o,n,e,c,h,_⟩:=k;exact⟨o,e,h⟩
  ·refine⟨⟨o,I.kIn p o d,q⟩,λa e=>?_⟩
   cases e;exact⟨o,I.kIn _ o d,h⟩
  ·have z:∃o,s.heap.get? p=some o/\o.ExactDict:=by
    rcases d with ⟨kvs,d⟩|⟨kvs,d⟩
    ·obtain⟨_,_,_,_,o,_,_,e,f,_⟩:=I.hok p _ d
     exact⟨o,e,f⟩
    ·obtain⟨_,_,_,_,o,_,_,e,f,_⟩:=I.hok p _ d
     exact⟨o,e,f⟩
   obtain⟨o,e,f⟩:=z;refine⟨⟨o,e,f.1⟩,λa j=>?_⟩;cases j;exact⟨o,e,f.2.1⟩
  ·obtain⟨o,_,_,_,e,f,_⟩:=I.hok p _ d
   refine⟨⟨o,e,f.1⟩,λa j=>?_⟩;cases j;exact⟨o,e,f.2.1⟩
 |_=>exact False.elim g
/---/def tBM(K:ZX)(T:String)(r:.oq)(to:TE)(t:TA):TE:=λσ H Q=>to σ H λx H1=>tyV K T x H1/\t σ H1 λxs H2=>r x xs H2 Q
variable{o e:Expr}{es:.a8}{to:TE}{t:TA}{name:Str}{apos cpos:Pos}{T id:String}{r:.oq}
def IK(m:PlainAttrs T)(slot:Slot T name id)(i:typeOf .eT=pure (.type "method_descriptor"))(hm:MtR X id r)(A:.w o to)(ha:PA X .dM t)
  (f:autoParam (.gv name X.env .db=eval o X.env) Q3Q._auto_1)
  (g:autoParam (((.hU<|starEach (e :: es) X.env).all .iJ && (.rd).all .ix
   && decide ((.dM).length+([]:List Keyword).length+.pg<30))=true) Q3Q._auto_1)
  (d:autoParam (.qA=true) Q3Q._auto_1) (w:autoParam (.lN X.env=(false,.cH X.env)::starEach es X.env) Q3Q._auto_1) (c:autoParam ((.hU .mh).any (·.1)=false) Q3Q._auto_1) :
  PE X (.Call (.ju name) .dM [] cpos) (tBM X.K T r to t):=by
 intro pins s σ H Q I h;refine wpAny_Call_method_late f g d rfl (thn (A pins s σ H _ I h) λv D zz=>?_);obtain⟨x,B,l,j,z,q1⟩:=zz;obtain⟨n,y⟩:=Pt l j z;refine⟨T,id,m,slot,i,n,y,?_⟩;have k:=ha cpos pins D σ B _ l q1;rw[w]at k⊢;refine Calls.callWith_builtin (by show (false||(.hU .mh).any (·.1))=false;rw[c]<;>rfl) (Calls.evalArgs_plain ?_);exact thn k λu p ⟨C,F,E,q,q2⟩=>hm pins p σ F x C v u Q E j q q2
end
/---/def MtM(X:Cx)(id:String)(r:.oq):Prop :=
 ∀(pins:.J) (s:Q5) (σ:St) (H:Hp) (x:V) (xs:List V) (v:S1) (us:List S1) (Q:VK),Inv X pins σ H s->cf x v->aY xs us->r x xs H Q->
  wpAny .ag X.A (call .eT (v::us)) .cL X.xe s
def aY.one(h:aY [x] a):∃u,a=[u]/\cf x u:=by
 cases h with
 |cons r t=>cases t;exact⟨_,rfl,r⟩
def aY.two(h:aY [x,y] a):∃u v,a=[u,v]/\cf x u/\cf y v:=by
 cases h with
 |cons r t =>
  cases t with
  |cons q t=>cases t;exact⟨_,_,rfl,r,q⟩
theorem aY.eraseIdx:∀{xs:List V} {a:List S1} (i:Nat),aY xs a->aY (xs.eraseIdx i) (a.eraseIdx i)
 |_,_,_,.nil=>.nil
 |_,_,0,.cons _ t=>t
 |_,_,i+1,.cons r t=>.cons r (aY.eraseIdx i t)
theorem aY.rep(h:aY xs a):∀k:Nat,aY (.Ao).flatten (.rg).flatten
 |0=>.nil
 |k+1=>by
  rw[X4,X4,X6,X6];exact aY.append h (aY.rep h k)
theorem xM{α:Type}:∀(l:List α) (i:Nat),(l.eraseIdx i).length<=l.length
 |[],_=>ZL _
 |_::_,0=>xa _
 |_::r,i+1=>Nat.succ_le_succ (xM r i)
theorem xN(a:List S1):∀(k:Nat) (acc:List S1),
  List.foldl (λd b=>d++b) acc.toArray (.d0 k a.toArray)=(acc++(.rg).flatten).toArray
 |0,acc=>by simp
 |k+1,acc=>by
  have e:acc.toArray++a.toArray=(acc++a).toArray:=by simp
  have c:(acc++a)++(.rg).flatten=acc++(.d0 (k+1) a).flatten:=by
   rw[X4,X6,ZU]
  rw[<-c,<-xN a k (acc++a),<-e,X4,UG]
section
variable{X:Cx}{pins:.J}{σ:St}{H:Hp}{s:Q5}{l b:Addr}{xs ys zs:List V}
def Inv.lset{a its':List S1}(I:.s)(d:H l=some .b5)
  (e:s.heap.get? l=some { cls:=.type "list",data:=.seq a.toArray n }) (h:f a.toArray=its'.toArray) (c:aY ys its') (hz:.tj) :
  Inv X pins σ (.az l .fY) { s with heap:=s.heap.update l (Obj.mapSeq f),toks:=t' }:=by
 have q:=PySem.IsL.update e f;rw[h]at q;refine I.write (x:=l) (e:=l) (by rw[d];exact trivial) .ca (λj u i g=>(Heap.get?_update_other s.heap (Obj.mapSeq f)<|WQ i).trans g) ⟨_,q⟩ ?_;exact⟨hz,its',_,c,q⟩
def Inv.lnew(I:.s)(c:aY ys a)(hz:.tj):
  Inv X pins σ (.lI .fY) { s with heap:=s.heap.push { cls:=.type "list",data:=.seq a.toArray },toks:=t' } :=
 I.laid .rO .r ⟨hz,a,0,c,ZJ _ rfl⟩
def Inv.fresh(I:.s):H s.heap.objs.size=none:=I.hok.fresh .r
def Inv.lstM(I:.s)(c:H l=some .b5):xs.length<=sizeLine/\∃(a:List S1) (n:Nat),aY xs a/\xs.length=a.length/\s.heap.get? l=some { cls:=.type "list",data:=.seq a.toArray n }:=by
 obtain⟨z,a,n,r,e⟩:=I.hok l _ c;exact⟨z,a,n,r,r.length,e⟩
def Bc(h:n<=sizeLine):Builtin.List.listTooLong n=false:=by
 unfold Builtin.List.listTooLong;exact Z6 .a
end
section
variable{X:Cx}
/---/def Mp:V->List V->Hp->VK->Prop:=λx vs H Q=>∃l xs y,x=.ref l/\vs=[y]/\H l=some .b5/\xs.length<sizeLine/\Q .non (.az l<|.lst<|xs++[y])
def xO:MtM X "list.append" Mp:=by
 intro pins s σ H x f v j Q I d rv h;obtain⟨l,i,y,rfl,rfl,b,g,q⟩:=h;cases d;obtain⟨u,rfl,c⟩:=rv.one;obtain⟨z,a,n,r,k,e⟩:=I.lstM b;refine call_meets F.slot_list_append ⟨_,e,rfl⟩ F.entry_list_append (F.args_list_append_2 _ _) (PySem.list_append l a.toArray n u .sn) ⟨e,?_⟩;refine⟨.non,_,I.lset (its':=a++[u]) b e .e (r.append<|.cons c .nil) ?_,rfl,q⟩;rw[ZB,List.length_singleton];lia
/---/def Mq:V->List V->Hp->VK->Prop:=λx vs H Q=>∃l b xs zs,x=.ref l/\vs=[.ref b]/\H l=some .b5/\H b=some (.lst zs)/\xs.length+zs.length<=sizeLine/\Q .non (.az l<|.lst<|xs++zs)
def Gy:MtM X "list.extend" Mq:=by
 intro pins s σ H x C v A Q I p rv h;obtain⟨l,b,D,w,rfl,rfl,g,o,y,q⟩:=h;cases p;obtain⟨u,rfl,j⟩:=rv.one;cases j;obtain⟨z,c,n,r,E,e⟩:=I.lstM g;obtain⟨B,a,t,k,m,i⟩:=I.lstM o;have f:c.toArray.size+a.toArray.size<=sizeLine:=by rw[ZY,ZY];lia
 have d:¬(!c.toArray.isEmpty&&Builtin.List.listTooLong (c.toArray.size+a.toArray.size))=true:=by
  rw[Bc f,Bool.and_false];exact Z7
 refine call_meets F.slot_list_extend ⟨_,e,rfl⟩ F.entry_list_extend (F.args_list_extend_2 _ _)
  (AutoSeq1.list_extend_list_list_0 l c.toArray n b a.toArray t d .sn .a) ⟨e,i,?_⟩
 refine⟨.non,_,I.lset (its':=c++a) g e .e (r.append k) ?_,rfl,q⟩;rw[ZB];lia
/---/def Pu:V->List V->Hp->VK->Prop:=λx vs H Q=>∃l xs i k y,x=.ref l/\vs=[.int i]/\H l=some .b5/\-(2^63)<=i/\i<2^63/\seqIndex? i xs.length=some k/\xs[k]?=some y/\Q y (.az l<|.lst<|xs.eraseIdx k)
def IL:MtM X "list.pop" Pu:=by
 intro pins s σ H x D v C Q I g rv h;obtain⟨l,p,i,k,y,rfl,rfl,c,d,m,j,o,q⟩:=h;cases g;obtain⟨u,rfl,f⟩:=rv.one;obtain⟨t,rfl⟩:=f;obtain⟨z,a,n,r,B,e⟩:=I.lstM c;obtain⟨w,A,b⟩:=r.get o;refine call_meets F.slot_list_pop ⟨_,e,rfl⟩ F.entry_list_pop (F.args_list_pop_2 _ _)
  (MeetsSeq.list_pop_at l a.toArray n i t k w (fitsIndex_both d m) (by rw[ZY,<-B];exact j) (by rw[<-Array.getElem?_toList];exact A) .sn) ⟨e,?_⟩
 refine⟨y,_,I.lset (its':=a.eraseIdx k) c e ?_ (r.eraseIdx k) ?_,b,q⟩
 ·show a.toArray.eraseIdxIfInBounds k=(a.eraseIdx k).toArray
  rw[List.eraseIdxIfInBounds_toArray]
 ·have:=xM p k
  lia
/---/def Tx:R2:=λx y H Q=>∃l b xs zs,x=.ref l/\y=.ref b/\H l=some .b5/\H b=some (.lst zs)/\xs.length+zs.length<=sizeLine/\∀p,H p=none->.dv (.bx<|.lst<|xs++zs)
def Pv:.ap .iF Tx:=by
 intro pins s σ H x y v u Q I k m h;obtain⟨l,b,B,p,rfl,rfl,g,j,t,q⟩:=h;cases k;cases m;obtain⟨z,c,n,r,C,e⟩:=I.lstM g;obtain⟨A,a,w,i,o,f⟩:=I.lstM j;refine PySem.P.add_list e f ?_ (by rw[ZY,ZY];lia);have d:c.toArray++a.toArray=(c++a).toArray:=by simp
 rw[d];exact⟨.ref _,_,I.lnew (t':=s.toks) (r.append i) (by rw[ZB];lia),rfl,q _ I.fresh⟩
/---/def Tz:R2:=λx y H Q=>∃l k xs,x=.ref l/\y=.int k/\H l=some .b5/\-(2^63)<=k/\k<2^63/\xs.length*k.toNat<=sizeLine/\
 ∀p,H p=none->.dv (.bx<|.lst (.d0 k.toNat xs).flatten)
def Mr{α:Type}(xs:List α)(k:Nat):(.Ao).flatten.length=k*xs.length:=by
 induction k with
 |zero=>simp
 |succ k a=>rw[X4,X6,ZB,a,Nat.succ_mul,wa]
def Pw:.ap (binaryOp .Mult) Tz:=by
 intro pins s σ H x y v u Q I B D h;obtain⟨l,k,L,rfl,rfl,w,A,E,p,q⟩:=h;cases B;obtain⟨t,rfl⟩:=D;obtain⟨z,b,n,r,J,e⟩:=I.lstM w;have d:b.toArray.size*k.toNat<=sizeLine:=by rw[ZY,<-J];exact p
 have f:¬b.toArray.size*k.toNat>(2^63-1)/8:=by
  have:(sizeLine:Nat)<=(2^63-1)/8:=by decide
  lia
 have i:¬(!Builtin.List.listFitsIndex k)=true:=by
  rw[fitsIndex_both A E];exact Z7
 have c:¬Builtin.List.listTooLong (b.toArray.size*k.toNat)=true:=by
  rw[Bc d];exact Z7
 have g:List.foldl (λj o=>j++o) #[] (.d0 (if b.toArray.isEmpty=true then 0 else k.toNat) b.toArray)=(.d0 k.toNat b).flatten.toArray:=by
  have G:∀m:Nat,List.foldl (λj o=>j++o) #[] (.d0 m b.toArray)=(.d0 m b).flatten.toArray:=λm=>by
   have:=xN b m [];rw[List.nil_append]at this;exact this
  rw[G];cases b with
  |nil=>simp
  |cons a K=>rw[yD .e]
 refine wpAny_binaryOp_repeat_ref (T := "list") (U := "int") .c ⟨_,e,rfl⟩ (λC=>typeIs_int C k t) noFill_list_mul F.fills_int_mul F.slot_int_rmul repeat_list F.slot_int_index.lookup
  (call_meets F.slot_int_rmul (typeIs_int s k t) F.entry_int_rmul (F.args_int_rmul_2 _ _) (int___rmul___int_list k t l b.toArray n)
   ⟨e,rfl,⟨_,e,rfl⟩,call_meets F.slot_list_mul ⟨_,e,rfl⟩ F.entry_list_mul (F.args_list_mul_2 _ _) (AutoListH.list___mul___list_int_3 l b.toArray n k t i f c) ⟨e,?_⟩⟩)
 rw[g];exact⟨.ref _,_,I.lnew (t':=s.toks) (r.rep k.toNat) (by rw[Mr,Nat.mul_comm];exact p),rfl,q _ I.fresh⟩
end
section
variable{prog:P2}{w:N3}{A:P1}{E:.q}{s:Q5}
end
section
variable{X:Cx}
end
end L2
namespace Att
open PySem PySem.W PySem.Calls PyProof.Rows
def ud:∀(ns:.b) (vs:List S1),WellAll P h vs (ns.map WData.int)->IntsAre vs ns:=by
 intro ns
 induction ns with
 |nil =>
  intro vs w;rw[V0]at w;cases w;exact .nil
 |cons n ns c =>
  intro vs w;rw[yP]at w;cases w with
  |cons a b =>
   cases a;exact .cons _ _ (c _ b)
def Gz{l:OpenLaw}(hn:l.most=some n)
  (c:l.row.toRowW.claim.pre args=true) (i:WellAll P h b args) :
  ∃a vs ns,b=[Value.ref a]/\args=[WData.list (ns.map WData.int)]/\h.get? a=some { cls:=.type "list",data:=.seq vs.toArray }/\IntsAre vs ns/\ns.length<=n:=by
 have j:WShape.hasAll [] args [.list .int]=true:=(pre_splitW c).1;have k:l.pre.holds [] { args:=args }=true:=(pre_splitW c).2;obtain⟨d,r,rfl,m,t⟩:=hasAllW_cons j;obtain rfl:=hasAllW_nil t;obtain⟨w,rfl,u⟩:=hasW_list m;obtain⟨ns,rfl⟩:=items_int u;have e:ns.length<=n:=by
  unfold OpenLaw.pre at k;have g:(WTm.not<|.lt (.lit<|.int (n:Int))<|.len<|.arg 0).holds [] { args:=[.list .eH] }=true:=by
   have g:=(holds_andW k).1;rw[hn]at g;exact g
  have f:=condW_of g (w_not<|w_lt w_lit<|w_len_list<|w_arg rfl);rw[ZA]at f;refine UU λq=>?_;have o:(n:Int)<((ns.length:Nat):Int):=by lia
  first
   |(rw[ZZ o]at f;exact absurd f .c)
   |(simp at f;lia)
 cases i with
 |cons s p =>
  cases p;cases s with
  |list v hall=>exact⟨_,_,ns,rfl,rfl,v,ud ns _ hall,e⟩
def GA(l:OpenLaw)(args:List WData):l.row.toRowW.claim.post args .kM args=true :=
 postW_of (r:=l.row.toRowW) (X:=(true == true))
  (show WShape.has [] (.bool true) .bool=true by first|rfl|decide|simp[WShape.has,WShape.arms,WShape.armsAll])
  (show (WTm.eq .res<|.lit .kM).value [] { args:=args,res:=some .kM,after:=args }=some (.bool<|true == true) from w_eq_bool (w_res rfl) w_lit) rfl
def attach_call{l:OpenLaw}{XP:.tw}
  (hn:l.most=some n) (v:.tg)
  (call:∀(w:N3) (s₀ b : Q5) (mg u:.aI) (h:Addr) (o:Obj) (pm p e:S1) (a:Addr) (vs:List S1) (ns:.b),
   Ground q c [] XP w s₀ mg u b.heap->A w b.heap->
   b.heap.get? h=some o->o.data=.func (docDef d.name d.params d.body d.scope pm p e)->b.heap.CodeRec p d.name->mg d.name=some (.ref h)->
   b.heap.get? a=some { cls:=.type "list",data:=.seq vs.toArray }->IntsAre vs ns->ns.length<=n->b.gens = #[]->
   codeAny (model l.prog w) callerA (.call (.ref h) ⟨[.ref a],[]⟩) (λr m=>r=.ok (.ret .kM)/\OldK b.heap m.heap/\m.os=b.os/\AllBare m.gens) b) :
  WalkO q c XP A l.row.toRowW d [] .qI:=by
 intro w s₀ b mg u G Y h o pm p e J kV L I s y hmg F x z O k B C t N;obtain rfl:J=.none:=Dflts.none y v;obtain rfl:kV=.none:=Dflts.noKw y;obtain⟨a,vs,ns,rfl,rfl,j,g,i⟩:=Gz hn k t;refine enter_call (codeAny_mono (call w s₀ b mg u h o pm p e a vs ns G Y L (fd_plain I) s hmg j g i F) λr m D=>?_);obtain⟨rfl,K,M,E⟩:=D;exact⟨.inl ⟨.bool true,.bool true,[],rfl,λ_=>rfl,.bool true,GA l _,λ_=>⟨List.Pairwise.nil,λ_ H=>(nomatch H)⟩⟩,K,M,E⟩
section
variable{prog:P2}{w:N3}{A:P1}{E:.q}{s:Q5}{K:Frag}
/---/def noObjs(h:Heap):Heap:={ h with objs := #[] }
def noObjs_get(h:Heap)(b:Addr):(noObjs h).get? b=none:=by
 cases e:(noObjs h).get? b with
 |none=>rfl
 |some o=>exact absurd (ZI e) .em
/---/def ledger(h:Heap)(L d:Addr):List .ex:=(.qU).filterMap λa=>if a=L\/a=d then none else (h.get? a).map λo=>(a,o)
def mem_ledger:(a,o)∈ledger h L d↔a≠L/\a≠d/\h.get? a=some o:=by
 unfold ledger;rw[WS];constructor
 ·rintro⟨b,_,e⟩
  split at e
  ·cases e
  ·rename_i f
   obtain⟨k,c,g⟩:=XA.mp e;cases g;exact⟨λq=>f (.inl q),λq=>f (.inr q),c⟩
 ·rintro⟨i,j,c⟩
  refine⟨a,YD.mpr (ZI c),?_⟩;rw[yD (show ¬(a=L\/a=d) from λq=>q.elim i j),c]<;>rfl
def fr_all(n:h.Ns L m):Fr (noObjs h) L h m :=
 ⟨n,λb o e=>(by rw[noObjs_get]at e;cases e),YZ _⟩
end
end Att
namespace L2
open PySem PySem.Spec PyProof.Rows
theorem xP:∀{vs:List S1} {ns:.b},IntsAre vs ns->aY .b4 vs
 |_,_,.nil=>.nil
 |_,_,.cons n t h=>.cons ⟨t,rfl⟩ (xP h)
/---/def Px(H:Hp):Prop:=∀b,H b=none\/∃o xs,H b=some (.frz o .b5)
def IM{K:ZX}{x:Str}{Y:Sp}{c:Q5}{vs:List S1}{ns:.b}
  (KX:K.In c.heap) (y:c.heap.Ns mainGlobals mg) (hb:c.heap.Ns builtinsNs I) (G:∀x:Str,x≠"__name__"->I x=bootBuiltins x) (C:c.heap.NoLimit) (hg:c.gens = #[])
  (ha:c.heap.get? a=some { cls:=.type "list",data:=.seq vs.toArray }) (hi:IntsAre vs ns) (X:ns.length<=sizeLine) (hr:jz k callerA)
  (F:∀base:Heap,K.In base->base.Ns mainGlobals mg->.lJ CX k L U [x] Y) (l:∀(s:Q5) (u:S1),BindsTo s U ⟨[u],[]⟩ [(x,u)])
  (N:∀H:Hp,Px H->SqL K H a .b4->Y .di H (λv _=>v=.bl true) λ_ _ _=>False)
  (Q:∀H e g,CX [] H c (λ_ _ _=>False) e g->False) :
  codeAny .eY callerA .xz .uh c := by
 have rv:=xP hi;have p:=hi.length;have j:∀H:Hp,Px H->SqL K H a .b4->HOk P w H c.heap->(∀b,H b≠none->b=a)->(H a≠none->K.lookup a=none)->
   codeAny .eY callerA .xz .uh c := by
  intro H W hS hok R hK;have f:∀{b:Addr} {o:Obj},c.heap.get? b=some o->H b=none->(.kP).get? b=some o:=λe n=>Im e n;have O:∀{b:Addr} {o:Obj} {E:Array DictEntry} {t:Nat},c.heap.get? b=some o->o.data=.dict E t->H b=none:=λ{b o E t} e d=>by
   cases q:H b with
   |none=>rfl
   |some u =>
    have J:b=a:=R b .sm;subst J;rw[ha]at e;cases e;have d':Data.seq vs.toArray _=Data.dict E t:=d;cases d'
  have i:∀{b:Addr} {m:.aI},c.heap.Ns b m->(.kP).Ns b m:=λ{b m} ⟨o,E,t,e,d,r⟩=>⟨o,E,t,f e (O e d),d,r⟩;have A:K.In .kP:=λb o e=>f (KX b o e) (by
   cases q:H b with
   |none=>rfl
   |some u =>
    have J:b=a:=R b .sm;subst J;rw[hK .sm]at e;cases e)
  have hM:Mod K mg .kP:=⟨A,i y,⟨I,i hb,G⟩,let ⟨mc,h1,h2⟩:=C;⟨mc,i h1,h2⟩⟩;have e0:Mi P w K mg .kP callerA [] c H:=⟨rfl,hM,λb o e=>L4 e,V1 (Gp _ _),trivial,λb hb=>absurd (show b∈([]:List Addr) from hb) .e,hok,.of_eq hg⟩;refine codeAny_mono ((F _ A<|i y).run callerA [] c H ⟨[.ref a],[]⟩ .di .di _ _ hr e0 (l c .dg) (.cons rfl .nil) (N H W hS)) λr g h=>?_;cases r with
  |error e=>exact(Q H e g h).elim
  |ok fl =>
   cases fl with
   |next=>exact False.elim h
   |brk=>exact False.elim h
   |cont=>exact False.elim h
   |ret u =>
    obtain⟨v,H',os,bare,S,D,r',q⟩:=h;have q':v=.bl true:=q;subst q';obtain rfl:u=Value.bool true:=r';refine⟨rfl,OldK.of_keep λb o e=>?_,os,bare⟩;cases q:H b with
    |none=>exact S.keep b o e q (by intro z;exact absurd (show b∈([]:List Addr) from z) .e) .e
    |some u =>
     rcases W b with z|⟨ob,xs,z⟩
     ·rw[q]at z;cases z
     ·have z2:=S.frzs b ob _ z
      obtain⟨T,_⟩:=hok b _ z;obtain⟨Z,_⟩:=D b _ z2;rw[e]at T;cases T;exact Z
 cases M:K.lookup a with
 |some o =>
  have e:=KX a o M;rw[ha]at e;cases e;refine j (λ_=>none) (λ_=>.inl rfl) (.inr ⟨_,vs.toArray,_,M,rfl,rfl,rfl,by rw[ZY,p];exact X,by simpa using rv⟩) (λb u z=>by have B:(none:Option HO)=some u:=z;cases B) (λb z=>absurd rfl z) λz=>absurd rfl z
 |none =>
  refine j (λb=>if b=a then some (.frz { cls:=.type "list",data:=.seq vs.toArray } (.lst .b4)) else none) (λb=>?_) (.inl<|.inr ⟨{ cls:=.type "list",data:=.seq vs.toArray },z4 rfl⟩) (λb u z=>?_) (λb z=>?_) λ_=>M
  ·by_cases hb:b=a
   ·exact .inr ⟨_,_,z4 hb⟩
   ·exact .inl (yD hb)
  ·by_cases hb:b=a
   ·have B:=(z4 hb).symm.trans z
    cases B;subst hb;exact⟨ha,by rw[ZA];exact X,vs,_,rv,ha⟩
   ·have B:=(yD hb).symm.trans z
    cases B
  ·by_cases hb:b=a
   ·exact hb
   ·exact absurd (yD hb) z
def Ms{l:PySem.W.OpenLaw}{XP:.tw}{D:N3->Heap->Prop}{K:Params->ZX}{CX:N3->CXT}{B:N3->Sp}{x:Str}
  (hn:l.most=some n) (p:n<=sizeLine) (y:.tg) (M:jz k callerA)
  (N:∀(w:N3) (h:Heap),D w h->(.de).In h)
  (F:∀(w:N3) (mg:.aI) (m:Addr) (h:Heap),(.de).In h->h.Ns mainGlobals mg->mg d.name=some (.ref m)->
   ∃A:FuncData,(∀(s:Q5) (u:S1),BindsTo s A ⟨[u],[]⟩ [(x,u)])/\
    ∀base:Heap,(.de).In base->base.Ns mainGlobals mg->kP l.prog w .de mg base (CX w) k m A [x] (B w))
  (t:∀(w:N3) (H:Hp) (a:Addr) (ns:.b),ns.length<=n->Px H->SqL .de H a .b4->B w .di H (λv _=>v=.bl true) λ_ _ _=>False)
  (z:∀(w:N3) (H:Hp) (s:Q5) (e:S1) (r:Q5),CX w [] H s (λ_ _ _=>False) e r->False) :
  PySem.W.WalkO q c XP D l.row.toRowW d [] .qI:=by
 refine Att.attach_call hn y λw C i mg R m o U W J a vs ns G Y T S E hmg j g b I=>?_;have KX:=N w _ Y;obtain⟨A,L,Q⟩:=F w mg m _ KX G.T.g hmg;exact IM KX G.T.g G.T.b G.T.builtins G.T.nolimit I j g (ZM b p) M Q L (λH P O=>t w H a ns b P O) λH e r=>z w H i e r
/---/def f6(s:Stmt):Arguments:=match s with
 |.FunctionDef _ a _ _ _ _ _ _ _ _=>a
 |_=>{ posonlyargs:=[],args:=[],vararg:=none,kwonlyargs:=[],kw_defaults:=[],kwarg:=none,defaults:=[] }
/---/def ek(s:Stmt):List Stmt:=match s with
 |.FunctionDef _ _ b _ _ _ _ _ _ _=>b
 |_=>[]
/---/def bI(s:Stmt):Scope:=match s with
 |.FunctionDef _ _ _ _ _ _ sc _ _ _=>sc
 |_=>{ kind:=.function,names:=[],isGenerator:=false,isCoroutine:=false }
noncomputable abbrev CX0:CXT:=λ_ _ _ _ _ _=>False
noncomputable abbrev E0:XK:=λ_ _ _=>False
def RM:Dw CX0 X E0:=λ_ _ _ _ _ _ _ h=>h.elim
structure Fun(K:ZX)(x qual:Str)(st:Stmt)(f:Addr)(fd:.gk):Prop where
 ex:∃(oc:S1) (od:.cv) (kV doc pm:S1) (an:.cv) (cdv ct:S1) (osl:.hH),
  fd=PySem.W.fnOf x qual .mz .ha .dG .none kV doc pm an cdv ct/\K.lookup f=some ⟨oc,od,.func fd,osl⟩/\.lK cdv qual=true
 kp:.jB .aE=true
section
variable{P:P2}{w:N3}{K:ZX}{mg:.aI}{base:Heap}
def Fun.ok{st:Stmt}{N ps:.af}(F:Fun K x a st f i)(S:fZ N ps .dG)(len:∀vs H Q E,g vs H Q E->vs.length=ps.length)
  (c:∀(b:S1) (A:P1) (outer:.dm) (s:Q5) (H:Hp) (vs:List V) (Q:VK) (E:XK),jz k (A.deeper<|envOfC a .dG s.heap.objs.size f b)->g vs H Q E->
   ∃t,PSs (A6 CX0 P w K mg base N a .dG f b A outer s H E).nox .ha t/\t { nx:=λ_ o=>Q .non o,rt:=Q } .lf H):.lJ CX0 (k+1) f i ps g:=by
 obtain⟨v,p,kV,j,u,y,b,r,l,rfl,m,d⟩:=F.ex;refine RB m d S len λA outer s H vs Q E n e=>?_;obtain⟨t,h,q⟩:=c b A outer s H vs Q E n e;exact⟨t,h.nox,q⟩
def Fun.binds{st:Stmt}(F:Fun K x a st f g)
  (h:∀(kV c pm:S1) (e:.cv) (b ct:S1) (d:List S1),d.length=ps.length->bindArgs (PySem.W.fnOf x a .mz .ha .dG .none kV c pm e b ct) ⟨d,[]⟩=pure (ps.zip d)):vm K g ps []:=by
 obtain⟨k,l,kV,c,pm,e,b,ct,j,rfl,m,i⟩:=F.ex;exact .all (h kV c pm e b ct)
def IN{st:Stmt}{kV d pm b ct:S1}(l:K.lookup f=some ⟨h,i,.func .uS,e⟩)
  (c:.lK b a=true) (k:.tb):Fun K x a st f .uS:=⟨⟨h,i,kV,d,pm,g,b,ct,e,rfl,l,c⟩,k⟩
end
section
variable{X:Cx}
end
/---/def mZ(H H':Hp):Prop:=∀b o,H b=some o->H' b=some o
def mZ.refl(H:Hp):mZ H H:=λ_ _ h=>h
end L2
namespace Fm
@[simp] noncomputable def Ue(a:EF):EF:=λσ h=>(.al).bind λx h=>match x with | .int i=>.ok (.int i.natAbs) h|_=>.bad
@[simp] noncomputable def ue(a b:EF):EF:=λσ h=>(.al).bind λx h=>(.f4).bind λy h=>match x,y with
 |.int i,.int j=>.ok (.int<|if j<i then j else i) h
 |_,_=>.bad
section
open Classical
noncomputable def pB(G:Hd->Prop)(tg:GF)(b:SF):List D->SF
 |[],σ,h=>if G h then .nx σ h else .bad
 |x::xs,σ,h=>if G h then match tg x σ with
   |some σ=>match b σ h with
    |.nx σ h=>pB G tg b xs σ h
    |.ct σ h=>pB G tg b xs σ h
    |.bk σ h=>.nx σ h
    |r=>r
   |none=>.bad
  else .bad
/---/def dZ(l:List D):List D:=(.io).zip l |>.map λp=>.tup [.int (p.1:Nat),p.2]
end
theorem xQ(P:.lr)(j:∀i σ h,P i σ h->G h):
  ∀{xs:List D} {k:Nat} {σ:Sd} {h:Hd},(∀(i:Nat) x σ h,xs[i]?=some x->P (k+i) σ h->∃σ',tg x σ=some σ'/\∃a c,b σ' h=.nx a c/\P (k+i+1) a c)->P k σ h->
   ∃σ' h',pB G tg b xs σ h=.nx σ' h'/\P .kQ σ' h'
 |[],k,σ,h,_,p=>⟨σ,h,by simp[pB,j _ _ _ p],by simpa using p⟩
 |x::xs,k,σ,h,st,p=>by
  obtain⟨σ',h1,s,h2,r,m⟩:=st 0 x σ h .e .rF;have d:∀(i:Nat) y σ h,xs[i]?=some y->P (k+1+i) σ h->∃σ',tg y σ=some σ'/\∃a c,b σ' h=.nx a c/\P (k+1+i+1) a c:=λi y σ h e q=>by
   have g:k+1+i=k+(i+1):=by omega
   rw[g]at q⊢;exact .pa .dB q
  obtain⟨f,l,n,o⟩:=xQ P j d (by simpa using m);refine⟨f,l,?_,?_⟩
  ·simp[pB,j _ _ _ p,h1,r,n]
  ·have g:k+(.cR).length=k+1+xs.length:=by simp;omega
   rw[g];exact o
@[simp] noncomputable def Mt(a:EF):LF:=λσ h=>(.al).bind λx h=>match x with
 |.int n=>if 0<=n/\n<=1000 then .ok ((.gR).map λk:Nat=>D.int k) h else .bad
 |_=>.bad
end Fm
namespace L2
open PySem PySem.Spec
structure TB(h:Heap)(a D:Addr)(o:Obj):Prop where
 at_:h.get? a=some o
 cls:o.cls=.ref D
/---/def RN(a C:Addr):HO:=.ext λh=>∃o,TB h a C o
end L2
namespace Fm
open PySem PySem.Spec L2
/---/def toS(x:.i):Str:=⟨x.toArray⟩
/---/def tF(K:ZX)(H:Hp)(a:Addr)(xs:List V):Prop :=
 (∃o,H a=some (.frz o .b5))\/
  ∃(o:Obj) (its:.bw) (n:Nat),K.lookup a=some o/\o.cls=.type "list"/\o.dict=none/\o.data=.seq its n/\its.size<=sizeLine/\aY xs its.toList
/---/def TD(K:ZX)(p:Addr)(vs:List V):Prop:=∃(o:Obj) (its:.bw) (n:Nat),K.lookup p=some o/\o.cls=.type "tuple"/\o.data=.seq its n/\its.size<=sizeLine/\aY vs its.toList
/---/def TH(vs:List V):List .i1:=vs.map λv=>(Str.ofString "web",v)
section
variable(K:ZX)(ρ:.I)(H:Hp)
mutual
noncomputable def RD:D->V->Prop
 |.non,v=>v=.non
 |.bl b,v=>v=.bl b
 |.int i,v=>v=.int i
 |.str x,v=>v=.str (toS x)
 |.tup l,v=>∃p vs,v=.ref p/\H p=some (.tup vs)/\RDs l vs
 |.lit l,v=>∃p vs,v=.ref p/\tF K H p vs/\RDs l vs
 |.ref n,v=>∃a,ρ[n]?=some a/\v=.ref a
 |.exn c l,v=>(c≠""/\l=[]/\∃a C,v=.ref a/\H a=some (RN a C)/\.d6 (Str.ofString c)=some (some<|.ref C))\/(c=""/\∃p vs,v=.ref p/\TD K p vs/\RDs l vs)
noncomputable def RDs:List D->List V->Prop
 |[],vs=>vs=[]
 |d::ds,vs=>∃v r,vs=v::r/\RD d v/\RDs ds r
end
noncomputable def RC:cv->Addr->Prop
 |.lst l,a=>∃vs,H a=some (.lst vs)/\.ay l vs
 |.dct l,a=>∃kvs,H a=some (.dK kvs)/\kvs.map (·.1)=l.map .ez/\.ay .cy (kvs.map (·.2))
 |.dcT l,a=>∃kvs,H a=some .jt/\kvs.map (·.1)=l.map (λp=>p.1.map λi=>(Sum.inl i:Key))/\.ay .cy (kvs.map (·.2))
 |.ob l,a=>∃vs C dx,H a=some (.ins C dx<|TH vs)/\RDs K ρ H l vs/\.d6 (Str.ofString "Desk")=some (some<|.ref C)
structure RH(hd:Hd):Prop where
 len:ρ.length=hd.length
 nd:ρ.Nodup
 cel:∀(n:Nat) c a,hd[n]?=some c->ρ[n]?=some a->RC K ρ H c a
structure RSt(σd:Sd)(σ:St):Prop where
 len:σd.length=σ.length
 at':∀i d,slot σd i=some d->∃v,σ[i]?=some .ek/\.bJ d v
structure RS(σd:Sd)(hd:Hd)(σ:St):Prop where
 hp:RH K ρ H hd
 st:RSt K ρ H σd σ
end
structure Ext(ρ:.I)(H:Hp)(ρ':.I)(H':Hp):Prop where
 pre:∃t,ρ'=ρ++t
 new:∀a∈ρ',a∈ρ\/H a=none
 frame:∀p o,H p=some o->p∉ρ->H' p=some o
variable{vs:List V}{d:D}{l:List D}
section
variable{K:ZX}{ρ ρ' ρ'':.I}{H H' H'':Hp}{hd hd':Hd}{σd σd':Sd}{σ σ':St}
def Ext.refl:.cG ρ H:=⟨⟨[],by simp⟩,λ_ h=>.inl h,λ_ _ h _=>h⟩
def Ext.out(e:.ga)(h:H p=some o)(n:p∉ρ):p∉ρ':=λz=>by
 rcases e.new p z with q|q
 ·exact n q
 ·rw[h]at q;cases q
theorem Ext.trans(a:.ga)(b:Ext ρ' H' ρ'' H''):Ext ρ H ρ'' H'' where
 pre:=by
  obtain⟨t,rfl⟩:=a.pre;obtain⟨u,rfl⟩:=b.pre;exact⟨t++u,by simp⟩
 new:=λx d=>by
  rcases b.new x d with q|q
  ·exact a.new x q
  ·cases e:H x with
   |none=>exact .inr rfl
   |some o =>
    by_cases c:x∈ρ
    ·exact .inl c
    ·rw[a.frame x o e c]at q;cases q
 frame:=λp o h n=>b.frame p o (a.frame p o h n) (a.out h n)
def Ext.same(s:mZ H H'):.cG ρ H':=⟨⟨[],by simp⟩,λ_ h=>.inl h,λp o h _=>s p o h⟩
def Ext.get(e:.ga){n:Nat}(h:ρ[n]?=some a):ρ'[n]?=some a:=by
 obtain⟨t,rfl⟩:=e.pre;rw[ZC (zS.mp h).1];exact h
def RH.mut(r:.aW)(h:a∈ρ):(∃vs,H a=some .hh)\/(∃c,H a=some (.dK c))\/(∃c,H a=some (.dT c))\/∃C d j,H a=some (.ins C d j):=by
 obtain⟨n,f⟩:=UN h;have g:=(.le).1;have i:hd[n]?=some (hd[n]' .y4):=by simp
 have q:=r.cel n _ a i f;cases e:hd[n]' .y4 with
 |lst l=>rw[e]at q;obtain⟨vs,b,_⟩:=q;exact .inl ⟨vs,b⟩
 |dct l=>rw[e]at q;obtain⟨vs,b,_⟩:=q;exact .inr (.inl ⟨vs,b⟩)
 |dcT l=>rw[e]at q;obtain⟨vs,b,_⟩:=q;exact .inr (.inr<|.inl ⟨vs,b⟩)
 |ob l=>rw[e]at q;obtain⟨vs,C,d,b,_⟩:=q;exact .inr (.inr<|.inr ⟨C,d,_,b⟩)
def RH.noTup(r:.aW)(h:H a=some .fU):a∉ρ:=λz=>by
 rcases r.mut z with ⟨_,q⟩|⟨_,q⟩|⟨_,q⟩|⟨_,_,_,q⟩<;>(rw[h]at q;cases q)
def RH.noFrz(r:.aW)(h:H a=some .fW):a∉ρ:=λz=>by
 rcases r.mut z with ⟨_,q⟩|⟨_,q⟩|⟨_,q⟩|⟨_,_,_,q⟩<;>(rw[h]at q;cases q)
def RH.noExt(r:.aW)(h:H a=some (.ext φ)):a∉ρ:=λz=>by
 rcases r.mut z with ⟨_,q⟩|⟨_,q⟩|⟨_,q⟩|⟨_,_,_,q⟩<;>(rw[h]at q;cases q)
structure Kp(ρ:.I)(H:Hp)(ρ':.I)(H':Hp):Prop where
 get:∀(n:Nat) a,ρ[n]?=some a->ρ'[n]?=some a
 tup:∀a vs,H a=some .fU->H' a=some .fU
 frz:∀a o u,H a=some .fW->H' a=some .fW
 ext:∀a φ,H a=some (.ext φ)->H' a=some (.ext φ)
def RH.kp(r:.aW)(e:.ga):Kp ρ H ρ' H' :=
 ⟨λ_ _ h=>e.get h,λ_ _ h=>e.frame _ _ h (r.noTup h),λ_ _ _ h=>e.frame _ _ h (r.noFrz h),λ_ _ h=>e.frame _ _ h (r.noExt h)⟩
def Kp.same(s:mZ H H'):.jK H':=⟨λ_ _ h=>h,λ_ _ h=>s _ _ h,λ_ _ _ h=>s _ _ h,λ_ _ h=>s _ _ h⟩
def tF.mono(k:.lu)(h:tF K H a xs):tF K H' a xs:=by
 rcases h with ⟨o,h⟩|h
 ·exact .inl ⟨o,k.frz _ _ _ h⟩
 ·exact .inr h
mutual
theorem RD.mono(k:.lu):∀{d:D} {v:V},RD K ρ H d v->RD K ρ' H' d v
 |.non,_,h=>by dsimp[RD]at h⊢;exact h
 |.bl _,_,h=>by dsimp[RD]at h⊢;exact h
 |.int _,_,h=>by dsimp[RD]at h⊢;exact h
 |.str _,_,h=>by dsimp[RD]at h⊢;exact h
 |.tup l,_,h=>by
  dsimp[RD]at h⊢;obtain⟨p,vs,e,h1,h2⟩:=h;exact⟨p,vs,e,k.tup _ _ h1,RDs.mono k h2⟩
 |.lit l,_,h=>by
  dsimp[RD]at h⊢;obtain⟨p,vs,e,h1,h2⟩:=h;exact⟨p,vs,e,h1.mono k,RDs.mono k h2⟩
 |.ref n,_,h=>by
  dsimp[RD]at h⊢;obtain⟨a,h1,h2⟩:=h;exact⟨a,k.get _ _ h1,h2⟩
 |.exn _ l,_,h=>by
  dsimp[RD]at h⊢;rcases h with ⟨c,b,a,C,e,h1,h2⟩|⟨b,p,vs,e,h1,h2⟩
  ·exact .inl ⟨c,b,a,C,e,k.ext _ _ h1,h2⟩
  ·exact .inr ⟨b,p,vs,e,h1,RDs.mono k h2⟩
theorem RDs.mono(k:.lu):∀{l:List D} {vs:List V},RDs K ρ H l vs->RDs K ρ' H' l vs
 |[],_,h=>by dsimp[RDs]at h⊢;exact h
 |d::ds,_,h=>by
  dsimp[RDs]at h⊢;obtain⟨v,r,e,h1,h2⟩:=h;exact⟨v,r,e,RD.mono k h1,RDs.mono k h2⟩
end
def RDs.nil:.ay [] []:=by dsimp[RDs]
def RDs.cons(h:.cS)(t:.ay ds vs):.ay (d::ds) (v::vs):=by
 dsimp[RDs];exact⟨v,vs,rfl,h,t⟩
theorem RDs.length:∀{l:List D} {vs:List V},RDs K ρ H l vs->l.length=vs.length
 |[],_,h=>by dsimp[RDs]at h;subst h;rfl
 |d::ds,_,h=>by
  dsimp[RDs]at h;obtain⟨v,r,e,h1,h2⟩:=h;subst e;simp[RDs.length h2]
theorem RDs.get:∀{l:List D} {vs:List V} {i:Nat} {d:D},RDs K ρ H l vs->l[i]?=some d->∃v,vs[i]?=some v/\.bJ d v
 |[],_,i,_,_,e=>by simp at e
 |d::ds,_,0,_,h,e=>by
  dsimp[RDs]at h;obtain⟨v,r,a,h1,h2⟩:=h;subst a;simp at e;subst e;exact⟨v,rfl,h1⟩
 |d::ds,_,i+1,x,h,e=>by
  dsimp[RDs]at h;obtain⟨v,r,a,h1,h2⟩:=h;subst a;obtain⟨w,b,q⟩:=RDs.get h2 .dB;exact⟨w,by simpa using b,q⟩
theorem RDs.set{d:D}(h:.cS):∀{l:List D} {vs:List V} (i:Nat),RDs K ρ H l vs->.ay (l.set i d) (vs.set i v)
 |[],_,_,q=>by dsimp[RDs]at q;subst q;exact RDs.nil
 |x::xs,_,i,q=>by
  dsimp[RDs]at q;obtain⟨w,r,e,h1,h2⟩:=q;subst e;cases i with
  |zero=>exact RDs.cons h h2
  |succ i=>exact RDs.cons h1 (RDs.set h i h2)
theorem RDs.append:∀{l b:List D} {vs a:List V},RDs K ρ H l vs->RDs K ρ H b a->.ay (l++b) (vs++a)
 |[],_,_,_,h,q=>by dsimp[RDs]at h;subst h;exact q
 |d::ds,_,_,_,h,q=>by
  dsimp[RDs]at h;obtain⟨v,r,e,h1,h2⟩:=h;subst e;exact RDs.cons h1 (RDs.append h2 q)
theorem RDs.take:∀{l:List D} {vs:List V} (n:Nat),RDs K ρ H l vs->.ay (l.take n) (vs.take n)
 |_,_,0,_=>by simp;exact RDs.nil
 |[],_,n+1,h=>by dsimp[RDs]at h;subst h;exact RDs.nil
 |d::ds,_,n+1,h=>by
  dsimp[RDs]at h;obtain⟨v,r,e,h1,h2⟩:=h;subst e;exact RDs.cons h1 (RDs.take n h2)
theorem RDs.drop:∀{l:List D} {vs:List V} (n:Nat),RDs K ρ H l vs->.ay (l.drop n) (vs.drop n)
 |_,_,0,h=>by simpa using h
 |[],_,n+1,h=>by dsimp[RDs]at h;subst h;exact RDs.nil
 |d::ds,_,n+1,h=>by
  dsimp[RDs]at h;obtain⟨v,r,e,h1,h2⟩:=h;subst e;simpa using RDs.drop n h2
def RC.mono(k:.lu)(e:H' a=H a)(h:RC K ρ H c a):RC K ρ' H' c a:=by
 cases c with
 |lst l=>obtain⟨f,d,b⟩:=h;exact⟨f,e.trans d,b.mono k⟩
 |dct l=>obtain⟨f,d,b,g⟩:=h;exact⟨f,e.trans d,b,g.mono k⟩
 |dcT l=>obtain⟨f,d,b,g⟩:=h;exact⟨f,e.trans d,b,g.mono k⟩
 |ob l=>obtain⟨f,C,i,d,b,g⟩:=h;exact⟨f,C,i,e.trans d,b.mono k,g⟩
def RH.same(r:.aW)(s:mZ H H'):RH K ρ H' hd :=
 ⟨r.len,r.nd,λn c a d b=>(r.cel n c a d b).mono (.c0 s) (by
  rcases r.mut (ZK b) with ⟨_,q⟩|⟨_,q⟩|⟨_,q⟩|⟨_,_,_,q⟩<;>rw[q,s _ _ q])⟩
def RSt.mono(k:.lu)(r:RSt K ρ H σd σ):RSt K ρ' H' σd σ :=
 ⟨r.len,λi d h=>let ⟨v,b,a⟩:=r.at' i d h;⟨v,b,a.mono k⟩⟩
def RS.same(r:.jh)(s:mZ H H'):RS K ρ H' σd hd σ:=⟨r.hp.same s,r.st.mono (.c0 s)⟩
def cV(h:H p=none):mZ H (.bx o):=λb u e=>by
 rw[aJ (cj e h)];exact e
def RH.alloc(r:.aW)(hp:H p=some .hh)(hn:p∉ρ)(h:.f9):RH K .ho H (hd++[.lst l]):=by
 have k:Kp ρ H .ho H:=⟨λn a e=>by rw[ZC (.bs).1];exact e,λ_ _ h=>h,λ_ _ _ h=>h,λ_ _ h=>h⟩;refine⟨by simp[r.len],?_,λn c a f d=>?_⟩
 ·rw[WL]
  exact⟨r.nd,by simp,λa i b g=>by simp at g;subst g;intro e;subst e;exact hn i⟩
 ·by_cases hlt:n<hd.length
  ·rw[ZC hlt]at f
   rw[ZC .qR]at d;exact (.rR).mono k rfl
  ·have j:n=hd.length:=by
    have:=(.le).1;simp at this;lia
   subst j;simp at f;subst f;rw[<-r.len]at d;simp at d;subst d;exact⟨vs,hp,h.mono k⟩
theorem qe{α:Type}:∀{l:List α},l.Nodup->∀{i j:Nat} {x:α},l[i]?=some x->l[j]?=some x->i=j
 |[],_,i,_,_,e,_=>by simp at e
 |a::l,nd,0,0,_,_,_=>rfl
 |a::l,nd,0,j+1,x,e,b=>by
  simp at e b;subst e;exact absurd (ZK b) (.hm).1
 |a::l,nd,i+1,0,x,e,b=>by
  simp at e b;subst b;exact absurd (ZK e) (.hm).1
 |a::l,nd,i+1,j+1,x,e,b=>by
  simp at e b;rw[qe (.hm).2 e b]
def RH.write(r:.aW)(hp:ρ[n]?=some p)(hn:n<hd.length)(h:.f9):RH K ρ (.bx .hh) (hd.set n .b3):=by
 have k:.jK (.bx .hh):=by
  have f:=ZK hp;refine⟨λ_ _ h=>h,λa g e=>?_,λa o u e=>?_,λa φ e=>?_⟩
  ·rw[aJ (λz=>r.noTup e .rH)];exact e
  ·rw[aJ (λz=>r.noFrz e .rH)];exact e
  ·rw[aJ (λz=>r.noExt e .rH)];exact e
 refine⟨by simp[r.len],r.nd,λm c a d b=>?_⟩
 by_cases e:n=m
 ·subst e
  rw[Z1 hn]at d;cases d;rw[hp]at b;cases b;exact⟨vs,bB,h.mono k⟩
 ·rw[ZP e]at d
  have ne:a≠p:=λz=>by
   subst z;exact e (qe r.nd hp b)
  exact(r.cel m c a d b).mono k (aJ ne)
def Ext.write(hp:p∈ρ):Ext ρ H ρ (.bx o) :=
 ⟨⟨[],by simp⟩,λ_ h=>.inl h,λq u e n=>by rw[aJ (λz=>n (by rw[z];exact hp))];exact e⟩
def Ext.alloc(h:H p=none):Ext ρ H .ho (.bx o) :=
 ⟨⟨[p],rfl⟩,λa b=>by
  rcases Z0.mp b with q|q
  ·exact .inl q
  ·simp at q;subst q;exact .inr h,λq u e _=>cV h q u e⟩
def RS.ext(r:.jh)(e:.ga)(h:RH K ρ' H' hd'):RS K ρ' H' σd hd' σ:=⟨h,r.st.mono (r.hp.kp e)⟩
end
noncomputable abbrev VR(α β:Type):=List Addr->Hp->α->β->Prop
section
variable(K:ZX)
/---/def cB{α β:Type}(R:VR α β)(ρ:.I)(H:Hp)(σd:Sd)(σ:St)(r:Res α)(Q:.lw):Prop:=match r with
 |.ok a hd'=>∀b H' ρ',Ext ρ H ρ' H'->RS K ρ' H' σd hd' σ->R ρ' H' a b->Q b H'
 |_=>False
/---/def ny{α β:Type}(R:VR α β)(f:Sd->Hd->Res α):St->Hp->(β->Hp->Prop)->Prop:=λσ H Q =>
 ∃ρ σd hd,RS K ρ H σd hd σ/\cB K R ρ H σd σ .la Q
noncomputable abbrev rD:VR D V:=λρ H d v=>.bJ d v
noncomputable abbrev rDs:VR .e1 (List V):=λρ H d v=>.ay d v
noncomputable abbrev rB:VR Bool Bool:=λ_ _ a b=>a=b
noncomputable abbrev rO:VR .hX .hX:=λ_ _ a b=>a=b
/---/def rQ:VR .e1 V:=λρ H l v=>∃p vs,v=.ref p/\.xL/\.ay l vs
/---/def Be(ρ:.I)(H:Hp)(σd:Sd)(σ:St)(r:Res .e1)(Q:VK):Prop:=match r with
 |.ok l hd'=>∀q vs H' ρ',Ext ρ H ρ' H'->RS K ρ' H' σd hd' σ->H q=none->H' q=some (.lst vs)->q∉ρ'->RDs K ρ' H' l vs->Q (.ref q) H'
 |_=>False
/---/def RO(f:LF):TE:=λσ H Q=>∃ρ σd hd,RS K ρ H σd hd σ/\Be K ρ H σd σ .la Q
/---/def cQ(ρ:.I)(H:Hp)(o:Out)(E:vf):Prop:=match o with
 |.nx σd hd=>∀σ H' ρ',Ext ρ H ρ' H'->RS K ρ' H' σd hd σ->E.nx σ H'
 |.bk σd hd=>∀σ H' ρ',Ext ρ H ρ' H'->RS K ρ' H' σd hd σ->E.bk σ H'
 |.ct σd hd=>∀σ H' ρ',Ext ρ H ρ' H'->RS K ρ' H' σd hd σ->E.ct σ H'
 |.rt d hd=>∀v H' ρ',Ext ρ H ρ' H'->RH K ρ' H' hd->RD K ρ' H' d v->E.rt v H'
 |_=>False
/---/def Os(f:SF):TS:=λE σ H=>∃ρ σd hd,RS K ρ H σd hd σ/\cQ K ρ H .la E
end
/---/def ME(X:Cx)(e:Expr)(f:EF):Prop:=.w e (ny X.K .ht f)
/---/def MQ(X:Cx)(e:Expr)(f:LF):Prop:=.w e (ny X.K (rQ X.K) f)
/---/def MF(X:Cx)(e:Expr)(f:LF):Prop:=.w e (RO X.K f)
/---/def MT(X:Cx)(e:Expr)(f:TF):Prop:=PT X e (ny X.K rB f)
/---/def MW(X:Cx)(e:Expr)(f:TF):Prop:=PW X e (ny X.K rB f)
/---/def MA(X:Cx)(es:.a8)(f:LF):Prop:=PA X es (ny X.K (rDs X.K) f)
/---/def MS(X:Cx)(s:Stmt)(f:SF):Prop:=PS X s (Os X.K f)
/---/def MSs(X:Cx)(s:.e8)(f:SF):Prop:=PSs X s (Os X.K f)
variable{e:Expr}
section
variable{X:Cx}
def PE.imp{t u:TE}(h:.w e t)(i:.ol):.w e u:=λpins s σ H Q I q=>.c2 Q I .nC
def PT.imp{t u:TT}(h:PT X e t)(i:.ol):PT X e u:=λpins s σ H Q I q=>.c2 Q I .nC
def PW.imp{t u:TT}(h:PW X e t)(i:.ol):PW X e u:=λw pins s σ H Q I q=>h w pins s σ H Q I .nC
def PA.imp{e:.a8}{t u:TA}(h:PA X e t)(i:.ol):PA X e u:=λp pins s σ H Q I q=>h p pins s σ H Q I .nC
def PS.imp{e:Stmt}{t u:TS}(h:PS X e t)(i:.A0):PS X e u:=λpins s σ H D I q=>.c2 D I (i D σ H q)
def PSs.imp{e:.e8}{t u:TS}(h:PSs X e t)(i:.A0):PSs X e u:=λpins s σ H D I q=>.c2 D I (i D σ H q)
end
section
variable{K:ZX}{ρ ρ':.I}{H H':Hp}{hd hd':Hd}{σd:Sd}{σ:St}{α β α' β':Type}{R:VR α β}{R':VR α' β'}
def cB.here{a:α}{b:β}{Q:.lw}(h:.AX)(r:.jh)(q:R ρ H a b):Q b H:=h b H ρ Ext.refl r q
def cB.at{a:α}{b:β}{Q:.lw}(h:.AX)(e:.ga)(r:RS K ρ' H' σd hd σ)(q:R ρ' H' a b):Q b H':=h b H' ρ' e r q
def cB.imp{r:Res α}{Q c:.lw}(h:cB K R ρ H σd σ r Q)(i:∀b H',Q b H'->c b H'):cB K R ρ H σd σ r c:=by
 cases r with
 |ok a d=>exact λb H' ρ' e s q=>i b H' (h b H' ρ' e s q)
 |exc x d=>exact h
 |bad=>exact h
def cB.ext{r:Res α}{Q:.lw}(e:.ga)(h:cB K R ρ H σd σ r Q):cB K R ρ' H' σd σ r Q:=by
 cases r with
 |ok a f=>exact λb c ρ'' d s q=>h b c ρ'' (e.trans d) s q
 |exc x f=>exact h
 |bad=>exact h
def cB.bind{r:Res α}{k:α->Hd->Res α'}{Q:β'->Hp->Prop}(h:cB K R' ρ H σd σ (r.bind k) Q):
  cB K R ρ H σd σ r (λb H'=>∃ρ' a hd',Ext ρ H ρ' H'/\RS K ρ' H' σd hd' σ/\R ρ' H' a b/\cB K R' ρ' H' σd σ (k a hd') Q):=by
 cases r with
 |ok a c=>exact λb H' ρ' e s q=>⟨ρ',a,c,e,s,q,cB.ext e h⟩
 |exc x c=>exact h
 |bad=>exact h
def cQ.ext{o:Out}{E:vf}(e:.ga)(h:cQ K ρ H o E):cQ K ρ' H' o E:=by
 cases o with
 |nx σ f=>exact λb a ρ'' c s=>h b a ρ'' .nP s
 |bk σ f=>exact λb a ρ'' c s=>h b a ρ'' .nP s
 |ct σ f=>exact λb a ρ'' c s=>h b a ρ'' .nP s
 |rt d f=>exact λv a ρ'' c s q=>h v a ρ'' .nP s q
 |exc x σ f=>exact h
 |bad=>exact h
end
variable{x:Str}{K:ZX}{b:Expr}{H:Hp}{ρ:.I}{f:EF}
section
variable{X:Cx}{pos:Pos}
def Py{i:Nat}(c:.dV)(b:Vis X.env.scope x)(hd:autoParam (.bY=false) Q1Q._auto_1)(a:autoParam (.qi=false) Q1Q._auto_1):.l .fa (aa i):=by
 refine PE.imp (OW c b hd a) λσ H Q ⟨ρ,σd,hd,r,h⟩=>?_;unfold aa at h;cases e:slot σd i with
 |none=>rw[e]at h;exact h.elim
 |some d =>
  rw[e]at h;obtain⟨v,g,f⟩:=r.st.at' i d e;exact⟨v,g,h.here r f⟩
def vw{v:V}(a:∀ρ H,RD K ρ H d v):∀σ H Q,ny K (rD K) (fC d) σ H Q->tC v σ H Q:=λ_ H _ ⟨ρ,_,_,r,h⟩=>h.here r (a ρ H)
def aw{i:Int}{j}:.l (.go .z) (fC .z):=PE.imp Io .mq
def jB{b j}:.l (.go<|.bool b) (fC .dJ):=PE.imp Ri .mq
def dz{j}:.l (.go .none) .aB:=PE.imp OX .mq
def kr{j}(l:.i)(h:x=toS l):.l (.go<|.str x) (fC<|.str l):=PE.imp OY (vw λ_ _=>by dsimp[RD];rw[h])
def kR{i:Int}{t:Tok}(a:Gl X x)(hm:X.mg x=some .n9)(hd:autoParam (.bY=false) Q1Q._auto_1):ME X .fa (fC .z) :=
 PE.imp (L6 (v:=.int i) a hm ⟨t,rfl⟩ hd) .mq
def me2{a b:Expr}{o q:EF}{r:R2}{g:O2}(h:.w e (tOp r (ny X.K .ht o)<|ny X.K .ht q))
  (x:∀ρ H σd hd σ d k v w Q,RS X.K ρ H σd hd σ->RD X.K ρ H d v->RD X.K ρ H k w->cB X.K .ht ρ H σd σ (g d k hd) Q->r v w H Q):.l e (aq g o q):=by
 refine PE.imp h λσ H Q ⟨ρ,σd,hd,s,p⟩=>?_;refine⟨ρ,σd,hd,s,(.co).imp λv A zz=>?_⟩;obtain⟨i,d,l,B,c,rv,t⟩:=zz;refine⟨i,σd,l,c,(.a0 t).imp λw z zz=>?_⟩;obtain⟨m,k,f,u,j,n,y⟩:=zz;exact x m z σd f σ d k v w Q j (.dq<|c.hp.kp u) n y
/---/def Og(K:ZX)(g:O2)(r:R2):Prop:=∀ρ H σd hd σ d k v w Q,RS K ρ H σd hd σ->RD K ρ H d v->RD K ρ H k w->cB K (rD K) ρ H σd σ (g d k hd) Q->r v w H Q
def bq{a:Expr}{d c:EF}{op:Operator}{r:R2}{g:O2}(f:.ap (binaryOp op) r)(e:Og X.K g r)(ha:.l a d)(hb:.l b c):ME X (.BinOp a op b pos) (aq g d c) :=
 me2 (a:=a) (b:=b) (Ix f ha hb) e
def gE{a:Expr}{d c:EF}{op:CmpOp}{r:R2}{g:O2}(e:.jl)(f:Og X.K g r)(ha:.l a d)(hb:.l b c)(hm:.oo):ME X .oR (aq g d c) :=
 me2 (a:=a) (b:=b) (Mg e ha hb hm) f
def rP{g:.gb}:Og K (oI g) .zE:=by
 intro ρ H σd c σ d k v w Q b rv a p;cases d<;>cases k<;>first|exact p.elim|skip
 dsimp[RD]at rv a;exact⟨_,_,rv,a,p.here b .aU⟩
def uf{g:.lv}:Og K (oB g) .z8:=by
 intro ρ H σd c σ d k v w Q b rv a p;cases d<;>cases k<;>first|exact p.elim|skip
 dsimp[RD]at rv a;exact⟨_,_,rv,a,p.here b .aU⟩
def IP{c:.lv}{C:Int->Int->Prop}{g:.gb}(f:∀i j,c i j=true->C i j):Og K (oIc c g) .zk:=by
 intro ρ H σd h σ d k v w Q b rv a p;cases d<;>cases k<;>first|exact p.elim|skip
 rename_i i j
 dsimp[RD]at rv a;cases e:c i j with
 |false=>dsimp[oIc,e]at p;exact p.elim
 |true =>
  dsimp[oIc,e,WB]at p;exact⟨i,j,rv,a,f i j e,p.here b .aU⟩
def E9{i:Int}(h:sml i=true): -(2^64)<i/\i<2^64:=by
 dsimp[sml,YB,X7]at h;exact h
def gF:Og K cL .yF:=IP λi j h=>by
 rcases (Bool.or_eq_true _ _).mp h with q|q
 ·exact .inl (E9 q)
 ·exact .inr (E9 q)
def fQ:Og K de .wW:=IP λi j h=>Y3 h
/---/def RP(_ j:Int):Prop:=0<j/\j<2^250
def ig:.ap (binaryOp .FloorDiv) .yE:=opI λi j _ _ _ _ _ a q=>by
 have d:j≠0:=by have:=a.1;omega
 refine PyProof.Rows.floordiv_int d (by rw[Int.fdiv_eq_ediv_of_nonneg _ (Int.le_of_lt a.1)];exact q) (.inl (PyProof.noPylong_of_log2 ?_));have b:j.natAbs<2^250:=by have:=a.2;have:=a.1;omega
 have c:j.natAbs≠0:=by omega
 have:=(Nat.log2_lt c).mpr b;omega
def lO:Og K jy .yE:=IP λi j h=>by
 dsimp[YB,X7]at h;exact h
def zg{v:V}(h:.cS):mM d=decide (v=.non):=by
 cases d<;>dsimp[RD]at h
 ·subst h;rfl
 ·subst h;rfl
 ·subst h;rfl
 ·subst h;rfl
 ·obtain⟨p,a,rfl,_⟩:=h;rfl
 ·obtain⟨p,a,rfl⟩:=h;rfl
 ·obtain⟨p,a,rfl,_⟩:=h;rfl
 ·rcases h with ⟨_,_,p,a,rfl,_⟩|⟨_,p,a,rfl,_⟩<;>rfl
def kt:Og K gX .vI:=by
 intro ρ H σd c σ d k v w Q b rv a p;unfold gX at p;cases e:mM k with
 |false=>rw[e]at p;exact p.elim
 |true =>
  rw[e,z4 rfl]at p;refine⟨Y3 .Av,?_⟩;rw[<-zg rv];exact p.here b .aU
def rR:Og K oy .vB:=by
 intro ρ H σd c σ d k v w Q b rv a p;unfold oy at p;cases e:mM k with
 |false=>rw[e]at p;exact p.elim
 |true =>
  rw[e,z4 rfl]at p;refine⟨Y3 .Av,?_⟩;rw[<-zg rv];exact p.here b .aU
def rS(h:cB K rB ρ H σd σ (asB r) Q):cB K (rD K) ρ H σd σ r (λx e=>∃c,x=.bl c/\Q c e):=by
 refine (.a0 h).imp λv i zz=>?_;obtain⟨f,d,g,j,a,rv,b⟩:=zz;cases d<;>first|exact b.elim|skip
 dsimp[rD,RD]at rv;exact⟨_,rv,b.here a rfl⟩
def dA(h:.eo)(he:autoParam (∀a,isTrue e X.env a=(do let v <-a;standAt e.pos;holding [v] (truthy v))) Q2Q._auto_1):MT X e (tE f) :=
 PT.imp (OZ h he) λσ H Q ⟨ρ,σd,b,c,p⟩=>⟨ρ,σd,b,c,rS p⟩
def bu(x:.jl)(t:Og X.K g r)(ha:.l a m)(hb:.l b n)(hm:.oo):MT X .oR (tE<|aq g m n):=by
 refine PT.imp (Mh x ha hb hm) λσ H Q ⟨ρ,σd,u,o,p⟩=>?_;have p:=rS p;refine⟨ρ,σd,u,o,(.co).imp λv A zz=>?_⟩;obtain⟨f,d,i,B,c,rv,q⟩:=zz;refine⟨f,σd,i,c,(.a0 q).imp λw z zz=>?_⟩;obtain⟨j,k,e,s,h,l,y⟩:=zz;exact t j z σd e σ d k v w _ h (.dq<|c.hp.kp s) l y
def ed(h:MT X a t):MT X .oT (gM t):=by
 refine PT.imp (O6 h) λσ H Q ⟨ρ,σd,e,f,p⟩=>⟨ρ,σd,e,f,(.co).imp λc k zz=>?_⟩;obtain⟨i,d,j,l,b,rv,g⟩:=zz;cases rv;exact g.here b rfl
def ij(h:MT X a t)(b:op=BoolOp.And\/op=BoolOp.Or):MW X (.hO op [a]) t:=by
 rcases b with rfl|rfl
 ·exact L8 h
 ·exact O0 h
def IQ{rest:.a8}{t u:TF}(ha:MT X a t)(hb:MW X .o1 u):MW X .o2 (kM t u):=by
 refine PW.imp (O4 ha hb) λσ H Q ⟨ρ,σd,i,j,p⟩=>⟨ρ,σd,i,j,(.co).imp λc k zz=>?_⟩;obtain⟨g,d,h,l,e,rv,f⟩:=zz;cases rv;cases c with
 |true=>dsimp[WB]at f⊢;exact⟨g,σd,h,e,f⟩
 |false=>dsimp[Y4,WN]at f⊢;exact f.here e rfl
def mN{rest:.a8}{t u:TF}(ha:MT X a t)(hb:MW X .oV u):MW X .oW (tOr t u):=by
 refine PW.imp (Rj ha hb) λσ H Q ⟨ρ,σd,i,j,p⟩=>⟨ρ,σd,i,j,(.co).imp λc k zz=>?_⟩;obtain⟨g,d,h,l,e,rv,f⟩:=zz;cases rv;cases c with
 |true=>dsimp[WB]at f⊢;exact f.here e rfl
 |false=>dsimp[Y4,WN]at f⊢;exact⟨g,σd,h,e,f⟩
def MW.mt(h:MW X e t):MT X e t:=h.pt
def Mu{σ:St}{Q:VK}(h:ny K (rD K) (fT t) σ H Q):ny K rB t σ H (λb g=>Q .dJ g):=by
 obtain⟨ρ,σd,e,f,p⟩:=h;refine⟨ρ,σd,e,f,(.co).imp λc l zz=>?_⟩;obtain⟨j,d,k,m,a,rv,i⟩:=zz;cases rv;exact i.here a .aU
/---/def MB(X:Cx)(e:Expr)(t:TF):Prop:=.w e (λσ H Q=>ny X.K rB t σ H λb H'=>Q .dJ H')
def MB.me(h:MB X e t):.l e (fT t):=PE.imp h λ_ _ _ q=>Mu q
def iB(h:.eo):MB X e (tE f):=by
 refine PE.imp h λσ H Q ⟨ρ,σd,a,b,p⟩=>⟨ρ,σd,a,b,(rS p).imp ?_⟩;rintro v d ⟨c,rfl,q⟩;exact q
def lP(h:MB X a t):MB X (.hO op [a]) t:=O7 h
def pC{rest:.a8}{t u:TF}(ha:MB X a t)(hb:MB X .o1 u):MB X .o2 (kM t u):=by
 refine PE.imp (O8 ha hb) λσ H Q ⟨ρ,σd,i,j,p⟩=>⟨ρ,σd,i,j,(.co).imp λc k ⟨g,d,h,l,e,rv,f⟩=>⟨c,rfl,?_⟩⟩;cases rv;cases c with
 |true=>dsimp[WB]at f⊢;exact⟨g,σd,h,e,f⟩
 |false=>dsimp[Y4,WN]at f⊢;exact f.here e rfl
def Ot{rest:.a8}{t u:TF}(ha:MB X a t)(hb:MB X .oV u):MB X .oW (tOr t u):=by
 refine PE.imp (Rm ha hb) λσ H Q ⟨ρ,σd,i,j,p⟩=>⟨ρ,σd,i,j,(.co).imp λc k ⟨g,d,h,l,e,rv,f⟩=>⟨c,rfl,?_⟩⟩;cases rv;cases c with
 |true=>dsimp[WB]at f⊢;exact f.here e rfl
 |false=>dsimp[Y4,WN]at f⊢;exact⟨g,σd,h,e,f⟩
def Pz(h:MB X a t):MB X .oT (gM t):=by
 refine PE.imp (O9 h) λσ H Q ⟨ρ,σd,e,f,p⟩=>⟨ρ,σd,e,f,(.co).imp λc k ⟨i,d,j,l,b,rv,g⟩=>⟨c,rfl,?_⟩⟩;cases rv;exact g.here b rfl
def xR(m:MT X c t)(ha:.l a j)(hb:.l b i):.l (.IfExp c a b pos) (fIf t j i):=by
 refine PE.imp (Ip m ha hb) λσ H Q ⟨ρ,σd,k,l,p⟩=>⟨ρ,σd,k,l,(.co).imp λc n zz=>?_⟩;obtain⟨f,d,g,o,e,rv,h⟩:=zz;cases rv;cases c with
 |true=>dsimp[WB]at h⊢;exact⟨f,σd,g,e,h⟩
 |false=>dsimp[Y4,WN]at h⊢;exact⟨f,σd,g,e,h⟩
end
section
variable{X:Cx}{pos:Pos}
def DB{A x y:EF}{Q:VK}(J:Og K g r)(R:Og K k B)(rs:.jh)
  (p:cB K (rD K) ρ H σd σ (uX g k A x y σd hd) Q):IA r B (ny K (rD K) A) (ny K (rD K) x) (ny K (rD K) y) σ H Q:=by
 refine⟨ρ,σd,hd,rs,(.co).imp λv V zz=>?_⟩;obtain⟨h,d,q,U,e,rv,O⟩:=zz;refine⟨h,σd,q,e,(.a0 O).imp λw T zz=>?_⟩;obtain⟨s,C,n,E,c,f,S⟩:=zz;refine J s T σd n σ d C v w _ c (.dq<|e.hp.kp E) f ((.a0 S).imp λz W zz=>?_);obtain⟨i,N,o,M,a,D,l⟩:=zz;cases N<;>first|exact l.elim|skip
 rename_i b
 dsimp[rD,RD]at D;refine⟨b,D,?_⟩;cases b with
 |false =>
  rw[yD Z7];exact l.here a .aU
 |true =>
  rw[z4 rfl];refine⟨i,σd,o,a,(.a0 l).imp λu L zz=>?_⟩;obtain⟨j,G,t,F,m,P,I⟩:=zz;exact R j L σd t σ C G w u Q m ((f.mono<|c.hp.kp M).mono (a.hp.kp F)) P I
def IR{op d:CmpOp}(n:.jl)(e:.ap (.cY d) j)(o:Og X.K g r)(q:Og X.K k j)(ha:.l a i)(hb:.l b f)(m:.l c h)
  (hm:lastMarks [op,d] [b,c]=false:=by with_unfolding_all rfl):ME X (.Compare a [op,d] [b,c] pos) (uX g k i f h) :=
 PE.imp (IB n e ha hb m hm) λ_ _ _ ⟨_,_,_,l,p⟩=>DB o q l p
def ak:MA X [] aj:=PA.imp eQ λ_ _ _ ⟨_,_,_,a,p⟩=>p.here a RDs.nil
def ae{b:.a8}(he:.eo)(o:MA X b r)(n:autoParam (starEach (e::b) X.env=(false,.cH X.env)::starEach b X.env) Q3Q._auto_1):MA X (e::b) (ab f r):=by
 refine PA.imp (cP he o n) λσ H Q ⟨ρ,σd,s,j,p⟩=>?_;refine⟨ρ,σd,s,j,(.co).imp λv w zz=>?_⟩;obtain⟨c,d,i,x,a,rv,k⟩:=zz;refine⟨c,σd,i,a,(.a0 k).imp λy z zz=>?_⟩;obtain⟨q,u,m,l,g,h,t⟩:=zz;exact t.here g (RDs.cons (.dq<|a.hp.kp l) h)
def qf(h:n<=SZ):n<=sizeLine:=ZM h .c
def fR(h:MA X g r):.l (.Tuple g k pos) (d9 r):=by
 refine PE.imp (Pk h) λσ H Q ⟨ρ,σd,i,j,p⟩=>?_;refine⟨ρ,σd,i,j,(.co).imp λf t zz=>?_⟩;obtain⟨n,l,s,u,c,a,b⟩:=zz
 by_cases e:l.length<=SZ
 ·rw[z4 e]at b
  refine⟨by rw[<-a.length];exact qf e,λq m=>?_⟩;have d:=cV (o:=HO.tup f) m;exact b.at (.fi d) (c.same d) (by dsimp[rD,RD];exact⟨q,f,rfl,bB,a.mono (.c0 d)⟩)
 ·rw[yD e]at b;exact b.elim
def Ext.fresh(e:.cG ρ' a)(h:a q=none)(n:q∉ρ'):H q=none:=by
 cases z:H q with
 |none=>rfl
 |some o =>
  by_cases b:q∈ρ
  ·obtain⟨t,rfl⟩:=e.pre
   exact absurd (VZ t b) n
  ·rw[e.frame q o z b]at h;cases h
def RH.free(r:.aW)(h:H q=none):q∉ρ:=λz=>by
 rcases r.mut z with ⟨_,e⟩|⟨_,e⟩|⟨_,e⟩|⟨_,_,_,e⟩<;>(rw[h]at e;cases e)
def Be.mk{b:Hp}{d:Hd}(p:Be K ρ H σd σ (.ok l d) Q)(g:.cG a b)(c:RS K a b σd d σ)(r:RDs K a b l vs):
  ∀q,b q=none->Q .i6 (upd b q .hh):=λq f=>by
 have e:=cV (o:=HO.lst vs) f;have h:=c.hp.free f;exact p q vs _ a (g.trans<|.fi e) (c.same e) (g.fresh f h) bB h (r.mono<|.c0 e)
def dv(h:MA X c r)(hz:∀σd hd ds hd',r σd hd=.ok ds hd'->ds.length<=SZ):MF X (.List c pos) r:=by
 refine PE.imp (Pl h) λσ H Q ⟨ρ,σd,hd,d,p⟩=>?_;refine⟨ρ,σd,hd,d,?_⟩;cases e:r σd hd with
 |exc x l=>rw[e]at p;exact p
 |bad=>rw[e]at p;exact p
 |ok ds i =>
  rw[e]at p;intro k j g f b a;exact⟨by rw[<-RDs.length a];exact qf (hz _ _ _ _ e),p.mk f b a⟩
def bx(h:∀σd hd ds hd',r σd hd=.ok ds hd'->ds.length=n):∀σd hd ds hd',ab f r σd hd=.ok ds hd'->ds.length=n+1:=by
 intro σd hd ds hd' e;dsimp[ab]at e;cases b:f σd hd with
 |exc x g=>rw[b]at e;cases e
 |bad=>rw[b]at e;cases e
 |ok d i =>
  rw[b]at e;dsimp[aH]at e;cases a:r σd i with
  |exc x g=>rw[a]at e;cases e
  |bad=>rw[a]at e;cases e
  |ok c j =>
   rw[a]at e;dsimp[aH]at e;cases e;simp[h _ _ _ _ a]
def bX:∀σd hd ds hd',aj σd hd=.ok ds hd'->ds.length=0:=by
 intro σd hd ds hd' e;dsimp[aj]at e;cases e;rfl
def bH(h:MF X e r):.l e (aI r):=by
 refine PE.imp h λσ H Q ⟨ρ,σd,l,i,p⟩=>⟨ρ,σd,l,i,?_⟩;unfold aI at p;cases e:r σd l with
 |exc x y=>rw[e]at p;exact p
 |bad=>rw[e]at p;exact p
 |ok n v =>
  rw[e]at p;dsimp[aH]at p;intro q A w d g b c o s f
  by_cases k:n.length<=SZ
  ·rw[z4 k]at p
   have u:=b.hp.alloc o s f;have j:.cG (d++[q]) w:=⟨by obtain⟨t,rfl⟩:=g.pre;exact⟨t++[q],by simp⟩,λa m=>by
    rcases Z0.mp m with z|z
    ·exact g.new a z
    ·simp at z;subst z;exact .inr c,g.frame⟩
   refine p.at j (i.ext j u) ?_;dsimp[rD,RD];refine⟨q,?_,rfl⟩;rw[<-b.hp.len];simp
  ·rw[yD k]at p;exact p.elim
def eR(h:MF X e r):MQ X e r:=by
 refine PE.imp h λσ H Q ⟨ρ,σd,d,g,p⟩=>⟨ρ,σd,d,g,?_⟩;cases e:r σd d with
 |exc x s=>rw[e]at p;exact p
 |bad=>rw[e]at p;exact p
 |ok n m =>
  rw[e]at p;intro q l i b j a f k o c;exact p .i6 i b j a ⟨q,l,rfl,.inl (SqL.of k),c⟩
def tF.sq(h:tF K H a xs):SqL K H a xs:=by
 rcases h with ⟨o,h⟩|h
 ·exact .inl (.inr ⟨o,h⟩)
 ·exact .inr h
def zh(r:.aW)(h:.cS)(e:jV hd d=some l):∃p vs,v=.ref p/\.xL/\.ay l vs:=by
 cases d<;>dsimp[jV]at e<;>try (cases e;done)
 ·cases e
  dsimp[RD]at h;obtain⟨p,vs,f,b,g⟩:=h;exact⟨p,vs,f,.inr b,g⟩
 ·rename_i n
  dsimp[RD]at h;obtain⟨a,f,b⟩:=h;cases c:hd[n]? with
  |none=>rw[c]at e;cases e
  |some x =>
   rw[c]at e;cases x with
   |dct l=>cases e
   |dcT l=>cases e
   |ob l=>cases e
   |lst i =>
    cases e;obtain⟨vs,q1,q2⟩:=r.cel n _ a c f;exact⟨a,vs,b,.inl (SqL.of q1),q2⟩
 ·cases e
  dsimp[RD]at h;obtain⟨p,vs,f,b,g⟩:=h;exact⟨p,vs,f,.inl b.sq,g⟩
def c8(h:.eo):MQ X e (lOf f):=by
 refine PE.imp h λσ H Q ⟨ρ,σd,g,i,p⟩=>⟨ρ,σd,g,i,(.co).imp λv k zz=>?_⟩;obtain⟨j,d,c,m,a,rv,b⟩:=zz;cases e:jV c d with
 |none=>rw[e]at b;exact b.elim
 |some l=>rw[e]at b;exact b.here a (zh a.hp rv e)
def Fc(r:.f9)(e:atI l i=some d):∃v,L2.atI vs i=some v/\.bJ d v:=by
 unfold atI at e;unfold L2.atI;have b:=r.length;have a:ixN l.length i=L2.ixN vs.length i:=by rw[b];rfl
 rw[a]at e;cases c:L2.ixN vs.length i with
 |none=>rw[c]at e;cases e
 |some j =>
  rw[c]at e;dsimp[Option.bind_some]at e⊢;exact r.get e
def bp(ha:.l a n)(hb:.l b s)(y:y8 b):.l (.dZ a b) (fAt n s):=by
 refine me2 (a:=a) (b:=b) (Oq Pr ha hb y) λρ H σd z σ d k v w Q g rv c p=>?_;unfold oAt at p;cases e:jV z d with
 |none=>rw[e]at p;exact p.elim
 |some l =>
  rw[e]at p;cases k<;>first|exact p.elim|skip
  rename_i i
  simp only at p;cases h:atI l i with
  |none=>rw[h]at p;exact p.elim
  |some x =>
   rw[h]at p;dsimp[RD]at c;obtain⟨q,t,m,f,j⟩:=zh g.hp rv e;obtain⟨u,r,o⟩:=Fc j h;rcases f with f|f
   ·exact .inl ⟨q,t,i,u,m,c,f,r,p.here g o⟩
   ·exact .inr (.inl ⟨q,t,i,u,m,c,SqT.of f,r,p.here g o⟩)
def IS(ha:MF X a o)(hb:.l b s)(E:y8 b):.l (.dZ a b) (fIx o s):=by
 refine PE.imp (Oq E8 ha hb E) λσ H Q ⟨ρ,σd,t,y,p⟩=>⟨ρ,σd,t,y,?_⟩;unfold fIx at p;cases e:o σd t with
 |exc x J=>rw[e]at p;exact p
 |bad=>rw[e]at p;exact p
 |ok l m =>
  rw[e]at p;dsimp[aH]at p;intro q I K g G d v A D j;refine⟨g,σd,m,d,(.a0<|p.ext G).imp λw L zz=>?_⟩;obtain⟨F,k,B,r,h,f,c⟩:=zz;cases k<;>first|exact c.elim|skip
  rename_i i
  simp only at c;cases n:atI l i with
  |none=>rw[n]at c;exact c.elim
  |some x =>
   rw[n]at c;dsimp[rD,RD]at f;obtain⟨u,C,z⟩:=Fc (j.mono<|d.hp.kp r) n;exact⟨q,I,i,u,rfl,f,SqL.of (r.frame q _ A D),C,c.here h z⟩
end
variable{p:Pos}
section
variable{X:Cx}{pos:Pos}
/---/def B1(X:Cx)(r:.jg)(x:Str)(p pos:Pos)(a:Expr):Prop:=∀t,PA X [a] t->PE X (.hS [a]) (tCB r t)
def Fd{a:Expr}{id:String}{r:.jg}(e:jb X .eT r)(f:Gl X x)(hm:.jm)(d:bootBuiltins x=some .eT)(hn:autoParam (x≠"__name__") Q1Q._auto_1)(b:autoParam (.bY=false) Q1Q._auto_1)
  (he:autoParam (.bq X.env=(false,.bL X.env)::starEach [] X.env) Q3Q._auto_1):B1 X r x p pos a:=λ_ c=>jA e f hm d c hn b he
def RQ{a:Expr}{T:String}{r:.jg}(e:jb X .i5 r)(f:Gl X x)(hm:.jm)(d:bootBuiltins x=some .i5)(hn:autoParam (x≠"__name__") Q1Q._auto_1)(b:autoParam (.bY=false) Q1Q._auto_1)
  (he:autoParam (.bq X.env=(false,.bL X.env)::starEach [] X.env) Q3Q._auto_1):B1 X r x p pos a:=λ_ c=>xL e f hm d c hn b he
def vx{f:LF}{g:List D->Hd->Res D}(hb:B1 X r x p pos a)(ha:MQ X a f)
  (o:∀ρ H σd hd σ l q vs Q,RS X.K ρ H σd hd σ->(SqL X.K H q vs\/H q=some .fU)->RDs X.K ρ H l vs->cB X.K .ht ρ H σd σ (g l hd) Q->r [.ref q] H Q)
  (s:autoParam (.bq X.env=(false,.bL X.env)::starEach [] X.env) Q3Q._auto_1):.l (.hS [a]) (λσ h=>(f σ h).bind λl h=>g l h):=by
 refine PE.imp (hb _<|.fm s) λσ H Q ⟨ρ,σd,hd,i,m⟩=>⟨ρ,σd,hd,i,(.a0 m).imp λv t ⟨c,l,e,u,b,⟨q,vs,k,n,d⟩,j⟩=>?_⟩;subst k;exact o c t σd e σ l q vs Q b n d j
def dk{c:LF}(h:Gl X "len")(hm:X.mg "len"=none)(ha:MQ X a c)(d:autoParam (.bq X.env=(false,.bL X.env)::starEach [] X.env) Q3Q._auto_1):ME X (.es<|.bT "len") (cT c) :=
 vx (Fd ze h hm PySem.boot_len (he:=d)) ha (λρ H σd i σ l q f Q e g b p=>⟨q,f,rfl,g.imp id SqT.of,by rw[<-b.length];exact p.here e .aU⟩) d
def eS{g:LF}(k:Gl X "tuple")(hm:X.mg "tuple"=none)(ha:MQ X a g)(h:autoParam (.bq X.env=(false,.bL X.env)::starEach [] X.env) Q3Q._auto_1):.l (.es<|.bT "tuple") (dR g):=by
 refine vx (RQ xc k hm .bd (he:=h)) ha (λρ H σd m σ l q d Q f b c p=>⟨q,d,rfl,?_⟩) h;rcases b with b|b
 ·refine .inl ⟨b,λj i=>?_⟩
  have e:=cV (o:=HO.tup d) i;exact p.at (.fi e) (f.same e) (by dsimp[rD,RD];exact⟨j,d,rfl,bB,c.mono (.c0 e)⟩)
 ·exact .inr ⟨SqT.of b,p.here f (by dsimp[rD,RD];exact⟨q,d,rfl,b,c⟩)⟩
def Bf(ns:.b):PySem.preSum .rw ns.length=ns.sum:=by
 have a:∀k,k<=ns.length->PySem.preSum .rw k=(ns.take k).sum:=by
  intro k
  induction k with
  |zero=>intro _;simp[PySem.preSum]
  |succ k b =>
   intro c;rw[PySem.preSum,b .a,List.take_add_one,ZE .a,List.sum_append];simp[List.getD,ZE (show k<ns.length by lia)]
 rw[a _ .r,XH]
def qg{a:List S1}{ns:.b}(r:aY .b4 a)(i:Nat)(v:S1)(h:a.toArray[i]?=some v):∃t,v=.int (ns.getD i 0) t:=by
 have f:a[i]?=some v:=by simpa using h
 have j:=r.length;have b:i<a.length:=(.le).1;have d:i<ns.length:=by rw[<-j]at b;simpa using b
 obtain⟨u,c,g⟩:=r.get (i:=i) (x:=.int ns[i]) .kZ;rw[f]at c;cases c;obtain⟨t,e⟩:=g;exact⟨t,by rw[e];simp[List.getD,d]⟩
def GB(x:.aJ):jb X (.cZ "sum") (λxs H Q=>∃(p:Addr) (ns:.b),xs=.hr/\(SqL X.K H p .b4\/SqT X.K H p .b4)/\Q (.int ns.sum) H):=by
 intro pins s σ H xs B Q I r q;obtain⟨p,ns,rfl,h,q⟩:=q;obtain⟨u,rfl,y⟩:=aY.one r;cases (show u=Value.ref p from y);have fin:∀{w:Obj} {j:Heap} {m:Nat} {l:Tok} {n:Nat},n=ns.length->(∀b o,b∉[s.heap.objs.size]->(s.heap.push w).get? b=some o->j.get? b=some o)->EP X pins σ Q (.int (PySem.preSum .rw n) l) { s with heap:=j,toks:=m }:=by
  intro w j m l n z k;subst z;refine⟨.int ns.sum,H,I.kept λb o e=>k b o .qK .f6,⟨l,by rw[Bf]⟩,q⟩
 have v:(X.A.in1).handled=none:=I.ok.hd x;rcases h with h|h
 ·obtain⟨a,rv,t,A⟩:=I.list h
  have f:.pb a.toArray:=t.isList;have c:p<s.heap.objs.size:=by obtain⟨o,g,_⟩:=f;exact ZI g
  refine PySem.call_sum_walkG (.tC f);refine⟨s.heap.objs.size,_,.ir,_,_,_,λi=>ns.getD i 0,rfl,PySem.Walks.list v s.heap.objs.size p (ZN c) a.toArray,⟨⟨_,ZJ _ rfl,rfl,rfl⟩,?_⟩,?_,qg rv,?_⟩
  ·obtain⟨o,g,r⟩:=f;exact⟨o,.R g,r⟩
  ·intro b d
   rcases y4.mp d with rfl|d
   ·rw[X1];exact YU _
   ·simp at d;subst d;rw[X1];exact Z2 c
  ·exact λj m l k=>fin .h7 k
 ·obtain⟨a,rv,t,A⟩:=I.tuple h
  have f:.o8 a.toArray:=t;have c:p<s.heap.objs.size:=by obtain⟨o,g,_⟩:=f;exact ZI g
  refine PySem.call_sum_walkG (U3 f ?_);refine⟨s.heap.objs.size,_,.ir,_,_,_,λi=>ns.getD i 0,rfl,PySem.Walks.tuple v s.heap.objs.size p (ZN c) a.toArray,⟨⟨_,ZJ _ rfl,rfl,rfl⟩,?_⟩,?_,qg rv,?_⟩
  ·obtain⟨o,g,r⟩:=f;exact⟨o,.R g,r⟩
  ·intro b d
   rcases y4.mp d with rfl|d
   ·rw[X1];exact YU _
   ·simp at d;subst d;rw[X1];exact Z2 c
  ·exact λj m l k=>fin .h7 k
theorem ik{K:ZX}{ρ:.I}{H:Hp}:∀{l:List D} {vs:List V} {a:.b},RDs K ρ H l vs->cC l=some a->vs=a.map V.int
 |[],_,a,r,e=>by dsimp[cC]at e;cases e;dsimp[RDs]at r;subst r;rfl
 |d::l,_,a,r,e=>by
  dsimp[RDs]at r;obtain⟨v,vs,rfl,h1,h2⟩:=r;cases d<;>dsimp[cC]at e<;>try (cases e;done)
  rename_i i
  cases c:cC l with
  |none=>rw[c]at e;cases e
  |some b =>
   rw[c]at e;cases e;dsimp[RD]at h1;rw[h1,ik h2 c];rfl
def DC{d:LF}(i:.aJ)(k:Gl X "sum")(hm:X.mg "sum"=none)(ha:MQ X a d)(f:autoParam (.bq X.env=(false,.bL X.env)::starEach [] X.env) Q3Q._auto_1):.l (.es<|.bT "sum") (uY d):=by
 refine vx (Fd (GB i) k hm .bd (he:=f)) ha (λρ H σd m σ l q n Q g j b p=>?_) f;cases c:cC l with
 |none=>dsimp[c]at p;exact p.elim
 |some h =>
  dsimp[c]at p;have e:=ik b c;subst e;exact⟨q,h,rfl,j.imp id SqT.of,p.here g .aU⟩
end
section
variable{K:ZX}{ρ:.I}{H:Hp}
mutual
theorem Bg:∀{d k:D} {v:V} {b:Bool},RD K ρ H d v->RD K ρ H k v->peq d k=some b->b=true
 |.int i,k,v,b,h1,h2,e=>by
  dsimp[RD]at h1;subst h1;cases k<;>dsimp[RD]at h2<;>try (cases h2;done)
  all_goals first
   |(rcases h2 with ⟨_,_,_,_,z,_⟩|⟨_,_,_,z,_⟩<;>(cases z;done))
   |(cases h2;dsimp[peq]at e;simpa using e.symm)
   |(obtain⟨_,_,z,_⟩:=h2;cases z;done)
   |(obtain⟨_,_,z⟩:=h2;cases z;done)
   |(obtain⟨_,_,_,z,_⟩:=h2;cases z;done)
 |.bl i,k,v,b,h1,h2,e=>by
  dsimp[RD]at h1;subst h1;cases k<;>dsimp[RD]at h2<;>try (cases h2;done)
  all_goals first
   |(rcases h2 with ⟨_,_,_,_,z,_⟩|⟨_,_,_,z,_⟩<;>(cases z;done))
   |(cases h2;dsimp[peq]at e;simpa using e.symm)
   |(obtain⟨_,_,z,_⟩:=h2;cases z;done)
   |(obtain⟨_,_,z⟩:=h2;cases z;done)
   |(obtain⟨_,_,_,z,_⟩:=h2;cases z;done)
 |.str x,k,v,b,h1,h2,e=>by
  dsimp[RD]at h1;subst h1;cases k<;>dsimp[RD]at h2<;>try (cases h2;done)
  all_goals first
   |(rcases h2 with ⟨_,_,_,_,z,_⟩|⟨_,_,_,z,_⟩<;>(cases z;done))
   |(dsimp[peq]at e;dsimp[toS,V.str.injEq,PySem.Str.mk.injEq]at h2;have g:=congrArg Array.toList h2;simp at g;subst g;simpa using e.symm)
   |(obtain⟨_,_,z,_⟩:=h2;cases z;done)
   |(obtain⟨_,_,z⟩:=h2;cases z;done)
   |(obtain⟨_,_,_,z,_⟩:=h2;cases z;done)
 |.non,k,v,b,h1,h2,e=>by
  dsimp[RD]at h1;subst h1;cases k<;>dsimp[RD]at h2<;>try (cases h2;done)
  all_goals first
   |(rcases h2 with ⟨_,_,_,_,z,_⟩|⟨_,_,_,z,_⟩<;>(cases z;done))
   |(dsimp[peq]at e;simpa using e.symm)
   |(obtain⟨_,_,z,_⟩:=h2;cases z;done)
   |(obtain⟨_,_,z⟩:=h2;cases z;done)
   |(obtain⟨_,_,_,z,_⟩:=h2;cases z;done)
 |.tup xs,k,v,b,h1,h2,e=>by
  dsimp[RD]at h1;obtain⟨p,vs,rfl,hp,f⟩:=h1;cases k<;>dsimp[peq]at e<;>try (cases e;done)
  ·dsimp[RD]at h2;cases h2
  ·dsimp[RD]at h2;cases h2
  ·rename_i m
   dsimp[RD]at h2;obtain⟨o,j,z,a,h⟩:=h2;cases z;rw[hp]at a;cases a;cases c:gY xs m with
   |none=>rw[c]at e;cases e
   |some q =>
    rw[c]at e;dsimp[Y8,X8]at e;have:=xS f h c;subst this;rw[<-e,f.length,h.length];simp
 |.ref n,k,v,b,h1,h2,e=>by cases k<;>dsimp[peq]at e<;>cases e
 |.lit l,k,v,b,h1,h2,e=>by cases k<;>dsimp[peq]at e<;>cases e
 |.exn c l,k,v,b,h1,h2,e=>by dsimp[peq]at e<;>cases e
theorem xS:∀{xs ys:List D} {vs:List V} {b:Bool},RDs K ρ H xs vs->RDs K ρ H ys vs->gY xs ys=some b->b=true
 |[],_,_,_,_,_,e=>by dsimp[gY]at e;cases e;rfl
 |x::xs,[],_,_,_,_,e=>by dsimp[gY]at e;cases e;rfl
 |x::xs,y::ys,_,b,h1,h2,e=>by
  dsimp[RDs]at h1 h2;obtain⟨v,r,rfl,f,h⟩:=h1;obtain⟨j,i,z,d,g⟩:=h2;cases z;dsimp[gY]at e;cases c:peq x y with
  |none=>rw[c]at e;cases e
  |some p =>
   cases a:gY xs ys with
   |none=>rw[c,a]at e;cases e
   |some q =>
    rw[c,a]at e;dsimp[X8]at e;rw[<-e,Bg f d c,xS h g a];rfl
end
end
section
variable{K:ZX}{ρ:.I}{H:Hp}{P:P2}{w:N3}{s:Q5}
def ku(hok:.oF){p:Addr}(h:H p=some .fU):∃a:List S1,aY vs a/\.o8 a.toArray:=by
 obtain⟨z,a,r,t⟩:=hok p _ h;exact⟨a,r,t⟩
mutual
theorem IT(hok:.oF):∀{d k:D} {v m:V} {u o:S1} {b:Bool} {A:P1},RD K ρ H d v->RD K ρ H k m->cf v u->cf m o->peq d k=some b->A.units+dep d<cLine->SeqAt.EqAt A s u o b
 |.int i,k,v,m,u,o,b,A,h1,h2,g,a,e,h=>by
  dsimp[RD]at h1;subst h1;obtain⟨t,rfl⟩:=g;cases k<;>dsimp[peq]at e<;>try (cases e;done)
  all_goals cases e
  ·dsimp[RD]at h2;subst h2;cases a;exact SeqAt.EqAt.int_none i t
  ·dsimp[RD]at h2;subst h2;cases a;exact SeqAt.EqAt.int_bool i t _
  ·dsimp[RD]at h2;subst h2;obtain⟨B,rfl⟩:=a;exact U8 i t _ B
  ·dsimp[RD]at h2;obtain⟨p,O,rfl,G,_⟩:=h2;cases a
   obtain⟨r,_,F⟩:=ku hok G;exact SeqAt.EqAt.int_tuple i t F (ZS .bF h)
 |.bl i,k,v,m,u,o,b,A,h1,h2,g,a,e,h=>by
  dsimp[RD]at h1;subst h1;cases g;cases k<;>dsimp[peq]at e<;>try (cases e;done)
  all_goals cases e
  ·dsimp[RD]at h2;subst h2;cases a;exact SeqAt.EqAt.bool_bool i _
  ·dsimp[RD]at h2;subst h2;obtain⟨B,rfl⟩:=a;exact SeqAt.EqAt.bool_int i _ B
 |.str x,k,v,m,u,o,b,A,h1,h2,g,a,e,h=>by
  dsimp[RD]at h1;subst h1;obtain⟨t,rfl⟩:=g;cases k<;>dsimp[peq]at e<;>try (cases e;done)
  all_goals cases e
  rename_i y
  dsimp[RD]at h2;subst h2;obtain⟨B,rfl⟩:=a;have:decide (x=y)=.r6:=by
   by_cases z:x=y
   ·subst z;simp
   ·have:¬toS x=toS y:=λq=>z .pw
    simp[z,this]
  rw[this];exact SeqAt.EqAt.str_str _ t _ B
 |.non,k,v,m,u,o,b,A,h1,h2,g,a,e,h=>by
  dsimp[RD]at h1;subst h1;cases g;cases k<;>dsimp[peq]at e<;>try (cases e;done)
  all_goals cases e
  ·dsimp[RD]at h2;subst h2;cases a;exact SeqAt.EqAt.same _
  ·dsimp[RD]at h2;subst h2;obtain⟨B,rfl⟩:=a;exact SeqAt.EqAt.none_int _ B
  ·dsimp[RD]at h2;obtain⟨p,O,rfl,G,_⟩:=h2;cases a
   obtain⟨r,_,F⟩:=ku hok G;exact SeqAt.EqAt.none_tuple F (ZS .bF h)
 |.tup Q,k,v,m,u,o,b,A,h1,h2,g,a,e,h=>by
  have L:=h1;dsimp[RD]at h1;obtain⟨p,O,rfl,G,q1⟩:=h1;cases g;obtain⟨r,rv,F⟩:=ku hok G;have E:A.units<cLine:=ZS .bF h;cases k<;>dsimp[peq]at e<;>try (cases e;done)
  ·cases e;dsimp[RD]at h2;subst h2;cases a;exact SeqAt.EqAt.tuple_none F E
  ·cases e;dsimp[RD]at h2;subst h2;obtain⟨B,rfl⟩:=a;exact SeqAt.EqAt.tuple_int _ B F E
  ·rename_i T
   have M:=h2;dsimp[RD]at h2;obtain⟨S,U,rfl,N,q2⟩:=h2;cases a
   by_cases hpp:p=S
   ·subst hpp
    have:b=true:=Bg L M (by dsimp[peq];exact e);subst this;exact SeqAt.EqAt.same _
   ·obtain⟨C,I,J⟩:=ku hok N
    cases c:gY Q T with
    |none=>rw[c]at e;cases e
    |some X =>
     rw[c]at e;dsimp[Y8,X8]at e;obtain⟨f,W,R⟩:=uA hok (A:=A.in1) q1 q2 rv I c (by dsimp[dep]at h;show A.units+1+jT Q<cLine;lia);have:=SeqAt.RcAt.tuples F J E (λj h1 h2=>by simpa using W j .gK .gJ);rw[<-e,<-R,q1.length,q2.length,rv.length,I.length];refine SeqAt.EqAt.of_refs hpp ?_;rw[show (decide (r.length=C.length))=(r.length == C.length) from rfl];simpa using this
 |.ref n,k,v,m,u,o,b,A,h1,h2,g,a,e,h=>by cases k<;>dsimp[peq]at e<;>cases e
 |.lit l,k,v,m,u,o,b,A,h1,h2,g,a,e,h=>by cases k<;>dsimp[peq]at e<;>cases e
 |.exn c l,k,v,m,u,o,b,A,h1,h2,g,a,e,h=>by dsimp[peq]at e<;>cases e
theorem uA(hok:.oF):∀{xs ys:List D} {vs d:List V} {g a:List S1} {b:Bool} {A:P1},RDs K ρ H xs vs->RDs K ρ H ys d->aY vs g->aY d a->gY xs ys=some b->A.units+jT xs<cLine->
  ∃f:Nat->Bool,(∀j (h1:j<g.length) (h2:j<a.length),SeqAt.EqAt A s g[j] a[j] (f j))/\(.gt<|min g.length a.length).all f=b
 |[],ys,vs,d,g,a,b,A,h1,h2,h,i,e,k=>by
  dsimp[RDs]at h1;subst h1;cases h;dsimp[gY]at e;cases e;exact⟨λ_=>true,λj h1=>by simp at h1,by simp⟩
 |x::xs,[],vs,d,g,a,b,A,h1,h2,h,i,e,k=>by
  dsimp[RDs]at h2;subst h2;cases i;dsimp[gY]at e;cases e;exact⟨λ_=>true,λj h1 h2=>by simp at h2,by simp⟩
 |x::xs,y::ys,vs,d,g,a,b,A,h1,h2,h,i,e,k=>by
  dsimp[RDs]at h1 h2;obtain⟨v,r,rfl,G,z⟩:=h1;obtain⟨J,I,rfl,C,u⟩:=h2;cases h with
  |cons n B =>
   cases i with
   |cons E o =>
    dsimp[gY]at e;cases c:peq x y with
    |none=>rw[c]at e;cases e
    |some p =>
     cases l:gY xs ys with
     |none=>rw[c,l]at e;cases e
     |some q =>
      rw[c,l]at e;dsimp[X8]at e;dsimp[jT]at k;have t:=IT hok (A:=A) G C n E c .a;obtain⟨f,F,m⟩:=uA hok (A:=A) z u B o l .a;refine⟨λj=>match j with|0=>p|j+1=>f j,λj h1 h2=>?_,?_⟩
      ·cases j with
       |zero=>exact t
       |succ j=>exact F j .gK .gJ
      ·rw[<-e,<-m,YT,YT,Nat.succ_min_succ,List.range_succ_eq_map,XW,List.all_map]
       rfl
end
def PB(hok:.oF){b:Bool}(h1:.cS)(h2:.bJ k G)(n:cf v u)(h:cf G C)(e:peq d k=some b)(F:A.units+dep d<cLine):
  SeqAt.RcAt A s u C b/\SeqAt.RcNeAt A s u C (!b):=by
 have a:A.units<cLine:=ZS .bF F;cases d<;>dsimp[RD]at h1
 ·subst h1;cases n
  cases k<;>dsimp[peq]at e<;>try (cases e;done)
  all_goals cases e
  ·dsimp[RD]at h2;subst h2;cases h;exact⟨SeqAt.RcAt.none_none,SeqAt.RcNeAt.none_none⟩
  ·dsimp[RD]at h2;subst h2;obtain⟨g,rfl⟩:=h;exact⟨SeqAt.RcAt.none_int _ g,SeqAt.RcNeAt.none_int _ g⟩
  ·dsimp[RD]at h2;obtain⟨p,I,rfl,r,_⟩:=h2;cases h
   obtain⟨l,_,i⟩:=ku hok r;exact⟨SeqAt.RcAt.none_tuple i a,SeqAt.RcNeAt.none_tuple i a⟩
 ·subst h1;cases n
  cases k<;>dsimp[peq]at e<;>try (cases e;done)
  all_goals cases e
  ·dsimp[RD]at h2;subst h2;cases h;exact⟨SeqAt.RcAt.bool_bool _ _,SeqAt.RcNeAt.bool_bool _ _⟩
  ·dsimp[RD]at h2;subst h2;obtain⟨g,rfl⟩:=h;exact⟨SeqAt.RcAt.bool_int _ _ g,SeqAt.RcNeAt.bool_int _ _ g⟩
 ·subst h1;obtain⟨t,rfl⟩:=n
  cases k<;>dsimp[peq]at e<;>try (cases e;done)
  all_goals cases e
  ·dsimp[RD]at h2;subst h2;cases h;exact⟨SeqAt.RcAt.int_none _ t,SeqAt.RcNeAt.int_none _ t⟩
  ·dsimp[RD]at h2;subst h2;cases h;exact⟨SeqAt.RcAt.int_bool _ t _,SeqAt.RcNeAt.int_bool _ t _⟩
  ·dsimp[RD]at h2;subst h2;obtain⟨g,rfl⟩:=h;exact⟨SeqAt.RcAt.int_int _ t _ g,SeqAt.RcNeAt.int_int _ t _ g⟩
  ·dsimp[RD]at h2;obtain⟨p,I,rfl,r,_⟩:=h2;cases h
   obtain⟨l,_,i⟩:=ku hok r;exact⟨SeqAt.RcAt.int_tuple _ t i a,SeqAt.RcNeAt.int_tuple _ t i a⟩
 ·subst h1;obtain⟨t,rfl⟩:=n
  cases k<;>dsimp[peq]at e<;>try (cases e;done)
  all_goals cases e
  rename_i x y
  dsimp[RD]at h2;subst h2;obtain⟨g,rfl⟩:=h;have:decide (x=y)=.r6:=by
   by_cases z:x=y
   ·subst z;simp
   ·have:¬toS x=toS y:=λq=>z .pw
    simp[z,this]
  rw[this];exact⟨SeqAt.RcAt.str_str _ t _ g,SeqAt.RcNeAt.str_str _ t _ g⟩
 ·rename_i L
  obtain⟨p,I,rfl,r,q1⟩:=h1;cases n;obtain⟨l,rv,i⟩:=ku hok r;cases k<;>dsimp[peq]at e<;>try (cases e;done)
  ·cases e;dsimp[RD]at h2;subst h2;cases h;exact⟨SeqAt.RcAt.tuple_none i a,SeqAt.RcNeAt.tuple_none i a⟩
  ·cases e;dsimp[RD]at h2;subst h2;obtain⟨g,rfl⟩:=h;exact⟨SeqAt.RcAt.tuple_int _ g i a,SeqAt.RcNeAt.tuple_int _ g i a⟩
  ·rename_i Q
   dsimp[RD]at h2;obtain⟨S,R,rfl,E,q2⟩:=h2;cases h;obtain⟨m,B,o⟩:=ku hok E;cases c:gY L Q with
   |none=>rw[c]at e;cases e
   |some T =>
    rw[c]at e;dsimp[Y8,X8]at e;obtain⟨f,J,M⟩:=uA hok (A:=A.in1) q1 q2 rv B c (by dsimp[dep]at F;show A.units+1+jT L<cLine;lia);have O:=SeqAt.RcAt.tuples i o a .wg;have N:=SeqAt.RcNeAt.tuples i o a .wg;rw[<-e,<-M,q1.length,q2.length,rv.length,B.length,show (decide (l.length=m.length))=(l.length == m.length) from rfl];exact⟨by simpa using O,by simpa using N⟩
 ·cases k<;>dsimp[peq]at e<;>cases e
 ·cases k<;>dsimp[peq]at e<;>cases e
 ·dsimp[peq]at e<;>cases e
end
section
variable{X:Cx}
def oz(r:.aW)(h:.cS)(e:ev hd d=some l):∃p vs,v=.ref p/\SqL K H p vs/\.ay l vs:=by
 cases d<;>dsimp[ev]at e<;>try (cases e;done)
 ·rename_i n
  dsimp[RD]at h;obtain⟨a,f,b⟩:=h;cases c:hd[n]? with
  |none=>rw[c]at e;cases e
  |some x =>
   rw[c]at e;cases x with
   |dct l=>cases e
   |dcT l=>cases e
   |ob l=>cases e
   |lst i =>
    cases e;obtain⟨vs,q1,q2⟩:=r.cel n _ a c f;exact⟨a,vs,b,SqL.of q1,q2⟩
 ·cases e
  dsimp[RD]at h;obtain⟨p,vs,f,b,g⟩:=h;exact⟨p,vs,f,b.sq,g⟩
def IU{σ:St}{b:Bool}(R:.lo)(I:.s)(r:RH X.K ρ H hd)(h1:RD X.K ρ H d v)(h2:RD X.K ρ H k B)
  (y:cf v u) (z:cf B w) (e:eqG hd d k=some b):SeqAt.RcAt X.A s u w b/\SeqAt.RcNeAt X.A s u w (!b):=by
 have g:X.A.units<cLine:=by lia
 dsimp[eqG]at e;cases n:ev hd d with
 |none =>
  cases i:ev hd k with
  |some l=>rw[n,i]at e;cases e
  |none =>
   rw[n,i]at e;simp only at e;split at e
   ·rename_i hd20
    exact PB I.hok h1 h2 y z e .a
   ·cases e
 |some E =>
  cases i:ev hd k with
  |none=>rw[n,i]at e;cases e
  |some L =>
   rw[n,i]at e;dsimp[eqL]at e;obtain⟨p,U,rfl,P,q1⟩:=oz r h1 n;obtain⟨F,N,rfl,K,q2⟩:=oz r h2 i;cases y;cases z;obtain⟨c,rv,O,_⟩:=I.list P;obtain⟨a,o,t,_⟩:=I.list K;have q:.pb c.toArray:=O.isList;have h:s.heap.IsList F a.toArray:=t.isList;have T:E.length=c.length:=q1.length.trans rv.length;have S:L.length=a.length:=q2.length.trans o.length;split at e
   ·rename_i hd20
    split at e
    ·rename_i Q
     obtain⟨f,C,x⟩:=uA I.hok (A:=X.A.in1) q1 q2 rv o e (by show X.A.units+1+jT E<cLine;lia);have m:c.toArray.size=a.toArray.size:=by simp;lia
     have J:=SeqAt.RcAt.lists q h m g .wh;have G:=SeqAt.RcNeAt.lists q h m g .wh;have M:min c.length a.length=c.length:=by lia
     rw[M]at x;rw[<-x];exact⟨by simpa using J,by simpa using G⟩
    ·rename_i Q
     cases e;have m:(c.toArray.size != a.toArray.size)=true:=by simp;lia
     exact⟨SeqAt.RcAt.lists_lengths q h m g,SeqAt.RcNeAt.lists_lengths q h m g⟩
   ·cases e
/---/def Mv(K:ZX)(f:Bool->Bool):R2:=λx y H Q=>∃ρ hd d k b,RH K ρ H hd/\RD K ρ H d x/\RD K ρ H k y/\eqG hd d k=some b/\Q (.bl<|f b) H
def dH(g:.lo):.ap (.cY .Eq) (Mv X.K id):=by
 intro pins s σ H x y v u Q I i f h;obtain⟨ρ,j,d,k,b,r,c,a,e,q⟩:=h;exact(IU g I r c a i f e).1 _ _ _ _ ⟨.bl b,H,I,rfl,q⟩
def gG(g:.lo):.ap (.cY .NotEq) (Mv X.K not):=by
 intro pins s σ H x y v u Q I i f h;obtain⟨ρ,j,d,k,b,r,c,a,e,q⟩:=h;exact(IU g I r c a i f e).2 _ _ _ _ ⟨.bl (!b),H,I,rfl,q⟩
def fS:Og K oEq (Mv K id):=by
 intro ρ H σd c σ d k v w Q f rv a p;unfold oEq at p;cases e:eqG c d k with
 |none=>rw[e]at p;exact p.elim
 |some b=>rw[e]at p;exact⟨ρ,c,d,k,b,f.hp,rv,a,e,p.here f .yN⟩
def jc:Og K oNe (Mv K not):=by
 intro ρ H σd c σ d k v w Q f rv a p;unfold oNe at p;cases e:eqG c d k with
 |none=>rw[e]at p;exact p.elim
 |some b=>rw[e]at p;exact⟨ρ,c,d,k,b,f.hp,rv,a,e,p.here f .aU⟩
end
section
variable{K:ZX}{ρ ρ':.I}{H H':Hp}{hd hd':Hd}{σd:Sd}{σ:St}
def cQ.outE{En:vf}(p:cQ K ρ H (outE r σd k) En):
  cB K (rD K) ρ H σd σ r (λv H'=>∃ρ' d hd',Ext ρ H ρ' H'/\RS K ρ' H' σd hd' σ/\RD K ρ' H' d v/\cQ K ρ' H' (k d hd') En):=by
 cases r with
 |ok d c=>exact λb H' ρ' a e q=>⟨ρ',d,c,a,e,q,cQ.ext a p⟩
 |exc x c=>exact p
 |bad=>exact p
def RSt.set(r:RSt K ρ H σd σ)(i:Nat)(h:.cS):RSt K ρ H (σd.set i<|some d) .ni:=by
 refine⟨by simp[r.len],λj x e=>?_⟩
 by_cases a:i=j
 ·subst a
  by_cases b:i<σd.length
  ·dsimp[slot,Z1 b]at e
   cases e;exact⟨v,by rw[Z1 (by rw[<-r.len];exact b)],h⟩
  ·dsimp[slot]at e
   rw[wZ (by simp;omega)]at e;cases e
 ·dsimp[slot,ZP a]at e
  rw[ZP a];exact r.at' j x (by simpa only[slot] using e)
/---/def RT(K:ZX)(g:GF):TG:=λv σ H Q=>∃ρ σd hd d σd',RS K ρ H σd hd σ/\RD K ρ H d v/\g d σd=some σd'/\∀σ',RS K ρ H σd' hd σ'->Q σ' H
/---/def PC(σ:Sd)(l:.i)(xs:List D):Sd:=(l.zip xs).foldl .xl σ
/---/def PD(K:ZX)(l:.i):TGs:=λvs σ H Q=>∃ρ σd hd ds,RS K ρ H σd hd σ/\RDs K ρ H ds vs/\ds.length=l.length/\∀σ',RS K ρ H (PC σd l ds) hd σ'->Q σ' H
end
/---/def MG(X:Cx)(tg:Expr)(g:GF):Prop:=PG X tg (RT X.K g)
/---/def MGs(X:Cx)(ts:.a8)(l:.i):Prop:=PGs X ts (PD X.K l)
section
variable{X:Cx}{pos:Pos}
def PG.imp(h:PG X tg t)(i:.AT):PG X tg u:=λpins s σ H v w Q I r q=>.c2 v w Q I r (i v σ H Q q)
def PGs.imp(h:PGs X tg t)(i:.AT):PGs X tg u:=λpins s σ H v w Q I r q=>.c2 v w Q I r (i v σ H Q q)
def Mw(c:.gf)(hi:.dV)(hx:.f8)(f:autoParam (X.fn x=true\/X.env.scope.names.lookup x=some .local) Q0Q._auto_1):MG X .fa (gN i):=by
 refine PG.imp (Mc c hi hx f) λv σ H Q zz=>?_;obtain⟨ρ,σd,g,d,b,a,rv,e,q⟩:=zz;dsimp[gN,X8]at e;subst e;exact q _ ⟨a.hp,a.st.set i rv⟩
def eU:MGs X [] []:=by
 refine PGs.imp Me λd σ H Q zz=>?_;obtain⟨ρ,σd,c,b,a,rv,e,q⟩:=zz;have:b=[]:=by simpa using e
 subst this;dsimp[RDs]at rv;exact⟨rv,q σ a⟩
def bE{l:.i}(h1:MG X e (gN i))(h2:MGs X a l)
  (m:autoParam ((.yQ).map (·.2)=assign e X.env::(.mI).map (·.2)) Q3Q._auto_1):MGs X (e::a) (i::l):=by
 refine PGs.imp (Iu h1 h2 m) λn σ H Q zz=>?_;obtain⟨ρ,σd,h,b,k,rv,e,q⟩:=zz;cases b with
 |nil=>simp at e
 |cons d b =>
  dsimp[RDs]at rv;obtain⟨v,r,rfl,h1,h2⟩:=rv;refine⟨v,r,rfl,ρ,σd,h,d,_,k,h1,rfl,λj f=>?_⟩;exact⟨ρ,_,h,b,f,h2,by simpa using e,λc g=>q c g⟩
def hJ{k:Nat}{l:.i}(j:.aJ)(h:MGs X a l)
  (hn:autoParam ((.mI).length=l.length) Q3Q._auto_1) (b:autoParam ((.mI).findIdx? (·.1)=none) Q3Q._auto_1):MG X (.Tuple a k pos) (gT l):=by
 refine PG.imp (Pe j h hn b) λv σ H Q zz=>?_;obtain⟨ρ,σd,g,d,c,i,rv,e,q⟩:=zz;cases d<;>dsimp[gT]at e<;>try (cases e;done)
 rename_i o
 split at e
 ·rename_i f
  cases e;dsimp[RD]at rv;obtain⟨p,n,rfl,m,r⟩:=rv;exact⟨p,n,rfl,SqT.of m,by rw[<-r.length];exact f,ρ,σd,g,o,i,r,f,q⟩
 ·cases e
def aV:MSs X [] bT:=PSs.imp L9 λEn σ H ⟨ρ,σd,b,a,p⟩=>p σ H ρ Ext.refl a
def ah{st:Stmt}{rest:.e8}{a b:SF}(h1:MS X st a)(h2:MSs X rest b):MSs X (st::rest) (aA a b):=by
 refine PSs.imp (Iq h1 h2) λEn σ H ⟨ρ,σd,f,h,p⟩=>⟨ρ,σd,f,h,?_⟩;unfold aA at p;cases e:a σd f with
 |nx σ1 h1=>rw[e]at p;exact λg j ρ' i c=>⟨ρ',σ1,h1,c,cQ.ext i p⟩
 |rt d h1=>rw[e]at p;exact p
 |bk σ1 h1=>rw[e]at p;exact p
 |ct σ1 h1=>rw[e]at p;exact p
 |exc x σ1 h1=>rw[e]at p;exact p
 |bad=>rw[e]at p;exact p
def au{st:Stmt}(h:MS X st a):MSs X [st] a:=Ma h
def Bh:MS X (.Continue pos) ON:=PS.imp A4 λEn σ H ⟨ρ,σd,b,a,p⟩=>p σ H ρ Ext.refl a
def gH{st:Stmt}:MS X st kO:=PS.imp Ir λEn σ H ⟨ρ,σd,a,b,p⟩=>p.elim
def aE(h:.eo):MS X (.Return (some e) pos) (aS f):=by
 refine PS.imp (Pa h) λEn σ H ⟨ρ,σd,c,g,p⟩=>⟨ρ,σd,c,g,(.iT).imp λv j zz=>?_⟩;obtain⟨b,d,k,l,a,rv,i⟩:=zz;exact i v j b Ext.refl a.hp rv
def dB(h:.eo)(k:autoParam (swapsWith e none pos.line X.env=pure false) Q3Q._auto_1):MS X (.Expr e pos) (gx f):=by
 refine PS.imp (Mb h k) λEn σ H ⟨ρ,σd,c,g,p⟩=>⟨ρ,σd,c,g,(.iT).imp λv j zz=>?_⟩;obtain⟨b,d,l,m,a,rv,i⟩:=zz;exact i σ j b Ext.refl a
def bY{a b:.e8}(l:MT X c t)(ha:MSs X a i)(hb:MSs X b g):MS X (.If c a b pos) (sIf t i g):=by
 refine PS.imp (Rr l ha hb) λEn σ H ⟨ρ,σd,h,k,p⟩=>⟨ρ,σd,h,k,?_⟩;unfold sIf at p;cases e:t σd h with
 |ok c f =>
  rw[e]at p;intro b m ρ' j d q;cases q;cases c with
  |true=>dsimp[WB]at p⊢;exact⟨ρ',σd,f,d,cQ.ext j p⟩
  |false=>dsimp[Y4,WN]at p⊢;exact⟨ρ',σd,f,d,cQ.ext j p⟩
 |exc x f=>rw[e]at p;exact p
 |bad=>rw[e]at p;exact p
def PF(m:.gf)(hi:.dV)(hx:.f8)(he:.eo)(j:autoParam (.tE X.env=pure false) Q3Q._auto_1)(o:autoParam (X.fn x=true\/X.env.scope.names.lookup x=some .local) Q0Q._auto_1):
  MS X .tz (aG (gN i) f):=by
 refine PS.imp (Pf m hi hx he j o) λEn σ H ⟨ρ,σd,l,g,p⟩=>⟨ρ,σd,l,g,(.iT).imp λv n zz=>?_⟩;obtain⟨c,d,k,q,b,rv,h⟩:=zz;exact h _ n c Ext.refl ⟨b.hp,b.st.set i rv⟩
def PJ:Fm.ixN=L2.ixN:=rfl
def rT{fo C G:EF}{f:Pos}(he:.l e G)(U:.hI)(hi:.l i C)(M:autoParam (swapsWithSole .gP e pos.line X.env=pure false) Q3Q._auto_1)(W:autoParam (swappedStores .gP e X.env=pure none) Q3Q._auto_1)
  (h1:autoParam ((.zr).map (·.2)=.w3) Q3Q._auto_1) (ha:autoParam (∀v,assign (.Subscript o i f) X.env v=(do
   let ov <-holding [v] .db
   let u <-holding [v,ov] .nq
   standAt f
   holding [v,ov,u] (setItem ov u v)
   release [v,ov,u] [])) Q2Q._auto_1):MS X (.lF .gP) (nn fo C G):=by
 refine PS.imp (Dr he (Dq U hi II ha) M W h1) λEn σ H ⟨ρ,σd,P,Q,p⟩=>⟨ρ,σd,P,Q,(.iT).imp λv H1 zz=>?_⟩;obtain⟨x,d,z,Y,s,rv,R⟩:=zz;refine⟨x,σd,z,s,(cQ.outE R).imp λvo H2 zz=>?_⟩;obtain⟨A,V,y,L,g,N,f⟩:=zz;refine⟨A,σd,y,g,(cQ.outE f).imp λZ J zz=>?_⟩;obtain⟨h,O,t,E,m,I,b⟩:=zz;have B:=(.dq<|s.hp.kp L).mono (g.hp.kp E);have r:=N.mono (g.hp.kp E);cases V with
 |ref n =>
  cases O with
  |int j =>
   simp only at b;cases c:t[n]? with
   |none=>rw[c]at b;exact b.elim
   |some cell =>
    rw[c]at b;cases cell with
    |dct l=>exact b.elim
    |dcT l=>exact b.elim
    |ob l=>exact b.elim
    |lst l =>
     simp only at b;cases w:ixN l.length j with
     |none=>rw[w]at b;exact b.elim
     |some k =>
      rw[w]at b;dsimp[RD]at r I;obtain⟨a,ha,rfl⟩:=r;obtain⟨D,K,q⟩:=m.hp.cel n _ a c ha;refine⟨a,D,j,k,rfl,I,K,by rw[<-q.length,<-PJ];exact w,?_⟩;have S:n<t.length:=(.i3).1;have T:=m.hp.write ha S (RDs.set B k q);have F:Ext h J h (upd J a<|.lst<|D.set k v):=Ext.write (ZK ha);exact b σ _ h F (m.ext F T)
  |_=>exact b.elim
 |_=>exact b.elim
end
section
variable(K:ZX)
structure xf(ρ0:.I)(H0:Hp)(J:It)(l:List D)(g:.gd):Prop where
 go:∀ρ H hd (i:Nat) d,Ext ρ0 H0 ρ H->RH K ρ H hd->held g l hd->l[i]?=some d->J.go i H/\∀x H',J.yld i H x H'->mZ H H'/\RD K ρ H' d x
 stop:∀ρ H hd,Ext ρ0 H0 ρ H->RH K ρ H hd->held g l hd->J.stop l.length H
 sz:l.length<=sizeLine
/---/def RU(ρ:.I)(H:Hp)(σd:Sd)(σ:St)(r:Res .q2)(R:.lz):Prop:=match r with
 |.ok p hd'=>∀J H' ρ',Ext ρ H ρ' H'->RS K ρ' H' σd hd' σ->xf K ρ' H' J p.1 p.2->R J H'
 |_=>False
/---/def RV(f:IF):TI:=λσ H R=>∃ρ σd hd,RS K ρ H σd hd σ/\RU K ρ H σd σ .la R
end
/---/def MI(X:Cx)(tg e:Expr)(f:IF):Prop:=PI X tg e (RV X.K f)
section
variable{X:Cx}{pos:Pos}{tg:Expr}
def PI.imp(h:PI X tg e t)(i:∀σ H R,u σ H R->t σ H R):PI X tg e u:=λpins s σ H R I q=>.c2 R I (i σ H R q)
def eB{f:IF}{b:SF}(hp:.ll)(Z:.aJ)(hi:MI X tg s f)(hg:MG X tg g)(hb:MSs X A b)
  (hs:autoParam (∀x,foldedSetIterable s X.env x=pure x) Q2Q._auto_1):MS X (.For tg s A [] pos) (fz f g b):=by
 refine PS.imp (Iw hp Z hi hg hb hs) λEn σ H ⟨ρ,σd,V,rs,p⟩=>⟨ρ,σd,V,rs,?_⟩;unfold fz at p;cases e:f σd V with
 |exc x h'=>rw[e]at p;exact p
 |bad=>rw[e]at p;exact p
 |ok q T =>
  rw[e]at p;obtain⟨l,N⟩:=q;intro J W D U S R;simp only at p R;refine⟨λi m B z=>∃ρ' k hd',Ext D W ρ' z/\RS X.K ρ' z k hd' B/\i<=l.length/\m=l.length - i/\cQ X.K ρ' z (eM N l g b .n4 k hd') En,
   ⟨l.length,D,σd,T,Ext.refl,S,YZ _,by simp,by simpa using cQ.ext U p⟩,?_⟩
  rintro i m B z ⟨ρ',k,hd',O,u,a0,rfl,a⟩
  by_cases F:i<l.length
  ·have P:l[i]?=some l[i]:=by simp[F]
   rw[XE F]at a;unfold eM at a
   by_cases E:held N l hd'
   ·rw[z4 E]at a
    obtain⟨go,yl⟩:=R.go ρ' z hd' i _ O u.hp E P;refine .inr ⟨go,λG I=>∃t h w,Ext D W t I/\RS X.K t I h w G/\cQ X.K t I (eM N l g b (l.drop (i + 1)) h w) En,
     λG I ⟨t,h,w,a1,a2,a3⟩=>⟨l.length-(i+1),by omega,t,h,w,a1,a2,F,rfl,a3⟩,λx I y=>?_⟩
    obtain⟨Y,rx⟩:=yl x I y;cases c:g l[i] k with
    |none=>rw[c]at a;exact a.elim
    |some h =>
     rw[c]at a;simp only at a;refine⟨ρ',k,hd',l[i],h,u.same Y,rx,c,λG Q=>⟨ρ',h,hd',Q,?_⟩⟩;have r:Ext ρ' z ρ' I:=Ext.same Y;cases K:b h hd' with
     |nx σ3 L=>rw[K]at a;exact λC M n j o=>⟨n,σ3,L,O.trans .iR,o,cQ.ext .iR a⟩
     |ct σ3 L=>rw[K]at a;exact λC M n j o=>⟨n,σ3,L,O.trans .iR,o,cQ.ext .iR a⟩
     |bk σ3 L=>rw[K]at a;exact λC M n j o=>a C M n .iR o
     |rt d L=>rw[K]at a;exact λv M n j o rv=>a v M n .iR o rv
     |exc x σ3 L=>rw[K]at a;exact a
     |bad=>rw[K]at a;exact a
   ·rw[yD E]at a;exact a.elim
  ·have e0:i=l.length:=by omega
   subst e0;rw[List.drop_length]at a;unfold eM at a
   by_cases E:held N l hd'
   ·rw[z4 E]at a
    exact .inl ⟨R.stop ρ' z hd' O u.hp E,a B z ρ' Ext.refl u⟩
   ·rw[yD E]at a;exact a.elim
def IV{b:SF}(hp:.ll)(J:MT X c t)(hb:MSs X n b):MS X (.While c n [] pos) (uZ t b):=by
 refine PS.imp (Iv hp J hb) λEn σ H ⟨ρ,σd,G,I,p⟩=>?_;unfold uZ at p;refine⟨λm o E=>∃ρ' a hd',RS X.K ρ' E a hd' o/\cQ X.K ρ' E (gy t b m a hd') En,⟨LV t b σd G,ρ,σd,G,I,p⟩,?_⟩;rintro m o E ⟨ρ',a,hd',D,f⟩;cases m with
 |zero=>exact f.elim
 |succ m =>
  unfold gy at f;refine⟨ρ',a,hd',D,?_⟩;cases e:t a hd' with
  |exc x C=>rw[e]at f;exact f
  |bad=>rw[e]at f;exact f
  |ok c C =>
   rw[e]at f;intro L K z k w q;cases q;cases c with
   |false=>dsimp[Y4,WN]at f⊢;exact f o K z k w
   |true =>
    dsimp[WB]at f⊢;refine⟨λg F=>∃B l y,RS X.K B F l y g/\cQ X.K B F (gy t b m l y) En,λg F q=>⟨m,YU _,q⟩,z,a,C,w,?_⟩;cases s:b a C with
    |nx g u=>rw[s]at f;exact λr A j i h=>⟨j,g,u,h,cQ.ext .nM f⟩
    |ct g u=>rw[s]at f;exact λr A j i h=>⟨j,g,u,h,cQ.ext .nM f⟩
    |bk g u=>rw[s]at f;exact λr A j i h=>f r A j .nM h
    |rt d u=>rw[s]at f;exact λv A j i h rv=>f v A j .nM h rv
    |exc x g u=>rw[s]at f;exact f
    |bad=>rw[s]at f;exact f
theorem IW(r:.aW)(hq:H q=some .fU)(rv:.f9)(hz:.tn):xf K ρ H (Itt K q) l none where
 go:=λρ' e hd' i d a h _ f=>by
  have k:=r.kp a;obtain⟨v,b,g⟩:=(.dq k).get f;have c:SqT K e q vs:=SqT.of (k.tup q vs hq);refine⟨⟨vs,v,c,b⟩,λx j y=>?_⟩;obtain⟨rfl,y⟩:=y;have:=y vs c;rw[b]at this;cases this;exact⟨mZ.refl _,g⟩
 stop:=λρ' e hd' a h _=>⟨vs,SqT.of ((r.kp a).tup q vs hq),by rw[rv.length];exact ZL _⟩
 sz:=by rw[rv.length];exact hz
theorem IX(r:.aW)(hq:tF K H q vs)(rv:.f9)(hz:.tn):xf K ρ H (Itl K q) l none where
 go:=λρ' e hd' i d a h _ f=>by
  have k:=r.kp a;obtain⟨v,b,g⟩:=(.dq k).get f;have c:SqL K e q vs:=(hq.mono k).sq;refine⟨⟨vs,v,c,b⟩,λx j y=>?_⟩;obtain⟨rfl,y⟩:=y;have:=y vs c;rw[b]at this;cases this;exact⟨mZ.refl _,g⟩
 stop:=λρ' e hd' a h _=>⟨vs,(hq.mono<|r.kp a).sq,by rw[rv.length];exact ZL _⟩
 sz:=by rw[rv.length];exact hz
theorem IY(hq:ρ[n]?=some q)(hz:l.length<=sizeLine):xf K ρ H (Itl K q) l (some n) where
 sz:=hz
 go:=λρ' j hd' i d b c f k=>by
  obtain⟨a,e,rv⟩:=c.cel n _ q f (b.get hq);obtain⟨v,g,m⟩:=rv.get k;have h:SqL K j q a:=SqL.of e;refine⟨⟨a,v,h,g⟩,λx o y=>?_⟩;obtain⟨rfl,y⟩:=y;have:=y a h;rw[g]at this;cases this;exact⟨mZ.refl _,m⟩
 stop:=λρ' j hd' b c f=>by
  obtain⟨a,e,rv⟩:=c.cel n _ q f (b.get hq);exact⟨a,SqL.of e,by rw[rv.length];exact ZL _⟩
def PK{l:Expr}(r:.w l n):PI X tg l (λσ H R=>n σ H λx d=>(∃a xs,x=.ref a/\SqL X.K d a xs/\(xs.length<=sizeLine->R (Itl X.K a) d))\/∃a xs,x=.ref a/\SqT X.K d a xs/\(xs.length<=sizeLine->R (Itt X.K a) d)):=by
 intro pins s σ H R I h;refine thn (r pins s σ H _ I h) λv f ⟨x,d,c,m,q1⟩=>?_;rcases q1 with ⟨a,xs,e,i,q⟩|⟨a,xs,e,i,q⟩
 ·subst e
  cases m;obtain⟨g,rv,p,j⟩:=c.list i;refine UK p.isList ?_;refine⟨f.heap.objs.size,[f.heap.objs.size],_,_,d,rfl,c.kept λb o e=>.R e,Gq a _,⟨_,ZJ _ rfl,rfl,rfl⟩,λb k=>?_,q j⟩;have e:b=f.heap.objs.size:=by simpa using k
  subst e;exact c.fpOk .r (c.hok.fresh .r)
 ·subst e
  cases m;obtain⟨g,rv,p,j⟩:=c.tuple i;refine WT (show f.heap.IsTuple a g.toArray from p) ?_;refine⟨f.heap.objs.size,[f.heap.objs.size],_,_,d,rfl,c.kept λb o e=>.R e,Du a _,⟨_,ZJ _ rfl,rfl,rfl⟩,λb k=>?_,q j⟩;have e:b=f.heap.objs.size:=by simpa using k
  subst e;exact c.fpOk .r (c.hok.fresh .r)
def cN(h:.eo):MI X tg e (bV f):=by
 refine PI.imp (PK h) λσ H R ⟨ρ,σd,u,w,p⟩=>⟨ρ,σd,u,w,?_⟩;unfold bV at p;cases e:f σd u with
 |exc x z=>rw[e]at p;exact p
 |bad=>rw[e]at p;exact p
 |ok d r =>
  rw[e]at p;dsimp[aH]at p;intro v s i j b rv;cases d<;>try exact p.elim
  ·rename_i l
   dsimp[rD,RD]at rv;obtain⟨q,o,rfl,k,g⟩:=rv;exact .inr ⟨q,o,rfl,SqT.of k,λm=>p _ s i j b (IW b.hp k g m)⟩
  ·rename_i n
   dsimp[rD,RD]at rv;obtain⟨a,t,rfl⟩:=rv;cases c:r[n]? with
   |none=>dsimp[c]at p;exact p.elim
   |some cell =>
    cases cell with
    |dct l=>dsimp[c]at p;exact p.elim
    |dcT l=>dsimp[c]at p;exact p.elim
    |ob l=>dsimp[c]at p;exact p.elim
    |lst l =>
     dsimp[c]at p;obtain⟨o,y,g⟩:=b.hp.cel n _ a c t;exact .inl ⟨a,o,rfl,SqL.of y,λm=>p _ s i j b (IY t (by rw[g.length];exact m))⟩
  ·rename_i l
   dsimp[rD,RD]at rv;obtain⟨q,o,rfl,k,g⟩:=rv;exact .inl ⟨q,o,rfl,k.sq,λm=>p _ s i j b (IX b.hp k g m)⟩
theorem vy(lo:Int)(n:Nat)(hz:n<=2000000):xf K ρ H (Itr lo n) ((.k).map λk:Nat=>.int (lo+k)) none where
 go:=λρ' c hd' i d f g _ b=>by
  have a:i<n:=by
   have:=(zS.mp b).1;simpa using this
  refine⟨a,λx h y=>?_⟩;obtain⟨rfl,rfl⟩:=y;have e:d=.int (lo+i):=by simpa[a] using b.symm
  subst e;exact⟨mZ.refl _,by dsimp[RD]⟩
 stop:=λρ' c hd' f g _=>by
  show n<=_;simp
 sz:=by
  have:(2000000:Nat)<=sizeLine:=by rw[YQ];decide
  simp;omega
def c9(m:.lA)(hm:.lq)(ha:.l a f)(k:autoParam (.bq X.env=.ij) Q3Q._auto_1):MI X tg (.es .oX) (ce f):=by
 refine PI.imp (Gr m hm (.fm k) k) λσ H R ⟨ρ,σd,i,l,b⟩=>⟨ρ,σd,i,l,?_⟩;unfold ce at b;cases e:f σd i with
 |exc x q=>rw[e]at b;exact b
 |bad=>rw[e]at b;exact b
 |ok d o =>
  rw[e]at b;dsimp[aH]at b;intro v j c h g rv;cases d<;>try exact b.elim
  rename_i n
  simp only at b;dsimp[rD,RD]at rv;subst rv;split at b
  ·rename_i r
   refine⟨n,rfl,by omega,by omega,b _ j c h g ?_⟩;have:=vy (K:=X.K) (ρ := c) (H:=j) 0 n.toNat .bm;simpa using this
  ·exact b.elim
def GC(B:.lA)(hm:.lq)(ha:.l a f)(hb:.l b g)(u:autoParam (.jD X.env=.l7) Q3Q._auto_1)(h:autoParam (.jF X.env=.mw) Q3Q._auto_1):MI X tg (.jw .oX) (p9 f g):=by
 refine PI.imp (Gs B hm (cP ha (cP hb eQ h) (by rw[u,h])) u h) λσ H R ⟨ρ,σd,w,y,c⟩=>⟨ρ,σd,w,y,?_⟩;unfold p9 at c;cases e:f σd w with
 |exc x z=>rw[e]at c;exact c
 |bad=>rw[e]at c;exact c
 |ok d l =>
  rw[e]at c;dsimp[aH]at c;intro v E q t o rv;refine⟨q,σd,l,o,?_⟩;cases m:g σd l with
  |exc x z=>rw[m]at c;exact c
  |bad=>rw[m]at c;exact c
  |ok C A =>
   rw[m]at c;dsimp[aH]at c;intro F D s n r k;cases d<;>try exact c.elim
   cases C<;>try exact c.elim
   rename_i i j
   simp only at c;dsimp[rD,RD]at rv k;subst rv k;split at c
   ·rename_i hb
    exact⟨i,j,rfl,⟨by omega,by omega,by omega,by omega⟩,c _ D s (t.trans n) r (vy i (j-i).toNat .bm)⟩
   ·exact c.elim
end
section
variable{prog:P2}{w:N3}{A:P1}{R:Result->Q5->Prop}{s:Q5}
noncomputable def zi{p d y:Expr}(F:∀e s,¬E e s)(I:Nat->Q5->Prop)
  (turn:∀n s,I n s->wpAny .aj A (pyNext it) (λr b => match r with
   |none=>R (.ok .next) b
   | some v=>wpAny .aj A (letOwnedTupleGo d it v) (λ_ b => wpAny .aj A (assign d env v) (λ_ k =>
     wpAny .aj A (forIn q true λc r=>if r=true then do let ok <-isTrue c env (eval c env);pure (ForInStep.yield ok) else pure .mP) (λok g =>
      if ok=true then wpAny .aj A (eval p env) (λx j =>
       wpAny .aj A (call (.cZ "list.append") [acc,x]) (λ_ i=>∃m,m<n/\I m i) E j) E g
      else ∃m,m<n/\I m g) E k) E b) E b) E s)
  (n:Nat) (h:I n s) :
  codeAny .aj A (.compLoop (.hR p [⟨d,y,q,0⟩]) 0 it acc env) R s:=by
 refine codeAny_loop rfl I (λn s H=>?_) n h;refine wpAny_noted ?_;rw[compTurn_list];have o:∀{α:Type} {t:Sem α} {Q D:α->Q5->Prop} {J:.q} {s:Q5},wpAny .aj A t Q E s->(∀a s,Q a s->D a s)->wpAny .aj A t D J s:=λh G=>UE h G λe s z=>(F e s z).elim;refine z0 (wz (z0 (o (turn n s H) λr b f=>?_)));cases r with
 |none=>exact wX f
 |some v =>
  refine z0 (o f λ_ b f=>?_);refine z0 (o f λ_ k u=>z0 (o u λok g l=>?_));cases ok with
  |false=>exact wX ⟨rfl,l⟩
  |true =>
   exact z0 (z0<|o l λx j B=>z0 (o B λ_ i C=>wX (wX ⟨rfl,C⟩)))
end
theorem pD:∀(l:List .iC) (cs:.hJ),(∀y∈l,y.2=.free->∃c,env.cells.lookup y.1=some c)->
  ∃f,(forIn l cs λ(x:Str × NameKind) (r:.hJ)=>if (x.2 == .free)=true then do let a <-cellOf env x.1;pure .xy else pure .mP)=(pure f:Sem _)/\
   (∀x c,f.lookup x=some c->cs.lookup x=some c\/env.cells.lookup x=some c)/\(∀y∈l,y.2=.free->∃c,f.lookup y.1=some c)/\∀x c,cs.lookup x=some c->∃t,f.lookup x=some t
 |[],cs,_=>⟨cs,by simp,λx c h=>.inl h,λy hy=>by simp at hy,λx c h=>⟨c,h⟩⟩
 |(n,k)::l,cs,o=>by
  by_cases p:k=.free
  ·subst p
   obtain⟨c,s⟩:=o (n,.free) .e rfl;obtain⟨f,m,i,j,g⟩:=pD l ((n,c)::cs) λy hy=>o y .sN;refine⟨f,?_,λx d h=>?_,λy hy b=>?_,λx d h=>?_⟩
   ·rw[List.forIn_cons]
    dsimp[beq_self_eq_true,WB,cellOf,s];exact m
   ·rcases i x d h with q|q
    ·rw[Y7]at q
     cases e:x == n with
     |true =>
      rw[e]at q;have:x=n:=by simpa using e
      subst this;cases q;exact .inr s
     |false=>rw[e]at q;exact .inl q
    ·exact .inr q
   ·rcases y4.mp hy with e|e
    ·subst e
     exact g n c (by simp[Y7])
    ·exact j y e b
   ·by_cases e:x=n
    ·subst e
     exact g x c (by simp[Y7])
    ·exact g x d (by rw[Y7,beq_eq_false_iff_ne.mpr e];exact h)
  ·obtain⟨f,m,i,j,g⟩:=pD l cs λy hy=>o y .sN
   refine⟨f,?_,i,λy hy b=>?_,g⟩
   ·rw[List.forIn_cons]
    have:(k == NameKind.free)=false:=by simpa using p
    dsimp[this,Y4,WN];exact m
   ·rcases y4.mp hy with e|e
    ·subst e;exact absurd b p
    ·exact j y e b
def jC(i:∀y∈scope.names,y.2=.free->∃c,env.cells.lookup y.1=some c):
  ∃b,closureFor scope env=pure b/\(∀x c,b.lookup x=some c->env.cells.lookup x=some c)/\∀y∈scope.names,y.2=.free->∃c,b.lookup y.1=some c:=by
 obtain⟨b,g,d,f,_⟩:=pD scope.names [] i;refine⟨b,?_,λx c h=>(d x c h).elim (λz=>by simp at z) id,f⟩;unfold closureFor;have e:(forIn scope.names ([]:List .pR) λ(x:Str × NameKind) (r:.hJ)=>if (x.2 == .free)=true then do let a <-cellOf env x.1;pure .xy else pure .mP)=(pure b:Sem _):=g;exact(congrArg (λt:Sem (List .pR)=>t >>= λr=>pure r) e).trans rfl
def cxC(X:Cx)(N:.af)(scope:Scope)(cl:.hJ)(C:Addr)(s:Q5)(H:Hp)(ex:.I):Cx where
 prog:=X.prog
 w:=X.w
 K:=X.K
 mg:=X.mg
 base:=X.base
 A:=X.A
 N:=N
 s₀ := s
 H₀ := H
 env:=compEnvC scope cl C X.env
 outer:=X.stack
 stack:=X.stack
 ex:=ex
 fn:=λ_=>false
 calm:=X.calm
 pn:=[]
 xe:=λ_ _=>False
/---/def MTs(X:Cx)(ifs:.a8)(cs:List TF):Prop :=
 ∀(pins:.J) (s:Q5) (σ:St) (H:Hp) (Q:.oK),Inv X pins σ H s->ny X.K rB (jW cs) σ H Q->
  wpAny .ag X.A (forIn ifs true λc r=>if r=true then do let ok <-isTrue c X.env (.gs c);pure (ForInStep.yield ok) else pure .mP) .sa X.xe s
def bP:MTs X [] []:=λpins s σ H Q I ⟨ρ,σd,b,a,p⟩=>wpAny_tests_nil ⟨H,I,p.here a rfl⟩
def uB(h:MT X c t):MTs X [c] [t]:=λpins s σ H Q I ⟨ρ,σd,a,d,p⟩=>wpAny_tests_one (h pins s σ H Q I ⟨ρ,σd,a,d,by
 have e:jW [t] σd a=t σd a:=by
  dsimp[jW];cases c:t σd a with
  |ok b f=>cases b<;>simp
  |exc x f=>rfl
  |bad=>rfl
 rw[e]at p;exact p⟩)
theorem nz{env:Env}{x:Str}:∀{names:List .iC} {k:NameKind},(.ph).lookup x=some k->
  ∃e,names.lookup x=some e/\(k=e\/(e=.free/\k=.cell))
 |[],_,h=>by simp at h
 |(n,d)::r,k,h=>by
  have f := @nz env x r k;have a:List.lookup x ((if .pv=true then (n,NameKind.cell) else (n,d))::_)=some k:=h;cases c:x == n with
  |true =>
   refine⟨d,by simp[Y7,c],?_⟩
   by_cases b:.pv=true
   ·rw[z4 b]at a
    dsimp[Y7,c,X8]at a;dsimp[YB,beq_iff_eq]at b;exact .inr ⟨b.1.1,a.symm⟩
   ·rw[yD b]at a
    dsimp[Y7,c,X8]at a;exact .inl a.symm
  |false =>
   have:List.lookup x ((n,d)::r)=List.lookup x r:=by simp[Y7,c]
   rw[this];refine f ?_
   by_cases b:.pv=true
   ·rw[z4 b]at a;simpa only[Y7,c] using a
   ·rw[yD b]at a;simpa only[Y7,c] using a
theorem jD{x:Str}:∀{l:List .iC},l.lookup x=some k->(x,k)∈l
 |[],h=>by simp at h
 |(n,a)::r,h=>by
  rw[Y7]at h;cases e:x == n with
  |true =>
   rw[e]at h;have:x=n:=by simpa using e
   subst this;cases h;exact ZV
  |false=>rw[e]at h;exact ZW _ (jD h)
structure bL(X:Cx)(scope:Scope)(own capn:.af)(caps:.i):Prop where
 kind:scope.kind=.function
 cell:∀y∈scope.names,y.2 ≠ .cell
 names:∀y∈scope.names,y.2=.local->scope.names.lookup y.1=some .local
 free:∀y∈scope.names,y.2=.free->X.env.kindOf y.1=some .cell\/X.env.kindOf y.1=some .free
 cap:∀(j:Nat) x,capn[j]?=some x->∃i,caps[j]?=some i/\X.N[i]?=some x/\scope.names.lookup x=some .free
 len:capn.length=caps.length
section
variable{X:Cx}{pins:.J}{σ:St}{H1:Hp}{s2:Q5}{scope:Scope}{own capn:.af}{caps:.i}{cl:.hJ}{C:Addr}{ex:.I}
/---/def stC(own:.af)(caps:.i)(σ:St):St:=List.replicate own.length none++caps.map λi=>(σ[i]?).join
theorem PL(I:.to)(S:.e3)(r:s2.heap.objs.size<=C)(a:.s0)(g:.sY)
  (p:∀b∈ex,vg X pins H1 b) (m:.AZ):(.xm).Ok where
 mod:=I.ok.mod
 kind:=S.kind
 glob:=I.ok.glob
 blt:=I.ok.blt
 above:=r
 inj:=λx y c v D=>I.ok.inj x y c (a x c v) (a y c D)
 has:=λx F=>by
  have f:∀k,(relabel scope X.env).names.lookup x=some k->k=.cell\/k=.free->∃c,cl.lookup x=some c:=λk h B=>by
   obtain⟨w,E,q⟩:=nz h;have s:=jD E;have:w=.free:=by
    rcases q with q|q
    ·subst q
     rcases B with e|e
     ·exact absurd e (S.cell _ s)
     ·exact e
    ·exact q.1
   exact g _ s this
  rcases F with h|h
  ·exact f _ h .ca
  ·exact f _ h .gm
 cab:=λx c h=>by cases h
 hd:=I.ok.hd
 frames:=I.ok.frames
 stk:=.inl rfl
 exf:=λb d=>by
  obtain⟨u,l,i,j,n,t⟩:=p b d;exact⟨λz=>absurd (Z5 (m b d) r) .dy,λx c e=>n x c (a x c e)⟩
 bs:=I.bs
 bsz:=ZM I.ok.bsz I.sz
 noex:=λb o e d=>by
  obtain⟨u,l,i,j,n,t⟩:=p b d;rcases j with z|z
  ·exact I.ok.noex b o e z
  ·exact absurd (Z5 (ZI (.kK).1) z) (YI _)
 exfs:=λb d A=>by
  obtain⟨u,l,i,j,n,t⟩:=p b d;rcases y4.mp (I.stkSub b A) with z|z
  ·exact l z
  ·exact i z
 funs:=I.stack
 frf:=I.stkFree
theorem qh{env:Env}{x:Str}:∀{names:List .iC},names.lookup x=some .free->
  (.ph).lookup x=some .cell\/
  (.ph).lookup x=some .free
 |[],h=>by simp at h
 |(n,c)::r,h=>by
  have d := @qh env x r;show List.lookup x .vf=_\/List.lookup x .vf=_;cases a:x == n with
  |true =>
   dsimp[Y7,a,X8]at h;subst h
   by_cases b:(NameKind.free == NameKind.free&&env.scope.kind == .function&&env.kindOf n == some .cell)=true
   ·rw[z4 b];exact .inl (by dsimp[Y7,a])
   ·rw[yD b];exact .inr (by dsimp[Y7,a])
  |false =>
   dsimp[Y7,a]at h
   by_cases b:.tL=true
   ·rw[z4 b];dsimp[Y7,a];exact d h
   ·rw[yD b];dsimp[Y7,a];exact d h
def Mx(h:.m4[i]?=some .ek):∃j k,i=own.length+j/\caps[j]?=some k/\σ[k]?=some .ek:=by
 unfold stC at h
 by_cases a:i<own.length
 ·rw[ZC .kt]at h
  simp[a]at h
 ·rw[ZD .q7]at h
  dsimp[UI,ZQ]at h;cases c:caps[i-own.length]? with
  |none=>rw[c]at h;cases h
  |some k =>
   rw[c]at h;dsimp[Y8,X8]at h;refine⟨i-own.length,k,by omega,c,?_⟩;cases e:σ[k]? with
   |none=>rw[e]at h;cases h
   |some o=>rw[e]at h;dsimp[Option.join_some]at h;rw[h]
theorem GD(I:.to)(S:.e3)(n:s2.heap.objs.size<C)(a:.s0)(d:.sY)
  (L:∀b∈ex,vg X pins H1 b) (s:.AZ) {h1:Heap} (hn:h1.Ns C m) (h:∀b o,s2.heap.get? b=some o->h1.get? b=some o)
  (E:h1.get? s2.heap.objs.size=some { cls:=.type "list",data:=.seq #[] }) :
  Inv .xm [] .m4 (upd H1 s2.heap.objs.size<|.lst []) { s2 with heap:=h1,toks:=tk } where
 ok:=PL I S (YX n) a d L s
 os:=rfl
 bare:=I.bare
 base:=Un.laid h .r .gX
 loc:=by
  refine⟨m,hn,λi x v H B Q=>?_⟩;obtain⟨j,k,rfl,F,t⟩:=Mx B;have q:capn[j]?=some x:=by
   have:.ed[own.length+j]?=some x:=H;rw[ZD .bm]at this;simpa using this
  obtain⟨N,q1,q2,q3⟩:=S.cap j x q;rw[F]at q1;cases q1;have w:=jD q3;have A:=S.free _ w rfl;obtain⟨O,J,M⟩:=I.loc;obtain⟨u,r,G⟩:=M k x v q2 t (.inr A);refine⟨u,r,.inr ⟨qh q3,?_⟩⟩;rcases G with ⟨z,_⟩|⟨_,c,D,o,f,l⟩
  ·rcases A with e|e<;>(rw[z]at e;cases e)
  ·obtain⟨P,g⟩:=d _ w rfl
   have:=a _ _ g;rw[D]at this;cases this;exact⟨c,g,o,h c o f,l⟩
 cell:=λx c e=>by
  obtain⟨v,o,f,l⟩:=.hV (a x c e);exact⟨v,o,h c o f,l⟩
 free:=by
  show upd H1 _ _ C=none;rw[aJ (YN n)];exact I.hok.fresh (YX n)
 freeC:=λx c e=>by
  obtain⟨v,o,f,l⟩:=.hV (a x c e);rw[aJ (ZN<|ZI f)];exact I.freeC x c (a x c e)
 pin:=λp K=>absurd (show p∈([]:List .ex) from K) .e
 hok:=I.hok.laid h .r ⟨YZ _,[],0,.nil,E⟩
 len:=by
  show (.m4).length=(.ed).length;simp[stC,S.len]
end
def RS.other{d:Addr}{ys b:List V}(r:.jh)(h:H d=some .fY)(n:d∉ρ):RS K ρ .ry σd hd σ/\.jK .ry:=by
 have k:.jK .ry:=⟨λ_ _ h=>h,λa i e=>by
  rw[aJ .ql];exact e,λa o u e=>by
  rw[aJ .ql];exact e,λa φ e=>by
  rw[aJ .ql];exact e⟩
 refine⟨⟨⟨r.hp.len,r.hp.nd,λm c a g f=>(r.hp.cel m c a g f).mono k (aJ λz=>n (by rw[<-z];exact ZK f))⟩,r.st.mono k⟩,k⟩
def Ext.other{d:Addr}(e:.cG ρ' a)(h:H d=none):Ext ρ H ρ' (upd a d o) :=
 ⟨e.pre,e.new,λp u b n=>by rw[aJ (cj b h)];exact e.frame p u b n⟩
def Bi(h:slot (gZ nl caps σd) i=some d):∃j k,i=nl+j/\caps[j]?=some k/\slot σd k=some d:=by
 unfold gZ at h;dsimp[slot]at h
 by_cases a:i<nl
 ·rw[ZC .kt]at h
  simp[a]at h
 ·rw[ZD .q7]at h
  dsimp[UI,ZQ]at h;cases c:caps[i-nl]? with
  |none=>rw[c]at h;cases h
  |some k =>
   rw[c]at h;dsimp[Y8]at h;refine⟨i-nl,k,by omega,c,?_⟩;dsimp[slot]
   revert h
   cases e:σd[k]? with
   |none=>simp
   |some o=>cases o<;>simp
structure qi(K:ZX)(ρ0:.I)(H0:Hp)(J:It)(l:List D)(G:Hd->Prop):Prop where
 go:∀ρ H hd (i:Nat) d,Ext ρ0 H0 ρ H->RH K ρ H hd->G hd->l[i]?=some d->J.go i H/\∀x H',J.yld i H x H'->mZ H H'/\RD K ρ H' d x
 stop:∀ρ H hd,Ext ρ0 H0 ρ H->RH K ρ H hd->G hd->J.stop l.length H
 sz:l.length<=sizeLine
def xf.g{g:.gd}(w:xf K ρ H J l g):qi K ρ H J l (held g l):=⟨w.go,w.stop,w.sz⟩
structure CD where
 i:Nat
 ys:List V
 acc:List D
 rest:List D
 ρ:List Addr
 σd:Sd
 hd:Hd
 H:Hp
 σ:St
structure CI(X:Cx)(own capn:.af)(scope:Scope)(cl:.hJ)(s2:Q5)(C:Addr)(H1:Hp)(ρ1:.I)(fp:.I)(tn:Nat->Heap->Prop)(G:Hd->Prop)(g:GF)(cs:List TF)(e:EF)(l:List D)(hdF:Hd)(ds:List D)(d:CD)(s':Q5):Prop where
 le:d.i<=l.length
 inv:Inv (cxC X .ed scope cl C s2 H1 fp) [] d.σ d.H s'
 st:tn d.i s'.heap
 fr:∀b∈fp,d.H b=none
 at':d.H s2.heap.objs.size=some (.lst d.ys)
 out:s2.heap.objs.size∉d.ρ
 yl:d.ys.length<=d.i
 ex:Ext ρ1 H1 d.ρ d.H
 rs:RS X.K d.ρ d.H d.σd d.hd d.σ
 ac:RDs X.K d.ρ d.H d.acc d.ys
 run:dX G g cs e (l.drop d.i) d.σd d.hd=.ok d.rest hdF
 eq:d.acc++d.rest=ds
section
variable{X:Cx}{pins:.J}{σ:St}{H1:Hp}{s2:Q5}{scope:Scope}{own capn:.af}{caps:.i}{cl:.hJ}
def DE{b:Hd}(S:.e3)(r:RS X.K a H1 σd b σ){d:Addr}(hd:H1 d=none):RS X.K a (upd H1 d<|.lst []) .gL b .m4:=by
 have c:=cV (o:=HO.lst []) hd;refine⟨r.hp.same c,⟨by simp[stC,gZ],λi x e=>?_⟩⟩;obtain⟨j,k,rfl,h,l⟩:=Bi e;obtain⟨v,g,f⟩:=r.st.at' k x l;refine⟨v,?_,f.mono (.c0 c)⟩;unfold stC;rw[ZD .e];simp[h,g]
def kS{e:EF}{E:.q}{RR:S1->Addr->Result->Q5->Prop}
  (hc:.aJ) (S:.e3) (g1:∀cl C s H ex,MG .h8 tg g/\MTs .h8 c5 cs/\ME .h8 c0 e)
  (I1:.to) (T:Dt X.prog X.w X.K tg J I it tn) (d4:tn 0 s2.heap) (hf:∀b∈I,vg X pins H1 b) (d8:RS X.K F H1 σd c7 σ) (wk:qi X.K F H1 J l G)
  (a9:.s0) (d7:.sY)
  (run:dX G g cs e l .gL c7=.ok ds a4)
  (e6:∀C s' m h ρ' vs,s2.heap.objs.size < C->s'.heap.Ns C m->Inv X pins σ h s'->h C=none->Ext F H1 ρ' h->RH X.K ρ' h a4->H1 s2.heap.objs.size=none->h s2.heap.objs.size=some .hh->s2.heap.objs.size ∉ ρ'->RDs X.K ρ' h ds vs->
   RR .pO C (.ok .next) s') :
  wpAny .ag X.A (newList []) (λacc A => wpAny .ag X.A (newFunctionEnv scope X.env.globals cl [] X.env.qual none .none<|some X.env) (λa6 c9 =>
   codeAny .ag X.A (.compStart (.hR c0 [⟨tg,a7,c5,0⟩]) 0 .eX acc { a6 with scope:=relabel scope X.env }) (RR acc a6.locals) c9) E A) E s2:=by
 refine VG (wpAny_newFunctionEnv S.cell (by intro y hy;simp at hy) (λM t f=>?_) S.kind);dsimp only at t f⊢;generalize hH2:s2.heap.push { cls:=.type "list",dict:=none,data:=.seq ([]:List S1).toArray }=N at t f⊢;have hC:N.objs.size=s2.heap.objs.size+1:=by rw[<-hH2,X1]
 have e7:s2.heap.objs.size≠N.objs.size:=by rw[hC];exact ZN (YU _)
 have d3:∀b o,s2.heap.get? b=some o->M.get? b=some o:=λb o e=>f.extBut b o (by rw[hC];exact ZN (Z2<|ZI e)) (.R<|hH2▸ZH _ e);have e1:M.get? s2.heap.objs.size=some { cls:=.type "list",data:=.seq #[] }:=f.extBut _ _ e7 (.R<|hH2▸ZJ _ rfl);have b9:∀b∈I,b<s2.heap.objs.size:=λb w=>by
  obtain⟨o,ho,_⟩:=T.obj 0 _ d4 b w;exact ZI ho
 have d0:s2.heap.objs.size<N.objs.size:=by rw[hC];exact YU _
 have a0:H1 s2.heap.objs.size=none:=I1.hok.fresh .r;have d6:tn 0 M := T.keep 0 _ _ d4 λb w o e=>d3 b o e;have e8:s2.heap.objs.size∉F:=d8.hp.free a0;obtain⟨hG,hT,hE⟩:=g1 cl N.objs.size s2 H1 I;have I':=GD (tk:=s2.toks+([]:List .nX).length) I1 S d0 a9 d7 hf b9 t d3 e1;have b4:∀{pins':.J} {h:Hp},(∀b∈I,h b=none)->∀b∈I,vg .jU [] h b:=λ{pins' h} hn b w=>by
  obtain⟨f0,f1,f2,f3,f4,f5⟩:=hf b w;have lt:=b9 b w;refine⟨hn b w,λz=>absurd lt (by rw[show b=N.objs.size from z,hC];exact VN.mpr (xa _)),λz=>?_,.inl w,λx c e=>f4 x c (a9 x c e),λp hp=>absurd (show p∈([]:List .ex) from hp) .e⟩;rcases y4.mp (I1.stkSub b z) with q|q
  ·exact f1 q
  ·exact f2 q
 have a5:∀A:Q5,A = { s2 with heap:=M,toks:=s2.toks+([]:List .nX).length }->
   codeAny .ag X.A (.compLoop (.hR c0 [⟨tg,a7,c5,0⟩]) 0 .eX .pO<|compEnvC scope cl N.objs.size X.env) (RR .pO N.objs.size) A := by
  rintro A rfl;refine zi (λ_ _ z=>z) (λn s'=>∃d:CD,n=l.length-d.i/\CI X own capn scope cl s2 N.objs.size H1 F I tn G g cs e l a4 ds d s') ?_ l.length
   ⟨⟨0,[],[],ds,F,_,c7,_,_⟩,by simp,YZ _,I',d6,λb w=>?_,bB,e8,ZL _,Ext.same (cV a0),DE S d8 a0,RDs.nil,by simpa using run,rfl⟩
  ·rintro n s' ⟨⟨i,ys,acc,rest,ρ',L,hd',h,R⟩,rfl,P⟩
   have g5:i<=l.length:=P.le;have I':Inv .jU [] R h s':=P.inv;have d1:tn i s'.heap:=P.st;have d5:∀b∈I,h b=none:=P.fr;have c1:h s2.heap.objs.size=some .fY:=P.at';have b7:s2.heap.objs.size∉ρ':=P.out;have d9:ys.length<=i:=P.yl;have ex:Ext F H1 ρ' h:=P.ex;have W:RS X.K ρ' h L hd' R:=P.rs;have b3:RDs X.K ρ' h acc ys:=P.ac;have a:dX G g cs e .n4 L hd'=.ok rest a4:=P.run;have a3:acc++rest=ds:=P.eq
   by_cases hlt':i<l.length
   ·have e3:l[i]?=some l[i]:=by simp[hlt']
    rw[XE hlt']at a;unfold dX at a
    by_cases hh:G hd'
    ·rw[z4 hh]at a
     obtain⟨go,yl⟩:=wk.go ρ' h hd' i _ ex W.hp hh e3;cases c:g l[i] L with
     |none=>rw[c]at a;cases a
     |some σd2 =>
      rw[c]at a;simp only at a;refine thn (T.item .jU rfl rfl rfl hc i [] s' R h .sy I' (b4 (pins':=[]) d5) d1 go) λr b2 ⟨u,hr,h4⟩=>?_;subst hr;refine thn h4 λ_ s5 zz=>?_;obtain⟨x,H5,I5,r5,y5,b5,g0⟩:=zz;obtain⟨sm,rx⟩:=yl x H5 y5;have g2:=I5.pinned (b4 (pins':=[]) g0) (T.obj _ _ b5);have e4:=W.same sm;refine thn (hG _ s5 R H5 x u (λj H6=>H6=H5/\RS X.K ρ' H5 σd2 hd' j) g2 r5 ⟨ρ',L,hd',l[i],σd2,e4,rx,c,λj c8=>⟨rfl,c8⟩⟩) λ_ s6 ⟨j,H6,I6,f7,c8⟩=>?_;subst f7;cases c2:jW cs σd2 hd' with
      |exc z h7=>rw[c2]at a;cases a
      |bad=>rw[c2]at a;cases a
      |ok b a2 =>
       rw[c2]at a;dsimp[aH]at a;refine thn (hT _ s6 j H6 (λb' H7=>b'=b/\∃k,Ext ρ' H6 k H7/\RS X.K k H7 σd2 a2 j) I6 ⟨ρ',σd2,hd',c8,by
        rw[c2];exact λb' H7 k c6 Z q=>⟨q.symm,k,c6,Z⟩⟩) λb' s7 zz=>?_;obtain⟨H7,I7,g3,k,c6,Z⟩:=zz
       subst g3;have b0:∀{d2:St} {Q:Hp} {s8:Q5},Inv .jU ([]++vh I s5.heap) d2 Q s8->tn (i+1) s8.heap/\∀b∈I,Q b=none:=λ{d2 Q s8} I8 =>
        ⟨T.keep _ _ _ b5 λb w o e=>(.wH).1,λb w=>by
         obtain⟨o,e,d⟩:=T.obj _ _ b5 b w;exact (.wH).2.1⟩
       have V:Ext ρ' h k H7:=(.fi sm).trans c6;have a1:H7 s2.heap.objs.size=some .fY:=V.frame _ _ c1 b7;have Y:=V.out c1 b7;have U:=b3.mono (W.hp.kp V);cases b' with
       |false =>
        dsimp[Y4,WN]at a⊢;obtain⟨e2,f8⟩:=b0 I7;exact⟨l.length-(i+1),by omega,⟨i+1,ys,acc,rest,k,σd2,a2,H7,j⟩,rfl,hlt',I7.unpinned,e2,f8,a1,Y,V2 d9,ex.trans V,Z,U,a,a3⟩
       |true =>
        dsimp[WB]at a⊢;cases c3:e σd2 a2 with
        |exc z h7=>rw[c3]at a;cases a
        |bad=>rw[c3]at a;cases a
        |ok d b8 =>
         rw[c3]at a;dsimp[aH]at a;cases c4:dX G g cs e (l.drop<|i+1) σd2 b8 with
         |exc z h7=>rw[c4]at a;cases a
         |bad=>rw[c4]at a;cases a
         |ok rest' g4 =>
          rw[c4]at a;dsimp[aH,Res.ok.injEq]at a;obtain⟨B,hF⟩:=a;subst B hF;refine thn (hE _ s7 j H7 (λv Q=>∃K,Ext k H7 K Q/\RS X.K K Q σd2 b8 j/\RD X.K K Q d v) I7 ⟨k,σd2,a2,Z,by
           rw[c3];exact λv Q K O b6 q=>⟨K,O,b6,q⟩⟩) λu8 s8 zz=>?_;obtain⟨v8,Q,I8,r8,K,O,b6,e9⟩:=zz
          have a8:Q s2.heap.objs.size=some (.lst ys):=O.frame _ _ a1 Y;have b1:=O.out a1 Y;refine thn (xO _ s8 j Q (.ref s2.heap.objs.size) [v8] (.ref s2.heap.objs.size) [u8] (λ_ H9=>H9=upd Q s2.heap.objs.size (.lst<|ys++[v8])) I8 rfl (.cons r8 .nil) ⟨_,ys,v8,rfl,rfl,a8,by have:=wk.sz;omega,rfl⟩) λu9 s9 ⟨v9,H9,I9,r9,q9⟩ => ?_;subst q9;obtain⟨e5,f9⟩:=b0 I9;obtain⟨f6,k9⟩:=b6.other a8 b1;exact⟨l.length - (i + 1),by omega,⟨i + 1,ys++[v8],acc++[d],rest',K,σd2,b8,_,j⟩,rfl,hlt',I9.unpinned,e5,f9,bB,b1,by simp;exact d9,(ex.trans<|V.trans O).other a0,f6,
           ((U.mono<|Z.hp.kp O).mono k9).append (.lH<|e9.mono k9),c4,by rw[<-a3];simp⟩
    ·rw[yD hh]at a;cases a
   ·have e0:i=l.length:=by omega
    subst e0;rw[List.drop_length]at a;unfold dX at a
    by_cases hh:G hd'
    ·rw[z4 hh]at a
     dsimp[Res.ok.injEq]at a;obtain⟨B,hF⟩:=a;subst B hF;rw[XD]at a3;subst a3;refine thn (T.done .jU rfl rfl rfl hc _ [] s' R h .sy I' (b4 (pins':=[]) d5) d1<|wk.stop ρ' h hd' ex W.hp hh) λr b2 ⟨hr,I4⟩=>?_;subst hr;obtain⟨m,hm,_⟩:=I4.loc;refine e6 N.objs.size b2 m h ρ' ys d0 hm ?_ I4.free ex W.hp a0 c1 b7 b3;exact I1.call' I4.os I4.base I4.hok I4.bare λb w=>by
      obtain⟨f0,f1,f2,f3,f4,f5⟩:=hf b w;exact⟨f3,f1,f4,f5⟩
    ·rw[yD hh]at a;cases a
  ·show upd H1 _ _ b=none
   rw[aJ (ZN<|b9 b w)];exact(hf b w).1
 exact codeAny_compStart_list (a5 _ rfl) (T.self _ 0 _ _ _ d6<|a5 _ rfl)
end
section
variable{X:Cx}{pos:Pos}{scope:Scope}{own capn:.af}{caps:.i}
def fK{f:IF}{e:EF}(Z:.aJ)(S:.e3)(hi:MI X tg a f)
  (U:∀D C s H ex,MG .qu tg g/\MTs .qu j cs/\ME .qu i e)
  (hs:autoParam (∀x,foldedSetIterable a X.env x=pure x) Q2Q._auto_1):MF X (.hR i [⟨tg,a,j,0⟩]) .xH:=by
 intro pins s σ H Q I ⟨ρ,σd,N,W,p⟩;rw[eval_ListComp];unfold bi at p;cases c:f σd N with
 |exc z h7=>rw[c]at p;exact p.elim
 |bad=>rw[c]at p;exact p.elim
 |ok q w =>
  obtain⟨l,Y⟩:=q;rw[c]at p;dsimp[aH]at p;obtain⟨D,F,t,n⟩:=jC λy hy G=>.lS (S.free y hy G);refine VC rfl hs F S.kind S.names (thn (hi pins s σ H (λJ E=>∃d,Ext ρ H d E/\RS X.K d E σd w σ/\xf X.K d E J l Y) I ⟨ρ,σd,N,W,by
   rw[c];exact λJ V ρ' ex L R=>⟨ρ',ex,L,R⟩⟩) λv s1 F=>thn F λa0 s2 h2=>?_)
  obtain⟨it,fp,tn,J,E,rfl,k,T,P,hf,d,h,r,R⟩:=h2;cases B:bU Y l g cs e l .gL w with
  |exc z h7=>rw[B]at p;exact p.elim
  |bad=>rw[B]at p;exact p.elim
  |ok ds hdF =>
   rw[B]at p;refine kS Z S U k T P hf r R.g t n ((yT _ _ _).symm.trans B) λC s' m V ρ' vs A hn I' O ex rh u hD M K=>?_;refine⟨m,hn,λh' sb=>⟨.ref s2.heap.objs.size,V,?_,rfl,?_⟩⟩
   ·refine I'.turned .j3 O ?_ (.inr<|YX<|ZS k.sz A) (λx c e z=>?_) λq hq z=>?_
    ·exact YN (YC k.lt A)
    ·obtain⟨v,o,ho,N⟩:=k.cell x c e
     exact absurd (YC (ZI ho) A) .dy
    ·exact absurd (YC (ZI (k.pin q hq).1) A) .dy
   ·exact p _ vs V ρ' (h.trans ex) (W.ext (h.trans ex) rh) (h.fresh u<|r.hp.free u) hD M K
def jf{f:IF}{e:EF}(hN:.gf)(hi':.dV)(hx:.f8)(hc:.aJ)(S:.e3)(hi:MI X tg h f)
  (b1:∀W C s H ex,MG .qr tg g/\MTs .qr B cs/\ME .qr A e)
  (a8:autoParam (swapsWith (.ListComp A [⟨tg,h,B,0⟩] scope r) (some<|.Name x n) pos.line X.env=pure true) Q3Q._auto_1)
  (hs:autoParam (∀x,foldedSetIterable h X.env x=pure x) Q2Q._auto_1) (b3:autoParam (X.fn x=true\/X.env.scope.names.lookup x=some .local) Q0Q._auto_1) :
  MS X (.Assign [.Name x n] (.ListComp A [⟨tg,h,B,0⟩] scope r) pos) (aG (gN i)<|aI .xH):=by
 intro pins s σ H En I ⟨ρ,σd,hd,rs,p⟩;rw[exec_Assign_Name_used _ _ _ _ a8];refine z0 (wz ?_);have d:=cQ.outE (σ := σ) p;unfold aI bi at d;cases c:f σd hd with
 |exc z h7=>rw[c]at d;exact d.elim
 |bad=>rw[c]at d;exact d.elim
 |ok q P =>
  obtain⟨l,gd⟩:=q;rw[c]at d;dsimp[aH]at d;obtain⟨W,h1,K,M⟩:=jC λy hy a7=>.lS (S.free y hy a7);refine z0 (z0 (VC rfl hs h1 S.kind S.names (thn (hi pins s σ H (λJ U=>∃j,Ext ρ H j U/\RS X.K j U σd P σ/\xf X.K j U J l gd) I ⟨ρ,σd,hd,rs,by
   rw[c];exact λJ w ρ' ex Z wk=>⟨ρ',ex,Z,wk⟩⟩) λv s1 h1=>thn h1 λb5 k h2=>?_)))
  obtain⟨it,fp,tn,J,U,rfl,G,T,a3,hf,j,Q,N,wk⟩:=h2;cases V:bU gd l g cs e l .gL P with
  |exc z h7=>rw[V]at d;exact d.elim
  |bad=>rw[V]at d;exact d.elim
  |ok ds hdF =>
   rw[V]at d;dsimp[aH]at d
   by_cases hz:ds.length<=SZ
   ·rw[z4 hz]at d
    refine kS hc S b1 G T a3 hf N wk.g K M ((yT _ _ _).symm.trans V) λC s' m w ρ' vs R hn I' a2 ex rh L hD a0 Y=>?_;refine wpAny_assign_Name (rJ I' hN hi' hx (v:=.ref k.heap.objs.size) rfl (λa9 b0 a4=>?_) b3);have D:C≠X.env.locals:=YN (YC G.lt R);have E:∀y c,X.env.cells.lookup y=some c->c≠C:=λy c e z=>by
     obtain⟨v,o,ho,hd⟩:=G.cell y c e;exact absurd (YC (ZI ho) R) .dy
    refine⟨m,?_,λh' sb=>wX .aZ⟩
    ·obtain⟨a,sa,ha⟩:=a4
     refine hn.sameBut sa ?_;rcases ha with z|z
     ·rw[z];exact D
     ·exact WQ (E _ _ z)
    ·have I3:Inv X pins (σ.set i<|some<|.ref k.heap.objs.size) w { a9 with heap:=h' }:=b0.turned .j3 a2 D (.inr<|YX<|ZS G.sz R) E λq hq z =>
      absurd (YC (ZI (G.pin q hq).1) R) .dy
     have u:.cG ρ' w:=Q.trans ex;have a1:=rh.alloc hD a0 Y;have a5:H k.heap.objs.size=none:=Q.fresh L (N.hp.free L);have O:.cG .yC w:=⟨by obtain⟨t,rfl⟩:=u.pre;exact⟨t++[k.heap.objs.size],by simp⟩,λa ha=>by
      rcases Z0.mp ha with z|z
      ·exact u.new a z
      ·simp at z;subst z;exact .inr a5,u.frame⟩
     obtain⟨b2,d2,b4,e2,F,a6,pn⟩:=d (.ref k.heap.objs.size) w .yC O (rs.ext O a1) (by
      dsimp[rD,RD];refine⟨k.heap.objs.size,?_,rfl⟩;rw[<-rh.len];simp)
     exact⟨_,w,I3,pn _ w b2 Ext.refl ⟨F.hp,F.st.set i a6⟩⟩
   ·rw[yD hz]at d;exact d.elim
end
end Fm
namespace Fm
open PySem PySem.Spec L2 PyProof.Rows
mutual
noncomputable def rfs(k:Nat):D->Prop
 |.ref n=>n<k
 |.tup l=>kw k l
 |.lit l=>kw k l
 |.exn _ l=>kw k l
 |_=>True
noncomputable def kw(k:Nat):List D->Prop
 |[]=>True
 |x::xs=>rfs k x/\kw k xs
end
section
variable{K:ZX}{ρ ρ' t:.I}{H H':Hp}{hd hd':Hd}
mutual
theorem RD.rfs:∀{d:D} {v:V},RD K ρ H d v->Fm.rfs ρ.length d
 |.non,_,_=>by dsimp[Fm.rfs]
 |.bl _,_,_=>by dsimp[Fm.rfs]
 |.int _,_,_=>by dsimp[Fm.rfs]
 |.str _,_,_=>by dsimp[Fm.rfs]
 |.tup l,_,h=>by
  dsimp[RD]at h;obtain⟨p,vs,_,_,h2⟩:=h;dsimp[Fm.rfs];exact RDs.rfs h2
 |.lit l,_,h=>by
  dsimp[RD]at h;obtain⟨p,vs,_,_,h2⟩:=h;dsimp[Fm.rfs];exact RDs.rfs h2
 |.ref n,_,h=>by
  dsimp[RD]at h;obtain⟨a,b,_⟩:=h;dsimp[Fm.rfs];exact(zS.mp b).1
 |.exn _ l,_,h=>by
  dsimp[RD]at h;rcases h with ⟨_,rfl,_⟩|⟨_,p,vs,_,_,h2⟩
  ·dsimp[Fm.rfs,Fm.kw]
  ·dsimp[Fm.rfs];exact RDs.rfs h2
theorem RDs.rfs:∀{l:List D} {vs:List V},RDs K ρ H l vs->Fm.kw ρ.length l
 |[],_,_=>by dsimp[Fm.kw]
 |d::ds,_,h=>by
  dsimp[RDs]at h;obtain⟨v,r,_,h1,h2⟩:=h;dsimp[Fm.kw];exact⟨RD.rfs h1,RDs.rfs h2⟩
end
mutual
theorem RD.cut:∀{d:D} {v:V},RD K (ρ++t) H d v->Fm.rfs ρ.length d->.bJ d v
 |.non,_,h,_=>by dsimp[RD]at h⊢;exact h
 |.bl _,_,h,_=>by dsimp[RD]at h⊢;exact h
 |.int _,_,h,_=>by dsimp[RD]at h⊢;exact h
 |.str _,_,h,_=>by dsimp[RD]at h⊢;exact h
 |.tup l,_,h,q=>by
  dsimp[RD]at h⊢;dsimp[Fm.rfs]at q;obtain⟨p,vs,e,h1,h2⟩:=h;exact⟨p,vs,e,h1,RDs.cut h2 q⟩
 |.lit l,_,h,q=>by
  dsimp[RD]at h⊢;dsimp[Fm.rfs]at q;obtain⟨p,vs,e,h1,h2⟩:=h;exact⟨p,vs,e,h1,RDs.cut h2 q⟩
 |.ref n,_,h,q=>by
  dsimp[RD]at h⊢;dsimp[Fm.rfs]at q;obtain⟨a,h1,h2⟩:=h;exact⟨a,by rwa[ZC q]at h1,h2⟩
 |.exn _ l,_,h,q=>by
  dsimp[RD]at h⊢;dsimp[Fm.rfs]at q;rcases h with h|⟨b,p,vs,e,h1,h2⟩
  ·exact .inl h
  ·exact .inr ⟨b,p,vs,e,h1,RDs.cut h2 q⟩
theorem RDs.cut:∀{l:List D} {vs:List V},RDs K (ρ++t) H l vs->Fm.kw ρ.length l->.ay l vs
 |[],_,h,_=>by dsimp[RDs]at h⊢;exact h
 |d::ds,_,h,q=>by
  dsimp[RDs]at h⊢;dsimp[Fm.kw]at q;obtain⟨v,r,e,h1,h2⟩:=h;exact⟨v,r,e,RD.cut h1 q.1,RDs.cut h2 q.2⟩
end
mutual
theorem qj:∀{d:D},pure? d=true->Fm.rfs k d
 |.non,_=>by dsimp[Fm.rfs]
 |.bl _,_=>by dsimp[Fm.rfs]
 |.int _,_=>by dsimp[Fm.rfs]
 |.str _,_=>by dsimp[Fm.rfs]
 |.tup l,h=>by dsimp[pure?]at h;dsimp[Fm.rfs];exact jq h
 |.lit l,h=>by dsimp[pure?]at h;dsimp[Fm.rfs];exact jq h
 |.exn _ l,h=>by dsimp[pure?]at h;dsimp[Fm.rfs];exact jq h
 |.ref _,h=>by dsimp[pure?]at h;cases h
theorem jq:∀{l:List D},hX l=true->Fm.kw k l
 |[],_=>by dsimp[Fm.kw]
 |x::xs,h=>by
  dsimp[hX,YB]at h;dsimp[Fm.kw];exact⟨qj h.1,jq h.2⟩
end
noncomputable def IZ(k:Nat):cv->Prop
 |.lst l=>Fm.kw k l
 |.dct l=>Fm.kw k .cy
 |.dcT l=>Fm.kw k .cy
 |.ob l=>Fm.kw k l
def RC.rfs(h:RC K ρ H c a):IZ ρ.length c:=by
 cases c with
 |lst l=>obtain⟨d,_,b⟩:=h;exact b.rfs
 |dct l=>obtain⟨d,_,_,b⟩:=h;exact b.rfs
 |dcT l=>obtain⟨d,_,_,b⟩:=h;exact b.rfs
 |ob l=>obtain⟨_,_,_,_,b,_⟩:=h;exact b.rfs
def RC.cut(h:RC K (ρ++t) H c a)(q:IZ ρ.length c):RC K ρ H c a:=by
 cases c with
 |lst l=>obtain⟨e,d,b⟩:=h;exact⟨e,d,b.cut q⟩
 |dct l=>obtain⟨e,d,b,f⟩:=h;exact⟨e,d,b,f.cut q⟩
 |dcT l=>obtain⟨e,d,b,f⟩:=h;exact⟨e,d,b,f.cut q⟩
 |ob l=>obtain⟨e,C,g,d,b,f⟩:=h;exact⟨e,C,g,d,b.cut q,f⟩
def zj(h:u5 c=true):IZ k c:=by
 cases c with
 |lst l=>exact jq h
 |ob l=>exact jq h
 |dcT l =>
  have:∀l:List .po,.zH=true->Fm.kw k .cy:=by
   intro l
   induction l with
   |nil=>intro _;dsimp[V0,Fm.kw]
   |cons x l a=>intro h;dsimp[XW,YB]at h;simp;exact⟨qj h.1,a h.2⟩
  exact this l h
 |dct l =>
  have:∀l:List .mc,.zH=true->Fm.kw k .cy:=by
   intro l
   induction l with
   |nil=>intro _;dsimp[V0,Fm.kw]
   |cons x l a=>intro h;dsimp[XW,YB]at h;simp;exact⟨qj h.1,a h.2⟩
  exact this l h
def RH.back(r:.aW)(d:RH K (ρ++t) H' hd')(o:EX hd hd'):RH K ρ H' (hd'.take hd.length):=by
 have g:(ρ++t).length=hd'.length:=d.len;refine⟨by rw[WI,<-g,ZB,<-r.len];lia,(WL.mp d.nd).1,λn c a f e=>?_⟩;have b:n<hd.length:=by rw[<-r.len];exact (.bs).1
 rw[VB b]at f;have q:=d.cel n c a f (by rw[ZC (by rw[r.len];exact b)];exact e);refine q.cut ?_;rcases o n c b f with z|z
 ·exact(r.cel n c a z e).rfs
 ·exact zj z
/---/def vz(K:ZX)(ρ:.I)(H:Hp)(r:Res D)(Q:VK):Prop:=match r with
 |.ok d hd'=>∀v H' ρ',Ext ρ H ρ' H'->RH K ρ' H' hd'->RD K ρ' H' d v->Q v H'
 |_=>False
/---/def spF(K:ZX)(F:Fn)(np:Nat):Sp:=λvs H Q _=>∃ρ hd ds,RH K ρ H hd/\RDs K ρ H ds vs/\ds.length=np/\vz K ρ H (F ds hd) Q
def Ext.short(e:.cG (ρ++t) H'):.cG ρ H':=⟨⟨[],by simp⟩,λ_ h=>.inl h,e.frame⟩
def vz.letGo(g:.aW)(p:vz K ρ H (letGo hd r) Q):vz K ρ H r Q:=by
 cases r with
 |exc x f=>exact p
 |bad=>exact p
 |ok d f =>
  intro v H' ρ' b a c;dsimp[Fm.letGo]at p;split at p
  ·rename_i e
   obtain⟨t,rfl⟩:=b.pre;exact p v H' ρ b.short (g.back a e.2) (c.cut<|qj e.1)
  ·exact p v H' ρ' b a c
def vz.runB(p:vz K ρ H (runB n b ds hd) Q):cQ K ρ H (b .pL hd) { nx:=λ_ H'=>Q .non H',rt:=Q }:=by
 unfold Fm.runB at p;cases e:b .pL hd with
 |nx σ a=>rw[e]at p;exact λc H' ρ' f g=>p .non H' ρ' f g.hp .t8
 |rt d a=>rw[e]at p;exact p
 |bk σ a=>rw[e]at p;exact p.elim
 |ct σ a=>rw[e]at p;exact p.elim
 |exc x σ a=>rw[e]at p;exact p.elim
 |bad=>rw[e]at p;exact p.elim
def GE(r:.ay ds vs):RSt K ρ H (ds.map some++List.replicate (N.length-ds.length) none) (L2.nu N vs):=by
 have f:=r.length;refine⟨by simp[L2.nu,f],λi d e=>?_⟩;dsimp[slot]at e
 by_cases a:i<ds.length
 ·rw[ZC .kt]at e
  dsimp[ZQ,ZE a,Y8]at e;cases e;obtain⟨v,c,q⟩:=r.get (i:=i) (d:=ds[i]) (by simp[a]);refine⟨v,?_,q⟩;unfold L2.nu;rw[ZC .Q];simp[c]
 ·rw[ZD .q7]at e
  dsimp[List.getElem?_replicate]at e
  by_cases b:i-(List.map some ds).length<N.length-ds.length
  ·dsimp[b,WB]at e;cases e
  ·dsimp[b,WN]at e;cases e
end
structure Def(P:P2)(w:N3)(K:ZX)(mg:.aI)(base:Heap)(x:Str)(k np:Nat)(F:Fn):Prop where
 ex:∃f fd ps,mg x=some .aE/\.jB .aE=true/\vm K fd ps []/\.lJ CX0 k f fd ps .fL
section
variable{P:P2}{w:N3}{K:ZX}{mg:.aI}{base:Heap}
def Ou{st:Stmt}(F:Fun K x x st f i)(S:fZ N ps .dG)
  (c:∀(a:S1) (A:P1) (outer:.dm) (s:Q5) (H:Hp) (E:XK),jz k .pI->MSs (.vF).nox .ha b) :
  kP P w K mg base CX0 (k+1) f i ps (spF K (bC ps.length N.length b) ps.length):=by
 refine F.ok S (λm H Q E ⟨ρ,h,j,e,d,g,p⟩=>by rw[<-d.length];exact g) λa A outer s H m Q E l ⟨ρ,h,j,e,d,g,p⟩=>⟨_,c a A outer s H E l,ρ,_,h,⟨e,GE d⟩,?_⟩;dsimp[bC,g,WB]at p;exact(vz.letGo e p).runB
def Def.mk'(hm:mg x=some .aE)(c:.tb)(hb:vm K a ps [])(h:.lJ CX0 k f a ps (spF K F b)):.X x k b F:=⟨f,a,ps,hm,c,hb,h⟩
end
section
variable{X:Cx}{pos p:Pos}
def uC(hd:Def X.prog X.w X.K X.mg X.base x k o F)(C:jz k X.A)(A:Gl X x)(ha:MA X (e::i) r)(m:∀ds h d h',F ds h=.ok d h'->ds.length=o)
  (j:autoParam (.bY=false) Q1Q._auto_1) (he:autoParam (starEach (e::i) X.env=(false,.cH X.env)::starEach i X.env) Q3Q._auto_1) (hpl:autoParam ((backTo pos<|starEach i X.env).any (·.1)=false) Q3Q._auto_1) :
  ME X (.hS (e::i)) (af F r):=by
 obtain⟨f,J,M,t,E,G,y⟩:=hd.ex;refine PE.imp (Mj y C A t E G .nil RM ha j he hpl) λσ H Q ⟨ρ,σd,hd,q,u⟩=>⟨ρ,σd,hd,q,(.a0 u).imp λL I zz=>?_⟩;obtain⟨l,ds,g,K,b,rv,a⟩:=zz;rw[XD];cases c:F ds g with
 |exc z h'=>rw[c]at a;exact a.elim
 |bad=>rw[c]at a;exact a.elim
 |ok d w =>
  rw[c]at a;refine⟨l,g,ds,b.hp,rv,m _ _ _ _ c,?_⟩;rw[c];exact λv D ρ' n B s=>a v D ρ' n (b.ext n B) s
def zk:∀ds h d h',bC a n b ds h=.ok d h'->ds.length=a:=by
 intro ds h d h' e;unfold bC at e;split at e
 ·assumption
 ·cases e
end
def RW{l:PySem.W.OpenLaw}{XP:.tw}{d:DefRec}{K:Params->ZX}{F:Fn}{k:Nat}{x:Str}(hn:l.most=some 63)(i:.tg)(G:jz k callerA)
  (I:∀(w:N3) (h:Heap),A w h->(.de).In h)
  (J:∀(w:N3) (mg:.aI) (j:Addr) (h:Heap),(.de).In h->h.Ns mainGlobals mg->mg d.name=some (.ref j)->
   ∃p:FuncData,(∀(s:Q5) (u:S1),BindsTo s p ⟨[u],[]⟩ [(x,u)])/\∀base:Heap,(.de).In base->base.Ns mainGlobals mg->kP l.prog w .de mg base CX0 k j p [x] (spF .de F 1))
  (g:∀ns:List Int,ns.length<=63->∃h,F .nJ []=.a2 h) :
  PySem.W.WalkO q b XP A l.row.toRowW d [] .qI:=by
 refine L2.Ms hn .c i G I J (λw H a ns r L m=>?_) λ_ _ _ _ _ z=>z;obtain⟨h,e⟩:=g ns r;have t:tF .de H a .b4:=by
  rcases m with (z|⟨o,z⟩)|z
  ·rcases L a with y|⟨o,Q,y⟩<;>(rw[z]at y;cases y)
  ·exact .inl ⟨o,z⟩
  ·exact .inr z
 have E:RDs .de [] H (ns.map D.int) .b4:=by
  clear r m e t g
  induction ns with
  |nil=>exact RDs.nil
  |cons n ns M=>exact .jE M
 refine⟨[],[],.nJ,⟨rfl,List.nodup_nil,λn c a C=>by simp at C⟩,RDs.cons (by dsimp[RD];exact⟨a,_,rfl,t,E⟩) RDs.nil,rfl,?_⟩;rw[e];intro v P ρ' N O B;simpa only[RD] using B
end Fm
namespace Fm
open PySem PySem.Spec L2
open PyProof.Rows (Subscript_ tail_any)
noncomputable def tyS:Ty->String
 |.int=>"int" | .bool=>"bool" | .tuple=>"tuple" | .list=>"list" | .str=>"str"
def jg(t:Ty):typeOf .gH=pure (.type "type"):=by
 cases t
 ·exact F.isi_meta_int
 ·exact F.isi_meta_bool
 ·exact F.isi_meta_tuple
 ·exact F.isi_meta_list
 ·exact F.isi_meta_str
def My(t:Ty):isSubtype (.type "NoneType") .gH=pure false:=by cases t<;>(rw[VE];kernel_rfl)
def PM(h:t ≠ .int):isSubtype (.type "int") .lE=pure false:=by cases t<;>first|exact absurd rfl h|(rw[VE];kernel_rfl)
def Mz(h:t ≠ .int)(h2:t ≠ .bool):isSubtype (.type "bool") .lE=pure false:=by cases t<;>first|exact absurd rfl h|exact absurd rfl h2|(rw[VE];kernel_rfl)
def PN(h:t ≠ .str):isSubtype (.type "str") .lE=pure false:=by cases t<;>first|exact absurd rfl h|(rw[VE];kernel_rfl)
def I0(h:t ≠ .tuple):isSubtype (.type "tuple") .lE=pure false:=by cases t<;>first|exact absurd rfl h|(rw[VE];kernel_rfl)
def Fe(h:t ≠ .list):isSubtype .oY .lE=pure false:=by cases t<;>first|exact absurd rfl h|(rw[VE];kernel_rfl)
def MC(t:Ty):isSubtype (.type "dict") .gH=pure false:=by cases t<;>(rw[VE];kernel_rfl)
def oA(t:Ty):isSubtype .gH .gH=pure true:=by cases t<;>(rw[VE];kernel_rfl)
def Bj:isSubtype (.type "bool") (.type<|tyS .int)=pure true:=by rw[VE];kernel_rfl
def tG(h:n≠tyS t):(Value.type n == Value.type .gI)=false:=by
 rw[beq_eq_false_iff_ne];intro e;cases e;exact h rfl
def DF{a b:Ty}(h:a≠b):(a == b)=false:=by cases a<;>cases b<;>first|rfl|exact absurd rfl h
section
variable{X:Cx}{pos p:Pos}
def PP{σ:St}(I:.s)(C:RH X.K ρ H hd)(i:RD X.K ρ H d v)(r:cf v u)(e:Gj hd t d=some b)
  (q:∀F,Inv X pins σ H F->Q (.bool b) F):.aS .vK Q E s:=by
 have j:=q s I;have q1:=q .ms .hp;have g:∀{n:String},s.TypeIs u n->isSubtype (.type n) .gH=pure true->Q .kM s->.aS .vK Q E s:=λf w L=>W5 (isinstance_true (jg t) w) ⟨f,L⟩;cases d<;>dsimp[RD]at i<;>dsimp[Gj]at e
 ·subst i;cases r;cases e
  exact W5 (isinstance_false_none .ya (jg t)<|My t) q1
 ·subst i;cases r
  by_cases f:t=.int
  ·subst f;cases e;exact g rfl Bj j
  ·by_cases w:t=.bool
   ·subst w;cases e;exact g rfl (oA .bool) j
   ·rw[DF f,DF w]at e;cases e
    exact W5 (isinstance_false_bool (by cases t<;>first|exact absurd rfl f|exact absurd rfl w|exact tG .c) (jg t)<|Mz f w) q1
 ·subst i;obtain⟨G,rfl⟩:=r
  by_cases f:t=.int
  ·subst f;cases e;exact g rfl (oA .int) j
  ·rw[DF f]at e;cases e
   exact W5 (isinstance_false_int (by cases t<;>first|exact absurd rfl f|exact tG .c) (jg t)<|PM f) q1
 ·subst i;obtain⟨G,rfl⟩:=r
  by_cases f:t=.str
  ·subst f;cases e;exact g rfl (oA .str) j
  ·rw[DF f]at e;cases e
   exact W5 (isinstance_false_str (by cases t<;>first|exact absurd rfl f|exact tG .c) (jg t)<|PN f) q1
 ·obtain⟨a,B,rfl,m,_⟩:=i
  cases r;obtain⟨y,_,o,h,x,_⟩:=ku I.hok m
  by_cases f:t=.tuple
  ·subst f;cases e;exact g ⟨o,h,x⟩ (oA .tuple) j
  ·rw[DF f]at e;cases e
   exact W5 (isinstance_false_tuple (by cases t<;>first|exact absurd rfl f|exact tG .c) (jg t)<|I0 f) ⟨⟨o,h,x⟩,q1⟩
 ·rename_i n
  obtain⟨a,m,rfl⟩:=i;cases r;cases c:hd[n]? with
  |none=>rw[c]at e;cases e
  |some cell =>
   rw[c]at e;cases cell with
   |lst l =>
    obtain⟨B,A,_⟩:=C.cel n _ a c m;obtain⟨z,y,k,_,h⟩:=I.hok a _ A
    by_cases f:t=.list
    ·subst f;cases e;exact g ⟨_,h,rfl⟩ (oA .list) j
    ·dsimp[DF f]at e;cases e
     exact W5 .ub ⟨⟨_,h,rfl⟩,q1⟩
   |dcT _=>cases e
   |ob _=>cases e
   |dct l =>
    obtain⟨B,A,_,_⟩:=C.cel n _ a c m;obtain⟨_,_,_,_,o,_,_,h,J,_⟩:=I.hok a _ A;cases e;exact W5 (isinstance_false_dict .ya (jg t)<|MC t) ⟨⟨o,h,J.1⟩,q1⟩
 ·obtain⟨a,B,rfl,m,_⟩:=i
  cases r;obtain⟨y,_,K,_⟩:=I.list m.sq;obtain⟨o,h,x,_⟩:=K.isList
  by_cases f:t=.list
  ·subst f;cases e;exact g ⟨o,h,x⟩ (oA .list) j
  ·dsimp[DF f]at e;cases e
   exact W5 .ub ⟨⟨o,h,x⟩,q1⟩
 ·cases e
/---/def TJ(K:ZX)(t:Ty):List V->Hp->VK->Prop:=λxs H Q=>∃ρ hd d v b,xs=[v,.ty .gI]/\RH K ρ H hd/\RD K ρ H d v/\Gj hd t d=some b/\Q .dJ H
def Ja(t:Ty):jb X (.cZ "isinstance") (TJ X.K t):=by
 intro pins s σ H l n Q I r h;obtain⟨ρ,k,d,v,b,rfl,i,c,e,q⟩:=h;obtain⟨u,g,rfl,f,a⟩:=aY.two r;cases (show g=Value.type .gI from a);exact PP I i c f e λm j=>⟨.bl b,H,j,rfl,q⟩
def jZ(u:Gl X "isinstance")(hm:X.mg "isinstance"=none)(l:Gl X n)(j:X.mg n=none)(r:bootBuiltins n=some .gH)(ha:.l a m)
  (o:autoParam (starEach [a,.Name n g] X.env=(false,.bL X.env)::starEach [.Name n g] X.env) Q3Q._auto_1) (k:autoParam (starEach [.Name n g] X.env=(false,eval (.Name n g) X.env)::starEach [] X.env) Q3Q._auto_1) (hn:autoParam (n≠"__name__") Q1Q._auto_1) (hd:autoParam ((n == ("__debug__" : Str))=false) Q1Q._auto_1) :
  ME X (.hM (.bT "isinstance") [a,.Name n g]) (kN t m):=by
 refine PE.imp (jA (Ja t) u hm .bd (cP ha (cP (L7 (v:=.ty .gI) l j r rfl hn hd) eQ k) o) (he:=o)) λσ H Q ⟨ρ,σd,hd,q,s⟩=>⟨ρ,σd,hd,q,(.a0 s).imp λv w zz=>?_⟩;obtain⟨i,d,f,x,e,rv,h⟩:=zz;cases c:Gj f t d with
 |none=>dsimp[c]at h;exact h.elim
 |some b=>dsimp[c]at h;exact⟨i,f,d,v,b,rfl,e.hp,rv,c,h.here e .aU⟩
def eV:.ap .iF (λx y H Q=>rI0 (λi j=>.int (i+j)) x y H Q\/A9 X.K x y H Q):=Pi.or E6
def hU{K:ZX}:Og K dr (λx y H Q=>rI0 (λi j=>.int (i+j)) x y H Q\/A9 K x y H Q):=by
 intro ρ H σd D σ d k v w Q h rv f c;cases d<;>try exact c.elim
 ·cases k<;>try exact c.elim
  dsimp[RD]at rv f;exact .inl ⟨_,_,rv,f,c.here h .aU⟩
 ·rename_i l
  cases l with
  |nil=>exact c.elim
  |cons x E =>
   cases k<;>try exact c.elim
   rename_i u
   dsimp[dr]at c;split at c
   ·rename_i A
    dsimp[RD]at rv f;obtain⟨a,n,rfl,r,e⟩:=rv;obtain⟨b,s,rfl,B,g⟩:=f;refine .inr ⟨a,b,n,s,rfl,rfl,SqT.of r,SqT.of B,?_,?_,λz=>?_,λ_ q t=>?_⟩
    ·intro z;subst z;have:=e.length;simp at this
    ·rw[<-e.length,<-g.length];exact qf A
    ·subst z
     have C:u=[]:=by have:=g.length;simpa using this
     subst C;exact c.here h (by dsimp[rD,RD];exact⟨a,n,rfl,r,by simpa using e⟩)
    ·have m:=cV (o:=HO.tup (n++s)) t
     exact c.at (.fi m) (h.same m) (by dsimp[rD,RD];exact⟨q,_,rfl,bB,(RDs.append e g).mono (.c0 m)⟩)
   ·exact c.elim
def qk(n:Gl X "list")(hm:X.mg "list"=none)(ha:MQ X a c)(g:autoParam (.bq X.env=(false,.bL X.env)::starEach [] X.env) Q3Q._auto_1):MF X (.es<|.bT "list") c:=by
 refine PE.imp (xL zf n hm .bd (.fm g) (he:=g)) λσ H Q ⟨ρ,σd,f,h,b⟩=>⟨ρ,σd,f,h,?_⟩;cases e:c σd f with
 |exc x t=>rw[e]at b;exact b
 |bad=>rw[e]at b;exact b
 |ok l r =>
  rw[e]at b;intro v s o j d ⟨q,k,i,m,rvs⟩;subst i;exact⟨q,k,rfl,m.imp id SqT.of,b.mk j d rvs⟩
/---/def MO(X:Cx)(e:Option Expr)(f:OF):Prop:=PO X e (ny X.K rO f)
def Bk:MO X none pNo:=λpins s σ H Q I ⟨ρ,σd,c,a,b⟩=>Mm pins s σ H Q I (b.here a rfl)
def Bl(h:.eo):MO X (some e) (pAt f):=λpins s σ H Q I ⟨ρ,σd,c,g,i⟩=>Mn h pins s σ H Q I ⟨ρ,σd,c,g,(.a0 i).imp λv l ⟨j,d,k,m,a,rv,b⟩=>by
 cases d<;>try exact b.elim
 dsimp[rD,RD]at rv;exact⟨_,rv,b.here a rfl⟩⟩
def zm{K:ZX}(r:.f9):.ay (cut l lo hi) (rM vs lo hi):=by
 have e:∀(n d:Nat) (o:.aF),Fm.sIx n d o=HT.sIx n d o:=λn d o=>by cases o<;>rfl
 unfold cut rM;rw[r.length,e,e];exact(r.drop _).take _
def vA(ha:.l a J)(U:MO X lo fl)(S:MO X hi G):.l (.dZ a<|.o4 F) (lM J fl G):=by
 refine PE.imp (A8 (SlR.or Mo IH) ha U S) λσ H Q ⟨ρ,σd,P,V,I⟩=>?_;unfold lM at I;refine⟨ρ,σd,P,V,(.a0 I).imp λv H1 zz=>?_⟩;obtain⟨B,d,D,e1,u,rv,W⟩:=zz;refine⟨B,σd,D,u,(.a0 W).imp λy H2 zz=>?_⟩;obtain⟨E,T,C,M,t,q2,F⟩:=zz;cases q2;refine⟨E,σd,C,t,(.a0 F).imp λs z zz=>?_⟩;obtain⟨j,Y,g,R,f,q3,b⟩:=zz;cases q3;have k:=(.dq<|u.hp.kp M).mono (t.hp.kp R);have i:∀l,ev g d=some l->cB X.K .ht j z σd σ (.ok (.ref g.length)<|g++[.lst (cut l y s)]) Q->RL X.K v y s z Q:=λl c p=>by
  obtain⟨q,m,L,O,h⟩:=oz f.hp k c;refine⟨q,m,L,O,λx w=>?_⟩;have r:=cV (o:=HO.lst (rM m y s)) w;have N:=f.hp.free w;have Z:=(f.hp.same r).alloc bB N ((zm h).mono (.c0 r));have K:Ext j z (j++[x]) (upd z x<|.lst<|rM m y s):=Ext.alloc w;refine p.at K (f.ext K Z) ?_;dsimp[rD,RD];exact⟨x,by rw[<-f.hp.len];simp,rfl⟩
 cases d with
 |tup l =>
  simp only at b;split at b
  ·exact b.elim
  ·rename_i hw
   dsimp[RD]at k;obtain⟨q,m,rfl,w,h⟩:=k;have e:∀(n d:Nat) (o:.aF),Fm.sIx n d o=HT.sIx n d o:=λn d o=>by cases o<;>rfl
   refine .inr ⟨q,m,rfl,SqT.of w,by rw[<-h.length,<-e,<-e];exact hw,λx A=>?_⟩;have r:=cV (o:=HO.tup (rM m y s)) A;exact b.at (.fi r) (f.same r) (by dsimp[rD,RD];exact⟨x,_,rfl,bB,(zm h).mono (.c0 r)⟩)
 |ref n =>
  simp only at b;cases c:ev g .eP with
  |none=>rw[c]at b;exact b.elim
  |some l=>rw[c]at b;exact .inl (i l c b)
 |lit l' =>
  simp only at b;cases c:ev g (.lit l') with
  |none=>rw[c]at b;exact b.elim
  |some l=>rw[c]at b;exact .inl (i l c b)
 |_=>exact b.elim
def lQ{fo J:EF}{apos b:Pos}(U:.hI)(he:.l e J)(i:autoParam (.gv "append" X.env .db=eval o X.env) Q3Q._auto_1)
  (z:autoParam (((backTo b .km).all .iJ && (backToKw b .mj).all .ix
   && decide .lU)=true) Q3Q._auto_1)
  (m:autoParam ((apos.endLine == b.line)=true) Q3Q._auto_1) (F:autoParam (starEach [e] X.env=(false,.cH X.env)::starEach [] X.env) Q3Q._auto_1) :
  ME X (.Call (.ju "append") [e] [] b) (mY fo J):=by
 refine PE.imp (.tD PySem.F.slot_list_append PySem.F.type_list_append xO U (cP he eQ F) i z m F) λσ H Q ⟨ρ,σd,N,P,E⟩=>⟨ρ,σd,N,P,?_⟩;unfold mY at E;refine (.a0 E).imp λv Y zz=>?_;obtain⟨A,d,u,W,s,rv,g⟩:=zz;cases d<;>try exact g.elim
 rename_i n
 dsimp[rD,RD]at rv;obtain⟨a,G,rfl⟩:=rv;simp only at g;cases B:u[n]? with
 |none=>rw[B]at g;exact g.elim
 |some cell1 =>
  rw[B]at g;cases cell1 with
  |dct l=>exact g.elim
  |dcT l=>exact g.elim
  |ob l=>exact g.elim
  |lst V =>
   obtain⟨O,L,_⟩:=s.hp.cel n _ a B G;simp only at g;refine⟨.inl ⟨rfl,O,SqL.of L⟩,A,σd,u,s,(.a0 g).imp λw K zz=>?_⟩;obtain⟨y,k,t,M,j,C,f⟩:=zz;dsimp[OO]at f;cases c:t[n]? with
   |none=>rw[c]at f;exact f.elim
   |some cell =>
    rw[c]at f;cases cell with
    |dct l=>exact f.elim
    |dcT l=>exact f.elim
    |ob l=>exact f.elim
    |lst l =>
     simp only at f;split at f
     ·rename_i S
      have q:=M.get G;obtain⟨r,D,h⟩:=j.hp.cel n _ a c q;refine⟨a,r,w,rfl,rfl,D,?_,?_⟩
      ·rw[<-h.length];exact Z5 S .mY
      ·have R:n<t.length:=(.i3).1
       have T:=j.hp.write q R (RDs.append h<|.lH C);have I:Ext y K y (upd K a<|.lst<|r++[w]):=Ext.write (ZK q);exact f.at I (j.ext I T) .aU
     ·exact f.elim
end
end Fm
namespace Fm
section
open Classical
@[simp] noncomputable def fU(nl:Nat)(caps:.i)(a:EF)(tg:GF)(cs:List TF)(e:EF):LF:=λσ h=>match a σ h with
 |.ok (.ref n) h=>match h[n]? with
  |some .cz=>dX .yn tg cs e (dZ l) .kJ h
  |_=>.bad
 |.ok _ _=>.bad
 |.exc x h=>.exc x h
 |.bad=>.bad
end
@[simp] noncomputable def tH(x:EF)(L:LF):EF:=λσ h=>(.hs).bind λp h=>match p with
 |.ref n=>match h[n]? with
  |some (.lst _)=>(L σ h).bind λds h=>match h[n]? with
   |some .cz=>if l.length+ds.length<=SZ then .ok .non (h.set n<|.lst<|l++ds) else .bad
   |_=>.bad
  |_=>.bad
 |_=>.bad
theorem pE{h:Hd}(I:Sd->Prop)(p:D->Bool)(f:D->D)(a:G h):
  ∀{xs:List D} {σ:Sd},(∀x∈xs,∀σ,I σ->∃σ',tg x σ=some σ'/\I σ'/\jW cs σ' h=.ok (p x) h/\.qf)->I σ->
   dX G tg cs e xs σ h=.ok .ra h
 |[],_,_,_=>by simp[dX,a]
 |x::xs,σ,st,i=>by
  obtain⟨σ',h1,h2,c,g⟩:=st x .e σ i;have d:=pE I p f a (xs:=xs) (σ := σ') (λy j=>st y (by simp[j])) h2;cases b:p x with
  |true=>simp[dX,a,h1,c,b,g b,d]
  |false=>simp[dX,a,h1,c,b,d]
noncomputable def DG(x:Int):List Int->List Int
 |[]=>[x]
 |y::r=>if x<=y then x::y::r else y::DG x r
noncomputable def jE:List Int->List Int
 |[]=>[]
 |x::r=>DG x (jE r)
theorem rV(x:Int):∀r,(DG x r).Perm (x::r)
 |[]=>.refl _
 |y::r=>by
  unfold DG;split
  ·exact .refl _
  ·exact((rV x r).cons y).trans .sT
theorem lS:∀r,(jE r).Perm r
 |[]=>.refl _
 |x::r=>(rV x _).trans ((lS r).cons x)
theorem xT:∀{r:.b},r.Pairwise (·<=·)->(DG x r).Pairwise (·<=·)
 |[],_=>by simp[DG]
 |y::r,h=>by
  obtain⟨h1,h2⟩:=Z4.mp h;unfold DG;split
  ·rename_i c
   refine Z4.mpr ⟨λb a=>?_,h⟩;rcases y4.mp a with e|a
   ·rw[e];exact c
   ·exact wb c (h1 b a)
  ·rename_i c
   refine Z4.mpr ⟨λb a=>?_,xT h2⟩;rcases y4.mp ((rV x r).mem_iff.mp a) with e|a
   ·rw[e];omega
   ·exact h1 b a
theorem pF:∀{r:.b},(jE r).Pairwise (·<=·)
 |[]=>by simp[jE]
 |x::r=>xT pF
def GG(p:a.Perm r)(h:a.Pairwise (·<=·)):a=jE r :=
 U1 (λx y _ _ h b=>Int.le_antisymm h b) h pF (p.trans (lS r).symm)
@[simp] noncomputable def kx(L:LF):LF:=λσ h=>(L σ h).bind λl h=>match cC l with
 |some xs=>if xs.length<64 then .ok ((jE xs).map .int) h else .bad
 |none=>.bad
@[simp] noncomputable def MD(a:LF):EF:=λσ h=>(.al).bind λl h=>match i9 l with|some bs=>.ok (.bl<|bs.any id) h|none=>.bad
end Fm
namespace Ts
theorem xU(a:α->Int):∀{l m:List α},l.Pairwise .eE->m.Pairwise .eE->(∀k,l.filter .zZ=m.filter .zZ)->l=m
 |[],[],_,_,_=>rfl
 |[],y::m,_,_,h=>by have:=h (a y);simp at this
 |x::l,[],_,_,h=>by have:=h (a x);simp at this
 |x::l,y::m,j,i,h=>by
  have b:=Z4.mp j;have d:=Z4.mp i;have e:a x=a y:=by
   have p:x∈(y::m).filter (λz=>decide (a z=a x)):=by rw[<-h];simp
   have g:y∈(x::l).filter (λz=>decide (a z=a y)):=by rw[h];simp
   have o:=(Y2.mp p).1;have q:=(Y2.mp g).1;have s:a y<=a x:=by
    rcases y4.mp o with z|z
    ·rw[z];exact X5 _
    ·exact d.1 x z
   have r:a x<=a y:=by
    rcases y4.mp q with z|z
    ·rw[z];exact X5 _
    ·exact b.1 y z
   lia
  have f:=h (a x);rw[Y1 .e,Y1 .nD]at f;obtain⟨rfl,n⟩:=List.cons.inj f;congr 1;refine xU a b.2 d.2 λk=>?_
  by_cases c:a x=k
  ·subst c;exact n
  ·have:=h k
   rwa[XJ .aH,XJ .aH]at this
noncomputable def insK(key:α->Int)(x:α):List α->List α
 |[]=>[x]
 |y::l=>if key x<key y then x::y::l else y::insK key x l
/---/def byK(key:α->Int)(l:List α):List α := l.foldl (λacc x=>insK key x acc) []
theorem rW(a:α->Int)(x:α):∀l:List α,(insK a x l).Perm (x::l)
 |[]=>.refl _
 |y::l=>by
  unfold insK;split
  ·exact .refl _
  ·exact((rW a x l).cons y).trans (.swap _ _ _)
theorem vB(a:α->Int)(x:α):∀{l:List α},l.Pairwise .eE->(insK a x l).Pairwise .eE
 |[],_=>YV _ _
 |y::l,h=>by
  have p:=Z4.mp h;unfold insK;split
  ·rename_i c
   refine Z4.mpr ⟨λz b=>?_,h⟩;rcases y4.mp b with rfl|b
   ·lia
   ·have:=p.1 z b;lia
  ·rename_i c
   refine Z4.mpr ⟨λz b=>?_,vB a x p.2⟩;rcases y4.mp ((rW a x l).mem_iff.mp b) with rfl|b
   ·lia
   ·exact p.1 z b
theorem tI(a:α->Int)(x:α)(k:Int):∀{l:List α},l.Pairwise .eE->(insK a x l).filter .eC=(l++[x]).filter .eC
 |[],_=>rfl
 |y::l,h=>by
  have p:=Z4.mp h;unfold insK;split
  ·rename_i c
   rw[UV,XR,XR,XR,XS]
   by_cases e:a x=k
   ·have n:¬a y=k:=by lia
    have b:l.filter .eC=[]:=by
     rw[List.filter_eq_nil_iff];intro z d;have:=p.1 z d;simp;lia
    simp[e,n,b]
   ·simp[e]
  ·rw[UV,XR,XR,tI a x k p.2]
theorem zn(a:α->Int):∀(l acc:List α),acc.Pairwise .eE->
  (.pZ).Perm (acc++l)/\(.pZ).Pairwise .eE/\∀k,(.pZ).filter .eC=(acc++l).filter .eC
 |[],acc,h=>by simp[h]
 |x::l,acc,h=>by
  obtain⟨h1,h2,b⟩:=zn a l (insK a x acc) (vB a x h);refine⟨h1.trans ?_,h2,λk=>?_⟩
  ·exact((rW a x acc).append_right l).trans (List.perm_middle.symm)
  ·rw[UG,b k,XS,tI a x k h,<-List.filter_append,ZU];rfl
def byK_perm(a:α->Int)(l:List α):(byK a l).Perm l:=(.r5).1
def byK_rises(a:α->Int)(l:List α):(byK a l).Pairwise .eE:=(.r5).2.1
def DH(a:α->Int)(l:List α)(k:Int):(byK a l).filter .eC=l.filter .eC:=(.r5).2.2 k
def PQ(a:α->Int)(h1:m.Pairwise .eE)(h2:∀k,m.filter .eC=l.filter .eC):m=byK a l :=
 xU a h1 (byK_rises a l) λk=>(h2 k).trans (DH a l k).symm
theorem Bm(f:α->β)(b:α->Int)(a:β->Int)(h:∀x,a (f x)=b x)(x:α):∀l:List α,insK a (f x) .dL=(insK b x l).map f
 |[]=>rfl
 |y::l=>by
  dsimp[yP,insK,h];split
  ·rfl
  ·rw[Bm f b a h x l];rfl
def byK_map(f:α->β)(c:α->Int)(b:β->Int)(h:∀x,b (f x)=c x)(l:List α):byK b .dL=(byK c l).map f:=by
 have:∀(l:List α) a,(.dL).foldl (λa x=>insK b x a) (a.map f)=(l.foldl (λa x=>insK c x a) a).map f:=by
  intro l
  induction l with
  |nil=>intro a;rfl
  |cons x l d =>
   intro a;rw[yP,UG,UG,Bm f c b h,d]
 exact this l []
end Ts
namespace Fm
noncomputable def Bn(h:Hd):D->Option Int
 |.ref n=>match h[n]? with|some .cz=>some (l.length:Int)|_=>none
 |_=>none
noncomputable def Bo(h:Hd):List D->Option .aC
 |[]=>some []
 |x::l=>match Bn h x,Bo h l with|some k,some kz=>some (k::kz)|_,_=>none
/---/def nA(a:EF):LF:=λσ h=>(.al).bind λx h=>match ev h x with
 |some l=>match Bo h l with
  |some kz=>if l.length<=1000 then .ok ((.fd<|kz.zip l).map (·.2)) h else .bad
  |none=>.bad
 |none=>.bad
section
open Classical
@[simp] noncomputable def zsrc(h:Hd):D->Option .q2
 |.tup l=>some (l,none)
 |.exn c l=>if c="" then some (l,none) else none
 |.ref n=>match h[n]? with|some .cz=>some (l,some n)|_=>none
 |_=>none
@[simp] noncomputable def tJ(a b:EF)(tg:GF)(body:SF):SF:=λσ h=>match a σ h with
 |.ok x h1=>match b σ h1 with
  |.ok y h2=>match zsrc h2 x,zsrc h2 y with
   |some (l,o),some (k,o')=>pB .qh tg body .j0 σ h2
   |_,_=>.bad
  |.exc x h=>.exc x σ h
  |.bad=>.bad
 |.exc x h=>.exc x σ h
 |.bad=>.bad
end
@[simp] noncomputable def DJ(x i:EF):EF:=λσ h=>(.hs).bind λp h=>match p with
 |.ref n=>match h[n]? with
  |some (.lst _)=>(i σ h).bind λj h=>match j with
   |.int j=>match h[n]? with
    |some .cz=>if 0<=j/\j<l.length/\l.length<=1000000 then match l[j.toNat]? with
     |some d=>.aG (h.set n<|.lst<|l.eraseIdx j.toNat)
     |none=>.bad else .bad
    |_=>.bad
   |_=>.bad
  |_=>.bad
 |_=>.bad
section
open Classical
@[simp] noncomputable def kA(nl:Nat)(caps:.i)(a b:EF)(tg:GF)(cs:List TF)(e:EF):LF:=λσ h=>match a σ h with
 |.ok x h1=>match b σ h1 with
  |.ok y h2=>match zsrc h2 x,zsrc h2 y with
   |some (l,o),some (k,o')=>dX .qh tg cs e .j0 .kJ h2
   |_,_=>.bad
  |.exc x h=>.exc x h
  |.bad=>.bad
 |.exc x h=>.exc x h
 |.bad=>.bad
end
end Fm
namespace Fm
open PySem PySem.Spec L2
open AutoSeq1 (wpAny_loadPart')
open PyProof.Rows (Call_)
def MJ(h:Value.type a=Value.type b)(n:a≠b):False:=by injection h with h;exact n h
def nB(l:Addr)(a:.bw)(n:Nat)(e:.cv)(o:.hH):
  Meets (Builtin.«enumerate.__new__» ⟨[.type "enumerate",.ref l],[]⟩) (λ_ R s=>s.heap.get? l=some { cls:=.type "tuple",dict:=e,data:=.seq a n,slots:=o }/\
   R (.ok<|.ret<|.ref (.jM).objs.size)
    { s with heap:=(.jM).push { cls:=.type "enumerate",data:=.fields #[.none,.bool false,.ref s.heap.objs.size,rawInt 0,.none,.none] } }) :=
 .of_wp λprog w A R s h=>by
  obtain⟨k,g,d,j,m⟩:=s;obtain⟨b,h⟩:=h;have i:=sub_enumerate;have f:Heap.IsTuple (Shared.heap ⟨k,g,d,j,m⟩) l a:=⟨_,b,rfl,n,rfl⟩
  wp_walk using WG b
  refine wpAny_stack_any λp=>wX ?_;split
  ·rename_i c _ _ _ _ _
   cases (c == Value.type "enumerate")
   ·wp_walk using WG b,WT f
    exact⟨_,rfl,h⟩
   ·wp_walk using WG b,WT f
    exact⟨_,rfl,h⟩
  ·wp_walk using WG b,WT f
   exact⟨_,rfl,h⟩
variable{l:Addr}
section
variable{prog:P2}{w:N3}{A:P1}{E:.q}{s:Q5}
def nC(m:s.heap.IsTuple l a)
  (h:∀h',IsEnum h' .zD s.heap.objs.size 0 .none->h'.IsTupleIter s.heap.objs.size l 0->h'.objs.size=s.heap.objs.size + 2->
   (∀b o,s.heap.get? b=some o->h'.get? b=some o)->Q (.ref .b1) .ci) :
  wpAny .aj A (call (.type "enumerate") [.ref l]) Q E s:=by
 obtain⟨⟨c,d,j,k⟩,p,f,n,e⟩:=m;replace f:c=.type "tuple" := f;replace e:j=.seq a n:=e;subst f e;refine callType_new F.called_enumerate .c (F.typeCall_enumerate_1 _) (F.newCall_enumerate_1 _) (λobj=>F.args_object_init_2 obj _) F.entry_enumerate_new
  (nB l a n d k) ⟨p,?_⟩
 have g:(.jM).objs.size=s.heap.objs.size + 1:=X1 ..;show _/\_;rw[g];have i:IsEnum ((.jM).push
   { cls:=.type "enumerate",data:=.fields #[.none,.bool false,.ref s.heap.objs.size,rawInt 0,.none,.none] }) .b1 s.heap.objs.size 0 .none:=by
  have:=ZJ .jM
   (o:={ cls:=.type "enumerate",data:=.fields #[.none,.bool false,.ref s.heap.objs.size,rawInt 0,.none,.none] }) rfl
  rw[g]at this;exact this
 refine⟨⟨_,i,rfl⟩,h _ i ⟨_,.R .i0,rfl,rfl⟩ (by rw[X1,g]) λb o x=>.R (.R x)⟩
def j0(b:s.heap.IsTupleIter it l i)
  (j:s.heap.IsTuple l a) (hx:.ly)
  (h:∀h',h'.IsTupleIter it l (i+1)->Heap.SameBut it s.heap h'->Q x .ci) :
  wpAny .aj A .mf Q E s:=by
 obtain⟨o,d,g,c⟩:=id b;obtain⟨m,f,_,k,e⟩:=j;unfold Builtin.SmallTypes.nextOf;refine z0 (WW (name:=Str.ofString "__next__") b.typeIs VO
  (WJ VO b.typeIs F.entry_tuple_iterator_next ?_ .xh))
 show wpAny _ _ (field .eX 0 >>= _) _ _ s;refine z0 (WK d c (x:=.ref l) rfl ?_);show wpAny _ _ .xP _ _ s;rw[yD (show ¬(.pY=true) from Z7)];show wpAny _ _ (field .eX 1 >>= _) _ _ s;refine z0 (WK d c (x:=.int i 0) rfl ?_);show wpAny _ _ (seqItems? .i7 >>= _) _ _ s;refine z0 (VP f e ?_);dsimp[X9,hx];refine z0 (wpAny_setField d c .e (wX ⟨x,rfl,wX (h _ ?_ .zb)⟩));exact⟨_,Heap.get?_update_self _ d (Obj.isFreed_of_fields<|Obj.data_mapFields c _),(Obj.cls_mapFields ..).trans g,by
  rw[Obj.data_mapFields c];simp[rawInt]⟩
def kT(j:.hG)
  (c:s.heap.IsTupleIter it l i) (n:s.heap.IsTuple l b) (hx:b[i]?=none)
  (k:.Ax) :
  wpAny .aj A .mf Q E s:=by
 obtain⟨o,f,p,d⟩:=id c;obtain⟨r,h,_,q,g⟩:=n;unfold Builtin.SmallTypes.nextOf;refine z0 (WW (name:=Str.ofString "__next__") c.typeIs VO
  (WJ VO c.typeIs F.entry_tuple_iterator_next ?_ .xh))
 show wpAny _ _ (field (.ref it) 0 >>= _) _ _ s;refine z0 (WK f d (x:=.ref l) rfl ?_);show wpAny _ _ .xP _ _ s;rw[yD (show ¬(.pY=true) from Z7)];show wpAny _ _ (field (.ref it) 1 >>= _) _ _ s;refine z0 (WK f d (x:=.int i 0) rfl ?_);show wpAny _ _ (seqItems? (.ref l) >>= _) _ _ s;refine z0 (VP h g ?_);dsimp[X9,hx];refine z0 (wpAny_rule (z0 (wpAny_setField f d .e ?_)));show wpAny _ _ (newExc (.type "StopIteration") [] >>= _) _ _ _;refine z0 ?_;dsimp[newExc,newTuple];refine z0 (VG ?_ (by size_fits));refine z0 (m:=firstArgMember _ _) (wpAny_of_eq (a:=Value.none) (by first|rfl|(dsimp[firstArgMember];rfl)) ?_);refine VG ?_ (by size_fits);dsimp[raiseNew];refine z0 (wpAny_handled ?_)
 first|rw[show A.in1.handled=none from j] | rw[j]
 refine z0 (wX (wpAny_throw ?_));exact k _ _ (((.zb).extBut.push _).push _) ⟨_,ZJ _ rfl,rfl⟩
end
theorem Bp(t:.hG)(it l:Addr)(g:l≠it)(a:.bw):
  Draws prog w A it [it,l] a.size .z0 (λi h=>h.IsTupleIter it l i/\h.IsTuple l a) where
 live:=λ_ _ b=>let ⟨o,f,_⟩:=b.1;⟨o,f⟩
 frame:=λ_ _ _ b k=>⟨b.1.at λo e=>k it .e o e,let ⟨o,f,r⟩:=b.2;⟨o,k l .e o f,r⟩⟩
 item:=λi s Q E m b p=>by
  have j:a[i]?=some a[i]:=by simp[m]
  refine j0 b.1 b.2 j λq d c=>?_;refine p _ q s.toks j ⟨d,?_⟩ c;obtain⟨o,f,r⟩:=b.2;exact⟨o,(c.2 l g).trans f,r⟩
 done:=λs Q E b n=>kT t b.1 b.2 .e n
noncomputable def itN:Bool->String
 |true=>"list_iterator"
 |false=>"tuple_iterator"
noncomputable def It2:Bool->Heap->Addr->Addr->Nat->Prop
 |true,h,i,l,k=>h.IsListIter i l k
 |false,h,i,l,k=>h.IsTupleIter i l k
noncomputable def Sq2:Bool->Heap->Addr->Array S1->Prop
 |true,h,l,xs=>h.IsList l xs
 |false,h,l,xs=>h.IsTuple l xs
noncomputable def SqM:Bool->ZX->Hp->Addr->List V->Prop
 |true,K,H,a,xs=>SqL K H a xs
 |false,K,H,a,xs=>SqT K H a xs
variable{h:Heap}{L:Bool}
def It2.mk(e:h.get? i=some { cls:=.type (itN L),data:=.fields #[.ref l,.int 0 0] }):It2 L h i l 0:=by
 cases L
 ·exact⟨_,e,rfl,rfl⟩
 ·exact⟨_,e,rfl,rfl⟩
def It2.obj(t:It2 L h i l k):∃o,h.get? i=some o/\∀v,o.data ≠ .cell v:=by
 cases L
 ·obtain⟨o,q,c,d⟩:=t
  exact⟨o,q,λv e=>by rw[d]at e;cases e⟩
 ·obtain⟨o,q,c,d⟩:=t
  exact⟨o,q,λv e=>by rw[d]at e;cases e⟩
def It2.at(t:It2 L h i l k)(a:∀o,h.get? i=some o->h'.get? i=some o):It2 L h' i l k:=by
 cases L
 ·obtain⟨o,q,r⟩:=t
  exact⟨o,a o q,r⟩
 ·obtain⟨o,q,r⟩:=t
  exact⟨o,a o q,r⟩
def It2.extBut(t:It2 L h a l k)(e:Heap.ExtBut b h h')(n:a≠b):It2 L h' a l k:=t.at λo q=>e _ _ n q
def Sq2.lt(t:.oO):l<h.objs.size:=by
 cases L
 ·obtain⟨o,q,_⟩:=t
  exact ZI q
 ·obtain⟨o,q,_⟩:=t
  exact ZI q
def lT(t:.oO)(e:Heap.ExtBut i h h')(n:l≠i):Sq2 L h' l xs:=by
 cases L
 ·obtain⟨o,a,r⟩:=t
  exact⟨o,e _ _ n a,r⟩
 ·obtain⟨o,a,r⟩:=t
  exact⟨o,e _ _ n a,r⟩
def nE{σ:St}(I:.th)(h:SqM L X.K H a xs):∃b,aY xs b/\Sq2 L s.heap a b.toArray/\xs.length<=sizeLine:=by
 cases L
 ·exact I.tuple h
 ·obtain⟨b,r,p,z⟩:=I.list h
  exact⟨b,r,p.isList,z⟩
def zq{σ:St}(I:.th)(h:SqM L X.K H a xs)(h':SqM L X.K H a ys):xs=ys:=by
 cases L
 ·exact I.tuple_inj h h'
 ·exact I.list_inj h h'
def It2.cl(t:It2 L h i l k):∃o,h.get? i=some o/\o.cls=.type (itN L):=by
 cases L
 ·obtain⟨o,q,c,d⟩:=t
  exact⟨o,q,c⟩
 ·obtain⟨o,q,c,d⟩:=t
  exact⟨o,q,c⟩
def Sq2.cl(t:.oO):∃o,h.get? l=some o/\o.cls=.type (bif L then "list" else "tuple"):=by
 cases L
 ·obtain⟨o,q,c,_⟩:=t
  exact⟨o,q,c⟩
 ·obtain⟨o,q,c,_⟩:=t
  exact⟨o,q,c⟩
def Jb(c:.hG)(it l:Addr)(b:l≠it)(a:.bw):
  Draws prog w A it [it,l] a.size .z0 (λi h=>It2 L h it l i/\Sq2 L h l a):=by
 cases L
 ·exact Bp c it l b a
 ·exact Draws.list c it l b a
/---/def ItG(L:Bool)(K:ZX)(a:Addr):It :=
 ⟨λi H=>∃xs x,SqM L K H a xs/\xs[i]?=some x,λi H x H'=>∃q v,x=.ref q/\H q=none/\H'=upd H q (.tup [.int (i:Nat),v])/\∀xs,SqM L K H a xs->xs[i]?=some v,λi H=>∃xs,SqM L K H a xs/\xs.length=i⟩
noncomputable abbrev Ite:ZX->Addr->It:=ItG false
noncomputable abbrev ItL:ZX->Addr->It:=ItG true
theorem xV{K:ZX}(e it a:Addr):Dt P w K (.Tuple elts k pos) (ItG L K a) [e,it] e (λi h=>(∃old,IsEnum h e it (i:Nat) old)/\It2 L h it a i) where
 mem:=by simp
 obj:=λi h p b d=>by
  obtain⟨⟨old,t⟩,p⟩:=p;rcases y4.mp d with rfl|d
  ·exact⟨_,t,λv z=>by
    have z':Data.fields _=Data.cell v:=z;cases z'⟩
  ·have:b=it:=by simpa using d
   subst this;exact p.obj
 keep:=λi h h' p kk=>by
  obtain⟨⟨old,t⟩,p⟩:=p;exact⟨⟨old,kk e .e _ t⟩,p.at λo x=>kk it .e o x⟩
 item:=by
  intro X hP hw hK hc i pins s σ H E I Z p hg;subst hP hw hK;obtain⟨⟨old,t⟩,D⟩:=p;obtain⟨xs,x,hq,hx⟩:=hg;obtain⟨j,rv,U,hz⟩:=nE I hq;obtain⟨oi,B,G⟩:=D.cl;obtain⟨oa,f,g⟩:=U.cl;have N:e≠it:=λz=>by
   subst z;have F:s.heap.get? e=_:=t;rw[B]at F;cases F;exact MJ G .mF
  have a6:e≠a:=λz=>by
   subst z;have F:s.heap.get? e=_:=t;rw[f]at F;cases F;exact MJ g .mF
  have M:a≠it:=λz=>by
   subst z;rw[B]at f;cases f;rw[G]at g;exact MJ g .mF
  obtain⟨e0,e1,e2,e3,e4,e5⟩:=Z e .e;obtain⟨f0,f1,f2,f3,f4,f5⟩:=Z it .e;have a4:i<j.toArray.size:=by
   have:=(zS.mp hx).1;have hl:=rv.length;simp;lia
  refine wpAny_pyNext_enum_itemD .uu t ⟨D,U⟩ a4 N (by simp;exact⟨N,a6⟩) λy h' Y hy a0 W S R hk=>?_;refine⟨_,rfl,wpAny_letOwnedTupleGo_enum a0 λh2 a3 C=>?_⟩;replace C:Heap.SameBut e h' h2:=C;obtain⟨u,hu,ru⟩:=rv.get hx;have a8:y=u:=by
   have:j.toArray[i]?=some u:=by simpa using hu
   rw[hy]at this;exact ZT this
  subst a8;have T:e<s.heap.objs.size:=ZI t;have a1:it<s.heap.objs.size:=ZI B;have O:H s.heap.objs.size=none:=I.hok.fresh .r;have keep:∀b o,b≠e->b≠it->s.heap.get? b=some o->h2.get? b=some o:=λb o b1 b2 q=>(C.2 b b1).trans (hk b o b1 b2 q);have J:h2.get? s.heap.objs.size=some { cls:=.type "tuple",data:=.seq #[.int i Y,y] }:=(C.2 _<|YN T).trans S;have l:∀b,b∉([e,it]:List Addr)->b≠e/\b≠it:=λb d=>by simpa using d
  refine⟨.ref s.heap.objs.size,.lI .zu,?_,rfl,⟨_,x,rfl,O,rfl,λys a7=>by rw[zq I a7 hq];exact hx⟩,⟨⟨_,by simpa using a3⟩,W.1.extBut C.extBut (WQ N)⟩,λb d=>?_⟩
  ·suffices I2:L2.Inv X pins σ (.lI .zu) { s with heap:=h2,gens:=s.gens,drawn:=s.drawn,toks:=Y+1 } from I2
   refine I.step (g':=s.gens) (d':=s.drawn) (t':=Y+1) (ch:=[e,it]) (λb d=>?_) (λb o _ _ d q _=>keep b o (l b d).1 (l b d).2 q) (λb o _ _ d q _=>⟨o.slots,keep b o (l b d).1 (l b d).2 q⟩) (λb o _ q n=>?_) (λb o d q=>⟨o,keep b o (l b d).1 (l b d).2 q⟩)
    (λb ys q=>?_) (λb o u q=>?_) (λb ps q=>⟨#[],?_⟩) (λm hm=>?_) (λb u q=>?_) I.bare
   ·rcases y4.mp d with rfl|d
    ·exact⟨e3,e1,e4,e5⟩
    ·have:b=it:=by simpa using d
     subst this;exact⟨f3,f1,f4,f5⟩
   ·rw[aJ (ZN<|ZI q)];exact n
   ·rw[aJ (cj q O)];exact q
   ·rw[aJ (cj q O)];exact q
   ·rw[aJ (cj q O),q];simp
   ·obtain⟨o,es,ep,ho,r⟩:=hm
    exact⟨o,es,ep,keep _ o (WQ e1) (WQ f1) ho,r⟩
   ·by_cases d:b=s.heap.objs.size
    ·subst d
     rw[bB]at q;cases q;exact⟨by show 2<=sizeLine;rw[YQ];decide,[.int i Y,y],.cons ⟨Y,rfl⟩ (.cons ru .nil),_,J,rfl,_,rfl⟩
    ·rw[aJ d]at q
     have V:∀c v,H c=some v->c≠e:=λc v z w=>by rw[w,e0]at z;cases z
     have Q:∀c v,H c=some v->c≠it:=λc v z w=>by rw[w,f0]at z;cases z
     refine(I.hok b u q).stay (λc v a2 z=>?_) (λc z=>by rw[aJ (cj z O)];exact z) λc ys z=>by rw[aJ (cj z O)];exact z
     rcases a2 with w|w
     ·subst w;exact keep c v (V c _ q) (Q c _ q) z
     ·exact keep c v (V c _ w) (Q c _ w) z
  ·have:b≠s.heap.objs.size:=by
    rcases y4.mp d with rfl|d
    ·exact ZN T
    ·have:b=it:=by simpa using d
     subst this;exact ZN a1
   rw[aJ this];exact(Z b d).1
 done:=by
  intro X hP hw hK hc i pins s σ H E I Z p hg;subst hP hw hK;obtain⟨⟨old,t⟩,D⟩:=p;obtain⟨xs,hq,hx⟩:=hg;obtain⟨j,rv,U,hz⟩:=nE I hq;obtain⟨oi,B,G⟩:=D.cl;obtain⟨oa,f,g⟩:=U.cl;have M:a≠it:=λz=>by
   subst z;rw[B]at f;cases f;rw[G]at g;exact MJ g .mF
  obtain⟨f0,f1,f2,f3,f4,f5⟩:=Z it .e;have R:j.toArray.size=i:=by have:=rv.length;simp;lia
  refine wpAny_pyNext_enum_endD .uu t ⟨by rw[R];exact D,U⟩ λh' a5=>⟨rfl,I.turned (t':=s.toks) (λb o d e=>a5 b o d e) f0 f1 f3 f4 f5⟩
 self:=λ_ _ _ _ _ p h=>by
  obtain⟨⟨old,t⟩,_⟩:=p;exact wpAny_pyIter_enum t h
section
variable{X:Cx}{pos p tp:Pos}{elts:.a8}{tk:Nat}
/---/def iEn(K:ZX)(ta:TE):TI:=λσ H R=>ta σ H λx H1=>∃a xs,x=.ref a/\SqT K H1 a xs/\(xs.length<=sizeLine->R (Ite K a) H1)
def MK(C:.oG)(hm:.os)(ha:.w a j)(t:autoParam (.bq X.env=.ij) Q3Q._auto_1):PI X .jp .oP (iEn X.K j):=by
 intro pins s σ H R I h;have l:=.fm t;refine Call_ (i4 I C hm PyProof.Rows.boot_enumerate (XF (thn (l pos pins s σ H (λw c=>∃a d,w=.di/\SqT X.K c a d/\.md) I ?_) λJ f ⟨w,c,k,z,q1⟩=>?_) t rfl))
 ·show j σ H λx c=>_
  have r:∀(x:V) (c:Hp),(∃a d,x=.ref a/\SqT X.K c a d/\.md)=(∃a d,[x]=.di/\SqT X.K c a d/\.md):=λx c=>by simp
  have g:j σ H λx c=>∃a d,x=.ref a/\SqT X.K c a d/\.md:=h;dsimp[r]at g;exact g
 ·obtain⟨a,d,e,B,q⟩:=q1
  subst e;obtain⟨u,rfl,A⟩:=aY.one z;cases (show u=Value.ref a from A);obtain⟨n,rv,F,D⟩:=k.tuple B;refine nC (show f.heap.IsTuple a n.toArray from F) λg v o y E=>?_;refine wpAny_pyIter_enum (s:=.mS) v ?_;have G:.bH c .mS:=k.kept (t':=f.toks) E;refine⟨f.heap.objs.size+1,.wC,_,_,c,rfl,G,xV (L:=false) (f.heap.objs.size+1) f.heap.objs.size a,⟨⟨_,by simpa using v⟩,o⟩,λb m=>?_,q D⟩;have i:f.heap.objs.size<=b:=by
   rcases y4.mp m with e|m
   ·rw[e];exact xa _
   ·have:b=f.heap.objs.size:=by simpa using m
    rw[this];exact ZL _
  exact k.fpOk i (k.hok.fresh i)
theorem GH{K:ZX}{l:List D}(r:.aW)(hq:H q=some .fU)(rv:.f9)(hz:.tn):
  xf K ρ H (Ite K q) ((.io).zip l |>.map λp=>.tup [.int (p.1:Nat),p.2]) none where
 go:=λρ' f hd' i d b n _ h=>by
  have k:=r.kp b;obtain⟨a,hi2⟩:=zS.mp h;have s:i<l.length:=by simpa using a
  have hd:d=.tup [.int (i:Nat),l[i]]:=by rw[<-hi2];simp
  subst hd;obtain⟨v,c,j⟩:=(.dq k).get (i:=i) (d:=l[i]) (by simp[s]);have e:SqT K f q vs:=SqT.of (k.tup q vs hq);refine⟨⟨vs,v,e,c⟩,λx u y=>?_⟩;obtain⟨q2,t,rfl,m,rfl,y⟩:=y;have:=y vs e;rw[c]at this;cases this;have g:=cV (o:=HO.tup [.int (i:Nat),v]) m;refine⟨g,?_⟩;dsimp[RD];exact⟨q2,_,rfl,bB,.jE (.lH<|j.mono<|.c0 g)⟩
 stop:=λρ' f hd' b n _=>⟨vs,SqT.of ((r.kp b).tup q vs hq),by rw[<-rv.length];simp⟩
 sz:=by
  have:=rv.length;simp;lia
def ML(n:.oG)(hm:.os)(ha:.l a f)(r:autoParam (.bq X.env=.ij) Q3Q._auto_1):MI X .jp .oP (Ih f):=by
 refine PI.imp (MK n hm ha r) λσ H R ⟨ρ,σd,k,m,b⟩=>⟨ρ,σd,k,m,?_⟩;unfold Ih at b;cases e:f σd k with
 |exc x w=>rw[e]at b;exact b
 |bad=>rw[e]at b;exact b
 |ok d s =>
  rw[e]at b;dsimp[aH]at b;intro v t g i c rv;cases d<;>try exact b.elim
  rename_i l
  dsimp[rD,RD]at rv;obtain⟨q,u,rfl,j,h⟩:=rv;exact⟨q,u,rfl,SqT.of j,λo=>b _ t g i c (GH c.hp j h o)⟩
end
end Fm
namespace L2
open PySem PySem.Spec PyProof.Rows
section
variable{κ:Type}[DecidableEq κ]
/---/def iT(kvs:List .i2)(k:κ):Option V:=(kvs.find? λkv=>decide (kv.1=k)).map (·.2)
/---/def kU(kvs:List .i2)(k:κ)(v:V):List .i2 :=
 if (kvs.any λkv=>decide (kv.1=k))=true then kvs.map (λkv=>if kv.1=k then (kv.1,v) else kv) else kvs++[(k,v)]
def vC{k:κ}(e:p.1=k):iT (p::r) k=some p.2:=by simp[iT,UH,e]
def nF{k:κ}(e:¬p.1=k):iT (p::r) k=iT r k:=by simp[iT,UH,e]
theorem Bq(k:κ):∀a:List .i2,.ye=(iT a k).isSome
 |[]=>rfl
 |p::r=>by
  rw[V5]
  by_cases e:p.1=k
  ·dsimp[vC e,ZZ e,Bool.true_or,Option.isSome_some]
  ·rw[nF e,Z6 e,Bool.false_or];exact Bq k r
def tK(a:List .i2)(k:κ)(v:V):(kU a k v).length<=a.length+1:=by
 unfold kU;split
 ·rw[ZA];lia
 ·rw[ZB,YT,U4];lia
def w6.isSome_eq(r:w6 o u):o.isSome=u.isSome:=by
 cases o with
 |none=>cases u with
  |none=>rfl
  |some _=>exact(show False from r).elim
 |some _=>cases u with
  |none=>exact(show False from r).elim
  |some _=>rfl
def KV.val{vs:List .n1}(r:KV a vs)(k:κ):w6 (iT a k) (valueAt vs k):=by
 unfold KV at r
 induction r with
 |nil=>exact True.intro
 |@cons p q j d h t i =>
  obtain⟨f,g⟩:=h
  by_cases e:p.1=k
  ·have c:q.1=k:=f.symm.trans e
   have b:valueAt (q::d) k=some q.2:=by simp[valueAt,UH,c]
   rw[vC e,b];exact g
  ·have c:¬q.1=k:=λz=>e (f.trans z)
   have b:valueAt (q::d) k=valueAt d k:=by simp[valueAt,UH,c]
   rw[nF e,b];exact i
def KV.any(r:KV a vs)(k:κ):.ye=vs.any λb=>decide (b.1=k):=by
 unfold KV at r
 induction r with
 |nil=>rfl
 |cons h t c=>rw[V5,V5,c,h.1]
def KV.repl(r:KV b vs)(k:κ){y:V}{u:S1}(f:cf y u):
  KV (b.map λa=>if a.1=k then (a.1,y) else a) (vs.map λa=>if a.1=k then (a.1,u) else a):=by
 unfold KV at r⊢
 induction r with
 |nil=>exact .nil
 |@cons p q j i h t g =>
  rw[yP,yP];refine .cons ?_ g;obtain⟨c,d⟩:=h
  by_cases e:p.1=k
  ·rw[z4 e,z4 (c.symm.trans e)];exact⟨c,f⟩
  ·rw[yD e,yD (λz=>e (c.trans z))];exact⟨c,d⟩
def KV.put(r:KV a vs)(k:κ){y:V}{u:S1}(b:cf y u):KV (kU a k y) (stored vs k u):=by
 unfold kU stored;rw[r.any k]
 by_cases e:(vs.any λc=>decide (c.1=k))=true
 ·rw[z4 e,z4 e];exact r.repl k b
 ·rw[yD e,yD e];exact Paired.snoc r ⟨rfl,b⟩
def KV.length{vs:List .n1}(r:KV a vs):a.length=vs.length:=Paired.length r
end
def Br(r:cf (kV k) u):(.g3).is k u=true:=by
 cases k with
 |inl i=>obtain⟨t,e⟩:=(show ∃t,u=Value.int i t from r);subst e;exact A0 P w i t
 |inr x=>obtain⟨t,e⟩:=(show ∃t,u=Value.str x t from r);subst e;exact A1 P w x t
theorem xW:∀{a:List Key} {b:List S1},aY (a.map kV) b->ItemsAre .g3 a b
 |[],_,r=>by rw[V0]at r;cases r;exact .nil
 |k::a,_,r=>by
  rw[yP]at r;cases r with
  |cons h t=>exact .cons (Br h) (xW t)
noncomputable abbrev KT(H:Hp):List .tZ->List .mt->Prop:=Paired λp q=>p.1=q.1/\H q.2.1=some (.tup<|p.1.map kV)/\cf p.2 q.2.2
variable{H:Hp}
def KT.val{xs:List .mt}(r:KT H a xs)(k:List Key):w6 (iT a k) ((atKey xs k).map (·.2)):=by
 induction r with
 |nil=>exact True.intro
 |@cons p q j d h t i =>
  obtain⟨f,_,g⟩:=h
  by_cases e:p.1=k
  ·have c:q.1=k:=f.symm.trans e
   have b:atKey (q::d) k=some q.2:=by simp[atKey,UH,c]
   rw[vC e,b];exact g
  ·have c:¬q.1=k:=λz=>e (f.trans z)
   have b:atKey (q::d) k=atKey d k:=by simp[atKey,UH,c]
   rw[nF e,b];exact i
def KT.repl(r:KT H a xs)(k:List Key)(g:cf y u):
  KT H (a.map λc=>if c.1=k then (c.1,y) else c) (xs.map<|putAt k u):=by
 induction r with
 |nil=>exact .nil
 |@cons p q l j h t i =>
  rw[yP,yP];refine .cons ?_ i;obtain⟨b,d,f⟩:=h;unfold putAt
  by_cases e:p.1=k
  ·rw[z4 e,z4 (b.symm.trans e)];exact⟨b,d,g⟩
  ·rw[yD e,yD (λz=>e (b.trans z))];exact⟨b,d,f⟩
def KT.put(r:KT H a xs)(k:List Key)(hb:H b=some .ky)(c:cf y u):
  KT H (kU a k y) (storedH xs k b u):=by
 have e:(a.any λd=>decide (d.1=k))=(atKey xs k).isSome:=by
  rw[Bq,(r.val k).isSome_eq,Option.isSome_map]
 unfold kU storedH;rw[e]
 by_cases q:(atKey xs k).isSome=true
 ·rw[z4 q,z4 q];exact r.repl k c
 ·rw[yD q,yD q];exact Paired.snoc r ⟨rfl,hb,c⟩
def KT.keeps(r:KT H a xs)(ht:∀b ys,H b=some .iY->c b=some .iY):KT c a xs :=
 Paired.mapP r λ_ _ z=>⟨z.1,ht _ _ z.2.1,z.2.2⟩
variable{b:.dY}
section
variable{P:P2}{w:N3}{H:Hp}{h:Heap}{a:Addr}
def Ov(ok:.cw)(e:Rd H a u):.lQ u:=e.ok ok
def xX(ok:.cw)(e:Rd H a .f7):b.length<=sizeLine/\.fF=false/\∃vs,KV b vs/\h.DictOf .g3 a vs :=
 show fO P w H h a .f7 from Ov ok e
def Jc(ok:.cw)(e:H a=some .f7):b.length<=sizeLine/\.fF=false/\∃vs,KV b vs/\h.DictOf .g3 a vs:=xX ok (.inl e)
def vD(ok:.cw)(e:H a=some (.tup<|c.map kV)):(.kl).is h c a:=by
 obtain⟨_,b,r,o,g,d,n,f⟩:=(show fO P w H h a (.tup<|c.map kV) from ok a _ e);exact⟨o,b.toArray,n,g,d,f,by simpa using xW r⟩
def xY{b:.gh}(ok:.cw)(e:Rd H a (.dT b)):b.length<=sizeLine/\.fF=false/\
  ∃xs,KT H b xs/\h.DictOfH .kl a xs:=by
 obtain⟨z,y,xs,r,o,u,k,g,n,s,j,i⟩:=(show fO P w H h a (.dT b) from Ov ok e);refine⟨z,y,xs,r,o,u,k,g,n,s,j,λx c=>?_,i⟩;have d:∀{l:.gh} {m:List .mt},KT H l m->∀x∈m,(.kl).is h x.1 x.2.1:=by
  intro l m q
  induction q with
  |nil=>intro x c;exact nomatch c
  |@cons p q B A f t v =>
   intro x c;rcases y4.mp c with e|c
   ·subst e
    exact vD ok (by rw[<-f.1];exact f.2.1)
   ·exact v x c
 exact d r x c
def RX{b:.gh}(ok:.cw)(e:H a=some (.dT b)):b.length<=sizeLine/\.fF=false/\
  ∃xs,KT H b xs/\h.DictOfH .kl a xs:=xY ok (.inl e)
end
/---/def qm(H:Hp)(a:Addr)(y:V)(r:Option V):Prop :=
 (∃kvs k,Rd H a .k3/\y=kV k/\r=iT kvs k)\/∃kvs k b,Rd H a .jt/\y=.ref b/\H b=some .ky/\r=iT kvs k
/---/def Bs(H:Hp)(a:Addr)(y v:V)(H':Hp):Prop :=
 (∃kvs k,H a=some .k3/\y=kV k/\kvs.length<sizeLine/\H'=.az a (.dK .nA))\/
 ∃kvs k b,H a=some .jt/\y=.ref b/\H b=some .ky/\kvs.length<sizeLine/\H'=.az a (.dT .nA)
def qm.k{k:Key}(e:H a=some .f7):qm H a (kV k) (iT b k):=.inl ⟨b,k,.inl e,rfl,rfl⟩
def qm.t{a b:Addr}{k:List Key}(e:H a=some (.dT c))(d:H b=some .ky):qm H a .fT (iT c k):=.inr ⟨c,k,b,.inl e,rfl,d,rfl⟩
def Bs.k{k:Key}{v:V}(e:H a=some .f7)(c:b.length<sizeLine):Bs H a (kV k) v (.az a<|.dK<|kU b k v):=.inl ⟨b,k,e,rfl,c,rfl⟩
def Bs.t{a b:Addr}{k:List Key}{v:V}(e:H a=some (.dT c))(d:H b=some .ky)(f:c.length<sizeLine):
  Bs H a .fT v (.az a<|.dT<|kU c k v):=.inr ⟨c,k,b,e,rfl,d,f,rfl⟩
section
variable{X:Cx}{pins:.J}{σ:St}{H:Hp}{s:Q5}{a:Addr}{y v:V}{u r:S1}{o:Option V}{A:P1}{E:.q}
def Inv.big(I:.s):sysModules<s.heap.objs.size:=by
 have h:mainGlobals<s.heap.objs.size:=(I.mod.glob.keeps I.bk).lt;exact YC .c h
def GI(D:.ls)(I:.s)(g:qm H a y .ek)(t:cf y u)(h:∀f q,Inv X pins σ H q->cf v f->Q f q):
  wpAny .ag A (getItem .dg u) Q E s:=by
 rcases g with ⟨kvs,k,e,m,l⟩|⟨kvs,k,b,e,m,w,l⟩
 ·subst m
  obtain⟨z,x,C,d,j⟩:=xX I.hok e;obtain⟨f,n,c⟩:=w6.some_of (v:=v) (o:=valueAt C k) .y2;exact wpAny_getItem_of (Br t) j.mapOf n (h f _ .hp c)
 ·subst m
  cases (show u=Value.ref b from t);obtain⟨z,x,F,d,j⟩:=xY I.hok e;obtain⟨f,n,c⟩:=w6.some_of (v:=v) (o:=(atKey F k).map (·.2)) .y2;obtain⟨p,B,i⟩:=XA.mp n;refine wpAny_getItem_heap (zo D) (vD I.hok w) j B ?_;rw[i];exact h f _ .hp c
def TK(p:.ls)(I:.s)(g:qm H a y o)(m:cf y u)(h:∀j,Inv X pins σ H j->Q (.bool o.isSome) j):
  wpAny .ag A (compareOp .In u .dg) Q E s:=by
 rcases g with ⟨kvs,k,e,i,l⟩|⟨kvs,k,b,e,i,n,l⟩
 ·subst i
  obtain⟨z,d,t,c,f⟩:=xX I.hok e;refine wpAny_in_of (Br m) d f.mapOf ?_;rw[<-(c.val k).isSome_eq,<-l];exact h _ .hp
 ·subst i
  cases (show u=Value.ref b from m);obtain⟨z,d,w,c,f⟩:=xY I.hok e;refine wpAny_in_heap (zo p) (vD I.hok n) d f ?_;have q:=(c.val k).isSome_eq;rw[Option.isSome_map]at q;rw[<-q,<-l];exact h _ .hp
def MM(p:.ls)(I:.s)(g:qm H a y o)(m:cf y u)(h:∀j,Inv X pins σ H j->Q (.bool (!o.isSome)) j):
  wpAny .ag A (compareOp .NotIn u .dg) Q E s:=by
 rcases g with ⟨kvs,k,e,i,l⟩|⟨kvs,k,b,e,i,n,l⟩
 ·subst i
  obtain⟨z,d,t,c,f⟩:=xX I.hok e;refine wpAny_notIn_of (Br m) d f.mapOf ?_;rw[<-(c.val k).isSome_eq,<-l];exact h _ .hp
 ·subst i
  cases (show u=Value.ref b from m);obtain⟨z,d,w,c,f⟩:=xY I.hok e;refine wpAny_notIn_heap (zo p) (vD I.hok n) d f ?_;have q:=(c.val k).isSome_eq;rw[Option.isSome_map]at q;rw[<-q,<-l];exact h _ .hp
def Fg(I:.s)(f:Mut (H a))(d:Heap.SameBut a s.heap h')(he:∃q,h'.get? a=some q)(new:fO X.prog X.w (.az a c) h' a c):
  Inv X pins σ (.az a c) .fp :=
 I.write (x:=a) (e:=a) f .ca (λb q g z=>(d.2 b g).trans z) he new
def PR(z:b.length<=sizeLine)(hd:.fF=false)(rel:KV b vs)(d:h'.DictOf .g3 a vs):
  fO P w c h' a .f7:=⟨z,hd,vs,rel,d⟩
def GJ(L:.ls)(I:.s)(g:Bs H a y v G)(F:cf y u)(rv:cf v r)(h:∀D,Inv X pins σ G D->Q () D):
  wpAny .ag A (setItem .dg u r) Q E s:=by
 rcases g with ⟨kvs,k,e,m,l,eH⟩|⟨kvs,k,b,e,m,x,l,eH⟩
 ·subst m eH
  obtain⟨z,p,R,d,t⟩:=Jc I.hok e;have j:R.length<=sizeLine:=by rw[<-d.length];exact z
  have w:(.nA).length<=sizeLine:=by have:=tK kvs k v;lia
  refine wpAny_setItem_pairs (hsz:=j) (Br F) t λC f n=>h _ ?_;have N:∃q,C.get? a=some q:=let ⟨q,_,_,i,_⟩:=f;⟨q,i⟩;exact Fg I .x8 n N (PR w p (d.put k rv) f)
 ·subst m eH
  cases (show u=Value.ref b from F);obtain⟨z,p,T,d,t⟩:=RX I.hok e;have j:T.length<=sizeLine:=by rw[<-Paired.length d];exact z
  have w:(.nA).length<=sizeLine:=by have:=tK kvs k v;lia
  refine wpAny_setItem_heap (hsz:=j) (zo L) (vD I.hok x) t λC f n=>h _ ?_;obtain⟨q,S,M,i,O,P,K,_,J⟩:=f;refine Fg I .x8 n ⟨q,i⟩ ⟨w,p,_,(d.put k x rv).keeps λc U B=>?_,q,S,M,i,O,P,K,J⟩;rw[aJ (Rh B e (λz=>nomatch z))];exact B
end
section
variable{X:Cx}{pins:.J}{σ:St}{H:Hp}{s:Q5}{a:Addr}{kvs:.dY}{k:Key}{u:S1}{A:P1}{E:.q}
end
/---/def PU(i:Expr):Prop:=∀ov iv,subscripted i false ov iv=operate [ov,iv] (getItem ov iv)
def MN{b a:Expr}{pos:Pos}{T id:String}{Q:.q}
  (m:typeLookup .i5 "__getitem__"=pure (some .eT)) (l:PU a)
  (h:.bI (eval b env) (λo f=>.bI (.bL env) (λi c=>c.TypeIs o T/\.bI (getItem o i) Q E c) E f) E s) :
  wpAny .aj A (eval (.dZ b a) env) Q E s:=by
 refine Subscript_ (UE h (λo f g=>UE g (λi c d=>?_) λ_ _ x=>x) λ_ _ x=>x);obtain⟨k,d⟩:=d;unfold subscriptTail;refine z0 ?_;rw[getitemInPython_of_ne k.not_modules];refine z0 (wpAny_specialOf k m ?_);have fin:wpAny .aj A (subscripted a false o i) (λr e=>.bI (letTemporaryGo b o r >>= λ_=>pure r) Q E e) E c := by
  rw[l o i];exact wpAny_operating (UE d (λr e j=>z0 (wpAny_letTemporaryGo<|wX j)) λ_ _ x=>x)
 first
  |exact wX (z0 fin)
  |exact z0 (wX (z0 fin))
  |exact z0 fin
def Bt{σ:St}{s:Q5}{a:Addr}{y:V}{o:Option V}(I:.s)(g:qm H a y o):s.TypeIs .dg "dict" := by
 rcases g with ⟨kvs,k,e,_,_⟩|⟨kvs,k,b,e,_,_,_⟩
 ·obtain⟨_,_,d,_,c⟩:=xX I.hok e
  exact c.typeIs
 ·obtain⟨_,_,f,_,c⟩:=xY I.hok e
  exact c.typeIs
/---/def RY(td ty:TE):TE:=λσ H Q=>td σ H λx H1=>ty σ H1 λy H2=>∃a v,x=.ref a/\qm H2 a y .ek/\Q v H2
section
variable{X:Cx}{o i e value:Expr}{pos pos' tpos:Pos}{td ty tv:TE}
def MP(f:.hz)(n:.w o td)(hi:.w i ty)(l:PU i):.w (.dZ o i) (RY td ty):=by
 intro pins s σ H Q I h;refine MN PySem.F.slot_dict_getitem.lookup l (thn (n pins s σ H _ I h) λu r ⟨x,p,q,k,q1⟩=>thn (hi pins r σ p _ q q1) λw z zz=>?_);obtain⟨y,t,c,m,a,v,d,g,q2⟩:=zz;subst d;obtain rfl:u=Value.ref a:=k;exact⟨Bt c g,GI f c g m λB A j b=>⟨v,t,j,b,q2⟩⟩
end
def Jd(h:Heap)(hb:sysModules<h.objs.size):fO P w H .vU h.objs.size (.dK []) :=
 ⟨YZ _,beq_eq_false_iff_ne.mpr (WQ<|ZN hb),[],.nil,Heap.DictOf.new h⟩
def Je(h:Heap)(hb:sysModules<h.objs.size):fO P w H .vU h.objs.size (.dT []) :=
 ⟨YZ _,beq_eq_false_iff_ne.mpr (WQ<|ZN hb),[],.nil,_,#[],0,ZJ _ rfl,⟨rfl,rfl,rfl⟩,rfl,rfl,List.nodup_nil⟩
/---/def PV:TE:=λ_ H Q=>∀p,H p=none->.dv (.bx<|.dK [])
/---/def PX:TE:=λ_ H Q=>∀p,H p=none->.dv (.bx<|.dT [])
section
variable{X:Cx}{pos:Pos}
def Jf:.w .oU PV:=λpins s σ H Q I h =>
 wpAny_Dict_empty ⟨.ref s.heap.objs.size,_,I.laid (a:=s.heap.objs.size) (o:=.dK []) (t':=s.toks) .rO .r (Jd s.heap I.big),rfl,h _ .gX⟩
def Jg:.w .oU PX:=λpins s σ H Q I h =>
 wpAny_Dict_empty ⟨.ref s.heap.objs.size,_,I.laid (a:=s.heap.objs.size) (o:=.dT []) (t':=s.toks) .rO .r (Je s.heap I.big),rfl,h _ .gX⟩
end
structure M1(X:Cx)(o:Expr)(m:Str)(apos:Pos)(e:Expr)(cpos:Pos):Prop where
 base:.gv m X.env .db=eval o X.env
 few:((.hU .km).all .iJ && (.rd).all .ix
  && decide .lU)=true
 line:.qA=true
 trees:.hU .km=[(false,.cH X.env)]
structure M2(X:Cx)(o:Expr)(m:Str)(apos:Pos)(e f:Expr)(cpos:Pos):Prop where
 base:.gv m X.env .db=eval o X.env
 few:((.hU .zA).all .iJ && (.rd).all .ix
  && decide (([e,f]:List Expr).length+([]:List Keyword).length+.pg<30))=true
 line:.qA=true
 trees:.hU .zA=[(false,.cH X.env),(false,eval f X.env)]
/---/def IsD(H:Hp)(a:Addr):Prop:=(∃kvs,Rd H a .k3)\/∃kvs,Rd H a .jt
def PY{σ:St}{s:Q5}{a:Addr}(I:.s)(d:IsD H a):
  s.TypeIs .dg "dict"/\(∀b,Value.ref a=.ref b->∃c,s.heap.get? b=some c/\c.dict=none)/\.fF=false:=by
 rcases d with ⟨kvs,e⟩|⟨kvs,e⟩
 ·obtain⟨_,g,j,_,f⟩:=xX I.hok e
  refine⟨f.typeIs,λb q=>?_,g⟩;cases q;obtain⟨c,_,_,i,h,_⟩:=f;exact⟨c,i,h.2.1⟩
 ·obtain⟨_,g,k,_,f⟩:=xY I.hok e
  refine⟨f.typeIs,λb q=>?_,g⟩;cases q;obtain⟨c,_,_,i,h,_⟩:=f;exact⟨c,i,h.2.1⟩
section
variable{X:Cx}{pins:.J}{σ:St}{H:Hp}{s:Q5}{a:Addr}{y d:V}{u r:S1}{o:Option V}{A:P1}{E:.q}
end
section
variable{X:Cx}{o e f:Expr}{apos cpos:Pos}{td ty tx:TE}
end
section
variable{X:Cx}{pins:.J}{σ:St}{H:Hp}{s:Q5}{a:Addr}{kvs:.dY}{A:P1}{E:.q}
end
section
variable{X:Cx}{pins:.J}{σ:St}{H:Hp}{s:Q5}{a:Addr}{y:V}{u:S1}{A:P1}{E:.q}
end
end L2
namespace Fm
open PySem PySem.Spec L2 PySem.W PyProof.Rows
section
variable{prog:P2}{w:N3}{A:P1}{E:.q}{s:Q5}
def vE(f:.tc)(h2:vs.length<2)
  (h:P .rh { s with heap:=sortedHeap s.heap a vs vs.toArray }):.bI .wi P E s:=by
 rw[list_sort_plain];have k:a<s.heap.objs.size:=ZI f;refine z0 (listItems_at f rfl ?_);refine z0 (V6 f rfl ?_);obtain⟨j,b⟩:∃j,(.h6).get? a=some .im:=⟨_,XU f .hj⟩;refine z0 (vn b rfl ?_);refine z0 (wpAny_newTuple ?_);refine z0 (V7 ?_);refine WE ?_;have c:(.su).get? a=some .im:=by
  rw[.aK (by rw[WU,YM];exact ZN (Z2 k)),.aK (by rw[YM];exact ZN k)];exact b
 dsimp only;have g:vs.toArray.size=vs.length:=by simp
 have d:vs.toArray.size<2:=by rw[g];exact h2
 rw[z4 d,z4 d];refine z0 .aZ;rw[StateT.run_pure];refine z0 .aZ;dsimp only;refine z0 (vn c rfl ?_);refine z0 (V6 c rfl ?_ (hsz2:=by rw[Array.size_map];show (.ny).size<=_;rw[pairsOf_size,YQ];lia));dsimp[bne_self_eq_false,Y4,WN];have e:(arrOf<|SortSt.mk' general' .x0 #[] 7 none).map (·.2)=vs.toArray:=by
  show (.x0).map (·.2)=vs.toArray;apply Array.ext
  ·simp
  ·intro i m h2
   simp
 refine wX ?_;have l:=h;unfold sortedHeap at l;rw[e];exact l
def zr{vs:List S1}(p:s.heap.IsList l vs.toArray)(h2:vs.length<2)
  (h:∀h' n,(∀b o,s.heap.get? b=some o->h'.get? b=some o)->h'.get? .b1=some .uk->Q (.ref .b1) .ci) :
  wpAny .aj A (call .ih [.ref l]) Q E s:=by
 refine VU kind_sorted plain_sorted entry_sorted .nd ?_;unfold Builtin.«sorted»;refine z0 .aZ;refine z0 (collect_list p ?_ .vp);refine z0 .o3;have c:((.m6).update s.heap.objs.size .oQ).objs.size=s.heap.objs.size+1:=by
  rw[YM,WU]
 have d:(((.m6).update s.heap.objs.size .oQ).push .fq).get? .b1=some .fq:=by
  rw[<-c];exact ZJ _ rfl
 have keep:∀b o,s.heap.get? b=some o->(((.m6).update s.heap.objs.size .oQ).push .fq).get? b=some o:=λb o q=>by
  have a:b<s.heap.objs.size:=ZI q;rw[.aK (by rw[c];exact ZN (Z2 a)),.bX (ZN a),.aK (ZN a)];exact q
 rw[c];generalize hG:((.m6).update s.heap.objs.size .oQ).push .fq=G at d keep;have g:G.objs.size=s.heap.objs.size+2:=by rw[<-hG,WU,c]
 refine z0 (WE (WJ wd ⟨_,d,rfl⟩ U5 (vE d h2 ⟨_,rfl,?_⟩) .mZ));refine wX ⟨_,rfl,?_⟩;have e:s.heap.objs.size+1<G.objs.size:=by lia
 obtain⟨f,i⟩:∃f,(G.update .b1 .ey).get? .b1=some .z6:=⟨_,XU d .hj⟩;have j:(((G.update .b1 .ey).push .jN).push .c7).get? .b1=some .z6:=by
  rw[.aK (by rw[WU,YM];exact ZN (Z2 e)),.aK (by rw[YM];exact ZN e)];exact i
 refine h _ _ (λb o q=>?_) (XU j _);have a:b<s.heap.objs.size:=ZI q;unfold sortedHeap;have k:b≠s.heap.objs.size+1:=ZN (Z2 a);have m:b<G.objs.size:=by rw[g];exact Z2 (Z2 a)
 rw[.bX k,.aK (by rw[WU,YM];exact ZN (Z2 m)),.aK (by rw[YM];exact ZN m),.bX k];exact keep b o q
def PZ:∀(ns a:.b) {xs ys:List S1} (i:Nat),IntsAre xs ns->IntsAre ys a->Q (Fm.lexLt ns a) s->KatLex prog w A true (decide .z1) Q (xs.zip ys) i s:=by
 intro ns
 induction ns with
 |nil =>
  intro a xs ys i d c h;cases d;cases a with
  |nil=>cases c;exact h
  |cons m a =>
   cases c;have b:Q true s:=h;exact b
 |cons n ns k =>
  intro a xs ys i d c h;cases d with
  |cons _ t r =>
   cases a with
   |nil =>
    cases c;have b:Q false s:=h;exact b
   |cons m a =>
    cases c with
    |cons _ f j =>
     rename_i xs ys
     refine kat_cons (U8 n t m f prog w _ _ ?_)
     by_cases e:n=m
     ·subst e
      rw[show (n == n)=true by simp];refine kat_yes ?_;have b:Q (Fm.lexLt ns a) s:=by simpa[Fm.lexLt] using h
      have:=k a (i+1) r j b;have g:decide ((Value.int n t::xs).length<(Value.int n f::ys).length)=decide .z1:=by simp
      rw[g];exact this
     ·rw[show (n == m)=false by simpa using e]
      refine kat_no ?_;have b:Q (decide (n<m)) s:=by simpa[Fm.lexLt,e] using h
      cases i with
      |zero=>exact oneLt_int b
      |succ i =>
       have:(true&&(i+1 == 0))=false:=by simp
       rw[this];exact kat_one _ _ (lt_int (by first|exact⟨_,rfl,b⟩|exact b))
end
def P0{h:Heap}(x:h.Ns a m)(y:h.Ns a c):m=c:=by
 obtain⟨o,k,j,e,d,_,r⟩:=x;obtain⟨l,g,i,b,hd',_,f⟩:=y;rw[e]at b;cases b;rw[d]at hd';cases hd';funext z;rw[<-r z,<-f z]
inductive ef(H:Hp):List V->List .aC->Prop
 |nil:ef H [] []
 |cons {a:Addr} {r:.b} {vs:List V} {rs:.aY}:H a=some (.tup .nt)->ef H vs rs->ef H (.ref a::vs) (r::rs)
theorem ef.get:∀{vs:List V} {rs:.aY} {i:Nat} {v:V},ef H vs rs->vs[i]?=some v->∃a,v=.ref a/\H a=some (.tup<|(.nm).map V.int)
 |_,_,_,_,.nil,e=>by simp at e
 |_,_,0,_,.cons h t,e=>by simp at e;subst e;exact⟨_,rfl,h⟩
 |_,_,i+1,v,.cons h t,e=>by
  obtain⟨a,h1,h2⟩:=ef.get t .dB;exact⟨a,h1,by simpa using h2⟩
theorem ef.length:∀{vs:List V} {rs:.aY},ef H vs rs->vs.length=rs.length
 |_,_,.nil=>rfl
 |_,_,.cons _ t=>by simp[ef.length t]
section
variable{X:Cx}{pos p:Pos}
def Fh(r:cf .z u):∃t,u=.int i t:=r
end
end Fm
namespace Fm
open PySem PySem.Spec L2
section
variable{X:Cx}
def mv(i:Nat){pos:Pos}(b:autoParam (X.N[i]?=some x) Q3Q._auto_1)(c:Vis X.env.scope x:=by first|exact Or.inl rfl|exact Or.inr (Or.inl rfl)|exact Or.inr (Or.inr rfl))(hd:autoParam (.bY=false) Q1Q._auto_1)
  (a:autoParam (.qi=false) Q1Q._auto_1):.l .fa (aa i):=Py b c hd a
end
def RZ(r:jz k A):A.units+24<cLine:=by have:=r.un;lia
noncomputable def iH(X:Cx):List .iC->Prop
 |[]=>True
 |y::r=>(y.2=.free->X.env.kindOf y.1=some .cell\/X.env.kindOf y.1=some .free)/\iH X r
noncomputable def bF(X:Cx)(scope:Scope):List Str->List Nat->Prop
 |[],[]=>True
 |x::xs,i::is=>(X.N[i]?=some x/\scope.names.lookup x=some .free)/\.jI xs is
 |_,_=>False
theorem iH.get:∀{l:List .iC},iH X l->∀y∈l,y.2=.free->X.env.kindOf y.1=some .cell\/X.env.kindOf y.1=some .free
 |[],_,y,hy=>by simp at hy
 |z::r,h,y,hy=>by
  rcases y4.mp hy with rfl|hy
  ·exact h.1
  ·exact iH.get h.2 y hy
theorem bF.get:∀{capn:.af} {caps:.i},bF X scope capn caps->(∀(j:Nat) x,capn[j]?=some x->∃i,caps[j]?=some i/\X.N[i]?=some x/\scope.names.lookup x=some .free)/\capn.length=caps.length
 |[],[],_=>⟨λj x e=>by simp at e,rfl⟩
 |x::xs,i::a,h=>by
  obtain⟨h1,h2⟩:=bF.get h.2;refine⟨λj y e=>?_,by simp[h2]⟩;cases j with
  |zero=>simp at e;subst e;exact⟨i,rfl,h.1⟩
  |succ j=>exact h1 j y .dB
 |[],_::_,h=>h.elim
 |_::_,[],h=>h.elim
def iH.nil:iH X []:=trivial
def iH.cons(h:y.2=.free->X.env.kindOf y.1=some .cell\/X.env.kindOf y.1=some .free)(t:iH X r):iH X (y::r):=⟨h,t⟩
def bF.nil:.jI [] []:=trivial
def bF.cons(h1:.dV)(h2:scope.names.lookup x=some .free)(t:.jI xs a):.jI .cR (i::a):=⟨⟨h1,h2⟩,t⟩
def bL.mk'(k:scope.kind=.function)(c:∀y∈scope.names,y.2 ≠ .cell)(n:∀y∈scope.names,y.2=.local->scope.names.lookup y.1=some .local)(f:iH X scope.names)(cp:.jI capn caps):bL X scope own capn caps :=
 ⟨k,c,n,f.get,cp.get.1,cp.get.2⟩
section
variable{K:ZX}{ρ:.I}{H:Hp}
def Bu(h:.cS)(f:gL d=true):o0 v=true:=by
 cases d<;>dsimp[RD]at h<;>first|(subst h;rfl)|(simp[gL]at f)
def eqS:(x == y)=.r6:=by
 by_cases z:x=y
 ·subst z;rw[beq_self_eq_true,beq_self_eq_true]
 ·have:¬toS x=toS y:=λq=>z .pw
  rw[beq_eq_false_iff_ne.mpr z,beq_eq_false_iff_ne.mpr this]
def MR(h:.cS)(g:.bJ k w)(f:gL d=true)(b:gL k=true):eqF d k=eqV v w:=by
 cases d with
 |non=>dsimp[RD]at h;subst h;cases k<;>dsimp[RD]at g<;>first|(subst g;rfl)|(simp[gL]at b)
 |bl a=>dsimp[RD]at h;subst h;cases k<;>dsimp[RD]at g<;>first|(subst g;rfl)|(simp[gL]at b)
 |int a=>dsimp[RD]at h;subst h;cases k<;>dsimp[RD]at g<;>first|(subst g;rfl)|(simp[gL]at b)
 |str a=>dsimp[RD]at h;subst h;cases k<;>dsimp[RD]at g<;>first|(subst g;rfl)|(subst g;exact eqS)|(simp[gL]at b)
 |tup l=>simp[gL]at f
 |ref n=>simp[gL]at f
 |lit l=>simp[gL]at f
 |exn c l=>simp[gL]at f
theorem xZ:∀{l:List D} {vs:List V},RDs K ρ H l vs->l.all gL=true->vs.all o0=true
 |[],_,h,_=>by dsimp[RDs]at h;subst h;rfl
 |d::l,_,h,f=>by
  dsimp[RDs]at h;obtain⟨v,r,rfl,h1,h2⟩:=h;dsimp[XW,YB]at f⊢;exact⟨Bu h1 f.1,xZ h2 f.2⟩
theorem Fk(g:.bJ k w)(a:gL k=true):∀{l:List D} {vs:List V},RDs K ρ H l vs->l.all gL=true->(l.any λz=>eqF z k)=vs.any λz=>eqV z w
 |[],_,h,_=>by dsimp[RDs]at h;subst h;rfl
 |d::l,_,h,f=>by
  dsimp[RDs]at h;obtain⟨v,r,rfl,h1,h2⟩:=h;dsimp[XW,YB]at f;rw[V5,V5,MR h1 g f.1 a,Fk g a h2 f.2]
end
section
variable{X:Cx}{pos:Pos}
def MU{K:ZX}(rs:.jh)(rv:.cS)(h:.bJ k w)(e:inL hd d k=some b)
  (q:Q (.bl<|if a then !b else b) H):rIn K a v w H Q:=by
 dsimp[inL]at e;cases c:jV hd k with
 |none=>rw[c]at e;cases e
 |some l =>
  rw[c]at e;simp only at e;split at e
  ·rename_i f
   cases e;rw[YB]at f;obtain⟨p,i,rfl,j,g⟩:=zh rs.hp h c;refine⟨p,i,rfl,j.imp id SqT.of,Bu rv f.1,xZ g f.2,?_⟩;unfold inV;rw[<-Fk rv f.1 g f.2];exact q
  ·cases e
def Jh{K:ZX}:Og K oIn (rIn K false):=by
 intro ρ H σd f σ d k v w Q c rv a p;unfold oIn at p;cases e:inL f d k with
 |none=>rw[e]at p;exact p.elim
 |some b=>rw[e]at p;exact MU c rv a e (p.here c .yN)
def j5:ME X (.UnaryOp .USub (.Constant .z j b) pos) (fC<|.int (-i)) :=
 PE.imp (Rw Pj Io) λσ H Q ⟨ρ,σd,c,a,p⟩=>⟨i,rfl,p.here a .aU⟩
end
def lc(h:p\/q:=by first|exact .inl rfl|exact .inr rfl):p\/q:=h
def bL.a{own capn:.af}(cp:.jI capn caps)(k:autoParam (scope.kind=.function) Q3Q._auto_1)(c:autoParam (∀y∈scope.names,y.2 ≠ .cell) Q4Q._auto_1)(n:autoParam (∀y∈scope.names,y.2=.local->scope.names.lookup y.1=some .local) Q4Q._auto_1)
  (f:iH X scope.names:=by repeat' (first|exact iH.nil|refine iH.cons (by first|exact(λ_=>.inl rfl)|exact(λ_=>.inr rfl)|(intro z;cases z;done)) ?_)):bL X scope own capn caps:=bL.mk' k c n f cp
section
variable{X:Cx}{pos p:Pos}
def ag(hd:Def X.prog X.w X.K X.mg X.base x k f F)(g:jz j X.A)(ha:MA X (e::a) r)(hj:autoParam (k<=j) Q1Q._auto_1)(i:autoParam (Gl X x) Q3Q._auto_1)(c:∀ds h d h',F ds h=.ok d h'->ds.length=f:=by exact zk)
  (b:autoParam (.bY=false) Q1Q._auto_1) (he:autoParam (starEach (e::a) X.env=(false,.cH X.env)::starEach a X.env) Q3Q._auto_1) (hpl:autoParam ((backTo pos<|starEach a X.env).any (·.1)=false) Q3Q._auto_1) :
  ME X (.hS (e::a)) (af F r):=uC hd (g.mono hj) i ha c b he hpl
end
/---/def At(K:ZX)(n:Str)(st:Stmt):Prop:=∃(f:Addr) (od an:.cv) (sl:.hH) (oc kV dc pm cd ct:S1),.d6 n=some .nL/\K.lookup f=some ⟨oc,od,.func (.gu kV dc pm an cd ct),sl⟩/\.lK cd n=true/\.jB .aE=true
/---/def Nb(K:ZX)(n:Str):Prop:=.d6 n=some none
structure En(P:P2)(w:N3)(K:ZX)(mg:.aI)(base:Heap):Prop where
 ex:∃h:Heap,K.In h/\h.Ns mainGlobals mg
section
variable{P:P2}{w:N3}{K:ZX}{mg:.aI}{base h:Heap}{n:Str}{st:Stmt}{ps:.af}{k np:Nat}{F:Fn}
def At.i{c:.hH}{b kV dc pm a ct:S1}(h1:.d6 n=some .nL)(h2:K.lookup f=some ⟨b,d,.func (.gu kV dc pm e a ct),c⟩)(g:.lK a n=true)(i:.tb):.n n st:=⟨f,d,e,c,b,kV,dc,pm,a,ct,h1,h2,g,i⟩
def At.out(a:.hL)(X:K.In h)(G:h.Ns mainGlobals mg):∃f e,mg n=some .aE/\.jB .aE=true/\Fun K n n st f e:=by
 obtain⟨f,p,r,m,l,kV,o,i,j,q,g,c,d,b⟩:=a;exact⟨f,_,V8 X G g,b,IN c d b⟩
def At.df(a:.hL)(q:.jj)(ok:∀{f c},Fun K n n st f c->kP P w K mg base CX0 k f c ps .fL)
  (hb:∀(kV d pm:S1) (i:.cv) (b ct:S1) (e:List S1),e.length=ps.length->bindArgs (.gu kV d pm i b ct) ⟨e,[]⟩=pure (ps.zip e)):.X n k np F:=by
 obtain⟨h,X,G⟩:=q.ex;obtain⟨f,c,j,g,U⟩:=a.out X G;exact Def.mk' j g (U.binds hb) (ok U)
def jF{α:Type}{l:List α}{n:Nat}(h:l.length=n+1):∃a t,l=a::t/\t.length=n:=by
 cases l with
 |nil=>cases h
 |cons a t=>exact⟨a,t,rfl,Nat.succ.inj h⟩
def Bv{α:Type}{l:List α}(h:l.length=0):l=[]:=WX.mp h
def At.df1(a:.hL)(q:.jj)(ok:∀{f e},Fun K n n st f e->kP P w K mg base CX0 k f e ps .fL)(i:autoParam (ps.length=1) Q3Q._auto_1)
  (hb:autoParam (∀(kV c pm:S1) (d:.cv) (b ct a:S1),bindArgs (.gu kV c pm d b ct) ⟨[a],[]⟩=pure (ps.zip [a])) Q5Q._auto_1):Def P w K mg base n k np F :=
 a.df q ok λkV c pm d b ct l h=>by obtain⟨a,j,rfl,g⟩:=jF (h.trans i);cases Bv g;exact hb kV c pm d b ct a
def At.df2(a:.hL)(q:.jj)(ok:∀{f g},Fun K n n st f g->kP P w K mg base CX0 k f g ps .fL)(l:autoParam (ps.length=2) Q3Q._auto_1)
  (hb:autoParam (∀(kV d pm:S1) (e:.cv) (c ct a b:S1),bindArgs (.gu kV d pm e c ct) ⟨[a,b],[]⟩=pure (ps.zip [a,b])) Q5Q._auto_1):Def P w K mg base n k np F :=
 a.df q ok λkV d pm e c ct p h=>by obtain⟨a,m,rfl,j⟩:=jF (h.trans l);obtain⟨b,o,rfl,i⟩:=jF (j);cases Bv i;exact hb kV d pm e c ct a b
def At.df3(a:.hL)(q:.jj)(ok:∀{f i},Fun K n n st f i->kP P w K mg base CX0 k f i ps .fL)(o:autoParam (ps.length=3) Q3Q._auto_1)
  (hb:autoParam (∀(kV e pm:S1) (g:.cv) (d ct a b c:S1),bindArgs (.gu kV e pm g d ct) ⟨[a,b,c],[]⟩=pure (ps.zip [a,b,c])) Q5Q._auto_1):Def P w K mg base n k np F :=
 a.df q ok λkV e pm g d ct r h=>by obtain⟨a,t,rfl,l⟩:=jF (h.trans o);obtain⟨b,p,rfl,m⟩:=jF (l);obtain⟨c,s,rfl,j⟩:=jF (m);cases Bv j;exact hb kV e pm g d ct a b c
def At.df4(a:.hL)(q:.jj)(ok:∀{f j},Fun K n n st f j->kP P w K mg base CX0 k f j ps .fL)(r:autoParam (ps.length=4) Q3Q._auto_1)
  (hb:autoParam (∀(kV g pm:S1) (i:.cv) (e ct a b c d:S1),bindArgs (.gu kV g pm i e ct) ⟨[a,b,c,d],[]⟩=pure (ps.zip [a,b,c,d])) Q5Q._auto_1):Def P w K mg base n k np F :=
 a.df q ok λkV g pm i e ct t h=>by obtain⟨a,x,rfl,m⟩:=jF (h.trans r);obtain⟨b,s,rfl,o⟩:=jF (m);obtain⟨c,v,rfl,l⟩:=jF (o);obtain⟨d,u,rfl,p⟩:=jF (l);cases Bv p;exact hb kV g pm i e ct a b c d
def At.df5(a:.hL)(q:.jj)(ok:∀{f l},Fun K n n st f l->kP P w K mg base CX0 k f l ps .fL)(t:autoParam (ps.length=5) Q3Q._auto_1)
  (hb:autoParam (∀(kV i pm:S1) (j:.cv) (g ct a b c d e:S1),bindArgs (.gu kV i pm j g ct) ⟨[a,b,c,d,e],[]⟩=pure (ps.zip [a,b,c,d,e])) Q5Q._auto_1):Def P w K mg base n k np F :=
 a.df q ok λkV i pm j g ct x h=>by obtain⟨a,A,rfl,o⟩:=jF (h.trans t);obtain⟨b,v,rfl,r⟩:=jF (o);obtain⟨c,z,rfl,m⟩:=jF (r);obtain⟨d,y,rfl,s⟩:=jF (m);obtain⟨e,u,rfl,p⟩:=jF (s);cases Bv p;exact hb kV i pm j g ct a b c d e
def fsc{N P:.af}{a:Scope}(h1:autoParam (a.kind=.function) Q3Q._auto_1)(h2:autoParam (a.isCoroutine=false) Q3Q._auto_1)(c:autoParam (a.isGenerator=false) Q3Q._auto_1)(e:autoParam (N.Nodup) Q4Q._auto_1)(d:autoParam (N.take P.length=P) Q3Q._auto_1)(f:autoParam (∀x∈P,a.names.lookup x=some .local\/a.names.lookup x=some .cell) Q4Q._auto_1)(b:autoParam (∀y∈a.names,y.2 ≠ .free) Q4Q._auto_1):fZ N P a:=⟨h1,h2,c,e,d,f,b⟩
end
end Fm
namespace Fm
open PySem PySem.Spec L2 PySem.W PyProof.Rows
def P3(h:l<r):l<=(l+r)/2/\(l+r)/2<r:=by lia
variable{p:.gi}
section
variable{cmp:Nat->Nat->(Bool->Q5->Prop)->Q5->Prop}{n:Nat}{s:Q5}{lt:.oJ}
structure Ord(lt:.oJ)(n:Nat):Prop where
 asy:∀i j,i<n->j<n->lt i j=true->lt j i=false
 tr:∀i j k,i<n->j<n->k<n->lt i j=true->lt j k=true->lt i k=true
 tot:∀i j,i<n->j<n->i≠j->lt i j=false->lt j i=true
structure Gd(n:Nat)(p:.gi):Prop where
 sz:p.size=n
 pm:p.Perm .rJ
def Gd.below(g:Gd n p)(hi:i<n):p.getD i 0<n:=by
 have a:i<p.size:=by rw[g.sz];exact hi
 have e:p.getD i 0=p[i]:=by simp[Array.getD,a]
 rw[e];have m:p[i]∈p.toList:=by simp
 have:=(UO.mp g.pm).mem_iff.mp m;simpa using this
def Gd.ne(g:Gd n p)(hi:i<n)(hj:j<n)(h:i≠j):p.getD i 0≠p.getD j 0:=by
 have b:i<p.size:=by rw[g.sz];exact hi
 have a:j<p.size:=by rw[g.sz];exact hj
 have e:p.getD i 0=p[i]:=by simp[Array.getD,b]
 have c:p.getD j 0=p[j]:=by simp[Array.getD,a]
 rw[e,c];have d:p.toList.Nodup:=(UO.mp g.pm).nodup_iff.mpr (by simpa using List.nodup_range);intro z;have:=(List.getElem_inj d (h₀ := by simpa using b) (h₁ := by simpa using a)).mp (by simpa using z);exact h this
/---/def Srt(lt:.oJ)(p:.gi)(m:Nat):Prop:=∀i j,i<j->j<m->lt .iL (p.getD j 0)=true
/---/def Dsc(lt:.oJ)(p:.gi)(m:Nat):Prop:=∀i j,i<j->j<m->lt (p.getD j 0) .iL=true
def jG:Gd n .rJ:=⟨by simp,Array.Perm.refl _⟩
def Srt.next(O:Ord lt n)(g:Gd n p)(h:Srt lt p m)(h1:1<=m)(hm:m<n)(c:lt .kD .kW=true):Srt lt p (m+1):=by
 intro i j a d
 by_cases e:j<m
 ·exact h i j a e
 ·have:j=m:=by lia
  subst this
  by_cases b:i=j-1
  ·subst b;exact c
  ·exact O.tr _ _ _ .cl .cl (g.below hm) (h i (j-1) .a .a) c
def Dsc.next(O:Ord lt n)(g:Gd n p)(h:Dsc lt p m)(h1:1<=m)(hm:m<n)(c:lt .kW .kD=true):Dsc lt p (m+1):=by
 intro i j a d
 by_cases e:j<m
 ·exact h i j a e
 ·have:j=m:=by lia
  subst this
  by_cases b:i=j-1
  ·subst b;exact c
  ·exact O.tr _ _ _ (g.below hm) .cl .cl c (h i (j-1) .a .a)
variable(O:Ord lt n)(hc:∀i j,i<n->j<n->∀C:Bool->Q5->Prop,C (lt i j) s->cmp i j C s)
include O hc
theorem pG{p:.gi}(g:Gd n p){Q:Nat->Q5->Prop}(q:∀m,1<=m->m<=n->Srt lt p m->(m<n->lt .kW .kD=true)->Q m s):
  ∀(f m:Nat),1<=m->m+f=n->Srt lt p m->(kas_asc p f m).kasWp cmp Q s
 |0,m,h1,e,h=>q m h1 .a h λz=>by lia
 |f+1,m,h1,e,h=>by
  refine hc _ _ .cl .cl _ ?_;cases c:lt .kW .kD with
  |true=>((try dsimp only);(try rw[z4 rfl]));exact q m h1 .a h λ_=>c
  |false =>
   ((try dsimp only);(try rw[yD Z7]))
   have a:=O.tot _ _ .cl .cl (g.ne .a .a .a) c;exact pG g q f (m+1) .a .a (h.next O g h1 .a a)
theorem tL{p:.gi}(g:Gd n p){Q:Array Nat × Nat × Nat->Q5->Prop}(q:∀m,1<=m->m<=n->Dsc lt p m->Q (p,m,0) s):
  ∀(f m:Nat),1<=m->m+f=n->Dsc lt p m->(kas_desc f p m 0).kasWp cmp Q s
 |0,m,h1,e,h=>q m h1 .a h
 |f+1,m,h1,e,h=>by
  refine hc _ _ .cl .cl _ ?_;cases c:lt .kW .kD with
  |true =>
   ((try dsimp only);(try rw[z4 rfl]));(try rw[yD .a])
   exact tL g q f (m+1) .a .a (h.next O g h1 .a c)
  |false =>
   ((try dsimp only);(try rw[yD Z7]))
   have a:=O.tot _ _ .cl .cl (g.ne .a .a .a) c;refine hc _ _ .cl .cl _ ?_;rw[a];((try dsimp only);(try rw[z4 rfl]));exact q m h1 .a h
omit hc in
def P4(g:Gd n p)(hm:m<=n)(h:Dsc lt p m):Gd n .sj/\Srt lt .sj m:=by
 have a:∀k,k<m->(.sj).getD k 0=p.getD (m-1-k) 0:=λk d=>by
  have e:=getElem?_mirror_all (i:=0) (by rw[g.sz];exact hm) k;rw[z4 ⟨YZ _,d⟩]at e;unfold kas_rev;rw[Array.getD_eq_getD_getElem?,Array.getD_eq_getD_getElem?,e,YE]
 refine⟨⟨by unfold kas_rev;rw[mirror_size,g.sz],(mirror_perm _ _ _ _).trans g.pm⟩,λi j c b=>?_⟩;rw[a i .a,a j b];exact h _ _ .a .a
def zt(h2:2<=n)(q:∀m p,Gd n p->1<=m->m<=n->Srt lt p m->Q (m,p) s):(kas_count n .rJ).kasWp cmp Q s:=by
 unfold kas_count;rw[U6];refine pG O hc jG (λm b k a u=>?_) (n-1) 1 .r .a (λi j g h=>by lia)
 by_cases e:m=n
 ·subst e
  rw[z4 .e];exact q m _ jG b .r a
 ·rw[yD .dB]
  by_cases r:m>1
  ·rw[z4 r]
   refine hc _ _ (jG.below .a) (jG.below .a) _ ?_;have:=a 0 (m-1) .a .a;rw[this];((try dsimp only);(try rw[z4 rfl]));exact q m _ jG b k a
  ·rw[yD r]
   have:m=1:=by lia
   subst this;have c:=u .a;unfold kas_descPart;rw[U6];refine tL O hc jG (λm b k a=>?_) (n-2) 2 .a .a (λi j g h=>?_)
   ·rw[yD .e]
    unfold kas_tail3;rw[U6];obtain⟨o,v⟩:=P4 O jG k a;exact pG O hc o (λw l f d _=>q w _ o l f d) (n-m) m b .a v
   ·have t:i=0:=by lia
    have h:j=1:=by lia
    subst t h;exact c
theorem lU{p:.gi}(g:Gd n p){k:Nat}(h:k<n)(u:Srt lt p k){Q:Nat->Q5->Prop}(q:∀l,l<=k->(∀i,i<l->lt .iL .kX=true)->(∀i,l<=i->i<k->lt .kX .iL=true)->Q l s):
  ∀(f l r:Nat),r-l<=f->l<=r->r<=k->(∀i,i<l->lt .iL .kX=true)->(∀i,r<=i->i<k->lt .kX .iL=true)->(kas_place p k f l r).kasWp cmp Q s
 |0,l,r,o,v,m,a,b=>q l (ZM v m) a λi h1 h2=>b i (ZM (Nat.le_of_sub_eq_zero<|Nat.le_zero.mp o) h1) h2
 |f+1,l,r,o,v,m,a,b=>by
  unfold kas_place
  by_cases e:l≥r
  ·rw[z4 e]
   exact q l (ZM v m) a λi h1 h2=>b i (ZM e h1) h2
  ·rw[yD e]
   have y:l<r:=Nat.not_le.mp e;have j:=P3 y;generalize (l+r)/2=M at j;have t:M<k:=Z5 j.2 m;have d:M<n:=YC t h;refine hc _ _ .nN .nO _ ?_;cases c:lt .kX (p.getD M 0) with
   |true =>
    ((try dsimp only);(try rw[z4 rfl]))
    refine lU g h u q f l M (WA<|Z5 (Nat.sub_lt_sub_right j.1 j.2) o) j.1 (YX t) a λi h1 h2=>?_
    by_cases z:i=M
    ·subst z;exact c
    ·exact O.tr _ _ _ .nN .nO (g.below<|YC h2 h) c (u _ i (WV h1<|WQ z) h2)
   |false =>
    ((try dsimp only);(try rw[yD Z7]))
    have x:=O.tot _ _ .nN .nO (g.ne h d<|YN t) c;refine lU g h u q f (M+1) r (WA<|Z5 (Nat.sub_lt_sub_left y<|Nat.lt_succ_of_le j.1) o) j.2 m (λi h1=>?_) b
    by_cases z:i=M
    ·subst z;exact x
    ·have w:i<M:=WV (WA h1) z
     exact O.tr _ _ _ (g.below<|YC w d) .nO .nN (u i _ w t) x
theorem vF(q:.AY):∀(f:Nat) (p:.gi) (k:Nat),Gd n p->k+f=n->Srt lt p k->(kas_bin f p k).kasWp cmp Q s
 |0,p,k,g,e,h=>by
  have:k=n:=e;subst this;exact q p g h
 |f+1,p,k,g,e,h=>by
  unfold kas_bin;rw[U6];have A:k<n:=e▸Nat.lt_add_of_pos_right (Nat.succ_pos f);refine lU O hc g A h (λl B a b=>?_) k 0 k .r .dj .r (λi z=>.gx .em) (λi z C=>absurd C (VN.mpr z));have x:k<p.size:=by rw[g.sz];exact A
  have r:∀i,(bubble p k (k-l)).getD i 0=if i=l then p.getD k 0 else if l<i/\i<=k then p.getD (i-1) 0 else p.getD i 0:=λi=>by
   have:=getElem?_bubble x (k-l) (Nat.sub_le _ _) i;rw[Nat.sub_sub_self B]at this;simp;rw[this]
   by_cases m:i=l
   ·rw[z4 m,z4 m]
   ·rw[yD m,yD m]
    by_cases d:l<i/\i<=k
    ·rw[z4 d,z4 d]
    ·rw[yD d,yD d]
  refine vF q f _ (k+1) ⟨by rw[bubble_size,g.sz],(bubble_perm _ _ _).trans g.pm⟩ (by rw[UF];exact e) λi j c D=>?_;have t:j<=k:=WA D;have w:j-1<k:=Nat.sub_one_lt_of_le (Nat.zero_lt_of_lt c) t;rw[r i,r j]
  by_cases m:i=l
  ·have o:l<j:=m▸c
   rw[z4 m,yD (YN o),z4 ⟨o,t⟩];exact b _ (Nat.le_sub_one_of_lt o) w
  ·rw[yD m]
   by_cases d:l<i/\i<=k
   ·have o:l<j:=YC d.1 c
    rw[z4 d,yD (YN o),z4 ⟨o,t⟩];exact h _ _ (Nat.sub_lt_sub_right (Nat.zero_lt_of_lt d.1) c) w
   ·rw[yD d]
    have y:i<l:=WV (VN.mp λz=>d ⟨z,ZM (YX c) t⟩) m
    by_cases v:j=l
    ·rw[z4 v];exact a _ y
    ·rw[yD v]
     by_cases u:l<j/\j<=k
     ·rw[z4 u]
      exact h _ _ (Z5 y<|Nat.le_sub_one_of_lt u.1) w
     ·rw[yD u]
      have E:j<l:=WV (VN.mp λz=>u ⟨z,t⟩) v;exact h _ _ c (Z5 E B)
def Bw(h2:2<=n)(q:.AY):(kas_sort n).kasWp cmp Q s:=by
 unfold kas_sort;rw[U6];refine zt O hc h2 λm p g c b a=>?_
 by_cases e:m<n
 ·rw[z4 e]
  have:max m 1=m:=by lia
  rw[this];exact vF O hc q (n-m) p m g .a a
 ·rw[yD e]
  have:m=n:=by lia
  subst this;exact q p g a
end
section
variable{X:Cx}{pos p:Pos}
theorem ef.rds{K:ZX}:∀{vs:List V} {rs:.aY},ef H vs rs->.ay (rs.map yV) vs
 |_,_,.nil=>RDs.nil
 |_,_,.cons (a:=a) (r:=r) h t=>by
  refine RDs.cons ?_ (ef.rds t);unfold yV;dsimp[RD];refine⟨a,_,rfl,h,?_⟩;clear h
  induction r with
  |nil=>exact RDs.nil
  |cons x r b=>exact .jE b
theorem ef.pick(h:ef H vs rs):∀(l:.i),(∀i∈l,i<vs.length)->ef H .x3 (l.map λi=>rs.getD i [])
 |[],_=>.nil
 |i::l,b=>by
  have hi:i<vs.length:=b i .e;obtain⟨a,e,c⟩:=h.get (i:=i) (v:=vs[i]) .sO;have t:=ef.pick h l λj d=>b j .kZ;have:vs.getD i .non=.ref a:=by simp[List.getD,hi,e]
  dsimp[yP,this];exact .cons c t
theorem aY.pick(h:aY vs a):∀(l:.i),(∀i∈l,i<vs.length)->aY .x3 (l.map λi=>.gy Value.none)
 |[],_=>.nil
 |i::l,b=>by
  have hi:i<vs.length:=b i .e;obtain⟨u,e,d⟩:=h.get (i:=i) (x:=vs[i]) .sO;have t:=aY.pick h l λj c=>b j .k0;simp;refine .cons ?_ t;simp[List.getD,hi,e];exact d
end
section
variable{X:Cx}{pos p:Pos}
theorem RDs.rep{K:ZX}(r:.f9):∀k,RDs K ρ H (.d0 k l).flatten (.d0 k vs).flatten
 |0=>RDs.nil
 |k+1=>by
  rw[X4,X4,X6,X6];exact RDs.append r (RDs.rep r k)
end
section
variable{K:ZX}{ρ:.I}{H:Hp}{hd:Hd}
def RH.allocD(r:.aW){p:Addr}(hp:RC K ρ H .hP p)(hn:p∉ρ):RH K .ho H (hd++[.dct l]):=by
 have k:Kp ρ H .ho H:=⟨λn a e=>by rw[ZC (.bs).1];exact e,λ_ _ h=>h,λ_ _ _ h=>h,λ_ _ h=>h⟩;refine⟨by simp[r.len],?_,λn c a f d=>?_⟩
 ·rw[WL]
  exact⟨r.nd,by simp,λa j b i=>by simp at i;subst i;intro e;subst e;exact hn j⟩
 ·by_cases hlt:n<hd.length
  ·rw[ZC hlt]at f
   rw[ZC .qR]at d;exact (.rR).mono k rfl
  ·have m:n=hd.length:=by
    have:=(.le).1;simp at this;lia
   subst m;simp at f;subst f;rw[<-r.len]at d;simp at d;subst d;obtain⟨g,q1,q2,q3⟩:=hp;exact⟨g,q1,q2,q3.mono k⟩
def RH.writeD(r:.aW){p:Addr}{l:.cU}{b:.dY}(hp:ρ[n]?=some p)(hn:n<hd.length)(h1:b.map (·.1)=l.map .ez)(h2:.AE):RH K ρ (.bx .f7) (hd.set n .hP):=by
 have k:.jK (.bx .f7):=by
  have d:=ZK hp;refine⟨λ_ _ h=>h,λa f e=>?_,λa o u e=>?_,λa φ e=>?_⟩
  ·rw[aJ .zW];exact e
  ·rw[aJ .zX];exact e
  ·rw[aJ .zY];exact e
 refine⟨by simp[r.len],r.nd,λm c a q1 q2=>?_⟩
 by_cases e:n=m
 ·subst e
  rw[Z1 hn]at q1;cases q1;rw[hp]at q2;cases q2;exact⟨b,bB,h1,h2.mono k⟩
 ·rw[ZP e]at q1
  have ne:a≠p:=λz=>by
   subst z;exact e (qe r.nd hp q2)
  exact(r.cel m c a q1 q2).mono k (aJ ne)
theorem Bx(k:Int):∀{l:.cU} {a:.dY},a.map (·.1)=l.map .ez->RDs K ρ H .cy .lD->
  (u7 l k=none/\iT a .iV=none)\/∃d v,u7 l k=some d/\iT a .iV=some v/\.bJ d v
 |[],[],_,_=>.inl ⟨rfl,rfl⟩
 |[],_::_,h,_=>by simp at h
 |_::_,[],h,_=>by simp at h
 |(j,d)::l,(m,v)::a,h1,h2=>by
  dsimp[yP,WR]at h1;dsimp[yP,RDs]at h2;obtain⟨o,n,e,q1,q2⟩:=h2;cases e;obtain⟨c,b⟩:=h1;subst c
  by_cases e:j=k
  ·subst e
   exact .inr ⟨d,v,by simp[u7],by simp[iT],q1⟩
  ·have f:=Bx k b q2
   have g:u7 ((j,d)::l) k=u7 l k:=by simp[u7,e]
   have i:iT ((Sum.inl j,v)::a) .iV=iT a .iV:=nF (λz=>e (by cases z;rfl));rw[g,i];exact f
theorem By(k:Int):∀{l:.cU} {a:.dY},a.map (·.1)=l.map .ez->(a.any λc=>decide (c.1=(Sum.inl k:Key)))=l.any λp=>decide (p.1=k)
 |[],[],_=>rfl
 |[],_::_,h=>by simp at h
 |_::_,[],h=>by simp at h
 |(j,d)::l,(f,v)::a,h1=>by
  dsimp[yP,WR]at h1;obtain⟨e,b⟩:=h1;subst e;simp[By k b]
theorem Bz(k:Int){c:D}{f:V}(g:.bJ c f):∀{l:.cU} {a:.dY},a.map (·.1)=l.map .ez->RDs K ρ H .cy .lD->
  (.u8).map (·.1)=(.l8).map .ez/\.ay ((.l8).map (·.2)) ((.u8).map (·.2))
 |[],[],_,_=>⟨rfl,RDs.nil⟩
 |[],_::_,h,_=>by simp at h
 |_::_,[],h,_=>by simp at h
 |(j,d)::l,(r,v)::a,h1,h2=>by
  dsimp[yP,WR]at h1;dsimp[yP,RDs]at h2;obtain⟨t,s,e,q1,q2⟩:=h2;cases e;obtain⟨q,o⟩:=h1;subst q;obtain⟨m,i⟩:=Bz k g o q2
  by_cases e:j=k
  ·subst e
   dsimp[yP,WB];exact⟨by rw[m],RDs.cons g i⟩
  ·have n:¬(Sum.inl j:Key)=Sum.inl k:=λz=>e (by cases z;rfl)
   dsimp[yP,yD e,yD n];exact⟨by rw[m],RDs.cons q1 i⟩
def Ji(k:Int)(d:.bJ b c){l:.cU}{a:.dY}(h1:a.map (·.1)=l.map .ez)(h2:.AF):
  (kU a .iV c).map (·.1)=(Dm l k b).map .ez/\.ay ((Dm l k b).map (·.2)) ((kU a .iV c).map (·.2)):=by
 unfold kU Dm;rw[By k h1];split
 ·exact Bz k d h1 h2
 ·refine⟨by simp[h1],?_⟩
  rw[ZR,ZR];exact RDs.append h2 (.lH d)
end
section
variable{X:Cx}{pos p:Pos}
def MV:.l .oU EY:=by
 refine PE.imp Jf λσ H Q ⟨ρ,σd,h,a,e⟩=>λq b=>?_;have d:=cV (o:=HO.dK []) b;have f:=a.hp.free b;have g:=(a.hp.same d).allocD (l:=[]) ⟨[],bB,rfl,RDs.nil⟩ f;have c:.cG (ρ++[q]) (.az q<|.dK []):=Ext.alloc b;refine cB.at e c (a.ext c g) ?_;dsimp[rD,RD];refine⟨q,?_,rfl⟩;rw[<-a.hp.len];simp
/---/def R0(K:ZX):R2:=λx y H Q=>∃a o,y=.ref a/\qm H a x o/\Q (.bl o.isSome) H
def P5(b:.hz):.ap (.cY .In) (R0 X.K):=by
 intro pins s σ H x y v u Q I d e h;obtain⟨a,o,rfl,g,q⟩:=h;obtain rfl:u=Value.ref a:=e;exact TK b I g d λf c=>⟨.bl o.isSome,H,c,rfl,q⟩
def P6{K:ZX}:Og K Ii (R0 K):=by
 intro ρ H σd o σ d k v w Q h rv f b;cases d<;>try exact b.elim
 cases k<;>try exact b.elim
 rename_i i n
 dsimp[Ii]at b;dsimp[RD]at rv f;subst rv;obtain⟨a,q,rfl⟩:=f;cases c:o[n]? with
 |none=>rw[c]at b;exact b.elim
 |some cell =>
  rw[c]at b;cases cell with
  |lst l=>exact b.elim
  |dcT _=>exact b.elim
  |ob _=>exact b.elim
  |dct l =>
   simp only at b;obtain⟨g,q1,q2,q3⟩:=h.hp.cel n _ a c q;refine⟨a,iT g (Sum.inl i),rfl,qm.k (k:=Sum.inl i) q1,?_⟩;have e:(iT g<|Sum.inl i).isSome=(u7 l i).isSome:=by
    rcases Bx i q2 q3 with ⟨m,j⟩|⟨d,v,m,j,_⟩<;>rw[m,j]<;>rfl
   rw[e];exact b.here h .aU
/---/def R1:V->V->V->Hp->(Hp->Prop)->Prop:=λo i v H Q=>∃a H',o=.ref a/\Bs H a i v H'/\Q H'
def BA(d:.hz):Pd X R1:=by
 intro pins s σ H o i v ov j u Q I f b rv h;obtain⟨a,c,rfl,g,q⟩:=h;obtain rfl:ov=Value.ref a:=f;exact GJ d I g b rv λk e=>⟨c,e,q⟩
def Fl{fo B E:EF}(J:.hz)(he:.l e E)(V:.hI)(hi:.l i B)(L:autoParam (swapsWithSole .gP e pos.line X.env=pure false) Q3Q._auto_1)(Z:autoParam (swappedStores .gP e X.env=pure none) Q3Q._auto_1)
  (h1:autoParam ((.zr).map (·.2)=.w3) Q3Q._auto_1) (ha:autoParam (∀v,assign (.Subscript o i f) X.env v=(do
   let ov <-holding [v] .db
   let u <-holding [v,ov] .nq
   standAt f
   holding [v,ov,u] (setItem ov u v)
   release [v,ov,u] [])) Q2Q._auto_1):MS X (.lF .gP) (AY fo B E):=by
 refine PS.imp (Dr he (Dq V hi (BA J) ha) L Z h1) λEn σ H ⟨ρ,σd,O,Q,p⟩=>⟨ρ,σd,O,Q,(.iT).imp λv H1 zz=>?_⟩;obtain⟨w,d,y,e1,s,rv,R⟩:=zz;refine⟨w,σd,y,s,(cQ.outE R).imp λvo H2 zz=>?_⟩;obtain⟨z,Y,x,I,g,M,f⟩:=zz;refine⟨z,σd,x,g,(cQ.outE f).imp λvi G zz=>?_⟩;obtain⟨h,N,t,C,m,F,b⟩:=zz;have A:=(.dq<|s.hp.kp I).mono (g.hp.kp C);have r:=M.mono (g.hp.kp C);cases Y with
 |ref n =>
  cases N with
  |int j =>
   simp only at b;cases c:t[n]? with
   |none=>rw[c]at b;exact b.elim
   |some cell =>
    rw[c]at b;cases cell with
    |lst l=>exact b.elim
    |dcT _=>exact b.elim
    |ob _=>exact b.elim
    |dct l =>
     simp only at b;split at b
     ·rename_i T
      dsimp[RD]at r F;subst F;obtain⟨a,ha,rfl⟩:=r;obtain⟨q,q1,q2,q3⟩:=m.hp.cel n _ a c ha;have P:q.length=l.length:=by have:=.eu q2;simpa using this
      refine⟨a,_,rfl,Bs.k (k:=Sum.inl j) q1 (by rw[P];exact Z5 T .mY),?_⟩;have S:n<t.length:=(.i3).1;obtain⟨K,W⟩:=Ji j A q2 q3;have U:=m.hp.writeD ha S K W;have D:Ext h G h (upd G a<|.dK<|kU q (Sum.inl j) v):=Ext.write (ZK ha);exact b σ _ h D (m.ext D U)
     ·exact b.elim
  |_=>exact b.elim
 |_=>exact b.elim
end
variable{H:Hp}
section
variable{X:Cx}{pos p:Pos}
theorem x9{H:Hp}(hok:.cw)(j:∀b o xs,H b=some .cn->h.get? b=some o->h'.get? b=some o):∀{vs:List V} {rs:.aY} {c:List S1},ef H vs rs->aY vs c->.yZ=true->
  ∃e,KatTups h' c e/\e.length=c.length/\∀v∈e,∃i t,v=Value.int i t
 |_,_,_,.nil,.nil,_=>⟨[],.nil,rfl,λv d=>by simp at d⟩
 |_,_,_,.cons (a:=a) (r:=r) ha t,.cons rv rt,hne=>by
  dsimp[XW,YB,UL]at hne;obtain⟨e,h1,h2,s⟩:=x9 hok j t rt hne.2;obtain⟨z,f,l,o,y,k,n,q⟩:=hok a _ ha;cases r with
  |nil=>simp at hne
  |cons i r =>
   cases l with
   |cons m B =>
    rename_i u A
    obtain⟨g,rfl⟩:=Fh m;cases rv;refine⟨.int i g::e,KatTups.cons (j a o _ ha y) k q .e h1,by simp[h2],λv d=>?_⟩;rcases y4.mp d with rfl|d
    ·exact⟨i,g,rfl⟩
    ·exact s v d
def P7{σ:L2.St}(I:.s)(G:H B=some .hh)(c0:vs.length<64)(rv:ef H vs rs)(nd:rs.Nodup)(b7:.yZ=true)
  (q:∀d s',ef H d (eA rs)->Inv X pins σ .rz s'->Q .none s'):wpAny .ag A (call (.cZ "list.sort") [.ref B]) Q E s:=by
 obtain⟨hz,a,n0,M,ho⟩:=I.hok B _ G;have W:a.length=vs.length:=M.length.symm;obtain⟨m,hm,_⟩:=id I.loc;have nL:∀b u,H b=some u->b≠X.env.locals:=λb u e z=>by rw[z,I.free]at e;cases e
 have BL:=nL B _ G;have a4:∀d,d=vs->.az B (.lst d)=H:=λd e=>by
  subst e;funext b
  by_cases z:b=B
  ·subst z;rw[bB,G]
  ·rw[aJ z]
 have after:∀(K:Heap) (f:List S1) (d:List V) (c t':Nat),ef H d (eA rs)->aY d f->d.length<=sizeLine->K.get? B=some .xU->(∀b o,b≠X.env.locals->b≠B->s.heap.get? b=some o->K.get? b=some o)->K.Ns X.env.locals m->Inv X pins σ .rz { s with heap:=K,toks:=t' }:=λK f d c t' a2 N a3 a5 l a0=>by
  have I2:L2.Inv X pins σ .rz { s with heap:=K,gens:=s.gens,drawn:=s.drawn,toks:=t' }:=by
   refine I.step (ch:=[]) .rx (λb o D _ _ e n=>l b o D .p4 e) (λb o D _ _ e n=>⟨o.slots,l b o D .p4 e⟩) (λb o _ e n=>by rw[aJ .p4];exact n) (λb o _ e=>?_)
    (λb ys e=>by rw[aJ .p5];exact e) (λb o u e=>by rw[aJ .p5];exact e) (λb ps e=>⟨#[],by rw[aJ .p5,e];simp⟩) (λm' b6=>by rw[P0 b6 hm];exact a0) (λb u e=>?_) I.bare
   ·by_cases D:b=X.env.locals
    ·obtain⟨o',_,_,Z,_⟩:=a0
     rw[D];exact⟨o',Z⟩
    ·by_cases F:b=B
     ·subst F;exact⟨_,a5⟩
     ·exact⟨o,l b o D F e⟩
   ·by_cases D:b=B
    ·subst D
     rw[bB]at e;cases e;exact⟨a3,f,c,N,a5⟩
    ·rw[aJ D]at e
     refine (.nw).stay (λc v hc z=>?_) (λc z=>by rw[aJ .wT];exact z) λc ys z=>by rw[aJ .wT];exact z
     rcases hc with w|w
     ·subst w;exact l c v (nL c _ e) D z
     ·exact l c v (nL c _ w) (λy=>by subst y;rw[G]at w;cases w) z
  exact I2
 by_cases K:a.length<2
 ·have hs:eA rs=rs:=by
   have:rs.length<2:=by rw[<-rv.length];lia
   match rs,this with
   |[],_=>rfl
   |[_],_=>rfl
  have ha:B<s.heap.objs.size:=ZI ho;have Z:s.heap.get? B=some (seqObj "list" a.toArray n0):=ho;refine WJ wd ⟨_,ho,rfl⟩ U5 (vE Z K ⟨_,rfl,?_⟩) .mZ;obtain⟨e1,b5⟩:∃e1,(.z7).get? B=some .zB:=⟨_,XU Z .hj⟩;have b4:(((.z7).push (seqObj "tuple" a.toArray 0)).push .c7).get? B=some .zB:=by
   rw[.aK (by rw[WU,YM];exact ZN (Z2 ha)),.aK (by rw[YM];exact ZN ha)];exact b5
  have Y:∀b o,b≠B->s.heap.get? b=some o->(.w6).get? b=some o:=λb o D e=>by
   have a6:b<s.heap.objs.size:=ZI e;unfold sortedHeap;rw[.bX D,.aK (by rw[WU,YM];exact ZN (Z2 a6)),.aK (by rw[YM];exact ZN a6),.bX D];exact e
  have a0:(.w6).Ns X.env.locals m:=by
   obtain⟨o',es,ep,h1,r⟩:=hm;exact⟨o',es,ep,Y _ _ (WQ BL) h1,r⟩
  refine q vs _ (by rw[hs];exact rv) (after _ a vs _ s.toks (by rw[hs];exact rv) M hz (XU b4 _) (λb o _ D e=>Y b o D e) a0)
 ·have N0:News (Att.noObjs s.heap) X.env.locals s.heap ((B,PySem.W.listOf a.toArray n0)::Att.ledger s.heap X.env.locals B):=λ⟨b,o⟩ D=>by
   rcases y4.mp D with e|D
   ·cases e
    exact⟨ho,BL,Att.noObjs_get _ _⟩
   ·obtain⟨n1,n2,e⟩:=Att.mem_ledger.mp D
    exact⟨e,n1,Att.noObjs_get _ _⟩
  have a8:∀q∈Att.ledger s.heap X.env.locals B,q.1≠B:=λ⟨b,o⟩ hq=>(Att.mem_ledger.mp hq).2.1;refine kat_lsort (vs:=a) (Att.fr_all hm) N0 (UpdF.head a8) .e .a .a λe1 h' F' N'=>?_;have a9:∀b o,b≠X.env.locals->b≠B->s.heap.get? b=some o->(b,o)∈Att.ledger s.heap X.env.locals B:=λb o D F e=>Att.mem_ledger.mpr ⟨D,F,e⟩;have P:∀b o,b≠X.env.locals->b≠B->s.heap.get? b=some o->h'.get? b=some o:=λb o D F e=>(N' (b,o) .Al).1;obtain⟨fs,t1,t2,t3⟩:=x9 I.hok (λb o xs D e=>P b o (nL b _ D) (λz=>by subst z;rw[G]at D;cases D) e) rv M b7;refine kat_kind (T:=.type "int") t1 .a (λv hv=>?_) rfl ?_
  ·obtain⟨i,t,rfl⟩:=t3 v hv
   exact Looks.of_pure rfl
  ·have hT:(Value.type "int" != Value.type "tuple")=true:=by decide
   rw[hT];have b9:rs.length=a.length:=by rw[<-rv.length,W]
   have b8:∀i j,i<a.length->j<a.length->i≠j->rs.getD i []≠rs.getD j []:=λi j L hj R z=>by
    have e1:rs.getD i []=rs[i]' .a:=by simp[List.getD,show i<rs.length by lia]
    have e2:rs.getD j []=rs[j]' .a:=by simp[List.getD,show j<rs.length by lia]
    rw[e1,e2]at z;exact R ((List.getElem_inj nd).mp z)
   have O:Ord (λi j=>Fm.lexLt .nm (rs.getD j [])) a.length:=⟨λi j _ _ h=>iS h,λi j k _ _ _ h h'=>iR h h',λi j L hj R h=>hZ (b8 i j L hj R) h⟩;refine Bw O (λi j L hj C hC=>?_) .a λJ g b0=>?_
   ·unfold kas_ask
    have a7:∀i,i<a.length->∃b,a.getD i Value.none=.ref b/\∃(o:Obj) (zs:List S1) (n:Nat),h'.get? b=some o/\o.data=.seq zs.toArray n/\IntsAre zs .nm:=λi L=>by
     have hv:vs[i]?=some (vs[i]' .a):=by simp[show i<vs.length by lia]
     obtain⟨b,e1,e2⟩:=rv.get hv;obtain⟨u,hu,ru⟩:=M.get hv;rw[e1]at ru;cases (show u=Value.ref b from ru);obtain⟨z,zs,r0,o,ho,hc,n,hd⟩:=I.hok b _ e2;exact⟨b,by simp[List.getD,hu],o,zs,n,P b o (nL b _ e2) (λz=>by subst z;rw[G]at e2;cases e2) ho,hd,iG r0⟩
    obtain⟨b1,x1,o1,z1,n1,y1,d1,i1⟩:=a7 i L;obtain⟨b2,x2,o2,z2,n2,y2,d2,i2⟩:=a7 j hj;rw[x1,x2];refine kat_lt (s:=.ci) y1 d1 y2 d2 ?_;have:=PZ (prog:=X.prog) (w:=X.w) (A:=A.in1) (s:=.ci) (Q:=C) .nm (rs.getD j []) 0 i1 i2 hC;simpa using this
   ·have a1:J.toList.Perm .Ap:=by simpa using UO.mp g.pm
    have inR:∀i∈J.toList,i<vs.length:=λi L=>by
     have:=a1.mem_iff.mp L;rw[<-W];simpa using this
    obtain⟨d,U⟩:=q0 (J.toList.map λi=>vs.getD i .non);obtain⟨f,S⟩:=q0 (J.toList.map λi=>.gy Value.none);have a2:ef H d (eA rs):=by
     have e:(J.toList.map λi=>rs.getD i [])=eA rs:=by
      refine Gk (?_:List.Perm _ _) ?_ (nr nd)
      ·refine((a1.map λi=>rs.getD i []).trans ?_).trans (kj rs).symm
       have:((.Ap).map λi=>rs.getD i [])=rs:=by
        apply YO;intro i
        by_cases L:i<rs.length
        ·have:i<a.length:=by lia
         simp[List.getD,L,this]
        ·have:¬i<a.length:=by lia
         simp[L,this]
       rw[this]
      ·rw[YJ]
       rw[Y9];intro i j L hj R;have s1:=b0 i j R (by rw[<-g.sz];simpa using hj);have g1:J.getD i 0=J.toList[i]:=by simp[Array.getD,show i<J.size by simpa using L]
       have g2:J.getD j 0=J.toList[j]:=by simp[Array.getD,show j<J.size by simpa using hj]
       rw[g1,g2]at s1;exact s1
     have:=rv.pick J.toList inR;rw[e,<-U]at this;exact this
    have N:aY d f:=by rw[U,S];exact aY.pick M J.toList inR
    have a3:d.length<=sizeLine:=by
     have l1:d.length=a.length:=by rw[U,ZA,a1.length_eq,ZO]
     rw[l1,W];exact hz
    rw[<-S];refine KasFin.intro F' N' (UpdF.head a8) λK c F2 N2=>?_;have b3:K.get? B=some .xU:=(N2 (B,_)<|ZV ..).1;have l:∀b o,b≠X.env.locals->b≠B->s.heap.get? b=some o->K.get? b=some o:=λb o D F e=>(N2 (b,o) .Al).1;exact q d _ a2 (after K f d c s.toks a2 N a3 b3 l F2.ns)
end
section
variable{X:Cx}{pos p:Pos}
/---/def zu(p d:Addr):Heap->Prop:=λh=>h.get? p=some { cls:=.type "dict_items",data:=.fields #[.ref d] }
/---/def P8(td:TE):TE:=λσ H Q=>td σ H λx H1=>∃a kvs,x=.ref a/\H1 a=some .k3/\∀p,H1 p=none->.dv (upd H1 p<|.ext<|zu p a)
def Jj{apos c:Pos}(y:.w o n)(g:autoParam (.gv "items" X.env .db=eval o X.env) Q3Q._auto_1)(d:autoParam ((apos.endLine == c.line)=true) Q3Q._auto_1):
  PE X (.Call (.ju "items") [] [] c) (P8 n):=by
 intro pins s σ H Q I h;refine wpAny_Call_method0_late g d (thn (y pins s σ H _ I h) λv m zz=>?_);obtain⟨x,F,i,r,a,j,t,e,q1⟩:=zz;subst t;obtain rfl:v=Value.ref a:=r;obtain⟨l,z,C⟩:=PY i (.inl ⟨j,.inl e⟩);obtain⟨_,u,A,_,w⟩:=Jc i.hok e;refine⟨"dict","dict.items",PySem.F.plainAttrs_dict,PySem.F.slot_dict_items,PySem.F.type_dict_items,l,z,Calls.callWith_builtin rfl (PySem.evalArgs_none ?_)⟩;refine call_meetsIn PySem.F.slot_dict_items l PySem.F.entry_dict_items (PySem.F.args_dict_items_1 _) (meets_dict_items (eP X.prog X.w) a u) ⟨⟨A,w⟩,?_⟩;refine⟨.ref m.heap.objs.size,_,i.laid (o:=.ext (zu m.heap.objs.size a)) (λb D q=>.R q) .r ⟨ZJ _ rfl,⟨_,ZJ _ rfl⟩,λB E f k=>k _ f⟩,rfl,q1 _ (i.hok.fresh .r)⟩
def Jk{σ:L2.St}{d:Hp}{s:Q5}{h':Heap}{t':Nat}(I:.s)(keep:∀b o,s.heap.get? b=some o->h'.get? b=some o)(f:mZ H d)(a:∀b,b<s.heap.objs.size->d b=H b)(new:∀b u,s.heap.objs.size<=b->d b=some u->fO X.prog X.w d h' b u/\∀c,u ≠ .own c):.bH d .fp:=by
 have t:L2.Inv X pins σ d { s with heap:=h',gens:=s.gens,drawn:=s.drawn,toks:=t' }:=by
  refine I.step (ch:=[]) .rx (λb o _ _ _ e _=>keep b o e) (λb o _ _ _ e _=>⟨o.slots,keep b o e⟩) (λb o _ e n=>by rw[a b (ZI e)];exact n) (λb o _ e=>⟨o,keep b o e⟩)
   (λb i e=>f _ _ e) (λb o u e=>f _ _ e) (λb x e=>⟨#[],by rw[f _ _ e];simp⟩) (λm j=>?_) (λb u e=>?_) I.bare
  ·obtain⟨q,l,k,h,r⟩:=j
   exact⟨q,l,k,keep _ _ h,r⟩
  ·by_cases g:b<s.heap.objs.size
   ·rw[a b g]at e
    refine (.nw).stay (λc v w z=>keep c v z) (λc z=>f _ _ z) λc i z=>f _ _ z
   ·exact(new b u (UU g) e).1
 exact t
noncomputable def ov:List Addr->List .aC->Hp->Hp
 |a::as,r::rs,H=>upd (ov as rs H) a (.tup .nt)
 |_,_,H=>H
theorem Fo{H:Hp}:∀{as:.I} {rs:.aY},b∉as->ov as rs H b=H b
 |[],_,_=>rfl
 |a::as,[],_=>rfl
 |a::as,r::rs,h=>by
  have h1:b≠a:=λz=>h .kB;have c:b∉as:=λz=>h .kB;show upd _ _ _ b=_;rw[aJ h1,Fo c]
theorem Jl{H:Hp}:∀{as:.I} {rs:.aY} {j:Nat} {a:Addr} {r:.b},as.Nodup->as[j]?=some a->rs[j]?=some r->ov as rs H a=some (.tup .nt)
 |[],_,_,_,_,_,e,_=>by simp at e
 |a::as,[],_,_,_,_,_,e=>by simp at e
 |a::as,r::rs,0,_,_,_,e,c=>by simp at e c;subst e c;exact bB
 |a::as,r::rs,j+1,b,q,nd,e,c=>by
  obtain⟨n1,f⟩:=XI.mp nd;have e:as[j]?=some b:=by simpa using e
  have d:b≠a:=λz=>n1 (by rw[<-z];exact ZK e);show upd _ _ _ b=_;rw[aJ d];exact Jl f e .aH
theorem ef.mono{H b:Hp}(k:∀a xs,H a=some .cn->b a=some .cn):∀{vs:List V} {rs:.aY},ef H vs rs->ef b vs rs
 |_,_,.nil=>.nil
 |_,_,.cons h t=>.cons (k _ _ h) (ef.mono k t)
theorem Fp:∀{as:.I} {rs:.aY},as.length=rs.length->(∀(j:Nat) a r,as[j]?=some a->rs[j]?=some r->c a=some (.tup .nt))->ef c (as.map V.ref) rs
 |[],[],_,_=>.nil
 |[],_::_,h,_=>by simp at h
 |_::_,[],h,_=>by simp at h
 |a::as,r::rs,h,f=>.cons (f 0 a r rfl rfl) (Fp .fD λj b q e d=>f (j+1) b q .dB (by simpa using d))
/---/def P9:List V->Hp->VK->Prop:=λxs H Q=>∃(p a:Addr) (ps:.dl),xs=.hr/\H p=some (.ext<|zu p a)/\H a=some (.dK<|ps.map λq=>((Sum.inl q.1:Key),V.int q.2))/\ps.length<64/\(.zn).Nodup/\
 ∀H' q vs',mZ H H'->H q=none->H' q=some (.lst vs')->ef H' vs' (eA .zn)->Q .i6 H'
def R3{vs:List .n1}(r:KV a vs):∀{j:Nat} {k:κ} {x:S1} {b:κ} {v:V},vs[j]?=some (k,x)->a[j]?=some (b,v)->b=k/\cf v x:=by
 induction r with
 |nil=>intro j k x b v e;simp at e
 |cons h t d =>
  intro j k x b v e c;cases j with
  |zero=>simp at e c;subst e c;exact h
  |succ j=>exact d .dB .aH
def DK(hc:.aJ):jb X .ih P9:=by
 intro pins s σ H xs us Q I r h;obtain⟨p,a,A,rfl,hp,ha,K,Y,q⟩:=h;obtain⟨u,rfl,ru⟩:=aY.one r;cases (show u=Value.ref p from ru);obtain⟨f,l⟩:=q0 (A.map λq=>[q.1,q.2]);rw[<-l]at Y q;have E:zu p a s.heap:=(I.hok p _ hp).1;obtain⟨hz,_,vs,C,dd⟩:=Jc I.hok ha;have F:vs.length=A.length:=by rw[<-C.length];simp
 obtain⟨o,es,ep,d1,d2⟩:=id dd;have S:s.heap.DictAt (eP X.prog X.w) a vs ep:=⟨o,es,d1,d2⟩;refine VU kind_sorted plain_sorted entry_sorted .nd ?_;unfold Builtin.«sorted»;refine z0 .aZ;refine z0 (kdx_collect (I.ok.hd hc) ⟨_,E,rfl,rfl⟩ S (by rw[F,YQ];lia) λg tk d hk D G=>?_);have y:d.Nodup:=G.rise.imp λh=>ZN h;have lr:d.length=f.length:=by rw[D,F,l];simp
 have i:∀b∈d,s.heap.objs.size<=b:=λb m=>YX (G.above b m);have J:mZ H .jW:=λb u e=>by
  rw[Fo]
  ·exact e
  ·intro z
   exact absurd (I.hok.lt e) (VN.mpr<|i b z)
 have M:Inv X pins σ .jW { s with heap:=g,toks:=tk }:=by
  refine Jk I hk J (λb m=>Fo λz=>absurd m (VN.mpr<|i b z)) λb u m e=>?_
  by_cases Z:b∈d
  ·obtain⟨j,O⟩:=UN Z
   have a0:j<d.length:=(zS.mp O).1;obtain⟨T,k,x,e1,e2,e3⟩:=G.pairs j b O;obtain⟨w,B⟩:∃w,A[j]?=some w:=⟨A[j]' .a,by simp[show j<A.length by lia]⟩;have hr:f[j]?=some [w.1,w.2]:=by rw[l,ZQ,B];rfl
   rw[Jl y O hr]at e;cases e;refine⟨?_,λc z=>by cases z⟩;obtain⟨R,rx⟩:=R3 C e1 (show (A.map λq=>((Sum.inl q.1:Key),V.int q.2))[j]?=some (Sum.inl w.1,V.int w.2) by rw[ZQ,B];rfl);obtain⟨t,rfl⟩:=Fh rx;subst R;have:∃W,T=Value.int w.1 W:=Value.isInt_shape e2;obtain⟨W,rfl⟩:=this;exact⟨by simp[YQ],[_,_],.cons ⟨W,rfl⟩ (.cons ⟨t,rfl⟩ .nil),_,e3,rfl,_,rfl⟩
  ·rw[Fo Z]at e
   exact absurd (I.hok.lt e) (VN.mpr m)
 refine z0 (V7 ?_ .zO);have L:aY (d.map V.ref) (d.map Value.ref):=by
  clear D G y lr i J M q
  induction d with
  |nil=>exact .nil
  |cons a d ih=>exact .cons rfl ih
 have I2:Inv X pins σ .l5 { s with heap:=g.push { cls:=.type "list",data:=.seq (d.map Value.ref).toArray },toks:=tk }:=M.lnew L .zO;have fr:ov d f H g.objs.size=none:=M.hok.fresh .r;have P:mZ .jW .l5:=cV fr;have n:ef .l5 (d.map V.ref) f:=Fp lr λj b r e e'=>P _ _ (Jl y e e');have N:(f.all λx=>!x.isEmpty)=true:=by rw[l,List.all_map,W8];intro q _;rfl
 refine z0 (WE (P7 I2 bB (by rw[ZA,D,F];exact K) n Y N λv s' U I3=>wX ⟨_,rfl,?_⟩));have uu:upd .l5 g.objs.size (.lst v)=upd .jW g.objs.size (.lst v):=by
  funext b
  by_cases z:b=g.objs.size
  ·subst z;rw[bB,bB]
  ·rw[aJ z,aJ z,aJ z]
 rw[uu]at I3;refine⟨.ref g.objs.size,_,I3,rfl,q _ _ v (λb u e=>cV fr _ _ (J _ _ e)) ?_ bB ?_⟩
 ·cases e:H g.objs.size with
  |none=>rfl
  |some u=>rw[J _ _ e]at fr;cases fr
 ·refine U.mono λb ys e=>?_
  have m:b≠g.objs.size:=λz=>by subst z;rw[bB]at e;cases e
  rw[aJ m]at e⊢;exact e
theorem tM:∀{l:.cU} {r:.aY},ie l=some r->∃ps:List .tS,l=ps.map (λq=>(q.1,D.int q.2))/\r=ps.map λq=>[q.1,q.2]
 |[],r,e=>by dsimp[ie]at e;cases e;exact⟨[],rfl,rfl⟩
 |(k,d)::l,r,e=>by
  cases d<;>dsimp[ie]at e<;>try (cases e;done)
  rename_i v
  cases c:ie l with
  |none=>rw[c]at e;cases e
  |some a =>
   rw[c]at e;cases e;obtain⟨ps,rfl,rfl⟩:=tM c;exact⟨(k,v)::ps,rfl,rfl⟩
theorem Jm{K:ZX}{ρ:.I}{H:Hp}:∀{ps:.dl} {a:.dY},a.map (·.1)=(.xC).map .ez->RDs K ρ H ((.xC).map (·.2)) .lD->a=ps.map λq=>((Sum.inl q.1:Key),V.int q.2)
 |[],[],_,_=>rfl
 |[],_::_,h,_=>by simp at h
 |_::_,[],h,_=>by simp at h
 |(j,d)::ps,(f,v)::a,h1,h2=>by
  dsimp[yP,WR]at h1;dsimp[yP,RDs]at h2;obtain⟨i,g,e,q1,q2⟩:=h2;cases e;obtain⟨c,b⟩:=h1;subst c;dsimp[RD]at q1;subst q1;rw[Jm b q2];rfl
def Jn{fo:EF}(N:.aJ)(P:.oM)(hm:.oC)(U:.hI)
  (R:autoParam (starEach .v3 X.env=(false,eval (.Call (.ju "items") [] [] g) X.env)::starEach [] X.env) Q3Q._auto_1)
  (k:autoParam (.gv "items" X.env .db=eval o X.env) Q3Q._auto_1) (i:autoParam (.y7=true) Q3Q._auto_1) :
  MF X (.hM .lB .v3) (rG fo):=by
 refine PE.imp (jA (DK N) P hm .bd<|cP (Jj U k i) eQ R) λσ H Q ⟨ρ,σd,G,M,f⟩=>⟨ρ,σd,G,M,?_⟩;unfold rG at f;cases e:fo σd G with
 |exc x Z=>rw[e]at f;exact f
 |bad=>rw[e]at f;exact f
 |ok d y =>
  rw[e]at f;dsimp[aH]at f;intro v V t J j rv;cases d<;>try exact f.elim
  rename_i n
  simp only at f;dsimp[rD,RD]at rv;obtain⟨a,L,rfl⟩:=rv;cases c:y[n]? with
  |none=>rw[c]at f;exact f.elim
  |some cell =>
   rw[c]at f;cases cell with
   |lst l=>exact f.elim
   |dcT _=>exact f.elim
   |ob _=>exact f.elim
   |dct l =>
    simp only at f;cases w:ie l with
    |none=>rw[w]at f;exact f.elim
    |some r =>
     rw[w]at f;simp only at f;split at f
     ·rename_i F
      obtain⟨Y,rfl,rfl⟩:=tM w;obtain⟨S,q1,q2,q3⟩:=j.hp.cel n _ a c L;have T:=Jm q2 q3;subst T;refine⟨a,_,rfl,q1,λq C=>⟨q,a,Y,rfl,bB,by rw[aJ (cj q1 C)];exact q1,by simpa using F.1,F.2,λI D A W h s B=>?_⟩⟩;have m:mZ V I:=λb u K=>W _ _ (cV C _ _ K);have O:D≠q:=λz=>by subst z;rw[bB]at h;cases h
      rw[aJ O]at h;have E:=j.hp.free h;exact f D A I t (J.trans<|.fi m) (j.same m) (J.fresh h E) s E B.rds
     ·exact f.elim
end
section
variable{X:Cx}{pos p:Pos}
theorem rX{K:ZX}{ρ:.I}{H:Hp}:∀{l:List D} {vs:List V} {bs:List Bool},RDs K ρ H l vs->i9 l=some bs->vs=bs.map V.bl
 |[],_,a,r,e=>by dsimp[i9]at e;cases e;dsimp[RDs]at r;subst r;rfl
 |d::l,_,a,r,e=>by
  dsimp[RDs]at r;obtain⟨v,vs,rfl,h1,h2⟩:=r;cases d<;>dsimp[i9]at e<;>try (cases e;done)
  rename_i i
  cases c:i9 l with
  |none=>rw[c]at e;cases e
  |some b =>
   rw[c]at e;cases e;dsimp[RD]at h1;rw[h1,rX h2 c];rfl
def BB{bs:List Bool}(r:aY .ku a):∀(i:Nat) (v:S1),a.toArray[i]?=some v->v=.bool (.ev false):=by
 intro i v e;have b:a[i]?=some v:=by simpa using e
 have c:i<bs.length:=by
  have:=(zS.mp b).1;have:=r.length;simp at this;lia
 obtain⟨u,d,f⟩:=r.get (i:=i) (x:=V.bl bs[i]) .k0;rw[d]at b;cases b;rw[show v=Value.bool bs[i] from f];simp[List.getD,c]
def Jo(bs:List Bool):(.mA).all .mx=bs.all id:=by
 have:bs=(.mA).map λi=>.ev false:=by
  apply YO;intro i
  by_cases a:i<bs.length<;>simp[List.getD,a]
 conv=>rhs;rw[this]
 rw[List.all_map];rfl
def GK(y:.aJ):jb X (.cZ "all") (λxs H Q=>∃(p:Addr) (bs:List Bool),xs=.hr/\.wO/\Q (.bl .nR) H):=by
 intro pins s σ H xs D Q I r q;obtain⟨p,bs,rfl,g,q⟩:=q;obtain⟨u,rfl,z⟩:=aY.one r;cases (show u=Value.ref p from z);have m:(X.A.in1).handled=none:=I.ok.hd y;have w:∀(a:List S1),aY .ku a->TruthOf X.prog X.w X.A.in1 .xA .mx:=λa rv i v s Q E x C=>by
  rw[BB rv i v x];exact WZ C
 have fin:∀{t:Obj} {h:Heap} {k:Nat} {n:Nat},n=bs.length->(∀b o,b∉[s.heap.objs.size]->(s.heap.push t).get? b=some o->h.get? b=some o)->.fl (.bool<|(.k).all λi=>.ev false) .yk:=by
  intro t h k n A j;subst A;refine⟨.bl .nR,H,I.kept λb o e=>j b o .qK .f6,by rw[Jo];rfl,q⟩
 rcases g with g|g
 ·obtain⟨a,rv,l,B⟩:=I.list g
  have c:.pb a.toArray:=l.isList;have d:p<s.heap.objs.size:=by obtain⟨o,f,_⟩:=c;exact ZI f
  refine PySem.call_all_walk (.tC c);refine⟨s.heap.objs.size,_,.ir,_,_,_,λi=>.ev false,rfl,PySem.Walks.list m s.heap.objs.size p (ZN d) a.toArray,⟨⟨_,ZJ _ rfl,rfl,rfl⟩,?_⟩,w a rv,?_⟩
  ·obtain⟨o,f,r⟩:=c;exact⟨o,.R f,r⟩
  ·exact λh k j=>fin .h7 j
 ·obtain⟨a,rv,l,B⟩:=I.tuple g
  have c:.o8 a.toArray:=l;have d:p<s.heap.objs.size:=by obtain⟨o,f,_⟩:=c;exact ZI f
  refine PySem.call_all_walk (U3 c ?_);refine⟨s.heap.objs.size,_,.ir,_,_,_,λi=>.ev false,rfl,PySem.Walks.tuple m s.heap.objs.size p (ZN d) a.toArray,⟨⟨_,ZJ _ rfl,rfl,rfl⟩,?_⟩,w a rv,?_⟩
  ·obtain⟨o,f,r⟩:=c;exact⟨o,.R f,r⟩
  ·exact λh k j=>fin .h7 j
def zv{a:Expr}(i:.aJ)(k:Gl X "all")(hm:X.mg "all"=none)(ha:MQ X a d)(f:autoParam (.bq X.env=(false,.bL X.env)::starEach [] X.env) Q3Q._auto_1):.l (.es<|.bT "all") (AX d):=by
 refine vx (Fd (GK i) k hm .bd (he:=f)) ha (λρ H σd m σ l q n Q g j b p=>?_) f;cases c:i9 l with
 |none=>dsimp[c]at p;exact p.elim
 |some h =>
  dsimp[c]at p;have e:=rX b c;subst e;exact⟨q,h,rfl,j.imp id SqT.of,p.here g .aU⟩
def Jp(ha:MF X a t)(hb:.l b o):MF X (.BinOp a .Mult b pos) (va t o):=by
 refine PE.imp (Ix Pw ha hb) λσ H Q ⟨ρ,σd,u,A,c⟩=>⟨ρ,σd,u,A,?_⟩;unfold va at c;cases e:t σd u with
 |exc x F=>rw[e]at c;exact c
 |bad=>rw[e]at c;exact c
 |ok l h =>
  rw[e]at c;dsimp[aH]at c;intro q w L k I f z C E g;refine⟨k,σd,h,f,?_⟩;cases j:o σd h with
  |exc x F=>rw[j]at c;exact c
  |bad=>rw[j]at c;exact c
  |ok y D =>
   rw[j]at c;dsimp[aH]at c;intro v J G d m rv;cases y<;>try exact c.elim
   rename_i n
   simp only at c;split at c
   ·rename_i K
    dsimp[rD,RD]at rv;subst rv;have r:J q=some (.lst w):=d.frame q _ C E;have i:=g.mono (f.hp.kp d);refine⟨q,n,w,rfl,rfl,r,by lia,by lia,by rw[<-g.length,YQ];lia,λB s=>?_⟩;exact Be.mk c (I.trans d) m (RDs.rep i n.toNat) B s
   ·exact c.elim
def Jq(s:.aJ)(u:Gl X "max")(hm:X.mg "max"=none)(ha:.l a l)(hb:.l b o)(n:autoParam (.jD X.env=(false,.bL X.env)::starEach [b] X.env) Q3Q._auto_1)(i:autoParam (.jF X.env=(false,eval b X.env)::starEach [] X.env) Q3Q._auto_1)(hpl:autoParam ((.w7).any (λx=>x.1)=false) Q3Q._auto_1):.l (.jw<|.bT "max") (vc l o):=by
 refine PE.imp (jA (Gv s) u hm .bd .zM (he:=n) (hpl:=hpl)) λσ H Q ⟨ρ,σd,z,q,m⟩=>⟨ρ,σd,z,q,?_⟩;unfold vc at m;refine (.a0 m).imp λv B zz=>?_;obtain⟨f,d,h,C,e,rv,r⟩:=zz;refine⟨f,σd,h,e,(.a0 r).imp λw D zz=>?_⟩;obtain⟨y,k,t,A,g,c,j⟩:=zz;cases d<;>try exact j.elim
 cases k<;>try exact j.elim
 dsimp[rD,RD]at rv c;subst rv c;exact⟨_,_,rfl,j.here g .aU⟩
def oC(ha:.l a A)(hb:.l b E):MF X (.BinOp a .Add b pos) (fJ A E):=by
 refine PE.imp (Ix Pv ha hb) λσ H Q ⟨ρ,σd,L,O,c⟩=>⟨ρ,σd,L,O,?_⟩;unfold fJ at c;cases e:A σd L with
 |exc x R=>rw[e]at c;exact c
 |bad=>rw[e]at c;exact c
 |ok d o =>
  rw[e]at c;dsimp[aH]at c;intro v W B V z rv;refine⟨B,σd,o,z,?_⟩;cases u:E σd o with
  |exc x R=>rw[u]at c;exact c
  |bad=>rw[u]at c;exact c
  |ok k j =>
   rw[u]at c;dsimp[aH]at c;intro w Y T i h q;cases d with
   |ref n =>
    cases k with
    |ref m =>
     simp only at c;dsimp[rD,RD]at rv q;obtain⟨N,t,rfl⟩:=rv;obtain⟨M,D,rfl⟩:=q;have F:=i.get t;cases r:j[n]? with
     |none=>rw[r]at c;exact c.elim
     |some K =>
      cases C:j[m]? with
      |none=>rw[r,C]at c;cases K<;>exact c.elim
      |some U =>
       rw[r,C]at c;cases K with
       |dct _=>exact c.elim
       |dcT _=>exact c.elim
       |ob _=>exact c.elim
       |lst l =>
        cases U with
        |dct _=>exact c.elim
        |dcT _=>exact c.elim
        |ob _=>exact c.elim
        |lst k =>
         simp only at c;split at c
         ·rename_i S
          obtain⟨y,I,f⟩:=h.hp.cel n _ N r F;obtain⟨s,J,g⟩:=h.hp.cel m _ M C D;refine⟨N,M,y,s,rfl,rfl,I,J,by rw[<-f.length,<-g.length];exact qf S,λP G=>?_⟩;exact Be.mk c (V.trans i) h (RDs.append f g) P G
         ·exact c.elim
    |_=>exact c.elim
   |_=>exact c.elim
def BC(l b:Addr)(a c:.bw)(n k:Nat)(m e:.cv)(i f:.hH)(o:a.isEmpty=true):
  Meets (Builtin.«tuple.__add__» ⟨[.ref l,.ref b],[]⟩) (λ_ R s=>s.heap.get? l=some { cls:=.type "tuple",dict:=m,data:=.seq a n,slots:=i }/\s.heap.get? b=some { cls:=.type "tuple",dict:=e,data:=.seq c k,slots:=f }/\R (.ok<|.ret<|Value.ref b) s) :=
 .of_wp λprog w A R s h=>by obtain⟨x,g,d,r,v⟩:=s;obtain⟨q,j,h⟩:=h;have u:=PySem.AutoSeq1.idx_int;have t:=PySem.AutoSeq1.sub_tuple_tuple;wp_walk using WG q,WG j;exact⟨_,rfl,h⟩
/---/def Jr(K:ZX):R2:=λx y H Q=>∃a b ys,x=.ref a/\y=.ref b/\SqT K H a []/\SqT K H b ys/\Q .fT H
def MX:.ap .iF (Jr X.K):=by
 intro pins s σ H x y v u Q I A D h;obtain⟨a,b,K,rfl,rfl,r,B,q⟩:=h;cases A;cases D;obtain⟨E,w,t,_⟩:=I.tuple r;obtain⟨f,J,G,_⟩:=I.tuple B;cases w;obtain⟨⟨cls,F,data,z⟩,o,k,n,m⟩:=id t;obtain⟨⟨l,g,j,i⟩,c,e,C,d⟩:=id G;simp only at k m e d;subst k m e d;exact concat_meets ⟨_,o,rfl⟩ ⟨_,c,rfl⟩ noFill_tuple_add seq_tuple_add PySem.F.slot_tuple_add PySem.F.entry_tuple_add (U2 _ _)
  (BC a b _ f.toArray n C F g z i rfl) ⟨o,c,⟨.ref b,H,I,rfl,q⟩⟩
def MY:.ap .iF (λx y H Q=>Jr X.K x y H Q\/A9 X.K x y H Q):=MX.or E6
def MZ{K:ZX}:Og K tw (λx y H Q=>Jr K x y H Q\/A9 K x y H Q):=by
 intro ρ H σd C σ d k v w Q i rv g e;cases d with
 |tup s =>
  cases k with
  |tup u =>
   dsimp[tw]at e;split at e
   ·rename_i A
    dsimp[RD]at rv;obtain⟨a,m,rfl,h,c⟩:=rv;have n:=g;dsimp[RD]at g;obtain⟨b,j,rfl,r,f⟩:=g;cases s with
    |nil =>
     dsimp[RDs]at c;subst c;exact .inl ⟨a,b,j,rfl,rfl,SqT.of h,SqT.of r,e.here i (by simpa using n)⟩
    |cons x s =>
     refine .inr ⟨a,b,m,j,rfl,rfl,SqT.of h,SqT.of r,?_,?_,λz=>?_,λ_ q t=>?_⟩
     ·intro z;subst z;have:=c.length;simp at this
     ·rw[<-c.length,<-f.length];exact qf A
     ·subst z
      have B:u=[]:=by have:=f.length;simpa using this
      subst B;exact e.here i (by dsimp[rD,RD];exact⟨a,m,rfl,h,by simpa using c⟩)
     ·have l:=cV (o:=HO.tup (m++j)) t
      exact e.at (.fi l) (i.same l) (by dsimp[rD,RD];exact⟨q,_,rfl,bB,(RDs.append c f).mono (.c0 l)⟩)
   ·exact e.elim
  |_=>exact e.elim
 |_=>exact e.elim
end
section
variable{K:ZX}{ρ:.I}{H:Hp}{hd:Hd}
noncomputable abbrev kyT(k:.b):List Key:=k.map λi=>(Sum.inl i:Key)
def zw(e:kyT a=kyT b):a=b:=by
 have:=congrArg (List.map λx:Key=>match x with | .inl i=>i|_=>0) e;simpa[kyT,y3,Function.comp_def] using this
def Qa(k:.b):(.dO).map kV=k.map V.int:=by
 rw[kyT,y3];rfl
def RH.allocT(r:.aW){p:Addr}(hp:RC K ρ H .jb p)(hn:p∉ρ):RH K .ho H (hd++[.dcT l]):=by
 have k:Kp ρ H .ho H:=⟨λn a e=>by rw[ZC (.bs).1];exact e,λ_ _ h=>h,λ_ _ _ h=>h,λ_ _ h=>h⟩;refine⟨by simp[r.len],?_,λn c a f d=>?_⟩
 ·rw[WL]
  exact⟨r.nd,by simp,λa j b i=>by simp at i;subst i;intro e;subst e;exact hn j⟩
 ·by_cases hlt:n<hd.length
  ·rw[ZC hlt]at f
   rw[ZC .qR]at d;exact (.rR).mono k rfl
  ·have m:n=hd.length:=by
    have:=(.le).1;simp at this;lia
   subst m;simp at f;subst f;rw[<-r.len]at d;simp at d;subst d;obtain⟨g,q1,q2,q3⟩:=hp;exact⟨g,q1,q2,q3.mono k⟩
def RH.writeT(r:.aW){p:Addr}(hp:ρ[n]?=some p)(hn:n<hd.length)(h1:b.map (·.1)=l.map .g5)(h2:.AE):RH K ρ (.bx<|.dT b) (hd.set n .jb):=by
 have k:.jK (.bx<|.dT b):=by
  have d:=ZK hp;refine⟨λ_ _ h=>h,λa f e=>?_,λa o u e=>?_,λa φ e=>?_⟩
  ·rw[aJ .zW];exact e
  ·rw[aJ .zX];exact e
  ·rw[aJ .zY];exact e
 refine⟨by simp[r.len],r.nd,λm c a q1 q2=>?_⟩
 by_cases e:n=m
 ·subst e
  rw[Z1 hn]at q1;cases q1;rw[hp]at q2;cases q2;exact⟨b,bB,h1,h2.mono k⟩
 ·rw[ZP e]at q1
  have ne:a≠p:=λz=>by
   subst z;exact e (qe r.nd hp q2)
  exact(r.cel m c a q1 q2).mono k (aJ ne)
theorem rY(k:.b):∀{l:.cV} {a:.gh},a.map (·.1)=l.map .g5->RDs K ρ H .cy .lD->
  (gw l k=none/\iT a .dO=none)\/∃d v,gw l k=some d/\iT a .dO=some v/\.bJ d v
 |[],[],_,_=>.inl ⟨rfl,rfl⟩
 |[],_::_,h,_=>by simp at h
 |_::_,[],h,_=>by simp at h
 |(j,d)::l,(m,v)::a,h1,h2=>by
  dsimp[yP,WR]at h1;dsimp[yP,RDs]at h2;obtain⟨o,n,e,q1,q2⟩:=h2;cases e;obtain⟨c,b⟩:=h1;subst c
  by_cases e:j=k
  ·subst e
   exact .inr ⟨d,v,by simp[gw],by simp[iT],q1⟩
  ·have f:=rY k b q2
   have g:gw ((j,d)::l) k=gw l k:=by simp[gw,e]
   have i:iT ((kyT j,v)::a) .dO=iT a .dO:=nF (λz=>e (zw z));rw[g,i];exact f
theorem BD(k:.b):∀{l:.cV} {a:.gh},a.map (·.1)=l.map .g5->(a.any λc=>decide (c.1=kyT k))=l.any λp=>decide (p.1=k)
 |[],[],_=>rfl
 |[],_::_,h=>by simp at h
 |_::_,[],h=>by simp at h
 |(j,d)::l,(g,v)::a,h1=>by
  dsimp[yP,WR]at h1;obtain⟨f,b⟩:=h1;subst f;have:decide (kyT j=kyT k)=decide (j=k):=by
   by_cases e:j=k
   ·simp[e]
   ·rw[Z6 e,Z6 λz=>e (zw z)]
  dsimp[V5,this,BD k b]
theorem yb(k:.b){c:D}{f:V}(g:.bJ c f):∀{l:.cV} {a:.gh},a.map (·.1)=l.map .g5->RDs K ρ H .cy .lD->
  (.vZ).map (·.1)=(.l8).map .g5/\.ay ((.l8).map (·.2)) ((.vZ).map (·.2))
 |[],[],_,_=>⟨rfl,RDs.nil⟩
 |[],_::_,h,_=>by simp at h
 |_::_,[],h,_=>by simp at h
 |(j,d)::l,(r,v)::a,h1,h2=>by
  dsimp[yP,WR]at h1;dsimp[yP,RDs]at h2;obtain⟨t,s,e,q1,q2⟩:=h2;cases e;obtain⟨q,o⟩:=h1;subst q;obtain⟨m,i⟩:=yb k g o q2
  by_cases e:j=k
  ·subst e
   dsimp[yP,WB];exact⟨by rw[m],RDs.cons g i⟩
  ·have n:¬kyT j=kyT k:=λz=>e (zw z)
   dsimp[yP,yD e,yD n];exact⟨by rw[m],RDs.cons q1 i⟩
def GL(k:.b)(d:.bJ b c)(h1:a.map (·.1)=l.map .g5)(h2:.AF):
  (kU a .dO c).map (·.1)=(vd l k b).map .g5/\.ay ((vd l k b).map (·.2)) ((kU a .dO c).map (·.2)):=by
 unfold kU vd;rw[BD k h1];split
 ·exact yb k d h1 h2
 ·refine⟨by simp[h1],?_⟩
  rw[ZR,ZR];exact RDs.append h2 (.lH d)
def zx(rv:.bJ .hn v)(e:cC l=some k):∃b,v=.ref b/\H b=some (.tup<|(.dO).map kV):=by
 dsimp[RD]at rv;obtain⟨b,d,rfl,a,c⟩:=rv;rw[ik c e]at a;exact⟨b,rfl,by rw[Qa];exact a⟩
end
section
variable{X:Cx}{pos p:Pos}
def Js:.l .oU Dn:=by
 refine PE.imp Jg λσ H Q ⟨ρ,σd,h,a,e⟩=>λq b=>?_;have d:=cV (o:=HO.dT []) b;have f:=a.hp.free b;have g:=(a.hp.same d).allocT (l:=[]) ⟨[],bB,rfl,RDs.nil⟩ f;have c:.cG (ρ++[q]) (.az q<|.dT []):=Ext.alloc b;refine cB.at e c (a.ext c g) ?_;dsimp[rD,RD];refine⟨q,?_,rfl⟩;rw[<-a.hp.len];simp
/---/def Fq(K:ZX):R2:=λx y H Q=>∃a o,y=.ref a/\qm H a x o/\Q (.bl<|!o.isSome) H
def GM(b:.hz):.ap (.cY .NotIn) (Fq X.K):=by
 intro pins s σ H x y v u Q I d e h;obtain⟨a,o,rfl,g,q⟩:=h;obtain rfl:u=Value.ref a:=e;exact MM b I g d λf c=>⟨.bl (!o.isSome),H,c,rfl,q⟩
def GN{K:ZX}:Og K qc (Fq K):=by
 intro ρ H σd r σ d k v w Q j rv g f;unfold qc at f;cases d<;>try exact f.elim
 cases k<;>try exact f.elim
 rename_i l n
 simp only at f;cases i:cC l with
 |none=>rw[i]at f;exact f.elim
 |some k =>
  rw[i]at f;obtain⟨b,rfl,t⟩:=zx rv i;dsimp[RD]at g;obtain⟨a,s,rfl⟩:=g;cases c:r[n]? with
  |none=>rw[c]at f;exact f.elim
  |some cell =>
   rw[c]at f;cases cell with
   |lst l=>exact f.elim
   |dct _=>exact f.elim
   |ob _=>exact f.elim
   |dcT m =>
    simp only at f;obtain⟨h,q1,q2,q3⟩:=j.hp.cel n _ a c s;refine⟨a,iT h .dO,rfl,qm.t q1 t,?_⟩;have e:(iT h .dO).isSome=(gw m k).isSome:=by
     rcases rY k q2 q3 with ⟨q,o⟩|⟨d,v,q,o,_⟩<;>rw[q,o]<;>rfl
    rw[e];exact f.here j .aU
def M3{fo D G:EF}(K:.hz)(he:.l e G)(Z:.hI)(hi:.l i D)(N:autoParam (swapsWithSole .mU e pos.line X.env=pure false) Q3Q._auto_1)(hw:autoParam (swappedStores .mU e X.env=pure none) Q3Q._auto_1)
  (h1:autoParam ((.lG .mU).map (·.2)=[assign (.Subscript o i g) X.env]) Q3Q._auto_1) (ha:autoParam (∀v,assign (.Subscript o i g) X.env v=(do
   let ov <-holding [v] .db
   let w <-holding [v,ov] .nq
   standAt g
   holding [v,ov,w] (setItem ov w v)
   release [v,ov,w] [])) Q2Q._auto_1):MS X (.lF .mU) (EZ fo D G):=by
 refine PS.imp (Dr he (Dq Z hi (BA K) ha) N hw h1) λEn σ H ⟨ρ,σd,Q,S,p⟩=>⟨ρ,σd,Q,S,(.iT).imp λv H1 zz=>?_⟩;obtain⟨x,d,A,e1,t,rv,T⟩:=zz;refine⟨x,σd,A,t,(cQ.outE T).imp λvo H2 zz=>?_⟩;obtain⟨B,dO,z,J,h,O,g⟩:=zz;refine⟨B,σd,z,h,(cQ.outE g).imp λvi I zz=>?_⟩;obtain⟨j,P,u,E,q,Y,f⟩:=zz;have C:=(.dq<|t.hp.kp J).mono (h.hp.kp E);have s:=O.mono (h.hp.kp E);cases dO with
 |ref n =>
  cases P with
  |tup l =>
   simp only at f;cases y:cC l with
   |none=>rw[y]at f;exact f.elim
   |some k =>
    rw[y]at f;obtain⟨b,rfl,M⟩:=zx Y y;cases c:u[n]? with
    |none=>rw[c]at f;exact f.elim
    |some cell =>
     rw[c]at f;cases cell with
     |lst l=>exact f.elim
     |dct _=>exact f.elim
     |ob _=>exact f.elim
     |dcT m =>
      simp only at f;split at f
      ·rename_i V
       dsimp[RD]at s;obtain⟨a,ha,rfl⟩:=s;obtain⟨r,q1,q2,q3⟩:=q.hp.cel n _ a c ha;have R:r.length=m.length:=by have:=.eu q2;simpa using this
       refine⟨a,_,rfl,Bs.t q1 M (by rw[R];exact Z5 V .mY),?_⟩;have U:n<u.length:=(.i3).1;obtain⟨L,u2⟩:=GL k C q2 q3;have W:=q.hp.writeT ha U L u2;have F:Ext j I j (upd I a<|.dT<|kU r .dO v):=Ext.write (ZK ha);exact f σ _ j F (q.ext F W)
      ·exact f.elim
  |_=>exact f.elim
 |_=>exact f.elim
def M4(r:.hz)(ha:.l a j)(hb:.l b o)(s:autoParam (PU b) Q6Q._auto_1):.l (.dZ a b) (Ik j o):=by
 refine me2 (a:=a) (b:=b) (MP r ha hb s) λρ H σd u σ d k v w Q h rv g p=>?_;unfold Ij at p;cases d<;>try exact p.elim
 cases k<;>try exact p.elim
 rename_i n l
 simp only at p;cases e:cC l with
 |none=>rw[e]at p;exact p.elim
 |some k =>
  rw[e]at p;obtain⟨b,rfl,hb⟩:=zx g e;dsimp[RD]at rv;obtain⟨a,ha,rfl⟩:=rv;cases c:u[n]? with
  |none=>rw[c]at p;exact p.elim
  |some cell =>
   rw[c]at p;cases cell with
   |lst l=>exact p.elim
   |dct _=>exact p.elim
   |ob _=>exact p.elim
   |dcT m =>
    simp only at p;obtain⟨t,q1,q2,q3⟩:=h.hp.cel n _ a c ha;rcases rY k q2 q3 with ⟨f,i⟩|⟨d,v,f,i,q⟩
    ·rw[f]at p;exact p.elim
    ·rw[f]at p
     exact⟨a,v,rfl,by have z:=qm.t q1 hb;rw[i]at z;exact z,p.here h q⟩
end
end Fm
namespace Fm
open PySem PySem.Spec L2
open PyProof.Rows (Call_)
section
variable{prog:P2}{w:N3}{A:P1}{E:.q}{s:Q5}{z TI TO i1 i2 l1 l2:Addr}{k:Nat}{xs ys:.bw}{a b:S1}
end
section
variable{prog:P2}{w:N3}{A:P1}{E:.q}{s:Q5}
end
def M5{σ:St}{t':Nat}{ch:.I}(I:.th)(k:∀b o,b∉ch->s.heap.get? b=some o->h'.get? b=some o)(d:∀b∈ch,vg X pins H b):
  L2.Inv X pins σ H .fp:=by
 have f:∀b u,H b=some u->b∉ch:=λb u e z=>by rw[(d b z).1]at e;cases e
 refine I.step (λb g=>⟨(d b g).2.2.2.1,(d b g).2.1,(d b g).2.2.2.2.1,(d b g).2.2.2.2.2⟩) (λb o _ _ a e _=>k b o a e) (λb o _ _ a e _=>⟨o.slots,k b o a e⟩) (λ_ _ _ _ n=>n)
  (λb o a e=>⟨o,k b o a e⟩) (λ_ _ e=>e) (λ_ _ _ e=>e) (λb p e=>⟨#[],by rw[e];simp⟩) (λm h=>?_) (λb u e=>?_) I.bare
 ·obtain⟨o,l,i,j,r⟩:=h
  exact⟨o,l,i,k _ o (λz=>(d _ z).2.1 rfl) j,r⟩
 ·refine (.nw).stay (λc v a q=>k c v ?_ q) .n0 λ_ _ q=>q
  rcases a with z|z
  ·rw[z];exact f b u e
  ·exact f c _ z
section
variable{X:Cx}{pos p tp:Pos}{elts:.a8}{tk:Nat}
end
end Fm
namespace Ts
open PySem PyProof.Rows
variable{x:Keyed}
section
variable{r:.ar}
noncomputable abbrev lE(r:.ar)(x y:Keyed):Prop:=r y x=false
/---/def mO(r:.ar)(k x:Keyed):Bool := !(r x k||r k x)
structure Stb(r:.ar)(l m:.am):Prop where
 pm:l.Perm m
 fl:∀k,l.filter (mO r k)=m.filter (mO r k)
namespace Stb
variable{l m l' m' n:.am}
def refl(l:.am):.aA l l:=⟨.refl _,λ_=>rfl⟩
def trans(h:.aA l m)(g:.aA m n):.aA l n:=⟨h.pm.trans g.pm,λk=>(h.fl k).trans (g.fl k)⟩
def symm(h:.aA l m):.aA m l:=⟨h.pm.symm,λk=>(h.fl k).symm⟩
def append(h:.aA l m)(g:.aA l' m'):.aA (l++l') (m++m'):=⟨h.pm.append g.pm,λk=>by rw[XS,XS,h.fl,g.fl]⟩
def append_left(l:.am)(g:.aA l' m'):.aA (l++l') (l++m'):=(refl l).append g
def append_right(l:.am)(g:.aA l' m'):.aA (l'++l) (m'++l):=g.append (refl l)
def flip(tr:.sZ)(h:∀b∈B,∀a∈A,r b a=true):.aA (B++A) (A++B):=by
 refine⟨List.perm_append_comm,λk=>?_⟩;rw[XS,XS];cases hB:B.filter (mO r k) with
 |nil=>simp
 |cons b j =>
  have f:b∈B.filter (mO r k):=by rw[hB];exact .head _
  have i:A.filter (mO r k)=[]:=by
   rw[List.filter_eq_nil_iff];intro a g c;obtain⟨e,d⟩:=Y2.mp f;have z:=h b e a g;dsimp[mO,UL,Bool.or_eq_false_iff]at c d;rw[tr c.2 d.1]at z;cases z
  rw[i];simp
def turn{l m:.am}(h:Stb (λx y=>r y x) l m):.aA l.reverse m.reverse:=by
 refine⟨(.An).trans (h.pm.trans (.An).symm),λk=>?_⟩;rw[List.filter_reverse,List.filter_reverse];congr 1;have:=h.fl k;have e:mO (λx y=>r y x) k=mO r k:=by funext x;dsimp[mO,Bool.or_comm]
 rwa[e]at this
def length_eq(h:.aA l m):l.length=m.length:=h.pm.length_eq
def mem_iff(h:.aA l m):x∈l↔x∈m:=h.pm.mem_iff
end Stb
structure MI(r:.ar)(a b out:.C)(i j:Nat):Prop where
 tr:∀{x y z:Keyed},r y x=false->r z y=false->r z x=false
 as:∀{x y:Keyed},r x y=true->r y x=false
 pm:.aA out.toList (a.toList.take i++b.toList.take j)
 st:∀y∈b.toList.take j,∀x∈a.toList.drop i,r y x=true
 so:out.toList.Pairwise .V
 lo:∀x∈out.toList,(∀y∈a.toList.drop i,lE r x y)/\∀y∈b.toList.drop j,lE r x y
 ha:i<=a.size
 hb:j<=b.size
variable{a b out:.C}{i j k:Nat}
def rZ(xs:Array α)(i k:Nat):(xs.extract i<|i+k).toList=(.it).take k:=by
 rw[Array.toList_extract,List.extract_eq_take_drop];simp
def vG(l:List α)(i k:Nat):l.take (i+k)=l.take i++(.n4).take k:=by
 rw[List.take_add]
def MI.segA(m:.hC)(sa:.e4)(g:i+k<=a.size)(h:∀x∈(.eG).take k,∀y∈b.toList.drop j,lE r x y):MI r a b .y1 (i+k) j:=by
 have e:(.y1).toList=out.toList++(.eG).take k:=by rw[Array.toList_append,rZ]
 have l:(.eG).Pairwise .V:=sa.sublist (wh _ _);have f:.eG=(.eG).take k++a.toList.drop (i+k):=by rw[<-List.drop_drop];exact(XC _ _).symm
 have sx:=l;rw[f,Z8]at sx;refine⟨m.tr,m.as,?_,λy d x c=>m.st y d x (by rw[f];exact YS _ c),?_,λx c=>?_,g,m.hb⟩
 ·rw[e,vG]
  refine(m.pm.append_right _).trans ?_;rw[ZU,ZU];exact Stb.append_left _ (Stb.flip (r:=r) m.tr λy d x c=>m.st y d x (XG c))
 ·rw[e,Z8]
  exact⟨m.so,sx.1,λx c y d=>(m.lo x c).1 y (XG d)⟩
 ·rw[e]at c
  rcases Z0.mp c with c|c
  ·refine⟨λy d=>(m.lo x c).1 y ?_,(m.lo x c).2⟩
   rw[f];exact YS _ d
  ·exact⟨λy d=>sx.2.2 x c y d,h x c⟩
def MI.segB(m:.hC)(sb:.jf)(g:j+k<=b.size)(h:∀x∈(.kx).take k,∀y∈a.toList.drop i,r x y=true):MI r a b .y0 i (j+k):=by
 have e:(.y0).toList=out.toList++(.kx).take k:=by rw[Array.toList_append,rZ]
 have l:(.kx).Pairwise .V:=sb.sublist (wh _ _);have f:.kx=(.kx).take k++b.toList.drop (j+k):=by rw[<-List.drop_drop];exact(XC _ _).symm
 have sx:=l;rw[f,Z8]at sx;refine⟨m.tr,m.as,?_,λy c x d=>?_,?_,λx d=>?_,m.ha,g⟩
 ·rw[e,vG,<-ZU]
  exact m.pm.append_right _
 ·rw[vG]at c
  rcases Z0.mp c with c|c
  ·exact m.st y c x d
  ·exact h y c x d
 ·rw[e,Z8]
  exact⟨m.so,sx.1,λx d y c=>(m.lo x d).2 y (XG c)⟩
 ·rw[e]at d
  rcases Z0.mp d with d|d
  ·refine⟨(m.lo x d).1,λy c=>(m.lo x d).2 y ?_⟩
   rw[f];exact YS _ c
  ·exact⟨λy c=>m.as (h x d y c),λy c=>sx.2.2 x d y c⟩
def BE(e:.ly):out.push x=out++a.extract i (i+1):=by
 obtain⟨h,rfl⟩:=W0.mp e;apply Array.ext';rw[UM,Array.toList_append,rZ];congr 1;rw[XE .fD];simp
def zy(tr:.sZ)(sa:.e4)(e:a[i]?=some u)(h:lE r x u):∀y∈a.toList.drop i,lE r x y:=by
 obtain⟨g,rfl⟩:=W0.mp e;have d:a.toList.drop i=a[i]::a.toList.drop (i+1):=by rw[XE .qG];rfl
 have f:(.eG).Pairwise .V:=sa.sublist (wh _ _);rw[d]at f⊢;intro y c;rcases y4.mp c with rfl|c
 ·exact h
 ·exact tr h ((Z4.mp f).1 y c)
def zz(tr:.sZ)(sa:.e4)(e:a[i]?=some u)(h:r x u=true):∀y∈a.toList.drop i,r x y=true:=by
 obtain⟨g,rfl⟩:=W0.mp e;have d:a.toList.drop i=a[i]::a.toList.drop (i+1):=by rw[XE .qG];rfl
 have f:(.eG).Pairwise .V:=sa.sublist (wh _ _);rw[d]at f⊢;intro y c;rcases y4.mp c with rfl|c
 ·exact h
 ·cases w:r x y with
  |true=>rfl
  |false=>rw[tr ((Z4.mp f).1 y c) w]at h;cases h
def Jt(e:.ly):(.eG).take 1=[x]:=by
 have f:a.toList[i]?=some x:=by rw[YG];exact e
 obtain⟨d,c⟩:=zS.mp f;rw[XE d,c];rfl
def MI.pushA(m:.hC)(sa:.e4)(e:.ly)(h:∀y∈b.toList.drop j,lE r x y):MI r a b (out.push x) (i+1) j:=by
 have f:=(W0.mp e).1;rw[BE e];refine m.segA sa f λz c=>?_;have:(.eG).take 1=[x]:=by
  have l:a.toList[i]?=some x:=by rw[YG];exact e
  obtain⟨g,d⟩:=zS.mp l;rw[XE g,d];rfl
 rw[this,yS]at c;subst c;exact h
def MI.pushB(m:.hC)(sb:.jf)(e:b[j]?=some x)(h:∀y∈a.toList.drop i,r x y=true):MI r a b (out.push x) i (j+1):=by
 have d:=(W0.mp e).1;rw[BE e];refine m.segB sb d λz c=>?_;rw[Jt e,yS]at c;subst c;exact h
def MI.endA(m:.hC)(sa:.e4)(h:j=b.size):Stb r (.yH).toList .mJ/\(.yH).toList.Pairwise .V:=by
 have d:i+(a.size-i)=a.size:=by have:=m.ha;lia
 have z:b.toList.drop j=[]:=by rw[h];simp
 have q:=m.segA (k:=a.size-i) sa .a λx _ y c=>by rw[z]at c;cases c
 rw[d]at q;have p:=q.pm;rw[show a.toList.take a.size=a.toList from XB .e,h,show b.toList.take b.size=b.toList from XB .e]at p;exact⟨p,q.so⟩
def MI.endB(m:.hC)(sb:.jf)(h:i=a.size):Stb r (.yG).toList .mJ/\(.yG).toList.Pairwise .V:=by
 have d:j+(b.size-j)=b.size:=by have:=m.hb;lia
 have z:a.toList.drop i=[]:=by rw[h];simp
 have q:=m.segB (k:=b.size-j) sb .a λx _ y c=>by rw[z]at c;cases c
 rw[d]at q;have p:=q.pm;rw[show b.toList.take b.size=b.toList from XB .e,h,show a.toList.take a.size=a.toList from XB .e]at p;exact⟨p,q.so⟩
def MI.endBA(m:.hC)(sa:.e4)(sb:.jf)(h:∀x∈b.toList.drop j,∀y∈a.toList.drop i,r x y=true):
  Stb r (.vW).toList .mJ/\(.vW).toList.Pairwise .V:=by
 have d:j+(b.size-j)=b.size:=by have:=m.hb;lia
 have q:=m.segB (k:=b.size-j) sb .a λx c=>h x (XG c);rw[d]at q;exact q.endA sa rfl
end
end Ts
namespace HT
open PySem PySem.Spec PyProof.Rows L2
section
variable{prog:P2}{w:N3}{A:P1}{E:.q}{s:Q5}
def getItem_tuple_whole{lo hi:.aF}(ht:.jH t a)(j:s.heap.IsSliceOf d k g .none)(pl:IsPart k lo)(l:IsPart g hi)
  (i:sIx a.size 0 lo=0/\sIx a.size a.size hi=a.size) (h:Q (.ref t) s):.bI .zp Q E s:=by
 obtain⟨n,c,f,m⟩:=id j;have e:s.TypeIs (.ref d) "slice" := ⟨n,c,f⟩;unfold getItem
 try with_reducible refine WE ?_
 first|refine z0 .aZ|skip
 refine z0 (wpAny_sequenceKey ht.typeIs .c ?_);refine z0 (WW (name:=Str.ofString "__getitem__") ht.typeIs W6
  (WJ W6 ht.typeIs entry_tuple_getitem ?_ .y6))
 show wpAny _ _ .v5 _ _ s;refine z0 (tupleItemsOf_ ht ?_);refine z0 (wpAny_typeOf e ?_);rw[z4 .c];refine z0 (kQ j pl l ?_);have b:(.pf=true):=by
  rw[i.1,i.2];simp
 show wpAny _ _ .x5 _ _ s;rw[z4 b];refine z0 ?_;unfold Builtin.Tuple.tupleIsExact;refine z0 (wpAny_typeOf ht.typeIs .aZ);rw[z4 .c];refine z0 (wpAny_rule ?_)
 first
  |exact wX ⟨_,rfl,wX h⟩
  |exact z0 .il
  |exact z0 (wX .il)
end
end HT
namespace Fm
open PySem PySem.Spec L2 PySem.W PyProof.Rows
section
variable{X:Cx}{pos p:Pos}
/---/def R4(K:ZX):V->Option Int->Option Int->Hp->VK->Prop:=λx lo hi H Q=>∃a xs,x=.ref a/\SqT K H a xs/\
 (.px->Q .dg H)/\
 (¬.px->∀p,H p=none->.dv .z2)
def M6:SlR X (R4 X.K):=by
 intro pins s σ H x v q t n f o Q I i j k l h;obtain⟨a,b,rfl,m,q1,q2⟩:=h
 by_cases d:HT.sIx b.length 0 n=0/\HT.sIx b.length b.length f=b.length
 ·cases i
  obtain⟨e,r,g,u⟩:=I.tuple m;have c:e.toArray.size=b.length:=by rw[ZY];exact r.length.symm
  refine⟨"tuple",_,PyProof.Rows.slot_tuple_getitem.lookup,g.typeIs,?_⟩;exact HT.getItem_tuple_whole g j k l (by rw[c];exact d) ⟨.ref a,H,I,rfl,q1 d⟩
 ·exact IH pins s σ H _ v q t n f o Q I i j k l ⟨a,b,rfl,m,d,q2 d⟩
def GO(h:.jG 0 i=0/\.jG l.length j=l.length):cut l i j=l:=by
 unfold cut;rw[h.1,h.2];simp
def yc{lo hi:Option Expr}(ha:.l a z)(K:MO X lo fl)(I:MO X hi x):.l (.dZ a<|.o4 w) (jY z fl x):=by
 refine PE.imp (A8 M6 ha K I) λσ H Q ⟨ρ,σd,E,L,y⟩=>?_;unfold jY at y;refine⟨ρ,σd,E,L,(cB.bind (R:=rD X.K) y).imp λv U zz=>?_⟩;obtain⟨k,d,s,T,h,rv,M⟩:=zz;refine⟨k,σd,s,h,(cB.bind (R:=rO) M).imp λS W zz=>?_⟩;obtain⟨t,J,r,C,c,q2,w⟩:=zz;cases q2;refine⟨t,σd,r,c,(cB.bind (R:=rO) w).imp λD V zz=>?_⟩;obtain⟨F,O,P,G,f,q3,g⟩:=zz;cases q3;have i:=(.dq<|h.hp.kp C).mono (c.hp.kp G);cases d with
 |tup l =>
  simp only at g;dsimp[RD]at i;obtain⟨q,m,rfl,A,b⟩:=i;have e:∀(n d:Nat) (o:.aF),Fm.sIx n d o=HT.sIx n d o:=λn d o=>by cases o<;>rfl
  refine⟨q,m,rfl,SqT.of A,λB=>?_,λ_ N j=>?_⟩
  ·rw[<-b.length,<-e,<-e]at B
   rw[GO B]at g;exact g.here f (by dsimp[rD,RD];exact⟨q,m,rfl,A,b⟩)
  ·have u:=cV (o:=HO.tup (rM m S D)) j
   exact g.at (.fi u) (f.same u) (by dsimp[rD,RD];exact⟨N,_,rfl,bB,(zm b).mono (.c0 u)⟩)
 |_=>exact g.elim
end
end Fm
namespace Ts
open PySem PyProof.Rows
/---/def mLo:Array Keyed->Array Keyed->.jz .fK:=sortPriv% PySem.Builtin.mergeLo
noncomputable abbrev eJ(st:SortSt)(g:Nat):SortSt:=SortSt.mk' (kindOf st) .be .dC g .sL
/---/def gR(a b o:.C)(i j:Nat):Array Keyed:=o++a.extract i a.size++b.extract j b.size
/---/def iI(a b o:.C)(i j:Nat):Array Keyed:=o++b.extract j b.size++a.extract i a.size
noncomputable abbrev C1:=Option .fK × Array Keyed × Nat × Nat × Nat
noncomputable abbrev C2:=Option .fK × Array Keyed × Nat × Nat × Nat × Nat
noncomputable abbrev C3:=Option .fK × Array Keyed × Nat × Nat × Nat × Nat × Nat
noncomputable abbrev SM:=StateT SortSt Sem
/---/def lo1(a b:.C)(g:Nat)(o:.C)(i j u v:Nat):SM (ForInStep C2):=do
 let x <-elem' b j
 let y <-elem' a i
 let some w <-lt' x y|pure (.done (some .np,o,i,j,u,v))
 if w then do
  let x <-elem' b j
  if j+1 == b.size then pure (.done (some .q6,o.push x,i,j+1,0,v+1))
  else if v+1≥g then pure (.done (none,o.push x,i,j+1,0,v+1)) else pure (.cb (none,o.push x,i,j+1,0,v+1))
 else do
  let y <-elem' a i
  if i+1+1 == a.size then pure (.done (some .Ab,o.push y,i+1,j,u+1,0))
  else if u+1≥g then pure (.done (none,o.push y,i+1,j,u+1,0)) else pure (.cb (none,o.push y,i+1,j,u+1,0))
/---/def lo4(a b o:.C)(i j g u v:Nat):SM .sH:=do
 let y <-elem' a i
 if i+1+1 == a.size then pure (.done (some .Ab,o.push y,i+1,j,g,u,v))
 else if (decide (u<7)&&decide (v<7))=true then pure (.done (none,o.push y,i+1,j,g,u,v)) else pure (.cb (none,o.push y,i+1,j,g,u,v))
/---/def lo3(a b o:.C)(i j g u v:Nat):SM .sH:=do
 let x <-elem' b j
 if j+1 == b.size then pure (.done (some .q6,o.push x,i,j+1,g,u,v))
 else do
  let y <-elem' a i
  let some k <-nt true y b (j+1) (b.size-(j+1)) 0|pure (.done (some .q6,o.push x,i,j+1,g,u,v))
  if k>0 then
   if j+1+k == b.size then pure (.done (some (gR a b .wX i<|j+1+k),o.push x++b.extract (j+1) (j+1+k),i,j+1+k,g,u,k))
   else lo4 a b .wX i (j+1+k) g u k
  else lo4 a b .eg i (j+1) g u k
/---/def lo2(a b o:.C)(i j u v g:Nat):SM .sH:=do
 modify (eJ · g)
 let x <-elem' b j
 let some k <-nt false x a i (a.size-i) 0|pure (.done (some .np,o,i,j,g,u,v))
 if k>0 then
  if i+k+1 == a.size then pure (.done (some (iI a b .qY (i+k) j),o++a.extract i (i+k),i+k,j,g,k,v))
  else if i+k == a.size then pure (.done (some (gR a b .qY (i+k) j),o++a.extract i (i+k),i+k,j,g,k,v))
  else lo3 a b .qY (i+k) j g k v
 else lo3 a b o i j g k v
variable{n:Nat}{x:Keyed}{xs:.C}
section
variable{M:Model}{A:P1}{E:.q}{s:Q5}{kd:SortKind}{S:.dk}{r:.ar}
/---/def Mgd(r:.ar)(a b o:.C):Prop:=Stb r o.toList .mJ/\o.toList.Pairwise .V
structure Two(M:Model)(A:P1)(E:.q)(s:Q5)(kd:SortKind)(S:.dk)(r:.ar)(a b:.C):Prop where
 C:Cmp M A E s kd S r
 Sa:∀x∈a.toList,S x
 Sb:∀x∈b.toList,S x
 sa:a.toList.Pairwise .V
 sb:b.toList.Pairwise .V
structure LI(r:.ar)(a b o:.C)(i j:Nat):Prop where
 m:MI r a b o i j
 hi:i+1<a.size
 hj:j<b.size
variable{a b o:.C}{i j g u v:Nat}{st:SortSt}
def qo(xs:Array α){i:Nat}(h:i=xs.size):xs.extract i xs.size = #[]:=by subst h;simp
def qp(T:.bg)(m:.hF)(h:j=b.size\/i=a.size):.c3 .np:=by
 unfold gR;rcases h with h|h
 ·rw[qo b h,zp];exact m.endA T.sa h
 ·rw[qo a h,zp];exact m.endB T.sb h
def kB{xs:Array α}{i:Nat}(h:i<xs.size):∃x,xs[i]?=some x/\x∈xs.toList:=⟨xs[i],XO h,by simp⟩
def zA(T:.bg)(c:.hw)(m:.hF)(h:i+1=a.size):.c3 (iI a b o i j):=by
 unfold iI;refine m.endBA T.sa T.sb λx e y d=>c x (WD e) y ?_;rw[show a.size-1=i by lia];exact d
def Qb(T:.bg)(q:.hw)(L:LI r a b o i j)(F:.aV){Q:ForInStep C2->SortSt->Prop}
  (q1:∀x c e d f k,Mgd r a b x->Q (.done (some x,c,e,d,f,k)) st) (q2:∀c e d f k,LI r a b c e d->o.size<c.size->Q (.done (none,c,e,d,f,k)) st) (q3:∀c e d f k,LI r a b c e d->o.size<c.size->Q (.cb (none,c,e,d,f,k)) st) :
  wpS M A E s (lo1 a b g o i j u v) Q st:=by
 have ⟨m,B,t⟩:=L;obtain⟨x,n,D⟩:=kB t;obtain⟨y,p,C⟩:=kB (show i<a.size by lia);unfold lo1;refine v3 (cU n (v3 (cU p (v3 (T.C.ask (T.Sb x D) (T.Sa y C) F ?_)))));dsimp only;cases w:r x y with
 |true =>
  rw[z4 rfl];refine v3 (cU n ?_);have l:=m.pushB T.sb n (zz T.C.tr T.sa p w);have z:o.size<(.eg).size:=by simp
  by_cases h:j+1=b.size
  ·rw[z4 .fD]
   exact Z3 (.pc<|qp T l .hQ)
  ·rw[yD .fD]
   have L2:LI r a b .eg i (j+1):=⟨l,B,by lia⟩;split
   ·exact Z3 .mM
   ·exact Z3 .mL
 |false =>
  rw[yD Z7];refine v3 (cU p ?_);have l:=m.pushA T.sa p (zy T.C.tr T.sb n w);have z:o.size<(.dI).size:=by simp
  by_cases h:i+1+1=a.size
  ·rw[z4 .fD]
   exact Z3 (.pc<|zA T q l h)
  ·rw[yD .fD]
   have L2:LI r a b .dI (i+1) j:=⟨l,by lia,t⟩;split
   ·exact Z3 .mM
   ·exact Z3 .mL
def yd(C:.a7){i ht:Nat}(G:.aV)(H:S x)(Sa:∀x∈xs.toList,S x)(sa:xs.toList.Pairwise .V)(hn:i+n<=xs.size)(K:ht<n)
  (q:∀k,k<=n->(∀y∈(.it).take k,lE r y x)->(∀y∈((.it).take n).drop k,r x y=true)->Q .b8 st):.ad (nt false x xs i n ht) Q st:=by
 have l:∀d,d<n->i+d<xs.size:=λd c=>by lia
 have L:∀d,(c:d<n)->xs.toList[i+d]?=some (xs[i+d]'(l d c)):=λd c=>by rw[YG];exact XO (l d c)
 have F:∀d e,(h:d<=e)->(m:e<n)->lE r (xs[i+d]'(l d .a)) (xs[i+e]'(l e m))\/d=e:=λd e h m=>by
  by_cases z:d=e
  ·exact .inr z
  ·have:=Y9.mp sa (i+d) (i+e) (by simp;have:=l d .a;lia) (by simp;have:=l e m;lia) .a
   exact .inl .Ag
 refine yY C G (λd=>if h:d<n then !r x (xs[i+d]'(l d h)) else false) (λd c=>⟨xs[i+d]'(l d c),XO (l d c),Sa _ .e,by simp[c]⟩) H (λd e h m t=>?_) K λk w D J=>q k w (λy B=>?_) λy B=>?_
 ·have c:d<n:=by lia
  dsimp[m,dif_pos]at t;dsimp[c,dif_pos];rcases F d e h m with z|z
  ·have I:r x (xs[i+e]'(l e m))=false:=by simpa using t
   have:=C.tr z I;simp[this]
  ·subst z;exact t
 ·obtain⟨d,c,e⟩:=W7.mp B
  have hd':d<k:=by lia
  have f:d<n:=by lia
  have:=D d hd';dsimp[f,dif_pos]at this;have p:y=xs[i+d]'(l d f):=by rw[<-e];simp
  rw[p];simpa using this
 ·obtain⟨d,c,e⟩:=XX.mp B
  have f:d+k<n:=by simp at c;lia
  have:=J (d+k) .a f;dsimp[f,dif_pos]at this;have p:y=xs[i+(d+k)]'(l _ f):=by rw[<-e];simp;congr 1;lia
  rw[p];simpa using this
def BF(C:.a7){i ht:Nat}(H:.aV)(I:S x)(Sa:∀x∈xs.toList,S x)(sa:xs.toList.Pairwise .V)(hn:i+n<=xs.size)(K:ht<n)
  (q:∀k,k<=n->(∀y∈(.it).take k,r y x=true)->(∀y∈((.it).take n).drop k,lE r x y)->Q .b8 st):.ad (nt true x xs i n ht) Q st:=by
 have f:∀d,d<n->i+d<xs.size:=λd l=>by lia
 have G:∀d e,(h:d<=e)->(m:e<n)->lE r (xs[i+d]'(f d .a)) (xs[i+e]'(f e m))\/d=e:=λd e h m=>by
  by_cases z:d=e
  ·exact .inr z
  ·have:=Y9.mp sa (i+d) (i+e) (by simp;have:=f d .a;lia) (by simp;have:=f e m;lia) .a
   exact .inl .Ag
 refine yY C H (λd=>if h:d<n then r (xs[i+d]'(f d h)) x else false) (λd l=>⟨xs[i+d]'(f d l),XO (f d l),Sa _ .e,by simp[l]⟩) I (λd e h m p=>?_) K λk B F J=>q k B (λy D=>?_) λy D=>?_
 ·have l:d<n:=by lia
  dsimp[m,dif_pos]at p;dsimp[l,dif_pos];rcases G d e h m with z|z
  ·cases w:r (xs[i+d]'(f d l)) x with
   |true=>rfl
   |false =>
    have:=C.tr w z;rw[this]at p;cases p
  ·subst z;exact p
 ·obtain⟨d,l,e⟩:=W7.mp D
  have hd':d<k:=by lia
  have c:d<n:=by lia
  have:=F d hd';dsimp[c,dif_pos]at this;have t:y=xs[i+d]'(f d c):=by rw[<-e];simp
  rw[t];exact this
 ·obtain⟨d,l,e⟩:=XX.mp D
  have c:d+k<n:=by simp at l;lia
  have:=J (d+k) .a c;dsimp[c,dif_pos]at this;have t:y=xs[i+(d+k)]'(f _ c):=by rw[<-e];simp;congr 1;lia
  rw[t];exact this
end
variable{y:Keyed}
section
variable{M:Model}{A:P1}{E:.q}{s:Q5}{kd:SortKind}{S:.dk}{r:.ar}{a b o:.C}{i j g u v:Nat}{st:SortSt}
structure Ju(r:.ar)(a b:.C)(n:Nat)(Q:ForInStep C3->SortSt->Prop)(st:SortSt):Prop where
 q1:∀x o' i' j' g' u' v',Mgd r a b x->Q (.done (some x,o',i',j',g',u',v')) st
 q2:∀o' i' j' g' u' v',LI r a b o' i' j'->n<=o'.size->Q (.done (none,o',i',j',g',u',v')) st
 q3:∀o' i' j' g' u' v',LI r a b o' i' j'->n<=o'.size->Q (.cb (none,o',i',j',g',u',v')) st
def Jv(T:.bg)(d:.hw)(m:.hF)(hi:i+1<a.size)(hj:j<b.size)(f:a[i]?=some y)(h:∀z∈b.toList.drop j,lE r y z)(hn:n<=o.size)(q:Ju r a b n Q st):.ad (lo4 a b o i j g u v) Q st:=by
 unfold lo4;refine v3 (cU f ?_);have e:=m.pushA T.sa f h;have z:n<=(.dI).size:=by simp;lia
 by_cases c:i+1+1=a.size
 ·rw[z4 .aH]
  exact Z3 (.er<|zA T d e c)
 ·rw[yD .aH]
  have L2:LI r a b .dI (i+1) j:=⟨e,by lia,hj⟩;split
  ·exact Z3 .zm
  ·exact Z3 .zl
def Jw(T:.bg)(d:.hw)(m:.hF)(hi:i+1<a.size)(hj:j<b.size)(G:.aV)(ex:b[j]?=some x)(h:∀z∈a.toList.drop i,r x z=true)(hn:n<=o.size)(q:Ju r a b n Q st):.ad (lo3 a b o i j g u v) Q st:=by
 obtain⟨y,e,D⟩:=kB (show i<a.size by lia);unfold lo3;refine v3 (cU ex ?_);have l:=m.pushB T.sb ex h
 by_cases c:j+1=b.size
 ·rw[z4 .aH]
  exact Z3 (.er<|qp T l<|.inl c)
 ·rw[yD .aH]
  refine v3 (cU e (v3 (BF T.C G (T.Sa y D) T.Sb T.sb (n:=b.size - (j + 1)) .a .a λk H C f => ?_)));dsimp only;have f:∀z∈b.toList.drop (j + 1 + k),lE r y z:=λz p=>f z (by
   rw[XB .e,List.drop_drop];exact p)
  by_cases w:k>0
  ·rw[z4 w]
   have B:=l.segB (k:=k) T.sb .a λz p=>zz T.C.tr T.sa e (C z p)
   by_cases t:j+1+k=b.size
   ·rw[z4 .mV]
    exact Z3 (.er<|qp T B<|.inl t)
   ·rw[yD .mV]
    exact Jv T d B hi .a e f .Q q
  ·rw[yD w]
   have F:k=0:=by lia
   subst F;exact Jv T d l hi .a e f .Q q
def Jx(T:.bg)(c:.hw)(L:LI r a b o i j)(w:.aV)(hn:n<=o.size)(q:Ju r a b n Q (.aL g)):.ad (lo2 a b o i j u v g) Q st:=by
 have ⟨m,C,h⟩:=L;obtain⟨x,e,G⟩:=kB h;unfold lo2;refine v3 (VH (v3 (cU e (v3 (yd T.C (st:=.aL g) w (T.Sb x G) T.Sa T.sa (n:=a.size - i) .a .a λk F D d => ?_)))));dsimp only;have d:∀z∈a.toList.drop (i + k),r x z=true:=λz p=>d z (by
  rw[XB .e,List.drop_drop];exact p)
 by_cases B:k>0
 ·rw[z4 B]
  have l:=m.segA (k:=k) T.sa .a λz p=>zy T.C.tr T.sb e (D z p)
  by_cases f:i+k+1=a.size
  ·rw[z4 (by simpa using f)]
   exact Z3 (.er<|zA T c l f)
  ·rw[yD (by simpa using f)]
   by_cases t:i+k=a.size
   ·rw[z4 .mV]
    exact Z3 (.er<|qp T l<|.inr t)
   ·rw[yD .mV]
    exact Jw (st:=.aL g) (n:=n) T c l .a h w e d .Q q
 ·rw[yD B]
  have H:k=0:=by lia
  subst H;exact Jw (st:=.aL g) T c m C h w e d hn q
def MI.len(m:.hF):o.size=i+j:=by
 have:=m.pm.length_eq;have c:=m.ha;have d:=m.hb;simp at this;lia
def Qc(a b:.C):mLo a b=(do
  rule "list.sort.merge-lo"
  let t:=a.size+b.size
  let mut o:Array Keyed := #[<-elem' b 0]
  let mut i:=0
  let mut j:=1
  if j == b.size then return gR a b o i j
  if i+1 == a.size then return iI a b o i j
  let mut g:=gallopOf (<-get)
  for _ in [0:t] do
   let mut u:=0
   let mut v:=0
   for _ in [0:t] do
    let some w <-lt' (<-elem' b j) (<-elem' a i)|return gR a b o i j
    if w then
     o:=o.push (<-elem' b j);j:=j+1;v:=v+1;u:=0
     if j == b.size then return gR a b o i j
     if v≥g then break
    else
     o:=o.push (<-elem' a i);i:=i+1;u:=u+1;v:=0
     if i+1 == a.size then return iI a b o i j
     if u≥g then break
   rule "list.sort.gallop"
   g:=g+1
   for _ in [0:t] do
    if g>1 then g:=g-1
    modify (eJ · g)
    let some k <-nt false (<-elem' b j) a i (a.size-i) 0|return gR a b o i j
    u:=k
    if k>0 then
     o:=o++a.extract i (i+k);i:=i+k
     if i+1 == a.size then return iI a b o i j
     if i == a.size then return gR a b o i j
    o:=o.push (<-elem' b j);j:=j+1
    if j == b.size then return gR a b o i j
    let some k <-nt true (<-elem' a i) b j (b.size-j) 0|return gR a b o i j
    v:=k
    if k>0 then
     o:=o++b.extract j (j+k);j:=j+k
     if j == b.size then return gR a b o i j
    o:=o.push (<-elem' a i);i:=i+1
    if i+1 == a.size then return iI a b o i j
    if u<7&&v<7 then break
   g:=g+1
   modify (eJ · g)
  unsupported "internal:list.sort.merge-bound"):=rfl
def kW{x:String}{st:σ}(h:Q () st):.ad (liftM (rule x):StateT σ Sem Unit) Q st:=wpS_lift (wpAny_rule ⟨rfl,h⟩)
def fA [Decidable c]{x y:StateT σ Sem α}{st:σ}(h1:c->.ad x Q st)(h2:¬c->.ad y Q st):.ad (if c then x else y) Q st:=by
 by_cases h:c
 ·rw[z4 h];exact h1 h
 ·rw[yD h];exact h2 h
def Qd(T:.bg)(D:.hw)(h0:.jd)(za:0<a.size)(zb:0<b.size)(Y:.aV){Q:Array Keyed->SortSt->Prop}(q:.AV):.ad (mLo a b) Q st:=by
 obtain⟨x,X,mx⟩:=kB zb;have W:MI r a b #[x] 0 1:=by
  have mm:MI r a b #[] 0 0:=⟨T.C.tr,T.C.asym,by simpa using Stb.refl (r:=r) [],by simp,by simp,λ_ h=>by simp at h,YZ _,YZ _⟩;exact mm.pushB T.sb X (by simpa using h0 x X)
 have H:st=.aL (gallopOf st):=by cases st;rfl
 rw[Qc];refine v3 (kW (v3 (cU X (fA (λc=>?_) λc=>fA (λV=>?_) λV=>?_))))
 ·refine Z3 ?_
  rw[H];exact q _ _ (qp T W<|.inl .aH)
 ·refine Z3 ?_
  rw[H];exact q _ _ (zA T D W (by simpa using V))
 ·have L0:LI r a b #[x] 0 1:=⟨W,by simp at V;lia,by simp at c;lia⟩
  refine v3 (wo (v3 (VM (XZ
   (I:=λn c d=>(∃k,d=.aL k)/\∃o i j g,c=(none,o,i,j,g)/\LI r a b o i j/\n+1<=o.size)
   (Q:=λc d=>(∃k,d=.aL k)/\∃x o i j g,c=(some x,o,i,j,g)/\.c3 x) ?step ?fin ⟨⟨_,H⟩,#[x],0,1,gallopOf st,rfl,L0,by simp⟩) λc d h=>?_)))
  case fin =>
   rintro c d ⟨_,o,i,j,g,_,L,z⟩;have:=L.m.len;have:=L.hi;have:=L.hj;lia
  case step =>
   rintro n c d _ hn ⟨⟨k,rfl⟩,o,i,j,g,rfl,L,z⟩;refine v3 (VM (XZ
    (I:=λZ c d=>d=eJ st k/\∃l i j u v,c=(none,l,i,j,u,v)/\LI r a b l i j/\o.size+Z<=l.size)
    (Q:=λc d=>d=eJ st k/\((∃x l i j u v,c=(some x,l,i,j,u,v)/\.c3 x)\/∃l i j u v,c=(none,l,i,j,u,v)/\LI r a b l i j/\o.size<l.size)) ?s1 ?f1 ⟨rfl,o,i,j,0,0,rfl,L,by simp⟩) λc d h=>?_)
   case f1 =>
    rintro c d ⟨rfl,l,i,j,u,v,rfl,P,z'⟩;exact⟨rfl,.inr ⟨l,i,j,u,v,rfl,P,by lia⟩⟩
   case s1 =>
    rintro Z c d _ _ ⟨rfl,l,i,j,u,v,rfl,P,z'⟩;show wpS M A E s (lo1 a b g l i j u v) _ _;exact Qb (st:=.aL k) T D P Y (λx f O K U N R=>⟨rfl,.inl ⟨x,f,O,K,U,N,rfl,R⟩⟩) (λf O K U N L2 J=>⟨rfl,.inr ⟨f,O,K,U,N,rfl,L2,by lia⟩⟩) λf O K U N L2 J=>⟨rfl,f,O,K,U,N,rfl,L2,by lia⟩
   ·obtain⟨rfl,⟨x,l,i,j,u,v,rfl,R⟩|⟨l,i,j,u,v,rfl,P,z'⟩⟩:=h
    ·exact Z3 ⟨⟨k,rfl⟩,x,l,i,j,g,rfl,R⟩
    ·refine v3 (kW (v3 (VM (XZ
      (I:=λ_ c d=>(∃k,d=.aL k)/\∃f i j g u v,c=(none,f,i,j,g,u,v)/\LI r a b f i j/\n+2<=f.size)
      (Q:=λc d=>(∃k,d=.aL k)/\((∃x f i j g u v,c=(some x,f,i,j,g,u,v)/\.c3 x)\/∃f i j g u v,c=(none,f,i,j,g,u,v)/\LI r a b f i j/\n+2<=f.size)) ?s2 ?f2 ⟨⟨k,rfl⟩,l,i,j,g+1,u,v,rfl,P,by lia⟩) λc d h=>?_)))
     case f2 =>
      rintro c d ⟨e,f,i,j,g,u,v,rfl,L2,J⟩;exact⟨e,.inr ⟨f,i,j,g,u,v,rfl,L2,J⟩⟩
     case s2 =>
      rintro Z c d _ _ ⟨⟨k,rfl⟩,f,i,j,g,u,v,rfl,L2,J⟩;show wpS M A E s (if g>1 then lo2 a b f i j u v (g-1) else lo2 a b f i j u v g) _ _;exact fA (λ_=>Jx (st:=.aL k) (n:=n+2) T D L2 Y J ⟨λx B m t w p C R=>⟨⟨_,rfl⟩,.inl ⟨x,B,m,t,w,p,C,rfl,R⟩⟩,λB m t w p C G F=>⟨⟨_,rfl⟩,.inr ⟨B,m,t,w,p,C,rfl,G,F⟩⟩,λB m t w p C G F=>⟨⟨_,rfl⟩,B,m,t,w,p,C,rfl,G,F⟩⟩) λ_=>Jx (st:=.aL k) (n:=n+2) T D L2 Y J ⟨λx B m t w p C R=>⟨⟨_,rfl⟩,.inl ⟨x,B,m,t,w,p,C,rfl,R⟩⟩,λB m t w p C G F=>⟨⟨_,rfl⟩,.inr ⟨B,m,t,w,p,C,rfl,G,F⟩⟩,λB m t w p C G F=>⟨⟨_,rfl⟩,B,m,t,w,p,C,rfl,G,F⟩⟩
     ·obtain⟨⟨k,rfl⟩,⟨x,f,i,j,g,u,v,rfl,R⟩|⟨f,i,j,g,u,v,rfl,L2,J⟩⟩:=h
      ·exact Z3 ⟨⟨k,rfl⟩,x,f,i,j,g,rfl,R⟩
      ·refine v3 .ve
  ·obtain⟨⟨k,rfl⟩,x,o,i,j,g,rfl,R⟩:=h
   exact Z3 (q x k R)
end
variable{q:Nat}
section
def uD(a:Array α)(h:p<=q)(hq:q<=a.size):(a.extract p q).reverse=a.reverse.extract (a.size-q) (a.size-q+(q-p)):=by
 rw[Array.reverse_extract];congr 1;lia
def zC(a:Array α)(h:1<=q)(hq:q<=a.size):a.reverse[a.size-q]?=a[q-1]? := by
 rw[XO .Q,XO .a,Array.getElem_reverse];congr 2;lia
def zD{α:Type}(a:Array α)(h:p<=q)(hq:q<=a.size){y:α}(hy:y∈(a.reverse.toList.drop<|a.size-q).take (q-p)):y∈((.r0).take q).drop p:=by
 rw[<-rZ,<-uD a h hq,WY,W9,Array.toList_extract,List.extract_eq_take_drop]at hy;rw[List.drop_zero];rw[List.drop_take];exact hy
variable{r:.ar}
noncomputable abbrev rv(r:.ar):Keyed->Keyed->Bool:=λx y=>r y x
def iO{a:.C}(h:.e4):a.reverse.toList.Pairwise (lE<|rv r):=by
 rw[WY,UJ];exact h
/---/def iC(a b o:.C)(n m:Nat):Array Keyed:=a.extract 0 n++b.extract 0 m++o.reverse
/---/def iP(a b o:.C)(n m:Nat):Array Keyed:=b.extract 0 m++a.extract 0 n++o.reverse
def uE(a:Array α)(h:n<=a.size):a.extract 0 n=(a.reverse.extract .fV a.reverse.size).reverse:=by
 have:=uD a (YZ n) h;have e:a.size-n+(n-0)=a.reverse.size:=by simp;lia
 rw[e]at this;rw[<-this,Array.reverse_reverse]
def Jy(a b o:.C)(hn:n<=a.size)(hm:m<=b.size):iC a b o n m=(gR b.reverse a.reverse o .hl .fV).reverse:=by
 unfold iC gR;rw[UP,UP,<-uE b hm,<-uE a hn,Array.append_assoc]
def DL(a b o:.C)(hn:n<=a.size)(hm:m<=b.size):iP a b o n m=(iI b.reverse a.reverse o .hl .fV).reverse:=by
 unfold iP iI;rw[UP,UP,<-uE b hm,<-uE a hn,Array.append_assoc]
def Fu(h:Mgd (rv r) b.reverse a.reverse o):.c3 o.reverse:=by
 obtain⟨p,q⟩:=h;refine⟨?_,?_⟩
 ·rw[WY]
  have:=Stb.turn p;rwa[List.reverse_append,WY,WY,UQ,UQ]at this
 ·rw[WY,UJ]
  exact q
variable{a b o:.C}{i j:Nat}
def Jz(sa:.e4)(sb:.jf)(m:.hF)(h:j=b.size\/i=a.size):.c3 .np:=by
 unfold gR;rcases h with h|h
 ·rw[qo b h,zp];exact m.endA sa h
 ·rw[qo a h,zp];exact m.endB sb h
def M7(sa:.e4)(sb:.jf)(c:.hw)(m:.hF)(h:i+1=a.size):.c3 (iI a b o i j):=by
 unfold iI;refine m.endBA sa sb λx e y d=>c x (WD e) y ?_;rw[show a.size-1=i by lia];exact d
noncomputable abbrev MH(r:.ar)(a b o:.C)(n m:Nat):Prop:=n<=a.size/\m<=b.size/\MI (rv r) b.reverse a.reverse o .hl .fV
variable{M:Model}{A:P1}{E:.q}{s:Q5}{kd:SortKind}{S:.dk}{n m:Nat}
def qq(T:.bg)(h:.dW)(z:n=0\/m=0):.c3 .sA:=by
 rw[Jy a b o h.1 h.2.1];refine Fu (Jz .lg .lh h.2.2 ?_);rcases z with z|z
 ·exact .inl (by rw[z];simp)
 ·exact .inr (by rw[z];simp)
def oD(T:.bg)(c:.jd)(h:.dW)(z:m=1):.c3 (iP a b o n m):=by
 rw[DL a b o h.1 h.2.1];have l:=h.2.1;refine Fu (M7 .lg .lh (λx k y f=>?_) h.2.2 .Q);have e:b.reverse.toList.drop (b.reverse.size-1)=[b[0]]:=by
  rw[WY,Array.size_reverse];apply UB
  ·simp;lia
  ·intro i g d
   simp at g d;subst d;simp[List.getElem_drop,List.getElem_reverse]
 rw[e,yS]at f;subst f;exact c _ (XO .a) x (by simpa using k)
def MH.pushB(T:.bg)(h:.dW)(hm:1<=m)(d:b[m-1]?=some y)(w:∀z∈a.reverse.toList.drop .fV,lE r z y):MH r a b .dI n (m-1):=by
 obtain⟨g,c,f⟩:=h;have e:b.size-(m-1)=b.size-m+1:=by lia
 refine⟨g,by lia,?_⟩;rw[e];exact f.pushA .lg ((zC b hm c).trans d) w
end
/---/def mHi:Array Keyed->Array Keyed->.jz .fK:=sortPriv% PySem.Builtin.mergeHi
def Qe(a b:.C):mHi a b=(do
  rule "list.sort.merge-hi"
  let t:=a.size+b.size
  let mut n:=a.size-1
  let mut m:=b.size
  let mut o:Array Keyed := #[<-elem' a n]
  if n == 0 then return iC a b o n m
  if m == 1 then return iP a b o n m
  let mut g:=gallopOf (<-get)
  for _ in [0:t] do
   let mut u:=0
   let mut v:=0
   for _ in [0:t] do
    let some w <-lt' (<-elem' b (m-1)) (<-elem' a (n-1))|return iC a b o n m
    if w then
     n:=n-1;o:=o.push (<-elem' a n);u:=u+1;v:=0
     if n == 0 then return iC a b o n m
     if u≥g then break
    else
     m:=m-1;o:=o.push (<-elem' b m);v:=v+1;u:=0
     if m == 1 then return iP a b o n m
     if v≥g then break
   rule "list.sort.gallop"
   g:=g+1
   for _ in [0:t] do
    if g>1 then g:=g-1
    modify (eJ · g)
    let some p <-nt false (<-elem' b (m-1)) a 0 n (n-1)|return iC a b o n m
    let k:=n-p
    u:=k
    if k>0 then
     o:=o++(a.extract p n).reverse;n:=p
     if n == 0 then return iC a b o n m
    m:=m-1;o:=o.push (<-elem' b m)
    if m == 1 then return iP a b o n m
    let some p <-nt true (<-elem' a (n-1)) b 0 m (m-1)|return iC a b o n m
    let k:=m-p
    v:=k
    if k>0 then
     o:=o++(b.extract p m).reverse;m:=p
     if m == 1 then return iP a b o n m
     if m == 0 then return iC a b o n m
    n:=n-1;o:=o.push (<-elem' a n)
    if n == 0 then return iC a b o n m
    if u<7&&v<7 then break
   g:=g+1
   modify (eJ · g)
  unsupported "internal:list.sort.merge-bound"):=rfl
noncomputable abbrev D1:=Option .fK × Nat × Nat × Array Keyed × Nat
noncomputable abbrev D2:=Option .fK × Nat × Nat × Array Keyed × Nat × Nat
noncomputable abbrev D3:=Option .fK × Nat × Nat × Array Keyed × Nat × Nat × Nat
/---/def hi1(a b:.C)(g n m:Nat)(o:.C)(u v:Nat):SM (ForInStep D2):=do
 let x <-elem' b (m-1)
 let y <-elem' a (n-1)
 let some w <-lt' x y|pure (.done (some .sA,n,m,o,u,v))
 if w then do
  let y <-elem' a (n-1)
  if n-1 == 0 then pure (.done (some .Ac,n-1,m,o.push y,u+1,0))
  else if u+1≥g then pure (.done (none,n-1,m,o.push y,u+1,0)) else pure (.cb (none,n-1,m,o.push y,u+1,0))
 else do
  let x <-elem' b (m-1)
  if m-1 == 1 then pure (.done (some .Aa,n,m-1,o.push x,0,v+1))
  else if v+1≥g then pure (.done (none,n,m-1,o.push x,0,v+1)) else pure (.cb (none,n,m-1,o.push x,0,v+1))
/---/def hi4(a b:.C)(n m:Nat)(o:.C)(g u v:Nat):SM .sG:=do
 let y <-elem' a (n-1)
 if n-1 == 0 then pure (.done (some .Ac,n-1,m,o.push y,g,u,v))
 else if (decide (u<7)&&decide (v<7))=true then pure (.done (none,n-1,m,o.push y,g,u,v)) else pure (.cb (none,n-1,m,o.push y,g,u,v))
/---/def hi3(a b:.C)(n m:Nat)(o:.C)(g u v:Nat):SM .sG:=do
 let x <-elem' b (m-1)
 if m-1 == 1 then pure (.done (some .Aa,n,m-1,o.push x,g,u,v))
 else do
  let y <-elem' a (n-1)
  let some p <-nt true y b 0 (m-1) (m-1-1)|pure (.done (some (iC a b .eg n<|m-1),n,m-1,o.push x,g,u,v))
  if m-1-p>0 then
   if p == 1 then pure (.done (some (iP a b .pX n p),n,p,o.push x++(b.extract p<|m-1).reverse,g,u,m-1-p))
   else if p == 0 then pure (.done (some (iC a b .pX n p),n,p,o.push x++(b.extract p<|m-1).reverse,g,u,m-1-p))
   else hi4 a b n p .pX g u (m-1-p)
  else hi4 a b n (m-1) .eg g u (m-1-p)
/---/def hi2(a b:.C)(n m:Nat)(o:.C)(u v g:Nat):SM .sG:=do
 modify (eJ · g)
 let x <-elem' b (m-1)
 let some p <-nt false x a 0 n (n-1)|pure (.done (some .sA,n,m,o,g,u,v))
 if n-p>0 then
  if p == 0 then pure (.done (some (iC a b .qq p m),p,m,o++(a.extract p n).reverse,g,n-p,v))
  else hi3 a b p m .qq g (n-p) v
 else hi3 a b n m o g (n-p) v
section
variable{M:Model}{A:P1}{E:.q}{s:Q5}{kd:SortKind}{S:.dk}{r:.ar}{a b o:.C}{n m g u v p:Nat}{st:SortSt}
def MH.len(h:.dW):o.size+n+m=a.size+b.size:=by
 have:=h.2.2.len;have:=h.1;have:=h.2.1;lia
def vH{α:Type}(a:Array α)(hq:p<=a.size){y:α}(hy:y∈a.reverse.toList.drop (a.size-p)):y∈(.r0).take p:=by
 have:=zD a (YZ p) hq (y:=y) (by rw[XB .Q];exact hy);simpa using this
def MH.low(T:.bg)(h:.dW)(hm:1<=m)(c:b[m-1]?=some y)(w:r y x=true):∀z∈b.reverse.toList.drop .hl,r z x=true :=
 zz (r:=rv r) (λp q=>T.C.tr q p) .lg ((zC b hm h.2.1).trans c) w
def MH.lowA(T:.bg)(h:.dW)(hn:1<=n)(c:a[n-1]?=some y)(w:lE r y x):∀z∈a.reverse.toList.drop .fV,lE r z x :=
 zy (r:=rv r) (λp q=>T.C.tr q p) .lh ((zC a hn h.1).trans c) w
def MH.putA(T:.bg)(h:.dW)(hn:1<=n)(ex:a[n-1]?=some x)(w:∀z∈b.reverse.toList.drop .hl,r z x=true):MH r a b .eg (n-1) m:=by
 obtain⟨f,c,d⟩:=h;have e:a.size-(n-1)=a.size-n+1:=by lia
 refine⟨by lia,c,?_⟩;rw[e];exact d.pushB .lh ((zC a hn f).trans ex) w
def MH.segA(T:.bg)(h:.dW)(hp:p<=n)(w:∀y∈((.r0).take n).drop p,∀z∈b.reverse.toList.drop .hl,r z y=true):MH r a b .qq p m:=by
 obtain⟨c,f,i⟩:=h;have e:a.size-p=a.size-n+(n-p):=by lia
 refine⟨by lia,f,?_⟩;rw[e,uD a hp c];exact i.segB .lh .Q λy d=>w y (zD a hp c d)
def MH.segB(T:.bg)(h:.dW)(hp:p<=m)(w:∀y∈((b.toList.drop 0).take m).drop p,∀z∈a.reverse.toList.drop .fV,lE r z y):MH r a b (o++(b.extract p m).reverse) n p:=by
 obtain⟨i,c,f⟩:=h;have e:b.size-p=b.size-m+(m-p):=by lia
 refine⟨i,by lia,?_⟩;rw[e,uD b hp c];exact f.segA .lg .Q λy d=>w y (zD b hp c d)
structure HI(r:.ar)(a b o:.C)(n m:Nat):Prop where
 h:MH r a b o n m
 hn:1<=n
 hm:2<=m
def Qf(T:.bg)(B:.jd)(L:HI r a b o n m)(F:.aV)
  (q1:∀x d e f k i,Mgd r a b x->Q (.done (some x,e,f,d,k,i)) st) (q2:∀d e f k i,HI r a b d e f->o.size<d.size->Q (.done (none,e,f,d,k,i)) st) (q3:∀d e f k i,HI r a b d e f->o.size<d.size->Q (.cb (none,e,f,d,k,i)) st) :
  wpS M A E s (hi1 a b g n m o u v) Q st:=by
 have ⟨h,t,D⟩:=L;have H:=h.1;have I:=h.2.1;obtain⟨x,l,G⟩:=kB (show m-1<b.size by lia);obtain⟨y,q,C⟩:=kB (show n-1<a.size by lia);unfold hi1;refine v3 (cU l (v3 (cU q (v3 (T.C.ask (T.Sb x G) (T.Sa y C) F ?_)))));dsimp only;cases w:r x y with
 |true =>
  rw[z4 rfl];refine v3 (cU q ?_);have j:=h.putA T t q (h.low T .a l w);have z:o.size<(.dI).size:=by simp
  by_cases c:n-1=0
  ·rw[z4 .aH]
   exact Z3 (.pc<|qq T j<|.inl c)
  ·rw[yD .aH]
   have L2:HI r a b .dI (n-1) m:=⟨j,by lia,D⟩;split
   ·exact Z3 .mM
   ·exact Z3 .mL
 |false =>
  rw[yD Z7];refine v3 (cU l ?_);have j:=MH.pushB T h .a l (h.lowA T t q w);have z:o.size<(.eg).size:=by simp
  by_cases c:m-1=1
  ·rw[z4 .aH]
   exact Z3 (.pc<|oD T B j c)
  ·rw[yD .aH]
   have L2:HI r a b .eg n (m-1):=⟨j,t,by lia⟩;split
   ·exact Z3 .mM
   ·exact Z3 .mL
structure JA(r:.ar)(a b:.C)(l:Nat)(Q:ForInStep D3->SortSt->Prop)(st:SortSt):Prop where
 q1:∀x o' i' j' g' u' v',Mgd r a b x->Q (.done (some x,i',j',o',g',u',v')) st
 q2:∀o' i' j' g' u' v',HI r a b o' i' j'->l<=o'.size->Q (.done (none,i',j',o',g',u',v')) st
 q3:∀o' i' j' g' u' v',HI r a b o' i' j'->l<=o'.size->Q (.cb (none,i',j',o',g',u',v')) st
def JB(T:.bg)(h:.dW)(hn:1<=n)(hm:2<=m)(e:a[n-1]?=some y)(w:∀z∈b.reverse.toList.drop .hl,r z y=true)(f:l<=o.size)(q:JA r a b l Q st):.ad (hi4 a b n m o g u v) Q st:=by
 unfold hi4;refine v3 (cU e ?_);have d:=h.putA T hn e w;have z:l<=(.dI).size:=by simp;lia
 by_cases c:n-1=0
 ·rw[z4 .aH]
  exact Z3 (.er<|qq T d<|.inl c)
 ·rw[yD .aH]
  have L2:HI r a b .dI (n-1) m:=⟨d,by lia,hm⟩;split
  ·exact Z3 .zm
  ·exact Z3 .zl
def JC(T:.bg)(d:.jd)(h:.dW)(hn:1<=n)(hm:2<=m)(J:.aV)(ex:b[m-1]?=some x)(w:∀z∈a.reverse.toList.drop .fV,lE r z x)(O:l<=o.size)(q:JA r a b l Q st):.ad (hi3 a b n m o g u v) Q st:=by
 have L:=h.1;have N:=h.2.1;obtain⟨y,f,H⟩:=kB (show n-1<a.size by lia);unfold hi3;refine v3 (cU ex ?_);have e:=MH.pushB T h .a ex w
 by_cases c:m-1=1
 ·rw[z4 .aH]
  exact Z3 (.er<|oD T d e c)
 ·rw[yD .aH]
  refine v3 (cU f (v3 (BF T.C J (T.Sa y H) T.Sb T.sb (n:=m-1) .a .a λk t G K=>?_)));dsimp only;have F:∀z∈b.reverse.toList.drop (b.size-k),r z y=true:=λz i=>G z (vH b .a i)
  by_cases D:m-1-k>0
  ·rw[z4 D]
   have B:=MH.segB T e (p:=k) t λz i=>e.lowA T hn f (K z i)
   by_cases j:k=1
   ·rw[z4 .mX]
    exact Z3 (.er<|oD T d B j)
   ·rw[yD .mX]
    by_cases C:k=0
    ·rw[z4 (by simpa using C)]
     exact Z3 (.er<|qq T B<|.inr C)
    ·rw[yD (by simpa using C)]
     exact JB (l:=l) T B hn .a f F .Q q
  ·rw[yD D]
   have I:k=m-1:=by lia
   subst I;exact JB (l:=l) T e hn .a f F .Q q
def JD(T:.bg)(c:.jd)(L:HI r a b o n m)(f:.aV)(J:l<=o.size)(q:JA r a b l Q (.aL g)):.ad (hi2 a b n m o u v g) Q st:=by
 have ⟨h,F,B⟩:=L;have K:=h.1;have N:=h.2.1;obtain⟨x,d,I⟩:=kB (show m-1<b.size by lia);unfold hi2;refine v3 (VH (v3 (cU d (v3 (yd T.C (st:=.aL g) f (T.Sb x I) T.Sa T.sa (n:=n) .a .a λk j D H=>?_)))));dsimp only;have C:∀z∈a.reverse.toList.drop (a.size-k),lE r z x:=λz e=>D z (vH a .a e)
 by_cases t:n-k>0
 ·rw[z4 t]
  have w:=MH.segA T h (p:=k) j λz e=>h.low T .a d (H z e)
  by_cases i:k=0
  ·rw[z4 (by simpa using i)]
   exact Z3 (.er<|qq T w<|.inl i)
  ·rw[yD (by simpa using i)]
   exact JC (st:=.aL g) (l:=l) T c w .a B f d C .Q q
 ·rw[yD t]
  have G:k=n:=by lia
  subst G;exact JC (st:=.aL g) (l:=l) T c h F B f d C J q
def Qg(T:.bg)(H:.jd)(a0:∀y,a[a.size-1]?=some y->∀x∈b.toList,r x y=true)(za:0<a.size)(zb:0<b.size)(hk:.aV)(q:.AV):.ad (mHi a b) Q st:=by
 obtain⟨y,ey,my⟩:=kB (show a.size-1<a.size by lia);have Z:MH r a b #[y] .qg b.size:=by
  have mm:MH r a b #[] a.size b.size:=⟨ZL _,ZL _,λp q=>T.C.tr q p,T.C.asym,by simpa using Stb.refl (r:=rv r) [],by simp,by simp,λ_ h=>by simp at h,by simp,by simp⟩;exact mm.putA T za ey λz hz=>a0 y ey z (by
   have:=vH b .r hz;rw[List.drop_zero]at this;exact XG this)
 have N:st=.aL (gallopOf st):=by cases st;rfl
 rw[Qe];refine v3 (kW (v3 (cU ey (fA (λc=>?_) λc=>fA (λY=>?_) λY=>?_))))
 ·refine Z3 ?_
  rw[N];exact q _ _ (qq T Z<|.inl .aH)
 ·refine Z3 ?_
  rw[N];exact q _ _ (oD T H Z (by simpa using Y))
 ·have L0:HI r a b #[y] .qg b.size:=⟨Z,by simp at c;lia,by simp at Y;lia⟩
  refine v3 (wo (v3 (VM (XZ
   (I:=λn c d=>(∃k,d=.aL k)/\∃o i j g,c=(none,i,j,o,g)/\HI r a b o i j/\n+1<=o.size)
   (Q:=λc d=>(∃k,d=.aL k)/\∃x o i j g,c=(some x,i,j,o,g)/\.c3 x) ?step ?fin ⟨⟨_,N⟩,#[y],a.size-1,b.size,gallopOf st,rfl,L0,by simp⟩) λc d h=>?_)))
  case fin =>
   rintro c d ⟨_,o,i,j,g,_,L,z⟩;have:=L.h.len;have:=L.hn;have:=L.hm;lia
  case step =>
   rintro n c d _ hn ⟨⟨k,rfl⟩,o,i,j,g,rfl,L,z⟩;refine v3 (VM (XZ
    (I:=λn' c d=>d=eJ st k/\∃t i j u v,c=(none,i,j,t,u,v)/\HI r a b t i j/\o.size+n'<=t.size)
    (Q:=λc d=>d=eJ st k/\((∃x t i j u v,c=(some x,i,j,t,u,v)/\.c3 x)\/∃t i j u v,c=(none,i,j,t,u,v)/\HI r a b t i j/\o.size<t.size)) ?s1 ?f1 ⟨rfl,o,i,j,0,0,rfl,L,by simp⟩) λc d h=>?_)
   case f1 =>
    rintro c d ⟨rfl,t,i,j,u,v,rfl,W,z'⟩;exact⟨rfl,.inr ⟨t,i,j,u,v,rfl,W,by lia⟩⟩
   case s1 =>
    rintro n' c d _ _ ⟨rfl,t,i,j,u,v,rfl,W,z'⟩;show wpS M A E s (hi1 a b g i j t u v) _ _;exact Qf (st:=.aL k) T H W hk (λx f V P X U R=>⟨rfl,.inl ⟨x,f,V,P,X,U,rfl,R⟩⟩) (λf V P X U L2 O=>⟨rfl,.inr ⟨f,V,P,X,U,rfl,L2,by lia⟩⟩) λf V P X U L2 O=>⟨rfl,f,V,P,X,U,rfl,L2,by lia⟩
   ·obtain⟨rfl,⟨x,t,i,j,u,v,rfl,R⟩|⟨t,i,j,u,v,rfl,W,z'⟩⟩:=h
    ·exact Z3 ⟨⟨k,rfl⟩,x,t,i,j,g,rfl,R⟩
    ·refine v3 (kW (v3 (VM (XZ
      (I:=λ_ c d=>(∃k,d=.aL k)/\∃f i j g u v,c=(none,i,j,f,g,u,v)/\HI r a b f i j/\n+2<=f.size)
      (Q:=λc d=>(∃k,d=.aL k)/\((∃x f i j g u v,c=(some x,i,j,f,g,u,v)/\.c3 x)\/∃f i j g u v,c=(none,i,j,f,g,u,v)/\HI r a b f i j/\n+2<=f.size)) ?s2 ?f2 ⟨⟨k,rfl⟩,t,i,j,g+1,u,v,rfl,W,by lia⟩) λc d h=>?_)))
     case f2 =>
      rintro c d ⟨e,f,i,j,g,u,v,rfl,L2,O⟩;exact⟨e,.inr ⟨f,i,j,g,u,v,rfl,L2,O⟩⟩
     case s2 =>
      rintro n' c d _ _ ⟨⟨k,rfl⟩,f,i,j,g,u,v,rfl,L2,O⟩;show wpS M A E s (if g>1 then hi2 a b i j f u v (g-1) else hi2 a b i j f u v g) _ _;exact fA (λ_=>JD (st:=.aL k) (l:=n+2) T H L2 hk O ⟨λx F w C D B G R=>⟨⟨_,rfl⟩,.inl ⟨x,F,w,C,D,B,G,rfl,R⟩⟩,λF w C D B G K J=>⟨⟨_,rfl⟩,.inr ⟨F,w,C,D,B,G,rfl,K,J⟩⟩,λF w C D B G K J=>⟨⟨_,rfl⟩,F,w,C,D,B,G,rfl,K,J⟩⟩) λ_=>JD (st:=.aL k) (l:=n+2) T H L2 hk O ⟨λx F w C D B G R=>⟨⟨_,rfl⟩,.inl ⟨x,F,w,C,D,B,G,rfl,R⟩⟩,λF w C D B G K J=>⟨⟨_,rfl⟩,.inr ⟨F,w,C,D,B,G,rfl,K,J⟩⟩,λF w C D B G K J=>⟨⟨_,rfl⟩,F,w,C,D,B,G,rfl,K,J⟩⟩
     ·obtain⟨⟨k,rfl⟩,⟨x,f,i,j,g,u,v,rfl,R⟩|⟨f,i,j,g,u,v,rfl,L2,O⟩⟩:=h
      ·exact Z3 ⟨⟨k,rfl⟩,x,f,i,j,g,rfl,R⟩
      ·refine v3 .ve
  ·obtain⟨⟨k,rfl⟩,x,o,i,j,g,rfl,R⟩:=h
   exact Z3 (q x k R)
end
/---/def BG(l:.am)(base:Nat)(xs:.C):Array Keyed:=l.zipIdx.foldl .wf xs
def Qh(i:Nat):mergeAt' i=(do
  let st <-get
  let (some (p,n,e),some (q,m,_)):=(.dC[i]?,.dC[i+1]?)|unsupported "internal:list.sort.pending"
  set (setPending st<|((.dC).setIfInBounds i (p,n+m,e)).eraseIdxIfInBounds (i+1))
  let some k <-nt false (<-elem' .be q) .be p n 0|return false
  let (p,n):=(p+k,n-k)
  if n == 0 then return true
  let some m <-nt true (<-elem' .be (p+n-1)) .be q m (m-1)|return false
  if m == 0 then return true
  let x:=(.be).extract p q
  let y:=(.be).extract q (q+m)
  let z <-if n<=m then mLo x y else mHi x y
  modify λst=>setArr st (BG z.toList p .be)
  return (failedOf (<-get)).isNone):=rfl
theorem JE(base:Nat):∀(l:.am) (n:Nat) (xs:.C) (P W R:.am),xs.toList=P++W++R->P.length=base+n->W.length=l.length->((l.zipIdx n).foldl .wf xs).toList=P++l++R
 |[],n,xs,P,W,R,h,hp,a=>by
  have:W=[]:=WX.mp a;subst this;simpa using h
 |x::l,n,xs,P,[],R,h,hp,a=>by simp at a
 |x::l,n,xs,P,w::W,R,h,hp,a=>by
  rw[List.zipIdx_cons,UG];have:=JE base l (n + 1) (xs.setIfInBounds (base + n) x) (P++[x]) W R (by
   rw[Array.toList_setIfInBounds,h,<-hp,ZU,ZU];simp[List.set_append]) (by simp[hp];lia) .kt
  rw[this];simp
variable{P R:.am}
def Qi(h:xs.toList=P++W++R)(hp:P.length=base)(a:W.length=l.length):(BG l base xs).toList=P++l++R:=JE base l 0 xs P W R h .a a
section
variable{M:Model}{A:P1}{E:.q}{s:Q5}{kd:SortKind}{S:.dk}{r:.ar}{st:SortSt}
def Cmp.refl(C:.a7)(x:Keyed):lE r x x:=by
 cases w:r x x with
 |false=>exact w
 |true=>rw[C.asym w]at w;cases w
def vI{xs:Array α}{P X R:List α}(h:.tk)(i:Nat)(hi:i<X.length):xs[P.length+i]?=X[i]? := by
 rw[<-Array.getElem?_toList,h,ZD .a,ZC .a];congr 1;lia
def DM(C:.a7){X:.am}(h:.tk)(p:.aV)(t:S x)(i:∀y∈X,S y)(o:X.Pairwise .V)(B:ht<X.length)
  (q:∀k,k<=X.length->(∀y∈X.take k,lE r y x)->(∀y∈X.drop k,r x y=true)->Q .b8 st):.ad (nt false x xs P.length X.length ht) Q st:=by
 have n:∀d (a:d<X.length),xs[P.length+d]?=some X[d]:=λd a=>by rw[vI h d a];exact ZE a
 refine yY C p (λd=>!r x (X.getD d x)) .uY t (λd e w g b=>?_) B λk c j v=>q k c (λy f=>?_) λy f=>?_
 ·have a:d<X.length:=by lia
  dsimp[List.getD,ZE g,ZE a,X2]at b⊢
  by_cases z:d=e
  ·subst z;exact b
  ·have l:=Y9.mp o d e a g .a
   have u:r x X[e]=false:=by simpa using b
   have:=C.tr l u;simp[this]
 ·obtain⟨d,a,e⟩:=W7.mp f
  have hd':d<X.length:=by lia
  have:=j d .a;dsimp[List.getD,ZE hd',X2]at this;rw[<-e];simpa using this
 ·obtain⟨d,a,e⟩:=XX.mp f
  have:=v (k+d) .a .a;dsimp[List.getD,ZE (show k+d<X.length by lia),X2]at this;have m:y=X[k+d]' .a:=by rw[<-e]
  rw[m];simpa using this
def GP(C:.a7){X:.am}(h:.tk)(p:.aV)(t:S x)(i:∀y∈X,S y)(o:X.Pairwise .V)(B:ht<X.length)
  (q:∀k,k<=X.length->(∀y∈X.take k,r y x=true)->(∀y∈X.drop k,lE r x y)->Q .b8 st):.ad (nt true x xs P.length X.length ht) Q st:=by
 have n:∀d (a:d<X.length),xs[P.length+d]?=some X[d]:=λd a=>by rw[vI h d a];exact ZE a
 refine yY C p (λd=>r (X.getD d x) x) .uY t (λd e v g b=>?_) B λk c j u=>q k c (λy f=>?_) λy f=>?_
 ·have a:d<X.length:=by lia
  dsimp[List.getD,ZE g,ZE a,X2]at b⊢
  by_cases z:d=e
  ·subst z;exact b
  ·have l:=Y9.mp o d e a g .a
   cases w:r X[d] x with
   |true=>rfl
   |false =>
    have:=C.tr w l;rw[this]at b;cases b
 ·obtain⟨d,a,e⟩:=W7.mp f
  have hd':d<X.length:=by lia
  have:=j d .a;dsimp[List.getD,ZE hd',X2]at this;rw[<-e];exact this
 ·obtain⟨d,a,e⟩:=XX.mp f
  have:=u (k+d) .a .a;dsimp[List.getD,ZE (show k+d<X.length by lia),X2]at this;have m:y=X[k+d]' .a:=by rw[<-e]
  rw[m];exact this
def M8{a st:σ}(h:Q ⟨⟩ a):.ad (set a:StateT σ Sem PUnit) Q st:=by
 unfold wpS;rw[StateT.run_set];exact wX ⟨rfl,h⟩
def Qj(C:.a7)(hk:.aV)(hf:failedOf st=none)(ha:(.be).toList=P++(X++(Y++R)))(p1:.dC[i]?=some (P.length,X.length,e))(p2:.dC[i+1]?=some (P.length+X.length,Y.length,e'))
  (SX:∀y∈X,S y) (SY:∀y∈Y,S y) (L:X.Pairwise .V) (V:Y.Pairwise .V) (nX:X≠[]) (nY:Y≠[])
  (q:∀Z n xs,Stb r Z (X++Y)->Z.Pairwise .V->xs.toList=P++(Z++R)->Q true (SortSt.mk' kd xs .uj n none)):.ad (mergeAt' i) Q st:=by
 have lX:0<X.length:=VI.mpr nX;have U:0<Y.length:=VI.mpr nY;have H:(.be).toList=(P++X)++(Y++R):=by rw[ha,ZU]
 have D:(P++X).length=P.length+X.length:=ZB;rw[Qh];refine v3 (wo ?_);dsimp[p1,p2];obtain⟨a,j⟩:=q0 (setPending st .uj);have fin:∀Z n xs,Stb r Z (X++Y)->Z.Pairwise .V->xs.toList=P++(Z++R)->Q true (eJ (setArr a xs) n):=λZ n xs J z2 z3=>by
  have:=q Z n xs J z2 z3;rw[j];show Q true (SortSt.mk' (kindOf st) xs _ n .sL);rw[hk,hf];exact this
 have v:kindOf a=kd:=by rw[j];exact hk
 have a8:failedOf a=none:=by rw[j];exact hf
 have a6:arrOf a=arrOf st:=by rw[j]
 rw[<-j];refine v3 (M8 ?_);have ey:.be[P.length+X.length]?=some Y[0]:=by
  have:=vI H 0 U;rw[D]at this;rw[show P.length+X.length=P.length+X.length+0 from rfl,this];exact ZE U
 refine v3 (cU ey (v3 (DM C ha v (SY _<|YR U) SX L lX λk a5 b1 b2=>?_)));dsimp only;have y0:∀y∈Y,lE r Y[0] y:=λy f=>by
  obtain⟨d,N,e⟩:=UY f
  by_cases z:d=0
  ·subst z;rw[<-e];exact C.refl _
  ·rw[<-e];exact Y9.mp V 0 d U N .a
 have K:∀xs:Array Keyed,xs=arrOf st->∀g,g=gallopOf a->eJ (setArr a xs) g=a:=λxs e g eg=>by subst e;subst eg;rw[j]
 have F:X=X.take k++X.drop k:=(XC k X).symm;have w:=L;rw[F,Z8]at w;refine fA (λc=>?_) λc=>?_
 ·have kk:k=X.length:=by simp at c;lia
  refine Z3 ?_;have:=fin (X++Y) (gallopOf a) .be (Stb.refl _) (Z8.mpr ⟨L,V,λx b y f=>C.tr (b1 x (by rw[kk,XH];exact b)) (y0 y f)⟩) (by rw[ha,ZU]);rw[K _ rfl _ rfl]at this;exact this
 ·have kl:k<X.length:=by simp at c;lia
  have ex:.be[P.length+k+.nG-1]?=some .gQ:=by
   have:=vI ha (X.length-1) .a;rw[show P.length+k+.nG-1=P.length+(X.length-1) by lia,this];exact ZE .a
  have xl:∀x∈X,lE r x .gQ:=λx b=>by
   obtain⟨d,N,e⟩:=UY b
   by_cases z:d=X.length-1
   ·subst z;rw[<-e];exact C.refl _
   ·rw[<-e];exact Y9.mp L d (X.length-1) N .a .a
  have g2:∀{R2:Option Nat->SortSt->Prop},(∀m,m<=Y.length->(∀y∈Y.take m,r y .gQ=true)->(∀y∈Y.drop m,lE r .gQ y)->R2 (some m) a)->wpS M A E s (nt true .gQ .be .p7 Y.length (Y.length-1)) R2 a:=λ{R2} q2=>by
   have:=GP (M:=M) (A:=A) (E:=E) (s:=s) (st:=a) (Q:=R2) C H (ht:=Y.length-1) v (SX _<|YR<|show X.length-1<X.length by lia) SY V .a q2;rw[D]at this;exact this
  refine v3 (cU ex (v3 (g2 λm a3 d1 d2=>?_)));dsimp only;have G:Y=Y.take m++Y.drop m:=(XC m Y).symm;have u:=V;rw[G,Z8]at u;refine fA (λc2=>?_) λc2=>?_
  ·have m0:m=0:=by simpa using c2
   refine Z3 ?_;have:=fin (X++Y) (gallopOf a) .be (Stb.refl _) (Z8.mpr ⟨L,V,λx b y f=>C.tr (xl x b) (d2 y (by rw[m0];exact f))⟩) (by rw[ha,ZU]);rw[K _ rfl _ rfl]at this;exact this
  ·have m0:0<m:=by simp at c2;lia
   have p:(.xj).toList=X.drop k:=by
    have:=rZ .be (P.length+k) .nG;rw[show P.length+k+.nG=P.length+X.length by lia]at this;rw[this,ha,<-List.drop_drop,List.drop_left,List.drop_append_of_le_length a5,List.take_left' .e]
   have t:(.wj).toList=Y.take m:=by
    rw[rZ,H,<-D,List.drop_left,List.take_append_of_le_length a3]
   obtain⟨l,O⟩:=q0 .xj;obtain⟨B,a2⟩:=q0 .wj;rw[<-O]at p;rw[<-a2]at t;have T:Two M A E s kd S r l B:=⟨C,λx b=>SX x (WD (by rw[<-p];exact b)),λx b=>SY x (XG (by rw[<-t];exact b)),by rw[p];exact w.2.1,by rw[t];exact u.1⟩;have za:0<l.size:=by rw[<-Array.length_toList,p];simp;lia
   have zb:0<B.size:=by rw[<-Array.length_toList,t];simp;lia
   have a0:∀x,B[0]?=some x->∀y∈l.toList,r x y=true:=λx b y f=>by
    rw[<-Array.getElem?_toList,t,VB m0,ZE U]at b;cases b;exact b2 y (by rw[<-p];exact f)
   have a1:∀x∈B.toList,r x .gQ=true:=λx b=>d1 x (by rw[<-t];exact b);have a7:l.size=X.length-k:=by rw[<-Array.length_toList,p];simp
   have o:l[l.size-1]?=some .gQ:=by
    rw[<-Array.getElem?_toList,p,a7,VQ,show k+(X.length-k-1)=X.length-1 by lia];exact ZE .a
   have I:∀x∈B.toList,∀y∈l.toList.drop (l.size-1),r x y=true:=λx b y f=>by
    obtain⟨d,N,e⟩:=XX.mp f;have a4:d=0:=by simp at N;lia
    subst a4;have:y=X[X.length-1]' .a:=by
     have h3:l.toList[l.size-1+0]?=some y:=by rw[<-e];exact ZE .a
     rw[Nat.add_zero,YG,o]at h3;exact(ZT h3).symm
    rw[this];exact a1 x b
   have mg:∀z n,Mgd r l B z->wpS M A E s (modify (λst=>setArr st (BG z.toList (P.length+k) .be)) >>= λ_=>(get >>= λst=>pure (.sL).isNone:.jz Bool)) Q (eJ a n):=λz n ⟨J,z2⟩=>by
    refine v3 (VH (v3 (wo (Z3 ?_))));show Q (failedOf a).isNone _;rw[a8];have zl:z.toList.length=(X.drop k++Y.take m).length:=by rw[J.length_eq,p,t]
    have la:(.xb).toList=(P++X.take k)++z.toList++(Y.drop m++R):=Qi (W:=X.drop k++Y.take m) (by
     rw[ha]
     conv=>lhs;rw[F,G]
     dsimp[ZU]) .Q zl.symm
    have mem:∀x∈z.toList,x∈X.drop k\/x∈Y.take m:=λx b=>by
     have:=J.mem_iff.mp b;rw[p,t]at this;exact Z0.mp this
    have:=fin (X.take k++(z.toList++Y.drop m)) n .xb (by
     conv=>rhs;rw[F,G]
     rw[ZU];refine Stb.append_left _ ?_;rw[<-ZU];refine Stb.append_right _ ?_;rw[<-p,<-t];exact J) (by
     rw[Z8,Z8];refine⟨w.1,⟨z2,u.2.1,λx b y f=>?_⟩,λx b y f=>?_⟩
     ·rcases mem x b with h|h
      ·exact C.tr (xl x<|WD h) (d2 y f)
      ·exact u.2.2 x h y f
     ·rcases Z0.mp f with f|f
      ·rcases mem y f with h|h
       ·exact w.2.2 x b y h
       ·exact C.tr (b1 x b) (y0 y<|XG h)
      ·exact C.tr (b1 x b) (y0 y<|WD f)) (by rw[la];dsimp[ZU])
    have e3:arrOf (eJ a n)=arrOf st:=a6;rw[e3];exact this
   rw[<-O,<-a2];refine fA (λ_=>v3 ?_) λ_=>v3 ?_
   ·exact Qd T I a0 za zb v mg
   ·exact Qg T a0 (λy f x b=>by rw[o]at f;cases f;exact a1 x b) za zb v mg
end
variable{ys:.C}
section
variable{M:Model}{A:P1}{E:.q}{s:Q5}{kd:SortKind}{S:.dk}{r:.ar}{st:SortSt}
def Qk{xs:Array α}{P B R:List α}(h:xs.toList=P++(B++R))(hi:i=P.length)(hj:j=P.length+B.length):(mirror xs i j<|(j-i)/2).toList=P++(B.reverse++R):=by
 have b:xs.size=P.length+(B.length+R.length):=by rw[<-Array.length_toList,h];simp
 apply YO;intro k;rw[YG,getElem?_mirror_all .a];subst hi hj
 by_cases c:P.length<=k/\k<P.length+B.length
 ·rw[z4 c,<-Array.getElem?_toList,h,ZD .a,ZC .a,ZD .a,ZC .Q,List.getElem?_reverse .a]
  congr 1;lia
 ·rw[yD c,<-Array.getElem?_toList,h]
  by_cases a:k<P.length
  ·rw[ZC a,ZC a]
  ·rw[ZD .a,ZD .a,ZD .a,ZD .Q]
   simp
def BH(C:.a7)(d:.aV)(ex:xs[i]?=some x)(c:xs[j]?=some y)(a:S x)(b:S y)(h:Q (some<|r x y) .eR):.ad (ltAt' i j) Q .eR:=by
 rw[ltAt'_eq];refine v3 (wo<|v3<|cU ex<|v3<|cU c<|C.ask a b d h)
def zE(h:xs.toList=P++(B++R))(hi:i=P.length)(hj:j=P.length+B.length)(q:∀ys:Array Keyed,ys.toList=P++(B.reverse++R)->Q () .g6):.ad (reverseSlice' i j) Q .eR:=by
 rw[reverseSlice'_eq];exact VH (q _<|Qk h hi hj)
noncomputable abbrev lG(r:.ar)(x y:Keyed):Prop:=r x y=false
/---/def DN(lo n:Nat):SM (ForInStep .rf):=do
 let some e <-ltAt' (lo+n) (lo+n-1)|pure (.done (some none,n))
 if e then pure (.done (none,n)) else pure (.cb (none,n+1))
/---/def Ql(lo n q:Nat):SM (ForInStep .yf):=do
 let some e <-ltAt' (lo+n) (lo+n-1)|pure (.done (some none,n,q))
 if e then
  if q>0 then do
   reverseSlice' (lo+n-(q+1)) (lo+n)
   pure .At
  else pure .At
 else do
  let some f <-ltAt' (lo+n-1) (lo+n)|pure (.done (some none,n,q))
  if f then pure (.done (none,n,q)) else pure (.cb (none,n+1,q+1))
def zF{R:α->α->Prop}(tr:∀{a b c},R a b->R b c->R a c){D:List α}{y x:α}(h:(D++[y]).Pairwise R)(hx:R y x):(D++[y]++[x]).Pairwise R:=by
 rw[Z8];refine⟨h,YV _ _,λa d b e=>?_⟩;rw[yS]at e;subst e;rcases Z0.mp d with d|d
 ·exact tr ((Z8.mp h).2.2 a d y .e) hx
 ·rw[yS]at d;subst d;exact hx
def pH{D:List α}(h:0<D.length):∃F y,D=F++[y]:=⟨D.dropLast,D.getLast (List.ne_nil_of_length_pos h),(List.dropLast_concat_getLast _).symm⟩
def DO{xs:Array α}{P F:List α}{y:α}{R:List α}(h:xs.toList=P++(F++[y]++R)):xs[P.length+(F.length+1)-1]?=some y:=by
 rw[<-Array.getElem?_toList,h,ZD .a,ZC .e,ZD .a];simp
def uF{xs:Array α}{P D:List α}{x:α}{R:List α}(h:xs.toList=P++(D++(x::R))):xs[P.length+D.length]?=some x:=by
 rw[<-Array.getElem?_toList,h,ZD .a,ZD .a];simp
def JF(C:.a7)(u:.aV){D:.am}(J:∀x∈D++R,S x)(hx:.tl)(h1:0<D.length)(t:D.Pairwise .V)(hn:j=D.length+R.length){β:Type}{f:.rf->SM β}{Q:β->SortSt->Prop}
  (q:∀a d,a++d=D++R->0<a.length->a.Pairwise .V->(∀y z F T,a=F++[y]->d=z::T->r z y=true)->.ad (f (none,a.length)) Q .eR) :
  wpS M A E s (forIn [D.length:j] ((none,D.length):Option .ec × Nat) .pj >>= f) Q .eR:=by
 refine v3 (VM (XZ (I:=λi c b=>b=setArr st xs/\∃a d,c=(none,a.length)/\i=a.length/\a++d=D++R/\0 < a.length/\a.Pairwise .V)
  (Q:=λc b=>b=setArr st xs/\∃a d,c=(none,a.length)/\a++d=D++R/\0<a.length/\a.Pairwise .V/\(∀y z F T,a=F++[y]->d=z::T->r z y=true)) ?step ?fin ⟨rfl,D,R,rfl,rfl,rfl,h1,t⟩) λc b h=>?_)
 case fin =>
  rintro c b ⟨rfl,a,d,rfl,e,g,l,k⟩;refine⟨rfl,a,d,rfl,g,l,k,λy z F T _ H=>?_⟩;have:=.eu g;rw[H]at this;simp at this;lia
 case step =>
  rintro i c b _ O ⟨rfl,a,d,rfl,e,g,l,k⟩;have o:=.eu g;simp at o;obtain⟨F,y,rfl⟩:=pH l;cases d with
  |nil=>simp at o e;lia
  |cons z T =>
   have m:xs.toList=P++(F++[y]++(z::T)):=by rw[hx,<-g]
   have mem:∀w,w∈F++[y]++(z::T)->S w:=λw K=>J w (by rw[<-g];exact K);show wpS M A E s (DN P.length (F++[y]).length) _ _;unfold DN;have G:=uF m;have n:=DO m;rw[show P.length+(F.length+1)-1=P.length+(F++[y]).length-1 by simp]at n;refine v3 (BH C u G n (mem z .e) (mem y .e) ?_);dsimp only;cases w:r z y with
   |true =>
    rw[z4 rfl];refine Z3 ⟨rfl,F++[y],z::T,rfl,g,l,k,λW N U V h1 v=>?_⟩;have L:=List.append_inj_right' h1 rfl;cases v;cases L;exact w
   |false =>
    rw[yD Z7];refine Z3 ⟨rfl,F++[y]++[z],T,by simp,by simp at e⊢;lia,by rw[<-g];simp,by simp,zF (R:=lE r) (λp q=>C.tr p q) k w⟩
 ·obtain⟨rfl,a,d,rfl,g,l,k,B⟩:=h
  exact q a d g l k B
def Qm(C:.a7)(l:.aV){D:.am}(o:∀x∈D++R,S x)(hx:.tl)(h1:0<D.length)(k:D.Pairwise (lG r))(hn:a=D.length+R.length)(hd:n=D.length)(p:.Az)
  (q:∀ys b d,ys.toList=P++(b++d)->b++d=D.reverse++R->0<b.length->b.Pairwise .V->Q (some b.length) .g6) :
  wpS M A E s .pi Q .eR:=by
 subst hd;refine v3 (zE hx rfl rfl λys i=>?_);have e:D.reverse.length=D.length:=List.length_reverse;rw[<-e];refine JF C l (λx hx=>o x ?_) i (by rw[e];exact h1) (UJ.mpr k) (by rw[e];exact hn) λb d g j m _=>p _ _ (q ys b d (by rw[i,g]) g j m);rcases Z0.mp hx with h|h
 ·exact VZ _ (W9.mp h)
 ·exact YS _ h
structure DI(r:.ar)(P W:.am)(ys:.C)(n q:Nat)(D1 D2 R:.am):Prop where
 hy:ys.toList=P++(D1++D2++R)
 hn:n=D1.length+D2.length
 hq:D2.length=q+1
 so:(D1++D2).Pairwise (lG r)
 eq:∀x∈D2,∀y∈D2,r x y=false
 lt:∀b∈D2,∀a∈D1,r b a=true
 pm:.aA (D1.reverse++(D2++R)) W
def Fv{l:.am}(h:l.length=q+1)(z:q=0):l.reverse=l:=by
 subst z;obtain⟨a,rfl⟩:=List.length_eq_one_iff.mp h;rfl
def DI.pw{D1 D2:.am}(d:.lP q D1 D2 R):(.ng).Pairwise (lG r):=by
 have c:=Z8.mp d.so;exact Z8.mpr ⟨c.1,WO (R:=λ_ _=>True) (λ{a b} e h _=>d.eq a (W9.mp e) b (W9.mp h)) (List.pairwise_of_forall λ_ _=>trivial),λx g y f=>c.2.2 x g y (W9.mp f)⟩
def DI.turn(C:.a7){D1 D2:.am}(d:.lP q D1 D2 R):.aA ((.ng).reverse++R) W:=by
 rw[List.reverse_append,UQ];refine((Stb.flip (r:=r) C.tr λb e a c=>d.lt b e a (W9.mp c)).append_right R).trans ?_;rw[ZU];exact d.pm
def DI.down(C:.a7){D1 D2:.am}{h:Keyed}(d:.A1)(hz:f.toList=P++(D1++D2.reverse++(h::R)))(hy:y∈D2)(w:r h y=true):DI r P W f (n+1) 0 .ng [h] R:=by
 have lt:∀a∈D1++D2.reverse,r h a=true:=λa c=>by
  cases z:r h a with
  |true=>rfl
  |false =>
   rcases Z0.mp c with c|c
   ·have:=d.lt y hy a c
    rw[C.tr z (C.asym w)]at this;cases this
   ·rw[C.tr (d.eq a (W9.mp c) y hy) z]at w
    cases w
 refine⟨by rw[hz];simp,by rw[d.hn];simp,rfl,Z8.mpr ⟨d.pw,YV _ _,λx e z hz=>?_⟩,λx e z hz=>?_,λb g a c=>?_,d.turn C⟩
 ·rw[yS.mp hz];exact C.asym (lt x e)
 ·rw[yS]at e hz;subst e hz;exact C.refl _
 ·rw[yS.mp g];exact lt a c
def DI.same(C:.a7){D1 D2:.am}{h:Keyed}(d:.A1)(hy:y∈D2)(w:r y h=false)(l:r h y=false):DI r P W ys (n+1) (q+1) D1 (D2++[h]) R:=by
 have j:=Z8.mp d.so;have i:∀x∈D2,r x h=false:=λx c=>C.tr w (d.eq x c y hy);have k:∀x∈D2,r h x=false:=λx c=>C.tr (d.eq y hy x c) l;refine⟨by rw[d.hy];simp,by rw[d.hn];simp;lia,by simp[d.hq],?_,λx c z e=>?_,λb f a g=>?_,by simpa using d.pm⟩
 ·rw[<-ZU]
  refine Z8.mpr ⟨d.so,YV _ _,λx c z e=>?_⟩;rw[yS]at e;subst e;rcases Z0.mp c with c|c
  ·exact C.tr w (j.2.2 x c y hy)
  ·exact i x c
 ·rcases Z0.mp c with c|c<;>rcases Z0.mp e with e|e
  ·exact d.eq x c z e
  ·rw[yS]at e;rw[e];exact i x .so
  ·rw[yS]at c;rw[c];exact k z .so
  ·rw[yS]at c e;subst c e;exact C.refl _
 ·rcases Z0.mp f with f|f
  ·exact d.lt b f a g
  ·rw[yS.mp f]
   cases z:r h a with
   |true=>rfl
   |false =>
    have:=d.lt y hy a g;rw[C.tr z w]at this;cases this
def JG(C:.a7)(v:.aV){D W:.am}{z:Keyed}(Y:.oN)(hx:xs.toList=P++(D++(z::R)))(hp:.aA (D.reverse++(z::R)) W)(p:∀a∈D,r z a=true)(O:(D++[z]).Pairwise (lG r)){k:Nat}(hn:k=W.length)(hd:n=D.length){Q:Option Nat->SortSt->Prop}{g:.yf->SM .ec}
  (K:∀ys D1 D2 f n q,DI r P W ys n q D1 D2 f->wpS M A E s (g (none,n,q)) Q .g6) :
  wpS M A E s (liftM (rule "list.sort.descending-run") >>= λ_=>forIn [n+1:k] ((none,n+1,0):Option .ec × Nat × Nat) (λ_ c=>Ql P.length c.2.1 c.2.2) >>= g) Q .eR:=by
 subst hd;have d0:DI r P W xs (D.length + 1) 0 D [z] R:=⟨by rw[hx];simp,rfl,rfl,O,λx hx y H=>by rw[yS]at hx H;subst hx H;exact C.refl _,λb N a U=>by rw[yS.mp N];exact p a U,hp⟩;refine v3 (kW (v3 (VM (XZ (I:=λi c e=>∃ys D1 D2 f n q,e=setArr st ys/\c=(none,n,q)/\i=n/\.lP q D1 D2 f)
  (Q:=λc e=>∃ys D1 D2 f n q,e=setArr st ys/\c=(none,n,q)/\.lP q D1 D2 f) ?l ?fin ⟨xs,D,[z],R,D.length+1,0,rfl,rfl,rfl,d0⟩) λc e h=>?_)))
 case fin =>
  rintro c e ⟨ys,D1,D2,f,n,q,rfl,rfl,_,d⟩;exact⟨ys,D1,D2,f,n,q,rfl,rfl,d⟩
 case l =>
  rintro i c e _ hi ⟨ys,D1,D2,f,n,q,rfl,rfl,rfl,d⟩;have t:=d.pm.length_eq;have j:=d.hn;simp at t;have J:0<D2.length:=by rw[d.hq];lia
  cases f with
  |nil=>simp at t;lia
  |cons h T =>
   have mem:∀w,w∈D1++D2++(h::T)->S w:=λw hw=>Y w (d.pm.mem_iff.mp (by simpa using hw));obtain⟨F,y,o⟩:=pH J;have m:y∈D2:=by rw[o];simp
   have G:ys[P.length+i]?=some h:=by
    have:=uF (P:=P) (D:=D1++D2) d.hy;rw[ZB,<-j]at this;exact this
   have u:ys[P.length+i-1]?=some y:=by
    have:=DO (P:=P) (F:=D1++F) (y:=y) (R:=h::T) (xs:=ys) (by rw[d.hy,o];simp);rw[<-this];congr 1;rw[j,o];simp;lia
   show wpS M A E s (Ql P.length i q) _ _;unfold Ql;refine v3 (BH C v G u (mem h .e) (mem y (by simp[m])) ?_);dsimp only;cases w:r h y with
   |true =>
    rw[z4 rfl];refine fA (λ_=>?_) λcq=>?_
    ·refine v3 (zE (P:=P++D1) (B:=D2) (R:=h::T) .x9 (by rw[ZB,j,d.hq];lia) (by rw[ZB,j];lia) λV Z=>Z3 ?_)
     exact⟨V,D1++D2.reverse,[h],T,i+1,0,rfl,rfl,rfl,d.down C (by rw[Z];dsimp[ZU]) m w⟩
    ·exact Z3 ⟨ys,D1++D2.reverse,[h],T,i+1,0,rfl,rfl,rfl,d.down C .yP m w⟩
   |false =>
    rw[yD Z7];refine v3 (BH C v u G (mem y (by simp[m])) (mem h .e) ?_);dsimp only;cases L:r y h with
    |true=>rw[z4 rfl];exact Z3 ⟨ys,D1,D2,h::T,i,q,rfl,rfl,d⟩
    |false=>rw[yD Z7];exact Z3 ⟨ys,D1,D2++[h],T,i+1,q+1,rfl,rfl,rfl,d.same C m L w⟩
 ·obtain⟨ys,D1,D2,f,n,X,rfl,rfl,d⟩:=h
  exact K ys D1 D2 f n X d
def JH(C:.a7)(p:.aV){W:.am}(o:.oN)(hn:a=W.length){D1 D2 b:.am}{i:Nat}(d:.lP i D1 D2 b){f:.rf->SM .ec}(v:.Az)
  (q:∀ys g b,ys.toList=P++(g++b)->Stb r (g++b) W->0<g.length->g.Pairwise .V->Q (some g.length) .g6) :
  wpS M A E s (if i > 0 then (reverseSlice' (P.length + n - (i + 1)) (P.length + n) >>= λ_=>reverseSlice' P.length (P.length + n) >>= λ_=>forIn [n:a] ((none,n):Option .ec × Nat) .pj >>= f)
   else .pi) Q .g6:=by
 have D:=d.pm.length_eq;have G:0<D2.length:=by rw[d.hq];lia
 have e:=d.hn;have z:a=(.ng).length+b.length:=by rw[hn,<-D];simp;lia
 have mem:∀w,w∈D1++D2.reverse++b->S w:=λw y=>o w (d.pm.mem_iff.mp (by simpa using y));have k:∀{h:.C},h.toList=P++(D1++D2.reverse++b)->.ad .pi Q (setArr st h):=λ{h} j =>
  Qm C p mem j .Q d.pw z (by rw[e];simp) v λys g R2 t l u m=>q ys g R2 t (by rw[l];exact d.turn C) u m
 refine fA (λ_=>?_) λF=>?_
 ·refine v3 (zE (P:=P++D1) (B:=D2) (R:=b) .x9 (by rw[ZB,e,d.hq];lia) (by rw[ZB,e];lia) λh j=>k (by rw[j];dsimp[ZU]))
 ·exact k .yP
def R5(C:.a7)(o:.aV){W:.am}(m:.oN)(hx:xs.toList=P++W)(h1:0<W.length)
  (q:∀ys e j,ys.toList=P++(e++j)->Stb r (e++j) W->0<e.length->e.Pairwise .V->Q (some e.length) .g6):.ad (countRun' P.length W.length) Q .eR:=by
 obtain⟨J,K,rfl⟩:∃J K,W=J::K:=by cases W with|nil=>simp at h1|cons a b=>exact⟨a,b,rfl⟩
 rw[countRun'_eq];refine JF (D:=[J]) (R:=K) C o m hx .e (YV _ _) .Q (f:=_) λe j N G t V=>?_;dsimp only;have g:xs.toList=P++(e++j):=by rw[hx,N];rfl
 have l:.aA (e++j) (J::K):=by rw[N];exact Stb.refl _
 have O:=.eu N;simp at O;refine fA (λc=>Z3 (q xs e j g l G t)) λc=>?_;cases j with
 |nil=>simp at c O;lia
 |cons z T =>
  obtain⟨F,y,u⟩:=pH G;have w:=V y z F T u rfl;have mem:∀v,v∈e++(z::T)->S v:=λv U=>m v (l.mem_iff.mp U);have ey:xs[P.length+e.length-1]?=some y:=by
   have:=DO (P:=P) (F:=F) (y:=y) (R:=z::T) (xs:=xs) (by rw[g,u]);rw[<-this,u];simp
  refine fA (λX=>?_) λX=>?_
  ·obtain⟨k,D2,B⟩:∃k D2,e=k::D2:=by cases e with|nil=>simp at G|cons a b=>exact⟨a,b,rfl⟩
   have ex:xs[P.length]?=some k:=by
    have:=uF (P:=P) (D:=[]) (x:=k) (R:=D2++(z::T)) (xs:=xs) (by rw[g,B];rfl);simpa using this
   refine v3 (BH C o ex ey (mem k (by rw[B];simp)) (mem y (by rw[u];simp)) ?_);dsimp only;cases Y:r k y with
   |true=>rw[z4 rfl];exact Z3 (q xs e (z::T) g l G t)
   |false =>
    rw[yD Z7];refine v3 (zE g rfl rfl λys hy=>?_);have H:r z k=true:=by
     cases h:r z k with
     |true=>rfl
     |false=>rw[C.tr Y h]at w;cases w
    refine JG (D:=e.reverse) C o m hy (by rw[UQ];exact l) (λa i=>?_) ?_ rfl .e λys D1 D2 j n Z d=>JH C o m rfl d (λn st h=>Z3 h) q
    ·cases L:r z a with
     |true=>rfl
     |false =>
      have i:=W9.mp i;rw[B]at i t;rcases y4.mp i with rfl|i
      ·rw[H]at L;cases L
      ·rw[C.tr ((Z4.mp t).1 a i) L]at H;cases H
    rw[B,List.reverse_cons];refine zF (R:=lG r) (λp q=>C.tr q p) ?_ (C.asym H);rw[<-List.reverse_cons,<-B];exact UJ.mpr t
  ·have I:e=[y]:=by
    have:e.length=1:=by lia
    rw[u]at this⊢;have:F=[]:=by simpa using this
    rw[this];rfl
   refine JG (D:=e) C o m g (by rw[I];rw[I]at l;exact l) (λa i=>by rw[I]at i;rw[yS.mp i];exact w) ?_ rfl rfl λys D1 D2 j n Z d=>JH C o m rfl d (λn st h=>Z3 h) q;rw[I];exact zF (R:=lG r) (D:=[]) (λp q=>C.tr q p) (YV _ _) (C.asym w)
end
section
variable{M:Model}{A:P1}{E:.q}{s:Q5}{kd:SortKind}{S:.dk}{r:.ar}{st:SortSt}
def Qn{xs:Array α}{P B R:List α}{x:α}(h:xs.toList=P++(B++(x::R)))(hi:i=P.length+B.length)(hd:d=B.length):(bubble xs i d).toList=P++(x::(B++R)):=by
 have f:xs.size=P.length+(B.length+(R.length+1)):=by rw[<-Array.length_toList,h];simp
 subst hi hd;apply YO;intro k;rw[YG,getElem?_bubble .a _ .a,show P.length+B.length-B.length=P.length by lia]
 by_cases c:k=P.length
 ·rw[z4 c,<-Array.getElem?_toList,h,c,ZD .a,ZD .a,ZD .a]
  simp
 ·rw[yD c]
  by_cases e:P.length<k/\k<=P.length+B.length
  ·rw[z4 e,<-Array.getElem?_toList,h,ZD .a,ZC .a,ZD .a]
   obtain⟨m,a⟩:∃m,k=P.length+(m+1):=⟨k-P.length-1,by lia⟩;subst a;rw[show P.length+(m+1)-P.length=m+1 by lia,UC,ZC .a];congr 1;lia
  ·rw[yD e,<-Array.getElem?_toList,h]
   by_cases b:k<P.length
   ·rw[ZC b,ZC b]
   ·obtain⟨m,a⟩:∃m,k=P.length+.sd:=⟨k-P.length-B.length-1,by lia⟩
    subst a;rw[ZD .a,ZD .a,ZD .a];rw[show P.length+.sd-P.length-B.length=m+1 by lia,UC,show P.length+.sd-P.length=(B.length+m)+1 by lia,UC,ZD .a];congr 1;lia
/---/def R6(lo k l u:Nat):SM (ForInStep<|Option Bool × Nat × Nat):=do
 let some e <-ltAt' (lo+k) (lo+(l+u)/2)|pure (.done (some false,l,u))
 if e then pure (.cb (none,l,(l+u)/2)) else pure (.cb (none,(l+u)/2+1,u))
def R7(C:.a7)(hk:.aV)(SW:.oN){D:.am}(hx:.tl)(pm:.aA (D++R) W)(h1:0<D.length)(sD:D.Pairwise .V)(hn:D.length<=n)(a1:n<=W.length)
  (q:∀ys f m,ys.toList=P++(f++m)->Stb r (f++m) W->f.length=n->f.Pairwise .V->Q true .g6):.ad (binarySort' P.length n D.length) Q .eR:=by
 rw[binarySort'_eq];refine v3 (VM (XZ (I:=λk c g=>∃ys f m,g=setArr st ys/\c=(none,())/\ys.toList=P++(f++m)/\Stb r (f++m) W/\f.length=k/\f.Pairwise .V)
  (Q:=λc g=>∃ys f m,g=setArr st ys/\c=(none,())/\ys.toList=P++(f++m)/\Stb r (f++m) W/\f.length=n/\f.Pairwise .V) ?J ?fin ⟨xs,D,R,rfl,rfl,hx,pm,by lia,sD⟩) λc g h=>?_)
 case fin =>
  rintro c g ⟨ys,f,m,rfl,rfl,v,p,U,F⟩;exact⟨ys,f,m,rfl,rfl,v,p,by lia,F⟩
 case J =>
  rintro k c g a0 a2 ⟨ys,f,m,rfl,rfl,v,p,U,F⟩;have Z:=p.length_eq;simp at Z;cases m with
  |nil=>simp at Z;lia
  |cons x T =>
   have mem:∀w,w∈f++(x::T)->S w:=λw hw=>SW w (p.mem_iff.mp hw);have ex:ys[P.length+k]?=some x:=by have:=uF v;rw[U]at this;exact this
   refine v3 (VM (XZ (I:=λi c g=>g=setArr st ys/\∃l u,c=(none,l,u)/\l<=u/\u<=k/\(∀d (j:d < f.length),d < l->lE r f[d] x)/\(∀d (j:d < f.length),u<=d->r x f[d] = true)/\u - l + i<=k)
    (Q:=λc g=>g=setArr st ys/\∃l,c=(none,l,l)/\l<=k/\(∀d (j:d<f.length),d<l->lE r f[d] x)/\(∀d (j:d<f.length),l<=d->r x f[d]=true)) ?s2 ?f2 ⟨rfl,0,k,rfl,YZ _,ZL _,λd j h=>absurd h .em,λd j h=>by lia,by lia⟩) λc g h=>?_)
   case f2 =>
    rintro c g ⟨rfl,l,u,rfl,g1,K,G,t,g5⟩;have:l=u:=by lia
    subst this;exact⟨rfl,l,rfl,K,G,t⟩
   case s2 =>
    rintro i c g _ _ ⟨rfl,l,u,rfl,g1,K,G,t,g5⟩;dsimp only
    by_cases Y:l≥u
    ·rw[z4 Y]
     have:l=u:=by lia
     subst this;exact Z3 ⟨rfl,l,rfl,K,G,t⟩
    ·rw[yD Y]
     have L:(l+u)/2<f.length:=by lia
     have em:ys[P.length+(l+u)/2]?=some (f[(l+u)/2]):=by
      rw[vI v _ L];exact ZE L
     show wpS M A E s (R6 P.length k l u) _ _;unfold R6;refine v3 (BH C hk ex em (mem x .e) (mem _<|VZ _<|YR L) ?_);dsimp only;have o:∀d e (j:d<f.length) (he:e<f.length),d<=e->lE r f[d] f[e]:=λd e j he a3=>by
      by_cases z:d=e
      ·subst z;exact C.refl _
      ·exact Y9.mp F d e j he .a
     cases w:r x f[(l+u)/2] with
     |true =>
      rw[z4 rfl];refine Z3 ⟨rfl,l,(l+u)/2,rfl,by lia,by lia,G,λd j h=>?_,by lia⟩;cases w2:r x f[d] with
      |true=>rfl
      |false=>rw[C.tr (o _ d L j h) w2]at w;cases w
     |false =>
      rw[yD Z7];exact Z3 ⟨rfl,(l+u)/2+1,u,rfl,by lia,K,λd j h=>C.tr (o d _ j L .a) w,t,by lia⟩
   ·obtain⟨rfl,l,rfl,K,G,t⟩:=h
    dsimp only;rw[moveDown'_eq];have lk:l<=f.length:=by lia
    have N:f=f.take l++f.drop l:=(XC l f).symm;have tl:(f.take l).length=l:=by simp;lia
    have V:=Qn (xs:=ys) (P:=P++f.take l) (B:=f.drop l) (x:=x) (R:=T) (i:=P.length + k) (d:=P.length + k - (P.length + l)) (by
     rw[v];conv=>lhs;rw[N]
     dsimp[ZU]) .Q .Q
    have O:=F;rw[N,Z8]at O;refine v3 (VH (Z3 ⟨_,f.take l++(x::f.drop l),T,rfl,rfl,by rw[V];dsimp[ZU,UV],?_,by simp;lia,?_⟩))
    ·refine Stb.trans ?_ p
     have fl:.aA ([x]++f.drop l) (f.drop l++[x]):=Stb.flip (r:=r) C.tr λb V a ha=>by
      obtain⟨d,j,e⟩:=XX.mp ha;rw[yS.mp V,<-e];exact t (l+d) .a .a
     have:=(fl.append_left<|f.take l).append_right T;rw[<-ZU (f.take l) (f.drop l),XC]at this;simpa using this
    ·rw[Z8]
     have dm:∀y∈f.drop l,lE r x y:=λy H=>by
      obtain⟨d,j,e⟩:=XX.mp H;rw[<-e];exact C.asym (t (l+d) .a .a)
     have tm:∀y∈f.take l,lE r y x:=λy H=>by
      obtain⟨d,j,e⟩:=W7.mp H;rw[<-e];exact G d .a .a
     refine⟨O.1,Z4.mpr ⟨dm,O.2.1⟩,λy H z X=>?_⟩;rcases y4.mp X with rfl|X
     ·exact tm y H
     ·exact O.2.2 y H z X
 ·obtain⟨ys,f,m,rfl,rfl,v,p,U,F⟩:=h
  exact Z3 (q ys f m v p U F)
end
section
variable{M:Model}{A:P1}{E:.q}{s:Q5}{kd:SortKind}{S:.dk}{r:.ar}{st:SortSt}
inductive Rn(r:.ar):Nat->List .nH->List .gV->Prop
 |nil (b:Nat):Rn r b [] []
 |cons {b e:Nat} {D:.am} {Ds:List .nH} {ps:List .gV}:D≠[]->D.Pairwise .V->Rn r (b+D.length) Ds ps->Rn r b (D::Ds) ((b,D.length,e)::ps)
theorem Rn.split{ps:List .gV}:∀{i b:Nat} {k:List .nH} {ps:List .gV},Rn r b k ps->i<ps.length->∃a g c d,k=a++g/\ps=c++d/\c.length=i/\Rn r (b+a.flatten.length) g d/\∀f j,Rn r (b+a.flatten.length) f j->Rn r b (a++f) (c++j)
 |0,b,k,ps,h,_=>⟨[],k,[],ps,rfl,rfl,rfl,h,λ_ _ h=>h⟩
 |i+1,b,_,_,.nil _,hi=>by simp at hi
 |i+1,b,_,_,.cons (D:=D) (e:=e) nD sD h,hi=>by
  obtain⟨a,g,c,d,n,m,p,q,o⟩:=Rn.split (ps:=[]) (i:=i) h (by simpa using hi);refine⟨D::a,g,(b,D.length,e)::c,d,by rw[n];rfl,by rw[m];rfl,by simp[p],?_,λf j l=>.cons nD sD (o f j ?_)⟩
  ·rw[X6,ZB,<-Nat.add_assoc];exact q
  ·rw[X6,ZB,<-Nat.add_assoc]at l;exact l
def Rn.len(h:Rn r b a ps):ps.length=a.length/\ps.length<=a.flatten.length:=by
 induction h with
 |nil=>simp
 |@cons b e D a ps nD sD h c =>
  have:=VI.mpr nD;simp;simp at c;lia
def Rn.snoc{D:.am}(c:D≠[])(d:D.Pairwise .V)(h:Rn r b a ps):Rn r b (a++[D]) (ps++[(b+a.flatten.length,D.length,e)]):=by
 induction h with
 |nil b=>exact .cons c d (.nil _)
 |@cons b g i a ps nD' sD' h f =>
  refine .cons nD' sD' ?_;rw[X6,ZB,<-Nat.add_assoc];exact f
def Rn.mod(h:Rn r b a ps):∀i,Rn r b a (ps.modify i λq=>(q.1,q.2.1,w)):=by
 induction h with
 |nil b=>intro i;cases i<;>exact .nil _
 |@cons b d e a ps nD' sD' h c =>
  intro i;cases i with
  |zero=>exact .cons nD' sD' h
  |succ i=>exact .cons nD' sD' (c i)
structure SI(r:.ar)(a0 W:.am)(xs:.C)(pd:Array .gV)(Ds:List .nH):Prop where
 hx:xs.toList=Ds.flatten++W
 rn:Rn r 0 Ds pd.toList
 pm:.aA xs.toList a0
noncomputable abbrev sta(kd:SortKind)(xs:.C)(pd:Array .gV)(g:Nat):SortSt:=SortSt.mk' kd xs pd g none
def Ow(C:.a7)(S0:∀x∈a0,S x)(h:SI r a0 W xs b v)(hi:i+1<b.size)
  (q:∀k d f g',SI r a0 W k d f->d.size+1=b.size->f.flatten.length=v.flatten.length->Q true (sta kd k d g')):.ad (mergeAt' i) Q (sta kd xs b g):=by
 obtain⟨a,O,j,p,G,m,n,B,H⟩:=Rn.split (ps:=[]) (i:=i) h.rn .Q;rw[YE]at B H;have o:b.size=j.length+p.length:=by rw[<-Array.length_toList,m,ZB]
 cases B with
 |nil=>simp at o;lia
 |@cons _ e X Ds3 V nX sX K =>
  cases K with
  |nil=>simp at o;lia
  |@cons _ L Y Ds4 t nY sY I =>
   have c:xs.toList=a.flatten++(X++(Y++(Ds4.flatten++W))):=by rw[h.hx,G];simp
   have mem:∀x∈xs.toList,S x:=λx U=>S0 x (h.pm.mem_iff.mp U);have N:b[i]?=some (a.flatten.length,X.length,e):=by
    rw[<-Array.getElem?_toList,m,ZD .a,n];simp
   have T:b[i+1]?=some (a.flatten.length+X.length,Y.length,L):=by
    rw[<-Array.getElem?_toList,m,ZD .a,n];simp
   refine Qj (st:=sta kd xs b g) C rfl rfl c N T .w4 .w4 sX sY nX nY λZ J P w R D=>?_;have l:Z.length=X.length+Y.length:=by rw[w.length_eq,ZB]
   have F:((b.setIfInBounds i (a.flatten.length,X.length+Y.length,e)).eraseIdxIfInBounds (i+1)).toList=j++(a.flatten.length,Z.length,e)::t:=by
    rw[Array.toList_eraseIdxIfInBounds,Array.toList_setIfInBounds,m,<-n,l];simp[List.set_append,List.eraseIdx_append];intro z;lia
   refine q P _ (a++Z::Ds4) J ⟨by rw[D];simp,?_,?_⟩ ?_ ?_
   ·show Rn r 0 _ (Array.toList _)
    rw[F];refine H (Z::Ds4) _ (.cons ?_ R ?_)
    ·intro z;rw[z]at l;have:=VI.mpr nX;simp at l;lia
    ·rw[l,<-Nat.add_assoc];exact I
   ·refine Stb.trans ?_ h.pm
    rw[D,c];refine Stb.append_left _ ?_;have:=w.append_right (Ds4.flatten++W);simpa only[ZU] using this
   ·have:=.eu F
    rw[Y6]at this;show (Array.size _)+1=_;rw[this,o];simp;lia
   ·rw[G];simp[l];lia
/---/def mB(pw:Nat):SM (ForInStep .Am):=do
 let st <-get
 let some (_,_,older):=(if (.dC).size>1 then .dC[(.dC).size-2]? else none)|pure (.done (none,()))
 if older<=pw then pure (.done (none,()))
 else do
  let b <-mergeAt' ((.dC).size-2)
  if !b then pure (.done (some (),())) else pure (.cb (none,()))
def JI(C:.a7)(S0:∀x∈a0,S x)(h:SI r a0 W xs p j){l y:Nat}{K:.Am->SM β}
  (q:∀b a d g',SI r a0 W b a d->d.flatten.length=j.flatten.length->.ad (K (none,())) Q (sta kd b a g')):.ad (forIn [:l] ((none,()):Option Unit × Unit) (λ_ _=>mB y) >>= K) Q (sta kd xs p g):=by
 refine v3 (VM (XZ (I:=λ_ c f=>∃b a d g',f=sta kd b a g'/\c=(none,())/\SI r a0 W b a d/\d.flatten.length=j.flatten.length)
  (Q:=λc f=>∃b a d g',f=sta kd b a g'/\c=(none,())/\SI r a0 W b a d/\d.flatten.length=j.flatten.length) ?step ?fin ⟨xs,p,j,g,rfl,rfl,h,rfl⟩) λc f h=>?_)
 case fin=>exact λc f h=>h
 case step =>
  rintro i c f _ _ ⟨b,a,d,g',rfl,rfl,k,m⟩;unfold mB;refine v3 (wo ?_)
  by_cases c:a.size>1
  ·have e:.vy=some (a[a.size-2]' .a):=by
    rw[z4 c];exact XO (show a.size-2<a.size by lia)
   rw[e];refine fA (λ_=>Z3 ⟨b,a,d,g',rfl,rfl,k,m⟩) λ_=>?_;refine v3 (Ow (i:=a.size-2) C S0 k .a λu n t w o _ v=>?_);exact Z3 ⟨u,n,t,w,rfl,rfl,o,v.trans m⟩
  ·have e:.vy=none:=yD c
   rw[e];exact Z3 ⟨b,a,d,g',rfl,rfl,k,m⟩
 ·obtain⟨b,a,d,g',rfl,rfl,k,m⟩:=h
  exact q b a d g' k m
def zG(C:.a7)(S0:∀x∈a0.toList,S x)(h1:0<a0.size)
  (q:∀xs a g,Stb r xs.toList a0.toList->xs.toList.Pairwise .V->Q () (sta kd xs a g)):.ad sortRuns' Q .rA:=by
 obtain⟨k,N⟩:∃l,l=a0.toList:=⟨_,rfl⟩;rw[sortRuns'_eq];refine v3 (wo ?_);have b0:a0.size=k.length:=by rw[N];simp
 have a5:SI r k k a0 #[] []:=⟨by rw[N];rfl,.nil 0,by rw[N];exact Stb.refl _⟩;rw[<-N]at S0;show wpS M A E s (forIn [:a0.size] ((none,0):Option Unit × Nat) _ >>= _) _ _;refine v3 (VM (XZ (I:=λi c f=>∃xs a b W g,f=sta kd xs a g/\c=(none,b.flatten.length)/\SI r k W xs a b/\i<=b.flatten.length)
  (Q:=λc f=>∃xs a b g,f=sta kd xs a g/\c=(none,b.flatten.length)/\SI r k [] xs a b) ?step ?fin ⟨a0,#[],[],k,g0,rfl,rfl,a5,YZ _⟩) λc f h=>?_)
 case fin =>
  rintro c f ⟨xs,a,b,W,g,rfl,rfl,d,K⟩;have m:=d.pm.length_eq;rw[d.hx,ZB]at m;have:W=[]:=WX.mp .a;subst this;exact⟨xs,a,b,g,rfl,rfl,d⟩
 case step =>
  rintro i c f _ hi ⟨xs,a,b,W,g,rfl,rfl,d,K⟩;have m:=d.pm.length_eq;rw[d.hx,ZB]at m;refine fA (λc=>Z3 ?_) λc=>?_
  ·have c:b.flatten.length≥a0.size:=c
   have:W=[]:=WX.mp .a;subst this;exact⟨xs,a,b,g,rfl,rfl,d⟩
  ·have c:¬b.flatten.length≥a0.size:=c
   have e:a0.size-b.flatten.length=W.length:=by lia
   have SW:∀x∈W,S x:=λx hx=>S0 x (d.pm.mem_iff.mp (by rw[d.hx];exact YS _ hx));show wpS M A E s (countRun' b.flatten.length (a0.size-b.flatten.length) >>= _) _ _;rw[e];refine v3 (R5 (st:=sta kd xs a g) C rfl SW d.hx .a λys D R hy X l0 sD=>?_);dsimp only;have Y:=X.length_eq;rw[ZB]at Y;have pY:∀{zs:.C} {D2 R2:.am},zs.toList=b.flatten++(D2++R2)->Stb r (D2++R2) W->.aA zs.toList xs.toList:=λ{zs D2 R2} h1 h2=>by rw[h1,d.hx];exact h2.append_left _
   refine fA (λc2=>?_) λc2=>?_
   ·obtain⟨G,a1⟩:=q0 (min W.length<|minRun' (arrOf .rA).size (arrOf .rA).size 0)
    refine v3 (kW ?_);rw[<-a1];refine v3 (R7 (st:=sta kd xs a g) C rfl SW hy X l0 sD (n:=G) .a .a λYY u U H a2 O J=>?_);have j:G=u.length:=O.symm;have y:u≠[]:=λz=>by rw[z]at O;simp at O;lia
    have L:=pY H a2;refine fA (λz=>by simp at z) λ_=>?_;have o:SI r k (u++U) YY a b:=⟨H,d.rn,L.trans d.pm⟩;have lD:=VI.mpr y;refine v3 (wo ?_);cases hb:a.back? with
    |none =>
     dsimp only;refine v3 (VH (Z3 ⟨YY,a.push (b.flatten.length,G,0),b++[u],U,g,rfl,by rw[j];simp,⟨by rw[H];simp,?_,o.pm⟩,by simp;simp at K;lia⟩));have:=d.rn.snoc (e:=0) (D:=u) y J;rw[YE]at this;rw[UM,j];exact this
    |some z =>
     obtain⟨T,F,w1⟩:=z;dsimp only;refine JI C S0 o λV t P g' B v=>?_;refine v3 (VH (v3 (VH (Z3 ⟨V,(.ui).push (b.flatten.length,G,0),P++[u],U,g',rfl,by rw[j,UZ,ZB,v];simp,⟨by rw[B.hx];simp,?_,B.pm⟩,by rw[UZ,ZB,v];simp;simp at K;lia⟩))));have:=(.ux).snoc (e:=0) (D:=u) y J;rw[YE,v,<-j]at this;rw[UM,Array.toList_modify];exact this
   ·obtain⟨YY,a8⟩:∃z,z=ys:=⟨_,rfl⟩
    obtain⟨u,a3⟩:∃z,z=D:=⟨_,rfl⟩;obtain⟨U,a9⟩:∃z,z=R:=⟨_,rfl⟩;subst a8 a3 a9;have H:=hy;have J:=sD;have y:u≠[]:=List.ne_nil_of_length_pos l0;have L:=pY hy X;obtain⟨G,j⟩:∃z,z=u.length:=⟨_,rfl⟩;show wpS M A E s (get >>= _) _ _;rw[<-j];have o:SI r k (u++U) YY a b:=⟨H,d.rn,L.trans d.pm⟩;have lD:=VI.mpr y;refine v3 (wo ?_);cases hb:a.back? with
    |none =>
     dsimp only;refine v3 (VH (Z3 ⟨YY,a.push (b.flatten.length,G,0),b++[u],U,g,rfl,by rw[j];simp,⟨by rw[H];simp,?_,o.pm⟩,by simp;simp at K;lia⟩));have:=d.rn.snoc (e:=0) (D:=u) y J;rw[YE]at this;rw[UM,j];exact this
    |some z =>
     obtain⟨T,F,w1⟩:=z;dsimp only;refine JI C S0 o λV t P g' B v=>?_;refine v3 (VH (v3 (VH (Z3 ⟨V,(.ui).push (b.flatten.length,G,0),P++[u],U,g',rfl,by rw[j,UZ,ZB,v];simp,⟨by rw[B.hx];simp,?_,B.pm⟩,by rw[UZ,ZB,v];simp;simp at K;lia⟩))));have:=(.ux).snoc (e:=0) (D:=u) y J;rw[YE,v,<-j]at this;rw[UM,Array.toList_modify];exact this
 ·obtain⟨xs,a,b,g,rfl,rfl,d⟩:=h
  have m:=d.pm.length_eq;have Y:=d.hx;rw[XD]at Y;rw[Y]at m;have rl:=d.rn.len;rw[Y6]at rl;refine v3 (VM (XZ (I:=λi c f=>∃xs a b g,f=sta kd xs a g/\c=(none,())/\SI r k [] xs a b/\a.size + i<=a0.size)
   (Q:=λc f=>∃xs a b g,f=sta kd xs a g/\c=(none,())/\SI r k [] xs a b/\a.size<=1) ?step2 ?fin2 ⟨xs,a,b,g,rfl,rfl,d,by lia⟩) λc f h=>?_)
  case fin2 =>
   rintro c f ⟨xs,a,b,g,rfl,rfl,d,h⟩;refine⟨xs,a,b,g,rfl,rfl,d,?_⟩;have h:a.size+max 0 a0.size<=a0.size:=h;lia
  case step2 =>
   rintro i c f _ hi ⟨xs,a,b,g,rfl,rfl,d,h⟩;refine v3 (wo (fA (λc=>Z3 ⟨xs,a,b,g,rfl,rfl,d,c⟩) λc=>?_));have c:¬a.size<=1:=c;refine v3 (Ow C S0 d ?_ λa4 a6 a7 g2 o hp _=>?_)
   ·have hh:∀(p:Prop) [Decidable p],(if p then a.size-2-1 else a.size-2)+1<a.size:=λp _=>by split<;>lia
    exact hh _
   ·exact Z3 ⟨a4,a6,a7,g2,rfl,rfl,o,by lia⟩
  ·obtain⟨xs,a,b,g,rfl,rfl,d,h⟩:=h
   refine Z3 (q xs a g (by rw[<-N];exact d.pm) ?_);have Y:=d.hx;rw[XD]at Y;have m:=d.pm.length_eq;have rn:=d.rn;obtain⟨ps,Z⟩:=q0 (a.toList);have pl:ps.length=a.size:=by rw[Z];simp
   rw[<-Z]at rn;rw[Y]at m⊢;cases rn with
   |nil=>simp at m;lia
   |@cons _ e D P ps nD sD h3 =>
    cases h3 with
    |nil=>simpa using sD
    |cons _ _ _=>simp at pl;lia
end
end Ts
namespace Fm
open PySem PySem.Spec L2 PySem.W PyProof.Rows
section
variable{X:Cx}{pos p:Pos}
def JJ(s:.aJ)(u:Gl X "min")(hm:X.mg "min"=none)(ha:.l a l)(hb:.l b o)(n:autoParam (.jD X.env=(false,.bL X.env)::starEach [b] X.env) Q3Q._auto_1)(i:autoParam (.jF X.env=(false,eval b X.env)::starEach [] X.env) Q3Q._auto_1)(hpl:autoParam ((.w7).any (λx=>x.1)=false) Q3Q._auto_1):.l (.jw<|.bT "min") (ue l o):=by
 refine PE.imp (jA (Gw s) u hm .bd .zM (he:=n) (hpl:=hpl)) λσ H Q ⟨ρ,σd,z,q,m⟩=>⟨ρ,σd,z,q,?_⟩;unfold ue at m;refine (.a0 m).imp λv B zz=>?_;obtain⟨f,d,h,C,e,rv,r⟩:=zz;refine⟨f,σd,h,e,(.a0 r).imp λw D zz=>?_⟩;obtain⟨y,k,t,A,g,c,j⟩:=zz;cases d<;>try exact j.elim
 cases k<;>try exact j.elim
 dsimp[rD,RD]at rv c;subst rv c;exact⟨_,_,rfl,j.here g .aU⟩
end
section
variable{prog:P2}{w:N3}{A:P1}{E:.q}{s:Q5}
end
section
variable{X:Cx}{pos p:Pos}
end
end Fm
namespace Fm
open PySem PySem.Spec L2
open AutoSeq1 (wpAny_loadPart')
open PyProof.Rows (Call_)
section
variable{X:Cx}{pos p tp:Pos}{elts:.a8}{tk:Nat}
/---/def TL(K:ZX)(ta:TE):TI:=λσ H R=>ta σ H λx H1=>∃a xs,x=.ref a/\SqL K H1 a xs/\(xs.length<=sizeLine->R (ItL K a) H1)
def JK(C:.oG)(hm:.os)(ha:.w a j)(t:autoParam (.bq X.env=.ij) Q3Q._auto_1):PI X .jp .oP (TL X.K j):=by
 intro pins s σ H R I h;have l:=.fm t;refine Call_ (i4 I C hm PyProof.Rows.boot_enumerate (XF (thn (l pos pins s σ H (λw c=>∃a d,w=.di/\SqL X.K c a d/\.me) I ?_) λJ f ⟨w,c,k,z,q1⟩=>?_) t rfl))
 ·show j σ H λx c=>_
  have r:∀(x:V) (c:Hp),(∃a d,x=.ref a/\SqL X.K c a d/\.me)=(∃a d,[x]=.di/\SqL X.K c a d/\.me):=λx c=>by simp
  have g:j σ H λx c=>∃a d,x=.ref a/\SqL X.K c a d/\.me:=h;dsimp[r]at g;exact g
 ·obtain⟨a,d,e,B,q⟩:=q1
  subst e;obtain⟨u,rfl,A⟩:=aY.one z;cases (show u=Value.ref a from A);obtain⟨n,rv,F,D⟩:=k.list B;refine call_enumerate_list (show f.heap.IsList a n.toArray from F.isList) λg v o y E=>?_;refine wpAny_pyIter_enum (s:=.mS) v ?_;have G:.bH c .mS:=k.kept (t':=f.toks) E;refine⟨f.heap.objs.size+1,.wC,_,_,c,rfl,G,xV (L:=true) (f.heap.objs.size+1) f.heap.objs.size a,⟨⟨_,by simpa using v⟩,o⟩,λb m=>?_,q D⟩;have i:f.heap.objs.size<=b:=by
   rcases y4.mp m with e|m
   ·rw[e];exact xa _
   ·have:b=f.heap.objs.size:=by simpa using m
    rw[this];exact ZL _
  exact k.fpOk i (k.hok.fresh i)
theorem DP{K:ZX}{n:Nat}(hq:ρ[n]?=some q)(hz:(dZ l).length<=sizeLine):qi K ρ H (ItL K q) (dZ l) (λh=>h[n]?=some .b3) where
 go:=λρ' t hd' i d j k m r=>by
  have a:=j.get hq;obtain⟨c,f,b⟩:=k.cel n _ q m a;unfold dZ at r;obtain⟨g,hi2⟩:=zS.mp r;have B:i<l.length:=by simpa using g
  have A:d=.tup [.int (i:Nat),l[i]]:=by rw[<-hi2];simp
  subst A;obtain⟨v,e,w⟩:=b.get (i:=i) (d:=l[i]) (by simp[B]);have s:SqL K t q c:=SqL.of f;refine⟨⟨c,v,s,e⟩,λx E y=>?_⟩;obtain⟨q2,C,rfl,z,rfl,y⟩:=y;have:=y c s;rw[e]at this;cases this;have u:=cV (o:=HO.tup [.int (i:Nat),v]) z;refine⟨u,?_⟩;dsimp[RD];exact⟨q2,_,rfl,bB,.jE .wu⟩
 stop:=λρ' t hd' j k m=>by
  have a:=j.get hq;obtain⟨c,f,b⟩:=k.cel n _ q m a;exact⟨c,SqL.of f,by rw[<-b.length];simp[dZ]⟩
 sz:=hz
/---/def Fw(K:ZX)(ρ:.I)(H:Hp)(σd:Sd)(σ:St)(r:Res D)(R:.lz):Prop:=match r with
 |.ok (.ref n) hd'=>match hd'[n]? with
  |some .cz=>∀J H' ρ',Ext ρ H ρ' H'->RS K ρ' H' σd hd' σ->qi K ρ' H' J (dZ l) .yn->R J H'
  |_=>False
 |_=>False
/---/def R8(K:ZX)(f:EF):TI:=λσ H R=>∃ρ σd hd,RS K ρ H σd hd σ/\Fw K ρ H σd σ .la R
/---/def MIE(X:Cx)(tg e:Expr)(f:EF):Prop:=PI X tg e (R8 X.K f)
def vJ{f:EF}(u:.oG)(hm:.os)(ha:.l a f)(y:autoParam (.bq X.env=.ij) Q3Q._auto_1):MIE X .jp .oP f:=by
 refine PI.imp (JK u hm ha y) λσ H R ⟨ρ,σd,o,s,b⟩=>⟨ρ,σd,o,s,?_⟩;unfold Fw at b;cases e:f σd o with
 |exc x A=>rw[e]at b;exact b
 |bad=>rw[e]at b;exact b
 |ok d j =>
  rw[e]at b;intro v z g k c rv;cases d<;>try exact b.elim
  rename_i n
  cases i:j[n]? with
  |none=>dsimp[i]at b
  |some cell =>
   dsimp[i]at b;cases cell with
   |dct l=>exact b.elim
   |dcT l=>exact b.elim
   |ob l=>exact b.elim
   |lst l =>
    simp only at b;dsimp[rD,RD]at rv;obtain⟨q,m,rfl⟩:=rv;obtain⟨r,t,h⟩:=c.hp.cel n _ q i m;exact⟨q,r,rfl,SqL.of t,λw=>b _ z g k c (DP m (by rw[show (dZ l).length=r.length by rw[<-h.length];simp[dZ]];exact w))⟩
end
section
variable{X:Cx}{pos:Pos}{tg:Expr}
end
end Fm
namespace Fm
open PySem PySem.Spec L2
section
variable{X:Cx}{pos:Pos}{scope:Scope}{own capn:.af}{caps:.i}
def BI(hc:.aJ)(S:.e3)(hi:MIE X tg a f)
  (a1:∀K C s H ex,MG .qt tg g/\MTs .qt t cs/\ME .qt r e)
  (hs:autoParam (∀x,foldedSetIterable a X.env x=pure x) Q2Q._auto_1):MF X (.hR r [⟨tg,a,t,0⟩]) .xF:=by
 intro pins s σ H Q I ⟨ρ,σd,Y,rs,p⟩;rw[eval_ListComp];unfold fU at p;cases c:f σd Y with
 |exc z h7=>rw[c]at p;exact p.elim
 |bad=>rw[c]at p;exact p.elim
 |ok d j =>
  rw[c]at p;cases d<;>try exact p.elim
  rename_i n
  simp only at p;cases V:j[n]? with
  |none=>rw[V]at p;exact p.elim
  |some cell =>
   rw[V]at p;cases cell with
   |dct l=>exact p.elim
   |dcT l=>exact p.elim
   |ob l=>exact p.elim
   |lst M =>
    simp only at p;obtain⟨K,O,B,w⟩:=jC λy hy P=>.lS (S.free y hy P);refine VC rfl hs O S.kind S.names (thn (hi pins s σ H (λJ N=>∃i,Ext ρ H i N/\RS X.K i N σd j σ/\qi X.K i N J (dZ M) (λh=>h[n]? = some (.lst M))) I ⟨ρ,σd,Y,rs,by
     unfold Fw;rw[c];dsimp[V];exact λJ H' ρ' ex U L=>⟨ρ',ex,U,L⟩⟩) λv s1 O=>thn O λa2 s2 h2=>?_)
    obtain⟨it,fp,tn,J,N,rfl,u,T,a0,hf,i,k,A,L⟩:=h2;generalize hG:(λh:Hd=>h[n]?=some (.lst M))=G at p L;cases F:dX G g cs e (dZ M) .gL j with
    |exc z h7=>rw[F]at p;exact p.elim
    |bad=>rw[F]at p;exact p.elim
    |ok ds hdF =>
     rw[F]at p;refine kS hc S a1 u T a0 hf A L B w F λC s' m H' ρ' vs E hn I' Z ex rh D hD W R=>?_;refine⟨m,hn,λh' sb=>⟨.ref s2.heap.objs.size,H',?_,rfl,?_⟩⟩
     ·refine I'.turned .j3 Z ?_ (.inr<|YX<|ZS u.sz E) (λx c e z=>?_) λq hq z=>?_
      ·exact YN (YC u.lt E)
      ·obtain⟨v,o,ho,Y⟩:=u.cell x c e
       exact absurd (YC (ZI ho) E) .dy
      ·exact absurd (YC (ZI (u.pin q hq).1) E) .dy
     ·exact p _ vs H' ρ' .nB (rs.ext .nB rh) (k.fresh D<|A.hp.free D) hD W R
def JL(hN:.gf)(hi':.dV)(hx:.f8)(hc:.aJ)(S:.e3)(hi:MIE X tg k f)
  (b3:∀cl C s H ex,MG .h8 tg g/\MTs .h8 F cs/\ME .h8 E e)
  (b0:autoParam (swapsWith (.ListComp E [⟨tg,k,F,0⟩] scope A) (some<|.Name x w) pos.line X.env=pure true) Q3Q._auto_1)
  (hs:autoParam (∀x,foldedSetIterable k X.env x=pure x) Q2Q._auto_1) (b5:autoParam (X.fn x=true\/X.env.scope.names.lookup x=some .local) Q0Q._auto_1) :
  MS X (.Assign [.Name x w] (.ListComp E [⟨tg,k,F,0⟩] scope A) pos) (aG (gN i)<|aI .xF):=by
 intro pins s σ H En I ⟨ρ,σd,hd,rs,p⟩;rw[exec_Assign_Name_used _ _ _ _ b0];refine z0 (wz ?_);have j:=cQ.outE (σ := σ) p;unfold aI fU at j;cases c:f σd hd with
 |exc z h7=>rw[c]at j;exact j.elim
 |bad=>rw[c]at j;exact j.elim
 |ok d K =>
  rw[c]at j;cases d<;>try exact j.elim
  rename_i n
  simp only at j;cases c1:K[n]? with
  |none=>rw[c1]at j;exact j.elim
  |some cell =>
   rw[c1]at j;cases cell with
   |dct l=>exact j.elim
   |dcT l=>exact j.elim
   |ob l=>exact j.elim
   |lst l0 =>
    simp only at j;obtain⟨cl,h1,P,R⟩:=jC λy hy a9=>.lS (S.free y hy a9);refine z0 (z0 (VC rfl hs h1 S.kind S.names (thn (hi pins s σ H (λJ H1=>∃r,Ext ρ H r H1/\RS X.K r H1 σd K σ/\qi X.K r H1 J (dZ l0) (λh=>h[n]? = some (.lst l0))) I ⟨ρ,σd,hd,rs,by
     unfold Fw;rw[c];dsimp[c1];exact λJ D ρ' ex a1 Z=>⟨ρ',ex,a1,Z⟩⟩) λv s1 h1=>thn h1 λb7 u h2=>?_)))
    obtain⟨it,fp,tn,J,H1,rfl,O,T,a5,hf,r,W,U,Z⟩:=h2;generalize hG:(λh:Hd=>h[n]?=some (.lst l0))=G at j Z;cases c2:dX G g cs e (dZ l0) .gL K with
    |exc z h7=>rw[c2]at j;exact j.elim
    |bad=>rw[c2]at j;exact j.elim
    |ok ds hdF =>
     rw[c2]at j;dsimp[aH]at j
     by_cases hz:ds.length<=SZ
     ·rw[z4 hz]at j
      refine kS hc S b3 O T a5 hf U Z P R c2 λC s' m D ρ' vs Y hn I' a4 ex rh Q hD a2 a0=>?_;refine wpAny_assign_Name (rJ I' hN hi' hx (v:=.ref u.heap.objs.size) rfl (λb1 b2 a6=>?_) b5);have L:C≠X.env.locals:=YN (YC O.lt Y);have M:∀y c,X.env.cells.lookup y=some c->c≠C:=λy c e z=>by
       obtain⟨v,o,ho,hd⟩:=O.cell y c e;exact absurd (YC (ZI ho) Y) .dy
      refine⟨m,?_,λh' sb=>wX .aZ⟩
      ·obtain⟨a,sa,ha⟩:=a6
       refine hn.sameBut sa ?_;rcases ha with z|z
       ·rw[z];exact L
       ·exact WQ (M _ _ z)
      ·have I3:Inv X pins (σ.set i<|some<|.ref u.heap.objs.size) D { b1 with heap:=h' }:=b2.turned .j3 a4 L (.inr<|YX<|ZS O.sz Y) M λq hq z =>
        absurd (YC (ZI (O.pin q hq).1) Y) .dy
       have B:.cG ρ' D:=W.trans ex;have a3:=rh.alloc hD a2 a0;have a7:H u.heap.objs.size=none:=W.fresh Q (U.hp.free Q);have V:.cG .yB D:=⟨by obtain⟨t,rfl⟩:=B.pre;exact⟨t++[u.heap.objs.size],by simp⟩,λa ha=>by
        rcases Z0.mp ha with z|z
        ·exact B.new a z
        ·simp at z;subst z;exact .inr a7,B.frame⟩
       obtain⟨b4,d2,b6,e2,N,a8,pn⟩:=j (.ref u.heap.objs.size) D .yB V (rs.ext V a3) (by
        dsimp[rD,RD];refine⟨u.heap.objs.size,?_,rfl⟩;rw[<-rh.len];simp)
       exact⟨_,D,I3,pn _ D b4 Ext.refl ⟨N.hp,N.st.set i a8⟩⟩
     ·rw[yD hz]at j;exact j.elim
end
section
variable{X:Cx}
def zH{fo:EF}{apos f:Pos}(W:.hI)(he:MF X e L)(h:autoParam (.gv "extend" X.env .db=eval o X.env) Q3Q._auto_1)
  (u:autoParam (((backTo f .km).all .iJ && (backToKw f .mj).all .ix
   && decide .lU)=true) Q3Q._auto_1)
  (j:autoParam ((apos.endLine == f.line)=true) Q3Q._auto_1) (F:autoParam (starEach [e] X.env=(false,.cH X.env)::starEach [] X.env) Q3Q._auto_1) :
  ME X (.Call (.ju "extend") [e] [] f) (tH fo L):=by
 refine PE.imp (.tD PySem.F.slot_list_extend PySem.F.type_list_extend Gy W (cP he eQ F) h u j F) λσ H Q ⟨ρ,σd,P,S,E⟩=>⟨ρ,σd,P,S,?_⟩;unfold tH at E;refine (.a0 E).imp λv H1 zz=>?_;obtain⟨A,d,k,Z,r,rv,b⟩:=zz;cases d<;>try exact b.elim
 rename_i n
 dsimp[rD,RD]at rv;obtain⟨a,I,rfl⟩:=rv;simp only at b;cases B:k[n]? with
 |none=>rw[B]at b;exact b.elim
 |some cell1 =>
  rw[B]at b;cases cell1 with
  |dct l=>exact b.elim
  |dcT l=>exact b.elim
  |ob l=>exact b.elim
  |lst Y =>
   obtain⟨R,O,_⟩:=r.hp.cel n _ a B I;simp only at b;refine⟨.inl ⟨rfl,R,SqL.of O⟩,A,σd,k,r,?_⟩;cases y:L σd k with
   |exc z h7=>rw[y]at b;exact b.elim
   |bad=>rw[y]at b;exact b.elim
   |ok ds s =>
    rw[y]at b;dsimp[aH]at b;intro q G M t D i N T K w;cases c:s[n]? with
    |none=>rw[c]at b;exact b.elim
    |some cell =>
     rw[c]at b;cases cell with
     |dct l=>exact b.elim
     |dcT l=>exact b.elim
     |ob l=>exact b.elim
     |lst l =>
      simp only at b;split at b
      ·rename_i U
       have m:=D.get I;obtain⟨p,C,g⟩:=i.hp.cel n _ a c m;refine⟨a,q,p,G,rfl,rfl,C,T,?_,?_⟩
       ·rw[<-g.length,<-w.length];exact ZM U .mY
       ·have K:n<s.length:=(.i3).1
        have V:=i.hp.write m K (RDs.append g w);have J:Ext t M t (upd M a<|.lst<|p++G):=Ext.write (ZK m);exact(b.ext D).at J (i.ext J V) .aU
      ·exact b.elim
end
end Fm
namespace Fm
open PySem PySem.Spec L2 PySem.W PyProof.Rows
section
variable{X:Cx}{pos:Pos}{scope:Scope}{own capn:.af}{caps:.i}
def aB{i:Nat}{x:Str}{f:EF}{a:Pos}(he:.eo)(c:X.N.Nodup:=by exact Y3 (by kernel_rfl))(hi:autoParam (X.N[i]?=some x) Q3Q._auto_1)(hx:Loc X.env.scope x:=by exact lc)(d:autoParam (.tE X.env=pure false) Q3Q._auto_1)(b:autoParam (X.fn x=true\/X.env.scope.names.lookup x=some .local) Q0Q._auto_1):
  MS X .tz (aG (gN i) f):=PF c hi hx he d b
def ax{i:Nat}{x:Str}(b:X.N.Nodup:=by exact Y3 (by kernel_rfl))(hi:autoParam (X.N[i]?=some x) Q3Q._auto_1)(hx:Loc X.env.scope x:=by exact lc)(a:autoParam (X.fn x=true\/X.env.scope.names.lookup x=some .local) Q0Q._auto_1):MG X .fa (gN i):=Mw b hi hx a
def im(own:.af)(hi:MI X tg a f)
  (h:∀{d C s H ex},MG .p8 tg g/\MTs .p8 c cs/\ME .p8 b e)
  (j:autoParam (X.calm=true) Q3Q._auto_1) (S:bL X scope own [] []:=by exact bL.a bF.nil) (i:autoParam (∀x,foldedSetIterable a X.env x=pure x) Q2Q._auto_1):MF X (.hR b [⟨tg,a,c,0⟩]) (bi own.length [] f g cs e):=fK j S hi (λ_ _ _ _ _=>h) i
end
section
variable{P:P2}{w:N3}{K:ZX}{mg:.aI}{base:Heap}
structure OkD(P:P2)(w:N3)(K:ZX)(mg:.aI)(base:Heap)(x:Str)(st:Stmt)(k:Nat)(ps:.af)(F:Fn)(np:Nat):Prop where
 ok:∀{f fd},Fun K x x st f fd->kP P w K mg base CX0 k f fd ps .fL
def okd{st:Stmt}{ps:.af}{k d n:Nat}{b:SF}(N:.af)
  (c:∀{f:Addr} {a:S1} {A:P1} {outer:.dm} {s:Q5} {H:Hp} {E:XK},jz k .pI->(.pI).units+24<cLine->MSs (.vF).nox .ha b) (hp:autoParam (ps.length=d) Q3Q._auto_1) (hn:autoParam (N.length=n) Q3Q._auto_1) (S:fZ N ps .dG:=by exact fsc):.o x st (k+1) ps (bC d n b) d:=by
 subst hp hn;exact⟨λF=>Ou F S λa A outer s H E e=>c e (RZ e)⟩
end
section
variable{prog:P2}{w:N3}{A:P1}{E:.q}{s:Q5}
def JM(D:T="list"\/T="tuple")(z:s.heap.get? it=some o)(t:o.cls=.type T)(hd:o.data=.seq vs.toArray n)(hi:IntsAre vs ns)(i:vs.length<64)
  (h:∀(h1 h':Heap) (e:Nat) (f:List S1) (c:.b),(∀b u,s.heap.get? b=some u->h1.get? b=some u)->(∀b u,h1.get? b=some u->h'.get? b=some u)->h'.get? h1.objs.size=some (seqObj "list" f.toArray e)->IntsAre f c->c.Perm ns->c.Pairwise (·<=·)->Q (.ref h1.objs.size) .ci) :
  wpAny .aj A (call .ih [.ref it]) Q E s:=by
 refine VU kind_sorted plain_sorted entry_sorted .nd ?_;unfold Builtin.«sorted»;refine z0 .aZ;refine z0 (wpAny_collect_seq it D z t hd (λh1 y=>?_) .rI);have B:vs.toArray.toList=vs:=by simp
 rw[B];refine z0 .o3;have d:(h1.push .fq).get? h1.objs.size=some .fq:=ZJ _ rfl;have keep:∀b u,h1.get? b=some u->(h1.push .fq).get? b=some u:=λb u q=>.R q;generalize hG:h1.push .fq=G at d keep;have C:G.objs.size=h1.objs.size+1:=by rw[<-hG,WU]
 refine z0 (WE (WJ wd ⟨_,d,rfl⟩ U5 (list_sort_tree d hi i λout c x r v=>⟨_,rfl,?_⟩) .mZ));refine wX ⟨_,rfl,?_⟩;have a:h1.objs.size<G.objs.size:=by lia
 obtain⟨j,k⟩:∃j,(.yi).get? h1.objs.size=some .im:=⟨_,XU d .hj⟩;have l:(((.yi).push .jN).push .c7).get? h1.objs.size=some .im:=by
  rw[.aK (by rw[WU,YM];exact ZN (Z2 a)),.aK (by rw[YM];exact ZN a)];exact k
 have fin:=XU l (λ_=>out);refine h h1 (sortedHeap G h1.objs.size vs out) _ out.toList c y (λb u q=>?_) (by unfold sortedHeap;simpa using fin) x r v;have g:b<h1.objs.size:=ZI q;have m:b≠h1.objs.size:=ZN g;have p:b<G.objs.size:=YC g a;unfold sortedHeap;rw[.bX m,.aK (by rw[WU,YM];exact ZN (Z2 p)),.aK (by rw[YM];exact ZN p),.bX m];exact keep b u q
end
theorem BJ:∀{a:List S1} {ns:.b},IntsAre a ns->aY .b4 a
 |_,_,.nil=>.nil
 |_,_,.cons n t r=>.cons ⟨t,rfl⟩ (BJ r)
section
variable{X:Cx}{pos p:Pos}
/---/def Qo(K:ZX):List V->Hp->VK->Prop:=λxs H Q=>∃(a:Addr) (ns:.b),xs=.di/\(SqL K H a .b4\/H a=some (.tup .b4))/\ns.length<64/\∀q,H q=none->Q .i6 (.az q<|.lst<|(jE ns).map V.int)
def DQ:jb X .ih (Qo X.K):=by
 intro pins s σ H P O Q I r h;obtain⟨a,c,rfl,k,D,q⟩:=h;obtain⟨u,rfl,z⟩:=aY.one r;cases (show u=Value.ref a from z);have i:∀{T:String} {o:Obj} {j:List S1} {n:Nat},T="list"\/T="tuple"->s.heap.get? a=some o->o.cls=.type T->o.data=.seq j.toArray n->aY (c.map V.int) j->.aS (call (.cZ "sorted") .di) .cL X.xe s:=λ{T o j n} K g d f rv=>by
  have R:j.length=c.length:=by have:=rv.length;simpa using this.symm
  refine JM K g d f (L2.iG rv) .a λt L e m J F y A E x C=>?_;have B:=GG x C;subst B;have v:Inv X pins σ H { s with heap:=t }:=I.kept F;have N:(jE c).length=c.length:=(lS c).length_eq;exact⟨.ref t.objs.size,_,v.laid (o:=.lst ((jE c).map V.int)) y .r ⟨by rw[ZA,YQ];lia,m,e,BJ E,A⟩,rfl,q _ (v.hok.fresh .r)⟩
 rcases k with k|w
 ·obtain⟨l,b,G,M⟩:=I.list k
  obtain⟨o,g,d,n,f⟩:=G.isList;exact i .ca g d f b
 ·obtain⟨l,b,o,g,d,n,f⟩:=ku I.hok w
  exact i .gm g d f b
theorem R9{K:ZX}:∀l:List Int,.ay .cN (l.map V.int)
 |[]=>RDs.nil
 |x::l=>.jE (R9 l)
def BK(s:.oM)(hm:.oC)(ha:MQ X a g)(h:autoParam (.bq X.env=(false,.bL X.env)::starEach [] X.env) Q3Q._auto_1):MF X (.es .lB) (kx g):=by
 refine PE.imp (jA DQ s hm .bd (.fm h) (he:=h)) λσ H Q ⟨ρ,σd,i,k,b⟩=>⟨ρ,σd,i,k,?_⟩;unfold kx at b;cases e:g σd i with
 |exc x z=>rw[e]at b;exact b
 |bad=>rw[e]at b;exact b
 |ok l w =>
  rw[e]at b;dsimp[aH]at b;intro v A t y d ⟨q,B,m,r,rvs⟩;subst m;cases c:cC l with
  |none=>rw[c]at b;exact b.elim
  |some j =>
   rw[c]at b;simp only at b;split at b
   ·rename_i u
    have f:=ik rvs c;subst f;exact⟨q,j,rfl,r,u,λo n=>b.mk y d (R9 _) o n⟩
   ·exact b.elim
end
section
variable{X:Cx}{pos p:Pos}
def JN(bs:List Bool):(.mA).any .mx=bs.any id:=by
 have:bs=(.mA).map λi=>.ev false:=by
  apply YO;intro i
  by_cases a:i<bs.length<;>simp[List.getD,a]
 conv=>rhs;rw[this]
 rw[List.any_map];rfl
def GQ(y:.aJ):jb X (.cZ "any") (λxs H Q=>∃(p:Addr) (bs:List Bool),xs=.hr/\.wO/\Q (.bl<|bs.any id) H):=by
 intro pins s σ H xs D Q I r q;obtain⟨p,bs,rfl,g,q⟩:=q;obtain⟨u,rfl,z⟩:=aY.one r;cases (show u=Value.ref p from z);have m:(X.A.in1).handled=none:=I.ok.hd y;have w:∀(a:List S1),aY .ku a->TruthOf X.prog X.w X.A.in1 .xA .mx:=λa rv i v s Q E x C=>by
  rw[BB rv i v x];exact WZ C
 have fin:∀{t:Obj} {h:Heap} {k:Nat} {n:Nat},n=bs.length->(∀b o,b∉[s.heap.objs.size]->(s.heap.push t).get? b=some o->h.get? b=some o)->.fl (.bool<|(.k).any λi=>.ev false) .yk:=by
  intro t h k n A j;subst A;refine⟨.bl (bs.any id),H,I.kept λb o e=>j b o .qK .f6,by rw[JN];rfl,q⟩
 rcases g with g|g
 ·obtain⟨a,rv,l,B⟩:=I.list g
  have c:.pb a.toArray:=l.isList;have d:p<s.heap.objs.size:=by obtain⟨o,f,_⟩:=c;exact ZI f
  refine PySem.call_any_walk (.tC c);refine⟨s.heap.objs.size,_,.ir,_,_,_,λi=>.ev false,rfl,PySem.Walks.list m s.heap.objs.size p (ZN d) a.toArray,⟨⟨_,ZJ _ rfl,rfl,rfl⟩,?_⟩,w a rv,?_⟩
  ·obtain⟨o,f,r⟩:=c;exact⟨o,.R f,r⟩
  ·exact λh k j=>fin .h7 j
 ·obtain⟨a,rv,l,B⟩:=I.tuple g
  have c:.o8 a.toArray:=l;have d:p<s.heap.objs.size:=by obtain⟨o,f,_⟩:=c;exact ZI f
  refine PySem.call_any_walk (U3 c ?_);refine⟨s.heap.objs.size,_,.ir,_,_,_,λi=>.ev false,rfl,PySem.Walks.tuple m s.heap.objs.size p (ZN d) a.toArray,⟨⟨_,ZJ _ rfl,rfl,rfl⟩,?_⟩,w a rv,?_⟩
  ·obtain⟨o,f,r⟩:=c;exact⟨o,.R f,r⟩
  ·exact λh k j=>fin .h7 j
def Qp(i:.aJ)(k:Gl X "any")(hm:X.mg "any"=none)(ha:MQ X a d)(f:autoParam (.bq X.env=(false,.bL X.env)::starEach [] X.env) Q3Q._auto_1):.l (.es<|.bT "any") (MD d):=by
 refine vx (Fd (GQ i) k hm .bd (he:=f)) ha (λρ H σd m σ l q n Q g j b p=>?_) f;cases c:i9 l with
 |none=>dsimp[c]at p;exact p.elim
 |some h =>
  dsimp[c]at p;have e:=rX b c;subst e;exact⟨q,h,rfl,j.imp id SqT.of,p.here g .aU⟩
end
section
variable{prog:P2}{w:N3}{A:P1}{E:.q}{s:Q5}{κ:Type}[DecidableEq κ]{knd:KeyKind prog w κ}
end
section
variable{prog:P2}{w:N3}{A:P1}{E:.q}{s:Q5}
end
section
variable{X:Cx}{pos p:Pos}
end
end Fm
namespace Fm
open PySem PySem.Spec L2
open PyProof.Rows (Call_)
section
variable{X:Cx}{pos p p2 pos2:Pos}
def JO(hc:.aJ)(hg:Gl X "list")(hm:X.mg "list"=none)(S:.lA)(O:.lq)(ha:.l a f)
  (W:autoParam (starEach .wz X.env=(false,eval (.Call (.Name "range" p2) [a] [] pos2) X.env)::starEach [] X.env) Q3Q._auto_1)
  (B:autoParam (.bq X.env=(false,.bL X.env)::starEach [] X.env) Q3Q._auto_1) :
  MF X (.hM (.bT "list") .wz) (Mt f):=by
 intro pins s σ H Q I ⟨ρ,σd,Y,rs,g⟩;unfold Mt at g;cases e:f σd Y with
 |exc x h'=>rw[e]at g;exact g.elim
 |bad=>rw[e]at g;exact g.elim
 |ok d P =>
  rw[e]at g;dsimp[aH]at g;cases d<;>try exact g.elim
  rename_i n
  simp only at g;split at g
  ·rename_i hn
   refine Call_ (i4 I hg hm PyProof.Rows.boot_list (XF ?_ W rfl));rw[W];show wpAny _ _ (spliced ((false,eval (.Call (.Name "range" p2) [a] [] pos2) X.env) :: backTo pos (starEach [] X.env))) _ _ s;refine Calls.spliced_cons ?_;have E:=.fm B;refine Call_ (i4 I S O PyProof.Rows.boot_range (XF (thn (E pos2 pins s σ H (λZ A=>Z=[.int n]/\∃c,Ext ρ H c A/\RS X.K c A σd P σ) I ⟨ρ,σd,Y,rs,by
    rw[e];exact λv A c ex F C=>by
     dsimp[rD,RD]at C;subst C;exact⟨rfl,c,ex,F⟩⟩) λus h zz=>?_) B rfl));obtain⟨Z,A,I1,r1,q1,c,R,L⟩:=zz
   subst q1;cases r1 with
   |cons r rr =>
    cases rr;obtain⟨t,rfl⟩:=r;refine call_range_1 ?_;refine Calls.spliced_nil ?_;obtain⟨z,y⟩:=q0 (h.heap.push { cls:=.type "range",data:=.fields #[.int 0 h.toks,.int n t,.int 1 (h.toks+1)] });have G:.bH A .wR:=I1.kept λb o q=>by rw[y];exact .R q
    have hr:IsRange z h.heap.objs.size 0 n 1 h.toks t (h.toks+1):=by rw[y];exact IsRange.new ..
    rw[<-y];refine call_list_range (s:=.wR) (G.ok.hd hc) hr (small_one .a .a .a .a) (n:=n.toNat) (by rw[rangeSize_one];split<;>lia) .a λh' tk w c' hk hS i=>?_;have fr:=G.hok.fresh .r;have J:aY ((.gR).map λk:Nat=>V.int (k:Nat)) w.toList:=by
     have N:∀(l:List S1) (m:Nat),(∀(j:Nat) v,l[j]?=some v->∃t,v=.int ((m+j:Nat):Int) t)->aY ((List.range' m l.length).map λk:Nat=>V.int (k:Nat)) l:=λl=>by
      induction l with
      |nil=>intro m _;exact .nil
      |cons x l T =>
       intro m U;obtain⟨t',u⟩:=U 0 x rfl;rw[YT,List.range'_succ,yP];refine .cons ⟨t',by rw[u];simp⟩ (T (m+1) λj v M=>?_);obtain⟨t2,K⟩:=U (j+1) v .rG;exact⟨t2,by rw[K];congr 1;lia⟩
     have:=N w.toList 0 λj v M=>by
      obtain⟨t',u⟩:=i.2 j v .rG;exact⟨t',by rw[u];congr 1;lia⟩
     rw[List.range_eq_range',<-i.1];simpa using this
    have lz:((.gR).map λk:Nat=>V.int (k:Nat)).length<=sizeLine:=by
     rw[YQ];simp;lia
    have C:RDs X.K c A ((.gR).map λk:Nat=>D.int k) ((.gR).map λk:Nat=>V.int (k:Nat)):=by
     generalize List.range n.toNat=l
     induction l with
     |nil=>exact RDs.nil
     |cons x l T=>exact .jE T
    exact⟨.ref z.objs.size,_,G.laid (t':=tk) (o:=.lst ((.gR).map λk:Nat=>V.int (k:Nat))) hk .r ⟨lz,w.toList,c',J,hS⟩,rfl,g.mk R L C _ fr⟩
  ·exact g.elim
end
section
variable{prog:P2}{w:N3}{A:P1}{E:.q}{s:Q5}
def pI(t:It2 L s.heap it l i)(u:Sq2 L s.heap l a)(hx:.ly)
  (q:∀h',It2 L h' it l (i+1)->Heap.SameBut it s.heap h'->Q x .ci):.bI .mf Q E s:=by
 cases L
 ·exact j0 t u hx q
 ·exact wpAny_nextOf_list_item t u hx q
def ye(c:.hG)(t:It2 L s.heap it l i)(u:Sq2 L s.heap l a)(hx:a[i]?=none)
  (b:.Ax):.bI .mf Q E s:=by
 cases L
 ·exact kT c t u hx b
 ·exact wpAny_nextOf_list_end c t u hx b
end
section
variable{La Lb:Bool}{prog:P2}{w:N3}{A:P1}{E:.q}{s:Q5}{z TI TO i1 i2 l1 l2:Addr}{k:Nat}{xs ys:.bw}{a b:S1}
def GR{Q:.q}(Z:.om)(C:.on)(W:.oe)(gO:.ow)
  (V:.ou) (t2:.ot) (u1:.oA) (u2:.oz) (ex:xs[k]?=some x) (ey:ys[k]?=some y)
  (q:∀h',IsZip h' z TI TO .yD->IsPair h' TO x y->It2 La h' i1 l1 (k + 1)->It2 Lb h' i2 l2 (k + 1)->IsPair h' s.heap.objs.size x y->h'.objs.size=s.heap.objs.size + 1->
   (∀c o,c≠z->c≠TO->c≠i1->c≠i2->s.heap.get? c=some o->h'.get? c=some o)->Q .gN .ci) :
  wpAny .aj A .v2 (λfin s'=>∃v,fin=.done (.ret v)/\Q v s') E s:=by
 show wpAny _ _ .yL _ _ _;refine z0 (WK C rfl (x:=.bool false) rfl ?_);show wpAny _ _ .yK _ _ _;refine z0 (WK C rfl (x:=.ref TI) rfl (z0 (VP W rfl ?_)));show wpAny _ _ .u4 _ _ _;unfold Builtin.SmallTypes.ownedTupleIsFree;refine z0 (z0<|WK C rfl (x:=.none) rfl .aZ);dsimp[WB];refine z0 (wpAny_rule (z0 (WK C rfl (x:=.ref TO) rfl (z0 (VS C .e λg1 i l=>z0 ?_)))));replace i:IsZip g1 z TI TO .ellipsis:=i;dsimp[List.zipIdx_cons,List.zipIdx_nil,List.forIn_cons,List.forIn_nil];refine z0 .oS;show wpAny _ _ .vP _ _ _;refine z0 (pI (V.extBut l.extBut Z.i1z) (lT u1 l.extBut Z.l1z) ex λY L p=>wX ?_);have D:IsPair Y TO a b:=p.extBut _ _ Z.TOi1 (l.extBut _ _ Z.TOz gO);refine z0 (VP D rfl<|z0<|wpAny_updateSeq_pair D λg3 j n=>z0 (wpAny_letGo .aZ));replace j:IsPair g3 TO x b:=j;refine z0 .oS;show wpAny _ _ .vO _ _ _;refine z0 (pI (((t2.extBut l.extBut Z.i2z).extBut p.extBut Z.i12.symm).extBut n.extBut Z.TOi2.symm) (lT (lT (lT u2 l.extBut Z.l2z) p.extBut Z.l2i1) n.extBut Z.l2TO) ey λg4 J r=>wX ?_);have B:IsPair g4 TO x b:=r.extBut _ _ Z.TOi2 j;refine z0 (VP B rfl<|z0<|wpAny_updateSeq_pair B λd g F=>z0 (wpAny_letGo<|wX .aZ));replace g:IsPair d TO x y:=g;refine z0 (VP g rfl (z0 (wpAny_newTuple ?_)));have S:d.objs.size=s.heap.objs.size:=by rw[F.1,r.1,n.1,p.1,l.1]
 have u:IsZip d z TI TO .ellipsis:=F.extBut _ _ Z.TOz.symm (r.extBut _ _ Z.i2z.symm<|n.extBut _ _ Z.TOz.symm<|p.extBut _ _ Z.i1z.symm i);have X:∀c o,c≠z->c≠TO->c≠i1->c≠i2->s.heap.get? c=some o->d.get? c=some o:=λc o h G I O e=>F.extBut _ _ G (r.extBut _ _ O<|n.extBut _ _ G<|p.extBut _ _ I<|l.extBut _ _ h e);have R:It2 La d i1 l1 (k+1):=((L.extBut n.extBut Z.TOi1.symm).extBut r.extBut Z.i12).extBut F.extBut Z.TOi1.symm;have K:It2 Lb d i2 l2 (k+1):=J.extBut F.extBut Z.TOi2.symm;have U:z<d.objs.size:=ZI u;show wpAny _ _ (Builtin.SmallTypes.ownedTupleHandOut .iW (.ref d.objs.size) >>= λ_=>_) _ _ _;unfold Builtin.SmallTypes.ownedTupleHandOut;have N:IsZip (d.push { cls:=.type "tuple",data:=.seq #[x,y] }) z TI TO .ellipsis:=.R u;refine z0 (z0 (VS N .e λg7 m M=>?_));replace m:IsZip g7 z TI TO (rawInt d.objs.size):=m;refine VS m .e λt f P=>?_;replace f:IsZip t z TI TO (rawInt d.objs.size):=f;have H:∀c o,c≠z->d.get? c=some o->t.get? c=some o:=λc o h e=>P.extBut _ _ h (M.extBut _ _ h .f6);have gT:IsPair t d.objs.size x y:=P.extBut _ _ (YN U) (M.extBut _ _ (YN U) .i0);have T:t.objs.size=d.objs.size+1:=by rw[P.1,M.1,X1]
 rw[S]at f gT T;refine wX ⟨_,rfl,?_⟩;show Q (.ref d.objs.size) _;rw[S];exact q t f (H _ _ Z.TOz g) (R.at λo e=>H _ o Z.i1z e) (K.at λo e=>H _ o Z.i2z e) gT T λc o h G I O e=>H c o h (X c o h G I O e)
def JP(H:.hG)(Z:.om)(m:.on)(K:.oe)(U:.ow)
  (D:.ou) (W:.ot) (G:.oA) (V:.oz) (nd:xs[k]?=none\/ys[k]?=none)
  (q:∀h' e,(∀c o,c≠z->c≠TO->c≠i1->c≠i2->s.heap.get? c=some o->h'.get? c=some o)->(∃o,h'.get? e=some o/\o.cls=.type "StopIteration")->E (.ref e) .ci) :
  wpAny .aj A .v2 Q E s:=by
 show wpAny _ _ .yL _ _ _;refine z0 (WK m rfl (x:=.bool false) rfl ?_);show wpAny _ _ .yK _ _ _;refine z0 (WK m rfl (x:=.ref TI) rfl (z0 (VP K rfl ?_)));show wpAny _ _ .u4 _ _ _;unfold Builtin.SmallTypes.ownedTupleIsFree;refine z0 (z0<|WK m rfl (x:=.none) rfl .aZ);dsimp[WB];refine z0 (wpAny_rule (z0 (WK m rfl (x:=.ref TO) rfl (z0 (VS m .e λO d f=>z0 ?_)))));replace d:IsZip O z TI TO .ellipsis:=d;dsimp[List.zipIdx_cons,List.zipIdx_nil,List.forIn_cons,List.forIn_nil];refine z0 .oS;show wpAny _ _ .vP _ _ _;cases B:xs[k]? with
 |none =>
  refine z0 (ye H .yT .z9 B λu e g C=>?_);obtain⟨y,i,l⟩:=C;have p:IsZip u z TI TO .ellipsis:=g _ _ Z.i1z.symm d;have ne:e≠z:=λv=>by subst v;rw[p]at i;cases i;simp at l
  exact VS p .e λI _ h=>q I e (λc o j _ t _ v=>h.extBut _ _ j (g _ _ t<|f.extBut _ _ j v)) ⟨y,h.extBut _ _ ne i,l⟩
 |some x =>
  have S:ys[k]?=none:=nd.resolve_left (by rw[B];exact Option.some_ne_none _);refine z0 (pI .yT .z9 B λu N g=>wX ?_);have n:IsPair u TO a b:=g.extBut _ _ Z.TOi1 (f.extBut _ _ Z.TOz U);refine z0 (VP n rfl<|z0<|wpAny_updateSeq_pair n λI M h=>z0 (wpAny_letGo .aZ));refine z0 .oS;show wpAny _ _ .vO _ _ _;refine z0 (ye H (((W.extBut f.extBut Z.i2z).extBut g.extBut Z.i12.symm).extBut h.extBut Z.TOi2.symm) (lT (lT (lT V f.extBut Z.l2z) g.extBut Z.l2i1) h.extBut Z.l2TO) S λL e F C=>?_);obtain⟨y,i,l⟩:=C;have r:IsZip L z TI TO .ellipsis:=F _ _ Z.i2z.symm (h.extBut _ _ Z.TOz.symm<|g.extBut _ _ Z.i1z.symm d);have ne:e≠z:=λv=>by subst v;rw[r]at i;cases i;simp at l
  exact VS r .e λP _ J=>q P e (λc o j T t R v=>J.extBut _ _ j (F _ _ R<|h.extBut _ _ T<|g.extBut _ _ t<|f.extBut _ _ j v)) ⟨y,J.extBut _ _ ne i,l⟩
def zI(Z:.om)(d:.on)(h:.oe)(n:.ow)
  (g:.ou) (u:.ot) (j:.oA) (t:.oz) (ex:xs[k]?=some x) (l:ys[k]?=some y)
  (q:∀h',IsZip h' z TI TO .yD->IsPair h' TO x y->It2 La h' i1 l1 (k + 1)->It2 Lb h' i2 l2 (k + 1)->IsPair h' s.heap.objs.size x y->h'.objs.size=s.heap.objs.size + 1->
   (∀c o,c≠z->c≠TO->c≠i1->c≠i2->s.heap.get? c=some o->h'.get? c=some o)->Q (some .gN) .ci) :
  wpAny .aj A (pyNext .iW) Q E s:=by
 have e:s.TypeIs .iW "zip" := ⟨_,d,rfl⟩;unfold pyNext;refine z0 (vb (WW (name:=Str.ofString "__next__") e F.slot_zip_next (WJ F.slot_zip_next e F.entry_zip_next ?_ .Ar)));exact GR Z d h n g u j t ex l λh' B m v r i f p=>wX (q h' B m v r i f p)
def BM(u:.hG)(Z:.om)(d:.on)(i:.oe)(l:.ow)
  (g:.ou) (t:.ot) (j:.oA) (r:.oz) (nd:xs[k]?=none\/ys[k]?=none)
  (q:∀h',(∀c o,c≠z->c≠TO->c≠i1->c≠i2->s.heap.get? c=some o->h'.get? c=some o)->Q none .ci):.bI (pyNext .iW) Q E s:=by
 have f:s.TypeIs (.ref z) "zip" := ⟨_,d,rfl⟩;unfold pyNext;refine z0 (vb (WW (name:=Str.ofString "__next__") f F.slot_zip_next (WJ F.slot_zip_next f F.entry_zip_next ?_ .Ar)));refine JP u Z d i l g t j r nd λh' e n m=>?_;obtain⟨o,p,h⟩:=m;exact z0 (wpAny_isInstance (T := "StopIteration") (b:=true) ⟨o,p,h⟩ isSubtype_stop<|wX<|q _ n)
end
/---/def zm1(La:Bool)(h:Heap)(l1:Addr):Heap:=h.push { cls:=.type (itN La),data:=.fields #[.ref l1,.int 0 0] }
/---/def zm2(La Lb:Bool)(h:Heap)(l1 l2:Addr):Heap:=(zm1 La h l1).push { cls:=.type (itN Lb),data:=.fields #[.ref l2,.int 0 0] }
/---/def zm3(La Lb:Bool)(h:Heap)(l1 l2:Addr):Heap:=(zm2 La Lb h l1 l2).push { cls:=.type "tuple",data:=.seq #[.ref h.objs.size,.ref (zm1 La h l1).objs.size] }
/---/def zm4(La Lb:Bool)(h:Heap)(l1 l2:Addr):Heap:=(zm3 La Lb h l1 l2).push { cls:=.type "tuple",data:=.seq #[.none,.none] }
/---/def zm5(La Lb:Bool)(h:Heap)(l1 l2:Addr):Heap:=(zm4 La Lb h l1 l2).push { cls:=.type "zip",data:=.fields #[.none,.bool false,.bool false,.ref (zm2 La Lb h l1 l2).objs.size,.ref (zm3 La Lb h l1 l2).objs.size] }
def zJ{L:Bool}{h:Heap}{l:Addr}{xs:.bw}{o:Obj}(u:.oO):Sq2 L (h.push o) l xs:=by
 cases L<;>(obtain⟨o,a,r⟩:=u;exact⟨o,.R a,r⟩)
def sqT{h:Heap}{l:Addr}{xs:.bw}(u:Sq2 false h l xs):Heap.IsTuple h l xs:=u
def sqL{h:Heap}{l:Addr}{xs:.bw}(u:Sq2 true h l xs):Heap.IsList h l xs:=u
set_option maxHeartbeats 4000000 in
def DR(La Lb:Bool)(e b:Addr)(xs ys:.bw):
  Meets (Builtin.«zip.__new__» ⟨[.type "zip",.ref e,.ref b],[]⟩) (λ_ R s=>Sq2 La s.heap e xs/\Sq2 Lb s.heap b ys/\R (.ok<|.ret<|.ref (zm4 La Lb s.heap e b).objs.size) { s with heap:=zm5 La Lb s.heap e b }) :=
 .of_wp λprog w A R s h=>by
  obtain⟨j,g,d,i,k⟩:=s;obtain⟨c,a,h⟩:=h;have f:=sub_zip;cases La<;>cases Lb
  ·wp_walk using WT (sqT c),WT (sqT<|zJ a)
   exact⟨_,rfl,h⟩
  ·wp_walk using WT (sqT c),UK (sqL<|zJ a)
   exact⟨_,rfl,h⟩
  ·wp_walk using UK (sqL c),WT (sqT<|zJ a)
   exact⟨_,rfl,h⟩
  ·wp_walk using UK (sqL c),UK (sqL<|zJ a)
   exact⟨_,rfl,h⟩
section
variable{La Lb:Bool}{prog:P2}{w:N3}{A:P1}{E:.q}{s:Q5}
def GS(r:Sq2 La s.heap a xs)(u:Sq2 Lb s.heap b ys)
  (q:∀h',IsZip h' (s.heap.objs.size + 4) .zC (s.heap.objs.size + 3) .none->IsPair h' .zC .gN (.ref .zD)->
   IsPair h' .rc .none .none->It2 La h' s.heap.objs.size a 0->It2 Lb h' .b1 b 0->h'.objs.size=s.heap.objs.size+5->
   (∀c o,s.heap.get? c=some o->h'.get? c=some o)->Q (.ref<|s.heap.objs.size+4) .ci) :
  wpAny .aj A (call (.type "zip") [.ref a,.ref b]) Q E s:=by
 refine callType_new F.called_zip .c (F.typeCall_zip_2 _ _) (F.newCall_zip_2 _ _) (λobj=>F.args_object_init_3 obj _ _) F.entry_zip_new (DR La Lb a b xs ys) ⟨r,u,?_⟩;have d:(zm1 La s.heap a).objs.size=s.heap.objs.size+1:=X1 ..;have g:(.zz).objs.size=s.heap.objs.size+2:=(X1 ..).trans (by rw[d]);have h:(.zy).objs.size=s.heap.objs.size+3:=(X1 ..).trans (by rw[g]);have f:(zm4 La Lb s.heap a b).objs.size=s.heap.objs.size+4:=(X1 ..).trans (by rw[h]);have p:(.eA).objs.size=s.heap.objs.size+5:=(X1 ..).trans (by rw[f]);have i:∀{c o},(zm1 La s.heap a).get? c=some o->(.eA).get? c=some o:=λe=>.R (.R<|.R .f6);have v:∀{c o},(.zz).get? c=some o->(.eA).get? c=some o:=λe=>.R (.R .f6);have k:∀{c o},(.zy).get? c=some o->(.eA).get? c=some o:=λe=>.R .f6;have m:(.eA).get? s.heap.objs.size=some { cls:=.type (itN La),data:=.fields #[.ref a,.int 0 0] }:=i .i0;have l:(.eA).get? .b1=some { cls:=.type (itN Lb),data:=.fields #[.ref b,.int 0 0] }:=by rw[<-d];exact v .i0
 have n:(.eA).get? (s.heap.objs.size+2)=some { cls:=.type "tuple",data:=.seq #[.ref s.heap.objs.size,.ref .b1] }:=by rw[<-g,<-d];exact k .i0
 have t:(.eA).get? .rc=some { cls:=.type "tuple",data:=.seq #[.none,.none] }:=by rw[<-h];exact .R .i0
 have j:(.eA).get? (s.heap.objs.size+4)=some { cls:=.type "zip",data:=.fields #[.none,.bool false,.bool false,.ref (s.heap.objs.size+2),.ref .rc] }:=by rw[<-f,<-g,<-h];exact ZJ _ rfl
 show _/\_;rw[f];exact⟨⟨_,j,rfl⟩,q _ j n t (It2.mk m) (It2.mk l) p λc o e=>i .f6⟩
end
/---/def Itm(La Lb:Bool)(K:ZX)(a b:Addr):It :=
 ⟨λi H=>∃xs ys x y,SqM La K H a xs/\SqM Lb K H b ys/\xs[i]?=some x/\ys[i]?=some y,λi H x H'=>∃q v u,x=.ref q/\H q=none/\H'=upd H q (.tup [v,u])/\(∀xs,SqM La K H a xs->xs[i]?=some v)/\∀ys,SqM Lb K H b ys->ys[i]?=some u,λi H=>∃xs ys,SqM La K H a xs/\SqM Lb K H b ys/\min xs.length ys.length=i⟩
theorem GT{K:ZX}(z TI TO l j a b:Addr)(Z:ZipApart z TI TO l j a b):
  Dt P w K (.Tuple elts k pos) (Itm La Lb K a b) [z,TI,TO,l,j] z (λi h=>IsZip h z TI TO .none/\IsPair h TI .i7 (.ref j)/\(∃x y,IsPair h TO x y)/\It2 La h l a i/\It2 Lb h j b i) where
 mem:=by simp
 obj:=λi h J c g=>by
  obtain⟨L,t,⟨x,y,N⟩,M,O⟩:=J;have f:c=z\/c=TI\/c=TO\/c=l\/c=j:=by simpa using g
  rcases f with rfl|rfl|rfl|rfl|rfl
  ·exact⟨_,L,λv e=>by
    have F:Data.fields _=Data.cell v:=e;cases F⟩
  ·exact⟨_,t,λv e=>by
    have F:Data.seq _ _=Data.cell v:=e;cases F⟩
  ·exact⟨_,N,λv e=>by
    have F:Data.seq _ _=Data.cell v:=e;cases F⟩
  ·exact M.obj
  ·exact O.obj
 keep:=λi h h' J A=>by
  obtain⟨L,t,⟨x,y,N⟩,M,O⟩:=J;exact⟨A z .e _ L,A TI .e _ t,⟨x,y,A TO .e _ N⟩,M.at (λo e=>A l .e o e),O.at (λo e=>A j .e o e)⟩
 item:=by
  intro X hP hw hK g i pins s σ H E I T J hg;subst hP hw hK;obtain⟨L,t,⟨x0,y0,N⟩,M,O⟩:=J;obtain⟨xs,ys,x,y,B,D,hx,hy⟩:=hg;obtain⟨C,R,p1,a4⟩:=nE I B;obtain⟨G,Q,p2,a3⟩:=nE I D;obtain⟨u,hu,ru⟩:=R.get hx;obtain⟨v,hv,rv⟩:=Q.get hy;have T1:Sq2 La s.heap a C.toArray:=p1;have T2:Sq2 Lb s.heap b G.toArray:=p2;have ld:=λc (h:c∈[z,TI,TO,l,j])=>T c h;refine zI Z L t N M O T1 T2 (by simpa using hu) (by simpa using hv) λh' az aO a1 a2 aN a6 A=>⟨_,rfl,wpAny_letOwnedTupleGo_zip az λh2 a5 V=>?_⟩;have zl:z<s.heap.objs.size:=ZI L;have Il:TI<s.heap.objs.size:=ZI t;have Ol:TO<s.heap.objs.size:=ZI N;have l1:l<s.heap.objs.size:=by obtain⟨_,e,_⟩:=M.obj;exact ZI e
  have l2:j<s.heap.objs.size:=by obtain⟨_,e,_⟩:=O.obj;exact ZI e
  have U:H s.heap.objs.size=none:=I.hok.fresh .r;have keep:∀c o,c∉[z,TO,l,j]->s.heap.get? c=some o->h2.get? c=some o:=λc o g e=>by
   have f:c≠z/\c≠TO/\c≠l/\c≠j:=by simpa using g
   exact(V.2 c f.1).trans (A c o f.1 f.2.1 f.2.2.1 f.2.2.2 e)
  have nw:IsPair h2 s.heap.objs.size u v:=(V.2 _<|YN zl).trans aN;have p:∀c∈[z,TO,l,j],c∈[z,TI,TO,l,j]:=λc g=>by simp at g⊢;rcases g with e|e|e|e<;>simp[e]
  have a0:IsPair h2 TI .i7 (.ref j):=keep TI _ (by simp;exact⟨Z.TIz,Z.TITO,Z.TIi1,Z.TIi2⟩) t;refine⟨.ref s.heap.objs.size,.lI (.tup [x,y]),?_,rfl,⟨_,x,y,rfl,U,rfl,λzs S=>by rw[zq I S B];exact hx,λzs S=>by rw[zq I S D];exact hy⟩,
   ⟨a5,a0,⟨_,_,(V.2 _ Z.TOz).trans aO⟩,(a1.at λo e=>(V.2 _ Z.i1z).trans e),(a2.at λo e=>(V.2 _ Z.i2z).trans e)⟩,λc g=>?_⟩
  ·suffices I2:L2.Inv X pins σ (.lI<|.tup [x,y]) { s with heap:=h2,gens:=s.gens,drawn:=s.drawn,toks:=s.toks } from I2
   have W:∀c Y,H c=some Y->c∉[z,TO,l,j]:=λc Y e q=>by rw[(T c<|p c q).1]at e;cases e
   refine I.step (g':=s.gens) (d':=s.drawn) (t':=s.toks) (ch:=[z,TO,l,j]) (λc g=>?_) (λc o _ _ g q _=>keep c o g q) (λc o _ _ g q _=>⟨o.slots,keep c o g q⟩) (λc o _ q n=>?_) (λc o g q=>⟨o,keep c o g q⟩)
    (λc zs q=>?_) (λc o Y q=>?_) (λc ps q=>⟨#[],?_⟩) (λm hm=>?_) (λc Y q=>?_) I.bare
   ·have:=T c (p c g)
    exact⟨this.2.2.2.1,this.2.1,this.2.2.2.2.1,this.2.2.2.2.2⟩
   ·rw[aJ (ZN<|ZI q)];exact n
   ·rw[aJ (cj q U)];exact q
   ·rw[aJ (cj q U)];exact q
   ·rw[aJ (cj q U),q];simp
   ·obtain⟨o,es,ep,ho,r⟩:=hm
    exact⟨o,es,ep,keep _ o (λq=>(T _<|p _ q).2.1 rfl) ho,r⟩
   ·by_cases hb:c=s.heap.objs.size
    ·subst hb
     rw[bB]at q;cases q;exact⟨by show 2<=sizeLine;rw[YQ];decide,[u,v],.cons ru (.cons rv .nil),_,nw,rfl,_,rfl⟩
    ·rw[aJ hb]at q
     refine(I.hok c Y q).stay (λd v' hd' e=>?_) (λd e=>by rw[aJ (cj e U)];exact e) λd zs e=>by rw[aJ (cj e U)];exact e
     rcases hd' with F|F
     ·subst F;exact keep d v' (W d _ q) e
     ·exact keep d v' (W d _ F) e
  ·have f:c=z\/c=TI\/c=TO\/c=l\/c=j:=by simpa using g
   have:c≠s.heap.objs.size:=by rcases f with e|e|e|e|e<;>rw[e]<;>exact ZN .so
   rw[aJ this];exact(T c g).1
 done:=by
  intro X hP hw hK g i pins s σ H E I T J hg;subst hP hw hK;obtain⟨L,t,⟨x0,y0,N⟩,M,O⟩:=J;obtain⟨xs,ys,B,D,hi⟩:=hg;obtain⟨C,R,p1,a4⟩:=nE I B;obtain⟨G,Q,p2,a3⟩:=nE I D;have T1:Sq2 La s.heap a C.toArray:=p1;have T2:Sq2 Lb s.heap b G.toArray:=p2;have e1:=R.length;have e2:=Q.length;have nd:C.toArray[i]?=none\/G.toArray[i]?=none:=by
   rcases Nat.le_total xs.length ys.length with h|h
   ·exact .inl (Array.getElem?_eq_none .Q)
   ·exact .inr (Array.getElem?_eq_none .Q)
  have p:∀c∈[z,TO,l,j],c∈[z,TI,TO,l,j]:=λc g=>by simp at g⊢;rcases g with e|e|e|e<;>simp[e]
  refine BM (I.ok.hd g) Z L t N M O T1 T2 nd λh' A=>⟨rfl,M5 (t':=s.toks) (ch:=[z,TO,l,j]) I (λc o g e=>?_) λc g=>T c (p c g)⟩;have f:c≠z/\c≠TO/\c≠l/\c≠j:=by simpa using g
  exact A c o f.1 f.2.1 f.2.2.1 f.2.2.2 e
 self:=λ_ _ _ _ _ J h=>wpAny_pyIter_zip J.1 h
section
variable{X:Cx}{pos p tp:Pos}{elts:.a8}{tk:Nat}
/---/def iZm(K:ZX)(ta:TA):TI:=λσ H R=>ta σ H λvs H1=>∃La Lb a b xs ys,vs=[.ref a,.ref b]/\SqM La K H1 a xs/\SqM Lb K H1 b ys/\(xs.length<=sizeLine->ys.length<=sizeLine->R (Itm La Lb K a b) H1)
def M9(G:Gl X "zip")(hm:X.mg "zip"=none)(ha:PA X [a,b] B)(K:autoParam (.jD X.env=.l7) Q3Q._auto_1)(f:autoParam (.jF X.env=.mw) Q3Q._auto_1):PI X .jp (.jw<|.bT "zip") (iZm X.K B):=by
 intro pins s σ H R I h;refine Call_ (i4 I G hm PyProof.Rows.boot_zip (XF (thn .j4 λus d ⟨W,A,g,C,q1⟩=>?_) (by rw[K,f]) .eI));obtain⟨La,Lb,k,j,Y,ys,e,o,v,q⟩:=q1;subst e;cases C with
 |cons r l =>
  cases l with
  |cons P l =>
   cases l;cases r;cases P;obtain⟨t,O,M,u⟩:=nE g o;obtain⟨n,J,T,m⟩:=nE g v;have x:Sq2 La d.heap k t.toArray:=M;have z:Sq2 Lb d.heap j n.toArray:=T;have V:k<d.heap.objs.size:=x.lt;have lb:j<d.heap.objs.size:=z.lt;refine GS x z λw y F S D U N Q=>?_;refine wpAny_pyIter_zip (s:={ d with heap:=w }) y ?_;have L:Inv X pins σ A { d with heap:=w }:=g.kept (t':=d.toks) Q;have Z:ZipApart (d.heap.objs.size+4) (d.heap.objs.size+2) (d.heap.objs.size+3) d.heap.objs.size (d.heap.objs.size+1) k j:=by
    constructor<;>dsimp[Addr] at *<;>lia
   refine⟨d.heap.objs.size+4,[d.heap.objs.size+4,d.heap.objs.size+2,d.heap.objs.size+3,d.heap.objs.size,d.heap.objs.size+1],_,_,A,rfl,L,GT _ _ _ _ _ k j Z,⟨y,F,⟨_,_,S⟩,D,U⟩,λc E=>?_,q u m⟩;have i:d.heap.objs.size<=c:=by
    have:c=d.heap.objs.size+4\/c=d.heap.objs.size+2\/c=d.heap.objs.size+3\/c=d.heap.objs.size\/c=d.heap.objs.size+1:=by simpa using E
    rcases this with e|e|e|e|e<;>rw[e]<;>first|exact YF _ _|exact ZL _
   exact g.fpOk i (g.hok.fresh i)
theorem GU{K:ZX}(C:∀ρ' a hd',Ext ρ H ρ' a->RH K ρ' a hd'->held g l hd'->∃vs,SqM La K a q vs/\RDs K ρ' a l vs)(B:∀ρ' a hd',Ext ρ H ρ' a->RH K ρ' a hd'->held g' f hd'->∃vs,SqM Lb K a F vs/\RDs K ρ' a f vs)(hz:l.length<=sizeLine):
  qi K ρ H (Itm La Lb K q F) ((l.zip f).map λp=>.tup .eZ) (λh=>held g l h/\held g' f h) where
 go:=λρ' a hd' i d n r j I=>by
  obtain⟨m,hi2⟩:=zS.mp I;have M:i<l.length:=by simp at m;lia
  have t:i<f.length:=by simp at m;lia
  have J:d=.tup [l[i],f[i]]:=by rw[<-hi2];simp
  subst J;obtain⟨vs,s,rv⟩:=C ρ' a hd' n r j.1;obtain⟨c,b,e⟩:=B ρ' a hd' n r j.2;obtain⟨v,z,N⟩:=rv.get (i:=i) (d:=l[i]) (by simp[M]);obtain⟨G,k,w⟩:=e.get (i:=i) (d:=f[i]) (by simp[t]);refine⟨⟨vs,c,v,G,s,b,z,k⟩,λx R y=>?_⟩;obtain⟨q2,P,Q,rfl,O,rfl,y,L⟩:=y;have E:=y vs s;have A:=L c b;rw[z]at E;rw[k]at A;cases E;cases A;have u:=cV (o:=HO.tup [v,G]) O;refine⟨u,?_⟩;dsimp[RD];exact⟨q2,_,rfl,bB,RDs.cons (N.mono<|.c0 u) .wu⟩
 stop:=λρ' a hd' n r j=>by
  obtain⟨vs,s,rv⟩:=C ρ' a hd' n r j.1;obtain⟨c,b,e⟩:=B ρ' a hd' n r j.2;exact⟨vs,c,s,b,by rw[<-rv.length,<-e.length];simp⟩
 sz:=by simp;lia
def BN{K:ZX}(r:.aW)(h:.cS)(e:zsrc hd d=some (l,g)):
  ∃(L:Bool) (q:Addr),v=.ref q/\(∃vs,SqM L K H q vs/\RDs K ρ H l vs)/\∀ρ' f hd',Ext ρ H ρ' f->RH K ρ' f hd'->held g l hd'->∃vs,SqM L K f q vs/\RDs K ρ' f l vs:=by
 cases d<;>dsimp[zsrc]at e<;>try (cases e;done)
 ·cases e
  dsimp[RD]at h;obtain⟨q,vs,rfl,b,a⟩:=h;exact⟨false,q,rfl,⟨vs,SqT.of b,a⟩,λρ' f hd' i k _=>⟨vs,SqT.of ((r.kp i).tup q vs b),a.mono (r.kp i)⟩⟩
 ·rename_i n
  cases c:hd[n]? with
  |none=>rw[c]at e;cases e
  |some cell =>
   rw[c]at e;cases cell with
   |dct _=>cases e
   |dcT _=>cases e
   |ob _=>cases e
   |lst w =>
    cases e;dsimp[RD]at h;obtain⟨q,b,rfl⟩:=h;obtain⟨vs,t,a⟩:=r.cel n _ q c b;refine⟨true,q,rfl,⟨vs,SqL.of t,a⟩,λρ' f hd' i k x=>?_⟩;obtain⟨m,o,j⟩:=k.cel n _ q x (i.get b);exact⟨m,SqL.of o,j⟩
 ·rename_i c w
  split at e
  ·rename_i u
   cases e;dsimp[RD]at h;rcases h with ⟨s,_⟩|⟨_,q,vs,rfl,b,a⟩
   ·exact absurd u s
   ·exact⟨false,q,rfl,⟨vs,.inr b,a⟩,λρ' f hd' i k _=>⟨vs,.inr b,a.mono (r.kp i)⟩⟩
  ·cases e
/---/def Fx(K:ZX)(ρ:.I)(H:Hp)(σd:Sd)(σ:St)(f g:EF)(hd:Hd)(R:.lz):Prop:=match f σd hd with
 |.ok x h1=>match g σd h1 with
  |.ok y h2=>match zsrc h2 x,zsrc h2 y with
   |some (l,o),some (k,o')=>∀J H' ρ',Ext ρ H ρ' H'->RS K ρ' H' σd h2 σ->qi K ρ' H' J .j0 .qh->R J H'
   |_,_=>False
  |_=>False
 |_=>False
/---/def Sc(K:ZX)(f g:EF):TI:=λσ H R=>∃ρ σd hd,RS K ρ H σd hd σ/\Fx K ρ H σd σ f g hd R
/---/def MIZ(X:Cx)(tg e:Expr)(f g:EF):Prop:=PI X tg e (Sc X.K f g)
def uG(K:Gl X "zip")(hm:X.mg "zip"=none)(ha:.l a f)(hb:.l b g)(E:autoParam (.jD X.env=.l7) Q3Q._auto_1)(i:autoParam (.jF X.env=.mw) Q3Q._auto_1):MIZ X .jp (.jw<|.bT "zip") f g:=by
 refine PI.imp (M9 K hm (cP ha (cP hb eQ i) (by rw[E,i])) E i) λσ H R ⟨ρ,σd,F,P,c⟩=>⟨ρ,σd,F,P,?_⟩;unfold Fx at c;cases e:f σd F with
 |exc x I=>rw[e]at c;exact c
 |bad=>rw[e]at c;exact c
 |ok d r =>
  rw[e]at c;simp only at c;intro v Z w D m rv;refine⟨w,σd,r,m,?_⟩;cases u:g σd r with
  |exc x I=>rw[u]at c;exact c
  |bad=>rw[u]at c;exact c
  |ok T n =>
   rw[u]at c;simp only at c;intro Y W B j h y;have rv:=RD.mono (m.hp.kp j) rv;cases s:zsrc n d with
   |none=>rw[s]at c;exact c.elim
   |some Q =>
    obtain⟨l,o⟩:=Q;cases z:zsrc n T with
    |none=>rw[s,z]at c;exact c.elim
    |some V =>
     obtain⟨k,o'⟩:=V;rw[s,z]at c;simp only at c;obtain⟨La,q,rfl,⟨N,J,A⟩,M⟩:=BN h.hp rv s;obtain⟨Lb,S,rfl,⟨C,t,G⟩,L⟩:=BN h.hp y z;exact⟨La,Lb,q,S,N,C,rfl,J,t,λU O=>c _ W B (D.trans j) h (GU M L (by rw[A.length];exact U))⟩
end
section
variable{X:Cx}{pos:Pos}{tg:Expr}
def Fy(hp:.ll)(hc:.aJ)(hi:MIZ X tg t f U)(hg:MG X tg g)(hb:MSs X C b)
  (hs:autoParam (∀x,foldedSetIterable t X.env x=pure x) Q2Q._auto_1):MS X (.For tg t C [] pos) (tJ f U g b):=by
 refine PS.imp (Iw hp hc hi hg hb hs) λEn σ H ⟨ρ,σd,hd,rs,p⟩=>⟨ρ,σd,hd,rs,?_⟩;unfold tJ at p;unfold Fx;cases e:f σd hd with
 |exc x h'=>rw[e]at p;exact p
 |bad=>rw[e]at p;exact p
 |ok d Z =>
  rw[e]at p;simp only at p⊢;cases T:U σd Z with
  |exc x h'=>rw[T]at p;exact p
  |bad=>rw[T]at p;exact p
  |ok d2 L =>
   rw[T]at p;simp only at p⊢;cases Y:zsrc L d with
   |none=>rw[Y]at p;exact p.elim
   |some p1 =>
    obtain⟨l0,o⟩:=p1;cases z:zsrc L d2 with
    |none=>rw[Y,z]at p;exact p.elim
    |some p2 =>
     obtain⟨k0,o'⟩:=p2;rw[Y,z]at p;simp only at p ⊢;intro J H1 I a4 a0 R;generalize hG:(λh:Hd=>held o l0 h/\held o' k0 h)=G at p R;generalize ((l0.zip k0).map λp=>D.tup .eZ)=l at p R;refine⟨λi m E B=>∃ρ' n hd',Ext I H1 ρ' B/\RS X.K ρ' B n hd' E/\i<=l.length/\m=l.length - i/\cQ X.K ρ' B (pB G g b .n4 n hd') En,
      ⟨l.length,I,σd,L,Ext.refl,a0,YZ _,by simp,by simpa using cQ.ext a4 p⟩,?_⟩
     rintro i m E B ⟨ρ',n,hd',S,w,a5,rfl,a⟩
     by_cases M:i<l.length
     ·have V:l[i]?=some l[i]:=by simp[M]
      rw[XE M]at a;unfold pB at a
      by_cases K:G hd'
      ·rw[z4 K]at a
       obtain⟨go,yl⟩:=R.go ρ' B hd' i _ S w.hp K V;refine .inr ⟨go,λN O=>∃u j A,Ext I H1 u O/\RS X.K u O j A N/\cQ X.K u O (pB G g b (l.drop (i + 1)) j A) En,
        λN O ⟨u,j,A,a1,a2,a3⟩=>⟨l.length-(i+1),by lia,u,j,A,a1,a2,M,rfl,a3⟩,λx O y=>?_⟩
       obtain⟨sm,rx⟩:=yl x O y;cases c:g l[i] n with
       |none=>rw[c]at a;exact a.elim
       |some j =>
        rw[c]at a;simp only at a;refine⟨ρ',n,hd',l[i],j,w.same sm,rx,c,λN W=>⟨ρ',j,hd',W,?_⟩⟩;have s:Ext ρ' B ρ' O:=Ext.same sm;cases z:b j hd' with
        |nx σ3 P=>rw[z]at a;exact λF Q q k r=>⟨q,σ3,P,S.trans .iQ,r,cQ.ext .iQ a⟩
        |ct σ3 P=>rw[z]at a;exact λF Q q k r=>⟨q,σ3,P,S.trans .iQ,r,cQ.ext .iQ a⟩
        |bk σ3 P=>rw[z]at a;exact λF Q q k r=>a F Q q .iQ r
        |rt d P=>rw[z]at a;exact λv Q q k r rv=>a v Q q .iQ r rv
        |exc x σ3 P=>rw[z]at a;exact a
        |bad=>rw[z]at a;exact a
      ·rw[yD K]at a;exact a.elim
     ·have e0:i=l.length:=by lia
      subst e0;rw[List.drop_length]at a;unfold pB at a
      by_cases K:G hd'
      ·rw[z4 K]at a
       exact .inl ⟨R.stop ρ' B hd' S w.hp K,a E B ρ' Ext.refl w⟩
      ·rw[yD K]at a;exact a.elim
end
end Fm
namespace Fm
open PySem PySem.Spec L2 PyProof.Rows
section
variable{X:Cx}{pos:Pos}{scope:Scope}{own capn:.af}{caps:.i}
def BO(hc:.aJ)(S:.e3)(hi:MIZ X tg a f U)
  (a5:∀M C s H ex,MG .qs tg g/\MTs .qs r cs/\ME .qs n e)
  (hs:autoParam (∀x,foldedSetIterable a X.env x=pure x) Q2Q._auto_1):MF X (.hR n [⟨tg,a,r,0⟩]) (kA own.length caps f U g cs e):=by
 intro pins s σ H Q I ⟨ρ,σd,hd,rs,p⟩;rw[eval_ListComp];unfold kA at p;cases c:f σd hd with
 |exc z h7=>rw[c]at p;exact p.elim
 |bad=>rw[c]at p;exact p.elim
 |ok d a2 =>
  rw[c]at p;simp only at p;cases R:U σd a2 with
  |exc z h7=>rw[R]at p;exact p.elim
  |bad=>rw[R]at p;exact p.elim
  |ok d2 j =>
   rw[R]at p;simp only at p;cases L:zsrc j d with
   |none=>rw[L]at p;exact p.elim
   |some p1 =>
    obtain⟨O,o⟩:=p1;cases c3:zsrc j d2 with
    |none=>rw[L,c3]at p;exact p.elim
    |some p2 =>
     obtain⟨N,o'⟩:=p2;rw[L,c3]at p;simp only at p;obtain⟨M,V,B,u⟩:=jC (scope:=scope) (env:=X.env) λy hy W=>.lS (S.free y hy W);refine VC (use:=none) rfl hs V S.kind S.names (thn (hi pins s σ H (λJ P=>∃i,Ext ρ H i P/\RS X.K i P σd j σ/\qi X.K i P J ((O.zip N).map λp=>.tup .eZ) (λh=>held o O h/\held o' N h)) I ⟨ρ,σd,hd,rs,by
      unfold Fx;rw[c];dsimp[R,L,c3];exact λJ H' ρ' ex Z w=>⟨ρ',ex,Z,w⟩⟩) λv s1 V=>thn V λa6 s2 h2=>?_)
     obtain⟨it,fp,tn,J,P,rfl,t,T,a4,hf,i,k,A,w⟩:=h2;generalize hG:(λh:Hd=>held o O h/\held o' N h)=G at p w;generalize ((O.zip N).map λp=>D.tup .eZ)=l at p w;cases K:dX G g cs e l .gL j with
     |exc z h7=>rw[K]at p;exact p.elim
     |bad=>rw[K]at p;exact p.elim
     |ok ds hdF =>
      rw[K]at p;refine kS (RR:=λa1 C=>compPost .ag X.A X.xe none .cL a1 C) hc S a5 t T a4 hf A w B u K λC s' m H' ρ' vs F hn I' a3 ex rh E hD a0 Y=>?_;refine⟨m,hn,λh' sb=>⟨.ref s2.heap.objs.size,H',?_,rfl,?_⟩⟩
      ·refine I'.turned (it:=C) (t':=s'.toks) .j3 a3 ?_ (.inr<|YX<|ZS t.sz F) (λx c e z=>?_) λq hq z=>?_
       ·exact YN (YC t.lt F)
       ·obtain⟨v,o,ho,hd⟩:=t.cell x c e
        exact absurd (YC (ZI ho) F) .dy
       ·exact absurd (YC (ZI (t.pin q hq).1) F) .dy
      ·exact p _ vs H' ρ' .nB (rs.ext .nB rh) (k.fresh E<|A.hp.free E) hD a0 Y
end
theorem vK:∀(a b:.b),HT.lexLt a b=.d7 b
 |[],[]=>rfl
 |[],_::_=>rfl
 |_::_,[]=>rfl
 |x::xs,y::ys=>by
  show (if x=y then HT.lexLt xs ys else decide (x<y))=_;rw[vK xs ys];rfl
def Qq{K:ZX}:Og K Do (RF K):=by
 intro ρ H σd r σ d k v w Q m rv c p;unfold Do at p;cases d<;>try exact p.elim
 cases k<;>try exact p.elim
 rename_i q n
 dsimp[ltT]at p;cases e:cC q with
 |none=>rw[e]at p;exact p.elim
 |some i =>
  cases f:cC n with
  |none=>rw[e,f]at p;exact p.elim
  |some l =>
   rw[e,f]at p;dsimp[RD]at rv c;obtain⟨a,s,rfl,j,h⟩:=rv;obtain⟨b,t,rfl,o,g⟩:=c;refine⟨a,b,i,l,rfl,rfl,SqT.of (by rw[j,ik h e]),SqT.of (by rw[o,ik g f]),?_⟩;rw[vK];exact p.here m .aU
end Fm
namespace Ts
open PySem PyProof.Rows
section
variable{prog:P2}{w:N3}{A:P1}{E:.q}{s:Q5}
noncomputable def kvI:S1->Int
 |.int i _=>i
 |_=>0
noncomputable abbrev rK:Keyed->Keyed->Bool:=λx y=>decide (kvI x.1<kvI y.1)
def TM:Cmp .aj A E s oneType' (λx=>∃i t,x.1=.int i t) rK:=by
 refine⟨λ{x y l Q} c e k a=>?_,λ{x y} h=>?_,λ{x y z} d b=>?_⟩
 ·obtain⟨i,t,f⟩:=c
  obtain⟨j,u,g⟩:=e;rw[lt'_eq];refine v3 (wo ?_);rw[k];refine v3 (wpS_lift (vb ?_));rw[keyLt'_oneType];dsimp[rK,f,g,kvI]at a⊢;exact oneLt_int ⟨rfl,Z3 a⟩
 ·dsimp[rK,X7,decide_eq_false_iff_not]at h⊢;lia
 ·dsimp[rK,decide_eq_false_iff_not]at d b⊢;lia
def JQ(k x:Keyed):mO rK k x=decide (kvI x.1=kvI k.1):=by
 dsimp[mO,rK]
 by_cases c:kvI x.1=kvI k.1
 ·simp[c]
 ·rcases Int.lt_or_gt_of_ne c with h|h
  ·simp[h,c]
  ·have:kvI k.1<kvI x.1:=h
   simp[this,c]
theorem qg:∀{b:List S1} {a:.b},IntsAre b a->b.map kvI=a
 |_,_,.nil=>rfl
 |_,_,.cons n t h=>by rw[yP,qg h];rfl
theorem BP:∀{b:List S1} {c:.b},IntsAre b c->∀v∈b,∃i t,v=.int i t
 |_,_,.cons n t h,v,a=>by
  rcases y4.mp a with rfl|a
  ·exact⟨n,t,rfl⟩
  ·exact BP h v a
def Qr(d:IntsAre a b)(h:Stb rK xs .n7)(so:xs.Pairwise (lE rK)):xs.map (·.2)=(byK (·.1)<|b.zip vs).map (·.2):=by
 have e:xs=byK (λx:Keyed=>kvI x.1) .n7:=by
  refine PQ _ (so.imp λ{x y} z=>?_) λk=>?_
  ·dsimp[lE,rK,decide_eq_false_iff_not]at z;lia
  ·have:=h.fl (.int k (default:Tok),.none)
   have f:(mO rK (.int k (default:Tok),.none))=λz=>decide (kvI z.1=k):=by funext z;rw[JQ];rfl
   rwa[f]at this
 have c:b.zip vs=(.n7).map λx=>(kvI x.1,x.2):=by
  rw[<-qg d,List.zip_map_left];rfl
 rw[e,c,byK_map (λx:Keyed=>(kvI x.1,x.2)) (λx=>kvI x.1) (·.1) .iZ,y3];rfl
def Na{a vs:List α}(h:vs.length<2):(.n7).Pairwise R:=by
 cases a with
 |nil=>exact .nil
 |cons k a =>
  cases vs with
  |nil=>exact .nil
  |cons v vs =>
   cases vs with
   |nil=>rw[U9,List.zip_nil_right];exact YV _ _
   |cons u vs=>dsimp[YT]at h;lia
def sort_keyed{p:.b}(ho:.tc)(hz:vs.length<=100000)(lk:p.length=vs.length)
  (hf:∀(i:Nat) v k,vs[i]?=some v->p[i]?=some k->∀(G:Heap) (tk:Nat),(∀b u,b≠a->s.heap.get? b=some u->G.get? b=some u)->∀Q:S1->Q5->Prop,(∀t l,Q (.int k t) .qC)->wpAny .aj A (call f [v]) Q .sy .ib)
  (h:∀(G:Heap) (tk c:Nat),(∀b u,b≠a->s.heap.get? b=some u->G.get? b=some u)->G.get? a=some (seqObj "list" ((.tx).map (·.2)).toArray c)->P .rh .ib) :
  wpAny .aj A (ksk_tree a f false) P E s:=by
 unfold ksk_tree;have ha:a<s.heap.objs.size:=ZI ho;refine z0 (listItems_at ho rfl (z0 (V6 ho rfl ?_)));obtain⟨D,F⟩:∃D,(.h6).get? a=some .mE:=⟨_,XU ho .hj⟩;refine z0 (vn F rfl (z0 (wpAny_newTuple ?_ (by rw[YQ];simp;lia))));refine z0 (V7 ?_);refine WE ?_;obtain⟨U,y⟩:=q0 .h6;rw[<-y]at F;have J:U.objs.size=s.heap.objs.size:=by rw[y,YM]
 have n1:a≠U.objs.size:=by rw[J];exact ZN ha
 obtain⟨m,q⟩:=q0 (U.push .jN);have n2:a≠m.objs.size:=by rw[q,WU,J];exact ZN (Z2 ha)
 have a3:(m.push .c7).get? a=some .mE:=by
  rw[.aK n2,q,.aK n1];exact F
 have a2:(m.push .c7).get? m.objs.size=some .c7:=ZJ _ rfl;have a1:∀b u,b≠a->s.heap.get? b=some u->(m.push .c7).get? b=some u:=λb u L e=>.R (by rw[q];exact .R (by rw[y];exact(.bX L).trans e));have nk:∀b u,s.heap.get? b=some u->b≠m.objs.size:=λb u e=>by rw[q,WU,J];exact ZN (Z2<|ZI e)
 have a4:∀b u,s.heap.get? b=some u->b≠m.objs.size:=nk;show wpAny .aj A (ksk_rest a f false vs.toArray D<|.ref (Heap.objs .wb).size) P E { s with heap:=(Heap.push .wb .c7) };rw[<-y,<-q];unfold ksk_rest;refine z0 (wpAny_rule ?_);rw[List.forIn_toArray];refine z0 (ksk_fold (I:=λj Z=>∃G tk o e,Z = .ib/\G.get? m.objs.size=some (seqObj "list" .sb e)/\IntsAre o (p.take j)/\G.get? a=some .mE/\∀b u,b≠a->s.heap.get? b=some u->G.get? b=some u) vs 0 _ ⟨_,s.toks,[],0,rfl,a2,by rw[W1];exact .nil,a3,a1⟩ ?_ ?_)
 ·rintro j x Z W ⟨G,tk,o,e,rfl,S,r,g3,X⟩
  rw[YE]at r⊢;have hj:j<vs.length:=(zS.mp W).1;have V:j<p.length:=by rw[lk];exact hj
  refine z0 (vb (UE (hf j x p[j] W (ZE V) G tk X (λv R=>∃t l,v=.int p[j] t/\R = .qC) λt l=>⟨t,l,rfl,rfl⟩) ?_ λ_ _ z=>z.elim));rintro v R ⟨t,l,rfl,rfl⟩;dsimp only;have kl:o.length=j:=by rw[r.length,WI];lia
  refine z0 (V6 (s:=.qC) S rfl (wX ⟨rfl,?_⟩) .yO (by dsimp[Array.size_push,ZY,YQ];lia));have up:=XU S (λd=>d.push (.int p[j] t));refine⟨_,l,o++[.int p[j] t],_,rfl,by rw[up];dsimp[List.push_toArray];rfl,?_,?_,λb u L N=>?_⟩
  ·rw[V3 V];exact ksk_snoc r
  ·rw[.bX n2];exact g3
  ·rw[.bX (nk b u N)];exact X b u L N
 rintro Z ⟨G,tk,o,e,rfl,S,r,g3,X⟩;rw[YE,<-lk,XH]at r;refine z0 (listItems_at (s:=.ib) S rfl ?_);have kl:o.length=vs.length:=by rw[r.length,lk]
 have B:∀{kd:SortKind} {d:.C} {C:Array .gV} {g:Nat},Stb rK d.toList (o.zip vs)->d.toList.Pairwise (lE rK)->.bI (ksk_tail a false D (.ref m.objs.size)<|SortSt.mk' kd d C g none) P E .ib:=λ{kd d C g} K T=>by
  have zl:d.size=vs.length:=by
   have:=K.length_eq;rw[Y6,List.length_zip,kl,Nat.min_self]at this;exact this
  unfold ksk_tail;dsimp only;refine z0 (V6 (s:=.ib) S rfl (z0 (wpAny_letGo ?_)) .yO .e);have H:(G.update m.objs.size .ey).get? a=some .mE:=by rw[.bX n2];exact g3
  refine z0 (vn (s:=.vs) H rfl ?_);refine z0 (V6 (s:=.vs) H rfl ?_ .e (by show (d.map (·.2)).size<=_;rw[Array.size_map,zl,YQ];lia));dsimp[bne_self_eq_false,Y4,WN];show wpAny .aj A (PySem.ret Value.none) P E _;have e0:d.map (·.2)=((.tx).map (·.2)).toArray:=by
   rw[<-Qr r K T,<-Array.toList_map]
  obtain⟨c,hc⟩ : ∃c,((G.update m.objs.size (Obj.mapSeq λ_ => #[])).update a (Obj.mapSeq λ_=>d.map (·.2))).get? a=some (seqObj "list" ((.tx).map (·.2)).toArray c):=⟨_,by
   have:=XU H (λ_=>d.map (·.2));rw[this,<-e0]⟩
  refine wX (h _ tk c (λb u L N=>?_) hc);show ((G.update _ _).update a _).get? b=_;rw[.bX L,.bX (nk b u N)];exact X b u L N
 unfold ksk_end;dsimp only;dsimp[Y4,WN];have Y:((.sb).zip vs.toArray).toList=o.zip vs:=ksk_zip _ _
 by_cases M:vs.toArray.size<2
 ·rw[z4 M,z4 M]
  refine z0 (wX<|z0 .aZ);refine B (by rw[Y];exact Stb.refl _) ?_;rw[Y];exact Na .rG
 ·rw[yD M,yD M]
  have a5:2<=vs.length:=by simp at M;lia
  rw[ksk_kind (keys:=o.toArray) r .Q];refine z0 .aZ;refine z0 (UE (zG TM (a0:=(.sb).zip vs.toArray) (g0:=7) (Q:=λ_ O=>∃d C g,O=sta oneType' d C g/\Stb rK d.toList (o.zip vs)/\d.toList.Pairwise (lE rK)) (λx W=>?_) .Q λd C g K T=>⟨d,C,g,rfl,by rw[<-Y];exact K,T⟩) ?_ λ_ _ e=>e)
  ·rw[Y]at W
   exact BP r x.1 (List.of_mem_zip (a:=x.1) (b:=x.2) W).1
  ·rintro⟨⟨⟩,O⟩ Z ⟨rfl,d,C,g,rfl,K,T⟩
   exact B K T
end
end Ts
namespace Fm
open PySem PySem.Spec L2 PySem.W PyProof.Rows
section
variable{X:Cx}{pos p p2 kpos:Pos}
inductive qu(K:ZX)(H:Hp):List V->List Int->Prop
 |nil:qu K H [] []
 |cons {b:Addr} {ys vs:List V} {kz:.b} (h:SqL K H b ys) (t:qu K H vs kz):qu K H (.ref b::vs) ((ys.length:Int)::kz)
theorem qu.length{K:ZX}:∀{vs:List V} {a:.b},qu K H vs a->a.length=vs.length
 |_,_,.nil=>rfl
 |_,_,.cons _ t=>by simp[t.length]
theorem qu.at{K:ZX}:∀{vs:List V} {c:.b} {a:List S1},qu K H vs c->aY vs a->∀(i:Nat) v k,a[i]?=some v->c[i]?=some k->∃b ys,v=.ref b/\SqL K H b ys/\k=(ys.length:Int)
 |_,_,_,.nil,.nil,i,v,k,h,_=>by simp at h
 |_,_,_,.cons (b:=b) (ys:=ys) h0 t,.cons rv rt,i,v,k,h1,h2=>by
  cases rv;cases i with
  |zero=>simp at h1 h2;exact⟨b,ys,h1.symm,h0,h2.symm⟩
  |succ i=>exact t.at rt i v k .gK .gJ
def JR:∀{vs:List V} {c:List S1} (d:.b),aY vs c->aY ((.fd<|d.zip vs).map (·.2)) ((.fd<|d.zip c).map (·.2)):=by
 have n:∀{x:Int × V} {y:Int × S1} (e:x.1=y.1) (rv:cf x.2 y.2) {l:List .n8} {m:List (Int × S1)},l.map (·.1)=m.map (·.1)->aY .cy .oZ->(.gq x l).map (·.1)=(.gq y m).map (·.1)/\aY ((.gq x l).map (·.2)) ((.gq y m).map (·.2)):=by
  intro x y e rv l
  induction l with
  |nil =>
   intro m f h;cases m with
   |nil=>exact⟨by simp[Ts.insK,e],.cons rv .nil⟩
   |cons _ _=>simp at f
  |cons a l o =>
   intro m f h;cases m with
   |nil=>simp at f
   |cons b m =>
    dsimp[yP,WR]at f;cases h with
    |cons i j =>
     unfold Ts.insK;rw[e,f.1];split
     ·exact⟨by simp[e,f.1,f.2],.cons rv (.cons i j)⟩
     ·obtain⟨q1,q2⟩:=o f.2 j
      exact⟨by simp[f.1,q1],.cons i q2⟩
 have q:∀{vs:List V} {c:List S1} (d:.b),aY vs c->∀{l:List .n8} {m:List (Int × S1)},l.map (·.1)=m.map (·.1)->aY .cy .oZ->aY (((d.zip vs).foldl (λg x=>.o9 g) l).map (·.2)) (((d.zip c).foldl (λg x=>.o9 g) m).map (·.2)):=by
  intro vs
  induction vs with
  |nil =>
   intro c d r l m f h;cases r;cases d<;>exact h
  |cons v vs o =>
   intro c d r l m f h;cases r with
   |cons i j =>
    cases d with
    |nil=>exact h
    |cons k d =>
     simp;obtain⟨q1,q2⟩:=n (x:=(k,_)) (y:=(k,_)) rfl i f h;exact o d j q1 q2
 intro vs c d r;exact q d r rfl .nil
/---/def JS(K:ZX):List V->Hp->VK->Prop:=λxs H Q=>∃(a:Addr) (vs:List V) (kz:.b),xs=.di/\SqL K H a vs/\vs.length<=1000/\qu K H vs kz/\∀q,H q=none->Q .i6 (.az q (.lst ((.fd<|kz.zip vs).map (·.2))))
def DS(I:.s)(r:aY xs N)(h:JS X.K xs H Q):
  wpAny .ag X.A (call .ih N [(Str.ofString "key",.builtin "len")]) .cL X.xe s:=by
 obtain⟨a,A,t,rfl,W,a1,O,q⟩:=h;obtain⟨u,rfl,ru⟩:=aY.one r;cases (show u=Value.ref a from ru);obtain⟨d,f,Z,hz⟩:=I.list W;have hl:s.heap.IsList a d.toArray:=Z.isList;have m:d.length=A.length:=f.length.symm;obtain⟨o,ho,S,n,Y⟩:=hl;refine call_function_entry_kw kind_sorted plain_sorted entry_sorted (ksk_s1 _ _) ?_;unfold Builtin.«sorted»;refine z0 .aZ;refine z0 (wpAny_collect_seq a .ca ho S Y (λe J=>?_) .rI);have et:d.toArray.toList=d:=by simp
 rw[et];refine z0 .o3;have g:(e.push .mr).get? e.objs.size=some .mr:=ZJ _ rfl;have keep:∀b u,e.get? b=some u->(e.push .mr).get? b=some u:=λb u z=>.R z;generalize hG:e.push .mr=G at g keep;have L:Inv X pins σ H { s with heap:=e }:=I.kept J;refine z0 (WE (wpAny_call_entry_kw wd ⟨_,g,rfl⟩ U5 (by
  rw[ksk_t4];refine Ts.sort_keyed g .a (by rw[O.length,m]) (λi v k P hk E tk x Q2 F=>?_) λE tk c x B=>⟨_,rfl,?_⟩
  ·obtain⟨b,ys,rfl,U,rfl⟩:=O.at f i v k P hk
   obtain⟨M,l,y,a0⟩:=I.list U;obtain⟨j,w,D,n2,C⟩:=y.isList;have K:=J b j w;have R:E.get? b=some j:=x b j (ZN<|ZI K) (keep b j K);have hn:=rL;refine Calls.call_len_list ⟨j,R,D,n2,C⟩ (by rw[ZY,<-l.length];lia) ?_;rw[ZY,<-l.length];exact F _ _
  ·refine wX ⟨_,rfl,?_⟩
   have T:∀b u,e.get? b=some u->E.get? b=some u:=λb u z=>x b u (ZN<|ZI z) (keep b u z);have rv:=JR t f;have vl:((.fd<|t.zip A).map (·.2)).length<=1000:=by
    rw[ZA,(.r1).length_eq,List.length_zip];lia
   exact⟨.ref e.objs.size,_,L.laid (o:=.lst ((.fd<|t.zip A).map (·.2))) T .r ⟨by rw[YQ];lia,_,c,rv,B⟩,rfl,q _ (L.hok.fresh .r)⟩) (ksk_l1 _ _)))
def Nc{K:ZX}:∀{l:List D} {vs:List V} (c:.b),RDs K ρ H l vs->.ay ((.fd<|c.zip l).map (·.2)) ((.fd<|c.zip vs).map (·.2)):=by
 have n:∀{x:Int × D} {y:Int × V} (e:x.1=y.1) (rv:.bJ x.2 y.2) {l:.cU} {m:List .n8},l.map (·.1)=m.map (·.1)->RDs K ρ H .cy .oZ->(.gq x l).map (·.1)=(.gq y m).map (·.1)/\.ay ((.gq x l).map (·.2)) ((.gq y m).map (·.2)):=by
  intro x y e rv l
  induction l with
  |nil =>
   intro m d h;cases m with
   |nil=>exact⟨by simp[Ts.insK,e],⟨_,_,rfl,rv,rfl⟩⟩
   |cons _ _=>simp at d
  |cons a l q =>
   intro m d h;cases m with
   |nil=>simp at d
   |cons b m =>
    dsimp[yP,WR]at d;obtain⟨v,r,o,i,j⟩:=h;cases o;unfold Ts.insK;rw[e,d.1];split
    ·exact⟨by simp[e,d.1,d.2],⟨_,_,rfl,rv,⟨_,_,rfl,i,j⟩⟩⟩
    ·obtain⟨q1,q2⟩:=q d.2 j
     exact⟨by simp[d.1,q1],⟨_,_,rfl,i,q2⟩⟩
 have s:∀{vs:List D} {f:List V} (c:.b),RDs K ρ H vs f->∀{l:.cU} {m:List .n8},l.map (·.1)=m.map (·.1)->RDs K ρ H .cy .oZ->.ay (((c.zip vs).foldl (λg x=>.o9 g) l).map (·.2)) (((c.zip f).foldl (λg x=>.o9 g) m).map (·.2)):=by
  intro vs
  induction vs with
  |nil =>
   intro f c r l m d h;cases r;cases c<;>exact h
  |cons v vs q =>
   intro f c r l m d h;obtain⟨u,t,o,i,j⟩:=r;cases o;cases c with
   |nil=>exact h
   |cons k c =>
    simp;obtain⟨q1,q2⟩:=n (x:=(k,_)) (y:=(k,_)) rfl i d h;exact q c j q1 q2
 intro l vs c r;exact s c r rfl rfl
theorem BQ{K:ZX}(r:.aW):∀{l:List D} {vs:List V} {f:.b},RDs K ρ H l vs->Bo hd l=some f->qu K H vs f
 |[],_,_,h,e=>by cases h;cases e;exact .nil
 |x::l,_,_,h,e=>by
  obtain⟨v,u,rfl,i,o⟩:=h;unfold Bo at e;cases a:Bn hd x with
  |none=>rw[a]at e;cases e
  |some k =>
   cases b:Bo hd l with
   |none=>rw[a,b]at e;cases e
   |some kz' =>
    rw[a,b]at e;cases e;have t:=BQ r o b;cases x with
    |ref n =>
     replace a:(match hd[n]? with|some .cz=>some (l.length:Int)|_=>none)=some k:=a;cases c:hd[n]? with
     |none=>rw[c]at a;cases a
     |some j =>
      rw[c]at a;cases j with
      |lst s =>
       cases a;obtain⟨q,g,rfl,m,d⟩:=oz r i (l:=s) (by simp[ev,c]);rw[RDs.length d];exact .cons m t
      |dct _=>cases a
      |dcT _=>cases a
      |ob _=>cases a
    |_=>cases a
def DT(G:.oM)(hm:.oC)(m:Gl X "len")(k:X.mg "len"=none)(ha:.l a j)(o:autoParam (.bq X.env=(false,.bL X.env)::starEach [] X.env) Q3Q._auto_1):MF X (.Call .lB [a] .ww pos) (nA j):=by
 have E:.w (.Call .lB [a] .ww pos) (tCB (JS X.K)<|Op (ny X.K .ht j) Rz):=by
  intro pins s σ H Q I h;refine U7 (i4 (u:=.builtin "sorted") I G hm .bd ?_);refine callWith_kw (thn ((.fm o) pos pins s σ H _ I h) λN O ⟨w,K,y,A,q1⟩=>?_) (by rw[o];rfl) (by rw[o];rfl) rfl rfl;refine wpAny_evalAll_cons (z0<|i4 (u:=.builtin "len") y m k .bd<|z0<|wz .aZ);refine wpAny_evalAll_nil ?_;exact DS y A q1
 refine PE.imp E λσ H Q ⟨ρ,σd,t,z,b⟩=>⟨ρ,σd,t,z,?_⟩;unfold nA at b;cases e:j σd t with
 |exc x M=>rw[e]at b;exact b
 |bad=>rw[e]at b;exact b
 |ok d i =>
  rw[e]at b;dsimp[aH]at b;intro v K J L f rv;cases c:ev i d with
  |none=>rw[c]at b;exact b.elim
  |some l =>
   rw[c]at b;simp only at b;cases n:Bo i l with
   |none=>rw[n]at b;exact b.elim
   |some r =>
    rw[n]at b;simp only at b;split at b
    ·rename_i B
     obtain⟨q,w,rfl,F,g⟩:=oz f.hp rv c;exact⟨q,w,r,rfl,F,by rw[<-g.length];exact B,BQ f.hp g n,λD C=>b.mk L f (Nc r g) D C⟩
    ·exact b.elim
end
section
variable{X:Cx}{pos p:Pos}
end
end Fm
namespace Fm
open PySem PySem.Spec L2
section
variable{X:Cx}
def Qs{fo N:EF}(ho:.hI)(he:.l e N)(p:autoParam (.gv "pop" X.env .db=eval o X.env) Q3Q._auto_1)
  (C:autoParam (((backTo g .km).all .iJ && (backToKw g .mj).all .ix
   && decide .lU)=true) Q3Q._auto_1)
  (q:autoParam (.y7=true) Q3Q._auto_1) (L:autoParam (starEach [e] X.env=(false,.cH X.env)::starEach [] X.env) Q3Q._auto_1) :
  ME X (.Call (.ju "pop") [e] [] g) (DJ fo N):=by
 refine PE.imp (.tD PySem.F.slot_list_pop PySem.F.type_list_pop IL ho (cP he eQ L) p C q L) λσ H Q ⟨ρ,σd,U,Z,K⟩=>⟨ρ,σd,U,Z,?_⟩;unfold DJ at K;refine(cB.bind (R:=rD X.K) K).imp λv H1 zz=>?_;obtain⟨E,d,B,e1,t,rv,i⟩:=zz;cases d<;>try exact i.elim
 rename_i n
 dsimp[rD,RD]at rv;obtain⟨a,M,rfl⟩:=rv;simp only at i;cases F:B[n]? with
 |none=>rw[F]at i;exact i.elim
 |some cell1 =>
  rw[F]at i;cases cell1 with
  |dct l=>exact i.elim
  |dcT l=>exact i.elim
  |ob l=>exact i.elim
  |lst l1 =>
   obtain⟨W,P,_⟩:=t.hp.cel n _ a F M;simp only at i;refine⟨.inl ⟨rfl,W,SqL.of P⟩,E,σd,B,t,(cB.bind (R:=rD X.K) i).imp λw I zz=>?_⟩;obtain⟨r,k,u,S,m,D,f⟩:=zz;cases k<;>try exact f.elim
   rename_i j
   dsimp[rD,RD]at D;subst D;simp only at f;cases c:u[n]? with
   |none=>rw[c]at f;exact f.elim
   |some cell =>
    rw[c]at f;cases cell with
    |dct l=>exact f.elim
    |dcT l=>exact f.elim
    |ob l=>exact f.elim
    |lst l =>
     simp only at f;split at f
     ·rename_i hz
      obtain⟨h0,T,h2⟩:=hz;have hj:j.toNat<l.length:=by omega
      have z:l[j.toNat]?=some l[j.toNat]:=by simp[hj]
      rw[z]at f;simp only at f;have s:=S.get M;obtain⟨h,J,b⟩:=m.hp.cel n _ a c s;obtain⟨y,hy,rd⟩:=b.get z;have A:=b.length;have sx:seqIndex? j h.length=some j.toNat:=by
       unfold seqIndex?;have V:¬j<0:=by omega
       have O:j<(h.length:Int):=by rw[<-A];exact T
       simp[V,h0,O]
      refine⟨a,h,j,j.toNat,y,rfl,rfl,J,by omega,by omega,sx,hy,?_⟩;have hn:n<u.length:=(.i3).1;have Y:RDs X.K r I (l.eraseIdx j.toNat) (h.eraseIdx j.toNat):=by
       rw[WC,WC];exact RDs.append (b.take _) (b.drop _)
      have rh:=m.hp.write s hn Y;have G:Ext r I r (upd I a<|.lst<|h.eraseIdx j.toNat):=Ext.write (ZK s);exact f.at G (m.ext G rh) (rd.mono<|m.hp.kp G)
     ·exact f.elim
end
end Fm
namespace Fm
open PySem PySem.Spec L2 PySem.W PyProof.Rows
open Ts (Cmp zG sta lE)
section
variable{prog:P2}{w:N3}{A:P1}{E:.q}{s:Q5}{kd:SortKind}{S:.dk}{r:.ar}
def vL(h:x∈(.ny).toList):x.1=x.2/\x.1∈vs:=by
 rw[pairsOf_toList]at h;exact mem_zip_self h
def vM(l:.tc)(hz:vs.length<=100000)
  (K:∀G:Heap,(∀b u,b≠a->s.heap.get? b=some u->G.get? b=some u)->(∀Q:SortKind->Q5->Prop,Q kd .mR->.bI (keyKind' vs.toArray) Q E .mR)/\Cmp .aj A E .mR kd S r)
  (U:∀x∈(.ny).toList,S x) (h2:2<=vs.length)
  (h:∀out:List S1,out.Perm vs->out.Pairwise (λx y=>r (y,y) (x,x)=false)->P .rh { s with heap:=sortedHeap s.heap a vs out.toArray }) :
  wpAny .aj A .wi P E s:=by
 rw[list_sort_plain];have B:a<s.heap.objs.size:=ZI l;refine z0 (listItems_at l rfl (z0 (V6 l rfl ?_)));obtain⟨m,f⟩:∃m,(.h6).get? a=some .z5:=⟨_,XU l .hj⟩;refine z0 (vn f rfl (z0 (wpAny_newTuple ?_ (by rw[YQ];simp;lia))));refine z0 (V7 ?_);refine WE ?_;have H:a≠(.h6).objs.size:=by rw[YM];exact ZN B
 have T:a≠(.qB).objs.size:=by rw[WU,YM];exact ZN (Z2 B)
 have j:(.su).get? a=some .z5:=by
  rw[.aK T,.aK H];exact f
 show wpAny .aj A _ P E { s with heap:=(.qB).push .c7 };dsimp only;have o:vs.toArray.size=vs.length:=by simp
 obtain⟨L,C⟩:=K .su λb u I e=>.R (.R<|(.bX I).trans e);have z:¬vs.toArray.size<2:=by rw[o];lia
 rw[yD z,yD z];refine z0 (L _ ?_);refine z0 (UE (zG C (a0:=pairsOf vs) (g0:=7) (Q:=λ_ i=>∃c k g,i=sta kd c k g/\c.toList.Perm (.ny).toList/\c.toList.Pairwise .V) U (by rw[pairsOf_size];lia) λc k g d t=>⟨c,k,g,rfl,d.pm,t⟩) ?_ λ_ _ e=>e);rintro⟨⟨⟩,i⟩ X ⟨rfl,c,k,g,rfl,d,t⟩;dsimp only;have R:(.o0).toList=c.toList.map (·.2):=Array.toList_map;have p:(.o0).size=vs.length:=by
  rw[Array.size_map,<-Array.length_toList,d.length_eq,Y6,pairsOf_size]
 refine z0 (vn j rfl ?_);refine z0 (V6 j rfl ?_ (hsz2:=by show (.o0).size<=_;rw[p,YQ];lia));dsimp[bne_self_eq_false,Y4,WN];refine wX ?_;have J:c.map (·.2)=(c.toList.map (·.2)).toArray:=by rw[<-R]
 show P _ { s with heap:=sortedHeap s.heap a vs .o0 };rw[J];refine h _ ?_ ?_
 ·have:=d.map (·.2)
  rw[pairsOf_toList]at this;have O:(vs.zip vs).map (·.2)=vs:=by rw[List.map_snd_zip];exact ZL _
  rw[O]at this;exact this
 ·rw[YJ]
  refine WO ?_ t;intro x y W V q;have D:=(vL<|d.mem_iff.mp W).1;have F:=(vL<|d.mem_iff.mp V).1;have M:x=(x.2,x.2):=by obtain⟨u,v⟩:=x;simp at D⊢;exact D
  have N:y=(y.2,y.2):=by obtain⟨u,v⟩:=y;simp at F⊢;exact F
  rw[<-M,<-N];exact q
end
section
variable{X:Cx}{pos p:Pos}{K:ZX}{ρ:.I}{H:Hp}
noncomputable def Nd(H:Hp):V->List Int
 |.int i=>[i]
 |.ref c=>match H c with
  |some (.tup ys)=>ys.map λv=>match v with | .int i=>i|_=>0
  |_=>[]
 |_=>[]
noncomputable def GV(H:Hp):S1->List .aC
 |.ref b=>match H b with
  |some (.tup xs)=>xs.map (Nd H)
  |_=>[]
 |_=>[]
def JT(l:.b):(l.map V.int).map (λv=>match v with | .int i=>i|_=>0)=l:=by
 rw[y3];exact List.map_id _
def Qt(e:elT k d=true)(h:.cS):Nd H v=rwK d:=by
 cases d with
 |int i=>dsimp[RD]at h;subst h;rfl
 |tup l =>
  dsimp[RD]at h;obtain⟨p,j,rfl,g,c⟩:=h;dsimp[elT,YB]at e;obtain⟨f,a⟩:=WM.mp e.2;have:=ik c a;subst this;show (match H p with|some (.tup b)=>b.map (λv=>match v with | .int i=>i|_=>0)|_=>[])=(cC l).getD [];rw[g,a];exact JT f
 |_=>simp[elT]at e
theorem Fz:∀{ds:List D} {vs:List V},ds.all (elT k)=true->RDs K ρ H ds vs->vs.map (Nd H)=ds.map rwK
 |[],vs,_,h=>by dsimp[RDs]at h;subst h;rfl
 |d::ds,vs,e,h=>by
  dsimp[RDs]at h;obtain⟨v,r,rfl,h1,h2⟩:=h;dsimp[XW,YB]at e;rw[yP,yP,Qt e.1 h1,Fz e.2 h2]
def zK(e:ja k d=true)(h:.cS)(r:cf v u):∃b ds xs,d=.tup ds/\u=.ref b/\H b=some .cn/\RDs K ρ H ds xs/\ds≠[]/\ds.all (elT k)=true/\GV H u=ve d:=by
 cases d with
 |tup ds =>
  dsimp[RD]at h;obtain⟨b,xs,rfl,c,a⟩:=h;cases r;dsimp[ja,YB,UL,List.isEmpty_eq_false_iff]at e;refine⟨b,ds,xs,rfl,rfl,c,a,e.1,e.2,?_⟩;show (match H b with|some (.tup xs)=>xs.map (Nd H)|_=>[])=ds.map rwK;rw[c];exact Fz e.2 a
 |_=>simp[ja]at e
inductive TV(K:ZX)(ρ:.I)(H:Hp):List D->List S1->Prop where
 |nil:TV K ρ H [] []
 |cons {d:D} {v:V} {u:S1} {l:List D} {us:List S1}:RD K ρ H d v->cf v u->TV K ρ H l us->TV K ρ H (d::l) (u::us)
theorem TV.mk:∀{l:List D} {vs:List V} {a:List S1},RDs K ρ H l vs->aY vs a->TV K ρ H l a
 |[],vs,a,h,r=>by dsimp[RDs]at h;subst h;cases r;exact .nil
 |d::l,vs,a,h,r=>by
  dsimp[RDs]at h;obtain⟨v,q,rfl,h1,h2⟩:=h;cases r with
  |cons c b=>exact .cons h1 c (TV.mk h2 b)
def TV.back(h:TV K ρ H l c):∃vs,RDs K ρ H l vs/\aY vs c:=by
 induction h with
 |nil=>exact⟨[],RDs.nil,.nil⟩
 |cons e d _ f =>
  obtain⟨vs,a,b⟩:=f;exact⟨_::vs,RDs.cons e a,.cons d b⟩
def TV.mem(h:TV K ρ H l e)(c:u∈e):∃d v,d∈l/\RD K ρ H d v/\cf v u:=by
 induction h with
 |nil=>cases c
 |cons g f _ i =>
  rcases y4.mp c with rfl|c
  ·exact⟨_,_,.head _,g,f⟩
  ·obtain⟨d,v,a,b⟩:=i c
   exact⟨d,v,.tail _ a,b⟩
def TV.perm(q:i.Perm g):∀{l:List D},TV K ρ H l g->∃m,m.Perm l/\TV K ρ H m i:=by
 induction q with
 |nil=>intro l h;exact⟨l,.refl _,h⟩
 |cons _ _ n =>
  intro l h;cases h with
  |cons f e t =>
   obtain⟨m,a,b⟩:=n t;exact⟨_::m,a.cons _,.cons f e b⟩
 |swap =>
  intro l h;cases h with
  |cons f e t =>
   cases t with
   |cons j r t=>exact⟨_,.swap _ _ _,.cons j r (.cons f e t)⟩
 |trans _ _ o k =>
  intro l h;obtain⟨m,a,b⟩:=k h;obtain⟨s,c,d⟩:=o b;exact⟨s,c.trans a,d⟩
def TV.keys(h:TV K ρ H l a)(e:.tr):a.map (GV H)=l.map ve:=by
 induction h with
 |nil=>rfl
 |cons d c _ f =>
  dsimp[XW,YB]at e;obtain⟨b,i,g,_,_,_,_,_,_,z⟩:=zK e.1 d c;rw[yP,yP,z,f e.2]
theorem Se:∀{l m:List D} {r q:.b},cC l=some r->cC m=some q->∃b,gY l m=some b/\(b&&decide (l.length=m.length))=decide (r=q)
 |[],m,r,q,h,g=>by
  cases h;refine⟨true,by simp[gY],?_⟩;cases m with
  |nil=>cases g;rfl
  |cons d m =>
   cases d<;>dsimp[cC]at g<;>try (cases g;done)
   obtain⟨x,_,rfl⟩:=XA.mp g;simp
 |d::l,m,r,q,h,g=>by
  cases d<;>dsimp[cC]at h<;>try (cases h;done)
  obtain⟨x,c,rfl⟩:=XA.mp h;cases m with
  |nil=>cases g;exact⟨true,by simp[gY],by simp⟩
  |cons d m =>
   cases d<;>dsimp[cC]at g<;>try (cases g;done)
   obtain⟨y,a,rfl⟩:=XA.mp g;obtain⟨b,f,e⟩:=Se c a;refine⟨_&&b,by dsimp[gY,peq,f];rfl,?_⟩;rw[Bool.and_assoc];dsimp[YT,Nat.add_right_cancel_iff,e,WR,Bool.decide_and]
def Qu(hd:elT k d=true)(he:elT k e=true):peq d e=some (decide (rwK d=rwK e))/\dep d<=1:=by
 cases d with
 |int i =>
  cases e with
  |int j=>exact⟨by simp[peq,rwK],by simp[dep]⟩
  |tup l=>simp[elT]at hd he;simp[hd]at he
  |_=>simp[elT]at he
 |tup l =>
  cases e with
  |int j=>simp[elT]at hd he;simp[he]at hd
  |tup m =>
   dsimp[elT,YB]at hd he;obtain⟨r,a⟩:=WM.mp hd.2;obtain⟨q,c⟩:=WM.mp he.2;obtain⟨b,g,f⟩:=Se a c;refine⟨by dsimp[peq,g,Y8,rwK,a,c,X2,f],?_⟩;have:∀{l:List D} {r:.b},cC l=some r->jT l=0:=by
    intro l
    induction l with
    |nil=>intro _ _;rfl
    |cons d l o =>
     intro r h;cases d<;>dsimp[cC]at h<;>try (cases h;done)
     obtain⟨x,n,rfl⟩:=XA.mp h;simp[jT,dep,o n]
   simp[dep,this a]
  |_=>simp[elT]at he
 |_=>simp[elT]at hd
theorem FA(hok:HOk prog w H s.heap)(W:.ls):∀{ds f:List D} {xs ys:List V} {o h:List S1} (i:Nat),RDs K ρ H ds xs->RDs K ρ H f ys->aY xs o->aY ys h->ds.all (elT k)=true->f.all (elT k)=true->Q .xu s->KatLex prog w A k (decide (o.length<h.length)) Q (o.zip h) i s
 |[],f,xs,ys,o,h,i,h1,h2,y,x,j,g,q=>by
  dsimp[RDs]at h1;subst h1;cases y;cases f with
  |nil=>dsimp[RDs]at h2;subst h2;cases x;exact q
  |cons e f =>
   dsimp[RDs]at h2;obtain⟨v,r,rfl,_,_⟩:=h2;cases x with
   |cons _ _ =>
    have n:Q true s:=q;exact n
 |d::ds,f,xs,ys,o,h,i,h1,h2,y,x,j,g,q=>by
  dsimp[RDs]at h1;obtain⟨v,r,rfl,G,Z⟩:=h1;cases y with
  |cons M p2 =>
   cases f with
   |nil =>
    dsimp[RDs]at h2;subst h2;cases x;have n:Q false s:=q;exact n
   |cons e f =>
    dsimp[RDs]at h2;obtain⟨v',r',rfl,E,b2⟩:=h2;cases x with
    |cons O s2 =>
     rename_i u o w' h
     dsimp[XW,YB]at j g;obtain⟨U,dp⟩:=Qu j.1 g.1;refine kat_cons (IT hok G E M O U .a prog w _ _ ?_)
     by_cases c:rwK d=rwK e
     ·rw[ZZ c]
      refine kat_yes ?_;have n:Q .xu s:=by
       have q2:=q;dsimp[yP,ltK,c,WB]at q2;exact q2
      have:=FA hok W (i+1) Z b2 p2 s2 j.2 g.2 n;have z:decide ((u::o).length<(w'::h).length)=decide (o.length<h.length):=by simp
      rw[z];exact this
     ·rw[Z6 c]
      refine kat_no ?_;have n:Q (lexLt (rwK d)<|rwK e) s:=by
       have q2:=q;dsimp[yP,ltK,c,WN]at q2;exact q2
      cases d with
      |int a =>
       have N:k=true:=j.1;subst N;cases e with
       |int b =>
        dsimp[RD]at G E;subst G E;obtain⟨t,rfl⟩:=M;obtain⟨t',rfl⟩:=O;have ne:a≠b:=λz=>c (by rw[z]);have q3:Q (decide (a<b)) s:=by simpa[rwK,lexLt,ne] using n
        cases i with
        |zero=>exact oneLt_int q3
        |succ i =>
         have:(true&&(i+1 == 0))=false:=by simp
         rw[this];exact kat_one _ _ (lt_int (by first|exact⟨_,rfl,q3⟩|exact q3))
       |tup m=>have:=g.1;simp[elT]at this
       |_=>have:=g.1;simp[elT]at this
      |tup l =>
       cases e with
       |tup m =>
        have I:=j.1;have P:=g.1;dsimp[elT,YB,UL]at I P;have N:k=false:=I.1;subst N;obtain⟨y,F⟩:=WM.mp I.2;obtain⟨x,B⟩:=WM.mp P.2;dsimp[RD]at G E;obtain⟨p,vs,rfl,hp,T⟩:=G;obtain⟨p',a3,rfl,J,L⟩:=E;cases M;cases O;obtain⟨z1,a0,S,o1⟩:=hok p _ hp;obtain⟨z2,R,C,Y⟩:=hok p' _ J;rw[ik T F]at S;rw[ik L B]at C;have q3:Q (HT.lexLt y x) s:=by
         rw[vK];simpa[rwK,F,B] using n
        rw[Bool.false_and];refine kat_one _ _ (HT.lt_tupInts o1 Y (by simpa using iG S) (by simpa using iG C) .a ?_);exact q3
       |int b=>have:=j.1;have:=g.1;simp_all [elT]
       |_=>have:=g.1;simp[elT]at this
      |_=>have:=j.1;simp[elT]at this
def Qv(hok:.cw)(f:∀b o u,H b=some u->h.get? b=some o->h'.get? b=some o)(t:TV K ρ H l x)(e:.tr):
  ∃g,KatTups h' x g/\g.length=x.length/\∀v∈g,Looks .eY h' (typeOf v) (.type (if k then "int" else "tuple")):=by
 induction t with
 |nil=>exact⟨[],.nil,rfl,λv c=>by cases c⟩
 |cons U F _ ih =>
  dsimp[XW,YB]at e;obtain⟨g,a1,Y,a3⟩:=ih e.2;obtain⟨b,J,xs,rfl,rfl,G,R,ne,L,_⟩:=zK e.1 U F;obtain⟨z,I,V,o,ho,S,n,Z⟩:=hok b _ G;cases J with
  |nil=>exact absurd rfl ne
  |cons d J =>
   dsimp[RDs]at R;obtain⟨v,r,rfl,j,y2⟩:=R;cases V with
   |cons M qr =>
    rename_i u x
    refine⟨u::g,KatTups.cons (f b o _ G ho) S Z .e a1,by simp[Y],λv' c=>?_⟩;rcases y4.mp c with rfl|c
    ·dsimp[XW,YB]at L
     have a:=L.1;cases d with
     |int i =>
      dsimp[RD]at j;subst j;obtain⟨t,rfl⟩:=M;have f:k=true:=a;subst f;exact Looks.of_pure rfl
     |tup m =>
      dsimp[RD]at j;obtain⟨p,vs,rfl,O,c⟩:=j;cases M;dsimp[elT,YB,UL]at a;have f:k=false:=a.1;subst f;obtain⟨z,N,F,C,B,y,n1,a0⟩:=hok p _ O;intro A Q E s W q;exact wpAny_typeOf (T := "tuple") ⟨C,W p C (by first|exact f p C _ O B|assumption),y⟩ q
     |_=>simp[elT]at a
    ·exact a3 v' c
/---/def Qw(K:ZX):List V->Hp->VK->Prop:=λxs H Q=>∃(a:Addr) (vs:List V) (ρ:.I) (l l':List D) (k:Bool),xs=.di/\SqL K H a vs/\RDs K ρ H l vs/\l.all (ja k)=true/\l.length<=1000/\w5 l l'/\∀q vs',H q=none->RDs K ρ H l' vs'->Q .i6 (.az q<|.lst vs')
def DU(hu:.lo):jb X .ih (Qw X.K):=by
 intro pins s σ H xs us Q I r h;obtain⟨a,P,ρ,l,l',k,rfl,sq,rv,kd,c2,t,q⟩:=h;obtain⟨u,rfl,ru⟩:=aY.one r;cases (show u=Value.ref a from ru);obtain⟨c,D,pl,hz⟩:=I.list sq;have hl:s.heap.IsList a c.toArray:=pl.isList;have b9:c.length=P.length:=D.length.symm;have c0:l.length=P.length:=rv.length;have T:=TV.mk rv D
 by_cases h2:c.length<2
 ·refine zr hl h2 λh' n hk ho=>?_
  have hs:l=l':=by
   have l2:l.length<2:=by lia
   have L:=t.1;rcases l with _|⟨d,_|⟨e,l⟩⟩
   ·exact(List.perm_nil.mp L).symm
   ·exact(List.perm_singleton.mp L).symm
   ·simp at l2;lia
  exact⟨.ref .b1,_,I.laid (t':=s.toks) (o:=.lst P) hk (xa _) ⟨hz,c,n,D,ho⟩,rfl,q _ P (I.hok.fresh<|xa _) (by rw[<-hs];exact rv)⟩
 ·obtain⟨o,ho,hc,n,hd⟩:=hl
  refine VU kind_sorted plain_sorted entry_sorted .nd ?_;unfold Builtin.«sorted»;refine z0 (m:=checkCount "sorted" 1 1 _) .aZ;refine z0 (wpAny_collect_seq a .ca ho hc hd (λf Z=>?_) .rI);have et:c.toArray.toList=c:=by simp
  rw[et];refine z0 .o3;have v:(f.push .j7).get? f.objs.size=some .j7:=ZJ _ rfl;have keep:∀b u,f.get? b=some u->(f.push .j7).get? b=some u:=λb u z=>.R z;show wpAny _ _ (holding [Value.ref f.objs.size] _ >>= λ_=>_) _ _ { s with heap:=f.push .j7 };generalize hG:f.push .j7=G at v keep;have c4:G.objs.size=f.objs.size+1:=by rw[<-hG,WU]
  refine z0 (WE (WJ wd (s:=.mR) ⟨_,v,rfl⟩ U5 (vM (kd:=tuples' .uG) (S:=λx=>x.1∈c) (r:=λx y=>ltK (GV H x.1) (GV H y.1)) v .a (λB kp=>?_) (λx hx=>(vL hx).2) .a λout op os=>⟨_,rfl,?_⟩) .mZ))
  ·have E:∀b o u,H b=some u->s.heap.get? b=some o->B.get? b=some o:=λb o u hb e=>by
    have j:=Z b o e;exact kp b o (ZN<|ZI j) (keep b o j)
   refine⟨λQ' hq=>?_,?_⟩
   ·obtain⟨fs,t1,t2,t3⟩:=Qv (k:=k) I.hok (h':=B) E T kd
    exact kat_kind (s:=.kq) t1 .a t3 .e hq
   ·refine⟨λ{x y st Q'} Sx Sy hk hq=>?_,λ{x y} h=>xF h,λ{x y z} f h2=>LX f h2⟩
    have O:∀d∈l,ja k d=true:=W8.mp kd;obtain⟨d1,v1,m1,a9,b3⟩:=T.mem Sx;obtain⟨d2,v2,m2,a7,U⟩:=T.mem Sy;obtain⟨b1,j,x1,rfl,u1,Y,W,_,b5,a4⟩:=zK (O _ m1) a9 b3;obtain⟨b2,e2,x2,rfl,u2,b4,a2,_,b8,a0⟩:=zK (O _ m2) a7 U;have g:.pd H B:=(I.kept (t':=s.toks) (λb u e=>by
     have j:=Z b u e;exact kp b u (ZN<|ZI j) (keep b u j):∀b u,s.heap.get? b=some u->B.get? b=some u)).hok
    obtain⟨z1,i1,r1,o1,F,c3,V,b6⟩:=g b1 _ Y;obtain⟨z2,i2,r2,o2,a8,c1,n2,a3⟩:=g b2 _ b4;rw[lt'_eq];refine v3 (wo ?_);rw[hk];refine v3 (wpS_lift (vb ?_));have kk:.uG=k:=by cases k<;>decide
    rw[kk];have b7:∀(R:Bool->Q5->Prop) E2,R (ltK (GV H x.1)<|GV H y.1) .kq->wpAny .ag X.A.in1.in1 (keyLt' (tuples' k) x.1 y.1) R E2 .kq:=λR E2 M=>by
     rw[a4,a0]at M;rw[u1,u2];refine kat_lt (s:=.kq) F b6 a8 a3 ?_;have:=FA (prog:=X.prog) (w:=X.w) (A:=X.A.in1.in1) (s:=.kq) (k:=k) (Q:=R) g (by show X.A.units+1+1+1<cLine;lia) 0 W a2 r1 r2 b5 b8 M;simpa using this
    exact b7 _ _ ⟨rfl,Z3 hq⟩
  ·refine wX ⟨_,rfl,?_⟩
   have i:f.objs.size<G.objs.size:=by lia
   obtain⟨j,F⟩:∃j,(.yx).get? f.objs.size=some .im:=⟨_,XU v .hj⟩;have a6:(((.yx).push (seqObj "tuple" c.toArray 0)).push .c7).get? f.objs.size=some .im:=by
    rw[.aK (by rw[WU,YM];exact ZN (Z2 i)),.aK (by rw[YM];exact ZN i)];exact F
   have fin:=XU a6 (λ_=>out.toArray);have I1:Inv X pins σ H { s with heap:=f }:=I.kept (t':=s.toks) Z;have k2:∀b u,f.get? b=some u->(sortedHeap G f.objs.size c out.toArray).get? b=some u:=λb u z=>by
    have N:b<f.objs.size:=ZI z;have V:b≠f.objs.size:=ZN N;have n2:b<G.objs.size:=YC N i;unfold sortedHeap;rw[.bX V,.aK (by rw[WU,YM];exact ZN (Z2 n2)),.aK (by rw[YM];exact ZN n2),.bX V];exact keep b u z
   obtain⟨m,L,tm⟩:=T.perm op;have km:m.all (ja k)=true:=by rw[L.all_eq];exact kd
   have em:m=l':=by
    refine E3 ⟨L,?_⟩ t;have nd:(l'.map ve).Nodup:=YJ.mpr (t.2.imp λ{a b} h z=>by rw[z,pz]at h;cases h);have a1:(m.map ve).Nodup:=((L.trans t.1.symm).map ve).nodup_iff.mpr nd;have b0:(m.map ve).Pairwise λa b=>ltK b a=false:=by
     rw[<-tm.keys km,YJ];exact os
    exact YJ.mp ((b0.and a1).imp λ⟨z1,z2⟩=>yW (WQ z2) z1)
   subst em;obtain⟨J,a5,C⟩:=tm.back;have vl:J.length=c.length:=by rw[C.length,op.length_eq]
   exact⟨.ref f.objs.size,_,I1.laid (t':=s.toks) (o:=.lst J) k2 .r ⟨by rw[vl,YQ];lia,out,_,C,by unfold sortedHeap;exact fin⟩,rfl,q _ J (I1.hok.fresh .r) a5⟩
def qv(z:.lo)(A:.oM)(hm:.oC)(ha:.l a g)(r:autoParam (.bq X.env=(false,.bL X.env)::starEach [] X.env) Q3Q._auto_1):MF X (.es .lB) (iE g):=by
 refine PE.imp (jA (DU z) A hm .bd (.fm r) (he:=r)) λσ H Q ⟨ρ,σd,s,t,b⟩=>⟨ρ,σd,s,t,?_⟩;unfold iE at b;cases e:g σd s with
 |exc x I=>rw[e]at b;exact b
 |bad=>rw[e]at b;exact b
 |ok d n =>
  rw[e]at b;dsimp[aH]at b;intro v J h E f rv;cases c:ev n d with
  |none=>rw[c]at b;exact b.elim
  |some l =>
   rw[c]at b;simp only at b;cases i:jX l with
   |none=>rw[i]at b;exact b.elim
   |some G =>
    rw[i]at b;obtain⟨⟨k,C⟩,B,m⟩:=yX i;obtain⟨q,F,rfl,y,j⟩:=oz f.hp rv c;exact⟨q,F,h,l,G,k,rfl,y,j,C,B,m,λw D u o=>b.mk E f o w u⟩
end
end Fm
namespace Fm
variable{d:D}{h h':Hd}
def GW(e:h'.length<=h.length):letGo h (.aG h')=.aG h':=by
 dsimp[letGo];split
 ·rw[XB e]
 ·rfl
@[simp] theorem aZ{h:Hd}{d:D}:letGo h (.ok d h)=.ok d h:=GW .r
def jr(e:pure? d=false):letGo h (.aG h')=.aG h':=by
 simp[letGo,e]
@[simp] theorem bW{h h':Hd}:letGo h (.ok .eP h')=.ok .eP h':=jr rfl
def cw(e:pure? d=true):letGo h (.aG .N)=.aG h:=by
 have:EX h .N:=λn c a b=>.inl (by rwa[ZC a]at b);simp[letGo,e,this]
def GX(e:pure? d=true)(b:h'.length=h.length)(a:EX h (h'++g)):letGo h (.aG<|h'++g)=.aG h':=by
 simp[letGo,e,a,<-b]
structure Web where
 ties:List (List .aT)
 bars:List Int
 stays:List .hX
noncomputable def aP:Option Int->D
 |none=>.non
 |some i=>.int i
/---/def gJ(p:.cT):D:=.tup .eD
/---/def nG(r:.as):D:=.tup .eQ
/---/def ao(l:.b):D:=.tup .br
/---/def Web.enc(w:Web):D:=.tup [.tup .si,.tup .rQ,.tup .aq]
structure Web.Ok(w:Web)(n:Nat):Prop where
 t:w.ties.length=n
 b:w.bars.length=n
 s:w.stays.length=n
 lt:∀r∈w.ties,∀p∈r,p.1<n
 sz:n<=1000
structure aX(w:Web)(n:Nat)(s:.b):Prop where
 len:s.length=n
 op:∀x∈s,x=0\/x=1
 st:∀(i:Nat) (x:Int),w.stays[i]?=some .b7->s[i]?=some x
variable{l:List D}
def du{i:Nat}(e:l[i]?=some d):atI l (i:Int)=some d:=by
 have:=(.bs).1;simp[atI,ixN,this];simpa[ZE this] using e
@[simp] theorem T8(x:D)(l:List D):atI (x::l) 0=some x:=du rfl
@[simp] theorem T9(x y:D)(l:List D):atI (x::y::l) 1=some y:=du rfl
@[simp] theorem Ua(x y z:D)(l:List D):atI (x::y::z::l) 2=some z:=du rfl
theorem br{h:Hd}(I:Sd->Prop)(p:D->Bool)(f:D->D)(a:.lx):
  ∀{xs:List D} {σ:Sd},(∀x∈xs,∀σ,I σ->∃σ',tg x σ=some σ'/\I σ'/\jW cs σ' h=.ok (p x) h/\.qf)->I σ->
   bU g all tg cs e xs σ h=.ok .ra h
 |[],_,_,_=>by simp[bU,a]
 |x::xs,σ,st,i=>by
  obtain⟨σ',h1,h2,c,j⟩:=st x .e σ i;have d:=br I p f a (xs:=xs) (λy k=>st y (by simp[k])) h2;cases b:p x with
  |true=>simp[bU,a,h1,c,b,j b,d]
  |false=>simp[bU,a,h1,c,b,d]
theorem yf{rest:List D}(P:.lr)(l:.oi):
  ∀{xs:List D} {k:Nat} {σ:Sd} {h:Hd},(∀(i:Nat) x σ h,xs[i]?=some x->P (k+i) σ h->∃σ',tg x σ=some σ'/\∃a c,b σ' h=.nx a c/\P (k+i+1) a c)->P k σ h->
   ∃σ' h',eM g all tg b (xs++rest) σ h=eM g all tg b rest σ' h'/\P .kQ σ' h'
 |[],k,σ,h,_,p=>⟨σ,h,rfl,by simpa using p⟩
 |x::xs,k,σ,h,st,p=>by
  obtain⟨σ',h1,t,h2,s,n⟩:=st 0 x σ h .e .rF;have d:∀(i:Nat) y σ h,xs[i]?=some y->P (k+1+i) σ h->∃σ',tg y σ=some σ'/\∃a c,b σ' h=.nx a c/\P (k+1+i+1) a c:=λi y σ h e q=>by
   have j:k+1+i=k+(i+1):=by lia
   rw[j]at q⊢;exact .pa .dB q
  obtain⟨f,m,o,r⟩:=yf P l d (by simpa using n);refine⟨f,m,?_,?_⟩
  ·rw[<-o,UV,eM,z4 (l _ _ _ p),h1]
   dsimp[s]
  ·have j:k+(.cR).length=k+1+xs.length:=by simp;lia
   rw[j];exact r
variable{σ:Sd}{tg:GF}
def cI(P:.lr)(d:.oi)(st:∀(i:Nat) x σ h,xs[i]?=some x->P (k+i) σ h->∃σ',tg x σ=some σ'/\∃a c,b σ' h=.nx a c/\P (k+i+1) a c)(p:P k σ h):
   ∃σ' h',eM g all tg b xs σ h=.nx σ' h'/\P .kQ σ' h':=by
 obtain⟨σ',h',q,z⟩:=yf P d st p;rw[XD]at q;exact⟨σ',h',q.trans (by unfold eM;exact z4 (d _ _ _ z)),z⟩
theorem lV{tg:GF}(P:.lr)(V:Nat->D->Prop)(m:.oi):
  ∀{xs:List D} {k:Nat} {σ:Sd} {h:Hd},(∀(i:Nat) x σ h,xs[i]?=some x->P (k+i) σ h->∃σ',tg x σ=some σ'/\∃d a,e σ' h=.ok d a/\V (k+i) d/\P (k+i+1) σ' a)->P k σ h->
   ∃ds h',bU g all tg [] e xs σ h=.ok ds h'/\ds.length=xs.length/\(∀(i:Nat) d,ds[i]?=some d->V (k+i) d)/\∃σ',P .kQ σ' h'
 |[],k,σ,h,_,p=>⟨[],h,by simp[bU,m _ _ _ p],rfl,by simp,σ,by simpa using p⟩
 |x::xs,k,σ,h,st,p=>by
  obtain⟨σ',h1,d,h2,v,n,r⟩:=st 0 x σ h .e .rF;have b:∀(i:Nat) y σ h,xs[i]?=some y->P (k+1+i) σ h->∃σ',tg y σ=some σ'/\∃d a,e σ' h=.ok d a/\V (k+1+i) d/\P (k+1+i+1) σ' a:=λi y σ h e q=>by
   have l:k+1+i=k+(i+1):=by lia
   rw[l]at q⊢;exact .pa .dB q
  obtain⟨ds,o,s,w,c,f,u⟩:=lV P V m b (by simpa using r);refine⟨d::ds,o,?_,by simp[w],λi t j=>?_,f,?_⟩
  ·simp[bU,m _ _ _ p,h1,jW,v,s]
  ·cases i with
   |zero=>simp at j;subst j;simpa using n
   |succ i =>
    have:=c i t .mX;rwa[show k+1+i=k+(i+1) by lia]at this
  ·have l:k+(.cR).length=k+1+xs.length:=by simp;lia
   rw[l];exact u
variable{n:Nat}
def vN{α:Type}{ds:List α}{f:Nat->α}(b:ds.length=n)(h:∀(i:Nat) d,ds[i]?=some d->d=f i):ds=(.k).map f:=by
 apply YO;intro i
 by_cases a:i<n
 ·have:ds[i]?=some (ds[i]' .a):=by simp[b,a]
  rw[this,h i _ this];simp[a]
 ·simp[a,b]
theorem j6:∀{n:Nat} {σ:Sd} {h:Hd} {r:Out},gy t b n σ h=r->r ≠ .bad->∀{m:Nat},n<=m->gy t b m σ h=r
 |0,σ,h,r,e,f,m,_=>by dsimp[gy]at e;exact absurd e.symm f
 |n+1,σ,h,r,e,f,m,hm=>by
  cases m with
  |zero=>lia
  |succ m =>
   dsimp[gy]at e⊢;cases c:t σ h with
   |bad=>rw[c]at e;exact e
   |exc x h1=>rw[c]at e;exact e
   |ok g h1 =>
    rw[c]at e;cases g with
    |false=>exact e
    |true =>
     simp only at e⊢;cases a:b σ h1 with
     |nx σ2 h2=>rw[a]at e;exact j6 e f .a
     |ct σ2 h2=>rw[a]at e;exact j6 e f .a
     |bk σ2 h2=>rw[a]at e;exact e
     |rt d h2=>rw[a]at e;exact e
     |exc x σ2 h2=>rw[a]at e;exact e
     |bad=>rw[a]at e;exact e
def GY(e:gy t b n σ h=r)(c:r ≠ .bad):uZ t b σ h=r:=by
 have a:∃n,gy t b n σ h ≠ .bad:=⟨n,by rw[e];exact c⟩;have d:LV t b σ h=Classical.choose a:=by simp[LV,a]
 have f:=Classical.choose_spec a;unfold uZ;rw[d]
 by_cases hle:n<=Classical.choose a
 ·exact j6 e c hle
 ·have:=j6 rfl f (m:=n) .a
  rw[<-this,e]
variable{ds:List D}{h1:Hd}
def ar(a:r σ h=.ok ds h1)(b:F ds h1=.aG h'):af F r σ h=.aG h':=by
 show Res.bind _ _=_;rw[a];exact b
variable{h2:Hd}
def am(p:a σ h=.aG h1)(q:r σ h1=.ok ds h2):ab a r σ h=.ok (d::ds) h2:=by
 show Res.bind _ _=_;rw[p,aH,q];rfl
def av(p:a σ h=.ok x h1)(q:b σ h1=.ok y h2)(r:g x y h2=.ok z c):aq g a b σ h=.ok z c:=by
 show Res.bind _ _=_;rw[p,aH,q];exact r
def hV{xs:List D}(p:.tt)(q:xs.length<=SZ:=by exact Y3 rfl):d9 r σ h=.ok .cn h':=by
 show Res.bind _ _=_;rw[p];exact z4 q
def bS{xs:List D}(p:.tt)(q:xs.length<=SZ:=by exact Y3 rfl):aI r σ h=.ok (.ref h'.length) (h'++[.lst xs]):=by
 show Res.bind _ _=_;rw[p];exact z4 q
def JU(p:.jk)(q:b σ h1=.ok .z h2)(r:atI l i=some d):fIx a b σ h=.aG h2:=by
 show Res.bind _ _=_;rw[p,aH,q];dsimp[aH,r]
def bn(p:a σ h=.ok x h1)(q:b σ h1=.ok .z h2)(s:jV h2 x=some l)(r:atI l i=some d):fAt a b σ h=.aG h2:=by
 exact av p q (by dsimp[oAt,s,r])
def bc(p:h[n]?=some .b3):jV h .eP=some l:=by dsimp[jV,p]
variable{e:EF}
def aD(p:e σ h=.aG h'):aG (gN i) e σ h=.nx (σ.set i<|some d) h':=by
 show outE _ _ _=_;rw[p];rfl
def aL(p:e σ h=.aG h'):aS e σ h=.rt d h':=by
 show outE _ _ _=_;rw[p];rfl
def fB(p:e σ h=.aG h'):gx e σ h=.nx σ h':=by
 show outE _ _ _=_;rw[p];rfl
def nc(p:.oB):sIf t a b σ h=a σ h1:=by
 unfold sIf;rw[p];rfl
def dy(p:.ox):sIf t a b σ h=b σ h1:=by
 unfold sIf;rw[p];rfl
def bm(p:a σ h=.ok .dJ h'):tE a σ h=.ok b h':=by
 show asB _=_;rw[p];rfl
def ee(p:t σ h=.ok b h'):gM t σ h=.ok (!b) h':=by
 show Res.bind _ _=_;rw[p];rfl
def nH(p:.oB)(q:u σ h1=.ok b h'):kM t u σ h=.ok b h':=by
 show Res.bind _ _=_;rw[p];exact q
def FB(p:.ox):kM t u σ h=.ok false h1:=by
 show Res.bind _ _=_;rw[p];rfl
def jd(p:.ox)(q:u σ h1=.ok b h'):tOr t u σ h=.ok b h':=by
 show Res.bind _ _=_;rw[p];exact q
def zL(p:.oB):tOr t u σ h=.ok true h1:=by
 show Res.bind _ _=_;rw[p];rfl
variable{j:Int}
def BR:oEq .z .bS h=.ok (.bl<|decide (i=j)) h:=rfl
def dI(p:.jk):cT a σ h=.ok (.int l.length) h1:=by
 show Res.bind _ _=_;rw[p];rfl
def cm(p:a σ h=.ok x h1)(s:jV h1 x=some l):lOf a σ h=.ok l h1:=by
 show Res.bind _ _=_;rw[p];dsimp[aH,s]
def r6(p:e σ h=.aG h1)(q:.tm)(r:i σ h2=.ok .bS a)(s:a[n]?=some .b3)(t:ixN l.length j=some k):nn x i e σ h=.nx σ (a.set n<|.lst<|l.set k d):=by
 dsimp[nn,p,q,r,outE,s,t]
def lW(p:.tp)(q:.tf)(r:e σ h1=.aG h2)(s:.oE)(t:l.length<SZ):mY x e σ h=.ok .non (h2.set n<|.lst<|l++[d]):=by
 dsimp[mY,p,aH,q,r,OO,s,z4 t]
def eC(p:0<j):de .z .bS h=.ok (.int<|i%j) h:=by
 dsimp[de,oIc,ZZ p,WB]
def kC(p:0<j)(q:j<2^250):jy .z .bS h=.ok (.int<|i/j) h:=by
 dsimp[jy,oIc,ZZ p,ZZ q,Bool.and_self,WB]
def pJ(e:i=j):oEq .z .bS h=.a2 h:=by rw[BR,ZZ e]
def pK(e:¬i=j):oEq .z .bS h=.ok .iH h:=by rw[BR,Z6 e]
def Qx(e:i<j):oLt .z .bS h=.a2 h:=by show Res.ok (D.bl<|decide (i<j)) h=_;rw[ZZ e]
def JV(p:(sml i||sml j)=true):cL .cX (.int j) h=.ok (.int<|i*j) h:=by
 exact z4 p
def j7(p:sml i=true):cL .z .bS h=.ok (.int<|i*j) h:=JV (by rw[p];rfl)
def Nf(p:sml j=true):cL .z .bS h=.ok (.int<|i*j) h:=JV (by rw[p,wq])
def nI(p:t σ h=.ok b h'):fT t σ h=.ok .dJ h':=by
 show Res.bind _ _=_;rw[p];rfl
variable{A:Nat}
def uH(a:A=h0.length)(p:r σ h=.ok xs (h0++g))(q:xs.length<=SZ):aI r σ h=.ok (.ref<|A+g.length) (h0++(g++[.lst xs])):=by
 rw[bS p q,a,ZB,ZU]
def iQ{h0 g:Hd}(a:A=h0.length)(k:Nat)(c:cv):(h0++g).set (A+k) c=h0++g.set k c:=by
 subst a;rw[List.set_append_right _ _ .a];congr 2;lia
def dQ{h0 g:Hd}(a:A=h0.length)(k:Nat):(h0++g)[A+k]?=g[k]? := by
 subst a;rw[ZD .a,UD]
def aC{j:Nat}(g:Hd)(e:h0[j]?=some c):(h0++g)[j]?=some c:=(ZC (.bs).1).trans e
def dJ(p:a σ h=.d8 h1)(hn:n<=1000):ce a σ h=.ok ((.k).map (λk:Nat=>D.int k),none) h1:=by
 show Res.bind _ _=_;rw[p];exact z4 ⟨wb .c (VT n),wb .nW .c⟩
def eW(p:it σ h=.ok (l,g) h1)(q:eM g l tg b l σ h1=o):fz it tg b σ h=o:=by
 unfold fz;rw[p];exact q
def cM(p:it σ h=.ok (l,g) h1)(q:bU g l tg cs e l .kJ h1=.ok ds h2):bi nl caps it tg cs e σ h=.ok ds h2:=by
 show Res.bind _ _=_;rw[p];exact q
def Qy{n:Int}(p:.jk)(q:b σ h1=.d8 h2)(r:0<=n/\n<=1000/\l.length*n.toNat<=1000):va a b σ h=.ok (.yu).flatten h2:=by
 dsimp[va,p,aH,q,z4 r]
def Qz{l:.cU}(p:h[n]?=some .hP):Ii (.int k) .eP h=.ok (.bl (u7 l k).isSome) h:=by dsimp[Ii,p]
def FC{l:.cU}(p:e σ h=.aG h1)(q:.tm)(r:i σ h2=.ok .bS a)(s:a[n]?=some .hP)(t:l.length<SZ):AY x i e σ h=.nx σ (a.set n<|.dct<|Dm l j d):=by
 dsimp[AY,p,q,r,outE,s,z4 t]
def zM(p:.ln)(q:h1[n]?=some .b3):kN .list a σ h=.a2 h1:=by
 dsimp[kN,p,aH,Gj,q];rfl
def cW(p:.ln)(q:h1[n]?=some .b3):bV a σ h=.ok (l,some n) h1:=by
 dsimp[bV,p,aH,q]
def QA(p:a σ h=.ok .z h1)(q:b σ h1=.ok .bS h2):vc a b σ h=.ok .u9 h2:=by
 dsimp[vc,p,aH,q]
variable{b:.b}
def JW(p:.jk)(q:cC l=some b):uY a σ h=.ok (.int b.sum) h1:=by
 dsimp[uY,p,aH,q]
def gS(p:.jk):dR a σ h=.ok .hn h1:=by
 show Res.bind _ _=_;rw[p];rfl
def JX(e:j<i):oGt .z .bS h=.a2 h:=by show Res.ok .As h=_;rw[ZZ e]
def vO(e:¬j<i):oGt .z .bS h=.ok .iH h:=by show Res.ok .As h=_;rw[Z6 e]
def ca(a:.ge)(c:cv):(h++[c])[A]?=some c:=by rw[a];exact ZG
def oE(a:.ge)(c d:cv):(h++[c]).set A d=h++[d]:=by
 have:=iQ (g:=[c]) a 0 d;rwa[Nat.add_zero]at this
def gU(a:A=h'.length)(p:.tt)(q:xs.length<=SZ):aI r σ h=.ok .T (h'++[.lst xs]):=by rw[a];exact bS p q
def FD{l:.b}(h:i<l.length):atI .cN (i:Int)=some (.int .kY):=du (by rw[ZQ,ZE h,ZF,ZE h];rfl)
def sf{a b:EF}(p:.oB):fIf t a b σ h=a σ h1:=by
 show Res.bind _ _=_;rw[p];rfl
def vP{a b:EF}(p:.ox):fIf t a b σ h=b σ h1:=by
 show Res.bind _ _=_;rw[p];rfl
def cz{a b:SF}(e:.oD):aA a b σ h=b σ' h':=by dsimp[aA,e]
def vQ{a b:SF}(e:a σ h=.rt d h'):aA a b σ h=.rt d h':=by dsimp[aA,e]
def bJ{b:SF}(c:ds.length=a)(st:.Ay)(e:b σ h=.rt d h'):bC a n b ds h=letGo h (.aG h'):=by
 unfold bC runB;rw[z4 c,st,e]
def JY{b:SF}(c:ds.length=a)(st:.Ay)(e:b σ h=.nx σ' h'):bC a n b ds h=letGo h (.ok .non h'):=by
 unfold bC runB;rw[z4 c,st,e]
def oF{b:Bool}(p:t σ h=.ok b h):jW [t] σ h=.ok b h:=by
 dsimp[jW,p,aH];cases b<;>rfl
def vR(p:.tq):bV a σ h=.ok (l,none) h1:=by
 show Res.bind _ _=_;rw[p];rfl
def zN(p:.jk)(q:i9 l=some bs):AX a σ h=.ok (.bl .nR) h1:=by
 dsimp[AX,p,aH,q]
def zO(a b:Int)(h:Hd):oNe (.int a) (.int b) h=.ok .q9 h:=rfl
def QB{a b:EF}(p:a σ h=.ok .z h1)(q:b σ h1=.ok .bS h2):ue a b σ h=.ok .va h2:=by
 dsimp[ue,p,aH,q]
def bK{a b:EF}{e:D}(p:a σ h=.aG h1)(q:b σ h1=.ok e h2):ab a (ab b aj) σ h=.ok [d,e] h2:=am p (.cD q)
def kX{m:Nat}(h:n<=30)(q:autoParam (30<=m) Q1Q._auto_1):n<=m:=ZM h q
def sx{a b:SF}(p:.oD)(q:b σ' h'=o):aA a b σ h=o:=(cz p).trans q
/---/def eX:Fn:=bC 1 1 (aS<|fT<|kM (tE<|kN .int .f)<|gM<|tE<|kN .bool .f)
/---/def cr:Fn:=bC 3 3 (aS<|fT<|kM (tE .nT) .xB)
/---/def dh:Fn:=bC 1 1 (aS<|af cr<|.c1<|ab .H .fu)
/---/def aQ:Fn:=bC 1 1 (aS<|cT<|lOf .eM)
/---/def bO:Fn:=bC 2 2 (aS<|fAt .eM .d)
/---/def qw:Fn:=bC 2 2 (aS<|fAt .jV .d)
/---/def f7:Fn:=bC 2 2 (aS<|fAt .gT .d)
noncomputable abbrev FE:SF:=(aA (.cB .zJ)
  (aA (.dr<|af f7 .fB)
  (.cB<|kM (tE<|aq oy .D .aB)<|tE<|aq oNe .h .D)))
/---/def zP:Fn:=bC 2 5 (aA (.cB .u6)
  (aA (fz (Ih .d) (gT [2,3]) FE)
  (aS<|fC .gF)))
/---/def cS:Fn:=bC 2 2 (.bV<|gM<|tE<|af zP .aw)
/---/def oG:Fn:=bC 3 3 (aS<|.ba .K<|uY (bi 2 [1] (bV .iO) .ax .qa .d))
def qx(i:Int)(h:Hd):eX [.int i] h=.a2 h:=(.ab rfl).trans aZ
def io(i a b:Int)(h:Hd):cr [.int i,.int a,.int b] h=.ok .wP h:=by
 have c:uX oLe oLe .d .f .g .wx h=.ok .wP h:=by
  show (match D.bl (decide (a<=i)) with | .bl true=>Res.ok (D.bl<|decide (i<=b)) h | .bl false=>.ok (.bl false) h|_=>.bad)=_;cases decide (a<=i)<;>rfl
 have t:kM (tE .nT) .xB .wx h=.ok (decide (a<=i)&&decide (i<=b)) h:=nH (bm<|.W<|qx i h) (bm c);exact (.ab<|aL<|nI t).trans aZ
def jH(i:Int)(h:Hd):dh [.int i] h=.ok (.bl<|decide (0<=i)&&decide (i<=1)) h:=by
 exact (.ab<|aL<|ar .cO<|io i 0 1 h).trans aZ
def j8(w:Web)(h:Hd):aQ .Y h=.ok (.int w.ties.length) h:=by
 have:=(bJ (n:=1) (b:=aS (cT<|lOf .eM)) (ds:=.Y) (h:=h) rfl rfl<|aL<|dI .hd).trans aZ;rwa[ZA]at this
variable{r:.as}{p:Nat}
def iU(w:Web)(h:Hd)(e:w.ties[p]?=some r):bO .sv h=.ok (nG r) h:=by
 have q:atI .si (p:Int)=some (nG r):=du .nD;exact (.p2).trans aZ
def DV(w:Web)(h:Hd){r:Int}(e:w.bars[p]?=some r):qw .sv h=.ok (.int r) h:=by
 have q:atI .rQ (p:Int)=some (.int r):=du .nD;exact (.p2).trans aZ
def nJ(w:Web)(h:Hd){r:.aF}(e:w.stays[p]?=some r):f7 .sv h=.ok (aP r) h:=by
 have q:atI .aq (p:Int)=some (aP r):=du .nD;exact (.p2).trans aZ
variable{s:.b}{w:Web}
def Ng(W:w.Ok n)(F:.S)(h:Hd):zP .eh h=.a2 h:=by
 obtain⟨u,q,o,z,a,b,c,A⟩:=cI (P:=λ_ σ q=>q=h/\∃a b c,σ=[some w.enc,some .G,a,b,c]) (g:=none) (k:=0)
   .b0
   (xs:=((List.range (.g8).length).zip .g8).map λp=>D.tup [.int (p.1:Nat),p.2]) (tg:=gT [2,3]) (σ:=.gC) (h:=h)
   (b:=FE) (by
   rintro i x σ d r ⟨rfl,a,b,c,rfl⟩;have f:i<s.length:=by
    have:=(zS.mp r).1;simpa using this
   have l:x=.tup [.int (i:Nat),.int s[i]]:=by simpa[f,ZE] using r.symm
   subst l;have m:w.stays[i]?=some (w.stays[i]' .xR):=ZE _;generalize w.stays[i]' .xR=v at m;have B:dh [.int s[i]] d=.a2 d:=by
    rw[jH];rcases F.op _ (YR f) with e|e<;>rw[e]<;>rfl
   have j:sIf .zJ .ea bT .vt d=.nx .vt d:=dy (ee<|bm<|.W B);have t:=nJ w d m;cases v with
   |none=>exact⟨_,rfl,_,d,(cz j).trans ((cz<|aD<|.O t).trans (dy<|FB .bc)),rfl,_,_,_,rfl⟩
   |some y =>
    have C:s[i]=y:=by have:=F.st i y m;rw[ZE f]at this;exact ZT this
    exact⟨_,rfl,_,d,(cz j).trans ((cz<|aD<|.O t).trans (dy<|nH .bc<|bm<|.bp (by rw[show aP (some y)=D.int y from rfl,zO,ZZ C];rfl))),rfl,_,_,_,rfl⟩) ⟨rfl,_,_,_,rfl⟩
 rw[z,A]at o;have j:sIf .u6 .ea bT .gC h=.nx .gC h :=
  dy (jd .zq<|bm<|av (dI<|.cE rfl) (.W<|j8 w h) (by rw[zO,ZA,F.len,W.t,ZZ rfl];rfl))
 exact (.ab<|(cz j).trans ((cz<|eW rfl o).trans .f5)).trans aZ
def qy(W:w.Ok n)(F:.S)(h:Hd):cS .eh h=.ok .non h:=by
 exact(JY rfl rfl<|dy<|ee<|bm<|.O<|Ng W F h).trans aZ
def yg(l:.b):cC .br=some l:=by
 induction l with
 |nil=>rfl
 |cons x b a=>simp[cC,a]
def QC(h:i<s.length):atI (s.map .int) (i:Int)=some (.int s[i]):=du (by simp[h])
/---/def eY(r:.as)(s:.b):List Int:=(r.filter λp=>decide (s.getD p.1 0=1)).map (·.2)
/---/def aU(r:.as)(s:.b):Int:=(eY r s).sum
def JZ(e:∀q∈r,q.1<s.length)(h:Hd):.jA .qa .d .eQ [none,none,some .G] h=.ok ((eY r s).map D.int) h:=by
 have c:.jA .qa .d .eQ [none,none,some .G] h
   = .ok (((.eQ).filter λd=>match d with | .tup [.int i,_]=>decide (s.getD i.toNat 0=1)|_=>false).map λd=>match d with | .tup [_,x]=>x|_=>.non) h:=by
  refine br (g:=none) (I:=λσ=>∃a b,σ=[a,b,some .G]) _ _ trivial ?_ ⟨_,_,rfl⟩;rintro x f σ ⟨a,b,rfl⟩;obtain⟨⟨q,k⟩,j,rfl⟩:=z5.mp f;exact⟨_,rfl,⟨_,_,rfl⟩,oF (bm<|av (.fh rfl<|FD<|e _ j) rfl BR),λ_=>rfl⟩
 rw[c,eY,List.filter_map,y3,y3];rfl
def DW(W:w.Ok n)(b:.e6)(e:w.ties[p]?=some r)(h:Hd):
  oG .rj h=.ok (.int<|2*aU r s) h:=by
 have a:∀q∈r,q.1<s.length:=λq c=>by rw[b];exact W.lt r (ZK e) q c
 exact (.ab<|aL<|av rfl (JW (cM (vR<|.O<|iU w h e)<|JZ a h)<|yg _)<|j7 .c).trans aZ
/---/def oH(w:Web)(f s:.b)(p:Nat):Int:=(2*w.bars.getD p 0+1)*(f.getD p 0+s.getD p 0)-(if s.getD p 0=1 then 2*(2*aU .kr f)+2*f.getD p 0 else 0)
noncomputable def ip(w:Web)(f s:.b):Nat->Int
 |0=>0
 |k+1=>ip w f s k+oH w f s k
/---/def jt:Fn:=bC 3 6 (aA (.bG<|af f7 .fB)
  (aA (sIf (tE<|aq oy .h .aB) (aS .h) bT)
  (aA (.dr<|af oG<|.c1<|ab .d .bZ)
  (aA (.bW<|af qw .fB)
  (aA .vo
  .v8)))))
/---/def cy:Fn:=bC 2 2 (aS<|dR<|bi 1 [0,1] .li .B [] .xI)
noncomputable abbrev vS:SF:=(aA (gx<|mY .g .h)
  (.bG<|af cy .iA))
/---/def eZ:Fn:=bC 2 5 (aA .r8
  (aA (.a1 .w9)
  (aA (.bG .wA)
  (aA (uZ (tE .ma) vS)
  (aA (.dr .tN)
  (aS<|d9<|ab (aq fM .ko .K)<|ab .D .bZ))))))
/---/def cR(w:Web)(s:.b)(p:Nat):Int:=match w.stays.getD p none with
 |some x=>x
 |none=>if 2*aU .kr s=w.bars.getD p 0 then s.getD p 0 else if w.bars.getD p 0<2*aU .kr s then 1 else 0
/---/def ay(w:Web)(n:Nat)(s:.b):List Int:=(.k).map (cR w s)
def DX(W:w.Ok n)(F:.S)(hp:p<n)(h:Hd):jt .rj h=.ok (.int<|cR w s p) h:=by
 have j:p<w.ties.length:=by rw[W.t];exact hp
 have k:p<w.bars.length:=by rw[W.b];exact hp
 have b:p<w.stays.length:=by rw[W.s];exact hp
 have l:p<s.length:=by rw[F.len];exact hp
 have t:w.ties[p]?=some w.ties[p]:=by simp[j]
 have o:w.bars[p]?=some w.bars[p]:=by simp[k]
 have g:w.stays[p]?=some w.stays[p]:=by simp[b]
 have a:=DW W F.len t h;have q:w.ties.getD p []=w.ties[p]:=by simp[List.getD,j]
 have z:w.bars.getD p 0=w.bars[p]:=by simp[List.getD,k]
 have m:w.stays.getD p none=w.stays[p]:=by simp[List.getD,b]
 have r:s.getD p 0=s[p]:=by simp[List.getD,l]
 have y:=QC l;cases c:w.stays[p] with
 |some x =>
  rw[c]at g;have B:cR w s p=x:=by unfold cR;rw[m,c]
  rw[B];exact (.ab<|(cz<|aD<|.O<|nJ w h g).trans (vQ<|(nc .bc).trans .f5)).trans aZ
 |none =>
  rw[c]at g;have A:=nJ w h g;have u:=DV w h o;dsimp[cR,m,c,q,z,r];generalize 2*aU w.ties[p] s=P at a;have i:∀{v:Int},aA .vo .v8 [some w.enc,some .G,some (.int p),some .non,some (.int P),some (.int w.bars[p])] h=.rt .cp h->jt .rj h=.ok .cp h:=λe=>XM (.ab<|sx (aD<|.O A)<|sx (dy .bc)<|sx (aD<|ar .cO a)<|sx (aD<|.O u) e) aZ
  by_cases d:P=w.bars[p]
  ·rw[z4 d];exact i (vQ<|(nc<|bm<|.bp<|pJ d).trans (aL<|.fh rfl y))
  ·rw[yD d]
   by_cases f:w.bars[p]<P
   ·rw[z4 f];exact i ((.w0).trans (aL<|(sf<|bm<|.bp<|JX f).trans rfl))
   ·rw[yD f];exact i ((.w0).trans (aL<|(vP<|bm<|.bp<|vO f).trans rfl))
def hW(W:w.Ok n)(F:.S)(h:Hd):cy .eh h=.ok (ao .Z) h:=by
 have b:bU none ((.k).map λk:Nat=>D.int k) .B [] .xI ((.k).map λk:Nat=>D.int k) [none,some w.enc,some .G] h
   = .ok ((.vR).map λd=>match d with | .int i=>.int (cR w s i.toNat)|_=>.non) h:=by
  refine br (g:=none) (I:=λσ=>∃a,σ=[a,some w.enc,some .G]) _ _ trivial ?_ ⟨_,rfl⟩;rintro x j σ ⟨a,rfl⟩;obtain⟨i,c,rfl⟩:=z5.mp j;have c:=YD.mp c;exact⟨_,rfl,⟨_,rfl⟩,by simp,λ_=>ar .cO (DX W F c h)⟩
 have f:(.vR).map (λd=>match d with | .int i=>D.int (cR w s i.toNat)|_=>.non)=(.Z).map D.int:=by
  rw[Z9.mpr .e,y3,ay,y3];rfl
 rw[f]at b;have e:aQ .Y h=.d8 h:=W.t▸j8 w h;exact (.ab<|aL<|gS<|cM (dJ (.W e) W.sz) b).trans aZ
/---/def bN(w:Web):Prop:=∀x∈w.stays,x=none\/x=some 0\/x=some 1
def kY(F:.S)(i:Nat):s.getD i 0=0\/s.getD i 0=1:=by
 by_cases a:i<s.length
 ·rw[List.getD,ZE a];exact F.op _ (YR a)
 ·rw[List.getD,wZ .a];exact .inl rfl
def vT(F:.S)(S:bN w)(p:Nat):cR w s p=0\/cR w s p=1:=by
 unfold cR;cases c:w.stays.getD p none with
 |some x =>
  have:some x∈w.stays:=by
   rw[List.getD]at c;cases e:w.stays[p]? with
   |none=>rw[e]at c;cases c
   |some y=>rw[e]at c;simp at c;subst c;exact ZK e
  have:=S _ this;simp at this;exact this
 |none =>
  simp only;split
  ·exact kY F p
  ·split<;>simp
theorem dS(W:w.Ok n)(S:bN w)(F:.S):aX w n .Z where
 len:=by simp[ay]
 op:=λx c=>by
  obtain⟨p,d,rfl⟩:=z5.mp c;exact vT F S p
 st:=λi x e=>by
  have a:i<n:=by rw[<-W.s];exact (.bs).1
  have:.jC none=some x:=by simp[List.getD,e]
  have b:cR w s i=x:=by unfold cR;rw[this]
  simp[ay,a,b]
noncomputable def hist(w:Web)(n:Nat)(s:.b):Nat->List Int
 |0=>s
 |k+1=>.ai .ck
theorem bh{w:Web}{n:Nat}{s:.b}(W:w.Ok n)(S:bN w)(F:.S):∀k,aX w n .ck
 |0=>F
 |k+1=>dS W S .eW
/---/def bA(w:Web)(n:Nat)(s:.b)(m:Nat):List .aC:=(.gt m).map (.p s)
def DY(m:Nat):bA w n s (m+1)=bA w n s m++[.p s m]:=by simp[bA,VX]
def ju(m:Nat):(.et m).length=m:=by simp[bA]
def J0(h:i<m):atI ((.et m).map ao) (i:Int)=some (ao .kO):=du (by simp[bA,h])
/---/def LeS(a b:.b):Prop:=∀i:Nat,a.getD i 0<=b.getD i 0
def LeS.refl(a:.b):LeS a a:=λ_=>X5 _
/---/def nK(a:.b):Prop:=∀i:Nat,.gy 0=0\/.gy 0=1
def LeS.eq(l:.ji)(x:LeS a b)(y:LeS b a):a=b:=by
 apply UB l;intro i d c;have f:=x i;have e:=y i;dsimp[List.getD,ZE d,ZE c,X2]at f e;lia
def cD(p:.cT)(r:.as)(s:.b):aU (p::r) s=(if s.getD p.1 0=1 then p.2 else 0)+aU r s:=by
 unfold aU eY
 by_cases e:s.getD p.1 0=1
 ·rw[XR,z4 .yr,z4 e];rfl
 ·rw[XR,yD .yr,yD e];lia
theorem tN{a b:.b}(B:nK b)(l:LeS a b):∀{r:.as},(∀p∈r,0<=p.2)->aU r a<=aU r b
 |[],_=>X5 _
 |p::r,h=>by
  have j:=tN B l (r:=r) λq d=>h q .kZ;have g:=h p .e;have f:=l p.1;have i:=B p.1;rw[cD,cD]
  by_cases e:a.getD p.1 0=1
  ·have c:b.getD p.1 0=1:=by lia
   rw[z4 e,z4 c];lia
  ·rw[yD e]
   by_cases c:b.getD p.1 0=1
   ·rw[z4 c];lia
   ·rw[yD c];lia
variable{x:Int}
def Nh{c d e b y:Int}(hp:c<=d)(hb:b<=e)(l:x<=y)(k:x=0\/x=1)(m:y=0\/y=1):(if 2*c=e then x else if e<2*c then 1 else 0)<=(if 2*d=b then y else if b<2*d then (1:Int) else 0):=by
 have i:0<=y:=by rcases m with rfl|rfl<;>decide
 have j:x<=1:=by rcases k with rfl|rfl<;>decide
 have q:2*c<=2*d:=Int.mul_le_mul_of_nonneg_left hp .c;generalize 2*c=A at q;generalize 2*d=B at q
 by_cases f:A=e
 ·rw[z4 f]
  by_cases a:B=b
  ·rw[z4 a];exact l
  ·rw[yD a,z4 (Int.lt_iff_le_and_ne.mpr ⟨wb hb (f▸q),WQ a⟩)];exact j
 ·rw[yD f]
  by_cases g:e<A
  ·have h:b<B:=ya hb (Int.lt_of_lt_of_le g q)
   rw[z4 g,yD (Int.ne_of_gt h),z4 h];exact X5 _
  ·rw[yD g]
   by_cases a:B=b
   ·rw[z4 a];exact i
   ·rw[yD a]
    split
    ·decide
    ·exact X5 _
def DZ{c d:Web}(hp:aU .rE a<=aU .rD b)(hb:d.bars.getD p 0<=c.bars.getD p 0)(B1:nK a)(h:nK b)(le:LeS a b)
  (st:.vj\/c.stays.getD p none=some 0\/d.stays.getD p none=some 1) (n1:cR c a p=0\/cR c a p=1) (n:cR d b p=0\/cR d b p=1):cR c a p<=cR d b p:=by
 rcases st with ⟨g,e⟩|s|s
 ·have f:=B1 p
  have i:=h p;have l:=le p;unfold cR;rw[g,e];generalize aU .rE a=j at *;generalize aU .rD b=k at *;generalize c.bars.getD p 0=o at *;generalize d.bars.getD p 0=m at *;generalize a.getD p 0=x at *;generalize b.getD p 0=y at *;exact Nh hp hb l f i
 ·have:cR c a p=0:=by unfold cR;rw[s]
  lia
 ·have:cR d b p=1:=by unfold cR;rw[s]
  lia
def yh(w:Web)(n:Nat)(s:.b)(i:Nat):(.Z).getD i 0=if i<n then cR w s i else 0:=by
 unfold ay
 by_cases h:i<n<;>simp[List.getD,h]
def aX.bits(F:.S):nK s:=λi=>kY F i
structure qz(w1 w2:Web)(n:Nat):Prop where
 go:∀a b,aX w1 n a->aX w2 n b->LeS a b->LeS (ay w1 n a) (ay w2 n b)
def Ni{c d:Web}(j:bN c)(S2:bN d)(hp:∀p,p<n->∀a b,nK a->nK b->LeS a b->aU .rE a<=aU .rD b)(hb:∀p,p<n->d.bars.getD p 0<=c.bars.getD p 0)
  (st:∀p,p<n->.vj\/c.stays.getD p none=some 0\/d.stays.getD p none=some 1):qz c d n :=
 ⟨λa b f e g i=>by
  rw[yh,yh]
  by_cases h:i<n
  ·rw[z4 h,z4 h]
   exact DZ (hp i h a b f.bits e.bits g) (hb i h) f.bits e.bits g (st i h) (vT f j i) (vT e S2 i)
  ·rw[yD h,yD h];exact X5 _⟩
theorem oJ{c d:Web}{n:Nat}(h:c.Ok n)(e:d.Ok n)(i:bN c)(S2:bN d)(M:qz c d n){a b:.b}(g:aX c n a)(f:aX d n b)(le:LeS a b):∀k,LeS (hist c n a k) (hist d n b k)
 |0=>le
 |k+1=>M.go _ _ (bh h i g k) (bh e S2 f k) (oJ h e i S2 M g f le k)
noncomputable def S2(R:Nat->List .aT)(f s:.ep):Nat->Int
 |0=>0
 |k+1=>S2 R f s k+((R k).map λp=>p.2*f p.1*s k).sum
noncomputable def fD(g:.ep):Nat->Int
 |0=>0
 |n+1=>fD g n+g n
def sh(g:.ep)(n:Nat):((.k).map g).sum=fD g n:=by
 induction n with
 |zero=>rfl
 |succ n a=>rw[VX,ZR,List.sum_append,a];simp[fD]
def BS(l:.b):l.sum=fD (λk=>l.getD k 0) l.length:=by
 rw[<-sh];congr 1;apply YO;intro i
 by_cases a:i<l.length<;>simp[List.getD,a]
/---/def sj(w:Web)(n:Nat)(f s:.b):Int :=
 2*fD .pM n+f.sum+s.sum-4*S2 .hY .rN .rM n-2*fD .qp n
def GZ(b:∀p∈r,f.getD p.1 0=0\/f.getD p.1 0=1):aU r f=(r.map λp=>p.2*f.getD p.1 0).sum:=by
 induction r with
 |nil=>rfl
 |cons p r g =>
  have c:=b p .e;have a:=g λq d=>b q .kZ;dsimp[aU,eY]at a⊢;rcases c with e|e
  ·simp[-List.getD_eq_getElem?_getD,e,a]
  ·simp[-List.getD_eq_getElem?_getD,e,a]
def yi(W:w.Ok n)(c:.bz f)(h:.S):ip w f s n=sj w n f s:=by
 have a:∀{l:.b} (F:.bz l) (i:Nat),l.getD i 0=0\/l.getD i 0=1:=λ{l} F i=>by
  by_cases j:i<l.length
  ·rw[List.getD,ZE j];exact F.op _ (YR j)
  ·rw[List.getD,wZ .a];exact .inl rfl
 have g:∀m,m<=n->ip w f s m=2*fD .pM m+fD .rN m+fD .rM m
   - 4*S2 .hY .rN .rM m-2*fD .qp m:=by
  intro m
  induction m with
  |zero=>intro _;rfl
  |succ m b =>
   intro v;have b:=b .a;dsimp[ip,fD,S2,oH,b];have t:=GZ (r:=w.ties.getD m []) λp _=>a c p.1;have u:=a c m;have q:=a h m;have d:((.fC).map λp=>p.2*f.getD p.1 0*s.getD m 0).sum=aU .fC f*s.getD m 0:=by
    rw[t];generalize w.ties.getD m []=r
    induction r with
    |nil=>simp
    |cons p r b=>dsimp[yP,VL,b,Int.add_mul]
   rw[d];rcases u with e|e<;>rcases q with o|o<;>dsimp[e,o]<;>simp<;>lia
 rw[g n .r,sj,BS f,BS s,c.len,h.len]
def D0(sym:.hx):sj w n f s=sj w n s f:=by
 have b:.pM=λk=>(s.getD k 0+f.getD k 0)*w.bars.getD k 0:=by funext k;rw[Int.add_comm]
 have a:.qp=λk=>s.getD k 0*f.getD k 0:=by funext k;rw[Int.mul_comm]
 rw[sj,sj,b,a,sym];lia
def G0(W:w.Ok n)(a:.bz f)(b:.S)(sym:.hx):ip w f s n=ip w s f n:=by
 rw[yi W a b,yi W b a,D0 sym]
/---/def unl(a b:.b)(n:Nat):Int:=fD (λp=>if a.getD p 0=b.getD p 0 then 0 else 1) n
theorem pL(a b:.b):∀n,0<=unl a b n
 |0=>by simp[unl,fD]
 |n+1=>by
  have:=pL a b n;dsimp[unl,fD]at this⊢;split<;>lia
theorem FF{a b:.b}:∀{n:Nat},(∃p,p<n/\a.getD p 0≠b.getD p 0)->1<=unl a b n
 |0,⟨p,hp,_⟩=>by lia
 |n+1,⟨p,hp,hne⟩=>by
  have h0:=pL a b n
  by_cases e:p=n
  ·subst e
   dsimp[unl,fD]at h0⊢;rw[yD hne];lia
  ·have:=FF (n:=n) ⟨p,by lia,hne⟩
   dsimp[unl,fD]at this⊢;split<;>lia
def Nj{a:.b}(ha:.e7)(hb:.gc)(h:a≠b):∃p,p<n/\a.getD p 0≠b.getD p 0:=by
 refine VV λq=>h ?_;apply UB .a;intro i d c;refine VV λz=>q ⟨i,by lia,?_⟩;simpa[List.getD,d,c] using z
def G1(hp:p<n):(.Z).getD p 0=cR w s p:=by simp[ay,List.getD,hp]
def G3(F:.S)(e:w.stays.getD p none=some x):s.getD p 0=x:=by
 have:w.stays[p]?=some .b7:=by
  rw[List.getD]at e;cases c:w.stays[p]? with
  |none=>rw[c]at e;cases e
  |some y=>rw[c]at e;simp at e;rw[e]
 have:=F.st p x this;simp[List.getD,this]
def TN(W:w.Ok n)(g:.bz s0)(q:.cW)(sym:.hx):
  ip w a .ej n+unl s0 .ej n<=ip w s0 a n:=by
 rw[G0 W g q sym];have j:∀m,m<=n->ip w a .ej m+unl s0 .ej m<=ip w a s0 m:=by
  intro m
  induction m with
  |zero=>intro _;simp[ip,unl,fD]
  |succ m h =>
   intro u;have h:=h .a;have e:=kY g m;have d:=kY q m;have r:=G1 (w:=w) (s:=a) (p:=m) (n:=n) .a;have l:oH w a .ej m+(if s0.getD m 0=(.ej).getD m 0 then 0 else 1)<=oH w a s0 m:=by
    unfold oH;rw[r];unfold cR;cases c:w.stays.getD m none with
    |some x =>
     have:=G3 g c;dsimp[this];simp
    |none =>
     simp only;generalize w.bars.getD m 0=b;generalize aU .fC a=P;generalize s0.getD m 0=v at e⊢;generalize a.getD m 0=t at d⊢
     by_cases o:2*P=b
     ·rw[z4 o]
      rcases e with z|z<;>rcases d with y|y<;>subst z y<;>simp<;>lia
     ·rw[yD o]
      by_cases k:b<2*P
      ·rw[z4 k]
       rcases e with z|z<;>rcases d with y|y<;>subst z y<;>simp<;>lia
      ·rw[yD k]
       rcases e with z|z<;>rcases d with y|y<;>subst z y<;>simp<;>lia
   dsimp[ip,unl,fD]at h⊢;lia
 exact j n .r
/---/def G4(r:.as):Int:=(r.map λp=>(p.2.natAbs:Int)).sum
def G5(r:.as)(f:.b):aU r f<=G4 r:=by
 induction r with
 |nil=>simp[aU,eY,G4]
 |cons p r a =>
  dsimp[aU,eY,G4,XR,yP,VL]at a⊢;split
  ·dsimp[yP,VL];lia
  ·lia
theorem J1{w:Web}{n:Nat}:∀m,∃C:Int,∀f s,aX w n f->aX w n s->-C<=ip w f s m
 |0=>⟨0,λf s _ _=>by simp[ip]⟩
 |m+1=>by
  obtain⟨C,e⟩:=J1 m;refine⟨C+(2*((2*w.bars.getD m 0+1).natAbs:Int)+4*G4 .fC+2+4*((G4 .fC).natAbs:Int)),λf s a c=>?_⟩;have i:=e f s a c;have g:=kY a m;have d:=kY c m;have h:=G5 .fC f;dsimp[ip,oH];generalize w.bars.getD m 0=b at *;generalize aU .fC f=P at *;generalize G4 .fC=A at *;generalize ip w f s m=T at *;rcases g with z|z<;>rcases d with y|y<;>dsimp[z,y]<;>simp<;>lia
def D4{P:Nat->Prop}(h:∃t,P t):∃t,P t/\∀k,k<t->¬P k:=by
 obtain⟨t,c⟩:=h
 induction t using Nat.strongRecOn with
 |ind t d =>
  by_cases q:∃k,k<t/\P k
  ·obtain⟨k,b,a⟩:=q
   exact d k b a
  ·exact⟨t,c,λk b a=>q ⟨k,b,a⟩⟩
/---/def eN(w:Web)(n:Nat)(s:.b)(k:Nat):Int:=ip w .ck .rC n
def FG(W:w.Ok n)(S:bN w)(F:.S)(sym:.hx)(k:Nat):
  eN w n s (k+1)+unl .ck (.fg<|k+2) n<=eN w n s k:=TN W .eW .kF sym
def Ox(W:w.Ok n)(S:bN w)(F:.S)(sym:.hx)(h:hist w n s (k+2)≠hist w n s k):eN w n s (k+1)+1<=eN w n s k:=by
 have:=FG W S F sym k;have:=FF (Nj (.eW).len (.fj<|k+2).len (WQ h));lia
theorem Oy{w:Web}{n:Nat}{s:.b}(W:w.Ok n)(S:bN w)(F:.S)(sym:.hx):∀{m:Nat},k<=m->eN w n s m<=eN w n s k
 |0,h=>by
  have:k=0:=by lia
  subst this;exact X5 _
 |m+1,h=>by
  by_cases e:k=m+1
  ·subst e;exact X5 _
  ·have c:=Oy W S F sym (k:=k) (m:=m) .a
   have a:=FG W S F sym m;have b:=pL (.fg m) (.fg<|m+2) n;lia
def TQ(W:w.Ok n)(S:bN w)(F:.S)(sym:.hx):∃t,hist w n s (t+2)=hist w n s t/\∀k,k<t->hist w n s (k+2)≠hist w n s k:=by
 refine D4 ?_;refine VV λq=>?_;obtain⟨C,b⟩:=J1 n;have a:∀k:Nat,eN w n s k+k<=eN w n s 0:=by
  intro k
  induction k with
  |zero=>simp
  |succ k e =>
   have:=Ox W S F sym λz=>q ⟨k,z⟩;lia
 have d:=a (eN w n s 0+C+1).toNat;have c : -C<=eN w n s (eN w n s 0+C+1).toNat:=b _ _ (.fj _) (.fj _);lia
theorem yj:∀(a b:.b),a.length=b.length->gY (a.map .int) (b.map .int)=some (decide (a=b))
 |[],[],_=>by simp[gY]
 |x::a,y::b,h=>by
  have d:=yj a b .fD;dsimp[yP,gY,peq,d]
  by_cases e:x=y<;>by_cases c:a=b<;>simp[e,c]
 |[],_::_,h=>by simp at h
 |_::_,[],h=>by simp at h
def G6(l:.b):jT .br=0:=by
 induction l with
 |nil=>rfl
 |cons x l a=>simp[jT,dep,a]
def uI(l:.b):dep (ao l)=1:=by simp[ao,dep,G6]
def FH{a:.b}(h:.ji):peq (ao a) (ao b)=some (decide (a=b)):=by
 dsimp[ao,peq,yj a b h,Y8,ZA,h];simp
def FI{a:.b}(h:.ji)(hd:Hd):eqG hd (ao a) (ao b)=some (decide (a=b)):=by
 have c:∀l,ev hd (ao l)=none:=λl=>rfl;dsimp[eqG,c,uI,FH h];rfl
def uJ{a:.b}(h:.ji)(hd:Hd):oNe (ao a) (ao b) hd=.ok .q9 hd:=by
 unfold oNe;rw[FI h]
def uK{a:.b}(h:.ji)(hd:Hd):oEq (ao a) (ao b) hd=.ok (.bl<|decide (a=b)) hd:=by
 unfold oEq;rw[FI h]
def Sf{k:Nat}(h1:1<=k)(h2:k<=n):¬ 0<=-(k:Int)/\-(n:Int)<=-(k:Int)/\(-(k:Int)+(n:Int)).toNat=n-k:=by lia
def Nk{k:Nat}(h1:1<=k)(h2:k<=l.length):atI l (-(k:Int))=l[l.length-k]? := by
 have q:=Sf h1 h2;unfold atI ixN;rw[yD q.1,z4 q.2.1,q.2.2];rfl
def kZ(k j:Nat)(h1:1<=j):atI ((.et<|k+j).map ao) (-(j:Int))=some (ao .ck):=by
 rw[Nk h1 (by rw[ZA,ju];exact Nat.le_add_left j k),ZA,ju,Nat.add_sub_cancel,ZQ,bA,ZQ,YA (Nat.lt_add_of_pos_right h1)];rfl
def sr{a b:SF}(e:.oD):aA a b σ h=b σ' h':=by simp[aA,e]
def qA(W:w.Ok n)(S:bN w)(F:.S)(ht:.p s (t+2)=.p s t)(hm:∀k,k<t->hist w n s (k+2)≠hist w n s k)(hz:t<=900000)(h:Hd):
  eZ .eh h=.ok (.tup [.int t,.str .ps,.ref h.length]) .kI:=by
 have L:∀k,(.ck).length=n:=λk=>(.eW).len;have c:∀j k,k+j=t->gy (tE .ma) vS (j+1) .hZ .gD
   = .nx .uF .kI:=by
  intro j
  induction j with
  |zero =>
   intro k d;have:k=t:=d;subst this;have i:atI .lZ (-2)=some (ao .ck):=kZ k 2 .c;have a:tE .ma .hZ .gD=.ok false .gD:=by
    rw[ht];exact bm (av rfl .zQ (by rw[uJ rfl,ZZ rfl];rfl))
   dsimp[gy,a]
  |succ j H =>
   intro k d;have i:atI .lZ (-2)=some (ao .ck):=kZ k 2 .c;have a:tE .ma .hZ .gD=.ok true .gD:=by
    exact bm (av rfl .zQ (by rw[uJ ((L<|k+2).trans (L k).symm),Z6 (hm k<|d▸Nat.lt_add_of_pos_right (Nat.succ_pos j))];rfl))
   have A:(.lZ).length<SZ:=by rw[ZA,ju];exact ZS (UR (ZM (d▸YF k (j+1)) hz) 2) .c
   have v:=hW W (.fj<|k+2) .p0;have f:vS .hZ .gD=.nx [some w.enc,some .G,some .a4,some (ao<|.fg<|k+3),none] .p0:=by
    have m:gx (mY .g .h) .hZ .gD=.nx .hZ .p0:=by
     rw[show bA w n s (k+3)=bA w n s (k+2)++[.p s (k+2)] from DY (k+2),ZR];exact(fB<|lW rfl ZG rfl ZG A).trans (by rw[oE rfl];rfl)
    exact(sr m).trans (aD<|.O v)
   rw[gy,a];dsimp[f];exact H (k+1) (by rw[UF];exact d)
 have p:=GY (c t 0<|YE t) .e;have y:=hW W F h;have o:=hW W (.fj 1) .ml;have C:[ao s,ao .Z]=(.et 2).map ao:=by simp[bA,VX,hist]
 have r:atI ((.et 2).map ao) 1=some (ao<|.fg 1):=J0 .c;have g:atI .cJ (-1)=some .zs:=kZ (t+1) 1 .c;have e:atI .cJ (-2)=some .mO:=kZ t 2 .c;have D:(.et<|t+2).length=t+2:=ju _;have b:=uK ((L<|t+1).trans (L t).symm) .kI;dsimp[hist]at o;dsimp[hist]at r;have l:.p s (0+2)=.ai .Z:=rfl;rw[l,show 0+2=2 from rfl]at p;have G:.ew .w9 .gC h
   = .nx .wc .ml:=by
  rw[<-C];exact aD (bS<|.cC<|.cD<|.O y)
 have x:aG .bR .wA .wc .ml
   = .nx [some w.enc,some .G,some .a4,some (ao<|.ai .Z),none] .ml:=by
  exact aD (ar (.cC<|.cD<|.fh (bc ZG) r) o)
 have E:aG .fR .tN .uF .kI
   = .nx [some w.enc,some .G,some .a4,some (ao<|.fg<|t+2),some (.str .ps)] .kI:=by
  by_cases q:.p s (t+1)=.p s t
  ·rw[z4 q];rw[ZZ q]at b
   exact aD ((sf .u2).trans rfl)
  ·rw[yD q];rw[Z6 q]at b
   exact aD ((vP .u2).trans rfl)
 have u:gx (af cS .aw) .gC h=.nx .gC h:=fB (.O<|qy W F h);have B:((.eh).map some++List.replicate (5 - (.eh).length) none:Sd)=.gC:=rfl;unfold eZ bC runB;rw[z4 (show (.eh).length=2 from rfl),B,sr u,sr G,sr x,sr p,sr E];have z:((t:Int)+2)-2=t:=by lia
 simp[D,SZ,z,letGo,pure?,hX]
/---/def k7:Fn:=bC 2 2 (aA .r8
  (aS<|.c5 (af cy .aw) .d))
/---/def fj:Fn:=bC 2 2 (aS .xe)
/---/def aK:Fn:=bC 1 1 (aS<|aI<|lOf .gT)
/---/def dL:Fn:=bC 2 2 (aS .vi)
/---/def cu:Fn:=bC 1 1 (aS<|af fj<|.c1<|ab (af dL .kn) aj)
/---/def bD:Fn:=bC 1 1 (aS<|af fj<|ab .f<|ab (af dL<|.c1 .fu) aj)
/---/def dD:Fn:=bC 3 3 (aA .r8
  (aA (gx<|af cS .fB)
  (.bV<|tOr (gM<|tE<|af k7 .aw)<|gM<|tE<|af k7 .fB)))
/---/def nM:Fn:=bC 3 3 (aA (gx .mo)
  (aS .uA))
/---/def BU:Fn:=bC 3 3 (aA (gx .mo)
  (aS .uB))
/---/def qB:Fn:=bC 2 4 (aA (.cB<|tOr (gM<|tE<|kN .tuple .d)<|tE<|aq oNe .dA .fo)
  (aA (.a1 .my)
  (aA (.bG<|fAt .d .u)
  (aA (.cB<|tOr (gM<|tE<|af cr<|ab .g .xf)<|gM<|tE<|af cr<|ab .h .xf)
  (aS<|fT<|kM (tE<|aq oNe .g .h)<|tE<|af cr<|ab (fAt .d .K)<|ab .u .zt)))))
noncomputable abbrev kD:SF:=(aA (.bV<|gM<|tE<|af qB .iA)
  (aA (.dr<|fAt .h .H)
  (aA (.bW<|fAt .h .u)
  (aA (.bV<|tE<|aq Ii .au<|fAt .g .D)
  (aA (AY (fAt .g .D) .au<|fAt .h .K)
  (AY (fAt .g .au) .D<|fAt .h .K))))))
/---/def jh:Fn:=bC 2 6 (aA (.bV .kd)
  (aA (.a1<|aI<|.jv (ce .f) EY)
  (aA (fz (bV .d) .bR kD)
  (aS .g))))
/---/def j9:Fn:=bC 2 2 (aA (.bV .id)
  (aA (.bV<|tOr .kd<|tE<|aq oNe .dA<|cT .ei)
  (aA (.bV<|gM<|tE<|AX<|.jv (bV .d) .nT)
  (aS .sB))))
/---/def ji:Fn:=bC 2 2 (aA (sIf .id (aS<|dR<|.jv (ce .f) .aB) bT)
  (aA (.bV<|tOr .kd<|tE<|aq oNe .dA .f)
  (aA (.bV<|gM<|tE<|AX<|.jv (bV .d)<|fT .qy)
  (aS .sB))))
/---/def dM:Fn:=bC 4 6 (aA (.bV<|gM<|tE<|af cr<|.c1<|ab .u<|ab (fC<|.int 30) aj)
  (aA (.dr<|af jh .aw)
  (aA (.bW<|dR<|.jv (bV .D)<|dR<|rG .f)
  (aS<|d9<|ab .au<|ab (af j9<|ab .D .bZ)<|ab (af ji .iA) aj))))
/---/def yk:Fn:=bC 2 4 (aA (.a1 .H)
  (aA (sIf .x1 (.a1<|fAt .f .d) bT)
  (aA (.bG<|fT<|tOr (tE<|.c5 (cT .ei) .H)<|tE<|.c5 (.a9 .eM .K) .u)
  (aA (sIf (tE .h) (.a1<|.a3 (.a9 .g .pD)<|.ba (fC<|.int 1000003) .d) bT)
  (aS<|aI<|ab .g<|ab .H .fA)))))
/---/def eD:Fn:=bC 2 4 (aA (nn .f .u<|.a3 .jV .u)
  (aA (sIf (tE .gT) (aA (.a1<|.a9 (.ba (.a3 (.a3 .eM<|.ba (fC<|.int 7919) .jV) .u)<|fC<|.int 48271) .pD)
  (aA (.a1<|.a9 (.ba .g<|.a3 (.a9 .g<|fC<|.int 65521) .jV)<|fC<|.int 2147483629)
  (aS<|.a9 (.a9 (.a3 (.ba .g .g)<|.ba (fC<|.int 69621) .g)<|fC<|.int 2147483563) .d))) bT)
  (aA (.bG<|.a9 .eM .d)
  (aA (nn .f .H<|aq jy .eM .d)
  (aS .h)))))
/---/def Nl:Fn:=bC 3 3 (aA (sIf (tE<|.c5 .f .H) (aS .g) bT)
  (aA (sIf (tE<|.c5 .f .u) (aS<|aq fM .d<|fC<|.int 60) bT)
  (aA (sIf (tE<|.c5 .f .K) (aS<|aq fM (.a3 .g<|.a9 .d<|fC<|.int 5) .K) bT)
  (aA (sIf (tE<|.c5 .f .fo) (aS<|.ba .K<|.a9 .d<|.a3 .g .u) bT)
  (aS<|.ba (.a3 (aq Td (fC<|.int 10)<|fC<|.int 59) .d)<|fIx (ab .u<|ab .h9 aj)<|.a9 .d .K)))))
noncomputable abbrev BV:SF:=(sIf (tE<|.c5 (af eD<|ab (aa 9) .fA) .H) (aA (.jJ<|.a3 .u<|af eD<|ab (aa 9)<|ab (fIx (ab .fo .zt)<|af eD<|ab (aa 9)<|ab .K aj) aj)
  (aA (gx<|Te .D (af eD<|ab (aa 9)<|ab (.a3 (cT<|lOf .D) .u) aj)<|fIx (ab (d9<|ab .dR<|ab (aa 10)<|ab (aa 11) aj)<|ab (d9<|ab (aa 10)<|ab .dR<|ab (aa 11) aj) aj)<|.a9 (aa 11) .K)
  (aA (nn .bj .dR<|.a3 (fAt .bj .dR)<|aa 11)
  (nn .bj (aa 10)<|.a3 (fAt .bj<|aa 10)<|aa 11)))) bT)
noncomputable abbrev BW:SF:=(aA (aG (gN 9)<|af yk<|.c1<|ab (.a3 .u .dR) aj)
  (aA (gx<|mY .ak<|fIx (ab .aB<|ab .aB<|ab .aB<|ab .H .fu) .y8)
  (aA (gx<|mY .au<|d9<|ab .y8<|ab (af eD<|ab (aa 9)<|ab .ig aj) aj)
  (fz (ce .dR) (gN 10) BV))))
/---/def D5:Fn:=bC 1 12 (aA (.c4<|af yk .kn)
  (aA (gx<|af eD<|ab .d<|ab .K aj)
  (aA (.a1<|.a3 .u<|af eD<|ab .d<|ab (fIx (ab .K<|ab .sM .q8) .xK) aj)
  (aA (.bG<|fIx (ab .u<|ab .K .qk) .xK)
  (aA .sF
  (aA (.bW .bE)
  (aA (aG .bn .bE)
  (aA (aG (gN 7)<|aI<|va (ab .H aj) .g)
  (aA (fz (ce .g) (gN 8) BW)
  (aA (.bW<|aI<|bi 1 [7,5] (ce .g) .B []<|af Nl<|ab (fAt (fAt .g .f) .H)<|ab (fAt (fAt .g .f) .u)<|ab .j8 aj)
  (aS<|d9<|ab .g<|ab .D<|ab .au<|ab .ak<|ab .bj aj)))))))))))
def bQ{a b:SF}(e:.oD):aA a b σ h=b σ' h':=by simp[aA,e]
def uL(h0:0<=x)(h1:x<4611686018427387904):sml x=true:=by
 dsimp[sml,YB,X7];omega
def lZ{α:Type}{f:α->D}{l:List α}(h:i<l.length):atI .dL (i:Int)=some (f l[i]):=du (by simp[h])
def dG{x:D}(hx:((.k).map λk:Nat=>D.int k)[i]?=some x):i<n/\x=.int (i:Nat):=by
 have a:i<n:=by
  have:=(zS.mp hx).1;simpa using this
 exact⟨a,by simpa[a,ZE] using hx.symm⟩
def Sg{α:Type}(f:α->D)(l:List α)(h0:0<=x)(h:x<l.length):∃v∈l,atI .dL x=some (f v):=by
 have a:x.toNat<l.length:=by lia
 refine⟨l[x.toNat],YR a,?_⟩;have:=lZ (f:=f) a;rwa[show ((x.toNat:Nat):Int)=x by lia]at this
structure Tie where
 a:Nat
 b:Nat
 w:Int
/---/def cH(t:Tie):D:=.tup [.int t.a,.int t.b,.int t.w]
/---/def far(i:Nat)(t:Tie):Option Nat:=if t.a=i then some t.b else if t.b=i then some t.a else none
/---/def wOf(i:Nat)(t:Tie):Int:=if t.a=i\/t.b=i then t.w else 0
/---/def k8(T:.ah)(i:Nat):Int:=(T.map<|wOf i).sum
/---/def Sh(one other:Nat)(t:Tie):Prop:=(t.a<one/\t.b<one)\/(t.a=one/\t.b<other)\/(t.b=one/\t.a<other)
/---/def iq(s t:Tie):Prop:=¬(s.a=t.a/\s.b=t.b)/\¬(s.a=t.b/\s.b=t.a)
structure TOk(n one other:Nat)(T:.ah):Prop where
 ne:∀t∈T,t.a≠t.b
 lt:∀t∈T,t.a<n/\t.b<n
 wt:∀t∈T,1<=t.w/\t.w<=400
 be:∀t∈T,Sh one other t
 un:T.Pairwise iq
 len:T.length<=30*one+other
def iq.symm{s t:Tie}(h:iq s t):iq t s:=⟨λz=>h.1 ⟨z.1.symm,z.2.symm⟩,λz=>h.2 ⟨z.2.symm,z.1.symm⟩⟩
variable{T:.ah}
def TOk.skip(o:TOk n one other T):TOk n one .f0 T :=
 ⟨o.ne,o.lt,o.wt,λt a=>by
  rcases o.be t a with h|h|h
  ·exact .inl h
  ·exact .inr (.inl ⟨h.1,Z2 h.2⟩)
  ·exact .inr (.inr ⟨h.1,Z2 h.2⟩),o.un,V2 o.len⟩
def TOk.step(o:TOk n one one T)(h:one<n)(hn:n<=30):TOk n (one+1) 0 T :=
 ⟨o.ne,o.lt,o.wt,λt a=>by
  rcases o.be t a with h|h|h
  ·exact .inl ⟨Z2 h.1,Z2 h.2⟩
  ·exact .inl ⟨Nat.lt_succ_of_le (V1 h.1),Z2 h.2⟩
  ·exact .inl ⟨Z2 h.2,Nat.lt_succ_of_le (V1 h.1)⟩,o.un,ZM o.len (W3 (ZM (YX h) hn) _)⟩
def uM{α:Type}{x y:α}{l:List α}(h:y∈l.take k++[x]++l.drop k):y=x\/y∈l:=by
 dsimp[ZU,Z0,yS]at h;rcases h with h|h|h
 ·exact .inr (XG h)
 ·exact .inl h
 ·exact .inr (WD h)
def J2{α:Type}{R:α->α->Prop}(sym:∀a b,R a b->R b a){x:α}{l:List α}(k:Nat)(h:l.Pairwise R)(hx:∀y∈l,R x y):(l.take k++[x]++l.drop k).Pairwise R:=by
 have e:(l.take k++l.drop k).Pairwise R:=by rw[XC];exact h
 rw[Z8]at e;obtain⟨i,f,g⟩:=e;rw[ZU,Z8];refine⟨i,?_,λa d b c=>?_⟩
 ·rw[List.singleton_append,Z4]
  exact⟨λy j=>hx y (WD j),f⟩
 ·rcases Z0.mp c with c|c
  ·simp at c;subst c;exact sym _ _ (hx a<|XG d)
  ·exact g a d b c
theorem TOk.put(o:TOk n one other T)(h1:one<n)(h2:other<one){w:Int}(c:1<=w)(d:w<=400){t:Tie}(ht:t=⟨one,other,w⟩\/t=⟨other,one,w⟩)(k:Nat):TOk n one .f0 (T.take k++[t]++T.drop k) where
 ne:=λs a=>by
  rcases uM a with rfl|a
  ·rcases ht with e|e<;>subst e
   ·exact YN h2
   ·exact ZN h2
  ·exact o.ne s a
 lt:=λs a=>by
  rcases uM a with rfl|a
  ·rcases ht with e|e<;>subst e
   ·exact⟨h1,YC h2 h1⟩
   ·exact⟨YC h2 h1,h1⟩
  ·exact o.lt s a
 wt:=λs a=>by
  rcases uM a with rfl|a
  ·rcases ht with e|e<;>subst e<;>exact⟨c,d⟩
  ·exact o.wt s a
 be:=λs a=>by
  rcases uM a with rfl|a
  ·rcases ht with e|e<;>subst e
   ·exact .inr (.inl ⟨rfl,YU _⟩)
   ·exact .inr (.inr ⟨rfl,YU _⟩)
  ·exact o.skip.be s a
 un:=J2 (λ_ _=>iq.symm) k o.un λs a=>by
  have b:=o.be s a;rcases ht with e|e<;>subst e<;>rcases b with b|b|b
  ·exact⟨λz=>YN b.1 z.1,λz=>YN b.2 z.1⟩
  ·exact⟨λz=>YN b.2 z.2,λz=>YN .nV z.1⟩
  ·exact⟨λz=>YN .nV z.1,λz=>YN b.2 z.2⟩
  ·exact⟨λz=>YN b.2 z.2,λz=>YN b.1 z.2⟩
  ·exact⟨λz=>YN .nV z.2,λz=>YN b.2 z.1⟩
  ·exact⟨λz=>YN b.2 z.1,λz=>YN .nV z.2⟩
 len:=by
  have e:(T.take k).length+(T.drop k).length=T.length:=by rw[<-ZB,XC]
  rw[ZB,ZB,List.length_singleton,UF,e];exact Nat.succ_le_succ o.len
/---/def TR(p:.jo):D:=.tup .eD
structure PH(n i:Nat)(T:.ah)(bs:.dl)(ss:.y)(h:Hd):Prop where
 ti:h[1]?=some .kL
 ba:h[2]?=some (.lst<|bs.map TR)
 st:h[3]?=some .df
 to:h[4]?=some .w2
 len:h.length=5+i
 lb:bs.length=i
 ls:ss.length=i
 os:∀x∈ss,x=none\/x=some 0\/x=some 1
 bb:∀p∈bs,0<=p.2/\p.2<200
def QD{g:Hd}(a:cv)(h:g[k]?=some c):(g.set k a)[k]?=some a:=Z1 (zS.mp h).1
def uN{j:Nat}(h:j<n):ixN n (j:Int)=some j:=by simp[ixN,h]
noncomputable abbrev XP(lit:D)(hd:.P)(n thin one:Nat)(a b:.P):Sd:=[some lit,hd,some .U,some (.int thin),some (.ref 1),some (.ref 2),some (.ref 3),some (.ref 4),some .dD,some (.ref<|5+one),a,b]
noncomputable abbrev SC(c t:Int)(b:Bool):cv:=.lst [.int c,.int t,.bl b]
inductive PI(lit:D)(hd:.P)(n thin one:Nat)(bs:.dl)(ss:.y)(m:Bool):Nat->Sd->Hd->Prop
 |mk {i:Nat} {h:Hd} {T:.ah} {a b:.P} {c t:Int} (P:PH n (one+1) T bs ss h) (O:TOk n one i T) (hs:h[5+one]?=some (SC c t m)):PI lit hd n thin one bs ss m i (XP lit hd n thin one a b) h
def few{l one i:Nat}(h:l<=30*one+i)(h1:one<n)(hn:n<=30)(hi:i<one):l<1000:=by lia
noncomputable abbrev XQ(lit:D)(hd:.P)(n thin:Nat)(a b c d:.P):Sd:=[some lit,hd,some .U,some (.int thin),some (.ref 1),some (.ref 2),some (.ref 3),some (.ref 4),a,b,c,d]
def Tc{u:.aF}(h:u∈[none,none,none,some 0,some 1]):u=none\/u=some 0\/u=some 1:=by
 simp at h;exact h
inductive PO(ns:.b)(hd:.P)(n thin:Nat):Nat->Sd->Hd->Prop
 |mk {i:Nat} {h:Hd} {a b c d:.P} {T:.ah} {bs:.dl} {ss:.y} (P:PH n i T bs ss h) (O:TOk n i 0 T):PO ns hd n thin i (XQ (.lit .eH) hd n thin a b c d) h
structure TU(ns:.b)(n:Nat)(T:.ah)(bs:.b)(ss:.y)(h:Hd):Prop where
 run:D5 .nJ []=.ok (.tup [.int n,.ref 1,.ref (5+n),.ref 3,.ref 4]) h
 n1:1<=n
 n6:n<=6
 ok:TOk n n 0 T
 ti:h[1]?=some .kL
 ba:h[5+n]?=some .bA
 st:h[3]?=some .df
 to:h[4]?=some .w2
 len:h.length=6+n
 lb:bs.length=n
 ls:ss.length=n
 os:∀x∈ss,x=none\/x=some 0\/x=some 1
 bb:∀b∈bs,b.natAbs<10^60
theorem ia{α:Type}{f:α->D}:∀{l:List α},(∀x∈l,pure? (f x)=true)->hX .dL=true
 |[],_=>rfl
 |x::l,h=>by
  dsimp[yP,hX,YB];exact⟨h x .e,ia λy hy=>h y .sN⟩
def nO(w:Web):pure? w.enc=true:=by
 have c:∀r:List .aT,pure? (nG r)=true:=λr=>by
  unfold nG;dsimp[pure?];exact ia λp _=>rfl
 have a:hX .si=true:=ia λr _=>c r;have b:hX (w.bars.map D.int)=true:=ia λr _=>rfl;have d:hX .aq=true:=ia λr _=>by cases r<;>rfl
 unfold Web.enc;dsimp[pure?,hX,a,b,d];rfl
/---/def qC(p:.cT):List Int:=[(p.1:Int),p.2]
noncomputable def pM(x:.cT):List .aT->List .aT
 |[]=>[x]
 |y::r=>if lexLt (qC x) (qC y)=true then x::y::r else y::pM x r
noncomputable def bZ:List .aT->List .aT
 |[]=>[]
 |x::r=>pM x (bZ r)
theorem BX(x:.cT):∀r,(pM x r).map qC=yU (qC x) (r.map qC)
 |[]=>rfl
 |y::r=>by
  dsimp[pM,yU,yP];split
  ·rfl
  ·simp[BX x r]
theorem ym:∀r,(bZ r).map qC=eA (r.map qC)
 |[]=>rfl
 |x::r=>by dsimp[bZ,eA,yP,BX,ym r]
theorem vU{x p:.cT}:∀{r},p∈pM x r↔p=x\/p∈r
 |[]=>by simp[pM]
 |y::r=>by
  dsimp[pM];split
  ·simp
  ·dsimp[y4,vU]
   constructor
   ·rintro (h|h|h)
    ·exact .inr .hQ
    ·exact .inl h
    ·exact .inr (.inr h)
   ·rintro (h|h|h)
    ·exact .inr .hQ
    ·exact .inl h
    ·exact .inr (.inr h)
theorem dg{p:.cT}:∀{r},p∈bZ r↔p∈r
 |[]=>by simp[bZ]
 |x::r=>by dsimp[bZ,vU,dg,y4]
theorem BY(f:Nat × Int->Int)(x:.cT):∀r,((pM x r).map f).sum=f x+(r.map f).sum
 |[]=>by simp[pM]
 |y::r=>by
  dsimp[pM];split
  ·simp
  ·simp[BY f x r];lia
theorem lh(f:Nat × Int->Int):∀r,((bZ r).map f).sum=(r.map f).sum
 |[]=>rfl
 |x::r=>by simp[bZ,BY,lh f r]
/---/def nbs(T:.ah)(i:Nat):List .aT:=T.filterMap λt=>(far i t).map λj=>(j,t.w)
/---/def ug(p:.cT):Int × D:=((p.1:Int),.int p.2)
def BZ(T:.ah)(t:Tie)(i:Nat):nbs (T++[t]) i=nbs T i++(match far i t with|some j=>[(j,t.w)] | none=>[]):=by
 unfold nbs;rw[List.filterMap_append];congr 1;cases e:far i t<;>simp[e]
def G7{l:.as}(h:∀p∈l,p.1≠k):u7 .n3 k=none:=by
 unfold u7;rw[List.find?_eq_none.mpr]
 ·rfl
 ·intro x b
  obtain⟨p,c,rfl⟩:=z5.mp b;have a:=h p c;have:¬((p.1:Int)=(k:Int)):=λz=>a .a;rw[X7];exact this
def B0{l:.as}{k:Nat}(h:∀p∈l,p.1≠k):Dm .n3 k .cp=(l++[(k,v)]).map ug:=by
 unfold Dm;rw[yD]
 ·simp[ug]
 ·dsimp[UX,z5,X7]
  rintro⟨x,⟨p,b,rfl⟩,e⟩;have a:=h p b;have e:(p.1:Int)=(k:Int):=e;exact a .a
def B3{i j:Nat}(h:.oI):(t.a=i/\t.b=j)\/(t.b=i/\t.a=j):=by
 unfold far at h
 by_cases a:t.a=i
 ·rw[z4 a]at h;exact .inl ⟨a,ZT h⟩
 ·rw[yD a]at h
  by_cases b:t.b=i
  ·rw[z4 b]at h;exact .inr ⟨b,ZT h⟩
  ·rw[yD b]at h;cases h
def D6{i j:Nat}(h:.oI)(un:∀s∈T,iq s t):∀p∈nbs T i,p.1≠j:=λp g e=>by
 obtain⟨s,l,q⟩:=WS.mp g;obtain⟨k,f,rfl⟩:=XA.mp q;have u:=un s l;rw[show k=j from e]at f;rcases B3 h with ⟨c,d⟩|⟨c,d⟩<;>rcases B3 f with ⟨b,a⟩|⟨b,a⟩
 ·exact u.1 ⟨b.trans c.symm,a.trans d.symm⟩
 ·exact u.2 ⟨a.trans d.symm,b.trans c.symm⟩
 ·exact u.2 ⟨b.trans c.symm,a.trans d.symm⟩
 ·exact u.1 ⟨a.trans d.symm,b.trans c.symm⟩
def G8{t:Tie}(h1:t.a≠t.b)(h2:t.a<n)(f:t.b<n)(d:1<=t.w/\t.w<=400)(h:Hd):qB [.int n,cH t] h=.a2 h:=by
 have g:(t.a:Int)<=n-1:=Int.le_sub_one_of_lt (Int.ofNat_lt.mpr h2);have e:(t.b:Int)<=n-1:=Int.le_sub_one_of_lt (Int.ofNat_lt.mpr f);have j:¬(t.a:Int)=t.b:=λz=>h1 (Int.ofNat.inj z);have c:∀{i a b:Int},a<=i->i<=b->cr [.int i,.int a,.int b] h=.a2 h:=λx y=>by rw[io,ZZ x,ZZ y];rfl
 exact XM (.ab<|sx (dy<|jd .zq<|bm<|.fe<|dI<|.cE rfl)<|sx (aD .bb)<|sx (aD .bb)<|sx (dy<|jd (ee<|bm<|ar .xo<|c (VT _) g)<|ee<|bm<|ar .xo<|c (VT _) e)<|aL<|nI<|nH (bm<|.bp (by rw[zO,Z6 j];rfl))<|bm<|ar (am .bb .iM)<|c d.1 d.2) aZ
structure NH(n A:Nat)(h0:Hd)(T:.ah)(h:Hd):Prop where
 pre:∃g,h=h0++g/\g.length=n+1
 dc:∀j,j<n->h[A+j]?=some (.dct<|(nbs T j).map ug)
 rf:h[A+n]?=some (.lst .fw)
def NH.put(a:A=h0.length)(N:NH n A h0 T h){j:Nat}(hj:j<n)(c:cv):(∃g,h.set (A+j) c=h0++g/\g.length=n+1)/\(h.set (A+j) c)[A+j]?=some c/\(∀k,k≠j->(h.set (A+j) c)[A+k]?=h[A+k]?):=by
 obtain⟨g,e,l⟩:=N.pre;have lt:=(zS.mp<|N.dc j hj).1;exact⟨⟨g.set j c,by rw[e,iQ a],by rw[WH];exact l⟩,Z1 lt,λk b=>ZP λz=>b (XT z).symm⟩
def J3{i j:Nat}(hn:n<=30)(O:.aR):((nbs .iP j).map ug).length<SZ:=by
 rw[ZA];exact ZS (ZM (List.length_filterMap_le _ _)<|ZM .yv<|ZM O.len<|UR (UA 30 hn) 0) .c
noncomputable abbrev XN(n tk A:Nat)(a b c:.P):Sd:=[some .U,some .bD,some .iw,a,b,c]
def Nm{tk i:Nat}(hn:n<=30)(O:.aR)(E:.ge)(N:NH n A h .iP h0)(mt:t∈T)(un:∀s∈T.take i,iq s t)(w:T.take (i+1)=T.take i++[t])(b c:.P):
  ∃m,kD (XN n tk A (some (cH t)) b c) h0=.nx (XN n tk A (some<|cH t) (some<|.int t.a)<|some<|.int t.b) m/\NH n A h (T.take<|i+1) m:=by
 have f:=O.ne t mt;have a:=O.lt t mt;have B:far t.a t=some t.b:=z4 rfl;have G:far t.b t=some t.a:=(yD f).trans (z4 rfl);have J:=D6 B un;have K:=D6 G un;have q:∀j:Nat,j < n->atI ((.k).map λi=>D.ref (A + i)) (j:Int)=some (.ref<|A + j):=λj v=>du (by rw[ZQ,YA v];rfl);have F:=q t.a a.1;have L:=q t.b a.2;have I:=N.dc t.a a.1;obtain⟨y,H,r⟩:=N.put E a.1 (.dct .wQ);obtain⟨k,p⟩:=q0 (h0.set (A + t.a)<|.dct .wQ);rw[<-p]at y H r;have o:k[A + n]? = some (.lst<|(.k).map λi=>.ref (A + i)):=(r n<|YN a.1).trans N.rf;have C:k[A + t.b]? = some (.dct<|(nbs .iP t.b).map ug):=(r t.b<|WQ f).trans (N.dc t.b a.2);obtain⟨m,d⟩:=q0 (k.set (A + t.b)<|.dct<|(nbs .iP t.b++[(t.a,t.w)]).map ug);refine⟨m,sx (dy<|ee<|bm<|ar .iM<|G8 f a.1 a.2 (O.wt t mt) h0) (sx (aD .bb) (sx (aD .bb) (sx (dy<|bm<|av rfl .y5 (by rw[Qz I,G7 J];rfl)) (sx (h':=k) (by
  rw[p,<-B0 J];exact FC .bb .y5 rfl I (J3 hn O)) (by
  rw[d,<-B0 K];exact FC .bb (.fh (bc o) L) rfl C (J3 hn O)))))),?_,λj v=>?_,?_⟩
 ·obtain⟨g,e,l⟩:=y
  exact⟨_,by rw[d,e,iQ E],by rw[WH];exact l⟩
 ·rw[w,BZ]
  by_cases x:t.b=j
  ·subst x
   rw[d,QD _ C,G]
  ·rw[d,ZP (λz=>x (XT z))]
   by_cases u:t.a=j
   ·subst u
    rw[H,B]
   ·have:far j t=none:=(yD u).trans (yD x)
    rw[r j (WQ u),this,N.dc j v];simp
 ·rw[d];exact(ZP (λz=>ZN a.2 (XT z))).trans o
def G9(w:.ge):∃h1 g,bU none ((.k).map λk:Nat=>D.int k) .B [] EY ((.k).map λk:Nat=>D.int k) .bu h=.ok .fw h1/\h1=h++g/\g.length=n/\∀j,j<n->h1[A+j]?=some (.dct []):=by
 obtain⟨t,h1,z,q,u,s,-,g,v,b,m⟩:=lV (g:=none) (tg:=gN 0) (k:=0)
  (e:=EY) (σ:=.bu) (h:=h)
  (P:=λi σ p=>(∃a,σ = [a])/\∃g,p=h++g/\g.length=i/\∀j,j < i->p[A + j]? = some (.dct [])) (V:=λi d=>d=.ref (A + i)) .b0 (by
   rintro i x σ l B ⟨⟨a,rfl⟩,g,o,b,c⟩;obtain⟨C,rfl⟩:=dG B;rw[YE]at b c⊢;have r:l.length=A+i:=by rw[o,ZB,b,w]
   refine⟨_,rfl,.ref l.length,l++[.dct []],rfl,by rw[r],⟨_,rfl⟩,g++[.dct []],by rw[o,ZU],by rw[ZB,b];rfl,λj f=>?_⟩
   by_cases hji:j<i
   ·exact .j (c j hji)
   ·rw[Nat.le_antisymm (WA f) (VN.mp hji),<-r];exact ZG) ⟨⟨_,rfl⟩,[],(XD _).symm,rfl,λj f=>absurd f .em⟩
 rw[ZA,ZO]at q;rw[YE,ZA,ZO]at b m;have c:t=(.k).map λi=>.ref (A+i):=vN q λi d y=>by have:=u i d y;rwa[YE]at this
 exact⟨h1,g,by rw[z,c],v,b,m⟩
inductive NI(n A tk:Nat)(h:Hd)(T:.ah):Nat->Sd->Hd->Prop
 |mk {i:Nat} {h':Hd} {a b c:.P} (N:NH n A h .iP h'):NI n A tk h T i (XN n tk A a b c) h'
def xg(M:1<=n)(hn:n<=30)(O:.aR)(ht:.tu):
  ∃h',jh [.int n,.ref tk] h=.ok (.ref<|h.length+n) h'/\NH n h.length h T h':=by
 obtain⟨A,o⟩:=q0 .cQ;rw[<-o];obtain⟨t,g,D,p,w,I⟩:=G9 o;obtain⟨l,d⟩:=q0 (t++[.lst .fw]);have m:t.length=A+n:=by rw[p,ZB,w,o]
 have G:NH n A h [] l:=⟨⟨g++[.lst .fw],by rw[d,p,ZU],by rw[ZB,w];rfl⟩,λj J=>by rw[d];exact .j (I j J),by rw[d,<-m];exact ZG⟩;obtain⟨_,F,L,@⟨_,U,Q,R,u⟩⟩:=cI (P:=NI n A tk h T) (g:=some tk) (k:=0)
   (λ_ _ h' q=>by
    obtain⟨N⟩:=q;obtain⟨g,e,_⟩:=N.pre;rw[e];exact .j ht)
   (xs:=T.map cH) (tg:=gN 3) (σ:=XN n tk A none none none) (h:=l) (b:=kD) (by
   intro i x σ S r z;rw[YE]at z⊢;obtain @⟨_,a,b,c,N⟩:=z;have f:i<T.length:=by have:=(zS.mp r).1;rwa[ZA]at this
   rw[ZQ,ZE f]at r;cases r;have y:T[i]∈T:=YR f;have E:∀s∈T.take i,iq s T[i]:=λs B=>by
    obtain⟨k,v,rfl⟩:=UY B;rw[WI]at v;rw[List.getElem_take];exact Y9.mp O.un k i _ f (Z5 v<|Nat.min_le_left _ _)
   obtain⟨K,H,C⟩:=Nm (tk:=tk) hn O o N y E (V3 f) b c;exact⟨_,rfl,_,K,H,.mk C⟩) (.mk G)
 rw[YE,ZA,XH]at u;refine⟨F,XM (bJ (σ:=[some .U,some .bD,none,none,none,none]) rfl rfl (sx (dy<|ee<|bm<|zM rfl ht) (sx (σ':=[some .U,some .bD,some (.ref<|A + n),none,none,none]) (h':=l) (by
  rw[d,<-m];exact aD (bS (cM (dJ rfl<|ZM hn .c) D) (by rw[ZA,ZO];exact ZM hn .c))) (sx (eW (.cF (by rw[d,p];exact .j (.j ht))) L) .f5)))) (by simp[letGo,pure?]),u⟩
def Si(a b:Int)(h:Hd):oNe (.int a) (.int b) h=.ok .q9 h:=rfl
def zQ{l:.i}(nd:l.Nodup)(h:∀x∈l,x<n):l.length<=n:=by
 induction n generalizing l with
 |zero=>match l,h with
  |[],_=>exact ZL _
  |x::_,h=>exact absurd (h x ZV) .em
 |succ n b =>
  by_cases m:n∈l
  ·have:=b (nd.erase n) λx a=>by
    have z:=(List.Nodup.mem_erase_iff nd).mp a;exact WV (WA<|h x z.2) z.1
   rw[List.length_erase_of_mem m]at this;exact Nat.le_add_of_sub_le this
  ·exact V2 (b nd λx a=>WV (WA<|h x a) λz=>m (z▸a))
/---/def aM(n:Nat)(T:.ah)(bs:.b)(ss:.y):Web:=⟨(.k).map λi=>bZ .aN,bs,ss⟩
theorem qD:∀l:List .aT,ie .n3=some (l.map qC)
 |[]=>rfl
 |p::l=>by
  have a:=qD l;simp;show (ie .n3).map _=_;rw[a];rfl
def jI(un:T.Pairwise iq)(i:Nat):((.aN).map (·.1)).Nodup:=by
 unfold nbs
 induction T with
 |nil=>simp
 |cons t T a =>
  obtain⟨d,c⟩:=Z4.mp un;have a:=a c;cases e:far i t with
  |none=>dsimp[X3,e,Option.map_none];exact a
  |some j =>
   dsimp[X3,e,Y8,yP,XI];refine⟨λz=>?_,a⟩;obtain⟨p,g,b⟩:=z5.mp z;exact D6 e (λs f=>(d s f).symm) p g b
def Nn{l:.as}(nd:(l.map (·.1)).Nodup):(l.map qC).Nodup:=by
 rw[YL,YJ]at nd⊢;exact nd.imp λ{a b} h e=>h (by have:=(List.cons.inj e).1;lia)
def yn{α:Type}{l:List α}:i9 .zG=some .rS:=by
 induction l with
 |nil=>rfl
 |cons x l a=>simp[i9,a]
def zT{d bk:Nat}{bs:.b}(hn:h[d]?=some .b3)(k:.cx)(hb:h[bk]?=some .bA)(lb:.aX):j9 [.ref d,.ref bk] h=.ok (.tup .c6) h:=by
 have c:bU (some bk) .g7 .B [] .nT .g7 .bu h=.ok ((.g7).map λ_=>D.bl true) h:=by
  have:=br (g:=some bk) (tg:=gN 0) (cs:=[]) (e:=af eX .F) (I:=λσ=>∃a,σ = [a]) .aM .nj hb (xs:=bs.map D.int) (σ:=.bu) (by
   rintro x j σ ⟨a,rfl⟩;obtain⟨i,_,rfl⟩:=z5.mp j;exact⟨_,rfl,⟨_,rfl⟩,rfl,λ_=>ar .cg (qx _ _)⟩) ⟨_,rfl⟩
  rw[this,Z9.mpr .e]
 have f:((.g7).map λ_=>true).all id=true:=by simp
 exact XM (bJ (σ:=[some .dc,some (.ref bk)]) rfl rfl<|sx (dy .bc)<|sx (dy<|jd (.d1<|bm<|zM rfl hb)<|bm<|av (dI<|.cE<|bc hb) (dI<|.cE<|bc hn) (by rw[Si,ZA,lb,k,ZZ rfl];rfl))<|sx (dy<|.d1<|bm<|XM (zN (cM (.cF hb) c) yn) (by rw[f]))<|aL<|gS<|.cE<|bc hb) aZ
def xh{ss:.y}(d:.tv)(ls:.aQ)(os:.bo):ji [.int n,.ref sk] h=.ok (.tup .aD) h:=by
 have c:bU (some sk) .aD .B [] (fT .qy) .aD .bu h=.ok ((.aD).map λ_=>D.bl true) h:=by
  have:=br (g:=some sk) (tg:=gN 0) (cs:=[]) (e:=fT .qy) (I:=λσ=>∃a,σ = [a]) .aM .nj d (xs:=ss.map aP) (σ:=.bu) (by
   rintro x j σ ⟨a,rfl⟩;obtain⟨i,f,rfl⟩:=z5.mp j;refine⟨_,rfl,⟨_,rfl⟩,rfl,λ_=>?_⟩;rcases os i f with e|e|e<;>subst e
   ·exact nI (zL .bc)
   ·exact nI (jd .bc<|bm<|.W<|jH 0 h)
   ·exact nI (jd .bc<|bm<|.W<|jH 1 h)) ⟨_,rfl⟩
  rw[this,Z9.mpr .e]
 exact XM (bJ (σ:=[some .U,some (.ref sk)]) rfl rfl<|sx (dy .bc)<|sx (dy<|jd (.d1<|bm<|zM rfl d)<|bm<|av (dI<|.cE<|bc d) rfl (by rw[Si,ZA,ls,ZZ rfl];rfl))<|sx (dy<|.d1<|bm<|XM (zN (cM (.cF d) c) yn) (by rw[List.all_map];simp))<|aL<|gS<|.cE<|bc d) aZ
def No(hn:n<=30)(O:.aR)(N:NH n A h T h1):
  bU (some<|A+n) .fw .B [] (dR<|rG .f) .fw .bu h1=.ok ((.jY).map nG) h1:=by
 have:=br (g:=some (A+n)) (tg:=gN 0) (cs:=[]) (e:=dR (rG .f)) (h:=h1) (I:=λσ=>∃a,σ=[a]) .aM
  (λd=>match d with | .ref k=>nG (bZ<|nbs T<|k - A)|_=>.non) N.rf (xs:=(.k).map λi=>.ref (A + i)) (σ:=.bu) (by
   rintro x j σ ⟨a,rfl⟩;obtain⟨i,f,rfl⟩:=z5.mp j;have f:=YD.mp f;refine⟨_,rfl,⟨_,rfl⟩,rfl,λ_=>?_⟩;have m:=jI O.un i;have l:((.aN).map qC).length<64:=by
    have lt:∀p∈nbs T i,p.1<n:=λp b=>by
     unfold nbs at b;obtain⟨t,c,q⟩:=WS.mp b;have:=O.lt t c;unfold far at q
     by_cases o:t.a=i
     ·rw[z4 o]at q;simp at q;subst q;exact this.2
     ·rw[yD o]at q
      by_cases r:t.b=i
      ·rw[z4 r]at q;simp at q;subst q;exact this.1
      ·rw[yD r]at q;cases q
    have:=zQ m (n:=n) (λx j=>by
     obtain⟨p,b,rfl⟩:=z5.mp j;exact lt p b)
    simp at this⊢;lia
   have e:((eA<|(.aN).map qC).map yV)=(bZ .aN).map gJ:=by rw[<-ym,y3];rfl
   dsimp[List.set_cons_zero,dR,rG,aa,slot,List.getElem?_cons_zero,aH,N.dc i f,qD,z4 (And.intro l<|Nn m),e,nG,UD]) ⟨_,rfl⟩
 rw[this,Z9.mpr .e,y3,y3];congr 1;apply YK;intro i _;simp
def oK(d:1<=n)(hn:n<=30)(O:.aR)(lb:.aX)(ls:.aQ)(os:.bo)
  (ht:.tu) (hb:h[bk]?=some .bA) (r:.tv):dM [.int n,.ref tk,.ref bk,.ref sk] h=.ok (.x).enc h:=by
 obtain⟨l,j,N⟩:=xg d hn O ht;obtain⟨A,q⟩:=q0 .cQ;rw[<-q]at j N;obtain⟨g,m,t⟩:=N.pre;have f:∀{k:Nat} {c:cv},h[k]?=some c->l[k]?=some c:=λ{k c} e=>by rw[m,ZC (.bs).1];exact e
 have a:=No hn O N;have s:=zT N.rf .e (f hb) lb;have i:=xh (f r) ls os;have o:(1:Int)<=n:=UW.mpr d;have p:(n:Int)<=30:=UW.mpr hn;have rf:=N.rf;refine XM (.ab<|sx (dy<|.d1<|bm<|ar (.cC .iM) (by rw[io,ZZ o,ZZ p];rfl))<|sx (aD<|ar .iM j)<|sx (aD<|gS<|cM (.cF rf) a)<|aL<|hV (.cC<|am (ar .iM s)<|.cD<|ar .iM i) (by exact Y3 rfl)) ?_;show letGo h (.ok (.x).enc l)=_;rw[m];exact cw (nO _)
theorem fV(s:.b):∀r:List .aT,aU r s=(r.map λp=>if s.getD p.1 0=1 then p.2 else 0).sum
 |[]=>rfl
 |p::r=>by
  have a:=fV s r;dsimp[aU,eY,XR,yP,VL]at a⊢
  by_cases e:s.getD p.1 0=1
  ·dsimp[e,decide_true,WB,yP,VL];rw[a]
  ·dsimp[e,decide_false,WN,Y4];rw[a];lia
def nP(s:.b)(r:.as):aU (bZ r) s=aU r s:=by rw[fV,fV,lh]
def l4(lt:.en):∀p∈nbs T i,p.1<n:=λp c=>by
 unfold nbs at c;obtain⟨t,a,q⟩:=WS.mp c;have:=lt t a;unfold far at q
 by_cases b:t.a=i
 ·rw[z4 b]at q;simp at q;subst q;exact this.2
 ·rw[yD b]at q
  by_cases d:t.b=i
  ·rw[z4 d]at q;simp at q;subst q;exact this.1
  ·rw[yD d]at q;cases q
def li(hn:n<=30)(O:.aR)(lb:.aX)(ls:.aQ):(.x).Ok n:=by
 refine⟨by simp[aM],lb,ls,λr a p b=>?_,by lia⟩;obtain⟨i,_,rfl⟩:=z5.mp a;exact l4 O.lt p (dg.mp b)
structure Uf(n:Nat)(T:.ah)(bs:.b)(ss:.y)(tk bk sk:Nat)(h:Hd):Prop where
 ti:h[tk]?=some .kL
 ba:h[bk]?=some .bA
 st:h[sk]?=some .df
theorem vV(h1:one<n):cR .x s one=match ss.getD one none with
  |some x=>x
  |none=>if 2*aU (nbs T one) s=bs.getD one 0 then s.getD one 0 else if bs.getD one 0<2*aU (nbs T one) s then 1 else 0:=by
 have e:((.x).ties.getD one [])=bZ (nbs T one):=by simp[aM,List.getD,h1]
 unfold cR;rw[e,nP];rfl
theorem jv{α:Type}{f:α->D}(h:∀x,peq (f x) (f x)=some true):∀l:List α,gY .dL .dL=some true
 |[]=>rfl
 |x::l=>by simp[gY,h x,jv h l]
theorem jw{α:Type}{f:α->D}(h:∀x,dep (f x)<=k):∀l:List α,jT .dL<=k
 |[]=>YZ _
 |x::l=>by simp;exact Nat.max_le.mpr ⟨h x,jw h l⟩
def FJ(w:Web):peq w.enc w.enc=some true/\dep w.enc<=20:=by
 have c:∀p:Nat × Int,peq (gJ p) (gJ p)=some true:=λp=>by simp[gJ,peq,gY]
 have d:∀r:List .aT,peq (nG r) (nG r)=some true:=λr=>by simp[nG,peq,jv c r]
 have a:∀x:Option Int,peq (aP x) (aP x)=some true:=λx=>by cases x<;>simp[aP,peq]
 have h:∀x:Int,peq .el .el=some true:=λx=>by simp[peq]
 have b:∀p:Nat × Int,dep (gJ p)<=1:=λp=>by simp[gJ,dep,jT]
 have f:∀r:List .aT,dep (nG r)<=2:=λr=>by have:=jw b r;simp[nG,dep];lia
 have g:∀x:Option Int,dep (aP x)<=0:=λx=>by cases x<;>simp[aP,dep]
 have e:∀x:Int,dep .el<=0:=λx=>by simp[dep]
 have j:=jw f w.ties;have i:=jw e w.bars;have k:=jw g w.stays;constructor
 ·simp[Web.enc,peq,gY,jv d w.ties,jv h w.bars,jv a w.stays]
 ·dsimp[Web.enc,dep,jT];lia
structure QE(n:Nat)(ss:.y)(s:.b):Prop where
 len:s.length=n
 op:∀x∈s,x=0\/x=1
 st:∀(i:Nat) x,ss[i]?=some .b7->s[i]?=some x
def QE.fits(f:QE n ss s)(T:.ah)(bs:.b):aX .x n s:=⟨f.len,f.op,f.st⟩
def sw(l:.b):pure? (ao l)=true:=by
 unfold ao;dsimp[pure?]
 induction l with
 |nil=>rfl
 |cons x l a=>simp[hX,pure?,a]
/---/def fE(ss:.y):List Int:=ss.map λu=>if u=some 1 then 1 else 0
/---/def fW(ss:.y):List Int:=ss.map λu=>if u=some 0 then 0 else 1
def sy(W:w.Ok n)(S:bN w):.bz .eV:=by
 refine⟨by simp[fE,W.s],λx a=>?_,λi x a=>?_⟩
 ·obtain⟨u,_,rfl⟩:=z5.mp a
  split<;>simp
 ·have:=S _ (ZK a)
  simp at this;rcases this with e|e<;>subst e<;>simp[fE,a]
def sA(W:w.Ok n)(S:bN w):.bz .fM:=by
 refine⟨by simp[fW,W.s],λx a=>?_,λi x a=>?_⟩
 ·obtain⟨u,_,rfl⟩:=z5.mp a
  split<;>simp
 ·have:=S _ (ZK a)
  simp at this;rcases this with e|e<;>subst e<;>simp[fW,a]
def vW(F:.S):LeS .eV s:=λi=>by
 have b:=F.bits i;cases e:w.stays[i]? with
 |none =>
  have z:(.eV).getD i 0=0:=by simp[fE,List.getD,e]
  lia
 |some u =>
  by_cases c:u=some 1
  ·subst c
   have:=F.st i 1 e;simp[fE,List.getD,e,this]
  ·dsimp[fE,List.getD,ZQ,e,Y8,X2,yD c]at b⊢;lia
def B4(W:w.Ok n)(F:.S):LeS s .fM:=λi=>by
 have b:=F.bits i;cases e:w.stays[i]? with
 |none =>
  have l:w.stays.length<=i:=List.getElem?_eq_none_iff.mp e;have a:s.length<=i:=by rw[F.len,<-W.s];exact l
  simp[fW,List.getD,e,wZ a]
 |some u =>
  by_cases c:u=some 0
  ·subst c
   have:=F.st i 0 e;simp[fW,List.getD,e,this]
  ·dsimp[fW,List.getD,ZQ,e,Y8,X2,yD c]at b⊢;lia
noncomputable def pN(s:.b):Nat->Int
 |0=>0
 |n+1=>pN s n+s.getD n 0
theorem qE{s:.b}(B:nK s):∀n,0<=pN s n/\pN s n<=n
 |0=>by simp[pN]
 |n+1=>by have:=qE B n;have:=B n;rw[pN];lia
theorem FK{a b:.b}(l:LeS a b):∀n,pN a n<=pN b n
 |0=>X5 _
 |n+1=>by have:=FK l n;have:=l n;rw[pN,pN];lia
def ol1{A B y:Int}(h:A<=B)(l:x<=y)(ne:x≠y):A+x+1<=B+y:=by lia
def ol2{A B y:Int}(h:A+1<=B)(l:x<=y):A+x+1<=B+y:=by lia
theorem zU{a b:.b}(l:LeS a b):∀{n:Nat},(∃p,p<n/\a.getD p 0≠b.getD p 0)->pN a n+1<=pN b n
 |0,h=>by obtain⟨p,hp,_⟩:=h;exact absurd hp .em
 |n+1,h=>by
  obtain⟨p,hp,ne⟩:=h;have c:=l n;rw[pN,pN]
  by_cases e:p=n
  ·subst e
   exact ol1 (FK l p) c ne
  ·exact ol2 (zU l ⟨p,WV (WA hp) e,ne⟩) c
def Oz{a:.b}(ha:.e7)(hb:.gc)(h:a≠b):∃p,p<n/\a.getD p 0≠b.getD p 0:=by
 by_cases c:∃p,p<n/\a.getD p 0≠b.getD p 0
 ·exact c
 ·exfalso
  apply h;apply UB .a;intro i f d
  by_cases e:.gy 0=b.getD i 0
  ·simpa[List.getD,f,d] using e
  ·exact absurd ⟨i,by lia,e⟩ c
section
variable{w:Web}{n:Nat}{s:.b}
theorem yo(W:w.Ok n)(S:bN w)(M:.gj)(F:.S)(r:LeS s .Z):∀k,LeS .ck .rC
 |0=>r
 |k+1=>M.go _ _ .eW .kF (yo W S M F r k)
theorem yp(W:w.Ok n)(S:bN w)(M:.gj)(F:.S)(r:LeS .Z s):∀k,LeS .rC .ck
 |0=>r
 |k+1=>M.go _ _ .kF .eW (yp W S M F r k)
theorem gc(h:.oj):∀k,t<=k->.p s k=.p s t
 |0,a=>by rw[Nat.le_zero.mp a]
 |k+1,a=>by
  by_cases e:t=k+1
  ·subst e;rfl
  ·rw[hist,gc h k (WA<|WV a e)];exact h
def D7(W:w.Ok n)(S:bN w)(M:.gj)(F:.S)(r:LeS s .Z):∃t,t<=n/\.p s (t+1)=.p s t:=by
 by_cases c:∃t,t<=n/\.p s (t+1)=.p s t
 ·exact c
 ·exfalso
  have a:∀k:Nat,k<=n+1->(k:Int)<=pN .ck n:=λk=>by
   induction k with
   |zero=>intro _;have:=qE F.bits n;simp[hist];lia
   |succ k d =>
    intro b;have ne:hist w n s k≠hist w n s (k+1):=λz=>c ⟨k,by lia,z.symm⟩;have:=zU (yo W S M F r k) (Oz (.eW).len (.kF).len ne);lia
  have:=a (n+1) .r;have:=qE (.fj<|n+1).bits n;lia
def vX(W:w.Ok n)(S:bN w)(M:.gj)(F:.S)(r:LeS .Z s):∃t,t<=n/\.p s (t+1)=.p s t:=by
 by_cases c:∃t,t<=n/\.p s (t+1)=.p s t
 ·exact c
 ·exfalso
  have a:∀k:Nat,k<=n+1->pN .ck n+k<=n:=λk=>by
   induction k with
   |zero=>intro _;have:=qE F.bits n;simp[hist];lia
   |succ k d =>
    intro b;have ne:hist w n s (k+1)≠hist w n s k:=λz=>c ⟨k,by lia,z⟩;have:=zU (yp W S M F r k) (Oz (.kF).len (.eW).len ne);lia
  have:=a (n+1) .r;have:=qE (.fj<|n+1).bits n;lia
def lt2(a t:Nat):t<=a+2*t/\t<=a+2*t+1:=by lia
def TW(h:.oj):∃b,b<=t/\.p s (b+2)=hist w n s b/\(∀k,k<b->hist w n s (k+2)≠hist w n s k)/\hist w n s b=hist w n s t/\.p s (b+1)=.p s t:=by
 have q:∃k,hist w n s (k+2)=.p s k:=⟨t,by rw[gc h (t+2) (YF t 2)]⟩;have o:∃k,hist w n s (k+2)=hist w n s k/\∀j,j<k->hist w n s (j+2)≠hist w n s j:=by
  obtain⟨k,u⟩:=q
  induction k using Nat.strongRecOn with
  |_ k f =>
   by_cases c:∃j,j<k/\hist w n s (j+2)=.p s j
   ·obtain⟨j,g,e⟩:=c
    exact f j g e
   ·exact⟨k,u,λj g e=>c ⟨j,g,e⟩⟩
 obtain⟨b,i,l⟩:=o;have r:b<=t:=by
  by_cases z:b<=t
  ·exact z
  ·exact absurd (by rw[gc h (t+2) (YF t 2)]) (l t<|Nat.not_le.mp z)
 have d:∀m,hist w n s (b+2*m)=hist w n s b/\.p s (b+2*m+1)=.p s (b+1):=λm=>by
  induction m with
  |zero=>exact⟨rfl,rfl⟩
  |succ m f =>
   have p:b+2*(m+1)=(b+2*m+1)+1:=rfl;have a:.p s (b+2*(m+1))=.p s b:=by
    rw[p,hist,f.2,<-i];rfl
   refine⟨a,?_⟩;rw[hist,a];rfl
 refine⟨b,r,i,l,?_,?_⟩
 ·rw[<-(d t).1];exact gc h _ (lt2 b t).1
 ·rw[<-(d t).2];exact gc h _ (lt2 b t).2
def Ha(W:w.Ok n)(S:bN w)(F:.S)(h:.oj)(hz:t<=900000)(g:Hd):
  ∃(a:Nat) (L:List D),eZ .eh g=.ok (.tup [.int a,.str .kw,.ref g.length]) (g++[.lst L])/\atI L (-1)=some .mO:=by
 obtain⟨a,e,d,i,f,b⟩:=TW h;have q:=qA W S F d i (ZM e hz) g;have c:.p s (a+1)=.p s a:=by rw[f,b]
 refine⟨a,(.et<|a+2).map ao,?_,?_⟩
 ·rw[q,z4 c]
 ·rw[<-b];exact kZ (a+1) 1 .c
def oM(W:w.Ok n)(S:bN w)(F:.S)(h:.oj)(hz:t<=900000)(g:Hd):fj .eh g=.ok .mO g:=by
 obtain⟨c,L,q,a⟩:=Ha W S F h hz g;have d:atI [D.int c,.str .kw,.ref g.length] 2=some (.ref g.length):=rfl;have b:(g++[cv.lst L])[g.length]?=some (.lst L):=by simp
 have e:aS .xe [some w.enc,some .G] g=.rt .mO (g++[.lst L]):=by
  exact aL (bn (bn (.O q) rfl rfl d) rfl (bc b) a)
 exact (.ab e).trans (cw<|sw _)
end
section
variable{w:Web}{n:Nat}{s:.b}
def J4(S:bN w)(f:v=0\/v=1)(l:h[k]?=some .iK)(a:.P):bU .b8 .aq .B [] (fIf .h3 .d .f) .aq [a,some .cp] h=.ok ((.pW).map .int) h:=by
 have:=br (g:=some k) (tg:=gN 0) (cs:=[]) (e:=fIf .h3 .d .f) (I:=λσ=>∃a,σ=[a,some (.int v)]) .aM (λd=>match d with | .int i=>.int i|_=>.int v) l
  (xs:=w.stays.map aP) (σ:=[a,some .cp]) (by
   rintro x j σ ⟨c,rfl⟩;obtain⟨u,b,rfl⟩:=z5.mp j;refine⟨_,rfl,⟨_,rfl⟩,rfl,λ_=>?_⟩;cases u with
   |none=>exact(sf .bc).trans rfl
   |some z=>exact(vP .bc).trans rfl) ⟨_,rfl⟩
 rw[this,Z9.mpr .e,y3];congr 1;rcases f with e|e
 ·subst e
  rw[z4 rfl,fE,y3];apply YK;intro u b;rcases S u b with z|z|z<;>subst z<;>rfl
 ·subst e
  rw[yD .c,fW,y3];apply YK;intro u b;rcases S u b with z|z|z<;>subst z<;>rfl
def qF(W:w.Ok n)(S:bN w)(c:v=0\/v=1)(h:Hd):dL [w.enc,.int v] h=.ok (ao .pW) h:=by
 have a:=J4 S c (k:=h.length) ZG none;have d:(.aq).length<=SZ:=by rw[ZA,W.s];exact ZM W.sz .c
 have b:aK .Y h=.bK .bO:=(.ab<|aL<|bS .hd d).trans bW;generalize .pW=l at a⊢;have f:aS .vi [some w.enc,some .cp] h=.rt (ao l) .bO:=by
  exact aL (gS<|cM (cW (.W b) ZG) a)
 have e:([w.enc,D.int v].map some++List.replicate (2 - [w.enc,D.int v].length) none:Sd)=[some w.enc,some .cp]:=rfl;unfold dL bC runB;rw[z4 .f3,e,f];exact cw (sw _)
def B5(W:w.Ok n)(S:bN w)(M:.gj):∃t,t<=n/\.p .eV (t+1)=.p .eV t:=by
 have F:=sy W S;exact D7 W S M F (vW<|dS W S F)
def B6(W:w.Ok n)(S:bN w)(M:.gj):∃t,t<=n/\.p .fM (t+1)=.p .fM t:=by
 have F:=sA W S;exact vX W S M F (B4 W<|dS W S F)
def xi(W:w.Ok n)(S:bN w)(ht:t<=1000)(e:.p .eV (t+1)=.p .eV t)(h:Hd):cu .Y h=.ok (ao<|.p .eV t) h:=by
 have q1:=qF W S .ca h;rw[z4 rfl]at q1;have q2:=oM W S (sy W S) e .nU h;exact (.u7).trans aZ
def xj(W:w.Ok n)(S:bN w)(ht:t<=1000)(e:.p .fM (t+1)=.p .fM t)(h:Hd):bD .Y h=.ok (ao<|.p .fM t) h:=by
 have q1:=qF W S .gm h;rw[yD .c]at q1;have q2:=oM W S (sA W S) e .nU h;exact (.u7).trans aZ
def vY(W:w.Ok n)(F:.S)(h:Hd):k7 .eh h=.ok (.bl<|decide (.ai s=s)) h:=by
 have l:(.Z).length=s.length:=by rw[F.len];simp[ay]
 have q:=uK l h;exact (.ab<|(cz<|fB<|.O<|qy W F h).trans (aL<|av (.O<|hW W F h) rfl q)).trans aZ
def nQ(W:w.Ok n)(d:.cW)(f:.e9)(g:.ai a=a)(i:.ai b=b)(h:Hd):dD .gZ h=.ok .non h:=by
 have e:=vY W d h;have c:=vY W f h;rw[ZZ g]at e;rw[ZZ i]at c;exact(JY rfl rfl<|(cz<|fB<|.O<|qy W d h).trans ((cz<|fB<|.O<|qy W f h).trans (dy<|jd (ee<|bm<|.O e)<|ee<|bm<|.O c))).trans aZ
end
/---/def pO(a b:.b):List Int:=(.fX).map λp=>if p.2>p.1 then p.2 else p.1
/---/def jj(a b:.b):List Int:=(.fX).map λp=>if p.2<p.1 then p.2 else p.1
theorem vZ{G:Hd->Prop}(a:∀h,G h){tg:GF}{cs:List TF}{e:EF}{all:List D}:∀{xs:List D} {σ:Sd} {h:Hd},dX G tg cs e xs σ h=bU none all tg cs e xs σ h
 |[],σ,h=>by unfold dX bU;rw[z4 (a h),z4 (show held none all h from trivial)]
 |x::xs,σ,h=>by
  unfold dX bU;rw[z4 (a h),z4 (show held none all h from trivial)];cases tg x σ with
  |none=>rfl
  |some σ'=>dsimp[vZ a (all:=all)]
theorem yq{G:Hd->Prop}(a:∀h,G h){tg:GF}{b:SF}{all:List D}:∀{xs:List D} {σ:Sd} {h:Hd},pB G tg b xs σ h=eM none all tg b xs σ h
 |[],σ,h=>by unfold pB eM;rw[z4 (a h),z4 (show held none all h from trivial)]
 |x::xs,σ,h=>by
  unfold pB eM;rw[z4 (a h),z4 (show held none all h from trivial)];cases tg x σ with
  |none=>rfl
  |some σ' =>
   show (match b σ' h with | .nx σ h=>pB G tg b xs σ h | .ct σ h=>pB G tg b xs σ h | .bk σ h=>.nx σ h|r=>r)=(match b σ' h with | .nx σ h=>eM none all tg b xs σ h | .ct σ h=>eM none all tg b xs σ h | .bk σ h=>.nx σ h|r=>r);cases b σ' h<;>first|rfl|exact yq a
def yr{nl:Nat}{caps:.i}{a b:EF}{cs:List TF}{c:Hd}{k all:List D}(p:.tq)(q:b σ h1=.ok (.tup k) h2)(r:bU none all tg cs e .j0 .kJ h2=.ok ds c):kA nl caps a b tg cs e σ h=.ok ds c:=by
 rw[<-r,<-vZ (G:=λh=>held none l h/\held none k h) λh=>⟨trivial,trivial⟩];unfold kA;rw[p];dsimp[q,zsrc]
def J5{a b:EF}{c:SF}{k all:List D}{o:Out}(p:.tq)(q:b σ h1=.ok (.tup k) h2)(r:eM none all tg c .j0 σ h2=o):tJ a b tg c σ h=o:=by
 rw[<-r,<-yq (G:=λh=>held none l h/\held none k h) λh=>⟨trivial,trivial⟩];unfold tJ;rw[p];dsimp[q,zsrc]
def B7{g:.gb}(f:∀(x y:Int) (h:Hd),E [some .el,some (.int y)] h=.ok (.int<|g x y) h)(a b:.b)(u v:.P)(h:Hd):bU none .yy .ax [] E .yy [u,v] h=.ok ((.yV).map .int) h:=by
 have e:(.uM).map (λp=>D.tup .eZ)=(.fX).map λp=>D.tup .eD:=by
  rw[List.zip_map,y3];rfl
 rw[e];have:=br (g:=none) (all:=(.fX).map λp=>D.tup .eD) (tg:=gT [0,1]) (cs:=[]) (h:=h) (I:=λσ=>∃a b,σ=[a,b]) .aM (λd=>match d with | .tup [.int x,.int y]=>.int (g x y)|_=>.non) trivial
  (xs:=(.fX).map λp=>D.tup .eD) (σ:=[u,v]) (by
   rintro x i σ ⟨c,d,rfl⟩;obtain⟨p,j,rfl⟩:=z5.mp i;exact⟨_,rfl,⟨_,_,rfl⟩,rfl,λ_=>f _ _ _⟩) ⟨_,_,rfl⟩
 rw[this,Z9.mpr .e,y3,y3];rfl
def J6{g:.gb}{a:.b}(f:.e7)(lb:.gc)(hi:i<n):.yV[i]?=some (g (.gy 0)<|b.getD i 0):=by
 have d:i<a.length:=f▸hi;have c:i<b.length:=lb▸hi;have e:i<(.fX).length:=by rw[List.length_zip];exact Nat.lt_min.mpr ⟨d,c⟩
 rw[ZQ,ZE e];simp[List.getD,d,c]
section
variable{w:Web}{n:Nat}{a b:.b}
def J7(d:.e7)(lb:.gc)(i:Nat):(.f1).getD i 0=if b.getD i 0>a.getD i 0 then b.getD i 0 else a.getD i 0:=by
 by_cases c:i<n
 ·rw[List.getD,pO,J6 (g:=λx y=>if y>x then y else x) d lb c];rfl
 ·have:¬i<(.f1).length:=by simp[pO];lia
  simp[List.getD,wZ (show a.length<=i by lia),wZ (show b.length<=i by lia),wZ (show (.f1).length<=i by lia)]
def v5(d:.e7)(lb:.gc)(i:Nat):(.b6).getD i 0=if b.getD i 0<a.getD i 0 then b.getD i 0 else a.getD i 0:=by
 by_cases c:i<n
 ·rw[List.getD,jj,J6 (g:=λx y=>if y<x then y else x) d lb c];rfl
 ·have:¬i<(.b6).length:=by simp[jj];lia
  simp[List.getD,wZ (show a.length<=i by lia),wZ (show b.length<=i by lia),wZ (show (.b6).length<=i by lia)]
def FL(W:w.Ok n)(lc:c.length=n)(B:nK c)(st:∀(i:Nat) (x:Int),w.stays[i]?=some .b7->c.getD i 0=x):.bz c:=by
 refine⟨lc,λx f=>?_,λi x e=>?_⟩
 ·obtain⟨i,d⟩:=List.mem_iff_getElem?.mp f
  have:=B i;simpa[List.getD,d] using this
 ·have d:i<c.length:=by rw[lc,<-W.s];exact (.bs).1
  have:=st i x e;dsimp[List.getD,ZE d,X2]at this;rw[ZE d,this]
def zV(F:.cW)(e:w.stays[i]?=some .b7):.gy 0=x:=by
 have:=F.st i x e;simp[List.getD,this]
def J8(W:w.Ok n)(d:.cW)(c:.e9):.bz .f1:=by
 refine FL W (by simp[pO];have:=d.len;have:=c.len;lia) (λi=>?_) λi x e=>?_
 ·rw[J7 d.len c.len]
  have:=d.bits i;have:=c.bits i;split<;>assumption
 ·rw[J7 d.len c.len,zV d e,zV c e];simp
def v6(W:w.Ok n)(d:.cW)(c:.e9):.bz .b6:=by
 refine FL W (by simp[jj];have:=d.len;have:=c.len;lia) (λi=>?_) λi x e=>?_
 ·rw[v5 d.len c.len]
  have:=d.bits i;have:=c.bits i;split<;>assumption
 ·rw[v5 d.len c.len,zV d e,zV c e];simp
def QF(c:.cW)(d:.e9):LeS .b6 a/\LeS .b6 b:=⟨λi=>by rw[v5 c.len d.len];split<;>lia,λi=>by rw[v5 c.len d.len];split<;>lia⟩
def Np(d:.cW)(e:.e9)(h1:LeS c a)(h2:LeS c b):LeS c .b6:=λi=>by
 rw[v5 d.len e.len];have:=h1 i;have:=h2 i;split<;>lia
def Hb(W:w.Ok n)(S:bN w)(M:.gj)(c:.cW)(d:.e9)(e:.ai a=a)(f:.ai b=b):∃t,t<=n/\.p .b6 (t+1)=.p .b6 t:=by
 have Fm:=v6 W c d;have l:=QF c d;refine vX W S M Fm (Np c d ?_ ?_)
 ·have:=M.go _ _ Fm c l.1;rwa[e]at this
 ·have:=M.go _ _ Fm d l.2;rwa[f]at this
def Hc(W:w.Ok n)(S:bN w)(f:.cW)(d:.e9)(m:.ai a=a)(o:.ai b=b)(ht:t<=1000)(e:.p .f1 (t+1)=.p .f1 t)(h:Hd):nM .gZ h=.ok .zR h:=by
 have c:=B7 (E:=vc .f .d) (λ_ _ _=>rfl) a b none none h;have q:=oM W S (J8 W f d) e .nU h;have k:=nQ W f d m o h;have j:gx .mo .eb h=.nx .eb h:=fB (ar .cO k);have g:dR (kA 2 [] .d .g .ax []<|vc .f .d) .eb h=.ok (ao .f1) h:=by
  exact gS (yr rfl rfl c)
 have i:aS .uA .eb h=.rt .zR h:=by
  exact aL .yt
 have l:((.gZ).map some++List.replicate (3 - (.gZ).length) none:Sd)=.eb:=rfl;exact (.yb).trans aZ
def QG(W:w.Ok n)(S:bN w)(f:.cW)(d:.e9)(m:.ai a=a)(o:.ai b=b)(ht:t<=1000)(e:.p .b6 (t+1)=.p .b6 t)(h:Hd):BU .gZ h=.ok (ao .kk) h:=by
 have c:=B7 (E:=ue .f .d) (λ_ _ _=>rfl) a b none none h;have q:=oM W S (v6 W f d) e .nU h;have k:=nQ W f d m o h;have j:gx .mo .eb h=.nx .eb h:=fB (ar .cO k);have g:dR (kA 2 [] .d .g .ax []<|ue .f .d) .eb h=.ok (ao .b6) h:=by
  exact gS (yr rfl rfl c)
 have i:aS .uB .eb h=.rt (ao .kk) h:=by
  exact aL .yt
 have l:((.gZ).map some++List.replicate (3 - (.gZ).length) none:Sd)=.eb:=rfl;exact (.yb).trans aZ
end
/---/def bM:Fn:=bC 2 2 (aA (sIf .x1 (aS<|fAt .f .d) bT)
  (aS<|.a3 (.ba (.ba (fC<|.int 71) .d) .d)<|.ba .h5 .d))
noncomputable abbrev v7:SF:=(sIf (tE .j5) (aA (.bW .tK)
  (gx<|mY .D<|.a9 (aq jy .au .h5) .h)) (aA (gx<|mY .D<|.a9 .au .h)
  (.bW<|aq jy .au .h)))
/---/def d5:Fn:=bC 4 7 (aA .sF
  (aA (.bW .f)
  (aA (sIf (tE .j5) .tV bT)
  (aA (fz (ce .g) .bn v7)
  (aS .D)))))
noncomputable abbrev jJ:SF:=(nn (aa 9) .ak<|fIx (ab (aq fM (fAt (aa 10) .ak)<|fC<|.int 1000)<|ab (aq fM (.a3 (fAt (aa 9) .ak)<|.a9 (fAt (aa 10) .ak) .h5) .fo) aj)<|.a9 (aq jy .g<|fC<|.int 256) .K)
noncomputable abbrev pP:SF:=(aA (aG (gN 8) .uo)
  (aA (sIf .l1 .tH bT)
  (aA (nn (fAt .D .ak) .bj .dR)
  (nn (fAt .D .bj) .ak .dR))))
noncomputable abbrev l8:SF:=(fz (ce .ak) (gN 7) pP)
/---/def lq:Fn:=bC 2 12 (aA (.a1<|af bM .kn)
  (aA (.bG .wr)
  (aA (.dr .uW)
  (aA (.bW .t6)
  (aA (fz (ce .h) .bn l8)
  (aA (aG (gN 9) .v9)
  (aA (sIf .u0 (aA (aG (gN 10) .pp)
  .Af) bT)
  (aA (.jJ .yR)
  (aA (sIf .uZ (aA (.bW .pl)
  (.jJ .pP)) bT)
  (aS .v6))))))))))
noncomputable abbrev wc:SF:=(sIf (tE<|aq oGt .qQ .H) (gx<|mY .d<|d9<|ab .h<|ab .g<|ab .qQ aj) bT)
noncomputable abbrev pQ:SF:=(fz (ce .g) .bR wc)
/---/def iJ:Fn:=bC 1 4 (aA .sE
  (aA (fz (ce<|cT .fy) .ef pQ)
  (aS .d)))
noncomputable abbrev md:SF:=(aA (gx .zF)
  (sIf .z3 (nn .g .h .ri) bT))
/---/def iV:Fn:=bC 2 4 (aA (.a1 .bE)
  (aA (fz (ce .dA) .bR md)
  (aS<|dR<|lOf .g)))
/---/def nS:Fn:=bC 1 1 (aS<|af dM .uv)
theorem yt{x:.cT}:∀{r:.as},(∀p∈r,p.1≠x.1)->r.Pairwise .kC->(pM x r).Pairwise .kC
 |[],_,_=>by simp[pM]
 |y::r,hne,hp=>by
  obtain⟨h1,h2⟩:=Z4.mp hp;have g:=hne y .e;have f:=yt (λp hp=>hne p (by simp[hp])) h2;have e:lexLt (qC x) (qC y)=decide (x.1<y.1):=by
   dsimp[qC,lexLt];rw[yD .a];simp
  dsimp[pM];split
  ·rename_i c
   rw[e,X7]at c;refine Z4.mpr ⟨λb d=>?_,hp⟩;rcases y4.mp d with z|d
   ·rw[z];exact c
   ·exact YC c (h1 b d)
  ·rename_i c
   rw[e,X7]at c;refine Z4.mpr ⟨λb d=>?_,f⟩;rcases vU.mp d with z|d
   ·rw[z];lia
   ·exact h1 b d
theorem jK:∀{r:.as},(r.map (·.1)).Nodup->(bZ r).Pairwise .kC
 |[],_=>by simp[bZ]
 |x::r,nd=>by
  rw[yP,XI]at nd;refine yt (λp hp e=>nd.1 ?_) (jK nd.2);rw[<-e];exact z5.mpr ⟨p,dg.mp hp,rfl⟩
theorem FM:∀{a b:.as},a.Pairwise .kC->b.Pairwise .kC->(∀p,p∈a↔p∈b)->a=b
 |[],[],_,_,_=>rfl
 |[],y::b,_,_,h=>absurd ((h y).mpr .e) .e
 |x::a,[],_,_,h=>absurd ((h x).mp .e) .e
 |x::a,y::b,ha,hb,h=>by
  obtain⟨g,j⟩:=Z4.mp ha;obtain⟨f,i⟩:=Z4.mp hb;have e:x=y:=by
   rcases y4.mp ((h x).mp .e) with e|e
   ·exact e
   ·rcases y4.mp ((h y).mpr .e) with d|d
    ·exact d.symm
    ·have q1:=f x e
     have q2:=g y d;lia
  subst e;have t:=FM j i λp=>⟨λc=>by
   rcases y4.mp ((h p).mp .k0) with e|e
   ·subst e;exact absurd (g p c) (YI _)
   ·exact e,λc=>by
   rcases y4.mp ((h p).mpr .k0) with e|e
   ·subst e;exact absurd (f p c) (YI _)
   ·exact e⟩
  rw[t]
def pR{a b:.as}(c:(a.map (·.1)).Nodup)(d:(b.map (·.1)).Nodup)(h:∀p,p∈a↔p∈b):bZ a=bZ b :=
 FM (jK c) (jK d) λp=>by rw[dg,dg];exact h p
def jm{p:.cT}:p∈nbs T i ↔ ∃t∈T,far i t=some p.1/\t.w=p.2:=by
 unfold nbs;rw[WS];constructor
 ·rintro⟨t,a,q⟩
  cases e:far i t with
  |none=>rw[e]at q;cases q
  |some j=>rw[e]at q;simp at q;subst q;exact⟨t,a,e,rfl⟩
 ·rintro⟨t,a,q1,q2⟩
  exact⟨t,a,by rw[q1,q2];rfl⟩
def J9(ne:t.a≠t.b){i j:Nat}(h:.oI):far j t=some i:=by
 unfold far at h⊢
 by_cases a:t.a=i
 ·rw[z4 a]at h
  cases h;rw[yD ne,z4 rfl,a]
 ·rw[yD a]at h
  by_cases b:t.b=i
  ·rw[z4 b]at h
   cases h;rw[z4 rfl,b]
  ·rw[yD b]at h;cases h
def B8(ne:∀t∈T,t.a≠t.b){i j:Nat}(h:(j,x)∈nbs T i):(i,x)∈nbs T j:=by
 obtain⟨t,a,q1,q2⟩:=jm.mp h;exact jm.mpr ⟨t,a,J9 (ne t a) q1,q2⟩
def QH(ne:t.a≠t.b){i j:Nat}(h:.oI):i≠j:=by
 unfold far at h
 by_cases a:t.a=i
 ·rw[z4 a]at h;cases h;lia
 ·rw[yD a]at h
  by_cases b:t.b=i
  ·rw[z4 b]at h;cases h;lia
  ·rw[yD b]at h;cases h
/---/def iW(i:Nat)(r:.as):List Tie:=(r.filter λp=>decide (i<p.1)).map λp=>⟨i,p.1,p.2⟩
noncomputable def iX(R:List (List .aT)):Nat->List Tie
 |0=>[]
 |k+1=>iX R k++iW k .sS
def yu:t∈iW i r↔t.a=i/\i<t.b/\(t.b,t.w)∈r:=by
 unfold iW;rw[z5];constructor
 ·rintro⟨p,d,rfl⟩
  obtain⟨b,a⟩:=Y2.mp d;exact⟨rfl,by simpa using a,b⟩
 ·rintro⟨b,a,c⟩
  exact⟨_,Y2.mpr ⟨c,by simpa using a⟩,by cases t;cases b;rfl⟩
theorem sB:∀{k:Nat},t∈iX R k↔t.a<k/\t.a<t.b/\(t.b,t.w)∈R.getD t.a []
 |0=>by simp[iX]
 |k+1=>by
  rw[iX,Z0,sB,yu];constructor
  ·rintro (⟨h1,h2,a⟩|⟨h1,h2,a⟩)
   ·exact⟨by lia,h2,a⟩
   ·exact⟨by lia,by lia,by rw[h1];exact a⟩
  ·rintro⟨h1,h2,a⟩
   by_cases c:t.a<k
   ·exact .inl ⟨c,h2,a⟩
   ·have:t.a=k:=by lia
    exact .inr ⟨this,by lia,by rw[<-this];exact a⟩
theorem B9(nd:∀i,((R.getD i []).map (·.1)).Nodup):∀k,(iX R k).Pairwise iq
 |0=>by simp[iX]
 |k+1=>by
  rw[iX,Z8];refine⟨B9 nd k,?_,λs d t ht=>?_⟩
  ·unfold iW
   rw[YJ];have n1:=nd k;rw[YL,YJ]at n1;refine(n1.filter _).imp_of_mem λ{a b} c l h=>?_;have m:k<a.1:=by simpa using (Y2.mp c).2
   exact⟨λz=>h z.2,λz=>by have:=z.2;simp at this;lia⟩
  ·obtain⟨g,e,_⟩:=sB.mp d
   obtain⟨f,j,_⟩:=yu.mp ht;exact⟨λz=>by lia,λz=>by lia⟩
theorem sC(l:∀i,(R.getD i []).length<=30):∀k,(iX R k).length<=30*k
 |0=>by simp[iX]
 |k+1=>by
  have c:=sC l k;have b:(iW k .sS).length<=(.sS).length:=by unfold iW;rw[ZA];exact Y0 _ _
  have a:=l k;rw[iX,ZB];lia
def He(h:p<n):(.x).ties.getD p []=bZ (nbs T p):=by simp[aM,List.getD,h]
def sE:∀r:List .aT,(bZ r).length=r.length:=λr=>by
 have:=lh (λ_=>1) r;have q:∀l:List .aT,(l.map λ_=>(1:Int)).sum=l.length:=λl=>by
  induction l with
  |nil=>rfl
  |cons x l a=>simp;lia
 rw[q,q]at this;lia
def zW(lt:.en)(un:T.Pairwise iq)(i:Nat):(.aN).length<=n:=by
 have:=zQ (jI un i) λx a=>by
  obtain⟨p,b,rfl⟩:=z5.mp a;exact l4 lt p b
 simpa using this
/---/def uh(n:Nat)(T:.ah):List Tie:=iX .jY n
def oN(hn:n<=30)(O:.aR):TOk n n 0 .fZ/\∀i,i<n->bZ (nbs .fZ i)=bZ .aN:=by
 have l:∀{i:Nat},i<n->.nh=bZ .aN:=λ{i} f=>by simp[List.getD,f]
 have m:∀{i:Nat},¬i<n->.nh=[]:=λ{i} f=>by simp[List.getD,f]
 have mem:∀{t:Tie},t∈uh n T↔t.a<n/\t.a<t.b/\(t.b,t.w)∈nbs T t.a:=λ{t}=>by
  unfold uh;rw[sB];constructor
  ·rintro⟨g,o,d⟩
   rw[l g,dg]at d;exact⟨g,o,d⟩
  ·rintro⟨g,o,d⟩
   exact⟨g,o,by rw[l g,dg];exact d⟩
 have z:∀i,((.nh).map (·.1)).Nodup:=λi=>by
  by_cases f:i<n
  ·rw[l f,YL,YJ]
   exact(jK<|jI O.un i).imp λ{a b} h e=>by lia
  ·rw[m f];simp
 have ok:TOk n n 0 .fZ:=by
  refine⟨λt k=>?_,λt k=>?_,λt k=>?_,λt k=>?_,B9 z n,?_⟩
  ·have:=(mem.mp k).2.1;lia
  ·obtain⟨g,o,d⟩:=mem.mp k
   exact⟨g,l4 O.lt _ d⟩
  ·obtain⟨g,o,d⟩:=mem.mp k
   obtain⟨s,u,_,q⟩:=jm.mp d;have q:s.w=t.w:=q;rw[<-q];exact O.wt s u
  ·obtain⟨g,o,d⟩:=mem.mp k
   exact .inl ⟨g,l4 O.lt _ d⟩
  ·have:=sC (λi=>by
    by_cases f:i<n
    ·rw[l f,sE]
     have:=zW O.lt O.un i;lia
    ·rw[m f];simp) n
   exact this
 refine⟨ok,λi f=>pR (jI ok.un i) (jI O.un i) λp=>?_⟩;obtain⟨j,x⟩:=p;constructor
 ·intro h
  obtain⟨t,k,q1,q2⟩:=jm.mp h;obtain⟨g,o,d⟩:=mem.mp k;have q2:t.w=x:=q2;subst q2;unfold far at q1
  by_cases w:t.a=i
  ·rw[z4 w]at q1
   have q1:t.b=j:=by simpa using q1
   rw[<-q1,<-w];exact d
  ·rw[yD w]at q1
   by_cases v:t.b=i
   ·rw[z4 v]at q1
    have q1:t.a=j:=by simpa using q1
    rw[<-q1,<-v];exact B8 O.ne d
   ·rw[yD v]at q1;cases q1
 ·intro h
  obtain⟨s,u,q1,q2⟩:=jm.mp h;have r:i≠j:=QH (O.ne s u) q1;have y:=l4 O.lt _ h
  by_cases c:i<j
  ·exact jm.mpr ⟨⟨i,j,x⟩,mem.mpr ⟨f,c,h⟩,by simp[far],rfl⟩
  ·exact jm.mpr ⟨⟨j,i,x⟩,mem.mpr ⟨y,by show j<i;lia,B8 O.ne h⟩,by simp[far,WQ r],rfl⟩
def we(bs:.b)(ss:.y)(h:∀i,i<n->bZ (nbs S i)=bZ .aN):aM n S bs ss=aM n T bs ss:=by
 unfold aM;congr 1;apply YK;intro i a;exact h i (YD.mp a)
def D8(hn:n<=30)(O:.aR)(bs:.b)(ss:.y):aM n .fZ bs ss=aM n T bs ss:=we bs ss (oN hn O).2
/---/def cO:Fn:=bC 1 1 (aS<|aI .fy)
noncomputable abbrev mf:SF:=(gx<|tH .d (bi 2 [2] (bV .iO) .ax .kf .m7))
/---/def cE:Fn:=bC 1 3 (aA .sE
  (aA (fz .li .ef mf)
  (aS .d)))
def D9(W:w.Ok n)(h:Hd):aQ .Y h=.d8 h:=by
 simp[aQ,bC,runB,Web.enc,W.t]
def wf(W:w.Ok n)(h:Hd):cO .Y h=.bK (h++[.lst .rQ]):=by
 have z:w.bars.length<=1000000:=by have:=W.b;have:=W.sz;lia
 simp[cO,bC,runB,Web.enc,SZ,z]
def tO(W:w.Ok n)(h:Hd):aK .Y h=.bK .bO:=by
 have z:w.stays.length<=1000000:=by have:=W.s;have:=W.sz;lia
 simp[aK,bC,runB,Web.enc,SZ,z]
def Ea(i:Nat)(r:.as)(h:Hd):.jA .kf .m7 .eQ [none,none,some .z] h=.ok .sV h:=by
 have:=br (g:=none) (all:=r.map gJ) (tg:=gT [0,1]) (cs:=.kf) (e:=d9 (ab .g .aw)) (h:=h) (I:=λσ=>∃a b,σ=[a,b,some .z])
  (λd=>match d with | .tup [.int j,_]=>decide ((i:Int) < j)|_=>false) (λd=>match d with | .tup [j,x]=>.tup [.int i,j,x] | _=>.non) trivial (xs:=r.map gJ) (σ:=[none,none,some .cX]) (by
  rintro x l σ ⟨a,b,rfl⟩;obtain⟨p,_,rfl⟩:=z5.mp l;exact⟨_,rfl,⟨_,_,rfl⟩,by by_cases c:i<p.1<;>simp[gJ,c],λ_=>rfl⟩) ⟨_,_,rfl⟩
 rw[this];congr 1;clear this
 induction r with
 |nil=>rfl
 |cons p r f =>
  unfold iW at f⊢
  by_cases c:i<p.1
  ·have k:(i:Int)<(p.1:Int):=by lia
   dsimp[yP,XR,gJ,ZZ c,ZZ k,WB,yP]at f⊢;rw[f];rfl
  ·have k:¬(i:Int)<(p.1:Int):=by lia
   dsimp[yP,XR,gJ,Z6 c,Z6 k,Y4,WN]at f⊢;rw[f]
def zX(W:w.Ok n)(n30:n<=30)(o:∀i,(.iu).length<=30)(h:Hd):cE .Y h=.bK (h++[.lst ((iX w.ties n).map cH)]):=by
 have K:.c4 .bE .ii h=.nx .qD .a6:=by simp[SZ]
 obtain⟨a,e,q,y,J,v⟩:=cI (P:=λi σ e=>∃y,σ=[some w.enc,some .lC,y]/\e=h++[.lst .zV]) (g:=none)
  (.b0) (tg:=gN 2) (h:=h++[.lst []]) (b:=mf) (by
  rintro i d σ R N ⟨y,rfl,rfl⟩;rw[YE] at *;obtain⟨s,rfl⟩:=dG N;have j:i<w.ties.length:=by rw[W.t];exact s
  obtain⟨r,l⟩:=q0 .iu;have f:w.ties[i]?=some r:=by rw[l];simp[List.getD,j]
  have S:r.length<=30:=by rw[l];exact o i
  obtain⟨L,m⟩:=q0 .zV;have Q:L.length<=30*30:=by
   have:=sC o i;rw[m,ZA];lia
  have C:(.sV).length<=30:=by
   have O:(.kR).length<=r.length:=by unfold iW;rw[ZA];exact Y0 _ _
   rw[ZA];lia
  have u:(iX w.ties<|i+1).map cH=L++(.kR).map cH:=by rw[iX,ZR,<-m,<-l]
  rw[<-m,u];obtain⟨H,c⟩:=q0 (h++[.lst L]:Hd);have B:H[h.length]?=some (.lst L):=by rw[c];simp
  have x:H.set h.length (.lst .sc)=h++[.lst .sc]:=by rw[c];simp
  have t:=iU w H f;have k:bi 2 [2] (bV .iO) .ax .kf .m7 .mn H=.ok .sV H:=by
   have q:bV .iO .mn H=.ok (r.map gJ,none) H:=by simp[t,nG]
   generalize bV .iO=I at q⊢;dsimp[bi,q,aH];exact Ea i r H
  refine⟨_,rfl,.mn,h++[.lst .sc],?_,_,rfl,rfl⟩;show gx (tH .d _) .mn (h++[.lst L])=_;rw[<-c,<-x];generalize bi 2 [2] (bV .iO) .ax .kf .m7=E at k⊢;generalize (.kR).map cH=M at k C⊢;have z:L.length+M.length<=1000000:=by lia
  simp[B,k,SZ,z]) ⟨none,rfl,by simp[iX]⟩
 have p : -1000000<=(n:Int):=by lia
 have G:(n:Int)<=1000000:=by lia
 have A:fz .li .ef mf .qD .a6=.nx a e:=by
  have q1:ce .c9 .qD .a6=.ok ((.k).map λk:Nat=>D.int k,none) .a6:=by simp[D9 W,p,G]
  generalize ce .c9=I at q1⊢;dsimp[fz,q1,aH];exact q
 have F:((.Y).map some++List.replicate (3 - (.Y).length) none:Sd)=.ii:=rfl;unfold cE bC runB;rw[z4 (show (.Y).length=1 from rfl),F,bQ K,bQ A,J,v];simp
def o4(hn:n<=30)(O:.aR)(lb:.aX)(ls:.aQ)(h:Hd):cE .jc h=.bK (h++[.lst .sW]):=by
 refine zX (li hn O lb ls) hn (λi=>?_) h
 by_cases a:i<n
 ·rw[He a,sE]
  have:=zW O.lt O.un i;lia
 ·simp[aM,List.getD,a]
/---/def cX:Fn:=bC 2 2 (aS<|uY (bi 2 [] .kp .ax [] .d))
/---/def dE:Fn:=bC 1 3 (aA (.c4 .ws)
  (aA (.a1 .wG)
  (aS .wn)))
/---/def aF:Fn:=bC 1 1 (aS<|dR<|.jv (bV .f) .ie)
/---/def xcs(s:.b):List Int:=s.map λx=>1-x
/---/def xco(o:.aF):Option Int:=o.map λx=>1-x
/---/def xcw(n:Nat)(w:Web):Web:=⟨w.ties,(.k).map λi=>2*((.iu).map (·.2)).sum-w.bars.getD i 0,w.stays.map xco⟩
def uO(s:.b):(.cr).length=s.length:=by simp[xcs]
def uP(h:i<s.length):(.cr).getD i 0=1-s.getD i 0:=by simp[xcs,List.getD,h]
def zY(s:.b):xcs .cr=s:=by
 unfold xcs;rw[y3]
 conv=>rhs;rw[<-List.map_id s]
 apply YK;intro x _;simp;lia
def Nq(o:.aF):xco (xco o)=o:=by
 cases o with
 |none=>rfl
 |some x=>simp[xco];lia
def zZ(h:i<n):(.cP).bars.getD i 0=2*((.iu).map (·.2)).sum-w.bars.getD i 0:=by simp[xcw,List.getD,h]
def FN(W:w.Ok n):xcw n .cP=w:=by
 have f:(.kV).bars=w.bars:=by
  apply UB
  ·simp[xcw,W.b]
  ·intro i g d
   have c:i<n:=by rw[<-W.b];exact d
   have q:=zZ (w:=xcw n w) c;rw[zZ (w:=w) c]at q;have a:(.kV).bars.getD i 0=(.kV).bars[i]:=by simp[List.getD,g]
   have b:w.bars.getD i 0=w.bars[i]:=by simp[List.getD,d]
   rw[<-a,<-b,q];show 2*((.iu).map (·.2)).sum-(2*((.iu).map (·.2)).sum-w.bars.getD i 0)=_;lia
 have e:(.kV).stays=w.stays:=by
  show (.rP).map xco=w.stays;rw[y3]
  conv=>rhs;rw[<-List.map_id w.stays]
  apply YK;intro x _;exact Nq x
 have h:(.kV).ties=w.ties:=rfl;cases w;dsimp[xcw]at f e h⊢;rw[f,e]
def Ka(S:bN w):bN .cP:=λx b=>by
 obtain⟨y,a,rfl⟩:=z5.mp b;rcases S y a with e|e|e<;>subst e<;>simp[xco]
def Ca(F:.S):aX .cP n .cr:=by
 refine⟨by rw[uO];exact F.len,λx b=>?_,λi x e=>?_⟩
 ·obtain⟨y,a,rfl⟩:=z5.mp b
  rcases F.op y a with e|e<;>subst e<;>simp
 ·have e:.rP[i]?=some .b7:=e
  rw[ZQ]at e;cases c:w.stays[i]? with
  |none=>rw[c]at e;cases e
  |some o =>
   rw[c]at e;cases o with
   |none=>simp[xco]at e
   |some y =>
    simp[xco]at e;have q:=F.st i y c;simp[xcs,q,e]
theorem Cb{s:.b}{n:Nat}(a:.e6)(B:nK s):∀{r:.as},(∀p∈r,p.1<n)->aU r .cr=(.jq).sum-aU r s
 |[],_=>rfl
 |p::r,h=>by
  have c:=Cb a B (r:=r) λq b=>h q (by simp[b]);have d:=h p .e;rw[cD,cD,c,uP .a,yP,VL];rcases B p.1 with e|e<;>rw[e]<;>simp<;>lia
def QI(W:w.Ok n)(F:.S)(hp:p<n):cR .cP .cr p=1-cR w s p:=by
 have d:p<w.ties.length:=by rw[W.t];exact hp
 have a:p<w.stays.length:=by rw[W.s];exact hp
 have i:(.cP).stays.getD p none=xco .q5:=by
  show (.rP).getD p none=_;simp[List.getD,a]
 have h:(.cP).ties=w.ties:=rfl;have lt:∀q∈w.ties.getD p [],q.1<n:=λq c=>by
  have:w.ties.getD p []=w.ties[p]:=by simp[List.getD,d]
  rw[this]at c;exact W.lt _ (YR d) q c
 have g:=Cb F.len F.bits lt;have j:=F.bits p;unfold cR;rw[i,h,g,zZ hp,uP (by rw[F.len];exact hp)];cases w.stays.getD p none with
 |some x=>rfl
 |none =>
  dsimp[xco,Option.map_none];generalize ((.kr).map (·.2)).sum=t;generalize aU .kr s=q;generalize w.bars.getD p 0=b
  by_cases f:2*q=b
  ·rw[z4 .a,z4 f]
  ·rw[yD .a,yD f]
   by_cases e:b<2*q
   ·rw[yD .a,z4 e];rfl
   ·rw[z4 .a,yD e];rfl
def QJ(W:w.Ok n)(F:.S):ay .cP n .cr=xcs .Z:=by
 unfold ay;show _=((.k).map (cR w s)).map _;rw[y3];apply YK;intro p a;exact QI W F (YD.mp a)
theorem z6(i:Nat):∀T:List Tie,((.aN).map (·.2)).sum=k8 T i
 |[]=>rfl
 |t::T=>by
  have d:=z6 i T;have c:nbs (t::T) i=(match far i t with|some j=>[(j,t.w)] | none=>[])++nbs T i:=by
   unfold nbs;rw[X3];cases far i t<;>rfl
  rw[c,ZR,List.sum_append,d];have:k8 (t::T) i=wOf i t+k8 T i:=by simp[k8]
  rw[this];congr 1;unfold far wOf
  by_cases a:t.a=i
  ·simp[a]
  ·by_cases b:t.b=i
   ·simp[a,b]
   ·simp[a,b]
def yv(lb:.aX):xcw n .x=aM n T .mi .gW:=by
 unfold xcw aM;congr 1;apply YK;intro i a;have a:=YD.mp a;have e:.nh=bZ .aN:=by simp[List.getD,a]
 rw[e,lh (·.2),z6]
def Eb{i:Nat}(e:w.ties[i]?=some r)(h:Hd):cX [w.enc,.int i] h=.ok (.int (.jq).sum) h:=by
 have t:=iU w h e;have c:.jA [] .d .eQ .hg h=.ok ((.jq).map .int) h:=by
  have:=br (g:=none) (all:=r.map gJ) (tg:=gT [0,1]) (cs:=[]) (e:=aa 1) (h:=h) (I:=λσ=>∃a b,σ = [a,b]) .aM (λd=>match d with | .tup [_,x]=>x|_=>.non) trivial (xs:=r.map gJ) (σ:=.hg) (by
   rintro x j σ ⟨a,b,rfl⟩;obtain⟨p,_,rfl⟩:=z5.mp j;exact⟨_,rfl,⟨_,_,rfl⟩,rfl,λ_=>rfl⟩) ⟨_,_,rfl⟩
  rw[this,Z9.mpr .e,y3,y3];rfl
 have n:∀l:List Int,cC .br=some l:=λl=>by
  induction l with
  |nil=>rfl
  |cons x l o=>simp[cC,o]
 have k:bi 2 [] .kp .ax [] .d .mD h=.ok ((.jq).map .int) h:=by
  have q:bV (af bO .aw) .mD h=.ok (r.map gJ,none) h:=by simp[t,nG]
  generalize bV (af bO .aw)=I at q⊢;dsimp[bi,q,aH];exact c
 have m:((.sf).map some++List.replicate (2 - (.sf).length) none:Sd)=.mD:=rfl;have f:=cw (h:=h) (g:=[]) (d:=.int (.jq).sum) rfl;rw[XD]at f;unfold cX bC runB;rw[z4 (show (.sf).length=2 from rfl),m];generalize bi 2 [] .kp .ax [] .d=E at k⊢;have s:aS (uY E) .mD h=.rt (.int (.jq).sum) h:=by
  dsimp[aS,uY,k,aH,n];rfl
 rw[s];exact f
def yw(l:.b):dZ .cN=(.io).map λi=>D.tup [.int (i:Nat),.int .kY]:=by
 apply UB
 ·simp[dZ]
 ·intro i c a
  have b:i<l.length:=by simpa using a
  simp[dZ,b,List.getD]
def Nr(ss:.y)(k:Nat)(h:Hd)(c:h[k]?=some .df):bU .b8 .aD .B [] .l9 .aD .bu h=.ok .kU h:=by
 have:=br (g:=some k) (all:=ss.map aP) (tg:=gN 0) (cs:=[]) (e:=fIf .h3 .aB .ie) (h:=h) (I:=λσ=>∃a,σ = [a]) .aM (λd=>match d with | .int x=>.int (1 - x)|_=>.non) c (xs:=ss.map aP) (σ:=.bu) (by
  rintro x b σ ⟨a,rfl⟩;obtain⟨i,_,rfl⟩:=z5.mp b;refine⟨_,rfl,⟨_,rfl⟩,rfl,λ_=>?_⟩;cases i<;>simp[aP]) ⟨_,rfl⟩
 rw[this,Z9.mpr .e,y3,y3];congr 1;apply YK;intro o _;cases o<;>rfl
def qG(K:1<=n)(hn:n<=30)(O:.aR)(lb:.aX)(ls:.aQ)(os:.bo)(h:Hd):
  dE .jc h=.ok (aM n T .mi .gW).enc h:=by
 have W:=li hn O lb ls;obtain⟨w,A⟩:=q0 .x;rw[<-A]at W⊢;have X:w.bars=bs:=by rw[A];rfl
 have Y:w.stays=ss:=by rw[A];rfl
 obtain⟨l,u⟩:=q0 ((.k).map λi=>2*k8 T i-bs.getD i 0:.b);rw[<-u];have lo:l.length=n:=by rw[u];simp
 obtain⟨f,r⟩:=q0 (h++[.lst .c6]:Hd);have N:=wf W h;rw[X,<-r]at N;have S:f[h.length]?=some (.lst .c6):=by rw[r];simp
 have Z:dX (λH=>H[h.length]?=some .bA) .ax [] .mG (dZ .c6) [none,none,some w.enc] f=.ok .br f:=by
  have:=pE (G:=λH=>H[h.length]?=some .bA) (tg:=gT [0,1]) (cs:=[]) (e:=aq fM .pn .d) (h:=f) (I:=λσ=>∃a b,σ=[a,b,some w.enc]) .aM
   (λd=>match d with | .tup [.int i,.int b]=>.int (2 * k8 T i.toNat - b)|_=>.non) S (xs:=dZ .c6) (σ:=[none,none,some w.enc]) (by
   rintro x C σ ⟨a,b,rfl⟩;rw[yw]at C;obtain⟨i,F,rfl⟩:=z5.mp C;have F:i<n:=by have:=YD.mp F;lia
   refine⟨_,rfl,⟨_,_,rfl⟩,rfl,λ_=>?_⟩;have er:w.ties[i]?=some (bZ .aN):=by rw[A];simp[aM,F]
   have q:=Eb er f;rw[lh (·.2),z6]at q;have J:sml 2=true:=by decide
   show aq fM .pn .d [some .sI,some (.int<|.ev 0),some w.enc] f=.ok (.int<|2*k8 T (i:Int).toNat-bs.getD i 0) f;rw[X9];generalize bs.getD i 0=bv;simp[q,J]) ⟨_,_,rfl⟩
  rw[this,Z9.mpr .e,yw,y3,u,y3,lb];congr 1
 obtain⟨g,v⟩:=q0 (f++[.lst .br]:Hd);have l1:f.length=h.length+1:=by rw[r];simp
 have M:(.cN).length<=1000000:=by simp;lia
 have s1:.c4 .ws .ii h=.nx .mb g:=by
  have k:fU 2 [0] (af cO .F) .ax [] .mG .ii h=.ok .br f:=by
   have q:af cO .F .ii h=.bK f:=by simp[N]
   generalize af cO .F=E at q⊢;dsimp[fU,q,S];exact Z
  generalize fU 2 [0] (af cO .F) .ax [] .mG=E at k⊢;rw[v];generalize l.map D.int=L at k M⊢;simp[k,SZ,M]
 obtain⟨o,s⟩:=q0 (g++[.lst .aD]:Hd);have Q:=tO W g;rw[Y,<-s]at Q;have U:o[g.length]?=some (.lst .aD):=by rw[s];simp
 have c3:=Nr ss g.length o U;obtain⟨t,p⟩:=q0 (o++[.lst .kU]:Hd);have R:(.kU).length<=1000000:=by simp;lia
 have J:.ew .wG .mb g=.nx .vc t:=by
  have k:bi 1 [] (bV .da) .B [] .l9 .mb g=.ok .kU o:=by
   have q:bV .da .mb g=.ok (ss.map aP,some g.length) o:=by simp[Q,U]
   generalize bV .da=I at q⊢;dsimp[bi,q,aH];exact c3
  generalize bi 1 [] (bV .da) .B [] .l9=E at k⊢;rw[p];generalize (.gW).map aP=L at k R⊢;simp[k,SZ,R]
 obtain⟨z,m⟩:=q0 (t++[.lst .sW]:Hd);have V:=o4 hn O lb ls t;rw[<-A,<-m]at V;have B:∀{a b:Hd} {c:cv} {j:Nat} {d:cv},b=a++[c]->a[j]?=some d->b[j]?=some d:=λ{a b c j d} e q=>by rw[e,ZC (zS.mp q).1];exact q
 have P:=oK K hn (oN hn O).1 (bs:=l) (ss:=ss.map xco) lo (by simp[ls]) (λx C=>by
  obtain⟨y,hy,rfl⟩:=z5.mp C;rcases os y hy with e|e|e<;>subst e<;>simp[xco]) (h:=z) (tk:=t.length) (bk:=f.length) (sk:=o.length) (by rw[m];simp) (B m<|B p<|B s (by rw[v];simp)) (B m (by rw[p];simp))
 rw[D8 hn O]at P;have s3:aS .wn .vc t=.rt (aM n T l .gW).enc z:=by
  simp[D9 W,V,P]
 have st:((.Y).map some++List.replicate (3 - (.Y).length) none:Sd)=.ii:=rfl;unfold dE bC runB;rw[z4 (show (.Y).length=1 from rfl),st,bQ s1,bQ J,s3];have e5:z=h++[.lst .c6,.lst .br,.lst .aD,.lst .kU,.lst .sW]:=by rw[m,p,s,v,r];simp
 rw[e5];exact cw (nO _)
def Cc(h1:peq d d=some true)(h2:dep d<=20)(a:∀g,ev g d=none)(g:Hd):oEq d d g=.a2 g:=by
 unfold oEq eqG;rw[a];dsimp[z4 h2,h1]
def Nt(w:Web)(g:Hd):oEq w.enc w.enc g=.a2 g:=Cc (FJ w).1 (FJ w).2 .iZ g
def Kb(s:.b)(g:Hd):oEq .G .G g=.a2 g:=by
 have b:∀x:Int,peq .el .el=some true:=λx=>by simp[peq]
 have a:∀x:Int,dep .el<=0:=λx=>by simp[dep]
 have c:=jw a s;exact Cc (by simp[ao,peq,jv b s]) (by dsimp[ao,dep];lia) .iZ g
def Nu(s:.b)(h:Hd):bU none .g8 .B [] .ie .g8 .bu h=.ok ((.cr).map .int) h:=by
 have:=br (g:=none) (all:=s.map D.int) (tg:=gN 0) (cs:=[]) (e:=aq fM .u .f) (h:=h) (I:=λσ=>∃a,σ = [a]) .aM (λd=>match d with | .int x=>.int (1 - x)|_=>.non) trivial (xs:=s.map D.int) (σ:=.bu) (by
  rintro x b σ ⟨a,rfl⟩;obtain⟨i,_,rfl⟩:=z5.mp b;exact⟨_,rfl,⟨_,rfl⟩,rfl,λ_=>by simp⟩) ⟨_,rfl⟩
 rw[this,Z9.mpr .e,y3,xcs,y3];rfl
def iK(s:.b)(h:Hd):aF [ao s] h=.ok (ao .cr) h:=by
 have c:=Nu s h;have k:bi 1 [] (bV .f) .B [] .ie [some .G] h=.ok ((.cr).map .int) h:=by
  dsimp[bi,bV,aa,slot,List.getElem?_cons_zero,aH,ao];exact c
 have e:([ao s].map some++List.replicate (1 - [ao s].length) none:Sd)=[some .G]:=rfl;have a:=cw (h:=h) (g:=[]) (d:=ao .cr) (by dsimp[pure?,ao];exact ia λ_ _=>rfl);rw[XD]at a;unfold aF bC runB;rw[z4 (show [ao s].length=1 from rfl),e];generalize bi 1 [] (bV .f) .B [] .ie=E at k⊢;have b:aS (dR E) [some .G] h=.rt (ao .cr) h:=by
  unfold dR aS;dsimp[k,aH];rfl
 rw[b];exact a
/---/def inR(h:Hd)(x y:D):Option Bool:=match ev h y with
 |some l=>match OM l with
  |some rs=>match OM [x] with
   |some [r]=>if ∀z∈rs,z.length=r.length then some (decide (r∈rs)) else none
   |_=>none
  |none=>none
 |none=>none
/---/def ft:Fn:=bC 1 1 (aS<|aI<|.tF .f)
/---/def ke:Fn:=bC 2 2 (aS<|af cr<|ab .d<|ab .H<|ab (aq fM .c9 .u) aj)
noncomputable abbrev fL:SF:=(gx<|tH .au<|bi 1 [6] (p9 .h<|.a3 .D .u) .B []<|aq tw .d<|d9 .F)
noncomputable abbrev ir:SF:=(aA (.bW .bE)
  (aA (fz (bV .g) .bn fL)
  (.a1 .au)))
/---/def eE:Fn:=bC 2 7 (aA (.a1<|aI<|ab (d9 aj) aj)
  (aA (tJ .f .d .n5 ir)
  (aS .g)))
/---/def dU:Fn:=bC 1 1 (aA (.bV .vn)
  (aS .v1))
/---/def eo:Fn:=bC 1 1 (aS<|aI<|bi 1 [0] (bV<|af dU .F) .B .wk .f)
noncomputable abbrev Cd:SF:=(aA (.bG<|af cy .fB)
  (sIf (kM (tE .ss)<|tE .qL) (gx (mY .d (d9 (ab .g .fA)))) bT))
/---/def ge:Fn:=bC 1 4 (aA .sE
  (aA (fz (bV<|af dU .F) .ef Cd)
  (aS .d)))
noncomputable abbrev wg:SF:=(nn .g .D .h)
/---/def gj:Fn:=bC 2 5 (aA (.a1<|aI .ei)
  (aA (tJ .f .d .n5 wg)
  (aS .g)))
/---/def ff:Fn:=bC 2 3 (aA (.a1 .vr)
  (aS .t9))
/---/def aR:Fn:=bC 2 2 (aS .zL)
noncomputable abbrev kE:SF:=(.bV<|tE .xp)
/---/def iu:Fn:=bC 1 2 (aA (.bV .w5)
  (fz .li .mH kE))
noncomputable abbrev i5:SF:=(gx<|tH .g (bi 2 [3,1] (bV<|af bO .iA) .ax []<|d9 .l2))
/---/def eF:Fn:=bC 1 4 (aA (.c4 .c9)
  (aA (.a1 .wa)
  (aA (fz (ce .d) .bR i5)
  (aS .g))))
/---/def jx:Fn:=bC 1 3 (aA (gx<|af iu .F)
  (aA (.c4 .uC)
  (aA (.a1 .da)
  (aS .t5))))
/---/def dw:Fn:=bC 2 2 (aS<|fT<|kM (tE<|af ke .aw)<|tE<|aq oNe (af f7 .aw) .H)
/---/def fm:Fn:=bC 2 2 (aA (.cB .kd)
  (aA (.cB .uK)
  (aS<|AX<|bi 1 [1] (ce<|aq fM .dA .u) .B [] .vL)))
/---/def qH:Fn:=bC 2 2 (aA (.bV .Ae)
  (aS<|dR (fU 2 [1] .da .ax []<|fIf .pJ .u .H)))
/---/def eL:Fn:=bC 2 5 (aA (.a1 .wN)
  (aA (.bG<|fAt .g .u)
  (aA (.dr<|fAt .g .K)
  (aA (sIf (tE .qm) .ud bT)
  (aA (sIf (tE .xS) (aS<|d9<|ab (fC<|.str [110,111,116])<|ab (lM .D (pAt .h9) pNo) aj) bT)
  (aS<|d9<|ab (fC<|.str .kc)<|ab (lM .D pNo<|pAt .h9) aj))))))
noncomputable abbrev tP:SF:=(.c4<|aI<|fJ .d<|aI .pF)
/---/def jL:Fn:=bC 1 3 (aA (.c4<|aI<|ab .bE aj)
  (aA (fz (bV .f) .ef tP)
  (aS<|aI<|nA .d)))
/---/def gp:Fn:=bC 3 4 (aA (.bG .sB)
  (aA (sIf (tE<|aq qc .h .g) (EZ .g .h<|.c5 (fAt (af eL .aw) .H)<|fC<|.str .kc) bT)
  (aS<|Ik .g .h)))
noncomputable abbrev kf:SF:=(aA (sIf (tE .rZ) ON bT)
  (aA (aG .bn<|aI<|kx .rU)
  (sIf (tE .xx) (gx<|mY .D .au)<|.bG .ak)))
/---/def mh:Fn:=bC 3 7 (aA (.bG .d)
  (aA .sF
  (aA (fz (bV<|af ft .F) .dd kf)
  (aS .D))))
noncomputable def cY:Nat->Fn
 |0=>λ_ _=>.bad
 | j + 1=>bC 4 6 (aA (sIf (tE .nf) (aS<|d9<|ab (fC<|.str .r4) aj) bT)
  (aA (.dr<|af mh<|.c1<|ab .g .fA)
  (aA (.bW<|aI<|bi 1 [0,3,1,2] (bV .D) .B []<|af (cY j) .uO)
  (aS<|d9<|ab (fC<|.str .r3)<|ab .D .cK))))
noncomputable abbrev iL:SF:=(sIf (tE .xJ) (aA (.dr<|fIf (tE<|.c5 .h .bE) .aB<|af (cY 9)<|.c1<|ab (aq fM (cT<|lOf .h) .u)<|ab .bE .bZ)
  (aS<|d9<|ab .h .fz)) bT)
/---/def iY:Fn:=bC 1 5 (aA (.c4<|af ft .F)
  (aA (.bV<|tE .yd)
  (aA (.a1 Dn)
  (aA (fz (bV<|af jL .cf) .bR iL)
  (aS .aB)))))
noncomputable abbrev wj:SF:=(aA (gx .wZ)
  (aG .B .xT))
/---/def lu:Fn:=bC 2 5 (aA (.a1<|aI<|Mt .d)
  (aA (.bG .bE)
  (aA (fz (ce .d) .fR wj)
  (aS .h))))
noncomputable abbrev o5:SF:=(aA (sIf (tE .nf) .vk .us)
  (gx<|mY .h<|dR<|iE .ak))
/---/def d6:Fn:=bC 3 7 (aA (.bG .bE)
  (aA (fz (bV .f) (gT [4,5]) o5)
  (aS<|aI<|iE .h)))
/---/def eu:Fn:=bC 4 8 (aA (.dr<|af dE .F)
  (aA (.cB .wL)
  (aA (.cB .tM)
  (aA (.bW .yp)
  (aA (aG .bn .vD)
  (aA (aG (gN 7) .uL)
  (aS .tO)))))))
/---/def gW:Fn:=bC 5 8 (aA (.bW .nS)
  (aA (.cB .wV)
  (aA (.cB .tP)
  (aA (aG .bn .Ak)
  (aA (aG (gN 7) .vM)
  (aA (.cB .tI)
  (aS .vz)))))))
/---/def eG:Fn:=bC 2 6 (aA (.a1 .nS)
  (aA (.bG<|af iY .F)
  (aA (.dr<|af iY .bZ)
  (aA .tR
  (aA .y9
  .tJ)))))
noncomputable abbrev Kc:SF:=(.c4<|af lq<|.c1 .q8)
noncomputable abbrev Kd:SF:=(nn .my .g<|aI .uR)
noncomputable abbrev Ke:SF:=(fz (ce<|cT .mN) .ef Kd)
noncomputable abbrev Kf:SF:=(.bG<|af nS .cf)
noncomputable abbrev Kg:SF:=(.dr<|cT .mN)
noncomputable abbrev Kh:SF:=(.bW<|af lu<|ab (af bM<|.c1<|ab .sM aj) .fz)
noncomputable abbrev Ki:SF:=(aG .bn<|af eo .fA)
noncomputable abbrev Kj:SF:=(aG (gN 7)<|af ge .fA)
noncomputable abbrev Kl:SF:=(aG (gN 8)<|af iV<|ab .d<|ab (af d5<|ab (af bM<|.c1 .qk)<|ab (af bM .kn)<|ab .D<|ab .K aj) aj)
noncomputable abbrev Km:SF:=(.cB<|gM<|tE<|af eu<|ab .h<|ab .ak<|ab .bj<|ab (af bM<|.c1 .q8) aj)
noncomputable abbrev Ko:SF:=(.cB<|tOr (gM<|tE<|af gW<|ab .h<|ab .au<|ab .ak<|ab .bj<|ab .dR aj)<|gM<|tE<|af eG<|ab .h .cK)
noncomputable abbrev FO:SF:=(aS<|fT<|tOr (tE<|aq oGt .D .sM)<|tE<|.c5 (cT .uV)<|.a3 (cT<|lOf .ak)<|.ba .K<|cT<|lOf .bj)
/---/def FP:Fn:=bC 1 9 (aA Kc<|aA Ke<|aA Kf<|aA Kg<|aA Kh<|aA Ki<|aA Kj<|aA Kl<|aA Km<|aA Ko FO)
end Fm
set_option maxHeartbeats 4000000
namespace Fm
open PySem PySem.Spec L2
section
noncomputable abbrev cK(i:Nat):Stmt := PySem.Challenge.pw_followmost_k56_whole_answers_exchanged.main.body.getD i (.Pass ⟨0, 0, 0, 0⟩)
noncomputable abbrev wm:Stmt:=cK 8
noncomputable abbrev qI:Stmt:=cK 9
noncomputable abbrev qJ:Stmt:=cK 10
noncomputable abbrev Ce:Stmt:=cK 26
noncomputable abbrev mi:Stmt:=cK 25
noncomputable abbrev tQ:Stmt:=cK 27
noncomputable abbrev qK:Stmt:=cK 28
noncomputable abbrev Cf:Stmt:=cK 14
noncomputable abbrev yx:Stmt:=cK 17
noncomputable abbrev qL:Stmt:=cK 15
noncomputable abbrev yy:Stmt:=cK 16
noncomputable abbrev Cg:Stmt:=cK 18
noncomputable abbrev yz:Stmt:=cK 19
noncomputable abbrev yA:Stmt:=cK 20
noncomputable abbrev wn:Stmt:=cK 21
noncomputable abbrev yB:Stmt:=cK 22
noncomputable abbrev tR:Stmt:=cK 23
noncomputable abbrev tS:Stmt:=cK 24
noncomputable abbrev Kq:Stmt:=cK 30
noncomputable abbrev o6:Stmt:=cK 31
noncomputable abbrev yC:Stmt:=cK 32
noncomputable abbrev yE:Stmt:=cK 33
noncomputable abbrev yF:Stmt:=cK 34
noncomputable abbrev FQ:Stmt:=cK 36
noncomputable abbrev yG:Stmt:=cK 38
noncomputable abbrev Ci:Stmt:=cK 49
noncomputable abbrev nT:Stmt:=cK 48
noncomputable abbrev qM:Stmt:=cK 41
noncomputable abbrev mP:Stmt:=cK 42
noncomputable abbrev ly:Stmt:=cK 51
noncomputable abbrev mQ:Stmt:=cK 50
noncomputable abbrev FR:Stmt:=cK 43
noncomputable abbrev FS:Stmt:=cK 44
noncomputable abbrev o7:Stmt:=cK 47
noncomputable abbrev Cj:Stmt:=cK 45
noncomputable abbrev OA:Stmt:=cK 46
noncomputable abbrev nU:Stmt:=cK 53
noncomputable abbrev kg:Stmt:=cK 54
noncomputable abbrev FT:Stmt:=cK 57
noncomputable abbrev z7:Stmt:=cK 55
noncomputable abbrev o8:Stmt:=cK 56
noncomputable abbrev qN:Stmt:=cK 62
noncomputable abbrev jM:Stmt:=cK 63
noncomputable abbrev sF:Stmt:=cK 61
noncomputable abbrev mR:Stmt:=cK 68
noncomputable abbrev mS:Stmt:=cK 67
noncomputable abbrev FU:Stmt:=cK 65
noncomputable abbrev tT:Stmt:=cK 66
noncomputable abbrev wp:Stmt:=cK 72
noncomputable abbrev yH:Stmt:=cK 73
noncomputable abbrev wr:Stmt:=cK 75
noncomputable abbrev mj:Stmt:=cK 74
noncomputable abbrev Ck:Stmt:=cK 71
noncomputable abbrev tU:Stmt:=cK 77
noncomputable abbrev wu:Stmt:=cK 78
noncomputable abbrev mr:Stmt:=cK 79
noncomputable abbrev qO:Stmt:=cK 80
noncomputable abbrev nV:Stmt:=cK 82
noncomputable abbrev tV:Stmt:=cK 83
noncomputable abbrev qP:Stmt:=cK 84
noncomputable abbrev mT:Stmt:=cK 85
noncomputable abbrev iw:Stmt:=cK 86
noncomputable abbrev jN:Stmt:=cK 87
noncomputable abbrev je:Stmt:=cK 88
noncomputable abbrev yI:Stmt:=cK 89
variable{P:P2}{w:N3}{K:ZX}{mg:.aI}{base:Heap}{f:Addr}{fd:.gk}
def Kr{ps:.af}{k c:Nat}:kP P w K mg base CX0 k f fd ps (spF K (λ_ _=>.bad) c) :=
 ⟨λd H Q E ⟨_,_,_,_,_,_,p⟩=>p.elim,λA a s H b i d Q E e g h r ⟨_,_,_,_,_,_,p⟩=>p.elim⟩
theorem mU:∀j ds h d h',cY j ds h=.ok d h'->ds.length=4
 |0=>λ_ _ _ _ e=>nomatch e
 |j+1=>zk
def Cm(a:.hy)(c:mg "bool"=none)(b:mg "int"=none):.o "is_whole" wm 1 .lc eX 1:=okd .lc λd e=>(au<|aE<|MB.me<|pC (iB<|jZ (t:=.int) rfl a rfl b .bd .m)<|lP<|Pz<|iB<|jZ (t:=.bool) rfl a rfl c .bd .m)
def xk(b:.AR):.o "is_between" qI 2 .yX cr 3:=okd .yX λa c=>(au<|aE<|MB.me<|pC (iB .fO)<|lP<|iB<|IR On On uf uf .t .m .M)
def xm(b:.od):.o "is_opinion" qJ 3 .lc dh 1:=okd .lc λa c=>(au<|aE<|.cc<|ae .m<|ae aw .ft)
def Hf(g:.bv)(d:.hy)(i:.b9){h:Tok}(e:mg "MOST_WEIGHT"=some (.int 400 h))(b:.od):.o "is_tie" Ce 3 ["many","thing"] qB 2:=okd ["many","thing","one","other"] λa c=>(ah (.d2<|MW.mt<|mN (ed<|dA<|jZ (t:=.tuple) rfl d rfl i .bd .t)<|.d4<|bu (gG c) jc (.ff g) aw .A)
  (ah (aB .g2)
  (ah (aB .g2)
  (ah (.d2<|MW.mt<|mN (ed<|dA<|.cc<|.du .w8)<|.d4<|ed<|dA<|.cc<|ae .v .w8)
  (au<|aE<|MB.me<|pC (iB<|gE (gG c) jc .M .v .A)<|lP<|iB<|.cc<|ae .g2<|ae aw<|ae (kR rfl e) ak)))))
def xn:fZ ["many","ties","near","tie","one","other"] ["many","ties"] (bI mi):=fsc
def xo(g:.cs)(c:.hy)(e:.e5)(b:.X "is_tie" 3 2 qB):.o "neighbours" mi 4 ["many","ties"] jh 2:=okd ["many","ties","near","tie","one","other"] λd a=>(ah (.bU<|ed<|dA<|jZ (t:=.list) rfl c rfl e .bd .t)
  (ah (jf (i:=2) xn.nd rfl lc (own:=.hi) (capn:=[]) (caps:=[]) rfl .fJ (c9 rfl g .m)
   (λj C s H h=>⟨ax,bP,MV⟩))
  (ah (eB YP rfl .ja ax (ah (.bU<|ed<|dA<|ag b d .kS)
  (ah (aB .iE)
  (ah (aB .iE)
  (ah (.bU<|bu (P5 .iB) P6 .aP (bp .M .aa .L) rfl)
  (ah (Fl .iB .iE (bp .M .aa .L) .aP)
  (au<|Fl .iB .iE (bp .M .aP .L) .aa)))))))
  .nv)))
def z8(i:.b9)(g:mg "all"=none)(a:.bv)(b:.hy)(e:.e5)(h:.AR):.o "bars_told" tQ 2 ["near","bars"] j9 2:=okd ["near","bars"] λc d=>(ah (.bU .qZ)
  (ah (.bU<|MW.mt<|mN .vX<|.d4<|bu (gG d) jc (.ff a) (dk rfl a<|c8 .m) .A)
  (ah (.bU<|ed<|dA<|zv rfl rfl g<|eR<|im ["bar"] .ja ⟨ax,bP,(ag h c .bN)⟩)
  (au<|aE<|eS rfl i .mC))))
def xp(a:.b9)(i:mg "all"=none)(j:.bv)(b:.hy)(e:.e5)(h:.cs)(g:.AN):.o "stays_told" qK 4 ["many","stays"] ji 2:=okd ["many","stays"] λc d=>(ah (bY .qZ (au<|aE<|eS rfl a<|eR<|im .hi (c9 rfl h .m) ⟨ax,bP,dz⟩) aV)
  (ah (.bU<|MW.mt<|mN .vX<|.d4<|bu (gG d) jc (.ff j) .m .A)
  (ah (.bU<|ed<|dA<|zv rfl rfl i<|eR<|im ["stay"] .ja ⟨ax,bP,(MB.me<|Ot (iB<|gE kq kt .m dz .A)<|lP<|iB<|ag g c .bN)⟩)
  (au<|aE<|eS rfl a .mC))))
def Hg(b:.b9)(h:.hA){c:Tok}(g:mg "MOST_PEOPLE"=some (.int 30 c))(d:.X "stays_told" 4 2 ji)(j:.X "bars_told" 2 2 j9)(i:.X "neighbours" 4 2 jh)(e:.od):.o "web_of" Cf 5 ["many","ties","bars","stays"] dM 4:=okd ["many","ties","bars","stays","near","rows"] λa k=>(ah (.bU<|ed<|dA<|ag e a<|ae .m<|ae aw<|ae (kR rfl g) ak)
  (ah (aB<|ag i a .cI)
  (ah (aB<|eS rfl b<|eR<|im ["row"] (cN .aa) ⟨ax,bP,(eS rfl b<|eR<|Jn rfl rfl h .m)⟩)
  (au<|aE<|fR<|ae .aP<|ae (ag j a .sD)<|ae (.dt .kS) ak))))
def Ec:.o "ties_of" yx 1 .eJ bO 2:=okd .eJ λa b=>.qz
def xq(c:mg "sum"=none)(a:.lk):.o "weights_of" qL 2 .eJ cX 2:=okd .eJ λb d=>(au<|aE<|DC rfl rfl c<|eR<|im .rv (cN<|ag a b .cI) ⟨.ch,bP,.t⟩)
def Ed(a:.bv):.o "many_of" yy 1 .ao aQ 1:=okd .ao λb c=>(au<|aE<|dk rfl a .iX)
def Hh:.o "bar_of" Cg 1 .eJ qw 2:=okd .eJ λa b=>.qz
def Ee:.o "stay_of" yz 1 .eJ f7 2:=okd .eJ λa b=>.qz
def Ef(a:.e5):.o "bars_of" yA 1 .ao cO 1:=okd .ao λb c=>.xw
def Cn(a:.e5):.o "stays_of" wn 1 .ao aK 1:=okd .ao λb c=>.xw
def Eg(b:.oy)(c:.je):.o "free_of" yB 2 .ao ft 1:=okd .ao λa e=>(au (aE (bH (BI (own:=["person","stay"]) (capn:=[]) (caps:=[]) rfl .fJ (vJ rfl b .hf)
   (λg C s H d=>⟨.ch,(uB .qZ),.m⟩)))))
def z9(d:.cs)(c:.e2)(b:.lk):.o "ties_once" tR 2 .ao cE 1:=okd ["web","ties","one"] λa e=>(ah .e0
  (ah (eB YP rfl (c9 rfl d .hf) ax (au (dB (zH .t (fK (own:=["other", "weight"]) (capn:=["one"]) (caps:=[2]) rfl .bM (cN .sR)
   (λh C s H g=>⟨.ch,(uB<|bu Iz uf .M .m .A),(fR<|.du .cI)⟩))))))
  .sQ))
def Aa(b:.od)(c:.e2):.o "is_person" tS 3 .eN ke 2:=okd .eN λa d=>(au<|aE<|.cc<|ae .t<|ae aw<|ae (.gr .hf) ak)
def Nv(e:.oy)(i:.bv)(c:.hy)(j:.b9)(d:.s4)(h:.AN)(g:.e2):.o "fits" Kq 4 .eN zP 2:=okd ["web","thing","person","opinion","stay"] λa b=>(ah (.d2<|MW.mt<|mN (ed<|dA<|jZ (t:=.tuple) rfl c rfl j .bd .t)<|.d4<|.gp (.ff i) .iN)
  (ah (eB YP rfl (ML rfl e .t) .ch (ah (.d2<|ed<|dA<|ag h a .iv)
  (ah (aB<|.dt .iz)
  (au<|.d2<|MW.mt<|IQ (bu y6 rR .aa dz .A)<|ij (.gp .v .aa) .ca))))
  .j2))
def wv(a:.X "fits" 4 2 zP):.o "check_stand" o6 5 .eN cS 2:=okd .eN λb c=>(au<|.bU<|ed<|dA<|ag a b .cI)
def Eh(d:mg "sum"=none)(a:.lk):.o "pull_at" yC 2 .qP oG 3:=okd .qP λc b=>(au (aE (bq gD gF aw (DC rfl rfl d (eR (fK (own:=.rv) (capn:=.ld) (caps:=[1]) rfl .bM (cN<|ag a c .iz)
   (λg C s H e=>⟨.ch,(uB<|bu (dH b) fS (bp .M .m .L) aw .A),.t⟩)))))))
def Ei(e:.X "bar_of" 1 2 qw)(b:.X "pull_at" 2 3 oG)(c:.s4):.o "next_at" yE 3 .qP jt 3:=okd ["web","stand","person","stay","strength","bar"] λa d=>(ah (aB<|.bh .iz)
  (ah (bY (bu y6 rR .v dz .A) (au<|aE .v) aV)
  (ah (aB<|.cc .q0)
  (ah (aB<|ag e a .iz)
  (ah (bY (bu (dH d) fS .aa .aP .A) (au<|aE<|.hT .M) aV)
  (au<|aE<|xR (bu vj uf .aa .aP .A) aw aw))))))
def Ej(e:.b9)(c:.cs)(b:.e2)(d:.X "next_at" 3 3 jt):.o "turn_at" yF 4 .fH cy 2:=okd .fH λa h=>(au (aE (eS rfl e (eR (fK (own:=.hi) (capn:=.fH) (caps:=[0,1]) rfl (bL.a .pT) (c9 rfl c .fO)
   (λi C s H g=>⟨ax,bP,(.dt<|ae .t<|.du .bN)⟩))))))
def Ks(e:.bv)(b:.of)(d:.s2):.o "ended" FQ 6 .fH eZ 2:=okd ["web","stand","stands","later","word"] λa c=>(ah (dB .k1)
  (ah (aB<|bH<|dv (ae .t<|ae .k2 ak) .l4)
  (ah (aB<|.cc<|ae .m<|ae .sq ak)
  (ah (IV YP (bu (gG c) jc .v .sp .A) (ah (dB<|lQ .M .v)
  (au<|aB<|.cc .kS)))
  (ah (aB<|xR (bu (dH c) fS .sp .sp .A) (kr .kw rfl)<|kr .kh rfl)
  (au<|aE<|fR<|ae (.gr<|dk rfl e<|c8 .M) .sD))))))
def Ek(d:.of)(b:.s2):.o "is_rest" yG 6 .fH k7 2:=okd .fH λa c=>(ah (dB .k2)
  (au<|aE<|gE (dH c) fS .k1 .t .A))
def Hi(b:.ta):.o "end_of" Ci 7 .fH fj 2:=okd .fH λa c=>(au<|aE<|bp (bp .k2 aw .L) j5 .L)
def ui(c:.b9)(b:.je):.o "stand_of_all" nT 2 ["web","opinion"] dL 2:=okd ["web","opinion"] λa e=>(au (aE (eS rfl c (eR (fK (own:=["stay"]) (capn:=["opinion"]) (caps:=[1]) rfl .bM (cN .fO)
   (λg C s H d=>⟨ax,bP,(xR .zP .t .m)⟩))))))
def xr(b:.oh)(c:.AJ):.o "least_rest" qM 8 .ao cu 1:=okd .ao λa d=>.wm
def sG(b:.oh)(c:.AJ):.o "greatest_rest" mP 8 .ao bD 1:=okd .ao λa d=>.wm
def qQ(b:.oL)(a:.cs):.o "stands_between" ly 1 ["low","high"] eE 2:=okd ["low","high","stands","least","greatest","longer","stand"] λc e=>(ah (aB<|bH<|dv (ae (fR ak) ak) .gA)
  (ah (Fy YP rfl (uG rfl b .m .t) .ch (ah .e0
  (ah (eB YP rfl (cN .M) ax (au (dB (zH .aP (fK (own:=["opinion"]) (capn:=.ld) (caps:=[6]) rfl .bM (GC rfl a .v<|.d3 .aa aw)
   (λg C s H d=>⟨ax,bP,(bq MY MZ .t<|fR .bN)⟩))))))
  (au<|aB .aP))))
  .nv))
def sH(i:.bv){b:Tok}(e:mg "MOST_FREE"=some (.int 12 b))(g:.X "stands_between" 1 2 eE)(c:.s1)(h:.s3)(d:.s5):.o "stands_to_try" mQ 9 .ao dU 1:=okd .ao λa j=>(ah (.bU<|bu vj uf (dk rfl i<|c8 .he) (kR rfl e) .A)
  (au<|aE<|ag g a<|ae .nE<|ae .hf ak))
def Kt(c:.of)(d:.AG):.o "rests" FR 10 .ao eo 1:=okd .ao λa b=>(au (aE (bH (fK (own:=.ld) (capn:=.ao) (caps:=[0]) rfl .bM (cN .he)
   (λg C s H e=>⟨ax,(uB<|bu (dH b) fS (.bh<|ae .t .bN) .m .A),.m⟩)))))
def Ku(d:.AG)(b:.of):.o "pairs" FS 10 .ao ge 1:=okd ["web","found","one","other"] λa c=>(ah .e0
  (ah (eB YP rfl (cN .he) ax (ah (aB .sR)
  (au<|bY (MW.mt<|IQ (bu (Po a.units0) Qq .M .v .A)<|ij (bu (dH c) fS (.cc .kS) .M .A) .ca) (au<|dB<|lQ .t<|fR<|.du .iv) aV)))
  .sQ))
def ww(c:.X "is_rest" 6 2 k7)(b:.s2):.o "check_rests" o7 7 .ik dD 3:=okd .ik λa d=>(ah (dB .k2)
  (ah (dB .sR)
  (au<|.bU<|MW.mt<|mN (ed<|dA<|.bh .cI)<|.d4<|ed<|dA<|.bh .iz)))
def Hj(g:.b9)(e:.oL)(b:mg "max"=none)(d:.oh)(c:.AL):.o "joined" Cj 8 .ik nM 3:=okd .ik λa i=>(ah (dB<|.bh .q0)
  (au (aE (ag d a (ae .m (ae (eS rfl g (eR (BO (own:=["low", "high"]) (capn:=[]) (caps:=[]) rfl .fJ (uG rfl e .t .M)
   (λj C s H h=>⟨.ch,bP,(Jq rfl rfl b .m .t)⟩)))) ak))))))
def QK(g:.b9)(e:.oL)(b:mg "min"=none)(d:.oh)(c:.AL):.o "met" OA 8 .ik BU 3:=okd .ik λa i=>(ah (dB<|.bh .q0)
  (au (aE (ag d a (ae .m (ae (eS rfl g (eR (BO (own:=["low", "high"]) (capn:=[]) (caps:=[]) rfl .fJ (uG rfl e .t .M)
   (λj C s H h=>⟨.ch,bP,(JJ rfl rfl b .m .t)⟩)))) ak))))))
def qR:fZ .oa .ao (bI nU):=fsc
def Ab(h:.oy)(j:.og)(e:.AP)(d:.e2)(l:.je)(k:.s6)(b:.X "weights_of" 2 2 cX):.o "exchanged" nU 6 .ao dE 1:=okd .oa λa m=>(ah (JL (i:=1) qR.nd rfl lc (own:=["person","bar"]) (capn:=.ao) (caps:=[0]) rfl .bM (vJ rfl h<|ag k a .bN)
   (λc C s H g=>⟨.ch,bP,(bq iF rP (.jx<|.cc<|.du .bN) .t)⟩))
  (ah (jf (i:=2) qR.nd rfl lc (own:=["stay"]) (capn:=[]) (caps:=[]) rfl .fJ (cN<|ag l a .bN)
   (λc C s H g=>⟨ax,bP,(xR .zP dz<|bq iF rP aw .m)⟩))
  (au<|aE<|ag j a<|ae .he<|ae .nF<|ae .t .dz)))
def pS(a:.b9):.o "exchanged_stand" kg 1 .ld aF 1:=okd .ld λb c=>(au<|aE<|eS rfl a<|eR<|im ["opinion"] (cN .m) ⟨ax,bP,(bq iF rP aw .m)⟩)
def Kv(b:.oL)(a:.e5):.o "moved" FT 1 ["things","order"] gj 2:=okd ["things","order","behind","thing","person"] λd c=>(ah (aB<|bH<|qk rfl a<|c8 .m)
  (ah (Fy YP rfl (uG rfl b .m .t) .ch<|au<|rT .v .M .aa)
  .nv))
def Kw:fZ ["web","order","ties"] ["web","order"] (bI z7):=fsc
def Kx(e:.og)(b:.AW)(h:.je)(g:.s6)(c:.e2)(d:.AP):.o "named" z7 6 ["web","order"] ff 2:=okd ["web","order","ties"] λa l=>(ah (jf (i:=2) Kw.nd rfl lc (own:=["one","other","weight"]) (capn:=["order"]) (caps:=[1]) rfl .bM (cN .he)
   (λj C s H k=>⟨(hJ rfl<|bE ax<|bE ax<|bE ax eU),bP,(fR<|ae (bp .v .m .L)<|ae (bp .v .t .L) .dz)⟩))
  (au<|aE<|ag e a<|ae .hf<|.du<|ae (.cc<|ae .iN .d9)<|ae (.cc<|ae .nE .d9) ak))
def wx(c:.b9)(b:.AW):.o "named_stand" o8 2 ["stand","order"] aR 2:=okd ["stand","order"] λa d=>(au<|aE<|eS rfl c<|c8 .k2)
def xt(i:.cs)(j:mg "any"=none){g:Tok}(h:mg "MOST_WEIGHT_DOUBLED"=some (.int 200 g)){c:Tok}(e:mg "MOST_PEOPLE_DOUBLED"=some (.int 15 c))(b:.e2)(d:.lk):.o "check_size" qN 2 .ao iu 1:=okd .eJ λa k=>(ah (.bU<|bu vj uf .fO (kR rfl e) .A)
  (au<|eB YP rfl (c9 rfl i .fO) ax<|au<|.bU<|dA<|Qp rfl rfl j<|eR<|im .rv (cN .k1) ⟨.ch,bP,(gE vj uf .t (kR rfl h) .A)⟩))
def uj:fZ ["web","many","ties","person"] .ao (bI jM):=fsc
def uk(b:.cs)(c:.lk)(g:.e2):.o "doubled_ties" jM 2 .ao eF 1:=okd ["web","many","ties","person"] λa h=>(ah (aB .iN)
  (ah (jf (i:=2) uj.nd rfl lc (own:=.hi) (capn:=["many"]) (caps:=[1]) rfl .bM (c9 rfl b .t)
   (λe C s H d=>⟨ax,bP,(fR<|ae .m<|ae (.d3 .t .m) .ft)⟩))
  (ah (eB YP rfl (c9 rfl b .t) ax (au (dB (zH .M (fK (own:=["other", "weight"]) (capn:=["person", "many"]) (caps:=[3,1]) rfl (bL.a .pT) (cN<|.bh .kS)
   (λe C s H d=>⟨.ch,bP,(fR<|.du<|ae (.d3 .v .m)<|ae .rY ak)⟩))))))
  .nv)))
def El:fZ .oa .ao (bI sF):=fsc
def Em(d:.og)(e:.X "doubled_ties" 2 1 eF)(b:.e2)(h:.je)(g:.s6)(c:.X "check_size" 2 1 iu):.o "doubled" sF 6 .ao jx 1:=okd .oa λa k=>(ah (dB .hf)
  (ah (jf (i:=1) El.nd rfl lc (own:=["bar"]) (capn:=[]) (caps:=[]) rfl .fJ (cN .iN)
   (λl C s H j=>⟨ax,bP,(.d3 (.jx .m) aw)⟩))
  (ah (aB .nE)
  (au<|aE<|.dt<|ae (.jx .fO)<|ae .nF<|ae (bH<|oC .t .t)<|ae (bH<|oC .M .M) ak))))
def sI(c:.s4)(d:.X "is_person" 3 2 ke):.o "may_be_chosen" mR 4 .eN dw 2:=okd .eN λa b=>(au<|aE<|MB.me<|pC (iB .k1)<|lP<|iB<|gE .nu jc (.bh .cI) aw .A)
def sJ(a:mg "all"=none)(i:.cs)(j:.bv)(b:.hy)(h:.e5)(d:.X "may_be_chosen" 4 2 dw):.o "are_choosable" mS 5 .eN fm 2:=okd .eN λc k=>(ah (.d2<|ed<|dA<|jZ (t:=.list) rfl b rfl h .bd .t)
  (ah (bY (ed (dA (zv rfl rfl a (eR (fK (own:=.hi) (capn:=.ao) (caps:=[0]) rfl .bM .ja
   (λe C s H g=>⟨ax,bP,(ag d c<|ae .t .bN)⟩)))))) .j2 aV)
  (au (aE (zv rfl rfl a (eR (fK (own:=["place"]) (capn:=.lc) (caps:=[1]) rfl .bM (c9 rfl i<|.gr<|.ff j)
   (λe C s H g=>⟨ax,bP,(gE Iz uf (.hT .m) (.hT<|.d3 .m aw) .A)⟩))))))))
def Ky(g:.b9)(c:.oy)(e:.je)(d:.X "are_choosable" 5 2 fm):.o "begun" FU 6 .sw qH 2:=okd .sw λa b=>(ah (.bU<|ed<|dA .k1)
  (au (aE (eS rfl g (eR (BI (own:=["person", "stay"]) (capn:=["some"]) (caps:=[1]) rfl .bM (vJ rfl c .nF)
   (λi C s H h=>⟨.ch,bP,(xR (MW.mt<|mN (bu rN Jh .m .M rfl)<|.d4 .ys) aw aw)⟩)))))))
def Ac(d:.ta)(c:.X "begun" 6 2 qH):.o "turns_all" tT 7 .sw eL 2:=okd ["web","some","end","word","stands"] λa b=>(ah (aB<|.dt<|ae .m<|ae (.bh .cI) ak)
  (ah (aB .sq)
  (ah (aB .sq)
  (ah (bY (bu (dH b) fS .v (kr .kh rfl) .A) .ut aV)
  (ah (bY (bu rN Jh aw (bp .aa j5 .L) rfl) .ut aV)
  (au<|aE<|fR<|ae .sK<|ae (vA .aa Bk<|Bl j5) ak))))))
def Co(a:.hA)(b:.bv):.o "lists_of" wp 1 ["people"] jL 1:=okd ["people","lists","person"] λc e=>(ah (aB<|bH<|dv (ae .lT ak) .gA)
  (ah (eB YP rfl (cN .m) ax (au (aB (bH (oC .t (bH (fK (own:=["some"]) (capn:=.hi) (caps:=[2]) rfl .bM .ja
   (λg C s H d=>⟨ax,bP,(bH<|oC .m<|bH<|dv .d9 .gA)⟩))))))))
  (au<|aE<|bH<|DT rfl a rfl b .t)))
def Eo(d:.b9)(c:.AO):.o "do_turn" yH 8 ["web","some","known"] gp 3:=okd ["web","some","known","people"] λb a=>(ah (aB<|eS rfl d .mC)
  (ah (bY (bu (GM .iB) GN .v .M rfl) (au<|M3 .iB (gE (dH a) fS (bp (ag c b .cI) aw .L) .sK .A) .M .v) aV)
  (au<|aE<|M4 .iB .M .v)))
def Cp(c:.hA)(b:.s5)(d:.AU):.o "left_out" wr 9 ["web","chosen","known"] mh 3:=okd ["web","chosen","known","grown","left","person","more"] λa e=>(ah (aB .t)
  (ah .e0
  (ah (eB YP rfl (cN .fO) ax (ah (bY (bu rN Jh .aP .v rfl) (au Bh) aV)
  (ah (aB<|bH<|BK rfl c<|eR<|oC .v<|bH<|dv .dE .gA)
  (au<|bY (dA<|.dt<|ae .m<|ae .bt .dz) (au<|dB<|lQ .aa .aP)<|au<|aB .bt))))
  (au<|aE .aa))))
def o9:fZ ["web","m","chosen","known","some","trees"] .qo (bI mj):=fsc
def xu(j:Nat)(F:Fun K "tree_above" "tree_above" mj f fd)(d:.X "left_out" 9 3 mh)(b:.X "tree_above" (9+j) 4 (cY j)):.lJ CX0 (9+(j+1)) f fd .qo (spF K (cY<|j+1) 4):=Ou F o9 λ_ _ _ _ _ _ a=>have c:=RZ a;(ah (bY (bu (dH c) fS .t aw .A) (au<|aE<|fR<|ae (kr .r4 rfl) ak) aV)
  (ah (aB<|uC d (a.mono<|ZM .c<|YF 9 j) rfl (ae .m<|.du .iv)<|zk)
  (ah (jf (i:=5) o9.nd rfl lc (own:=.hi) (capn:=["web", "known", "m", "chosen"]) (caps:=[0,3,1,2]) rfl (bL.a<|bF.cons rfl rfl<|bF.cons rfl rfl .pT) (cN .aa)
   (λg C s H e=>⟨ax,bP,(uC b (a.mono .r) rfl (ae .t<|ae (.gr .v)<|ae (bH<|oC .aa<|bH<|dv .bN .gA) .dz)<|mU j)⟩))
  (au<|aE<|fR<|ae (kr .r3 rfl)<|ae .aa .dE))))
def Hk(b:.bv){h:Tok}(i:mg "MOST_FREE_TRIED"=some (.int 9 h))(c:.X "lists_of" 1 1 jL)(j:.AU)(e:.X "tree_above" 18 4 (cY 9))(g:.s5):.o "fewest" Ck 19 .ao iY 1:=okd ["web","free","known","some","tree"] λa d=>(ah (aB .iN)
  (ah (.bU<|bu vj uf (.ff b) (kR rfl i) .A)
  (ah (aB Js)
  (ah (eB YP rfl (cN<|.bh .d9) ax (au (bY (dA<|ag j a<|ae .m<|ae .v .dz) (ah (aB<|xR (bu (dH d) fS .v .lT .A) dz<|uC e (a.mono .c) rfl (ae .m<|ae (.gr<|.fk<|c8 .v)<|ae .lT .dz)<|mU 9)
  (au<|aE<|fR<|ae .v .fP)) aV)))
  (au<|aE dz)))))
def Ad(a:.bv):.o "_law_cell" tU 1 .yY bM 2:=okd .yY λb c=>(ah (bY (bu Iz uf .t (dk rfl a<|c8 .m) .A) (au<|aE<|bp .m .t .L) aV)
  (au<|aE<|.d3 (bq gD gF .rY .t) .rY))
def Cq(b:.cs):.o "_law_row" wu 1 ["_law_cell_here","_law_way","_law_many","_law_base"] d5 4:=okd ["_law_cell_here","_law_way","_law_many","_law_base","_law_found","_law_number","_law_k"] λc a=>(ah .e0
  (ah (aB .m)
  (ah (bY .wl (au<|aB<|bq fP fQ (bq gD gF (.d5 .m aw) aw) aw) aV)
  (ah (eB YP rfl (c9 rfl b .M) ax (au (bY .wl (ah (aB<|.d5 (bq eV hU (bq eV hU (.d3 (bq gD gF .aP .aP)<|.jx .aP)<|.jx .bt) aw) aw)
  (au<|dB<|lQ .aa<|.d5 (bq ig lO .aP aw) .v)) (ah (dB<|lQ .aa<|.d5 .aP .v)
  (au<|aB<|bq ig lO .aP .v)))))
  (au<|aE .aa)))))
def kF:fZ ["_law_script","_law_most","_law_way","_law_many","_law_tied","_law_told","_law_one","_law_other","_law_heavy","_law_levels","_law_steps","_law_holders"] .xZ (bI mr):=fsc
def xv(c:.cs)(k:mg "sum"=none)(j:mg "max"=none)(d:.AS)(b:.AQ):.o "_law_model" mr 2 .xZ lq 2:=okd ["_law_script","_law_most","_law_way","_law_many","_law_tied","_law_told","_law_one","_law_other","_law_heavy","_law_levels","_law_steps","_law_holders"] λa e=>(ah (aB<|.cc .jS)
  (ah (aB<|.d3 aw<|.d5 (bq ig lO .M aw) .t)
  (ah (jf (i:=4) kF.nd rfl lc (own:=["_law_one"]) (capn:=["_law_many"]) (caps:=[3]) rfl .bM .sC
   (λg C s H h=>⟨ax,bP,(bH<|Jp (dv .ft .gA) .t)⟩))
  (ah (aB<|.dt<|ae (.cc .jS)<|.du<|ae (bq gD gF .v .v) .ft)
  (ah (eB YP rfl .sC ax (au (eB YP rfl (c9 rfl c .bt) ax (ah (aB<|Jq rfl rfl j aw<|.gr .vq)
  (ah (bY .pC (au<|aB<|IS (dv (ae aw<|ae aw<|ae aw<|ae aw<|ae aw<|ae aw .ft) .um) (.d5 .vq aw) .L) aV)
  (ah (rT (mv 8) (bp .aa .bt .L)<|mv 7)
  (au<|rT (mv 8) (bp .aa (mv 7) .L) .bt)))))))
  (ah (jf (i:=9) kF.nd rfl lc (own:=["_law_row_here"]) (capn:=[]) (caps:=[]) rfl .fJ (cN .aa)
   (λg C s H h=>⟨ax,bP,(DC rfl rfl k<|c8 .m)⟩))
  (ah (bY .pC (ah .uQ
  (au<|eB YP rfl .sC ax<|au<|rT (IS (dv (ae (.gr .Ai)<|ae (.gr<|.d3 (bp (mv 9) .bt .L)<|.d5 .Ai aw) ak) .l4) (.d5 (bq ig lO .M aw) aw) .L) (mv 9) .bt)) aV)
  (ah (aB<|bH<|Jp (dv (ae dz ak) .gA) .v)
  (ah (bY .pC (ah .uQ
  (au (jf (i:=11) kF.nd rfl lc (own:=["_law_number"]) (capn:=[]) (caps:=[]) rfl .fJ (cN .aP)
   (λg C s H h=>⟨ax,bP,(IS (dv (ae aw<|ae aw<|ae dz<|ae dz<|ae dz<|ae dz<|ae dz ak) .um) .m .L)⟩)))) aV)
  (au<|aE<|fR<|ae .aa<|ae (mv 9)<|ae (mv 11) ak))))))))))
def xw(a:.cs)(b:.bv):.o "_law_lines" qO 1 .rm iJ 1:=okd ["_law_model_here","_law_found","_law_one","_law_other"] λc d=>(ah .e0
  (ah (eB YP rfl (c9 rfl a<|.fk .iX) ax<|au<|eB YP rfl (c9 rfl a .M) ax<|au<|bY (bu vj uf .xv aw .A) (au<|dB<|lQ .t<|fR<|ae .v<|.du<|ae .xv ak) aV)
  .sQ))
def ul(c:.b9)(a:.cs)(b:.bv):.o "_law_fitting" nV 1 ["_law_model_here","_law_some"] iV 2:=okd ["_law_model_here","_law_some","_law_found","_law_one"] λd e=>(ah .e0
  (ah (eB YP rfl (c9 rfl a<|.ff b) ax (ah (dB<|lQ .M<|.hT .v)
  (au<|bY (bu y6 rR (bp .jT .v .L) dz .A) (au<|rT (bp .jT .v .L) .M .v) aV)))
  (au<|aE<|eS rfl c<|c8 .M)))
def Ae(b:.e5)(e:.bv)(c:.og)(d:.X "_law_lines" 1 1 iJ):.o "_law_made" tV 6 .rm nS 1:=okd .rm λa g=>(au<|aE<|.bh<|ae (dk rfl e .iX)<|ae .he<|ae (bH<|qk rfl b .iX)<|ae (bH<|qk rfl b .iX) ak)
def xx(a:.cs)(b:.bv)(c:.e5):.o "_law_order" qP 1 ["_law_cell_here","_law_many"] lu 2:=okd ["_law_cell_here","_law_many","_law_left","_law_found","_law_k"] λd e=>(ah (aB<|bH<|JO rfl rfl c rfl a .t)
  (ah .e0
  (ah (eB YP rfl (c9 rfl a .t) ax (ah (dB<|lQ .v<|Qs .M<|.d5 .m<|.fk<|c8 .M)
  (au<|aB<|bq ig lO .m<|.d3 (.fk<|c8 .M) aw)))
  (au<|aE .v))))
def sK(e:.hA)(g:.b9)(d:.AD)(c:.AK):.o "_law_pairs_by" mT 3 ["_law_some","_law_way","_law_order_here"] d6 3:=okd ["_law_some","_law_way","_law_order_here","_law_found","_law_one","_law_other","_law_pair"] λa b=>(ah .e0
  (ah (eB YP rfl (cN .m) .ch (ah (bY .ys (au<|aB<|bH<|dv (ae (.dt .fP)<|ae (.dt .dE) ak) .l4)<|au<|aB<|bH<|dv (ae (.bh .sD)<|ae (.bh<|ae .aP .dz) ak) .l4)
  (au<|dB<|lQ .v<|eS rfl g<|eR<|qv b rfl e .bt)))
  (au<|aE<|bH<|qv b rfl e .v)))
def lA(d:.bv)(j:.hA)(e:.X "exchanged" 6 1 dE)(c:.AD)(n:.X "met" 8 3 BU)(m:.X "joined" 8 3 nM)(l:.s3)(h:.s1)(k:.s8)(i:.AH)(g:.s7):.o "_law_exchanged_right" iw 11 ["_law_web","_law_calm","_law_swinging","_law_cell_here"] eu 4:=okd ["_law_web","_law_calm","_law_swinging","_law_cell_here","_law_other","_law_one","_law_two","_law_found"] λa b=>(ah (aB .nF)
  (ah (.d2<|.gp (ag g a .fP)<|bH<|qv b rfl j<|bH<|im .sx .ja ⟨ax,bP,.hf⟩)
  (ah (.d2<|MW.mt<|mN (.gp (ag k a .fP)<|ag i a<|.du<|ae aw<|ae dz ak)<|.d4<|.gp (ag l a .fP)<|.bh<|ae .nE ak)
  (ah (aB<|.hT<|.d5 .v<|.ff d)
  (ah (aB<|.hT<|.d5 (bq ig lO .v aw)<|.ff d)
  (ah (aB<|ag m a<|ae .aa<|ae (.bh .dE)<|ae (.bh<|ae .bt ak) ak)
  (au<|aE<|MB.me<|pC (iB<|gE (dH b) fS (mv 7) (.bh<|ae (ag n a<|ae .m<|ae .aP<|ae .bt ak) ak) .A)<|lP<|iB<|gE (dH b) fS (ag e a .fP) .m .A)))))))
def oV(l:.hA)(d:.s1)(c:.AK)(e:.ta)(g:.s3)(n:.s8)(k:.AH)(i:.s7)(h:.s9):.o "_law_named_right" jN 11 ["_law_web","_law_order_here","_law_calm","_law_swinging","_law_start"] gW 5:=okd ["_law_web","_law_order_here","_law_calm","_law_swinging","_law_start","_law_other","_law_here","_law_there"] λa b=>(ah (aB<|ag h a .cI)
  (ah (bY (bu .nu jc (ag i a .dE) (bH (qv b rfl l (bH (fK (own:=.sx) (capn:=.rl) (caps:=[1]) rfl .bM (cN .M)
   .wq)))) .A) .j2 aV)
  (ah (.d2<|MW.mt<|mN (.gp (ag n a .dE)<|ag k a<|ae .v<|ae aw .d9)<|.d4<|.gp (ag g a .dE)<|.bh<|ae .iN .d9)
  (ah (aB<|ag e a<|ae .m .fP)
  (ah (aB<|ag e a<|ae .aP<|ae (.bh<|ae .aa .d9) ak)
  (ah (bY (MW.mt (mN (.gp (yc .bt Bk<|Bl aw)<|yc (mv 7) Bk<|Bl aw) (ij (bu .nu jc (bp (mv 7) aw .L) (bH (fK (own:=.sx) (capn:=.rl) (caps:=[1]) rfl .bM (cN<|bp .bt aw .L)
   .wq)) .A) .gm))) .j2 aV)
  (au<|aE<|gE (dH b) fS (.dt .dE) (.bh<|ae .he .d9) .A)))))))
def nW(d:.bv)(g:.hA)(h:.AO)(b:.X "fewest" 19 1 iY)(e:.s9):.o "_law_fewest_right" je 20 ["_law_web","_law_order_here"] eG 2:=okd ["_law_web","_law_order_here","_law_other","_law_here","_law_there","_law_moved"] λa c=>(ah (aB<|ag e a .cI)
  (ah (aB .fO)
  (ah (aB<|.cc .dz)
  (ah (bY (MW.mt<|mN (bu kq kt .v dz .A)<|.d4<|bu kq kt .aa dz .A) (au<|aE<|MB.me<|pC (iB<|gE kq kt .v dz .A)<|lP<|iB<|gE kq kt .aa dz .A) aV)
  (ah (aB (bH (BK rfl g (eR (fK (own:=["_law_one"]) (capn:=.rl) (caps:=[1]) rfl .bM (cN .iE)
   (λi C s H j=>⟨ax,bP,(.hT .m)⟩))))))
  (au<|aE<|MB.me<|pC (iB<|gE (dH c) fS (dk rfl d<|c8 .iE) (dk rfl d<|c8<|bp .aa aw .L) .A)<|lP<|iB<|gE (dH c) fS (bp (ag h a<|.du .dE) aw .L) .sK .A))))))
def QL(b:.bv)(r:.cs)(q:mg "min"=none)(d:.s7)(k:.X "doubled" 6 1 jx)(i:.s9)(l:.X "_law_fewest_right" 20 2 eG)(p:.X "_law_named_right" 11 5 gW)(e:.X "_law_exchanged_right" 11 4 eu)(c:.AQ)(g:.X "_law_fitting" 1 2 iV)(m:.AS)(o:.s8)(j:.X "_law_order" 1 2 lu)(h:.X "_law_made" 6 1 nS)(s:.X "_law_model" 2 2 lq):.o "law" yI 21 ["_law_script"] FP 1:=okd ["_law_script","_law_model_here","_law_one","_law_web","_law_many","_law_order_here","_law_calm","_law_swinging","_law_start"] λa n=>(ah (aB<|ag s a .jS)
  (ah (eB YP rfl (c9 rfl r<|.fk<|c8 .g2) ax<|au<|rT (bH<|im ["_law_heavy"] (cN<|bp .g2 .M .L) ⟨ax,bP,(JJ rfl rfl q aw .m)⟩) .g2 .M)
  (ah (aB<|ag h a .d9)
  (ah (aB<|.fk<|c8 .g2)
  (ah (aB<|ag j a<|ae .kG .fP)
  (ah (aB<|.dt .iv)
  (ah (aB<|ag o a .iv)
  (ah (aB<|ag g a<|ae .t<|ae (ag m a<|ae .kG<|ae .kG<|ae .aa .ft) ak)
  (ah (.d2<|ed<|dA<|ag e a<|ae .v<|ae .bt<|ae (mv 7)<|ae .kG ak)
  (ah (.d2<|MW.mt<|mN (ed<|dA<|ag p a<|ae .v<|ae .aP<|ae .bt<|ae (mv 7)<|ae (mv 8) ak)<|.d4<|ed<|dA<|ag l a<|ae .v .dE)
  (au<|aE<|MB.me<|Ot (iB<|gE vj uf .aa aw .A)<|lP<|iB<|gE (dH n) fS (.fk<|c8<|.dt<|ae (ag k a<|ae (ag i a<|ae .v .dE) ak) ak) (.d3 (.fk<|c8 .bt)<|.jx<|.fk<|c8<|mv 7) .A)))))))))))
end
def QM{l:PySem.W.OpenLaw}{w:N3}{K:ZX}{h:Heap}{mg:.aI}{fa:Addr}(X:K.In h)(G:h.Ns mainGlobals mg)(E:mg "law"=some (.ref fa))(EQ:.n "is_whole" wm)(AA:.n "is_between" qI)(AB:.n "is_opinion" qJ)(LD:.n "is_tie" Ce)(AC:.n "neighbours" mi)(C9:.n "bars_told" tQ)(AD:.n "stays_told" qK)(LG:.n "web_of" Cf)(HP:.n "ties_of" yx)(AE:.n "weights_of" qL)(HQ:.n "many_of" yy)(LH:.n "bar_of" Cg)(HR:.n "stay_of" yz)(HS:.n "bars_of" yA)(ER:.n "stays_of" wn)(HU:.n "free_of" yB)(Da:.n "ties_once" tR)(Db:.n "is_person" tS)(Q6:.n "fits" Kq)(xA:.n "check_stand" o6)(HV:.n "pull_at" yC)(HW:.n "next_at" yE)(HX:.n "turn_at" yF)(Oa:.n "ended" FQ)(HY:.n "is_rest" yG)(LJ:.n "end_of" Ci)(wU:.n "stand_of_all" nT)(AF:.n "least_rest" qM)(ur:.n "greatest_rest" mP)(sV:.n "stands_between" ly)(ut:.n "stands_to_try" mQ)(Ob:.n "rests" FR)(Oc:.n "pairs" FS)(xB:.n "check_rests" o7)(LK:.n "joined" Cj)(SN:.n "met" OA)(Dc:.n "exchanged" nU)(rk:.n "exchanged_stand" kg)(Od:.n "moved" FT)(Oe:.n "named" z7)(xC:.n "named_stand" o8)(AG:.n "check_size" qN)(wV:.n "doubled_ties" jM)(HZ:.n "doubled" sF)(uv:.n "may_be_chosen" mR)(uw:.n "are_choosable" mS)(Of:.n "begun" FU)(Dd:.n "turns_all" tT)(ES:.n "lists_of" wp)(Ia:.n "do_turn" yH)(ET:.n "left_out" wr)(rm:.n "tree_above" mj)(LM:.n "fewest" Ck)(De:.n "_law_cell" tU)(EU:.n "_law_row" wu)(AH:.n "_law_model" mr)(AI:.n "_law_lines" qO)(wW:.n "_law_fitting" nV)(Df:.n "_law_made" tV)(AJ:.n "_law_order" qP)(ux:.n "_law_pairs_by" mT)(mI:.n "_law_exchanged_right" iw)(p7:.n "_law_named_right" jN)(oY:.n "_law_fewest_right" je)(SO:.n "law" yI)(AK:Nb K "isinstance")(Q7:Nb K "bool")(SQ:Nb K "int")(SR:Nb K "len")(Oh:Nb K "tuple")(Oi:Nb K "range")(Q8:Nb K "list")(SU:Nb K "all")(LN:Nb K "sorted")(SV:Nb K "sum")(Dg:Nb K "enumerate")(S3:Nb K "zip")(S4:Nb K "max")(S5:Nb K "min")(S6:Nb K "any"){kG:Tok}(xD:.d6 "MOST_WEIGHT"=some (some<|.int 400 kG)){kI:Tok}(xE:.d6 "MOST_PEOPLE"=some (some<|.int 30 kI)){oo:Tok}(Dh:.d6 "MOST_FREE"=some (some<|.int 12 oo)){fF:Tok}(ni:.d6 "MOST_WEIGHT_DOUBLED"=some (some<|.int 200 fF)){fH:Tok}(nj:.d6 "MOST_PEOPLE_DOUBLED"=some (some<|.int 15 fH)){iz:Tok}(rp:.d6 "MOST_FREE_TRIED"=some (some<|.int 9 iz)):∃R:FuncData,(∀(s:Q5) (v:S1),BindsTo s R ⟨[v],[]⟩ [("_law_script",v)])/\∀base:Heap,K.In base->base.Ns mainGlobals mg->kP l.prog w K mg base CX0 21 fa R ["_law_script"] (spF K FP 1):=by
 obtain⟨f,od,Q9,sl,oc,Ra,Rb,Rc,Re,Rf,e,S7,S8,S9⟩:=SO;have e:=E.symm.trans (V8 X G e);cases e;have Ta:=IN (st:=yI) S7 S8 S9;have k:=.ce AK;have EM:=.ce Q7;have Ly:=.ce SQ;have a:=.ce SR;have b:=.ce Oh;have c:=.ce Oi;have g:=.ce Q8;have y:=.ce SU;have i:=.ce LN;have H:=.ce SV;have p:=.ce Dg;have t:=.ce S3;have yQ:=.ce S4;have yR:=.ce S5;have LB:=.ce S6;have kH:=V8 X G xD;have kJ:=V8 X G xE;have oq:=V8 X G Dh;have fG:=V8 X G ni;have fI:=V8 X G nj;have iA:=V8 X G rp;refine⟨PySem.W.fnOf "law" "law" (f6 yI) (ek yI) (bI yI) .none Ra Rb Rc Q9 Re Rf,λs v=>.of_eq rfl,λbase KB _=>?_⟩;have q:En l.prog w K mg base:=⟨h,X,G⟩;have T:=EQ.df1 q (Cm k EM Ly).ok;have o:=AA.df3 q (xk T).ok;have rA:=AB.df1 q (xm o).ok;have LQ:=LD.df2 q (Hf a k b kH o).ok;have AL:=AC.df2 q (xo c k g LQ).ok;have Di:=C9.df2 q (z8 b y a k g T).ok;have AM:=AD.df2 q (xp b y a k g c rA).ok;have x:=LG.df4 q (Hg b i kJ AM Di AL o).ok;have n:=HP.df2 q Ec.ok;have AN:=AE.df2 q (xq H n).ok;have d:=HQ.df1 q (Ed a).ok;have LR:=LH.df2 q Hh.ok;have B:=HR.df2 q Ee.ok;have L:=HS.df1 q (Ef g).ok;have m:=ER.df1 q (Cn g).ok;have N:=HU.df1 q (Eg p m).ok;have ua:=Da.df1 q (z9 c d n).ok;have Dj:=Db.df2 q (Aa o d).ok;have Rg:=Q6.df2 q (Nv p a k b B rA d).ok;have F:=xA.df2 q (wv Rg).ok;have Ib:=HV.df3 q (Eh H n).ok;have Ic:=HW.df3 q (Ei LR Ib B).ok;have r:=HX.df2 q (Ej b c d Ic).ok;have D:=Oa.df2 q (Ks a r F).ok;have Ie:=HY.df2 q (Ek r F).ok;have u:=LJ.df2 q (Hi D).ok;have ow:=wU.df2 q (ui b m).ok;have J:=AF.df1 q (xr u ow).ok;have z:=ur.df1 q (sG u ow).ok;have tq:=sV.df2 q (qQ t c).ok;have mW:=ut.df1 q (sH a oq tq z J N).ok;have C:=Ob.df1 q (Kt r mW).ok;have A:=Oc.df1 q (Ku mW r).ok;have S:=xB.df3 q (ww Ie F).ok;have LS:=LK.df3 q (Hj b t yQ u S).ok;have Tb:=SN.df3 q (QK b t yR u S).ok;have Dk:=Dc.df1 q (Ab p x ua d m L AN).ok;have ki:=rk.df1 q (pS b).ok;have W:=Od.df2 q (Kv t g).ok;have M:=Oe.df2 q (Kx x W m L d ua).ok;have O:=xC.df2 q (wx b W).ok;have AT:=AG.df1 q (xt c LB fG fI d n).ok;have wY:=wV.df1 q (uk c n d).ok;have Ig:=HZ.df1 q (Em x wY d m L AT).ok;have uy:=uv.df2 q (sI B Dj).ok;have uz:=uw.df2 q (sJ y c a k g uy).ok;have Oj:=Of.df2 q (Ky b p m uz).ok;have Z:=Dd.df2 q (Ac D Oj).ok;have EV:=ES.df1 q (Co i a).ok;have Q:=Ia.df3 q (Eo b Z).ok;have EW:=ET.df3 q (Cp i N Q).ok;have I:∀j,Def l.prog w K mg base "tree_above" (9+j) 4 (cY j):=λj=>by
  induction j with
  |zero=>exact rm.df4 (ps:=.qo) q λ_=>Kr
  |succ j ih=>exact rm.df4 q λU=>xu j U EW ih
 replace I:=I 9;have LU:=LM.df1 q (Hk a iA EV Q I N).ok;have V:=De.df2 q (Ad a).ok;have Y:=EU.df4 q (Cq c).ok;have AU:=AH.df2 q (xv c H yQ Y V).ok;have AV:=AI.df1 q (xw c a).ok;have w4:=wW.df2 q (ul b c a).ok;have Dl:=Df.df1 q (Ae g a x AV).ok;have AW:=AJ.df2 q (xx c a g).ok;have mX:=ux.df3 q (sK i b ki O).ok;have mL:=mI.df4 q (lA a i Dk ki Tb LS J z A mX C).ok;have p8:=p7.df5 q (oV i z O D J A mX C M).ok;have oZ:=oY.df2 q (nW a i Z LU M).ok;exact(QL (P:=l.prog) (w:=w) (base:=base) a c yR C Ig M oZ p8 mL V w4 Y A AW Dl AU).ok Ta
end Fm
namespace Fm
variable{h:Hd}{σ:Sd}
def Sj(e:t σ h=.ok true h'):sIf t a b σ h=a σ h':=by simp[sIf,e]
def Nw(e:t σ h=.ok false h'):sIf t a b σ h=b σ h':=by simp[sIf,e]
def yc1(ns:.b)(k:Nat)(e:k<ns.length)(h:Hd):bM [.lit .eH,.int k] h=.ok (.int ns[k]) h:=by
 have a:=lZ (f:=D.int) e;simp[bM,bC,runB,e,a]
def Kz(e:(sml x||sml y)=true)(h:Hd):cL (.int x) (.int y) h=.ok (.int<|x*y) h:=by
 dsimp[cL,oIc,e,WB]
def yc2(ns:.b)(K:Int)(e:¬K<(ns.length:Int))(f:sml K=true)(h:Hd):bM [.lit .eH,.int K] h=.ok (.int<|71*K*K+7*K) h:=by
 have g:∀h,cL (.int 71) (.int K) h=.ok (.int<|71*K) h:=λh=>Kz .sP h;have d:∀h,cL (.int (71*K)) (.int K) h=.ok (.int<|71*K*K) h:=λh=>Kz .sP h;have i:∀h,cL (.int 7) (.int K) h=.ok (.int<|7*K) h:=λh=>Kz .sP h;generalize 71*K=a at g d⊢;generalize a*K=b at d⊢;generalize 7*K=c at i⊢;simp[-cL,bM,bC,runB,e,g,d,i]
def tW(ns:.b)(k:Nat)(a:k<=63):∃v,∀h,bM [.lit .eH,.int k] h=.ok .cp h:=by
 by_cases e:k<ns.length
 ·exact⟨_,yc1 ns k e⟩
 ·exact⟨_,yc2 ns k .a (uL .a .a)⟩
def Nx(c way base:Int)(m:Nat)(hm:m<=1000)(p:0<base)(Y:base<2^250)(h:Hd):∃l:List Int,d5 [.int c,.int way,.int m,.int base] h=.ok .a4 .nc/\l.length=m/\∀x∈l,0<=x/\x<base:=by
 obtain⟨A,t⟩:=q0 .cQ;obtain⟨j,r⟩:=q0 (if way%2=1 then c%2147483629*48271%2147483647 else c:Int)
 have zb:way%2=1->0<=j/\j<4611686018427387904:=λe=>by
  rw[r,z4 e];exact⟨VY _ .c,Int.lt_trans (VA _ .c) .c⟩
 obtain⟨N,H,I,l,z,y,S,k3,L,Z,k6⟩:=cI (P:=λi σ H=>∃(l:.b) (z:Int) (y:.P),σ=[some (.int c),some .fb,some (.int m),some (.int base),some .cA,some (.int z),y]/\H=h++[.lst .br]/\l.length=i/\(∀x∈l,0<=x/\x<base)/\(way%2=1->0<=z/\z<4611686018427387904)) (g:=none) (k:=0)
   .b0
   (tg:=gN 6) (σ:=.pq) (h:=h++[.lst []]) (b:=v7) (by
   rintro i x σ d a ⟨l,z,y,rfl,o,u,J,bz⟩;obtain⟨Q,rfl⟩:=dG a;rw[YE]at u⊢;have w:d[A]?=some (.lst .br):=by rw[o];exact ca t _
   have K:(.cN).length<SZ:=by rw[ZA,u];exact YC Q (ZS hm .c)
   have B:∀v:Int,d.set A (.lst<|l.map .int++[.int v])=h++[.lst ((l++[v]).map .int)]:=λv=>by rw[o,oE t,ZR];rfl
   have G:∀q:Int,(0<=q%base/\q%base<base):=λq=>⟨VY q (Int.ne_of_gt p),VA q p⟩
   by_cases e:way%2=1
   ·have s:=bz e
    have M:sml z=true:=uL s.1 s.2;have U:sml 69621=true:=by decide
    have F:sml 11=true:=by decide
    obtain⟨f,n⟩:=q0 ((z*z+69621*z+11*i+5)%2147483549);have X:0<=f:=by rw[n];exact VY _ .c
    have V:f<2147483549:=by rw[n];exact VA _ .c
    refine⟨_,rfl,.ul,_,?_,l++[f/7%base],f,_,rfl,rfl,by simp[u],λx a=>?_,λ_=>⟨X,Int.lt_trans V .c⟩⟩
    ·rw[<-B]
     have R:aG .dd .tK .jL d=.nx .ul d:=by
      rw[n];exact aD (.jy<|.fe<|av (av (.bp<|j7 M) (.bp<|j7 U) rfl) (.bp<|j7 F) rfl)
     have C:tE .j5 .jL d=.ok true d:=bm (av .kj rfl<|pJ e);show sIf _ _ _ .jL d=_;rw[Sj C,bQ R];exact fB (lW rfl w (av .jO rfl<|eC p) w K)
    ·rcases Z0.mp a with a|a
     ·exact J x a
     ·simp at a;subst a;exact G _
   ·refine⟨_,rfl,[some .eS,some .ac,some (.int m),some .ip,some .T,some (.int<|z/base),some .z],_,?_,l++[z%base],z/base,_,rfl,rfl,by simp[u],λx a=>?_,λq=>absurd q e⟩
    ·rw[<-B]
     have C:tE .j5 .jL d=.ok false d:=bm (av .kj rfl<|pK e);show sIf _ _ _ .jL d=_;rw[Nw C];exact(bQ<|fB<|lW rfl w (.bp<|eC p) w K).trans (aD<|.bp<|kC p Y)
    ·rcases Z0.mp a with a|a
     ·exact J x a
     ·simp at a;subst a;exact G _) ⟨[],j,none,rfl,rfl,rfl,by simp,zb⟩
 have T:0+((.gt m).map λk:Nat=>D.int k).length=m:=by simp
 rw[T]at L;refine⟨l,?_,L,Z⟩;have s1:aG .fR .bE .uT h=.nx .uJ .a6:=aD (gU t rfl .dj);have s2:aG .dd .f .uJ .a6=.nx .uy .a6:=rfl;have s3:sIf (tE .j5) .tV bT .uy .a6=.nx .pq .a6:=by
  have E:sml 48271=true:=by decide
  rw[r]
  by_cases e:way%2=1
  ·rw[z4 e];exact(nc<|bm<|av .kj rfl<|pJ e).trans (aD<|.jy<|av .kj rfl<|Nf E)
  ·rw[yD e];exact dy (bm<|av .kj rfl<|pK e)
 have W:fz (ce .g) .bn v7 .pq .a6=.nx .uw .nc:=by
  rw[S,k3]at I;exact eW (dJ rfl hm) I
 have O:aS .D .uw .nc=.rt .T .nc:=aL rfl;have B:((.wy).map some++List.replicate (7 - (.wy).length) none:Sd)=.uT:=rfl;unfold d5 bC runB;rw[z4 .f3,B,bQ s1,bQ s2,bQ s3,bQ W,O,<-t];exact bW
/---/def fN(M:.av)(n i:Nat):List Int:=(.k).map (M i)
/---/def sL(M:.av)(a b:Nat)(v:Int):Nat->Nat->Int:=λi j=>if i=a/\j=b then v else M i j
structure jO(A n:Nat)(M:.av)(h:Hd):Prop where
 ro:∀i,i<n->h[A+i]?=some .zU
 ti:h[A+n]?=some (.lst .fw)
structure MOk(M:.av):Prop where
 sym:∀i j,M i j=M j i
 bd:∀i j,0<=M i j/\M i j<=400
 no:∀i,M i i=0
def KA(M:.av)(n a b:Nat)(v:Int)(i:Nat):fN (sL M a b v) n i=if i=a then (fN M n a).set b v else fN M n i:=by
 by_cases e:i=a
 ·subst e
  rw[z4 rfl];apply YO;intro j
  by_cases c:j<n
  ·by_cases d:j=b
   ·subst d
    rw[Z1 (by simp[fN,c])];simp[fN,sL,c]
   ·rw[ZP .a]
    simp[fN,sL,c,d]
  ·rw[wZ (by simp[fN];lia),wZ (by simp[fN];lia)]
 ·rw[yD e]
  apply YK;intro j _;simp[sL,e]
variable{A n:Nat}
theorem jO.put(m:jO A n M h)(ha:a<n)(v:Int):jO A n (sL M a b v) (h.set (A+a)<|.lst<|((fN M n a).map .int).set b .cp) where
 ro:=λi c=>by
  rw[KA]
  by_cases e:i=a
  ·subst e
   rw[z4 rfl,Z1 (zS.mp<|m.ro i c).1,List.map_set]
  ·rw[yD e,ZP (λz=>e (XT z).symm)];exact m.ro i c
 ti:=by rw[ZP (λz=>ZN ha (XT z))];exact m.ti
def jO.more(m:jO A n M h)(g:Hd):jO A n M .N:=by
 have k:∀{i:Nat} {x:cv},h[i]?=some x->.N[i]?=some x:=λ{i x} e=>by
  rw[ZC (.bs).1];exact e
 exact⟨λi a=>k (m.ro i a),k m.ti⟩
def jO.set(m:jO A n M h)(b:A+n<k)(c:cv):jO A n M (h.set k c) :=
 ⟨λi a=>by rw[ZP .a];exact m.ro i a,by rw[ZP .a];exact m.ti⟩
theorem MOk.put(o:MOk M)(ne:a≠b)(h0:0<=v)(h1:v<=400):MOk (sL (sL M a b v) b a v) where
 sym:=λi j=>by
  dsimp[sL]
  by_cases q:i=b/\j=a
  ·rw[z4 q]
   by_cases r:j=b/\i=a
   ·rw[z4 r]
   ·rw[yD r,z4 ⟨q.2,q.1⟩]
  ·rw[yD q]
   by_cases p:i=a/\j=b
   ·rw[z4 p,z4 ⟨p.2,p.1⟩]
   ·rw[yD p,yD λz=>p ⟨z.2,z.1⟩,yD λz=>q ⟨z.2,z.1⟩];exact o.sym i j
 bd:=λi j=>by
  dsimp[sL];split
  ·exact⟨h0,h1⟩
  ·split
   ·exact⟨h0,h1⟩
   ·exact o.bd i j
 no:=λi=>by
  dsimp[sL];rw[yD λz=>ne (z.2.symm.trans z.1),yD λz=>ne (z.1.symm.trans z.2)];exact o.no i
def TX{t:Int}(h:0<=t/\t<803):0<=.qj/\.qj<=400:=by split<;>lia
variable{j:Nat}
def QN(hj:j<n):atI ((.fN).map D.int) (j:Int)=some (.int<|M i j):=by
 rw[lZ (by simp[fN,hj])];simp[fN]
def KC{i:Nat}(hi:i<n):atI ((.k).map λi=>D.ref (A+i)) (i:Int)=some (.ref<|A+i):=by
 refine du ?_;simp[hi]
variable{c:.P}
def OB{r:Sd}(e:(sml O||sml N)=true)(h:Hd):.ba .ak .h .vJ h=.ok (.int<|O*N) h:=by
 rw[show aq cL .ak .h .vJ h=cL (.int O) (.int N) h from rfl];exact Kz e h
variable{way:Int}
def q1{tk one i:Nat}(f:E .uf h0=.ok (.int q) h0)(e:h0[tk]?=some (.lst d))(a:atI d (q+i)=some (.int t)):aG (gN 8) (vc .H<|aq fM .yM<|fC<|.int 402) .uf h0=.nx [some S0,some p1,some .ac,some .U,c,some .bD,some .dD,some .z,some (.int .qj),none,none,none] h0:=by
 exact aD (QA rfl<|av (bn rfl (.fe f) (bc e) a) rfl rfl)
def q2{tk one i:Nat}(h:E .t2 h0=.ok (.int q) h0)(f:h0[tk]?=some (.lst d))(a:atI d (q+i)=some (.int t))(e:way/64%2=1)(g:atI [D.int 0,.int 0,.int 1,.int 1,.int 2,.int 3,.int 1] (t%7)=some (.int y)):sIf .l1 (aG (gN 8)<|fIx (ab .H<|ab .H<|ab .u<|ab .u<|ab .K<|ab .fo .fu)<|.a9 .yM .h5) bT .t2 h0=.nx [some S0,some p1,some .ac,some .U,c,some .bD,some .dD,some .z,some (.int y),none,none,none] h0:=by
 exact(nc<|bm<|av (.jy .jO) rfl<|pJ e).trans (aD<|JU (am rfl<|.cC .zS) (.jy<|bn rfl (.fe h) (bc f) a) g)
def q3{tk one i:Nat}(e:¬way/64%2=1):sIf .l1 B bT .t3 h0=.nx .t3 h0:=by
 exact dy (bm<|av (.jy .jO) rfl<|pK e)
def Ny{j:.b}(h1:one<n)(hn:n<=30)(tl:j.length=n*n)(tb:∀x∈j,0<=x/\x<803)(J:A+n<tk){M:.av}(O:MOk M)(m:jO A n M h)(ht:h[tk]?=some .tA){S0 p1:D}{a b:.P}{L:Nat}(hL:h.length=L):
  ∃l h' G C,eM none ((.gt one).map λk:Nat=>D.int k) (gN 7) pP ((.gt one).map λk:Nat=>D.int k) [some S0,some p1,some .ac,some .U,some .iw,some .bD,some .dD,a,b,none,none,none] h
   = .nx [some S0,some p1,some .ac,some .U,some .iw,some .bD,some .dD,G,C,none,none,none] h'/\MOk l/\jO A n l h'/\h'[tk]?=some .tA/\h'.length=L:=by
 obtain⟨S,h',Y,l,G,C,T,k3,k4,k5,U⟩:=cI (P:=λi σ h'=>∃(l:.av) (a b:.P),σ=[some S0,some p1,some .fb,some .dp,some (.ref<|A+n),some (.ref tk),some (.int one),a,b,none,none,none]/\MOk l/\jO A n l h'/\h'[tk]?=some .tA/\h'.length=L) (g:=none) (k:=0)
   .b0
   (tg:=gN 7) (σ:=[some S0,some p1,some .ac,some .U,some (.ref<|A + n),some .bD,some .dD,a,b,none,none,none]) (h:=h) (b:=pP) (by
   rintro i x σ d hx ⟨M1,a,b,rfl,O1,z,s,W⟩;obtain⟨H,rfl⟩:=dG hx;have c:i<n:=YC H h1;have lt:one*n+i<j.length:=by
    rw[tl];exact Z5 (U0 c _) (by rw[<-Nat.succ_mul];exact Nat.mul_le_mul_right n h1)
   have o:atI (j.map D.int) ((one:Int)*n+i)=some (.int j[one*n+i]):=by
    have:=lZ (f:=D.int) lt;rw[show (one:Int)*n+i=((one*n+i:Nat):Int) by rw[Int.natCast_add,Int.natCast_mul]];exact this
   have q:=tb _ (YR lt);generalize j[one*n+i]=t at o q;have Q:sml (n:Int)=true:=uL (VT n) (ya .nW .c);obtain⟨p,r⟩:=q0 (if t-402>0 then t-402 else 0:Int)
   have F:0<=p/\p<=400:=by rw[r];exact TX q
   have s1:aG (gN 8) .uo .tX d=.nx [some S0,some p1,some .ac,some .U,some .iw,some .bD,some .dD,some .z,some (.int p),none,none,none] d:=by
    rw[r];exact q1 (E:=.ba .ak .h) (OB (by rw[Q,wq]) d) s o
   obtain⟨v,N,s2⟩:∃v:Int,(0<=v/\v<=400)/\sIf .l1 .tH bT [some S0,some p1,some .fb,some .dp,some (.ref<|A+n),some (.ref tk),some (.int one),some .cX,some (.int p),none,none,none] d=.nx .hW d:=by
    by_cases e:way/64%2=1
    ·obtain⟨y,R,I⟩:=Sg D.int [0,0,1,1,2,3,1] (x:=t%7) (VY t .c) (VA t .c)
     dsimp[yP,V0]at I;refine⟨y,by simp at R;rcases R with rfl|rfl|rfl|rfl|rfl<;>decide,?_⟩;exact q2 (E:=.ba .ak .h) (OB (by rw[Q,wq]) d) s o e I
    ·refine⟨p,F,?_⟩
     exact q3 e
   have K:∀(M:.av) (i:Nat),(.fN).length=n:=λM i=>by simp[fN]
   have ne:one≠i:=YN H;have B:=z.put (b:=i) h1 v;have Z:=B.put (b:=one) c v;have w:=z.ro one h1;have u:=B.ro i c;have a1:=KC (A:=A) h1;have X:=KC (A:=A) c;have s3:nn (fAt .D .ak) .bj .dR .hW d=.nx .hW .py:=by
    exact r6 rfl (.fh (bc z.ti) a1) rfl w (uN (by rw[ZA,K];exact c))
   have V:nn (fAt .D .bj) .ak .dR .hW .py=.nx .hW ((.py).set (A+i) (.lst<|((fN (sL M1 one i v) n i).map .int).set one .cp)):=by
    exact r6 rfl (.fh (bc B.ti) X) rfl u (uN (by rw[ZA,K];exact h1))
   refine⟨_,rfl,.hW,_,?_,sL (sL M1 one i v) i one v,_,_,rfl,O1.put ne N.1 N.2,Z,?_,by simp[W]⟩
   ·show aA _ _ .tX d=_
    rw[bQ s1,bQ s2,bQ s3,V]
   ·exact(ZP<|ZN<|YC (U0 c A) J).trans ((ZP<|ZN<|YC (U0 h1 A) J).trans s)) ⟨M,a,b,rfl,O,m,ht,hL⟩
 exact⟨l,h',G,C,by rw[Y,T],k3,k4,k5,U⟩
def Nz{e:.b}(hn:n<=30)(I:e.length=n*n)(tb:∀x∈e,0<=x/\x<803)(s:A+n<tk){M:.av}(O:MOk M)(m:jO A n M h)(ht:h[tk]?=some (.lst<|e.map .int)){S0 p1:D}{L:Nat}(y:h.length=L):
  ∃d h' c a b,eM none ((.k).map λk:Nat=>D.int k) .bn l8 ((.k).map λk:Nat=>D.int k) [some S0,some p1,some .ac,some .U,some .iw,some .bD,none,none,none,none,none,none] h
   = .nx [some S0,some p1,some .ac,some .U,some .iw,some .bD,c,a,b,none,none,none] h'/\MOk d/\jO A n d h'/\h'.length=L:=by
 obtain⟨j,h',v,d,K,Q,F,o,E,G,R,p⟩:=cI (P:=λi σ h'=>∃(d:.av) (c a b:.P),σ=[some S0,some p1,some .fb,some .dp,some (.ref<|A+n),some (.ref tk),c,a,b,none,none,none]/\MOk d/\jO A n d h'/\h'[tk]?=some (.lst<|e.map .int)/\h'.length=L) (g:=none) (k:=0)
   .b0
   (tg:=gN 6) (h:=h) (b:=l8) (by
   rintro i x σ S N ⟨M1,c,a,b,rfl,J,z,l,t⟩;obtain⟨f,rfl⟩:=dG N;obtain⟨M2,w,u,C,q,O2,B,H,r⟩:=Ny f hn I tb s J z l (S0:=S0) (p1:=p1) (way:=way) (a:=a) (b:=b) t;refine⟨_,rfl,_,w,?_,M2,some .cX,u,C,rfl,O2,B,H,r⟩;exact eW (dJ rfl<|ZM (YX f)<|kX hn) q) ⟨M,none,none,none,rfl,O,m,ht,y⟩
 exact⟨d,h',K,Q,F,by rw[v,o],E,G,p⟩
structure Mdl(ns:.b)(mo:Int)(n:Nat)(M:.av)(bs:.b)(ss:.y)(bk sk:Nat)(h:Hd):Prop where
 run:lq [.lit .eH,.int mo] []=.ok (.tup .se) h
 n1:1<=n
 n30:n<=30
 nmo:(n:Int)<=mo
 bkn:n<bk
 skn:bk<sk
 mt:jO 0 n M h
 mo:MOk M
 ba:h[bk]?=some .bA
 st:h[sk]?=some .df
 lb:bs.length=n
 ls:ss.length=n
 os:∀x∈ss,x=none\/x=some 0\/x=some 1
 bb:∀x∈bs,-20000<=x/\x<=20000
def Cr(hi:σ[i]?=some (some .ac))(b:0<d)(a:d<2^250):tE (.c5 (.a9 (aq jy (aa i)<|fC<|.int d) .K) .u) σ h=.ok (decide (way/d%2=1)) h:=by
 have v:aa i σ h=.ok .ac h:=by dsimp[aa,slot,hi]
 exact bm (av (.jy<|av v rfl<|kC b a) rfl BR)
def QO(x:Int):x%2=0\/x%2=1:=Int.emod_two_eq x
def lv1(h:0<=x/\x<2001): -20000<=x-1000/\x-1000<=20000:=by lia
def lv2(h:0<=x/\x<=12000): -20000<=x+y%7-3/\x+y%7-3<=20000:=by lia
def lv3(h:0<=x/\x<=12000): -20000<=x/\x<=20000:=by lia
def KD{A lk tk:Nat}{f:.b}(hn:n<=30)(U:f.length=n)(ne:lk≠tk){bs:.b}(lb:.aX)(sb:∀x∈f,0<=x/\x<2001)(bb:∀x∈bs,0<=x/\x<=12000)(K:h[lk]?=some .bA)(ht:h[tk]?=some (.lst<|f.map .int)){S0 p1 q4 q5:D}{a b:.P}:
  ∃(d:.b) (u:.P),eM none ((.k).map λk:Nat=>D.int k) .bn jJ ((.k).map λk:Nat=>D.int k) [some S0,some p1,some .ac,some .U,some q4,some q5,c,a,b,some (.ref lk),some .bD,none] h
   = .nx [some S0,some p1,some .ac,some .U,some q4,some q5,u,a,b,some (.ref lk),some .bD,none] (h.set lk<|.lst<|d.map .int)/\d.length=n/\∀x∈d,-20000<=x/\x<=20000:=by
 have t:lk<h.length:=(zS.mp K).1;obtain⟨L,G,Q,d,u,N,V,W,R⟩:=cI (P:=λi σ G=>∃(d:.b) (u:.P),σ=[some S0,some p1,some .fb,some .dp,some q4,some q5,u,a,b,some (.ref lk),some (.ref tk),none]/\G=h.set lk (.lst<|d.map .int)/\d.length=n/\∀(j:Nat) x,d[j]?=some x->(-20000<=x/\x<=20000)/\(i<=j->0<=x/\x<=12000)) (g:=none)
   .b0
   (tg:=gN 6) (h:=h) (b:=jJ) (by
   rintro i x σ C Z ⟨l,c1,rfl,o,I,p⟩;rw[YE]at p⊢;obtain⟨F,rfl⟩:=dG Z;have B:C[lk]?=some (.lst .br):=by rw[o,Z1 t]
   have w:C[tk]?=some (.lst<|f.map .int):=by rw[o,ZP ne];exact ht
   have hi1:i<l.length:=I▸F;have E:atI .cN (i:Int)=some (.int l[i]):=lZ hi1;have r:atI (f.map D.int) (i:Int)=some (.int f[i]):=lZ (U▸F);have v:=(p i l[i] (by simp[hi1])).2 .r;have s:=sb f[i] (YR _);generalize l[i]=S at E v;generalize f[i]=J at r s;have M:=QO (way/256);have H:ixN (.cN).length (i:Int)=some i:=uN (by rw[ZA];exact hi1);obtain⟨y,Y,X⟩:∃y:Int,(-20000<=y/\y<=20000)/\jJ .tQ C=.nx .tQ (C.set lk<|.lst<|(.br).set i (.int y)):=by
    rcases M with e|e
    ·exact⟨J-1000,lv1 s,.tG⟩
    ·exact⟨S+J%7-3,lv2 v,.tG⟩
   refine⟨_,rfl,_,_,X,l.set i y,some .z,rfl,?_,by simp[I],λj z m=>?_⟩
   ·rw[o,List.set_set,List.map_set]
   ·by_cases e:i=j
    ·subst e
     rw[Z1 hi1]at m;cases m;exact⟨Y,λq=>absurd q (Nat.not_succ_le_self _)⟩
    ·rw[ZP e]at m
     have q:=p j z m;exact⟨q.1,λO=>q.2 (Nat.le_of_succ_le O)⟩) ⟨bs,c,rfl,by
    apply YO;intro j
    by_cases e:lk=j
    ·subst e;rw[Z1 t];exact K
    ·rw[ZP e],lb,λj z m=>by
     have q:=bb z (ZK m);exact⟨lv3 q,λ_=>q⟩⟩
 exact⟨d,u,by rw[Q,N,V],W,λz m=>by
  obtain⟨j,T⟩:=UN m;exact(R j z T).1⟩
theorem FV(v:D):∀n,(.d0 n [v]).flatten=List.replicate n v
 |0=>rfl
 |n+1=>by rw[X4,X4,X6,FV v n];rfl
def Hl{l:.b}(hb:∀x∈l,0<=x/\x<7)(j:h[k]?=some .mQ)(a:.P):∃ss:List .hX,bU .b8 .br .B [] (fIx .pk .f) .br [a] h=.ok .aD h/\ss.length=l.length/\∀x∈ss,x=none\/x=some 0\/x=some 1:=by
 have:=br (g:=some k) (tg:=gN 0) (cs:=[]) (e:=fIx .pk .f) (I:=λσ=>∃a,σ=[a]) .aM (λd=>match d with | .int x=>aP (if x=0 then some 0 else if x=1 then some 1 else none)|_=>.non) j
  (xs:=l.map .int) (σ:=[a]) (by
   rintro x f σ ⟨c,rfl⟩;obtain⟨u,i,rfl⟩:=z5.mp f;have b:=hb u i;refine⟨_,rfl,⟨_,rfl⟩,rfl,λ_=>?_⟩;obtain⟨u,rfl⟩:=Int.eq_ofNat_of_zero_le b.1
   match u,Int.ofNat_lt.mp b.2 with
   |0,_|1,_|2,_|3,_|4,_|5,_|6,_=>rfl
   |k+7,z=>exact .gx (VN.mpr<|Nat.le_add_left 7 k)) ⟨_,rfl⟩
 refine⟨l.map λx=>if x=0 then some 0 else if x=1 then some 1 else none,?_,by simp,λx f=>?_⟩
 ·rw[this,Z9.mpr .e,y3,y3];rfl
 ·obtain⟨u,_,rfl⟩:=z5.mp f
  split
  ·exact .inr .ca
  ·split
   ·exact .inr .gm
   ·exact .inl rfl
def Sl{r:Sd}(e:(sml N||sml N)=true)(h:Hd):.ba .h .h .yc h=.ok (.int<|N*N) h:=by
 rw[show aq cL .h .h .yc h=cL (.int N) (.int N) h from rfl];exact Kz e h
def QP{d c b:D}(e:bM [S0,.int 1] a=.ok (.int g) a)(h:E .up a=.ok (.int q) a)(q4:d5 [.int g,.int way,.int q,.int 803] a=.ok .an f):
  aG .dd (af d5<|ab (af bM<|.c1 .fu)<|ab .g<|ab E<|ab (fC<|.int 803) aj) .up a=.nx [some S0,some d,some .ac,some c,some b,some .an,none,none,none,none,none,none] f:=by
 exact aD (ar (am (.O e)<|.cC<|am h .cg) q4)
def OC(hn:n<=30)(hb:b σ h=.d8 h):aI (va (ab (fC v) aj) b) σ h=.ok .a4 (h++[.lst (.d0 n v)]) :=
 bS (by rw[Qy rfl hb ⟨VT n,wb .nW .c,by rw[X9];exact ZM (V1<|Nat.one_mul n) (kX hn)⟩,X9,FV]) (by rw[UI];exact kX hn)
def QQ(way:Int)(h0:0<mo)(h1:mo<=17):∃n:Nat,(n:Int)=1+way/2%mo/\1<=n/\n<=30/\(n:Int)<=mo:=by
 have a:=VY (way/2) (Int.ne_of_gt h0);have b:=VA (way/2) h0;generalize way/2%mo=x at a b;obtain⟨k,rfl⟩:=Int.eq_ofNat_of_zero_le a;exact⟨1+k,rfl,YF 1 k,by lia,by have b:(k:Int)<mo:=b;lia⟩
theorem OD:∀l:List Int,(∀y∈l,0<=y/\y<=400)->0<=l.sum/\l.sum<=400*l.length
 |[],_=>⟨X5 _,X5 _⟩
 |y::l,h=>by
  have a:=h y ZV;have b:=OD l λz c=>h z (ZW _ c);rw[VL,YT];lia
def TY{x:Int}(hn:n<=30)(h:0<=x/\x<=400*n):0<=x/\x<=12000:=⟨h.1,wb h.2 (Int.mul_le_mul_of_nonneg_left .nW .c)⟩
noncomputable abbrev XMy(S0:D)(mo way:Int)(n:Nat)(a5 a6 a7 a8 a9 a10 a11:.P):Sd:=[some S0,some (.int mo),some .ac,some .U,some (.ref<|0+n),a5,a6,a7,a8,a9,a10,a11]
def KE(ns:.b){mo:Int}(h0:0<mo)(b5:mo<=17):∃n M bs ss bk sk h,Mdl ns mo n M bs ss bk sk h:=by
 obtain⟨way,C⟩:=tW ns 0 .c;obtain⟨c1,a0⟩:=tW ns 1 .c;obtain⟨c2,X⟩:=tW ns 2 .c;obtain⟨c3,W⟩:=tW ns 3 .c;obtain⟨S0,G⟩:=q0 (.lit .eH:D);have C:∀h,bM [S0,.int 0] h=.ok .fb h:=by rw[G];exact C
 have a0:∀h,bM [S0,.int 1] h=.ok (.int c1) h:=by rw[G];exact a0
 have X:∀h,bM [S0,.int 2] h=.ok (.int c2) h:=by rw[G];exact X
 have W:∀h,bM [S0,.int 3] h=.ok (.int c3) h:=by rw[G];exact W
 obtain⟨n,hn,n1,f,a8⟩:=QQ way h0 b5;have e0:.ew (af bM .kn) .uq []=.nx .uc []:=aD (.O<|C _);have e1:aG .bR .wr .uc []=.nx [some S0,some (.int mo),some .fb,some .dp,none,none,none,none,none,none,none,none] []:=by rw[hn];exact aD (av rfl (av .jO rfl<|eC h0) rfl)
 obtain⟨ds,h2,k2,l2,v2,c0,q2,N,g2⟩:=lV (g:=none) (tg:=gN 0) (k:=0)
  (e:=aI (va (ab .H aj) .d)) (σ:=[none,some .U]) (h:=[])
  (P:=λi σ h=>(∃a,σ = [a,some .U])/\h.length=i/\∀j,j < i->h[j]? = some (.lst .xr)) (V:=λi d=>d=.ref i) .b0 (by
   rintro i x σ h0 H ⟨⟨a,rfl⟩,hl,e1⟩;obtain⟨hi,rfl⟩:=dG H;rw[YE]at hl e1⊢;refine⟨_,rfl,.ref h0.length,h0++[.lst .xr],?_,by rw[hl],⟨_,rfl⟩,by simp[hl],λj hj=>?_⟩
   ·rw[List.map_replicate];exact OC f rfl
   ·by_cases hji:j<i
    ·exact .j (e1 j hji)
    ·have:j=i:=Nat.le_antisymm (WA hj) (VN.mp hji)
     subst this;rw[<-hl];exact ZG) ⟨⟨_,rfl⟩,rfl,λj hj=>absurd hj .em⟩
 simp at l2 N g2;have b4:ds=(.k).map λi=>.ref (0+i):=vN l2 λi d hd=>by simpa using v2 i d hd
 subst b4;obtain⟨w,K⟩:=q0 (h2++[cv.lst .qO]);have l3:w.length=n+1:=by rw[K];simp[N]
 have e2:aG .fR .uW [some S0,some (.int mo),some .ac,some .U,none,none,none,none,none,none,none,none] []=.nx .vl w:=by
  rw[K];show _=Out.nx [some S0,some (.int mo),some .ac,some .U,some (.ref<|0+n),none,none,none,none,none,none,none] _;rw[show D.ref (0+n)=.ref h2.length by rw[N,YE]];exact aD (bS (cM .sl k2) (by rw[ZA,ZO];exact(kX f)))
 have m3:jO 0 n (λ_ _=>0) w:=by
  refine⟨λi hi=>?_,?_⟩
  ·rw[K,YE,.j (g2 i hi)]
   congr 2;dsimp[fN,y3];apply YO;intro j
   by_cases hj:j<n<;>simp[hj]
  ·rw[K,YE,<-N];exact ZG
 have O3:MOk (λ_ _=>0):=⟨λ_ _=>rfl,λ_ _=>⟨X5 _,by decide⟩,λ_=>rfl⟩;obtain⟨td,q4,tl,tb⟩:=Nx c1 way 803 (n*n) (ZM (Nat.mul_le_mul f f) .c) .c .c w;obtain⟨h4,R⟩:=q0 (w++[cv.lst (td.map .int)]);rw[<-R,l3]at q4;have sn:sml (n:Int)=true:=uL (VT n) (ya (UW.mpr f) .c);have e3:aG .dd .t6 .vl w=.nx .vm h4:=by
  have b0:d5 [.int c1,.int way,.int ((n:Int)*n),.int 803] w=.ok (.ref<|n+1) h4:=by rw[<-Int.natCast_mul];exact q4
  exact QP (E:=.ba .h .h) (a0 w) (Sl (by rw[sn,Bool.or_self]) w) b0
 have m4:jO 0 n (λ_ _=>0) h4:=by rw[R];exact m3.more _
 have t4:h4[n+1]?=some (.lst<|td.map .int):=by rw[R,<-l3];exact ZG
 obtain⟨M,Z,Q,p,q,q5,O5,m5,l5⟩:=Nz (A:=0) (tk:=n+1) (way:=way) f tl tb .a O3 m4 t4 (S0:=S0) (p1:=.int mo) (L:=n+2) (by rw[R];simp[l3]);have e4:fz (ce .h) .bn l8 .vm h4=.nx .v4 Z:=eW .sl q5;have cs:bU (some<|0+n) .qO .B [] (uY .ei) .qO .bu Z=.ok ((.zw).map D.int) Z:=by
  have:=br (g:=some (0 + n)) (all:=(.k).map λi=>.ref (0 + i)) (tg:=gN 0) (cs:=[]) (e:=uY .ei) (h:=Z) (I:=λσ=>∃a,σ = [a]) .aM (λd=>match d with | .ref k=>.int (fN M n k).sum|_=>.non) m5.ti (xs:=(.k).map λi=>.ref (0 + i)) (σ:=.bu) (by
   rintro x H σ ⟨a,rfl⟩;obtain⟨i,hi,rfl⟩:=z5.mp H;have hi:=YD.mp hi;have r:=m5.ro i hi;dsimp[YE]at r⊢;refine⟨_,rfl,⟨_,rfl⟩,rfl,λ_=>?_⟩;exact JW (.cE<|bc r) (yg _)) ⟨_,rfl⟩
  rw[this,Z9.mpr .e,y3,y3];refine congrArg (λl=>Res.ok l Z) ?_;apply YK;intro i _;simp
 obtain⟨t,B⟩:=q0 .zw;rw[<-B]at cs;have U:t.length=n:=by rw[B];simp
 have a4:∀x∈t,0<=x/\x<=12000:=λx H=>by
  rw[B]at H;obtain⟨i,_,rfl⟩:=z5.mp H;have:=OD .fN λy hy=>by
   obtain⟨j,_,rfl⟩:=z5.mp hy;exact O5.bd i j
  have ll:(.fN).length=n:=by simp[fN]
  rw[ll]at this;exact TY f this
 obtain⟨v,O⟩:=q0 (Z++[cv.lst (t.map .int)]);have l6:v.length=n+3:=by rw[O];simp[l5]
 have e5:aG (gN 9) .v9 .v4 Z=.nx .lY v:=by
  rw[O,<-l5];exact aD (bS (cM (.cF m5.ti) cs) (by rw[ZA,U];exact(kX f)))
 have m6:jO 0 n M v:=by rw[O];exact m5.more _
 have b6:v[n+2]?=some (.lst<|t.map .int):=by rw[O,<-l5];exact ZG
 have e6:∃(bs:.b) (m o:.P) (u:Hd),sIf .u0 (aA (aG (gN 10) .pp)
  .Af) bT .lY v=.nx .wo u/\jO 0 n M u/\u[n+2]?=some .bA/\bs.length=n/\n+3<=u.length/\∀x∈bs,-20000<=x/\x<=20000:=by
  have S:=Cr (way:=way) (d:=128) (σ:=.lY) (h:=v) (i:=2) rfl .c .c
  by_cases e:way/128%2=1
  ·rw[ZZ e]at S
   obtain⟨Y,q7,sl,sb⟩:=Nx c2 way 2001 n (kX f) .c .c v;rw[l6]at q7;have t1:aG (gN 10) .pp .lY v=.nx (XMy S0 mo way n .h1 Q p q .gB (some<|.ref<|n+3) none) (v++[.lst (Y.map .int)]):=by
    exact aD (ar (am (.O<|X _) .cO) q7)
   obtain⟨a3,c',q8,a6,a7⟩:=KD (A:=0) (lk:=n+2) (tk:=n+3) (way:=way) f sl (ZN<|YU _) (h:=v++[.lst (Y.map .int)]) U sb a4 (.j b6) (by rw[<-l6];exact ZG) (S0:=S0) (p1:=.int mo) (q4:=.ref (0+n)) (q5:=.ref (n+1)) (a:=p) (b:=q) (c:=Q);refine⟨a3,c',some (.ref<|n+3),_,?_,(m6.more [.lst (Y.map .int)]).set (k:=n+2) .a (.lst<|a3.map .int),?_,a6,by simp[l6],a7⟩
   ·exact(nc S).trans ((bQ t1).trans (eW .sl q8))
   ·rw[Z1 (by simp[l6])]
  ·rw[Z6 e]at S
   exact⟨t,Q,none,v,by rw[Nw S];rfl,m6,b6,U,V1 l6.symm,λx H=>lv3 (a4 x H)⟩
 obtain⟨bs,m,o,u,e6,m7,b7,a9,l7,a5⟩:=e6;obtain⟨s,F⟩:=q0 (u++[cv.lst .v0]);have e7:.jJ .yR .wo u=.nx .lV s:=by
  rw[F,List.map_replicate];exact aD (OC f rfl)
 have m8:jO 0 n M s:=by rw[F];exact m7.more _
 have b8:s[n+2]?=some .bA:=by rw[F];exact .j b7
 have s8:s[u.length]?=some (.lst .v0):=by rw[F];simp
 have e8:∃(ss:.y) (x5:D) (sk:Nat) (T:Hd),sIf .uZ (aA (.bW .pl)
  (.jJ .pP)) bT .lV s=.nx .u3 T/\jO 0 n M T/\T[n+2]?=some .bA/\T[sk]?=some .df/\ss.length=n/\(∀x∈ss,x=none\/x=some 0\/x=some 1)/\n+2<sk:=by
  have S:=Cr (way:=way) (d:=512) (σ:=.lV) (h:=s) (i:=2) rfl .c .c
  by_cases e:way/512%2=1
  ·rw[ZZ e]at S
   obtain⟨a2,q9,sl,sb⟩:=Nx c3 way 7 n (kX f) .c .c s;obtain⟨J,z⟩:=q0 (s++[cv.lst (a2.map .int)]);rw[<-z]at q9;have g9:J[s.length]?=some (.lst<|a2.map .int):=by rw[z];simp
   obtain⟨ss,cq,a1,b2⟩:=Hl sb g9 none;have t1:aG .dd .pl .lV s=.nx .un J:=by
    exact aD (ar (am (.O<|W _) .cO) q9)
   have t2:.jJ .pP .un J=.nx (XMy S0 mo way n (some<|.ref s.length) m p q .gB o<|some<|.ref J.length) (J++[.lst .aD]):=by
    exact aD (bS (cM (.cF g9) cq) (by rw[ZA,a1,sl];exact(kX f)))
   refine⟨ss,.ref s.length,J.length,J++[.lst .aD],?_,by rw[z];exact(m8.more _).more _,?_,by simp,a1.trans sl,b2,by rw[z,F];simp;lia⟩
   ·exact(nc S).trans ((bQ t1).trans t2)
   ·exact .j (by rw[z];exact .j b8)
  ·rw[Z6 e]at S
   exact⟨List.replicate n none,.ref (n+1),u.length,s,by rw[Nw S];rfl,m8,b8,s8,by simp,λx H=>.inl (List.eq_of_mem_replicate H),by lia⟩
 obtain⟨ss,x5,sk,T,e8,m9,b9,s9,b3,b1,k9⟩:=e8;have e9:aS .v6 .u3 T=.rt (.tup [.ref (0+n),.ref (n+2),.ref sk]) T:=aL (hV .cO);refine⟨n,M,bs,ss,n+2,sk,T,?_,n1,f,a8,by lia,k9,m9,O5,b9,s9,a9,b3,b1,a5⟩;have st:([S0,D.int mo].map some++List.replicate (12 - [S0,D.int mo].length) none:Sd)=.uq:=rfl;rw[<-G];unfold lq bC runB;rw[z4 .f3,st,bQ e0,bQ e1,bQ e2,bQ e3,bQ e4,bQ e5,bQ e6,bQ e7,bQ e8,e9];exact jr rfl
/---/def ng(one other i j:Nat):Prop:=(i<one/\j<one)\/(i=one/\j<other)\/(j=one/\i<other)
instance(one other i j:Nat):Decidable (ng one other i j):=by unfold ng;infer_instance
/---/def ib(M:.av)(s:.b)(one other i j:Nat):Int:=if ng one other i j/\s.getD j 0=1 then M i j else 0
structure LP(n:Nat)(M:.av)(one other:Nat)(T:.ah):Prop where
 ok:TOk n one other T
 pl:∀i,i<n->∀s,aU .aN s=fD (ib M s one other i) n
def pa1(a b c:Int):a+(b+c)=a+b+c:=(Int.add_assoc a b c).symm
def wy(r a:.as)(s:.b):aU (r++a) s=aU r s+aU a s:=by
 induction r with
 |nil=>simp[aU,eY]
 |cons p r b=>rw[UV,cD,cD,b];exact pa1 _ _ _
def sr1(S x y:Int):S+0+x=S+y+(x-y):=by lia
theorem uQ(h:∀j,j≠p->f j=g j):∀n,fD f n=fD g n+if p<n then f p-g p else 0
 |0=>by simp[fD]
 |n+1=>by
  rw[fD,fD,uQ h n]
  by_cases e:n=p
  ·subst e
   rw[yD (YI _),z4 (YU _)];exact sr1 _ _ _
  ·rw[h n e]
   by_cases l:p<n
   ·rw[z4 l,z4 (Z2 l)];exact Int.add_right_comm _ _ _
   ·rw[yD l,yD λz=>(VD.mp z).elim l λz=>e z.symm,Int.add_zero,Int.add_zero]
theorem mw:∀n,(∀j,j<n->f j=g j)->fD f n=fD g n
 |0,_=>rfl
 |n+1,h=>by rw[fD,fD,mw n λj hj=>h j .a,h n .a]
def Hm:ng one .f0 i j↔ng one other i j\/(i=one/\j=other)\/(j=one/\i=other):=by
 constructor
 ·rintro (h|⟨a,b⟩|⟨a,b⟩)
  ·exact .inl .hQ
  ·exact(VD.mp b).elim (λb=>.inl (.inr<|.inl ⟨a,b⟩)) λb=>.inr (.inl ⟨a,b⟩)
  ·exact(VD.mp b).elim (λb=>.inl (.inr<|.inr ⟨a,b⟩)) λb=>.inr (.inr ⟨a,b⟩)
 ·rintro ((h|⟨a,b⟩|⟨a,b⟩)|⟨a,b⟩|⟨a,b⟩)
  ·exact .inl h
  ·exact .inr (.inl ⟨a,Z2 b⟩)
  ·exact .inr (.inr ⟨a,Z2 b⟩)
  ·exact .inr (.inl ⟨a,b▸YU _⟩)
  ·exact .inr (.inr ⟨a,b▸YU _⟩)
def sM(h1:¬(i=one/\j=other))(h2:¬(j=one/\i=other)):ng one .f0 i j↔ng one other i j :=
 Hm.trans ⟨λz=>z.elim id λz=>z.elim (λz=>.gx h1) λz=>.gx h2,.inl⟩
def FW(a:other<one):¬ng one other one other/\¬ng one other other one:=by
 refine⟨?_,?_⟩
 ·rintro (h|h|h)
  ·exact YI _ h.1
  ·exact YI _ h.2
  ·exact YI _ (h.1▸a)
 ·rintro (h|h|h)
  ·exact YI _ h.2
  ·exact YI _ (h.1▸a)
  ·exact YI _ h.2
def Hn(e:¬(i=one/\j=one)):ng one one i j↔ng (one+1) 0 i j:=by
 constructor
 ·rintro (h|h|h)
  ·exact .inl ⟨Z2 h.1,Z2 h.2⟩
  ·exact .inl ⟨h.1▸YU _,Z2 h.2⟩
  ·exact .inl ⟨Z2 h.2,h.1▸YU _⟩
 ·rintro (⟨a,b⟩|h|h)
  ·rcases VD.mp a with a|a<;>rcases VD.mp b with b|b
   ·exact .inl ⟨a,b⟩
   ·exact .inr (.inr ⟨b,a⟩)
   ·exact .inr (.inl ⟨a,b⟩)
   ·exact absurd ⟨a,b⟩ e
  ·exact absurd h.2 .em
  ·exact absurd h.2 .em
def yJ(O:MOk M)(a:other<one)(hn:one<n)(i:Nat)(s:.b):
  fD (ib M s one .f0 i) n=fD (ib M s one other i) n+(if i=one then (if s.getD other 0=1 then M one other else 0) else if i=other then (if s.getD one 0=1 then M one other else 0) else 0):=by
 by_cases b:i=one
 ·subst b
  rw[z4 rfl,uQ (g:=ib M s i other i) (λj f=>?_),z4 (YC a hn)]
  ·have c:ng i .f0 i other:=.inr (.inl ⟨rfl,YU _⟩)
   have e:=(FW a).1;dsimp[ib,c,e,true_and,false_and,WN,Int.sub_zero]
  ·have:=sM (one:=i) (λz=>f z.2) λz=>YN a z.2
   dsimp[ib,this]
 ·rw[yD b]
  by_cases d:i=other
  ·subst d
   rw[z4 rfl,uQ (g:=ib M s one i i) (λj f=>?_),z4 hn]
   ·have c:ng one (i+1) i one:=.inr (.inr ⟨rfl,YU _⟩)
    have e:=(FW a).2;dsimp[ib,c,e,true_and,false_and,WN,O.sym i one,Int.sub_zero]
   ·have:=sM (i:=i) (other:=i) (λz=>b z.1) λz=>f z.1
    dsimp[ib,this]
  ·rw[yD d,mw n (g:=ib M s one other i) λj _=>?_]
   ·exact(Int.add_zero _).symm
   ·have:=sM (i:=i) (j:=j) (λz=>b z.1) λz=>d z.2
    dsimp[ib,this]
variable{T:.ah}
def LP.skip(O:MOk M)(L:LP n M one other T)(b:other<one)(hn:one<n)(z:M one other=0):LP n M one .f0 T :=
 ⟨L.ok.skip,λi a s=>by
  rw[L.pl i a s,yJ O b hn i s,z];split<;>(try split)<;>(try split)<;>lia⟩
def LP.put(O:MOk M)(L:LP n M one other T)(d:other<one)(hn:one<n)(z:0<M one other):LP n M one .f0 (T++[⟨other,one,M one other⟩]):=by
 have b:=O.bd one other;refine⟨?_,λi e s=>?_⟩
 ·have:=L.ok.put hn d z b.2 .gm T.length
  simpa using this
 ·rw[BZ,wy,L.pl i e s,yJ O d hn i s]
  congr 1
  by_cases a:i=one
  ·have f:far i ⟨other,one,M one other⟩=some other:=by
    unfold far;rw[yD (λz:other=i=>ZN d (z.trans a)),z4 a.symm]
   rw[f,z4 a];simp only;rw[cD];simp[aU,eY]
  ·rw[yD a]
   by_cases c:i=other
   ·have f:far i ⟨other,one,M one other⟩=some one:=by unfold far;rw[z4 c.symm]
    rw[f,z4 c];simp only;rw[cD];simp[aU,eY]
   ·have f:far i ⟨other,one,M one other⟩=none:=by
     unfold far;rw[yD (λz:other=i=>c z.symm),yD (λz:one=i=>a z.symm)]
    rw[f,yD c];simp[aU,eY]
def LP.step(O:MOk M)(L:LP n M one one T)(h:one<n)(hn:n<=30):LP n M (one+1) 0 T :=
 ⟨L.ok.step h hn,λi a s=>by
  rw[L.pl i a s];refine mw n λj _=>?_;unfold ib
  by_cases e:i=one/\j=one
  ·rw[e.1,e.2,O.no one];split<;>split<;>rfl
  ·have:=Hn e
   dsimp[this]⟩
structure KF(A t n:Nat)(M:.av)(h:Hd):Prop where
 ro:∀i,i<n->h[A+i]?=some .zU
 ti:h[t]?=some (.lst .fw)
def KF.more(m:KF A t n M h)(g:Hd):KF A t n M .N:=⟨λi a=>aC g (m.ro i a),aC g m.ti⟩
structure Md(Z t n:Nat)(M:.av)(bs:.b)(ss:.y)(bk sk:Nat)(h:Hd):Prop where
 n1:1<=n
 n30:n<=30
 mt:KF Z t n M h
 mo:MOk M
 ba:h[bk]?=some .bA
 st:h[sk]?=some .df
 lb:bs.length=n
 ls:ss.length=n
 os:∀x∈ss,x=none\/x=some 0\/x=some 1
def Md.more(m:.op)(g:Hd):.lL bk sk .N:=by
 have k:∀{i:Nat} {x:cv},h[i]?=some x->.N[i]?=some x:=λ{i x} e=>by
  rw[ZC (.bs).1];exact e
 exact⟨m.n1,m.n30,m.mt.more g,m.mo,k m.ba,k m.st,m.lb,m.ls,m.os⟩
def KG(m:.op):
  ∃T,iJ [.tup .gG] h=.ok .a4 .kE/\LP n M n 0 T:=by
 have o:=m.n30;obtain⟨d,r⟩:=q0 (.tup .gG:D);obtain⟨A,y⟩:=q0 .cQ;have W:∀g,fAt .f .H (some d::g)=λh=>.ok (.ref<|t) h:=λg=>by
  funext h;rw[r];exact bn rfl rfl rfl rfl
 obtain⟨R,w,I,T,a,b,U,k3,O⟩:=cI (P:=λi σ w=>∃(T:.ah) (a b:.P),σ=[some d,some .cA,a,b]/\w=h++[.lst .gO]/\LP n M i 0 T) (g:=none)
   .b0
   (tg:=gN 2) (b:=pQ) (by
   rintro i x σ h0 H ⟨T,a,b,rfl,E,L⟩;obtain⟨l,rfl⟩:=dG H;rw[YE]at L⊢;obtain⟨a0,h2,j1,T2,b2,X,j3,Q⟩:=cI (P:=λj σ w=>∃(T:.ah) (b:.P),σ=[some d,some .cA,some .cX,b]/\w=h++[.lst .gO]/\LP n M i j T) (g:=none) (k:=0)
     (all:=(.fs).map λk:Nat=>D.int k) .b0
     (xs:=(.fs).map λk:Nat=>D.int k) (tg:=gN 3) (σ:=[some d,some .T,some .z,b]) (h:=h0) (b:=wc) (by
     rintro j x σ e H ⟨q,J,rfl,p,v⟩;obtain⟨C,rfl⟩:=dG H;rw[YE]at v⊢;have K:.lL bk sk e:=by rw[p];exact m.more _
     have a1:=KC (A:=Z) l;have S:=K.mt.ro i l;have V:=QN (M:=M) (n:=n) (i:=i) (j:=j) (YC C l);have F:=K.mt.ti;have f:fAt (fAt .eM .g) .h .h4 e=.ok (.int<|M i j) e:=by
      have u:=congrFun (W [some .T,some .z,some .bS]) e;exact bn (bn u rfl (bc F) a1) rfl (bc S) V
     have N:e[A]?=some (.lst<|q.map cH):=by rw[p];exact ca y _
     have Y:(q.map cH).length<SZ:=by rw[ZA];exact YC (few v.ok.len l o C) .c
     have B:tE (aq oGt .qQ .H) .h4 e=.ok (decide (0<M i j)) e:=by
      exact bm (.fe f)
     by_cases c:0<M i j
     ·refine⟨_,rfl,.h4,h++[.lst .wI],?_,q++[(⟨j,i,M i j⟩:Tie)],_,rfl,rfl,v.put m.mo C l c⟩
      rw[ZZ c]at B;show sIf _ _ _ .h4 e=_;rw[Sj B];have G:e.set A (.lst<|q.map cH++[.tup [.int j,.int i,.int (M i j)]])=h++[.lst .wI]:=by rw[p,oE y,ZR];rfl
      rw[<-G];exact fB (lW rfl N (hV<|am rfl<|.cC<|.cD f) N Y)
     ·have z:M i j=0:=Int.le_antisymm (Int.not_lt.mp c) (m.mo.bd i j).1
      refine⟨_,rfl,.h4,e,?_,q,_,rfl,p,v.skip m.mo C l z⟩;rw[Z6 c]at B;show sIf _ _ _ .h4 e=_;rw[Nw B];rfl) ⟨T,b,rfl,E,L⟩
   have u:0+((.fs).map λk:Nat=>D.int k).length=i:=by simp
   rw[u]at Q;refine⟨_,rfl,[some d,some .T,some .z,b2],h2,?_,T2,_,_,rfl,j3,Q.step m.mo l o⟩;exact(eW (dJ rfl<|ZM (YX l)<|kX o) j1).trans (by rw[X])) ⟨[],none,none,rfl,rfl,⟨⟨by simp,by simp,by simp,by simp,List.Pairwise.nil,by simp⟩,λi l s=>by
    have:∀k,fD (ib M s 0 0 i) k=0:=λk=>by
     induction k with
     |zero=>rfl
     |succ k ih =>
      rw[fD,ih];have:¬ng 0 0 i k:=by unfold ng;lia
      simp[ib,this]
    rw[this];rfl⟩⟩
 have u:0+((.k).map λk:Nat=>D.int k).length=n:=by simp
 rw[u]at O;refine⟨T,?_,O⟩;have s1:.c4 .bE .zg h=.nx .qx .a6:=aD (gU y rfl .dj);have J:=(m.more [.lst []]).ba;have ln:cT .fy .qx .a6=.d8 .a6:=by
  rw[r];exact(dI<|cm .bb<|bc J).trans (by rw[ZA,m.lb])
 have s2:fz (ce<|cT .fy) .ef pQ .qx .a6=.nx [some d,some .T,a,b] .kE:=by
  rw[U,k3]at I;exact eW (dJ ln<|kX o) I
 have s3:aS .d [some d,some .T,a,b] .kE=.rt .T .kE:=aL rfl;have G:([d].map some++List.replicate (4 - [d].length) none:Sd)=.zg:=rfl;rw[<-r];unfold iJ bC runB;rw[z4 .f3,G,bQ s1,bQ s2,s3,<-y];exact bW
variable{s:.b}
section
variable{Z t n:Nat}{M:.av}{bs:.b}{ss:.y}{bk sk:Nat}{h:Hd}
def KH(L:.cu)(B:nK s)(hi:i<n):fD .zj n=aU .aN s:=by
 rw[L.pl i hi s];refine mw n λj a=>?_;have p:ng n 0 i j:=.inl ⟨hi,a⟩;rcases B j with e|e
 ·dsimp[ib,e];simp
 ·dsimp[ib,p,e];simp
def NA(m:.op)(q:iJ [.tup .gG] h=.bK .kE)(L:.cu):
  nS [.tup .gG] h=.ok (.x).enc h:=by
 have p:=m.n30;obtain⟨j,c⟩:=q0 (.tup .gG:D);have y:∀g,fAt .f .u .hq g=.ok (.ref bk) g:=λg=>by
  rw[c];exact .bb
 have C:∀g,fAt .f .K .hq g=.ok (.ref sk) g:=λg=>by
  rw[c];exact .bb
 obtain⟨l,i⟩:=q0 (h++[cv.lst .gO]);have w:.lL bk sk l:=by rw[i];exact m.more _
 obtain⟨o,b⟩:=q0 (l++[cv.lst .c6]);have H:.lL bk sk o:=by rw[b];exact w.more _
 obtain⟨f,a⟩:=q0 (o++[cv.lst .aD]);have s:∀{k:Nat} {x:cv},l[k]?=some x->f[k]?=some x:=λ{k x} e=>by
  have z:=(.bs).1;rw[a,b,ZU,ZC z];exact e
 have F:f[h.length]?=some .kL:=s (by rw[i];simp);have E:f[l.length]?=some .bA:=by rw[a,b];exact .j ZG
 have G:f[o.length]?=some .df:=by rw[a];simp
 have J:=oK m.n1 p L.ok m.lb m.ls m.os F E G;have K:(.g7).length<=SZ:=by rw[ZA,m.lb];exact(kX p)
 have A:(.aD).length<=SZ:=by rw[ZA,m.ls];exact(kX p)
 have O:=m.ba;have v:=w.ba;have u:=H.st;rw[<-c,<-i]at q;have r:af dM .uv .hq h=.ok (.x).enc f:=by
  have I:aI .fy .hq l=.ok (.ref l.length) o:=by rw[b];exact bS (cm (y _)<|bc v) K
  have B:aI (lOf .gT) .hq o=.ok (.ref o.length) f:=by rw[a];exact bS (cm (C _)<|bc u) A
  have N:cT .fy .hq h=.d8 h:=by
   have:=dI (cm (y h)<|bc O);rwa[ZA,m.lb]at this
  exact ar (am N<|am (.W q)<|am I<|.cD B) J
 have fin:letGo h (.ok (.x).enc f)=.ok (.x).enc h:=by
  rw[a,b,i,ZU,ZU];exact cw (nO _)
 rw[<-c];unfold nS bC runB;rw[z4 .f3];show letGo h (match outE (af dM _ .hq h) _ _ with | .nx _ h=>_ | .rt d h=>_ | .exc x _ h=>_|_=>_)=_;rw[r];exact fin
/---/def xy(ss:.y)(l:.b):List Int:=(.io).map λi=>(.eK).getD .kY
def Ep(m:.op)(ll:.cx)(G:h[k]?=some .mQ):
  iV [.tup .gG,.ref k] h=.ok (ao<|xy ss l) h:=by
 have q:=m.n30;obtain⟨c,s⟩:=q0 (.tup .gG:D);obtain⟨A,p⟩:=q0 .cQ;obtain⟨f,U⟩:=q0 (λi=>(.eK).getD .kY:.ep);have r:k<h.length:=(zS.mp G).1;obtain⟨V,L,O,K,W,T⟩:=cI (P:=λi σ L=>∃(a:.P),σ=[some c,some .gn,some .cA,a]/\L=h++[.lst ((.k4).map .int)]) (g:=none)
   .b0
   (tg:=gN 3) (h:=h++[.lst []]) (b:=md) (by
   rintro i x σ v hx ⟨a,rfl,j⟩;obtain⟨y,rfl⟩:=dG hx;rw[YE]at j⊢;have Y:v[k]?=some (.lst .br):=by rw[j,ZC r];exact G
   have N:i<ss.length:=by rw[m.ls];exact y
   have Q:=FD (ll▸y);have R:atI .aD (i:Int)=some (aP .eK):=by rw[lZ N];simp[List.getD,N]
   have w:f i=(.eK).getD .kY:=by rw[U]
   generalize l.getD i 0=x at Q w;generalize ss.getD i none=u at R w;have S:v[A]?=some (.lst<|(.k4).map .int):=by rw[j];exact ca p _
   have lz:((.k4).map D.int).length<SZ:=by rw[ZA,ZA,ZO];exact YC y (ZS q .c)
   have C:v.set A (.lst<|(.k4).map .int++[.int x])=h++[.lst .j6]:=by rw[j,oE p,ZR];rfl
   have H:gx .zF .gE v=.nx .gE (h++[.lst .j6]):=by
    rw[<-C];exact fB (lW rfl S (.fh (bc Y) Q) S lz)
   obtain⟨o,d⟩:=q0 (h++[cv.lst .j6]);have m1:.lL bk sk o:=by rw[d];exact m.more _
   have B:fAt .gT .h .gE o=.ok (aP u) o:=by
    have F:=m1.st;rw[s];exact bn .bb rfl (bc F) R
   have g1:o[A]?=some (.lst .j6):=by rw[d];exact ca p _
   have E:sIf .z3 (nn .g .h .ri) bT .gE o=.nx .gE (h++[.lst .p1]):=by
    have J:(.k4).length=i:=by simp
    cases u with
    |none =>
     have e:o=h++[.lst .p1]:=by rw[d,VX];simp[w]
     rw[<-e];exact dy (bm<|.fe B)
    |some z =>
     have ix:ixN (((.fs).map f++[x]).map D.int).length (i:Int)=some i:=uN (by rw[ZA,ZB,J];exact YU _);have e:o.set A (.lst<|(.j6).set i (.int z))=h++[.lst .p1]:=by
      have z':f i=z:=w;rw[d,p,VX];simp[z',List.set_append_right]
     rw[<-e];exact(nc<|bm<|.fe B).trans (r6 B rfl rfl g1 ix)
   refine⟨_,rfl,.gE,_,?_,_,rfl,rfl⟩;show aA _ _ .gE v=_;rw[bQ H,<-d,E]) ⟨none,rfl,by simp⟩
 have X:0+((.k).map λk:Nat=>D.int k).length=n:=by simp
 rw[X]at T;have I:(h++[cv.lst []])[k]?=some .mQ:=by rw[ZC r];exact G
 have H:.ew .bE .xY h=.nx .qe .a6:=aD (gU p rfl .dj);have E:fz (ce .dA) .bR md .qe .a6=.nx .xM .qb:=by
  rw[W,T]at O;have ln:cT (lOf .d) .qe .a6=.d8 .a6:=by
   exact(dI<|.cE<|bc I).trans (by rw[ZA,ll])
  exact(eW (dJ ln<|kX q) O).trans (by rw[xy,ll,U])
 have s3:aS (dR<|lOf .g) .xM .qb=.rt (ao<|xy ss l) .qb:=by
  exact aL (gS<|.cE<|bc<|ca p _)
 have F:([c,D.ref k].map some++List.replicate (4 - [c,D.ref k].length) none:Sd)=.xY:=rfl;rw[<-s];unfold iV bC runB;rw[z4 .f3,F,bQ H,bQ E,s3];exact cw (sw _)
def KI(ls:.aQ)(os:.bo)(ll:.cx)(B:nK l):QE n ss (xy ss l):=by
 refine⟨by simp[xy,ll],λx d=>?_,λi x e=>?_⟩
 ·obtain⟨i,a,rfl⟩:=z5.mp d
  have b:=B i;cases c:ss.getD i none with
  |none=>simpa using b
  |some z =>
   have:some z∈ss:=by
    rw[List.getD]at c;cases e:ss[i]? with
    |none=>rw[e]at c;cases c
    |some y=>rw[e]at c;simp at c;subst c;exact ZK e
   have:=os _ this;simp at this;simpa using this
 ·have a:i<l.length:=by rw[ll,<-ls];exact (.bs).1
  simp[xy,a,List.getD,e]
end
theorem Er{j:Nat}:∀{r:.as},(∀p∈r,p.1≠j)->(.wD).sum=0
 |[],_=>rfl
 |p::r,h=>by
  rw[yP,VL,Er λq hq=>h q (ZW _ hq),yD (h p ZV)];rfl
theorem Es{j:Nat}:∀{r:.as},(r.map (·.1)).Nodup->(j,v)∈r->(.wD).sum=v
 |[],_,h=>by cases h
 |p::r,nd,h=>by
  rw[yP]at nd;obtain⟨n1,a⟩:=XI.mp nd;rw[yP,VL];rcases y4.mp h with e|h
  ·subst e
   rw[z4 rfl,Er λq b z=>n1 (z5.mpr ⟨q,b,z⟩)];exact Int.add_zero _
  ·rw[yD λz=>n1 (z5.mpr ⟨_,h,z.symm⟩),Es a h];exact Int.zero_add _
/---/def FX(n j:Nat):List Int:=(.k).map λk=>if k=j then 1 else 0
def oO(n j k:Nat):(FX n j).getD k 0=if k<n/\k=j then 1 else 0:=by
 unfold FX;rw[ZF,ZQ]
 by_cases h:k<n
 ·rw[YA h]
  by_cases e:k=j
  ·rw[z4 ⟨h,e⟩];simp[e]
  ·rw[yD (λz=>e z.2)];simp[e]
 ·rw[wZ (by rw[ZO];lia),yD (λz=>h z.1)];rfl
theorem KJ:∀n,fD (λ_=>0) n=0
 |0=>rfl
 |n+1=>by rw[fD,KJ n];rfl
def jo(L:.cu)(hi:i<n):(j,v)∈nbs T i↔j<n/\M i j=v/\0<v:=by
 have b:j<n->((.aN).map λp=>if p.1=j then p.2 else 0).sum=M i j:=λa=>by
  have e:=L.pl i hi (FX n j);rw[fV]at e;have l:((.aN).map λp=>if (FX n j).getD p.1 0=1 then p.2 else 0)=(.aN).map λp=>if p.1=j then p.2 else 0:=YK λp d=>by
   have d:=l4 L.ok.lt p d
   by_cases c:p.1=j
   ·rw[z4 c,z4 (by rw[oO,z4 ⟨d,c⟩])]
   ·rw[yD c,yD (by rw[oO,yD (λz=>c z.2)];decide)]
  rw[l]at e;rw[e,uQ (p:=j) (g:=λ_=>0) (λk o=>?_) n,z4 a,KJ]
  ·unfold ib
   rw[z4 ⟨.inl ⟨hi,a⟩,by rw[oO,z4 ⟨a,rfl⟩]⟩];lia
  ·unfold ib
   rw[yD];rintro⟨_,z⟩;rw[oO,yD λz=>o z.2]at z;exact .gx .c
 constructor
 ·intro h
  have a:=l4 L.ok.lt _ h;obtain⟨t,m,_,q⟩:=jm.mp h;have w:=L.ok.wt t m;exact⟨a,(b a).symm.trans (Es (jI L.ok.un i) h),by rw[q]at w;exact Int.lt_of_lt_of_le .c w.1⟩
 ·rintro⟨a,e,p⟩
  by_cases c:∃w,(j,w)∈nbs T i
  ·obtain⟨w,f⟩:=c
   have:=(b a).symm.trans (Es (jI L.ok.un i) f);rw[<-e,this];exact f
  ·have:=(b a).symm.trans (Er λp d z=>c ⟨p.2,by rw[<-z];exact d⟩)
   lia
/---/def qS(n p:Nat)(r:.as):List Tie:=r.map λq=>⟨p,n+q.1,2*q.2⟩
/---/def pT(n:Nat):List Tie:=(.k).map λp=>⟨p,n+p,1⟩
/---/def eh(n:Nat)(T:.ah)(k:Nat):List Tie:=pT n++(.kA).flatMap λp=>qS n p .kz
def wA(n:Nat)(T:.ah)(k:Nat):eh n T (k+1)=eh n T k++qS n k (bZ<|nbs T k):=by
 unfold eh;rw[VX,List.flatMap_append,ZU];congr 2;simp
def ic:t∈eh n T k↔(∃p,p<n/\t=⟨p,n+p,1⟩)\/∃p q,p<k/\q∈nbs T p/\t=⟨p,n+q.1,2*q.2⟩:=by
 unfold eh pT qS;rw[Z0,z5,List.mem_flatMap];constructor
 ·rintro (⟨p,a,rfl⟩|⟨p,a,h⟩)
  ·exact .inl ⟨p,YD.mp a,rfl⟩
  ·obtain⟨q,b,rfl⟩:=z5.mp h
   exact .inr ⟨p,q,YD.mp a,dg.mp b,rfl⟩
 ·rintro (⟨p,a,rfl⟩|⟨p,q,a,b,rfl⟩)
  ·exact .inl ⟨p,YD.mpr a,rfl⟩
  ·exact .inr ⟨p,YD.mpr a,z5.mpr ⟨q,dg.mpr b,rfl⟩⟩
theorem Cs{f:Nat->List Tie}:∀l:List Nat,(∀p∈l,(f p).length<=m)->(l.flatMap f).length<=m*l.length
 |[],_=>ZL _
 |p::l,h=>by
  have a:=h p ZV;have b:=Cs l λq c=>h q (ZW _ c);rw[V4,ZB,YT,Nat.mul_succ];lia
def yK(L:.cu)(c:k<=n):(eh n T k).length<=n+n*n:=by
 have a:((.kA).flatMap λp=>qS n p .kz).length<=n*(.kA).length:=Cs _ λp _=>by
  unfold qS;rw[ZA,sE];exact zW L.ok.lt L.ok.un p
 rw[ZO]at a;have b:=UA n c;unfold eh pT;rw[ZB,ZA,ZO];lia
def FY{s t:Tie}(h1:s.a<n)(h2:n<=t.b)(a:¬(s.a=t.a/\s.b=t.b)):iq s t:=⟨a,λz=>absurd (z.1▸h1) (VN.mpr h2)⟩
def Ct(n1:1<=n)(l:n<=15)(O:MOk M)(u:∀i j,i<n->j<n->M i j<=200)(L:.cu):TOk (2*n) (2*n) 0 .fS:=by
 have lt:∀t∈eh n T n,t.a<n/\n<=t.b/\t.b<2*n:=λt c=>by
  rcases ic.mp c with ⟨p,d,rfl⟩|⟨p,q,d,f,rfl⟩
  ·exact⟨d,YF _ _,by show n+p<2*n;lia⟩
  ·have:=l4 L.ok.lt q f
   exact⟨d,YF _ _,by show n+q.1<2*n;lia⟩
 refine⟨λt c=>?_,λt c=>?_,λt c=>?_,λt c=>?_,?_,?_⟩
 ·have:=lt t c;lia
 ·have:=lt t c;lia
 ·rcases ic.mp c with ⟨p,d,rfl⟩|⟨p,q,d,f,rfl⟩
  ·exact⟨by show (1:Int)<=1;decide,by show (1:Int)<=400;decide⟩
  ·have:=(jo L d).mp (show (q.1,q.2)∈nbs T p from f)
   have b:=u p q.1 d this.1;rw[this.2.1]at b;exact⟨by show 1<=2*q.2;lia,by show 2*q.2<=400;lia⟩
 ·have:=lt t c
  exact .inl ⟨by lia,by lia⟩
 ·unfold eh
  refine Z8.mpr ⟨?_,?_,λs k t c=>?_⟩
  ·unfold pT
   rw[YJ];refine WO (R:=λa b:Nat=>a<b) (λ{a b} g v h=>FY (n:=n) (YD.mp g) .bF λz=>ZN h z.1) VJ
  ·rw[List.pairwise_flatMap]
   refine⟨λp d=>?_,?_⟩
   ·unfold qS
    rw[YJ];exact(jK<|jI L.ok.un p).imp λ{a b} h=>FY (n:=n) (YD.mp d) .bF λz=>absurd (XT z.2) (ZN h)
   ·refine WO (R:=λa b:Nat=>a<b) (λ{a b} g v h s k t c=>?_) VJ
    obtain⟨q,f,rfl⟩:=z5.mp k;obtain⟨x,r,rfl⟩:=z5.mp c;exact FY (n:=n) (YD.mp g) .bF λz=>ZN h z.1
  ·obtain⟨p,d,rfl⟩:=z5.mp k
   obtain⟨m,e,c⟩:=List.mem_flatMap.mp c;obtain⟨q,f,rfl⟩:=z5.mp c;have d:=YD.mp d;have e:=YD.mp e;refine FY (n:=n) d .bF λz=>?_;have o:p=m:=z.1;have w:p=q.1:=XT z.2;have:=(jo L e).mp (show (q.1,q.2)∈nbs T m from dg.mp f);rw[<-w,<-o,O.no p]at this;lia
 ·have a:=yK L (ZL n)
  have b:=UA n l;lia
/---/def wB(n:Nat)(M:.av)(i k:Nat):List .aT:=(i,1)::(.wY).map λo=>(o,2*M i o)
/---/def pU(n:Nat)(r:.as):List .aT:=r.map λp=>(p.1+n,p.2)
/---/def Cu(n:Nat)(M:.av)(i:Nat):List .aT:=if i<n then pU n (wB n M i n) else wB n M (i-n) n
def nZ:(j,v)∈wB n M i k↔(j=i/\v=1)\/(j<k/\0<M i j/\v=2*M i j):=by
 unfold wB;rw[y4,z5];constructor
 ·rintro (e|⟨o,c,e⟩)
  ·cases e;exact .inl ⟨rfl,rfl⟩
  ·obtain⟨a,b⟩:=Y2.mp c
   cases e;exact .inr ⟨YD.mp a,Y3 b,rfl⟩
 ·rintro (⟨rfl,rfl⟩|⟨a,b,rfl⟩)
  ·exact .inl rfl
  ·exact .inr ⟨j,Y2.mpr ⟨YD.mpr a,ZZ b⟩,rfl⟩
def FZ(O:MOk M)(i k:Nat):((wB n M i k).map (·.1)).Nodup:=by
 unfold wB;rw[yP,y3,XI];refine⟨λz=>?_,?_⟩
 ·obtain⟨o,a,e⟩:=z5.mp z
  have e:o=i:=e;have:=Y3 (Y2.mp a).2;rw[e,O.no i]at this;exact absurd this .c
 ·have:((λx:Nat × Int=>x.1) ∘ λo=>(o,2*M i o))=id:=rfl
  rw[this,List.map_id];exact List.nodup_range.filter _
def Hq(h:(r.map (·.1)).Nodup):((pU n r).map (·.1)).Nodup:=by
 unfold pU;rw[YL,YJ]at h;rw[y3,YL,YJ];exact h.imp λ{a b} h z=>h (Nat.add_right_cancel z)
def NB(O:MOk M)(i:Nat):((Cu n M i).map (·.1)).Nodup:=by
 unfold Cu;split
 ·exact Hq (FZ O _ _)
 ·exact FZ O _ _
variable{p:Nat}
def tX(hp:p<n)(hb:n<=b):far i ⟨p,b,w⟩=if p=i then some b else if b=i then some p else none:=rfl
def Hr(O:MOk M)(L:.cu)(ok:TOk (2*n) (2*n) 0 .fS)(i:Nat)(hi:i<2*n):bZ (nbs .fS i)=bZ (Cu n M i):=by
 refine pR (jI ok.un i) (NB O i) λ⟨j,v⟩=>?_;rw[jm];show (∃t∈eh n T n,far i t=some j/\t.w=v)↔_;unfold Cu
 by_cases c:i<n
 ·rw[z4 c]
  unfold pU;rw[z5];constructor
  ·rintro⟨t,g,f,e⟩
   rcases ic.mp g with ⟨p,b,rfl⟩|⟨p,q,b,d,rfl⟩
   ·rw[tX b .bF]at f
    by_cases z:p=i
    ·rw[z4 z]at f
     have f:=ZT f;have e:(1:Int)=v:=e;exact⟨(i,1),nZ.mpr (.inl ⟨rfl,rfl⟩),by rw[<-f,<-e,z,wa]⟩
    ·rw[yD z,yD .a]at f;cases f
   ·rw[tX b .bF]at f
    have m:=(jo L b).mp (show (q.1,q.2)∈nbs T p from d)
    by_cases z:p=i
    ·rw[z4 z]at f
     have f:=ZT f;have e:2*q.2=v:=e;rw[z]at m;exact⟨(q.1,2*q.2),nZ.mpr (.inr ⟨m.1,by rw[m.2.1];exact m.2.2,by rw[m.2.1]⟩),by rw[<-f,<-e,wa]⟩
    ·rw[yD z,yD .a]at f;cases f
  ·rintro⟨⟨a,u⟩,l,e⟩
   have r:a+n=j:=congrArg Prod.fst e;have o:u=v:=congrArg Prod.snd e;subst r o;rcases nZ.mp l with ⟨rfl,rfl⟩|⟨x,y,rfl⟩
   ·exact⟨⟨a,n+a,1⟩,ic.mpr (.inl ⟨a,c,rfl⟩),by rw[tX c .bF,z4 rfl,wa],rfl⟩
   ·exact⟨⟨i,n+a,2*M i a⟩,ic.mpr (.inr ⟨i,(a,M i a),c,(jo L c).mpr ⟨x,rfl,y⟩,rfl⟩),by rw[tX c .bF,z4 rfl,wa],rfl⟩
 ·rw[yD c]
  obtain⟨k,rfl⟩:∃k,i=n+k:=⟨i-n,by lia⟩;have h:k<n:=by lia
  rw[UD,nZ];constructor
  ·rintro⟨t,g,f,e⟩
   rcases ic.mp g with ⟨p,b,rfl⟩|⟨p,q,b,d,rfl⟩
   ·rw[tX b .bF,yD .a]at f
    by_cases z:n+p=n+k
    ·rw[z4 z]at f
     exact .inl ⟨(ZT f).symm.trans (XT z),e.symm⟩
    ·rw[yD z]at f;cases f
   ·rw[tX b .bF,yD .a]at f
    have m:=(jo L b).mp (show (q.1,q.2)∈nbs T p from d)
    by_cases z:n+q.1=n+k
    ·rw[z4 z]at f
     have f:=ZT f;have e:2*q.2=v:=e;rw[XT z,f]at m;rw[f]at b;exact .inr ⟨b,by rw[O.sym,m.2.1];exact m.2.2,by rw[O.sym,m.2.1];exact e.symm⟩
    ·rw[yD z]at f;cases f
  ·rintro (⟨rfl,rfl⟩|⟨x,y,rfl⟩)
   ·exact⟨⟨j,n+j,1⟩,ic.mpr (.inl ⟨j,h,rfl⟩),by rw[tX h .bF,yD .a,z4 rfl],rfl⟩
   ·have s:0<M j k:=by rw[O.sym];exact y
    exact⟨⟨j,n+k,2*M j k⟩,ic.mpr (.inr ⟨j,(k,M j k),x,(jo L x).mpr ⟨h,rfl,s⟩,rfl⟩),by rw[tX x .bF,yD .a,z4 rfl],by rw[O.sym k j]⟩
variable{x:D}
def Af(c:.lx)(t:.ts)(e:b σ' h=.nx a h'):.lO .cR σ h=.lO xs a h':=by
 rw[eM,z4 c,t];dsimp[e]
variable{l:List D}{h1:Hd}
def oP(p:.ln)(q:b σ h1=.ok (.ref m) h2)(r:.oE)(s:h2[m]?=some (.lst k))(t:l.length+k.length<=SZ):fJ a b σ h=.ok (l++k) h2:=by
 dsimp[fJ,p,aH,q,r,s,z4 t]
theorem F3{σ:Option D->Sd}{h:Hd}(b:.lx)(ht:∀x a,tg x (σ a)=some (σ .b7)):∀{xs:List D} (a:.P),(∀x∈xs,B (σ .b7) h=.nx (σ .b7) h)->∃c,eM g all tg B xs (σ a) h=.nx (σ c) h
 |[],a,_=>⟨a,by rw[eM,z4 b]⟩
 |x::xs,a,q=>by
  obtain⟨c,e⟩:=F3 b ht (xs:=xs) .b7 λy d=>q y (ZW _ d);exact⟨c,(Af b (ht x a)<|q x ZV).trans e⟩
def KL{x:EF}(p:.tp)(q:.tf)(r:L σ h1=.ok ds h2)(s:.oE)(t:l.length+ds.length<=SZ):tH x L σ h=.ok .non (h2.set n<|.lst<|l++ds):=by
 dsimp[tH,p,aH,q,r,s,z4 t]
section
variable{n:Nat}{M:.av}{T:.ah}{bs:.b}{ss:.y}
def uR(hp:p<n):(.x).ties[p]?=some .kz:=by
 show .jY[p]?=_;rw[ZQ,YA hp];rfl
def qT(h:Hd):aQ .jc h=.d8 h:=by
 rw[j8];show Res.ok (D.int ((.jY).length:Nat)) h=_;rw[ZA,ZO]
theorem Cv(f:α->Bool):∀l:List α,i9 (l.map λx=>D.bl (f x))=some .dL
 |[]=>rfl
 |x::l=>by dsimp[yP,i9,Cv f l];rfl
def Et(r:.as)(h:Hd):.jA [] .qS .eQ .hg h=.ok (r.map λp=>D.bl (decide (200<p.2))) h:=by
 have:=br (g:=none) (all:=r.map gJ) (tg:=gT [0,1]) (cs:=[]) (e:=aq oGt .d .ig) (h:=h) (I:=λσ=>∃a b,σ = [a,b]) .aM (λd=>match d with | .tup [_,.int v]=>.bl (decide (200 < v))|_=>.non) trivial (xs:=r.map gJ) (σ:=.hg) (by
  rintro x c σ ⟨a,b,rfl⟩;obtain⟨p,_,rfl⟩:=z5.mp c;exact⟨_,rfl,⟨_,_,rfl⟩,rfl,λ_=>rfl⟩) ⟨_,_,rfl⟩
 rw[this,Z9.mpr .L,y3];rfl
def Eu(hp:p<n)(h:Hd):tE .xp .xN h=.ok .xi h:=by
 have e:bi 2 [] .kp .ax [] .qS .xN h=.ok ((.kz).map λq=>D.bl (decide (200<q.2))) h:=cM (vR<|.O<|iU _ h<|uR hp) (Et _ h);refine bm ?_;dsimp[MD,e,aH,Cv];rw[List.any_map];rfl
/---/def KM(n:Nat)(M:.av):Prop:=∃i j,i<n/\j<n/\200<M i j
def Hs(L:.cu)(hp:p<n):.xi=true ↔ ∃j,j<n/\200<M p j:=by
 rw[UX];constructor
 ·rintro⟨q,b,e⟩
  have m:=(jo L hp).mp (show (q.1,q.2)∈nbs T p from dg.mp b);exact⟨q.1,m.1,by rw[m.2.1];exact Y3 e⟩
 ·rintro⟨j,a,e⟩
  exact⟨(j,M p j),dg.mpr ((jo L hp).mpr ⟨a,rfl,Int.lt_trans .c e⟩),ZZ e⟩
def NC(f:n<=15)(L:.cu)(r:¬KM n M)(h:Hd):iu .jc h=.ok .non h:=by
 have m:sIf .w5 kO bT .rk h=.nx .rk h:=dy (bm<|av .sr rfl<|vO .a);obtain⟨p,e⟩:=F3 (g:=none) (all:=(.k).map λk:Nat=>D.int k) (tg:=gN 1) (B:=kE) (σ:=λa=>[some (.x).enc,a]) (h:=h) trivial .L (xs:=(.k).map λk:Nat=>D.int k) none (λx o=>by
  obtain⟨i,d,rfl⟩:=z5.mp o;have d:=YD.mp d;refine dy ((Eu d h).trans ?_);cases c:(bZ .aN).any λq=>decide (200<q.2) with
  |false=>rfl
  |true=>exact absurd (let ⟨j,a,b⟩:=(Hs L d).mp c;⟨i,j,d,a,b⟩) r)
 have l:fz .li .mH kE .rk h=.nx [some (.x).enc,p] h:=eW (dJ .sr .a) e;exact(JY rfl rfl<|(cz m).trans l).trans aZ
def Ht(p:Nat)(r:.as)(h:Hd):.jA [] (d9 .l2) .eQ [none,none,some (.int p),some .U] h=.ok ((qS n p r).map cH) h:=by
 have:=br (g:=none) (all:=r.map gJ) (tg:=gT [0,1]) (cs:=[]) (e:=d9 .l2) (h:=h) (I:=λσ=>∃a b,σ = [a,b,some (.int p),some .dp]) .aM (λd=>match d with | .tup [.int o,.int v]=>.tup [.int p,.int (n + o),.int (2 * v)] | _=>.non) trivial (xs:=r.map gJ) (σ:=[none,none,some (.int p),some .dp]) (by
  rintro x c σ ⟨a,b,rfl⟩;obtain⟨q,_,rfl⟩:=z5.mp c;exact⟨_,rfl,⟨_,_,rfl⟩,rfl,λ_=>hV (.cC<|am .gz<|.cD .Aj)⟩) ⟨_,_,rfl⟩
 rw[this,Z9.mpr .L,y3];unfold qS;rw[y3];congr 1
def Ev(h:Hd):bU none ((.k).map λk:Nat=>D.int k) .B [] (d9 .pA) ((.k).map λk:Nat=>D.int k) [none,some .U] h=.ok ((pT n).map cH) h:=by
 have:=br (g:=none) (all:=(.k).map λk:Nat=>D.int k) (tg:=gN 0) (cs:=[]) (e:=d9 .pA) (h:=h) (I:=λσ=>∃a,σ = [a,some .dp]) .aM (λd=>match d with | .int p=>.tup [.int p,.int (n + p),.int 1] | _=>.non) trivial (xs:=(.k).map λk:Nat=>D.int k) (σ:=[none,some .dp]) (by
  rintro x b σ ⟨a,rfl⟩;obtain⟨q,_,rfl⟩:=z5.mp b;exact⟨_,rfl,⟨_,rfl⟩,rfl,λ_=>hV (.cC<|am .gz .cg)⟩) ⟨_,rfl⟩
 rw[this,Z9.mpr .L,y3];unfold pT;rw[y3];congr 1
def Hu(f:n<=15)(L:.cu)(d:.ge):eF .jc h=.ok .T .yI:=by
 obtain⟨w,j⟩:=q0 ((.x).enc:D);have l:∀k,k<=n->((eh n T k).map cH).length<=1000:=λk u=>by
  have a:=yK L u;have b:=UA n f;rw[ZA];lia
 have y:.c4 .c9 .zf h=.nx .xX h:=by rw[j];exact aD .sr
 have t:.ew .wa .xX h=.nx .qd (h++[.lst .rs]):=by
  have c:eh n T 0=pT n:=by unfold eh;simp
  rw[c];exact aD (gU d (cM (dJ rfl .a)<|Ev h) (by have:=l 0 .dj;rw[c]at this;exact ZM this .c))
 obtain⟨r,o,q,a,s,p⟩:=cI (P:=λi σ o=>∃a,σ=[some w,some .dp,some .cA,a]/\o=h++[.lst .rr]) (g:=none) (k:=0) (all:=(.k).map λk:Nat=>D.int k) .b0
  (xs:=(.k).map λk:Nat=>D.int k) (tg:=gN 3) (σ:=.qd) (h:=h++[.lst .rs]) (b:=i5) (by
   rintro i x σ B z ⟨a,rfl,rfl⟩;obtain⟨m,rfl⟩:=dG z;rw[YE];have e:bi 2 [3,1] (bV<|af bO .iA) .ax [] (d9 .l2) [some w,some .dp,some .cA,some .cX] (h++[.lst .rr])=.ok ((qS n i<|bZ .aN).map cH) (h++[.lst .rr]):=by
    rw[j];exact cM (vR<|.O<|iU _ _<|uR m) (Ht i _ _)
   refine⟨_,rfl,[some w,some .U,some .T,some .z],_,fB (KL rfl (ca d _) e (ca d _) ?_),_,rfl,?_⟩
   ·have:=l (i+1) m
    rw[wA,ZR,ZB]at this;exact ZM this .c
   ·rw[oE d,wA,ZR]) ⟨_,rfl,rfl⟩
 have c:0+((.k).map λk:Nat=>D.int k).length=n:=by simp
 rw[c]at p;rw[s,p]at q;have v:fz (ce .d) .bR i5 .qd (h++[.lst .rs])=.nx [some w,some .U,some .T,a] .yI:=eW (dJ rfl .a) q;rw[<-j];exact(bJ (σ:=.zf) rfl rfl<|(cz y).trans ((cz t).trans ((cz v).trans .f5))).trans bW
/---/def iy(bs:.b):List Int:=bs.map λb=>2*b+1
/---/def oW(n:Nat)(T:.ah)(bs:.b)(ss:.y):Web:=aM (2*n) .fS .sz (ss++ss)
def Hv(f:held g .c6 h):bU g .g7 .B [] (.a3 (.ba .K .f) .u) .g7 .bu h=.ok .rK h:=by
 have:=br (g:=g) (all:=bs.map D.int) (tg:=gN 0) (cs:=[]) (e:=.a3 (.ba .K .f) .u) (h:=h) (I:=λσ=>∃a,σ = [a]) .aM (λd=>match d with | .int b=>.int (2 * b + 1)|_=>.non) f (xs:=bs.map D.int) (σ:=.bu) (by
  rintro x c σ ⟨a,rfl⟩;obtain⟨q,_,rfl⟩:=z5.mp c;exact⟨_,rfl,⟨_,rfl⟩,rfl,λ_=>av .Aj rfl rfl⟩) ⟨_,rfl⟩
 rw[this,Z9.mpr .L,y3];unfold iy;rw[y3];congr 1
def Ew(n1:1<=n)(a:n<=15)(O:MOk M)(L:.cu)(s:¬KM n M)(lb:.aX)(ls:.aQ)(os:.bo)(h:Hd):jx .jc h=.ok (.b2).enc h:=by
 have v:∀i j,i<n->j<n->M i j<=200:=λi j u F=>Int.not_lt.mp λz=>s ⟨i,j,u,F,z⟩;have ok:=Ct n1 a O v L;obtain⟨A,c⟩:=q0 .cQ;obtain⟨w,f⟩:=q0 ((.x).enc:D);have e:(iy bs).length=n:=by unfold iy;rw[ZA,lb]
 obtain⟨b,o⟩:=q0 (.lst .c6:cv);obtain⟨C1,q⟩:=q0 (.lst .rK:cv);obtain⟨C2,r⟩:=q0 (.lst .aD:cv);obtain⟨C3,m⟩:=q0 (.lst ((.fS).map cH):cv);obtain⟨d,p⟩:=q0 (.lst ((.sz).map .int):cv);obtain⟨l,k⟩:=q0 (.lst ((ss++ss).map aP):cv);have I:cO [w] h=.ok .cA (h++[b]):=by
  rw[f,o];exact (.ab<|aL<|gU c .hd (by rw[ZA];show bs.length<=_;rw[lb];exact ZM a .c)).trans bW
 have J:aK [w] (h++[b,C1])=.ok (.ref<|A+2) .iI:=by
  rw[f,r];exact (.ab<|aL<|uH (g:=[b,C1]) c .hd (by rw[ZA];show ss.length<=_;rw[ls];exact ZM a .c)).trans bW
 have P:eF [w] .iI=.ok (.ref<|A+3) .rT:=by
  have:=Hu (bs:=bs) (ss:=ss) a L (h:=h++[b,C1,C2]) (A:=A+3) (by rw[ZB,c];rfl);rw[f,this,m,ZU];rfl
 have N:gx (af iu .F) .mT h=.nx .mT h:=by rw[f];exact fB (.W<|NC a L s h)
 have E:.c4 .uC .mT h=.nx .ze (h++[b,C1]):=by
  have t:(h++[b])[A]?=some .bA:=by rw[o];exact ca c _
  rw[q];exact aD (uH (g:=[b]) c (cM (cW (.W I) t)<|Hv (g:=some A) t) (by rw[ZA,e];exact ZM a .c))
 have K:.ew .da .ze (h++[b,C1])=.nx .jR .iI:=aD (.W J);have G:.ba .K .c9 .jR .iI=.ok (.int ((2*n:Nat):Int)) .iI:=by
  rw[f,show ((2*n:Nat):Int)=2*(n:Int) from Int.natCast_mul 2 n];exact av rfl (.W<|qT _) (j7 .c)
 have H:aI (fJ .d .d) .jR .rT=.ok (.ref<|A+4) .rn:=by
  have g:.rT[A+1]?=some (.lst .rK):=by rw[<-q];exact dQ c 1
  rw[p,ZR];exact uH (g:=[b,C1,C2,C3]) c (oP rfl rfl g g (by rw[ZA,e];exact ZM .mK .c)) (by rw[ZB,ZA,e];exact ZM .mK .c)
 have y:aI (fJ .g .g) .jR .rn=.ok (.ref<|A+5) .Ad:=by
  have g:.rn[A+2]?=some .df:=by rw[<-r];exact dQ c 2
  rw[k,ZR];exact uH (g:=[b,C1,C2,C3,d]) c (oP rfl rfl g g (by rw[ZA,ls];exact ZM .mK .c)) (by rw[ZB,ZA,ls];exact ZM .mK .c)
 have C:=oK (n:=2*n) .a .a ok (bs:=iy bs++iy bs) (ss:=ss++ss) (by rw[ZB,e];lia) (by rw[ZB,ls];lia) (λx Q=>os x ((Z0.mp Q).elim id id)) (h:=h++[b,C1,C2,C3,d,l]) (tk:=A+3) (bk:=A+4) (sk:=A+5) (by rw[<-m];exact dQ c 3) (by rw[<-p];exact dQ c 4) (by rw[<-k];exact dQ c 5);have B:aS .t5 .jR .iI=.rt (.b2).enc .Ad:=aL (ar (am G<|am (.W P)<|am H<|.cD y) C);rw[<-f];exact(bJ (σ:=.mT) rfl rfl<|(cz N).trans ((cz E).trans ((cz K).trans B))).trans (cw<|nO _)
end
def ND(p:xs.length+ys.length<=SZ):tw .cn .iY h=.ok (.tup<|xs++ys) h:=by dsimp[tw,z4 p]
/---/def KN(o:.aF)(s:.b):List .aC:=match o with|none=>[s++[0],s++[1]] | some v=>[s++[v]]
/---/def pc(E:.aY)(o:.aF):List .aC:=E.flatMap (KN o)
/---/def iM(ss:.y):List .aC:=ss.foldl pc [[]]
def lC{ss:.y}(h:ss[k]?=some o):iM (ss.take<|k+1)=pc .fG o:=by
 unfold iM;rw[US,h,List.foldl_append];rfl
def KO(E:.aY)(o:.aF):(pc E o).length<=2*E.length:=by
 unfold pc
 induction E with
 |nil=>exact ZL _
 |cons s E a =>
  rw[V4,ZB,YT];have:(KN o s).length<=2:=by
   cases o with
   |none=>exact ZL 2
   |some v=>exact xa 1
  lia
theorem F4(ss:.y):∀k,k<=ss.length->(.fG).length<=2^k
 |0,_=>by rw[W1];exact ZL _
 |k+1,a=>by
  rw[lC (ZE<|show k<ss.length by lia),Nat.pow_succ];have:=KO .fG (ss[k]' .a);have:=F4 ss k .a;lia
structure InK(ss:.y)(k:Nat)(s:.b):Prop where
 len:s.length=k
 op:∀x∈s,x=0\/x=1
 st:∀(i:Nat) x,i<k->ss[i]?=some .b7->s[i]?=some x
theorem qU{ss:.y}(os:.bo):∀k,k<=ss.length->∀s,s∈iM .kb↔InK ss k s
 |0,_,s=>by
  rw[W1];constructor
  ·intro h
   have h:=yS.mp h;subst h;exact⟨rfl,(λx d=>absurd d List.not_mem_nil),λi x b=>absurd b (X0 i)⟩
  ·intro h
   rw[List.eq_nil_of_length_eq_zero h.len];exact yS.mpr rfl
 |k+1,r,s=>by
  have a:=r;have e:=ZE a;have ok:=os _ (YR a);obtain⟨o,y⟩:=q0 (ss[k]);rw[<-y]at e ok;rw[lC e];unfold pc;rw[List.mem_flatMap];have p:=qU os k (YX a);constructor
  ·rintro⟨t,f,n⟩
   have T:=(p t).mp f;have:∃v,s=t++[v]/\(v=0\/v=1)/\(∀x,o=some x->v=x):=by
    cases o with
    |none =>
     rcases y4.mp n with z|z
     ·exact⟨0,z,.inl rfl,λx q=>by cases q⟩
     ·exact⟨1,yS.mp z,.inr rfl,λx q=>by cases q⟩
    |some v=>exact⟨v,yS.mp n,by simpa using ok,λx q=>by cases q;rfl⟩
   obtain⟨v,rfl,g,u⟩:=this;refine⟨by rw[ZB,T.len];rfl,λx d=>?_,λi x b q=>?_⟩
   ·rcases Z0.mp d with z|z
    ·exact T.op x z
    ·rw[yS.mp z];exact g
   ·by_cases hik:i<k
    ·rw[ZC (by rw[T.len];exact hik)];exact T.st i x hik q
    ·have:i=k:=by lia
     subst this;rw[e]at q;rw[ZD (by rw[T.len];exact ZL _),T.len,Nat.sub_self,u x (ZT q)];rfl
  ·intro S
   have j:k<s.length:=by rw[S.len];exact YU k
   have c:s=s.take k++[s[k]]:=by
    conv=>lhs;rw[<-List.take_append_drop k s]
    rw[XE j,List.drop_of_length_le (by rw[S.len];exact ZL _)]
   refine⟨s.take k,(p _).mpr ⟨by rw[WI];lia,λx d=>S.op x (XG d),λi x b q=>by rw[VB b];exact S.st i x (Z2 b) q⟩,?_⟩;have g:=S.op _ (YR j);obtain⟨t,f⟩:=q0 (s.take k);obtain⟨v,m⟩:=q0 (s[k]);have l:=λx q=>S.st k x (YU k) q;rw[ZE j]at l;rw[<-m]at g l;rw[<-f,<-m]at c;rw[<-f,c];cases o with
   |none =>
    rcases g with z|z
    ·rw[z];exact ZV
    ·rw[z];exact ZW _ ZV
   |some w =>
    rw[ZT (l w e)];exact ZV
variable{b:.b}
def KP{x y:Int}(f:a.length=k)(lb:b.length=k)(h:LeS (b++[y]) (a++[x])):LeS b a/\y<=x:=by
 have d:∀(c:.b) (z:Int) (i:Nat),c.length=k->(c++[z]).getD i 0=if i<k then c.getD i 0 else if i=k then z else 0:=λc z i lc=>by
  rw[ZF,ZF]
  by_cases e:i<k
  ·rw[ZC (by rw[lc];exact e),z4 e]
  ·rw[ZD (by rw[lc];exact VN.mp e),yD e,lc]
   by_cases g:i=k
   ·subst g;rw[Nat.sub_self,z4 rfl];rfl
   ·rw[yD g,wZ (by show 1<=i-k;lia)];rfl
 constructor
 ·intro i
  have:=h i;rw[d b y i lb,d a x i f]at this
  by_cases e:i<k
  ·rw[z4 e,z4 e]at this;exact this
  ·rw[ZF,wZ .a,ZF,wZ .a];exact X5 _
 ·have:=h k
  rw[d b y k lb,d a x k f,yD (YI k),z4 rfl,yD (YI k),z4 rfl]at this;exact this
theorem Cw{ss:.y}(os:.bo):∀k,k<=ss.length->(.fG).Pairwise λa b=>¬LeS b a
 |0,_=>by rw[W1];exact YV _ _
 |k+1,o=>by
  have d:=o;rw[lC (ZE d)];unfold pc;rw[List.pairwise_flatMap];have g:=λs n=>(.yU).len;refine⟨λa e=>?_,?_⟩
  ·cases ss[k] with
   |none =>
    refine Z4.mpr ⟨λb h=>?_,YV _ _⟩;rw[yS.mp h];intro z;have:=(KP (g a e) (g a e) z).2;lia
   |some v=>exact YV _ _
  ·refine WO ?_ (Cw os k<|YX d)
   intro a b e h j x m y l z;have i:∀(c t:.b),t∈KN ss[k] c->∃v,t=c++[v]:=λc t f=>by
    cases q:ss[k] with
    |none =>
     rw[q]at f;rcases y4.mp f with z|z
     ·exact⟨0,z⟩
     ·exact⟨1,yS.mp z⟩
    |some v=>rw[q]at f;exact⟨v,yS.mp f⟩
   obtain⟨u,rfl⟩:=i a x m;obtain⟨v,rfl⟩:=i b y l;exact j (KP (g a e) (g b h) z).1
def NE(s:.b)(v:Int)(ls:s.length<=30)(h:Hd):tw .G (.tup [.int v]) h=.ok (ao<|s++[v]) h:=by
 have:=ND (xs:=s.map D.int) (ys:=[.int v]) (h:=h) (by rw[ZA];exact ZM (UR ls 1) .c);unfold ao;rw[ZR];exact this
/---/def iD(E:.aY)(p:.jo):List .aC:=E.flatMap λs=>(.jX).map λk:Nat=>s++[p.1+k]
/---/def jU(l:.dl):List .aC:=l.foldl iD [[]]
def sN{l:.dl}{p:.jo}(h:l[k]?=some p):jU (l.take<|k+1)=iD (jU .hk) p:=by
 unfold jU;rw[US,h,List.foldl_append];rfl
/---/def btw(l:.dl)(s:.b):Bool:=(l.zip s).all λq=>decide (q.1.1<=q.2)&&decide (q.2<=q.1.2)
def qV{l:.dl}{p:.jo}(h:s.length=l.length):btw (l++[p]) (s++[v])=(btw l s&&(decide (p.1<=v)&&decide (v<=p.2))):=by
 unfold btw;rw[List.zip_append h.symm,List.all_append];simp
def Cy(E:List α)(q:α->Bool)(f g:α->List β)(p:β->Bool)(h:∀s∈E,(f s).filter p=if q s then g s else []):(E.flatMap f).filter p=(E.filter q).flatMap g:=by
 induction E with
 |nil=>rfl
 |cons s E a =>
  have a:=a λx b=>h x (ZW _ b);have d:=h s ZV;rw[V4,XS,a,d];cases c:q s with
  |true=>rw[Y1 c,V4,z4 rfl]
  |false=>rw[XJ .rX,yD .c];rfl
structure Bd(ss:.y)(l:.dl):Prop where
 len:l.length=ss.length
 bit:∀p∈l,.no/\.nn/\p.1<=p.2
 st:∀(i:Nat) x p,ss[i]?=some .b7->l[i]?=some p->p=(x,x)
theorem n5{ss:.y}(os:.bo){l:.dl}(B:Bd ss l):∀k,k<=ss.length->jU .hk=(.fG).filter (btw .hk)
 |0,_=>rfl
 |k+1,u=>by
  have a:=u;have b:k<l.length:=by rw[B.len];exact a
  obtain⟨o,m⟩:∃o,ss[k]?=some o:=⟨_,ZE a⟩;obtain⟨p,f⟩:∃p,l[k]?=some p:=⟨_,ZE b⟩;rw[sN f,lC m,n5 os B k (YX a)];have lt:l.take (k+1)=l.take k++[p]:=by rw[US,f];rfl
  have w:(.hk).length=k:=by rw[WI];exact Nat.min_eq_left (YX b)
  unfold iD pc
  symm
  refine Cy _ _ _ _ _ λs r=>?_;have d:s.length=(.hk).length:=by rw[w];exact((qU os k (YX a) s).mp r).len
  obtain⟨n,j,q⟩:=B.bit p (ZK f);rw[lt];cases c:btw .hk s with
  |false =>
   rw[yD .c,List.filter_eq_nil_iff];intro t i;have:∃v,t=s++[v]:=by
    cases o with
    |none =>
     rcases y4.mp i with z|z
     ·exact⟨0,z⟩
     ·exact⟨1,yS.mp z⟩
    |some v=>exact⟨v,yS.mp i⟩
   obtain⟨v,rfl⟩:=this;rw[qV d,c,Bool.false_and];decide
  |true =>
   rw[z4 rfl];cases o with
   |some v =>
    have e:=B.st k v p m f;rw[e];show ([s++[v]]).filter _=_;rw[Y1 (by rw[qV d,c];simp),List.filter_nil];have A:(v+1-v).toNat=1:=by lia
    rw[A];show [s++[v]]=[s++[v+((0:Nat):Int)]];rw[show v+((0:Nat):Int)=v from Int.add_zero v]
   |none =>
    obtain⟨x,y⟩:=p;show ([s++[0],s++[1]]).filter _=_;have h:btw (l.take k++[(x,y)]) (s++[0])=(decide (x<=0)&&decide (0<=y)):=by rw[qV d,c,Bool.true_and]
    have g:btw (l.take k++[(x,y)]) (s++[1])=(decide (x<=1)&&decide (1<=y)):=by rw[qV d,c,Bool.true_and]
    simp only at n j q;rcases n with rfl|rfl<;>rcases j with rfl|rfl
    ·rw[Y1 .rV,XJ .rW];rfl
    ·rw[Y1 .rV,Y1 .rW];rfl
    ·exact absurd q .c
    ·rw[XJ .rV,Y1 .rW];rfl
def Hw{a b:EF}{m n:Int}(p:a σ h=.ok (.int m) h1)(q:b σ h1=.d8 h2)(c:(-1000000<=m/\m<=1000000)/\-1000000<=n/\n<=1000000):p9 a b σ h=.ok ((.za).map (λk:Nat=>D.int (m+k)),none) h2:=by
 dsimp[p9,p,q,aH,z4 c]
def Hx{p:.jo}(a:.no/\.nn)(E:.aY):(iD E p).length<=2*E.length:=by
 unfold iD
 induction E with
 |nil=>exact ZL _
 |cons s E b =>
  rw[V4,ZB,YT,ZA,ZO];lia
def KQ{p:.jo}(L:.no/\.nn)(lE:E.length<=100000)(ls:∀s∈E,s.length<=30)(K:h[k]?=some .nZ)(w:.ge)(c:.P):
  ∃o,eM .b8 .dH .bn fL .dH [some x,some y,some .an,some .jr,some .js,some .T,c] .a6=.nx [some x,some y,some .an,some .jr,some .js,some .T,o] (h++[.lst ((iD E p).map ao)]):=by
 obtain⟨C,l,q,o,O,t⟩:=cI (P:=λi σ l=>∃c,σ=[some x,some y,some .gn,some .jr,some .js,some .cA,c]/\l=h++[.lst .ka]) (g:=some k) (λi σ l ⟨_,_,e⟩=>by rw[e];exact .j K)
  (tg:=gN 6) (h:=h++[.lst []]) (b:=fL) (by
   rintro i Q σ T R ⟨c,rfl,rfl⟩;rw[YE];have n:E[i]?.map ao=some Q:=by rw[<-ZQ];exact R
   obtain⟨s,B,rfl⟩:=XA.mp n;have r:=ls s (ZK B);have m:=ca w (.lst .ka);have F:E.take (i+1)=E.take i++[s]:=by rw[US,B];rfl
   have H:iD (E.take<|i+1) p=iD (E.take i) p++(.jX).map λk:Nat=>s++[p.1+k]:=by rw[F];unfold iD;rw[List.flatMap_append];simp
   have J:(.ka).length<=200000:=by
    rw[ZA];have:=Hx L (E.take i);have:(E.take i).length<=E.length:=List.length_take_le' _ _;lia
   obtain⟨a,f⟩:=q0 (h++[.lst .ka]:Hd);have G:bU none ((.jX).map λk:Nat=>D.int (p.1+k)) .B [] (aq tw .d<|d9 .F) ((.jX).map λk:Nat=>D.int (p.1+k)) [none,some .G] a=.ok .wv a:=by
    have:=br (g:=none) (all:=(.w1).map λk:Nat=>D.int (p.1 + k)) (tg:=gN 0) (cs:=[]) (e:=aq tw .d (d9 .F)) (h:=a) (I:=λσ=>∃x,σ = [x,some .G]) .aM (λd=>match d with | .int v=>ao (s++[v])|_=>.non) trivial (xs:=(.w1).map λk:Nat=>D.int (p.1 + k)) (σ:=[none,some .G]) (by
     rintro d N σ ⟨u,rfl⟩;obtain⟨j,S,rfl⟩:=z5.mp N;exact⟨_,rfl,⟨_,rfl⟩,rfl,λ_=>av rfl (hV .cg) (NE s _ r _)⟩) ⟨_,rfl⟩
    rw[this,Z9.mpr .L,y3,y3];rfl
   refine⟨_,rfl,[some x,some y,some .an,some .jr,some .js,some .T,some .G],h++[.lst ((iD (E.take<|i+1) p).map ao)],?_,_,rfl,rfl⟩;rw[H,ZR];rw[<-f]at m⊢;have z:(.ka).length+(.wv).length<=SZ:=by
    rw[ZA]at J;rw[ZA,ZA,ZA,ZO];show _<=1000000;lia
   refine(fB<|KL rfl m (cM (Hw rfl .gz (by show (-1000000<=p.1/\p.1<=1000000)/\-1000000<=p.2+1/\p.2+1<=1000000;lia)) G) m z).trans ?_;rw[f,oE w];rfl) ⟨_,rfl,by rw[W1];rfl⟩
 have M:0+(.dH).length=E.length:=by rw[ZA,YE]
 rw[M,XH]at t;rw[O,t]at q;exact⟨o,q⟩
theorem Cz{l:.dl}:∀k,k<=l.length->∀s∈jU .hk,s.length=k
 |0,_,s,h=>by rw[W1]at h;rw[yS.mp h];rfl
 |k+1,a,s,h=>by
  rw[sN (ZE<|show k<l.length from a)]at h;unfold iD at h;obtain⟨t,ht,b⟩:=List.mem_flatMap.mp h;obtain⟨j,_,rfl⟩:=z5.mp b;rw[ZB,Cz k (Nat.le_of_succ_le a) t ht];rfl
def Ex{c a:.b}(z:∀p∈c.zip a,.no/\.nn)(hn:(.lj).length<=30)(hz:∀k,k<=(.lj).length->(jU<|(.lj).take k).length<=100000)(h:Hd):
  ∃k g,eE [ao c,ao a] h=.ok .an .N/\.N[k]?=some (.lst<|(jU .lj).map ao)/\h.length<=k:=by
 obtain⟨A,m⟩:=q0 .cQ;obtain⟨l,B⟩:=q0 .lj;rw[<-B]at z hn hz⊢;have F:((c.map D.int).zip (a.map D.int)).map (λp=>D.tup .eZ)=l.map (λp=>D.tup .eD):=by
  rw[B,List.zip_map,y3];rfl
 obtain⟨C,j,q,k,g,u,f,e,d,K,y,t,G⟩:=cI (P:=λi σ j=>∃(k:Nat) (g:Hd) (u f e d:.P),σ=[some (ao c),some (ao a),some .gn,u,f,e,d]/\j=h++g/\j[k]?=some (.lst<|(jU<|l.take i).map ao)/\h.length<=k) (g:=none) (all:=l.map λp=>D.tup .eD) .b0
  (tg:=gT [3,4]) (b:=ir) (by
   rintro i x σ Q O ⟨k,g,u,f,e,d,rfl,rfl,o,_⟩;rw[YE]at o⊢;have n:l[i]?.map (λp=>D.tup .eD)=some x:=by rw[<-ZQ];exact O
   obtain⟨p,r,rfl⟩:=XA.mp n;have w:=(zS.mp r).1;have v:∀s∈jU (l.take i),s.length<=30:=λs I=>by rw[Cz i (YX w) s I];lia
   obtain⟨M,H⟩:=KQ (z p<|ZK r) (hz i<|YX w) v o rfl d;have N:aG .dd .bE [some (ao c),some (ao a),some .gn,some .jr,some .js,e,d] .N=.nx .t0 (h++g++[.lst []]):=aD (bS rfl .dj);have E:fz (bV .g) .bn fL .t0 (h++g++[.lst []])=.nx [some (ao c),some (ao a),some .gn,some .jr,some .js,some (.ref (.N).length),M] (h++g++[.lst .xq]):=eW (.cF<|.j o) H;refine⟨_,rfl,_,_,(cz N).trans ((cz E).trans (aD rfl)),(.N).length,g++[.lst .xq],_,_,_,_,rfl,by rw[ZU],?_,by rw[ZB];exact YF _ _⟩;rw[sN r];exact ZG) ⟨A,[.lst [.tup []]],none,none,none,none,rfl,rfl,by rw[W1];exact ca m _,V1 m.symm⟩
 have J:0+(l.map λp=>D.tup .eD).length=l.length:=by rw[ZA,YE]
 rw[J,XH]at t;rw[K,y]at q;rw[y]at t;refine⟨k,g,?_,t,G⟩;exact (.ab<|(cz<|aD<|gU m (.cD<|hV rfl .dj) (by exact Y3 rfl)).trans ((cz<|J5 rfl rfl<|(congrArg (λL=>eM none _ .n5 ir L _ _) F).trans q).trans .f5)).trans bW
theorem n9{h:Hd}(I:Sd->Prop)(p:D->Bool)(f:D->D)(a:G h):
  ∀{xs:List D} {σ:Sd},(∀x∈xs,∀σ,I σ->∃σ',tg x σ=some σ'/\I σ'/\jW cs σ' h=.ok (p x) h/\.qf)->I σ->dX G tg cs e xs σ h=.ok .ra h
 |[],_,_,_=>by unfold dX;rw[z4 a];rfl
 |x::xs,σ,st,i=>by
  obtain⟨σ',h1,h2,d,g⟩:=st x ZV σ i;have b:=n9 I p f a (λy j=>st y (ZW _ j)) h2;unfold dX;rw[z4 a,h1];dsimp[d,aH];cases c:p x with
  |true=>rw[Y1 c,yP,g c];simp[b]
  |false=>rw[XJ .rX,b];simp
/---/def og(ss:.y):Nat:=(ss.filter λo=>o.isNone).length
def KR(ss:.y):∀k,((((List.range' k ss.length).zip .aD).map λp=>D.tup [.int (p.1:Nat),p.2]).filter λd=>match d with | .tup [_,x]=>mM x|_=>false).length=og ss:=by
 induction ss with
 |nil=>intro k;rfl
 |cons o ss a =>
  intro k;rw[YT,List.range'_succ,yP,U9,yP];have a:=a (k+1);unfold og at a⊢;cases o with
  |none =>
   rw[Y1 .f3,Y1 .f3,YT,YT,a]
  |some v =>
   rw[XJ .xG,XJ .xG,a]
section
variable{w:Web}{n:Nat}
def NF(W:w.Ok n)(hn:n<=30)(h:Hd):∃l g,ft .Y h=.ok .mv (h++g++[.lst l])/\l.length=og w.stays:=by
 obtain⟨K,s⟩:=q0 .cQ;have r:(.aq).length<=SZ:=by rw[ZA,W.s];exact kX hn
 have j:aK .Y h=.ok .lC .bO:=(.ab<|aL<|bS .hd r).trans bW;obtain⟨l,i⟩:=q0 (((dZ .aq).filter λd=>match d with | .tup [_,x]=>mM x|_=>false).map λd=>match d with | .tup [x,_]=>x|_=>.non:List D)
 have c:.bO[h.length]?=some .iK:=ZG;have k:dX (λo=>o[h.length]?=some .iK) .ax [.id] .f (dZ .aq) .hg .bO=.ok l .bO:=by
  rw[i];refine n9 (I:=λσ=>∃a b,σ=[a,b]) _ _ c (λx q σ ⟨a,b,e⟩=>?_) ⟨_,_,rfl⟩;subst e;obtain⟨p,t,rfl⟩:=z5.mp q;exact⟨_,rfl,⟨_,_,rfl⟩,oF .bc,λ_=>rfl⟩
 have m:.tF .f .hb h=.ok l .bO:=by
  have e:af aK .F .hb h=.bK .bO:=ar .cg j;unfold fU;rw[e];dsimp[c];exact k
 have f:l.length=og w.stays:=by
  rw[i,ZA];have:=KR w.stays 0;rw[<-List.range_eq_range']at this;rw[<-this];unfold dZ;rw[ZA]
 refine⟨l,[.lst .aq],(.ab (aL (bS m ?_))).trans bW,f⟩;rw[f];exact ZM .dN (by rw[W.s];exact kX hn)
end
noncomputable def Hy:D->List Int
 |.tup l=>l.map λd=>match d with | .int i=>i|_=>0
 |_=>[]
def uS(s:.b):Hy .G=s:=by
 show (.g8).map _=s;rw[y3];exact List.map_id' s
def Hz{E:.aY}(p:List Int->Bool)(f:h[k]?=some .nZ)(ht:∀s∈E,t (some .G::cp) h=.ok (p s) h)(a:.P):bU .b8 .dH .B [t] .f .dH (a::cp) h=.ok ((E.filter p).map ao) h:=by
 have:=br (g:=some k) (tg:=gN 0) (cs:=[t]) (e:=aa 0) (I:=λσ=>∃x,σ = x :: cp) (λd=>p (Hy d)) (λd=>d) f (σ:=a :: cp) (by
  rintro x b σ ⟨u,rfl⟩;obtain⟨s,c,rfl⟩:=z5.mp b;refine⟨_,rfl,⟨_,rfl⟩,oF ?_,λ_=>rfl⟩;rw[uS];exact ht s c) ⟨_,rfl⟩
 rw[this,List.map_id',List.filter_map];have e:((λd=>p (Hy d)) ∘ ao)=p:=funext λs=>by show p (Hy .G)=p s;rw[uS]
 rw[e]
theorem yL(ss:.y):∀k,k<=ss.length->(.fG).length<=2^og .kb
 |0,_=>by rw[W1];exact ZL _
 |k+1,h=>by
  have b:=h;obtain⟨o,d⟩:∃o,ss[k]?=some o:=⟨_,ZE b⟩;have a:=yL ss k (YX b);have f:ss.take (k+1)=ss.take k++[o]:=by rw[US,d];rfl
  rw[lC d,f];unfold og at a⊢;rw[XS,ZB];generalize .fG=E at a⊢;generalize ((.kb).filter λo=>o.isNone).length=m at a⊢;have e:∀(c:Nat) (E:.aY),(∀s,(KN o s).length=c)->(pc E o).length=E.length*c:=λc E g=>by
   unfold pc
   induction E with
   |nil=>rw[List.flatMap_nil,U4,Nat.zero_mul]
   |cons s E a=>rw[V4,ZB,a,g,YT,Nat.succ_mul,wa]
  cases o with
  |none =>
   rw[e 2 E (λs=>rfl)];show E.length*2<=2^(m+1);rw[Nat.pow_succ];exact Nat.mul_le_mul_right 2 a
  |some v =>
   rw[e 1 E (λs=>rfl),Nat.mul_one];exact a
def Ey(ss:.y)(k:Nat):og .kb<=og ss:=by
 unfold og;exact((List.take_sublist k ss).filter _).length_le
structure Ug(w:Web)(n:Nat)(a:.b):Prop where
 fit:.bz a
 rest:.ai a=a
variable{w:Web}
def Ag(W:w.Ok n)(a:w.stays=ss)(ls:.aQ)(os:.bo)(s:.b):s∈iM ss↔aX w n s:=by
 have:=qU os n (V1 ls.symm) s;rw[XB (V1 ls)]at this;rw[this];constructor
 ·intro k
  exact⟨k.len,k.op,λi x e=>k.st i x (by rw[a]at e;rw[<-ls];exact (.bs).1) (by rw[<-a];exact e)⟩
 ·intro F
  exact⟨F.len,F.op,λi x _ e=>F.st i x (by rw[a];exact e)⟩
structure G23(w:Web)(n:Nat)(lo hi:.b):Prop where
 W:w.Ok n
 hn:n<=30
 S:bN w
 M:qz w w n
 f12:og w.stays<=12
 lo_is:∀h,cu .Y h=.ok (ao lo) h
 hi_is:∀h,bD .Y h=.ok (ao hi) h
 loF:.bz lo
 hiF:.bz hi
 le:LeS lo hi
 mid:∀s,aX w n s->ay w n .Z=s->LeS lo s/\LeS s hi
 loR:.ai lo=lo
 hiR:.ai hi=hi
section
variable{w:Web}{n:Nat}{lo hi:.b}
def G23.bd(G:.ae):Bd w.stays .cM:=by
 have k:=G.loF.len;have j:=G.hiF.len;refine⟨by rw[List.length_zip,k,j,G.W.s];exact Nat.min_self n,λp h=>?_,λi x p e g=>?_⟩
 ·obtain⟨i,hi'⟩:=List.mem_iff_getElem?.mp h
  obtain⟨d,c⟩:=XY.mp hi';have f:=G.le i;rw[ZF,ZF,d,c]at f;exact⟨G.loF.op _ (ZK d),G.hiF.op _ (ZK c),f⟩
 ·obtain⟨d,c⟩:=XY.mp g
  have a:=G.loF.st i x e;have b:=G.hiF.st i x e;rw[d]at a;rw[c]at b;exact Prod.ext (ZT a) (ZT b)
def G23.btw(G:.ae):jU .cM=(.dF).filter (btw .cM):=by
 have:=n5 G.S G.bd w.stays.length .r;rw[XH,XB (V1 G.bd.len)]at this;exact this
def G23.sz(G:.ae)(k:Nat)(b:k<=(.cM).length):(jU<|(.cM).take k).length<=100000:=by
 have a:k<=w.stays.length:=by rw[<-G.bd.len];exact b
 rw[n5 G.S G.bd k a];refine ZM .dN (ZM (yL w.stays k a) ?_);exact ZM (VF .c<|ZM (Ey _ _) G.f12) .c
def QR(k:lo.length=n)(h:hi.length=n)(j:.e6)(a:LeS lo s)(b:LeS s hi):btw .cM s=true:=by
 unfold btw;rw[W8];intro x g;obtain⟨i,hi'⟩:=List.mem_iff_getElem?.mp g;obtain⟨e,c⟩:=XY.mp hi';obtain⟨d,f⟩:=XY.mp e;have q1:=a i;have q2:=b i;rw[ZF,ZF,d,c]at q1;rw[ZF,ZF,c,f]at q2;rw[YB];exact⟨ZZ q1,ZZ q2⟩
def G23.pick(G:.ae)(p:List Int->Bool)(hp:∀s,aX w n s->p s=true->LeS lo s/\LeS s hi):(jU .cM).filter p=(.dF).filter p:=by
 rw[G.btw,List.filter_filter];refine List.filter_congr λs d=>?_;have F:=(.zc).mp d;cases c:p s with
 |false=>rfl
 |true =>
  obtain⟨a,b⟩:=hp s F c;rw[QR G.loF.len G.hiF.len F.len a b];rfl
def KS(G:.ae)(h:Hd):∃k g,dU .Y h=.ok .an .N/\.N[k]?=some (.lst .m3)/\h.length<=k:=by
 obtain⟨l,a,i,c⟩:=NF G.W G.hn h;obtain⟨k,g,e,m,j⟩:=Ex (λp b=>⟨(G.bd.bit p b).1,(G.bd.bit p b).2.1⟩) (by rw[G.bd.len,G.W.s];exact G.hn) G.sz .r7;have f:sIf .vn kO bT .hb h=.nx .hb .r7 :=
  dy (bm<|av (dI<|cm (.W i)<|bc<|ca rfl _) rfl<|vO (by rw[c];have:=G.f12;lia))
 have d:aS .v1 .hb .r7=.rt .an (h++a++[.lst l]++g):=aL (ar (bK (.W<|G.lo_is _)<|.W<|G.hi_is _) e);refine⟨k,a++[.lst l]++g,?_,?_,?_⟩
 ·have:=(bJ (n:=1) (ds:=.Y) rfl rfl<|(cz f).trans d).trans bW
  rw[<-ZU,<-ZU];exact this
 ·rw[<-ZU,<-ZU];exact m
 ·rw[ZB,ZB]at j;lia
end
def sO(l:.b):cC .cN=some l:=by
 induction l with
 |nil=>rfl
 |cons x l a=>rw[yP,cC,a];rfl
def QS(a b:.b)(h:Hd):Do (ao a) (ao b) h=.ok (.bl<|.d7 b) h:=by
 have:ltT (ao a) (ao b)=some (.d7 b):=by
  unfold ao ltT;dsimp[sO]
 dsimp[Do,this]
section
variable{w:Web}{n:Nat}{lo hi:.b}
/---/def isR(w:Web)(n:Nat)(s:.b):Bool:=decide (.ai s=s)
/---/def isP(w:Web)(n:Nat)(s:.b):Bool:=lexLt s .Z&&decide (.ai .Z=s)
/---/def eK(w:Web)(n:Nat)(s:.b):D:=.tup [ao s,ao .Z]
def G23.mem(G:.ae)(h:s∈jU .cM):.bz s:=by
 rw[G.btw]at h;exact (.zc).mp (Y2.mp h).1
def G23.rs(G:.ae):(jU .cM).filter (isR w n)=(.dF).filter (isR w n):=G.pick _ λs F e=>G.mid s F (by have:=Y3 e;rw[this,this])
def G23.ps(G:.ae):(jU .cM).filter .ia=(.dF).filter .ia:=G.pick _ λs F e=>by
 unfold isP at e;rw[YB]at e;exact G.mid s F (Y3 e.2)
def G23.zB(G:.ae):(jU .cM).length<=100000:=by
 have:=G.sz (.cM).length .r;rwa[XH]at this
def HA(G:.ae){k:Nat}(b:h[k]?=some (.lst .m3)):bU .b8 .m3 .B .wk .f .m3 .rL h=.ok .qc h:=by
 rw[<-G.rs];exact Hz (isR w n) b (λs a=>bm (av (.O<|hW G.W (G.mem a) h) rfl<|uK (by rw[(G.mem a).len];simp[ay]) h)) none
def zR(G:.ae):(.qc).length<=SZ:=by
 rw[ZA,<-G.rs];exact ZM .dN (ZM G.zB .c)
def qW(G:.ae)(h:Hd):∃g,eo .Y h=.ok .mv (h++g++[.lst .qc]):=by
 obtain⟨k,g,b,a,_⟩:=KS G h;exact⟨g,(.ab<|aL<|bS (cM (cW (.W b) a)<|HA G a)<|zR G).trans bW⟩
def NG(W:w.Ok n)(F:.S)(g:.bz .Z)(b:H[A]?=some (.lst X))(e:X.length<SZ)(c:.P):
  Cd .p9 H=.nx .h2 .u1:=by
 have d:aG .bR (af cy .fB) .p9 H=.nx .h2 H:=aD (.O<|hW W F H);have a:tE .ss .h2 H=.ok (lexLt s .Z) H:=bm (.bp<|QS _ _ H);have f:tE .qL .h2 H=.ok (decide (.ai .Z=s)) H:=bm (av (.O<|hW W g H) rfl<|uK (by rw[F.len];simp[ay]) H);have t:kM (tE .ss) (tE .qL) .h2 H=.ok (isP w n s) H:=by
  unfold isP;cases c:lexLt s .Z with
  |true=>rw[c]at a;rw[Bool.true_and];exact nH a f
  |false=>rw[c]at a;rw[Bool.false_and];exact FB a
 refine(cz d).trans ?_;cases c:isP w n s with
 |true =>
  rw[c]at t;rw[z4 rfl];exact(nc t).trans (fB<|lW rfl b (hV .dw) b e)
 |false =>
  rw[c]at t;rw[yD .c];exact dy t
def Ez(l:.ge){E:.aY}(lE:E.length<=100000)(u:∀X,(h++(.lst X::g))[k]?=some .nZ)
  (r:∀s∈E,∀(X:List D) (H:Hd) (c:.P),H[A]?=some (.lst X)->X.length<SZ->B .p9 H=.nx .h2 .u1) :
  ∃a b,eM .b8 .dH .ef B .dH [some w.enc,some .T,none,none] (h++(.lst []::g))=.nx [some w.enc,some .T,a,b] (h++(.lst ((E.filter .ia).map (eK w n))::g)):=by
 obtain⟨o,d,q,a,b,y,j⟩:=cI (P:=λi σ d=>∃a b,σ=[some w.enc,some .cA,a,b]/\d=h++(.lst .l6::g)) (g:=some k) (λi σ d ⟨_,_,_,e⟩=>by rw[e];exact u _)
  (tg:=gN 2) (h:=h++(.lst [] :: g)) (by
   rintro i x σ F C ⟨a,b,rfl,rfl⟩;rw[YE];have f:E[i]?.map ao=some x:=by rw[<-ZQ];exact C
   obtain⟨s,m,rfl⟩:=XA.mp f;have t:(h++(.lst .l6::g))[A]?=some (.lst .l6):=dQ l 0;have z:(.l6).length<SZ:=by
    rw[ZA];exact ZS (ZM .dN<|ZM .yv lE) .c
   have p:E.take (i+1)=E.take i++[s]:=by rw[US,m];rfl
   refine⟨_,rfl,_,_,r s (ZK m) _ _ b t z,_,_,rfl,?_⟩;rw[p,XS,ZR];cases c:isP w n s with
   |true =>
    rw[z4 rfl,Y1 c];exact iQ l 0 _
   |false=>rw[yD .c,XJ .rX,List.filter_nil,V0,XD]) ⟨_,_,rfl,by rw[W1];rfl⟩
 have v:0+(.dH).length=E.length:=by rw[ZA,YE]
 rw[v,XH]at j;rw[y,j]at q;exact⟨a,b,q⟩
def NJ{c:cv}(lk:(h++[cv.lst []]).length<=k)(a:(h++[.lst []]++g)[k]?=some c)(X:List D):(h++(.lst X::g))[k]?=some c:=by
 rw[ZD lk]at a;rw[ZB]at lk a;have lk:h.length+1<=k:=lk;rw[ZD (Nat.le_of_succ_le lk)];have:k-h.length=(k-(h.length+1))+1:=by lia
 rw[this,UC];exact a
def wC(G:.ae)(h:Hd):∃g,ge .Y h=.bK (h++(.lst (((.dF).filter .ia).map (eK w n))::g)):=by
 obtain⟨A,d⟩:=q0 .cQ;obtain⟨k,g,f,e,p⟩:=KS G .a6;obtain⟨a,b,i⟩:=Ez d G.zB (λX=>NJ p e X) λs j X H c m l=>NG G.W (G.mem j) (dS G.W G.S<|G.mem j) m l c;rw[G.ps]at i;have o:h++[.lst []]++g=h++(.lst []::g):=by rw[ZU];rfl
 rw[o]at f e;refine⟨g,?_⟩;rw[<-d];exact (.ab<|(cz<|aD<|gU d rfl .dj).trans ((cz<|eW (cW (.W f) e) i).trans .f5)).trans bW
end
def KU(W:w.Ok n)(hn:n<=30)(S:bN w)(M:.gj)(f12:og w.stays<=12):∃lo hi,G23 w n lo hi:=by
 obtain⟨f,j,d⟩:=B5 W S M;obtain⟨b,l,c⟩:=B6 W S M;have g:=sy W S;have e:=sA W S;have a:∀s,ay w n .Z=s->∀k,hist w n s (2*k)=s:=λs h k=>by
  induction k with
  |zero=>rfl
  |succ k i =>
   show ay w n (.ai<|.fg<|2*k)=s;rw[i,h]
 refine⟨.p .eV f,.p .fM b,W,hn,S,M,f12,λh=>xi W S .a d h,λh=>xj W S .a c h,bh W S g f,bh W S e b,?_,λs F h=>⟨?_,?_⟩,d,c⟩
 ·have:=oJ W W S S M g e (vW e) (f+b)
  rwa[gc d _ .bF,gc c _ (Nat.le_add_left _ _)]at this
 ·have:=oJ W W S S M g F (vW F) (2*f)
  rwa[gc d _ .a,a s h]at this
 ·have:=oJ W W S S M F e (B4 W F) (2*b)
  rwa[gc c _ .a,a s h]at this
section
variable{n:Nat}{M:.av}{T:.ah}{bs:.b}{ss:.y}
def pV{n:Nat}{T:.ah}(O:.aR){bs:.b}{ss:.y}(os:.bo):qz .x .x n:=by
 refine Ni os os (λp f a b _ B l=>tN B l λq c=>?_) (λ_ _=>X5 _) λp _=>?_
 ·have e:(.x).ties.getD p []=bZ (nbs T p):=by simp[aM,List.getD,f]
  rw[e]at c;have c:=dg.mp c;unfold nbs at c;obtain⟨t,d,z⟩:=WS.mp c;have:=O.wt t d;cases e:far p t with
  |none=>rw[e]at z;cases z
  |some j=>rw[e]at z;simp at z;subst z;simp only;lia
 ·show (ss.getD p none=none/\ss.getD p none=none)\/ss.getD p none=some 0\/ss.getD p none=some 1
  by_cases h:p<ss.length
  ·have:=os _ (YR h)
   rw[show ss.getD p none=ss[p] by simp[List.getD,h]];rcases this with e|e|e
   ·exact .inl ⟨e,e⟩
   ·exact .inr (.inl e)
   ·exact .inr (.inr e)
  ·left;simp[List.getD,wZ (show ss.length<=p by lia)]
def F5{a b:List α}(h:i<a.length):(.dS).getD i d=.gy d:=by
 rw[ZF,ZC h,<-ZF]
def CA{a b:List α}(h:a.length<=i):(.dS).getD i d=b.getD (i-a.length) d:=by
 rw[ZF,ZD h,<-ZF]
theorem CB(O:MOk M){s:.b}(B:nK s)(i:Nat):∀k,aU ((.wY).map λo=>(o,2*M i o)) s=2*fD .zj k
 |0=>rfl
 |k+1=>by
  rw[VX,XS,ZR,wy,CB O B i k,fD,Int.mul_add];congr 1;have b:=(O.bd i k).1
  by_cases c:0<M i k
  ·rw[XR,z4 (ZZ c),List.filter_nil,yP,V0,cD]
   rcases B k with e|e
   ·rw[e];simp[aU,eY]
   ·rw[e];simp[aU,eY]
  ·have z:M i k=0:=by lia
   rw[XR,yD .k0,z];simp[aU,eY]
def tY(O:MOk M)(L:.cu)(B:nK s)(hi:i<n):aU (wB n M i n) s=s.getD i 0+2*aU .aN s:=by
 unfold wB;rw[cD,CB O B,KH L B hi];rcases B i with e|e
 ·dsimp[e];simp
 ·dsimp[e];simp
def Ah(h:∀q∈r,s.getD q.1 0=t.getD q.1 0):aU r s=aU r t:=by
 rw[fV,fV];congr 1;exact YK λq a=>by rw[h q a]
def Ai{a:.b}(b:.e7)(r:.as):aU (pU n r) (a++s)=aU r s:=by
 rw[fV,fV];unfold pU;rw[y3];congr 1;refine YK λq _=>?_;show (if (a++s).getD (q.1+n) 0=1 then q.2 else 0)=_;rw[CA .a,b,Nat.add_sub_cancel]
def KW{P b s x:Int}(a:s=0\/s=1):(if 2*(s+2*P)=2*b+1 then x else if 2*b+1<2*(s+2*P) then (1:Int) else 0)=if 2*P=b then s else if b<2*P then 1 else 0:=by
 rcases a with rfl|rfl
 ·rw[yD .a]
  by_cases c:b<2*P
  ·rw[z4 .a,yD .a,z4 c]
  ·rw[yD .a]
   by_cases d:2*P=b
   ·rw[z4 d]
   ·rw[yD d,yD c]
 ·rw[yD .a]
  by_cases d:2*P=b
  ·rw[z4 .a,z4 d]
  ·rw[yD d]
   by_cases c:b<2*P
   ·rw[z4 .a,z4 c]
   ·rw[yD .a,yD c]
def CC{l:List α}(ll:.cx):(l++l).getD p d=if p<n then l.getD p d else l.getD (p-n) d:=by
 split
 ·rw[F5 .a]
 ·rw[CA .a,ll]
def KY(w:n<=15)(O:MOk M)(L:.cu)(ok:TOk (2*n) (2*n) 0 .fS)(lb:.aX)(ls:.aQ){a:.b}(E:.e7)(G:.gc)(t:nK a)(o:nK b):
  ay .b2 (2*n) .dS=ay .x n b++ay .x n a:=by
 have D:(ay .x n b).length=n:=by simp[ay]
 have lt2:(ay .x n a).length=n:=by simp[ay]
 have C:(iy bs).length=n:=by unfold iy;rw[ZA,lb]
 have F:∀p,p<2*n->cR .b2 .dS p=if p<n then cR .x b p else cR .x a (p-n):=λp r=>by
  have l:(.b2).ties.getD p []=bZ (Cu n M p):=by
   rw[ZF,show (.b2).ties[p]?=some (bZ<|nbs .fS p) from uR r,Hr O L ok p r];rfl
  have d:(.b2).bars.getD p 0=(.sz).getD p 0:=rfl;have f:(.b2).stays.getD p none=(ss++ss).getD p none:=rfl;rw[CC C]at d;rw[CC ls]at f;have u:∀q,q<n->(iy bs).getD q 0=2*bs.getD q 0+1:=λq g=>by
   unfold iy;rw[ZF,ZQ,ZF,ZE .a];rfl
  have h:∀(q:Nat) (s:.b) (x:Int),q<n->nK s->aU (Cu n M p) .dS=s.getD q 0+2*aU (nbs T q) s->(.b2).bars.getD p 0=2*bs.getD q 0+1->(.b2).stays.getD p none=ss.getD q none->cR .b2 .dS p=cR .x s q:=λq s x g B v y A=>by
   have j:(.x).ties.getD q []=bZ (nbs T q):=by
    rw[ZF,uR g];rfl
   unfold cR;rw[A];show (match ss.getD q none with|some x=>x|none=>_)=(match ss.getD q none with|some x=>x|none=>_);cases ss.getD q none with
   |some z=>rfl
   |none =>
    show (if 2*aU .Aw .dS=(.b2).bars.getD p 0 then _ else if (.b2).bars.getD p 0<2*aU .Aw .dS then (1:Int) else 0)=if 2*aU ((.x).ties.getD q []) s=bs.getD q 0 then s.getD q 0 else if bs.getD q 0<2*aU ((.x).ties.getD q []) s then 1 else 0
    rw[l,j,nP,nP,v,y];exact KW (B q)
  by_cases c:p<n
  ·rw[z4 c]at d f⊢
   refine h p b 0 c o ?_ (by rw[d,u p c]) f;rw[show Cu n M p=pU n (wB n M p n) from z4 c,Ai E,tY O L o c]
  ·rw[yD c]at d f⊢
   have g:p-n<n:=by lia
   refine h (p-n) a 0 g t ?_ (by rw[d,u _ g]) f;rw[show Cu n M p=wB n M (p-n) n from yD c,<-tY O L t g];refine Ah λq k=>?_;have:q.1<n:=by
    rcases nZ.mp (show (q.1,q.2)∈wB n M (p-n) n from k) with ⟨e,_⟩|⟨e,_⟩
    ·lia
    ·exact e
   rw[F5 .a]
 apply YO;intro i;unfold ay
 by_cases m:i<2*n
 ·rw[ZQ,YA m,Y8,F i m]
  by_cases c:i<n
  ·rw[ZC .aH,z4 c,ZQ,YA c];rfl
  ·rw[ZD .Q,yD c,ZA,ZO,ZQ,YA .a];rfl
 ·rw[wZ .Q,wZ .Q]
end
structure Dbl(w d:Web)(n:Nat)(lo hi lo2 hi2:.b):Prop where
 G:G23 w n lo hi
 G2:G23 d (2*n) lo2 hi2
 st:d.stays=w.stays++w.stays
 tu:∀a b,aX w n a->aX w n b->ay d (2*n) .dS=ay w n b++ay w n a
section
variable{w d:Web}{n:Nat}{lo hi lo2 hi2:.b}
def Dbl.fit(H:.lm)(f:.cW)(g:.e9):aX d (2*n) .dS:=by
 refine⟨by rw[ZB,f.len,g.len];lia,λx j=>(Z0.mp j).elim (f.op x) (g.op x),λi x e=>?_⟩;rw[H.st]at e;have h:=H.G.W.s
 by_cases c:i<n
 ·rw[ZC .a]at e
  rw[ZC (by rw[f.len];exact c)];exact f.st i x e
 ·rw[ZD .a]at e
  rw[ZD (by rw[f.len];lia),f.len];rw[h]at e;exact g.st _ x e
def Dbl.halves(H:.lm)(F:aX d (2*n) s):∃a b,s=a++b/\a=s.take n/\b=s.drop n/\aX w n a/\.bz b:=by
 have f:=H.G.W.s;have l:=F.len;refine⟨s.take n,s.drop n,(XC n s).symm,rfl,rfl,⟨by rw[WI];lia,λx c=>F.op x (XG c),λi x e=>?_⟩,⟨by rw[List.length_drop];lia,λx c=>F.op x (WD c),λi x e=>?_⟩⟩
 ·have hi:i<n:=by rw[<-f];exact (.bs).1
  rw[VB hi];refine F.st i x ?_;rw[H.st,ZC .a];exact e
 ·rw[VQ]
  refine F.st (n+i) x ?_;rw[H.st,ZD .a,f,UD];exact e
def mC{a c e:.b}(l:a.length=c.length)(h:a++b=c++e):a=c/\b=e:=List.append_inj h l
/---/def yM(d:Web)(n:Nat):List .aC:=(iM d.stays).filter (isR d<|2*n)
/---/def cx(w:Web)(n:Nat):List .aC:=(.dF).filter (isR w n)
/---/def cF(w:Web)(n:Nat):List .aC:=(.dF).filter .ia
def wD{n:Nat}{w:Web}{lo hi:.b}(G:.ae)(s:.b):s∈iM w.stays↔aX w n s:=Ag G.W rfl G.W.s G.S s
def mD{n:Nat}{w:Web}{lo hi:.b}(G:.ae):(.dF).Nodup:=by
 have:=Cw G.S w.stays.length .r;rw[XH]at this;exact this.imp λ{a b} h e=>h (by rw[e];exact LeS.refl _)
def fX(G:.ae)(s:.b):s∈cx w n↔aX w n s/\.ai s=s:=by
 unfold cx;rw[Y2,wD G];exact and_congr_right λ_=>by unfold isR;exact decide_eq_true_iff
def iZ(G:.ae)(s:.b):s∈cF w n↔aX w n s/\lexLt s .Z=true/\.ai .Z=s:=by
 unfold cF;rw[Y2,wD G];exact and_congr_right λ_=>by unfold isP;rw[YB,decide_eq_true_iff]
def Dbl.mem(H:.lm)(s:.b):s∈yM d n ↔ ∃a,s=a++ay w n a/\aX w n a/\.ai .ej=a:=by
 have f:∀{a},aX w n a->aX w n .ej:=λF=>dS H.G.W H.G.S F;unfold yM;rw[Y2,wD H.G2];constructor
 ·rintro⟨F,e⟩
  have e:ay d (2*n) s=s:=Y3 e;obtain⟨a,b,i,_,_,c,h⟩:=H.halves F;rw[i,H.tu a b c h]at e;obtain⟨j,g⟩:=mC (by rw[(f h).len,c.len]) e;exact⟨a,by rw[i,g],c,by rw[g,j]⟩
 ·rintro⟨a,rfl,c,e⟩
  exact⟨H.fit c (f c),ZZ (by rw[H.tu _ _ c (f c),e])⟩
def Dbl.told_nd(H:.lm):(yM d n).Nodup:=(mD H.G2).sublist W4
def sP{l:List α}(h:l.Nodup)(inj:∀a∈l,∀b∈l,f a=f b->a=b):(.dL).Nodup:=by
 rw[YL,YJ];exact(YL.mp h).imp_of_mem λ{a b} c g ne e=>ne (inj a c b g e)
def Dbl.count(H:.lm):(yM d n).length=(.bf).length+2*(.bQ).length:=by
 have i:∀{a},aX w n a->aX w n .ej:=λF=>dS H.G.W H.G.S F;have C:=fX H.G;have S:=iZ H.G;have q:(.bf).Nodup:=(mD H.G).sublist W4;have m:(.bQ).Nodup:=(mD H.G).sublist W4;have p:(yM d n).Perm ((.bf).map (λa=>a++a)++((.bQ).map (λa=>a++ay w n a)++(.bQ).map (λa=>ay w n a++a))):=by
  refine(W2 H.told_nd ?_).mpr λs=>?_
  ·rw[WL]
   refine⟨sP q λa f b g e=>(mC (by rw[((C a).mp f).1.len,((C b).mp g).1.len]) e).1,?_,λx r y h e=>?_⟩
   ·rw[WL]
    refine⟨sP m λa f b g e=>(mC (by rw[(.nI).1.len,(.fQ).1.len]) e).1,sP m λa f b g e=>(mC (by rw[(i (.nI).1).len,(i (.fQ).1).len]) e).2,λx r y h e=>?_⟩;obtain⟨a,f,rfl⟩:=z5.mp r;obtain⟨b,g,rfl⟩:=z5.mp h;obtain⟨k,o⟩:=mC (by rw[(.nI).1.len,(i (.fQ).1).len]) e;have v:=(.nI).2.1;have t:=(.fQ).2.1;rw[o,k]at v;rw[iS v]at t;cases t
   ·obtain⟨a,f,rfl⟩:=z5.mp r
    have j:=((C a).mp f).1;rcases Z0.mp h with h|h
    ·obtain⟨b,g,rfl⟩:=z5.mp h
     obtain⟨k,o⟩:=mC (by rw[j.len,(.fQ).1.len]) e;have l:=(.fQ).2.1;rw[<-k,<-show a=ay w n a from ((C a).mp f).2.symm,eO]at l;cases l
    ·obtain⟨b,g,rfl⟩:=z5.mp h
     obtain⟨k,o⟩:=mC (by rw[j.len,(i (.fQ).1).len]) e;have l:=(.fQ).2.1;rw[<-k,<-o,eO]at l;cases l
  ·rw[H.mem,Z0,Z0,z5,z5,z5]
   constructor
   ·rintro⟨a,rfl,j,e⟩
    by_cases c:.ai a=a
    ·exact .inl ⟨a,(C a).mpr ⟨j,c⟩,by rw[c]⟩
    ·cases u:lexLt a .ej with
     |true=>exact .inr (.inl ⟨a,(S a).mpr ⟨j,u,e⟩,rfl⟩)
     |false=>exact .inr (.inr ⟨.ai a,(S _).mpr ⟨i j,by rw[e];exact hZ (WQ c) u,by rw[e]⟩,by rw[e]⟩)
   ·rintro (⟨a,f,rfl⟩|⟨a,f,rfl⟩|⟨a,f,rfl⟩)
    ·obtain⟨F,e⟩:=(C a).mp f
     exact⟨a,by rw[e],F,by rw[e,e]⟩
    ·obtain⟨F,_,e⟩:=(S a).mp f
     exact⟨a,rfl,F,e⟩
    ·obtain⟨F,_,e⟩:=(S a).mp f
     exact⟨.ai a,by rw[e],i F,by rw[e]⟩
 rw[p.length_eq,ZB,ZB,ZA,ZA,ZA];lia
end
section
variable{n:Nat}{M:.av}{bs:.b}{ss:.y}{bk sk:Nat}{h:Hd}
/---/def clp(M:.av):Nat->Nat->Int:=λi j=>min 200 (M i j)
def QT(O:MOk M):MOk (clp M):=⟨λi j=>by unfold clp;rw[O.sym],λi j=>by have:=O.bd i j;unfold clp;lia,λi=>by unfold clp;rw[O.no];rfl⟩
def KZ{l:.b}{h:Hd}(b:h[k]?=some .mQ):bU .b8 .cN .B [] (ue .ig .f) .cN .bu h=.ok ((l.map<|min 200).map .int) h:=by
 have:=br (g:=some k) (all:=l.map D.int) (tg:=gN 0) (cs:=[]) (e:=ue .ig .f) (h:=h) (I:=λσ=>∃a,σ=[a]) .aM (λd=>match d with | .int i=>.int (min 200 i)|_=>.non) b
  (xs:=l.map D.int) (σ:=.bu) (by
  rintro x c σ ⟨a,rfl⟩;obtain⟨i,f,rfl⟩:=z5.mp c;refine⟨[some .cX],rfl,⟨_,rfl⟩,rfl,λ_=>?_⟩;refine(QB rfl rfl).trans ?_;show Res.ok (D.int _) h=.ok (.int<|min 200 i) h;congr 2;split<;>lia) ⟨_,rfl⟩
 rw[this,Z9.mpr .e,y3,y3];rfl
structure Cut(n R i:Nat)(M:.av)(bs:.b)(ss:.y)(bk sk:Nat)(h:Hd):Prop where
 len:h.length=R+i
 ti:h[0+n]?=some (.lst<|((.fs).map λk=>.ref (R+k))++(.yA).drop i)
 old:∀k,k<n->h[0+k]?=some (.lst<|(fN M n k).map .int)
 new:∀k,k<i->h[R+k]?=some (.lst<|(fN (clp M) n k).map .int)
 ba:h[bk]?=some .bA
 st:h[sk]?=some .df
def NK(r:f=.tup .se)(n30:n<=30)(lb:.aX)(hb:n<bk)(S:n<sk)(mt:jO 0 n M h)(ba:h[bk]?=some .bA)(st:.tv):
  ∃h' a,Ke .l3 h=.nx .vH h'/\KF h.length (0+n) n (clp M) h'/\h'[bk]?=some .bA/\h'[sk]?=some .df:=by
 obtain⟨R,o⟩:=q0 .cQ;have T:n<R:=by rw[o];have:=(zS.mp mt.ti).1;lia
 have Q:bk<R:=by rw[o];exact(zS.mp ba).1
 have U:sk<R:=by rw[o];exact(zS.mp st).1
 obtain⟨F,h',q,a,H,C⟩:=cI (P:=λi σ h'=>∃a,σ=.vH/\Cut n R i M bs ss bk sk h') (g:=none) (k:=0) (all:=(.k).map λk:Nat=>D.int k) .b0
  (xs:=(.k).map λk:Nat=>D.int k) (tg:=gN 2) (σ:=.l3) (h:=h) (b:=Kd) (by
  rintro i x σ m N ⟨a,rfl,C⟩;rw[YE]at C⊢;obtain⟨v,rfl⟩:=dG N;obtain⟨L,p⟩:=q0 (((.fs).map λk=>D.ref (R+k))++(.yA).drop i);have w:=C.ti;rw[<-p]at w;have I:L[i]?=some (.ref<|0+i):=by
   rw[p,ZD .e,ZA,ZO,Nat.sub_self,VQ,Nat.add_zero,ZQ,YA v];rfl
  have z:L.length=n:=by rw[p];simp;lia
  have E:∀m,fAt .d .H .u5 m=.ok (.ref<|0+n) m:=λm=>by rw[r];exact bn rfl rfl rfl rfl
  have s:=C.old i v;have K:bV (fAt .my .g) .u5 m=.ok ((.fN).map .int,some (0+i)) m:=cW (bn (E _) rfl (bc w)<|du I) s;have B:=KZ s;have y:(.fN).map (min 200)=fN (clp M) n i:=by unfold fN clp;rw[y3];rfl
  rw[y]at B;have G:aI .uR [some S0,some f,some .cX,none,none,none,none,none,none] m=.ok (.ref<|R+i) (m++[.lst .yj]):=gU C.len.symm (cM K B) (by rw[ZA];unfold fN;rw[ZA,ZO];unfold SZ;lia);have O:=r6 (i:=aa 2) G (E _) rfl (.j w) (k:=i) (j:=(i:Int)) (by rw[z];unfold ixN;rw[z4 .a,z4 .a,X9]);refine⟨_,rfl,_,_,O,some .cX,rfl,?_⟩;obtain⟨h1,d⟩:=q0 (m++[.lst .yj]:Hd);rw[<-d];have t:∀{j:Nat} {c:cv},j≠0+n->h1[j]?=some c->(h1.set (0+n)<|.lst<|L.set i<|.ref<|R+i)[j]?=some c:=λ{j c} ne e=>by rw[ZP (WQ ne)];exact e
  have A:h1.length=R+i+1:=by rw[d,ZB,C.len];rfl
  refine⟨by rw[WH,A];rfl,?_,λk u=>t .a (by rw[d];exact .j (C.old k u)),λk u=>?_,t .a (by rw[d];exact .j C.ba),t .a (by rw[d];exact .j C.st)⟩
  ·rw[Z1 (by rw[A];lia)]
   congr 2;apply YO;intro j;rw[p]
   by_cases e:j=i
   ·subst e
    rw[Z1 (by rw[<-p,z];exact v),ZC .e,ZQ,YA .a];rfl
   ·rw[ZP (WQ e)]
    by_cases l:j<i
    ·rw[ZC .mW,ZC .Q,ZQ,ZQ,YA l,YA .a]
    ·rw[ZD .Q,ZD .Q,VQ,VQ]
     congr 1;simp;lia
  ·by_cases e:k=i
   ·subst e
    exact t .a (by rw[d];exact ca C.len.symm _)
   ·exact t .a (by rw[d];exact .j (C.new k .a))) ⟨none,rfl,o.symm,by simpa using mt.ti,mt.ro,λk u=>absurd u .em,ba,st⟩
 have J:0+((.k).map λk:Nat=>D.int k).length=n:=by simp
 rw[J]at C;refine⟨h',a,?_,⟨by rw[<-o];exact C.new,?_⟩,C.ba,C.st⟩
 ·rw[<-H]
  have l:cT .mN .l3 h=.ok (.int (n:Nat)) h:=by
   have:=dI (cm (a:=fAt .d .u) (σ:=.l3) (h:=h) (h1:=h) (x:=.ref bk) (by rw[r];exact bn rfl rfl rfl rfl)<|bc ba);rw[ZA,lb]at this;exact this
  exact eW (dJ l .a) q
 ·rw[<-o]
  have:=C.ti;rw[List.drop_of_length_le .e,XD]at this;exact this
end
/---/def same(a b:Nat)(t:Tie):Bool:=(t.a == a&&t.b == b)||(t.a == b&&t.b == a)
def QU(hn:n<=30)(lt:.en)(un:T.Pairwise iq):T.length<=30*n:=by
 have i:(T.map λt=>n*t.a+t.b).Nodup:=by
  rw[YL,YJ];refine un.imp_of_mem λ{s t} d a u e=>?_;have f:=ZS .dj (lt s d).1;have c:∀m M:Nat,M<n->(n*m+M)/n=m:=λm M h=>by rw[Nat.mul_add_div f,Nat.div_eq_of_lt h];rfl
  have b:(n*s.a+s.b)/n=(n*t.a+t.b)/n:=congrArg (· / n) e;rw[c _ _ (lt s d).2,c _ _ (lt t a).2]at b;rw[b]at e;exact u.1 ⟨b,XT e⟩
 have l:=zQ i λx g=>by
  obtain⟨t,a,rfl⟩:=z5.mp g;exact Z5 (U0 (lt t a).2 _) (UA n (lt t a).1)
 rw[ZA]at l;exact ZM l (Nat.mul_le_mul_right n hn)
def HB(c:TOk n n 0 S)(b:.aR)(bs:.b)(ss:.y)(h:∀i,i<n->∀p,p∈nbs S i↔p∈nbs T i):aM n S bs ss=aM n T bs ss :=
 we bs ss λi a=>pR (jI c.un i) (jI b.un i) (h i a)
def CF(hn:n<=30)(O:.aR)(hi:i<n)(p:.cT):p∈nbs .fZ i↔p∈nbs T i:=by
 have:=(oN hn O).2 i hi;rw[<-dg,this,dg]
structure dj(n:Nat)(o:.i):Prop where
 len:o.length=n
 nd:o.Nodup
 lt:∀x∈o,x<n
noncomputable abbrev fo(o:.i)(p:Nat):Nat:=o.getD p 0
/---/def mvd(o:.i)(d:α)(l:List α):List α := (.gt o.length).map λi=>l.getD .iS d
section
variable{n:Nat}{o:.i}
def dj.f_eq(O:.E o)(hp:p<n):∃h:p<o.length,fo o p=o[p]:=⟨by rw[O.len];exact hp,by simp[fo,List.getD,O.len,hp]⟩
def dj.f_lt(O:.E o)(hp:p<n):fo o p<n:=by
 obtain⟨h,e⟩:=O.f_eq hp;rw[e];exact O.lt _ (YR h)
def dj.inj(O:.E o)(hp:p<n)(hq:q<n)(e:fo o p=fo o q):p=q:=by
 obtain⟨d,b⟩:=O.f_eq hp;obtain⟨c,a⟩:=O.f_eq hq;rw[b,a]at e;exact(List.getElem_inj O.nd).mp e
def dj.mem(O:.E o)(hi:i<n):i∈o:=by
 apply VV;intro h;have b:(i :: o).Nodup:=XI.mpr ⟨h,O.nd⟩;have:=zQ b (n:=n) (λx a=>by
  rcases y4.mp a with e|e
  ·rw[e];exact hi
  ·exact O.lt x e)
 simp[O.len]at this;lia
def dj.g_lt(O:.E o)(hi:i<n):o.idxOf i<n:=by
 have:=List.idxOf_lt_length_of_mem (O.mem hi);rw[O.len]at this;exact this
def dj.f_g(O:.E o)(hi:i<n):fo o .iS=i:=by
 obtain⟨h,e⟩:=O.f_eq (O.g_lt hi);rw[e];exact List.getElem_idxOf h
def dj.g_f(O:.E o)(hp:p<n):o.idxOf .i9=p:=O.inj (O.g_lt<|O.f_lt hp) hp (O.f_g<|O.f_lt hp)
variable{α β:Type}{d:α}
def eI(l:List α):(.k7).length=o.length:=by simp[mvd]
def tZ(O:.E o){l:List α}(b:.cx)(hp:p<n):.k7[fo o p]?=l[p]? := by
 have a:=O.f_lt hp;unfold mvd;rw[ZQ,YA (by rw[O.len];exact a)];dsimp[Y8,O.g_f hp];simp[List.getD,b,hp]
def kh(O:.E o){l:List α}(a:.cx)(hp:p<n):(.k7).getD .i9 d=l.getD p d:=by
 have:=tZ (d:=d) O a hp;generalize fo o p=q at this;dsimp[ZF,this]
def oQ(O:.E o){l m:List α}(b:.cx)(hm:m.length=n)(h:∀p,p<n->m[fo o p]?=l[p]?):m=mvd o d l:=by
 apply YO;intro i
 by_cases a:i<n
 ·have:=h _ (O.g_lt a)
  rw[O.f_g a]at this;have q:=tZ (d:=d) O b (O.g_lt a);rw[O.f_g a]at q;rw[this,q]
 ·rw[wZ .a,wZ .Ah]
def K2(O:.E o){l:List α}(a:.cx)(e:α->β)(d':β):(.k7).map e=mvd o d' (l.map e) :=
 oQ O (by simp[a]) (by rw[ZA,eI,O.len]) λp b=>by rw[ZQ,tZ O a b,ZQ]
def pW(O:.E o){l:List α}(c:.cx){x:α}(hx:x∈mvd o d l):x∈l:=by
 unfold mvd at hx;obtain⟨i,a,rfl⟩:=z5.mp hx;have a:i<n:=by have:=YD.mp a;rw[O.len]at this;exact this
 have b:=O.g_lt a;have:l.getD .iS d=l[o.idxOf i]' .a:=by simp[List.getD,c,b]
 rw[this];exact YR _
/---/def back(n:Nat)(o:.i):List Nat:=(.k).map λi=>o.idxOf i
def Aj(O:.E o)(hi:i<n):fo .eU i=o.idxOf i:=by simp[back,fo,List.getD,hi]
def uT(O:.E o):.E .eU:=by
 refine⟨by simp[back],?_,λx i=>?_⟩
 ·unfold back
  rw[YL,YJ];have:=List.nodup_range (n:=n);rw[YL]at this;refine this.imp_of_mem λ{a b} c f h e=>h ?_;have c:=YD.mp c;have f:=YD.mp f;rw[<-O.f_g c,<-O.f_g f,e]
 ·obtain⟨y,g,rfl⟩:=z5.mp i
  exact O.g_lt (YD.mp g)
def Ak(O:.E o){l:List α}(b:.cx):mvd .eU d .k7=l:=by
 symm
 refine oQ (uT O) .iy b λi a=>?_;rw[Aj O a];have:=tZ (d:=d) O b (O.g_lt a);rw[O.f_g a]at this;exact this.symm
end
/---/def ren(o:.i)(t:Tie):Tie:=⟨fo o t.a,fo o t.b,t.w⟩
section
variable{n:Nat}{o:.i}{T:.ah}
def NM(O:.E o)(lt:t.a<n/\t.b<n)(hi:i<n):far (fo o i) (ren o t)=(far i t).map (fo o):=by
 unfold far ren
 by_cases a:t.a=i
 ·rw[z4 (by rw[a]),z4 a];rfl
 ·rw[yD (λe=>a (O.inj lt.1 hi e)),yD a]
  by_cases b:t.b=i
  ·rw[z4 (by rw[b]),z4 b];rfl
  ·rw[yD (λe=>b (O.inj lt.2 hi e)),yD b];rfl
def uU(O:.E o)(lt:.en)(hi:i<n):nbs .eO (fo o i)=(.aN).map λp=>(fo o p.1,p.2):=by
 induction T with
 |nil=>rfl
 |cons t T a =>
  have a:=a λs b=>lt s (by simp[b]);unfold nbs at a⊢;rw[yP,X3,X3,NM O (lt t .e) hi,a];cases far i t<;>simp[ren]
def pX(hn:n<=30)(O:.E o)(d:.aR):TOk n n 0 .eO:=by
 have lt:∀t∈T.map (ren o),t.a<n/\t.b<n:=λt c=>by
  obtain⟨s,a,rfl⟩:=z5.mp c;exact⟨O.f_lt (.n6).1,O.f_lt (.n6).2⟩
 have g:(.eO).Pairwise iq:=by
  rw[YJ];refine d.un.imp_of_mem λ{s t} a c u=>?_;have f:=d.lt s a;have b:=d.lt t c;exact⟨λz=>u.1 ⟨O.inj f.1 b.1 z.1,O.inj f.2 b.2 z.2⟩,λz=>u.2 ⟨O.inj f.1 b.2 z.1,O.inj f.2 b.1 z.2⟩⟩
 refine⟨λt c=>?_,lt,λt c=>?_,λt c=>.inl (lt t c),g,QU hn lt g⟩
 ·obtain⟨s,a,rfl⟩:=z5.mp c
  exact λe=>d.ne s a (O.inj (.n6).1 (.n6).2 e)
 ·obtain⟨s,a,rfl⟩:=z5.mp c
  exact d.wt s a
def K4(hn:n<=30)(O:.E o)(a:.aR)(bs:.b)(ss:.y):aM n ((.fZ).map (ren o)) bs ss=aM n .eO bs ss :=
 HB (pX hn O (oN hn a).1) (pX hn O a) bs ss λi c p=>by
  have b:=O.g_lt c;have e:=O.f_g c;rw[<-e,uU O (oN hn a).1.lt b,uU O a.lt b,z5,z5];exact⟨λ⟨q,h,z⟩=>⟨q,(CF hn a b q).mp h,z⟩,λ⟨q,h,z⟩=>⟨q,(CF hn a b q).mpr h,z⟩⟩
def K5(O:.E o)(lt:.en):(.eO).map (ren .eU)=T:=by
 rw[y3]
 conv=>rhs;rw[<-List.map_id T]
 apply YK;intro t a;have l:=lt t a;dsimp[Function.comp,ren,Aj O (O.f_lt l.1),Aj O (O.f_lt l.2),O.g_f l.1,O.g_f l.2];rfl
theorem wE(O:.E o){s:.b}(a:.e6):∀{r:.as},(∀p∈r,p.1<n)->aU (r.map λp=>(fo o p.1,p.2)) .bP=aU r s
 |[],_=>rfl
 |p::r,h=>by
  rw[yP,cD,cD,wE O a (λq hq=>h q (by simp[hq]))];dsimp[kh O a (h p .e)]
/---/def dN(n:Nat)(o:.i)(T:.ah)(bs:.b)(ss:.y):Web:=aM n .eO .hc .g0
def K6(O:.E o)(lt:.en)(lb:.aX)(ls:.aQ)(a:.e6)(hp:p<n):
  cR .bB .bP .i9=cR .x s p:=by
 unfold dN;rw[vV (O.f_lt hp),vV hp,kh O ls hp,kh O lb hp,uU O lt hp,wE O a (λq b=>l4 lt q b),kh O a hp]
def K7(O:.E o)(lt:.en)(lb:.aX)(ls:.aQ)(b:.e6):
  ay .bB n .bP=.cd (ay .x n s):=by
 refine oQ O (by simp[ay]) (by simp[ay]) λp a=>?_;unfold ay;rw[ZQ,ZQ,YA (O.f_lt a),YA a];dsimp[Y8,K6 O lt lb ls b a]
def CG(O:.E o)(ls:.aQ)(F:aX .x n s):aX .bB n .bP:=by
 refine⟨by rw[eI,O.len],λx d=>F.op x (pW O F.len d),λi x e=>?_⟩;have e:.g0[i]?=some .b7:=e;have a:i<n:=by have:=(.bs).1;rw[eI,O.len]at this;exact this
 have c:=O.g_lt a;have b:=O.f_g a;rw[<-b,tZ O ls c]at e;rw[<-b,tZ O F.len c];exact F.st _ x e
end
noncomputable abbrev nN(o:.i):List D:=o.map λp:Nat=>D.int p
def d7{c:cv}(g:Hd)(e:h[j]?=some c):.N[j]?=some c:=by rw[ZC (.bs).1];exact e
/---/def Seq(x:D)(l:List D)(g:.gd)(h:Hd):Prop:=(x=.tup l/\g=none)\/∃k,x=.ref k/\g=some k/\h[k]?=some .b3
def Seq.more{g:.gd}(s:.jn)(k:Hd):Seq x l g (h++k):=by
 rcases s with s|⟨j,a,b,c⟩
 ·exact .inl s
 ·exact .inr ⟨j,a,b,d7 k c⟩
def Seq.held(s:.jn):held g l h:=by
 rcases s with ⟨_,rfl⟩|⟨j,_,rfl,c⟩
 ·trivial
 ·exact c
def Seq.zsrc(s:.jn):zsrc h x=some (l,g):=by
 rcases s with ⟨rfl,rfl⟩|⟨j,rfl,rfl,c⟩
 ·rfl
 ·simp[c]
def Seq.new(s:.jn)(z:l.length<=1000000)(σ:Sd):aI .ei (some x::σ) h=.bK .fI:=by
 rcases s with ⟨rfl,rfl⟩|⟨j,rfl,rfl,c⟩
 ·simp[SZ,z]
 ·simp[c,SZ,z]
def Seq.at'(s:.jn)(hi:i<l.length)(e:E σ h=.ok x h)(b:F σ h=.ok .z h):fAt E F σ h=.ok l[i] h:=by
 have a:atI l (i:Int)=some l[i]:=du .sO;rcases s with ⟨rfl,rfl⟩|⟨j,rfl,rfl,c⟩
 ·simp[e,b,a]
 ·simp[e,b,c,a]
section
variable{n:Nat}{o:.i}
def K8(O:.E o){c:List D}(b:.cx)(a:c.length=n)(hi:i<n)(h:∀p,p<i->c[fo o p]?=l[p]?):(.qv).length=n/\∀p,p<i+1->.qv[fo o p]?=l[p]? := by
 refine⟨by simp[a],λp d=>?_⟩
 by_cases e:p=i
 ·subst e
  rw[Z1 (by rw[a];exact O.f_lt hi)];simp[b,hi]
 ·rw[ZP (λz=>e (O.inj .a hi z.symm))]
  exact h p .a
def wF(O:.E o)(hn:n<=1000)(j:.cx)(s:.jn)(hok:.hB):gj [x,.ref ok] h=.bK (h++[.lst (mvd o .non l)]):=by
 have z:l.length<=1000000:=by lia
 have V:.ew (aI .ei) .xc h=.nx .jZ .fI:=by
  have k:=s.new z [some .a5,none,none,none];generalize aI .ei=E at k⊢;simp[k]
 obtain⟨m,f,q,c,t,u,J,C,lc,a⟩:=xQ (G:=λh=>held g l h/\held (some ok) .cj h) (P:=λi σ f=>∃(c:List D) (t u:.P),σ=[some x,some .dn,some .lC,t,u]/\f=h++[.lst c]/\c.length=n/\∀p,p<i->c[fo o p]?=l[p]?)
  (λi σ f ⟨c,_,_,_,e,_⟩=>by rw[e];exact⟨(s.more _).held,d7 _ hok⟩) (k:=0) (xs:=(l.zip .cj).map λp=>.tup .eZ) (tg:=gT [3,4]) (σ:=.jZ) (h:=h++[.lst l]) (b:=wg) (by
  rintro i d σ Z X ⟨c,t,u,rfl,rfl,lc,a⟩;rw[YE]at a⊢;obtain⟨v,hi2⟩:=zS.mp X;have r:i<n:=by simp[O.len]at v;lia
  obtain⟨K,W⟩:=O.f_eq r;have I:d=.tup [l[i]' .a,.int (fo o i:Nat)]:=by rw[<-hi2,W];simp
  subst I;obtain⟨N,T⟩:=K8 O j lc r a;have A:.sk[h.length]?=some (.lst c):=by simp
  have w:ixN c.length ((fo o i:Nat):Int)=some (fo o i):=by
   have:=O.f_lt r;unfold ixN;rw[lc];generalize fo o i=q at this⊢;simp[this]
  refine⟨_,rfl,[some x,some .a5,some .a4,some (l[i]' .a),some (.int (fo o i:Nat))],(.sk).set h.length (.lst .qv),?_,_,_,_,rfl,by simp,N,T⟩;show nn .g .D .h [some x,some .a5,some .a4,some (l[i]' .a),some (.int (fo o i:Nat))] .sk=_;generalize h++[cv.lst c]=H at A⊢;generalize fo o i=q at w⊢;generalize l[i]' .a=y;simp[A,w]) ⟨l,none,none,rfl,rfl,j,λp Y=>by lia⟩
 have L:0+((l.zip .cj).map λp=>D.tup .eZ).length=n:=by simp[j,O.len]
 rw[L]at a;have M:=oQ (d:=D.non) O j lc a;have Q:tJ .f .d .n5 wg .jZ .fI=.nx m f:=by
  have B:=(s.more [.lst l]).zsrc;have S:zsrc .fI .a5=some (nN o,some ok):=by
   have:=d7 [cv.lst l] hok;simp[this]
  have U:aa 0 .jZ .fI=.ok x .fI:=rfl;have F:aa 1 .jZ .fI=.ok .a5 .fI:=rfl;unfold tJ;rw[U];simp only;rw[F];simp only;rw[B,S];exact q
 have R:([x,D.ref ok].map some++List.replicate (5 - [x,D.ref ok].length) none:Sd)=.xc:=rfl;unfold gj bC runB;rw[z4 (show [x,D.ref ok].length=2 from rfl),R,bQ V,bQ Q,J,C,M];exact jr rfl
def K9(O:.E o)(a:.e6):mvd o .non .g8=(.bP).map D.int:=(K2 O a D.int .non).symm
def QV(O:.E o){s:.y}(a:.e6):mvd o .non (s.map aP)=(mvd o none s).map aP:=(K2 O a aP .non).symm
def HC(s:.b):pure? .G=true:=by dsimp[pure?,ao];exact ia λ_ _=>rfl
def wG(O:.E o)(hn:n<=1000)(a:.e6)(hok:.hB):aR [ao s,.ref ok] h=.ok (ao .bP) h:=by
 have m:=wF O hn (l:=s.map D.int) (g:=none) (by simp[a]) (.inl ⟨rfl,rfl⟩) hok;rw[K9 O a]at m;have b:aS .zL .rb h=.rt (ao .bP) .x6:=by
  have q:af gj .aw .rb h=.bK .x6:=by
   dsimp[ao]at m⊢;simp[m]
  generalize af gj .aw=E at q⊢;dsimp[ao]at q⊢;simp[q]
 have c:((.sg).map some++List.replicate (2 - (.sg).length) none:Sd)=.rb:=rfl;unfold aR bC runB;rw[z4 (show (.sg).length=2 from rfl),c,b];exact cw (HC _)
def Lc(O:.E o)(lt:.en)(ht:.tu)(hok:.hB):
  bU (some tk) .gO (gT [0,1,2]) [] (d9 .jP) .gO [none,none,none,some .a5] h=.ok ((.eO).map cH) h:=by
 have m:Seq .a5 .cj (some ok) h:=.inr ⟨ok,rfl,rfl,hok⟩;have:=br (g:=some tk) (all:=T.map cH) (tg:=gT [0,1,2]) (cs:=[]) (e:=d9 .jP) (h:=h) (I:=λσ=>∃a b c,σ=[a,b,c,some .a5]) .aM
  (λd=>match d with | .tup [.int i,.int j,x]=>.tup [.int (fo o i.toNat:Nat),.int (fo o j.toNat:Nat),x] | _=>.non) ht (xs:=T.map cH) (σ:=[none,none,none,some .dn]) (by
  rintro x B σ ⟨a,b,c,rfl⟩;obtain⟨t,l,rfl⟩:=z5.mp B;refine⟨[some (.int t.a),some (.int t.b),some (.int t.w),some .dn],rfl,⟨_,_,_,rfl⟩,rfl,λ_=>?_⟩;obtain⟨z,s⟩:=lt t l;obtain⟨q,q1⟩:=O.f_eq z;obtain⟨p,q2⟩:=O.f_eq s;have k:=m.at' (i:=t.a) (by simp;exact q) (E:=aa 3) (F:=aa 0) (σ:=.uH) rfl rfl;have f:=m.at' (i:=t.b) (by simp;exact p) (E:=aa 3) (F:=aa 1) (σ:=.uH) rfl rfl;have A:.cj[t.a]'(by simp;exact q)=.int (fo o t.a:Nat):=by rw[q1];simp
  have y:.cj[t.b]'(by simp;exact p)=.int (fo o t.b:Nat):=by rw[q2];simp
  rw[A]at k;rw[y]at f;generalize fAt .h .f=r at k⊢;generalize fAt .h .d=w at f⊢;show d9 (ab r<|ab w .bZ) [some (.int t.a),some (.int t.b),some (.int t.w),some .a5] h=.ok (.tup [.int (fo o t.a:Nat),.int (fo o t.b:Nat),.int t.w]) h;generalize fo o t.a=u at k⊢;generalize fo o t.b=v at f⊢;simp[k,f,SZ]) ⟨_,_,_,rfl⟩
 rw[this,Z9.mpr .e,y3,y3];congr 1
def wH(C:1<=n)(hn:n<=30)(O:.E o)(u:.aR){bs:.b}(lb:.aX)(ls:.aQ)(os:.bo)(hok:.hB):
  ff [(.x).enc,.ref ok] h=.ok (.bB).enc h:=by
 have W:=li hn u lb ls;obtain⟨w,v⟩:=q0 .x;rw[<-v]at W⊢;have Q:w.bars=bs:=by rw[v];rfl
 have R:w.stays=ss:=by rw[v];rfl
 obtain⟨S,B⟩:=q0 .fZ;have F:TOk n n 0 S:=by rw[B];exact(oN hn u).1
 obtain⟨f,i⟩:=q0 (h++[.lst (S.map cH)]:Hd);have P:=o4 hn u lb ls h;rw[<-v,<-B,<-i]at P;have K:f[h.length]?=some (.lst<|S.map cH):=by rw[i];simp
 have H:f[ok]?=some .fx:=by rw[i];exact d7 _ hok
 have c:=Lc O F.lt K H;have M:(.mu).length<=1000000:=by have:=F.len;simp;lia
 obtain⟨m,j⟩:=q0 (f++[.lst .mu]:Hd);have Z:.ew .vr [some w.enc,some .dn,none] h=.nx [some w.enc,some .dn,some (.ref f.length)] m:=by
  have k:bi 3 [1] (bV .iG) (gT [0,1,2]) [] (d9 .jP) .qE h=.ok .mu f:=by
   have q:bV .iG .qE h=.ok (S.map cH,some h.length) f:=by simp[P,K]
   generalize bV .iG=I at q⊢;dsimp[bi,q,aH];exact c
  generalize bi 3 [1] (bV .iG) (gT [0,1,2]) [] (d9 .jP)=E at k⊢;rw[j];generalize (S.map<|ren o).map cH=L at k M⊢;simp[k,SZ,M]
 have A:=wf W m;rw[Q]at A;obtain⟨s,d⟩:=q0 (m++[.lst .c6]:Hd);rw[<-d]at A;have N:s[ok]?=some (.lst .cj):=by rw[d,j];exact d7 _ (d7 _ H)
 have z:=wF O .a (x:=.ref m.length) (l:=bs.map D.int) (g:=some m.length) (by simp[lb]) (.inr ⟨_,rfl,rfl,by rw[d];simp⟩) N;rw[K9 O lb]at z;obtain⟨p,b⟩:=q0 (s++[.lst ((.hc).map .int)]:Hd);rw[<-b]at z;have y:=tO W p;rw[R]at y;obtain⟨r,a⟩:=q0 (p++[.lst .aD]:Hd);rw[<-a]at y;have U:r[ok]?=some (.lst .cj):=by rw[a,b];exact d7 _ (d7 _ N)
 have G:=wF O .a (x:=.ref p.length) (l:=ss.map aP) (g:=some p.length) (by simp[ls]) (.inr ⟨_,rfl,rfl,by rw[a];simp⟩) U;rw[QV O ls]at G;obtain⟨t,e⟩:=q0 (r++[.lst ((.g0).map aP)]:Hd);rw[<-e]at G;have J:=oK C hn (pX hn O F) (bs:=.cd bs) (ss:=mvd o none ss) .iy .iy (λx hx=>os x (pW O ls hx)) (h:=t) (tk:=f.length) (bk:=s.length) (sk:=r.length)
  (by rw[e,a,b,d];exact d7 _ (d7 _<|d7 _<|d7 _ (by rw[j];simp))) (by rw[e,a];exact d7 _ (d7 _ (by rw[b];simp))) (by rw[e];simp)
 rw[B,K4 hn O u]at J;have X:aS .t9 [some w.enc,some .a5,some (.ref f.length)] m=.rt (.bB).enc t:=by
  simp[D9 W,A,z,y,G,J,dN]
 have Y:((.r2).map some++List.replicate (3 - (.r2).length) none:Sd)=.qE:=rfl;unfold ff bC runB;rw[z4 (show (.r2).length=2 from rfl),Y,bQ Z,X];have V:t=h++[.lst (S.map cH),.lst .mu,.lst .c6,.lst ((.hc).map .int),.lst .aD,.lst ((.g0).map aP)]:=by rw[e,a,b,d,j,i];simp
 rw[V];exact cw (nO _)
end
def QW{x i:EF}(p:.tp)(q:.tf)(r:i σ h1=.ok .bS h2)(s:.oE)(t:l[j]?=some d)(z:l.length<=1000000):DJ x i σ h=.aG (h2.set n<|.lst<|l.eraseIdx j):=by
 have b:=(zS.mp t).1;have c:(0:Int)<=(j:Int)/\(j:Int)<(l.length:Int)/\l.length<=1000000:=⟨by lia,by lia,z⟩;dsimp[DJ,p,aH,q,r,s,z4 c,X9,t]
def HD(c:Int)(n1:1<=n)(hn:n<=30)(h:Hd):∃(o:.i) (g:Hd),lu [.int c,.int n] h=.ok .j9 .N/\.N[h.length+1]?=some .fx/\.E o:=by
 obtain⟨A,l⟩:=q0 .cQ;obtain⟨Q,H,q,o,f,c',y,T,C,z,F,E,lt⟩:=cI (g:=none) (all:=(.k).map λk:Nat=>D.int k) (P:=λi σ H=>∃(o f:.i) (c:Int) (y:.P),σ=[some (.int c),some .dp,some .cA,some (.ref<|A+1),y]/\H=h++[.lst (nN f),.lst .cj]/\o.length=i/\f.length=n-i/\(o++f).Nodup/\∀x∈o++f,x<n)
  (.b0) (k:=0) (xs:=(.k).map λk:Nat=>D.int k) (tg:=gN 4) (σ:=[some .eS,some .U,some .T,some (.ref<|A + 1),none]) (h:=h++[.lst (nN .k),.lst (nN [])]) (b:=wj) (by
  rintro i d σ p B ⟨o,f,c,y,rfl,s,z,F,E,lt⟩;rw[YE]at z F⊢;obtain⟨hi,rfl⟩:=dG B;have G:p[A]?=some (.lst<|nN f):=by rw[s];exact dQ l 0
  have Y:p[A+1]?=some .fx:=by rw[s];exact dQ l 1
  have M:(0:Int)<(f.length:Int):=by lia
  obtain⟨j,Z⟩:∃j:Nat,c%(f.length:Int)=j:=⟨(c%(f.length:Int)).toNat,by have:=VY c (show (f.length:Int)≠0 by lia);lia⟩;have N:j<f.length:=by have:=VA c M;lia
  have len:(nN f).length=f.length:=by simp
  have er:(nN f).eraseIdx j=nN (f.eraseIdx j):=by rw[WC,WC];simp[nN,List.map_take,List.map_drop]
  have C:p.set A (.lst<|(nN f).eraseIdx j)=h++[.lst .iq,.lst .cj]:=by rw[er,s];exact iQ l 0 _
  obtain⟨w,u⟩:=q0 (h++[.lst .iq,.lst .cj]:Hd);rw[<-u]at C;have W:(nN f)[j]?=some (.int (f[j]:Nat)):=by simp[N]
  have J:w[A+1]?=some .fx:=by rw[u];exact dQ l 1
  have L:(f.eraseIdx j).length=f.length-1:=by rw[List.length_eraseIdx,z4 N]
  have S:DJ .g (.a9 .f .ko) .h0 p=.ok (.int (f[j]:Nat)) w:=by
   have m:.a9 .f .ko .h0 p=.ok (.int (j:Nat)) p:=by
    have:=av (g:=de) (a:=aa 0) (σ:=.h0) (h:=p) rfl (dI<|cm (a:=aa 2) rfl<|bc G) (eC (by rw[len];exact M));rw[len,Z]at this;exact this
   rw[<-C];exact QW rfl G m G W .a
  have U:w.set (A+1) (.lst<|nN o++[.int (f[j]:Nat)])=h++[.lst .iq,.lst (nN<|o++[f[j]])]:=by
   rw[u];refine(iQ l 1 _).trans ?_;simp
  obtain⟨v,t⟩:=q0 (h++[.lst .iq,.lst (nN<|o++[f[j]])]:Hd);have R:(.cj).length<SZ:=by simp[SZ];lia
  have s1:gx .wZ .h0 p=.nx .h0 v:=by
   rw[t,<-U];exact fB (lW rfl Y S J R)
  have K:v[A]?=some (.lst .iq):=by rw[t];exact dQ l 0
  have X:aG .B .xT .h0 v=.nx [some (.int<|c/(((.iq).length:Int)+1)),some .U,some .T,some .m2,some .z] v :=
   aD (av rfl (.fe<|dI<|.cE<|bc K)<|kC .a (by rw[ZA,L];exact ya (b:=31) .a .c))
  have O:(o++[f[j]]++f.eraseIdx j).Perm (o++f):=by
   rw[ZU];refine List.Perm.append_left o ?_;rw[List.singleton_append];have:f=f.take j++f[j]::f.drop (j+1):=by rw[List.getElem_cons_drop,XC]
   have e:f.eraseIdx j=f.take j++f.drop (j+1):=WC ..;rw[e]
   conv=>rhs;rw[this]
   exact List.perm_middle.symm
  exact⟨_,rfl,_,_,sx s1 X,o++[f[j]],f.eraseIdx j,_,_,rfl,t,by simp[z],by rw[L];lia,O.nodup_iff.mpr E,λx B=>lt x (O.mem_iff.mp B)⟩) ⟨[],List.range n,c,none,rfl,rfl,rfl,by simp,by simpa using List.nodup_range,λx B=>by simpa using B⟩
 have V:0+((.k).map λk:Nat=>D.int k).length=n:=by simp
 rw[V]at z F;have I:f=[]:=by cases f with|nil=>rfl|cons _ _=>simp at F
 subst I;rw[XD]at E lt;refine⟨o,[.lst (nN []),.lst .cj],?_,dQ rfl 1,⟨z,E,lt⟩⟩;rw[<-l];have r:Mt .d .wS h=.ok ((.k).map λk:Nat=>D.int k) h:=by
  have c:(0:Int)<=(n:Int)/\(n:Int)<=1000:=by lia
  show (if (0:Int)<=(n:Int)/\(n:Int)<=1000 then _ else _)=_;rw[z4 c,X9]
 refine(bJ (σ:=.wS) rfl rfl (sx (aD<|gU l r (by rw[ZA,ZO];unfold SZ;lia)) (sx (aD<|gU (A:=A+1) (by rw[ZB,l];rfl) rfl .dj) (sx (eW (dJ rfl .a) (by rw[ZU];exact q)) (o:=.rt .m2 H) ?_)))).trans ?_
 ·rw[T];exact aL rfl
 ·rw[C];exact bW
def EA(l:.b):hX .cN=true:=ia λ_ _=>rfl
noncomputable abbrev NL(l:.i):List D:=l.map λk:Nat=>D.int k
structure Ch(w:Web)(n:Nat)(l:.i):Prop where
 up:l.Pairwise (· < ·)
 lt:∀p∈l,p<n
 no:∀p∈l,w.stays.getD p none≠some 0
/---/def fY(w:Web)(n:Nat)(l:.i):List Int:=(.k).map λi=>if i∈l\/.jC none=some 1 then 1 else 0
def NO(u:.aF)(h:Hd):oNe (aP u) (.int 0) h=.ok (.bl<|decide (u≠some 0)) h:=by
 cases u with
 |none=>rfl
 |some v =>
  show oNe .cp (.int 0) h=_;rw[zO]
  by_cases e:v=0
  ·rw[ZZ e,Z6 (λz=>z (by rw[e]))];rfl
  ·rw[Z6 e,ZZ (show (some v≠some (0:Int)) from λz=>e (ZT z))];rfl
def Ld(u:.aF)(h:Hd):oEq (aP u) (.int 1) h=.ok (.bl<|decide (u=some 1)) h:=by
 cases u with
 |none=>rfl
 |some v =>
  show oEq .cp (.int 1) h=_;rw[BR]
  by_cases e:v=1
  ·rw[ZZ e,ZZ (by rw[e])]
  ·rw[Z6 e,Z6 (λz=>e (ZT z))]
def OE{l:.i}(d:.hE)(i:Nat):oIn .sI .an h=.ok (.bl<|decide (i∈l)) h:=by
 have f:(.bC).all gL=true:=by
  rw[W8];intro x b;obtain⟨j,_,rfl⟩:=z5.mp b;rfl
 have a:((.bC).any λz=>eqF z .sI)=decide (i∈l):=by
  by_cases e:i∈l
  ·rw[ZZ e,UX]
   exact⟨.int (i:Nat),z5.mpr ⟨i,e,rfl⟩,by simp⟩
  ·rw[Z6 e,List.any_eq_false]
   intro x b z;obtain⟨j,c,rfl⟩:=z5.mp b;have z:((j:Int) == (i:Int))=true:=z;have:j=i:=by have:=eq_of_beq z;lia
   exact e (this▸c)
 dsimp[oIn,inL,jV,d,gL,f,Bool.and_self,WB,a]
section
variable{w:Web}{n:Nat}{l:.i}
def Sn(W:w.Ok n)(hp:p<n):atI .aq (p:Int)=some (aP .q5):=by
 have h:p<w.stays.length:=W.s.symm▸hp;rw[ZF,ZE h];exact du (by rw[ZQ,ZE h];rfl)
def HE(W:w.Ok n)(hp:p<n)(h:Hd):ke [w.enc,.int (p:Nat)] h=.a2 h:=by
 have m:aQ .Y h=.d8 h:=by rw[j8,W.t]
 have b:cr [.int (p:Nat),.int 0,.int ((n:Int)-1)] h=.a2 h:=by
  have:=io (p:Int) 0 ((n:Int)-1) h;rw[this,ZZ (show (0:Int)<=p by lia),ZZ (show (p:Int)<=(n:Int)-1 by lia)];rfl
 exact (.ab<|aL<|ar (.cC<|bK rfl<|.fe<|.W m) b).trans aZ
def HF(W:w.Ok n)(hp:p<n)(no:w.stays.getD p none≠some 0)(h:Hd):dw [w.enc,.int (p:Nat)] h=.a2 h:=by
 have s:f7 [w.enc,.int (p:Nat)] h=.ok (aP .q5) h:=(.ab<|aL<|bn .bb rfl rfl<|Sn W hp).trans aZ;exact (.ab<|aL<|nI<|nH (bm<|.O<|HE W hp h)<|bm<|av (.O s) rfl (by rw[NO,ZZ no])).trans aZ
def Le{α:Type}(l:List α):i9 .zG=some .rS:=by
 induction l with
 |nil=>rfl
 |cons x l a=>simp[i9,a]
def So{α:Type}(l:List α):(.rS).all id=true:=by simp
def NP(hm:m<=1000)(p:a σ h=.ok (.int<|(m:Int)-1) h):ce a σ h=.ok ((.gt<|m-1).map (λk:Nat=>D.int k),none) h:=by
 show Res.bind _ _=_;rw[p];show (if -1000000<=(m:Int)-1/\(m:Int)-1<=1000000 then Res.ok ((List.range ((m:Int)-1).toNat).map (λk:Nat=>D.int k),(none:.gd)) h else Res.bad)=_;rw[z4 ⟨by lia,by lia⟩,show ((m:Int)-1).toNat=m-1 by lia]
theorem CH:∀{m:Nat} {l:.i},l.Pairwise (· < ·)->(∀x∈l,x<m)->l.length<=m
 |m,[],_,_=>YZ _
 |0,x::l,_,h=>absurd (h x .e) .a
 |m+1,x::l,p,h=>by
  have c:=Z4.mp p;have:=CH (m:=m) (l:=l.map (· - 1)) (by
   rw[YJ];refine c.2.imp_of_mem λ{a b} f g q=>?_;have:=c.1 a f;have:=c.1 b g;lia) (λy e=>by
   obtain⟨z,d,rfl⟩:=z5.mp e;have:=h z .kZ;have:=c.1 z d;lia)
  simp at this⊢;lia
def Sq(C:.gl):l.length<=n:=CH C.up C.lt
def Al(W:w.Ok n)(n30:n<=30)(C:.gl)(c:.hE):fm .nk h=.a2 h:=by
 have q:bU .b8 .bC .B [] (af dw<|ab .d .F) .bC .rL h=.ok ((.bC).map λ_=>D.bl true) h:=by
  have:=br (g:=some k) (tg:=gN 0) (cs:=[]) (e:=af dw (ab .d .F)) (h:=h) (I:=λσ=>∃a,σ = [a,some w.enc]) .aM .nj c (xs:=NL l) (σ:=.rL) (by
   rintro x f σ ⟨a,rfl⟩;obtain⟨i,d,rfl⟩:=z5.mp f;exact⟨_,rfl,⟨_,rfl⟩,rfl,λ_=>ar .dw (HF W (C.lt i d) (C.no i d) h)⟩) ⟨_,rfl⟩
  rw[this,Z9.mpr .L]
 have p:bU none ((.qN).map λk:Nat=>D.int k) .B [] .vL ((.qN).map λk:Nat=>D.int k) [none,some .an] h=.ok (((.qN).map λk:Nat=>D.int k).map λ_=>D.bl true) h:=by
  have:=br (g:=none) (all:=(.yg).map λk:Nat=>D.int k) (tg:=gN 0) (cs:=[]) (e:=aq oLt .j8 (fAt .d<|.a3 .f .u)) (h:=h) (I:=λσ=>∃a,σ = [a,some .an]) .aM .nj trivial (xs:=(.yg).map λk:Nat=>D.int k) (σ:=[none,some .an]) (by
   rintro x f σ ⟨a,rfl⟩;obtain⟨i,d,rfl⟩:=z5.mp f;have d:=YD.mp d;have j:i<l.length:=by lia
   have m:i+1<l.length:=by lia
   have t:atI .bC (i:Int)=some (.int (l[i]:Nat)):=du (by rw[ZQ,ZE j];rfl);have r:atI .bC ((i:Int)+1)=some (.int (l[i+1]:Nat)):=by
    have:atI .bC ((i+1:Nat):Int)=some (.int (l[i+1]:Nat)):=du (by rw[ZQ,ZE m];rfl);exact this
   have lt:=Y9.mp C.up i (i+1) j m (YU _);exact⟨_,rfl,⟨_,rfl⟩,rfl,λ_=>av (.fh (bc c) t) (bn rfl .gz (bc c) r) (Qx .a)⟩) ⟨_,rfl⟩
  rw[this,Z9.mpr .L]
 have v:=Sq C;have s:sIf .kd .ea bT .eB h=.nx .eB h:=(dy<|.d1<|bm<|zM rfl c).trans rfl;have o:sIf .uK .ea bT .eB h=.nx .eB h:=(dy<|.d1<|bm<|(zN (cM (.cF c) q)<|Le _).trans (by rw[So])).trans rfl;have u:aq fM .dA .u .eB h=.ok (.int<|(l.length:Int)-1) h:=av (x:=.int (l.length:Nat)) ((dI<|.cE<|bc c).trans .iU) rfl rfl;exact (.ab<|(cz s).trans ((cz o).trans (aL<|(zN (cM (NP .a u) p)<|Le _).trans (by rw[So])))).trans aZ
def oR(W:w.Ok n)(S:bN w)(C:.gl):.bz .aO:=by
 refine⟨by simp[fY],λx b=>?_,λi x e=>?_⟩
 ·obtain⟨i,_,rfl⟩:=z5.mp b
  split
  ·exact .inr rfl
  ·exact .inl rfl
 ·have a:i<n:=by have:=(.bs).1;rwa[W.s]at this
  have g:.jC none=some x:=by rw[ZF,e];rfl
  have c:=S .b7 (ZK e);show ((.k).map _)[i]?=_;rw[ZQ,YA a];show some (if i∈l\/.jC none=some 1 then (1:Int) else 0)=_;rcases c with z|z|z
  ·cases z
  ·have z:=ZT z
   subst z;rw[yD];rintro (q|q)
   ·exact C.no i q g
   ·rw[g]at q;cases q
  ·have z:=ZT z
   subst z;rw[z4 (.inr g)]
def Lf{l:List D}(hx:x∈dZ l):∃(i:Nat) (d:D),l[i]?=some d/\x=.tup [.int (i:Nat),d]:=by
 unfold dZ at hx;obtain⟨p,c,rfl⟩:=z5.mp hx;obtain⟨k,a⟩:=UN c;rw[XY]at a;obtain⟨e,b⟩:=a;have:p.1=k:=by
  obtain⟨g,f⟩:=zS.mp e;simpa using f.symm
 exact⟨k,p.2,b,by rw[this]⟩
def Lg(ss:.y)(f:Nat->Option Int->D):(dZ .aD).map (λd=>match d with | .tup [.int i,_]=>f i.toNat (ss.getD i.toNat none)|_=>.non)=(.q1).map λi=>f i .eK:=by
 unfold dZ;rw[y3];apply YO;intro i
 by_cases a:i<ss.length
 ·rw[ZQ,ZQ,YA a]
  have:((List.range (.aD).length).zip .aD)[i]?=some (i,aP ss[i]):=by
   rw[XY];exact⟨YA .kt,by rw[ZQ,ZE a];rfl⟩
  rw[this];rfl
 ·rw[wZ .Q,wZ .Q]
def Lh(W:w.Ok n)(n30:n<=30)(C:.gl)(B:.hE):qH .nk h=.ok (ao .aO) h:=by
 obtain⟨A,y⟩:=q0 .cQ;have E:aK .Y h=.ok .cA .bO:=(.ab<|aL<|gU y .hd (by rw[ZA,W.s];exact ZM n30 .c)).trans bW;obtain⟨e,g⟩:=q0 (h++[.lst .aq]:Hd);rw[<-g]at E;have v:e[A]?=some (.lst .aq):=by rw[g];exact ca y _
 have t:e[k]?=some .pS:=by rw[g];exact .j B
 have c:=pE (G:=λH=>H[A]?=some .iK) (tg:=gT [0,1]) (cs:=[]) (I:=λσ=>∃a b,σ=[a,b,some .an]) .aM
  (λd=>match d with | .tup [.int i,_]=>(.vC) i.toNat (w.stays.getD i.toNat none)|_=>.non) v (xs:=dZ .aq) (σ:=[none,none,some .gn]) (by
   rintro x L σ ⟨a,b,rfl⟩;obtain⟨i,d,s,rfl⟩:=Lf L;have m:i<w.stays.length:=by have:=(zS.mp s).1;rwa[ZA]at this
   have hd':d=aP .mg:=by
    rw[ZQ,ZE m]at s;rw[ZF,ZE m];exact(ZT s).symm
   subst hd';refine⟨_,rfl,⟨_,_,rfl⟩,rfl,λ_=>?_⟩;show fIf .pJ .u .H .pE e=.ok (.int<|if ((i:Int)).toNat∈l\/w.stays.getD ((i:Int)).toNat none=some 1 then 1 else 0) e;rw[X9];have j:tE (aq oIn .f .g) .pE e=.ok (decide (i∈l)) e:=bm (.bp<|OE t i);have q:tE (.c5 .d .u) .pE e=.ok (decide (.jC none=some 1)) e:=bm (.bp<|Ld _ _)
   by_cases p:i∈l
   ·rw[ZZ p]at j
    rw[z4 (.inl p)];exact(sf<|zL j).trans rfl
   ·rw[Z6 p]at j
    by_cases o:.jC none=some 1
    ·rw[ZZ o]at q
     rw[z4 (.inr o)];exact(sf<|jd j q).trans rfl
    ·rw[Z6 o]at q
     rw[yD (λz=>z.elim p o)];exact(vP<|jd j q).trans rfl) ⟨_,_,rfl⟩
 rw[Z9.mpr .L,Lg w.stays .vC,W.s]at c;have J:fU 2 [1] .da .ax [] (fIf .pJ .u .H) .eB h=.ok ((.aO).map .int) e:=by
  have f:=ar (F:=aK) (r:=ab .f aj) (σ:=.eB) .cg E;unfold fU;rw[f];dsimp[v];refine c.trans ?_;unfold fY;rw[y3];rfl
 have K:sIf .Ae kO bT .eB h=.nx .eB h:=(dy<|.d1<|bm<|.O<|Al W n30 C B).trans rfl;refine (.ab<|(cz K).trans (aL<|gS J)).trans ?_;rw[g];exact cw (by dsimp[pure?];exact EA _)
end
def Lj{k:Nat}(a:1<=k):cut l .m5 none=l.drop (l.length-k):=by
 have e:.jG 0 .m5=l.length-k:=by
  show .uU=_;rw[z4 .a];lia
 unfold cut;rw[e];exact XB (by rw[List.length_drop];exact ZL _)
def HG{k:Nat}(a:1<=k):cut l none .m5=l.take (l.length-k):=by
 have e:.jG l.length .m5=l.length-k:=by
  show .uU=_;rw[z4 .a];lia
 unfold cut;rw[e];rfl
def CJ{h2 b:Hd}{i j:.aF}(p:.ln)(q:lo σ h1=.ok i h2)(r:hi σ h2=.ok j b)(s:b[n]?=some .b3):lM a lo hi σ h=.ok (.ref b.length) (b++[.lst .nQ]):=by
 dsimp[lM,p,aH,q,r,ev,s]
section
variable{w:Web}{n:Nat}{s:.b}
def wI(t j:Nat):(.et<|t+j).drop t=(.gt j).map λi=>.p s (t+i):=by
 unfold bA;apply YO;intro i;rw[VQ,ZQ,ZQ]
 by_cases a:i<j
 ·rw[YA .a,YA a];rfl
 ·rw[wZ .Q,wZ .Q];rfl
def EB(t j:Nat):(.et<|t+j).take t=bA w n s t:=by
 unfold bA;rw[<-List.map_take,List.take_range,Nat.min_eq_left (YF t j)]
/---/def NOT:D:=.str [110,111,116]
/---/def TRN:D:=.str .kc
/---/def CK(w:Web)(n:Nat)(s:.b)(t:Nat):D:=if hist w n s (t+1)=hist w n s t then (if (0:Int)∈hist w n s (t+1) then NOT else TRN) else NOT
/---/def Lk(w:Web)(n:Nat)(s:.b)(t:Nat):List .aC:=if hist w n s (t+1)=hist w n s t then (if (0:Int)∈hist w n s (t+1) then [.p s (t+1)] else bA w n s (t+1)) else [.p s t,.p s (t+1)]
def NQ(l:.b)(x:Int)(h:Hd):inL h .el (ao l)=some (decide (x∈l)):=by
 have f:(.cN).all gL=true:=by
  rw[W8];intro x d;obtain⟨j,_,rfl⟩:=z5.mp d;rfl
 have a:((.cN).any λz=>eqF z .el)=decide (x∈l):=by
  by_cases e:x∈l
  ·rw[ZZ e,UX]
   exact⟨.int x,z5.mpr ⟨x,e,rfl⟩,by simp⟩
  ·rw[Z6 e,List.any_eq_false]
   intro y c z;obtain⟨j,b,rfl⟩:=z5.mp c;have z:(j == x)=true:=z;exact e (eq_of_beq z▸b)
 dsimp[inL,ao,jV,gL,f,Bool.and_self,WB,a]
def QX(l:.b)(x:Int)(h:Hd):oIn .el (ao l) h=.ok (.bl<|decide (x∈l)) h:=by
 unfold oIn;rw[NQ]
def qX{l:.i}(W:w.Ok n)(n30:n<=30)(S:bN w)(C:.gl)(O:.hE)(v:.ge)(ht:.p .aO (t+2)=.p .aO t)(hm:∀k,k<t->hist w n .aO (k+2)≠hist w n .aO k)(hz:t<=900000):
  eL .nk h=.ok (.tup [CK w n .aO t,.ref (A+1)]) (h++[.lst .xW,.lst .zd]):=by
 have F:=oR W S C;obtain⟨s,N⟩:=q0 .aO;have K:=Lh W n30 C O;rw[<-N]at ht hm F K⊢;have m:=qA W S F ht hm hz h;rw[<-v]at m;obtain⟨b,i⟩:=q0 .ps
 rw[<-i]at m;obtain⟨c,f⟩:=q0 (h++[cv.lst .cJ]);rw[<-f]at m;have u:c[A]?=some (.lst .cJ):=by rw[f];exact ca v _
 have I:c.length=A+1:=by rw[f,ZB,v];rfl
 have J:(.cJ).length=t+2:=by rw[ZA,ju]
 have y:.ew .wN [some w.enc,some .an,none,none,none] h=.nx .we c:=aD (ar (bK rfl<|.O K) m);have p:aG .bR (fAt .g .u) .we c=.nx .vu c:=aD .bb;have x:aG .fR (fAt .g .K) .vu c=.nx .fn c:=aD .bb;have P:atI .cJ (-1)=some .zs:=kZ (t+1) 1 .c;have fin:∀(d:D) (L:List D),(c++[cv.lst L])=h++[.lst .cJ,.lst L]:=λd L=>by rw[f,ZU];rfl
 have B:∀{d:D} {g:Hd},letGo h (.ok .Au g)=.ok .Au g:=λ{d g}=>jr .ro;have G:∀{j:Nat} (E:1<=j) (σ:Sd) (e:aa 4 σ c=.ok .T c),lM .D (pAt .zK) pNo σ c=.ok .m2 (c++[.lst ((.cJ).drop (t+2-j))]):=λ{j} E σ e=>by
  have:=CJ (lo:=pAt .zK) (hi:=pNo) e rfl rfl u;rw[Lj E,J,I]at this;exact this
 by_cases q:.p s (t+1)=.p s t
 ·rw[z4 q]at i
  have H:sIf (tE .qm) .ud bT .fn c=.nx .fn c:=by
   rw[i];exact(dy .bc).trans rfl
  have o:tE .xS .fn c=.ok (decide ((0:Int)∈hist w n s (t+1))) c:=bm (av rfl (.fh (bc u) P)<|QX _ _ _)
  by_cases z:(0:Int)∈hist w n s (t+1)
  ·rw[ZZ z]at o
   have r:=G .r .fn rfl;rw[show t+2-1=t+1 from rfl,<-List.map_drop,show t+2=(t+1)+1 from rfl,wI]at r;unfold CK Lk;rw[z4 q,z4 z,z4 q,z4 z];refine (.ab<|(cz y).trans ((cz p).trans ((cz x).trans ((cz H).trans (vQ<|(nc o).trans .re))))).trans (B.trans ?_);rw[fin .non];rfl
  ·rw[Z6 z]at o
   have r:=CJ (a:=aa 4) (lo:=pNo) (hi:=pAt (fC<|.int (-((1:Nat):Int)))) (σ:=.fn) (h:=c) rfl rfl rfl u;rw[HG (ZL 1),J,I,<-List.map_take,show t+2-1=t+1 from rfl,show t+2=(t+1)+1 from rfl,EB]at r;unfold CK Lk;rw[z4 q,yD z,z4 q,yD z];refine (.ab<|(cz y).trans ((cz p).trans ((cz x).trans ((cz H).trans ((cz<|(dy o).trans rfl).trans .re))))).trans (B.trans ?_);rw[fin .non];rfl
 ·rw[yD q]at i
  have M:tE .qm .fn c=.ok true c:=by
   rw[i];exact bm .gz
  have r:=G (j:=2) .c .fn rfl;rw[show t+2-2=t from rfl,<-List.map_drop,wI]at r;unfold CK Lk;rw[yD q,yD q];refine (.ab<|(cz y).trans ((cz p).trans ((cz x).trans (vQ<|(nc M).trans .re)))).trans (B.trans ?_);rw[fin .non];rfl
end
structure vf(w:Web)(n:Nat)(s:.b)(b:Bool):Prop where
 go:∃t,t<=900000/\.p s (t+2)=hist w n s t/\(∀k,k<t->hist w n s (k+2)≠hist w n s k)/\CK w n s t=if b=true then TRN else NOT
/---/def kyL(l:.i):List Int:=l.map λk:Nat=>(k:Int)
theorem i0:∀l:List Nat,cC .bC=some .dP
 |[]=>rfl
 |x::l=>by
  show (cC .bC).map ((x:Int) :: ·)=_;rw[i0 l];rfl
def NR{a b:.i}(e:kyL a=kyL b):a=b:=by
 have:=congrArg (List.map Int.toNat) e;simpa[kyL,y3,Function.comp_def] using this
def EC(h:gw mm k=none):gw (mm++[(k,v)]) a=if a=k then some v else gw mm a:=by
 unfold gw at h⊢;rw[List.find?_append]
 by_cases c:a=k
 ·subst c
  have:mm.find? (λp=>decide (p.1=a))=none:=Option.map_eq_none_iff.mp h;rw[this];simp
 ·have:¬k=a:=λz=>c z.symm
  rw[yD c];simp[this]
def HH(h:gw mm k=none):vd mm k v=mm++[(k,v)]:=by
 unfold vd;rw[yD];intro z;obtain⟨p,b,e⟩:=UX.mp z;have a:mm.find? (λp=>decide (p.1=k))=none:=Option.map_eq_none_iff.mp h;exact List.find?_eq_none.mp a p b e
def yN(e:cC l=some k)(p:h[n]?=some .cm):qc .hn .eP h=.ok (.bl<|!(gw mm k).isSome) h:=by
 dsimp[qc,e,p]
def NS{x i e:EF}(p:e σ h=.ok v h1)(q:.tm)(r:i σ h2=.ok .hn a)(c:cC l=some k)(g:a[n]?=some .cm)(z:mm.length<SZ):EZ x i e σ h=.nx σ (a.set n<|.dcT<|vd mm k v):=by
 dsimp[EZ,outE,p,q,r,c,g,z4 z]
def F6{a b:EF}(p:.ln)(q:b σ h1=.ok .hn h2)(c:cC l=some k)(g:h2[n]?=some .cm)(z:gw mm k=some v):Ik a b σ h=.ok v h2 :=
 av p q (by dsimp[Ij,c,g,z])
/---/def Kn(b:Bool)(l:.i)(mm mm':.cV):Prop:=mm'=mm\/gw mm .dP=none/\mm'=mm++[(kyL l,.bl b)]
def ED{l:.i}{b:Bool}(W:w.Ok n)(n30:n<=30)(S:bN w)(C:.gl)(o:.hE)(hd:h[d]?=some .cm)(hz:mm.length<1000)(F:.zo=true)(E:vf w n .aO b)(a:gw mm .dP=none\/gw mm .dP=some .dJ):
  ∃j,gp [w.enc,.ref k,.ref d] h=.ok .dJ (h.set d<|.dcT j)/\Kn b l mm j:=by
 have m:d<h.length:=(.n2).1;rcases a with a|a
 ·obtain⟨t,v,B,G,u⟩:=E.go
  have r:=qX W n30 S C o rfl B G v;obtain⟨g,y⟩:=q0 ([.lst .xW,.lst .zd]:Hd);rw[<-y]at r;have q:.N[d]?=some (.dcT mm):=.j hd;have A:oEq (CK w n .aO t) (.str .kc) .N=.ok (.bl b) .N:=by
   rw[u];cases b<;>rfl
  have x:(.N).set d .xV=h.set d .xV++g:=UT _ _ m;refine⟨mm++[(kyL l,.bl b)],?_,.inr ⟨a,rfl⟩⟩;refine XM (bJ (σ:=.wK) rfl rfl<|sx .yS<|sx (XM (nc .v7)<|XM (NS (av (bn (.O r) rfl rfl rfl) rfl A) rfl rfl (i0 l) q<|YC hz .c) (by rw[HH a,x]))<|aL<|F6 rfl rfl (i0 l) (.j<|Z1 m) (by rw[EC a,z4 rfl])) ?_;refine GX rfl .e λi c s f=>?_;rw[ZC (by simpa using s)]at f
  by_cases e:d=i
  ·subst e
   rw[Z1 m]at f;cases f;exact .inr (by simp[u5,F,pure?])
  ·rw[ZP e]at f
   exact .inl f
 ·refine⟨mm,?_,.inl rfl⟩
  have z:h.set d .cm=h:=by
   apply YO;intro i
   by_cases e:d=i
   ·subst e;rw[Z1 m,hd]
   ·rw[ZP e]
  rw[z];exact XM (bJ (σ:=.wK) rfl rfl<|sx .yS<|sx (dy .v7)<|aL<|F6 rfl rfl (i0 l) hd a) aZ
noncomputable abbrev rf(Z:.hK):List D:=Z.map λz=>D.ref z.1
noncomputable abbrev LZ(h:Hd)(Z:.hK):Prop:=∀z∈Z,h[z.1]?=some (.lst<|NL z.2)
def LZ.more(z:LZ h Z)(g:Hd):LZ .N Z:=λx a=>aC g (z x a)
def EE(b:.lx)(t:.ts)(a:e σ' h=.aG h1)(r:bU g all tg [] e xs σ' h1=.ok ds h2):bU g all tg [] e .cR σ h=.ok (d::ds) h2:=by
 simp[bU,b,t,jW,a,r]
def uV(v:.i)(p:Nat):NL v++[.int (p:Nat)]=NL (v++[p]):=by simp
theorem Sr{L p:Nat}:∀{Z:.hK} {h:Hd} {a:.P},h[L]?=some (.lst all)->LZ h Z->(∀z∈Z,z.2.length<=30)->
  ∃d g,bU (some L) all .B [] (aI (fJ .f (aI .cf))) .dQ [a,some .jQ] h=.ok (rf d) .N/\LZ .N d/\d.map (·.2)=(Z.map (·.2)).map (· ++ [p])
 |[],h,a,hL,_,_=>⟨[],[],(by simp[bU,held,hL]),(λz hz=>nomatch hz),rfl⟩
 |(b,v)::Z,h,a,hL,hz,e=>by
  have hb:h[b]?=some .nb:=hz (b,v) .eL;have k:v.length<=30:=e (b,v) .eL;have i:aI .cf .q4 h=.bK (h++[.lst [.int (p:Nat)]]):=bS .cg .g9;have f:aI (fJ .f<|aI .cf) .q4 h=.ok (.ref (.xQ).length) (h++[.lst [.int (p:Nat)]]++[.lst .kT]):=by
   refine XM (bS (oP rfl i (.j hb) ZG .eF) .eF) ?_;rw[uV]
  obtain⟨d,g,q1,q2,q3⟩:=Sr (p:=p) (all:=all) (Z:=Z) (h:=h++[.lst [.int (p:Nat)]]++[.lst .kT]) (a:=some (.ref b)) (.j<|.j hL) (LZ.more (LZ.more (λz c=>hz z (.tail _ c)) _) _) (λz c=>e z (.tail _ c));refine⟨((.xQ).length,v++[p])::d,[.lst [.int (p:Nat)],.lst .kT]++g,?_,?_,?_⟩
  ·refine XM (EE (σ':=.q4) hL rfl f q1) ?_
   simp
  ·have j:h++([.lst [.int (p:Nat)],.lst .kT]++g)=h++[.lst [.int (p:Nat)]]++[.lst .kT]++g:=by simp
   rw[j];intro z c;rcases y4.mp c with rfl|c
   ·exact .j ZG
   ·exact q2 z c
  ·simp[q3]
/---/def pZ(l:.i):List (List Nat):=l.foldl (λacc p=>acc++acc.map (· ++ [p])) [[]]
def yO(l:.i)(p:Nat):pZ (l++[p])=pZ l++(pZ l).map (· ++ [p]):=by simp[pZ]
def wJ(l:.i):∀k,k=l.length->(pZ l).length=2^k:=by
 intro k
 induction k generalizing l with
 |zero=>intro h;rw[WX.mp h.symm];rfl
 |succ k a =>
  intro h;have:l≠[]:=λz=>by rw[z]at h;cases h
  rw[<-List.dropLast_concat_getLast this,yO,ZB,ZA,a l.dropLast (by rw[List.length_dropLast];lia),Nat.pow_succ];lia
theorem F7{h:Hd}:∀{Z:.hK},LZ h Z->Bo h .dQ=some .qn
 |[],_=>rfl
 |(b,v)::Z,hz=>by
  have hb:h[b]?=some .nb:=hz (b,v) .eL;have e:Bn h .fT=some (v.length:Int):=by simp[Bn,hb]
  show (match Bn h (.ref b),Bo h .dQ with|some k,some c=>some (k::c)|_,_=>none)=_;rw[e,F7 λz a=>hz z .hN];rfl
def NT(Z:.hK):(.fd<|(.qn).zip .dQ).map (·.2)=rf .pH:=by
 have:(.qn).zip .dQ=Z.map λz=>((z.2.length:Int),D.ref z.1):=by
  rw[List.zip_map']
 rw[this,Ts.byK_map (λz:Nat × List Nat=>((z.2.length:Int),D.ref z.1)) .zi (·.1) .iZ,y3];rfl
/---/def TZ(f:Nat)(fr:.i)(h:Hd)(i:Nat)(σ:Sd)(h':Hd):Prop:=∃L g Z y,σ=.zh/\h'=h++g/\h'[L]?=some .nY/\LZ h' Z/\Z.map (·.2)=pZ (fr.take i)/\∀z∈Z,z.2.length<=i
def CL{fr:.i}(w:h[f]?=some (.lst<|NL fr))(A:fr.length<=9):
  ∃g K Z,jL [.ref f] h=.ok (.ref K) .N/\.N[K]?=some .nY/\LZ .N Z/\Z.map (·.2)=Ts.byK (λv:List Nat=>(v.length:Int)) (pZ fr):=by
 obtain⟨_,_,F,L,g,Z,y,rfl,rfl,n,j,e,o⟩:=cI (P:=TZ f fr h) (g:=some f) (k:=0) (all:=NL fr) (λ_ _ _ p=>by obtain⟨_,_,_,_,_,rfl,_⟩:=p;exact .j w) (xs:=NL fr) (tg:=gN 2) (σ:=[some (.ref f),some (.ref<|h.length + 1),none]) (h:=h++[.lst [],.lst [.ref h.length]]) (b:=tP) (by
   rintro i x _ _ q ⟨L,g,Z,y,rfl,rfl,n,j,e,o⟩;have r:i<fr.length:=by have:=(zS.mp q).1;rwa[ZA]at this
   rw[ZQ,ZE r]at q;cases q;rw[YE]at e o⊢;obtain⟨d,m,q1,q2,q3⟩:=Sr (p:=fr[i]) (a:=none) n j (λz c=>ZM (o z c) .a);have M:Z.length<=512:=by
    have:=.eu e;rw[ZA,wJ _ i .Q]at this;rw[this];exact VF .c (show i<=9 by lia)
   have J:d.length=Z.length:=by have:=.eu q3;simpa using this
   have H:aI .pF [some .aE,some .k5,some (.int (fr[i]:Nat))] .N=.ok (.ref (h++g++m).length) (h++g++m++[.lst (rf d)]):=bS (cM (.cF n) q1) .eF;have B:aI (fJ .d<|aI .pF) [some .aE,some .k5,some (.int (fr[i]:Nat))] .N=.ok (.ref (.yo).length) .pN:=bS (oP rfl H (.j<|.j n) ZG .eF) .eF;refine⟨_,rfl,_,_,aD B,?_⟩;have N:h++g++m++[.lst (rf d)]++[.lst (rf Z++rf d)]=h++(g++(m++([.lst (rf d)]++[.lst (rf Z++rf d)]))):=by simp
   have t:.pN[(.yo).length]?=some (.lst<|rf<|Z++d):=by rw[ZG,show rf (Z++d)=rf Z++rf d from ZR]
   have s:LZ .pN (Z++d):=λz c=>by
    rcases Z0.mp c with c|c
    ·exact .j (.j<|.j<|j z c)
    ·exact .j (.j<|q2 z c)
   rw[N]at t s⊢;refine⟨_,_,Z++d,_,rfl,rfl,t,s,?_,λz c=>?_⟩
   ·rw[ZR,q3,e,V3 r,yO]
   ·rcases Z0.mp c with c|c
    ·exact V2 (o z c)
    ·have:z.2∈d.map (·.2):=z5.mpr ⟨z,c,rfl⟩
     rw[q3,y3]at this;obtain⟨D,I,C⟩:=z5.mp this;have:=o D I;rw[<-C];simp;lia) ⟨_,_,[(h.length,[])],_,rfl,rfl,by simp,λz j=>by
    rw[yS.mp j];simp,rfl,λz j=>by rw[yS.mp j];exact ZL _⟩
 rw[YE,ZA,XH]at e;have M:Z.length<=512:=by
  have:=.eu e;rw[ZA,wJ _ _ rfl]at this;rw[this];exact VF .c A
 have G:nA .d .zh .N=.ok (rf .pH) .N:=by
  unfold nA;have E:ev .N .k5=some .dQ:=by simp[ev,n]
  show (match ev .N (.ref L) with|some l=>_|none=>_)=_;rw[E];dsimp[F7 j];rw[z4 .Q,NT]
 have u:=Ts.byK_perm (λz:Nat × List Nat=>(z.2.length:Int)) Z;refine⟨g++[.lst (rf .pH)],(.N).length,Ts.byK (λz:Nat × List Nat=>(z.2.length:Int)) Z,?_,?_,?_,?_⟩
 ·have b:aI (ab .bE aj) [some .aE,none,none] h=.ok .j9 (h++[.lst [],.lst [.ref h.length]]):=by
   refine XM (bS (.cD<|bS rfl .c) .g9) ?_;simp
  refine XM (bJ (σ:=[some .aE,none,none]) rfl rfl<|sx (aD b)<|sx (eW (.cF<|.j w) F)<|aL<|bS G (by rw[ZA,u.length_eq];simp[SZ];lia)) (bW.trans ?_);rw[ZU]
 ·rw[<-ZU];exact ZG
 ·rw[<-ZU]
  exact LZ.more (λz c=>j z (u.mem_iff.mp c)) _
 ·rw[<-e,Ts.byK_map (λz:Nat × List Nat=>z.2) .zi (λv:List Nat=>(v.length:Int)) .iZ]
theorem EG(A B:Nat->List .aT)(f s:.ep):∀n,S2 (λk=>A k++B k) f s n=S2 A f s n+S2 B f s n
 |0=>rfl
 |k+1=>by
  dsimp[S2,EG A B f s k,ZR,List.sum_append];lia
theorem EH(f s:.ep):∀n,S2 (λ_=>[]) f s n=0
 |0=>rfl
 |k+1=>by simp[S2,EH f s k]
def Ss{l m:.b}(p:l.Perm m):l.sum=m.sum:=by
 induction p with
 |nil=>rfl
 |cons x _ c=>simp[c]
 |swap x y l=>simp;lia
 |trans _ _ a b=>exact a.trans b
theorem F8{A B:Nat->List .aT}(f s:.ep):∀n,(∀i,i<n->(A i).Perm (B i))->S2 A f s n=S2 B f s n
 |0,_=>rfl
 |k+1,h=>by
  have p:=Ss ((h k<|YU k).map λp:Nat × Int=>p.2*f p.1*s k);dsimp[S2,F8 f s k λi a=>h i (Z2 a),p]
/---/def Am(t:Tie)(i:Nat):List .aT:=match far i t with|some j=>[(j,t.w)] | none=>[]
def Su(t:Tie):Am t t.a=[(t.b,t.w)]:=by simp[Am,far]
def Sv(h:t.a≠t.b):Am t t.b=[(t.a,t.w)]:=by simp[Am,far,h]
def Sw(h1:t.a≠i)(h2:t.b≠i):Am t i=[]:=by simp[Am,far,h1,h2]
theorem EI(t:Tie)(d:t.a≠t.b)(f s:.ep):∀n,S2 (Am t) f s n=(if t.a<n then t.w*f t.b*s t.a else 0)+(if t.b<n then t.w*f t.a*s t.b else 0)
 |0=>rfl
 |k+1=>by
  dsimp[S2,EI t d f s k]
  by_cases a:t.a=k
  ·subst a
   rw[Su];have h1:¬t.a<t.a:=YI _
   by_cases b:t.b<t.a
   ·simp[b,Z2 b];lia
   ·have:¬t.b<t.a+1:=by lia
    simp[b,this]
  ·by_cases b:t.b=k
   ·subst b
    rw[Sv d]
    by_cases c:t.a<t.b
    ·simp[c,Z2 c]
    ·have:¬t.a<t.b+1:=by lia
     simp[c,this]
   ·rw[Sw a b]
    have h1:t.a<k+1↔t.a<k:=by lia
    have e:t.b<k+1↔t.b<k:=by lia
    simp[h1,e]
theorem Lm{n:Nat}(f s:.ep):∀T:List Tie,(∀t∈T,t.a≠t.b)->(∀t∈T,t.a<n/\t.b<n)->S2 (nbs T) f s n=S2 (nbs T) s f n
 |[],_,_=>by
  have:nbs []=λ_=>[]:=by funext i;rfl
  rw[this,EH,EH]
 |t::T,h,l=>by
  have e:nbs (t::T)=λk=>Am t k++nbs T k:=by
   funext i;unfold nbs Am;rw[X3];cases far i t<;>rfl
  obtain⟨d,c⟩:=l t .fc;rw[e,EG,EG,Lm f s T (λb a=>h b .hN) (λb a=>l b .hN),EI t (h t .fc),EI t (h t .fc),z4 d,z4 c,z4 d,z4 c];rw[Int.mul_right_comm t.w (f t.b),Int.mul_right_comm t.w (f t.a)];lia
theorem Sz(x:.cT):∀r,(pM x r).Perm (x::r)
 |[]=>.refl _
 |y::r=>by
  unfold pM;split
  ·exact .refl _
  ·exact((Sz x r).cons y).trans .sT
theorem OG:∀r,(bZ r).Perm r
 |[]=>.refl _
 |x::r=>(Sz x _).trans ((OG r).cons x)
def NU(O:.aR)(bs:.b)(ss:.y)(f s:.ep):S2 .qH f s n=S2 .qH s f n:=by
 have c:∀f s,S2 .qH f s n=S2 (nbs T) f s n:=λf s=>F8 f s n λi a=>by
  have e:(.x).ties.getD i []=bZ .aN:=by simp[aM,List.getD,a]
  rw[e];exact OG _
 rw[c,c,Lm f s T O.ne O.lt]
theorem php:∀(N t:Nat) (f:Nat->Nat),(∀i,i<=t->f i<N)->(∀i j,i<j->j<=t->f i≠f j)->t+1<=N
 |0,t,f,h,_=>by have:=h 0 .dj;lia
 |N+1,0,f,_,_=>by lia
 |N+1,t+1,f,h,d=>by
  have k:=h (t + 1) .r;have:=php N t (λi=>if f i < f (t + 1) then f i else f i - 1) (λi e=>by
   have c:=h i .a;have b:=d i (t+1) .a .r;split<;>lia) (λi j a g=>by
   have c:=d i j a .a;have b:=d i (t+1) .a .r;have l:=d j (t+1) .a .r;split<;>split<;>lia)
  lia
noncomputable def xz:List Int->Nat
 |[]=>0
 |x::xs=>2*xz xs+x.toNat
theorem F9:∀xs:List Int,(∀x∈xs,x=0\/x=1)->xz xs<2^xs.length
 |[],_=>by decide
 |x::xs,h=>by
  have b:=F9 xs λy a=>h y .hN;rw[YT,Nat.pow_succ];show 2*xz xs+x.toNat<_;rcases h x .fc with e|e<;>subst e<;>simp<;>lia
theorem CM:∀xs ys:List Int,xs.length=ys.length->(∀x∈xs,x=0\/x=1)->(∀x∈ys,x=0\/x=1)->xz xs=xz ys->xs=ys
 |[],[],_,_,_,_=>rfl
 |[],_::_,h,_,_,_=>by simp at h
 |_::_,[],h,_,_,_=>by simp at h
 |x::xs,y::ys,h,b,f,c=>by
  have c:2*xz xs+x.toNat=2*xz ys+y.toNat:=c;have e:x=y/\xz xs=xz ys:=by
   rcases b x .fc with e|e<;>rcases f y .fc with d|d<;>subst e d<;>simp at c⊢<;>lia
  rw[e.1,CM xs ys .fD (λz a=>b z .hN) (λz a=>f z .hN) e.2]
structure Go(w:Web)(n:Nat):Prop where
 W:w.Ok n
 n6:n<=6
 S:bN w
 more:qz w w n
 sym:∀f s,S2 .hY f s n=S2 .hY s f n
def Go.n8(G:Go w n):n<=8:=ZM G.n6 .c
def Go.n30(G:Go w n):n<=30:=ZM G.n8 .c
structure CN(w:Web)(n:Nat)(s:.b)(t:Nat):Prop where
 ht:.p s (t+2)=.p s t
 hm:∀k,k<t->hist w n s (k+2)≠hist w n s k
 hz:t<=900000
def Go.fin(G:Go w n)(F:.S):∃t,CN w n s t:=by
 obtain⟨t,g,c⟩:=TQ G.W G.S F G.sym;have:=php 256 t (λi=>xz .kO) (λi _=>by
  have a:=F9 .kO (.lR i).op;rw[(.lR i).len]at a;exact Z5 a (VF .c G.n8)) (λi j f l e=>by
  have d:=.lR i;have b:=.lR j;have q:=CM _ _ (by rw[d.len,b.len]) d.op b.op e;have p:=Ox G.W G.S F G.sym (c i .a);have h:=Oy G.W G.S F G.sym (k:=i+1) (m:=j) .a;have o:eN w n s i=eN w n s j:=by
   unfold eN;show ip w .kO (.ai .kO) n=ip w (.fg j) (.ai<|.fg j) n;rw[q]
  lia)
 exact⟨t,g,c,by lia⟩
structure OH(w:Web)(n:Nat)(s:.b)(t:Nat):Prop where
 re:.p s (t+1)=.p s t
 no:(0:Int)∉hist w n s (t+1)
section
variable{w:Web}{n:Nat}{s s':.b}{t t':Nat}
def CN.one(a:CN w n s t)(b:CN w n s t'):t=t':=by
 rcases Nat.lt_trichotomy t t' with c|c|c
 ·exact absurd a.ht (b.hm t c)
 ·exact c
 ·exact absurd b.ht (a.hm t' c)
open Classical in
/---/def tb(w:Web)(n:Nat)(l:.i):Bool:=decide (∃t,CN w n .aO t/\OH w n .aO t)
def CO{l:.i}(E:CN w n .aO t):tb w n l=true↔OH w n .aO t:=by
 unfold tb;exact(@decide_eq_true_iff _<|Classical.propDecidable _).trans ⟨λ⟨t',a,T⟩=>E.one a▸T,λT=>⟨t,E,T⟩⟩
def SA{l:.i}(E:CN w n .aO t):CK w n .aO t=if tb w n l=true then TRN else NOT:=by
 unfold CK
 by_cases c:.p .aO (t+1)=.p .aO t
 ·rw[z4 c]
  by_cases z:(0:Int)∈hist w n .aO (t+1)
  ·rw[z4 z,yD λq=>((CO E).mp q).no z]
  ·rw[yD z,z4 ((CO E).mpr ⟨c,z⟩)]
 ·rw[yD c,yD λq=>c ((CO E).mp q).re]
def NV(G:Go w n){l:.i}(C:.gl):vf w n .aO .k9:=by
 obtain⟨t,E⟩:=G.fin (oR G.W G.S C);exact⟨t,E.hz,E.ht,E.hm,SA E⟩
def Ln(G:Go w n){l:.i}(C:.gl)(a:.hE):∃L g,eL .nk h=.ok (.tup [if tb w n l=true then TRN else NOT,L]) .N:=by
 obtain⟨t,E⟩:=G.fin (oR G.W G.S C);have:=qX G.W G.n30 G.S C a rfl E.ht E.hm E.hz;rw[SA E]at this;exact⟨_,_,this⟩
end
theorem CP:∀(l:.i) (acc:List (List Nat)) (v:.i),v∈l.foldl (λacc p=>acc++acc.map (· ++ [p])) acc ↔ ∃u∈acc,∃s,s.Sublist l/\v=u++s
 |[],acc,v=>by
  constructor
  ·intro h;exact⟨v,h,[],.slnil,by simp⟩
  ·rintro⟨u,a,s,b,rfl⟩
   rw[List.sublist_nil.mp b,XD];exact a
 |p::l,acc,v=>by
  rw[UG,CP l];constructor
  ·rintro⟨u,a,s,b,rfl⟩
   rcases Z0.mp a with a|a
   ·exact⟨u,a,s,b.cons p,rfl⟩
   ·obtain⟨e,c,rfl⟩:=z5.mp a
    exact⟨e,c,p::s,b.cons₂ p,by simp⟩
  ·rintro⟨u,a,s,b,rfl⟩
   rcases List.sublist_cons_iff.mp b with b|⟨r,rfl,d⟩
   ·exact⟨u,Z0.mpr (.inl a),s,b,rfl⟩
   ·exact⟨u++[p],Z0.mpr (.inr<|z5.mpr ⟨u,a,rfl⟩),r,d,by simp⟩
variable{v:.i}
def lF{l:.i}:v∈pZ l↔v.Sublist l:=by
 unfold pZ;rw[CP];constructor
 ·rintro⟨u,a,s,b,rfl⟩
  rw[yS.mp a];exact b
 ·intro h;exact⟨[],.head _,v,h,rfl⟩
/---/def T0(j i:Nat):Bool:=decide (j/2^i%2=1)
/---/def pick(l:.i)(j:Nat):List Nat:=((.io).filter (T0 j)).map λi=>l.getD i 0
/---/def fr(ss:.y)(n:Nat):List Nat:=(.k).filter λi=>(.eK).isNone
def CQ(h:v.Sublist .bi):Ch w n v:=by
 have b:(.bi).Pairwise (· < ·):=List.Pairwise.filter _ VJ;refine⟨b.sublist h,λp a=>YD.mp (Y2.mp<|h.subset a).1,λp a e=>?_⟩;have:=(Y2.mp<|h.subset a).2;rw[e]at this;cases this
def mE(ss:.y)(n:Nat):(fr ss n).length<=n:=by
 have:=Y0 (λi=>(.eK).isNone) .k;rwa[ZO]at this
section
variable{Z n:Nat}{M:.av}{bs:.b}{ss:.y}{bk sk:Nat}{h:Hd}{T:.ah}{w:Web}{td:D}
def NW(u:.aF):mM (aP u)=u.isNone:=by cases u<;>rfl
def CS(ss:.y):dZ .aD=(.q1).map λi=>D.tup [.int (i:Nat),aP .eK]:=by
 unfold dZ;rw[ZA];apply YO;intro i
 by_cases a:i<ss.length
 ·have z:((.q1).zip .aD)[i]?=some (i,aP .eK):=by
   rw[XY];exact⟨YA a,by rw[ZQ,ZF,ZE a];rfl⟩
  rw[ZQ,z,ZQ,YA a];rfl
 ·rw[wZ .Q,wZ .Q]
def wK(W:w.Ok n)(n30:n<=30)(h:Hd):ft .Y h=.ok .j9 (h++[.lst .aq,.lst .dh]):=by
 have m:(.aq).length<=SZ:=by rw[ZA,W.s];exact kX n30
 have j:aK .Y h=.bK .bO:=(.ab<|aL<|bS .hd m).trans bW;have g:.bO[h.length]?=some .iK:=ZG;have k:dX (λc=>c[h.length]?=some .iK) .ax [.id] .f (dZ .aq) .hg .bO=.ok .dh .bO:=by
  have:=n9 (G:=λc=>c[h.length]? = some (.lst .aq)) (tg:=gT [0,1]) (cs:=[.id]) (e:=aa 0) (I:=λσ=>∃a b,σ = [a,b]) (λd=>match d with | .tup [_,x]=>mM x|_=>false) (λd=>match d with | .tup [x,_]=>x|_=>.non) g (xs:=dZ .aq) (σ:=.hg) (λy f σ ⟨a,b,e⟩=>by
   subst e;rw[CS]at f;obtain⟨i,_,rfl⟩:=z5.mp f;exact⟨_,rfl,⟨_,_,rfl⟩,oF .bc,λ_=>rfl⟩) ⟨_,_,rfl⟩
  rw[this];congr 1;rw[CS,List.filter_map,y3,W.s];have e:((λd=>match d with | .tup [_,x]=>mM x|_=>false) ∘ λi:Nat=>D.tup [.int (i:Nat),aP .mg])=λi=>(.mg).isNone:=by
   funext i;exact NW _
  rw[e];rfl
 have l:.tF .f .hb h=.ok .dh .bO:=by
  have e:af aK .F .hb h=.bK .bO:=ar .cg j;unfold fU;rw[e];dsimp[g];exact k
 refine (.ab<|aL<|bS l (by rw[ZA];exact ZM (mE _ _) (kX n30))).trans (bW.trans ?_);simp
end
theorem An:∀{b a:.i},a.Pairwise (· < ·)->b.Pairwise (· < ·)->(∀x∈a,x∈b)->a.Sublist b
 |[],a,_,_,h=>by
  cases a with
  |nil=>exact .slnil
  |cons x a=>exact absurd (h x .fc) .e
 |y::b,[],_,_,_=>List.nil_sublist _
 |y::b,x::a,g,j,h=>by
  have c:=Z4.mp g;have d:=Z4.mp j
  by_cases e:x=y
  ·subst e
   refine(An c.2 d.2 λz f=>?_).cons₂ x;rcases y4.mp (h z (.tail _ f)) with q|q
   ·exact absurd (c.1 z f) (by rw[q];exact YI _)
   ·exact q
  ·refine(An g d.2 λz f=>?_).cons y
   rcases y4.mp (h z f) with q|q
   ·have i:x∈b:=(y4.mp<|h x .eL).resolve_left e
    have k:=d.1 x i;rcases y4.mp f with r|r
    ·exact absurd (r.symm.trans q) e
    ·have:=c.1 z r
     rw[q]at this;lia
   ·exact q
theorem Ga:∀{α:Type} [DecidableEq α] {a b:List α},a.Nodup->(∀x∈a,x∈b)->a.length<=b.length
 |_,_,[],_,_,_=>YZ _
 |_,_,x::a,b,nd,h=>by
  have c:=XI.mp nd;have:=Ga (a:=a) (b:=b.erase x) c.2 λy d=>(List.mem_erase_of_ne (λe:y=x=>c.1 (e▸d))).mpr (h y<|.tail _ d);rw[List.length_erase_of_mem (h x .eL)]at this;have p:=List.length_pos_of_mem (h x .eL);rw[YT];lia
def Gb{l:.i}(nd:l.Nodup):∃mo:List Nat,(jE .dP).map D.int=NL mo/\mo.Pairwise (· < ·)/\∀x,x∈mo↔x∈l:=by
 have d:=lS .dP;have f:∀z∈jE .dP,0<=z:=λz c=>by
  obtain⟨k,_,rfl⟩:=z5.mp (d.mem_iff.mp c);lia
 have g:(jE .dP).Nodup:=d.nodup_iff.mpr (by
  unfold kyL;rw[YL,YJ];exact(YL.mp nd).imp λ{a b} h e=>h (Int.ofNat.inj e))
 refine⟨(jE .dP).map Int.toNat,?_,?_,λx=>?_⟩
 ·unfold NL
  rw[y3];refine YK λz c=>?_;show D.int z=D.int ((z.toNat:Nat):Int);rw[Int.toNat_of_nonneg (f z c)]
 ·rw[YJ]
  refine((pF (r:=kyL l)).and (YL.mp g)).imp_of_mem ?_;intro a b i m ⟨p,o⟩;have:=f a i;have:=f b m;lia
 ·rw[z5]
  constructor
  ·rintro⟨z,c,rfl⟩
   obtain⟨k,n,rfl⟩:=z5.mp (d.mem_iff.mp c);simpa using n
  ·intro j
   exact⟨(x:Int),d.mem_iff.mpr (z5.mpr ⟨x,j,rfl⟩),by simp⟩
section
variable{w:Web}{n:Nat}
structure Kk(w:Web)(n:Nat)(mm:.cV):Prop where
 nd:(mm.map (·.1)).Nodup
 en:∀p∈mm,∃l,l.Sublist .bi/\p=(kyL l,.bl .k9)
def Kk.len(K:Kk w n mm)(c:n<=8):mm.length<1000:=by
 have:=Ga (b:=(pZ .bi).map kyL) K.nd λx a=>by
  obtain⟨p,d,rfl⟩:=z5.mp a;obtain⟨l,e,rfl⟩:=K.en p d;exact z5.mpr ⟨l,lF.mpr e,rfl⟩
 rw[ZA,ZA,wJ _ _ rfl]at this;have p:2^(.bi).length<=2^8:=VF .c (ZM (mE _ _) c);lia
def Kk.pu(K:Kk w n mm):.zo=true:=by
 rw[W8];intro p a;obtain⟨l,_,rfl⟩:=K.en p a;rfl
def Kk.val(K:Kk w n mm){l:.i}:gw mm .dP=none\/gw mm .dP=some (.bl .k9):=by
 unfold gw;cases c:mm.find? (λp=>decide (p.1=kyL l)) with
 |none=>exact .inl rfl
 |some p =>
  have d:=List.mem_of_find?_eq_some c;have a:=List.find?_some c;obtain⟨b,_,rfl⟩:=K.en p d;have e:kyL b=kyL l:=Y3 a;rw[NR e];exact .inr rfl
def OI(G:Go w n){l:.i}(g:l.Sublist .bi)(s:.hE)(hd:h[d]?=some .cm)(K:Kk w n mm):
  ∃c,gp [w.enc,.ref k,.ref d] h=.ok (.bl .k9) (h.set d<|.dcT c)/\Kk w n c:=by
 obtain⟨c,q,o⟩:=ED G.W G.n30 G.S (CQ g) s hd (K.len G.n8) K.pu (NV G<|CQ g) K.val;refine⟨c,q,?_⟩;rcases o with e|⟨m,j⟩
 ·rw[e];exact K
 ·rw[j]
  refine⟨?_,λp f=>?_⟩
  ·rw[ZR,WL]
   refine⟨K.nd,by simp,λa i b r e=>?_⟩;rw[yS.mp r]at e;obtain⟨p,f,rfl⟩:=z5.mp i;have:=List.find?_eq_none.mp (Option.map_eq_none_iff.mp m) p f;exact this (ZZ e)
  ·rcases Z0.mp f with f|f
   ·exact K.en p f
   ·exact⟨l,g,yS.mp f⟩
end
theorem wL{b:SF}(P:.lr)(f:.oi):
  ∀{xs:List D} {k:Nat} {σ:Sd} {h:Hd},(∀(i:Nat) x σ h,xs[i]?=some x->P (k+i) σ h->∃σ',tg x σ=some σ'/\∃a c,(b σ' h=.nx a c\/b σ' h=.ct a c)/\P (k+i+1) a c)->P k σ h->
   ∃σ' h',eM g all tg b xs σ h=.nx σ' h'/\P .kQ σ' h'
 |[],k,σ,h,_,p=>⟨σ,h,by unfold eM;exact z4 (f _ _ _ p),p⟩
 |x::xs,k,σ,h,st,p=>by
  obtain⟨σ',h1,n,h2,m,l⟩:=st 0 x σ h rfl p;obtain⟨d,j,q,z⟩:=wL P f (λi y σ h e q=>by
   rw[UF k 1 i]at q⊢;exact .pa e q) l
  refine⟨d,j,?_,by rw[YT,<-Nat.add_assoc,UF];exact z⟩;rw[eM,z4 (f _ _ _ p),h1];rcases m with e|e<;>dsimp[e,q]
def Ao(e:σ[i]?=some .b7):aa i σ h=.ok x h:=by dsimp[aa,slot,e]
def oh{g:Hd}(hd:d<h.length)(x y:cv):(h.set d x++g).set d y=h.set d y++g:=by
 rw[UT _ _ (by rw[WH];exact hd),List.set_set]
section
variable{w:Web}{n:Nat}{h:Hd}{c d:Nat}{ch:.i}
noncomputable abbrev Ho(w:Web)(n:Nat)(h:Hd)(d:Nat)(mm:.cV)(lf:.i)(g:Hd):Hd:=h.set d .cm++(.lst (NL lf) :: .lst .aq :: .lst .dh::g)
structure LO(w:Web)(n:Nat)(h:Hd)(c d:Nat)(ch:.i)(i gk:Nat)(gr lf:.i)(mm:.cV)(g:Hd):Prop where
 K:Kk w n mm
 gn:gr.Nodup
 gs:∀x∈gr,x∈fr w.stays n
 cg:∀x∈ch,x∈gr
 g1:gk≠d
 g2:gk≠h.length
 ga:(.gw lf g)[gk]?=some (.lst<|NL gr)
 ls:∀x∈lf,x∈fr w.stays n/\x∉ch
 ll:lf.length<=i
def EJ(hd:d<h.length){mm a:.cV}{b:.i}:(.gw b g).set d .f2=Ho w n h d a b g:=oh hd _ _
def T3(hd:d<h.length):.rp[d]?=some .cm:=.j (Z1 hd)
def Lo{b a:.i}:(.gw b g).set h.length .sU=.gw a g:=by
 unfold Ho;have:=iQ (h0:=h.set d .cm) (g:=.lst (NL b) :: .lst .aq :: .lst .dh::g) (by rw[WH]) 0 .sU;exact this
def QY:.rp[h.length]?=some .sU:=dQ (by rw[WH]) 0
def SB:.rp[h.length+2]?=some (.lst .dh):=dQ (by rw[WH]) 2
def QZ:Ho w n h d mm a g++g'=.gw a (g++g'):=by unfold Ho;simp
def HJ(G:Go w n)(hd:d<h.length){s f:.i}(L:LO w n h c d ch i m s f mm g)(hp:p∈fr w.stays n)(a0:i<30)(y:.P):
  ∃v J A j g' N,(kf .fr .c8=.nx .uz (Ho w n h d j A g')\/kf .fr .c8=.ct .uz (Ho w n h d j A g'))/\LO w n h c d ch (i+1) v J A j g':=by
 have C:tE .rZ .fr .c8=.ok (decide (p∈s)) .c8:=bm (.bp<|OE L.ga p)
 by_cases F:p∈s
 ·rw[ZZ F]at C
  refine⟨m,s,f,mm,g,y,.inr ?_,{ L with ll:=V2 L.ll }⟩;have:sIf (tE .rZ) ON bT .fr .c8=.ct .fr .c8:=(nc C).trans rfl;show aA _ _ _ _=_;unfold aA;rw[this]
 ·rw[Z6 F]at C
  have gl:s.length<=8:=ZM (Ga L.gn L.gs) .m0;have U:(s++[p]).Nodup:=by
   rw[WL];exact⟨L.gn,by simp,λa ha b V e=>F (by rw[yS.mp V]at e;exact e▸ha)⟩
  obtain⟨l,Z,S,M⟩:=Gb U;have H:l.Sublist .bi:=An S .yh λx B=>by
   rcases Z0.mp ((M x).mp B) with z|z
   ·exact L.gs x z
   ·rw[yS.mp z];exact hp
  have ml:l.length<=8:=ZM H.length_le .m0;obtain⟨t,o⟩:=q0 (Ho w n h d mm f g++[cv.lst [.int (p:Nat)]]);obtain⟨r,u⟩:=q0 (t.length);have Y:∀σ:Sd,σ[5]?=some (some<|.int (p:Nat))->aI .cK σ .c8=.ok (.ref (.c8).length) t:=λσ e=>by
   rw[o];exact bS (.cD<|Ao e) .g9
  have X:kx .rU .fr .c8=.ok .bC t:=by
   have W:fJ .h (aI .cK) .fr .c8=.ok (NL<|s++[p]) t:=by
    rw[<-uV];exact oP rfl (Y _ rfl) (by rw[o];exact .j L.ga) (by rw[o];exact ZG) .eF
   unfold kx;rw[W];dsimp[aH,i0];rw[z4 (by simp[kyL];lia),Z]
  have Q:.gw f .pm=t++[.lst .bC]:=by rw[o];simp[Ho]
  have K:aI (kx .rU) .fr .c8=.ok (.ref r) .q3:=by
   rw[Q,u];exact bS X .eF
  have R:.q3[r]?=some .pS:=by
   rw[Q,u];exact ZG
  obtain⟨j,q,P⟩:=OI G H R (T3 hd) L.K;rw[EJ hd]at q;have kl:h.length+2<r:=by rw[u,o,ZB];simp;lia
  have O:r≠d:=by lia
  have up:∀{k:Nat} {I:cv},k≠d->.c8[k]?=some I->.Aq[k]?=some I:=λ{k I} z e=>by
   rw[<-EJ hd,ZP z.symm,<-QZ];exact .j e
  have E:∀σ:Sd,σ[0]?=some (some w.enc)->σ[6]?=some (some<|.ref r)->σ[2]?=some (some .dc)->tE .xx σ .q3=.ok .k9 .Aq:=λσ a b e =>
   bm (ar (am (Ao a)<|bK (Ao b)<|Ao e) q)
  cases T:tb w n l with
  |true =>
   rw[T]at E;refine⟨m,s,f++[p],j,g++[.lst [.int (p:Nat)],.lst .bC],some (.ref r),.inl ?_,⟨P,L.gn,L.gs,L.cg,L.g1,L.g2,?_,?_,by rw[ZB];exact UR L.ll 1⟩⟩
   ·refine sx (dy C) (sx (aD K) ((nc<|E _ rfl rfl rfl).trans ((fB<|lW rfl QY rfl QY (by have:=L.ll;simp[SZ];lia)).trans ?_)))
    rw[uV,Lo];rfl
   ·rw[<-Lo,ZP L.g2.symm]
    exact up L.g1 L.ga
   ·intro x B
    rcases Z0.mp B with z|z
    ·exact L.ls x z
    ·rw[yS.mp z];exact⟨hp,λe=>F (L.cg p e)⟩
  |false =>
   rw[T]at E;refine⟨r,l,f,j,g++[.lst [.int (p:Nat)],.lst .bC],some (.ref r),.inl ?_,⟨P,S.imp λh=>ZN h,λx B=>H.subset B,λx B=>(M x).mpr (Z0.mpr<|.inl<|L.cg x B),O,by lia,?_,L.ls,V2 L.ll⟩⟩
   ·exact sx (dy C) (sx (aD K)<|(dy<|E _ rfl rfl rfl).trans (aD rfl))
   ·rw[<-EJ hd,ZP O.symm];exact R
/---/def LOi(w:Web)(n:Nat)(h:Hd)(c d:Nat)(ch:.i)(i:Nat)(σ:Sd)(h':Hd):Prop:=∃gk gr lf mm g x y,σ=[some w.enc,some .ee,some .dc,some (.ref gk),some .a4,x,y]/\h'=Ho w n h d mm lf g/\LO w n h c d ch i gk gr lf mm g
def oj{h:Hd}{d:Nat}{x:cv}(hd:h[d]?=some x):h.set d x=h:=by
 apply YO;intro i
 by_cases e:d=i
 ·subst e;rw[Z1 (.n2).1,hd]
 ·rw[ZP e]
def CT(G:Go w n)(hd:h[d]?=some .cm)(K:Kk w n mm)(l:h[c]?=some .nr)(v:ch.Nodup)(cs:∀x∈ch,x∈fr w.stays n):
  ∃f a g,mh [w.enc,.ref c,.ref d] h=.ok .a4 (h.set d .f2++g)/\(h.set d .f2++g)[h.length]?=some (.lst<|NL f)/\Kk w n a/\(∀x∈f,x∈fr w.stays n/\x∉ch)/\f.length<=8:=by
 have J:=(.n2).1;have F:=(zS.mp l).1;have H:c≠d:=λe=>by rw[e,hd]at l;cases l
 have M:=G.n8;have N:=mE w.stays n;have t:=wK G.W G.n30 (h++[.lst (NL [])]);have u:h++[cv.lst (NL [])]++[.lst .aq,.lst .dh]=.gw [] []:=by unfold Ho;rw[oj hd];simp
 rw[u,ZB]at t;obtain⟨_,_,C,z,A,f,a,g,x,y,rfl,rfl,L⟩:=wL (P:=LOi w n h c d ch) (g:=some (h.length + 2)) (k:=0) (λ_ _ _ p=>by obtain⟨_,_,_,_,_,_,_,_,rfl,_⟩:=p;exact SB) (xs:=NL .bi) (tg:=gN 5) (σ:=[some w.enc,some (.ref c),some (.ref d),some (.ref c),some .lC,none,none]) (h:=.gw [] []) (b:=kf) (by
  rintro i x _ _ j ⟨z,A,f,mm,g,x,y,rfl,rfl,L⟩;have s:i<(.bi).length:=by have:=(zS.mp j).1;rwa[ZA]at this
  rw[ZQ,ZE s]at j;cases j;obtain⟨m,r,o,a,B,I,q,E⟩:=HJ G J L (YR s) .a y;exact⟨_,rfl,_,_,q,m,r,o,a,B,_,I,rfl,rfl,E⟩) ⟨c,ch,[],mm,[],none,none,rfl,rfl,⟨K,v,cs,λ_ h=>h,H,ZN F,by unfold Ho;rw[oj hd];exact .j l,λx j=>(by cases j),YZ _⟩⟩
 refine⟨f,a,.lst (NL f) :: .lst .aq :: .lst .dh::g,?_,QY (w:=w) (n:=n) (g:=g),L.K,L.ls,by have:=L.ll;rw[ZA]at this;lia⟩;exact XM (bJ (σ:=[some w.enc,some .ee,some .dc,none,none,none,none]) rfl rfl<|sx (aD rfl)<|sx (aD<|bS (xs:=[]) rfl .c)<|sx (eW (cW (.W t) SB) C) .f5) bW
end
section
variable{w:Web}{n d:Nat}
/---/def T4:D:=.tup [.str .r4]
/---/def TC(w:Web)(n d c k:Nat)(h1:Hd)(i:Nat)(σ:Sd)(h':Hd):Prop:=∃a mm g,σ=[a,some w.enc,some .dc,some .p3,some .ee]/\h'=h1.set d .cm++g/\Kk w n mm
theorem Gc(G:Go w n):∀j m:Nat,m<j->∀(h:Hd) (c:Nat) (ch:.i) (mm:.cV),h[d]?=some .cm->Kk w n mm->h[c]?=some .nr->ch.Nodup->(∀x∈ch,x∈fr w.stays n)->
  ∃t l g,cY j [w.enc,.int (m:Nat),.ref c,.ref d] h=.ok t (h.set d .jb++g)/\Kk w n l
 |0,m,hm,_,_,_,_,_,_,_,_,_=>absurd hm (X0 m)
 |j+1,0,_,h,c,ch,mm,hd,K,_,_,_=>by
  refine⟨T4,mm,[],?_,K⟩;rw[oj hd,XD];unfold cY;exact XM (.ab<|vQ<|XM (nc .bc)<|aL<|hV .cg .c) aZ
 |j+1,k+1,hm,h,c,ch,mm,hd,K,v,y,cs=>by
  obtain⟨lf,E,g1,q,C,K1,ls,ll⟩:=CT G hd K v y cs;have M:=(.n2).1;have Q:d≠c:=λe=>by rw[<-e,hd]at v;cases v
  have Z:ch.length<=8:=ZM (Ga y cs) .m0;obtain⟨s,o⟩:=q0 (h.set d (.dcT E)++g1);rw[<-o]at q C;have O:d<s.length:=by rw[o,ZB,WH];lia
  have A:s[c]?=some .nr:=by rw[o];exact .j (by rw[ZP Q];exact v)
  have J:s[d]?=some (.dcT E):=by rw[o];exact .j (Z1 M)
  obtain⟨F,h',cp,u,_,R,a,l,g,rfl,rfl,K'⟩:=lV (P:=TC w n d c k s) (V:=λ_ _=>True) (g:=some h.length) (tg:=gN 0) (e:=af (cY j) .uO) (λ_ _ _ p=>by
   obtain⟨_,_,_,_,rfl,_⟩:=p;exact .j (by rw[ZP (ZN M)];exact C)) (xs:=NL lf) (k:=0) (σ:=[none,some w.enc,some (.ref d),some (.int (k+1:Nat)),some (.ref c)]) (h:=s) (by
   rintro i x _ _ L ⟨a,mm,g,rfl,rfl,K⟩;obtain⟨p,hp,rfl⟩:=z5.mp (ZK L);obtain⟨B,N⟩:=ls p hp;obtain⟨f,r⟩:=q0 (s.set d (.dcT mm)++g);have d2:d<f.length:=by rw[r,ZB,WH];lia
   have I:f[c]?=some .nr:=by rw[r];exact .j (by rw[ZP Q];exact A)
   have H:f[d]?=some .cm:=by rw[r];exact .j (Z1 O)
   rw[<-r];have X:aI .F .vh f=.ok (.ref f.length) (f++[.lst [.int (p:Nat)]]):=bS .cg .g9;have S:aI (fJ .D<|aI .F) .vh f=.ok (.ref (f++[cv.lst [.int (p:Nat)]]).length) .vE:=by
    refine XM (bS (oP rfl X (.j I) ZG .eF) .eF) ?_;rw[uV]
   obtain⟨t,Y,g3,q3,K3⟩:=Gc G j k (Nat.lt_of_succ_lt_succ hm) .vE _ _ _ (.j<|.j H) K ZG (by
    rw[WL];exact⟨y,by simp,λa ha b W e=>N (by rw[yS.mp W]at e;exact e▸ha)⟩) (λx L=>(Z0.mp L).elim (cs x) λz=>by rw[yS.mp z];exact B)
   have T:fM (.int ((k+1:Nat):Int)) (.int 1) f=.ok (.int (k:Nat)) f:=by
    show Res.ok (D.int<|((k+1:Nat):Int)-1) f=_;rw[show ((k+1:Nat):Int)-1=(k:Int) by lia]
   refine⟨_,rfl,t,_,ar (.cC<|am (.bp T)<|bK S rfl) q3,trivial,_,Y,g++([.lst [.int (p:Nat)]]++[.lst (NL<|ch++[p])]++g3),rfl,?_,K3⟩;rw[ZU f,UT _ _ d2,r,oh O];simp) ⟨none,E,[],rfl,by rw[oj J,XD],K1⟩
  rw[ZA]at u;refine⟨.tup [.str .r3,.ref h.length,.ref (s.set d .jb++g).length],l,g1++g++[.lst F],?_,K'⟩;have fin:h.set d .jb++(g1++g++[cv.lst F])=s.set d .jb++g++[.lst F]:=by rw[o,oh M];simp
  rw[fin];unfold cY;have U:tE .nf .vg h=.ok false h:=bm (.bp<|pK .a);exact XM (bJ (σ:=.vg) rfl rfl<|sx (dy U)<|sx (aD<|ar .cO q)<|sx (aD<|bS (cM (.cF C) cp) (by rw[u];simp[SZ];lia))<|aL<|hV .cO .g9) (jr .ro)
end
def NX{b:SF}(a:.lx)(t:.ts)(e:b σ' h=.rt d h'):.lO .cR σ h=.rt d h':=by
 rw[eM,z4 a,t];dsimp[e]
def Ge{a c:Nat}{b:Bool}(h1:h[a]?=some .b3)(h2:h[c]?=some (.lst k))(e:eqL l k=some b):oEq .dg .ee h=.ok .dJ h:=by
 dsimp[oEq,eqG,ev,h1,h2,e]
section
variable{w:Web}{n:Nat}{hb:Hd}{d K f:Nat}
structure Zo(w:Web)(n d:Nat)(hb:Hd)(z:Nat × List Nat):Prop where
 ne:d≠z.1
 at':hb[z.1]?=some (.lst<|NL z.2)
 su:z.2.Sublist .bi
def SE{l:.i}(h:l≠[]):eqL .bC []=some false:=by
 cases l with
 |nil=>exact absurd rfl h
 |cons x l =>
  have:jT (NL (x::l))<=20:=by
   have e:jT (NL (x::l))=0:=by
    unfold NL
    induction (x::l) with
    |nil=>rfl
    |cons y l a=>dsimp[yP,jT,dep,a];rfl
   rw[e];decide
  unfold eqL;rw[z4 this];rfl
def Lp(G:Go w n)(hd:d<hb.length)(Z:Zo w n d hb z)(r:Kk w n mm):
  (tb w n z.2=false/\∃a,iL .l0 .g1=.nx .l0 (hb.set d .f2)/\Kk w n a)\/
  (tb w n z.2=true/\∃t a g,iL .l0 .g1=.rt (.tup [.ref z.1,t]) (hb.set d .f2++g)):=by
 obtain⟨a,q,o⟩:=OI G Z.su (by rw[ZP Z.ne];exact Z.at') (Z1 hd) r;rw[List.set_set]at q;obtain⟨i,b⟩:=q0 (hb.set d<|.dcT a);have l:i[z.1]?=some (.lst<|NL z.2):=by rw[b,ZP Z.ne];exact Z.at'
 have s:i[d]?=some .f2:=by rw[b];exact Z1 hd
 have v:d<i.length:=by rw[b,WH];exact hd
 rw[<-b]at q;have t:tE .xJ .l0 .g1=.ok (tb w n z.2) i:=bm (ar .cO q);cases c:tb w n z.2 with
 |false =>
  rw[c]at t;refine .inl ⟨rfl,a,?_,o⟩;rw[<-b];exact(dy t).trans rfl
 |true =>
  rw[c]at t;refine .inr ⟨rfl,?_⟩;have j:∀(σ:Sd) (h:Hd),aI aj σ h=.bK .a6:=λσ h=>bS rfl .c
  by_cases e:z.2=[]
  ·refine⟨.non,a,[.lst []],?_⟩
   rw[<-b];exact XM (nc t) (sx (aD<|XM (sf<|bm<|av rfl (j _ i)<|Ge (.j l) ZG (by rw[e];rfl)) rfl)<|aL<|hV .dw .g9)
  ·have C:z.2.length<=8:=ZM Z.su.length_le .m0
   have B:z.2.length≠0:=λq=>e (WX.mp q);obtain⟨A,m,k,q3,_⟩:=Gc G 9 (z.2.length-1) .a (i++[.lst []]++[.lst []]) _ [] _ (.j<|.j s) o ZG List.nodup_nil (λx u=>by cases u);have p:fM (.int ((NL z.2).length:Nat)) (.int 1) (i++[.lst []])=.ok (.int (z.2.length-1:Nat)) (i++[.lst []]):=by
    rw[ZA];show Res.ok (D.int<|(z.2.length:Int)-1) _=_;rw[show (z.2.length:Int)-1=((z.2.length-1:Nat):Int) by lia]
   refine⟨A,m,[.lst [],.lst []]++k,?_⟩;have y:(i++[cv.lst []]++[cv.lst []]).set d (.dcT m)++k=hb.set d (.dcT m)++([cv.lst [],cv.lst []]++k):=by
    rw[ZU i,UT _ _ v,b,List.set_set];simp
   rw[y]at q3;exact XM (nc t) (sx (aD<|XM (vP<|bm<|av rfl (j _ i)<|Ge (.j l) ZG<|SE e)<|ar (.cC<|am (av (dI<|.cE<|bc<|.j l) rfl p)<|bK (j _ _) rfl) q3)<|aL<|hV .dw .g9)
theorem CU(G:Go w n)(hd:d<hb.length){Z:.hK}(kd:d≠K)(i:hb[K]?=some .nY):
  ∀{c:.hK} {mm:.cV} {y:.P},(∀z∈c,Zo w n d hb z)->Kk w n mm->
   (∃a k,eM (some K) .dQ .bR iL (rf c) .wp .g1=.nx [some w.enc,some .aE,some .dc,k,none] (hb.set d .f2)/\∀z∈c,tb w n z.2=false)\/
   (∃A z B t a g,c=A++z::B/\(∀x∈A,tb w n x.2=false)/\tb w n z.2=true/\eM (some K) .dQ .bR iL (rf c) .wp .g1=.rt (.tup [.ref z.1,t]) (hb.set d .f2++g))
 | [],mm,y,_,_=>.inl ⟨mm,y,by
   unfold eM;exact z4 (show .g1[K]?=_ by rw[ZP kd];exact i),λz hz=>by cases hz⟩
 |z::c,mm,y,hz,m=>by
  have he:.g1[K]?=some .nY:=by rw[ZP kd];exact i
  rcases Lp G hd (hz z .fc) m with ⟨h,e,q,s⟩|⟨h,t,e,g,q⟩
  ·rcases CU G hd kd i (λl o=>hz l (.tail _ o)) s with ⟨a,k,q2,j⟩|⟨A,p,B,t,a,g,rfl,j,r,q2⟩
   ·refine .inl ⟨a,k,XM (Af he rfl q) q2,λx b=>?_⟩
    rcases y4.mp b with rfl|b
    ·exact h
    ·exact j x b
   ·refine .inr ⟨z::A,p,B,t,a,g,rfl,λx b=>?_,r,XM (Af he rfl q) q2⟩
    rcases y4.mp b with rfl|b
    ·exact h
    ·exact j x b
  ·exact .inr ⟨[],z,c,t,e,g,rfl,λx b=>(by cases b),h,NX he rfl q⟩
def sQ(G:Go w n)(h:Hd):
  (iY .Y h=.ok .non h/\∀u∈pZ .bi,tb w n u=false)\/
  (∃a t g v,iY .Y h=.ok (.tup [.ref a,t]) .N/\.N[a]?=some .nb/\v.Sublist .bi/\tb w n v=true/\∀u∈pZ .bi,tb w n u=true->v.length<=u.length):=by
 have V:=G.n8;have W:=mE w.stays n;obtain⟨c,i⟩:=q0 (h++[.lst .aq,.lst .dh]:Hd);have N:c.length=h.length+2:=by rw[i];simp
 have E:=wK G.W G.n30 h;rw[<-i]at E;have J:c[h.length+1]?=some (.lst .dh):=by rw[i];simp
 have F:Dn .wB c=.ok (.ref<|h.length+2) (c++[.dcT []]):=by rw[<-N];rfl
 obtain⟨g,K,Z,q1,q2,q3,y⟩:=CL (.j J) (by have:=G.n6;lia);obtain⟨hb,l⟩:=q0 (c++[.dcT []]++g);rw[<-l]at q1 q2 q3;have s:hb[h.length+2]?=some (.dcT []):=by rw[l];exact .j (by rw[<-N];exact ZG)
 have U:=(zS.mp s).1;have T:h.length+2≠K:=λe=>by rw[<-e,s]at q2;cases q2
 have P:hb=h++([.lst .aq,.lst .dh,.dcT []]++g):=by rw[l,i];simp
 have H:=oj s;have r:∀z∈Z,Zo w n (h.length + 2) hb z:=λz b=>⟨λe=>(by have:=q3 z b;rw[<-e,s]at this;cases this),q3 z b,by
  have:z.2∈Ts.byK (λv:List Nat=>(v.length:Int)) (pZ .bi):=by rw[<-y];exact z5.mpr ⟨z,b,rfl⟩
  exact lF.mp ((.r1).mem_iff.mp this)⟩
 have L:∀{o:Out},eM (some K) .dQ .bR iL .dQ .uX hb=o->fz (bV<|af jL .cf) .bR iL .uX (c++[.dcT []])=o:=λ{o} e=>eW (cW (.W q1) q2) e;have M:tE .yd .wB c=.ok false c:=bm (av (dI<|.cE<|bc J) rfl<|vO (by rw[ZA];lia));have mem:∀u,u∈pZ .bi->∃z∈Z,z.2=u:=λu m=>by
  have:u∈Z.map (·.2):=by rw[y];exact (.r1).mem_iff.mpr m
  obtain⟨z,b,e⟩:=z5.mp this;exact⟨z,b,e⟩
 rcases CU G U T q2 (mm:=[]) r ⟨List.nodup_nil,λp S=>by cases S⟩ with ⟨mm',X,q,C⟩|⟨A,z,B,t,mm',D,e,C,Q,q⟩
 ·rw[H]at q
  refine .inl ⟨?_,λu m=>by obtain⟨z,b,rfl⟩:=mem u m;exact C z b⟩;refine XM (.ab<|sx (aD<|.W E)<|sx (dy M)<|sx (aD F)<|sx (L q) .f5) ?_;rw[P,iQ rfl];exact cw rfl
 ·rw[H]at q
  have b:z∈Z:=by rw[e];exact Z0.mpr (.inr .eL)
  have O:hb.set (h.length+2) (.dcT mm')++D=h++((.wt).set 2 (.dcT mm')++D):=by rw[P,iQ rfl,ZU]
  refine .inr ⟨z.1,t,(.wt).set 2 (.dcT mm')++D,z.2,?_,?_,(r z b).su,Q,λu m I=>?_⟩
  ·rw[<-O]
   exact XM (.ab<|sx (aD<|.W E)<|sx (dy M)<|sx (aD F)<|vQ<|L q) (jr .ro)
  ·rw[<-O]
   exact .j (by rw[ZP (r z b).ne];exact(r z b).at')
  ·obtain⟨x,k,rfl⟩:=mem u m
   have j:=Ts.byK_rises (λv:List Nat=>(v.length:Int)) (pZ .bi);rw[<-y,e,ZR,yP]at j;have R:=(Z4.mp (Z8.mp j).2.1).1;rw[e]at k;rcases Z0.mp k with k|k
   ·rw[C x k]at I;cases I
   ·rcases y4.mp k with rfl|k
    ·exact ZL _
    ·have:=R x.2 (z5.mpr ⟨x,k,rfl⟩)
     lia
end
theorem Gf:∀{a b:.b} (x y:.b),a.length=b.length->.d7 b=true->lexLt (a++x) (b++y)=true
 |[],[],x,y,_,h=>by simp[lexLt]at h
 |[],_::_,_,_,l,_=>by simp at l
 |_::_,[],_,_,l,_=>by simp at l
 |u::a,v::b,x,y,l,h=>by
  show (if u=v then lexLt (a++x) (b++y) else decide (u<v))=true;unfold lexLt at h
  by_cases e:u=v
  ·rw[z4 e]at h⊢;exact Gf x y .mW h
  ·rw[yD e]at h⊢;exact h
def Lq(a:.b):lexLt (a++[0]) (a++[1])=true:=by
 induction a with
 |nil=>decide
 |cons x a b=>show (if x=x then _ else _)=true;rw[z4 rfl];exact b
theorem CV{ss:.y}(os:.bo):∀k,k<=ss.length->(.fG).Pairwise λa b=>.d7 b=true
 |0,_=>by rw[W1];exact YV _ _
 |k+1,o=>by
  have d:=o;rw[lC (ZE d)];unfold pc;rw[List.pairwise_flatMap];have i:=λs n=>(.yU).len;refine⟨λa g=>?_,?_⟩
  ·cases ss[k] with
   |none =>
    refine Z4.mpr ⟨λb f=>?_,YV _ _⟩;rw[yS.mp f];exact Lq a
   |some v=>exact YV _ _
  ·refine WO ?_ (CV os k<|YX d)
   intro a b g f j x m y l;have h:∀(c t:.b),t∈KN ss[k] c->∃v,t=c++[v]:=λc t e=>by
    cases q:ss[k] with
    |none =>
     rw[q]at e;rcases y4.mp e with z|z
     ·exact⟨0,z⟩
     ·exact⟨1,yS.mp z⟩
    |some v=>rw[q]at e;exact⟨v,yS.mp e⟩
   obtain⟨u,rfl⟩:=h a x m;obtain⟨v,rfl⟩:=h b y l;exact Gf _ _ ((i a g).trans (i b f).symm) j
def CW(G:.ae):(.dF).Pairwise λa b=>.d7 b=true:=by
 have:=CV G.S w.stays.length .r;rwa[XH]at this
def Gg(s:.b):ve .G=s.map λx=>[x]:=by
 unfold ao ve;dsimp[y3];rfl
def NY(s:.b):rwK .G=s:=by
 show (cC .g8).getD []=s;rw[sO];rfl
theorem CY:∀a b:List Int,ltK (a.map λx=>[x]) (b.map λx=>[x])=.d7 b
 |[],[]=>rfl
 |[],_::_=>rfl
 |_::_,[]=>rfl
 |x::a,y::b=>by
  show (if [x]=[y] then ltK _ _ else lexLt [x] [y])=if x=y then lexLt a b else decide (x<y)
  by_cases e:x=y
  ·rw[z4 (by rw[e]),z4 e];exact CY a b
  ·rw[yD .dB,yD e]
   show (if x=y then _ else decide (x<y))=_;rw[yD e]
def wM(h:s≠[]):ja true .G=true:=by
 cases s with
 |nil=>exact absurd rfl h
 |cons x s =>
  unfold ao ja;simp[elT]
def Lr(s t:.b):ja false (.tup [ao s,ao t])=true:=by
 unfold ja;simp[elT,ao,sO]
def wN{L:.aY}(h:L.Pairwise λa b=>.d7 b=true):LW (L.map ao):=by
 unfold LW;rw[YJ];exact h.imp λ{a b} q=>by rw[Gg,Gg,CY];exact q
structure Iso(w w':Web)(n:Nat)(φ ψ:.lp):Prop where
 fit:∀s,aX w n s->aX w' n (φ s)
 tif:∀s,aX w' n s->aX w n (ψ s)
 fg:∀s,aX w' n s->φ (ψ s)=s
 gf:∀s,aX w n s->ψ (φ s)=s
 turn:∀s,aX w n s->ay w' n (φ s)=φ .Z
section
variable{w w':Web}{n:Nat}{φ ψ:.lp}{lo hi lo' hi':.b}
def Iso.inj(I:.dU)(a:.S)(ht:.bz t)(e:φ s=φ t):s=t:=by
 rw[<-I.gf s a,<-I.gf t ht,e]
theorem Iso.hist(I:.dU)(W:w.Ok n)(S:bN w){s:.b}(F:.S):∀k,hist w' n (φ s) k=φ .ck
 |0=>rfl
 |k+1=>by
  show ay w' n (Fm.hist w' n (φ s) k)=φ (.ai<|Fm.hist w n s k);rw[Iso.hist I W S F k,I.turn _ .eW]
def Iso.back(I:.dU)(W:w.Ok n)(S:bN w)(F:aX w' n t):.ai (ψ t)=ψ (ay w' n t):=by
 have:=I.turn _ (I.tif t F);rw[I.fg t F]at this;rw[this,I.gf _ (dS W S<|I.tif t F)]
def Iso.same(I:.dU)(W:w.Ok n)(S:bN w)(F:.S)(i j:Nat):Fm.hist w' n (φ s) i=Fm.hist w' n (φ s) j↔Fm.hist w n s i=Fm.hist w n s j:=by
 rw[I.hist W S F,I.hist W S F];exact⟨λe=>I.inj (.fj i) (.fj j) e,λe=>by rw[e]⟩
def Iso.calm(I:.dU)(G:.ae)(f:.hD):((.bf).map φ).Perm (cx w' n):=by
 have i:(.bf).Nodup:=(mD G).sublist W4;have l:(cx w' n).Nodup:=(mD f).sublist W4;have g:((.bf).map φ).Nodup:=sP i λa h b j e=>I.inj ((fX G a).mp h).1 ((fX G b).mp j).1 e;rw[W2 g l];intro t;rw[fX f,z5];constructor
 ·rintro⟨s,k,rfl⟩
  obtain⟨c,d⟩:=(fX G s).mp k;exact⟨I.fit s c,by rw[I.turn s c,d]⟩
 ·rintro⟨c,d⟩
  exact⟨ψ t,(fX G _).mpr ⟨I.tif t c,by rw[.lM c,d]⟩,I.fg t c⟩
/---/def lsr(w:Web)(n:Nat)(φ:.lp)(s:.b):List Int:=if lexLt (φ s) .gM=true then φ s else φ .Z
def Ap(h:lexLt s .Z=true):s≠ay w n s:=λe=>by
 rw[<-e,eO]at h;cases h
def Iso.lsr(I:.dU)(G:.ae)(g:s∈cF w n):aX w' n .kN/\lexLt .kN (ay w' n .kN)=true/\ay w' n (ay w' n .kN)=lsr w n φ s/\(if lexLt (φ s) .gM=true then D.tup .ic else .tup [ao .gM,ao (φ s)])=eK w' n .kN:=by
 obtain⟨F,lt,f⟩:=(iZ G s).mp g;have b:=dS G.W G.S F;have d:=I.turn s F;have a:=I.turn _ b;rw[f]at a;unfold Fm.lsr eK
 by_cases c:lexLt (φ s) .gM=true
 ·rw[z4 c,z4 c,d,a]
  exact⟨I.fit s F,c,rfl,rfl⟩
 ·rw[yD c,yD c,a,d]
  exact⟨I.fit _ b,hZ (λe=>Ap lt (I.inj F b e)) .aH,rfl,rfl⟩
def Iso.sway(I:.dU)(G:.ae)(m:.hD):(.yz).Perm (cF w' n):=by
 have F:(.bQ).Nodup:=(mD G).sublist W4;have K:(cF w' n).Nodup:=(mD m).sublist W4;have g:∀s∈cF w n,Fm.lsr w n φ s=φ s\/Fm.lsr w n φ s=φ .Z:=λs _=>by
  unfold Fm.lsr;split
  ·exact .inl rfl
  ·exact .inr rfl
 have E:(.yz).Nodup:=sP F λa r b A e=>by
  obtain⟨q,D,B⟩:=(iZ G a).mp r;obtain⟨p,C,tb⟩:=(iZ G b).mp A;have l:=dS G.W G.S q;have h:=dS G.W G.S p;have v:a≠ay w n b:=λz=>by
   rw[z,tb]at D;rw[iS D]at C;cases C
  rcases g a r with x|x<;>rcases g b A with y|y<;>rw[x,y]at e
  ·exact I.inj q p e
  ·exact absurd (I.inj q h e) v
  ·have z:=I.inj l p e
   exact absurd (by rw[<-z,B]) v
  ·have z:=I.inj l h e
   rw[<-B,z,tb]
 rw[W2 E K];intro t;rw[iZ m,z5];constructor
 ·rintro⟨s,J,rfl⟩
  obtain⟨f,j,o,_⟩:=I.lsr G J;exact⟨f,j,o⟩
 ·rintro⟨f,j,o⟩
  have d:=dS m.W m.S f;have H:=I.tif t f;have k:=.lM f;have i:=.lM d;rw[o]at i;have ne:ψ t≠ay w n (ψ t):=λz=>by
   rw[k]at z;have:φ (ψ t)=φ (ψ<|ay w' n t):=by rw[<-z]
   rw[I.fg t f,I.fg _ d]at this;exact Ap j this
  by_cases c:lexLt (ψ t) (.ai<|ψ t)=true
  ·refine⟨ψ t,(iZ G _).mpr ⟨H,c,by rw[k,i]⟩,?_⟩
   unfold Fm.lsr;rw[k,I.fg t f,I.fg _ d,z4 j]
  ·have u:=hZ ne .aH
   rw[k]at u;refine⟨ψ (ay w' n t),(iZ G _).mpr ⟨I.tif _ d,by rw[i];exact u,by rw[i,k]⟩,?_⟩;unfold Fm.lsr;rw[i,I.fg t f,I.fg _ d,yD (by rw[iS j];decide)]
def Ls(I:.dU)(G:.ae)(a:.hD):w5 .yW .gY:=by
 refine⟨?_,wN ((CW a).filter _)⟩;have:=((I.calm G a).map ao).symm;rw[y3]at this;exact this
def Lu(I:.dU)(G:.ae)(c:.hD):w5 .qw .fv:=by
 refine⟨?_,?_⟩
 ·have:=((I.sway G c).map (eK w' n)).symm
  rw[y3]at this;exact this
 ·unfold LW
  rw[YJ];refine((CW c).filter _).imp λ{a b} q=>?_;have ne:a≠b:=λz=>by rw[z,eO]at q;cases q
  unfold eK ve;dsimp[yP,V0,NY];unfold ltK;rw[yD ne];exact q
def NZ{a:.b}(ne:a≠b):w5 [ao a,ao b] (if lexLt a b=true then [ao a,ao b] else [ao b,ao a]):=by
 by_cases c:.d7 b=true
 ·rw[z4 c]
  exact⟨.refl _,wN (L:=[a,b]) (List.pairwise_pair.mpr c)⟩
 ·rw[yD c]
  exact⟨.swap _ _ _,wN (L:=[b,a]) (List.pairwise_pair.mpr<|hZ ne .aH)⟩
end
section
variable{n:Nat}{o:.i}{T:.ah}{bs:.b}{ss:.y}
def OJ(W:w.Ok n):Iso w .cP n xcs xcs :=
 ⟨λs F=>Ca F,λs F=>by have:=Ca F;rwa[FN W]at this,λs _=>zY s,λs _=>zY s,λs F=>QJ W F⟩
def wO(O:.E o)(lt:.en)(lb:.aX)(ls:.aQ):dN n .eU .eO .hc .g0=aM n T bs ss:=by
 unfold dN;rw[K5 O lt,Ak O lb,Ak O ls]
def SG(O:.E o){l:.b}(c:.cx):.cd (mvd .eU 0 l)=l:=by
 have b:=uT O;refine(oQ O (by rw[eI,b.len]) c λp a=>?_).symm;have:=tZ b (d:=(0:Int)) c (O.f_lt a);rw[Aj O (O.f_lt a),O.g_f a]at this;exact this.symm
def Lv(O:.E o)(lt:.en)(lb:.aX)(ls:.aQ):Iso .x .bB n .i4 .nz:=by
 refine⟨λs F=>CG O ls F,λs F=>?_,λs F=>SG O F.len,λs F=>Ak O F.len,λs F=>K7 O lt lb ls F.len⟩;have:=CG (uT O) (T:=T.map (ren o)) (bs:=.cd bs) (ss:=mvd o none ss) .iy F;rwa[wO O lt lb ls]at this
end
theorem sS:∀{l:List D},(∀d∈l,peq d d=some true)->gY l l=some true
 |[],_=>by simp[gY]
 |d::l,h=>by
  have a:=h d .eL;have b:=sS (l:=l) λx c=>h x (.tail _ c);simp[gY,a,b]
theorem Aq:∀{l:List D},(∀d∈l,dep d<=k)->jT l<=k
 |[],_=>by simp[jT]
 |d::l,h=>by
  have a:=h d .eL;have b:=Aq (l:=l) λx c=>h x (.tail _ c);simp[jT];lia
/---/def Sm(d:D):Prop:=peq d d=some true/\dep d<=19
def wP(s:.b):Sm .G:=⟨by rw[FH rfl];simp,by rw[uI];decide⟩
def Lw{a b:D}(ha:peq a a=some true/\dep a<=18)(hb:peq b b=some true/\dep b<=18):Sm (.tup [a,b]):=by
 have e:gY [a,b] [a,b]=some true:=sS λd c=>by
  rcases y4.mp c with rfl|c
  ·exact ha.1
  ·rw[yS.mp c];exact hb.1
 have f:jT [a,b]<=18:=Aq λd c=>by
  rcases y4.mp c with rfl|c
  ·exact ha.2
  ·rw[yS.mp c];exact hb.2
 exact⟨by simp[peq,e],by dsimp[dep];lia⟩
def SH(w:Web)(n:Nat)(s:.b):Sm (eK w n s):=Lw ⟨(wP s).1,by rw[uI];decide⟩ ⟨(wP _).1,by rw[uI];decide⟩
def om{a b:Nat}(ha:h[a]?=some .b3)(hb:h[b]?=some .b3)(z:∀d∈l,Sm d):oNe .dg .fT h=.ok .iH h:=by
 have e:eqL l l=some true:=by
  unfold eqL;rw[z4 (ZM (Aq λd c=>(z d c).2) .c),z4 rfl];exact sS λd c=>(z d c).1
 dsimp[oNe,eqG,ev,ha,hb,e];rfl
def qY{b:List D}(p:a σ h=.ok .an h1)(c:h1[k]?=some .b3)(s:jX l=some b):iE a σ h=.ok b h1:=by
 unfold iE;rw[p,aH];dsimp[ev,c,s]
section
variable{w w':Web}{n:Nat}{φ ψ:.lp}{lo hi lo' hi':.b}
def qZ(G:.ae)(n6:n<=6):(.dF).length<=64:=by
 have a:=F4 w.stays w.stays.length .r;rw[XH,G.W.s]at a;have b:2^n<=2^6:=VF .c n6;lia
def Ar{w:Web}{n:Nat}(n1:1<=n)(F:.S):s≠[]:=λe=>by have:=F.len;rw[e]at this;simp at this;lia
def t6(I:.dU)(G:.ae)(b:.hD)(n1:1<=n)(n6:n<=6):jX .yW=some .gY:=by
 refine pA true (W8.mpr λd a=>?_) ?_ (Ls I G b)
 ·obtain⟨s,c,rfl⟩:=z5.mp a
  exact wM (Ar n1<|I.fit s ((fX G s).mp c).1)
 ·rw[ZA]
  exact ZM .dN (ZM (qZ G n6) .c)
noncomputable abbrev T5:SF:=sIf (tE .nf) .vk .us
def t7(I:.dU)(G:.ae)(K:.hD)(n1:1<=n)(n6:n<=6)(M:h[k]?=some .k8)(way:Int)(f:D)
  (m:∀(g:Hd) (s t:.b) (A:D) (p:.P),aX w n s->aX w n t->T5 [some .an,some .ac,some f,some A,some .G,some (ao t),p] .N=.nx [some .an,some .ac,some f,some A,some .G,some (ao t),some .mv] (h++g++[.lst [ao (φ s),ao (φ t)]])) :
  ∃g,d6 [.ref k,.int way,f] h=.ok .mv (h++g++[.lst .fv]):=by
 obtain⟨A,r⟩:=q0 .cQ;have Z:(.bQ).length<=64:=ZM .dN (qZ G n6);obtain⟨Q,j,q,a,b,c,g,U,y⟩:=cI (P:=λi σ j=>∃(a b c:.P) (g:Hd),σ=[some .gn,some .fb,some f,some .cA,a,b,c]/\j=h++(.lst .wJ::g)) (g:=some k) (k:=0) (all:=(.bQ).map (eK w n)) (λi σ j ⟨_,_,_,_,_,e⟩=>by rw[e];exact .j M)
  (xs:=(.bQ).map (eK w n)) (tg:=gT [4,5]) (σ:=[some .an,some .ac,some f,some .T,none,none,none]) (h:=h++[.lst []]) (b:=o5) (by
  rintro i x σ h0 O ⟨a,b,c,g,rfl,rfl⟩;rw[YE];rw[ZQ]at O;obtain⟨s,u,rfl⟩:=XA.mp O;have hi:=(zS.mp u).1;have H:=ZK u;obtain⟨F,lt,tt⟩:=(iZ G s).mp H;have E:=dS G.W G.S F;obtain⟨L,C⟩:=q0 .wJ;rw[<-C];have N:=m (.lst L::g) s .Z .cA c F E;obtain⟨P,J⟩:=q0 ((h++(.lst L::g)).length);rw[<-J]at N;have R:.xE[P]?=some (.lst .ic):=ca J _;have v:.xE[A]?=some (.lst L):=.j (dQ r 0);have ne:φ s≠φ .Z:=λz=>Ap lt (I.inj F E z);have B:=pA (l:=.ic) true (by rw[XW,XW,wM (Ar n1<|I.fit s F),wM (Ar n1<|I.fit _ E)];rfl) (by show 2<=1000;decide) (NZ ne);have X:=fB (lW (x:=aa 3) (e:=dR (iE .ak)) (σ:=[some .gn,some .fb,some f,some .cA,some .G,some (ao .Z),some (.ref P)]) rfl v (gS<|qY rfl R B) v (by rw[C,ZA,WI];unfold SZ;lia));refine⟨_,rfl,_,_,sx N X,_,_,_,g++[.lst .ic],rfl,?_⟩;have S:=(I.lsr G H).2.2.2;have V:D.tup (if lexLt (φ s) .gM=true then .ic else [ao .gM,ao (φ s)])=eK w' n .mm:=by
   rw[<-S];split<;>rfl
  rw[V,ZU];refine(iQ r 0 _).trans ?_;rw[List.take_add_one,u,C];simp) ⟨none,none,none,[],rfl,rfl⟩
 have W:0+(.pG).length=(.bQ).length:=by simp
 rw[W,XH]at y;refine⟨.lst .qw :: g,?_⟩;rw[<-y];have B:=pA (l:=(.bQ).map λs=>eK w' n .mm) false (W8.mpr λd T=>by
  obtain⟨s,u,rfl⟩:=z5.mp T;exact Lr _ _) (by rw[ZA];lia) (Lu I G K)
 have v:j[A]?=some (.lst .qw):=by rw[y];exact dQ r 0
 have Y:(cF w' n).length<=64:=ZM .dN (qZ K n6);refine(bJ (σ:=[some .an,some .ac,some f,none,none,none,none]) rfl rfl (sx (aD<|gU r rfl .dj) (sx (eW (.cF<|.j M) q) (o:=.rt (.ref j.length) (j++[.lst .fv])) ?_))).trans bW;rw[U];exact aL (bS (qY rfl v B) (by rw[ZA];unfold SZ;lia))
end
def wQ{E:.aY}(φ:.lp)(f:h[k]?=some .nZ)(he:∀s∈E,e (some .G::cp) h=.ok (ao<|φ s) h)(a:.P):bU .b8 .dH .B [] e .dH (a::cp) h=.ok (E.map λs=>ao (φ s)) h:=by
 have:=br (g:=some k) (all:=E.map ao) (tg:=gN 0) (cs:=[]) (e:=e) (h:=h) (λσ=>∃a,σ = a :: cp) .aM (λd=>ao (φ<|Hy d)) f (xs:=E.map ao) (σ:=a :: cp) (by
  rintro x b σ ⟨a,rfl⟩;obtain⟨s,c,rfl⟩:=z5.mp b;exact⟨_,rfl,⟨_,rfl⟩,rfl,λ_=>by rw[uS];exact he s c⟩) ⟨_,rfl⟩
 rw[this,Z9.mpr .e,y3];congr 1;exact YK λs _=>by show ao (φ<|Hy .G)=_;rw[uS]
def N1(n6:n<=6)(O:.aR)(lb:.aX)(ls:.aQ)(os:.bo):∃lo hi,G23 .x n lo hi :=
 KU (li .a O lb ls) .a os (pV O os) (by
  show (ss.filter _).length<=12;refine ZM .dN ?_;lia)
section
variable{w:Web}{n:Nat}{lo hi lo' hi':.b}
def Q0(l:.ji)(h:LeS a b):LeS (xcs b) (xcs a):=λi=>by
 by_cases c:i<a.length
 ·rw[uP c,uP .a]
  have:=h i;lia
 ·have e:∀s:List Int,s.length=a.length->(.cr).getD i 0=0:=λs d=>by
   rw[ZF,wZ (by rw[uO];lia)];rfl
  rw[e a rfl,e b l.symm];exact X5 _
def T6(G:.ae)(a:G23 .cP n lo' hi'):lo'=xcs hi:=by
 have I:=OJ G.W;have e:LeS lo' (xcs hi):=(a.mid _ (I.fit hi G.hiF) (by rw[I.turn hi G.hiF,G.hiR,I.turn hi G.hiF,G.hiR])).1;have b:=.lM a.loF;rw[a.loR]at b;have d:LeS (xcs lo') hi:=(G.mid _ (I.tif lo' a.loF) (by rw[b,b])).2;have c:=Q0 .xn d;rw[zY]at c;exact LeS.eq .xn e c
def SJ(c:.e7)(lb:.gc):pO (xcs a) (xcs b)=xcs .b6:=by
 apply YO;intro i;unfold pO jj xcs;dsimp[ZQ,List.zip_map];cases .fX[i]? with
 |none=>rfl
 |some p =>
  obtain⟨x,y⟩:=p;dsimp[Y8,Prod.map];congr 1;split<;>split<;>lia
def Gh(G:.ae)(v:Int){c:Nat}(a:h[c]?=some .gS)(b:e σ h=.ok .ee h)(i:f σ h=.ok .cp h):∃s,s∈cx w n/\fAt e (aq de f (cT (lOf e))) σ h=.ok .G h:=by
 have ne:0<(.bf).length:=List.length_pos_of_mem ((fX G lo).mpr ⟨G.loF,G.loR⟩);have d:(0:Int)<((.bf).length:Int):=by lia
 obtain⟨j,k⟩:∃j:Nat,v%((.bf).length:Int)=j:=⟨(v%((.bf).length:Int)).toNat,by have:=VY v (show ((.bf).length:Int)≠0 by lia);lia⟩;have g:j<(.bf).length:=by have:=VA v d;lia
 refine⟨.bf[j],YR g,?_⟩;have m:.a9 f (cT<|lOf e) σ h=.ok (.int (j:Nat)) h:=by
  rw[<-k];refine av i ((dI<|cm b<|bc a).trans .iU) (eC d)
 exact bn b m (bc a) (du (by rw[ZQ,ZE g];rfl))
def p0(n1:1<=n)(n6:n<=6)(O:.aR)(lb:.aX)(ls:.aQ)(os:.bo)(hw:.oH)(G:.ae){c:Nat}(hc:h[c]?=some .gS)(hp:h[p]?=some .k8)(v:Int):
  eu [w.enc,.ref c,.ref p,.int v] h=.a2 h:=by
 have X:n<=30:=by lia
 have W:=G.W;have S:=G.S;have R:(.gW).length=n:=by rw[ZA,ls]
 have J:(.mi).length=n:=by simp
 have ex:xcw n w=aM n T .mi .gW:=by rw[hw];exact yv lb
 have S2:bN .cP:=Ka S;have Y:∀x∈ss.map xco,x=none\/x=some 0\/x=some 1:=by rw[ex]at S2;exact S2
 obtain⟨l,C⟩:=q0 .cP;have x1:∀h,dE .Y h=.ok l.enc h:=λh=>by rw[C,ex,hw];exact qG n1 X O lb ls os h
 have x2:∀h,dE [l.enc] h=.ok w.enc h:=λh=>by
  have e:=qG n1 X O J R Y h;rw[<-yv J,<-ex,FN W]at e;rw[C];exact e
 have I:Iso w l n xcs xcs:=by rw[C];exact OJ W
 obtain⟨lo',hi',y⟩:=N1 n6 O J R Y;rw[<-ex]at y;have lx:=T6 G y;rw[<-C]at y;obtain⟨g1,r1⟩:=qW y h;obtain⟨k1,Q⟩:∃k,k=(h++g1).length:=⟨_,rfl⟩;obtain⟨h1,q⟩:=q0 (h++g1++[.lst .na]:Hd);have r1:eo [l.enc] h=.ok (.ref k1) h1:=by rw[Q,q];exact r1
 have a1:h1[k1]?=some (.lst .na):=by rw[q];exact ca Q _
 have V:h1[c]?=some .gS:=by rw[q,ZU];exact .j hc
 have zc:∀{u:Web} {a b:.b},G23 u n a b->(cx u n).length<=SZ:=λ{u a b} K=>ZM .dN (ZM (qZ K n6) .c);have cp:=wQ (e:=af aF .F) (cp:=[]) xcs V (λs _=>ar .cg (iK s _)) none;obtain⟨P,B⟩:=q0 (h1++[.lst ((.bf).map λs=>ao .cr)]:Hd);obtain⟨o,r⟩:=q0 (P++[.lst .na]:Hd);obtain⟨σ,j⟩:=q0 (λa b d=>[some w.enc,some (.ref c),some (.ref p),some (.int v),some l.enc,a,b,d]:Option D->Option D->Option D->Sd);have q1:aI .t7 .gU h1=.ok (.ref P.length) o:=by
  rw[r,j];refine bS (qY (h1:=P) (k:=h1.length) ?_ (by rw[B];exact ca rfl _)<|t6 I G y n1 n6) (by rw[ZA];exact zc y);rw[B];exact bS (cM (.cF V) cp) .zN
 have a0:o[k1]?=some (.lst .na):=by rw[r,B];exact .j (.j a1)
 have s1:sIf .wL .ea bT .gU h=.nx .gU o :=
  dy (bm (av (ar .qT r1) q1 (om a0 (by rw[r];exact ca rfl _) λd hd=>by
   obtain⟨s,_,rfl⟩:=z5.mp hd;exact wP s)))
 obtain⟨g4,r4⟩:=wC y o;obtain⟨M,E⟩:=q0 (o++(.lst .qX::g4):Hd);have r4:ge [l.enc] o=.ok (.ref o.length) M:=by rw[E];exact r4
 have a2:M[o.length]?=some (.lst .qX):=by rw[E];exact dQ rfl 0
 have a3:M[p]?=some .k8:=by rw[E,r,B,q];exact .j (.j<|.j<|.j<|.j hp)
 obtain⟨g5,r5⟩:=t7 I G y n1 n6 a3 0 .non (λg s t A z F Ft=>(nc<|bm<|.bp<|pJ rfl).trans (aD<|bS<|bK (.W<|iK s _)<|.W<|iK t _));obtain⟨m,H⟩:=q0 (M++g5++[.lst .qX]:Hd);rw[<-H]at r5;have ap:∃g,m=h++g:=⟨_,by rw[H,E,r,B,q];dsimp[ZU];rfl⟩;obtain⟨g,hg⟩:=ap;have s2:sIf .tM .ea bT .gU o=.nx .gU m:=by
  refine dy (jd (bm (av (ar .qT r4) (ar (am (d:=.ref p) .fE .dw) r5) (om (by rw[H,ZU];exact .j a2) (by rw[H];exact ca rfl _) λd hd=>by
   obtain⟨s,_,rfl⟩:=z5.mp hd;exact SH l n s))) (bm (av (ar .qT<|y.lo_is _) (ar (.cD<|ar (am (d:=w.enc) .fE rfl)<|G.hi_is _)<|iK hi _) ?_)))
  rw[<-lx,uJ rfl];simp
 have Z:m[c]?=some .gS:=by rw[hg];exact .j hc
 obtain⟨a,ma,qa⟩:=Gh G v Z (e:=aa 1) (f:=aa 3) (σ := σ none none none) .fE .fE;obtain⟨b,mb,qb⟩:=Gh G (v/64) Z (e:=aa 1) (f:=aq jy .h (fC<|.int 64)) (σ := σ .ks none none) .fE (by rw[j];exact av rfl rfl (kC .c .c));obtain⟨L,ra⟩:=(fX G a).mp ma;obtain⟨N,rb⟩:=(fX G b).mp mb;obtain⟨t,tn,te⟩:=Hb W S G.M L N ra rb;have U:=v6 W L N;have mx:pO (xcs a) (xcs b)=xcs .b6:=SJ L.len N.len;have jn:=Hc y.W y.S (I.fit a L) (I.fit b N) (by rw[I.turn a L,ra]) (by rw[I.turn b N,rb]) (t:=t) .a (by rw[mx];exact(I.same W S U _ _).mpr te) m;rw[mx,I.hist W S U]at jn;have mt:=QG W S L N ra rb .a te m;have lm:(xcs .kk).length=(xcs .kk).length:=rfl;have s5:aG (gN 7) .uL .xO m=.nx .vT m:=by
  rw[j];exact aD (ar (.cC<|bK (.W<|iK a _)<|.W<|iK b _) jn)
 have s6:aS .tO .vT m=.rt .gF m:=by
  rw[j];exact aL (nI<|nH (bm<|av rfl (ar (.cD<|ar .cO mt)<|iK _ _)<|Kb _ _)<|bm<|av (.W<|x2 _) rfl<|Nt w _)
 have s0:aG .fR (af dE .F) .uN h=.nx .gU h:=by rw[j];exact aD (.W<|x1 h)
 have s3:aG .dd .yp .gU m=.nx (σ .ks none none) m:=(aD qa).trans .fE;have s4:aG .bn .vD (σ .ks none none) m=.nx .xO m:=(aD qb).trans .fE;refine(bJ (σ:=.uN) rfl rfl .vv).trans ?_;rw[hg];exact cw rfl
end
def Q1(s:Sm d)(a:∀g,ev g d=none)(g:Hd):oNe d d g=.ok .iH g:=by
 have e:eqG g d d=some true:=by
  unfold eqG;rw[a];simp only;rw[z4 (ZM s.2 .c)];exact s.1
 dsimp[oNe,e];rfl
def qd(n6:n<=6)(O:.aR){bs:.b}{ss:.y}(lb:.aX)(ls:.aQ)(os:.bo):Go .x n :=
 ⟨li .a O lb ls,n6,os,pV O os,λf s=>NU O bs ss f s⟩
section
variable{n:Nat}{o:.i}{w w':Web}{lo hi lo' hi':.b}
def OK(O:.E o)(d:.e7)(lb:.gc)(h:LeS a b):LeS (.cd a) (.cd b):=λi=>by
 by_cases c:i<n
 ·have:=h .iS
  rw[<-O.f_g c,kh O d (O.g_lt c),kh O lb (O.g_lt c)];exact this
 ·have e:∀s:List Int,(.bP).getD i 0=0:=λs=>by
   rw[ZF,wZ .Ah];rfl
  rw[e,e];exact X5 _
def Q3(O:.E o)(I:Iso w w' n .i4 .nz)(G:.ae)(c:.hD):lo'=mvd o 0 lo/\hi'=.cd hi:=by
 have m:=λ(s:.b) (F:.S) (r:.ai s=s)=>c.mid _ (I.fit s F) (by rw[I.turn s F,r,I.turn s F,r]);have k:=λ(s:.b) (F:aX w' n s) (r:ay w' n s=s)=>G.mid _ (I.tif s F) (by have b:=.lM F;rw[r]at b;rw[b,b]);have f:=λ(a b:.b) (e:.cW) (d:aX w' n b) (h:LeS a (mvd .eU 0 b))=>(by
  have:=OK O e.len (I.tif b d).len h;rwa[I.fg b d]at this:LeS (.cd a) b)
 have g:=λ(a b:.b) (e:.cW) (d:aX w' n b) (h:LeS (mvd .eU 0 b) a)=>(by
  have:=OK O (I.tif b d).len e.len h;rwa[I.fg b d]at this:LeS b (.cd a))
 refine⟨LeS.eq ?_ (m lo G.loF G.loR).1 (f lo lo' G.loF c.loF (k lo' c.loF c.loR).1),LeS.eq ?_ (g hi hi' G.hiF c.hiF (k hi' c.hiF c.hiR).2) (m hi G.hiF G.hiR).2⟩
 ·rw[eI,O.len,c.loF.len]
 ·rw[eI,O.len,c.hiF.len]
def wR(n1:1<=n)(n6:n<=6)(Or:.E o)(O:.aR)(lb:.aX)(ls:.aQ)(os:.bo)(hw:.oH)(G:.ae){c ok:Nat}(ho:.hB)(hc:h[c]?=some .gS)(hp:h[p]?=some .k8)(F:.S):
  gW [w.enc,.ref ok,.ref c,.ref p,ao s] h=.a2 h:=by
 have X:n<=30:=by lia
 have W:=G.W;have S:=G.S;have b7:(.g0).length=n:=by rw[eI,Or.len]
 have a0:(.hc).length=n:=by rw[eI,Or.len]
 have b9:∀x∈mvd o none ss,x=none\/x=some 0\/x=some 1:=λx hx=>os x (pW Or ls hx);have O2:=pX X Or O;obtain⟨w',H⟩:∃w',w'=dN n o T bs ss:=⟨_,rfl⟩;have nm:ff .kH h=.ok w'.enc h:=by rw[H,hw];exact wH n1 X Or O lb ls os ho
 have I:Iso w w' n .i4 .nz:=by rw[H,hw];exact Lv Or O.lt lb ls
 obtain⟨lo',hi',l⟩:=N1 n6 O2 a0 b7 b9;have l:G23 w' n lo' hi':=by rw[H];exact l
 obtain⟨b5,c1⟩:=Q3 Or I G l;have J:∀{g:Hd} (t:.b),aX w n t->aR [ao t,.ref ok] .N=.ok (ao<|.cd t) .N:=λ{g} t Ft=>wG Or .a Ft.len (aC g ho);have zc:∀{u:Web} {a b:.b},G23 u n a b->(cx u n).length<=SZ:=λ{u a b} K=>ZM .dN (ZM (qZ K n6) .c);obtain⟨g1,Z⟩:=qW l h;obtain⟨k1,N⟩:∃k,k=(h++g1).length:=⟨_,rfl⟩;obtain⟨q,V⟩:=q0 (g1++[.lst .gY]:Hd);have Z:eo [w'.enc] h=.ok (.ref k1) (h++q):=by rw[N,V,<-ZU];exact Z
 have a9:(h++q)[k1]?=some (.lst .gY):=by rw[V,<-ZU];exact ca N _
 have cp:=wQ (e:=af aR .aw) (cp:=[some .dn]) .i4 (aC q hc) (λt ht=>ar .dw (J t ((fX G t).mp ht).1)) none;obtain⟨L,b4⟩:=q0 (q++[.lst .zv]:Hd);obtain⟨j,c0⟩:=q0 (L++[.lst .gY]:Hd);have a2:h++L=h++q++[.lst .zv]:=by rw[b4,ZU]
 have a3:h++j=h++L++[.lst .gY]:=by rw[c0,ZU]
 obtain⟨σ,f⟩:=q0 (λa b=>[some w.enc,some .dn,some (.ref c),some (.ref p),some .G,some w'.enc,a,b]:Option D->Option D->Sd);have q1:aI .t4 .g4 (h++q)=.ok (.ref (h++L).length) (h++j):=by
  rw[a3,f];refine bS (qY (h1:=h++L) (k:=(h++q).length) ?_ (by rw[a2];exact ca rfl _)<|t6 I G l n1 n6) (by rw[ZA];exact zc l);rw[a2];exact bS (cM (.cF<|aC q hc) cp) .zN
 have a1:(h++j)[k1]?=some (.lst .gY):=by rw[a3,a2];exact .j (.j a9)
 have s1:sIf .wV .ea bT .g4 h=.nx .g4 (h++j) :=
  dy (bm (av (ar .qM Z) q1 (om a1 (by rw[a3];exact ca rfl _) λd M=>by
   obtain⟨s,_,rfl⟩:=z5.mp M;exact wP s)))
 obtain⟨g4,r4⟩:=wC l (h++j);obtain⟨r,c2⟩:=q0 (j++(.lst .fv::g4):Hd);have a4:h++r=h++j++(.lst .fv::g4):=by rw[c2,ZU]
 have r4:ge [w'.enc] (h++j)=.ok (.ref (h++j).length) (h++r):=by rw[a4];exact r4
 have b1:(h++r)[(h++j).length]?=some (.lst .fv):=by rw[a4];exact dQ rfl 0
 obtain⟨g5,r5⟩:=t7 I G l n1 n6 (aC r hp) 1 .dn (λg a b A z Fa Fb=>(dy<|bm<|.bp<|pK .c).trans (aD (by
  have na:=J (g:=r++g) a Fa;have nb:=J (g:=r++g) b Fb;rw[<-ZU]at na nb;exact bS (bK (.O na)<|.O nb))))
 obtain⟨v,b0⟩:=q0 (r++g5++[.lst .fv]:Hd);have a5:h++v=h++r++g5++[.lst .fv]:=by rw[b0];dsimp[ZU]
 rw[<-a5]at r5;have s2:sIf .tP .ea bT .g4 (h++j)=.nx .g4 (h++v):=by
  refine dy (jd (bm (av (ar .qM r4) (ar (am (d:=.ref p) .eI<|bK (e:=.ref ok) rfl .eI) r5) (om (by rw[a5,ZU];exact .j b1) (by rw[a5];exact ca rfl _) λd M=>by
   obtain⟨s,_,rfl⟩:=z5.mp M;exact SH w' n s))) (bm (av (ar .qM<|l.lo_is _) (ar (bK (e:=.ref ok) (ar (am (d:=w.enc) .eI rfl)<|G.lo_is _) .eI)<|J lo G.loF) ?_)))
  rw[<-b5,uJ rfl];simp
 have go:Go w n:=by rw[hw];exact qd n6 O lb ls os
 obtain⟨t,E⟩:=go.fin F;have d1:=qA W S F E.ht E.hm E.hz (h++v);have Y:=qA l.W l.S (I.fit s F) ((.m1).mpr E.ht) (λk hk z=>E.hm k hk ((.m1).mp z)) E.hz (h++v++[.lst .cJ]);obtain⟨i,U⟩:=q0 (if hist w n s (t+1)=hist w n s t then .kw else .kh:.i)
 have b2:(if hist w' n .bP (t+1)=hist w' n .bP t then .kw else .kh)=i:=by
  rw[U]
  by_cases z:.p s (t+1)=.p s t
  ·rw[z4 z,z4 ((.m1).mpr z)]
  ·rw[yD z,yD λy=>z ((.m1).mp y)]
 rw[b2]at Y;rw[<-U]at d1;have hL:(bA w' n .bP<|t+2).map ao=(.et<|t+2).map λs=>ao .bP:=by
  unfold bA;rw[y3,y3];exact YK λk _=>by show ao (hist w' n .bP k)=ao (.cd .ck);rw[I.hist W S F]
 rw[hL]at Y;obtain⟨P,hP⟩:=q0 ((h++v).length);obtain⟨C,b8⟩:=q0 (v++[.lst .cJ]:Hd);have a6:h++C=h++v++[.lst .cJ]:=by rw[b8,ZU]
 obtain⟨Q,hQ⟩:=q0 ((h++C).length);obtain⟨m,c3⟩:=q0 (C++[.lst .j1]:Hd);have a7:h++m=h++C++[.lst .j1]:=by rw[c3,ZU]
 rw[<-a6,<-hP]at d1;rw[<-a6,<-hQ,<-a7]at Y;have s3:aG .bn .Ak .g4 (h++v)=.nx .vS (h++C):=by
  rw[f];exact aD (.O d1)
 have s4:aG (gN 7) .vM .vS (h++C)=.nx .lW (h++m):=by
  rw[f];exact aD (ar (bK rfl<|.O<|J s F) Y)
 have gP:(h++m)[P]?=some (.lst .cJ):=by rw[a7,a6];exact .j (ca hP _)
 have gQ:(h++m)[Q]?=some (.lst .j1):=by rw[a7];exact ca hQ _
 have b3:=wQ (e:=af aR .aw) (cp:=[some .a5]) .i4 gP (λu hu=>ar .dw (J u (by
  obtain⟨k,_,rfl⟩:=z5.mp hu;exact bh W S F k))) none
 obtain⟨B,b6⟩:=q0 (m++[.lst .j1]:Hd);have a8:h++B=h++m++[.lst .j1]:=by rw[b6,ZU]
 have sl:∀(R:Nat) (x:EF) (σ:Sd) (g:Hd),x σ g=.ok (.tup [.int t,.str i,.ref R]) g->jY x pNo (pAt .K) σ g=.ok (.tup [.int t,.str i]) g:=λR x σ g e=>by
  unfold jY;dsimp[e,aH];rfl
 have s5:sIf .tI .ea bT .lW (h++m)=.nx .lW (h++B):=by
  refine dy (jd (bm<|av (sl P _ _ _ .eI) (sl Q _ _ _ .eI)<|Q1 (Lw ⟨by simp[peq],by simp[dep]⟩ ⟨by simp[peq],by simp[dep]⟩) .iZ _) (bm (av (bn (x:=.tup [.int t,.str i,.ref Q]) .eI rfl rfl rfl) (y:=.ref (h++m).length) (h2:=h++B) ?_ (om (by rw[a8];exact .j gQ) (by rw[a8];exact ca rfl _) λd M=>by
   obtain⟨u,_,rfl⟩:=z5.mp M;exact wP _))))
  rw[a8,f];exact bS (cM (cW .bb gP) b3) (by rw[ZA,ju];have:=E.hz;unfold SZ;lia)
 have s6:aS .vz .lW (h++B)=.rt .gF (h++B):=by
  rw[f];have e:=Kb (.cd hi) (h++B);have gh:=l.hi_is (h++B);rw[c1]at gh;exact aL (av (.W gh) (ar (bK (.W<|G.hi_is _) rfl)<|J hi G.hiF) e)
 have s0:aG .dd .nS .uD h=.nx .g4 h:=by rw[f];exact aD (.O nm)
 exact(bJ (σ:=.uD) rfl rfl .vv).trans (cw rfl)
end
section
variable{n:Nat}{o:.i}{T:.ah}{bs:.b}{ss:.y}
def N4(O:.E o){l:.b}(a:.cx){x:Int}:x∈mvd o 0 l↔x∈l:=by
 refine⟨pW O a,λh=>?_⟩;obtain⟨p,b,e⟩:=UY h;have:=tZ (d:=(0:Int)) O a (p:=p) .a;rw[ZE b,e]at this;exact ZK this
def SK(O:.E o)(ls:.aQ)(g:∀x∈v,x<n)(mem:∀x,x∈m↔x∈v.map (fo o)):fY .bB n m=.cd (fY .x n v):=by
 have c:∀(u:Web) (k:.i),(fY u n k).length=n:=λu k=>by unfold fY;simp
 refine oQ O (c _ _) (c _ _) λp a=>?_;have q:=O.f_lt a;have f:(.bB).stays.getD .i9 none=(.x).stays.getD p none:=kh O ls a;have d:fo o p∈m↔p∈v:=by
  rw[mem,z5];exact⟨λ⟨x,b,e⟩=>by rw[<-O.inj (g x b) a e];exact b,λh=>⟨p,h,rfl⟩⟩
 unfold fY;rw[ZQ,ZQ,YA q,YA a];dsimp[Y8,f,d]
def OL(O:.E o)(n6:n<=6)(d:.aR)(lb:.aX)(ls:.aQ)(os:.bo)(l:v.Sublist (fr (.x).stays n)):
  ∃m,(jE (kyL .nl)).map D.int=NL m/\m.Sublist (fr (.bB).stays n)/\m.length=v.length/\tb .bB n m=tb .x n v:=by
 have C:=CQ l;have J:v.Nodup:=C.up.imp λh=>ZN h;have r:(.nl).Nodup:=sP J λa u b A e=>O.inj (C.lt a u) (C.lt b A) e;obtain⟨m,s,p,g⟩:=Gb r;have I:=Lv (bs:=bs) (ss:=ss) O d.lt lb ls;have G:=qd n6 d lb ls os;have L:Go .bB n:=qd n6 (pX .a O d) .iy .iy λx i=>os x (pW O ls i);have f:m.Sublist (fr (.bB).stays n):=by
  refine An p .yh λx i=>?_;obtain⟨q,c,rfl⟩:=z5.mp ((g x).mp i);have z:=Y2.mp (l.subset c);have c:=YD.mp z.1;refine Y2.mpr ⟨YD.mpr (O.f_lt c),?_⟩;have B:(.bB).stays.getD (fo o q) none=(.x).stays.getD q none:=kh O ls c;rw[B];exact z.2
 refine⟨m,s,f,?_,?_⟩
 ·have w:m.Nodup:=p.imp λh=>ZN h
  have:=((W2 w r).mpr g).length_eq;rwa[ZA]at this
 ·have F:=oR G.W G.S C
  obtain⟨t,E⟩:=G.fin F;have j:=SK (T:=T) (bs:=bs) O ls C.lt g;have K:CN .bB n (fY .bB n m) t:=by
   rw[j];exact⟨(.mB).mpr E.ht,λk H z=>E.hm k H ((.mB).mp z),E.hz⟩
  rw[Bool.eq_iff_iff,CO E,CO K,j];have z:(0:Int)∈hist .bB n (.cd<|fY .x n v) (t+1)↔(0:Int)∈hist .x n (fY .x n v) (t+1):=by
   rw[I.hist G.W G.S F];exact N4 O (.lR _).len
  exact⟨λh=>⟨(.mB).mp h.re,λy=>h.no (z.mpr y)⟩,λh=>⟨(.mB).mpr h.re,λy=>h.no (z.mp y)⟩⟩
def EK(O:.E o)(j:∀x∈v,x<n)(ha:h[a]?=some .nb)(c:.hB):bU (some a) (NL v) .B [] .j8 (NL v) [none,some .a5] h=.ok (NL .nl) h:=by
 have:=br (g:=some a) (all:=NL v) (tg:=gN 0) (cs:=[]) (e:=fAt .d .f) (h:=h) (λσ=>∃a,σ = [a,some .dn]) .aM (λd=>match d with | .int i=>.int (fo o i.toNat:Nat)|_=>.non) ha (xs:=NL v) (σ:=[none,some .dn]) (by
  rintro x f σ ⟨a,rfl⟩;obtain⟨i,b,rfl⟩:=z5.mp f;obtain⟨k,q1⟩:=O.f_eq (j i b);refine⟨[some .cX,some .dn],rfl,⟨_,rfl⟩,rfl,λ_=>?_⟩;refine bn rfl rfl (bc c) ?_;refine du ?_;rw[ZQ,ZE k];dsimp[Y8,X9,q1]) ⟨_,rfl⟩
 rw[this,Z9.mpr .e];unfold NL;rw[y3,y3];rfl
def um(n1:1<=n)(n6:n<=6)(O:.E o)(u:.aR)(lb:.aX)(ls:.aQ)(os:.bo)(J:.oH)(ho:.hB):
  eG .kH h=.a2 h:=by
 have z:n<=30:=by lia
 have G:(.g0).length=n:=by rw[eI,O.len]
 have r:(.hc).length=n:=by rw[eI,O.len]
 have A:∀x∈mvd o none ss,x=none\/x=some 0\/x=some 1:=λx hx=>os x (pW O ls hx);have O2:=pX z O u;obtain⟨b,d⟩:=q0 .bB;have nm:ff .kH h=.ok b.enc h:=by rw[d,J];exact wH n1 z O u lb ls os ho
 have go:Go w n:=by rw[J];exact qd n6 u lb ls os
 have f:Go b n:=by rw[d];exact qd n6 O2 r G A
 have fw:∀v,v.Sublist .bi->∃m,(jE (kyL .nl)).map D.int=NL m/\m.Sublist (fr b.stays n)/\m.length=v.length/\tb b n m=tb w n v:=λv p=>by
  rw[J]at p;rw[d,J];exact OL O n6 u lb ls os p
 have bw:∀v,v.Sublist (fr b.stays n)->∃m,m.Sublist .bi/\m.length=v.length/\tb w n m=tb b n v:=λv p=>by
  rw[d]at p;obtain⟨m,_,j,h3,Z⟩:=OL (uT O) n6 O2 r G A (T:=T.map (ren o)) (bs:=.cd bs) (ss:=mvd o none ss) p;rw[wO O u.lt lb ls,<-J]at j Z;rw[d];exact⟨m,j,h3,Z⟩
 have s0:.ew .nS .wd h=.nx [some w.enc,some .a5,some b.enc,none,none,none] h:=aD (.O nm);have fin:∀{Q U:D} {N j:Hd},iY .Y h=.ok Q N->iY [b.enc] N=.ok U j->∀{g:Hd},aA .tR (aA .y9
  .tJ) [some w.enc,some .a5,some b.enc,some Q,some U,none] j=.rt .gF .N->eG .kH h=.a2 h:=λ{Q U N j} q1 q2 {g} q=>by
  exact(bJ (σ:=.wd) rfl rfl<|sx s0<|sx (aD<|.W q1)<|sx (aD<|.W q2) q).trans (cw rfl)
 rcases sQ go h with ⟨q1,W⟩|⟨a,t,g,v,q1,ga,M,X,P⟩
 ·rcases sQ f h with ⟨q2,B⟩|⟨I,s,R,E,q2,ga',sv',tv',F⟩
  ·refine fin q1 q2 (g:=[]) ?_
   rw[XD];refine vQ ((nc<|zL .bc).trans (aL<|nI<|nH .bc .bc))
  ·obtain⟨m,l,S,e⟩:=bw E sv'
   rw[W m (lF.mpr l),tv']at e;cases e
 ·rcases sQ f .N with ⟨q2,B⟩|⟨I,s,R,E,q2,ga',sv',tv',F⟩
  ·obtain⟨m,_,l,S,e⟩:=fw v M
   rw[B m (lF.mpr l),X]at e;cases e
  ·obtain⟨m,ms,l,S,e⟩:=fw v M
   obtain⟨k,k1,k2,k3⟩:=bw E sv';have len:v.length=E.length:=by
    have x:=F m (lF.mpr l) (by rw[e,X]);have y:=P k (lF.mpr k1) (by rw[k3,tv']);lia
   have C:=CQ M;have C':=CQ l;have vl:v.length<=n:=ZM M.length_le (mE _ _);obtain⟨H,K⟩:=q0 (h++g++R:Hd);rw[<-K]at q2 ga';have i:H[a]?=some (.lst<|NL v):=by rw[K];exact .j ga
   have V:H[ok]?=some .fx:=by rw[K];exact .j (.j ho)
   have so:kx .tY .ue H=.ok (NL m) H:=by
    have c:=cM (nl:=1) (caps:=[1]) (cW (a:=fAt .h .H) (σ:=.ue) (h:=H) .bb i) (EK O C.lt i V);unfold kx;rw[c,aH,i0];simp only;rw[z4 (by unfold kyL;rw[ZA,ZA];lia),ms]
   have mz:(NL m).length<=SZ:=by rw[ZA,S];unfold SZ;lia
   have gm:.kv[H.length]?=some (.lst<|NL m):=ca rfl _;obtain⟨L,g3,Y⟩:=Ln f C' gm;rw[e,X,z4 rfl]at Y;have l1:cT (lOf<|fAt .h .H) .tU .kv=.ok (.int (v.length:Nat)) .kv:=(dI<|cm .bb<|bc<|.j i).trans .iU;have l2:cT (lOf<|fAt .D .H) .tU .kv=.ok (.int (E.length:Nat)) .kv:=(dI<|cm .bb<|bc<|.j ga').trans .iU;refine fin q1 q2 (g:=g++R++[.lst (NL m)]++g3) ?_;rw[<-ZU,<-ZU,<-ZU,<-K];refine sx (dy<|jd .bc .bc) (sx (aD<|bS so mz) (aL (nI (nH (bm<|av l1 l2<|pJ (by rw[len])) (bm (av (bn (.O Y) rfl rfl rfl) rfl ?_))))));exact rfl
end
section
variable{n:Nat}{o:.i}{T:.ah}{bs:.b}{ss:.y}{M:.av}
/---/def N5(o:.i)(M:.av):Nat->Nat->Int:=λi j=>M .iS (o.idxOf j)
def Lx(O:.E o):o.Perm .k:=by
 rw[W2 O.nd List.nodup_range];exact λx=>⟨λh=>YD.mpr (O.lt x h),λh=>O.mem (YD.mp h)⟩
def N7(O:.E o):(.k).map (fo o)=o:=by
 apply YO;intro i
 by_cases a:i<n
 ·obtain⟨b,q1⟩:=O.f_eq a
  rw[ZQ,YA a,ZE b,Y8,q1]
 ·rw[wZ .Q,wZ (by rw[O.len];lia)]
def EL{f:Nat->Nat}(h:∀q∈r,s.getD (f q.1) 0=s0.getD q.1 0):aU (r.map λp=>(f p.1,p.2)) s=aU r s0:=by
 induction r with
 |nil=>rfl
 |cons p r b=>rw[yP,cD,cD,h p .fc,b λq a=>h q .hN]
def T7(O:.E o)(n30:n<=30)(L:.cu):LP n (N5 o M) n 0 .eO:=by
 refine⟨pX n30 O L.ok,λi h s=>?_⟩;obtain⟨p,k⟩:=q0 .iS;have d:p<n:=by rw[k];exact O.g_lt h
 have r:i=fo o p:=by rw[k,O.f_g h]
 obtain⟨s0,g⟩:=q0 ((.k).map λq=>s.getD (fo o q) 0:.b);have l:∀q,q<n->s.getD (fo o q) 0=s0.getD q 0:=λq c=>by rw[g];simp[List.getD,c]
 rw[r,uU O L.ok.lt d,EL (s0:=s0) λq c=>l q.1 ((jo L (j:=q.1) (v:=q.2) d).mp c).1,L.pl p d s0,<-sh,<-sh];obtain⟨f,m⟩:=q0 (ib (N5 o M) s n 0 .i9);have e:o.map f=(.k).map λq=>f (fo o q):=by
  have:=congrArg (List.map f) (N7 O);rw[y3]at this;exact this.symm
 rw[<-m,<-Ss ((Lx O).map f),e,m];congr 1;refine YK λq c=>?_;have c:=YD.mp c;unfold ib N5;rw[O.g_f d,O.g_f c,l q c];have a:ng n 0 p q:=.inl ⟨d,c⟩;have b:ng n 0 .i9 (fo o q):=.inl ⟨O.f_lt d,O.f_lt c⟩;dsimp[a,b,true_and]
def N8(O:MOk M):MOk (N5 o M):=⟨λi j=>O.sym _ _,λi j=>O.bd _ _,λi=>O.no _⟩
def HK(n1:1<=n)(F:n<=4)(O:MOk M)(t:∀i j,M i j<=200)(m:.cu)(lb:.aX)(ls:.aQ)(os:.bo)(q:.oH)(G:.ae)(h:Hd):
  ∃d,jx .Y h=.ok d h/\∃k h' l,eo [d] h=.ok .an h'/\h'[k]?=some .b3/\l.length=(.bf).length+2*(.bQ).length/\∃g,h'=h++g:=by
 have C:¬KM n M:=λ⟨i,j,_,_,z⟩=>absurd (t i j) (Int.not_le.mpr z);have u:=Ew n1 .a O m C lb ls os h;obtain⟨d,c⟩:=q0 .b2;rw[<-q,<-c]at u;have ok:=Ct n1 (show n<=15 by lia) O (λi j _ _=>t i j) m;have p:w.stays=ss:=by rw[q];rfl
 have e:d.stays=ss++ss:=by rw[c];rfl
 have f:∀x∈ss++ss,x=none\/x=some 0\/x=some 1:=λx D=>os x ((Z0.mp D).elim id id);have A:d.Ok (2*n):=by rw[c];exact li .a ok (by unfold iy;rw[ZB,ZA,lb];lia) (by rw[ZB,ls];lia)
 have S2:bN d:=by rw[c];exact f
 have r:qz d d (2*n):=by rw[c];exact pV ok f
 obtain⟨lo2,hi2,s⟩:=KU A .a S2 r (by rw[e];refine ZM .dN ?_;rw[ZB,ls];lia);have H:Dbl w d n lo hi lo2 hi2:=⟨G,s,by rw[e,p],λa b y v=>by rw[c,q];exact KY .a O m ok lb ls y.len v.len y.bits v.bits⟩;obtain⟨E,B⟩:=qW s h;refine⟨_,u,_,_,(yM d n).map ao,B,ca rfl _,?_,_,ZU _ _ _⟩;rw[ZA];exact H.count
end
def Q4(ns:.b)(b1:ns.length<=63):∃h,FP .nJ []=.a2 h:=by
 obtain⟨n,M0,bs,X,bk,sk,h0,P⟩:=KE ns (mo:=6) .c .c;have A:=P.n30;have W:=P.n1;have n6:n<=6:=by have:=P.nmo;lia
 have Q:=P.lb;have N:=P.ls;have U:=P.os;obtain⟨q,C⟩:=q0 (.tup .se:D);obtain⟨S0,Z⟩:=q0 (.lit .eH:D);have a7:=P.run;rw[<-C,<-Z]at a7;obtain⟨c0,a4⟩:=tW ns 0 .c;obtain⟨c4,a9⟩:=tW ns 4 .c;obtain⟨c5,b0⟩:=tW ns 5 .c;obtain⟨c6,a0⟩:=tW ns 6 .c;rw[<-Z]at a4 a9 b0 a0;obtain⟨u,r,e1,mt,ba,st⟩:=NK (S0:=S0) C A Q P.bkn (YC P.bkn P.skn) P.mt P.ba P.st;obtain⟨M,hM⟩:=q0 (clp M0);rw[<-hM]at mt;have O:MOk M:=by rw[hM];exact QT P.mo
 have w2:∀i j,M i j<=200:=λi j=>by rw[hM];unfold clp;lia
 have m:Md h0.length (0+n) n M bs X bk sk u:=⟨W,A,mt,O,ba,st,Q,N,U⟩;obtain⟨T,ql,R⟩:=KG m;have mq:=NA m ql R;obtain⟨w,V⟩:=q0 (aM n T bs X);rw[<-C,<-V]at mq;obtain⟨lo,hi,G⟩:=N1 n6 R.ok Q N U;rw[<-V]at G;obtain⟨o,g2,q4,k4,Or⟩:=HD c4 W A u;obtain⟨y,a5⟩:=q0 (u++g2:Hd);rw[<-a5]at q4 k4;obtain⟨ok,hok⟩:=q0 (u.length+1);have q4:lu [.int c4,.int n] u=.ok .dn y:=by rw[hok];exact q4
 have k4:y[ok]?=some .fx:=by rw[hok];exact k4
 obtain⟨g3,r3⟩:=qW G y;obtain⟨c,hc⟩:=q0 ((y++g3).length);obtain⟨E,J⟩:=q0 (y++g3++[.lst ((.bf).map ao)]:Hd);have r3:eo .Y y=.ok (.ref c) E:=by rw[hc,J];exact r3
 have kc:E[c]?=some .gS:=by rw[J];exact ca hc _
 obtain⟨g4,r4⟩:=wC G E;obtain⟨p,hp⟩:=q0 (E.length);obtain⟨S,z⟩:=q0 (E++(.lst .pG::g4):Hd);have r4:ge .Y E=.ok (.ref p) S:=by rw[hp,z];exact r4
 obtain⟨l,q5,l5,b5⟩:=Nx c5 c0 2 n .a .c .c S;obtain⟨f,t⟩:=q0 (S++[.lst .br]:Hd);rw[<-t]at q5;have B:nK l:=λi=>by
  by_cases hi:i<l.length
  ·have e:l.getD i 0=l[i]:=by simp[List.getD,hi]
   have:=b5 l[i] (YR hi);rw[e];lia
  ·left;rw[ZF,wZ .a];rfl
 have m5:Md h0.length (0+n) n M bs X bk sk f:=by rw[t,z,J,a5];exact((((m.more _).more _).more _).more _).more _
 have fq:=Ep m5 l5 (k:=S.length) (by rw[t];exact ca rfl _);rw[<-C]at fq;obtain⟨s,hs⟩:=q0 (xy X l);have F:.bz s:=by rw[V,hs];exact(KI N U l5 B).fits T bs
 rw[<-hs]at fq;have ko:f[ok]?=some .fx:=by rw[t,z,J,ZU y];exact .j (.j<|.j k4)
 have Y:f[c]?=some .gS:=by rw[t,z];exact .j (.j kc)
 have kp:f[p]?=some .k8:=by rw[t,z];exact .j (dQ hp 0)
 have x1:=p0 W n6 R.ok Q N U V G Y kp c6;have x2:=wR W n6 Or R.ok Q N U V G ko Y kp F;have x3:=um W n6 Or R.ok Q N U V ko;have ln:∀(x2 x3 x4 x5 x6 x7 x8:.P),cT .mN [some S0,some q,x2,x3,x4,x5,x6,x7,x8] u=.ok (.int (n:Nat)) u:=λ_ _ _ _ _ _ _=>(dI<|cm (x:=.ref bk) (by rw[C];exact bn rfl rfl rfl rfl)<|bc ba).trans (by rw[ZA,Q]);have e0:Kc .vA []=.nx [some S0,some q,none,none,none,none,none,none,none] h0:=aD (.O a7);have e2:Kf [some S0,some q,r,none,none,none,none,none,none] u=.nx .vd u:=aD (.W mq);have e3:Kg .vd u=.nx .uI u:=aD (ln _ _ _ _ _ _ _);have e4:Kh .uI u=.nx .ur y:=aD (ar (bK (.O<|a9 _) rfl) q4);have e5:Ki .ur y=.nx .ug E:=aD (.W r3);have e6:Kj .ug E=.nx .ua S:=aD (.W r4);have e7:Kl .ua S=.nx .t1 f:=aD (ar (bK rfl<|ar (am (.O<|b0 _)<|am (.O<|a4 _) .dw) q5) fq);obtain⟨σ,a⟩:=q0 (.t1:Sd);have e8:Km σ f=.nx σ f:=by
  rw[a];exact dy (.d1<|bm<|ar (am rfl<|.cC<|bK rfl<|.O<|a0 _) x1)
 have e9:Ko σ f=.nx σ f:=by
  rw[a];exact dy (jd (.d1<|bm<|ar .zS x2)<|.d1<|bm<|.O x3)
 have H:∃v,FO σ f=.rt .gF v:=by
  by_cases n4:4<n
  ·refine⟨f,?_⟩
   rw[a];exact aL (nI<|zL<|bm<|.bp<|JX .a)
  ·have a3:=T7 Or A R
   have a1:(.hc).length=n:=by rw[eI,Or.len]
   have a6:(mvd o none X).length=n:=by rw[eI,Or.len]
   have a8:∀x∈mvd o none X,x=none\/x=some 0\/x=some 1:=λx hx=>U x (pW Or N hx);obtain⟨w',K⟩:∃w',w'=dN n o T bs X:=⟨_,rfl⟩;have nm:ff .kH f=.ok w'.enc f:=by rw[K,V];exact wH W A Or R.ok Q N U ko
   have I:Iso w w' n .i4 .nz:=by rw[K,V];exact Lv Or R.ok.lt Q N
   obtain⟨lo',hi',G'⟩:=N1 n6 a3.ok a1 a6 a8;have G':G23 w' n lo' hi':=by rw[K];exact G'
   obtain⟨d,dq,k,v,L,rq,gk,len,_⟩:=HK W .a (N8 O) (λi j=>w2 _ _) a3 a1 a6 a8 (w:=w') K G' f;have cl:=(I.calm G G').length_eq;have sl:=(I.sway G G').length_eq;rw[ZA]at cl sl;obtain⟨g,hg⟩:∃g,v=f++g:=by assumption
   refine⟨v,?_⟩;have lc:cT (lOf .ak) σ v=.ok (.int ((.bf).length:Nat)) v:=(dI<|cm (x:=.ref c) .iD<|bc (by rw[hg];exact .j Y)).trans .iU;have lp:cT (lOf .bj) σ v=.ok (.int ((.bQ).length:Nat)) v:=(dI<|cm (x:=.ref p) .iD<|bc (by rw[hg];exact .j kp)).trans .iU;have q1:cT .uV σ f=.ok (.int (L.length:Nat)) v:=dI (cm (ar (am (ar (.cD<|ar (bK (d:=w.enc) (e:=.ref ok) .iD .iD) nm) dq) rfl) rq)<|bc gk);exact aL (nI<|jd (bm<|av (x:=.int n) .iD rfl<|vO .a)<|bm<|av q1 (av lc (av rfl lp<|j7 .c) rfl)<|pJ (by rw[len,<-cl,<-sl];lia))
 obtain⟨v,H⟩:=H;rw[a]at e8 e9 H;rw[<-Z];exact⟨[],(bJ (σ:=.vA) rfl rfl<|sx e0<|sx e1<|sx e2<|sx e3<|sx e4<|sx e5<|sx e6<|sx e7<|sx e8<|sx e9 H).trans (cw (h:=[]) (g:=v) rfl)⟩
end Fm
end
end
noncomputable section
def PySem.W.Fast.tw90343872475197607 : Type := PySem.Params
theorem PySem.W.Fast.te90343872475197607 : PySem.Params = PySem.W.Fast.tw90343872475197607 := rfl
def PySem.W.Fast.tw2400635860362589612 : PySem.Program := PySem.Challenge.pw_followmost_k56_whole_answers_exchanged
theorem PySem.W.Fast.te2400635860362589612 : PySem.Challenge.pw_followmost_k56_whole_answers_exchanged = PySem.W.Fast.tw2400635860362589612 := rfl
def PySem.W.Fast.tw6312858408105349423 : Nat := 0
def PySem.W.Fast.tw8806924204148462706 : Nat := 0
def PySem.W.Fast.tw17587749785099219439 : Nat := 0
def PySem.W.Fast.tw15904993985845360256 : Nat := 0
def PySem.W.Fast.tw14646476404214622329 : Nat := 0
def PySem.W.Fast.tw11338048482916336899 : Nat := 0
def PySem.W.Fast.tw15733572913708922078 : Nat := 0
def PySem.W.Fast.tw11970840588150489178 : Nat := 0
def PySem.W.Fast.tw1391030013155045239 : Nat := 0
def PySem.W.Fast.tw4939365342873979979 : Nat := 0
def PySem.W.Fast.tw2464244833157023441 : Nat := 0
def PySem.W.Fast.tw9507334917318396307 : Nat := 0
open PySem PySem.W PyProof.Rows
set_option maxRecDepth 100000 in
set_option maxHeartbeats 0 in
theorem PySem.Challenge.cw_followmost_k56_whole_answers_exchanged_holds : PySem.Challenge.rw_followmost_k56_whole_answers_exchanged.Holds := by
 w_on;o_law;k_head;(case hw=>w_witness2)
 k_fill
 refine Fm.RW (l := PySem.Challenge.rw_followmost_k56_whole_answers_exchanged) (F := Fm.FP) (k := 21) (x := "_law_script") rfl rfl ⟨rfl, by decide, by decide, rfl⟩ (fun w h Y => PySem.W.kIn_of Y) ?F Fm.Q4
 case F =>
  intro w mg fa h KX G hmg
  refine' Fm.QM KX G hmg ?_ ?_ ?_ ?_ ?_ ?_ ?_ ?_ ?_ ?_ ?_ ?_ ?_ ?_ ?_ ?_ ?_ ?_ ?_ ?_ ?_ ?_ ?_ ?_ ?_ ?_ ?_ ?_ ?_ ?_ ?_ ?_ ?_ ?_ ?_ ?_ ?_ ?_ ?_ ?_ ?_ ?_ ?_ ?_ ?_ ?_ ?_ ?_ ?_ ?_ ?_ ?_ ?_ ?_ ?_ ?_ ?_ ?_ ?_ ?_ ?_ ?_ ?_ ?_ ?_ ?_ ?_ ?_ ?_ ?_ ?_ ?_ ?_ ?_ ?_ ?_ ?_ ?_ ?_ ?_ ?_ ?_ ?_ ?_ ?_ ?_
  all_goals first|refine' Fm.At.i ?_ ?_ ?_ ?_|unfold Fm.Nb|skip
  all_goals try first|k_is|k_exc|kit_is
