import PyProof.Rows.All
import Wide.All
import OpenK.AllK
import Wide.FinOn
import Lean
import PyProof.EqAt
import PyProof.EqKinds
import PyProof.TupleCall
import PyProof.NeKinds
import PyProof.IsInstanceH
import PyProof.IsiNone
import PyProof.EnumMake
import PyProof.Draws
import PyProof.ZipIter
import PyProof.ListRange
import PyProof.Rows.StrJoin2
import KE.RegKIsAll
import PyProof.ExcAttrAll.ValueError
import PyProof.NsDelKeeps
import KE.KTops
import KE.KIntText
import KE.IntTextLaws
import PyProof.FString5
import PyProof.CallStr
import PyProof.Rows.StrSplitCount
import PyProof.StrBlock2
import PyProof.StationsW
import PyProof.ExcClass2
import OpenK.KMake
import PyProof.Rows.StrCase
import PySem.Challenge.RW_followmost_k54_desk_rows_refused
set_option Elab.async false
set_option linter.all false
set_option maxRecDepth 100000
abbrev zST:=@List.length_map
abbrev zAK:=@List.length_append
abbrev zAL:=@List.getElem?_append_left
abbrev zAM:=@List.getElem?_append_right
abbrev zAN:=@List.getElem?_eq_getElem
abbrev zAO:=@List.getD_eq_getElem?_getD
abbrev zAP:=@List.getElem?_concat_length
abbrev zAQ:=@PySem.Heap.get?_push_of_some
abbrev zAR:=@PySem.Heap.lt_size
abbrev zAS:=@PySem.Heap.get?_push_size
abbrev zAT:=@List.mem_of_getElem?
abbrev zBK:=@Nat.le_refl
abbrev zBL:=@Nat.le_trans
abbrev zBM:=@Nat.ne_of_lt
abbrev zBN:=@List.length_range
abbrev zBO:=@List.getElem?_set_ne
abbrev zBP:=@List.getElem?_map
abbrev zBQ:=@List.map_append
abbrev zBR:=@Nat.lt_of_le_of_lt
abbrev zBS:=@Option.some.inj
abbrev zBT:=@List.append_assoc
abbrev zCK:=@List.mem_cons_self
abbrev zCL:=@List.mem_cons_of_mem
abbrev zCM:=PySem.W.Frag
abbrev zF:=@PySem.wpAny_bind
abbrev z0:=@List.getElem?_eq_some_iff
abbrev z3:=@if_pos
abbrev z4:=@List.mem_cons
abbrev z5:=@decide_eq_false
abbrev yM:=@if_neg
abbrev y3:=@decide_eq_true
abbrev xI:=@List.map_cons
abbrev xR:=@List.length_cons
abbrev xS:=@List.mem_append
abbrev xT:=@List.mem_map
abbrev xU:=@PySem.wpAny_pure
abbrev x4:=@List.mem_singleton
abbrev YP:=@Nat.lt_of_lt_of_le
abbrev X0:=@List.getElem?_set_self
abbrev X1:=@List.append_nil
abbrev X2:=@of_decide_eq_true
abbrev UC:=@List.size_toArray
abbrev UD:=@List.map_map
abbrev UE:=@Bool.and_eq_true
abbrev UG:=@Bool.false_ne_true
abbrev UH:=@Nat.lt_trans
abbrev zg:=@List.filter_eq_self
abbrev zh:=@List.lookup_cons
abbrev zi:=@PySem.F.excBase_ValueError
abbrev zj:=@Nat.lt_succ_of_lt
abbrev wb:=@List.length_nil
abbrev wh:=@Nat.ne_of_gt
abbrev wm:=@Nat.zero_add
abbrev wx:=@Nat.lt_succ_self
abbrev vb:=@decide_eq_true_eq
abbrev vr:=@Nat.lt_irrefl
abbrev vx:=@List.map_congr_left
abbrev vy:=@List.mem_append_right
abbrev vz:=@PySem.W.mg_of
abbrev zZa:=@PySem.PassesOwn.never
abbrev zZb:=@PySem.W.mg_none_of
abbrev zZc:=@Nat.zero_le
abbrev zZd:=@PySem.wpAny_mono
abbrev zZe:=@List.length_take
abbrev zZf:=@Bool.false_eq_true
abbrev zZg:=@List.pairwise_cons
abbrev zZh:=@List.zip_cons_cons
abbrev zZi:=@PySem.Heap.size_push
abbrev zZj:=@Nat.le_of_lt
abbrev zZk:=@Option.map_eq_some_iff
abbrev zZl:=@List.take_of_length_le
abbrev zZm:=@Option.isSome_iff_exists
abbrev zZn:=@List.length_set
abbrev zZo:=@List.nil_append
abbrev zZp:=@Nat.lt_succ_of_le
abbrev zZq:=@Int.natCast_nonneg
abbrev zZr:=@List.replicate_succ
abbrev zZs:=@Ne.symm
abbrev zZt:=@PySem.sizeLine_eq
abbrev zZu:=@List.map_nil
abbrev zZv:=@List.mem_of_mem_take
abbrev zZw:=@List.pairwise_append
abbrev zZx:=@List.length_replicate
abbrev zZy:=@PySem.wpAny_field
abbrev zZz:=@List.getElem?_eq_none
abbrev zYa:=@PySem.wpAny_callSpecial?_slot
abbrev zYb:=@List.cons_append
abbrev zYc:=@Int.toNat_natCast
abbrev zYd:=@List.drop_eq_getElem_cons
abbrev zYe:=@List.nodup_cons
abbrev zYf:=@PySem.wpAny_holding
abbrev zYg:=@PyProof.Rows.callWith_type1
abbrev zYh:=@if_true
abbrev zYi:=@Option.some.injEq
abbrev zYj:=@List.mem_range
abbrev zYk:=@List.mem_filterMap
abbrev zYl:=@PySem.W.looks_findIn
abbrev zYm:=@PySem.wpAny_loadPart'
abbrev zYn:=@List.all_eq_true
abbrev zYo:=@List.not_mem_nil
abbrev zYp:=@List.getElem_mem
abbrev zYq:=@PySem.W.hideAll_get
abbrev zYr:=@List.flatten_cons
abbrev zYs:=@List.pairwise_map
abbrev zYt:=@PySem.wpAny_pyIter_tuple
abbrev zYu:=@PySem.wpAny_call_entry
abbrev zYv:=@List.take_length
abbrev zYw:=@Nat.le_of_eq
abbrev zYx:=@Int.ofNat_le
abbrev zYy:=@PySem.wpAny_newObj_type
abbrev zYz:=@Nat.le_of_lt_succ
abbrev zXa:=@List.filterMap_cons
abbrev zXb:=@List.getElem?_range
abbrev zXc:=@List.mem_filter
abbrev zXd:=@Int.min_eq_left
abbrev zXe:=@Option.map_some
abbrev zXf:=@PySem.call_isinstance
abbrev zXg:=@PyProof.Rows.slot_tuple_getitem
abbrev zXh:=@PySem.W.of_hideAll
abbrev zXi:=@PySem.wpAny_Call_Name_kw
abbrev zXj:=@List.length_drop
abbrev zXk:=@List.drop_length
abbrev zXl:=@Int.emod_lt_of_pos
abbrev zXm:=@PySem.codeAny_mono
abbrev zXn:=@List.all_cons
abbrev zXo:=@Nat.lt_succ_iff_lt_or_eq
abbrev zXp:=@PySem.isSubtype_type
abbrev zXq:=@PySem.wpAny_truthy_bool
abbrev zXr:=@List.ext_getElem?
abbrev zXs:=@PySem.wpAny_loadPart_at
abbrev zXt:=@PySem.wpAny_getItem_str_slice
abbrev zXu:=@Nat.not_lt_zero
abbrev zXv:=@Nat.not_lt
abbrev zXw:=@PySem.Str.ofString_eq_toList
abbrev zXx:=@Nat.add_left_cancel
abbrev zXy:=@PySem.F.plainAttrs_str
abbrev zXz:=@Bool.or_true
abbrev zWa:=@Nat.le_add_right
abbrev zWb:=@PySem.Calls.Name_function_global
abbrev zWc:=@PySem.W.callWith_K
abbrev zWd:=@if_false
abbrev zWe:=@PySem.F.slot_tuple_iterator_next
abbrev zWf:=@PySem.wpAny_seqItems
abbrev zWg:=@Nat.lt_of_le_of_ne
abbrev zWh:=@PySem.wpAny_setField_rec
abbrev zWi:=@Array.getElem?_eq_some_iff
abbrev zWj:=@List.nodup_iff_pairwise_ne
abbrev zWk:=@PySem.Heap.get?_update_self
abbrev zWl:=@List.length_filter_le
abbrev zWm:=@PySem.F.slot_dict_getitem
abbrev zWn:=@Int.emod_nonneg
abbrev zWo:=@List.any_eq_false
abbrev zWp:=@PySem.Heap.get?_push_ne
abbrev zWq:=@Nat.add_le_add_right
abbrev zWr:=@List.take_succ_eq_append_getElem
abbrev zWs:=@PySem.PassesOwn.leaving
abbrev zWt:=@Nat.mul_le_mul_right
abbrev zWu:=@PySem.wpAny_standAt
abbrev zWv:=@List.any_cons
abbrev zWw:=@PySem.wpAny_comprehension_free
abbrev zWx:=@List.sum_cons
abbrev zWy:=@PySem.mem_of_lookup
abbrev zWz:=@Int.eq_ofNat_of_zero_le
abbrev zVa:=@PySem.Heap.size_update
abbrev zVb:=@decide_eq_false_iff_not
abbrev zVc:=@Nat.le_succ
abbrev zVd:=@PySem.typeIs_str
abbrev zVe:=@PySem.Heap.get?_update_other
abbrev zVf:=@Int.le_trans
abbrev zVg:=@List.drop_of_length_le
abbrev zVh:=@List.find?_cons
abbrev zVi:=@List.length_singleton
abbrev zVj:=@PySem.wpAny_pyIter_list
abbrev zVk:=@List.mem_append_left
abbrev zVl:=@Array.perm_iff_toList_perm
abbrev zVm:=@PySem.codeAny_call_builtin
abbrev zVn:=@Nat.mul_le_mul
abbrev zVo:=@List.length_take_le'
abbrev zVp:=@List.take_zero
abbrev zVq:=@Int.min_eq_right
abbrev zVr:=@Int.le_of_lt
abbrev zVs:=@Nat.le_of_not_lt
abbrev zVt:=@List.filter_cons
abbrev zVu:=@List.map_set
abbrev zVv:=@List.pairwise_iff_getElem
abbrev zVw:=@List.mem_or_eq_of_mem_set
abbrev zVx:=@PySem.Heap.get?_update_ne
abbrev zVy:=@List.toList_toArray
abbrev zVz:=@Nat.add_le_add_left
abbrev zUa:=@Nat.add_lt_add_left
abbrev zUb:=@List.getElem?_take_of_lt
abbrev zUc:=@PySem.F.args_tuple_add_2
abbrev zUd:=@PySem.wpAny_passesOwn
abbrev zUe:=@List.of_mem_zip
abbrev zUf:=@PySem.W.KasT.kasWp_bind
abbrev zUg:=@PySem.post_val_or_str
abbrev zUh:=@PySem.SeqAt.EqAt.int_int
abbrev zUi:=@Int.not_lt
abbrev zUj:=@PySem.Obj.data_mapFields
abbrev zUk:=@Nat.add_right_comm
abbrev zUl:=@PySem.wpAny_sequenceKey
abbrev zUm:=@List.nodup_append
abbrev zUn:=@Bool.not_eq_true'
abbrev zUo:=@PySem.call_meets
abbrev zUp:=@Bool.false_or
abbrev zUq:=@PySem.wpAny_noRaise
abbrev zUr:=@List.map_take
abbrev R0:=PySem.Value
abbrev R1:=PySem.Shared
abbrev R3:=PySem.Around
abbrev P6:=PySem.Program
abbrev P7:=PySem.World
section
set_option hygiene false
set_option compiler.extract_closed false
theorem Q0Q(h:True:=by first|exact .inl rfl|exact .inr rfl|assumption):True:=trivial
theorem Q1Q(h:True:=by decide):True:=trivial
theorem Q2Q(h:True:=by intro _;rfl):True:=trivial
theorem Q3Q(h:True:=by rfl):True:=trivial
theorem Q4Q(h:True:=by intro _ _;rfl):True:=trivial
theorem Q5Q(h:True:=by decide +kernel):True:=trivial
theorem Q6Q(h:True:=by intros;rfl):True:=trivial
def Qen:Nat->Lean.Syntax->List String->List String
|0,_,l=>l
|_,.atom _ v,l=>("a"++v)::l
|_,.ident _ _ x _,l=>("i"++toString x)::l
|n+1,.node _ k s,l=>(match k with|.str `Lean.Parser.Term w=>"t"++w|_=>"n"++toString k)::s.foldr (Qen n) ("e"::l)
|_,_,l=>l
def Qhs:List String:=["iγ","iδ","iε","iζ","iη","iθ"]
def Qde(r:Lean.SourceInfo)(h:Array Lean.Syntax):List String->List (String×Array Lean.Syntax)->Lean.Syntax
|t::l,(k,s)::m=>
 let v:=String.ofList t.toList.tail
 match t.toList.head?,m with
 |some 'n',_=>Qde r h l ((v,#[])::(k,s)::m)
 |some 't',_=>Qde r h l (("Lean.Parser.Term."++v,#[])::(k,s)::m)
 |some 'e',(j,u)::q=>Qde r h l ((j,u.push (.node r k.toName s))::q)
 |some 'a',_=>Qde r h l ((k,s.push (.atom r v))::m)
 |_,_=>Qde r h l ((k,s.push (h.getD (Qhs.idxOf t) (Lean.mkIdent v.toName).raw))::m)
|_,(_,s)::_=>s.getD 0 .missing
|_,_=>.missing
def Qdt:Array String:=#["e","nnull","tdotIdent","thygienicLParen","tapp","nhygieneInfo","a.","nLean.Parser.Tactic.rcasesPatMed","nLean.Parser.Tactic.tacticSeq1Indented","tparen","nLean.Parser.Tactic.rcasesPatLo","nLean.Parser.Tactic.rcasesPat.one","nLean.Parser.Tactic.tacticSeq","n«term_<|_»","nLean.Parser.Tactic.optConfig","iγ","a(","a)","a,","n«term[_]»","nnum","nLean.Parser.Tactic.rwRule","nLean.Parser.Tactic.rwRuleSeq","n«term_=_»","nLean.Parser.Tactic.rwSeq","i[anonymous]","tbyTactic","tbasicFun","nLean.Parser.Tactic.rcasesPat.tuple","tnamedArgument","nLean.Parser.Tactic.locationHyp","a<|","nLean.Parser.Tactic.location","tanonymousCtor","nLean.Parser.Tactic.exact","a]","a[","nLean.Parser.Tactic.simpLemma","thole","nLean.Parser.Tactic.obtain","n«term_∧_»","nLean.binderIdent","nLean.Parser.Tactic.elimTarget","nLean.Parser.Tactic.rcasesPat.ignore","tfun","a=","a⟨","a⟩","a;","a_","a:","a:=","aby","arw","aexact","a=>","aλ","iδ","tproj","tletId","tletIdDecl","tletDecl","nstr","iε"]
def Qcd(t:String):String:=let i:=Qdt.toList.idxOf t;if i<Qdt.size then String.singleton (Char.ofNat (i+33)) else t++"\n"
def Qsp:List Char->List Char->List String
|c::l,[]=>if c.toNat<97 then Qdt.getD (c.toNat-33) ""::Qsp l [] else Qsp l [c]
|c::l,a=>if c=='\n' then String.ofList a.reverse::Qsp l [] else Qsp l (c::a)
|[],_=>[]
local macro_rules
|`('§' [$a,*])=>
 let l:=a.getElems.toList.map λx=>String.join ((Qen 999 (if x.raw.isOfKind ``Lean.Parser.Term.paren then x.raw[1] else x.raw) []).map Qcd)
 pure (Lean.quote (k:=`term) ((List.range (l.length/32+1)).map λi=>"\t".intercalate ((l.drop (32*i)).take 32)))
def Qtb:List String:='§' [some γ,(by lia),(by decide),.ref γ,.int γ,(by simp),.ai Nat,.str γ,(γ).trans δ,(by refine L2.ctn γ),(by simp[γ]),.ai Int,.ai D,.gY s,(by exact⟨γ,δ⟩),(by rw[.ap γ δ]),.lst γ,(by refine ag ?_ ?_ ?_),(γ).length,.a (.d γ),(by exact b.elim),.ok γ h,.a (.e γ),.a (.q γ),At K γ,.d a,.ai .g,absurd γ,(by exact⟨γ,δ,ε⟩),decide γ,.tup γ,.inr γ,.inl γ,.ai R0,(by rw[.cN γ (L2.ctn δ)]),.as D,.g5 _,(by rw[γ,δ]),(γ:Int),ae γ am,(by exact .G γ),(by exact .F γ),(if γ=δ then ε else ζ),.ai V,γ<=sizeLine,.w n,PE.imp γ,(by refine .Cd av),.hR fC γ,.as Int,.mq ae γ,ay γ rfl,.W 1,γ rfl rfl,(by decide +kernel),.s (γ δ),.og fC γ,PE X γ,bg _ γ,.aS h γ,List γ,Fun K γ,w.Ok n,(by exact⟨γ,δ,ε,ζ⟩),.ai Addr,(by exact(.Z γ)),.v (.e γ),(by rw[γ];exact δ),(bZ.bind γ).imp,xT.mp γ,Option γ,0,.bv ρ γ δ ε,γ=true,(z0.mp γ).1,(λσ h=>γ),(by rw[.hr γ δ]),aC (aU γ),(by rw[γ]at a;exact δ),ae (aa γ),γ _ _ _,.M (γ:Nat),(by rw[γ];rfl),.a x,.e i,.t h.length,.a (.h γ),.d C,.d n,ME X γ,.a v,.D (γ=δ),[48],.uU X,nss_cons γ,.a td,γ++.cw δ,.fU OkD,γ σ H,(by by_cases e:γ=δ),.w i,γ σ h,.v (.bl γ),bC (aG γ),γ pins,.W 0,.i (γ δ) ε,aF (gN γ),ag (mv γ),.jt x,.fU Def,.a d,.a c,(by rw[this]),.W 2,.a o,.ed Addr Obj,(by rw[γ]at e;cases e),.a w.enc,zBL γ .c,.B rfl,⟨γ,δ,rfl,ε,ζ⟩,γ (.d δ),z4.mp γ,0,0,(by omega),.cons γ,.b3 x,.M n,.aL a,(by rw[.gm e p]),γ b o e,γ<=1000000,.nR rfl,⟨γ,σd,δ,ε,ζ⟩,.nR False,.a (.t γ),0,(by simp;lia),(by rw[γ]),.av X.calm,(by exact p.elim),(γ δ).map,fAt (aa γ),γ->Prop,spY K mg γ,[none],aA (sPl γ),(by simp[γ,δ]),(by exact c.elim),.a u,.aX a,(by refine⟨γ,δ⟩),(by rw[.bd c]),⟨_,γ,δ⟩,.type γ,(by rw[γ]at b;rw[.u]),.Qy γ X.env,γ K ρ H,.ok (.e γ),.b0 bp s,.ed Nat Int,X.mg γ=none,.ai α,.t k,.a (γ δ),cW (tE γ),(by exact .g7),Gl X γ,List.replicate γ,.G rfl,.ah .Qb,.ok (.d γ),l.map γ,H γ=none,.ai Tie,z3 rfl,[102,114,101,101],.aC γ _,.Rv γ fd,.iP 1,.D (γ<=δ),⟨γ,δ,ε,rfl,ζ⟩,(by rw[.C o γ δ]),aB γ a,aj aW γ,cZ (cX γ),.Y6 K γ,⟨_,γ⟩,⟨rfl,γ⟩,lexLt γ,fny_mk γ,av (aL γ),aq γ .B8,0,.a b,(by rw[.eB (γ ?_) δ]),[.q γ],.as Addr,γ (aa 2),(γ σ h).bind,γ (aa 1),.de rfl,.bM=.cR γ,.fU DefY,.bT RH hd,(λσ h=>.cz a λx h=>γ),.ab bq (aS γ),γ->Bool,γ (.jc δ),(∀b o,γ),aj dH γ,[32],γ=false,(by refine γ;refine δ),.a true,eval γ X.env,.ok (.bl γ),.ok γ h1,.ah [],.i (.ab bE γ) aM,.bT RD d v,aw γ rfl,nss_one γ,(by refine γ ?_;exact δ),(.fS γ).map,(if γ then δ else .bad),(by refine γ;rw[.j δ]),.cM (γ == δ),(by rw[.gm γ p.elim]),.de true,⟨γ,?_⟩,(by rw[γ];lia),.nx σ,vz X G,.eg "len",.CT bB,(by rw[.cN (γ ?_) δ]),(by rw[γ]at q;cases q),(by rw[.aA γ a.elim]),.dN d,(λ_=>γ),x4.mp γ,(γ).map δ,⟨γ,[]⟩,γ->.xe,K.lookup γ,.bP γ rfl,.ai .l,I.tuple γ,.ab cI,0,.qe l,(by refine γ ?_;refine δ),aa γ σ,.md zAS,γ .int,.a false,ah rfl,thn (.a0 γ s σ H _ I h),γ s.heap,.ai Expr,.bP rfl γ,.ab cI γ,.g8 bH,.gp H',aG (.ia γ),.Q γ true δ ε,zCL _ γ,.af e γ,.dg γ .int,(by by_cases z:γ=δ),(λx y H Q=>γ),0,(by rw[c]at e),γ (aa 0),.ok γ h',.bl true,upd H γ,h.get? γ,(λ_ f=>?_),["web"],0,.ai Str,.a (.E γ),sIf (tE γ),[.eG γ],.mn T,(λx y h=>γ),1+T.length,na_of γ,(show γ from rfl),(by subst e;exact γ),ns_if γ,.nx γ h,.CX γ s,SqT.of γ,u=.ee γ,cD γ eO,.lF v,(by rw[.c2 c]),(by rcases .f5 a with a|a),.ai (γ × δ),Value.ref γ,(false,eval γ X.env),mg γ=none,.dg γ .str,(by simp at h),aj oNe,(n:Int),.ai Stmt,.ai .X,NS X E,.aB γ am,bD [10],0,.di Addr,.NZ 115,.aY false,(by rw[.eR γ (.au δ ε ζ) η]),.j2 X,.ic h',γ a σ h,γ I.hok,.ck (.ae γ),[116,105,101],(by refine γ;exact δ),.a l,(by refine⟨γ,δ,?_⟩),Res.bind γ,(by simpa using e),bO.lst γ,γ<s.heap.objs.size,(by intro z;cases z),.k1 rD RD,γ->.bF R1,congrArg γ,nbs T i,(.tB<|.bS γ).any (·.1)=false,.ol bT,.g8 Dk dk,.dD rfl,(by refine γ;rw[.c0 δ ε]),(by exact f.elim),(by have:=γ;rwa[δ]at this),.au γ δ ?_,(by rw[γ];decide),(by rw[.dq γ (.eU δ ε)]),(by cases e;done),(γ).get?,(γ).toArray,.ok d γ,.jT dL γ,Res α,I.list γ,SqL.of γ,.fV au,.a j,.cY n,.a n,(by rw[.cN (zF γ) δ]),⟨aJ,dB,γ⟩,(λσ H Q=>γ),[98,97,114],.gO (aa γ),aA (.gG γ),(by rw[.ap γ δ]),(by exact .b5),(by rw[γ]at z;cases z),.ok (.h γ),.exc γ,.w (γ:Nat),H a=.a γ,(by rw[γ];simp),p.getD γ 0,Nat->Nat->Int,.F (.F γ),HOk P w H,(λ_ b=>?_),.bT RDs,.ab bE,D.int γ,.dQ γ=.bb,.e (γ:Nat),(if γ<δ then ε else ζ),γ σ h1,⟨o,γ⟩,γ X.K C,.eK R0,K.In h,⟨#[c]⟩,upd γ a,p.1,.a2 i4 γ δ,.a i,.a3 5,.aL b,.b9 b,.seq γ,(γ)[h.length]?,Fy.nss_cons γ,(by show .eE _ _=_;rw[p,aE]),(by rw[.rF e γ]),(by refine .c4 γ),(by exact False.elim γ),List.range γ,.w way,γ P w K mg base,ag γ ao,.tp (.Qz X.w) X.A γ,γ (mv 2),⟨h,g,d,t,os⟩,x=none\/x=.hI\/x=.a 1,w.stays.map bT,l.length<=γ,(by exact X2 rfl),γ<=1000,γ trivial,xS.mp γ,.ed Str γ,RS X.K,Ext.same γ,.ai Env,.ah (.eh γ),Addr->.di .cx,Sum.inl γ,.iS X.N,.a2 γ δ (.a2 ε ζ η),.hi 0,.gn n γ,X.length+γ,⟨γ,?_,δ⟩,.e n,.M 1,(by rw[γ]at c;exact c),(by rw[γ]at p;exact δ),.Name γ,(λ_ c=>?_),Ext ρ H ρ',Ext ρ H,fC .non,OpR X (compareOp γ),γ K ρ' H',.Cc K (.d γ)=true,zAQ _ γ,.iQ γ=.bb,zF (γ ?_),(λ_ a=>?_),(λz=>?_),NSs X E,(λb o e=>γ),.eg "range",Str->.xq,.Ce (.d γ),.y n st,.a3 2 γ,gc zZa rfl γ aJ,.cZ γ (.v δ),(by exact g.elim),aA (dR γ),zZb X G,.cm γ=.iR,KD (k γ),aj oEq γ,l.take γ,[115,116,97,121],(by simp only;rw[γ]),.k4 n,.s (γ++δ),.a y,.aX f,(γ).toNat,.a3 1 γ,.aP H γ,f σd γ,.bool γ,bS γ us,48<=c/\c<=57,L.map D.str,⟨γ,δ,ε,ζ,?_⟩,⟨γ,rfl⟩,beq_eq_false_iff_ne.mpr γ,.F rfl,γ n T bs ss,γ (mv 0),γ X.prog X.w,h'.get? γ,γ (zBK _),dq rfl,ss.length=n,zg.mpr .f,kU n T,.gZ hd,.a4 γ ao,.N (.W γ),.jk a=.yK a,.bS (e::γ),.mt EP Q,.aj n n st f,h++.dX γ,.b4 γ none,.aY true,(by rw[<-γ];exact δ),(by rcases .bj γ with e|e),(by rw[.da γ δ];rw[.j ε]),(by rw[.hS γ δ];cases this),(by rw[γ]at h;cases h),bK 2 2 γ,.Cj .q7,I.pin p,ff γ X.A,qZ γ n s,bF eE ge,l.drop γ,(by rw[.j .hU]),(by rw[.da bN .rf]),(by rw[.pO γ];rfl),.d k,.v d,.a 0,⟨γ,rfl,δ⟩,.d l,.d b,.q (γ++δ),.dM fAt,.fy b,(by rw[γ,δ,ε]),(by rw[c]at b),γ (.e δ),(by have:=γ;rw[δ]at this),(γ,true),(λ_ j=>?_),(λ_ g=>?_),.tp (model prog w) A γ,.a0 γ s σ H,.th K (.d γ),ne_call γ (a.mono .c) rfl,aj γ (aa 1),(by simpa using γ),γ X.K X.mg,b.natAbs<10^60,s.length<=30,γ<=l.length,T.map cC,bc (gJ γ) jO,X.wish γ,(λ_ h=>?_),.ab aw γ,.v (.h γ),.fj x γ,.f4 eK rfl,.b8 .int,0,.cj γ .gf,(.dB).enc,.AC au,.aQ (ns_of γ),(by rw[γ]at a;cases a),.i γ ?_,zBR γ .c,0,γ x c e,I.ok.hd γ,γ b=.bb,e.trans γ,0,.Y γ am,Sd->.tI γ,γ it .f,.fU En,IsPair γ,(by rw[γ]at b;exact δ),(by exact this),(by rw[.j .hV]),.a f,qq (γ:Hd),.rM γ _,PSs X γ,bL 32 γ,.Cl γ h,[98,97,114,32],MW.mt γ,(by rw[.O ⟨γ,δ⟩]),.kp f,.lF y,[.z],⟨γ,δ,ε,ζ,η,θ,?_⟩,.D (γ<δ),s.heap.objs.size+γ,s.heap.get? γ,.a none,(γ)[i]?=.aF,.a (.a γ),.bi Q γ,.S xs.length,(by rw[<-γ];simp),.ok .k0,(λ_ _ h=>γ),i<l.length,qF h a D o,Array R0,(λ_ i=>?_),.ef e::.bS γ,.Io .int,[102,101,119,101,115,116],.dg γ (·.2),h[k]?=.x γ,h.length+γ,.F (.G γ),γ (toS l),Array .xq,.CT ah γ,.a6 γ 1 1,.hN .a1,sx (eC γ),.ch _ rfl .K (.de γ),[116,105,101,32],(by rw[γ]at f;rw[.eS]),(γ).flatten,.bS [γ],.a3 3 γ,(γ).Pairwise,γ=l.length,.bn γ .nil,aH (i:=γ),.j3 γ .eJ,eQ rfl,.ins C dx,.c1 γ ("__debug__" : Str),Rfs dk (.h γ),.di β,h.set γ,sx (dL γ),cy 1 [] γ (gN 0) [],(by dsimp[RD]at h),(by exact trivial),(by simp[γ,δ,ε]),(γ δ).take,aj dU γ,γ (i:=i),.C4 γ H,.aL o γ,γ σ' h,.dv (.dv γ),(by rw[<-γ,<-δ];exact ε),.a a,.cn e,.aX r,.aX b,.t (γ+δ),.v (γ δ),.d s.heap.objs.size,.t G.length,.d s2.heap.objs.size,.a2 γ δ rfl,γ (aa 3),(by rw[.eV γ]),γ X.prog X.w X.K X.mg X.base,bc (cB γ) dm,(λ_ _ _ _=>trivial),.bJ List.getD γ,(λo=>i o (h o)),PS.imp γ,.aS G γ,p.here γ,em g all h,bs.length=n,letGo h,X.mg x=.t γ,pure? γ=true,zBL (γ _ _),.g1 xs,(λ_ o=>?_),aV rfl,.s8 apos.endLine cpos.line,.aL (.Call (.gn γ p) [a] [] pos),.fj (NT γ),.qI "thing",.h (toS γ),.kI (.eo γ),γ (.s1 rfl),.lW (aa γ) (aa 3),PySem.W.clsIn γ,.lp pos,aA (.fI γ),.rp 1,.aL e γ,(λxs H Q=>γ),(λD σ H=>γ),HT.sIx γ,ps.length=γ,Fy.gd γ,sml γ=true,.x .i4,.x .eO,nb jY l,.Cm R γ E,.g8 bM,sx (skp .b rfl),bE (σ:=γ) rfl rfl,[106,111,105,110,101,100,32],[115,116,97,110,100],.kZ n,.aI X,(γ).push,.aB 0 γ,γ σ H1,.ok ds,qG X.K,z3 .b,γ (n:=n),.bU γ h1,γ _ _ h,.tp _ _ γ _ _,r σd γ,.hX h γ,γ .q7 h,γ X E e,.Aw (aG rfl),.xx f,(by refine .aa4 γ),(γ:Nat),Str.ofString γ,.d h.length,(by dsimp[γ,δ]),d.heap.objs.size+γ,.a .local,.cY γ .y2,(γ).isSome,[.ws,.aI r,.aH,none],dE X scope own capn caps,X.fn x=true\/.p1 x,.wj=.a σ',(λ_ _ _=>False),RDs.cons γ,.Ob Loc,g.below γ,rdG (bL 10 γ),.B γ .f,ns.map V.int,.bQ "tuple",LP n M γ 0 T,gT [0,1],k _ _ .b5 e,.ed Int D,(γ)[n]?=.x l,jI X (.oi γ),(λ_ s=>?_),.gn x γ,.eg "isinstance",(γ).symm.trans,Value.type γ,0,T.take i,.v (.tup γ),(γ).objs.size,.Jb .abh γ f,.dv .CU,T.lookup l,pB M n n,aA (.gX γ),aA (.a3 4 γ),(by simp only at b;split at b),(by obtain⟨t,_,rfl⟩:=.ar γ),cS γ u,.nx γ h',(by have:=γ;lia),sx (fE γ),.Rw (γ+j),ah γ rfl,Kp.same γ,.dP a γ,.a dx,.af a ta,γ a b σ h,.as Nat,zYx.mpr γ,w.stays.getD γ none,.head _,MI X tg,γ n _ a c,aj ek γ,SqL X.K,γ++.yF [],lQ (tE γ),(by exact z.elim),.W 3,.IG X,.t a,.d f,[.h γ],(γ).isNone,Gd n p,Rd H a,.Io gr,.aY (! γ),nA γ n M,spF K γ,γ _ rfl,[109,101,116],.e v,.a ⟨γ,δ,ε,ζ⟩,⟨γ,δ,rfl,ε⟩,.a k,.w b,0,(by rw[.al γ δ rfl ε]),(by dsimp[γ];exact δ),TOk n n 0,.JQ l,{ cls:=.bQ γ,data:=δ },γ (.ae δ),PySem.W.fnOf γ,.Attribute γ,γ X pins σ,.z0 (mv γ),(.kY γ:Int),.bl false,γ (mv 1),Heap.FlyingW B γ a .aJ .w8,(∀x,foldedSetIterable γ X.env x=pure x),[110,117,109,98,101,114],.w cell,line cz [.bp],(bZ.bind (R:=rD X.K) γ).imp,.a S0,γ≠X.env.locals,.BE γ Q E s,X.pin .zn,cL rfl (aS γ),exO a C t,.hR γ i (.e j) h,(λz=>by rw[.fh γ]),s.getD γ 0,PySem.W.codeIn K,.n4 γ rt lb bb,rs.getD γ [],R.map D.str,(γ)[i]?=.aM,gC P w H h a,.g0 true,aQ ik jh γ ow,(∃ρ σd hd,.bT RS σd hd σ/\γ),.Cq o γ X.env (.cP o)=.cP o,.fW γ (.mt EP Q) X.xe,.dg γ D.str,bD .cL γ,.ad sg s,.eg "tuple",bN (ck ao<|.ru<|bh _ _ _ _ z),bj (.Z γ),.bt l.length,[115,119,97,121,115,32,γ,32,48],.hd γ (.mx dv),T.map iM,.aN a b,(if γ then δ else none),(by dsimp[γ]at e;cases e),(by rcases .f5 γ with z|z),aw rfl γ,.dQ a=.a γ,0,.cW (gh γ),Kp ρ H,["self",γ],γ (mv 3),holding γ,[.aR,γ,none,none,none],.eg "str",.ok (.E γ),.D ((γ).1=k),.Subscript γ,aQ jo kN,aQ jm kM,aQ eP fU,aQ fL iy,aQ fM iz,aQ ij jg,Res.ok γ,γ<s.length,0,X.pin q,far i t,PI X tg,.ok (γ,none),.hN .ba,.og Q γ H,.cs bV,[a,b,w],(by dsimp[rD,RD];exact .bh γ δ ε ζ),.W 4,.eo 1,(by rw[.j .go]),(γ).2.2.2.2,(λσ H R=>γ),cR (iE γ),bB rfl γ,.a4 0 γ,bB γ rfl,(λ_ _ q=>γ),(λ_ _=>γ),t γ σ H,.B γ .c,.dw he,.d dk,z5 .b,iD rfl,kE rfl,.bF Hd,yM .b,zZk.mp γ,MT X γ t,IsPart γ,γ hn1 hn,.ed κ γ,c8 (.cA lOf),(by rw[γ]at f;exact δ),(by rw[γ,<-δ];exact ε),(by rw[.j .xC]),(by rw[.j λ_ F=>?_]),0,(by rw[.da bN (.Cd ji)]),(by rw[γ]at d;exact δ),(by rw[.C γ δ rfl]),(γ δ).mono,γ (.h δ),PySem.W.subIn γ,.builtin γ,Inv X pins,0,ss.map γ,.t lk,.vZ np,γ La Lb s.heap l1 l2,.e7 λi=>γ,{ s with toks:=s.toks+1 },0,0,OpR X (binaryOp γ),.fields γ,ae .a1,Sq2 γ s.heap,.a (.exn γ []),dW (by rw[zBP,γ];rfl),wrt z.1 z.2,cj (o:=HO.tup γ),Fy.spY K mg,.qf i (.a γ),fm.zip L,γ one other,x≠"__name__",Txt.slice x,K w.params,.hz (k+1),gD X.K fd ps,fj .c,frs X.stack,(λ_ e=>?_),(λ_ n=>?_),.fj (NX γ),[115,γ,97,121,115,32],.bT RS σd hd σ,.aP γ { s with heap:=h',toks:=t' },.tw (.M γ=j),.k5 γ=true,.qB .R,dj none γ (gN 0) [],.jX γ (mv 1),same a b,.f3 X.length,r.map uj,.Jb CX0 γ f,Fy.nss_one γ,F ds h,bF jJ jN,aq γ (.ki 1),(by intro pins s σ H Q I h;refine γ),(by dsimp[γ]at h1;subst h1),(by rcases .bj γ with rfl|a),(by dsimp[RDs]at h),.i γ (.bA δ),bK 1 1 (bf γ),IntsAre γ,(by show γ;lia),.ListComp γ,.gG (bJ γ),.QQ γ .tj=.cO,.bT de γ En,dS G γ [] e,NA X E (e::γ),.iX (.ah γ),.cR (.h γ),γ l.length,Nat × Int,.cD γ k np F,RDs.append γ,Array Nat,(.oD).any,.a .cell,.Ry (.fk γ),M i (i+1+γ),zBO (zZs γ),I.tok _,H γ=.x xs,.a6 γ 1 2,.as Bool,.fj NSx,.tr wG γ b,aq F r,aA (.jl γ),dF (.Dq γ),SqT X.K H,[112,101,114,115,111,110],.yH (D.str [c]),lG a C,γ (own:=δ) (capn:=ε) (caps:=ζ),(by intro a b c d z;have e:=γ;rw[.eV δ]),(by intro a b c d z;have g:=γ;rw[.eV δ]),(by rw[γ]at d;cases d),(by rw[γ]at g;cases g),.g5 t,(by show .eE _ _=_;rw[γ]),(by dsimp[RD]at a),[.t lk,.T,.aH,.w (.kY .xc:Int),z],.eo 3,.rp 2,i3 γ .g7,.dP p γ,bK 3 3 γ,(γ).filter,.af γ tb,L.drop γ,Ext ρ',.M t.a,X.env.scope.names.lookup γ=.k3,γ X.K ρ',i0 γ n [],f (tb:=γ),γ b=none,.fj y γ,bL c l,.ai KW,X.xe e,bD [c],.Dw cE,.t tk,cS x v,.fs γ vs,σ.set γ,.pb γ ns,zZg.mp γ,o.dict=γ,zZm.mp γ,(ak γ) a b c d z,[116,117,114,110],[106,111,105,110,101,100],.aB 1 γ,i6 rfl,.o1 (Fy.ns_of γ),.h d::W,(by rw[.da aC γ]),(by rw[.j λ_ K=>?_]),(by rw[zXp];kernel_rfl),(by cases c;exact γ),(by subst e;exact γ),.gv q,.t A,.tg "NoWeb",model prog w,s.heap.push γ,γ->Hp->.bF VK,pure false,.B γ (by rw[z];exact vr _),aj γ (aa 2),.Xp x=.a8,PySem.W.mroIn K γ .ZI=.cO,(.gc γ:Key),["web",γ],.Gb (zBK _),.aI (sg s),ExcBaseFacts B newId initId,bW h.xp,(λσ=>.GV [a]),["_law_model_here"],scope.names.lookup γ,.Assign [γ],PostX.ext γ,.th K .aK (.d γ)=.du,rD X.K,(by simpa using g),bootBuiltins x=.a γ,(by simpa using d),dj (.a γ),X.A.units+γ<cLine,A.handled=none,(λσ H Q i=>?_),qq (h.length),γ (.ab ah),.E (.KM γ),.Constant γ j,.Call (.gn γ p),γ (.xf C s H ex),[w.enc],.a3 γ (bJ am),(∀p,.b9 p->.iU p (.pU γ)),(λi j=>.e γ),.mh _ γ rfl,.op (.d γ),R (.ok<|.ret γ),[.aI w,.aI f],.Cd ck,.fU Fy.DefY,.DP (kf i r),assign γ X.env,.cm (.kZ γ)=.bx C,de.ext (o:=γ) e p,.l9++.wV,Hp->.bF (.di γ),.Cz iA σd,[.om,.T,.aH,.RH,.dV<|.dH .ky],.nO (.hi γ),.G3 x p1,.dW (.fd 4 γ),.oO "NoWeb" γ,0,(λ_ _ _ _ z=>by rw[.eV γ]),{ s with heap:=γ },.no o i f,.hl es=.i3 es,.g0 false,L.map .str,.jd "many_of" bV,bC (b:=true) (aG γ),cE (.q2 cA),.tu 2 (mv γ) .bu,(by have:=γ;simpa using this),(by rw[γ]at q;exact δ),(by obtain⟨i,_,rfl⟩:=.ar γ),(by obtain⟨t,rfl⟩:=c;exact γ),.fb (.aU t γ),hZ γ (gN 6),⟨o.slots,γ⟩,.lb γ RDs.nil,I.hok γ,i<vs.length,big .b .b,dX (n := γ),.abK (.Z γ),[γ,none,none],atI γ (i:Int),zYe.mp nd,.mt L2.Inv,(.dB).Ok n,.xn Fm.rfs,.jO γ n,.gh γ<=1000,.CZ (aa γ),γ t a b σ h,.ia rfl,(λz=>e (γ z)),[114,101,115,116,115],[112,97,105,114,115],(λ_ r=>?_),(λ_ Q=>?_),.tm K .aJ,.a .non,.a .free,Srt lt p,.oP 119,.aX t=.cR γ,w.stays[(γ)]?,γ (.c5 zST),.rt d h',.bT RD k,(λz=>.Ip),.aa2 .qy,.jV zZt,other+1,h++a++l,tK _ _,.eY γ b=.bb,g[k]?=.x γ,zBM (zAR γ),.mp "tuple" (.fL γ),(by rw[zAK];show γ;lia),vs++dvs,.hN .aa,.QK jP,(by have e:∀n<7,γ:=.ac),(by rw[γ];constructor),(by cases e;exact γ),(by obtain⟨_,_,_,q⟩:=q;exact q.elim),zF (zF γ),l.length-γ,[.be,.aH,γ],(λx c e=>γ),Fy.na_of γ,(λz=>γ z.2),aA (.q8 γ),okT γ=true,aV (lJ γ),upd H1,.xv 100,.lG σ',.ee .cf,nv (aV γ),.xA γ rfl,r.trans γ,zXv.mpr γ,h[tk]?,.aP H',.Tk γ (a::b::rest) pos,pL hok,V->.oU,zj h.2,.a [],.QL RD,.fA mP,.jg ?_,γ ds h=.dd,.ab bq rfl,.Tk γ (b::rest) pos,.Q γ δ (.a ε) ζ,(by rw[.rE (.aw γ)]),.mu 1,.hi 1,.uE z,.av (γ == δ),.k2 1,(by exact e.elim),.fm e,.df z,.iQ b,(by rw[.j .CI]),(by rw[.MZ .abq]),(γ,false),PySem.W.kitOne γ,.tg "NoPeople",.bQ "BaseException",.tg "NoStand",.tg "TooMuch",PySem.W.findIn γ,.tg "NoRest",.tg "NoText",wpAny γ,.tg "NoRow",γ X pins,.tp (.Qz X.w) X.A,.mr n n (c7 st) (cG st) (aD st) .none kV γ pm,bi (mv γ),[.t lk,.w st,.T,.aH,.w k,γ],.bl (.D γ),.zY e γ pos.line X.env=pure false,0,[.w c,.fT,.w m,.w base,.qx,.w γ,.aW],Q γ { s with heap:=h' },backTo pos,zBM (.AN e I.ok.above),γ (t':=s.toks),X.s₀.heap.objs.size<=γ,.dg .ZU bp,.c1 γ ("__classdict__" : Str),.OC b γ σ h,Hd->Res γ,.lit (.dt ns.map),(by dsimp[rD,RD];rfl),(λc A a s H E b => ?_),γ K H a xs,cw [.nV,.h γ] h,(by simpa using c),(by rw[aK γ];exact q),.H7 γ 1,γ mainGlobals mg,(λσ H Q e=>?_),(by simpa using h),.lV h.hp.cel,(by simpa using b),tS w n r wd L rs,Ext.write (zAT γ),bK np n b ds h,i.natAbs<10^60,.ab ah,.ahz ([γ]:.ai Expr),ak (ak γ),γ == NameKind.free&&env.scope.kind == .function&&env.kindOf n == .pr,.eh (wd::L),(λσ g e=>.aa1 (.L e γ)),bM n γ bs ss,.aL (.no a γ pos),.jD (aa γ),xU (.hJ _<|xU h),codeAny .qz γ,.bs I.base.there,.hY bU (.d γ)=.du,.hY aZ (.d γ)=.du,.bj (I.stkSub b γ),.hY bA (.d γ)=.du,.hY bR (.d γ)=.du,.hY bX (.d γ)=.du,.hY bu (.d γ)=.du,I.type (M:=.qz),.eL List.length,V->.X->.qB .X,thn (.xr γ _ I h),.lM .pH,.bE 2 (aa γ),.a6 "is_between" 2 3 aY,outE (.aX γ) σ,tE (.fd 0<|.ae γ),ax .Py γ,fPl (.ki γ),aA (dF γ .Rj aX),.fN (Fy.ns_of<|aL γ),.ax (.cz a λl h=>γ),[116,117,114,110,32],ag (.cj γ .gf),bJ (.cy ja<|bJ γ),(by intro pins s σ H Q I h;rw[.I γ δ]),(by rcases .bj γ with rfl|d),(by cases z;done),.gv e,(λ_ _ z=>γ),bF n9 Cn γ au,aK (λz=>γ),.i (.ft γ) cN,(λb u e=>γ),(by simp;exact γ),.ah (.dH γ),PA X (e::es) γ,(∃a xs,x=.z/\γ),.B γ (vr _),lt (.fn γ),E .aJ none,[115,119,97,121,115,32,γ,48],.tr Cov H B,.B γ (zXu _),.cW (ns_of γ),Inv γ pins σ,.ju γ "NoWeb" h,γ≠j.objs.size,[.Q γ 1 49 48],(nC γ o).map bp,(λz=>wh γ z.2),fR.lookup wd,(by simp at e),.dg γ (·.1),(by rw[γ,e];rfl),isTrue γ X.env,min γ x.length,ke w n s,.Tuple γ k pos,γ (a:=aa 1),n<hd.length,.oO "NoRow",1<=X.length,cV (dM rfl γ),MA X (e::γ) r,ThR w (wSt,γ),iN wd L,(λ_ kq=>?_),ρ[n]?=.a γ,eG (nbs T γ),xs.length<=γ,.bT γ σd σ,jI X (.bQ γ),XN n tk A,(λ_ m=>?_),.rc (A+i),.dx IsTup,.N .a1,⟨a,b⟩,.a (.str z.1),.a (.str z.2),(λz=>! .oz),.ah (X.map .str),drop H a,kZ M n i,[(.cc,none),(.xi 48,.hI),(.xi 49,.a 1)],X.env::X.outer,ρ++[p],.gB .uD,acc++[γ],gB (ss.take γ),.cY γ (lK w s),.kQ (γ >>= .de _) _,.m3 γ (mv 1),bc yj t8,h.ok t a,[111,107],.JS c8,.CZ .aa,(by rw[γ]at p;dsimp[δ]at p),.fb (.yj γ),.lW (.W γ),lw rfl γ,.CX γ .fY,.tail _ γ,(λb u q=>γ),.ot .Add γ,.tM SqT,c8 (lOf γ),.a (.ob γ),aK (cM q γ),Fy.fny_mk γ,ds.length=γ,.fl (.dK γ),eq_of_beq γ,.Ik γ (.t A.length),tb.lookup γ,.ts (.cP γ),.aX t=.dN γ,R.getD γ [],oh xs ys,lI T l,y3 rfl,.oT (sn γ),γ<a.length,.hR Q γ H,H γ=.dV vs,qL (st:=γ),A.deeper γ,γ=a.length,γ=h.length,.C0 .o2,tg x σ,atI l i,.w one,(p:Int),.ah .qq,Fm.oo k,SqL K H,t.a<t.b,yq .c,.t dk,.a ob,.QA st,.hb γ=.bb,γ .c .c,.xm R γ Q,i7 (aa γ),.QI γ=.qC,PSs.imp γ,i8 γ=true,α->.tI γ,0<=x/\x<γ,h.trans γ,.uI ?_,.q xs,hf b w,[48+n],.gx xU,a == b,[115,104,111,119,γ],.a2 dZ γ ?_,(λx vs H Q=>γ),sx (aH γ),na_cons γ,om (ju γ),qM (ju γ),.cV γ rfl,zYf ?_,Fy.ns_if γ,.ol fz,(by rw[.hS γ δ];rw[.iz]),(by subst this;exact γ),(by rw[γ]at f;cases f),.m9 γ (.a δ),.G ⟨γ,δ⟩,.h8 R,.hi 2,(by rw[.qr (.DO γ)]),(by have:=γ;rw[δ,ε]at this),.eo 2,.dF c,.ku F,.d t,.lM o,.vC t,.G h,.QA 1,0,.bF Hp,cxC X (own++capn) scope cl,.vV (aa γ),XT d s Z n bk sk .qx,[115,116,97,121,115,32,γ],pR K γ .Sn "ValueError.__new__" .iR=true,a.mono .c,s.heap.objs.size + γ,bZ K γ ρ H σd σ,(by dsimp[γ]),.kH (h.push<|ma rest) (md C h.objs.size),ne_call γ .Z6 rfl,.as R0,γ pos pins s σ H,.AE (bF i9 oj (mv γ) au),y.2=.free->∃c,cl.lookup y.1=.a8,γ K mg ρ H,x.length<=γ,⟨⟨[],.f⟩,λ_ h=>.xb,γ⟩,.kU NE γ,X.env.frame=.a X.env.locals,(.rM b u γ).stay,fA (v:=.d γ),(by simpa using a),(λ_ d=>?_),[γ,.T,.aH,a,b,c,none],["web","word","things"],bc tV t9 (mv γ) eu (aP _),.c1 a sysModules,e n (zZp d.n6),dD none all (gN γ),(by rw[γ];exact zBK _),.ch (.bl γ) H I q,.WV γ b=false,Heap.SameBut γ s.heap,.oh γ .aJ (.d M)=.cO,γ≠s.heap.objs.size,.AE (mv γ),(λa b=>a.1<b.1),sIf γ (bf<|fC .mw) aX,bf (fC .mw),[.hT "NoRow",.hT "NoStand",.hT "NoPeople",.hT "NoRest",.hT "TooMuch",.hT "NoWeb",.hT "NoText"],.xh .aW (.w F) (.w γ),.WY (CX1 P w) γ A outer s H E,dE.a .DD,[w.enc,.h γ,.hG],(by simpa using h1),.Xm (.f4 z3),[119,101,105,103,104,116],γ (.xf j.objs.size s2 H1 O),.HX 0 lo,.y9 bQ (all:=γ) (tg:=gN 0) (cs:=[]),.fU Fy.XDef "NoText" 1,.eY (.oo zm5) γ,(.QT<|.bS γ).any (·.1),.Compare γ,.dP s.heap.objs.size γ,(sn γ).getD 0,(∀ds h,γ ≠ .bad->.on),jR (t:=γ) rfl,(by rw[aK γ];exact e),.HX a.size hi,(λσ=>∃a,σ=γ),RDs.cons .BG,(λv c h=>.qM),.gw b->.wv b,.dW (.SU<|aj lV (aa 2)<|.W γ),.aU ta λx H1=>γ,.qn (.eo γ),[.q<|.eh<|γ :: L,.IA],.Rv k γ ps .PN,assignEach γ X.env,[101,110,100,101,100],[.be,γ,none,none,none],.qQ (.lp pos') γ pos,.qX k γ (gN 0) [],.Slice lo hi none,.x7 e [o] [d] g,toString i,[109,101,116,32],.o0 k γ ps (.mc F np),aq aY (.aB γ<|.ov<|.N<|.F0<|aa 0),.jf (dZ<|.c9<|fJ W γ h),.aB 2 (.ki 1),(by rw[Sem.wp]at h⊢),(match γ with|some d=>δ|none=>.bad),(by intro pins s σ H D I h;refine γ),(by obtain⟨t,e⟩:=(.Gd γ)),(by obtain⟨t,rfl⟩:=r;rfl),[.ob γ],.i (.ft γ) aM,l.map λc=>γ,ly [w.enc,γ] h,.ax (.cz x λp h=>γ),.ef γ::.bS [],[.e a,.e b,.e γ],.tp .Ch A γ Q E s,.tu γ (mv 6) .bu,(λ_ _ _ H _ I h=>γ),.fs .Di (γ (·.2)),.QQ γ (.d bY)=.cO,⟨l.toArray⟩,.ed String Bool,l[i]?=some l[i],L.length<=γ,beq_iff_eq.mp γ,(γ).kasWp cmp Q s,.E [.h γ,.e 6],.Cw γ .ellipsis,.kQ (γ >>= _),.oO "NoPeople",wU (mg:=mg) KB,(λk:Nat=>.fu k),0<=x/\x<=12000,c=48\/c=49,.Cf d γ::outer,(λj:Nat=>.fu γ),.ff o γ,yM (zUi.mpr γ),γ (g:=none),F.map cC++[z],oF rs=.a ths,.JJ .mj,.x .g3,.qI "stand",kF rfl a (mv γ),(∀x c,.abc x->γ),List.lookup γ,A.units+γ<cLine,[.aR,.jR,γ,b,c],.ow La l1 xs,.ow Lb l2 ys,.f6 NameKind,X.pn++pins,γ X.K ρ H,Value.int γ,(by rw[γ,z];rfl),.cK (aa γ) .aa,SqM γ K H a xs,NE X E (.RJ γ),(zBS γ).symm,h.Ns1 dx mA,.QF (.t s),s.map D.int,X.stack=.vz,.aaZ e f g i,.g8 QX x,.k r.len,.hY γ .aK=.du,.hY γ .Ij=.cO,bQ (g:=.a γ),cH [S0,.e γ],(c,j)∈CL,okR r=true,.eg "list",LP n M one,(λ_ _ e=>e),s.length=n,.h2 yx E f,(λ_ _ x=>x),[z,TO,j,l],zg.mpr .bu,.exn c [],(λ_ l=>?_),(λ_ D=>?_),lS.refl _,pure (ForInStep.yield γ),.bE 2 .a1,ov d f H,S.map cC,swapsWith γ,.ff zST γ,bi γ au .bu,[112,101,111,112,108,101,32,49,γ,10],.xu XC γ x hd',.RD (γ+x.length),.jk a=[.ef a],c9 (.ni iG γ),.jk e=.i3 [],.HX 0 lo,zBM (wx _),.ng ρ' H',[115,119,97,121,115],E.take i,.dM gg,.cz r λxs h=>γ,(by rw[γ]at a;unfold dD at a),(by rcases .bj γ with z|z),(by rename_i z;cases z),(by dsimp[γ]at p;rw[.bC]),(by simp at q;subst q),(by rw[γ]at c;dsimp[δ]at c),(by exact h.elim),Eq.trans γ,.xu qV γ E Q,(∀ds h d h',γ),sPl (bf γ),(λz=>wh γ z.1),.E [.fw i,γ],.cn (zAN γ),.dg γ D.int,.j6 (.e0 γ),.sr (γ<=1000),(by cases e),sx (.jT fE γ),(γ:.g)≠jE,γ hn O lb ls,.m3 γ (mv 3),[45,49],Sq2 L γ l xs,.g9 bi γ .bu,ns.length<=γ,bF fY fZ γ,.Co γ=.x ys,T.obj _ _,(p.1:Int),[.om,.bZ],.eg "int",R.all y i,td=.q3 sk,.eg "all",YP (zAR γ),standAt γ,γ d.ok d.hd,bH n T γ ss,Bad w γ x h,.aa3 (.d γ),.abf (.d γ),γ ρ.length,.QE (.w γ),-1000000<=γ,fs.lookup γ,γ I.ok.kind,.fl (.js γ),PyProof.Rows.OwnCls (.kZ γ),.xh .aW γ c,.aa9 (.d γ),It2 L h γ l,.Jd hd',.tM SqL,.f7 ρ',.dV xs,VR α β,(l,none),.dx K.In,.gs op r,pB M n k,.cQ true,(λz=>.b),x=0\/x=1,.iS xs,.gn z p3,[112,101,111,112,108,101,32,51,49],ae (.JT γ),eval γ env,γ<h.length,l.length=γ,(γ)[lk]?=.zd,r.append γ,cR (pv γ<|Bq rfl),lS H H',cA rfl,OpR X f,mA name,.IW Int,.g5 rfl,.dM o0,[a,b,c],NoS n x,PA X es,SqT K H,.aU t Q,.abJ [e],(j:Int),.tp M A,hV .str (aa 0),.xn RD,.Lc dg,! .oX t,.b1 (hV γ<|aa 1),.d it,tOr (tE γ),.ij (aL γ),zF (zYf γ),ag (.Z γ),H1 γ=none,wL γ lo hi,.CZ .a1,.oP 119,.cA eW,.abI 32,(by subst f;rw[.sx γ]),(by dsimp[List.lookup,γ,δ]),.mp γ (.ou δ),(by by_cases D:em gd l hd'),(by dsimp[γ,δ,outE]at b),.hi 3,.hj 3,(by rw[γ,δ]at e;cases e),(by exact p1.elim),.w v,.b8 f,.aa7 n,.xl 1,.eo 0,.uo 3,.SY i,.TK v,PySem.W.keepIn γ,γ ?_ ?_,l8 K (λC b=>.th K .aJ (mQ γ)=.cu),envOfC γ scope s.heap.objs.size f,.K3 (.jO n 1) γ o p (.jO n 2),.Qz X.w,.kB (.kB γ),h[dk]?=.vW γ,oO γ P w K mg base N,Md Z n M bs ss bk,dG K mg γ ρ H σd σ,[γ,none,none,none,none,none,none],γ s2.heap.objs.size,.mp "list" γ,attributeBase γ,Fy.sRaiseL "NoText",PySem.W.hideAll γ,.wf (.an0 x γ),pure (ps.zip γ),ae .aa,IsZip γ z TI TO,["web","one","other"],Heap.FlyingW base γ e cls a0,γ own.length caps,.Zz K γ=.a .Pp,zWc (h₀ := X.base) I.ok.mod.kin,i.natAbs.log2<1920,(by rw[gL];exact zBL γ E6),.t d.length,.ed (.ai Key) γ,(λi=>bs.getD i false),Ctx n M T bs ss bk sk dk,(λ_ y=>?_),s.heap.IsTuple γ,.For tg γ body [] pos,.iq X.s₀.heap.get?,seqObj "list",(λz=>by cases z),.own x,PySem.W.notCls o=true,(λh=>em o l h/\em γ k h),dj g all tg γ e xs σ h,fW rfl _,ax (.ab γ),.ab bB,.kC (.Dv none) (sx P<|sx J<|sx F<|sx M γ),.Call (.ms o γ apos),.hW γ Q E,.qA (.mp "range"<|.fields .ajn),.bE 1 γ,.An (γ=.dd->.on),[.mE,.a p1,.fT,.T,.a q4,.a q5,γ,a,b,.om,.qc,none],.qA (.mp "tuple_iterator"<|.fields #[.hK,.e 0 0]),(∀v H' ρ',.gp H'->.gt RH hd'->.Ph->Q v H'),Q (.bl γ),(.op<|.vi i).getD i [],.g8 RX "NoStand" H γ,.qA PySem.W.emptyDict,.bD gB ss bp,.B (show .av false from f) UG,PassesOwn .Ch X.A X.env X.xe,[.aR,.bV,.qK,γ,none,none,none],[102,114,101,101,10],γ (.xf N.objs.size s2 H1 I),bK ps.length N.length b,γ (lu [10]<|.cy lOf),[.aR,.bV,.qK,.jR,b,.aW,γ],.cK .aa (.xg 3),.b8 (·.2),.Cp (.fL vs.toArray),(.bj<|γ p.1 z).elim ne,[.tq,.tk,.hT "NoPeople",.tn,.tl,.qy,.to],[.tq,.hT "NoStand",.ti,.tn,.tl,.qy,.to],(λa b=>.cp a b=true),[.tq,.tk,.ti,.hT "NoRest",.tl,.qy,.to],hp3 h wd L ths,tE (.fd 1<|.ae γ),(∀(σ:Sd) (g:Hd),γ),.E [.h<|γ++sg s++.cL++sg s,.e 1],.oO "TooMuch" (γ++g),[116,105,101,32,49,32,48,32,45,49],[.kG,.mB,γ,none,none,none],γ (.Ja cA),eF (P:=γ) (g:=none),.bE γ (aa 6),.vV .st,sx (.i (hit e rfl) γ),.cy dY .OG pNo,.tx (.a<|.lp pos'),.OV dI.nil,fT (tOr (.Il 0)<|tE<|.cs cr),[112,101,111,112,108,101,32],.V3 γ (.aY b),[115,116,97,121,32],(∀{l:.m} {vs:.R},.dp->γ),.G4 .I7 .oK,(by rw[.Kf γ];obtain⟨C,rfl⟩:=g),(by rw[.Kf γ];obtain⟨h,rfl⟩:=i),(by intro pins s σ H Q I h;exact γ),dR (.jU i7 γ),cQ γ ?_ ?_,.dg γ cC,.j1 γ λEn σ H g=>?_,UH (zAR γ),(λ_ _ _ _ _ _ _ q=>γ q),dF γ (eA "NoRow") aX,(∃p vs,v=.d p/\γ),.lx k γ ps (.oB F np),.s (fr w.stays n),(by simp[lexLt]at h),O (o:=.bad) E r ?_,.ff X1 γ,.ff hC γ,qB (.qo γ) .bz,γ l.prog w K mg base,(λσ H Q b=>?_),Fy.ne_call γ .xk rfl,.ho (.eh<|wd::L),.bs I.base.slot n,.aa2 (.hT "NoWeb"),.jd "stays_of" c6,sc.names.lookup x,.bs I.base.keep n,[.hT "NoRow",.tk,.ti,.tn,.tl,.qy,.to],.xu PostX γ E En,s.heap.objs.size<=γ,max 0 (min γ .ek),.QB bh,.x (.dt γ),.abM (mv 4) ?_ ?_,(by simpa using p),(by simpa using f),.cg γ (.bp-1),SeqAt.EqAt A s γ,qq (h++.eG γ::g),γ s.heap.objs.size,.bD ss.take γ fz,bn N ps (aD st),0,.jy (.cA AA),dI X scope,.IJ (.D γ) h=_,γ [w.enc,.hG] h,gU (yK rP rN) γ,.fl (exO a C t γ),.QN γ .xk rfl rfl,(∀b u,H b=.bL->γ),.x7 a [γ] [b] pos,(∃g,γ=.rs (h++g)),(λσ H Q c=>?_),zYl (M:=.qz) X,(.dB).stays=ss,zF (xU<|zF γ),(λσ H Q g=>?_),.Iw PostX.outE,.Iw de.outE,w.ties.getD γ [],.bJ Array.getD γ,.Cj [(CQ γ).enc],(by rw[zAK,γ];rfl),qT G tg b γ σ h,.BinOp a γ b pos,.hW (.Bk γ),(γ (·.1)).Nodup,.q5 γ [a] [] pos,(λx c e z=>?_),X.N[j]?=.e8,.S ys.length,[.aI k,.aI w],c<128/\c≠32,[wPe,wPe,.mA],iA nl caps σ,env.frame=.a γ,γ La Lb h l1 l2,.a (.int (γ)[i]),.dD (.aC FX),.t q.length,.a (.own a),.a6 n k np F,.S b.length,c≠"NoText",.tv (.aI l),zAL (.aw e),.tv (.t j),G++.dX b++d,bs.map gr,.ga (wd::L),.s (.t6 T),upd L b .CO,.Cf qual cd,.mZ (wd::L),[.tq,.tk,.ti,.tn,.hT "TooMuch",.qy,.to],[.tq,.tk,.ti,.tn,.tl,.qy,.hT "NoText"],.qI "some",(λw=>.x9 w),aq gm (.aB 9 γ),aA (sIf γ kQ aX),l.length+γ<=SZ,(by rw[.B2 z γ]),thn γ (.uE z.elim),(λz=>γ (.k z)),(γ).set il (.w m),.h0 oS .gr,.E [.h γ,.e 3],.aU ta λvs H1=>γ,.DR ((γ q hq).1),.ks xs.length,.aB 2 (.eo γ),s.heap.update γ,l.length<SZ,.de trivial,LS.length+1,[116,105,101,32,48,32,49,32,52,48,49],e₀::rest,sIx n 0 lo,ae γ (fPl am),c8 (.cy lOf),Et c.heap H,bs.set p x,(by simp only at p;split at p),(by dsimp[γ]at h⊢;dsimp[δ]at q),(by obtain⟨t,c,rfl⟩:=.ar γ),(by rw[γ]at a;simp only at a),ae (dh γ),.ff a γ,(λx lo hi H Q=>γ),qG K (rD K) γ,.bT qO γ Q,.jW γ x k np F,γ++.yF (.IF G),.done (.ret γ),.rB (um rfl γ),Un fs ex H γ h,.bs I.ok.bs,[wSt,wSt],.D (γ≠.hI),aj lU γ .aa,hZ γ (gN 3),hZ γ (gN 4),.D γ=false,.ins C γ [],.jj (.b4 k γ),aj jK γ .gr,fQ (fq rfl γ),.Tk γ [a] pos,.e (.mv γ),BK λb H d=>γ,I.hok.fresh γ,(r.map γ).sum,(show γ from r),.s (.ho γ),.F (zZj γ),.tu 1 γ .bu,Z.any γ=false,⟨.e γ,H,.pv,.K,q⟩,.aC outE=_,.yU 100000,.ag zAP,ia H vs rs,.io I.cell,RI h γ X k H,dP (.xX γ) g,.aj x γ st f,gD K γ ps [],.a (.dct γ),0,Ext γ H1 ρ',.ref (.lw γ),gH (cB γ) dm,(by rw[.bd γ]),XL o u s X a b c d e f γ none,γ x y H Q,.a (t == γ),(λe b h=>γ h),[y,.e j],cut l i j,bS dvs ds,w.bars[p],og CX X E,.ic σ h',PT X a tA,["thing"],TOk n one,MG X tg g,.RX CX sp,other<one,[115,116,97,121,32,48,32,45,49],.oi id,.ld .b,[116,105,101,32,53,32,53,32,49],[116,105,101,32,48,32,48,32,49],.cs c6,γ<σ.length,(∃a,σ = γ),.nx (.xU γ),γ a (.gc k),o.cls=.bQ γ,.nv (.fu γ),gC P w γ h',.b7 (.i8 γ),(λR=>(mv γ)),.q4 (.h γ),.cV (.ia γ),.N (.JT γ),.QJ (.w γ),.Io V.bl,T.one q3,NH n A h,.bF Heap,.ai Bool,.as Expr,Dsc lt p,a.getD i,.IW Bool,id I.loc,v=0\/v=1,[115,116,97,121,32,48,32,50],.cy bf,.bi Builtin.SmallTypes.nextOf γ,.aC zVd,.a3 i f,.SX .aH,.ol toS,n-(i+1),fin _ E,(λg=>?_),.s .C8,qK N vs,.dT kvs,.aK::ds,.jU bf,.Re SZ,.mx fD,gG P w,.cd c5,.Ja eB,us++ds,.aC km,.j2 [],(∃c,x=.bl c/\γ),(λi H x H'=>γ),aj AJ (.ae γ),.mC::(.m7++γ),.Cv (.hj γ),.o3 au (mv γ),.w (.mv γ),.J6 (.cl γ),.Cp (.fL γ n),.cF (.Kj γ),.au hd rs γ,.hb a=.a γ,.dg γ some,aq γ (.ut 1),Value.bool γ,I.freeC x,.FN (.Y γ<|.hj 6),.pU (.q γ),sIx a.size,.mM .fF,.rB rfl,bb t c,zF (zWu γ),.iQ l=.a γ,.fV (.Z γ),.abI 10,(by simp at d;subst d),(by refine γ;obtain rfl:=δ),(if γ then δ else 0),kG (tb:=γ) (v:=δ),(by rw[<-Bool.not_eq_true];intro q),(by rw[.Kf γ];cases i),(by rw[.Kf γ];cases g),(by rw[γ]at h;rw[.Ak]),.KL (.gT γ δ),.H8 γ (.d δ),0,(by dsimp[RD]at h1),PySem.W.nsIn γ,γ "BaseException.__getattribute__",.bQ "ValueError",XL o u s X a b γ d e f (.t H.length),tE (aj oS (aa γ)<|fC .non),.K3 γ m o p (.jO n 2) x10,0,bs.map γ,.D (z.1=wPe) && ! isP n z.2,gW (mm .c) hd (jZ (L:=[]) (fm:=[]) .ac) (fK _) rfl λg k a=>γ (mm .c) .c .c _ g,.i6 (.yn γ),0,(λA L n j r=>⟨n,σ3,I,M.trans<|o.trans j,r,PostX.ext (o.trans j) a⟩),(λEn σ H b=>.ah8 (.aU p ρ Ext.refl a)),aG rfl,(γ p).imp,.zE γ (tg:=gN 0) (cs:=[]),["NoRow","NoStand","NoPeople","NoRest","TooMuch","NoWeb"],(λ_ _ _ _ _ _ us hl=>by obtain⟨_,_,rfl⟩:=vX us hl;rfl),.q .rz,.yv++sg s++.cL++γ,s.heap.UpToSlots h',.A0 "NoWeb" γ sU "ValueError.__new__" mg base,.YZ .zW (.q .ZV),[(bH n T γ E).enc],G ++ .q γ::g,zF (m:=Builtin.Tuple.tupleExact _) (zYy γ b),.Zz X.K (.d M)=.a .Pp,.nv (D.bl γ),.A0 γ i sU "ValueError.__new__" mg base,iY.mpr (v6 .c λi a=>by rw[.df a];exact γ),fr w.stays n,g3 (r:=r) (wd:=wd) (L:=L) (ths:=ths) hd,(by dsimp[zAK];show γ<=10000;lia),γ (cA<|ah (Bx rfl G.d)<|.nP G.a0) a,(by rw[.VZ]),dD gd l g b (.hC γ),.ExceptHandler (.a<|.lp γ) .e8,.Fy γ (.NP λ_=>#[]),(bZ.bind (R:=rO) γ).imp,I.step (g':=s.gens) (d':=s.drawn),Int->Int->γ,mg (.kZ c)=.t C,[.kG,.aH,γ,none,none,none,none],(λb o hb e=>.i (sb.2 b hb) e),(∀σ H Q,.aU u Q->.BB),env.cells.lookup γ=.a8,ZipApart z TI TO i1 i2 l1 l2,.Ii Value.builtin,.ae .cL,zYa (name:=.kZ "__next__"),.Zw γ kY.nd rfl lc,.ww mS,I.ok.has y.1 (S.free y hy γ),tupleKind .Hz,γ (.ab bB),.fU cx,⟨γ,I.os,I.bare,I.base,I.loc,I.cell,I.free,I.freeC,I.pin,I.hok,I.len⟩,.gt RS σd γ σ,γ (·.1)=.b8 (λp=>(Sum.inl p.1:Key)),[.mE,.w mo,γ,none,none,none,none,none,none,none,none,none],[.mE,.a p1,.fT,.T,.rX A,.qc,γ,a,b,none,none,none],γ=.bL->.hb b=.bL,fFs (.mq fB γ<|fB .Ac wS),.bD l.zip γ .Lj,cY (.ab cY<|.jV lt) rfl (by rw[zAK,lt];decide),.V0 γ .non,[(tE<|.ej .UW<|aa 1)],(∃σ' H',.oj σ' H' s'/\γ σ' H'),.WY (CX2 P w) j A outer s H E,RC0.map .str++.l5 (.kD++t0),.au j k (.EG λv i g=>?_),swapsWithSole [γ] e pos.line X.env=.qC,[.aR,.bV,.qK,.jR,γ,c,d],swappedStores [γ] e X.env=pure none,.Q4 γ (.EQ "enumerate"),.dx IsPair TI (.d i1) (.d i2),γ _ _ .GQ .GQ,compPost .Ch X.A X.xe none QQ,.H7 (t-402>0) (t-402),[.aR,.bZ,.b0 bT o,.qx,γ],.au j m (.aq p λc o i=>?_),(by dsimp[rD,RD];rw[zXw];rfl),s2.toks+.s ([]:.ed Str R0),.yZ (.bi field it γ) s,aw (du<|.ab cL),.Cg m x10 .ZN,.ux++t0++.cL++t0,.HN c.toArray,.mp "dict" (.dict #[]),[.T,.dV<|.dH .nF,.w a,γ],aq γ (fPl<|.kI<|ae .zV<|.N<|.bE 2 .aa),(∀cl C s H ex,.q6 MG tg g/\γ),aG (aw G.a0 (eB<|.dv .CU)<|.a2 WQ _<|.bA γ),aj oLt (.rZ 0) (.CZ<|.zr 0),.d6 (.Hk it),.cT (aV<|bq (.ab bq rfl rfl) rfl rfl γ),.cC (.h γ),dh (ae (.ck γ<|aa 4) .Qh),γ (.dM lOf),sT γ (aa 0),(∀(g:Hd) (k:Nat),.so ths->γ),.ch .jQ _ γ (q _ .qJ),aA (dF (tE γ) (.Cr<|aa 4) aX),.cV (du<|cL rfl<|aS γ),.Ik (.aI .i5) (.t O.length),ak (ak<|ak<|.t2 .Ef),.d4 (.oW b (.Z γ)<|aP _),.d4 (.oW a (.Z γ)<|aP _),.dV (.KM γ),[.mC]++a.map iM,.lX c a d/\(.abb ItL),SqT X.K c a d/\(.abb Ite),av (cQ γ (.az jM) bI),sIf (tOr (.BJ .tuple)<|tE<|.ej .n6 .nE) .xS aX,bJ (.jy (eW<|.hN .aa) .aaC),sIf (.b1 γ) .xS aX,rz (.FF γ),.cF (.cz lo λi h=>.cz hi λj h=>γ),ax (.jI<|.lK<|.ia rfl) γ,cR (.i .Z3<|fP γ),.Ge .Qb,(by dsimp[γ]at a;subst a),(by rw[.I γ δ];obtain⟨ρ,σd,j,k,p⟩:=g),(by obtain⟨ρ,σd,j,m,p⟩:=i;refine γ;obtain⟨h,d,g,q,e,n,f⟩:=i),(by obtain⟨_,_,_,z,_⟩:=a;rw[.uC]),.cz b λy h=>γ,It2 γ s.heap,(∃ρ hd ds,.cE/\.qe ds/\γ),.i (.ft γ) (dJ rfl),(ak γ) _ _ _ _ z,(λp=>D.tup [γ,p.2]),(by intro i z;cases z;exact γ),bZ X.K .qT ρ H σd σ γ Q,["lines","start","many"],(λp=>.Q .fF j (p.2) 0),aq γ (.ki 2),(show False from r).elim,o=none\/o=.hI\/o=.a 1,PySem.W.plainGet K C γ=true,.bS [a,b]=[.ef a,.ef b],PySem.W.hasDictIn K γ=true,.oh X.K (.d M) .tj=.cO,.dx IsZip z TI TO .none,[.a7,.T,.aH,.aW,γ,b,none],Vw γ (by cases L<;>decide),cV (nl:=1) (caps:=γ),zF (.gx wpAny_onRaise),γ [.d lk,.e st,.gj] h,zZg.mpr ⟨λb d=>?_,γ⟩,.a6 "ties_once" 2 1 dw,compEnvC scope cl γ X.env,.CW m γ [] pos,.ee γ == Value.none,γ=ps.length,[.d<|Z+n,.d bk,.d γ],⟨other,one,.oE M⟩,.jC sg s,.Jh (.dQ b),.bE 4 (.t8 3<|.xg 4),.U γ (wN λ_ _=>.BG),aG (.G4 .oK<|γ e),.gG (aq γ<|fPl .nI),.bv ρ' f d (.qR i q),(false,acc,l::r),PySem.W.handedIn γ=true,.aL (.CW γ [e] [] cpos),γ a ((p,w)::P.zip vs) m,l.all λp=>pure? p.2,Eu P w K tg γ [it] it,[.T,.dV γ,none,none],nxt acc t.a t.b,XMy S0 mo way n,.xd [(fl,v)],(by rw[d];exact .ag γ),.Return (.a e) pos,X++(lM M i γ).map iM,b<s2.heap.objs.size,.Pass ⟨0,0,0,0⟩,-20000<=x/\x<=20000,.UnaryOp .Not a pos,γ i.natAbs,r.cel γ c a,[.aR,.jR,a,.bV,γ],Nat.sub_le _ _,.web n T bs ss,b=f.heap.objs.size,zVr (Int.not_le.mp γ),(λp=>.E [p.1,p.2]),(toS l).cps.toList,.f7 ρ H σd hd σ,cell%.aD LS.length,fm.length=L.length,me2 (a:=a) (b:=b) γ,.ab1 (.fk L.length),F4 (dk:=dk) (h:=h),(by dsimp[UC]<;>lia),s2.heap.objs.size∉γ,0,(γ)[d.length]?=.x .h6,PySem.W.Looks .qz,zZy D rfl (x:=γ) rfl,.bs I.base.free n,.eL (Out.exc _ _),.cp [.M s.a,s.b],(sg s).drop (i+1),ixN xs.length,[.aR,.aI t0,γ,.aI x],.iO a b&&nxt γ a b,.dx IsPair TO a b,.D (toS l=toS k),.dW (.fd 0 γ),zZy p rfl (x:=γ) rfl,a.length=b.length,.ja KTD.inKeys (γ T),.id (k6 (y:=.non) γ),dS γ tg cs e xs σ h,Str->.as NameKind,dR (.cy i7 γ),B1 X r x p pos a,cy 1 [] (eW<|aa γ) (gN 0) [],(by simpa using q),subscripted γ false,(λj=>M i j*.mM j),1<=t.w/\t.w<=400,.CF (Addr × R0),(by simpa using z),(λc=>.iO c 128),(dG.bind γ).imp,h++[a]++[b]++[c],(λv b h=>jT h.xp),.jd "bars_of" fF,.vF (.bi field z γ),.ty "ValueError",dD g l tg b l σ,.b3 "enumerate",.bX "enumerate",γ=s.heap.objs.size,.q5 γ [a,b] [] pos,codeAny .Ch X.A,I.base.free b o,⟨F,g,d,D,C⟩,.Cg K none none,(LS.length:Nat),stC own caps σ,s.heap.IsSliceOf γ,.oT (.kl X.K M),I.base.frzs b o,(∀i,γ=.fH->0<=i),.cy eT pNo .abs,.bQ "function",aq d6 (.ut 4),.dP B (.q d),.If c a b pos,s.set i (1-z),.h8 (XP2 X E),.Yk ⟨.aJ::us,a⟩,.gW (hi-lo),(λb z=>.lf z),.qI "person",(λv b h=>.qM),.wP γ (.d1 ao),zZd γ ?_ (.uE<|z.1.elim),.of_wp λprog w A R s h=>γ,aG (.nc (.cG y J)<|γ e),.cJ (.mF b->γ),aq γ (fPl .B8),.i (.aC Wl) (.aE γ),bc sf mr γ eu (aP _),ag au (ag au γ),.eY (.Cs base [C]),.uO m (.fn<|m-1),bJ (.cA ja<|bJ γ),.a4 1 (.hi γ),(by simpa using n),xs=[.d p],.kD++γ++.cL++sg s,L.map λ_=>D.str γ,bq (γ _ _ rfl) rfl,(.Ef) a b c d z,.b4 n.toNat l,.ok .non (.jw n<|.q γ),.Cs B [j.objs.size],t5 (.jy .BT γ),.BJ .list,(by obtain⟨_,_,_,_,_,q⟩:=q;exact γ),(by obtain⟨p,vs,e,h1,b⟩:=h;exact γ),(by obtain⟨_,_,z,_⟩:=a;rw[.uC]),(by rw[.bN γ δ];obtain⟨rfl,y⟩:=y),(by intro f pins s σ H Q I h;refine γ),(by obtain⟨_,_,z⟩:=a;rw[.uC]),(by dsimp[γ,List.cons.injEq]at h1),(by rw[.yA];exact γ),(by obtain⟨u,rfl,t,rfl⟩:=γ δ),.hw (bf γ),Nn (qB rfl .f γ),[.be,.a T,.aW,γ,c],.dA (sx d<|cR γ),bN (.acu<|.fV γ),(λb o _ _ a e _=>γ),["web","person",γ],.cz t λb h=>γ,.hd γ (.g9 dv),γ base l e cls a0,.cy oV (aa 3) γ,γ (td:=td) (G:=G),Nat.min_eq_left γ,.kf γ σ' (h++g'),zAL (.p r.len γ),vs.getD i .non,b.trans c.symm,γ [w.enc,.e p] h,PostX K mg ρ',.aa6 γ c d e f g i,["_law_script",γ],a.trans d.symm,.DP (jz w.ties γ),.Kk La i1 l1 k,.Kk Lb i2 l2 k,PE X (.RJ es) γ,[γ,.bV,.rX Z,.aW],aj γ (aa 5),⟨.h γ,H,.pv,.K,q⟩,Str.join (toS γ),(by show γ;decide),.S vs.length,.IfExp γ a b pos,I.base.tups b,.jk b=[.ef b],.k5 (sn w),zBR (zWa _ _),.aC O.tr (.ld γ),.CW γ [] [] cpos,(.dB).bars=bs,[⟨tg,a,γ,0⟩],γ [td] h=.b7 k H,cj (o:=HO.lst γ),⟨x,.f,h⟩,A.units<cLine,(γ).natAbs<10^60,I.base.tbls b,call (.oi γ),.c6 (.jw n γ),q m h1 .b h,Obj.mapSeq γ,⟨#[],.fm γ⟩,l.length - γ,t6 γ .str d=.du,.bad (.d0+γ),γ ρ' a hd' m s,t.a<n/\t.b<n,(∃a d,x=.z/\γ),(de.outE γ).imp,c9 (.fX iG γ),[γ,104,111,119],jw (.jT i4 γ),.qk (.t2 bh),.rg n k np F,.a (.CM #[] γ),f.here e rfl,.yI (bp<|xy γ),.h2 AC .qT E,.jM=.cR ds,.rJ (.jU cT),i.extBut _ _,.yb .list γ rfl,γ X.env.scope x,f.extBut _ _,.B f.symm Y,.Fn k.length,h++.yF [.ih],.qQ .aeQ (.gg γ),(λq hq z=>?_),F.extBut _ _,sx γ (nv .kc),bs.all id,Fh K D name,dE.a dI.nil,c.map D.int,32∉x/\.RQ,upd j i .CO,.Co H1=none,0,.KO (.m0-1),dS G g cs e,.tH (x::xs),.bT Ap (γ K q),.qD (.DR ho γ),.bQ (tyS t),.bi s.TypeIs γ,.o9 (zZi ..) γ,.bX "range",kh M s one γ i,dD g all tg,.bv h g e f,X.env.kindOf γ,hU (.dM uc),pAt .aa,.ST (.abO b),.hl a=.i3 a,Txt.split a,I.write (x:=γ),.Expr e pos,I.kept (.gB γ),(λx B y=>?_),.Iw dG.bind,.ra (g i j),Nat.le_total γ,jw (.fG γ .kc),Hj (.ku bP),.hl g=.i3 g,.dK kvs,.ab dI.cons,γ ρ' z hd',E .aJ dd,fin c (γ _) f,γ<h.objs.size,Og X.K g r,aq iV (.N γ),bL 10 (.ep γ),.zo RD d v,Ec T a b x,(∀H,.C6 x),(λi=>.mP i),.fq s.heap,RDs.mono k,.bk σ' h',BN h L k H,ns_set (i:=γ),.ac6 (.b7 γ g),.co (wx _),.nh "text",.ha HOk H',["person"],.gt RD d v,.oE uG i j,.vf=.a fm,.Eg td.map,.xm (rD K),ud kvs k v,(by cases h),dG K mg γ ρ',.bQ "type",setItem ov,h ++ .q γ::g,(∀b u,.KP),.tD I.laid,(λp hp=>?_),.kC (.nk .mB) (sx x<|sx w γ),rj O.un i,(λ_ p=>?_),.dv .t0,(λ_ G=>?_),.d1 .ko,.Io D.int,.ah (Y.map .str),zAQ _ .uD,.Z .aO,(λ_ q=>?_),.p zZn l,Cr a C dd,.ok .next,W9 (sg s),.de none,.mJ none,.ag m.st,.bG F np,E.map bp,.frz o u,NG W F l,.h6++[z],.R4 none,.b0 cC t,.xH d.n1,.abi enc,.G .pN,.ha CX2,.DP .hg,.bs j a,(∀σd hd ds hd',γ),.aB 2 (.aB 3 γ),b∉ch->.gw b->γ,aA (.pD γ kQ aX),fAt (.cs fv),.rI (λc H1=>γ),.aU j λx c=>γ,.p6 σ'' h',eW (.Kt im),.dJ (∃i j,γ),.ay r.length γ,LS.map .str,.b3 "range",.q (.dt γ),[52,48,49],z6 λc r e=>γ,.s (c::r),.N .aa,UH b.2 c,.W (-1),Ld q2 q,.Cn .kG,pAt .ba,.ob [d],.vP .CS γ .CS,.Z .cL,γ+t0.length,(by obtain⟨f,o,d⟩:=.ai4),(by dsimp[γ]at h;split at h),(by obtain⟨go,yl⟩:=γ;refine δ),(by rcases .f5 γ with h|h),(by dsimp[γ]at b;subst b),(by rw[γ]at h;split at h),(by dsimp[zYh]at f⊢),starEach γ,model X.prog,γ+acc.length,ak (ak<|.t2 γ),[.a S0,.a p1,.fT,.T,.rX A,.qc,.wl,.aW,γ,none,none,none],⟨I.ok.mod,I.ok.kind,I.ok.glob,I.ok.blt,I.ok.above,I.ok.inj,I.ok.has,I.ok.cab,γ,I.ok.frames,I.ok.stk,I.ok.exf,I.ok.bs,I.ok.bsz,I.ok.noex,I.ok.exfs,I.ok.funs,I.ok.frf⟩,[.a S0,.a p1,.fT,.T,c,.qc,.wl,.aW,γ,none,none,none],[.bb,.bL,γ,none,none,none,none,none,none,none,none,none],γ q ok λkV e pm g d ct u h=>by obtain⟨a,s,rfl,j⟩:=gE<|.wE l;obtain⟨b,t,rfl,o⟩:=gE<|j;obtain⟨c,r,rfl,m⟩:=gE<|o;cases qY m;exact p kV e pm g d ct a b c,γ q ok λkV d pm e c ct p h=>by obtain⟨a,r,rfl,i⟩:=gE<|.wE j;obtain⟨b,o,rfl,l⟩:=gE<|i;cases qY l;exact m kV d pm e c ct a b,isSubtype (.bQ γ) .Ox,[.w c,.fT,.w m,.w base,.qx,γ,none],mI rfl (cU aJ<|cU aJ γ),(by dsimp[γ]at h⊢;exact h),γ q ok λkV c pm d b ct l h=>by obtain⟨a,m,rfl,g⟩:=gE<|.wE i;cases qY g;exact j kV c pm d b ct a,Fy.ns_raiseD (n := "NoText"),.Raise (.a<|.Call (.gn .kF np) [γ] [] cpos) none pos,.a (excClassObj nm q C N bs bm hdct sn sub ab col dd k0 k1 k2 k3 k5 newId),.oh K (.d γ),o.data=.fL its n/\.S its.size/\bS γ its.toList,.Vx PySem.W.instObj,backTo cpos,y.2=.free->.OE (y.1)=.pr\/.OE (y.1)=.r9,.Fw 0 lo=0/\.Fw xs.length hi=xs.length,γ base .ZZ e cls a0,.zE k (all:=γ) (tg:=gN 0),Value.builtin "object.__getattribute__",.dr 0 g=.ok γ g,.Ub++.KO i++.uX γ,.Tx sg,I8.pin (b,o) (vy _<|vy _<|kj w e),XL o u s X none none none none none none none none,γ X (.Tuple elts tk tp),.A0 "NoRow" γ sU "ValueError.__new__" mg base,nA A n γ h'/\h'[tk]?=.Pk/\h'.length=L,(by rw[.na γ];dsimp[RDs]at r;subst r;rfl),exO .cf C s.heap.objs.size γ,(∀(n d:Nat) (o:.X),Fm.sIx n d o=.ks n d o),(by dsimp[pure?]at h;rw[.mm Fm.rfs (mz h)]),(λσ' a ρ'' b s=>h σ' a ρ'' (.ir b) s),f.heap.objs.size+1,[s.heap.objs.size],(by simp[γ];lia),f.2 b (zBM<|.AN e<|I.ok.cab x c L t),(∃σ'' a,.jH b=.nx σ'' a/\P (γ+i+1) σ'' a),.mr x a (c7 st) (cG st) (aD st) .none kV γ pm,(match h[n]? with|some (.lst l)=>.a γ|_=>none),eA "NoWeb",(n,NameKind.cell),[.w c,.fT,.w m,.w base,.qx,.w z,y],.q (a.map cC),.bD b.map toS (·.length),(by rw[.wW (F1 A .be none h) γ]),⟨m,hn,λh' sb=>.ch .jS γ ?_ ?_⟩,⟨.X3 .MN⟩,.a (.bi PySem.W.methodObj f<|.d γ),.of_isNs (PySem.W.isNs_of_in X hok),cxC X (own++[]) scope cl C s H ex,(λz=>by subst z;rw[G]at n;cases n),.fU cx .aa8 γ f,(λj:Nat=>D.int (.mv γ)),fIx (.ov<|.Cv<|ae .gr<|ae .gr<|.af4<|.N<|fC .non) (aa 0),[.kG,.mB,.aH,.fk a,.mj,γ],tE (.ej .n6 γ),aq cH (.kI<|.N γ),(∀c o,c≠z->c≠TO->c≠i1->c≠i2->.gw c->γ=.bb),(∀(kV e pm:R0) (g:.cx) (d ct a b c:R0),bindArgs (.tt e g d ct) (.dh .Bx)=.Cu .Bx),.ab cY (.pc<|.bt γ),(∀(kV d pm:R0) (l:.cx) (b ct:R0) (us:.H),.TD (.tt d l b ct)),(∀(kV d pm:R0) (e:.cx) (c ct a b:R0),bindArgs (.tt d e c ct) (.dh [a,b])=.Cu [a,b]),partsBetween a .afa (.s (.fD:Str)),.HL .xc,.rP "NoWeb" γ zi rfl rfl,.q5 x (e::γ) [] pos,(∀(kV c pm:R0) (d:.cx) (b ct a:R0),bindArgs (.tt c d b ct) (.dh [a])=.Cu [a]),dC (dC .YG rfl (.sr<|γ<=10000) .c) rfl,zUo F.slot_str_split .Hl F.entry_str_split (F.args_str_split_2 _ _) γ,(b∈X.ex\/.tE b)/\.mF b/\.agA,.ahj (.HL<|.d0+2*n),(λq=>z (by have:=.eL (λ(s:Str)=>s.cps.toList) q;simpa[toS] using this)),.f3 x.length/\∀c∈x,c<128,.BX "enumerate" #[.none,.ry,.jQ,rawInt 0,.none,.none],⟨λn a e=>.ff .E8 e,.iY h,λ_ _ _ h=>h,.iY h⟩,(names.map λ(n,k)=>if (.t3 k) then .Rk else (n,k)).lookup x=.a γ,[.om,.w st,.T,γ,none,none],.d2 (oN f v ((k,x)::r)=(.Q k f ((k,v)::r)<|(k,x)::oN f v r)),{ a with heap:=a.heap.push (.BX "slice" #[f,g,.none]) },.jW cx γ k f fd ps,[.mE,.a e,.fT,.a8,.a7,γ,none,none,none,none,none,none],d.set (A+one) (.q<|(.dH<|kZ M1 n one).set i .mf),.VT/\.uR/\s'.heap.get? a=.a oe/\γ,.a3 8 (EX .a1<|aj lU (.bE 5<|.cK γ<|aa 7)<|.W 402),[.mE,.w mo,.fT,.T,γ,none,none,none,none,none,none,none],.bs c.old .gz (λz=>.Wf ([]:.am)),[.aR,.mB,.w a,.mj,γ],(∀(i:Nat) x σ h,.Bg->P (k+i) σ h->∃σ',.k9/\γ),(∀(i j:Int) (t u:Tok) (s:R1) (Q:.fB) (E:.fB),γ),.tm K γ "__setattr__"=.iT (.oi "object.__setattr__"),.fx v 0 (.gW<|v+.bp) (min v.toNat n),[(tE<|.qE oLt<|aa 0)],.AP gW (jZ γ) (fK _) rfl λg k a=>.c4 [],.aC zWp (by rw[size_push',zVa];exact zBM<|zj γ),[115,119,97,121,115,32,45,49],(∀(s:R1) (u:R0),BindsTo s γ (.dh [u]) [(x,u)]),.wM (zN (i _) eJ γ (.ag eJ) .Hx),.xz e γ (λ_ q=>q) (.nQ q),γ&&.D (.f3 r.length)&&r.all .LW,(∃k g,γ=.b7 k (h++g)/\.Yt (BL j)),(∃(o:Obj) (its:.i1) (n:Nat),γ),32∉wd/\.f3 wd.length/\∀c∈wd,c<128,[.jK,.cu,.a8,.vs,.vt],[98,97,114,32,45,49,32,48],.xG/\∃vs,KV γ vs/\h.DictOf .Hz a vs,[.Ij,.bQ "Exception",.tj,.ZI],[.be,.e6,.bZ,.vs,.vt],.aN k wSt||.anC,[116,105,101,32,48,32,49,32,49,32,49],.ol (λx=>V.str<|toS x),upd .Op x (.F4 i),.Ck CX a scope f c A outer s H E,(∃c l C,x=.exn c l/\.IX/\∀H' ρ',.dC->.gt RH hd->γ),.fI (aq gP<|ae (aq cH<|.kI .B1)<|.P1<|.hj 7),aq γ (fPl<|ae (.dM vg)<|ae .zV .pR),okd .Ms λb a=>(.az<|bi (.AC au) (mv 1) .bu),.a3 4 (hU<|lOf<|aq ce<|.Y .eA<|.N<|.bE 0<|aa 3),.a3 10 (aq gP<|ae (.RA .ba)<|.P1<|.hj 2001),.fI (aq gP<|ae (.RA .aa)<|.aB 2<|ae γ<|.hj 803),.cr (.cj d<|ag (.cj b<|.nO .e5)<|.a4 2 γ),(∀b H' ρ',.dC->.A4->R ρ' H' a b->Q b H'),callWith pos f first (.tB<|.hl γ) (.YA pos),(λj h1 a=>.h1 (γ j .xY (by simpa using a))),[98,97,114,32,48,32,53,32],.a3 11 (bJ<|.LP 5 .Rx),.lW (fAt .B9<|aa 0) (.rZ 0),cy 2 [2] .P8 .lj .R9 (dh .yz),[.kG,.mB,.jO .Ke 1,.fk a,.mj,.fk γ],.dv (.jI γ),.aQ (.d4 γ (.cW<|.RI a λe d h=>bW h) nss_nil),.dZ (match x,y with | .int i,.int j=>γ|_,_=>.bad),gj .HZ (aG<|.JE (.jc<|kR w h) γ),.ck (.ez .kD<|aa 4) .I4,F6 (o:=.bad) .c .c (.dn<|.jf (.e1 .Iv) γ),sIf (.b1 .ak5) Vm aX,.b1 (aq aY<|.kI<|.HJ 30),(by rcases γ δ with ⟨i,t,rfl,rfl⟩|⟨x,t,rfl,rfl⟩),[.aR,.aI t0,γ,none],.gO (.jD γ .ba) .aa,[.T,.qc,γ,none,none,none],.WE (sx Q γ),[.aI wd,.aI l,γ],ss.getD γ none,bj (bj γ .Qp),(λd=>match d with | .str [c]=>γ|_=>.non),.ou #[.d γ,.e 0 0],eI [w.enc,.h γ,k] h,.oi "object.__class__",I.turned (t':=s.toks) γ,.ND "items",(λz=>by subst z;rw[.bd γ]),.j1 (Ev hp γ hi hg hb hs),γ [w.enc,bp s,bp s] h=.YN,PySem.preSum (λi=>ns.getD i 0),(∀C dd H,.OX H->E' C dd H),.fW (f (.aG t)<|.e j u) Q E s,[48,49,50,51,52,53,54,55,56,57],[102,101,119,101,115,116,32,48],.Q x y (.cp xs ys) (.iO x y),(by rw[zVy];exact vk r),(∀{vs:.R} {rs:.dl},.Gm->γ),.Dr (.QZ γ->.st σ g=.b7 bk g),(.fS l.length).zip l |>.map λp=>γ,bf (aq eZ<|fPl<|ae .nE γ),.BoolOp γ,γ (P:=l.prog) (w:=w) (base:=base),(∀σ H' ρ',.dC->.Jd hd->γ σ H'),.ee (d.heap.objs.size + 1) :: γ,dL (a:=.xS) (b:=aX) γ,.j1 γ λEn σ H c=>?_,[98,97,114,32,48,32,49,32,49],.dx Att.ledger X.env.locals B,vd (.uo 5) (aa 4) (.bE 3 .ba),(match x with | .int i=>γ|_=>.bad),[.aR,γ,none,none,none,none,none],.AP uF (jZ γ) (fK _) rfl,.aC zWp (by rw[zVa];exact zBM γ),.D (isN f)&&(! γ || ! .aN f .aO),h b (i b _ q .eI) (nb b _ q),.hc c.fpOk (.hc c.hok.fresh),PySem.W.looks_subIn (M:=M) X,(∀f,sS (.AX f) (mA f)),.qn (ae γ .w5),.KL us.length->bindArgs γ (.dh us)=.Cu us,.ok .non (a.set n<|.hM l γ),γ d.n1 (.bf d.n6) d.O d.lb d.ls,[γ,.T,.aH,none,none,none,none],OwnCls γ C bm newId X.mg X.base,[.kG,.aH,.T,.CE,γ,none,none],(∀h',γ->.IC->.dx qu h'->.tA ()),.QC (.w γ),Builtin.Str.strSliceIndices γ,[114,101,115,116,115,32,49],.a6 "numbers_behind" 4 2 ce,.ib (bD [10]<|bM n γ bs ss),atI X (γ%.kY X.length)=.gU,.Gw a (mv 0) γ (aP _),(by rw[aK γ];exact z),[108,101,97,115,116,32,48],vq (sp:=[10]) rfl (.fX dv),evalEach γ X.env,.Ix k (e:=γ) (I:=.ye [a]) .c3,Sl γ C f bm newId X.mg X.base,[112,101,111,112,108,101],.a6 "check_person" 4 2 dN,(λn d o=>by cases o<;>rfl),[V.ref A,V.ref B,V.ref n],A.frames=.a .ZZ,[116,105,101,32,48,32,49],bJ (ou 10<|aa 0),Data.fields _=Data.cell v,["_law_text_here",γ],.cT (sx j<|sx m<|sx l γ),Option.bind_eq_some_iff.mp γ,.ru ((.t2 bh) _ _ _ _ z),sliceBounds lo hi none n,.cD "check_stand" 5 2 dn,[101,110,100,101,100,32],sPl (dR<|.jU DB<|aa 5),["web","stand","person"],PySem.W.isFn K (.d γ)=true,zWw rfl hs γ S.kind S.names,l.length*n.toNat,.Cq e γ X.env (.cP e)=.cP e,Builtin.Slice.slicePlaces γ,(λb H' ρ' e s q=>γ),.b1 (aq fO<|.ki 3),(λf vs=>PySem.call f vs),["web","word","stands"],[115,104,111,119,32,49],s.heap.FunFrames X.base,(by dsimp[zAK,xR,wb];lia),(∀i σ h,P i σ h->.j4),.aaZ (.aI Y) (.fk p) g i,[115,116,97,121,32,57,57,32,102,114,101,101],lJ (gj .eQ<|.cI aG γ),cA (.cI ah (AX W _) γ),Builtin.List.listTooLong γ,(λp=>.Q .fF k (p.1,γ) p),(by rw[.o8];subst h;exact γ),.Co γ=.a (.Cp<|.fL #[]),P (k+xs.length) σ' h',.cA iP (.h0 dH<|aa 2),(by rw[.o8];subst h;rfl),[115,116,97,121,32,48],.a6 "is_person" 3 2 eU,γ (prog:=X.prog) (w:=X.w),s.heap.IsList γ a.toArray,.aL (.q5 x (e::γ) [] pos),bN (vt (c:=γ) rfl<|mv 0),(f.map λc=>.D γ).all id,aj OM (aa 0) (.ae FG),["web","kind","word"],(λd A a s H E b => ?_),[115,119,97,121,115,32,48,32,48,32,57,57],(ss.set p .aF).map bT,(λh=>PN (.L f zXz) h),(λc A b s H E a => ?_),(λd A b s H E a => ?_),av (aL<|.cj γ .pS),.RX .PX (wZ X.K γ),.o0 2 fd .qO (.mc γ 1),Array.getElem?_eq_none γ,γ e g (U.binds i) (ok U),.dM dY pNo .Qm,[32,102,114,101,101],(∃t,u=Value.str x t),V->V->V->Hp->.bF .xe,.jU oV (aa 1) (aa 2),.jd "_law_stands" fv,⟨f,a,ps,d,b,c,h⟩,d.params.defaults=[],Code.quiet_builtin _,.b9 s.heap.objs.size,.d a.heap.objs.size,gQ [w.enc,j,.hG] g,.U h λσ H Q m=>?_,[32,115,104,111,119],(λq=>(q.1,D.int q.2)),T.length-acc.length,[116,105,101,32,57,57,32,57,57,32,49],(λv z=>by rw[.fh d]),.J9 (aq cr .pR),xs.length+ys.length,.xh none none none,getMethod ov m pl,(∀b∈E,.p5 w),.fX o7 mK (mL va),.cg 1 x&&.cg x 30,[115,116,97,121,32,48,32,49,32,49],(∀{l:.ll} {a:.ed Key V},.Je a.map->γ),s'.os=s.os/\AllBare s'.gens/\Un (frs outer) [] H H' s.heap s'.heap/\γ,[116,105,101,32,48,32,57,57,32],(.ol (·.length)).sum,cV (dM (ax (.lK<|p _)<|γ _) zAP),keep b o (p b d).1 (p b d).2 q,(∀{c o},.eY γ c=.bb->.x5 c=.bb),[115,116,97,121,32,57,57,32],.b1 (aq iU<|.aB 3<|.eo 4),.cJ (.iq s2.heap.get?->.iq γ),F.run _ X.stack _ _ (.dh γ),γ C s.heap.objs.size,.hB au (.hd d<|.ni dv),ne_call γ .Z8 rfl,aq γ (fPl<|.kI<|.yk 2),b.toArray.size*k.toNat,.uG (r.noExt e<|.p z γ),.nc (.q2 eB) (Ga s γ a _),.uG (r.noTup e<|.p z γ),.uG (r.noFrz e<|.p z γ),ps.map λq=>[q.1,q.2],.ck (.ez .yv<|aa γ) .I4,fg ["sign"] (.mx Km),.lM (Cr a C d.dict),zBR (zVz .c _) b,bf (hU<|.cA lOf),[103,114,101,97,116,101,115,116],.ax (.uq e λd h=>.uq x λp h=>γ),av (.abM (.xs 2 au) γ bI),[116,105,101,32,48,32],.xd [("line",.e m)],(if j>i then j else i),[108,101,97,115,116],.my X.stack s'.heap,.QW Heap.HeldW L h',(by obtain⟨h,X,G⟩:=q.ex;obtain⟨f,c,e,g,U⟩:=γ),(by dsimp[γ]at r;obtain⟨v,vs,rfl,h1,a⟩:=r),(by unfold PySem.W.clsIn at b;split at b),(by obtain⟨p,vs,b,f,g⟩:=h;exact γ),(by cases k<;>dsimp[peq]at e<;>cases e),(λd=>match d with | .int i=>γ|_=>δ),(by rw[.o8];obtain⟨v,r,e,h1,a⟩:=h),(by rw[.j γ];obtain⟨f0,f1,f2,f3,f4,f5⟩:=δ),(match γ with|some b=>δ|none=>.bad),[.aR,.bZ,.b0 bT o,.abO g,γ],{ cls:=.none,data:=.ou γ },zF (wpAny_letGo<|xU γ),.dZ ((oB λi j=>γ) x y h),bF EY EZ (mv 4) (eS γ),(by rw[zAK,lt];show γ;lia),zF (wpAny_rule<|zF γ),PySem.W.hideAll_none γ,(by simpa using I.len),.ju (.mZ γ) "NoStand" h,.dg γ (.Ko<|.fw .fF),.lf (show b∈γ from z),.ha Eu X.K tg J γ it tn,(∃C,v=.aJ/\γ),.i (a.2 b<|.bs old) γ,.av (γ λx=>! x.isEmpty),sPl (.DN<|Az γ<|aa 5),Nat.sub_lt_sub_left γ,.j1 γ λEn σ H h=>?_,.mG (.bi setFlight e γ),⟨_,rfl,.dk _,γ,.cB⟩,.jd "_law_signs" gn,.jw dk (.ob [γ]),.ph tg (x::xs) σ h,relabel scope X.env,[32,48,32,53,48,48],(by unfold sPl;rw[e]),PySem.W.lookIn name,t.take (t.length-1),.cD "web_of" 5 4 eZ,wpAny_setField γ,wpAny_updateSeq_pair γ,u4 (i:=γ) oA.nd rfl lc,.U γ λσ H Q k=>?_,Calls.evalArgs_plain γ,γ [w.enc,bp s,.e p] h,sx F (sx G<|sx M γ),.dg γ (λp=>.qH .fF),List.mem_of_mem_drop γ,List.getElem?_of_mem γ,Q (.e γ s.toks) .oq,[k.heap.objs.size],[115,119,97,121,115,32,48,32,57,57],HOk P w H' s'.heap,Nat.min_eq_right z,.nj [v,ov] (.cP i),sx (dZ<|.Dw ax c),h.FunFrames base l,io [w.enc,.h l] h,X.A.frames=.a .vz,H b=.dV (k.map kV),.compLoop γ 0,[.aR,.T,.aH,a,b,c,γ],behindInMarks γ,(λq u e _=>cj γ q u e),PySem.W.plainGet_of γ,.Ck γ d scope f,γ (T:=fR) rfl c a .ii,.zY (.gg γ) (.a .aeQ),.My (b≠B->.gw b->γ),γ<4611686018427387904,.af γ (tOp r ta tb),[.aH,.T,γ,none,none],(by have:=r.un;lia),[98,97,114,32,48],.bI (dR<|.o4 dN),PySem.W.takerIn K,["lines","place"],SeqAt.EqAt.same _,zAM (.h1<|zVs a),.ja Txt.split .fD,(by have:=K.l1;lia),a σ' γ ρ' Ext.refl,old p.1 p.2 e λz=>γ,av (c9<|.fX vf γ),z8 (j:=γ) (x:=aa 11),(λg C s H h=>.fa γ),ax (cA<|.ab bB) γ,(by rw[hL];exact .aw γ),.ju γ "NoPeople" h,(by unfold dD;exact γ),⟨⟨o,h,γ⟩,q1⟩,(.RB<|.hb c)->.tA γ,X.env.cells.lookup γ,(γ)[A]?=.x (X.map cC),(λz=>(γ _ z).2.1 rfl),Int.max_eq_right γ,(λo=>p _ s j i b γ),(by rw[γ];exact .ag t),(.Ld γ q1 q2).mono k,(by simpa using i),e=x\/H e=.a .CO,.mK ek=.ao (i*j),.cn (by rw[zBT]),h++[.q .t4,.IA],(λb o q=>zXh _ q),seqIndex_neg .b,eC (aH<|cF rfl),Fy.fCallG ce .ac1,.dW (.SU<|aa 1),a.names.lookup x,(by simpa using K),sPl (.LN<|aa 4),[112,97,105,114],(λo e=>.iv k o e),.aX it=.cR (l,g),beq_iff_eq.mpr h,.dx JQ x dx C mA,.p e True.intro,(by simpa using l),.px "stay_of" iR,["many","stays"],.cg a i&&.cg i b,.yi 64 (.a3 8<|fIx (.ov<|.ov<|.Cv<|.Cv<|ae .ba<|ae .l1 .Qh)<|.jD (.bE 5<|.cK γ<|aa 7)<|.W 7) aX,aH (.us<|jx w h γ),sIf (.b1 γ) kQ aX,.kQ (.dE γ _ _) s,release [v,ov,γ] [],γ (td:=td) (t0:=t0),(by rw[.mm γ e]),(by simpa[γ] using h),Nat.le_succ_of_le γ,s2.heap.objs.size<γ,(γ).flatten.toArray,tE (aj oGt .n6 γ),(∀g,∃N,γ++g=h++N),h γ pins s σ H Q I,dF γ (.Cr .a1) aX,.ej (.xg 5) .aa,["_law_script"],SqM Lb K H b ys,HT.sIx c.length,w.bars.getD p 0,[bO.ob<|.IF G],⟨v,H,I,r,h⟩,.CJ p a.toArray,.nj [v] (.cP o),Int.ofNat.inj z,(λn c a d f=>?_),U.mono (q.hp.kp γ),A.under (.oi "type.__call__" γ),zZy a b (x:=γ) rfl,h'.objs.size=.xl γ,.fU JW γ outer s H,aq eV (.aB 11 γ),γ=(toS x == toS y),⟨u6 h.1,γ h.2⟩,List.getElem_inj γ,rI0 λi j=>.tw γ,(h++g)[k]?=.x γ,.SZ (.m3 γ<|mv 4),fin (c := γ) R.pre,callType_new γ .c,.cP (.KJ<|e :: γ),.gH (.jr c<|mv γ),.oG none (.a γ),backToKw γ (keywordEach [] X.env),bJ (Ax .vq<|aa γ),.hR ek γ (.e K) h,(∀v,γ ≠ .cell v),(∃t,u=.zp i t),c6 (pins':=[]),.ab dC .c .b,xs.all tI=true,toS (bD sp ss),ia H d (gf rs),CX outer H s E,.uK (ke w n s),.cg 0 a&&.Ek a,.oO "NoRest" h,(λ_=>D.bl true),h.objs.size<=a,i%.aD X.length,.kf L.length H,.ho .qq++.cw W,toS ss.flatten,(∃u,.hb e=.bL),(∀c∈l,c<128),d b _ q λz=>z,.e1 (.rB<|.c9 γ),(show .d8 γ from M),upd γ g.objs.size,(show .d8 γ from F),.y9 eF (tg:=gN γ),bn .Cx .Cx (aD γ),.i (f.2 b .tC) γ,letOwnedTupleGo γ,.hR γ a (.e b) h,.Ih γ mainGlobals,.aX x=.cR .aK,.qP (y.1)=.k3,.mR a.toArray,[z,TI,TO,j,l],.bs I.ok.noex,¬toS x=toS y,.ms o "web" f,k+1+i=k+(i+1),SqM L X.K H a,.Es capn caps,kas_rev p 0 m,.aD a.toNat=a,h.objs.size+1,IsTup.new _ _,(λe c h=>bW h),bs'.map gr++R,.aD b.toNat=b,.dP d (.q b),T.Pairwise jp,(.B6:Sd)=σ,[.fw .fF,p.2],(∃g,.S2 γ=.Dt h),γ X.env.locals m,(zZw.mp γ).2.2 s,bH n γ bs ss=.dB,Fy.ns_set (i:=γ),hZ (cT γ) (gN 2),(.Ld n d γ).mono,PySem.W.typeIn γ,e (uW r.nd hp γ),base.get? γ=none,dL (.aZ<|.jc γ),cH [.tJ,.e γ] h,γ _ _ Z.i1z.symm,(λv e h=>.qM),.h8 (XP X E),g.here f .eJ,.bQ "object",keep c o g q,.e7 (.lJ st),E.take (i+1),.List .acN p4,.t t.length,(λv g h=>.qM),outE r σd k,(λv j h=>.qM),(∀x∈X,.zA),m.mt.ro i hi,.fd 0 (aa 1),.jC gB ss 9,d.map V.ref,List.drop 1,.Js (.aI x),LS.set a l,env::outer,i () k d h,cT (.xg 3),.qI "word",pv .Iv rfl,xC M a b v,(λh=>.lm h),b.mono .c,acc.map cC,c.mono .c,atKey xs k,{ s with heap:=γ,toks:=tk },[.oS 6,.oS 7,.oS 8],[.oS 3,.oS 4,.oS 5],decide_eq_decide.mpr γ,Nat.le_sub_one_of_lt γ,(λi H=>∃xs x,γ/\.Bg),aj yw (aa 4) (dh γ),(∀h',γ->.IC->.tA ()),.ij (c9<|.cj γ .ko),pM γ (mv 2) (mv 3),.kq (∃p ys,.MI/\γ),.jD (.h0 lV<|.W γ),.iq X.base.get?,.AO apos.atName,k b o (.Fq a) e,(∃o,.iq B.get?),⟨y.toArray⟩,.ff γ .Gl,.M1 (fAt γ<|aa 1),.ck (.ez γ<|aa 1),.dt w.bars.map,(r.kp γ).tup q vs,.kP e.frame (γ h),.mZ [γ,sg s,sg s],w.ties.map AQ,Int.le_refl _,Int.le_min.mpr γ,.nc (du<|.mI γ),.ez .iH .Ac,.kH .C7 .QS,.nO (.MG 2),.vS .qw,.hN (aa 1),letGo hd r,ag au (.fV<|oW rfl γ),av (cQ γ (aC EL) bI),(by rw[γ]at q;obtain⟨vs,b,_⟩:=q),(by rw[.j γ];obtain⟨X,k,H,q,R,f,G⟩:=δ),(by dsimp[γ]at e;simpa using e.symm),(by obtain⟨σ',a,I,q⟩:=h;rw[.al γ δ ε ζ]),(by unfold bM at a;rcases γ with e|a),(by intro pins s σ H R I h;refine γ),(by rw[γ]at p;obtain⟨l,gd⟩:=q),(by simp only at c;split at c),(by unfold bK at e;split at e),(by rw[γ,δ]at e;injection e with e _),(by obtain⟨v,o,ho,hd⟩:=.io γ),.Dx (λi σ h'=>γ),(by split<;>exact trivial),.oi "BaseException.__getattribute__",(.YA cpos).all (λx=>x.1.isSome),XL S0 td dk X (.w k) .B4 .gU (.w j) γ,.K3 (.jO n 1),bq γ rfl rfl rfl,[.tq,.tk,.ti,.tn,.tl,γ,.to],.tm K γ "__class__"=.a (.a .S3),jQ (i:=γ) ?_ ?_ ?_ ?_ ?_ ?_,.Y .me (.Y .yo<|.Y .x0<|.Y .T2<|.Y .Sq<|.Y .W6<|.Y .Tq<|.Y .UC<|.it .Vl),XL S0 td dk X (.w k),ds.map some++.hp (γ-ds.length),CX1 P w,.tm K γ "__getattribute__"=.a (.a .aaX),γ q ok λkV g pm i e ct y h=>by obtain⟨a,v,rfl,l⟩:=gE<|.wE m;obtain⟨b,x,rfl,r⟩:=gE<|l;obtain⟨c,t,rfl,p⟩:=gE<|r;obtain⟨d,u,rfl,o⟩:=gE<|p;cases qY o;exact s kV g pm i e ct a b c d,.S d.length->R (γ X.K a) c,cl.lookup γ=.a8,.Mv (qX pS<|γ (E:=.bw) (Q:=λ_ d=>∃h',d = { s with heap:=h' }/\.Na Heap.FlyingW h'/\s.heap.UpToSlots h') f .akx),["_law_script","_law_most","_law_way","_law_many","_law_tied","_law_told","_law_one","_law_other","_law_heavy","_law_levels","_law_steps","_law_holders"],.tm K γ "__getattr__"=.iR,⟨ok.mod,ok.kind,ok.glob,ok.blt,ok.above,ok.inj,ok.has,ok.cab,ok.hd,ok.frames,ok.stk,ok.exf,ok.bs,ok.bsz,ok.noex,ok.exfs,ok.funs,ok.frf⟩,CX2 P w,.Pr (acc.map γ),(h.push .JI).update x λo=>{ cls:=o.cls,dict:=.a h.objs.size,data:=o.data,slots:=o.slots },Mo z m S (λL H Q E o=>by obtain⟨ρ,h,g,r,q,i,p⟩:=o;rw[.hr q.length i]) λA outer s H L Q E B o=>?_,.FP (∃(z:Str) (y:.g),x=.h z/\.S z.length/\γ z.cps.toList lo hi=.gU/\.nD .aaq),⟨λb o e n G w=>?_,λb o e n G w=>?_,I.base.free,λb o e w=>?_,I.base.tups,I.base.frzs,I.base.tbls⟩,zUg ⟨.alu b,λa k=>fin a k⟩,zUg ⟨.alu d,λc k=>⟨.h ⟨.eZ γ⟩,H,I.tok k,⟨c,by rw[<-e];rfl⟩,q⟩⟩,(if 0<=i then (.wZ (i<n) i.toNat) else .m9 (-.bp<=i) (some (i+n).toNat)),i _ (k _) d h,.cM (X.env.scope.kind == .class||(X.env.scope.kind == .module&&X.env.locals != X.env.globals)),pAt .Qj,γ (G:=λh=>em none (kz Z) h/\em .mi (wz Z) h),BJ (by rw[zAK,f];show n-1+1<=100;lia) (i j .c) (.G<|LD (c:=γ) (xS.mpr<|.F .lT) .c),zYu zWe hit.typeIs F.entry_tuple_iterator_next ?_ (F.args_tuple_iterator_next_1 _),h.hp.writeO (dx:=dx) (l:=[d]) B R q3 (by dsimp[RDs];exact .bh v [] w rfl),.ae6 (.t8 0<|.W 2147483629),PA.imp h λσ H Q c=>by obtain⟨ρ,σd,d,b,q⟩:=c;exact .au d b q.of_pl,s2.heap.push { cls:=.bQ "list",dict:=none,data:=.fL (.eZ ([]:.H)) },(λx => ! x.1),call_list_seq p γ v w x (λd f m e=>fin c g k d f m e) .Lr,γ (.UE Rc (A:=X.A.in1) (.ip hc) it a J f.toArray) t,(λg q c=>by obtain⟨m,f,o,d,q1⟩:=c;exact .a0 l q σ f m g Q o d q1),(λA K n j o=>⟨n,σ3,G,L.trans<|.sO j,o,de.ext (.sO j) a⟩),zYu zWm γ PySem.F.entry_dict_getitem ?_ (PySem.F.args_dict_getitem_2 _ _),["_law_text_here","_law_line","_law_caught","_law_at","_law_error"],zYu zXg c.typeIs entry_tuple_getitem ?_ (args_tuple_getitem _ _),[98,97,114,32,48,γ],(.QT<|.bS γ).all .abA && .aaY,eS (ag γ .e5),.d1 (.nO .an3),cQ (.jX e γ au<|aP _),["enumerate","zip","dict_itemiterator","dict_reverseitemiterator","odict_iterator","itertools.zip_longest","itertools.pairwise"].contains n,.a (.ref<|.gT h γ),.hb x=.a { o with dict:=.a h.objs.size }->h'.Ns1 h.objs.size (λy=>.Q y name .aM none)->(∀b ob,b≠x->.dQ b=.wt->.hb b=.wt)->γ,.fI (aj dU (aj dH (.cK (.cK (.lW (aa 5)<|aa 5)<|.vO 69621<|aa 5)<|.vO 11<|aa 6)<|.W 5)<|.W 2147483549),.amj P (.call (.d J)<|.dh .iM) (λr i=>r=.ok (.ret .mT)/\OldK c.heap i.heap/\i.os=c.os/\AllBare i.gens) c,(λ(x:Str × NameKind) (r:List (Str × Addr))=>if .s8 (x.2) .free then do let a <-cellOf env x.1;.zU ((x.1,a)::r) else .zU r),(∃a C dx A,M=.z/\s a=.a (.js A)/\.fA Cls/\.fA pJ "web"/\A.length < 1000/\En.nx σ (.fE s<|.js<|oN "web" v A)),⟨.Rc,[.Rc,f.heap.objs.size],_,_,c,rfl,J,Dt (L:=γ) .Rc f.heap.objs.size a,⟨.cn (by simpa using r),hit⟩,λb n=>?_,q D⟩,(λi m σ' z=>∃ρ' k hd',Ext G V ρ' z/\.an8 (.h2 PostX ρ' z (.IR i k hd') E En)),concat_meets (.dk j) (.dk c) noFill_tuple_add seq_tuple_add PySem.F.slot_tuple_add PySem.F.entry_tuple_add (zUc _ _),(∀{xs:.m} {σ:Sd},(∀x∈xs,∀σ,I σ->∃σ',.k9/\I σ'/\kc cs σ' h=.jP p x/\(p x=true->.jH e=.jP f x))->γ),Call_ (pH I K G PyProof.Rows.boot_enumerate (zYg (thn (.xr m (λt c=>∃a d,t=.iM/\γ) I ?_) λM f A=>?_) v rfl)),⟨.U6,upd c a.heap.objs.size γ,d.laid (t':=a.toks) (.uI .uD) (zBK _) ?_,rfl,q _ f⟩,.my outer s'.heap/\(∀b u,H' b=.bL->.aap)/\(.cJ<|.gw b->b∉frs outer->.aap)/\γ,[.om,.w st,.T,.aH,γ,z],(∃y j c g,iJ [td,.e cell] h=.nm .GC (h++g)/\.zG/\.E6/\.g8 RX c (h++g) y),(∀(kV g pm:R0) (i:.cx) (e ct a b c d:R0),bindArgs (.tt g i e ct) (.dh [a,b,c,d])=.Cu [a,b,c,d]),gW W hd (F9 (fm:=.FY) rfl (.ab al2) .c (al2 (Ls l)<|Ls l) γ b) (ths:=[bp s,bp s]) rfl rfl,.U (Ak zXy PySem.F.slot_str_join PySem.F.type_str_join γ Ad (.d9 he k) b d a k) .EF,.ej (uf (.ku cw) (aa 2)<|.it .es) (aa 3),(λC B O=>by obtain⟨t,h,u,a1,Z,a3⟩:=O;exact⟨.sA<|i+1,.bm,t,h,u,a1,Z,F,rfl,a3⟩),fFs (.mq fB .jh<|fB .Ac<|.mq fB .cL<|fB (.cA gg)<|.mq fB .cL<|fB (.cy gg) wS),.akf PySem.F.slot_list_extend PySem.F.type_list_extend Do γ (.d9 he J),⟨.QD I.ok.hd,I.os,I.bare,I.base,I.loc,I.cell,I.free,I.freeC,λp a=>.hy γ,I.hok,I.len⟩,.cW (.rP γ j zi rfl rfl λe k h=>bW h),(∀{l:.m},g[n]? = .vW l->.f1 1->.h2 γ m Q (.nx σd<|g.set n .Qn) E En->_),.b1 (aq eU<|.kI<|.N<|o0<|aa 4),.fW (newFunctionEnv scope X.env.globals cl [] X.env.qual none .none<|.a X.env),(λC B=>∃t h u,Ext G V t B/\.f7 t B h u C/\.h2 PostX t B (.IR (i + 1) h u) E En),.og oIn wd (.E [.h .eA,.h .fc,.h .gQ]) g=.cQ γ g,.nG q γ aR (a.mono<|.lL c),cy 1 [1,2,6] .Z1 (gN 0) [],.U h λσ H Q b=>by obtain⟨ρ,σd,c,a,q⟩:=b;exact .au c a q.of_pl,.E [.e<|.fx (.M b) a b a,.e<|if .M b>a then b else a],.a3 4 (bJ<|cy 1 [3] (.jU cT) (gN 0) []<|.YB 1),.gX (fIf (tE<|.dM nQ<|.ae [45]) (.dM zG (pAt .aa) pNo)<|aa 0),lu .cL (.Y .eA<|ae (.jU gg)<|ae (gg<|aa 4)<|.N<|gg<|aa 5),(λC P q k s=>⟨q,σ3,O,Q.trans<|.sO k,s,.qR (.sO k) a⟩),.HV .FC (.HV .Du<|.FN (.Y (.m5 49) .B1)<|.N<|dh<|.Y (.m5 48) .B1),.Y .BS (.Y (.uQ 32)<|.Y .TM<|.Y .Td<|.Y .XJ<|ae .gr<|ae (.W 7)<|ae (fC .dO)<|ae (bJ<|.it .es)<|.FN (.it .es)<|.it<|.wL 10),.kV (.kV<|.Kd<|rS<|kK γ),GY (.Y []<|ae (.qE aW<|.ae .aO)<|ae .Mi<|ae (.ck .Mi<|.ae [50])<|ae (.ck .Mi<|.ae [120])<|.N<|.ez [45]<|aa 2),ae (.aat .jh<|.ae .Wt) (.Y .Us<|ae (.aat .DH<|.ae [32,55])<|.Y .Vc<|.it .UM),ck γ (.ru<|.Kn bh),(∀h',.Cw h' (.En rawInt)->.ix h' TO x y->It2 La h' i1 l1 (k + 1)->It2 Lb h' i2 l2 (k + 1)->.ix h' s.heap.objs.size x y->γ),.ah7 (.fV<|bj (bj (bj (.Z γ)<|bF vw vv (.Z .H4) au)<|bF vw vv (.Z .Dc) au)<|.Z .cc),⟨s.heap.objs.size,_,.Rd,_,_,_,λi=>ns.getD i 0,rfl,γ w s.heap.objs.size p (zBM c) a.toArray,.c4<|.rb .ds,?_,Mw m,?_⟩,.ck (.ck (.ez .Ub<|.cy eT pNo<|pAt<|aa 5)<|aa 6) (.cy eT (pAt<|.zr 5) pNo),⟨s.heap.objs.size,_,.Rd,_,_,_,.CG,rfl,γ w s.heap.objs.size p (zBM d) a.toArray,.c4<|.rb .ds,t a f,?_⟩,sPl (.dW (.gO (.hN .a1)<|.ae .Aa) (bf<|.afC .pF) aX),.jl (aq gQ<|ae (fPl<|.dM vg)<|ae (aq kr<|fPl .w5)<|fPl .aoB),fT (.lZ (.qE jK .gr)<|.lZ (.gO (aq ko .w5)<|aq iV<|.hj 5)<|tE<|.fd 3<|aa 1),⟨f.heap.objs.size,[f.heap.objs.size],_,_,d,rfl,c.kept .vB,γ a _,.rb .ds,λb k=>?_,q j⟩,bf (dh<|ae .KQ<|.N<|fIx (ae .nH<|ae .l1 .vq)<|aa 2),(∀(pins:.bc) (s:R1) (σ:St) (H:Hp) (x:V) (xs:.R) (v:R0) (us:.H) (Q:VK),.n->.qd->.ka->γ),(∀(pins:.bc) (s:R1) (σ:St) (H:Hp) (D:wE),.n->.nS D->.fW (γ st X.env) (.tr SP D) X.xe s),(∀h' e,γ->(∃o,.wv e/\.GY "StopIteration")->.bi E e { s with heap:=h' }),.kQ (.dE (.aD .x2 == 0&&.gk == 1&&(.yd-.z7) == a.size) _ _) s,(∀q vs H' ρ',.dC->.A4->.b9 q->H' q=.x vs->q∉ρ'->.gt RDs l vs->.iU q H'),fIx (.Y .cc<|.N<|.ck (.ae<|.oP 116)<|Hl<|aa 6) (QY<|.F6<|aa 6),x=.h i/\y=.h j/\.jF (!(Builtin.Str.occurrences j i 0 j.length 1).isEmpty),sIf (.BL (.ej (aq eV<|.Fx 6)<|aq iV<|.eo 7)<|tE .ab6) .xS aX,[.lp p1,.gn y p2,.Bh],(.fS h.objs.size).filterMap λa=>if a=L\/γ then none else (.dQ a).map λo=>(a,o),.av (.M (.x2:Nat) == 0&&.gk == 1&&(.HX a.size hi-.x2) == a.size),.fI (fIx (.aB 3<|.aB 3<|.aB 3<|ae (.zr 3) .pR)<|aa 4),.aQ (nP<|.xp e (.d1 .aaE) .ZO mkFn_ne),upd (.lM<|.mJ .ano) s.heap.objs.size (.xd [(f,y)]),.UA (.RU .aH) .cS=.nB .ZK .cS,.LN (.ck (.aat .ux .I4)<|aa 1),⟨.ajp,λA a s H g u b Q E t m x r z=>?_⟩,ju (.Gw g (aB j e<|.a4 11<|.H3 γ) (aB i e .e5)<|aP _),cA (.dv<|bB (.cG c .sm)<|.cG c<|.aC DK),.pe (ae (.ez (.oP 119)<|aa 1)<|.Y .WK<|.Y .Sc<|.agj 1<|.Y .Sl<|.N<|.ck (.ck (.ae .VP)<|aa 1)<|.ae [32,49]),bJ (.Y []<|.Y .cL<|.Y (.NZ 83)<|.Y (.wL 32)<|.Y .U9<|.Y .Un<|.Y .TS<|.Y .ql<|.N γ),ae (.ez .sb<|aa 3) (ae (.ez .BU<|aa 3)<|.agj 3<|.N<|.ez .Vo<|aa 3),ae (.mq fPl .fc) (.FF<|aq d6<|fPl<|.ki 4),ul (yz (ah (.cV (.cG B r) rfl)<|.lK<|aw (aw (.cG w E) (.cV (.cG B r) .oK) rfl) rfl rfl) .DJ<|.aE e) rfl rfl w H,tOr (.b1<|aq fO<|.qn<|.eo 4) (.b1<|aq fS<|.Fx 4),fIx (ae (.ck (.bE 2<|aa 3) .I4)<|ae (.ez .cL .B9)<|ae (fUp .B9)<|.it []) (.aal 200 .nH),ae (.ck (.ez [115,116,97,121,32]<|aa 3)<|.ae .UX) (.N<|.ez .Vt<|aa 3),.Dr (.QZ td->.nC σ g=γ),.dW (aj oGt (.vV<|.hN .aa) .aa) (.gX<|.MF .acp) aX,dj none .oZ .lj .aoy (aa 1) .oZ [none,none,.bV] h,aq aY (ae .BR<|.HJ 30),.nf (Hz (T := "str") rfl e .ac<|.wP (Hy (id := "len") rfl g .ac<|.agY γ)<|.d1 ao),sIf (.b1<|aq aY<|.aB 3<|.ov .vq) (dR<|.wy 5<|dh<|.qn<|.Fx 3) aX,.Ve (.M3 .B4) h=.d5 (.M3 .B4),.nf (zI rfl g e<|.Mu<|.xp γ .abL .ZQ mkFn_ne),.hZ γ (.d1<|ag (E1 T<|mv 0)<|ag (.mu 2) .B0) .Mt mkFn_ne,bJ (.HV .GS<|.FN (.Y .SF<|.hj 4)<|.HV .Hi<|.HV .GO am),zWb J.ok.kind hg (Calls.loadGlobal_global (.ff J.ok.glob γ) hm ?_),h++[.q<|.mY γ,.Rm,.q .i4,.q .eO],EJ (G0 (γ i) n h .ac (he:=f)) g (λρ H σd o σ l q r Q j m b p=>?_) f,(∃Y ln,iK [.h γ,.e cell] h=.lv [.h Y,.fw ln]/\Tx Y/\.le Y=.bad ln),⟨by obtain⟨t,rfl⟩:=d.pre;rw[.o (t++[q]) .f],λa s=>γ,d.frame⟩,zYy (wpAny_newFunctionEnv S.cell (by intro y hy;simp at hy) γ S.kind),.dW (aj γ (aa 7)<|.Dy 3),⟨ρ',k,hd',l[i],h,w.same U,rx,c,λC S=>.g4 ρ' h hd' S⟩,.vQ (Builtin.«object.__getattribute__» ⟨[.z,.h γ tk],[]⟩),⟨l.length,G,σd,P,Ext.refl,Q,zZc _,.f,.h1<|PostX.ext N p⟩,.wA Df λEn σ H b=>by obtain⟨ρ,σd,d,c,q⟩:=b;exact q,["NoRow", "NoStand", "NoPeople", "NoRest", "TooMuch", "NoWeb"],vs=[.d q]/\(.wp q .Sr\/H q=.dV (ss.map λx=>V.str<|toS x))/\γ,⟨a,L,dx,_,rfl,q1,T.cls,T.no,by unfold t7;rw[zST];omega,?_⟩,.J6 (.iI<|oX (.cl<|.yb .tuple i rfl e .ac<|mv 1)<|.pT γ),Al oLe oLe (aa 1) (aa 0) (aa 2),X++.l5 (.ux++x)++.l5 (.MJ x)++.l5 (.IB x),.dJ (∃p xs i v,x=.d p/\y=.aG/\γ K H p xs/\atI xs i=.aM/\Q v H),upd (upd (.fE i .PL) a<|.mJ .a8) c (.xd [(fl,v)]),GY (ae .gr<|ae (.W 5)<|ae (fC .dO)<|.N<|bJ .pR),zYu F.slot_zip_next γ F.entry_zip_next ?_ (F.args_zip_next_1 _),⟨_,rfl,_,d,.ge ft j ft (aH<|.c9 t)<|dL γ,rfl,_,_,_,rfl⟩,x=.h i/\y=.h j/\.S (i.length+j.length)/\.nD (i++j),(λpins s σ H v w Q I r q=>.kS v w Q I r (i v σ H Q q)),zXm (.amX u m x r<|h z) λr D q=>?_,(∀{P:.dU} {vs:.H} {i:Nat} {m:.gD},P.Nodup->.iS P->.mR vs->γ),(Nat.not_succ_le_zero _<|Nat.le_of_succ_le_succ N).elim,(λz=>.B lt (by rw[show b=γ from z,hC];exact .sP<|zVc _)),["_law_desk","_law_row_here","_law_caught","_law_error"],.zY value (.a<|.ms o f pos') pos.line X.env=.qC,MSs (.Ck CX0 x (aD st) f a A outer s H E).nox (cG st) b,(λ_ _ _ _ _ _ us hl=>by obtain⟨_,rfl⟩:=Ik us hl;rfl),aH (cF (cV (fq rfl<|.bf p) γ) (by rw[zST,zBN];exact .bf p)),.g4 "tuple" _ PyProof.Rows.slot_tuple_getitem.lookup γ,(λc g=>by simp at g⊢;rcases g with e|e|e|e<;>simp[e]),.ua γ (.call .l4<|.dh<|.d (h.objs.size + 1) :: rest),.Si (.dj a=.bb/\.GY "list"/\.qi none/\.QR xs),⟨.OW T.stop M w.hp D,.Xe z w⟩,.cZ .m4 (match γ l i j with|some y=>.v (.h y)|none=>.bad),.sR { s with heap:=h',gens:=g',drawn:=d',toks:=t' },.gs .NotIn (.dJ<|∃l,x=.kh l/\y=.z/\.C4 (.l6 γ) H),(λe k=>⟨.kh b.flatten,H,I.tok k,⟨e,.bA Hq⟩,f⟩),(λe k=>⟨.kh<|bD sp b,H,I.tok k,⟨e,.bA DD⟩,f⟩),dF (.lZ (.fd 3<|.ae .pF) .acd) (eA "NoPeople") aX,⟨nofun,nofun,nofun,nofun,List.Pairwise.nil,zZc _⟩,.iN _ (body c A outer s H E B) ρ _ h ⟨r,wP q⟩,(λd=>match d with | .int a=>.h (line Bm [a])|_=>.non),Fy.ns_for zWs rfl (oY rfl γ (mv 1)<|.hB (mv 1)<|mv 2) aJ,.BL (.ej (aa 4)<|.ae []) (.X4 .a1),Draws prog w A it [it,l] a.size (λi v=>.mR a) (λi h=>γ),typeLookup (.bQ T) "__getitem__"=pure (.a .GP),qT G (gT [3,4]) body (rw2 Z) [.jK,.cu,.a8,p,q] g,a γ L n (o.trans j) r,γ t b vs.toArray a.toArray n l q h m f (by simpa using o),(l.zip xs).foldl (λσ p=>.qf (p.1)<|some p.2) σ,.fW (.NM "isinstance" [u,.Ox]) Q E s,(h++[.eG .f0,.q<|NL .IM])[(.i8 1)]?=.x (NL .IM),⟨.iY h,λa i e=>?_,λa o u e=>?_,λa j e=>?_⟩,(by rw[UD];apply vx;intro a _;simp[toS,Str.length]),γ t h n g (λj h1 i=>.h1<|F j .xY .Xw),bJ (sA 2 [0] (aa 1) (aa 2) .lj<|aq jB<|fPl .yz),ah .HB (ah .HB<|bB .HB .HB),dh (ae (.cA VD<|aa 2)<|.N<|EX (aa 1)<|aa 2),(∀{a:.f6 R0} {m:.gD},(∀v,(x,v)∉a)->γ b a m x=m x),.g4 "str" _ slot_str_getitem.lookup .Hl,.QX (R.map D.str) (cs:=[]) (e:=γ) (h:=h) (I:=.qN) .c3,p.1=q.1/\H q.2.1=.dV (p.1.map kV)/\cS p.2 q.2.2,o _ q l Ext.refl h (.lb (u.mono<|c.hp.kp n) i),Calls.callWith_builtin rfl (PySem.evalArgs_none γ),t∈.hg↔t.a<n/\.wq/\(t.b,t.w)∈nbs T t.a,(λh t k j=>fin (by simpa using m.length.symm) j),.vF (.bi Builtin.SmallTypes.ownedTupleIsFree z),.cW (.RI γ λe g h=>bW h),.JV (.Pt (o:=γ) .aaF (zBK _) ?_),zZd (.kS D (I.wish _) a) (.nQ q.unwish),wpAny_pyIter_enum (s:={ f with heap:=i }) r ?_,.en (.qQ .Zd e pos) (vh (fPl F) K),zVm F.attr_ValueError.ga.plain F.entry_bexc_ga,(λ_ H9=>H9=upd γ s2.heap.objs.size (.hM ys [v8])),typeOf .GP=pure (.bQ "method_descriptor"),okd .dS λc b=>(.az<|bN<|My rfl a<|dv .ii),(λh l j=>fin (by simpa using f.length.symm) j),.apq (tJ x) false,(λb H'=>∃ρ' a hd',.dC/\.A4/\R ρ' H' a b/\γ),.aL (.Call (.ms .rq "join" apos) [e] [] cpos),(λσ' j ρ' D t=>a .non j ρ' D t.hp .BG),.Raise (.a<|.Call (.lp np) γ [] cpos) none pos,BN h .ZY h.length (.ga .ZY),(.m9 (1<=.bp/\.bp<=30)<|some<|.gW .ek)=_,Nb zWs rfl .ami .su,γ (M:=model P w) (A:=.wf<|.Cf d j) (E:=.bw),.dn (.Aw (.dD<|.o9 (.aC FX)<|z5 a) γ),(by rw[I.ok.glob];exact I.mod.glob.keeps I.bk),[.a7,.bV,none,none,none,none,none,none,none],bf (fIf (tE<|aj oGt (aa 4)<|aa 5) .aa .a1),Fy.sTryF 2 3 4 "NoText" (Fy.fMkX bP .B8),zVv.mp O.un k i _ f (YP γ<|Nat.min_le_left _ _),.kN xx (lk:=lk) (st:=st) (L:=L) (h:=h) (f:=γ),.gn c cp,(λpins s σ H D I q=>.kS D I (i D σ H q)),.cg .gk f.length&&.cg (.M f.length) 60,(λv H'=>∃ρ' d hd',.dC/\.A4/\.Ph/\γ),(λσ' l ρ' h c=>⟨ρ',σ1,h1,c,.qR h q⟩),(λp hp=>.B (show p∈([]:.bc) from hp) .f),[.be,.w a,.mj,.w x,.a P,.t g.length],zYa (name:=.kZ "__getitem__") c.typeIs zXg,⟨.aC T.keep b8 λb w o e=>(.Q2).1,λb w=>γ⟩,as[j]?=.jK->rs[j]?=.a r->γ=.dV (r.map V.int),sPl (.q8 3) (.RU none) h=.nx (.RU .aH) .cS,.JL (NE ((.xf C s H ex).wish<|.q6 XF E) E γ e),.j1 h λEn σ H ⟨ρ,σd,a,b,q⟩=>.au a b γ,.bI (vd (.bE 2<|aa 4) (aa 5)<|.bE 3 .ba),.dW (.F6<|.Dy 4) (.a3 8<|.Dy 4) aX,(λpins s σ H Q I q=>.kS Q I (.aU i Q q)),.jD (.lW γ<|.W 48271) (.W 2147483647),[.w c,.fT,.w m,.w base,none,none,none],zXt (l:=γ) (u:=.a (j,c)) (st:=none) d rfl .abn,sS.some_of (v:=v) (o:=mA f) (.ay l<|r f),occurrences a .fD 0 a.length (a.length+1),b (g.map some++.hp (N.length-g.length)) h,.tD I.turned (λb o g e=>.i (W.2 b g) e),List.foldl (λo j=>o++j) #[] (.b4 γ b.toArray),.dn (cR<|zT<|cE (cA .ly)<|ID W F no h),MT X (.x7 a [.NotIn] [.lp p] pos) (tE<|γ T h),M.get? B=.a (PySem.W.listOf f.toArray c),o _ h g Ext.refl ⟨a.hp,a.st.set i n⟩,Ext i s i (.fE s<|.ins L dx<|t7 [v]),zV p (cF q<|.j9 Nat.le_add_left z) γ zAP z,h++[.q<|.mY<|.J3++.l9,.Rm,.q .i4],.ou #[.w8,.none,.none,.none,.ry,.none],γ X rfl rfl rfl V i pins Y t G X.xe S (l F) A,(by obtain⟨C',e,q⟩:=i;rw[.sx q]),.mr name a d body scope M kV m pm L c ct,(match d with|some i=>V.int i|none=>V.non),.dct ((nbs .lu t.a++[(t.b,t.w)]).map yY),(.fx v 0 (max (v+.bp) 0)<|min v .ek)=.aD γ,NSs (.Ck (γ P w) x (aD st) f c A outer s H E),(h++[bO.ob []]).set h.length (.ob [.ih]),zXf (isinstance_false_list γ (lW t)<|Mx f),PT.imp (zA (γ t) j (.xA A r k rfl hd) m) .tS,.Go (λ_ x=>∀H,RX n T bs' ss γ H x),.ua A (.call .aaX<|.dh [.z,.h γ tk]) R .fY,q l (zBL w o) a λi h1 m=>b i (zBL γ h1) m,.a3 11 (bJ<|Ax (.N<|fC .non)<|aa 3),fg ["figures"] (fD<|.fX mM (mL au) mK),(.aO:.g) == [c]||([49] == [c]||false),hU (.jy (eW<|.dM dY .OG pNo)<|.ae γ),w.stays[i]'(.n8 W.s F.len f),.Cq .rq "join" X.env (.cP .rq)=.cP .rq,.dJ (rI0 (.ra<|i+j) x y H Q\/GV γ x y H Q),.hW (.NM "list.append" [acc,x]),.cg (0+b.length) a.length&&subAt a b 0,a.trans (by dsimp[zZh,xI,th0,th1];rfl),(.Rn).sum+.ad b.map toS*.ad toS γ<=16777216,.Q x 0 .hI (.s3 x 1 1 none),X9 (λf x q e=>?_) (λa b c e=>?_) ?_,rR W hd t a (o:=.fj (NX γ) .k6<|h++.yl b),.of G.mono (g.hp.kp A) (h.hp.kp L),⟨q,o,.bA s,rfl,w,r,p1.here i .eJ⟩,aF (gT [8,9]) (aq iK<|.aB 3<|.eo 5),.dJ (y=.non/\Q (.tw<|x=.non) H),tE (.gO (.t8 1 .ba) .aa) (.tz z) d=.ok γ d,.h (PySem.Str.ofString "0123456789"),aq aY (ae (.CZ .ba)<|.HJ 400),.RL (4+.ad sg s) (.IO<|4+.m0+1) .b,ag .s5 (.aaI g),.cY 9 λk:Nat=>D.bl (.D<|.M k=j),.dJ (y=.non/\.jF (! .aN x .non)),.aa0 none none none none none none,.wA (uR h1 g) λEn σ H k=>?_,(λobj=>F.args_object_init_2 obj _),(∀(i:Nat) y σ h,xs[i]?=.gU->P (k+1+i) σ h->∃σ',tg y σ=.a σ'/\γ),.xI 3 BT (.cY i.length<|.lJ .xc) [.om,.T,.aH,y,z] (.abi cC),wpAny_handleBy_cons (codeAny_handlers_test γ) (by intro q;cases q),ae .gr (ae .gr γ),dF (tE<|aj oIn .zV<|dh<|.Y .eA<|.Y .fc<|.it .gQ) γ aX,aw (ax (bB i f) q1) (ax (.lK<|n a) q2) (γ (.ag m) b<|Lp j),.nf (.hZ j (.d1<|.uy c<|.uy k γ) (λv m h=>.qM) mkFn_ne),.gB (γ b o (.D0<|zBM<|zj<|zAR e)<|zAQ _<|hH2▸.uD),⟨.e ys.length,H,.pv,⟨s.toks+1,.L UC c⟩,q⟩,bJ (cy 1 [0] (cT<|.W 9) (gN 0) [] .ZT),.apo .bc Bool (.n->γ),h.update T (Obj.mapFields (·.setIfInBounds 3 x)),.acr (cE (cA<|.dv<|bB (.cG a γ)<|.cG a<|.aC DK) j),(∀{b H Q E},.mc γ np b H Q E->.PN b H Q .la),.xI 4 b (.cY m<|.lJ .wu) (.ab1 y) .PV,tE (.ej (.F0 .vK)<|MN<|Dx fR .je),(∃pins σ H a C B t,e=.z/\.gY s'/\γ/\.uR/\E C H),(∀(c:R0) (A:R3) (outer:.f9) (s:R1) (H:Hp) (E:XK),γ),ae (.ck (.ez .iH<|aa γ)<|.ae [32,48]),(∀x∈f,γ)/\X.length<=f.length/\f.length<=.gh k,.pl sIx 0 i=0/\.jn (sIx l.length l.length j),.cy qp (cy 3 [] (eW<|.cs dw) (gT [0,1,2]) [] γ),.il (.ft<|sx v<|jw<|.fG γ<|aV<|cF rfl),.cW (.rP "TooMuch" γ zi rfl rfl λe o h=>bW h),.u8 zU (b:=aa 2) (tg:=gT [3,4]) rfl rfl v t,(at3 (h:=h) (a:=.q γ) (b:=.q .PY)).2.2,.tu 5 (.hB (.o3 (mv 6)<|mv 3)<|mv 7) .bu,.pw l/\H b=.x zs/\.S (xs.length+zs.length)/\γ,.N (fFs<|.mq fB .DF<|fB (gg<|aa 1) wS),.cl (aB a b<|.a4 γ<|ag au<|.fV<|.uF<|mv 0),Builtin.«zip.__next__» ⟨[.d z],[]⟩,(λb o D F e=>(γ (b,o)<|.dF<|a5 b o D F e).1),aj oIn (aa 0) (dh<|.Y .aO<|.it [49]),.yZ (.bi Builtin.Tuple.tupleItemsOf t) s,(.fY:R1).TypeIs .S3 "getset_descriptor",(∀x c,.qF->c≠b)/\∀p∈.zn,p.1≠b,(λ_=>⟨(.mL b),.de ⟨rs,f,.bA e⟩⟩),.K3 none none none none none none none,zK (zZq n) (Int.lt_of_le_of_lt (.lR γ) .c),.xp d (.d1 .gf) .ZO mkFn_ne,(∀vs H Q E,sp vs H Q E->.KL vs.length),⟨.CN,(.de .f),zBK _,λx c=>.G c⟩,(λ(m:Nat)=>xs[(.M i+.M m*1).toNat]?),γ (.ip e) λg n k=>⟨_,H,I.kept k,?_,q⟩,.i (.To<|.aZ γ) (.d2<|aX .re h=.d5 .re),.DU ((.wp p vs\/.wd p)/\.dp),.tu 4 (.xP 3<|.hd b<|dv<|mv 4) .bu,fIf (.Il 0) (.ae .cc) (.Ji<|.oP 116),.Ev (gU pw<|gU pw<|.Ev<|gU pw pw),XT d s Z n bk sk none none none none,.pd c5 [⟨tg,b4,[],0⟩] scope pos,.pd c7 [⟨tg,a9,b7,0⟩] scope pos,.h7 g (Hk T n (e.mono .c) (mv 2) (.fV γ) Fy.gd_np .c),.cZ (.f1 600) (match yX l with|some n=>γ|none=>.bad),.a3 11 (.OS<|.N<|.ck γ<|.ae .cc),.cg k.length l.length&&(.gP k.length == k),.abt aai (body:=γ) (a:=w.enc) (b:=j) (c:=.hG),.nx .ro (h ++ .q (.DP .xa)::(g++d)),.dW .Fs (bf<|hU<|.jy (.dM cT) .gr) aX,.Mu (.hZ γ (.d1 .gf) (λv d h=>.qM) mkFn_ne),Ay 2 [] .GT .lj [(tE .Fs)] (aa 0),.OM (j b o (.uJ<|.sp e) .uD),a.map λb=>.Q (b.1) (.qH k) (b.1,c) b,.cy qp (.jy (eW<|.cs fF)<|.Ji .iH),.cK .aa (.jD (.qE lV .ba)<|aa 1),.cJ (b∉.Rd->.sn (.qA x)->.fv b),.pd w [⟨tg,h,r,0⟩] scope cpos,(by intro pins s σ H x y v u Q I f i h;obtain⟨ρ,j,d,k,b,r,a,c,e,q⟩:=h),(by intro pins s σ H x y v u Q I e l h;obtain⟨i,j,rfl,rfl,q⟩:=h),(by intro pins s σ H x y v u Q I c d h;obtain⟨l,rfl,rfl,q⟩:=h),(by intro X p r u y i pins s σ H E I g a B;subst p r u),(by obtain⟨oi,C,F⟩:=hit.cl;obtain⟨oa,j,g⟩:=T.cl),(by intro X hP hw hK g i pins s σ H E I S B hg;subst hP hw hK),(by intro pins s σ H x y v u Q I d e h;obtain⟨rfl,q⟩:=h),(by obtain⟨_,_,_,_,_,_,_,_,_,_,_,_,_,_,_,z⟩:=q;rw[.l0]),(by intro X r t J N i pins s σ H E I m f M;subst r t J),(by intro X t y J N i pins s σ H E I n f M;subst t y J),(by obtain⟨t,c,k,B,q1⟩:=A;obtain⟨a,d,e,C,q⟩:=q1),(by intro X q A B F i pins s σ H E I l a g;subst q A B),(by obtain⟨x,d,e,j,q1⟩:=i;obtain⟨c,rfl,q1⟩:=q1),[.kG,.aH,.T,.CE,.t f.length,.t p.length,γ],(λρ' f hd' h m _=>⟨vs,γ,a.mono<|r.kp h⟩),⟨_,_,γ,rfl,.c,.c,λH dk g d=>f dk _ d⟩,⟨_,_, "NoRest",rfl,.c,.c,λH O g d=>γ⟩,.ax (match .gV with | .exc x h'=>γ|_=>.bad),(λρ' c hd' a n _=>⟨vs,γ,.xJ b.length⟩),(∀base:Heap,(.oH).In base->.tR base.Ns->γ),(by rw[show (.mH).stack=.vz from b];exact γ),PyProof.Rows.callWith_builtin1 γ he hpl,.cz e λd h=>(γ).bind λds h=>.v (d::ds),⟨toS l,y,i,.CD D,e,b.here m .tK⟩,γ value c pins s σ H x y v u Q I e f q g,Int.le_sub_one_of_lt (Int.ofNat_lt.mpr γ),Gg o L W n6 m lt (all:=all) E γ g a .bV,.zh x ((.dE (.t3 c) .Rk (n,c))::_)=_,callWith pos γ [] (.tB<|.hl g) (.YA pos),.D (.s γ+.s ([]:.ai Keyword)+(if ([]:.ai Keyword).isEmpty then 0 else 1)<30),MH PySem.F.slot_dict_getitem.lookup,(by obtain⟨o,f,_⟩:=g;exact zAR f),c.toArray.any (eqU x)=c.any (eqU x),[.a7,.fk k,.ox "NoText",.fk k,none],(∃xs,KT H b xs/\h.DictOfH .I9 a xs),(by obtain⟨o,c,_⟩:=g;exact zAR c),PS X (.qQ (.ms o f pos') value pos),.cM (onTheHeap (.ee D)&&.I3 == .QY),(∀{i:Nat} {x:bO},.iS h->.iS (h++g)),γ (.Cf d D).kindOf (ps.zip us) λ_=>none,⟨.ay a.length<|pK f,λq m=>?_⟩,Int.le_total γ (x.cps.toList.length:Int),dh (ae (.ez .sb<|.cy gg) .B1),vY (c:=10) (a:=aa 0) (σ:=γ) (h:=h) rfl,[.iB,.T,none,none,none,none,none],(by have:=g.length;simpa using this),.aL (.q5 "isinstance" [a,.gg γ] [] pos),c.pin (b,o) (vy _<|vy _<|kj k e),aq aY (ae (.cA MR)<|.HJ 60),PySem.W.InitBack (h.objs.size + 1),(λb H' ρ' a e q=>⟨ρ',d,c,a,e,q,γ⟩),(NW (ss:=ss) W rfl m.ls m.os s).mp,L2.ixN (toS l).cps.toList.length i,zXt (l:=.a (i,γ)) (u:=none) (st:=none),b _ _ g (.f8 c) (i.same c) (.ach l),(.tB<|.jk b).any (λx=>x.1)=false,(by unfold kf;rw[zST];exact zWl _ _),(∃g',gR [.d lk] h=.kf 0 (h++g')),Builtin.Slice.sliceAdjust lo hi 1,yM (show ¬(.av<|.KK l) from UG),p c o f.1 f.2.1 f.2.2.1 f.2.2.2 e,aaE (σ:=.Le .qK) (G:=G) (g:=g) (X:=γ),.KD [0] (σ:=[.be,.bZ]) (.u8 dM rfl γ),Kj T l (e.mono .c) rfl γ (Fy.gd_np),(by obtain⟨ρ,σd,c,a,p⟩:=b;exact γ),.bh q k (m.imp id SqT.of) (.jq j),TZ (c:=c) (l:=[]) rfl (q (c,j) e),s.heap.IsCell c v->h'.IsCell c v,GT (f:=f) γ M.makes M.init (.yV M.fn),f σ _ i (G.trans J) (h.ext J Y),i (.a2 ft (dL<|.dD<|re d)<|aV γ),(λd=>match d with | .ref k=>γ|_=>.non),(λ_ u=>∃i,u = { k with heap:=i }/\γ),⟨.zB,r.nd,λm c a q1 q2=>?_⟩,.x3 (SL l) (e:=γ) (h:=h) (I:=.qN) .c3,bf (dh<|.aB 4<|.aB 9<|.eo 11),γ c o (.io I.cne) K h y (.io I.freeC),(∀ρ' a hd',.gp a->RH K ρ' a hd'->γ),tE (.ej (aq pc<|.ki 3)<|aa 3),.U γ (wN λ_ _=>by dsimp[RD];rw[h]),aA (.rr (aa 5) (bf<|.rZ 2) aX),oV (.bE 4<|aa 7) (aa 6) (aa 8),PySem.Within mA (fs.map (·.1)),(by rw[.H9];simp at q;exact γ),.j1 (QJ O he V) λEn σ H t=>?_,γ (E:=.kk 6) (X3 (.L sn zXz) d) F o,.FormattedValue e (-1) none pos,.TR (λy=>by subst y;rw[.fh G]),.g6 (by intro z;cases z;exact γ rfl),.aQ (nP<|.hZ g (.d1 γ) .yg mkFn_ne),.Uj (i b H'<|h b H' ρ' e s q),(∀(w:P7) (h:Heap),γ w h->(.oH).In h),.i6 (.yn [.no o i f])=[.ri .rw],cQ (.jX a (.xP 1 au) au<|aP _),Nat.le_antisymm (zYz γ) (zXv.mp hji),pz (f:=iB) (g:=fz) (R:=γ) (acc:=[]),.j1 (Qz m l g) λEn σ H r=>?_,PySem.W.funFrames_hide I.stack,["many","ties","bars","stays"],["web","one","other","weight"],.a3 7 (.lW .ba<|Am<|.aci .SH),pz (f:=nX) (g:=gr) (R:=γ) (acc:=[]),[.fu c,.fu way,.fu m,.fu base],plainObj_wpAny_Assign_Attribute γ,.a3 6 (gg<|aj lU .aa<|.rZ 5),.i (StrLaws.glued_eq_join _ _) γ,(∀{xs:.R} {us:.H} (n:Nat),.ka->γ),I.laid (a:=s.heap.objs.size) (o:=γ),b::f::a::.w N::c::d::.w O::r,.acH (Heap.ExtBut it s.heap h'),(by rw[z,e]at q;exact n (.zu q)),.Jw O.tot (g.ne .b .b .b) c,(λv=>by subst v;rw[.hv γ];simp at m),.yr .i4 γ .i4 .bH h=.v (.mY .Fb),.bv k j c (.LX w λB q b=>?_),c.toArray.size+a.toArray.size,subscriptTail_builtinR (x:=w),thn (.xr h _ I g) λi a k=>?_,.h1 (congrArg Array.toList j),(∀i,γ<=i->i<k->.uO k (.fn i)=true),(λg k a=>⟨[],.DZ<|γ W F no a⟩),γ h b pins σ H s e a (I.wish _) q,mem.mp l,BI W F ls ln r C (all:=all) k,PySem.wpAny_pyIter_tuple g ?_,findBy (λk v=>v.isStr k) b k,.bv n k g (.IU I λx S c=>?_),F.attr_ValueError.ga.bind .z,.bv q o h (.IU j λB O c=>?_),[.aR,.bV,.qK,.jR,r,none,none],["_law_desk","_law_row_here"],(∀{l:.m} {vs:.R} (n:Nat),.dp->γ),(∀g,fO [.gj,z] g=.cQ false g),(λ_ _ σ H _ I h=>γ ⟨σ,H,I,h⟩),(List.range' i k).map (.y6 j),thn (.hX d Q I h) λc g e=>?_,.Call (.gn f fp) (e::N) [] p1,[.kG,.mB,.aH,.fk a,none,none],aF (gT [6,7]) (aq iJ<|.yk 5),h c (i c _ d .eI) (nb c _ d),cellsFrom .cf scope.names [],#[.e lo t,.e hi u,.e 1 v],.qX γ .eO (gN 0) [] .DE .eO .bH h,(λb H Q E z=>.cd i.len (h z)),.hR ek x (.e y) h=.ao (x*y),(λz=>(g c z).2.2.1 x c e rfl),.cn (get?_update_seq γ<|.de #[]),PySem.wpAny_pyIter_list g ?_,.au hd n (.aq c λv s e=>?_),Q .jQ (.rv<|.qA<|.sq<|.eZ γ),(λc v z w=>by rw[w,γ]at z;cases z),T.keep 0 _ _ γ λb w o e=>.bs old,Ei (h:=.lY h) (dk:=h.length),List.Pairwise.imp_of_mem γ h.up,codeAny_handlers_suite_as ?_,.dE .K2 (kg n .xa r) .KV,tOr (.BJ .str) (.b1<|t5<|.Er γ),I.turned (λb o f e=>γ) D p n C m,(∀i,i<l->.uO i (.fn k)=true),.au f g (.aq p λc m e=>?_),⟨p,vs,e,h1,RDs.cut b q⟩,fAt (fAt .je<|aa 3) (aa 4),⟨.i (f.2 p.1 γ) e,n,ne,W,d⟩,[.b0 D.ref dk,.a7,.r8,none],.Sf (λc v a q=>k c v ?_ q),k+.s (x::xs)=k+1+xs.length,(by rintro rfl;exact h v zCK),.J9 (aq dA<|.aB 8<|.eo 9),c≠z/\c≠TO/\c≠j/\c≠l,(by dsimp[bM,xR,zAK,zST];lia),(show .CJ a j.toArray from p),List.length_eq_one_iff.mp z,Int.toNat_le_toNat (n:=.bp),same b γ (.bs c.old (.bs t a) g),.lG ((.hp n).set i<|.ox c),(∃i,xs=[.aG]/\.CC/\.nD .yu),(by dsimp[peq]at e<;>cases e),(by rw[.jJ (z.1) (z.2) lt]),.au N E (.mD t λv P c=>?_),wpAny_Call_method0_late d c,aA (dF .ac3 (.Cr<|aa 3) aX),.iN m b ds g.hp γ (.cd hnp c),.a3 9 (bJ<|.LP 4<|.JS Am),rI (λ_ j=>0<j) (.ra<|i%j),γ (P:=NI n A tk h T) (g:=.a tk),(by unfold frs;rw[zXa,a];exact γ),(∀{i:Nat},i<n->.C5=eG .eM),.i (sb.2 a<|b7 he hd) he,PySem.W.plainOver K C=true,aA (.cA w4 (aa 2) (gT [3,4]) γ),.S4 (λb o g e=>T b o g e),(by simp at e;rw[.qv (.dz γ)]),(λq=>(.qH<|q.1,V.int q.2)),(∀{T acc:.ca},RT n (acc++T)->γ),(∃w,l=wd++32::w/\sn w=.aF),Ak PySem.F.plainAttrs_list,(.s (.mY<|wd::L):Int)-1=.M γ,.d6 (γ .Lt (.e a t)<|.e c u),mg "MOST_PEOPLE"=.a (.e 30 γ),.m4/\l.all (· < 128)=true,(∀σ',.bT RS γ hd σ'->Q σ' H),.ij (.fX pM (mv 3)<|mv 1),.cD "stands_to_try" 3 1 eX,.d4 (.vH γ (oW rfl j)<|aP _),.xz q (λ_ _ _ z=>z) (λc z=>γ),⟨1-z,z,rfl,.b,hi,.b⟩,Obj.isFreed_of_fields (zUj γ _),MS X (.Assign [.rw] e pos),Fi jD ip iq (aa 2) .B8,.ej (.cA RJ .a1) (.ae .aO),.gG (.cy dY pNo<|.jU pAt),aA (vh (.dM fPl)<|.Sw dP),.b6++.cw (.eh<|LS.take a),(λh' a b=>⟨h',rfl,a,b⟩),⟨f.typeIs,λb q=>?_,i⟩,.lr (b a) (Ly (rj L.ok.un i) γ),(λb o _ d _ e n=>.bs γ n d .f),.mG (storeName X.env x u),Gf ls ln r w (all:=all) k,.av (.ee T != Value.none),.a3 i (aq F<|fPl r) σ h,.en (.QO e) (sRaiseL n t),.fW γ (λ_ s'=>.Jn Q) X.xe s,[.aR,.mB,.w a,none,none],Bt (lk:=lk) (L:=L) (H:=H),List.set_append_right _ _,{ f with toks:=f.toks+1 },.JoinedStr (e::a::es) pos,(.b4 n (none:.X)).map bT,c=z\/c=TI\/c=TO\/c=j\/c=l,.bt (out.length+y.length),(by show .S 2;rw[.eV zZt]),.e7 λj=>M i j*s.getD j 0,z.sameBut a (I.cne y c e),KTD.tabLook γ (λb=>.dj b) a,vs.toArray.zip vs.toArray,s.heap.IsTupleIter it l i,aA TH TK (sg3 dk h r) .Dp,⟨d6,e3,d7,t,d5,.aE a⟩,(zXo.mp b).elim (λb=>.G γ),.af (.ms e f pos) (γ X.K ta f),(Sum.inr a:Key)=Sum.inr b,.iO xs.length ys.length,.JL (.q6 MTs γ cs/\.q6 ME w e),zZj (x.above y c<|zWy h),⟨ρ',a,γ,e,s,q,dG.ext e h⟩,s2.heap.objs.size ∉ ρ',nQ (.hN<|aa 3) (.ae .jh),okT x=false\/x.length≠n,γ I4.os I4.base I4.hok I4.bare,h.TracedAtW base e cls a0,y.2=.free->∃c,.I1 (y.1),.au i j (.EH λv g c=>?_),.h7 g (aB j e<|.a4 γ<|.hi 6),.TU (e::es)=.cP e::.TU es,.mG (.bi noteFrame e env),k.fpOk g (k.hok.fresh g),List.set_append_left _ _,["thing","least","most"],.aa0 K o p none none none,(if c then .bM else .jN),(λv d=>(.rT).1 (zUe d).1),.bv ρ' f d (de.ext i p),0,⟨f,.ir b,d,g.mono k⟩,.cD "check_rests" 7 3 gp,.fW (pyIter γ) (.mt PIE tg R),xs[k]?=none\/ys[k]?=none,aA (.dW (.h0 oLt .vK) γ aX),eqG (.ho []) (.d A) .k0,bJ (.N<|fC<|.bl true),c.toList.any (·.refKey),zBL (Txt.slice_le z _ _),(λEn σ H=>.mV (.Ec .hh)),cj (o:=HO.tup [.fw i,v]),PySem.W.makesIn K C=true,oN "web" v (t7 j)=t7 [v],.y9 uk (tg:=gN 0) (k:=0),(.LB i).bind λj=>xs[j]?,oV (.Dy 4) (aa 7) (aa 8),(∀i,i<n->eG (nbs γ i)=eG .eM),(∀l,.b9 l->.iU l (.dP l γ)),.aP c { f with heap:=i },bf (dh<|.Df ae<|.eo 5),Data.seq _ _=Data.cell v,(by rcases F8 γ with e|e<;>lia),(λv L n j r rv=>.ad6 v rv),(show .c1 m (.kZ "web") from γ),join_list i.isList .Tf g,lastMarks [op,γ] [b,c]=false,.i (i b<|w b o d j) d,.Su (Ek K E C l ρ' H'),(Int.toNat_of_nonneg γ).symm,(λw g=>Aj i j r e w .qU),.bI (.a3 4<|.bE 3 .a1),.gA (st::rest) (aA a b),.Ir (e::a)=.ri e::.Ir a,.E [.d<|0+n,.d γ,.d sk],.aL (.no (.lp p) b pos),sx (aH (i:=γ) (d:=.non) rfl),zAR (show .nd _ from x),I.extBut f.extBut Z.i1z,Kl (45::f) (.a 1) none,zC hok (A:=A.in1) q1 q2,aG (.cV (A _ _ rfl)<|γ .b),(λz=>e (by cases z;rfl)),.c4 (X2<|.lr (EH a) e),.v (.bD xs.filter p f),c a.heap.objs.size=none,.Ie .si γ rfl rfl e,zXi (pH I n k b ?_ j a),.yZ (.bi seqItems? l) s,f.cel n _ q b (c.get k),(.yn γ).findIdx? (·.1)=none,.E [.int p.1,.int p.2],n v i b Ext.refl c.hp m,⟨a.toNat,b.toNat,w⟩,(PySem.W.Looks.ld γ).andThen,(λ_ _ _ _ _ _ h=>h.elim),.a6 "is_opinion" 3 1 cr,.adm oLt (.a3 8 .a1) aX,(∃t,u=Value.bytes b t),E5 rfl c (mv 1) (mv 2),codeAny (model γ w) callerA,(λz=>by rw[z,γ]at h;cases h),rI0 λi j=>.bl (g i j),h++[.q<|.mY .J3,.Rm],.ok (NL .IM) (.ah .f0),.bS [a,b]=.ef a::.jk b,PA.imp (cD he m y) .D3,(∃t,u=Value.float b t),.adm oGt (.a3 8 .aa) aX,.cM (b&&onTheHeap .I3),.dx KTD.Here s.heap a (γ T),.S7 hc λEn σ H O=>?_,(∀b H',Q b H'->c b H'),.a6 "is_number" 3 1 gF,aF (gT [2,3,4]) (aa 0),.il (cF c<|.p zAK z),(∀c,o.data ≠ .cls c),.Tp (wF q hi k he s j),l.filterMap (·.frame),.nf (.hZ γ .abL .yg mkFn_ne),.fj (.exn n [d]) σ h',["web","form","words"],(Heap.get?_some_iff.mp γ).2,bf (rz<|.FF<|.Ka<|.Mz γ),.Ix γ (e:=.DE) (I:=.qN) .c3,pi (m:=st) rfl .r1 .b,i f pins k σ d Q e q1,(by rw[zST,F,C,zZt];lia),(X.A.in1).handled=none,.ja KTD.datumAt (R7 T),.ms (.gg q1) "line" q2,.aS q (.dg .kA .str),(.ee C::bm).contains γ=true,(∀a∈A,f (g a)=.jK),(by rw[l];simpa using m),G++.eG b::(d++.dX .tF),.gI .CC (.h<|vj .yu),0<=n/\.f3 n/\.Ug<=1000,.en (.CK s) (qt f g b),aY [.aG,.e a,.e b] h,i.run A a s H g γ b Q .la t,[.q [.dO],.q<|BL j],bJ r σ h=.b7 γ (.aS h' xs),aG (.cV (.cG E N) rfl),.rP "NoPeople" γ zi rfl rfl,.bad (.d0+n+ss.length),(by rw[l];exact .bP x q),zYy ?_ (by size_fits),List.take_sublist _ _,.pe (.jy (.dM cT) Ha),aq kT (.aB 4 .w5),.mp (itN La) (.S1 l1),z.sameBut f (K y c e),.acr (rS<|kK<|.rC r),.mp (itN Lb) (.S1 l2),.h2 AC (rDs X.K) E f,.Im (.a x5) (.t Q),PySem.W.instObj C dx,.cY R.length (.lJ 1),tOr .MR (.Rz<|aa 0),bf (hU<|lOf<|aa 5),.lX H p ys\/.pE p ys,(by intro i z;cases z),thn h4 λ_ s5 zz=>?_,lQ (.ur uD) (.Dq jE),aq eV (ae x<|.N y),List.toArray (.fS n),.a s.heap.objs.size,aH (cF (xs:=[]) rfl),.T5 "_law_cell_here",aq iW (fPl<|.yk 2),(.t2 .Ef) a b c d z,pO F f.extBut Z.l1z,m σ i b Ext.refl c,zUl c.typeIs .c ?_,.of ER i (.lL s),.eL (λx=>x[0]?) hd,rawInt d.objs.size,.sq #[.none,.none],(λA L n j r=>.ad6 A),.dP .cf (.Q8 none),.aN k uD&&.aN w jE,.adh (bM n a bs ss),.gx wpAny_newTuple,.b0 l.drop i.toNat,.ch (.bl _) H I ?_,.Q g f .bL (mA g),.gB ((.bs l.bs).1),(λy a=>.dF (b y a)),Att.noObjs_get _ _,tupleItemsOf_ c ?_,.cg 1 w&&.cg w 400,rI abF (.ra<|i/j),sx (σ':=.SV<|.t<|A + n) (h':=m),sx (.kj aH) γ,(match oF rs with|some ds=>γ|none=>.pz g),(∀base:Heap,K.In base->.tR base.Ns->γ),.kr (.aU tv λy H1=>.kJ ta λx H2=>γ),aG (.JX γ (by rw[ZU,zST,ls,.v9];rfl)),.gX (aq ce<|.Y γ<|.N<|.bE 0 .a1),(∀v σ H Q,u v σ H Q->.nS v Q),.fb (.aU to λx H1=>tyV K T x H1/\γ),(∀{xs:.m} {k:Nat} {σ:Sd} {h:Hd},γ),.jC a.toList.drop .z7 (.yd-.z7),yz (.nN γ) (Kv (b:=true) .r1) rfl,envOfC γ (aD st) s.heap.objs.size f,.aQ (.d4 γ (.acb "NoRow") nss_nil),.kq (∃i j,xs=[.aG,.e j]/\.wc γ),ag (.mu 2) (.fV<|.z0<|mv 2),TY (fm:=.FY) .c .c rfl (.dA γ),MY (jj (.Z γ)<|jj (.g9 wV) E7),dY (.cs fv) pNo (pAt<|.W 9),.vQ (getAttrBy .z (.h γ tk) c b),.A6 z k hd' σ'/\.h5 i/\m=.NR i/\γ,.dx sortedHeap B a a.toArray,(by subst z;rw[.n7 r f]),.o0 k fd ps (.mc .w7 np),γ (by cases t<;>exact .wr) (lW t),[.ws,.aI r,.aH,.t<|.i8 2],.a3 6 (.cK γ<|.lW .ba<|aa 2),.kH (.qA<|ma [u]) (.Vx md),.Cs k.heap (a::frs (.y5 j)),.M8 (if b then γ else .v false),⟨.d _,_,γ,rfl,q _ I.fresh⟩,.NP (·.setIfInBounds j u),Ni (by rw[F.len];simp[ke]),kvs.length<sizeLine/\H'=.lM γ,(∀J H' ρ',.dC->.A4->γ->R J H'),codeAny_compStart_list (.md γ),(∀b xs,H b=.A7->H' b=.A7),.FR (Fm.letGo hd<|.e0 a),(∀D σ H,u D σ H->.nS D),.uu (tE<|.Ns Kf<|.uo 4),.ua A (.WT γ it acc env) R s,c9 (.mx iG<|eS<|ag γ .e5),cx l.prog w .oH mg base γ k,(∃ob,.iQ γ=.wt/\ob.dict=none),.Cp (.fL its'.toArray d),aA (dF γ (eA "TooMuch") aX),[(tE<|.gO (.uo 0) .aa)],.WV .NotIn (.lp p)=false,h++b++.cw (.Jp++.l5 .JG),.N (dY (aa 2) .OG pNo),PySem.P.str_of_int γ (.Nt _),.OW T.go i _ M w.hp D R,(R.map λw=>.NA).all id,.zY γ none ap.line X.env=.qC,tOr (.Rz .aa) (.b1 .ac9),.z2 (λC dd H'=>.OX H'),gj (p (σ:=[])) (aG f),(∀p,.l7->.sa n->Q p s),(λv B H=>.Wh (E C B H)),.mX (.NM id<|v::us) s,pv (aG<|F3<|v7 rfl γ) rfl,.WY CX D A outer s H E,Heap.SameBut.update ..,.fx (2*n) γ (.NT<|2*n) .Lg,γ (E:=λv _ H=>.Wh<|E C H),.gY { s with heap:=l },.lZ (.cs gM) (tE .adv),.bi setAttr x name v,.TC (.cK .Dh<|aa 2),.F4 s.heap.objs.size,(λy f=>C y (.vR f)),.Kn (.t2<|.QB bh),.dJ (.Gz r\/.Gz d),.bt (.Vp+ss.length*sp.length),.aQ (.d4 γ (.aeq d) nss_nil),(∀p,.BP p->.bi Q p (.sI p γ)),.jX a (mv 0) (.Z γ) (aP _),.ru ((.Ef) _ _ _ _ z),.jw lk (.Qd bs'.map),aq mB (.qn<|.Fx 0),⟨_,_,.wO c γ,?_,_,_,rfl⟩,.cl (.cj d γ (hnp:=Fy.gd_np)),fIx γ (aq gm<|.qn .B1),(by rw[.j γ];obtain⟨R,T,kV,I,O,M,c,G,J,rfl,z,m⟩:=F.ex),(by show γ;unfold Builtin.SmallTypes.ownedTupleIsFree),(by rintro pins s σ H Q I ⟨ρ,σd,hd,rs,p⟩;rw[γ]),(by obtain⟨a,B,rfl⟩:=I;obtain⟨j,L,dx,q1,q2,q3⟩:=γ),(by obtain⟨y,l,u,B,i,⟨q,C,m,w,h⟩,p1⟩:=g;refine γ),(match k with | .bl b=>γ | .int b=>δ|_=>false),(by obtain⟨N⟩:=q;obtain⟨g,e,_⟩:=N.pre),(by rw[.j γ];obtain⟨N,J,⟨x0,y0,M⟩,O,L⟩:=B),(by obtain⟨t,rfl⟩:=e;obtain⟨k,rfl⟩:=l),(by rcases γ δ with ⟨j,u,rfl,rfl⟩|⟨y,u,rfl,rfl⟩),(by rw[.nJ];obtain⟨f,fd,ps,a,b,d⟩:=hd.ex),(by rintro x b σ ⟨a,rfl⟩;obtain⟨c,f,rfl⟩:=γ),(by rw[.j γ];obtain⟨N,J,⟨x,y,M⟩,O,L⟩:=B),(by rw[.eD γ δ];rcases q with ⟨k,e⟩|⟨k,c,e,z⟩),(by obtain⟨v9,H9,I9,r9,q9⟩:=zz;subst q9),(∀(pins:γ) (s:R1) (σ:St) (H:Hp) (Q:.di δ),ε),(by intro X hP hw hK hc i pins s σ H E I Y l hg;subst hP hw hK;obtain⟨⟨old,t⟩,hit⟩:=l),(λd=>match d with | .tup [_,x]=>γ|_=>δ),(match γ with|some j=>(match δ with|some c=>ε|none=>ζ)|none=>η),(by rcases γ δ with ⟨j,u,rfl,e⟩|⟨y,u,rfl,e⟩),(by intro pins s σ H xs f Q I r h;obtain⟨i,j,rfl,q⟩:=h;obtain⟨u,m,rfl,⟨t,rfl⟩,⟨l,rfl⟩⟩:=γ),(by rw[.nJ];obtain⟨ob,_,_,g,h,_⟩:=f),(by subst hr;obtain⟨m,hm,_⟩:=I4.loc),(by refine γ;rintro _ d ⟨⟨h',rfl,a,b⟩,c⟩)]
def Qix(c:Char):Nat:=if 'a'<=c&&c<='z' then c.toNat-97 else if 'A'<=c&&c<='Z' then c.toNat-39 else if c.isDigit then c.toNat+4 else 99999
def Qlk(x:Lean.Name)(a:Array Lean.Syntax):Lean.MacroM Lean.Syntax:=do
 let .str .anonymous w:=x|Lean.Macro.throwUnsupported
 let i:=match w.toList with|[p]=>Qix p|[p,q]=>52+62*Qix p+Qix q|[p,q,r]=>3276+62*(62*Qix p+Qix q)+Qix r|_=>9999999
 let some y:=((Qtb.getD (i/32) "").splitOn "\t")[i%32]?|Lean.Macro.throwUnsupported
 let l:=Qsp y.toList []
 if y==""||l==["nnum","a0","e"] then Lean.Macro.throwUnsupported
 let r<-Lean.MonadRef.mkInfoFromRefPos
 let k:=(Qhs.filter λx=>l.contains x).length
 if a.size<k then Lean.Macro.throwUnsupported
 let t:=Qde r (a.extract 0 k) l [("",#[])]
 let b:=a.extract k a.size
 if b.isEmpty then return t
 return if t.isOfKind ``Lean.Parser.Term.app then t.setArg 1 (Lean.mkNullNode (t[1].getArgs++b)) else .node r ``Lean.Parser.Term.app #[t,Lean.mkNullNode b]
def Qtc(x:Lean.Name)(a:Array Lean.Syntax):Lean.MacroM Lean.Syntax:=do
 let t<-Qlk x a
 if t.isOfKind ``Lean.Parser.Term.byTactic then let s:Lean.TSyntax `Lean.Parser.Tactic.tacticSeq:=⟨t[1]⟩;`(tactic|($s)) else Lean.Macro.throwUnsupported
local macro_rules
|`(tactic|rw[.$x:ident])=>Qtc x.getId #[]
|`(tactic|rw[.$x:ident $a*])=>Qtc x.getId (a.map (·.raw))
local macro_rules
|`(.$x:ident)=>Qlk x.getId #[]
|`(.$x:ident $a*)=>Qlk x.getId (a.map (·.raw))
local macro_rules
|`(command|def $i $b* : $t := $v)=>`(command|theorem $i $b* : $t := $v)
local macro_rules
|`(tactic|dsimp[$a,*]$[$l]?)=>`(tactic|simp only[$a,*]$[$l]?)
local macro_rules
|`(command|$_:docComment def $i:declId $t:optDeclSig $v:declVal)=>`(command|noncomputable def $i:declId $t:optDeclSig $v:declVal)
noncomputable section
def qq{α:Sort _}(e:α):∃x,x=e:=.K
namespace L2
open PySem PySem.Spec PyProof.Rows
def ctn{G:Prop}(h:∀P:Prop,(G->P)->P):G:=h G λg=>g
noncomputable abbrev Key:=Sum Int Str
noncomputable def Dd:Key->.cH R0
 |.inl k,v=>Value.isInt k v
 |.inr x,v=>Value.isStrOf x v
noncomputable def acT(w:P7):Key->Int
 |.inl k=>hashInt k
 |.inr x=>hashStr w x
theorem fN:∀{k:Key} {v:R0},Dd k v=true->(∃i t,k=.gc i/\v=.zp i t)\/(∃x t,k=Sum.inr x/\v=Value.str x t)
 |.inl i,v,h=>by
  obtain⟨t,e⟩:=Value.isInt_shape (k:=i) (v:=v) h;rw[.O (.mh i t e)]
 |.inr x,v,h=>by
  obtain⟨t,e⟩:=Value.isStrOf_shape (x:=x) (v:=v) h;rw[.P (.mh x t e)]
def Oj(i:Int)(t:Tok):Dd (.G i) (.aG t)=true:=.bJ Dd Value.isInt
def Om(x:Str)(t:Tok):Dd (.F x) (.h x t)=true:=.bJ Dd Value.isStrOf
def Yi(a b:Int):.D (.qH a=.gc b)=.wK:=by
 rw[.aV a b]
 ·subst e;simp
 ·have h:¬.qH a=.gc b:=λq=>e<|Sum.inl.inj q
  rw[z5 h];exact(.g6 e).symm
def Yj(a b:Str):.D .akZ=.m8:=by
 rw[.aV a b]
 ·subst e;simp
 ·have h:¬.akZ:=λq=>e<|Sum.inr.inj q
  rw[z5 h,z5 e]
def Yk(a:Int)(b:Str):.F3 (.qH a=Sum.inr b):=z5 λq=>nomatch q
def Yl(a:Str)(b:Int):.F3 ((Sum.inr a:Key)=.gc b):=z5 λq=>nomatch q
def gG(prog:P6)(w:P7):PySem.KeyKind prog w Key where
 is:=Dd
 hash:=acT w
 inj:=λv a b ha hb=>by
  rw[.SS fN ha]
  ·rw[.aps fN hb]
   ·injection e with e1 _;rw[e1]
   ·exact nomatch e
  ·rw[.aps fN hb]
   ·exact nomatch e
   ·injection e with e1 _;rw[e1]
 byValue:=λk v h=>by
  rcases fN h with ⟨i,t,rfl,rfl⟩|⟨x,t,rfl,rfl⟩<;>rfl
 pyHash:=λhv h=>by
  rw[.SS fN hv]
  ·exact wpAny_pyHash_int h
  ·exact wpAny_pyHash_str h
 eqBool:=λhu hv h=>by
  rw[.SS fN hu]
  ·rw[.api fN hv]
   ·rw[Yi]at h;exact wpAny_eqBool_int h
   ·rw[Yk]at h;exact SeqAt.EqAt.int_str i t y u _ _ _ _ h
  ·rw[.api fN hv]
   ·rw[Yl]at h;exact SeqAt.EqAt.str_int x t j u _ _ _ _ h
   ·rw[Yj]at h;exact wpAny_eqBool_str h
 «strs» := λk x t v h=>by
  rcases fN h with ⟨i,u,rfl,e⟩|⟨y,u,rfl,e⟩
  ·exact nomatch e
  ·injection e with e1 _
   subst e1
   cases v<;>rfl
def GP(prog:P6)(w:P7)(i:Int)(t:Tok):(gG prog w).is (.G i) (.aG t)=true:=Oj i t
def GQ(prog:P6)(w:P7)(x:Str)(t:Tok):(gG prog w).is (.F x) (.h x t)=true:=Om x t
inductive V where
 |non|bl (b:Bool)|int (i:Int)|str (x:Str)|byt (b:Array UInt8)|flt (b:UInt64)|ref (a:Addr)|ty (n:String)
 deriving DecidableEq
noncomputable def cS:V->.bF R0
 |.non,u=>u=Value.none
 |.bl b,u=>u=.HT b
 |.int i,u=>.YE
 |.str x,u=>.UY
 |.byt b,u=>.amh
 |.flt b,u=>.amq
 |.ref a,u=>.d8 a
 |.ty n,u=>u=.ls n
noncomputable abbrev bS:.R->.H->Prop:=Paired cS
variable{us:List R0}
def bS.length(r:.ka):xs.length=us.length:=Paired.length r
theorem bS.get:∀{xs:.R} {us:.H} {i:Nat} {x:V},.ka->.Bg->∃u,us[i]?=.bL/\.lF x
 |_,_,_,_,.nil,e=>.u1
 |_,_,0,_,.cons r _,e=>.akb r
 |_,_,i+1,x,.cons _ t,e=>by
  obtain⟨u,h1,a⟩:=.jE bS.get (x:=x) t .eF;rw[.C u .xY a]
theorem bS.set(r:.lF x):∀{xs:.R} {us:.H} (i:Nat),.ka->bS (xs.set i x) (us.set i u)
 |_,_,_,.nil=>.nil
 |_,_,0,.cons _ t=>.bn r t
 |_,_,i+1,.cons q t=>.bn q<|bS.set r i t
def bS.append:∀{xs ys:.R} {us b:.H},.ka->bS ys b->bS (xs++ys) (us++b):=by
 intro xs ys us b a s
 induction a with
 |nil=>exact s
 |cons r t c=>exact .bn r c
theorem bS.take:.aiO<|bS (xs.take n)<|us.take n
 |_,_,0,_=>.nil
 |_,_,_+1,.nil=>.nil
 |_,_,n+1,.cons r t=>.bn r<|bS.take n t
theorem bS.drop:.aiO<|bS (xs.drop n)<|us.drop n
 |_,_,0,r=>r
 |_,_,_+1,.nil=>.nil
 |_,_,n+1,.cons _ t=>bS.drop n t
noncomputable def sS:.as V->.xq->Prop
 |some v,some u=>.ea
 |none,none=>True
 |_,_=>False
/---/def KV:.n5 V->.n5 R0->Prop:=Paired λ(p:κ × V) (q:κ × R0)=>p.1=q.1/\cS p.2 q.2
noncomputable def kV:Key->V
 |.inl i=>.aG
 |.inr x=>.h x
inductive HO where
  |lst (xs:List V)
  |tup (xs:List V)
  |dK (kvs:List (Key × V))|dT (kvs:List (List Key × V))
  |set (S:Int->Bool) (n:Nat)
  |ins (C dx:Addr) (fs:List (Str × V))
  |own (x:Addr)
  |xd (fs:List (Str × V))
  |met (f x:Addr)
  |rng (lo hi:Int)
  |frz (o:Obj) (u:HO)
  |tbl (ps:Array R0)
  |ext (φ:Heap->Prop)
noncomputable abbrev Hp:=Addr->.as HO
/---/def upd(H:Hp)(a:Addr)(o:HO):Hp:=λb=>.Q b a .bb<|H b
variable{H:Hp}
def aR:.w9 a=.bb:=by unfold upd;rw[.cb]
variable{b:Addr}
def aK(h:b≠a):.w9 b=H b:=by unfold upd;rw[yM h]
def ne_of{a:Addr}{o u:HO}(h:H a=.bb)(h':H b=.bL)(d:o≠u):a≠b:=by
 intro e;subst e;rw[h]at h';exact d<|zBS h'
def cM(h:H a=.bb)(h':.fK):a≠b:=by
 intro e;subst e;rw[h]at h';cases h'
section
variable(P:P6)(w:P7)
noncomputable def gC(H:Hp)(h:Heap)(a:Addr):.bF HO
 |.lst xs=>.iV/\∃(its:.H) (n:Nat),bS xs its/\.nd (.HN its.toArray)
 |.tup xs=>.iV/\∃its:.H,bS xs its/\IsTup h a its.toArray
 |.dK kvs=>.S kvs.length/\.Sm kvs
 |.dT kvs=>.S kvs.length/\.xG/\∃xs:.LU,
   Paired (λ(p:List Key × V) (q:List Key × Addr × R0)=>.aek) kvs xs/\
   ∃o es ep,.fv a/\o.ExactDict/\o.data=.dict es ep/\es.toList=xs.map (entryOfKey .I9)/\.EP xs.map
 |.set S n=>h.SetOf (intKind P w) a S n
 |.ins C dx fs=>H dx=.E3/\.f3 fs.length/\dx≠a/\.nd .ane/\
   ∃mA,.zv/\.TB/\.aiq
 |.own _=>∃o,.fv a
 |.xd fs=>∃mA,h.Ns1 a mA/\.TB
 |.rng lo hi=>∃t u v,.nd<|.BX "range" .ajn
 |.frz o u=>.fv a/\gC H h a u
 |.tbl ps=>.nd<|.V5 ps
 |.met f x=>.dQ a=.Rr x
 |.ext φ=>φ h/\(∃o,.fv a)/\∀h1 h2:Heap,φ h1->(∀o,h1.get? a=.bb->h2.get? a=.bb)->φ h2
/---/def HOk(H:Hp)(h:Heap):Prop:=∀a o,H a=.bb->.mS o
end
section
variable{P:P6}{w:P7}{H H':Hp}{h h':Heap}{a:Addr}{o:HO}
def gC.lt(x:.mS o):.OZ a:=by
 cases o with
 |lst c=>obtain⟨_,_,_,_,e⟩:=x;exact zAR e
 |tup c=>obtain⟨_,_,_,p⟩:=x;exact p.lt
 |dK kvs=>obtain⟨_,_,_,_,o,_,_,e,_⟩:=x;exact zAR e
 |dT kvs=>obtain⟨_,_,_,_,o,_,_,e,_⟩:=x;exact zAR e
 |set S n=>obtain⟨o,_,_,_,e,_⟩:=x;exact zAR e
 |ins C j b=>obtain⟨_,_,_,e,_⟩:=x;exact zAR e
 |own y=>obtain⟨_,e⟩:=x;exact zAR e
 |xd b=>obtain⟨_,⟨_,_,_,e,_⟩,_⟩:=x;exact zAR e
 |rng i g=>obtain⟨_,_,_,e⟩:=x;exact zAR e
 |frz d u=>obtain⟨e,_⟩:=x;exact zAR e
 |tbl k=>exact .alW
 |met f y=>exact .alW
 |ext φ=>obtain⟨_,⟨_,e⟩,_⟩:=x;exact zAR e
def Paired.mapP{F G:α->.bF β}:∀{c:.bY} {d:.ai β},Paired F c d->(∀a b,F a b->G a b)->Paired G c d := by
 intro c d p f
 induction p with
 |nil=>exact .nil
 |cons r t e=>exact .bn (f _ _ r) e
def gC.stay(x:.mS o)(k:∀b u,(b=a\/H b=.E3)->.KP)
  (B:∀b,H b=.E3->H' b=.E3) (I:.aoo):.G0 H' a o:=by
 induction o with
 |lst xs=>obtain⟨z,l,n,r,e⟩:=x;exact⟨z,l,n,r,.lk⟩
 |tup xs=>obtain⟨z,l,r,g,e,c⟩:=x;exact⟨z,l,r,g,.lk,c⟩
 |dK kvs=>obtain⟨z,y,G,r,g,i,j,e,c⟩:=x;exact⟨z,y,G,r,g,i,j,.lk,c⟩
 |dT kvs =>
  obtain⟨z,y,xs,r,g,i,j,e,c⟩:=x;exact⟨z,y,xs,Paired.mapP r λp q z=>⟨z.1,I _ _ z.2.1,z.2.2⟩,g,i,j,.lk,c⟩
 |set S n=>obtain⟨g,i,j,t,e,c⟩:=x;exact⟨g,i,j,t,.lk,c⟩
 |ins C L D =>
  obtain⟨d,z,ne,e,mA,⟨m,i,j,F,c⟩,r⟩:=x;exact⟨B _ d,z,ne,.lk,mA,⟨m,i,j,k _ _ (.F d) F,c⟩,r⟩
 |own y=>obtain⟨g,e⟩:=x;rw[.o g .lk]
 |xd D=>obtain⟨mA,⟨m,i,j,e,c⟩,r⟩:=x;rw[.C mA ⟨m,i,j,.lk,c⟩ r]
 |rng K J=>obtain⟨t,u,v,e⟩:=x;rw[.al t u v .lk]
 |frz g u E=>obtain⟨e,q⟩:=x;rw[.o .lk (E q)]
 |tbl A =>
  have e:.nd (.V5 A):=x;show .HQ<|.V5 A;exact k a _ .b5 e
 |met f y =>
  have e:.dQ a=.Rr y:=x;show .hb a=.Rr y;exact k a _ .b5 e
 |ext φ=>obtain⟨p,⟨o,e⟩,s⟩:=x;rw[.C (s _ _ p λo q=>k _ _ .b5 q) (.fz .lk) s]
def HOk.lt(x:.fq h)(e:H a=.bb):.OZ a:=(x a o e).lt
def HOk.fresh(x:.fq h)(e:.YP):.b9 a:=by
 cases q:H a with
 |none=>rfl
 |some u=>exact .uN (YP (x.lt q) e)
def HOk.kept(x:.fq h)(k:.Ps):.fq h':=λa o e =>
 (x a o e).stay (λb u _ q=>k b u q) (λ_ q=>q)<|.nQ q
def HOk.laid(x:.fq h)(k:.Ps)(hp:.YP)(new:.G0 .w9 a o):HOk P w .w9 h':=.uI (by
 have d:=x.fresh hp
 by_cases f:b=a
 ·subst f;rw[.bd aR];exact new
 ·rw[aK f]at e
  exact(x b u e).stay (λc v _ q=>k c v q) (λc q=>.tP<|cM q d) λc g q=>.tP (cM q d))
end
/---/def Rd(H:Hp)(a:Addr)(u:HO):Prop:=.fl u\/∃o,.fl .PP
def Rd.of(h:.fl u):.l8 u:=.xb
variable{h:Heap}
def Rd.ok(r:.l8 u)(x:.fq h):.mS u:=by
 rcases r with r|⟨o,r⟩
 ·exact x a u r
 ·obtain⟨_,q⟩:=x a _ r
  exact q
noncomputable def Mut:.as HO->Prop
 |some (.lst _)=>True
 |some (.dK _)=>True
 |some (.dT _)=>True
 |some (.set _ _)=>True
 |some (.ins _ _ _)=>True
 |some (.ext _)=>True
 |_=>False
section
variable{P:P6}{w:P7}{H:Hp}{h h':Heap}{x e:Addr}{o':HO}
def HOk.write(ok:.fq h)(f:Mut<|H x)(he:.Xx)(k:∀b u,b≠e->.KP)(l:.YU)
  (new:.G0 (.dP x o') x o'):HOk P w (.dP x o') h':=.vS (by
 have a:∀c y,H c=.a (.own y)->c≠x:=λc y r z=>.aoa
 have d:∀c g,H c=.dV g->c≠x:=λc g r z=>.aoa
 by_cases j:b=x
 ·subst j;rw[.db aR];exact new
 ·rw[aK j]at q
  by_cases hbe:b=e
  ·have m:H b=.a .CO:=by
    rcases he with z|z
    ·exact .B (hbe.trans z) j
    ·rw[.ap hbe z]
   rw[q]at m;cases m;obtain⟨v,n⟩:=l;rw[.o v (.p hbe n)]
  ·refine(ok b u q).stay (λc v i r=>k c v ?_ r) (λc r=>by rw[aK<|a c b r];exact r) λc g r=>by rw[aK<|d c g r];exact r
   rcases i with rfl|i
   ·exact hbe
   ·rintro rfl
    rcases he with z|z
    ·exact a c b i z
    ·rw[.fh i];exact j rfl)
end
structure Un(fs ex:List Addr)(H H':Hp)(h h':Heap):Prop where
 keep:∀b o,h.get? b=some o->H b=none->b∉fs->b∉ex->h'.get? b=some o
 slot:∀b o,h.get? b=some o->H b=none->b∈fs->b∉ex->∃sl,h'.get? b=some { o with slots:=sl }
 free:∀b o,h.get? b=some o->H b=none->b∉ex->H' b=none
 there:∀b o,h.get? b=some o->b∉ex->∃o',h'.get? b=some o'
 tups:∀b xs,H b=some (.tup xs)->H' b=some (.tup xs)
 frzs:∀b o u,H b=some (.frz o u)->H' b=some (.frz o u)
 tbls:∀b ps,H b=some (.tbl ps)->∃more,H' b=some (.tbl (ps++more))
section
variable{fs fs' ex ex':List Addr}{H H1 H2:Hp}{h h1 h2 h':Heap}{a x e:Addr}{o:HO}
def Un.any(u:.FW H1 h1)(q:.dQ b=.wt)(n:.fK)(c:b∉ex):∃f,h1.get? b=.a { ob with slots:=f }:=by
 by_cases d:b∈fs
 ·exact u.slot b ob q n d c
 ·rw[.o ob.slots (u.keep b ob q n d c)]
def Un.kept(k:.Ps):.FW H h' :=
 ⟨λb c q _ _ _=>k b c q,λb c q _ _ _=>⟨c.slots,k b c q⟩,λ_ _ _ n _=>n,λb c q _=>⟨c,k b c q⟩,.nQ q,λ_ _ _ q=>q,λ_ d q=>.NQ q⟩
def Un.refl:.FW H h:=Un.kept<|.nQ q
theorem Un.laid(k:.Ps)(hp:.YP)(c:.b9 a):.FW .w9 h' where
 keep:=λb u q _ _ _=>k b u q
 slot:=λb u q _ _ _=>⟨u.slots,k b u q⟩
 free:=λb u q n _=>.ff (aK<|zBM<|.AN q hp) n
 there:=λb u q _=>⟨u,k b u q⟩
 tups:=λb d q=>.tP<|cM q c
 frzs:=λb u d q=>.tP<|cM q c
 tbls:=λb f q=>⟨#[],by rw[.vX c,q];simp⟩
def Un.write(c:Mut<|H x)(he:.Xx)(k:∀b u,b≠e->.KP)(f:.YU):.FW (.dP x o) h':=by
 have g:∀b,.fK->b≠x:=λb n z=>by subst z;rw[.gl n]
 have i:∀b,.fK->b≠e:=λb n z=>by
  subst z;rcases he with r|r
  ·exact g b n r
  ·rw[n]at r;cases r
 have d:.Ey (¬Mut .bL->b≠x):=λb u q l z=>by subst z;rw[q]at c;exact l c
 refine⟨λb u q n _ _=>k b u (i b n) q,λb u q n _ _=>⟨u.slots,k b u (i b n) q⟩,λb u q n _=>.ff (aK<|g b n) n,λb u q _ => ?_,
  λb j q=>.tP .YW,λb u j q=>.tP .YW,λb m q=>⟨#[],by rw[aK .YW,q];simp⟩⟩
 by_cases hbe:b=e
 ·subst hbe;exact f
 ·rw[.o u (k b u hbe q)]
end
/---/def trk(h:Heap)(H:Hp):.am:=.pW (.fS h.objs.size) λa=>.k5<|H a
/---/def Et(h:Heap)(H:Hp):Heap:=.Cs h<|trk h H
def On(h:Heap)(H:Hp):.lw (Et h H)=h.objs.size:=PySem.W.hideAll_size _ _
def Qv(e:.fv b)(n:.fK):.sn (Et h H) :=
 zYq _ e λa=>by
  have q:.oT (H b):=(zXc.mp a).2;rw[n]at q;simp at q
def U3(e:.sn<|Et h H):.fv b/\.fK:=by
 have a:.fv b:=zXh (trk h H) e;rw[.fQ a];cases q:H b with
 |none=>rfl
 |some x =>
  have c:b∈trk h H:=zXc.mpr ⟨zYj.mpr<|zAR a,.k q⟩;have z:.eY (Et h H) b=none:=.Wb (trk h H) c;rw[.bd z]
/---/def U4(g h:Heap)(L:Addr):.bc:=.acO<|.oT<|g.get? a
/---/def rest(g h:Heap)(L d:Addr):.bc:=.pW (U4 g h L) λp=>.D<|p.1≠d
structure Mod(K:zCM)(mg:Str->Option R0)(base:Heap):Prop where
 kin:K.In base
 glob:base.Ns mainGlobals mg
 blt:∃mb,base.Ns builtinsNs mb/\∀x:Str,x≠"__name__"->mb x=bootBuiltins x
 nolimit:base.NoLimit
structure Cx where
 prog:P6
 w:P7
 K:zCM
 mg:Str->Option R0
 base:Heap
 A:R3
 N:List Str
 s₀:R1
 H₀:Hp
 env:Env
 outer:List Env
 stack:List Env
 ex:List Addr
 fn:Str->Bool
 calm:Bool
 pn:List (Addr × Obj)
 xe:R0->R1->Prop
/---/def frs(l:.f9):.am:=.amB
noncomputable abbrev Cx.fs(X:Cx):.am:=frs X.outer
/---/def Vis(sc:Scope)(x:Str):Prop:=.D9=.k3\/.D9=.pr\/.D9=.r9
/---/def Loc(sc:Scope)(x:Str):Prop:=.D9=.k3\/.D9=.pr
/---/def acU(env:Env)(h:Heap)(m:.gD)(x:Str)(u:R0):Prop :=
 (env.kindOf x=.k3/\m x=.bL)\/((env.kindOf x=.pr\/env.kindOf x=.r9)/\∃c,.I1 x/\h.IsCell c .bL)
structure Cx.Ok(X:Cx):Prop where
 mod:Mod X.K X.mg X.base
 kind:X.env.scope.kind=.function
 glob:X.env.globals=mainGlobals
 blt:X.env.builtins=builtinsNs
 above:X.s₀.heap.objs.size<=X.env.locals
 inj:∀x y c,X.env.cells.lookup x=some c->X.env.cells.lookup y=some c->x=y
 has:∀x,(X.env.kindOf x=some .cell\/X.env.kindOf x=some .free)->∃c,X.env.cells.lookup x=some c
 cab:∀x c,X.fn x=true->X.env.cells.lookup x=some c->X.s₀.heap.objs.size<=c
 hd:X.calm=true->X.A.handled=none
 frames:X.A.frames=some X.stack
 stk:X.stack=X.outer\/(X.stack=X.env::X.outer/\X.env.frame=some X.env.locals)
 exf:∀b∈X.ex,b≠X.env.locals/\∀x c,X.env.cells.lookup x=some c->c≠b
 bs:∀b o,X.base.get? b=some o->X.s₀.heap.get? b=some o/\X.H₀ b=none
 bsz:X.base.objs.size<=X.s₀.heap.objs.size
 noex:∀b o,X.base.get? b=some o->b∉X.ex
 exfs:∀b∈X.ex,b∉X.fs
 funs:X.s₀.heap.FunFrames X.base X.outer
 frf:∀b∈X.fs,X.H₀ b=none
structure Inv(X:Cx)(pins:List (Addr × Obj))(σ:List (Option V))(H:Hp)(s:R1):Prop where
 ok:X.Ok
 os:s.os=X.s₀.os
 bare:AllBare s.gens
 base:Un X.fs X.ex X.H₀ H X.s₀.heap s.heap
 loc:∃m,s.heap.Ns X.env.locals m/\∀(i:Nat) (x:Str) (v:V),X.N[i]?=some x->σ[i]?=some (some v)->Vis X.env.scope x->∃u,cS v u/\acU X.env s.heap m x u
 cell:∀x c,X.env.cells.lookup x=some c->∃v,s.heap.IsCell c v
 free:H X.env.locals=none
 freeC:∀x c,X.env.cells.lookup x=some c->H c=none
 pin:∀p∈X.pn++pins,s.heap.get? p.1=some p.2/\H p.1=none/\p.1≠X.env.locals/\p.1∉X.fs/\∀v,p.2.data ≠ .cell v
 hok:HOk X.prog X.w H s.heap
 len:σ.length=X.N.length
variable{x:Str}{u:R0}{E:R0->R1->Prop}{A:R3}
section
variable{X:Cx}{pins:List (Addr × Obj)}{σ:List (Option V)}{H H':Hp}{s:R1}{h':Heap}
def Cx.Ok.nofr(ok:X.Ok)(e:.aam):b∉X.fs:=λa=>by
 rw[.hu ((ok.funs.mem a).1) e]
def Inv.bs(I:.n):.cJ (.aam->.gw b/\.fK):=λb o e =>
 ⟨I.base.keep b o (.FX).1 (.FX).2 (I.ok.nofr e) .Zb,.L9 (.FX).1 (.FX).2 .Zb⟩
def Inv.bk(I:.n):.cJ (.aam->.gw b):=.gB<|(.bs I.bs).1
def Inv.mod(I:.n):.h2 Mod X.base:=I.ok.mod
def Inv.kIn(I:.n):.dx X.K.In:=I.ok.mod.kin.keeps I.bk
def Inv.lt(I:.n):.eH X.env.locals:=let ⟨_,a,_⟩:=I.loc;a.lt
def Inv.sz(I:.n):.tE s.heap.objs.size:=zBL I.ok.above<|zZj I.lt
def Inv.nofs(I:.n){a:Addr}(h:.Ed a):a∉X.fs:=λc=>by
 obtain⟨_,o,b,_⟩:=I.ok.funs.mem c;exact .uN<|.AN b<|zBL I.sz h
def Inv.cne(I:.n):∀x c,.qF->.mF c:=λx c e z=>by
 obtain⟨v,o,b,d⟩:=.Gn;obtain⟨m,⟨h,f,g,a,hd',_⟩,_⟩:=I.loc;rw[z,a]at b;cases b;rw[.pL hd']
def Inv.funs(I:.n):.Uo X.outer:=by
 have f:∀(l:.f9),(∀b∈frs l,b∈X.fs)->X.s₀.heap.FunFrames X.base l->.Uo l:=by
  intro l
  induction l with
  |nil=>intro _ _;trivial
  |cons env r m =>
   intro g h;obtain⟨n,⟨L,o,a,i,k,p⟩,j⟩:=h;have c:L∈X.fs:=g L<|.aj5 zCK;obtain⟨q,e⟩:=I.base.slot L o k (I.ok.frf L c) c λz=>I.ok.exfs L z c;rw[.C n ⟨L,_,a,i,e,p⟩ (m (λb d=>g b<|.aj5<|.dF d) j)]
 exact f X.outer (λ_ d=>d) I.ok.funs
def Inv.stack(I:.n):.Uo X.stack:=by
 rcases I.ok.stk with e|⟨e,b⟩
 ·rw[.ap e I.funs]
 ·rw[e]
  obtain⟨m,a,_⟩:=I.loc;rw[.eB (.cons (.jV I.ok.kind) b a ?_ I.funs) (Heap.get?_none_of_le<|zBL I.ok.bsz I.ok.above)]
def Inv.stkSub(I:.n):∀b∈.oL,b∈X.env.locals::X.fs:=λb a=>by
 rcases I.ok.stk with e|⟨e,c⟩
 ·rw[.aA e (.dF a)]
 ·rw[e]at a
  unfold frs at a;rw[zXa,c]at a;exact a
def Inv.stkFree(I:.n):∀b∈.oL,.fK:=λb a=>by
 rcases .ue a with e|a
 ·rw[.ap e I.free]
 ·obtain⟨_,o,c,_⟩:=I.ok.funs.mem a
  exact .L9 c (I.ok.frf b a) λz=>I.ok.exfs b z a
def Inv.step{ch:.am}(I:.n)
  (g:∀b∈ch,.RN)
  (keep:.My<|b∉X.fs->.P2 (.fK->.wv b))
  (slot:.My<|b∈X.fs->.P2 (.fK->∃E,.hb b=.a { o with slots:=E })) (free:.cJ<|.P2<|.fK->H' b=none)
  (there:.cJ<|.P2<|∃B,.hb b=.a B)
  (tups:.aoo) (frzs:∀b o u,H b=.a .PP->H' b=.a .PP) (tbls:∀b ps,H b=.a (.tbl ps)->∃D,H' b=.a (.tbl<|ps++D))
  (ns:∀m,.Zt s.heap.Ns->.Zt h'.Ns) (hok:.Pf h') (S:AllBare g') :
  .adT:=by
 have C:.cJ (.CL->.mF b):=.gB .tC;have j:.cJ (.CL->b∉X.ex->b∉ch):=λb o e a w=>by
  rcases (g b w).1 with z|z
  ·exact a z
  ·exact .uN (.AN e z)
 have f:∀x c,.qF->∀v,.aib:=λx c e v N=>by
  obtain⟨o,y,G⟩:=N;have h:c∉ch:=.ajr
  by_cases K:c∈X.fs
  ·obtain⟨E,q⟩:=.aik slot
   exact .bP q G
  ·rw[.ci (.aik keep) G]
 refine⟨I.ok,I.os,S,⟨λb o e n w a=>?_,λb o e n w a=>?_,λb o e n a=>?_,λb o e a=>?_,λb xs e=>tups b xs<|.Ny xs e,λb o xs e=>frzs b o xs<|.Mg xs e,λb ps e=>?_⟩,?_,.sC ?_,?_,.sC ?_,λp L=>?_,hok,I.len⟩
 ·exact keep b o (.bs C) w .PZ (.Ea w a) (.Lx a)
 ·obtain⟨E,t⟩:=.D6 w a
  obtain⟨F,A⟩:=slot b _ (.bs C) w .PZ t<|.Lx a;rw[.o F A]
 ·obtain⟨B,t⟩:=.ub a
  exact free b B .PZ t (.Lx a)
 ·obtain⟨B,t⟩:=.ub a
  exact there b B .PZ t
 ·obtain⟨P,t⟩:=.NL ps e
  obtain⟨M,A⟩:=tbls b _ t;exact⟨P++M,.L A Array.append_assoc⟩
 ·obtain⟨m,O,Q⟩:=I.loc
  refine⟨m,ns m O,λi x v t A R=>?_⟩;obtain⟨u,r,l⟩:=Q i x v t A R;rw[.eD u r];rcases l with l|⟨k,c,e,z⟩
  ·rw[.O l]
  ·rw[.P ⟨k,c,e,.io f _ z⟩]
 ·obtain⟨v,z⟩:=.Gn
  rw[.o v (.io f v z)]
 ·obtain⟨m,⟨o,_,_,y,_⟩,_⟩:=I.loc
  exact free _ o (.Xr g) y I.free
 ·obtain⟨v,o,y,G⟩:=.Gn
  exact free c o .ajr y (.io I.freeC)
 ·obtain⟨e,n,ne,J,d⟩:=.hy L
  have h:p.1∉ch:=λz=>(g p.1 z).2.2.2 p L rfl;exact⟨keep p.1 p.2 ne J h e n,free p.1 p.2 h e n,ne,J,d⟩
def Inv.un(I:.n)(u:Un X.fs [] H H' s.heap h')(hok:.Pf h'):.oR H':=by
 obtain⟨m,⟨o,k,l,g,r⟩,_⟩:=.Hg;obtain⟨p,i⟩:=u.any g I.free .f;exact .IV (ch:=[]) (λ_ z=>nomatch z) (.akA u.keep) (.akA u.slot) (λb o _ e n=>.bs u.free n .f) (λb o _ e=>.bs u.there .f) u.tups u.frzs u.tbls (λt j=>by
  obtain⟨q,f,c,a,h⟩:=j;rw[.ik g];exact⟨_,f,c,i,h⟩) hok I.bare
def Inv.call{ch:.am}(I:.n)(u:Un .oL ch H H' s.heap h')(hok:.Pf h')(t:AllBare g')
  (f:∀b∈ch,.RN) :
  .adT:=by
 obtain⟨m,⟨o,v,w,j,r⟩,_⟩:=.Hg;obtain⟨y,h⟩:=u.any j I.free<|.Xr f;exact I.step (ch:=ch) f (λb o h q a e n=>.bs u.keep n (λz=>(.ue z).elim h q) a) (λb o _ _ a e n=>u.any e n a) (λb o a e n=>.bs u.free n a) (λb o a e=>.bs u.there a) u.tups u.frzs u.tbls (λB l=>by
  obtain⟨A,i,g,d,k⟩:=l;rw[.pL j];exact⟨_,i,g,h,k⟩) hok t
def Inv.turned(I:.n)(k:.cJ<|b≠it->.yh)(j:.b9 it)(f:.mF it)
  (h1:it∈X.ex\/.tE it) (t:∀x c,.qF->c≠it) (y:∀p∈.zn,p.1≠it):.oR H:=by
 have d:.Ey (b≠it):=λb u e z=>.Fo j
 refine .IV (ch:=[it]) (λb w=>?_) (.M6 .aao) (.M6<|.rK .aao) (λ_ _ _ _ n=>n)
  (λb o a e=>.fz .aao) .zK (λ_ _ _ e=>e) (λb A e=>.NQ e) (λm l=>?_) .wF I.bare
 ·have e:b=it:=by simpa using w
  subst e;rw[.al h1 f t y]
 ·obtain⟨o,g,h,i,r⟩:=l
  exact⟨o,g,h,k _ o (zZs f) i,r⟩
 ·refine .ajK
  rcases a with z|z
  ·rw[z];exact d b u e
  ·exact d c _ z
def Inv.tok(I:.n)(t:Nat):.gY { s with toks:=t }:=I.un (h':=s.heap) (t':=t) Un.refl I.hok
def Inv.kept(I:.n)(k:∀b u,.Jh .td):.oR H:=I.un (Un.kept k)<|I.hok.kept k
def Inv.laid{a:Addr}(I:.n)(k:∀b u,.Jh .td)(hp:.Ed a)(new:.ha gC .w9 h' a o):
  .oR .w9:=I.un (Un.laid k hp<|.Gb hp)<|I.hok.laid k hp new
def Inv.write{x e:Addr}(I:.n)(c:Mut<|H x)(he:.Xx)(k:∀b u,b≠e->.Jh .td)(a:.YU)
  (new:.ha gC (.dP x o) h' x o):.oR (.dP x o):=I.un (Un.write c he k a)<|I.hok.write c he k a new
def Inv.pins_of(I:.n)(h:∀p∈pins',.iQ .fF=some p.2/\.b9 .fF/\.mF .fF/\p.1∉X.fs/\.YD (p.2.data)):Inv X pins' σ H s :=
 ⟨I.ok,I.os,I.bare,I.base,I.loc,I.cell,I.free,I.freeC,λp a=>(.f5 a).elim (λz=>.hy<|zVk _ z)<|h p,I.hok,I.len⟩
def Ab{N:.dU}(e:N.Nodup){i j:Nat}(a:.iS N)(b:N[j]?=.aF):i=j:=by
 obtain⟨f,c⟩:=z0.mp a;obtain⟨g,d⟩:=z0.mp b;exact(.Yr e).mp<|c.trans d.symm
def De{M:Model}(I:.n)(hN:X.N.Nodup)(hi:.gd)(w:.lc)(r:.ea)
  (h:∀s',.oj (.oC v) H s'->(∃a,.xM a s'.heap/\(a=X.env.locals\/.Xp x=.jK))->Q () s') (hf:autoParam (.k8) Q0Q._auto_1):.akB:=by
 obtain⟨m,hn,hl⟩:=.Hg;have R:.abr:=.aE I.ok.kind
 have F:.GU i:=by rw[I.len];exact .aw hi
 have K:=I.cne;have l:∀{a:Addr} {h':Heap},(∃o,.gw a/\.b9 a)->.xM a h'->.ha HOk H h':=λ{a h'} ha f b ob e=>by
  obtain⟨_,_,B⟩:=ha;refine(.rM b ob e).stay (λc S t q=>.i (f.2 c ?_) q) (λ_ q=>q)<|.nQ q;rintro rfl;rcases t with rfl|t
  ·rw[.bd B]
  ·rw[B]at t;cases t
 rcases w with D|D
 ·refine wpAny_storeName_local D hn (λh' Y f=>?_) R
  obtain⟨oL,_,_,Z,_⟩:=id hn;refine h _ ⟨I.ok,I.os,I.bare,.abm,.bP Y λj y v' g C e3=>?_,λy c e=>?_,I.free,I.freeC,.Pu,l ⟨oL,Z,I.free⟩ f,.Wc⟩ ⟨_,f,.b5⟩
  ·exact .Y3 (.Ea G w)
  ·obtain⟨sl,g⟩:=.D6 G w
   rw[.o sl (.Y3 g)]
  ·obtain⟨o',g⟩:=.ub w
   rw[.o o' (.Y3 g)]
  ·by_cases J:j=i
   ·subst J
    rw[.pM hi];rw[X0 F]at C;cases C;rw[.C u r (.w0 D .f)]
   ·rw[.pu J]at C
    obtain⟨U,r',q⟩:=hl j y v' g C e3;rw[.apm U r']
    ·refine .G<|.c4 k
     have:y≠x:=λe=>J (Ab hN g<|e▸hi);simp[this,e]
    ·rw[.P ⟨k,c,e,.am9⟩]
  ·obtain⟨S,z⟩:=I.cell y c e
   rw[.o S .am9]
  ·obtain⟨e,n,ne,W,d⟩:=.hy hp
   exact .ajI ne
 ·have L:X.fn x=true:=by
   rcases hf with z|z
   ·exact z
   ·rw[z]at D;cases D
  obtain⟨c,t⟩:=I.ok.has x<|.G D;obtain⟨S,z⟩:=I.cell x c t;refine .AY wpAny_storeName_cell D t z λh' N f=>?_;obtain⟨oc,P,O⟩:=id z;refine h { s with heap:=h' } ⟨I.ok,I.os,I.bare,.abm,⟨m,hn.sameBut f<|zZs<|K x c t,λj y v' g C e3=>?_⟩,λy T e=>?_,I.free,I.freeC,.Pu,l ⟨oc,P,.HU c t⟩ f,.Wc⟩ ⟨c,f,.F t⟩
  ·exact .i .Rf (.Ea G w)
  ·obtain⟨sl,g⟩:=.D6 G w
   rw[.o sl (.i .Rf g)]
  ·obtain⟨o',g⟩:=.ub w
   rw[.o o' (.i .Rf g)]
  ·by_cases J:j=i
   ·subst J
    rw[.pM hi];rw[X0 F]at C;cases C;rw[.C u r (.F ⟨.G D,c,t,N⟩)]
   ·rw[.pu J]at C
    obtain⟨U,r',q⟩:=hl j y v' g C e3;rw[.eD U r'];rcases q with q|⟨k,T,e,z'⟩
    ·rw[.O q]
    ·refine .F ⟨k,T,e,z'.sameBut f ?_⟩
     rintro rfl;exact J (Ab hN g<|.aC I.ok.inj e t▸hi)
  ·by_cases hcc:T=c
   ·subst hcc;exact .cn N
   ·obtain⟨w2,z2⟩:=I.cell y T e
    rw[.o w2 (z2.sameBut f hcc)]
  ·obtain⟨e,n,ne,W,d⟩:=.hy hp
   refine .ajI ?_;intro q;rw[q,P]at e;have q':oc=p.2:=zBS e;exact d S (.ay q' O)
def uQ(I:.n)(e:X.N.Nodup)(hi:.gd)(d:.lc)(r:.ea)
  (h:∀a,.oj (.oC v) H a->Q () a) (b:autoParam (.k8) Q0Q._auto_1):.akB :=
 De I e hi d r (λa c _=>h a c) b
def Inv.call'(I:.n)(f:a.os=s.os)(u:Un .oL ch H H' s.heap a.heap)(hok:.Pf a.heap)(h:AllBare a.gens)
  (d:∀b∈ch,.RN):.sR a:=by
 obtain⟨h',g',d',t',g⟩:=a;have e:g=s.os:=f;rw[.d3 (I.call (g':=g') (t':=t') (d':=d') u hok h d)]
end
noncomputable abbrev XK:=R0->.di .cx
noncomputable abbrev St:=.ai<|.as V
noncomputable abbrev VK:=.di V
noncomputable abbrev TE:=.qB St
noncomputable abbrev TT:=St->.rm Bool
noncomputable abbrev TA:=St->Hp->.bF (.R->.xe)
structure wE where
 nx:St->Hp->Prop
 rt:VK
 bk:St->Hp->Prop:=λ_ _=>False
 ct:St->Hp->Prop:=λ_ _=>False
noncomputable abbrev TS:=wE->.di St
/---/def EP(X:Cx)(pins:.bc)(σ:St)(Q:VK)(u:R0)(s':R1):Prop:=∃v H',.sR s'/\.ea/\Q v H'
/---/def TP(X:Cx)(pins:.bc)(σ:St)(Q:.di Bool)(b:Bool)(s':R1):Prop:=∃H',.sR s'/\Q b H'
/---/def AP(X:Cx)(pins:.bc)(σ:St)(Q:.R->.xe)(us:.H)(s':R1):Prop:=∃vs H',.sR s'/\.g1 vs/\Q vs H'
/---/def SP(X:Cx)(pins:.bc)(D:wE)(f:Flow)(s':R1):Prop :=
 match f with
 |.next=>.Jn D.nx
 |.brk=>.Jn D.bk
 |.cont=>.Jn D.ct
 |.ret u=>∃v σ' H',.oj σ' H' s'/\.ea/\D.rt v H'
/---/def PE(X:Cx)(e:Expr)(t:TE):Prop :=
 ∀(pins:.bc) (s:R1) (σ:St) (H:Hp) (Q:VK),.n->.BB->.v4 e .hm X.xe s
/---/def PT(X:Cx)(e:Expr)(t:TT):Prop :=
 .agb<|.BB->.ts (.u4 e<|.cP e) (.mt TP Q) X.xe s
/---/def PW(X:Cx)(e:Expr)(t:TT):Prop :=
 ∀(whole:Sem R0) (pins:.bc) (s:R1) (σ:St) (H:Hp) (Q:.di Bool),.n->.BB->.fW (.u4 e whole) (.mt TP Q) X.xe s
def PW.pt(h:PW X e t):PT X e t:=h _
/---/def PA(X:Cx)(es:.dy)(t:TA):Prop :=
 ∀(pos:Pos) (pins:.bc) (s:R1) (σ:St) (H:Hp) (Q:.R->.xe),.n->.BB->.ts (spliced<|.tB<|.bS es) (.mt AP Q) X.xe s
/---/def PS(X:Cx)(st:Stmt)(t:TS):Prop :=
 .acG exec
/---/def PSs(X:Cx)(st:.el)(t:TS):Prop :=
 .acG execs
variable{s:R1}
def thn{Q b:.eK α}{M:Model}(h:.mG t)(c:∀a s,Q a s->b a s):.BE t b E s:=zZd h c .zN
variable{pos:Pos}{Q:R0->R1->Prop}{σ:St}{pins:List (Addr × Obj)}
section
variable{X:Cx}
/---/def Ym(i:Nat):TE:=.fb<|∃v,σ[i]?=.a .aM/\Q v H
/---/def tC(v:V):TE:=λ_ H Q=>Q v H
def Ac(n:.gd)(k:.Ob Vis)(hd:autoParam (.a5) Q1Q._auto_1)(b:autoParam (.tG x) Q1Q._auto_1):.af .km (Ym i):=by
 intro pins s σ H Q I h;obtain⟨v,e,h⟩:=h;obtain⟨m,g,f⟩:=I.loc;obtain⟨u,r,l⟩:=f i x v n e k;have fin:.hm u s:=.Ye;rcases l with ⟨a,j⟩|⟨a,c,d,hcell⟩
 ·exact wpAny_Name (.AY wpAny_loadName_local a g j fin) hd
 ·rcases a with a|a
  ·exact wpAny_Name (.AY wpAny_loadName_cell a d hcell fin) hd
  ·exact wpAny_Name (.AY wpAny_loadName_free a d hcell fin b) hd
def Qw{i j pos}:.af (.q4 .aG pos) (.hR tC i):=.yO<|wpAny_Constant_int ⟨.aG,H,I.tok _,.K,h⟩
def abe{b j pos}:.af (.q4 (.g0 b) pos) (tC<|.bl b):=.yO<|Constant_bool<|.ch (.bl b) H I h
def Yn{j pos}:.af (.q4 .none pos) (tC .non):=.yO<|Constant_none<|.ch .non H I h
def Ad{x j pos}:.af (.G3 x pos) (.og tC x):=.yO<|Calls.Constant_str ⟨.h x,H,I.tok _,.K,h⟩
/---/def Gl(X:Cx)(x:Str):Prop:=.OE x=.a .globalImplicit
def pG(I:.n)(a:.bo)(b:X.mg x=.bL)(h:Q u s)
  (hd:autoParam (.a5) Q1Q._auto_1):.v4 .km Q E s :=
 .AY zWb a (Calls.loadGlobal_global .aeK b h) hd
def pH(I:.n)(f:.bo)(c:.bX x)(e:.qV u)(h:Q u s)
  (b:autoParam (.oF) Q1Q._auto_1) (hd:autoParam (.a5) Q1Q._auto_1):.v4 .km Q E s:=by
 obtain⟨g,a,d⟩:=I.mod.blt;exact .AY zWb f (Calls.loadGlobal_builtin .aeK c (by rw[I.ok.blt];exact a.keeps I.bk) (.i (d x b) e) h) hd
def fA(a:.bo)(b:X.mg x=.bL)(r:.ea)(hd:autoParam (.a5) Q1Q._auto_1):.af .km (tC v) :=
 .yO<|pG I a b .Ye hd
def Mj(c:.bo)(d:.bX x)(a:.qV u)(r:.ea)(b:autoParam (.oF) Q1Q._auto_1)(hd:autoParam (.a5) Q1Q._auto_1):.af .km (tC v) :=
 .yO<|pH I c d a .Ye b hd
variable{a b:Expr}{ta tb:TE}{pos:Pos}
/---/def tB(t:TE):TT:=.rI λx H1=>.HF<|Q c H1
def Yo(h:.dG t)(he:autoParam (∀c,.u4 e c=(do let v <-c;.AO e.pos;.nj [v] (truthy v))) Q2Q._auto_1):PT X e (tB t):=by
 intro pins s σ H Q I i;refine isTrue_plain (thn (.kS _ I i) λv l j=>?_)<|he _;obtain⟨x,f,g,k,q1⟩:=j;obtain⟨d,rfl,q⟩:=q1;cases k;exact zXq ⟨f,g,q⟩
variable{tA tB':TT}{rest:List Expr}
/---/def lQ(t u:TT):TT:=.P5<|.dE c (.kJ u Q)<|Q false H1
/---/def tOr(t u:TT):TT:=.P5<|.dE c (Q true H1)<|.kJ u Q
/---/def cW(t:TT):TT:=.P5<|Q (! c) H1
def U5(d:.GI):PW X (.F8 .And) tA:=by
 rw[.MW (isTrue_and .ajh)];cases c with
 |true=>exact isTrue_and_nil e
 |false=>exact e
def Yp(d:.GI):PW X (.F8 .Or) tA:=by
 rw[.MW (isTrue_or .ajh)];cases c with
 |false=>exact isTrue_or_nil e
 |true=>exact e
def Yq(g:.GI)(i:PW X (.s2 .And) tB'):PW X (.sS .And) (lQ tA tB'):=by
 rw[.MW (isTrue_and (.dw g λc k j=>?_))];obtain⟨d,e,q1⟩:=j;cases c with
 |true=>exact .amJ
 |false=>rw[.C d e q1]
def abf(g:.GI)(i:PW X (.s2 .Or) tB'):PW X (.sS .Or) (tOr tA tB'):=by
 rw[.MW (isTrue_or (.dw g λc k j=>?_))];obtain⟨d,e,q1⟩:=j;cases c with
 |true=>rw[.C d e q1]
 |false=>exact .amJ
def Yr(e:.GI):PT X .Lb (cW tA):=by
 rw[.DM (isTrue_not<|.hX e (λc d=>Q (! c) d) I h)]
/---/def abg(ta tb:TE):TE:=.fb<|.yj<|.HF<|.dE c (tb σ H1 Q)<|Q .mw H1
/---/def acV(ta tb:TE):TE:=.fb<|.yj<|.HF<|.dE c (Q .dO H1)<|tb σ H1 Q
/---/def abh(ta:TE):TE:=.vN<|.HF<|.C4 (! c) H1
def Ys(h:.af a t):.af (.F8 op) t:=λpins s σ H Q I c=>BoolOp_one<|.kS Q I c
def Yt(f:.lO)(g:.pX<|.s2 .And):.af (.sS .And) (abg ta tb):=by
 rw[.o5 (BoolOp_and (.dw f λv k i=>?_))];rw[.ahi];cases j;refine zXq ?_;cases c with
 |true=>exact .a0 g k σ d Q e q1
 |false=>exact .ch .mw d e q1
def abi(f:.lO)(g:.pX<|.s2 .Or):.af (.sS .Or) (acV ta tb):=by
 rw[.o5 (BoolOp_or (.dw f λv k i=>?_))];rw[.ahi];cases j;refine zXq ?_;cases c with
 |false=>exact .a0 g k σ d Q e q1
 |true=>exact .ch .dO d e q1
def Yu(e:.lO):.af .Lb (abh ta):=by
 rw[.o5 (UnaryOp_ (.dw e λv j g=>?_))];obtain⟨x,d,f,i,q1⟩:=g;obtain⟨c,rfl,q1⟩:=q1;cases i;exact not_of<|zXq<|.ch (.bl<|! c) d f q1
/---/def tIf(t:TT)(ta tb:TE):TE:=.P5<|.dE c (.kJ ta Q)<|.kJ tb Q
def Qx(j:PT X c tA)(i:.lO)(k:.pX b):.af (.Nx c) (tIf tA ta tb):=by
 rw[.o5 (wpAny_IfExp (.dw j λd g l=>?_))];obtain⟨e,f,q1⟩:=l;cases d with
 |true=>exact .a0 i g σ e Q f q1
 |false=>exact .a0 k g σ e Q f q1
end
/---/def SqL(K:zCM)(H:Hp)(a:Addr)(xs:.R):Prop :=
 .l8 .wG\/
  .adQ
/---/def SqT(K:zCM)(H:Hp)(a:Addr)(xs:.R):Prop :=
 .l8 (.E xs)\/
  .Si (.dj a=.bb/\o.cls=.lh/\.QR xs)
noncomputable def acW:R0->.as V
 |.none=>.r8
 |.bool b=>.a<|.bl b
 |.int i _=>.aW
 |.str x _=>.aI x
 |.bytes b _=>.a<|.byt b
 |.float b _=>.a<|.flt b
 |.ref a=>.l3
 |.type n=>.a<|.ty n
 |_=>none
def cS.abs{x:V}(r:.lF x):acW u=.aF:=by
 cases x with
 |non=>cases r;rfl
 |bl _=>cases r;rfl
 |int _=>rw[.yE]
 |str _=>rw[.yE]
 |byt _=>rw[.yE]
 |flt _=>rw[.yE]
 |ref _=>cases r;rfl
 |ty _=>cases r;rfl
def cS.inj{x y:V}(r:.lF x)(q:.iL):x=y:=zBS<|r.abs.symm.trans q.abs
def bS.inj:∀{xs ys:.R} {us:.H},.ka->.g1 ys->xs=ys:=by
 intro xs ys us a b
 induction a generalizing ys with
 |nil=>cases b;rfl
 |cons r t d=>cases b with|cons c e=>rw[r.inj c,d e]
section
variable{X:Cx}{pins:List (Addr × Obj)}{σ:St}{H:Hp}{s:R1}{a:Addr}{xs ys:List V}
def SqL.of{K:zCM}(h:.pw a):.A5:=.G .xb
def SqT.of{K:zCM}(h:H a=.A7):.vU:=.G .xb
def Inv.list(I:.n)(h:.lX H a xs):∃b:.H,bS xs b/\.dx PlainL a b.toArray/\.iV:=by
 rcases h with h|⟨o,b,n,d,f,g,c,i,r⟩
 ·obtain⟨z,b,n,r,e⟩:=.ey h.ok
  rw[.al b r ⟨_,n,e,rfl,rfl,rfl⟩ z]
 ·refine⟨b.toList,r,⟨o,n,I.kIn a o d,f,g,.tO⟩,?_⟩
  have e:=r.length;dsimp[Array.length_toList]at e
  lia
def Inv.tuple(I:.n)(h:.pE a xs):∃b:.H,bS xs b/\.vp a b.toArray/\.iV:=by
 rcases h with h|⟨o,b,n,c,d,f,g,r⟩
 ·obtain⟨z,b,r,p⟩:=.ey h.ok
  rw[.al b r p z]
 ·refine⟨b.toList,r,⟨o,I.kIn a o c,d,n,.Ej⟩,?_⟩
  have e:=r.length;dsimp[Array.length_toList]at e
  lia
def Inv.list_inj(I:.n)(h:.lX H a xs)(h':.lX H a ys):xs=ys:=by
 obtain⟨c,r,⟨o,n,e,_,_,d⟩,_⟩:=.e3 h;obtain⟨b,i,⟨k,l,g,_,_,f⟩,_⟩:=.e3 h';rw[.pM e];rw[d]at f;injection f with j _
 have:c=b:=.ai0
 rw[.wX (r.inj i)]
def Inv.tuple_inj(I:.n)(h:.pE a xs)(h':.pE a ys):xs=ys:=by
 obtain⟨c,r,⟨o,e,_,n,d⟩,_⟩:=.dm h;obtain⟨b,i,⟨k,g,_,l,f⟩,_⟩:=.dm h';rw[.pM e];rw[d]at f;injection f with j _
 have:c=b:=.ai0
 rw[.wX (r.inj i)]
end
noncomputable abbrev Cx.wish(X:Cx)(E:.fB):Cx:={ X with xe:=E }
noncomputable abbrev Cx.nox(X:Cx):Cx:=.h8 .bw
def Cx.Ok.wish{X:Cx}(ok:X.Ok)(E:.fB):(.h8 E).Ok :=
 .abg
def Cx.Ok.unwish{X:Cx}(ok:(.h8 E).Ok):X.Ok :=
 .abg
section
variable{X:Cx}{pins:List (Addr × Obj)}{σ:St}{H:Hp}{s:R1}{E:R0->R1->Prop}
def Inv.wish(I:.n)(E:.fB):.uU (.h8 E) H s:=(.Jc<|I.ok.wish E)
def Inv.unwish(I:.uU (.h8 E) H s):.n:=(.Jc I.ok.unwish)
def SP.unwish{D:wE}{b:R1}(h:SP (.h8 E) pins D f b):.tr SP D f b:=by
 cases f with
 |next=>rw[.aaN σ' a I.unwish q]
 |brk=>rw[.aaN σ' a I.unwish q]
 |cont=>rw[.aaN σ' a I.unwish q]
 |ret u=>obtain⟨v,σ',a,I,r,q⟩:=h;exact⟨v,σ',a,I.unwish,r,q⟩
def PSs.nox{st:.el}(h:PSs X.nox st t):.iE st t:=λpins s σ H D I a =>
 .aes<|.uE<|False.elim z
end
section
variable{X:Cx}{st:Stmt}{rest:List Stmt}{t u:TS}{e:Expr}{te:TE}{pos:Pos}
/---/def abj:TS:=.kr<|.aU D.nx
/---/def acX(t u:TS):TS:=.kr<|.nS { D with nx:=u D }
def zx:.iE [] abj:=.ajf wpAny_execs_nil
def uR(h1:PS X st t)(b:.iE rest u):.iE (st::rest) (acX t u):=by
 rw[.yC (wpAny_execs_cons (thn (.hX h1 { D with nx:=u D } I h) λf d q=>?_))];cases f with
 |next =>
  obtain⟨σ',a,c,q⟩:=q;exact .a0 b d σ' a D c q
 |ret v=>exact q
 |brk=>exact q
 |cont=>exact q
def pI(h1:PS X st t):.iE [st] t:=by
 rw[.yC (wpAny_execs_cons (thn (.hX h1 D I h) λf a q=>?_))];cases f with
 |next=>exact wpAny_execs_nil q
 |ret v=>exact q
 |brk=>exact q
 |cont=>exact q
/---/def Yv:TS:=.kr<|.aU D.bk
def Qy:PS X (.Break pos) Yv:=.ajf wpAny_Break
def Inv.quiet(I:.n):interactive X.env=false:=.bJ interactive I.ok.kind
/---/def abk(te:TE):TS:=.kr<|.aU te λ_ H1=>.kJ D.nx
def zy(he:.dG te)(d:autoParam (.tx none) Q3Q._auto_1):PS X .OL (abk te):=by
 intro pins s σ H D I h;exact wpAny_Expr_any (.nU λv g c=>by obtain⟨x,a,b,f,q1⟩:=c;rw[.al σ a b q1]) I.quiet d
/---/def acY(te:TE):TS:=.kr<|.aU te D.rt
def JK(he:.dG te):PS X .K6 (acY te):=by
 intro pins s σ H D I h;exact wpAny_Return_some<|.nU λv f c=>by obtain⟨x,a,b,d,q1⟩:=c;exact⟨x,σ,a,b,d,q1⟩
/---/def acZ(c:TT)(t u:TS):TS:=.kr<|.aU c λb H1=>.dE b (t D σ H1)<|u D σ H1
def Qz{a b:.el}(k:PT X c tc)(j:.iE a t)(l:.iE b u):PS X .Mm (acZ tc t u):=by
 rw[.yC (wpAny_If (.dw k λd i m=>?_))];obtain⟨f,g,q1⟩:=m;cases d with
 |true=>exact .a0 j i σ f D g q1
 |false=>exact .a0 l i σ f D g q1
/---/def QA:TS:=.la
def QB:PS X st QA:=.ame
def Df:.iE a QA:=.ame
end
noncomputable abbrev TG:=V->St->.rm St
noncomputable abbrev TGs:=.R->St->.rm St
/---/def PG(X:Cx)(target:Expr)(t:TG):Prop :=
 ∀(pins:.bc) (s:R1) (σ:St) (H:Hp) (v:V) (u:R0) (Q:.di St),.n->.ea->.nS v Q->
  .akG (.ri target u)
/---/def PGs(X:Cx)(ts:.dy)(t:TGs):Prop :=
 ∀(pins:.bc) (s:R1) (σ:St) (H:Hp) (vs:.R) (us:.H) (Q:.di St),.n->.g1 vs->.nS vs Q->
  .akG (assignInOrder (.i6<|.yn ts) us)
noncomputable abbrev Yw:=.UZ
/---/def Yx(X:Cx)(t:Yw):Prop :=
 ∀(pins:.bc) (s:R1) (σ:St) (H:Hp) (o i v:V) (ov iv u:R0) (Q:.xe),.n->cS o ov->cS i iv->.ea->t o i v H Q->
  .fW (.Pq iv u) (λ_ s'=>∃H',.sR s'/\Q H') X.xe s
section
variable{X:Cx}{pos:Pos}
/---/def QC(i:Nat):TG:=λv σ H Q=>Q (.oC v) H
def U6(d:X.N.Nodup)(hi:.gd)(c:.lc)(a:autoParam (.k8) Q0Q._auto_1):PG X .km (QC i):=by
 intro pins s σ H v u Q I r h;exact wpAny_assign_Name<|uQ I d hi c r (λe b=>⟨_,H,b,h⟩) a
/---/def ac0:TGs:=λvs σ H Q=>vs=[]/\.aU Q
/---/def abl(t:TG)(u:TGs):TGs:=λvs σ H Q=>∃v r,vs=v::r/\.nS v λσ' H'=>u r σ' H' Q
def U7:PGs X [] ac0:=by
 intro pins s σ H b a Q I r h;obtain⟨e,h⟩:=h;subst e;cases r;exact assignInOrder_nil ⟨σ,H,I,h⟩
def QD{u:TGs}(h1:PG X e t)(i:PGs X a u)
  (k:autoParam (.alS) Q3Q._auto_1):PGs X (e::a) (abl t u):=by
 intro pins s σ H o n Q I r h;obtain⟨v,m,g,h⟩:=h;subst g;cases r with
 |cons r c =>
  rw[k];refine assignInOrder_cons (thn (.hX h1 _ _ _ I r h) λ_ l d=>?_);obtain⟨b,f,j,q1⟩:=d;exact .a0 i l b f _ _ Q j c q1
/---/def ac1(K:zCM)(n:Nat)(t:TGs):TG:=λv σ H Q=>∃a xs,v=.z/\.vU/\xs.length=n/\.nS xs Q
def Yy{k:Nat}(x:.bB)(h:PGs X c t)
  (q:autoParam (.s (.yn c)=n) Q3Q._auto_1) (f:autoParam (.al9 c) Q3Q._auto_1):PG X (.u7 c) (ac1 X.K n t):=by
 intro pins s σ H v u Q I r d;obtain⟨a,j,w,p,i,d⟩:=d;subst w;cases r;obtain⟨m,g,z,B⟩:=.dm p;refine assign_Tuple_tuple (.ip x) z (by simp[q,<-i,g.length]) f λl y=>?_;have A:.aoR:=.tD I.kept<|.gB<|y b o (.sp e) e;exact .a0 h _ σ H j _ Q A .qU d
/---/def ac2(to ti:TE)(t:Yw):TG:=λv σ H Q=>.aU to λo H1=>.kJ ti λi H2=>t o i v H2 λH3=>Q σ H3
def QE(f:.af o to)(hi:.af i ti)(w:Yx X t)
  (n:autoParam (∀v,.ri (.no o i pos) v=(do
   let ov <-.Yg
   let b <-.WN
   .AO pos
   .nj [v,ov,b] (.Pq b v)
   .XX b)) Q2Q._auto_1):PG X (.no o i pos) (ac2 to ti t):=by
 intro pins s σ H v u Q I r h;rw[n];rw[.I (.BN (.dw f λov z a=>?_)) .go];obtain⟨x,l,q,k,q1⟩:=a;rw[.ht c (.BN (thn (.a0 hi z σ l _ q q1) λb j a=>?_)) .go];obtain⟨y,m,p,e,q2⟩:=a;rw[.da c (.H1 (.BN (thn (.a0 w j σ m x y v ov b u _ p k e r q2) λ_ A a=>?_)))];obtain⟨g,d,q3⟩:=a;exact wpAny_release ⟨σ,g,d,q3⟩
/---/def Yz(te:TE)(g:TG):TS:=.kr<|.aU te λx H1=>g x σ H1 D.nx
def JL(he:.dG a)(j:PG X tg g)(l:autoParam (.Jr tg) Q3Q._auto_1)(b:autoParam (.Jt tg) Q3Q._auto_1)
  (h1:autoParam (.Ir [tg]=[.ri tg]) Q3Q._auto_1):PS X (.qQ tg e pos) (Yz a g):=by
 rw[.yC (wpAny_Assign_stores (.nU λv i c=>?_) l b)];obtain⟨x,f,k,d,q1⟩:=c;rw[h1];exact thn (.a0 j i σ f x v _ k d q1) λ_ m q=>q
def wF(l:X.N.Nodup)(hi:.gd)(g:.lc)(he:.dG a)(m:autoParam (.DC) Q3Q._auto_1)(f:autoParam (.k8) Q0Q._auto_1):
  PS X (.yq e) (Yz a<|QC i):=by
 rw[.yC (wpAny_Assign_Name (.nU λv o b=>?_) m)];obtain⟨y,d,k,c,q1⟩:=b;exact uQ k l hi g c (λn j=>⟨_,d,j,q1⟩) f
end
section
variable{X:Cx}{pos:Pos}
end
structure It where
 go:Nat->Hp->Prop
 yld:Nat->Hp->V->Hp->Prop
 stop:Nat->Hp->Prop
/---/def wG(X:Cx)(pins:.bc)(H:Hp)(b:Addr):Prop :=
 .fK/\.mF b/\b∉X.fs/\(b∈X.ex\/.tE b)/\.agA
def Inv.fpOk(I:.n)(a:.Ed b)(g:.p5 d):.pA d:=by
 refine⟨g,wh<|YP I.lt a,I.nofs a,.F<|zBL I.sz a,.ER,λp f z=>?_⟩
 ·obtain⟨v,q⟩:=.Gn
  exact .uN (YP q.lt<|.p z a)
 ·exact .B (.AN ((.hy f).1)<|.p z a) (vr _)
structure Eu(P:P6)(w:P7)(K:zCM)(tg:Expr)(J:It)(fp:List Addr)(it:Addr)(tn:Nat->Heap->Prop):Prop where
 mem:it∈fp
 obj:∀i h,tn i h->∀b∈fp,∃o,h.get? b=some o/\∀v,o.data ≠ .cell v
 keep:∀i h h',tn i h->(∀b∈fp,∀o,h.get? b=some o->h'.get? b=some o)->tn i h'
 item:∀(X:Cx),X.prog=P->X.w=w->X.K=K->X.calm=true->∀(i:Nat) (pins:List (Addr × Obj)) (s:R1) (σ:St) (H:Hp) (E:R0->R1->Prop),Inv X pins σ H s->(∀b∈fp,wG X pins H b)->tn i s.heap->J.go i H->
  wpAny (model P w) X.A (pyNext (.ref it)) (λr s1=>∃u,r=some u/\
   wpAny (model P w) X.A (letOwnedTupleGo tg (.ref it) u) (λ_ s2=>∃x H',Inv X pins σ H' s2/\cS x u/\J.yld i H x H'/\tn (i+1) s2.heap/\∀b∈fp,H' b=none) E s1) E s
 done:∀(X:Cx),X.prog=P->X.w=w->X.K=K->X.calm=true->∀(i:Nat) (pins:List (Addr × Obj)) (s:R1) (σ:St) (H:Hp) (E:R0->R1->Prop),Inv X pins σ H s->(∀b∈fp,wG X pins H b)->tn i s.heap->J.stop i H->
  wpAny (model P w) X.A (pyNext (.ref it)) (λr s1=>r=none/\Inv X pins σ H s1) E s
 self:∀(A:R3) (i:Nat) (s:R1) (Q:R0->R1->Prop) (E:R0->R1->Prop),tn i s.heap->Q (.ref it) s->wpAny (model P w) A (pyIter (.ref it)) Q E s
noncomputable abbrev TI:=St->.rm It
/---/def PIE(X:Cx)(pins:.bc)(σ:St)(tg:Expr)(R:.di It)(itv:R0)(s2:R1):Prop :=
 ∃(it:Addr) (fp:.am) (tn:Nat->.Ha) (J:It) (H':Hp),itv=.BK/\.sR s2/\.Wg fp/\tn 0 s2.heap/\(∀b∈fp,.pA H')/\R J H'
/---/def PI(X:Cx)(tg iter:Expr)(wi:TI):Prop :=
 ∀(pins:.bc) (s:R1) (σ:St) (H:Hp) (R:.di It),.n->.aU wi R->
  .v4 iter (λv s1=>.alo v X.xe s1) X.xe s
def Ml{Q:.eK Unit}(d:.gw it)(c:.GY n)(hd:o.data=.ou vs)
  (b:.abN=false) (a:Q () s):.mG (.Y4 tg .BK u):=by
 unfold letOwnedTupleGo;cases tg<;>first
  |exact xU a
  | (cases u<;>first
    |exact xU a
    | (refine zF (wpAny_load d ?_)
       rw[c,hd];show .mG<|.dE (.abN&&vs[0]? == .b0 rawInt _) _ _;rw[yM (by intro h;rw[b,Bool.false_and]at h;cases h)];exact xU a))
/---/def Itl(K:zCM)(a:Addr):It :=
 ⟨.aaf .A5,.HG<|H'=H/\∀xs,.A5->.Bg,λi H=>∃xs,.A5/\.vj i⟩
/---/def Itt(K:zCM)(a:Addr):It :=
 ⟨.aaf .vU,.HG<|H'=H/\∀xs,.vU->.Bg,λi H=>∃xs,.vU/\.vj i⟩
/---/def Itr(lo:Int)(n:Nat):It:=⟨λi _=>i<n,.HG<|H'=H/\x=.e (lo+i),λi _=>n<=i⟩
theorem Oo{K:zCM}(a it:Addr):.K0 (Itl K a) (λi h=>h.IsListIter it a i) where
 mem:=.f
 obj:=λi h f b g=>by
  have e:b=it:=.qU
  subst e;obtain⟨o,e,c,d⟩:=f;rw[.ci e .Vd]
 keep:=λi h l f k=>f.at .XK
 item:=by
  rw[.ahe];rw[.oa];obtain⟨S,x,n,y⟩:=M;obtain⟨G,B,p,Q⟩:=.e3 n;obtain⟨u,U,Y⟩:=B.get y;obtain⟨A,D,V,C,L,q⟩:=.iv m;rw[.da F (wpAny_pyNext_list_item f p.isList (x:=u) (by simpa using U) λl j W=>?_)];have R:.aoR:=.afc A D C L q;obtain⟨o,e,c,d⟩:=id j;rw[.C u rfl (Ml (s:={ s with heap:=l }) e c d .c ⟨x,H,R,Y,.co λZ O=>by rw[I.list_inj O n];exact y,j,λb g=>(m b g).1⟩)]
 done:=by
  rw[.ahe];rw[.oa];obtain⟨S,n,y⟩:=M;obtain⟨G,B,p,Q⟩:=.e3 n;obtain⟨A,D,V,C,L,q⟩:=.iv m;refine F ?_;have hl:=B.length;exact wpAny_pyNext_list_end (.ip N) f p.isList .bz λl T=>.co<|.aka A D C L q
 self:=λ_ _ _ _ _ f h=>wpAny_pyIter_listiter f h
theorem JM{K:zCM}(a it:Addr):.K0 (Itt K a) (λi h=>h.IsTupleIter it a i) where
 mem:=.f
 obj:=λi h f b g=>by
  have e:b=it:=.qU
  subst e;obtain⟨o,e,c,d⟩:=f;rw[.ci e .Vd]
 keep:=λi h m f k=>f.at .XK
 item:=by
  rw[.ahf];rw[.j .Pz];obtain⟨S,x,q,A⟩:=M;obtain⟨j,C,p,Q⟩:=.dm q;obtain⟨u,U,Y⟩:=C.get A;obtain⟨B,F,V,D,L,r⟩:=.iv n;rw[.da G (wpAny_pyNext_tuple_item f .ajQ (x:=u) (by simpa using U) λm l W=>?_)];have R:.gY { s with heap:=m }:=.afc B F D L r;obtain⟨o,e,c,d⟩:=id l;rw[.C u rfl (Ml (s:={ s with heap:=m }) e c d .c ⟨x,H,R,Y,.co λZ O=>by rw[I.tuple_inj O q];exact A,l,λb g=>(n b g).1⟩)]
 done:=by
  rw[.ahf];rw[.j .Pz];obtain⟨S,q,A⟩:=M;obtain⟨j,C,p,Q⟩:=.dm q;obtain⟨B,F,V,D,L,r⟩:=.iv n;refine G ?_;have hl:=C.length;exact wpAny_pyNext_tuple_end (.ip N) f .ajQ .bz λm T=>.co<|.aka B F D L r
 self:=λ_ _ _ _ _ f h=>wpAny_pyIter_tupleiter f h
theorem JN{K:zCM}(it:Addr)(lo:Int)(n:Nat):.K0 (Itr lo n) (λi h=>IsRangeIter h it (lo+.kY i*1) (.bp-.kY i) 1) where
 mem:=.f
 obj:=λi h a b c=>by
  have e:b=it:=.tO
  rw[.qv (.bP a λv z=>by
   have F:.T4:=z;cases F)]
 keep:=λi h f a k=>.iv k _ a
 item:=by
  rw[.ag9];rw[.j .PF];obtain⟨A,m,L,l,x,j⟩:=.iv g;refine q ?_;have W:=.UE Walks.range (.ip y) it lo 1 n;refine W.item i s _ _ B a λv f C J d D=>?_;obtain⟨t,rfl⟩:=J;have M:.gY { s with heap:=f,toks:=C }:=I.turned (λb o c e=>D b o .tO e) A m l x j;refine .bP rfl<|Ml (s:={ s with heap:=f,toks:=C }) (n := "range_iterator") d rfl rfl .c ⟨.e<|lo+i,H,M,.c4 t,.Bv,d,λb c=>(g b c).1⟩;rw[Int.mul_one]
 done:=by
  rw[.ag9];rw[.j .PF];obtain⟨A,m,L,l,x,j⟩:=.iv g;rw[.cv q (wpAny_pyNext_range_end (.ip y) a (by have:n<=i:=B;lia) λf G=>.co<|.S4 (λb o c e=>G b o c e) A m l x j)]
 self:=λ_ _ _ _ _ a h=>wpAny_pyIter_rangeiter a h
section
variable{X:Cx}{tg:Expr}
def GR{lo hi:Int}{t u v:Tok}{tk:Nat}(I:.n)(h1 : -(2^62)<=lo)(g:lo<2^62)(i : -(2^62)<=hi)(d:hi<2^62)
  (q:R (Itr lo .Mq) H):.alo .jQ E (.aaa .CY):=by
 refine wpAny_pyIter_range (IsRange.new ..) (small_one h1 g i d) ?_;have a:.gY (.aaa .CY):=I.kept .vB;refine⟨.lw .CY,[.lw .CY],_,_,H,rfl,
  a.kept (t':=tk) .vB,JN _ lo .Mq,?_,λb h=>?_,q⟩
 ·have f:lo+.aD 0*1=lo:=.f
  have c:.aD .Mq-.aD 0=Builtin.Range.rangeSize lo hi 1:=by rw[rangeSize_one];split<;>lia
  show IsRangeIter _ _ (lo+.aD 0*1) (.aD .Mq-.aD 0) 1;rw[f,c];exact .ds
 ·have e:b=.lw .CY:=.tT
  rw[.d3 (.hc a.fpOk<|.hc a.hok.fresh)]
/---/def abm(ta:TA):TI:=.nL<|.Fu<|∃j:Int,vs=[.e j]/\-(2^62)<=j/\j<2^62/\R (Itr 0 j.toNat) H1
/---/def abn(ta:TA):TI:=.nL<|.Fu<|∃i j:Int,vs=[.aG,.e j]/\(-(2^62)<=i/\i<2^62/\-(2^62)<=j/\j<2^62)/\R (Itr i (j-i).toNat) H1
def Op{b:TA}(k:.Qc)(i:.OA)(g:PA X [a] b)(m:autoParam (.z4) Q3Q._auto_1):.nA (.EQ "range") (abm b):=by
 rw[.aaP (Call_ (pH I k i boot_range (zYg (.um g λo v d=>?_) m rfl)))];obtain⟨u,n,l,f,q1⟩:=d;obtain⟨j,e,q1,q2,q⟩:=q1;subst e;cases f with
 |cons r c =>
  cases c;obtain⟨t,rfl⟩:=r;exact call_range_1 (GR l .b .b q1 q2 .LQ)
def Oq{a b:Expr}{p:Pos}(u:.Qc)(o:.OA)(n:PA X [a,b] f)(w:autoParam (.Kx) Q3Q._auto_1)(c:autoParam (.Nz) Q3Q._auto_1):
  .nA (.L7 "range") (abn f):=by
 rw[.aaP (Call_ (pH I u o boot_range (zYg (.um n λy B k=>?_) (.L w c)<|.aE c)))];obtain⟨z,x,v,l,q1⟩:=k;obtain⟨i,j,e,⟨q1,q2,q3,g⟩,q⟩:=q1;subst e;cases l with
 |cons r d =>
  cases d with
  |cons m d =>
   cases d;obtain⟨t,rfl⟩:=r;obtain⟨A,rfl⟩:=m;exact call_range_2 (GR v q1 q2 q3 g q)
/---/def ac3(wi:TI)(g:TG)(tb:TS):TS:=.kr<|.aU wi λJ H1=>∃W:Nat->Nat->.di St,(∃m,W 0 m σ H1)/\∀i m σ H,W i m σ H->
 (J.stop i H/\.aU D.nx)\/(J.go i H/\∃N:.di St,(∀σ' H',N σ' H'->∃m',m'<m/\W (i+1) m' σ' H')/\∀x H',J.yld i H x H'->g x σ H' λσ2 H2=>tb { D with nx:=N,ct:=N,bk:=D.nx } σ2 H2)
/---/def wH(fp:.am)(h:Heap):.bc:=fp.filterMap λb=>(.dQ b).map λo=>(b,o)
def kj(c:b∈a)(e:.fv b):(b,o)∈wH a h:=zYk.mpr ⟨b,c,.aE e⟩
def Os(hp:p∈wH a h):p.1∈a/\.dQ .fF=some p.2:=by
 obtain⟨b,d,e⟩:=zYk.mp hp;cases q:.dQ b with
 |none=>rw[.bd q]
 |some o =>
  rw[q]at e;have c:(b,o)=p:=zBS e;subst c;rw[.o d q]
def Inv.pinned(I:.n)(g:∀b∈a,.pA H)(k:∀b∈a,∃o,.gw b/\.YD o.data):Inv X (pins++wH a s.heap) σ H s :=
 I.pins_of λp i=>(.f5 i).elim (λz=>.hy<|vy _ z) λz=>by
  rw[.hD];obtain⟨c,e⟩:=Os z;obtain⟨l,h,m,_⟩:=g p.1 c;obtain⟨o,f,d⟩:=k p.1 c;refine j ?_;rw[.wY e];exact⟨e,l,h,m,d⟩
def Inv.unpinned(I:Inv X (pins++pl) σ H s):.n:=I.pins_of λp a=>.hy<|vy _<|zVk _ a
def Ev(hp:.Da)(V:.bB)(hi:.nA p wi)(hg:PG X tg g)(k:.iE body tb)
  (hs:autoParam (.mz p) Q2Q._auto_1):PS X (.CK p) (ac3 wi g tb):=by
 intro pins s σ H D I h;rw[.I (wpAny_For (.dw hi λv s1 h1=>thn h1 λa0 s2 h2=>?_) hs) λ_ R=>?_];obtain⟨it,E,tn,J,H2,e,I2,T,O,f2,W,⟨m0,w0⟩,turn⟩:=h2;refine R ?_;subst e;have l:∀{w:Hp},.Vi->∀b∈E,.pA w:=λhn b k=>⟨hn b k,(f2 b k).2⟩;refine codeAny_forLoop_any (λn U=>∃i σ' w,.oj σ' w U/\tn i U.heap/\.Vi/\W i n σ' w) ?_ m0 ⟨0,σ,H2,I2,O,λb k=>(f2 b k).1,w0⟩;rintro n Y ⟨i,t,G,S,A,F,w3⟩;rcases turn i n t G w3 with ⟨stop,qn⟩|⟨go,N,hN,step⟩
 ·refine zUd hp (thn (.afm T.done stop) λr s4 ⟨Q,I4⟩=>?_)
  subst Q;exact wpAny_execs_nil ⟨t,G,I4,qn⟩
 ·refine zUd hp (thn (.afm T.item go) λr s4 C=>?_);obtain⟨u,Q,h4⟩:=C
  subst Q;rw[.I (zUd hp (thn h4 λ_ Z C=>?_)) λ_ R=>?_];obtain⟨x,H5,I5,r5,y5,z,M⟩:=C;refine R ?_;have L:=I5.pinned (l M)<|.AG z;refine zUd hp (thn (hg _ Z t H5 x u _ L r5<|step x H5 y5) λ_ s6 C=>?_);obtain⟨P,H6,I6,q6⟩:=C;refine zUd hp (thn (k _ s6 P H6 _ I6 q6) λf K y=>?_);have q:∀{a:St} {j:Hp},Inv X (pins++wH E Z.heap) a j K->N a j->∃m,m<n/\∃i σ' w,.oj σ' w K/\tn i K.heap/\.Vi/\W i m σ' w:=λ{a j} c B=>by
   obtain⟨m',hm,w7⟩:=hN a j B;refine⟨m',hm,i+1,a,j,c.unpinned,.aC T.keep z λb k o e=>(.ahR).1,λb k=>?_,w7⟩;obtain⟨o,e,d⟩:=.AG z b k;exact(.ahR).2.1
  cases f with
  |next=>obtain⟨a,j,c,B⟩:=y;exact q c B
  |cont=>obtain⟨a,j,c,B⟩:=y;exact q c B
  |brk=>obtain⟨a,j,c,y⟩:=y;rw[.al a j c.unpinned y]
  |ret v=>obtain⟨x7,a,j,c,r7,y⟩:=y;exact⟨x7,a,j,c.unpinned,r7,y⟩
end
noncomputable abbrev R2:=V->.qB V
/---/def OpR(X:Cx)(f:R0->R0->Sem R0)(r:R2):Prop :=
 ∀(pins:.bc) (s:R1) (σ:St) (H:Hp) (x y:V) (v u:R0) (Q:VK),.n->.qd->.iL->.Gz r->
  .mX (f v u) s
/---/def UnR(X:Cx)(f:R0->Sem R0)(r:.qB V):Prop :=
 ∀(pins:.bc) (s:R1) (σ:St) (H:Hp) (x:V) (v:R0) (Q:VK),.n->.qd->r x H Q->
  .mX (f v) s
/---/def jI(X:Cx)(f:R0)(r:.oU):Prop :=
 ∀(pins:.bc) (s:R1) (σ:St) (H:Hp) (xs:.R) (us:.H) (Q:VK),.n->.ka->r xs H Q->
  .mX (call f us) s
/---/def tOp(r:R2)(ta tb:TE):TE:=.vN<|.kJ tb λy H2=>r x y H2 Q
/---/def tUn(r:.qB V)(ta:TE):TE:=.vN<|r x H1 Q
/---/def rI(C:Int->.bF Int)(g:.IW V):R2:=.P9<|x=.aG/\y=.e j/\C i j/\Q (g i j) H
/---/def rI0(g:.IW V):R2:=.P9<|x=.aG/\y=.e j/\Q (g i j) H
/---/def rU(g:Int->V):.qB V:=λx H Q=>∃i,x=.aG/\Q (g i) H
section
variable{X:Cx}{a b c:Expr}{ta tb tc:TE}{pos:Pos}
def YA(o:.lO)(p:.pX b){R:V->.di V}(I:.n)
  (h:.aU ta λx k=>tb σ k λy d=>R x y d)  {f:R0->R0->Sem R0}
  (n:∀v u i x y d,.aP d i->.qd->.iL->R x y d->.fW (f v u) Q X.xe i) :
  .v4 a (λv e=>.v4 b (λu g=>.fW (f v u) Q X.xe g) X.xe e) X.xe s:=by
 refine .dw o λv t j=>?_;obtain⟨x,k,r,m,q1⟩:=j;refine thn (.a0 p t σ k _ r q1) λu i j=>?_;obtain⟨y,d,q,l,q2⟩:=j;exact n v u i x y d q m l q2
def QF(i:.ot op r)(e:.lO)(g:.pX b):.W3 (.EN op):=by
 rw[.DM (wpAny_BinOp<|YA e g I h λv u l x y d j f k q=>.a0 i l σ d x y v u Q j f k q)]
def abo(g:UnR X (unaryOp op) r)(e:.lO):.af (.UnaryOp op a pos) (tUn r ta):=by
 rw[.DM (UnaryOp_<|.dw e λv k i=>by obtain⟨x,d,f,j,q1⟩:=i;exact .a0 g k σ d x v Q f j q1)]
def opI{g:.Bu}
  (d:.R6<|C i j->.WI (g i j)->.Tb) :
  .Bs (rI C .OP):=by
 intro pins s σ H x y v u Q I k m h;obtain⟨i,j,rfl,rfl,e,q⟩:=h;obtain⟨t,rfl⟩:=k;obtain⟨l,rfl⟩:=m;exact d i j t l s _ _ e<|.Gi<|g i j
def abp{g:.Bu}
  (d:.R6<|.WI (g i j)->.Tb) :
  .Bs (rI0 .OP):=by
 rw[.ag7];rw[.aph];exact d i j t k s _ _<|.Gi<|g i j
def YB{g:.Hf}
  (d:.R6<|Q (.g0<|g i j) s->.Tb) :
  .Bs .aml:=by
 rw[.ag7];rw[.aph];exact d i j t k s _ _<|.xK<|g i j
/---/def U8(i j:Int):Prop:=(-(2^64)<i/\i<2^64)\/(-(2^64)<j/\j<2^64)
def U8.ok(h:U8 i j):IntMulOk i j:=by
 rcases h with ⟨e,d⟩|⟨e,d⟩
 ·exact .of_left (intBits_le_64 e d)
 ·exact .of_right (intBits_le_64 e d)
def YC:.vT (rI0<|.ra<|i+j):=abp<|.DS add_int
def n9:.ot .Sub (rI0<|.ra<|i-j):=abp<|.DS sub_int
def jJ:.ot .Mult (rI U8<|.ra<|i*j):=opI λ_ _ _ _ _ _ _ d q=>mul_int q d.ok
def fY:.ot .Mod .aj3:=opI λi j _ _ _ _ _ d q=>by
 have e:.M 0<j:=d;exact mod_int' .b (by rw[Int.fmod_eq_emod_of_nonneg i .b];exact q)
def unI{g:Int->Int}
  (d:∀(i:Int) (t:Tok) (s:R1) (Q:.fB) (E:.fB),.WI (g i)->.fW (f<|.aG t) Q E s) :
  UnR X f (rU λi=>.e<|g i):=by
 intro pins s σ H x v Q I e h;obtain⟨i,rfl,q⟩:=h;obtain⟨t,rfl⟩:=e;exact d i t s _ _<|.Gi<|g i
def YD:UnR X (unaryOp .USub) (rU λi=>.e<|-i):=unI λ_ _ _ _ _ q=>neg_int q
end
section
variable{X:Cx}{a b c:Expr}{ta tb tc:TE}{pos:Pos}
def JO{Q:VK}(I:.n)(q:.jF k)(e:k=d):.hm (.g0 d) s:=by
 rw[.qv (.xK k)]
def GS:.gs .Lt (.Ys<|i<j):=YB<|.DS lt_int
def Xy:.gs .LtE (.Ys<|i<=j):=YB<|.DS le_int
def yj:.gs .Gt (.Ys<|j<i):=YB<|.DS gt_int
def Ot:.gs .In (.P9 .acL):=by
 intro pins s σ H x y v u Q I d e h;obtain⟨i,j,rfl,rfl,q⟩:=h;obtain⟨t,rfl⟩:=d;obtain⟨f,rfl⟩:=e;exact in_str<|JO I q rfl
def tV:.gs .Is .afQ:=by
 rw[.ahc];cases e;refine is_none_gen (JO I q ?_);cases x<;>first
  |(cases d;rfl)
  |(obtain⟨t,rfl⟩:=d;rfl)
def sf:.gs .IsNot .afX:=by
 rw[.ahc];cases e;refine isnot_none_gen (JO I q ?_);cases x<;>first
  |(cases d;rfl)
  |(obtain⟨t,rfl⟩:=d;rfl)
def OpR.or(h:.Bs r)(h':.Bs d):.Bs .aoY:=by
 intro pins s σ H x y v u Q I e g q;rcases q with q|q
 ·exact .kS x y v u Q I e g q
 ·exact .hX h' x y v u Q I e g q
def aP(b:Expr)(h:autoParam (op ≠ .In) Q1Q._auto_1)(f:autoParam (op ≠ .NotIn) Q1Q._auto_1):.xL op:=by
 have d:.c1 op CmpOp.In:=by cases op<;>first|rfl|exact .bg h
 have e:.c1 op CmpOp.NotIn:=by cases op<;>first|rfl|exact .bg f
 cases b<;>simp[behindInMarks,d,e]
def U9(j:.Bb)(e:.lO)(i:.pX b)(f:.xL op):.W3 (.Ez op):=by
 rw[.DM (wpAny_Compare1 (YA e i I h λv u m x y d k g l q=>.a0 j m σ d x y v u Q k g l q) f)]
/---/def abq(t:TE):TT:=.rI λx H'=>∃k,x=.bl k/\Q k H'
def zA(i:.Bb)(p:.lO)(t:.pX b)(q:.xL op):PT X (.Ez op) (abq<|tOp r ta tb):=by
 rw[.o5 (wpAny_isTrue_Compare1 (.dw p λv B ⟨x,n,A,m,q1⟩=>thn (.a0 t B σ n _ A q1) λu l ⟨y,o,w,g,q2⟩ =>
  thn (.a0 i l σ o x y v u _ w m g q2) λc C zz=>?_) q)];obtain⟨z,j,f,d,k,e,q3⟩:=zz
 subst e;cases d;exact zXq ⟨j,f,q3⟩
/---/def QG(r r':R2)(ta tb tc:TE):TE:=.fb<|.yj<|tb σ H1 λy H2=>r x y H2 λz H3=>∃k,z=.bl k/\
 (.dE k (tc σ H3 λw' H4=>r' y w' H4 Q)<|Q .mw H3)
def QH(p:.Bb)(g:.gs f m)(P:.lO)(D:.pX b)(C:.af c tc)
  (R:.alL f:=by with_unfolding_all rfl):.af (.x7 a [op,f] [b,c] pos) (QG r m ta tb tc):=by
 rw[.o5 (Compare_chain (.dw P λv S ⟨x,w,J,q,q1⟩=>chain_link (thn (.a0 D S σ w _ J q1) λu N ⟨y,A,E,j,q2⟩ =>
  thn (.a0 p N σ A x y v u _ E q j q2) λd G zz=>?_)) R)];obtain⟨z,l,i,n,k,e,q3⟩:=zz
 subst e;cases n;refine zXq ?_;cases k with
 |false=>exact ite_ff<|.ch .mw l i q3
 |true=>exact ite_tt (chain_last<|thn (.a0 C G σ l _ i q3) λF O t=>by obtain⟨K,o,B,L,M⟩:=t;exact .a0 g O σ o y K u F Q B j L M)
def wI:.kY sizeLine<2^63:=.sj
def JP:.vT (.P9 .adC):=by
 intro pins s σ H x y v u Q I e g h;obtain⟨i,j,rfl,rfl,d,q⟩:=h;obtain⟨t,rfl⟩:=e;obtain⟨f,rfl⟩:=g;exact add_str (λf k=>.Nt<|i++j) d
def uS{x:V}(r:.g1 [x]):∃u,us=[u]/\.lF x:=by
 cases r with
 |cons e d=>cases d;exact .dz e
def Xz{x y:V}(r:.g1 [x,y]):∃u d,us=[u,d]/\.lF x/\cS y d:=by
 cases r with
 |cons h f =>
  cases f with
  |cons e g=>cases g;exact .bh _ _ h e
def Ou(e:.bB):.ln "max" (.an2 .VR):=by
 rw[.apt (Xz r)];refine .agI max_two_ints
 by_cases d:j>i
 ·rw[z3 d,z3 d];exact .K
 ·rw[yM d,yM d];exact .K
def Ov(e:.bB):.ln "min" (.an2<|.fx j i j i):=by
 rw[.apt (Xz r)];refine .agI min_two_ints
 by_cases d:j<i
 ·rw[z3 d,z3 d];exact .K
 ·rw[yM d,yM d];exact .K
def Ow:.vl "int" (.kq<|(∃i,xs=[.aG]/\.wc i)\/∃k,xs=[.bl k]/\.wc (.tQ k)):=by
 intro pins s σ H xs e Q I r h;rcases h with ⟨i,rfl,q⟩|⟨k,rfl,q⟩
 ·rw[.M0 uS r]
  exact call_int_int ⟨.aG,H,I,.K,q⟩
 ·obtain⟨u,rfl,d⟩:=uS r
  cases d;exact call_int_bool (.Gi<|.H7 k 1)
def Ew:.vl "str" (.kq .ajV):=by
 intro pins s σ H xs e Q I r h;obtain⟨i,rfl,d,q⟩:=h;rw[.M0 uS r];exact .aoC d
end
structure JQ(h:Heap)(x dx C:Addr)(mA:Str->Option R0):Prop where
 obj:h.get? x=some (PySem.W.instObj C dx)
 ns:h.Ns1 dx mA
 ne:dx≠x
def Dg(n:.zv):∃d,.dQ dx=.a7/\∀name,.Wv d=.b0 mA name:=by
 rw[.j .i2];obtain⟨o,c,p,j,m,k,_,g⟩:=n;rw[.dq i ⟨o,j,λname=>?_⟩];have e:=g name;unfold nsFind findBy at e;rw[<-Array.find?_toList]at e;unfold PySem.W.lookIn;rw[m];dsimp only;split
 ·rename_i y q
  rw[q]at e;exact .eL some e
 ·rename_i q
  rw[q]at e;have a:.alt=false:=by
   rw[zWo];intro y l;obtain⟨z,t,b⟩:=k y<|Array.mem_toList_iff.mp l;simp[DictEntry.refKey,b]
  have f:¬.alt=true:=.p a UG
  rw[yM f];exact .eL some e
def JQ.look{x dx C:Addr}(I:JQ h x dx C mA):∃a,PySem.W.InstAt h x .ane C .jK/\∀name,.Wv a=.b0 mA name :=
 let ⟨a,b,c⟩:=Dg I.ns
 ⟨a,.mh I.obj rfl b,c⟩
section
variable{prog:P6}{w:P7}{A:R3}{E:R0->R1->Prop}{s:R1}{K:zCM}{x dx C f:Addr}{mA:Str->Option R0}{name:Str}{v:R0}
def Va(X:.Ba)(I:.XN)(i:.Kw name)(g:.Ky C)
  (d:.r7 name=.iR) (e:.Bt=.aM) (b:.KW v) (h:Q v .oq) :
  .d6 (.bi getAttr x name a):=by
 obtain⟨j,J,c⟩:=I.look;exact PySem.W.get_value X J (.WX i).1 (PySem.W.findObj_own g d rfl<|.L c e) b h
def QI{Q:.eK (R0 × .H)}(X:.Ba)(I:.XN)(a:.Kw name)
  (b:.r7 name=.bx f) (g:.Ue f) (e:.Bt=none) (h:Q (.l4,[.d x]) s) :
  .d6 (.bi getMethod x name pl):=by
 obtain⟨d,J,c⟩:=I.look;exact PySem.W.method_fn X J (.WX a).1 (.WX a).2 b (.yV g) (by show (.Wv d).map (·.isSome)=.du;rw[c,e];rfl) h
def Vb{Q:.eK Unit}(X:.Ba)(I:.XN)
  (t:.R7 .aJ) (hp:.aj8) (p:.W8 C name=.iR) (o:.Ky C)
  (k:PySem.Within mA ns) (hsz:.S ns.length)
  (h:∀h',JQ h' x dx C (λy=>.Q y name .aM<|mA y)->.xM dx h'->Q () { s with heap:=h',toks:=s.toks+2 }) :
  .d6 .aoT:=by
 obtain⟨z,J,u⟩:=I.look;refine PySem.W.set_plain X J t (PySem.W.osa_open (s:=.oq) (r:=none) X J hp p λb=>?_);obtain⟨B,m,hd'⟩:=PySem.W.any_some o;have n:.iQ x=.mg .aJ .lN .plain #[]:=I.obj;refine .EE (zF (wpAny_loadPart n (zF (PySem.W.Looks.here (s:=.oq) (PySem.W.looks_clsIn X m) ?_))));rw[hd'];rw[.cN (xU (a:=.lN) (.EE ?_)) (wpAny_nsSet1 (s:=.oq) I.ns λh' c d=>?_)];rw[.hD];obtain⟨D,q,l,e,i,g⟩:=c.count<|PySem.Within.cons name v k;rw[.da j (zF (wpAny_lookBehind e (by rw[i];exact pastItsLine_dict<|zBL g<|.c5 xR) ?_))];exact xU<|h _ ⟨.i (d.2 _<|zZs I.ne) I.obj,c,I.ne⟩ d
def GT(X:.Ba)(c:.alx)
  (hi:.r7 "__init__"=.bx f) (b:.Zz K .l4=.a .Mj)
  (h:.ua (.Yk ⟨.aJ :: vs,a⟩) (.call .l4 ⟨.d .B7 :: vs,a⟩) (PySem.W.InitBack .B7 R)
   (.rv .aaD)) :
  .ua A (.call .aJ ⟨vs,a⟩) R s:=by
 obtain⟨i,g,d,t,e⟩:=s;exact PySem.W.make_core (PySem.W.makes_of X c) (zYl X hi) (λself=>PySem.W.bind_fn X self b) .b5 h
end
noncomputable def oN(f:Str)(v:V):.f6 V->.f6 V
 |[]=>[(f,v)]
 |(g,x)::r=>.Q g f ((g,v)::r)<|(g,x)::oN f v r
theorem yk(f g:Str)(v:V):∀c:.f6 V,(oN f v c).lookup g=.Q g f .aM (c.lookup g)
 |[]=>by
  show .zh g [(f,v)]=_
  by_cases h:g=f
  ·have a:.s8 g f:=.XM
   rw[.BW a (z3 h)]
  ·have a:.c1 g f:=.g6 h
   rw[.BW a (yM h)]
 |(k,x)::r=>by
  have d:=yk f g v r;rw[.RV]
  by_cases b:k=f
  ·rw[z3 b]
   by_cases h:g=k
   ·have a:.s8 g k:=.XM
    rw[.BW a (z3<|.wE b)]
   ·have a:.c1 g k:=.g6 h
    rw[.BW a (yM λe:g=f=>h<|.ir b.symm)]
  ·rw[yM b]
   by_cases h:g=k
   ·have a:.s8 g k:=.XM
    rw[.BW a (yM λe:g=f=>b<|h.symm.trans e)]
   ·have a:.c1 g k:=.g6 h
    dsimp[List.lookup,a];exact d
theorem wJ(f:Str)(v:V):∀a:.f6 V,f∈.u2 (oN f v a)/\∀g,g∈a.map (·.1)->g∈.u2 (oN f v a)
 |[]=>⟨.k oN,λg h=>.ei⟩
 |(k,x)::r=>by
  obtain⟨c,d⟩:=wJ f v r;rw[.RV]
  by_cases b:k=f
  ·rw[z3 b]
   subst b;rw[.o .f λg h=>.tT]
  ·rw[yM b]
   rw[.bN ?_ λg h=>?_]
   ·rw[xI]
    exact .w6
   ·rw[xI]at h⊢
    rw[.hs h]
    ·exact z4.mpr (.G e)
    ·exact .dF (d g e)
theorem ym(f:Str)(v:V):∀b:.f6 V,.s (oN f v b)<=b.length+1
 |[]=>.k oN
 |(k,x)::r=>by
  have c:=ym f v r;rw[.RV]
  by_cases a:k=f
  ·rw[z3 a,xR,xR];lia
  ·rw[yM a,xR,xR];lia
def sS.some_of(r:sS .aM o):∃u,o=.bL/\.ea:=by
 cases o with
 |none=>exact .Ku
 |some u=>rw[.C u rfl r]
def sS.none_of(r:sS none o):o=none:=by
 cases o with
 |none=>rfl
 |some u=>exact .Ku
def Dh(r:.ea):.KW u:=by
 cases v with
 |non=>cases (.Gd<|u=Value.none);rfl
 |bl b=>cases (.Gd<|u=.HT b);rfl
 |int i=>rw[.yD .YE];cases e;rfl
 |str x=>rw[.yD .UY];cases e;rfl
 |byt b=>rw[.yD .amh];cases e;rfl
 |flt b=>rw[.yD .amq];cases e;rfl
 |ref a=>cases (.Gd<|.d8 a);rfl
 |ty n=>cases (.Gd<|u=.ls n);rfl
section
variable{P:P6}{w:P7}{H H':Hp}{h h':Heap}{a C dx:Addr}{fs fs':List (Str × V)}
def Ex(hok:.fq h)(e:.AZ fs):∃mA,JQ h a dx C mA/\.TB/\.aiq/\.f3 fs.length/\H dx=.E3:=by
 rw[.nJ];obtain⟨d,z,ne,b,mA,n,r,q⟩:=(show .mS (.js fs) from hok a _ e);rw[.cX c ⟨mA,⟨b,n,ne⟩,r,q,z,d⟩]
end
structure Cls(K:zCM)(C:Addr):Prop where
 pg:PySem.W.plainGet K C Str.empty=true
 hd:PySem.W.hasDictIn K C=true
 po:PySem.W.plainOver K C=true
 sa:PySem.W.findIn K (.ref C) "__setattr__"=some (some (.builtin "object.__setattr__"))
def Cls.get{K:zCM}(c:Cls K C)(f:Str):.Kw f:=c.pg
/---/def pJ(K:zCM)(C:Addr)(f:Str):Prop:=.r7 f=.iR
def pJ.taker{K:zCM}(n:pJ K C f):.W8 C f=.iR:=by
 unfold PySem.W.takerIn;rw[show .r7 f=.iR from n];rfl
structure Con(K:zCM)(C:Addr)(f:Str)(v:V)(u:R0):Prop where
 at_:PySem.W.findIn K (.ref C) f=some (some u)
 rel:cS v u
 get:PySem.W.specialIn K u "__get__"=some none
 cp:PySem.W.copiedNames.contains f=false
structure Vc(K:zCM)(C:Addr)(m:Str)(f:Addr):Prop where
 at_:PySem.W.findIn K (.ref C) m=some (some (.ref f))
 fn:PySem.W.isFn K (.ref f)=true
 kp:PySem.W.keepIn K (.ref f)=true
section
variable{X:Cx}{pins:List (Addr × Obj)}{σ:St}{H:Hp}{s:R1}{a C dx:Addr}{fs:List (Str × V)}{f:Str}{v:V}{A:R3}{E:R0->R1->Prop}
def JR{b:Bool}(I:.n)(e:.AZ fs)(c:.fA Cls)(n:.fA pJ f)(l:.AX f=.aM)
  (h:∀u d,.gY d->.ea->Q u d):.yM (getAttr .z f b):=by
 rw[.hD];obtain⟨mA,O,r,_,_,_⟩:=.ey Ex e;obtain⟨u,i,g⟩:=.ae9;rw[.cv j (Va I.kIn O (c.get f) c.hd n i (Dh g)<|h u _ .pv g)]
def JS{Q:.eK (R0 × .H)}(I:.n)(e:.AZ fs)(c:.fA Cls)(k:.fA Vc m g)(l:.AX m=none)
  (h:Q (.d g,.iM) s):.yM (getMethod .z m pl):=by
 obtain⟨mA,O,r,_,_,_⟩:=.ey Ex e;have b:mA m=none:=sS.none_of<|.ay l<|r m;exact QI I.kIn O (c.get m) k.at_ k.fn b h
def JT{Q:.eK Unit}(I:.n)(e:.AZ fs)(c:.fA Cls)(n:.fA pJ f)(G:fs.length<1000)(m:.iL)
  (h:∀j,.aP (.lM<|.js<|oN f y fs) j->Q () j):.yM (setAttr .z f u):=by
 obtain⟨mA,O,r,k,_,i⟩:=.ey Ex e;have t:.S (.ad fs.map (·.1)):=by rw[zST,zZt];lia
 refine Vb I.kIn O c.sa c.po n.taker c.hd k t λl d p=>h _ ?_;have F:∃o,l.get? dx=.bb:=let ⟨o,_,_,B,_⟩:=d.ns;.fz B;refine .OK a (e:=dx) .XO (.F i) (λb q w z=>.i (p.2 b w) z) F ?_;refine⟨by rw[aK O.ne];exact i,?_,O.ne,d.obj,_,d.ns,.Hr,λg D=>?_⟩
 ·have:=ym f y fs;lia
 ·show sS ((oN f y fs).lookup g) .anH
  rw[yk]
  by_cases q:g=f
  ·rw[z3 q,z3 q];exact m
  ·rw[yM q,yM q];exact r g
 ·by_cases q:g=f
  ·rw[q];exact(wJ f y fs).1
  ·refine(wJ f y fs).2 g (k g λz=>D ?_)
   show .anH=none;rw[yM q];exact z
def Inv.made(I:.n):.aP (upd (.x8<|.own .cf) .cf .aoV)
  (.rv .aaD):=by
 have c:.eY .C7 s.heap.objs.size=.a PySem.W.emptyDict:=.dx zAS rfl;have i:.eY .aaD .cf=.a .QS:=by
  rw[.eT (zAS .C7 (o:=.QS) rfl) zZi]
 have g:(.C7).Ns s.heap.objs.size .PK:=⟨PySem.W.emptyDict,#[],_,c,rfl,(λe d=>.lf d),.cB⟩;have j:=.aiP (.own .cf) (h':=.C7) (t':=s.toks) .aaF (zBK _)<|.cn c;refine j.laid (a:=.cf) (o:=.aoV) (t':=s.toks) .aaF (zYw<|zZi _ _) ?_;have ne:s.heap.objs.size≠.cf:=.z8;refine⟨.L (aK ne) aR,zZc _,ne,i,.PK,(Heap.Ns1.of_empty g).at λo q=>.qw,.de True.intro,λy h=>.bg h⟩
def Mm{f:Str}{s:R1}(c:.Cq e f env (.Bk e)=.Bk e)
  (h:.EO e (λo b=>.CX (getAttr o f true) b) E s):.d6 (.Bk<|.ms e f pos) :=
 Attribute_any_ h<|.L arm_eval_Attribute c
end
/---/def ac4(K:zCM)(ta:TE)(f:Str):TE:=.vN<|∃a C dx fs v,x=.z/\H1 a=.a (.js fs)/\Cls K C/\pJ K C f/\.AX f=.aM/\Q v H1
/---/def ac5(K:zCM)(ta tv:TE)(f:Str):TS:=.anS<|∃a C dx fs,x=.z/\H2 a=.a (.js fs)/\Cls K C/\pJ K C f/\fs.length<1000/\
 D.nx σ (.fE H2<|.js<|oN f y fs)
section
variable{X:Cx}{o e value:Expr}{f:Str}{pos pos' tpos:Pos}{ta tv:TE}
def YE(he:.dG ta)(p:.Uh f):.akY ac4:=by
 rw[.uA (Mm p (.nU λu B i=>?_)) .hV];obtain⟨x,j,t,m,a,C,A,y,v,d,b,c,n,l,q⟩:=i;refine g ?_;subst d;obtain rfl:.d8 a:=m;exact JR t b c n l λw z r k=>⟨v,j,r,k,q⟩
def QJ(r:.af o ta)(k:.af value tv)(z:.adJ):.ahG (ac5 X.K ta tv f):=by
 intro pins s σ H D I h;rw[.I (.aiL (.dw k λu A d=>?_) z) .fr];obtain⟨y,p,w,m,q⟩:=d;rw[.ht b (thn (.a0 r A σ p _ w q) λov E d=>?_) .fr];obtain⟨x,F,v,t,a,C,G,B,j,i,c,n,l,q2⟩:=d;refine b ?_;subst j;obtain rfl:ov=.ee a:=t;exact JT v i c n l m λJ g=>⟨σ,_,g,q2⟩
end
section
variable{X:Cx}{pins:List (Addr × Obj)}{σ:St}{H:Hp}{s:R1}{A:R3}{E:R0->R1->Prop}{Q:R0->R1->Prop}{c:R0}{b:Bool}
inductive Ae(K:zCM)(H:Hp):V->R0->Prop where
 |non:Ae K H .non (.type "NoneType")
 |bl (x:Bool):Ae K H (.bl x) (.type "bool")
 |int (i:Int):Ae K H (.int i) (.type "int")
 |str (x:Str):Ae K H (.str x) (.type "str")
 |flt (x:UInt64):Ae K H (.flt x) (.type "float")
 |lst {a:Addr} {xs:List V} (e:H a=some (.lst xs)):Ae K H (.ref a) (.type "list")
 |frz {a:Addr} {o:Obj} {xs:List V} (e:H a=some (.frz o (.lst xs))):Ae K H (.ref a) (.type "list")
 |tup {a:Addr} {xs:List V} (e:H a=some (.tup xs)):Ae K H (.ref a) (.type "tuple")
 |dK {a:Addr} {kvs:List (Key × V)} (e:H a=some (.dK kvs)):Ae K H (.ref a) (.type "dict")
 |dT {a:Addr} {kvs:List (List Key × V)} (e:H a=some (.dT kvs)):Ae K H (.ref a) (.type "dict")
 |ins {a C dx:Addr} {fs:List (Str × V)} (e:H a=some (.ins C dx fs)) (cl:Cls K C) (ha:PySem.W.findIn K (.ref C) "__class__"=some (some (.builtin "object.__class__")))
   (hn:PySem.W.specialIn K (.builtin "object.__class__") "__get__"=some (some (.builtin "getset_descriptor.__get__"))) (htk:PySem.W.takesIn K (.builtin "object.__class__")=some true)
   (hm:PySem.W.mroIn K C (.type "object")=some true):Ae K H (.ref a) (.ref C)
end
structure ff(k:Nat)(A:R3):Prop where
 hd:A.handled=none
 dp:A.depth+3*k+5<recursionLimit
 un:A.units+16*k+200<cLine
 gd:A.guards=some []
def ff.mono(r:ff k A)(h:j<=k):ff j A:=⟨r.hd,by have:=r.dp;lia,.W5,r.gd⟩
def ff.deeper(r:ff (k+1) A)(env:Env):ff k (.wf env) :=
 ⟨r.hd,by have:=r.dp;show A.depth+1+3*k+5<_;lia,by have:=r.un;show A.units+3+16*k+200<_;lia,r.gd⟩
def JU:(.Mp).depth=A.depth+1:=by
 first|rfl|simp[Around.under,Code.weight,Code.isCreation,Code.isGuard,Code.isCaller,Code.frames,Code.isFrame,guardIds]
def JV:(.Mp).units=A.units+1:=by
 first|rfl|simp[Around.under,Code.cUnits,Code.frames,Code.isFrame]
def ff.make(r:ff (k+1) A)(C:Addr)(us:.H)(a:.f6 R0):ff k .Mp :=
 ⟨r.hd,by have:=r.dp;rw[JU];lia,by have:=r.un;rw[JV];lia,by first|exact r.gd|(simp[Around.under,Code.isGuard,guardIds];exact r.gd)⟩
def ff.depth(r:ff k A):A.depth<recursionLimit:=by have:=r.dp;lia
def ff.units0(r:ff k A):.NJ:=.W5
/---/def ac6:TA:=λ_ H Q=>Q [] H
/---/def abr(ta:TE)(tr:TA):TA:=.vN<|.kJ tr λxs H2=>Q (x::xs) H2
section
variable{X:Cx}{e:Expr}{es:List Expr}{te:TE}{t:TA}{pos:Pos}
def eO:PA X [] ac6:=λ_ _ _ _ H Q I h=>Calls.spliced_nil ⟨[],H,I,.nil,h⟩
def cD(j:.dG te)(c:.Bz t)(m:autoParam (.rx) Q3Q._auto_1):.uL (abr te t):=by
 intro pos pins s σ H Q I h;rw[m];show .kQ (spliced<|.ef e::.tB (.bS es)) s;refine Calls.spliced_cons (.dw j λu n a=>?_);obtain⟨x,g,l,f,q1⟩:=a;exact thn (c pos pins n σ g _ l q1) λp o a=>by obtain⟨b,i,k,d,q2⟩:=a;exact⟨x::b,i,k,.bn f d,q2⟩
/---/def ac7(t:TA):TE:=.fb<|.aU t λxs H1=>.iV/\∀p,.BP p->.iU p (upd H1 p<|.E xs)
/---/def ac8(t:TA):TE:=.rI λxs H1=>.S xs.length/\.ao1 .wG
def Ey(h:.Bz t):.af (.Tuple es l pos) (ac7 t):=by
 intro pins s σ H Q I g;refine wpAny_Tuple_spliced .aiZ;obtain⟨j,c,d,r,z,q⟩:=k;rw[.fQ (.Qa z)];have f:.al4:=.hc d.hok.fresh;refine .abZ<|.E j;rw[.al z i r (.bh _ .ds _ rfl)]
def QK(h:.Bz t):.af (.List es pos) (ac8 t):=by
 intro pins s σ H Q I g;refine wpAny_List_spliced .aiZ;obtain⟨j,c,d,r,z,q⟩:=k;rw[.fQ (.Qa z)];have f:.al4:=.hc d.hok.fresh;refine .abZ<|.q j;exact⟨z,i,0,r,.ds⟩
end
noncomputable abbrev Sp:=.R->Hp->VK->.bF XK
noncomputable abbrev CXT:=.f9->Hp->R1->XK->.fB
structure JW(P:P6)(w:P7)(K:zCM)(mg:Str->Option R0)(base:Heap)(A:R3)(outer:List Env)(s:R1)(H:Hp):Prop where
 frames:A.frames=some outer
 mod:Mod K mg base
 bs:∀b o,base.get? b=some o->s.heap.get? b=some o/\H b=none
 bsz:base.objs.size<=s.heap.objs.size
 funs:s.heap.FunFrames base outer
 frf:∀b∈frs outer,H b=none
 hok:HOk P w H s.heap
 bare:AllBare s.gens
/---/def CE(outer:.f9)(P:P6)(w:P7)(H:Hp)(s:R1)(Q:VK)(u:R0)(s':R1):Prop :=
 ∃v H',.Vn<|.WL/\.ea/\Q v H'
/---/def CR(CX:CXT)(outer:.f9)(P:P6)(w:P7)(H:Hp)(s:R1)(Q:VK)(E:XK)(r:Result)(s':R1):Prop :=
 match r with
 |.ok (.ret u)=>CE outer P w H s Q u s'
 |.ok _=>False
 |.error e=>.YK e s'
structure cx(P:P6)(w:P7)(K:zCM)(mg:Str->Option R0)(base:Heap)(CX:CXT)(k:Nat)(f:Addr)(fd:FuncData)(ps:List Str)(sp:Sp):Prop where
 len:∀vs H Q E,sp vs H Q E->vs.length=ps.length
 run:∀(A:R3) (outer:List Env) (s:R1) (H:Hp) (args:Args) (us:List R0) (vs:List V) (Q:VK) (E:XK),ff k A->JW P w K mg base A outer s H->BindsTo s fd args (ps.zip us)->bS vs us->sp vs H Q E->
  codeAny (model P w) A (.call (.ref f) args) (CR CX outer P w H s Q E) s
def JW.make{K:zCM}(e:.Yn A)(C:Addr)(us:.H)(a:.f6 R0):
  .Yn .Mp:=⟨by first|exact e.frames|(simpa[Around.under,Code.envs,Code.isFrame,pushEnvs] using e.frames),e.mod,e.bs,e.bsz,e.funs,e.frf,e.hok,e.bare⟩
section
variable{X:Cx}{pins:List (Addr × Obj)}{σ:St}{H:Hp}{s s':R1}
def Inv.env0(I:.n):.jW JW X.A X.stack s H :=
 ⟨I.ok.frames,I.ok.mod,I.bs,zBL I.ok.bsz I.sz,I.stack,I.stkFree,I.hok,I.bare⟩
def Inv.after{Q:VK}(I:.n)(h:CE X.stack X.prog X.w H s Q u s'):.hm u s':=by
 obtain⟨v,c,e,bare,f,hok,r,q⟩:=h;obtain⟨i,g,d,t,a⟩:=s';obtain rfl:a=s.os:=e;exact⟨v,c,I.call (h':=i) (g':=g) (d':=d) (t':=t) (ch:=[]) f hok bare .Mr,r,q⟩
end
/---/def abt(sp:Sp)(dvs:.R)(E:XK)(t:TA):TE:=.rI λvs H1=>sp .ss H1 Q E
/---/def abu(C:Addr)(m:Str)(sp:Sp)(dvs:.R)(E:XK)(ta:TE)(t:TA):TE:=.vN<|∃a dx fs,x=.z/\H1 a=.a (.js fs)/\.AX m=none/\
 .kJ t λvs H2=>sp (x::.ss) H2 Q E
/---/def QL(C:Addr)(sp:Sp)(dvs:.R)(E:XK)(t:TA):TE:=.rI λvs H1=>∀x dx,.BP x->.BP dx->dx≠x->
 sp (.d x::.ss) (upd (.sI dx<|.own x) x<|.F4 dx) (λv H2=>v=.non/\.bi Q x H2) E
/---/def gD(K:zCM)(fd:FuncData)(ps:.dU)(ds:.H):Prop :=
 ∀(s:R1) (us:.H),.Ba->.Id us ds->BindsTo s fd (.dh us) (ps.zip .HC)
def gD.all{K:zCM}{b:FuncData}(h:∀us:.H,.TD b):.Gr b:=λs us _ a=>by
 rw[X1]at a⊢;exact .of_eq<|h us a
/---/def og(CX:CXT)(X:Cx)(E:XK):Prop:=∀(pins:.bc) (σ:St) (H:Hp) (s:R1) (e:R0) (s':R1),.n->CX X.stack H s E e s'->.p9 s'
section
variable{X:Cx}{CX:CXT}{k:Nat}{f C:Addr}{fd:FuncData}{ps:List Str}{sp:Sp}{dvs:List V}{ds:List R0}{E:XK}{x m:Str}{p pos apos:Pos}{e o:Expr}{es:List Expr}{ta:TE}{t:TA}
def JX{Q:VK}(F:.GM)(g:.hz k)(j:.oJ ds)(hd:.GE)(i:.GG)
  (I:.n) (r:.g1 vs) (h:sp .ss H Q E):.mX (.bi call f us) s:=by
 have b:bS .ss .HC:=.Bo hd;have d:.Id us ds:=.ay b.length<|.cd F.len h
 refine wpAny_call (zXm (F.run X.A X.stack s H (.dh us) .HC .ss Q E g I.env0 (j s us I.kIn d) b h) λr c a=>?_);cases r with
 |error e=>exact .a0 i σ H s e c I a
 |ok l =>
  cases l with
  |ret u=>exact I.after a
  |next=>rw[.fR a]
  |brk=>rw[.fR a]
  |cont=>rw[.fR a]
def zB(F:.GM)(c:.hz k)(u:.bo)(j:.j7 f)(d:.Cc X.K .l4=true)(n:.oJ ds)(hd:.GE)(l:.GG)
  (i:.uL t) (a:autoParam (.a5) Q1Q._auto_1) (he:autoParam (.rx) Q3Q._auto_1) (hpl:autoParam (.eN es) Q3Q._auto_1) :
  .Nq (abt sp dvs E t):=by
 intro pins s σ H Q I h;rw[.cN (zXi (pG I u j ?_ a)) (.CB d (.um i λw z g=>?_) he hpl)];obtain⟨y,v,b,r,q⟩:=g;rw[.fQ b.kIn];exact JX F c n hd l b r q
def Mn{pl:Sem Bool}(he:.af o ta)(c:.fA Cls)(i:.fA Vc m f)(F:.GM)(w:.hz k)(D:.oJ ds)(hd:.GE)(B:.GG)(A:.uL t)
  (d:autoParam (.rx) Q3Q._auto_1) (hpl:autoParam (.eN es) Q3Q._auto_1)
  (J:autoParam (.Yx es=(do
   let ov <-.cP o
   .aan
   let (f,first) <-.nj [ov] .Vh
   .SD es)) Q3Q._auto_1) :
  .af (.KJ<|e::es) (abu C m sp dvs E ta t):=by
 rw[.uA (PySem.W.methodCall_KW (pl:=pl) (.nU λu K g=>?_) J) .fr];obtain⟨x,z,n,G,a,O,L,y,v,l,q⟩:=g;refine b ?_;subst y;obtain rfl:.d8 a:=G;rw[.cN (JS n v c i l ?_) (zWc (first:=.iM) (h₀ := X.base) I.ok.mod.kin i.kp (thn (A pos pins K σ z _ n q) λus M g=>?_) d hpl)];rw[.j .fr];obtain⟨vs,N,j,r,q2⟩:=g;rw[.dq b (.c4 j.kIn)];exact JX (us:=.z::us) (vs:=.z::vs) F w D hd B j (.bn rfl r) q2
structure Mk(K:zCM)(C f:Addr):Prop where
 makes:PySem.W.makesIn K C=true
 init:PySem.W.findIn K (.ref C) "__init__"=some (some (.ref f))
 fn:PySem.W.isFn K (.ref f)=true
 kp:PySem.W.keepIn K (.ref C)=true
def QM{Q:VK}(M:.fA Mk f)(F:.GM)(l:.oI)(y:.oJ ds)(hd:.GE)
  (w:.GG) (I:.n) (r:.g1 vs)
  (h:∀x dx,.b9 x->.b9 dx->dx≠x->sp (.d x::.ss) (upd (.dP dx .CO) x<|.js []) (λv q=>v=.non/\.iU x q) E) :
  .mX (call .aJ us) s:=by
 have d:=h .cf s.heap.objs.size (.Gb<|zVc _) .qJ .z8;have b:=Inv.made (C:=C) I;have c:bS (V.ref .cf::.ss) (.sL::.HC):=.bn rfl<|.Bo hd;have i:.Id (.sL::us) ds:=by
  have e:=c.length;rw[.cd F.len d]at e;exact e.symm
 refine wpAny_call (.aic I.kIn (zXm (.Vw (.ee (s.heap.objs.size + 1) :: us) (.ee .B7 :: .HC) _ _ E (l.make C us [])
  (b.env0.make C us []) (y _ (.sL::us) b.kIn i) c d) λr n a=>?_))
 cases r with
 |error e=>exact .a0 w σ _ _ e n b a
 |ok z =>
  cases z with
  |ret u =>
   obtain⟨v,j,g,B,A,q3⟩:=b.after a;subst A;rw[.o B (.ch (V.ref .cf) j g q3)]
  |next=>rw[.fR a]
  |brk=>rw[.fR a]
  |cont=>rw[.fR a]
def Vd(M:.fA Mk f)(F:.GM)(c:.oI)(n:.bo)(i:.j7 C)(l:.oJ ds)(hd:.GE)(j:.GG)
  (g:.uL t) (a:autoParam (.a5) Q1Q._auto_1) (he:autoParam (.rx) Q3Q._auto_1) (hpl:autoParam (.eN es) Q3Q._auto_1) :
  .Nq (QL C sp dvs E t):=by
 intro pins s σ H Q I h;rw[.cN (zXi (pG I n i ?_ a)) (.CB M.kp (.um g λv y d=>?_) he hpl)];obtain⟨w,u,b,r,q⟩:=d;rw[.fQ b.kIn];exact QM M F c l hd j b r q
end
section
variable{X:Cx}{CX:CXT}{k:Nat}{f C:Addr}{fd:FuncData}{ps ks:List Str}{sp:Sp}{E:XK}{x m:Str}{p pos apos kpos:Pos}{e o:Expr}{es:List Expr}{kws:List Keyword}{te ta:TE}{t tk:TA}{nm:Option Str}
structure ac9(K:zCM)(fd:FuncData)(ps ks:List Str)(g:List R0->List R0->List R0)(gV:List V->List V->List V):Prop where
 to:∀(s:R1) (us ws:List R0),K.In s.heap->(g us ws).length=ps.length->BindsTo s fd ⟨us,ks.zip ws⟩ (ps.zip (g us ws))
 rel:∀{vs:List V} {us:List R0} {zs:List V} {ws:List R0},bS vs us->bS zs ws->bS (gV vs zs) (g us ws)
variable{g:List R0->List R0->List R0}{gV:List V->List V->List V}
end
structure bn(N P:List Str)(sc:Scope):Prop where
 kind:sc.kind=.function
 co:sc.isCoroutine=false
 gen:sc.isGenerator=false
 nd:N.Nodup
 pre:N.take P.length=P
 par:∀x∈P,sc.names.lookup x=some .local\/sc.names.lookup x=some .cell
 nofree:∀y∈sc.names,y.2 ≠ .free
theorem Di{b:.LM}{x:Str}:.aeh bindL
 |[],_,_=>rfl
 |(n,v)::r,m,h=>by
  unfold bindL;rw[Di λw c=>h w .w6];split
  ·have:x≠n:=.ajM
   simp[this]
  ·rfl
theorem Dj{b:.LM}{x:Str}:.aeh bindC
 |[],_,_=>rfl
 |(n,v)::r,m,h=>by
  unfold bindC;rw[Dj λw c=>h w .w6];split
  ·rfl
  ·have:x≠n:=.ajM
   simp[this]
theorem Dl{a:.LM}{x:Str}{v:R0}:.adF<|a x=.k3->
  bindL a (P.zip vs) m x=.aM
 |[],_,_,_,_,h,_,_=>.ei
 |_::_,[],_,_,_,_,h,_=>.ei
 |p::P,w::vs,0,m,nd,h1,b,c=>by
  simp at h1 b;subst h1;subst b;show .KY bindL p=_;unfold bindL;rw[Di .alj,z3 c];simp
 |p::P,w::vs,i+1,m,nd,h1,b,c=>by
  show .KY bindL x=_;unfold bindL;exact .jE Dl (.rT).2 .xY .tV c
theorem Dm{a:.LM}{x:Str}{v:R0}:.adF<|a x≠.k3->
  bindC a (P.zip vs) m x=.aM
 |[],_,_,_,_,h,_,_=>.ei
 |_::_,[],_,_,_,_,h,_=>.ei
 |p::P,w::vs,0,m,nd,h1,b,c=>by
  simp at h1 b;subst h1;subst b;show .KY bindC p=_;unfold bindC;rw[Dj .alj,yM c];simp
 |p::P,w::vs,i+1,m,nd,h1,b,c=>by
  show .KY bindC x=_;unfold bindC;exact .jE Dm (.rT).2 .xY .tV c
/---/def qK(N:.dU)(vs:.R):St:=vs.map some++.hp (N.length-vs.length)
def oO(CX:CXT)(P:P6)(w:P7)(K:zCM)(mg:.gD)(base:Heap)(N:.dU)(qual:Str)(scope:Scope)(f:Addr)(cd:R0)(A:R3)(outer:.f9)(s:R1)(H:Hp)(E:XK):Cx where
 prog:=P
 w:=w
 K:=K
 mg:=mg
 base:=base
 A:=.wf .Ff
 N:=N
 s₀ := s
 H₀ := H
 env:=.Ff
 outer:=outer
 stack:=.Ff::outer
 ex:=[]
 calm:=true
 fn:=.c3
 pn:=[]
 xe:=λe s'=>.tp (model P w) (.wf .Ff) (leaving .Ff e) (λ_ s''=>.YK e s'') (λe' s''=>.YK e' s'') s'
def GU{a:Scope}(h:.XG=.pr):∃c,(cellsFrom n a.names []).lookup x=.a8:=by
 have q:=PySem.W.cellsFrom_some a.names n [] .xb;exact .qj q
def Ox{CX:CXT}{K:zCM}{scope:Scope}{f:Addr}{D:R0}{outer:.f9}{s1:R1}{E:XK}{vs:.R}
  (S:bn N ps scope) (hd:.qZ) (j:.Yn A) (M:.KL vs.length) (r:.g1 vs)
  (x:InCallC s s.heap.objs.size (.ahJ bindL) .ajm (.ahJ bindC) s1) :
  Inv .aoN [] .Ht H s1:=by
 have I:ps.length<=N.length:=by rw[.hS (.uk S.pre) zZe];lia
 obtain⟨B,Q,rfl,G⟩:=x.done;have m:∀b:Addr,b∉(.aoN).ex:=λb z=>.Wf ([] : .am);refine⟨⟨j.mod,S.kind,rfl,rfl,zBK _,λy z c B g => ?_,λy l => ?_,λy c _ h => ?_,.de hd,Around.frames_deeper j.frames,.F .Bv,λb z=>.B z<|m b,j.bs,j.bsz,λb _ _=>m b,λb z=>.B z<|m b,j.funs,j.frf⟩,
  rfl,j.bare,Un.kept G,.bP x.toInCall.ns λi y v B g O=>?_,λy c h=>.cn<|x.cell y c h,.hc j.hok.fresh,λy c h=>?_,λp o=>.B (show p∈([]:.bc) from o) .f,j.hok.kept G,?_⟩
 ·exact name_of_addr x.apart (zWy B) (zWy g)
 ·have l:.qP y=.pr\/.qP y=.r9:=l
  rcases l with l|l
  ·exact GU l
  ·exact .bg (S.nofree _<|zWy l)
 ·exact .ak2
 ·have C:.rN:=by
   unfold qK at g
   by_cases C:.rN
   ·exact C
   ·rw[zAM (by simpa using C)]at g
    rw[List.getElem?_replicate]at g;split at g<;>cases g
  have J:.mR vs:=by
   unfold qK at g;rw[zAL (by simpa using C),zBP]at g;cases e:vs[i]? with
   |none=>rw[.pM e]
   |some a=>rw[.pM e];rfl
  obtain⟨u,F,L⟩:=r.get J;have o:ps[i]?=.gU:=by
   rw[<-S.pre,zUb .b];exact B
  have t:ps.Nodup:=.ay S.pre<|S.nd.sublist .am5
  rw[.eD u L];rcases S.par y (zAT o) with k|k
  ·rw[.iJ k (Dl t o F k)]
  ·obtain⟨c,e⟩:=GU (n:=.cf) k
   refine .F ⟨.G k,c,e,?_⟩;have q:=x.cell y c e;rw[.rF (Dm t o F (by show .qP y≠_;rw[.eV k])) q]
 ·exact j.hok.fresh .ak2
 ·unfold qK
  show _=N.length;rw[zAK,zST,zZx]
  lia
def Mo{K:zCM}{name a:Str}{d:Arguments}{body:.el}{scope:Scope}{M kV m pm c ct oc:R0}{L od:.cx}
  {G:.jb} {N ps:.dU} {sp:Sp} (lk:.dj f=.mg oc od (.func .afo) G) (z:.mN c a=true) (S:bn N ps scope)
  (len:.agF)
  (i:∀(A:R3) (outer:.f9) (s:R1) (H:Hp) (vs:.R) (Q:VK) (E:XK),ff k (.wf<|.Cf a c)->sp vs H Q E->
   ∃t,PSs .St body t/\t { nx:=λ_ g=>Q .non g,rt:=Q } .Ht H) :
  .Jb CX (k+1) f .afo ps sp:=by
 rw[.bN len λA outer s H O us vs Q E D l U r p=>?_];have Z:=.cd len p;have KX:.Ba:=l.mod.kin.keeps .anI;have F:s.heap.NoLimit:=l.mod.nolimit.keeps .anI;have h:∀y∈ps.zip us,.Y8\/(.qP (y.1)=.pr/\.oT ((.ajm).lookup y.1)):=λ⟨n,v⟩ T=>by
  rcases S.par n (zUe T).1 with q|q
  ·rw[.O q]
  ·rw[.P ⟨q,.aC PySem.W.cellsFrom_some<|.G q⟩]
 rw[.cN (codeAny_call_function D.depth (KX _ _ lk) rfl S.co S.gen rfl (PySem.W.codeRec_of KX z) (.cd U ?_)) (wpAny_newFunctionEnv_cells S.kind h λenv Y R x=>?_)];subst Y;refine⟨F.keeps x.toInCall.keep,codeAny_func ?_⟩;obtain⟨t,W,hq⟩:=i A outer s H vs Q E (D.deeper _) p;have I:Inv .St [] .Ht H R:=Ox S D.hd l Z r x;refine zZd (W [] R .Ht H _ I hq) (λX B j=>?_) λe B j=>j;have fin:∀{σ':St} {g:Hp} {v:V} {u:R0},Inv .St [] σ' g B->.ea->Q v g->CE outer P w H s Q u B :=
  λ{σ' g v u} J C q=>⟨v,g,J.os,J.bare,J.base,J.hok,C,q⟩
 cases X with
 |ret u =>
  obtain⟨v,σ',g,J,C,q⟩:=j;exact fin J C q
 |next =>
  obtain⟨σ',g,J,q⟩:=j;exact fin (v:=V.non) (u:=Value.none) J rfl q
 |brk =>
  obtain⟨_,_,_,q⟩:=j;rw[.fR q]
 |cont =>
  obtain⟨_,_,_,q⟩:=j;rw[.fR q]
section
variable{X:Cx}{x:Str}{p pos:Pos}{e:Expr}{es:List Expr}{t:TA}{id T:String}{r:List V->Hp->VK->Prop}
/---/def tCB(r:.oU)(t:TA):TE:=.rI λvs H1=>r vs H1 Q
def oP(l:.ln id r)(n:.bo)(k:.bX x)(b:.qV .GP)(i:.uL t)(j:autoParam (.oF) Q1Q._auto_1)(a:autoParam (.a5) Q1Q._auto_1)
  (he:autoParam (.rx) Q3Q._auto_1) (hpl:autoParam (.eN es) Q3Q._auto_1):.Nq (tCB r t):=by
 rw[.o5 .al6];exact .ahr<|.um i .abD
def wK(l:.vl T r)(n:.bo)(k:.bX x)(b:.qV<|.bQ T)(i:.uL t)(j:autoParam (.oF) Q1Q._auto_1)(a:autoParam (.a5) Q1Q._auto_1)
  (he:autoParam (.rx) Q3Q._auto_1) (hpl:autoParam (.eN es) Q3Q._auto_1):.Nq (tCB r t):=by
 rw[.o5 .al6];exact zYg (.um i .abD) he hpl
end
end L2
namespace HT
open PySem PyProof.Rows
noncomputable def lexLt:.l->.cH .l
 |[],[]=>false
 |[],_::_=>true
 |_::_,[]=>false
 |x::xs,y::ys=>.Te
def JY(x y:Int)(xs ys:.l):.cp (x::xs) (y::ys)=.Te:=rfl
def Ci:.cp [] []=false:=rfl
def Af(y:Int)(ys:.l):.cp [] (y::ys)=true:=rfl
def Ag(x:Int)(xs:.l):.cp (x::xs) []=false:=rfl
def QN(A:R3)(s:R1)(a:Int)(t:Tok)(c:Int)(u:Tok):∃e,.El (.e a t) (.e c u) e/\(.av e↔a=c) :=
 ⟨(a == c),zUh a t c u,.f⟩
def QO(A:R3)(s:R1)(a:Int)(t:Tok)(c:Int)(u:Tok)(prog:P6)(w:P7)(E:.fB)(Q:.fB)(h:Q (.g0<|.iO a c) s):
  .akh richCompare :=
 (PyProof.Rows.lt_int h:.akh compareOp)
section
open PySem.SeqAt
open PySem.AutoSeq1 (wpAny_loadPart')
open PySem.MeetsSeq PySem.MeetsSeq2 PySem.MeetsSeq3
def Cj(l b:Addr)(i f:.i1)(n V:Nat)(dd L:.cx)(W J:.jb)(ns E:.l)(hi:.qg i.toList)(N:.pb f.toList E):
  Meets (Builtin.«tuple.__lt__»<|.dh [.hK,.hL])
   (λ_ R s=>.H2 { cls:=.lh,dict:=dd,data:=.fL i n,slots:=W }/\.td=.a { cls:=.lh,dict:=L,data:=.fL f V,slots:=J }/\
    .rd (.g0<|.cp ns E) s) :=
 .Mw (by
  obtain⟨F,g,d,D,C⟩:=s;obtain⟨U,S,h⟩:=h;have Z:=AutoSeq1.sub_tuple_tuple;have z1:i.size=ns.length:=.iW hi.length
  have X:f.size=E.length:=.iW N.length
  wp_walk using zYm U,zYm S,wpAny_forIn_list _ (λrest b I=>b.1=none/\I=.Ma/\∃(G H:.H) (m k:.l),rest=G.zip H/\
   .pb G m/\.pb H k/\m.length+f.size=k.length+i.size/\.rd (.g0<|.cp m k) .Ma) _
  case turn =>
   rintro⟨y,x⟩ rest b I ⟨B,rfl,G,H,m,k,o,z,p,j,v⟩;cases z with
   |nil=>rw[List.zip_nil_left]at o;cases o
   |cons a t hvi' =>
    cases p with
    |nil=>rw[List.zip_nil_right]at o;cases o
    |cons c u hwi' =>
     rw[zZh]at o;injection o with hyx hrest
     injection hyx with P Q
     subst P Q;rw[JY]at v;dsimp[xR]at j;obtain⟨e,T,r⟩:=QN A.in1 .Ma a t c u;refine zF (T prog w _ _ ?_);cases e with
     |true =>
      rw[z3<|r.mp rfl]at v
      wp_walk
      exact⟨rfl,rfl,_,_,_,_,hrest,hvi',hwi',.b,v⟩
     |false =>
      rw[yM λq=>.B (r.mpr q) UG]at v;have K:=QO A.in1 .Ma a t c u prog w
      wp_walk using K
      exact .dz (by simpa using v)
  case fin =>
   rintro⟨b1,Y⟩ I ⟨B,rfl,G,H,m,k,o,z,p,j,v⟩;simp only at B;subst B;have M:.cp m k=.iO i.size f.size:=by
    cases z with
    |nil =>
     cases p with
     |nil =>
      dsimp[wb]at j;rw[Ci];exact(.nW).symm
     |cons c u O =>
      dsimp[wb,xR]at j;rw[Af];exact(y3 .b).symm
    |cons a t M =>
     cases p with
     |nil =>
      dsimp[wb,xR]at j;rw[Ag];exact(.nW).symm
     |cons c u O =>
      rw[zZh]at o;cases o
   rw[M]at v
   wp_walk
   exact .dz (by simpa[Builtin.Tuple.tupleCompareSizes] using v)
  case h =>
   exact⟨rfl,rfl,i.toList,f.toList,ns,E,rfl,hi,N,.b,h⟩)
end
section
variable{prog:P6}{w:P7}{A:R3}{E:R0->R1->Prop}{s:R1}
def lt_tupInts(r:.vp l c)(z:.vp b a)(hi:.qg c.toList)(C:.pb a.toList e)
  (v:.NJ) (h:Q (.g0<|.cp ns e) s):.d6 (compareOp .Lt .hK .hL):=by
 rw[.te];obtain⟨⟨cls,B,data,u⟩,m,o,n,q⟩:=id r;obtain⟨⟨p,k,j,i⟩,f,d,t,g⟩:=id z;refine y ?_;simp only at o q d g;subst o q d g;exact richCompare_meets_room (op:=.Lt) (.dk m) (.dk f) PySem.F.slot_tuple_lt PySem.F.entry_tuple_lt (PySem.F.args_tuple_lt_2 _ _) (Cj l b c a n t B k u i ns e hi C)
  ⟨m,f,show .HT (.cp ns e)≠Value.notImplemented/\Q (.g0<|.cp ns e) s from ⟨(λx=>nomatch x),h⟩⟩ v
def cat_tup(z:.vp t vs.toArray)(y:.vp b a.toArray)(o:vs≠[])
  (h1:a=[]->.iU t s) (x:a≠[]->.ajv (vs++a))
  (hsz:.S<|vs.length+a.length):.d6 (binaryOp .Add .w8 .hL):=by
 rw[.j λ_ v=>?_];obtain⟨⟨cls,q,data,m⟩,j,p,n,u⟩:=id z;obtain⟨⟨r,h,k,f⟩,c,d,l,g⟩:=id y;refine v ?_;simp only at p u d g;subst p u d g;have e:vs.toArray++a.toArray=.eZ (vs++a):=.f
 by_cases i:a=[]
 ·exact .abW
   (.ad7 tuple_addW1<|.k i) ⟨j,c,h1 i⟩
 ·refine .abW
   (.ad7 tuple_addW2 .Xw (by rw[UC,UC];exact hsz)) ⟨j,c,?_⟩
  rw[e];exact x i
noncomputable def sIx(n d:Nat):.X->Nat
 |none=>d
 |some v=>.R8
def YF(n d:Nat)(hd:d<=n)(o:.X):sIx n d o<=n:=by
 cases o with
 |none=>exact hd
 |some v =>
  show .R8<=n
  by_cases a:v<0
  ·rw[z3 a];lia
  ·rw[yM a];exact Nat.min_le_right _ _
def tmx(v:Int)(n:Nat)(h:¬v<0):min v .ek=.aD (min v.toNat n):=by
 obtain⟨k,rfl⟩:=zWz<|zUi.mp h;rw[zYc];rcases .OQ k n with z|z
 ·rw[.Nd z];exact zXd (.lR z)
 ·rw[.WM];exact zVq (.lR z)
def Ez(v:Int)(n d:Nat):.afr (sIx n d .aM):=by
 show .afr .R8
 by_cases a:v<0
 ·rw[z3 a,z3 a];exact(Int.ofNat_toNat _).symm
 ·rw[yM a,yM a];exact tmx v n a
def clip_eq2(v:Int)(n d:Nat):.Ee (.fx v 0 (v+.bp) v)=.aD (sIx n d .aM):=by
 rw[<-Ez v n d]
 by_cases a:v<0
 ·rw[z3 a,z3 a,zXd<|Int.add_le_of_le_sub_right (by rw[Int.sub_self];exact zVr a),Int.max_comm]
 ·rw[yM a,yM a,.Xs<|.aaA ⟨zUi.mp a,zZq _⟩]
def JZ(lo hi:.X)(n:Nat):.ah2 .ek=(.aD .FE,.aD<|sIx n n hi):=by
 have a:¬(.gk<0):=.b
 unfold Builtin.Slice.sliceAdjust;dsimp[a,zWd];refine .Cd Prod.ext
 ·cases lo with
  |none=>rfl
  |some v=>exact Ez v n 0
 ·cases hi with
  |none=>rfl
  |some v=>exact Ez v n n
def J0(i j:Nat):.Ui (i:Int) .BD 1=j-i:=by
 unfold Builtin.Slice.slicePlaces;have a:.gk>0:=.b
 dsimp[a,zYh,Int.ediv_one];split<;>lia
def Ah(p:.n3 v o)(h:Q o s):.d6 (Builtin.Slice.slicePartIndex v):=by
 cases p with
 |none=>exact slicePart_none h
 |int i t=>exact slicePart_int h
def oQ{lo hi:.X}{Q:.eK (Int × Int × Nat)}(i:.Me e c d .none)(pl:.n3 c lo)(g:.n3 d hi)
  (h:Q (.aD .FE,1,sIx n n hi-.FE) s):.d6 (.bi Builtin.Slice.sliceApplied e<|pure (n:Int)):=by
 obtain⟨j,a,f,b⟩:=id i;unfold Builtin.Slice.sliceApplied Builtin.Slice.sliceFields;rw[.e9 (zF (.Yl c (zF (.Yl d (zF (.Yl .none (xU ?_))))))) (.gx slicePart_none)];show .XW<|.gk == 0;rw[yM .c];refine zF<|Ah pl<|zF<|Ah g .wJ;show .kQ (match .ah2 (n:Int) with|(lo,hi)=>pure (lo,.gk,.Ui lo hi 1)) s;rw[JZ lo hi n];show .kQ (pure (.aD .FE,.gk,.Ui (.mv .FE) (.mv<|sIx n n hi) 1)) s;rw[J0];exact xU h
def QP(xs:.i1)(i k:Nat):.eZ ((.fS k).filterMap .agH)=.eZ (.jC xs.toList.drop i k):=by
 have e:.agH=λm=>xs[i+m]? := by
  funext m;have:.gW (.M i+.M m*1)=i+m:=.b
  rw[.a9]
 rw[e];rw[.hS (pick_run xs i k) List.filterMap_map];have a:((λx=>xs[x]?) ∘ λx=>i+x)=λm=>xs[i+m]? := rfl;rw[a]at this;rw[.a9]
def getItem_tuple_cut{lo hi:.X}(c:.vp t a)(k:.Me d j l .none)(pl:.n3 j lo)(r:.n3 l hi)
  (o:¬(.z7=0/\.yd=a.size))
  (h:.ajv<|.jC a.toList.drop .x2<|.HX a.size hi-.x2)
  (hsz:.S a.size):.d6 (.bi getItem t<|.d d):=by
 have b:sizeOk (.fL<|.eZ .anY):=by
  show .S<|(.anY).toArray.size;rw[UC,zZe,zXj,Array.length_toList];exact .j9 Nat.min_le_right<|.j9 Nat.sub_le hsz
 have u:.yd<=a.size:=YF _ _ (zBK _) hi;obtain⟨n,g,i,p⟩:=id k;have e:.Oy d "slice" := ⟨n,g,i⟩;unfold getItem
 try with_reducible refine .wT
 first|refine .wJ|skip
 rw[.e9 .anv (zF<|.aeX
  .abH)]
 show .agy;rw[.e9 .anL (zF (wpAny_typeOf e ?_))];rw[z3 .c];refine zF (oQ k pl r ?_);have f:¬.acP:=by
  intro q;rw[UE,UE]at q;have q1:.aD .x2=0:=.v1<|q.1.1;have q2:.yd-.z7=a.size:=.v1<|q.2;exact o ⟨Int.natCast_eq_zero.mp q1,Nat.le_antisymm u<|zBL (zYw q2.symm) .Lf⟩
 show .acI;rw[yM f,QP]
 first
  |exact .IH .t9
  |exact .IH<|zF<|xU .t9
  |exact zF<|.IH<|xU .t9
  |exact zF (.IH .t9)
end
end HT
namespace L2
open PySem PySem.Spec PyProof.Rows
noncomputable abbrev TO:=St->.rm .X
/---/def PO(X:Cx)(e:.Hc)(t:TO):Prop :=
 .apo .bc .X<|.n->.BB->
  .fW (evalPart e X.env) (λu s'=>∃o H',.sR s'/\.n3 u o/\Q o H') X.xe s
/---/def Ve:TO:=λ_ H Q=>Q none H
/---/def abv(t:TE):TO:=.rI λx H1=>∃i,x=.aG/\Q .fH H1
def tW:∀{us:.H},.g1 .lg->.qg us:=by
 induction ns with
 |nil=>intro us r;rw[zZu]at r;cases r;exact .nil
 |cons n ns b =>
  intro us r;rw[xI]at r;cases r with
  |cons c a =>
   obtain⟨t,e⟩:=c;rw[.d3 (.bn n t<|b a)]
section
variable{X:Cx}{e:Expr}{te:TE}{lo hi:Option Expr}{tl th:TO}{pos p2:Pos}
def Vf:PO X none Ve:=by
 intro pins s σ H Q I h;rw[evalPart_none];exact xU ⟨none,H,I,.none,h⟩
def Vg(h:.dG te):PO X (.a e) (abv te):=by
 intro pins s σ H Q I c;rw[evalPart_some];refine thn (.kS _ I c) λu g d=>?_;obtain⟨x,a,b,f,q1⟩:=d;obtain⟨i,rfl,q⟩:=q1;obtain⟨t,rfl⟩:=f;exact⟨.fH,a,b,.aG t,q⟩
/---/def SlR(X:Cx)(r:.ul):Prop :=
 ∀(pins:.bc) (s:R1) (σ:St) (H:Hp) (x:V) (v vl vu:R0) (lo hi:.X) (sl:Addr) (Q:VK),.n->.qd->.Me sl vl vu .none->.n3 vl lo->.n3 vu hi->r x lo hi H Q->
  ∃T id,.ad4/\s.TypeIs v T/\.mX (getItem v<|.d sl) s
def SlR.or(h:SlR X r)(h':SlR X a):SlR X (.FP<|r x lo hi H Q\/a x lo hi H Q):=by
 intro pins s σ H x v f j lo hi b Q I d i c g q;rcases q with q|q
 ·exact .kS x v f j lo hi b Q I d i c g q
 ·exact .hX h' x v f j lo hi b Q I d i c g q
/---/def tSl(r:.ul)(te:TE)(tl th:TO):TE:=.fb<|.aU te λx H1=>.kJ tl λl H2=>th σ H2 λu H3=>r x l u H3 Q
def uT(m:SlR X r)(he:.dG te)(k:PO X lo tl)(o:PO X hi th):.af (.no e (.ys p2) pos) (tSl r te tl th):=by
 rw[.uA (Subscript_ (.nU λv G d=>?_)) .go];obtain⟨x,w,F,t,q1⟩:=d;rw[.ht c (wpAny_Slice (thn (.a0 k G σ w _ F q1) λf p d=>?_)) .go];obtain⟨l,z,B,n,q2⟩:=d;rw[.ht c (thn (.a0 o p σ z _ B q2) λg a d=>?_) .go];obtain⟨u,i,j,D,q3⟩:=d;refine c ?_;rw[evalPart_none];refine xU ?_;have A:.aP i .RW:=j.kept (t':=a.toks) λb J q=>.qw;rw[.nJ];obtain⟨T,id,y,C,E⟩:=.a0 m .RW σ i x v f g l u a.heap.objs.size Q A t (Heap.IsSliceOf.new ..) n D q3;refine c ?_;show .mX (subscriptTail e (.ys p2) v .U6) .RW;exact tail_any (ops:=[.U6,v]) C y E (by with_unfolding_all rfl)
/---/def wL(xs:.R)(lo hi:.X):.R:=.jC xs.drop (.Fw 0 lo)<|.Fw xs.length hi-.Fw 0 lo
def yn(xs:.R)(lo hi:.X):.s (.BQ xs)<=xs.length:=by
 unfold wL;rw[zZe,zXj];exact .j9 Nat.min_le_right .Lf
/---/def ada(K:zCM):.ul:=.FP<|.uM<|.tM SqT/\
 ¬.QV/\.q9 (.E<|.BQ xs)
def QR:SlR X (ada X.K):=by
 intro pins s σ H x v w y lo hi t Q I l p j n h;obtain⟨a,d,rfl,m,k,q⟩:=h;cases l;obtain⟨f,r,i,g⟩:=.dm m;have c:f.toArray.size=d.length:=.p UC r.length.symm
 refine .adN i.typeIs;refine HT.getItem_tuple_cut i p j n (.p c k) ?_<|.p c g;rw[c];refine .aer<|.E<|.BQ d;exact⟨zBL (yn d lo hi) g,_,.jC r.drop (.ks d.length 0 lo)<|.ks d.length d.length hi-.ks d.length 0 lo,.Zk⟩
/---/def abw(K:zCM):R2:=.dJ<|∃a b ns ms,x=.z/\y=.hL/\.BA a (ns.map V.int)/\.BA b (ms.map V.int)/\.jF (HT.lexLt ns ms)
def YG(j:X.A.units<cLine):.gs .Lt (abw X.K):=by
 intro pins s σ H x y v u Q I p l h;obtain⟨a,b,g,f,rfl,rfl,o,r,q⟩:=h;cases p;cases l;obtain⟨d,n,t,_⟩:=.dm o;obtain⟨c,k,p2,_⟩:=.dm r;have m:.pb d.toArray.toList g:=tW n;have i:.pb c.toArray.toList f:=tW k;exact HT.lt_tupInts t p2 m i j<|.xK<|HT.lexLt g f
/---/def GV(K:zCM):R2:=.dJ<|∃a b xs ys,x=.z/\y=.hL/\.vU/\.BA b ys/\xs≠[]/\.S .Vf/\
 (ys=[]->Q .z H)/\(ys≠[]->.q9 (.E<|xs++ys))
def bS.nil_iff(r:.ka):us=[]↔xs=[]:=by
 cases r with
 |nil=>simp
 |cons _ _=>simp
def Mp:.vT (GV X.K):=by
 intro pins s σ H x y v u Q I n k h;obtain⟨a,b,i,m,rfl,rfl,l,p,r,g,q1,q2⟩:=h;cases n;cases k;obtain⟨j,d,t,_⟩:=.dm l;obtain⟨f,c,p2,_⟩:=.dm p;refine HT.cat_tup t p2 (λz=>r<|d.nil_iff.mp z) (λz=>.ch .z H I<|q1<|c.nil_iff.mp z) .gz (by rw[.jJ d.length c.length g]);refine⟨.jQ,_,.Pt (o:=.E<|i++m) (λb A q=>.qw) (zBK _) ?_,rfl,q2 (λw=>z<|c.nil_iff.mpr w) _ .qJ⟩;exact⟨.p zAK g,_,d.append c,.Zk⟩
end
/---/def ixN(n:Nat)(i:Int):.lQ:=.abp
/---/def atI{α:Type}(xs:.bY)(i:Int):.as α := .alA
def Mq(h:ixN n i=.e6):seqIndex? i n=.e6/\j<n/\-.bp<=i/\i<n:=by
 unfold ixN at h
 by_cases b:0<=i
 ·rw[z3 b]at h
  by_cases a:i<n
  ·rw[z3 a]at h
   have e:i.toNat=j:=zBS h;rw[.al (.L (seqIndex_of b a) e) .b .b a]
  ·rw[.hv (yM a)]
 ·rw[yM b]at h
  by_cases a : -.bp<=i
  ·rw[z3 a]at h
   have e:.gW (i+n)=j:=zBS h;rw[.al (.L (.XC a) e) .b a .b]
  ·rw[.hv (yM a)]
def EA(h:atI xs i=.aM):∃j,seqIndex? i xs.length=.e6/\xs[j]?=.aM/\j<xs.length/\-.M xs.length<=i/\i<xs.length:=by
 unfold atI at h;cases e:.LB i with
 |none=>rw[.hv e]
 |some j =>
  rw[e]at h;obtain⟨b,d,c,a⟩:=Mq e;exact⟨j,b,h,d,c,a⟩
def dW{α:Type}{xs:.bY}{j:Nat}{v:α}(h:xs[j]?=.aM):atI xs .BD=.aM:=by
 have a:j<xs.length:=.aw h;have e:.LB .BD=.e6:=by
  unfold ixN;rw[.kM,.kM];simp
 unfold atI;rw[.ap e h]
def Ai{α:Type}(xs:.bY)(v:α):atI (xs++[v]) (-1)=.aM:=by
 have a:.gT xs [v]=xs.length+1:=.f
 have e:ixN (.gT xs [v]) (-1)=.a xs.length:=by
  unfold ixN;rw[a,yM .c,.kM];congr 1
  lia
 unfold atI;rw[e];show (xs++[v])[xs.length]?=.aM;simp
/---/def uU(b:Expr):Prop:=∀o i,.LR b o i=operate [o,i] (getItem o i)
/---/def IxR(X:Cx)(r:R2):Prop :=
 ∀(value slice:Expr) (pins:.bc) (s:R1) (σ:St) (H:Hp) (x y:V) (v u:R0) (Q:VK),.n->.qd->.iL->.Gz r->
  .LR slice v u=operate [v,u] (getItem v u)->.mX (subscriptTail value slice v u) s
/---/def MtR(X:Cx)(id:String)(r:.sU):Prop :=
 .acF<|r x xs H Q->
  .aoL
section
variable{X:Cx}{a b:Expr}{ta tb:TE}{pos:Pos}
def IxR.or(h:IxR X r)(h':IxR X d):IxR X .aoY:=by
 intro value c pins s σ H x y v u Q I e f q g;rcases q with q|q
 ·exact .ahu h
 ·exact .ahu h'
def Mr(e:IxR X r)(d:.lO)(g:.pX b)(l:uU b):.W3 (.no a b pos):=by
 rw[.DM (Subscript_<|YA d g I h λv u k x y c i f j q=>e a b pins k σ c x y v u Q i f j q<|l _ _)]
/---/def abx(K:zCM):R2:=.adx SqL
/---/def aby(K:zCM):R2:=.adx SqT
/---/def abz:R2:=.dJ<|∃z i c,x=.h z/\y=.aG/\.S z.length/\atI z.cps.toList i=.a8/\.nD .fD
def EB:IxR X (abx X.K):=by
 intro value k pins s σ H x y v u Q I G C h o;rw[.j .oM];obtain⟨p,L,i,z,rfl,rfl,F,A,q⟩:=h;refine e ?_;cases G;rw[.j .oM];obtain⟨t,rfl⟩:=C;obtain⟨f,r,d,M⟩:=.e3 F;obtain⟨j,c,J,O,E,K⟩:=EA A;obtain⟨w,m,g⟩:=r.get J;refine e ?_;have B:=r.length;have N:=wI;have fin:.hm w s:=⟨z,H,I,g,q⟩
 by_cases n:0<=i
 ·have l:i.toNat=j:=by
   rw[seqIndex_of n K]at c;exact zBS c
  exact item_listR d.isList n .b .amR fin o
 ·have l:.gW (i+.M f.toArray.size)=j:=by
   rw[.XC E]at c;rw[UC,<-B];exact zBS c
  exact .aiY d.isList.typeIs slot_list_getitem.lookup
   (wpAny_getItem_list_neg (Q:=λr D=>r=w/\.hm r D) d.isList .b (by rw[UC]<;>lia) .b .amR<|.co fin) o
def YH:IxR X (aby X.K):=by
 intro value d pins s σ H x y v u Q I B n h D;obtain⟨p,E,i,z,rfl,rfl,A,f,q⟩:=h;cases B;obtain⟨t,rfl⟩:=n;obtain⟨m,r,e,G⟩:=.dm A;obtain⟨j,g,C,K,F,L⟩:=EA f;obtain⟨w,l,c⟩:=r.get C;have k:=r.length;have J:=wI;have fin:.hm w s:=⟨z,H,I,c,q⟩;exact .aiY e.typeIs slot_tuple_getitem.lookup
  (getItem_tuple (j:=j) (Q:=λr o=>r=w/\.hm r o) e .b .b (.n8 UC k g) .XP<|.co fin) D
def QS:IxR X abz:=by
 intro value d pins s σ H x y v u Q I o k h w;obtain⟨z,i,c,rfl,rfl,A,f,q⟩:=h;obtain⟨t,rfl⟩:=o;obtain⟨C,rfl⟩:=k;obtain⟨j,e,p,D,m,r⟩:=EA f;have g:z.cps.toList.length=z.length:=.k Str.length
 rw[g]at e m r;have B:=wI;exact tail_any (zVd s z t) slot_str_getitem.lookup (getItem_str (c:=c) (by
  have n:.F3 (i < -(2^63:Int)):=.nW;have l:.F3 (i≥2^63):=.nW;rw[n,l,Bool.or_false]) (by rw[e];simpa using p) ⟨.h .fD,H,.pv,.K,q⟩) w
/---/def rIx(K:zCM):R2:=.dJ<|abx K x y H Q\/aby K x y H Q\/.Gz abz
def YI:IxR X (rIx X.K):=EB.or<|YH.or QS
def J1(c:.H)(n j:Nat)(u:R0):.aoj .JH = .HN (.eZ<|c.set j u):=by
 simp[Obj.mapSeq]
def Inv.lst{σ:St}(I:.n)(h:.pw p):
  ∃(c:.H) (n:Nat),bS xs c/\.iQ p=.a .JH/\.iV:=by
 obtain⟨z,c,n,r,e⟩:=.iD p h;exact⟨c,n,r,e,z⟩
def Inv.lstUpd{σ:St}{c its':.H}{f:Obj->Obj}(I:.n)(h:.pw p)
  (k:.iQ p=.a .JH) (g:f .JH = .aow) (r:bS ys its') (i:.ET) (t:Nat) :
  .aP (.HW ys) { s with heap:=.Fy p f,toks:=t }:=by
 have e:.eY (.Fy p f) p=.a .aow:=by
  rw[zWk f k (by rw[g]<;>rfl),g]
 refine .OK p (e:=p) (by rw[h];trivial) .b5 (λb u j q=>.i (zVe _ _<|zZs j) q) .jL ?_;exact⟨i,its',d,r,e⟩
/---/def abA:.UZ:=λo i v H Q=>∃p xs k j,o=.d p/\i=.e k/\.pw p/\.LB k=.e6/\Q (.HW<|xs.set j v)
def QT:Yx X abA:=by
 intro pins s σ H o i v ov K u Q I C E D h;rw[.j .dR];obtain⟨p,A,k,j,rfl,rfl,w,F,q⟩:=h;refine f ?_;cases C;rw[.j .dR];obtain⟨t,rfl⟩:=E;obtain⟨c,n,r,g,B⟩:=I.lst w;obtain⟨d,J,z,m⟩:=Mq F;refine f ?_;have e:=r.length;have G:=wI;have x:.aP (.HW<|A.set j v) (.rv<|.Fy p .aoj) :=
  I.lstUpd w g (J1 c n j u) (r.set D j) (.p zZn B) s.toks
 by_cases y:0<=k
 ·have l:k.toNat=j:=by
   rw[.od (seqIndex_of y m) (zBS d)]
  exact PySem.W.ki_setAt g y .b (.n8 UC e m) .am3
 ·have l:.gW (k+.M c.toArray.size)=j:=by
   rw[.XC z]at d;rw[UC,<-e];exact zBS d
  exact PySem.W.ki_setBack g .b (.n8 UC e z) .b .am3
def EC(lo hi:.X)(n:Nat):(.T9).1=.aD (.ks n 0 lo)/\(.T9).2.1=.aD (.ks n n hi)/\(.T9).2.2=1:=by
 refine .gi ?_ rfl
 ·cases lo with
  |none=>rfl
  |some i=>exact HT.clip_eq2 i n 0
 ·cases hi with
  |none=>rfl
  |some i=>exact HT.clip_eq2 i n n
def Ck(c:.H)(lo hi:.X):slicePick c.toArray lo hi none=.eZ (.jC c.drop (.Yb 0 lo)<|.Yb c.length hi-.Yb 0 lo):=by
 obtain⟨d,f,e⟩:=EC lo hi c.toArray.size;unfold slicePick;rw[d,f,e];dsimp[sliceRange_one,pick_run,UC]<;>rfl
/---/def abB(K:zCM):.ul:=.FP<|.uM<|.tM SqL/\.q9 (.q<|.BQ xs)
def Vh:SlR X (abB X.K):=by
 intro pins s σ H x v w y e f t Q I l p i n h;obtain⟨a,c,rfl,m,q⟩:=h;cases l;obtain⟨j,r,g,k⟩:=.e3 m;have d:=r.length;refine .g4 "list" _ slot_list_getitem.lookup g.isList.typeIs;refine wpAny_getItem_list_slice g.isList p i n .none .f ?_ (by rw[UC]<;>lia);rw[Ck,<-d];refine .aer<|.q<|wL c e f;exact⟨zBL (yn c e f) k,_,0,.jC r.drop (.ks c.length 0 e)<|.ks c.length c.length f-.ks c.length 0 e,.ds⟩
noncomputable def tI:.cH V
 |.non=>true
 |.bl _=>true
 |.int _=>true
 |.str _=>true
 |_=>false
noncomputable def eqV:V->.cH V
 |.non,.non=>true
 |.bl a,.bl b=>.wK
 |.bl a,.int b=>(.tQ a) == b
 |.int a,.bl b=>a == (.tQ b)
 |.int a,.int b=>.wK
 |.str a,.str b=>.wK
 |_,_=>false
def YJ(e:.iL)(c:.qd)(g:tI y=true)(f:tI x=true):.El u v (eqV y x):=by
 cases y with
 |non =>
  cases e;cases x with
  |non=>rw[.qu .Xa]
  |bl b=>rw[.qu (SeqAt.EqAt.none_bool b)]
  |int b=>rw[.rH (SeqAt.EqAt.none_int b t)]
  |str b=>rw[.rH (SeqAt.EqAt.none_str b t)]
  |_=>exact .C9
 |bl a =>
  cases e;cases x with
  |non=>rw[.qu (SeqAt.EqAt.bool_none a)]
  |bl b=>rw[.qu (SeqAt.EqAt.bool_bool a b)]
  |int b=>rw[.rH (SeqAt.EqAt.bool_int a b t)]
  |str b=>rw[.rH (SeqAt.EqAt.bool_str a b t)]
  |_=>exact .C9
 |int a =>
  obtain⟨d,rfl⟩:=e;cases x with
  |non=>rw[.qu (SeqAt.EqAt.int_none a d)]
  |bl b=>rw[.qu (SeqAt.EqAt.int_bool a d b)]
  |int b=>rw[.rH (zUh a d b t)]
  |str b=>rw[.rH (SeqAt.EqAt.int_str a d b t)]
  |_=>exact .C9
 |str a =>
  obtain⟨d,rfl⟩:=e;cases x with
  |non=>rw[.qu (SeqAt.EqAt.str_none a d)]
  |bl b=>rw[.qu (SeqAt.EqAt.str_bool a d b)]
  |int b=>rw[.rH (SeqAt.EqAt.str_int a d b t)]
  |str b=>rw[.rH (SeqAt.EqAt.str_str a d b t)]
  |_=>exact .C9
 |_=>exact .B (show .av false from g) UG
/---/def eqU(x:V)(u:R0):Bool:=match u with
 |.none=>eqV .non x
 |.bool b=>eqV (.bl b) x
 |.int i _=>.hR eqV i x
 |.str z _=>.og eqV z x
 |_=>false
def QU(r:.iL)(f:tI y=true):eqU x u=eqV y x:=by
 cases y with
 |non=>cases r;rfl
 |bl b=>cases r;rfl
 |int i=>rw[.yE]
 |str z=>rw[.yE]
 |_=>exact .C9
theorem ED:∀{xs:.R} {us:.H},.ka->.YH->us.any (eqU x)=xs.any λy=>eqV y x
 |_,_,.nil,_=>rfl
 |y::xs,u::us,.cons r t,f=>by
  rw[zXn,UE]at f;rw[zWv,zWv,QU r f.1,ED t f.2]
theorem Aj{x:V}{v:R0}(e:.qd)(d:tI x=true):∀{xs:.R} {us:.H},.ka->.YH->∀u∈us,.El u v (eqU x u)
 |_,_,.nil,_=>λu c=>by cases c
 |y::xs,u::us,.cons r t,f=>λg c=>by
  rw[zXn,UE]at f;rcases .bj c with rfl|c
  ·rw[QU r f.1];exact YJ r e f.1 d
  ·exact Aj e d t f.2 g c
/---/def inV(x:V)(xs:.R):Bool:=xs.any λy=>eqV y x
/---/def rIn(K:zCM)(neg:Bool):R2:=.dJ<|∃p xs,y=.d p/\(.wp p xs\/.BA p xs)/\tI x=true/\.YH/\.jF (if neg then ! inV x xs else inV x xs)
def Dn:.gs .In (rIn X.K false):=by
 intro pins s σ H x y v u Q I i l h;obtain⟨p,m,rfl,d,j,e,q⟩:=h;cases l;rcases d with d|d
 ·obtain⟨c,r,f,k⟩:=.e3 d
  refine SeqAt.in_listAt (eqU x) f.isList .alP .anG;rw[show .ahC by simp,ED r e];exact q
 ·obtain⟨c,r,f,k⟩:=.dm d
  refine SeqAt.in_tupleAt (eqU x) f .alP .anG;rw[show .ahC by simp,ED r e];exact q
def uV:.ln "len" (.aak<|.ani/\.wc ys.length):=by
 intro pins s σ H xs k Q I r h;obtain⟨p,ys,rfl,d,q⟩:=h;obtain⟨u,rfl,j⟩:=uS r;cases j;have l:=wI;rcases d with d|d
 ·obtain⟨g,e,f,i⟩:=.e3 d
  have c:=e.length;exact Calls.call_len_list f.isList .Lr .af9
 ·obtain⟨g,e,f,i⟩:=.dm d
  have c:=e.length;exact len_tuple f .Lr .af9
def EE:.ln "len" (.kq<|∃z,xs=.l5 z/\.S z.length/\.wc z.length):=by
 intro pins s σ H xs c Q I r h;obtain⟨z,rfl,d,q⟩:=h;rw[.M0 uS r];have e:=wI;exact len_str .b<|.Gi z.length
def EG:.vl "list" (.aak<|.ani/\.alD (.q ys)):=by
 intro pins s σ H xs A Q I r h;obtain⟨p,ys,rfl,j,q⟩:=h;obtain⟨u,rfl,z⟩:=uS r;cases z;have fin:∀(c:.H),bS ys c->.ET->∀(d:Heap) (f:Nat),(∀b y,.td=.gU->d.get? b=.gU)->
   .En d.get?=.a { cls:=.bQ "list",dict:=none,data:=.fL c.toArray f,slots := #[] }->.hm .jQ { s with heap:=d }:=λc g k d f m e =>
  .JV<|.Pt m (zBK _)<|show .ha gC _ d _ (.q ys) from ⟨k,c,f,g,e⟩
 rcases j with j|j
 ·obtain⟨c,g,t,k⟩:=.e3 j
  have i:=g.length;obtain⟨o,v,w,n,x⟩:=t.isList;exact .abB .b5
 ·obtain⟨c,g,t,k⟩:=.dm j
  have i:=g.length;obtain⟨o,v,w,n,x⟩:=t;exact .abB .g7
def Cm:jI X .lh (.aak<|(.lX H p ys/\.alD (.E ys))\/(.pE p ys/\.iU p H)):=by
 intro pins s σ H xs w Q I r h;obtain⟨p,ys,rfl,h⟩:=h;obtain⟨u,rfl,n⟩:=uS r;cases n;rcases h with ⟨i,q⟩|⟨i,q⟩
 ·obtain⟨c,g,f,k⟩:=.e3 i
  have j:=g.length;refine call_tuple_list f.isList (λd t=>?_) .Lr;have m:.gY { s with heap:=d }:=.tD I.kept t;have v:.aP (.dP d.objs.size<|.E ys) (.rv<|d.push<|.sq c.toArray) :=
   .tD m.laid .vB (zBK _)<|show .ha gC _ _ _ (.E ys) from ⟨k,c,g,.Zk⟩
  exact .ch (.d d.objs.size) _ v (q _<|.hc m.hok.fresh)
 ·obtain⟨c,g,f,k⟩:=.dm i
  exact call_tuple_same f (.ch (.d p) H I q)
/---/def tyV(K:zCM)(T:String)(x:V)(H:Hp):Prop:=match x with
 |.str _=>T="str"
 |.int _=>T="int"
 |.ref p=>(T="list"/\∃xs,.wp p xs)\/(T="tuple"/\∃o,.dj p=.bb/\o.cls=.lh/\.qi none)\/
   (T="dict"/\((∃kvs,H p=.a .OU)\/∃kvs,H p=.a .Hu))\/(T="set"/\∃S n,H p=.a (.set S n))
 |_=>False
def QV{σ:St}(I:.n)(r:.qd)(h:tyV X.K T x H):
  s.TypeIs v T/\∀a,v=.z->.aov a:=by
 cases x with
 |str z =>
  obtain⟨t,rfl⟩:=r;cases (show T="str" from h);exact⟨zVd s z t,λ_ e=>nomatch e⟩
 |int i =>
  obtain⟨t,rfl⟩:=r;cases (show T="int" from h);exact⟨typeIs_int s i t,λ_ e=>nomatch e⟩
 |ref p =>
  cases r;rcases h with ⟨rfl,w,m⟩|⟨rfl,o,d,q,k⟩|⟨rfl,d⟩|⟨rfl,S,n,d⟩
  ·obtain⟨u,_,l,_⟩:=.e3 m
   rw[.bN l.isList.typeIs λa e=>?_];cases e;rw[.iA];obtain⟨o,n,e,c,k,_⟩:=l;refine g ?_;rw[.ci e k]
  ·rw[.bN ⟨o,I.kIn p o d,q⟩ λa e=>?_]
   cases e;rw[.ci (I.kIn _ o d) k]
  ·have z:∃o,.gw p/\o.ExactDict:=by
    rcases d with ⟨kvs,d⟩|⟨kvs,d⟩
    ·rw[.iA];obtain⟨_,_,_,_,o,_,_,e,f,_⟩:=.iD p d;refine g ?_
     rw[.ci e f]
    ·rw[.iA];obtain⟨_,_,_,_,o,_,_,e,f,_⟩:=.iD p d;refine g ?_
     rw[.ci e f]
   obtain⟨o,e,f⟩:=z;rw[.bN ⟨o,e,f.1⟩ λa j=>?_];cases j;rw[.ci e (f.2.1)]
  ·rw[.iA];obtain⟨o,_,_,_,e,f,_⟩:=.iD p d;refine g ?_
   rw[.bN ⟨o,e,f.1⟩ λa j=>?_];cases j;rw[.ci e (f.2.1)]
 |_=>rw[.fR h]
/---/def adb(K:zCM)(T:String)(r:.sU)(to:TE):TE:=.anW<|r x [] H1 Q
/---/def tBM(K:zCM)(T:String)(r:.sU)(to:TE)(t:TA):TE:=.anW<|.kJ t λxs H2=>r x xs H2 Q
variable{o e:Expr}{es:List Expr}{to:TE}{t:TA}{name:Str}{apos cpos:Pos}{T id:String}{r:V->List V->Hp->VK->Prop}
def YK(l:PlainAttrs T)(slot:Slot T name id)(f:.aex)(m:MtR X id r)(p:.af o to)
  (d:autoParam (.mW name) Q3Q._auto_1) (c:autoParam (.kd) Q3Q._auto_1):.af (.ND name) (adb X.K T r to):=by
 rw[.o5 (.ajZ (.dw p λv w u=>?_))];obtain⟨x,j,g,i,q,q1⟩:=u;obtain⟨k,n⟩:=QV g i q;exact⟨T,id,l,slot,f,k,n,.aem<|.a0 m w σ j x [] v [] Q g i .nil q1⟩
def Ak(B:PlainAttrs T)(slot:Slot T name id)(j:.aex)(E:MtR X id r)(u:.af o to)(C:.uL t)
  (f:autoParam (.mW name) Q3Q._auto_1)
  (g:autoParam ((.abJ (e :: es)
   && .ahz (e::es))=true) Q3Q._auto_1)
  (d:autoParam (.kd) Q3Q._auto_1) (K:autoParam (.rx) Q3Q._auto_1) (c:autoParam (.x6 es=false) Q3Q._auto_1) :
  .af (.CW name (e::es) [] cpos) (tBM X.K T r to t):=by
 rw[.uA (wpAny_Call_method_late f g d rfl (.dw u λv L i=>?_)) .Px];obtain⟨x,z,m,k,y,q1⟩:=i;obtain⟨n,F⟩:=QV m k y;rw[.dq p ⟨T,id,B,slot,j,n,F,?_⟩];have l:=C cpos pins L σ z _ m q1;rw[K]at l⊢;rw[.eB (Calls.callWith_builtin (by show .cM<|false||.x6 es;rw[c]<;>rfl) (.WC ?_)) (thn l λA w i=>by obtain⟨G,D,J,q,q2⟩:=i;exact .a0 E w σ D x G v A Q J k q q2)]
end
/---/def MtM(X:Cx)(id:String)(r:.sU):Prop :=
 .acF<|r x xs H Q->
  .aoL
def bS.one(h:.g1 [x]):∃u,us=[u]/\.lF x:=by
 cases h with
 |cons r t=>cases t;exact .dz r
def bS.two(h:.g1 [x,y]):∃u v,us=[u,v]/\.lF x/\cS y v:=by
 cases h with
 |cons r t =>
  cases t with
  |cons q t=>cases t;exact .bh _ _ r q
theorem bS.rep(h:.ka):∀k:Nat,bS (.F5 xs)<|.F5 us
 |0=>.nil
 |k+1=>by
  rw[zZr,zZr,zYr,zYr];exact bS.append h<|bS.rep h k
theorem oR(a:.H):∀(k:Nat) (acc:.H),
  List.foldl (λd b=>d++b) acc.toArray (.b4 k a.toArray)=.eZ (acc++(.b4 k a).flatten)
 |0,acc=>.f
 |k+1,acc=>by
  have e:acc.toArray++a.toArray=.eZ (acc++a):=.f
  have c:(acc++a)++.F5 a=acc++.jj (.b4 (k+1) a):=by
   rw[zZr,zYr,zBT]
  rw[<-c,<-oR a k<|acc++a,<-e,zZr,List.foldl_cons]
section
variable{X:Cx}{pins:List (Addr × Obj)}{σ:St}{H:Hp}{s:R1}{l b:Addr}{xs ys zs:List V}
def Inv.lset{a its':.H}(I:.n)(i:.pw l)
  (e:.H2<|.HN a.toArray) (c:f a.toArray=its'.toArray) (j:bS ys its') (d:.ET) :
  .aP (.dP l<|.q ys) { s with heap:=.Fy l<|.NP f,toks:=t' }:=by
 have q:=PySem.IsL.update e f;rw[c]at q;refine .OK l (e:=l) (.p i trivial) .b5 (λk u g h=>.i (.dx zVe (.NP f)<|zZs g) h) (.cn q) ?_;exact⟨d,its',_,j,q⟩
def Inv.lnew(I:.n)(c:bS ys a)(d:.ET):
  .aP (.x8<|.q ys) { s with heap:=.qA<|.mp "list"<|.fL a.toArray,toks:=t' } :=
 I.laid (.nQ .qw) (zBK _) ⟨d,a,0,c,.ds⟩
def Inv.fresh(I:.n):.U5:=.qJ
def Inv.lstM(I:.n)(c:.pw l):.iV/\∃(a:.H) (n:Nat),bS xs a/\.wg xs.length/\.H2 (.HN a.toArray):=by
 obtain⟨z,a,n,r,e⟩:=.iD l c;exact⟨z,a,n,r,r.length,e⟩
def GW(h:.S n):.Uv n=false:=by
 unfold Builtin.List.listTooLong;exact .nW
end
section
variable{X:Cx}
/---/def Vi:.sU:=.wN<|∃l xs y,x=.hK/\vs=[y]/\.pw l/\xs.length<sizeLine/\Q .non (.dP l<|.hM xs [y])
def wM:MtM X "list.append" Vi:=by
 intro pins s σ H x m v g Q I d f h;obtain⟨l,k,y,rfl,rfl,b,j,q⟩:=h;cases d;obtain⟨u,rfl,c⟩:=f.one;obtain⟨z,a,n,r,i,e⟩:=I.lstM b;refine zUo F.slot_list_append (.dk e) F.entry_list_append (F.args_list_append_2 _ _) (PySem.list_append l a.toArray n u<|.c5 UC)<|.c4 e;refine .ch .non _ (I.lset (its':=a++[u]) b e .f (.Bo<|.jo c) ?_) q;rw[zAK,zVi]
 lia
/---/def Vj:.sU:=.wN<|∃l b xs zs,x=.hK/\vs=[.hL]/\.ags (Q .non<|.dP l<|.hM xs zs)
def Do:MtM X "list.extend" Vj:=by
 intro pins s σ H x E v C Q I p w h;obtain⟨l,b,A,G,rfl,rfl,g,j,D,q⟩:=h;cases p;obtain⟨u,rfl,o⟩:=w.one;cases o;obtain⟨z,c,n,r,y,e⟩:=I.lstM g;obtain⟨B,a,i,k,t,m⟩:=I.lstM j;have f:.S .aiX:=by rw[UC,UC];lia
 have d:¬.av (! c.toArray.isEmpty&&.Uv .aiX):=by
  rw[GW f,Bool.and_false];exact UG
 refine zUo F.slot_list_extend (.dk e) F.entry_list_extend (F.args_list_extend_2 _ _)
  (AutoSeq1.list_extend_list_list_0 l c.toArray n b a.toArray i d (.c5 UC) .b) ⟨e,m,?_⟩
 refine .ch .non _ (I.lset (its':=c++a) g e .f (.Bo k) ?_) q;rw[zAK]
 lia
/---/def adc:R2:=.dJ<|∃l b xs zs,x=.hK/\y=.hL/\.ags (.q9<|.hM xs zs)
def YL:.vT adc:=by
 intro pins s σ H x y v u Q I o k h;rw[.n9];obtain⟨l,b,w,D,rfl,rfl,i,g,C,q⟩:=h;refine d ?_;cases o;cases k;rw[.n9];obtain⟨z,c,n,r,t,e⟩:=I.lstM i;obtain⟨B,a,A,j,p,m⟩:=I.lstM g;rw[.da d (PySem.P.add_list e m ?_ (by rw[UC,UC];lia))];have f:c.toArray++a.toArray=.eZ (c++a):=.f
 rw[f];exact .aoi<|.tD I.lnew (.Bo j)<|.c5 zAK
/---/def add:R2:=.dJ<|∃l k xs,x=.hK/\y=.e k/\.pw l/\-(2^63)<=k/\k<2^63/\.S (xs.length*k.toNat)/\
 .q9 (.lst<|.jj<|.b4 k.toNat xs)
def Vk{α:Type}(xs:.bY)(k:Nat):(.b4 k xs).flatten.length=k*xs.length:=by
 induction k with
 |zero=>simp
 |succ k a=>rw[zZr,zYr,zAK,a,Nat.succ_mul,Nat.add_comm]
def YM:.ot .Mult add:=by
 intro pins s σ H x y v u Q I G C h;obtain⟨l,k,K,rfl,rfl,B,w,E,p,q⟩:=h;cases G;obtain⟨t,rfl⟩:=C;obtain⟨z,b,n,r,A,e⟩:=I.lstM B;have d:.S .VB:=.n8 UC A p
 have g:¬.VB>(2^63-1)/8:=by
  have:.kY sizeLine<=(2^63-1)/8:=.c
  lia
 have i:¬.av (! Builtin.List.listFitsIndex k):=by
  rw[fitsIndex_both w E];exact UG
 have c:¬.Uv .VB=true:=by
  rw[GW d];exact UG
 have f:.afd (.dE b.toArray.isEmpty 0 k.toNat)=.X3 (.b4 k.toNat b):=by
  have J:∀m:Nat,.afd m=.X3 (.b4 m b):=λm=>by
   rw[.wW (oR b m []) zZo]
  rw[J];cases b with
  |nil=>simp
  |cons a L=>rw[yM .f]
 refine wpAny_binaryOp_repeat_ref (T := "list") (U := "int") .c (.dk e) (λD=>typeIs_int D k t) noFill_list_mul F.fills_int_mul F.slot_int_rmul repeat_list F.slot_int_index.lookup
  (zUo F.slot_int_rmul (typeIs_int s k t) F.entry_int_rmul (F.args_int_rmul_2 _ _) (int___rmul___int_list k t l b.toArray n)
   ⟨e,rfl,.dk e,zUo F.slot_list_mul (.dk e) F.entry_list_mul (F.args_list_mul_2 _ _) (AutoListH.list___mul___list_int_3 l b.toArray n k t i g c)<|.c4 e⟩)
 rw[f];exact .aoi<|.tD I.lnew (r.rep k.toNat) (by rw[Vk,Nat.mul_comm];exact p)
end
section
variable{prog:P6}{w:P7}{A:R3}{E:R0->R1->Prop}{s:R1}
end
section
variable{X:Cx}
end
end L2
namespace Att
open PySem PySem.W PySem.Calls PyProof.Rows
def yW:∀(ns:.l) (vs:.H),WellAll P h vs (ns.map WData.int)->.qg vs:=by
 intro ns
 induction ns with
 |nil =>
  intro vs w;rw[zZu]at w;cases w;exact .nil
 |cons n ns c =>
  intro vs w;rw[xI]at w;cases w with
  |cons a b =>
   cases a;exact .bn _ _ (c _ b)
def Oy{l:OpenLaw}(s:l.most=.e8)
  (b:l.row.toRowW.claim.pre args=true) (j:WellAll P h c args) :
  ∃a vs ns,c=[.ee a]/\args=[WData.list<|ns.map WData.int]/\.nd .Dj/\.qg vs/\.AD n:=by
 have i:WShape.hasAll [] args [.list .int]=true:=(pre_splitW b).1;have k:l.pre.holds [] { args:=args }=true:=(pre_splitW b).2;obtain⟨d,r,rfl,m,t⟩:=hasAllW_cons i;obtain rfl:=hasAllW_nil t;obtain⟨x,rfl,w⟩:=hasW_list m;obtain⟨ns,rfl⟩:=items_int w;have e:.AD n:=by
  unfold OpenLaw.pre at k;have f:(WTm.not<|.lt (.lit<|.e .ek)<|.len<|.arg 0).holds [] { args:=[.list<|.dt ns.map] }=true:=by
   have f:=(holds_andW k).1;rw[.n7 s f]
  have g:=condW_of f<|w_not<|w_lt w_lit<|w_len_list<|w_arg rfl;rw[zST]at g;refine zVs λq=>?_;have u:.bp<.aD ns.length:=.b
  first
   |(rw[y3 u]at g;exact .nT g)
   |(simp at g;lia)
 cases j with
 |cons v o =>
  cases o;cases v with
  |list p hall=>exact⟨_,_,ns,rfl,rfl,p,yW ns _ hall,e⟩
def Oz(l:OpenLaw)(args:.ai WData):l.row.toRowW.claim.post args .mT args=true :=
 postW_of (r:=l.row.toRowW) (X:=(true == true))
  (show WShape.has [] .mT .bool=true by first|rfl|decide|simp[WShape.has,WShape.arms,WShape.armsAll])
  (show (WTm.eq .res<|.lit .mT).value [] { args:=args,res:=.a .mT,after:=args }=.a (.g0<|true == true) from w_eq_bool (w_res rfl) w_lit) rfl
def attach_call{l:OpenLaw}{XP:.gD->.Ha}
  (I:l.most=.e8) (s:.U3)
  (call:∀(w:P7) (s₀ b : R1) (mg v:.gD) (k:Addr) (o:Obj) (pm p e:R0) (a:Addr) (vs:.H) (ns:.l),
   Ground q c [] XP w s₀ mg v b.heap->z w b.heap->
   b.heap.get? k=.bb->o.data=.func (docDef d.name d.params d.body d.scope pm p e)->b.heap.CodeRec p d.name->mg d.name=.bZ->
   b.heap.get? a=.a .Dj->.qg vs->.AD n->b.gens = #[]->
   .amj l.prog (.call .hG<|.dh .iM) (λr m=>r=.ok (.ret .mT)/\OldK b.heap m.heap/\m.os=b.os/\AllBare m.gens) b) :
  WalkO q c XP z l.row.toRowW d [] .Ul:=by
 intro w s₀ b mg v G Y k o pm p e E kV D O u x hmg N A B P h y L t C;obtain rfl:E=.none:=Dflts.none x s;obtain rfl:kV=.none:=Dflts.noKw x;obtain⟨a,vs,ns,rfl,rfl,j,g,i⟩:=Oy I h t;refine enter_call (zXm (call w s₀ b mg v k o pm p e a vs ns G Y D (fd_plain O) u hmg j g i N) λr m H=>?_);obtain⟨rfl,K,M,F⟩:=H;rw[.al (.G ⟨.mT,.mT,[],rfl,.cB,.mT,Oz l _,.de ⟨List.Pairwise.nil,λ_ J=>(nomatch J)⟩⟩) K M F]
section
variable{prog:P6}{w:P7}{A:R3}{E:R0->R1->Prop}{s:R1}{K:Frag}
/---/def noObjs(h:Heap):Heap:={ h with objs := #[] }
def noObjs_get(h:Heap)(b:Addr):.eY (noObjs h) b=none:=by
 cases e:.eY (noObjs h) b with
 |none=>rfl
 |some o=>exact .uS (zAR e)
/---/def ledger(h:Heap)(L d:Addr):.bc:=.acO<|a=d
def mem_ledger:(a,o)∈ledger h L d↔a≠L/\a≠d/\.fv a:=by
 unfold ledger;rw[.sw zYk]
 ·rintro⟨b,_,e⟩
  split at e
  ·cases e
  ·rename_i f
   obtain⟨k,c,j⟩:=.n1 e;cases j;exact⟨λq=>f<|.G q,λq=>f<|.F q,c⟩
 ·rintro⟨g,i,c⟩
  rw[.eD a (zYj.mpr<|zAR c)];rw[yM<|show ¬(a=L\/a=d) from λq=>q.elim g i,c]<;>rfl
def fr_all(n:h.Ns L m):Fr (noObjs h) L h m :=
 ⟨n,.gB<|.Gx noObjs_get,zZc _⟩
end
end Att
namespace L2
open PySem PySem.Spec PyProof.Rows
theorem Dp:∀{vs:.H} {ns:.l},.qg vs->bS .lg vs
 |_,_,.nil=>.nil
 |_,_,.cons n t h=>.bn .pN<|Dp h
/---/def YN(H:Hp):Prop:=∀b,.fK\/∃o xs,H b=.a (.frz o .wG)
def QW{K:zCM}{x:Str}{sp:Sp}{c:R1}{vs:.H}{ns:.l}
  (KX:K.In c.heap) (C:.tR c.heap.Ns) (g:c.heap.Ns builtinsNs Q) (M:∀x:Str,.oF->Q x=bootBuiltins x) (G:c.heap.NoLimit) (hg:c.gens = #[])
  (I:c.heap.get? a=.a .Dj) (hi:.qg vs) (X:.S ns.length) (hr:ff k callerA)
  (F:.anR<|.Jb CX k J Y [x] sp) (p:.Sd Y)
  (L:∀H:Hp,YN H->.wp a .lg->sp .iM H (λv _=>v=.dO) .la)
  (N:∀H e i,CX [] H c .la e i->False) :
  .abR := by
 have W:=Dp hi;have B:=hi.length;have l:∀H:Hp,YN H->.wp a .lg->.fq c.heap->(∀b,H b≠none->b=a)->(H a≠none->.dj a=none)->
   .abR := by
  intro H U hS hok hA hK;have f:∀{b:Addr} {o:Obj},.iq c.heap.get?->.fK->.sn .FH:=λe n=>Qv e n;have S:∀{b:Addr} {o:Obj} {D:Array DictEntry} {t:Nat},.iq c.heap.get?->o.data=.dict D t->.fK:=λ{b o D t} e d=>by
   cases q:H b with
   |none=>rfl
   |some u =>
    have R:b=a:=hA b<|.fm q;subst R;rw[.bd I];have d':Data.seq vs.toArray _=Data.dict D t:=d;cases d'
  have j:∀{b:Addr} {m:.gD},c.heap.Ns b m->(.FH).Ns b m:=λ{b m} ⟨o,D,t,e,d,r⟩=>⟨o,D,t,f e<|S e d,d,r⟩;have A:K.In .FH:=.gB<|f (.bs KX) (by
   cases q:H b with
   |none=>rfl
   |some u =>
    have R:b=a:=hA b<|.fm q;subst R;rw[.bd (hK<|.fm q)])
  have hM:Mod K mg .FH:=⟨A,j C,⟨Q,j g,M⟩,let ⟨mc,h1,h2⟩:=G;⟨mc,j h1,h2⟩⟩;have e0:JW P w K mg .FH callerA [] c H:=⟨rfl,hM,.gB<|U3 e,zYw<|On _ _,trivial,λb g=>.lf<|show b∈([]:.am) from g,hok,.of_eq hg⟩;refine zXm ((F _ A<|j C).run callerA [] c H (.dh .iM) .iM .iM _ _ hr e0 (p c .z) (.jo rfl)<|L H U hS) λr i h=>?_;cases r with
  |error e=>exact(N H e i h).elim
  |ok fl =>
   cases fl with
   |next=>rw[.fR h]
   |brk=>rw[.fR h]
   |cont=>rw[.fR h]
   |ret u =>
    rw[.j .vg];obtain⟨v,H',os,bare,Z,y,r',q⟩:=h;refine kq ?_;have q':v=.dO:=q;subst q';obtain rfl:u=.HT true:=r';refine⟨rfl,OldK.of_keep (.gB ?_),os,bare⟩;cases q:H b with
    |none=>exact .bs Z.keep q (by intro z;exact .Wf ([]:.am)) .f
    |some u =>
     rcases U b with z|⟨ob,xs,z⟩
     ·rw[.fh q]
     ·have z2:=Z.frzs b ob _ z
      obtain⟨T,_⟩:=hok b _ z;obtain⟨e2,_⟩:=y b _ z2;rw[e]at T;cases T;exact e2
 cases O:.dj a with
 |some o =>
  have e:=KX a o O;rw[.bd I];refine l .PK (.de .b5) (.F ⟨_,vs.toArray,_,O,rfl,rfl,rfl,by rw[UC,B];exact X,by simpa using W⟩) (λb u z=>by have E:(none:.as HO)=.bL:=z;cases E) (λb z=>.bg z) λz=>.bg z
 |none =>
  refine l (λb=>.s3 b a (.frz .Dj<|.q .lg) none) (λb=>?_) (.G<|.F ⟨.Dj,.cb⟩) (λb u z=>?_) (λb z=>?_) λ_=>O
  ·by_cases g:b=a
   ·rw[.P ⟨_,_,z3 g⟩]
   ·rw[.O (yM g)]
  ·by_cases g:b=a
   ·have E:=.lr (z3 g) z
    cases E;subst g;exact⟨I,.p zST X,vs,_,W,I⟩
   ·have E:=.lr (yM g) z
    cases E
  ·by_cases g:b=a
   ·exact g
   ·exact .B (yM g) z
def Vl{l:PySem.W.OpenLaw}{XP:.gD->.Ha}{K:Params->zCM}{CX:P7->CXT}{sp:P7->Sp}{x:Str}
  (J:l.most=.e8) (p:.S n) (r:.U3) (D:ff k callerA)
  (N:.aiz C)
  (F:∀(w:P7) (mg:.gD) (m:Addr) (h:Heap),(.oH).In h->.tR h.Ns->mg d.name=.t m->
   ∃y:FuncData,(.Sd y)/\
    .ahp (.aou (CX w) m y [x]<|sp w))
  (A:∀(w:P7) (H:Hp) (a:Addr) (ns:.l),.AD n->YN H->SqL .oH H a .lg->sp w .iM H (λv _=>v=.dO) .la)
  (t:∀(w:P7) (H:Hp) (s:R1) (e:R0) (z:R1),CX w [] H s .la e z->False) :
  PySem.W.WalkO q g XP C l.row.toRowW d [] .Ul:=by
 refine Att.attach_call J r λw B j mg T m o S U I a vs ns G Y R W E hmg i c b P=>?_;have KX:=N w _ Y;obtain⟨y,L,O⟩:=F w mg m _ KX G.T.g hmg;exact QW KX G.T.g G.T.b G.T.builtins G.T.nolimit P i c (zBL b p) D O L (λH M Q=>A w H a ns b M Q) λH e z=>t w H j e z
/---/def c7(s:Stmt):Arguments:=match s with
 |.FunctionDef _ a _ _ _ _ _ _ _ _=>a
 |_=>{ posonlyargs:=[],args:=[],vararg:=none,kwonlyargs:=[],kw_defaults:=[],kwarg:=none,defaults:=[] }
/---/def cG(s:Stmt):.el:=match s with
 |.FunctionDef _ _ b _ _ _ _ _ _ _=>b
 |_=>[]
/---/def aD(s:Stmt):Scope:=match s with
 |.FunctionDef _ _ _ _ _ _ sc _ _ _=>sc
 |_=>{ kind:=.function,names:=[],isGenerator:=false,isCoroutine:=false }
noncomputable abbrev CX0:CXT:=λ_ _ _ _ _ _=>False
noncomputable abbrev E0:XK:=.la
def GX:og CX0 X E0:=λ_ _ _ _ _ _ _ h=>h.elim
structure Fun(K:zCM)(x qual:Str)(st:Stmt)(f:Addr)(fd:FuncData):Prop where
 ex:∃(oc:R0) (od:Option Addr) (kV doc pm:R0) (an:Option Addr) (cdv ct:R0) (osl:Array (Option R0)),
  fd=PySem.W.fnOf x qual (c7 st) (cG st) (aD st) .none kV doc pm an cdv ct/\K.lookup f=some ⟨oc,od,.func fd,osl⟩/\PySem.W.codeIn K cdv qual=true
 kp:PySem.W.keepIn K (.ref f)=true
section
variable{P:P6}{w:P7}{K:zCM}{mg:Str->Option R0}{base:Heap}
def Fun.ok{st:Stmt}{N ps:.dU}(F:.Gq a g)(S:.Ep)(len:.agF)
  (c:∀(b:R0) (A:R3) (outer:.f9) (s:R1) (H:Hp) (vs:.R) (Q:VK) (E:XK),ff k (.wf<|.an0 a b)->sp vs H Q E->
   ∃t,PSs (.Ck CX0 a (aD st) f b A outer s H E).nox (cG st) t/\t { nx:=λ_ i=>Q .non i,rt:=Q } .Ht H):.o0 (k+1) g ps sp:=by
 rw[.j .vn];obtain⟨u,v,kV,n,r,y,b,p,o,rfl,j,d⟩:=F.ex;rw[.da m (Mo j d S len λA outer s H vs Q E l e=>?_)];obtain⟨t,h,q⟩:=c b A outer s H vs Q E l e;rw[.C t h.nox q]
def Fun.binds{st:Stmt}(F:.Gq a e)
  (h:∀(kV c pm:R0) (d:.cx) (b ct:R0) (us:.H),.TD<|.Rh c d b ct):.Gr e:=by
 obtain⟨j,l,kV,c,pm,d,b,ct,i,rfl,k,g⟩:=F.ex;exact .all<|h kV c pm d b ct
def qL{st:Stmt}{kV d pm b ct:R0}(l:.dj f=.mg h i (.func<|.Rh d g b ct) e)
  (c:.mN b a=true) (k:.gu f):.Gq a (.Rh d g b ct):=⟨⟨h,i,kV,d,pm,g,b,ct,e,rfl,l,c⟩,k⟩
end
section
variable{X:Cx}
end
/---/def lS(H H':Hp):Prop:=.cJ<|.iq H->.iq H'
def lS.refl(H:Hp):lS H H:=.iY h
end L2
namespace L2
open PySem PySem.Spec
structure qF(h:Heap)(a D:Addr)(o:Obj):Prop where
 at_:h.get? a=some o
 cls:o.cls=.ref D
/---/def lG(a C:Addr):HO:=.ext λh=>∃o,qF h a C o
end L2
namespace Fm
inductive D where
 |non|bl (b:Bool)|int (i:Int)|str (x:List Nat)|tup (l:List D)|ref (n:Nat)|lit (l:List D)|exn (c:String) (l:List D)
deriving Inhabited
inductive bO where
 |lst (l:List D)|dct (l:List (Int × D))|dcT (l:List (List Int × D))|ob (l:List D)
noncomputable abbrev Hd:=.ai bO
inductive Res(α:Type) where
 |ok (a:α) (h:Hd)|exc (x:D) (h:Hd)|bad
/---/def Res.bind{α β:Type}(r:.e2)(f:.wC β):Res β := match r with
 |.ok a h=>f a h | .exc x h=>.ic h | .bad=>.bad
@[simp] theorem aE{α β:Type}(a:α)(h:Hd)(f:.wC β):(.nv a h).bind f=f a h:=rfl
@[simp] theorem abC{α β:Type}(x:D)(h:Hd)(f:.wC β):(Res.exc x h:.e2).bind f=.ic h:=rfl
@[simp] theorem abD{α β:Type}(f:.wC β):(Res.bad:.e2).bind f=.bad:=rfl
noncomputable abbrev Sd:=.ai .J
noncomputable abbrev EF:=.iu D
noncomputable abbrev TF:=.iu Bool
noncomputable abbrev LF:=.iu .m
inductive Out where
 |nx (σ:Sd) (h:Hd)|rt (d:D) (h:Hd)|bk (σ:Sd) (h:Hd)|ct (σ:Sd) (h:Hd)|exc (x:D) (σ:Sd) (h:Hd)|bad
noncomputable abbrev SF:=Sd->Hd->Out
noncomputable abbrev Fn:=.m->.tI D
noncomputable abbrev SZ:Nat:=1000000
@[simp] noncomputable def slot(σ:Sd)(i:Nat):.J:=match σ[i]? with|some (some d)=>.a7|_=>none
@[simp] noncomputable def aa(i:Nat):EF:=.ax<|.yB (slot σ i) .hH
@[simp] noncomputable def fC(d:D):EF:=λ_ h=>.hH
noncomputable abbrev O2:=D->D->.tI D
@[simp] noncomputable def aj(g:O2)(a b:EF):EF:=.HO<|g x y h
@[simp] noncomputable def oI(g:.Bu):O2:=.SM<|.ao<|g i j
@[simp] noncomputable def oB(g:.Hf):O2:=.SM<|.aY<|g i j
@[simp] noncomputable def oIc(c:.Hf)(g:.Bu):O2:=.SM<|.cZ (c i j)<|.ao<|g i j
/---/def sml(i:Int):Bool:=.D (-18446744073709551616<i)&&.iO i 18446744073709551616
@[simp] noncomputable def dH:O2:=.dZ<|match x,y with
 |.int i,.int j=>.ao (i+j)
 |.tup (x::xs),.tup ys=>.gI (.s (x::xs)+ys.length<=SZ) (.tup<|x::xs++ys)
 |_,_=>.bad
@[simp] noncomputable def lU:O2:=.dZ ((oI (· - ·)) x y h)
@[simp] noncomputable def ek:O2:=.dZ ((oIc (λi j=>sml i||sml j) (· * ·)) x y h)
@[simp] noncomputable def dU:O2:=.dZ ((oIc (λ_ j=>.iO 0 j) (· % ·)) x y h)
@[simp] noncomputable def lV:O2:=.dZ ((oIc (λ_ j=>.iO 0 j&&.D (j<2^250)) (· / ·)) x y h)
@[simp] noncomputable def ade:O2:=.dZ<|(oIc (λi j=>.cg 0 j&&.D (.bt j)&&sml i) (λi j=>i^j.toNat)) x y h
@[simp] noncomputable def oLt:O2:=.V7<|.iO i j
@[simp] noncomputable def oLe:O2:=.V7<|.cg i j
@[simp] noncomputable def oGt:O2:=.V7<|.iO j i
@[simp] noncomputable def adA:D->.tI D:=λx h=>.Tt<|.ao<|-i
@[simp] noncomputable def tJ:.cH D | .non=>true|_=>false
@[simp] noncomputable def oS:O2:=.dZ<|.cZ (tJ y)<|.aY<|tJ x
@[simp] noncomputable def jK:O2:=.dZ<|.cZ (tJ y)<|.ma<|tJ x
@[simp] noncomputable def b2i(b:Bool):Int:=.tQ b
mutual
noncomputable def peq:D->D->.py
 |.int i,k=>match k with | .int j=>.a (.aN i j) | .bl c=>.a (.D<|i=b2i c) | .non=>.du | .tup _=>.du|_=>none
 |.bl c,k=>match k with | .int j=>.a (.D<|b2i c=j) | .bl d=>.a (.aN c d)|_=>none
 |.str x,k=>match k with | .str y=>.a (.aN x y)|_=>none
 |.non,k=>match k with | .non=>.cO | .int _=>.du | .tup _=>.du|_=>none
 |.tup xs,k=>match k with | .tup ys=>(.v7).map λb=>b&&.aN xs.length ys.length | .non=>.du | .int _=>.du|_=>none
 |.ref _,_=>none
 |.lit _,_=>none
 |.exn _ _,_=>none
noncomputable def oh:.m->.m->.py
 |x::xs,y::ys=>match peq x y,.v7 with
  |some a,some b=>.a (a&&b)
  |_,_=>none
 |_,_=>.cO
end
mutual
noncomputable def dep:D->Nat
 |.tup l=>tZ l+1
 |_=>0
noncomputable def tZ:.m->Nat
 |[]=>0
 |x::xs=>max (dep x)<|tZ xs
end
/---/def eqL(xs ys:.m):.py:=.m9 (tZ xs<=20)<|.Q xs.length ys.length .v7 .du
@[simp] noncomputable def jL(h:Hd):D->.as .m
 |.ref n=>.Ri l
 |.lit l=>.eC
 |_=>none
@[simp] noncomputable def eqG(h:Hd)(x y:D):.py:=match jL h x,jL h y with
 |some xs,some ys=>eqL xs ys
 |none,none=>.m9 (dep x<=20) (peq x y)
 |_,_=>none
@[simp] noncomputable def oEq:O2:=.dZ<|.DG<|eqG h x y
@[simp] noncomputable def oNe:O2:=.dZ<|.V3 (eqG h x y)<|.ma b
@[simp] noncomputable def kP:.cH D
 |.non=>true | .bl _=>true | .int _=>true | .str _=>true|_=>false
@[simp] noncomputable def eqF:D->.cH D
 |.non,k=>match k with | .non=>true|_=>false
 |.bl a,k=>.ape .wK<|b2i a == b
 |.int a,k=>.ape (a == b2i b) .wK
 |.str a,k=>match k with | .str b=>.wK|_=>false
 |.tup _,_=>false
 |.ref _,_=>false
 |.lit _,_=>false
 |.exn _ _,_=>false
@[simp] noncomputable def asB(r:Res D):Res Bool:=r.bind λx h=>match x with | .bl b=>.v b|_=>.bad
@[simp] noncomputable def tE(a:EF):TF:=.ax<|asB .bM
@[simp] noncomputable def cW(t:TF):TF:=.ax<|.M8<|.v<|! b
@[simp] noncomputable def lQ(t u:TF):TF:=.ax<|.aoh<|.aX u
@[simp] noncomputable def tOr(t u:TF):TF:=.ax<|.M8<|if b then .v true else .aX u
@[simp] noncomputable def fT(t:TF):EF:=λσ h=>.M8<|.aY b
@[simp] noncomputable def fIf(t:TF)(a b:EF):EF:=.ax<|.cz t λc h=>.ali
@[simp] noncomputable def Al(g k:O2)(a b c:EF):EF:=λσ h=>.cz a λx h=>.Kj<|(g x y h).bind λz h=>match z with
 |.bl true=>.cz c λw h=>k y w h
 |.bl false=>.et
 |_=>.bad
@[simp] noncomputable def am:LF:=λ_ h=>.v []
@[simp] noncomputable def ae(a:EF)(r:LF):LF:=.cF<|.Ad<|.v<|x::xs
@[simp] noncomputable def dh(r:LF):EF:=.ax<|.Ad<|.cZ (.vj SZ)<|.lv xs
@[simp] noncomputable def bJ(r:LF):EF:=.ax<|.Ad<|.cZ (.vj SZ)<|.pj xs
@[simp] noncomputable def oU(h:Hd):D->.as .m
 |.tup l=>.eC
 |.lit l=>.eC
 |.ref n=>.Ri l
 |_=>none
@[simp] noncomputable def lOf(a:EF):LF:=.cF<|match oU h x with|some l=>.v l|none=>.bad
@[simp] noncomputable def inL(h:Hd)(x y:D):.py:=match oU h y with
 |some l=>.wZ (kP x&&l.all kP) (l.any λz=>eqF z x)
 |none=>none
@[simp] noncomputable def oIn:O2:=.dZ<|.DG<|inL h x y
/---/def ixN(n:Nat)(i:Int):.lQ:=.abp
/---/def atI(xs:.m)(i:Int):.J:=.alA
@[simp] noncomputable def fIx(a:LF)(b:EF):EF:=.uw<|.Kj<|match y with
 |.int i=>.yB .wk .hH
 |_=>.bad
@[simp] noncomputable def oAt:O2:=.dZ<|match oU h x,y with
 |some l,.int i=>.yB .wk .hH
 |_,_=>.bad
@[simp] noncomputable def fAt(a b:EF):EF:=.ax<|aj oAt a b σ h
@[simp] noncomputable def c8(a:LF):EF:=.uw<|.ao l.length
noncomputable def lH:.m->.as .l
 |[]=>.sW
 |.int i::r=>.bD lH r (i :: ·)
 |_=>none
@[simp] noncomputable def Am(a:LF):EF:=.uw<|match lH l with|some is=>.ao is.sum|none=>.bad
noncomputable def qo:.m->.as .Hb
 |[]=>.sW
 |.bl b::r=>.bD qo r (b :: ·)
 |_=>none
@[simp] noncomputable def t5(a:LF):EF:=λσ h=>.cz a λl h=>match qo l with|some bs=>.aY .Ok|none=>.bad
@[simp] noncomputable def hU(a:LF):EF:=.uw<|.lv l
@[simp] noncomputable def QY(a:EF):EF:=.cF<|match x with | .int i=>.v .aG | .bl b=>.ao (b2i b)|_=>.bad
inductive Ty where|int|bool|tuple|list|str
deriving DecidableEq
@[simp] noncomputable def t6(h:Hd)(t:Ty):D->.py
 |.non=>.du
 |.bl _=>.a<|t == .bool||t == .int
 |.int _=>.GA .int
 |.str _=>.GA .str
 |.tup _=>.GA .tuple
 |.lit _=>.GA .list
 |.ref n=>match h[n]? with|some (.lst _)=>.GA .list|some (.dct _)=>.du|some (.dcT _)=>none|some (.ob _)=>none|none=>none
 |.exn _ _=>none
@[simp] noncomputable def hV(t:Ty)(a:EF):EF:=.cF<|.DG<|t6 h t x
noncomputable def sIx(n d:Nat):.X->Nat
 |none=>d
 |some i=>.fx i 0 (.gW<|i+n)<|min i.toNat n
/---/def cut(l:.m)(lo hi:.X):.m:=(.hC<|.pl sIx 0 lo).take<|.pl sIx l.length hi-.pl sIx 0 lo
noncomputable abbrev OF:=.iu .X
@[simp] noncomputable def pNo:OF:=λ_ h=>.v none
@[simp] noncomputable def pAt(a:EF):OF:=.cF<|.Tt<|.v .fH
@[simp] noncomputable def dY(a:EF)(lo hi:OF):EF:=.Kb<|match x with
 |.tup l=>if .agl then .bad else .lv .GD
 |x=>match jL h x with|some l=>.pj .GD|none=>.bad
noncomputable def lexLt:.l->.cH .l
 |[],[]=>false
 |[],_::_=>true
 |_::_,[]=>false
 |x::xs,y::ys=>.Te
noncomputable def YO:.m->.as .dl
 |[]=>.sW
 |.tup l::r=>match lH l,YO r with|some a,some b=>.a (a::b)|_,_=>none
 |_=>none
@[simp] noncomputable def aq(F:Fn)(r:LF):EF:=.ax<|.Ad<|F xs h
noncomputable abbrev IF:=.iu<|.m × .as Nat
@[simp] noncomputable def GY(a:LF):IF:=.uw<|.v .A9
@[simp] noncomputable def cT(a:EF):IF:=.cF<|match x with
 |.int n=>.gI (.AW n/\.bt n) (.cY n.toNat λk:Nat=>.e k,none)
 |_=>.bad
@[simp] noncomputable def iP(a b:EF):IF:=.HO<|match x,y with
 |.int m,.int n=>.gI ((.AW m/\.bt m)/\.AW n/\.bt n) (.cY (.gW<|n-m) λk:Nat=>.e<|m+k,none)
 |_,_=>.bad
@[simp] noncomputable def eW(a:EF):IF:=.cF<|match x with
 |.tup l=>.v .A9
 |.lit l=>.v .A9
 |.ref n=>match h[n]? with|some (.lst l)=>.v (l,.e8)|_=>.bad
 |_=>.bad
@[simp] noncomputable def QZ(a:EF):IF:=.cF<|match x with
 |.tup l=>.v (.Ti<|.tup .Zr,none)
 |_=>.bad
section
open Classical
/---/def em(g:.lQ)(all:.m)(h:Hd):Prop:=match g with|none=>True|some n=>h[n]?=.x all
@[simp] theorem abb(all:.m)(h:Hd):em none all h=True:=rfl
noncomputable abbrev GF:=D->Sd->.as Sd
@[simp] noncomputable def gN(i:Nat):GF:=λd σ=>.a<|.oC d
@[simp] noncomputable def gT(l:.g):GF:=λd σ=>match d with
 |.tup xs=>.s3 xs.length l.length .ad8 none
 |_=>none
@[simp] noncomputable def aA(a b:SF):SF:=.ax<|match .bM with | .nx σ h=>.jN|r=>r
@[simp] noncomputable def aX:SF:=.ax<|.c6 h
@[simp] noncomputable def outE(r:Res D)(σ:Sd)(k:D->Hd->Out):Out:=match r with | .ok d h=>k d h | .exc x h=>.ic σ h | .bad=>.bad
@[simp] noncomputable def aF(g:GF)(a:EF):SF:=.ax<|.uq a λd h=>match g d σ with|some σ=>.c6 h|none=>.bad
@[simp] noncomputable def bf(a:EF):SF:=.ax<|.uq a λd h=>.rt d h
@[simp] noncomputable def dR(a:EF):SF:=.ax<|.uq a λ_ h=>.c6 h
@[simp] noncomputable def sIf(t:TF)(a b:SF):SF:=.ax<|match .aX t with | .ok c h=>.ali | .exc x h=>.fj x σ h | .bad=>.bad
@[simp] noncomputable def Vm:SF:=.ax<|.bk σ h
/---/def kQ:SF:=.nR .bad
@[simp] noncomputable def oV(x i e:EF):SF:=.VN<|.uq i λj h=>match p,j with
 |.ref n,.int j=>match h[n]? with
  |some (.lst l)=>match .pl ixN j with
   |some k=>.NN (.q<|l.set k d)
   |none=>.bad
  |_=>.bad
 |_,_=>.bad
@[simp] noncomputable def YQ:O2:=λp d h=>match p with
 |.ref n=>match h[n]? with
  |some (.lst l)=>.cZ .Fz (.MO<|l++[d])
  |_=>.bad
 |_=>.bad
@[simp] noncomputable def i7(x e:EF):EF:=.yJ<|match p with
 |.ref n=>match h[n]? with
  |some (.lst _)=>.cz e λd h=>YQ .aK d h
  |_=>.bad
 |_=>.bad
noncomputable def dD(g:.lQ)(all:.m)(tg:GF)(b:SF):.m->SF
 |[],σ,h=>.cZ .j4<|.c6 h
 |x::xs,σ,h=>if .j4 then match .wj with
   |some σ=>match .jN with
    |.nx σ h=>.tH xs
    |.ct σ h=>.tH xs
    |.bk σ h=>.c6 h
    |r=>r
   |none=>.bad
  else .bad
@[simp] noncomputable def hZ(it:IF)(tg:GF)(b:SF):SF:=.ax<|match .aX it with
 |.ok (l,g) h=>.L3 h
 |.exc x h=>.fj x σ h
 |.bad=>.bad
@[simp] noncomputable def kc:.ai TF->TF
 |[],_,h=>.v true
 |t::r,σ,h=>.aoh<|kc r σ h
noncomputable def dj(g:.lQ)(all:.m)(tg:GF)(cs:.ai TF)(e:EF):.m->.iu .m
 |[],_,h=>.gI .j4 []
 |x::xs,σ,h=>if .j4 then match .wj with
   |some σ=>(kc cs σ h).bind λb h=>if b then .ahs (.CR cs)
    else .CR cs
   |none=>.bad
  else .bad
@[simp] noncomputable def iA(nl:Nat)(caps:.g)(σ:Sd):Sd:=.hp nl++caps.map λi=>slot σ i
@[simp] noncomputable def cy(nl:Nat)(caps:.g)(it:IF)(tg:GF)(cs:.ai TF)(e:EF):LF:=.ax<|.cz it λp h =>
 dj p.2 p.1 tg cs e p.1 .EX h
mutual
noncomputable def pure?: .cH D
 |.ref _=>false
 |.tup l=>i8 l
 |.lit l=>i8 l
 |.exn _ l=>i8 l
 |_=>true
noncomputable def i8:.cH .m
 |[]=>true
 |x::xs=>pure? x&&i8 xs
end
noncomputable def An:.cH bO
 |.lst l=>i8 l
 |.dct l=>.KZ
 |.dcT l=>.KZ
 |.ob l=>i8 l
/---/def Ms(h h':Hd):Prop:=∀n c,.Bl n->h'[n]?=.a8->h[n]?=.a8\/An c=true
/---/def letGo(h:Hd)(r:Res D):Res D:=match r with
 |.ok d h'=>if .j8 d/\Ms h h' then .e0 (h'.take h.length) else .dd
 |r=>r
/---/def runB(n:Nat)(b:SF):Fn:=λds h=>match b .B6 h with
 |.nx _ h=>.v .non
 |.rt d h=>.hH
 |.exc x _ h=>.ic h
 |_=>.bad
/---/def bK(np n:Nat)(b:SF):Fn:=λds h=>.Q ds.length np (.j6<|runB n b ds h) .bad
end
end Fm
namespace Fm
open PySem PySem.Spec L2
/---/def toS(x:.g):Str:=⟨x.toArray⟩
/---/def yo(K:zCM)(H:Hp)(a:Addr)(xs:.R):Prop :=
 (∃o,.fl<|.frz o .wG)\/
  .adQ
/---/def YR(K:zCM)(p:Addr)(vs:.R):Prop:=.Si<|.dj p=.bb/\o.cls=.lh/\.QR vs
/---/def t7(vs:.R):.f6 V:=vs.map λv=>(.kZ "web",v)
section
variable(K:zCM)(ρ:List Addr)(H:Hp)
mutual
noncomputable def RD:D->.bF V
 |.non,v=>v=.non
 |.bl b,v=>v=.bl b
 |.int i,v=>v=.aG
 |.str x,v=>v=.kh x
 |.tup l,v=>.DU<|.wd p/\RDs l vs
 |.lit l,v=>.DU<|yo K H p vs/\RDs l vs
 |.ref n,v=>∃a,.vh a/\v=.z
 |.exn c l,v=>(c≠""/\l=[]/\∃a C,v=.z/\.fl .pH/\.rj c)\/(c=""/\.DU (YR K p vs/\RDs l vs))
noncomputable def RDs:.m->.R->Prop
 |[],vs=>vs=[]
 |d::ds,vs=>∃v r,vs=v::r/\RD d v/\RDs ds r
end
noncomputable def RC:bO->.bF Addr
 |.lst l,a=>∃vs,H a=.x vs/\.dp
 |.dct l,a=>∃kvs,.v0 kvs/\.Je kvs.map/\.yP kvs.map
 |.dcT l,a=>∃kvs,.fl .Hu/\kvs.map (·.1)=.b8 (λp=>p.1.map λi=>(.gc i:Key))/\.yP kvs.map
 |.ob l,a=>∃vs C dx,.AZ (t7 vs)/\.dp/\.rj "Desk"
structure RH(hd:Hd):Prop where
 len:ρ.length=hd.length
 nd:ρ.Nodup
 cel:∀(n:Nat) c a,hd[n]?=some c->ρ[n]?=some a->RC K ρ H c a
structure RSt(σd:Sd)(σ:St):Prop where
 len:σd.length=σ.length
 at':∀i d,slot σd i=some d->∃v,σ[i]?=some (some v)/\RD K ρ H d v
structure RS(σd:Sd)(hd:Hd)(σ:St):Prop where
 hp:RH K ρ H hd
 st:RSt K ρ H σd σ
end
structure Ext(ρ:List Addr)(H:Hp)(ρ':List Addr)(H':Hp):Prop where
 pre:∃t,ρ'=ρ++t
 new:∀a∈ρ',a∈ρ\/H a=none
 frame:∀p o,H p=some o->p∉ρ->H' p=some o
variable{vs:List V}{l:List D}
section
variable{K:zCM}{ρ ρ' ρ'':List Addr}{H H' H'':Hp}{hd hd':Hd}{σd σd':Sd}{σ σ':St}
def Ext.refl:.gq ρ H:=(.xw λ_ _ h _=>h)
def Ext.out(e:.dC)(h:H p=.bb)(n:p∉ρ):p∉ρ':=λz=>by
 rcases e.new p z with q|q
 ·exact n q
 ·rw[.db h]
theorem Ext.trans(a:.dC)(b:.pZ H' ρ'' H''):.gq ρ'' H'' where
 pre:=by
  obtain⟨t,rfl⟩:=a.pre;obtain⟨u,rfl⟩:=b.pre;rw[.o (t++u) .f]
 new:=λx d=>by
  rcases b.new x d with q|q
  ·exact a.new x q
  ·cases e:H x with
   |none=>rw[.b2]
   |some o =>
    by_cases c:x∈ρ
    ·rw[.O c]
    ·rw[.db (a.frame x o e c)]
 frame:=λp o h n=>b.frame p o (a.frame p o h n)<|a.out h n
def Ext.same(s:.Bq):.gq ρ H':=(.xw λp o h _=>s p o h)
def Ext.get(e:.dC){n:Nat}(h:.vh a):ρ'[n]?=.jK:=by
 obtain⟨t,rfl⟩:=e.pre;rw[zAL<|.aw h];exact h
def RH.mut(r:.cE)(h:a∈ρ):(∃vs,H a=.x vs)\/(∃c,.v0 c)\/(∃c,.fl<|.dT c)\/∃C dx i,.AZ i:=by
 obtain⟨n,f⟩:=.WH h;have d:=.aw f;have g:hd[n]?=.a (hd[n]'(.ay r.len d)):=.f
 have q:=r.cel n _ a g f;cases e:hd[n]'(.ay r.len d) with
 |lst l=>rw[.aaK e];rw[.iJ vs b]
 |dct l=>rw[.aaK e];exact .i9 ⟨vs,b⟩
 |dcT l=>rw[.aaK e];exact .fp<|.w0 vs b
 |ob l=>rw[e]at q;obtain⟨vs,C,dx,b,_⟩:=q;rw[.P (.fp ⟨C,dx,_,b⟩)]
def RH.noTup(r:.cE)(h:.wd a):a∉ρ:=λz=>by
 rcases r.mut z with ⟨_,q⟩|⟨_,q⟩|⟨_,q⟩|⟨_,_,_,q⟩<;>(rw[.db h])
def RH.noFrz(r:.cE)(h:.fl .PP):a∉ρ:=λz=>by
 rcases r.mut z with ⟨_,q⟩|⟨_,q⟩|⟨_,q⟩|⟨_,_,_,q⟩<;>(rw[.db h])
def RH.noExt(r:.cE)(h:.fl<|.ext b):a∉ρ:=λz=>by
 rcases r.mut z with ⟨_,q⟩|⟨_,q⟩|⟨_,q⟩|⟨_,_,_,q⟩<;>(rw[.db h])
structure Kp(ρ:List Addr)(H:Hp)(ρ':List Addr)(H':Hp):Prop where
 get:∀(n:Nat) a,ρ[n]?=some a->ρ'[n]?=some a
 tup:∀a vs,H a=some (.tup vs)->H' a=some (.tup vs)
 frz:∀a o u,H a=some (.frz o u)->H' a=some (.frz o u)
 ext:∀a φ,H a=some (.ext φ)->H' a=some (.ext φ)
def RH.kp(r:.cE)(e:.dC):.z9 :=
 ⟨.iY<|e.get h,.iY<|.aaw r.noTup,λ_ _ _ h=>.aaw r.noFrz,.iY<|.aaw r.noExt⟩
def Kp.same(s:.Bq):.ng ρ H':=⟨.iY h,.iY<|.kP s,λ_ _ _ h=>.kP s,.iY<|.kP s⟩
def yo.mono(k:.z9)(h:.tM yo):yo K H' a xs:=by
 rcases h with ⟨o,h⟩|h
 ·rw[.iJ o (.aC k.frz h)]
 ·rw[.P h]
mutual
theorem RD.mono(k:.z9):∀{d:D} {v:V},.cU->.Ph
 |.non,_,h=>.sX
 |.bl _,_,h=>.sX
 |.int _,_,h=>.sX
 |.str _,_,h=>.sX
 |.tup l,_,h=>by
  dsimp[RD]at h⊢;rw[.MT ⟨p,vs,e,k.tup _ _ h1,.O8 b⟩]
 |.lit l,_,h=>by
  dsimp[RD]at h⊢;rw[.MT ⟨p,vs,e,h1.mono k,.O8 b⟩]
 |.ref n,_,h=>by
  dsimp[RD]at h⊢;obtain⟨a,h1,b⟩:=h;rw[.C a (k.get _ _ h1) b]
 |.exn _ l,_,h=>by
  dsimp[RD]at h⊢;rcases h with ⟨f,c,a,C,e,h1,b⟩|⟨c,p,vs,e,h1,b⟩
  ·rw[.O ⟨f,c,a,C,e,k.ext _ _ h1,b⟩]
  ·rw[.P ⟨c,p,vs,e,h1,.O8 b⟩]
theorem RDs.mono(k:.z9):.DI<|.gt RDs l vs
 |[],_,h=>.QL RDs
 |d::ds,_,h=>by
  dsimp[RDs]at h⊢;obtain⟨v,r,e,h1,a⟩:=h;exact⟨v,r,e,RD.mono k h1,.O8 a⟩
end
def RDs.nil:.fs [] []:=.xn RDs
def RDs.cons(h:.cU)(t:.qe ds):.fs (d::ds) (v::vs):=by
 dsimp[RDs];exact .bh v vs h t
theorem RDs.length:.DI<|.Bm vs.length
 |[],_,h=>.UB
 |d::ds,_,h=>by
  rw[.V1];subst e;simp[RDs.length a]
theorem RDs.get:∀{l:.m} {vs:.R} {i:Nat} {d:D},.dp->l[i]?=.a7->∃v,.mR vs/\.cU
 |[],_,i,_,_,e=>.u1
 |d::ds,_,0,_,h,e=>by
  rw[.o8];obtain⟨v,r,a,h1,b⟩:=h;subst a;simp at e;subst e;rw[.C v rfl h1]
 |d::ds,_,i+1,x,h,e=>by
  rw[.o8];obtain⟨v,r,a,h1,b⟩:=h;subst a;obtain⟨w,c,q⟩:=RDs.get b .eF;rw[.C w .tO q]
theorem RDs.set(h:.cU):∀{l:.m} {vs:.R} (i:Nat),.dp->.fs (l.set i d) (vs.set i v)
 |[],_,_,q=>by dsimp[RDs]at q;subst q;exact RDs.nil
 |x::xs,_,i,q=>by
  dsimp[RDs]at q;obtain⟨w,r,e,h1,a⟩:=q;subst e;cases i with
  |zero=>exact .lb h a
  |succ i=>exact .lb h1 (RDs.set h i a)
theorem RDs.append:∀{l b:.m} {vs a:.R},.dp->.fs b a->.fs (l++b) (vs++a)
 |[],_,_,_,h,q=>.Ux q
 |d::ds,_,_,_,h,q=>by
  rw[.o8];obtain⟨v,r,e,h1,c⟩:=h;rw[.d3 (.lb h1<|.po c q)]
theorem RDs.take:.ajd<|.fs (.gP n)<|vs.take n
 |_,_,0,_=>.uJ RDs.nil
 |[],_,n+1,h=>.Ux RDs.nil
 |d::ds,_,n+1,h=>by
  rw[.V1];rw[.d3 (.lb h1<|RDs.take n a)]
theorem RDs.drop:.ajd<|.fs (.hC n)<|vs.drop n
 |_,_,0,h=>.tT
 |[],_,n+1,h=>.Ux RDs.nil
 |d::ds,_,n+1,h=>by
  rw[.V1];subst e;simpa using RDs.drop n a
def RC.mono(k:.z9)(e:H' a=H a)(h:.bT RC c a):.gt RC c a:=by
 cases c with
 |lst l=>obtain⟨f,b,d⟩:=h;exact⟨f,.ir b,d.mono k⟩
 |dct l=>obtain⟨f,b,d,g⟩:=h;exact .alm
 |dcT l=>obtain⟨f,b,d,g⟩:=h;exact .alm
 |ob l=>obtain⟨f,C,i,b,d,g⟩:=h;exact⟨f,C,i,.ir b,d.mono k,g⟩
def RH.same(r:.cE)(s:.Bq):RH K ρ H' hd :=
 ⟨r.len,r.nd,λn c a d b=>.Zy b (.lL s) (by
  rcases r.mut (zAT b) with ⟨_,q⟩|⟨_,q⟩|⟨_,q⟩|⟨_,_,_,q⟩<;>rw[q,s _ _ q])⟩
def RSt.mono(k:.z9)(r:.vk RSt):.gt RSt σd σ :=
 ⟨r.len,λi d h=>let ⟨v,a,b⟩:=r.at' i d h;⟨v,a,b.mono k⟩⟩
def RS.same(r:.oQ)(s:.Bq):RS K ρ H' σd hd σ:=⟨r.hp.same s,r.st.mono<|.lL s⟩
def cj(h:.b9 p):lS H (.pU o):=.uI (by
 rw[aK<|cM e h];exact e)
def RH.alloc(r:.cE)(hp:H p=.x vs)(j:p∉ρ)(h:.dp):RH K .vA H (.aS hd l):=by
 have k:.ng .vA H:=.RS;refine .gi .zB .Yi
 ·rw[zUm]
  rw[.C r.nd .f λa i b g=>by simp at g;subst g;intro e;rw[.d3 (j i)]]
 ·by_cases hlt:.u9
  ·rw[zAL hlt]at d
   rw[.Nf hlt]at f;exact .Zy f k rfl
  ·have m:n=hd.length:=by
    have:=.aw d;simp at this
    lia
   subst m;rw[.H5];rw[<-r.len]at f;simp at f;subst f;rw[.C vs hp (h.mono k)]
theorem uW{α:Type}:∀{l:.bY},l.Nodup->∀{i j:Nat} {x:α},.iS l->l[j]?=.aF->i=j
 |[],_,i,_,_,e,_=>.u1
 |a::l,nd,0,0,_,_,_=>rfl
 |a::l,nd,0,j+1,x,e,b=>by
  simp at e b;rw[.d3 (.B (zAT b) (.rT).1)]
 |a::l,nd,i+1,0,x,e,b=>by
  simp at e b;subst b;exact .B (zAT e) (.rT).1
 |a::l,nd,i+1,j+1,x,e,b=>by
  simp at e b;rw[uW (.rT).2 e b]
def RH.write(r:.cE)(hp:.vh p)(g:.u9)(h:.dp):RH K ρ (.HW vs) (hd.set n<|.q l):=by
 have k:.ng ρ (.HW vs):=by
  have f:=zAT hp;refine .aeb
  ·rw[.VE f];exact e
  ·rw[.VF f];exact e
  ·rw[.VC f];exact e
 refine⟨.zB,r.nd,λm c a b d=>?_⟩
 rw[.aV n m]
 ·subst e
  rw[X0 g]at b;cases b;rw[.pL hp];rw[.C vs aR (h.mono k)]
 ·rw[zBO e]at b
  have ne:a≠p:=λz=>by
   subst z;exact .ZA d
  exact(.Ld m b d).mono k (aK ne)
def Ext.write(hp:p∈ρ):.gq ρ (.pU o) :=
 (.xw λq u e n=>.yc λz=>n<|.p z hp)
def Ext.alloc(h:.b9 p):.gq .vA (.pU o) :=
 ⟨.g5 [p],λa b=>by
  rcases .f5 b with q|q
  ·rw[.O q]
  ·rw[.Ai];rw[.P h],.WW h⟩
def RS.ext(r:.oQ)(e:.dC)(h:.gt RH hd'):.A4:=⟨h,r.st.mono<|r.hp.kp e⟩
end
noncomputable abbrev VR(α β:Type):=.am->Hp->α->.bF β
section
variable(K:zCM)
/---/def bZ{α β:Type}(R:.A8)(ρ:.am)(H:Hp)(σd:Sd)(σ:St)(r:.e2)(Q:.jv):Prop:=match r with
 |.ok a hd'=>.SC
 |_=>False
/---/def qG{α β:Type}(R:.A8)(f:.iu α):St->.rm β:=λσ H Q =>
 .mV<|.wx .hh
noncomputable abbrev rD:VR D V:=λρ H d v=>.cU
noncomputable abbrev rDs:VR .m .R:=λρ H d v=>.fs d v
noncomputable abbrev rB:VR Bool Bool:=λ_ _ a b=>a=b
noncomputable abbrev rO:VR .X .X:=λ_ _ a b=>a=b
/---/def rQ:VR .m V:=λρ H l v=>.agK
/---/def GZ(ρ:.am)(H:Hp)(σd:Sd)(σ:St)(r:Res .m)(Q:VK):Prop:=match r with
 |.ok l hd'=>.acJ
 |_=>False
/---/def abE(f:LF):TE:=.fb<|.mV<|.vk GZ .hh Q
/---/def de(ρ:.am)(H:Hp)(o:Out)(E:wE):Prop:=match o with
 |.nx σd hd=>.Tm E.nx
 |.bk σd hd=>.Tm E.bk
 |.ct σd hd=>.Tm E.ct
 |.rt d hd=>∀v H' ρ',.dC->.gt RH hd->.Ph->E.rt v H'
 |_=>False
/---/def XA(f:SF):TS:=λE σ H=>.mV<|.bT de .hh E
end
/---/def ME(X:Cx)(e:Expr)(f:EF):Prop:=.dG<|.kL .qT f
/---/def MQ(X:Cx)(e:Expr)(f:LF):Prop:=.dG<|.kL (rQ X.K) f
/---/def MF(X:Cx)(e:Expr)(f:LF):Prop:=.dG<|abE X.K f
/---/def MT(X:Cx)(e:Expr)(f:TF):Prop:=PT X e<|.kL rB f
/---/def MW(X:Cx)(e:Expr)(f:TF):Prop:=PW X e<|.kL rB f
/---/def MA(X:Cx)(es:.dy)(f:LF):Prop:=.Bz<|.kL (rDs X.K) f
/---/def MS(X:Cx)(s:Stmt)(f:SF):Prop:=PS X s<|XA X.K f
/---/def MSs(X:Cx)(s:.el)(f:SF):Prop:=.iE s<|XA X.K f
variable{e:Expr}
section
variable{X:Cx}
def PE.imp{t u:TE}(h:.dG t)(i:.I0):.dG u:=.ae5
def PT.imp{t u:TT}(h:PT X e t)(i:.I0):PT X e u:=.ae5
def PW.imp{t u:TT}(h:PW X e t)(i:.I0):PW X e u:=λw pins s σ H Q I q=>.X6 w<|.aU i Q q
def PA.imp{e:.dy}{t u:TA}(h:PA X e t)(i:.I0):PA X e u:=λp pins s σ H Q I q=>.X6 p<|.aU i Q q
def PS.imp{e:Stmt}{t u:TS}(h:PS X e t)(i:.aoq):PS X e u:=.aeR
def PSs.imp{e:.el}{t u:TS}(h:.iE e t)(i:.aoq):.iE e u:=.aeR
end
section
variable{K:zCM}{ρ ρ':List Addr}{H H':Hp}{hd hd':Hd}{σd:Sd}{σ:St}{α β α' β':Type}{R:VR α β}{R':VR α' β'}
def bZ.here{a:α}{b:β}{Q:.jv}(h:.wx<|.ok a hd)(r:.oQ)(q:R ρ H a b):Q b H:=h b H ρ Ext.refl r q
def bZ.at{a:α}{b:β}{Q:.jv}(h:.wx<|.ok a hd)(e:.dC)(r:.Jd hd)(q:R ρ' H' a b):Q b H':=h b H' ρ' e r q
def bZ.imp{r:.e2}{Q c:.jv}(h:.wx r)(i:.amv):.xm R r c:=by
 cases r with
 |ok a d=>exact .aiy
 |exc x d=>exact h
 |bad=>exact h
def bZ.ext{r:.e2}{Q:.jv}(e:.dC)(h:.wx r):bZ K R ρ' H' σd σ r Q:=by
 cases r with
 |ok a f=>exact λb c ρ'' d s q=>h b c ρ'' (.ir d) s q
 |exc x f=>exact h
 |bad=>exact h
def bZ.bind{r:.e2}{k:.wC α'}{Q:.di β'}(h:.xm R' (r.bind k) Q):
  .xm R r (.aeB<|bZ K R' ρ' H' σd σ (k a hd') Q):=by
 cases r with
 |ok a c=>exact .Uj ⟨ρ',a,c,e,s,q,bZ.ext e h⟩
 |exc x c=>exact h
 |bad=>exact h
def de.ext{o:Out}{E:wE}(e:.dC)(h:.bT de o E):.gt de o E:=by
 cases o with
 |nx σ c=>exact .Rb
 |bk σ c=>exact .Rb
 |ct σ c=>exact .Rb
 |rt d c=>exact λv a ρ'' b s q=>h v a ρ'' (.ir b) s q
 |exc x σ c=>exact h
 |bad=>exact h
end
variable{x:Str}{b:Expr}{H:Hp}{ρ:List Addr}{f:EF}{t:TF}
section
variable{X:Cx}{pos:Pos}
def YS{i:Nat}(j:.gd)(f:.Ob Vis)(hd:autoParam (.a5) Q1Q._auto_1)(a:autoParam (.tG x) Q1Q._auto_1):.aL .km (aa i):=by
 refine .U (Ac j f hd a) .EF;obtain⟨ρ,σd,hd,r,h⟩:=g;unfold aa at h;cases e:slot σd i with
 |none=>rw[.Ic e]
 |some d =>
  rw[e]at h;obtain⟨v,b,c⟩:=r.st.at' i d e;rw[.C v b (h.here r c)]
def wN{K:zCM}{d:D}{v:V}(a:∀ρ H,.cU):∀σ H Q,.FQ (fC d) σ H Q->tC v σ H Q:=λ_ H _ b=>by obtain⟨ρ,_,_,r,h⟩:=b;exact h.here r<|a ρ H
def au{i:Int}{j}:.aL (.q4 .aG pos) (.W i):=.KR Qw
def jM{b j}:.aL (.q4 (.g0 b) pos) (fC<|.bl b):=.KR abe
def eu{j}:.aL (.q4 .none pos) .gr:=.KR Yn
def ay{j}(l:.g)(h:x=toS l):.aL (.G3 x pos) (.ae l):=.ain Ad
def oW{i:Int}{t:Tok}(a:.bo)(b:X.mg x=.a (.aG t))(hd:autoParam (.a5) Q1Q._auto_1):.aL .km (.W i) :=
 .KR<|fA (v:=.aG) a b .pN hd
def me2{a b:Expr}{s q:EF}{r:R2}{g:O2}(h:.dG<|tOp r (.kL .qT s)<|.kL .qT q)
  (A:∀ρ H σd hd σ d k v w Q,.Ll->.O3->.zo RD k w->.Kq (g d k hd)->r v w H Q):.kp (aj g s q):=by
 refine .U h .EB;obtain⟨ρ,σd,hd,y,p⟩:=c;refine .au hd y (.aq p λv C c=>?_);obtain⟨n,d,l,D,f,z,B⟩:=c;refine .bv n l f (.aq B λw x c=>?_);obtain⟨o,k,m,t,i,j,u⟩:=c;exact A o x σd m σ d k v w Q i (z.mono<|f.hp.kp t) j u
/---/def Og(K:zCM)(g:O2)(r:R2):Prop:=∀ρ H σd hd σ d k v w Q,.oQ->.cU->.sg w->.Pl (g d k hd) Q->r v w H Q
def bF{a:Expr}{d c:EF}{op:Operator}{r:R2}{g:O2}(e:.ot op r)(h:.O0)(f:.bq d)(i:.fJ c):.aL (.EN op) (aj g d c) :=
 .Lo (QF e f i) h
def gH{a:Expr}{c d:EF}{op:CmpOp}{r:R2}{g:O2}(i:.Bb)(j:.O0)(e:.bq c)(h:.fJ d)(f:.xL op):.aL (.Ez op) (aj g c d) :=
 .Lo (U9 i e h f) j
def Cn{K:zCM}{g:.Bu}:Og K (oI g) (rI0 .OP):=by
 intro ρ H σd e σ d k v w Q c b a p;cases d<;>cases k<;>first|rw[.bC]|skip
 dsimp[RD]at b a;exact⟨_,_,b,a,.jq c⟩
def t8{K:zCM}{g:.Hf}:Og K (oB g) .aml:=by
 intro ρ H σd e σ d k v w Q c b a p;cases d<;>cases k<;>first|rw[.bC]|skip
 dsimp[RD]at b a;exact⟨_,_,b,a,.jq c⟩
def Q0{K:zCM}{c:.Hf}{C:Int->.bF Int}{g:.Bu}(f:∀i j,c i j=true->C i j):Og K (oIc c g) (rI C .OP):=by
 intro ρ H σd l σ d k v w Q h b a p;cases d<;>cases k<;>first|rw[.bC]|skip
 rename_i i j
 dsimp[RD]at b a;cases e:c i j with
 |false=>dsimp[oIc,e]at p;rw[.bC]
 |true =>
  dsimp[oIc,e,zYh]at p;exact⟨i,j,b,a,f i j e,.jq h⟩
def Mt{i:Int}(h:.kv i): -(2^64)<i/\i<2^64:=by
 dsimp[sml,UE,vb]at h;exact h
def jN{K:zCM}:Og K ek (rI U8<|.ra<|i*j):=Q0 λi j h=>by
 rcases (Bool.or_eq_true _ _).mp h with q|q
 ·rw[.O (Mt q)]
 ·rw[.P (Mt q)]
def fZ{K:zCM}:Og K dU .aj3:=Q0 λi j h=>X2 h
/---/def abF(_ j:Int):Prop:=0<j/\j<2^250
def i9:.ot .FloorDiv .anN:=opI λi j _ _ _ _ _ a q=>by
 have d:j≠0:=by have:=a.1;omega
 refine PyProof.Rows.floordiv_int d (by rw[Int.fdiv_eq_ediv_of_nonneg _<|zVr a.1];exact q) (.G (PyProof.noPylong_of_log2 ?_));have c:j.natAbs<2^250:=by have:=a.2;have:=a.1;omega
 have b:j.natAbs≠0:=.bm
 have:=(Nat.log2_lt b).mpr c;omega
def oj{K:zCM}:Og K lV .anN:=Q0 λi j h=>by
 dsimp[UE,vb]at h;exact h
def EH{K:zCM}{d:D}{v:V}(h:.cU):tJ d=.aN v .non:=by
 cases d<;>dsimp[RD]at h
 ·subst h;rfl
 ·subst h;rfl
 ·subst h;rfl
 ·subst h;rfl
 ·obtain⟨p,a,rfl,_⟩:=h;rfl
 ·obtain⟨p,a,rfl⟩:=h;rfl
 ·obtain⟨p,a,rfl,_⟩:=h;rfl
 ·rcases h with ⟨_,_,p,a,rfl,_⟩|⟨_,p,a,rfl,_⟩<;>rfl
def t9{K:zCM}:Og K oS .afQ:=by
 intro ρ H σd f σ d k v w Q b c a p;unfold oS at p;cases e:tJ k with
 |false=>rw[.c2 e]
 |true =>
  rw[e,.cb]at p;refine .al2;rw[<-EH c];exact .jq b
def mr{K:zCM}:Og K jK .afX:=by
 intro ρ H σd f σ d k v w Q b c a p;unfold jK at p;cases e:tJ k with
 |false=>rw[.c2 e]
 |true =>
  rw[e,.cb]at p;refine .al2;rw[<-EH c];exact .jq b
def my{K:zCM}(h:.xm rB (asB r) Q):.Pl r (λx f=>.HF<|Q c f):=by
 refine .aq h λv k j=>?_;obtain⟨i,d,g,l,a,b,e⟩:=j;cases d<;>first|rw[.ta]|skip
 dsimp[rD,RD]at b;exact .bP b<|e.here a rfl
def cX(h:.iK)(he:autoParam (∀a,.u4 e a=(do let v <-a;.AO e.pos;.nj [v] (truthy v))) Q2Q._auto_1):MT X e (tE f) :=
 PT.imp (Yo h he) λσ H Q d=>by obtain⟨ρ,σd,c,b,p⟩:=d;exact .au c b<|my p
def bc(q:.Bb)(C:.O0)(x:.bq o)(z:.fJ n)(y:.xL op):MT X (.Ez op) (tE<|aj g o n):=by
 refine PT.imp (zA q x z y) .EB;obtain⟨ρ,σd,E,A,p⟩:=c;have p:=my p;refine .au E A (.aq p λv F c=>?_);obtain⟨l,d,i,G,e,B,D⟩:=c;refine .bv l i e (.aq D λw u c=>?_);obtain⟨m,k,j,s,f,h,t⟩:=c;exact C m u σd j σ d k v w _ f (B.mono<|e.hp.kp s) h t
def cZ(h:.n2 a):MT X .Lb (cW t):=by
 refine PT.imp (Yr h) .tS;obtain⟨ρ,σd,f,g,p⟩:=e;refine .ajF;obtain⟨j,d,i,n,b,k,l⟩:=e;cases k;exact l.here b rfl
def i3(h:.n2 a)(b:op=BoolOp.And\/op=BoolOp.Or):MW X (.F8 op) t:=by
 rcases b with rfl|rfl
 ·exact U5 h
 ·exact Yp h
def J2{rest:.dy}{u:TF}(k:.n2 a)(l:MW X (.s2 .And) u):MW X (.sS .And) (lQ t u):=by
 refine PW.imp (Yq k l) .q0;rw[.Kh .JA];cases n;cases c with
 |true=>rw[.Qx];exact .OD
 |false=>dsimp[zZf,zWd]at f⊢;exact .N4
def oX{rest:.dy}{u:TF}(k:.n2 a)(l:MW X (.s2 .Or) u):MW X (.sS .Or) (tOr t u):=by
 refine PW.imp (abf k l) .q0;rw[.Kh .JA];cases n;cases c with
 |true=>rw[.Qx];exact .N4
 |false=>dsimp[zZf,zWd]at f⊢;exact .OD
def MW.mt(h:MW X e t):.n2 e:=h.pt
def Vn{K:zCM}{σ:St}{Q:VK}(h:.FQ (fT t) σ H Q):qG K rB t σ H (λb e=>.C4 b e):=by
 obtain⟨ρ,σd,f,g,p⟩:=h;refine .au f g (.aq p λc n l=>?_);obtain⟨j,d,i,o,a,k,m⟩:=l;cases k;exact m.here a .eJ
/---/def MB(X:Cx)(e:Expr)(t:TF):Prop:=.dG<|.fb<|.kL rB t σ H λb H'=>.C4 b H'
def MB.me(h:MB X e t):.kp (fT t):=.U h λ_ _ _ q=>Vn q
def ju(h:.iK):MB X e (tE f):=by
 refine .U h .D3;obtain⟨ρ,σd,d,a,p⟩:=b;refine .au d a (.Iw my ?_);rintro v g ⟨c,rfl,q⟩;exact q
def om(h:MB X a t):MB X (.F8 op) t:=Ys h
def qM{rest:.dy}{u:TF}(k:MB X a t)(l:MB X (.s2 .And) u):MB X (.sS .And) (lQ t u):=by
 refine .U (Yt k l) .q0;rw[.Kh .JA];rw[.eD c rfl];cases n;cases c with
 |true=>rw[.Qx];exact .OD
 |false=>dsimp[zZf,zWd]at f⊢;exact .N4
def Q1{rest:.dy}{u:TF}(k:MB X a t)(l:MB X (.s2 .Or) u):MB X (.sS .Or) (tOr t u):=by
 refine .U (abi k l) .q0;rw[.Kh .JA];rw[.eD c rfl];cases n;cases c with
 |true=>rw[.Qx];exact .N4
 |false=>dsimp[zZf,zWd]at f⊢;exact .OD
def YT(h:MB X a t):MB X .Lb (cW t):=by
 refine .U (Yu h) .tS;obtain⟨ρ,σd,f,g,p⟩:=e;refine .ajF;obtain⟨j,d,i,n,b,k,l⟩:=e;rw[.eD c rfl];cases k;exact l.here b rfl
def Mu(m:.n2 c)(l:.bq k)(n:.fJ j):.aL (.Nx c) (fIf t k j):=by
 refine .U (Qx m l n) .q0;obtain⟨ρ,σd,r,o,p⟩:=i;refine .au r o (.aq p λc s i=>?_);obtain⟨f,d,e,u,g,q,h⟩:=i;cases q;cases c with
 |true=>dsimp[zYh]at h⊢;exact .bv f e g h
 |false=>dsimp[zZf,zWd]at h⊢;exact .bv f e g h
end
section
variable{X:Cx}{pos:Pos}
def J3{K:zCM}{B D y:EF}{Q:VK}(U:Og K g r)(R:Og K k A)(rs:.oQ)
  (p:.Pl (Al g k B D y σd hd) Q):QG r A (.FQ B) (.FQ D) (.FQ y) σ H Q:=by
 rw[.c0 (.HP (.aq p λv W a=>?_)) .oM];obtain⟨m,d,l,Y,f,M,N⟩:=a;rw[.eR (e ?_) (.bv m l f (.aq N λw J a=>?_)) .oM];obtain⟨t,C,s,G,h,rw2,I⟩:=a;rw[.ht e (U t J σd s σ d C v w _ h (M.mono<|f.hp.kp G) rw2 (.aq I λz V a=>?_)) .oM];obtain⟨o,T,j,P,c,rz,n⟩:=a;refine e ?_;cases T<;>first|exact n.elim|skip
 rename_i b
 dsimp[rD,RD]at rz;rw[.eD b rz];cases b with
 |false =>
  rw[yM UG];exact n.here c .eJ
 |true =>
  rw[.cb];rw[.c0 (.bv o j c (.aq n λu F a=>?_)) .oM];obtain⟨i,E,x,L,q,S,O⟩:=a;rw[.cv e (R i F σd x σ C E w u Q q (.of rw2.mono (h.hp.kp P)<|c.hp.kp L) S O)]
def Q2{r f:R2}(s:.Bb)(e:.gs d f)(v:.O0)(t:Og X.K k f)(l:.bq h)(o:.fJ j)(n:.aL c i)
  (m:.alL d:=by with_unfolding_all rfl):.aL (.x7 a [op,d] [b,c] pos) (Al g k h j i) :=
 .U (QH s e l o n m) λ_ _ _ u=>by obtain⟨_,_,_,q,p⟩:=u;exact J3 v t q p
def ao:MA X [] am:=PA.imp eO λ_ _ _ b=>by obtain⟨_,_,_,a,p⟩:=b;exact .j3 a RDs.nil
def ag(he:.iK)(k:MA X c r)(w:autoParam (.hl c=.i3 c) Q3Q._auto_1):MA X (e::c) (ae f r):=by
 refine PA.imp (cD he k w) λσ H Q a=>?_;obtain⟨ρ,σd,u,n,p⟩:=a;refine .au u n (.aq p λv x a=>?_);obtain⟨j,d,i,z,b,s,t⟩:=a;refine .bv j i b (.aq t λA y a=>?_);obtain⟨q,B,o,l,g,h,m⟩:=a;exact m.here g<|.lb (s.mono<|b.hp.kp l) h
def pK(h:n<=SZ):.S n:=.bf h
def eS(h:MA X g r):.aL (.u7 g) (dh r):=by
 refine .U (Ey h) λσ H Q d=>?_;obtain⟨ρ,σd,t,l,p⟩:=d;refine .au t l (.aq p λi u d=>?_);obtain⟨n,s,m,v,f,a,b⟩:=d
 by_cases e:s.length<=SZ
 ·rw[z3 e]at b
  refine⟨.ay a.length<|pK e,λq j=>?_⟩;have c:=.oA i j;exact b.at (.f8 c) (f.same c) (.ach i)
 ·rw[.bR (yM e)]
def Ext.fresh{b:Hp}(e:.gp b)(h:b q=none)(n:q∉ρ'):.b9 q:=by
 cases z:H q with
 |none=>rfl
 |some o =>
  by_cases a:q∈ρ
  ·obtain⟨t,rfl⟩:=e.pre
   exact .B (zVk t a) n
  ·rw[.hv (e.frame q o z a)]
def RH.free{K:zCM}(r:.cE)(h:.b9 q):q∉ρ:=λz=>by
 rcases r.mut z with ⟨_,e⟩|⟨_,e⟩|⟨_,e⟩|⟨_,_,_,e⟩<;>(rw[.bd h])
def GZ.mk{K:zCM}{b:Hp}(p:.vk GZ (.ok l c) Q)(g:.gq a b)(d:RS K a b σd c σ)(r:RDs K a b l vs):
  ∀q,b q=none->.iU q (upd b q<|.q vs):=λq e=>by
 have f:=.NH vs e;have h:=d.hp.free e;exact p q vs _ a (g.trans<|.f8 f) (d.same f) (g.fresh e h) aR h<|r.mono<|.lL f
def ck(h:MA X c r)(d:.P0<|.kR hd=.kK hd'->ds.length<=SZ):MF X (.List c pos) r:=by
 refine .WB<|QK h;obtain⟨ρ,σd,hd,g,p⟩:=k;refine .eU hd g;cases e:.kR hd with
 |exc x m=>rw[.br]
 |bad=>rw[.br]
 |ok ds i =>
  rw[e]at p;intro n l j f b a;exact⟨by rw[<-RDs.length a];exact pK<|.cd d e,p.mk f b a⟩
def ak(h:.P0<|.kR hd=.kK hd'->.vZ n):.P0 (ae f r σd hd=.kK hd'->.vZ (n+1)):=by
 intro σd hd ds hd' e;dsimp[ae]at e;cases b:.hh with
 |exc x i=>rw[.bd b]
 |bad=>rw[.bd b]
 |ok d c =>
  rw[b]at e;dsimp[aE]at e;cases a:.kR c with
  |exc x i=>rw[.bd a]
  |bad=>rw[.bd a]
  |ok g j =>
   rw[a]at e;rw[.na aE];simp[.cd h a]
def bh:.P0 (am σd hd=.kK hd'->.vZ 0):=by
 intro σd hd ds hd' e;rw[.na am];rfl
def bN(h:MF X e r):.kp (bJ r):=by
 refine .U8;obtain⟨ρ,σd,l,k,p⟩:=m;refine .eU l k;unfold bJ at p;cases e:.kR l with
 |exc x A=>rw[.br]
 |bad=>rw[.br]
 |ok y v =>
  rw[.vM e aE];intro q B n g d b c o u f
  by_cases j:y.length<=SZ
  ·rw[z3 j]at p
   have w:=b.hp.alloc o u f;have i:.gq (g++[q]) n:=.adk (by
    rw[.nb s]
    ·exact d.new a z
    ·simp at z;subst z;rw[.P c])
   refine p.at i (k.ext i w) ?_;dsimp[rD,RD];refine .gi q rfl;rw[<-b.hp.len];simp
  ·rw[.c2 (yM j)]
def iF(h:MF X e r):MQ X e r:=by
 refine .U8;obtain⟨ρ,σd,d,k,p⟩:=m;refine .eU d k;cases e:.kR d with
 |exc x s=>rw[.br]
 |bad=>rw[.br]
 |ok t l =>
  rw[e]at p;intro q j f b i c n g o a;exact .bi p q f b i c (.bh q j (.G<|.e4 g) a)
def yo.sq{K:zCM}(h:.tM yo):.A5:=by
 rcases h with ⟨o,h⟩|h
 ·rw[.O (.F<|.fz h)]
 ·rw[.P h]
def EI{K:zCM}(r:.cE)(h:.cU)(e:oU hd d=.eC):.agK:=by
 cases d<;>dsimp[oU]at e<;>try (rw[.eX])
 ·cases e
  rw[.jz];rw[.VY ⟨p,vs,b,.F f,g⟩]
 ·rename_i n
  rw[.jz];obtain⟨a,b,f⟩:=h;cases c:hd[n]? with
  |none=>rw[.bO]
  |some x =>
   rw[.dL];cases x with
   |dct l=>cases e
   |dcT l=>cases e
   |ob l=>cases e
   |lst i =>
    cases e;obtain⟨vs,q1,q2⟩:=.lV r.cel b;exact⟨a,vs,f,.G<|.e4 q1,q2⟩
 ·cases e
  rw[.jz];rw[.VY ⟨p,vs,b,.G f.sq,g⟩]
def dv(h:.iK):MQ X e (lOf f):=by
 refine .U h .EF;obtain⟨ρ,σd,i,j,p⟩:=g;refine .au i j (.aq p λv n g=>?_);obtain⟨k,d,c,o,a,m,b⟩:=g;cases e:oU c d with
 |none=>rw[.bR e]
 |some l=>rw[.iy e (b.here a<|EI a.hp m e)]
def Mv{K:zCM}(r:.dp)(e:.wk=.a7):∃v,L2.atI vs i=.aM/\.cU:=by
 unfold atI at e;unfold L2.atI;have a:=r.length;have b:.pl ixN i=L2.ixN vs.length i:=.aE a
 rw[b]at e;cases c:L2.ixN vs.length i with
 |none=>rw[.bO]
 |some j =>
  rw[.dL];dsimp[Option.bind_some]at e⊢;exact r.get e
def bi(y:.bq s)(z:.fJ o)(C:uU b):.t7 b (fAt s o):=by
 refine .Lo (Mr YI y z C) λρ H σd B σ d k v w Q h A c p=>?_;unfold oAt at p;cases e:oU B d with
 |none=>rw[.c2 e]
 |some l =>
  rw[e]at p;cases k<;>first|rw[.bC]|skip
  rename_i i
  simp only at p;cases g:.wk with
  |none=>rw[.c2 g]
  |some x =>
   rw[g]at p;dsimp[RD]at c;obtain⟨q,t,n,f,j⟩:=EI h.hp A e;obtain⟨u,m,r⟩:=Mv j g;rcases f with f|f
   ·rw[.O ⟨q,t,i,u,n,c,f,m,.j3 h r⟩]
   ·exact .i9 ⟨q,t,i,u,n,c,.d7 f,m,.j3 h r⟩
def Ao(B:MF X a m)(G:.fJ s)(L:uU b):.t7 b (fIx m s):=by
 refine .U (Mr EB B G L) λσ H Q j=>?_;obtain⟨ρ,σd,v,I,p⟩:=j;refine .eU v I;unfold fIx at p;cases e:m σd v with
 |exc x M=>rw[.br]
 |bad=>rw[.br]
 |ok l o =>
  rw[.vM e aE];intro q F N r D f z A C n;refine .bv r o f (.aq (p.ext D) λw O j=>?_);obtain⟨K,k,J,t,h,d,c⟩:=j;cases k<;>first|rw[.bK]|skip
  rename_i i
  simp only at c;cases g:.wk with
  |none=>rw[g]at c;rw[.bK]
  |some x =>
   rw[g]at c;dsimp[rD,RD]at d;obtain⟨u,y,E⟩:=Mv (n.mono<|f.hp.kp t) g;exact⟨q,F,i,u,rfl,d,.e4<|t.frame q _ A C,y,c.here h E⟩
end
variable{p:Pos}
section
variable{X:Cx}{pos:Pos}
/---/def B1(X:Cx)(r:.oU)(x:Str)(p pos:Pos)(a:Expr):Prop:=∀t,PA X [a] t->PE X (.EQ x) (tCB r t)
def G0{a:Expr}{id:String}{r:.oU}(f:.ln id r)(h:.bo)(e:.bX x)(g:.qV .GP)(d:autoParam (.oF) Q1Q._auto_1)(b:autoParam (.a5) Q1Q._auto_1)
  (he:autoParam (.hk) Q3Q._auto_1):.LO:=λ_ c=>oP f h e g c d b he
def G1{a:Expr}{T:String}{r:.oU}(f:.vl T r)(h:.bo)(e:.bX x)(g:.qV<|.bQ T)(d:autoParam (.oF) Q1Q._auto_1)(b:autoParam (.a5) Q1Q._auto_1)
  (he:autoParam (.hk) Q3Q._auto_1):.LO:=λ_ c=>wK f h e g c d b he
def EJ{g:.m->.tI D}(o:.LO)(n:MQ X a i)
  (u:∀ρ H σd hd σ l q vs Q,.Ll->(.lX H q vs\/.wd q)->.zo RDs l vs->.Kq (g l hd)->r [.d q] H Q)
  (y:autoParam (.hk) Q3Q._auto_1):.ke x (.ax<|.cz i λl h=>g l h):=by
 refine .U (o _<|.d9 n y) .D3;obtain⟨ρ,σd,hd,s,k⟩:=b;refine .au hd s (.aq k λv m b=>?_);obtain⟨e,l,d,z,f,⟨q,vs,j,t,c⟩,w⟩:=b;subst j;exact u e m σd d σ l q vs Q f t c w
def Dq{g:D->.tI D}(m:.LO)(l:.bq i)
  (q:∀ρ H σd hd σ d v Q,.Ll->.O3->.Kq (g d hd)->r [v] H Q)
  (t:autoParam (.hk) Q3Q._auto_1):.ke x (.ax<|.cz i λx h=>g x h):=by
 refine .U (m _<|.d9 l t) .D3;obtain⟨ρ,σd,hd,n,j⟩:=b;refine .au hd n (.aq j λv k b=>?_);obtain⟨e,d,c,u,f,o,s⟩:=b;exact q e k σd c σ d v Q f o s
def dq{c:LF}(j:.b3 "len")(f:.bX "len")(e:MQ X a c)(d:autoParam (.hk) Q3Q._auto_1):.ke "len" (c8 c) :=
 EJ (G0 uV j f PySem.boot_len (he:=d)) e (λρ H σd k σ l q g Q h i b p=>.bh q g (i.imp id SqT.of)<|.ay b.length<|.jq h) d
def kE{f:LF}(n:.b3 "tuple")(k:.bX "tuple")(j:MQ X a f)(h:autoParam (.hk) Q3Q._auto_1):.ke "tuple" (hU f):=by
 refine EJ (G1 Cm n k .ac (he:=h)) j (λρ H σd r σ l q d Q g b c p=>.mh q d ?_) h;rcases b with b|b
 ·refine .w0 b λm i=>?_
  have e:=.oA d i;exact p.at (.f8 e) (g.same e) (.nG m d aR<|c.mono<|.lL e)
 ·rw[.P ⟨.d7 b,.j3 g<|.nG q d b c⟩]
def Vo{c:EF}(i:.b3 "int")(h:.bX "int")(g:.bq c)(f:autoParam (.hk) Q3Q._auto_1):.ke "int" (QY c):=by
 refine Dq (G1 Ow i h .ac (he:=f)) g (λρ H σd j σ d v Q e b p=>?_) f;cases d<;>first|rw[.bC]|skip
 ·rw[.Qv RD]
  rw[.P (.hJ _<|.j3 e .tK)]
 ·rw[.Qv RD]
  rw[.O (.hJ _<|.jq e)]
def G2(ns:.l):.S9 ns.length=ns.sum:=by
 have a:∀k,k<=ns.length->.S9 k=(ns.take k).sum:=by
  intro k
  induction k with
  |zero=>intro _;simp[PySem.preSum]
  |succ k b =>
   intro c;rw[PySem.preSum,b .b,List.take_add_one,zAN .b,List.sum_append];simp[List.getD,zAN<|show k<ns.length by lia]
 rw[a _<|zBK _,zYv]
def Mw{ns:.l}(r:bS .lg a)(i:Nat)(v:R0)(h:.Y9):∃t,v=.e (ns.getD i 0) t:=by
 have c:.mR a:=.tT
 have g:=r.length;have f:.wb i:=.aw c;have b:i<ns.length:=by rw[<-g]at f;simpa using f
 obtain⟨u,d,j⟩:=.jE r.get (x:=.int ns[i])<|.k b;rw[.pL c];obtain⟨t,e⟩:=j;rw[.o t (by rw[e];simp[List.getD,b])]
def OA(B:.bB):.ln "sum" (.kq<|∃(p:Addr) (ns:.l),.MI/\(.lX H p .lg\/.pE p .lg)/\.wc ns.sum):=by
 intro pins s σ H xs C Q I r q;obtain⟨p,ns,rfl,l,q⟩:=q;obtain⟨u,rfl,A⟩:=bS.one r;cases (show .d8 p from A);have fin:∀{x:Obj} {h:Heap} {t:Nat} {k:Tok} {n:Nat},n=ns.length->.ag4->.hm (.e (.S9 n) k) { s with heap:=h,toks:=t }:=by
  intro x h t k n z j;subst z;refine⟨.e ns.sum,H,.ag0,⟨k,.bA G2⟩,q⟩
 have w:.amL:=.ip B;rcases l with l|l
 ·obtain⟨a,m,v,y⟩:=.e3 l
  have g:.UF p:=v.isList;have c:.eH p:=.ahB
  refine PySem.call_sum_walkG .ajt;refine .acx PySem.Walks.list
  ·obtain⟨o,f,r⟩:=g;rw[.ci (.gv f) r]
  ·intro b d
   rw[.uB d]
   ·rw[zZi];exact wx _
   ·rw[.H5];rw[zZi];exact zj c
  ·exact .aeo
 ·obtain⟨a,m,v,y⟩:=.dm l
  have g:.Yf:=v;have c:.eH p:=.ahB
  refine PySem.call_sum_walkG .ai6;refine .acx PySem.Walks.tuple
  ·obtain⟨o,f,r⟩:=g;rw[.ci (.gv f) r]
  ·intro b d
   rw[.uB d]
   ·rw[zZi];exact wx _
   ·rw[.H5];rw[zZi];exact zj c
  ·exact .aeo
theorem uX{K:zCM}{ρ:.am}{H:Hp}:∀{l:.m} {vs:.R} {is:.l},.dp->lH l=.a is->vs=is.map V.int
 |[],_,is,r,e=>.Q7 lH
 |d::l,_,is,r,e=>by
  rw[.VW RDs];cases d<;>dsimp[lH]at e<;>try (rw[.eX])
  rename_i i
  cases c:lH l with
  |none=>rw[.bO]
  |some b =>
   rw[.bO];rw[.Ig];rw[h1,uX a c];rfl
def Ka{d:LF}(i:.bB)(n:.b3 "sum")(h:.bX "sum")(g:MQ X a d)(f:autoParam (.hk) Q3Q._auto_1):.ke "sum" (Am d):=by
 refine .adi OA;cases c:lH l with
 |none=>rw[.Ah c]
 |some k =>
  dsimp[c]at p;have e:=uX b c;rw[.qv .ah9]
end
section
variable{K:zCM}{ρ:List Addr}{H:Hp}
mutual
theorem G4:∀{d k:D} {v:V} {b:Bool},.cU->.sg v->peq d k=.cu->.av b
 |.int i,k,v,b,h1,a,e=>by
  rw[.o6 RD];cases k<;>dsimp[RD]at a<;>try (cases a;done)
  all_goals first
   |(rcases a with ⟨_,_,_,_,z,_⟩|⟨_,_,_,z,_⟩<;>(rw[.uC]))
   |(cases a;rw[.aaM peq])
   |(rw[.MU])
   |(rw[.MX])
   |(rw[.Ki])
 |.bl i,k,v,b,h1,a,e=>by
  rw[.o6 RD];cases k<;>dsimp[RD]at a<;>try (cases a;done)
  all_goals first
   |(rcases a with ⟨_,_,_,_,z,_⟩|⟨_,_,_,z,_⟩<;>(rw[.uC]))
   |(cases a;rw[.aaM peq])
   |(rw[.MU])
   |(rw[.MX])
   |(rw[.Ki])
 |.str x,k,v,b,h1,a,e=>by
  rw[.o6 RD];cases k<;>dsimp[RD]at a<;>try (cases a;done)
  all_goals first
   |(rcases a with ⟨_,_,_,_,z,_⟩|⟨_,_,_,z,_⟩<;>(rw[.uC]))
   |(dsimp[peq]at e;dsimp[toS,V.str.injEq,PySem.Str.mk.injEq]at a;have h:=.eL Array.toList a;simp at h;subst h;simpa using e.symm)
   |(rw[.MU])
   |(rw[.MX])
   |(rw[.Ki])
 |.non,k,v,b,h1,a,e=>by
  rw[.o6 RD];cases k<;>dsimp[RD]at a<;>try (cases a;done)
  all_goals first
   |(rcases a with ⟨_,_,_,_,z,_⟩|⟨_,_,_,z,_⟩<;>(rw[.uC]))
   |(rw[.aaM peq])
   |(rw[.MU])
   |(rw[.MX])
   |(rw[.Ki])
 |.tup xs,k,v,b,h1,a,e=>by
  rw[.Ig];obtain⟨p,vs,rfl,hp,j⟩:=h1;cases k<;>dsimp[peq]at e<;>try (rw[.eX])
  ·rw[.pP];cases a
  ·rw[.pP];cases a
  ·rename_i m
   rw[.pP];obtain⟨r,o,z,f,g⟩:=a;cases z;rw[.wY hp];cases c:oh xs m with
   |none=>rw[.bO]
   |some q =>
    rw[.dL];dsimp[zXe,zYi]at e;have:=Dr j g c;subst this;rw[<-e,j.length,g.length];simp
 |.ref n,k,v,b,h1,a,e=>.IQ
 |.lit l,k,v,b,h1,a,e=>.IQ
 |.exn c l,k,v,b,h1,a,e=>.ajW
theorem Dr:∀{xs ys:.m} {vs:.R} {b:Bool},.qe xs->.qe ys->.v7=.cu->.av b
 |[],_,_,_,_,_,e=>by rw[.na oh];rfl
 |x::xs,[],_,_,_,_,e=>by rw[.na oh];rfl
 |x::xs,y::ys,_,b,h1,d,e=>by
  dsimp[RDs]at h1 d;obtain⟨v,r,rfl,i,h⟩:=h1;obtain⟨k,j,z,f,g⟩:=d;cases z;dsimp[oh]at e;cases c:peq x y with
  |none=>rw[.bO]
  |some p =>
   cases a:.v7 with
   |none=>rw[.B2 c a]
   |some q =>
    rw[c,a]at e;dsimp[zYi]at e;rw[<-e,G4 i f c,Dr h g a];rfl
end
end
section
variable{K:zCM}{ρ:List Addr}{H:Hp}{P:P6}{w:P7}{s:R1}
def pL(hok:.O7){p:Addr}(h:.wd p):∃a:.H,bS vs a/\.Yf:=by
 obtain⟨z,a,r,t⟩:=hok p _ h;rw[.C a r t]
mutual
theorem YU(hok:.O7):∀{d k:D} {v o:V} {u r:R0} {b:Bool} {A:R3},.cU->.sg o->.ea->cS o r->peq d k=.cu->.zi (dep d)->.El u r b
 |.int i,k,v,o,u,r,b,A,h1,a,h,g,e,m=>by
  rw[.o6 RD];obtain⟨t,rfl⟩:=h;cases k<;>dsimp[peq]at e<;>try (rw[.eX])
  all_goals cases e
  ·rw[.Ib RD];exact SeqAt.EqAt.int_none i t
  ·rw[.Ib RD];exact SeqAt.EqAt.int_bool i t _
  ·rw[.DK RD];exact zUh i t _ C
  ·rw[.pP];obtain⟨p,R,rfl,I,_⟩:=a;cases g
   obtain⟨B,_,G⟩:=.sT I;exact SeqAt.EqAt.int_tuple i t G (.NB m)
 |.bl i,k,v,o,u,r,b,A,h1,a,h,g,e,m=>by
  rw[.o6 RD];cases h;cases k<;>dsimp[peq]at e<;>try (rw[.eX])
  all_goals cases e
  ·rw[.Ib RD];exact SeqAt.EqAt.bool_bool i _
  ·rw[.DK RD];exact SeqAt.EqAt.bool_int i _ C
 |.str x,k,v,o,u,r,b,A,h1,a,h,g,e,m=>by
  rw[.o6 RD];obtain⟨t,rfl⟩:=h;cases k<;>dsimp[peq]at e<;>try (rw[.eX])
  all_goals cases e
  rename_i y
  rw[.DK RD];have:.Yp (.aN x y):=by
   rw[.dI x y]
   ·subst z;simp
   ·have:.Zc:=.RP
    simp[z,this]
  rw[.a9];exact SeqAt.EqAt.str_str _ t _ C
 |.non,k,v,o,u,r,b,A,h1,a,h,g,e,m=>by
  rw[.o6 RD];cases h;cases k<;>dsimp[peq]at e<;>try (rw[.eX])
  all_goals cases e
  ·rw[.Ib RD];exact .Xa
  ·rw[.DK RD];exact SeqAt.EqAt.none_int _ C
  ·rw[.pP];obtain⟨p,R,rfl,I,_⟩:=a;cases g
   obtain⟨B,_,G⟩:=.sT I;exact SeqAt.EqAt.none_tuple G (.NB m)
 |.tup Q,k,v,o,u,r,b,A,h1,a,h,g,e,m=>by
  have N:=h1;rw[.Ig];obtain⟨p,R,rfl,I,q1⟩:=h1;cases h;obtain⟨B,S,G⟩:=.sT I;have F:.NJ:=.NB m;cases k<;>dsimp[peq]at e<;>try (rw[.eX])
  ·cases e;rw[.Ib RD];exact SeqAt.EqAt.tuple_none G F
  ·cases e;rw[.DK RD];exact SeqAt.EqAt.tuple_int _ C G F
  ·rename_i W
   have L:=a;rw[.pP];obtain⟨X,Y,rfl,M,q2⟩:=a;cases g
   by_cases hpp:p=X
   ·subst hpp
    have:.av b:=G4 N L (.XZ peq);rw[.wX .Xa]
   ·obtain⟨E,J,O⟩:=.sT M
    cases c:oh Q W with
    |none=>rw[.bO]
    |some Z =>
     rw[.dL];dsimp[zXe,zYi]at e;obtain⟨f,T,U⟩:=.alZ S J c (by dsimp[dep]at m;show A.units+1+tZ Q<cLine;lia);have:=SeqAt.RcAt.tuples G O F (.SE T);rw[<-e,<-U,q1.length,q2.length,S.length,J.length];refine SeqAt.EqAt.of_refs hpp ?_;rw[.d2<|(.aN B.length E.length)=(B.length == E.length)];simpa using this
 |.ref n,k,v,o,u,r,b,A,h1,a,h,g,e,m=>.IQ
 |.lit l,k,v,o,u,r,b,A,h1,a,h,g,e,m=>.IQ
 |.exn c l,k,v,o,u,r,b,A,h1,a,h,g,e,m=>.ajW
theorem zC(hok:.O7):∀{xs ys:.m} {vs g:.R} {us a:.H} {b:Bool} {A:R3},.qe xs->.fs ys g->.g1 vs->bS g a->.v7=.cu->.zi (tZ xs)->
  ∃f:.cH Nat,(∀j (h1:j<us.length) (d:.wb j),.El (us[j]) a[j]<|f j)/\(.fS<|min us.length a.length).all f=b
 |[],ys,vs,g,us,a,b,A,h1,d,i,h,e,k=>by
  rw[.o6 RDs];cases i;rw[.na oh];rw[.C .c3 (λj h1=>by simp at h1) .f]
 |x::xs,[],vs,g,us,a,b,A,h1,d,i,h,e,k=>by
  dsimp[RDs]at d;subst d;cases h;rw[.na oh];rw[.C .c3 (λj h1 d=>by simp at d) .f]
 |x::xs,y::ys,vs,g,us,a,b,A,h1,d,i,h,e,k=>by
  dsimp[RDs]at h1 d;obtain⟨v,r,rfl,F,m⟩:=h1;obtain⟨I,J,rfl,o,C⟩:=d;cases i with
  |cons E t =>
   cases h with
   |cons G n =>
    dsimp[oh]at e;cases c:peq x y with
    |none=>rw[.bO]
    |some p =>
     cases l:.v7 with
     |none=>rw[.B2 c l]
     |some q =>
      rw[c,l]at e;dsimp[zYi]at e;dsimp[tZ]at k;have B:=YU hok (A:=A) F o E G c .b;obtain⟨f,u,z⟩:=zC hok (A:=A) m C t n l .b;rw[.eD (λj=>match j with|0=>p|j+1=>f j) λj h1 d=>?_]
      ·cases j with
       |zero=>exact B
       |succ j=>exact u j .xY .qW
      ·rw[<-e,<-z,xR,xR,Nat.succ_min_succ,List.range_succ_eq_map,zXn,List.all_map]
       rfl
end
def YV(hok:.O7){b:Bool}(h1:.cU)(a:.sg I)(o:.ea)(i:cS I E)(e:peq d k=.cu)(J:.zi<|dep d):
  SeqAt.RcAt A s u E b/\SeqAt.RcNeAt A s u E (! b):=by
 have g:.NJ:=.NB J;cases d<;>dsimp[RD]at h1
 ·subst h1;cases o
  cases k<;>dsimp[peq]at e<;>try (rw[.eX])
  all_goals cases e
  ·rw[.Ia RD];rw[.o SeqAt.RcAt.none_none SeqAt.RcNeAt.none_none]
  ·rw[.DL RD];exact⟨SeqAt.RcAt.none_int _ h,SeqAt.RcNeAt.none_int _ h⟩
  ·rw[.pP];obtain⟨p,M,rfl,r,_⟩:=a;cases i
   obtain⟨m,_,l⟩:=.sT r;exact⟨SeqAt.RcAt.none_tuple l g,SeqAt.RcNeAt.none_tuple l g⟩
 ·subst h1;cases o
  cases k<;>dsimp[peq]at e<;>try (rw[.eX])
  all_goals cases e
  ·rw[.Ia RD];exact⟨SeqAt.RcAt.bool_bool _ _,SeqAt.RcNeAt.bool_bool _ _⟩
  ·rw[.DL RD];exact⟨.kP SeqAt.RcAt.bool_int,.kP SeqAt.RcNeAt.bool_int⟩
 ·subst h1;obtain⟨t,rfl⟩:=o
  cases k<;>dsimp[peq]at e<;>try (rw[.eX])
  all_goals cases e
  ·rw[.Ia RD];exact⟨SeqAt.RcAt.int_none _ t,SeqAt.RcNeAt.int_none _ t⟩
  ·rw[.Ia RD];exact⟨SeqAt.RcAt.int_bool _ t _,SeqAt.RcNeAt.int_bool _ t _⟩
  ·rw[.DL RD];exact⟨SeqAt.RcAt.int_int _ t _ h,SeqAt.RcNeAt.int_int _ t _ h⟩
  ·rw[.pP];obtain⟨p,M,rfl,r,_⟩:=a;cases i
   obtain⟨m,_,l⟩:=.sT r;exact⟨SeqAt.RcAt.int_tuple _ t l g,SeqAt.RcNeAt.int_tuple _ t l g⟩
 ·subst h1;obtain⟨t,rfl⟩:=o
  cases k<;>dsimp[peq]at e<;>try (rw[.eX])
  all_goals cases e
  rename_i x y
  rw[.DL RD];have:.Yp (.aN x y):=by
   rw[.dI x y]
   ·subst z;simp
   ·have:.Zc:=.RP
    simp[z,this]
  rw[.a9];exact⟨SeqAt.RcAt.str_str _ t _ h,SeqAt.RcNeAt.str_str _ t _ h⟩
 ·rename_i G
  obtain⟨p,M,rfl,r,q1⟩:=h1;cases o;obtain⟨m,N,l⟩:=.sT r;cases k<;>dsimp[peq]at e<;>try (rw[.eX])
  ·cases e;rw[.Ia RD];exact⟨SeqAt.RcAt.tuple_none l g,SeqAt.RcNeAt.tuple_none l g⟩
  ·cases e;rw[.DL RD];exact⟨SeqAt.RcAt.tuple_int _ h l g,SeqAt.RcNeAt.tuple_int _ h l g⟩
  ·rename_i R
   rw[.pP];obtain⟨W,T,rfl,F,q2⟩:=a;cases i;obtain⟨n,B,C⟩:=.sT F;cases c:oh G R with
   |none=>rw[.bO]
   |some U =>
    rw[.dL];dsimp[zXe,zYi]at e;obtain⟨f,L,O⟩:=.alZ N B c (by dsimp[dep]at J;show A.units+1+tZ G<cLine;lia);have Q:=SeqAt.RcAt.tuples l C g<|.SE L;have S:=SeqAt.RcNeAt.tuples l C g<|.SE L;rw[<-e,<-O,q1.length,q2.length,N.length,B.length,.d2<|(.aN m.length n.length)=(m.length == n.length)];exact⟨by simpa using Q,by simpa using S⟩
 ·rw[.VZ]
 ·rw[.VZ]
 ·dsimp[peq]at e<;>cases e
end
section
variable{X:Cx}
def EK{K:zCM}(r:.cE)(h:.cU)(e:jL hd d=.eC):.DU (.wp p vs/\.dp):=by
 cases d<;>dsimp[jL]at e<;>try (rw[.eX])
 ·rename_i n
  rw[.jz];obtain⟨a,b,f⟩:=h;cases c:hd[n]? with
  |none=>rw[.bO]
  |some x =>
   rw[.dL];cases x with
   |dct l=>cases e
   |dcT l=>cases e
   |ob l=>cases e
   |lst i =>
    cases e;obtain⟨vs,q1,q2⟩:=.lV r.cel b;exact⟨a,vs,f,.e4 q1,q2⟩
 ·cases e
  rw[.jz];rw[.VY ⟨p,vs,b,f.sq,g⟩]
def Q3{σ:St}{b:Bool}(T:.qY 24)(I:.n)(r:.zo RH hd)(h1:.O3)(i:.zo RD k E)
  (z:.ea) (y:cS E w) (e:eqG hd d k=.cu):SeqAt.RcAt X.A s u w b/\SeqAt.RcNeAt X.A s u w (! b):=by
 have g:X.A.units<cLine:=.b
 dsimp[eqG]at e;cases q:jL hd d with
 |none =>
  cases m:jL hd k with
  |some l=>rw[.B2 q m]
  |none =>
   rw[q,m]at e;simp only at e;split at e
   ·rename_i hd20
    exact .ey YV h1 i z y e .b
   ·cases e
 |some C =>
  cases m:jL hd k with
  |none=>rw[.B2 q m]
  |some L =>
   rw[q,m]at e;dsimp[eqL]at e;obtain⟨p,W,rfl,S,q1⟩:=EK r h1 q;obtain⟨N,O,rfl,Q,q2⟩:=EK r i m;cases z;cases y;obtain⟨c,B,J,_⟩:=.e3 S;obtain⟨a,o,x,_⟩:=.e3 Q;have t:s.heap.IsList p c.toArray:=J.isList;have h:.UF N:=x.isList;have Y:C.length=c.length:=q1.length.trans B.length;have U:.wg L.length:=q2.length.trans o.length;split at e
   ·rename_i hd20
    split at e
    ·rename_i P
     obtain⟨f,F,G⟩:=.ey zC (A:=X.A.in1) q1 q2 B o e<|.pc<|X.A.units+1+tZ C<cLine;have n:c.toArray.size=a.toArray.size:=.bz
     have K:=.aed SeqAt.RcAt.lists;have M:=.aed SeqAt.RcNeAt.lists;have R:min c.length a.length=c.length:=.b
     rw[R]at G;rw[<-G];exact⟨.XH,by simpa using M⟩
    ·rename_i P
     cases e;have n:.av (c.toArray.size != a.toArray.size):=.bz
     exact⟨SeqAt.RcAt.lists_lengths t h n g,SeqAt.RcNeAt.lists_lengths t h n g⟩
   ·cases e
/---/def Vp(K:zCM)(f:.cH Bool):R2:=.dJ<|∃ρ hd d k b,.cE/\.bT RD d x/\.sg y/\eqG hd d k=.cu/\.jF (f b)
def cB(g:.qY 24):.gs .Eq (Vp X.K id):=by
 rw[.ag6];exact(Q3 g I r a c f i e).1 _ _ _ _<|.xK b
def gJ(g:.qY 24):.gs .NotEq (Vp X.K not):=by
 rw[.ag6];exact(Q3 g I r a c f i e).2 _ _ _ _<|.xK<|! b
def dm{K:zCM}:Og K oEq (Vp K id):=by
 intro ρ H σd f σ d k v w Q c g a p;unfold oEq at p;cases e:eqG f d k with
 |none=>rw[.c2 e]
 |some b=>rw[e]at p;exact⟨ρ,f,d,k,b,c.hp,g,a,e,.j3 c .tK⟩
def jO{K:zCM}:Og K oNe (Vp K not):=by
 intro ρ H σd f σ d k v w Q c g a p;unfold oNe at p;cases e:eqG f d k with
 |none=>rw[.c2 e]
 |some b=>rw[e]at p;exact⟨ρ,f,d,k,b,c.hp,g,a,e,.jq c⟩
end
section
variable{K:zCM}{ρ ρ':List Addr}{H H':Hp}{hd hd':Hd}{σd:Sd}{σ:St}
def de.outE{En:wE}(p:.pg .ZP):
  .Pl r (.aeT<|.gt de (k d hd') En):=by
 cases r with
 |ok d c=>exact .ahU<|de.ext a p
 |exc x c=>exact p
 |bad=>exact p
def RSt.set(r:.vk RSt)(i:Nat)(h:.cU):.bT RSt (σd.set i .a7) (.oC v):=by
 rw[.bN .zB λj x e=>?_]
 by_cases a:i=j
 ·subst a
  by_cases b:i<σd.length
  ·dsimp[slot,X0 b]at e
   cases e;rw[.C v (.bA<|X0<|.ay r.len b) h]
  ·dsimp[slot]at e
   rw[.bd (zZz (by simp;omega))]
 ·dsimp[slot,zBO a]at e
  rw[zBO a];exact r.at' j x (by simpa only[slot] using e)
/---/def abG(K:zCM)(g:GF):TG:=λv σ H Q=>∃ρ σd hd d σd',.oQ/\.cU/\g d σd=.a σd'/\.akk σd'
/---/def YW(σ:Sd)(l:.g)(xs:.m):Sd:=.ad8
/---/def YX(K:zCM)(l:.g):TGs:=λvs σ H Q=>∃ρ σd hd ds,.oQ/\.qe ds/\.jn ds.length/\.akk (YW σd l ds)
end
/---/def MG(X:Cx)(tg:Expr)(g:GF):Prop:=PG X tg<|abG X.K g
/---/def MGs(X:Cx)(ts:.dy)(l:.g):Prop:=PGs X ts<|YX X.K l
section
variable{X:Cx}{pos:Pos}
def PG.imp{t u:TG}(h:PG X tg t)(i:.anV):PG X tg u:=.adD
def PGs.imp{t u:TGs}(h:PGs X tg t)(i:.anV):PGs X tg u:=.adD
def Vq(j:X.N.Nodup)(hi:.gd)(f:.lc)(c:autoParam (.k8) Q0Q._auto_1):MG X .km (gN i):=by
 refine PG.imp (U6 j hi f c) λv σ H Q h=>?_;obtain⟨ρ,σd,k,d,a,b,g,e,q⟩:=h;dsimp[gN,zYi]at e;rw[.d3 (q _ ⟨b.hp,b.st.set i g⟩)]
def jP:MGs X [] []:=by
 refine PGs.imp U7 λf σ H Q c=>?_;obtain⟨ρ,σd,g,d,b,a,e,q⟩:=c;have:d=[]:=.eF
 subst this;dsimp[RDs]at a;rw[.o a (q σ b)]
def cU{l:.g}(h1:MG X e<|gN i)(c:MGs X a l)
  (o:autoParam (.alS) Q3Q._auto_1):MGs X (e::a) (i::l):=by
 refine PGs.imp (QD h1 c o) λp σ H Q n=>?_;obtain⟨ρ,σd,k,f,m,j,e,q⟩:=n;cases f with
 |nil=>simp at e
 |cons d f =>
  dsimp[RDs]at j;obtain⟨v,r,rfl,h1,c⟩:=j;refine⟨v,r,rfl,ρ,σd,k,d,_,m,h1,rfl,λσ' h=>?_⟩;exact⟨ρ,_,k,f,h,c,.eF,λb g=>q b g⟩
def mI{k:Nat}{l:.g}(o:.bB)(h:MGs X a l)
  (j:autoParam (.jn (.s<|.yn a)) Q3Q._auto_1) (b:autoParam (.al9 a) Q3Q._auto_1):MG X (.u7 a) (gT l):=by
 refine PG.imp (Yy o h j b) λv σ H Q u=>?_;obtain⟨ρ,σd,m,d,c,t,g,e,q⟩:=u;cases d<;>dsimp[gT]at e<;>try (rw[.eX])
 rename_i n
 split at e
 ·rename_i f
  cases e;dsimp[RD]at g;obtain⟨p,s,rfl,i,r⟩:=g;exact⟨p,s,rfl,.d7 i,.Qa f,ρ,σd,m,n,t,r,f,q⟩
 ·cases e
def bI:MSs X [] aX:=.wA zx .Iu
def av{st:Stmt}{rest:.el}{a b:SF}(h1:MS X st a)(g:MSs X rest b):MSs X (st::rest) (aA a b):=by
 refine .wA (uR h1 g) λEn σ H j=>?_;obtain⟨ρ,σd,f,i,p⟩:=j;refine .eU f i;unfold aA at p;cases e:a σd f with
 |nx σ1 h1=>rw[.gm e λσ' k ρ' h c=>⟨ρ',σ1,h1,c,de.ext h p⟩]
 |rt d h1=>rw[.br]
 |bk σ1 h1=>rw[.br]
 |ct σ1 h1=>rw[.br]
 |exc x σ1 h1=>rw[.br]
 |bad=>rw[.br]
def aC{st:Stmt}(h:MS X st a):MSs X [st] a:=pI h
def Q4:MS X (.Break pos) Vm:=.j1 Qy .Iu
def EL{st:Stmt}:MS X st kQ:=.j1 QB λEn σ H a=>by obtain⟨ρ,σd,c,b,p⟩:=a;rw[.bC]
def aU(h:.iK):MS X .K6 (bf f):=by
 refine .Tp<|JK h;obtain⟨ρ,σd,i,j,p⟩:=c;refine .ala;obtain⟨a,d,k,n,b,l,m⟩:=c;exact m v g a Ext.refl b.hp l
def c9(h:.iK)(m:autoParam (.tx none) Q3Q._auto_1):MS X .OL (dR f):=by
 refine .Tp<|zy h m;obtain⟨ρ,σd,i,j,p⟩:=c;refine .ala;obtain⟨a,d,k,n,b,o,l⟩:=c;exact l σ g a Ext.refl b
def cQ{a b:.el}(l:.n2 c)(k:MSs X a h)(m:MSs X b j):MS X .Mm (sIf t h j):=by
 refine .j1 (Qz l k m) λEn σ H o=>?_;obtain⟨ρ,σd,g,n,p⟩:=o;refine .eU g n;unfold sIf at p;cases e:t σd g with
 |ok c f =>
  rw[e]at p;intro b r ρ' i d q;cases q;cases c with
  |true=>dsimp[zYh]at p⊢;exact .alk
  |false=>dsimp[zZf,zWd]at p⊢;exact .alk
 |exc x f=>rw[.br]
 |bad=>rw[.br]
def jQ(o:X.N.Nodup)(hi:.gd)(j:.lc)(he:.iK)(r:autoParam (.DC) Q3Q._auto_1)(h:autoParam (.k8) Q0Q._auto_1):
  MS X (.yq e) .Hm:=by
 refine .j1 (wF o hi j he r h) λEn σ H b=>?_;obtain⟨ρ,σd,q,k,p⟩:=b;refine .au q k (.EH λv g b=>?_);obtain⟨c,d,l,s,a,m,n⟩:=b;exact n _ g c Ext.refl ⟨a.hp,a.st.set i m⟩
def Kb(he:.iK)(q:.GL)(s:autoParam (.Jr tg) Q3Q._auto_1)(l:autoParam (.Jt tg) Q3Q._auto_1)
  (h1:autoParam (.Ir [tg]=[.ri tg]) Q3Q._auto_1):MS X (.qQ tg e pos) (aF g f):=by
 refine .Wm<|JL he q s l h1;obtain⟨ρ,σd,r,n,p⟩:=h;refine .au r n (.EH λv m h=>?_);obtain⟨a,d,i,t,j,o,b⟩:=h;cases c:g d σd with
 |none=>rw[.bR c]
 |some σ1=>rw[.hQ];exact⟨a,σd,i,d,σ1,j,o,c,λσ' k=>b σ' m a Ext.refl k⟩
def YY:Fm.ixN=L2.ixN:=rfl
def pM{M J K:EF}{f:Pos}(he:.kp K)(P:.jG M)(hi:.aL i J)(Y:autoParam (.Jr .rw) Q3Q._auto_1)(N:autoParam (.Jt .rw) Q3Q._auto_1)
  (h1:autoParam (.aiA) Q3Q._auto_1) (w:autoParam (∀v,.ri .rw v=(do
   let ov <-.Yg
   let B <-.WN
   .AO f
   .nj [v,ov,B] (.Pq B v)
   .XX B)) Q2Q._auto_1):.akr (oV M J K):=by
 refine .DQ<|JL he (QE P hi QT w) Y N h1;obtain⟨ρ,σd,hd,S,p⟩:=g;refine .au hd S (.EH λv H1 g=>?_);obtain⟨y,d,x,e1,u,T,V⟩:=g;refine .bv y x u (.NX V λvo H2 g=>?_);obtain⟨D,Z,A,Q,q,U,f⟩:=g;refine .bv D A q (.NX f λvi E g=>?_);obtain⟨m,W,r,I,h,F,b⟩:=g;have z:=.of T.mono (u.hp.kp Q)<|q.hp.kp I;have s:=.Yj I;cases Z with
 |ref n =>
  cases W with
  |int j =>
   simp only at b;cases c:r[n]? with
   |none=>rw[.bR c]
   |some cell =>
    rw[.hQ];cases cell with
    |dct l=>rw[.u]
    |dcT l=>rw[.u]
    |ob l=>rw[.u]
    |lst l =>
     simp only at b;cases C:.pl ixN j with
     |none=>rw[.bR C]
     |some k =>
      rw[C]at b;dsimp[RD]at s F;obtain⟨a,w,rfl⟩:=s;obtain⟨L,O,t⟩:=.tU w;refine⟨a,L,j,k,rfl,F,O,by rw[.jJ t.length YY C],?_⟩;have R:n<r.length:=.aw c;have rh:=h.hp.write w R<|RDs.set z k t;have G:Ext m E m (.fE E<|.q<|L.set k v):=.tX w;exact b σ _ m G (h.ext G rh)
  |_=>rw[.u]
 |_=>rw[.u]
end
section
variable(K:zCM)
structure Ap(ρ0:List Addr)(H0:Hp)(J:It)(l:List D)(g:Option Nat):Prop where
 go:∀ρ H hd (i:Nat) d,Ext ρ0 H0 ρ H->RH K ρ H hd->em g l hd->l[i]?=some d->J.go i H/\∀x H',J.yld i H x H'->lS H H'/\RD K ρ H' d x
 stop:∀ρ H hd,Ext ρ0 H0 ρ H->RH K ρ H hd->em g l hd->J.stop l.length H
 sz:l.length<=sizeLine
/---/def abH(ρ:.am)(H:Hp)(σd:Sd)(σ:St)(r:Res<|.m × .lQ)(R:.di It):Prop:=match r with
 |.ok p hd'=>.aom (.gt Ap J p.1 p.2)
 |_=>False
/---/def abI(f:IF):TI:=.nL<|.mV<|.vk abH .hh R
end
/---/def MI(X:Cx)(tg e:Expr)(f:IF):Prop:=.nA e<|abI X.K f
section
variable{X:Cx}{pos:Pos}{tg:Expr}
def PI.imp{t u:TI}(h:.nA e t)(i:∀σ H R,.aU u R->.aU t R):.nA e u:=λpins s σ H R I q=>.kS R I<|.aU i R q
def gc{f:IF}{b:SF}(hp:.Da)(Z:.bB)(hi:.lU s f)(hg:.GL)(hb:MSs X body b)
  (hs:autoParam (.mz s) Q2Q._auto_1):MS X (.CK s) (hZ f g b):=by
 refine .S7 Z λEn σ H N=>?_;obtain⟨ρ,σd,V,rs,p⟩:=N;refine .eU V rs;unfold hZ at p;cases e:.gZ V with
 |exc x h'=>rw[.br]
 |bad=>rw[.br]
 |ok q O =>
  rw[.aaQ e];intro J U F M P S;simp only at p S;refine⟨λi m σ' z=>∃ρ' k hd',Ext F U ρ' z/\.an8 (.p2 de z (.IR i k hd') En),
   ⟨l.length,F,σd,O,Ext.refl,P,zZc _,.f,.h1<|de.ext M p⟩,?_⟩
  rintro i m σ' z ⟨ρ',k,hd',L,w,a0,rfl,a⟩
  by_cases E:.iZ
  ·have Q:.yT:=.k E
   rw[.Ae (zYd E)]
   rw[.BY]
   ·rw[z3 D]at a
    rw[.Qt (.OW S.go i _ L w.hp D Q) (.F ⟨go,λC B=>∃t h u,Ext F U t B/\.f7 t B h u C/\de X.K t B (.IR (i + 1) h u) En,
     λC B N=>by obtain⟨t,h,u,a1,Y,a3⟩:=N;exact⟨.sA<|i+1,.bm,t,h,u,a1,Y,E,rfl,a3⟩,.ON⟩)]
    obtain⟨T,rx⟩:=yl x B y;cases c:g l[i] k with
    |none=>rw[.dc c]
    |some h =>
     rw[.FM c];refine⟨ρ',k,hd',l[i],h,w.same T,rx,c,λC R=>.g4 ρ' h hd' R⟩;have r:.pZ z ρ' B:=.f8 T;cases I:b h hd' with
     |nx σ3 G=>rw[.aA I .abE]
     |ct σ3 G=>rw[.aA I .abE]
     |bk σ3 G=>rw[.aA I λA K n j o=>a A K n (.sO j) o]
     |rt d G=>rw[.aA I λv K n j o rv=>a v K n (.sO j) o rv]
     |exc x σ3 G=>rw[.aA I a]
     |bad=>rw[.aA I a]
   ·rw[.dc (yM D)]
  ·have W:.jn i:=.bm
   subst W;rw[.Ae zXk]
   rw[.BY]
   ·rw[z3 D]at a
    rw[.iJ (.OW S.stop L w.hp D) (.Xe z w)]
   ·rw[.dc (yM D)]
theorem Q5{K:zCM}(r:.cE)(f:.wd q)(b:.dp)(j:.Nw):.Ov Itt l none where
 go:=λρ' c hd' i d a n _ h=>by
  have k:=r.kp a;obtain⟨v,e,m⟩:=(b.mono k).get h;have g:SqT K c q vs:=.d7<|k.tup q vs f;rw[.MV ⟨vs,v,g,e⟩ λx o y=>?_];rw[.hu (y vs g) e];rw[.o .zT m]
 stop:=.aho<|.d7<|.aav a f
 sz:=.p b.length j
theorem Q6{K:zCM}(r:.cE)(f:yo K H q vs)(b:.dp)(j:.Nw):.Ov Itl l none where
 go:=λρ' c hd' i d a n _ h=>by
  have k:=r.kp a;obtain⟨v,e,m⟩:=(b.mono k).get h;have g:SqL K c q vs:=(f.mono k).sq;rw[.MV ⟨vs,v,g,e⟩ λx o y=>?_];rw[.hu (y vs g) e];rw[.o .zT m]
 stop:=.aho<|(f.mono<|r.kp a).sq
 sz:=.p b.length j
theorem Q7{K:zCM}(k:.vh q)(p:.S l.length):.Ov Itl l .e8 where
 sz:=p
 go:=λρ' h hd' i d c f b o=>by
  obtain⟨a,e,g⟩:=.al8;obtain⟨v,j,r⟩:=g.get o;have m:SqL K h q a:=.e4 e;rw[.MV ⟨a,v,m,j⟩ λx s y=>?_];rw[.hu (y a m) j];rw[.o .zT r]
 stop:=λρ' h hd' c f b=>by
  obtain⟨a,e,g⟩:=.al8;exact⟨a,.e4 e,.xJ g.length⟩
def Q8{l:Expr}(r:.af l m):.nA l (.nL<|.aU m λx d=>(.uM<|.lX d a xs/\(.iV->R (Itl X.K a) d))\/.uM (SqT X.K d a xs/\(.iV->R (Itt X.K a) d))):=by
 rw[.aaP (.dw r λv f t=>?_)];obtain⟨x,d,c,n,q1⟩:=t;rcases q1 with ⟨a,xs,e,i,q⟩|⟨a,xs,e,i,q⟩
 ·subst e
  cases n;obtain⟨g,u,p,j⟩:=c.list i;refine zVj p.isList ?_;refine .acD Oo;have e:.Lh:=by simpa using k
  rw[.d3 .Tz]
 ·subst e
  cases n;obtain⟨g,u,p,j⟩:=c.tuple i;refine zYt (show f.heap.IsTuple a g.toArray from p) ?_;refine .acD JM;have e:.Lh:=by simpa using k
  rw[.d3 .Tz]
def fD(h:.iK):.lU e (eW f):=by
 refine PI.imp (Q8 h) λσ H R z=>?_;obtain⟨ρ,σd,w,A,p⟩:=z;refine .eU w A;unfold eW at p;cases e:.gZ w with
 |exc x B=>rw[.br]
 |bad=>rw[.br]
 |ok d t =>
  rw[.vM e aE];intro v s j i b k;cases d<;>try rw[.bC]
  ·rename_i l
   dsimp[rD,RD]at k;obtain⟨q,r,rfl,m,g⟩:=k;rw[.P ⟨q,r,rfl,.d7 m,.Xt<|Q5 b.hp m g o⟩]
  ·rename_i n
   dsimp[rD,RD]at k;obtain⟨a,u,rfl⟩:=k;cases c:t[n]? with
   |none=>rw[.Ah c]
   |some cell =>
    cases cell with
    |dct l=>rw[.Ah c]
    |dcT l=>rw[.Ah c]
    |ob l=>rw[.Ah c]
    |lst l =>
     dsimp[c]at p;obtain⟨r,y,g⟩:=.lV b.hp.cel u;rw[.O ⟨a,r,rfl,.e4 y,.Xt<|Q7 u<|.p g.length o⟩]
  ·rename_i l
   dsimp[rD,RD]at k;obtain⟨q,r,rfl,m,g⟩:=k;rw[.O (.bh q r m.sq<|.Xt<|Q6 b.hp m g o)]
def EM(h:MF X e k):.lU e (GY k):=by
 refine PI.imp (Q8 h) λσ H R w=>?_;obtain⟨ρ,σd,t,D,p⟩:=w;refine .eU t D;unfold GY at p;cases e:k σd t with
 |exc x G=>rw[.br]
 |bad=>rw[.br]
 |ok l E =>
  rw[.vM e aE];intro q b A m g c z j r a;refine .G ⟨q,b,rfl,.e4 j,λB=>p _ A m g c ⟨λρ' n hd' i d f F _ u=>?_,λρ' n hd' f F _=>⟨b,.e4<|f.frame q _ j r,.xJ a.length⟩,.p a.length B⟩⟩;obtain⟨v,o,C⟩:=(a.mono<|c.hp.kp f).get u;have s:.lX n q b:=.e4<|f.frame q _ j r;rw[.MV ⟨b,v,s,o⟩ λx I y=>?_];rw[.hu (y b s) o];rw[.o .zT C]
theorem Aq{K:zCM}(lo:Int)(n:Nat)(h:n<=2000000):.bT Ap (Itr lo n) (.e7 λk:Nat=>.e<|lo+k) none where
 go:=λρ' c hd' i d f g _ b=>by
  have a:i<n:=by
   rw[.s4 b]
  rw[.bN a λx j y=>?_];obtain⟨rfl,rfl⟩:=y;have e:d=.e (lo+i):=by simpa[a] using b.symm
  rw[.qv ⟨.zT,.BG⟩]
 stop:=λρ' c hd' f g _=>by
  show n<=_;simp
 sz:=by
  have:.S (2000000:Nat):=.sj
  simp;omega
def eQ(t:.Qc)(q:.OA)(o:.bq f)(l:autoParam (.z4) Q3Q._auto_1):.lU (.EQ "range") (cT f):=by
 refine PI.imp (Op t q (.d9 o l) l) λσ H R m=>?_;obtain⟨ρ,σd,k,r,b⟩:=m;refine .eU k r;unfold cT at b;cases e:.gZ k with
 |exc x u=>rw[.iy e b]
 |bad=>rw[.iy e b]
 |ok d s =>
  rw[e]at b;dsimp[aE]at b;intro v i c g h j;cases d<;>try rw[.u]
  rename_i n
  simp only at b;dsimp[rD,RD]at j;subst j;split at b
  ·rename_i w
   refine⟨n,rfl,.bm,.bm,b _ i c g h ?_⟩;rw[.rE (Aq (K:=X.K) (ρ := c) (H:=i) 0 n.toNat .bm)]
  ·rw[.u]
def oY(J:.Qc)(E:.OA)(D:.bq f)(u:.fJ g)(z:autoParam (.Kx) Q3Q._auto_1)(h:autoParam (.Nz) Q3Q._auto_1):.lU (.L7 "range") (iP f g):=by
 refine PI.imp (Oq J E (cD D (.d9 u h)<|.L z h) z h) λσ H R B=>?_;obtain⟨ρ,σd,y,F,c⟩:=B;refine .eU y F;unfold iP at c;cases e:.gZ y with
 |exc x A=>rw[.gl e]
 |bad=>rw[.gl e]
 |ok d k =>
  rw[.Aj e aE];intro v L r m s w;refine .bv r k s ?_;cases o:g σd k with
  |exc x A=>rw[.gl o]
  |bad=>rw[.gl o]
  |ok I G =>
   rw[.Aj o aE];intro K C t q n l;cases d<;>try rw[.bK]
   cases I<;>try rw[.bK]
   rename_i i j
   simp only at c;dsimp[rD,RD]at w l;subst w l;split at c
   ·rename_i u
    exact .bh i j ⟨.bm,.bm,.bm,.bm⟩ (c _ C t (m.trans q) n<|Aq i (j-i).toNat .bm)
   ·rw[.bK]
end
end Fm
namespace Fm
section
open Classical
noncomputable def dS(G:.nZ)(tg:GF)(cs:.ai TF)(e:EF):.m->.iu .m
 |[],_,h=>.gI (G h) []
 |x::xs,σ,h=>if G h then match .wj with
   |some σ=>(kc cs σ h).bind λb h=>if b then .ahs (.LL G)
    else .LL G
   |none=>.bad
  else .bad
end
theorem EN:∀(xs:.m) (σ:Sd) (h:Hd),.CR cs=.LL (em g all)
 |[],_,h=>by unfold dj dS;rfl
 |x::xs,σ,h=>by
  unfold dj dS
  by_cases a:.j4
  ·rw[z3 a,z3 a]
   cases .wj with
   |none=>rfl
   |some σ'=>dsimp[EN xs]
  ·rw[yM a,yM a]
end Fm
namespace Fm
open PySem PySem.Spec L2
section
variable{prog:P6}{w:P7}{A:R3}{R:Result->R1->Prop}{s:R1}
noncomputable def EO(G:∀e s,¬E e s)(I:.eK Nat)
  (turn:∀n s,I n s->.hW (pyNext it) (λr b => match r with
   |none=>R .PI b
   | some v=>.hW (.Y4 d it v) (λ_ b => .hW (assign d env v) (λ_ j =>
     .hW (forIn B true λc r=>if r=true then do let ok <-isTrue c env<|.Bk c;.zU ok else .zU r) (λok g =>
      if .av ok then .EO y (λx i =>
       .afG (λ_ k=>∃m,m<n/\I m k) E i) E g
      else ∃m,m<n/\I m g) E j) E b) E b) E s)
  (n:Nat) (h:I n s) :
  .aos (.pd y [⟨d,q,B,0⟩] scope pos):=by
 rw[.cN (codeAny_loop rfl I (λn s H=>?_) n h) (wpAny_noted ?_)];rw[compTurn_list];have o:∀{α:Type} {t:Sem α} {Q D:.eK α} {F:.fB} {s:R1},.d6 t->(∀a s,Q a s->D a s)->.hW t D F s:=λh J=>zZd h J λe s z=>(G e s z).elim;refine .H1 (zF (o (turn n s H) λr b f=>?_));cases r with
 |none=>exact xU f
 |some v =>
  rw[.e9 (o f λ_ b f=>?_) (zF (o f λ_ j p=>zF (o p λok g l=>?_)))];cases ok with
  |false=>exact xU<|.co l
  |true =>
   exact .sz (o l λx i u=>zF<|o u λ_ k C=>xU<|xU<|.co C)
end
theorem ua:∀(l:.zm) (cs:.f6 Addr),(∀y∈l,.ak9)->
  ∃cl,(forIn l cs .abS)=(pure cl:Sem _)/\
   (.zg<|cs.lookup x=.a8\/.I1 x)/\(∀y∈l,.xt)/\∀x c,cs.lookup x=.a8->∃t,cl.lookup x=.a t
 |[],cs,_=>⟨cs,.f,λx c h=>.xb,λy f=>by simp at f,λx c h=>⟨c,h⟩⟩
 |(n,k)::l,cs,i=>by
  by_cases p:k=.free
  ·subst p
   obtain⟨c,s⟩:=i (n,.free) .f rfl;obtain⟨cl,j,m,o,g⟩:=ua l ((n,c)::cs) λy f=>i y<|.k f;refine⟨cl,?_,λx d h=>?_,λy f b=>?_,λx d h=>?_⟩
   ·rw[List.forIn_cons]
    dsimp[beq_self_eq_true,zYh,cellOf,s];exact j
   ·rcases m x d h with q|q
    ·rw[zh]at q
     cases e:x == n with
     |true =>
      rw[e]at q;have:x=n:=.eF
      subst this;cases q;rw[.P s]
     |false=>rw[e]at q;rw[.O q]
    ·rw[.P q]
   ·rw[.hs f]
    ·subst e
     exact g n c (.k zh)
    ·exact o y e b
   ·rw[.aV x n]
    ·subst e
     exact g x c (.k zh)
    ·exact g x d (by rw[zh,.g6 e];exact h)
  ·obtain⟨cl,j,m,o,g⟩:=ua l cs λy f=>i y<|.k f
   refine⟨cl,?_,m,λy f b=>?_,g⟩
   ·rw[List.forIn_cons]
    have:.c1 k NameKind.free:=.Ei
    dsimp[this,zZf,zWd];exact j
   ·rw[.hs f]
    ·rw[.d3 (.B b p)]
    ·exact o y e b
def pN(b:∀y∈scope.names,.ak9):
  ∃cl,closureFor scope env=pure cl/\(.zg<|.I1 x)/\∀y∈scope.names,.xt:=by
 rw[.iA];obtain⟨cl,d,f,i,_⟩:=ua scope.names [] b;rw[.dq g ⟨cl,?_,λx c h=>(f x c h).elim (λz=>by simp at z) id,i⟩];unfold closureFor;have e:(forIn scope.names ([]:.f6 Addr) .abS)=(pure cl:Sem _):=d;exact .i (.eL (λt:Sem (.ed Str Addr)=>t >>= λr=>pure r) e) rfl
def cxC(X:Cx)(N:.dU)(scope:Scope)(cl:.f6 Addr)(C:Addr)(s:R1)(H:Hp)(ex:.am):Cx where
 prog:=X.prog
 w:=X.w
 K:=X.K
 mg:=X.mg
 base:=X.base
 A:=X.A
 N:=N
 s₀ := s
 H₀ := H
 env:=.KI C
 outer:=X.stack
 stack:=X.stack
 ex:=ex
 fn:=.de false
 calm:=X.calm
 pn:=[]
 xe:=.bw
/---/def MTs(X:Cx)(ifs:.dy)(cs:.ai TF):Prop :=
 .agb<|.kL rB (kc cs) σ H Q->
  .ts (forIn ifs true λc r=>if .av r then do let ok <-.u4 c<|.cP c;.zU ok else .zU r) (.mt TP Q) X.xe s
def dB:MTs X [] []:=λpins s σ H Q I b=>.ah8<|wpAny_tests_nil ⟨H,I,.j3 a rfl⟩
def zD(h:.n2 c):MTs X [c] [t]:=λpins s σ H Q I ⟨ρ,σd,a,f,p⟩=>wpAny_tests_one<|.kS Q I<|.au a f (by
 have e:kc [t] σd a=t σd a:=by
  dsimp[kc];cases c:t σd a with
  |ok b d=>cases b<;>simp
  |exc x d=>rfl
  |bad=>rfl
 rw[.br])
theorem qN{env:Env}{x:Str}:∀{names:.zm} {k:NameKind},.RT k->
  ∃k0,names.lookup x=.a k0/\(k=k0\/(k0=.free/\k=.cell))
 |[],_,h=>.ei
 |(n,d)::r,k,h=>by
  have e := @qN env x r k;have a:.zh x ((.dE (.t3 d) .Rk (n,d))::_)=.mi:=h;cases c:x == n with
  |true =>
   rw[.eD d (.bJ zh c)]
   by_cases b:.av (.t3 d)
   ·rw[z3 b]at a
    dsimp[zh,c,zYi]at a;dsimp[UE,beq_iff_eq]at b;rw[.P ⟨b.1.1,a.symm⟩]
   ·rw[yM b]at a
    dsimp[zh,c,zYi]at a;rw[.O a.symm]
  |false =>
   have:.zh x ((n,d)::r)=.zh x r:=.bJ zh c
   rw[.a9];refine e ?_
   by_cases b:.av (.t3 d)
   ·rw[z3 b]at a;simpa only[zh,c] using a
   ·rw[yM b]at a;simpa only[zh,c] using a
theorem mJ:∀{l:.zm},l.lookup x=.mi->(x,k)∈l
 |[],h=>.ei
 |(n,a)::r,h=>by
  rw[zh]at h;cases e:x == n with
  |true =>
   rw[e]at h;have:x=n:=.eF
   subst this;cases h;exact zCK
  |false=>rw[e]at h;exact .dF (mJ h)
structure dE(X:Cx)(scope:Scope)(own capn:List Str)(caps:List Nat):Prop where
 kind:scope.kind=.function
 cell:∀y∈scope.names,y.2 ≠ .cell
 names:∀y∈scope.names,y.2=.local->scope.names.lookup y.1=some .local
 free:∀y∈scope.names,y.2=.free->X.env.kindOf y.1=some .cell\/X.env.kindOf y.1=some .free
 cap:∀(j:Nat) x,capn[j]?=some x->∃i,caps[j]?=some i/\X.N[i]?=some x/\scope.names.lookup x=some .free
 len:capn.length=caps.length
section
variable{X:Cx}{pins:List (Addr × Obj)}{σ:St}{H1:Hp}{s2:R1}{scope:Scope}{own capn:List Str}{caps:List Nat}{cl:List (Str × Addr)}{C:Addr}{ex:List Addr}
/---/def stC(own:.dU)(caps:.g)(σ:St):St:=.hp own.length++caps.map λi=>(σ[i]?).join
theorem YZ(I:.aP H1 s2)(S:.k7)(s:s2.heap.objs.size<=C)(a:.zg .qF)(g:∀y∈scope.names,.xt)
  (m:∀b∈ex,.pA H1) (p:∀b∈ex,.K8):(.xf C s2 H1 ex).Ok where
 mod:=I.ok.mod
 kind:=S.kind
 glob:=I.ok.glob
 blt:=I.ok.blt
 above:=s
 inj:=λx y c v A=>I.ok.inj x y c (a x c v)<|a y c A
 has:=λx D=>by
  have f:∀k,(.Ws).names.lookup x=.mi->k=.cell\/k=.free->∃c,.abc x:=λk h w=>by
   obtain⟨B,E,q⟩:=qN h;have t:=mJ E;have:B=.free:=by
    rcases q with q|q
    ·subst q
     rcases w with e|e
     ·exact .B e (S.cell _ t)
     ·exact e
    ·exact q.1
   exact g _ t this
  rcases D with h|h
  ·exact f _ h .b5
  ·exact f _ h .g7
 cab:=λx c h=>.Pn
 hd:=I.ok.hd
 frames:=I.ok.frames
 stk:=.b5
 exf:=λb d=>by
  obtain⟨u,i,l,j,n,r⟩:=m b d;exact⟨λz=>.qD<|YP (p b d) s,.sC<|n x c<|.io a⟩
 bs:=I.bs
 bsz:=zBL I.ok.bsz I.sz
 noex:=λb o e d=>by
  obtain⟨u,i,l,j,n,r⟩:=m b d;rcases j with z|z
  ·exact .Zb z
  ·exact .uN (YP (zAR (.FX).1) z)
 exfs:=λb d F=>by
  obtain⟨u,i,l,j,n,r⟩:=m b d;rcases .ue F with z|z
  ·exact i z
  ·exact l z
 funs:=I.stack
 frf:=I.stkFree
theorem uY{env:Env}{x:Str}:∀{names:.zm},names.lookup x=.r9->
  .RT .cell\/
  .RT .free
 |[],h=>.ei
 |(n,c)::r,h=>by
  have d := @uY env x r;show .ahx\/.ahx;cases a:x == n with
  |true =>
   dsimp[zh,a,zYi]at h;subst h
   by_cases b:.av (.t3 NameKind.free)
   ·rw[z3 b];rw[.O (.k1 zh a)]
   ·rw[yM b];rw[.P (.k1 zh a)]
  |false =>
   dsimp[zh,a]at h
   by_cases b:.av (.t3 c)
   ·rw[z3 b];dsimp[zh,a];exact d h
   ·rw[yM b];dsimp[zh,a];exact d h
def Vr(h:(.Md)[i]?=.iT v):∃j k,i=own.length+j/\caps[j]?=.mi/\σ[k]?=.iT v:=by
 unfold stC at h
 by_cases a:i<own.length
 ·rw[zAL .xB]at h
  simp[a]at h
 ·rw[.Xb]at h
  dsimp[zZx,zBP]at h;cases c:caps[i-own.length]? with
  |none=>rw[.hv c]
  |some k =>
   rw[c]at h;dsimp[zXe,zYi]at h;refine .g4 (i-own.length) k .bm c;cases e:σ[k]? with
   |none=>rw[.hv e]
   |some o=>rw[e]at h;dsimp[Option.join_some]at h;rw[h]
theorem Ds(I:.aP H1 s2)(S:.k7)(t:.X2 C)(a:.zg .qF)(d:∀y∈scope.names,.xt)
  (H:∀b∈ex,.pA H1) (w:∀b∈ex,.K8) {h1:Heap} (K:h1.Ns C m) (h:.Vv h1.get?)
  (F:.Uy h1.get?) :
  Inv (.xf C s2 H1 ex) [] .Md (.sI s2.heap.objs.size<|.q []) { s2 with heap:=h1,toks:=tk } where
 ok:=YZ I S (zZj t) a d H w
 os:=rfl
 bare:=I.bare
 base:=Un.laid h (zBK _) .qJ
 loc:=by
  rw[.c0 ⟨m,K,λi x v L G T=>?_⟩ .lo];obtain⟨j,k,rfl,O,n⟩:=Vr G;refine s ?_;have q:capn[j]?=.aF:=by
   have:(own++capn)[own.length+j]?=.aF:=L;rw[zAM .bm]at this;simpa using this
  obtain⟨R,q1,q2,q3⟩:=S.cap j x q;rw[O]at q1;cases q1;have B:=mJ q3;have A:=S.free _ B rfl;rw[.j .lo];obtain⟨Q,N,D⟩:=I.loc;obtain⟨u,r,E⟩:=D k x v q2 n<|.F A;rw[.dq s ⟨u,r,.F<|.c4<|uY q3⟩];rcases E with ⟨z,_⟩|⟨_,c,M,o,f,l⟩
  ·rcases A with e|e<;>(rw[.bd z])
  ·obtain⟨P,g⟩:=d _ B rfl
   rw[.hu (a _ _ g) M];exact⟨c,g,o,h c o f,l⟩
 cell:=.sC (by
  obtain⟨v,o,f,l⟩:=I.cell x c<|.io a;rw[.al v o (h c o f) l])
 free:=by
  show .sI _ _ C=none;rw[aK<|wh t];exact .Gb<|zZj t
 freeC:=.sC (by
  obtain⟨v,o,f,l⟩:=I.cell x c<|.io a;rw[aK<|.sp f];exact .HU c<|.io a)
 pin:=λp J=>.B (show p∈([]:.bc) from J) .f
 hok:=I.hok.laid h (zBK _) ⟨zZc _,[],0,.nil,F⟩
 len:=by
  show .s .Md=.gT own capn;simp[stC,S.len]
end
def RS.other{K:zCM}(r:.oQ)(h:H d=.x ys)(n:d∉ρ):RS K ρ .Zo σd hd σ/\.ng ρ .Zo:=by
 have k:.ng ρ .Zo:=⟨.iY h,λa i e=>by
  rw[.uG<|.Fo h];exact e,λa o u e=>by
  rw[.uG<|.Fo h];exact e,λa j e=>by
  rw[.uG<|.Fo h];exact e⟩
 rw[.bN ⟨⟨r.hp.len,r.hp.nd,λm c a g f=>(r.hp.cel m c a g f).mono k<|aK λz=>n<|.ay z<|zAT f⟩,r.st.mono k⟩ k]
def Ext.other(e:.gp a)(h:.b9 d):.gp (upd a d o) :=
 ⟨e.pre,e.new,λp u b n=>by rw[aK<|cM b h];exact e.frame p u b n⟩
def G5(h:slot (iA nl caps σd) i=.a7):∃j k,i=nl+j/\caps[j]?=.mi/\slot σd k=.a7:=by
 unfold iA at h;dsimp[slot]at h
 by_cases a:i<nl
 ·rw[zAL .xB]at h
  simp[a]at h
 ·rw[.Xb]at h
  dsimp[zZx,zBP]at h;cases c:caps[i-nl]? with
  |none=>rw[.hv c]
  |some k =>
   rw[c]at h;dsimp[zXe]at h;refine .g4 (i-nl) k .bm c;dsimp[slot]
   revert h
   cases e:σd[k]? with
   |none=>simp
   |some o=>cases o<;>simp
structure uZ(K:zCM)(ρ0:List Addr)(H0:Hp)(J:It)(l:List D)(G:Hd->Prop):Prop where
 go:∀ρ H hd (i:Nat) d,Ext ρ0 H0 ρ H->RH K ρ H hd->G hd->l[i]?=some d->J.go i H/\∀x H',J.yld i H x H'->lS H H'/\RD K ρ H' d x
 stop:∀ρ H hd,Ext ρ0 H0 ρ H->RH K ρ H hd->G hd->J.stop l.length H
 sz:l.length<=sizeLine
def Ap.g{K:zCM}{g:.lQ}(w:.bT Ap J l g):.bT uZ J l (em g l):=⟨w.go,w.stop,w.sz⟩
structure CD where
 i:Nat
 ys:List V
 acc:List D
 rest:List D
 ρ:List Addr
 σd:Sd
 hd:Hd
 H:Hp
 σ:St
structure CI(X:Cx)(own capn:List Str)(scope:Scope)(cl:List (Str × Addr))(s2:R1)(C:Addr)(H1:Hp)(ρ1:List Addr)(fp:List Addr)(tn:Nat->Heap->Prop)(G:Hd->Prop)(g:GF)(cs:List TF)(e:EF)(l:List D)(hdF:Hd)(ds:List D)(d:CD)(s':R1):Prop where
 le:d.i<=l.length
 inv:Inv (cxC X (own++capn) scope cl C s2 H1 fp) [] d.σ d.H s'
 st:tn d.i s'.heap
 fr:∀b∈fp,d.H b=none
 at':d.H s2.heap.objs.size=some (.lst d.ys)
 out:s2.heap.objs.size∉d.ρ
 yl:d.ys.length<=d.i
 ex:Ext ρ1 H1 d.ρ d.H
 rs:RS X.K d.ρ d.H d.σd d.hd d.σ
 ac:RDs X.K d.ρ d.H d.acc d.ys
 run:dS G g cs e (l.drop d.i) d.σd d.hd=.ok d.rest hdF
 eq:d.acc++d.rest=ds
section
variable{X:Cx}{pins:List (Addr × Obj)}{σ:St}{H1:Hp}{s2:R1}{scope:Scope}{own capn:List Str}{caps:List Nat}{cl:List (Str × Addr)}
def Ar(S:.k7)(r:.f7 b H1 σd a σ)(hd:.BP d):.f7 b (.sI d<|.q []) .rn a .Md:=by
 have c:=.NH [] hd;rw[.bN (r.hp.same c) ⟨.bJ stC iA,λi x e=>?_⟩];obtain⟨j,k,rfl,l,h⟩:=G5 e;obtain⟨v,f,g⟩:=r.st.at' k x h;refine .gi v<|g.mono<|.lL c;unfold stC;rw[zAM .f];simp[l,f]
def wO{c7 tg a9:Expr}{G:.nZ}{E:.fB}{RR:R0->Addr->.eK Result}
  (hc:.bB) (S:.k7) (e6:.JL<|.q6 MTs b7 cs/\.q6 ME c7 e)
  (I1:.aP H1 s2) (T:.Wg I) (d1:tn 0 s2.heap) (hf:∀b∈I,.pA H1) (c9:.f7 B H1 σd b9 σ) (wk:uZ X.K B H1 J l G)
  (a4:.zg .qF) (d6:∀y∈scope.names,.xt)
  (run:.Ot l .rn b9=.kK a1)
  (e7:∀C s' m h ρ' vs,s2.heap.objs.size < C->s'.heap.Ns C m->.aP h s'->h C=none->.Gu B h->.p2 RH h a1->.Oq->.Co h=.x vs->.ak4->.p2 RDs h ds vs->
   RR .jS C .PI s') :
  .fW (newList []) (λacc A => .ace (λa8 d0 =>
   .L8 (.compStart .agQ 0 .BK acc { a8 with scope:=.Ws }) (RR acc a8.locals) d0) E A) E s2:=by
 refine .adl λL t f=>?_;dsimp only at t f⊢;generalize hH2:.abz=N at t f⊢;have hC:N.objs.size=s2.heap.objs.size+1:=by rw[<-hH2,zZi]
 have e8:s2.heap.objs.size≠N.objs.size:=.D0 .z8
 have old:.Vv L.get?:=.af8 f.extBut;have d8:.Uy L.get?:=.Oc e8<|.gv<|hH2▸.ds;have c0:∀b∈I,.K8:=λb w=>by
  obtain⟨o,ho,_⟩:=T.obj 0 _ d1 b w;exact zAR ho
 have d4:.X2 N.objs.size:=.D0<|wx _
 have Y:.Oq:=.hc I1.hok.fresh;have d2:tn 0 L := .ajx d1;have e4:.Ls B:=c9.hp.free Y;obtain⟨hG,hT,hE⟩:=e6 cl N.objs.size s2 H1 I;have I':=Ds (tk:=.JC) I1 S d4 a4 d6 hf c0 t old d8;have c6:∀{pins':.bc} {h:Hp},(∀b∈I,.p5 h)->∀b∈I,.Dd wG [] h b:=λ{pins' h} hn b w=>by
  obtain⟨f0,f1,f2,f3,f4,f5⟩:=.wH;have lt:=c0 b w;refine⟨hn b w,.adH N.objs.size,.gz,.G w,.sC<|f4 x c<|.io a4,.aeV⟩;rcases .bj (I1.stkSub b z) with q|q
  ·exact f1 q
  ·exact f2 q
 have b1:∀A:R1,A = { s2 with heap:=L,toks:=.JC }->
   .L8 (.WT .agQ .BK .jS<|.KI N.objs.size) (RR .jS N.objs.size) A := by
  rintro A rfl;refine EO .s7 (λn s'=>∃d:CD,n=.sA d.i/\CI X own capn scope cl s2 N.objs.size H1 B I tn G g cs e l a1 ds d s') ?_ l.length
   ⟨⟨0,[],[],ds,B,_,b9,_,_⟩,.f,zZc _,I',d2,λb w=>?_,aR,e4,zBK _,.f8<|cj Y,Ar S c9 Y,RDs.nil,by simpa using run,rfl⟩
  ·rintro n s' ⟨⟨i,ys,acc,rest,ρ',M,hd',h,σ'⟩,rfl,P⟩
   have g2:.h5 i:=P.le;have I':.Dd Inv [] σ' h s':=P.inv;have d3:tn i s'.heap:=P.st;have d5:∀b∈I,.p5 h:=P.fr;have c5:.AF h:=P.at';have c1:.Ls ρ':=P.out;have c8:ys.length<=i:=P.yl;have ex:.Gu B h:=P.ex;have a0:.A6 h M hd' σ':=P.rs;have a7:.p2 RDs h acc ys:=P.ac;have a:.Ot (.hC i) M hd'=.ok rest a1:=P.run;have a2:acc++rest=ds:=P.eq
   by_cases hlt':.iZ
   ·have g0:.yT:=.k hlt'
    rw[zYd hlt']at a;unfold dS at a
    by_cases hh:G hd'
    ·rw[z3 hh]at a
     obtain⟨go,yl⟩:=wk.go ρ' h hd' i _ ex a0.hp hh g0;cases c:g l[i] M with
     |none=>rw[.ik c]
     |some σd2 =>
      rw[.FM c];refine thn (.Dd T.item rfl rfl rfl hc i [] s' σ' h .bw I' (.YF d5) d3 go) λr b2 zz=>?_;obtain⟨u,hr,h4⟩:=zz;subst hr;refine .ank;obtain⟨x,H5,I5,r5,y5,b8,e3⟩:=zz;obtain⟨sm,rx⟩:=yl x H5 y5;have e2:=I5.pinned (.YF e3)<|.AG b8;have f6:=a0.same sm;refine thn (hG _ s5 σ' H5 x u (λj H6=>H6=H5/\.A6 H5 σd2 hd' j) e2 r5 ⟨ρ',M,hd',l[i],σd2,f6,rx,c,λj b3=>.co b3⟩) λ_ s6 zz=>?_;obtain⟨j,H6,I6,e9,b3⟩:=zz;subst e9;cases c2:kc cs σd2 hd' with
      |exc z h7=>rw[.ik c2]
      |bad=>rw[.ik c2]
      |ok b a3 =>
       rw[c2]at a;dsimp[aE]at a;refine thn (hT _ s6 j H6 (λb' H7=>b'=b/\∃k,.pZ H6 k H7/\.f7 k H7 σd2 a3 j) I6 ⟨ρ',σd2,hd',b3,by
        rw[c2];exact λb' H7 k b6 V q=>⟨q.symm,k,b6,V⟩⟩) λb' s7 zz=>?_;obtain⟨H7,I7,e5,k,b6,V⟩:=zz
       subst e5;have a6:∀{d7:St} {Q:Hp} {s8:R1},.Dd Inv ([]++wH I s5.heap) d7 Q s8->tn (i+1) s8.heap/\∀b∈I,.p5 Q:=λ{d7 Q s8} I8 =>
        .aeY (by
         obtain⟨o,e,d⟩:=.AG b8 b w;exact(.Q2).2.1)
       have R:.pZ h k H7:=.a2 Ext.same sm b6;have W:.AF H7:=R.frame _ _ c5 c1;have Z:=R.out c5 c1;have U:=a7.mono<|a0.hp.kp R;cases b' with
       |false =>
        dsimp[zZf,zWd]at a⊢;obtain⟨f7,f8⟩:=a6 I7;exact⟨.sA<|i+1,.bm,⟨i+1,ys,acc,rest,k,σd2,a3,H7,j⟩,rfl,hlt',I7.unpinned,f7,f8,W,Z,.X1 c8,ex.trans R,V,U,a,a2⟩
       |true =>
        dsimp[zYh]at a⊢;cases c3:e σd2 a3 with
        |exc z h7=>rw[.ik c3]
        |bad=>rw[.ik c3]
        |ok d b5 =>
         rw[c3]at a;dsimp[aE]at a;cases c4:.Ot (.hC<|i+1) σd2 b5 with
         |exc z h7=>rw[.ik c4]
         |bad=>rw[.ik c4]
         |ok rest' g3 =>
          rw[c4]at a;dsimp[aE,Res.ok.injEq]at a;obtain⟨F,hF⟩:=a;subst F hF;refine thn (hE _ s7 j H7 (λv Q=>∃K,Ext k H7 K Q/\.f7 K Q σd2 b5 j/\RD X.K K Q d v) I7 ⟨k,σd2,a3,V,by
           rw[c3];exact λv Q K O b4 q=>⟨K,O,b4,q⟩⟩) λu8 s8 zz=>?_;obtain⟨v8,Q,I8,r8,K,O,b4,e1⟩:=zz
          have a5:.AF Q:=O.frame _ _ W Z;have b0:=O.out W Z;refine thn (wM _ s8 j Q .jS [v8] .jS [u8] (.aew Q) I8 rfl (.jo r8) ⟨_,ys,v8,rfl,rfl,a5,by have:=wk.sz;omega,rfl⟩) λu9 s9 zz => ?_;rw[.apn];obtain⟨d9,f9⟩:=a6 I9;obtain⟨g1,k9⟩:=b4.other a5 b0;exact⟨.NR<|i + 1,.bm,⟨i + 1,ys++[v8],.vC d,rest',K,σd2,b5,_,j⟩,rfl,hlt',I9.unpinned,d9,f9,aR,b0,.uJ c8,(ex.trans<|R.trans O).other Y,g1,
           (.of U.mono (V.hp.kp O) k9).append<|.rL<|e1.mono k9,c4,.iW a2⟩
    ·rw[.ik (yM hh)]
   ·have e0:.jn i:=.bm
    subst e0;rw[zXk]at a;unfold dS at a
    by_cases hh:G hd'
    ·rw[z3 hh]at a
     dsimp[Res.ok.injEq]at a;obtain⟨F,hF⟩:=a;subst F hF;rw[X1]at a2;subst a2;refine thn (.Dd T.done rfl rfl rfl hc _ [] s' σ' h .bw I' (.YF d5) d3<|wk.stop ρ' h hd' ex a0.hp hh) λr b2 ⟨hr,I4⟩=>?_;rw[.apv];rw[.eB (e7 N.objs.size b2 m h ρ' ys d4 hm ?_ I4.free ex a0.hp Y c5 c1 a7) (.ak7 I1.call' λb w=>by
      obtain⟨f0,f1,f2,f3,f4,f5⟩:=.wH;rw[.al f3 f1 f4 f5])]
    ·rw[.ik (yM hh)]
  ·show .sI _ _ b=none
   rw[aK<|zBM<|c0 b w];exact(.wH).1
 exact .aon b1<|T.self _ 0 _ _ _ d2<|.md b1
end
section
variable{X:Cx}{pos:Pos}{scope:Scope}{own capn:List Str}{caps:List Nat}
def nK(hc:.bB)(S:.k7)(hi:.lU a f)
  (G:.ak1 k)
  (hs:autoParam (.mz a) Q2Q._auto_1):MF X (.pd w (.NF k) scope pos) (.Cz cy f g cs e):=by
 rintro pins s σ H Q I ⟨ρ,σd,V,W,p⟩;rw[eval_ListComp];unfold cy at p;cases c:.gZ V with
 |exc z h7=>rw[.eb]
 |bad=>rw[.eb]
 |ok q n =>
  rw[.j λ_ K => ?_];obtain⟨l,gd⟩:=q;rw[.vM c aE];obtain⟨cl,E,i,r⟩:=pN λy hy M=>.I8 M;rw[.da K (.Uf E (thn (.hX hi (λJ A=>∃d,.gq d A/\.f7 d A σd n σ/\Ap X.K d A J l gd) I<|.au V W (by
   rw[c];exact λJ F ρ' ex U P=>⟨ρ',ex,U,P⟩)) λv s1 E=>thn E λa0 s2 h2=>?_))]
  rw[.qs];obtain⟨it,fp,tn,J,A,rfl,u,T,R,hf,d,h,t,P⟩:=h2;refine K ?_;cases D:dj gd l g cs e l .rn n with
  |exc z h7=>rw[.c2 D]
  |bad=>rw[.c2 D]
  |ok ds hdF =>
   rw[D]at p;refine wO hc S G u T R hf t P.g i r (.lr (.aC EN) D) λC s' m F ρ' vs B hn I' N ex rh j Y L O=>?_;refine .Rp F
   ·refine I'.turned .IZ N ?_ (.Gf<|zBR u.sz B) .ER .Oh
    ·exact wh (UH u.lt B)
    ·obtain⟨v,o,Z,V⟩:=.io u.cell
     exact .qD (.DR Z B)
    ·exact .qD (.Fv u.pin B)
   ·exact p _ vs F ρ' (.wE ex) (W.ext (.wE ex) rh) (h.fresh j<|t.hp.free j) Y L O
def u4(hN:X.N.Nodup)(a5:.gd)(hx:.lc)(hc:.bB)(S:.k7)(hi:.lU h f)
  (Y:.ak1 r)
  (W:autoParam (.zY .ag5 (.a<|.lp pos') pos.line X.env=pure true) Q3Q._auto_1)
  (hs:autoParam (.mz h) Q2Q._auto_1) (a3:autoParam (.k8) Q0Q._auto_1) :
  MS X (.yq .ag5) (.a3 i<|bJ<|.Cz cy f g cs e):=by
 rintro pins s σ H En I ⟨ρ,σd,hd,rs,p⟩;rw[.cd exec_Assign_Name_used W];refine .gx zWu;have d:=de.outE (σ := σ) p;unfold bJ cy at d;cases c:.hh with
 |exc z h7=>rw[.od c d.elim]
 |bad=>rw[.od c d.elim]
 |ok q K =>
  rw[.j λ_ kq => ?_];obtain⟨l,gd⟩:=q;rw[c]at d;dsimp[aE]at d;obtain⟨cl,U,A,L⟩:=pN λy hy a0=>.I8 a0;rw[.da kq (.sz (.Uf U (thn (.hX hi (λJ P=>∃j,.gq j P/\.f7 j P σd K σ/\Ap X.K j P J l gd) I<|.HP (by
   rw[c];exact λJ n ρ' ex a9 wk=>⟨ρ',ex,a9,wk⟩)) λv s1 U=>thn U λb3 k h2=>?_)))]
  rw[.j .vg];obtain⟨it,fp,tn,J,P,rfl,M,T,a2,hf,j,B,E,wk⟩:=h2;refine kq ?_;cases R:dj gd l g cs e l .rn K with
  |exc z h7=>rw[.od R d.elim]
  |bad=>rw[.od R d.elim]
  |ok ds hdF =>
   rw[R]at d;dsimp[aE]at d
   by_cases hz:ds.length<=SZ
   ·rw[z3 hz]at d
    rw[.cN (wO hc S Y M T a2 hf E wk.g A L (.lr (.aC EN) R) λC s' m n ρ' vs Q hn I' a7 ex rh F hD a6 a8=>?_) (wpAny_assign_Name (De I' hN a5 hx (v:=.d k.heap.objs.size) rfl (λb0 a1 V=>?_) a3))];have G:.mF C:=wh<|UH M.lt Q;have D:∀y c,.Xp y=.a8->c≠C:=λy c e z=>by
     obtain⟨v,o,ho,hd⟩:=M.cell y c e;exact .Ow Q
    refine .gi m λh' sb=>xU (xU ?_)
    ·obtain⟨a,sa,ha⟩:=V
     refine hn.sameBut sa ?_;rcases ha with z|z
     ·rw[.ap z G]
     ·exact zZs (D _ _ z)
    ·have I3:.oj (.qf i<|.t k.heap.objs.size) n { b0 with heap:=h' }:=a1.turned .IZ a7 G (.Gf<|zBR M.sz Q) D λq hq z =>
      .qD<|.Fv M.pin Q
     have u:.gp n:=B.trans ex;have a4:=rh.alloc hD a6 a8;have b1:.b9 k.heap.objs.size:=B.fresh F<|E.hp.free F;have O:.gq (ρ'++.WJ) n:=⟨by obtain⟨t,rfl⟩:=u.pre;rw[.o (t++.WJ) .f],λa ha=>by
      rw[.nb ha]
      ·exact u.new a z
      ·simp at z;subst z;rw[.P b1],u.frame⟩
     obtain⟨b2,d2,b4,e2,N,Z,pn⟩:=.bi d k.heap.objs.size n (ρ'++.WJ) O (rs.ext O a4) (by
      dsimp[rD,RD];refine .gi k.heap.objs.size rfl;rw[<-rh.len];simp)
     rw[.al _ n I3 (pn _ n b2 Ext.refl ⟨N.hp,N.st.set i Z⟩)]
   ·rw[.od (yM hz) d.elim]
end
end Fm
namespace Fm
open PySem PySem.Spec L2 PyProof.Rows
mutual
noncomputable def rfs(k:Nat):.bF D
 |.ref n=>n<k
 |.tup l=>oo k l
 |.lit l=>oo k l
 |.exn _ l=>oo k l
 |_=>True
noncomputable def oo(k:Nat):.m->Prop
 |[]=>True
 |x::xs=>rfs k x/\oo k xs
end
section
variable{K:zCM}{ρ ρ' t:List Addr}{H H':Hp}{hd hd':Hd}
mutual
theorem RD.rfs:∀{d:D} {v:V},.cU->.AU Fm.rfs d
 |.non,_,_=>.rW
 |.bl _,_,_=>.rW
 |.int _,_,_=>.rW
 |.str _,_,_=>.rW
 |.tup l,_,h=>by
  rw[.jz];obtain⟨p,vs,_,_,b⟩:=h;rw[.mm Fm.rfs (RDs.rfs b)]
 |.lit l,_,h=>by
  rw[.jz];obtain⟨p,vs,_,_,b⟩:=h;rw[.mm Fm.rfs (RDs.rfs b)]
 |.ref n,_,h=>by
  rw[.jz];obtain⟨a,c,_⟩:=h;dsimp[Fm.rfs];exact .aw c
 |.exn _ l,_,h=>by
  rw[.jz];rcases h with ⟨_,rfl,_⟩|⟨_,p,vs,_,_,b⟩
  ·dsimp[Fm.rfs,Fm.oo]
  ·rw[.mm Fm.rfs (RDs.rfs b)]
theorem RDs.rfs:.DI<|.AU Fm.oo l
 |[],_,_=>.xn Fm.oo
 |d::ds,_,h=>by
  rw[.o8];obtain⟨v,r,_,h1,a⟩:=h;dsimp[Fm.oo];exact⟨RD.rfs h1,RDs.rfs a⟩
end
mutual
theorem RD.cut:∀{d:D} {v:V},RD K (ρ++t) H d v->.AU Fm.rfs d->.cU
 |.non,_,h,_=>.sX
 |.bl _,_,h,_=>.sX
 |.int _,_,h,_=>.sX
 |.str _,_,h,_=>.sX
 |.tup l,_,h,q=>by
  rw[.FK RD Fm.rfs];rw[.MT .ajG]
 |.lit l,_,h,q=>by
  rw[.FK RD Fm.rfs];rw[.MT .ajG]
 |.ref n,_,h,q=>by
  rw[.FK RD Fm.rfs];obtain⟨a,h1,b⟩:=h;rw[.C a (by rwa[zAL q]at h1) b]
 |.exn _ l,_,h,q=>by
  rw[.FK RD Fm.rfs];rcases h with h|⟨c,p,vs,e,h1,b⟩
  ·rw[.O h]
  ·rw[.P ⟨c,p,vs,e,h1,RDs.cut b q⟩]
theorem RDs.cut:∀{l:.m} {vs:.R},RDs K (ρ++t) H l vs->.AU Fm.oo l->.dp
 |[],_,h,_=>.QL RDs
 |d::ds,_,h,q=>by
  rw[.FK RDs Fm.oo];obtain⟨v,r,e,h1,a⟩:=h;exact⟨v,r,e,RD.cut h1 q.1,RDs.cut a q.2⟩
end
mutual
theorem u6:∀{d:D},.j8 d->Fm.rfs k d
 |.non,_=>.rW
 |.bl _,_=>.rW
 |.int _,_=>.rW
 |.str _,_=>.rW
 |.tup l,h=>.Ra
 |.lit l,h=>.Ra
 |.exn _ l,h=>.Ra
 |.ref _,h=>by dsimp[pure?]at h;cases h
theorem mz:∀{l:.m},.wB l->.wo l
 |[],_=>.xn Fm.oo
 |x::xs,h=>by
  dsimp[i8,UE]at h;dsimp[Fm.oo];exact .Yq mz
end
noncomputable def Q9(k:Nat):.bF bO
 |.lst l=>.wo l
 |.dct l=>.wo .Di
 |.dcT l=>.wo .Di
 |.ob l=>.wo l
def RC.rfs(h:.bT RC c a):.AU Q9 c:=by
 cases c with
 |lst l=>obtain⟨d,_,b⟩:=h;exact b.rfs
 |dct l=>obtain⟨d,_,_,b⟩:=h;exact b.rfs
 |dcT l=>obtain⟨d,_,_,b⟩:=h;exact b.rfs
 |ob l=>obtain⟨_,_,_,_,b,_⟩:=h;exact b.rfs
def RC.cut(h:RC K (ρ++t) H c a)(q:.AU Q9 c):.bT RC c a:=by
 cases c with
 |lst l=>obtain⟨e,b,d⟩:=h;rw[.C e b (d.cut q)]
 |dct l=>obtain⟨e,b,d,f⟩:=h;rw[.al e b d (f.cut q)]
 |dcT l=>obtain⟨e,b,d,f⟩:=h;rw[.al e b d (f.cut q)]
 |ob l=>obtain⟨e,C,g,b,d,f⟩:=h;exact⟨e,C,g,b,d.cut q,f⟩
def EQ(h:An c=true):Q9 k c:=by
 cases c with
 |lst l=>exact mz h
 |ob l=>exact mz h
 |dcT l =>
  have:∀l:.ed .l D,.av .KZ->.wo .Di:=by
   intro l
   induction l with
   |nil=>intro _;dsimp[zZu,Fm.oo]
   |cons x l a=>intro h;dsimp[zXn,UE]at h;simp;exact .Yq a
  exact this l h
 |dct l =>
  have:∀l:.ll,.av .KZ->.wo .Di:=by
   intro l
   induction l with
   |nil=>intro _;dsimp[zZu,Fm.oo]
   |cons x l a=>intro h;dsimp[zXn,UE]at h;simp;exact .Yq a
  exact this l h
def RH.back(r:.cE)(b:RH K (ρ++t) H' hd')(o:Ms hd hd'):RH K ρ H' (hd'.take hd.length):=by
 have g:.gT ρ t=hd'.length:=b.len;refine⟨by rw[zZe,<-g,zAK,<-r.len];lia,(zUm.mp b.nd).1,.Yi⟩;have e:.u9:=by rw[<-r.len];exact .aw f
 rw[zUb e]at d;have q:=b.cel n c a d (by rw[.Nf e];exact f);refine q.cut ?_;rcases o n c e d with z|z
 ·exact(.Ld n z f).rfs
 ·exact EQ z
/---/def qO(K:zCM)(ρ:.am)(H:Hp)(r:Res D)(Q:VK):Prop:=match r with
 |.ok d hd'=>.C3
 |_=>False
/---/def spF(K:zCM)(F:Fn)(np:Nat):Sp:=λvs H Q _=>.Kl<|.on/\.FR (F ds hd)
def Ext.short(e:.gq (ρ++t) H'):.gq ρ H':=(.xw e.frame)
def qO.letGo(f:.cE)(p:.FR .aaH):.FR r:=by
 cases r with
 |exc x g=>exact p
 |bad=>exact p
 |ok d g =>
  intro v H' ρ' b a c;dsimp[Fm.letGo]at p;split at p
  ·rename_i e
   obtain⟨t,rfl⟩:=b.pre;exact p v H' ρ b.short (f.back a e.2) (c.cut<|u6 e.1)
  ·exact p v H' ρ' b a c
def qO.runB(p:.FR<|runB n b ds hd):.bT de (b .B6 hd) { nx:=λ_ H'=>Q .non H',rt:=Q }:=by
 unfold Fm.runB at p;cases e:b .B6 hd with
 |nx σ a=>rw[.gm e λσ' H' ρ' c f=>p .non H' ρ' c f.hp .BG]
 |rt d a=>rw[.br]
 |bk σ a=>rw[.c2 e]
 |ct σ a=>rw[.c2 e]
 |exc x σ a=>rw[.c2 e]
 |bad=>rw[.c2 e]
def wP(r:.qe ds):.bT RSt (.aa7 N.length) (L2.qK N vs):=by
 have f:=r.length;refine⟨.bJ L2.qK f,λi d e=>?_⟩;dsimp[slot]at e
 by_cases a:i<ds.length
 ·rw[zAL .xB]at e
  dsimp[zBP,zAN a,zXe]at e;cases e;obtain⟨v,c,q⟩:=.jE r.get (d:=ds[i])<|.k a;refine .gi v q;unfold L2.qK;rw[zAL .bz];simp[c]
 ·rw[.Xb]at e
  dsimp[List.getElem?_replicate]at e
  by_cases b:i-.s (List.map some ds)<N.length-ds.length
  ·dsimp[b,zYh]at e;cases e
  ·dsimp[b,zWd]at e;cases e
end
structure Def(P:P6)(w:P7)(K:zCM)(mg:Str->Option R0)(base:Heap)(x:Str)(k np:Nat)(F:Fn):Prop where
 ex:∃f fd ps,mg x=some (.ref f)/\PySem.W.keepIn K (.ref f)=true/\gD K fd ps []/\cx P w K mg base CX0 k f fd ps (spF K F np)
section
variable{P:P6}{w:P7}{K:zCM}{mg:Str->Option R0}{base:Heap}
def yp{st:Stmt}(F:.Gq x h)(S:.Ep)
  (body:∀(a:R0) (A:R3) (outer:.f9) (s:R1) (H:Hp) (E:XK),ff k (.Ct a)->.adK) :
  .o0 (k+1) h ps (.mc .De ps.length):=by
 rw[.I (F.ok S (λm H Q E d=>by obtain⟨ρ,i,n,g,e,c,p⟩:=d;rw[.hr e.length c]) λa A outer s H m Q E j d=>?_) .zR];obtain⟨ρ,i,n,g,e,c,p⟩:=d;rw[.dq l (.iN _ (body a A outer s H E j) ρ _ i ⟨g,wP e⟩)];dsimp[bK,c,zYh]at p;exact(qO.letGo g p).runB
def Def.mk'(d:mg x=.t f)(b:.gu f)(c:.Gr a)(h:.yw a):.a6 x k np F:=.U2
end
section
variable{X:Cx}{pos p:Pos}
def Vs(hd:.FS Def)(A:.hz k)(J:.bo)(D:.vd i)(hnp:.wi)
  (n:autoParam (.a5) Q1Q._auto_1) (he:autoParam (.hl i=.i3 i) Q3Q._auto_1) (hpl:autoParam (.eN i) Q3Q._auto_1) :
  .UG i .pB:=by
 rw[.hD];obtain⟨f,M,O,q,E,w,C⟩:=hd.ex;rw[.ht j (.U (zB C A J q E w .nil GX D n he hpl) λσ H Q l=>?_) .hU];obtain⟨ρ,σd,hd,u,B⟩:=l;rw[.eu (j ?_) hd u (.aq B λN K l=>?_) .hU];obtain⟨m,ds,b,L,g,y,a⟩:=l;refine j ?_;rw[X1];cases c:F ds b with
 |exc z h'=>rw[.dc c]
 |bad=>rw[.dc c]
 |ok d G =>
  rw[c]at a;refine .aj1 y;rw[c];exact λv s ρ' o I t=>a v s ρ' o (g.ext o I) t
def u7:.C0 .tY:=by
 intro ds h d h' e;rw[.aaS]
 ·assumption
 ·cases e
end
def abJ{l:PySem.W.OpenLaw}{XP:.gD->.Ha}{d:DefRec}{K:Params->zCM}{F:Fn}{k:Nat}{x:Str}(I:l.most=.a 63)(i:.U3)(C:ff k callerA)
  (M:.aiz p)
  (N:∀(w:P7) (mg:.gD) (t:Addr) (h:Heap),(.oH).In h->.tR h.Ns->mg d.name=.t t->
   ∃m:FuncData,(.Sd m)/\.ahp (.aou CX0 t m [x]<|spF .oH F 1))
  (g:∀ns:.l,.AD 63->∃h,F [.tJ] []=.hq) :
  PySem.W.WalkO q b XP p l.row.toRowW d [] .Ul:=by
 refine L2.Vl I .c i C M N (λw H a ns j L A=>?_) λ_ _ _ _ _ z=>z;obtain⟨h,e⟩:=g ns j;have r:yo .oH H a .lg:=by
  rcases A with (z|⟨o,z⟩)|z
  ·rcases L a with y|⟨o,P,y⟩<;>(rw[z]at y;cases y)
  ·rw[.O (.fz z)]
  ·rw[.P z]
 have G:RDs .oH [] H (ns.map D.int) .lg:=by
  clear j A e r g
  induction ns with
  |nil=>exact RDs.nil
  |cons n ns E=>exact .yf E
 refine .iN [] [] [.tJ] ⟨rfl,List.nodup_nil,λn c a B=>by simp at B⟩ (.rL (by dsimp[RD];exact .bh a _ r G)) rfl;rw[e];intro v O ρ' Q R J;simpa only[RD] using J
end Fm
namespace Fm
open PySem PySem.Spec L2
open PyProof.Rows (Subscript_ tail_any)
noncomputable def tyS:Ty->String
 |.int=>"int" | .bool=>"bool" | .tuple=>"tuple" | .list=>"list" | .str=>"str"
def lW(t:Ty):typeOf .Ox=pure .Pp:=by
 cases t
 ·exact F.isi_meta_int
 ·exact F.isi_meta_bool
 ·exact F.isi_meta_tuple
 ·exact F.isi_meta_list
 ·exact F.isi_meta_str
def Vt(t:Ty):.wz "NoneType":=by cases t<;>(rw[.qt])
def Y0(h:t ≠ .int):.wz "int":=by cases t<;>first|exact .bg h|(rw[.qt])
def Vu(h:t ≠ .int)(a:t ≠ .bool):.wz "bool":=by cases t<;>first|exact .bg h|exact .bg a|(rw[.qt])
def Y1(h:t ≠ .str):.wz "str":=by cases t<;>first|exact .bg h|(rw[.qt])
def Ra(h:t ≠ .tuple):.wz "tuple":=by cases t<;>first|exact .bg h|(rw[.qt])
def Mx(h:t ≠ .list):.wz "list":=by cases t<;>first|exact .bg h|(rw[.qt])
def Vv(t:Ty):.wz "dict":=by cases t<;>(rw[.qt])
def si(t:Ty):.QI (tyS t)=pure true:=by cases t<;>(rw[.qt])
def G6:isSubtype (.bQ "bool") (.bQ<|.dt tyS)=pure true:=by rw[.qt]
def yq(h:n≠tyS t):.c1 (.ls n) (.ls<|tyS t):=by
 rw[beq_eq_false_iff_ne];intro e;rw[.sx (h rfl)]
def Kc{a b:Ty}(h:a≠b):.c1 a b:=by cases a<;>cases b<;>first|rfl|exact .bg h
section
variable{X:Cx}{pos p:Pos}
def Y2{σ:St}(I:.n)(F:.zo RH hd)(i:.O3)(r:.ea)(e:t6 hd t d=.cu)
  (q:∀C,.gY C->Q (.g0 b) C):.ad9:=by
 have j:=q s I;have q1:=q .oq .pv;have g:∀{n:String},s.TypeIs u n->.QI n=pure true->Q .mT s->.ad9:=λf w K=>zXf (isinstance_true (lW t) w) ⟨f,K⟩;cases d<;>dsimp[RD]at i<;>dsimp[t6]at e
 ·subst i;cases r;cases e
  exact zXf (.aoc isinstance_false_none<|Vt t) q1
 ·subst i;cases r
  by_cases f:t=.int
  ·rw[.BV (g rfl G6 j)]
  ·by_cases w:t=.bool
   ·subst w;rw[.sx (g rfl (si .bool) j)]
   ·rw[.B2 (Kc f) (Kc w)]
    exact zXf (isinstance_false_bool (by cases t<;>first|exact .bg f|exact .bg w|exact .wr) (lW t)<|Vu f w) q1
 ·subst i;obtain⟨L,rfl⟩:=r
  by_cases f:t=.int
  ·rw[.BV (g rfl (.dt si) j)]
  ·rw[.bd (Kc f)]
   exact zXf (isinstance_false_int (by cases t<;>first|exact .bg f|exact .wr) (lW t)<|Y0 f) q1
 ·subst i;obtain⟨L,rfl⟩:=r
  by_cases f:t=.str
  ·rw[.BV (g rfl (si .str) j)]
  ·rw[.bd (Kc f)]
   exact zXf (isinstance_false_str (by cases t<;>first|exact .bg f|exact .wr) (lW t)<|Y1 f) q1
 ·obtain⟨a,B,rfl,m,_⟩:=i
  cases r;obtain⟨x,_,o,h,y,_⟩:=.ey pL m
  by_cases f:t=.tuple
  ·rw[.BV (g ⟨o,h,y⟩ (si .tuple) j)]
  ·rw[.bd (Kc f)]
   exact zXf (isinstance_false_tuple (by cases t<;>first|exact .bg f|exact .wr) (lW t)<|Ra f) (.Xn y)
 ·rename_i n
  obtain⟨a,m,rfl⟩:=i;cases r;cases c:hd[n]? with
  |none=>rw[.bO]
  |some cell =>
   rw[.dL];cases cell with
   |lst l =>
    obtain⟨B,A,_⟩:=.lV F.cel m;obtain⟨z,x,k,_,h⟩:=.iD a A
    by_cases f:t=.list
    ·rw[.BV (g (.dk h) (si .list) j)]
    ·rw[.na (Kc f)]
     exact .afu (by cases t<;>first|exact .bg f|exact .wr) ⟨.dk h,q1⟩
   |dcT _=>cases e
   |ob _=>cases e
   |dct l =>
    obtain⟨B,A,_,_⟩:=.lV F.cel m;obtain⟨_,_,_,_,o,_,_,h,J,_⟩:=.iD a A;rw[.sx (zXf (.aoc isinstance_false_dict<|Vv t)<|.Xn<|J.1)]
 ·obtain⟨a,B,rfl,m,_⟩:=i
  cases r;obtain⟨x,_,G,_⟩:=.e3 m.sq;obtain⟨o,h,y,_⟩:=G.isList
  by_cases f:t=.list
  ·rw[.BV (g ⟨o,h,y⟩ (si .list) j)]
  ·rw[.na (Kc f)]
   exact .afu (by cases t<;>first|exact .bg f|exact .wr) (.Xn y)
 ·cases e
/---/def adf(K:zCM)(t:Ty):.oU:=.kq<|∃ρ hd d v b,xs=[v,.ty<|tyS t]/\.cE/\.cU/\t6 hd t d=.cu/\.jF b
def Rb(t:Ty):.ln "isinstance" (adf X.K t):=by
 intro pins s σ H l n Q I r h;rw[.j .dR];obtain⟨ρ,o,d,v,b,rfl,k,g,e,q⟩:=h;obtain⟨u,c,rfl,i,a⟩:=bS.two r;refine f ?_;cases (show c=.ls (tyS t) from a);exact Y2 I k g i e λm j=>.ch (.bl b) H j q
def jR(A:.b3 "isinstance")(y:.bX "isinstance")(o:.b3 n)(k:.bX n)(s:bootBuiltins n=.a .Ox)(w:.bq q)
  (r:autoParam (.bS [a,.gg e]=.ef a::.bS [.gg e]) Q3Q._auto_1) (m:autoParam (.bS [.gg e]=.ef (.gg e)::.bS []) Q3Q._auto_1) (x:autoParam (n≠"__name__") Q1Q._auto_1) (hd:autoParam (.jt n) Q1Q._auto_1) :
  .ahQ e (hV t q):=by
 rw[.I (.U (oP (Rb t) A y .ac (cD w (.d9 (Mj (v:=.ty<|tyS t) o k s rfl x hd) m) r) (he:=r)) λσ H Q j=>?_) .i2];obtain⟨ρ,σd,hd,z,u⟩:=j;rw[.eu (i ?_) hd z (.aq u λv C j=>?_) .i2];obtain⟨l,d,f,D,g,B,h⟩:=j;refine i ?_;cases c:t6 f t d with
 |none=>dsimp[c]at h;rw[.Ak]
 |some b=>dsimp[c]at h;exact⟨l,f,d,v,b,rfl,g.hp,B,c,h.here g .eJ⟩
def eE:.vT (.afF X.K):=YC.or Mp
def ge{K:zCM}:Og K dH (.afF K):=by
 intro ρ H σd G σ d k v w Q r h e c;cases d<;>try rw[.bK]
 ·cases k<;>try rw[.bK]
  dsimp[RD]at h e;rw[.O ⟨_,_,h,e,c.here r .eJ⟩]
 ·rename_i l
  cases l with
  |nil=>rw[.bK]
  |cons x F =>
   cases k<;>try rw[.bK]
   rename_i D
   dsimp[dH]at c;split at c
   ·rename_i C
    dsimp[RD]at h e;rw[.j λ_ u=>?_];obtain⟨a,n,rfl,s,f⟩:=h;obtain⟨b,t,rfl,E,g⟩:=e;rw[.da u (.F ⟨a,b,n,t,rfl,rfl,.d7 s,.d7 E,?_,?_,.gz,λ_ q B=>?_⟩)]
    ·intro z;subst z;have:=f.length;simp at this
    ·rw[.jJ f.length g.length (pK C)]
    ·subst z
     have A:D=[]:=.ahP
     subst A;exact c.here r (.nG a n s .Ej)
    ·have m:=.oA (n++t) B
     exact c.at (.f8 m) (r.same m) (.nG q _ aR<|(.po f g).mono<|.lL m)
   ·rw[.bK]
def My(y:.b3 "list")(o:.bX "list")(m:MQ X a c)(h:autoParam (.hk) Q3Q._auto_1):MF X (.EQ "list") c:=by
 rw[.I (.WB<|wK EG y o .ac (.d9 m h) (he:=h)) .i2];obtain⟨ρ,σd,g,s,b⟩:=k;rw[.eW i g s];cases e:c σd g with
 |exc x z=>rw[.iy e b]
 |bad=>rw[.iy e b]
 |ok l t =>
  rw[e]at b;rintro v A w n f ⟨q,r,j,u,d⟩;subst j;exact .bh q r (u.imp id SqT.of) (b.mk n f d)
/---/def MO(X:Cx)(e:.Hc)(f:OF):Prop:=PO X e<|.kL rO f
def mK:MO X none pNo:=λpins s σ H Q I c=>by obtain⟨ρ,σd,d,a,b⟩:=c;exact .hX Vf Q I<|b.here a rfl
def mL(h:.iK):MO X (.a e) (pAt f):=λpins s σ H Q I ⟨ρ,σd,m,g,j⟩=>Vg h pins s σ H Q I<|.au m g<|.aq j λv n l=>by
 obtain⟨k,d,i,o,a,b,c⟩:=l;cases d<;>try rw[.bK]
 dsimp[rD,RD]at b;exact .bP b<|c.here a rfl
def ER{K:zCM}(r:.dp):.fs (cut l lo hi) (.BQ vs):=by
 have e:.Q9:=.TZ
 unfold cut wL;rw[r.length,e,e];exact .jC r.drop _ _
def mM{K N:OF}(ha:.bq J)(Z:MO X lo K)(V:MO X hi N):.t7 (.ys C) (dY J K N):=by
 rw[.I (.WB<|uT (SlR.or Vh QR) ha Z V) .h9];obtain⟨ρ,σd,hd,U,M⟩:=k;refine h ?_;unfold dY at M;rw[.c0 (.au hd U (.aq M λv H1 k=>?_)) .h9];obtain⟨E,d,D,e1,x,W,Y⟩:=k;rw[.eR (h ?_) (.bv E D x (.aq Y λu H2 k=>?_)) .h9];obtain⟨I,S,G,T,y,q2,C⟩:=k;refine h ?_;cases q2;rw[.c0 (.bv I G y (.aq C λw B k=>?_)) .h9];obtain⟨m,O,g,e3,f,q3,b⟩:=k;refine h ?_;cases q3;have r:=.of W.mono (x.hp.kp T)<|y.hp.kp e3;have j:∀l,jL g d=.eC->bZ X.K .qT m B σd σ (.b7 g.length<|.aS g<|cut l u w) Q->abB X.K v u w B Q:=λl c p=>by
  rw[.j .h9];obtain⟨q,t,P,sq,i⟩:=EK f.hp r c;rw[.dq h ⟨q,t,P,sq,λA z=>?_⟩];have s:=.NH (wL t u w) z;have nq:=f.hp.free z;have rh:=(f.hp.same s).alloc aR nq .anw;have L:Ext m B (m++[A]) (upd B A<|.q<|wL t u w):=Ext.alloc z;refine p.at L (f.ext L rh) ?_;dsimp[rD,RD];rw[.oe A (.iW f.hp.len)]
 cases d with
 |tup l =>
  rw[.lD]
  ·rw[.u]
  ·rename_i R
   dsimp[RD]at r;rw[.j .h9];obtain⟨q,t,rfl,z,i⟩:=r;refine h ?_;have e:.Q9:=.TZ
   refine .F ⟨q,t,rfl,.d7 z,by rw[<-i.length,<-e,<-e];exact R,λA F=>?_⟩;have s:=.oA (wL t u w) F;exact b.at (.f8 s) (f.same s) (.nG A _ aR .anw)
 |ref n =>
  simp only at b;cases c:jL g .aK with
  |none=>rw[.bR c]
  |some l=>rw[.hQ];rw[.O (j l c b)]
 |lit l' =>
  simp only at b;cases c:jL g (.lit l') with
  |none=>rw[.bR c]
  |some l=>rw[.hQ];rw[.O (j l c b)]
 |_=>rw[.u]
def iG{apos cpos:Pos}(P:.jG N)(he:.kp L)(m:autoParam (.mW "append") Q3Q._auto_1)
  (s:autoParam ((.BC
   && .t1 e)=true) Q3Q._auto_1)
  (j:autoParam (.kd) Q3Q._auto_1) (I:autoParam (.z6) Q3Q._auto_1) :
  .KX "append" (i7 N L):=by
 rw[.I (.U (.akf PySem.F.slot_list_append PySem.F.type_list_append wM P (.d9 he I) m s j I) λσ H Q q=>?_) .CI];obtain⟨ρ,σd,Y,U,K⟩:=q;rw[.eW y Y U];unfold i7 at K;rw[.c0 (.aq K λv Z q=>?_) .CI];obtain⟨C,d,r,e1,u,G,f⟩:=q;refine y ?_;cases d<;>try rw[.eS]
 rename_i n
 dsimp[rD,RD]at G;obtain⟨a,M,rfl⟩:=G;simp only at f;cases E:r[n]? with
 |none=>rw[.ji E]
 |some cell1 =>
  rw[E]at f;cases cell1 with
  |dct l=>rw[.eS]
  |dcT l=>rw[.eS]
  |ob l=>rw[.eS]
  |lst l1 =>
   obtain⟨V,O,_⟩:=u.hp.cel n _ a E M;simp only at f;rw[.c0 ⟨.G ⟨rfl,V,.e4 O⟩,C,σd,r,u,.aq f λw F q=>?_⟩ .CI];obtain⟨A,k,z,R,h,B,b⟩:=q;refine y ?_;dsimp[YQ]at b;cases c:z[n]? with
   |none=>rw[.bR c]
   |some cell =>
    rw[.hQ];cases cell with
    |dct l=>rw[.u]
    |dcT l=>rw[.u]
    |ob l=>rw[.u]
    |lst l =>
     rw[.lD]
     ·rename_i S
      have i:=R.get M;obtain⟨t,D,g⟩:=.tU i;refine⟨a,t,w,rfl,rfl,D,?_,?_⟩
      ·rw[.hr g.length (YP S .sj)]
      ·have T:n<z.length:=.aw c
       have W:=h.hp.write i T<|.po g<|.rL B;have J:Ext A F A (.fE F<|.hM t [w]):=.tX i;exact b.at J (h.ext J W) .eJ
     ·rw[.u]
end
end Fm
namespace Fm
open PySem PySem.Spec L2
open AutoSeq1 (wpAny_loadPart')
open PyProof.Rows (Call_)
def Vw(h:.ls a=.ls b)(n:a≠b):False:=by injection h with h;exact n h
def qP(l:Addr)(a:.i1)(n:Nat)(f:.cx)(m:.jb):
  Meets (Builtin.«enumerate.__new__»<|.dh [.bQ "enumerate",.hK]) (λ_ R s=>.H2 { cls:=.lh,dict:=f,data:=.fL a n,slots:=m }/\
   R (.ok<|.ret<|.Gv .C2)
    (.rv<|.kH .C2 .RR)) :=
 .Mw (by
  obtain⟨j,g,d,o,k⟩:=s;obtain⟨b,h⟩:=h;have i:=sub_enumerate;have e:Heap.IsTuple (Shared.heap ⟨j,g,d,o,k⟩) l a:=.bh _ b n rfl
  wp_walk using zYm b
  refine wpAny_stack_any λp=>xU ?_;split
  ·rename_i c _ _ _ _ _
   cases (c == .ls "enumerate")
   ·wp_walk using zYm b,zYt e
    exact .dz h
   ·wp_walk using zYm b,zYt e
    exact .dz h
  ·wp_walk using zYm b,zYt e
   exact .dz h)
variable{l:Addr}
section
variable{prog:P6}{w:P7}{A:R3}{E:R0->R1->Prop}{s:R1}
def qQ(k:.CJ l a)
  (h:∀h',IsEnum h' .B7 s.heap.objs.size 0 .none->.En h'.IsTupleIter l 0->.Ym 2->
   (.cJ .yh)->.tA (.d .cf)) :
  .d6 (call (.bQ "enumerate") [.hK]):=by
 obtain⟨⟨c,f,m,p⟩,j,e,n,g⟩:=k;replace e:c=.lh := e;replace g:m=.fL a n:=g;subst e g;refine .Yw F.called_enumerate (F.typeCall_enumerate_1 _) (F.newCall_enumerate_1 _) .af0 F.entry_enumerate_new
  (qP l a n f p)<|.c4 j
 have d:.lw .C2=.B7:=zZi ..;show _/\_;rw[d];have i:IsEnum (.kH .C2
   .RR) .cf s.heap.objs.size 0 .none:=by
  have:=zAS .C2
   (o:=.RR) rfl
  rw[d]at this;rw[.iz]
 refine⟨.dk i,h _ i (.rb<|.gv .ds) (.L zZi d) λb o x=>zAQ _<|.gv x⟩
def nM(hit:.akU)
  (f:.CJ l a) (h:.iS a)
  (j:∀h',h'.IsTupleIter it l (i+1)->.xM it h'->.tA x) :
  .JO:=by
 obtain⟨o,c,g,b⟩:=id hit;obtain⟨k,e,_,m,d⟩:=f;unfold Builtin.SmallTypes.nextOf;refine zF<|.I5 hit.typeIs zWe
  .abv
 show .JD 0;refine zF (zZy c b (x:=.hK) rfl ?_);show .XW<|.KK l;rw[.ah3];show .JD 1;refine zF (zZy c b (x:=.aG 0) rfl ?_);show .al7;refine zF (zWf e d ?_);dsimp[zYc,h];refine zF (.Wy c b .f (xU (.hJ x (xU (j _ ?_ .aoO)))));exact⟨_,zWk _ c<|.akq b,.i (Obj.cls_mapFields ..) g,by
  rw[zUj b];simp[rawInt]⟩
def oZ(h:.qZ)
  (hit:.akU) (j:.CJ l b) (k:b[i]?=none)
  (n:.aiR) :
  .JO:=by
 obtain⟨o,d,p,g⟩:=id hit;obtain⟨q,f,_,r,c⟩:=j;unfold Builtin.SmallTypes.nextOf;refine zF<|.I5 hit.typeIs zWe
  .abv
 show .JD 0;refine zF (zZy d g (x:=.hK) rfl ?_);show .XW<|.KK l;rw[.ah3];show .JD 1;refine zF (zZy d g (x:=.aG 0) rfl ?_);show .al7;refine zF (zWf f c ?_);dsimp[zYc,k];refine .Wa (wpAny_setField d g .f ?_);show .yZ (newExc (.bQ "StopIteration") []) _;refine zF ?_;dsimp[newExc,newTuple];rw[.e9 .am4 (zF (m:=firstArgMember _ _) (wpAny_of_eq (a:=Value.none) (by first|rfl|(dsimp[firstArgMember];rfl)) ?_))];refine .am4;dsimp[raiseNew];refine .gx wpAny_handled
 first|rw[show A.in1.handled=none from h] | rw[h]
 rw[.eB (zF (xU (wpAny_throw ?_))) (n _ _ (.kH ((.aoO).extBut.push _) _) ⟨_,.ds,rfl⟩)]
end
theorem G7(p:.qZ)(it l:Addr)(g:l≠it)(a:.i1):
  .ad3 (h.IsTupleIter it l i/\h.IsTuple l a) where
 live:=λ_ _ b=>let ⟨o,c,_⟩:=b.1;.fz c
 frame:=λ_ _ _ b k=>⟨b.1.at .XK,let ⟨o,c,r⟩:=b.2;⟨o,k l .f o c,r⟩⟩
 item:=λi s Q E n b q=>by
  have j:a[i]?=some a[i]:=.k n
  rw[.cN (nM b.1 b.2 j λm d f=>?_) (q _ m s.toks j (.c4 d) f)];obtain⟨o,c,r⟩:=b.2;rw[.ci (.i (f.2 l g) c) r]
 done:=λs Q E b t=>oZ p b.1 b.2 .f t
noncomputable def itN:Bool->String
 |true=>"list_iterator"
 |false=>"tuple_iterator"
noncomputable def It2:Bool->Heap->Addr->Addr->.bF Nat
 |true,h,i,l,k=>h.IsListIter i l k
 |false,h,i,l,k=>h.IsTupleIter i l k
noncomputable def Sq2:Bool->Heap->Addr->.i1->Prop
 |true,h,l,xs=>h.IsList l xs
 |false,h,l,xs=>h.IsTuple l xs
noncomputable def SqM:Bool->zCM->Hp->Addr->.R->Prop
 |true,K,H,a,xs=>.A5
 |false,K,H,a,xs=>.vU
variable{h:Heap}{L:Bool}
def It2.mk(e:.dQ i=.a (.mp (itN L)<|.S1 l)):.A3 i 0:=by
 cases L
 ·exact .rb e
 ·exact .rb e
def It2.obj(t:.A3 i k):∃o,.fv i/\.YD o.data:=by
 cases L
 ·obtain⟨o,q,c,d⟩:=t
  rw[.ci q λv e=>.Gx d]
 ·obtain⟨o,q,c,d⟩:=t
  rw[.ci q λv e=>.Gx d]
def It2.at(t:.A3 i k)(a:∀o,.fv i->.wv i):It2 L h' i l k:=by
 cases L
 ·obtain⟨o,q,r⟩:=t
  rw[.ci (a o q) r]
 ·obtain⟨o,q,r⟩:=t
  rw[.ci (a o q) r]
def It2.extBut(t:.A3 a k)(e:Heap.ExtBut b h h')(n:a≠b):It2 L h' a l k:=t.at λo q=>e _ _ n q
def Sq2.lt(t:.AB h):.OZ l:=by
 cases L
 ·obtain⟨o,q,_⟩:=t
  exact zAR q
 ·obtain⟨o,q,_⟩:=t
  exact zAR q
def pO(t:.AB h)(e:Heap.ExtBut i h h')(n:l≠i):.AB h':=by
 cases L
 ·obtain⟨o,a,r⟩:=t
  rw[.ci (e _ _ n a) r]
 ·obtain⟨o,a,r⟩:=t
  rw[.ci (e _ _ n a) r]
def qR{σ:St}(I:.rU H s)(h:.Zf xs):∃b,bS xs b/\.ow L a b.toArray/\.iV:=by
 cases L
 ·exact .dm h
 ·obtain⟨b,r,p,z⟩:=.e3 h
  rw[.al b r p.isList z]
def ES{σ:St}(I:.rU H s)(h:.Zf xs)(h':.Zf ys):xs=ys:=by
 cases L
 ·exact I.tuple_inj h h'
 ·exact I.list_inj h h'
def It2.cl(t:.A3 i k):∃o,.fv i/\.GY (itN L):=by
 cases L
 ·obtain⟨o,q,c,d⟩:=t
  rw[.ci q c]
 ·obtain⟨o,q,c,d⟩:=t
  rw[.ci q c]
def Sq2.cl(t:.AB h):∃o,.fv l/\.GY (bif L then "list" else "tuple"):=by
 cases L
 ·obtain⟨o,q,c,_⟩:=t
  rw[.ci q c]
 ·obtain⟨o,q,c,_⟩:=t
  rw[.ci q c]
def Rc(c:.qZ)(it l:Addr)(b:l≠it)(a:.i1):
  .ad3 (.A3 it i/\Sq2 L h l a):=by
 cases L
 ·exact G7 c it l b a
 ·exact Draws.list c it l b a
/---/def ItG(L:Bool)(K:zCM)(a:Addr):It :=
 ⟨.aaf<|.zs L,.HG<|∃q v,x=.d q/\.b9 q/\H'=.dP q (.Aq v)/\∀xs,.zs L->.mR xs,λi H=>∃xs,.zs L/\xs.length=i⟩
noncomputable abbrev Ite:zCM->Addr->It:=ItG false
noncomputable abbrev ItL:zCM->Addr->It:=ItG true
theorem Dt{K:zCM}(e it a:Addr):Eu P w K (.u7 elts) (ItG L K a) [e,it] e (λi h=>(∃old,IsEnum h e it (i:Nat) old)/\It2 L h it a i) where
 mem:=.f
 obj:=λi h l b d=>by
  obtain⟨⟨old,t⟩,l⟩:=l;rw[.uB d]
  ·exact .bP t (λv z=>by
    have z':.T4:=z;cases z')
  ·have:b=it:=.qW
   rw[.wX l.obj]
 keep:=λi h h' l kk=>by
  obtain⟨⟨old,t⟩,l⟩:=l;rw[.o ⟨old,kk e .f _ t⟩ (l.at λo x=>.iv kk o x)]
 item:=by
  rw[.app];obtain⟨xs,x,hq,hx⟩:=hg;obtain⟨f,rv,T,hz⟩:=qR I hq;rw[.aha];have G:e≠it:=λz=>by
   subst z;have D:.iQ e=_:=t;rw[C]at D;cases D;exact .KC F
  have a0:e≠a:=λz=>by
   subst z;have D:.iQ e=_:=t;rw[j]at D;cases D;exact .KC g
  have J:a≠it:=λz=>by
   subst z;rw[C]at j;cases j;rw[F]at g;exact .KC g
  obtain⟨e0,e1,e2,e3,e4,e5⟩:=Y e .f;obtain⟨f0,Z,f2,f3,f4,f5⟩:=.iv Y;have a6:i<f.toArray.size:=by
   have:=.aw hx;have hl:=rv.length;simp;lia
  refine .abC wpAny_pyNext_enum_itemD ⟨hit,T⟩ a6 G (by simp;rw[.o G a0]) λy h' R hy a7 O Q U hk=>?_;refine .dz (wpAny_letOwnedTupleGo_enum a7 λh2 a8 B=>?_);replace B:Heap.SameBut e h' h2:=B;obtain⟨u,hu,ru⟩:=rv.get hx;have a4:y=u:=by
   have:f.toArray[i]?=.bL:=by simpa using hu
   rw[hy]at this;exact zBS this
  subst a4;have W:.eH e:=zAR t;have a2:.eH it:=zAR C;have N:.U5:=.qJ;have keep:.cJ (b≠e->b≠it->.gw b->.iq h2.get?):=λb o b1 b2 q=>.i (B.2 b b1)<|hk b o b1 b2 q;have M:.En h2.get?=.a (.sq #[.aG R,y]):=.i (B.2 _<|wh W) Q;have p:∀b,b∉([e,it]:.am)->b≠e/\b≠it:=λb d=>.qW
  refine⟨.jQ,.x8<|.Aq x,?_,rfl,⟨_,x,rfl,N,rfl,λys a3=>by rw[ES I a3 hq];exact hx⟩,⟨.cn (by simpa using a8),O.1.extBut B.extBut<|zZs G⟩,λb d=>?_⟩
  ·suffices I2:.rU (.x8<|.Aq x) { s with heap:=h2,gens:=s.gens,drawn:=s.drawn,toks:=R+1 } from I2
   refine .IV (t':=R+1) (ch:=[e,it]) (λb d=>?_) (λb o _ _ d q _=>.Vr) (λb o _ _ d q _=>.rK .Vr) (λb o _ q n=>?_) (λb o d q=>.fz .Vr)
    (λb ys q=>?_) (λb o u q=>?_) (λb ps q=>.c4 #[]) (λm hm=>?_) (.vS ?_) I.bare
   ·rw[.uB d]
    ·rw[.al e3 e1 e4 e5]
    ·have:b=it:=.qW
     subst this;rw[.al f3 Z f4 f5]
   ·rw[aK<|.sp q];exact n
   ·rw[.vX N];exact q
   ·rw[.vX N];exact q
   ·rw[.vX N,q];simp
   ·obtain⟨o,es,ep,ho,r⟩:=hm
    exact⟨o,es,ep,keep _ o (zZs e1) (zZs Z) ho,r⟩
   ·by_cases d:.L6 b
    ·subst d
     rw[.db aR];exact⟨.akP,[.aG R,y],.bn (.g5 R)<|.jo ru,_,M,rfl,_,rfl⟩
    ·rw[aK d]at q
     have S:∀c v,H c=.aM->c≠e:=.ajw e0
     have V:∀c v,H c=.aM->c≠it:=.ajw f0
     refine .xz q (λc v a5 z=>?_) (λc z=>.TR<|cM z N) λc ys z=>.TR<|cM z N
     rcases a5 with w|w
     ·subst w;exact keep c v (S c _ q) (V c _ q) z
     ·exact keep c v (S c _ w) (V c _ w) z
  ·have:.xO b:=by
    rw[.uB d]
    ·exact zBM W
    ·have:b=it:=.qW
     rw[.wX (zBM a2)]
   rw[aK this];exact(Y b d).1
 done:=by
  rw[.app];obtain⟨xs,hq,hx⟩:=hg;obtain⟨f,rv,T,hz⟩:=qR I hq;rw[.aha];have J:a≠it:=λz=>by
   subst z;rw[C]at j;cases j;rw[F]at g;exact .KC g
  obtain⟨f0,Z,f2,f3,f4,f5⟩:=.iv Y;have U:f.toArray.size=i:=by have:=rv.length;simp;lia
  refine .abC wpAny_pyNext_enum_endD ⟨.p U hit,T⟩ λh' a1=>.co<|.S4 (λb o d e=>a1 b o d e) f0 Z f3 f4 f5
 self:=λ_ _ _ _ _ l h=>by
  obtain⟨⟨old,t⟩,_⟩:=l;exact wpAny_pyIter_enum t h
section
variable{X:Cx}{pos p tp:Pos}{elts:List Expr}{tk:Nat}
/---/def iEn(K:zCM)(ta:TE):TI:=.nL<|.yj<|.uM<|SqT K H1 a xs/\(.iV->R (Ite K a) H1)
def Vx(K:.L4)(G:.L5)(E:.af a j)(v:autoParam (.z4) Q3Q._auto_1):.Ju PI (iEn X.K j):=by
 intro pins s σ H R I h;have m:=.d9 E v;refine .abY .J5
 ·show .P6 _
  have o:∀(x:V) (c:Hp),(.NW .J5)=(∃a d,[x]=.iM/\.J5):=λx c=>.f
  have i:.P6 (.NW .J5):=h;dsimp[o]at i;exact i
 ·rw[.ahg]
  subst e;obtain⟨u,rfl,F⟩:=bS.one B;cases (.Y0 a);obtain⟨l,N,y,D⟩:=k.tuple C;rw[.cN (qQ (show f.heap.IsTuple a l.toArray from y) λi r hit w z=>?_) .aet];have J:.alE:=k.kept (t':=f.toks) z;refine .abU false;have g:f.heap.objs.size<=b:=by
   rcases .bj n with e|n
   ·rw[e];exact zVc _
   ·have:.Lh:=.MH
    rw[.a9];exact zBK _
  exact .ale
theorem OB{K:zCM}{l:.m}(r:.cE)(j:.wd q)(e:.dp)(A:.Nw):
  .Ov Ite (.Ti<|.E .Zr) none where
 go:=λρ' g hd' i d a w _ s=>by
  have k:=r.kp a;obtain⟨b,c⟩:=z0.mp s;have n:.iZ:=.tV
  have hd:d=.Aq (l[i]):=.iW c
  subst hd;obtain⟨v,h,u⟩:=(e.mono k).get (i:=i) (d:=l[i])<|.k n;have m:SqT K g q vs:=.d7<|k.tup q vs j;rw[.bN ⟨vs,v,m,h⟩ .ON];obtain⟨q2,z,rfl,t,rfl,y⟩:=y;rw[.hu (y vs m) h];have f:=.alw t;rw[.fQ f];dsimp[RD];exact .bh q2 _ aR<|.yf<|.rL<|u.mono<|Kp.same f
 stop:=λρ' g hd' a w _=>⟨vs,.d7<|.aav a j,.iW e.length⟩
 sz:=by
  have:=e.length;simp;lia
def Vy(z:.L4)(t:.L5)(s:.bq f)(A:autoParam (.z4) Q3Q._auto_1):.Ju MI (QZ f):=by
 refine PI.imp (Vx z t s A) λσ H R n=>?_;obtain⟨ρ,σd,m,w,b⟩:=n;refine .eU m w;unfold QZ at b;cases e:.gZ m with
 |exc x B=>rw[.iy e b]
 |bad=>rw[.iy e b]
 |ok d y =>
  rw[e]at b;dsimp[aE]at b;intro v o i g c k;cases d<;>try rw[.u]
  rename_i l
  dsimp[rD,RD]at k;obtain⟨q,u,rfl,j,h⟩:=k;exact .bh q u (.d7 j) (λr=>b _ o i g c<|OB c.hp j h r)
end
end Fm
namespace Fm
open PySem PySem.Spec L2 PySem.W PyProof.Rows
section
variable{prog:P6}{w:P7}{A:R3}{E:R0->R1->Prop}{s:R1}
def Kd(f:.iQ a=.a (.CM vs.toArray n))(m:vs.length<2)
  (h:P (.FU .none)<|.rv<|.dx sortedHeap a vs vs.toArray):.hW (Builtin.«list.sort» ⟨.iM,[]⟩) P E s:=by
 rw[list_sort_plain];have k:.eH a:=zAR f;rw[.e9 (listItems_at f rfl ?_) (zF (listUpdate_at f rfl ?_))];obtain⟨j,c⟩:∃j,.eY (.IT a) a=.N3 j:=.ajs f;rw[.e9 (seqEpoch_at c rfl ?_) .anE];rw[.cN (.gx wpAny_newList) .wT];have d:.eY ((.kH (.IT a)<|seqObj "tuple" vs.toArray 0).push<|.CM #[] 0) a=.N3 j:=by
  rw[.Sb k,.Tw k];exact c
 dsimp only;have g:vs.toArray.size=vs.length:=.f
 have b:vs.toArray.size<2:=.p g m
 rw[z3 b,z3 b];refine .wJ;rw[StateT.run_pure];refine .wJ;dsimp only;rw[.e9 (seqEpoch_at d rfl ?_) (zF (listUpdate_at d rfl ?_ (hsz2:=by rw[Array.size_map];show (pairsOf vs).size<=_;rw[pairsOf_size,zZt];lia)))];dsimp[bne_self_eq_false,zZf,zWd];have e:.i6 (arrOf<|SortSt.mk' general' .akT #[] 7 none)=vs.toArray:=by
  show .i6 .akT=vs.toArray;apply Array.ext
  ·simp
  ·intro i o m
   simp
 refine xU ?_;have l:=h;unfold sortedHeap at l;rw[.ap e l]
def Y3:∀(ns a:.l) {xs ys:.H} (i:Nat),.qg xs->.pb ys a->Q (Fm.lexLt ns a) s->KatLex prog w A true .ak0 Q (xs.zip ys) i s:=by
 intro ns
 induction ns with
 |nil =>
  intro a xs ys i d c h;cases d;cases a with
  |nil=>rw[.qu h]
  |cons m a =>
   cases c;have b:Q true s:=h;exact b
 |cons n ns j =>
  intro a xs ys i d c h;cases d with
  |cons _ t r =>
   cases a with
   |nil =>
    cases c;have b:Q false s:=h;exact b
   |cons m a =>
    cases c with
    |cons _ f g =>
     rename_i xs ys
     refine kat_cons (zUh n t m f prog w _ _ ?_)
     rw[.aV n m]
     ·subst e
      rw[show .s8 n n by simp];refine kat_yes ?_;have b:Q (Fm.lexLt ns a) s:=.X0 Fm.lexLt
      have:=j a (i+1) r g b;have k:.D (.s (.zp n t::xs)<.s (.zp n f::ys))=.ak0:=.f
      rw[.ap k this]
     ·rw[show .c1 n m by simpa using e]
      refine kat_no ?_;have b:Q (.iO n m) s:=by simpa[Fm.lexLt,e] using h
      cases i with
      |zero=>exact oneLt_int b
      |succ i =>
       have:.cM (true&&(i+1 == 0)):=.f
       rw[.a9];exact kat_one _ _ (lt_int (by first|exact .dz b|exact b))
end
def Y4{h:Heap}(x:h.Ns a m)(y:h.Ns a c):m=c:=by
 obtain⟨o,j,k,f,i,_,r⟩:=x;obtain⟨l,g,e,b,hd',_,d⟩:=y;rw[f]at b;cases b;rw[i]at hd';cases hd';funext z;rw[<-r z,<-d z]
inductive ia(H:Hp):List V->List (List Int)->Prop
 |nil:ia H [] []
 |cons {a:Addr} {r:List Int} {vs:List V} {rs:List (List Int)}:H a=some (.tup (r.map V.int))->ia H vs rs->ia H (.ref a::vs) (r::rs)
theorem ia.get:∀{vs:.R} {rs:.dl} {i:Nat} {v:V},.Gm->.mR vs->∃a,v=.z/\H a=.dV ((rs.getD i []).map V.int)
 |_,_,_,_,.nil,e=>.u1
 |_,_,0,_,.cons h t,e=>.akb h
 |_,_,i+1,v,.cons h t,e=>by
  obtain⟨a,h1,b⟩:=ia.get t .eF;rw[.C a h1 .tV]
def ia.length:.Tg (vs.length=rs.length):=by
 intro vs rs R
 induction R with
 |nil=>rfl
 |cons _ _ a=>simp[a]
section
variable{X:Cx}{pos p:Pos}
def Mz(r:.hR cS i u):∃t,u=.aG t:=r
end
end Fm
namespace Fm
open PySem PySem.Spec L2
section
variable{X:Cx}
def mv(i:Nat){pos:Pos}(c:autoParam (.gd) Q3Q._auto_1)(b:.Ob Vis:=by first|exact Or.inl rfl|exact Or.inr (Or.inl rfl)|exact Or.inr (Or.inr rfl))(hd:autoParam (.a5) Q1Q._auto_1)
  (a:autoParam (.tG x) Q1Q._auto_1):.aL .km (aa i):=YS c b hd a
end
def fV(r:ff k A):.zi 24:=.W5
noncomputable def kl(X:Cx):.zm->Prop
 |[]=>True
 |y::r=>.QU/\kl X r
noncomputable def dI(X:Cx)(scope:Scope):.dU->.g->Prop
 |[],[]=>True
 |x::xs,i::is=>(.gd/\.qP x=.r9)/\.Es xs is
 |_,_=>False
theorem kl.get:∀{l:.zm},kl X l->∀y∈l,.QU
 |[],_,y,a=>by simp at a
 |z::r,h,y,a=>by
  rw[.o7 a]
  ·exact h.1
  ·exact kl.get h.2 y a
theorem dI.get:∀{capn:.dU} {caps:.g},.Zg->(∀(j:Nat) x,capn[j]?=.aF->∃i,caps[j]?=.fH/\.gd/\.qP x=.r9)/\capn.length=caps.length
 |[],[],_=>(.g5 λj x e=>.u1)
 |x::xs,i::is,h=>by
  obtain⟨h1,a⟩:=dI.get h.2;refine⟨λj y e=>?_,.k a⟩;cases j with
  |zero=>simp at e;subst e;rw[.C i rfl (h.1)]
  |succ j=>exact h1 j y .eF
 |[],_::_,h=>h.elim
 |_::_,[],h=>h.elim
def kl.nil:kl X []:=trivial
def kl.cons(h:.QU)(t:kl X r):kl X (y::r):=⟨h,t⟩
def dI.nil:.Es [] []:=trivial
def dI.cons(h1:.gd)(a:.qP x=.r9)(t:.Es xs is):.Es (x::xs) (i::is):=⟨⟨h1,a⟩,t⟩
def dE.mk'(k:scope.kind=.function)(c:∀y∈scope.names,y.2 ≠ .cell)(n:∀y∈scope.names,y.2=.local->.Y8)(f:kl X scope.names)(cp:.Zg):.k7 :=
 ⟨k,c,n,f.get,cp.get.1,cp.get.2⟩
section
variable{K:zCM}{ρ:List Addr}{H:Hp}
def G8(h:.cU)(f:kP d=true):tI v=true:=by
 cases d<;>dsimp[RD]at h<;>first|(subst h;rfl)|(simp[kP]at f)
def eqS:.Yp (x == y):=by
 rw[.dI x y]
 ·subst z;rw[beq_self_eq_true,beq_self_eq_true]
 ·have:.Zc:=.RP
  rw[.g6 z,.g6 this]
def Vz(h:.cU)(g:.sg w)(f:kP d=true)(b:kP k=true):eqF d k=eqV v w:=by
 cases d with
 |non=>rw[.jz];subst h;cases k<;>dsimp[RD]at g<;>first|(subst g;rfl)|(simp[kP]at b)
 |bl a=>rw[.jz];subst h;cases k<;>dsimp[RD]at g<;>first|(subst g;rfl)|(simp[kP]at b)
 |int a=>rw[.jz];subst h;cases k<;>dsimp[RD]at g<;>first|(subst g;rfl)|(simp[kP]at b)
 |str a=>rw[.jz];subst h;cases k<;>dsimp[RD]at g<;>first|(subst g;rfl)|(subst g;exact eqS)|(simp[kP]at b)
 |tup l=>simp[kP]at f
 |ref n=>simp[kP]at f
 |lit l=>simp[kP]at f
 |exn c l=>simp[kP]at f
theorem Du:.DI<|l.all kP=true->vs.all tI=true
 |[],_,h,_=>.UB
 |d::l,_,h,f=>by
  rw[.o8];obtain⟨v,r,rfl,h1,a⟩:=h;dsimp[zXn,UE]at f⊢;exact⟨G8 h1 f.1,Du a f.2⟩
theorem MC(g:.sg w)(a:kP k=true):.DI<|l.all kP=true->(l.any λz=>eqF z k)=vs.any λz=>eqV z w
 |[],_,h,_=>.UB
 |d::l,_,h,f=>by
  rw[.o8];obtain⟨v,r,rfl,h1,b⟩:=h;dsimp[zXn,UE]at f;rw[zWv,zWv,Vz h1 g f.1 a,MC g a b f.2]
end
section
variable{X:Cx}{pos:Pos}
def VA{K:zCM}(rs:.oQ)(i:.cU)(h:.sg w)(e:inL hd d k=.cu)
  (q:.jF<|if f then ! b else b):rIn K f v w H Q:=by
 dsimp[inL]at e;cases c:oU hd k with
 |none=>rw[.bO]
 |some l =>
  rw[.dL];simp only at e;split at e
  ·rename_i a
   cases e;rw[UE]at a;obtain⟨p,j,rfl,m,g⟩:=EI rs.hp h c;refine⟨p,j,rfl,m.imp id SqT.of,G8 i a.1,Du g a.2,?_⟩;unfold inV;rw[.hr (MC i a.1 g a.2) q]
  ·cases e
def XB{K:zCM}:Og K oIn (rIn K false):=by
 intro ρ H σd f σ d k v w Q c g a p;unfold oIn at p;cases e:inL f d k with
 |none=>rw[.c2 e]
 |some b=>rw[.gm e (VA c g a e<|.j3 c .tK)]
def va:.aL (.UnaryOp .USub (.q4 .aG a) pos) (.W<|-i) :=
 .U (abo YD Qw) λσ H Q c=>by obtain⟨ρ,σd,d,b,p⟩:=c;rw[.C i rfl (.jq b)]
end
end Fm
namespace Fm
open PySem PySem.Spec L2 PySem.W PyProof.Rows
def Y5(h:l<r):l<=(l+r)/2/\(l+r)/2<r:=.b
variable{p:Array Nat}
section
variable{cmp:Nat->Nat->(Bool->R1->Prop)->R1->Prop}{n:Nat}{s:R1}{lt:Nat->Nat->Bool}
structure Ord(lt:Nat->Nat->Bool)(n:Nat):Prop where
 asy:∀i j,i<n->j<n->lt i j=true->lt j i=false
 tr:∀i j k,i<n->j<n->k<n->lt i j=true->lt j k=true->lt i k=true
 tot:∀i j,i<n->j<n->i≠j->lt i j=false->lt j i=true
structure Gd(n:Nat)(p:Array Nat):Prop where
 sz:p.size=n
 pm:p.Perm (List.toArray (List.range n))
def Gd.below{p}(g:.l7)(hi:i<n):.fn i<n:=by
 have a:i<p.size:=.p g.sz hi
 have e:.fn i=p[i]:=.EJ a
 rw[e];have m:p[i]∈p.toList:=.f
 rw[.rE ((zVl.mp g.pm).mem_iff.mp m)]
def Gd.ne{p}(g:.l7)(hi:i<n)(f:j<n)(h:i≠j):.fn i≠.fn j:=by
 have a:i<p.size:=.p g.sz hi
 have b:j<p.size:=.p g.sz f
 have e:.fn i=p[i]:=.EJ a
 have c:.fn j=p[j]:=.EJ b
 rw[e,c];have d:p.toList.Nodup:=(zVl.mp g.pm).nodup_iff.mpr (by simpa using List.nodup_range);intro z;have:=(.Yr d (h₀ := .xB) (h₁ := .tV)).mp .LV;exact h this
/---/def Srt(lt:Nat->.cH Nat)(p:.pp)(m:Nat):Prop:=∀i j,i<j->j<m->.uO i (.fn j)=true
/---/def Dsc(lt:Nat->.cH Nat)(p:.pp)(m:Nat):Prop:=∀i j,i<j->j<m->.uO j (.fn i)=true
def mO:Gd n .ann:=⟨.f,Array.Perm.refl _⟩
def Srt.next(O:Ord lt n)(g:.l7)(h:.sa m)(h1:1<=m)(d:m<n)(c:.uO (m-1) (.fn m)=true):.sa (m+1):=by
 intro i j a f
 by_cases e:j<m
 ·exact h i j a e
 ·have:j=m:=.b
  subst this
  by_cases b:i=j-1
  ·subst b;exact c
  ·exact .NC .b .GQ (.ld d) (h i (j-1) .b .b) c
def Dsc.next(O:Ord lt n)(g:.l7)(h:.Hd m)(h1:1<=m)(d:m<n)(c:.ME=true):.Hd (m+1):=by
 intro i j a f
 by_cases e:j<m
 ·exact h i j a e
 ·have:j=m:=.b
  subst this
  by_cases b:i=j-1
  ·subst b;exact c
  ·exact .NC d .GQ .GQ c (h i (j-1) .b .b)
variable(O:Ord lt n)(hc:∀i j,i<n->j<n->∀C:Bool->R1->Prop,C (lt i j) s->cmp i j C s)
include O hc
theorem ub{p:.pp}(g:.l7){Q:.eK Nat}(q:∀m,1<=m->m<=n->.sa m->(m<n->.ME=true)->Q m s):
  ∀(f m:Nat),1<=m->m+f=n->.sa m->.yW (kas_asc p f m)
 |0,m,h1,e,h=>.NO .Be
 |f+1,m,h1,e,h=>by
  refine .Jw hc _ ?_;cases c:.ME with
  |true=>((try dsimp only);(try rw[.cb]));exact .NO λ_=>c
  |false =>
   ((try dsimp only);(try rw[yM UG]))
   have a:=.aiT;exact ub g q f (m+1) .b .b (h.next O g h1 .b a)
theorem yr{p:.pp}(g:.l7){Q:.eK (.pp × Nat × Nat)}(q:∀m,1<=m->m<=n->.Hd m->Q (p,m,0) s):
  ∀(f m:Nat),1<=m->m+f=n->.Hd m->.yW (kas_desc f p m 0)
 |0,m,h1,e,h=>.NO
 |f+1,m,h1,e,h=>by
  refine .Jw hc _ ?_;cases c:.ME with
  |true =>
   ((try dsimp only);(try rw[.cb]));(try rw[.n0])
   exact yr g q f (m+1) .b .b<|h.next O g h1 .b c
  |false =>
   ((try dsimp only);(try rw[yM UG]))
   have a:=.aiT;refine .Jw hc _ ?_;rw[a];((try dsimp only);(try rw[.cb]));exact .NO
omit hc in
def Y6(g:.l7)(f:m<=n)(h:.Hd m):Gd n .Zh/\Srt lt .Zh m:=by
 have b:∀k,k<m->(.Zh).getD k 0=.fn (m-1-k):=λk d=>by
  have e:=getElem?_mirror_all (i:=0) (.p g.sz f) k;rw[z3 ⟨zZc _,d⟩]at e;unfold kas_rev;rw[Array.getD_eq_getD_getElem?,Array.getD_eq_getD_getElem?,e,wm]
 rw[.bN ⟨by unfold kas_rev;rw[mirror_size,g.sz],.i (.cd mirror_perm) g.pm⟩ λi j a c=>?_];rw[b i<|UH a c,b j c];exact h _ _ (.Wl (YP a<|.aae c) a)<|zBR .Lf<|Nat.sub_one_lt<|wh<|zBR (zZc _) c
def ET(x:2<=n)(q:∀m p,.l7->1<=m->m<=n->.sa m->Q (m,p) s):.yW (kas_count n .ann):=by
 unfold kas_count;rw[zUf];refine ub O hc mO (λm b d a v=>?_) (n-1) 1 (zBK _) .b λi j k l=>.b
 rw[.aV m n]
 ·subst e
  rw[z3 .f];exact q m _ mO b (zBK _) a
 ·rw[yM .eF]
  by_cases o:m>1
  ·rw[z3 o]
   refine hc _ _ (mO.below .b) (mO.below .b) _ ?_;have:=a 0 (m-1) .b .b;rw[.a9];((try dsimp only);(try rw[.cb]));exact q m _ mO b d a
  ·rw[yM o]
   have:m=1:=.b
   subst this;have c:=v .b;unfold kas_descPart;rw[zUf];refine yr O hc mO (λm b d a=>?_) (n-2) 2 .b .b λi j k l=>?_
   ·rw[yM .f]
    unfold kas_tail3;rw[zUf];obtain⟨r,t⟩:=Y6 O mO d a;exact ub O hc r (λu g f h _=>q u _ r g f h) (n-m) m b .b t
   ·have w:i=0:=.b
    have l:j=1:=.b
    subst w l;exact c
theorem pP{p:.pp}(g:.l7){k:Nat}(h:k<n)(v:.sa k){Q:.eK Nat}(q:∀l,l<=k->.ajE->(.ai1 l)->Q l s):
  ∀(f l r:Nat),r-l<=f->l<=r->r<=k->.ajE->(.ai1 r)->.yW (kas_place p k f l r)
 |0,l,r,t,w,o,a,b=>.afy<|Nat.le_of_sub_eq_zero<|Nat.le_zero.mp t
 |f+1,l,r,t,w,o,a,b=>by
  unfold kas_place
  by_cases e:l≥r
  ·rw[z3 e]
   exact .afy e
  ·rw[yM e]
   have y:l<r:=Nat.not_le.mp e;have j:=Y5 y;generalize (l+r)/2=M at j;have u:M<k:=YP j.2 o;have d:M<n:=UH u h;refine hc _ _ (.ld h) (.ld d) _ ?_;cases c:.uO k (.fn M) with
   |true =>
    ((try dsimp only);(try rw[.cb]))
    refine pP g h v q f l M (zYz<|YP (Nat.sub_lt_sub_right j.1 j.2) t) j.1 (zZj u) a λi h1 m=>?_
    rw[.dI i M]
    ·subst z;exact c
    ·exact .NC h (.ld d) (.ld<|UH m h) c (v _ i (zWg h1<|zZs z) m)
   |false =>
    ((try dsimp only);(try rw[yM UG]))
    have x:=O.tot _ _ (.ld h) (.ld d) (g.ne h d<|wh u) c;refine pP g h v q f (M+1) r (zYz<|YP (.Wl y<|zZp j.1) t) j.2 o (λi h1=>?_) b
    rw[.dI i M]
    ·subst z;exact x
    ·have A:i<M:=zWg (zYz h1) z
     exact .NC (UH A d) (.ld d) (.ld h) (v i _ A u) x
theorem As(q:.aoJ):∀(f:Nat) (p:.pp) (k:Nat),.l7->k+f=n->.sa k->.yW (kas_bin f p k)
 |0,p,k,g,e,h=>by
  have:k=n:=e;rw[.wX (q p g h)]
 |f+1,p,k,g,e,h=>by
  unfold kas_bin;rw[zUf];have B:k<n:=e▸Nat.lt_add_of_pos_right (Nat.succ_pos f);refine pP O hc g B h (λl y a b=>?_) k 0 k (zBK _) (zZc _) (zBK _) (λi z=>.uS z) λi z C=>.B C<|.sP z;have v:k<p.size:=.p g.sz B
  have r:∀i,(bubble p k<|k-l).getD i 0=.Q i l (.fn k) (if l<i/\i<=k then .fn (i-1) else .fn i):=λi=>by
   rw[.hS (getElem?_bubble v (k-l) .Lf i) (Nat.sub_sub_self y)];simp;rw[.a9]
   by_cases m:i=l
   ·rw[z3 m,z3 m]
   ·rw[yM m,yM m]
    by_cases d:l<i/\i<=k
    ·rw[z3 d,z3 d]
    ·rw[yM d,yM d]
  refine As q f _ (k+1) ⟨.L bubble_size g.sz,.i (.aC bubble_perm) g.pm⟩ (.p zUk e) λi j c E=>?_;have t:j<=k:=zYz E;have x:j-1<k:=Nat.sub_one_lt_of_le (Nat.zero_lt_of_lt c) t;rw[r i,r j]
  by_cases m:i=l
  ·have o:l<j:=m▸c
   rw[z3 m,yM<|wh o,z3<|.fz t];exact b _ (.aae o) x
  ·rw[yM m]
   by_cases d:l<i/\i<=k
   ·have o:l<j:=UH d.1 c
    rw[z3 d,yM<|wh o,z3<|.fz t];exact h _ _ (Nat.sub_lt_sub_right (Nat.zero_lt_of_lt d.1) c) x
   ·rw[yM d]
    have A:i<l:=zWg (zXv.mp λz=>d ⟨z,zBL (zZj c) t⟩) m
    by_cases w:j=l
    ·rw[z3 w];exact a _ A
    ·rw[yM w]
     by_cases u:l<j/\j<=k
     ·rw[z3 u]
      exact h _ _ (YP A<|.aae<|u.1) x
     ·rw[yM u]
      have D:j<l:=zWg (zXv.mp λz=>u ⟨z,t⟩) w;exact h _ _ c (YP D y)
def G9(b:2<=n)(q:.aoJ):.yW (kas_sort n):=by
 unfold kas_sort;rw[zUf];refine ET O hc b λm p g c d a=>?_
 by_cases e:m<n
 ·rw[z3 e]
  have:max m 1=m:=.b
  rw[.a9];exact As O hc q (n-m) p m g .b a
 ·rw[yM e]
  have:m=n:=.b
  rw[.wX (q p g a)]
end
end Fm
namespace Fm
noncomputable def EU(x:.l):.dl->.dl
 |[]=>[x]
 |y::r=>.dE (.cp x y) (x::y::r)<|y::EU x r
noncomputable def gf:.dl->.dl
 |[]=>[]
 |x::r=>EU x<|gf r
/---/def EV(r:.l):D:=.E<|.dt r.map
theorem vc:∀a,.cp a a=false
 |[]=>rfl
 |x::a=>.bJ lexLt<|vc a
theorem nN:∀{a b c},.cp a b=true->.cp b c=true->.cp a c=true
 |[],[],_,h,_=>.DX
 |[],_::_,[],_,h=>.DX
 |[],_::_,_::_,_,_=>rfl
 |_::_,[],_,h,_=>.DX
 |_::_,_::_,[],_,h=>.DX
 |x::a,y::b,z::c,h,h'=>by
  dsimp[lexLt]at h h' ⊢
  rw[.aV x y]
  ·subst e
   rw[.cb]at h
   by_cases d:x=z
   ·subst d
    rw[.cb]at h' ⊢;exact nN h h'
   ·rw[yM d]at h' ⊢;exact h'
  ·rw[yM e]at h
   by_cases d:y=z
   ·subst d
    rw[yM e];exact h
   ·rw[yM d]at h'
    simp at h h';rw[.n0];simp;lia
theorem wQ:∀{a b},a≠b->.cp a b=false->.cp b a=true
 |[],[],h,_=>.bg h
 |[],_::_,_,h=>.DX
 |_::_,[],_,_=>rfl
 |x::a,y::b,h,h'=>by
  dsimp[lexLt]at h' ⊢
  rw[.aV x y]
  ·subst e
   rw[.cb]at h' ⊢;exact wQ (λz=>h<|.bA z) h'
  ·rw[yM e]at h'
   rw[yM<|zZs e];simp at h' ⊢;lia
def yt(h:.cp a b=true):.cp b a=false:=by
 cases c:.cp b a with
 |false=>rfl
 |true=>rw[.hu (nN h c) vc]
theorem wR(x:.l):∀r,(EU x r).Perm<|x::r
 |[]=>.refl _
 |y::r=>by
  dsimp[EU];split
  ·exact .refl _
  ·exact .i ((wR x r).cons y) (.swap x y r)
theorem oq:∀r,(gf r).Perm r
 |[]=>.refl _
 |x::r=>.i (wR x _)<|(oq r).cons x
theorem Au:∀{r:.dl},x∉r->r.Pairwise .Dn->.jm (EU x r) .Dn
 |[],_,_=>.k EU
 |y::r,f,h=>by
  dsimp[EU];have j:¬x=y:=.Fq f;have i:x∉r:=.Fq f;obtain⟨e,k⟩:=.qh h;split
  ·rename_i c
   refine .KG h;rw[.uB d]
   ·exact c
   ·exact nN c (e b d)
  ·rename_i c
   have g:=wQ j .tO;refine .KG<|Au i k;rw[.uB ((wR x r).mem_iff.mp d)]
   ·exact g
   ·exact e b d
theorem qS:∀{r:.dl},r.Nodup->.jm (gf r) .Dn
 |[],_=>.nil
 |x::r,h=>by
  obtain⟨h1,c⟩:=zYe.mp h;exact Au (λz=>h1<|(oq r).mem_iff.mp z)<|qS c
def OC{a b:.dl}(p:a.Perm b)(c:a.Pairwise .Dn)(e:b.Pairwise .Dn):a=b :=
 List.Perm.eq_of_pairwise (λx y _ _ h d=>by rw[.hu (yt h) d]) c e p
end Fm
namespace Fm
open PySem PySem.Spec L2 PySem.W PyProof.Rows
section
variable{X:Cx}{pos p:Pos}
def ia.rds{K:zCM}:.Tg (.qe<|rs.map EV):=by
 intro vs rs R
 induction R with
 |nil=>exact RDs.nil
 |@cons a r vs rs h t b =>
  refine .lb ?_ b;unfold EV;dsimp[RD];refine .bh a _ h ?_;clear h
  induction r with
  |nil=>exact RDs.nil
  |cons x r b=>exact .yf b
theorem ia.pick(h:.Gm):∀(l:.g),(∀i∈l,.rN)->ia H (l.map λi=>.Ng) (l.map .O6)
 |[],_=>.nil
 |i::l,b=>by
  have hi:.rN:=b i .f;obtain⟨a,e,c⟩:=.jE h.get (v:=vs[i])<|.k hi;have t:=ia.pick h l λj d=>b j<|.k d;have:.Ng=.z:=.jB List.getD hi e
  dsimp[xI,this];exact .bn c t
theorem bS.pick(h:.g1 vs):∀(l:.g),(∀i∈l,.rN)->bS (l.map λi=>.Ng) (l.map λi=>us.getD i Value.none)
 |[],_=>.nil
 |i::l,a=>by
  have hi:.rN:=a i .f;obtain⟨u,e,b⟩:=.jE h.get (x:=vs[i])<|.k hi;have t:=bS.pick h l λj c=>a j<|.k c;simp;refine .bn ?_ t;simp[List.getD,hi,e];exact b
end
section
variable{X:Cx}{pos p:Pos}
theorem RDs.rep{K:zCM}(r:.dp):∀k,.fs (.F5 l)<|.F5 vs
 |0=>RDs.nil
 |k+1=>by
  rw[zZr,zZr,zYr,zYr];exact .po r<|RDs.rep r k
end
end Fm
namespace Fm
@[simp] noncomputable def Ha:EF:=λ_ h=>.iX<|h++[.dct []]
/---/def Av(l:.ll)(k:Int):.J:=.i6<|l.find? λp=>.nn p
/---/def Ke(l:.ll)(k:Int)(v:D):.ll:=.dE (l.any λp=>.nn p) (.b8<|.Uw v)<|l++[(k,v)]
@[simp] noncomputable def Kf:O2:=.dZ<|match x,y with
 |.int k,.ref n=>match h[n]? with|some (.dct l)=>.aY ((Av l k).isSome)|_=>.bad
 |_,_=>.bad
@[simp] noncomputable def vd(x i e:EF):SF:=.VN<|.uq i λj h=>match p,j with
 |.ref n,.int k=>match h[n]? with
  |some (.dct l)=>.cZ .Fz (.NN<|.dct<|Ke l k d)
  |_=>.bad
 |_,_=>.bad
noncomputable def jS:.ll->.as .dl
 |[]=>.sW
 |(k,.int v)::r=>.bD jS r λl=>[k,v]::l
 |_=>none
@[simp] noncomputable def uc(a:EF):LF:=.cF<|match x with
 |.ref n=>match h[n]? with
  |some (.dct l)=>match jS l with
   |some r=>.gI (r.length<64/\r.Nodup) (.bD gf r EV)
   |none=>.bad
  |_=>.bad
 |_=>.bad
end Fm
namespace L2
open PySem PySem.Spec PyProof.Rows
section
variable{κ:Type}[DecidableEq κ]
/---/def qH(kvs:.n5 V)(k:κ):.as V:=.i6<|kvs.find? λkv=>.nn kv
/---/def ud(kvs:.n5 V)(k:κ)(v:V):.n5 V :=
 .dE (kvs.any λkv=>.nn kv) (kvs.map λkv=>.Q (kv.1) k (kv.1,v) kv)<|kvs++[(k,v)]
def Aw{k:κ}(e:p.1=k):qH (p::r) k=some p.2:=.jB qH zVh e
def ve{k:κ}(e:¬p.1=k):qH (p::r) k=qH r k:=.jB qH zVh e
theorem Hb(k:κ):∀a:.n5 V,(a.any λb=>.nn b)=.k5 (qH a k)
 |[]=>rfl
 |p::r=>by
  rw[zWv]
  rw[.aV .fF k]
  ·dsimp[Aw e,y3 e,Bool.true_or,Option.isSome_some]
  ·rw[ve e,z5 e,zUp];exact Hb k r
def yu(a:.n5 V)(k:κ)(v:V):.s (ud a k v)<=a.length+1:=by
 unfold ud;split
 ·rw[zST];lia
 ·rw[zAK,xR,wb];lia
def sS.isSome_eq(r:sS o u):o.isSome=u.isSome:=by
 cases o with
 |none=>cases u with
  |none=>rfl
  |some _=>exact .Ku
 |some _=>cases u with
  |none=>exact .Ku
  |some _=>rfl
def KV.val{vs:.n5 R0}(r:KV a vs)(k:κ):sS (qH a k) (valueAt vs k):=by
 unfold KV at r
 induction r with
 |nil=>exact True.intro
 |@cons p q j d h t g =>
  obtain⟨f,i⟩:=h
  rw[.aV .fF k]
  ·have c:q.1=k:=f.symm.trans e
   have b:valueAt (q::d) k=some q.2:=.jB valueAt zVh c
   rw[Aw e,b];exact i
  ·have c:¬q.1=k:=.r2 f.trans
   have b:valueAt (q::d) k=valueAt d k:=.jB valueAt zVh c
   rw[ve e,b];exact g
def KV.any(r:KV a vs)(k:κ):(a.any λb=>.nn b)=vs.any λb=>.nn b:=by
 unfold KV at r
 induction r with
 |nil=>rfl
 |cons h t c=>rw[zWv,zWv,c,h.1]
def KV.repl(r:KV b vs)(k:κ){y:V}{u:R0}(f:.iL):
  KV (b.map λa=>.Q (a.1) k (a.1,y) a) (vs.map λa=>.Q (a.1) k (a.1,u) a):=by
 unfold KV at r⊢
 induction r with
 |nil=>exact .nil
 |@cons p q j i h t g =>
  rw[xI,xI];refine .bn ?_ g;obtain⟨c,d⟩:=h
  rw[.aV .fF k]
  ·rw[z3 e,z3<|c.symm.trans e];rw[.o c f]
  ·rw[yM e,yM<|.r2 c.trans];rw[.o c d]
def KV.put(r:KV a vs)(k:κ){y:V}{u:R0}(b:.iL):KV (ud a k y) (stored vs k u):=by
 unfold ud stored;rw[r.any k]
 by_cases e:.av (vs.any λc=>.nn c)
 ·rw[z3 e,z3 e];exact r.repl k b
 ·rw[yM e,yM e];exact Paired.snoc r (.co b)
def KV.length{vs:.n5 R0}(r:KV a vs):a.length=vs.length:=Paired.length r
end
def Re(r:.lF<|kV k):(.Hz).is k u=true:=by
 cases k with
 |inl i=>rw[.yD .YE];rw[.d3 (GP P w i t)]
 |inr x=>rw[.yD .UY];rw[.d3 (GQ P w x t)]
theorem Dv:∀{a:.ai Key} {us:.H},.g1 (a.map kV)->ItemsAre .Hz a us
 |[],_,r=>by rw[zZu]at r;cases r;exact .nil
 |k::a,_,r=>by
  rw[xI]at r;cases r with
  |cons h t=>exact .bn (Re h) (Dv t)
noncomputable abbrev KT(H:Hp):.CF V->.LU->Prop:=Paired λp q=>.aek
def KT.val{xs:.LU}(r:KT H a xs)(k:.ai Key):sS (qH a k) (.i6 .Z9):=by
 induction r with
 |nil=>exact True.intro
 |@cons p q j d h t g =>
  obtain⟨f,_,i⟩:=h
  rw[.aV .fF k]
  ·have c:q.1=k:=f.symm.trans e
   have b:atKey (q::d) k=some q.2:=.jB atKey zVh c
   rw[Aw e,b];exact i
  ·have c:¬q.1=k:=.r2 f.trans
   have b:atKey (q::d) k=atKey d k:=.jB atKey zVh c
   rw[ve e,b];exact g
def KT.repl(r:KT H a xs)(k:.ai Key)(f:.iL):
  KT H (a.map λc=>.Q (c.1) k (c.1,y) c) (xs.map<|putAt k u):=by
 induction r with
 |nil=>exact .nil
 |@cons p q l j h t i =>
  rw[xI,xI];refine .bn ?_ i;obtain⟨b,d,g⟩:=h;unfold putAt
  rw[.aV .fF k]
  ·rw[z3 e,z3<|b.symm.trans e];rw[.C b d f]
  ·rw[yM e,yM<|.r2 b.trans];rw[.C b d g]
def KT.put(r:KT H a xs)(k:.ai Key)(f:.WS)(c:.iL):
  KT H (ud a k y) (storedH xs k b u):=by
 have e:(a.any λd=>.nn d)=.k5 .Z9:=by
  rw[Hb,(r.val k).isSome_eq,Option.isSome_map]
 unfold ud storedH;rw[e]
 by_cases q:.oT .Z9
 ·rw[z3 q,z3 q];exact r.repl k c
 ·rw[yM q,yM q];exact Paired.snoc r ⟨rfl,f,c⟩
def KT.keeps(r:KT H a xs)(d:∀b ys,H b=.dV ys->c b=.dV ys):KT c a xs :=
 Paired.mapP r<|.uE ⟨z.1,d _ _ z.2.1,z.2.2⟩
variable{b:List (Key × V)}
section
variable{P:P6}{w:P7}{H:Hp}{h:Heap}{a:Addr}
def XD(ok:.fq h)(e:.l8 u):.mS u:=e.ok ok
def Rf(ok:.fq h)(e:.l8<|.dK b):.E5/\.Sm b :=
 show .mS (.dK b) from XD ok e
def Rg(ok:.fq h)(e:.v0 b):.E5/\.Sm b:=Rf ok<|.G e
def Kg(ok:.fq h)(e:H a=.dV (c.map kV)):(.I9).is h c a:=by
 rw[.n9];obtain⟨_,b,r,o,f,i,n,g⟩:=(show .mS (.E<|c.map kV) from ok a _ e);rw[.cX d ⟨o,b.toArray,n,f,i,g,.h1<|Dv r⟩]
def Rh{b:.CF V}(ok:.fq h)(e:.l8<|.dT b):.E5/\.xG/\
  .ahE:=by
 rw[.j λ_ k=>?_];obtain⟨z,y,xs,r,o,i,j,g,u,v,s,A⟩:=(show .mS (.dT b) from XD ok e);rw[.dq k ⟨z,y,xs,r,o,i,j,g,u,v,s,λx c=>?_,A⟩];have d:∀{l:.CF V} {m:.LU},KT H l m->∀x∈m,(.I9).is h x.1 x.2.1:=by
  intro l m q
  induction q with
  |nil=>intro x c;exact nomatch c
  |@cons p q C B f t n =>
   intro x c;rcases .bj c with e|c
   ·subst e
    exact Kg ok (by rw[<-f.1];exact f.2.1)
   ·exact n x c
 exact d r x c
def abK{b:.CF V}(ok:.fq h)(e:.fl<|.dT b):.E5/\.xG/\
  .ahE:=Rh ok<|.G e
end
/---/def Ri(H:Hp)(a:Addr)(y:V)(r:.as V):Prop :=
 (∃kvs k,.l8 .OU/\y=kV k/\r=qH kvs k)\/∃kvs k b,.l8 .Hu/\y=.hL/\.WS/\r=qH kvs k
/---/def Rj(H:Hp)(a:Addr)(y v:V)(H':Hp):Prop :=
 (∃kvs k,.v0 kvs/\y=kV k/\.aol (.dK .Pm))\/
 ∃kvs k b,.fl .Hu/\y=.hL/\.WS/\.aol (.dT .Pm)
def Ri.k{k:Key}(e:.v0 b):Ri H a (kV k) (qH b k):=.G<|.ch b k (.G e) rfl
def Rj.k{k:Key}{v:V}(e:.v0 b)(c:b.length<sizeLine):Rj H a (kV k) v (.lM<|.dK<|ud b k v):=.G ⟨b,k,e,rfl,c,rfl⟩
section
variable{X:Cx}{pins:List (Addr × Obj)}{σ:St}{H:Hp}{s:R1}{a:Addr}{y v:V}{u r:R0}{o:Option V}{A:R3}{E:R0->R1->Prop}
def Inv.big(I:.n):.eH sysModules:=by
 have h:.eH mainGlobals:=(I.mod.glob.keeps I.bk).lt;exact UH .c h
def adg(t:.zi 1)(I:.n)(g:Ri H a y o)(n:.iL)(h:∀m,.gY m->Q (.g0 o.isSome) m):
  .yM (compareOp .In u .z):=by
 rcases g with ⟨kvs,k,e,i,l⟩|⟨kvs,k,b,e,i,p,l⟩
 ·subst i
  rw[.n9];obtain⟨z,j,x,c,f⟩:=.ey Rf e;rw[.da d (wpAny_in_of (Re n) j f.mapOf ?_)];rw[.jJ ((c.val k).isSome_eq) l (h _ .pv)]
 ·subst i
  cases (show .d8 b from n);rw[.n9];obtain⟨z,j,w,c,f⟩:=.ey Rh e;rw[.da d (wpAny_in_heap (tupleKind_room_in1 t) (.ey Kg p) j f ?_)];have q:=(c.val k).isSome_eq;rw[Option.isSome_map]at q;rw[.jJ q l (h _ .pv)]
def MD(I:.n)(c:Mut<|H a)(f:.xM a h')(he:∃q,.HQ q)(new:.ha gC (.lM ob) h' a ob):
  .oR (.lM ob) :=
 .OK a (e:=a) c .b5 (λb q d z=>.i (f.2 b d) z) he new
def Y7(z:.E5)(hd:.xG)(rel:KV b vs)(dd:h'.DictOf .Hz a vs):
  .G0 c a (.dK b):=⟨z,hd,vs,rel,dd⟩
def OD(P:.zi 1)(I:.n)(g:Rj H a y v B)(F:.iL)(K:cS v r)(h:∀J,.aP B J->Q () J):
  .yM (setItem .z u r):=by
 rcases g with ⟨kvs,k,e,n,l,eH⟩|⟨kvs,k,b,e,n,C,l,eH⟩
 ·subst n eH
  rw[.j .i2];obtain⟨z,w,T,d,t⟩:=.ey Rg e;refine i ?_;have p:.S T.length:=.ay d.length z
  have m:.S (.s .Pm):=.lH<|yu kvs k v
  refine wpAny_setItem_pairs (hsz:=p) (Re F) t λD f x=>h _ ?_;have L:∃q,D.get? a=.a q:=let ⟨q,_,_,j,_⟩:=f;⟨q,j⟩;exact MD I .XO x L (Y7 m w (d.put k K) f)
 ·subst n eH
  cases (.Y0 b);rw[.j .i2];obtain⟨z,w,N,d,t⟩:=.ey abK e;refine i ?_;have p:.S N.length:=.ay (Paired.length d) z
  have m:.S (.s .Pm):=.lH<|yu kvs k v
  rw[.I (wpAny_setItem_heap (hsz:=p) (tupleKind_room_in1 P) (.ey Kg C) t λD f x=>h _ ?_) .i2];obtain⟨q,M,O,j,S,U,R,_,V⟩:=f;rw[.da i (MD I .XO x ⟨q,j⟩ ⟨m,w,_,(d.put k C K).keeps λc W G=>?_,q,M,O,j,S,U,R,V⟩)];rw[aK<|ne_of G e λz=>nomatch z];exact G
end
section
variable{X:Cx}{pins:List (Addr × Obj)}{σ:St}{H:Hp}{s:R1}{a:Addr}{kvs:List (Key × V)}{k:Key}{u:R0}{A:R3}{E:R0->R1->Prop}
end
/---/def Y8(i:Expr):Prop:=∀ov iv,.LR i ov iv=operate [ov,iv] (getItem ov iv)
def MH{pos:Pos}{T id:String}{Q:.fB}
  (k:.ad4) (l:Y8 a)
  (h:.EO value (λo d=>.EO a (λi b=>b.TypeIs o T/\.CX (getItem o i) b) E d) E s) :
  .d6 (.Bk<|.Subscript value a pos):=by
 refine Subscript_ (zZd h (λo d f=>zZd f (λi b c=>?_) .zN) .zN);obtain⟨j,c⟩:=c;unfold subscriptTail;refine zF ?_;rw[getitemInPython_of_ne j.not_modules];refine zF (wpAny_specialOf j k ?_);have fin:.hW (.LR a o i) (λr e=>.CX (letTemporaryGo value o r >>= λ_=>pure r) e) E b := by
  rw[l o i];exact wpAny_operating<|zZd c (λr e g=>zF<|wpAny_letTemporaryGo<|xU g) .zN
 first
  |exact xU<|zF fin
  |exact .EE fin
  |exact zF fin
section
variable{X:Cx}{o i e value:Expr}{pos pos' tpos:Pos}{td ty tv:TE}
end
def Rk(h:Heap)(a:.OZ sysModules):gC P w H (h.push .JI) h.objs.size (.dK []) :=
 ⟨zZc _,.g6<|zZs<|zBM a,[],.nil,Heap.DictOf.new h⟩
/---/def Y9:TE:=λ_ H Q=>.q9<|.dK []
section
variable{X:Cx}{pos:Pos}
def Rl:.af (.Dict [] [] pos) Y9:=λpins s σ H Q I h =>
 wpAny_Dict_empty ⟨.jQ,_,.aiP (.dK []) (t':=s.toks) (.nQ .qw) (zBK _)<|.dx Rk I.big,rfl,h _ .qJ⟩
end
structure M1(X:Cx)(o:Expr)(m:Str)(apos:Pos)(e:Expr)(cpos:Pos):Prop where
 base:attributeBase o m X.env (eval o X.env)=eval o X.env
 few:((backTo cpos (starEach [e] X.env)).all (λx => !x.1) && (backToKw cpos (keywordEach [] X.env)).all (λx=>x.1.isSome)
  && decide (([e]:List Expr).length+([]:List Keyword).length+(if ([]:List Keyword).isEmpty then 0 else 1)<30))=true
 line:(apos.endLine == cpos.line)=true
 trees:backTo cpos (starEach [e] X.env)=[(false,eval e X.env)]
structure M2(X:Cx)(o:Expr)(m:Str)(apos:Pos)(e f:Expr)(cpos:Pos):Prop where
 base:attributeBase o m X.env (eval o X.env)=eval o X.env
 few:((backTo cpos (starEach [e,f] X.env)).all (λx => !x.1) && (backToKw cpos (keywordEach [] X.env)).all (λx=>x.1.isSome)
  && decide (([e,f]:List Expr).length+([]:List Keyword).length+(if ([]:List Keyword).isEmpty then 0 else 1)<30))=true
 line:(apos.endLine == cpos.line)=true
 trees:backTo cpos (starEach [e,f] X.env)=[(false,eval e X.env),(false,eval f X.env)]
/---/def IsD(H:Hp)(a:Addr):Prop:=(∃kvs,.l8 .OU)\/∃kvs,.l8 .Hu
def Za{σ:St}{H:Hp}{s:R1}{a:Addr}(I:.n)(d:IsD H a):
  s.TypeIs .z "dict"/\(∀b,.ee a=.hL->.aov b)/\.xG:=by
 rcases d with ⟨kvs,e⟩|⟨kvs,e⟩
 ·rw[.nJ];obtain⟨_,i,k,_,f⟩:=.ey Rf e;refine c ?_
  refine .aky;cases q;rw[.apu];refine c ?_;rw[.C ob g (h.2.1)]
 ·rw[.nJ];obtain⟨_,i,j,_,f⟩:=.ey Rh e;refine c ?_
  refine .aky;cases q;rw[.apu];refine c ?_;rw[.C ob g (h.2.1)]
section
variable{X:Cx}{pins:List (Addr × Obj)}{σ:St}{H:Hp}{s:R1}{a:Addr}{y d:V}{u r:R0}{o:Option V}{A:R3}{E:R0->R1->Prop}
end
section
variable{X:Cx}{o e f:Expr}{apos cpos:Pos}{td ty tx:TE}
end
section
variable{X:Cx}{pins:List (Addr × Obj)}{σ:St}{H:Hp}{s:R1}{a:Addr}{kvs:List (Key × V)}{A:R3}{E:R0->R1->Prop}
end
section
variable{X:Cx}{pins:List (Addr × Obj)}{σ:St}{H:Hp}{s:R1}{a:Addr}{y:V}{u:R0}{A:R3}{E:R0->R1->Prop}
end
end L2
namespace Fm
open PySem PySem.Spec L2 PySem.W PyProof.Rows
section
variable{K:zCM}{ρ:List Addr}{H:Hp}{hd:Hd}
def RH.allocD(r:.cE)(hp:.bT RC (.dct l) p)(m:p∉ρ):RH K .vA H (hd++[.dct l]):=by
 have k:.ng .vA H:=.RS;refine .gi .zB .Yi
 ·rw[zUm]
  rw[.C r.nd .f λa j b i=>by simp at i;subst i;intro e;rw[.d3 (m j)]]
 ·by_cases hlt:.u9
  ·rw[zAL hlt]at d
   rw[.Nf hlt]at f;exact .Zy f k rfl
  ·have o:n=hd.length:=by
    have:=.aw d;simp at this
    lia
   subst o;rw[.H5];rw[<-r.len]at f;simp at f;subst f;obtain⟨g,q1,q2,q3⟩:=hp;rw[.al g q1 q2 (q3.mono k)]
def RH.writeD(r:.cE){l:.ll}{b:.ed Key V}(hp:.vh p)(f:.u9)(h1:.Je b.map)(g:.yP b.map):RH K ρ (.pU<|.dK b) (hd.set n<|.dct l):=by
 have k:.ng ρ (.pU<|.dK b):=by
  have d:=zAT hp;refine .aeb
  ·rw[.VE d];exact e
  ·rw[.VF d];exact e
  ·rw[.VC d];exact e
 refine .aih
 rw[.aV n m]
 ·subst e
  rw[X0 f]at q1;cases q1;rw[hp]at q2;cases q2;rw[.al b aR h1 (g.mono k)]
 ·rw[zBO e]at q1
  have ne:a≠p:=λz=>by
   subst z;exact .ZA q2
  exact .Xv m (aK ne)
theorem Hc(k:Int):.Vm<|.yP a.map->
  (Av l k=none/\.GX qH=none)\/∃d v,Av l k=.a7/\.GX qH=.aM/\.cU
 |[],[],_,_=>.G .Bv
 |[],_::_,h,_=>.ei
 |_::_,[],h,_=>.ei
 |(j,d)::l,(o,v)::a,h1,b=>by
  rw[.MY xI];dsimp[xI,RDs]at b;obtain⟨q,n,e,q1,q2⟩:=b;cases e;obtain⟨c,i⟩:=h1;subst c
  rw[.aV j k]
  ·subst e
   rw[.P ⟨d,v,.k Av,.k qH,q1⟩]
  ·have g:=Hc k i q2
   have m:Av ((j,d)::l) k=Av l k:=.bJ Av e
   have f:qH ((.gc j,v)::a) (.gc k)=.GX qH:=ve .al1;rw[m,f];exact g
theorem He(k:Int):.Vm<|(a.any λb=>.D<|b.1=.qH k)=l.any λp=>.nn p
 |[],[],_=>rfl
 |[],_::_,h=>.ei
 |_::_,[],h=>.ei
 |(j,d)::l,(f,v)::a,h1=>by
  rw[.MY xI];obtain⟨c,e⟩:=h1;subst c;simp[He k e]
theorem Hf(k:Int){f:D}{c:V}(m:.bT RD f c):.Vm<|.yP a.map->
  .u2 .ag1=.WF (l.map<|.Uw f)/\.fs (.i6<|l.map<|.Uw f) (.i6 .ag1)
 |[],[],_,_=>(.co RDs.nil)
 |[],_::_,h,_=>.ei
 |_::_,[],h,_=>.ei
 |(j,d)::l,(t,v)::a,h1,i=>by
  rw[.MY xI];dsimp[xI,RDs]at i;obtain⟨u,s,e,q1,q2⟩:=i;cases e;obtain⟨o,r⟩:=h1;subst o;obtain⟨n,g⟩:=Hf k m r q2
  rw[.aV j k]
  ·subst e
   dsimp[xI,zYh];exact⟨.bA n,.lb m g⟩
  ·have q:¬.qH j=.gc k:=.al1
   dsimp[xI,yM e,yM q];exact⟨.bA n,.lb q1 g⟩
def Rm(k:Int)(d:.bT RD c b){l:.ll}{a:.ed Key V}(h1:.Je a.map)(e:.yP a.map):
  .u2 (.GX ud b)=.WF (Ke l k c)/\.fs (.i6<|Ke l k c) ((.GX ud b).map (·.2)):=by
 unfold ud Ke;rw[He k h1];split
 ·exact Hf k d h1 e
 ·rw[.fQ (.k h1)]
  rw[zBQ,zBQ];exact .po e (.rL d)
end
section
variable{X:Cx}{pos p:Pos}
def VB:.aL (.Dict [] [] pos) Ha:=by
 refine .U Rl λσ H Q h=>?_;obtain⟨ρ,σd,i,a,g⟩:=h;refine λq b=>?_;have d:=cj (o:=HO.dK []) b;have e:=a.hp.free b;have f:=(a.hp.same d).allocD (l:=[]) (.mh [] aR RDs.nil) e;have c:.gq (ρ++[q]) (.dP q<|.dK []):=Ext.alloc b;refine bZ.at g c (a.ext c f) ?_;dsimp[rD,RD];refine .gi q rfl;rw[<-a.hp.len];simp
/---/def abL(K:zCM):R2:=.dJ<|∃a o,y=.z/\Ri H a x o/\.jF o.isSome
def Zb(d:.qY 1):.gs .In (abL X.K):=by
 intro pins s σ H x y v u Q I c e h;obtain⟨a,o,rfl,g,q⟩:=h;obtain rfl:.d8 a:=e;exact adg d I g c λf b=>.ch (.bl o.isSome) H b q
def Zc{K:zCM}:Og K Kf (abL K):=by
 intro ρ H σd r σ d k v w Q j o f b;cases d<;>try rw[.u]
 cases k<;>try rw[.u]
 rename_i i n
 dsimp[Kf]at b;dsimp[RD]at o f;subst o;obtain⟨a,q,rfl⟩:=f;cases c:r[n]? with
 |none=>rw[.bR c]
 |some cell =>
  rw[.hQ];cases cell with
  |lst l=>rw[.u]
  |dcT _=>rw[.u]
  |ob _=>rw[.u]
  |dct l =>
   simp only at b;obtain⟨g,q1,q2,q3⟩:=.lV j.hp.cel q;refine .bh a (qH g<|.gc i) (Ri.k (k:=.gc i) q1) ?_;have e:.k5 (qH g<|.gc i)=.k5 (Av l i):=by
    rcases Hc i q2 q3 with ⟨h,m⟩|⟨d,v,h,m,_⟩<;>rw[h,m]<;>rfl
   rw[e];exact b.here j .eJ
/---/def abM:.UZ:=λo i v H Q=>∃a H',o=.z/\Rj H a i v H'/\Q H'
def Rn(d:.qY 1):Yx X abM:=by
 intro pins s σ H o i v ov l u Q I e j f h;obtain⟨a,b,rfl,g,q⟩:=h;obtain rfl:ov=.ee a:=e;exact OD d I g j f λk c=>⟨b,c,q⟩
def MK{L J K:EF}(hu:.qY 1)(he:.kp K)(O:.jG L)(hi:.aL i J)(Z:autoParam (.Jr .rw) Q3Q._auto_1)(N:autoParam (.Jt .rw) Q3Q._auto_1)
  (h1:autoParam (.aiA) Q3Q._auto_1) (w:autoParam (∀v,.ri .rw v=(do
   let ov <-.Yg
   let C <-.WN
   .AO f
   .nj [v,ov,C] (.Pq C v)
   .XX C)) Q2Q._auto_1):.akr (vd L J K):=by
 rw[.I (.Wm<|JL he (QE O hi (Rn hu) w) Z N h1) .hV];obtain⟨ρ,σd,hd,T,p⟩:=h;rw[.eu (g ?_) hd T (.EH λv H1 h=>?_) .hV];obtain⟨z,d,y,e1,u,U,W⟩:=h;rw[.eR (g ?_) (.bv z y u (.NX W λvo H2 h=>?_)) .hV];obtain⟨D,dO,B,P,r,V,f⟩:=h;rw[.eR (g ?_) (.bv D B r (.NX f λvi E h=>?_)) .hV];obtain⟨q,Y,s,I,m,F,b⟩:=h;refine g ?_;have A:=.of U.mono (u.hp.kp P)<|r.hp.kp I;have t:=V.mono<|r.hp.kp I;cases dO with
 |ref n =>
  cases Y with
  |int j =>
   simp only at b;cases c:s[n]? with
   |none=>rw[.bR c]
   |some cell =>
    rw[.hQ];cases cell with
    |lst l=>rw[.u]
    |dcT _=>rw[.u]
    |ob _=>rw[.u]
    |dct l =>
     rw[.lD]
     ·rename_i R
      dsimp[RD]at t F;subst F;rw[.iA];obtain⟨a,w,rfl⟩:=t;obtain⟨x,q1,q2,q3⟩:=.lV m.hp.cel w;refine g ?_;have hl:.jn x.length:=by rw[.rE (.uk q2)]
      refine .bh a _ (Rj.k (k:=.gc j) q1 (by rw[hl];exact YP R .sj)) ?_;have S:.nw n:=.aw c;obtain⟨Q,M⟩:=Rm j A q2 q3;have rh:=m.hp.writeD w S Q M;have G:Ext q E q (.fE E<|.dK<|ud x (.gc j) v):=.tX w;exact b σ _ q G (m.ext G rh)
     ·rw[.u]
  |_=>rw[.u]
 |_=>rw[.u]
end
section
variable{X:Cx}{pos p:Pos}
def OE(hok:.fq h)(A:∀b o xs,H b=.A7->.fv b->.wv b):∀{vs:.R} {rs:.dl} {c:.H},.Gm->bS vs c->.Wj rs.all->
  ∃f,KatTups h' c f/\f.length=c.length/\∀v∈f,∃i t,v=.zp i t:=by
 intro vs rs c R V d
 induction R generalizing c with
 |nil=>cases V;rw[.ml [] .nil λv e=>.Av]
 |@cons a r vs rs g t y =>
  cases V with|cons F G =>
  dsimp[zXn,UE,zUn]at d;rw[.j .PF];obtain⟨f,l,C,E⟩:=y G d.2;obtain⟨z,j,m,o,s,D,n,I⟩:=hok a _ g;refine q ?_;cases r with
  |nil=>simp at d
  |cons i r =>
   cases m with
   |cons B J =>
    rename_i u K
    obtain⟨k,rfl⟩:=Mz B;cases F;refine⟨.aG k::f,KatTups.cons (A a o _ g s) D I .f l,.k C,λv e=>?_⟩;rcases .bj e with rfl|e
    ·rw[.oe i k]
    ·exact E v e
def Zd{σ:L2.St}(I:.n)(G:H B=.x vs)(c0:vs.length<64)(rv:.Gm)(nd:rs.Nodup)(b6:.Wj rs.all)
  (q:∀d s',.YJ->.aP .Ml s'->Q .none s'):.yM (.NM "list.sort" [.d B]):=by
 rw[.qs];obtain⟨hz,a,n0,S,ho⟩:=.iD B G;have W:a.length=vs.length:=S.length.symm;obtain⟨m,hm,_⟩:=.Hg;refine K ?_;have nL:.Ey (.mF b):=λb u e z=>.Fo I.free
 have BL:=nL B _ G;have a8:∀d,d=vs->.Ml=H:=λd e=>by
  subst e;funext b
  rw[.dI b B]
  ·subst z;rw[aR,G]
  ·rw[aK z]
 have after:∀(M:Heap) (f:.H) (d:.R) (c t':Nat),.YJ->bS d f->.S d.length->.afg->(.W1<|.iq M.get?)->.Zt M.Ns->.aP .Ml { s with heap:=M,toks:=t' }:=λM f d c t' a3 P a4 b0 l a0=>by
  have I2:.rU .Ml { s with heap:=M,gens:=s.gens,drawn:=s.drawn,toks:=t' }:=by
   refine I.step (ch:=[]) (λ_ z=>nomatch z) (λb o D _ _ e n=>l b o D .Ru e) (λb o D _ _ e n=>.rK<|l b o D .Ru e) (λb o _ e n=>.ff (aK .Ru) n) (λb o _ e=>?_)
    (λb ys e=>.yc<|.S6 G) (λb o u e=>.yc<|.S6 G) (λb ps e=>⟨#[],by rw[.uG (by subst z;rw[.bd G]),e];simp⟩) (λm' b7=>by rw[Y4 b7 hm];exact a0) .wF I.bare
   ·by_cases D:b=X.env.locals
    ·rw[.qs];obtain⟨o',_,_,a1,_⟩:=a0;refine K ?_
     rw[D];rw[.o o' a1]
    ·by_cases F:b=B
     ·subst F;exact .cn b0
     ·rw[.o o (l b o D F e)]
   ·by_cases D:b=B
    ·subst D
     rw[.bd aR];exact⟨a4,f,c,P,b0⟩
    ·rw[aK D]at e
     refine .xz e (λc v hc z=>?_) (λc z=>.aiv) λc ys z=>.aiv
     rcases hc with w|w
     ·subst w;exact l c v (nL c _ e) D z
     ·exact l c v (nL c _ w) (λy=>by subst y;rw[G]at w;cases w) z
  exact I2
 by_cases M:a.length<2
 ·have hs:gf rs=rs:=by
   have:rs.length<2:=by rw[<-rv.length];lia
   match rs,this with
   |[],_=>rfl
   |[_],_=>rfl
  have ha:.eH B:=zAR ho;have a1:.iQ B=.a (.CM a.toArray n0):=ho;refine zYu slot_list_sort (.dk ho) entry_list_sort (Kd a1 M (.dz ?_))<|args_list_sort _;obtain⟨e1,b8⟩:∃e1,.eY (.IT B) B=.N3 e1:=.ajs a1;have b5:.eY ((.kH (.IT B)<|seqObj "tuple" a.toArray 0).push<|.CM #[] 0) B=.N3 e1:=by
   rw[.Sb ha,.Tw ha];exact b8
  have Y:.cJ (b≠B->.gw b->.sn .an9):=λb o D e=>by
   have a9:.eH b:=zAR e;unfold sortedHeap;rw[.cd zVx D,.Sb a9,.Tw a9,.cd zVx D];exact e
  have a0:(.an9).Ns X.env.locals m:=by
   rw[.qs];obtain⟨o',es,ep,h1,r⟩:=hm;rw[.cX K ⟨o',es,ep,Y _ _ (zZs BL) h1,r⟩]
  refine q vs _ (.p hs rv) (after _ a vs _ s.toks (.p hs rv) S hz (get?_update_seq b5 _) (λb o _ D e=>Y b o D e) a0)
 ·have N0:News (.dx Att.noObjs) X.env.locals s.heap ((B,PySem.W.listOf a.toArray n0)::.Tr):=λ⟨b,o⟩ D=>by
   rcases .bj D with e|D
   ·cases e
    rw[.C ho BL .anK]
   ·obtain⟨n1,n2,e⟩:=Att.mem_ledger.mp D
    rw[.C e n1 .anK]
  have a6:∀q∈.Tr,q.1≠B:=λ⟨b,o⟩ hq=>(Att.mem_ledger.mp hq).2.1;refine kat_lsort (vs:=a) (Att.fr_all hm) N0 (UpdF.head a6) .f .b .b λe1 h' F' N'=>?_;have a5:.W1 ((b,o)∈.Tr):=λb o D F e=>Att.mem_ledger.mpr ⟨D,F,e⟩;have Z:.My (b≠B->.yh):=.agw N';obtain⟨fs,t1,t2,t3⟩:=.ey OE (λb o xs D e=>Z b o (nL b _ D) (λz=>by subst z;rw[G]at D;cases D) e) rv S b6;refine kat_kind (T:=.bQ "int") t1 .b (λv hv=>?_) rfl ?_
  ·obtain⟨i,t,rfl⟩:=t3 v hv
   exact Looks.of_pure rfl
  ·have hT:.av (.ls "int" != .ls "tuple"):=.c
   rw[hT];have c1:.wg rs.length:=by rw[<-rv.length,W]
   have b9:∀i j,.wb i->.wb j->i≠j->.mP i≠.mP j:=λi j L hj N z=>by
    have e1:.mP i=rs[i]' .b:=.jZ<|show i<rs.length by lia
    have e2:.mP j=rs[j]' .b:=.jZ<|show j<rs.length by lia
    rw[e1,e2]at z;exact N<|(.Yr nd).mp z
   have O:Ord (λi j=>Fm.lexLt (.mP i)<|.mP j) a.length:=⟨λi j _ _ h=>yt h,λi j k _ _ _ h h'=>nN h h',λi j L hj N h=>wQ (b9 i j L hj N) h⟩;refine G9 O (λi j L hj C hC=>?_) .b λJ g b3=>?_
   ·unfold kas_ask
    have a7:∀i,.wb i->∃b,.He Value.none=.hL/\∃(o:Obj) (zs:.H) (n:Nat),.wv b/\o.data=.fL zs.toArray n/\.pb zs (.mP i):=λi L=>by
     have hv:vs[i]?=.a (vs[i]' .b):=.k<|show .rN by lia
     rw[.qs];obtain⟨b,e1,e2⟩:=rv.get hv;obtain⟨u,hu,ru⟩:=S.get hv;refine K ?_;rw[e1]at ru;cases (show .d8 b from ru);rw[.qs];obtain⟨z,zs,r0,o,ho,hc,n,hd⟩:=.iD b e2;rw[.cX K ⟨b,.jZ hu,o,zs,n,Z b o (nL b _ e2) (λz=>by subst z;rw[G]at e2;cases e2) ho,hd,tW r0⟩]
    rw[.qs];obtain⟨b1,x1,o1,z1,n1,y1,d1,i1⟩:=a7 i L;obtain⟨b2,x2,o2,z2,n2,y2,d2,i2⟩:=a7 j hj;refine K ?_;rw[x1,x2];refine kat_lt (s:={ s with heap:=h' }) y1 d1 y2 d2 ?_;rw[.rE (.UE Y3 (A:=A.in1) (s:={ s with heap:=h' }) (Q:=C) (.mP i) (.mP j) 0 i1 i2 hC)]
   ·have a2:J.toList.Perm (.fS a.length):=.h1<|zVl.mp g.pm
    have inR:∀i∈J.toList,.rN:=λi L=>by
     have:=a2.mem_iff.mp L;rw[<-W];simpa using this
    rw[.qs];obtain⟨d,U⟩:=qq<|J.toList.map λi=>.Ng;obtain⟨f,R⟩:=qq<|J.toList.map λi=>.He Value.none;refine K ?_;have a3:.YJ:=by
     have e:(J.toList.map .O6)=gf rs:=by
      refine OC (?_:List.Perm _ _) ?_<|qS nd
      ·refine(.il<|a2.map .O6).trans (oq rs).symm
       have:(.cY a.length .O6)=rs:=by
        apply zXr;intro i
        by_cases L:i<rs.length
        ·have:.wb i:=.b
         simp[List.getD,L,this]
        ·have:¬.wb i:=.b
         simp[L,this]
       rw[.a9]
      ·rw[zYs]
       rw[zVv];intro i j L hj N;have s1:=b3 i j N (by rw[<-g.sz];simpa using hj);have g1:J.getD i 0=J.toList[i]:=.EJ<|show i<J.size by simpa using L
       have g2:J.getD j 0=J.toList[j]:=.EJ<|show j<J.size by simpa using hj
       rw[g1,g2]at s1;exact s1
     have:=rv.pick J.toList inR;rw[e,<-U]at this;rw[.iz]
    have P:bS d f:=by rw[U,R];exact bS.pick S J.toList inR
    have a4:.S d.length:=by
     have l1:.wg d.length:=by rw[U,zST,a2.length_eq,zBN]
     rw[l1,W];exact hz
    rw[<-R];refine KasFin.intro F' N' (UpdF.head a6) λM c F2 N2=>?_;have b4:.afg:=(N2 (B,_)<|zCK ..).1;have l:.W1 (.iq M.get?):=.agw N2;exact q d _ a3 (after M f d c s.toks a3 P a4 b4 l F2.ns)
end
section
variable{X:Cx}{pos p:Pos}
/---/def EW(p d:Addr):.Ha:=λh=>.dQ p=.a (.BX "dict_items" #[.d d])
/---/def Ze(td:TE):TE:=.fb<|.aU td λx H1=>∃a kvs,x=.z/\H1 a=.a .OU/\.ao1 (.ext<|EW p a)
def Ro{apos cpos:Pos}(t:.af o td)(d:autoParam (.mW "items") Q3Q._auto_1)(c:autoParam (.kd) Q3Q._auto_1):
  .af .S5 (Ze td):=by
 rw[.uA (.ajZ (.dw t λv m u=>?_)) .i2];obtain⟨x,C,g,w,a,j,r,e,q1⟩:=u;refine i ?_;subst r;obtain rfl:v=.ee a:=w;rw[.j .i2];obtain⟨l,n,F⟩:=Za g<|.w0 j<|.G e;obtain⟨_,A,y,_,z⟩:=Rg g.hok e;rw[.dq i ⟨"dict","dict.items",PySem.F.plainAttrs_dict,PySem.F.slot_dict_items,PySem.F.type_dict_items,l,n,.aem ?_⟩];refine call_meetsIn PySem.F.slot_dict_items l PySem.F.entry_dict_items (PySem.F.args_dict_items_1 _) (meets_dict_items (.ha gG) a A)<|.c4 ⟨y,z⟩;refine⟨.d m.heap.objs.size,_,g.laid (o:=.ext<|EW m.heap.objs.size a) (λb D q=>.qw) (zBK _) ⟨.ds,.cn .ds,λB E f k=>k _ f⟩,rfl,q1 _<|.hc g.hok.fresh⟩
def Rp{σ:L2.St}{H d:Hp}{s:R1}{h':Heap}{t':Nat}(I:.n)(keep:.cJ .yh)(f:lS H d)(a:∀b,.eH b->d b=H b)(new:∀b u,.Ed b->d b=.bL->.ha gC d h' b u/\∀c,u ≠ .own c):.oR d:=by
 have t:.rU d { s with heap:=h',gens:=s.gens,drawn:=s.drawn,toks:=t' }:=by
  refine I.step (ch:=[]) (λ_ z=>nomatch z) (λb o _ _ _ e _=>.bs keep) (λb o _ _ _ e _=>.rK<|.bs keep) (λb o _ e n=>.ff (a b<|zAR e) n) (λb o _ e=>.fz<|.bs keep)
   (λb l e=>f _ _ e) (λb o u e=>f _ _ e) (λb x e=>.NQ<|f _ _ e) (λm q=>?_) .wF I.bare
  ·obtain⟨k,i,j,h,r⟩:=q
   exact⟨k,i,j,.kP keep,r⟩
  ·by_cases g:.eH b
   ·rw[a b g]at e
    refine .xz e (λc v w z=>keep c v z) (λc z=>f _ _ z) λc l z=>f _ _ z
   ·exact(new b u (zVs g) e).1
 exact t
noncomputable def ov:.am->.dl->Hp->Hp
 |a::as,r::rs,H=>.fE (ov as rs H)<|.E<|r.map V.int
 |_,_,H=>H
theorem ML:∀{as:.am} {rs:.dl},b∉as->ov as rs H b=H b
 |[],_,_=>rfl
 |a::as,[],_=>rfl
 |a::as,r::rs,h=>by
  have h1:b≠a:=.Fq h;have c:b∉as:=.Fq h;show .aC upd b=_;rw[aK h1,ML c]
theorem Rq:∀{as:.am} {rs:.dl} {j:Nat} {a:Addr} {r:.l},as.Nodup->.aeZ (ov as rs H a)
 |[],_,_,_,_,_,e,_=>.u1
 |a::as,[],_,_,_,_,_,e=>.u1
 |a::as,r::rs,0,_,_,_,e,c=>by simp at e c;subst e c;exact aR
 |a::as,r::rs,j+1,b,q,nd,e,c=>by
  obtain⟨n1,d⟩:=.rT;have e:as[j]?=.cu:=.eF
  have f:b≠a:=λz=>n1<|.ay z<|zAT e;show .aC upd b=_;rw[aK f];exact Rq d e .tO
def ia.mono(k:∀a xs,H a=.A7->b a=.A7):.Tg (ia b vs rs):=by
 intro vs rs R
 induction R with
 |nil=>exact .nil
 |cons h t c=>exact .bn (.kP k) c
theorem MM:∀{as:.am} {rs:.dl},as.length=rs.length->(∀(j:Nat) a r,.aeZ<|c a)->ia c (as.map V.ref) rs
 |[],[],_,_=>.nil
 |[],_::_,h,_=>.ei
 |_::_,[],h,_=>.ei
 |a::as,r::rs,h,f=>.bn (f 0 a r rfl rfl)<|MM .tT λj b q e d=>f (j+1) b q .eF .qW
/---/def Zf:.oU:=.kq<|∃(p a:Addr) (ps:.ed Int Int),.MI/\H p=.a (.ext<|EW p a)/\.v0 (ps.map λq=>((.gc (q.1):Key),V.int q.2))/\ps.length<64/\(.VG).Nodup/\
 ∀H' q vs',.Bq->.b9 q->H' q=.x vs'->ia H' vs' (gf .VG)->.iU q H'
def abN{vs:.n5 R0}(r:KV a vs):∀{j:Nat} {k:κ} {x:R0} {b:κ} {v:V},vs[j]?=.a (k,x)->a[j]?=.a (b,v)->b=k/\cS v x:=by
 induction r with
 |nil=>intro j k x b v e;simp at e
 |cons h t d =>
  intro j k x b v e c;cases j with
  |zero=>simp at e c;subst e c;exact h
  |succ j=>exact d .eF .tO
def Kh(hc:.bB):.ln "sorted" Zf:=by
 intro pins s σ H xs us Q I r h;rw[.te];obtain⟨p,a,B,rfl,hp,ha,N,nd,q⟩:=h;obtain⟨u,rfl,ru⟩:=bS.one r;refine y ?_;cases (show .d8 p from ru);rw[.te];obtain⟨f,l⟩:=qq<|B.map λq=>[q.1,q.2];rw[<-l]at nd q;have D:EW p a s.heap:=(.iD p hp).1;obtain⟨hz,_,vs,G,dd⟩:=.ey Rg ha;refine y ?_;have C:vs.length=B.length:=.iW G.length
 rw[.te];obtain⟨o,es,ep,d1,d2⟩:=id dd;refine y ?_;have S:s.heap.DictAt (.ha gG) a vs ep:=⟨o,es,d1,d2⟩;refine Calls.call_function_entry kind_sorted plain_sorted entry_sorted (args_sorted1 _) ?_;unfold Builtin.«sorted»;rw[.cN .wJ (zF (kdx_collect (.ip hc) (.rb D) S (by rw[C,zZt];lia) λg tk d hk F K=>?_))];have v:d.Nodup:=K.rise.imp λh=>zBM h;have lr:d.length=f.length:=by rw[F,C,l];simp
 have i:∀b∈d,.Ed b:=λb n=>zZj<|K.above b n;have J:lS H .zW:=.uI (by
  rw[ML]
  ·exact e
  ·intro z
   exact .B (I.hok.lt e) (.sP<|i b z))
 have P:.aP .zW { s with heap:=g,toks:=tk }:=by
  refine Rp I hk J (λb n=>ML λz=>.B n<|.sP<|i b z) λb u n e=>?_
  by_cases hm:b∈d
  ·rw[.te];obtain⟨j,R⟩:=.WH hm
   have a0:j<d.length:=.aw R;obtain⟨Y,k,x,e1,e2,e3⟩:=K.pairs j b R;obtain⟨m,E⟩:∃m,B[j]?=.a m:=⟨B[j]' .b,.k<|show j<B.length by lia⟩;refine y ?_;have hr:f[j]?=.a [m.1,m.2]:=by rw[l,zBP,E];rfl
   rw[.bd (Rq v R hr)];rw[.bN ?_ λc z=>by cases z];obtain⟨T,rx⟩:=abN G e1 (show (B.map .akc)[j]?=.a (.gc<|m.1,V.int m.2) by rw[zBP,E];rfl);obtain⟨t,rfl⟩:=Mz rx;subst T;have:∃W,Y=.zp (m.1) W:=Value.isInt_shape e2;obtain⟨W,rfl⟩:=this;exact⟨.k zZt,[_,_],.bn (.g5 W)<|.jo .pN,_,e3,rfl,_,rfl⟩
  ·rw[ML hm]at e
   exact .B (I.hok.lt e) (.sP n)
 refine zF (wpAny_newList ?_ .amK);have M:bS .ZV (d.map Value.ref):=by
  clear F K v lr i J P q
  induction d with
  |nil=>exact .nil
  |cons a d ih=>exact .bn rfl ih
 have I2:.aP .IE (.aaa<|g.push<|.Cp<|.fL<|.eZ<|d.map Value.ref):=P.lnew M .amK;have fr:.zW g.objs.size=none:=.hc P.hok.fresh;have L:lS .zW .IE:=cj fr;have A:ia .IE .ZV f:=MM lr λj b r e e'=>L _ _<|Rq v e e';have O:.Wj f.all:=by rw[l,List.all_map,zYn];intro q _;rfl
 refine .BN (Zd I2 aR (by rw[zST,F,C];exact N) A nd O λw s' U Z=>xU (.dz ?_));have uu:.YZ .IE (.q w)=.YZ .zW (.q w):=by
  funext b
  rw[.dI b g.objs.size]
  ·subst z;rw[aR,aR]
  ·rw[aK z,aK z,aK z]
 rw[uu]at Z;refine .ch (.d g.objs.size) _ Z (q _ _ w (.uI<|cj fr _ _<|J _ _ e) ?_ aR ?_)
 ·cases e:H g.objs.size with
  |none=>rfl
  |some u=>rw[J _ _ e]at fr;cases fr
 ·refine U.mono λb ys e=>?_
  have n:b≠g.objs.size:=.S6 aR
  rw[aK n]at e⊢;exact e
theorem yv:∀{l:.ll} {r:.dl},jS l=.a r->∃ps:.ed Int Int,l=ps.map .Va/\r=.VG
 |[],r,e=>by rw[.na jS];rw[.oe [] rfl]
 |(k,d)::l,r,e=>by
  cases d<;>dsimp[jS]at e<;>try (rw[.eX])
  rename_i v
  cases c:jS l with
  |none=>rw[.bO]
  |some a =>
   rw[.bO];obtain⟨ps,rfl,rfl⟩:=yv c;rw[.oe ((k,v)::ps) rfl]
theorem Rr{K:zCM}{ρ:.am}{H:Hp}:∀{ps:.ed Int Int} {a:.ed Key V},a.map (·.1)=.WF (ps.map .Va)->.fs (.i6<|ps.map .Va) (a.map (·.2))->a=ps.map .akc
 |[],[],_,_=>rfl
 |[],_::_,h,_=>.ei
 |_::_,[],h,_=>.ei
 |(j,d)::ps,(i,v)::a,h1,b=>by
  rw[.MY xI];dsimp[xI,RDs]at b;obtain⟨k,g,e,q1,q2⟩:=b;cases e;obtain⟨c,f⟩:=h1;subst c;dsimp[RD]at q1;subst q1;rw[Rr f q2];rfl
def Rs(R:.bB)(hg:.b3 "sorted")(Z:.bX "sorted")(N:.jG B)
  (T:autoParam (.bS [.S5]=.yK (.ND "items")) Q3Q._auto_1)
  (j:autoParam (.mW "items") Q3Q._auto_1) (i:autoParam (.kd) Q3Q._auto_1) :
  MF X (.q5 "sorted" [.S5] [] pos) (uc B):=by
 rw[.I (.U (oP (Kh R) hg Z .ac<|.d9 (Ro N j i) T) λσ H Q O=>?_) .CI];obtain⟨ρ,σd,L,S,f⟩:=O;rw[.eW y L S];unfold uc at f;cases e:B σd L with
 |exc x h'=>rw[.n7 e f]
 |bad=>rw[.n7 e f]
 |ok d s =>
  rw[e]at f;dsimp[aE]at f;intro v P w G h I;cases d<;>try rw[.eS]
  rename_i n
  simp only at f;dsimp[rD,RD]at I;obtain⟨a,Y,rfl⟩:=I;cases c:s[n]? with
  |none=>rw[.ji c]
  |some cell =>
   rw[c]at f;cases cell with
   |lst l=>rw[.eS]
   |dcT _=>rw[.eS]
   |ob _=>rw[.eS]
   |dct l =>
    simp only at f;cases C:jS l with
    |none=>rw[.ji C]
    |some r =>
     rw[C]at f;simp only at f;split at f
     ·rename_i E
      rw[.te];obtain⟨ps,rfl,rfl⟩:=yv C;obtain⟨a0,q1,q2,q3⟩:=.tU Y;refine y ?_;have W:=Rr q2 q3;subst W;refine .bh a _ q1 λq J=>⟨q,a,ps,rfl,aR,by rw[aK<|cM q1 J];exact q1,.h1<|E.1,E.2,λD K t M g m A=>?_⟩;have k:lS P D:=λb u U=>M _ _<|cj J _ _ U;have V:K≠q:=λz=>by subst z;rw[.pM aR]
      rw[aK V]at g;have F:=h.hp.free g;exact f K t D w (G.trans<|.f8 k) (h.same k) (G.fresh g F) m F A.rds
     ·rw[.eS]
end
end Fm
namespace Fm
@[simp] noncomputable def Ax(la:LF)(b:EF):LF:=.ax<|.cz la λl h=>.cz b λy h=>match y with
 |.int n=>.cZ .amU (.ok (.jj .MN) h)
 |_=>.bad
@[simp] noncomputable def adh(x i e:EF):EF:=.yJ<|match p with
 |.ref n=>match h[n]? with
  |some (.lst _)=>.cz i λj h=>.cz e λd h=>match j with
   |.int k=>match h[n]? with
    |some (.lst l)=>.cZ (0<=k/\.h5 k/\.Fz) (.MO<|.gP k.toNat++[d]++.hC k.toNat)
    |_=>.bad
   |_=>.bad
  |_=>.bad
 |_=>.bad
@[simp] noncomputable def EX(a b:EF):EF:=.HO<|match x,y with
 |.int i,.int j=>.ao .VR
 |_,_=>.bad
@[simp] noncomputable def ja(a b:EF):LF:=.HO<|match x,y with
 |.ref n,.ref m=>match h[n]?,h[m]? with
  |some (.lst l),some (.lst k)=>.gI .Oe (l++k)
  |_,_=>.bad
 |_,_=>.bad
@[simp] noncomputable def yw:O2:=.dZ<|match x,y with
 |.tup xs,.tup ys=>.gI (.Vf<=SZ) (.tup<|xs++ys)
 |_,_=>.bad
end Fm
namespace Fm
open PySem PySem.Spec L2 PySem.W PyProof.Rows
section
variable{X:Cx}{pos p:Pos}
theorem Dw{K:zCM}{ρ:.am}{H:Hp}:∀{l:.m} {vs:.R} {bs:.Hb},.dp->qo l=.a bs->vs=.G7
 |[],_,is,r,e=>.Q7 qo
 |d::l,_,is,r,e=>by
  rw[.VW RDs];cases d<;>dsimp[qo]at e<;>try (rw[.eX])
  rename_i i
  cases c:qo l with
  |none=>rw[.bO]
  |some b =>
   rw[.bO];rw[.Ig];rw[h1,Dw a c];rfl
def Rt{bs:.Hb}(r:bS .G7 a):∀(i:Nat) (v:R0),.Y9->v=.g0 (bs.getD i false):=by
 intro i v e;have b:.mR a:=.eF
 have c:i<bs.length:=by
  have:=.aw b;have:=r.length;simp at this
  lia
 obtain⟨u,d,f⟩:=.jE r.get (x:=V.bl bs[i])<|.k c;rw[d]at b;cases b;rw[show v=.HT (bs[i]) from f];simp[List.getD,c]
def Ru(bs:.Hb):(.fS bs.length).all .CG=.Ok:=by
 have:bs=.cY bs.length .CG:=by
  apply zXr;intro i
  by_cases a:i<bs.length<;>simp[List.getD,a]
 conv=>rhs;rw[this]
 rw[List.all_map];rfl
def OG(D:.bB):.ln "all" (.kq<|∃(p:Addr) (bs:.Hb),.MI/\(.lX H p .G7\/.pE p .G7)/\.jF (bs.all id)):=by
 intro pins s σ H xs F Q I r q;obtain⟨p,bs,rfl,k,q⟩:=q;obtain⟨u,rfl,C⟩:=bS.one r;cases (show .d8 p from C);have w:.amL:=.ip D;have t:∀(a:.H),bS .G7 a->.ha TruthOf X.A.in1 (λi v=>.Y9) .CG:=λa f i v s Q E y z=>by
  rw[Rt f i v y];exact zXq z
 have fin:∀{x:Obj} {h:Heap} {l:Nat} {n:Nat},n=bs.length->.ag4->.hm (.g0<|(.fS n).all .CG) { s with heap:=h,toks:=l }:=by
  intro x h l n B j;subst B;refine⟨.bl .Ok,H,.ag0,.aE Ru,q⟩
 rcases k with k|k
 ·obtain⟨a,f,m,A⟩:=.e3 k
  have g:.UF p:=m.isList;have d:.eH p:=.ahF
  refine PySem.call_all_walk .ajt;refine .acz PySem.Walks.list
  ·obtain⟨o,c,r⟩:=g;rw[.ci (.gv c) r]
  ·exact .aez
 ·obtain⟨a,f,m,A⟩:=.dm k
  have g:.Yf:=m;have d:.eH p:=.ahF
  refine PySem.call_all_walk .ai6;refine .acz PySem.Walks.tuple
  ·obtain⟨o,c,r⟩:=g;rw[.ci (.gv c) r]
  ·exact .aez
def ue{a:Expr}(i:.bB)(n:.b3 "all")(h:.bX "all")(g:MQ X a d)(f:autoParam (.hk) Q3Q._auto_1):.ke "all" (t5 d):=by
 refine .adi OG;cases c:qo l with
 |none=>rw[.Ah c]
 |some k =>
  dsimp[c]at p;have e:=Dw b c;rw[.qv .ah9]
def Rv(F:MF X a r)(J:.fJ k):MF X (.EN .Mult) (Ax r k):=by
 refine .U (QF YM F J) λσ H Q B=>?_;obtain⟨ρ,σd,z,K,c⟩:=B;refine .eU z K;unfold Ax at c;cases e:.kR z with
 |exc x A=>rw[.gl e]
 |bad=>rw[.gl e]
 |ok l h =>
  rw[.Aj e aE];intro q u O t I i C D G g;refine .bv t h i ?_;cases o:k σd h with
  |exc x A=>rw[.gl o]
  |bad=>rw[.gl o]
  |ok y L =>
   rw[.Aj o aE];intro v E N d m w;cases y<;>try rw[.bK]
   rename_i n
   rw[.aaR]
   ·rename_i P
    dsimp[rD,RD]at w;subst w;have j:E q=.x u:=d.frame q _ D G;have f:=g.mono<|i.hp.kp d;refine⟨q,n,u,rfl,rfl,j,.b,.b,by rw[<-g.length,zZt];lia,λM s=>?_⟩;exact GZ.mk c (I.trans d) m (RDs.rep f n.toNat) M s
   ·rw[.bK]
def Rw(u:.bB)(B:.b3 "max")(t:.bX "max")(s:.bq o)(y:.fJ m)(r:autoParam (.amo) Q3Q._auto_1)(l:autoParam (.jk b=.yK b) Q3Q._auto_1)(hpl:autoParam (.ahZ) Q3Q._auto_1):.aL (.q5 "max" [a,b] [] pos) (EX o m):=by
 refine .U (oP (Ou u) B t .ac (cD s (.d9 y l) r) (he:=r) (hpl:=hpl)) .tS;obtain⟨ρ,σd,E,z,n⟩:=e;refine .eU E z;unfold EX at n;refine .aq n λv G e=>?_;obtain⟨i,d,h,J,j,q,C⟩:=e;refine .bv i h j (.aq C λw I e=>?_);obtain⟨D,k,A,F,f,c,g⟩:=e;cases d<;>try rw[.gJ]
 cases k<;>try rw[.gJ]
 dsimp[rD,RD]at q c;subst q c;rw[.ml _ _ .ZH]
def ji(U:.bq C)(W:.fJ y):MF X (.EN .Add) (ja C y):=by
 refine .U (QF YL U W) λσ H Q S=>?_;obtain⟨ρ,σd,O,Y,c⟩:=S;refine .eU O Y;unfold ja at c;cases e:C σd O with
 |exc x P=>rw[.gl e]
 |bad=>rw[.gl e]
 |ok d o =>
  rw[.Aj e aE];intro v H1 I V J M;refine .bv I o J ?_;cases A:y σd o with
  |exc x P=>rw[.gl A]
  |bad=>rw[.gl A]
  |ok k q =>
   rw[.Aj A aE];intro w H2 a0 j h i;cases d with
   |ref n =>
    cases k with
    |ref m =>
     simp only at c;dsimp[rD,RD]at M i;obtain⟨N,s,rfl⟩:=M;obtain⟨L,B,rfl⟩:=i;have z:=j.get s;cases r:q[n]? with
     |none=>rw[r]at c;rw[.bK]
     |some K =>
      cases G:q[m]? with
      |none=>rw[r,G]at c;cases K<;>exact c.elim
      |some R =>
       rw[r,G]at c;cases K with
       |dct _=>rw[.bK]
       |dcT _=>rw[.bK]
       |ob _=>rw[.bK]
       |lst l =>
        cases R with
        |dct _=>rw[.bK]
        |dcT _=>rw[.bK]
        |ob _=>rw[.bK]
        |lst k =>
         rw[.aaR]
         ·rename_i T
          obtain⟨t,D,f⟩:=h.hp.cel n _ N r z;obtain⟨F,u,g⟩:=h.hp.cel m _ L G B;refine⟨N,L,t,F,rfl,rfl,D,u,by rw[.jJ f.length g.length (pK T)],λZ E=>?_⟩;exact GZ.mk c (V.trans j) h (.po f g) Z E
         ·rw[.bK]
    |_=>rw[.bK]
   |_=>rw[.bK]
def Hg(l b:Addr)(a c:.i1)(n j:Nat)(dd f:.cx)(k e:.jb)(m:.av a.isEmpty):
  Meets (Builtin.«tuple.__add__»<|.dh [.hK,.hL]) (λ_ R s=>.H2 { cls:=.lh,dict:=dd,data:=.fL a n,slots:=k }/\.td=.a { cls:=.lh,dict:=f,data:=.fL c j,slots:=e }/\.rd (.ee b) s) :=
 .Mw (by obtain⟨u,g,d,v,r⟩:=s;obtain⟨i,o,h⟩:=h;have q:=PySem.AutoSeq1.idx_int;have t:=PySem.AutoSeq1.sub_tuple_tuple;wp_walk using zYm i,zYm o;exact .dz h)
/---/def Rx(K:zCM):R2:=.dJ<|∃a b ys,x=.z/\y=.hL/\.BA a []/\.BA b ys/\.bi Q b H
def VC:.vT (Rx X.K):=by
 intro pins s σ H x y v u Q I E A h;rw[.n9];obtain⟨a,b,L,rfl,rfl,D,F,q⟩:=h;refine d ?_;cases E;cases A;rw[.n9];obtain⟨z,B,J,_⟩:=.dm D;obtain⟨e,K,C,_⟩:=.dm F;refine d ?_;cases B;rw[.n9];obtain⟨⟨cls,G,data,w⟩,l,m,n,r⟩:=id J;obtain⟨⟨o,k,j,i⟩,f,c,t,g⟩:=id C;refine d ?_;simp only at m r c g;subst m r c g;exact concat_meets (.dk l) (.dk f) noFill_tuple_add seq_tuple_add PySem.F.slot_tuple_add PySem.F.entry_tuple_add (zUc _ _)
  (Hg a b _ e.toArray n t G k w i rfl) ⟨l,f,.ch .hL H I q⟩
def EY:.vT (.dJ<|Rx X.K x y H Q\/GV X.K x y H Q):=VC.or Mp
def EZ{K:zCM}:Og K yw (.dJ<|Rx K x y H Q\/GV K x y H Q):=by
 intro ρ H σd C σ d k v w Q l s f e;cases d with
 |tup n =>
  cases k with
  |tup B =>
   dsimp[yw]at e;split at e
   ·rename_i A
    dsimp[RD]at s;obtain⟨a,j,rfl,i,c⟩:=s;have rw2:=f;dsimp[RD]at f;obtain⟨b,m,rfl,r,g⟩:=f;cases n with
    |nil =>
     dsimp[RDs]at c;subst c;rw[.O ⟨a,b,m,rfl,rfl,.d7 i,.d7 r,e.here l (by simpa using rw2)⟩]
    |cons x n =>
     refine .F ⟨a,b,j,m,rfl,rfl,.d7 i,.d7 r,?_,?_,.gz,λ_ q u=>?_⟩
     ·intro z;subst z;have:=c.length;simp at this
     ·rw[.jJ c.length g.length (pK A)]
     ·subst z
      have t:B=[]:=.ahP
      subst t;exact e.here l (.nG a j i (by simpa using c))
     ·have h:=.oA (j++m) u
      exact e.at (.f8 h) (l.same h) (.nG q _ aR<|(.po c g).mono<|.lL h)
   ·rw[.ta]
  |_=>rw[.ta]
 |_=>rw[.ta]
end
end Fm
namespace Fm
@[simp] noncomputable def adB(a:EF):EF:=.cF<|.Tt<|.ao i.natAbs
@[simp] noncomputable def VD(a b:EF):EF:=.HO<|match x,y with
 |.int i,.int j=>.ao (.fx j i j i)
 |_,_=>.bad
section
open Classical
noncomputable def qT(G:.nZ)(tg:GF)(b:SF):.m->SF
 |[],σ,h=>.cZ (G h)<|.c6 h
 |x::xs,σ,h=>if G h then match .wj with
   |some σ=>match .jN with
    |.nx σ h=>.EM xs
    |.ct σ h=>.EM xs
    |.bk σ h=>.c6 h
    |r=>r
   |none=>.bad
  else .bad
/---/def nO(l:.m):.m:=.Ti<|.E .Zr
end
end Fm
namespace Fm
open PySem PySem.Spec L2
open PyProof.Rows (Call_)
section
variable{prog:P6}{w:P7}{A:R3}{E:R0->R1->Prop}{s:R1}{z TI TO i1 i2 l1 l2:Addr}{k:Nat}{xs ys:Array R0}{a b:R0}
end
section
variable{prog:P6}{w:P7}{A:R3}{E:R0->R1->Prop}{s:R1}
end
def VE{σ:St}{t':Nat}{ch:.am}(I:.rU H s)(k:.cJ<|b∉ch->.yh)(d:∀b∈ch,.pA H):
  .rU H { s with heap:=h',toks:=t' }:=by
 have f:.Ey (b∉ch):=λb u e z=>.Gx<|(d b z).1
 refine I.step (λb g=>⟨(d b g).2.2.2.1,(d b g).2.1,(.nK<|d b g).1,(.nK<|d b g).2⟩) (.M6<|k b o a e) (.M6<|.rK<|k b o a e) (λ_ _ _ _ n=>n)
  (λb o a e=>.fz<|k b o a e) .zK (λ_ _ _ e=>e) (λb p e=>.NQ e) (λm l=>?_) .wF I.bare
 ·obtain⟨o,h,i,j,r⟩:=l
  exact⟨o,h,i,k _ o (.Xr d) j,r⟩
 ·refine .ajK
  rcases a with z|z
  ·rw[z];exact f b u e
  ·exact f c _ z
section
variable{X:Cx}{pos p tp:Pos}{elts:List Expr}{tk:Nat}
end
end Fm
namespace Fm
open PySem PySem.Spec L2 PySem.W PyProof.Rows
section
variable{X:Cx}{pos p:Pos}
def Zh(y:.bB)(C:.b3 "min")(u:.bX "min")(t:.bq q)(z:.fJ n)(s:autoParam (.amo) Q3Q._auto_1)(m:autoParam (.jk b=.yK b) Q3Q._auto_1)(hpl:autoParam (.ahZ) Q3Q._auto_1):.aL (.q5 "min" [a,b] [] pos) (VD q n):=by
 rw[.I (.U (oP (Ov y) C u .ac (cD t (.d9 z m) s) (he:=s) (hpl:=hpl)) λσ H Q f=>?_) .go];obtain⟨ρ,σd,F,A,o⟩:=f;rw[.eW c F A];unfold VD at o;rw[.c0 (.aq o λv I f=>?_) .go];obtain⟨j,d,i,K,l,r,D⟩:=f;rw[.eR (c ?_) (.bv j i l (.aq D λw J f=>?_)) .go];obtain⟨E,k,B,G,g,e,h⟩:=f;refine c ?_;cases d<;>try rw[.Ak]
 cases k<;>try rw[.Ak]
 dsimp[rD,RD]at r e;subst r e;rw[.ml _ _ (h.here g .eJ)]
end
section
variable{prog:P6}{w:P7}{A:R3}{E:R0->R1->Prop}{s:R1}
end
section
variable{X:Cx}{pos p:Pos}
end
end Fm
namespace Fm
open PySem PySem.Spec L2
open AutoSeq1 (wpAny_loadPart')
open PyProof.Rows (Call_)
section
variable{X:Cx}{pos p tp:Pos}{elts:List Expr}{tk:Nat}
/---/def adi(K:zCM)(ta:TE):TI:=.nL<|.yj<|.uM<|SqL K H1 a xs/\(.iV->R (ItL K a) H1)
def Ry(K:.L4)(G:.L5)(E:.af a j)(v:autoParam (.z4) Q3Q._auto_1):.Ju PI (adi X.K j):=by
 intro pins s σ H R I h;have m:=.d9 E v;refine .abY .J4
 ·show .P6 _
  have o:∀(x:V) (c:Hp),(.NW .J4)=(∃a d,[x]=.iM/\.J4):=λx c=>.f
  have i:.P6 (.NW .J4):=h;dsimp[o]at i;exact i
 ·rw[.ahg]
  subst e;obtain⟨u,rfl,F⟩:=bS.one B;cases (.Y0 a);obtain⟨l,N,y,D⟩:=k.list C;rw[.cN (call_enumerate_list (show f.heap.IsList a l.toArray from y.isList) λi r hit w z=>?_) .aet];have J:.alE:=k.kept (t':=f.toks) z;refine .abU true;have g:f.heap.objs.size<=b:=by
   rcases .bj n with e|n
   ·rw[e];exact zVc _
   ·have:.Lh:=.MH
    rw[.a9];exact zBK _
  exact .ale
theorem Ki{K:zCM}{n:Nat}(w:.vh q)(B:.S<|.ad nO l):.bT uZ (ItL K q) (nO l) .Z5 where
 go:=λρ' t hd' i d f m r u=>by
  have a:=f.get w;obtain⟨e,g,b⟩:=m.cel n _ q r a;unfold nO at u;obtain⟨j,k⟩:=z0.mp u;have A:.iZ:=by simpa using j
  have F:d=.Aq (l[i]):=.iW k
  subst F;obtain⟨v,c,E⟩:=.jE b.get (d:=l[i])<|.k A;have z:SqL K t q e:=.e4 g;rw[.bN ⟨e,v,z,c⟩ λx I y=>?_];obtain⟨q2,G,rfl,C,rfl,y⟩:=y;rw[.hu (y e z) c];have s:=.alw C;rw[.fQ s];dsimp[RD];exact .bh q2 _ aR<|.yf<|.rL<|E.mono<|Kp.same s
 stop:=λρ' t hd' f m r=>by
  have a:=f.get w;obtain⟨e,g,b⟩:=m.cel n _ q r a;exact⟨e,.e4 g,by rw[<-b.length];simp[nO]⟩
 sz:=B
/---/def Rz(K:zCM)(ρ:.am)(H:Hp)(σd:Sd)(σ:St)(r:Res D)(R:.di It):Prop:=match r with
 |.ok (.ref n) hd'=>match hd'[n]? with
  |some (.lst l)=>.aom (.gt uZ J (nO l) .Z5)
  |_=>False
 |_=>False
/---/def abO(K:zCM)(f:EF):TI:=.nL<|.mV<|.vk Rz .hh R
/---/def MIE(X:Cx)(tg e:Expr)(f:EF):Prop:=.nA e<|abO X.K f
def RA{f:EF}(C:.L4)(A:.L5)(z:.bq f)(D:autoParam (.z4) Q3Q._auto_1):.Ju MIE f:=by
 refine PI.imp (Ry C A z D) λσ H R u=>?_;obtain⟨ρ,σd,s,B,b⟩:=u;refine .eU s B;unfold Rz at b;cases e:.gZ s with
 |exc x E=>rw[.iy e b]
 |bad=>rw[.iy e b]
 |ok d i =>
  rw[e]at b;intro v w k g c r;cases d<;>try rw[.u]
  rename_i n
  cases j:i[n]? with
  |none=>dsimp[j]at b
  |some cell =>
   dsimp[j]at b;cases cell with
   |dct l=>rw[.u]
   |dcT l=>rw[.u]
   |ob l=>rw[.u]
   |lst l =>
    simp only at b;dsimp[rD,RD]at r;obtain⟨q,m,rfl⟩:=r;obtain⟨o,t,h⟩:=c.hp.cel n _ q j m;exact .bh q o (.e4 t) (λy=>b _ w k g c<|Ki m (by rw[show .ad nO l=o.length by rw[<-h.length];simp[nO]];exact y))
end
section
variable{X:Cx}{pos:Pos}{tg:Expr}
end
end Fm
namespace Fm
end Fm
namespace Fm
open PySem PySem.Spec L2
open PyProof.Rows (Call_)
section
variable{X:Cx}{pos p p2 pos2:Pos}
end
end Fm
namespace Fm
section
open Classical
@[simp] noncomputable def Ay(nl:Nat)(caps:.g)(a:EF)(tg:GF)(cs:.ai TF)(e:EF):LF:=.ax<|match .bM with
 |.ok (.ref n) h=>match h[n]? with
  |some (.lst l)=>dS .Z5 tg cs e (nO l) .EX h
  |_=>.bad
 |.ok _ _=>.bad
 |.exc x h=>.fj x h
 |.bad=>.bad
end
@[simp] noncomputable def qp(x:EF)(L:LF):EF:=.yJ<|match p with
 |.ref n=>match h[n]? with
  |some (.lst _)=>.cz L λds h=>match h[n]? with
   |some (.lst l)=>.cZ (.Fn ds.length) (.MO<|l++ds)
   |_=>.bad
  |_=>.bad
 |_=>.bad
end Fm
namespace Fm
open PySem PySem.Spec L2
section
variable{X:Cx}{pos:Pos}{scope:Scope}{own capn:List Str}{caps:List Nat}
def RB{D tg a:Expr}(hc:.bB)(S:.k7)(hi:MIE X tg a f)
  (P:.JL<|.q6 MTs u cs/\.q6 ME D e)
  (hs:autoParam (.mz a) Q2Q._auto_1):MF X (.pd D (.NF u) scope pos) (.Cz Ay f g cs e):=by
 rw[.apb eval_ListComp];unfold Ay at p;cases c:.hh with
 |exc z h7=>rw[.eb]
 |bad=>rw[.eb]
 |ok d k =>
  rw[c]at p;cases d<;>try rw[.bC]
  rename_i n
  simp only at p;cases Y:k[n]? with
  |none=>rw[.c2 Y]
  |some cell =>
   rw[Y]at p;cases cell with
   |dct l=>rw[.bC]
   |dcT l=>rw[.bC]
   |ob l=>rw[.bC]
   |lst L =>
    simp only at p;obtain⟨cl,N,r,w⟩:=pN λy hy U=>.I8 U;refine .Uf N (thn (.hX hi (λJ E=>∃i,.gq i E/\.f7 i E σd k σ/\uZ X.K i E J (nO L) (λh=>h[n]? = .x L)) I<|.HP (by
     unfold Rz;rw[c];rw[.mm Y λJ O ρ' ex a0 K=>⟨ρ',ex,a0,K⟩])) λv s1 N=>thn N λa1 s2 h2=>?_)
    rw[.j .vg];obtain⟨it,fp,tn,J,E,rfl,B,T,Z,hf,i,j,A,K⟩:=h2;refine kq ?_;generalize hG:(λh:Hd=>h[n]?=.x L)=G at p K;cases M:.Ot (nO L) .rn k with
    |exc z h7=>rw[.c2 M]
    |bad=>rw[.c2 M]
    |ok ds hdF =>
     rw[M]at p;refine wO hc S P B T Z hf A K r w M λC s' m O ρ' vs F hn I' V ex rh t hD R W=>?_;refine .Rp O
     ·refine I'.turned .IZ V ?_ (.Gf<|zBR B.sz F) .ER .Oh
      ·exact wh (UH B.lt F)
      ·rw[.aaU B.cell]
       exact .Ow F
      ·exact .qD (.Fv B.pin F)
     ·exact p _ vs O ρ' (j.trans ex) (rs.ext (j.trans ex) rh) (j.fresh t<|A.hp.free t) hD R W
end
section
variable{X:Cx}
def vf{apos cpos:Pos}(S:.jG P)(he:MF X e L)(k:autoParam (.mW "extend") Q3Q._auto_1)
  (p:autoParam ((.BC
   && .t1 e)=true) Q3Q._auto_1)
  (j:autoParam (.kd) Q3Q._auto_1) (J:autoParam (.z6) Q3Q._auto_1) :
  .KX "extend" (qp P L):=by
 rw[.I (.U (.ab9 S k p j J) λσ H Q w=>?_) λ_ B=>?_];obtain⟨ρ,σd,hd,V,M⟩:=w;rw[.eW B hd V];unfold qp at M;rw[.c0 (.aq M λv H1 w=>?_) λ_ B=>?_];obtain⟨y,d,g,e1,s,I,b⟩:=w;refine B ?_;cases d<;>try rw[.u]
 rename_i n
 dsimp[rD,RD]at I;obtain⟨a,N,rfl⟩:=I;simp only at b;cases C:g[n]? with
 |none=>rw[.bR C]
 |some cell1 =>
  rw[C]at b;cases cell1 with
  |dct l=>rw[.u]
  |dcT l=>rw[.u]
  |ob l=>rw[.u]
  |lst l1 =>
   obtain⟨Y,R,_⟩:=s.hp.cel n _ a C N;simp only at b;refine⟨.G ⟨rfl,Y,.e4 R⟩,y,σd,g,s,?_⟩;cases D:L σd g with
   |exc z h7=>rw[.bR D]
   |bad=>rw[.bR D]
   |ok ds t =>
    rw[D]at b;dsimp[aE]at b;intro q O F u E h T W G m;cases c:t[n]? with
    |none=>rw[.bR c]
    |some cell =>
     rw[.hQ];cases cell with
     |dct l=>rw[.u]
     |dcT l=>rw[.u]
     |ob l=>rw[.u]
     |lst l =>
      rw[.lD]
      ·rename_i U
       have i:=E.get N;obtain⟨r,A,f⟩:=.tU i;refine⟨a,q,r,O,rfl,rfl,A,W,?_,?_⟩
       ·rw[.jJ f.length m.length (zBL U .sj)]
       ·have G:n<t.length:=.aw c
        have Z:=h.hp.write i G<|.po f m;have K:Ext u F u (.fE F<|.hM r O):=.tX i;exact(b.ext E).at K (h.ext K Z) .eJ
      ·rw[.u]
end
end Fm
namespace Fm
end Fm
namespace Fm
open PySem PySem.Spec L2 PySem.W PyProof.Rows
section
variable{prog:P6}{w:P7}{A:R3}{E:R0->R1->Prop}{s:R1}
end
section
variable{X:Cx}{pos p:Pos}
end
section
variable{X:Cx}{pos p:Pos}
end
section
variable{prog:P6}{w:P7}{A:R3}{E:R0->R1->Prop}{s:R1}{κ:Type}[DecidableEq κ]{knd:KeyKind prog w κ}
end
section
variable{prog:P6}{w:P7}{A:R3}{E:R0->R1->Prop}{s:R1}
end
section
variable{X:Cx}{pos p:Pos}
end
end Fm
namespace Fm
@[simp] noncomputable def eA(c:String):SF:=.ax<|.fj .zQ σ h
@[simp] noncomputable def dF(t:TF)(a b:SF):SF:=.ax<|match .aX t with | .ok c h'=>if c then a σ h' else b σ h'|_=>.bad
@[simp] noncomputable def qt(it:IF)(tg:GF)(b:SF):SF:=.ax<|match .aX it with
 |.ok (l,g) h=>.L3 h
 |_=>.bad
noncomputable def noX:.e2->.e2
 |.exc _ _=>.bad
 |r=>r
/---/def fPl(f:.iu α):.iu α := .ax<|noX .gV
/---/def sPl(f:SF):SF:=.ax<|match .gV with | .exc _ _ _=>.bad|o=>o
noncomputable def ltT:D->D->.py
 |.tup xs,.tup ys=>match lH xs,lH ys with
  |some ns,some ms=>.a (.cp ns ms)
  |_,_=>none
 |_,_=>none
@[simp] noncomputable def Zi:O2:=.dZ<|.DG<|ltT x y
end Fm
namespace Fm
open PySem PySem.Spec L2 PyProof.Rows
theorem Hi:∀(a b:.l),HT.lexLt a b=.cp a b
 |[],[]=>rfl
 |[],_::_=>rfl
 |_::_,[]=>rfl
 |x::xs,y::ys=>by
  show (.Q x y (HT.lexLt xs ys)<|.iO x y)=_;rw[Hi xs ys];rfl
def Zj{K:zCM}:Og K Zi (abw K):=by
 intro ρ H σd s σ d k v w Q o i c p;unfold Zi at p;cases d<;>try rw[.bC]
 cases k<;>try rw[.bC]
 rename_i l m
 dsimp[ltT]at p;cases e:lH l with
 |none=>rw[.c2 e]
 |some r =>
  cases h:lH m with
  |none=>rw[e,h]at p;rw[.bC]
  |some q =>
   rw[e,h]at p;dsimp[RD]at i c;obtain⟨a,t,rfl,j,f⟩:=i;obtain⟨b,u,rfl,n,g⟩:=c;refine⟨a,b,r,q,rfl,rfl,.d7<|.L j<|uX f e,.d7<|.L n<|uX g h,?_⟩;rw[Hi];exact .jq o
end Fm
namespace Fm
/---/def vg(x:EF):EF:=.yJ<|match p with
 |.ref n=>match h[n]? with|some (.ob [d])=>.hH|_=>.bad
 |_=>.bad
/---/def vh(x e:EF):SF:=.VN<|match p with
 |.ref n=>match h[n]? with|some (.ob [])=>.NN .Qn|some (.ob [_])=>.NN .Qn|_=>.bad
 |_=>.bad
/---/def Hj(F:Fn)(r:LF):EF:=.ax<|.Ad<|match F (.k0::xs) (.lY h) with
 |.ok .non h'=>.dN .k0
 |_=>.bad
/---/def uf(F:Fn)(x:EF)(r:LF):EF:=.yJ<|match p with
 |.ref n=>match h[n]? with|some (.ob _)=>.Ad (F (.aK::xs) h)|_=>.bad
 |_=>.bad
end Fm
namespace Fm
open PySem PySem.Spec L2 PySem.W PyProof.Rows
section
variable{K:zCM}{ρ:List Addr}{H:Hp}{hd:Hd}
def RH.writeO(r:.cE)(hp:.vh p)(d:.u9)(h1:.rj "Desk")(f:.dp):RH K ρ (.pU<|.js<|t7 vs) (hd.set n<|.ob l):=by
 have k:.ng ρ (.pU<|.js<|t7 vs):=by
  have b:=zAT hp;refine⟨.iY h,λa g e=>?_,λa o u e=>?_,λa i e=>?_⟩
  ·rw[.VE b];exact e
  ·rw[.VF b];exact e
  ·rw[.VC b];exact e
 refine .aih
 rw[.aV n m]
 ·subst e
  rw[X0 d]at q1;cases q1;rw[hp]at q2;cases q2;exact⟨vs,C,dx,aR,f.mono k,h1⟩
 ·rw[zBO e]at q1
  have ne:a≠p:=λz=>by
   subst z;exact .ZA q2
  exact .Xv m (aK ne)
def RH.allocO(r:.cE)(hp:H p=.a (.js []))(g:p∉ρ)(h1:.rj "Desk"):RH K .vA H (.lY hd):=by
 have k:.ng .vA H:=.RS;refine .gi .zB λn c a q1 q2=>?_
 ·rw[zUm]
  rw[.C r.nd .f λa f b d=>by rw[.H5];intro e;rw[.d3 (g f)]]
 ·by_cases hlt:.u9
  ·rw[zAL hlt]at q1
   rw[.Nf hlt]at q2;exact .Xv n rfl
  ·have i:n=hd.length:=by
    have:=.aw q1;simp at this;omega
   subst i;simp at q1;subst q1;rw[<-r.len]at q2;simp at q2;subst q2;exact⟨[],C,dx,hp,.xn RDs,h1⟩
end
structure mP(K:zCM)(C:Addr):Prop where
 at_:PySem.W.nsIn K mainGlobals (Str.ofString "Desk")=some (some (.ref C))
 cls:Cls K C
 no:pJ K C "web"
section
variable{X:Cx}{pos p:Pos}{C:Addr}
def mP.one(T:.sY)(h:.Y6 X.K (.kZ "Desk")=.bx a):a=C:=by
 have:=T.at_.symm.trans h;cases this;rfl
def E1(T:.sY)(he:.kp j)(s:autoParam (.Uh "web") Q3Q._auto_1):.aL (.ms e "web" pos) (vg j):=by
 rw[.I (.U (YE he s) λσ H Q h=>?_) .dR];obtain⟨ρ,σd,y,t,o⟩:=h;rw[.eu (f ?_) y t (.aq o λv z h=>?_) .dR];obtain⟨w,d,i,A,g,k,b⟩:=h;refine f ?_;cases d with
 |ref n =>
  simp only at b;cases c:i[n]? with
  |none=>rw[.bR c]
  |some cell =>
   rw[.hQ];cases cell with
   |lst l=>rw[.u]
   |dct l=>rw[.u]
   |dcT l=>rw[.u]
   |ob l =>
    match l,b,c with
    |[d],b,c =>
     dsimp[RD]at k;rw[.j .dR];obtain⟨a,q,rfl⟩:=k;obtain⟨B,x,u,q1,q2,q3⟩:=.lV g.hp.cel q;dsimp[RDs]at q2;obtain⟨v,r,rfl,m,rfl⟩:=q2;rw[.H6 (f ?_) .G8];exact⟨a,x,u,_,v,rfl,q1,T.cls,T.no,rfl,b.here g m⟩
    |[],b,_=>rw[.u]
    |_::_::_,b,_=>rw[.u]
 |_=>rw[.u]
structure RE(P:P6)(w:P7)(K:zCM)(mg:Str->Option R0)(base:Heap)(C:Addr)(m:Str)(k np:Nat)(F:Fn):Prop where
 ex:∃f fd ps,Vc K C m f/\gD K fd ps []/\cx P w K mg base CX0 k f fd ps (spF K F np)
def Hk{K:EF}{apos:Pos}{pl:Sem Bool}(T:.sY)(hd:.jW RE C m k np F)(Z:.hz k)(N:.jG K)(E:.vd j)(hnp:.wi)(hm:m≠"web")
  (D:autoParam (.hl j=.i3 j) Q3Q._auto_1) (hpl:autoParam (.eN j) Q3Q._auto_1)
  (Y:autoParam (.Yx j=(do
   let ov <-.cP o
   .aan
   let (f,first) <-.nj [ov] .Vh
   .SD j)) Q3Q._auto_1) :
  .aL (.KJ<|e::j) (uf F K r):=by
 rw[.iA];obtain⟨f,fd,ps,L,h2,V⟩:=hd.ex;rw[.ht g (.U (Mn N T.cls L V Z h2 .nil GX E D hpl Y) λσ H Q s=>?_) .hV];obtain⟨ρ,σd,hd,U,pp⟩:=s;rw[.eu (g ?_) hd U (.aq pp λv H1 s=>?_) .hV];obtain⟨y,d,t,e1,i,A,b⟩:=s;refine g ?_;cases d with
 |ref n =>
  simp only at b;cases c:t[n]? with
  |none=>rw[.bR c]
  |some cell =>
   rw[.hQ];cases cell with
   |lst l=>rw[.u]
   |dct l=>rw[.u]
   |dcT l=>rw[.u]
   |ob l =>
    have B:=A;dsimp[RD]at A;rw[.iA];obtain⟨a,E,rfl⟩:=A;obtain⟨G,C',W,q1,q2,q3⟩:=.lV i.hp.cel E;rw[.H6 (g ?_) .G8];have O:(t7 G).lookup m=none:=by
     unfold t7;clear q1 q2
     induction G with
     |nil=>rfl
     |cons v G ih =>
      rw[xI,zh];rw[.alJ (by simpa using hm)];exact ih
    rw[.c0 ⟨a,W,_,rfl,q1,O,y,σd,t,i,.aq b λus H2 s=>?_⟩ .hV];obtain⟨I,ds,w,P,u,ru,q⟩:=s;refine g ?_;rw[X1];cases x:F .Hv w with
    |exc z h'=>rw[.rF x q.elim]
    |bad=>rw[.rF x q.elim]
    |ok d R =>
     rw[x]at q;refine .iN I w .Hv u.hp ?_<|.cd hnp x
     ·dsimp[RDs]
      exact .bh _ _ (B.mono<|i.hp.kp P) ru
     ·rw[x]
      exact λv M ρ' J rh S=>q v M ρ' J (u.ext J rh) S
 |_=>rw[.u]
structure Zk(P:P6)(w:P7)(K:zCM)(mg:Str->Option R0)(base:Heap)(x:Str)(C:Addr)(k np:Nat)(F:Fn):Prop where
 mgC:mg x=some (.ref C)
 ex:∃f fd ps,Mk K C f/\gD K fd ps []/\cx P w K mg base CX0 k f fd ps (spF K F np)
def Kj(T:.sY)(hd:.jW Zk x C k np F)(P:.oI)(Z:.bo)(U:.vd o)(hnp:.wi)
  (w:autoParam (.a5) Q1Q._auto_1) (he:autoParam (.hl o=.i3 o) Q3Q._auto_1) (hpl:autoParam (.eN o) Q3Q._auto_1) :
  .UG o (Hj F r):=by
 rw[.j .lo];obtain⟨f,fd,ps,E,V,N⟩:=hd.ex;rw[.ht s (.U (Vd E N P Z hd.mgC V .nil GX U w he hpl) λσ H Q t=>?_) .lo];obtain⟨ρ,σd,hd,M,S⟩:=t;rw[.eu (s ?_) hd M (.aq S λvs j t=>?_) .lo];obtain⟨a,ds,g,e1,b,O,l⟩:=t;refine s ?_;intro x i nx n y;rw[X1];cases c:F (.d g.length::ds) (.lY g) with
 |exc z h'=>rw[c]at l;exact l.elim
 |bad=>rw[c]at l;exact l.elim
 |ok d J =>
  rw[c]at l;cases d with
  |non =>
   have Y:x∉a:=λz=>by
    rcases b.hp.mut z with ⟨_,q⟩|⟨_,q⟩|⟨_,q⟩|⟨_,_,_,q⟩<;>(rw[.db nx])
   have K:Ext a j a .Op:=.xw<|.WW n;have m:.Op x=none:=by rw[aK<|zZs y];exact nx
   have R:Ext a .Op (a++[x]) .Ss:=Ext.alloc m;have A:Ext a j (a++[x]) .Ss:=K.trans R;have L:RH X.K a .Ss g:=(b.hp.same<|cj n).same<|cj m;have I:=L.allocO aR Y T.at_;refine⟨a++[x],.lY g,.d g.length::ds,I,?_,.cd hnp c,?_⟩
   ·dsimp[RDs]
    refine .bh _ _ ?_<|O.mono<|b.hp.kp A;dsimp[RD];rw[.oe x (.iW b.hp.len)]
   ·rw[c]
    intro v G ρ' B W D;dsimp[RD]at D;rw[.bN D (.bi l x G ρ' (A.trans B) (b.ext (A.trans B) W) ?_)];dsimp[rD,RD];rw[.oe x (B.get<|.iW b.hp.len)]
  |_=>exact l.elim
end
/---/def inS(s:Stmt)(j:Nat):Stmt:=match s with
 |.ClassDef _ _ _ b _ _ _ _ _ _ _=>b.getD j .K9
 |_=>.K9
end Fm
namespace Fm
/---/def vj(s:String):.g:=s.toList.map Char.toNat
noncomputable abbrev JF:=.g->EF
/---/def wS:JF:=λout _ h=>.cZ (.bt out.length)<|.ib out
/---/def fB(a:EF)(r:JF):JF:=λout σ h=>.cz a λx h=>match x with
 |.str y=>.cZ .akO (r (out++y) σ h)
 |_=>.bad
/---/def fFs(r:JF):EF:=r []
/---/def gg(a:EF):EF:=.cF<|match x with
 |.int i=>.amT
 |_=>.bad
/---/def OH(l:.g):Bool := ! l.isEmpty&&l.all λc=>.D .g2
/---/def wT(l:.g):Nat:=l.foldl (λacc c=>acc*10+(c-48)) 0
noncomputable def yX:.g->.X
 |[]=>none
 |c::r=>.Q c 45 (.dE (OH r) (.a<|-(wT r:Int)) none)<|.dE (OH<|c::r) (.a (wT (c::r):Int)) none
/---/def o0(a:EF):EF:=.cF<|match x with
 |.str l=>.agS (.ao n)
 |_=>.bad
noncomputable abbrev Tab:=.ed .g .X
noncomputable def VF:.X->D
 |some i=>.aG
 |none=>.non
/---/def lI(T:Tab)(l:.g):.as .X:=.lz
/---/def zE(T:Tab)(a:EF):EF:=.cF<|match x with
 |.str l=>.aY (.l6<|lI T l)
 |_=>.bad
/---/def Az(T:Tab)(a:EF):EF:=.cF<|match x with
 |.str l=>(.yB .v8<|.jP VF d)
 |_=>.bad
section
open Classical
@[simp] noncomputable def lq(h:Hd):D->.as (.m × .lQ)
 |.tup l=>.a .A9
 |.exn c l=>.s3 c "" .A9 none
 |.ref n=>.Ri (l,.e8)
 |_=>none
end
noncomputable abbrev ug:=.ed .g .A
/---/def Co(l:.A):D:=.exn ""<|.b8 .str
/---/def E2(T:ug)(a:EF):EF:=.cF<|match x with
 |.str l=>.aY (.l6<|T.lookup l)
 |_=>.bad
/---/def Dx(T:ug)(a:EF):EF:=.cF<|match x with
 |.str l=>(.yB .lz<|.jP Co d)
 |_=>.bad
/---/def MN(a:EF):EF:=.cF<|match x with
 |.exn c l=>.Q c "" (.ao l.length) .bad
 |_=>.bad
/---/def RF(a:EF):EF:=.cF<|match x with
 |.exn c l=>.Q c "" (.aY l.isEmpty) .bad
 |_=>.bad
/---/def Hl(a:EF):EF:=.cF<|match x with
 |.int i=>.amT
 |.non=>.v (.h<|vj "None")
 |_=>.bad
section
open Classical
end
end Fm
namespace Fm
open PySem PySem.Spec L2
open PyProof.Rows (Call_)
section
variable{prog:P6}{w:P7}{A:R3}{E:R0->R1->Prop}{s:R1}
def uh(t:.Kk L it l i)(u:.ow L l a)(b:.iS a)
  (q:∀h',It2 L h' it l (i+1)->.xM it h'->.tA x):.JO:=by
 cases L
 ·exact nM t u b q
 ·exact wpAny_nextOf_list_item t u b q
def Dy(b:.qZ)(t:.Kk L it l i)(u:.ow L l a)(d:a[i]?=none)
  (c:.aiR):.JO:=by
 cases L
 ·exact oZ b t u d c
 ·exact wpAny_nextOf_list_end b t u d c
end
section
variable{La Lb:Bool}{prog:P6}{w:P7}{A:R3}{E:R0->R1->Prop}{s:R1}{z TI TO i1 i2 l1 l2:Addr}{k:Nat}{xs ys:Array R0}{a b:R0}
def OI{Q:.fB}(Z:.I2)(D:.KA)(gI:.Jv)(gO:.LE)
  (t1:.No) (V:.Np) (Y:.zk) (W:.zl) (ex:xs[k]?=.aF) (ey:ys[k]?=.gU)
  (q:.acv<|.Ym 1->
   .Xo .jQ) :
  .hW .agv (λfin X=>∃v,fin=.FU v/\Q v X) E s:=by
 show .L1 2;refine zF (.Lw .ry ?_);show .L1 3;refine zF (.Lw (.d TI) (zF (zWf gI rfl ?_)));rw[.apa .aep];refine .sz (.Lw .none (xU ?_));dsimp[zYh];refine .Wa (.Lw (.d TO) (zF (zWh D .f λg1 j m=>zF ?_)));replace j:.yY g1:=j;dsimp[List.zipIdx_cons,List.zipIdx_nil,List.forIn_cons,List.forIn_nil];refine .KE;show .vF<|.Hk i1;refine zF (uh (t1.extBut m.extBut Z.i1z) (pO Y m.extBut Z.l1z) ex λg2 I n=>xU ?_);have B:.ix g2 TO a b:=n.extBut _ _ Z.TOi1<|m.extBut _ _ Z.TOz gO;refine zF (zWf B rfl (zF (.Wz B λg3 i p=>.V6 ?_)));replace i:.ix g3 TO x b:=i;refine .KE;show .vF<|.Hk i2;refine zF (uh (((V.extBut m.extBut Z.i2z).extBut n.extBut Z.i12.symm).extBut p.extBut Z.TOi2.symm) (pO (pO (pO W m.extBut Z.l2z) n.extBut Z.l2i1) p.extBut Z.l2TO) ey λg4 M F=>xU ?_);have u:.ix g4 TO x b:=.Oi Z.TOi2 i;refine zF (zWf u rfl (zF (.Wz u λd g t=>.V6 (xU ?_))));replace g:.ix d TO x y:=g;refine zF<|zWf g rfl .anE;have S:.L6 d.objs.size:=by rw[t.1,F.1,p.1,n.1,m.1]
 have C:.yY d:=t.extBut _ _ Z.TOz.symm<|.Oi Z.i2z.symm<|p.extBut _ _ Z.TOz.symm<|.ZE n.extBut j;have kp:.RB (d.get? c):=λc o h H O J e=>t.extBut _ _ H<|.Oi J<|p.extBut _ _ H<|n.extBut _ _ O<|.kP m.extBut e;have K:It2 La d i1 l1 (k+1):=((I.extBut p.extBut Z.TOi1.symm).extBut F.extBut Z.i12).extBut t.extBut Z.TOi1.symm;have L:It2 Lb d i2 l2 (k+1):=M.extBut t.extBut Z.TOi2.symm;have U:z<d.objs.size:=zAR C;show .vF<|.bi Builtin.SmallTypes.ownedTupleHandOut z<|.d d.objs.size;unfold Builtin.SmallTypes.ownedTupleHandOut;have R:.yY (d.push<|.sq #[x,y]):=.gv C;refine .sz (zWh R .f λg7 l P=>?_);replace l:.Cw g7 .any:=l;refine zWh l .f λr f N=>?_;replace f:.Cw r .any:=f;have G:∀c o,c≠z->d.get? c=.bb->r.get? c=.bb:=λc o h e=>.kP N.extBut<|.kP P.extBut .uD;have gT:.ix r d.objs.size x y:=N.extBut _ _ (wh U)<|P.extBut _ _ (wh U) .ds;have T:r.objs.size=d.objs.size+1:=by rw[N.1,P.1,zZi]
 rw[S]at f gT T;refine xU (.dz ?_);show .iU d.objs.size _;rw[S];exact q r f (G _ _ Z.TOz g) (K.at λo e=>G _ o Z.i1z e) (L.at λo e=>G _ o Z.i2z e) gT T λc o h H O J e=>G c o h<|kp c o h H O J e
def RG(G:.qZ)(Z:.I2)(p:.KA)(U:.Jv)(T:.LE)
  (I:.No) (J:.Np) (F:.zk) (L:.zl) (nd:.alp)
  (q:.acH<|.RB<|.hb c) :
  .d6 .agv:=by
 show .L1 2;refine zF (.LH .ry ?_);show .L1 3;refine zF (.LH (.d TI) (zF (zWf U rfl ?_)));rw[.apa .aep];refine .sz (.LH .none (xU ?_));dsimp[zYh];refine .Wa (.LH (.d TO) (zF (zWh p .f λO d f=>zF ?_)));replace d:.yY O:=d;dsimp[List.zipIdx_cons,List.zipIdx_nil,List.forIn_cons,List.forIn_nil];refine .KE;show .vF<|.Hk i1;cases B:xs[k]? with
 |none =>
  refine zF (Dy G .alX .ant B λt e g u=>?_);obtain⟨C,h,m⟩:=u;have r:.yY t:=.ZE g d;have ne:e≠z:=.aiU r
  exact zWh r .f λg3 _ i=>q g3 e (λc o j _ y _ v=>.N9 j<|g _ _ y<|.Oc j v) ⟨C,.N9 ne h,m⟩
 |some x =>
  have S:ys[k]?=none:=nd.resolve_left (by rw[B];exact Option.some_ne_none _);refine zF (uh .alX .ant B λt K g=>xU ?_);have n:.ix t TO a b:=g.extBut _ _ Z.TOi1<|.Oc Z.TOz T;rw[.e9 (zWf n rfl (zF (.Wz n λg3 N i=>.V6 ?_))) .KE];show .vF<|.Hk i2;refine zF (Dy G (((J.extBut f.extBut Z.i2z).extBut g.extBut Z.i12.symm).extBut i.extBut Z.TOi2.symm) (pO (pO (pO L f.extBut Z.l2z) g.extBut Z.l2i1) i.extBut Z.l2TO) S λV e H u=>?_);obtain⟨C,h,m⟩:=u;have l:.yY V:=H _ _ Z.i2z.symm<|.N9 Z.TOz.symm<|.ZE g.extBut d;have ne:e≠z:=.aiU l
  exact zWh l .f λP _ D=>q P e (λc o j R y M v=>D.extBut _ _ j<|H _ _ M<|.N9 R<|g.extBut _ _ y<|.Oc j v) ⟨C,D.extBut _ _ ne h,m⟩
def E3(Z:.I2)(d:.KA)(u:.Jv)(m:.LE)
  (t:.No) (f:.Np) (r:.zk) (j:.zl) (ex:xs[k]?=.aF) (l:ys[k]?=.gU)
  (q:.acv<|.Ym 1->
   .Xo (.t s.heap.objs.size)) :
  .d6 (.bi pyNext z):=by
 have e:.Oy z "zip" := .dk d;unfold pyNext;rw[.eB (zF<|wpAny_attempt<|.I5 e F.slot_zip_next<|.adA e) (OI Z d u m t f r j ex l λh' B i h p v g n=>xU<|q h' B i h p v g n)]
def Hm(u:.qZ)(Z:.I2)(d:.KA)(t:.Jv)(m:.LE)
  (p:.No) (h:.Np) (n:.zk) (j:.zl) (nd:.alp)
  (q:∀h',.Xo none):.d6 (.bi pyNext z):=by
 have f:.Oy z "zip" := .dk d;unfold pyNext;rw[.e9 (wpAny_attempt<|.I5 f F.slot_zip_next<|.adA f) (RG u Z d t m p h n j nd λh' e i g=>?_)];obtain⟨o,l,r⟩:=g;exact zF<|wpAny_isInstance (T := "StopIteration") (b:=true) ⟨o,l,r⟩ isSubtype_stop<|xU<|q _ i
end
/---/def zm1(La:Bool)(h:Heap)(l1:Addr):Heap:=h.push .am8
/---/def zm2(La Lb:Bool)(h:Heap)(l1 l2:Addr):Heap:=.kH (zm1 La h l1) .anb
/---/def zm3(La Lb:Bool)(h:Heap)(l1 l2:Addr):Heap:=.kH (.EZ zm2)<|.sq #[.d h.objs.size,.Gv<|zm1 La h l1]
/---/def zm4(La Lb:Bool)(h:Heap)(l1 l2:Addr):Heap:=.kH (.EZ zm3) .anz
/---/def zm5(La Lb:Bool)(h:Heap)(l1 l2:Addr):Heap:=.kH (.EZ zm4)<|.BX "zip" #[.none,.ry,.ry,.Gv<|.EZ zm2,.Gv<|.EZ zm3]
def E4{L:Bool}{h:Heap}{l:Addr}{xs:.i1}{o:Obj}(u:.AB h):.AB (h.push o):=by
 cases L<;>(obtain⟨o,a,r⟩:=u;rw[.ci (.gv a) r])
def sqT{h:Heap}{l:Addr}{xs:.i1}(u:Sq2 false h l xs):Heap.IsTuple h l xs:=u
def sqL{h:Heap}{l:Addr}{xs:.i1}(u:Sq2 true h l xs):Heap.IsList h l xs:=u
set_option maxHeartbeats 4000000 in
def Kk(La Lb:Bool)(l1 l2:Addr)(xs ys:.i1):
  Meets (Builtin.«zip.__new__»<|.dh [.bQ "zip",.d l1,.d l2]) (λ_ R s=>.zk/\.zl/\.rd (.Gv<|.oo zm4) (.rv<|.oo zm5)) :=
 .Mw (by
  obtain⟨e,g,d,i,f⟩:=s;obtain⟨a,b,h⟩:=h;have c:=sub_zip;cases La<;>cases Lb
  ·wp_walk using zYt<|sqT a,zYt (sqT<|E4 b)
   exact .dz h
  ·wp_walk using zYt<|sqT a,zVj (sqL<|E4 b)
   exact .dz h
  ·wp_walk using zVj<|sqL a,zYt (sqT<|E4 b)
   exact .dz h
  ·wp_walk using zVj<|sqL a,zVj (sqL<|E4 b)
   exact .dz h)
section
variable{La Lb:Bool}{prog:P6}{w:P7}{A:R3}{E:R0->R1->Prop}{s:R1}
def OJ(l:.zk)(j:.zl)
  (q:∀h',IsZip h' (.xl 4) (.xl 2) (.xl 3) .none->.ix h' (.xl 2) .jQ (.d .B7)->
   .ix h' (.iP 3) .none .none->It2 La h' s.heap.objs.size l1 0->It2 Lb h' .cf l2 0->h'.objs.size=.iP 5->
   (∀c o,.gw c->.wv c)->.tA (.d<|.iP 4)) :
  .d6 (call (.bQ "zip") [.d l1,.d l2]):=by
 refine .Yw F.called_zip (F.typeCall_zip_2 _ _) (F.newCall_zip_2 _ _) (λobj=>F.args_object_init_3 obj _ _) F.entry_zip_new (Kk La Lb l1 l2 xs ys) ⟨l,j,?_⟩;have f:.lw (zm1 La s.heap l1)=.cf:=zZi ..;have b:.lw (.oo zm2)=.iP 2:=.Oz f;have d:.lw (.oo zm3)=.iP 3:=.Oz b;have a:.lw (.oo zm4)=.iP 4:=.Oz d;have i:.lw (.oo zm5)=.iP 5:=.Oz a;have g:.Vs (zm1 La s.heap l1):=λe=>zAQ _<|zAQ _ .PD;have k:.Vs (.oo zm2):=λe=>zAQ _ .PD;have r:.Vs (.oo zm3):=λe=>.PD;have m:.x5 s.heap.objs.size=.a .am8:=g .ds;have n:.x5 .cf=.a .anb:=.ay f<|k .ds
 have g3:.x5 (.iP 2)=.a (.sq #[.jQ,.d .cf]):=by rw[.jJ b f (r .ds)]
 have p:.x5 (.iP 3)=.a .anz:=.ay d<|.gv .ds
 have h:.x5 (.iP 4)=.a (.BX "zip" #[.none,.ry,.ry,.d<|.iP 2,.d<|.iP 3]):=by rw[<-a,<-b,<-d];exact .ds
 show _/\_;rw[a];exact⟨.dk h,q _ h g3 p (It2.mk m) (It2.mk n) i λc o e=>g .uD⟩
end
/---/def Itm(La Lb:Bool)(K:zCM)(a b:Addr):It :=
 ⟨λi H=>∃xs ys x y,.zs La/\.Ya/\.Bg/\ys[i]?=.gU,.HG<|∃q v u,x=.d q/\.b9 q/\H'=.dP q (.E [v,u])/\(∀xs,.zs La->.mR xs)/\∀ys,.Ya->ys[i]?=.bL,λi H=>∃xs ys,.zs La/\.Ya/\min xs.length ys.length=i⟩
theorem OK{K:zCM}(z TI TO j l a b:Addr)(Z:ZipApart z TI TO j l a b):
  Eu P w K (.u7 elts) (Itm La Lb K a b) .Za z (λi h=>.Cw h .none/\.ix h TI (.d j) .hK/\(∃x y,.ix h TO x y)/\It2 La h j a i/\It2 Lb h l b i) where
 mem:=.f
 obj:=λi h B c g=>by
  rw[.apl .zS];refine D ?_;have f:.akN:=.qU
  rcases f with rfl|rfl|rfl|rfl|rfl
  ·exact .bP N (λv e=>by
    have t:.T4:=e;cases t)
  ·exact .bP J (λv e=>by
    have t:.alG:=e;cases t)
  ·exact .bP M (λv e=>by
    have t:.alG:=e;cases t)
  ·exact O.obj
  ·exact L.obj
 keep:=λi h h' B p=>by
  rw[.apl .zS];rw[.cX D ⟨p z .f _ N,p TI .f _ J,⟨x,y,p TO .f _ M⟩,O.at λo e=>p j .f o e,L.at λo e=>p l .f o e⟩]
 item:=by
  rw[.ahb];rw[.apg .zS];obtain⟨xs,ys,x,y,A,C,hx,hy⟩:=hg;obtain⟨F,R,p1,a3⟩:=qR I A;obtain⟨G,Q,p2,a5⟩:=qR I C;obtain⟨u,hu,ru⟩:=R.get hx;obtain⟨v,hv,rv⟩:=Q.get hy;refine D ?_;have T1:.ow La a F.toArray:=p1;have T2:.ow Lb b G.toArray:=p2;have ld:=λc (h:c∈[z,TI,TO,j,l])=>S c h;refine E3 Z N J M O L T1 T2 (by simpa using hu) (by simpa using hv) λh' az aO a1 a2 aN a6 p=>.dz (wpAny_letOwnedTupleGo_zip az λh2 a4 W=>?_);have zl:.eH z:=zAR N;have Il:.eH TI:=zAR J;have Ol:.eH TO:=zAR M;have l1:.eH j:=by obtain⟨_,e,_⟩:=O.obj;exact zAR e
  have l2:.eH l:=by obtain⟨_,e,_⟩:=L.obj;exact zAR e
  have U:.U5:=.qJ;have keep:∀c o,c∉.zO->.gw c->h2.get? c=.bb:=λc o g e=>by
   have f:.ajO:=.qU
   exact .i (W.2 c f.1) .ah4
  have nw:.ix h2 s.heap.objs.size u v:=.i (W.2 _<|wh zl) aN;have sub:∀c∈.zO,c∈.Za:=.adO
  have Y:.ix h2 TI (.d j) .hK:=keep TI _ (by simp;rw[.al Z.TIz Z.TITO Z.TIi1 Z.TIi2]) J;refine⟨.jQ,.x8<|.E [x,y],?_,rfl,⟨_,x,y,rfl,U,rfl,λzs T=>by rw[ES I T A];exact hx,λzs T=>by rw[ES I T C];exact hy⟩,
   ⟨a4,Y,.bP _<|.i (W.2 _ Z.TOz) aO,(a1.at λo e=>.i (W.2 _ Z.i1z) e),(a2.at λo e=>.i (W.2 _ Z.i2z) e)⟩,λc g=>?_⟩
  ·suffices I2:.rU (.x8<|.E [x,y]) { s with heap:=h2,gens:=s.gens,drawn:=s.drawn,toks:=s.toks } from I2
   have a0:∀c V,H c=.a V->c∉.zO:=λc V e q=>.Gx<|(S c<|sub c q).1
   refine .IV (t':=s.toks) (ch:=.zO) (λc g=>?_) (λc o _ _ g q _=>.ZJ) (λc o _ _ g q _=>.rK .ZJ) (λc o _ q n=>?_) (λc o g q=>.fz .ZJ)
    (λc zs q=>?_) (λc o V q=>?_) (λc ps q=>.c4 #[]) (λm hm=>?_) (λc V q=>?_) I.bare
   ·have:=S c (sub c g)
    exact⟨this.2.2.2.1,this.2.1,(.nK this).1,(.nK this).2⟩
   ·rw[aK<|.sp q];exact n
   ·rw[.vX U];exact q
   ·rw[.vX U];exact q
   ·rw[.vX U,q];simp
   ·rw[.j .zS];obtain⟨o,es,ep,ho,r⟩:=hm;refine D ?_
    exact⟨o,es,ep,keep _ o (λq=>(S _<|sub _ q).2.1 rfl) ho,r⟩
   ·by_cases hb:.L6 c
    ·subst hb
     rw[.db aR];exact⟨.akP,[u,v],.bn ru<|.jo rv,_,nw,rfl,_,rfl⟩
    ·rw[aK hb]at q
     refine(.rM c V q).stay (λd v' hd' e=>?_) (λd e=>.yc<|cM e U) λd zs e=>.yc<|cM e U
     rcases hd' with t|t
     ·subst t;exact keep d v' (a0 d _ q) e
     ·exact keep d v' (a0 d _ t) e
  ·have f:.akN:=.qU
   have:.xO c:=by rcases f with e|e|e|e|e<;>rw[e]<;>exact zBM (by assumption)
   rw[aK this];exact(S c g).1
 done:=by
  rw[.ahb];rw[.apg .zS];obtain⟨xs,ys,A,C,hi⟩:=hg;obtain⟨F,R,p1,a3⟩:=qR I A;obtain⟨G,Q,p2,a5⟩:=qR I C;refine D ?_;have T1:.ow La a F.toArray:=p1;have T2:.ow Lb b G.toArray:=p2;have e1:=R.length;have e2:=Q.length;have nd:F.toArray[i]?=none\/G.toArray[i]?=none:=by
   rcases .OQ xs.length ys.length with h|h
   ·rw[.O (.UU .bz)]
   ·rw[.P (.UU .bz)]
  have sub:∀c∈.zO,c∈.Za:=.adO
  refine Hm (.ip g) Z N J M O L T1 T2 nd λh' p=>.co (VE (t':=s.toks) (ch:=.zO) I (λc o g e=>?_) λc g=>S c<|sub c g);have f:.ajO:=.qU
  exact .ah4
 self:=λ_ _ _ _ _ B h=>wpAny_pyIter_zip B.1 h
section
variable{X:Cx}{pos p tp:Pos}{elts:List Expr}{tk:Nat}
/---/def iZm(K:zCM)(ta:TA):TI:=.nL<|.Fu<|∃La Lb a b xs ys,vs=[.z,.hL]/\SqM La K H1 a xs/\SqM Lb K H1 b ys/\(.iV->.ET->R (Itm La Lb K a b) H1)
def VG(hg:.b3 "zip")(W:.bX "zip")(U:PA X [a,b] C)(O:autoParam (.Kx) Q3Q._auto_1)(i:autoParam (.Nz) Q3Q._auto_1):.Q4 PI (.L7 "zip") (.fA iZm):=by
 intro pins s σ H R I h;rw[.I (Call_ (pH I hg W PyProof.Rows.boot_zip (zYg (.um U λus d E=>?_) (.L O i)<|.aE i))) .kb];obtain⟨vs,z,g,F,q1⟩:=E;obtain⟨La,Lb,j,k,xs,ys,e,l,n,q⟩:=q1;refine o ?_;subst e;cases F with
 |cons r u =>
  cases u with
  |cons J u =>
   cases u;cases r;cases J;rw[.j .kb];obtain⟨t,T,N,m⟩:=qR g l;obtain⟨v,M,G,w⟩:=qR g n;refine o ?_;have A:Sq2 La d.heap j t.toArray:=N;have y:Sq2 Lb d.heap k v.toArray:=G;have la:j<d.heap.objs.size:=A.lt;have lb:k<d.heap.objs.size:=y.lt;rw[.cN (OJ A y λx B Y Q V D P S=>?_) (wpAny_pyIter_zip (s:={ d with heap:=x }) B ?_)];have L:.aP z { d with heap:=x }:=g.kept (t':=d.toks) S;have Z:ZipApart (.k2 4) (.k2 2) (.k2 3) d.heap.objs.size .s9 j k:=by
    constructor<;>dsimp[Addr] at *<;>lia
   refine⟨.k2 4,[.k2 4,.k2 2,.k2 3,d.heap.objs.size,.s9],_,_,z,rfl,L,.cd OK _ j k Z,⟨B,Y,.bP _ Q,V,D⟩,λc K=>?_,q m w⟩;have f:d.heap.objs.size<=c:=by
    have:c=.k2 4\/c=.k2 2\/c=.k2 3\/c=d.heap.objs.size\/c=.s9:=.XH
    rcases this with e|e|e|e|e<;>rw[e]<;>first|exact zWa _ _|exact zBK _
   exact g.fpOk f (g.hok.fresh f)
theorem OL{K:zCM}(L:.ail<|em g l hd'->∃vs,SqM La K a q vs/\RDs K ρ' a l vs)(I:.ail<|em g' e hd'->∃vs,SqM Lb K a J vs/\RDs K ρ' a e vs)(S:.S l.length):
  .bT uZ (Itm La Lb K q J) (.Jj e) (λh=>em g l h/\em g' e h) where
 go:=λρ' a hd' i d m s k Q=>by
  obtain⟨r,B⟩:=z0.mp Q;have P:.iZ:=by simp at r;lia
  have u:i<e.length:=by simp at r;lia
  have R:d=.E [l[i],e[i]]:=.iW B
  subst R;rw[.j .oN];obtain⟨vs,t,z⟩:=.NU L k.1;obtain⟨b,c,f⟩:=.NU I k.2;obtain⟨v,C,O⟩:=.jE z.get (d:=l[i])<|.k P;obtain⟨G,j,A⟩:=.jE f.get (d:=e[i])<|.k u;rw[.eR (n ?_) ⟨⟨vs,b,v,G,t,c,C,j⟩,λx T y=>?_⟩ .oN];obtain⟨q2,U,V,rfl,N,rfl,y,M⟩:=y;refine n ?_;have F:=y vs t;have E:=M b c;rw[C]at F;rw[j]at E;cases F;cases E;have w:=.oA [v,G] N;rw[.fQ w];dsimp[RD];exact .bh q2 _ aR<|.lb (O.mono<|.lL w)<|.rL<|A.mono<|Kp.same w
 stop:=λρ' a hd' m s k=>by
  rw[.j .oN];obtain⟨vs,t,z⟩:=.NU L k.1;obtain⟨b,c,f⟩:=.NU I k.2;rw[.cX n ⟨vs,b,t,c,by rw[<-z.length,<-f.length];simp⟩]
 sz:=.bz
def Hn{K:zCM}(r:.cE)(i:.cU)(e:lq hd d=.a (l,g)):
  ∃(L:Bool) (q:Addr),v=.d q/\(∃vs,SqM L K H q vs/\.dp)/\∀ρ' f hd',.gp f->RH K ρ' f hd'->em g l hd'->∃vs,SqM L K f q vs/\RDs K ρ' f l vs:=by
 cases d<;>dsimp[lq]at e<;>try (rw[.eX])
 ·cases e
  dsimp[RD]at i;obtain⟨q,vs,rfl,b,a⟩:=i;exact .bh false q ⟨vs,.d7 b,a⟩ (.ahk<|.d7<|.aav h b)
 ·rename_i n
  cases c:hd[n]? with
  |none=>rw[.bO]
  |some cell =>
   rw[.dL];cases cell with
   |dct _=>cases e
   |dcT _=>cases e
   |ob _=>cases e
   |lst w =>
    cases e;dsimp[RD]at i;obtain⟨q,b,rfl⟩:=i;obtain⟨vs,s,a⟩:=r.cel n _ q c b;refine .bh true q ⟨vs,.e4 s,a⟩ λρ' f hd' h m x=>?_;obtain⟨o,k,j⟩:=m.cel n _ q x<|h.get b;rw[.ci (.e4 k) j]
 ·rename_i c w
  split at e
  ·rename_i u
   cases e;dsimp[RD]at i;rcases i with ⟨t,_⟩|⟨_,q,vs,rfl,b,a⟩
   ·exact .B u t
   ·exact .bh false q ⟨vs,.F b,a⟩ (.ahk<|.F b)
  ·cases e
/---/def MP(K:zCM)(ρ:.am)(H:Hp)(σd:Sd)(σ:St)(f g:EF)(hd:Hd)(R:.di It):Prop:=match .hh with
 |.ok x h1=>match g σd h1 with
  |.ok y h2=>match lq h2 x,lq h2 y with
   |some (l,o),some (k,o')=>∀J H' ρ',.dC->.Jd h2->.gt uZ J (.Jj k) (.CQ o')->R J H'
   |_,_=>False
  |_=>False
 |_=>False
/---/def abP(K:zCM)(f g:EF):TI:=.nL<|.mV<|.vk MP f g hd R
/---/def MIZ(X:Cx)(tg e:Expr)(f g:EF):Prop:=.nA e<|abP X.K f g
def E5(hg:.b3 "zip")(Y:.bX "zip")(W:.bq f)(Q:.fJ g)(G:autoParam (.Kx) Q3Q._auto_1)(i:autoParam (.Nz) Q3Q._auto_1):.Q4 MIZ (.L7 "zip") f g:=by
 rw[.I (PI.imp (VG hg Y (cD W (.d9 Q i)<|.L G i) G i) λσ H R M=>?_) λ_ C=>?_];obtain⟨ρ,σd,J,S,c⟩:=M;rw[.eW C J S];unfold MP at c;cases e:.gZ J with
 |exc x K=>rw[.gl e]
 |bad=>rw[.gl e]
 |ok d j =>
  rw[e]at c;simp only at c;intro v H1 z t m B;refine .bv z j m ?_;cases u:g σd j with
  |exc x K=>rw[.gl u]
  |bad=>rw[.gl u]
  |ok T r =>
   rw[u]at c;simp only at c;intro v2 O F n h A;have B:=RD.mono (m.hp.kp n) B;cases s:lq r d with
   |none=>rw[s]at c;rw[.bK]
   |some U =>
    obtain⟨l,o⟩:=U;cases E:lq r T with
    |none=>rw[s,E]at c;rw[.bK]
    |some N =>
     obtain⟨k,o'⟩:=N;rw[s,E]at c;simp only at c;rw[.j λ_ C=>?_];obtain⟨La,q,rfl,⟨Z,sq,w⟩,w1⟩:=Hn h.hp B s;obtain⟨Lb,q',rfl,⟨y,D,I⟩,V⟩:=Hn h.hp A E;rw[.cX C ⟨La,Lb,q,q',Z,y,rfl,sq,D,λP L=>c _ O F (t.trans n) h<|OL w1 V<|.p w.length P⟩]
end
section
variable{X:Cx}{pos:Pos}{tg:Expr}
end
end Fm
namespace Fm
open PySem PySem.Spec L2 PyProof.Rows
section
variable{X:Cx}{pos:Pos}{scope:Scope}{own capn:List Str}{caps:List Nat}
end
end Fm
namespace Fm
/---/def aW:O2:=.dZ<|match x,y with
 |.str a,.str b=>.cZ (.bt<|a.length+b.length) (.ib<|a++b)
 |_,_=>.bad
/---/def abQ:O2:=.dZ<|match x,y with
 |.str a,.int i=>.cZ (.bt a.length) (.apr (ixN a.length i) (a[j]?) (.ib [c]) .bad .bad)
 |_,_=>.bad
/---/def RJ(a b:EF):EF:=aj abQ a b
/---/def MR(a:EF):EF:=.cF<|match x with
 |.str l=>.gI .m4 (.e l.length)
 |_=>.bad
/---/def OM:O2:=.dZ<|match x,y with
 |.str [c],.str l=>.aY (.D<|c∈l)
 |_,_=>.bad
noncomputable def Kl(l:.g):.X->.X->.as .g
 |none,some j=>.m9 (0<=j/\.h5 j)<|.b0 l.take j.toNat
 |some i,none=>.m9 (0<=i/\.h5 i) .anF
 |_,_=>none
/---/def zG(a:EF)(lo hi:OF):EF:=.Kb<|match x with
 |.str l=>.adS Kl
 |_=>.bad
/---/def AA(a:EF):IF:=.cF<|match x with
 |.str l=>.gI .akj (.pG,none)
 |_=>.bad
/---/def RK(n i:Nat)(cs:.ai String)(b:SF):SF:=.ax<|match .jN with
 |.nx σ' h'=>.sK
 |.exc (.exn c []) _ h'=>.cZ (c∈cs) .ajU
 |_=>.bad
noncomputable def isX(tb:.yS):D->.py
 |.exn c _=>.v3 c
 |_=>none
/---/def sT(tb:.yS)(a:EF):EF:=.cF<|.DG<|isX tb x
noncomputable def o3:.m->.as .A
 |[]=>.sW
 |.str x::r=>.bD o3 r (x :: ·)
 |_=>none
/---/def MU(a:LF):EF:=.uw<|match o3 l with
 |some ss=>.gI (.bt .Vp) (.h ss.flatten)
 |none=>.bad
end Fm
namespace Fm
open PySem PySem.Spec L2 PyProof.Rows
section
variable{X:Cx}{pos p:Pos}
theorem AB{K:zCM}{ρ:.am}{H:Hp}:∀{l:.m} {vs:.R} {ss:.A},.dp->o3 l=.a ss->vs=.Sr
 |[],_,is,r,e=>.Q7 o3
 |d::l,_,is,r,e=>by
  rw[.VW RDs];cases d<;>dsimp[o3]at e<;>try (rw[.eX])
  rename_i i
  cases c:o3 l with
  |none=>rw[.bO]
  |some b =>
   rw[.bO];rw[.Ig];rw[h1,AB a c];rfl
def vk:∀{ss:.A} {us:.H},.g1 .Sr->StrsAre us .Ho:=by
 intro ss
 induction ss with
 |nil=>intro us h;cases h;exact .nil
 |cons x ss a=>intro us h;cases h with|cons r t=>obtain⟨k,rfl⟩:=r;exact .bn _ _ (a t)
def pQ(a b:.g):(toS a++toS b:Str)=toS (a++b):=by
 show (⟨a.toArray++b.toArray⟩:Str)=⟨.eZ<|a++b⟩;rw[List.append_toArray]
theorem Ho:∀ss:.A,.Nu [] .Ho=.YT
 |[]=>rfl
 |[x]=>by rw[zYr,List.flatten_nil,X1];rfl
 |x::y::r=>by
  have a:=Ho<|y::r;show toS x++toS []++.Nu [] ((y::r).map toS)=_;rw[a,pQ,pQ,X1,<-List.flatten_cons]
def Hq(ss:.A):Txt.join (toS []) .Ho=.YT:=.aiN<|Ho ss
/---/def abR(K:zCM):.sU:=.wN<|∃(q:Addr) (ss:.A),x=.kh []/\.ads (.bt .Vp/\.nD .YT)
def VH:MtR X "str.join" (abR X.K):=by
 intro pins s σ H x y v o Q I l n h;obtain⟨q,b,rfl,rfl,c,w,f⟩:=h;obtain⟨t,rfl⟩:=l;obtain⟨u,rfl,j⟩:=n.one;cases (show .d8 q from j);have g:.afJ []:=by
  have:.Rn=b.map (·.length):=.aec
  rw[.a9];show _+_*0<=_
  lia
 rcases c with c|c
 ·obtain⟨d,r,i,_⟩:=.e3 c
  exact .alK .adV
 ·obtain⟨_,d,r,m⟩:=.iD q c
  exact join_tuple m .Tf g .adV
def VI{apos cpos p1:Pos}(s:x=toS [])(he:MQ X e L)(b:autoParam (.afE) Q3Q._auto_1)
  (d:autoParam ((.BC
   && .t1 e)=true) Q3Q._auto_1)
  (a:autoParam (.kd) Q3Q._auto_1) (k:autoParam (.z6) Q3Q._auto_1) :
  .aeC (MU L):=by
 rw[.I (.ab5 VH) .dR];obtain⟨ρ,σd,z,t,n⟩:=g;rw[.eR (f ?_) ⟨rfl,ρ,σd,z,t,.aq n λv A g=>?_⟩ .dR];rw[.apd (f ?_)];subst m;cases c:o3 l with
 |none=>dsimp[c]at p1;rw[.B3]
 |some o =>
  dsimp[c]at p1;split at p1
  ·rename_i r
   have e:=AB h c;rw[.qv .afO]
  ·rw[.B3]
end
end Fm
namespace L2
open PySem PySem.Spec PyProof.Rows
/---/def Its(x:Str):It:=⟨λi _=>i<x.cps.size,λi H v H'=>H'=H/\∃c,x.cps[i]?=.a8/\v=.h .fD,λi _=>x.cps.size<=i⟩
theorem RL{K:zCM}(it:Addr)(x:Str)(t:Tok):.K0 (Its x) (λi h=>h.IsStrIter it "str_ascii_iterator" x t i) where
 mem:=.f
 obj:=λi h a b f=>by
  have e:b=it:=.Ej
  subst e;obtain⟨o,e,c,d⟩:=a;rw[.ci e .Vd]
 keep:=λi h u a k=>let ⟨o,L,r⟩:=a;⟨o,.iv k o L,r⟩
 item:=by
  rw[.ahh];rw[.te];obtain⟨D,p,M,n,C,m⟩:=.iv l;refine y ?_;have g:i<x.cps.size:=g;have G:x.cps[i]?=some x.cps[i]:=Array.getElem?_eq_getElem g;refine wpAny_pyNext_ascii_item a G λu j N=>?_;have O:.gY { s with heap:=u,toks:=s.toks+1 }:=.ajD<|.i (N.2 b f) e;obtain⟨o,e,c,d⟩:=id j;exact .dz<|Ml e c d .c ⟨.h ⟨#[x.cps[i]]⟩,H,O,.K,⟨rfl,_,G,rfl⟩,j,λb f=>(l b f).1⟩
 done:=by
  rw[.ahh];rw[.te];obtain⟨D,p,M,n,C,m⟩:=.iv l;refine y ?_;have g:x.cps.size<=i:=g;exact wpAny_pyNext_ascii_end (.ip F) a (.UU g) λu J=>.co<|.ajD<|J b o f e
 self:=λ_ _ _ _ _ a h=>wpAny_pyIter_striter_ascii a h
section
variable{X:Cx}{tg:Expr}
def Zl{f:TE}(g:.af l f):.nA l (.nL (.aU f λv a=>∃x:Str,v=.h x/\x.cps.all (· < 128)=true/\R (Its x) a)):=by
 intro pins s σ H R I h;rw[.I (.dw g λv d j=>?_) .i2];obtain⟨y,a,c,k,q1⟩:=j;obtain⟨x,e,m,q⟩:=q1;subst e;obtain⟨t,rfl⟩:=k;rw[.da i (wpAny_pyIter_ascii m ?_)];refine⟨d.heap.objs.size,[d.heap.objs.size],_,_,a,rfl,c.kept .vB,RL _ x t,.rb .ds,λb n=>?_,q⟩;have e:b=d.heap.objs.size:=.MH
 rw[.d3 .Tz]
end
end L2
namespace Fm
open PySem PySem.Spec L2 PySem.W PyProof.Rows
section
variable{X:Cx}{pos p:Pos}{tg:Expr}
def E6:.S (1000000:Nat):=.sj
theorem RM{K:zCM}(l:.g)(k:.m4):.bT Ap (.ja Its) .pG none where
 go:=λρ' g hd' i d h j _ f=>by
  have a:.iZ:=by
   rw[.s4 f]
  refine⟨by show i<(l.toArray).size;rw[.ap UC a],λx m y=>?_⟩;obtain⟨rfl,c,b,rfl⟩:=y;have b:l[i]?=.a8:=by
   have:l.toArray[i]?=.a8:=b;simpa using this
  have e:d=.h [c]:=by
   rw[zBP,b]at f;exact .zu f
  rw[.qv ⟨.zT,by dsimp[RD];rfl⟩]
 stop:=λρ' g hd' h j _=>by
  show (l.toArray).size<=_;simp
 sz:=by
  have:=E6;simp;lia
def Km(h:.iK):.lU e (AA f):=by
 rw[.I (PI.imp (Zl h) λσ H R q=>?_) .kb];obtain⟨ρ,σd,g,m,p⟩:=q;rw[.eW o g m];unfold AA at p;cases e:.gZ g with
 |exc x r=>rw[.br]
 |bad=>rw[.br]
 |ok d n =>
  rw[.vM e aE];intro v k b a c j;cases d<;>try rw[.bC]
  rename_i l
  simp only at p;dsimp[rD,RD]at j;split at p
  ·rename_i i
   exact⟨toS l,j,by show (l.toArray).all (· < 128)=true;rw[List.all_toArray];exact i.2,p _ k b a c<|RM l i.1⟩
  ·rw[.bC]
/---/def abS:R2:=.dJ<|∃i j:Str,.adC
def gL(a:.g):.wg (.ad toS a):=by
 show a.toArray.size=_;rw[UC]
def VJ{K:zCM}:Og K aW abS:=by
 intro ρ H σd i σ d k v w Q h f e c;cases d<;>try rw[.bK]
 cases k<;>try rw[.bK]
 rename_i a b
 dsimp[RD]at f e;dsimp[aW]at c;split at c
 ·rename_i g
  refine⟨toS a,toS b,f,e,by rw[gL,gL];exact zBL g E6,?_⟩;rw[pQ];exact c.here h .eJ
 ·rw[.bK]
def bj(e:.bq d)(f:.fJ c):.aL (.EN .Add) (.ck d c):=bF JP VJ e f
def Zm(r:.bq n)(h:.fJ o)(u:uU b):.t7 b (RJ n o):=by
 refine .Lo (Mr QS r h u) λρ H σd x σ d k v w Q t q g f=>?_;cases d<;>try rw[.eS]
 cases k<;>try rw[.eS]
 rename_i l i
 dsimp[RD]at q g;dsimp[abQ]at f;split at f
 ·rename_i h
  cases e:.pl ixN i with
  |none=>rw[.ji e]
  |some j =>
   rw[e]at f;simp only at f;cases m:l[j]? with
   |none=>rw[.ji m]
   |some c =>
    rw[m]at f;refine⟨toS l,i,c,q,g,.CD h,?_,f.here t .tK⟩;have s:.ahW=.e6:=by
     have:.Lk=l:=rfl;rw[.ap this e]
    show (.ahW).bind _=_;rw[.ap s m]
 ·rw[.eS]
def VL(k:.b3 "len")(h:.bX "len")(g:.bq c)(f:autoParam (.hk) Q3Q._auto_1):.ke "len" (MR c):=by
 refine Dq (G0 EE k h PySem.boot_len (he:=f)) g (λρ H σd m σ d v Q j e b=>?_) f;cases d<;>try rw[.u]
 rename_i l
 dsimp[RD]at e;rw[.lD]
 ·rename_i i
  refine⟨toS l,.bA e,.CD i,?_⟩;rw[gL];exact b.here j .eJ
 ·rw[.u]
def Zn(l:.g)(c:Nat):(!(.ja Builtin.Str.occurrences (toS [c]) 0 (.ad toS l) 1).isEmpty)=.D (c∈l):=.ja StrLaws.found_one c
def Zo{K:zCM}:Og K OM (.dJ<|∃i j:Str,.acL):=by
 intro ρ H σd m σ d k v w Q g f b e;cases d<;>try rw[.ta]
 rename_i a
 rcases a with _|⟨c,_|⟨h,r⟩⟩
 ·rw[.ta]
 ·cases k<;>try rw[.ta]
  rename_i l
  dsimp[RD]at f b;refine .g4 (toS [c]) (toS l) f b;rw[Zn];exact e.here g .eJ
 ·rw[.ta]
def Zp(e:.bq d)(g:.fJ c)(f:.xL .In):.aL (.Ez .In) (aj OM d c):=gH Ot Zo e g f
end
end Fm
namespace L2
open PySem PySem.Spec PyProof.Rows PySem.W PySem.Builtin PySem.Builtin.ObjectAttr PySem.Builtin.Getset_descriptor
structure qU(K:zCM)(D:Addr):Prop where
 ga:PySem.W.findIn K (.ref D) "__getattribute__"=some (some (.builtin "BaseException.__getattribute__"))
 gt:PySem.W.findIn K (.ref D) "__getattr__"=some none
 cl:PySem.W.findIn K (.ref D) "__class__"=some (some (.builtin "object.__class__"))
 be:PySem.W.subIn K (.ref D) (.type "BaseException")=some true
 ob:PySem.W.mroIn K D (.type "object")=some true
 is:(PySem.W.clsIn K D).isSome=true
section
variable{prog:P6}{w:P7}{A:R3}{E:R0->R1->Prop}{K:zCM}{D:Addr}{h:Heap}{g:Array GenState}{d:Drawn}{t:Nat}{os:OsState}{a:Addr}{o:Obj}{vs:Array R0}
def qF.type(I:.i0):PySem.W.Looks M h (typeOf .z) (.d D):=I.cls▸.amd I.at_ .now
def Zq(X:.fC)(I:.i0)(k:.qG D)(e:.rd (.d D) .fY):
  .ua A (.call (.oi "getset_descriptor.__get__")<|.dh [.S3,.z,j]) R .fY:=by
 have b:.agz := F.typeOf_object_class;have c:=.uj;have i:=PySem.W.looks_mroIn (M:=.qz) X k;refine zVm F.slot_gs_get.plain F.entry_gs_get (.cd F.slot_gs_get.check _ _ _ _ b (.aC F.args_gs_get) ?_);unfold Builtin.«getset_descriptor.__get__» descrGet;rw[PySem.W.dga_obj];refine .wJ;unfold descrGetter descrCheckInstance descrNameAndClass isInstance;dsimp[KF.owner_class]
 repeat (first|with_reducible refine c.at ?_|with_reducible refine i.at ?_|lk)
 refine⟨.U4 .ac,codeAny_builtin F.entry_object_class ?_⟩;unfold Builtin.«object.__class__» shownTypeOf
 repeat (first|with_reducible refine c.at ?_|lk)
 exact e
def RN(Z:qU K D)(X:.fC)(I:.i0)(i:Q (.FU<|.d D) .fY):
  .ado "__class__":=by
 have c:=.uj;have b:=.EC Z.cl;have e:.agz := F.typeOf_object_class;have f:=F.typeOf_object_class;have k:=F.slot_gs_get.lookup;have j:=F.slot_gs_set.lookup
 repeat (any_goals (first|assumption|with_reducible refine c.at ?_|with_reducible refine b.at ?_|wp_step))
 refine Zq X I Z.ob ?_
 repeat (any_goals (first|assumption|wp_step))
def Hr(Z:qU K D)(X:.fC)(I:.i0)(e:Q () .fY):
  .BE (.Ii checkBuiltinCall<|.dh [.z,b]) Q E .fY:=by
 have i:.Ii builtinKind=.a .slot:=.ac
 have c:.Ii splitId=.a ("BaseException","__getattribute__"):=.ac
 have k:=F.args_bexc_ga .z b;have j:=I.type (M:=M);have f:=.TA Z.be;dsimp[checkBuiltinCall,i,c];refine zF ?_;unfold isInstance
 repeat (first|with_reducible refine j.at ?_|with_reducible refine f.at ?_|wp_step)
 exact e
def VM(Z:qU K D)(X:.fC)(I:.i0)(b:.rd (.d D) .fY):
  .afx "__class__" :=
 .aev<|Hr Z X I<|RN Z X I b
def abT{c b:Bool}(Z:qU K D)(X:.fC)(I:.i0)(l:.iU D .fY):
  .an7 "__class__":=by
 have m:=.ai9;have i:.ams:=by cases b<;>rfl
 have e:.c1 .I3 .QY:=.ac
 have f:.ahH:=.aE e
 have k:=.uj;have j:=.EC Z.ga;have L2:=.EC Z.gt
 repeat (any_goals (first|assumption|with_reducible refine k.at ?_|with_reducible refine j.at ?_|with_reducible refine L2.at ?_|wp_step))
 refine VM Z X I ?_
 repeat (any_goals (first|assumption|wp_step))
def VN{Q:.eK (.as R0)}(Z:qU K D)(X:.fC)(I:.i0)(b:Q (.t D) ⟨h,g,d,t+1,os⟩):
  .vQ (getAttr? .z "__class__"):=by
 unfold getAttr? getAttrBy?
 repeat (any_goals (first|assumption|with_reducible apply abT Z X I|wp_step))
theorem Zr(Z:qU K D):PySem.W.KitX K .z (.d D) (λh=>∃o,.i0) where
 ty:=λ_ _ _ ⟨o,I⟩=>I.type
 it:=λ_ _ X _=>by
  obtain⟨m,b⟩:=.qj Z.is;rw[.VX]
  ·rename_i i j cd' sl' f
   intro B v u x k q;unfold isType loadHead;exact zF (wpAny_loadPart (k _ _<|X _ _ f)<|xU q)
  ·cases b
 ne:=λh p y l n r X c=>by
  obtain⟨m,b⟩:=.qj Z.is;refine Bool.eq_false_iff.mpr λq=>?_;have e:D=p:=Value.ref.inj<|.yV q;subst e;rw[.VX]
  ·rename_i i j cd' sl' f
   have z:=.lr (X _ _ f) c;cases z
  ·cases b
 ca:=λ{_ _ _ _ _ s} X ⟨o,I⟩ k=>by obtain⟨h,g,d,t,os⟩:=s;exact VN Z X I k
def Hs(X:.fC)(I:.i0)(q:.QQ D (.d B)=.cO)(k:.pf B)
  (j:.oT<|.kl K B) (n:.CA<|.d B) (c:Q true .fY):.BE (excMatches .z<|.d B) Q E .fY:=by
 have l:=I.type (M:=M);have e:=.TA q;have L2:=.TA k;have p:=PySem.W.looks_typeIn (M:=M) X n;have f:=tc_notTuple;obtain⟨u,b⟩:=.qj j;rw[.VX]
 ·rename_i r s cd' sl' m
  have i:=X _ _ m;unfold excMatches
  repeat (first|with_reducible refine l.at ?_|with_reducible refine e.at ?_|with_reducible refine L2.at ?_|with_reducible refine p.at ?_|with_reducible refine zXs i ?_|wp_step)
  exact c
 ·cases b
end
end L2
namespace L2
open PySem PySem.Spec PyProof.Rows
section
variable{P:P6}{w:P7}{H:Hp}{h:Heap}{a:Addr}{o:HO}
def gC.obj(x:.mS o):∃ob,.nd ob:=by
 induction o with
 |lst c=>obtain⟨_,_,_,_,e⟩:=x;exact .jL
 |tup c=>obtain⟨_,_,_,ob,e,_⟩:=x;exact .jL
 |dK kvs=>obtain⟨_,_,_,_,o,_,_,e,_⟩:=x;exact .jL
 |dT kvs=>obtain⟨_,_,_,_,o,_,_,e,_⟩:=x;exact .jL
 |set S n=>obtain⟨o,_,_,_,e,_⟩:=x;exact .jL
 |ins C j b=>obtain⟨_,_,_,e,_⟩:=x;exact .jL
 |own y=>obtain⟨_,e⟩:=x;exact .jL
 |xd b=>obtain⟨_,⟨ob,_,_,e,_⟩,_⟩:=x;exact .jL
 |rng g d=>obtain⟨_,_,_,e⟩:=x;exact .jL
 |frz ob u i=>obtain⟨e,_⟩:=x;exact .jL
 |tbl k=>exact .cn x
 |met f y=>exact .cn x
 |ext φ=>obtain⟨_,⟨ob,e⟩,_⟩:=x;exact .jL
end
structure Cov(X:Cx)(pins:List (Addr × Obj))(H:Hp)(B:Heap):Prop where
 trk:∀b u,H b=some u->∃o,B.get? b=some o
 old:∀b o,X.s₀.heap.get? b=some o->b∉frs X.stack->b∉X.ex->∃o,B.get? b=some o
 pin:∀p∈X.pn++pins,∃o,B.get? p.1=some o
section
variable{X:Cx}{pins:List (Addr × Obj)}{σ:St}{H:Hp}{s:R1}{B h':Heap}
def Inv.flown(I:.n)(P:.dx B.StaysIn)(R:B.StaysIn h')(D:.IC)(c:.uR)(t':Nat):.oR H:=by
 have same:.cJ ((∃u,B.get? b=.bL)->.yh):=λb o ⟨u,e⟩ q=>by
  rw[.hu (P b u e) q];exact R b _ e
 have t:.cJ (.CL->b∉X.fs->b∉.oL):=λb o e a T=>by
  rcases .ue T with z|z
  ·exact .B z .tC
  ·exact a z
 have y:.cJ (b∈X.fs->.gw b->∃A,.hb b=.a { o with slots:=A }):=λb o a e=>by
  obtain⟨_,C,j,E⟩:=I.funs.mem a;rw[e]at j;cases j;exact .bs D E
 have f:∀c v,.aib:=λc v O=>by
  obtain⟨o,N,K⟩:=O;obtain⟨A,q⟩:=D c o N (λU z=>by rw[.fh K]);exact .bP q K
 refine⟨I.ok,I.os,I.bare,⟨λb o e n a g=>?_,λb o e n a g=>?_,I.base.free,λb o e g=>?_,I.base.tups,I.base.frzs,I.base.tbls⟩,?_,.sC ?_,I.free,I.freeC,λp J=>?_,.wF,I.len⟩
 ·exact .ajT o (.Ea a g)
 ·obtain⟨A,h⟩:=.D6 a g
  obtain⟨F,w⟩:=y b _ a h;rw[.o F w]
 ·obtain⟨C,h⟩:=.ub g
  by_cases a:b∈X.fs
  ·obtain⟨A,w⟩:=y b C a h;exact .cn w
  ·rw[.o C (.ajT C h)]
 ·obtain⟨m,Q,L⟩:=I.loc
  refine⟨m,D.ns Q,λi x v h w M=>?_⟩;obtain⟨u,r,l⟩:=L i x v h w M;rw[.eD u r];rcases l with l|⟨k,c,e,z⟩
  ·rw[.O l]
  ·rw[.P ⟨k,c,e,f c _ z⟩]
 ·obtain⟨v,z⟩:=.Gn
  rw[.o v (f c v z)]
 ·obtain⟨e,n,ne,E,d⟩:=.hy J
  exact⟨same _ _ (c.pin p J) e,n,ne,E,d⟩
 ·refine .Sf λG v S q=>same G v ?_ q
  rcases S with z|z
  ·rw[z];exact c.trk b u e
  ·exact c.trk G _ z
/---/def XF(X:Cx)(E:.er)(e:R0)(s':R1):Prop:=.agh .VT
/---/def XAt(X:Cx)(pins:.bc)(σ:St)(H:Hp)(a C:Addr)(s':R1):Prop :=
 (∃s1 h' vs,.gY s1/\Heap.MadeExcOf s1.heap h' a .aJ vs/\s' = { s1 with heap:=h' })\/
 (∃B t,.gY s'/\.VT/\.uR)
/---/def XP(X:Cx)(E:.er)(e:R0)(s':R1):Prop:=∃pins σ H a C,e=.z/\.mt XAt H a C s'/\E C H
/---/def CX1(P:P6)(w:P7):CXT:=λouter H s E e s'=>∃a C B t H',e=.z/\.Vn (.WL/\
 .ab0 (.uP H'))
def XF.xp:.kU XF b->.kU XP b:=λf=>by obtain⟨pins,σ,H,a,C,B,t,d,I,g,c,q⟩:=f;exact⟨pins,σ,H,a,C,d,.F ⟨B,t,I,g,c⟩,q⟩
def abU(h:∀C H,.uP H->E' C H)(l:∀e c,XF X E' e c->R e c):og (.ha CX1) .w1 E:=by
 rintro pins σ H s e c I ⟨a,C,B,t,f,g,i,bare,r,hok,y,trk,old,q⟩;have d:=I.unwish;have u:.aP f c:=d.call' i r hok bare .Mr;refine l _ _ ⟨pins,σ,f,a,C,B,t,g,u,y,⟨trk,λb o e v w=>?_,λp m=>?_⟩,h C f q⟩
 ·obtain⟨k,x⟩:=.bs d.base.there w
  exact old b k x v
 ·obtain⟨e,n,ne,j,_⟩:=d.pin p m
  exact .Xf (.Dk d.stkSub j)
theorem RO(I:.n):.tr Cov H (.dx PySem.W.hideAll .oL) where
 trk:=λb u e=>by
  obtain⟨o,q⟩:=(.rM b u e).obj;refine .fz<|zYq _ q .gz;rw[.bd (I.stkFree b z)]
 old:=λb o e d c=>by
  obtain⟨h,f⟩:=.ub c;rw[.o h (zYq _ f d)]
 pin:=λp a=>by
  obtain⟨e,n,ne,g,_⟩:=.hy a;rw[.o _ (zYq _ e λz=>.Dk I.stkSub g)]
end
def bW{K:zCM}{f:Addr}{i:R0}{A:R3}{outer:.f9}{s:R1}{H:Hp}{E:XK}{e:R0}{r:R1}
  (h:XP (.xV i) (λC j=>.uP j) e r):(.xV i).xe e r:=by
 obtain⟨pins,σ,j,a,C,rfl,F,q⟩:=h;have fin:∀{s1:R1} {B:Heap} {g:Heap} {t:Addr},.uU (.xV i) j s1->B.StaysIn s1.heap->s1.heap.UpToSlots g->
   Cov (.xV i) pins j B->.my outer g->.aa8 outer H s E .z { s1 with heap:=g }:=by
  intro s1 B g t I D v c k;have J:=I.flown D k.1 v c s1.toks;refine⟨a,C,B,t,j,rfl,J.os,J.bare,J.base,J.hok,k,c.trk,λb o e n=>.R3,q⟩;rcases .ue z with y|y
  ·exact .B y .tC
  ·exact n y
 rcases F with ⟨s1,G,M,I,mk,rfl⟩|⟨B,t,I,k,c⟩
 ·have l:∀env∈(.y5 i),∀b,.EY b->b∈frs (.y5 i):=λenv u b n=>zYk.mpr ⟨env,u,n⟩
  rw[.eB (wpAny_leaves_madeW (I.ok.frames) rfl .XB (.aiF l) mk λg t m p L x=>?_) (fin (s1:=s1) I .XB (.a2 Heap.UpToSlots.of_keeps mk.keeps x) (RO I) m)]
 ·exact wpAny_leaves_onW I.ok.frames rfl k λg m p=>fin I k.1 p c m
section
variable{X:Cx}{E:Addr->Hp->Prop}{x:Str}{C:Addr}{bm:List R0}{B newId initId:String}{np cpos pos:Pos}{e₀:Expr}{rest:List Expr}{ta:TA}
/---/def Zt(C:Addr)(E:.er)(ta:TA):TS:=λ_ σ H=>.Fu<|.Nw/\E C H1
def RP(O:.TH x)(g:.qL bm)(o:.bB)(A:.bo)(y:PA .ZG .FD ta)(c:autoParam (.a5) Q1Q._auto_1)
  (he:autoParam (.bS .FD=.ef e₀::.bS rest) Q3Q._auto_1) (hpl:autoParam (.x6 rest=false) Q3Q._auto_1) :
  PS .ZG (.aeE .FD) (Zt C E ta):=by
 intro pins s σ H D I h;rw[.j .Px];obtain⟨l,N,nm,q,bs,hdct,sn,sub,ab,col,dd,k0,k1,k2,k3,k5,mN,v,k,b,T⟩:=O.obj;refine p ?_;have d:.x6 .FD=false:=by
  rw[he];show .cM<|false||.x6 rest;rw[hpl];rfl
 refine wpAny_Raise_call_subT (nm:=nm) (q:=q) (N:=N) (bs:=bs) (bm:=l) (hdct:=hdct) (sn:=sn) (sub:=sub) (ab:=ab) (col:=col) (dd:=dd) (k0:=k0) (k1:=k1) (k2:=k2) (k3:=k3) (k5:=k5) (mN:=mN)
  g (T.hasType g.hasBase) (.ip o) d b<|pG I A O.bound (.c4 rfl) c
 have i:=y cpos pins s σ H _ I h;have f:.Qy .FD (.ZG).env=.ef e₀::.bS rest:=he;rw[f]at i⊢;exact .WC<|zZd i (λw u m=>by obtain⟨F,n,a,r,q1⟩:=m;exact⟨rfl,.Qa<|q1.1,a.bk _ _ v,k.keeps a.bk,T.keeps a.bk,λj e t=>⟨pins,σ,n,e,C,rfl,.G ⟨u,j,w,a.unwish,t,rfl⟩,q1.2⟩⟩) .s7
end
section
variable{P:P6}{w:P7}{K:zCM}{mg:Str->Option R0}{base:Heap}
end
section
variable{X:Cx}{pins:List (Addr × Obj)}{σ:St}{H:Hp}{s:R1}
def Inv.exc(I:.n)(L:.my X.stack s.heap)(c:.uR):.aP .un s:=by
 obtain⟨K,O,g,A,i,_⟩:=L.first;have y:=L.2.1;have N:.b9 a:=by
  cases e:H a with
  |none=>rfl
  |some u=>obtain⟨o,q⟩:=c.trk a u e;rw[.db y]
 have w:a∉.oL:=λz=>by
  obtain⟨_,o,h,D⟩:=I.stack.mem z;rw[.hv g];exact D O i
 have j:.cJ (.CL->b∉X.ex->b≠a):=λb o e r z=>by
  subst z;obtain⟨U,q⟩:=c.old _ o e w r;rw[.db y]
 have f:.Ey (.un b=.bL):=.uI<|.yc<|cM e N
 refine⟨I.ok,I.os,I.bare,⟨I.base.keep,I.base.slot,λb o e n r=>?_,I.base.there,λb G e=>f b _<|.Ny G e,λb o u e=>f b _<|.Mg u e,λb P e=>?_⟩,I.loc,I.cell,?_,λx F e=>?_,λp J=>?_,.wF,I.len⟩
 ·rw[aK<|.bs j r];exact .Lx r
 ·obtain⟨m,q⟩:=.NL P e
  rw[.o m (f b _ q)]
 ·rw[aK]
  ·exact I.free
  ·intro z
   obtain⟨m,⟨o,S,T,h,l,_⟩,_⟩:=I.loc;rw[z,g]at h;cases h;rw[i]at l;cases l
 ·rw[aK]
  ·exact .HU F e
  ·intro z
   obtain⟨v,o,h,l⟩:=I.cell x F e;rw[z,g]at h;cases h;rw[i]at l;cases l
 ·obtain⟨e,n,ne,D,d⟩:=.hy J
  refine⟨e,?_,ne,D,d⟩;rw[aK]
  ·exact n
  ·intro z
   obtain⟨o,q⟩:=c.pin p J;rw[z,y]at q;cases q
 ·by_cases M:b=a
  ·subst M
   rw[.bd aR];rw[.C ⟨K,g,A⟩ ⟨K,g⟩ λR V ⟨o,h,Q⟩ k=>⟨o,k o h,Q⟩]
  ·rw[aK M]at e
   exact .xz e (λ_ _ _ q=>q) (λE q=>f E _ q) λE G q=>f E _ q
def Inv.goes(I:.n)(V:X.N.Nodup)(W:.ES)(G:.OE n=.k3)
  (h:∀C,.oj (.qf j none) H C->Q () C):.mG (do bindName X.env n .none;unbindBehindTheSuite X.env n pos):=by
 obtain⟨m,D,t⟩:=.Hg;have r:.abr:=.aE I.ok.kind
 obtain⟨Z,_,_,R,_⟩:=id D;refine wpAny_nameGoes_keeps G D r λY v x a=>?_;have old:.cJ (.CL->.mF b):=.gB .tC;refine h _ ⟨I.ok,I.os,I.bare,⟨λb o e n B l=>.Wi<|.Ea B l,λb o e n B l=>?_,I.base.free,λb o e l=>?_,I.base.tups,I.base.frzs,I.base.tbls⟩,.bP x λi y K g f N=>?_,λy c e=>?_,I.free,I.freeC,λp T=>?_,.wF,.Wc⟩
 ·obtain⟨J,g⟩:=.D6 B l
  rw[.o J (.Wi g)]
 ·obtain⟨P,g⟩:=.ub l
  rw[.o P (.Wi g)]
 ·by_cases w:i=j
  ·subst w
   by_cases hlt:.GU i
   ·rw[.wY (X0 hlt)]
   ·rw[.wY (zZz (by simpa using hlt))]
  ·rw[.pu w]at f
   obtain⟨L,S,q⟩:=t i y K g f N;rw[.apm L S]
   ·refine .G<|.c4 k
    have:y≠n:=λe=>w (Ab V g<|e▸W);simp[this,e]
   ·rw[.P ⟨k,c,e,.akR⟩]
 ·obtain⟨F,z⟩:=I.cell y c e
  rw[.o F .akR]
 ·obtain⟨e,n,ne,O,d⟩:=.hy T
  exact⟨.i (a.2 p.1 ne) e,n,ne,O,d⟩
 ·refine .Sf λc F U q=>.i (a.2 c ?_) q
  rintro rfl;rcases U with z|z
  ·rw[<-z,I.free]at e;cases e
  ·rw[.fh I.free]
noncomputable abbrev Cx.sui(X:Cx)(a:Addr):Cx:={ X with A:=X.A.mark .l3,calm:=false,xe:=.bw }
def Inv.marked(I:.n)(a:Addr):.uU (X.sui a) H s :=
 (.Jc<|.QD λz=>by cases z)
def Inv.unmark(b:.bB->X.A.handled=none)(I:.uU (X.sui a) H s):.n :=
 (.Jc<|.QD b)
noncomputable abbrev Cx.pin(X:Cx)(q:.bc):Cx:={ X with pn:=q }
def Inv.pinq(I:.n):Inv .mH [] σ H s :=
 (.aca .xB)
def Inv.unpin(I:Inv .mH pins' σ H s):.n :=
 (.aca<|zVk _ a)
end
section
variable{X:Cx}{body:List Stmt}{x n c:Str}{M:Addr}{i j:Nat}{np cp vp ap hp pos:Pos}{tb:(Addr->Hp->Prop)->TS}
end
end L2
namespace Fm
open PySem PySem.Spec L2 PyProof.Rows
section
variable(K:zCM)(mg:Str->Option R0)
/---/def PostX(ρ:.am)(H:Hp)(o:Out)(E:.er)(En:wE):Prop:=match o with
 |.exc x _ hd=>.Su (E C H')
 |.nx σ hd=>.pg (.c6 hd)
 |.rt d hd=>.pg (.rt d hd)
 |.bk σ hd=>.pg (.bk σ hd)
 |.ct σ hd=>.pg (.ct σ hd)
 |.bad=>False
/---/def yx(E:.er)(f:SF):TS:=.alv
/---/def spX(F:Fn)(np:Nat):Sp:=λvs H _ E=>.Kl<|.on/\
 ∃c l hd' C,F ds hd=.fj (.exn c l) hd'/\.IX/\∀H' ρ',.dC->.gt RH hd'->E .aJ none H'
end
section
variable{K:zCM}{mg:Str->Option R0}{ρ ρ':List Addr}{H H':Hp}{E:Addr->Hp->Prop}{En:wE}
def PostX.ext{o:Out}(e:.dC)(p:.Ec o):.Nj H' o E En:=by
 cases o with
 |exc x σ a=>obtain⟨c,l,C,f,h,i⟩:=p;exact⟨c,l,C,f,h,λg b j r=>i g b (.ir j) r⟩
 |nx σ a=>exact .rk<|.c6 a
 |rt d a=>exact .rk<|.rt d a
 |bk σ a=>exact .rk<|.bk σ a
 |ct σ a=>exact .rk<|.ct σ a
 |bad=>exact p
def Ext.sm(e:.dC)(s:lS H' a):.gp a:=⟨e.pre,e.new,λq u h n=>s q u<|e.frame q u h n⟩
end
noncomputable abbrev Wi:=.er->.fB
/---/def MX(X:Cx)(R:Wi)(s:Stmt)(f:SF):Prop:=∀E,PS (.h8<|R E) s .zM
/---/def MXs(X:Cx)(R:Wi)(s:.el)(f:SF):Prop:=∀E,PSs (.h8<|R E) s .zM
structure adC(P:P6)(w:P7)(K:zCM)(mg:Str->Option R0)(base:Heap)(x:Str)(k np:Nat)(F:Fn):Prop where
 ex:∃f fd ps,mg x=some (.ref f)/\PySem.W.keepIn K (.ref f)=true/\gD K fd ps []/\cx P w K mg base (CX1 P w) k f fd ps (spX K mg F np)
section
variable{X:Cx}{R:Wi}{pos p:Pos}
def RQ(O:.TH .kF)(f:.qL bm)(i:.bB)(o:.b3 .kF)
  (b:autoParam (.jt .kF) Q1Q._auto_1):MX X (XP X) (.QO<|.G3 a cp) (eA n):=λE=>by
 rw[.I (.Wm<|RP O f i o (.d9 Ad) b) .hV];obtain⟨ρ,σd,s,k,q⟩:=h;obtain⟨c,l,r,e,d,m⟩:=q;refine g ?_;cases e;rw[.pL O.bound];exact⟨.Nv<|.S 1,m H ρ Ext.refl k.hp⟩
end
section
variable{P:P6}{w:P7}{K:zCM}{mg:Str->Option R0}{base:Heap}
end
noncomputable def mQ:V->R0 | .ref a=>.z | .ty n=>.bQ n|_=>.none
noncomputable def RU:.cH V | .ref _=>true | .ty _=>true|_=>false
def VO(h:RU v=true)(r:.ea):u=mQ v:=by
 cases v<;>first|exact r|cases h
section
variable{X:Cx}{pos p:Pos}
/---/def adj(K:zCM):.oU:=.kq<|∃a C v b,xs=[.z,v]/\RU v=true/\.fl .pH/\qU K C/\.th K .aJ (mQ v)=.cu/\.jF b
def RV:.ln "isinstance" (adj X.K):=by
 rintro pins s σ H k j Q I r ⟨a,C,v,b,rfl,h,d,Z,e,q⟩;obtain⟨u,l,rfl,f,c⟩:=bS.two r;cases (show .d8 a from f);rw[VO h c];have g:=(.iD a d).1;exact PySem.W.kia_one (Zr Z) I.kIn g e .eI λi=>.ch (.bl b) H (I.tok i) q
end
noncomputable abbrev sU:.H:=.Sn
/---/def RW(o:Obj):.as ClassData:=match o.data with
 |.cls cd=>.a cd
 |_=>none
/---/def slN(o:Obj)(i:Nat):.xq:=o.slots.getD i none
/---/def pR(K:zCM)(C:Addr)(bmB:.H)(newId:String)(t:.as .xq):Bool:=(.dj C).any λo=>(RW o).any λcd =>
 o.cls == .Pp && o.slots == #[slN o 0,slN o 1,slN o 2,slN o 3,.a<|.oi newId,slN o 5]&&cd.mro == .aJ::cd.mro.tail && ! cd.hasDel&&PySem.W.tailIn K bmB cd.mro.tail&&PySem.W.nsOkIn K cd.ns&&.Ih K cd.ns "__init__" == t
theorem Kn{α:Type}{p:.cH α}:∀{o:.as α},o.any p=true->∃a,o=.jK/\p a=true
 |some a,h=>(.hJ a h)
def RY{o:Obj}{a:ClassData}(e:RW o=.jK):o.data=.cls a:=by
 revert e;unfold RW;cases o.data<;>intro e<;>cases e;rfl
def Zu{o:Obj}{a:R0}{d:Data}{s:.jb}(h1:o.cls=a)(c:o.data=d)(b:o.slots=s):o=⟨a,o.dict,d,s⟩:=by subst h1 c b;rfl
def abV{c:ClassData}{m:.H}(h1:c.mro=m)(a:.cM c.hasDel):c=⟨c.name,c.bases,m,c.ns,c.qualname,c.hasDict,c.slotNames,c.subclasses,c.abstract,c.collection,false⟩:=by rw[<-h1,<-a]
def RZ{K:zCM}{C:Addr}{bm:.H}{id:String}{t:.as .xq}{P:Prop}(q:pR K C bm id t=true)
  (k:∀a ns nm c bs hd sn sub ab col dd k0 k1 k2 k3 k5,.dj C=.a (excClassObj nm c C ns bs a hd sn sub ab col dd k0 k1 k2 k3 k5 id)->PySem.W.tailIn K bm a=true->PySem.W.nsOkIn K ns=true->.Ih K ns "__init__"=t->P):P:=by
 obtain⟨o,b,q⟩:=Kn q;obtain⟨e,d,q⟩:=Kn q;dsimp[UE,beq_iff_eq,zUn]at q;have q1:=q.1.1.1.1;exact .cd k _ _ _ _ _ _ _ _ _ _ _ _ (b.trans<|.eL some<|Zu q1.1.1 (.a2 RY d<|.eL _<|abV q1.2 q.1.1.1.2) q1.1.2) q.1.1.2 q.1.2 q.2
def wU{K:zCM}{id:String}(X:.fC)(e:mg x=.t C)(q:pR K C bm id .iR=true):OwnCls x C bm id mg h :=
 RZ q λb i g l r s sn sub d col n m k c j o f p hok a=>⟨e,⟨b,i,g,l,r,s,sn,sub,d,col,n,m,k,c,j,o,_,X _ _ f,.Rs,PySem.W.nsMap_none_of_in X hok a,PySem.W.tail_of_in X p⟩⟩
end Fm
namespace L2
open PySem PySem.Spec PyProof.Rows
def MV{X:Cx}{E:XK}{E':.er}(h:∀C H,.uP H->E' C H)(b:∀e a,XF X E' e a->.p9 a):og (.ha CX1) X E:=by
 intro pins σ H s e a I q;have:=.ai3 abU;rw[.iz]
end L2
namespace Fm
open PySem PySem.Spec L2 PyProof.Rows
section
variable(K:zCM)(mg:Str->Option R0)
/---/def XC(ρ:.am)(H:Hp)(E:.er)(x:D)(hd:Hd):Prop:=.Su<|E C H'
/---/def dG{α β:Type}(R:.A8)(ρ:.am)(H:Hp)(σd:Sd)(σ:L2.St)(r:.e2)(E:.er)(Q:.jv):Prop:=match r with
 |.ok a hd'=>.SC
 |.exc x hd'=>.z2 E
 |.bad=>False
/---/def AC{α β:Type}(R:.A8)(E:.er)(f:.iu α):L2.St->.rm β:=.fb<|.mV<|.kz .hh Q
/---/def spY(F:Fn)(np:Nat):Sp:=λvs H Q E=>.Kl<|.on/\match F ds hd with
 |.ok d hd'=>.C3
 |.exc x hd'=>.z2 (λC H'=>E .aJ none H')
 |.bad=>False
end
section
variable{K:zCM}{mg:Str->Option R0}{ρ ρ':List Addr}{H H':Hp}{E:Addr->Hp->Prop}{σd:Sd}{σ:L2.St}{hd:Hd}{α β α' β':Type}{R:VR α β}{R':VR α' β'}
def XC.ext{x:D}(e:.dC)(p:.xu XC E x hd):XC K mg ρ' H' E x hd:=by
 rw[.iA];obtain⟨c,l,C,b,f,h⟩:=p;rw[.cX g ⟨c,l,C,b,f,λd a i r=>h d a (.ir i) r⟩]
def dG.ext{r:.e2}{Q:.jv}(e:.dC)(h:.kz r Q):.Po R H' σd σ r E Q:=by
 cases r with
 |ok a g=>exact λb d c f s q=>h b d c (.ir f) s q
 |exc x g=>exact XC.ext e h
 |bad=>exact h
def dG.imp{r:.e2}{Q c:.jv}(h:.kz r Q)(i:.amv):.kz r c:=by
 cases r with
 |ok a d=>exact .aiy
 |exc x d=>exact h
 |bad=>exact h
def dG.bind{r:.e2}{k:.wC α'}{Q:.di β'}(h:.Cm R' (r.bind k) E Q):
  .kz r (.aeB<|.Po R' H' σd σ (k a hd') E Q):=by
 cases r with
 |ok a c=>exact .Uj<|.ak3 c
 |exc x c=>exact h
 |bad=>exact h
def PostX.outE{r:Res D}{k:D->Hd->Out}{En:wE}(p:.Ec .ZP):
  .Cm (rD K) r E (.aeT<|.Nj H' (k d hd') E En):=by
 cases r with
 |ok d c=>exact .ahU<|.qR a p
 |exc x c=>exact p
 |bad=>exact p
def dG.of_pl{r:.e2}{Q:.jv}(p:.kz (noX r) Q):.wx r:=by
 cases r with
 |ok a b=>exact p
 |exc x b=>exact p
 |bad=>exact p
end
/---/def NE(X:Cx)(E:.er)(e:Expr)(f:EF):Prop:=.dG<|.N6 f
/---/def NA(X:Cx)(E:.er)(es:.dy)(f:LF):Prop:=.Bz .anc
/---/def NS(X:Cx)(E:.er)(s:Stmt)(f:SF):Prop:=PS X s .zM
/---/def NSs(X:Cx)(E:.er)(s:.el)(f:SF):Prop:=.iE s .zM
structure DefY(P:P6)(w:P7)(K:zCM)(mg:Str->Option R0)(base:Heap)(x:Str)(k np:Nat)(F:Fn):Prop where
 ex:∃f fd ps,mg x=some (.ref f)/\PySem.W.keepIn K (.ref f)=true/\gD K fd ps []/\cx P w K mg base (CX1 P w) k f fd ps (spY K mg F np)
section
variable{X:Cx}{E:Addr->Hp->Prop}{pos p:Pos}
def ne_of{e:Expr}{f:EF}(h:.iK):.xx (fPl f):=.acj
def na_of{a:.dy}{f:LF}(h:MA X a f):NA X E a (fPl f):=.aby
def na_cons{e:Expr}{g:.dy}{f:EF}{r:LF}(he:.kW)(m:NA X E g r)(y:autoParam (.OT) Q3Q._auto_1):.pi g (ae f r):=by
 rw[.I .amp .gy];obtain⟨ρ,σd,x,s,p⟩:=b;rw[.eu (a ?_) x s (.OO λv z b=>?_) .gy];obtain⟨k,d,j,A,c,u,w⟩:=b;rw[.eR (a ?_) .aiW .gy];obtain⟨l,C,t,n,h,i,o⟩:=b;rw[.cv a .ael]
def R4{j:.dy}{k}{r:LF}(h:NA X E j r):NE X E (.u7 j) (dh r):=by
 rw[.I (.U (Ey h) .tS) .xC];obtain⟨ρ,σd,u,n,p⟩:=e;rw[.eu (d ?_) u n (.OO λl v e=>?_) .xC];obtain⟨g,t,s,w,i,a,b⟩:=e;refine d ?_
 by_cases f:t.length<=SZ
 ·rw[z3 f]at b
  refine .ahK;have c:=.oA l m;exact .ahY
 ·rw[.bR (yM f)]
def ne_call{x:Str}{k np:Nat}{F:Fn}{e:Expr}{m:.dy}{r:LF}(hd:.FS DefY)(M:.hz k)(V:.bo)(R:.pi m r)(P:∀v t,XF X E v t->X.xe v t)
  (hnp:.ya .o2) (o:autoParam (.a5) Q1Q._auto_1) (he:autoParam (.hl m=.i3 m) Q3Q._auto_1) (hpl:autoParam (.eN m) Q3Q._auto_1) :
  .zt m .pB:=by
 rw[.iA];obtain⟨f,fd,ps,w,S,K,O⟩:=hd.ex;rw[.ht g (.U (.aoQ zB O M V w S K .nil (MV (λC H i=>.afn) P) R o he hpl) .q0) .hV];obtain⟨ρ,σd,hd,J,N⟩:=i;rw[.eu (g ?_) hd J (.LX N λvs Y i=>?_) .hV];obtain⟨n,ds,b,Z,j,L,a⟩:=i;refine g ?_;rw[X1];refine .iN n b ds j.hp L ?_
 ·refine hnp ds b .gz
  rw[.aA z a]
 ·cases c:F ds b with
  |bad=>rw[.aA c a]
  |exc z W =>
   rw[c]at a;rw[.iA];obtain⟨I,l,C,q1,q2,q3⟩:=a;rw[.cX g ⟨I,l,C,q1,q2,λD s B A=>.hJ C<|q3 D s B A⟩]
  |ok d T =>
   rw[.aA c λv y ρ' u U G=>a v y ρ' u (j.ext u U) G]
def mkFn_ne{np n:Nat}{b:SF}:.ya .tY:=by
 intro ds h e;rw[.aaS]
 ·assumption
 ·exact .bg e
def ns_of{s:Stmt}{f:SF}(h:MS X s f):.en s (sPl f):=.ae2 (by
 unfold sPl at q;cases e:.gZ a<;>rw[e]at q<;>exact q)
def nss_nil:.gA [] aX:=.wA zx .Iu
def nss_one{st:Stmt}{a:SF}(h:.en st a):.gA [st] a:=pI h
def iQ{a:.el}:.gA a kQ:=.adq
def nss_cons{st:Stmt}{rest:.el}{a b:SF}(h1:.en st a)(g:.gA rest b):.alR:=by
 rw[.I .afZ .hU];obtain⟨ρ,σd,f,i,q⟩:=k;rw[.eW j f i];unfold aA at q;cases e:a σd f with
 |nx σ1 h1=>rw[.fP .aeU]
 |rt d h1=>rw[.fP q]
 |bk σ1 h1=>rw[.fP q]
 |ct σ1 h1=>rw[.fP q]
 |exc x σ1 h1=>rw[.fP q]
 |bad=>rw[.fP q]
def ns_if{c:Expr}{a b:.el}{t:TF}{h j:SF}(m:.n2 c)(l:.gA a h)(g:.gA b j):.en .Mm (dF t h j):=by
 rw[.I .aiE .kb];obtain⟨ρ,σd,k,n,q⟩:=r;rw[.eW o k n];unfold dF at q;cases e:t σd k with
 |exc x f=>rw[.fP q]
 |bad=>rw[.fP q]
 |ok c f =>
  rw[e]at q;intro b s ρ' i d g;cases g;cases c with
  |true=>rw[.cb];exact .KU
  |false=>rw[yM UG];exact .KU
def ns_set{i:Nat}{x:Str}{e:Expr}{f:EF}{pos':Pos}(q:X.N.Nodup)(hi:.gd)(k:.lc)(he:.kW)(s:autoParam (.DC) Q3Q._auto_1)
  (j:autoParam (.k8) Q0Q._auto_1):.en (.yq e) .Hm:=by
 rw[.I .amA .fr];obtain⟨ρ,σd,r,l,p⟩:=c;rw[.eu (b ?_) r l (.EG λv h c=>?_) .fr];obtain⟨g,d,m,t,a,n,o⟩:=c;rw[.cv b .afh]
def gh{e:Expr}{f:EF}(h:.kW):.en .K6 (bf f):=by
 rw[.Kg (.DQ<|JK h) .gy];rw[.eR (a ?_) .Jq .gy];obtain⟨b,d,l,o,c,m,n⟩:=g;rw[.cv a .amb]
def nP{e:Expr}{f:EF}(h:.kW)(n:autoParam (.tx none) Q3Q._auto_1):.en .OL (dR f):=by
 rw[.Kg (.DQ<|zy h n) .gy];rw[.eR (a ?_) .Jq .gy];obtain⟨b,d,l,o,c,q,m⟩:=g;rw[.cv a .anu]
end
end Fm
namespace L2
open PySem PySem.Spec PyProof.Rows
section
variable{X:Cx}{E:Addr->Hp->Prop}{e:R0}{s':R1}{R:R0->R1->Prop}
def Cov.unwish(c:Cov .w1 pins H B):.uR:=⟨c.trk,c.old,c.pin⟩
def XF.unwish(h:XF .w1 E e s'):.kU XF s':=by
 rw[.j .fr];obtain⟨pins,σ,H,a,C,B,t,d,I,f,c,q⟩:=h;rw[.cX b ⟨pins,σ,H,a,C,B,t,d,I.unwish,f,c.unwish,q⟩]
def PS.xe{st:Stmt}(b:∀e s',R e s'->.p9 s')(h:PS .w1 st t):PS X st t:=λpins s σ H D I a =>
 .aes b
end
end L2
namespace Fm
open PySem PySem.Spec L2 PyProof.Rows
section
variable{X:Cx}{E:Addr->Hp->Prop}{pos p:Pos}
def ns_for{tg:Expr}{s:Expr}{body:.el}{f:IF}{g:GF}{b:SF}(hp:.Da)(hc:.bB)(hi:.lU s f)(hg:.GL)(hb:.gA body b)
  (hs:autoParam (.mz s) Q2Q._auto_1):.amV:=by
 rw[.I .amu .vg];obtain⟨ρ,σd,W,rs,p⟩:=O;rw[.eW kq W rs];unfold qt at p;cases e:.gZ W with
 |exc x h'=>rw[.br]
 |bad=>rw[.br]
 |ok q P =>
  rw[.aaQ e];intro J V G N Q T;simp only at p T;refine⟨.abV,
   .adp,?_⟩
  rintro i m σ' z ⟨ρ',k,hd',M,w,a0,rfl,a⟩
  by_cases F:.iZ
  ·have R:.yT:=.k F
   rw[.Ae (zYd F)]
   rw[.BY]
   ·rw[z3 D]at a
    rw[.Qt .aoD (.F ⟨go,.acf,
     .ab7,.ON⟩)]
    obtain⟨U,rx⟩:=yl x B y;cases c:g l[i] k with
    |none=>rw[.dc c]
    |some h =>
     rw[.FM c];refine .adn;have o:.pZ z ρ' B:=.f8 U;cases K:b h hd' with
     |nx σ3 I=>rw[.aA K .It]
     |ct σ3 I=>rw[.aA K .It]
     |bk σ3 I=>rw[.aA K .anA]
     |rt d I=>rw[.aA K .alI]
     |exc x σ3 I=>rw[.aA K (.qR o a)]
     |bad=>rw[.aA K a]
   ·rw[.dc (yM D)]
  ·have Y:.jn i:=.bm
   subst Y;rw[.Ae zXk]
   rw[.BY]
   ·rw[z3 D]at a
    rw[.O .adR]
   ·rw[.dc (yM D)]
def dX(O:.TH .kF)(d:.qL bm)(f:.bB)(h:.b3 .kF)(g:∀e c,.kU XP c->.p9 c)
  (b:autoParam (.jt .kF) Q1Q._auto_1):.en (.QO<|.G3 a cp) (eA n):=PS.xe g<|RQ O d f h b E
end
section
variable{P:P6}{w:P7}{K:zCM}{mg:Str->Option R0}{base:Heap}
/---/def qV(K:zCM)(mg:.gD)(ρ:.am)(H:Hp)(r:Res D)(E:XK)(Q:VK):Prop:=match r with
 |.ok d hd'=>.C3
 |.exc x hd'=>.z2 (λC H'=>.uP H')
 |.bad=>False
def qV.letGo{ρ:.am}{H:Hp}{hd:Hd}{r:Res D}{E:XK}{Q:VK}(b:.cE)(p:.Am .aaH):.Am r:=by
 cases r with
 |exc x a=>exact p
 |bad=>exact p
 |ok d a =>
  have q:.aop:=by
   dsimp[Fm.letGo]at p⊢;split at p<;>rename_i c
   ·rw[z3 c];exact p
   ·rw[yM c];exact p
  exact qO.letGo b q
def fny_mk{x y:Str}{st:Stmt}{f:Addr}{v:FuncData}{N ps:.dU}{k:Nat}{b:SF}(F:.aj y x st f v)(S:.Ep)
  (body:.agi<|ff k (.Ct c)->
   .afs CX1 (λC j=>.uP j) (cG st) b) :
  .Rv (k+1) v ps (.bG .De ps.length):=by
 rw[.ao9 .oN];rw[.ht n .abk .oN];obtain⟨ρ,h,g,r,q,i,p⟩:=o;rw[.dq n .adZ];have l:.Am (.De g h):=p;unfold bK at l;rw[z3 i]at l;have a:=qV.letGo r l;unfold runB at a;cases e:.afb with
 |nx σ1 u=>rw[.aA e .aeD]
 |rt d u=>rw[.aA e a]
 |bk _ _=>rw[.dc e]
 |ct _ _=>rw[.dc e]
 |bad=>rw[.dc e]
 |exc y σ1 u=>rw[.aA e a]
def DefY.mk'{x:Str}{f:Addr}{a:FuncData}{ps:.dU}{k np:Nat}{F:Fn}(d:mg x=.t f)(b:.gu f)(c:.Gr a)(h:.ym a):.pn x:=.U2
end
section
variable{X:Cx}{pos p:Pos}
end
section
variable{X:Cx}{pos p:Pos}
/---/def spM(C:Addr):Sp:=λvs H Q _=>∃a,vs=.iM/\.fl .pH/\∀H',.Bq->Q .dO H'
structure adD(P:P6)(w:P7)(K:zCM)(mg:Str->Option R0)(base:Heap)(x:Str)(k:Nat)(C:Addr):Prop where
 ex:∃f fd ps,mg x=some (.ref f)/\PySem.W.keepIn K (.ref f)=true/\gD K fd ps []/\cx P w K mg base CX0 k f fd ps (spM C)
end
end Fm
namespace L2
open PySem PySem.Spec PyProof.Rows
section
variable{X:Cx}{pos p:Pos}{e:Expr}{es:List Expr}
noncomputable abbrev TJ:=Str->.qB St
/---/def PJ(X:Cx)(es:.dy)(t:TJ):Prop:=∀(out:Str) (pins:.bc) (s:R1) (σ:St) (H:Hp) (Q:VK),.n->.nS out Q->.mX (joinParts out<|.TU es) s
def Zv:PJ X [] (λout σ H Q=>.S out.length/\.nD out):=λout pins s σ H Q I ⟨a,q⟩=>joinParts_nil (.Nt out) a
def VP(he:.dG b)(c:PJ X es t)(l:autoParam (.alc) Q3Q._auto_1):PJ X (e::es) (λout σ H Q=>.aU b λv a=>∃y:Str,v=.h y/\.S (.gT out y)/\t (out++y) σ a Q):=by
 intro out pins s σ H Q I h;rw[l];rw[.I (joinParts_cons (.nU λv m g=>?_)) .xC];obtain⟨x,a,k,i,y,f,j,q⟩:=g;subst f;obtain⟨n,rfl⟩:=i;refine d ?_;rw[.o j (c (out++y) pins m σ a Q k q)]
def VQ(h:PJ X (e::a::es) t):.af .akL (.fb<|.nS Str.empty Q):=by
 intro pins s σ H Q I q;exact JoinedStr_many<|.X6 Str.empty q
def Zw(he:.dG b):.af .aiu (.fb<|.aU b λv a=>∃i:Int,v=.aG/\i.natAbs.log2<1920/\.og Q .yu a):=by
 rw[.uA (FormattedValue_plain (.nU λv m g=>?_)) .dR];obtain⟨x,a,d,j,i,c,k,q⟩:=g;subst c;obtain⟨l,rfl⟩:=j;rw[.cv f (formatField_int_small k ⟨.h .yu,a,d.tok _,.K,q⟩)]
end
end L2
namespace Fm
open PySem PySem.Spec L2 PySem.W PyProof.Rows
section
variable{X:Cx}{pos p:Pos}{e:Expr}{es:List Expr}
/---/def MJ(X:Cx)(es:.dy)(r:JF):Prop:=PJ X es λout σ H Q=>∃l,out=toS l/\.kL .qT (r l) σ H Q
def E7:MJ X [] wS:=λb pins s σ H Q I g=>by
 rw[.j .dR];obtain⟨l,e,ρ,σd,h,d,a⟩:=g;refine f ?_;unfold wS at a;split at a
 ·rename_i c
  rw[.d3 (Zv _ pins s σ H Q I ⟨.CD c,a.here d .eJ⟩)]
 ·exact a.elim
def jj(he:.kp a)(k:MJ X es r)(w:autoParam (.alc) Q3Q._auto_1):MJ X (e::es) (fB a r):=λt pins s σ H Q I f=>by
 rw[.nJ];obtain⟨l,o,ρ,σd,u,q,m⟩:=f;refine c ?_;subst o;rw[.I (VP he k w _ pins s σ H Q I (.au u q (.mD m λv x f=>?_))) .go];obtain⟨h,d,g,z,i,j,b⟩:=f;refine c ?_;cases d<;>try rw[.u]
 rename_i y
 dsimp[rD,RD]at j;rw[.lD]
 ·rename_i n
  refine⟨toS y,j,?_,l++y,pQ l y,h,σd,g,i,b⟩;rw[pQ,gL,zAK];exact zBL n E6
 ·rw[.u]
def MY(h:MJ X (e::a::es) r):.aL .akL (fFs r):=.U (VQ h) λσ H Q q=>.hJ [] q
def wV(he:.kp a):.aL .aiu (gg a):=by
 rw[.I (.U (Zw he) .EF) .go];obtain⟨ρ,σd,o,k,m⟩:=g;rw[.eu (c ?_) o k (.mD m λv q g=>?_) .go];obtain⟨n,d,l,r,f,h,b⟩:=g;refine c ?_;cases d<;>try rw[.u]
 rename_i i
 dsimp[rD,RD]at h;rw[.lD]
 ·rename_i j
  rw[.al i h j (b.here f .JB)]
 ·rw[.u]
end
end Fm
namespace HT
open PySem PySem.Spec
end HT
namespace L2
open PySem PySem.Spec PyProof.Rows
section
variable{X:Cx}
/---/def adk:.ul:=.abl Fm.Kl
def AD(h:0<=j/\j<=x.cps.toList.length):.oG none .e6=⟨.eZ<|x.cps.toList.take j.toNat⟩:=by
 have:=.v1 (slice_closes_to h);rw[.a9];simp
def tsb{i j:Int}(h:0<=i):.gW (j-i)=j.toNat-i.toNat:=by
 obtain⟨n,rfl⟩:=zWz h;exact Int.toNat_sub' j n
def sbt{n:Nat}{i:Int}(h:0<=i):n-i.toNat<=.gW (.bp-i):=zYw (tsb (j:=.bp) h).symm
def AE(h:0<=i/\i<=x.cps.toList.length):.oG .fH none=⟨.eZ<|x.cps.toList.drop i.toNat⟩:=by
 have:=.v1 (slice_closes_from h);rw[.a9];congr 2;exact zZl (by rw[zXj];exact sbt h.1)
def Zx:SlR X adk:=by
 intro pins s σ H x v C D B A w Q I p m n f h;rw[.j .kb];obtain⟨z,y,rfl,d,a,q⟩:=h;obtain⟨t,rfl⟩:=p;rw[.dq o .aei];cases n with
 |none =>
  cases f with
  |none=>cases a
  |int j g =>
   dsimp[Fm.Kl]at a;split at a
   ·rename_i b
    cases a;have e:=AD (x:=z) b;exact zXt (l:=none) (u:=.a (j,g)) (st:=none) m rfl (.abo<|z.cps.toList.take j.toNat)
   ·cases a
 |int i r =>
  cases f with
  |int j g=>cases a
  |none =>
   dsimp[Fm.Kl]at a;split at a
   ·rename_i b
    cases a;have e:=AE (x:=z) b;exact .ahX r m rfl (.abo<|z.cps.toList.drop i.toNat)
   ·cases a
end
end L2
namespace Fm
open PySem PySem.Spec L2 PySem.W PyProof.Rows
section
variable{X:Cx}{pos p:Pos}
def ON{lo hi:.Hc}(M:.bq r)(K:MO X lo s)(F:MO X hi u):.t7 (.ys j) (zG r s u):=by
 rw[.I (.U (uT Zx M K F) .EB) .dR];obtain⟨ρ,σd,N,E,t⟩:=c;refine f ?_;unfold zG at t;rw[.c0 .ajY .dR];obtain⟨n,d,k,T,g,G,I⟩:=c;rw[.eR (f ?_) .ai8 .dR];obtain⟨q,z,o,A,h,q2,j⟩:=c;refine f ?_;cases q2;rw[.c0 .aja .dR];obtain⟨J,w,C,L,m,q3,b⟩:=c;refine f ?_;cases q3;have i:=.afN;cases d with
 |str l =>
  dsimp[RD]at i;rw[.lD]
  ·rename_i D
   cases e:Kl l x B with
   |none=>rw[.bR e]
   |some y =>
    rw[e]at b;exact .aht
  ·rw[.u]
 |_=>rw[.u]
end
variable{l:List Nat}
section
variable{X:Cx}{pos p p2:Pos}
def R5(l:.g)(h:y=toS l)(a:.bo)(b:X.mg x=.a (.h y t))(hd:autoParam (.a5) Q1Q._auto_1):.aL .km (.ae l) :=
 .ain<|fA (v:=.h y) a b .pN hd
def kF(k:.b3 "str")(h:.bX "str")(g:.bq b)(e:autoParam (.hk) Q3Q._auto_1):.ke "str" (gg b):=by
 refine Dq (G1 Ew k h .ac (he:=e)) g (λρ H σd l σ d v Q j c p=>?_) e;cases d<;>first|rw[.bC]|skip
 rename_i i
 dsimp[RD]at c;subst c;rw[.FJ]
 ·rename_i f
  rw[.al i rfl f (.j3 j .JB)]
 ·rw[.bC]
def sj(l:.g):.Lk=l:=.k toS
def MZ(h:OH l=true):NumText.AllDigits l/\l≠[]:=by
 dsimp[OH,UE,zUn,zYn,vb]at h;exact⟨h.2,λe=>by rw[e]at h;simp at h⟩
def VS(g:.f1 600)(h:yX l=.e8):.ja PySem.intText?=.e8:=by
 cases l with
 |nil=>cases h
 |cons c r =>
  have d:.ad toS (c::r)<=4300:=.c5 gL
  rw[.Qw yX]
  ·rename_i e
   subst e;split at h
   ·rename_i f
    obtain⟨a,b⟩:=MZ f;cases h;exact PySem.intText_neg (sj _) a b d
   ·cases h
  ·split at h
   ·rename_i f
    obtain⟨a,b⟩:=MZ f;cases h;rw[.wW (PySem.intText_digits (.p sj a) (.p sj b) d) sj]
   ·cases h
def OO:.vl "int" (.kq<|∃(l:.g) (n:Int),xs=[.kh l]/\.f1 600/\yX l=.e8/\.wc n):=by
 intro pins s σ H xs f Q I r h;obtain⟨l,n,rfl,a,c,q⟩:=h;obtain⟨u,rfl,d⟩:=bS.one r;obtain⟨t,rfl⟩:=d;rw[.eB (KIN.call_text (VS a c) (.c5 gL) ⟨.gj,H,?_,.K,q⟩) (.OM e)]
def zH(k:.b3 "int")(i:.bX "int")(h:.bq b)(f:autoParam (.hk) Q3Q._auto_1):.ke "int" (o0 b):=by
 refine Dq (G1 OO k i .ac (he:=f)) h (λρ H σd m σ d v Q j e p=>?_) f;cases d<;>first|rw[.bC]|skip
 rename_i l
 dsimp[RD]at e;subst e;rw[.FJ]
 ·rename_i g
  cases c:yX l with
  |none=>rw[.eb]
  |some n=>rw[c]at p;exact⟨l,n,rfl,g,c,.jq j⟩
 ·rw[.bC]
noncomputable def XE:.X->KTD.Dat
 |some i=>.flat .aG
 |none=>.flat .none
/---/def Dz(T:Tab):.f6 KTD.Dat:=T.map λp=>(toS p.1,XE p.2)
/---/def AF(K:zCM)(a:Addr)(T:Tab):Prop:=.akS (KTD.datLooks λb=>.dj b) (Dz T)=true
def vm:toS l=toS k↔l=k:=⟨λe=>by rw[<-sj l,e,sj],λe=>.bA e⟩
theorem E8:∀(T:Tab) (l:.g),.LJ Dz=.k5 .v8
 |[],_=>rfl
 |(k,d)::T,l=>by
  have b:=E8 T l;show (.LF||.LJ Dz)=_;rw[b];unfold lI;rw[zh]
  rw[.aV l k]
  ·subst e;simp
  ·have a:.c1 l k:=.eF
   rw[a,z5<|.r2 vm.mp];rfl
theorem M0{P:.bF R0}{l:.g}:∀{T:Tab} {d:.X},.v8=.a7->(∀v,cS .afp v->P v)->KTD.EachL h (toS l) P (Dz T)
 |[],_,e,_=>.Av
 |(k,d')::T,d,e,q=>by
  unfold lI at e;rw[zh]at e;have op:l=k->KTD.Opened h P (XE d'):=λz=>by
   subst z;rw[.bd (show .s8 l l by simp)];cases d' with
   |none=>exact .md q
   |some i=>exact λt=>q _ .pN
  cases T with
  |nil=>exact λz=>op<|vm.mp z
  |cons x T =>
   show .dE .LF _ _
   rw[.dI l k]
   ·rw[z3<|.fm z];exact op z
   ·rw[yM<|.h1 λy=>z<|vm.mp y]
    have a:.c1 l k:=.LV
    rw[a]at e;exact M0 e q
def M3{σ:L2.St}(I:.n)(t:AF X.K a T):.amt Dz:=⟨PySem.W.kt_text_in I.kIn t,.zK⟩
def OP(t:AF X.K a T):.adU .v8:=by
 rw[.ag8];obtain⟨f,rfl⟩:=c;cases (show .d8 a from d);refine KTD.notin_text (M3 I t) ⟨.bl<|.l6<|lI T l,H,.OM e,?_,q⟩;rw[E8];cases .v8<;>rfl
def OQ(r:.bo)(k:.j7 A)(t:AF X.K A T)(j:.bq h)(m:.aoz)(hd:autoParam (.a5) Q1Q._auto_1):.aff zE:=by
 rw[.I (.afv OP) .fr];obtain⟨ρ,σd,hd,n,c⟩:=e;refine b ?_;have c:=my c;rw[.c0 .aju .fr];obtain⟨q,d,o,u,f,i,g⟩:=e;refine b ?_;cases d<;>try rw[.gJ]
 rename_i l
 dsimp[rD,RD]at i;simp only at g;rw[.ml l i .ZH]
def R6(hg:.bo)(hm:.j7 A)(t:AF X.K A T)(M:.fJ F)(U:autoParam (Y8 b) Q4Q._auto_1)(hd:autoParam (.a5) Q1Q._auto_1):.alU (Az T F):=by
 rintro pins s σ H Q I ⟨ρ,σd,hd',N,pp⟩;refine .ahA U (thn (.xA A hg hm rfl hd pins s σ H (λy n=>y=.d A/\n=H) I .Bv) λu s1 g=>?_);obtain⟨y,n,S,Z,w,K⟩:=g;subst w K;obtain rfl:.d8 A:=Z;refine thn (.a0 M s1 σ n (λz h=>∃l d,z=.kh l/\.v8=.a7/\Q .afp h) S (.au hd' N (.aq pp λv h g=>?_))) λiv f g=>?_
 ·obtain⟨R,d,O,w,r,m,a⟩:=g;cases d<;>try exact a.elim
  rename_i l
  dsimp[rD,RD]at m;simp only at a;cases c:.v8 with
  |none=>rw[.dc c]
  |some d =>
   rw[c]at a;refine⟨l,d,m,c,a.here r ?_⟩;cases d<;>dsimp[rD,RD,VF]
 ·obtain⟨z,h,B,rz,l,d,ez,E,q⟩:=g;subst ez
  obtain⟨W,rfl⟩:=rz;have C:=M3 B t;have j:.bi f.TypeIs A "dict" := C.typeIs;rw[.fQ j];unfold getItem
  try with_reducible refine .wT
  rw[.e9 (zUl j .c ?_) (zF<|zYa j zWm<|.abF j)];show .yZ (dictGet A<|.kh l W) f;have G:.aP h .akK:=B.kept<|.gB e;refine zF (KTD.dictGet_text C (λY v ha J=>xU (.hJ v (xU ?_))) λL=>?_)
  ·exact(M0 (P:=λv=>.hm v .akK) E λv m=>⟨_,h,G,m,q⟩).some_of Y v ha J
  ·have:=KTD.isSome_datumAt (k:=toS l) (D:=Dz T)
   rw[L,E8,E]at this;cases this
end
noncomputable def DA:.H->.cH .A
 |[],[]=>true
 |.str y _::vs,l::ss=>y == toS l&&DA vs ss
 |_,_=>false
/---/def vTs(ss:.A):.R:=.ol λl=>.kh l
theorem AG:∀{vs:.H} {ss:.A},DA vs ss=true->bS (vTs ss) vs
 |[],[],_=>.nil
 |v::vs,l::ss,h=>by
  cases v<;>dsimp[DA,UE,zZf]at h;obtain⟨h1,a⟩:=h;rw[.yV h1];exact .bn .K<|AG a
 |[],_::_,h=>by simp[DA]at h
 |v::_,[],h=>by cases v<;>simp[DA]at h
noncomputable def AH(K:zCM):.A->.cH R0
 | ss,.ref p=>(match .dj p with
  |some o=>o.cls == .lh && (match o.data with | .seq its _=>.D (.S its.size)&&DA its.toList ss|_=>false)
  |none=>false)
 |_,_=>false
/---/def RTk(K:zCM)(ss:.A)(v:R0):Prop:=∃p,v=.d p/\YR K p (vTs ss)
def E9{K:zCM}(h:AH K ss v=true):RTk K ss v:=by
 cases v<;>dsimp[AH,zZf]at h
 rename_i p
 cases c:.dj p with
 |none=>rw[.hv c]
 |some o =>
  rw[c]at h;dsimp[UE]at h;obtain⟨b,a⟩:=h;cases d:o.data with
  |seq its n =>
   rw[d]at a;dsimp[UE,vb]at a;exact⟨p,rfl,o,its,n,c,.yV b,d,a.1,AG a.2⟩
  |_=>rw[.ik d]
/---/def R7(T:ug):.f6 .A:=T.map λp=>(toS p.1,p.2)
/---/def Fa(K:zCM)(a:Addr)(T:ug):Prop:=.akS (AH K) (R7 T)=true
theorem XG{l:.g}:∀{T:ug},.amM=.lz
 |[]=>rfl
 |(k,d)::T=>by
  show (.dE .LF .a7 .amM)=_;rw[zh]
  rw[.aV l k]
  ·subst e;simp
  ·have a:.c1 l k:=.eF
   rw[a,yM<|.h1<|.r2 vm.mp];exact XG
section
variable{X:Cx}{pos p p2:Pos}
def M4{σ:L2.St}{H:Hp}{s:R1}{a:Addr}{T:ug}(I:.n)(t:Fa X.K a T):KTD.TabOf (RTk X.K) s.heap a (R7 T) :=
 KTD.tab_of_look (.nQ<|E9 q) (λb o q=>I.kIn b o q) t
def VT{a:Addr}{D:.f6 f}{k:Str}{tk:Tok}{d:f}{Q:.eK (.as R0)}(T:KTD.TabOf R s.heap a D)(g:KTD.datumAt k D=.a7)
  (h1:∀v,R d v->Q .aM .oq):.d6 (dictGet a<|.h k tk):=by
 rw[.j .PF];obtain⟨_,o,b,u,m,x,n,h⟩:=T;obtain⟨v,r,t⟩:=h.find_some g;refine q ?_;unfold dictGet
 try with_reducible refine .wT
 refine zF (wpAny_pyHash_str (zF (KTD.kt_dictFind_strs m n (by obtain⟨l⟩:=b;simpa using h.exact) ?_)));have c:Q .ai7 .oq:=by
  rw[show .ai7=.aM from (by obtain⟨l⟩:=b;simpa[findBy] using r)];exact h1 v t
 rw[findBy_of_findIdx?]at c;cases j:b.findIdx? λe=>e.key.isStr k with
 |none=>rw[j]at c;exact xU c
 |some i=>rw[j]at c;exact zF (wpAny_dictEntries m n<|xU c)
def R8:∀{vs:.H},bS (vTs ss) vs->KTD.Flats vs (.ol λl=>.ja PyData.str):=by
 induction ss with
 |nil=>intro vs h;cases h;exact .nil
 |cons l ss a =>
  intro vs h;cases h with
  |cons r t=>obtain⟨b,rfl⟩:=r;exact .bn (.h _ _) (a t)
/---/def tkD(ss:.A):KTD.Dat:=.E<|ss.map λl=>.ja PyData.str
/---/def R9(T:ug):.f6 KTD.Dat:=.bD R7 T λp=>(p.1,tkD p.2)
def M5{σ:L2.St}{H:Hp}{s:R1}{a:Addr}{T:ug}(I:.n)(t:Fa X.K a T):.amt R9:=by
 obtain⟨j,o,d,f,i,l,u,g⟩:=M4 I t;rw[.bN ⟨j,o,d,f,i,l,u,g.mono λw v h=>?_⟩ .zK];obtain⟨p,e,k,b,n,c,m,q,x,r⟩:=h;exact⟨p,b.toList,e,⟨k,I.kIn _ _ c,m,n,.LQ⟩,R8 r⟩
theorem M6{l:.g}:∀{T:ug},.LJ R9=.k5 .lz
 |[]=>rfl
 |(k,d)::T=>by
  show (.LF||.LJ R9)=_;rw[M6,zh]
  rw[.aV l k]
  ·subst e;simp
  ·have a:.c1 l k:=.eF
   rw[a,z5<|.r2 vm.mp];rfl
def Sa(t:Fa X.K a T):.adU .lz:=by
 rw[.ag8];obtain⟨f,rfl⟩:=c;cases (show .d8 a from d);refine KTD.notin_text (M5 I t) ⟨.bl<|.l6 .lz,H,.OM e,?_,q⟩;rw[M6];cases .lz<;>rfl
def Sb(r:.bo)(k:.j7 A)(t:Fa X.K A T)(j:.bq h)(m:.aoz)(hd:autoParam (.a5) Q1Q._auto_1):.aff E2:=by
 rw[.I (.afv Sa) .fr];obtain⟨ρ,σd,hd,n,c⟩:=e;refine b ?_;have c:=my c;rw[.c0 .aju .fr];obtain⟨q,d,o,u,f,i,g⟩:=e;refine b ?_;cases d<;>try rw[.gJ]
 rename_i l
 dsimp[rD,RD]at i;simp only at g;rw[.ml l i .ZH]
theorem M7{K:zCM}:∀(ss:.A),.fs (.ol .str)<|vTs ss
 |[]=>RDs.nil
 |l::ss=>.yf<|M7 ss
def Fb(Y:.bo)(V:.j7 A)(t:Fa X.K A T)(G:.fJ B)(O:autoParam (Y8 b) Q4Q._auto_1)(hd:autoParam (.a5) Q1Q._auto_1):.alU (Dx T B):=by
 rintro pins s σ H Q I ⟨ρ,σd,hd',J,U⟩;refine .ahA O (thn (.xA A Y V rfl hd pins s σ H (λy j=>y=.d A/\j=H) I .Bv) λu Z f=>?_);obtain⟨y,j,N,S,r,F⟩:=f;subst r F;obtain rfl:.d8 A:=S;refine thn (.a0 G Z σ j (λz g=>∃l d,z=.kh l/\.lz=.a7/\∀q,YR X.K q (vTs d)->.iU q g) N (.au hd' J (.aq U λv g f=>?_))) λiv i f=>?_
 ·obtain⟨L,d,K,r,m,w,a⟩:=f;cases d<;>try exact a.elim
  rename_i l
  dsimp[rD,RD]at w;simp only at a;cases c:.lz with
  |none=>rw[.dc c]
  |some d =>
   rw[c]at a;refine⟨l,d,w,c,λq n=>a.here m ?_⟩;dsimp[rD,Co,RD];rw[.P ⟨trivial,q,_,rfl,n,M7 d⟩]
 ·obtain⟨z,g,k,rz,l,d,W,R,q⟩:=f;subst W
  obtain⟨P,rfl⟩:=rz;have M:=M5 k t;have h:.bi i.TypeIs A "dict" := M.typeIs;rw[.fQ h];unfold getItem
  try with_reducible refine .wT
  rw[.e9 (zUl h .c ?_) (zF<|zYa h zWm<|.abF h)];show .yZ (dictGet A<|.kh l P) i;have D:.aP g { i with toks:=i.toks+1 }:=k.kept<|.gB e;refine zF (VT (M4 k t) (XG.trans R) λv E=>xU (.hJ v (xU ?_)));obtain⟨C,rfl,n⟩:=E;exact .ch .aJ g D (q C n)
def VU(o:.b3 "len")(i:.bX "len")(h:.bq b)(f:autoParam (.hk) Q3Q._auto_1):.ke "len" (MN b):=by
 refine Dq (G0 uV o i PySem.boot_len (he:=f)) h (λρ H σd r σ d v Q m e p=>?_) f;cases d<;>first|rw[.bC]|skip
 rename_i c l
 rw[.FJ]
 ·rename_i j
  dsimp[RD]at e;rcases e with ⟨n,_⟩|⟨_,q,k,rfl,g,rvs⟩
  ·exact .B j n
  ·exact .bh q k (.fp g) (.ay rvs.length<|.jq m)
 ·rw[.bC]
def VV(r:.qY 24):.gs .Eq (.dJ<|∃p q vs,x=.d p/\y=.d q/\.pE p vs/\.pE q []/\.jF vs.isEmpty):=by
 intro pins s σ H x y v u Q I o l h;obtain⟨p,q,vs,rfl,rfl,b,a,k⟩:=h;cases (show v=.ee p from o);cases (show .d8 q from l);obtain⟨i,m,n,_⟩:=.dm b;obtain⟨c,f,d,_⟩:=.dm a;cases f;have g:=SeqAt.RcAt.tuples (A:=X.A) (e:=.c3) n d .b λj b a=>.lf a;refine .cd g ⟨.bl vs.isEmpty,H,I,?_,k⟩;cases m with
 |nil=>rfl
 |cons _ _=>simp;rfl
def VW(s:.qY 24)(u:.bq m)(x:autoParam (.WV .Eq (.Tuple [] k0 r)=false) Q3Q._auto_1):MT X (.x7 a [.Eq] [.Tuple [] k0 r] pos) (tE<|RF m):=by
 rw[.I (PT.imp (zA (VV s) u (Ey eO) x) .EF) .oM];obtain⟨ρ,σd,D,z,f⟩:=g;refine e ?_;have f:=my f;rw[.c0 (.au D z (.aq f λv k g=>?_)) .oM];obtain⟨C,d,A,E,i,o,b⟩:=g;rw[.dq e ⟨.f,λq t=>?_⟩];cases d<;>try rw[.u]
 rename_i c l
 rw[.lD]
 ·rename_i y
  dsimp[rD,RD]at o;rcases o with ⟨n,_⟩|⟨_,B,h,rfl,w,rvs⟩
  ·exact .B y n
  ·have j:lS k (upd k q<|.E []):=cj t
   refine⟨B,q,h,rfl,rfl,.F w,.G<|Rd.of aR,?_⟩;rw[show h.isEmpty=l.isEmpty from by cases l<;>cases h<;>first|rfl|(have:=rvs.length;simp at this)];exact b.at (.f8 j) (i.same j) .eJ
 ·rw[.u]
end
end Fm
namespace PySem.P
open PySem PySem.Spec PySem.Builtin
section
variable{prog:P6}{w:P7}{A:R3}{E:R0->R1->Prop}{s:R1}
def str_of_non(h:Q (.h "None" s.toks) .oq):.d6 (call (.bQ "str") [.none]) :=
 .Yw F.called_str (F.typeCall_str_1 _) (F.newCall_str_1 _) .af0 F.entry_str_new
  (meets_str_new (S:=λ_ R s=>.rd (.h "None" s.toks) { s with toks:=s.toks + 1 }) λ_ _ _ _ s a =>
   wpAny_strOf_gives rfl (typeIs_none s) F.slot_NoneType_str F.slot_NoneType_repr F.entry_NoneType_repr (F.args_NoneType_repr_1 _) gives_none_repr a) ⟨.Hl,h⟩
end
end PySem.P
namespace Fm
open PySem PySem.Spec L2 PySem.W PyProof.Rows
section
variable{X:Cx}{pos p:Pos}{e:Expr}
def OR:.vl "str" (.kq<|.ajV\/(xs=[.non]/\.nD "None")):=by
 intro pins s σ H xs c Q I r h;rcases h with ⟨i,rfl,a,q⟩|⟨rfl,q⟩
 ·rw[.M0 uS r]
  exact .aoC a
 ·obtain⟨u,rfl,b⟩:=uS r
  cases b;exact PySem.P.str_of_non (.Nt _)
def VX(n:.b3 "str")(m:.bX "str")(l:.bq c)(j:autoParam (.hk) Q3Q._auto_1):.ke "str" (Hl c):=by
 refine Dq (g:=λx h=>match x with | .int i=>.cZ .CC (.ib<|vj .yu) | .non=>.ib (vj "None")|_=>.bad) (G1 OR n m .ac (he:=j)) l (λρ H σd o σ d v Q f b p=>?_) j;cases d<;>first|rw[.bC]|skip
 ·rw[.Qv RD]
  rw[.P (.co<|p.here f .JB)]
 ·rename_i i
  rw[.Qv RD];rw[.FJ]
  ·rename_i k
   rw[.O ⟨i,rfl,k,.j3 f .JB⟩]
  ·rw[.bC]
end
end Fm
namespace Fm
/---/def DB(x y:EF):EF:=.yJ<|match p with
 |.ref n=>match h[n]? with
  |some (.lst _)=>.cz y λq h=>match q with
   |.ref m=>match h[n]?,h[m]? with
    |some (.lst l),some (.lst k)=>.cZ .Oe (.MO<|l++k)
    |_,_=>.bad
   |_=>.bad
  |_=>.bad
 |_=>.bad
end Fm
namespace Fm
open PySem PySem.Spec L2 PySem.W PyProof.Rows
section
variable{X:Cx}
def VY{apos cpos:Pos}(U:.jG P)(he:.kp M)(r:autoParam (.mW "extend") Q3Q._auto_1)
  (y:autoParam ((.BC
   && .t1 e)=true) Q3Q._auto_1)
  (q:autoParam (.kd) Q3Q._auto_1) (J:autoParam (.z6) Q3Q._auto_1) :
  .KX "extend" (DB P M):=by
 rw[.I (.U (.ab9 U r y q J) λσ H Q u=>?_) .hU];obtain⟨ρ,σd,hd,rs,L⟩:=u;rw[.eW j hd rs];unfold DB at L;rw[.c0 (.mD L λv H1 u=>?_) .hU];obtain⟨D,d,w,e1,A,I,g⟩:=u;refine j ?_;cases d<;>try rw[.gJ]
 rename_i n
 dsimp[rD,RD]at I;obtain⟨a,N,rfl⟩:=I;simp only at g;cases F:w[n]? with
 |none=>rw[F]at g;rw[.gJ]
 |some cell1 =>
  rw[F]at g;cases cell1 with
  |dct l=>rw[.gJ]
  |dcT l=>rw[.gJ]
  |ob l=>rw[.gJ]
  |lst l1 =>
   obtain⟨vs,S,_⟩:=A.hp.cel n _ a F N;simp only at g;refine⟨.G ⟨rfl,vs,.e4 S⟩,D,σd,w,A,?_⟩;rw[.c0 (.mD g λv2 G u=>?_) .hU];obtain⟨C,d2,s,V,h,B,f⟩:=u;refine j ?_;cases d2<;>try rw[.eS]
   rename_i m
   dsimp[rD,RD]at B;obtain⟨b,Z,rfl⟩:=B;simp only at f;cases c:s[n]? with
   |none=>rw[.ji c]
   |some cell =>
    cases d:s[m]? with
    |none=>rw[c,d]at f;cases cell<;>exact f.elim
    |some cell' =>
     rw[c,d]at f;cases cell<;>cases cell'<;>try rw[.eS]
     rename_i l k
     simp only at f;split at f
     ·rename_i W
      have p:=V.get N;rw[.hD];obtain⟨z,E,i⟩:=.tU p;obtain⟨O,T,t⟩:=h.hp.cel m _ b d Z;rw[.dq j ⟨a,b,z,O,rfl,rfl,E,T,?_,?_⟩]
      ·rw[.jJ i.length t.length (zBL W .sj)]
      ·have Y:.nw n:=.aw c
       have rh:=h.hp.write p Y<|.po i t;have K:Ext C G C (.fE G<|.hM z O):=.tX p;exact f.at K (h.ext K rh) .eJ
     ·rw[.eS]
end
end Fm
namespace Fm
/---/def vn(a:EF)(lo hi:OF):EF:=.Kb<|match x with
 |.tup l=>.lv .GD
 |_=>.bad
end Fm
namespace HT
open PySem PySem.Spec PyProof.Rows L2
section
variable{prog:P6}{w:P7}{A:R3}{E:R0->R1->Prop}{s:R1}
def getItem_tuple_whole{lo hi:.X}(c:.vp t a)(k:.Me f j l .none)(pl:.n3 j lo)(o:.n3 l hi)
  (i:.z7=0/\.yd=a.size) (h:.iU t s):.d6 (.bi getItem t .l4):=by
 obtain⟨n,d,e,m⟩:=id k;have g:.Oy f "slice" := ⟨n,d,e⟩;unfold getItem
 try with_reducible refine .wT
 first|refine .wJ|skip
 rw[.e9 .anv (zF<|.aeX
  .abH)]
 show .agy;rw[.e9 .anL (zF (wpAny_typeOf g ?_))];rw[z3 .c];refine zF (oQ k pl o ?_);have b:.acP:=by
  rw[i.1,i.2];simp
 show .acI;rw[z3 b];refine zF ?_;unfold Builtin.Tuple.tupleIsExact;refine zF (wpAny_typeOf c.typeIs (xU ?_));rw[z3 .c];refine .gx wpAny_rule
 first
  |exact .t9
  |exact zF .t9
  |exact zF (xU .t9)
end
end HT
namespace Fm
open PySem PySem.Spec L2 PySem.W PyProof.Rows
section
variable{X:Cx}{pos p:Pos}
/---/def abW(K:zCM):.ul:=.FP<|.uM<|.tM SqT/\
 (.QV->Q .z H)/\
 (¬.QV->.q9 (.E<|.BQ xs))
def VZ:SlR X (abW X.K):=by
 intro pins s σ H x v q t i g o Q I j n f m h;obtain⟨a,b,rfl,k,q1,q2⟩:=h
 by_cases d:.ks b.length 0 i=0/\.ks b.length b.length g=b.length
 ·cases j
  obtain⟨e,r,l,u⟩:=.dm k;have c:e.toArray.size=b.length:=.p UC r.length.symm
  refine .adN l.typeIs;exact HT.getItem_tuple_whole l n f m (.p c d) (.ch .z H I<|q1 d)
 ·exact .hX QR _ v q t i g o Q I j n f m ⟨a,b,rfl,k,d,q2 d⟩
def OT(h:.agl):.GD=l:=by
 unfold cut;rw[h.1,h.2];simp
def DC{lo hi:.Hc}{B D:OF}(V:.bq A)(T:MO X lo B)(N:MO X hi D):.t7 (.ys r) (vn A B D):=by
 rw[.I (.U (uT VZ V T N) .EB) .fr];obtain⟨ρ,σd,Y,M,C⟩:=c;refine b ?_;unfold vn at C;rw[.c0 (.au Y M (.mD C λv H1 c=>?_)) .fr];obtain⟨t,d,s,e1,h,O,P⟩:=c;rw[.eR (b ?_) (.bv t s h (.IU P λG H2 c=>?_)) .fr];obtain⟨y,I,x,J,j,q2,r⟩:=c;refine b ?_;cases q2;rw[.c0 (.bv y x j (.IU r λK Z c=>?_)) .fr];obtain⟨S,F,L,U,g,q3,i⟩:=c;refine b ?_;cases q3;have k:=.of O.mono (h.hp.kp J)<|j.hp.kp U;cases d with
 |tup l =>
  simp only at i;dsimp[RD]at k;rw[.j .fr];obtain⟨q,w,rfl,E,f⟩:=k;refine b ?_;have e:.Q9:=.TZ
  refine⟨q,w,rfl,.d7 E,.gz,λ_ W u=>?_⟩
  ·rw[<-f.length,<-e,<-e]at z
   rw[OT z]at i;exact i.here g (.nG q w E f)
  ·have m:=.oA (wL w G K) u
   exact i.at (.f8 m) (g.same m) (.nG W _ aR<|.of ER f<|.lL m)
 |_=>exact i.elim
end
end Fm
namespace Fm
/---/def nQ(a b:EF):EF:=.cF<|match x with
 |.str l=>.Kj (match y with
  |.str k=>.aY .agU
  |_=>.bad)
 |_=>.bad
noncomputable def bD(sp:.g):.A->.g
 |[]=>[]
 |[x]=>x
 |x::y::r=>x++sp++bD sp (y::r)
/---/def lu(sp:.g)(a:LF):EF:=.uw<|match o3 l with
 |some ss=>.gI .aoZ (.h<|bD sp ss)
 |none=>.bad
end Fm
namespace Fm
open PySem PySem.Spec L2 PySem.W PyProof.Rows
theorem wW(sp:.g):∀ss:.A,.Nu sp .Ho=.YI
 |[]=>rfl
 |[x]=>rfl
 |x::y::r=>by
  have a:=wW sp<|y::r;show toS x++toS sp++.Nu sp ((y::r).map toS)=_;rw[a,pQ,pQ];rfl
def DD(sp:.g)(ss:.A):Txt.join (toS sp) .Ho=.YI:=.aiN<|wW sp ss
/---/def Zy(K:zCM)(sp:.g):.sU:=.wN<|∃(q:Addr) (ss:.A),x=.kh sp/\.ads (.aoZ/\.nD .YI)
section
variable{X:Cx}{pos p:Pos}
def Sc(sp:.g):MtR X "str.join" (Zy X.K sp):=by
 intro pins s σ H x z v w Q I m o h;rw[.hD];obtain⟨q,b,rfl,rfl,c,y,f⟩:=h;obtain⟨t,rfl⟩:=m;obtain⟨u,rfl,l⟩:=o.one;refine j ?_;cases (show .d8 q from l);have g:.afJ sp:=by
  have:.Rn=b.map (·.length):=.aec
  rw[this,zST,gL]
  lia
 rcases c with c|c
 ·obtain⟨d,r,i,_⟩:=.e3 c
  exact .alK .adW
 ·obtain⟨_,d,r,n⟩:=.iD q c
  exact join_tuple n .Tf g .adW
def vq{apos cpos p1:Pos}(s:x=toS sp)(he:MQ X e L)(b:autoParam (.afE) Q3Q._auto_1)
  (d:autoParam ((.BC
   && .t1 e)=true) Q3Q._auto_1)
  (a:autoParam (.kd) Q3Q._auto_1) (k:autoParam (.z6) Q3Q._auto_1) :
  .aeC (lu sp L):=by
 rw[.I (.ab5<|Sc sp) .dR];obtain⟨ρ,σd,z,t,n⟩:=g;rw[.eR (f ?_) ⟨rfl,ρ,σd,z,t,(bZ.bind (R:=rQ X.K) n).imp λv A g=>?_⟩ .dR];rw[.apd (f ?_)];subst m;cases c:o3 l with
 |none=>dsimp[c]at p1;rw[.B3]
 |some o =>
  dsimp[c]at p1;split at p1
  ·rename_i r
   have e:=AB h c;rw[.qv .afO]
  ·rw[.B3]
end
end Fm
namespace L2
open PySem PySem.Spec PyProof.Rows Builtin.Str
section
variable{X:Cx}
def OU:MtR X "str.startswith" (.wN<|∃a b:Str,x=.h a/\vs=.l5 b/\.jF .afH):=by
 intro pins s σ H x vs v g Q I d f h;obtain⟨a,b,rfl,rfl,q⟩:=h;obtain⟨t,rfl⟩:=d;obtain⟨u,rfl,c⟩:=f.one;obtain⟨e,rfl⟩:=c;exact call_gives F.slot_str_startswith .Hl F.entry_str_startswith (F.args_str_startswith_2 _ _) (gives_str_startswith a b t e)<|.xK .afH
end
end L2
namespace Fm
open PySem PySem.Spec L2 PySem.W PyProof.Rows Builtin.Str
section
variable{X:Cx}{pos p:Pos}
def adl(l k:.g):(.D (0+.ad toS k<=.ad toS l)&&.ja subAt (toS k) 0)=(.D (.h5 k.length)&&(.gP k.length == k)):=by
 rw[StrLaws.subAt_eq,gL,gL,wm];rfl
def DE{apos cpos:Pos}(y:.jG s)(he:.kp r)(b:autoParam (.mW "startswith") Q3Q._auto_1)
  (g:autoParam ((.BC
   && .t1 e)=true) Q3Q._auto_1)
  (a:autoParam (.kd) Q3Q._auto_1) (w:autoParam (.z6) Q3Q._auto_1) :
  .KX "startswith" (nQ s r):=by
 rw[.I (.U (Ak zXy PySem.F.slot_str_startswith PySem.F.type_str_startswith OU y (.d9 he w) b g a w) λσ H Q f=>?_) .go];obtain⟨ρ,σd,E,A,z⟩:=f;rw[.eu (c ?_) E A (.mD z λv I f=>?_) .go];obtain⟨m,d,j,K,n,t,u⟩:=f;refine c ?_;cases d<;>try exact u.elim
 rename_i l
 dsimp[rD,RD]at t;subst t;rw[.c0 ⟨rfl,m,σd,j,n,.mD u λG J f=>?_⟩ .go];obtain⟨D,C,B,F,i,h,q⟩:=f;refine c ?_;cases C<;>try exact q.elim
 rename_i k
 dsimp[rD,RD]at h;subst h;refine .bh (toS l) (toS k) rfl ?_;rw[adl];exact q.here i .eJ
end
end Fm
namespace L2
open PySem PySem.Spec PyProof.Rows Builtin.Str
theorem DF:∀(tk:Nat) (xs:.dU),bS (xs.map V.str)<|strsFrom tk xs
 |_,[]=>.nil
 |tk,x::r=>.bn (.g5 tk)<|DF (tk+1) r
section
variable{X:Cx}
def Se:MtR X "str.split" (.wN<|∃(a:Str) (c:Nat),x=.h a/\vs=.l5 .fD/\.S a.length/\.S (.s<|.OJ .fD)/\.q9 (.q<|(.OJ .fD).map V.str)):=by
 intro pins s σ H x vs v r Q I m n h;rw[.j .i2];obtain⟨a,c,rfl,rfl,k,g,q⟩:=h;obtain⟨t,rfl⟩:=m;obtain⟨u,rfl,l⟩:=n.one;obtain⟨t',rfl⟩:=l;refine i ?_;have self:.OJ .fD=[a]->listOfItself a t X.A (wants .hm X.xe) s:=λe=>by
  rw[e]at q;exact .JV<|.Pt (o:=.q [V.str a]) (λb j q=>.qw) (zBK _) ⟨.Nv<|.S 1,_,0,.jo .pN,.ds⟩
 cases d:(.D (a.length<.s (.fD:Str))||.D (strKind a<strKind .fD))
 ·cases f:(.afa).isEmpty
  ·have e:.OJ .fD=.RG:=by
    unfold Txt.split;rw[yM<|.p d UG,yM<|.p f UG]
   rw[e]at g q;refine .RM (meets_str_split_sep a .fD t t' d rfl f k g) ?_;exact .JV (I.laid (t':=s.toks+(.RG).length) (o:=.q<|.dg .RG V.str) (λb j q=>.qw) (zBK _) ⟨.p zST g,_,0,DF _ _,.ds⟩)
  ·exact .RM (meets_str_split_not_found a .fD t t' d rfl f) (self (by unfold Txt.split;rw[yM<|.p d UG,z3 f]))
 ·exact .RM (meets_str_split_cannot_occur a .fD t t' d) (self (by unfold Txt.split;rw[z3 d]))
end
end L2
namespace Fm
noncomputable def bL(c:Nat):.g->.A
 |[]=>[[]]
 |x::r=>.Q x c ([]::bL c r)<|match bL c r with
  |p::ps=>(x::p)::ps
  |[]=>[[x]]
theorem qW:∀{p:.g},c∉p->bL c p=[p]
 |[],_=>rfl
 |x::r,h=>by
  have h1:x≠c:=λe=>h<|.p e zCK;have a:=qW (p:=r) λz=>h<|.dF z;rw[bL,yM h1,a]
theorem ui:∀{p:.g},c∉p->bL c (p++c::t)=p::bL c t
 |[],_=>.hP zZo bL .cb
 |x::r,h=>by
  have h1:x≠c:=λe=>h<|.p e zCK;have a:=ui (t:=t) (p:=r) λz=>h<|.dF z;rw[zYb,bL,yM h1,a]
theorem jv:∀{P:.A},P≠[]->(∀p∈P,c∉p)->bL c (.qa P)=P
 |[],h,_=>.bg h
 |[p],_,f=>qW<|f p zCK
 |p::q::r,_,f=>by
  have a:=jv (P:=q::r) .f λx b=>f x<|.dF b;have e:.qa (p::q::r)=p++c::.qa (q::r):=by rw[bD,zBT];rfl
  rw[e,ui<|f p zCK,a]
/---/def ou(c:Nat)(a:EF):LF:=.cF<|match x with
 |.str l=>.gI .m4 (.dg .p7 D.str)
 |_=>.bad
end Fm
namespace Fm
open PySem PySem.Spec L2 PySem.W PyProof.Rows
def Sf(x:Str):toS x.cps.toList=x:=by unfold toS;cases x;simp
def DG(l:.g)(c:Nat):.Xc=.dg .p7 toS:=by
 obtain⟨P,b⟩:=qq ((.Xc).map λx=>x.cps.toList:.A);have e:.Xc=P.map toS:=by
  rw[b,UD];exact(.i (vx λx _=>Sf x)<|List.map_id _).symm
 have j:=.ja StrLaws.join_split .fD;rw[e,.d2<|(.fD:Str)=toS [c],wW]at j;have f:.qa P=l:=by
  have:=.eL (λs:Str=>s.cps.toList) j;simpa[toS] using this
 have ne:P≠[]:=λz=>by
  rw[.w4 (.ja split_len c) e z];have g:.M 0<=cnt c .Lk:=countIn_nonneg _ _;have this:.M 0=1+cnt c .Lk:=this;omega
 have fr:∀p∈P,c∉p:=λp a=>by
  rw[b]at a;obtain⟨x,d,rfl⟩:=.ar a;exact .ja StrLaws.split_free c x d
 rw[e,<-f,jv ne fr]
theorem AI(c:Nat):∀l:.g,.s .p7<=l.length+1
 |[]=>zBK _
 |x::r=>by
  have a:=AI c r;rw[bL];split
  ·rw[xR,xR];lia
  ·cases e:bL c r with
   |nil=>simp
   |cons p b=>rw[e]at a;dsimp[xR]at a⊢;lia
theorem Ht{K:zCM}:∀P:.A,.fs (P.map D.str)<|.bD P.map toS V.str
 |[]=>RDs.nil
 |p::P=>.yf<|Ht P
section
variable{X:Cx}{pos p:Pos}
def vt{apos cpos p1:Pos}{j}(w:x=toS [c])(s:.jG h)(f:autoParam (.mW "split") Q3Q._auto_1)
  (g:autoParam (((.QT<|.jk .rq).all .abA && .aaY
   && .t1 (.Constant (.h x) j p1))=true) Q3Q._auto_1)
  (b:autoParam (.kd) Q3Q._auto_1) (q:autoParam (.jk .rq=.yK .rq) Q3Q._auto_1) :
  MF X (.CW "split" [.rq] [] cpos) (ou c h):=by
 rw[.I (.U (Ak zXy PySem.F.slot_str_split PySem.F.type_str_split Se s (.d9 Ad q) f g b q) λσ H Q t=>?_) .r5];obtain⟨ρ,σd,n,y,a⟩:=t;rw[.eW r n y];unfold ou at a;cases e:h σd n with
 |exc x B=>rw[.aA e a]
 |bad=>rw[.aA e a]
 |ok d z =>
  rw[e]at a;dsimp[aE]at a;intro v C A u i m;cases d<;>try exact a.elim
  rename_i l
  dsimp[rD,RD]at m;subst m;simp only at a;split at a
  ·rename_i k
   refine⟨rfl,toS l,c,rfl,.aE w,.CD k,?_,?_⟩
   ·rw[DG,zST]
    exact zBL (AI c l) (zBL (Nat.succ_le_succ k) .sj)
   ·rw[DG]
    exact a.mk u i (Ht _)
  ·exact a.elim
end
end Fm
namespace Fm
open PySem PySem.Spec L2
section
variable{X:Cx}
end
end Fm
namespace Fm
end Fm
namespace Fm
open PySem PySem.Spec L2 PySem.W PyProof.Rows
end Fm
namespace Fm
noncomputable def Cp(l:.g):.X->.X->.as .g
 |none,some j=>if 0<=j then .b0 l.take j.toNat else .m9 (j = -1) (.b0 l.take<|.sA 1)
 |some i,none=>.m9 (0<=i) .anF
 |some i,some j=>.wZ (0<=i/\0<=j)<|(.gP j.toNat).drop i.toNat
 |none,none=>none
/---/def eT(a:EF)(lo hi:OF):EF:=.Kb<|match x with
 |.str l=>.adS Cp
 |_=>.bad
/---/def AJ:O2:=.dZ<|match x,y with
 |.str l,.int n=>.gI (.h5 1/\.f1 100/\2<=n/\.f3 n) (.str<|.jj .MN)
 |_,_=>.bad
end Fm
namespace L2
open PySem PySem.Spec PyProof.Rows
def mn0{a:Int}{n:Nat}(h:0<=a):0<=min a n:=.aaA ⟨h,zZq _⟩
def mnn{a:Int}{n:Nat}:min a n<=n:=Int.min_le_right _ _
def XH{n:Nat}{j:Int}(h:¬j<=n):n<=j.toNat:=.ajS<|.Li h
def Sg{n:Nat}{j:Int}(h:n<=j):n<=j.toNat:=.ajS h
def mnt{i j:Int}{n:Nat}(h:¬min i n<=min j n):min j.toNat n<=i.toNat:=by
 rw[.eB (.j9 Nat.min_le_left (Int.toNat_le_toNat (Int.le_of_not_le λz=>h ?_))) (.aaA ⟨zVf (Int.min_le_left _ _) z,mnn⟩)]
/---/def clp(n:Nat)(o:.X):.X:=o.map λi=>min i n
def OV(b:.Mh l)(a:.Mh u):.TL l u 1 n=.TL (clp n l) (clp n u) 1 n:=by
 have k:∀i:Int,0<=i->.Ee (.fx i 0 (i+n) i)=.Ee (.fx (min i .ek) 0 (min i .ek+n)<|min i .ek):=λi h=>by
  rw[.y8 h,.y8<|mn0 h,zXd mnn]
 unfold Builtin.Str.strSliceIndices;cases l with
 |none =>
  cases u with
  |none=>rfl
  |some j=>dsimp[clp,Option.map,show .gk>0 by decide,zYh];rw[k j<|a j rfl]
 |some i =>
  cases u with
  |none=>dsimp[clp,Option.map,show .gk>0 by decide,zYh];rw[k i<|b i rfl]
  |some j=>dsimp[clp,Option.map,show .gk>0 by decide,zYh];rw[k i<|b i rfl,k j<|a j rfl]
def wX(b:.Mh l)(a:.Mh u):.oG l u=.oG (clp x.length l) (clp x.length u):=by
 unfold Txt.slice;rw[OV b a]
def OW(h:0<=j)(b:j<=i)(c:i<=x.length):.oG .fH .e6=⟨#[]⟩:=by
 have e:.TL .fH .e6 1 x.length=[]:=by
  unfold Builtin.Str.strSliceIndices sliceRange;dsimp[show .gk>0 by decide,zYh];rw[.y8<|zVf h b,.y8 h,zXd c,zXd<|zVf b c,.Xs h,.Xs<|zVf h b,.y8 b];rfl
 unfold Txt.slice;rw[e];split
 ·rename_i z
  have z:0=x.length:=.LV
  obtain⟨⟨l⟩⟩:=x;cases l with
  |nil=>rfl
  |cons a r=>simp[Str.length]at z
 ·rfl
def abX(n:Nat):.Ee (.fx (-1:Int) 0 (-1+.bp)<|-1)=.Ee (.fx (.aD<|n-1) 0 (.aD (n-1)+.bp)<|.aD<|n-1):=by
 rw[z3 .c,.y8<|zZq _];cases n with
 |zero=>rfl
 |succ m=>rw[show -1+.aD (m+1)=.aD (m+1-1) by rw[Nat.add_sub_cancel,Int.natCast_succ,Int.add_comm,Int.add_neg_cancel_right]]
def V0(h:Fm.Cp x.cps.toList l u=.gU):.oG l u=.aaq:=by
 have a:x.cps.toList.length=x.length:=.k Str.length
 cases l with
 |none =>
  cases u with
  |none=>cases h
  |some j =>
   rw[.Qs Fm.Cp]
   ·rename_i b
    cases h;rw[wX .anj<|.Kp b];show .Yz (.u5 j)=_;rw[AD ⟨mn0 b,.p a mnn⟩];congr 2;rw[<-a];rcases .ahL j with z|z
    ·rw[zXd z]
    ·rw[zVq z,zYc,zYv,zZl<|Sg z]
   ·split at h
    ·rename_i f
     cases h;subst f;have e:.Yz (-1)=.Yz (.mv<|x.length-1):=by
      unfold Txt.slice Builtin.Str.strSliceIndices;dsimp[show .gk>0 by decide,zYh];rw[abX]
     rw[e,AD ⟨zZq _,.FO<|.lR<|Nat.sub_le _ _⟩,a,zYc]
    ·cases h
 |some i =>
  cases u with
  |none =>
   rw[.Qs Fm.Cp]
   ·rename_i b
    cases h;rw[wX (.Kp b) .anj];show .oG (.a<|.u5 i) none=_;rw[AE ⟨mn0 b,.p a mnn⟩];congr 2;rw[<-a];rcases .ahL i with z|z
    ·rw[zXd z]
    ·rw[zVq z,zYc,zXk,zVg<|Sg z]
   ·cases h
  |some j =>
   rw[.Qs Fm.Cp]
   ·rename_i b
    cases h;rw[wX (.Kp<|b.1)<|.Kp<|b.2];show .oG (.a<|.u5 i) (.a<|.u5 j)=_
    by_cases hij:min i (x.length:Int)<=.u5 j
    ·have:=.v1 (slice_closes (x:=x) (i:=.u5 i) (j:=.u5 j) ⟨mn0 b.1,hij,.p a mnn⟩)
     rw[.a9];congr 2;rw[List.drop_take]
     by_cases c:i<=x.length
     ·rw[zXd c]at hij⊢
      by_cases d:j<=x.length
      ·rw[zXd d]at hij⊢
       exact .eL (λk=>List.take k _) (tsb b.1)
      ·rw[zVq<|.Li d]
       rw[zZl (by rw[zXj,a];exact sbt b.1),zZl (by rw[zXj,a];exact Nat.sub_le_sub_right (XH d) _)]
     ·have g:min i (x.length:Int)=x.length:=zVq<|.Li c
      rw[g,zYc,<-a,zXk,zVg<|.FO<|XH c];simp
    ·rw[OW (mn0 b.2) (.Li hij) mnn]
     rw[zVg (by rw[zZe,a];exact mnt hij)]
   ·cases h
/---/def adm:.ul:=.abl Fm.Cp
def V1:SlR X adm:=by
 intro pins s σ H x v C D w p B Q I A d o n h;rw[.j .r5];obtain⟨z,y,rfl,b,g,q⟩:=h;obtain⟨t,rfl⟩:=A;refine r ?_;have e:=V0 g;refine .aei;have fin:∀(a k:Nat),∃v f,.aP f { s with toks:=k }/\cS v (.h (Txt.slice z w p) a)/\Q v f:=λa k=>⟨.h .aaq,H,I.tok k,⟨a,.bA e⟩,q⟩;cases o with
 |none =>
  cases n with
  |none=>cases g
  |int j c=>exact .ae8 none
 |int i m =>
  cases n with
  |int j c=>exact .ae8<|.a (i,m)
  |none=>exact .ahX m d rfl .abn
end L2
namespace Fm
open PySem PySem.Spec L2 PySem.W PyProof.Rows
section
variable{X:Cx}{pos p:Pos}
def o7{lo hi:.Hc}(M:.bq r)(K:MO X lo s)(F:MO X hi u):.t7 (.ys j) (eT r s u):=by
 rw[.I (.U (uT V1 M K F) .EB) .dR];obtain⟨ρ,σd,N,E,t⟩:=c;refine f ?_;unfold eT at t;rw[.c0 .ajY .dR];obtain⟨n,d,k,T,g,G,I⟩:=c;rw[.eR (f ?_) .ai8 .dR];obtain⟨q,z,o,A,h,q2,j⟩:=c;refine f ?_;cases q2;rw[.c0 .aja .dR];obtain⟨J,w,C,L,m,q3,b⟩:=c;refine f ?_;cases q3;have i:=.afN;cases d with
 |str l =>
  dsimp[RD]at i;rw[.lD]
  ·rename_i D
   cases e:Cp l x B with
   |none=>rw[.bR e]
   |some y =>
    rw[e]at b;exact .aht
  ·rw[.u]
 |_=>rw[.u]
end
end Fm
namespace Fm
open PySem PySem.Spec L2
section
variable{X:Cx}{pos:Pos}
end
section
variable{X:Cx}{pos p:Pos}
theorem oR(l:.g):∀(n:Nat) (a:.pp),(.b4 n (l.toArray:.pp)).foldl (· ++ ·) a=.eZ (a.toList++(.b4 n l).flatten)
 |0,a=>.f
 |n+1,a=>by rw[zZr,List.foldl_cons,oR l n];simp[zZr]
noncomputable abbrev MuS(x y:V)(H:Hp)(Q:VK):Prop:=∃(l:.g) (n:Int),x=.h .yR/\y=.gj/\.h5 1/\.f1 100/\2<=n/\.f3 n/\.nD .Rq
def vv{K:zCM}:Og K AJ MuS:=by
 intro ρ H σd e σ d k v w Q c b a p;unfold AJ at p;cases d<;>try rw[.bC]
 rename_i l
 cases k<;>try rw[.bC]
 rename_i n
 rw[.FJ]
 ·rename_i h
  dsimp[RD]at b a;exact⟨l,n,.aE b,a,h.1,h.2.1,h.2.2.1,h.2.2.2,.j3 c .tK⟩
 ·rw[.bC]
def vw:.ot .Mult MuS:=by
 intro pins s σ H x y v u Q I i g h;rw[.n9];obtain⟨l,n,rfl,rfl,a,f,r,w,q⟩:=h;obtain⟨t,rfl⟩:=i;obtain⟨o,rfl⟩:=g;refine d ?_;have e:Txt.mul .yR n=.Rq:=by
  unfold Txt.mul;have b:.c1 n 1:=.bz
  have z:.c1 (.s (.yR:Str)) 0:=by simp[Str.length];intro q;rw[.ik q]
  rw[.n0,b];rw[yM<|.jV z,oR];simp
 refine SB.mul ⟨?_,.nR ?_,.nR ?_⟩ λj k=>?_
 ·have m:¬n < -(2^63:Int):=.b
  have c:¬n≥2^63:=.b
  simp[m,c];lia
 ·show ¬(.aD l.length>(2^63-1)/n)
  have:.M 100<=(2^63-1)/n:=by
   apply Int.le_ediv_of_mul_le .b
   lia
  lia
 ·show .F3<|.Ug>sizeLine
  rw[zZt];have:.Ug<=100*1000:=zVn f .b;exact .nW
 ·rw[e]
  exact⟨.h .Rq,H,I.tok k,.g5 j,q⟩
end
end Fm
namespace L2
open PySem PySem.Spec PyProof.Rows
/---/def abY(K:zCM)(M:Addr)(i L:Nat)(tb:.er->TS):TS:=.kr<|∃E:.er,tb E { nx:=D.nx,rt:=.bw } σ H/\
 ∀C H' a σ',E C H'->H' a=none->σ'.length=L->σ'[i]?=.bx a->.xN K/\D.nx σ' (.fE H' .pH)
section
variable{X:Cx}{body:List Stmt}{x n c:Str}{M:Addr}{i j:Nat}{np cp vp ap hp pos:Pos}{tb:(Addr->Hp->Prop)->TS}
def OX(hb:∀q E,PSs ((.ny).wish<|XF .ny E) body<|tb E)(a8:X.xe=.bw)(b:.zy)(a1:.xy)(hm:.j7 M)(hg:.bo)
  (P:.Kz) (N:.Mf) (U:.II) (Q:X.N.Nodup) (S:i≠j) (F:.ES) (d:.p1 n)
  (hi:X.N[i]?=.a8) (r:.p1 c) (Y:autoParam (.a5) Q1Q._auto_1) (V:autoParam (.jt n) Q1Q._auto_1) (a2:autoParam (.tG n) Q1Q._auto_1)
  (hs:autoParam (.W0 vp ap.line X.env=.qC) Q3Q._auto_1) :
  PS X (.Try body [.IS np [.Og vp ap] hp] [] [] pos) (abY X.K M i X.N.length tb):=by
 rintro pins s σ H D I ⟨E,h1,h2⟩;refine wpAny_Try_except (zZd (hb .zn E [] s σ H _ ((I.pinq).wish _) h1) (λf A q=>?_) λe A q=>?_)
 ·cases f with
  |next=>obtain⟨T,H1,J,q⟩:=q;exact .a0 zx A T H1 D J.unwish.unpin q
  |brk=>rw[.sy]
  |cont=>rw[.sy]
  |ret u=>rw[.MS q.elim]
 ·rw[.j .vn];obtain⟨h,σ',l,a,C,B,t,rfl,J,W,G,q⟩:=q;refine m ?_
  have hf:.WR:=.ay b I.ok.frames
  have a4:.my .vz A.heap:=.ay b W
  have hn:l a=none:=by
   cases e:l a with
   |none=>rfl
   |some u=>obtain⟨o,z⟩:=G.trk a u e;rw[.fh (W.2.1)]
  refine wpAny_looks_onW hf a1 a4 λh4 L a3=>wpAny_landsW L λh5 g O=>?_;have K:=J.flown (h':=h5) W.1 g.1 (a3.trans O) G A.toks;rw[.j .vn];obtain⟨oe,vs,a0,Z,a7,_⟩:=g.first;refine m ?_;have hw:∀σ'',σ''.length=X.N.length->σ''[i]?=.bx a->.xN X.K/\D.nx σ'' (.fE l .pH):=λσ'' e1 e2=>h2 C l a σ'' q hn e1 e2;have w:σ'.length=X.N.length:=J.len;have hit:i<X.N.length:=.aw hi;have y:.xN X.K:=(hw (σ'.set i .l3) (by simpa using w)<|.bA<|X0 (by omega)).1;rw[.cN (.af3<|.adg (K.mod.glob.keeps K.bk) Y) (Hs K.kIn ⟨a0,Z⟩ y P N U .ajA)];refine lands_againW g λh6 p R=>?_;have J6:=K.flown (h':=h6) g.1 p.1 R G A.toks;have J7:=J6.exc (.ahq p) G;refine uQ (X:=.mH) J7 Q F (.G d) (v:=.z) rfl (λs8 J8=>?_)<|.F d;have ps:PSs ((.mH).sui a) [.Og vp ap] (Yz (Ym j)<|QC i):=pI<|wF Q hi (.G r) (Ac F (.G d) V a2) hs<|.F r;refine zZd (ps h s8 _ _ { nx:=λk H9=>k=(σ'.set j .l3).set i .l3/\H9=.fE l .pH,rt:=.bw } (J8.marked a)<|.mh .z (by rw[X0 (by rw[J.len];exact .aw F)]) rfl) (λf s9 q=>?_)<|.uE z.elim;cases f with
  |brk=>rw[.sy]
  |cont=>rw[.sy]
  |ret u=>rw[.MS q.elim]
  |next =>
   rw[.j .vn];obtain⟨k,H9,J9,rfl,rfl⟩:=q;rw[.da m (Inv.goes (X:=.mH) (J9.unmark I.ok.hd) Q F d λa6 a5=>⟨_,_,a5.unpin,(hw _ ?_ ?_).2⟩)]
   ·simpa using w
   ·rw[.pu S,X0 (by dsimp[zZn];omega)]
end
end L2
namespace Fm
open PySem PySem.Spec L2 PyProof.Rows
/---/def l8(K:zCM)(f:Addr->.bF Bool)(tb:.yS):Prop:=∀c b,(c,b)∈tb->∃C,.rj c/\qU K C/\f C b
def ow{K:zCM}:l8 K f []:=.iY<|.B h<|zYo
def aQ{K:zCM}(n:.rj c)(Z:qU K C)(k:f C b)(r:l8 K f tb):l8 K f ((c,b)::tb):=λd a h=>by
 rw[.hs h]
 ·cases e;rw[.al C n Z k]
 ·exact r d a e
theorem AK:∀{tb:.yS},.v3 c=.cu->(c,b)∈tb
 |[],h=>.Pn
 |(a,d)::r,h=>by
  rw[zh]at h;cases e:c == a with
  |true =>
   rw[e]at h;have:=.v1 e;subst this;cases h;exact zCK
  |false=>rw[e]at h;exact .dF (AK h)
/---/def OY(K:zCM)(mg:.gD)(M:Addr)(cs:.ai String):Prop:=∀c∈cs,∃C,.IX/\.rj c/\.xN K
def Zz{K:zCM}:OY K mg M []:=λ_ h=>.B h<|zYo
def sr{K:zCM}(g:.IX)(n:.rj c)(s:.xN K)(r:OY K mg M cs):OY K mg M (c::cs):=λa h=>by
 rw[.hs h]
 ·subst e;rw[.al C g n s]
 ·exact r a e
section
variable{X:Cx}{pos p:Pos}
def ZA{np cp Z Y hp:Pos}(T:X.N.length=L)(I:X.xe=.bw)(hb:∀q,MXs .ny (XF .ny) tb o)(h:.zy)
  (O:.xy) (hm:.j7 M) (hg:.bo) (t:.Kz) (s:.Mf)
  (A:.II) (hN:X.N.Nodup) (w:i≠j) (hj:.ES) (u:.p1 n) (hi:X.N[i]?=.a8) (K:.p1 c)
  (N:.h2 OY M cs) (B:autoParam ("" ∉cs) Q1Q._auto_1)
  (G:autoParam (.a5) Q1Q._auto_1) (F:autoParam (.jt n) Q1Q._auto_1) (P:autoParam (.tG n) Q1Q._auto_1)
  (hs:autoParam (.W0 Z Y.line X.env=.qC) Q3Q._auto_1) :
  MS X (.Try tb [.IS np [.Og Z Y] hp] [] [] pos) (RK L i cs o):=by
 refine PS.imp (OX (tb:=λE=>.h2 yx E o) (λq E=>hb q E) I h O hm hg t s A hN w hj u hi K G F P hs) λEn σ H zz=>?_;obtain⟨ρ,σd,R,W,b⟩:=zz;unfold RK at b;cases e:o σd R with
 |nx σ1 S=>rw[e]at b;exact⟨.bw,.au R W<|.p e b,λ_ _ _ _ z=>z.elim⟩
 |rt _ _=>rw[.bR e]
 |bk _ _=>rw[.bR e]
 |ct _ _=>rw[.bR e]
 |bad=>rw[.bR e]
 |exc y σ1 S =>
  rw[e]at b;cases y with
  |exn V l =>
   cases l with
   |cons _ _=>rw[.u]
   |nil =>
    rw[.lD]
    ·rename_i hcn
     obtain⟨C,m1,m2,m3⟩:=N V hcn;rw[.eD (λQ m=>Q=C/\∃ρ',.gp m/\.p2 RH m S) (.au R W (by rw[e];exact⟨V,[],C,rfl,m1,λm ρ' J r=>⟨rfl,ρ',J,r⟩⟩))];rintro Q m a σ' ⟨rfl,ρ',J,r⟩ U hl v;rw[.bN m3 (b σ' _ ρ' (J.sm<|cj U) ⟨r.same<|cj U,?_,λk d g=>?_⟩)]
     ·rw[zZn,zZx,hl,T]
     ·by_cases hki:k=i
      ·subst hki
       have f:k<L:=by rw[<-T];exact .aw hi
       dsimp[slot,X0<|show k<.s (.b4 L (none:.J)) by rw[.ap zZx f]]at g;cases g;rw[.C .z v (by dsimp[RD];rw[.O ⟨λz=>B<|.ay z hcn,trivial,a,Q,rfl,aR,m2⟩])]
      ·exfalso
       dsimp[slot,.pu hki]at g
       by_cases f:k<L
       ·rw[.pM (List.getElem?_replicate_of_lt f)]
       ·rw[.pM (zZz (by rw[zZx];omega))]
    ·rw[.u]
  |_=>rw[.u]
def kG(E:RU v=true)(J:.b3 "isinstance")(D:.bX "isinstance")(x:.af (.gg f)<|tC v)
  (r:l8 X.K (λC b=>.th X.K .aJ (mQ v)=.cu) tb) (A:.bq s) (j:autoParam (.v3 ""=none) Q3Q._auto_1)
  (w:autoParam (.bS [a,.gg f]=.ef a::.bS [.gg f]) Q3Q._auto_1) (o:autoParam (.bS [.gg f]=.ef (.gg f)::.bS []) Q3Q._auto_1) :
  .ahQ f (sT tb s):=by
 rw[.I (.U (oP RV J D .ac (cD A (.d9 x o) w) (he:=w)) .q0) .h9];obtain⟨ρ,σd,K,F,y⟩:=i;rw[.eu (h ?_) K F (.mD y λL M i=>?_) .h9];obtain⟨I,d,G,N,m,t,g⟩:=i;refine h ?_;cases d<;>try rw[.gJ]
 rename_i c l
 dsimp[isX]at g;cases e:.v3 c with
 |none=>rw[e]at g;rw[.gJ]
 |some b =>
  rw[e]at g;dsimp[rD,RD]at t;rcases t with ⟨_,rfl,q,C,rfl,z,B⟩|⟨rfl,_⟩
  case inr=>rw[.bd j]
  obtain⟨O,u,Z,k⟩:=r c b<|AK e;rw[B]at u;cases u;exact⟨q,C,v,b,rfl,E,z,Z,k,g.here m .eJ⟩
end
end Fm
set_option maxHeartbeats 4000000
namespace Fm
open PySem PySem.Spec L2 PySem.W PyProof.Rows
/---/def AL(F:Fn)(x:EF)(r:LF):EF:=.ax<|match .aX x with
 |.ok (.ref n) h=>match h[n]? with
  |some (.ob _)=>match .jM with | .ok xs h=>F (.aK::xs) h|_=>.bad
  |_=>.bad
 |_=>.bad
structure Hu(P:P6)(w:P7)(K:zCM)(mg:Str->Option R0)(base:Heap)(C:Addr)(m:Str)(k np:Nat)(F:Fn):Prop where
 ex:∃f fd ps,Vc K C m f/\gD K fd ps []/\cx P w K mg base (CX1 P w) k f fd ps (spY K mg F np)
section
variable{X:Cx}{E:Addr->Hp->Prop}{pos p:Pos}{C:Addr}
def V2{m:Str}(a:m≠"web"):(t7 vs).lookup m=none:=by
 unfold t7
 induction vs with
 |nil=>rfl
 |cons v vs b =>
  rw[xI,zh];rw[.alJ .xB];exact b
def Sh{apos:Pos}{pl:Sem Bool}(T:.sY)(hd:.jW Hu C m k np F)(hr:.hz k)(Z:.jG M)(K:.vd j)(hR:∀v R,XF X E v R->X.xe v R)
  (hnp:.ya .o2) (hm:m≠"web")
  (J:autoParam (.hl j=.i3 j) Q3Q._auto_1) (hpl:autoParam (.eN j) Q3Q._auto_1)
  (ht:autoParam (.Yx j=(do
   let ov <-.cP o
   .aan
   let (f,first) <-.nj [ov] .Vh
   .SD j)) Q3Q._auto_1) :
  NE X E (.KJ<|e::j) (AL F M r):=by
 rw[.j .lo];obtain⟨f,fd,ps,W,h2,h3⟩:=hd.ex;rw[.ht s (.U (.aoQ Mn Z T.cls W h3 hr h2 .nil (MV (λC H y=>by obtain⟨C',e,q⟩:=y;rw[.sx q]) hR) K J hpl ht) λσ H Q y=>?_) .lo];obtain⟨ρ,σd,hd,rs,b⟩:=y;rw[.eW s hd rs];unfold AL at b;cases A:M σd hd with
 |bad=>rw[.bR A]
 |exc z P=>rw[.bR A]
 |ok d g =>
  rw[A]at b;cases d with
  |ref n =>
   simp only at b;intro v H1 B S i D;cases c:g[n]? with
   |none=>rw[.bR c]
   |some cell =>
    rw[.hQ];cases cell with
    |lst l=>rw[.u]
    |dct l=>rw[.u]
    |dcT l=>rw[.u]
    |ob l =>
     have I:=D;dsimp[rD,RD]at D;rw[.j .lo];obtain⟨a,K,rfl⟩:=D;obtain⟨vs,C',dx,q1,q2,q3⟩:=.lV i.hp.cel K;rw[.H6 (s ?_) .G8];refine⟨a,dx,_,rfl,q1,V2 hm,B,σd,g,i,?_⟩;cases L:.kR g with
     |bad=>dsimp[L]at b;rw[.u]
     |exc z P=>dsimp[L]at b;rw[.u]
     |ok ds t =>
      dsimp[L]at b;intro us H2 O x w ru;rw[X1];have u:F .Hv t ≠ .bad:=λz=>by rw[.iy z b]
      refine .iN O t .Hv w.hp ?_<|hnp _ _ u
      ·dsimp[RDs]
       exact .bh _ _ (I.mono<|i.hp.kp x) ru
      ·cases N:F .Hv t with
       |bad=>exact u N
       |exc z P =>
        rw[N]at b;rw[.j .lo];obtain⟨cn,l,C,q1,q2,q3⟩:=b;rw[.cX s ⟨cn,l,C,q1,q2,λH3 G e3 V=>.hJ C<|q3 H3 G (S.trans<|x.trans e3) V⟩]
       |ok d a0 =>
        rw[.iy N λv Y ρ' U rh rd=>b v Y ρ' (S.trans<|x.trans U) (w.ext U rh) rd]
  |_=>rw[.u]
def ns_fldW{o e:Expr}{F K:EF}{f:Pos}(T:.sY)(O:.jG F)(he:.xx K)(V:autoParam (.tx (.a .Zd)) Q3Q._auto_1):.aeu:=by
 rw[.I .ais .r5];obtain⟨ρ,σd,Z,S,p⟩:=t;rw[.eu (r ?_) Z S (.EG λv Q t=>?_) .r5];obtain⟨m,d,k,e1,q,U,b⟩:=t;rw[.dq r (.bv m k q ?_)];unfold fPl at b;cases u:F σd k with
 |bad=>rw[.BZ u noX];rw[.u]
 |exc z h'=>rw[.BZ u noX];rw[.u]
 |ok dO g =>
  rw[.BZ u noX];intro M s i G h I;have w:=.Yj G;cases dO with
  |ref n =>
   simp only at b;cases c:g[n]? with
   |none=>rw[.bR c]
   |some cell =>
    rw[.hQ];have R:n < g.length:=.aw c;have fin:.acc PostX:=λ{l} c W f=>(show .abT by
     dsimp[rD,RD]at I;rw[.j .r5];rw[.apc (.tU B)];rw[.H6 (r ?_) .G8];have N:j.length<=1:=.ay q2.length W
     have P:.aly:=by
      cases j with
      |nil=>rfl
      |cons x j =>
       cases j with
       |nil=>rfl
       |cons y j=>exact .adG
     refine .adt;rw[P];have Y:=.abw;have J:.afi:=.tX B;exact .aid)
    cases cell with
    |lst l=>rw[.u]
    |dct l=>rw[.u]
    |dcT l=>rw[.u]
    |ob l =>
     match l,b,c with
     |[],f,c=>exact .OY zZc
     |[_],f,c=>exact .OY zBK
     |_::_::_,f,_=>rw[.eS]
  |_=>rw[.u]
end
end Fm
namespace Fm
open PySem
variable{α β:Type}
noncomputable def KD{α:Type}:Sem α->Prop
 |.pure _=>True
 |.raise _=>True
 |.unsupported _=>True
 |.finish _=>True
 |.rule _ k=>.gN ()
 |.at _ k=>.gN ()
 |.load _ _ k=>∀o,.gN o
 |.update _ _ f k=>(∀o:Obj,.cM o.isFreed->(f o).dict=o.dict/\(f o).isFreed=false)/\.gN ()
 |.alloc _ k=>∀a,.gN a
 |.loadIfAlive _ k=>∀o,.gN o
 |.point _ k=>.gN ()
 |.register _ _=>True
 |.fresh k=>∀t,.gN t
 |.ask k=>∀x,.gN x
 |.choose _ _ k=>∀n,.gN n
 |.os _ _ k=>∀r,.gN r
 |.call .. => False
 |.handled _ k=>∀v,.gN v
 |.newGen _ k=>∀n,.gN n
 |.genState _ k=>∀x,.gN x
 |.resume .. => False
 |.yield .. => True
 |.stack k=>∀l,.gN l
 |.fork .. => True
 |.thread k=>∀n,.gN n
 |.await .. => True
def KD.bind{f:α->Sem β}(h:KD m)(g:∀a,KD<|f a):KD (m >>= f):=by
 show KD<|m.bind f
 induction m with
 |pure a=>exact g a
 |raise e=>trivial
 |unsupported w=>trivial
 |finish e=>trivial
 |rule t k i=>exact i () h
 |«at» p k i=>exact i () h
 |load a p k i=>exact .j0
 |update a p f k i=>exact⟨h.1,i () h.2⟩
 |alloc o k i=>exact .j0
 |loadIfAlive a k i=>exact .j0
 |point l k i=>exact i () h
 |register a k i=>trivial
 |fresh k i=>exact .j0
 |ask k i=>exact .j0
 |choose s n k i=>exact .j0
 |os q l k i=>exact .j0
 |call c j g l k i=>rw[.Ak]
 |handled b k i=>exact .j0
 |newGen c k i=>exact .j0
 |genState g k i=>exact .j0
 |resume g r l k i=>rw[.Ak]
 |yield v g l k i=>trivial
 |stack k i=>exact .j0
 |fork c k i=>trivial
 |thread k i=>exact .j0
 |await a t d l k i=>trivial
/---/def qu(h h':Heap):Prop:=.cJ<|.fv b->∃o',.hb b=.a o'/\o'.dict=o.dict
def qu.refl(h:Heap):qu h h:=.gB ⟨o,e,rfl⟩
def abZ(k:KD t){Q:α->.eK Pos}(d:qu A s.heap)(h:Sem.wp M B t Q E p s):
  Sem.wp M B t (λa p u=>Q a p u/\qu A u.heap) (λe p u=>E e p u/\qu A u.heap) p s:=by
 induction t generalizing p s with
 |pure a=>rw[.o h d]
 |raise e=>rw[.o h d]
 |unsupported w=>exact h
 |finish e=>exact h
 |rule t j i=>rw[.MZ .Z0]
 |«at» J j i=>rw[.MZ .Z0]
 |load a q j i =>
  rw[.yA];obtain⟨o,e,h⟩:=h;rw[.ci e (i o (k o) d h)]
 |update a q f j i =>
  rw[.yA];obtain⟨e,h⟩:=h;rw[.bN e (i () k.2 (λb o z=>?_) h)];obtain⟨m,x,y⟩:=d b o z
  by_cases c:b=a
  ·subst c
   have D:.cM m.isFreed:=.amF x;obtain⟨H,C⟩:=k.1 m D;exact⟨f m,zWk f x C,H.trans y⟩
  ·rw[.C m (.i (zVe _ _<|zZs c) x) y]
 |alloc o j i =>
  rw[.yA];refine i _ (k _) (λb m z=>?_) h;obtain⟨F,x,y⟩:=d b m z;rw[.C F (.gv x) y]
 |loadIfAlive a j i=>rw[.tf]
 |point l j i=>rw[.MZ .Z0]
 |register a j i=>rw[.Ic Sem.wp]
 |fresh j i=>rw[.tf]
 |ask j i=>rw[.tf]
 |choose u n j i=>rw[.yA];exact⟨h.1,i _ (k _) d h.2⟩
 |os q l j i=>rw[.tf]
 |call c K g l j i=>exact k.elim
 |handled b j i=>rw[.tf]
 |newGen c j i=>rw[.tf]
 |genState g j i =>
  rw[.yA];obtain⟨G,e,h⟩:=h;rw[.C G e .abq]
 |resume g r l j i=>exact k.elim
 |yield v g l j i=>rw[.Ic Sem.wp]
 |stack j i=>rw[.tf]
 |fork c j i=>rw[.Ic Sem.wp]
 |thread j i=>rw[.tf]
 |await a t I l j i=>rw[.Ic Sem.wp]
def qX{Q:.eK α}(k:KD t)(h:.mG t):
  .BE t (λa b=>Q a b/\.dx qu b.heap) (λe b=>E e b/\.dx qu b.heap) s:=λd p c=>abZ k (qu.refl _)<|h d p c
def Fc:KD (load a):=.FA
def Hv:KD (fieldsOf v):=by
 unfold fieldsOf
 repeat' (first|rw[.jA]|apply KD.bind|intro _|exact Fc|split)
def vA:KD (field v i):=by
 unfold field;refine Hv.bind λa=>?_;rw[.aaW]
def Fd:KD (update a<|Obj.mapFields f):=by
 rw[.bN (λo h=>?_) trivial];obtain⟨c,d,b,e⟩:=o;cases b<;>exact .co h
def yy:KD (setField v i x):=by
 unfold setField;split
 ·unfold updateField
  refine Fc.bind λo=>?_;split
  ·split
   ·exact Fd
   ·rw[.jA]
  ·rw[.jA]
 ·rw[.jA]
def pS:KD (setFlight v f):=by
 unfold setFlight;refine vA.bind λa=>?_;split
 ·exact yy
 ·rw[.jA]
def OZ:KD (behindIsImport env l):=by
 unfold behindIsImport
 repeat' (first|rw[.jA]|exact vA|apply KD.bind|intro _|split)
def Hw:KD (keptBack env b l):=by
 unfold keptBack underTheClaimsCaller
 repeat' (first|rw[.jA]|exact .FA|apply KD.bind|intro _|split)
theorem Hx:∀{l:.f9},KD<|readyFrames l
 |[]=>trivial
 |env::outer=>by
  unfold readyFrames;split
  ·refine Fc.bind λo=>?_
   split
   ·rw[.jA]
   ·refine OZ.bind λb=>Hw.bind λv=>KD.bind ?_ λ_=>Hx
    rw[.o (λo h=>.co (by obtain⟨c,d,a,e⟩:=o;cases a<;>exact h)) trivial]
  ·rw[.jA]
def Ko:KD (frameOf env):=by
 unfold frameOf frameEnvs;refine KD.bind (KD.bind .FA λ_=>trivial) λl=>KD.bind ?_ λv=>?_
 ·unfold frameObject
  split
  ·rw[.jA]
  ·exact Hx.bind λ_=>trivial
 ·rw[.aaW]
def Si:KD (entryPlaceOf a b):=by
 unfold entryPlaceOf;refine KD.bind .FA λl=>?_;rw[.aaW]
def Fe:KD (newFields t l):=by
 unfold newFields newObj newObjAsIs
 repeat' (first|rw[.jA]|exact .FA|apply KD.bind|intro _|split)
def M8:KD (noteFrame v env):=by
 unfold noteFrame EntryCells.newEntry;split
 ·refine vA.bind λa=>?_
  repeat' (first|rw[.jA]|exact Ko|exact Si|exact Fe|exact yy|exact vA|apply KD.bind|intro _|split)
 ·rw[.jA]
def AM:KD (leaving env v):=M8.bind λ_=>pS
end Fm
set_option maxHeartbeats 4000000
namespace Fm
open PySem
section
variable{prog:P6}{w:P7}{A:R3}{E:R0->R1->Prop}{h:Heap}{g:Array GenState}{d:Drawn}{t:Nat}{os:OsState}
variable{nm q:Str}{C N:Addr}{bs bm bmB:List R0}{hdct:Bool}{sn:List Str}{sub:List R0}{ab:Bool}{col:Option Bool}{dd:Option Addr}{k0 k1 k2 k3 k5:Option R0}{B newId initId:String}
noncomputable abbrev ma(rest:.H):Obj:=(.sq rest.toArray)
noncomputable abbrev md(C t:Addr):Obj:={ cls:=.aJ,data:=.afl }
def AN(F:.qL bmB)(T:OwnTail h bmB bm){rest:.H}
  (l:.dQ C=.QP) (G:h.Ns N mN) (hi:mN "__init__"=.t f) (y:.dQ f=.bL) (p:u.cls=.Mj)
  (D:.adP A (.ahT λr n=>match r with | .ok v=>Q (.done v) n | .error e=>E e n)
   ⟨.xo,g,d,t,os⟩) (hrest:.S rest.length:=by size_fits) :
  .vQ (Builtin.«type.__call__» ⟨.aJ::rest,[]⟩):=by
 repeat (first|with_reducible refine zXs l ?_|with_reducible refine wpAny_madeBy_exc l ?_|wp_step)
 rw[.cN (codeAny_call_builtin_code (.U4 F.quiet) (wpAny_check_new_subT F T l ?_)) (codeAny_exc_new_subT F T l ?_ hrest)];show .kQ _ _;have k:.cJ (.fv b->.sn .xo):=.gB .PD;have a := k _ _ l;have i := k _ _ y;have c:(.xo).Ns N mN:=G.keeps k;have m:.eY .xo .Zj=.a (md C h.objs.size):=by heap_get
 have s:.amP .aJ:=.f
 have j := T.keeps k;unfold isInstance
 repeat (first|with_reducible refine zXs m ?_|(with_reducible refine wpAny_isSubtype_exc a ?_;rw[s])|wp_step)
 show .kQ (typeLookup .aJ _) _;refine wpAny_typeLookup_tail a c j F.mroIs F.init.lookup ?_;rw[hi];have x:.Lv .xo (.bi bindSpecial f<|.d .Zj) (.l4,[.d .Zj]):=by
  unfold bindSpecial;exact(.amd i PySem.W.Looks.now).andThen<|PySem.W.Looks.of_pure (by rw[p];kernel_rfl)
 rw[.cN (zYf<|.gx x.here) (zF (wpAny_call (zXm D λr n z=>?_)))];rcases r with e|(v|_|_|_)<;>first|exact z|rw[.l0]|skip
 obtain⟨rfl,z⟩:=z;exact xU<|xU z
def O0(F:.qL bmB)(T:OwnTail h bmB bm){rest:.H}
  (a:.dQ C=.QP) (k:h.Ns N mN) (hi:mN "__init__"=.t f) (i:.dQ f=.a8) (b:c.cls=.Mj)
  (j:.adP (.Yk<|.dh<|.aJ :: rest) (.ahT R)
   ⟨.xo,g,d,t,os⟩) (hrest:.S rest.length:=by size_fits) :
  .ua A (.call .aJ<|.dh rest) R .fY:=by
 have l:=tc_lookup;have m:=tc_bind .aJ;have o:(.fY:R1).TypeIs .aJ "type" := .dk a;refine codeAny_of_tree ?_;show .kQ (callAny .aJ _) _
 repeat (any_goals (first|assumption|with_reducible refine zXs a ?_|wp_step))
 rw[.fQ rfl];rw[.cN (codeAny_call_builtin_at (.U4 .ac) entry_typeCall (wpAny_check_type_call_sub a (AN (hrest:=hrest) F T a k hi i b ?_))) (zXm j λr n z=>?_)];rcases r with e|(v|_|_|_)<;>first|exact z|rw[.l0]|skip
end
end Fm
set_option maxHeartbeats 4000000
namespace Fm
open PySem L2
noncomputable abbrev veM:.H:=.Sn
section
variable{prog:P6}{w:P7}{A:R3}{E:R0->R1->Prop}{K:zCM}{C M x:Addr}{o:Obj}{h:Heap}{g:Array GenState}{d:Drawn}{t:Nat}{os:OsState}{name:Str}{v:R0}
structure Ff(K:zCM)(C M:Addr)(name:Str):Prop where
 sa:PySem.W.findIn K (.ref C) "__setattr__"=some (some (.builtin "object.__setattr__"))
 mro:(PySem.W.clsIn K C).map (·.mro)=some (.ref C :: .ref M::veM)
 tk:PySem.W.takerIn K C name=some none
 hd:PySem.W.hasDictIn K C=true
def O4(Z:Ff K C M name)(X:.fC)(I:qF h x C o)(hd:.qi none)(a5:.amz)
  (hq:∀h' D,.abP<|Q (.FU .none) ⟨h',g,d,D,os⟩) :
  .vQ (Builtin.«object.__setattr__» ⟨[.d x,.h name tk,v],[]⟩):=by
 rw[.j .Pz];obtain⟨cd,U,N⟩:=.n1 Z.mro;have n:=I.at_;have T:=.uj;have hm:.Lv h (mroOf .aJ) (.aJ :: .d M::veM):=N▸(PySem.W.looks_clsIn X U).andThen .now;obtain⟨j,ha,R⟩:=.T7 Z.tk;refine G ?_;have L3:.Lv h (Builtin.ObjectAttr.storeTaker? j) none:=by
  cases j with
  |none=>cases R;exact .now
  |some a =>
   obtain⟨b,p,q⟩:=.n1 R;refine(PySem.W.looks_takesIn X p).andThen ?_;cases b
   ·exact .now
   ·cases q
 rw[PySem.W.osa_eq,PySem.refuse_eq];refine .sz<|T.here<|.gx hm.here;rw[refuseLoop_ref,refuseLoop_ref,F.store_ValueError.passes];refine xU<|zF<|T.here<|zF<|(zYl X ha).here<|.gx L3.here;have a0:.c1 (.ee C) (.ls "module"):=rfl;have f:.eY (h.push .JI) x=.bb:=.gv n;have l:x≠h.objs.size:=.sp n;have m:=I.cls;show .kQ (.cd Builtin.ObjectAttr.storeInOwnDict _ _) _;unfold Builtin.ObjectAttr.storeInOwnDict
 repeat (first|(with_reducible refine zXs n ?_;rw[m])|wp_step)
 obtain⟨a2,z,hd'⟩:=PySem.W.any_some Z.hd;have i:=z;unfold PySem.W.clsIn at i;split at i
 ·rename_i c0 d0 W a4 S
  cases i;refine wpAny_load (X _ _ S) (xU ?_);rw[hd'];dsimp[Bool.not_true,zZf,zWd,hd];rw[yM<|.k typeHasDict]
  ·refine .gx wpAny_alloc'
   rw[.e9 (wpAny_update' f ?_) (xU ?_)];have J:.eY .abj h.objs.size
     = .a .JI :=
    .i (.cd zVx l.symm)<|.ab Heap.get?_push_at
   have s:(.abj).Ns h.objs.size .PK :=
    ⟨_,#[],_,J,rfl,λe Y=>.lf Y,.cB⟩
   show .kQ (Builtin.ObjectAttr.storeInDict h.objs.size (.h name tk) name v) _;unfold Builtin.ObjectAttr.storeInDict Builtin.ObjectAttr.newKeyGuard;rw[.I (.EE (wpAny_nsSet1 (Heap.Ns1.of_empty s) λh' k P=>?_)) .Pz];obtain⟨oD,V,a1,r,L,H⟩:=k.count<|Within.cons name v Within.nil;rw[.da G (zF (wpAny_lookBehind r (by rw[L];exact pastItsLine_dict<|zBL H (by rw[xR,wb,zZt];omega)) ?_))]
   wp_walk
   refine hq h' _ ?_ k λb ob B p=>?_
   ·refine .i (P.2 x l) (zWk _ f ?_)
    have O:=.amF n;obtain⟨oc,od,u,a3⟩:=o;cases u<;>first|rfl|exact O
   ·exact .i (P.2 b<|.sp p) (.i (.cd zVx B)<|.gv p)
 ·cases i
def V3(Z:Ff K C M name)(X:.fC)(I:qF h x C o)(hd:.qi none)(j:.amz)
  (k:∀h' f,.abP<|Q () ⟨h',g,d,f,os⟩) :
  .vQ .aoT:=by
 have T:=.uj;obtain⟨m,l,i⟩:=.n1 Z.mro;have sub:.Lv h (.bi isInstance x .ZI) true:=T.andThen<|PySem.W.looks_mroIn X (by unfold PySem.W.mroIn;rw[l,Option.bind_some,i];rfl);have SF:=F.store_object;refine zF<|wpAny_mkText<|zF<|.sz<|.cd T .zK<|zYl X Z.sa _ _ _ _ .zK .wT;rw[F.store_object.slot.bind];rw[.e9 (xU<|.gx wpAny_call) (zVm SF.slot.plain SF.entry (@PySem.W.check_slot .qz _ _ _ "object.__setattr__" "object" "__setattr__" (.d x) [.h name _,v] [] _ SF.kind SF.split sub (.bi SF.args x (.h name _) v) ?_))];rw[.eB (O4 Z X I hd j λh' f a b c=>?_) (xU<|xU<|k h' f a b c)]
end
end Fm
set_option maxHeartbeats 4000000
namespace Fm
open PySem L2 PySem.Spec PyProof.Rows
noncomputable abbrev wY(C t:Addr)(dd:.cx):Obj:={ cls:=.aJ,dict:=dd,data:=.afl }
/---/def exO(a C t:Addr)(dd:.cx):HO:=.ext λh=>.nd<|wY C t dd
section
variable{X:Cx}{pins:List (Addr × Obj)}{σ:L2.St}{H:Hp}{s:R1}{h':Heap}{a C M t:Addr}{f:Str}{y:V}{u:R0}
def Sj(e:.HQ<|wY C t dd):.G0 H a (.mJ dd) :=
 ⟨e,.jL,λb c z k=>k _ z⟩
def Fg(x:.fq h)(e:.Ew dd):.nd (wY C t dd):=(x a _ e).1
def Kq(I:.n)(e:.Ew none)(w:.iL)(h1:.HQ<|wY C t .ano)
  (x:.En h'.Ns1 λz=>.Q z f .bL none) (k:∀b ob,b≠a->.td=.wt->.hb b=.wt) :
  .oR .acS:=by
 have fr:∀b ob,.td=.wt->.xO b:=λb ob q=>.sp q;have B:.xO a:=fr a _<|.ey Fg e;have h:∀b,b≠a->.xO b->.acS b=H b:=λb m r=>by rw[aK r,aK m]
 have ne:∀b,.fK->b≠a:=λb q z=>by rw[z,e]at q;cases q
 have i:∀b v,H b=.aM->v≠.PL->b≠a:=λb v q n z=>.aiS
 have nb:∀b v,H b=.aM->.xO b:=λb v q=>by obtain⟨ob,z⟩:=(.rM b v q).obj;exact fr b ob z
 refine I.un ⟨λb o q n _ _=>k b o (ne b n) q,λb o q n _ _=>.rK<|k b o (ne b n) q,λb o q n _=>?_,λb o q _=>?_,λb p q=>?_,λb o v q=>?_,λb D q=>.c4 #[]⟩ λb v q=>?_
 ·rw[h b (ne b n)<|fr b o q];exact n
 ·rw[.dI b a]
  ·subst z;exact .cn h1
  ·rw[.o o (k b o z q)]
 ·rw[.ap .Ty q]
 ·rw[.ap .Ty q]
 ·rw[.Ty,q,Array.append_empty]
 ·by_cases z:.L6 b
  ·subst z
   rw[.db aR];refine .bP x .Hr;show sS (.zh g [(f,y)])<|.Q g f .bL none
   rw[.dI g f]
   ·subst z;simp[List.lookup];exact w
   ·have A:.c1 g f:=.g6 z
    rw[.BW A (yM z)];trivial
  ·by_cases j:b=a
   ·subst j
    rw[aK z,aR]at q;cases q;exact Sj h1
   ·rw[h b j z]at q
    refine(.rM b v q).stay (λc o l d=>k c o ?_ d) (λc d=>?_) λc p d=>?_
    ·rcases l with rfl|l
     ·exact j
     ·exact i c _ l .eI
    ·rw[.ap .ajl d]
    ·rw[.ap .ajl d]
/---/def adn(K:zCM)(ta tv:TE)(f:Str):TS:=.anS<|∃a C M t,x=.z/\H2 a=.a .PL/\Ff K C M f/\
 ∀dx,H2 dx=none->D.nx σ (upd (.fE H2<|.mJ<|.a dx) dx<|.xd [(f,y)])
def ZB(w:.af o i)(m:.af value g)(G:.adJ):.ahG (adn X.K i g f):=by
 rw[.yC (.aiL (.dw m λu J d=>?_) G)];obtain⟨y,v,F,n,q⟩:=d;refine thn (.a0 w J σ v _ F q) λov r d=>?_;obtain⟨x,N,b,A,a,C,M,t,l,e,z,q2⟩:=d;subst l;obtain rfl:ov=.ee a:=A;have p:=b.fresh;obtain⟨P,O,Q,K,L⟩:=r;exact V3 z b.kIn (.g5<|Fg b.hok e) rfl (by intro c z;cases z) λh' k B E j=>⟨σ,_,Kq b e n B E j,q2 _ p⟩
end
end Fm
set_option maxHeartbeats 4000000
namespace Fm
open PySem L2 PySem.Spec PyProof.Rows
/---/def drop(H:Hp)(a:Addr):Hp:=λb=>.Q b a none<|H b
def O6:.vw a=none:=.cb
def M9(h:b≠a):.vw b=H b:=yM h
def sy(h:.fK):.vw b=none:=by unfold drop;split<;>first|rfl|exact h
def DH(h:.vw b=.bL):b≠a/\H b=.bL:=by
 unfold drop at h;split at h
 ·cases h
 ·rw[.o ‹_› h]
section
variable{X:Cx}{pins:List (Addr × Obj)}{σ:L2.St}{H:Hp}{s:R1}{h':Heap}{a C M t:Addr}{dd:Option Addr}
def Sk(I:.n)(e:.Ew dd):.aP .vw s:=by
 have d:∀b v,H b=.aM->v≠.mJ dd->.vw b=.aM:=λb v q n=>by
  rw[M9 λz=>.aiS];exact q
 refine⟨I.ok,I.os,I.bare,⟨I.base.keep,I.base.slot,λb o q n i=>sy<|.L9 q n i,I.base.there,λb f q=>d b _ (.Ny f q) .eI,
  λb o u q=>d b _ (.Mg u q) .eI,λb j q=>?_⟩,I.loc,I.cell,sy I.free,λx c q=>sy<|.HU c q,λp h=>?_,.vS ?_,I.len⟩
 ·obtain⟨m,z⟩:=.NL j q
  rw[.o m (d b _ z .eI)]
 ·obtain⟨k,g,l⟩:=.hy h
  rw[.C k (sy g) l]
 ·obtain⟨n,q⟩:=DH q
  exact .ako (d c _ z .eI) λc f z=>d c _ z .eI
/---/def XF2(X:Cx)(E:.gb)(e:R0)(s':R1):Prop:=∃pins σ H a C B t oe,e=.z/\.gY s'/\.R0 (E C oe.dict H)
/---/def ado(X:Cx)(pins:.bc)(σ:L2.St)(H:Hp)(a C:Addr)(dd:.cx)(s':R1):Prop :=
 (∃t H0,.aP H0 s'/\H0 a=.a (.mJ dd)/\.tE a/\H=drop H0 a)\/
 (∃B t oe,.gY s'/\.R0 (oe.dict=dd))
/---/def XP2(X:Cx)(E:.gb)(e:R0)(s':R1):Prop:=∃pins σ H a C dd,e=.z/\.mt ado H a C dd s'/\E C dd H
/---/def CX2(P:P6)(w:P7):CXT:=λouter H s E e s'=>∃a C B t H' oe,e=.z/\.Vn (.WL/\
 .ab0 (s'.heap.get? a=.a oe/\E .aJ oe.dict H'))
def XF2.xp:.kU XF2 b->.kU XP2 b:=λh=>by obtain⟨pins,σ,H,a,C,B,t,d,f,I,i,c,g,q⟩:=h;exact⟨pins,σ,H,a,C,d.dict,f,.F ⟨B,t,d,I,i,c,g,rfl⟩,q⟩
def ZC(h:.Ta)(m:∀e c,XF2 X E' e c->R e c):og .PX .w1 E:=by
 rintro pins σ H s e c I ⟨a,C,B,t,f,u,i,j,bare,v,hok,D,trk,old,g,q⟩;have d:=I.unwish;have w:.aP f c:=d.call' j v hok bare .Mr;refine m _ _ ⟨pins,σ,f,a,C,B,t,u,i,w,D,⟨trk,λb o e x y=>?_,λp r=>?_⟩,g,h C _ f q⟩
 ·obtain⟨l,A⟩:=.bs d.base.there y
  exact old b l A x
 ·obtain⟨e,n,ne,k,_⟩:=d.pin p r
  exact .Xf (.Dk d.stkSub k)
theorem O7(I:.n)(e:.Ew dd)(c:.tE a):.tr Cov .vw (.dx PySem.W.hideAll<|a::.oL) where
 trk:=.vS (by
  obtain⟨n,q⟩:=DH q;obtain⟨o,z⟩:=(.rM b u q).obj;refine .fz<|zYq _ z .gz;rw[.Af z]
  ·exact n z
  ·rw[.db (I.stkFree b z)])
 old:=λb o q g f=>by
  obtain⟨j,h⟩:=I.base.there b o q f;rw[.bN j (zYq _ h .gz)];rw[.Af z]
  ·subst z;exact .B (zAR q) (.sP c)
  ·exact g z
 pin:=λp d=>by
  obtain⟨q,n,ne,i,_⟩:=.hy d;refine .cn (zYq _ q λz=>?_);rw[.Af z]
  ·rw[z,e]at n;cases n
  ·exact .Dk I.stkSub i
end
def jT{K:zCM}
  (h:XP2 .Jo (λC dd n=>.OX n) e k):(.Jo).xe e k:=by
 obtain⟨pins,σ,n,a,C,dd,rfl,Z,q⟩:=h;have fin:∀{m:R1} {B:Heap} {i:Heap} {t:Addr} {x:Obj},.uU .Jo n m->B.StaysIn m.heap->m.heap.UpToSlots i->
   Cov .Jo pins n B->.my outer i->m.heap.get? a=.aF->x.dict=dd->qu m.heap i->.abh outer H s E .z { m with heap:=i }:=by
  intro m B i t x I b1 T c p g gd v;have J:=I.flown b1 p.1 T c m.toks;obtain⟨V,X,L⟩:=v a x g;refine⟨a,C,B,t,n,V,rfl,J.os,J.bare,J.base,J.hok,p,c.trk,λb o e G=>.R3,X,by rw[L,gd];exact q⟩;rcases .ue z with y|y
  ·exact .B y .tC
  ·exact G y
 rcases Z with ⟨t,H0,I,r,ha,rfl⟩|⟨B,t,x,I,p,c,g,gd⟩
 ·have O:∀env∈(.y5 j),∀b,.EY b->b∈a::frs (.y5 j):=λenv r b G=>.vR<|zYk.mpr ⟨env,r,G⟩
  have S:=.ey Fg r;have l:Heap.StaysIn .aog k.heap:=.XB;have F:=.aeI wpAny_leaving_firstW (a0:=.w8) I.ok.frames (.aiF O) rfl S l (.Wb _ .lT) rfl rfl rfl
   (Q:=.aig<|Heap.LeftW .aog (.y5 j) a .aJ .w8 k.heap i) λi W=>.hJ i W
  refine .Mv<|qX AM F;rintro _ u ⟨⟨i,rfl,Y,⟨_,_,U⟩,k3,k4⟩,v⟩;exact fin (Sk I r) l k4 (O7 I r ha) ⟨Y,.Wb _ .lT,U,k3⟩ S rfl v
 ·have F:=.aeI wpAny_leaves_onW I.ok.frames rfl p
   (Q:=.aig<|.my outer i/\k.heap.UpToSlots i) λi D R=>⟨i,rfl,D,R⟩
  refine .Mv<|qX AM F;rintro _ u ⟨⟨i,rfl,D,R⟩,v⟩;exact fin I p.1 R c D g gd v
structure Sl(x:Str)(C f:Addr)(bmB:List R0)(newId:String)(mg:Str->Option R0)(h:Heap):Prop where
 bound:mg x=some (.ref C)
 obj:∃bm N nm q bs hdct sn sub ab col dd k0 k1 k2 k3 k5 mN,h.get? C=some (excClassObj nm q C N bs bm hdct sn sub ab col dd k0 k1 k2 k3 k5 newId)/\h.Ns N mN/\mN "__init__"=some (.ref f)/\OwnTail h bmB bm
 fn:∃of:Obj,h.get? f=some of/\of.cls=.type "function"
/---/def wZ(K:zCM)(fl:Str):Sp:=λvs H Q _=>∃a C M t y,vs=[.z,y]/\.Ew none/\Ff K C M fl/\∀dx,.b9 dx->Q .non (upd (.lM<|.mJ<|.a dx) dx<|.xd [(fl,y)])
section
variable{X:Cx}{pins:List (Addr × Obj)}{σ:L2.St}{H:Hp}{s:R1}{C M f:Addr}{fd:FuncData}{ps:List Str}{x fl:Str}{k:Nat}{bm:List R0}{B newId initId:String}
def Sm(O:.TW x)(Y:.qL bm)(F:.US fl)(hr:.oI)
  (R:.oJ []) (Z:.fA Ff M fl) (I:.n) (r:.ea)
  (h:∀a t dx i d,.aP i d->.b9 a->.b9 dx->dx≠a->.tE a->i=upd (.fE (.lM .PL)<|.mJ .lN) dx .K4->Q .z d) :
  .fW (call .aJ [u]) Q X.xe s:=by
 rw[.j .vn];obtain⟨tl,N,nm,q,bs,hdct,sn,sub,ab,col,dd,k0,k1,k2,k3,k5,mN,hC,J,j,T⟩:=O.obj;obtain⟨of,hf,p⟩:=O.fn;refine m ?_;have U:=I.kept (h':=.qA<|ma [u]) (t':=s.toks) .vB;have L:.eY .aof .cf=.a (.Vx wY none):=by heap_get
 have l:=U.laid (a:=.cf) (o:=.Q8 none) (h':=.aof) (t':=s.toks)
  .vB (zYw<|zZi _ _)<|Sj L
 have A:.b9 .cf:=.Gb<|zVc _;have E:wZ X.K fl [.d .cf,v] .anB
   (λy P=>y=.non/\∃dx,.b9 dx/\dx≠.cf/\P=upd (upd .anB .cf<|.Q8 .lN) dx .K4) .la :=
  ⟨_,C,M,_,v,rfl,aR,Z,λdx g=>by
   have n:dx≠.cf:=λz=>by rw[z,aR]at g;cases g
   exact⟨rfl,dx,by rw[aK n]at g;exact g,n,rfl⟩⟩
 have D:bS [V.ref .cf,v] [.sL,u]:=.bn rfl<|.jo r;have W:.Id (.sL::[u]) []:=by
  have e:=D.length;rw[.cd F.len E]at e;exact e.symm
 rw[.cN (wpAny_call (O0 (hrest:=by show .S 1;rw[zZt];lia) Y (T.keeps I.bk) (I.bk _ _ hC) (J.keeps I.bk) j (I.bk _ _ hf) p ?_)) (zXm (.Vw [.sL,u] [.sL,u] _ _ .la (hr.make C [u] []) (l.env0.make C [u] []) (R _ [.sL,u] l.kIn W) D E) λr d c=>?_)];cases r with
 |error e=>obtain⟨_,_,_,_,_,_,_,_,_,_,_,_,_,_,_,z⟩:=c;rw[.l0]
 |ok fw =>
  cases fw with
  |ret u' =>
   rw[.j .vn];obtain⟨y,i,G,S,ev,dx,w,K,rfl⟩:=l.after c;refine m ?_;subst ev;rw[.fQ S];exact h _ _ dx _ d G A w K (zBL I.sz<|zVc _) rfl
  |next=>rw[.fR c]
  |brk=>rw[.fR c]
  |cont=>rw[.fR c]
end
end Fm
set_option maxHeartbeats 4000000
namespace Fm
open PySem L2 PySem.Spec PyProof.Rows
section
variable{M:Model}{A:R3}{E:R0->R1->Prop}{env:Env}
variable{nm q:Str}{C N:Addr}{bs bm:List R0}{hdct:Bool}{sn:List Str}{sub:List R0}{ab:Bool}{col:Option Bool}{dd:Option Addr}{k0 k1 k2 k3 k5:Option R0}{newId:String}
def Cq(b:bm.contains .tj=true)(n:.qZ)
  (h:.BE x (λv a=>∃e t f,v=.d e/\a.heap.get? C=.QP/\a.heap.get? e=.a (wY C t f)/\.bi E e a) E s) :
  .mG (raiseStmt env .aF none):=by
 have i:.amP .tj:=.hP List.contains_cons b zXz
 unfold raiseStmt;rw[.I (zF (zZd h (λv a c=>?_) .zN)) .zR];obtain⟨e,t,f,rfl,j,k,m⟩:=c;obtain⟨p,g,d,r,o⟩:=a;refine l ?_
 repeat (first|with_reducible refine zXs k ?_|with_reducible refine zXs j ?_|(with_reducible refine wpAny_isSubtype_exc j ?_;rw[i])|wp_step)
 exact wpAny_raiseNew_none n m
end
section
variable{X:Cx}{pins:List (Addr × Obj)}{σ:L2.St}{H:Hp}{s:R1}{C M f:Addr}{fd:FuncData}{ps:List Str}{x fl:Str}{k:Nat}{bm:List R0}{B newId initId:String}{np cpos pos:Pos}{e₀:Expr}{ta:TA}{E:Addr->Option Addr->Hp->Prop}
/---/def V4(C:Addr)(fl:Str)(E:.gb)(ta:TA):TS:=λ_ σ H=>.Fu<|∃v,vs=[v]/\∀dx,.BP dx->E C .lN (.sI dx .K4)
def O8(O:.TW x)(p:.qL bm)(F:.US fl)(hr:.oI)(U:.oJ [])(Z:.fA Ff M fl)
  (S:.bB) (hg:.bo) (ha:PA .Mo [e₀] ta) (j:autoParam (.a5) Q1Q._auto_1)
  (he:autoParam (.jk e₀=[.ef e₀]) Q3Q._auto_1) :
  PS .Mo (.aeE [e₀]) (V4 C fl E ta):=by
 intro pins s σ H D I h;obtain⟨Q,N,nm,q,bs,hdct,sn,sub,ab,col,dd,k0,k1,k2,k3,k5,mN,A,hN,R,T⟩:=O.obj;have a0:.x6 [e₀]=false:=.aE he
 rw[arm_exec_Raise];refine zF (zWu (Cq (C:=C) (nm:=nm) (q:=q) (N:=N) (bs:=bs) (bm:=Q) (hdct:=hdct) (sn:=sn) (sub:=sub) (ab:=ab) (col:=col) (dd:=dd) (k0:=k0) (k1:=k1) (k2:=k2) (k3:=k3) (k5:=k5) (newId:=newId) (T.hasType p.hasBase) (.ip S)
  (zF (zZd (wpAny_Call_ofName (pG I hg O.bound ?_ j)) (λv w e=>.H1<|xU e) .zN))))
 unfold callWith;have G:=ha cpos pins s σ H _ I h;have l:.Qy [e₀] (.Mo).env=[.ef e₀]:=he;rw[l]at G⊢;refine .BN (.WC (zZd G (λus s2 V=>?_) .s7));obtain⟨vs,i,n,r,v,rfl,q1⟩:=V;obtain⟨u,rfl⟩:∃u,us=[u]:=by cases r with|cons a b=>cases b;exact .K
 have W:.ea:=by cases r with|cons a b=>exact a
 refine .gx zWu;obtain⟨hp,g,d,tk,os⟩:=s2;dsimp only;rw[.e9 (wpAny_keeperOf_exc (n.bk _ _ A) ?_) (zF (Sm (X:=.Mo) O p F hr U Z n W λa t c H' s' J L Y o K eH=>.BN (wpAny_point (xU ?_))))];subst eH;have m:(.ady) a=.a (.mJ .a8):=.L (aK<|zZs o) aR
 refine⟨a,t,.a8,rfl,J.bk _ _ A,Fg J.hok m,pins,σ,_,a,C,.a8,rfl,.G ⟨t,_,J.unwish,m,K,rfl⟩,?_⟩;have P:drop .ady a=upd i c .K4:=by
  funext b
  rw[.dI b a]
  ·subst z;rw[O6,aK<|zZs o,L]
  ·rw[M9 z]
   by_cases y:b=c
   ·subst y;rw[aR,aR]
   ·rw[aK y,aK z,aK z,aK y]
 rw[P];exact q1 c Y
end
end Fm
set_option maxHeartbeats 4000000
namespace Fm
open PySem L2 PySem.Spec PyProof.Rows
section
variable{M:Model}{A:R3}{E:R0->R1->Prop}{s:R1}{base:Heap}{env:Env}{outer l:List Env}{L e:Addr}{cls a0:R0}{Q:Unit->R1->Prop}
def ZD(f:.T1)(h:.EY L)(d:.Cy .ZZ s.heap)
  (i:.TJ .VU):.ald:=by
 refine .Mv<|qX M8<|wpAny_looks_onW (E:=.bw) (Q:=λ_ g=>∃h',g = { s with heap:=h' }/\.VU/\.IC) f h d .akx;rintro _ g ⟨⟨h',rfl,a,b⟩,c⟩;exact i h' a b c
def ZE(f:.Na Heap.HeldW L s.heap)(g:.TJ<|.Cy l h'):.Wn none:=by
 rw[.apw (.abd wpAny_landsW)];exact g h' a b c
def ZF(f:.Cy l s.heap)(g:.TJ<|.Cy l h'):.Wn none:=by
 rw[.apw (.abd lands_againW)];exact g h' a b c
end
/---/def Cr(a C:Addr)(dd:.cx):HO:=.ext λh=>∃o,qF h a C o/\.qi dd/\.CP
section
variable{X:Cx}{pins:List (Addr × Obj)}{σ:L2.St}{H:Hp}{s:R1}
def Sn(I:.n)(w:.my X.stack s.heap)(c:.uR)(g:.iQ a=.a7):.aP .VJ s:=by
 have J:=I.exc w c;obtain⟨y,N,f,i,j,_⟩:=w.first;rw[.wY g];have e:∀b v,v≠.pH->.un b=.aM->.VJ b=.aM:=λb v n q=>by
  rw[.dI b a]
  ·subst z;rw[.db aR];exact .bg n
  ·rw[aK z]at q⊢;exact q
 have h:∀b,.un b=none->.VJ b=none:=λb q=>by
  rw[.dI b a]
  ·subst z;rw[.db aR]
  ·rw[aK z]at q⊢;exact q
 refine⟨J.ok,J.os,J.bare,⟨J.base.keep,J.base.slot,λb o q n E=>h b<|J.base.free b o q n E,J.base.there,λb l q=>e b _ .eI<|J.base.tups b l q,λb o u q=>e b _ .eI<|J.base.frzs b o u q,λb F q => ?_⟩,
  J.loc,J.cell,h _ J.free,λx c q=>h _<|J.freeC x c q,λp D=>?_,.vS ?_,J.len⟩
 ·obtain⟨m,z⟩:=J.base.tbls b F q
  rw[.o m (e b _ .eI z)]
 ·obtain⟨G,A,K⟩:=J.pin p D
  rw[.C G (h _ A) K]
 ·rw[.dI b a]
  ·subst z
   rw[.db aR];rw[.C (.mh d ⟨g,i⟩ (by unfold PySem.W.notCls;rw[j])) ⟨d,g⟩ λM O ⟨o,r,L⟩ k=>⟨o,⟨k o r.at_,r.cls⟩,L⟩]
  ·rw[aK z]at q
   exact(J.hok b u<|.tP z).stay (λ_ _ _ z=>z) (λc z=>e c _ .eI z) λc l z=>e c _ .eI z
/---/def So(X:Cx)(σ0:L2.St)(E:.gb)(e:R0)(s':R1):Prop:=∃pins H a C B t oe,e=.z/\.oj σ0 H s'/\.R0 (E C oe.dict H)
variable{x n c:Str}{M:Addr}{i j:Nat}{np cp vp ap hp pos p:Pos}{σ0:L2.St}
end
end Fm
set_option maxHeartbeats 4000000
namespace Fm
open PySem L2 PySem.Spec PyProof.Rows
section
variable{prog:P6}{w:P7}{A:R3}{E:R0->R1->Prop}{K:zCM}{D:Addr}{h:Heap}{g:Array GenState}{d:Drawn}{t:Nat}{os:OsState}{a dx:Addr}{o:Obj}{mA:Str->Option R0}{name:Str}{u:R0}
structure Fh(K:zCM)(D:Addr)(name:Str):Prop where
 cls:qU K D
 hd:PySem.W.hasDictIn K D=true
 no:PySem.W.findIn K (.ref D) name=some none
def Sq(Z:.Ol)(X:.fC)(I:.i0)(k:.CP)(b:.qi .lN)(i:.zv)(m:.Bt=.bL)(c:Q (.FU u) .fY):
  .ado name:=by
 obtain⟨f,n,e⟩:=Dg i;have J:PySem.W.InstAt h a o D .iB:=⟨I.at_,I.cls,k,.p b n⟩;have l:=.uj;have j:=PySem.W.looks_find (M:=.qz) X J<|PySem.W.findObj_own Z.hd Z.no rfl<|.L e m;unfold Builtin.«object.__getattribute__»;rw[.eB (zF<|xU<|.EE<|l.at<|.gx j.at) (xU c)]
def V5(Z:.Ol)(X:.fC)(I:.i0)(i:.CP)(b:.qi .lN)(f:.zv)(c:.Bt=.bL)(e:.rd u .fY):
  .afx name :=
 .aev<|Hr Z.cls X I<|Sq Z X I i b f c e
def ab0{c b:Bool}(Z:.Ol)(X:.fC)(I:.i0)(n:.CP)(e:.qi .lN)(k:.zv)(q:.Bt=.bL)(r:.KW u)(v:Q u .fY):
  .an7 name:=by
 have s:=.ai9;have j:.ams:=by cases b<;>rfl
 have f:.c1 .I3 .QY:=.ac
 have i:.ahH:=.aE f
 have p:=.uj;have l:=.EC Z.cls.ga;have L2:=.EC Z.cls.gt;have m:=PySem.W.handedOut_of r
 repeat (any_goals (first|assumption|with_reducible refine p.at ?_|with_reducible refine l.at ?_|with_reducible refine L2.at ?_|wp_step))
 refine V5 Z X I n e k q ?_
 repeat (any_goals (first|assumption|wp_step))
def ZG{Q:.fB}(Z:.Ol)(X:.fC)(I:.i0)(k:.CP)(c:.qi .lN)(j:.zv)(e:.Bt=.bL)(f:.KW u)(i:Q u ⟨h,g,d,t+1,os⟩):
  .vQ (getAttr .z name b):=by
 unfold getAttr;rw[.eB (.gx wpAny_mkText) (ab0 Z X I k c j e f i)]
end
section
variable{X:Cx}{e:Expr}{f:Str}{pos:Pos}{ta:TE}
/---/def ab1(K:zCM)(ta:TE)(f:Str):TE:=.vN<|∃a C dx fs v,x=.z/\H1 a=.a (Cr a C .lN)/\Fh K C f/\H1 dx=.a (.xd fs)/\.AX f=.aM/\Q v H1
def V6(he:.dG ta)(w:.Uh f):.akY ab1:=by
 rw[.uA (Mm w (.nU λu D m=>?_)) .go];obtain⟨x,n,b,t,a,C,A,K,v,j,g,z,i,l,q⟩:=m;refine c ?_;subst j;obtain rfl:.d8 a:=t;rw[.nJ];obtain⟨⟨o,J,B,y⟩,_⟩:=b.hok a _ g;obtain⟨mA,p,r⟩:=b.hok A _ i;obtain⟨F,k,d⟩:=.ae9;obtain⟨E,L,M,N,G⟩:=D;rw[.cv c (ZG z b.kIn J y B p k (Dh d) ⟨v,n,b.tok _,d,q⟩)]
end
end Fm
set_option maxHeartbeats 4000000
namespace Fm
open PySem L2 PySem.Spec PyProof.Rows
def V7{K:zCM}{st:Stmt}{o:FuncData}{k:Nat}{p1 B I L:Pos}(F:.Gq c o)(S:bn (.nh b) (.nh b)<|aD st)
  (D:cG st=[.qQ (.ms (.gn "self" p1) b B) (.gn b I) L]) (h1:(aD st).names.lookup ("self" : Str)=.k3) (O:(aD st).names.lookup b=.k3)
  (g:.jt b) (m:.tG b):.lx (k+1) o (.nh b) (wZ K b):=by
 rw[.hD];obtain⟨X,Y,kV,u,W,U,J,T,N,rfl,p,d⟩:=F.ex;rw[.ht j (Mo p d S (λR H Q E v=>by obtain⟨_,_,_,_,_,e,_⟩:=v;rw[e];rfl) λA n s H R Q E V h=>?_) .hU];obtain⟨a,C,M,t,y,rfl,r,z,q⟩:=h;refine j ?_;rw[D];refine .bP (pI<|ZB (Ac (i:=0) rfl (.G h1) .c .c) (Ac (i:=1) rfl (.G O) g m) rfl) ?_;exact⟨y,rfl,.z,rfl,a,C,M,t,rfl,r,z,λG l=>q G l⟩
end Fm
set_option maxHeartbeats 4000000
namespace Fy
open PySem PySem.Spec L2 Fm PyProof.Rows
/---/def Ek(K:zCM)(E:.gb)(C:Addr)(l:.m)(ρ:.am)(H:Hp):Prop:=match l with
 |[]=>E C none H
 |[d]=>∀dx v,.b9 dx->.cU->E C .lN (.dP dx<|.xd [("line",v)])
 |_=>False
def Ek.imp{K:zCM}(i:∀dd H,E C dd H->E' C dd H)(h:Ek K E C l ρ H):Ek K E' C l ρ H:=by
 cases l with
 |nil=>exact .kP i
 |cons d r =>
  cases r with
  |nil=>exact λa v n r=>i _ _<|h a v n r
  |cons _ _=>exact h
section
variable(K:zCM)(mg:Str->Option R0)
/---/def PostX(ρ:.am)(H:Hp)(o:Out)(E:.gb)(En:wE):Prop:=match o with
 |.exc x _ hd=>.alN
 |.nx σ hd=>.pg (.c6 hd)
 |.rt d hd=>.pg (.rt d hd)
 |.bk σ hd=>.pg (.bk σ hd)
 |.ct σ hd=>.pg (.ct σ hd)
 |.bad=>False
/---/def yx(E:.gb)(f:SF):TS:=.alv
end
section
variable{K:zCM}
def PostX.ext{o:Out}(e:.gp h)(p:.Ec o):.Nj h o E En:=by
 cases o with
 |exc x σ a=>obtain⟨c,l,C,f,i,j⟩:=p;exact⟨c,l,C,f,i,λg b k r=>j g b (.ir k) r⟩
 |nx σ a=>exact .rk<|.c6 a
 |rt d a=>exact .rk<|.rt d a
 |bk σ a=>exact .rk<|.bk σ a
 |ct σ a=>exact .rk<|.ct σ a
 |bad=>exact p
end
def MV{X:Cx}{E:XK}{E':.gb}(h:.Ta)(b:∀e a,XF2 X E' e a->.p9 a):og .PX X E:=by
 intro pins σ H s e a I q;have:=.ai3 ZC;rw[.iz]
section
variable(K:zCM)(mg:Str->Option R0)
/---/def XC(ρ:.am)(H:Hp)(E:.gb)(x:D)(hd:Hd):Prop:=.alN
/---/def dG{α β:Type}(R:.A8)(ρ:.am)(H:Hp)(σd:Sd)(σ:L2.St)(r:.e2)(E:.gb)(Q:.jv):Prop:=match r with
 |.ok a hd'=>.SC
 |.exc x hd'=>.z2 E
 |.bad=>False
/---/def AC{α β:Type}(R:.A8)(E:.gb)(f:.iu α):L2.St->.rm β:=.fb<|.mV<|.kz .hh Q
/---/def spY(F:Fn)(np:Nat):Sp:=λvs H Q E=>.Kl<|.on/\match F ds hd with
 |.ok d hd'=>.C3
 |.exc x hd'=>.aoH
 |.bad=>False
end
section
variable{K:zCM}{R:VR α β}
def XC.ext{x:D}(e:.gp f)(p:.xu XC E x hd):XC K mg ρ' f E x hd:=by
 rw[.j .h9];obtain⟨c,l,C,b,g,i⟩:=p;rw[.cX h ⟨c,l,C,b,g,λd a j r=>i d a (.ir j) r⟩]
def dG.ext{r:.e2}{Q:.jv}(e:.gp f)(h:.kz r Q):.Po R f σd σ r E Q:=by
 cases r with
 |ok a i=>exact λb d c g s q=>h b d c (.ir g) s q
 |exc x i=>exact XC.ext e h
 |bad=>exact h
def dG.imp{r:.e2}{Q d:.jv}(h:.kz r Q)(i:∀b c,Q b c->d b c):.kz r d:=by
 cases r with
 |ok a f=>exact λb c ρ' e s q=>i b c<|h b c ρ' e s q
 |exc x f=>exact h
 |bad=>exact h
def dG.bind{r:.e2}{k:.wC α'}{Q:.di β'}(h:.Cm f (r.bind k) E Q):
  .kz r (λb c=>∃ρ' a hd',.gp c/\RS K ρ' c σd hd' σ/\R ρ' c a b/\.Po f c σd σ (k a hd') E Q):=by
 cases r with
 |ok a d=>exact λb c ρ' e s q=>.ak3 d
 |exc x d=>exact h
 |bad=>exact h
def PostX.outE{r:Res D}{k:D->Hd->Out}{En:wE}(p:.Ec .ZP):
  .Cm (rD K) r E (λv a=>∃ρ' d hd',.gp a/\RS K ρ' a σd hd' σ/\RD K ρ' a d v/\.Nj a (k d hd') E En):=by
 cases r with
 |ok d e=>exact λb a ρ' c f q=>⟨ρ',d,e,c,f,q,.qR c p⟩
 |exc x e=>exact p
 |bad=>exact p
def dG.of_pl{r:.e2}{Q:.jv}(p:.kz (noX r) Q):.wx r:=by
 cases r with
 |ok a b=>exact p
 |exc x b=>exact p
 |bad=>exact p
end
/---/def NE(X:Cx)(E:.gb)(e:Expr)(f:EF):Prop:=.dG<|.N6 f
/---/def NA(X:Cx)(E:.gb)(es:.dy)(f:LF):Prop:=.Bz .anc
/---/def NS(X:Cx)(E:.gb)(s:Stmt)(f:SF):Prop:=PS X s .zM
/---/def NSs(X:Cx)(E:.gb)(s:.el)(f:SF):Prop:=.iE s .zM
structure DefY(P:P6)(w:P7)(K:zCM)(mg:Str->Option R0)(base:Heap)(x:Str)(k np:Nat)(F:Fn):Prop where
 ex:∃f fd ps,mg x=some (.ref f)/\PySem.W.keepIn K (.ref f)=true/\gD K fd ps []/\cx P w K mg base (CX2 P w) k f fd ps (spY K mg F np)
section
variable{pos p:Pos}
def ne_of{e:Expr}{f:EF}(h:.iK):.xx (fPl f):=.acj
def na_of{a:.dy}{f:LF}(h:MA X a f):NA X E a (fPl f):=.aby
def na_cons{e:Expr}{g:.dy}{f:EF}{r:LF}(he:.kW)(m:NA X E g r)(y:autoParam (.OT) Q3Q._auto_1):.pi g (ae f r):=by
 rw[.I .amp .gy];obtain⟨ρ,σd,x,s,p⟩:=b;rw[.eu (a ?_) x s (.OO λv z b=>?_) .gy];obtain⟨k,d,j,A,c,u,w⟩:=b;rw[.eR (a ?_) .aiW .gy];obtain⟨l,C,t,n,h,i,o⟩:=b;rw[.cv a .ael]
def R4{j:.dy}{k}{r:LF}(h:NA X E j r):NE X E (.u7 j) (dh r):=by
 rw[.I (.U (Ey h) .tS) .xC];obtain⟨ρ,σd,u,n,p⟩:=e;rw[.eu (d ?_) u n (.OO λl v e=>?_) .xC];obtain⟨g,t,s,w,i,a,b⟩:=e;refine d ?_
 by_cases f:t.length<=SZ
 ·rw[z3 f]at b
  refine .ahK;have c:=.oA l m;exact .ahY
 ·rw[.bR (yM f)]
def ne_call{x:Str}{k np:Nat}{F:Fn}{e:Expr}{m:.dy}{r:LF}(hd:.FS DefY)(N:.hz k)(W:.bo)(S:.pi m r)(R:∀v t,XF2 X E v t->X.xe v t)
  (hnp:.ya .o2) (o:autoParam (.a5) Q1Q._auto_1) (he:autoParam (.hl m=.i3 m) Q3Q._auto_1) (hpl:autoParam (.eN m) Q3Q._auto_1) :
  .zt m .pB:=by
 rw[.iA];obtain⟨f,fd,ps,y,T,L,P⟩:=hd.ex;rw[.ht g (.U (zB (E:=λv u H=>.Wh<|E C u H) P N W y T L .nil (MV (λC u H i=>.afn) R) S o he hpl) .q0) .hV];obtain⟨ρ,σd,hd,K,O⟩:=i;rw[.eu (g ?_) hd K (.LX O λvs Z i=>?_) .hV];obtain⟨n,ds,b,e1,j,M,a⟩:=i;refine g ?_;rw[X1];refine .iN n b ds j.hp M ?_
 ·refine hnp ds b .gz
  rw[.aA z a]
 ·cases c:F ds b with
  |bad=>rw[.aA c a]
  |exc z Y =>
   rw[c]at a;rw[.iA];obtain⟨J,l,C,q1,q2,q3⟩:=a;rw[.cX g ⟨J,l,C,q1,q2,λG s D B=>Ek.imp (.nQ<|.hJ C q)<|q3 G s D B⟩]
  |ok d U =>
   rw[.aA c λv A ρ' w V I=>a v A ρ' w (j.ext w V) I]
def mkFn_ne{np n:Nat}{b:SF}:.ya .tY:=by
 intro ds h e;rw[.aaS]
 ·assumption
 ·exact .bg e
def ns_of{s:Stmt}{f:SF}(h:MS X s f):.en s (sPl f):=.ae2 (by
 unfold sPl at q;cases e:.gZ a<;>rw[e]at q<;>exact q)
def nss_nil:.gA [] aX:=.wA zx .Iu
def nss_one{st:Stmt}{a:SF}(h:.en st a):.gA [st] a:=pI h
def iQ{a:.el}:.gA a kQ:=.adq
def nss_cons{st:Stmt}{rest:.el}{a b:SF}(h1:.en st a)(g:.gA rest b):.alR:=by
 rw[.I .afZ .hU];obtain⟨ρ,σd,f,i,q⟩:=k;rw[.eW j f i];unfold aA at q;cases e:a σd f with
 |nx σ1 h1=>rw[.fP .aeU]
 |rt d h1=>rw[.fP q]
 |bk σ1 h1=>rw[.fP q]
 |ct σ1 h1=>rw[.fP q]
 |exc x σ1 h1=>rw[.fP q]
 |bad=>rw[.fP q]
def ns_if{c:Expr}{a b:.el}{t:TF}{h j:SF}(m:.n2 c)(l:.gA a h)(g:.gA b j):.en .Mm (dF t h j):=by
 rw[.I .aiE .kb];obtain⟨ρ,σd,k,n,q⟩:=r;rw[.eW o k n];unfold dF at q;cases e:t σd k with
 |exc x f=>rw[.fP q]
 |bad=>rw[.fP q]
 |ok c f =>
  rw[e]at q;intro b s ρ' i d g;cases g;cases c with
  |true=>rw[.cb];exact .KU
  |false=>rw[yM UG];exact .KU
def ns_set{i:Nat}{x:Str}{e:Expr}{f:EF}{pos':Pos}(q:X.N.Nodup)(hi:.gd)(k:.lc)(he:.kW)(s:autoParam (.DC) Q3Q._auto_1)
  (j:autoParam (.k8) Q0Q._auto_1):.en (.yq e) .Hm:=by
 rw[.I .amA .fr];obtain⟨ρ,σd,r,l,p⟩:=c;rw[.eu (b ?_) r l (.EG λv h c=>?_) .fr];obtain⟨g,d,m,t,a,n,o⟩:=c;rw[.cv b .afh]
def gh{e:Expr}{f:EF}(h:.kW):.en .K6 (bf f):=by
 rw[.Kg (.DQ<|JK h) .gy];rw[.eR (a ?_) .Jq .gy];obtain⟨b,d,l,o,c,m,n⟩:=g;rw[.cv a .amb]
def nP{e:Expr}{f:EF}(h:.kW)(n:autoParam (.tx none) Q3Q._auto_1):.en .OL (dR f):=by
 rw[.Kg (.DQ<|zy h n) .gy];rw[.eR (a ?_) .Jq .gy];obtain⟨b,d,l,o,c,q,m⟩:=g;rw[.cv a .anu]
end
def ns_for{tg:Expr}{s:Expr}{body:.el}{f:IF}{g:GF}{b:SF}(hp:.Da)(hc:.bB)(hi:.lU s f)(hg:.GL)(hb:.gA body b)
  (hs:autoParam (.mz s) Q2Q._auto_1):.amV:=by
 rw[.I .amu .vg];obtain⟨ρ,σd,W,rs,p⟩:=O;rw[.eW kq W rs];unfold qt at p;cases e:.gZ W with
 |exc x h'=>rw[.br]
 |bad=>rw[.br]
 |ok q P =>
  rw[.aaQ e];intro J V G N Q T;simp only at p T;refine⟨.abV,
   .adp,?_⟩
  rintro i m σ' z ⟨ρ',k,hd',M,w,a0,rfl,a⟩
  by_cases F:.iZ
  ·have R:.yT:=.k F
   rw[.Ae (zYd F)]
   rw[.BY]
   ·rw[z3 D]at a
    rw[.Qt .aoD (.F ⟨go,.acf,
     .ab7,.ON⟩)]
    obtain⟨U,rx⟩:=yl x B y;cases c:g l[i] k with
    |none=>rw[.dc c]
    |some h =>
     rw[.FM c];refine .adn;have o:.pZ z ρ' B:=.f8 U;cases K:b h hd' with
     |nx σ3 I=>rw[.aA K .It]
     |ct σ3 I=>rw[.aA K .It]
     |bk σ3 I=>rw[.aA K .anA]
     |rt d I=>rw[.aA K .alI]
     |exc x σ3 I=>rw[.aA K (.qR o a)]
     |bad=>rw[.aA K a]
   ·rw[.dc (yM D)]
  ·have Y:.jn i:=.bm
   subst Y;rw[.Ae zXk]
   rw[.BY]
   ·rw[z3 D]at a
    rw[.O .adR]
   ·rw[.dc (yM D)]
section
variable{K:zCM}
/---/def qV(K:zCM)(mg:.gD)(ρ:.am)(H:Hp)(r:Res D)(E:XK)(Q:VK):Prop:=match r with
 |.ok d hd'=>.C3
 |.exc x hd'=>.aoH
 |.bad=>False
def qV.letGo{ρ:.am}{H:Hp}{hd:Hd}{r:Res D}{E:XK}{Q:VK}(b:.cE)(p:.Am .aaH):.Am r:=by
 cases r with
 |exc x a=>exact p
 |bad=>exact p
 |ok d a =>
  have q:.aop:=by
   dsimp[Fm.letGo]at p⊢;split at p<;>rename_i c
   ·rw[z3 c];exact p
   ·rw[yM c];exact p
  exact qO.letGo b q
def fny_mk{x y:Str}{st:Stmt}{f:Addr}{v:FuncData}{N ps:.dU}{k:Nat}{b:SF}(F:.aj y x st f v)(S:.Ep)
  (body:.agi<|ff k (.Ct c)->
   .afs CX2 (λC dd j=>.OX j) (cG st) b) :
  .lx (k+1) v ps (.bG .De ps.length):=by
 rw[.ao9 .oN];rw[.ht n .abk .oN];obtain⟨ρ,h,g,r,q,i,p⟩:=o;rw[.dq n .adZ];have l:.Am (.De g h):=p;unfold bK at l;rw[z3 i]at l;have a:=qV.letGo r l;unfold runB at a;cases e:.afb with
 |nx σ1 u=>rw[.aA e .aeD]
 |rt d u=>rw[.aA e a]
 |bk _ _=>rw[.dc e]
 |ct _ _=>rw[.dc e]
 |bad=>rw[.dc e]
 |exc y σ1 u=>rw[.aA e a]
def DefY.mk'{x:Str}{f:Addr}{a:FuncData}{ps:.dU}{k np:Nat}{F:Fn}(d:mg x=.t f)(b:.gu f)(c:.Gr a)(h:.lx k a ps .PN):.pn x:=.U2
end
end Fy
set_option maxHeartbeats 4000000
namespace Fy
open PySem PySem.Spec L2 Fm PyProof.Rows
/---/def sRaiseL(n:String)(f:EF):SF:=.ax<|match .gV with
 |.ok d h'=>.amD
 |_=>.bad
section
variable{X:Cx}{E:Addr->Option Addr->Hp->Prop}{C M f:Addr}{fd:FuncData}{ps:List Str}{k:Nat}{bm:List R0}{B newId initId:String}{np cpos pos:Pos}{e:Expr}{t:EF}{n:String}
def O9(O:.TW .kF)(u:.qL bm)(F:.US "line")(w:.oI)(G:.oJ [])(Z:.fA Ff M "line")
  (A:.bB) (N:.b3 .kF) (he:∀R,ME .w1 e t) (D:∀e i,.kU XP2 i->.p9 i) (b:autoParam (.jt .kF) Q1Q._auto_1)
  (o:autoParam (.jk e=[.ef e]) Q3Q._auto_1):.akF:=by
 rw[.I (PS.xe D (.j1 (O8 O u F w G Z A N (.d9 (he _) o) b o) λEn σ H z=>?_)) .gy];obtain⟨ρ,σd,m,I,q⟩:=z;rw[.eW a m I];unfold sRaiseL at q;cases c:t σd m with
 |bad=>rw[.rF c q]
 |exc x s=>rw[.rF c q.elim]
 |ok d s =>
  rw[c]at q;rw[.j .gy];obtain⟨P,l,Q,p,j,J⟩:=q;refine a ?_;cases p;rw[O.bound]at j;cases j;intro v r ρ' y h L;rw[.C v rfl λK g=>J r ρ' y h.hp K v g L]
end
end Fy
set_option maxHeartbeats 4000000
namespace Fy
open PySem PySem.Spec L2 Fm PyProof.Rows
section
variable{X:Cx}{pos p:Pos}
end
end Fy
set_option maxHeartbeats 4000000
namespace Fy
open PySem PySem.Spec L2 Fm PyProof.Rows
section
variable{X:Cx}
end
end Fy
set_option maxHeartbeats 4000000
namespace Fy
open PySem PySem.Spec L2 Fm PyProof.Rows
section
variable{X:Cx}
end
end Fy
set_option maxHeartbeats 4000000
namespace Fy
open PySem PySem.Spec L2 Fm PyProof.Rows
/---/def inC(s:Stmt)(j:Nat):Stmt:=match s with
 |.ClassDef _ _ _ b _ _ _ _ _ _ _=>b.getD j .K9
 |_=>.K9
/---/def excInI(K:zCM)(C f:Addr)(bmB:.H)(newId:String):Bool:=pR K C bmB newId (.bx f)&&(.dj f).any λo=>o.cls == .Mj
def ab2{K:zCM}(X:.fC)(G:h.Ns N mg)(e:.Ih K N n=.iT v):mg n=.aM:=by
 obtain⟨f,l,g,c,d,_,b⟩:=G;unfold PySem.W.nsIn at e;split at e
 ·rename_i q
  have z:=X _ _ q;rw[.fh c];cases d;split at e
  ·rename_i i a
   cases e;rw[<-b,nsFind,findBy,<-Array.find?_toList,a];rfl
  ·split at e<;>cases e
 ·cases e
def own_inI{K:zCM}{bm:.H}{id:String}(X:.fC)(e:mg x=.t C)(q:excInI K C f bm id=true):Sl x C f bm id mg h:=by
 unfold excInI at q;rw[UE]at q;obtain⟨i,m,b⟩:=Kn q.2;exact RZ q.1 λc l k p v w sn sub g col s r o d n t j u hok a=>⟨e,⟨c,l,k,p,v,w,sn,sub,g,col,s,r,o,d,n,t,_,X _ _ j,.Rs,ab2 X .Rs a,PySem.W.tail_of_in X u⟩,⟨i,X _ _ m,.yV b⟩⟩
structure XDef(P:P6)(w:P7)(K:zCM)(mg:Str->Option R0)(base:Heap)(n:String)(k:Nat):Prop where
 ex:∃C M f fd ps,Sl (Str.ofString n) C f sU "ValueError.__new__" mg base/\cx P w K mg base (CX2 P w) k f fd ps (wZ K "line")/\gD K fd ps []/\Ff K C M "line"
section
variable{X:Cx}{E:Addr->Option Addr->Hp->Prop}{k:Nat}{np cpos pos p:Pos}{e:Expr}{t:EF}{n:String}
def ns_raiseD(D:.jW XDef n k)(c:.oI)(d:.bB)(l:.b3 .kF)(he:∀R,ME .w1 e t)(g:∀e b,.kU XP2 b->.p9 b)(a:autoParam (.jt .kF) Q1Q._auto_1)
  (i:autoParam (.jk e=[.ef e]) Q3Q._auto_1):.akF:=by
 rw[.hD];obtain⟨C,M,f,o,m,O,F,h,Z⟩:=D.ex;rw[.cv j (O9 O PySem.F.excBase_ValueError F c h Z d l he g a i)]
/---/def fCallG(F:Fn)(r:LF):EF:=aq (λds h=>noX .o2) r
def ne_callG{k np:Nat}{e:Expr}(hd:.FS Def)(C:.hz k)(M:.bo)(I:.pi i r)
  (hnp:.wi) (o:autoParam (.a5) Q1Q._auto_1) (he:autoParam (.hl i=.i3 i) Q3Q._auto_1) (hpl:autoParam (.eN i) Q3Q._auto_1) :
  .zt i (fCallG F r):=by
 rw[.hD];obtain⟨f,P,S,s,J,A,G⟩:=hd.ex;rw[.ht j (.U (zB G C M s J A .nil GX I o he hpl) λσ H Q l=>?_) .hU];obtain⟨ρ,σd,hd,y,D⟩:=l;rw[.eu (j ?_) hd y (.LX D λR N l=>?_) .hU];obtain⟨m,ds,b,O,g,B,a⟩:=l;refine j ?_;rw[X1];dsimp only at a;cases c:F ds b with
 |exc z h'=>rw[.dc c]
 |bad=>rw[.dc c]
 |ok d K =>
  rw[c]at a;refine .aj1 B;rw[c];exact λv u ρ' q L w=>a v u ρ' q (g.ext q L) w
end
/---/def gd(F:Fn):Fn:=λds h=>noX .o2
def gd_np:.C0 (gd (bK np n b) ds h):=λds h d h' e=>.kN mkFn_ne (b:=b) ds h λz=>by unfold gd at e;rw[.bd z]
def DefY.good{P:P6}{w:P7}{K:zCM}{mg:.gD}{base:Heap}{x:Str}{k np:Nat}{F:Fn}(hd:.pn x):.a6 x k np (gd F):=by
 obtain⟨f,u,D,m,C,L,i⟩:=hd.ex;have h:.age (gd F):=by
  rintro b H Q E ⟨ρ,hd,j,J,B,n,p⟩;refine .iN ρ hd j J B n;unfold gd at p;cases c:F j hd with
  |ok d o=>rw[.gm c p]
  |exc y o=>rw[.eb]
  |bad=>rw[.eb]
 refine⟨f,u,D,m,C,L,.ajp,λA a s H g v b Q E t l G r z=>?_⟩;refine zXm (.amX v l G r<|h z) λr M q=>?_;cases r with
 |error e=>rw[.ahd]
 |ok I=>cases I<;>exact q
end Fy
set_option maxHeartbeats 4000000
namespace Fy
open PySem PySem.Spec L2 Fm PySem.W PyProof.Rows
/---/def fMkX(F:Fn)(r:LF):EF:=.ax<|match .jM with
 |.ok xs h=>match F (.k0::xs) (.lY h) with
  |.ok .non h'=>.dN .k0
  |.exc x h'=>.fj x h'
  |_=>.bad
 |_=>.bad
/---/def sTryF(i il j:Nat)(n:String)(b:EF):SF:=.ax<|match .jN with
 |.exc (.exn c [.int m]) h'=>.Q c n (.lG<|(.Fr<|.qf i<|.ox c).set j none) .bad
 |_=>.bad
section
variable{X:Cx}{pins:List (Addr × Obj)}{σ:L2.St}{H:Hp}{s:R1}
def Sr(I:.n)(h:.fl .PH):.aP .un s:=by
 have d:∀b v,v≠.PH->H b=.aM->.un b=.aM:=λb v n q=>by
  rw[.dI b a]
  ·subst z;rw[.db h];exact .bg n
  ·rw[aK z];exact q
 have f:∀b,.fK->.un b=none:=λb q=>by
  rw[.dI b a]
  ·subst z;rw[.db h]
  ·rw[aK z];exact q
 refine⟨I.ok,I.os,I.bare,⟨I.base.keep,I.base.slot,λb o q n w=>f b<|.L9 q n w,I.base.there,λb i q=>d b _ .eI<|.Ny i q,λb o u q=>d b _ .eI<|.Mg u q,λb y q => ?_⟩,
  I.loc,I.cell,f _ I.free,λx c q=>f _<|.HU c q,λp t=>?_,.vS ?_,I.len⟩
 ·obtain⟨m,z⟩:=.NL y q
  rw[.o m (d b _ .eI z)]
 ·obtain⟨A,l,B⟩:=.hy t
  rw[.C A (f _ l) B]
 ·rw[.dI b a]
  ·subst z
   rw[.db aR];rw[.hD];obtain⟨⟨o,e,F⟩,⟨r,g⟩,_⟩:=.iD b h;refine j ?_;rw[.C (.fz e) ⟨r,g⟩ λD E ⟨o,e⟩ k=>.fz ⟨k o e.at_,e.cls⟩]
  ·rw[aK z]at q
   exact .ako (d c _ .eI z) λc i z=>d c _ .eI z
variable{k:Nat}{f C:Addr}{fd:FuncData}{ps:List Str}{sp:Sp}{E:XK}{E':Addr->Option Addr->Hp->Prop}{x n:Str}{M:Addr}{i j:Nat}{np cp vp ap hp pos p:Pos}{e:Expr}{es:List Expr}{t:TA}{σ0:L2.St}
def Ss(M:.fA Mk f)(F:.RX .PX sp)(hr:.oI)(hg:.bo)(hm:.j7 C)(J:.oJ [])
  (h:.Ta) (ha:PA (.h8<|So X σ0 E') (e::es) t) (L:autoParam (.a5) Q1Q._auto_1) (he:autoParam (.rx) Q3Q._auto_1) (hpl:autoParam (.eN es) Q3Q._auto_1) :
  PE (.h8<|So X σ0 E') (.RJ es) (.fb<|σ=σ0/\QL C sp [] E t σ H Q):=by
 rintro pins s σ H Q I ⟨rfl,S⟩;rw[.cN (zXi (pG (X:=.h8<|So X σ E') I hg hm ?_ L)) (.CB M.kp (thn (.xr ha _ I S) λm d U=>?_) he hpl)];rw[.j .zR];obtain⟨vs,H1,A,r,q⟩:=U;rw[.dq l (.c4 A.kIn)];have O:=q .s9 d.heap.objs.size (A.hok.fresh<|zVc _) (.hc A.hok.fresh) .z8;have D:=Inv.made (C:=C) A;have N:bS (V.ref .s9::(vs++[])) (.ee .s9::(m++[])):=.bn rfl<|.Bo .nil;have hl:.Id (.ee .s9::m) []:=by
  have e:=N.length;rw[.cd F.len O]at e;exact e.symm
 have y:=J _ (.Tn m) D.kIn hl;rw[zYb]at y;refine wpAny_call (.aic A.kIn (zXm (.Vw (.Tn m) (.Tn<|m++[]) _ _ E (hr.make C m [])
  (D.unwish.env0.make C m []) y N O) λr W c=>?_))
 cases r with
 |error e =>
  rw[.j .zR];obtain⟨a,C,B,t',w,oe,rfl,R,bare,un,hok,K,trk,old,g,q'⟩:=c;refine l ?_;have G:=D.unwish;have I':.aP w W:=G.call' (ch:=[]) R un hok bare .Mr;refine⟨pins,w,a,C,B,t',oe,rfl,I',K,⟨trk,λb o e J Y=>?_,.Pu⟩,g,h C _ w q'⟩
  ·obtain⟨o',e'⟩:=.bs G.base.there Y
   exact old b o' e' J
  ·rw[.j .zR];obtain⟨e,n,ne,T,_⟩:=G.pin p hp;refine l ?_
   exact .Xf (.Dk G.stkSub T)
 |ok K =>
  cases K with
  |ret u =>
   rw[.j .zR];obtain⟨v,w,P,Z,ev,q3⟩:=D.after c;refine l ?_;subst ev;rw[.o Z (.ch (V.ref .s9) w P q3)]
  |next=>rw[.fR c]
  |brk=>rw[.fR c]
  |cont=>rw[.fR c]
/---/def ab3(K:zCM)(M:Addr)(j L:Nat)(tc:.gb->TE)(th:Addr->.cx->TS):TS:=.kr<|∃E:.gb,tc E σ H .bw/\
 ∀C dd H' a,E C dd H'->H' a=none->σ.length=L->.xN K/\th C dd { nx:=λσ9 H9=>H9 a=.a .PH/\D.nx (σ9.set j none) (.fE H9 .pH),rt:=.bw } (.qf j .l3) (.fE H' .PH)
def V8{th:Addr->.cx->TS}(hc:∀q σ0 E,PE ((.ny).wish<|So .ny σ0 E) rhs<|.fb<|σ=σ0/\tc E σ H Q)(hh:∀q a C dd,PSs ((.ny).sui a) (w::r)<|th C dd)
  (b1:X.xe=.bw) (b:.zy) (S:.xy) (hm:.j7 M) (hg:.bo)
  (Z:.Kz) (W:.Mf) (P:.II) (hN:X.N.Nodup) (hj:.ES) (g:.p1 n)
  (a1:autoParam (.a5) Q1Q._auto_1) (hs:autoParam (.aoF rhs) Q3Q._auto_1) :
  PS X (.Try [.Expr rhs ap] [.IS np (w::r) hp] [] [] pos) (ab3 X.K M j X.N.length tc th):=by
 rintro pins s σ H D I ⟨E,h1,h2⟩;have l:=pI<|zy (X:=(.mH).wish<|So .mH σ E) (hc .zn σ E) (pos:=ap) hs;refine wpAny_Try_except (zZd (l [] s σ H { nx:=.bw,rt:=.bw } ((I.pinq).wish _)<|.co h1) (λf G q=>?_) λe G q=>?_)
 ·cases f with
  |next=>obtain⟨b0,H1,J,q⟩:=q;exact q.elim
  |brk=>rw[.sy]
  |cont=>rw[.sy]
  |ret u=>rw[.MS q.elim]
 ·rw[.j .h9];obtain⟨d,N,a,C,B,t,a0,rfl,J,R,A,g0,q⟩:=q;refine h ?_
  have hf:.WR:=.ay b I.ok.frames
  have a6:.my .vz G.heap:=.ay b R
  have hn:N a=none:=by
   cases e:N a with
   |none=>rfl
   |some u=>obtain⟨o,z⟩:=A.trk a u e;rw[.fh (R.2.1)]
  refine ZD hf S a6 λh4 V T a5=>ZE V λh5 c L K=>?_;have F:=J.flown (h':=h5) R.1 c.1 (T.trans L) A G.toks;rw[.j .h9];obtain⟨oe,vs,a3,a2,a9,_⟩:=c.first;obtain⟨y,Y⟩:=h2 C _ N a q hn J.len;rw[.da h (.af3<|.adg (F.mod.glob.keeps F.bk) a1)];rw[.cN (Hs F.kIn ⟨a3,a2⟩ y Z W P .ajA) (ZF c λh6 m O a4=>?_)];have J6:=F.flown (h':=h6) c.1 m.1 O A G.toks;rw[.j .h9];obtain⟨o4,g4,e4⟩:=a5 a a0 g0;obtain⟨o5,g5,e5⟩:=K a o4 g4;obtain⟨o6,g6,e6⟩:=a4 a o5 g5;refine h ?_;have J7:=Sn J6 (.ahq m) A g6;rw[e6,e5,e4]at J7;rw[.cN (uQ (X:=.mH) J7 hN hj (.G g) (v:=.z) rfl (λs8 J8=>?_)<|.F g) (zZd (hh .zn a _ _ d s8 _ _ _ (J8.marked a) Y) (λf s9 q=>?_) (.uE ?_))]
  ·cases f with
   |brk=>rw[.sy]
   |cont=>rw[.sy]
   |ret u=>rw[.MS q.elim]
   |next =>
    rw[.j .h9];obtain⟨a7,H9,J9,q8,q9⟩:=q;rw[.cv h (Inv.goes (X:=.mH) (Sr (J9.unmark I.ok.hd) q8) hN hj g λa8 U=>⟨_,_,U.unpin,q9⟩)]
  ·rw[.l0]
end
end Fy
set_option maxHeartbeats 4000000
namespace Fy
open PySem PySem.Spec L2 Fm PySem.W PyProof.Rows
structure DefKY(P:P6)(w:P7)(K:zCM)(mg:Str->Option R0)(base:Heap)(x:Str)(C:Addr)(k np:Nat)(F:Fn):Prop where
 mgC:mg x=some (.ref C)
 ex:∃f fd ps,Mk K C f/\gD K fd ps []/\cx P w K mg base (CX2 P w) k f fd ps (spY K mg F np)
/---/def ZH(K:zCM)(i il j:Nat)(C:Addr)(dd:.cx):TS:=.kr<|∃a dx m,σ[j]?=.bx a/\dd=.a dx/\.fl (Cr a C<|.a dx)/\Fh K C "line"/\H dx=.a .VQ/\D.nx (.Fr<|.qf i .l3) H
section
variable{X:Cx}{pos p:Pos}{C:Addr}
def ms_tryF{xp cp fp p1 ap hp vp a1 lp q1 q2 a2:Pos}(c2:X.xe=.bw)
  (T:.sY) (hd:.jW DefKY f C k np F) (hr:.oI) (a8:.b3 f) (ha:∀q R,MA ((.ny).wish R) (e::N) r) (hnp:.ya .o2)
  (c3:X.mg (.kZ nn)=.t I) (c1:.Y6 X.K (.kZ nn)=.bx I) (b9:nn≠"") (a4:.oh X.K (.d I) (.d M)=.cO) (Z:Fh X.K I "line") (Q:.zy)
  (b4:.xy) (hm:.j7 M) (hg:.bo) (b7:.Kz) (b6:.Mf)
  (a6:.II) (hN:X.N.Nodup) (hj:.ES) (Y:.p1 n) (hi:X.N[i]?=.a8) (S:.p1 c) (hl:X.N[il]?=.eC) (a3:.p1 l)
  (P:i≠j) (c5:il≠j) (b1:autoParam (.jt f) Q1Q._auto_1) (c0:autoParam (.a5) Q1Q._auto_1) (s:autoParam (.jt n) Q1Q._auto_1) (w:autoParam (.tG n) Q1Q._auto_1)
  (he:autoParam (.hl N=.i3 N) Q3Q._auto_1) (hpl:autoParam ((backTo p1<|.bS N).any (·.1)=false) Q3Q._auto_1)
  (hs:autoParam (.aoF .aji) Q3Q._auto_1) (b8:autoParam (.W0 vp a1.line X.env=.qC) Q3Q._auto_1)
  (b5:autoParam (.zY .amN (.a<|.gn l lp) a2.line X.env=.qC) Q3Q._auto_1) (hb:autoParam (.Cq (.gg q1) "line" X.env (.cP<|.gg q1)=.cP (.gg q1)) Q3Q._auto_1) :
  MS X (.Try [.Expr .aji ap] [.IS xp [.Og vp a1,.qQ (.gn l lp) .amN a2] hp] [] [] pos) (sTryF i il j nn<|fMkX F r):=by
 obtain⟨fa,fd,ps,h1,h2,h3⟩:=hd.ex;have hv:∀q a (z:Pos),PE ((.ny).sui a) (.gg z) (Ym j):=λq a z=>Ac hj (.G Y) s w;refine PS.imp (V8 (th:=ZH X.K i il j) (tc:=λE=>QL C (.h2 spY F np) [] .aoK<|.kL (rDs X.K) r) (λq c8 E=>Ss (X:=.ny) (E:=.aoK) (E':=E) h1 h3 hr a8 hd.mgC h2 (λC B H zz=>by obtain⟨O,e,q⟩:=zz;rw[.sx q]) (ha q _) b1 he hpl)
  (λq a C B=>.wA (uR (wF hN hi (.G S) (hv q a vp) b8<|.F S)<|pI<|wF hN hl (.G a3) (V6 (hv q a q1) hb) b5<|.F a3) λD σ H zz=>?_) c2 Q b4 hm hg b7 b6 a6 hN hj Y c0 hs) λEn σ H zz=>?_
 ·obtain⟨a',b,m,e1,e2,e3,e4,e5,e6⟩:=zz;subst e2
  exact⟨.d a',e1,.d a',by rw[zBO P];exact e1,a',C,b,_,.e m,rfl,e3,e4,e5,rfl,e6⟩
 obtain⟨ρ,σd,hd,rs,g⟩:=zz;unfold sTryF fMkX at g;cases er:.kR hd with
 |bad=>rw[er]at g;rw[.gJ]
 |exc y h1=>rw[er]at g;rw[.gJ]
 |ok ds s =>
  dsimp[er]at g;cases U:F (.d s.length::ds) (.lY s) with
  |bad=>dsimp[U]at g;rw[.gJ]
  |ok d w=>dsimp[U]at g;cases d<;>exact g.elim
  |exc y w =>
   dsimp[U]at g;split at g
   ·rename_i cn m _ z
    cases z;split at g
    ·rename_i hcn
     subst hcn;rw[.eD (λO B H'=>O=I/\∃b ρ' A,B=.cu/\.p5 A/\H'=upd A b .VQ/\.gp A/\.p2 RH A w) (.eU hd rs)]
     ·rw[er]
      intro vs L o a5 t rv x b nx a0 a9;rw[X1];have xn:x∉o:=λz=>by
       rcases t.hp.mut z with ⟨_,q⟩|⟨_,q⟩|⟨_,q⟩|⟨_,_,_,q⟩<;>(rw[.db nx])
      have x1:Ext o L o .Fe:=.xw<|.WW a0;have W:.Fe x=none:=by rw[aK<|zZs a9];exact nx
      have x2:Ext o .Fe (o++[x]) (upd .Fe x<|.F4 b):=Ext.alloc W;have x3:=x1.trans x2;have r1:RH X.K o (upd .Fe x<|.F4 b) s:=(t.hp.same<|cj a0).same<|cj W;have r2:=r1.allocO aR xn T.at_;refine⟨o++[x],.lY s,.d s.length::ds,r2,?_,hnp _ _<|.ff U .CN,?_⟩
      ·dsimp[RDs]
       refine .bh _ _ ?_<|rv.mono<|t.hp.kp x3;dsimp[RD];rw[.oe x (.iW t.hp.len)]
      ·rw[U]
       refine⟨cn,[.e m],I,rfl,c3,λH' ρ' ex rh=>λc4 v K rv=>?_⟩;have ev:v=.e m:=by simpa only[RD] using rv
       subst ev;exact⟨I,rfl,rfl,c4,ρ',H',rfl,K,rfl,a5.trans<|x3.trans ex,rh⟩
     ·rintro O B H' a ⟨rfl,b,ρ',A,rfl,a7,rfl,ex,rh⟩ K hL
      have nd:a≠b:=λz=>by rw[z,aR]at K;cases K
      have b0:A a=none:=by rw[aK nd]at K;exact K
      have b3:.GU j:=.Xk hj
      have c7:.GU i:=.Xk hi
      have c6:.GU il:=.Xk hl
      refine⟨a4,a,b,m,.bA<|X0 b3,rfl,aR,Z,.L (aK<|zZs nd) aR,aR,?_⟩;have sm:lS A (upd (.fE (upd A b .VQ)<|Cr a O .cu) a<|lG a O):=λq u h=>by
       have n1:q≠b:=.amk a7
       have n2:q≠a:=.amk b0
       rw[aK n2,aK n2,aK n1];exact h
      have J:=(rs.ext ex rh).same sm;refine g _ _ ρ' (ex.sm sm) ⟨J.hp,⟨by rw[.mm zZn J.st.len],λk d G=>?_⟩⟩;have b2:=(J.st.set i (d:=.exn cn []) (v:=.z) (by dsimp[RD];rw[.O ⟨b9,trivial,a,O,rfl,aR,c1⟩])).set il (d:=.e m) (v:=.e m) .BG
      by_cases hkj:k=j
      ·subst hkj
       exfalso
       dsimp[slot]at G
       by_cases hlt:k<.s (.Fr<|σd.set i<|.a<|.exn cn [])
       ·rw[X0 hlt]at G;cases G
       ·rw[zZz (by rw[zZn];omega)]at G;cases G
      ·dsimp[slot,.pu hkj]at G
       obtain⟨v,hv,rd⟩:=b2.at' k d (by simpa only[slot] using G);refine .gi v rd;rw[.pu hkj];have e9:.Fr ((.qf j .l3).set i<|.b0 V.ref a)=(.Fr<|.oC<|V.ref a).set j .l3:=by
        rw[List.set_comm _ _<|zZs P,List.set_comm _ _<|zZs c5]
       rw[e9,.pu hkj];exact hv
    ·rw[.gJ]
   ·rw[.gJ]
end
end Fy
set_option maxHeartbeats 4000000
namespace Fm
open PySem PySem.Spec L2 PySem.W PyProof.Rows
/---/def rz(f:.iu α):EF:=.ahn<|.fj x h'
/---/def sRz(f:EF):SF:=.ahn<|.fj x σ h'
section
variable{X:Cx}{E:Addr->Hp->Prop}{pos p:Pos}{e c:Expr}{f:EF}
def Kr(h:.kW){σ:L2.St}{Q:VK}(I:.n)(j:.N6 (rz f) σ H Q):.v4 e .bw X.xe s:=by
 rw[.j .i2];obtain⟨ρ,σd,a,g,p⟩:=j;refine i ?_;unfold rz at p;cases c:.gZ a with
 |ok d b=>rw[.eb]
 |bad=>rw[.eb]
 |exc x b =>
  rw[.gm c (thn (.kS .bw I<|.au a g<|.p c p) λ_ _ k=>by obtain⟨_,_,_,_,z⟩:=k;exact z)]
def XJ(h:.kW)(a:∃k,.cP c=.cP e >>= k:=by exact⟨_,rfl⟩):NE X E c (rz f):=by
 intro pins s σ H Q I b;obtain⟨k,a⟩:=a;rw[a];exact zF<|.Fp<|Kr h I b
def ab4(h:.kW):NE X E (.Nx .yt) (rz f):=by
 intro pins s σ H Q I j;have z:∃k,.u4 .yt (.cP .yt)=.cP e >>= k:=.K;have y:∃k,.cP (.Nx .yt)=.u4 .yt (.cP .yt) >>= k:=.K;obtain⟨k,l⟩:=z;obtain⟨m,i⟩:=y;rw[i,l];exact .sz<|.Fp<|Kr h I j
def Na(h:.pi a r){σ:L2.St}{H:Hp}{Q:VK}(I:.n)(k:.N6 (rz r) σ H Q):.ts (spliced<|.tB<|.hl a) .bw X.xe s:=by
 rw[.hD];obtain⟨ρ,σd,b,i,p⟩:=k;refine j ?_;unfold rz at p;cases c:.kR b with
 |ok d g=>rw[.eb]
 |bad=>rw[.eb]
 |exc x g =>
  rw[.gm c (thn (.xr h .bw I<|.au b i<|.p c p) λ_ _ l=>by obtain⟨_,_,_,_,z⟩:=l;exact z)]
def zI(k:.bo)(h:.j7 d)(j:.Cc X.K (.d d)=true)(g:.pi a r)(b:autoParam (.a5) Q1Q._auto_1)
  (he:autoParam (.OI) Q3Q._auto_1) (hpl:autoParam (.eN a) Q3Q._auto_1):.zt a (rz r):=by
 intro pins s σ H Q I i;rw[.eB (zXi (pG I k h ?_ b)) (.CB j (.Fp<|Na g I i) he hpl)]
def Hy{id:String}(k:.bo)(h:.bX x)(i:.qV .GP)(d:.pi a r)(g:autoParam (.oF) Q1Q._auto_1)(b:autoParam (.a5) Q1Q._auto_1)
  (he:autoParam (.OI) Q3Q._auto_1) (hpl:autoParam (.eN a) Q3Q._auto_1):.zt a (rz r):=by
 intro pins s σ H Q I j;rw[.eB (zXi (pH I k h i ?_ g b)) (.ahr<|.Fp<|Na d I j)]
def Hz(q:.bo)(n:.bX x)(k:.qV<|.bQ T)(l:.pi a r)(m:autoParam (.oF) Q1Q._auto_1)(g:autoParam (.a5) Q1Q._auto_1)
  (he:autoParam (.OI) Q3Q._auto_1) (hpl:autoParam (.eN a) Q3Q._auto_1):.zt a (rz r):=by
 intro pins s σ H Q I b;rw[.I (.U (wK (r:=λ_ _ _=>False) (T:=T) (λ_ _ _ _ _ _ _ _ _ z=>z.elim) q n k l m g he hpl) .D3 pins s σ H Q I b) .hU];obtain⟨ρ,σd,h,o,p⟩:=b;refine j ?_;unfold rz at p;cases c:.kR h with
 |ok d i=>rw[.eb]
 |bad=>rw[.eb]
 |exc x i=>rw[c]at p;exact .au h o (.p c p)
def ZI(h:.kW):.en (.CK e) (sRz f):=by
 intro pins s σ H D I j;rw[arm_exec_For];rw[.I (.H1 (zF (.Fp (Kr (Q:=.bw) h I ?_)))) .i2];obtain⟨ρ,σd,a,g,p⟩:=j;rw[.eW i a g];unfold sRz at p;unfold rz;cases c:.gZ a with
 |ok d b=>rw[.eb]
 |bad=>rw[.eb]
 |exc x b=>rw[.gm c p]
end
end Fm
set_option maxHeartbeats 4000000
namespace Fm
open PySem PySem.Spec L2 PyProof.Rows
/---/def w4(a b:EF)(tg:GF)(body:SF):SF:=.ax<|match .bM with
 |.ok x h1=>match .hO with
  |.ok y h2=>match lq h2 x,lq h2 y with
   |some (l,o),some (k,o')=>qT (.CQ o') tg body (.bD l.zip k .Lj) σ h2
   |_,_=>.bad
  |_=>.bad
 |_=>.bad
section
variable{X:Cx}{E:Addr->Hp->Prop}{pos:Pos}{tg:Expr}
def Nb(hp:.Da)(hc:.bB)(hi:MIZ X tg t f Z)(hg:.GL)(hb:.gA body b)
  (hs:autoParam (.mz t) Q2Q._auto_1):.en (.CK t) (w4 f Z g b):=by
 rw[.I (.S7 hc λEn σ H U=>?_) .vg];obtain⟨ρ,σd,hd,rs,p⟩:=U;rw[.eW kq hd rs];unfold w4 at p;unfold MP;cases e:.hh with
 |exc x h'=>rw[.br]
 |bad=>rw[.br]
 |ok d a0 =>
  rw[e]at p;simp only at p⊢;cases T:Z σd a0 with
  |exc x h'=>rw[.gm T p]
  |bad=>rw[.gm T p]
  |ok d2 K =>
   rw[T]at p;simp only at p⊢;cases c1:lq K d with
   |none=>rw[.c2 c1]
   |some p1 =>
    obtain⟨l0,o⟩:=p1;cases z:lq K d2 with
    |none=>rw[c1,z]at p;rw[.bC]
    |some p2 =>
     obtain⟨k0,o'⟩:=p2;rw[c1,z]at p;simp only at p ⊢;intro J H1 N S V R;generalize hG:(λh:Hd=>em o l0 h/\em o' k0 h)=G at p R;generalize (.bD l0.zip k0<|.Ko .fF)=l at p R;refine⟨λi m σ' B=>∃ρ' n hd',.Gu N B/\.A6 B n hd' σ'/\.h5 i/\m=.NR i/\.h2 PostX ρ' B (qT G g b (.hC i) n hd') E En,
      ⟨l.length,N,σd,K,Ext.refl,V,zZc _,.f,.h1<|PostX.ext S p⟩,?_⟩
     rintro i m σ' B ⟨ρ',n,hd',Q,A,a4,rfl,a⟩
     by_cases M:.iZ
     ·have W:.yT:=.k M
      rw[zYd M]at a;unfold qT at a
      by_cases L:G hd'
      ·rw[z3 L]at a
       rw[.Qt (R.go ρ' B hd' i _ Q A.hp L W) (.F ⟨go,λI F=>∃u j w,Ext N H1 u F/\.f7 u F j w I/\.h2 PostX u F (qT G g b (.hC<|i + 1) j w) E En,
        λI F U=>by obtain⟨u,j,w,a1,a2,a3⟩:=U;exact⟨.sA<|i+1,.bm,u,j,w,a1,a2,M,rfl,a3⟩,λx F y=>?_⟩)]
       obtain⟨sm,rx⟩:=yl x F y;cases c:g l[i] n with
       |none=>rw[.dc c]
       |some j =>
        rw[.FM c];refine⟨ρ',n,hd',l[i],j,A.same sm,rx,c,λI Y=>.g4 ρ' j hd' Y⟩;have r:.pZ B ρ' F:=.f8 sm;cases z:b j hd' with
        |nx σ3 O=>rw[.aA z .aco]
        |ct σ3 O=>rw[.aA z .aco]
        |bk σ3 O=>rw[.aA z λC P q k s=>a C P q (.sO k) s]
        |rt d O=>rw[.aA z λv P q k s rv=>a v P q (.sO k) s rv]
        |exc x σ3 O=>rw[.aA z (.qR r a)]
        |bad=>rw[.aA z a]
      ·rw[.dc (yM L)]
     ·have e0:.jn i:=.bm
      subst e0;rw[zXk]at a;unfold qT at a
      by_cases L:G hd'
      ·rw[z3 L]at a
       rw[.iJ (R.stop ρ' B hd' Q A.hp L) (.Xe B A)]
      ·rw[.dc (yM L)]
end
end Fm
set_option maxHeartbeats 4000000
namespace Fm
open PySem L2 PySem.Spec PyProof.Rows
section
variable{M:Model}{A:R3}{E:R0->R1->Prop}{s:R1}{base:Heap}{env:Env}{outer l:List Env}{L e:Addr}{cls a0:R0}{Q:Unit->R1->Prop}
/---/def DI(base:Heap)(l:.f9)(e:Addr)(cls a0:R0)(h:Heap):Prop:=base.StaysIn h/\.ZB e/\.WP/\∃fl,.ak8 fl
def HA(k1:base.StaysIn h)(k2:.ZB e)(k3:.WP)(F:.ak8 C)(x:R0):∃f vs T m g,.dQ e=.iB/\f.data=.ou vs/\vs[0]?=.a a0/\f.cls=cls/\vs[1]?=.t T/\T≠e/\.dQ T=.a m/\m.data=.ou g/\g[3]?=.a C/\
  (∀h',h'=.agc->base.StaysIn h'/\h'.FunFrames base l/\h'.TracedAtW base e cls a0 x/\.hb e=.iB/\h.UpToSlots h'):=by
 rw[.j .zS];obtain⟨f,vs,T,m,g,n,⟨u,v⟩,t,r,k,c,q,a,B⟩:=F;refine D ?_;have p:3<g.size:=(zWi.mp B).1;refine⟨f,vs,T,m,g,n,t,v,u,r,c,q,a,B,?_⟩;rintro h' rfl;have i:∀b,b≠T->.eY .agc b=.dQ b:=λb z=>zVe _ _<|zZs z;have w:.cJ (.fv b->(∀vs,o.data ≠ .ou vs)->b≠T):=λb o d j z=>by
  rw[z,q]at d;cases d;exact j g a
 refine⟨λb o z=>.i (i b λy=>by rw[y,k]at z;cases z)<|k1 b o z,k3.of_keeps λb o d j=>⟨o,.alM,rfl⟩,?_,.i (i e<|zZs c) n,λb o d j=>.rK .alM⟩;exact⟨f,vs,T,_,_,.i (i e<|zZs c) n,⟨u,v⟩,t,r,k,c,zWk _ q<|.akq a,zUj a _,.k p⟩
def Su(m:.Na DI s.heap)(n:.aah<|.Na DI h'):.Wn f:=by
 rw[.j λ_ k=>?_];obtain⟨t,b,r,G,w⟩:=m;obtain⟨z,F,T,B,x,c,i,D,C,h,o,p,a,v,q⟩:=HA t b r w<|f.elim Value.none λf=>rawInt f;obtain⟨j,g,d,y,u⟩:=.md q;refine k ?_;unfold setFlight;refine zF (zZy c i h ?_);rw[z3<|show .akD by simp];exact .Wy p a (zWi.mp v).1<|n _ ⟨j,b,g,_,d⟩ u
def Ks(f:.T1)(d:.EY L)(m:.QW DI s.heap)(j:.aah .VU):.ald:=by
 rw[.nJ];obtain⟨p,b,n,t,g⟩:=m;refine c ?_
 by_cases o:t=rawInt L
 ·subst o
  exact wpAny_noteFrame_againW d g (j _ ⟨p,b,n,g⟩<|Heap.UpToSlots.refl _)
 ·rw[.nJ];obtain⟨O,R,T,P,N,u,i,I,H,h,B,k,a,r,q⟩:=HA p b n g .none
  obtain⟨x,v,K,G,J⟩:=.md q;refine c ?_;unfold noteFrame;dsimp[d];refine zF (zZy u i h ?_);rw[z3<|show .akD by simp];refine zF (zZy k a r ?_);rw[yM<|show ¬(.s8 t<|rawInt L) from λz=>o<|.v1 z];refine zF (.Wy k a (zWi.mp r).1 ?_);subst H;exact wpAny_entryW f v d G x b i (zWi.mp h).1 I λh' D=>by obtain⟨F,y,w,C⟩:=D;exact j h' ⟨F,b,y,w⟩ (J.trans C)
def HC(a:.T1)(d:.EY L)(m:.QW DI s.heap)(o:.aah<|.Cy outer h'):.mG (leaving env<|.d e):=by
 unfold leaving;rw[.e9 (Ks a d m λp k c=>?_) (wpAny_landsW k λh' b i=>?_)];rw[.hD];obtain⟨h,g,⟨_,_,f⟩,n⟩:=b;rw[.cv j (o h' ⟨h,g,f,n⟩<|c.trans i)]
end
end Fm
set_option maxHeartbeats 4000000
namespace Fm
open PySem PySem.Spec L2 PyProof.Rows
section
variable{prog:P6}{w:P7}{A:R3}{R:Result->R1->Prop}{s:R1}
noncomputable def Kt(I:.eK Nat)
  (turn:∀n s,I n s->.hW (pyNext it) (λr a => match r with
   |none=>R .PI a
   | some v=>.hW (.Y4 b it v) (λ_ a => .hW (assign b env v) (λ_ f => .EO g (λx e =>
       .afG (λ_ d=>∃m,m<n/\I m d) .bw e) (notedBy .qz A env λx o=>R (.error x) o) f) .bw a) .bw a) .bw s)
  (n:Nat) (h:I n s):.aos (.pd g [⟨b,j,[],0⟩] scope pos):=by
 rw[.cN (codeAny_loop rfl I (λn s p=>?_) n h) (wpAny_noted ?_)];rw[compTurn_list1];refine .H1 (zF (zUq (zZd (turn n s p) (λr a c=>?_) .s7)));cases r with
 |none=>exact xU c
 |some v =>
  rw[.e9 (zUq (zZd c (λ_ a c=>?_) .s7)) (zF (zUq (zZd c (λ_ f i=>?_) .s7)))];rw[.eB (zF (zF (zZd i (λx e k=>?_) .s7))) (zF<|zUq<|zZd k (λ_ d l=>xU<|xU<|.co l) .s7)]
end
/---/def XM(X:Cx)(E:.er)(e:R0)(s':R1):Prop:=.agh<|DI B X.stack a .aJ .w8 s'.heap
def ZJ{K:zCM}{f:Addr}{k:R0}{A:R3}{outer:.f9}{s:R1}{H:Hp}{E:XK}{e:R0}{i:R1}
  (h:XM (.xV k) (λC g=>.uP g) e i):(.xV k).xe e i:=by
 rw[.j .oN];obtain⟨pins,σ,g,a,C,B,t,rfl,I,j,c,q⟩:=h;rw[.da n (HC I.ok.frames rfl j λr l m=>?_)];have J:=I.flown j.1 l.1 m c i.toks;refine⟨a,C,B,t,g,rfl,J.os,J.bare,J.base,J.hok,l,c.trk,λb o e p=>.R3,q⟩;rcases .ue z with y|y
 ·exact .B y .tC
 ·exact p y
def HD{h base:Heap}(b:.WP):h.FunFrames (.Cs base [C]) l:=by
 induction l with
 |nil=>trivial
 |cons env rest i =>
  rw[.j .dR];obtain⟨j,⟨L,o,a,c,g,k⟩,d⟩:=b;rw[.dq f ⟨j,⟨L,o,a,?_,g,k⟩,i d⟩];cases e:.MD L with
  |none=>rfl
  |some u=>rw[.hu (zXh _ e) c]
def Nc(h:.ZB a):.MD a=none:=by
 cases e:.MD a with
 |none=>rfl
 |some u=>rw[.hu (zXh _ e) h]
def hide_self:.MD C=none:=Heap.hide_self base C
structure XI(X:Cx)(own capn:List Str)(scope:Scope)(cl:List (Str × Addr))(s2:R1)(C:Addr)(H1:Hp)(ρ1:List Addr)(fp:List Addr)(tn:Nat->Heap->Prop)(G:Hd->Prop)(g:GF)(e:EF)(l:List D)(r0:Res (List D))(d:CD)(s':R1):Prop where
 le:d.i<=l.length
 inv:Inv (cxC X (own++capn) scope cl C s2 H1 fp) [] d.σ d.H s'
 st:tn d.i s'.heap
 fr:∀b∈fp,d.H b=none
 at':d.H s2.heap.objs.size=some (.lst d.ys)
 out:s2.heap.objs.size∉d.ρ
 yl:d.ys.length<=d.i
 ex:Ext ρ1 H1 d.ρ d.H
 rs:RS X.K d.ρ d.H d.σd d.hd d.σ
 ac:RDs X.K d.ρ d.H d.acc d.ys
 run:(dS G g [] e (l.drop d.i) d.σd d.hd).bind (λds h=>.ok (d.acc++ds) h)=r0
section
variable{X:Cx}{E:Addr->Hp->Prop}{pins:List (Addr × Obj)}{σ:L2.St}{H1:Hp}{s2:R1}{scope:Scope}{own capn:List Str}{caps:List Nat}{cl:List (Str × Addr)}
def Ku{c5 tg b4:Expr}{G:.nZ}{K:.am}{E0:.fB}{QQ:.fB}
  (hc:.bB) (M:.zy) (f8:.xy) (hM:∀e A,.kU XM A->.p9 A) (S:.k7) (f7:.ae1 c5)
  (Z:.aP H1 s2) (T:.Wg O) (c9:tn 0 s2.heap) (hf:∀b∈O,.pA H1) (d5:.f7 K H1 σd a6 σ) (wk:uZ X.K K H1 J l G)
  (b0:.zg .qF) (d2:∀y∈scope.names,.xt)
  (run:.ph g l .rn a6=r0) (Y:r0 ≠ .bad) (g9:∀x c6,r0=.ic c6->.h2 XC K H1 E x c6)
  (g2:∀ds c7,r0=.kK c7->∀C A m k ρ' vs,s2.heap.objs.size < C->A.heap.Ns C m->.aP k A->k C=none->.Gu K k->.p2 RH k c7->.Oq->.Co k=.x vs->.ak4->.p2 RDs k ds vs->
   .Jx .jS C .PI A) :
  .fW (newList []) (λacc R => .ace (λa2 d6 =>
   .L8 (.compStart .agP 0 .BK acc { a2 with scope:=.Ws }) (.Jx acc a2.locals) d6) E0 R) E0 s2:=by
 refine .adl λV I F=>?_;dsimp only at I F⊢;generalize hH2:.abz=j at I F⊢;have hC:j.objs.size=s2.heap.objs.size+1:=by rw[<-hH2,zZi]
 have h7:.uW s2.heap.objs.size:=.D0 .z8
 have old:.Vv V.get?:=.af8 F.extBut;have e3:.Uy V.get?:=.Oi h7<|.gv<|hH2▸.ds;have b9:∀b∈O,.K8:=λb w=>by
  obtain⟨o,ho,_⟩:=T.obj 0 _ c9 b w;exact zAR ho
 have P:.X2 j.objs.size:=.D0<|wx _
 have a3:.Oq:=.hc Z.hok.fresh;have d9:tn 0 V := .ajx c9;have f6:.Ls K:=d5.hp.free a3;obtain⟨hG,hE⟩:=f7 cl j.objs.size s2 H1 O;have I':=Ds (tk:=.JC) Z S P b0 d2 hf b9 I old e3;have c4:∀{k:Hp},(∀b∈O,.p5 k)->∀b∈O,.x1 wG [] k b:=λ{k} hn b w=>by
  rw[.V2 .r6 .wH];refine Q ?_;have lt:=b9 b w;refine⟨hn b w,.adH j.objs.size,.gz,.G w,.sC<|f4 x c<|.io b0,.aeV⟩;rcases .bj (Z.stkSub b z) with q|q
  ·exact f1 q
  ·exact f2 q
 have d8:∀{ev:R0} {A:R1},.x1 XF E ev A->notedBy .Ch X.A (.KI j.objs.size) (λx A=>.Jx .jS j.objs.size (.error x) A) ev A:=by
  rintro ev A ⟨g0,σ',k,a,C,B,t,rfl,Jc,fl,cv,q⟩;show .fW (noteFrame .z X.env) _ _ A;have g3:.my .vz A.heap:=.ay M fl
  have g4:.WR:=.ay M Z.ok.frames
  refine wpAny_looks_onW g4 f8 g3 λh4 d0 g1=>?_;have J4:=Jc.flown (h':=h4) fl.1 d0.1 g1 cv A.toks;obtain⟨m,hm,_⟩:=J4.loc;refine⟨m,hm,λh' sb a2 i5=>?_⟩;have d3:.tr Cov k .MP:=by
   have hk:∀b,.uW b->.aap->∃o,.sn .MP:=λb n ⟨o,z⟩=>.fz<|zYq _ z .MH;have b3:.cJ (.iq s2.heap.get?->b∉.oL->b∉O->∃o,.sn .MP):=λb o z n1 n2=>hk b (zBM<|.DR z P)<|cv.old b o z n1 n2;refine⟨λb u z=>hk b (λy=>?_)<|cv.trk b u z,λb o z w hx=>?_,.Pu⟩
   ·rw[y,show k j.objs.size=none from J4.free]at z;cases z
   ·obtain⟨o',z'⟩:=Z.base.there b o z hx
    refine b3 b o' z' w λy=>?_;rcases (hf b y).2.2.2.1 with y|y
    ·exact hx y
    ·exact .B (zAR z) (.sP y)
   ·rw[.j .r6];obtain⟨z,n,ne,nf,_⟩:=Z.pin p hp;refine Q ?_
    exact b3 p.1 p.2 z (λy=>(.bj<|Z.stkSub p.1 y).elim ne nf) λy=>(.nK<|hf p.1 y).2 p hp rfl
  have Ix:.aP k { A with heap:=h4 }:=Z.call' J4.os J4.base J4.hok J4.bare λb w=>by
   rw[.V2 .r6 .wH];refine Q ?_;rw[.al f3 f1 f4 f5]
  have Ih:.aP k { A with heap:=h' }:=by
   refine Inv.turned (s:={ A with heap:=h4 }) Ix (it:=j.objs.size) (t':=A.toks) (λb o w e=>.i (sb.2 b w) e) J4.free ?_ (.Gf<|zBR Z.sz P) .ER .Oh
   ·exact wh (UH Z.lt P)
   ·rw[.aaU Z.cell]
    exact .Ow P
   ·exact .qD (.Fv Z.pin P)
  rw[.j .r6];obtain⟨k1,k2,k3,oe,vs,T',oT,ts,he,i1,hd,h1,e9,g6,hT,d7,h3⟩:=d0;obtain⟨oC,i6,i4,h9,h6,_⟩:=hm;refine Q ?_;have b7:∀{b:Addr} {o:Obj} {vs:.i1},.iq h4.get?->o.data=.ou vs->.uW b:=λ{b o vs} z d y=>by
   rw[y]at z;rw[.fh (show h4.get? j.objs.size=.a oC from h9)];rw[.pL h6]
  have mk:DI .MP X.stack a .aJ .w8 h':=by
   refine⟨λb o z=>?_,Nc k2,?_,_,oe,vs,T',oT,ts,.aj7,i1,hd,h1,Nc e9,g6,.i (sb.2 T'<|b7 hT d7) hT,d7,h3⟩
   ·have n:.uW b:=λy=>by rw[y,hide_self]at z;cases z
    exact .i (sb.2 b n) (k1 b o<|zXh _ z)
   ·rw[M]
    have nf:∀b∈(.vz).filterMap (·.frame),.uW b:=λb w y=>by
     have:=Ix.stack.mem (b:=b) (.p M w);have h2:=Z.stack.mem (b:=b)<|.p M w;obtain⟨_,o,ho,_⟩:=h2;exact .B (.DR ho P) (by rw[y];exact vr _)
    have:∀{l:.f9},(∀b∈.amB,.uW b)->h4.FunFrames B l->h'.FunFrames B l:=by
     intro l
     induction l with
     |nil=>intro _ _;trivial
     |cons en r ih =>
      intro hn hl;rw[.j .r6];obtain⟨hk,⟨L,o,hf,e6,ho,hd⟩,hr⟩:=hl;refine Q ?_;have nL:.uW L:=hn L<|.bJ zXa hf;rw[.C hk ⟨L,o,hf,e6,.i (sb.2 L nL) ho,hd⟩ (ih (λb w=>hn b (by dsimp[zXa,hf];exact .dF w)) hr)]
    exact HD (this nf k3)
  unfold PySem.passOn;refine zF (zZy (show .HQ oe from .aj7) hd h1 ?_);rw[yM<|show ¬(.av<|.KK T') by simp];rw[.eB (zF (Su mk λh5 e1 u5=>?_)) (wpAny_throw<|hM _ _ ⟨pins,σ,k,a,C,_,t,rfl,Ih.flown mk.1 e1.1 u5 d3 A.toks,e1,d3,q⟩)]
 have b5:∀R:R1,R = { s2 with heap:=V,toks:=.JC }->
   .L8 (.WT .agP .BK .jS<|.KI j.objs.size) (.Jx .jS j.objs.size) R := by
  rintro R rfl;refine Kt (λn A=>∃d:CD,n=.sA d.i/\XI X own capn scope cl s2 j.objs.size H1 K O tn G g e l r0 d A) ?_ l.length
   ⟨⟨0,[],[],[],K,_,a6,_,_⟩,.f,zZc _,I',d9,λb w=>?_,aR,f6,zBK _,.f8<|cj a3,Ar S d5 a3,RDs.nil,?_⟩
  ·rintro n A ⟨⟨i,ys,acc,rest,ρ',W,hd',k,σ'⟩,rfl,ci⟩
   have i3:.h5 i:=ci.le;have I':.x1 Inv [] σ' k A:=ci.inv;have d1:tn i A.heap:=ci.st;have e4:∀b∈O,.p5 k:=ci.fr;have d4:.AF k:=ci.at';have a7:.Ls ρ':=ci.out;have e7:ys.length<=i:=ci.yl;have ex:.Gu K k:=ci.ex;have a4:.A6 k W hd' σ':=ci.rs;have a8:.p2 RDs k acc ys:=ci.ac;have f:(.ph g (.hC i) W hd').bind (λds h=>.v<|acc++ds)=r0:=ci.run
   by_cases hlt':.iZ
   ·have i0:.yT:=.k hlt'
    rw[zYd hlt']at f;unfold dS at f
    by_cases hh:G hd'
    ·rw[z3 hh]at f
     obtain⟨go,yl⟩:=wk.go ρ' k hd' i _ ex a4.hp hh i0;cases c:g l[i] W with
     |none=>rw[.n7 c .Od]
     |some σd2 =>
      rw[c]at f;dsimp[kc,aE,zYh]at f;refine thn (.x1 T.item rfl rfl rfl hc i [] A σ' k .bw I' (c4 e4) d1 go) λr b6 zz=>?_;obtain⟨u,hr,h4⟩:=zz;subst hr;rw[.I .ank .r6];obtain⟨x,H5,I5,r5,y5,b8,e8⟩:=zz;obtain⟨sm,rx⟩:=yl x H5 y5;refine Q ?_;have g8:=I5.pinned (c4 e8)<|.AG b8;have h8:=a4.same sm;rw[.I (thn (hG _ s5 σ' H5 x u (λN H6=>H6=H5/\.A6 H5 σd2 hd' N) g8 r5 ⟨ρ',W,hd',l[i],σd2,h8,rx,c,λN a1=>.co a1⟩) λ_ s6 zz=>?_) .r6];obtain⟨N,H6,I6,g5,a1⟩:=zz;refine Q ?_;subst g5;have c8:∀{e2:L2.St} {H8:Hp} {s8:R1},.x1 Inv ([]++wH O s5.heap) e2 H8 s8->tn (i+1) s8.heap/\∀b∈O,.p5 H8:=λ{e2 H8 s8} I8 =>
       .aeY (by
        obtain⟨o,e,d⟩:=.AG b8 b w;exact(.Q2).2.1)
      have a5:.pZ k ρ' H6:=.f8 sm;have b2:.AF H6:=a5.frame _ _ d4 a7;have c0:=a8.mono<|a4.hp.kp a5;cases c3:e σd2 hd' with
      |bad=>rw[.n7 c3 .Od]
      |exc z hX =>
       rw[.n7 c3 (zZd (hE _ s6 N H6 .bw (I6.wish _) ⟨ρ',σd2,hd',a1,by rw[c3];exact XC.ext (ex.trans a5)<|g9 z hX f.symm⟩) (λ_ _ zz=>by obtain⟨_,_,_,_,z⟩:=zz;rw[.l0]) λev s8 z=>d8 z)]
      |ok d c2 =>
       rw[c3]at f;dsimp[aE]at f;refine zZd (hE _ s6 N H6 (λv H8=>∃U,.pZ H6 U H8/\.f7 U H8 σd2 c2 N/\RD X.K U H8 d v) (I6.wish _) ⟨ρ',σd2,hd',a1,by
        rw[c3];exact λv H8 U a0 c1 q=>⟨U,a0,c1,q⟩⟩) (λu8 s8 zz=>?_) λev s8 z=>d8 z;obtain⟨v8,H8,h0,r8,U,a0,c1,g7⟩:=zz
       have I8:=h0.unwish;have b1:.AF H8:=a0.frame _ _ b2 a7;have a9:=a0.out b2 a7;rw[.I (thn (wM _ s8 N H8 .jS [v8] .jS [u8] (.aew H8) I8 rfl (.jo r8) ⟨_,ys,v8,rfl,rfl,b1,by have:=wk.sz;lia,rfl⟩) λu9 s9 zz => ?_) λ_ Q => ?_];rw[.apn];obtain⟨e5,f9⟩:=c8 I9;obtain⟨i2,k9⟩:=c1.other b1 a9;rw[.dq Q ⟨.NR<|i + 1,.Wl hlt'<|wx i,⟨i + 1,ys++[v8],.vC d,[],U,σd2,c2,_,N⟩,rfl,hlt',I9.unpinned,e5,f9,aR,a9,.uJ e7,(ex.trans<|a5.trans a0).other a3,i2,
        (.of c0.mono (a1.hp.kp a0) k9).append<|.rL<|g7.mono k9,?_⟩]
       rw[<-f];cases .ph g (.hC<|i+1) σd2 c2 with
       |ok ds h=>dsimp[aE,zBT,List.singleton_append]
       |exc x h=>rfl
       |bad=>rfl
    ·rw[.n7 (yM hh) .Od]
   ·have e0:.jn i:=.b
    subst e0;rw[zXk]at f;unfold dS at f
    by_cases hh:G hd'
    ·rw[z3 hh]at f
     dsimp[aE,X1]at f;refine thn (.x1 T.done rfl rfl rfl hc _ [] A σ' k .bw I' (c4 e4) d1<|wk.stop ρ' k hd' ex a4.hp hh) λr b6 ⟨hr,I4⟩=>?_;rw[.apv];rw[.eB (g2 acc hd' f.symm j.objs.size b6 m k ρ' ys P hm ?_ I4.free ex a4.hp a3 d4 a7 a8) (.ak7 Z.call' λb w=>by
      rw[.V2 .r6 .wH];refine Q ?_;rw[.al f3 f1 f4 f5])]
    ·rw[.n7 (yM hh) .Od]
  ·show .sI _ _ b=none
   rw[aK<|zBM<|b9 b w];exact(.wH).1
  ·show (.ph g (.hC 0) .rn a6).bind _=r0
   rw[List.drop_zero,run];cases r0<;>rfl
 exact .aon b5<|zUq<|T.self _ 0 _ _ _ d9<|.md b5
end
end Fm
set_option maxHeartbeats 4000000
namespace Fm
open PySem PySem.Spec L2 PyProof.Rows
/---/def sA(nl:Nat)(caps:.g)(a b:EF)(tg:GF)(e:EF):LF:=.ax<|match .bM with
 |.ok x h1=>match .hO with
  |.ok y h2=>match lq h2 x,lq h2 y with
   |some (l,o),some (k,o')=>dS (.CQ o') tg [] e (.bD l.zip k .Lj) .EX h2
   |_,_=>.bad
  |_=>.bad
 |_=>.bad
section
variable(K:zCM)(mg:Str->Option R0)
/---/def ZK(ρ:.am)(H:Hp)(σd:Sd)(σ:L2.St)(r:Res .m)(E:.er)(Q:VK):Prop:=match r with
 |.ok l hd'=>.acJ
 |.exc x hd'=>.z2 E
 |.bad=>False
/---/def ZL(E:.er)(f:LF):TE:=.fb<|.mV<|.xu ZK σd σ .hh E Q
end
/---/def NF(X:Cx)(E:.er)(e:Expr)(f:LF):Prop:=.dG<|.h2 ZL E f
section
variable{X:Cx}{E:Addr->Hp->Prop}{pos p:Pos}{scope:Scope}{own capn:List Str}{caps:List Nat}
def ZM(h:.kU NF r):.xx (bJ r):=by
 refine .U8;obtain⟨ρ,σd,l,k,p⟩:=m;refine .eU l k;unfold bJ at p;cases e:.kR l with
 |exc x A=>rw[.br]
 |bad=>rw[.br]
 |ok y v =>
  rw[.vM e aE];intro q B n g d b c o u f
  by_cases j:y.length<=SZ
  ·rw[z3 j]at p
   have w:=b.hp.alloc o u f;have i:.gq (g++[q]) n:=.adk (by
    rw[.nb s]
    ·exact d.new a z
    ·simp at z;subst z;rw[.P c])
   refine .aC p i (k.ext i w) ?_;dsimp[rD,RD];refine .gi q rfl;rw[<-b.hp.len];simp
  ·rw[.c2 (yM j)]
def Sv(hc:.bB)(A:.zy)(a3:.xy)(hM:∀e L,.kU XM L->.p9 L)(S:.k7)(hi:MIZ X tg a f f2)
  (W:.ae1 B)
  (hs:autoParam (.mz a) Q2Q._auto_1):NF X E (.pd B (.NF []) scope pos) (.Cz sA f f2 g e):=by
 rw[.apb eval_ListComp];unfold sA at p;cases c:.hh with
 |exc z h7=>rw[.eb]
 |bad=>rw[.eb]
 |ok d a5 =>
  rw[c]at p;simp only at p;cases R:f2 σd a5 with
  |exc z h7=>rw[.c2 R]
  |bad=>rw[.c2 R]
  |ok d2 j =>
   rw[R]at p;simp only at p;cases P:lq j d with
   |none=>rw[.c2 P]
   |some p1 =>
    obtain⟨O,o⟩:=p1;cases Y:lq j d2 with
    |none=>rw[P,Y]at p;rw[.bC]
    |some p2 =>
     obtain⟨N,o'⟩:=p2;rw[P,Y]at p;simp only at p;obtain⟨cl,U,n,t⟩:=pN (scope:=scope) (env:=X.env) λy hy a0=>.I8 a0;refine zWw (use:=none) rfl hs U S.kind S.names (thn (.hX hi (λJ K=>∃k,.gq k K/\.f7 k K σd j σ/\uZ X.K k K J (.bD O.zip N .Lj) (λh=>em o O h/\em o' N h)) I<|.HP (by
      unfold MP;rw[c];dsimp[R,P,Y];exact λJ V ρ' ex a6 F=>⟨ρ',ex,a6,F⟩)) λv s1 U=>thn U λa7 s2 h2=>?_)
     rw[.j .vg];obtain⟨it,fp,tn,J,K,rfl,w,T,a4,hf,k,i,u,F⟩:=h2;refine kq ?_;generalize hG:(λh:Hd=>em o O h/\em o' N h)=G at p F;generalize (.bD O.zip N<|.Ko .fF)=l at p F;refine Ku (r0:=.ph g l .rn j) hc A a3 hM S W w T a4 hf u F n t rfl (λz=>by rw[.gm z p]) (λx hX z=>by rw[.gm z (XC.ext i p)]) λds a8 z C L m V ρ' vs M hn I' a1 ex rh r hD Z a2=>?_;rw[z]at p;refine .Rp V
     ·refine I'.turned (it:=C) (t':=L.toks) .IZ a1 ?_ (.Gf<|zBR w.sz M) .ER .Oh
      ·exact wh (UH w.lt M)
      ·rw[.aaU w.cell]
       exact .Ow M
      ·exact .qD (.Fv w.pin M)
     ·exact p _ vs V ρ' (i.trans ex) (rs.ext (i.trans ex) rh) (i.fresh r<|u.hp.free r) hD Z a2
end
end Fm
set_option maxHeartbeats 4000000
namespace Fm
open PySem PySem.Spec L2 PyProof.Rows
section
variable{P:P6}{w:P7}{K:zCM}{mg:Str->Option R0}{base:Heap}{k np:Nat}{F:Fn}{f:Addr}{fd:FuncData}{ps:List Str}
def XO(i:.ce k ps .PN):.aob:=by
 have h:.age .w7:=by
  rintro b H Q E ⟨ρ,l,j,C,v,n,p⟩;refine .iN ρ l j C v n;unfold Fy.gd at p;cases c:F j l with
  |ok d o=>rw[.gm c p]
  |exc y o=>rw[.eb]
  |bad=>rw[.eb]
 refine .acV;refine .adE;cases r with
 |error e=>obtain⟨_,_,_,_,_,_,_,_,_,_,_,_,_,z⟩:=q;rw[.l0]
 |ok B=>cases B<;>exact q
def ab5(i:.DV fd):.aob:=by
 have h:∀{b H Q E},.mc .w7 np b H Q E->.oB F np b H Q .la:=by
  rintro b H Q E ⟨ρ,l,j,C,v,n,p⟩;refine .iN ρ l j C v n;unfold Fy.gd at p;cases c:F j l with
  |ok d o=>rw[.gm c p]
  |exc y o=>rw[.eb]
  |bad=>rw[.eb]
 refine .acV;refine .adE;cases r with
 |error e=>rw[.ahd]
 |ok B=>cases B<;>exact q
def DefY.good{x:Str}(hd:.pn x):.a6 x k np .w7:=by
 rw[.n9];obtain⟨f,fd,ps,b,c,e,a⟩:=hd.ex;rw[.cX d ⟨f,fd,ps,b,c,e,XO a⟩]
def Hu.good(hd:.fU Hu C m k np F):.fU RE C m k np .w7:=by
 rw[.apj];rw[.cX c ⟨f,fd,ps,a,b,XO d⟩]
def DefKY.good(hd:.fU Fy.DefKY x C k np F):.fU Zk x C k np .w7:=by
 rw[.apj];rw[.cX c ⟨hd.mgC,f,fd,ps,a,b,ab5 d⟩]
end
end Fm
namespace Fy
open PySem PySem.Spec L2 Fm PySem.W PyProof.Rows
section
variable{X:Cx}{E:Addr->Option Addr->Hp->Prop}{pos p:Pos}{C:Addr}
def ns_fldW{o e:Expr}{F K:EF}{f:Pos}(T:.sY)(O:.jG F)(he:.xx K)(V:autoParam (.tx (.a .Zd)) Q3Q._auto_1):.aeu:=by
 rw[.I .ais .r5];obtain⟨ρ,σd,Z,S,p⟩:=t;rw[.eu (r ?_) Z S (.EG λv Q t=>?_) .r5];obtain⟨m,d,k,e1,q,U,b⟩:=t;rw[.dq r (.bv m k q ?_)];unfold fPl at b;cases u:F σd k with
 |bad=>rw[.BZ u noX];rw[.u]
 |exc z h'=>rw[.BZ u noX];rw[.u]
 |ok dO g =>
  rw[.BZ u noX];intro M s i G h I;have w:=.Yj G;cases dO with
  |ref n =>
   simp only at b;cases c:g[n]? with
   |none=>rw[.bR c]
   |some cell =>
    rw[.hQ];have R:n < g.length:=.aw c;have fin:.acc Fy.PostX:=λ{l} c W f=>(show .abT by
     dsimp[rD,RD]at I;rw[.j .r5];rw[.apc (.tU B)];rw[.H6 (r ?_) .G8];have N:j.length<=1:=.ay q2.length W
     have P:.aly:=by
      cases j with
      |nil=>rfl
      |cons x j =>
       cases j with
       |nil=>rfl
       |cons y j=>exact .adG
     refine .adt;rw[P];have Y:=.abw;have J:.afi:=.tX B;exact .aid)
    cases cell with
    |lst l=>rw[.u]
    |dct l=>rw[.u]
    |dcT l=>rw[.u]
    |ob l =>
     match l,b,c with
     |[],f,c=>exact .OY zZc
     |[_],f,c=>exact .OY zBK
     |_::_::_,f,_=>rw[.eS]
  |_=>rw[.u]
end
end Fy
set_option maxHeartbeats 4000000
namespace Fm
open PySem PySem.Spec L2 PyProof.Rows
/---/def Fi(Fx Fy Fz:Fn)(i:EF)(r:LF):EF:=.ax<|.cz i λd h=>match d with
 |.int 0=>aq Fx r σ h
 |.int 1=>aq Fy r σ h
 |.int 2=>aq Fz r σ h
 |_=>.bad
section
variable{X:Cx}{pos p1 p2 p3 p4 p5:Pos}
def AO(B:.Cc X.K .l4=true)(x:gD X.K o ps [])(C:.jW cx CX0 k f o ps<|spF X.K F np)(A:.hz k)(D:.vd g)(hnp:.wi)
  (he:.OT) (hpl:.eN g) {σ:L2.St} {Q:VK} {ρ:.am} {σd:Sd} {hd:Hd} (I:.n) (rs:.Ll) (p:.Kq<|aq F r σd hd) :
  .ts (.ahy .l4) .hm X.xe s:=by
 rw[.I (.CB B (thn (.xr D _ I<|.HP<|bZ.bind p) λL M u=>?_) he hpl) .hU];obtain⟨vs,J,m,y,q⟩:=u;rw[.eR (j ?_) (.c4 m.kIn) .hU];obtain⟨i,ds,a,K,b,l,p1⟩:=q;rw[.da j (JX (vs:=vs) C A x .nil GX m y ?_)];rw[X1];cases c:F ds a with
 |exc z h'=>rw[c]at p1;rw[.B3]
 |bad=>rw[c]at p1;rw[.B3]
 |ok d E =>
  rw[c]at p1;refine .iN i a ds b.hp l<|.cd hnp c;rw[c];exact λv t ρ' n G w=>p1 v t ρ' n (b.ext n G) w
def Sw{F Fy K:Fn}(dx:.jW Def x k1 np F)(W:.jW Def y k2 np Fy)(dz:.jW Def z k3 np K)(r1:.hz k1)(Z:.hz k2)(Y:.hz k3)
  (gx:.bo) (gy:.b3 y) (gz:.b3 z) (hi:.aL i T) (L:.vd g) (n1:.wi) (n2:.C0<|Fy ds h) (n3:.C0<|K ds h) (hs:uU i)
  (hx:autoParam (.a5) Q1Q._auto_1) (hy:autoParam (.jt y) Q1Q._auto_1) (hz:autoParam (.jt z) Q1Q._auto_1)
  (he:autoParam (.OT) Q3Q._auto_1) (hpl:autoParam (.eN g) Q3Q._auto_1)
  (s1:autoParam (.bS .acN=.ef (.lp p1)::.bS [.gn y p2,.Bh]) Q3Q._auto_1) (s2:autoParam (.bS [.gn y p2,.Bh]=.ef (.gn y p2)::.bS [.Bh]) Q3Q._auto_1) (s3:autoParam (.bS [.Bh]=.yK .Bh) Q3Q._auto_1) :
  .aL (.Call (.no .ZM i p5) (e::g) [] pos) (Fi F Fy K T r):=by
 rw[.j λ_ O=>?_];obtain⟨A,d1,q1,a1,a2,a3,a4⟩:=dx.ex;obtain⟨B,d2,q2,b1,b2,b3,b4⟩:=W.ex;obtain⟨n,d3,q3,c1,c2,c3,c4⟩:=dz.ex;refine O ?_;rintro pins s σ H Q I ⟨ρ,σd,hd,S,p⟩;show .ts (.cP (.no .ZM i p5) >>= λf=>.ahy f) .hm X.xe s;have hl:.af .ZM _:=QK<|cD (.xA A gx a1 rfl hx) (cD (.xA B gy b1 rfl hy) (.d9 (fA (v:=.aK) gz c1 rfl hz) s3) s2) s1;refine zF (thn (Mr EB hl hi hs pins s σ H (λv G=>∃c a k,.f7 c G σd a σ/\bZ X.K .qT c G σd σ (match (.fu k) with | .int 0=>.pB σd a | .int 1=>aq Fy r σd a | .int 2=>aq K r σd a|_=>.bad) Q/\L2.atI .T0 k=.aM) I ?_) λu t N=>?_)
 ·refine⟨.Nv<|.S (3:Nat),λq U=>?_⟩
  have R:=.NH .T0 U;have hn:q∉ρ:=S.hp.free U;rw[.c0 (.au hd (S.same R) (.aq (p.ext<|Ext.same R) λw G N=>?_)) λ_ O=>?_];obtain⟨c,d,a,e2,b,m,p2⟩:=N;refine O ?_;cases d<;>try exact p2.elim
  rename_i k
  dsimp[rD,RD]at m;have E:∃v,L2.atI .T0 k=.aM:=by
   by_cases j:k=0
   ·subst j;exact .K
   ·by_cases C:k=1
    ·subst C;exact .K
    ·by_cases l:k=2
     ·subst l;exact .K
     ·exfalso
      split at p2
      ·rw[.Ag];exact j rfl
      ·rw[.Ag];exact C rfl
      ·rw[.Ag];exact l rfl
      ·exact p2
  obtain⟨v,E⟩:=E;exact⟨q,_,k,v,rfl,m,.e4<|e2.frame q _ aR hn,E,c,a,k,b,p2,E⟩
 ·obtain⟨v,G,J,M,c,a,k,b,p2,P⟩:=N;by_cases j:k=0
  ·subst j;cases P;cases (.YY A)
   exact AO a2 a3 a4 r1 L n1 he hpl J b p2
  ·by_cases C:k=1
   ·subst C;cases P;cases (.YY B)
    exact AO b2 b3 b4 Z L n2 he hpl J b p2
   ·by_cases l:k=2
    ·subst l;cases P;cases (.YY n)
     exact AO c2 c3 c4 Y L n3 he hpl J b p2
    ·exfalso
     split at p2
     ·rw[.Ag];exact j rfl
     ·rw[.Ag];exact C rfl
     ·rw[.Ag];exact l rfl
     ·exact p2
end
end Fm
namespace Fm
/---/def up1(c:Nat):Nat:=if 97<=c/\c<=122 then c-32 else c
/---/def fUp(x:EF):EF:=.ax<|.cz x λd h=>match d with
 |.str l=>.gI (.f1 1000/\.YV) (.h<|l.map up1)
 |_=>.bad
end Fm
namespace L2
open PySem PySem.Spec PyProof.Rows Builtin.Str
section
variable{X:Cx}
def ZN:∀c<128,Unicode.upperOf c=[Fm.up1 c]:=.ac
def Sx:MtR X "str.upper" (.wN<|∃l:.g,x=.h .yR/\vs=[]/\.f1 1000/\.YV/\.nD ⟨.eZ<|.b8 Fm.up1⟩):=by
 intro pins s σ H x vs v k Q I f j h;obtain⟨l,rfl,rfl,a,d,q⟩:=h;obtain⟨t,rfl⟩:=f;cases j;have e:placed (.yR:Str) (λ_ c=>Unicode.upperOf c)=.eZ (.b8 Fm.up1):=by
  rw[placed_single _ _ Fm.up1 λi c h=>ZN c<|d c<|zAT h];simp
 have b:.S (1000:Nat):=.c
 have g:=gives_str_upper .yR t (by rw[e];unfold tooLong;simp;exact zBL a b);rw[e]at g;exact call_gives F.slot_str_upper .Hl F.entry_str_upper (F.args_str_upper_1 _) g ⟨by simp[PySem.Str.length];exact zBL a b,.h _,H,.pv,.K,q⟩
end
end L2
namespace Fm
open PySem PySem.Spec L2 PySem.W PyProof.Rows Builtin.Str
section
variable{X:Cx}{pos p:Pos}
def Sy{apos cpos:Pos}(j:.jG h)(b:autoParam (.mW "upper") Q3Q._auto_1)(a:autoParam (.kd) Q3Q._auto_1):
  .aL (.ND "upper") (fUp h):=by
 refine .U (YK zXy PySem.F.slot_str_upper PySem.F.type_str_upper Sx j b a) .tS;obtain⟨ρ,σd,r,m,k⟩:=e;refine .au r m (.mD k λv s e=>?_);obtain⟨q,d,n,t,f,i,c⟩:=e;cases d<;>try rw[.bK]
 rename_i l
 dsimp[rD,RD]at i;subst i;rw[.aaR]
 ·rename_i g
  exact⟨rfl,l,rfl,rfl,g.1,g.2,c.here f .tK⟩
 ·rw[.bK]
end
end Fm
namespace Fm
open PySem PySem.Spec L2
def lc(h:p\/q:=by first|exact .inl rfl|exact .inr rfl):p\/q:=h
def dE.a{own capn:.dU}(cp:.Zg)(k:autoParam (scope.kind=.function) Q3Q._auto_1)(c:autoParam (∀y∈scope.names,y.2 ≠ .cell) Q5Q._auto_1)(n:autoParam (∀y∈scope.names,y.2=.local->.Y8) Q5Q._auto_1)
  (f:kl X scope.names:=by repeat' (first|exact kl.nil|refine kl.cons (by first|exact(λ_=>.inl rfl)|exact(λ_=>.inr rfl)|(intro z;cases z;done)) ?_)):.k7:=dE.mk' k c n f cp
section
variable{X:Cx}{pos p:Pos}
def aB(hd:.FS Def)(f:.hz j)(c:.vd a)(i:autoParam (k<=j) Q1Q._auto_1)(g:autoParam (.bo) Q3Q._auto_1)(hnp:.wi:=by exact u7)
  (b:autoParam (.a5) Q1Q._auto_1) (he:autoParam (.OI) Q3Q._auto_1) (hpl:autoParam (.eN a) Q3Q._auto_1) :
  .UG a .pB:=Vs hd (f.mono i) g c hnp b he hpl
end
/---/def At(K:zCM)(n:Str)(st:Stmt):Prop:=∃(f:Addr) (od an:.cx) (sl:.jb) (oc kV dc pm cd ct:R0),.cm n=.bx f/\.dj f=.mg oc od (.func<|.tt dc an cd ct) sl/\.mN cd n=true/\.gu f
structure En(P:P6)(w:P7)(K:zCM)(mg:Str->Option R0)(base:Heap):Prop where
 ex:∃h:Heap,K.In h/\h.Ns mainGlobals mg
section
variable{P:P6}{w:P7}{K:zCM}{mg:Str->Option R0}{base h:Heap}{n:Str}{st:Stmt}{ps:List Str}{k np:Nat}{F:Fn}
def At.i{d:.jb}{b kV dc pm a ct:R0}(h1:.cm n=.bx f)(i:.dj f=.mg b c (.func<|.tt dc e a ct) d)(j:.mN a n=true)(g:.gu f):.gF:=⟨f,c,e,d,b,kV,dc,pm,a,ct,h1,i,j,g⟩
def At.out(a:.gF)(X:.fC)(G:.tR h.Ns):∃f i,mg n=.t f/\.gu f/\.hn i:=by
 rw[.j .oM];obtain⟨f,l,s,o,j,kV,q,r,m,p,c,d,g,b⟩:=a;rw[.cX e ⟨f,_,.c7 c,b,qL d g b⟩]
def At.df(a:.gF)(q:.iw)(ok:∀{f c},.hn c->.yw c)
  (i:.RE):.E4:=by
 rw[.hD];rw[.VV (a.out X G)];rw[.cv j (.UV Def.mk')]
def gE{α:Type}{l:.bY}{n:Nat}(h:.Bm<|n+1):∃a t,l=a::t/\t.length=n:=by
 cases l with
 |nil=>cases h
 |cons a t=>rw[.ml a t (Nat.succ.inj h)]
def qY{α:Type}{l:.bY}(h:.Bm 0):l=[]:=List.length_eq_zero_iff.mp h
def At.df1(a:.gF)(q:.iw)(ok:∀{f e},.hn e->.yw e)(i:autoParam (.kt 1) Q3Q._auto_1)
  (j:autoParam (.RK) Q6Q._auto_1):.E4 :=
 .QM a.df
def At.df2(a:.gF)(q:.iw)(ok:∀{f g},.hn g->.yw g)(j:autoParam (.kt 2) Q3Q._auto_1)
  (m:autoParam (.RF) Q6Q._auto_1):.E4 :=
 .QH a.df
def At.df3(a:.gF)(q:.iw)(ok:∀{f i},.hn i->.yw i)(l:autoParam (.kt 3) Q3Q._auto_1)
  (p:autoParam (.RC) Q6Q._auto_1):.E4 :=
 .QG a.df
def At.df4(a:.gF)(q:.iw)(ok:∀{f j},.hn j->.yw j)(m:autoParam (.kt 4) Q3Q._auto_1)
  (s:autoParam (.ab3) Q6Q._auto_1):.E4 :=
 .aba a.df
def fsc{N P:.dU}{a:Scope}(h1:autoParam (a.kind=.function) Q3Q._auto_1)(c:autoParam (.cM a.isCoroutine) Q3Q._auto_1)(e:autoParam (.cM a.isGenerator) Q3Q._auto_1)(b:autoParam (N.Nodup) Q5Q._auto_1)(f:autoParam (N.take P.length=P) Q3Q._auto_1)(d:autoParam (∀x∈P,.XG=.k3\/.XG=.pr) Q5Q._auto_1)(g:autoParam (∀y∈a.names,y.2 ≠ .free) Q5Q._auto_1):bn N P a:=⟨h1,c,e,b,f,d,g⟩
end
end Fm
namespace Fm
open PySem PySem.Spec L2 PySem.W PyProof.Rows
section
variable{X:Cx}{pos:Pos}{scope:Scope}{own capn:List Str}{caps:List Nat}
def aL{i:Nat}{x:Str}{f:EF}{pos':Pos}(he:.iK)(b:X.N.Nodup:=by exact X2 (by kernel_rfl))(hi:autoParam (.gd) Q3Q._auto_1)(c:.lc:=by exact lc)(d:autoParam (.DC) Q3Q._auto_1)(a:autoParam (.k8) Q0Q._auto_1):
  MS X (.yq e) .Hm:=jQ b hi c he d a
def aJ{i:Nat}{x:Str}(c:X.N.Nodup:=by exact X2 (by kernel_rfl))(hi:autoParam (.gd) Q3Q._auto_1)(b:.lc:=by exact lc)(a:autoParam (.k8) Q0Q._auto_1):MG X .km (gN i):=Vq c hi b a
def fg(own:.dU)(hi:.lU a f)
  (d:∀{cl C s H ex},MG .Rt tg g/\MTs .Rt c cs/\ME .Rt b e)
  (h:autoParam (.bB) Q3Q._auto_1) (S:dE X scope own [] []:=by exact dE.a dI.nil) (i:autoParam (.mz a) Q2Q._auto_1):MF X (.pd b (.NF c) scope pos) (cy own.length [] f g cs e):=nK h S hi (λ_ _ _ _ _=>d) i
end
section
variable{P:P6}{w:P7}{K:zCM}{mg:Str->Option R0}{base:Heap}
structure OkD(P:P6)(w:P7)(K:zCM)(mg:Str->Option R0)(base:Heap)(x:Str)(st:Stmt)(k:Nat)(ps:List Str)(F:Fn)(np:Nat):Prop where
 ok:∀{f fd},Fun K x x st f fd->cx P w K mg base CX0 k f fd ps (spF K F np)
def okd{st:Stmt}{ps:.dU}{k np n:Nat}{b:SF}(N:.dU)
  (body:∀{f:Addr} {a:R0} {A:R3} {outer:.f9} {s:R1} {H:Hp} {E:XK},ff k (.Ct a)->(.Ct a).units+24<cLine->.adK) (hp:autoParam (.kt np) Q3Q._auto_1) (d:autoParam (N.length=n) Q3Q._auto_1) (S:.Ep:=by exact fsc):.aT x st (k+1) ps (bK np n b) np:=by
 subst hp d;exact⟨λF=>yp F S λa A outer s H E c=>body c<|fV c⟩
end
end Fm
namespace Fm
open PySem PySem.Spec L2
section
variable{P:P6}{w:P7}{K:zCM}{mg:Str->Option R0}{base h:Heap}{n:Str}{st:Stmt}{ps:List Str}{k np:Nat}{F:Fn}
def At.dy(a:.gF)(q:.iw)(ok:∀{f c},.hn c->.DV c)
  (i:.RE):.N2:=by
 rw[.hD];rw[.VV (a.out X G)];rw[.cv j (.UV Fy.DefY.mk')]
def At.dy1(a:.gF)(q:.iw)(ok:∀{f e},.hn e->.DV e)(i:autoParam (.kt 1) Q3Q._auto_1)
  (j:autoParam (.RK) Q6Q._auto_1):.N2 :=
 .QM a.dy
def At.dy2(a:.gF)(q:.iw)(ok:∀{f g},.hn g->.DV g)(j:autoParam (.kt 2) Q3Q._auto_1)
  (m:autoParam (.RF) Q6Q._auto_1):.N2 :=
 .QH a.dy
def At.dy3(a:.gF)(q:.iw)(ok:∀{f i},.hn i->.DV i)(l:autoParam (.kt 3) Q3Q._auto_1)
  (p:autoParam (.RC) Q6Q._auto_1):.N2 :=
 .QG a.dy
end
end Fm
namespace Fm
variable{d:D}{h h':Hd}
def DJ(e:h'.length<=h.length):.j6 .dd=.dd:=by
 dsimp[letGo];split
 ·rw[zZl e]
 ·rfl
@[simp] theorem aM{h:Hd}{d:D}:.j6 .hH=.hH:=.hc DJ
@[simp] theorem Pa{h:Hd}{d:D}:.At (.jw n c)=.e0 (.jw n c):=DJ .f
def w6(e:pure? d=false):.j6 .dd=.dd:=by
 simp[letGo,e]
@[simp] theorem cN{h h':Hd}:.j6 (.dN .aK)=.dN .aK:=w6 rfl
def dJ(e:.j8 d):.At (h++g)=.hH:=by
 have:Ms h (h++g):=λn c a b=>.G (by rwa[zAL a]at b);simp[letGo,e,this]
def Pb(e:.j8 d)(b:.wh h'.length)(a:Ms h<|h'++g):.At (h'++g)=.dd:=by
 simp[letGo,e,a,<-b]
structure Web where
 ties:List (List (Nat × Int))
 bars:List Int
 stays:List (Option Int)
noncomputable def bT:.X->D
 |none=>.non
 |some i=>.aG
/---/def uj(p:.pm):D:=.ama
/---/def AQ(r:.bW):D:=.E .oZ
/---/def bp(l:.l):D:=.E<|.dt l.map
/---/def Web.enc(w:Web):D:=.tup [.E .aay,.E .aau,.E<|w.stays.map bT]
structure Web.Ok(w:Web)(n:Nat):Prop where
 t:w.ties.length=n
 b:w.bars.length=n
 s:w.stays.length=n
 lt:∀r∈w.ties,∀p∈r,p.1<n
 sz:n<=1000
structure qZ(w:Web)(n:Nat)(s:List Int):Prop where
 len:s.length=n
 op:∀x∈s,x=0\/x=1
 st:∀(i:Nat) (x:Int),w.stays[i]?=some (some x)->s[i]?=some x
variable{l:List D}
def dW{i:Nat}(e:l[i]?=.a7):.rS l=.a7:=by
 have:=.aw e;simp[atI,ixN,this];simpa[zAN this] using e
@[simp] theorem tK(x:D)(l:.m):atI (x::l) 0=.aF:=dW rfl
@[simp] theorem DK(x y:D)(l:.m):atI (x::y::l) 1=.gU:=dW rfl
@[simp] theorem ab6(x y z:D)(l:.m):atI (x::y::z::l) 2=.a z:=dW rfl
theorem bQ{h:Hd}(I:.bF Sd)(p:.cH D)(f:D->D)(a:.j4):
  .abX<|I σ->
   .CR cs=.al3
 |[],_,_,_=>.bJ dj a
 |x::xs,σ,st,i=>by
  obtain⟨σ',h1,k,d,j⟩:=st x .f σ i;have c:=bQ I p f a (xs:=xs) (λy l=>st y<|.k l) k;cases b:p x with
  |true=>simp[dj,a,h1,d,b,j b,c]
  |false=>simp[dj,a,h1,d,b,c]
theorem w8{rest:.m}(P:Nat->Sd->.nZ)(j:.Uq):
  .anX<|(.R5<|.Rg k)->P k σ h->
   ∃σ' h',.tH (xs++rest)=.OC b rest σ' h'/\.Uz
 |[],k,σ,h,_,p=>(.mh σ h .Ei)
 |x::xs,k,σ,h,st,p=>by
  obtain⟨σ',h1,m,t,o,l⟩:=st 0 x σ h .f .Ei;have c:.af1 (.Rg<|k+1):=λi y σ h e q=>by
   have f:.Ze:=.b
   rw[f]at q⊢;exact st (i+1) y σ h .eF q
  obtain⟨d,r,n,s⟩:=w8 P j c .XP;refine⟨d,r,?_,?_⟩
  ·rw[<-n,zYb,dD,z3<|.aC j p,h1]
   dsimp[o]
  ·have f:.ajL:=.bz
   rw[.ap f s]
variable{σ:Sd}{b:SF}
def eF(P:Nat->Sd->.nZ)(c:.Uq)(st:.R5<|.Rg k)(p:P k σ h):
   ∃σ' h',.tH xs=.sK/\.Uz:=by
 obtain⟨σ',h',q,z⟩:=w8 P c st p;rw[X1]at q;rw[.al σ' h' (q.trans<|.Xm<|z3<|.aC c z) z]
theorem uk(P:Nat->Sd->.nZ)(V:Nat->.bF D)(j:.Uq):
  .anX<|(.R5<|∃d a,.jH e=.e0 a/\V (k+i) d/\P (k+i+1) σ' a)->P k σ h->
   ∃ds h',.CR []=.dN ds/\.vZ xs.length/\(∀(i:Nat) d,ds[i]?=.a7->V (k+i) d)/\∃σ',.Uz
 |[],k,σ,h,_,p=>⟨[],h,.bJ dj<|.aC j p,rfl,.f,σ,.Ei⟩
 |x::xs,k,σ,h,st,p=>by
  obtain⟨σ',h1,d,z,u,r,s⟩:=st 0 x σ h .f .Ei;have b:.af1 (∃d a,.jH e=.e0 a/\V (k+1+i) d/\P (k+1+i+1) σ' a):=λi y σ h e q=>by
   have f:.Ze:=.b
   rw[f]at q⊢;exact st (i+1) y σ h .eF q
  obtain⟨ds,v,t,n,m,c,w⟩:=uk P V j b (by simpa using s);refine⟨d::ds,v,?_,.k n,λi o l=>?_,c,?_⟩
  ·simp[dj,.aC j p,h1,kc,u,t]
  ·cases i with
   |zero=>simp at l;subst l;simpa using r
   |succ i =>
    rw[.eT (m i o .XP) (show .Ze by lia)]
  ·have f:.ajL:=.bz
   rw[.ap f w]
variable{n:Nat}
def AR{α:Type}{ds:.bY}{f:Nat->α}(b:.vZ n)(h:∀(i:Nat) d,ds[i]?=.a7->d=f i):ds=.e7 f:=by
 apply zXr;intro i
 by_cases a:i<n
 ·have:ds[i]?=.a (ds[i]' .b):=.bJ b a
  rw[this,h i _ this];simp[a]
 ·simp[a,b]
variable{h1:Hd}
def ax(a:.N7)(b:F ds h1=.dd):.pB σ h=.dd:=by
 show .eE _ _=_;rw[.ap a b]
def ah{b:Hd}(p:.cC d)(q:.fy r=.kK b):ae a r σ h=.ok (d::ds) b:=by
 show .eE _ _=_;rw[p,aE,q];rfl
def aw{a b:EF}{d c:Hd}(p:.cC x)(q:.hO=.ok y d)(r:g x y d=.ok z c):aj g a b σ h=.ok z c:=by
 show .eE _ _=_;rw[p,aE,q];exact r
def eB{xs:.m}(p:.jM=.dN xs)(q:.vj SZ:=by exact X2 rfl):dh r σ h=.nm xs h':=by
 rw[.pO p];exact z3 q
def cF{xs:.m}(p:.jM=.dN xs)(q:.vj SZ:=by exact X2 rfl):.amZ h'.length:=by
 rw[.pO p];exact z3 q
def yz{b:EF}(p:.cC l)(q:.hO=.bU i c)(r:.wk=.a7):.lP fIx=.e0 c:=by
 show .eE _ _=_;rw[p,aE,q];dsimp[aE,r]
def bq{a b:EF}(p:.cC x)(q:.hO=.bU i c)(s:oU c x=.eC)(r:.wk=.a7):.lP fAt=.e0 c:=by
 exact aw p q (by dsimp[oAt,s,r])
def aS(p:.lm h):oU h .aK=.eC:=.k1 oU p
variable{e:EF}
def aH(p:.aX e=.dd):.a3 i e σ h=.lG (.oC d):=by
 show .Gj;rw[p];rfl
def aV(p:.aX e=.dd):bf e σ h=.sf:=by
 show .Gj;rw[p];rfl
def dZ(p:.aX e=.dd):dR e σ h=.c6 h':=by
 show .Gj;rw[p];rfl
variable{t:TF}
def i4(p:.sc true):.r0 sIf=.fy a:=by
 unfold sIf;rw[p];rfl
def dL(p:.sc false):.r0 sIf=.hO:=by
 unfold sIf;rw[p];rfl
def aG{b:Bool}(p:.bM=.cQ b h'):.ex tE=.dN b:=by
 show asB _=_;rw[p];rfl
def bC{b:Bool}(p:.v5 b):cW t σ h=.dN (! b):=by
 rw[.hF p]
def jU{b:Bool}(p:.sc true)(q:.fy u=.dN b):lQ t u σ h=.dN b:=by
 show .eE _ _=_;rw[.ap p q]
def sB(p:.sc false):lQ t u σ h=.cR false:=by
 rw[.hF p]
def gj{b:Bool}(p:.sc false)(q:.fy u=.dN b):tOr t u σ h=.dN b:=by
 show .eE _ _=_;rw[.ap p q]
def mR(p:.sc true):tOr t u σ h=.cR true:=by
 rw[.hF p]
variable{j:Int}
def AS:.mK oEq=.aY (.aN i j):=rfl
def du(p:.cC l):.ex c8=.kO l.length:=by
 rw[.hF p]
def cL(p:.cC x)(s:oU h1 x=.eC):.ex lOf=.cR l:=by
 rw[.pO p];dsimp[aE,s]
def ul{b a:Hd}(p:.aX e=.cR d)(q:.fy x=.ok .aK b)(r:i σ b=.bU j a)(s:.lm a)(t:.pl ixN j=.mi):oV x i e σ h=.c6 (a.set n<|.q<|l.set k d):=by
 dsimp[oV,p,q,r,outE,s,t]
def lw{b:.m}(p:.Y7)(q:h1[n]?=.x b)(r:.fy e=.e0 a)(s:.lm a)(t:.Fz):i7 x e σ h=.TE [d]:=by
 dsimp[i7,p,aE,q,r,YQ,s,z3 t]
def fj(p:0<j):.mK dU=.ao (i%j):=by
 dsimp[dU,oIc,y3 p,zYh]
def mS(p:0<j)(q:j<2^250):.mK lV=.ao (i/j):=by
 dsimp[lV,oIc,y3 p,y3 q,Bool.and_self,zYh]
def rc(e:i=j):.mK oEq=.hq:=.L AS<|y3 e
def re(e:¬i=j):.mK oEq=.et:=.L AS<|z5 e
def Sz(e:¬i<j):.mK oLt=.et:=by show .Et<|i<j;rw[z5 e]
def ZO(e:i<j):.mK oLt=.hq:=by show .Et<|i<j;rw[y3 e]
def SA(p:.av<|sml i||sml j):.Xy:=by
 exact z3 p
def sC(p:.kv i):.Xy:=SA<|.aE p
def V9(p:.kv j):.Xy:=SA<|.L p zXz
def lJ{b:Bool}(p:.v5 b):fT t σ h=.cQ b h':=by
 rw[.hF p]
variable{A:Nat}
def Fj{a g:Hd}(b:.wg A)(k:Nat)(c:bO):(a++g).set (A+k) c=a++g.set k c:=by
 subst b;rw[.akJ .b];congr 2;lia
def bg{j:Nat}(g:Hd)(e:a[j]?=.a8):(a++g)[j]?=.a8:=.i .E8 e
def fq(p:.bM=.kO n)(b:.f3 n):.ex cT=.cR (.e7 .y2,none):=by
 rw[.pO p];exact z3 ⟨zVf .c<|zZq n,zVf (.lR b) .c⟩
def fQ(p:.XL)(q:.L3 h1=o):hZ it tg b σ h=o:=by
 unfold hZ;rw[.ap p q]
def cV(p:.XL)(q:dj g l tg cs e l .EX h1=.kK a):cy nl caps it tg cs e σ h=.kK a:=by
 show .eE _ _=_;rw[.ap p q]
def ZP{b:EF}{n:Int}(p:.aX c=.cR l)(q:.hO=.bU n a)(r:.amU):Ax c b σ h=.ok (.jj .MN) a:=by
 dsimp[Ax,p,aE,q,z3 r]
def ZQ{l:.ll}(p:h[n]?=.Gs l):.hR Kf k .aK h=.aY ((Av l k).isSome):=.k1 Kf p
def Nd{b a:Hd}{l:.ll}(p:.aX e=.cR d)(q:.fy x=.ok .aK b)(r:i σ b=.bU j a)(s:a[n]?=.Gs l)(t:.Fz):vd x i e σ h=.c6 (a.set n<|.dct<|Ke l j d):=by
 dsimp[vd,p,q,r,outE,s,z3 t]
def um(p:.cC .aK)(q:.lm h1):hV .list a σ h=.Bd h1:=by
 dsimp[hV,p,aE,t6,q];rfl
def dM(p:.cC .aK)(q:.lm h1):.ex eW=.cR (l,.e8):=by
 dsimp[eW,p,aE,q]
def ZR{a b:EF}(p:.bM=.kO i)(q:.hO=.bU j c):.lP EX=.bU .VR c:=by
 dsimp[EX,p,aE,q]
def Kv{b:Bool}(p:.bM=.cQ b h1):.ex QY=.kO (b2i b):=by
 dsimp[QY,p,aE]
def Kw(p:.cC l)(q:lH l=.a is):.ex Am=.kO is.sum:=by
 dsimp[Am,p,aE,q]
def mf(p:.cC l):.ex hU=.nm l h1:=by
 rw[.hF p]
def uo(e:j<i):.mK oGt=.hq:=by show .Et<|j<i;rw[y3 e]
def Fk(e:¬j<i):.mK oGt=.et:=by show .Et<|j<i;rw[z5 e]
def fW(a:.wh A)(c:bO):(h++[c])[A]?=.a8:=.p a zAP
def iD(a:.wh A)(c d:bO):(h++[c]).set A d=h++[d]:=by
 rw[.eT (Fj (g:=[c]) a 0 d) Nat.add_zero]
def Fl(a:A=h'.length)(p:.jM=.dN xs)(q:.vj SZ):.amZ A:=.FO<|cF p q
def zJ{l:.l}(h:.iZ):.rS (.b8 D.int)=.w (l.getD i 0):=dW (by rw[zBP,zAN h,zAO,zAN h];rfl)
def Fo{a b:EF}(p:.sc true):.r0 fIf=.fy a:=by
 rw[.hF p]
def Fp{a b:EF}(p:.sc false):.r0 fIf=.hO:=by
 rw[.hF p]
def ft(e:.bM=.sK):.lP aA=b σ' h':=.k1 aA e
def jw(e:.bM=.sf):.lP aA=.sf:=.k1 aA e
def bE(a:.on)(st:.Zq)(e:.jN=.sf):.tY=.j6 .dd:=by
 unfold bK runB;rw[z3 a,st,e]
def SD(a:.on)(st:.Zq)(e:.jN=.sK):.tY=.j6 (.dN .non):=by
 unfold bK runB;rw[z3 a,st,e]
def DL{b:Bool}(p:.aX t=.v b):kc [t] σ h=.v b:=by
 dsimp[kc,p,aE];cases b<;>rfl
def HF(p:.bM=.nm l h1):.ex eW=.cR .A9:=by
 rw[.hF p]
def pT(p:.cC l)(q:qo l=.a bs):.ex t5=.cQ .Ok h1:=by
 dsimp[t5,p,aE,q]
def km(a b:Int)(h:Hd):.Y5 oNe=.ma .m8:=rfl
def bB{a b:EF}{e:D}(p:.cC d)(q:.hO=.ok e c):ae a (.N b) σ h=.ok [d,e] c:=ah p<|.lK q
def uq{m:Nat}(h:n<=30)(q:autoParam (30<=m) Q1Q._auto_1):n<=m:=zBL h q
def sx(p:.bM=.sK)(q:b σ' h'=o):.lP aA=o:=.a2 ft p q
/---/def gM:Fn:=.pa<|fT<|.lZ (.dt hV<|aa 0)<|.b1<|hV .bool<|aa 0
/---/def aY:Fn:=.pV<|bf<|fT .aoS
/---/def cr:Fn:=.pa<|aq aY<|.kI<|.ov .Qh
/---/def bV:Fn:=.pa<|.vV .je
/---/def im:Fn:=.aas .je
/---/def vB:Fn:=.aas .st
/---/def iR:Fn:=.aas .nC
noncomputable abbrev vC:SF:=(aA .Ve
  (.lC (.Kt iR)
  (.xR<|.lZ (.F6<|aa 4)<|tE<|.ej (aa 3)<|aa 4)))
/---/def ly:Fn:=bK 2 5<|aA .J7
  (aA (hZ (.cA QZ) (gT [2,3]) vC)
  (bf<|fC .dO))
/---/def sD:Fn:=.pV<|bf<|.lW .ba<|Am<|cy 2 [1] .P8 .lj .aoy<|aa 1
def vD(i:Int)(h:Hd):gM [.aG] h=.hq:=.cT rfl
def c5(i a b:Int)(h:Hd):.amW=.aY .XS:=by
 have c:.adv [.aW,.w a,.mj] h=.aY .XS:=by
  show (match D.bl (.cg a i) with | .bl true=>.IJ (.cg i b) h | .bl false=>.et|_=>.bad)=_;cases .cg a i<;>rfl
 have t:.aoS [.aW,.w a,.mj] h=.v .XS:=jU (.cI aG<|vD i h)<|aG c;exact .cT<|.sH t
def iH(i:Int)(h:Hd):cr [.aG] h=.aY (.cg 0 i&&.cg i 1):=by
 exact .cT<|aV<|ax (.dv<|.ab bB)<|c5 i 0 1 h
def kR(w:Web)(h:Hd):.kT bV=.ao w.ties.length:=by
 rw[.eT (.i (bE (n:=1) (b:=bf<|.vV .je) (ds:=.q7) (h:=h) rfl rfl<|aV<|du<|.kj cL rfl) aM) zST]
def yA(w:Web)(h:Hd){p:Nat}(e:w.ties[p]?=.a r):.Ni im=.jP AQ r:=by
 have q:atI .aay .wm=.b0 AQ r:=dW<|.k e;exact .JP q
def Kx(w:Web)(h:Hd){p:Nat}(e:w.bars[p]?=.a r):.Ni vB=.ao r:=by
 have q:atI .aau .wm=.w r:=dW<|.k e;exact .JP q
def jx(w:Web)(h:Hd){p:Nat}(e:.sd p=.a r):.Ni iR=.jP bT r:=by
 have q:atI .f0 .wm=.b0 bT r:=dW<|.k e;exact .JP q
variable{s:List Int}{w:Web}
def Nf(W:.ak)(F:.hA w)(h:Hd):.yI (bp s)=.hq:=by
 obtain⟨σ',q,o,A,a,b,c,B⟩:=.Dx (λ_ σ q=>q=h/\∃a b c,σ=[.be,.bV,a,b,c]) (k:=0)
   .jY
   (xs:=.We<|(.fS<|.ad s.map D.int).zip .zx) (tg:=gT [2,3]) (σ:=.yp .bV) (h:=h)
   (b:=vC) (by
   rintro i x σ d r ⟨rfl,a,b,c,rfl⟩;have f:.nw i:=by
    rw[.s4 r]
   have l:x=.Aq (.int s[i]):=by simpa[f,zAN] using r.symm
   subst l;have m:.sd i=.a .afD:=zAN _;generalize .afD=z at m;have u:cr [.int s[i]] d=.Bd d:=by
    rw[iH];rcases F.op _ (zYp f) with e|e<;>rw[e]<;>rfl
   have j:.Ve [.be,.bV,.aW,.E0 s,c] d=.nx [.be,.bV,.aW,.E0 s,c] d:=.ZC u;have t:=jx w d m;cases z with
   |none=>exact .adB<|sB .eQ
   |some y =>
    have v:s[i]=y:=by rw[.hS (F.st i y m) (zAN f)];exact zBS this
    exact .adB (jU .eQ<|.dD (by rw[.d2<|bT .gU=D.int y,km,y3 v];rfl))) ⟨rfl,_,_,_,rfl⟩
 rw[A,B]at o;have j:.J7 (.yp .bV) h=.d5 (.yp .bV) :=
  dL<|.SN (by rw[km,zST,F.len,W.t,.v9];rfl)
 exact .cT<|.ge ft j ft (fQ rfl o) .kc
def w9(l:.l):lH .ie=.eC:=by
 induction l with
 |nil=>rfl
 |cons x b a=>simp[lH,a]
def ZS(h:.nw i):.rS (.dt s.map)=.E0 s:=dW<|.k h
/---/def mh(r:.bW)(s:.l):.l:=.i6<|r.filter λp=>.D<|.HY=1
/---/def fu(r:.bW)(s:.l):Int:=(mh r s).sum
def SE(f:∀q∈r,.nw<|q.1)(h:Hd):.ac8=.v (.As<|mh r s):=by
 have c:.ac8
   = .v ((.pW .oZ λd=>match d with | .tup [.int i,_]=>.D (s.getD i.toNat 0=1)|_=>false).map<|.apq x .non):=by
  refine .y9 bQ (I:=λσ=>∃a b,σ=[a,b,.bV]) _ _ trivial ?_<|.dk _;rintro x j σ ⟨a,b,rfl⟩;obtain⟨⟨q,k⟩,e,rfl⟩:=.ar j;exact .Wo<|DL<|aG<|.cV (.s1<|zJ<|f _ e) AS
 rw[c,mh,List.filter_map,UD,UD];rfl
def Ky(W:.ak)(c:.zL){p:Nat}{r:.bW}(e:w.ties[p]?=.a r)(h:Hd):
  .WD sD=.ao (2*fu r s):=by
 have b:∀q∈r,.nw (q.1):=λq a=>by rw[c];exact W.lt r (zAT e) q a
 exact .i (.ft<|aV<|.nc (Kw (cV (HF<|.c9<|yA w h e)<|SE b h)<|w9 _)<|sC .c) aM
def Wa(h:.Bf):.kv x:=by rcases h with e|e<;>subst e<;>decide
/---/def mB:Fn:=bK 3 6<|.pC (aq iR<|.ki 2)
  (aA (.dW (.F6<|aa 3) .Hw aX)
  (.lC (aq sD<|.kI<|.yk 2)
  (.kn (.Kt vB)
  (.aio
  .aeM))))
/---/def sE:Fn:=.M1<|hU<|cy 1 [0,1] (cT .nE) (gN 0) [] .ao5
/---/def lK(w:Web)(s:.l)(p:Nat):Int:=match .lS p with
 |some x=>x
 |none=>.Q (2*fu (.EI p) s) .Yc (.mM p) (.tQ<|.Yc<2*fu (.EI p) s)
/---/def ke(w:Web)(n:Nat)(s:.l):.l:=.vE n
def Kz(W:.ak)(F:.hA w)(hp:p<n)(h:Hd):.WD mB=.ao (lK w s p):=by
 have m:p<w.ties.length:=.p W.t hp
 have l:p<w.bars.length:=.p W.b hp
 have b:p<w.stays.length:=.p W.s hp
 have k:.nw p:=.p F.len hp
 have o:w.ties[p]?=some w.ties[p]:=.k m
 have q:w.bars[p]?=some .GF:=.k l
 have f:.sd p=some w.stays[p]:=.k b
 have a:=Ky W F.len o h;have t:.EI p=w.ties[p]:=.jZ m
 have y:.Yc=.GF:=.jZ l
 have j:.lS p=w.stays[p]:=.jZ b
 have r:.mM p=s[p]:=.jZ k
 have A:=ZS k;cases c:w.stays[p] with
 |some x =>
  rw[c]at f;have nx:lK w s p=x:=by unfold lK;rw[j,c]
  rw[nx];exact .yG<|.a2 ft (aH<|.c9<|jx w h f)<|.OR .eQ
 |none =>
  rw[c]at f;have u:=jx w h f;have z:=Kx w h q;dsimp[lK,j,c,t,y,r];generalize 2*fu w.ties[p] s=P at a;have i:∀{v:Int},.aio .aeM [.be,.bV,.w p,.r8,.w P,.a<|.int .GF] h=.rt .mf h->.WD mB=.ao v:=λe=>.Al (.ft<|.wO (.c9 u)<|.jx .eQ<|.wO (ax .ly a)<|.wO (.c9 z) e) aM
  by_cases d:P=.GF
  ·rw[z3 d];exact i (jw<|.fG (.dD<|rc d)<|aV<|.s1 A)
  ·rw[yM d]
   by_cases g:.GF<P
   ·rw[z3 g];exact .aie (.jT Fo<|.dD<|uo g)
   ·rw[yM g];exact .aie (.jT Fp<|.dD<|Fk g)
def KA(W:.ak)(F:.hA w)(h:Hd):sE [w.enc,bp s] h=.jP bp .u6:=by
 have b:.oV .gS .ao5 .gS [none,.be,.bV] h
   = .v ((.pW (.e7 .y2) .c3).map<|.Jl<|.e<|lK w s i.toNat):=by
  refine .y9 bQ (I:=.ye [a,.be,.bV]) _ _ trivial ?_ .K;rintro x j σ ⟨a,rfl⟩;obtain⟨i,c,rfl⟩:=.ar j;have c:=zYj.mp c;exact⟨_,rfl,.K,.f,λ_=>ax .ly<|Kz W F c h⟩
 have f:(.pW .gS .c3).map (.V0 (.fu<|lK w s i.toNat) .non)=.As .u6:=by
  rw[.hf,UD,ke,UD];rfl
 rw[f]at b;have e:.kT bV=.ao n:=W.t▸kR w h;exact .yG<|aV<|mf<|cV (.cI fq e W.sz) b
/---/def fO:Fn:=bK 2 4<|aA (.xR<|tOr (.BJ .tuple)<|tE<|.ej .n6 .l1)
  (.fe (.bE 1 .a1)
  (.pC .vL
  (aA (.xR<|tOr (.b1<|.yx 2)<|.b1<|.yx 3)
  (bf<|fT<|.lZ (.qE oNe<|aa 3)<|tE .afT))))
noncomputable abbrev kH:SF:=(.Fm .Uk
  (.lC (.bE 3 .a1)
  (.kn (.bE 3 .aa)
  (aA (.dW (.Ns Kf<|.bE 2<|aa 4) kQ aX)
  (aA (vd (.uo 4) (aa 5)<|.bE 3 .ba)
  .Ts)))))
/---/def pU:Fn:=bK 2 6<|.Fm .MR
  (aA .am6
  (aA (.F1 .BT kH)
  .Hj))
/---/def kT:Fn:=.hw<|aA (.dW .Fs kQ aX)
  (.Fm (tOr .MR<|.Rz .vK)
  (aA (.XV<|.MQ<|.cs gM)
  .VL))
/---/def pV:Fn:=.hw<|aA .agX
  (.Fm .ang
  (aA (.XV<|.MQ .DE)
  .VL))
/---/def AT:Fn:=bK 4 6<|.Fm .SR
  (.lC (.o4 pU)
  (.kn (hU<|.LP 4 .OF)
  (bf<|dh<|.aB 5<|ae .am7<|.N<|aq pV<|.ki 3)))
/---/def DM:Fn:=bK 2 4<|.fe .a1
  (.alq (.gG .aaG)
  (aA (.jl<|fT<|.BL (.gO .vK .a1)<|tE<|.gO (.jD .je .ba) .aa)
  (aA (sIf (.jU tE) (.gG<|.cK (.t8 2<|.W 2147483647)<|.vO 1000003<|aa 1) aX)
  (bf<|bJ<|.aB 2<|.ov .pR))))
/---/def gm:Fn:=bK 2 4<|aA (.dM oV .aa<|.cK .st .aa)
  (aA (.dW (.hN .ba) (.fe (.ae6<|aj dH (.cK (.hN .a1)<|.vO 7919 .st) .aa)
  (.fe (.jD (.qE ek<|.cK (.t8 2<|.W 65521) .st)<|.W 2147483629)
  (bf<|aj dU (.jD (.cK (.lW (aa 2)<|aa 2)<|.vO 69621<|aa 2)<|.W 2147483563)<|aa 1))) aX)
  (.pC (.jD .je<|aa 1)
  (aA (.dM oV .a1<|aj lV .je<|aa 1)
  .Hw)))
/---/def Wb:Fn:=.pV<|aA (.LG .a1 (.cy bf) aX)
  (aA (.LG .aa (bf<|.h0 lU<|.W 60) aX)
  (aA (.LG .ba (bf<|aj lU (.cK (aa 2)<|.h0 dU<|.W 5) .ba) aX)
  (aA (.LG .l1 (bf<|.lW .ba<|.h0 dU<|.zr 2) aX)
  (bf<|.lW (.cK (aj ade (.W 10)<|.W 59)<|aa 1)<|fIx (.HJ<|-1)<|.h0 dU .ba))))
noncomputable abbrev HG:SF:=(sIf (tE<|.gO (aq gm<|.aB 9 .pR) .a1) (aA (.a3 11<|.cK .aa<|aq gm<|.aB 9<|.N<|fIx (ae .l1<|.hj 400)<|.Fl<|.N .ba)
  (.gK (adh (aa 4) (.Fl<|.N<|.cK (c8<|lOf<|aa 4) .aa)<|fIx (.FN (.aB 8<|.aB 10<|.eo 11)<|.N<|dh<|.aB 10<|.aB 8<|.eo 11)<|.t8 11 .ba)
  (aA (oV (aa 7) (aa 8)<|.cK (.bE 7<|aa 8)<|aa 11)
  (oV (aa 7) (aa 10)<|.cK (.bE 7<|aa 10)<|aa 11)))) aX)
noncomputable abbrev HH:SF:=(aA (.a3 9<|aq DM<|.aB 0<|.N<|.cK .aa<|aa 8)
  (.gK (.wy 6<|fIx (ae .gr<|.af4<|.ov .Qh)<|.Fl<|.hj 5)
  (.gK (.wy 5<|dh<|ae (.Fl<|.hj 5)<|.N<|.Fl<|.hj 200)
  (hZ (cT<|aa 8) (gN 10) HG))))
/---/def KC:Fn:=bK 1 12<|.lB (aq DM<|.kI .vq)
  (.gK (aq gm<|.qn<|.N .ba)
  (.fe (.cK .aa<|aq gm<|.aB 1<|.N<|.ao8<|ae .ba<|ae .nH<|.hj 6)
  (.pC (.ao8<|.Cv<|ae .ba<|.hj 5)
  (.sF 4
  (.sF 5
  (.sF 6
  (aA (.a3 7<|.YB 2)
  (aA (hZ (.cy cT) (gN 8) HH)
  (.kn (bJ<|cy 1 [7,5] (.cy cT) (gN 0) []<|aq Wb<|ae (fAt (.uo 0) .a1)<|ae (fAt (.uo 0) .aa)<|.N<|.bE 1<|aa 0)
  (bf<|dh<|.aB 2<|.aB 4<|.aB 5<|.aB 6<|.eo 7))))))))))
def cP(e:.bM=.sK):.lP aA=b σ' h':=.bJ aA e
def zK(a:0<=x)(h1:.W2 x):.kv x:=by
 dsimp[sml,UE,vb];lia
def pW{α:Type}{f:α->D}{l:.bY}(h:.iZ):.rS .B5=.a (f l[i]):=dW<|.k h
def jy(b:(.gS)[i]?=.aF):i<n/\x=.fw i:=by
 have a:i<n:=by
  rw[.s4 b]
 rw[.o a (by simpa[a,zAN] using b.symm)]
def ab7{α:Type}(f:α->D)(l:.bY){x:Int}(b:0<=x)(h:x<l.length):∃v∈l,atI .B5 x=.b0 f v:=by
 have a:x.toNat<l.length:=.b
 rw[.eD (l[x.toNat]) (zYp a)];rw[.eT (pW (f:=f) a) (show .aD x.toNat=x by lia)]
structure Tie where
 a:Nat
 b:Nat
 w:Int
/---/def cC(t:Tie):D:=.E [.e t.a,.e t.b,.e t.w]
/---/def far(i:Nat)(t:Tie):.lQ:=.s3 t.a i t.b<|.s3 t.b i t.a none
/---/def wOf(i:Nat)(t:Tie):Int:=.H7 (t.a=i\/t.b=i) t.w
/---/def XR(T:.ca)(i:Nat):Int:=(T.map<|wOf i).sum
/---/def ab8(one other:Nat)(t:Tie):Prop:=(t.a<one/\t.b<one)\/(t.a=one/\t.b<other)\/(t.b=one/\t.a<other)
/---/def jp(s t:Tie):Prop:=¬(s.a=t.a/\s.b=t.b)/\¬(s.a=t.b/\s.b=t.a)
structure TOk(n one other:Nat)(T:List Tie):Prop where
 ne:∀t∈T,t.a≠t.b
 lt:∀t∈T,t.a<n/\t.b<n
 wt:∀t∈T,1<=t.w/\t.w<=400
 be:∀t∈T,ab8 one other t
 un:T.Pairwise jp
 len:T.length<=30*one+other
def jp.symm{s t:Tie}(h:jp s t):jp t s:=⟨λz=>h.1 ⟨z.1.symm,z.2.symm⟩,λz=>h.2 ⟨z.2.symm,z.1.symm⟩⟩
variable{T:List Tie}
def TOk.skip(o:.GK other T):.GK .sk T :=
 ⟨o.ne,o.lt,o.wt,λt a=>by
  rcases o.be t a with h|h|h
  ·rw[.O h]
  ·exact .i9 ⟨h.1,.sV⟩
  ·exact .fp ⟨h.1,.sV⟩,o.un,.X1 o.len⟩
def TOk.step(o:.GK one T)(h:one<n)(a:n<=30):TOk n (one+1) 0 T :=
 ⟨o.ne,o.lt,o.wt,λt b=>by
  rcases o.be t b with h|h|h
  ·rw[.iJ (zj h.1) .sV]
  ·rw[.iJ (zZp<|zYw h.1) .sV]
  ·rw[.iJ .sV (zZp<|zYw h.1)],o.un,zBL o.len<|zVz (zBL (zZj h) a) _⟩
def zL{α:Type}{x y:α}{l:.bY}(h:y∈.gP k++[x]++.hC k):y=x\/y∈l:=by
 dsimp[zBT,xS,x4]at h;rcases h with h|h|h
 ·rw[.P (zZv h)]
 ·rw[.O h]
 ·rw[.P (.WG h)]
def SG{α:Type}{R:α->.bF α}(sym:∀a b,R a b->R b a){x:α}{l:.bY}(k:Nat)(h:l.Pairwise R)(f:∀y∈l,R x y):.jm (.gP k++[x]++.hC k) R:=by
 have d:.jm (.gP k++.hC k) R:=.p List.take_append_drop h
 rw[zZw]at d;obtain⟨g,i,j⟩:=d;rw[zBT,zZw];refine .gi g λa e b c=>?_
 ·rw[List.singleton_append,zZg]
  rw[.o (λy m=>f y<|.WG m) i]
 ·rcases .f5 c with c|c
  ·simp at c;subst c;exact sym _ _ (f a<|zZv e)
  ·exact j a e b c
theorem TOk.put(o:.GK other T)(h1:one<n)(c:.GN){w:Int}(g:1<=w)(f:w<=400){t:Tie}(d:t=⟨one,other,w⟩\/t=⟨other,one,w⟩)(k:Nat):.GK .sk (T.take k++[t]++T.drop k) where
 ne:=λs a=>by
  rcases zL a with rfl|a
  ·rcases d with e|e<;>subst e
   ·exact wh c
   ·exact zBM c
  ·exact o.ne s a
 lt:=λs a=>by
  rcases zL a with rfl|a
  ·rcases d with e|e<;>subst e
   ·rw[.o h1 (UH c h1)]
   ·rw[.o (UH c h1) h1]
  ·exact o.lt s a
 wt:=λs a=>by
  rcases zL a with rfl|a
  ·rcases d with e|e<;>subst e<;>exact⟨g,f⟩
  ·exact o.wt s a
 be:=λs a=>by
  rcases zL a with rfl|a
  ·rcases d with e|e<;>subst e
   ·exact .i9 .Pd
   ·rw[.P (.F .Pd)]
  ·exact o.skip.be s a
 un:=SG (.nR jp.symm) k o.un λs a=>by
  have b:=o.be s a;rcases d with e|e<;>subst e<;>rcases b with b|b|b
  ·exact⟨.Ap<|b.1,.Ap<|b.2⟩
  ·exact⟨.uZ<|b.2,.Ap .Qi⟩
  ·exact⟨.Ap .Qi,.uZ<|b.2⟩
  ·exact⟨.uZ<|b.2,.uZ<|b.1⟩
  ·exact⟨.uZ .Qi,.Ap<|b.2⟩
  ·exact⟨.Ap<|b.2,.uZ .Qi⟩
 len:=by
  have e:.ad T.take k+.ad T.drop k=T.length:=by rw[<-zAK,List.take_append_drop]
  rw[zAK,zAK,zVi,zUk,e];exact Nat.succ_le_succ o.len
/---/def adp(p:Int × Int):D:=.ama
structure PH(n i:Nat)(T:List Tie)(bs:List (Int × Int))(ss:List (Option Int))(h:Hd):Prop where
 ti:h[1]?=some (.lst (T.map cC))
 ba:h[2]?=some (.lst (bs.map adp))
 st:h[3]?=some (.lst (ss.map bT))
 to:h[4]?=some (.lst (((List.range n).map (XR T)).map .int))
 len:h.length=5+i
 lb:bs.length=i
 ls:ss.length=i
 os:∀x∈ss,x=none\/x=some 0\/x=some 1
 bb:∀p∈bs,0<=p.2/\p.2<200
def ZT{g:Hd}(a:bO)(h:g[k]?=.a8):(g.set k a)[k]?=.jK:=X0<|.aw h
def Fq{j:Nat}(h:j<n):ixN n .BD=.e6:=.bJ ixN h
noncomputable abbrev XP(lit:D)(hd:.J)(n thin one:Nat)(a b:.J):Sd:=[.a lit,hd,.T,.w thin,.t 1,.t 2,.t 3,.t 4,.wl,.jO 5 one,a,b]
noncomputable abbrev SC(c t:Int)(b:Bool):bO:=.q [.e c,.e t,.bl b]
inductive PI(lit:D)(hd:Option D)(n thin one:Nat)(bs:List (Int × Int))(ss:List (Option Int))(m:Bool):Nat->Sd->Hd->Prop
 |mk {i:Nat} {h:Hd} {T:List Tie} {a b:Option D} {c t:Int} (P:PH n (one+1) T bs ss h) (O:TOk n one i T) (hs:h[5+one]?=some (SC c t m)):PI lit hd n thin one bs ss m i (XP lit hd n thin one a b) h
def few{l one i:Nat}(h:l<=30*one+i)(h1:one<n)(a:n<=30)(hi:i<one):l<1000:=.b
noncomputable abbrev XQ(lit:D)(hd:.J)(n thin:Nat)(a b c d:.J):Sd:=[.a lit,hd,.T,.w thin,.t 1,.t 2,.t 3,.t 4,a,b,c,d]
def acO{u:.X}(h:u∈[none,none,none,.hI,.a 1]):u=none\/u=.hI\/u=.a 1:=by
 simp at h;exact h
inductive PO(ns:List Int)(hd:Option D)(n thin:Nat):Nat->Sd->Hd->Prop
 |mk {i:Nat} {h:Hd} {a b c d:Option D} {T:List Tie} {bs:List (Int × Int)} {ss:List (Option Int)} (P:PH n i T bs ss h) (O:TOk n i 0 T):PO ns hd n thin i (XQ (.lit (ns.map .int)) hd n thin a b c d) h
structure adq(ns:List Int)(n:Nat)(T:List Tie)(bs:List Int)(ss:List (Option Int))(h:Hd):Prop where
 run:KC [.lit (ns.map .int)] []=.ok (.tup [.int n,.ref 1,.ref (5+n),.ref 3,.ref 4]) h
 n1:1<=n
 n6:n<=6
 ok:TOk n n 0 T
 ti:h[1]?=some (.lst (T.map cC))
 ba:h[5+n]?=some (.lst (bs.map .int))
 st:h[3]?=some (.lst (ss.map bT))
 to:h[4]?=some (.lst (((List.range n).map (XR T)).map .int))
 len:h.length=6+n
 lb:bs.length=n
 ls:ss.length=n
 os:∀x∈ss,x=none\/x=some 0\/x=some 1
 bb:∀b∈bs,b.natAbs<10^60
theorem o8{α:Type}{f:α->D}:∀{l:.bY},(∀x∈l,.j8<|f x)->.wB .B5
 |[],_=>rfl
 |x::l,h=>by
  dsimp[xI,i8,UE];exact⟨h x .f,o8 λy a=>h y<|.k a⟩
def vE(w:Web):.j8 w.enc:=by
 have b:∀r:.bW,.j8 (AQ r):=λr=>by
  unfold AQ;rw[.mm pure? (o8 λp _=>rfl)]
 have d:.wB .aay:=o8 λr _=>b r;have c:.wB (w.bars.map D.int):=o8 λr _=>rfl;have a:.wB .f0:=o8 λr _=>by cases r<;>rfl
 unfold Web.enc;dsimp[pure?,i8,d,c,a];rfl
/---/def vF(p:.pm):.l:=[.AH,p.2]
noncomputable def xa(x:.pm):.bW->.bW
 |[]=>[x]
 |y::r=>.dE (.cp (vF x)<|vF y) (x::y::r)<|y::xa x r
noncomputable def eG:.bW->.bW
 |[]=>[]
 |x::r=>xa x<|eG r
theorem HI(x:.pm):∀r,(xa x r).map vF=EU (vF x) (r.map vF)
 |[]=>rfl
 |y::r=>by
  dsimp[xa,EU,xI];split
  ·rfl
  ·simp[HI x r]
theorem DN:∀r,.bD eG r vF=gf (r.map vF)
 |[]=>rfl
 |x::r=>by dsimp[eG,gf,xI,HI,DN r]
theorem AU:∀{r},p∈xa x r↔p=x\/p∈r
 |[]=>.k xa
 |y::r=>by
  dsimp[xa];split
  ·simp
  ·dsimp[z4,AU]
   constructor
   ·rintro (h|h|h)
    ·exact .i9 h
    ·rw[.O h]
    ·exact .fp h
   ·rintro (h|h|h)
    ·exact .i9 h
    ·rw[.O h]
    ·exact .fp h
theorem iS:∀{r},p∈eG r↔p∈r
 |[]=>.k eG
 |x::r=>by dsimp[eG,AU,iS,z4]
theorem HJ(f:.pm->Int)(x:.pm):∀r,((xa x r).map f).sum=f x+.Gc f
 |[]=>.k xa
 |y::r=>by
  dsimp[xa];split
  ·simp
  ·simp[HJ f x r];lia
theorem xc(f:.pm->Int):∀r,(.bD eG r f).sum=.Gc f
 |[]=>rfl
 |x::r=>.jB eG HJ<|xc f r
/---/def nbs(T:.ca)(i:Nat):.bW:=T.filterMap λt=>(.nz).map λj=>(j,t.w)
/---/def yY(p:.pm):Int × D:=(.AH,.int p.2)
def HK(T:.ca)(t:Tie)(i:Nat):nbs (T++[t]) i=.eM++(match .nz with|some j=>[(j,t.w)] | none=>[]):=by
 unfold nbs;rw[List.filterMap_append];congr 1;cases e:.nz<;>simp[e]
def Pc{l:.bW}(h:∀p∈l,p.1≠k):Av (.b8 yY) k=none:=by
 unfold Av;rw[List.find?_eq_none.mpr]
 ·rfl
 ·intro x c
  obtain⟨p,b,rfl⟩:=.ar c;have a:=h p b;have:¬(.AH=.M k):=λz=>a .b;rw[.ap vb this]
def HL{l:.bW}{k:Nat}(h:∀p∈l,p.1≠k):Ke (.b8 yY) k .mf=(l++[(k,v)]).map yY:=by
 unfold Ke;rw[yM]
 ·simp[yY]
 ·dsimp[List.any_eq_true,xT,vb]
  rintro⟨x,⟨p,b,rfl⟩,e⟩;have a:=h p b;have e:.AH=.M k:=e;exact a .b
def HM{i j:Nat}{t:Tie}(h:.nz=.e6):(t.a=i/\t.b=j)\/(t.b=i/\t.a=j):=by
 unfold far at h
 by_cases a:t.a=i
 ·rw[z3 a]at h;rw[.iJ a (zBS h)]
 ·rw[yM a]at h
  by_cases b:t.b=i
  ·rw[z3 b]at h;rw[.P ⟨b,zBS h⟩]
  ·rw[.hv (yM b)]
def KG{t:Tie}{i j:Nat}(g:.nz=.e6)(un:∀s∈T,jp s t):∀p∈.eM,p.1≠j:=λp h e=>by
 obtain⟨s,l,q⟩:=zYk.mp h;obtain⟨k,f,rfl⟩:=.n1 q;have u:=un s l;rw[show k=j from e]at f;rcases HM g with ⟨d,c⟩|⟨d,c⟩<;>rcases HM f with ⟨a,b⟩|⟨a,b⟩
 ·exact u.1 ⟨.Nm,.Nh⟩
 ·exact u.2 ⟨.Nh,.Nm⟩
 ·exact u.2 ⟨.Nm,.Nh⟩
 ·exact u.1 ⟨.Nh,.Nm⟩
def Pd{t:Tie}(h1:t.a≠t.b)(f:t.a<n)(j:t.b<n)(d:.LT)(h:Hd):fO [.gj,cC t] h=.hq:=by
 have e:.p0<=n-1:=.ahv f;have k:.M t.b<=n-1:=.ahv j;have g:¬.p0=t.b:=λz=>h1 .Yh;have c:∀{i a b:Int},a<=i->i<=b->.amW=.hq:=λx y=>by rw[c5,y3 x,y3 y];rfl
 exact .Al (.ft<|.jx (gj .HZ<|aG<|.JE rfl rfl)<|sx (.kj aH)<|.anP<|.jx (gj (.aZ<|.Kc<|c (zZq _) e)<|.aZ<|.Kc<|c (zZq _) k)<|aV<|lJ<|jU (.dD (by rw[km,z5 g];rfl))<|aG<|ax (.kj ah<|.dv .t0)<|c d.1 d.2) aM
structure NH(n A:Nat)(h0:Hd)(T:List Tie)(h:Hd):Prop where
 pre:∃g,h=h0++g/\g.length=n+1
 dc:∀j,j<n->h[A+j]?=some (.dct ((nbs T j).map yY))
 rf:h[A+n]?=some (.lst ((List.range n).map λi=>.ref (A+i)))
def NH.put(f:.wg A)(N:NH n A a T h){j:Nat}(b:j<n)(c:bO):(∃g,.jw (A+j) c=a++g/\g.length=n+1)/\(.jw (A+j) c)[A+j]?=.a8/\(∀k,k≠j->(.jw (A+j) c)[A+k]?=h[A+k]?):=by
 obtain⟨g,e,l⟩:=N.pre;have lt:=.aw<|N.dc j b;exact⟨⟨g.set j c,.L e<|Fj f,.PG⟩,X0 lt,λk d=>zBO λz=>d (zXx z).symm⟩
def SH{i j:Nat}(a:n<=30)(O:.dY):.s ((nbs .lu j).map yY)<SZ:=by
 rw[zST];exact .im<|.j9 List.length_filterMap_le<|.j9 zVo<|zBL O.len<|zWq (Nat.mul_le_mul_left 30 a) 0
noncomputable abbrev XN(n tk A:Nat)(a b c:.J):Sd:=[.T,.qc,.rX A,a,b,c]
def Ng{tk i:Nat}(G:n<=30)(O:.dY)(J:.wh A)(N:.G9 .lu r){t:Tie}(mt:t∈T)(un:∀s∈.lu,jp s t)(x:T.take (i+1)=.lu++[t])(b c:.J):
  ∃k,kH (.vm .PT b c) r=.nx (.vm .PT (.w t.a)<|.w t.b) k/\.G9 (T.take<|i+1) k:=by
 have f:=O.ne t mt;have a:=O.lt t mt;have I:far t.a t=.a t.b:=.cb;have E:far t.b t=.a t.a:=.a2 yM f .cb;have B:=KG I un;have nb:=KG E un;have p:∀j:Nat,j < n->atI (.op<|D.ref<|A + i) .BD=.t (A + j):=λj y=>.oy<|zXb y;have H:=p t.a a.1;have M:=p t.b a.2;have K:=N.dc t.a a.1;obtain⟨L,F,u⟩:=N.put J a.1 .afq;obtain⟨m,q⟩:=qq<|r.set (A + t.a) .afq;rw[<-q]at L F u;have o:m[A + n]? = .x (.rc<|A + i):=.i (u n<|wh a.1) N.rf;have C:m[A + t.b]? = .Gs ((nbs .lu t.b).map yY):=.i (u t.b<|zZs f)<|N.dc t.b a.2;obtain⟨k,d⟩:=qq<|m.set (A + t.b)<|.dct<|(nbs .lu t.b++[(t.a,t.w)]).map yY;refine .g4 k (.jx (.aZ<|.us<|Pd f a.1 a.2 (O.wt t mt) r)<|sx (.kj aH)<|.anP<|.jx (aG<|.nc (.cG N.rf H) (by rw[ZQ K,Pc B];rfl))<|sx (h':=m) (by
  rw[q,<-HL B];exact .kj Nd (.cG N.rf H) rfl K<|SH G O) (by
  rw[d,<-HL nb];exact .kj Nd (.cG o M) rfl C<|SH G O)) ?_ λj y=>?_
 ·obtain⟨g,e,l⟩:=L
  exact⟨_,.hP d e<|Fj J,.PG⟩
 ·rw[x,HK]
  by_cases w:t.b=j
  ·subst w
   rw[d,ZT _ C,E]
  ·rw[d,zBO λz=>w<|zXx z]
   by_cases v:t.a=j
   ·subst v
    rw[F,I]
   ·have:far j t=none:=.a2 yM v (yM w)
    rw[u j<|zZs v,this,N.dc j y];simp
 ·rw[d];exact .a2 zBO (λz=>zBM a.2<|zXx z) o
def DO(w:.wh A):∃h1 g,.oV .gS Ha .gS .bH h=.cR (.e7 λi=>.d<|A+i)/\h1=h++g/\g.length=n/\∀j,j<n->h1[A+j]?=.Gs []:=by
 obtain⟨z,h1,u,r,s,t,-,g,y,b,q⟩:=.alz
  (e:=Ha) (σ:=.bH) (h:=h)
  (P:=λi σ p=>(.GV [a])/\∃g,p=h++g/\g.length=i/\∀j,j < i->p[A + j]? = .Gs []) (V:=λi d=>d=.d (A + i)) .jY (by
   rintro i x σ f v ⟨⟨a,rfl⟩,g,m,b,c⟩;obtain⟨C,rfl⟩:=jy v;rw[wm]at b c⊢;have o:f.length=A+i:=by rw[m,zAK,b,w]
   refine⟨_,rfl,.d f.length,f++[.dct []],rfl,.bA o,.K,g++[.dct []],.L m zBT,.EL b,λj l=>?_⟩
   by_cases hji:j<i
   ·exact .ag (c j hji)
   ·rw[.aiC l,<-o];exact zAP) ⟨.K,[],(X1 _).symm,rfl,λj l=>.uS l⟩
 rw[zST,zBN]at r;rw[wm,zST,zBN]at b q;have c:z=.vo:=AR r λi d B=>by rw[.eT (s i d B) wm]
 exact⟨h1,g,.L u c,y,b,q⟩
inductive NI(n A tk:Nat)(h:Hd)(T:List Tie):Nat->Sd->Hd->Prop
 |mk {i:Nat} {h':Hd} {a b c:Option D} (N:NH n A h (T.take i) h'):NI n A tk h T i (XN n tk A a b c) h'
def tM(H:1<=n)(p:n<=30)(O:.dY)(t:.sQ=.x .h6):
  ∃h',pU [.gj,.d tk] h=.G1 n h'/\NH n h.length h T h':=by
 obtain⟨A,o⟩:=.q1;rw[<-o];obtain⟨v,g,E,u,B,C⟩:=DO o;obtain⟨m,d⟩:=qq<|.aS v .vo;have l:v.length=A+n:=by rw[u,zAK,B,o]
 have L:.G9 [] m:=⟨⟨.aS g .vo,.hP d u zBT,.EL B⟩,λj J=>.K5<|C j J,.n8 d l zAP⟩;obtain⟨_,G,M,@⟨_,V,U,W,w⟩⟩:=.aj4 eF (k:=0)
   (λ_ _ h' q=>by
    rw[.apf];rw[e];exact .ag t)
   (xs:=.h6) (tg:=gN 3) (σ:=.vm none none none) (h:=m) (b:=kH) (by
   intro i x σ S r z;rw[wm]at z⊢;obtain @⟨_,a,b,c,N⟩:=z;have f:i<T.length:=by rw[.eT (.aw r) zST]
   rw[zBP,zAN f]at r;cases r;have D:T[i]∈T:=zYp f;have R:∀s∈.lu,jp s T[i]:=λs I=>by
    obtain⟨k,y,rfl⟩:=List.getElem_of_mem I;rw[zZe]at y;rw[List.getElem_take];exact .aeO y
   obtain⟨F,Q,K⟩:=Ng (tk:=tk) p O o N D R (zWr f) b c;exact⟨_,rfl,_,F,Q,.mk K⟩)<|.mk L
 rw[wm,zST,zYv]at w;refine⟨G,.Al (.kC (.SV none)<|.jx (.aZ<|um rfl t)<|.anO (by
  rw[d,<-l];exact .adM E)<|sx (fQ (dM rfl (by rw[d,u];exact bg _<|.ag t)) M) .kc)<|.bJ letGo pure?,w⟩
def ZU(a b:Int)(h:Hd):.Y5 oNe=.ma .m8:=rfl
def KH{l:.g}(nd:l.Nodup)(h:∀x∈l,x<n):.f1 n:=by
 induction n generalizing l with
 |zero=>match l,h with
  |[],_=>exact zBK _
  |x::_,h=>exact .uS (h x zCK)
 |succ n b =>
  by_cases m:n∈l
  ·have:=b (nd.erase n) λx a=>by
    have z:=(List.Nodup.mem_erase_iff nd).mp a;exact zWg (zYz<|h x z.2) z.1
   rw[List.length_erase_of_mem m]at this;exact Nat.le_add_of_sub_le this
  ·exact .X1 (b nd λx a=>zWg (zYz<|h x a) λz=>m<|z▸a)
/---/def bH(n:Nat)(T:.ca)(bs:.l)(ss:.em):Web:=⟨.op<|.vi i,bs,ss⟩
theorem vG:∀l:.bW,jS (.b8 yY)=.a (.b8 vF)
 |[]=>rfl
 |p::l=>by
  have a:=vG l;simp;show .bD jS (.b8 yY) _=_;rw[a];rfl
def rj(un:.Zp)(i:Nat):(.u2 .eM).Nodup:=by
 unfold nbs
 induction T with
 |nil=>simp
 |cons t T a =>
  obtain⟨c,f⟩:=.qh un;have a:=a f;cases e:.nz with
  |none=>dsimp[zXa,e,Option.map_none];exact a
  |some j =>
   dsimp[zXa,e,zXe,xI,zYe];rw[.bN .gz a];obtain⟨p,d,b⟩:=.ar z;exact KG e (λs g=>(c s g).symm) p d b
def Wc{l:.bW}(nd:(.b8 (·.1)).Nodup):(.b8 vF).Nodup:=by
 rw[zWj,zYs]at nd⊢;exact nd.imp λ{a b} h e=>h<|.lH<|(List.cons.inj e).1
def DP{α:Type}{l:.bY}:qo (l.map .YO)=.a (.b8 .c3):=by
 induction l with
 |nil=>rfl
 |cons x l a=>simp[qo,a]
def vH{bs:.l}(k:h[f]?=.x l)(j:.Bm n)(d:h[bk]?=.kw)(lb:.j5):kT [.l4,.d bk] h=.lv (.dt bs.map):=by
 have c:.qX bk .PB (gN 0) [] (.cs gM) .PB .bH h=.v (.bD bs.map D.int .YO):=by
  have:=.Ix bk (e:=.cs gM) (I:=.qN) .c3 (.de .dO) d (xs:=.PB) (σ:=.bH) (by
   rintro x m σ ⟨a,rfl⟩;rw[.rG m];exact .jg<|.jc<|vD _ _) .K
  rw[this,.hf]
 have o:(.dg .PB .c3).all id=true:=.f
 exact Eq.trans (.kC [.t f,.t bk]<|.jx .eQ<|.jx (gj (.FV d)<|aG<|aw (du<|.mI d) (du<|.mI k) (by rw[ZU,zST,lb,j,.v9];rfl))<|.jx (.rB<|.Al (pT (.vc d c) DP) (by rw[o]))<|aV<|mf<|.mI d) aM
def Cs{d:Nat}{ss:.em}(f:h[d]?=.kx)(ls:.he)(os:∀x∈ss,.fZ):pV [.gj,.d d] h=.lv (ss.map bT):=by
 have c:.ajo d=.v (.bD ss.map bT .YO):=by
  have:=.amH d (.de .dO) f (xs:=.eO) (σ:=.bH) (by
   rintro x j σ ⟨a,rfl⟩;obtain⟨i,k,rfl⟩:=.ar j;refine .sZ;rcases os i k with e|e|e<;>subst e
   ·exact lJ (mR .eQ)
   ·exact .Ut (iH 0 h)
   ·exact .Ut (iH 1 h)) .K
  rw[this,.hf]
 exact Eq.trans (.kC [.T,.t d]<|.jx .eQ<|.jx (gj (.FV f)<|.anT f)<|.jx (.rB<|.Al (pT (.vc f c) DP) (by rw[List.all_map];simp))<|aV<|mf<|.mI f) aM
def Nh(s:n<=30)(O:.dY)(N:.G9 T h1):
  .qX (A+n) .vo (gN 0) [] .OF .vo .bH h1=.cR ((.e7 λi=>.vi i).map AQ):=by
 have:=.Ix (A+n) (e:=.OF) (h:=h1) (I:=.ye [a]) .c3
  (.aif<|AQ<|.vi<|k - A) N.rf (xs:=.rc<|A + i) (σ:=.bH) (by
   rintro x f σ ⟨a,rfl⟩;obtain⟨i,l,rfl⟩:=.ar f;have l:=zYj.mp l;refine .sZ;have o:=.Pw;have j:.s ((nbs T i).map vF)<64:=by
    have lt:∀p∈.eM,p.1<n:=λp b=>by
     unfold nbs at b;obtain⟨t,c,q⟩:=zYk.mp b;have:=O.lt t c;unfold far at q
     by_cases r:t.a=i
     ·rw[z3 r]at q;rw[.Ai];exact this.2
     ·rw[yM r]at q
      by_cases m:t.b=i
      ·rw[z3 m]at q;rw[.Ai];exact this.1
      ·rw[.db (yM m)]
    have:=KH o (n:=n) (λx f=>by
     obtain⟨p,b,rfl⟩:=.ar f;exact lt p b)
    simp at this⊢
    lia
   have e:(.bD gf (.dg .eM vF) EV)=.bD eG .eM uj:=by rw[<-DN,UD];rfl
   dsimp[List.set_cons_zero,hU,uc,aa,slot,List.getElem?_cons_zero,aE,N.dc i l,vG,z3<|And.intro j<|Wc o,e,AQ,Nat.add_sub_cancel_left]) .K
 rw[this,.hf,UD,UD];congr 1;apply vx;intro i _;simp
def DQ(d:1<=n)(i:n<=30)(O:.dY)(lb:.j5)(ls:.he)(os:∀x∈ss,.fZ)
  (u:.sQ=.x .h6) (t:h[bk]?=.kw) (w:h[m]?=.kx):AT [.gj,.d tk,.d bk,.d m] h=.ok .ih h:=by
 obtain⟨j,l,N⟩:=tM d i O u;obtain⟨A,v⟩:=.q1;rw[<-v]at l N;obtain⟨g,o,y⟩:=N.pre;have old:∀{k:Nat} {c:bO},h[k]?=.a8->j[k]?=.a8:=λ{k c} e=>by rw[o,.E8];exact e
 have a:=Nh i O N;have r:=vH N.rf .f (old t) lb;have f:=Cs (old w) ls os;have s:.gk<=n:=.lR d;have q:.bp<=30:=.lR i;have p:=N.rf;refine .Al (.ft<|.jx (.rB<|ax (.jI .t0) (by rw[c5,y3 s,y3 q];rfl))<|.wO (.us l)<|.wO (mf<|.vc p a)<|aV<|eB (.dv<|ah (.us r)<|.lK<|.us f) .f2) ?_;show .j6 (.ok .ih j)=_;rw[o];exact dJ<|vE _
theorem pX(s:.l):∀r:.bW,fu r s=.Gc (λp=>.Q .HY 1 (p.2) 0)
 |[]=>rfl
 |p::r=>by
  have a:=pX s r;dsimp[fu,mh,zVt,xI,zWx]at a⊢
  rw[.aV .HY 1]
  ·dsimp[e,decide_true,zYh,xI,zWx];rw[a]
  ·dsimp[e,decide_false,zWd,zZf];rw[a];lia
def HN(s:.l)(r:.bW):fu (eG r) s=fu r s:=.hP pX pX xc
def ur(lt:∀t∈T,.NV):∀p∈.eM,p.1<n:=λp b=>by
 unfold nbs at b;obtain⟨t,a,q⟩:=zYk.mp b;have:=lt t a;unfold far at q
 by_cases c:t.a=i
 ·rw[z3 c]at q;rw[.Ai];exact this.2
 ·rw[yM c]at q
  by_cases d:t.b=i
  ·rw[z3 d]at q;rw[.Ai];exact this.1
  ·rw[.db (yM d)]
def mT(c:n<=30)(O:.dY)(lb:.j5)(ls:.he):.rV:=by
 refine⟨.k bH,lb,ls,λr b p a=>?_,.b⟩;rw[.rG b];exact ur O.lt p<|iS.mp a
structure adE(n:Nat)(T:List Tie)(bs:List Int)(ss:List (Option Int))(tk bk sk:Nat)(h:Hd):Prop where
 ti:h[tk]?=some (.lst (T.map cC))
 ba:h[bk]?=some (.lst (bs.map .int))
 st:h[sk]?=some (.lst (ss.map bT))
theorem KI(h1:one<n):lK .dB s one=match .SY one with
  |some x=>x
  |none=>.Q (2*fu (nbs T one) s) (bs.getD one 0) (.mM one) (.tQ<|bs.getD one 0<2*fu (nbs T one) s):=by
 have e:((.dB).ties.getD one [])=.vi one:=.jB bH List.getD h1
 unfold lK;rw[e,HN];rfl
theorem DR{α:Type}{f:α->D}(h:∀x,dep (f x)<=k):∀l:.bY,tZ .B5<=k
 |[]=>zZc _
 |x::l=>.uJ<|Nat.max_le.mpr ⟨h x,DR h l⟩
structure adF(n:Nat)(ss:List (Option Int))(s:List Int):Prop where
 len:s.length=n
 op:∀x∈s,x=0\/x=1
 st:∀(i:Nat) x,ss[i]?=some (some x)->s[i]?=some x
/---/def LeS(a b:.l):Prop:=∀i:Nat,.He 0<=b.getD i 0
/---/def Wd(a:.l):Prop:=∀i:Nat,.He 0=0\/.He 0=1
def nR(p:.pm)(r:.bW)(s:.l):fu (p::r) s=(.Q .HY 1 (p.2) 0)+fu r s:=by
 unfold fu mh
 rw[.aV .HY 1]
 ·rw[zVt,z3<|.XZ vb,z3 e];rfl
 ·rw[zVt,yM<|.XZ vb,yM e];lia
structure adG(w1 w2:Web)(n:Nat):Prop where
 go:∀a b,qZ w1 n a->qZ w2 n b->LeS a b->LeS (ke w1 n a) (ke w2 n b)
noncomputable def qI(g:Nat->Int):Nat->Int
 |0=>0
 |n+1=>qI g n+g n
def Pe(g:Nat->Int)(n:Nat):(.e7 g).sum=qI g n:=by
 induction n with
 |zero=>rfl
 |succ n a=>rw[List.range_succ,zBQ,List.sum_append,a];simp[qI]
theorem DS:∀(a b:.l),.LI->oh (.dt a.map) (.dt b.map)=.a .m8
 |[],[],_=>.k oh
 |x::a,y::b,h=>by
  have d:=DS a b .tT;dsimp[xI,oh,peq,d]
  by_cases e:x=y<;>by_cases c:a=b<;>simp[e,c]
 |[],_::_,h=>.ei
 |_::_,[],h=>.ei
def Pf(l:.l):tZ .ie=0:=by
 induction l with
 |nil=>rfl
 |cons x l a=>simp[tZ,dep,a]
def We(l:.l):dep (bp l)=1:=.jB bp dep Pf
def Wf{a b:.l}(h:.LI):peq (bp a) (bp b)=.a .m8:=by
 dsimp[bp,peq,DS a b h,zXe,zST,h];simp
def Wg{a b:.l}(h:.LI)(hd:Hd):eqG hd (bp a) (bp b)=.a .m8:=by
 have c:∀l,jL hd (bp l)=none:=λl=>rfl;dsimp[eqG,c,We,Wf h];rfl
def Ni{a b:.l}(h:.LI)(hd:Hd):oEq (bp a) (bp b) hd=.cQ .m8 hd:=by
 unfold oEq;rw[Wg h]
/---/def c6:Fn:=.pa<|bJ<|lOf .nC
def Pg(l:.l):.j8 (bp l):=by
 unfold bp;dsimp[pure?]
 induction l with
 |nil=>rfl
 |cons x l a=>simp[i8,pure?,a]
section
variable{w:Web}{n:Nat}{s:List Int}
def lt2(a t:Nat):t<=a+2*t/\t<=a+2*t+1:=.b
end
section
variable{w:Web}{n:Nat}{s:List Int}
end
section
variable{w:Web}{n:Nat}{a b:List Int}
end
/---/def cH:Fn:=.hw<|.alq (bf .aaG)
  (bf<|.cK (aj ek (.vO 71<|aa 1)<|aa 1)<|.vO 7<|aa 1)
noncomputable abbrev AV:SF:=(.XF (aA .abQ
  (dR<|.wy 4<|.jD (aj lV (aa 5)<|.W 7)<|aa 3))<|.gK (.wy 4<|.t8 5<|aa 3)
  (.fI<|.Ns lV<|aa 3))
/---/def gP:Fn:=bK 4 7<|.sF 4
  (.kn (aa 0)
  (aA (.XF (.fI .abx) aX)
  (aA (.rJ (.cy cT) AV)
  (bf<|aa 4))))
noncomputable abbrev mU:SF:=(oV (aa 9) (aa 6)<|fIx (ae (aj lU (.Dy 10)<|.W 1000)<|.N<|aj lU (.cK (.bE 9<|aa 6)<|.jD (.bE 10<|aa 6)<|.W 7) .l1)<|.jD (.qE lV<|.W 256) .ba)
noncomputable abbrev ut:SF:=(aA (.R1<|.kk 6)
  (aA (.XT<|.kk 6)
  (aA .alB
  .aip)))
noncomputable abbrev pY:SF:=(hZ (cT<|aa 6) (gN 7) ut)
/---/def o9:Fn:=bK 2 12<|.fe (aq cH<|.kI .vq)
  (.pC .ag3
  (aA .acl
  (aA (.SA<|.kk 3)
  (aA (.N8 pY)
  (aA .aj2
  (aA (.yi 128 (aA .Sz
  (.N8 mU)) aX)
  (aA .afz
  (aA (.yi 512 (aA .Sv
  .SG) aX)
  .aij))))))))
noncomputable abbrev xf:SF:=(aA .aiI
  (aA (.a3 8<|.rZ 6)
  (aA .amr
  (aA .amg
  (aA .ae4
  (dR<|.wy 5<|aa 8))))))
/---/def pc:Fn:=bK 2 9<|aA .amx
  (.sF 5
  (aA (.rJ .Z1 xf)
  .anh))
theorem DT:∀{r:.bW},(∀p∈r,p.1≠x.1)->r.Pairwise .xQ->.jm (xa x r) .xQ
 |[],_,_=>.k xa
 |y::r,hne,hp=>by
  obtain⟨h1,f⟩:=.qh hp;have h:=hne y .f;have g:=DT (λp hp=>hne p<|.k hp) f;have e:.cp (vF x) (vF y)=.D (x.1<y.1):=by
   dsimp[vF,lexLt];rw[.n0];simp
  dsimp[xa];split
  ·rename_i c
   rw[e,vb]at c;refine .KG hp;rcases .bj d with z|d
   ·rw[.ap z c]
   ·exact UH c (h1 b d)
  ·rename_i c
   rw[e,vb]at c;refine .KG g;rcases AU.mp d with z|d
   ·rw[z];lia
   ·exact h1 b d
theorem mV:∀{r:.bW},.EP r.map->.jm (eG r) .xQ
 |[],_=>.k eG
 |x::r,nd=>by
  rw[xI,zYe]at nd;refine DT (λp hp e=>nd.1 ?_)<|mV nd.2;rw[.hr e (xT.mpr ⟨p,iS.mp hp,rfl⟩)]
theorem Nj:∀{a b:.bW},a.Pairwise .xQ->b.Pairwise .xQ->(∀p,p∈a↔p∈b)->a=b
 |[],[],_,_,_=>rfl
 |[],y::b,_,_,h=>.lf<|(h y).mpr .f
 |x::a,[],_,_,h=>.lf<|(h x).mp .f
 |x::a,y::b,i,j,h=>by
  obtain⟨g,l⟩:=.qh i;obtain⟨f,k⟩:=.qh j;have e:x=y:=by
   rw[.hs ((h x).mp .f)]
   ·exact e
   ·rcases .bj ((h y).mpr .f) with d|d
    ·exact d.symm
    ·have q1:=f x e
     have q2:=g y d
     lia
  subst e;have t:=Nj l k λp=>⟨λc=>by
   rw[.hs ((h p).mp<|.k c)]
   ·rw[.d3 (.uN<|g p c)]
   ·exact e,λc=>by
   rw[.hs ((h p).mpr<|.k c)]
   ·rw[.d3 (.uN<|f p c)]
   ·exact e⟩
  rw[t]
def KJ{a b:.bW}(c:.EP a.map)(nb:.EP b.map)(h:∀p,p∈a↔p∈b):eG a=eG b :=
 Nj (mV c) (mV nb) λp=>by rw[iS,iS];exact h p
def nS:p∈.eM ↔ ∃t∈T,.nz=some p.1/\t.w=p.2:=by
 unfold nbs;rw[.sw zYk]
 ·rintro⟨t,a,q⟩
  cases e:.nz with
  |none=>rw[.db e]
  |some j=>rw[e]at q;rw[.Ai];rw[.al t a e rfl]
 ·rintro⟨t,a,q1,q2⟩
  rw[.C t a (by rw[q1,q2];rfl)]
def SI{t:Tie}(ne:t.a≠t.b){i j:Nat}(h:.nz=.e6):far j t=.fH:=by
 unfold far at h⊢
 by_cases a:t.a=i
 ·rw[z3 a]at h
  cases h;rw[yM ne,.cb,a]
 ·rw[yM a]at h
  by_cases b:t.b=i
  ·rw[z3 b]at h
   cases h;rw[.cb,b]
  ·rw[.hv (yM b)]
def HP(ne:∀t∈T,t.a≠t.b){i j:Nat}(h:(j,x)∈.eM):(i,x)∈nbs T j:=by
 obtain⟨t,a,q1,q2⟩:=nS.mp h;exact nS.mpr ⟨t,a,SI (ne t a) q1,q2⟩
def ZV{t:Tie}(ne:t.a≠t.b){i j:Nat}(h:.nz=.e6):i≠j:=by
 unfold far at h
 by_cases a:t.a=i
 ·rw[.hv (z3 a)];lia
 ·rw[yM a]at h
  by_cases b:t.b=i
  ·rw[.hv (z3 b)];lia
  ·rw[.hv (yM b)]
/---/def kf(i:Nat)(r:.bW):.ca:=(r.filter λp=>.D<|i<p.1).map λp=>⟨i,p.1,p.2⟩
noncomputable def jz(R:.ai .bW):Nat->.ca
 |0=>[]
 |k+1=>jz R k++kf k (.v6 k)
def xg{t:Tie}:t∈kf i r↔t.a=i/\i<t.b/\(t.b,t.w)∈r:=by
 unfold kf;rw[.sw xT]
 ·rintro⟨p,d,rfl⟩
  obtain⟨a,b⟩:=zXc.mp d;rw[.C rfl .tV a]
 ·rintro⟨a,b,c⟩
  exact⟨_,zXc.mpr ⟨c,.tV⟩,by cases t;cases a;rfl⟩
theorem mC{t:Tie}:∀{k:Nat},t∈jz R k↔t.a<k/\.wq/\(t.b,t.w)∈.v6 t.a
 |0=>.k jz
 |k+1=>by
  rw[jz,xS,mC,xg];constructor
  ·rintro (⟨h1,b,a⟩|⟨h1,b,a⟩)
   ·rw[.C .b b a]
   ·rw[.C .b .b (.p h1 a)]
  ·rintro⟨h1,b,a⟩
   by_cases c:t.a<k
   ·rw[.O ⟨c,b,a⟩]
   ·have:t.a=k:=.b
    rw[.P ⟨this,.b,.ay this a⟩]
theorem HQ(nd:∀i,(.u2<|.v6 i).Nodup):∀k,.jm (jz R k) jp
 |0=>.k jz
 |k+1=>by
  rw[jz,zZw];refine .gi (HQ nd k) λs e t d=>?_
  ·unfold kf
   rw[zYs];have n1:=nd k;rw[zWj,zYs]at n1;refine(n1.filter _).imp_of_mem λ{a b} c l h=>?_;have n:k<a.1:=.h1<|(zXc.mp c).2
   exact⟨.sE h,λz=>by have:=z.2;simp at this;lia⟩
  ·obtain⟨g,j,_⟩:=mC.mp e
   obtain⟨m,f,_⟩:=xg.mp d;exact⟨.Be,.Be⟩
theorem xh(l:∀i,.s (.v6 i)<=30):∀k,.s (jz R k)<=30*k
 |0=>.k jz
 |k+1=>by
  have b:=xh l k;have a:.s (kf k<|.v6 k)<=.s (.v6 k):=.ah0
  have c:=l k;rw[jz,zAK]
  lia
def Ph(h:p<n):(.dB).ties.getD p []=.vi p:=.jB bH List.getD h
def DU:∀r:.bW,.ad eG r=r.length:=λr=>by
 have:=xc (.de 1) r;have q:∀l:.bW,.jn ((l.map λ_=>.gk).sum):=λl=>by
  induction l with
  |nil=>rfl
  |cons x l a=>simp;lia
 rw[q,q]at this
 lia
def Nk(lt:∀t∈T,.NV)(un:.Zp)(i:Nat):.s (nbs T i)<=n:=by
 have:=KH (rj un i) λx b=>by
  obtain⟨p,a,rfl⟩:=.ar b;exact ur lt p a
 simpa using this
/---/def kU(n:Nat)(T:.ca):.ca:=jz (.op<|.vi i) n
def pZ(A:n<=30)(O:.dY):.mn .hg/\.alC .hg:=by
 have k:.aj6:=λ{i} g=>.jZ g
 have m:∀{i:Nat},¬i<n->.C5=[]:=λ{i} g=>.jZ g
 have mem:∀{t:Tie},.aen:=λ{t}=>by
  unfold kU;rw[.sw mC]
  ·rintro⟨f,o,d⟩
   rw[k f,iS]at d;rw[.C f o d]
  ·rintro⟨f,o,d⟩
   rw[.C f o (by rw[k f,iS];exact d)]
 have y:∀i,(.u2 .C5).Nodup:=λi=>by
  by_cases g:i<n
  ·rw[k g,zWj,zYs]
   exact(mV .Pw).imp λ{a b} h e=>.b
  ·rw[m g];simp
 have ok:.mn .hg:=by
  refine⟨λt l=>?_,λt l=>?_,λt l=>?_,λt l=>?_,HQ y n,?_⟩
  ·have:=(.ai4).2.1;lia
  ·rw[.Qr]
   rw[.o f (ur O.lt _ d)]
  ·rw[.Qr]
   obtain⟨s,w,_,q⟩:=nS.mp d;have q:s.w=t.w:=q;rw[.hr q (O.wt s w)]
  ·rw[.Qr]
   rw[.iJ f (ur O.lt _ d)]
  ·have:=xh (λi=>by
    by_cases g:i<n
    ·rw[k g,DU]
     have:=Nk O.lt O.un i
     lia
    ·rw[m g];simp) n
   rw[.iz]
 rw[.bN ok λi g=>KJ (rj ok.un i) .Pw λp=>?_];obtain⟨j,x⟩:=p;constructor
 ·intro h
  obtain⟨t,l,q1,q2⟩:=nS.mp h;rw[.Qr];have q2:t.w=x:=q2;subst q2;unfold far at q1
  by_cases v:t.a=i
  ·rw[z3 v]at q1
   have q1:t.b=j:=by simpa using q1
   rw[.jJ q1 v d]
  ·rw[yM v]at q1
   by_cases r:t.b=i
   ·rw[z3 r]at q1
    have q1:t.a=j:=by simpa using q1
    rw[.jJ q1 r (HP O.ne d)]
   ·rw[yM r]at q1;cases q1
 ·intro h
  obtain⟨s,w,q1,q2⟩:=nS.mp h;have u:i≠j:=ZV (O.ne s w) q1;have z:=ur O.lt _ h
  by_cases c:i<j
  ·exact nS.mpr ⟨⟨i,j,x⟩,mem.mpr ⟨g,c,h⟩,.k far,rfl⟩
  ·exact nS.mpr ⟨⟨j,i,x⟩,mem.mpr ⟨z,.pc<|j<i,HP O.ne h⟩,.bJ far<|zZs u,rfl⟩
def KL(bs:.l)(ss:.em)(h:.alC S):.Zv S:=by
 unfold bH;congr 1;apply vx;intro i a;exact h i<|zYj.mp a
def AW(a:n<=30)(O:.dY)(bs:.l)(ss:.em):.Zv .hg:=KL bs ss (pZ a O).2
/---/def fF:Fn:=.pa<|bJ<|lOf .st
noncomputable abbrev p6:SF:=(dR<|.cA qp .SI)
/---/def dw:Fn:=bK 1 3<|.sF 1
  (aA (.Zx .nE p6)
  (.cA bf))
def AX(W:.ak)(h:Hd):.kT bV=.ao n:=by
 simp[bV,bK,runB,Web.enc,W.t]
def p7(W:.ak)(h:Hd):.kT fF=.pj .aau:=by
 have z:.bt w.bars.length:=by have:=W.b;have:=W.sz;lia
 simp[fF,bK,runB,Web.enc,SZ,z]
def nT(W:.ak)(h:Hd):.kT c6=.pj .f0:=by
 have z:.bt w.stays.length:=by have:=W.s;have:=W.sz;lia
 simp[c6,bK,runB,Web.enc,SZ,z]
def KM(i:Nat)(r:.bW)(h:Hd):dj none .oZ .lj .R9 (dh .yz) .oZ [none,none,.aW] h=.v .rh:=by
 have:=.y9 bQ (all:=.oZ) (tg:=.lj) (cs:=.R9) (e:=dh .yz) (h:=h) (I:=λσ=>∃a b,σ=[a,b,.aW])
  (λd=>match d with | .tup [.int j,_]=>.D (.M i < j)|_=>false) (λd=>match d with | .tup [j,x]=>.E [.aG,j,x] | _=>.non) trivial (xs:=.oZ) (σ:=[none,none,.aW]) (by
  rintro x l σ ⟨a,b,rfl⟩;obtain⟨p,_,rfl⟩:=.ar l;exact .Wo (by by_cases c:i<p.1<;>simp[uj,c])) (.dk _)
 rw[.a9];congr 1;clear this
 induction r with
 |nil=>rfl
 |cons p r f =>
  unfold kf at f⊢
  by_cases c:i<p.1
  ·have k:.M i<.AH:=.b
   dsimp[xI,zVt,uj,y3 c,y3 k,zYh,xI]at f⊢;rw[f];rfl
  ·have k:¬.M i<.AH:=.b
   dsimp[xI,zVt,uj,z5 c,z5 k,zZf,zWd]at f⊢;rw[f]
def Fs(W:.ak)(n30:n<=30)(l:∀i,.s (.EI i)<=30)(h:Hd):.kT dw=.iX (.ah<|.Nn n):=by
 have J:.q8 1 (.rR .be) h=.nx (.sB none) .cS:=.k SZ
 obtain⟨σ',c,q,y,B,v⟩:=.Dx (λi σ c=>∃y,σ=.sB y/\c=.ah (.Nn i))
  .jY (tg:=gN 2) (h:=.cS) (b:=p6) (by
  rintro i d σ Q F ⟨y,rfl,rfl⟩;rw[wm] at *;obtain⟨p,rfl⟩:=jy F;have hit:i<w.ties.length:=.p W.t p
  obtain⟨r,a⟩:=qq<|.EI i;have f:w.ties[i]?=.a r:=by rw[a];simp[List.getD,hit]
  have O:r.length<=30:=.FO<|l i
  obtain⟨L,j⟩:=qq<|.Nn i;have N:.yU (30*30):=by
   have:=xh l i;rw[j,zST]
   lia
  have m:.s .rh<=30:=by
   have K:.s (kf i r)<=r.length:=.ah0
   rw[zST];lia
  have u:.Nn (i+1)=L++.rh:=by rw[jz,zBQ,<-j,<-a]
  rw[<-j,u];obtain⟨H,e⟩:=.iC<|.ah L;have x:.fM H=.x L:=.tb
  have C:H.set h.length (.hM L .rh)=.ah (L++.rh):=.tb
  have t:=yA w H f;have k:.SI (.sB .aW) H=.ok .rh H:=by
   have q:.P8 (.sB .aW) H=.nB .oZ H:=.bJ t AQ
   generalize .P8=I at q⊢;dsimp[cy,q,aE];exact KM i r H
  refine⟨_,rfl,.sB .aW,.ah<|L++.rh,?_,_,rfl,rfl⟩;show dR (.cA qp _) (.sB .aW) (.ah L)=_;rw[<-e,<-C];generalize .SI=E at k⊢;generalize .rh=M at k m⊢;have z:.bt (L.length+M.length):=.b
  simp[x,k,SZ,z])<|.hJ none<|.k jz
 have G : .AW .bp:=.b
 have o:.bt .bp:=.b
 have s:.Zx .nE p6 (.sB none) .cS=.nx σ' c:=by
  have q1:cT .nE (.sB none) .cS=.nB .gS .cS:=.jB (AX W) G o
  generalize cT .nE=I at q1⊢;dsimp[hZ,q1,aE];exact q
 have A:(.HR .q7++.hp (3 - .s .q7):Sd)=.rR .be:=rfl;unfold dw bK runB;rw[z3<|.d2<|.s .q7=1,A,cP J,cP s,B,v];simp
def kI(b:n<=30)(O:.dY)(lb:.j5)(ls:.he)(h:Hd):dw [.ih] h=.iX (.ah .PY):=by
 refine Fs (mT b O lb ls) b (λi=>?_) h
 by_cases a:i<n
 ·rw[Ph a,DU]
  have:=Nk O.lt O.un i
  lia
 ·simp[bH,List.getD,a]
/---/def inR(h:Hd)(x y:D):.py:=match jL h y with
 |some l=>match YO l with
  |some rs=>match YO [x] with
   |some [r]=>if ∀z∈rs,z.length=r.length then .a (.D<|r∈rs) else none
   |_=>none
  |none=>none
 |none=>none
noncomputable abbrev fR:ug:=[(.es,[]),(.ql,[.kE]),(.yo,[.kE]),(.x0,[.kE]),(.VS,[]),(.VM,[]),(.r3,[]),(.r4,[]),(.qm,[.kE,.kE]),(.me,[.kE,.kE]),(.i5,[]),(.eA,[.pF,.pF,.mA]),(.fc,[.pF,.mA]),(.gQ,[.pF,.gQ])]
/---/def mD:Fn:=.pa<|bJ .agZ
/---/def eU:Fn:=.hw<|bf<|aq aY<|.qn<|.ov<|.N<|aj lU .nE .aa
/---/def dN:Fn:=.hw<|.XV<|.o4 eU
/---/def ie:Fn:=.M1<|fT<|.lZ (.o4 eU)<|tE<|.ej (.o4 iR) .a1
/---/def fG:Fn:=.hw<|aA (.xR<|.BJ .list)
  (aA (.J9<|t5<|cy 1 [0] .BT (gN 0) []<|aq ie<|.qn .B8)
  (bf<|t5<|cy 1 [1] (cT<|.F0 .n6) (gN 0) [] .JN))
/---/def p8:Fn:=bK 1 3<|.lB .nE
  (.fe (bJ .agt)
  (.gK (.agm .ab8)
  (.gK .ag2
  (.gK (.cy qp<|.jy (eW .GT) .agM)
  (.Df bf)))))
/---/def gF:Fn:=bK 1 2<|aA .acm
  (aA (.J9 .ahS)
  (aA (.xR<|.b1<|t5<|.jy (.cA AA)<|aj OM (aa 0)<|.ae .Tc)
  (bf<|fT<|.BL .akt<|.ur .aO)))
/---/def ce:Fn:=bK 2 3<|.fe (bJ<|ou 32<|aa 1)
  (aA (sIf (.BL (.ej .zV<|aa 0)<|.b1<|t5<|.jy (eW .DB)<|.cs gF) (bf<|bJ am) aX)
  (bf<|bJ<|.jy (eW .DB) .Bw))
/---/def fS:Fn:=.M1<|fT<|.lZ (aj oLt .BR .vL)<|.BL (.fd 0<|bJ am)<|tE<|aj Zi (vn (.hN .Qj) pNo .Qm)<|.cA vn pNo .Qm
/---/def iU:Fn:=.hw<|aA (sIf (tOr (.ur .kE)<|lQ (.ur .gQ)<|.Dq .cc) (bf<|fC .dO) aX)
  (bf<|aq gF .nI)
noncomputable abbrev nU:SF:=(sIf (.Il 2) (dR<|.jU qp<|ae (.aag .vq)<|.N<|.aag<|.N .aa)<|.DN<|.aag .w5)
noncomputable abbrev yB:SF:=(.sF 3
  (aA (.F2 .BT nU)
  (.gX<|aa 3)))
/---/def fv:Fn:=bK 1 5<|.lB (bJ<|.N<|dh am)
  (aA (hZ (eW .nC) (gN 2) yB)
  (.cA bf))
/---/def ko:Fn:=bK 1 2<|aA (sIf (.Il 0) (bf<|bJ am) aX)
  (.lB (bJ<|.Bj .Dm<|.Bj .Do<|.G5 .Fh)
  (.lB (.MF<|.Bj .Dl<|.Bj .Eb<|.G5 .Fi)
  (.lB (.MF<|.Bj .D7<|.Bj .si<|.G5 [.tq,.tk,.ti,.tn,.tl,.qy,.to])
  (bf<|.MF<|.G5 .xT))))
/---/def iV:Fn:=.pa<|bJ<|ja .aga .als
noncomputable abbrev xi:SF:=(.LN .acK)
noncomputable abbrev DV:SF:=(.kn .ajH
  (.dW (.Ns oGt .a1) (.LN .acn) aX))
noncomputable abbrev xj:SF:=(.F2 (iP (.zr 3)<|aa 1) DV)
/---/def pd:Fn:=bK 1 7<|.lB .Dz
  (.fe (bJ<|.N<|.ck (.ae .DF)<|gg<|aa 1)
  (aA (.F1 (.cA cT) xj)
  (aA (.pe<|.cy ja .J8)
  (aA (.rJ (eW .nC) xi)
  (.Df bf)))))
/---/def gn:Fn:=.pa<|MU<|.jy (.dM eW) .Ac
/---/def jA:Fn:=bK 1 1<|aA (.DT<|.b1 .BF)
  (.Ao<|bJ<|ou 32<|aa 0)
/---/def dn:Fn:=.hw<|dF (.b1<|.o4 ly) (eA "NoStand") aX
/---/def io:Fn:=bK 2 3<|aA (dF (.ajC .agx) (eA "NoStand") aX)
  (.bI (.gG<|hU<|.Er .Bw)
  (.gK (aq dn<|.ut 2)
  (sPl .Hj)))
/---/def jB:Fn:=.pV<|aA (.pD .kE (bf<|aq io<|.ut 2) aX)
  (sPl<|bf<|fIf (tE<|.fd 2<|.ae .cc) .gr<|.cy o0)
/---/def gQ:Fn:=bK 3 5<|.aj9 (.DT .Vu)
  (.aj9 .adX
  (bf .aee))
/---/def mW:Fn:=.hw<|aA (dR<|.HS dn)
  (.Ao<|.gO (.o4 sE)<|aa 1)
/---/def gp:Fn:=.pV<|.gK (.HS dn)
  (.gK (aq dn<|.ut 2)
  (dF (tOr (.b1<|.o4<|.ku mW)<|.b1<|aq (.ku mW)<|.ki 2) (eA "NoRest") aX))
/---/def sF:Fn:=.pV<|.gK (.VA gp)
  kQ
/---/def Ft:Fn:=.pV<|.gK (.VA gp)
  kQ
/---/def fX:Fn:=.pV<|.P3 .ql
  (.P3 .x0
  (aA (.pD .qm (bf<|.Ka<|.JK sF) aX)
  (aA (.pD .me (bf<|.Ka<|.JK Ft) aX)
  kQ)))
/---/def sG:Fn:=bK 1 5<|.bI (.gX<|.cs mD)
  (.aox (.X4<|.W 9)
  kQ)
/---/def eX:Fn:=bK 1 1<|.aox (tE<|aj oGt (.vV<|.cs mD)<|.W 12)
  kQ
/---/def vI:Fn:=.pa<|rz<|.Mz eX
/---/def vJ:Fn:=bK 1 4<|.bI (.gX<|bJ am)
  (aA (sRz<|.Mz eX)
  kQ)
/---/def gq:Fn:=.hw<|.bI (.dW (.fd 1<|.ae .es) (bf<|.cs p8) aX)
  (.P3 .VS
  (.P3 .VM
  (aA (.pD .r3 (.amG vI) aX)
  (aA (.pD .r4 (.amG vJ) aX)
  (bf<|.Ka<|.Mz sG)))))
/---/def vK:Fn:=.hw<|aA (dF (.b1<|.o4 fG) (eA "NoPeople") aX)
  kQ
/---/def mi:Fn:=bK 2 5<|aA (.a3 2<|rz<|ae (.dM fPl)<|.FF<|.HS vK)
  kQ
/---/def eI:Fn:=.pV<|aA (.pD .Aa (bf<|rz<|rz<|aq mi<|.ut 2) aX)
  (aA (dF (tE<|RF<|Dx fR<|aa 1) (bf<|.HS gq) aX)
  (bf<|.VA fX))
/---/def kr:Fn:=bK 1 1<|aA .acA
  (aA (.DT<|tE<|E2 fR .je)
  (aA (.DT .agg)
  (.Ao<|Dx fR .je)))
/---/def jb:Fn:=bK 2 6<|.uu .MR
  (.bI .am6
  (aA (qt .BT (gN 3)<|.uu .Uk
  (.alQ
  (.bI (.fI<|.bE 3 .aa)
  (.aor
  (.ae3
  (sPl .Ts))))))
  (sPl .Hj)))
/---/def jc:Fn:=.hw<|.bI .agX
  (.uu .ang
  (aA (dF (.b1<|.MQ .DE) .Rj aX)
  (sPl .VL)))
/---/def eZ:Fn:=bK 4 6<|.uu .SR
  (.lC (.HS jb)
  (.bI (.fI<|hU<|.LP 4 .OF)
  (bf<|dh<|ae (fPl<|aa 5)<|ae (fPl .am7)<|.FF<|aq jc<|.ut 3)))
/---/def jV:Fn:=bK 3 4<|.W7
  (.bI (.jl .GT)
  (.bI .U0
  (.Tj<|ae (.cs dw)<|ae (.cs fF) .pR)))
/---/def jC:Fn:=bK 4 6<|.W7
  (.bI (dR<|.Kt dN)
  (.uu (tE<|.fd 1<|aa 2)
  (.bI (.a3 4 .aeg)
  (.bI (.fI<|bJ<|cy 1 [4] (eW<|.cs dw) (gN 0) .Jm<|aa 0)
  (.bI .adb
  (.Tj<|.aB 5<|ae (.cs fF)<|.N<|.cs c6))))))
/---/def kW:Fn:=bK 3 4<|.W7
  (.bI (.jl<|.cs fF)
  (.bI .U0
  (.Tj<|ae (.cs dw)<|.aB 3<|.N<|.cs c6)))
/---/def dP:Fn:=bK 3 3<|aA (.pD .eA (bf<|aq jC<|fPl<|.kI<|ae .zV<|ae (.bE 2 .aa)<|.N<|.bE 2 .ba) aX)
  (aA (.pD .fc (bf<|.JK kW) aX)
  (bf<|.JK jV))
/---/def cw:Fn:=bK 2 4<|aA (.KT jA)
  (aA .acB
  (aA (.af5<|.akv
  (sPl<|.mq bf .vJ))
  (bf<|.Sw eI)))
/---/def gR:Fn:=bK 1 2<|.bI (.anU .TX)
  (aA (.X7 .aoG)
  (.Ao .BR))
/---/def iW:Fn:=bK 2 5<|.bI (.pe am)
  (aA (qt (iP .aa .vK) (gN 3)<|.bI .SQ
  (.bI .Sy
  (.aj0
  .XI)))
  (sPl .Hj))
/---/def d6:Fn:=.hw<|aA (dF (tE<|.fd 1 .vK) (.Cr<|aa 1) aX)
  (.Ao .aaG)
/---/def jW:Fn:=bK 3 6<|.bI (.jl<|bJ am)
  (aA (qt .UA (gN 4)<|.kn .XE
  (.JW .X8
  .Uc))
  (sPl .Hw))
/---/def jd:Fn:=bK 3 6<|.bI (.jl<|bJ am)
  (aA (qt .UA (gN 4)<|.kn .Mk
  (.JW (zE .vy<|aa 5)
  (.Wk .vy)))
  (sPl .Hw))
/---/def kX:Fn:=bK 1 7<|aA (.X7<|.b1 .BF)
  (.bI (.gX .T3)
  (aA (.KT gR)
  (.pC .anr
  (.lC (aq jW<|fPl<|.TC .Dh)
  (.kn (aq jd<|fPl .aoU)
  (.bI (.aoe<|.cK .aa<|.xg 3)
  (aA (dF (.X4<|aa 6) (.Cr<|aa 6) aX)
  (.Ao<|aq (.ku eZ)<|.P1<|.aB 4<|.eo 5))))))))
/---/def bP:Fn:=.hw<|vh (.dM fPl)<|aq kX<|fPl .nI
/---/def eV:Fn:=bK 2 4<|.fe .gr
  (aA (RK 4 2 .adr<|dR<|AL cw (aa 0) .nI)
  (bf<|aq ko .w5))
noncomputable abbrev p9:SF:=(.fe (.uz .ac0)
  (.gG<|.uz .ac5))
/---/def jD:Fn:=bK 1 4<|.lB (aq gn<|.N<|.P4 .a1)
  (.fe (.acZ<|.ck (.ae .kD)<|aa 1)
  (aA .acU
  (.fe (.uz .aa5)
  (.fe (.uz .acq)
  (aA (.F1 (GY<|.Y [48,49]<|.Y [43,49]<|.Y [45,48]<|.Y [49,95,48]<|.Y [120]<|.Y []<|.Y [49,46,48]<|ae (.ez [49]<|.HH .aO<|.W 60)<|.Y [45,45,49]<|.it [49,10]) p9)
  .Hj)))))
/---/def ip:Fn:=bK 1 3<|.lB (gg .Dz)
  (aA .acY
  (bf<|.uz .act))
noncomputable abbrev rk:SF:=(.dW (.F6<|fAt (.hN .ba)<|aa 5) (aA .aiM
  (.DN .acy)) aX)
noncomputable abbrev mX:SF:=(sIf .ad2 (.gK (.jU i7<|.ez .ux<|aa 4)
  (.gK (.jU i7<|.ck .SO<|aa 2)
  (.DN<|.ck (.VH 2)<|aa 4))) aX)
/---/def iq:Fn:=bK 1 7<|.lB (.P4 .Qj)
  (.fe (aq gn .nI)
  (.sF 3
  (aA (.F2 .acs mX)
  (aA (hZ (cT .n6) (gN 5) rk)
  .Hw))))
noncomputable abbrev qv:SF:=(sIf .aim (.lC (aq gn .pR)
  (.gK (.cA i7<|.JR .SO)
  (dR<|.cA i7<|.JR<|.VH 4))) aX)
noncomputable abbrev qw:SF:=(.dW (.gO (fAt (.hN .ba)<|aa 2) .a1) (dR<|.cA i7 .ahM) aX)
/---/def iI:Fn:=bK 1 5<|.lB .adf
  (aA .ac7
  (aA (.Zx .Dz qw)
  (aA (.F1 (eW .an6) qv)
  (.cA bf))))
/---/def iJ:Fn:=bK 2 5<|.fe (.h0 dU .nH)
  (.pC (.h0 lV .nH)
  (aA (.dW (.fd 2 .l1) (.lC (.cs iI)
  (bf .KQ)) aX)
  (.lC .aks
  .acE)))
/---/def iK:Fn:=bK 2 6<|.fe .T3
  (.pC (.h0 dU .FG)
  (.lC (.aal 40<|.W 5)
  (aA .acQ
  (aA (.rr .a1 (.Nb .ac4) aX)
  (aA (.rr .aa (.Nb<|.ae .GR) aX)
  (aA (.rr .ba .aku aX)
  (aA (.rr .l1 (.fe (.uz<|.it .cc)
  (.fI<|.F0 .FG)) aX)
  (aA (.rr .nH (.Nb<|.ae .Bi) aX)
  .alF))))))))
/---/def dA:Fn:=bK 2 5<|.fe .gr
  (.pC .gr
  (aA .aeN
  (bf .acC)))
noncomputable abbrev SJ:SF:=(.gX<|aq o9<|.aB 0<|.hj 6)
noncomputable abbrev SK:SF:=(.gG<|.OS<|.N<|aq pd .nI)
noncomputable abbrev SM:SF:=(oV .vL .a1<|.cK (fAt .vL .a1) .aa)
noncomputable abbrev SN:SF:=(.dW (.ej (uf (.ku cw) (aa 2)<|.N<|.ck (.ae [98,97,114,32,48,32])<|gg<|fAt (.bE 1 .aa) .a1)<|.ae .vJ) .xS aX)
noncomputable abbrev SO:SF:=(.jl<|aq pd .nI)
noncomputable abbrev KN:SF:=(.kn (aq cH<|.ki 4)
  (aA .ajk
  (aA .acM
  (aA .afP
  .ajN))))
noncomputable abbrev ZW:SF:=(.F2 (iP .nH<|.W 20) KN)
noncomputable abbrev SQ:SF:=(.xR<|.b1<|aq dA<|.aB 10 .vq)
noncomputable abbrev SR:SF:=(hZ .adz (gN 10) SQ)
noncomputable abbrev SS:SF:=(.agT<|.ck (.ez (.z1 51)<|.HH .H4<|.W 13)<|.HH .Dc<|.W 12)
noncomputable abbrev SU:SF:=(sIf (tE<|.ej (.Yo<|.eo 6)<|.O1 .ba) .xS aX)
noncomputable abbrev SV:SF:=(.rJ (GY<|.Y .r3<|.Y .r4<|.Y .i5 am) SU)
noncomputable abbrev SW:SF:=(.agT<|.ck (.ez (.z1 48)<|.HH .H4<|.W 10)<|.HH .Dc<|.W 9)
noncomputable abbrev Nl:SF:=(bf<|fT<|.lZ (.gO (.Yo<|.it .i5)<|.O1 .ba)<|tE<|.gO (.Yo<|.it<|.uQ 49)<|aq iV .B1)
/---/def HR:Fn:=bK 1 12<|aA SJ<|aA SK<|aA SM<|aA SN<|aA SO<|aA ZW<|aA SR<|aA SS<|aA SV<|aA SW Nl
end Fm
namespace Fm
open PySem PySem.Spec L2
section
variable{P:P6}{w:P7}{K:zCM}{mg:Str->Option R0}{base h:Heap}{n:Str}{st:Stmt}{ps:List Str}{k np:Nat}{F:Fn}
def At.dx(a:.gF)(q:.iw)(ok:∀{f c},.hn c->.ym c)
  (i:.RE):.pn n:=by
 rw[.hD];rw[.VV (a.out X G)];rw[.cv j (.UV DefY.mk')]
def At.dx1(a:.gF)(q:.iw)(ok:∀{f e},.hn e->.ym e)(i:autoParam (.kt 1) Q3Q._auto_1)
  (j:autoParam (.RK) Q6Q._auto_1):.pn n :=
 .QM a.dx
def At.dx2(a:.gF)(q:.iw)(ok:∀{f g},.hn g->.ym g)(j:autoParam (.kt 2) Q3Q._auto_1)
  (m:autoParam (.RF) Q6Q._auto_1):.pn n :=
 .QH a.dx
def At.dx3(a:.gF)(q:.iw)(ok:∀{f i},.hn i->.ym i)(l:autoParam (.kt 3) Q3Q._auto_1)
  (p:autoParam (.RC) Q6Q._auto_1):.pn n :=
 .QG a.dx
def At.dx4(a:.gF)(q:.iw)(ok:∀{f j},.hn j->.ym j)(m:autoParam (.kt 4) Q3Q._auto_1)
  (s:autoParam (.ab3) Q6Q._auto_1):.pn n :=
 .aba a.dx
end
end Fm
set_option maxHeartbeats 4000000
namespace Fm
open PySem PySem.Spec L2
section
noncomputable abbrev cJ(i:Nat):Stmt := PySem.Challenge.pw_followmost_k54_desk_rows_refused.main.body.getD i<|.Pass ⟨0, 0, 0, 0⟩
noncomputable abbrev AY:Stmt:=cJ 12
noncomputable abbrev vL:Stmt:=cJ 13
noncomputable abbrev vM:Stmt:=cJ 14
noncomputable abbrev HS:Stmt:=cJ 29
noncomputable abbrev qa:Stmt:=cJ 28
noncomputable abbrev yC:Stmt:=cJ 30
noncomputable abbrev qb:Stmt:=cJ 31
noncomputable abbrev AZ:Stmt:=cJ 18
noncomputable abbrev DW:Stmt:=cJ 19
noncomputable abbrev DX:Stmt:=cJ 20
noncomputable abbrev HU:Stmt:=cJ 21
noncomputable abbrev DY:Stmt:=cJ 22
noncomputable abbrev DZ:Stmt:=cJ 23
noncomputable abbrev A3:Stmt:=cJ 24
noncomputable abbrev D1:Stmt:=cJ 25
noncomputable abbrev SX:Stmt:=cJ 33
noncomputable abbrev ox:Stmt:=cJ 35
noncomputable abbrev yD:Stmt:=cJ 26
noncomputable abbrev yE:Stmt:=cJ 27
noncomputable abbrev D2:Stmt:=cJ 36
noncomputable abbrev D3:Stmt:=cJ 37
noncomputable abbrev D4:Stmt:=cJ 38
noncomputable abbrev rl:Stmt:=cJ 43
noncomputable abbrev uv:Stmt:=cJ 40
noncomputable abbrev uw:Stmt:=cJ 41
noncomputable abbrev rm:Stmt:=cJ 42
noncomputable abbrev zM:Stmt:=cJ 45
noncomputable abbrev qy:Stmt:=cJ 50
noncomputable abbrev qz:Stmt:=cJ 49
noncomputable abbrev Fu:Stmt:=cJ 47
noncomputable abbrev rn:Stmt:=cJ 48
noncomputable abbrev A4:Stmt:=cJ 53
noncomputable abbrev xk:Stmt:=cJ 60
noncomputable abbrev lA:Stmt:=cJ 72
noncomputable abbrev Fv:Stmt:=cJ 65
noncomputable abbrev Fw:Stmt:=cJ 66
noncomputable abbrev oy:Stmt:=cJ 69
noncomputable abbrev A5:Stmt:=cJ 67
noncomputable abbrev SY:Stmt:=cJ 68
noncomputable abbrev A6:Stmt:=cJ 78
noncomputable abbrev yF:Stmt:=cJ 82
noncomputable abbrev ph:Stmt:=cJ 89
noncomputable abbrev rp:Stmt:=cJ 83
noncomputable abbrev tN:Stmt:=cJ 85
noncomputable abbrev rq:Stmt:=cJ 84
noncomputable abbrev xl:Stmt:=cJ 88
noncomputable abbrev rA:Stmt:=cJ 86
noncomputable abbrev qc:Stmt:=cJ 87
noncomputable abbrev ux:Stmt:=cJ 79
noncomputable abbrev mj:Stmt:=cJ 80
noncomputable abbrev qd:Stmt:=cJ 81
noncomputable abbrev fH:Stmt:=inS (cJ 92) 0
noncomputable abbrev uy:Stmt:=cJ 93
noncomputable abbrev uz:Stmt:=cJ 97
noncomputable abbrev vN:Stmt:=cJ 96
noncomputable abbrev rC:Stmt:=cJ 95
noncomputable abbrev jq:Stmt:=cJ 102
noncomputable abbrev gS:Stmt:=cJ 101
noncomputable abbrev lB:Stmt:=cJ 100
noncomputable abbrev A7:Stmt:=cJ 99
noncomputable abbrev xm:Stmt:=cJ 94
noncomputable abbrev oz:Stmt:=cJ 98
noncomputable abbrev kt:Stmt:=inS (cJ 92) 1
noncomputable abbrev yG:Stmt:=cJ 105
noncomputable abbrev A8:Stmt:=cJ 106
noncomputable abbrev qe:Stmt:=cJ 107
noncomputable abbrev yH:Stmt:=cJ 109
noncomputable abbrev tO:Stmt:=cJ 111
noncomputable abbrev qf:Stmt:=cJ 112
noncomputable abbrev A9:Stmt:=cJ 113
noncomputable abbrev yI:Stmt:=cJ 114
noncomputable abbrev vO:Stmt:=cJ 115
noncomputable abbrev mY:Stmt:=cJ 116
noncomputable abbrev mZ:Stmt:=cJ 117
noncomputable abbrev ku:Stmt:=cJ 118
noncomputable abbrev kx:Stmt:=cJ 119
noncomputable abbrev jX:Stmt:=cJ 120
noncomputable abbrev rE:Stmt:=cJ 121
noncomputable abbrev ng:Stmt:=cJ 122
noncomputable abbrev i5:Stmt:=cJ 123
noncomputable abbrev Ba:Stmt:=cJ 124
noncomputable abbrev HV:Stmt:=Fy.inC (cJ 9) 0
def ZX:bn (.nh "line") (.nh "line") (aD HV):=fsc
variable{P:P6}{w:P7}{K:zCM}{mg:Str->Option R0}{base:Heap}{f:Addr}{fd:FuncData}
def HW(a:.lq)(c:.eg "bool")(b:.AJ):.aT "is_whole" AY 1 .GJ gM 1:=okd .GJ λe d=>(.az<|MB.me<|.wR (.yb .int a rfl b .ac<|mv 0)<|om<|YT<|ju<|.yb .bool a rfl c .ac<|mv 0)
def Ct(b:.jd "is_whole" gM):.aT "is_between" vL 2 .alg aY 3:=okd .alg λa c=>(.az<|MB.me<|.wR (.ig b)<|.wQ<|Q2 Xy Xy t8 t8 (mv 1) (mv 0)<|mv 2)
def Cu(a:.up):.aT "is_opinion" vM 3 .GJ cr 1:=okd .GJ λb c=>(.az<|aB a b<|.nO<|ag au .e5)
def Pi(h:.c8)(i:.lq)(e:.m1){d:Tok}(g:mg "MOST_WEIGHT"=.a (.e 400 d))(a:.up):.aT "is_tie" HS 3 ["many","thing"] fO 2:=okd ["many","thing","one","other"] λb c=>(.adu (.h7 c (.m6 h) au<|aP _)
  (.cr .s5
  (.cr .s5
  (.J6 (.iI<|oX (.agu 2)<|.pT<|.agu 3)
  (.az<|MB.me<|.wR (gH (gJ c) jO (mv 2) (mv 3)<|aP _)<|.wQ<|aB a b .afV)))))
def tP:bn ["many","ties","near","tie","one","other"] ["many","ties"] (aD qa):=fsc
def FA(d:.m1)(g:.AM)(a:.c8)(e:.lq)(c:.zI)(i:.jd "is_whole" gM):.aT "bars_told" yC 2 ["near","bars"] kT 2:=okd ["near","bars"] λh b=>(.aaJ (.xF 1)
  (.aaJ (.iI<|oX (.cl<|.Oa e c .ac<|mv 1)<|.pT<|.h7 b (.m6 a) (.hd a<|.g9 dv)<|aP _)
  (.aaJ (.cl<|.ab ue g<|iF<|fg ["bar"] .Hy<|.fa<|aB i h .gf)
  (.az<|.nY d<|dv<|mv 1))))
def Cv:bn .XR .XR (aD qb):=fsc
def D5:bn ["many","ties","bars","stays","near","rows"] .aiG (aD AZ):=fsc
def KO(a:.c8):.aT "many_of" DW 1 .dS bV 1:=okd .dS λc b=>(.az<|.hd a<|dv .ii)
def KP:.aT "ties_of" DX 1 .Ms im 2:=.Sx
def Pj:.aT "bar_of" HU 1 .Ms vB 2:=.Sx
def KQ:.aT "stay_of" DY 1 .Ms iR 2:=.Sx
def KR(a:.zI):.aT "bars_of" DZ 1 .dS fF 1:=.aey
def HX(a:.zI):.aT "stays_of" A3 1 .dS c6 1:=.aey
def KS(b:.eg "enumerate")(a:.D8):.aT "free_of" D1 2 .dS mD 1:=okd .dS λc d=>(.az<|bN<|.pI RB ["person","stay"] [] [] rfl .Om (RA rfl b<|aB a c .gf)
   (λg C s H e=>⟨.su,(zD<|.xF 1),(mv 0)⟩))
def Wh(j:.eg "enumerate")(h:.c8)(i:.lq)(e:.m1)(c:.XQ)(g:.amf)(d:.rA):.aT "fits" SX 4 .kg ly 2:=okd ["web","thing","person","opinion","stay"] λa b=>(.adu (.h7 b (.m6 h) (.ig d)<|aP _)
  (av (gc zZa rfl (Vy rfl j<|mv 1) .su<|.HM (.cj g .B0)
  (.UR c
  (aC<|cQ (.iI<|J2 (.MB<|mv 4)<|i3 (.h7 b (mv 3) (mv 4)<|aP _) .b5) (.az jM) bI)))
  (.az jM)))
def Bb:bn .kg .kg (aD ox):=fsc
def FC(d:.gC)(c:.rA)(b:.px "ties_of" im):.aT "ties_once" yD 2 .dS dw 1:=okd ["web","ties","one"] λa e=>(.cr .m2
  (av (.gH (.jr d<|.ig c)<|aC<|c9<|.mx vf<|.pI nK ["other", "weight"] ["one"] [2] rfl .xW (fD<|.cj b .pS)
   (λh C s H g=>⟨.su,(zD<|bc GS t8 (mv 2) (mv 0)<|aP _),(eS<|.a4 2 .ko)⟩))
  (.az<|mv 1)))
def FD(c:.up)(b:.rA):.aT "is_person" yE 3 .kg eU 2:=okd .kg λa d=>(aC<|aU<|.cj c<|.a4 1<|ag au<|ag (.uF<|.ig b) ao)
def KU(c:.eg "sum")(b:.px "ties_of" im):.aT "pull_at" D2 2 .Ud sD 3:=okd .Ud λd a=>(.az<|.o3 au<|.ab Ka c<|iF<|.pI nK ["other","weight"] ["stand"] [1] rfl .xW (fD<|aB b d .pS)
   (λg C s H e=>⟨.su,(zD<|.jX a (.rD 0) au<|aP _),(mv 1)⟩))
def KY(d:.px "bar_of" vB)(e:.a6 "pull_at" 2 3 sD)(c:.XQ):.aT "next_at" D3 3 .Ud mB 3:=okd ["web","stand","person","stay","strength","bar"] λa b=>(.UR c
  (av (cQ (.MB<|mv 3) (.az<|mv 3) bI)
  (av (aL<|.cj e .aaE)
  (.UR d
  (av (cQ (.jX b (mv 4) (mv 5)<|aP _) (.az<|.Gg<|mv 2) bI)
  (.az<|Mu (.vH (mv 4) (mv 5)<|aP _) au au))))))
def KZ(d:.m1)(e:.gC)(c:.rA)(b:.a6 "next_at" 3 3 mB):.aT "turn_at" D4 4 .ze sE 2:=okd .ze λa h=>(.az<|.nY d<|iF<|.pI nK .Pg (.qI "stand") [0,1] rfl (dE.a<|.OV .DD) (eQ rfl e<|.ig c)
   (λg C s H i=>.fa<|.cj b<|.a4 1<|.a4 2 .gf))
def yZ(a:.UD):.aT "check_person" rl 4 .kg dN 2:=okd .kg λb c=>(aC<|cQ (.cl<|aB a b .ko) (aC EL) bI)
def yJ:bn ["web","one","other","weight","pair","ties"] .aiH (aD uv):=fsc
def HY:bn ["web","person","bar","bars"] (.M7 "bar") (aD uw):=fsc
def FE:bn ["web","person","stay","stays"] (.M7 "stay") (aD rm):=fsc
def xo(c:.XQ)(d:.UD):.aT "may_be_chosen" qy 4 .kg ie 2:=okd .kg λa b=>(.az<|MB.me<|.wR (.cj d .ko)<|.wQ<|gH (gJ b) jO (.cj c .ko) au<|aP _)
def xq(a:.AM)(i:.gC)(c:.c8)(d:.lq)(j:.zI)(e:.a6 "may_be_chosen" 4 2 ie):.aT "are_choosable" qz 5 .kg fG 2:=okd .kg λg k=>(.HM (.Oa d j .ac<|mv 1)
  (.HM (.ab ue a<|iF<|.pI nK .Pg .dS [0] rfl .xW .Hy
   (λb C s H h=>.fa<|aB e g<|.a4 1 .gf))
  (.az<|.ab ue a<|iF<|.pI nK ["place"] .GJ [1] rfl (dE.a .DD) (.jr i<|.uF<|.m6 c)
   (λb C s H h=>.fa<|gH GS t8 (.Gg<|mv 0) (.Gg<|.hB (mv 0) au)<|aP _))))
def S1:bn .Fj .Fj (aD Fu):=fsc
def vP:bn ["web","some","end","word","stands"] .Fj (aD rn):=fsc
def Pk:bn ["web","free","known","some","tree"] .dS (aD A4):=fsc
def K0:bn .ze .ze (aD xk):=fsc
def xr:bn .dS .dS (aD lA):=fsc
def S2:bn .dS .dS (aD Fv):=fsc
def S3:bn ["web","found","one","other"] .dS (aD Fw):=fsc
def Bc:.Y2 oy:=fsc
def Pl:.Y2 A5:=fsc
def ZY:.Y2 SY:=fsc
def HZ(e:.D8)(c:.L0)(d:.KH)(b:.rA):.aT "show_web" A6 3 .dS p8 1:=okd ["web","many","lines"] λa g=>(av (aL<|.ig b)
  (.cr (.M5<|MY<|jj (.Z .DF)<|jj (wV<|mv 1) E7)
  (.Xg (fg ["one", "other", "weight"] (fD<|.ig d) ⟨(.QK<|cU aJ jP),dB,(MY<|jj (.Z .jh)<|jj (.g9 wV)<|jj .Qp<|jj (.mx wV)<|jj .Qp<|jj (.fX wV) E7)⟩)
  (.Xg (fg ["bar"] (fD<|.ig c)<|.fa<|.an5 .iH)
  (.Xg (fg ["stay"] (fD<|.ig e)<|.fa<|Mu (.xF 0) (.Z .cc)<|.an5<|.oP 116)
  (.az .TT))))))
def FF(i:.AM)(e:.c8){d:Tok}(g:mg "FIGURES"=.a (.afS d)){h:Tok}(c:mg "MOST_FIGURES"=.a (.e 60 h))(b:.up):.aT "is_number" yF 3 ["text"] gF 1:=okd ["text","figures"] λj a=>(.cr (Mu (cX<|.g9 DE<|.Z [45]) (.g9 ON (mL au) mK)<|mv 0)
  (.HM (aB b j<|ag (VL rfl e<|mv 1)<|.aaI c)
  (.HM (.ab ue i<|iF<|.VI<|.fa<|.g9 Zp (R5 .Tc rfl rfl g) rfl)
  (.az<|MB.me<|Q1 (ju<|gH (gJ a) jO (.mx Zm au .bu) .PE<|aP _)<|.wQ<|.TQ .PE))))
def vQ(b:.AJ)(e:.AM)(d:.amw):.aT "numbers_behind" ph 4 ["word","line"] ce 2:=okd ["word","line","words"] λg a=>(.cr (bN<|vt (c:=32) rfl<|mv 1)
  (av (cQ (.iI<|oX (.h7 a (.mu 2) (mv 0)<|aP _)<|.pT<|.cl<|.ab ue e<|iF<|.afA ⟨aJ,dB,(aB d g .gf)⟩) (.az .m2) bI)
  (.az<|bN<|.afA<|.fa<|zH rfl b<|mv 0)))
def FH:bn ["lines","numbers"] ["lines"] (aD rp):=fsc
def Be:.aT "is_next_tie" tN 1 ["ties","tie"] fS 2:=okd ["ties","tie"] λb a=>(.az<|MB.me<|.wR (gH GS t8 .s5 .s5<|aP _)<|om<|Q1 (ju<|.TQ .m2)<|.wQ<|gH (YG b.units0) Zj (DC (.AC va) mK<|mL au) (.mx DC mK<|mL au)<|aP _)
def FI:bn ["lines","many","ties","place","tie"] ["lines","many"] (aD rq):=fsc
def K1:bn .W9 .W9 (aD xl):=fsc
def vR:bn ["lines","start","many","bars","place","numbers"] .Kr (aD rA):=fsc
def tQ:bn ["lines","start","many","stays","place","line"] .Kr (aD qc):=fsc
def kY:bn ["text","lines","many","ties","bars","stays","end"] ["text"] (aD ux):=fsc
def Cw:bn ["web","text","stand"] (.qI "text") (aD qd):=fsc
def xt:bn .Pe .Pe (aD fH):=fsc
def Ia:bn ["row"] ["row"] (aD uy):=fsc
def Ib:bn .UK .UK (aD uz):=fsc
def Cy(b:.amw):.aT "is_written" vN 4 ["kind","word"] iU 2:=okd ["kind","word"] λc a=>(.J6 (MW.mt<|oX (.ao2 .kE)<|.pT<|.iI<|J2 (.ao2 .gQ)<|i3 (.oW a (.Z .cc)<|aP _) .b5)
  (.az<|aB b c .s6))
def FJ:bn ["web","form","words","kind","word"] .amE (aD rC):=fsc
def sV:bn .Um .Um (aD jq):=fsc
def xu:bn .Z2 .Z2 (aD lB):=fsc
def Pm:bn .xE .xE (aD A7):=fsc
def K2:bn ["words"] ["words"] (aD xm):=fsc
def Bf:bn .xE .xE (aD oz):=fsc
def rF:bn ["self","row","words","things"] (.nh "row") (aD kt):=fsc
def FK(a:.c8):.aT "_law_cell" yG 1 (.Nl "_law_k") cH 2:=okd (.Nl "_law_k") λc b=>(av (cQ (bc GS t8 (mv 1) (.M9 a)<|aP _) (.az<|.AC<|mv 1) bI)
  (.az<|.hB (.o3 (.HK 1)<|mv 1)<|.HK 1))
def Ic(b:.gC):.aT "_law_row" A8 1 ["_law_cell_here","_law_way","_law_many","_law_base"] gP 4:=okd ["_law_cell_here","_law_way","_law_many","_law_base","_law_found","_law_number","_law_k"] λc a=>(.cr .m2
  (av (.g9 aL)
  (av (.aiB (aC<|aL<|.AE (.o3 (.xP 0 au) au) au) bI)
  (av (.gH (.jr b<|mv 2)<|aC<|.aiB (.cr (.AE (.hB (.hB (.hB (.o3 (mv 5)<|mv 5)<|.HK 5)<|.HK 6) au) au)
  (aC<|c9<|iG (mv 4)<|.xs 5<|mv 3))<|av (c9<|iG (mv 4)<|.xP 5<|mv 3)
  (aC<|aL<|bF i9 oj (mv 5)<|mv 3))
  (.az<|mv 4)))))
def oA:bn .abe (.Nl "_law_most") (aD qe):=fsc
def Cz(c:.gC)(j:.eg "sum")(k:.eg "max")(d:.a6 "_law_row" 1 4 gP)(b:.px "_law_cell" cH):.aT "_law_model" qe 2 (.Nl "_law_most") o9 2:=okd .abe λa e=>(.cr (.cj b<|.nO .e5)
  (.cr (.hB au<|.xs 2<|mv 1)
  (av (.WA 4 (own:=["_law_one"]) (capn:=["_law_many"]) (caps:=[3]) rfl .xW (.jr c<|mv 3)
   (.Xi<|bN<|Rv (ck .e5<|.ru<|.Kn bh)<|mv 1))
  (.SB (ag (.o3 (mv 3)<|mv 3) .e5)
  (av (.Yy 3<|aC<|.Yy 6<|.cr (.ab Rw k au<|.uF .agr)
  (.VO (aC<|aL<|Ao (ck (ag au<|ag au<|.MC<|.MC .e5)<|.ru .aoX) (.AE .agr au) .bu)
  (av (pM (mv 8) (.yN 4)<|mv 7)
  (aC<|pM (mv 8) (.tu 4 (mv 7) .bu)<|mv 6))))
  (av (.WA 9 (own:=["_law_row_here"]) (capn:=[]) (caps:=[]) rfl .Om (fD<|mv 4)
   (.Xi<|.ab Ka j<|.g9 dv))
  (.VO (.SB (.a4 3 .e5)
  (aC<|.Yy 3<|aC<|pM (Ao (ck (ag (.uF<|.tu 10 (mv 6) .bu)<|.fV<|.uF<|bF eE ge (bi (mv 9) (mv 6) .bu)<|.AE (bi (mv 10) (mv 6) .bu) au) .T8) (.xs 2 au) .bu) (mv 9)<|mv 6))
  (.cr (bN<|Rv (.acu<|.fV eu)<|mv 3)
  (.VO (.SB (.a4 3 .e5)
  (aC<|.WA 11 (own:=["_law_number"]) (capn:=[]) (caps:=[]) rfl .Om (fD<|mv 5)
   (.Xi<|Ao (ck (.MC<|ag eu<|ag eu<|ag eu<|ag eu<|.fV eu) λ_ _ _ _ z=>by rw[.eV .aoX]) (mv 0) .bu)))
  (.az<|eS<|.a4 4<|.a4 9<|.hi 11))))))))))
def FM(c:.m1)(b:.gC)(a:.c8)(d:.eg "sum"):.aT "_law_turn" yH 1 ["_law_model_here","_law_stand"] pc 2:=okd ["_law_model_here","_law_stand","_law_tied","_law_levels","_law_holders","_law_found","_law_one","_law_force","_law_held"] λg h=>(av (.g9 Kb<|.QK<|cU aJ jP)
  (.cr .m2
  (av (.gH (.jr b<|dq rfl a<|.ni dv)<|.cr (.o3 au<|.ab Ka d<|iF<|.pI nK ["_law_other"] ["_law_stand", "_law_tied", "_law_one"] [1,2,6] rfl (dE.a<|.OV<|.OV .DD) (.jr b<|.hd a<|.ni dv)
   (λe C s H i=>.fa<|.o3 (bi (.rD 3) (mv 0) .bu)<|.Gg<|mv 0))
  (.cr (.yN 1)
  (av (cQ (.vH (mv 7) (.yN 3)<|aP _) (aC<|aL au) bI)
  (av (cQ (bc GS t8 (mv 7) (.yN 3)<|aP _) (aC<|aL au) bI)
  (av (cQ (.MB<|.yN 4) (aC<|aL<|.yN 4) bI)
  (aC<|c9<|iG (mv 5)<|mv 8))))))
  (.az<|.nY c<|dv<|mv 5))))
def Bg:.aT "_law_stands" tO 1 .qO fv 1:=okd ["_law_model_here","_law_found","_law_holder","_law_longer","_law_stand"] λb a=>(.cr (.M5<|eS ao)
  (av (.gH (fD .ii)<|.cr .m2
  (av (.gH .Hy<|aC<|cQ (.xF 2) (aC<|c9<|.ni vf<|ck (ag (.V8 .e5)<|ag (.V8 .e5) ao) .T8)<|aC<|.z5<|.V8 .w2)
  (aC<|.ni aL)))
  (.az<|mv 1)))
def kJ:bn ["_law_error","_law_some"] ["_law_error"] (aD qf):=fsc
def CA(F:.aj "_law_class" "_law_class" qf f fd)(e:.lq)(G:.eg "ValueError"){m:Addr}(V:mg "TooLong"=.t m){p:Addr}(B:mg "NoOrder"=.t p){q:Addr}(O:mg "NoWeb"=.t q){k:Addr}(R:mg "NoText"=.bZ){o:Addr}(W:mg "NoRow"=.t o){j:Addr}(t:mg "NoPeople"=.t j){h:Addr}(J:mg "TooMuch"=.t h){n:Addr}(Z:mg "NoRest"=.t n){l:Addr}(Q:mg "NoStand"=.t l)(L:.Ce .L2 .xT)(I:.gE m .si)(X:.gE p .si)(x:.gE q .D7)(S:.gE k .Fi)(T:.gE o .Eb)(M:.gE j .Dl)(Y:.gE h .Fh)(U:.Ce .aK .Do)(N:.gE l .Dm):.o0 1 fd ["_law_error"] (.mc ko 1):=by
 refine yp F kJ λy A r s H E D=>?_;have hu:=fV D;rw[.V]
 ·refine .DO<|.xF 0
  ·refine aC ?_
   rw[.da aU (bN ?_)];refine .rf
   rotate_left
   ·rw[.pK (bh a b c d z) g]
   exact ao
  exact bI
 rw[.V]
 ·rw[.kX 1]
  ·exact kJ.nd
  ·rfl
  ·first|rw[.fg]|rw[.b2]
  rotate_left
  ·rfl
  ·rw[.b2]
  rw[.hE]
  rotate_left
  ·rw[.pK .N1 g]
  rw[.r]
  ·exact(.H8 .Dm .hK rfl rfl e (.sN l Q rfl .c) N<|mv 0)
  rotate_left
  ·rfl
  rw[.r]
  ·exact(.H8 .Do .aK rfl rfl e (fA (v:=.aK) rfl Z rfl .c) U<|mv 0)
  rotate_left
  ·rfl
  rw[.r]
  ·exact(.Ie .Fh h rfl rfl e (.sN h J rfl .c) Y<|mv 0)
  rotate_left
  ·rfl
  exact ao
 rw[.V]
 ·rw[.kX 1]
  ·exact kJ.nd
  ·rfl
  ·first|rw[.fg]|rw[.b2]
  rotate_left
  ·rfl
  ·rw[.b2]
  rw[.oc]
  ·exact(mv 1)
  rw[.hE]
  rotate_left
  ·rw[.pK .N1 g]
  rw[.r]
  ·exact(.Ie .Dl j rfl rfl e (.sN j t rfl .c) M<|mv 0)
  rotate_left
  ·rfl
  rw[.r]
  ·exact(.Ie .Eb o rfl rfl e (.sN o W rfl .c) T<|mv 0)
  rotate_left
  ·rfl
  rw[.r]
  ·exact(.H8 .Fi .hG rfl rfl e (.sN k R rfl .c) S<|mv 0)
  rotate_left
  ·rfl
  exact ao
 rw[.V]
 ·rw[.kX 1]
  ·exact kJ.nd
  ·rfl
  ·first|rw[.fg]|rw[.b2]
  rotate_left
  ·rfl
  ·rw[.b2]
  rw[.oc]
  ·exact(mv 1)
  rw[.hE]
  rotate_left
  ·rw[.pK .N1 g]
  rw[.r]
  ·exact(.Ie .D7 q rfl rfl e (.sN q O rfl .c) x<|mv 0)
  rotate_left
  ·rfl
  rw[.r]
  ·exact(.al5 p (.sN p B rfl .c) X<|mv 0)
  rotate_left
  ·rfl
  rw[.r]
  ·exact(.al5 m (.sN m V rfl .c) I<|mv 0)
  rotate_left
  ·rfl
  exact ao
 rw[.qr (aU ?_)];rw[.oc]
 ·exact(mv 1)
 rw[.hE]
 rotate_left
 ·rw[.pK (.qk bh) g]
 rw[.r]
 ·exact(.H8 .xT .L2 rfl rfl e (Mj (v:=.L2) (u:=.Ij) rfl G .ac rfl) L<|mv 0)
 rotate_left
 ·rfl
 exact ao
def Ie(b:.gC):.aT "_law_due" A9 1 ["_law_k"] iV 1:=okd ["_law_k"] λe a=>(.az<|bN<|ji (bN<|.pI nK ["_law_j"] ["_law_k"] [0] rfl (dE.a .DD) (.jr b au)
   (λd C s H c=>.fa<|.TQ<|mv 1))<|.M5 jM)
def FN(a:.nl)(c:.AJ)(b:.gC)(d:.c8):.aT "_law_text" yI 1 .qO pd 1:=okd ["_law_model_here","_law_many","_law_lines_here","_law_one","_law_other","_law_heavy","_law_holder"] λg e=>(.cr (.hd d<|dv .ii)
  (.cr (.M5<|bj (.Z .DF)<|.zf 1)
  (av (.gH (.jr b<|mv 1)<|aC<|.gH (oY rfl b (.hB (mv 3) au)<|mv 1)<|.cr (bi (bi .ii (mv 3) .bu) (mv 4) .bu)
  (aC<|cQ (.vH (mv 5) au<|aP _) (aC<|.NY<|vq (sp:=.cL) rfl<|iF<|ck (.BO .eA<|ag (.zf 3)<|ag (.zf 4)<|.fV<|.zf 5) .ao3) bI))
  (.cr (bN<|.fX ji<|bN<|fg ["_law_level"] (fD .ii)<|.fa<|bj (.Z .iH)<|.zf 0)
  (av (.gH (fD .ii)<|aC<|.NY<|Ao (ck (.BO .cc<|.fV<|bj (.Z<|.oP 116)<|VX rfl a<|mv 6) .T8) (Vo rfl c<|gH sf mr (mv 6) eu<|aP _) .bu)
  (.az .TT))))))
def CB(a:.nl):.aT "_law_signs" vO 1 ["_law_stand"] gn 1:=okd ["_law_stand"] λc b=>(.az<|VI rfl<|iF<|fg ["_law_held"] (.g9 fD)<|.fa<|.zf 0)
def y6:bn .adI .ajc (aD mY):=fsc
def FO(k:.aj "words_of" "words_of" uy f fd)(g:.lq)(d:.nl){j:Addr}(l:.Q5 j):.ce 3 ["row"] (.bG jA 1):=by
 refine .cq k Ia λb A a s H E i => ?_;have o:=fV i;exact(.aQ (.d4 (.cl<|.yb .str g rfl d .ac<|mv 0) (.cW<|.rP "NoRow" l zi rfl rfl λe m h=>bW h) nss_nil)
  (.cW<|ns_of<|aU<|.UH 32))
def y7(g:.aj "check_stand" "check_stand" ox f fd)(a:.a6 "fits" 4 2 ly){i:Addr}(j:.IK "NoStand"):.ce 5 .kg (.bG dn 2):=by
 refine .cq g Bb λd A b s H E c=>?_;have l:=fV c;exact(.cW<|.d4 (.cl<|aB a c .ko) (.acb "NoStand") nss_nil)
def Bh(o:.aj "read_stand" "read_stand" qd f fd)(m:.AM)(l:.lq)(j:.nl)(i:.m1)(g:.AJ)(q:.Ua){p:Addr}(k:.A0 "NoStand" p sU "ValueError.__new__" mg base):.ce 6 (.qI "text") (.bG io 2):=by
 refine .cq o Cw .UL;have r:=fV b;exact(.aQ (.d4 (.iI<|oX (.cl<|.yb .str l rfl j .ac<|mv 1)<|.pT<|.cl<|.ab ue m<|iF<|.VI ⟨aJ,dB,(gH Dn XB (mv 0) (eS<|ag (.Z .aO)<|.H3 [49]) rfl)⟩) (.cW<|.rP "NoStand" k zi rfl rfl .Zl) nss_nil)
  (.BM (.nY i<|iF<|.VI<|.fa<|zH rfl g<|mv 0)
  (.aQ (nP<|.xp q (.d1 .pS) .yg mkFn_ne)
  (.uT<|.fX aU))))
def FP(i:.aj "thing_of" "thing_of" uz f fd)(e:.AJ)(g:.cD "read_stand" 6 2 io):.ce 7 .UK (.bG jB 3):=by
 refine .cq i Ib .UL;have c:=fV b;exact(.aQ (.d4 (.oW c (.Z .kE)<|aP _) (.cW<|gh<|.xp g (.d1 .pS) .ZQ mkFn_ne) nss_nil)
  (.uT<|aU<|Mu (.jX c (mv 2) (.Z .cc)<|aP _) eu<|zH rfl e<|mv 2))
def CC(r:.aj "things_of" "things_of" rC f fd)(c:.eg "zip")(j:.AJ)(q:.a6 "is_written" 4 2 iU)(p:.UD)(g:.cD "thing_of" 7 3 jB){m:Addr}(t:.Q5 m){l:Addr}(k:.A0 "NoPeople" l sU "ValueError.__new__" mg base):.ce 8 .amE (.bG gQ 3):=by
 refine .cq r FJ λi A d s H E a => ?_;have o:=fV a;exact(.aQ (.aeH<|.cW<|.d4 (.cl<|.cj q<|.a4 3<|.hi 4) (.cW<|.rP "NoRow" t zi rfl rfl<|.GB bW) nss_nil)
  (.aQ (.aeH<|.cW<|.d4 (.iI<|J2 (.jX o (mv 3) (.Z .pF)<|aP _)<|i3 (.cl<|.cj p<|.nO<|.fV<|zH rfl j<|mv 4) .b5) (.cW<|.am1 k<|.GB bW) nss_nil)
  (.cW<|gh<|ZM<|.pI Sv ["kind", "word"] .dS [0] rfl rfl rfl (.GB ZJ) .xW .ami
   (λu C s H x=>⟨.su,(.hZ g (.d1<|.a4 2 .ko) (λv b h=>h.unwish) mkFn_ne)⟩))))
def Ig(g:.aj "is_rest" "is_rest" xk f fd)(e:.a6 "turn_at" 4 2 sE)(i:.Ua):.ce 6 .ze (.bG mW 2):=by
 refine .cq g K0 .UP;have d:=fV a;exact(.aQ (nP<|.hZ i .PA .ZQ mkFn_ne)
  (.cW<|ns_of<|aU<|.Gw d (.cj e .ko) (mv 1)<|aP _))
def y8(j:.aj "check_rests" "check_rests" oy f fd)(d:.a6 "is_rest" 6 2<|.ku mW)(g:.Ua){k:Addr}(l:.A0 "NoRest" k sU "ValueError.__new__" mg base):.ce 7 .Cx (.bG gp 3):=by
 refine .cq j Bc λi A b s H E a => ?_;have m:=fV a;exact(.aix .ko
  (.aix .pS
  (.cW<|.d4 (.iI<|oX (.ao7 .ko)<|i3 (.ao7 .pS) .g7) (.cW<|.rP "NoRest" l zi rfl rfl .Zl) nss_nil)))
def K3(d:.aj "joined" "joined" A5 f fd)(e:.aln):.ce 8 .Cx (.bG sF 3):=by
 refine .cq d Pl .tL;have i:=fV b;exact(.acR
  iQ)
def Wj(d:.aj "met" "met" SY f fd)(e:.aln):.ce 8 .Cx (.bG Ft 3):=by
 refine .cq d ZY .tL;have i:=fV b;exact(.acR
  iQ)
def rG(l:.aj "answer_of_stands" "answer_of_stands" jq f fd){i:Addr}(g:mg "show_stand"=.t i)(e:.gu i)(m:.cD "joined" 8 3 sF)(d:.cD "met" 8 3 Ft):.ce 9 .Um (.bG fX 3):=by
 refine .cq l sV λk A c s H E b => ?_;have a:=fV b;exact(.aQ (.J1 .ql iQ nss_nil)
  (.aQ (.J1 .x0 iQ nss_nil)
  (.aQ (.J1 .qm (.add m) nss_nil)
  (.aQ (.J1 .me (.add d) nss_nil)
  iQ))))
def K4(l:.aj "fewest" "fewest" A4 f fd)(g:.c8)(d:.a6 "free_of" 2 1 mD){m:Tok}(j:mg "MOST_FREE_TRIED"=.a (.e 9 m)){i:Addr}(k:.IK "TooMuch"):.ce 3 .dS (.bG sG 1):=by
 refine .cq l Pk .tL;have p:=fV b;exact(.ij (aL<|aB d b .gf)
  (.aQ (.akn (.m6 g) (.ago k) nss_nil)
  iQ))
def vS(m:.aj "stands_to_try" "stands_to_try" lA f fd)(g:.c8)(d:.a6 "free_of" 2 1 mD){k:Tok}(j:mg "MOST_FREE"=.a (.e 12 k)){i:Addr}(l:.IK "TooMuch"):.ce 3 .dS (.bG eX 1):=by
 refine .cq m xr .tL;have p:=fV b;exact(.aQ (.akn (.hd g<|dv<|aB d b .gf) (.ago l) nss_nil)
  iQ)
def Pn(e:.aj "rests" "rests" Fv f fd)(d:.akm):.ce 4 .dS (.bG vI 1):=by
 refine .cq e S2 λc A a s H E b=>?_;have i:=fV b;exact(.nf<|XJ .agE)
def Po(e:.aj "pairs" "pairs" Fw f fd)(d:.akm):.ce 4 .dS (.bG vJ 1):=by
 refine .cq e S3 .tL;have i:=fV b;exact(.BM .m2
  (.aQ (ZI .agE)
  iQ))
def vT(p:.aj "answer_of_web" "answer_of_web" lB f fd)(e:.nl)(g:.c8)(m:.a6 "show_web" 3 1 p8){i:Addr}(o:mg "answer_of_fewest"=.t i)(l:.gu i)(k:.cD "rests" 4 1 vI)(n:.cD "pairs" 4 1 vJ)(q:.cD "fewest" 3 1 sG):.ce 5 .Z2 (.bG gq 2):=by
 refine .cq p xu λj A c s H E a => ?_;have b:=fV a;exact(.ij (cQ (.oW b (.Z .es)<|aP _) (.az<|.ig m) bI)
  (.aQ (.J0 .VS iQ nss_nil)
  (.aQ (.J0 .VM iQ nss_nil)
  (.aQ (.J0 .r3 (.ada k) nss_nil)
  (.aQ (.J0 .r4 (.ada n) nss_nil)
  (.nf<|zI rfl o l<|.agY q))))))
def Pp(j:.aj "begun" "begun" Fu f fd)(d:.a6 "are_choosable" 5 2 fG){i:Addr}(g:.IK "NoPeople"):.ce 6 .Fj (.bG vK 2):=by
 refine .cq j S1 .tL;have l:=fV b;exact(.aQ (.d4 (.cl<|aB d b .ko) (.cW<|.am1 g λe k h=>bW h) nss_nil)
  iQ)
def CF(k:.aj "turns_all" "turns_all" rn f fd){c:Addr}(e:mg "ended"=.t c)(j:.gu c)(g:.cD "begun" 6 2 vK):.ce 7 .Fj (.bG mi 2):=by
 refine .cq k vP .UL;have m:=fV b;exact(.aQ (.Pb 2 vP.nd rfl lc<|zI rfl e j<|.wP (.g9 ne_of)<|.Mu<|.xp g .PA (λv l h=>.qM) mkFn_ne)
  iQ)
def K5(n:.aj "answer" "answer" A7 f fd){a:Addr}(k:mg "FORMS"=.l3)(b:Fa K a fR)(l:.cD "turns_all" 7 2 mi)(j:.cD "answer_of_web" 5 2 gq)(m:.cD "answer_of_stands" 9 3 fX):.ce 10 .xE (.bG eI 3):=by
 refine .cq n Pm λi A d s H E c => ?_;have g:=fV c;exact(.aQ (.d4 (.oW g (.Z .Aa)<|aP _) (.cW<|gh<|ab4<|XJ<|.Vz l (.d1 .pS) .ZF mkFn_ne) nss_nil)
  (.aQ (.d4 (VW g<|Fb (T:=fR) rfl k b<|mv 1) (.cW<|gh<|.Vz j .PA .ZF mkFn_ne) nss_nil)
  (.nf<|.Vz m (.d1 .aaE) .ZF mkFn_ne)))
def Ii(q:.aj "form_of" "form_of" xm f fd)(m:.m1)(g:.c8){b:Addr}(c:mg "FORMS"=.t b)(a:Fa K b fR){p:Addr}(j:.Q5 p):.ce 3 ["words"] (.bG kr 1):=by
 refine .cq q K2 λl A d s H E o => ?_;have i:=fV o;exact(.ij (cQ (.jX i .ii (.Z .Aa)<|aP _) (.az<|.nY m<|iF<|fg ["word"] (fD<|.g9 mM (mL au) mK)<|.fa<|.Z .pF) bI)
  (.an1 (.WZ Sb rfl)
  (.an1 (.h7 i (bF n9 Cn (.M9 g) au) (VU rfl g<|.WZ Fb)<|aP _)
  (.uT<|aU<|.WZ Fb))))
def Bi(o:.aj "neighbours" "neighbours" qa f fd)(k:.lq)(q:.zI)(m:.gC)(l:.a6 "is_tie" 3 2 fO){p:Addr}(a:.ID p):.ce 4 ["many","ties"] (.bG jb 2):=by
 refine .cq o tP λj A c s H E g => ?_;have b:=fV g;exact(.SL (.cl<|.Oa k q .ac<|mv 1)
  (.ij (u4 (i:=2) tP.nd rfl lc (own:=.Pg) (capn:=[]) (caps:=[]) rfl .Om (.jr m<|mv 0)
   (λr C s H u=>.fa VB))
  (.aQ (ns_for zWs rfl .Hy aJ<|.SL (.cl<|aB l g<|.rp 3)
  (.BM (.mu 3)
  (.BM (.mu 3)
  (.SL (bc (Zb .VK) Zc (mv 5) (.rD 4) rfl)
  (.ij (MK .VK (.mu 3) (.rD 4)<|mv 5)
  (.uT<|MK .VK (.mu 3) (.rD 5)<|mv 4))))))
  (.uT<|.fX aU))))
def Bj(q:.aj "stays_told" "stays_told" qb f fd)(b:.m1)(o:.gC)(j:.c8)(k:.lq)(u:.zI)(l:.AM)(p:.amf){r:Addr}(d:.ID r):.ce 4 .XR (.bG jc 2):=by
 refine .cq q Cv λi A a s H E c => ?_;have m:=fV c;exact(.ij (cQ (.xF 1) (.az<|.nY b<|iF<|fg .Pg (.jr o<|mv 0)<|.fa eu) bI)
  (.ao0 (.iI<|oX (.cl<|.Oa k u .ac<|mv 1)<|.pT<|.h7 m (.m6 j) (mv 0)<|aP _)
  (.ao0 (.cl<|.ab ue l<|iF<|fg ["stay"] .Hy<|.fa<|MB.me<|Q1 (ju<|gH tV t9 (mv 0) eu<|aP _)<|.wQ<|aB p c .gf)
  (.uT<|aU<|.nY b<|.mx dv))))
def K6(r:.aj "web_of" "web_of" AZ f fd)(d:.m1)(u:.eg "sorted")(j:.up)(p:.a6 "bars_told" 2 2 kT){l:Tok}(k:.aki l)(q:.cD "neighbours" 4 2 jb)(o:.cD "stays_told" 4 2 jc){t:Addr}(m:.ID t):.ce 5 .aiG (.bG eZ 4):=by
 refine .cq r D5 λg A b s H E a => ?_;have x:=fV a;exact(.aQ (.d4 (.cl<|.cj j<|.nO<|.aaI k) (.cW<|.RI m .Zl) nss_nil)
  (.aQ (.Pb 4 D5.nd rfl lc<|.hZ q .PA .yg mkFn_ne)
  (.BM (.nY d<|iF<|fg ["row"] (fD<|mv 4)<|.fa<|.nY d<|iF<|.ab Rs u<|mv 0)
  (.cW<|gh<|R4<|.wP (ne_of<|mv 5)<|.wP (ne_of<|.cj p<|.a4 4 .w2)<|.Mu<|.hZ o (.d1<|.rp 3) .yg mkFn_ne))))
def CG(l:.aj "with_stay" "with_stay" rm f fd)(i:.TY)(g:.D8)(e:.L0)(k:.KH)(c:.rA)(j:.Wx):.ce 6 (.M7 "stay") (.bG jV 3):=by
 refine .cq l FE .UQ;have n:=fV a;exact(.aai i
  (.ij (aL<|.ig g)
  (.akl
  (.af7<|.uy e .B0))))
def FQ(x:.aj "with_tie" "with_tie" uv f fd)(t:.eg "max")(p:.eg "min")(d:.TY)(u:.KH)(l:.up)(o:.D8)(m:.L0)(k:.rA)(r:.Wx){y:Addr}(q:.ID y):.ce 6 .aiH (.bG jC 4):=by
 refine .cq x yJ λj A b s H E a => ?_;have c:=fV a;exact(.aai d
  (.ij (c9<|.cj d .pS)
  (.aQ (.d4 (.oW c (mv 2)<|aP _) (.aeq q) nss_nil)
  (.BM (eS<|ag (.ab Zh p (mv 1)<|mv 2)<|ag (.ab Rw t (mv 1)<|mv 2) ao)
  (.ij (u4 (i:=5) yJ.nd rfl lc (own:=["tie"]) (capn:=["pair"]) (caps:=[4]) rfl .xW (fD<|.ig u)
   (λz C s H B=>⟨aJ,(zD<|.h7 c (.g9 mM mK<|mL au) (mv 1)<|aP _),(mv 0)⟩))
  (.ij (cQ (.cl<|.cj l<|.a4 3<|ag au .e5) (aC<|c9<|iG (mv 5)<|eS<|.a4 1<|.a4 2 .B0) bI)
  (.nf<|.hZ r (.d1<|.uy k<|.a4 5<|.uy m<|.uy o ao) .ZO mkFn_ne)))))))
def FR(l:.aj "with_bar" "with_bar" uw f fd)(i:.TY)(e:.L0)(g:.D8)(k:.KH)(c:.rA)(j:.Wx):.ce 6 (.M7 "bar") (.bG kW 3):=by
 refine .cq l HY .UQ;have n:=fV a;exact(.aai i
  (.ij (aL<|.ig e)
  (.akl
  (.af7<|.a4 3<|.uy g ao))))
def y9(k:.aj "changed_web" "changed_web" oz f fd)(i:.cD "with_tie" 6 4 jC)(e:.cD "with_bar" 6 3 kW)(j:.cD "with_stay" 6 3 jV):.ce 7 .xE (.bG dP 3):=by
 refine .cq k Bf λg A b s H E a => ?_;have d:=fV a;exact(.aQ (.d4 (.oW d (.Z .eA)<|aP _) (.nf<|.hZ i (.d1<|.nO<|ag (.mu 2) .an3) .yg mkFn_ne) nss_nil)
  (.aQ (.d4 (.oW d (.Z .fc)<|aP _) (.amC e) nss_nil)
  (.amC j)))
def FS(m:.aj "say" "Desk.say" kt f fd){C:Addr}(T:mP K C)(k:.cD "words_of" 3 1 jA)(e:.cD "things_of" 8 3 gQ)(l:.cD "form_of" 3 1 kr)(j:.cD "changed_web" 7 3 dP)(g:.cD "answer" 10 3 eI):.ce 11 (.nh "row") (.bG cw 2):=by
 refine .cq m rF λd A c s H E a => ?_;have n:=fV a;exact(.aQ (.Pb 2 rF.nd rfl lc<|.hZ k (.d1 .s6) .Mt mkFn_ne)
  (.aQ (.Pb 3 rF.nd rfl lc<|.hZ e (.wP (ne_of<|E1 T<|mv 0)<|.wP (.hZ l (.d1 .w2) .Mt mkFn_ne)<|.d1<|.fV<|mM (mv 2) (mL au) mK) .Mt mkFn_ne)
  (.aQ (.d4 (bc Dn XB (.mu 2) (eS<|.BO .eA<|.BO .fc<|.H3 .gQ) rfl) (.aQ (ns_fldW T (mv 0)<|.ade j)
  (.uT<|aU<|.Z .vJ)) nss_nil)
  (.nf<|.ade g))))
def CH(m:.aj "read_many" "read_many" rp f fd)(j:.c8)(o:.TN)(d:.up){k:Tok}(g:.aki k)(i:.x4):.lx 5 fd ["lines"] (.oB gR 1):=by
 refine .vY m FH .UP;have l:=fV a;exact(.uv (.cj o<|.BO .TX<|.fV<|.z0<|mv 0)
  (.fN (.wU (.iI<|oX (.h7 l (.m6 j) au<|aP _)<|i3 (.cl<|.cj d .afV) .g7) (.o1<|.Ex i (λR=>au) λe p h=>jT h) Fy.nss_nil)
  (.qp<|aU .s5)))
def CJ(m:.aj "read_ties" "read_ties" rq f fd)(l:.gC)(i:.c8)(d:.m1)(o:.TN)(k:.px "is_next_tie" fS)(j:.a6 "is_tie" 3 2 fO)(g:.x4):.lx 5 fd ["lines","many"] (.oB iW 2):=by
 refine .vY m FI .UP;have q:=fV a;exact(.uv .m2
  (.fN (Fy.ns_for zWs rfl (oY rfl l au<|.M9 i) aJ<|.fN (Fy.ns_of<|cQ (.cl<|DE (.AC<|mv 3)<|.Z .jh) (aC Q4) bI)
  (.uv (.nY d<|dv<|.cj o<|.BO .eA<|.fV<|bi (mv 0) (mv 3) .bu)
  (.fN (.wU (.iI<|oX (.cl<|.cj j<|.MG 4)<|i3 (.cl<|.cj k<|.a4 2<|.hi 4) .g7) (.o1<|.Ex g (.G2 3) λe p h=>jT h) Fy.nss_nil)
  (.qp<|.NY<|mv 4))))
  (.qp<|.fX aU)))
def Ij(j:.aj "line_at" "line_at" xl f fd)(g:.c8)(d:.x4):.lx 3 fd .W9 (.oB d6 2):=by
 refine .vY j K1 .tL;have i:=fV b;exact(.fN (.wU (.jX i (mv 1) (.M9 g)<|aP _) (.o1<|.QN d .Z6 rfl rfl (.G2 1) λe k h=>jT h) Fy.nss_nil)
  (.qp<|aU<|.AC<|mv 1))
def CK(o:.aj "read_bars" "read_bars" rA f fd)(m:.gC)(k:.c8)(p:.TN)(g:.rg "line_at" 3 2 d6)(j:.x4):.lx 5 fd .Kr (.oB jW 3):=by
 refine .vY o vR .UQ;have l:=fV a;exact(.uv .m2
  (.fN (.ad1 m<|.fN (.Zw 5 vR.nd rfl lc<|Fy.ne_callG p .xk rfl (Fy.na_cons (Fy.ne_of<|.Z .fc)<|Fy.na_cons (.D4 g (.sD<|.rp 4) (λv c h=>jT h.xp) Fy.mkFn_ne)<|.sD ao) Fm.u7)
  (.fN (.wU (.h7 l (.hd k<|dv<|mv 5) au<|aP _) (.o1<|.Ex j (.G2 4) λe c h=>jT h) Fy.nss_nil)
  (.qp<|c9<|.ni VY<|mv 5)))
  (.qp<|.ni aU)))
def Bk(p:.aj "read_stays" "read_stays" qc f fd)(o:.gC){b:Addr}(g:mg "STAYS"=.t b)(a:AF K b .vy)(l:.rg "line_at" 3 2 d6)(m:.x4):.lx 4 fd .Kr (.oB jd 3):=by
 refine .vY p tQ λk A d s H E c => ?_;have q:=fV c;exact(.uv .m2
  (.fN (.ad1 o<|.fN (.Zw 5 tQ.nd rfl lc<|Fy.ne_call l .Z8 rfl (.sD<|.rp 4) (λv j h=>jT h.xp) Fy.mkFn_ne)
  (.fN (.wU (OQ (T:=.vy) rfl g a (mv 5) rfl) (.o1<|.QN m .Z8 rfl rfl (.G2 4) λe j h=>jT h) Fy.nss_nil)
  (.qp<|.z5<|R6 (T:=.vy) rfl g a<|mv 5)))
  (.qp<|.ni aU)))
def FT(x:.aj "read_web" "read_web" ux f fd)(p:.lq)(m:.nl)(d:.c8)(r:.a6 "web_of" 5 4<|.ku eZ)(u:.rg "read_many" 5 1 gR)(q:.rg "read_ties" 5 2 iW)(l:.rg "read_bars" 5 3 jW)(o:.rg "read_stays" 4 3 jd)(j:.x4):.lx 6 fd ["text"] (.oB kX 1):=by
 refine .vY x kY λk A g s H E a => ?_;have y:=fV a;exact(.fN (.wU (.cl<|jR (t:=.str) rfl p rfl m .ac<|mv 0) (.o1<|.Ex j (λR=>au)<|.GB jT) Fy.nss_nil)
  (.uv (.UH 10)
  (.fN (.I6 2<|.D4 u (.sD .s6) .LZ Fy.mkFn_ne)
  (.fN (.I6 3<|.D4 q (.sD<|.MG 2) .LZ Fy.mkFn_ne)
  (.fN (.I6 4<|.D4 l (.sD<|.a4 1<|ag .Vy .w2) .LZ Fy.mkFn_ne)
  (.fN (.I6 5<|.D4 o (.sD<|.a4 1<|ag (.hB .Vy<|mv 2) .w2) .LZ Fy.mkFn_ne)
  (.uv (.hB .Vy<|.HK 2)
  (.fN (.wU (.vH (.m6 d) (mv 6)<|aP _) (.o1<|.Ex j (.G2 6)<|.GB jT) Fy.nss_nil)
  (.qp<|aU<|.cj r (.a4 2<|.a4 3<|.a4 4<|.hi 5) (hnp:=Fy.gd_np))))))))))
def vU(e:.aj "__init__" "Desk.__init__" fH f fd){C:Addr}(T:mP K C)(d:.rg "read_web" 6 1 kX):.lx 7 fd .Pe (.oB bP 2):=by
 refine .vY e xt λc A a s H E b=>?_;have i:=fV b;exact(.o1<|Fy.ns_fldW T (mv 0)<|Fy.ne_call d .Z6 rfl (.sD .s6) (λv g h=>jT h.xp) Fy.mkFn_ne)
def za{C:Addr}(T:mP K C){e:Addr}(l:mg "MostError"=.t e)(a:.pf e)(b:.oT<|.kl K e)(c:.CA<|.d e)(d:OY K mg e .Iy)(k:.fU Hu C "say" 11 2 cw)(m:.jd "_law_class" ko):.aT "_law_refused" mY 12 .ajc eV 2:=okd .adI λg o=>(.cr eu
  (av (ZA (i:=2) (j:=3) (cs:=.adr) rfl rfl (λq E=>(.cW<|nP<|Sh T k (g.mono .c) (mv 0) .s6 (λv n h=>h.unwish) mkFn_ne .c)) rfl rfl l rfl a b c y6.nd .c rfl rfl rfl rfl d)
  (.az<|aB m g .w2)))
def fI:bn ["_law_model_here","_law_stand","_law_some","_law_number"] .qO (aD mZ):=fsc
def zc(F:.aj "_law_no_rows" "_law_no_rows" mZ f fd)(l:.Wp)(k:.U1):.UT jD:=by
 refine yp F fI λj A h s H E g=>?_;have m:=fV g;rw[.V]
 ·exact(aL<|aB l g<|ag (.z0<|aB k g .gf) ao)
 rw[.V]
 ·rw[.kX 2]
  ·exact fI.nd
  ·rfl
  ·first|rw[.fg]|rw[.b2]
  rotate_left
  ·rfl
  ·rw[.b2]
  rw[.hE]
  rotate_left
  ·rw[.pJ ((.JZ) a b c d z) e]
  rw[.r]
  ·rw[.an []]
  rotate_left
  ·rfl
  rw[.r]
  ·rw[.an .cL]
  rotate_left
  ·rfl
  rw[.r]
  ·rw[.an (.NZ 83)]
  rotate_left
  ·rfl
  rw[.r]
  ·rw[.an (.wL 32)]
  rotate_left
  ·rfl
  rw[.r]
  ·rw[.an .U9]
  rotate_left
  ·rfl
  rw[.r]
  ·rw[.an .Un]
  rotate_left
  ·rfl
  rw[.r]
  ·rw[.an .TS]
  rotate_left
  ·rfl
  rw[.r]
  ·rw[.an .ql]
  rotate_left
  ·rfl
  rw[.r]
  ·exact(.vG .kD)
  rotate_left
  ·rfl
  exact ao
 rw[.V]
 ·exact(.NY<|.SZ (.vG .ux)<|mv 1)
 rw[.V]
 ·rw[.kX 2]
  ·exact fI.nd
  ·rfl
  ·first|rw[.fg]|rw[.b2]
  rotate_left
  ·rfl
  ·rw[.b2]
  rw[.oc]
  ·exact(mv 2)
  rw[.hE]
  rotate_left
  ·rw[.pJ ((.JZ) a b c d z) e]
  rw[.r]
  ·rw[.an .me]
  rotate_left
  ·rfl
  rw[.r]
  ·rw[.an .yo]
  rotate_left
  ·rfl
  rw[.r]
  ·rw[.an .x0]
  rotate_left
  ·rfl
  rw[.r]
  ·rw[.an .T2]
  rotate_left
  ·rfl
  rw[.r]
  ·rw[.an .Sq]
  rotate_left
  ·rfl
  rw[.r]
  ·rw[.an .W6]
  rotate_left
  ·rfl
  rw[.r]
  ·rw[.an .Tq]
  rotate_left
  ·rfl
  rw[.r]
  ·rw[.an .UC]
  rotate_left
  ·rfl
  rw[.r]
  ·rw[.an .Vl]
  rotate_left
  ·rfl
  exact ao
 rw[.V]
 ·rw[.kX 2]
  ·exact fI.nd
  ·rfl
  ·first|rw[.fg]|rw[.b2]
  rotate_left
  ·rfl
  ·rw[.b2]
  rw[.oc]
  ·exact(mv 2)
  rw[.hE]
  rotate_left
  ·rw[.pJ (.qk<|ak .JZ) e]
  rw[.r]
  ·rw[.an .sb]
  rotate_left
  ·rfl
  rw[.r]
  ·rw[.an (.uQ 32)]
  rotate_left
  ·rfl
  rw[.r]
  ·rw[.an .TM]
  rotate_left
  ·rfl
  rw[.r]
  ·rw[.an .Td]
  rotate_left
  ·rfl
  rw[.r]
  ·rw[.an .XJ]
  rotate_left
  ·rfl
  rw[.r]
  ·exact eu
  rotate_left
  ·rfl
  rw[.r]
  ·exact au
  rotate_left
  ·rfl
  rw[.r]
  ·exact jM
  rotate_left
  ·rfl
  rw[.r]
  ·refine bN ?_
   refine .rf
   rotate_left
   ·rw[.pJ (.qk bh) e]
   rw[.r]
   ·rw[.an .es]
   rotate_left
   ·rfl
   exact ao
  rotate_left
  ·rfl
  rw[.r]
  ·exact(eS<|.H3 .es)
  rotate_left
  ·rfl
  rw[.r]
  ·rw[.an (.wL 10)]
  rotate_left
  ·rfl
  exact ao
 rw[.V]
 ·refine .Cd gc ?_ ?_ ?_
  ·exact zZa
  ·rfl
  rotate_left
  ·exact aJ
  rotate_left
  ·refine EM ?_
   refine .rf
   rotate_left
   ·rw[.pJ (.qk .JZ) e]
   rw[.r]
   ·rw[.an [48,49]]
   rotate_left
   ·rfl
   rw[.r]
   ·rw[.an [43,49]]
   rotate_left
   ·rfl
   rw[.r]
   ·rw[.an [45,48]]
   rotate_left
   ·rfl
   rw[.r]
   ·rw[.an [49,95,48]]
   rotate_left
   ·rfl
   rw[.r]
   ·rw[.an [120]]
   rotate_left
   ·rfl
   rw[.r]
   ·rw[.an []]
   rotate_left
   ·rfl
   rw[.r]
   ·rw[.an [49,46,48]]
   rotate_left
   ·rfl
   rw[.r]
   ·exact(.m3 [49]<|bF vw vv .PE au)
   rotate_left
   ·rfl
   rw[.r]
   ·rw[.an [45,45,49]]
   rotate_left
   ·rfl
   rw[.r]
   ·rw[.an [49,10]]
   rotate_left
   ·rfl
   exact ao
  rw[.V]
  ·rw[.kX 2]
   ·exact fI.nd
   ·rfl
   ·first|rw[.fg]|rw[.b2]
   rotate_left
   ·rfl
   ·rw[.b2]
   rw[.oc]
   ·exact(mv 2)
   rw[.hE]
   rotate_left
   ·rw[.pJ .MM e]
   rw[.r]
   ·exact(.Az .sb)
   rotate_left
   ·rfl
   rw[.r]
   ·exact(.Az .BU)
   rotate_left
   ·rfl
   rw[.r]
   ·exact(bj (.Az .iH)<|.Z [32,48])
   rotate_left
   ·rfl
   rw[.r]
   ·exact(.Az .Vo)
   rotate_left
   ·rfl
   exact ao
  rw[.qr (.aa4 2)]
  ·exact fI.nd
  ·rfl
  ·first|rw[.fg]|rw[.b2]
  rotate_left
  ·rfl
  ·rw[.b2]
  rw[.oc]
  ·exact(mv 2)
  rw[.hE]
  rotate_left
  ·rw[.pJ (.qk<|ak bh) e]
  rw[.r]
  ·exact(bj (.Az .DH)<|.Z .UX)
  rotate_left
  ·rfl
  rw[.r]
  ·exact(.Az .Vt)
  rotate_left
  ·rfl
  exact ao
 rw[.qr (aU ?_)];exact(mv 2)
def nV:bn ["_law_model_here","_law_many","_law_some"] .qO (aD ku):=fsc
def vV(F:.aj "_law_no_people" "_law_no_people" ku f fd)(j:.nl)(k:.c8):.o0 1 fd .qO (.mc ip 1):=by
 refine yp F nV λh A g s H E l=>?_;have m:=fV l;rw[.V]
 ·exact(aL<|kF rfl j<|.hd k<|dv .ii)
 rw[.V]
 ·rw[.kX 2]
  ·exact nV.nd
  ·rfl
  ·first|rw[.fg]|rw[.b2]
  rotate_left
  ·rfl
  ·rw[.b2]
  rw[.hE]
  rotate_left
  ·rw[.pJ .ans e]
  rw[.r]
  ·exact(.vG .sb)
  rotate_left
  ·rfl
  rw[.r]
  ·rw[.an .WK]
  rotate_left
  ·rfl
  rw[.r]
  ·rw[.an .Sc]
  rotate_left
  ·rfl
  rw[.r]
  ·exact(bj (.vG .iH)<|.Z [32,48])
  rotate_left
  ·rfl
  rw[.r]
  ·rw[.an .Sl]
  rotate_left
  ·rfl
  rw[.r]
  ·exact(bj (.vG .VP)<|.Z [32,49])
  rotate_left
  ·rfl
  exact ao
 rw[.qr (aU ?_)];rw[.oc]
 ·exact(mv 2)
 rw[.hE]
 rotate_left
 ·rw[.pJ (.qk .Ef) e]
 rw[.r]
 ·exact(bj (.vG .jh)<|.Z .Wt)
 rotate_left
 ·rfl
 rw[.r]
 ·rw[.an .Us]
 rotate_left
 ·rfl
 rw[.r]
 ·exact(bj (.vG .DH)<|.Z [32,55])
 rotate_left
 ·rfl
 rw[.r]
 ·rw[.an .Vc]
 rotate_left
 ·rfl
 rw[.r]
 ·rw[.an .UM]
 rotate_left
 ·rfl
 exact ao
def nW:bn ["_law_model_here","_law_stand","_law_text_here","_law_some","_law_bad","_law_one","_law_other"] .qO (aD kx):=fsc
def vW(F:.aj "_law_no_stands" "_law_no_stands" kx f fd)(n:.gC)(j:.c8)(l:.nl)(p:.Wp)(o:.U1):.UT iq:=by
 refine yp F nW λk A h s H E e=>?_;have m:=fV e;rw[.V]
 ·exact(aL<|bi (aB o e .gf) va .bu)
 rw[.V]
 ·exact(aL<|aB p e .s6)
 rw[.V]
 ·rw[.kX 3]
  ·exact nW.nd
  ·rfl
  ·first|rw[.fg]|rw[.b2]
  rotate_left
  ·rfl
  ·rw[.b2]
  rw[.hE]
  rotate_left
  ·rw[.pK (bh a b c d z) g]
  exact ao
 rw[.V]
 ·refine .gH ?_ ?_
  ·refine EM ?_
   refine .rf
   rotate_left
   ·rw[.pK .ans g]
   rw[.r]
   ·rw[.an []]
   rotate_left
   ·rfl
   rw[.r]
   ·exact(.fX bj .PE)
   rotate_left
   ·rfl
   rw[.r]
   ·exact .Vj
   rotate_left
   ·rfl
   rw[.r]
   ·exact(bj .Vj<|.Z [50])
   rotate_left
   ·rfl
   rw[.r]
   ·exact(bj .Vj<|.Z [120])
   rotate_left
   ·rfl
   rw[.r]
   ·exact(.m3 [45]<|mv 2)
   rotate_left
   ·rfl
   exact ao
  rw[.w3 (.iI<|oX (.h7 m (mv 4) (.Z [])<|aP _)<|.pT<|.vH (.m6 j) au<|aP _)]
  ·rw[.V]
   ·exact(.z5<|.m3 .ux<|mv 4)
   rw[.V]
   ·exact(.z5<|.Yu .kD<|mv 2)
   rw[.cX aC (.z5<|.SZ (.m3 .yv<|mv 2)<|mv 4)]
  exact bI
 rw[.V]
 ·refine .gH (.jr n<|.m6 j) ?_
  rw[.w3 (.MB<|bi .ii (mv 5) .bu)]
  ·rw[.V]
   ·exact(aL<|kF rfl l<|bF n9 Cn au<|.Gg<|mv 5)
   rw[.cX aC (.z5<|bj (bj (.m3 .Ub<|.fX o7 mK<|mL<|mv 5)<|mv 6)<|.fX o7 (mL<|.hB (mv 5) au) mK)]
  exact bI
 rw[.qr (aU ?_)];exact(mv 3)
def jr:bn ["_law_model_here","_law_some","_law_one","_law_stand","_law_text_here"] .qO (aD jX):=fsc
def uA(F:.aj "_law_stage_rows" "_law_stage_rows" jX f fd)(o:.gC)(j:.c8)(n:.nl)(p:.U1)(l:.px "_law_turn" pc)(q:.Wp):.UT iI:=by
 refine yp F jr λm A h s H E e=>?_;have k:=fV e;rw[.V]
 ·rw[.kX 1]
  ·exact jr.nd
  ·rfl
  ·first|rw[.fg]|rw[.b2]
  rotate_left
  ·rfl
  ·rw[.b2]
  rw[.hE]
  rotate_left
  ·rw[.pK .MM g]
  rw[.r]
  ·exact(.rQ .GS)
  rotate_left
  ·rfl
  rw[.r]
  ·exact(.rQ .SF)
  rotate_left
  ·rfl
  rw[.r]
  ·exact(.rQ .Hi)
  rotate_left
  ·rfl
  rw[.r]
  ·exact(.rQ .GO)
  rotate_left
  ·rfl
  exact ao
 rw[.V]
 ·refine .DO<|.vH (.hd j<|dv .ii) au<|aP _
  ·refine aC ?_
   rw[.kX 1]
   ·exact jr.nd
   ·rfl
   ·first|rw[.fg]|rw[.b2]
   rotate_left
   ·rfl
   ·rw[.b2]
   rw[.oc]
   ·exact(mv 1)
   rw[.hE]
   rotate_left
   ·rw[.pK .MM g]
   rw[.r]
   ·exact(.rQ .FC)
   rotate_left
   ·rfl
   rw[.r]
   ·exact(.rQ .Du)
   rotate_left
   ·rfl
   rw[.r]
   ·exact(.rQ<|.m5 49)
   rotate_left
   ·rfl
   rw[.r]
   ·exact(.rQ<|.m5 48)
   rotate_left
   ·rfl
   exact ao
  exact bI
 rw[.V]
 ·refine .gH (.jr o<|.hd j<|dv .ii) ?_
  rw[.w3 (.jX k (bi .ii (mv 2) .bu) au<|aP _)]
  ·refine aC ?_
   exact(.aot<|.m3 .sb<|kF rfl n<|mv 2)
  exact bI
 rw[.V]
 ·refine .gH (fD<|mM (aB p e .gf) mK<|mL au) ?_
  rw[.w3 (.h7 k (aB l e<|.rp 3) (mv 3)<|aP _)]
  ·rw[.V]
   ·exact(aL<|aB q e .B0)
   rw[.V]
   ·exact(.aot<|.Yu .kD<|mv 4)
   rw[.cX aC (c9<|.mx iG<|.abK<|.Yu .yv<|mv 4)]
  exact bI
 rw[.qr (aU ?_)];exact(mv 1)
def zd(b:.c8)(h:.a6 "_law_no_rows" 2 1 jD)(d:.jd "_law_no_people" ip)(g:.a6 "_law_no_stands" 2 1 iq)(e:.a6 "_law_stage_rows" 2 1 iI):.aT "_law_row_bad" rE 3 ["_law_model_here","_law_cell_here"] iJ 2:=okd ["_law_model_here","_law_cell_here","_law_way","_law_more","_law_some"] λa c=>(.cr (.xP 1 au)
  (.cr (bF i9 oj (mv 1) au)
  (av (cQ (.jX c (mv 2) au<|aP _) (av (aL<|.ig e)
  (.az .agL)) bI)
  (av (aL<|Sw h d g .xk .xk .xk rfl rfl rfl (mv 2) .gf u7 u7 u7 .bu)
  (.az<|eS<|ag .agL<|ag (Ao (ck (.MC .e5)<|.ru<|(ak (.t2 bh)) _ _ _ _ z) (mv 2) .bu) ao)))))
def qA:bn ["_law_text_here","_law_cell_here","_law_lines_here","_law_at","_law_way","_law_line"] .anq (aD ng):=fsc
def ze(F:.aj "_law_no_text" "_law_no_text" ng f fd)(h:.c8):.o0 1 fd .anq (.mc iK 2):=by
 refine yp F qA λj A g s H E k=>?_;have e:=fV k;rw[.V]
 ·exact(aL<|.UH 10)
 rw[.V]
 ·exact(aL<|.xP 1<|.hd h<|.fX dv)
 rw[.V]
 ·exact(aL<|.xs 1 au)
 rw[.V]
 ·exact(aL<|Ao (ck (.a4 3<|.a4 3<|.a4 3<|ag (.hB (mv 3) au) .B0)<|.ru<|.Kn<|.QB bh) (mv 4) .bu)
 rw[.V]
 ·refine .Eh
  ·refine aC ?_
   exact(.aaj<|Ao (ck (ag (bj (.rD 3) .Qp)<|ag (.m3 .cL<|.rD 3)<|ag (Sy<|.rD 3)<|.H3 []) .ao3) (.xs 1 au) .bu)
  exact bI
 rw[.V]
 ·refine .Eh
  ·refine aC ?_
   exact(.aaj<|.Z .GR)
  exact bI
 rw[.V]
 ·refine .Eh
  ·refine aC ?_
   exact(aL<|.fX mM mK<|.ni mL)
  exact bI
 rw[.V]
 ·refine .Eh
  ·rw[.V]
   ·rw[.kX 2]
    ·exact qA.nd
    ·rfl
    ·first|rw[.fg]|rw[.b2]
    rotate_left
    ·rfl
    ·rw[.b2]
    rw[.oc]
    ·exact(mv 2)
    rw[.hE]
    rotate_left
    ·intro a b c d z;have l:=.qk bh;rw[.eV l]
    rw[.r]
    ·rw[.an .cc]
    rotate_left
    ·rfl
    exact ao
   rw[.cX aC (aL<|.uF<|.hd h<|.fX dv)]
  exact bI
 rw[.V]
 ·refine .Eh
  ·refine aC ?_
   exact(.aaj<|.Z .Bi)
  exact bI
 rw[.qr (aU ?_)];exact(eS<|ag .TT<|.hi 5)
def rH:bn .abG (.T5 "_law_line") (aD i5):=fsc
def rJ{C:Addr}(T:mP K C){a:Addr}(l:mg "NoText"=.l3)(d:.cm "NoText"=.bx a)(c:.oh K .z .tj=.cO)(e:.oT<|.kl K a)(g:.CA .z)(b:.oh K .z .z=.cO)(Z:Fh K a "line")(m:.fU Fy.DefKY "Desk" C 7 2 bP)(n:.jd "_law_class" ko)(o:.jd "_law_due" iV):.aT "_law_desk_refused" i5 9 (.T5 "_law_line") dA 2:=okd .abG λh k=>(.cr eu
  (.cr eu
  (av (Fy.ms_tryF (i:=2) (il:=3) (j:=4) (nn := "NoText") rfl T m (h.mono .c) rfl (λq R=>.gf) Fy.mkFn_ne l d .c b Z rfl rfl l rfl c e g rH.nd rfl rfl rfl rfl rfl rfl .c .c)
  (.az<|MB.me<|.wR (gH sf mr (mv 2) eu<|aP _)<|.wR (.Gw k (aB n h .w2) (aB o h .e5)<|aP _)<|.wQ<|.Gw k (mv 3) (mv 1)<|aP _))))
def ZZ:bn ["_law_script","_law_model_here","_law_desk","_law_text_here","_law_k","_law_cell_here","_law_row_here","_law_due_here","_law_bad","_law_line","_law_thing","_law_other"] .X9 (aD Ba):=fsc
def Z0(F:.aj "law" "law" Ba f fd)(v:.gC)(t:.nl){C:Addr}(T:mP K C)(j:.a6 "_law_refused" 12 2 eV)(i:.jd "_law_due" iV)(l:.fU Zk "Desk" C 7 2<|.ku bP)(o:.a6 "_law_desk_refused" 9 2 dA)(u:.px "_law_no_text" iK)(n:.fU RE C "say" 11 2<|.ku cw)(r:.a6 "_law_row_bad" 3 2 iJ)(q:.px "_law_cell" cH)(m:.jd "_law_text" pd)(x:.a6 "_law_model" 2 2 o9):.o0 13 fd .X9 (.mc HR 1):=by
 refine yp F ZZ λp A k s H E e=>?_;have g:=fV e;rw[.V]
 ·exact(aL<|aB x e<|.nO .e5)
 rw[.V]
 ·exact(aL<|.ah7<|ag (aB m e .s6) ao)
 rw[.V]
 ·exact(pM (.hB (.z0 .s5) au) .s5 au)
 rw[.V]
 ·refine .DO<|.agR (bj (.Z .BU)<|kF rfl t<|bi (.z0<|mv 1) au .bu) (.Z .vJ)<|aP _
  ·refine aC ?_
   rw[.cv aU jM]
  exact bI
 rw[.V]
 ·exact(aL<|aB m e .s6)
 rw[.V]
 ·refine .gH (oY rfl v au au) ?_
  rw[.V]
  ·exact(aL<|aB q e<|.rp 4)
  rw[.V]
  ·exact(Kb (aB r e<|.MG 5) .su)
  rw[.V]
  ·refine .DO<|.iI<|oX (.alb 2 (aB i e<|.hi 7)<|aP _)<|.pT<|.agR (.Z .es) (mv 3)<|aP _
   ·refine aC ?_
    rw[.cv aU jM]
   exact bI
  rw[.V]
  ·exact(Kb (aB u e<|.a4 3<|.hi 5) .su)
  rw[.w3 (.cl<|aB o e<|.a4 8<|.hi 9)]
  ·refine aC ?_
   rw[.cv aU jM]
  exact bI
 rw[.V]
 ·refine .gH ?_ ?_
  ·refine EM ?_
   refine .rf
   rotate_left
   ·intro a b c d z;have h:=.MM;rw[.eV h]
   rw[.r]
   ·exact eu
   rotate_left
   ·rfl
   rw[.r]
   ·exact au
   rotate_left
   ·rfl
   rw[.r]
   ·exact jM
   rotate_left
   ·rfl
   rw[.r]
   ·refine bN ?_
    refine .rf
    rotate_left
    ·intro a b c d z;have h:=.qk bh;rw[.eV h]
    rw[.r]
    ·exact(mv 3)
    rotate_left
    ·rfl
    exact ao
   rotate_left
   ·rfl
   exact ao
  rw[.w3 (.cl<|aB o e<|.a4 10 .e5)]
  ·refine aC ?_
   rw[.cv aU jM]
  exact bI
 rw[.V]
 ·exact(aL<|.acw<|.z1 51)
 rw[.V]
 ·refine .gH ?_ ?_
  ·refine EM ?_
   refine .rf
   rotate_left
   ·intro a b c d z;have h:=.N1;rw[.eV h]
   rw[.r]
   ·rw[.an .r3]
   rotate_left
   ·rfl
   rw[.r]
   ·rw[.an .r4]
   rotate_left
   ·rfl
   rw[.r]
   ·rw[.an .i5]
   rotate_left
   ·rfl
   exact ao
  rw[.w3 (.alb 11 (aB i e .e5)<|aP _)]
  ·refine aC ?_
   rw[.cv aU jM]
  exact bI
 rw[.V]
 ·exact(aL<|.acw<|.z1 48)
 rw[.qr (aU ?_)];exact(MB.me<|qM (.acW .i5)<|om<|.acW<|.uQ 49)
end
def Ik{α:Type}(us:.bY)(b:us.length=1):∃a,us=[a]:=match us,b with | [a],_=>.g5 a
def vX{α:Type}(us:.bY)(c:us.length=2):∃a b,us=[a,b]:=match us,c with | [a,b],_=>⟨a,b,rfl⟩
def Z1{l:PySem.W.OpenLaw}{w:P7}{K:zCM}{h:Heap}{mg:.gD}{fa sQ iZ ii d8 nG bY bX bA aZ bR bu bU n eM eN:Addr}(X:.fC)(G:.tR h.Ns)(p2:mg "law"=.t fa)(LV:.y "is_whole" AY)(Gw:.y "is_between" vL)(Gx:.y "is_opinion" vM)(UI:.y "is_tie" HS)(Gy:.y "neighbours" qa)(Jb:.y "bars_told" yC)(Gz:.y "stays_told" qb)(UJ:.y "web_of" AZ)(Qa:.y "many_of" DW)(Qb:.y "ties_of" DX)(UK:.y "bar_of" HU)(Qc:.y "stay_of" DY)(Qd:.y "bars_of" DZ)(LW:.y "stays_of" A3)(Qe:.y "free_of" D1)(p3:.y "fits" SX)(CU:.y "check_stand" ox)(Jd:.y "ties_once" yD)(Je:.y "is_person" yE)(Qf:.y "pull_at" D2)(Qg:.y "next_at" D3)(Qh:.y "turn_at" D4)(BX:.y "check_person" rl)(LX:.y "with_tie" uv)(LY:.y "with_bar" uw)(Jf:.y "with_stay" rm)(zk:.y "may_be_chosen" qy)(zm:.y "are_choosable" qz)(Xi:.y "begun" Fu)(Jg:.y "turns_all" rn)(UL:.y "fewest" A4)(Qi:.y "is_rest" xk)(zn:.y "stands_to_try" lA)(Xj:.y "rests" Fv)(Xk:.y "pairs" Fw)(CV:.y "check_rests" oy)(UM:.y "joined" A5)(o9:.y "met" SY)(LZ:.y "show_web" A6)(Jh:.y "is_number" yF)(xV:.y "numbers_behind" ph)(Ji:.y "read_many" rp)(CW:.y "is_next_tie" tN)(Jj:.y "read_ties" rq)(Qj:.y "line_at" xl)(Jk:.y "read_bars" rA)(GA:.y "read_stays" qc)(L4:.y "read_web" ux)(GB:.y "read_stand" qd)(L5:.y "words_of" uy)(L6:.y "thing_of" uz)(GC:.y "is_written" vN)(Jl:.y "things_of" rC)(uL:.y "answer_of_stands" jq)(zo:.y "answer_of_web" lB)(UN:.y "answer" A7)(Qk:.y "form_of" xm)(CY:.y "changed_web" oz)(Jm:.y "_law_cell" yG)(L7:.y "_law_row" A8)(GD:.y "_law_model" qe)(Jn:.y "_law_turn" yH)(CZ:.y "_law_stands" tO)(GE:.y "_law_class" qf)(L8:.y "_law_due" A9)(Jo:.y "_law_text" yI)(GG:.y "_law_signs" vO)(BY:.y "_law_refused" mY)(BZ:.y "_law_no_rows" mZ)(xW:.y "_law_no_people" ku)(xX:.y "_law_no_stands" kx)(wn:.y "_law_stage_rows" jX)(B0:.y "_law_row_bad" rE)(B2:.y "_law_no_text" ng)(sW:.y "_law_desk_refused" i5)(p1:.y "law" Ba)
  {C:Addr} (m2:.cm "Desk"=.bx C) (n1:.Kw Str.empty) (m0:.Ky C) (m8:.aj8) (m1:.R7 .aJ) (m7:.r7 "web"=.iR) (n3:.alx) (m3:.Cc K .aJ=true)
  {UO UP:.cx} {UQ:.jb} {UR US UT UU Jp UV:R0}
  (Xl:.cm "ended"=.bx sQ) (Xm:.dj sQ=.mg UR UO (.func<|.mr "ended" "ended" (c7 zM) (cG zM) (aD zM) .none US UT UU UP Jp UV) UQ) (Xn:.mN Jp "ended"=true) (z9:.gu sQ)
  {C0 C3:.cx} {C4:.jb} {C5 C6 C7 C8 tT C9:R0}
  (GH:.cm "show_stand"=.bx iZ) (GI:.dj iZ=.mg C5 C0 (.func<|.mr "show_stand" "show_stand" (c7 mj) (cG mj) (aD mj) .none C6 C7 C8 C3 tT C9) C4) (GJ:.mN tT "show_stand"=true) (j6:.gu iZ)
  {xY xZ:.cx} {x9:.jb} {ya yb yc yd pF ye:R0}
  (zp:.r7 "__init__"=.bx ii) (e6:.Ue ii) (zq:.dj ii=.mg ya xY (.func<|.mr "__init__" "Desk.__init__" (c7 fH) (cG fH) (aD fH) .none yb yc yd xZ pF ye) x9) (ig:.mN pF "Desk.__init__"=true) (zr:.gu ii)
  {sX sY:.cx} {sZ:.jb} {tq tw tD tF lP tG:R0}
  (uM:.cm "answer_of_fewest"=.bx d8) (uN:.dj d8=.mg tq sX (.func<|.mr "answer_of_fewest" "answer_of_fewest" (c7 gS) (cG gS) (aD gS) .none tw tD tF sY lP tG) sZ) (uO:.mN lP "answer_of_fewest"=true) (gY:.gu d8)
  {Jq Jr:.cx} {Js:.jb} {Jt Ju Jv Jw yN Jx:R0}
  (Ma:.r7 "say"=.bx nG) (j4:.Ue nG) (Mb:.dj nG=.mg Jt Jq (.func<|.mr "say" "Desk.say" (c7 kt) (cG kt) (aD kt) .none Ju Jv Jw Jr yN Jx) Js) (ql:.mN yN "Desk.say"=true) (B3:.gu nG)
  (GK:.gM "isinstance")
  (o4:.gM "bool")
  (o3:.gM "int")
  (q2:.gM "len")
  (Xo:.gM "tuple")
  (p8:.gM "list")
  (Xp:.gM "range")
  (q9:.gM "all")
  (UW:.gM "sorted")
  (Jy:.gM "enumerate")
  (o1:.gM "sum")
  (p6:.gM "max")
  (q3:.gM "min")
  (p9:.gM "str")
  (q6:.gM "zip")
  (GL:.gM "ValueError")
  {oG:Tok} (Da:.cm "MOST_WEIGHT"=.iT (.e 400 oG))
  {je:Tok} (Db:.cm "MOST_PEOPLE"=.iT (.e 30 je))
  {j7:Tok} (wq:.cm "MOST_FREE_TRIED"=.iT (.e 9 j7))
  {rX:Tok} (Jz:.cm "MOST_FREE"=.iT (.e 12 rX))
  {xJ:Tok} (Ql:.cm "FIGURES"=.iT (.afS xJ))
  {nD:Tok} (B4:.cm "MOST_FIGURES"=.iT (.e 60 nD))
  {k0:Addr} (Xq:.cm "STAYS"=.bx k0) (l0:AF K k0 .vy)
  {k2:Addr} (Xr:.cm "FORMS"=.bx k2) (j5:Fa K k2 fR)
  {JA:Addr} {o6 q4:.cx} {n6:.jb} {n7 o7 r1 q5 UX p7:R0}
  {n0 k9 h2 f6 i1 h0 k1 e5:ClassData}
  (JB:.cm "MostError"=.bx bY)
  (jm:.cm "NoRow"=.bx bX)
  (fL:.cm "NoStand"=.bx bA)
  (eP:.cm "NoPeople"=.bx aZ)
  (ij:.cm "NoRest"=.bx bR)
  (fM:.cm "TooMuch"=.bx bu)
  (jo:.cm "NoWeb"=.bx bU)
  (ik:.cm "NoText"=.bx n)
  (Qm:.cm "TooLong"=.bx eM)
  (Qn:.cm "NoOrder"=.bx eN)
  (n2:.pf bY)
  (l9:.kl K bY=.a n0)
  (l7:.CA<|.d bY)
  (i7:.xj bX)
  (h9:.yQ bX)
  (k5:.A2 bX)
  (k4:.AT bX)
  (j2:.AS bX)
  (j1:.pf bX)
  (k6:.qG bX)
  (k8:.kl K bX=.a k9)
  (u:.zD bX)
  (b6:.uh eM)
  (c5:.uh eN)
  (e2:.uh bU)
  (d4:.zC bX)
  (e1:.hY bX (.d bX)=.cO)
  (a8:.uh aZ)
  (c3:.uh bu)
  (d3:.uh bR)
  (c2:.uh bA)
  (f2:.xj bA)
  (f9:.yQ bA)
  (g5:.A2 bA)
  (g6:.AT bA)
  (g4:.AS bA)
  (h5:.pf bA)
  (g2:.qG bA)
  (g7:.kl K bA=.a h2)
  (g:.zD bA)
  (Q:.uf eM)
  (L:.uf eN)
  (b0:.uf bU)
  (W:.zC bA)
  (b9:.uf bX)
  (A:.uf aZ)
  (I:.uf bu)
  (a0:.uf bR)
  (B:.hY bA (.d bA)=.cO)
  (e7:.xj aZ)
  (e8:.yQ aZ)
  (f1:.A2 aZ)
  (f5:.AT aZ)
  (f0:.AS aZ)
  (f4:.pf aZ)
  (f3:.qG aZ)
  (f7:.kl K aZ=.a f6)
  (c:.zD aZ)
  (y:.ud eM)
  (o:.ud eN)
  (a6:.ud bU)
  (F:.zC aZ)
  (a7:.ud bX)
  (m:.hY aZ (.d aZ)=.cO)
  (x:.ud bu)
  (M:.ud bR)
  (z:.ud bA)
  (h1:.xj bR)
  (g3:.yQ bR)
  (i2:.A2 bR)
  (h8:.AT bR)
  (i0:.AS bR)
  (h6:.pf bR)
  (h7:.qG bR)
  (i3:.kl K bR=.a i1)
  (j:.zD bR)
  (a3:.ug eM)
  (S:.ug eN)
  (c8:.ug bU)
  (b3:.zC bR)
  (d0:.ug bX)
  (E:.ug aZ)
  (Z:.ug bu)
  (b4:.hY bR (.d bR)=.cO)
  (a4:.ug bA)
  (f8:.xj bu)
  (e9:.yQ bu)
  (g1:.A2 bu)
  (g0:.AT bu)
  (g8:.AS bu)
  (h4:.pf bu)
  (g9:.qG bu)
  (h3:.kl K bu=.a h0)
  (d:.zD bu)
  (J:.ui eM)
  (H:.ui eN)
  (c1:.ui bU)
  (a5:.zC bu)
  (c0:.ui bX)
  (p:.ui aZ)
  (D:.hY bu (.d bu)=.cO)
  (Y:.ui bR)
  (N:.ui bA)
  (i6:.xj bU)
  (i4:.yQ bU)
  (k3:.A2 bU)
  (i8:.AT bU)
  (k7:.AS bU)
  (i9:.pf bU)
  (j9:.qG bU)
  (j3:.kl K bU=.a k1)
  (r:.zD bU)
  (b7:.uc eM)
  (b2:.uc eN)
  (e4:.hY bU (.d bU)=.cO)
  (d1:.zC bU)
  (e0:.uc bX)
  (a1:.uc aZ)
  (b8:.uc bu)
  (d2:.uc bR)
  (b5:.uc bA)
  (l1:.oh K .aK (.d bY)=.cO)
  (d6:.aa9 .aK)
  (e3:.abf .aK)
  (d7:.aa3 .aK)
  (t:.oh K .aK .tj=.cO)
  (d5:.qG n)
  (a:.kl K n=.a e5)
  (i:.th K .aK .Ij=.cO)
  (a9:.qS eM)
  (R:.qS eN)
  (c6:.qS bU)
  (c4:.th K .aK .aK=.cO)
  (c9:.qS bX)
  (O:.qS aZ)
  (V:.qS bu)
  (b1:.qS bR)
  (a2:.qS bA)
  (m9:.R7 .aK)
  (l3:.Ky n)
  (m5:.tm K .aK "line"=.iR)
  (s3:.tm K .aK "__init__"=.bx JA)
  (n4:.dj JA=.mg n7 o6 (.func<|.mr "__init__" "NoText.__init__" (c7 HV) (cG HV) (aD HV) .none o7 r1 q5 q4 UX p7) n6)
  (o2:.mN UX "NoText.__init__"=true)
  (p5:.gu JA)
  (l5:e5.mro=.aK :: .d bY::veM)
  (m6:.W8 n "line"=.iR)
  (l6:Fy.excInI K n JA sU "ValueError.__new__"=true)
  (l4:.CA .aK)
  (l2:.oh K .aK .aK=.cO)
  : ∃fd:FuncData,(∀(s:R1) (v:R0),BindsTo s fd (.dh [v]) [("_law_script",v)])/\.anR (.D2 cx CX0 13 fa fd .X9<|.mc HR 1):=by
 obtain⟨f,od,q0,sl,oc,q8,o0,n9,q7,r0,e,p0,o5,q1⟩:=p1;have e:=p2.symm.trans<|.c7 e;cases e;have n8:=.we Ba p0 o5 q1;have aI:=.gL GK;have LK:=.gL o4;have ki:=.gL o3;have bG:=.gL q2;have cK:=.gL Xo;have iC:=.gL p8;have br:=.gL Xp;have j0:=.gL q9;have BS:=.gL UW;have jF:=.gL Jy;have wg:=.gL o1;have Em:=.gL p6;have UF:=.gL q3;have d9:=.gL p9;have IS:=.gL q6;have qi:=.gL GL;have oH:=.c7 Da;have iw:=.c7 Db;have Gq:=.c7 Xl;have j8:=.c7 wq;have rY:=.c7 Jz;have xK:=.c7 Ql;have nE:=.c7 B4;have Aa:=.c7 Xq;have mn:=.c7 GH;have jt:=.c7 uM;have nZ:=.c7 Xr;have T:mP K C:=⟨m2,⟨n1,m0,m8,m1⟩,m7⟩;have r6:=.c7 JB;have wl:=.c7 jm;have pE:=.c7 fL;have nF:=.c7 eP;have rW:=.c7 ij;have pD:=.c7 fM;have wj:=.c7 jo;have lh:=.c7 ik;have xL:=.c7 Qm;have xM:=.c7 Qn;have Xs:=.we zM Xm Xn z9;have r2:=Xs.binds (ps:=.ze) .Iz
 have GM:=.we mj GI GJ j6;have Xt:=GM.binds (ps:=["stand"]) .adL
 have qC:=.we fH zq ig zr;have zt:=qC.binds (ps:=.Pe) .Iz
 have uP:=.we gS uN uO gY;have Mc:=uP.binds (ps:=["told"]) .adL
 have B5:=.we kt Mb ql B3;have Me:=B5.binds (ps:=.nh "row") .Iz
 refine⟨.mr "law" "law" (c7 Ba) (cG Ba) (aD Ba) .none q8 o0 n9 q0 q7 r0,λs v=>.of_eq rfl,λbase KB _=>?_⟩;have q:.D2 En:=⟨h,X,G⟩;have Ya:=.we HV n4 o2 p5;have p4:=Ya.binds (ps:=.nh "line") .Iz
 have Zs:Ff K n bY "line" := ⟨m9,.FO<|.eL some l5,m6,l3⟩;have dQ:.D2 Fy.XDef "NoText" 1:=⟨n,bY,JA,_,_,Fy.own_inI KB lh l6,V7 (P:=l.prog) (w:=w) (mg:=mg) (base:=base) (k:=0) Ya ZX rfl rfl rfl .c .c,p4,Zs⟩;have Zg:Fh K n "line" := ⟨.akW,l3,m5⟩;have kL:=.y1 wl i7;have kM:qU K bX:=⟨k5,k4,j2,j1,k6,.aE k8⟩;have mF:=.y1 pE f2;have iy:qU K bA:=⟨g5,g6,g4,h5,g2,.aE g7⟩;have kB:=.y1 nF e7;have fU:qU K aZ:=⟨f1,f5,f0,f4,f3,.aE f7⟩;have BQ:=.y1 rW h1;have jg:qU K bR:=⟨i2,h8,i0,h6,h7,.aE i3⟩;have mH:=.y1 pD f8;have iz:qU K bu:=⟨g1,g0,g8,h4,g9,.aE h3⟩;have gZ:=.y1 wj i6;have kN:qU K bU:=⟨k3,i8,k7,i9,j9,.aE j3⟩;have jh:qU K n:=.akW;have qj:.Ce .L2 .xT:=(.nq u<|.ns g<|.nr c<|.nu j<|.nt d<|.np r<|.mU i);have xN:.gE eM .si:=(.nq b6<|.ns Q<|.nr y<|.nu a3<|.nt J<|.np b7<|.mU a9);have xO:.gE eN .si:=(.nq c5<|.ns L<|.nr o<|.nu S<|.nt H<|.np b2<|.mU R);have Gm:.gE bU .D7:=(.nq e2<|.ns b0<|.nr a6<|.nu c8<|.nt c1<|.np e4<|.mU c6);have BO:.Ce .aK .Fi:=(.nq d4<|.ns W<|.nr F<|.nu b3<|.nt a5<|.np d1<|.mU c4);have Gn:.gE bX .Eb:=(.nq e1<|.ns b9<|.nr a7<|.nu d0<|.nt c0<|.np e0<|.mU c9);have uJ:.gE aZ .Dl:=(.nq a8<|.ns A<|.nr m<|.nu E<|.nt p<|.np a1<|.mU O);have xP:.gE bu .Fh:=(.nq c3<|.ns I<|.nr x<|.nu Z<|.nt D<|.np b8<|.mU V);have BP:.gE bR .Do:=(.nq d3<|.ns a0<|.nr M<|.nu b4<|.nt Y<|.np d2<|.mU b1);have xQ:.gE bA .Dm:=(.nq c2<|.ns B<|.nr z<|.nu a4<|.nt N<|.np b5<|.mU a2);have m4:OY K mg bY .Iy:=(sr wl jm h9<|sr pE fL f9<|sr nF eP e8<|sr rW ij g3<|sr pD fM e9<|sr wj jo i4 Zz);have B6:=LV.df1 q (HW aI LK ki).ok;have hJ:=Gw.df3 q (Ct B6).ok;have wu:=Gx.df1 q (Cu hJ).ok;have JC:=UI.df2 q (Pi bG aI cK oH hJ).ok;have JD:=Jb.df2 q (FA cK j0 bG aI iC B6).ok;have jH:=Qa.df1 q (KO bG).ok;have Ep:=Qb.df2 q KP.ok;have UY:=UK.df2 q Pj.ok;have yf:=Qc.df2 q KQ.ok;have sR:=Qd.df1 q (KR iC).ok;have nH:=LW.df1 q (HX iC).ok;have Er:=Qe.df1 q (KS jF nH).ok;have o8:=p3.df2 q (Wh jF bG aI cK yf wu jH).ok;have n5:=Jd.df1 q (FC br jH Ep).ok;have se:=Je.df2 q (FD hJ jH).ok;have Qo:=Qf.df3 q (KU wg Ep).ok;have Qp:=Qg.df3 q (KY UY Qo yf).ok;have Qq:=Qh.df2 q (KZ cK br jH Qp).ok;have nI:=BX.df2 q (yZ se).ok;have zu:=zk.df2 q (xo yf se).ok;have zv:=zm.df2 q (xq j0 br bG aI iC zu).ok;have Mf:=LZ.df1 q (HZ nH sR n5 jH).ok;have yO:=Jh.df1 q (FF j0 bG xK nE hJ).ok;have kD:=xV.df2 q (vQ ki j0 yO).ok;have Dc:=CW.df2 q Be.ok;have GN:=GC.df2 q (Cy yO).ok;have yP:=Jm.df2 q (FK bG).ok;have Mg:=L7.df4 q (Ic br).ok;have GO:=GD.df2 q (Cz br wg Em Mg yP).ok;have JE:=Jn.df2 q (FM cK br bG wg).ok;have oK:=CZ.df1 q Bg.ok;have wv:=GE.df1 q λU=>CA U aI qi xL xM wj lh wl nF pD rW pE qj xN xO Gm BO Gn uJ xP BP xQ;have B7:=L8.df1 q (Ie br).ok;have JG:=Jo.df1 q (FN d9 ki br bG).ok;have qm:=GG.df1 q (CB d9).ok;have B8:=L5.dx1 q λU=>FO U aI d9 kL;have r9:=B8.good;have kO:=CU.dx2 q λU=>y7 U o8 mF;have U0:=kO.good;have ww:=GB.dx2 q λU=>Bh U j0 aI d9 cK ki kO mF;have Xu:=ww.good;have B9:=L6.dx3 q λU=>FP U ki ww;have s6:=B9.good;have yQ:=Jl.dx3 q λU=>CC U IS ki GN se B9 kL kB;have Yb:=yQ.good;have Qr:=Qi.dx2 q λU=>Ig U Qq kO;have Qs:=Qr.good;have oM:=CV.dx3 q λU=>y8 U Qs kO BQ;have U1:=oM.good;have JH:=UM.dx3 q λU=>K3 U oM;have s0:=JH.good;have Yc:=o9.dx3 q λU=>Wj U oM;have r5:=Yc.good;have nJ:=uL.dx3 q λU=>rG U mn j6 JH Yc;have Mh:=nJ.good;have JI:=UL.dx1 q λU=>K4 U bG Er j8 mH;have s7:=JI.good;have lD:=zn.dx1 q λU=>vS U bG Er rY mH;have Qt:=lD.good;have Of:=Xj.dx1 q λU=>Pn U lD;have r4:=Of.good;have Oh:=Xk.dx1 q λU=>Po U lD;have s5:=Oh.good;have qD:=zo.dx2 q λU=>vT U d9 bG Mf jt gY Of Oh JI;have Qu:=qD.good;have Oi:=Xi.dx2 q λU=>Pp U zv kB;have r7:=Oi.good;have yR:=Jg.dx2 q λU=>CF U Gq z9 Oi;have Yd:=yR.good;have JJ:=UN.dx3 q λU=>K5 U nZ j5 yR qD nJ;have s1:=JJ.good;have Es:=Qk.dx1 q λU=>Ii U cK bG nZ j5 kL;have s2:=Es.good;have wy:=Gy.dx2 q λU=>Bi U aI iC br JC gZ;have Xv:=wy.good;have wA:=Gz.dx2 q λU=>Bj U cK br bG aI iC j0 wu gZ;have Xw:=wA.good;have wB:=UJ.dx4 q λU=>K6 U cK BS hJ JD iw wy wA gZ;have UZ:=wB.good;have yS:=Jf.dx3 q λU=>CG U nI nH sR n5 jH wB;have Ye:=yS.good;have Ca:=LX.dx4 q λU=>FQ U Em UF nI n5 hJ nH sR jH wB gZ;have s8:=Ca.good;have Cb:=LY.dx3 q λU=>FR U nI sR nH n5 jH wB;have r3:=Cb.good;have tU:=CY.dx3 q λU=>y9 U Ca Cb yS;have U2:=tU.good;have Cc:.D2 Hu C "say" 11 2 cw:=⟨nG,_,_,⟨Ma,j4,B3⟩,Me,.Tl FS B5 T B8 yQ Es tU JJ⟩;have Mi:=Cc.good;have yT:=Ji.dy1 q λU=>CH U bG kD hJ iw dQ;have Yf:=yT.good;have yU:=Jj.dy2 q λU=>CJ U br bG cK kD Dc JC dQ;have Yg:=yU.good;have yg:=Qj.dy2 q λU=>Ij U bG dQ;have s4:=yg.good;have yV:=Jk.dy3 q λU=>CK U br bG kD yg dQ;have Yh:=yV.good;have wC:=GA.dy3 q λU=>Bk U br Aa l0 yg dQ;have Xx:=wC.good;have Cd:=L4.dy1 q λU=>FT U aI d9 bG UZ yT yU yV wC dQ;have r8:=Cd.good;have qE:.D2 Fy.DefKY "Desk" C 7 2 bP:=⟨.c7 m2,ii,_,_,⟨n3,zp,e6,m3⟩,zt,.Tl vU qC T Cd⟩;have zw:=DefKY.good qE;have Ce:=BY.df2 q (za T r6 n2 (.aE l9) l7 m4 Cc wv).ok;have Cf:=BZ.df1 q λU=>zc U qm oK;have yh:=xW.df1 q λU=>vV U d9 bG;have yi:=xX.df1 q λU=>vW U br bG d9 qm oK;have wD:=wn.df1 q λU=>uA U br bG d9 oK JE qm;have Cg:=B0.df2 q (zd bG Cf yh yi wD).ok;have Ch:=B2.df2 q λU=>ze U bG;have tH:=sW.df2 q (rJ T lh ik t (.aE a) l4 l2 Zg qE wv B7).ok;exact .Tl Z0 n8 br d9 T Ce B7 zw tH Ch Mi Cg yP JG GO
end Fm
namespace Fm
/---/def dg(n:Nat):.g:=(Nat.toDigits 10 n).map Char.toNat
def Z2:∀n<10,dg n=.wI:=.ac
variable{n:Nat}
def nh(h:n<10):dg n=.wI:=Z2 n h
def dgc(h:n<10):.gW n.digitChar=48+n:=by
 rw[.w4 (nh h) dg (Nat.toDigits_of_lt_base h)];simpa using this
def FU(h:10<=n):dg n=dg (n/10)++[48+n%10]:=by
 rw[dg,Nat.toDigits_of_base_le .b h,zBQ,xI,zZu,dgc<|Nat.mod_lt _ .b,dg]
def S4(n:Nat)(h:n<10^60):1<=.ad dg n/\.ad dg n<=60:=by
 rw[dg,zST];rw[.o Nat.length_toDigits_pos ((Nat.length_toDigits_le_iff .b .b).mpr h)]
def K7(n:Nat):∀c∈dg n,.g2:=by
 induction n using Nat.strongRecOn with
 |ind n b =>
  intro c a
  by_cases h:n<10
  ·rw[nh h]at a;simp at a;lia
  ·rw[FU .b]at a
   rw[.ec]
   ·exact b (n/10) .b c a
   ·simp at a;lia
def Z3(n:Nat):wT (dg n)=n:=by
 induction n using Nat.strongRecOn with
 |ind n a =>
  by_cases h:n<10
  ·rw[nh h];simp[wT]
  ·rw[FU .b,wT,List.foldl_append]
   rw[.hS (a (n/10) .b) wT];rw[.a9];simp
   lia
def Wk(n:Nat):∃c r,dg n=c::r/\(n≠0->c≠48)/\(n=0->c=48/\r=[]):=by
 induction n using Nat.strongRecOn with
 |ind n a =>
  by_cases h:n<10
  ·exact⟨48+n,[],nh h,.Be,λz=>.g5 .b⟩
  ·obtain⟨c,r,e,b,_⟩:=a (n/10) .b
   exact⟨c,r++[48+n%10],.u3<|FU .b,λ_=>b .b,.Be⟩
/---/def tx(i:Int):.g:=vj .yu
def FV(n:Nat):tx .ek=dg n:=by
 have e:toString .ek=n.repr:=by rw[Int.toString_eq_repr,Int.repr_eq_if,.kM,zYc]
 rw[tx,vj,e,Nat.repr_eq_ofList_toDigits,String.toList_ofList,dg]
def Z4(h:0<n):tx (-.bp)=45::dg n:=by
 have e:toString (-.bp)="-" ++ n.repr:=by rw[Int.toString_eq_repr,Int.repr_eq_if,.n0];congr 2;lia
 rw[tx,vj,e,String.toList_append,Nat.repr_eq_ofList_toDigits,dg,zBQ];dsimp[String.toList_ofList];rfl
def K8(i:Int):tx i=.BH/\0<=i\/tx i=45::.BH/\i<0:=by
 by_cases h:0<=i
 ·refine .w0 ?_ h
  rw[.eT (.Lc FV) (show .aD i.natAbs=i by lia)]
 ·refine .F ⟨?_,.b⟩
  rw[.eT (Z4 (n:=i.natAbs) .b) (show -.aD i.natAbs=i by lia)]
def K9(i:Int):∀c∈tx i,c=45\/.g2:=by
 intro c a;rcases K8 i with ⟨e,_⟩|⟨e,_⟩<;>rw[e]at a
 ·rw[.P (K7 _ c a)]
 ·rcases .bj a with z|a
  ·rw[.O z]
  ·rw[.P (K7 _ c a)]
def iL(i:Int)(h:.tZ):1<=.ad tx i/\.ad tx i<=61:=by
 have:=S4 _ h;rcases K8 i with ⟨e,_⟩|⟨e,_⟩<;>rw[e]
 ·lia
 ·simp;lia
def S5{i:Int}(h:.tZ):.CC:=by
 rw[.dI i.natAbs 0]
 ·rw[.eV z]
 ·exact(Nat.log2_lt z).mpr (YP h<|zBL (show 10^60<=2^200 by decide)<|.ww Nat.pow_le_pow_right)
variable{h h1:Hd}{σ:Sd}
def i6(p:.bM=.kO i)(b:.tZ):.ex gg=.pk (tx i):=by
 rw[.pO p];exact z3<|S5 b
def qB(p:.JQ y)(b:.akO)(q:r (out++y) σ h1=o):fB a r out σ h=o:=by
 rw[.pO p];exact .a2 z3 b q
def Nm(b:.bt out.length):wS out σ h=.ib out:=z3 b
def Nn(p:r [] σ h=o):fFs r σ h=o:=p
def cY(p:.JQ x)(q:.hO=.fi y c)(l:.bt<|x.length+y.length):.ck a b σ h=.fi (x++y) c :=
 aw p q<|z3 l
theorem sH:∀l:.A,o3 (.b8 D.str)=.eC
 |[]=>rfl
 |x::l=>by dsimp[xI,o3,sH l,zXe]
theorem sI:∀{l:.A},(∀x∈l,.xv k)->(.b8 (·.length)).sum<=k*l.length
 |[],_=>.f
 |x::l,h=>by
  have h1:=h x .f;have b:=sI (l:=l) λy a=>h y<|.k a;have e:k*.s (x::l)=k*l.length+k:=.L xR Nat.mul_succ
  rw[xI,zWx,e]
  lia
def Bl(p:.cC .g3)(b:∀x∈L,.xv 200)(l:.yU 1100):lu [sp] a σ h=.pk (bD [sp] L):=by
 have:=sI b;rw[.pO p];show (match o3 .g3 with|some c=>_|none=>_)=_;rw[sH];exact z3 (by dsimp[xR,wb];lia)
def zN(p:.Y7)(q:h1[n]?=.x b)(r:.fy L=.kK a)(s:.lm a)(t:.Fn ds.length):qp x L σ h=.TE ds:=by
 rw[.fO];dsimp[q,r,aE,s];exact z3 t
noncomputable abbrev cz:.g:=.TX
noncomputable abbrev jY:.g:=.eA
noncomputable abbrev Bm:.g:=.fc
/---/def line(w:.g)(l:.l):.g:=.mZ<|w::.b8 tx
/---/def iM(t:Tie):.g:=line jY [.p0,t.b,t.w]
/---/def gr(b:Int):.g:=line Bm [b]
noncomputable def fz:.X->.g
 |none=>.cc
 |some x=>.oP 116++tx x
/---/def bM(n:Nat)(T:.ca)(bs:.l)(ss:.em):.A:=.HI .rl
def big{i:Int}(a:0<=i)(h1:i<=400):.tZ:=.im<|show i.natAbs<=400 by lia
structure TS(n:Nat)(t:Tie):Prop where
 a:(t.a:Int).natAbs<10^60
 b:(t.b:Int).natAbs<10^60
 w:t.w.natAbs<10^60
def XS(c:n<=30)(O:.dY)(a:t∈T):TS n t:=by
 have b:=O.lt t a;have d:=O.wt t a;exact⟨.rO,.rO,.rO⟩
def S6{x:Int}(h:.Kv)(e:o=.aF):x.natAbs<10^60:=by
 subst e;simp at h;rcases h with z|z<;>subst z<;>decide
def S7(h:TS n t):.ad iM t<=200:=by
 have a:=iL _ h.a;have c:=iL _ h.b;have b:=iL _ h.w;dsimp[iM,line,bD,xI,zZu,zAK,xR,wb]
 lia
def S8(h:.h3):.ad gr b<=200:=by
 have a:=iL _ h;dsimp[gr,line,bD,xI,zZu,zAK,xR,wb]
 lia
def Pq(h:.h3):.s (line cz [b])<=200:=by
 have a:=iL _ h;dsimp[line,bD,xI,zZu,zAK,xR,wb]
 lia
def Pr(h:.Kv):.ad fz o<=200:=by
 rcases h with e|e|e<;>subst e<;>decide +kernel
def xv(d:n<=30)(O:.dY)(lb:.j5)(ls:.he)(os:∀x∈ss,.fZ)(bb:∀b∈bs,.h3):
  (∀x∈.kA,.xv 200)/\.Fd<=1100:=by
 have f:=O.len;constructor
 ·intro x a
  rw[.aaO (.bj a)]
  ·rw[e];exact Pq .rO
  ·rw[.ec]
   ·rw[.FL a]
    exact S7 (XS d O c)
   ·rw[.ec]
    ·rw[.FL a]
     exact S8 .H0
    ·rw[.FL a]
     exact Pr (os t c)
 ·dsimp[bM,xR,zAK,zST]
  lia
def FW{g:Hd}:(h++c::g).set h.length d=h++d::g:=by
 rw[.akJ<|zBK _,Nat.sub_self];rfl
def rK{g k:Hd}:((h++c::g)++k).set h.length d=h++d::(g++k):=by
 rw[zBT,zYb,FW]
def eJ{g:Hd}:.fM (h++c::g)=.a8:=by
 rw[.hc zAM,Nat.sub_self];rfl
def Wl(a b:.g)(h:Hd):.og oNe a (.h b) h=.ma .m8:=rfl
def FX(a b:.g)(h:Hd):.og oEq a (.h b) h=.aY .m8:=rfl
variable{l:List Nat}
def xw(p:.mo)(q:.hO=.fi k c):.lP nQ=.cQ .agU c:=by
 rw[.fO];rw[.hF q]
def Im(p:.mo)(q:.akj):.ex AA=.cR (.pG,none):=by
 rw[.fO];exact z3 q
def Wm(p:.mo)(q:.m4):.ex MR=.kO l.length:=by
 rw[.fO];exact z3 q
noncomputable abbrev FG:.g:=.Tc
def Z5:∀k<10,48+k∈FG:=.c
variable{c:Nat}
def Z6(h:.g2):c∈FG:=by
 have e:=Z5 (c-48) .bm;rwa[show 48+(c-48)=c by omega]at e
def zO{n:Int}(p:.mo)(q:.f1 600)(r:yX l=.e8):.ex o0=.kO n:=by
 rw[.fO];show (.agS<|.GZ n h1)=_;rw[z3 q,r]
def vY(p:.mo)(q:.m4):ou c a σ h=.cR (.mY .p7):=by
 rw[.fO];exact z3 q
def sJ{l:.m}(p:.cC .aK)(q:h1[n]?=.x (x::l)):dY a .OG pNo σ h=.b7 h1.length (.aS h1 l):=by
 have e:cut (x::l) (.a 1) none=l:=by
  simp[cut,sIx]
 rw[.fO];dsimp[pAt,fC,aE,pNo,jL,q,e]
def zP(h:c≠45)(a:¬.g2):c∉tx i:=λz=>by
 rcases K9 i c z with e|e
 ·exact h e
 ·exact a e
theorem sK:∀{L:.A},.s (bD [sp] L)<=(L.map (·.length)).sum+L.length
 |[]=>zBK _
 |[x]=>.k bD
 |x::y::r=>by
  have a:=sK (sp:=sp) (L:=y::r);rw[bD,zAK,zAK,xI,zWx,xR];dsimp[xR,wb]at a⊢;omega
/---/def isN(w:.g):Prop:=w≠[]/\w.length<=60/\(w.head? = .a 48->w=.aO)/\∀c∈w,.g2
instance(w:.g):Decidable (isN w):=by unfold isN;exact inferInstance
/---/def num(w:.g):.lQ:=.m9 (isN w)<|.b0 wT w
noncomputable def sn:.g->.X
 |45::f=>(num f).bind λn=>.Q n 0 none<|.a<|-.bp
 |w=>.bD num w Int.ofNat
structure Tx(l:List Nat):Prop where
 ln:l.length<=99999
 as:∀c∈l,c<128
variable{w:List Nat}
def rL(h:num w=.e8):isN w/\wT w=n:=by
 unfold num at h;split at h
 ·rw[.o ‹_› (zBS h)]
 ·cases h
def Io(h:isN w):OH w=true:=by
 obtain⟨b,_,_,a⟩:=h;dsimp[OH,UE,zYn,vb];rw[.bN ?_ a];cases w with
 |nil=>exact .bg b
 |cons=>rfl
def Wn(h:num w=.e8):yX w=.a .ek:=by
 obtain⟨a,d⟩:=rL h;have f:=Io a;obtain⟨_,_,_,b⟩:=a;cases w with
 |nil=>cases f
 |cons c r =>
  have:=b c .f;rw[yX,yM .bm,z3 f,d]
def S9(h:num w=.hI):w=.aO:=by
 obtain⟨⟨g,k,i,f⟩,e⟩:=rL h;cases w with
 |nil=>exact .bg g
 |cons c r =>
  rw[.dI c 48]
  ·subst z;exact i rfl
  ·exfalso
   have l:=f c .f;have:∀(r:.g) (a:Nat),1<=a->1<=r.foldl (λb c=>b*10+(c-48)) a:=λr=>by
    induction r with
    |nil=>exact λa h=>h
    |cons d r j=>intro a h;refine j (a*10+(d-48)) ?_;omega
   have:=this r (0*10+(c-48)) .bm;unfold wT at e;rw[List.foldl_cons]at e;omega
def Bn(h:sn w=.fH):yX w=.fH/\w.length<=61/\∀c∈w,c=45\/.g2:=by
 unfold sn at h;split at h
 ·rename_i f
  obtain⟨n,d,b⟩:=.T7 h;split at b
  ·cases b
  ·cases b
   obtain⟨a,j⟩:=rL d;refine⟨by rw[yX,.cb,z3<|Io a,j],by have:=a.2.1;simp;omega,λc g=>?_⟩;rw[.hs g]
   ·rw[.O e]
   ·rw[.P (a.2.2.2 c e)]
 ·obtain⟨n,d,b⟩:=.n1 h
  subst b;obtain⟨a,j⟩:=rL d;exact⟨Wn d,by have:=a.2.1;omega,λc g=>.F<|a.2.2.2 c g⟩
def Z7:sn w=.a .ek↔num w=.e8:=by
 unfold sn;split
 ·rename_i f
  constructor
  ·intro h
   obtain⟨m,b,a⟩:=.T7 h;split at a
   ·cases a
   ·have:=zBS a
    omega
  ·intro h
   have:=(rL h).1.2.2.2 45 .f;omega
 ·constructor
  ·intro h
   obtain⟨m,b,a⟩:=.n1 h;have a:.M m=n:=a;rw[b];congr 1;omega
  ·intro h;rw[h];rfl
def Ta(b:.tZ):sn (tx i)=.fH:=by
 have g:=S4 _ b;have l:=.Lc K7;obtain⟨c,r,f,k,h⟩:=.Lc Wk;have a:isN .BH:=⟨.fm f,g.2,λe=>by
  rw[f]at e⊢;have e:c=48:=.eF
  rw[.dI i.natAbs 0]
  ·obtain⟨_,j⟩:=h z;rw[e,j]
  ·exact .B e (k z),l⟩
 have d:num .BH=.a i.natAbs:=by unfold num;rw[z3 a,Z3]
 rcases K8 i with ⟨e,z⟩|⟨e,z⟩
 ·rw[e]
  have:sn .BH=.a (.mv i.natAbs):=Z7.mpr d;rw[this,Int.natAbs_of_nonneg z]
 ·rw[e]
  show (num .BH).bind _=_;rw[d];show (.Q i.natAbs 0 none<|.a<|-.M i.natAbs)=_;rw[yM λq=>Int.ne_of_lt z<|Int.natAbs_eq_zero.mp q,Int.ofNat_natAbs_of_nonpos<|zVr z,Int.neg_neg]
def Z8(c:Nat):.D (c∈FG)=.D .g2:=by
 by_cases h:.g2
 ·rw[y3 h,y3<|Z6 h]
 ·rw[z5 h]
  refine z5 λz=>h ?_;exact(show ∀c∈FG,.g2 by decide) c z
def at0(p:.JQ<|c::r)(ln:.bt .Qg):RJ a .a1 σ h=.pk [c]:=by
 refine .cV p ?_;show (.cZ (.bt .Qg)<|.apr (ixN .Qg 0) ((c::r)[j]?) (.nv (D.str [c]) h1) .bad .bad)=_;have b:ixN .Qg 0=.hI:=.k ixN
 rw[z3 ln,b];rfl
def Wo(l:.g)(h:Hd):.oV .pG .UJ .pG .bH h=.v (.yH<|D.bl<|.D .g2):=by
 have:=.x3 .pG (e:=.UJ) (h:=h) (I:=.qN) .c3 (.S0<|.tw .g2) trivial (xs:=.pG) (σ:=.bH) (by
  rw[.apk (.ar b)];refine .jg (.ia ?_);show .Et<|c∈FG;rw[Z8]) .K
 rw[this,.hf,UD];rfl
theorem ni{α:Type}(f:.cH α):∀l:.bY,qo (.yH<|D.bl<|f c)=.a .B5
 |[]=>rfl
 |x::l=>by rw[xI,qo,ni f l];rfl
def vZ(t:Tx w)(h:Hd):gF [.h w] h=.aY ((sn w).isSome):=by
 have u:=t.ln;obtain⟨f,sg,d,x⟩:∃f,∃sg:Bool,(w=if sg then 45::f else f)/\.NA=.Q1/\((.cM sg)->∀r,f≠45::r):=by
  by_cases z:∃f,w=45::f
  ·obtain⟨f,rfl⟩:=z
   refine .bh f true ?_ .CN;show .k5 ((num f).bind _)=_
   by_cases g:isN f
   ·have j:num f=.b0 wT f:=by unfold num;rw[z3 g]
    rw[j,y3 g];show .k5 (.Q (wT f) 0 none<|.a<|-(wT f:Int))=_
    by_cases p:wT f=0
    ·rw[p]at j
     rw[z3 p,S9 j];rfl
    ·rw[yM p,z5 λz=>p<|.aE z];rfl
   ·have j:num f=none:=by unfold num;rw[yM g]
    rw[j,z5 g];rfl
  ·refine .bh w false ?_ λ_ r e=>z ⟨r,e⟩
   have:sn w=.bD num w Int.ofNat:=by
    unfold sn;split
    ·exact .B .K z
    ·rfl
   rw[.a9];unfold num;split<;>rename_i g
   ·rw[y3 g];rfl
   ·rw[z5 g];rfl
 obtain⟨x,s⟩:=x;have G:f.length<=100000:=by rw[d]at u;split at u<;>first|omega|(rw[xR]at u;omega)
 have C:∀c∈f,c<128:=λc v=>t.as c (by rw[d];split<;>simp[v]);have A:.acm [.aI w,none] h=.d5 .re:=by
  cases sg with
  |false =>
   have d:w=f:=d;rw[d];refine aH<|.jT Fp<|aG<|.il<|.ab xw;cases f with
   |nil=>rfl
   |cons c r =>
    have:c≠45:=λz=>s rfl r (.bA z);simp[this]
  |true =>
   have d:w=45::f:=d;rw[d];refine aH (.i (Fo (h1:=h)<|aG<|.il<|.ab xw) ?_)
   ·simp
   ·show (.cZ (.bt<|.s<|45::f)<|match .alY with|some y=>.nv (D.str y) h|none=>.bad)=_
    rw[z3 (by simp;omega)];have:.alY=.iB:=by
     show (.wZ (.M 0<=1/\.gk<=.s (45::f))<|.ZW<|45::f)=_;rw[z3 (by dsimp[xR];omega)];rfl
    rw[.a9]
 rw[x];have m:.ahS .re h=.aY .aeS:=ax (ah (Wm rfl .bm) .Py) .HA
 by_cases b:1<=f.length/\f.length<=60
 ·rw[y3 .bm,y3 .bm]at m
  have B:=.agJ m;have o:t5 (.Er .UJ) .re h=.aY (.UI .g2) :=
   pT (cV (Im rfl ⟨.bm,zYn.mpr λc v=>by have:=C c v;simp;omega⟩)<|Wo f h)<|ni _ f
  by_cases dg:∀c∈f,.g2
  ·have:.UI .g2=true:=.uJ dg
   rw[this]at o;have F:=.agJ o;obtain⟨c,r,i⟩:∃c r,f=c::r:=by cases f with|nil=>simp at b|cons c r=>rw[.oe c r]
   have E:.cA RJ .a1 .re h=.ib [c]:=at0 (r:=r) (.aE i) (by rw[<-i];omega);have n:.akt .re h=.ma (.aN [c] .aO):=.wS E;have l:.fd 0 (.ae .aO) .re h=.aY (.aN w .aO):=.r1;refine .cT (sx A (sx B (sx F (aV (lJ (b:=.Q1) ?_)))))
   rw[.dI c 48]
   ·rw[y3<|.bA z]at n
    refine gj (aG n) ?_
    by_cases y:w=.aO
    ·rw[y3 y]at l
     have:.cM sg:=by cases sg with|false=>rfl|true=>rw[.pL y]
     subst this;have d:w=f:=d;have k:.av (.Tx false):=by rw[<-d,y];decide
     rw[k];exact aG l
    ·rw[z5 y]at l
     have:.cM .Q1:=by
      cases sg with
      |false =>
       have d:w=f:=d;rw[z5 λq=>y (by rw[d];exact q.2.2.1<|.zq i)];rfl
      |true =>
       by_cases q:isN f
       ·rw[y3<|q.2.2.1<|.zq i];simp
       ·rw[z5 q];rfl
     rw[.a9];exact aG l
   ·rw[z5 .LV]at n
    have:.av (.Tx sg):=by
     rw[y3 ⟨.fm i,b.2,λq=>.B (by rw[i]at q;simpa using q) z,dg⟩,z5 (by rw[i];simp[z])];simp
    rw[.a9];exact mR (aG n)
  ·have:.UI .g2=false:=by
    rw[.H9];exact dg .LQ
   rw[this]at o;rw[z5 λq=>dg q.2.2.2];exact .cT (sx A<|sx B<|.N0<|.aZ o)
 ·have:.cM .aeS:=by
   rw[.H9];simp at q;omega
  rw[this]at m;rw[z5 λq=>b ⟨by have:=q.1;cases f with|nil=>exact .bg this|cons=>simp,q.2.1⟩];exact .cT (sx A<|.N0<|.aZ m)
theorem ky(c:Nat):∀l,.p7≠[]
 |[]=>.k bL
 |x::l=>by
  have:=ky c l;rw[bL];split
  ·simp
  ·split<;>simp
def uB(h:r≠[]):.qa (w::r)=w++c::.qa r:=by
 cases r with
 |nil=>exact .bg h
 |cons x r=>rw[bD];simp
def Lc:.qa ((x::w)::r)=x::.qa (w::r):=by
 cases r with
 |nil=>rfl
 |cons y r=>rw[bD,bD];simp
theorem join_split(c:Nat):∀l,.qa .p7=l
 |[]=>rfl
 |x::l=>by
  have a:=join_split c l;have ne:=ky c l;rw[bL];split
  ·rename_i b
   rw[uB ne,a,b];rfl
  ·split
   ·rename_i w r e
    rw[Lc,<-e,a]
   ·rename_i e;exact .B e ne
theorem split_free{c:Nat}:∀{l:.g} {w:.g},w∈.p7->c∉w/\(∀x∈w,x∈l)/\.h5 w.length
 |[],w,h=>by
  rw[bL]at h;rw[.df h];simp
 |x::l,w,h=>by
  rw[.Qw bL]
  ·rw[.hs h]
   ·rw[e];simp
   ·obtain⟨h1,b,f⟩:=split_free e
    rw[.C h1 .anJ .bz]
  ·rename_i g
   split at h
   ·rename_i v r e
    rcases .bj h with d|d
    ·obtain⟨h1,b,f⟩:=split_free (l:=l) (w:=v) .tb
     rw[d];refine⟨.gz,λy a=>?_,.bz⟩
     ·rw[.Af z]
      ·exact g z.symm
      ·exact h1 z
     ·rw[.Af a]
      ·rw[z];simp
      ·exact .dF (b y z)
    ·obtain⟨h1,b,f⟩:=split_free (l:=l) (w:=w) (by rw[e];exact .dF d)
     rw[.C h1 .anJ .bz]
   ·rename_i e;exact .B e (ky c l)
theorem v5(c:Nat):∀l,.s .p7<=l.length+1
 |[]=>.k bL
 |x::l=>by
  have a:=v5 c l;rw[bL];split
  ·simp;lia
  ·split
   ·rename_i w r e;rw[e]at a;simp at a⊢;lia
   ·simp
def Tx.part(t:Tx l)(h:w∈.p7):Tx w:=by
 obtain⟨_,b,a⟩:=split_free h;exact⟨zBL a t.ln,λx d=>t.as x<|b x d⟩
/---/def nb(wd l:.g):.l:=match .iF l with
 |w0::r=>if w0=wd/\(∀w∈r,.wa w) then r.map .Fk else []
 |[]=>[]
def Tb{R:.A}(b:∀w∈R,Tx w)(j:.i7 .mQ):.yr .mQ (.cs gF) .mQ .bH h=.v (R.map λw=>D.bl (sn w).isSome):=by
 have:=.aej (.cs gF) (λd=>match d with | .str w=>.bl .NA|_=>.non) j (xs:=.mQ) (σ:=.bH) (by
  rintro x i σ ⟨a,rfl⟩;obtain⟨c,f,rfl⟩:=.ar i;exact .jg<|.jc<|vZ (b c f) h) .K
 rw[this,.hf,UD];rfl
def Ps{R:.A}(b:∀w∈R,.wa w)(o:.i7 .mQ):.yr .mQ .Bw .mQ .bH h=.v (.dH<|R.map .Fk):=by
 have:=.aej .Bw (λd=>match d with | .str l=>.e (.x9 l)|_=>.non) o (xs:=.mQ) (σ:=.bH) (by
  rintro x m σ ⟨a,rfl⟩;obtain⟨c,n,rfl⟩:=.ar m;obtain⟨i,f⟩:=.qj<|b c n;obtain⟨j,p,_⟩:=Bn f;refine .jg<|.il<|zO rfl .b j;show _=.GZ ((sn c).getD 0) h;rw[f];rfl) .K
 rw[this,.hf,UD,UD];rfl
def uC(wd:.g)(t:Tx l)(h:Hd):
  ∃k g,ce [.h wd,.h l] h=.b7 k (h++g)/\h.length<=k/\.Yt (.dH<|nb wd l):=by
 have len:=t.ln;have B:=v5 32 l;obtain⟨d,R,r⟩:∃d R,.iF l=d::R:=by
  cases e:.iF l with
  |nil=>exact .B e<|ky _ _
  |cons a b=>rw[.oe a b]
 have F:∀w∈R,Tx w:=λw C=>t.part (c:=32) (by rw[r];exact .dF C);rw[r,xR]at B;have f:nb wd l=if d=wd/\(∀w∈R,.wa w) then R.map .Fk else []:=by unfold nb;rw[r]
 obtain⟨W,i⟩:=qq .mQ;have v:.pe (ou 32<|aa 1) (.SX none) h=.nx .Hn .wn:=by
  have q:=vY (c:=32) (a:=aa 1) (σ:=.SX none) (h:=h) rfl .b;rw[r,xI,<-i]at q;exact aH<|cF q (by rw[i];simp[SZ];lia)
 have j:.ej .zV (aa 0) .Hn .wn=.cQ (! .aN d wd) .wn:=.cV (.cG eJ .sm) rfl
 by_cases o:d=wd
 ·have y:(.YS)[(.i8 1)]?=.x W:=by
   have e:.i8 1=.Ge .qq:=.f
   rw[.ap e zAP]
  have A:=Tb F (k:=.i8 1) (h:=.YS)<|.ay i y;rw[<-i]at A;have u:.DB .Hn .wn=.G1 1 (.wn++.cw W):=.i (sJ rfl eJ)<|.aE zAK;have p:=pT (.KD [] (dM u y) A)<|ni _ R;rw[y3 o]at j
  by_cases m:∀w∈R,.wa w
  ·have:.aoE=true:=.uJ m
   rw[this]at p;have E:=.i (dL (a:=bf<|bJ am) (b:=aX)<|gj (aG j)<|.aZ p)<|.d2<|aX .Hn (.ah .qq++.cw W)=_;have n:(.YS++.cw W)[(.i8 2)]?=.x W:=by
    have e:.i8 2=.s (.ho .qq++.dX W):=.f
    rw[.ap e zAP]
   have x:=Ps m (k:=.i8 2) (h:=.ho .qq++.dX W++.dX W)<|.ay i n;rw[<-i]at x;have s:.DB .Hn (.wn++.cw W)=.G1 2 (.wn++.cw W++.cw W):=.i (sJ rfl<|.ag eJ)<|.EL zAK;have G:=aV<|cF (.KD [] (dM s n) x) .Hx;rw[f,z3<|.fz m];refine .g4 (.i8 3) [.eG .qq,.q W,.q W,.q<|.dH<|R.map .Fk] ?_ ?_
   ·refine .il<|.ft<|sx v<|sx E G
    rw[cN];simp
   ·simp
   ·rw[zAM .f];simp
  ·have:.aoE=false:=by rw[.H9];exact m .LQ
   rw[this]at p;rw[f,yM<|.sE m];refine .g4 (.i8 2) [.eG .qq,.q W,.q []] ?_ ?_
   ·refine .agn<|gj (aG j)<|.aZ p
    rw[cN];simp
   ·simp
   ·rw[zAM .f];simp
 ·rw[z5 o]at j
  rw[f,yM λz=>o z.1];refine .g4 (.i8 1) [.eG .qq,.q []] ?_ ?_
  ·refine .agn<|mR<|aG j
   rw[cN];simp
  ·simp
  ·rw[zAM .f];simp
def No(h:sn w=.fH):32∉w:=λz=>by
 have:=(Bn h).2.2 32 z
 lia
def Z9(b:32∉wd)(x:Int):nb wd l=[x] ↔ .ake:=by
 constructor
 ·intro h
  unfold nb at h;split at h
  ·rename_i f r e
   split at h
   ·rename_i c
    obtain⟨rfl,d⟩:=c;obtain⟨w,rfl⟩:∃w,r=[w]:=by
     cases r with
     |nil=>cases h
     |cons w r =>
      cases r with
      |nil=>exact .g5 w
      |cons _ _=>simp at h
    obtain⟨i,a⟩:=.qj<|d w .f;have h:[.x9 w]=[x]:=h;rw[a]at h;refine .gi w (by rw[a];simpa using h);have j:=join_split 32 l;rw[e,uB .f]at j;exact j.symm
   ·cases h
  ·cases h
 ·rintro⟨w,rfl,h⟩
  unfold nb;rw[ui b,qW<|No h];simp[h]
/---/def nu(wd l:.g):.X:=match nb wd l with | [x]=>.aF|_=>none
def iY:nu wd l=.aF↔nb wd l=[x]:=by
 unfold nu;split
 ·rename_i y e;rw[e];simp
 ·rename_i e
  constructor
  ·intro z;cases z
  ·intro z;exact .B z (e x)
/---/def gu(l:.g):.lQ:=match nu cz l with
 |some x=>.wZ (1<=x/\x<=30) x.toNat
 |none=>none
/---/def nX(l:.g):.X:=nu Bm l
structure TL where
 a:Int
 b:Int
 w:Int
/---/def nY(n:Nat)(l:.g):.as Tie:=match .ky with
 |[a,b,w]=>.wZ (0<=a/\a<b/\b<n/\1<=w/\w<=400) .amc
 |_=>none
/---/def isT(l:.g):Prop:=.gP 4=.jh
instance(l:.g):Decidable (isT l):=by unfold isT;exact inferInstance
def ab9{k:Nat}(p:.mo)(b:.fy j=.kO k)(q:.m4):eT a pNo (pAt j) σ h=.pk (.gP k):=by
 unfold eT;rw[p,aE];dsimp[pNo,pAt,aE,b,Cp];rw[z3 q,.kM];simp
def Wp{k:Nat}(p:.mo)(b:.fy j=.kO k)(q:.m4):eT a (pAt j) pNo σ h=.pk (.hC k):=by
 unfold eT;rw[p,aE];dsimp[pNo,pAt,aE,b,Cp];rw[z3 q,.kM];simp
def Wq(a:.j4)(t:.k9)(e:.jH b=.bk σ'' h'):.Ou=.lG σ'':=by
 rw[dD,z3 a,t];dsimp[e]
def Bo(p:.fy a=.nm [x,y,z] b):vn a pNo .Qm σ h1=.nm [x,y] b:=by
 rw[.hF p]
def Ai{l:.m}{x:D}:atI (l++[x]) (-1)=.aF:=by
 have e:ixN (.gT l [x]) (-1)=.a l.length:=by
  unfold ixN;rw[.n0,z3 .Up];dsimp[zAK,xR,wb];congr 1
  lia
 unfold atI;rw[.ap e zAP]
def Pt(X:.ca):tZ (X.map cC)<=20:=.bf<|DR (k:=1) (λt=>.jB cC dep tZ) X
def pi{d c:Hd}(p:.fy a=.bU m d)(q:b σ d=.bU (m+k:Nat) c)(l:.bt<|m+k):iP a b σ h1=.nB (.cY k<|.lJ m) c:=by
 rw[.fO];rw[.pO q];show (if (.AW (.M m)/\.bt (.M m))/\.AW (.aD<|m+k)/\.bt (.aD<|m+k) then _ else _)=_;rw[.kM];have e:.gW (.aD (m+k)-m)=k:=.b
 rw[e];congr 2
noncomputable def rM(n:Nat):.cH .l
 |[a,b,w]=>.D<|0<=a/\a<n/\0<=b/\b<n/\a≠b/\1<=w/\w<=400
 |_=>false
def Bp(n:Nat)(L:.l)(h:Hd):fO [.gj,.E<|.dt L.map] h=.aY (rM n L):=by
 have p:∀{σ:Sd},.BJ .tuple (.K1<|.dt L.map) h=.v false:=.HZ;have f:.ej .n6 .l1 (.K1<|.dt L.map) h=.ma (.aN (.ad L.map D.int:Int) 3):=.JE rfl .HD;rw[zST]at f
 by_cases c:L.length=3
 ·rw[y3 .b]at f
  obtain⟨a,b,w,rfl⟩:∃a b w,L=.nF:=by
   rcases L with _|⟨x,_|⟨y,_|⟨z,_|⟨_,_⟩⟩⟩⟩<;>simp at c
   rw[.al x y z rfl]
  have d:.yx 2 .zc h=.aY (.cg 0 a&&.cg a (n-1)):=.Kc .HA;have g:.yx 3 .zc h=.aY (.cg 0 b&&.cg b (n-1)):=.Kc .HA;have t:.afT .zc h=.aY .anM:=ax (.kj ah .Py) .HA;have i:.qE oNe (aa 3) .zc h=.ma .m8:=.ia .HD;have j:=.i (.To .aoI)<|.d2<|aX (.K1<|.dH .nF) h=_;have m:.gG .BR (.K1<|.dH .nF) h=.d5 (.JJ none):=.kj aH;have l:.jl .vL (.JJ none) h=.d5 (.JJ .mj):=.kj aH
  by_cases k:(0<=a/\a<n)/\0<=b/\b<n
  ·have e:.av .YM:=.bz
   have o:.av (.cg 0 b&&.Ek b):=.bz
   rw[e]at d;rw[o]at g;have r:=.i (.To<|gj (.aZ d)<|.aZ g)<|.d2<|aX .zc h=_
   by_cases ne:a=b
   ·rw[y3 ne]at i
    have:rM n .nF=false:=z5 λz=>(.nK z).1 ne;rw[.a9];exact .T6 (sx r<|.sH<|sB<|aG i)
   ·rw[z5 ne]at i
    have:rM n .nF=.anM:=by
     show .D _=_;rw[.hr Bool.decide_and (.aad ⟨λz=>(.nK z).2,λz=>⟨k.1.1,k.1.2,k.2.1,k.2.2,ne,z⟩⟩)]
    rw[.a9];exact .T6 (sx r<|.sH<|jU (aG i)<|aG t)
  ·have:rM n .nF=false:=z5 λz=>k ⟨⟨z.1,z.2.1⟩,z.2.2.1,z.2.2.2.1⟩
   rw[.a9];have:tOr (.b1<|.yx 2) (.b1<|.yx 3) .zc h=.v true:=by
    by_cases s:0<=a/\a<n
    ·have e:.av .YM:=.bz
     have o:.cM (.cg 0 b&&.Ek b):=.air<|k ⟨s,.b⟩
     rw[e]at d;rw[o]at g;exact gj (.aZ d) (.aZ g)
    ·have e:.cM .YM:=.air<|s .b
     rw[.od e (mR<|.aZ d)]
   exact .T6 (.N0 this)
 ·rw[.nW]at f
  have:rM n L=false:=by
   unfold rM;split
   ·exact .bg c
   ·rfl
  rw[.a9];exact .cT (.N0 .aoI)
/---/def nxt(acc:.ca)(a b:Int):Bool:=match acc.getLast? with
 |none=>true
 |some s=>.Lz [a,b]
def aaa{X:.ca}(a:.Xq h)(p:.dr i h=.v (.d A)):.alr=.a X.isEmpty:=by
 dsimp[eqG,jL,.ag a,zAP];unfold eqL;rw[z3<|Pt X];cases X with
 |nil=>rfl
 |cons t X=>rfl
def Tc{a b w:Int}(j:.Xq h):fS [.d A,.E<|.yL w] h=.aY (.LD X):=by
 have c:tE (aj oLt .BR .vL) [.qx,.dV<|.yL w] h=.v (.iO a b):=aG<|.kj aw (.s1 rfl) rfl;have g:.Xq (.ho []):=.ag j;have f:tE (.fd 0<|bJ am) [.qx,.dV<|.yL w] h=.ok X.isEmpty .cS:=by
  refine aG (.nc (cF rfl) ?_);show (.V3 .alr<|.IJ b<|.ho [])=_;rw[aaa (σ:=[.qx]) (i:=0) j rfl]
 by_cases l:a<b
 ·rw[y3 l]at c⊢
  rw[Bool.true_and];rcases List.eq_nil_or_concat X with e|⟨Y,s,e⟩
  ·rw[e]at f⊢
   exact .Km (.sH<|jU c<|mR f)
  ·have k:.cM X.isEmpty:=.tb
   rw[k]at f;have nx:nxt X a b=.Lz [a,b]:=by unfold nxt;rw[e,List.concat_eq_append,List.getLast?_concat]
   rw[nx];refine .Km (.sH<|jU c<|gj f<|aG<|aw (Bo<|bq (l:=X.map cC) (d:=cC s) rfl rfl (aS g) (by rw[e,List.concat_eq_append,zBQ];exact Ai)) (Bo rfl) rfl)
 ·rw[z5 l]at c⊢
  exact .cT (.sH<|sB c)
def Np:(∃t,nY n l=.a t/\nxt X t.a t.b=true)↔rM n .ky=true/\∃a b w,.ky=.nF/\.av (.LD X):=by
 unfold nY;constructor
 ·rintro⟨t,d,f⟩
  split at d
  ·rename_i a b w e
   split at d
   ·rename_i c
    cases d;rw[e];have g:.Zi:=.b
    have h:.Zn:=.b
    refine⟨y3 ⟨c.1,.b,.b,c.2.2.1,.b,c.2.2.2⟩,a,b,w,rfl,?_⟩;dsimp[g,h]at f;rw[y3 c.2.1,f];rfl
   ·cases d
  ·cases d
 ·rintro⟨d,a,b,w,e,f⟩
  rw[e]at d⊢;have d:=X2 d;rw[UE,vb]at f;have g:.Zi:=.b
  have h:.Zn:=.b
  rw[.eD .amc (z3 ⟨d.1,f.1,d.2.2.2.1,(.nK d).2⟩)];dsimp[g,h];exact f.2
def Nq(h:nY n l=.a t):D.tup (.dH .ky)=cC t/\.wq/\t.b<n/\.LT:=by
 unfold nY at h;split at h
 ·rename_i a b w e
  split at h
  ·rename_i c
   cases h;rw[e];have d:.Zi:=.b
   have f:.Zn:=.b
   refine⟨?_,.pc<|a.toNat<b.toNat,.pc<|b.toNat<n,c.2.2.2⟩;dsimp[cC,d,f];rfl
  ·cases h
 ·cases h
end Fm
namespace Fm
open Fy
variable{h h':Hd}{σ:Sd}
def eC(e:.gV=.sK):sPl f σ h=.sK:=.Wu
def nv(e:.gV=.sf):sPl f σ h=.sf:=.Wu
def aca(e:.gV=.O9):sPl f σ h=.O9:=.Wu
def cA{a:α}(e:.gV=.dN a):fPl f σ h=.dN a:=by unfold fPl;rw[e];rfl
variable{b:SF}
def pv(e:.v5 true)(q:a σ h'=o):.r0 dF=o:=by unfold dF;rw[.ap e q]
def fE(e:.v5 false):.r0 dF=b σ h':=by unfold dF;rw[e];rfl
def cR(e:.bM=.ic σ' h'):.lP aA=.ic σ' h':=.k1 aA e
def acb(e:.bM=.O9):.lP aA=.O9:=.k1 aA e
def Bq(e:.gV=.dd):sRaiseL n f σ h=.amD:=by unfold sRaiseL;rw[e]
def cI(a:.on)(st:.Zq)(e:.jN=.ic σ' h'):.tY=.ew:=by
 unfold bK runB;rw[z3 a,st,e];rfl
def oE(e:.gV=.ew):.Hm σ h=.GH:=by unfold aF outE;rw[e]
def cE(a:.N7)(b:F ds h1=.ew):.pB σ h=.ew:=by
 show .eE _ _=_;rw[a,aE];exact b
def Ld(p:.XL)(q:.L3 h1=o):qt it tg b σ h=o:=by unfold qt;rw[.ap p q]
def eK(a:.j4)(t:.k9)(e:.jH b=.lG σ'')(q:.OC b xs σ'' h'=o):.Ou=o:=by
 rw[dD,z3 a,t];rw[.mm e q]
def zQ(a:.j4)(t:.k9)(e:.jH b=.P7):.Ou=.P7:=by
 rw[dD,z3 a,t];dsimp[e]
def Br(m k:Nat):.cY (k+1) (.lJ m)=.fu (m:Int)::.cY k (.lJ<|m+1):=by
 rw[List.range_succ_eq_map,xI,UD];congr 1;apply vx;intro j _;show .fu _=_;congr 2;lia
noncomputable abbrev NT(k:Nat):D:=.exn "NoText" [.e k]
def Wr(t:Tx d)(r:h[lk]?=.x (.h d::R)):
  (∃n,gu d=.e8/\1<=n/\n<=30/\gR [.d lk] h=.ao n)\/(gu d=none/\.ah1):=by
 rw[.j λ_ u=>?_];obtain⟨k,g,q,v,m⟩:=uC cz t h;refine u ?_;have p:sPl (.anU cz) [.om,none] h=.nx .AI (h++g):=eC<|aH<|ax (.nN<|.cG r .sm) q;have f:.ej .n6 .aa .AI (h++g)=.cQ (! .aN ((nb cz d).length:Int) 1) (h++g):=by
  rw[.wW (aw (du<|.u8 cL (σ:=.AI) rfl<|aS m) (b:=.aa) rfl .HD) zST]
 have i:.aoG .AI (h++g)=.ok true (h++g)->.ah1:=λe =>
  ⟨g,.dA<|sx p<|.Bp e⟩
 by_cases c:∃x,nb cz d=[x]
 ·obtain⟨x,l⟩:=c
  have o:nu cz d=.aF:=iY.mpr l;rw[l]at f m;have at0:.BR .AI (h++g)=.bU x (h++g):=.cG m rfl;have j:.ac9 .AI (h++g)=.cQ .Vk (h++g):=ax (ah at0 .Py) .HA
  by_cases b:1<=x/\x<=30
  ·have e:.av .Vk:=.bz
   rw[e]at j;refine .G<|.g4 x.toNat (by unfold gu;rw[o];exact z3 b) .b .b;have s:.aD x.toNat=x:=.b
   rw[s];exact .i (.ft<|sx p<|.lI (gj (aG f)<|.aZ j)<|.sM at0) (dJ rfl)
  ·have e:.cM .Vk:=by rw[.H9];simp at q;lia
   rw[e]at j;rw[.P ⟨by unfold gu;rw[o];exact yM b,i<|gj (aG f)<|.aZ j⟩]
 ·have w:.s (nb cz d)≠1:=λz=>c (by
   obtain⟨x,l⟩:=.ajR;rw[.o x l])
  rw[.nW]at f;refine .F ⟨?_,i<|mR<|aG f⟩;have:nu cz d=none:=by
   cases e:nu cz d with
   |none=>rfl
   |some x=>exact .B ⟨x,iY.mp e⟩ c
  unfold gu;rw[.a9]
noncomputable def kg(n:Nat):.ca->.A->Bool × .ca × .A
 |acc,[]=>(true,acc,[])
 | acc,l :: r=>if isT l then (match nY n l with
   |some t=>.ajB
   |none=>.KV) else (true,acc,l::r)
def Td(l:.g):(.cg (.s .jh) l.length&&(.gP (.s .jh) == .jh))=.D (isT l):=by
 unfold isT;show (.D (.h5 4)&&(.gP 4 == .jh))=_
 by_cases c:.gP 4=.jh
 ·have:.h5 4:=by
   rw[.hS (.uk c) zZe];simp at this
   lia
  rw[y3 c,y3 this,c];rfl
 ·rw[z5 c,.g6 c,Bool.and_false]
noncomputable abbrev BT:SF:=(.bI .SQ
  (.bI .Sy
  (.aj0
  .XI)))
section
variable{n lk:Nat}{L:List (List Nat)}{h:Hd}
def Te(c:.Bn h){k:Nat}(e:L[k]?=.eC){a b:EF}{h' g:Hd}(d:a σ (h++g)=.b7 lk (h++g))(f:b σ (h++g)=.bU k (h++g)):fAt a b σ (h++g)=.fi l (h++g) :=
 bq d f (aS<|.ag c)<|.oy e
theorem D6(P:∀l∈L,Tx l)(X:.Gk)(O:.Bn h){all:.m}:∀(i:.A) (acc:.ca) (g:Hd) (y z:.J),.pY .xc=i->
  match kg n acc i with
  |(true,T,_)=>∃C G g',.af2=.nx [.om,.T,.aH,C,G] (h ++ .q .h6::g')
  |(false,T,_)=>∃σ' g',.af2=.Ne .d0
 |[],acc,g,y,z,_=>⟨y,z,g,.k dD⟩
 |l::r,acc,g,y,z,hd=>by
  have K:L[(.xc)]?=.eC:=by
   rw[.rE .anx]
  have hr:.pY (1+(acc.length+1))=r:=by
   rw[.hS (.eL .ZW hd) List.drop_drop];rw[<-Nat.add_assoc];simpa using this
  have V:Tx l:=P l<|zAT K;have la:acc.length<100000:=.lH<|.aw K
  obtain⟨H,u⟩:=.Em .Z7;have F:.fM H=.x .Z7:=.p u eJ
  have v:∀{z:.J},.hN (aa 3) .pQ H=.fi l H:=λ{z}=>by rw[u];exact Te O K (h':=[]) rfl rfl
  have N:∀{z:.J},.ak5 .pQ H=.cQ (.D<|isT l) H:=λ{z}=>.o9 (xw v rfl) Td;rw[<-u,xR,Br,kg]
  by_cases c:isT l
  ·rw[z3 c]
   rw[.j λ_ I=>?_];obtain⟨k,d,q,a0,gk⟩:=uC jY V H;refine I ?_;have Q:sPl .SQ .pQ H=.nx .pQ H:=eC<|.e1<|.rB<|N.trans (by rw[y3 c]);have M:sPl .Sy .pQ H=.nx .ro (H++d):=eC<|aH<|mf<|cL (ax (.nN v) q)<|aS gk;have s:aq fO (.yk 4) .ro (H++d)=.cQ (rM n .ky) (H++d):=.c9<|.aC Bp;have m:∀{a b w:Int},.ky=.nF->aq fS (.Fx 4) .ro (H++d)=.cQ (.LD acc) (H++d):=λ{a b w} e=>by
    rw[e];exact .c9<|Tc<|.ag F
   by_cases ok:∃t,nY n l=.a t/\.K2=true
   ·have E:=Np.mp ok
    rw[.j λ_ I=>?_];obtain⟨t,A,Y⟩:=ok;obtain⟨o,a,b,w,f,B⟩:=E;obtain⟨W,_⟩:=Nq A;refine I ?_;rw[o]at s;have m:=m f;rw[B]at m;have t3:=.i (fE (a:=sRaiseL "NoText"<|aa 3) (b:=aX)<|gj (.aZ s)<|.aZ m)<|.d2<|aX .ro (H++d)=_;have R:.ad acc.map cC<SZ:=.Hx
    have S:.XI .ro (H++d)=.agW:=by
     refine eC<|.wM<|.vP (.ag F) rfl (.ag F) R;rw[u,rK,W,zBQ];rfl
    have J:=D6 P X O (all:=all) r .xa (g++d) .RH (.dV<|.dH .ky)<|.p zAK hr;rw[A];dsimp[Y,zYh];have p:BT .pQ H=.agW:=sx Q<|sx M<|sx t3 S;have ex:.cY r.length (.lJ<|.xc+1)=.cY r.length (.y6 ((1+.s .xa+j:Nat):Int)):=by
     apply vx;intro j _;congr 2;simp;lia
    rw[ex];split at J
    ·rename_i T _ e
     obtain⟨C,G,g',q⟩:=J;rw[.al C G g' (.id p q)]
    ·rename_i T _ e
     obtain⟨σ',h',q⟩:=J;rw[.C σ' h' (.id p q)]
   ·have no:=λz=>ok<|Np.mpr z
    have tt:.ac3 .ro (H++d)=.ok true (H++d):=by
     cases o:rM n .ky with
     |false=>rw[o]at s;exact mR<|.aZ s
     |true =>
      rw[o]at s;obtain⟨a,b,w,f⟩:∃a b w,.ky=.nF:=by
       unfold rM at o;split at o
       ·rename_i e;rw[.al _ _ _ e]
       ·cases o
      have m:=m f;cases B:(.LD acc) with
      |true=>exact .B ⟨o,a,b,w,f,B⟩ no
      |false=>rw[B]at m;exact gj (.aZ s) (.aZ m)
    have p:BT .pQ H=.kf .xc .ro (H++d):=sx Q<|sx M<|.Bp tt;have Z:(match nY n l with|some t=>.ajB|none=>.KV)=.KV:=by
     split
     ·rename_i t A
      rw[yM λz=>ok ⟨t,A,z⟩]
     ·rfl
    rw[Z];have U:H++d=h++.eG .Z7::(g++d):=.fm u
    rw[U]at p;exact .bP _ (.f4 zQ rfl p)
  ·rw[yM c]
   have p:BT .pQ H=.bk .pQ H:=acb<|aca<|.jT i4<|bC (b:=false)<|aG<|N.trans<|.bA<|z5 c;refine⟨.RH,z,g,?_⟩;rw[.hr u (.f4 Wq rfl p)]
end
noncomputable def i0{α:Type}(f:.g->.as α):Nat->.bY->.A->Bool × .bY
 |0,acc,_=>(true,acc)
 |_+1,acc,[]=>(false,acc)
 |m+1,acc,l::r=>match f l with
  |some a=>i0 f m (.vC a) r
  |none=>(false,acc)
noncomputable abbrev CM:Tab:=.vy
/---/def iB(l:.g):.as .X:=lI CM l
def Tf(o:.X):VF o=bT o:=by cases o<;>rfl
def Ws{l b k:.m}(p:.Y7)(q:h1[n]?=.x b)(r:.fy y=.b7 m a)(s:.lm a)(t:a[m]?=.x k)(u:.Oe):DB x y σ h=.TE k:=by
 rw[.fO];dsimp[q,r,aE,s,t];exact z3 u
section
variable{n lk st:Nat}{L:List (List Nat)}{h:Hd}
def Bs(a:.Bn H){k:Nat}(b:L[k]?=.eC):d6 [.d lk,.e k] H=.fi l H:=by
 have lt:=.aw b;exact .cT<|sx (fE<|aG<|.aaB a<|.se re)<|.sM<|.cG a<|.oy b
def Bt(a:.Bn H):d6 [.d lk,.fw L.length] H=.YR :=
 .dA<|.Bp<|aG<|.aaB a<|rc<|.bA zST
theorem xx{α:Type}{f:.g->.as α}{enc:α->D}{b:SF}{all:.m}
  (v:∀(k:Nat) (l:.g) (acc:.bY) (g:Hd) (z:.J),L[k]? = .eC->acc.length<=30->match f l with
   |some a=>∃d g',b (.tv z) .PV=.nx (.tv d) (h ++ .q ((.vC a).map enc)::g')
   |none=>∃σ' g',b (.tv z) .PV=.Ne k)
  (t:∀(acc:.bY) (g:Hd) (z:.J),∃σ' g',b .Lp .PV=.Ne L.length) :
  ∀(m:Nat) (c:.A) (acc:.bY) (g:Hd) (y z:.J),.pY (.QA st)=c->.wu<=L.length->acc.length+m<=30->match i0 f m acc c with
  |(true,A)=>∃p d g',.agf=.nx [.om,.w st,.T,.aH,p,d] (h ++ .q (A.map enc)::g')
  |(false,A)=>∃σ' g',.agf=.Ne (st+A.length)
 |0,c,acc,g,y,z,_,_,_=>by cases c<;>exact⟨y,z,g,.k dD⟩
 |m+1,[],acc,g,y,z,hd,hle,_=>by
  have e:.wu=L.length:=by
   rw[.hS (.uk hd) zXj];simp at this;lia
  obtain⟨σ',i,q⟩:=t acc g z;rw[Br,e];rw[.C σ' i (by rw[show .wu=L.length from e];exact .f4 zQ rfl q)]
 |m+1,l::r,acc,g,y,z,hd,hle,C=>by
  have u:L[(.wu)]?=.eC:=by
   rw[.rE .anx]
  have lt:=.aw u;have o:=v .wu l acc g z u .b;rw[Br,i0];cases w:f l with
  |none =>
   rw[w]at o;obtain⟨σ',i,q⟩:=o;rw[.C σ' i (.f4 zQ rfl q)]
  |some a =>
   rw[w]at o;obtain⟨d,g',q⟩:=o;have s:=xx (all:=all) v t m r (.vC a) g' (.HL<|st + acc.length) d (by
    rw[.hS (.eL .ZW hd) List.drop_drop];rw[zAK,<-Nat.add_assoc];simpa using this) .bz .bz
   have B:.cY m (.lJ<|.wu+1)=.cY m (.y6 ((st+.s (.vC a)+j:Nat):Int)):=by
    apply vx;intro j _;congr 2;simp;lia
   rw[B];simp only;split at s
   ·rename_i A e
    obtain⟨p,d,g',q2⟩:=s;rw[.al p d g' (.id q q2)]
   ·rename_i A e
    obtain⟨σ',i,q2⟩:=s;rw[.C σ' i (.id q q2)]
theorem Wt(J:∀l∈L,Tx l)(O:.Gk)(K:n<=30)(N:st<=L.length)(w:.Bn h):
  match .p3 nX (.pY st) with
  |(true,bs)=>∃g,.KF jW=.iX (.Pr .i4)
  |(false,bs)=>∃g',.KF jW=.kf (st+bs.length) (h++g'):=by
 have C:.ae0:=.XD;have q2:.acT:=.amI;have r:=.aeP nX (enc:=D.int) (all:=.ZK)
  (b:=(.kn .XE
  (.JW .X8
  .Uc))) (λk l c g z A I=>by
   obtain⟨H,d⟩:=.Em .On;have v:.fM H=.x .On:=.p d eJ
   have G:Tx l:=J l<|zAT A;have u:=Bs (lk:=lk) (H:=H) (.K5 w) A;obtain⟨j,i,q,M,s⟩:=uC Bm G H;rw[<-d];have B:.fI .XE (.tv z) H=.nx .E9 (H++i) :=
    aH<|ax (ah .Br<|ah (.Dw ax u) .Br) (by show noX _=_;rw[q];rfl)
   have o:.X8 .E9 (H++i)=.cQ (! .aN ((nb Bm l).length:Int) 1) (H++i):=by
    rw[.wW (aw (du<|cL (a:=aa 5) (σ:=.E9) rfl<|aS s) (b:=.aa) rfl .HD) zST]
   cases p:nX l with
   |none =>
    have P:.s (nb Bm l)≠1:=λz=>by
     obtain⟨x,t⟩:=.ajR;have:nu Bm l=.aF:=iY.mpr t;unfold nX at p;rw[this]at p;cases p
    rw[.nW]at o;have F:h++.eG .On::(g++i)=H++i:=.fm d
    exact .bP _<|.i (sx B<|.Bp<|aG o)<|.Ly F.symm
   |some x =>
    have t:=iY.mp p;rw[t]at o s;have E:.Uc .E9 (H++i)=.nx .E9 (h ++ .q (.As<|c++[x])::(g++i)):=by
     refine eC<|.wM<|Ws rfl (.ag v) rfl (.ag v) s .Hx;rw[d,rK,zBQ]
    exact .bP _ (sx B<|.lI (aG o) E))
  (λc g z=>by
   obtain⟨H,d⟩:=.Em .On;have u:=.akI<|.K5 w;rw[<-d];refine .bP _ (.a2 cR (oE (h':=H) ?_)<|.Ly d);show .eE _ _=_;have:.ac1 .Lp H=.YR:=by
    show .eE _ _=_;rw[show .mq fPl .fc .Lp H=.nv (D.str .fc) H from .Br,aE];show .eE (.eE _ _) _=_;have:.Mk .Lp H=.YR:=.qb u;rw[.a9];rfl
   rw[.a9];rfl) n (.pY st) [] [] none none rfl N .XH
 dsimp[wb,Nat.add_zero,zZu]at r;split at r
 ·rename_i bs e
  rw[e];obtain⟨y,z,g,q⟩:=r;rw[.o g (.uH<|sx C<|.Oj .Qk)]
 ·rename_i bs e
  rw[e];obtain⟨σ',h',q⟩:=r;rw[.o h' (.dA<|sx C<|cR .Qk)]
theorem Tg(I:.Gk)(E:n<=30)(G:st<=L.length)(t:.Bn h):
  match .p3 iB (.pY st) with
  |(true,ss)=>∃g,.KF jd=.iX (.Pr .eO)
  |(false,ss)=>∃g',.KF jd=.kf (st+ss.length) (h++g'):=by
 have v:.ae0:=.XD;have q2:.acT:=.amI;have o:=.aeP iB (enc:=bT) (all:=.ZK)
  (b:=(.kn .Mk
  (.JW (zE CM<|aa 5)
  (.Wk CM)))) (λk l a g z A C=>by
   obtain⟨H,c⟩:=.Em<|a.map bT;have s:.fM H=.x (a.map bT):=.p c eJ
   have r:=Bs (lk:=lk) (H:=H) (.Xu c) A;rw[<-c];have u:.fI .Mk (.tv z) H=.nx .E7 H:=aH<|.Dw ax r;have i:zE CM (aa 5) .E7 H=.cQ (.l6<|iB l) H:=rfl;cases p:iB l with
   |none =>
    rw[p]at i;exact .bP _<|.i (sx u<|.Bp<|aG i)<|.Ly c
   |some x =>
    rw[p]at i;have B:Az CM (aa 5) .E7 H=.ok (bT x) H:=by
     show (.yB (lI CM l)<|.nv (VF d) H)=_;rw[show lI CM l=.aF from p,<-Tf]
    have w:.Wk CM .E7 H=.nx .E7 (.Pr<|(a++[x]).map bT):=by
     refine eC<|.wM<|.vP s B s .Hx;rw[c,FW,zBQ];rfl
    exact .bP _ (sx u<|.lI (aG i) w))
  (λa g z=>by
   obtain⟨H,c⟩:=.Em<|a.map bT;have r:=.akI<|.Xu c;rw[<-c];exact .bP _<|.a2 cR (oE (h':=H)<|.qb r)<|.Ly c) n (.pY st) [] [] none none rfl G (by simpa using E)
 dsimp[wb,Nat.add_zero,zZu]at o;split at o
 ·rename_i F e
  rw[e];obtain⟨y,z,g,q⟩:=o;rw[.o g (.uH<|sx v<|.Oj .Qk)]
 ·rename_i F e
  rw[e];obtain⟨σ',h',q⟩:=o;rw[.o h' (.dA<|sx v<|cR .Qk)]
end
end Fm
namespace Fm
/---/def LeE(f g:.iu α):Prop:=∀σ h d h',.gV=.dd->.aX g=.dd
noncomputable def acd:.bF Out
 |.nx _ _ | .rt _ _ | .bk _ _ | .ct _ _=>True
 |_=>False
/---/def Le(a b:SF):Prop:=∀σ h,acd .bM->.jN=.bM
def pw:Le a (sPl a):=λσ h f=>by unfold sPl;revert f;cases .bM<;>intro f<;>first|rfl|rw[.eS]
def Bu:LeE f (fPl f):=λσ h d a e=>by unfold fPl;rw[e];rfl
def rN:Le aX aX:=λ_ _ _=>rfl
def rP:Le kQ b:=λ_ _ f=>f.elim
def gU(p:Le a j)(q:Le b i):Le (aA a b) (aA j i):=λσ h f=>by
 have c:=.aX p;dsimp[aA]at f⊢;cases e:.bM with
 |nx σ1 g=>rw[e]at f c;rw[.f4 c];exact q σ1 g f
 |rt d g=>rw[e]at c;rw[.f4 c]
 |bk d g=>rw[e]at c;rw[.f4 c]
 |ct d g=>rw[e]at c;rw[.f4 c]
 |exc x σ1 g=>rw[.ji e]
 |bad=>rw[.ji e]
def yK(p:Le a i)(q:Le b g):Le (sIf t a b) (dF t i g):=λσ h f=>by
 dsimp[sIf,dF]at f⊢;cases e:.aX t with
 |ok c d =>
  rw[e]at f;cases c with
  |true=>exact p σ d f
  |false=>exact q σ d f
 |exc x d=>rw[.ji e]
 |bad=>rw[e]at f
def aab{f a:EF}(p:LeE f a):Le (aF g f) (aF g a):=λσ h z=>by
 dsimp[aF,outE]at z⊢;cases e:.gV with
 |ok d b=>rw[.aX p d b e]
 |exc x b=>rw[e]at z;rw[.l0]
 |bad=>rw[e]at z;rw[.l0]
def aac{f a:EF}(p:LeE f a):Le (bf f) (bf a):=λσ h z=>by
 dsimp[bf,outE]at z⊢;cases e:.gV with
 |ok d b=>rw[.aX p d b e]
 |exc x b=>rw[e]at z;rw[.l0]
 |bad=>rw[e]at z;rw[.l0]
def Ip{F G:Fn}{r b:LF}(p:.An<|.o2=.dd->.s0 G)(q:LeE r b):LeE .pB (aq G b):=λσ h d h' e=>by
 dsimp[aq]at e⊢;cases c:.jM with
 |ok ds a=>rw[.dL];rw[.aX q ds a c];exact p ds a d h' e
 |exc x a=>rw[.bO]
 |bad=>rw[.bO]
def Bv{a i:EF}{r g:LF}(p:LeE a i)(q:LeE r g):LeE (ae a r) (ae i g):=λσ h d l e=>by
 dsimp[ae]at e⊢;cases c:.bM with
 |ok x b =>
  rw[.dL];rw[.aX p x b c];dsimp[aE]at e⊢;cases f:r σ b with
  |ok k j=>rw[f]at e;rw[q σ b k j f];exact e
  |exc x j=>rw[.bd f]
  |bad=>rw[.bd f]
 |exc x b=>rw[.bO]
 |bad=>rw[.bO]
def Wu{r a:LF}(q:LeE r a):LeE (dh r) (dh a):=λσ h d g e=>by
 dsimp[dh]at e⊢;cases c:.jM with
 |ok f b=>rw[.dL];rw[.aX q f b c];exact e
 |exc x b=>rw[.bO]
 |bad=>rw[.bO]
theorem FY(p:Le b k):∀(l:.m) σ h,acd (.tH l)->.OC k l σ h=.tH l
 |[],σ,h,f=>by unfold dD;rfl
 |x::xs,σ,h,f=>by
  unfold dD at f⊢
  by_cases j:.j4
  ·rw[z3 j]at f⊢
   rw[z3 j];cases c:.wj with
   |none=>rfl
   |some σ1 =>
    rw[c]at f;simp only at f⊢;have a:=p σ1 h;cases e:b σ1 h with
    |nx σ2 i=>rw[e]at f a;rw[.f4 a];exact FY p xs σ2 i f
    |ct σ2 i=>rw[e]at f a;rw[.f4 a];exact FY p xs σ2 i f
    |bk σ2 i=>rw[e]at a;rw[.f4 a]
    |rt d i=>rw[e]at a;rw[.f4 a]
    |exc y σ2 i=>rw[.ji e]
    |bad=>rw[.ji e]
  ·rw[.ji (yM j)]
def aad(p:Le b a):Le (hZ it tg b) (qt it tg a):=λσ h f=>by
 dsimp[hZ,qt]at f⊢;cases e:.aX it with
 |ok q c=>rw[.n7 e (FY p _ _ _ f)]
 |exc x c=>rw[.ji e]
 |bad=>rw[e]at f
def Th(p:Le b f):.An (.tY=.dd->bK np n f ds h=.dd):=λds h d h' e=>by
 unfold bK at e⊢;split at e
 ·rename_i g
  rw[z3 g];have q:=p .B6 h;unfold runB at e⊢;cases c:b .B6 h with
  |nx σ1 a=>rw[c]at e q;rw[.f4 q];exact e
  |rt σ1 a=>rw[c]at e q;rw[.f4 q];exact e
  |bk σ1 a=>rw[.dL];simp[letGo]at e
  |ct σ1 a=>rw[.dL];simp[letGo]at e
  |exc x σ1 a=>rw[.dL];simp[letGo]at e
  |bad=>rw[.dL];simp[letGo]at e
 ·cases e
def Iq:.An (.s0 pU->.s0 jb) :=
 Th<|gU (yK rP rN)<|gU pw<|gU (aad .agN) pw
def Ti:.An (.s0 pV->.s0 jc) :=
 Th<|gU pw<|.Ev<|.Ev pw
def Tj:.An (.s0 AT->.s0 eZ) :=
 Th<|.Ev<|gU (aab<|Ip Iq Bu)<|gU pw<|aac<|Wu<|Bv Bu<|Bv Bu<|Bv (Ip Ti Bu) Bu
def D7(e:.o2=.dd):.w7 ds h=.dd:=by unfold Fy.gd;rw[e];rfl
def aae(e:.s0 AT):.ku eZ ds h=.dd:=D7<|Tj ds h d h' e
end Fm
namespace Fm
open Fy
/---/def qJ(s t:Tie):Prop:=s.a<t.a\/(s.a=t.a/\s.b<t.b)
def Pu(h:.Lz [.p0,t.b]=true):qJ s t:=by
 rw[.Qw lexLt]
 ·rename_i e
  rw[.Qw lexLt]
  ·cases h
  ·rw[.P ⟨.b,.lH<|X2 h⟩]
 ·rw[.O (.lH<|X2 h)]
def Wv(h:qJ s t):.Lz [.p0,t.b]=true:=by
 rcases h with c|⟨a,b⟩
 ·rw[lexLt,.n0];exact y3 .b
 ·rw[lexLt,.kM,lexLt,.n0];exact y3 .b
def Lf(h:qJ s t)(k:qJ t u):qJ s u:=by
 unfold qJ at *;lia
structure RT(n:Nat)(T:List Tie):Prop where
 up:T.Pairwise qJ
 ok:∀t∈T,t.a<t.b/\t.b<n/\1<=t.w/\t.w<=400
def Ww(up:acc.Pairwise qJ)(h:.K2=true):∀s∈acc,qJ s t:=by
 rcases List.eq_nil_or_concat acc with e|⟨Y,u,e⟩
 ·rw[e];simp
 ·rw[List.concat_eq_append]at e
  subst e;unfold nxt at h;rw[List.getLast?_concat]at h;have b:=Pu h;intro s a;rw[.ec]
  ·exact Lf (.Zu up a u .f) b
  ·rw[.df a];exact b
theorem Nr:∀{R:.A} {acc T:.ca} {b:Bool} {c:.A},RT n acc->kg n acc R=(b,T,c)->RT n T/\acc.length<=T.length/\c=R.drop .Vb/\.Vb<=R.length
 |[],acc,T,b,c,h,e=>by
  rw[.bd kg];rw[.al h (zBK _) .f .f]
 |l::r,acc,T,b,c,h,e=>by
  rw[kg]at e;split at e
  ·split at e
   ·rename_i t p
    split at e
    ·rename_i f
     have k:=(Nq p).2;have j:RT n .xa:=⟨zZw.mpr ⟨h.up,.f,λs a u m=>by rw[.df m];exact Ww h.up f s a⟩,λs a=>by
      rw[.ec]
      ·exact h.ok s a
      ·rw[.df a];exact k⟩
     obtain⟨i,g,d,o⟩:=Nr j e;rw[zAK,zVi]at g d o;refine⟨i,.b,?_,.bz⟩;rw[d];have:.Vb=(T.length-(acc.length+1))+1:=.b
     rw[this,List.drop_succ_cons]
    ·cases e;rw[.al h (zBK _) .f .f]
   ·cases e;rw[.al h (zBK _) .f .f]
  ·cases e;rw[.al h (zBK _) .f .f]
theorem Ir:∀{l:.g} {lo hi:Nat},l.Pairwise (· < ·)->(∀x∈l,lo<=x/\x<hi)->.f1 (hi-lo)
 |[],lo,hi,_,_=>.f
 |x::l,lo,hi,h,b=>by
  have c:=b x .f;have:=Ir (l:=l) (lo:=x+1) (hi:=hi) (.qh h).2 λy a=>⟨(.qh h).1 y a,(b y<|.dF a).2⟩;simp;lia
variable{n:Nat}
def RT.len(h:RT n T):T.length<=n*n:=by
 have:=Ir (l:=T.map λt=>t.a * n + t.b) (lo:=0) (hi:=n * n) (by
  rw[zYs];refine .ajz λ{s t} e a k=>?_;have b:=h.ok s e;have g:=.vI;rcases k with k|⟨c,f⟩
  ·have:(s.a+1)*n<=t.a*n:=zWt n k
   rw[Nat.add_mul]at this
   lia
  ·rw[c];lia) (λx d=>by
  obtain⟨t,a,rfl⟩:=.ar d;have b:=.vI;have:(t.a+1)*n<=n*n:=zWt n .b;rw[Nat.add_mul]at this;rw[.o (zZc _) .b])
 simpa using this
theorem RT.tok(b:n<=30)(h:RT n T):.dY where
 ne:=λt a=>.lH .vI
 lt:=λt a=>.lH .vI
 wt:=λt a=>(.vI).2.2
 be:=λt a=>.G<|.lH .vI
 un:=.ajz λ{s t} c a k=>by
  have d:=h.ok s c;have e:=.vI;unfold qJ at k;unfold jp
  lia
 len:=by
  have:=h.len;have k:n*n<=30*n:=zWt n b
  lia
theorem Bw:∀{m:Nat} {R:.A} {acc A:.bY} {b:Bool},i0 f m acc R=(b,A)->(.av b->A.length=acc.length+m/\m<=R.length)/\(.cM b->A.length-acc.length<=R.length)/\acc.length<=A.length/\∀x∈A,x∈acc\/∃l,f l=.aF
 |0,R,acc,A,b,e=>by
  rw[.bd i0];exact⟨λ_=>.co .f,.CN,zBK _,λx c=>.G c⟩
 |m+1,[],acc,A,b,e=>by
  rw[.bd i0];exact .agG
 |m+1,l::r,acc,A,b,e=>by
  rw[i0]at e;split at e
  ·rename_i a h
   obtain⟨h1,d,i,g⟩:=Bw e;rw[zAK,zVi]at h1 d i;refine⟨(λz=>by have:=h1 z;simp;lia),(λz=>by have:=d z;simp;lia),.b,λx c=>?_⟩;rcases g x c with k|k
   ·rcases .f5 k with k|k
    ·rw[.O k]
    ·rw[.df k];rw[.P ⟨l,h⟩]
   ·rw[.P k]
  ·cases e
   exact .agG
variable{l:List Nat}
def Wx(h:iB l=.bb):.Kv:=by
 unfold iB lI CM at h;rw[.Qs List.lookup]
 ·cases h;rw[.fg]
 ·split at h
  ·cases h;rw[.P .b5]
  ·split at h
   ·cases h;rw[.P .g7]
   ·cases h
inductive RR where
 |bad (k:Nat)
 |web (n:Nat) (T:List Tie) (bs:List Int) (ss:List (Option Int))
noncomputable def rdG:.A->RR
 |[]=>.bad 0
 |l0::R=>match gu l0 with
  |none=>.bad 0
  |some n=>match kg n [] R with
   |(false,T,_)=>.bad .d0
   |(true,T,R')=>match .p3 nX R' with
    |(false,bs)=>.NT bs.length
    |(true,bs)=>match .p3 iB (R'.drop n) with
     |(false,ss)=>.am2
     |(true,ss)=>.aoP R'.length
noncomputable def adH:RR->D
 |.bad k=>.E [.non,.e k]
 |.web n T bs ss=>.E [(.AQ bs).enc,.non]
/---/def ace(r:RR)(F:Fn)(d:D)(h:Hd):Prop:=match r with
 |.bad k=>∃h',(∃g,h'=h++g)/\F [d] h=.kf k h'
 |.web n T bs ss=>F [d] h=.ok .ih h
variable{h:Hd}
def zR{r:LF}(a:.N7)(b:F ds h1=.ew):.akE=.GH:=oE<|cE (cA a) b
def zS{r:LF}(a:.N7)(b:F ds h1=.dd):.akE=.lG (.oC d):=aH<|ax (cA a) b
def Nt(t:Tx X)(h:Hd):ace (.le X) kX (.h X) h:=by
 have len:=t.ln;obtain⟨L,K⟩:=qq<|bL 10 X;have ll:.Gk:=by have:=v5 10 X;rw[K];lia
 have tL:∀l∈L,Tx l:=λl hl=>t.part (c:=10)<|.ay K hl;have F:.X7 (.b1 .BF) .Ql h=.d5 .Ql:=fE .HZ;obtain⟨d,B⟩:=qq<|.ho .g3;have p1:.X5 d:=λg=>.cn<|.L B zBT;have G:sPl (.gX .T3) .Ql h=.nx (.IY none) d:=by
  have q:=.ahN .Ql .b;rw[<-K]at q;rw[B];exact eC<|aH<|cF q (by rw[zST];dsimp[SZ];lia)
 have S:.fM d=.zd:=.p B zAP
 rw[<-K];obtain⟨V,R,H⟩:∃V R,L=V::R:=by
  cases e:L with
  |nil=>exact .B (K.symm.trans e)<|ky _ _
  |cons a b=>rw[.oe a b]
 have lR:L.length=R.length+1:=.aE H
 have d1:∀k,.pY (1+k)=R.drop k:=λk=>.hP H Nat.add_comm List.drop_succ_cons
 rw[show rdG L=rdG (V::R) by rw[H],rdG];rcases Wr (lk:=h.length) (R:=.mQ) (tL V<|.fm H) (by rw[S,H];rfl) with ⟨n,en,a0,P,Y⟩|⟨en,C,Y⟩
 rotate_left
 ·rw[en]
  exact⟨_,p1 _,.dA<|sx F<|sx G<|cR<|zR rfl Y⟩
 rw[en];simp only;have M:.KT gR (.IY none) d=.nx (.IY .T) d:=zS rfl Y;have J:sPl (.q8 2) (.W4 none) d=.nx (.W4 .CE) (.aS d []):=.XD;have q3:iP .aa .vK (.W4 .CE) (.aS d [])=.nB .anf (.aS d []):=pi (m:=1) rfl (.a2 du (cL rfl<|aS<|.ag S)<|.hP zST lR Nat.add_comm) .b;have Z:=.kN D6 (all:=.anf) tL .b S R [] [] none none<|d1 0;cases et:kg n [] R with
 |mk b TR =>
  obtain⟨T,I⟩:=TR;obtain⟨rt,_,W,lT⟩:=.kN Nr (acc:=[]) ⟨.nil,.f⟩ et;rw[wb,Nat.sub_zero]at W lT;rw[et]at Z;cases b with
  |false =>
   obtain⟨σ',U,q⟩:=Z;have O:iW [.k0,.gj] d=.kf .d0 (d++U):=.dA<|sx J<|cR<|Ld q3 q;exact⟨_,p1 _,.dn<|.WE<|cR<|.Ja zR O⟩
  |true =>
   obtain⟨y,z,U,q⟩:=Z;have O:iW [.k0,.gj] d=.b7 d.length (d ++ .q .h6::U):=.uH<|sx J<|.Oj<|Ld q3 q;obtain⟨f,u⟩:=qq<|d ++ .q .h6::U;rw[<-u]at O;have p2:.X5 f:=λg=>by rw[u,zBT];exact p1 _
   have Q:.jl .anr (.IY .T) d=.nx (.TI none) f:=.Ja zS O;have l2:.fM f=.zd:=by rw[u];exact .ag S
   have t2:.Lu f:=.p u eJ
   have ln:∀{C:Hd} {x y z:.J},.Lu C->.Dh [.kG,.aH,.T,.CE,x,y,z] C=.bU (.kY .d0:Int) C:=λ{C x y z} e=>by
    refine .aaB e ?_;show .GZ (1+.ad T.map cC) C=_;rw[zST];congr 2
   have w:=.kN Wt (st:=.d0) tL .b P .b l2;have a4:.TC .Dh (.TI none) f=.ok [.k0,.F9 .d0,.gj] f:=.dv<|.nP<|ln t2;rw[d1,<-W]at w;simp only;cases eb:.p3 nX I with
   |mk b bs =>
    obtain⟨c1,_,_,_⟩:=Bw eb;rw[eb]at w;cases b with
    |false =>
     obtain⟨C,w⟩:=w;exact⟨_,p2 _,.dA<|.SW<|cR<|zR a4 w⟩
    |true =>
     obtain⟨g3,w⟩:=w;obtain⟨lb,a2⟩:=c1 rfl;rw[wb,wm]at lb;obtain⟨p,s⟩:=qq<|f ++ .q .i4::g3;rw[<-s]at w;have p3:.X5 p:=λg=>by rw[s,zBT];exact p2 _
     have s4:=zS (i:=4) a4 w;have l3:.fM p=.zd:=by rw[s];exact .ag l2
     have t3:.Lu p:=by rw[s];exact .ag t2
     have b3:p[f.length]?=.kw:=.p s eJ
     have a3:I.length=R.length-T.length:=.L W zXj
     have A:=.kN Tg (st:=.d0+n) (L:=L) (lk:=h.length) (h:=p) .b P .b l3;have d5:.pY (.d0+n)=I.drop n:=by rw[Nat.add_assoc,d1,W,List.drop_drop]
     have a5:.aoU (.TI<|.t f.length) p=.ok [.k0,.F9<|.d0+n,.gj] p:=.dv<|.nP<|.wS<|ln t3;rw[d5]at A;simp only;cases es:.p3 iB (I.drop n) with
     |mk b ss =>
      obtain⟨c2,_,_,c3⟩:=Bw es;rw[es]at A;cases b with
      |false =>
       obtain⟨C,A⟩:=A;exact⟨_,p3 _,.dA<|.SW<|sx s4<|cR<|zR a5 A⟩
      |true =>
       obtain⟨g4,A⟩:=A;obtain⟨ls,a1⟩:=c2 rfl;rw[wb,wm]at ls;have os:∀x∈ss,.fZ:=λx hx=>by
        rcases c3 x hx with k|⟨l,k⟩
        ·cases k
        ·exact Wx k
       obtain⟨v,o⟩:=qq<|p ++ .q .eO::g4;rw[<-o]at A;have s5:=zS (i:=5) a5 A;have l4:.fM v=.zd:=.y7<|.ag l3
       have t4:.Lu v:=.y7<|.ag t3
       have b4:v[f.length]?=.kw:=.y7<|.ag b3
       have y4:v[p.length]?=.kx:=.p o eJ
       have e6:.aD .d0+2*n=.aD (.d0+2*n):=.b
       have s6:sPl (.aoe .Dh) (.ahj none) v=.nx .RO v :=
        eC<|aH<|aw (ln t4) (.ia<|sC .c) (by rw[<-e6];rfl)
       have E:∀{b:Bool},.D (.aD (.d0+2*n)<(.ad L.map D.str:Nat))=b->aj oGt .n6 (aa 6) .RO v=.cQ b v:=λ{b} e=>.JX l4 (by subst e;rfl);simp only
       by_cases c:2*n<I.length
       ·rw[z3 c]
        have E:=E (b:=true)<|.se y3;exact .bP (.y7<|p3 _) (.dA<|.SW<|sx s4<|sx s5<|sx s6<|.Bp<|aG E)
       ·rw[yM c]
        have E:=E (b:=false)<|.se z5;have s8:=.sM<|ax (r:=.P1<|.aB 4<|.eo 5) (σ:=.RO) (.jI .CU)<|aae<|DQ a0 P (rt.tok P) lb ls os t4 b4 y4;refine .il<|.ft<|.WE<|sx Q<|sx s4<|sx s5<|sx s6<|sx (fE<|aG E) s8;rw[o,s,u,B];rw[.mm zBT (dJ<|vE _)]
/---/def G(l:.g):Prop:=.f1 200/\∀c∈l,c<128
instance(l:.g):Decidable (G l):=by unfold G;exact inferInstance
def Wy(h:∀l∈M,G l)(n:M.length<=200):Tx (.ep M)/\.s (.ep M)<=41000:=by
 have j:=sK (sp:=10) (L:=M);have m:=sI (k:=200) λl b=>(h l b).1;have g:.s (.ep M)<=41000:=.b
 rw[.bN ⟨.b,λc d=>?_⟩ g];have:∀{L:.A},c∈.ep L->c=10\/∃x∈L,c∈x:=λ{L}=>by
  induction L with
  |nil=>intro h;simp[bD]at h
  |cons x r i =>
   intro h;cases r with
   |nil=>rw[.P .NI]
   |cons y r =>
    rw[uB .f]at h;rw[.Qu h]
    ·rw[.P .NI]
    ·rcases .bj h with h|h
     ·rw[.O h]
     ·rcases i h with e|⟨z,a,q⟩
      ·rw[.O e]
      ·rw[.P ⟨z,.dF a,q⟩]
 rcases this d with e|⟨x,f,q⟩
 ·lia
 ·exact(h x f).2 c q
def Lg(a:32∉w):.iF (line w ns)=w::ns.map tx:=by
 refine jv .f λp b=>?_;rw[.hs b]
 ·rw[.ap e a]
 ·rw[.rG e]
  exact .ww zP
theorem px:∀{L:.A},c∈bD [sp] L->c=sp\/∃x∈L,c∈x
 |[],h=>by simp[bD]at h
 |[x],h=>.F .NI
 |x::y::r,h=>by
  rw[bD]at h;rw[.Qu h]
  ·rw[.Qu h]
   ·rw[.P .NI]
   ·rw[.O .tT]
  ·rcases px h with e|⟨z,a,q⟩
   ·rw[.O e]
   ·rw[.P ⟨z,.dF a,q⟩]
def mE(a:10∉w):10∉line w ns:=λh=>by
 rcases px h with e|⟨z,b,q⟩
 ·cases e
 ·rw[.hs b]
  ·rw[.fP (a q)]
  ·rw[.rG e]
   exact .ww zP q
def D8(o:.X):10∉fz o:=λh=>by
 cases o with
 |none=>simp[fz]at h
 |some x =>
  rw[.Qu h]
  ·revert h;decide
  ·exact .ww zP h
def Iu(n:Nat)(T:.ca)(bs:.l)(ss:.em):.O2 .kA=.kA:=by
 refine jv (.k bM) λp a=>?_;rw[.aaO (.bj a)]
 ·rw[e];exact mE .c
 ·rw[.ec]
  ·rw[.lE a]
   exact mE .c
  ·rw[.ec]
   ·rw[.lE a]
    exact mE .c
   ·rw[.lE a]
    exact D8 t
def v6(d:32∉w)(b:∀i∈ns,.tZ):nb w (line w ns)=ns:=by
 unfold nb;rw[Lg d];have e:∀v∈ns.map tx,.wa v:=λv c=>by
  obtain⟨i,a,rfl⟩:=.ar c;rw[Ta<|b i a];rfl
 simp only;rw[z3 ⟨trivial,e⟩,UD];have:∀i∈ns,(.Fk ∘ tx) i=id i:=λi a=>by
  show .x9 (tx i)=i;rw[Ta<|b i a];rfl
 rw[vx this,List.map_id]
def Iv(b:n<=30)(h:.wq/\t.b<n/\.LT):nY n (iM t)=.a t/\isT (iM t):=by
 have e:nb jY (iM t)=[.p0,t.b,t.w]:=v6 .c λi a=>by
  dsimp[z4,zYo,or_false]at a;rcases a with z|z|z<;>(rw[.ap z .rO])
 refine .g5 ?_;unfold nY;rw[e];show (.wZ (.M 0<=t.a/\.p0<t.b/\.M t.b<n/\.LT) (⟨.gW (t.a:Int),.gW (t.b:Int),t.w⟩:Tie))=_;rw[.kM];rfl
def Tk(h:∀s∈acc,qJ s t):.K2=true:=by
 unfold nxt;split
 ·rfl
 ·rename_i s e
  exact Wv (h s<|List.mem_of_getLast? e)
theorem sL{n:Nat}(b:n<=30)(a:∀l r,R=l::r->¬isT l):.akd<|kg n acc (.m7++R)=(true,acc++T,R)
 |[],acc,_=>by
  rw[zZu,zZo,X1];cases R with
  |nil=>rw[kg]
  |cons l r=>rw[kg,yM<|a l r rfl]
 |t::T,acc,h=>by
  obtain⟨c,d⟩:=Iv b<|h.ok t .f;rw[xI,zYb,kg,z3 d,c];rw[.gR (z3<|Tk λs e=>.Zu h.up e t .f)];have:=sL b a (T:=T) (acc:=.xa) (.X0 zBT);rw[.a9];simp[zBT]
theorem pz:∀{A acc:.bY},.amQ->i0 f A.length acc (A.map g++R)=(true,acc++A)
 |[],acc,_=>.k i0
 |a::A,acc,h=>by
  rw[xR,xI,zYb,i0,h a .f];rw[.gR (pz λx b=>h x<|.dF b)];simp
def Lh(h:.Kv):iB (fz o)=.bb:=by
 rcases h with e|e|e<;>subst e<;>decide +kernel
def Wz(t:1<=n)(m:n<=30)(rt:RT n T)(lb:.j5)(ls:.he)(os:∀x∈ss,.fZ)(bb:∀b∈bs,.h3):
  rdG (.O2 .kA)=.Lg:=by
 rw[Iu];unfold bM;have p:gu .mC=.e8:=by
  have:nu cz .mC=.a .ek:=.IL .rO;unfold gu;rw[.a9];show .aeG;rw[.kM];rfl
 have c:∀b∈bs,nX (gr b)=.cu:=λb q=>.IL<|bb b q;have j:=.kN sL m (R:=.rl) (λl r e=>by
  cases bs with
  |nil=>simp at lb;lia
  |cons b bs =>
   rw[.aaT xI zYb]
   rw[<-e];intro z;have:.jC gr b 4=.iH:=rfl;unfold isT at z;rw[.fh this]) (T:=T) (acc:=[]) rt
 rw[zZo]at j;rw[rdG,p];rw[.gR j];simp only;have h:=.aiJ .wV c;rw[lb,zZo]at h;rw[h];simp only;have s:(.rl).drop n=.wV:=by
  have:n=.ad bs.map gr:=.L zST lb
  rw[this,List.drop_left]
 have d:=.aiD [] λo k=>Lh<|os o k;rw[ls,zZo,X1]at d;rw[s,d];rw[.gR (yM (by rw[zAK,zST,zST];lia))]
def Nu(j:n<=30)(O:.dY)(lb:.j5)(ls:.he)(os:∀x∈ss,.fZ)(bb:∀b∈bs,.h3):∀l∈.kA,G l:=λl a=>by
 refine⟨(xv j O lb ls os bb).1 l a,λc d=>?_⟩;have lc:∀{w:.g} {f:.l},(∀c∈w,c<128)->c∈line w f->c<128:=λ{w f} m h=>by
  rcases px h with e|⟨z,g,q⟩
  ·lia
  ·rw[.hs g]
   ·rw[.fP (m c q)]
   ·rw[.rG e]
    rcases K9 i c q with k|k<;>lia
 rw[.aaO (.bj a)]
 ·rw[.od e (lc .c d)]
 ·rw[.ec]
  ·rw[.lE a]
   exact lc .c d
  ·rw[.ec]
   ·rw[.lE a]
    exact lc .c d
   ·obtain⟨o,_,rfl⟩:=.ar a
    cases o with
    |none=>exact(show ∀c∈.cc,c<128 by decide) c d
    |some x =>
     rcases .f5 d with d|d
     ·exact(show ∀c∈(.oP 116),c<128 by decide) c d
     ·rcases K9 x c d with k|k<;>lia
def iE(e:.v5 true):dF t (eA c) b σ h=.fj .zQ σ h':=by unfold dF;rw[e];rfl
def zT(p:.aX e=.ew):dR e σ h=.GH:=by show .Gj;rw[p];rfl
def fP(p:.aX e=.ew):bf e σ h=.GH:=by show .Gj;rw[p];rfl
def WA(a:.j4)(t:.k9)(e:.jH b=.sf):.Ou=.sf:=by
 rw[dD,z3 a,t];dsimp[e]
/---/def adr(d:D)(h:Hd):Prop:=cr [d] h=.et
def XU(a:.Hh)(h:Hd):cr [.mf] h=.hq:=by
 rw[iH];rcases a with rfl|rfl<;>rfl
/---/def WB(w:Web)(i:Nat)(x:D):Prop:=∃v:Int,x=.mf/\.Hh/\(.sd i=.iR\/.sd i=.iT v)
/---/def Bad(w:Web)(i:Nat)(x:D)(h:Hd):Prop:=adr x h\/∃v z:Int,x=.mf/\.Hh/\.sd i=.iT z/\v≠z
def WC(g:WB w i x)(c:.J)(h:Hd):∃d,vC (.M3 .aF) h=.d5 [.be,.a T,.aW,.aF,d]:=by
 obtain⟨v,rfl,e,a⟩:=g;have b:.adc:=.ZC<|XU e h;rcases a with a|a
 ·rw[.o _ (.ge ft b ft (.XU a)<|dL<|sB .eQ)]
 ·rw[.o _ (.ge ft b ft (.XU a)<|dL<|jU .eQ<|.dD (by rw[.d2<|bT .aM=D.int v,km,.v9];rfl))]
def Pv(b:.AR i)(c:.J):vC (.M3 .aF) h=.rt .mw h:=by
 rcases b with d|⟨v,z,rfl,a,e,ne⟩
 ·exact .OR (.aZ<|.jc d)
 ·have f:.adc:=.ZC<|XU a h
  exact .a2 ft f (.ge ft (.XU e) i4 (jU .eQ<|.dD (by rw[.d2<|bT (.a z)=D.int z,km,z5 ne];rfl)) .kc)
theorem D9{h:Hd}(all:.m):∀(M:.m) (k:Nat) (a b c:.J),(∀i x,.iS M->WB w (k+i) x\/.AR (k+i))->(∃i x,.iS M/\.AR (k+i))->
  dD none all (gT [2,3]) vC (.We<|(List.range' k M.length).zip M) [.be,.a T,a,b,c] h=.rt .mw h
 |[],k,a,b,c,_,⟨i,x,e,_⟩=>by cases i<;>cases e
 |x::M,k,a,b,c,f,⟨i,y,e,bd⟩=>by
  rw[xR,List.range'_succ,zZh,xI]
  by_cases d:.AR k
  ·exact WA (by trivial) rfl (Pv d c)
  ·have g:WB w k x:=((f 0 x rfl).resolve_right d)
   obtain⟨j,q⟩:=WC (T:=T) g c h;refine eK (by trivial) rfl q (D9 all M (k+1) _ _ _ (λi x e=>?_) ?_)
   ·have:=f (i+1) x e
    rwa[<-Nat.add_assoc,zUk]at this
   ·cases i with
    |zero=>rw[.sx (.B bd d)]
    |succ i=>rw[.al i y e (by rwa[<-Nat.add_assoc,zUk]at bd)]
def WD(W:.ak)(d:L.length=n)(f:∀i x,.iS L->WB w i x\/.AR i)(ex:∃i x,.iS L/\.AR i):.yI (.E L)=.et:=by
 have a:=D9 (T:=.E L) (.We<|(.fS L.length).zip L) L 0 none none none (λi x e=>by rw[wm];exact f i x e) (by obtain⟨i,x,e,b⟩:=ex;rw[.al i x e (.p wm b)]);rw[<-List.range_eq_range']at a;have c:.J7 (.yp<|.dV L) h=.d5 (.yp<|.dV L) :=
  dL<|.SN (by rw[km,d,W.t,.v9];rfl)
 exact .cT<|.a2 ft c<|jw<|fQ rfl a
def Pw{w:Web}(W:.ak){l:.m}(a:l.length≠n)(h:Hd):.yI (.E l)=.et:=by
 have c:.J7 (.yp<|.dV l) h=.rt .mw h :=
  .fG (.SN (by rw[km,W.t,z5<|show ¬.M l.length=.bp from λz=>a .Yh];rfl)) .kc
 exact .cT<|jw c
noncomputable abbrev NSx:D:=.exn "NoStand" []
def Ea{w:Web}(e:.yI d=.hq):dn [w.enc,d] h=.v .non :=
 .i (.ab SD<|fE<|.aZ<|.us e) aM
def Px{w:Web}(e:.yI d=.et):dn [w.enc,d] h=.pz h :=
 .dn<|iE<|.aZ<|.us e
noncomputable abbrev SL(l:.g):.m:=.pG
/---/def okT(l:.g):Bool:=l.all λc=>.D .y4
/---/def xy(l:.g):.l:=l.map λc:Nat=>(.M c-48)
def FZ:.sG l ↔ ∀c∈l,.y4:=by
 unfold okT;rw[zYn];exact⟨λq c a=>X2<|q c a,λq c a=>y3<|q c a⟩
def aaf(c:Nat)(h:Hd):.og oIn [c] (.E [.h .aO,.h [49]]) h=.aY (.D .y4):=by
 have e:.afB=.D .y4:=by
  by_cases b:c=48
  ·subst b;rfl
  ·by_cases a:c=49
   ·subst a;rfl
   ·rw[z5 λz=>z.elim b a,.aiw b,.aiw a];rfl
 show .IJ .afB h=_;rw[e]
noncomputable abbrev InE:EF:=.agx
def WE(l:.g)(h:Hd):.oV (SL l) InE (SL l) .bH h=.v (.yH<|D.bl<|.D<|c=48\/c=49):=by
 have:=.aii InE (.S0<|.tw<|c=48\/c=49) trivial (xs:=SL l) (σ:=.bH) (by
  rw[.apk (.ar b)];exact .jg<|.nc .HB<|aaf c h) .K
 rw[this,.zP,UD];rfl
def WF(h:.y4):yX [c]=.a (.M c-48):=by
 rcases h with rfl|rfl<;>decide
def Tl(ok:.sG l)(h:Hd):.oV (SL l) .Bw (SL l) .bH h=.v (.bD xy l .int):=by
 have:=.aii (.dM o0) (.S0<|.e<|.M c - 48) trivial (xs:=SL l) (σ:=.bH) (by
  rintro x f σ ⟨a,rfl⟩;obtain⟨c,b,rfl⟩:=.ar f;exact .jg<|zO rfl (show 1<=600 by decide)<|WF<|FZ.mp ok c b) .K
 rw[this,.zP,UD];unfold xy;rw[UD];rfl
def all_map{α:Type}(f:.cH α)(l:.bY):(.B5).all id=l.all f:=by
 induction l with
 |nil=>rfl
 |cons x l a=>dsimp[xI,zXn,a,id]
section
variable{w:Web}{n:Nat}
noncomputable abbrev RdT:TF:=.ajC InE
def Nv(p:.mo)(t:Tx l):.ex AA=.cR (SL l,none) :=
 Im p ⟨.bf t.ln,by rw[zYn];intro c b;exact y3<|t.as c b⟩
def F1(A:Tx l)(x c:.J)(h:Hd):RdT [x,.aI l,c] h=.v (! okT l):=by
 have q:t5 (.Er InE) [x,.aI l,c] h=.aY (okT l):=.i (pT (cV (Nv rfl A)<|WE l h)<|ni _ l)<|.aE all_map;exact gj .HZ<|.aZ q
def Iw(A:Tx l)(no:okT l=false)(h:Hd):.WQ=.pz h:=.dA<|.nM<|.Ro no
def Tn(A:Tx l)(ok:.sG l)(x:.J)(h:Hd):.gG (hU<|.Er .Bw) [x,.aI l,none] h=.d5 [x,.aI l,.b0 bp<|xy l]:=aH<|mf<|cV (Nv rfl A)<|Tl ok h
def To(A:Tx l)(ok:.sG l)(f:.N5 l=.hq):.WQ=.jP bp (xy l) :=
 .cT<|.a2 ft (fE<|.Ro ok)<|.ge ft (eC<|Tn A ok _ h) ft (dZ<|.Xj<|Ea f)<|nv .kc
def Tp(A:Tx l)(ok:.sG l)(f:.N5 l=.et):.WQ=.pz h :=
 .dn<|.ge ft (fE<|.Ro ok) ft (eC<|Tn A ok _ h)<|cR<|zT<|.qb<|Px f
end
end Fm
set_option maxHeartbeats 1000000
namespace Fm
open Fy
noncomputable abbrev wSt:.g:=.kE
noncomputable abbrev wPe:.g:=.pF
noncomputable abbrev wSw:.g:=.Aa
noncomputable abbrev uD:.g:=.gQ
noncomputable abbrev jE:.g:=.cc
noncomputable abbrev NX(c:String):D:=.zQ
/---/def wrt(k w:.g):Bool:=.Sp||.NA
/---/def isP(n:Nat)(w:.g):Bool:=match sn w with|some i=>.cg 0 i&&.Ek i|none=>false
/---/def iN(wd:.g)(L:.A):.as .A :=
 .s3 wd wSw (L.map λ_=>wPe)<|match .u0 with
  |some fm=>.s3 fm.length L.length fm none
  |none=>none
def Tq(e:.Pj):.Ln:=by
 unfold iN at e;split at e
 ·cases e;rw[zST]
 ·split at e
  ·split at e
   ·cases e;assumption
   ·cases e
  ·cases e
def Li(k:.g)(t:Tx w)(h:Hd):iU [.h k,.h w] h=.aY (wrt k w):=by
 have a:.ur wSt .EU h=.v (.aN k wSt):=.E1;have d:.ur uD .EU h=.v (.aN k uD):=.E1;have e:.Dq jE .EU h=.v (.aN w jE):=.E1;have f:.anl .EU h=.v .anC:=by
  cases c:.aN k uD with
  |true=>rw[c]at d;rw[Bool.true_and];exact jU d e
  |false=>rw[.od c (sB d)]
 have b:tOr (.ur wSt) .anl .EU h=.v .Sp:=by
  cases c:.aN k wSt with
  |true=>rw[.aA c (mR a)]
  |false=>rw[c]at a;rw[zUp];exact gj a f
 unfold wrt;cases c:.Sp with
 |true =>
  rw[.hQ];exact .cT<|.OR b
 |false =>
  rw[.hQ];exact .i (.ft<|sx (.e1 b)<|.cI aV<|vZ t h) aM
def uE{w:Web}(W:.ak)(i:Int)(h:Hd):eU [w.enc,.aG] h=.aY (.cg 0 i&&.Ek i):=by
 have e:=c5 i 0 (.bp-1) h;exact .yG<|aV<|ax (.dv<|.nN<|.cI aw (kR w h) rfl<|.aE W.t) e
def Tr(e:.NS h):jA [d] h=.va h:=by
 have q:.BF [.a7] h=.et:=by
  show .eE .hH _=_;dsimp[aE,e]
 exact .dA<|.nM<|.aZ q
def Ts(t:Tx r)(h:Hd):jA [.h r] h=.iX (.ga<|.iF r):=by
 have e:=cF (vY (c:=32) (a:=aa 0) (σ:=[.aI r]) (h:=h) rfl<|.bf t.ln) (by
  rw[zST];have:=v5 32 r;have:=t.ln;show .bt _;lia)
 exact .i (.ft<|.lI (bC (t:=tE .BF) (b:=true) .Iv)<|.sM e) cN
def aag(h:Hd)(l:.A):lq h (Co l)=.a (.b8 .str,none):=.bJ lq Co
def aah(e:.i7 l):lq h .hG=.a (l,.mi):=.bJ lq e
def v7(p:.mo)(q:.lz=.a7):Dx T a σ h=.cR (Co d):=by
 rw[.fO];dsimp[q]
def Tt(p:.mo):E2 T a σ h=.cQ (.l6 .lz) h1:=by
 rw[.fO]
def WG(p:.cC<|Co d):.ex MN=.kO d.length:=by
 rw[.fO];simp[Co]
def F3(p:.cC<|Co d):.ex RF=.cQ d.isEmpty h1:=by
 rw[.fO];cases d<;>simp[Co]
theorem Iy(x:.g):∀L:.A,.wB<|.MK x
 |[]=>.k i8
 |_::L=>by dsimp[xI,i8,pure?,Iy x L,Bool.and_self]
theorem WH(m:h[k]?=.x .t4):match .vf with
  |none=>kr [.hG] h=.va h
  |some fm=>∃n,(∀g,lq g n=.a (fm.map .str,none))/\kr [.hG] h=.v n:=by
 have d:.je [.bZ] h=.ib wd:=.cG m .sm;have f:tE (.gO .je<|.ae .Aa) [.bZ] h=.v (.aN wd wSw):=aG<|.cV d<|.aC FX;have b:tE (E2 fR .je) [.bZ] h=.ok (.l6 .u0) h:=aG<|Tt d;unfold iN
 by_cases c:wd=wSw
 ·rw[z3 c]
  rw[y3 c]at f;have r:=sJ (a:=aa 0) (σ:=[.bZ]) (h:=h) rfl m;have o:.qX h.length .g3 (gN 0) [] (.ae wPe) .g3 .bH (.ah .g3)=.ok (.MK wPe) (.ah .g3):=by
   have:=.zE h.length (all:=.g3) (tg:=gN 0) (cs:=[]) (e:=.ae wPe) (h:=.ho .g3) (I:=.qN) .c3 (λ_=>.h wPe) (show .fM (.ho .g3) = .zd from zAP) (xs:=.g3) (σ:=.bH) (by
    rintro x s σ ⟨a,rfl⟩;exact .jg rfl) .K
   rw[this,.zP,UD];rfl
  have e:.afC wPe [.bZ] h=.nm (.MK wPe) (.ah .g3):=mf<|cV (dM r zAP) o;rw[.eD (.E<|.MK wPe) λg=>.k lq];exact .i (.ft<|jw<|nv<|.fG f<|aV e) (dJ<|.k1 pure? Iy)
 ·rw[yM c]
  rw[z5 c]at f;have j:.acA [.bZ] h=.d5 [.bZ]:=eC<|.e1 f;cases q:.u0 with
  |none =>
   rw[.iy q (.dA<|sx j<|.nM b)]
  |some fm =>
   rw[q]at b;have i:.agg [.bZ] h=.v (! .aN fm.length L.length):=by
    refine aG<|aw (aw (g:=lU) (du<|cL (a:=aa 0) rfl<|aS m) rfl rfl) (WG<|v7 d q)<|.il .HD;have p:.akg L.length:=.f
    show .nv (D.bl<|! .D (.akg fm.length)) h=_;rw[p];congr 3;exact .aad ⟨λz=>(.Yh).symm,λz=>.bA z⟩
   dsimp only
   by_cases l:.Ln
   ·rw[z3 l]
    rw[y3 l]at i;exact⟨Co fm,λg=>aag g fm,.cT<|sx j<|.lI b<|.lI i<|.sM<|v7 d q⟩
   ·rw[yM l]
    rw[z5 l]at i;exact .dA (sx j<|.lI b<|.nM i)
end Fm
set_option maxHeartbeats 1000000
namespace Fm
open Fy
section
variable{G:Hd->Prop}{tg:GF}{b:SF}{e:EF}{x y:D}{xs ds:List D}{σ σ' σ'':Sd}{h h':Hd}{d:D}
def Tu(g:G h):.EM []=.c6 h:=by unfold qT;rw[z3 g]
def Eb(g:G h)(t:.k9)(q:.jH b=.lG σ'')(r:qT G tg b xs σ'' h'=o):.EM (x::xs)=o:=by
 rw[<-r];unfold qT;rw[z3 g];dsimp[t,q];cases xs<;>rfl
def WI(g:G h)(t:.k9)(q:.jH b=.P7):.EM (x::xs)=.P7:=by
 unfold qT;rw[z3 g];dsimp[t,q]
def Py(g:G h):.ph tg [] σ h=.v []:=by unfold dS;rw[z3 g]
def Lj(g:G h)(t:.k9)(q:.jH e=.hH)(r:.ph tg xs σ' h=.dN ds):.Wr=.dN (d::ds):=by
 unfold dS;rw[z3 g];dsimp[t,kc,aE,q,r,zYh]
def Tv(g:G h)(t:.k9)(q:.jH e=.p6 h'):.Wr=.p6 h':=by
 unfold dS;rw[z3 g];dsimp[t,kc,aE,q,zYh];rfl
def Pz(g:G h)(t:.k9)(q:.jH e=.hH)(r:.ph tg xs σ' h=.p6 h'):.Wr=.p6 h':=by
 unfold dS;rw[z3 g];dsimp[t,kc,aE,q,r,zYh];rfl
end
def zU(p:.cC x)(q:.hO=.ok y c)(e:lq c x=.a (l,o))(f:lq c y=.a (k,d))
  (r:qT (.CQ d) tg body (.Jj k) σ c=out):w4 a b tg body σ h=out:=by
 unfold w4;dsimp[p,q,e,f];exact r
def Tw(p:.cC x)(q:.hO=.ok y c)(f:lq c x=.a (l,o))(g:lq c y=.a (k,d))
  (r:dS (.CQ d) tg [] e (.Jj k) .EX c=r0):sA nl caps a b tg e σ h=r0:=by
 unfold sA;dsimp[p,q,f,g];exact r
noncomputable abbrev KW:=.g × .g
noncomputable abbrev rw2(Z:.p8):.m:=Z.map λz=>.E [.str z.1,.str z.2]
noncomputable abbrev kz(Z:.p8):.m:=Z.map λz=>D.str z.1
noncomputable abbrev wz(Z:.p8):.m:=Z.map<|.sE D.str
theorem WJ:∀Z:.p8,(((kz Z).zip<|wz Z).map<|.Ko .fF)=rw2 Z
 |[]=>rfl
 |z::Z=>by dsimp[xI,zZh,WJ Z]
section
variable{w:Web}{n:Nat}
theorem aai{G:.nZ}(h:G g)(d:.cH KW):∀{Z:.p8} {p q:.J},(∀z∈Z,body .Sk g=if d z then .p6 .Sk g else .nx .Sk g)->
  (Z.any d=true->∃σ,.ad5=.p6 σ g)/\(.Gh d->∃o r,.ad5=.nx [.jK,.cu,.a8,o,r] g)
 |[],p,q,_=>⟨.CN,.de ⟨p,q,Tu h⟩⟩
 |z::Z,p,q,H=>by
  have f:=H z .lT;have i:=aai h d (Z:=Z) (p:=.vs) (q:=.vt) λl m=>H l<|.vR m;rw[zWv];cases c:d z with
  |true =>
   rw[c,.cb]at f;rw[.o (λ_=>.cn<|WI h rfl f) λe=>.Av]
  |false =>
   rw[c,yM UG]at f;rw[zUp];rw[.o (λe=>by obtain⟨σ,q⟩:=i.1 e;rw[.o σ (Eb h rfl f q)]) λe=>by obtain⟨k,j,q⟩:=i.2 e;rw[.C k j (Eb h rfl f q)]]
/---/def ThR(w:Web)(z:KW)(r:.J):Prop:=∀g,jB [w.enc,.str z.1,.str z.2] g=match r with|some d=>.e0 g|none=>.pz g
inductive zf(w:Web):List KW->List (Option D)->Prop
 |nil:zf w [] []
 |cons {z:KW} {r:Option D} {Z:List KW} {rs:List (Option D)} (a:ThR w z r) (f:zf w Z rs):zf w (z::Z) (r::rs)
theorem zf.len{w:Web}:∀{Z:.p8} {rs:.ai .J},zf w Z rs->Z.length=rs.length
 |_,_,.nil=>rfl
 |_,_,.cons _ f=>.hP xR xR f.len
noncomputable def oF:.ai .J->.as .m
 |[]=>.sW
 |none::_=>none
 |some d::r=>match oF r with|some ds=>.a (d::ds)|none=>none
/---/def th(z:KW):D:=.Q (z.2) jE .non<|.e<|.x9<|z.2
def xz(k:z.1≠wSt)(q:.oz=true):ThR w z (.b0 th z):=λh=>by
 have t:(.Dq wSt) [.be,.vs,.vt] h=.v false:=.dD<|.o9 (.aC FX)<|z5 k;have u:(tE (.fd 2<|.ae jE)) [.be,.vs,.vt] h=.v (.D<|z.2=jE):=.E1;unfold th
 by_cases c:z.2=jE
 ·rw[y3 c]at u
  rw[z3 c];exact .cT (.lI t<|.sM<|.jT Fo u)
 ·rw[z5 c]at u
  rw[yM c];unfold wrt at q;rw[z5 k,z5 c,Bool.and_false,zUp,zUp]at q;obtain⟨i,a⟩:=.qj q;obtain⟨b,d,_⟩:=Bn a;rw[a];exact .cT (.lI t<|.sM<|.a2 Fp u<|zO rfl .b b)
def Tz(t:Tx x)(ok:.sG x)(f:∀h,.N5 x=.hq):.ve x (.b0 bp<|xy x):=λh =>
 .cT<|jw<|.i .Z3<|aV<|.Xj<|To t ok<|f h
def Iz(t:Tx x)(f:.sG x->∀h,.N5 x=.et):.ve x none:=λh=>by
 refine .dn (.Kd (.qb ?_));cases c:okT x with
 |false=>exact Iw t c h
 |true=>exact Tp t c (f c h)
noncomputable def acf{G:.nZ}(h:G g):∀{Z:.p8} {rs:.ai .J} {x y:.J},zf w Z rs->dS G .lj [] (aq jB<|fPl .yz) (rw2 Z) [x,y,.be] g=.anQ (.kK g)
:= by
 intro Z rs x y T
 induction T generalizing x y with
 |nil=>exact Py h
 |@cons z r Z rs a f b =>
  have b:=b (x:=.vs) (y:=.vt);have i:=a g;cases r with
  |none=>exact Tv h rfl<|cE (cA .ly) i
  |some d =>
   have e:=ax (cA (f:=.yz) (σ:=[.vs,.vt,.be]) .ly) i;unfold oF;cases c:oF rs with
   |none=>rw[.iy c (Pz h rfl e b)]
   |some ds=>rw[.iy c (Lj h rfl e b)]
def Lk{g:Hd}(W:.ak)(M:∀z∈Z,Tx z.2)(N:Z.length<=100000)(v:lq g j=.a (kz Z,none))(H:.so<|wz Z):
  (Z.any .vu=true->.U7=.va g)/\
  (.Gh (λz => ! .oz)->(Z.any .sh=true->.U7=.y0 g)/\
  (.Gh .sh->∀rs,zf w Z rs->
   .U7=.anQ (.b7 g.length<|.aS g ds))):=by
 have t:=aah H;have E:em none (kz Z) g/\em .mi (wz Z) g:=⟨trivial,H⟩;have B:=.agV (.DT .Vu) (y:=NX "NoRow") (Z:=Z) (p:=none) (q:=none) E .vu λz u=>by
  have e:.Vu .So g=.ok (! .oz) g:=.aZ<|.c9<|Li z.1 (M z u) g;cases c : ! .oz with
  |true=>rw[.dL];exact iE e
  |false=>rw[.dL];exact fE e
 rw[<-WJ]at B;refine⟨λa=>?_,λa=>?_⟩
 ·obtain⟨σ,o⟩:=B.1 a
  exact .dA (cR<|.ab zU v t o)
 ·obtain⟨O,P,o⟩:=B.2 a
  have o:=.agp o;have J:∀z∈Z,.oz=true:=λz u=>by
   rw[.rE (zWo.mp a z u)]
  have L2:=.agV .adX (y:=NX "NoPeople") (Z:=Z) (p:=O) (q:=P) E .sh λz u=>by
   have e:.lZ (.fd 3<|.ae wPe) .acd .So g=.ok .Ip g:=by
    have A:tE (.fd 3<|.ae wPe) .So g=.ok (.D<|z.1=wPe) g:=.E1
    by_cases c:z.1=wPe
    ·rw[y3 c]at A⊢
     have q:=J z u;unfold wrt at q;rw[c]at q;have q:.wa (z.2):=q;obtain⟨i,F⟩:=.qj q;obtain⟨L,Q,_⟩:=Bn F;unfold isP;rw[F,Bool.true_and];exact jU A (.aZ<|ax (.nN<|zO rfl .b L)<|uE W i g)
    ·rw[z5 c]at A⊢
     exact sB A
   cases c:.Ip with
   |true=>rw[.dL];exact iE e
   |false=>rw[.dL];exact fE e
  rw[<-WJ]at L2;refine⟨λb=>?_,λb rs f=>?_⟩
  ·obtain⟨σ,s⟩:=L2.1 b
   exact .dA (sx o<|cR<|.ab zU v t s)
  ·obtain⟨I,q2,s⟩:=L2.2 b
   have s:=.agp s;have m:=.abt acf (x:=none) (y:=none) E f;rw[<-WJ]at m;have m:=Tw (nl:=2) (caps:=[0]) (a:=aa 1) (b:=aa 2) (tg:=.lj) (σ:=[.be,.e6,.bZ,I,q2]) rfl rfl v t m;cases c:oF rs with
   |none =>
    rw[c]at m;have e:.aee [.be,.e6,.bZ,I,q2] g=.pz g:=by
     unfold bJ;rw[m];rfl
    exact .dA<|sx o<|sx s<|fP e
   |some ds =>
    rw[c]at m;have C:∀{rs:.ai .J} {ds:.m},oF rs=.a ds->.vZ rs.length:=by
     intro rs
     induction rs with
     |nil=>intro ds e;cases e;rfl
     |cons r rs K =>
      intro ds e;cases r with
      |none=>cases e
      |some d =>
       unfold oF at e;cases c:oF rs with
       |none=>rw[.bO]
       |some l=>rw[.bO];rw[xR,xR,K c]
    exact .uH (sx o<|sx s<|aV<|cF m (by rw[C c,<-f.len];exact .bf N))
end
end Fm
set_option maxHeartbeats 1000000
namespace Fm
open Fy
def Bx(p:.cC .hG)(q:h1[k]?=.vW [d]):.ex vg=.cR d:=by
 rw[.fO];dsimp[q]
def kK(p:.bM=.ew):ae a r σ h=.ew:=by
 rw[.hF p]
def wa(p:.cC d)(q:.fy r=.ew):ae a r σ h=.ew:=by
 rw[.fO];rw[.hF q]
def TB(a:.jM=.ew):.pB σ h=.ew:=by
 rw[.hF a]
theorem TC:∀{fm L:.A},.Ln->kz .oD=fm.map D.str/\wz .oD=.g3
 |[],[],_=>.Bv
 |a::fm,b::L,e=>by
  have:=TC (Nat.succ.inj e:.Ln);dsimp[zZh,xI];exact⟨.eL _ this.1,.eL _ this.2⟩
/---/def IA(r:.g):Bool:=match .iF r with
 |[]=>true
 |wd::L=>match .vf with
  |none=>true
  |some fm=>.pq .vu
/---/def TD(n:Nat)(r:.g):Bool:=match .iF r with
 |[]=>false
 |wd::L=>match .vf with
  |none=>false
  |some fm=>!(.pq .vu)&&.pq .sh
section
variable{w:Web}{n dk:Nat}{h:Hd}{r:List Nat}
noncomputable abbrev XV:SF:=.KT jA
noncomputable abbrev XW:SF:=.acB
noncomputable abbrev TH:SF:=.af5<|.akv
  (sPl<|.mq bf .vJ)
noncomputable abbrev TK:SF:=bf<|.Sw eI
def TM(e:.NS h):cw [.nV,d] h=.va h :=
 .dn<|cR<|oE<|.rC<|Tr e
def F4(t:Tx r):XV [.ws,.aI r,none,none] h=.nx .k6 (.ga<|.iF r):=aH<|ax (.q2 cA)<|Ts t h
noncomputable def rR(W:.ak)(hd:.hx)(t:Tx r)(sp:.iF r=wd::L)
  (H:(.vf=none->o=.va .k6 (.ga<|wd :: L))/\∀fm,.Pj->
   (.pq .vu=true->o=.va .k6 .XA)/\
   (.pq (λz => ! .oz)=false->(.pq .sh=true->o=.y0 .k6 (h++.yl wd))/\
    (.pq .sh=false->∃rs,zf w .oD rs/\o=match oF rs with
     |some ds=>.nx .aod (h++[.q .t4,.IA,.q ds])
     |none=>.pz .k6 .XA))) :
  XW .k6 .Fc=o:=by
 have m:.fM .D5=.x .t4:=zAP;have p:fPl (.dM vg) .k6 .Fc=.ok w.enc .Fc:=cA<|Bx rfl<|.ag hd;have d:=WH m;cases c:.vf with
 |none =>
  rw[c]at d;rw[H.1 c];exact oE<|TB<|wa p<|kK<|.rC d
 |some fm =>
  rw[c]at d;obtain⟨P,s,d⟩:=d;have y:=Tq c;have v:.DB .k6 .Fc=.ok (.ref<|.Ge<|(wd::L).map .str) (.Fc++.cw .rz):=sJ rfl m;have g:=ah p<|ah (ax (cA (f:=.w5) .t0) d)<|cA (f:=.aoB)<|.lK v;obtain⟨K,u⟩:=TC y;have Q:.Gk:=by
   rw[.w4 (v5 32 r) sp xR];have:=t.ln;lia
  have M:.ad fm.zip L<=100000:=.c5 List.length_zip
  have D:∀z∈.oD,Tx z.2:=λz E=>t.part (c:=32) (by rw[sp];exact .vR<|(zUe (a:=z.1) (b:=z.2) E).2);have k:.D5++.cw .rz=.XA:=.aE zBT
  have O:=Lk W D M (by rw[K];exact s<|.D5++.cw .rz) (by rw[u];exact(zAP (l:=.D5) (a:=.eG .rz)));obtain⟨G,I⟩:=O;obtain⟨C,F⟩:=H.2 fm c;cases a:.pq .vu with
  |true=>rw[C a,<-k];exact oE<|cE g<|G a
  |false =>
   obtain⟨g3,N⟩:=I a;obtain⟨A,x⟩:=F a;cases b:.pq .sh with
   |true=>rw[A b,<-k];exact oE<|cE g<|g3 b
   |false =>
    obtain⟨rs,f,e⟩:=x b;have j:=N b rs f;rw[e];cases q:oF rs with
    |none=>rw[q]at j;dsimp only;rw[.hr k (oE<|cE g j)]
    |some ds =>
     rw[q]at j;have z:=.jp 3<|ax g j;have J:.s (.ho ((wd::L).map .str)++.dX .rz)=.i8 2:=.f
     have B:.D5++.dX .rz++.dX ds=h++[.eG .t4,.eG .rz,.eG ds]:=.f
     rw[J,B]at z;exact z
def aaj(W:.ak)(hd:.hx)(t:Tx r)(e:IA r=true):∃g,.tN r=.va (h++g):=by
 unfold IA at e;cases a:.iF r with
 |nil=>exact .B a<|ky 32 r
 |cons b L =>
  rw[a]at e;have d:=.Lq t;rw[a]at d;dsimp only at e;cases c:iN b L with
  |none =>
   exact⟨.cw<|.eh<|b::L,.M4<|rR W hd t a (o:=.fj (NX "NoRow") .k6<|.ah<|.eh<|b::L) ⟨.cB,λf z=>by rw[.fh c]⟩⟩
  |some f =>
   rw[.dL];dsimp only at e;exact⟨.yl b,.M4<|.afM "NoRow" ⟨(.mL c),λi z=>by
    rw[.fh c];rw[.o .cB (.mL e)]⟩⟩
def TN(W:.ak)(hd:.hx)(t:Tx r)(e:TD n r=true):∃g,.tN r=.y0 (h++g):=by
 unfold TD at e;cases a:.iF r with
 |nil=>exact .B a<|ky 32 r
 |cons b L =>
  rw[a]at e;have d:=.Lq t;rw[a]at d;dsimp only at e;cases c:iN b L with
  |none=>rw[.bO]
  |some k =>
   rw[.dL];dsimp[UE,zUn]at e;obtain⟨f,i⟩:=e;refine⟨.yl b,.M4<|.afM "NoPeople" ⟨(.mL c),λj z=>by
    rw[.fh c];rw[.o (.mL f) (.de ⟨.cB,.mL i⟩)]⟩⟩
structure tS(w:Web)(n:Nat)(r wd:List Nat)(L:List (List Nat))(rs:List (Option D)):Prop where
 tx:Tx r
 sp:bL 32 r=wd::L
 fm:∃fm,iN wd L=some fm/\(fm.zip L).any (λz=>!wrt z.1 z.2)=false/\(fm.zip L).any (λz=>decide (z.1=wPe) && !isP n z.2)=false/\zf w (fm.zip L) rs
def TQ(W:.ak)(hd:.hx)(R:.tW)(e:oF rs=none):∃g,.tN r=.pz (h++g):=by
 obtain⟨j,c,a,b,f⟩:=R.fm;have d:=.Lq R.tx;rw[R.sp]at d;refine⟨.yl wd,.M4<|rR W hd R.tx R.sp (o:=.pz .k6<|h++.yl wd) ⟨(.mL c),λi z=>by
  rw[.fh c];rw[.o (.mL a) .agB]⟩⟩
noncomputable abbrev sg3(dk:Nat)(h:Hd)(r:.g):Sd:=.aod
noncomputable abbrev hp3(h:Hd)(wd:.g)(L:.A)(ths:.m):Hd:=h++[.q .t4,.IA,.q ths]
def Ll(W:.ak)(hd:.hx)(R:.tW)(e:.zb)(q:.akV=o):
  aA XV (aA XW<|aA TH TK) [.ws,.aI r,none,none] h=o:=by
 obtain⟨i,c,a,b,f⟩:=R.fm;have d:=.Lq R.tx;rw[R.sp]at d;refine sx d<|sx (rR W hd R.tx R.sp (o:=.nx (sg3 dk h r) .Dp) ⟨(.mL c),λg z=>by
  rw[.fh c];rw[.o (.mL a) .agB]⟩) q
def TU(W:.ak)(hd:.hx)(R:.tW)(e:.zb)(q:.akV=.ic σ' (.Dp++g)):
  ∃g,.tN r=.ic (h++g):=⟨_,.o9 (.dA<|Ll W hd R e q) zBT⟩
end
end Fm
namespace Fm
/---/def same(a b:Nat)(t:Tie):Bool:=(t.a == a&&t.b == b)||(t.a == b&&t.b == a)
def wc:.oX t=true↔(t.a=a/\t.b=b)\/(t.a=b/\t.b=a):=.k same
/---/def Ec(T:.ca)(a b:Nat)(x:Int):.ca:=T.filter (λt=>.BI)++.fx 0 x [⟨a,b,x⟩] []
def aak(f:n<=30){T:.ca}(lt:∀t∈T,.NV)(un:.Zp):T.length<=30*n:=by
 have j:(T.map λt=>n*t.a+t.b).Nodup:=by
  rw[zWj,zYs];refine un.imp_of_mem λ{s t} d a u e=>?_;have g:=zBR (zZc _) (lt s d).1;have c:∀m M:Nat,M<n->(n*m+M)/n=m:=λm M h=>by rw[Nat.mul_add_div g,Nat.div_eq_of_lt h];rfl
  have b:(n*s.a+s.b)/n=(n*t.a+t.b)/n:=.eL (· / n) e;rw[c _ _ (lt s d).2,c _ _ (lt t a).2]at b;rw[b]at e;exact u.1 ⟨b,zXx e⟩
 have l:=KH j λx i=>by
  obtain⟨t,a,rfl⟩:=.ar i;exact YP (zUa (lt t a).2 _)<|Nat.mul_le_mul_left n (lt t a).1
 rw[zST]at l;exact zBL l<|zWt n f
def TV(k:n<=30)(O:.dY)(ne:a≠b)(j:a<n)(m:b<n)(l:x<=400):.mn .O4:=by
 have mem:∀t∈.O4,t∈T/\.oX t=false\/0<x/\t=⟨a,b,x⟩:=λt d=>by
  rcases .f5 d with d|d
  ·obtain⟨g,f⟩:=zXc.mp d
   rw[.iJ g .Ej]
  ·by_cases c:0<x
   ·rw[z3 c]at d;rw[.P ⟨c,.qW⟩]
   ·rw[.pL (yM c)]
 have lt:∀t∈.O4,.NV:=λt d=>by
  rcases mem t d with ⟨h,_⟩|⟨_,rfl⟩
  ·exact O.lt t h
  ·rw[.o j m]
 have i:.jm .O4 jp:=by
  unfold Ec;rw[zZw];refine⟨O.un.filter _,by split<;>simp,λs o t d=>?_⟩;obtain⟨g,f⟩:=zXc.mp o
  by_cases c:0<x
  ·rw[z3 c]at d
   have e:t=⟨a,b,x⟩:=.qW
   subst e;have f:.oX s=false:=.Ej
   rw[.bN .gz .gz]
   ·have:.oX s=true:=wc.mpr (.G z)
    rw[.wY this]
   ·have:.oX s=true:=wc.mpr (.F z)
    rw[.wY this]
  ·rw[.pL (yM c)]
 refine⟨λt d=>?_,lt,λt d=>?_,λt d=>.G<|lt t d,i,aak k lt i⟩
 ·rcases mem t d with ⟨h,_⟩|⟨_,rfl⟩
  ·exact O.ne t h
  ·exact ne
 ·rcases mem t d with ⟨h,_⟩|⟨c,rfl⟩
  ·exact O.wt t h
  ·rw[.o (.pc<|1<=x) l]
end Fm
set_option maxHeartbeats 1000000
namespace Fm
open Fy
noncomputable abbrev BYn:SF:=(.uu .Uk
  (.alQ
  (.bI (.fI<|.bE 3 .aa)
  (.aor
  (.ae3
  (sPl .Ts))))))
def aal:Le kH BYn:=.agN
def PB(S:1<=n)(p:n<=30)(O:.dY)(o:.sQ=.x .PR)(u:.aje):
  .EA (jb [.gj,.d tk] h):=by
 rw[.j λ_ Y=>?_];obtain⟨A,v⟩:=.q1;obtain⟨y,g,L,w,I,J⟩:=.kN DO v;obtain⟨m,d⟩:=qq<|.aS y .vo;refine Y ?_;have l:y.length=A+n:=by rw[w,zAK,I,v]
 have Z:.G9 [] m:=⟨⟨.aS g .vo,.hP d w zBT,.EL I⟩,λj V=>.K5<|J j V,.n8 d l zAP⟩;obtain⟨_,t,k3,@⟨_,X,B,E,C⟩⟩:=.aj4 w8 (all:=.PR) (rest:=[z]) (k:=0)
   (λ_ _ h' q=>by
    rw[.apf];rw[e];exact .ag o)
   (xs:=.h6) (tg:=gN 3) (σ:=.vm none none none) (h:=m) (b:=BYn) (by
   intro i x σ M r z;rw[wm]at z⊢;obtain @⟨_,a,b,c,N⟩:=z;have f:i<T.length:=by rw[.eT (.aw r) zST]
   rw[zBP,zAN f]at r;cases r;have K:T[i]∈T:=zYp f;have un:∀s∈.lu,jp s T[i]:=λs U=>by
    obtain⟨k,G,rfl⟩:=List.getElem_of_mem U;rw[zZe]at G;rw[List.getElem_take];exact .aeO G
   obtain⟨Q,H,W⟩:=Ng (tk:=tk) p O v N K un (zWr f) b c;exact⟨_,rfl,_,Q,.i (aal (.vm (.a<|cC T[i]) b c) M (by rw[H];trivial)) H,.mk W⟩)<|.mk Z
 rw[wm,zST,zYv]at C;obtain⟨g3,F,_⟩:=C.pre;have R:dD (.a tk) .PR (gN 3) BYn [z] (.vm X B E) t=.rs (.vm (.a z) B E) t :=
  zQ (by rw[F];exact .ag o) rfl<|.nM<|.aZ<|.c9<|u t
 rw[.fQ g3];rw[.hr F (cI (σ:=.SV none) rfl rfl<|.lI (.aZ<|um rfl o)<|.anO (eC (by
  rw[d,<-l];exact .adM L))<|cR<|Ld (dM rfl (by rw[d,w];exact bg _<|.ag o))<|k3.trans R)]
def XX{n:Nat}(a:1<=n)(c:n<=30)(r:Sd)(h:Hd):dF .SR .Rj aX (.T::r) h=.d5 (.T::r) :=
 .jT fE<|.rB<|ax (.jI .t0) (by rw[c5,y3<|show .gk<=.bp from .lR a,y3<|show .bp<=30 from .lR c];rfl)
def WK(a:1<=n)(c:n<=30)(O:.dY)(d:.sQ=.x .PR)(b:.aje)(x y:D):
  .EA (eZ [.gj,.d tk,x,y] h):=by
 obtain⟨g,e⟩:=PB a c O d b;rw[.o g (.dn<|sx (XX a c _ h)<|cR<|oE<|.qb e)]
/---/def okO(o:.X):Bool:=match o with|none=>true|some i=>.aN i 0||.aN i 1
def PC{ss:.em}(j:h[f]?=.kx)(ls:.he)(no:ss.all okO=false):jc [.gj,.l4] h=.rs h:=by
 have c:.ajo f=.v (ss.map λo=>D.bl<|okO o):=by
  have:=.amH f (.V0 (.bl<|okO .fH) .dO) j (xs:=.eO) (σ:=.bH) (by
   rintro x m σ ⟨a,rfl⟩;obtain⟨i,q,rfl⟩:=.ar m;refine .sZ;cases i with
   |none=>exact lJ<|mR .eQ
   | some i=>exact .Ut (.i (iH i h) (by
     unfold okO;congr 2
     by_cases k:i=0
     ·subst k;rfl
     ·by_cases l:i=1
      ·subst l;rfl
      ·show _=(.aN i 0||.aN i 1)
       rw[z5 k,z5 l,Bool.or_false,Bool.and_eq_false_iff,zVb,zVb];lia))) .K
  rw[this,.hf,UD];congr 1;apply vx;intro o _;cases o<;>rfl
 have p:.MQ .DE [.T,.t f] h=.et:=.i (pT (.vc j c)<|ni _ ss)<|.L all_map no;exact cI (σ:=[.T,.t f]) rfl rfl<|.jf (dL<|.dD rfl)<|.lI (gj (.FV j)<|.anT j)<|.nM<|.aZ p
def TW{n:Nat}(b:1<=n)(f:n<=30){T:.ca}(O:.dY){bs:.l}{ss:.em}(lb:.j5)(ls:.he)(no:ss.all okO=false){h:Hd}{tk bk k:Nat}
  (q:.sQ=.x .h6) (p:h[bk]?=.kw) (t:h[k]?=.kx):.EA (eZ [.gj,.d tk,.d bk,.hG] h):=by
 rw[.j .vn];obtain⟨l,j,N⟩:=tM b f O q;obtain⟨A,s⟩:=.q1;rw[<-s]at j N;obtain⟨g,i,u⟩:=N.pre;refine m ?_;have a:=Nh f O N;have o:=vH N.rf .f (by rw[i];exact .ag p) lb;have c:=PC (h:=l) (.Xu i) ls no;rw[.fQ g];rw[<-i];have tx:∀{r:LF} {σ:Sd} {h d:Hd} {x:D},.jM=.ic d->dh r σ h=.ic d:=λ{r σ h d x} e=>by rw[.hF e]
 exact .dn<|sx (XX b f _ h)<|.wO (.Dw ax<|.cd Iq j)<|.jf (aH<|mf<|.vc N.rf a)<|fP<|tx<|wa .Br<|wa (cA<|.c9 o)<|kK<|.qb c
end Fm
set_option maxHeartbeats 1000000
namespace Fm
open Fy
def acg(p q r s:Int)(h:Hd):oNe (.E [.e p,.e q]) (.E [.e r,.e s]) h=.ma (.D<|p=r/\q=s):=by
 by_cases a:p=r<;>by_cases b:q=s<;>simp[peq,oh,dep,tZ,a,b]
def ads(t:Tie)(v:.J)(h:Hd)(σ:Sd):.UW (.PT::σ) h=.lv [.e t.a,.e t.b]:=rfl
def Lm{S:.ca}{a b:Nat}(ne:a≠b)(up:∀t∈S,.wq)(n:P=.ack)(m:h1[k]?=.x .zX):
  .qX k .zX (gN 0) .Jm (aa 0) .zX [none,.a P] h1=.cR (.DP<|S.filter λt=>.BI):=by
 have:=.QX .zX (cs:=.Jm) (e:=aa 0) (h:=h1) (I:=.ye [a,.a P])
   (λd=>match d with | .tup [.int i,.int j,.int x] => ! .oX ⟨i.toNat,j.toNat,x⟩|_=>false) (λd=>d) m (xs:=.zX) (σ:=[none,.a P]) (by
   rintro x p σ ⟨y,rfl⟩;obtain⟨t,r,rfl⟩:=.ar p;refine⟨_,rfl,.K,?_,.cB⟩;have q:oNe (.E [.e t.a,.e t.b]) P h1=.cQ .BI h1:=by
    have lt:=up t r;rw[n]
    by_cases c:a<b
    ·have f:¬.M b<a:=.b
     have l:.M b>a:=.b
     have e:.D (.p0=a/\.M t.b=b)=.oX t:=by rw[Bool.eq_iff_iff,wc,vb,Int.ofNat_inj,Int.ofNat_inj];rw[.o .inl λq=>q.resolve_right λz=>Nat.lt_asymm c .ajX]
     rw[yM f,z3 l,acg,e]
    ·have f:.M b<a:=.b
     have l:¬.M b>a:=.b
     have e:.D (.p0=b/\.M t.b=a)=.oX t:=by rw[Bool.eq_iff_iff,wc,vb,Int.ofNat_inj,Int.ofNat_inj];rw[.o .inr λq=>q.resolve_left λz=>c .ajX]
     rw[z3 f,yM l,acg,e]
   have k:=ads t none h1 [.a P];show kc .Jm [.PT,.a P] h1=.cR .BI;generalize .UW=E at k⊢;generalize .BI=o at q⊢;dsimp[kc,tE,aj,aa,slot,k,aE,List.getElem?_cons_succ,List.getElem?_cons_zero,q];cases o<;>rfl) .K
 rw[this,List.map_id',List.filter_map];rfl
def fJ{w:Web}(W:.ak)(hp:p<n)(h:Hd):.Ni dN=.v .non:=by
 have q:=uE W .wm h;rw[y3<|zZq p,y3<|show .M p<=.bp-1 by lia]at q;exact .i (.ab SD<|.YX q) aM
def Nw{h:Hd}{p:Nat}{d:D}(b:∀g,.dr 3 g=.iX g)(a:∀g,.dr 1 g=.bU p g)(c:∀g,.dr 2 g=.e0 g)(hp:p<l.length):.U0 σ (.ah l)=.c6 (.ah<|l.set p d) :=
 .o9 (ul (k:=p) (c _) (b _) (a _) .CS<|.bJ ixN hp) .nX
def at3{h:Hd}:.fM .LY=.jK/\(.LY)[(.gT h [a])]?=.cu/\(.LY)[(.gT (h++[a]) [b])]?=.a8:=⟨bg _ .Gl,.Gl,zAP⟩
def go3(w:Web):.j6 (.ok w.enc .LY)=.v w.enc:=by rw[zBT,zBT];exact dJ<|vE _
section
variable{n:Nat}(hn1:1<=n)(hn:n<=30){T:List Tie}(O:TOk n n 0 T){bs:List Int}{ss:List (Option Int)}(lb:bs.length=n)(ls:ss.length=n)
include hn1 hn O lb ls
def IB(os:∀x∈ss,.fZ)(hp:p<n)(x:Int)(h:Hd):
  kW [.ih,.e p,.e x] h=.ok (.AQ .FI).enc h:=by
 have W:=.Ay mT;have j:=.Ay kI<|.uK .FI;have f:=p7 W h;have e:=nT W<|.uK .FI++.cw .PY;have c:=.n4 DQ (pZ hn O).1 (bs:=.FI) (.k lb) ls os at3.2.1 at3.1<|.agq<|.dH .FI;rw[AW hn O]at c;have c:=.cd Tj c;have g:=Nw (h:=h) (l:=.i4) (p:=p) (d:=.e x) (σ:=[some .ih,.w p,.w x,.aH]) .cB .cB .cB<|.bJ lb hp;rw[<-List.map_set]at g;have i:.NE:=rfl;have k:.ED:=rfl;obtain⟨w,m⟩:=qq .dB;rw[<-m]at W j f e i k g⊢;rw[i]at f;rw[k]at e;exact .i (.ft<|.yy hp<|.jf (.cI aH f)<|.jf g<|aV<|ax (.Uu<|.cI ah j<|.nN<|.jc e) c)<|go3 _
def CO(hp:p<n)(o:okO .aF=false)(h:Hd):.EA (jV [.ih,.e p,.e x] h):=by
 have W:=.Ay mT;have j:=.Ay kI<|.ah .UN;have c:=nT W h;have e:=p7 W<|.ah .UN++.cw .PY;obtain⟨g,m⟩:=.n4 TW (pZ hn O).1 (ss:=ss.set p .aF) lb (.k ls) (by
  rw[List.all_eq_false];exact⟨.aF,List.mem_iff_getElem.mpr ⟨p,by rw[zZn,ls];exact hp,.f⟩,.jV o⟩) at3.2.1 (.agq .UN) at3.1
 have f:=Nw (h:=h) (l:=.eO) (p:=p) (d:=bT .aF) (σ:=[some .ih,.w p,.b0 bT .aF,.aH]) .cB .cB .cB<|.bJ ls hp;rw[<-List.map_set]at f;have i:.NE:=rfl;have k:.ED:=rfl;obtain⟨w,q⟩:=qq .dB;rw[<-q]at W j e c i k f⊢;rw[i]at e;rw[k]at c;rw[.o _ (.i (.dn<|.yy hp<|.jf (.cI aH c)<|.jf f<|fP<|cE (.Uu<|.cI ah j<|.cI bB e rfl) m)<|.hP zBT zBT zBT)]
def F5{a b:Nat}(ne:a≠b)(r:a<n)(u:b<n){x:Int}(L:x<0\/400<x)(h:Hd):.EA (jC [.ih,.e a,.e b,.e x] h):=by
 have W:=.Ay mT;obtain⟨S,f⟩:=qq .hg;have o:.mn S:=by rw[f];exact(pZ hn O).1
 have H:∀t∈S,.wq:=λt A=>by rw[f]at A;exact(mC.mp A).2.1
 have d:=.Ay kI h;rw[<-f]at d;obtain⟨P,m⟩:=qq (.ack:D);obtain⟨g,e⟩:=.iC<|.ah .zX;have y:=Lm ne H m (h1:=g) (k:=h.length)<|.p e zAP;obtain⟨F,l⟩:=qq<|S.filter λt=>.BI;have OF:.mn F:=by
  have:=TV hn o ne r u (x:=0) .c;unfold Ec at this;rw[yM .c,X1]at this;rw[.ap l this]
 have G:F.length<=900:=by rw[l];exact .j9 zWl<|zBL o.len .b
 have p:.ad F.map cC<SZ:=.zZ<|.im G
 rw[<-l]at y;rw[<-e]at d;obtain⟨z,q⟩:=qq (.E (.yL x):D);have s:.NE:=rfl;have v:.ED:=rfl;have j:=p7 W<|.aS g .za;have i:=nT W<|.aS g .za++.cw .i4;obtain⟨K,C⟩:=.n4 WK OF (z:=z) (at3 (h:=g) (a:=.q .za) (b:=.q .i4) (c:=.q .eO)).1 (λg=>by
  rw[.hS (Bp n [.M a,b,x] g) (show rM n [.M a,b,x]=false from z5 .Be)];rw[.ap q this]) (.ref<|.gT g<|.dX .za)<|.ref<|.s<|g++.dX .za++.dX (.dt bs.map)
 obtain⟨w,E⟩:=qq .dB;rw[<-E]at W d j i s v⊢;rw[s]at j;rw[v]at i;have I:.adb .aeW (.aS g<|F.map cC)=.nx .aeW (.aS g .za):=by
  have J:=c5 x 0 0<|.aS g<|F.map cC;refine .ge i4 (bC (b:=false)<|aG<|ax .ly<|J.trans (by
   congr 2;rw[Bool.and_eq_false_iff,zVb,zVb];lia)) dZ (.Qo (eB .ly) p) ?_
  rw[.nX,q]
 have B:.Y5 oEq=.et:=AS.trans<|.bA .nW;rw[.o _ (.i (.dn<|.yy r<|.yy u<|.Aw (.dD B)<|.jf (aH<|show .aeg [.be,.w a,.mj,.w x,none,none] h=.v P by rw[m];rfl)<|.jf (aH<|cF (cV (.cI dM d<|.p e zAP) y)<|zZj p)<|.jf I<|fP<|cE (.Uu<|.dv<|.cI bB j<|.jc i) C) (by rw[e,zBT,zBT,zBT,zBT]))]
end
def CP{w:Web}(W:.ak)(hp:p<n)(x:D)(h:Hd):jC [w.enc,.e p,.e p,x] h=.rs h :=
 .dn<|.yy hp<|.yy hp<|.nM<|.dD<|AS.trans<|.bA<|y3 rfl
end Fm
set_option maxHeartbeats 1000000
namespace Fm
open Fy
noncomputable abbrev NL(l:.g):.m:=l.map .y2
def WL(u:.X)(h:Hd):oNe (bT u) (.e 0) h=.aY (.FZ u):=by
 cases u with
 |none=>rfl
 |some v =>
  show .hR oNe v (.e 0) h=_;rw[km]
  rw[.aV v 0]
  ·rw[y3 e,z5 λz=>z<|.bA e];rfl
  ·rw[z5 e,y3<|show (.aM≠.a (0:Int)) from .r2 zBS];rfl
def ach{w:Web}(W:.ak)(hp:p<n):atI .f0 .wm=.b0 bT (.lS p):=by
 have h:p<w.stays.length:=W.s.symm▸hp;rw[zAO,zAN h];exact .oy<|zAN h
def Ln{w:Web}(W:.ak)(hp:p<n)(h:Hd):ie [w.enc,.fw p] h=.aY (.FZ<|.lS p):=by
 have s:iR [w.enc,.fw p] h=.jP bT (.lS p):=.JP<|ach W hp;have q:=uE W .wm h;rw[y3<|zZq p,y3<|show .M p<=.bp-1 by lia]at q;exact .yG<|.sH<|jU (aG<|.c9 q)<|aG<|.cV (.CT bB s)<|WL _ _
section
variable{w:Web}{n:Nat}{h:Hd}{k:Nat}
noncomputable abbrev MbE:EF:=aq ie<|.yk 0
def IC(W:.ak)(lt:∀p∈l,p<n)(c:.i7<|NL l):.yr (NL l) MbE (NL l) [none,.be] h=.v (l.map λp=>D.bl<|.FZ<|.lS p):=by
 have:=.QX (NL l) (cs:=[]) (e:=MbE) (h:=h) (I:=λσ=>.GV [a,.be]) .c3 (.Jl<|.tw<|.lS i.toNat≠.hI) c (xs:=NL l) (σ:=[none,.be]) (by
  rintro x f σ ⟨a,rfl⟩;obtain⟨i,b,rfl⟩:=.ar f;exact .jg<|.c9<|Ln W (lt i b) h) .K
 rw[this,.zP,UD];rfl
def Ed(W:.ak)(lt:∀p∈l,p<n)(c:.i7<|NL l)(no:.cM<|l.all λp=>.FZ<|.lS p):.Eu fG=.et:=by
 have a:=.i (pT (.ah6 c<|IC W lt c)<|ni _ l)<|.L all_map no;exact .cT<|sx (.e1<|.FV c)<|.OR<|.aZ a
def By(W:.ak)(l:a<n)(o:b<n)(no:¬a<b)(d:.i7<|NL [a,b]):.Eu fG=.et:=by
 have lt:∀p∈[a,b],p<n:=λp f=>by
  rcases .bj f with rfl|f
  ·exact l
  ·rw[.df f];exact o
 cases c:[a,b].all λp=>.FZ (.lS p) with
 |false=>exact Ed W lt d c
 |true =>
  have q:=.i (pT (.ah6 d<|IC W lt d)<|ni _ [a,b])<|.L all_map c;have e:.JN [.w 0,.bZ] h=.et:=aw (.cG d .sm) (bq rfl .r1 (aS d)<|.aC DK)<|Sz .b;have j:.oV (.k4 1) .JN (.k4 1) [none,.bZ] h=.v [.bl false]:=by
   have:=.x3 (.k4 1) (e:=.JN) (h:=h) (I:=λσ=>.GV [a,.bZ]) .c3 (.de .mw) trivial (xs:=.k4 1) (σ:=[none,.bZ]) (by
    rintro x m σ ⟨a,rfl⟩;obtain⟨i,r,rfl⟩:=.ar m;obtain rfl:i=0:=.lH<|zYj.mp r
    exact .jg e) .K
   rw[.iz]
  exact .cT (sx (.e1<|.FV d)<|sx (.e1<|.aZ q)<|aV<|pT (.KD [1] (fq (n:=1) (.JX d rfl) .c) j) rfl)
def rS{h h':Hd}{x:D}(e:.gV=.ew):rz f σ h=.ew:=by unfold rz;rw[e]
def aam{h h':Hd}(e:.gV=.ew):sRz f σ h=.GH:=by unfold sRz;rw[e]
def xA(e:.Eu fG=.et):eI (.xX wSw) h=.y0 h:=by
 have b:.Eu vK=.y0 h:=.dn<|.nM<|.aZ<|.c9 e;have t:.Eu mi=.y0 h:=.dn<|cR<|oE<|rS<|wa .Br<|kK<|.qb b;exact .dn<|.Kd<|rS<|rS<|.qb t
def ID(W:.ak)(F:.hA w)(no:.u6≠s)(h:Hd):.S8 gp:=by
 have c:=Ea<|Nf W F h;have r:mW [w.enc,bp s] h=.et:=.yG<|.WO<|.sM<|.cV (.CT bB<|KA W F h) (by rw[.aok,z5 no]);exact .dn<|.WO<|.WO<|iE<|mR<|.aZ<|.c9<|D7 r
end
end Fm
set_option maxHeartbeats 1000000
namespace Fm
open Fy
/---/def fr(ss:.em)(n:Nat):.g:=.pW (.fS n) λi=>.l6 .Ca
def aan(ss:.em)(n:Nat):.s (fr ss n)<=n:=by
 rw[.eT (zWl (λi=>.l6 .Ca)<|.fS n) zBN]
def WM(u:.X):tJ (bT u)=u.isNone:=by cases u<;>rfl
def IE(ss:.em):nO .eO=.cY ss.length λi=>D.tup [.fw i,bT .Ca]:=by
 unfold nO;rw[zST];apply zXr;intro i
 by_cases a:i<ss.length
 ·have z:((.fS ss.length).zip .eO)[i]?=.a (i,bT .Ca):=by
   rw[List.getElem?_zip_eq_some];exact⟨zXb a,by rw[zBP,zAO,zAN a];rfl⟩
  rw[zBP,z,zBP,zXb a];rfl
 ·rw[zZz .bz,zZz .bz]
theorem yL{G:.nZ}{tg:GF}{cs:.ai TF}{e:EF}{h:Hd}(I:.bF Sd)(p:.cH D)(f:D->D)(a:G h):
  .abX<|I σ->.LL G=.al3
 |[],_,_,_=>by unfold dS;rw[z3 a];rfl
 |x::xs,σ,st,i=>by
  obtain⟨σ',h1,g,j,d⟩:=st x zCK σ i;have b:=yL I p f a (xs:=xs) (σ := σ') (λy k=>st y<|.dF k) g;unfold dS;rw[z3 a,h1];dsimp[j,aE];cases c:p x with
  |true=>rw[List.filter_cons_of_pos c,xI,d c];simp[b]
  |false=>rw[List.filter_cons_of_neg<|.jV c,b];simp
section
variable{w:Web}{n:Nat}{h:Hd}{k:Nat}
def Bz(W:.ak)(n30:n<=30)(h:Hd):.kT mD=.G1 1 (h++[.q .f0,.q<|NL .IM]):=by
 have j:.ad w.stays.map bT<=SZ:=by rw[zST,W.s];exact uq n30
 have m:.kT c6=.pj .f0:=.uH<|aV<|cF (.kj cL rfl) j;have f:.fM (.ah .f0)=.x .f0:=zAP;have l:dS (λc=>.fM c=.x .f0) .lj [(tE .Fs)] (aa 0) (nO .f0) [none,none] (.ah .f0)=.amn:=by
  have:=yL (G:=λc=>.fM c = .x .f0) (tg:=.lj) (cs:=[(tE .Fs)]) (e:=aa 0) (h:=.ah .f0) (I:=λσ=>∃a b,σ = [a,b]) .aeA (λd=>match d with | .tup [x,_]=>x|_=>.non) f (xs:=nO .f0) (σ:=[none,none]) (λy g σ p=>by
   obtain⟨a,b,e⟩:=p;subst e;rw[IE]at g;rw[.rG g];exact .Wo<|DL .eQ) (.dk _)
  rw[.a9];congr 1;rw[IE,List.filter_map,UD,W.s];have e:(.aeA ∘ λi:Nat=>D.tup [.fw i,bT<|.lS i])=λi=>.l6 (.lS i):=by
   funext i;exact WM _
  rw[e];rfl
 have o:.agZ [.be] h=.amn:=by
  have e:.GT [.be] h=.pj .f0:=.jc m;unfold Ay;rw[e];rw[.mm f l]
 refine .i (.ft<|aV<|cF o<|.zZ<|.j9 aan<|uq n30) (cN.trans ?_);simp
def aao(W:.ak)(n30:n<=30)(b:9<.DW)(h:Hd):∃g,.kT sG=.Dt h:=by
 have f:=Bz W n30 h;have a:.aea:=.f
 rw[.o _ (.dn<|.jf (.cI aH f)<|.nM<|aG<|.JX a<|.se uo)]
def TX(W:.ak)(n30:n<=30)(b:12<.DW)(h:Hd):∃g,.kT eX=.Dt h:=by
 have f:=Bz W n30 h;have a:.aea:=.f
 rw[.o _ (.dn<|.nM<|aG<|aw (du<|.cI cL f<|aS a) rfl<|.se uo)]
def F6{k:D}{o:Res D}(a:wd≠wSw)(q:.u0=.sW)(e:gq [w.enc,.h wd] h=.ew):.S2 wd=.ew :=
 .aeJ<|cR<|.i (.aoM q)<|fP<|.qb e
def Nx(W:.ak)(n30:n<=30)(a:9<.DW)(k:D)(h:Hd):.Zs .i5:=by
 obtain⟨g,e⟩:=aao W n30 a h;rw[.o g (.SP<|.kV<|.kV<|.kV<|.kV<|fP<|rS<|kK<|.rC e)]
def PD(W:.ak)(n30:n<=30)(a:12<.DW)(k:D)(h:Hd):.Zs .r3:=by
 obtain⟨g,e⟩:=TX W n30 a h;have r:.kT vI=.Dt h:=.dn<|fP<|rS<|.rC e;rw[.o g (.SP .ana)]
def PF(W:.ak)(n30:n<=30)(a:12<.DW)(k:D)(h:Hd):.Zs .r4:=by
 obtain⟨g,e⟩:=TX W n30 a .cS;have r:.kT vJ=.Dt .cS:=.dn<|.jf .anp<|cR<|aam<|.rC e;rw[zBT]at r;rw[.o _ (.SP<|.kV .ana)]
def TY{k:D}(a:wd≠wSw)(q:.u0=.a fm)(ne:.cM fm.isEmpty)(e:fX [w.enc,.h wd,k] h=.ew):.S2 wd=.ew :=
 .aeJ<|.Aw (aG<|.a2 F3 (v7 rfl q) (by rw[ne]))<|fP<|cE (cA .ly) e
def Lo(W:.ak){s:.l}(F:.hA w)(no:.u6≠s)(a:.i7 [bp s,bp s]):eI (.xX .qm) h=.YN:=by
 have j:.S8 sF:=.afe;exact .an4<|.agd .sm
def WN(W:.ak){s:.l}(F:.hA w)(no:.u6≠s)(a:.i7 [bp s,bp s]):eI (.xX .me) h=.YN:=by
 have j:.S8 Ft:=.afe;exact .an4<|.kV<|.agd<|tK _ _
end
end Fm
set_option maxHeartbeats 1000000
namespace Fm
open Fy
def aap(p:.jN=.fj .zQ σ' h')(q:c∈cs):RK n i cs b σ h=.ajU:=by unfold RK;rw[p];exact z3 q
variable{l:List D}
def TZ(p:.cC<|.exn c l)(q:.v3 c=.cu):sT tb a σ h=.cQ b h1:=by
 unfold sT;rw[p,aE];dsimp[isX,q]
def zV(p:.cC .aK)(q:.hO=.b7 m c)(d:.lm c)(e:c[m]?=.x k)(z:.Oe):.lP ja=.ok (l++k) c:=by
 rw[.fO];show .eE _ _=_;rw[q,aE];dsimp[d,e,z3 z]
def sM(p:.bM=.v .hG)(b:.i7 l)(q:.jM=.v xs)(z:.Fn xs.length):bJ (ja a<|bJ r) σ h=.G1 1 (h++[.wG,.hM l xs]):=by
 have c:=.afj<|.ag b;refine .amy;rw[zAK,zBT];rfl
/---/def BL(j:Int):.m:=.afW++[.dO]
noncomputable abbrev CL:.ed String Int:=[("NoStand",0),("NoRest",1),("TooMuch",2),("NoPeople",3),("NoRow",4),("NoText",5),("NoWeb",6)]
def IG(e:.zG)(h:Hd):.Sh (ko [.zQ] h):=by
 have f:∀{tb:.yS} (i:Int) (_:∀p∈CL,.v3 (p.1)=.a (.D<|i=p.2)) (y:.J) (g:Hd),.JT tb [.ox c,y] g=.cQ (.aN i j) g:=λi q y g=>.aia;have N:∀{tb:.yS} (_:∀p∈CL,.v3 (p.1)=.cO) (y:.J) (g:Hd),.JT tb [.ox c,y] g=.Bd g:=λq y g=>.aia;have C:=.jp 1<|cF (σ:=[.ox c,none]) (h:=h) (ah (.p4 .Dm 0 .c none h)<|bB (.p4 .Do 1 .c none h)<|.p4 .Fh 2 .c none h) .f2;obtain⟨w,s⟩:=qq ([.oS 0,.oS 1,.oS 2]:.m);have H:w.length=3:=.aE s
 rw[<-s]at C;obtain⟨b,u⟩:=.iC<|.ah w;rw[<-u]at C;have M:.fM b=.x w:=.p u zAP
 have A:=.jp 1<|.u8 sM (σ:=[.ox c,.aH]) (h:=b) rfl M (ah (.p4 .Dl 3 .c _ b)<|bB (.p4 .Eb 4 .c _ b)<|.p4 .Fi 5 .c _ b) (by rw[H];exact X2 rfl);obtain⟨n,t⟩:=qq (w++.aac:.m);have E:n.length=6:=by rw[t,zAK,H];rfl
 rw[<-t]at A;obtain⟨d,z⟩:=.iC<|b++[.q .aac,.q n];rw[<-z]at A;have I:d[b.length+1]?=.x n:=.fm z
 have B:=.jp 1<|.u8 sM (σ:=[.ox c,.jO b.length 1]) (h:=d) rfl I (ah (.p4 .D7 6 .c _ d)<|bB (.p4 .si 7 .c _ d)<|.p4 .si 8 .c _ d) (by rw[E];exact X2 rfl);obtain⟨x,o⟩:=qq (n++.aab:.m);have K:x.length=9:=by rw[o,zAK,E];rfl
 rw[<-o]at B;obtain⟨v,m⟩:=.iC<|d++[.q .aab,.q x];rw[<-m]at B;have L:v[d.length+1]?=.x x:=.fm m
 have G:=aV<|sM (xs:=[.dO]) (r:=.G5 .xT) (a:=aa 1) (σ:=[.ox c,.jO d.length 1]) (h:=v) rfl L (.lK<|N (tb:=.xT) .c _ v)<|.jV K;have J:x++[.dO]=BL j:=by rw[o,t,s];rfl
 rw[J]at G;have F:v++.amY=h++(.cw w++[.q .aac,.q n]++[.q .aab,.q x]++.amY):=by rw[m,z,u];dsimp[zBT]
 refine⟨v.length+1,_,.o9 (.i (.kC [.a .zQ,none]<|sx (.e1 .eQ)<|sx C<|sx A<|sx B G) cN) F,?_⟩;rw[<-F];simp
def T0(j:Int)(h:Hd):.Sh (iV [.e j] h):=by
 obtain⟨a,b⟩:=qq (.afW:.m);have c:a.length=9:=.hP b zST zBN
 have o:.oV (.k4 9) .ZT (.k4 9) [none,.w j] h=.v a:=by
  have:=.x3 (.k4 9) (e:=.ZT) (h:=h) (I:=λσ=>∃x,σ = [x,.w j]) .c3 (.Jl<|.tw<|i=j) trivial (xs:=.k4 9) (σ:=[none,.w j]) (by
   rintro x l σ ⟨u,rfl⟩;obtain⟨i,q,rfl⟩:=.ar l;exact .jg rfl) .K
  rw[this,.zP,UD,b];rfl
 have f:.aga [.w j] h=.pj a:=cF (cV (fq (n:=9) rfl .c) o)<|.jV c;have p:.als [.w j] (.ah a)=.ok (.ref<|.Ge a) (.ah a++.cw [.dO]):=.q2 cF .f2;have m:=zV f p .Gl zAP<|.jV c;refine⟨_,_,.i (.uH<|aV<|cF m (by rw[zAK,c];decide))<|.L zBT zBT,?_⟩;rw[<-zBT,<-zBT,zAP,b];rfl
def Lp(j:Int):eqL (BL j) (BL j)=.cO:=by
 simp[BL,eqL,oh,peq,tZ,dep,List.range,List.range.loop]
def Ny(h1:h[a]?=.x l)(d:h[c]?=.x k)(e:eqL l k=.cu):oEq .z (.d c) h=.aY b:=by
 dsimp[oEq,eqG,jL,h1,d,e]
def WO(h1:h[a]?=.x l)(d:h[c]?=.x k)(e:eqL l k=.cu):oNe .z (.d c) h=.ma b:=by
 dsimp[oNe,eqG,jL,h1,d,e]
/---/def Rfs(dk:Nat)(d:D)(c:String)(h:Hd):Prop:=∃g,cw [.nV,d] h=.oO c (h++g)
def Lq(hd:.Cj l)(r:Rfs dk d c h)(e:.zG)(b:.E6):.Sh (eV [.nV,d] h):=by
 rw[.j .oN];obtain⟨g,r⟩:=r;obtain⟨k,f,q,z⟩:=IG e<|h++g;refine n ?_;have a:AL cw (aa 0) .nI [.ws,.a7,.r8,none] h=.oO c (h++g):=by
  unfold AL;rw[.d2<|aa 0 .ajJ h=.v .nV];dsimp[hd];rw[.d2<|.nI .ajJ h=.v [d]];exact r
 have m:c∈.Iy:=by
  have:∀p∈CL,p.1≠"NoText"->p.1∈.Iy:=.c
  exact this (c,j) e b
 refine⟨k,g++f,.o9 (.i (.kC [.ws,.a7,none,none]<|sx (.jp 2 (d:=.non) rfl)<|sx (aap (zT a) m)<|.cI aV q) cN) zBT,.ay zBT z⟩
end Fm
set_option maxHeartbeats 1000000
namespace Fm
open Fy
def WP(w:Web):An (.ob .q7)=true:=by
 show .wB .q7;dsimp[i8,vE,Bool.and_true]
def T3{b:Web}(e:.j8 d)(f:.Bl dk):.At ((h++g).set dk<|.ob [b.enc])=.e0 (.Wq b.enc):=by
 rw[.alf f];refine Pb e .f λk c i a=>?_;rw[zAL .Xw]at a
 rw[.dI dk k]
 ·subst z
  rw[.ik (X0 f)];rw[.P (WP b)]
 ·rw[zBO z]at a
  rw[.O a]
def Nz(p:e σ g=.e0 f)(q:x σ f=.b7 dk c)(r:c[dk]?=.vW l)(h:.f1 1):vh x e σ g=.c6 (c.set dk .Qn):=by
 unfold vh;dsimp[p,q,outE,r];cases l with
 |nil=>rfl
 |cons a l =>
  cases l with
  |nil=>rfl
  |cons b l=>exact .lf h
def F7(p:e σ g=.p6 a):vh x e σ g=.p6 σ a:=by
 unfold vh;dsimp[p,outE]
section
variable{w:Web}{n dk:Nat}{h:Hd}{r wd:List Nat}{L:List (List Nat)}{rs:List (Option D)}{ths:List D}{c:String}
def adt(n1:wd≠.eA)(b:wd≠.fc)(a:wd≠.gQ)(g:Hd):.acg false:=by
 have f:∀k:.g,wd≠k->.c1 k wd:=λk z=>.g6<|zZs z;show .nv (D.bl<|(.eA:.g) == wd||(.fc == wd||(.gQ == wd||false))) g=_;rw[f _ n1,f _ b,f _ a];rfl
noncomputable abbrev Ee(wd:.g):Bool:=.aN wd .eA||.aN wd .fc||.aN wd .gQ
def WQ(g:Hd):.acg (Ee wd):=by
 by_cases d:wd=.eA
 ·subst d;rfl
 by_cases b:wd=.fc
 ·subst b;rfl
 by_cases a:wd=.gQ
 ·subst a;rfl
 rw[adt d b a];unfold Ee;rw[z5 d,z5 b,z5 a];rfl
structure G3(w:Web)(dk:Nat)(h:Hd)(r wd:List Nat)(ths:List D)(g:Hd):Prop where
 a0:fAt (aa 2) (fC (.int 0)) (sg3 dk h r) g=.ok (.str wd) g
 d:g[dk]?=some (.ob [w.enc])
 k:g[h.length+2]?=some (.lst ths)
def g3(hd:.hx):G3 w dk h r wd ths .Dp:=by
 have a:.fM .Dp=.x .t4:=eJ;exact⟨.cG a .sm,.ag hd,.f⟩
def gW(W:.ak)(hd:.hx)(R:.tW)(e:.zb)(b:Ee wd=false)(d:.JU<|∃g',eI (.xX wd) g=.oO c (g++g')):.ju r c h:=by
 have G:=.IN;obtain⟨g',a⟩:=d _ _ G.k;exact TU W hd R e<|.Aw (.JM b)<|fP<|.IP cE
def uF(W:.ak)(hd:.hx)(R:.tW)(e:.zb)(b:Ee wd=true)(d:.JU<|∃g',.Gp wd=.oO c (g++g')):.ju r c h:=by
 have G:=.IN;obtain⟨g',a⟩:=d _ _ G.k;exact TU W hd R e<|cR<|.i (pv (.JM b) rfl)<|cR<|F7<|.IP cE
def WR(W:.ak)(hd:.hx)(R:.tW)(e:.zb)(b:Ee wd=false)(d:.JU<|eI (.xX wd) g=.fi x g):.tN r=.ib x:=by
 have G:=.IN;have a:=d _ _ G.k;exact .Km<|Ll W hd R e<|.Aw (.JM b)<|aV<|.IP ax
def WS(W:.ak)(hd:.hx)(R:.tW)(e:.zb)(d:Ee wd=true){b:Web}(i:.JU<|.Gp wd=.ok b.enc g):.tN r=.fi .vJ (.Wq b.enc):=by
 have G:=.IN;have a:=i _ _ G.k;have f:.Bl dk:=.aw hd;exact .i (.ft<|Ll W hd R e<|jw<|.i (pv (.JM d) rfl)<|.Oj<|Nz (.IP ax) (cA rfl) G.d .f)<|T3 rfl f
end
theorem BA:∀{Z:.p8},(∀z∈Z,z.1≠wSt/\.oz=true)->zf w Z (Z.map λz=>.b0 th z)
 |[],_=>.nil
 |z::Z,H=>.bn (xz (H z .lT).1 (H z .lT).2)<|BA λy a=>H y<|.vR a
theorem fK:∀l:.m,oF (.b8 some)=.eC
 |[]=>rfl
 |d::l=>by dsimp[xI,oF,fK l]
/---/def pA(n:Nat)(r wd:.g)(L fm:.A):Bool :=
 .Sg<|.D (.iF r=wd::L)&&.D .Pj&&((.oD).all λz=>.D (z.1≠wSt)&&.oz && ! .Ip)
def jZ(e:pA n r wd L fm=true):tS w n r wd L (.HR<|.dg .oD th):=by
 unfold pA at e;dsimp[UE,zYn,vb]at e;obtain⟨⟨⟨⟨g,i⟩,b⟩,f⟩,d⟩:=e;refine .iN ⟨.bf f,λc h=>d c h⟩ g fm i ?_ ?_
 ·rw[zWo]
  intro z a q;rw[.db ((b z a).1.2)]
 ·rw[zWo]
  intro z a q;rw[.hu ((b z a).2) q]
 ·rw[UD]
  exact BA λz a=>⟨(b z a).1.1,(b z a).1.2⟩
def rT(e:sn z.2=.fH)(ne:z.2≠jE):th z=.aG:=by unfold th;rw[yM ne,e];rfl
section
variable{w:Web}{n dk:Nat}{h:Hd}{a b:Nat}{x:Int}
def NB(c:.so<|.yL x)(e:jC [w.enc,.e a,.e b,.e x] g=.rs g'):.Gp .eA=.rs g' :=
 .dA<|.Kd<|cE (cA<|.dv<|ah (.cG c .sm)<|bB (.cG c<|.aC DK)<|.cG c<|.aC ab6 _) e
def T4(c:.so [.e a,.e x])(e:jV [w.enc,.e a,.e x] g=.rs g'):.Gp .gQ=.rs g' :=
 .dA<|.kV<|.kV<|fP<|cE .acX e
def WT(c:.so [.e a,.e x])(e:kW [w.enc,.e a,.e x] g=.e0 g):.Gp .fc=.e0 g :=
 .cT<|.kV<|jw<|.i .Z3<|aV<|ax .acX e
end
end Fm
set_option maxHeartbeats 1000000
namespace Fm
open Fy
structure Dk(n:Nat)(T:List Tie)(bs:List Int)(ss:List (Option Int))(dk:Nat)(h:Hd):Prop where
 n1:1<=n
 n6:n<=6
 O:TOk n n 0 T
 lb:bs.length=n
 ls:ss.length=n
 os:∀x∈ss,x=none\/x=some 0\/x=some 1
 hd:h[dk]?=some (.ob [(bH n T bs ss).enc])
def Dk.more(d:.eP h)(g:Hd):.eP (h++g):=⟨d.n1,d.n6,d.O,d.lb,d.ls,d.os,.ag d.hd⟩
def Dk.ok(d:.eP h):.rV:=mT (.bf d.n6) d.O d.lb d.ls
section
variable{n:Nat}{T:List Tie}{bs:List Int}{ss:List (Option Int)}{dk:Nat}{h:Hd}
def th0:th (k,.aO)=.e 0:=rT (show sn .aO=.hI by decide +kernel)<|show .Ax .aO by decide
def th1:th (k,[49])=.e 1:=rT (show sn [49]=.a 1 by decide +kernel)<|show .Ax [49] by decide
def PK(d:.eP h):.uV .GS:=by
 rw[.sv (1<=n->pA n .GS .eA [.aO,.aO,[49]] .EW=true)]
 refine .Tv .PU λg k a=>.c4 [];rw[X1];have a:.so [.fw 0,.fw 0,.e 1]:=.afI;exact NB a<|CP d.ok d.n1 _ g
def NC(d:.eP h){a b:Nat}(e:pA n r .eA L .EW=true)(q:((.EW:.A).zip L).map th=.yL x)(ne:a≠b)(f:a<n)(j:b<n)(i:x<0\/400<x):.uV r:=by
 refine .Tv e λg k c=>?_;rw[q]at c;obtain⟨l,z⟩:=.TF F5 ne f j i g;rw[.o l (NB c z)]
def IH(d:.eP h)(e:pA n r .gQ L [wPe,uD]=true)(q:(([wPe,uD]:.A).zip L).map th=[.fw 0,.e x])(c:okO .aF=false):.uV r:=by
 refine .Tv e λg k a=>?_;rw[q]at a;obtain⟨b,z⟩:=.TF CO d.n1 c g;rw[.o b (T4 a z)]
def PL(d:.eP h):.uV .Hi:=by
 rw[.sv (1<=n->pA n .Hi .gQ [.aO,[50]] [wPe,uD]=true)]
 exact IH d .PU (x:=2) (by
  have t:th (uD,[50])=.e 2:=rT (show sn [50]=.a 2 by decide +kernel) (show .Ax [50] by decide);dsimp[zZh,xI,th0,t];rfl) .c
def PM(d:.eP h):.uV .GO:=by
 rw[.sv (1<=n->pA n .GO .gQ [.aO,.AA] [wPe,uD]=true)]
 exact IH d .PU (x := -1) (by
  have t:th (uD,.AA)=.e (-1):=rT (show sn .AA=.a (-1) by decide +kernel) (show .Ax [45,49] by decide);dsimp[zZh,xI,th0,t];rfl) .c
def WU(d:.eP h)(c:1<n):.uV .FC:=by
 rw[.sv (1<n->pA n .FC .eA [.aO,[49],.Qe] .EW=true)]
 exact NC d (.xH c) (a:=0) (b:=1) (x:=401) (by
  have t:th (.mA,.Qe)=.e 401:=rT (show sn .Qe=.a 401 by decide +kernel) (show .Ax .Qe by decide);dsimp[zZh,xI,th0,th1,t];rfl) .c d.n1 c<|.F .c
def aaq(d:.eP h)(c:1<n):.uV .Du:=by
 rw[.sv (1<n->pA n .Du .eA [[49],.aO,.AA] .EW=true)]
 exact NC d (.xH c) (a:=1) (b:=0) (x := -1) (by
  have t:th (.mA,.AA)=.e (-1):=rT (show sn .AA=.a (-1) by decide +kernel) (show .Ax [45,49] by decide);dsimp[zZh,xI,th0,th1,t];rfl) .c c d.n1<|.G .c
def T5(d:.eP h)(b:1<n):.Xl (.m5 49):=by
 rw[.sv (1<n->pA n (.m5 49) wSw [[49],.aO] [wPe,wPe]=true)]
 refine .Sa<|.xH b;have a:.so (NL [1,0]):=.afI;rw[X1];exact xA<|By d.ok b d.n1 .c a
def T6(d:.eP h):.Xl (.m5 48):=by
 rw[.sv (1<=n->pA n (.m5 48) wSw [.aO,.aO] [wPe,wPe]=true)]
 refine .Sa .PU;have a:.so (NL [0,0]):=a.trans (by dsimp[zZh,xI,th0];rfl);rw[X1];exact xA<|By d.ok d.n1 d.n1 .c a
def WV(d:.eP h)(hp:p<n)(c:.SY p=.hI):.Xl (.BS++[48+p]):=by
 have e:∀n<7,∀p<n,pA n (.BS++[48+p]) wSw [[48+p]] [wPe]=true/\sn [48+p]=.a .wm:=.ac
 have e:=.xH p hp;refine .Sa<|e.1;have a:g[k]? = .x (NL [p]):=a.trans (by
  have t:th (wPe,[48+p])=.e p:=rT e.2 λz=>.nT<|show .kY 1=4 from .uk z;dsimp[zZh,xI,t];rfl)
 rw[X1];exact xA<|Ed d.ok (λq b=>by rw[.df b];exact hp) a (by
  rw[zXn,.d2 .ED,c];rfl)
end
end Fm
set_option maxHeartbeats 1000000
namespace Fm
open Fy
/---/def sg(s:.l):.g:=s.map λi=>.Q i 1 49 48
def qg(s:.l):.m0=s.length:=.k sg
variable{s:List Int}
def F8(h:c∈sg s):.y4:=by
 unfold sg at h;rw[.rG h]
 rw[.aV i 1]
 ·rw[z3 e];rw[.b2]
 ·rw[yM e];rw[.fg]
def aci(s:.l):.sG (sg s):=FZ.mpr λc a=>F8 a
def Lr(B:∀x∈s,.Bf):xy (sg s)=s:=by
 unfold xy sg;rw[UD]
 conv=>rhs;rw[<-List.map_id s]
 apply vx;intro x a;rcases B x a with rfl|rfl<;>rfl
def ND(l:.h4):Tx (sg s):=⟨.c5 qg,λc a=>.alH a⟩
variable{wd:List Nat}
section
variable{n:Nat}{T:List Tie}{bs:List Int}{ss:List (Option Int)}{dk:Nat}{h:Hd}{w:Web}
/---/def NoS(n:Nat)(x:.g):Prop:=Tx x/\32∉x/\.ak6
def NoS.th(W:.ak)(q:.By):.ve x none:=Iz q.1 λok h=>by
 rcases q.2.2 with a|l
 ·rw[a]at ok;cases ok
 ·exact Pw W (l:=.dH<|xy x) (by rw[zST];unfold xy;rw[.ap zST l]) h
def NG(W:.ak)(F:.hA w)(l:.h4):.ve (sg s) .bV:=by
 rw[.eT (Tz (w:=w) (ND l) (aci s) λh=>by rw[Lr F.op];exact Nf W F h) (Lr F.op)]
def xB(a:32∉wd)(c:∀x∈L,32∉x):.iF .Fg=wd::L:=jv .f λp b=>by
 rw[.hs b]
 ·rw[.ap e a]
 ·exact c p e
def zW:∀{L:.A},(∀x∈wd::L,.RQ)->.yU 10->Tx .Fg:=λ{L} H l=>by
 rw[.bN ?_ λc a=>?_]
 ·have d:=sK (sp:=32) (L:=wd::L)
  have f:=sI (k:=1000) (l:=wd::L) λx b=>(H x b).1;dsimp[xR]at d f
  lia
 ·rcases px a with e|⟨x,b,a⟩
  ·rw[.eV e]
  ·exact(H x b).2 c a
def acj:32∉sg s:=λh=>by rcases F8 h with e|e<;>cases e
def aar{Z:.p8}(H:∀z∈Z,z.1=wSt):.Gh .vu/\.Gh .sh:=by
 constructor
 ·rw[zWo]
  intro z a q;rw[.rF (H z a) (.B q (by unfold wrt;simp))]
 ·rw[zWo]
  intro z a q;rw[.rF (H z a) (.lf q)]
def F9(k:.Pj)(i:∀x∈fm,x=wSt)(g:.Sj)(f:∀x∈L,.Oo)(l:.yU 10)(t:zf w .oD rs):tS w n .Fg wd L rs:=by
 have:=.kN aar (Z:=.oD) λz j=>i z.1 (zUe (a:=z.1) (b:=z.2) j).1;exact⟨zW (λx d=>by
  rw[.hs d]
  ·rw[e];exact g.2
  ·exact(f x e).2) l,xB g.1 λx d=>(f x d).1,fm,k,this.1,this.2,t⟩
def NoS.wo(q:.By)(l:.f3 x.length):.Oo:=⟨q.2.1,l,q.1.as⟩
def Ls(l:.h4):32∉sg s/\.m0<=1000/\∀c∈sg s,c<128:=⟨acj,.c5 qg,(ND l).as⟩
def al1{α:Type}{P:.bF α}{a:α}(h1:P a):∀x∈[a],P x:=λx b=>by rw[.df b];exact h1
def al2{α:Type}{P:.bF α}{a b:α}(h1:P a)(d:P b):∀x∈[a,b],P x:=λx c=>by
 rcases .bj c with rfl|c
 ·exact h1
 ·rw[.df c];exact d
def XY(W:.ak)(hd:.hx)(b:.u0=.a [wSt])(d:wd≠wSw)(a:.Sj)(e:.Oo)(t:.ve x none):.Wd [wd,x] :=
 TQ W hd (F9 (fm:=[wSt]) (by unfold iN;rw[yM d,b];rfl) (al1 rfl) a (al1 e) (show 1<=10 by decide)<|.jo t) rfl
def XZ(W:.ak)(hd:.hx)(j:.u0=.a .FY)(e:wd≠wSw)(i:.Sj)(g:.Oo)(k:32∉y/\.f3 y.length/\∀c∈y,c<128)(f:.ve x b)(d:.ve y a)(no:oF [b,a]=none):.Wd [wd,x,y] :=
 TQ W hd (F9 (fm:=.FY) (by unfold iN;rw[yM e,j];rfl) (.ab al2) i (al2 g k) (show 2<=10 by decide)<|.bn f<|.jo d) no
def BB(W:.ak)(hd:.hx)(F:.hA w)(l:.h4)(no:.u6≠s)(q:wd=.qm\/wd=.me):.ju (.aax wd) "NoRest" h:=by
 have b:zf w ((.FY:.A).zip [sg s,sg s]) [.bV,.bV]:=.bn .PQ<|.jo .PQ;rcases q with rfl|rfl
 ·exact .ab4 (show 2<=10 by decide) (.ai2 Lo)
 ·exact .ab4 (show 2<=10 by decide) (.ai2 WN)
def T7(W:.ak)(hd:.hx)(F:.hA w)(l:.h4)(hi:.sd i=.iT z)(c:i<n):.Wd [.yo,sg .Mn]:=by
 have m:z=0\/z=1:=F.op z<|zAT<|F.st i z hi;have B:∀x∈.Mn,.Bf:=λx b=>by
  rcases zVw b with q|q
  ·exact F.op x q
  ·rw[q];lia
 have f:.s .Mn=n:=.p zZn F.len
 refine XY W hd .c .c .c (Ls .PG)<|Iz (ND .PG) .h9;rw[Lr B];have g:.nw i:=.p F.len c
 refine WD W (L:=.dH .Mn) (.p zST f) (λj x b=>?_) ⟨i,.e<|1-z,by rw[zBP,X0 g];rfl,.F .akp⟩;rw[zBP]at b;obtain⟨y,a,rfl⟩:=.n1 b;have k:j<n:=by rw[<-f];exact .aw a
 rw[.aV i j]
 ·subst e
  rw[.ik (X0 g)];exact .fp .akp
 ·rw[zBO e]at a
  refine .G ⟨y,rfl,F.op y<|zAT a,?_⟩;obtain⟨o,d⟩:∃o,.sd j=.bb:=.Ar<|.p W.s k;cases o with
  |none=>rw[.O d]
  |some v =>
   rw[.hu (F.st j v d) a];rw[.P d]
def T8(d:.eP h)(bb:x.natAbs<10^60):.tN (.BU++tx x)=.fi .vJ (.jw dk<|.ob [(.AQ<|bs.set 0 x).enc]):=by
 have j:=Ta bb;obtain⟨_,l,i⟩:=Bn j;have s:tx x≠jE:=λe=>by
  rw[e]at i;rcases i 102 .c with z|z
  ·cases z
  ·exact .nT (z.2)
 have m:32∉tx x:=.ww zP;have q:.BU++tx x=.mZ [.fc,.aO,tx x]:=.k bD
 have f:∀k,wrt k .aO=true:=λk=>by unfold wrt;rw[show .wa .aO by decide +kernel,zXz]
 have a:∀k,wrt k (tx x)=true:=λk=>by unfold wrt;rw[j,Option.isSome_some,zXz]
 have r:isP n .aO=true:=by
  unfold isP;rw[show sn .aO=.hI by decide +kernel];have:=d.n1;dsimp[UE,vb];lia
 have R:tS .dB n (.mZ [.fc,.aO,tx x]) .fc [.aO,tx x] [.fk 0,.w x]:=by
  refine .iN (zW (λy b=>?_)<|show 2<=10 by decide) (xB .c<|al2 .c m) [wPe,.mA] rfl ?_ ?_
  ·rcases .bj b with rfl|b
   ·decide
   ·rcases .bj b with rfl|b
    ·decide
    ·rw[.df b]
     rw[.o .b λc u=>by rcases i c u with z|z<;>lia]
  ·show .cM<|! wrt wPe .aO||(! wrt _ (tx x)||false)
   rw[f,a];rfl
  ·show .cM<|.aN wPe wPe && ! isP n .aO||(.aN (.mA:.g) wPe && ! isP n (tx x)||false)
   rw[r];rfl
  ·have o:=xz (w:=.dB) (z:=(wPe,.aO)) .c<|f _
   have p:=xz (w:=.dB) (z:=(.mA,tx x)) (show (.mA:.g)≠wSt by decide)<|a _;rw[th0]at o;rw[.gm (rT (z:=(.mA,tx x)) j s) (.bn o<|.jo p)]
 rw[q];exact .AP WS R rfl rfl λg k t=>WT t<|.TF IB d.os d.n1 x g
end
end Fm
namespace Fm
variable{h:Hd}
def adu(e:.v5 true):.r0 sIf=a σ h':=.bJ sIf e
def aas(e:.v5 false):.r0 sIf=b σ h':=.bJ sIf e
def yc1(ns:.l)(k:Nat)(e:k<ns.length)(h:Hd):.ZD k=.v (.int ns[k]):=by
 have a:=pW (f:=D.int) e;simp[cH,bK,runB,e,a]
def PN(e:.av<|sml x||sml y)(h:Hd):.ajq:=by
 dsimp[ek,oIc,e,zYh]
def yc2(ns:.l)(K:Int)(e:¬K<.M ns.length)(f:.kv K)(h:Hd):.ZD K=.ao (71*K*K+7*K):=by
 have g:∀h,.YC 71=.ao (71*K):=.UO;have d:∀h,.YC (71*K)=.ao (71*K*K):=.UO;have i:∀h,.YC 7=.ao (7*K):=.UO;generalize 71*K=a at g d⊢;generalize a*K=b at d⊢;generalize 7*K=c at i⊢;simp[-ek,cH,bK,runB,e,g,d,i]
def II(ns:.l)(k:Nat)(a:k<=63):∃v,∀h,.ZD k=.ao v:=by
 by_cases e:k<ns.length
 ·exact .cn (yc1 ns k e)
 ·exact .cn (yc2 ns k .b<|zK .b .b)
def aat(c way base:Int)(m:Nat)(L:.f3 m)(p:0<base)(W:base<2^250)(h:Hd):∃l:.l,gP [.e c,.e way,.e m,.e base] h=.pj .ie/\.Bm m/\∀x∈l,.wD base:=by
 obtain⟨A,B⟩:=.q1;obtain⟨f,r⟩:=qq (.Q (way%2) 1 (c%2147483629*48271%2147483647) c:Int)
 have zb:way%2=1->0<=f/\.W2 f:=λe=>by
  rw[r,z3 e];exact⟨zWn _ .c,Int.lt_trans (zXl _ .c) .c⟩
 obtain⟨σ',H,I,l,z,y,O,X,J,k5,k6⟩:=.Dx (λi σ H=>∃(l:.l) (z:Int) (y:.J),σ=.Rl/\H=.ah .ie/\.Bm i/\(∀x∈l,.wD base)/\(way%2=1->0<=z/\.W2 z)) (k:=0)
   .jY
   (tg:=gN 6) (σ:=.G6 f) (h:=.cS) (b:=AV) (by
   rintro i x σ d a ⟨l,z,y,rfl,s,t,K,R⟩;obtain⟨U,rfl⟩:=jy a;rw[wm]at t⊢;have w:d[A]?=.x .ie:=by rw[s];exact fW B _
   have G:.ad l.map D.int<SZ:=by rw[zST,t];exact UH U<|.im L
   have u:∀v:Int,d.set A (.hM .ie [.mf])=.uK (l++[v]):=λv=>by rw[s,iD B,zBQ];rfl
   have nb:∀q:Int,(0<=q%base/\q%base<base):=λq=>⟨zWn q<|Int.ne_of_gt p,zXl q p⟩
   rw[.aV (way%2) 1]
   ·have o:=R e
    have M:.kv z:=zK o.1 o.2;have Q:.kv 69621:=.c
    have E:.kv 11:=.c
    obtain⟨j,n⟩:=qq<|(z*z+69621*z+11*i+5)%2147483549;have c1:0<=j:=by rw[n];exact zWn _ .c
    have c2:j<2147483549:=by rw[n];exact zXl _ .c
    refine⟨_,rfl,.tz j,_,?_,l++[j/7%base],j,_,rfl,rfl,.k t,λx a=>?_,.de ⟨c1,Int.lt_trans c2 .c⟩⟩
    ·rw[<-u]
     have Z:.abQ (.tz z) d=.nx (.tz j) d:=by
      rw[n];exact aH<|aw (.cV (aw (aw (.ia<|sC M) (.ia<|sC Q) rfl) (.ia<|sC E) rfl) rfl) rfl .oK
     have F:.afR true:=.KS rc;show .aC sIf (.tz z) d=_;rw[adu F,cP Z];exact dZ (.vP w (.G4 .I7<|fj p) w G)
    ·rw[.ec]
     ·exact K x a
     ·simp at a;subst a;exact nb _
   ·refine⟨_,rfl,.tz<|z/base,_,?_,l++[z%base],z/base,_,rfl,rfl,.k t,λx a=>?_,λq=>.B q e⟩
    ·rw[<-u]
     have F:.afR false:=.KS re;show .aC sIf (.tz z) d=_;rw[aas F];exact .a2 cP (dZ<|.vP w (.ia<|fj p) w G) (aH<|.ia<|mS p W)
    ·rw[.ec]
     ·exact K x a
     ·simp at a;subst a;exact nb _) ⟨[],f,none,rfl,rfl,rfl,.f,zb⟩
 have N:0+.s (.cY m .y2)=m:=.f
 rw[N]at J;refine⟨l,?_,J,k5⟩;have s1:.q8 4 .ae7 h=.nx (.QJ none) .cS:=aH<|Fl B rfl<|zZc _;have V:.fI (aa 0) (.QJ none) .cS=.nx (.G6 c) .cS:=rfl;have S:.XF (.fI .abx) aX (.G6 c) .cS=.nx (.G6 f) .cS:=by
  have C:.kv 48271:=.c
  rw[r]
  rw[.aV (way%2) 1]
  ·rw[z3 e];exact .fG (.KS rc) (aH<|aw (.G4 .oK<|V9 C) rfl .oK)
  ·rw[yM e];exact dL (.KS re)
 have Y:.rJ (.cy cT) AV (.G6 f) .cS=.nx .Rl (.ah .ie):=by
  rw[O,X]at I;exact .F7 L I
 have T:bf (aa 4) .Rl (.ah .ie)=.rt (.d A) (.ah .ie):=.kc;have u:(.HR .aiK++.hp (7 - .s .aiK):Sd)=.ae7:=rfl;unfold gP bK runB;rw[z3 (by rfl),u,cP s1,cP V,cP S,cP Y,T,<-B];exact cN
/---/def kZ(M:.fo)(n i:Nat):.l:=.e7<|M i
/---/def xC(M:.fo)(a b:Nat)(v:Int):.fo:=λi j=>if i=a/\j=b then v else M i j
structure nA(A n:Nat)(M:Nat->Nat->Int)(h:Hd):Prop where
 ro:∀i,i<n->h[A+i]?=some (.lst ((kZ M n i).map .int))
 ti:h[A+n]?=some (.lst ((List.range n).map λi=>.ref (A+i)))
structure MOk(M:Nat->Nat->Int):Prop where
 sym:∀i j,M i j=M j i
 bd:∀i j,0<=M i j/\M i j<=400
 no:∀i,M i i=0
def T9(M:.fo)(n a b:Nat)(v:Int)(i:Nat):kZ .Z4 n i=.Q i a ((kZ M n a).set b v) .vx:=by
 rw[.aV i a]
 ·subst e
  rw[.cb];apply zXr;intro j
  by_cases c:j<n
  ·by_cases d:j=b
   ·subst d
    rw[X0<|.bJ kZ c];simp[kZ,xC,c]
   ·rw[zBO .b]
    simp[kZ,xC,c,d]
  ·rw[zZz<|.Re kZ,zZz<|.Re kZ]
 ·rw[yM e]
  apply vx;intro j _;simp[xC,e]
variable{n:Nat}
theorem nA.put(m:.mb A h)(d:a<n)(v:Int):nA A n .Z4 (.jw (A+a)<|.q<|(.dH<|kZ M n a).set b .mf) where
 ro:=λi c=>by
  rw[T9]
  rw[.aV i a]
  ·subst e
   rw[.cb,X0<|.aw<|m.ro i c,zVu]
  ·rw[yM e,zBO λz=>e (zXx z).symm];exact m.ro i c
 ti:=by rw[zBO λz=>zBM d<|zXx z];exact m.ti
def nA.more(m:.mb A h)(g:Hd):.mb A (h++g):=by
 have k:.ahI:=λ{i x} e=>by
  rw[.ap .E8 e]
 exact⟨λi a=>k<|m.ro i a,k m.ti⟩
def nA.set(m:.mb A h)(b:A+n<k)(c:bO):.mb A (.jw k c) :=
 ⟨λi a=>by rw[zBO .b];exact m.ro i a,by rw[zBO .b];exact m.ti⟩
theorem MOk.put(o:MOk M)(ne:a≠b)(c:0<=v)(h1:v<=400):MOk (xC .Z4 b a v) where
 sym:=λi j=>by
  dsimp[xC]
  by_cases q:i=b/\j=a
  ·rw[z3 q]
   by_cases r:j=b/\i=a
   ·rw[z3 r]
   ·rw[yM r,z3 ⟨q.2,q.1⟩]
  ·rw[yM q]
   by_cases p:i=a/\j=b
   ·rw[z3 p,z3 ⟨p.2,p.1⟩]
   ·rw[yM p,yM λz=>p ⟨z.2,z.1⟩,yM λz=>q ⟨z.2,z.1⟩];exact o.sym i j
 bd:=λi j=>by
  dsimp[xC];split
  ·rw[.o c h1]
  ·split
   ·rw[.o c h1]
   ·exact o.bd i j
 no:=λi=>by
  dsimp[xC];rw[yM λz=>ne<|.lr (z.2) z.1,yM λz=>ne<|.lr (z.1) z.2];exact o.no i
def adv{t:Int}(h:0<=t/\t<803):0<=.Jy/\.Jy<=400:=by split<;>lia
def Ua(a:j<n):atI (.As .vx) .BD=.w (M i j):=by
 rw[pW<|.bJ kZ a];simp[kZ]
def NJ{A i:Nat}(hi:i<n):.rS (.op<|D.ref<|A+i)=.jO A i:=by
 refine dW ?_;simp[hi]
variable{b c:Option D}
def X3{r:Sd}(e:.av<|sml O||sml N)(h:Hd):.kk 6 .aiQ h=.ao (O*N):=by
 rw[.d2<|.kk 6 .aiQ h=.hR ek O (.e N) h];exact PN e h
variable{way:Int}
def q1{tk one i:Nat}(f:E (.QE b) a=.bU q a)(e:a[tk]?=.x td)(d:atI td (q+i)=.w t):.R1 E (.QE b) a=.nx (.AV .Jy) a:=by
 exact aH<|ZR rfl<|.cV (bq rfl (.wS f) (aS e) d) rfl
def q2{tk one i:Nat}(h:E (.AV d) a=.bU q a)(g:a[tk]?=.x td)(b:atI td (q+i)=.w t)(e:way/64%2=1)(f:atI [.fu 0,.e 0,.e 1,.e 1,.e 2,.e 3,.e 1] (t%7)=.w y):.XT E (.AV d) a=.nx (.AV y) a:=by
 exact .fG (aG<|aw .DJ rfl<|rc e)<|aH<|yz (.SK<|.jI .CU) (.cV (bq rfl (.wS h) (aS g) b) .oK) f
def q3{tk one i:Nat}{b:Hd}(e:¬way/64%2=1):.yi 64 B aX (.AV a) b=.nx (.AV a) b:=by
 exact dL<|aG<|aw .DJ rfl<|re e
def WW{td:.l}(h1:one<n)(W:n<=30)(T:td.length=n*n)(tb:∀x∈td,.wD 803)(N:A+n<tk){M:.fo}(O:MOk M)(m:.mb A h)(ht:.sQ=.Pk){S0 p1:D}{a:.J}{L:Nat}(V:h.length=L):
  ∃j h' C B,dD none (.k4 one) (gN 7) ut (.k4 one) (.Jg .wl) h
   = .lG [.mE,.a p1,.fT,.T,.jO A n,.qc,.wl,C,B,none,none,none]/\MOk j/\.Q6 j:=by
 obtain⟨σ',h',X,j,C,B,Q,k3,Z,k5,S⟩:=.aaV (∃(j:.fo) (a b:.J),σ=.Jg .wl/\MOk j/\.Q6 j) (k:=0)
   .jY
   (tg:=gN 7) (σ:=[.mE,.a p1,.fT,.T,.t<|A + n,.qc,.wl,a,b,none,none,none]) (h:=h) (b:=ut) (by
   rintro i x σ d Y ⟨M1,a,b,rfl,O1,w,F,l1⟩;obtain⟨J,rfl⟩:=jy Y;have c:i<n:=UH J h1;have lt:one*n+i<td.length:=by
    rw[T];exact YP (zUa c _)<|.ay Nat.succ_mul<|zWt n h1
   have o:atI (td.map D.int) (.M one*n+i)=.a (.int td[one*n+i]):=by
    have:=pW (f:=D.int) lt;rw[show .M one*n+i=.aD (one*n+i) by rw[Int.natCast_add,Int.natCast_mul]];rw[.iz]
   have q:=tb _<|zYp lt;generalize td[one*n+i]=t at o q;have sn:.kv .ek:=.agD W;obtain⟨l,p⟩:=qq (.Jy:Int)
   have s:0<=l/\l<=400:=by rw[p];exact adv q
   have s1:.R1 (.kk 6) (.QC b) d=.nx (.TK l) d:=by
    rw[p];exact .ait q1
   obtain⟨v,I,s2⟩:∃v:Int,(0<=v/\v<=400)/\.XT (.kk 6) (.TK l) d=.nx .Cb d:=by
    rw[.aV (way/64%2) 1]
    ·obtain⟨y,G,K⟩:=ab7 D.int [0,0,1,1,2,3,1] (x:=t%7) (zWn t .c)<|zXl t .c
     dsimp[xI,zZu]at K;rw[.eD y (by simp at G;rcases G with rfl|rfl|rfl|rfl|rfl<;>decide)];exact .ait q2 e K
    ·rw[.eD l s]
     exact q3 e
   have H:∀(M:.fo) (i:Nat),.s .vx=n:=λM i=>.k kZ
   have ne:one≠i:=wh J;have r:=w.put (b:=i) h1 v;have U:=r.put (b:=one) c v;have z:=w.ro one h1;have u:=r.ro i c;have a1:=NJ (A:=A) h1;have R:=NJ (A:=A) c;have s3:.alB .Cb d=.nx .Cb .RZ:=by
    exact ul rfl (.cG w.ti a1) rfl z<|Fq (by rw[zST,H];exact c)
   have s4:.aip .Cb .RZ=.nx .Cb ((.RZ).set (A+i)<|.q<|(.dH<|kZ (xC M1 one i v) n i).set one .mf):=by
    exact ul rfl (.cG r.ti R) rfl u<|Fq (by rw[zST,H];exact h1)
   refine⟨_,rfl,.Cb,_,?_,xC (xC M1 one i v) i one v,_,_,rfl,O1.put ne I.1 I.2,U,?_,.k l1⟩
   ·show aA _ _ (.QC b) d=_
    rw[cP s1,cP s2,cP s3,s4]
   ·exact .ge zBO (zBM<|UH (zUa c A) N) zBO (zBM<|UH (zUa h1 A) N) F) ⟨M,a,b,rfl,O,m,ht,V⟩
 exact⟨j,h',C,B,.L X Q,k3,Z,k5,S⟩
def WX{td:.l}(e:n<=30)(s:td.length=n*n)(tb:∀x∈td,.wD 803)(N:A+n<tk){M:.fo}(O:MOk M)(m:.mb A h)(z:.sQ=.Pk){S0 p1:D}{L:Nat}(t:h.length=L):
  ∃d h' c a b,dD none .gS (gN 6) pY .gS [.mE,.a p1,.fT,.T,.rX A,.qc,none,none,none,none,none,none] h
   = .lG (.Jg c)/\MOk d/\nA A n d h'/\h'.length=L:=by
 obtain⟨σ',h',u,d,B,H,G,l,I,y,S,p⟩:=.aaV (∃(d:.fo) (c a b:.J),σ=.Jg c/\MOk d/\.Q6 d) (k:=0)
   .jY
   (tg:=gN 6) (h:=h) (b:=pY) (by
   rintro i x σ R v ⟨M1,c,a,b,rfl,E,C,J,Q⟩;obtain⟨f,rfl⟩:=jy v;obtain⟨M2,K,o,w,q,O2,r,j,F⟩:=WW f e s tb N E C J (S0:=S0) (p1:=p1) (way:=way) (a:=a) (b:=b) Q;refine⟨_,rfl,_,K,?_,M2,.aW,o,w,rfl,O2,r,j,F⟩;exact .F7 (zBL (zZj f)<|uq e) q) ⟨M,none,none,none,rfl,O,m,z,t⟩
 exact⟨d,h',B,H,G,.L u l,I,y,p⟩
structure Mdl(ns:List Int)(mo:Int)(n:Nat)(M:Nat->Nat->Int)(bs:List Int)(ss:List (Option Int))(bk sk:Nat)(h:Hd):Prop where
 run:o9 [.lit (ns.map .int),.int mo] []=.ok (.tup [.ref (0+n),.ref bk,.ref sk]) h
 n1:1<=n
 n30:n<=30
 nmo:(n:Int)<=mo
 bkn:n<bk
 skn:bk<sk
 mt:nA 0 n M h
 mo:MOk M
 ba:h[bk]?=some (.lst (bs.map .int))
 st:h[sk]?=some (.lst (ss.map bT))
 lb:bs.length=n
 ls:ss.length=n
 os:∀x∈ss,x=none\/x=some 0\/x=some 1
 bb:∀x∈bs,-20000<=x/\x<=20000
def IJ(hi:σ[i]?=.a .fT)(b:0<d)(a:d<2^250):tE (.SU<|aj lV (aa i)<|.W d) σ h=.v (.D<|way/d%2=1):=by
 have v:.dr i h=.ao way:=by dsimp[aa,slot,hi]
 exact aG<|aw (.cV (.cV v<|mS b a) .oK) rfl AS
def aau(x:Int):x%2=0\/x%2=1:=Int.emod_two_eq x
def lv1(h:.wD 2001): -20000<=x-1000/\x-1000<=20000:=.b
def lv2(h:.y3): -20000<=x+y%7-3/\x+y%7-3<=20000:=.b
def lv3(h:.y3): .La:=.b
def Ub{A lk tk:Nat}{d:.l}(hn:n<=30)(W:d.length=n)(ne:lk≠tk){bs:.l}(lb:.j5)(X:∀x∈d,.wD 2001)(bb:∀x∈bs,.y3)(G:h[lk]?=.kw)(U:.sQ=.Eg d.map){S0 p1 q4 q5:D}{a:.J}:
  ∃(bs':.l) (u:.J),dD none .gS (gN 6) mU .gS (.C1 c) h
   = .nx (.C1 u) .ao4/\bs'.length=n/\∀x∈bs',.La:=by
 have t:.Bl lk:=.aw G;obtain⟨σ',F,R,bs',u,M,Y,T,Z⟩:=.Dx (λi σ F=>∃(bs':.l) (u:.J),σ=.C1 u/\F=.ao4/\bs'.length=n/\∀(j:Nat) x,bs'[j]?=.aF->.La/\(i<=j->.y3))
   .jY
   (tg:=gN 6) (h:=h) (b:=mU) (by
   rintro i x σ C S ⟨l,c1,rfl,p,K,o⟩;rw[wm]at o⊢;obtain⟨I,rfl⟩:=jy S;have w:C[lk]?=.x .ie:=.L p<|X0 t
   have B:C[tk]?=.Eg d.map:=by rw[p,zBO ne];exact U
   have f:.iZ:=K▸I;have E:.rS (.b8 D.int)=.E0 l:=pW f;have r:.rS (d.map D.int)=.E0 d:=pW<|W▸I;have s:=(o i l[i]<|.k f).2<|zBK _;have v:=X d[i]<|zYp _;generalize l[i]=Q at E s;generalize d[i]=J at r v;have O:=aau<|way/256;have H:ixN (.ad l.map D.int) (i:Int)=.fH:=Fq<|.p zST f;obtain⟨y,N,s1⟩:∃y:Int,(-20000<=y/\y<=20000)/\mU (.C1 .aW) C=.nx (.C1 .aW) (C.set lk<|.q<|(.ie).set i<|.e y):=by
    rcases O with e|e
    ·exact⟨J-1000,lv1 v,.ac2⟩
    ·exact⟨Q+J%7-3,lv2 s,.ac2⟩
   refine⟨_,rfl,_,_,s1,l.set i y,.aW,rfl,?_,.k K,λj z m=>?_⟩
   ·rw[p,List.set_set,zVu]
   ·rw[.aV i j]
    ·subst e
     rw[X0 f]at m;cases m;rw[.o N λq=>.B q<|Nat.not_succ_le_self _]
    ·rw[zBO e]at m
     have q:=o j z m;exact⟨q.1,λL=>q.2<|Nat.le_of_succ_le L⟩) ⟨bs,c,rfl,by
    apply zXr;intro j
    rw[.aV lk j]
    ·subst e;rw[X0 t];exact G
    ·rw[zBO e],lb,λj z m=>by
     have q:=bb z<|zAT m;exact⟨lv3 q,.de q⟩⟩
 exact⟨bs',u,.hP R M Y,T,λz m=>by
  obtain⟨j,V⟩:=.WH m;exact(Z j z V).1⟩
theorem NK(v:D):∀n,.jj (.b4 n [v])=.b4 n v
 |0=>rfl
 |n+1=>by rw[zZr,zZr,zYr,NK v n];rfl
def PP{l:.l}(i:∀x∈l,.wD 7)(m:.i7<|.b8 .int)(a:.J):∃ss:.em,.yr .ie .Rx .ie [a] h=.jP ss.map bT/\.jn ss.length/\∀x∈ss,.fZ:=by
 have:=.TV .Rx (λd=>match d with | .int x=>bT .afK|_=>.non) m
  (xs:=.ie) (σ:=[a]) (by
   rintro x f σ ⟨c,rfl⟩;obtain⟨u,j,rfl⟩:=.ar f;have b:=i u j;refine .sZ;obtain⟨u,rfl⟩:=zWz b.1
   match u,Int.ofNat_lt.mp b.2 with
   |0,_|1,_|2,_|3,_|4,_|5,_|6,_=>rfl
   |k+7,z=>exact .B z (.sP<|Nat.le_add_left 7 k)) .K
 refine⟨l.map λx=>.afK,?_,.f,λx f=>?_⟩
 ·rw[this,.hf,UD,UD];rfl
 ·obtain⟨u,_,rfl⟩:=.ar f
  split
  ·rw[.P .b5]
  ·split
   ·rw[.P .g7]
   ·rw[.fg]
def ack{r:Sd}(e:.av<|sml N||sml N)(h:Hd):.kk 3 (b::c::a::.w N::r) h=.ao (N*N):=by
 rw[.d2<|.kk 3 (b::c::a::.w N::r) h=.hR ek N (.e N) h];exact PN e h
def aav{e c d:D}(b:.zF 1 a=.bU g a)(h:E (.RY none) a=.bU q a)(q4:gP [.e g,.e way,.e q,.e 803] a=.b7 k f):
  .SA E (.RY none) a=.nx (.RY .bZ) f:=by
 exact aH<|ax (ah (.c9 b)<|.dv<|ah h .t0) q4
def X4(a:n<=30){b:EF}(c:.jN=.ao n):bJ (Ax (.N<|fC v) b) σ h=.pj (.b4 n v) :=
 cF (.hP (ZP rfl c ⟨zZq n,zVf (.lR a) .c,by rw[zYc];exact zBL (zYw<|Nat.one_mul n)<|uq a⟩) zYc NK) (by rw[zZx];exact uq a)
def aaw(way:Int)(c:0<mo)(h1:mo<=17):∃n:Nat,.bp=1+way/2%mo/\1<=n/\n<=30/\.bp<=mo:=by
 have a:=zWn (way/2)<|Int.ne_of_gt c;have b:=zXl (way/2) c;generalize way/2%mo=x at a b;obtain⟨k,rfl⟩:=zWz a;exact⟨1+k,rfl,zWa 1 k,.b,by have b:.M k<mo:=b;lia⟩
theorem X5:∀l:.l,(∀y∈l,0<=y/\y<=400)->0<=l.sum/\l.sum<=400*l.length
 |[],_=>⟨.aaz,.aaz⟩
 |y::l,h=>by
  have a:=h y zCK;have b:=X5 l λz c=>h z .w6;rw[zWx,xR]
  lia
def adw{x:Int}(a:n<=30)(h:0<=x/\x<=400*n):.y3:=⟨h.1,zVf h.2<|Int.mul_le_mul_of_nonneg_left (.lR a) .c⟩
noncomputable abbrev XMy(S0:D)(mo way:Int)(n:Nat)(a5 a6 a7 a8 a9 a10 a11:.J):Sd:=[.mE,.w mo,.fT,.T,.rX 0,a5,a6,a7,a8,a9,a10,a11]
def Uc(ns:.l){mo:Int}(h0:0<mo)(b1:mo<=17):∃n M bs ss bk Q h,Mdl ns mo n M bs ss bk Q h:=by
 obtain⟨way,v⟩:=II ns 0 .c;obtain⟨c1,Y⟩:=II ns 1 .c;obtain⟨c2,a1⟩:=II ns 2 .c;obtain⟨c3,X⟩:=II ns 3 .c;obtain⟨S0,z⟩:=qq (.tJ:D);have v:∀h,.zF 0 h=.ao way:=.p z v
 have Y:∀h,.zF 1 h=.ao c1:=.p z Y
 have a1:∀h,.zF 2 h=.ao c2:=.p z a1
 have X:∀h,.zF 3 h=.ao c3:=.p z X
 obtain⟨n,hn,n1,f,a7⟩:=aaw way h0 b1;have e0:.gG (.RA .a1) (.Jf none) []=.nx (.Jf .fT) []:=aH<|.c9<|v _;have e1:.jl .ag3 (.Jf .fT) []=.nx (.R2 none) []:=by rw[hn];exact aH<|.nc (.G4 .I7<|fj h0) rfl
 obtain⟨ds,h2,k2,l2,v2,c4,q2,O,g2⟩:=.alz
  (e:=.YB 1) (σ:=[none,.T]) (h:=[])
  (P:=λi σ h=>(.GV [a,.T])/\h.length=i/\∀j,j < i->h[j]? = .x (.dH<|.b4 n 0)) (V:=λi d=>d=.d i) .jY (by
   rintro i x σ h0 G ⟨⟨a,rfl⟩,hl,e1⟩;obtain⟨hi,rfl⟩:=jy G;rw[wm]at hl e1⊢;refine⟨_,rfl,.d h0.length,.aS h0<|.dH<|.b4 n 0,?_,.bA hl,.K,.k hl,λj hj=>?_⟩
   ·rw[List.map_replicate];exact X4 f rfl
   ·by_cases hji:j<i
    ·exact .ag (e1 j hji)
    ·have:j=i:=.aiC hj
     subst this;rw[.hr hl zAP])<|.hJ .K λj hj=>.uS hj
 simp at l2 O g2;have a8:ds=.rc (0+i):=AR l2 λi d hd=>.h1<|v2 i d hd
 subst a8;obtain⟨w,H⟩:=qq<|h2++.dX (.op<|.d<|0+i);have l3:w.length=n+1:=by rw[H];simp[O]
 have e2:.acl (.R2 none) []=.nx .agC w:=by
  rw[H];show _=Out.nx (.R2<|.rX 0) _;rw[show D.ref (0+n)=.d h2.length by rw[O,wm]];exact aH<|cF (cV (fq rfl<|uq f) k2) (by rw[zST,zBN];exact(uq f))
 have m3:nA 0 n (.nR 0) w:=by
  rw[.fQ λi hi=>?_]
  ·rw[H,wm,.ag<|g2 i hi]
   congr 2;dsimp[kZ,UD];apply zXr;intro j
   by_cases hj:j<n<;>simp[hj]
  ·rw[H,wm,<-O];exact zAP
 have O3:MOk (.nR 0):=⟨.bu,.nR ⟨.aaz,.c⟩,.cB⟩;obtain⟨td,q4,tl,tb⟩:=aat c1 way 803 (n*n) (.bf<|zVn f f) .c .c w;obtain⟨Z,J⟩:=qq<|w++.dX (.dt td.map);rw[<-J,l3]at q4;have sn:.kv .ek:=.agD f;have e3:.SA (.kk 3) .agC w=.nx .afY Z:=by
  have b3:gP [.e c1,.e way,.e<|.bp*n,.e 803] w=.b7 (n+1) Z:=.ay Int.natCast_mul q4
  exact aav (E:=.kk 3) (Y w) (ack (.L sn Bool.or_self) w) b3
 have m4:nA 0 n (.nR 0) Z:=by rw[J];exact m3.more _
 have t4:Z[n+1]?=.Pk:=.n8 J l3 zAP
 obtain⟨M,W,K,o,p,q5,O5,m5,l5⟩:=WX (A:=0) (tk:=n+1) (way:=way) f tl tb .b O3 m4 t4 (S0:=S0) (p1:=.e mo) (L:=n+2) (by rw[J];simp[l3]);have e4:.N8 pY .afY Z=.nx .alh W:=.F7 (uq f) q5;have cs:.qX (0+n) (.rc<|0+i) (gN 0) [] (.JS Am) (.rc<|0+i) .bH W=.ok (.As<|.op<|(.vx).sum) W:=by
  have:=.zE (0 + n) (all:=.rc<|0 + i) (tg:=gN 0) (cs:=[]) (e:=.JS Am) (h:=W) (I:=.qN) .c3 (.aif<|.int (kZ M n k).sum) m5.ti (xs:=.rc<|0 + i) (σ:=.bH) (by
   rintro x G σ ⟨a,rfl⟩;obtain⟨i,hi,rfl⟩:=.ar G;have hi:=zYj.mp hi;have r:=m5.ro i hi;dsimp[wm]at r⊢;refine .sZ;exact Kw (.mI r)<|w9 _) .K
  rw[this,.hf,UD,UD];refine .eL (λl=>.nv l W) ?_;apply vx;intro i _;simp
 obtain⟨s,C⟩:=qq<|.op<|(.vx).sum;rw[<-C]at cs;have a0:.zL:=.fm C
 have a3:∀x∈s,.y3:=λx G=>by
  rw[C]at G;rw[.rG G];have:=X5 .vx λy hy=>by
   obtain⟨j,_,rfl⟩:=.ar hy;exact O5.bd i j
  have ll:.s .vx=n:=.k kZ
  rw[ll]at this;exact adw f this
 obtain⟨u,R⟩:=qq<|W++.dX (.dt s.map);have l6:u.length=n+3:=by rw[R];simp[l5]
 have e5:.aj2 .alh W=.nx .Mb u:=by
  rw[R,<-l5];exact aH<|cF (.vc m5.ti cs) (by rw[zST,a0];exact(uq f))
 have m6:.mb 0 u:=by rw[R];exact m5.more _
 have b6:u[n+2]?=.Eg s.map:=.n8 R l5 zAP
 have e6:∃(bs:.l) (m x10:.J) (t:Hd),.yi 128 (aA .Sz
  (.N8 mU)) aX .Mb u=.nx (.Cg m x10 none) t/\.mb 0 t/\t[n+2]?=.kw/\.j5/\n+3<=t.length/\∀x∈bs,.La:=by
  have N:=IJ (way:=way) (d:=128) (σ:=.Mb) (h:=u) (i:=2) rfl .c .c
  rw[.aV (way/128%2) 1]
  ·rw[y3 e]at N
   obtain⟨U,q7,sl,sb⟩:=aat c2 way 2001 n (uq f) .c .c u;rw[l6]at q7;have t1:.Sz .Mb u=.nx (.Cg K (.jO n 3) none) (.aS u<|.dt U.map):=by
    exact aH<|ax (ah (.c9<|a1 _) .ly) q7
   obtain⟨a5,c',q8,b2,b4⟩:=Ub (A:=0) (lk:=n+2) (tk:=n+3) (way:=way) f sl .z8 (h:=.aS u<|.dt U.map) a0 sb a3 (.ag b6) (.ay l6 zAP) (S0:=S0) (p1:=.e mo) (q4:=.d<|0+n) (q5:=.d<|n+1) (a:=o) (b:=p) (c:=K);refine⟨a5,c',.jO n 3,_,?_,(m6.more [.Qd U.map]).set (k:=n+2) .b<|.Qd a5.map,?_,b2,.k l6,b4⟩
   ·exact .ge i4 N cP t1 (.F7 (uq f) q8)
   ·rw[X0<|.k l6]
  ·rw[z5 e]at N
   exact⟨s,K,none,u,.aE<|aas N,m6,b6,a0,zYw l6.symm,λx G=>lv3<|a3 x G⟩
 obtain⟨bs,m,x10,t,e6,m7,b7,a6,l7,c0⟩:=e6;obtain⟨q,F⟩:=qq<|t++.dX .akM;have e7:.afz (.Cg m x10 none) t=.nx .JF q:=by
  rw[F,List.map_replicate];exact aH<|X4 f rfl
 have m8:.mb 0 q:=by rw[F];exact m7.more _
 have b8:q[n+2]?=.kw:=by rw[F];exact .ag b7
 have s8:q[t.length]?=.x .akM:=.fm F
 have e8:∃(ss:.em) (x5:D) (Q:Nat) (T:Hd),.yi 512 (aA .Sv
  .SG) aX .JF q=.nx .and T/\.mb 0 T/\T[n+2]?=.kw/\T[Q]?=.kx/\.he/\(∀x∈ss,.fZ)/\n+2<Q:=by
  have N:=IJ (way:=way) (d:=512) (σ:=.JF) (h:=q) (i:=2) rfl .c .c
  rw[.aV (way/512%2) 1]
  ·rw[y3 e]at N
   obtain⟨a4,q9,sl,sb⟩:=aat c3 way 7 n (uq f) .c .c q;obtain⟨S,B⟩:=qq<|q++.dX (.dt a4.map);rw[<-B]at q9;have g9:S[q.length]?=.Eg a4.map:=.fm B
   obtain⟨ss,cq,a2,a9⟩:=PP sb g9 none;have t1:.Sv .JF q=.nx (.Im .E2 .ZN) S:=by
    exact aH<|ax (ah (.c9<|X _) .ly) q9
   have t2:.SG (.Im .E2 .ZN) S=.nx (.Im .E2<|.t S.length) (.aS S .eO):=by
    exact aH<|cF (.vc g9 cq) (by rw[zST,a2,sl];exact(uq f))
   refine⟨ss,.d q.length,S.length,.aS S .eO,?_,by rw[B];exact(m8.more _).more _,?_,.f,a2.trans sl,a9,by rw[B,F];simp;lia⟩
   ·exact .ge i4 N cP t1 t2
   ·exact bg _ (by rw[B];exact .ag b8)
  ·rw[z5 e]at N
   exact⟨.hp n,.d<|n+1,t.length,q,.aE<|aas N,m8,b8,s8,.f,λx G=>.G<|List.eq_of_mem_replicate G,.b⟩
 obtain⟨ss,x5,Q,T,e8,m9,b9,s9,b0,b5,k9⟩:=e8;have e9:.aij .and T=.rt (.E [.d<|0+n,.d<|n+2,.d Q]) T:=aV<|eB .ly;refine⟨n,M,bs,ss,n+2,Q,T,?_,n1,f,a7,.b,k9,m9,O5,b9,s9,a6,b0,b5,c0⟩;have st:(.HR [S0,.fu mo]++.hp (12 - .s [S0,.fu mo]):Sd)=.Jf none:=rfl;rw[<-z];unfold o9 bK runB;rw[z3 (by rfl),st,cP e0,cP e1,cP e2,cP e3,cP e4,cP e5,cP e6,cP e7,cP e8,e9];exact w6 rfl
/---/def uG(one other i j:Nat):Prop:=(i<one/\j<one)\/(i=one/\j<other)\/(j=one/\i<other)
instance(one other i j:Nat):Decidable .Pi:=by unfold uG;infer_instance
/---/def kh(M:.fo)(s:.l)(one other i j:Nat):Int:=.H7 (.Pi/\.mM j=1)<|M i j
structure LP(n:Nat)(M:Nat->Nat->Int)(one other:Nat)(T:List Tie):Prop where
 ok:TOk n one other T
 pl:∀i,i<n->∀s,fu (nbs T i) s=qI (kh M s one other i) n
def pa1(a b c:Int):a+(b+c)=a+b+c:=(Int.add_assoc a b c).symm
def Lu(r a:.bW)(s:.l):fu (r++a) s=fu r s+fu a s:=by
 induction r with
 |nil=>simp[fu,mh]
 |cons p r b=>rw[zYb,nR,nR,b];exact .aC pa1
def sr1(S x y:Int):S+0+x=S+y+(x-y):=.b
theorem zX(h:∀j,j≠p->f j=g j):∀n,qI f n=qI g n+.fx p n (f p-g p) 0
 |0=>.k qI
 |n+1=>by
  rw[qI,qI,zX h n]
  rw[.aV n p]
  ·subst e
   rw[yM<|vr _,z3<|wx _];exact .aC sr1
  ·rw[h n e]
   by_cases l:p<n
   ·rw[z3 l,z3<|zj l];exact .aC Int.add_right_comm
   ·rw[yM l,yM λz=>(zXo.mp z).elim l λz=>e z.symm,Int.add_zero,Int.add_zero]
theorem nB:∀n,(∀j,j<n->f j=g j)->qI f n=qI g n
 |0,_=>rfl
 |n+1,h=>by rw[qI,qI,nB n λj a=>h j .b,h n .b]
def PQ:uG one .sk i j↔.Pi\/(i=one/\j=other)\/(j=one/\i=other):=by
 constructor
 ·rintro (h|⟨a,b⟩|⟨a,b⟩)
  ·rw[.O .xb]
  ·exact .akX (.i9 .vr) λb=>.i9 .vr
  ·exact .akX (.fp .vr) λb=>.fp .vr
 ·rintro ((h|⟨a,b⟩|⟨a,b⟩)|⟨a,b⟩|⟨a,b⟩)
  ·rw[.O h]
  ·exact .i9 ⟨a,zj b⟩
  ·exact .fp ⟨a,zj b⟩
  ·exact .i9 ⟨a,b▸wx _⟩
  ·exact .fp ⟨a,b▸wx _⟩
def xD(h1:¬(i=one/\j=other))(a:¬(j=one/\i=other)):uG one .sk i j↔.Pi :=
 PQ.trans ⟨λz=>z.elim id λz=>z.elim (λz=>.B z h1) λz=>.B z a,.inl⟩
def NM(a:.GN):¬.oE uG one other/\¬.oE uG other one:=by
 rw[.fQ ?_]
 ·rintro (h|h|h)
  ·exact vr _ h.1
  ·exact vr _ h.2
  ·exact vr _ (h.1▸a)
 ·rintro (h|h|h)
  ·exact vr _ h.2
  ·exact vr _ (h.1▸a)
  ·exact vr _ h.2
def PR(e:¬(i=one/\j=one)):uG one one i j↔uG (one+1) 0 i j:=by
 constructor
 ·rintro (h|h|h)
  ·rw[.iJ (zj h.1) .sV]
  ·rw[.iJ (h.1▸wx _) .sV]
  ·rw[.iJ .sV (h.1▸wx _)]
 ·rintro (⟨a,b⟩|h|h)
  ·rcases zXo.mp a with a|a<;>rcases zXo.mp b with b|b
   ·rw[.O .vr]
   ·exact .fp ⟨b,a⟩
   ·exact .i9 .vr
   ·exact .B .vr e
  ·exact .uS (h.2)
  ·exact .uS (h.2)
def Ef(O:MOk M)(b:.GN)(h:one<n)(i:Nat)(s:.l):
  qI (.OB .sk) n=qI (.OB other) n+(.Q i one (.Q (.mM other) 1 (.oE M) 0)<|.Q i other (.Q (.mM one) 1 (.oE M) 0) 0):=by
 by_cases a:i=one
 ·subst a
  rw[.cb,zX (g:=kh M s i other i) λj f=>?_,z3<|UH b h]
  ·have e:uG i .sk i other:=.i9 .Pd
   have c:=(NM b).1;dsimp[kh,e,c,true_and,false_and,zWd,Int.sub_zero]
  ·have:=xD (one:=i) (.sE f) (.uZ b)
   dsimp[kh,this]
 ·rw[yM a]
  by_cases d:i=other
  ·subst d
   rw[.cb,zX (g:=.OB i) λj f=>?_,z3 h]
   ·have e:uG one (i+1) i one:=.F<|.F .Pd
    have c:=(NM b).2;dsimp[kh,e,c,true_and,false_and,zWd,O.sym i one,Int.sub_zero]
   ·have:=.jE xD (other:=i) (λz=>a z.1) λz=>f z.1
    dsimp[kh,this]
  ·rw[yM d,nB n (g:=.OB other) λj _=>?_]
   ·exact(Int.add_zero _).symm
   ·have:=.jE xD (j:=j) (λz=>a z.1) (.sE d)
    dsimp[kh,this]
variable{T:List Tie}
def LP.skip(O:MOk M)(L:.zJ other T)(b:.GN)(c:one<n)(z:.oE M=0):.zJ .sk T :=
 ⟨L.ok.skip,λi a s=>by
  rw[L.pl i a s,Ef O b c i s,z];split<;>(try split)<;>(try split)<;>lia⟩
def LP.put(O:MOk M)(L:.zJ other T)(d:.GN)(e:one<n)(z:0<.oE M):.zJ .sk (T++[.KN]):=by
 have b:=.oE O.bd;rw[.bN ?_ λi g s=>?_]
 ·have:=L.ok.put e d z b.2 .g7 T.length
  simpa using this
 ·rw[HK,Lu,L.pl i g s,Ef O d e i s]
  congr 1
  by_cases a:i=one
  ·have f:far i .KN=.a other:=by
    unfold far;rw[yM λz:other=i=>zBM d<|z.trans a,z3 a.symm]
   rw[f,z3 a];rw[.gR nR];simp[fu,mh]
  ·rw[yM a]
   by_cases c:i=other
   ·have f:far i .KN=.a one:=by unfold far;rw[z3 c.symm]
    rw[f,z3 c];rw[.gR nR];simp[fu,mh]
   ·have f:far i .KN=none:=by
     unfold far;rw[yM λz:other=i=>c z.symm,yM λz:one=i=>a z.symm]
    rw[f,yM c];simp[fu,mh]
def LP.step(O:MOk M)(L:.zJ one T)(h:one<n)(b:n<=30):.li (one+1) :=
 ⟨L.ok.step h b,λi a s=>by
  rw[L.pl i a s];refine nB n λj _=>?_;unfold kh
  by_cases e:i=one/\j=one
  ·rw[e.1,e.2,O.no one];split<;>split<;>rfl
  ·have:=PR e
   dsimp[this]⟩
structure Md(Z n:Nat)(M:Nat->Nat->Int)(bs:List Int)(ss:List (Option Int))(bk sk:Nat)(h:Hd):Prop where
 n1:1<=n
 n30:n<=30
 mt:nA Z n M h
 mo:MOk M
 ba:h[bk]?=some (.lst (bs.map .int))
 st:h[sk]?=some (.lst (ss.map bT))
 lb:bs.length=n
 ls:ss.length=n
 os:∀x∈ss,x=none\/x=some 0\/x=some 1
def Md.more(m:.iG a)(g:Hd):.Cl a (h++g):=by
 have k:.ahI:=λ{i x} e=>by
  rw[.ap .E8 e]
 exact⟨m.n1,m.n30,m.mt.more g,m.mo,k m.ba,k m.st,m.lb,m.ls,m.os⟩
section
variable{Z n:Nat}{M:Nat->Nat->Int}{bs:List Int}{ss:List (Option Int)}{bk sk:Nat}{h:Hd}
noncomputable abbrev XT(td:D)(s:.l)(Z n bk sk:Nat)(a5 a6 a7 a8:.J):Sd:=[.aR,.bV,.rX Z,.t bk,.t sk,a5,a6,a7,a8]
def Ud(L:.li n)(B:Wd s)(hi:i<n):qI .LS n=fu .eM s:=by
 rw[L.pl i hi s];refine nB n λj a=>?_;have p:uG n 0 i j:=.w0 hi a;rcases B j with e|e
 ·dsimp[kh,e];simp
 ·dsimp[kh,p,e];simp
def adx{x y:Int}(e:y=0\/y=1)(h:Hd):.ajq:=PN (.L (Wa e) zXz) h
def Lv(m:.iG sk){s:.l}(ls:.zL)(B:Wd s){i:Nat}(hi:i<n)(a:.J):
  .oV .gS .SH .gS (.Nr a) h=.v (.dH .akQ):=by
 have:=.x3 .gS (I:=.ye<|.Nr a) .c3 (λd=>match d with | .int j=>.e (M i j.toNat*.mM j.toNat)|_=>.non) trivial
  (xs:=.gS) (σ:=[a,.bV,.t<|Z + n,.aW]) (by
   rintro x t σ ⟨c,rfl⟩;obtain⟨j,b,rfl⟩:=.ar t;have b:=zYj.mp b;refine .sZ;have u:=NJ (A:=Z) hi;have p:=.ZS;have f:=Ua (M:=M) (n:=n) (i:=i) b;have e:=m.mt.ti;have q:=zJ (l:=s) (i:=j)<|ls▸b;have r:fAt .B9 (aa 0) (.Nr<|.fk j) h=.ao (M i j):=by
    exact bq (.cG e u) rfl (aS p) f
   have o:.rZ 0 (.Nr<|.fk j) h=.ao (s.getD j 0):=by
    exact .s1 q
   exact aw r o<|adx (B j) h) .K
 rw[this,.hf,UD,UD];rfl
def aax(m:.iG sk)(L:.li n){s:.l}(ls:.zL)(B:Wd s):
  pc [.q3 sk,bp s] h=.jP bp (ke (.AQ bs) n s):=by
 have q:=m.n30;obtain⟨w,hw⟩:=qq .dB;obtain⟨d,I⟩:=qq (.q3 sk:D);obtain⟨A,Q⟩:=.q1;obtain⟨σ',h',k1,x6,x7,x8,k2,k3⟩:=.aaV (∃(a b c:.J),σ=(.xh a b c)/\h'=.uK (.vE i))
   .jY
   (tg:=gN 6) (h:=.cS) (b:=xf) (by
   rintro i x σ f hx ⟨a,b,c,rfl,o⟩;obtain⟨r,rfl⟩:=jy hx;rw[wm]at o⊢;have S:.Cl sk f:=.y7<|m.more _
   have fc:=Lv S ls B r none;have v2:=zJ (l:=s) (i:=i)<|ls▸r;have l3:i<ss.length:=.p m.ls r
   have J:=zJ (l:=bs) (i:=i)<|m.lb▸r;have N:.rS .eO=.b0 bT .Ca:=by rw[pW l3];simp[List.getD,l3]
   have y:=S.ba;have E:=S.st;have nx:=KI (T:=T) (bs:=bs) (ss:=ss) (s:=s) r;rw[<-hw]at nx;obtain⟨P,hP⟩:=qq<|fu .eM s;have fe:=Ud L B r;rw[<-hP]at fe nx;have sm:lH (.dH .akQ)=.a (.e7 .LS):=w9 _;have su:(.e7 .LS).sum=P:=.p Pe fe
   generalize .e7 .LS=FL at fc sm su;have R:.aiI (.A1 b) f=.nx (.A1<|.w<|2*P) f:=by
    have V:Am (.aci .SH) (.A1 b) f=.bU P f:=by
     rw[<-su];have O:=du<|cL (a:=aa 3) (σ:=(.A1 b)) rfl<|aS y;rw[zST,m.lb]at O;exact Kw (cV (fq O<|uq q) fc) sm
    exact aH<|.nc V<|sC .c
   generalize .Ca=u at N nx;generalize bs.getD i 0=K at J nx;generalize .mM i=x at v2 nx;generalize 2*P=F at R nx;obtain⟨v,H⟩:=qq (.fx K F 1 x:Int)
   obtain⟨t,G⟩:=qq (.fx F K 0 v:Int)
   obtain⟨p,C⟩:=qq (u.getD t:Int);have ny:lK w s i=p:=by
    rw[nx,C];cases u with
    |some z=>rfl
    |none =>
     simp;rw[G,H];split<;>split<;>(try split)<;>lia
   have W:.a3 8 (.rZ 6) (.A1<|.w F) f=.GW x f:=aH<|.s1 v2;have U:.amr (.xU x) f=.GW v f:=by
    rw[H]
    by_cases e:K<F
    ·rw[z3 e];exact .fG (.Mx uo) (aH rfl)
    ·rw[yM e];exact dL (.Mx Fk)
   have X:.amg (.xU v) f=.GW t f:=by
    rw[G]
    by_cases e:F<K
    ·rw[z3 e];exact .fG (.Mx ZO) (aH rfl)
    ·rw[yM e];exact dL (.Mx Sz)
   have s5:.ae4 (.xU t) f=.GW p f:=by
    rw[C];cases u with
    |none=>exact dL .am0
    |some z=>exact .fG .am0 (aH<|.cG E N)
   have gA:f[A]?=.x (.dH<|.vE i):=.y7<|fW Q _
   have lz:.s (.As<|.vE i)<SZ:=by rw[zST,zST,zBN];exact UH r<|.im q
   have Y:f.set A (.hM (.dH<|.vE i) [.e p])=.uK (.vE<|i+1):=by
    rw[o,iD Q,List.range_succ,<-ny,zBQ,zBQ];rfl
   have s6:dR (.wy 5<|aa 8) (.xU p) f=.GW p (.uK<|.vE<|i+1):=by
    rw[.hr Y (dZ<|.vP gA rfl gA lz)]
   refine⟨_,rfl,(.xU p),_,?_,_,_,_,rfl,rfl⟩;show aA _ _ (.A1 b) f=_;rw[cP R,cP W,cP U,cP X,cP s5,s6])<|.ch none none none .f
 have e0:0+.s (.e7 .y2)=n:=.f
 rw[e0]at k3;have b1:=(m.more [.q []]).ba;have R:.amx .aeL h=.d5 .agO:=.aE I
 have W:.q8 5 .agO h=.nx .Vg .cS:=aH<|Fl Q rfl<|zZc _;have U:.rJ .Z1 xf .Vg .cS=.nx (.xh x6 x7 x8) .YL:=by
  rw[k2,k3]at k1;have O:.xg 3 .Vg .cS=.bU n .cS:=by
   exact .a2 du (.mI b1)<|.L zST m.lb
  exact fQ (fq O<|uq q) k1
 have X:.anh (.xh x6 x7 x8) .YL=.rt (bp .u6) .YL:=by
  exact aV<|mf<|.mI<|fW Q _
 have E:(.HR [d,bp s]++.hp (9 - .s [d,bp s]):Sd)=.aeL:=rfl;rw[<-I,<-hw];unfold pc bK runB;rw[z3 (by rfl),E,cP R,cP W,cP U,X];exact dJ<|Pg _
end
noncomputable abbrev aay:EF:=.ab8
noncomputable abbrev Ue:EF:=.agM
def Uf(f:n<=30)(O:.dY)(l:.i7 .h6):
  .qX k .h6 (gT [0,1,2]) [] aay .h6 (.rR none) h=.v (.mY .m7):=by
 have:=.zE k (tg:=gT [0,1,2]) (cs:=[]) (e:=aay) (I:=λσ=>∃a b c,σ=.Bx) .c3
  (λd=>match d with | .tup [.int a,.int b,.int c]=>.h (line jY .Bx)|_=>.non) l (xs:=.h6) (σ:=.rR none) (by
  rintro x i σ ⟨a,b,c,rfl⟩;obtain⟨t,j,rfl⟩:=.ar i;have z:=XS f O j;have m:=iL _ z.a;have o:=iL _ z.b;have p:=iL _ z.w;refine .ch _ rfl ⟨_,_,_,rfl⟩ (.de ?_);refine .M2 (.D1 z.a (qB rfl .bz (.D1 z.b (qB rfl .bz (.D1 z.w (.a2 Nm .bz ?_))))));congr 2;simp[line,bD]) ⟨_,_,_,rfl⟩
 rw[this,.hf,UD,UD];rfl
def Ug{bs:.l}(bb:∀b∈bs,.h3)(i:h[k]?=.kw):
  .aiV (.Ji .iH):=by
 have:=.TV (.Ji .iH)
  .ad0 i (xs:=.i4) (σ:=.bH) (by
  rintro x f σ ⟨a,rfl⟩;rw[.FL f];have j:=iL _ .H0;refine .sZ;refine .M2 (.D1 .H0 (.a2 Nm .bz ?_));congr 2) .K
 rw[this,.hf,UD,UD];rfl
def Uh{ss:.em}(os:∀x∈ss,.fZ)(j:h[k]?=.kx):
  .yr .eO Ue .eO .bH h=.v (.mY<|ss.map fz):=by
 have:=.TV Ue
  (λd=>match d with | .int a=>.h (fz .jK)|_=>.h (fz none)) j (xs:=.eO) (σ:=.bH) (by
  rintro x c σ ⟨a,rfl⟩;obtain⟨t,f,rfl⟩:=.ar c;refine .sZ;cases t with
  |none=>exact .jT Fo .eQ
  |some i =>
   have b:=S6 (os _ f) rfl;have l:=iL _ b;exact .a2 Fp .eQ (.M2<|.D1 b<|.jT Nm .bz)) .K
 rw[this,.hf,UD,UD];congr 1;apply vx;intro o _;cases o<;>rfl
def IK(e:n<=30)(O:.dY)(lb:.j5)(ls:.he)(os:∀x∈ss,.fZ)(bb:∀b∈bs,.h3)(h:Hd):
  p8 [.ih] h=.TO (kU n T):=by
 have W:=mT e O lb ls;have y:.NE:=rfl;have z:.ED:=rfl;have m:=kI e O lb ls;have s:=AX W;have o:=p7 W;have l:=nT W;rw[y]at o;rw[z]at l;have f:=(pZ e O).1;obtain⟨w,t⟩:=qq .dB;rw[<-t]at m s o l⊢;obtain⟨a,j⟩:=qq .hg;rw[<-j]at m f⊢;have F:=f.len;have nb:.NK .ek:=.rO;have g:=iL _ nb;have E:.gX .nE (.rR .be) h=.d5 [.be,.T,none]:=.cI aH<|s h;have r:.pe .agt [.be,.T,none] h=.nx [.be,.T,.aH] (.ah<|.mY [.mC]) :=
  aH<|cF<|.lK<|.M2<|qB (.qo nb) .bz<|.jT Nm .bz
 obtain⟨σ,d⟩:=qq ([.be,.T,.aH]:Sd);have p:∀c,.dr 0 c=.ok w.enc c:=λc=>.aE d
 have i:∀c,.dr 2 c=.iX c:=λc=>.aE d
 have k:∀g,iA g [] σ=.hp g:=λg=>.k iA
 have B:dR (.agm aay) σ (.ah<|.mY [.mC])=.c6 .amm:=by
  refine .Se<|.Vq m<|.ff k<|Uf e f zAP;rw[rK,<-zBQ];rfl
 have u:dR .ag2 σ .amm=.c6 .afk:=by
  refine .Se<|.Vq o<|.ff k<|Ug bb zAP;rw[rK,<-zBQ];rfl
 have q:dR (.cy qp<|.jy (eW .GT) Ue) σ .afk=.c6 (.adh<|.J3++.l9++.wV):=by
  refine .Se<|.Vq l<|.ff k<|Uh os zAP;rw[rK,<-zBQ];rfl
 have A:.J3++.l9++.wV=.t6 a:=.k bM
 rw[A]at q;obtain⟨v,lc⟩:=xv e f lb ls os bb;have C:.Df bf σ .anD=.rt (.h<|.ep<|.t6 a) .anD:=aV<|Bl (cL (i _)<|aS eJ) v lc;rw[<-d]at r;exact .Km<|.a2 ft E<|.ge ft r ft B<|.ge ft u ft q C
def Ui:.aen:=by
 have a:.aj6:=λ{i} e=>.jZ e
 unfold kU;rw[.sw mC]
 ·rintro⟨b,d,c⟩
  rw[a b,iS]at c;rw[.C b d c]
 ·rintro⟨b,d,c⟩
  rw[.C b d (by rw[a b,iS];exact c)]
theorem BC(c:∀i,.jm (.v6 i) .xQ):∀k,.jm (jz R k) qJ
 |0=>.k jz
 |k+1=>by
  rw[jz,zZw];refine .gi (BC c k) λs e t d=>?_
  ·unfold kf
   rw[zYs];exact(.pW (c k) _).imp λh=>.F (.co h)
  ·obtain⟨h1,_,_⟩:=mC.mp e
   obtain⟨f,_,_⟩:=xg.mp d;rw[.O .b]
def PU(O:.dY):.jm .hg qJ:=by
 unfold kU;refine BC (λi=>?_) n
 by_cases a:i<n
 ·have:.C5=eG .eM:=.jZ a
  rw[.a9];exact mV .Pw
 ·have:.C5=[]:=.jZ a
  rw[.ap this .nil]
def PV{bs:.l}(bb:∀b∈bs,.h3)(i:h[k]?=.kw):
  .aiV .aaC:=by
 have:=.zE k (all:=.i4) (tg:=gN 0) (cs:=[]) (e:=.aaC) (h:=h) (I:=.ye [a]) .c3
  .ad0 i (xs:=.i4) (σ:=.bH) (by
  rintro x f σ ⟨a,rfl⟩;rw[.FL f];have j:=iL _ .H0;exact .jg<|.i (cY (x:=.iH) (y:=tx t) rfl (.qo .H0) (by simp;lia)) rfl) .K
 rw[this,.hf,UD,UD];rfl
def n60{i:Nat}(h:i<=30):.NK (.M i):=.im<|show (.M i).natAbs<=30 by omega
def WY(h:i=0\/i=1):tx i=.uX i:=by
 rcases h with rfl|rfl
 ·exact .a2 FV 0 (nh .c)
 ·exact .a2 FV 1 (nh .c)
/---/def lM(M:.fo)(i k:Nat):.ca:=(.pW (.fS k) λj=>.D<|0<.pt j).map λj=>⟨i,i+1+j,.pt j⟩
def Lw(M:.fo)(i k:Nat):lM M i (k+1)=lM M i k++(.fx 0 (.pt k) [⟨i,i+1+k,.pt k⟩] []):=by
 unfold lM;rw[List.range_succ,List.filter_append,zBQ];congr 1
 by_cases c:0<.pt k
 ·rw[z3 c];simp[c]
 ·rw[yM c];simp[c]
def Eg(M:.fo)(i k:Nat):.s (lM M i k)<=k:=by
 unfold lM;rw[zST];exact .j9 zWl .f
/---/def pB(M:.fo)(n k:Nat):.ca:=(.fS k).flatMap λi=>lM M i .Hp
def xE(M:.fo)(n k:Nat):pB M n (k+1)=.Bc++lM M k (n-(k+1)):=by
 unfold pB;rw[List.range_succ,List.flatMap_append];simp
theorem we(M:.fo)(n:Nat):∀k,.s .Bc<=n*k
 |0=>zZc _
 |k+1=>by
  have h1:=we M n k;have a:=Eg M k<|n-(k+1);rw[xE,zAK,Nat.mul_succ];omega
def WZ{b h n}(m:.iG b)(hi:i<n)(e:j<n)(c:.dr 0 h=.lv (.KM b))(d:.dr 3 h=.ao i)(a:.dr 4 h=.ao j):.ajH σ h=.ao (M i j) :=
 bq (bq (.aa1 c) d (aS m.mt.ti)<|NJ hi) a (aS .ZS)<|Ua e
def W0{h n}(m:.iG r)(hi:i<n)(N:.oY)(a b:.J):
  ∃s q,xj [.J2 r,.T,.aH,.aW,a,b,none] .vv =
   .nx [.J2 r,.T,.aH,.aW,s,q,none] (.ga<|.K7 .Hp):=by
 have B:=m.n30;obtain⟨d,l⟩:=qq (.q3 r:D);rw[<-l];have K:iP (.zr 3) (aa 1) (.KB a) .vv=.nB (.cY .Hp<|.lJ<|i+1) .vv :=
  pi .r1 (by show .GZ .ek _=_;rw[show i+1+.Hp=n by omega]) .bm
 obtain⟨σ',u,J,H,s,q,C⟩:=.Y1 4 (b:=DV) (P:=λk σ u=>u=.ga (.K7 k)/\∃a b,σ=.KB a) .jY
  (xs:=.cY (n - (i + 1))<|.Rw<|i + 1 + j) (k:=0) (σ:=.KB a) (h:=.vv) (λk x σ g f p=>by
   obtain⟨rfl,a,b,rfl⟩:=p;rw[wm];have G:k<.Hp:=by
    rw[.s4 f]
   have A:x=.F9 (i+1+k):=by
    rw[zBP,zXb G]at f;exact .zu f
   subst A;obtain⟨Y,t⟩:=qq<|.K7 k;rw[<-t];have w:Y.length<=1030:=by
    have:=Eg M i k;rw[t,zAK,zST];omega
   have F:=m.more [.q<|Y.map .str];have o:=m.mo.bd i<|i+1+k;have c:=WZ F hi (j:=i+1+k) .bm (σ:=.KB<|.HL<|i+1+k) (.aE l) rfl rfl;have I:.K7 (k+1)=Y++(.fx 0 (.pt k) [iM ⟨i,i+1+k,.pt k⟩] []):=by
    rw[Lw,zBQ,t,zBT]
    by_cases z:0<.pt k
    ·rw[z3 z,z3 z,xI,zZu]
    ·rw[yM z,yM z,zZu]
   refine .dz ?_;rw[I];obtain⟨v,E⟩:=qq<|.pt k;rw[<-E]at c o⊢
   by_cases z:0<v
   ·rw[z3 z]
    have y:.acn [.a7,.T,.aH,.aW,.HL<|i+1+k,.B4,none] .PC=.fi (iM ⟨i,i+1+k,v⟩) .PC:=by
     have q1:=iL _<|n60 (show i<=30 by omega);have q2:=iL _<|n60 (show i + 1 + k<=30 by omega);have q3:=iL _<|big o.1 o.2;exact Bl (sp:=32) (L:=[jY,tx (i:Int),tx<|.mv<|i + 1 + k,tx v]) (.dv<|ah (.qo<|n60 .bm)<|bB (.qo<|n60 .bm)<|.qo<|big o.1 o.2) (λx f=>by
      dsimp[z4,zYo,or_false]at f;rcases f with e|e|e|e
      ·rw[.eV e]
      ·rw[e];omega
      ·rw[e];omega
      ·rw[e];omega)<|.Nv<|4<=1100
    refine .ao6<|.fG (.dD<|uo z)<|dZ<|.Qo y<|.zZ<|.im w;rw[.nX];simp
   ·rw[yM z]
    refine .ao6<|.e1<|.dD<|Fk z;simp) ⟨.k lM,a,b,rfl⟩
 refine⟨s,q,fQ K (J.trans ?_)⟩;rw[H,C];simp
section
variable{ss:List (Option Int)}{h:Hd}
def W1{n}(m:.iG o)(f:.g):∃a b c,.F1 (.cA cT) xj (.TG<|.J2 o) (.ga [f]) =
   .nx [.J2 o,.T,.aH,a,b,c,none] (.ga<|f::.dg .lA iM):=by
 have l:=m.n30;obtain⟨j,q⟩:=qq (.q3 o:D);have d:=λ(i:Nat) (A:i<n) (X:List (List Nat)) (y:X.length<=1000) a b=>W0 m A y a b;rw[<-q]at d⊢;obtain⟨σ',s,E,C,v,u,w,B⟩:=.Y1 3 (P:=λk σ s=>s=.ga (f::.dg .Bc iM)/\∃a b c,σ=.xD .e6) .jY
  (xs:=.gS) (k:=0) (σ:=.TG .e6) (h:=.ga [f]) (λk x σ g r p=>by
   obtain⟨rfl,a,b,c,rfl⟩:=p;rw[wm];have t:k<n:=by
    rw[.s4 r]
   have z:x=.F9 k:=by
    rw[zBP,zXb t]at r;exact .zu r
   subst z;have G:=we M n k;have F:n*k<=30*30:=zVn l .b;obtain⟨v,u,e⟩:=d k t (f::.dg .Bc iM) (by rw[xR,zST];lia) b c;refine⟨_,rfl,_,_,e,?_,_,_,_,rfl⟩;rw[xE];simp) ⟨by rfl,_,_,_,rfl⟩
 refine⟨v,u,w,.F7 .b (E.trans ?_)⟩;rw[C,B];simp
def NN{h h1:Hd}(p:.bM=.kO i)(b:.tZ):.ex Hl=.pk (tx i):=by
 rw[.fO];show (if .CC then _ else _)=_;rw[z3<|S5 b];rfl
def W2(u:.Pc l)(E:h[l]?=.kx)(os:∀x∈ss,.fZ)(ls:ss.length<=30)(F:.oY)(a b c:.J):
  ∃d,.rJ (eW .nC) xi (.xD .aR) .vv=.nx (.WU d) (.ga<|X++ss.map fz):=by
 have e:∀c:bO,(h++[c])[l]?=.kx:=λc=>.ag E;obtain⟨σ',f,C,z,t,w⟩:=eF (g:=.eC) (tg:=gN 6) (b:=xi) (P:=λk σ f=>f=.ga (X++.Eo k)/\∃d,σ=.WU d) (λ_ _ f p=>by rw[p.1];exact e _)
  (xs:=.eO) (k:=0) (σ:=.xD .aR) (h:=.vv) (λk x σ g m p=>by
   obtain⟨rfl,d,rfl⟩:=p;rw[wm];have j:k<ss.length:=by
    rw[.s4 m]
   have v:x=bT ss[k]:=by
    rw[zBP,zAN j]at m;exact .zu m
   subst v;obtain⟨Y,q⟩:=qq<|X++.Eo k;have s:Y.length<=1030:=by
    rw[q,zAK,zST,zZe];lia
   have B:X++.Eo (k+1)=Y++[fz ss[k]]:=by rw[zWr j,zBQ,q,zBT];rfl
   rw[B,<-q];have o:=os ss[k]<|zYp j;obtain⟨y,A⟩:=qq<|ss[k];rw[<-A]at o⊢;refine .dz ?_;have r:.acK (.WU<|.b0 bT y) .PC=.fi (fz y) .PC:=by
    rcases o with rfl|rfl|rfl
    ·exact yz (.nN<|cY rfl (rfl:Hl (aa 6) _ _=.fi (vj "None") _) .c) (Kv (b:=false) .r1) rfl
    ·exact .anZ (cY rfl (NN (i:=0) rfl .c)<|.jV<|WY .b5)
    ·exact .anZ (cY rfl (NN (i:=1) rfl .c)<|.jV<|WY .g7)
   refine⟨_,_,dZ<|.Qo r<|.zZ<|.im s,?_,_,rfl⟩;rw[.nX];simp) ⟨.f,none,rfl⟩
 rw[.bN t (fQ (dM (u _ _ rfl)<|e _) (C.trans ?_))];rw[z,w];simp
def NO{n}(m:.iG t)(bb:∀b∈bs,.h3)(O:.mn .lA):
  pd [.q3 t] h=.TO .lA:=by
 have j:=m.n30;have r:=m.lb;have I:=m.ls;obtain⟨f,p⟩:=qq (.q3 t:D);obtain⟨T,w⟩:=qq .lA;have R:T.length<=900:=by
  have S:=we M n n;have P:n*n<=30*30:=zVn j j;rw[w];lia
 obtain⟨B,lc⟩:=xv j O r I m.os bb;rw[<-w]at B lc O⊢;have C:.Th f:=.t5 p;have E:.Dr (.QZ f->.nC σ g=.b7 t g):=.t5 p;have L:.gX .Dz (.Cn .iB) h=.d5 .ahO:=by
  rw[.w4 (.jp 1<|du<|cL (C (.Cn .iB) h rfl)<|aS m.ba) zST r];rw[.iz]
 have Q:=iL _<|n60 j;have F:.pe (.N<|.ck (.ae .DF)<|gg<|aa 1) .ahO h=.nx (.TG .iB) (.ga [line cz [.bp]]) :=
  aH<|cF<|ah (cY rfl (.qo<|n60 j)<|.pc<|.bt<|7+.ad tx (n:Int)) rfl
 obtain⟨a,b,c,u⟩:=W1 m .mC;rw[<-p,<-w]at u;obtain⟨X,x⟩:=qq<|.mC::.m7;rw[<-x]at u;have N:X.length<=901:=by rw[x,xR,zST];lia
 obtain⟨o,k⟩:=.iC .vv;rw[<-k]at u;have H:.fM o=.x (X.map .str):=.fm k
 have A:o[bk]?=.kw:=.ff k<|.ag m.ba
 have s:.J8 (.xD .iB) o=.b7 o.length (.aS o<|.eh .Fb) :=
  cF (cV (dM (C _ _ rfl) A)<|PV bb A) (by dsimp[zST,r];exact .bf j)
 obtain⟨q,l⟩:=.iC<|.aS o<|.eh .Fb;rw[<-l]at s;have y:.cy ja .J8 (.xD .iB) o=.ok (.eh<|X++.Fb) q:=by
  rw[zBQ];exact zV rfl s (by rw[l];exact .ag H) (.fm l) (by dsimp[zST,r];exact .bf<|show .gh n<=931 by lia)
 have G:.pe (.cy ja .J8) (.xD .iB) o=.nx [.iB,.T,.E2,a,b,c,none] (.aS q<|.eh<|X++.Fb) :=
  aH<|cF y (by dsimp[zST,zAK,r];exact .bf<|show .gh n<=931 by lia)
 have v:q[t]?=.kx:=by rw[l,k];exact bg _ .PM
 obtain⟨d,z⟩:=W2 E v m.os .b (X:=X++.l9) (by rw[zAK,zST];lia) a b c;have J:X++.l9++.wV=.kA:=by rw[x];simp[bM]
 rw[J]at z;have K:.Df bf [.iB,.T,.E2,a,b,c,d] .amO=.rt (.h<|.ep .kA) .amO :=
  aV<|Bl (.mI .f) B .b
 rw[<-p];refine .il<|.ft<|sx L<|sx F<|sx u<|sx G<|sx z K;rw[l,k,zBT,zBT];exact dJ rfl
end
end Fm
namespace Fm
open Fy
theorem Lx:∀{r:.bW},(∀p∈r,p.1≠j)->.Gc .Ks=0
 |[],_=>rfl
 |p::r,h=>by
  rw[xI,zWx,Lx λq a=>h q<|.dF a,yM<|h p zCK];rfl
theorem Ly:∀{r:.bW},.EP r.map->(j,v)∈r->.Gc .Ks=v
 |[],_,h=>.Pn
 |p::r,nd,h=>by
  rw[xI]at nd;obtain⟨n1,b⟩:=.rT;rw[xI,zWx];rcases .bj h with e|h
  ·subst e
   rw[.cb,Lx λq a z=>n1<|xT.mpr ⟨q,a,z⟩];exact Int.add_zero _
  ·rw[yM λz=>n1<|xT.mpr<|.bP h z.symm,Ly b h];exact Int.zero_add _
/---/def NP(n j:Nat):.l:=.e7 λk=>.Q k j 1 0
def sN(n j k:Nat):(NP n j).getD k 0=.tQ (k<n/\k=j):=by
 unfold NP;rw[zAO,zBP]
 by_cases h:k<n
 ·rw[zXb h]
  rw[.aV k j]
  ·rw[z3 ⟨h,e⟩];simp[e]
  ·rw[yM<|.sE e];simp[e]
 ·rw[zZz<|.c5 zBN,yM λz=>h z.1];rfl
theorem Lz:∀n,qI (.de 0) n=0
 |0=>rfl
 |n+1=>by rw[qI,Lz n];rfl
variable{T:List Tie}{n:Nat}
def NQ(L:.li n)(hi:i<n):(j,v)∈.eM↔j<n/\M i j=v/\0<v:=by
 have b:j<n->(.dg .eM .Ks).sum=M i j:=λa=>by
  have e:=L.pl i hi<|NP n j;rw[pX]at e;have g:((.eM).map λp=>.Q ((NP n j).getD p.1 0) 1 (p.2) 0)=.dg .eM .Ks:=vx λp d=>by
   have d:=ur L.ok.lt p d
   by_cases c:p.1=j
   ·rw[z3 c,z3<|.L sN<|z3 ⟨d,c⟩]
   ·rw[yM c,yM (by rw[sN,yM<|.sE c];decide)]
  rw[g]at e;rw[e,zX (λk m=>?_) n,z3 a,Lz]
  ·unfold kh
   rw[z3 ⟨.w0 hi a,.L sN<|z3<|.g5 a⟩]
   lia
  ·unfold kh
   rw[yM];rintro⟨_,z⟩;rw[sN,yM<|.sE m]at z;exact .nT z
 constructor
 ·intro h
  have a:=ur L.ok.lt _ h;obtain⟨t,l,_,q⟩:=nS.mp h;have w:=L.ok.wt t l;exact⟨a,.akz h,by rw[q]at w;exact Int.lt_of_lt_of_le .c w.1⟩
 ·rintro⟨a,e,p⟩
  by_cases c:∃w,(j,w)∈.eM
  ·obtain⟨w,f⟩:=c
   have:=.akz f;rw[<-e,this];exact f
  ·have:=.lr (b a) (Lx λp d z=>c ⟨p.2,.ay z d⟩)
   lia
theorem Eh{α:Type}{r:α->.bF α}(as:∀a b,r a b->¬r b a):∀{l k:.bY},l.Pairwise r->k.Pairwise r->(∀x,x∈l↔x∈k)->l=k
 |[],[],_,_,_=>rfl
 |[],y::k,_,_,m=>.B ((m y).mpr zCK) zYo
 |x::l,[],_,_,m=>.B ((m x).mp zCK) zYo
 |x::l,y::k,h1,h,m=>by
  obtain⟨g,j⟩:=.qh h1;obtain⟨d,i⟩:=.qh h;have e:x=y:=by
   rcases .bj ((m x).mp zCK) with e|n
   ·exact e
   ·rcases .bj ((m y).mpr zCK) with e|o
    ·exact e.symm
    ·exact .B (d x n) (as _ _<|g y o)
  subst e;have f:¬r x x:=λz=>as x x z z;rw[Eh as j i λz=>⟨λc=>?_,λc=>?_⟩]
  ·rcases .bj ((m z).mp .w6) with e|q
   ·rw[.d3 (.B (g _ c) f)]
   ·exact q
  ·rcases .bj ((m z).mpr .w6) with e|q
   ·rw[.d3 (.B (d _ c) f)]
   ·exact q
def W3(s t:Tie)(h:qJ s t):¬qJ t s:=λz=>by
 unfold qJ at h z
 lia
def BD:t∈.Bc↔t.a<k/\.wq/\t.b<n/\M t.a t.b=t.w/\0<t.w:=by
 unfold pB lM;rw[.sw List.mem_flatMap]
 ·rintro⟨i,f,m⟩
  obtain⟨j,o,rfl⟩:=.ar m;obtain⟨c,d⟩:=zXc.mp o;have c:=zYj.mp c;have f:=zYj.mp f;exact⟨f,show i<i+1+j by lia,show i+1+j<n by lia,rfl,X2 d⟩
 ·rintro⟨c,d,l,g,h⟩
  obtain⟨a,b,w⟩:=t;simp only at c d l g h;subst g;have e:a+1+(b-(a+1))=b:=.b
  refine⟨a,zYj.mpr c,xT.mpr ⟨b-(a+1),zXc.mpr<|.c4<|zYj.mpr .b,?_⟩⟩
  ·rw[e];exact y3 h
  ·rw[e]
def PX(M:.fo)(i k:Nat):.jm (lM M i k) qJ:=by
 unfold lM;rw[zYs];exact .pW (List.pairwise_lt_range.imp λ{a b} h=>.F<|.co<|show i+1+a<i+1+b by lia) _
theorem xF(M:.fo)(n:Nat):∀k,.jm .Bc qJ
 |0=>List.Pairwise.nil
 |k+1=>by
  rw[xE];refine zZw.mpr ⟨xF M n k,PX M k _,λs b t a=>.G ?_⟩;have h1:=(BD.mp b).1;unfold lM at a;obtain⟨j,_,rfl⟩:=.ar a;exact h1
theorem X6{n:Nat}(O:MOk M)(a:one<n){T:.ca}(L:.li one):∀k,k<=one->∃T,.zJ k T
 |0,_=>⟨T,L⟩
 |k+1,h=>by
  obtain⟨c,b⟩:=X6 O a L k .b
  by_cases z:0<M one k
  ·exact .cn (b.put O .b a z)
  ·exact .cn (b.skip O .b a<|.lH<|O.bd one k)
theorem X7{n:Nat}(O:MOk M)(a:n<=30):∀k,k<=n->∃T,.li k
 | 0,_=>⟨[],⟨.adY,λi hi s=>by
   have:∀j,kh M s 0 0 i j=0:=λj=>by
    unfold kh;rw[yM];rintro⟨z,_⟩;unfold uG at z
    lia
   rw[nB n λj _=>this j,Lz];rfl⟩⟩
 |k+1,h=>by
  obtain⟨T,L⟩:=X7 O a k .b;obtain⟨c,b⟩:=X6 O (show k<n by lia) L k<|zBK _;rw[.o c (b.step O .b a)]
def sO(f:n<=30)(L:.li n):.lA=.hg :=
 Eh W3 (xF M n n) (PU L.ok) λt=>by
  rw[BD,Ui];constructor
  ·rintro⟨a,b,c,d,e⟩
   rw[.C a b ((NQ L a).mpr ⟨c,d,e⟩)]
  ·rintro⟨a,b,c⟩
   obtain⟨q1,q2,q3⟩:=(NQ L a).mp c;exact⟨a,b,q1,q2,q3⟩
def Ei(t:Tx X)(e:.le X=.Lg)(hd:.Cj []):bP [.nV,.h X] h=.ok .non (.Wq .ih):=by
 have r:=Nt t h;rw[e]at r;exact .i (.ab SD<|Nz (ax (.q2 cA) r) .Br hd .f) Pa
def Uj(t:Tx X)(e:.le X=.bad k)(h:Hd)(dk:Nat):∃g,bP [.nV,.h X] h=.kf k (h++g):=by
 have r:=Nt t h;rw[e]at r;obtain⟨_,⟨g,rfl⟩,r⟩:=r;rw[.o g (.dn<|F7<|.rC r)]
def PY(e:.NS h)(dk:Nat):bP [.nV,d] h=.kf 0 h:=by
 have q:.BF (.Cn .a7) h=.et:=by
  show .eE .hH _=_;dsimp[aE,e]
 have r:kX [d] h=.kf 0 h:=.dA<|cR<|.i (pv (.aZ q) rfl)<|Bq rfl;exact .dn<|F7<|.rC r
def NU(O:.mn .lA):RT n .lA:=⟨xF M n n,λt a=>⟨(BD.mp a).2.1,(O.lt t a).2,O.wt t a⟩⟩
def W4(m:.iG c)(n6:n<=6)(bb:∀b∈bs,.h3)(L:.li n)(p:.bM=.lv (.KM c)):
  .OS (.N<|aq pd<|.N a) σ h=.iX .Of:=by
 have e:=sO m.n30 L;have O:.mn .lA:=by rw[e];exact(pZ m.n30 L.ok).1
 have t:=NO m bb O;have w:.Zv .lA:=by rw[e];exact AW m.n30 L.ok _ _
 have d:.s (.t6 .lA)<=200:=by
  have g:=we M n n;have f:n*n<=6*6:=zVn n6 n6;have:=m.lb;have:=m.ls;dsimp[bM,xR,zAK,zST];lia
 have i:=.ajy (Wy (Nu m.n30 O m.lb m.ls m.os bb) d).1 (by exact Wz m.n1 m.n30 (NU O) m.lb m.ls m.os bb) .f;rw[w]at i;have s:.aft=.Of:=.nX _ _;rw[s]at i;unfold Hj;rw[ah (ax (.lK p) t) rfl,aE];dsimp[D7 i]
def W5(p:.Vf<=SZ):yw (.E xs) (.E ys) h=.lv (xs++ys):=.k1 yw<|z3 p
/---/def aaz(o:.X)(s:.l):.dl:=match o with|none=>[s++[0],s++[1]] | some v=>[s++[v]]
/---/def nC(E:.dl)(o:.X):.dl:=E.flatMap<|aaz o
/---/def gB(ss:.em):.dl:=ss.foldl nC [[]]
def BE{ss:.em}(h:ss[k]?=.bb):.vD (k+1)=nC (.vD k) o:=by
 unfold gB;rw[List.take_succ,h,List.foldl_append];rfl
def IL(E:.dl)(o:.X):.s (nC E o)<=2*E.length:=by
 unfold nC
 induction E with
 |nil=>exact zBK _
 |cons s E a =>
  rw[List.flatMap_cons,zAK,xR];have:.s (aaz o s)<=2:=by
   cases o with
   |none=>exact zBK 2
   |some v=>exact zVc 1
  lia
theorem NV(ss:.em):∀k,k<=ss.length->.ad gB (ss.take k)<=2^k
 |0,_=>.xJ zVp
 |k+1,a=>by
  rw[BE<|zAN<|show k<ss.length by lia,Nat.pow_succ];have:=IL (.vD k) (ss[k]' .b);have:=NV ss k .b
  lia
structure InK(ss:List (Option Int))(k:Nat)(s:List Int):Prop where
 len:s.length=k
 op:∀x∈s,x=0\/x=1
 st:∀(i:Nat) x,i<k->ss[i]?=some (some x)->s[i]?=some x
theorem zY{ss:.em}(os:∀x∈ss,.fZ):∀k,k<=ss.length->∀s,s∈.vD k↔InK ss k s
 |0,_,s=>by
  rw[.sw zVp]
  ·intro h
   have h:=.df h;subst h;rw[.C rfl (λx d=>.B d zYo) λi x b=>.B b<|zXu i]
  ·intro h
   rw[List.eq_nil_of_length_eq_zero h.len];exact x4.mpr rfl
 |k+1,y,s=>by
  have a:=y;have e:=zAN a;have ok:=os _<|zYp a;obtain⟨o,u⟩:=qq<|ss[k];rw[<-u]at e ok;rw[BE e];unfold nC;rw[List.mem_flatMap];have n:=zY os k<|zZj a;constructor
  ·rintro⟨t,f,p⟩
   have T:=(n t).mp f;have:∃v,s=t++[v]/\.Hh/\(∀x,o=.aF->v=x):=by
    cases o with
    |none =>
     rw[.Af p]
     ·rw[.al 0 z .b5 λx q=>by cases q]
     ·exact⟨1,.tc,.g7,λx q=>by cases q⟩
    |some v=>exact⟨v,.df p,by simpa using ok,λx q=>by cases q;rfl⟩
   obtain⟨v,rfl,g,r⟩:=this;refine⟨.EL T.len,λx d=>?_,λi x b q=>?_⟩
   ·rw[.nb d]
    ·exact T.op x z
    ·rw[.tc];exact g
   ·by_cases hik:i<k
    ·rw[zAL<|.p T.len hik];exact T.st i x hik q
    ·have:i=k:=.b
     subst this;rw[e]at q;rw[zAM<|.xJ T.len,T.len,Nat.sub_self,r x<|zBS q];rfl
  ·intro S
   have j:.nw k:=by rw[S.len];exact wx k
   have c:s=s.take k++[s[k]]:=by
    conv=>lhs;rw[<-List.take_append_drop k s]
    rw[zYd j,zVg<|.xJ S.len]
   rw[.eD (s.take k) ((n _).mpr ⟨.c5 zZe,λx d=>S.op x<|zZv d,λi x b q=>by rw[zUb b];exact S.st i x (zj b) q⟩)];have g:=S.op _<|zYp j;obtain⟨t,f⟩:=qq<|s.take k;obtain⟨v,m⟩:=qq<|s[k];have l:=λx q=>S.st k x (wx k) q;rw[zAN j]at l;rw[<-m]at g l;rw[<-f,<-m]at c;rw[<-f,c];cases o with
   |none =>
    rcases g with z|z
    ·rw[.ap z zCK]
    ·rw[z];exact .dF zCK
   |some w =>
    rw[zBS<|l w e];exact zCK
def Ga(s:.l)(v:Int)(ls:.h4)(h:Hd):yw (bp s) (.E [.mf]) h=.jP bp (s++[v]):=by
 have:=W5 (xs:=.zx) (ys:=[.mf]) (h:=h) (.zZ<|.bf<|zWq ls 1);unfold bp;rw[.ap zBQ this]
def NW(W:.ak)(a:w.stays=ss)(ls:.he)(os:∀x∈ss,.fZ)(s:.l):s∈gB ss↔.hA w:=by
 rw[.hS (zY os n (zYw ls.symm) s) (zZl<|zYw ls)];rw[.sw this]
 ·intro k
  rw[.C k.len k.op λi x e=>k.st i x (by rw[a]at e;rw[<-ls];exact .aw e)<|.ay a e]
 ·intro F
  rw[.C F.len F.op λi x _ e=>F.st i x<|.p a e]
def Uk(F:E.length<=256)(ls:∀s∈E,.h4){h:Hd}(t:.i7 .PO)(m:.wh A)(c:.J):
  ∃f,dD .mi .PO (gN 4) nU .PO (.Jz c) .cS=.nx (.Jz f) (.ah<|.uY E):=by
 obtain⟨σ',j,q,f,y,p⟩:=eF (P:=λi σ j=>∃c,σ=.Jz c/\j=.ah (.uY .Ab)) (g:=.mi) (λi σ j u=>by obtain⟨_,_,e⟩:=u;rw[e];exact .ag t)
  (tg:=gN 4) (h:=.cS) (b:=nU) (by
   rintro i x σ G z ⟨c,rfl,rfl⟩;rw[wm];have l:E[i]?.map bp=.aF:=.ay zBP z
   obtain⟨s,r,rfl⟩:=.n1 l;have a:=ls s<|zAT r;have d:=fW m<|.q<|.uY .Ab;have C:.ZL=.Ab++[s]:=by rw[List.take_succ,r];rfl
   have w:nC .ZL o=nC .Ab o++aaz o s:=by rw[C];unfold nC;rw[List.flatMap_append];simp
   have n:.s (.uY .Ab)<=512:=by
    rw[zST];have:=IL .Ab o;have:.ad E.take i<=E.length:=zVo _ _
    lia
   refine⟨_,rfl,.Jz .bV,.ah<|.uY .ZL,?_,_,rfl,rfl⟩;rw[w,zBQ];cases o with
   |none =>
    refine .ge i4 .eQ dZ (zN rfl d (bB (.VD 0)<|.VD 1) d<|.bf<|zWq n 2) ?_;rw[iD m];rfl
   |some v =>
    refine .ge dL .eQ dZ (.vP d (.VD v) d<|.im n) ?_;rw[iD m];rfl)<|.hJ _<|.aE zVp
 have B:0+.ad E.map bp=E.length:=.L zST wm
 rw[B,zYv]at p;rw[y,p]at q;rw[.o f q]
def xG(m:.iG f)(Q:n<=8)(u:td=.q3 f):
  ∃k g,fv [td] h=.b7 k (h++g)/\.Yt .C8/\h.length<=k:=by
 obtain⟨A,v⟩:=.q1;obtain⟨σ',d,q,k,g,a,b,c,H,y,p,G⟩:=eF (P:=λi σ d=>∃(k:Nat) (g:Hd) (a b c:.J),σ=[.aR,.bZ,a,b,c]/\d=h++g/\d[k]?=.x (.bD gB (ss.take i) bp)/\h.length<=k) (g:=.iB) (λi σ d C=>by obtain⟨_,_,_,_,_,_,e,_,_⟩:=C;rw[.ap e .PM])
  (tg:=gN 2) (b:=yB) (by
   rintro i x σ S I ⟨k,g,a,b,c,rfl,rfl,t,_⟩;rw[wm]at t⊢;have r:ss[i]?.map bT=.aF:=.ay zBP I
   obtain⟨o,w,rfl⟩:=.n1 r;have z:=.aw w;have l:i<=7:=by have:=m.ls;lia
   have E:.ad gB (ss.take i)<=256:=by
    have R:=NV ss i<|zZj z;have T:2^i<=2^7:=Nat.pow_le_pow_right .c l
    lia
   have j:∀s∈.vD i,.h4:=λs J=>.c5<|((zY m.os i (zZj z) s).mp J).len
   obtain⟨K,F⟩:=Uk E j t rfl c;have O:.q8 3 [.aR,.bZ,.b0 bT o,b,c] (h++g)=.nx (.V4 c) (h++g++.cw []):=aH<|cF rfl<|zZc _;have L:.F2 .BT nU (.V4 c) (h++g++.cw [])=.nx (.V4 K) (h++g++.cw (.uY<|.vD i)):=fQ (dM rfl<|.ag t) F;refine⟨_,rfl,_,_,.ge ft O ft L<|aH rfl,.gT h g,.aS g<|.uY<|.vD i,_,_,_,rfl,.bA zBT,?_,by rw[zAK];exact zWa _ _⟩;rw[BE w];exact zAP) ⟨A,.cw [.E []],none,none,none,rfl,rfl,by rw[zVp];exact fW v _,zYw v.symm⟩
 have N:0+.ad ss.map bT=ss.length:=.L zST wm
 rw[N,zYv]at p;rw[H,y]at q;rw[y]at p;refine⟨k,g,?_,p,G⟩;have B:.nC (.nk .qx) (.ah [.E []])=.b7 f (.ah [.E []]):=by rw[u];exact .s1 rfl
 exact .uH<|.ge ft (aH<|Fl v (ah (eB rfl<|zZc _) rfl) .f2) ft (fQ (dM B .PM) q) .kc
end Fm
set_option maxHeartbeats 1000000
namespace Fm
open Fy
noncomputable abbrev SLt(l:.g):.m:=.pG
def W6(B:∀x∈s,.Bf)(h:Hd):.oV .zx .Ac .zx .bH h=.jP SLt (sg s):=by
 have:=.x3 .zx (e:=.Ac) (h:=h) (I:=.qN) .c3 (.Jl<|.h<|tx i) trivial (xs:=.zx) (σ:=.bH) (by
  rintro x c σ ⟨a,rfl⟩;obtain⟨i,b,rfl⟩:=.ar c;exact .jg<|.qo (by rcases B i b with rfl|rfl<;>decide)) .K
 rw[this,.zP,UD];congr 1;unfold SLt sg;rw[UD];apply vx;intro i b;show D.str (tx i)=_;rw[WY<|B i b];rfl
theorem X8:∀l:.g,.jj (l.map λc=>[c])=l
 |[]=>rfl
 |c::l=>.k<|X8 l
theorem acl:∀l:.g,.jn (((l.map λc=>[c]).map (·.length)).sum)
 |[]=>rfl
 |c::l=>by
  have:=acl l;dsimp[xI,zWx,this,xR,wb]
  lia
def Ul(p:.cC<|SLt l)(b:.f1 1000):.ex MU=.pk l:=by
 unfold MU;rw[p,aE];have e:o3 (SLt l)=.a (.yH [c]):=by
  rw[.eT (sH<|.yH [c]) UD]
 rw[e];have:=acl l;dsimp[this,X8];rw[.kM]
def BF(B:∀x∈s,.Bf)(l:.h4)(h:Hd):gn [bp s] h=.ib (sg s) :=
 .cT<|aV<|Ul (cV (HF rfl)<|W6 B h)<|.c5 qg
/---/def NR(h:Hd)(x:D):Prop:=(∃r,x=.h r/\Tx r/\IA r=true)\/∀g,t6 (h++g) .str x=.du
def NR.more(q:NR h x)(g:Hd):NR (h++g) x:=q.imp id λq a=>by rw[zBT];exact q _
def NR.rfs(q:NR h x)(d:.eP h):Rfs dk x "NoRow" h:=by
 rcases q with ⟨r,rfl,t,e⟩|q
 ·exact .AP aaj t e
 ·rw[.o [] (by have:=q [];rw[X1]at this⊢;exact TM this)]
/---/def okR(r:.g):Bool:=.Sg<|IA r
def Um(e:.zH):NR h (.h r):=by
 unfold okR at e;dsimp[UE,zYn,vb]at e;rw[.O ⟨r,rfl,⟨.bf<|e.1.2,e.2⟩,e.1.1⟩]
def NY(a:32∉wd)(b:∀x∈L,32∉x)(t:Tx .Fg)(e:.vf=none):NR h (.h .Fg):=by
 refine .G ⟨_,rfl,t,?_⟩;unfold IA;rw[xB a b];dsimp only;rw[e]
def zZ(e:∀g:Hd,t6 g .str x=.du):NR h x:=.inr λg=>e _
noncomputable abbrev LA:.A:=[[48,49],[43,49],[45,48],[49,95,48],[120],[],[49,46,48],[49]++.jj (.b4 60 .aO),[45,45,49],[49,10]]
noncomputable abbrev NZ(x:.g):.A:=[.BS++x,.BU++x,.iH++x++[32,48],.Vo++x,.DH++x++.UX,.Vt++x]
def Uo:∀x∈LA,∀r∈NZ x,.zH:=.ac
end Fm
set_option maxHeartbeats 1000000
namespace Fm
open Fy
def Up(p:.bM=.v .hG)(b:.i7 l)(q:.jM=.ok xs (h++g))(z:.Fn xs.length):bJ (ja a<|bJ r) σ h=.ok (.d<|.gT h g+1) (h++g++[.wG,.hM l xs]):=by
 have c:=.afj<|bg _<|.ag b;refine .amy;rw[zAK (as:=h++g),zBT<|h++g];rfl
structure RI(h:Hd)(P:Hd->D->Prop)(X:List D)(k:Nat)(H:Hd):Prop where
 pre:∃g,H=h++g
 at_:H[k]?=some (.lst X)
 all:∀x∈X,P H x
def RI.cat(mo:∀H g x,P H x->P (H++g) x)(R:.Go P)(v:.dr 2 H=.b7 k H)(q:.aU r=.ok xs (H++g))(a:∀x∈xs,P (H++g) x)(z:.rY xs.length):
  ∃d c,.gG (.uz r) σ H=.nx (.qf 2<|.t d) c/\RI h P (X++xs) d c:=by
 refine⟨_,_,aH<|Up v R.at_ q<|.bf z,?_,?_,?_⟩
 ·obtain⟨f,e⟩:=R.pre
  exact⟨f++(g++[.wG,.hM X xs]),.hP e zBT zBT⟩
 ·generalize H++g=G
  simp
 ·intro x b
  rcases .f5 b with b|b
  ·rw[zBT];exact .aC mo (R.all x b)
  ·exact .aC mo (a x b)
def N1:∀(H g:Hd) (x:D),NR H x->NR (H++g) x:=λ_ g _ q=>q.more g
def BG{L:.A}(e:∀r∈L,.zH):∀x∈.g3,NR H x:=λx a=>by
 obtain⟨r,b,rfl⟩:=.ar a;exact Um<|e r b
def LB(R:.Go NR)(d:x∈LA)(z:.rY 6):
  ∃c b,p9 (.LC .bZ) H=.nx (.LC<|.t c) b/\RI h NR (X++.eh (NZ x)) c b:=by
 have ok:=Uo x d;have n:.sJ:=by
  have:∀x∈LA,.sJ:=.ac
  exact this x d
 obtain⟨l,o,j,m⟩:=R.cat N1 (g:=[]) (σ:=.LC .bZ) (r:=.ac0)
  (xs:=.eh<|.jC NZ x 4) rfl (.DZ<|ah (.z3 6)<|ah (.z3 6)<|bB (cY (.z3 4) rfl<|.sr<|.bt<|4+x.length+2)<|.z3 9) (BG λr a=>ok r<|zZv a)<|.pc<|.gh 4<=1000
 obtain⟨e,i,f,R2⟩:=m.cat N1 (g:=[]) (σ:=.LC<|.t l) (r:=.ac5)
  (xs:=.eh<|(NZ x).drop 4) rfl (.DZ<|bB (cY (.z3 5) rfl<|.sr<|.bt<|5+x.length+5)<|.z3 8) (BG λr a=>ok r<|.WG a)<|.Au<|.gh 4+2
 refine⟨e,i,sx j f,?_⟩;rw[zBT]at R2;exact R2
theorem BH{all:.m}:∀(N:.A) (X:.m) (k:Nat) (H:Hd) (c:.J),(∀x∈N,x∈LA)->.Go NR->.rY (6*N.length)->
  ∃a d b e,.xI 3 p9 (N.map .str) [.aR,.aI t0,.bZ,c] H=.nx [.aR,.aI t0,.t d,e] b/\RI h NR a d b/\X.length<=a.length/\.f3 a.length
 |[],X,k,H,c,_,R,z=>⟨X,k,H,c,.xZ,R,zBK _,.b⟩
 |x::N,X,k,H,c,f,R,z=>by
  rw[xR]at z;rw[.iA];obtain⟨k1,m,n,o⟩:=.XY LB R (f x .lT) .b;obtain⟨a,d,b,e,l,R2,i,p⟩:=.XY BH (all:=all) N _ k1 m (.aI x) (λy j=>f y<|.vR j) o<|.Au<|.gh 6+6*N.length;rw[.dq g ⟨a,d,b,e,.id n l,R2,?_,p⟩];rw[zAK]at i;lia
noncomputable abbrev RC0:.A:=[[],.cL,.NZ 83,.wL 32,.U9,.Un,.TS,.ql]
noncomputable abbrev RC1:.A:=[.me,.yo,.x0,.T2,.Sq,.W6,.Tq,.UC,.Vl]
noncomputable abbrev RC2:.A:=[.BS,.uQ 32,.TM,.Td,.XJ]
def N4:(∀r∈RC0,.zH)/\(∀r∈RC1,.zH)/\(∀r∈RC2,.zH)/\okR (.wL 10)=true:=.ac
def IM(os:∀x∈ss,.fZ)(s:.l):s∈gB ss↔InK ss ss.length s:=by
 rw[.eT (zY os ss.length (zBK _) s) zYv]
def N5(os:∀x∈ss,.fZ):0<.ad gB ss:=by
 have:(.ol λo=>o.getD 0)∈gB ss:=(IM os _).mpr ⟨zST ..,λx b=>by
  obtain⟨o,a,rfl⟩:=.ar b;rcases os o a with rfl|rfl|rfl
  ·rw[.fg]
  ·rw[.fg]
  ·rw[.b2],λi x _ e=>.u3 zBP⟩
 exact List.length_pos_of_mem this
section
variable{Z n:Nat}{M:Nat->Nat->Int}{bs:List Int}{ss:List (Option Int)}{bk sk:Nat}{h:Hd}
def LC(m:.iG sk)(n6:n<=6){td:D}(t:.AL):∃X k H,.NG jD/\.Go NR/\.vb/\.oY:=by
 rw[.j .lo];obtain⟨k0,b,V,q,_⟩:=xG m (.bf n6) t;refine s ?_;obtain⟨d,o⟩:∃d,(gB ss)[0]?=.a7:=by
  have:0<.ad gB ss:=N5 m.os;exact .Ar this
 have F:=(IM m.os d).mp<|zAT o;have v:d.length<=30:=by rw[F.len,m.ls];lia
 have T:atI .C8 (.mv 0)=.b0 bp d:=.oy o;have O:.ad sg d<=6:=by rw[qg,F.len,m.ls];exact n6
 have w:.gX (aq gn<|ae (.P4 .a1) am) [.aR,none,none,none] h=.nx [.aR,.aI<|sg d,none,none] (h++b):=aH<|ax (.lK<|.cI bq V rfl (aS q) T)<|BF F.op v _;obtain⟨t0,f⟩:=qq<|sg d;have i:32∉t0:=.p f acj
 have j:∀c∈t0,c<128:=by rw[f];exact(ND v).as
 rw[<-f]at w O;have N:∀H,NR H (.h<|.kD++t0):=λH=>NY (wd:=.qm) (L:=[t0]) .c (al1 i) (zW (al2 .c ⟨.b,j⟩)<|show 1<=10 by decide) rfl;have G:∀H,NR H (.h .JG):=λH=>by
  have:=NY (h:=H) (wd:=.ql) (L:=[t0,t0]) .c (al2 i i) (zW (λx a=>by
   rw[.o7 a]
   ·decide
   ·exact al2 (P:=λx:.g=>.RQ) ⟨.b,j⟩ ⟨.b,j⟩ x a)<|show 2<=10 by decide) rfl
  have e:.mZ [.ql,t0,t0]=.JG:=.k bD
  rw[e]at this;rw[.iz]
 have z:RI h NR (.Jp++.l5 .JG) (.gT h b) .aoA:=by
  refine⟨.Xz,zAP,λx a=>?_⟩;rw[.ec]
  ·rw[.ec]
   ·exact BG N4.1 x a
   ·rw[.df a];exact N _
  ·rw[.df a];exact G _
 have R:.gG (.acZ<|.ez .kD<|aa 1) (.ST none) (h++b)=.nx .OH (h++b++.cw .Jp) :=
  aH<|cF (.jI (.SK<|.jI<|.nN<|.RD<|.Qq 7) ) .f2
 have J:.acU .OH (h++b++.cw .Jp)=.nx .OH .aoA:=by
  refine .wM<|.Qo (cY (cY (.RD<|.Qq 5) rfl<|.sr<|.bt<|.Qq 5+1) rfl (by rw[zAK,zAK];show .bt<|.Qq 5+1+t0.length;lia)) .f2;rw[.nX]
 obtain⟨I,p,E,W⟩:=z.cat N1 (g:=[]) (σ:=.OH) (r:=.aa5)
  (xs:=RC1.map .str) rfl (.aE X1) (BG N4.2.1) .f2
 obtain⟨y,u,B,R2⟩:=W.cat N1 (g:=.cw [.h .es]) (σ:=.ST<|.t I) (r:=.acq)
  (xs:=RC2.map .str++[.non,.e 7,.dO,.d p.length,.E [.h .es],.h<|.wL 10]) rfl (.dv<|.jI<|.SK<|.jI<|ah (.q2 cF)<|.nP<|.q2 eB) (λx a=>by
   rw[.ec]
   ·exact BG N4.2.2.1 x a
   ·dsimp[z4,zYo,or_false]at a
    rcases a with rfl|rfl|rfl|rfl|rfl|rfl
    ·exact zZ .cB
    ·exact zZ .cB
    ·exact zZ .cB
    ·refine .inr .Hr
     have:(p++.dX [D.str .es]++g)[p.length]?=.x [.h .es]:=.Gl;dsimp[t6,this];rfl
    ·exact zZ .cB
    ·exact Um N4.2.2.2) .f2
 rw[.j .lo];obtain⟨C,S,A,c3,Q,U,Y,K⟩:=.XY BH (all:=LA.map .str) LA _ y u none (λ_ a=>a) R2 .f2;rw[.dq s ⟨C,S,A,.i (.kC [.aR,none,none,none] (sx w (sx R (sx J (sx E (sx B (sx (fQ (l:=LA.map .str) (g:=none) (h1:=u) ?_ Q) .kc))))))) cN,U,zBL .f2 Y,K⟩];rfl
end
end Fm
set_option maxHeartbeats 1000000
namespace Fm
open Fy
def aaA(p:.mo)(q:.m4):eT a pNo .abs σ h=.pk (.gP<|.sA 1):=by
 unfold eT;rw[p,aE];dsimp[pNo,pAt,aE,fC,Cp];rw[z3 q,yM .c,.f4 z3]
/---/def RX(n:Nat)(T:.ca)(bs:.l)(ss:.em)(c:String)(H:Hd)(x:D):Prop:=∀dk g,.eP (H++g)->Rfs dk x c (H++g)
section
variable{n:Nat}{T:List Tie}{bs:List Int}{ss:List (Option Int)}
def NR.rx(q:NR H x):.g8 RX "NoRow" H x:=λa g d=>(q.more g).rfs d
noncomputable abbrev Uq(t:.g):.A:=[.BS++t,.WK,.Sc,.iH++t++[32,48],.Sl,.VP++t++[32,49]]
noncomputable abbrev aaB(t:.g):.A:=[.jh++t++.Wt,.Us,.DH++t++[32,55],.Vc,.UM]
/---/def okP(n:Nat)(r:.g):Bool:=.Sg<|TD n r
def aaC:∀n<7,1<=n->(∀r∈Uq .wI,okP n r=true)/\(∀r∈aaB .wI,okP n r=true):=.ac
def Ur(e:okP n r=true):.g8 RX "NoPeople" H (.h r):=λa g d=>by
 unfold okP at e;dsimp[UE,zYn,vb]at e;exact .AP TN ⟨.bf<|e.1.2,e.2⟩ e.1.1
def Us:∀{n:Nat},n<10->tx .ek=.wI:=λ{n} h=>.a2 FV n<|nh h
end
section
variable{Z n:Nat}{M:Nat->Nat->Int}{bs bs':List Int}{ss:List (Option Int)}{bk sk:Nat}{h:Hd}{T:List Tie}
def Gb(m:.iG sk)(n6:n<=6)(d:.AL):∃X k H,.NG ip/\.afw "NoPeople"/\.vb/\.oY:=by
 have ok:=aaC n (zZp n6) m.n1;have p:.Th td:=.t5 d;have l:.gX (gg .Dz) (.rR .aR) h=.d5 [.aR,.aI .wI,none]:=by
  have:=.jp 1 (i6 (du<|cL (p (.rR .aR) h rfl)<|aS m.ba) (by rw[zST,m.lb];exact n60<|.bf n6));rw[zST,m.lb,Us .b]at this;rw[.iz]
 obtain⟨t,j⟩:=qq .wI;have lt:t.length=1:=.aE j
 rw[<-j]at ok l;have o:.acY [.aR,.aI t,none] h=.nx [.aR,.aI t,.aH] (.ga<|Uq t) :=
  aH<|cF (ah (.ab cY<|.jV lt)<|.jI<|ah .Jk<|.nN .Jk) .f2
 have c:=sM (a:=aa 2) (σ:=[.aR,.aI t,.aH]) (h:=.ga<|Uq t) (r:=.act)
  (xs:=.eh<|aaB t) rfl zAP (ah .Jk<|.dv<|ah .Jk .CU) .f2
 refine⟨.eh (Uq t)++.eh (aaB t),_,_,.i (.kC (.rR .aR)<|sx l<|sx o<|aV c) cN,.gi .Xz λx b=>?_,.f2,.f2⟩
 ·generalize .ho (.eh<|Uq t)=G
  simp
 ·rcases .f5 b with b|b
  ·obtain⟨r,f,rfl⟩:=.ar b
   exact λ_=>Ur (ok.1 r f)
  ·obtain⟨r,f,rfl⟩:=.ar b
   exact λ_=>Ur (ok.2 r f)
end
end Fm
set_option maxHeartbeats 1000000
namespace Fm
open Fy
def W7{G:Hd}(v:.dr 3 .ev=.b7 G.length .ev)(q:e σ .ev=.e0 .ev)(z:.oY):.DN e σ .ev=.c6 (.j2<|X++[d]):=by
 refine .wM<|lw v .CS q .CS<|.im z;rw[.nX]
variable{x:List Nat}
def dC(p:.bM=.ib x)(q:.jN=.ib y)(l1:.xv 10000)(l2:y.length<=10000):.ck a b σ h=.ib (x++y):=cY p q .b
section
variable{n:Nat}{T:List Tie}{bs:List Int}{ss:List (Option Int)}{s:List Int}{td:D}{G:Hd}
def W8(W:.rV)(F:.hA .dB)(l:.h4)(q:.By)(c:.sJ)(H:Hd):
  .C6 (.h<|.ux++x)/\.C6 (.h<|.MJ x)/\.C6 (.h<|.IB x):=by
 have a:=q.wo<|.bf c;refine⟨λb g d=>?_,λb g d=>?_,λb g d=>?_⟩
 ·exact XY (wd:=.ql) W d.hd .c .c .c a (q.th W)
 ·have:=XZ (wd:=.qm) (x:=x) (y:=sg s) W d.hd .c .c .c a (Ls l) (q.th W) .PQ rfl
  rwa[show .mZ [.qm,x,sg s]=.MJ x by simp[bD]]at this
 ·have:=XZ (wd:=.me) (x:=sg s) (y:=x) W d.hd .c .c .c (Ls l) a .PQ (q.th W) rfl
  rwa[show .mZ [.me,sg s,x]=.IB x by simp[bD]]at this
def Ut(n1:1<=n)(ls:.zL)(ln:n<=6)(a:.sJ)(z:.rY 3)(c d:.J):
  mX .ZX .ev=.nx .ZX (.aS G .adw):=by
 have lt:.m0<=6:=by rw[qg,ls];exact ln
 have t:(.ad2) .ZX .ev=.ok true .ev:=by
  rw[.aV x []]
  ·exact gj (.dD<|.MA<|y3 e) (aG<|.JE rfl<|uo (by rw[zST,ls];lia))
  ·exact mR (.dD<|.MA<|z5 e)
 refine .fG t<|sx (W7 rfl .YG .b)<|sx (W7 rfl (.RL (7+x.length) (.IO<|7+x.length+1) .b)<|.Au<|.gh 1)<|W7 rfl .afU (by dsimp[zAK];show .gh 1+1<=1000;lia)
theorem IN(W:.rV)(F:.hA .dB)(n1:1<=n)(ln:n<=6){all:.m}:∀(N:.A) (X:.m) (b c d:.J),(∀x∈N,.By/\.sJ)->(∀x∈X,.O5)->.rY (3*N.length)->
  ∃e g,.xI 4 mX (N.map .str) (.Js b) .ev=.nx (.Js g) (.j2 e)/\(∀x∈e,.O5)/\e.length=.gh (3*N.length)
 |[],X,b,c,d,_,A,z=>⟨X,b,.xZ,A,.f⟩
 |x::N,X,b,c,d,i,A,z=>by
  rw[xR]at z;obtain⟨m,h⟩:=i x .lT;have f:.h4:=.c5 F.len
  have o:=.Nc Ut n1 F.len ln h (X:=X) .b c d;obtain⟨e,g,k,l,j⟩:=IN W F n1 ln (all:=all) N .adw (.aI x) c d (λy a=>i y<|.vR a) (λy a H=>by
   have r:=W8 W F f m h H;rw[.ec]
   ·rw[.ec]
    ·rw[.ec]
     ·exact A y a H
     ·rw[.df a];exact r.1
    ·rw[.df a];exact r.2.1
   ·rw[.df a];exact r.2.2) .Up
  refine .g4 e g (.id o k) l;rw[j];dsimp[zAK,xR,wb];lia
def aaD(s:.l)(hi:.nw i)(v:Int):sg (s.set i v)=.KO i++.uX v++.LA:=by
 unfold sg;rw[zVu,List.set_eq_take_append_cons_drop,z3<|.p zST hi];simp
theorem BI{J:Nat}(W:.rV)(F:.hA .dB)(ls:.he)(ln:n<=6)(r:.Pc J)(C:G[J]?=.kx){all:.m}:∀(k i:Nat) (X:.m) (b c d:.J),i+k=n->(∀x∈X,.O5)->.rY k->
  ∃f m d',.xI 5 rk .ajg (.Js b) .ev=.nx [.aR,.bV,.qK,.jR,b,m,d'] (.j2 f)/\.agk .O5
 |0,i,X,b,c,d,_,A,z=>⟨X,c,d,.xZ,A,zBK _,zBK _⟩
 |k+1,i,X,b,c,d,e,A,z=>by
  have hi:i<n:=.b
  have B:.h4:=.c5 F.len
  obtain⟨o,t⟩:∃o,ss[i]?=.bb:=.Ar<|.p ls hi;have E:fAt .nC (aa 5) (.Dg d) .ev=.ok (bT o) .ev:=.ML r (aS<|.ag C)<|.oy t;rw[List.range'_succ,xI];cases o with
  |none =>
   rw[.j λ_ O=>?_];obtain⟨f,m,d',w,u,p,q⟩:=.ai5 (i+1) X b .aW d .b A .b;rw[.cX O ⟨f,m,d',.id (.e1<|aG<|.wS E) w,u,p,.b⟩]
  |some v =>
   have I:=F.st i v t;have U:.Hh:=F.op v<|zAT I;have S:.m0<=6:=by rw[qg,F.len];exact ln
   have M:tx (1-v)=.uX (1-v):=WY .b;have Q:.NK (1-v):=.im (show (1-v).natAbs<=1 by lia);have R:.aiM (.Dg d) .ev=.nx (.Dg<|.aI<|.uX<|1-v) .ev:=by
    rw[.wW (.jp 6<|i6 (aw (g:=lU) (a:=.aa) (b:=.rZ 5) (σ:=.Dg d) (h:=.ev) rfl (.s1<|.oy I) rfl) Q) M]
   have N:∀H,.C6 (.h<|.Q0 (1-v)++.LA):=λH V g L=>by
    rw[.eT (T7 W L.hd F B (i:=i) (z:=v) t hi) (show .mZ [.yo,sg<|s.set i<|1-v]=.Q0 (1-v)++.LA by rw[aaD s<|.p F.len hi];simp[bD])]
   have P:.s (.KO i)<=6:=.j9 zVo S;have lt2:.s .LA<=6:=.c5 zXj
   have K:=W7 (σ:=.Dg<|.aI<|.uX<|1 - v) (G:=G) (X:=X) (e:=.acy) rfl (dC (dC (dC rfl (ab9 (k:=i) rfl rfl .b) .c .b) rfl (.sr<|6 + _<=10000)<|show 1<=10000 by decide) (Wp (k:=i + 1) rfl .r1 .b) (.IO<|6 + _ + 1) .b) .b;obtain⟨f,m,d',w,u,p,q⟩:=.ai5 (i + 1) (X++.l5 (.Q0 (1 - v)++(sg s).drop (i + 1))) b .aW (.aI<|.uX<|1 - v) .b (λy l H=>by
    rcases .f5 l with l|l
    ·exact A y l H
    ·rw[.df l];exact N H)<|.Au<|.gh 1+k
   rw[zAK]at p q;have p:.gh 1<=f.length:=p;have q:f.length<=.gh 1+k:=q;exact⟨f,m,d',.id (.fG (aG<|.wS E)<|sx R K) w,u,.b,.b⟩
end
section
variable{Z n:Nat}{M:Nat->Nat->Int}{bs bs':List Int}{ss:List (Option Int)}{bk sk:Nat}{h:Hd}{T:List Tie}
def acm(n1:1<=n):NoS n []:=⟨⟨.c,λc a=>by cases a⟩,.c,.F<|.pc<|0≠n⟩
def BJ(a:.sJ)(cs:∀c∈x,.EV)(q:.ak6):.By/\.sJ:=⟨⟨⟨.b,λc b=>(cs c b).1⟩,λz=>(cs 32 z).2 rfl,q⟩,a⟩
def LD(a:c∈x)(ne:c≠48/\c≠49):okT x=false:=by
 cases e:okT x with
 |false=>rfl
 |true=>exact .B (FZ.mp e c a) .b
noncomputable abbrev W9(t:.g):.A:=[[],t++.aO,.Ww,.Ww++[50],.Ww++[120],[45]++t]
def Xa(n1:1<=n)(n6:n<=6)(ls:.zL):∀x∈.PJ,.By/\.sJ:=λx a=>by
 have lt:.m0=n:=.L qg ls
 have g:∀c∈sg s,.EV:=λc b=>.alH b
 have j:∀c∈.Os,.EV:=λc b=>g c<|zZv b;have f:.s .Os=n-1:=by rw[zZe,lt];lia
 have i:∀{y:.g} {d:Nat},(∀c∈y,.EV)->d<128/\d≠32->∀c∈y++[d],.EV:=λk l c b=>by
  rw[.nb b]
  ·exact k c z
  ·rw[.tc];exact l
 rw[.o7 a]
 ·rw[.o (acm n1) .c]
 rw[.o7 a]
 ·exact BJ (.V9<|n+1<=100) (i g .c) (.F<|.V9<|n+1≠n)
 rw[.o7 a]
 ·exact BJ (.c5 f) j (.F<|.c5 f)
 rw[.o7 a]
 ·exact .abu 50
 rw[.o7 a]
 ·exact .abu 120
 ·rw[.df a]
  exact BJ (.V9<|1 + n<=100) (λc b=>by
   rcases .bj b with rfl|b
   ·decide
   ·exact g c b) (.G<|LD (c:=45) .lT .c)
def Gc(m:.iG sk)(n6:n<=6)(W:(.AQ bs').Ok n)(d:.AL):∃X k H,.NG iq/\.afw "NoStand"/\.vb/\.oY:=by
 rw[.j .Px];obtain⟨S,v,y,c,_⟩:=xG m (.bf n6) d;have pos:=N5 m.os;obtain⟨P,s,w⟩:∃P s,gB ss=P++[s]:=⟨(gB ss).dropLast,(gB ss).getLast<|List.ne_nil_of_length_pos pos,(List.dropLast_concat_getLast _).symm⟩;refine p ?_;have F:.hA (.AQ bs'):=.ahV (by rw[w];exact xS.mpr<|.F .lT);have f:.h4:=.c5 F.len
 have E:atI .C8 (-1)=.bV:=by rw[w,zBQ];exact Ai
 rw[.j .Px];obtain⟨G,q⟩:=qq<|h++v;rw[<-q]at y c;have O:.gX (.P4 .Qj) (.Cn .aR) h=.nx (.Tu .bV) G:=aH<|.cI bq y rfl (aS c) E;have N:.gG (aq gn .nI) (.Tu .bV) G=.nx (.Db none) G:=.cI aH<|BF F.op f _;have J:.q8 3 (.Db none) G=.nx (.Db .jR) .HE:=.anp;have lt:.m0=n:=.L qg F.len
 obtain⟨b,r,I,A,z⟩:=.Nc IN W F m.n1 n6 (all:=.eh .PJ) .PJ [] none none none (Xa m.n1 n6 F.len) (λx i=>by cases i) .f2;have z:b.length=18:=z;have B:.Pc sk:=.t5 d;obtain⟨o,U,Q,t,C,R,V⟩:=.Nc BI W F m.ls n6 B (.ff q .PM) (all:=.e7<|.y6 j) n 0 b r none none (wm n) A .b;refine p ?_;rw[<-List.range_eq_range']at t;have l:.Mi (.Db .jR) .HE=.fi .Os .HE:=aaA rfl .b;have u:.s .Os<=10000:=.j9 zVo .b;have K:.acs (.Db .jR) .HE=.nB (.eh .PJ) .HE:=by
  show .eE _ _=_;rw[.dv (ah (.ab dC .b .c)<|ah l<|ah (dC l rfl u .c)<|bB (dC l rfl u .c) .YG) ,aE];rfl
 have L:cT .n6 .ajb (.j2 b)=.nB (.e7<|.y6 j) (.j2 b):=by
  refine .kN fq ?_ .b;rw[.w4 (du<|.u8 cL (σ:=.ajb) (h:=.j2 b) rfl (rfl:oU (.j2 b) (bp s)=.b0 s.map .int)) zST F.len];rw[.iz]
 refine⟨o,G.length,.j2 o,.i (.kC (.Tu none)<|sx O<|sx N<|sx J<|sx (fQ K I)<|sx (fQ L t) .kc) cN,⟨⟨.aS v o,.L q zBT⟩,zAP,λx i=>C x i⟩,.b,.b⟩
end
end Fm
set_option maxHeartbeats 1000000
namespace Fm
open Fy
def Uu(e:oEq x y h=.aY b):oNe x y h=.ma b:=by
 unfold oEq at e;unfold oNe;cases c:eqG h x y with
 |none=>rw[.bO]
 |some d=>rw[.bO];rfl
def PZ(op:∀x∈s,.Bf):Wd s:=λi=>by
 rw[zAO];cases e:s[i]? with
 |none=>rw[.fg]
 |some v=>exact op v (zAT e)
def Uv(p:.cC .aK)(q:.fy lo=.ok i c)(r:hi σ c=.ok j b)(s:.lm b):dY a lo hi σ h=.b7 b.length (.aS b .GD):=by
 dsimp[dY,p,aE,q,r,jL,s]
/---/def QX(n:Nat)(T:.ca)(bs:.l)(ss:.em)(x:D):Prop:=∃y j c,x=.E .GC/\.zG/\.E6/\∀H,.g8 RX c H y
def aaE{G g:Hd}(v:.dr 1 .l2=.b7 G.length .l2)(q:e σ .l2=.e0 .l2)(z:.oY):dR (.cA i7 e) σ .l2=.c6 (.IG<|X++[d]):=by
 refine .wM<|lw v eJ q eJ<|.im z;rw[FW]
section
variable{n:Nat}{T:List Tie}{bs:List Int}{ss:List (Option Int)}{td:D}{G:Hd}
def BK(f:∀dk H,.eP H->.ju r "NoWeb" H):.g8 QX (.yX r):=(.ahl "NoWeb")
def LG(f:∀dk H,.eP H->.ju r "NoPeople" H):.g8 QX (.Ft r):=(.ahl "NoPeople")
noncomputable abbrev xH:.m:=[.yX .GS,.E [.h .SF,.e 4],.yX .Hi,.yX .GO]
noncomputable abbrev Ge:.m:=[.yX .FC,.yX .Du,.Ft<|.m5 49,.Ft<|.m5 48]
def N7:∀x∈xH,.zA:=λx a=>by
 dsimp[z4,zYo,or_false]at a;rcases a with rfl|rfl|rfl|rfl
 ·exact .Ga (PK d)
 ·exact⟨_,_,"NoRow",rfl,.c,.c,λH=>NR.rx<|Um .ac⟩
 ·exact .Ga (PL d)
 ·exact .Ga (PM d)
def Xb(a:1<n):∀x∈Ge,.zA:=λx c=>by
 dsimp[z4,zYo,or_false]at c;rcases c with rfl|rfl|rfl|rfl
 ·exact .Ga (WU d a)
 ·exact .Ga (aaq d a)
 ·exact LG λb H d=>T5 d a
 ·exact LG λb H d=>T6 d
theorem Gf{C:Nat}(ls:.he)(ln:n<=6)(r:.ac6<|.ok .aJ g)(w:G[C]?=.kx){all:.m}:∀(k i:Nat) (X:.m) (a b c:.J),i+k=n->.ZR->.rY k->
  ∃f m,.xI 2 qw .ajg (.zj a) .ev=.nx (.zj m) (.j2 f)/\.agk .zA
 |0,i,X,a,b,c,_,A,z=>⟨X,a,.xZ,A,zBK _,zBK _⟩
 |k+1,i,X,a,b,c,e,A,z=>by
  have hi:i<n:=.b
  obtain⟨o,B⟩:∃o,ss[i]?=.bb:=.Ar<|.p ls hi;have F:fAt .nC (aa 2) (.zj .aW) .ev=.ok (bT o) .ev:=.ML r (aS<|.ag w)<|.oy B;have p:(tE (.gO (fAt (.hN .ba)<|aa 2) .a1)) (.zj .aW) .ev=.ok (.D<|o=.hI) .ev:=by
   refine aG (.cV F ?_);cases o with
   |none=>rfl
   |some v =>
    refine .il<|AS (i:=v) (j:=0);congr 2;exact .aad ⟨λz=>.bA z,λz=>zBS z⟩
  rw[List.range'_succ,xI]
  by_cases u:o=.hI
  ·rw[y3 u]at p
   have I:tx (i:Int)=[48 + i]:=Us .b;have J:=aaE (σ:=.zj .aW) (G:=G) (g:=[]) (X:=X) (e:=.ahM) (d:=.Ft<|.sb++[48 + i]) rfl (eB<|.nP<|dC rfl (.o9 (.qo<|n60<|show i<=30 by lia) I) .c<|show 1<=10000 by decide) .b;obtain⟨f,m,t,s,h,q⟩:=.akC (i + 1) (X++[.Ft<|.sb++[48 + i]]) .aW b c .b (λy l=>by
    rcases .f5 l with l|l
    ·exact A y l
    ·rw[.df l]
     exact LG λK H d=>WV d hi (by rw[zAO,B,u];rfl))<|.Au<|.gh 1+k
   rw[zAK]at h q;have h:.gh 1<=f.length:=h;have q:f.length<=.gh 1+k:=q;exact⟨f,m,.id (.fG p J) t,s,.b,.b⟩
  ·rw[z5 u]at p
   rw[.j λ_ E=>?_];obtain⟨f,m,t,s,h,q⟩:=.akC (i+1) X .aW b c .b A .b;rw[.cX E ⟨f,m,.id (.e1 p) t,s,h,.b⟩]
end
section
variable{Z n:Nat}{M:Nat->Nat->Int}{bs:List Int}{ss:List (Option Int)}{bk sk:Nat}{h:Hd}{T:List Tie}{td:D}
theorem Gg(o:.AL)(L:.li n)(W:.rV)(n6:n<=6){G:Hd}(m:.Cl sk G){all:.m}{kS:Nat}(lt:G.length<kS):∀(E:.dl) (X:.m) (g:Hd) (a b c:.J),(∀s∈E,.hA .dB)->.ZR->.rY (2*E.length)->(.l2)[kS]?=.x all->
  ∃k q p,dD (.a kS) all (gN 3) qv .PO (.zj a) .l2=.nx [.aR,.jR,a,q,p] (.IG k)/\(∀x∈k,.zA)/\X.length<=k.length/\.f3 k.length
 |[],X,g,a,b,c,_,A,z,i=>⟨X,b,c,.Xm<|z3 i,A,zBK _,.b⟩
 |s::E,X,g,a,b,c,C,A,z,i=>by
  rw[xR]at z;have F:=C s .lT;have l:.h4:=.c5 F.len
  have K:=aax (m.more<|.q X::g) L F.len<|PZ F.op;rw[<-o]at K;have r:(.aim) (.Le c) .l2=.ok (! .D (ke .dB n s=s)) .l2:=aG<|.cV (.CT bB K)<|Uu<|.aok _
  rw[.aV (ke .dB n s) s]
  ·rw[y3 e]at r
   rw[.j λ_ N=>?_];obtain⟨k,q,p,B,w,v,J⟩:=.ahw X c .aoW A .b i;rw[.cX N ⟨k,q,p,eK i rfl (.e1 r) B,w,v,J⟩]
  ·rw[z5 e]at r
   have R:.m0<=6:=by rw[qg,F.len];exact n6
   have P:.a3 4 (aq gn .pR) (.Le c) .l2=.nx (.Le .qK) .l2:=.cI aH<|BF F.op l _;have I:=.ah5 X (e:=.JR .SO) rfl (eB<|.nP<|.RL (7+.ad sg s) (.IO<|7+.m0+1) .b) .b;have u:=.ah5 (X++[.Ds .kD]) (e:=.JR<|.VH 4) rfl (eB<|.nP .afU)<|.Au<|.gh 1;have t:∀Y:.m,(.IG Y)[kS]?=.x all:=λY=>by
    rw[zAM<|zZj lt]at i⊢;obtain⟨j,Q⟩:∃j,kS-G.length=j+1:=⟨kS-G.length-1,.b⟩;rw[Q]at i⊢;exact i
   have q1:.g8 QX (.Ds .kD):=.ahm (by
    rw[.eT (BB W d.hd F l e .b5) (show .aax .qm=.MJ (sg s) by simp[bD])])
   have q2:.g8 QX (.Ds .yv):=.ahm (by
    rw[.eT (BB W d.hd F l e .g7) (show .aax .me=.IB (sg s) by simp[bD])])
   obtain⟨k,q,p,B,w,v,J⟩:=.ahw (X++[.Ds .kD]++[.Ds .yv]) .qK .aoW (λy f=>by
    rcases .f5 f with f|f
    ·rcases .f5 f with f|f
     ·exact A y f
     ·rw[.df f];exact q1
    ·rw[.df f];exact q2) .Up<|t _
   dsimp[zAK]at v;exact⟨k,q,p,eK i rfl (.fG r<|sx P<|sx I u) B,w,.b,J⟩
def Uw(m:.iG sk)(n6:n<=6)(L:.li n)(W:.rV)(f:.AL):∃X k H,.NG iI/\(∃g,H=h++g)/\H[k]?=.x X/\.ZR/\.vb/\.oY:=by
 have Q:.Th td:=.t5 f;have K:.Pc sk:=.t5 f;have A:.Dr (.dr 0 (h++g)=.ok td (h++g)->.vV .st σ (h++g)=.bU n (h++g)):=λσ g e=>by
  have:=du (cL (Q σ (h++g) e)<|aS<|bg g m.ba);rwa[zST,m.lb]at this
 have s1:.gX .adf (.nk none) h=.nx (.nk .aH) (.ah xH) :=
  aH<|cF .aef .f2
 obtain⟨G,l,q,V,O,l0,P⟩:∃(o:Hd) (l:.m),(∃g,o=h++g)/\.ac7 (.nk .aH) (.ah xH)=.nx (.nk<|.t o.length) (.aS o l)/\(∀x∈l,.zA)/\.h5 1/\.f1 8:=by
  by_cases c:1<n
  ·refine⟨h++[.q xH,.q Ge],xH++Ge,.K,?_,?_,.c,.c⟩
   ·refine .fG (.al0 uo) ?_
    have:=.jp 1 (.u8 sM (σ:=.nk .aH) (h:=.ah xH) (xs:=Ge) (r:=.acp) rfl zAP .aef .f2);refine this.trans ?_;have t:.Ge xH+1=.gT h [.eG xH,.eG Ge]:=.f
    have v:.ho xH++[.eG Ge,.eG<|xH++Ge]=h++[.eG xH,.eG Ge]++.dX (xH++Ge):=.f
    rw[t,v];rfl
   ·intro x p
    rcases .f5 p with p|p
    ·exact N7 x p
    ·exact Xb c x p
  ·exact⟨h,xH,⟨[],.bA X1⟩,.e1<|.al0 Fk,N7,.c,.c⟩
 obtain⟨o,q⟩:=q;have u:.Cl sk G:=by rw[q];exact m.more _
 rw[.j λ_ S=>?_];obtain⟨b,F,t,I,l1,J⟩:=.Nc Gf m.ls n6 K u.st (all:=.e7<|.y6 j) n 0 l none none none (wm n) O .b;rw[<-List.range_eq_range']at t;obtain⟨k2,d,q2,w,_⟩:=xG (u.more [.q b]) (.bf n6) f;refine S ?_;have B:.an6 [.aR,.jR,F,none,none] (.j2 b)=.ok (.ref<|.s .Fa) (.Fa++.dX (cut (.bD gB ss bp) none<|.a 9)):=.cI Uv q2 rfl rfl w;have U:cut .C8 none (.a 9)=.tF:=by
  have:sIx .Hs .Hs (.a 9)=min 9 .Hs:=rfl;unfold cut;rw[this,.d2<|sIx .Hs 0 none=0,List.drop_zero,Nat.sub_zero,zUr];rcases .OQ 9 .Hs with z|z
  ·rw[.Nd z]
  ·rw[.WM,zYv,zZl z]
 rw[U]at B;have C:.Fa++.dX .tF=.amS:=.f
 have Y:(.amS)[(.s .Fa)]?=.x .tF:=.ay C zAP
 obtain⟨E,b2,c2,v,N,l2,y⟩:=Gg f L W n6 u (all:=.tF) (kS:=.s .Fa) .f .ZU b (.aS d .tF) F none none (λs R=>.ahV<|zZv R) I (by
  have:.s .ZU<=9:=List.length_take_le _ _
  lia) Y
 refine⟨E,G.length,G ++ .q E :: (.aS d .tF),.i (.kC (.nk none)<|sx s1<|sx V<|sx (fQ (.kN fq (by
  have:=A (.nk .jR) (.aS o l) rfl;rw[<-zBT,<-q]at this;rw[.iz]) .b) t)<|sx (fQ (dM B zAP)<|.p C v) .kc) cN,.cn<|.L q zBT,eJ,N,.b,y⟩
end
end Fm
set_option maxHeartbeats 1000000
namespace Fm
open Fy
def P0:(.j8 d/\.At (h++g)=.hH)\/(pure? d=false/\.At (h++g)=.e0 (h++g)):=by
 cases e:pure? d with
 |true=>rw[.O (.co<|dJ e)]
 |false=>rw[.P (.co<|w6 e)]
def NR.any(q:NR H y)(p:.j8 y):NR h y:=by
 rcases q with q|q
 ·rw[.O q]
 ·have q:=q []
  refine .inr .Hr;cases y<;>first|exact q|(cases p;done)|cases q
def Gh(l:.vb)(i:Int):∃y∈X,.TP i:=by
 have c:0<=.YQ:=zWn _ .b;have d:.YQ<.kY X.length:=zXl _ .b;obtain⟨k,b⟩:∃k:Nat,.YQ=.kY k:=.cn<|.alO c;have a:k<X.length:=.b
 rw[b];exact⟨X[k],zYp a,dW<|zAN a⟩
section
variable{Z n:Nat}{M:Nat->Nat->Int}{bs:List Int}{ss:List (Option Int)}{bk sk:Nat}{h:Hd}{T:List Tie}{td:D}
def N8(a:.dr 4 H=.b7 k H)(d:.dr 3 H=.bU i H)(b:H[k]?=.x X)(l:.vb)(c:.TP i):.KQ σ H=.ok y H :=
 bq a (aw d (du<|cL a<|aS b)<|fj .b) (aS b) c
def LH(m:.iG sk)(n6:n<=6)(L:.li n)(W:.rV)(s:.AL)(cell:Int):.ab2:=by
 rw[.j .kb];obtain⟨a,O⟩:=qq<|cell%4;obtain⟨b,S⟩:=qq<|cell/4;refine o ?_;have x:.gG (.h0 dU .nH) (.nk .mB) h=.d5 .akH:=by rw[O];exact aH<|.ia .oK
 have w:.jl (.h0 lV .nH) .akH h=.d5 .PS:=by rw[S];exact aH<|.ia .I7
 have fin:∀{y:D} {j:Int} {H:Hd} {c:String},(∃g,H=h++g)->iJ [td,.e cell] h=.j6 (.nm .GC H)->.zG->.E6->.g8 RX c H y->(.j8 y->.g8 RX c h y)->.ab2:=λ{y j H c} ⟨g,e⟩ q B C Q P=>by
  subst e;rcases P0 (h:=h) (g:=g) (d:=.E .GC) with ⟨p,z⟩|⟨p,z⟩
  ·refine⟨y,j,c,[],.DZ<|q.trans z,B,C,?_⟩
   rw[X1];exact P (by simpa[pure?,i8] using p)
  ·exact⟨y,j,c,g,q.trans z,B,C,Q⟩
 by_cases N:a=3
 ·rw[.j .kb];obtain⟨X,k,H,q,I,J,A,f,G⟩:=Uw m n6 L W s
  obtain⟨y,i,e⟩:=Gh f b;obtain⟨Y,j,c,rfl,B,C,r⟩:=A y i;rw[.da o (fin I ((.Pv<|jw<|.fG (.dD<|rc N)<|sx (.cI aH q)<|aV<|.ab N8 J f e) ) B C (r _) λ_=>r _)]
 ·have u:.dW (.fd 2 .l1) (.lC (.cs iI)<|bf .KQ) aX .PS h=.d5 .PS:=.e1<|.dD<|re N
  have v:a=0\/a=1\/a=2:=.b
  have E:∀{F:Fn} {d:D} {H:Hd},(a=0/\F=jD\/a=1/\F=ip\/a=2/\F=iq)->F [td] h=.e0 H->.a3 4 .aks .PS h=.nx (.R4 .a7) H:=λU q=>by
   refine aH ?_;unfold Fi;rw[.d2<|aa 2 [.aR,.a<|.fu cell,.a<|.fu a,.a<|.fu b,none] h=.ao a,aE];rcases U with ⟨rfl,rfl⟩|⟨rfl,rfl⟩|⟨rfl,rfl⟩
   ·exact .jc q
   ·exact .jc q
   ·exact .jc q
  have K:∀{k:Nat} {H:Hd} {X:.m} {y:D} {j:Int},H[k]?=.x X->.vb->.TP b->(a=0/\j=4\/a=1/\j=3\/a=2/\j=0)->.acE (.R4 .bZ) H=.rt (.E .GC) H:=λJ l e V=>by
   refine aV (eB (bB (.ab N8 J l e) ?_));rcases V with ⟨rfl,rfl⟩|⟨rfl,rfl⟩|⟨rfl,rfl⟩<;>rfl
  rcases v with t|t|t
  ·rw[.aaL .kb (LC m n6 s)]
   obtain⟨y,i,e⟩:=Gh f b;rw[.cv o (.Yv "NoRow" (.Pv<|sx u<|sx (E .PW q)<|K R.at_ f e .PW) .c .c (.AK).rx λp=>((.AK).any p).rx)]
  ·rw[.aaL .kb (Gb (T:=T) (bs':=bs) m n6 s)]
   obtain⟨y,i,e⟩:=Gh f b;rw[.cv o (.Yv "NoPeople" (.Pv<|sx u<|sx (E (.F .PW) q)<|K R.at_ f e<|.F .PW) .c .c (.AK _) λp=>.AK _)]
  ·rw[.aaL .kb (Gc (T:=T) (bs':=bs) m n6 W s)]
   obtain⟨y,i,e⟩:=Gh f b;rw[.cv o (.Yv "NoStand" (.Pv<|sx u<|sx (E (.fp .pN) q)<|K R.at_ f e<|.fp .pN) .c .c (.AK _) λp=>.AK _)]
end
end Fm
set_option maxHeartbeats 1000000
namespace Fm
open Fy
structure Bd(l:List Nat):Prop where
 p:gu l=none
 t:∀n,nY n l=none
 b:nX l=none
 s:iB l=none
variable{l:List Nat}
def X9(h1:∀wd x,wd=cz\/wd=Bm->nu wd l≠.aF)(f:∀a b c:Int,.ky≠.Bx)(d:iB l=none):Bd l:=by
 have o:∀wd,wd=cz\/wd=Bm->nu wd l=none:=λwd q=>by
  cases e:nu wd l with
  |none=>rfl
  |some x=>exact .B e (h1 wd x q)
 refine⟨by unfold gu;rw[o _ .b5],λn=>?_,o _ .g7,d⟩;unfold nY;split
 ·rename_i a b c e
  exact .B e (f a b c)
 ·rfl
def N9(q:wd=cz\/wd=Bm)(e:nu wd l=.aF):.ake:=(Z9 (by rcases q with rfl|rfl<;>decide) x).mp<|iY.mp e
def Ux(e:.ky=.Bx):∃k g d,l=jY++32::(k++32::(g++32::d))/\sn d=.a8:=by
 unfold nb at e;have j:=join_split 32 l;cases m:.iF l with
 |nil=>rw[.bd m]
 |cons o r =>
  rw[m]at e j;dsimp only at e;split at e
  ·rename_i h
   obtain⟨rfl,f⟩:=h
   match r,e,f with
   |[k,g,d],e,f =>
    refine .g4 k g d (by rw[<-j];simp[bD]);have:=f d .f;obtain⟨i,n⟩:=.qj this;injection e with _ e
    injection e with _ e
    injection e with e _
    have e:.x9 d=c:=e;rw[n]at e⊢;rw[<-e];rfl
  ·cases e
def IP(h:iB l≠none):l=.cc\/l=.xi 48\/l=.xi 49:=by
 unfold iB lI CM at h
 by_cases a:l=.cc
 ·rw[.O a]
 by_cases b:l=.xi 48
 ·exact .i9 b
 by_cases c:l=.xi 49
 ·exact .fp c
 exfalso
 apply h;simp[List.lookup,.g6 a,.g6 b,.g6 c]
def z6(h:∀c r,l=c::r->c≠112/\c≠116/\c≠98/\c≠102/\c≠115):Bd l:=by
 refine .afL
 ·obtain⟨w,e,_⟩:=N9 q e
  rcases q with rfl|rfl
  ·exact(h _ _ e).1 rfl
  ·exact(h _ _ e).2.2.1 rfl
 ·obtain⟨d,g,i,e,_⟩:=Ux e
  exact(h _ _ e).2.1 rfl
 ·cases e:iB l with
  |none=>rfl
  |some o =>
   rcases IP .tb with z|z|z
   ·exact .bg (h _ _ z).2.2.2.1
   ·exact .bg (.nK<|h _ _ z)
   ·exact .bg (.nK<|h _ _ z)
def acn(e:sn w=.fH):w≠[]:=λz=>by subst z;exact .lf<|.lr (show sn []=none by decide) e
def IQ(e:y++.cL=a++w)(q:sn w=.fH):False:=by
 have ne:=acn q;have l:(a++w).getLast? = .a 32:=.iW e
 rw[List.getLast?_append,List.getLast?_eq_some_getLast ne,Option.some_or]at l;rw[.hS (List.getLast_mem ne) (zBS l)];exact No q this
def aaF(y:.g):Bd (y++.cL):=by
 refine .afL
 ·obtain⟨w,e,z⟩:=N9 q e
  exact IQ (a:=f++.cL) .tb z
 ·obtain⟨d,g,h,e,z⟩:=Ux e
  exact IQ (a:=jY++32::(d++32::(g++.cL))) .tb z
 ·cases e:iB (y++.cL) with
  |none=>rfl
  |some o =>
   have l:(y++.cL).getLast? = .a 32:=.f
   rcases IP .tb with z|z|z
   ·rw[z]at l;exact .nT l
   ·rw[z]at l;exact .nT l
   ·rw[z]at l;exact .nT l
def aco:Bd .Bi:=by
 have e:nb cz .Bi=[31]:=.ac
 refine⟨by unfold gu nu;rw[.eV e],λn=>?_,.ac,.c⟩;unfold nY;rw[show nb jY .Bi=[] by decide +kernel]
def aaG:Bd .GR:=by
 refine⟨.ac,λn=>?_,.ac,.c⟩;unfold nY;rw[show nb jY .GR=[5,5,1] by decide +kernel];exact .n0
/---/def BdT(Q:.A):Prop:=Q=[]\/∃l r,Q=l::r/\Bd l
theorem sP{g:α->.g}{Q:.A}(b:Q=[]\/∃l r,Q=l::r/\f l=none):∀{A acc:.bY} {m:Nat},A.length<m->.amQ->i0 f m acc (A.map g++Q)=(false,acc++A)
 |[],acc,m+1,_,_=>by
  rw[zZu,zZo,X1];rcases b with rfl|⟨l,r,rfl,e⟩
  ·rfl
  ·rw[i0,e]
 |a::A,acc,m+1,z,h=>by
  rw[xI,zYb,i0,h a .f];rw[.gR (sP b (Nat.lt_of_succ_lt_succ z) λx c=>h x .w6)];simp
theorem Ej(a:n<=30){l:.g}(i:isT l)(no:nY n l=none):.akd<|kg n acc (.m7++l::r)=(false,acc++T,l::r)
 |[],acc,_=>by rw[zZu,zZo,X1,kg,z3 i,no]
 |t::T,acc,h=>by
  obtain⟨b,c⟩:=Iv a<|h.ok t .f;rw[xI,zYb,kg,z3 c,b];rw[.gR (z3<|Tk λs d=>.Zu h.up d t .f)];have:=Ej a (r:=r) i no (T:=T) (acc:=.xa) (.X0 zBT);rw[.a9];simp[zBT]
section
variable{n:Nat}(hn1:1<=n)(hn:n<=30){T:List Tie}(rt:RT n T){bs:List Int}{ss:List (Option Int)}(lb:bs.length=n)(ls:ss.length=n)(os:∀x∈ss,x=none\/x=some 0\/x=some 1)(bb:∀b∈bs,b.natAbs<10^60)
include hn1 hn
def z7:gu .mC=.e8:=by
 have:nu cz .mC=.a .ek:=.IL .rO;unfold gu;rw[.a9];show .aeG;rw[.kM];rfl
include rt
def Uy{Q:.A}(q:BdT Q):rdG (.HI Q)=.bad .d0:=by
 rw[rdG,.n4 z7];simp only;have c:∀{R:.A},R=Q->(∀l r,R=l :: r->¬isT l)->(match kg n [] (.m7++R) with
   |(false,T,_)=>RR.bad .d0
   |(true,T,d)=>match .p3 nX d with
    |(false,bs)=>.NT bs.length
    |(true,bs)=>match .p3 iB (d.drop n) with
     |(false,ss)=>.am2
     |(true,ss)=>.aoP d.length)=.bad .d0:=λ{R} e j=>by
  rw[sL hn j (T:=T) (acc:=[]) rt];simp only;rw[.w4 (sP (f:=nX) (g:=gr) (Q:=R) (A:=[]) (acc:=[]) (m:=n) (by rw[e];exact q.imp id λk=>by obtain⟨l,r,e,b⟩:=k;rw[.al l r e b.b]) hn1 λa h=>.Pn) zZu zZo];rw[.a9];rfl
 rcases q with rfl|⟨l,r,rfl,b⟩
 ·exact c rfl λl r e=>.Av
 ·by_cases i:isT l
  ·rw[Ej hn i (b.t n) (T:=T) (acc:=[]) rt]
   rfl
  ·exact c rfl λp o e=>by injection e with e _;rw[.hr e i]
include lb bb
def Oa:∀b∈bs,nX (gr b)=.cu:=λb c=>.IL<|bb b c
def BM{bs':.l}(ne:1<=bs'.length):kg n [] (.m7++.Zm)=(true,T,.Zm):=by
 have:=.kN sL hn (R:=.Zm) (λl r e=>by
  cases bs' with
  |nil=>cases ne
  |cons b bs' =>
   rw[.aaT xI zYb]
   rw[<-e];intro z;have:.jC gr b 4=.iH:=rfl;unfold isT at z;rw[.fh this]) (T:=T) (acc:=[]) rt
 rwa[zZo]at this
def Uz(q:BdT Q)(f:1<=j)(c:j<n):rdG (.HI<|.bD bs.take j gr++Q)=.NT j:=by
 have a:.ad bs.take j=j:=.c5 zZe
 rw[rdG,.n4 z7];rw[.gR (.mO BM<|.p a f)];rw[.gR (sP (q.imp id λg=>by obtain⟨l,r,e,b⟩:=g;rw[.al l r e b.b]) (.p a c) λb d=>.mO Oa b<|zZv d)];dsimp[zZo,a]
def IR(R:.A):.p3 nX (.l9++R)=(true,bs):=by
 have a:=.aiJ R<|.mO Oa;rwa[lb,zZo]at a
def El(R:.A):(.l9++R).drop n=R:=by
 have:n=.ad bs.map gr:=.L zST lb
 rw[this,List.drop_left]
include ls os
def P1(q:BdT Q)(c:k<n):rdG (.HI<|.l9++(.Eo k++Q))=.bad (.d0+n+k):=by
 have a:.ad ss.take k=k:=.c5 zZe
 rw[rdG,.n4 z7];rw[.gR (.mO BM .b)];rw[.gR (.mO IR)];simp only;rw[.mO El,sP (q.imp id λf=>by obtain⟨l,r,e,b⟩:=f;rw[.al l r e b.s]) (.p a c) λo d=>Lh<|os o<|zZv d];dsimp[zZo,a]
def Xc(l:.g):rdG (.kA++[l])=.bad .Fd:=by
 have e:.kA++[l]=.HI (.l9++(.wV++[l])):=.k bM
 have a:=.aiD [l] λo b=>Lh<|os o b;rw[ls,zZo]at a;rw[e,rdG,.n4 z7];rw[.gR (.mO BM .b)];rw[.gR (.mO IR)];simp only;rw[.mO El,a];rw[.gR (z3 (by dsimp[zAK,zST,xR,wb];lia))];congr 1;dsimp[bM,xR,zAK,zST];lia
def aaH(q:BdT Q)(g:a<.Fd):rdG ((.kA).take a++Q)=.bad a:=by
 have h:.Fd=.d0+n+n:=.ajP
 rw[h]at g;cases a with
 |zero =>
  rw[zVp,zZo];rcases q with rfl|⟨l,r,rfl,b⟩
  ·rfl
  ·rw[rdG,b.p]
 |succ i =>
  unfold bM;rw[List.take_succ_cons,zYb]
  by_cases f:i<=T.length
  ·have e:(.m7++.rl).take i=.dg .lu iM:=.L (List.take_append_of_le_length<|.p zST f) zUr
   have c:RT n .lu:=⟨rt.up.sublist .am5,λt o=>rt.ok t<|zZv o⟩;have:=.n4 Uy c q;rw[e,this,zZe,.Nd f];congr 1;lia
  ·obtain⟨j,rfl⟩:∃j,i=T.length+j:=⟨i-T.length,.b⟩
   have e:(.m7++.rl).take (T.length+j)=.m7++(.rl).take j:=by
    rw[List.take_append,zST,Nat.add_sub_cancel_left,.se zZl]
   by_cases m:j<n
   ·have d:(.rl).take j=.bD bs.take j gr:=.L (.se List.take_append_of_le_length) zUr
    have:=.mO Uz q (j:=j) .b m;rw[e,d,zBT,this];congr 1;lia
   ·obtain⟨k,rfl⟩:∃k,j=n+k:=⟨j-n,.b⟩
    have d:(.rl).take (n+k)=.l9++.Eo k:=by
     rw[List.take_append,zST,lb,Nat.add_sub_cancel_left,.se zZl,zUr]
    have:=.n4 P1 rt lb ls os bb q (k:=k) .b;rw[e,d,zBT,zBT,this];congr 1;lia
end
end Fm
set_option maxHeartbeats 1000000
namespace Fm
open Fy
def UA(h:∀l∈M,.f1 k):.s (.ep M)<=k*M.length+M.length:=zBL sK<|zWq (sI h) _
def UB(p:.cC .g3)(b:∀x∈L,.xv 300)(l:.yU 200):lu [10] a σ h=.pk (.ep L):=by
 have s:=sI b;unfold lu;rw[p,aE,sH];rw[.gR z3];dsimp[xR,wb]
 lia
def acp{n k:Nat}(p:.aU a=.ok .aK H)(q:.lm H)(r:.aU j=.bU k H):dY a pNo (pAt j) σ H=.b7 H.length (.aS H<|.gP k):=by
 have e:cut l none (.a (k:Int))=.gP k:=by
  unfold cut sIx;simp only;rw[.n0,zYc,List.drop_zero,Nat.sub_zero];rcases .OQ k l.length with z|z
  ·rw[.Nd z]
  ·rw[.WM,zYv,zZl z]
 rw[.fO];dsimp[pNo,pAt,aE,r,jL,q,e]
def skp(ne:way≠i)(v:.dr 4 H=.bU way H):.rr (.W i) b aX σ H=.c6 H:=.e1<|aG<|.cV v<|re ne
def hit(e:way=i)(v:.dr 4 H=.bU way H):.rr (.W i) b aX σ H=.aU b:=i4<|aG<|.cV v<|rc e
structure aaI(LS:List (List Nat)):Prop where
 l1:1<=LS.length
 l2:LS.length<=100
 gd:∀l∈LS,G l
 fr:∀l∈LS,10∉l
 cut:∀{Q:List (List Nat)},BdT Q->∀{a:Nat},a<LS.length->rdG (LS.take a++Q)=.bad a
 long:∀l,rdG (LS++[l])=.bad LS.length
 hd:∀l∈LS,∃c r,l=c::r/\(c=112\/c=116\/c=98\/c=102\/c=115)
def aaJ(e:up1 c=10):c=10:=by
 unfold up1 at e;split at e<;>lia
def aaK(h:c<128):up1 c<128:=by
 unfold up1;split<;>lia
structure BN(h:Hd)(L:List (List Nat))(k:Nat)(H:Hd):Prop where
 pre:∃g,H=h++g
 at_:H[k]?=some (.lst (L.map .str))
 ok:∀l∈L,l.length<=300/\(∀c∈l,c<128)/\10∉l
 len:L.length<=200
def BN.tx(E:.Pa):Tx (.ep L):=⟨by
 have:=UA λl b=>(E.ok l b).1;have:=E.len
 lia,λc a=>by
 rcases px a with e|⟨x,d,a⟩
 ·rw[.eV e]
 ·exact(E.ok x d).2.1 c a⟩
def BN.sp(E:.Pa)(ne:L≠[]):.O2 L=L:=jv ne λp a=>(E.ok p a).2.2
section
variable{LS:List (List Nat)}(K:aaI LS){h:Hd}{cell:Int}
include K
def Gi(f:.f1 300/\.YV/\10∉l)(b:Bd l)(d:a<LS.length)(h:Hd):.aeF/\.le (.ep .ZY)=.bad a:=by
 have E:.aeF:=⟨.K,zAP,λx g=>by
  rcases zVw g with z|z
  ·exact⟨.bf<|(K.gd x z).1,(K.gd x z).2,K.fr x z⟩
  ·rw[.ap z f],by rw[zZn];exact .bf K.l2⟩
 rw[.fQ E];rw[E.sp (by intro z;have e:=.uk z;rw[zZn]at e;have k:=K.l1;rw[e]at k;exact .nT k),List.set_eq_take_append_cons_drop,z3 d];exact K.cut (.F<|.mh l _ b) d
def LI(h:Hd)(cell:Int):.adj (.ep LS):=by
 have E0:BN h LS h.length .b6:=⟨.K,zAP,λx d=>⟨.bf<|(K.gd x d).1,(K.gd x d).2,K.fr x d⟩,.bf K.l2⟩;have ne:LS≠[]:=by intro z;have:=K.l1;rw[z]at this;cases this
 have U:=E0.sp ne;obtain⟨X,hX⟩:=qq<|.ep LS;have tX:=E0.tx;rw[<-hX]at U tX⊢;obtain⟨a,w,ea⟩:∃a:Nat,a<LS.length/\.Lm=.kY a:=by
  have h0:0<=.Lm:=zWn _ .Xd;have h1:.Lm<.Mc:=zXl _ .Xd;exact⟨.gW .Lm,.b,.alO h0⟩
 obtain⟨b,hw⟩:=qq<|cell/40%5;have P:.pe (ou 10<|aa 0) (.Dv none) h=.nx (.Dv .aH) .b6:=by
  rw[.wW (.jp 2<|cF (.ahN (.Dv none)<|.bf tX.ln) (by rw[U,zST];exact .bf K.l2)) U]
 have I:∀σ:Sd,.dr 2 .b6=.iX .b6->.FG σ .b6=.bU .Mc .b6:=λσ v=>by
  rw[.eT (du<|cL v<|aS E0.at_) zST]
 have J:.jl (.h0 dU .FG) (.Dv .aH) .b6=.nx .ajj .b6:=by
  rw[.hr ea (aH<|.nc (.md I)<|fj .Xd)]
 have F:.a3 4 (.aal 40<|.W 5) .ajj .b6=.nx (.Ry none) .b6:=by
  rw[hw];exact aH .DJ
 obtain⟨f,n⟩:=qq (.Q b 3 (a+1) a:Nat)
 have w5:b=0\/b=1\/b=2\/b=3\/b=4:=.b
 have M:.acQ (.Ry none) .b6=.nx (.ps f) .b6:=by
  refine aH (yz (i:=b) (.dv<|.jI<|.nP .r1) rfl ?_);rcases w5 with e|e|e|e|e<;>subst e<;>rw[n]<;>rfl
 have fin:∀{L:.A} {k:Nat} {H:Hd} (ln:Nat),.Pa->.alF [.kG,.mB,.bZ,.fk a,.mj,.fk ln] H=.rt (.E [.h<|.ep L,.fw ln]) H:=λ{L k H} ln E=>aV<|eB<|.nP<|UB (.mI E.at_) (λx d=>(E.ok x d).1) E.len;have O:∀{L:.A} {k:Nat} {H:Hd} {ln:Nat} {o:Out},.Pa->.le (.ep L)=.bad ln->iK [.h X,.e cell] h=.j6 (.nm [.h<|.ep L,.fw ln] H)->.adj X:=λ{L k H ln o} E q e=>by
  obtain⟨g,rfl⟩:=E.pre;exact⟨_,ln,.ir<|dJ rfl,E.tx,q⟩
 have T:∃l,LS[a]?=.eC:=.Ar w;obtain⟨l,hl⟩:=T;have R:=zAT hl;have p:∀σ:Sd,.dr 2 .b6=.iX .b6->.dr 3 .b6=.bU (a:Nat) .b6->.B9 σ .b6=.fi l .b6:=λσ v2 v3=>bq v2 v3 (aS E0.at_)<|.oy hl;have t:∀{e:EF} {y:.g},e (.ps f) .b6=.fi y .b6->.Nb e (.ps f) .b6=.nx (.ps f) (.ga<|LS.set a y):=λ{e y} q=>by
  refine .il<|ul (k:=a) q rfl rfl E0.at_<|.bJ ixN w;rw[.nX,<-List.map_set]
 have A:=K.gd l R;have V:=K.fr l R;rcases w5 with e|e|e|e|e
 ·have B:a=f:=.u3 n
  subst B;obtain⟨v,hv⟩:=qq<|cell/200%4;have v4:v=0\/v=1\/v=2\/v=3:=.b
  obtain⟨y,C⟩:=qq (.Q v 0 (l++.cL) (.Q v 1 (.cL++l)<|.Q v 2 (.b8 up1) []):.g)
  have q:.ac4 (.ps a) .b6=.fi y .b6:=by
   have u:fUp .B9 (.ps a) .b6=.fi (l.map up1) .b6:=by
    unfold fUp;rw[.md p rfl,aE];exact z3 ⟨.bf<|A.1,A.2⟩
   have N:=A.1;refine yz (i:=v) (ah (dC (.md p rfl) rfl .b .c)<|ah (dC rfl (.md p rfl) .c .b)<|.nP u) (.ff hv .DJ) ?_;rcases v4 with z|z|z|z<;>subst z<;>rw[C]<;>rfl
  have hb:(y.length<=300/\(∀c∈y,c<128)/\10∉y)/\Bd y:=by
   have N:=A.1;rcases v4 with z|z|z|z
   ·have s:y=l++.cL:=.zq C
    rw[s];rw[.o ⟨.sr<|l.length + 1<=300,λc m=>by
     rw[.nb m]
     ·exact A.2 c z
     ·rw[.eV .tc],λm=>by
     rw[.nb m]
     ·exact V z
     ·exact .nT .tc⟩ (aaF l)]
   ·have s:y=.cL++l:=.zq C
    rw[s];rw[.o ⟨.sr<|1 + l.length<=300,λc m=>by
     rw[.nb m]
     ·rw[.eV .tc]
     ·exact A.2 c z,λm=>by
     rw[.nb m]
     ·exact .nT .tc
     ·exact V z⟩ (.Qf (by injection e with e _;rw[<-e];decide))]
   ·have s:y=.b8 up1:=.zq C
    rw[s];rw[.bN ⟨.c5 zST,λc m=>?_,λm=>?_⟩ (.Qf ?_)]
    ·obtain⟨x,d,rfl⟩:=.ar m
     exact aaK (A.2 x d)
    ·obtain⟨x,d,e⟩:=.ar m
     rw[.od (aaJ e) (V d)]
    ·obtain⟨c0,r0,Z,S⟩:=K.hd l R
     rw[.aaT Z xI]
     rw[<-e];rcases S with rfl|rfl|rfl|rfl|rfl<;>decide
   ·have s:y=[]:=.zq C
    rw[s];rw[.o .c (.Qf .Av)]
  obtain⟨E,r⟩:=Gi K hb.1 hb.2 w h;rw[.eB .DY (.CV<|.DA (t q)<|.kB<|.kB<|.Ci .Hq)]
 ·have B:a=f:=.u3 n
  subst B;obtain⟨E,r⟩:=Gi K (l:=.GR) .c aaG w h;rw[.eB .DY (.CV<|.kB<|.DA (t rfl)<|.kB<|.Ci .Hq)]
 ·have B:a=f:=.u3 n
  subst B;have E:BN h (LS.take a) .Ke .akw:=⟨.Xz,zAP,λx d=>E0.ok x<|zZv d,by rw[zZe];have:=K.l2;lia⟩;have r:.le (.ep<|LS.take a)=.bad a:=by
   cases a with
   |zero=>rw[zVp];exact K.cut (Q:=[[]]) (.F<|.mh [] []<|.Qf .Av) (a:=0) w
   |succ i =>
    rw[E.sp (by intro z;rw[.w4 (.uk z) zZe wb];lia)];rw[.eT (K.cut (Q:=[]) .b5 w) X1]
  refine .DY;have sl:.aku (.ps a) .b6=.nx [.kG,.mB,.a<|.ref .Ke,.fk a,.mj,.fk a] .akw:=by
   have:=.jp 2 (acp (a:=aa 2) (j:=aa 3) (k:=a) (σ:=.ps a) rfl E0.at_ rfl);rw[<-List.map_take]at this;rw[.iz]
  exact .CV (.kB<|.kB<|.DA sl<|.Ci .Hq)
 ·have z:.ad LS.map D.str+.s [D.str .cc]<=SZ:=.zZ<|.bf<|zWq K.l2 1
  have c:=.jp 2<|sM (a:=aa 2) (r:=.it .cc) (xs:=.l5 .cc) (σ:=.ps f) rfl E0.at_ rfl z;obtain⟨H,W⟩:=.iC<|.b6++[.q [.h .cc],.hM .Qb [.h .cc]];have E:BN h (LS++[.cc]) (.Ke + 1) H:=⟨.cn<|.L W zBT,by
   rw[W,zBQ];generalize .ho .Qb=G;simp,λx d=>by
   rw[.nb d]
   ·exact E0.ok x z
   ·rw[.eV .tc],by rw[zAK];have:=K.l2;show .FB<=200;lia⟩
  rw[<-W]at c;have r:rdG (.O2<|LS++[.cc])=.bad LS.length:=by rw[E.sp .f];exact K.long _
  refine .DY;have s5:.fI (.F0 .FG) (.SJ f) H=.nx (.SJ LS.length) H:=by
   have l:=du<|cL (a:=aa 2) (σ:=.SJ f) (h:=H) rfl<|aS E.at_;have eL:.gT LS [.cc]=.FB:=.f
   rw[zST,eL]at l;have os:.hR lU (.mv .FB) (.e 1) H=.bU .Mc H:=by
    show .GZ (.aD .FB-1) H=_;rw[show .aD .FB-1=.Mc by lia]
   exact .jp 5<|.cV l os
  exact .CV (.kB<|.Ci<|.DA (sx c s5)<|.kB .Hq)
 ·have B:a=f:=.u3 n
  subst B;obtain⟨E,r⟩:=Gi K (l:=.Bi) .c aco w h;rw[.eB .DY (.CV<|.kB<|.kB<|.Ci<|.DA (t rfl) .Hq)]
end
def wf(e:∃g,bP [.k0,d] (.lY h)=.kf k (.lY h++g)):dA [d,.fw k] h=.hq:=by
 obtain⟨g,e⟩:=e;obtain⟨H,b⟩:=.iC<|.lY h++g;rw[<-b]at e;have t:.aeN [.a7,.fk k,.r8,.r8,none] h=.nx .ahD H:=by
  unfold Fy.sTryF Fy.fMkX;rw[.d2<|.B8 [.a7,.a<|.fu (k:Nat),.r8,.r8,none] h=.v [d]];dsimp[e];rfl
 obtain⟨o,a,q1,l⟩:=IG (c := "NoText") (j:=5) .c H;obtain⟨n,f,q2,m⟩:=T0 5<|H++a;have r:.acC .ahD H=.Bd (H++a++f) :=
  lJ<|jU .eQ<|jU (aG<|.cI aw q1 (.jc q2)<|Ny (.ag l) m<|Lp 5)<|.dD<|rc rfl
 refine .il<|.kC [.a7,.fk k,none,none,none]<|.alV 2<|.alV 3<|sx t<|aV r;rw[b,zBT,zBT,zBT];exact dJ rfl
def Gj(t:Tx Y)(q:.le Y=.bad k)(h:Hd):dA [.h Y,.fw k] h=.hq:=wf<|Uj t q _ _
def Gk(q:∀g,.NS<|h++g):dA [d,.e 0] h=.hq:=wf (k:=0) ⟨[],.DZ<|PY (q _) _⟩
end Fm
set_option maxHeartbeats 1000000
namespace Fm
open Fy
def Ob(p:.aX x=.cR .hG)(hd:h1[k]?=.vW l)(q:.fy r=.kK a)(e:F (.hG::ds) a=o):uf F x r σ h=o:=by
 unfold uf;rw[p,aE];dsimp[hd,q,aE,e]
noncomputable def Oc(m:Nat):.cH RR
 |.web n T bs ss=>.aN n m&&T.isEmpty&&.D (bs=.b4 m 0)&&.D (ss=.hp m)
 |.bad _=>false
def Od(e:Oc m r=true):r=.web m [] (.b4 m 0) (.hp m):=by
 cases r with
 |bad k=>cases e
 |web n T a b =>
  dsimp[Oc,UE,vb,List.isEmpty_iff]at e;obtain⟨⟨⟨rfl,rfl⟩,rfl⟩,rfl⟩:=e;rfl
noncomputable abbrev X13:.g:=.z1 51++.jj (.b4 13 .H4)++.jj (.b4 12 .Dc)++.cc
noncomputable abbrev X10:.g:=.z1 48++.jj (.b4 10 .H4)++.jj (.b4 9 .Dc)++.cc
def x13:Oc 13 (.le X13)=true/\.f3 X13.length/\.av (X13.all .LW):=.ac
def x10:Oc 10 (.le X10)=true/\.f3 X10.length/\.av (X10.all .LW):=.ac
def LJ(l:.oY)(a:.av<|X.all .LW):Tx X:=⟨.bf l,λc b=>X2<|zYn.mp a c b⟩
noncomputable abbrev CQ(m:Nat):Web:=bH m [] (.b4 m 0)<|.hp m
def Oe(t:Tx X)(e:.le X=.Lg)(p:.jM=.v [.h X]):.OS r σ h=.iX .Of:=by
 have i:=.ajy t e .f;have s:.aft=.Of:=.nX _ _;rw[s]at i;unfold Hj;rw[p,aE];dsimp[D7 i]
def mm(a:m<=30):(CQ m).Ok m:=mT (T:=[]) a .adY (zZx ..)<|zZx ..
section
variable{dk:Nat}{h:Hd}
def P2(hd:.EK 13):.ju .r3 "TooMuch" h :=
 .Iq PD
def P3(hd:.EK 13):.ju .r4 "TooMuch" h :=
 .Iq PF
def Xd(hd:.EK 13):.ju .i5 "TooMuch" h :=
 .Iq Nx
def P4(hd:.EK 10):.ju .i5 "TooMuch" h :=
 .Iq Nx
def aaL(hd:.EK 10):.ju (.uQ 49) "NoPeople" h :=
 TN (mm .c) hd (.ww LJ) .ac
end
def z8(hd:.Cj l)(r:Rfs dk d c h)(e:.zG)(p:.E6)(i:.aX x=.v .nV)(f:.aX y=.hH)(n:∀g,z σ (h++g)=.bU j (h++g)):
  (∃g,.ej .anm (.O1 z) σ h=.cQ false (h++g))/\∃g,.gO .anm (.O1 z) σ h=.Bd (h++g):=by
 rw[.j .kb];obtain⟨s,a,q1,m⟩:=Lq hd r e p;obtain⟨q,k,q2,b⟩:=T0 j<|h++a;rw[.dq o ⟨.c4<|a++k,a++k,?_⟩]
 ·rw[<-zBT]
  exact .af6 WO
 ·rw[<-zBT]
  exact .af6 Ny
section
variable{n:Nat}{T:List Tie}{bs:List Int}{ss:List (Option Int)}{dk:Nat}{h:Hd}
def P5(d:.eP h)(bb:∀b∈bs,.h3):cw [.nV,.h .es] h=.TO (kU n T):=by
 refine .AP WR (jZ (r:=.es) (wd:=.es) (L:=[]) (fm:=[]) ?_) (fK _) rfl λg k c=>?_
 ·rw[.sv (pA n .es .es [] []=true)]
  exact .xH
 ·have s:=IK (.bf d.n6) d.O d.lb d.ls d.os bb g
  have a:gq [.ih,.h .es] g=.fi (.ep<|.t6<|kU n T) g:=.yG<|jw<|nv<|.fG .Iv<|.cI aV s;exact .cT (.kV<|jw<|.i (.aoM<|show fR.lookup .es=.sW by decide)<|aV<|.Xj a)
def acq(n1:1<=n)(n6:n<=6)(O:.dY)(rt:RT n T)(lb:.j5)(ls:.he)(os:∀x∈ss,.fZ)(bb:∀b∈bs,.h3):aaI .kA:=by
 have c:n<=30:=.b
 have e:=rt.len;have d:n*n<=6*6:=zVn n6 n6;have f:.Fd=.d0+n+n:=.ajP
 refine⟨.b,.b,Nu c O lb ls os bb,λl a=>?_,λq=>aaH n1 c rt lb ls os bb q,Xc n1 c rt lb ls os bb,λl a=>?_⟩
 ·unfold bM at a
  rw[.o7 a]
  ·exact mE .c
  rw[.ec]
  ·rw[.lE a]
   exact mE .c
  rw[.ec]
  ·rw[.lE a]
   exact mE .c
  ·rw[.lE a]
   exact D8 t
 ·unfold bM at a
  rw[.o7 a]
  ·rw[.ml 112 _ .b5]
  rw[.ec]
  ·rw[.lE a]
   rw[.ml 116 _ (.F .b5)]
  rw[.ec]
  ·rw[.lE a]
   rw[.ml 98 _ (.fp .b5)]
  ·rw[.lE a]
   cases t with
   |none=>rw[.ml 102 _ (.F<|.fp .b5)]
   |some v=>rw[.ml 115 _ (.F<|.fp .g7)]
end
end Fm
set_option maxHeartbeats 2000000
namespace Fm
open Fy
def acr(e:.gV=.nm [a,b] h'):aF (gT [i,j]) f σ h=.lG ((.oC a).set j .cu):=by
 unfold aF outE;rw[e];rfl
section
variable{n:Nat}{M:Nat->Nat->Int}{T:List Tie}{bs:List Int}{ss:List (Option Int)}{bk sk dk:Nat}{h:Hd}
structure Ctx(n:Nat)(M:Nat->Nat->Int)(T:List Tie)(bs:List Int)(ss:List (Option Int))(bk sk dk:Nat)(h:Hd):Prop where
 m:Md 0 n M bs ss bk sk h
 L:LP n M n 0 T
 n6:n<=6
 bb:∀b∈bs,b.natAbs<10^60
 d:Dk n T bs ss dk h
def Ctx.more(C:.CH h)(g:Hd):.CH (h++g):=⟨C.m.more g,C.L,C.n6,C.bb,C.d.more g⟩
def Ctx.rt(C:.CH h):RT n .hg/\.mn .hg:=by
 have e:=sO C.m.n30 C.L;have O:.mn .lA:=by rw[e];exact(pZ C.m.n30 C.L.ok).1
 have:=NU O;rw[e]at this O;rw[.o this O]
def Ctx.ls(C:.CH h):aaI (.t6 .hg):=acq C.m.n1 C.n6 C.rt.2 C.rt.1 C.m.lb C.m.ls C.m.os C.bb
noncomputable abbrev XL(S0 td:D)(dk:Nat)(X:.g)(a b c d e f g i:.J):Sd:=[.mE,.aR,.ws,.kG,a,b,c,d,e,f,g,i]
def Xe(C:.CH h)(o:td=.alT bk)(u:X=.ep (.t6 .hg))(B:∀h,.zF k h=.ao v)(b c d e f g i:.J):
  ∃N I d' Q A g',KN (.Nk b) h=.nx (.aa6 N I d' Q A g i) (h++g'):=by
 have U:.fI (aq cH<|.ki 4) (.Nk b) h=.d5 (.Nk .B4):=aH<|.c9<|B h;rw[.qs];obtain⟨y,j,V,a,q1,R,S,E⟩:=LH C.m C.n6 C.L C.d.ok o v;have L:.ajk (.Nk .B4) h=.nx .zz (h++a):=acr<|.c9 q1;have m:=C.more a;have q:=E dk []<|.p X1 m.d;rw[X1]at q;obtain⟨⟨l,P⟩,_⟩:=z8 (x:=aa 2) (y:=aa 6) (z:=aa 7) (σ:=.zz) m.d.hd q R S rfl rfl .cB;have s:=m.more l;have r:=P5 s.d C.bb;rw[<-u]at r;have w:.ab6 .zz .sl=.cQ false .sl:=.cV (Ob rfl s.d.hd .t0<|D7 r)<|.MA .v9;have H:.acM .zz (h++a)=.nx .zz .sl:=.e1<|gj (aG P)<|aG w;obtain⟨Y,p,t,G,F⟩:=LI C.ls .sl v;refine K ?_;rw[<-u]at t;have O:.afP .zz .sl=.nx .Ur .sl:=acr<|.c9 t;have J:.ajN .Ur .sl=.nx .Ur .sl:=.YX<|Gj G F _;exact⟨_,_,_,_,_,a++l,.ay zBT<|sx U<|sx L<|sx H<|sx O J⟩
end
def aaM(ns:.l)(b6:.AD 63):∃h',HR [.tJ] []=.Bd h':=by
 rw[.oa];obtain⟨n,M,G,E,U,sk,h,P⟩:=Uc ns (mo:=6) .c .c;refine F ?_;have n6:n<=6:=by have:=P.nmo;lia
 have m:Md 0 n M G E U sk h:=⟨P.n1,P.n30,P.mt,P.mo,P.ba,P.st,P.lb,P.ls,P.os⟩;rw[.oa];obtain⟨T,L⟩:=X7 P.mo P.n30 n<|zBK _;obtain⟨o,W⟩:=qq (.tJ:D);obtain⟨u,J⟩:=qq (.alT U:D);refine F ?_;have a8:∀b∈G,.h3:=λb hb=>.im (show b.natAbs<=20000 by have:=P.bb b hb;lia);have e0:SJ [.bb,none,none,none,none,none,none,none,none,none,none,none] []=.d5 (.QF none):=by
  have r:=P.run;rw[<-W,<-J]at r;exact aH<|.c9 r
 obtain⟨s,Q⟩:=.q1;have e1:SK (.QF none) h=.nx .zw (.FT h):=by
  rw[Q];exact aH<|W4 m n6 a8 L (a:=aa 1) (by rw[<-J];rfl)
 have a4:.Bl U:=.aw m.ba;have b7:.Bl sk:=.aw m.st;rw[.oa];obtain⟨V,a6⟩:∃V,G[0]?=.a V:=.Ar<|.p P.lb P.n1;obtain⟨w,B⟩:=qq<|G.set 0<|V+1;obtain⟨K,S⟩:=qq (.jw U (.Qd w.map):Hd);refine F ?_;have a0:.wh K.length:=.L S zZn
 have b2:w.length=n:=.hP B zZn P.lb
 have a2:∀b∈w,.h3:=λb hb=>by
  rw[B]at hb;rcases zVw hb with z|z
  ·exact a8 b z
  ·have:=P.bb V (zAT a6)
   rw[z];exact .im (show (V+1).natAbs<=20001 by lia)
 have m1:Md 0 n M w E U sk K:=by
  have ne:∀{k:Nat},k≠U->K[k]?=h[k]? := λhk=>.L S<|.pu hk
  have:=P.bkn;have:=P.skn;refine⟨P.n1,P.n30,⟨λi hi=>.a2 ne .b .ZS,.a2 ne .b m.mt.ti⟩,P.mo,.L S<|X0 a4,.a2 ne .b m.st,b2,P.ls,P.os⟩
 have a1:.Dr (.dr 1 g=.ok u g->.vL σ g=.b7 U g):=.t5 J;have at0:∀{l:.l} {x:Int},l[0]?=.aF->atI (.b8 D.int) (0:Int)=.w x:=λ{l x} e=>dW (i:=0)<|.u3 zBP;have e2:SM .zw (.FT h)=.nx .zw (.FT K):=by
  have ba:=bg .Yd m.ba;refine .il<|ul (k:=0) (.wS<|.ML a1 (aS ba)<|at0 a6) (a1 _ _ rfl) rfl ba (by
   have:=P.n1;simp[ixN,P.lb];lia)
  rw[.alf a4,S,B,zVu]
 have D0:Dk n T G E s (.FT K):=⟨P.n1,n6,L.ok,P.lb,P.ls,P.os,.n8 Q a0 zAP⟩;have a9:w[0]?=.a (V+1):=.L B<|X0<|.p P.lb P.n1
 have xb:.NK (V+1):=a2 _<|zAT a9;have sb:=T8 D0 xb;rw[<-B]at sb;obtain⟨I,Z⟩:=.iC<|K++.yF (.IF w);have st:(K++.Yd).set s (.ob<|.IF w)=I:=by rw[Z,Q,<-a0];exact .nX _ _
 rw[st]at sb;have b5:=iL _ xb;have e3:SN .zw (.FT K)=.nx .zw I:=by
  have ba:=bg .Yd m1.ba;exact .e1<|aG<|.cV (Ob rfl D0.hd (ah (cY rfl (i6 (.ML a1 (aS ba)<|at0 a9) xb) (by show .bt<|6+.ad tx (V+1);lia)) rfl)<|D7 sb)<|.MA .v9
 have C:Ctx n M T w E U sk s I:=⟨by rw[Z];exact m1.more _,L,n6,a2,⟨P.n1,n6,L.ok,b2,P.ls,P.os,by rw[Z,Q,<-a0];exact zAP⟩⟩;obtain⟨X,hX⟩:=qq<|.ep<|bM n .hg w E;have a3:=NO C.m a2 (by rw[sO P.n30 L];exact C.rt.2);rw[sO P.n30 L,<-hX,<-J]at a3;have e4:SO .zw I=.nx .Q3 I:=.cI aH a3;have rg:iP .nH (.W 20) .Q3 I=.nB (.cY 16<|.lJ 4) I:=.ab pi .c;obtain⟨σ',h',k1,a,b,c,d,e,f,g3,k2,k3⟩:=.Y1 4 (b:=KN) (P:=λk σ h'=>∃a b c d e f g,σ=.Gy none/\h'=I++g) .jY
  (xs:=.cY 16<|.Rw<|4 + j) (k:=0) (σ:=.Q3) (h:=I) (λk x σ g hx p=>by
   rw[.oa];obtain⟨a,b,c,d,e,f,g0,rfl,rfl⟩:=p;refine F ?_;have hk:k<16:=by
    rw[.s4 hx]
   have ex:x=.F9 (4+k):=by
    rw[zBP,zXb hk]at hx;exact .zu hx
   subst ex;rw[.oa];obtain⟨v,hv⟩:=II ns (4+k) .b;rw[<-W]at hv;obtain⟨b',c',d',e',f',g',st⟩:=Xe (C.more g0) J hX hv b c d e f none none;rw[.cX F ⟨_,rfl,_,_,st,_,_,_,_,_,_,g0++g',rfl,.bA zBT⟩]) ⟨_,_,_,_,_,_,[],rfl,.bA X1⟩
 have e5:=fQ rg k1;rw[k2,k3]at e5;rw[.oa];obtain⟨H,hH⟩:=qq<|I++g3;rw[<-hH]at e5;obtain⟨A,a7⟩:=.iC<|.aS H [.h X];refine F ?_;have k6:∀{x y:D},(∀g,t6 (A++g) .str x=.du)->SQ (.Gy .aF) A=.nx (.Gy .aF) A:=λ{x y} q=>.YX<|Gk q;have e6:SR (.Gy none) H=.nx (.Ik c none) A:=by
  have it:.adz (.Gy none) H=.nB [.non,.e 5,.dO,.d H.length] A:=by
   show .eE _ _=_;rw[.jI<|.nN<|.q2 cF,aE,a7]
  refine fQ it<|.LK .cB<|.LK .cB<|.LK .cB<|.LK .Hr .xZ;have:(A++g)[H.length]?=.x [.h X]:=.aar a7
  dsimp[t6,this];rfl
 obtain⟨N,a5⟩:=.iC<|A++.yF [(CQ 13).enc];have e7:SS (.Ik c none) A=.nx (.v2 c) N:=by
  rw[a5];exact aH<|Oe (X:=X13) (LJ x13.2.1 x13.2.2) (Od x13.1) rfl
 have R:∀g,(N++g)[A.length]?=.vW [(CQ 13).enc]:=λg=>.aar a5
 have k8:∀{y:D} {g:Hd} (c:.J),Rfs A.length y "TooMuch" (N++g)->∃g',SU (.v2 .gU) (N++g)=.nx (.v2 .gU) (N++g'):=λ{y g} c r=>by
  obtain⟨⟨g',t⟩,_⟩:=.Xh 2 (y:=aa 6) (z:=.ba) (σ:=.v2 .gU) (R g) r .c .c rfl rfl .cB;rw[zBT]at t;exact⟨g++g',.e1<|aG t⟩
 obtain⟨g8,e8⟩:∃g8,SV (.v2 c) N=.nx (.v2<|.aI .i5) (N++g8):=by
  obtain⟨g1,t1⟩:=k8 (g:=[]) c<|P2<|R _;obtain⟨g2,t2⟩:=k8 (g:=g1) c<|P3<|R _;obtain⟨g3,t3⟩:=k8 (g:=g2) c<|Xd<|R _;rw[X1]at t1;rw[.o _ (fQ (l:=[.h .r3,.h .r4,.h .i5]) (g:=none) rfl<|.id t1<|.id t2<|.id t3 .xZ)]
 rw[.oa];obtain⟨O,b3⟩:=.iC<|N++g8;rw[<-b3]at e8;obtain⟨H4,b1⟩:=.iC<|O++.yF [(CQ 10).enc];refine F ?_;have e9:SW (.v2<|.aI .i5) O=.nx .JY H4:=by
  rw[b1];exact aH<|Oe (X:=X10) (LJ x10.2.1 x10.2.2) (Od x10.1) rfl
 have Y:∀g,(H4++g)[O.length]?=.vW [(CQ 10).enc]:=λg=>.aar b1
 obtain⟨h',b4⟩:∃h',Nl .JY H4=.rt .dO h':=by
  have d0:=Y [];rw[X1]at d0;rw[.oa];obtain⟨_,⟨g1,t1⟩⟩:=.Xh 2 (y:=.ae .i5) (z:=.ba) (σ:=.JY) d0 (P4 d0) .c .c rfl rfl .cB;obtain⟨_,⟨g2,t2⟩⟩:=.Xh 3 (y:=.ae<|.uQ 49) (z:=.l1) (σ:=.JY) (Y g1) (aaL<|Y g1) .c .c rfl rfl .cB;refine F ?_;exact .cn<|.sH<|jU (aG t1)<|aG t2
 have fin:=bE (np:=1) (n:=12) (ds:=[o]) rfl rfl<|sx e0<|sx e1<|sx e2<|sx e3<|sx e4<|sx e5<|sx e6<|sx e7<|sx e8<|sx e9 b4;rw[W]at fin;rw[show HR [.tJ] []=_ from fin];unfold letGo;simp only;split
 ·exact .K
 ·exact .K
end Fm
end
end
noncomputable section
def PySem.W.Fast.tw90343872475197607 : Type := PySem.Params
theorem PySem.W.Fast.te90343872475197607 : PySem.Params = PySem.W.Fast.tw90343872475197607 := rfl
def PySem.W.Fast.tw5319920382741251280 : PySem.Program := PySem.Challenge.pw_followmost_k54_desk_rows_refused
theorem PySem.W.Fast.te5319920382741251280 : PySem.Challenge.pw_followmost_k54_desk_rows_refused = PySem.W.Fast.tw5319920382741251280 := rfl
def PySem.W.Fast.tw4333423590571101119 : Nat := 0
def PySem.W.Fast.tw6569575810364040714 : Nat := 0
def PySem.W.Fast.tw1149452048798518089 : Nat := 0
def PySem.W.Fast.tw10538069896414250856 : Nat := 0
def PySem.W.Fast.tw16744228436343324492 : Nat := 0
def PySem.W.Fast.tw8483458635901227600 : Nat := 0
def PySem.W.Fast.tw14856811659512522083 : Nat := 0
def PySem.W.Fast.tw8830879956470623162 : Nat := 0
def PySem.W.Fast.tw4356497387234826260 : Nat := 0
def PySem.W.Fast.tw8778390808099014333 : Nat := 0
def PySem.W.Fast.tw10808221542441825507 : Nat := 0
def PySem.W.Fast.tw4871793895354221556 : Nat := 0
def PySem.W.Fast.tw984055562142466090 : Nat := 0
def PySem.W.Fast.tw9196381971084566402 : Nat := 0
def PySem.W.Fast.tw14813298360006807844 : Nat := 0
def PySem.W.Fast.tw5706377973021834716 : Nat := 0
def PySem.W.Fast.tw16330630582849038396 : Nat := 0
def PySem.W.Fast.tw4716602431310778594 : Nat := 0
def PySem.W.Fast.tw1503471795722890030 : Nat := 0
def PySem.W.Fast.tw3047835762515482282 : Nat := 0
def PySem.W.Fast.tw8918950786077651013 : Nat := 0
open PySem PySem.W PyProof.Rows
set_option maxRecDepth 100000 in
set_option maxHeartbeats 0 in
theorem PySem.Challenge.cw_followmost_k54_desk_rows_refused_holds : PySem.Challenge.rw_followmost_k54_desk_rows_refused.Holds := by
 w_on;o_law;k_head;(case hw=>w_witness2)
 k_fill
 refine Fm.abJ (l := PySem.Challenge.rw_followmost_k54_desk_rows_refused) (F := Fm.HR) (k := 13) (x := "_law_script") rfl rfl ⟨rfl, by decide, by decide, rfl⟩ (fun w h Y => PySem.W.kIn_of Y) ?F Fm.aaM
 case F =>
  intro w mg fa h KX G hmg
  refine' Fm.Z1 KX G hmg ?_ ?_ ?_ ?_ ?_ ?_ ?_ ?_ ?_ ?_ ?_ ?_ ?_ ?_ ?_ ?_ ?_ ?_ ?_ ?_ ?_ ?_ ?_ ?_ ?_ ?_ ?_ ?_ ?_ ?_ ?_ ?_ ?_ ?_ ?_ ?_ ?_ ?_ ?_ ?_ ?_ ?_ ?_ ?_ ?_ ?_ ?_ ?_ ?_ ?_ ?_ ?_ ?_ ?_ ?_ ?_ ?_ ?_ ?_ ?_ ?_ ?_ ?_ ?_ ?_ ?_ ?_ ?_ ?_ ?_ ?_ ?_ ?_ ?_ ?_ ?_ ?_ ?_ ?_ ?_ ?_ ?_ ?_ ?_ ?_ ?_ ?_ ?_ ?_ ?_ ?_ ?_ ?_ ?_ ?_ ?_ ?_ ?_ ?_ ?_ ?_ ?_ ?_ ?_ ?_ ?_ ?_ ?_ ?_ ?_ ?_ ?_ ?_ ?_ ?_ ?_ ?_ ?_ ?_ ?_ ?_ ?_ ?_ ?_ ?_ ?_ ?_ ?_ ?_ ?_ ?_ ?_ ?_ ?_ ?_ ?_ ?_ ?_ ?_ ?_ ?_ ?_ ?_ ?_ ?_ ?_ ?_ ?_ ?_ ?_ ?_ ?_ ?_ ?_ ?_ ?_ ?_ ?_ ?_ ?_ ?_ ?_ ?_ ?_ ?_ ?_ ?_ ?_ ?_ ?_ ?_ ?_ ?_ ?_ ?_ ?_ ?_ ?_ ?_ ?_ ?_ ?_ ?_ ?_ ?_ ?_ ?_ ?_ ?_ ?_ ?_ ?_ ?_ ?_ ?_ ?_ ?_ ?_ ?_ ?_ ?_ ?_ ?_ ?_ ?_ ?_ ?_ ?_ ?_ ?_ ?_ ?_ ?_ ?_ ?_ ?_ ?_ ?_ ?_ ?_ ?_ ?_ ?_ ?_ ?_ ?_ ?_ ?_ ?_ ?_ ?_ ?_ ?_ ?_ ?_ ?_ ?_ ?_ ?_ ?_ ?_ ?_ ?_ ?_ ?_ ?_ ?_ ?_ ?_ ?_ ?_ ?_ ?_ ?_ ?_ ?_ ?_ ?_ ?_ ?_ ?_ ?_ ?_ ?_ ?_ ?_ ?_ ?_ ?_ ?_ ?_ ?_ ?_ ?_ ?_ ?_ ?_ ?_ ?_ ?_ ?_ ?_
  all_goals first|refine' Fm.At.i ?_ ?_ ?_ ?_|skip
  all_goals try first|k_is|k_exc|kit_is
  all_goals first|(unfold Fm.AF;kernel_rfl)|(unfold Fm.Fa;kernel_rfl)|kernel_rfl|rfl
