import PyProof.Rows.All
import Wide.All
import OpenK.AllK
import Wide.FinOn
import Lean
import PyProof.EqAt
import PyProof.EqKinds
import PyProof.TupleCall
import KE.KIntText
import PyProof.StrCalls2
import PyProof.StrBlock2
import PyProof.Rows.StrNews2
import PyProof.Rows.SortStr
import PyProof.Rows.StrMeet
import PyProof.Rows.SortWalk
import PyProof.StrLawsRepr
import PyProof.Truth
import KE.KDictList
import KE.IntTextLaws
import KE.KxText
import PyProof.Rows.StrAscii
import PyProof.StrOps2
import PySem.Challenge.RW_leavehall_k71_whole_desk
set_option bootstrap.genMatcherCode false
set_option compiler.extract_closed false
set_option Elab.async false
set_option linter.all false
set_option maxRecDepth 100000
set_option maxHeartbeats 4000000
noncomputable section
open PySem PySem.Spec
open PySem.W (Frag callWith_K codeIn emptyDict findIn fnOf handedIn hasDictIn instObj isFn kdl_call keepIn kia_one kitOne lookIn makesIn mg_of nsIn plainGet plainGet_of plainOver takerIn)
open Int (add_assoc add_mul lt_trans mul_add mul_assoc mul_le_mul_of_nonneg_left mul_nonneg mul_sub reducePow sub_zero toNat toNat_natCast)
open Nat (add_zero le_add_right le_of_eq le_of_lt le_refl le_succ le_trans lt_irrefl lt_of_le_of_lt lt_of_lt_of_le lt_succ_self min_eq_left ne_of_gt ne_of_lt not_lt reduceAdd reduceSub sub_self zero_add zero_le)
open List (all_cons all_eq_true all_map any_cons any_map append_assoc append_cons append_nil cons_append drop_drop drop_eq_getElem_cons drop_left drop_zero filter_append filter_cons find?_cons foldl foldl_cons forIn_cons forIn_nil forall_mem_cons getD_eq_getElem?_getD getElem?_append_left getElem?_append_right getElem?_cons_succ getElem?_cons_zero getElem?_eq_getElem getElem?_eq_none getElem?_map getElem?_of_mem getElem?_range getElem?_replicate getElem?_set_ne getElem?_set_self getElem_inj getElem_mem length_append length_cons length_drop length_eq_zero_iff length_map length_nil length_pos_iff length_set length_take length_zip map_append map_congr_left map_cons map_map map_nil map_set map_take mem_append mem_append_left mem_append_right mem_cons mem_cons_of_mem mem_cons_self mem_filter mem_iff_getElem? mem_map mem_map_of_mem mem_of_getElem? mem_of_mem_drop mem_of_mem_take mem_range mem_singleton nil_append nodup_append nodup_cons nodup_nil not_mem_nil of_mem_zip pairwise_cons replicate replicate_succ set_cons_succ set_cons_zero size_toArray sum_cons take_add_one take_left take_of_length_le take_succ zip_cons_cons)
open Array (all_eq_true' all_toList length_toList toList toList_append toList_inj)
open Bool (and_eq_true eq_false_iff false_eq_true not_eq_true' or_eq_true)
open PyData (canLay0 canLayAll0 depthAll eqv keyHash)
open Function (comp)
open Heap (get?_push_of_some get?_push_size get?_update_other get?_update_self lt_size size_push)
open Option (getD_some isSome map_eq_some_iff map_some)
open Value (type)
def aa:=@List.mem_cons_self
def ab:=@PySem.wpAny_bind
def ac:=@List.length_map
def ae:=@List.mem_cons_of_mem
def af:=@List.getElem?_eq_some_iff
def ag:=@List.mem_of_getElem?
def ah:=@if_pos
def ai:=@List.getElem?_map
def ap:=@if_neg
def ar:=@List.getElem?_eq_getElem
def av:=@Nat.le_refl
def ax:=@PySem.wpAny_pure
def ay:=@PySem.Heap.get?_push_of_some
def az:=@decide_eq_true
def aE:=@List.length_append
def aI:=@List.mem_cons
def aS:=@List.map_cons
def aT:=@List.mem_append
def a6:=@List.mem_map
def a7:=@List.mem_singleton
def a8:=@List.length_cons
def a9:=@decide_eq_false
def bc:=@Bool.and_eq_true
def bd:=@List.nodup_cons
def be:=@List.getElem?_set_self
def bg:=@List.getElem?_eq_none
def bj:=@PySem.Heap.get?_push_size
def bm:=@Option.some.inj
def bn:=@Bool.false_ne_true
def bo:=@List.getElem?_set_ne
def bp:=@List.size_toArray
def bq:=@Option.map_eq_some_iff
def br:=@decide_eq_true_eq
def bt:=@Array.length_toList
def bu:=@List.take_of_length_le
def bv:=@List.getElem?_append_left
def bz:=@Nat.lt_of_lt_of_le
def bE:=@List.map_map
def bP:=@List.map_append
def bS:=@PySem.Str.length_append
def bX:=@PySem.Heap.lt_size
def b6:=@List.length_set
def b7:=@Int.le_refl
def b8:=@Ne.symm
def b9:=@congrArg
def ca:=@List.getD_eq_getElem?_getD
def cb:=@PySem.Heap.get?_update_other
def cc:=@Int.mul_le_mul_of_nonneg_left
def ce:=@List.mem_append_right
def cf:=@List.mem_map_of_mem
def ci:=@PySem.wpAny_field
def ck:=@Nat.le_trans
def cm:=@List.getElem?_append_right
def cp:=@List.all_eq_true
def cq:=@PySem.wpAny_truthy_bool
def cr:=@List.append_assoc
def cv:=@Nat.zero_le
def cw:=@Nat.ne_of_lt
def cx:=@List.sum_cons
def cy:=@PyProof.Rows.callWith_type1
def cE:=@PySem.wpAny_callSpecial?_slot
def cK:=@List.map_congr_left
def cS:=@List.length_take
def c5:=@List.forall_mem_cons
def c6:=@List.mem_filter
def c9:=@PySem.F.plainAttrs_dict
def da:=@PySem.wpAny_seqItems
def db:=@decide_false
def de:=@PySem.F.plainAttrs_str
def df:=@List.mem_of_mem_take
def di:=@List.length_nil
def dm:=@List.getElem?_of_mem
def dn:=@PySem.F.plain_extend_loop
def dq:=@Int.toNat_natCast
def dt:=@Bool.false_eq_true
def du:=@List.getElem?_zip_eq_some
def dv:=@List.exists_mem_of_ne_nil
def dA:=@if_true
def dE:=@if_false
def dL:=@decide_true
def dP:=@PySem.Str.cps_append
def dQ:=@Option.some.injEq
def dS:=@True.intro
def dT:=@List.mem_append_left
def d5:=@List.nodup_append
def ec:=@List.drop_eq_getElem_cons
def ef:=@PySem.mem_of_lookup
def eg:=@PySem.F.slot_zip_next
def ei:=@PySem.wpAny_newObj_type
def eA:=@PySem.boot_len
def eB:=@PySem.wpAny_mono
def eD:=@Array.toList_append
def eI:=@PyProof.Rows.boot_list
def eJ:=@PySem.wpAny_call_entry
def eK:=@List.length_drop
def eL:=@List.length_eq_zero_iff
def eP:=@List.append_nil
def eQ:=@PySem.wpAny_setField_rec
def eR:=@PySem.wpAny_Call_Name_kw
def eW:=@PySem.wpAny_passesOwn
def fb:=@PySem.wpAny_holding
def fe:=@List.map_nil
def fg:=@Int.le_trans
def fk:=@Array.getElem?_eq_getElem
def fm:=@List.filter_cons
def fo:=@PySem.sizeLine_eq
def fq:=@Nat.le_add_right
def ft:=@PySem.SeqAt.eqv_refl
def fv:=@PySem.F.slot_tuple_iterator_next
def fx:=@PySem.Around.under_plainId
def fy:=@PySem.Str.append_assoc
def fz:=@List.pairwise_cons
def fA:=@Int.mul_nonneg
def fE:=@PySem.wpAny_updateSeq
def fF:=@List.nil_append
def fI:=@List.getElem?_replicate
def fN:=@List.getElem?_cons_zero
def fR:=@PySem.Heap.get?_update_self
def fS:=@PyProof.Rows.slot_tuple_getitem
def fT:=@PySem.F.type_str_join
def f4:=@PySem.F.slot_str_join
def f5:=@List.length_filter_le
def f6:=@List.cons_lt_cons_iff
def f7:=@Int.mul_le_mul_of_nonneg_right
def f8:=@List.take_add_one
def gc:=@List.getElem?_range
def gd:=@PySem.wpAny_nextOf_list_item
def ge:=@LawfulBEq.eq_of_beq
def gh:=@Nat.lt_irrefl
def gi:=@List.mem_iff_getElem?
def gm:=@PySem.call_meets
def gp:=@PySem.plainId_quiet
def gr:=@List.getElem_mem
def gs:=@List.mem_of_mem_drop
def gu:=@PySem.codeAny_builtin
def gy:=@Bool.eq_false_iff
def gz:=@List.mem_range
def gE:=@Nat.lt_of_le_of_lt
def gI:=@List.getElem?_take_of_lt
def gL:=@Bool.or_eq_true
def gS:=@List.of_mem_zip
def gX:=@List.length_zip
def g7:=@List.length_pos_iff
def g9:=@List.foldl_cons
def hE:=@PySem.typeIs_str
def hJ:=@Nat.min_le_right
def hU:=@Nat.min_eq_left
def hV:=@List.not_mem_nil
def hX:=@PySem.F.type_str_split
def hY:=@PySem.F.slot_str_split
def hZ:=@Int.le_of_lt
def ic:=@Int.le_antisymm
def ie:=@PySem.F.args_zip_next_1
def ii:=@Nat.zero_add
def ij:=@PySem.F.slot_dict_get
def ik:=@List.length_replicate
def il:=@Bool.beq_eq_decide_eq
def im:=@List.any_cons
def ip:=@or_false
def iq:=@Nat.lt_succ_self
def ir:=@Int.add_mul
def iA:=@PySem.Str.append_empty
def iE:=@Nat.mul_le_mul_right
def iF:=@List.pairwise_append
def iL:=@PySem.F.entry_zip_next
def iN:=@List.forIn_cons
def iO:=@List.find?_cons
def iP:=@Array.toList_inj
def iS:=@ne_true_of_eq_false
def iX:=@PySem.call_meetsIn
def i0:=@List.map_eq_nil_iff
def i7:=@List.getElem_of_mem
def i8:=@List.filter_sublist
def i9:=@List.filterMap_cons
def ja:=@PySem.Calls.callWith_builtin
def jb:=@PySem.wpAny_loadPart'
def jn:=@PySem.wpAny_execs_nil
def jp:=@Nat.le_of_lt
def jv:=@Int.mul_nonpos_of_nonneg_of_nonpos
def jI:=@List.replicate_succ
def jS:=@List.cons_append
def j0:=@List.map_set
def j1:=@Nat.lt_trichotomy
def j2:=@List.take_sublist
def j3:=@List.pairwise_map
def ka:=@List.length_range
def kb:=@Int.zero_add
def kc:=@Int.add_zero
def ke:=@List.zip_cons_cons
def kf:=@List.set_cons_zero
def kg:=@List.set_cons_succ
def ki:=@List.filter_append
def km:=@Int.min_le_right
def kn:=@PySem.F.entry_extend_loop
def ko:=@PySem.wpAny_attempt
def kq:=@List.getElem?_cons_succ
def kr:=@PySem.Paired.length
def kt:=@List.drop_append_of_le_length
def ku:=@Nat.sub_self
def kw:=@Nat.ne_of_gt
def ky:=@Int.mul_add
def kz:=@Int.lt_trans
def kA:=@Nat.le_succ
def kB:=@Nat.not_lt_zero
def kG:=@List.filter_map
def kH:=@Int.le_max_left
def kK:=@PySem.F.args_str_split_2
def kM:=@PySem.Calls.spliced_cons
def kN:=@Bool.not_eq_true'
def kP:=@PySem.wpAny_pyIter_list
def kQ:=@PySem.Heap.size_push
def kR:=@PySem.seqIndex_neg
def kS:=@PySem.codeAny_mono
def kT:=@List.takeWhile_cons_of_pos
def kU:=@List.takeWhile_cons_of_neg
def kX:=@PySem.F.entry_str_split
def k0:=@PySem.Calls.spliced_nil
def lh:=@List.take_succ
def li:=@List.nodup_nil
def lj:=@PySem.F.slot_dict_getitem
def lp:=@PySem.wpAny_pyIter_zip
def ly:=@List.getElem_inj
def lI:=@List.append_cons
def lL:=@PySem.F.slot_dict_values
def lP:=@PySem.F.slot_str_split
def lS:=@Bool.true_and
def lT:=@PySem.seqIndex_of
def l7:=@decide_eq_false_iff_not
def l9:=@PySem.F.slot_dict_items
def ma:=@PySem.F.plainAttrs_list
def md:=@Int.eq_ofNat_of_zero_le
def me:=@PySem.wpAny_specialOf
def mh:=@PySem.W.cellsFrom_some
def mm:=@PySem.F.slot_dict_copy
def mn:=@List.drop_of_length_le
def mr:=@List.drop_eq_nil_of_le
def mx:=@Int.zero_mul
def my:=@Int.mul_zero
def mB:=@Int.mul_comm
def mE:=@PySem.F.args_tuple_iterator_next_1
def mI:=@Array.getElem?_eq_none
def mM:=@PySem.W.methodCall_KW
def mP:=@PySem.F.type_dict_get
def mS:=@PySem.F.slot_dict_pop
def mT:=@List.take_append_drop
def m2:=@List.length_singleton
def m3:=@List.dropLast_sublist
def m4:=@PySem.F.entry_tuple_iterator_next
def nb:=@Array.getElem?_toList
def nc:=@PySem.wpAny_rule
def ng:=@Array.all_toList
def nh:=@PySem.Str.ext'
def nk:=@Nat.pow_le_pow_right
def np:=@Nat.log2_lt
def nr:=@List.range_eq_range'
def nt:=@PySem.Calls.Name_function_global
def nv:=@Bool.or_eq_false_iff
def ny:=@Int.mul_assoc
def nz:=@PySem.W.kia_one
def nB:=@beq_eq_false_iff_ne
def nE:=@Int.add_assoc
def nI:=@PySem.W.callWith_K0
def nK:=@List.mergeSort_perm
def nS:=@List.length_zipWith
def nV:=@PySem.wpAny_standAt
def nX:=@PySem.wpAny_onRaise
def n9:=@PySem.wpAny_comprehension_free
def oa:=@List.drop_left
def oe:=@beq_iff_eq
def og:=@PySem.P.truthy_str
def oi:=@List.mem_filterMap
def oj:=@List.map_replicate
def ol:=@List.getElem?_drop
def om:=@List.forIn_toArray
def oo:=@Int.lt_of_lt_of_le
def op:=@List.getElem?_inj
def oq:=@List.foldl_append
def ot:=@List.flatten_cons
def ov:=@List.ext_getElem?
def ox:=@List.any_eq_false
def oy:=@List.Sublist.refl
def oz:=@Int.emod_eq_of_lt
def oB:=@PySem.wpAny_getItem_list_neg
def oC:=@Int.sub_zero
def oD:=@Nat.le_of_eq
def oP:=@Array.all_eq_true'
def oQ:=@Nat.add_zero
def oS:=@Option.getD_none
def o0:=@List.zipIdx_cons
def o1:=@List.range'_succ
def o3:=@List.nodup_range
def o4:=@List.map_fst_zip
def o5:=@List.lookup_cons
def o6:=@List.isEmpty_nil
def pb:=@List.Sublist.map
def pc:=@Int.min_eq_right
def pd:=@Int.le_max_right
def pe:=@PySem.wpAny_nextOf_list_end
def pf:=@PySem.wpAny_isTrue_Compare1
def ph:=@PySem.builtinLookup_eq_fast
def pi:=@Nat.min_le_left
def pj:=@List.zipIdx_nil
def pk:=@List.sum_append
def pp:=@Int.natCast_add
def pr:=@Int.min_le_left
def pu:=@Bool.eq_iff_iff
local macro_rules | `(tactic| omega) => `(tactic| lia)
namespace Lake
set_option tactic.hygienic false
local macro_rules (kind:=Lean.Parser.Command.declaration)|s=>do
 if (s[1].isOfKind ``Lean.Parser.Command.definition||s[1].isOfKind ``Lean.Parser.Command.abbrev) && s[0].getArgs.all (·.getNumArgs==0) then let t:=s.setArg 0 (←Lean.MonadRef.withRef .missing `(noncomputable def x:=0)).raw[0];if (s.find? (·.isOfKind ``Lean.Parser.Tactic.renameI)).isSome then `(command|set_option tactic.hygienic true in $(⟨t⟩)) else return t else Lean.Macro.throwUnsupported
local macro_rules | `($x:scientific)=>match x.raw.isScientificLit? with |some (m,false,e)=>`($(Lean.quote (m*10^e)))|_=>Lean.Macro.throwUnsupported
local macro_rules | `(tactic|lk)=>`(tactic|first|lia|omega)
local macro_rules | `(∅)=>`(by lk)
local macro_rules | `(⋯)=>`(by decide)
set_option hygiene false in
local macro_rules | `(tactic|w_left)=>`(tactic|(try subst hu);(try dsimp only);refine ZG λu hu=>?_)
local macro_rules | `(tactic|k_ne)=>`(tactic|dsimp only)
local macro_rules | `(tactic|z_go)=>`(tactic|walk_at "e1")
local macro_rules | `(tactic|x_go)=>`(tactic|walk_at "e3")
local macro_rules | `(tactic|kt_k)=>`(tactic|walk_at "e2")
open Lean in
private def toPat:Nat→Term→MacroM (TSyntax `rcasesPat)
 |0,_=>Macro.throwUnsupported
 |n+1,t=>match t with
  |`(_)=>`(rcasesPat|_)
  |`($i:ident)=>`(rcasesPat|$i:ident)
  |`(($a,$b,*))=>do `(rcasesPat|⟨$[$(←(#[a]++b.getElems).mapM (toPat n))],*⟩)
  |`(⟨$b,*⟩)=>do `(rcasesPat|⟨$[$(←b.getElems.mapM (toPat n))],*⟩)
  |_=>Macro.throwUnsupported
local macro_rules | `(($a,$b,$c,*)) => `(⟨$a,$b,$c,*⟩)
local macro_rules | `(tactic|let $p:term:=$e) => do `(tactic|obtain $(←toPat 9 p):rcasesPat:=$e)
local macro_rules | `(#[$x]) => `(some $x)
section
variable {F:α->β->Prop}
def _root_.PySem.Paired.get (h:Paired F l r):∀{i:Nat}{a:α},l[i]? =#[a]->∃b,r[i]? =#[b]/\F a b:=by
 induction h with
 |nil=>exact λe=>nomatch e
 |cons x _ A=>
  intro i a e;cases i with
  |zero=>cases e;exact(_,rfl,x)
  |succ i=>exact A e
def _root_.PySem.Paired.flip (h:Paired F l r):Paired (λb a=>F a b) r l:=by
 induction h with
 |nil=>exact .nil
 |cons x _ A=>exact .cons x A
def _root_.PySem.Paired.at {i:Nat}(h:Paired F l r)(e:r[i]? =#[b]):∃a,l[i]? =#[a]/\F a b:=h.flip.get e
def _root_.PySem.Paired.of {l:List α}:∀{r:List β},l.length=r.length->(∀(i:Nat) a b,l[i]? =#[a]->r[i]? =#[b]->F a b)->Paired F l r:=by
 induction l with
 |nil=>intro r e _;cases r;exact .nil;cases e
 |cons x l A=>
  intro r e h;cases r with
  |nil=>cases e
  |cons y r=>exact .cons (h 0 x y rfl rfl)<|A (Nat.succ.inj e) λi=>h<|i+1
theorem _root_.PySem.Paired.set (f:F a b)(h:Paired F l r):∀i,Paired F (l.set i a) (r.set i b):=by
 induction h with
 |nil=>exact λ_=>.nil
 |cons x t A=>
  intro i;cases i with
  |zero=>exact .cons f t
  |succ i=>exact .cons x<|A i
def _root_.PySem.Paired.append (h:Paired F l r)(g:Paired F B C):Paired F (l++B) (r++C):=by
 induction h with
 |nil=>exact g
 |cons x _ A=>exact .cons x A
theorem _root_.PySem.Paired.take (n:Nat)(h:Paired F l r):Paired F (l.take n) (r.take n):=by
 induction h generalizing n with
 |nil=>rw[List.take_nil,List.take_nil];exact .nil
 |cons x _ A=>
  cases n with
  |zero=>exact .nil
  |succ n=>exact .cons x<|A n
theorem _root_.PySem.Paired.drop (n:Nat)(h:Paired F l r):Paired F (l.drop n) (r.drop n):=by
 induction h generalizing n with
 |nil=>rw[List.drop_nil,List.drop_nil];exact .nil
 |cons x t A=>
  cases n with
  |zero=>exact .cons x t
  |succ n=>exact A n
theorem _root_.PySem.Paired.eraseIdx (i:Nat)(h:Paired F l r):Paired F (l.eraseIdx i) (r.eraseIdx i):=by
 induction h generalizing i with
 |nil=>exact .nil
 |cons x t A=>
  cases i with
  |zero=>exact t
  |succ i=>exact .cons x<|A i
def _root_.PySem.Paired.rep (h:Paired F l r)(k:Nat):Paired F (replicate k l).flatten (replicate k r).flatten:=by
 induction k with
 |zero=>exact .nil
 |succ k A=>rw[jI,jI,ot,ot];exact h.append A
end
local macro_rules|`($c:char)=>if c.getChar=='s' then `(by simp) else `(by decide +kernel)
local macro_rules|`(‹$x›)=>`(by simpa using $x)
local macro_rules|`(~~~$s)=>`(($s).heap.objs.size)
local macro_rules|`(!$x)=>`(($x).length)
local macro_rules|`(¬$x)=>`(List $x)
local macro_rules|`(↑$x)=>`(Option $x)
instance:CoeFun PySem.Heap λ_=>PySem.Addr->Option PySem.Obj:=⟨PySem.Heap.get?⟩
local macro_rules|`(tactic|erw[$[$x],*] $[$l]?)=>do
 let a:=x.map λr=>(⟨Lean.mkNode ``Lean.Parser.Tactic.simpLemma #[Lean.mkNullNode,r.raw[0],r.raw[1]]⟩:Lean.TSyntax `Lean.Parser.Tactic.simpLemma)
 `(tactic|simp only[$[$a],*] $[$l]?)
local macro_rules|`(⇑$x)=>`(($x).cps.toList)
local macro_rules|`(↥$x)=>`(Str.ofString (toString $x))
local macro_rules|`($a\$b)=>`(wpAny (model $a $b))
local macro_rules|`(())=>`(PyData)
set_option hygiene false in
local macro_rules|`(tactic|f_int)=>`(tactic|(let(A,G,M,S,F,I,d,e,q):=q))
set_option hygiene false in
local macro_rules|`(tactic|f_len)=>`(tactic|(let(A,G,M,S,F,I,q):=q))
set_option hygiene false in
local macro_rules|`(tactic|f_are)=>`(tactic|(split at e))
set_option hygiene false in
local macro_rules|`(tactic|k_go)=>`(tactic|(cases e))
def q0(_:0=0:=by rfl):=0
def q1(_:0=0:=by decide):=0
def q2(_:0=0:=by decide +kernel):=0
def q3(_:0=0:=by first|exact .inl rfl|exact .inr rfl|assumption):=0
def q4(_:0=0:=by intro _;rfl):=0
def q5(_:0=0:=by first|exact Iv _|rfl):=0
def q6(_:0=0:=by with_unfolding_all rfl):=0
def q7(_:0=0:=by intro _ _;rfl):=0
def q8(_:0=0:=by exact fs):=0
def q9(_:0=0:=by exact hr):=0
def q10(_:0=0:=by kernel_rfl):=0
def q11(_:0=0:=by exact nd):=0
def q12(_:0=0:=by exact lx):=0
def q13(_:0=0:=by first|exact c.cl|exact cD):=0
def q14(_:0=0:=by first|exact .inl rfl|exact .inr rfl):=0
local macro_rules|`($x∣$n:num)=>`(autoParam $x $(Lean.mkIdent (.str (.mkSimple s!"q{n.getNat}") "_auto_1")))
local macro_rules|`(tactic|calc $e:term)=>`(tactic|exact $e)
namespace L2
open PyProof.Rows
abbrev Key:=Str
inductive V where
 |non|bl (b:Bool)|int (i:Int)|str (x:Str)|ref (a:Addr)|ty (n:String)
 deriving DecidableEq
def RelV:V->Value->Prop
 |.non,u=>u=Value.none
 |.bl b,u=>u=Value.bool b
 |.int i,u=>∃t,u=Value.int i t
 |.str x,u=>∃t,u=Value.str x t
 |.ref a,u=>u=Value.ref a
 |.ty n,u=>u=type n
abbrev Vals:¬V->¬Value->Prop:=Paired RelV
theorem Vals.length {xs:¬V}{us:¬Value}(r:Vals xs us):(!xs)=!us:=kr r
def oV:↑V->↑Value->Prop
 |some v,#[u]=>RelV v u
 |none,none=>True
 |_,_=>False
def KV:¬(A×V)->¬(A×Value)->Prop:=Paired λ(p:A×V) (q:A×Value)=>p.1=q.1/\RelV p.2 q.2
abbrev kV:Key->V:=V.str
inductive HO where
 |lst (xs:¬V)
 |tup (xs:¬V)
 |dK (fU:¬(Key×V))
 |ins (C dx:Addr) (fs:¬(Str×V))
 |own (x:Addr)
 |gO (o:Obj) (u:HO)
 |ext (φ:Heap->Prop)
abbrev Hp:=Addr->↑HO
def upd (H:Hp)(a:Addr)(o:HO):Hp:=λb=>if b=a then #[o] else H b
def ao:upd H a o a=#[o]:=by delta upd;rw[ah rfl]
def au (h:b≠a):upd H a o b=H b:=by delta upd;rw[ap h]
def Eb:upd (upd H a o) a u=upd H a u:=by funext b;delta upd;split<;>rfl
def aZ {H:Hp}(h:H a=#[o])(h':H b=none):a≠b:=by lk
section
variable (P:Program)(w:World)
def gj (H:Hp)(h:Heap)(a:Addr):HO->Prop
 |.lst D=>(!D)<=sizeLine/\∃(A:¬Value) (n:Nat),Vals D A/\h a=some {cls:=.type "list",data:=.seq A.toArray n}
 |.tup D=>(!D)<=sizeLine/\∃A:¬Value,Vals D A/\IsTup h a A.toArray
 |.dK B=>(!B)<=sizeLine/\(a==sysModules)=false/\∃J,KV B J/\h.DictOf (strKind P w) a J
 |.ins C E fs=>H E=#[.own a]/\(!fs)<=1000/\E≠a/\h a=#[instObj C E]/\
  ∃G,h.Ns1 E G/\(∀f,oV (fs.lookup f) (G f))/\PySem.Within G (fs.map (·.1))
 |.own _=>∃o,h a=#[o]
 |.gO o u=>h a=#[o]/\gj H h a u
 |.ext I=>I h/\(∃o,h a=#[o])/\∀h1 h2:Heap,I h1->(∀o,h1 a=#[o]->h2 a=#[o])->I h2
def j7 (H:Hp)(h:Heap):Prop:=∀a o,H a=#[o]->gj P w H h a o
end
section
variable {o:HO}
theorem gj.lt (x:gj P w H h a o):a<h.objs.size:=by
 cases o with
 |lst D=>let(_,_,_,_,e):=x;calc bX e
 |tup D=>let(_,_,_,p):=x;calc p.lt
 |dK B=>let(_,_,_,_,o,_,_,e,_):=x;calc bX e
 |ins C E fs=>let(_,_,_,e,_):=x;calc bX e
 |own y=>let(_,e):=x;calc bX e
 |gO ob u=>let(e,_):=x;calc bX e
 |ext I=>let(_,(_,e),_):=x;calc bX e
def gj.stay (x:gj P w H h a o)(k:∀b u,(b=a\/H b=#[.own a])->h b=#[u]->h' b=#[u])
  (I:∀b,H b=#[.own a]->E b=#[.own a])(U:∀b xs,H b=#[.tup xs]->E b=#[.tup xs]):gj P w E h' a o:=by
 induction o with
 |lst xs=>let(z,A,n,r,e):=x;calc⟨z,A,n,r,k _ _ (.inl rfl) e⟩
 |tup xs=>let(z,A,r,ob,e,c):=x;calc⟨z,A,r,ob,k _ _ (.inl rfl) e,c⟩
 |dK L=>let(z,y,Q,r,ob,D,B,e,c):=x;calc⟨z,y,Q,r,ob,D,B,k _ _ (.inl rfl) e,c⟩
 |ins C T fs=>let(d,z,N,e,M,(O,D,B,G,c),r):=x;calc⟨I _ d,z,N,k _ _ (.inl rfl) e,M,⟨O,D,B,k _ _ (.inr d) G,c⟩,r⟩
 |own y=>let(ob,e):=x;calc⟨ob,k _ _ (.inl rfl) e⟩
 |gO ob u J=>let(e,q):=x;calc⟨k _ _ (.inl rfl) e,J q⟩
 |ext Y=>let(p,(o,e),st):=x;calc⟨st _ _ p λo q=>k _ _ (.inl rfl) q,⟨o,k _ _ (.inl rfl) e⟩,st⟩
theorem j7.lt (x:j7 P w H h)(e:H a=#[o]):a<h.objs.size:=(x a o e).lt
def j7.fresh (x:j7 P w H h)(e:h.objs.size<=a):H a=none:=by
 cases q:H a with
 |none=>rfl
 |some u=>calc absurd (bz (x.lt q) e)<|gh _
def j7.kept (x:j7 P w H h)(k:∀b u,h b=#[u]->h' b=#[u]):j7 P w H h':=λa o e=>
 (x a o e).stay (λb u _ q=>k b u q) (λ_ q=>q) λ_ _ q=>q
def j7.laid (x:j7 P w H h)(k:∀b u,h b=#[u]->h' b=#[u])(D:h.objs.size<=a)(A:gj P w (upd H a o) h' a o):j7 P w (upd H a o) h':=λb u e=>by
 have C:=x.fresh D;by_cases B:b=a
 .subst B;rw[ao] at e;k_go;exact A
 .rw[au B] at e;calc(x b u e).stay (λc v _ q=>k c v q) (λc q=>by rw[au<|aZ q C];calc q) λc E q=>by rw[au<|aZ q C];calc q
end
def Rd (H:Hp)(a:Addr)(u:HO):Prop:=H a=#[u]\/∃o,H a=#[.gO o u]
def Rd.ok {P:Program}{w:World}{H:Hp}{h:Heap}{a:Addr}{u:HO}(r:Rd H a u)(x:j7 P w H h):gj P w H h a u:=by
 rcases r with r|⟨o,r⟩
 .exact x a u r
 .let(_,q):=x a _ r;calc q
def Mut:↑HO->Prop
 |some (.lst _)=>True
 |some (.dK _)=>True
 |some (.ins _ _ _)=>True
 |some (.ext _)=>True
 |_=>False
section
variable {A:HO}
def j7.write (N:j7 P w H h)(mu:Mut (H x))(Q:e=x\/H e=#[.own x])(k:∀b u,b≠e->h b=#[u]->h' b=#[u])(G:∃u,h' e=#[u])
  (I:gj P w (upd H x A) h' x A):j7 P w (upd H x A) h':=λb u q=>by
 have B:∀c y,H c=#[.own y]->c≠x:=λc y r z=>by subst z;rw[r] at mu;exact mu
 have C:∀c D,H c=#[.tup D]->c≠x:=λc D r z=>by subst z;rw[r] at mu;exact mu
 by_cases J:b=x
 .subst J;rw[ao] at q;cases q;exact I
 .rw[au J] at q;by_cases E:b=e
  .have L:H b=#[.own x]:=by lk
   rw[q] at L;cases L;let(v,M):=G;exact⟨v,by rw[E];calc M⟩
  .refine(N b u q).stay (λc v O r=>k c v ?_ r) (λc r=>by rw[au<|B c b r];calc r) λc D r=>by rw[au<|C c D r];exact r
   grind
end
structure Un (fs ex:¬Addr)(H H':Hp)(h h':Heap):Prop where
 keep:∀b o,h b=#[o]->H b=none->Not (b∈fs)->Not (b∈ex)->h' b=#[o]
 slot:∀b o,h b=#[o]->H b=none->b∈fs->Not (b∈ex)->∃sl,h' b=some {o with slots:=sl}
 free:∀b o,h b=#[o]->H b=none->Not (b∈ex)->H' b=none
 there:∀b o,h b=#[o]->Not (b∈ex)->∃o',h' b=#[o']
 tups:∀b xs,H b=#[.tup xs]->H' b=#[.tup xs]
 tM:∀b o u,H b=#[.gO o u]->H' b=#[.gO o u]
section
variable {o:HO}
def Un.any (u:Un fs C H E h h1)(q:h b=#[ob])(n:H b=none)(A:Not (b∈C)):∃D,h1 b=some {ob with slots:=D}:=by
 by_cases B:b∈fs
 .exact u.slot b ob q n B A
 .calc⟨ob.slots,u.keep b ob q n B A⟩
def Un.trans (a:Un fs G H I h h1)(b:Un fs G I J h1 h2):Un fs G H J h h2 where
 keep:=λc ob q n O A=>b.keep c ob (a.keep c ob q n O A) (a.free c ob q n A) O A
 slot:=λc ob q n O A=>by let(M,B):=a.slot c ob q n O A;let(E,L):=b.slot c _ B (a.free c ob q n A) O A;exact⟨E,L⟩
 free:=λc ob q n A=>by let(C,B):=a.there c ob q A;exact b.free c C B (a.free c ob q n A) A
 there:=λc ob q A=>by let(C,B):=a.there c ob q A;exact b.there c C B A
 tups:=λc D q=>b.tups c D<|a.tups c D q
 tM:=λc ob D q=>b.tM c ob D<|a.tM c ob D q
def Un.kept (k:∀b u,h b=#[u]->h' b=#[u]):Un fs C H H h h':=
 ⟨λb ob q _ _ _=>k b ob q,λb ob q _ _ _=>⟨ob.slots,k b ob q⟩,λ_ _ _ n _=>n,λb ob q _=>⟨ob,k b ob q⟩,λ_ _ q=>q,λ_ _ _ q=>q⟩
def Un.refl:Un fs C H H h h:=Un.kept λ_ _ q=>q
def Un.laid (k:∀b u,h b=#[u]->h' b=#[u])(D:h.objs.size<=a)(C:H a=none):Un fs B H (upd H a o) h h' where
 keep:=λb u q _ _ _=>k b u q
 slot:=λb u q _ _ _=>⟨u.slots,k b u q⟩
 free:=λb u q n _=>by rw[au<|cw<|bz (bX q) D];exact n
 there:=λb u q _=>⟨u,k b u q⟩
 tups:=λb A q=>by rw[au<|aZ q C];exact q
 tM:=λb u A q=>by rw[au<|aZ q C];calc q
def Un.write (mu:Mut (H x))(Q:e=x\/H e=#[.own x])(k:∀b u,b≠e->h b=#[u]->h' b=#[u])(G:∃u,h' e=#[u]):Un fs E H (upd H x o) h h':=by
 have C:∀b,H b=none->b≠x:=λb n z=>by subst z;rw[n] at mu;exact mu
 have B:∀b,H b=none->b≠e:=λb n z=>by lk
 have A:∀b u,H b=#[u]->Not (Mut #[u])->b≠x:=λb u q nm z=>by subst z;rw[q] at mu;exact nm mu
 refine⟨λb u q n _ _=>k b u (B b n) q,λb u q n _ _=>⟨u.slots,k b u (B b n) q⟩,λb u q n _=>by rw[au (C b n)];calc n,λb u q _=>?_,
  λb D q=>by rw[au (A b _ q λz=>z)];calc q,λb u D q=>by rw[au (A b _ q λz=>z)];calc q⟩
 grind
end
def trk (h:Heap)(H:Hp):¬Addr:=(List.range h.objs.size).filter λa=>(H a).isSome
def yW (h:Heap)(H:Hp):Heap:=PySem.W.hideAll h<|trk h H
def aaA (h:Heap)(H:Hp):(yW h H).objs.size=h.objs.size:=PySem.W.hideAll_size _ _
def acR (e:h b=#[o])(n:H b=none):(yW h H) b=#[o]:=
 PySem.W.hideAll_get _ e λA=>by have q:(H b).isSome=true:=(c6.mp A).2;grind
def agx (e:(yW h H) b=#[o]):h b=#[o]/\H b=none:=by
 have A:h b=#[o]:=PySem.W.of_hideAll (trk h H) e;refine⟨A,?_⟩;cases q:H b with
 |none=>rfl
 |some x=>have B:b∈trk h H:=c6.mpr ⟨gz.mpr<|bX A,by simp[q]⟩;have z:(yW h H) b=none:=PySem.W.hideAll_none (trk h H) B;lk
structure Mod (K:Frag)(mg:Str->↑Value)(base:Heap):Prop where
 kin:K.In base
 glob:base.Ns mainGlobals mg
 blt:∃mb,base.Ns builtinsNs mb/\∀x:Str,x≠"__name__"->mb x=bootBuiltins x
 nolimit:base.NoLimit
structure Cx where
 prog:Program
 w:World
 K:Frag
 mg:Str->↑Value
 base:Heap
 A:Around
 N:¬Str
 s₀:Shared
 cQ:Hp
 env:Env
 outer:¬Env
 stack:¬Env
 ex:¬Addr
 fn:Str->Bool
 pn:¬(Addr×Obj)
def frs (l:¬Env):¬Addr:=l.filterMap (·.frame)
abbrev Cx.fs (X:Cx):¬Addr:=frs X.outer
def Vis (sc:Scope)(x:Str):Prop:=sc.names.lookup x=some .local\/sc.names.lookup x=some .cell\/sc.names.lookup x=some .free
def Loc (sc:Scope)(x:Str):Prop:=sc.names.lookup x=some .local\/sc.names.lookup x=some .cell
def Look (env:Env)(h:Heap)(m:Str->↑Value)(x:Str)(u:Value):Prop:=
 (env.kindOf x=some .local/\m x=#[u])\/((env.kindOf x=some .cell\/env.kindOf x=some .free)/\∃c,env.cells.lookup x=#[c]/\h.IsCell c #[u])
structure Cx.Ok (X:Cx):Prop where
 mod:Mod X.K X.mg X.base
 kind:X.env.scope.kind=.function
 glob:X.env.globals=mainGlobals
 blt:X.env.builtins=builtinsNs
 above:X.s₀.heap.objs.size<=X.env.locals
 inj:∀x y c,X.env.cells.lookup x=#[c]->X.env.cells.lookup y=#[c]->x=y
 has:∀x,(X.env.kindOf x=some .cell\/X.env.kindOf x=some .free)->∃c,X.env.cells.lookup x=#[c]
 cab:∀x c,X.fn x=true->X.env.cells.lookup x=#[c]->X.s₀.heap.objs.size<=c
 hd:X.A.handled=none
 frames:X.A.frames=#[X.stack]
 stk:X.stack=X.outer\/(X.stack=X.env::X.outer/\X.env.frame=#[X.env.locals])
 exf:∀b∈X.ex,b≠X.env.locals/\∀x c,X.env.cells.lookup x=#[c]->c≠b
 bs:∀b o,X.base b=#[o]->X.s₀.heap b=#[o]/\X.cQ b=none
 Nh:X.base.objs.size<=X.s₀.heap.objs.size
 acS:∀b o,X.base b=#[o]->Not (b∈X.ex)
 ahQ:∀b∈X.ex,Not (b∈X.fs)
 xq:X.s₀.heap.FunFrames X.base X.outer
 frf:∀b∈X.fs,X.cQ b=none
structure Inv (X:Cx)(uV:¬(Addr×Obj))(σ:¬(↑V))(H:Hp)(s:Shared):Prop where
 ok:X.Ok
 os:s.os=X.s₀.os
 bare:AllBare s.gens
 base:Un X.fs X.ex X.cQ H X.s₀.heap s.heap
 loc:∃m,s.heap.Ns X.env.locals m/\∀(i:Nat) (x:Str) (v:V),X.N[i]? =#[x]->σ[i]? =#[#[v]]->Vis X.env.scope x->∃u,RelV v u/\Look X.env s.heap m x u
 cell:∀x c,X.env.cells.lookup x=#[c]->∃v,s.heap.IsCell c v
 free:H X.env.locals=none
 pI:∀x c,X.env.cells.lookup x=#[c]->H c=none
 pin:∀p∈X.pn++uV,s.heap p.1=#[p.2]/\H p.1=none/\p.1≠X.env.locals/\Not (p.1∈X.fs)/\∀v,p.2.data≠ .cell v
 hok:j7 X.prog X.w H s.heap
 len:(!σ)=!X.N
section
variable {X:Cx}
def Cx.Ok.am7 (N:X.Ok)(e:X.base b=#[o]):Not (b∈X.fs):=λB=>by have:=(N.xq.mem B).1;lk
theorem Inv.bs (I:Inv X A B H s):∀b o,X.base b=#[o]->s.heap b=#[o]/\H b=none:=λb o e=>
 ⟨I.base.keep b o (I.ok.bs b o e).1 (I.ok.bs b o e).2 (I.ok.am7 e)<|I.ok.acS b o e,I.base.free b o (I.ok.bs b o e).1 (I.ok.bs b o e).2<|I.ok.acS b o e⟩
def Inv.bk (I:Inv X A B H s):∀b o,X.base b=#[o]->s.heap b=#[o]:=λb o e=>(I.bs b o e).1
theorem Inv.mod (I:Inv X A B H s):Mod X.K X.mg X.base:=I.ok.mod
def Inv.o9 (I:Inv X A B H s):X.K.In s.heap:=I.ok.mod.kin.keeps I.bk
def Inv.fr (I:Inv X A B H s):∃m,Fr X.base X.env.locals s.heap m:=
 let⟨m,C,_⟩:=I.loc
 (m,C,I.bk,ck I.ok.Nh I.ok.above)
theorem Inv.lt (I:Inv X A B H s):X.env.locals< ~~~s:=let⟨_,C,_⟩:=I.loc;C.lt
def Inv.sz (I:Inv X A B H s):X.s₀.heap.objs.size<= ~~~s:=ck I.ok.above<|jp I.lt
def Inv.am8 (I:Inv X A D H s)(h: ~~~s<=a):Not (a∈X.fs):=λB=>by let(_,o,C,_):=I.ok.xq.mem B;calc absurd (bz (bX C)<|ck I.sz h)<|gh _
def Inv.cne (I:Inv X A M H s):∀x c,X.env.cells.lookup x=#[c]->c≠X.env.locals:=λx c e z=>by let(v,o,J,G):=I.cell x c e;let(m,(L,E,D,C,B,_),_):=I.loc;lk
theorem Inv.xq (I:Inv X E Y H s):s.heap.FunFrames X.base X.outer:=by
 have all:∀(l:¬Env),(∀b∈frs l,b∈X.fs)->X.s₀.heap.FunFrames X.base l->s.heap.FunFrames X.base l:=by
  intro l;induction l with
  |nil=>intro _ _;trivial
  |cons G r T=>intro D N;let(M,(L,o,C,O,Q,J),hr):=N;have A:L∈X.fs:=D L (by delta frs;rw[i9,C];calc aa);let(U,e):=I.base.slot L o Q (I.ok.frf L A) A λz=>I.ok.ahQ L z A;exact(M,(L,_,C,O,e,J),T (λb B=>D b (by delta frs;rw[i9,C];calc ae _ B)) hr)
 calc all X.outer (λ_ B=>B) I.ok.xq
theorem Inv.stack (I:Inv X A D H s):s.heap.FunFrames X.base X.stack:=by
 rcases I.ok.stk with e|⟨e,C⟩
 .rw[e];exact I.xq
 .rw[e];let(m,B,_):=I.loc;refine .cons (by rw[I.ok.kind];decide) C B ?_ I.xq;calc Heap.get?_none_of_le<|ck I.ok.Nh I.ok.above
def Inv.Ij (I:Inv X A D H s):∀b∈frs X.stack,b∈X.env.locals::X.fs:=λb B=>by
 rcases I.ok.stk with e|⟨e,C⟩
 .grind
 .rw[e] at B;delta frs at B;rw[i9,C] at B;calc B
def Inv.Wu (I:Inv X A D H s):∀b∈frs X.stack,H b=none:=λb B=>by
 rcases aI.mp (I.Ij b B) with e|B
 .rw[e];exact I.free
 .let(_,o,C,_):=I.ok.xq.mem B;calc I.base.free b o C (I.ok.frf b B) λz=>I.ok.ahQ b z B
def Inv.step {ch:¬Addr}(I:Inv X L σ H s)
  (D:∀b∈ch,(b∈X.ex\/X.s₀.heap.objs.size<=b)/\b≠X.env.locals/\(∀x c,X.env.cells.lookup x=#[c]->c≠b)/\∀p∈X.pn++L,p.1≠b)
  (E:∀b o,b≠X.env.locals->Not (b∈X.fs)->Not (b∈ch)->s.heap b=#[o]->H b=none->h' b=#[o])
  (slot:∀b o,b≠X.env.locals->b∈X.fs->Not (b∈ch)->s.heap b=#[o]->H b=none->∃w,h' b=some {o with slots:=w})(B:∀b o,Not (b∈ch)->s.heap b=#[o]->H b=none->g b=none)
  (O:∀b o,Not (b∈ch)->s.heap b=#[o]->∃Y,h' b=#[Y])
  (j:∀b xs,H b=#[.tup xs]->g b=#[.tup xs])(T:∀b o u,H b=#[.gO o u]->g b=#[.gO o u])
  (ns:∀m,s.heap.Ns X.env.locals m->h'.Ns X.env.locals m)(f:j7 X.prog X.w g h')(hg:AllBare g'):
  Inv X L σ g {s with heap:=h',gens:=g',drawn:=d',toks:=t'}:=by
 have U:∀b o,X.s₀.heap b=#[o]->b≠X.env.locals:=λb o e=>cw<|bz (bX e) I.ok.above;have J:∀b o,X.s₀.heap b=#[o]->Not (b∈X.ex)->Not (b∈ch):=λb o e A N=>by
  rcases(D b N).1 with z|z
  .exact A z
  .exact absurd (bz (bX e) z)<|gh _
 have C:∀x c,X.env.cells.lookup x=#[c]->∀v,s.heap.IsCell c v->h'.IsCell c v:=λx c e v ⟨o,Q,y⟩=>by
  have G:Not (c∈ch):=λz=>(D c z).2.2.1 x c e rfl;by_cases h:c∈X.fs
  .let(w,q):=slot c o (I.cne x c e) h G Q<|I.pI x c e;exact⟨_,q,y⟩
  .exact⟨o,E c o (I.cne x c e) h G Q<|I.pI x c e,y⟩
 refine⟨I.ok,I.os,hg,⟨λb o e n N A=>?_,λb o e n N A=>?_,λb o e n A=>?_,λb o e A=>?_,λb xs e=>j b xs<|I.base.tups b xs e,λb o xs e=>T b o xs<|I.base.tM b o xs e⟩,?_,λx c e=>?_,?_,λx c e=>?_,λp hp=>?_,f,I.len⟩
 .exact E b o (U b o e) N (J b o e A) (I.base.keep b o e n N A)<|I.base.free b o e n A
 .let(w,M):=I.base.slot b o e n N A;let(a,t):=slot b _ (U b o e) N (J b o e A) M<|I.base.free b o e n A;exact⟨a,t⟩
 .let(Y,M):=I.base.there b o e A;exact B b Y (J b o e A) M<|I.base.free b o e n A
 .let(Y,M):=I.base.there b o e A;exact O b Y (J b o e A) M
 .let(m,hn,hl):=I.loc;refine⟨m,ns m hn,λi x v M t e3=>?_⟩;let(u,r,l):=hl i x v M t e3;refine⟨u,r,?_⟩;rcases l with l|⟨k,c,e,z⟩
  .exact .inl l
  .exact .inr ⟨k,c,e,C x c e _ z⟩
 .let(v,z):=I.cell x c e;exact⟨v,C x c e v z⟩
 .let(m,(o,_,_,Q,_),_):=I.loc;exact B _ o (λz=>(D _ z).2.1 rfl) Q I.free
 .let(v,o,Q,y):=I.cell x c e;exact B c o (λz=>(D c z).2.2.1 x c e rfl) Q<|I.pI x c e
 .let(e,n,ne,nf,d):=I.pin p hp;have G:Not (p.1∈ch):=λz=>(D p.1 z).2.2.2 p hp rfl;calc⟨E p.1 p.2 ne nf G e n,B p.1 p.2 G e n,ne,nf,d⟩
def Inv.un {t':Nat}(I:Inv X A O H s)(u:Un X.fs [] H G s.heap h')(f:j7 X.prog X.w G h'):Inv X A O G {s with heap:=h',toks:=t'}:=by
 let(m,(o,T,Q,J,r),_):=id I.loc;let(j,L):=u.any J I.free 's';exact I.step (g':=s.gens) (d':=s.drawn) (ch:=[]) (λ_ z=>nomatch z) (λb o _ E _ e n=>u.keep b o e n E 's') (λb o _ E _ e n=>u.slot b o e n E 's') (λb o _ e n=>u.free b o e n 's') (λb o _ e=>u.there b o e 's') u.tups u.tM (λU M=>by
  let(Y,D,B,C,N):=M;rw[J] at C;cases C;calc(_,D,B,L,N)) f I.bare
def Inv.call {g':Array GenState}{t':Nat}{d':Drawn}{ch:¬Addr}(I:Inv X A U H s)(u:Un (frs X.stack) ch H J s.heap h')(f:j7 X.prog X.w J h')(N:AllBare g')
  (D:∀b∈ch,(b∈X.ex\/X.s₀.heap.objs.size<=b)/\b≠X.env.locals/\(∀x c,X.env.cells.lookup x=#[c]->c≠b)/\∀p∈X.pn++A,p.1≠b):
  Inv X A U J {s with heap:=h',gens:=g',drawn:=d',toks:=t'}:=by
 let(m,(o,j,Y,L,r),_):=id I.loc;let(l,G):=u.any L I.free λz=>(D _ z).2.1 rfl;exact I.step (ch:=ch) D (λb o G M O e n=>u.keep b o e n (λz=>(aI.mp (I.Ij b z)).elim G M) O) (λb o _ _ O e n=>u.any e n O) (λb o O e n=>u.free b o e n O) (λb o O e=>u.there b o e O) u.tups u.tM (λk Q=>by
  let(g,E,B,C,T):=Q;rw[L] at C;cases C;calc(_,E,B,G,T)) f N
def Inv.turned {A:Addr}(I:Inv X B T H s)(k:∀b o,b≠A->s.heap b=#[o]->h' b=#[o])(N:H A=none)(D:A≠X.env.locals)
  (h1:A∈X.ex\/X.s₀.heap.objs.size<=A)(h2:∀x c,X.env.cells.lookup x=#[c]->c≠A)(J:∀p∈X.pn++B,p.1≠A):Inv X B T H {s with heap:=h',toks:=t'}:=by
 have C:∀b u,H b=#[u]->b≠A:=λb u e z=>by rw[z,N] at e;k_go
 refine I.step (g':=s.gens) (d':=s.drawn) (ch:=[A]) (λb L=>?_) (λb o _ _ O e _=>k b o (λz=>O<|by simp[z]) e) (λb o _ _ O e _=>⟨o.slots,k b o (λz=>O<|by simp[z]) e⟩) (λ_ _ _ _ n=>n)
  (λb o O e=>⟨o,k b o (λz=>O<|by simp[z]) e⟩) (λ_ _ e=>e) (λ_ _ _ e=>e) (λm M=>?_) (λb u e=>?_) I.bare
 .have e:b=A:=‹L›
  subst e;exact⟨h1,D,h2,J⟩
 .let(o,G,E,Q,r):=M;exact⟨o,G,E,k _ o (b8 D) Q,r⟩
 .refine(I.hok b u e).stay (λc v O q=>k c v ?_ q) (λ_ q=>q) λ_ _ q=>q;rcases O with z|z
  .rw[z];exact C b u e
  .calc C c _ z
def Inv.tok (I:Inv X A B H s)(t:Nat):Inv X A B H {s with toks:=t}:=I.un (h':=s.heap) (t':=t) Un.refl I.hok
theorem Inv.kept {t':Nat}(I:Inv X A B H s)(k:∀b u,s.heap b=#[u]->h' b=#[u]):Inv X A B H {s with heap:=h',toks:=t'}:=I.un (Un.kept k)<|I.hok.kept k
theorem Inv.laid (I:Inv X A C H s)(k:∀b u,s.heap b=#[u]->h' b=#[u])(D: ~~~s<=a)(B:gj X.prog X.w (upd H a o) h' a o):
  Inv X A C (upd H a o) {s with heap:=h',toks:=t'}:=I.un (Un.laid k D<|I.hok.fresh D)<|I.hok.laid k D B
theorem Inv.write (I:Inv X A C H s)(mu:Mut (H x))(Q:e=x\/H e=#[.own x])(k:∀b u,b≠e->s.heap b=#[u]->h' b=#[u])(G:∃u,h' e=#[u])
  (B:gj X.prog X.w (upd H x o) h' x o):Inv X A C (upd H x o) {s with heap:=h',toks:=t'}:=I.un (Un.write mu Q k G)<|I.hok.write mu Q k G B
def Inv.weak (I:Inv X A D H s)(N:(!B)=!D)(w:∀(i:Nat) v,B[i]? =#[#[v]]->D[i]? =#[#[v]]):Inv X A B H s:=
 (I.ok,I.os,I.bare,I.base,let⟨m,L,C⟩:=I.loc;(m,L,λi x v E G J=>C i x v E (w i v G) J),I.cell,I.free,I.pI,I.pin,I.hok,N.trans I.len)
def Inv.Wv (I:Inv X B C H s)(h:∀p∈A,s.heap p.1=#[p.2]/\H p.1=none/\p.1≠X.env.locals/\Not (p.1∈X.fs)/\∀v,p.2.data≠ .cell v):Inv X A C H s:=
 (I.ok,I.os,I.bare,I.base,I.loc,I.cell,I.free,I.pI,λp D=>(aT.mp D).elim (λz=>I.pin p<|dT _ z)<|h p,I.hok,I.len)
def Rk {N:¬Str}(A:N.Nodup){i j:Nat}(a:N[i]? =#[x])(b:N[j]? =#[x]):i=j:=by let(h1,B):=af.mp a;let(h2,G):=af.mp b;calc(ly A).mp<|B.trans G.symm
def Ni {M:Model}(I:Inv X uV σ H s)(hN:X.N.Nodup)(hi:X.N[i]? =#[x])(G:Loc X.env.scope x)(r:RelV v u)
  (h:∀s',Inv X uV (σ.set i<|#[v]) H s'->(∃a,Heap.SameBut a s.heap s'.heap/\(a=X.env.locals\/X.env.cells.lookup x=#[a]))->Q ⟨⟩ s')(hf:(X.fn x=true\/X.env.scope.names.lookup x=some .local)∣3):wpAny M A (storeName X.env x u) Q E s:=by
 let(m,hn,hl):=id I.loc;have w:(X.env.scope.kind==.class||(X.env.scope.kind==.module && X.env.locals !=X.env.globals))=false:=by rw[I.ok.kind];rfl
 have L:i<!σ:=by rw[I.len];exact(af.mp hi).1
 have N:=I.cne;have C:∀{a:Addr}{g:Heap},(∃o,s.heap a=#[o]/\H a=none)->Heap.SameBut a s.heap g->j7 X.prog X.w H g:=λ{a g} ha D b ob e=>by let(_,_,hfree):=ha;refine(I.hok b ob e).stay (λc w' O q=>(D.2 c ?_).trans q) (λ_ q=>q) λ_ _ q=>q;lk
 rcases G with l|l
 .refine wpAny_storeName_local l hn (λg hn' D=>?_) w;let(oL,_,_,hoL,_):=id hn;refine h _ ⟨I.ok,I.os,I.bare,⟨λb o e n T G=>?_,λb o e n T G=>?_,I.base.free,λb o e G=>?_,I.base.tups,I.base.tM⟩,⟨_,hn',λj y v' B J e3=>?_⟩,λy c e=>?_,I.free,I.pI,λp hp=>?_,C ⟨oL,hoL,I.free⟩ D,by simpa using I.len⟩ ⟨_,D,.inl rfl⟩
  .exact(D.2 b<|cw<|bz (bX e) I.ok.above).trans<|I.base.keep b o e n T G
  .let(sl,B):=I.base.slot b o e n T G;exact⟨sl,(D.2 b<|cw<|bz (bX e) I.ok.above).trans B⟩
  .let(o',B):=I.base.there b o e G;exact⟨o',(D.2 b<|cw<|bz (bX e) I.ok.above).trans B⟩
  .by_cases Y:j=i
   .subst Y;rw[hi] at B;cases B;rw[be L] at J;cases J;exact⟨u,r,.inl ⟨l,by simp⟩⟩
   .rw[bo<|b8 Y] at J;let(u',r',q):=hl j y v' B J e3;refine⟨u',r',?_⟩;rcases q with⟨k,e⟩|⟨k,c,e,z⟩
    .refine .inl ⟨k,?_⟩
     have:y≠x:=λe=>Y<|Rk hN B<|e▸hi
     lk
    .exact .inr ⟨k,c,e,z.sameBut D<|N y c e⟩
  .let(w',z):=I.cell y c e;exact⟨w',z.sameBut D<|N y c e⟩
  .let(e,n,ne,nf,d):=I.pin p hp;exact⟨(D.2 p.1 ne).trans e,n,ne,nf,d⟩
 .have U:X.fn x=true:=by lk
  let(c,O):=I.ok.has x<|.inl l;let(w',z):=I.cell x c O;refine wpAny_storeName_cell I.ok.kind l O z<|λg t D=>?_;let(oc,hoc,am9):=id z;refine h {s with heap:=g} ⟨I.ok,I.os,I.bare,⟨λb o e n T G=>?_,λb o e n T G=>?_,I.base.free,λb o e G=>?_,I.base.tups,I.base.tM⟩,⟨m,hn.sameBut D<|b8 (N x c O),λj y v' B J e3=>?_⟩,λy c' e=>?_,I.free,I.pI,λp hp=>?_,C ⟨oc,hoc,I.pI x c O⟩ D,by simpa using I.len⟩ ⟨c,D,.inr O⟩
  .exact(D.2 b<|cw<|bz (bX e)<|I.ok.cab x c U O).trans<|I.base.keep b o e n T G
  .let(sl,B):=I.base.slot b o e n T G;exact⟨sl,(D.2 b<|cw<|bz (bX e)<|I.ok.cab x c U O).trans B⟩
  .let(o',B):=I.base.there b o e G;exact⟨o',(D.2 b<|cw<|bz (bX e)<|I.ok.cab x c U O).trans B⟩
  .by_cases Y:j=i
   .subst Y;rw[hi] at B;cases B;rw[be L] at J;cases J;exact⟨u,r,.inr ⟨.inl l,c,O,t⟩⟩
   .rw[bo<|b8 Y] at J;let(u',r',q):=hl j y v' B J e3;refine⟨u',r',?_⟩;rcases q with q|⟨k,c',e,z'⟩
    .exact .inl q
    .refine .inr ⟨k,c',e,z'.sameBut D ?_⟩;rintro rfl;exact Y<|Rk hN B<|I.ok.inj _ _ _ e O▸hi
  .by_cases f:c'=c
   .subst f;exact⟨_,t⟩
   .let(w2,z2):=I.cell y c' e;exact⟨w2,z2.sameBut D f⟩
  .let(e,n,ne,nf,d):=I.pin p hp;refine⟨(D.2 p.1 ?_).trans e,n,ne,nf,d⟩;intro q;rw[q,hoc] at e;have q':oc=p.2:=bm e;calc d w' (by rw[<-q'];calc am9)
def GQ (I:Inv X B N H s)(G:X.N.Nodup)(hi:X.N[i]? =#[x])(L:Loc X.env.scope x)(r:RelV v u)
  (h:∀C,Inv X B (N.set i<|#[v]) H C->Q ⟨⟩ C)(J:(X.fn x=true\/X.env.scope.names.lookup x=some .local)∣3):wpAny M A (storeName X.env x u) Q E s:=
 Ni I G hi L r (λC D _=>h C D) J
def Inv.call' (I:Inv X A O H s)(J:B.os=s.os)(u:Un (frs X.stack) ch H E s.heap B.heap)(f:j7 X.prog X.w E B.heap)(N:AllBare B.gens)
  (D:∀b∈ch,(b∈X.ex\/X.s₀.heap.objs.size<=b)/\b≠X.env.locals/\(∀x c,X.env.cells.lookup x=#[c]->c≠b)/\∀p∈X.pn++A,p.1≠b):Inv X A O E B:=by
 let(g,G,C,M,L):=B;have e:L=s.os:=J;subst e;calc I.call (g':=G) (t':=M) (d':=C) u f N D
end
abbrev NE:Value->Shared->Prop:=λ_ _=>False
abbrev St:=List<|↑V
abbrev VK:=V->Hp->Prop
abbrev TE:=St->Hp->VK->Prop
abbrev TT:=St->Hp->(Bool->Hp->Prop)->Prop
abbrev TA:=St->Hp->(¬V->Hp->Prop)->Prop
structure Ends where
 nx:St->Hp->Prop
 rt:VK
abbrev TS:=Ends->St->Hp->Prop
def EP (X:Cx)(A:¬(Addr×Obj))(C:St)(Q:VK)(u:Value)(B:Shared):Prop:=∃v E,Inv X A C E B/\RelV v u/\Q v E
def TP (X:Cx)(A:¬(Addr×Obj))(C:St)(Q:Bool->Hp->Prop)(b:Bool)(B:Shared):Prop:=∃E,Inv X A C E B/\Q b E
def AP (X:Cx)(A:¬(Addr×Obj))(C:St)(Q:¬V->Hp->Prop)(us:¬Value)(B:Shared):Prop:=∃J E,Inv X A C E B/\Vals J us/\Q J E
def SP (X:Cx)(A:¬(Addr×Obj))(D:Ends)(f:Flow)(C:Shared):Prop:=
 match f with
 |.next=>∃B E,Inv X A B E C/\D.nx B E
 |.ret u=>∃v B E,Inv X A B E C/\RelV v u/\D.rt v E
 |_=>False
def PE (X:Cx)(e:Expr)(t:TE):Prop:=
 ∀(A:¬(Addr×Obj)) (s:Shared) (B:St) (H:Hp) (Q:VK),Inv X A B H s->t B H Q->(X.prog\X.w) X.A (eval e X.env) (EP X A B Q) NE s
def PT (X:Cx)(e:Expr)(t:TT):Prop:=
 ∀(A:¬(Addr×Obj)) (s:Shared) (B:St) (H:Hp) (Q:Bool->Hp->Prop),Inv X A B H s->t B H Q->(X.prog\X.w) X.A (isTrue e X.env<|eval e X.env) (TP X A B Q) NE s
def PW (X:Cx)(e:Expr)(t:TT):Prop:=
 ∀(nF:Sem Value) (A:¬(Addr×Obj)) (s:Shared) (B:St) (H:Hp) (Q:Bool->Hp->Prop),Inv X A B H s->t B H Q->(X.prog\X.w) X.A (isTrue e X.env nF) (TP X A B Q) NE s
def PW.pt (h:PW X e t):PT X e t:=h _
def PA (X:Cx)(D:¬Expr)(t:TA):Prop:=
 ∀(B:Pos) (A:¬(Addr×Obj)) (s:Shared) (C:St) (H:Hp) (Q:¬V->Hp->Prop),Inv X A C H s->t C H Q->(X.prog\X.w) X.A (spliced<|backTo B<|starEach D X.env) (AP X A C Q) NE s
def PS (X:Cx)(st:Stmt)(t:TS):Prop:=
 ∀(A:¬(Addr×Obj)) (s:Shared) (B:St) (H:Hp) (D:Ends),Inv X A B H s->t D B H->(X.prog\X.w) X.A (exec st X.env) (SP X A D) NE s
def jy (X:Cx)(st:¬Stmt)(t:TS):Prop:=
 ∀(A:¬(Addr×Obj)) (s:Shared) (B:St) (H:Hp) (D:Ends),Inv X A B H s->t D B H->(X.prog\X.w) X.A (execs st X.env) (SP X A D) NE s
def aV (h:wpAny M A t Q E s)(C:∀a s,Q a s->B a s):wpAny M A t B E s:=eB h C λ_ _ x=>x
section
def ahS (i:Nat):TE:=λB H Q=>∃v,B[i]? =#[#[v]]/\Q v H
def tC (v:V):TE:=λ_ H Q=>Q v H
def aaE (E:X.N[i]? =#[x])(T:Vis X.env.scope x)(G:((x==("__debug__":Str))=false)∣1)(D:((x==("__classdict__":Str))=false)∣1):PE X (.Name x U) (ahS i):=by
 intro C s Y H Q I h;let(v,e,h):=h;let(m,L,N):=I.loc;let(u,r,l):=N i x v E e T;have B:EP X C Y Q u s:=(v,H,I,r,h);rcases l with⟨M,J⟩|⟨M,c,O,A⟩
 .exact wpAny_Name (wpAny_loadName_local I.ok.kind M L J B) G
 .rcases M with M|M
  .exact wpAny_Name (wpAny_loadName_cell I.ok.kind M O A B) G
  .calc wpAny_Name (wpAny_loadName_free I.ok.kind M O A B D) G
def aH {i j A}:PE X (.Constant (.int i) j A) (tC<|.int i):=λ_ _ _ H _ I h=>wpAny_Constant_int ⟨.int i,H,I.tok _,⟨_,rfl⟩,h⟩
def rC {b j A}:PE X (.Constant (.bool b) j A) (tC<|.bl b):=λ_ _ _ H _ I h=>Constant_bool (.bl b,H,I,rfl,h)
def sE {j A}:PE X (.Constant .none j A) (tC .non):=λ_ _ _ H _ I h=>Constant_none (.non,H,I,rfl,h)
def aX {x j A}:PE X (.Constant (.str x) j A) (tC<|.str x):=λ_ _ _ H _ I h=>Calls.Constant_str ⟨.str x,H,I.tok _,⟨_,rfl⟩,h⟩
def Gl (X:Cx)(x:Str):Prop:=X.env.kindOf x=some .globalImplicit
def Ec (I:Inv X A D H s)(N:Gl X x)(B:X.mg x=#[u])(h:Q u s)
  (G:((x==("__debug__":Str))=false)∣1):(X.prog\X.w) X.A (eval (.Name x C) X.env) Q E s:=
 nt I.ok.kind N (Calls.loadGlobal_global (by rw[I.ok.glob];calc I.mod.glob.keeps I.bk) B h) G
def sG (I:Inv X A L H s)(N:Gl X x)(B:X.mg x=none)(M:bootBuiltins x=#[u])(h:Q u s)
  (C:(x≠"__name__")∣1)(G:((x==("__debug__":Str))=false)∣1):(X.prog\X.w) X.A (eval (.Name x D) X.env) Q E s:=by
 let(J,h1,h2):=I.mod.blt;calc nt I.ok.kind N (Calls.loadGlobal_builtin (by rw[I.ok.glob];calc I.mod.glob.keeps I.bk) B (by rw[I.ok.blt];calc h1.keeps I.bk) ((h2 x C).trans M) h) G
def jD (N:Gl X x)(A:X.mg x=#[u])(r:RelV v u)(G:((x==("__debug__":Str))=false)∣1):PE X (.Name x B) (tC v):=
 λ_ _ _ H _ I h=>Ec I N A (v,H,I,r,h) G
def xP (N:Gl X x)(A:X.mg x=none)(M:bootBuiltins x=#[u])(r:RelV v u)(C:(x≠"__name__")∣1)(G:((x==("__debug__":Str))=false)∣1):PE X (.Name x B) (tC v):=
 λ_ _ _ H _ I h=>sG I N A M (v,H,I,r,h) C G
variable {A:Pos}
def PC (X:Cx)(G:CmpOp)(a b:Expr)(t:TE):Prop:=
 ∀(B:¬(Addr×Obj)) (s:Shared) (E:St) (H:Hp) (Q:VK),Inv X B E H s->t E H Q->
  (X.prog\X.w) X.A (eval a X.env) (λv C=>(X.prog\X.w) X.A (eval b X.env) (λu D=>(X.prog\X.w) X.A (compareOp G v u) (EP X B E Q) NE D) NE C) NE s
def acT (b:Expr)(h:G≠ .In)(h2:G≠ .NotIn):behindInMarks G b=false:=by
 have B:(G==CmpOp.In)=false:=by cases G<;>first|rfl|exact absurd rfl h
 have C:(G==CmpOp.NotIn)=false:=by cases G<;>first|rfl|exact absurd rfl h2
 cases b<;>simp[behindInMarks,B,C]
def Br (B:TE):TE:=λC H Q=>B C H λx E=>Q (.bl<|decide<|x=.non) E
def RelV.acU (r:RelV x v):(v==Value.none)=decide (x=.non):=by
 cases x with
 |non=>cases r;rfl
 |bl _=>cases r;rfl
 |int _=>let(t,rfl):=r;rfl
 |str _=>let(t,rfl):=r;rfl
 |ref _=>cases r;rfl
 |ty _=>cases r;rfl
def Ik {j C}(G:PE X a M):PC X .Is a (.Constant .none j C) (Br M):=by intro B s N H Q I h;refine aV (G B s N H _ I h) ?_;rintro v O ⟨x,E,D,L,J⟩;calc Constant_none<|is_none_gen (.bl _,E,D,by rw[L.acU];rfl,J)
def tB (t:TE):TT:=λB H Q=>t B H λx E=>∃c,x=.bl c/\Q c E
def uW (h:PC X G a b t)(h1:behindInMarks G b=false:=by first|calc acT _ ⋯ ⋯|rfl):PT X (.Compare a [G] [b] A) (tB t):=by intro B s M H Q I C;refine pf (aV (h B s M H _ I C) λv O h1=>aV h1 λu N h2=>aV h2 ?_) h1;rintro c T ⟨x,E,D,L,J⟩;let(d,rfl,q):=J;cases L;calc cq (E,D,q)
variable {rest:¬Expr}
def Rm (t u:TT):TT:=λB H Q=>t B H λc E=>if c=true then u B E Q else Q false E
def Ww (t u:TT):TT:=λB H Q=>t B H λc E=>if c=true then Q true E else u B E Q
def Yx (t:TT):TT:=λB H Q=>t B H λc E=>Q (not c) E
def xQ (G:PT X a C):PW X (.BoolOp .And [a] A) C:=by
 intro E B s D H Q I h;refine isTrue_and<|aV (G B s D H Q I h) λc O e=>?_;cases c with
 |true=>calc isTrue_and_nil e
 |false=>calc e
def pJ (G:PT X a C):PW X (.BoolOp .Or [a] A) C:=by
 intro E B s D H Q I h;refine isTrue_or<|aV (G B s D H Q I h) λc O e=>?_;cases c with
 |false=>calc isTrue_or_nil e
 |true=>calc e
def Bs (L:PT X a N)(M:PW X (.BoolOp .And (b::rest) A) C):PW X (.BoolOp .And (a::b::rest) A) (Rm N C):=by
 intro T B s G H Q I h;refine isTrue_and<|aV (L B s G H _ I h) ?_;rintro c O ⟨E,D,J⟩;cases c with
 |true=>calc M T B O G E Q D J
 |false=>calc(E,D,J)
def rD (L:PT X a N)(M:PW X (.BoolOp .Or (b::rest) A) C):PW X (.BoolOp .Or (a::b::rest) A) (Ww N C):=by
 intro T B s G H Q I h;refine isTrue_or<|aV (L B s G H _ I h) ?_;rintro c O ⟨E,D,J⟩;cases c with
 |true=>calc(E,D,J)
 |false=>calc M T B O G E Q D J
def Il (G:PT X a C):PT X (.UnaryOp .Not a A) (Yx C):=by intro B s D H Q I h;calc isTrue_not<|G B s D H (λc E=>Q (not c) E) I h
def afj (C D:TE):TE:=λB H Q=>C B H λx E=>∃c,x=.bl c/\if c=true then D B E Q else Q (.bl false) E
def Im {G}(h:PE X a t):PE X (.BoolOp G [a] A) t:=λB s D H Q I C=>BoolOp_one<|h B s D H Q I C
def Rn (G:PE X a N)(L:PE X (.BoolOp .And (b::rest) A) T):PE X (.BoolOp .And (a::b::rest) A) (afj N T):=by
 intro B s C H Q I h;refine BoolOp_and<|aV (G B s C H _ I h) ?_;rintro v O ⟨x,E,D,M,J⟩;let(c,rfl,J):=J;cases M;refine cq ?_;cases c with
 |true=>calc L B O C E Q D J
 |false=>calc(.bl false,E,D,rfl,J)
def tIf (t:TT)(C D:TE):TE:=λB H Q=>t B H λc E=>if c=true then C B E Q else D B E Q
def Ro (M:PT X c N)(G:PE X a T)(L:PE X b U):PE X (.IfExp c a b A) (tIf N T U):=by
 intro B s C H Q I h;refine wpAny_IfExp<|aV (M B s C H _ I h) ?_;rintro d O ⟨E,D,J⟩;cases d with
 |true=>calc G B O C E Q D J
 |false=>calc L B O C E Q D J
end
def aQ (K:Frag)(H:Hp)(a:Addr)(xs:¬V):Prop:=
 Rd H a (.lst xs)\/
  ∃(o:Obj) (A:Array Value) (n:Nat),K.lookup a=#[o]/\o.cls=.type "list"/\o.dict=none/\o.data=.seq A n/\A.size<=sizeLine/\Vals xs A.toList
def bK (K:Frag)(H:Hp)(a:Addr)(xs:¬V):Prop:=
 Rd H a (.tup xs)\/
  ∃(o:Obj) (A:Array Value) (n:Nat),K.lookup a=#[o]/\o.cls=.type "tuple"/\o.data=.seq A n/\A.size<=sizeLine/\Vals xs A.toList
def ana:Value->↑V
 |.none=>some .non
 |.bool b=>#[.bl b]
 |.int i _=>#[.int i]
 |.str x _=>#[.str x]
 |.ref a=>#[.ref a]
 |.type n=>#[.ty n]
 |_=>none
def RelV.abs (r:RelV x u):ana u=#[x]:=by
 cases x with
 |non=>cases r;rfl
 |bl _=>cases r;rfl
 |int _=>let(t,rfl):=r;rfl
 |str _=>let(t,rfl):=r;rfl
 |ref _=>cases r;rfl
 |ty _=>cases r;rfl
def RelV.inj (r:RelV x u)(q:RelV y u):x=y:=bm<|r.abs.symm.trans q.abs
theorem Vals.inj (h:Vals xs us)(g:Vals ys us):xs=ys:=by
 induction h generalizing ys with
 |nil=>cases g;rfl
 |cons r _ A=>
  cases g with
  |cons C M=>rw[r.inj C,A M]
section
variable {xs ys:¬V}
def aQ.of {K:Frag}(h:H a=#[.lst xs]):aQ K H a xs:=.inl<|.inl h
def bK.of {K:Frag}(h:H a=#[.tup xs]):bK K H a xs:=.inl<|.inl h
def Inv.list (I:Inv X B E H s)(h:aQ X.K H a xs):∃A:¬Value,Vals xs A/\PlainL s.heap a A.toArray/\(!xs)<=sizeLine:=by
 rcases h with h|⟨o,A,n,M,O,G,D,C,r⟩
 .let(z,A,n,r,e):=h.ok I.hok;exact(A,r,(_,n,e,rfl,rfl,rfl),z)
 .refine(A.toList,r,(o,n,I.o9 a o M,O,G,by simpa using D),?_);have e:=!r;grind
def Inv.tuple (I:Inv X B E H s)(h:bK X.K H a xs):∃A:¬Value,Vals xs A/\IsTup s.heap a A.toArray/\(!xs)<=sizeLine:=by
 rcases h with h|⟨o,A,n,M,O,D,C,r⟩
 .let(z,A,r,p):=h.ok I.hok;exact(A,r,p,z)
 .refine(A.toList,r,(o,I.o9 a o M,O,n,by simpa using D),?_);have e:=!r;erw[bt] at e;lk
def Inv.yX (I:Inv X E N H s)(h:aQ X.K H a xs)(h':aQ X.K H a ys):xs=ys:=by
 let(B,r,(o,n,e,_,_,d),_):=I.list h;let(A,J,(M,L,D,_,_,C),_):=I.list h';rw[e] at D;cases D;rw[d] at C;injection C with G _
 have:B=A:=‹b9 toList G›
 subst this;calc r.inj J
def Inv.Nj (I:Inv X E N H s)(h:bK X.K H a xs)(h':bK X.K H a ys):xs=ys:=by
 let(B,r,(o,e,_,n,d),_):=I.tuple h;let(A,J,(M,D,_,L,C),_):=I.tuple h';rw[e] at D;cases D;rw[d] at C;injection C with G _
 have:B=A:=‹b9 toList G›
 subst this;calc r.inj J
end
section
variable {st:Stmt}{rest:¬Stmt}
def jF:TS:=λD B H=>D.nx B H
def iC (t u:TS):TS:=λD B H=>t {D with nx:=u D} B H
def bA:jy X [] jF:=λ_ _ B H _ I h=>jn (B,H,I,h)
def ak (h1:PS X st t)(h2:jy X rest u):jy X (st::rest) (iC t u):=by
 intro A s G H D I h;refine wpAny_execs_cons<|aV (h1 A s G H {D with nx:=u D} I h) λf O q=>?_;cases f with
 |next=>let(B,E,C,q):=q;calc h2 A O B E D C q
 |_=>calc q
def aM (h1:PS X st t):jy X [st] t:=by
 intro A s B H D I h;refine wpAny_execs_cons<|aV (h1 A s B H D I h) λf O q=>?_;cases f with
 |next=>calc jn q
 |_=>calc q
def Inv.quiet (I:Inv X A B H s):interactive X.env=false:=by simp[interactive,I.ok.kind]
def gk (te:TE):TS:=λD B H=>te B H λ_ E=>D.nx B E
def cB (Q:PE X e te)(J:(swapsWith e none B.line X.env=pure false)∣0):PS X (.Expr e B) (gk te):=by intro A s C H D I h;refine wpAny_Expr_any (aV (Q A s C H _ I h) ?_) I.quiet J;rintro v O ⟨x,E,G,M,L⟩;calc(C,E,G,L)
def tO (te:TE):TS:=λD B H=>te B H D.rt
def bD (Q:PE X e te):PS X (.Return #[e] G) (tO te):=by intro A s B H D I h;refine wpAny_Return_some<|aV (Q A s B H _ I h) ?_;rintro v O ⟨x,E,C,L,J⟩;calc(x,B,E,C,L,J)
def cR (c:TT)(t u:TS):TS:=λD B H=>c B H λb E=>if b=true then t D B E else u D B E
def bQ (M:PT X c tc)(G:jy X a t)(L:jy X b u):PS X (.If c a b N) (cR tc t u):=by
 intro A s B H D I h;refine wpAny_If<|aV (M A s B H _ I h) ?_;rintro d O ⟨E,C,J⟩;cases d with
 |true=>calc G A O B E D C J
 |false=>calc L A O B E D C J
def aaF:TS:=λ_ _ _=>False
def lF:PS X st aaF:=λ_ _ _ _ _ _ h=>h.elim
end
abbrev TG:=V->St->Hp->(St->Hp->Prop)->Prop
abbrev Wx:=¬V->St->Hp->(St->Hp->Prop)->Prop
def PG (X:Cx)(A:Expr)(t:TG):Prop:=
 ∀(B:¬(Addr×Obj)) (s:Shared) (D:St) (H:Hp) (v:V) (u:Value) (Q:St->Hp->Prop),Inv X B D H s->RelV v u->t v D H Q->
  (X.prog\X.w) X.A (assign A X.env u) (λ_ G=>∃C E,Inv X B C E G/\Q C E) NE s
def sI (X:Cx)(I:¬Expr)(t:Wx):Prop:=
 ∀(A:¬(Addr×Obj)) (s:Shared) (D:St) (H:Hp) (J:¬V) (C:¬Value) (Q:St->Hp->Prop),Inv X A D H s->Vals J C->t J D H Q->
  (X.prog\X.w) X.A (assignInOrder ((assignEach I X.env).map (·.2)) C) (λ_ G=>∃B E,Inv X A B E G/\Q B E) NE s
abbrev Yy:=V->V->V->Hp->(Hp->Prop)->Prop
def yZ (X:Cx)(t:Yy):Prop:=
 ∀(A:¬(Addr×Obj)) (s:Shared) (D:St) (H:Hp) (o i v:V) (C B u:Value) (Q:Hp->Prop),Inv X A D H s->RelV o C->RelV i B->RelV v u->t o i v H Q->
  (X.prog\X.w) X.A (setItem C B u) (λ_ G=>∃E,Inv X A D E G/\Q E) NE s
abbrev TIp:=V->V->Hp->VK->Prop
def Bb (X:Cx)(G:Operator)(t:TIp):Prop:=
 ∀(A:¬(Addr×Obj)) (s:Shared) (B:St) (H:Hp) (x y:V) (v u:Value) (Q:VK),Inv X A B H s->RelV x v->RelV y u->t x y H Q->
  (X.prog\X.w) X.A (inplaceOp G v u) (EP X A B Q) NE s
section
variable {A:Pos}
def cC (i:Nat):TG:=λv B H Q=>Q (B.set i<|#[v]) H
def xR (C:X.N.Nodup)(hi:X.N[i]? =#[x])(G:Loc X.env.scope x)(E:(X.fn x=true\/X.env.scope.names.lookup x=some .local)∣3):PG X (.Name x A) (cC i):=by intro B s L H v u Q I r h;calc wpAny_assign_Name<|GQ I C hi G r (λJ D=>(_,H,D,h)) E
def anb (K:Frag)(n:Nat)(t:Wx):TG:=λv B H Q=>∃a D,v=.ref a/\bK K H a D/\(!D)=n/\t D B H Q
def ahT (h:sI X D t)
  (O:((!(assignEach D X.env))=n)∣0)(C:((assignEach D X.env).findIdx? (·.1)=none)∣0):PG X (.Tuple D k A) (anb X.K n t):=by
 intro B s J H v u Q I r E;let(a,l,M,T,N,E):=E;subst M;cases r;let(j,G,U,m):=I.tuple T;refine assign_Tuple_tuple I.ok.hd U (by simp[O,←N,!G]) C λg Y=>?_;have L:Inv X B J H {s with heap:=g}:=I.kept (t':=s.toks) λb o e=>Y b o (cw<|bX e) e;calc h B _ J H l _ Q L ‹G› E
def GR (G D:TE)(t:Yy):TG:=λv B H Q=>G B H λo E=>D B E λi J=>t o i v J λC=>Q B C
def Rp (U:PE X o b)(hi:PE X i z)(Y:yZ X t)
  (T:∀v,assign (.Subscript o i A) X.env v=(do
   let C<-holding [v] (eval o X.env);let D<-holding [v,C] (eval i X.env)
   standAt A
   holding [v,C,D] (setItem C D v)
   release [v,C,D] []):=by intro _;rfl):PG X (.Subscript o i A) (GR b z t):=by
 intro B s E H v u Q I r h;rw[T];refine ab<|fb<|aV (U B s E H _ I h) ?_;rintro C p ⟨x,G,M,l,j⟩;refine ab<|fb<|aV (hi B p E G _ M j) ?_;rintro D q ⟨y,J,N,m,k⟩;refine ab<|nV<|ab<|fb<|aV (Y B q E J x y v C D u _ N l m r k) ?_;rintro _ c ⟨L,O,g⟩;calc wpAny_release (E,L,O,g)
def gZ (te:TE)(g:TG):TS:=λD B H=>te B H λx E=>g x B E D.nx
def Bt (Q:PE X e te)(N:PG X C g)(L:(swapsWithSole [C] e A.line X.env=pure false)∣0)(M:(swappedStores [C] e X.env=pure none)∣0)
  (h1:((assignEach [C] X.env).map (·.2)=[assign C X.env])∣0):PS X (.Assign [C] e A) (gZ te g):=by
 intro B s E H D I h;refine wpAny_Assign_stores (aV (Q B s E H _ I h) ?_) L M;rintro v U ⟨x,G,J,T,O⟩;rw[h1];calc aV (N B U E G x v _ J T O) λ_ Y q=>q
def Bu (J:X.N.Nodup)(hi:X.N[i]? =#[x])(O:Loc X.env.scope x)(Q:PE X e te)(M:(swapsWith e (#[.Name x C]) A.line X.env=pure false)∣0)(L:(X.fn x=true\/X.env.scope.names.lookup x=some .local)∣3):
  PS X (.Assign [.Name x C] e A) (gZ te<|cC i):=by
 intro B s Y H D I h;refine wpAny_Assign_Name (aV (Q B s Y H _ I h) ?_) M;rintro v j ⟨y,E,G,U,T⟩;calc GQ G J hi O U (λk N=>(_,E,N,T)) L
def anc (i:Nat)(te:TE)(C:TIp):TS:=λD B H=>∃x,B[i]? =#[#[x]]/\te B H λy E=>C x y E λz J=>D.nx (B.set i<|#[z]) J
def ahU (p:X.N.Nodup)(hi:X.N[i]? =#[x])(J:Loc X.env.scope x)(t:PE X e te)(a:Bb X N ti)(b:(X.fn x=true\/X.env.scope.names.lookup x=some .local)∣3):
  PS X (.AugAssign (.Name x O) N e A) (anc i te ti):=by
 intro B s Q H D I h;let(v,o,h):=h;let(m,n,d):=I.loc;have L:Vis X.env.scope x:=by rcases J with k|k;calc .inl k;exact .inr<|.inl k
 let(u,r,l):=d i x v hi o L;refine wpAny_AugAssign_Name ?_;have go:(X.prog\X.w) X.A (eval e X.env) (λw E=>(X.prog\X.w) X.A (inplaceOp N u w) (λr G=>(X.prog\X.w) X.A (storeName X.env x r) (λ_=>SP X B D .next) NE G) NE E) NE s:=by refine aV (t B s Q H _ I h) ?_;rintro w s1 ⟨y,T,Y,r1,q1⟩;refine aV (a B s1 Q T v y u w _ Y r r1 q1) ?_;rintro z s2 ⟨zv,U,j,r2,q2⟩;exact GQ j p hi J r2 (λs3 g=>(_,U,g,q2)) b
 rcases l with⟨M,f⟩|⟨M,c,q,C⟩
 .exact wpAny_loadName_local I.ok.kind M n f go
 .rcases M with M|M
  .exact wpAny_loadName_cell I.ok.kind M q C go
  .rcases J with k|k
   .have:X.env.scope.names.lookup x=some .free:=M
    lk
   .have:X.env.scope.names.lookup x=some .free:=M
    lk
def afk (T Q te:TE)(B:V->V->Hp->VK->Prop)(G:TIp)(C:Yy):TS:=λD E H=>T E H λo I=>Q E I λi J=>B o i J λx L=>te E L λy M=>G x y M λz N=>C o i z N λO=>D.nx E O
def ahV (X:Cx)(t:V->V->Hp->VK->Prop):Prop:=
 ∀(B:¬(Addr×Obj)) (s:Shared) (E:St) (H:Hp) (o i:V) (D C:Value) (Q:VK),Inv X B E H s->RelV o D->RelV i C->t o i H Q->
  (X.prog\X.w) X.A (getItem D C) (EP X B E Q) NE s
def Wy (n:PE X o to)(hi:PE X i ti)(f:ahV X L)(d:PE X e te)(w:Bb X a O)(x:yZ X M)
  (c:∀G E C,augStore i G E C=(do holding [C,G,E] (setItem G E C);release [C,G,E] [];pure .next):=by intros;rfl):PS X (.AugAssign (.Subscript o i T) a e A) (afk to ti te L O M):=by
 intro B s J H D I h;refine wpAny_AugAssign_SubscriptAny (aV (n B s J H _ I h) ?_) c;rintro G s1 ⟨U,j,r,Q,q1⟩;refine aV (hi B s1 J j _ r q1) ?_;rintro E s2 ⟨Y,k,t,m,q2⟩;refine aV (f B s2 J k U Y G E _ t Q m q2) ?_;rintro N s3 ⟨x3,g,u,r3,q3⟩;refine aV (d B s3 J g _ u q3) ?_;rintro v s4 ⟨x4,l,y,r4,q4⟩;refine aV (w B s4 J l x3 x4 N v _ y r3 r4 q4) ?_;rintro C s5 ⟨x5,p,z,r5,q5⟩;refine aV (x B s5 J p U Y x5 G E C _ z Q m r5 q5) ?_;rintro _ s6 ⟨q,b,q6⟩;calc(J,q,b,q6)
def ipI (f:Int->Int->Int):TIp:=λx y H Q=>∃i j,x=.int i/\y=.int j/\Q (.int<|f i j) H
def ahW:Bb X .Add (ipI λi j=>i+j):=by intro B s D H x y v u Q I L m h;let(i,j,C,G,q):=h;subst C;subst G;let(t,rfl):=L;let(M,rfl):=m;calc iadd_int ⟨.int _,H,I.tok _,⟨_,rfl⟩,q⟩
def ahX:Bb X .Sub (ipI λi j=>i - j):=by intro B s D H x y v u Q I L m h;let(i,j,C,G,q):=h;subst C;subst G;let(t,rfl):=L;let(M,rfl):=m;calc isub_int ⟨.int _,H,I.tok _,⟨_,rfl⟩,q⟩
end
section
variable {A:Pos}
def aaH (c:TT)(I:TS):TS:=λD B H=>∃W:Nat->St->Hp->Prop,(∃m,W m B H)/\∀m B H,W m B H->
 c B H λb G=>if b=true then ∃N:St->Hp->Prop,(∀C E,N C E->∃U,U<m/\W U C E)/\I {D with nx:=N} B G else D.nx B G
def acV (o:PT X c tc)(m:jy X E d):PS X (.While c E [] A) (aaH tc d):=by
 intro B s i H D I h;let(W,(r,w),G):=h;refine wpAny_While<|codeAny_whileLoop (λn u=>∃J M,Inv X B J M u/\W n J M) ?_ r (i,H,I,w);rintro n y ⟨C,O,Y,x⟩;refine eW .never<|aV (o B y C O _ Y<|G n C O x) ?_;rintro b z ⟨Q,U,k⟩;cases b with
 |true=>
  let(N,l,k):=k;rw[ah rfl];refine eW .never<|aV (m B z C Q _ U k) λf e g=>?_;cases f with
  |next=>let(L,T,j,t):=g;let(q,p,a):=l L T t;calc(q,p,L,T,j,a)
  |ret v=>calc g
  |_=>calc g.elim
 |false=>rw[ap bn];calc jn (C,Q,U,k)
end
structure It where
 go:Nat->Hp->Prop
 yld:Nat->Hp->V->Hp->Prop
 stop:Nat->Hp->Prop
def qF (X:Cx)(A:¬(Addr×Obj))(H:Hp)(b:Addr):Prop:=
 H b=none/\b≠X.env.locals/\Not (b∈X.fs)/\(b∈X.ex\/X.s₀.heap.objs.size<=b)/\(∀x c,X.env.cells.lookup x=#[c]->c≠b)/\∀p∈X.pn++A,p.1≠b
def Inv.Bv (I:Inv X A G H s)(B: ~~~s<=b)(C:E b=none):qF X A E b:=by
 refine(C,kw<|bz I.lt B,I.am8 B,.inr<|ck I.sz B,λx c e z=>?_,λp D z=>?_)
 .let(v,q):=I.cell x c e;exact absurd (bz q.lt (by rw[z];calc B)) (gh _)
 .calc absurd (bz (bX (I.pin p D).1) (by rw[z];calc B)) (gh _)
structure Turn (P:Program)(w:World)(K:Frag)(tg:Expr)(J:It)(fp:¬Addr)(it:Addr)(tn:Nat->Heap->Prop):Prop where
 mem:it∈fp
 obj:∀i h,tn i h->∀b∈fp,∃o,h b=#[o]/\∀v,o.data≠ .cell v
 keep:∀i h h',tn i h->(∀b∈fp,∀o,h b=#[o]->h' b=#[o])->tn i h'
 item:∀(X:Cx),X.prog=P->X.w=w->X.K=K->∀(i:Nat) (uV:¬(Addr×Obj)) (s:Shared) (σ:St) (H:Hp),Inv X uV σ H s->(∀b∈fp,qF X uV H b)->tn i s.heap->J.go i H->
  (P\w) X.A (pyNext (.ref it)) (λr s1=>∃u,r=#[u]/\
   (P\w) X.A (letOwnedTupleGo tg (.ref it) u) (λ_ s2=>∃x H',Inv X uV σ H' s2/\RelV x u/\J.yld i H x H'/\tn (i+1) s2.heap/\∀b∈fp,H' b=none) NE s1) NE s
 done:∀(X:Cx),X.prog=P->X.w=w->X.K=K->∀(i:Nat) (uV:¬(Addr×Obj)) (s:Shared) (σ:St) (H:Hp),Inv X uV σ H s->(∀b∈fp,qF X uV H b)->tn i s.heap->J.stop i H->
  (P\w) X.A (pyNext<|.ref it) (λr s1=>r=none/\Inv X uV σ H s1) NE s
 self:∀(A:Around) (i:Nat) (s:Shared) (Q:Value->Shared->Prop) (E:Value->Shared->Prop),tn i s.heap->Q (.ref it) s->(P\w) A (pyIter<|.ref it) Q E s
abbrev TI:=St->Hp->(It->Hp->Prop)->Prop
def PIE (X:Cx)(A:¬(Addr×Obj))(I:St)(H:Expr)(R:It->Hp->Prop)(B:Value)(N:Shared):Prop:=
 ∃(D:Addr) (C:¬Addr) (G:Nat->Heap->Prop) (J:It) (E:Hp),B=.ref D/\Inv X A I E N/\Turn X.prog X.w X.K H J C D G/\G 0 N.heap/\(∀b∈C,qF X A E b)/\R J E
def PI (X:Cx)(C iter:Expr)(D:TI):Prop:=
 ∀(A:¬(Addr×Obj)) (s:Shared) (B:St) (H:Hp) (R:It->Hp->Prop),Inv X A B H s->D B H R->
  (X.prog\X.w) X.A (eval iter X.env) (λv O=>(X.prog\X.w) X.A (pyIter v) (PIE X A B C R) NE O) NE s
def Qh (I:s.heap D=#[o])(O:o.cls=.type n)(G:o.data=.fields vs)
    (B:["enumerate","zip","dict_itemiterator","dict_reverseitemiterator","odict_iterator","itertools.zip_longest","itertools.pairwise"].contains n=false)(C:Q ⟨⟩ s):wpAny M A (letOwnedTupleGo H (.ref D) u) Q E s:=by
  delta letOwnedTupleGo;cases H<;>first
    |calc ax C
    |(cases u<;>first
        |calc ax C
        |(refine ab (wpAny_load I ?_)
          rw[O,G];show wpAny M A (if(["enumerate","zip","dict_itemiterator","dict_reverseitemiterator","odict_iterator","itertools.zip_longest","itertools.pairwise"].contains n && vs[0]? ==#[rawInt _])=true then _ else _) Q E s;rw[ap (by intro h;rw[B,Bool.false_and] at h;cases h)];calc ax C))
def FZ (K:Frag)(a:Addr):It:=
 (λi H=>∃D x,aQ K H a D/\D[i]? =#[x],λi H x E=>E=H/\∀D,aQ K H a D->D[i]? =#[x],λi H=>∃D,aQ K H a D/\(!D)<=i)
def Itt (K:Frag)(a:Addr):It:=
 (λi H=>∃D x,bK K H a D/\D[i]? =#[x],λi H x E=>E=H/\∀D,bK K H a D->D[i]? =#[x],λi H=>∃D,bK K H a D/\(!D)<=i)
def Itr (lo:Int)(n:Nat):It:=(λi _=>i<n,λi H x E=>E=H/\x=.int (lo+i),λi _=>n<=i)
def aaK {K:Frag}(a C:Addr):Turn P w K tg (FZ K a) [C] C (λi h=>h.IsListIter C a i) where
 mem:=by simp
 obj:=λi h st b B=>by
  have e:b=C:=‹B›
  subst e;let(o,e,c,d):=st;exact⟨o,e,λv z=>by rw[d] at z;cases z⟩
 keep:=λi h g st k=>st.at λo e=>k C 's' o e
 item:=by intro X Q Y O i A s q H I E st U;subst Q Y O;let(xs,x,T,j):=U;let(l,m,p,hz):=I.list T;let(u,f,ru):=m.get j;let(G,J,y,L,M,N):=E C 's';refine wpAny_pyNext_list_item st p.isList (x:=u) ‹f› λg D sb=>?_;have r:Inv X A q H {s with heap:=g}:=I.turned (t':=s.toks) (λb o B e=>(sb.2 b B).trans e) G J L M N;let(o,e,c,d):=id D;exact⟨u,rfl,Qh (s:={s with heap:=g}) e c d ⋯ ⟨x,H,r,ru,⟨rfl,λys n=>by rw[I.yX n T];calc j⟩,D,λb B=>(E b B).1⟩⟩
 done:=by intro X Q Y O i A s q H I E st U;subst Q Y O;let(xs,T,j):=U;let(l,m,p,hz):=I.list T;let(G,J,y,L,M,N):=E C 's';have hl:=!m;exact wpAny_pyNext_list_end I.ok.hd st p.isList (by simp;lk) λg t=>⟨rfl,I.turned (t':=s.toks) (λb o B e=>t b o B e) G J L M N⟩
 self:=λ_ _ _ _ _ st h=>wpAny_pyIter_listiter st h
def Yz {K:Frag}(a C:Addr):Turn P w K tg (Itt K a) [C] C (λi h=>h.IsTupleIter C a i) where
 mem:=by simp
 obj:=λi h st b B=>by
  have e:b=C:=‹B›
  subst e;let(o,e,c,d):=st;exact⟨o,e,λv z=>by rw[d] at z;cases z⟩
 keep:=λi h g st k=>st.at λo e=>k C 's' o e
 item:=by intro X U j Q i A s q H I G st Y;subst U j Q;let(xs,x,T,l):=Y;let(D,m,p,hz):=I.tuple T;let(u,f,ru):=m.get l;let(J,L,y,M,N,O):=G C 's';refine wpAny_pyNext_tuple_item st (show s.heap.IsTuple a D.toArray from p) (x:=u) ‹f› λg E sb=>?_;have r:Inv X A q H {s with heap:=g}:=I.turned (t':=s.toks) (λb o B e=>(sb.2 b B).trans e) J L M N O;let(o,e,c,d):=id E;exact⟨u,rfl,Qh (s:={s with heap:=g}) e c d ⋯ ⟨x,H,r,ru,⟨rfl,λys n=>by rw[I.Nj n T];calc l⟩,E,λb B=>(G b B).1⟩⟩
 done:=by intro X U j Q i A s q H I G st Y;subst U j Q;let(xs,T,l):=Y;let(D,m,p,hz):=I.tuple T;let(J,L,y,M,N,O):=G C 's';have hl:=!m;exact wpAny_pyNext_tuple_end I.ok.hd st (show s.heap.IsTuple a D.toArray from p) (by simp;lk) λg t=>⟨rfl,I.turned (t':=s.toks) (λb o B e=>t b o B e) J L M N O⟩
 self:=λ_ _ _ _ _ st h=>wpAny_pyIter_tupleiter st h
def YB {K:Frag}(A:Addr)(lo:Int)(n:Nat):Turn P w K u (Itr lo n) [A] A (λi h=>IsRangeIter h A (lo+(i:Nat)*1) ((n:Int) - (i:Nat)) 1) where
 mem:=by simp
 obj:=λi h st b C=>by
  have e:b=A:=‹C›
  subst e;exact⟨_,st,λv z=>by
   have r:Data.fields _=Data.cell v:=z;cases r⟩
 keep:=λi h g st k=>k A 's' _ st
 item:=by intro X Q U O i B s j H I E st T;subst Q U O;let(G,J,y,L,M,N):=E A 's';have W:=Walks.range (prog:=X.prog) (w:=X.w) I.ok.hd A lo 1 n;refine W.item i s _ _ T st λv g Y p D q=>?_;let(t,rfl):=p;have l:Inv X B j H {s with heap:=g,toks:=Y}:=I.turned (λb o C e=>q b o ‹C› e) G J L M N;refine⟨_,rfl,Qh (s:={s with heap:=g,toks:=Y}) (n:="range_iterator") D rfl rfl ⋯ ⟨.int<|lo+i,H,l,⟨t,?_⟩,⟨rfl,rfl⟩,D,λb C=>(E b C).1⟩⟩;rw[Int.mul_one]
 done:=by intro X Q U O i B s j H I E st T;subst Q U O;let(G,J,y,L,M,N):=E A 's';exact wpAny_pyNext_range_end I.ok.hd st (by have:n<=i:=T;lk) λg m=>⟨rfl,I.turned (t':=s.toks) (λb o C e=>m b o C e) G J L M N⟩
 self:=λ_ _ _ _ _ st h=>wpAny_pyIter_rangeiter st h
section
variable {A:Expr}
def pK (K:Frag)(B:TE):TI:=λC H R=>B C H λx E=>∃a,x=.ref a/\(∃D,aQ K E a D)/\R (FZ K a) E
def acW (K:Frag)(B:TE):TI:=λC H R=>B C H λx E=>∃a,x=.ref a/\(∃D,bK K E a D)/\R (Itt K a) E
def iM {C:TE}(N:PE X l C):PI X A l (pK X.K C):=by
 intro B s Q H R I h;refine aV (N B s Q H _ I h) ?_;rintro v O ⟨x,E,D,M,L⟩;let(a,e,(j,T),q):=L;subst e;cases M;let(J,Y,p,U):=D.list T;refine kP p.isList ?_;refine(~~~O,[~~~O],_,_,E,rfl,D.kept (t':=O.toks) λb o e=>ay _ e,aaK a _,(_,bj _ rfl,rfl,rfl),λb G=>?_,q);have e:b= ~~~O:=‹G›
 subst e;calc D.Bv (av _)<|D.hok.fresh<|av _
def Rq {E:TE}(N:PE X l E):PI X A l (acW X.K E):=by
 intro B s Q H R I h;refine aV (N B s Q H _ I h) ?_;rintro v O ⟨x,G,D,M,L⟩;let(a,e,(j,T),q):=L;subst e;cases M;let(C,Y,p,U):=D.tuple T;refine wpAny_pyIter_tuple (show O.heap.IsTuple a C.toArray from p) ?_;refine(~~~O,[~~~O],_,_,G,rfl,D.kept (t':=O.toks) λb o e=>ay _ e,Yz a _,(_,bj _ rfl,rfl,rfl),λb J=>?_,q);have e:b= ~~~O:=‹J›
 subst e;calc D.Bv (av _)<|D.hok.fresh<|av _
def acX {lo hi:Int}(I:Inv X B C H s)(h1: -(2^62)<=lo)(h2:lo<2^62)(L: -(2^62)<=hi)(M:hi<2^62)
  (q:R (Itr lo (hi - lo).toNat) H):(X.prog\X.w) X.A (pyIter<|.ref (~~~s)) (PIE X B C A R) E {s with heap:=s.heap.push {cls:=.type "range",data:=.fields #[.int lo t,.int hi u,.int 1 v]},toks:=Y}:=by
 refine wpAny_pyIter_range (IsRange.new ..) (small_one h1 h2 L M) ?_;have D:Inv X B C H {s with heap:=s.heap.push {cls:=.type "range",data:=.fields #[.int lo t,.int hi u,.int 1 v]},toks:=Y}:=I.kept λb o e=>ay _ e;refine((s.heap.push {cls:=.type "range",data:=.fields #[.int lo t,.int hi u,.int 1 v]}).objs.size,[(s.heap.push {cls:=.type "range",data:=.fields #[.int lo t,.int hi u,.int 1 v]}).objs.size],_,_,H,rfl,
  D.kept (t':=Y) λb o e=>ay _ e,YB _ lo (hi - lo).toNat,?_,λb N=>?_,q)
 .have G:lo+((0:Nat):Int)*1=lo:=by simp
  have J:(((hi - lo).toNat:Nat):Int) - ((0:Nat):Int)=Builtin.Range.rangeSize lo hi 1:=by rw[rangeSize_one];split<;>lk
  show IsRangeIter _ _ (lo+((0:Nat):Int)*1) ((((hi - lo).toNat:Nat):Int) - ((0:Nat):Int)) 1;rw[G,J];exact bj _ rfl
 .have e:b=(s.heap.push {cls:=.type "range",data:=.fields #[.int lo t,.int hi u,.int 1 v]}).objs.size:=‹N›
  subst e;calc D.Bv (av _)<|D.hok.fresh<|av _
def YC (B:TA):TI:=λC H R=>B C H λJ E=>∃j:Int,J=[.int j]∧-(2^62)<=j/\j<2^62/\R (Itr 0 j.toNat) E
def Nk {p C:Pos}(N:Gl X "range")(E:X.mg "range"=none)(G:PA X [a] Q)(L:(starEach [a] X.env=[(false,eval a X.env)])∣0):PI X A (.Call (.Name "range" p) [a] [] C) (YC Q):=by
 intro B s T H R I h;refine Call_<|sG I N E boot_range<|cy (aV (G C B s T H _ I h) ?_) L rfl;rintro g Y ⟨l,U,D,M,J⟩;let(j,e,J,k,q):=J;subst e;cases M with
 |cons r O=>cases O;let(t,rfl):=r;calc call_range_1<|acX D ∅ ∅ J k ‹q›
def rE (J:It)(g:TG)(M:TS)(D:Ends)(B:St)(I:Hp):Prop:=∃W:Nat->Nat->St->Hp->Prop,(∃m,W 0 m B I)/\∀i m B H,W i m B H->
 (J.stop i H/\D.nx B H)\/(J.go i H/\∃N:St->Hp->Prop,(∀C E,N C E->∃U,U<m/\W (i+1) U C E)/\∀x E,J.yld i H x E->g x B E λG L=>M {D with nx:=N} G L)
def GX (G:TI)(g:TG)(C:TS):TS:=λD B H=>G B H λJ E=>rE J g C D B E
def xT (fp:¬Addr)(h:Heap):¬(Addr×Obj):=fp.filterMap λb=>(h b).map λo=>(b,o)
def uo (B:b∈fp)(e:h b=#[o]):(b,o)∈xT fp h:=oi.mpr (b,B,by rw[e];rfl)
def aaL (D:p∈xT fp h):p.1∈fp/\h p.1=#[p.2]:=by
 let(b,B,e):=oi.mp D;cases q:h b with
 |none=>grind
 |some o=>grind
def Inv.pinned (I:Inv X B G H s)(D:∀b∈fp,qF X B H b)(M:∀b∈fp,∃o,s.heap b=#[o]/\∀v,o.data≠ .cell v):Inv X (B++xT fp s.heap) G H s:=
 I.Wv λp E=>(aT.mp E).elim (λz=>I.pin p<|ce _ z) λz=>by let(C,e):=aaL z;let(J,L,y,_):=D p.1 C;grind
def Inv.GZ (I:Inv X (B++pl) C H s):Inv X B C H s:=I.Wv λp D=>I.pin p<|ce _<|dT _ D
def jG (hi:PI X A iter wi)(hg:PG X A g)(E:jy X j tb)
  (hs:(∀x,foldedSetIterable iter X.env x=pure x)∣4):PS X (.For A iter j [] pos) (GX wi g tb):=by
 intro B s σ H D I h;refine wpAny_For (aV (hi B s σ H _ I h) λv s1 h1=>aV h1 λitv s2 h2=>?_) hs;let(it,k,tn,J,H2,e,I2,T,st2,f2,W,(m0,w0),t):=h2;subst e;have G:∀{O:Hp},(∀b∈k,O b=none)->∀b∈k,qF X B O b:=λhn b E=>⟨hn b E,(f2 b E).2⟩;refine codeAny_forLoop_any (λn s'=>∃i L O,Inv X B L O s'/\tn i s'.heap/\(∀b∈k,O b=none)/\W i n L O) ?_ m0 ⟨0,σ,H2,I2,st2,λb E=>(f2 b E).1,w0⟩;rintro n s3 ⟨i,M,y,I3,q,l,w3⟩;rcases t i n M y w3 with⟨stop,qn⟩|⟨go,N,hN,step⟩
 .refine eW .never<|aV (T.done X rfl rfl rfl i B s3 M y I3 (G l) q stop) ?_;rintro r s4 ⟨hr,I4⟩;subst hr;exact jn ⟨M,y,I4,qn⟩
 .refine eW .never<|aV (T.item X rfl rfl rfl i B s3 M y I3 (G l) q go) ?_;rintro r s4 ⟨u,hr,h4⟩;subst hr;refine eW .never<|aV h4 ?_;rintro _ s5 ⟨x,H5,I5,r5,y5,Y,c⟩;have z:=I5.pinned (G c)<|T.obj _ _ Y;refine eW .never<|aV (hg _ s5 M H5 x u _ z r5<|step x H5 y5) ?_;rintro _ s6 ⟨Rr,H6,I6,q6⟩;refine eW .never<|aV (E _ s6 Rr H6 _ I6 q6) λf a p=>?_;have again:∀{C:St}{Q:Hp},Inv X (B++xT k s5.heap) C Q a->N C Q->∃m,m<n/\∃i L O,Inv X B L O a/\tn i a.heap/\(∀b∈k,O b=none)/\W i m L O:=λ{C Q} U w=>by let(m',hm,w7):=hN C Q w;refine⟨m',hm,i+1,C,Q,U.GZ,T.keep _ _ _ Y λb E o e=>(U.pin (b,o)<|ce _<|ce _<|uo E e).1,λb E=>?_,w7⟩;let(o,e,d):=T.obj _ _ Y b E;exact(U.pin (b,o)<|ce _<|ce _<|uo E e).2.1
  cases f with
  |next=>let(C,Q,U,w):=p;calc again U w
  |ret v=>let(x7,C,Q,U,r7,p):=p;calc⟨x7,C,Q,U.GZ,r7,p⟩
  |_=>calc p.elim
end
def afm {C:Hp->¬V->Prop}{xs:¬V}{g:TG}{I:TS}{D:Ends}{B:St}{H:Hp}(Pv:Nat->St->Hp->Prop)(L:Pv 0 B H)(O:∀i B H,i<=!xs->Pv i B H->C H xs)(Q:∀i x B H,xs[i]? =#[x]->Pv i B H->g x B H λG J=>I {D with nx:=Pv<|i+1} G J)(M:∀B H,Pv (!xs) B H->D.nx B H):rE ⟨λi H=>∃xs x,C H xs/\xs[i]? =#[x],λi H x E=>E=H/\∀xs,C H xs->xs[i]? =#[x],λi H=>∃xs,C H xs/\(!xs)<=i⟩ g I D B H:=by
 refine⟨λi m B H=>m=(!xs) - i/\i<=!xs/\Pv i B H,⟨!xs,by simp,cv _,L⟩,?_⟩;rintro i m B H ⟨rfl,N,p⟩;have q:=O i B H N p;by_cases A:i<!xs
 .refine .inr ⟨⟨xs,xs[i],q,by simp[A]⟩,Pv<|i+1,λU E T=>⟨(!xs) - (i+1),by lk,rfl,A,T⟩,λx E y=>?_⟩;let(e,y):=y;subst e;exact Q i x B _ (y xs q) p
 .have e:i=!xs:=by lk
  subst e;calc .inl ⟨⟨xs,q,av _⟩,M B H p⟩
def forL {K:Frag}{a:Addr}:=@afm λH D=>aQ K H a D
def agy {K:Frag}{a:Addr}:=@afm λH D=>bK K H a D
abbrev R2:=V->V->Hp->VK->Prop
def cF (X:Cx)(f:Value->Value->Sem Value)(r:R2):Prop:=
 ∀(A:¬(Addr×Obj)) (s:Shared) (B:St) (H:Hp) (x y:V) (v u:Value) (Q:VK),Inv X A B H s->RelV x v->RelV y u->r x y H Q->
  (X.prog\X.w) X.A (f v u) (EP X A B Q) NE s
def Io (X:Cx)(f:Value->Sem Value)(r:V->Hp->VK->Prop):Prop:=
 ∀(A:¬(Addr×Obj)) (s:Shared) (B:St) (H:Hp) (x:V) (v:Value) (Q:VK),Inv X A B H s->RelV x v->r x H Q->
  (X.prog\X.w) X.A (f v) (EP X A B Q) NE s
def dO (X:Cx)(f:Value)(r:¬V->Hp->VK->Prop):Prop:=
 ∀(A:¬(Addr×Obj)) (s:Shared) (B:St) (H:Hp) (D:¬V) (C:¬Value) (Q:VK),Inv X A B H s->Vals D C->r D H Q->
  (X.prog\X.w) X.A (call f C) (EP X A B Q) NE s
def ane (X:Cx)(r:V->Hp->(Bool->Hp->Prop)->Prop):Prop:=
 ∀(A:¬(Addr×Obj)) (s:Shared) (B:St) (H:Hp) (x:V) (v:Value) (Q:Bool->Hp->Prop),Inv X A B H s->RelV x v->r x H Q->
  (X.prog\X.w) X.A (truthy v) (TP X A B Q) NE s
def fC (r:R2)(A D:TE):TE:=λB H Q=>A B H λx E=>D B E λy J=>r x y J Q
def tUn (r:V->Hp->VK->Prop)(A:TE):TE:=λB H Q=>A B H λx E=>r x E Q
def rI (C:Int->Int->Prop)(g:Int->Int->V):R2:=λx y H Q=>∃i j,x=.int i/\y=.int j/\C i j/\Q (g i j) H
def Ip (g:Int->Int->V):R2:=λx y H Q=>∃i j,x=.int i/\y=.int j/\Q (g i j) H
def rU (g:Int->V):V->Hp->VK->Prop:=λx H Q=>∃i,x=.int i/\Q (g i) H
section
variable {A:Pos}
def acY (O:PE X a l)(T:PE X b o){R:V->V->Hp->Prop}(I:Inv X B E H s)
  (h:l E H λx G=>o E G λy J=>R x y J){f:Value->Value->Sem Value}
  (U:∀v u N x y J,Inv X B E J N->RelV x v->RelV y u->R x y J->(X.prog\X.w) X.A (f v u) Q NE N):
  (X.prog\X.w) X.A (eval a X.env) (λv C=>(X.prog\X.w) X.A (eval b X.env) (λu D=>(X.prog\X.w) X.A (f v u) Q NE D) NE C) NE s:=by
 refine aV (O B s E H _ I h) ?_;rintro v g ⟨x,G,L,j,Y⟩;refine aV (T B g E G _ L Y) ?_;rintro u N ⟨y,J,M,m,k⟩;calc U v u N x y J M j m k
def bY {r:R2}(D:cF X (binaryOp E) r)(G:PE X a T)(C:PE X b U):PE X (.BinOp a E b A) (fC r T U):=by intro B s Y H Q I h;calc wpAny_BinOp<|acY G C I h λv u O x y J N L M q=>D B O Y J x y v u Q N L M q
def YD (J:Io X (unaryOp L) r)(G:PE X a T):PE X (.UnaryOp L a A) (tUn r T):=by intro B s C H Q I h;refine UnaryOp_<|aV (G B s C H _ I h) ?_;rintro v O ⟨x,E,D,N,M⟩;calc J B O C E x v Q D N M
def opI {g:Int->Int->Int}
  (rule:∀(i j:Int) (t u:Tok) (s:Shared) (Q:Value->Shared->Prop) (E:Value->Shared->Prop),C i j->Q (.int (g i j) s.toks) {s with toks:=s.toks+1}->(X.prog\X.w) X.A (f (.int i t)<|.int j u) Q E s):
  cF X f (rI C λi j=>.int<|g i j):=by
 intro B s G H x y v u Q I L M h;let(i,j,rfl,rfl,O,q):=h;let(t,rfl):=L;let(D,rfl):=M;calc rule i j t D s _ _ O ⟨.int<|g i j,H,I.tok _,⟨_,rfl⟩,q⟩
def acZ {g:Int->Int->Int}
  (rule:∀(i j:Int) (t u:Tok) (s:Shared) (Q:Value->Shared->Prop) (E:Value->Shared->Prop),Q (.int (g i j) s.toks) {s with toks:=s.toks+1}->(X.prog\X.w) X.A (f (.int i t)<|.int j u) Q E s):
  cF X f (Ip λi j=>.int<|g i j):=by
 intro B s D H x y v u Q I L M h;let(i,j,rfl,rfl,q):=h;let(t,rfl):=L;let(C,rfl):=M;calc rule i j t C s _ _ ⟨.int<|g i j,H,I.tok _,⟨_,rfl⟩,q⟩
def ac0 {g:Int->Int->Bool}
  (rule:∀(i j:Int) (t u:Tok) (s:Shared) (Q:Value->Shared->Prop) (E:Value->Shared->Prop),Q (.bool<|g i j) s->(X.prog\X.w) X.A (f (.int i t)<|.int j u) Q E s):
  cF X f (Ip λi j=>.bl<|g i j):=by
 intro B s D H x y v u Q I L M h;let(i,j,rfl,rfl,q):=h;let(t,rfl):=L;let(C,rfl):=M;calc rule i j t C s _ _ (.bl<|g i j,H,I,rfl,q)
def YF (i j:Int):Prop:=0<=j/\j<=1000000/\i.natAbs<2^64
def ahZ:cF X (binaryOp .Add) (Ip λi j=>.int<|i+j):=acZ λ_ _ _ _ _ _ _ q=>add_int q
def ah0:cF X (binaryOp .Sub) (Ip λi j=>.int<|i - j):=acZ λ_ _ _ _ _ _ _ q=>sub_int q
def ah1:cF X (binaryOp .Mod) (rI (λ_ j=>0<j) λi j=>.int<|i % j):=opI λi j _ _ _ _ _ O q=>by have h1:(0:Int)<j:=O;calc mod_int' ∅ (by rw[Int.fmod_eq_emod_of_nonneg i ∅];calc q)
def ah2:cF X (binaryOp .Pow) (rI YF λi j=>.int<|i^j.toNat):=opI λ_ _ _ _ _ _ _ O q=>pow_int_small O.1 O.2.1 O.2.2 q
def ah3:cF X (binaryOp .BitXor) (Ip λi j=>.int<|Builtin.bitXor i j):=acZ λ_ _ _ _ _ _ _ q=>xor_int q
def unI {f:Value->Sem Value}{g:Int->Int}
  (rule:∀(i:Int) (t:Tok) (s:Shared) (Q:Value->Shared->Prop) (E:Value->Shared->Prop),Q (.int (g i) s.toks) {s with toks:=s.toks+1}->(X.prog\X.w) X.A (f<|.int i t) Q E s):
  Io X f (rU λi=>.int<|g i):=by
 intro B s C H x v Q I L h;let(i,rfl,q):=h;let(t,rfl):=L;calc rule i t s _ _ ⟨.int<|g i,H,I.tok _,⟨_,rfl⟩,q⟩
def aaM:Io X (unaryOp .USub) (rU λi=>.int<|-i):=unI λ_ _ _ _ _ q=>neg_int q
end
def Ir:R2:=λx y H Q=>∃i j,x=.str i/\y=.str j/\Q (.bl<|decide<|i=j) H
section
variable {A:Pos}
def Iu (I:Inv X B D H s)(q:Q (.bl k) H)(e:k=C):EP X B D Q (.bool C) s:=by subst e;calc(.bl k,H,I,rfl,q)
def gU:cF X (compareOp .Eq) Ir:=by intro B s D H x y v u Q I L M h;let(i,j,rfl,rfl,q):=h;let(t,rfl):=L;let(C,rfl):=M;calc eq_str<|Iu I q (by rw[pu];simp)
def akK:cF X (compareOp .Lt) (Ip λi j=>.bl<|decide<|i<j):=ac0 λ_ _ _ _ _ _ _ q=>lt_int q
def akL:cF X (compareOp .LtE) (Ip λi j=>.bl<|decide<|i<=j):=ac0 λ_ _ _ _ _ _ _ q=>le_int q
def akM:cF X (compareOp .Gt) (Ip λi j=>.bl<|decide<|j<i):=ac0 λ_ _ _ _ _ _ _ q=>gt_int q
def ah4:cF X (compareOp .Is) (λx y H Q=>y=.non/\Q (.bl<|decide<|x=.non) H):=by
 intro B s C H x y v u Q I L M h;let(rfl,q):=h;cases M;refine is_none_gen<|Iu I q ?_;cases x<;>first
  |(cases L;rfl)
  |(let(t,rfl):=L;rfl)
def agz:cF X (compareOp .IsNot) (λx y H Q=>y=.non/\Q (.bl<|not (decide (x=.non))) H):=by
 intro B s C H x y v u Q I L M h;let(rfl,q):=h;cases M;refine isnot_none_gen<|Iu I q ?_;cases x<;>first
  |(cases L;rfl)
  |(let(t,rfl):=L;rfl)
def Iv (b:Expr)(h:(G≠ .In)∣1)(h2:(G≠ .NotIn)∣1):behindInMarks G b=false:=by
 have B:(G==CmpOp.In)=false:=by cases G<;>first|rfl|exact absurd rfl h
 have C:(G==CmpOp.NotIn)=false:=by cases G<;>first|rfl|exact absurd rfl h2
 cases b<;>simp[behindInMarks,B,C]
def agA (L:cF X (compareOp G) r)(C:PE X a U)(D:PE X b Y)(E:behindInMarks G b=false):PE X (.Compare a [G] [b] A) (fC r U Y):=by intro B s j H Q I h;calc wpAny_Compare1 (acY C D I h λv u T x y J N M O q=>L B T j J x y v u Q N M O q) E
def ah5 (K:Frag)(x:V)(H:Hp)(k:Bool):Prop:=
 match x with
 |.non=>k=false
 |.bl b=>k=b
 |.int i=>k=(i !=0)
 |.str y=>(!y)<=sizeLine/\k=(((!y):Int) !=0)
 |.ref p=>(∃D,aQ K H p D/\k= not D.isEmpty)\/(∃D,bK K H p D/\k= not D.isEmpty)\/∃B,H p=#[.dK B]/\k= not B.isEmpty
 |_=>False
def YG (r:KV B vs):(not vs.isEmpty)= not B.isEmpty:=by cases r<;>rfl
def Iw (r:Vals xs B):(not B.toArray.isEmpty)= not xs.isEmpty:=by cases r<;>simp
def sJ:(sizeLine:Nat)<2^63:=by rw[fo];decide
def ah6:ane X (λx H Q=>∃k,ah5 X.K x H k/\Q k H):=by
 intro T s j H x v Q I L h;let(k,e,q):=h;have U:=sJ;have Y:sizeLine=16777216:=fo;cases x with
 |non=>
  cases L;have B:k=false:=e;subst B;calc truthy_none (H,I,q)
 |bl b=>
  cases L;have B:k=b:=e;subst B;calc cq (H,I,q)
 |int i=>let(t,rfl):=L;have B:k=(i !=0):=e;subst B;calc PySem.P.truthy_int (H,I,q)
 |str y=>
  let(t,rfl):=L;obtain⟨n,B⟩:(!y)<=sizeLine/\k=(((!y):Int) !=0):=e;subst B;calc og ∅ (H,I.tok _,q)
 |ref p=>
  cases L;have B:(∃E,aQ X.K H p E/\k= not E.isEmpty)\/(∃E,bK X.K H p E/\k= not E.isEmpty)\/∃C,H p=#[.dK C]/\k= not C.isEmpty:=e;rcases B with⟨E,G,B⟩|⟨E,G,B⟩|⟨C,G,B⟩
  .subst B;let(M,r,N,O):=I.list G;have D:=!r;exact wpAny_truthy_list N.isList (by erw[bp];lk) (H,I.tok _,by rw[Iw r];calc q)
  .subst B;let(M,r,N,O):=I.tuple G;have D:=!r;exact truthy_tuple N (by erw[bp];lk) (H,I.tok _,by rw[Iw r];calc q)
  .subst B;obtain⟨O,hS,J,r,m⟩:(!C)<=sizeLine/\(p==sysModules)=false/\∃J,KV C J/\s.heap.DictOf (strKind X.prog X.w) p J:=I.hok p _ G;have D:(!C)=!J:=kr r;calc wpAny_truthy_dict hS m ∅ (H,I.tok _,by rw[YG r];calc q)
 |_=>calc(show False from e).elim
def ac1 (J:PE X a T)(L:∀nF,isTrue a X.env nF=(do let v<-nF;standAt a.pos;holding [v]<|truthy v)):
  PT X a (λC H Q=>T C H λx E=>∃k,ah5 X.K x E k/\Q k E):=by
 intro B s C H Q I h;refine isTrue_plain (aV (J B s C H _ I h) ?_)<|L _;rintro v O ⟨x,D,G,N,M⟩;calc ah6 B O C D x v Q G N M
def cH:cF X (binaryOp .Add) (λx y H Q=>∃i j,x=.str i/\y=.str j/\(!i)+(!j)<=sizeLine/\Q (.str<|i++j) H):=by intro B s E H x y v u Q I L M h;let(i,j,rfl,rfl,C,q):=h;let(t,rfl):=L;let(D,rfl):=M;calc add_str (λD Y=>⟨.str<|i++j,H,I.tok _,⟨_,rfl⟩,q⟩) C
def vals1 (r:Vals [x] us):∃u,us=[u]/\RelV x u:=by
 cases r with
 |cons L m=>cases m;calc(_,rfl,L)
def vals2 (r:Vals [x,y] us):∃u B,us=[u,B]/\RelV x u/\RelV y B:=by
 cases r with
 |cons L m=>
  cases m with
  |cons C D=>cases D;calc(_,_,rfl,L,C)
def ac2:dO X (.builtin "abs") (λxs H Q=>∃i,xs=[.int i]/\Q (.int<|if i<0 then -i else i) H):=by intro B s D H xs C Q I r h;let(i,rfl,q):=h;let(u,rfl,t,rfl):=vals1 r;calc call_abs_int λu Y=>⟨.int<|if i<0 then -i else i,H,I.tok _,⟨_,rfl⟩,q⟩
def aaN:dO X (.builtin "max") (λxs H Q=>∃i j,xs=[.int i,.int j]/\Q (.int<|if j>i then j else i) H):=by
 intro B s G H xs D Q I r h;let(i,j,rfl,q):=h;let(u,E,rfl,(t,rfl),(M,rfl)):=vals2 r;refine max_two_ints I.ok.hd λg C k=>⟨_,H,I.kept k,?_,q⟩;by_cases Y:j>i
 .rw[ah Y,ah Y];exact⟨_,rfl⟩
 .rw[ap Y,ap Y];calc⟨_,rfl⟩
def aaO:dO X (.builtin "min") (λxs H Q=>∃i j,xs=[.int i,.int j]/\Q (.int<|if j<i then j else i) H):=by
 intro B s G H xs D Q I r h;let(i,j,rfl,q):=h;let(u,E,rfl,(t,rfl),(M,rfl)):=vals2 r;refine min_two_ints I.ok.hd λg C k=>⟨_,H,I.kept k,?_,q⟩;by_cases Y:j<i
 .rw[ah Y,ah Y];exact⟨_,rfl⟩
 .rw[ap Y,ap Y];calc⟨_,rfl⟩
end
structure G3 (h:Heap)(x dx C:Addr)(mA:Str->↑Value):Prop where
 obj:h x=#[instObj C dx]
 ns:h.Ns1 dx mA
 ne:dx≠x
def aaP {h:Heap}{E:Addr}{G:Str->↑Value}(n:h.Ns1 E G):∃O,h E=#[O]/\∀name,lookIn name O=#[G name]:=by
 let(o,D,J,I,B,M,_,C):=n;refine(o,I,λname=>?_);have e:=C name;unfold nsFind findBy at e;rw[<-Array.find?_toList] at e;unfold lookIn;rw[B];k_ne;split
 .grind
 .rename_i q;rw[q] at e;have a:D.toList.any (·.refKey)=false:=by rw[ox];intro y H;let(z,t,A):=M y<|Array.mem_toList_iff.mp H;simp[DictEntry.refKey,A]
  grind
def G3.look (I:G3 h x E C G):∃O,PySem.W.InstAt h x (instObj C E) C #[O]/\∀name,lookIn name O=#[G name]:=
 let⟨O,A,N⟩:=aaP I.ns
 (O,(I.obj,rfl,rfl,A),N)
section
variable {K:Frag}
def get_map (X:K.In s.heap)(I:G3 s.heap x T C O)(N:plainGet K C name=true)(H:hasDictIn K C=true)
  (G:findIn K (.ref C) name=#[none])(M:O name=#[v])(B:handedIn v=true)(h:Q v {s with toks:=s.toks+1}):
  (prog\w) A (getAttr (.ref x) name D) Q E s:=by
 let(U,J,L):=I.look;calc PySem.W.get_value X J (plainGet_of N).1 (PySem.W.findObj_own H G rfl<|by rw[L,M]) B h
def ac3 (X:K.In s.heap)(I:G3 s.heap x H C G)(N:plainGet K C name=true)
  (B:findIn K (.ref C) name=#[#[.ref f]])(U:isFn K (.ref f)=true)(M:G name=none)(h:Q (.ref f,[.ref x]) s):
  (prog\w) A (getMethod (.ref x) name pl) Q E s:=by
 let(O,J,D):=I.look;calc PySem.W.method_fn X J (plainGet_of N).1 (plainGet_of N).2 B (oe.mp U) (by show(lookIn name O).map (·.isSome)=#[false];rw[D,M];rfl) h
def agB (X:K.In s.heap)(I:G3 s.heap x G C O)
  (g:findIn K (.ref C) "__setattr__"=#[#[.builtin "object.__setattr__"]])(k:plainOver K C=true)(l:takerIn K C name=#[none])(j:hasDictIn K C=true)
  (m:PySem.Within O ns)(hsz:(!ns)<=sizeLine)
  (h:∀h',G3 h' x G C (λy=>if y=name then #[v] else O y)->Heap.SameBut G s.heap h'->Q ⟨⟩ {s with heap:=h',toks:=s.toks+2}):
  (prog\w) A (setAttr (.ref x) name v) Q E s:=by
 let(u,J,q):=I.look;refine PySem.W.set_plain X J g<|PySem.W.osa_open (s:={s with toks:=s.toks+1}) (r:=none) X J k l λb=>?_;let(p,Y,L):=PySem.W.any_some j;have o:s.heap x=#[(.ref C,#[G],.plain,#[])]:=I.obj;refine ab<|ax<|ab<|ab<|wpAny_loadPart o<|ab<|PySem.W.Looks.here (s:={s with toks:=s.toks+1}) (PySem.W.looks_clsIn X Y) ?_;rw[L];refine ax (a:=#[G])<|ab<|ax<|ab ?_;refine wpAny_nsSet1 (s:={s with toks:=s.toks+1}) I.ns λh' B D=>?_;let(t,U,T,N,M,H):=B.count<|PySem.Within.cons name v m;refine ab (wpAny_lookBehind N (by rw[M];calc pastItsLine_dict<|ck H (by rw[a8];lk)) ?_);calc ax<|h _ ((D.2 _<|b8 I.ne).trans I.obj,B,I.ne) D
def ac4 (X:K.In s.heap)(E:makesIn K C=true)
  (hi:findIn K (.ref C) "__init__"=#[#[.ref f]])(D:PySem.W.typeIn K (.ref f)=#[.type "function"])
  (h:codeAny (model prog w) (A.under (.builtin "type.__call__" ⟨.ref C::vs,B⟩)) (.call (.ref f) ⟨.ref (~~~s+1)::vs,B⟩) (PySem.W.InitBack (~~~s+1) R)
   {s with heap:=(s.heap.push emptyDict).push (instObj C (~~~s))}):
  codeAny (model prog w) A (.call (.ref C) ⟨vs,B⟩) R s:=by
 let(H,g,d,t,os):=s;calc PySem.W.make_core (PySem.W.makes_of X E) (PySem.W.looks_findIn X hi) (λself=>PySem.W.bind_fn X self D) (.inl rfl) h
end
def nU (f:Str)(v:V):¬(Str×V)->¬(Str×V)
 |[]=>[(f,v)]
 |(g,x)::r=>if g=f then(g,v)::r else(g,x)::nU f v r
theorem Ga (f g:Str)(v:V):∀fs:¬(Str×V),(nU f v fs).lookup g=if g=f then #[v] else fs.lookup g
 |[]=>by show List.lookup g [(f,v)]=_;grind
 |(k,x)::r=>by have A:=Ga f g v r;rw[show nU f v ((k,x)::r)=(if k=f then(k,v)::r else(k,x)::nU f v r) from rfl];grind
theorem Bw (f:Str)(v:V):∀fs:¬(Str×V),f∈(nU f v fs).map (·.1)/\∀g,g∈fs.map (·.1)->g∈(nU f v fs).map (·.1)
 |[]=>⟨by simp[nU],λg h=>by simp at h⟩
 |(k,x)::r=>by let(A,B):=Bw f v r;rw[show nU f v ((k,x)::r)=(if k=f then(k,v)::r else(k,x)::nU f v r) from rfl];grind
theorem Gb (f:Str)(v:V):∀fs:¬(Str×V),(!(nU f v fs))<=(!fs)+1
 |[]=>by simp[nU]
 |(k,x)::r=>by have A:=Gb f v r;rw[show nU f v ((k,x)::r)=(if k=f then(k,v)::r else(k,x)::nU f v r) from rfl];grind
def oV.some_of (r:oV #[v] o):∃u,o=#[u]/\RelV v u:=by
 cases o with
 |none=>calc(show False from r).elim
 |some u=>calc(u,rfl,r)
def oV.none_of (r:oV none o):o=none:=by
 cases o with
 |none=>rfl
 |some u=>calc(show False from r).elim
def aaQ (r:RelV v u):handedIn u=true:=by
 cases v with
 |non=>cases(show u=Value.none from r);rfl
 |bl b=>cases(show u=Value.bool b from r);rfl
 |int i=>let(t,e):=(show ∃t,u=Value.int i t from r);k_go;rfl
 |str x=>let(t,e):=(show ∃t,u=Value.str x t from r);k_go;rfl
 |ref a=>cases(show u=Value.ref a from r);rfl
 |ty n=>cases(show u=type n from r);rfl
section
variable {fs A:¬(Str×V)}
def K3 (B:j7 P w H h)(e:H a=#[.ins C E fs]):∃G,G3 h a E C G/\(∀f,oV (fs.lookup f) (G f))/\PySem.Within G (fs.map (·.1))/\(!fs)<=1000/\H E=#[.own a]:=by let(d,z,N,ob,G,n,r,q):=(show gj P w H h a (.ins C E fs) from B a _ e);calc(G,(ob,n,N),r,q,z,d)
end
structure Cls (K:Frag)(C:Addr):Prop where
 pg:plainGet K C Str.empty=true
 hd:hasDictIn K C=true
 po:plainOver K C=true
 sa:findIn K (.ref C) "__setattr__"=#[#[.builtin "object.__setattr__"]]
def Cls.get {K:Frag}{C:Addr}(c:Cls K C)(f:Str):plainGet K C f=true:=c.pg
def mO (K:Frag)(C:Addr)(f:Str):Prop:=findIn K (.ref C) f=#[none]
def mO.taker {K:Frag}{C:Addr}{f:Str}(n:mO K C f):takerIn K C f=#[none]:=by delta takerIn;rw[show findIn K (.ref C) f=#[none] from n];rfl
structure Meth (K:Frag)(C:Addr)(m:Str)(f:Addr):Prop where
 at_:findIn K (.ref C) m=#[#[.ref f]]
 fn:isFn K (.ref f)=true
 kp:keepIn K (.ref f)=true
section
variable {E:Value->Shared->Prop}
def YH (I:Inv X B M H s)(e:H a=#[.ins C N fs])(c:Cls X.K C)(n:mO X.K C f)(l:fs.lookup f=#[v])
  (h:∀u G,Inv X B M H G->RelV v u->Q u G):(X.prog\X.w) A (getAttr (.ref a) f b) Q E s:=by
 let(L,O,r,_,_,_):=K3 I.hok e;let(u,J,D):=oV.some_of (v:=v) (o:=L f) (by rw[<-l];calc r f);calc get_map I.o9 O (c.get f) c.hd n J (aaQ D)<|h u _ (I.tok _) D
def Iz (I:Inv X B L H s)(e:H a=#[.ins C J fs])(c:Cls X.K C)(k:Meth X.K C m g)(l:fs.lookup m=none)
  (h:Q (.ref g,[.ref a]) s):(X.prog\X.w) A (getMethod (.ref a) m pl) Q E s:=by
 let(G,O,r,_,_,_):=K3 I.hok e;have D:G m=none:=oV.none_of (by rw[<-l];calc r m);calc ac3 I.o9 O (c.get m) k.at_ k.fn D h
def YJ (I:Inv X B t H s)(e:H a=#[.ins C G fs])(c:Cls X.K C)(n:mO X.K C f)(v:(!fs)<1000)(m:RelV y u)
  (h:∀L,Inv X B t (upd H a<|.ins C G<|nU f y fs) L->Q ⟨⟩ L):(X.prog\X.w) A (setAttr (.ref a) f u) Q E s:=by
 let(l,O,r,M,_,J):=K3 I.hok e;have k:(fs.map (·.1)).length<=sizeLine:=by rw[ac,fo];lk
 refine agB I.o9 O c.sa c.po n.taker c.hd M k λT D p=>h _ ?_;have Y:∃o,T G=#[o]:=let⟨o,_,_,N,_⟩:=D.ns;⟨o,N⟩;refine I.write (x:=a) (e:=G) (by rw[e];calc dS) (.inr J) (λb q U z=>(p.2 b U).trans z) Y ?_;refine⟨by rw[au O.ne];calc J,?_,O.ne,D.obj,_,D.ns,λg=>?_,λg j=>?_⟩
 .have:=Gb f y fs;lk
 .show oV ((nU f y fs).lookup g) (if g=f then #[u] else l g);rw[Ga];by_cases q:g=f
  .rw[ah q,ah q];exact m
  .grind
 .by_cases q:g=f
  .rw[q];exact(Bw f y fs).1
  .refine(Bw f y fs).2 g<|M g λz=>j ?_;lk
def Inv.made (I:Inv X A L H s):Inv X A L (upd (upd H (~~~s)<|.own<| ~~~s+1) (~~~s+1)<|.ins C (~~~s) [])
  {s with heap:=(s.heap.push emptyDict).push<|instObj C (~~~s)}:=by
 have B:(s.heap.push emptyDict) (~~~s)=#[emptyDict]:=bj s.heap rfl;have G:((s.heap.push emptyDict).push<|instObj C (~~~s)) (~~~s+1)=#[instObj C (~~~s)]:=by have:=bj (s.heap.push emptyDict) (o:=instObj C (~~~s)) rfl;simp_all
 have J:(s.heap.push emptyDict).Ns (~~~s) (λ_=>none):=⟨emptyDict,#[],_,B,rfl,(λe Q=>absurd Q<|by simp),λ_=>rfl⟩;have D:=I.laid (a:= ~~~s) (o:=.own<| ~~~s+1) (h':=s.heap.push emptyDict) (t':=s.toks) (λb u q=>ay _ q) (av _) ⟨_,B⟩;refine D.laid (a:= ~~~s+1) (o:=.ins C (~~~s) []) (t':=s.toks) (λb u q=>ay _ q) (oD<|kQ _ _) ?_;have N: ~~~s≠s.heap.objs.size+1:=cw<|iq _;refine⟨by rw[au N,ao],cv _,N,G,λ_=>none,(Heap.Ns1.of_empty J).at λo q=>ay _ q,λ_=>dS,λy n=>absurd rfl n⟩
def agC (B:attributeBase e f env (eval e env)=eval e env)
  (h:(prog\w) A (eval e env) (λo C=>(prog\w) A (getAttr o f true) Q E C) E s):(prog\w) A (eval (.Attribute e f D) env) Q E s:=
 Attribute_any_ h (by rw[arm_eval_Attribute,B])
end
def YK (K:Frag)(B:TE)(f:Str):TE:=λD H Q=>B D H λx E=>∃a C A fs v,x=.ref a/\E a=#[.ins C A fs]/\Cls K C/\mO K C f/\fs.lookup f=#[v]/\Q v E
def ac5 (K:Frag)(G I:TE)(f:Str):TS:=λD B H=>I B H λy A=>G B A λx J=>∃a C E fs,x=.ref a/\J a=#[.ins C E fs]/\Cls K C/\mO K C f/\(!fs)<1000/\
 D.nx B (upd J a<|.ins C E<|nU f y fs)
section
variable {A B:TE}
def dB (O:PE X e A)(M:attributeBase e f X.env (eval e X.env)=eval e X.env):PE X (.Attribute e f T) (YK X.K A f):=by intro D s j H Q I h;refine agC M<|aV (O D s j H _ I h) ?_;rintro u g ⟨x,E,G,Y,a,C,k,fs,v,L,J,c,n,l,q⟩;subst L;obtain rfl:u=Value.ref a:=Y;calc YH G J c n l λo m N U=>(v,E,N,U,q)
def IK (j:PE X o A)(g:PE X E B)(k:swapsWith E (#[.Attribute o f J]) L.line X.env=pure false):PS X (.Assign [.Attribute o f J] E L) (ac5 X.K A B f):=by intro G s M H D I h;refine plainObj_wpAny_Assign_Attribute (aV (g G s M H _ I h) ?_) k;rintro u v ⟨y,N,O,t,q⟩;refine aV (j G v M N _ O q) ?_;rintro m d ⟨x,z,Q,r,a,C,b,fs,Y,U,c,n,l,p⟩;subst Y;obtain rfl:m=Value.ref a:=r;calc YJ Q U c n l t λw T=>(M,_,T,p)
end
section
variable {b:Bool}
end
structure cY (k:Nat)(A:Around):Prop where
 hd:A.handled=none
 dp:A.depth+3*k+5<recursionLimit
 un:A.units+16*k+200<cLine
def cY.mono (r:cY k A)(h:j<=k):cY j A:=(r.hd,by have:=r.dp;lk,by have:=r.un;lk)
theorem cY.deeper {k:Nat}{A:Around}(r:cY (k+1) A)(env:Env):cY k (A.deeper env):=
 (r.hd,by have:=r.dp;show A.depth+1+3*k+5<_;lk,by have:=r.un;show A.units+3+16*k+200<_;lk)
def YL {A:Around}{C:Addr}{us:¬Value}{B:¬(Str×Value)}:(A.under<|.builtin "type.__call__" ⟨.ref C::us,B⟩).depth=A.depth+1:=by rfl
def YM {A:Around}{C:Addr}{us:¬Value}{B:¬(Str×Value)}:(A.under<|.builtin "type.__call__" ⟨.ref C::us,B⟩).units=A.units+1:=by rfl
def cY.make {k:Nat}{A:Around}(r:cY (k+1) A)(C:Addr)(us:¬Value)(B:¬(Str×Value)):cY k (A.under<|.builtin "type.__call__" ⟨.ref C::us,B⟩):=
 ⟨r.hd,by have:=r.dp;rw[YL];lk,by have:=r.un;rw[YM];lk⟩
theorem cY.depth {k:Nat}{A:Around}(r:cY k A):A.depth<recursionLimit:=by have:=r.dp;lk
theorem cY.units (r:cY k A):A.units+64<cLine:=by have:=r.un;lk
def cV:TA:=λ_ H Q=>Q [] H
def cg (A:TE)(C:TA):TA:=λB H Q=>A B H λx E=>C B E λD J=>Q (x::D) J
section
variable {A:Pos}
def aq:PA X [] cV:=λ_ _ _ _ H Q I h=>k0 ([],H,I,.nil,h)
def aj (L:PE X e te)(hr:PA X D t)(M:(starEach (e::D) X.env=(false,eval e X.env)::starEach D X.env)∣0):PA X (e::D) (cg te t):=by intro A B s C H Q I h;rw[M];show wpAny _ _ (spliced ((false,eval e X.env)::backTo A (starEach D X.env))) _ _ s;refine kM<|aV (L B s C H _ I h) ?_;rintro u U ⟨x,E,G,T,O⟩;refine aV (hr A B U C E _ G O) ?_;rintro g j ⟨Y,J,N,m,k⟩;calc(x::Y,J,N,.cons T m,k)
def za (t:TA):TE:=λB H Q=>t B H λD E=>(!D)<=sizeLine/\∀p,E p=none->Q (.ref p) (upd E p<|.tup D)
def YQ (t:TA):TE:=λB H Q=>t B H λD E=>(!D)<=sizeLine/\∀p,E p=none->Q (.ref p) (upd E p<|.lst D)
def mQ {x1}(h:PA X C t):PE X (.Tuple C x1 A) (za t):=by intro B s M H Q I T;refine wpAny_Tuple_spliced<|aV (h A B s M H _ I T) ?_;rintro J O ⟨L,E,D,r,z,q⟩;refine⟨by rw[<-!r];calc z,?_⟩;have G:E (~~~O)=none:=D.hok.fresh<|av _;refine⟨.ref (~~~O),upd E (~~~O)<|.tup L,D.laid (t':=O.toks) (λb u e=>ay _ e) (av _) ?_,rfl,q _ G⟩;calc⟨z,J,r,⟨_,bj _ rfl,rfl,_,rfl⟩⟩
def xU (h:PA X C t):PE X (.List C A) (YQ t):=by intro B s M H Q I T;refine wpAny_List_spliced<|aV (h A B s M H _ I T) ?_;rintro J O ⟨L,E,D,r,z,q⟩;refine⟨by rw[<-!r];calc z,?_⟩;have G:E (~~~O)=none:=D.hok.fresh<|av _;refine⟨.ref (~~~O),upd E (~~~O)<|.lst L,D.laid (t':=O.toks) (λb u e=>ay _ e) (av _) ?_,rfl,q _ G⟩;calc⟨z,J,0,r,bj _ rfl⟩
end
abbrev Sp:=¬V->Hp->VK->Prop
structure G4 (P:Program)(w:World)(K:Frag)(mg:Str->↑Value)(base:Heap)(A:Around)(outer:¬Env)(s:Shared)(H:Hp):Prop where
 frames:A.frames=#[outer]
 mod:Mod K mg base
 bs:∀b o,base b=#[o]->s.heap b=#[o]/\H b=none
 Nh:base.objs.size<=s.heap.objs.size
 xq:s.heap.FunFrames base outer
 frf:∀b∈frs outer,H b=none
 hok:j7 P w H s.heap
 bare:AllBare s.gens
def CE (A:¬Env)(P:Program)(w:World)(H:Hp)(s:Shared)(Q:VK)(u:Value)(B:Shared):Prop:=
 ∃v E,B.os=s.os/\AllBare B.gens/\Un (frs A) [] H E s.heap B.heap/\j7 P w E B.heap/\RelV v u/\Q v E
def CR (A:¬Env)(P:Program)(w:World)(H:Hp)(s:Shared)(Q:VK)(r:Result)(B:Shared):Prop:=
 match r with
 |.ok (.ret u)=>CE A P w H s Q u B
 |_=>False
structure jA (P:Program)(w:World)(K:Frag)(mg:Str->↑Value)(base:Heap)(k:Nat)(f:Addr)(fd:FuncData)(ps:¬Str)(sp:Sp):Prop where
 len:∀vs H Q,sp vs H Q->(!vs)=!ps
 run:∀(A:Around) (outer:¬Env) (s:Shared) (H:Hp) (args:Args) (us:¬Value) (vs:¬V) (Q:VK),cY k A->G4 P w K mg base A outer s H->BindsTo s fd args (ps.zip us)->Vals vs us->sp vs H Q->
  codeAny (model P w) A (.call (.ref f) args) (CR outer P w H s Q) s
def G4.make {P:Program}{w:World}{K:Frag}{E:Str->↑Value}{D:Heap}{A:Around}{B:¬Env}{s:Shared}{H:Hp}(e:G4 P w K E D A B s H)(C:Addr)(us:¬Value)(G:¬(Str×Value)):
  G4 P w K E D (A.under<|.builtin "type.__call__" ⟨.ref C::us,G⟩) B s H:=⟨by first|calc e.frames|(simpa [Around.under,Code.envs,Code.isFrame,pushEnvs] using e.frames),e.mod,e.bs,e.Nh,e.xq,e.frf,e.hok,e.bare⟩
section
variable {s A:Shared}
def Inv.env0 (I:Inv X B C H s):G4 X.prog X.w X.K X.mg X.base X.A X.stack s H:=
 (I.ok.frames,I.ok.mod,I.bs,ck I.ok.Nh I.sz,I.stack,I.Wu,I.hok,I.bare)
def Inv.after (I:Inv X C J H s)(h:CE X.stack X.prog X.w H s Q u A):EP X C J Q u A:=by let(v,E,os,B,un,f,r,q):=h;let(G,g,d,t,D):=A;obtain rfl:D=s.os:=os;calc(v,E,I.call (h':=G) (g':=g) (d':=d) (t':=t) (ch:=[]) un f B<|λb z=>absurd z<|by simp,r,q)
end
def jH (A:Sp)(t:TA):TE:=λB H Q=>t B H λJ E=>A J E Q
def iw (C:Addr)(m:Str)(D:Sp)(G:TE)(t:TA):TE:=λB H Q=>G B H λx E=>∃a A fs,x=.ref a/\E a=#[.ins C A fs]/\fs.lookup m=none/\
 t B E λI J=>D (x::I) J Q
def Qi (C:Addr)(B:Sp)(t:TA):TE:=λG H Q=>t G H λD A=>∀x E,A x=none->A E=none->E≠x->
 B (.ref x::D) (upd (upd A E<|.own x) x<|.ins C E []) (λv J=>v=.non/\Q (.ref x) J)
def Binds (A:FuncData)(ps:¬Str):Prop:=∀C:¬Value,(!C)=!ps->bindArgs A ⟨C,[]⟩=pure (ps.zip C)
section
variable {t:TA}
def Rt (F:jA X.prog X.w X.K X.mg X.base k f B ps E)(hr:cY k X.A)(D:Binds B ps)
  (I:Inv X A G H s)(r:Vals vs us)(h:E vs H Q):(X.prog\X.w) X.A (call (.ref f) us) (EP X A G Q) NE s:=by
 refine wpAny_call (kS (F.run X.A X.stack s H ⟨us,[]⟩ us vs Q hr I.env0 (.of_eq<|D us (by rw[<-!r];calc F.len _ _ _ h)) r h) λr J T=>?_);cases r with
 |error e=>calc T.elim
 |ok C=>
  cases C with
  |ret u=>calc I.after T
  |_=>assumption
def agD (F:jA X.prog X.w X.K X.mg X.base k f J ps Y)(hr:cY k X.A)(O:Gl X x)(U:X.mg x=#[.ref f])(T:keepIn X.K (.ref f)=true)(M:Binds J ps)
  (L:PA X (e::D) t)(C:((x==("__debug__":Str))=false)∣1)(N:(starEach (e::D) X.env=(false,eval e X.env)::starEach D X.env)∣0)(E:((backTo B<|starEach D X.env).any (·.1)=false)∣0):
  PE X (.Call (.Name x p) (e::D) [] B) (jH Y t):=by
 intro A s j H Q I h;refine eR<|Ec I O U ?_ C;refine callWith_K (h₀:=X.base) I.ok.mod.kin T (aV (L B A s j H _ I h) ?_) N E;rintro m l ⟨o,g,G,r,q⟩;refine⟨G.o9,?_⟩;calc Rt F hr M G r q
def agE (y:PE X o i)(c:Cls X.K C)(M:Meth X.K C m f)(F:jA X.prog X.w X.K X.mg X.base k f g ps w)(hr:cY k X.A)(v:Binds g ps)(p:PA X (e::E) t)
  (J:(starEach (e::E) X.env=(false,eval e X.env)::starEach E X.env)∣0)(G:((backTo A<|starEach E X.env).any (·.1)=false)∣0)
  (z:eval (.Call (.Attribute o m B) (e::E) [] A) X.env=(do
   let O<-eval o X.env
   standAt B.atName
   let(f,first)<-holding [O] (getMethod O m pl)
   callWith A f first (backTo A (starEach (e::E) X.env)) (backToKw A (keywordEach [] X.env))):=by rfl):
  PE X (.Call (.Attribute o m B) (e::E) [] A) (iw C m w i t):=by
 intro D s T H Q I h;refine mM (pl:=pl) (aV (y D s T H _ I h) ?_) z;rintro u n ⟨x,U,L,d,a,dx,fs,j,Y,l,q⟩;subst j;obtain rfl:u=Value.ref a:=d;refine Iz L Y c M l ?_;refine callWith_K (first:=[.ref a]) (h₀:=X.base) I.ok.mod.kin M.kp (aV (p A D n T U _ L q) ?_) J G;rintro us s2 ⟨vs,H2,N,r,b⟩;refine⟨N.o9,?_⟩;calc Rt (us:=.ref a::us) (vs:=.ref a::vs) F hr v N (.cons rfl r) b
def ac6 (T:PE X o g)(c:Cls X.K C)(G:Meth X.K C m f)(F:jA X.prog X.w X.K X.mg X.base k f N ps j)(hr:cY k X.A)(O:Binds N ps)
  (U:eval (.Call (.Attribute o m B) [] [] A) X.env=(do
   let J<-eval o X.env
   standAt B.atName
   let(f,first)<-holding [J] (getMethod J m pl)
   callWith A f first (backTo A (starEach [] X.env)) (backToKw A (keywordEach [] X.env))):=by rfl):
  PE X (.Call (.Attribute o m B) [] [] A) (iw C m j g cV):=by
 intro D s p H Q I h;refine mM (pl:=pl) (aV (T D s p H _ I h) ?_) U;rintro u y ⟨x,r,E,Y,a,v,fs,M,L,l,q⟩;subst M;obtain rfl:u=Value.ref a:=Y;refine Iz E L c G l ?_;calc nI (first:=[.ref a]) E.o9 G.kp (Rt (us:=[.ref a]) (vs:=[.ref a]) F hr O E (.cons rfl .nil) q)
structure Mk (K:Frag)(C f:Addr):Prop where
 makes:makesIn K C=true
 init:findIn K (.ref C) "__init__"=#[#[.ref f]]
 fn:isFn K (.ref f)=true
 kp:keepIn K (.ref C)=true
def Ru (M:Mk X.K C f)(F:jA X.prog X.w X.K X.mg X.base k f L ps l)(hr:cY (k+1) X.A)(Y:Binds L ps)(I:Inv X B o H s)(r:Vals vs us)
  (h:∀x E,H x=none->H E=none->E≠x->l (.ref x::vs) (upd (upd H E<|.own x) x<|.ins C E []) (λv J=>v=.non/\Q (.ref x) J)):
  (X.prog\X.w) X.A (call (.ref C) us) (EP X B o Q) NE s:=by
 have T:=h (~~~s+1) (~~~s) (I.hok.fresh (kA _)) (I.hok.fresh (av _)) (cw (iq _));have N:=Inv.made (C:=C) I;have m:Vals (V.ref (~~~s+1)::vs) (Value.ref (~~~s+1)::us):=.cons rfl r;refine wpAny_call (ac4 (f:=f) I.o9 M.makes M.init (oe.mp M.fn) (kS (F.run _ X.stack _ _ ⟨_,[]⟩ _ _ _ (hr.make C us [])
  (N.env0.make C us []) (.of_eq (Y _ (by rw[<-!m];calc F.len _ _ _ T))) m T) λr p A=>?_))
 cases r with
 |error e=>calc A.elim
 |ok U=>
  cases U with
  |ret u=>let(v,D,O,j,G,g):=N.after A;subst G;calc⟨j,⟨V.ref<| ~~~s+1,D,O,rfl,g⟩⟩
  |_=>calc False.elim A
def Wz (M:Mk X.K C f)(F:jA X.prog X.w X.K X.mg X.base k f L ps j)(hr:cY (k+1) X.A)(U:Gl X x)(Y:X.mg x=#[.ref C])(O:Binds L ps)
  (N:PA X (e::D) t)(E:((x==("__debug__":Str))=false)∣1)(T:(starEach (e::D) X.env=(false,eval e X.env)::starEach D X.env)∣0)(G:((backTo B<|starEach D X.env).any (·.1)=false)∣0):
  PE X (.Call (.Name x p) (e::D) [] B) (Qi C j t):=by
 intro A s g H Q I h;refine eR<|Ec I U Y ?_ E;refine callWith_K (h₀:=X.base) I.ok.mod.kin M.kp (aV (N B A s g H _ I h) ?_) T G;rintro o m ⟨u,l,J,r,q⟩;refine⟨J.o9,?_⟩;calc Ru M F hr O J r q
end
structure iQ (N P:¬Str)(sc:Scope):Prop where
 kind:sc.kind=.function
 co:sc.isCoroutine=false
 gen:sc.isGenerator=false
 nd:N.Nodup
 pre:N.take (!P)=P
 par:∀x∈P,sc.names.lookup x=some .local\/sc.names.lookup x=some .cell
 ah7:∀y∈sc.names,y.2≠ .free
theorem Np {kindOf:Str->↑NameKind}{x:Str}:∀{A:¬(Str×Value)}{m:Str->↑Value},(∀v,Not ((x,v)∈A))->bindL kindOf A m x=m x
 |[],_,_=>rfl
 |(n,v)::r,m,h=>by
  unfold bindL;rw[Np λw C=>h w<|ae _ C];split
  .grind
  .rfl
theorem Nq {kindOf:Str->↑NameKind}{x:Str}:∀{A:¬(Str×Value)}{m:Str->↑Value},(∀v,Not ((x,v)∈A))->bindC kindOf A m x=m x
 |[],_,_=>rfl
 |(n,v)::r,m,h=>by
  unfold bindC;rw[Nq λw C=>h w<|ae _ C];split
  .rfl
  .grind
theorem Nr {kindOf:Str->↑NameKind}{x:Str}{v:Value}:∀{P:¬Str}{vs:¬Value} {i:Nat} {m:Str->↑Value},P.Nodup->P[i]? =#[x]->vs[i]? =#[v]->kindOf x=some .local->
  bindL kindOf (P.zip vs) m x=#[v]
 |[],_,_,_,_,h,_,_=>by simp at h
 |_::_,[],_,_,_,_,h,_=>by simp at h
 |p::P,w::vs,0,m,nd,h1,h2,M=>by
  simp at h1 h2;subst h1;subst h2;show bindL kindOf ((p,w)::P.zip vs) m p=_;unfold bindL;rw[Np λv A=>(bd.mp nd).1 (gS A).1,ah M];simp
 |p::P,w::vs,i+1,m,nd,h1,h2,M=>by show bindL kindOf ((p,w)::P.zip vs) m x=_;unfold bindL;calc Nr (i:=i) (bd.mp nd).2 ‹h1› ‹h2› M
theorem Nt {kindOf:Str->↑NameKind}{x:Str}{v:Value}:∀{P:¬Str}{vs:¬Value} {i:Nat} {m:Str->↑Value},P.Nodup->P[i]? =#[x]->vs[i]? =#[v]->kindOf x≠some .local->
  bindC kindOf (P.zip vs) m x=#[v]
 |[],_,_,_,_,h,_,_=>by simp at h
 |_::_,[],_,_,_,_,h,_=>by simp at h
 |p::P,w::vs,0,m,nd,h1,h2,M=>by
  simp at h1 h2;subst h1;subst h2;show bindC kindOf ((p,w)::P.zip vs) m p=_;unfold bindC;rw[Nq λv A=>(bd.mp nd).1 (gS A).1,ap M];simp
 |p::P,w::vs,i+1,m,nd,h1,h2,M=>by show bindC kindOf ((p,w)::P.zip vs) m x=_;unfold bindC;calc Nt (i:=i) (bd.mp nd).2 ‹h1› ‹h2› M
def start (N:¬Str)(vs:¬V):St:=vs.map some++replicate ((!N) - !vs) none
def iD (P:Program)(w:World)(K:Frag)(mg:Str->↑Value)(base:Heap)(N:¬Str)(B:Str)(scope:Scope)(f:Addr)(p:Value)(A:Around)(outer:¬Env)(s:Shared)(H:Hp):Cx where
 prog:=P
 w:=w
 K:=K
 mg:=mg
 base:=base
 A:=A.deeper<|envOfC B scope (~~~s) f p
 N:=N
 s₀:=s
 cQ:=H
 env:=envOfC B scope (~~~s) f p
 outer:=outer
 stack:=envOfC B scope (~~~s) f p::outer
 ex:=[]
 fn:=λ_=>true
 pn:=[]
def Rv {sc:Scope}{n:Nat}{x:Str}(h:sc.names.lookup x=some .cell):∃c,(cellsFrom n sc.names []).lookup x=#[c]:=by have q:=mh sc.names n []<|.inl h;calc Option.isSome_iff_exists.mp q
def aaR {P:Program}{w:World}{K:Frag}{Q:Str->↑Value}{D:Heap}{N ps:¬Str}{C:Str}{scope:Scope}{f:Addr}{M:Value}{A:Around}{B:¬Env}{s s1:Shared}{H:Hp}{us:¬Value}{vs:¬V}
  (S:iQ N ps scope)(j:A.handled=none)(E:G4 P w K Q D A B s H)(o:(!vs)=!ps)(r:Vals vs us)
  (x:InCallC s (~~~s) (bindL (envOfC C scope (~~~s) f M).kindOf (ps.zip us) λ_=>none) (cellsFrom (~~~s+1) scope.names []) (bindC (envOfC C scope (~~~s) f M).kindOf (ps.zip us) λ_=>none) s1):
  Inv (iD P w K Q D N C scope f M A B s H) [] (start N vs) H s1:=by
 have g:(!ps)<=!N:=by have:=b9 List.length S.pre;rw[cS] at this;lk
 let(h1,t,rfl,T):=x.done;have I:∀b:Addr,Not (b∈(iD P w K Q D N C scope f M A B s H).ex):=λb z=>absurd (show b∈([]:¬Addr) from z) 's';refine⟨⟨E.mod,S.kind,rfl,rfl,av _,λy z c h1 h2=>?_,λy G=>?_,λy c _ h=>?_,j,Around.frames_deeper E.frames,.inr ⟨rfl,rfl⟩,λb z=>absurd z (I b),E.bs,E.Nh,λb _ _=>I b,λb z=>absurd z (I b),E.xq,E.frf⟩,
  rfl,E.bare,Un.kept T,⟨_,x.toInCall.ns,λi y v h1 h2 m=>?_⟩,λy c h=>⟨_,x.cell y c h⟩,E.hok.fresh (av _),λy c h=>?_,λp J=>absurd (show p∈([]:¬(Addr×Obj)) from J) 's',E.hok.kept T,?_⟩
 .exact name_of_addr x.apart (ef h1)<|ef h2
 .have G:scope.names.lookup y=some .cell\/scope.names.lookup y=some .free:=G;rcases G with G|G
  .exact Rv G
  .exact absurd rfl<|S.ah7 _<|ef G
 .exact jp<|x.above y c<|ef h
 .have O:i<!vs:=by
   unfold start at h2;by_cases O:i<!vs
   .exact O
   .rw[cm<|‹O›] at h2;rw[fI] at h2;split at h2<;>cases h2
  have Y:vs[i]? =#[v]:=by
   unfold start at h2;rw[bv<|‹O›,ai] at h2;cases e:vs[i]? with
   |none=>rw[e] at h2;cases h2
   |some a=>rw[e] at h2;cases h2;rfl
  let(u,U,l):=r.get Y;have J:ps[i]? =#[y]:=by rw[<-S.pre,gI ∅];exact h1
  have L:ps.Nodup:=by rw[<-S.pre];exact S.nd.sublist<|j2 _ _
  refine⟨u,l,?_⟩;rcases S.par y (ag J) with k|k
  .exact .inl ⟨k,Nr L J U k⟩
  .let(c,e):=Rv (n:= ~~~s+1) k;refine .inr ⟨.inl k,c,e,?_⟩;have q:=x.cell y c e;rw[Nt L J U (by show scope.names.lookup y≠_;rw[k];decide)] at q;exact q
 .exact E.hok.fresh<|jp<|x.above y c<|ef h
 .unfold start;show _=!N;rw[aE,ac,ik];lk
def akN {P:Program}{w:World}{K:Frag}{p:Str->↑Value}{E:Heap}{k:Nat}{f:Addr}{name C:Str}{G:Arguments}{L:¬Stmt}{scope:Scope}{dV kV Y pm D ct oc:Value}{an od:↑Addr}
  {d:Array (↑Value)}{N ps:¬Str}{h:Sp}(lk:K.lookup f=#[⟨oc,od,.func<|fnOf name C G L scope dV kV Y pm an D ct,d⟩])(z:codeIn K D C=true)(S:iQ N ps scope)
  (len:∀vs H Q,h vs H Q->(!vs)=!ps)
  (T:∀(A:Around) (B:¬Env) (s:Shared) (H:Hp) (vs:¬V) (Q:VK),cY k (A.deeper (envOfC C scope (~~~s) f D))->h vs H Q->
   ∃t,jy (iD P w K p E N C scope f D A B s H) L t/\t {nx:=λ_ O=>Q .non O,rt:=Q} (start N vs) H):
  jA P w K p E (k+1) f (fnOf name C G L scope dV kV Y pm an D ct) ps h:=by
 refine⟨len,λA B s H args us vs Q hr j hb r m=>?_⟩;have hl:=len _ _ _ m;have KX:K.In s.heap:=j.mod.kin.keeps λb o e=>(j.bs b o e).1;have c:s.heap.NoLimit:=j.mod.nolimit.keeps λb o e=>(j.bs b o e).1;have U:∀y∈ps.zip us,scope.names.lookup y.1=some .local\/(scope.names.lookup y.1=some .cell/\((cellsFrom (~~~s+1) scope.names []).lookup y.1).isSome=true):=λ⟨n,v⟩ hy=>by
  rcases S.par n (gS hy).1 with q|q
  .exact .inl q
  .exact .inr ⟨q,mh _ _ _<|.inl q⟩
 refine codeAny_call_function hr.depth (KX _ _ lk) rfl S.co S.gen rfl (PySem.W.codeRec_of KX z)<|hb _ _ _ _ ?_;refine wpAny_newFunctionEnv_cells S.kind U λenv he s1 x=>?_;subst he;refine⟨c.keeps x.toInCall.keep,codeAny_func ?_⟩;let(t,ht,hq):=T A B s H vs Q (hr.deeper _) m;have I:Inv (iD P w K p E N C scope f D A B s H) [] (start N vs) H s1:=aaR S hr.hd j hl r x;refine eB (ht [] s1 (start N vs) H _ I hq) (λfl i l=>?_) λe i l=>False.elim l;have g:∀{M:St}{O:Hp} {v:V} {u:Value},Inv (iD P w K p E N C scope f D A B s H) [] M O i->RelV v u->Q v O->CE B P w H s Q u i:=
  λ{M O v u} J a q=>⟨v,O,J.os,J.bare,J.base,J.hok,a,q⟩
 cases fl with
 |ret u=>let(v,M,O,J,a,q):=l;calc g J a q
 |next=>let(M,O,J,q):=l;calc g (v:=V.non) (u:=Value.none) J rfl q
 |_=>calc False.elim l
section
variable {id T:String}
def qC (r:¬V->Hp->VK->Prop)(t:TA):TE:=λB H Q=>t B H λJ E=>r J E Q
def dU (O:dO X (.builtin id) r)(U:Gl X x)(Y:X.mg x=none)(k:bootBuiltins x=#[.builtin id])(M:PA X (e::D) t)(j:(x≠"__name__")∣1)(C:((x==("__debug__":Str))=false)∣1)
  (N:(starEach (e::D) X.env=(false,eval e X.env)::starEach D X.env)∣0)(E:((backTo B<|starEach D X.env).any (·.1)=false)∣0):PE X (.Call (.Name x p) (e::D) [] B) (qC r t):=by
 intro A s G H Q I h;refine eR<|sG I U Y k ?_ j C;refine PyProof.Rows.callWith_builtin1 (aV (M B A s G H _ I h) ?_) N E;rintro o m ⟨q,J,L,l,g⟩;calc O A m G J q o Q L l g
def bM (O:dO X (.type T) r)(U:Gl X x)(Y:X.mg x=none)(k:bootBuiltins x=#[.type T])(M:PA X (e::D) t)(j:(x≠"__name__")∣1)(C:((x==("__debug__":Str))=false)∣1)
  (N:(starEach (e::D) X.env=(false,eval e X.env)::starEach D X.env)∣0)(E:((backTo B<|starEach D X.env).any (·.1)=false)∣0):PE X (.Call (.Name x p) (e::D) [] B) (qC r t):=by
 intro A s G H Q I h;refine eR<|sG I U Y k ?_ j C;refine cy (aV (M B A s G H _ I h) ?_) N E;rintro o m ⟨q,J,L,l,g⟩;calc O A m G J q o Q L l g
end
end L2
namespace HT
open PyProof.Rows
section
open PySem.SeqAt
open PySem.AutoSeq1 (wpAny_loadPart')
open PySem.MeetsSeq PySem.MeetsSeq2 PySem.MeetsSeq3
end
section
variable {s:Shared}
def cj (n d:Nat):↑Int->Nat
 |none=>d
 |some v=>if v<0 then(v+(n:Int)).toNat else min v.toNat n
def Rw (n d:Nat):cj n d none=d:=rfl
def WD (n d k:Nat):cj n d #[(k:Int)]=min k n:=by rfl
def Rx (n d:Nat)(G:d<=n)(o:↑Int):cj n d o<=n:=by
 cases o with
 |none=>calc G
 |some v=>
  show(if v<0 then(v+(n:Int)).toNat else min v.toNat n)<=n;by_cases M:v<0
  .rw[ah M];lk
  .rw[ap M];calc hJ _ _
def WK (v:Int)(n d:Nat):(if v<0 then max (v+(n:Int)) 0 else min v (n:Int))=((cj n d #[v]:Nat):Int):=by
 show(if v<0 then max (v+(n:Int)) 0 else min v (n:Int))=(((if v<0 then(v+(n:Int)).toNat else min v.toNat n):Nat):Int);by_cases M:v<0
 .erw[ah M];lk
 .erw[ap M];lk
def YS (lo hi:↑Int)(n:Nat):Builtin.Slice.sliceAdjust lo hi 1 (n:Int)=(((cj n 0 lo:Nat):Int),((cj n n hi:Nat):Int)):=by
 have h1:Not ((1:Int)<0):=by lk
 delta Builtin.Slice.sliceAdjust;erw[h1,dE];refine Prod.ext ?_ ?_
 .cases lo with
  |none=>rfl
  |some v=>exact WK v n 0
 .cases hi with
  |none=>rfl
  |some v=>calc WK v n n
def YT (i j:Nat):Builtin.Slice.slicePlaces (i:Int) (j:Int) 1=j - i:=by delta Builtin.Slice.slicePlaces;lk
def IV {v:Value}{o:↑Int}{Q:↑Int->Shared->Prop}(p:IsPart v o)(h:Q o s):(prog\w) A (Builtin.Slice.slicePartIndex v) Q E s:=by
 cases p with
 |none=>calc slicePart_none h
 |int i t=>calc slicePart_int h
def G5 {H:Addr}{D G:Value}{lo hi:↑Int}{n:Nat}{Q:Int×Int×Nat->Shared->Prop}(J:s.heap.IsSliceOf H D G .none)(pl:IsPart D lo)(L:IsPart G hi)
  (h:Q (((cj n 0 lo:Nat):Int),1,cj n n hi - cj n 0 lo) s):(prog\w) A (Builtin.Slice.sliceApplied (.ref H)<|pure (n:Int)) Q E s:=by
 let(os,C,I,B):=id J;delta Builtin.Slice.sliceApplied Builtin.Slice.sliceFields;refine ab<|ab<|ci C B (x:=D) rfl<|ab<|ci C B (x:=G) rfl<|ab<|ci C B (x:=.none) rfl<|ax ?_;refine ab<|slicePart_none ?_;show wpAny _ _ (if((1:Int)==0)=true then _ else _) _ _ s;rw[ap<|by decide];refine ab<|IV pl<|ab<|IV L<|ab<|ax ?_;show wpAny _ _ (match Builtin.Slice.sliceAdjust lo hi 1 (n:Int) with|(lo,hi)=>pure<|Prod.mk lo<|Prod.mk (1:Int)<|Builtin.Slice.slicePlaces lo hi 1) _ _ s;rw[YS lo hi n];k_ne;rw[YT];calc ax h
def ac7 (xs:Array Value)(i k:Nat):((List.range k).filterMap λ(m:Nat)=>xs[((i:Int)+(m:Int)*1).toNat]?).toArray=((xs.toList.drop i).take k).toArray:=by
 have e:(λ(m:Nat)=>xs[((i:Int)+(m:Int)*1).toNat]?)= λm=>xs[i+m]?:=by
  funext m
  have:((i:Int)+(m:Int)*1).toNat=i+m:=by lk
  rw[this]
 rw[e];have:=pick_run xs i k;rw[List.filterMap_map] at this;have G:((λx=>xs[x]?) ∘ λx=>i+x)= λm=>xs[i+m]?:=rfl;rw[G] at this;rw[this]
def FQ {t J:Addr}{B:Array Value}{M N:Value}{lo hi:↑Int}{Q:Value->Shared->Prop}(U:IsTup s.heap t B)(L:s.heap.IsSliceOf J M N .none)(pl:IsPart M lo)(T:IsPart N hi)
  (j:Not (cj B.size 0 lo=0/\cj B.size B.size hi=B.size))
  (h:Q (.ref (~~~s)) {s with heap:=s.heap.push {cls:=.type "tuple",data:=.seq ((B.toList.drop<|cj B.size 0 lo).take<|cj B.size B.size hi - cj B.size 0 lo).toArray}})
  (hsz:B.size<=sizeLine):(prog\w) A (getItem (.ref t)<|.ref J) Q E s:=by
 have C:sizeOk (.seq ((B.toList.drop<|cj B.size 0 lo).take<|cj B.size B.size hi - cj B.size 0 lo).toArray):=by show((B.toList.drop<|cj B.size 0 lo).take<|cj B.size B.size hi - cj B.size 0 lo).toArray.size<=sizeLine;grind
 have Y:cj B.size B.size hi<=B.size:=Rx _ _ (av _) hi;let(os,H,I,O):=id L;have D:s.TypeIs (.ref J) "slice":=(os,H,I);delta getItem;try with_reducible refine fb ?_
 first|refine ab (ax ?_)|skip
 refine ab (wpAny_sequenceKey U.typeIs ⋯ ?_);refine ab (cE (name:=Str.ofString "__getitem__") U.typeIs fS
  (eJ fS U.typeIs entry_tuple_getitem ?_ (args_tuple_getitem _ _)))
 show wpAny _ _ (Builtin.Tuple.tupleItemsOf (.ref t)>>=_) _ _ s;refine ab<|tupleItemsOf_ U ?_;refine ab<|wpAny_typeOf D ?_;rw[ah<|by decide];refine ab<|G5 L pl T ?_;have G:Not ((((cj B.size 0 lo:Nat):Int)==0 && (1:Int)==1 && (cj B.size B.size hi - cj B.size 0 lo)==B.size)=true):=by lk
 show wpAny _ _ (if(((cj B.size 0 lo:Nat):Int)==0 && (1:Int)==1 && (cj B.size B.size hi - cj B.size 0 lo)==B.size)=true then _ else _) _ _ s;rw[ap G,ac7];first
  |calc ab (m:=Builtin.Tuple.tupleExact _) (ei (ax (_,rfl,ax h)) C)
  |calc ab (m:=Builtin.Tuple.tupleExact _) (ei (ab<|ax<|ax (_,rfl,ax h)) C)
  |calc ab (ab (m:=Builtin.Tuple.tupleExact _)<|ei (ax<|ax (_,rfl,ax h)) C)
  |calc ab (ab (m:=Builtin.Tuple.tupleExact _)<|ei (ax (_,rfl,ax h)) C)
end
end HT
namespace L2
open PyProof.Rows
abbrev TO:=St->Hp->(↑Int->Hp->Prop)->Prop
def PO (X:Cx)(e:↑Expr)(t:TO):Prop:=
 ∀(A:¬(Addr×Obj)) (s:Shared) (B:St) (H:Hp) (Q:↑Int->Hp->Prop),Inv X A B H s->t B H Q->
  (X.prog\X.w) X.A (evalPart e X.env) (λu C=>∃o E,Inv X A B E C/\IsPart u o/\Q o E) NE s
def WL:TO:=λ_ H Q=>Q none H
def YW (t:TE):TO:=λB H Q=>t B H λx E=>∃i,x=.int i/\Q #[i] E
section
variable {lo hi:↑Expr}
def WM:PO X none WL:=by intro A s B H Q I h;rw[evalPart_none];calc ax (none,H,I,.none,h)
def uL (h:PE X e te):PO X #[e] (YW te):=by intro A s B H Q I C;rw[evalPart_some];refine aV (h A s B H _ I C) ?_;rintro u O ⟨x,E,D,L,J⟩;let(i,rfl,q):=J;let(t,rfl):=L;calc(#[i],E,D,.int i t,q)
def SlR (X:Cx)(r:V->↑Int->↑Int->Hp->VK->Prop):Prop:=
 ∀(A:¬(Addr×Obj)) (s:Shared) (C:St) (H:Hp) (x:V) (v B G:Value) (lo hi:↑Int) (D:Addr) (Q:VK),Inv X A C H s->RelV x v->s.heap.IsSliceOf D B G .none->IsPart B lo->IsPart G hi->r x lo hi H Q->
  ∃T id,typeLookup (.type T) "__getitem__"=pure (#[.builtin id])/\s.TypeIs v T/\(X.prog\X.w) X.A (getItem v<|.ref D) (EP X A C Q) NE s
def tSl (r:V->↑Int->↑Int->Hp->VK->Prop)(te:TE)(D A:TO):TE:=λB H Q=>te B H λx E=>D B E λl J=>A B J λu C=>r x l u C Q
def qG (hr:SlR X r)(Y:PE X e te)(k:PO X lo tl)(f:PO X hi i):PE X (.Subscript e (.Slice lo hi none m) p) (tSl r te tl i):=by intro A s C H Q I h;refine Subscript_<|aV (Y A s C H _ I h) ?_;rintro v w ⟨x,J,M,n,z⟩;refine wpAny_Slice<|aV (k A w C J _ M z) ?_;rintro D a ⟨l,L,N,o,c⟩;refine aV (f A a C L _ N c) ?_;rintro G B ⟨u,E,O,t,d⟩;rw[evalPart_none];refine ax ?_;have y:Inv X A C E {B with heap:=B.heap.push {cls:=.type "slice",data:=.fields #[D,G,.none]}}:=O.kept (t':=B.toks) λb ob q=>ay _ q;let(T,id,U,g,j):=hr A {B with heap:=B.heap.push {cls:=.type "slice",data:=.fields #[D,G,.none]}} C E x v D G l u (~~~B) Q y n (Heap.IsSliceOf.new ..) o t d;show (X.prog\X.w) X.A (subscriptTail e (.Slice lo hi none m) v<|.ref (~~~B)) (EP X A C Q) NE {B with heap:=B.heap.push {cls:=.type "slice",data:=.fields #[D,G,.none]}};calc tail_any (ops:=[.ref (~~~B),v]) g U j<|by with_unfolding_all rfl
def uX (xs:¬V)(lo hi:↑Int):¬V:=(xs.drop<|HT.cj (!xs) 0 lo).take<|HT.cj (!xs) (!xs) hi - HT.cj (!xs) 0 lo
def Gd (xs:¬V)(lo hi:↑Int):(!(uX xs lo hi))<=!xs:=by delta uX;rw[cS,eK];lk
def anf (K:Frag):V->↑Int->↑Int->Hp->VK->Prop:=λx lo hi H Q=>∃a D,x=.ref a/\bK K H a D/\
 Not (HT.cj (!D) 0 lo=0/\HT.cj (!D) (!D) hi=!D)/\∀p,H p=none->Q (.ref p) (upd H p<|.tup<|uX D lo hi)
def aaS:SlR X (anf X.K):=by
 intro E s k H x v Y j lo hi T Q I O G N M h;let(a,A,rfl,L,J,q):=h;cases O;let(B,r,U,C):=I.tuple L;have D:B.toArray.size=!A:=by rw[bp];exact r.length.symm
 refine("tuple",_,fS.lookup,U.typeIs,?_);refine HT.FQ U G N M (by rw[D];calc J) ?_ (by rw[D];calc C);rw[D];refine(.ref (~~~s),_,I.laid (t':=s.toks) (o:=.tup<|uX A lo hi) (λb ob q=>ay _ q) (av _) ?_,rfl,q _<|I.hok.fresh<|av _);calc(ck (Gd A lo hi) C,_,(r.drop<|HT.cj (!A) 0 lo).take<|HT.cj (!A) (!A) hi - HT.cj (!A) 0 lo,IsTup.new _ _)
end
def pL (n:Nat)(i:Int):↑Nat:=if 0<=i then(if i<n then #[i.toNat] else none) else if -(n:Int)<=i then #[(i+n).toNat] else none
def cN {A:Type}(xs:¬A)(i:Int):↑A:=(pL (!xs) i).bind λj=>xs[j]?
def WQ (h:pL n i=#[j]):seqIndex? i n=#[j]/\j<n∧-(n:Int)<=i/\i<n:=by
 delta pL at h;by_cases L:0<=i
 .rw[ah L] at h;by_cases h1:i<n
  .rw[ah h1] at h;have e:i.toNat=j:=bm h;exact(by rw[lT L h1,e],by lk,by lk,h1)
  .rw[ap h1] at h;cases h
 .rw[ap L] at h;by_cases h1: -(n:Int)<=i
  .rw[ah h1] at h;have e:(i+n).toNat=j:=bm h;exact(by rw[kR ∅ h1,e],by lk,h1,by lk)
  .rw[ap h1] at h;cases h
def xV (h:cN xs i=#[v]):∃j,seqIndex? i (!xs)=#[j]/\xs[j]? =#[v]/\j<!xs∧-((!xs):Int)<=i/\i<!xs:=by
 delta cN at h;cases e:pL (!xs) i with
 |none=>rw[e] at h;cases h
 |some j=>rw[e] at h;let(h1,h2,J,M):=WQ e;calc(j,h1,h,h2,J,M)
def gM {A:Type}{xs:¬A}{j:Nat}{v:A}(h:xs[j]? =#[v]):cN xs (j:Int)=#[v]:=by
 have Y:j<!xs:=(af.mp h).1;have e:pL (!xs) (j:Int)=#[j]:=by delta pL;rw[ah ∅,ah ∅];simp
 delta cN;rw[e];calc h
def Ed (b:Expr):Prop:=∀o i,subscripted b false o i=operate [o,i] (getItem o i)
def sO (X:Cx)(r:R2):Prop:=
 ∀(E A:Expr) (B:¬(Addr×Obj)) (s:Shared) (C:St) (H:Hp) (x y:V) (v u:Value) (Q:VK),Inv X B C H s->RelV x v->RelV y u->r x y H Q->
  subscripted A false v u=operate [v,u] (getItem v u)->(X.prog\X.w) X.A (subscriptTail E A v u) (EP X B C Q) NE s
def ug (X:Cx)(id:String)(r:V->¬V->Hp->VK->Prop):Prop:=
 ∀(A:¬(Addr×Obj)) (s:Shared) (B:St) (H:Hp) (x:V) (D:¬V) (v:Value) (C:¬Value) (Q:VK),Inv X A B H s->RelV x v->Vals D C->r x D H Q->
  (X.prog\X.w) X.A (call (.builtin id) (v::C)) (EP X A B Q) NE s
section
variable {B:Pos}
def sO.or (h:sO X r)(h':sO X J):sO X (λx y H Q=>r x y H Q\/J x y H Q):=by
 intro E A C s G H x y v u Q I L M q D;rcases q with q|q
 .exact h E A C s G H x y v u Q I L M q D
 .calc h' E A C s G H x y v u Q I L M q D
def YX (hr:sO X r)(G:PE X a O)(C:PE X b T)(D:Ed b):PE X (.Subscript a b B) (fC r O T):=by intro A s U H Q I h;calc Subscript_<|acY G C I h λv u E x y J N L M q=>hr a b A E U J x y v u Q N L M q<|D _ _
def ac8 (K:Frag):R2:=λx y H Q=>∃p D i v,x=.ref p/\y=.int i/\aQ K H p D/\cN D i=#[v]/\Q v H
def ang (K:Frag):R2:=λx y H Q=>∃p D i v,x=.ref p/\y=.int i/\bK K H p D/\cN D i=#[v]/\Q v H
def anh:R2:=λx y H Q=>∃z i c,x=.str z/\y=.int i/\(!z)<=sizeLine/\cN ⇑z i=#[c]/\Q (.str ⟨[c].toArray⟩) H
def K4:sO X (ac8 X.K):=by
 intro J G A s T H x y v u Q I o b h O;let(p,a,i,z,rfl,rfl,m,g,q):=h;cases o;let(t,rfl):=b;let(D,r,N,n):=I.list m;let(j,h1,h2,d,U,k):=xV g;let(w,L,E):=r.get h2;have l:=!r;have f:=sJ;have C:EP X A T Q w s:=⟨z,H,I,E,q⟩;by_cases M:0<=i
 .have Y:i.toNat=j:=by rw[lT M k] at h1;exact bm h1
  exact item_listR N.isList M ∅ (by rw[Y];simpa using L) C O
 .have Y:(i+(D.toArray.size:Int)).toNat=j:=by rw[kR ∅ U] at h1;rw[bp,←l];exact bm h1
  exact subscriptTail_builtinR (x:=w) N.isList.typeIs slot_list_getitem.lookup
   (oB (Q:=λr c=>r=w/\EP X A T Q r c) N.isList ∅ (by rw[bp]<;>lk) ∅ (by rw[Y];simpa using L) ⟨rfl,C⟩) O
def Ry:sO X (ang X.K):=by
 intro G D A s J H x y v u Q I k g h U;let(p,f,i,z,rfl,rfl,T,M,q):=h;cases k;let(t,rfl):=g;let(Y,r,N,d):=I.tuple T;let(j,h1,h2,m,o,b):=xV M;let(w,L,E):=r.get h2;have O:=!r;have c:=sJ;have C:EP X A J Q w s:=⟨z,H,I,E,q⟩;exact subscriptTail_builtinR (x:=w) N.typeIs slot_tuple_getitem.lookup
  (getItem_tuple (j:=j) (Q:=λr l=>r=w/\EP X A J Q r l) N ∅ ∅ (by rw[bp,←O];calc h1) ‹L› ⟨rfl,C⟩) U
def ah9:sO X anh:=by
 intro E A C s g H x y v u Q I L J h G;let(z,i,c,rfl,rfl,U,D,q):=h;let(t,rfl):=L;let(Y,rfl):=J;let(j,h1,h2,O,M,k):=xV D;have N:(!⇑z)=!z:=by simp[Str.length]
 rw[N] at h1 M k;have T:=sJ;exact tail_any (hE s z t) slot_str_getitem.lookup (getItem_str (c:=c) (by
  lk) (by rw[h1];simpa using h2) ⟨.str ⟨[c].toArray⟩,H,I.tok _,⟨_,rfl⟩,q⟩) G
def YZ (A:¬Value)(n j:Nat)(u:Value):Obj.mapSeq (·.setIfInBounds j u) {cls:=.type "list",data:=.seq A.toArray n}={cls:=.type "list",data:=.seq (A.set j u).toArray n}:=by simp[Obj.mapSeq]
theorem Inv.lst (I:Inv X C D H s)(h:H p=#[.lst xs]):
  ∃(A:¬Value) (n:Nat),Vals xs A/\s.heap p=some {cls:=.type "list",data:=.seq A.toArray n}/\(!xs)<=sizeLine:=by
 let(z,A,n,r,e):=I.hok p _ h;calc(A,n,r,e,z)
def Inv.aia {A:¬(Addr×Obj)}{E:St}{H:Hp}{s:Shared}{p:Addr}{xs ys:¬V}{C its':¬Value}{n L:Nat}{f:Obj->Obj}(I:Inv X A E H s)(h:H p=#[.lst xs])
  (J:s.heap p=some {cls:=.type "list",data:=.seq C.toArray n})(D:f {cls:=.type "list",data:=.seq C.toArray n}={cls:=.type "list",data:=.seq its'.toArray L})(r:Vals ys its')(M:(!ys)<=sizeLine)(t:Nat):
  Inv X A E (upd H p<|.lst ys) {s with heap:=s.heap.update p f,toks:=t}:=by
 have e:(s.heap.update p f) p=some {cls:=.type "list",data:=.seq its'.toArray L}:=by rw[fR f J (by rw[D]<;>rfl),D]
 refine I.write (x:=p) (e:=p) (by rw[h];trivial) (.inl rfl) (λb u G q=>(cb _ _<|b8 G).trans q) ⟨_,e⟩ ?_;calc⟨M,its',L,r,e⟩
def akO:V->V->V->Hp->(Hp->Prop)->Prop:=λo i v H Q=>∃p D k j,o=.ref p/\i=.int k/\H p=#[.lst D]/\pL (!D) k=#[j]/\Q (upd H p<|.lst<|D.set j v)
def set_list:yZ X akO:=by
 intro C s y H o i v c b u Q I g U l h;let(p,m,k,j,rfl,rfl,O,Y,q):=h;cases g;let(t,rfl):=U;let(A,n,r,D,T):=I.lst O;let(h1,h2,J,G):=WQ Y;have N:=!r;have z:=sJ;have E:Inv X C y (upd H p<|.lst<|m.set j v) {s with heap:=s.heap.update p<|Obj.mapSeq (·.setIfInBounds j u)}:=
  I.aia O D (YZ A n j u) (r.set l j) (by rw[b6];calc T) s.toks
 by_cases L:0<=k
 .have M:k.toNat=j:=by rw[lT L G] at h1;lk
  exact PySem.W.ki_setAt D L ∅ (by rw[bp,←N];calc G) (by rw[M];calc(_,E,q))
 .have M:(k+(A.toArray.size:Int)).toNat=j:=by rw[kR ∅ J] at h1;grind
  calc PySem.W.ki_setBack D ∅ (by rw[bp,←N];calc J) ∅ (by rw[M];calc(_,E,q))
def Rz (lo hi:↑Int)(n:Nat):(sliceBounds lo hi none n).1=((HT.cj n 0 lo:Nat):Int)/\(sliceBounds lo hi none n).2.1=((HT.cj n n hi:Nat):Int)/\(sliceBounds lo hi none n).2.2=1:=by
 refine(?_,?_,rfl)
 .cases lo with
  |none=>simp[sliceBounds,HT.cj]
  |some i=>
   erw[sliceBounds,HT.cj,oS,show(1:Int)>0 by decide,dA];by_cases h:i<0
   .erw[h,dA]<;>lk
   .erw[h,dE]<;>lk
 .cases hi with
  |none=>simp[sliceBounds,HT.cj]
  |some i=>
   erw[sliceBounds,HT.cj,oS,show(1:Int)>0 by decide,dA];by_cases h:i<0
   .erw[h,dA]<;>lk
   .erw[h,dE]<;>lk
def Pu (A:¬Value)(lo hi:↑Int):slicePick A.toArray lo hi none=((A.drop<|HT.cj (!A) 0 lo).take<|HT.cj (!A) (!A) hi - HT.cj (!A) 0 lo).toArray:=by let(h1,h2,J):=Rz lo hi A.toArray.size;delta slicePick;rw[h1,h2,J];erw[sliceRange_one,pick_run,bp]<;>rfl
def aib (K:Frag):V->↑Int->↑Int->Hp->VK->Prop:=λx lo N H Q=>∃a D,x=.ref a/\aQ K H a D/\∀p,H p=none->Q (.ref p) (upd H p<|.lst<|uX D lo N)
def K5:SlR X (aib X.K):=by intro C s g H x v j k lo N Y Q I T E M O h;let(a,D,rfl,G,q):=h;cases T;let(L,r,U,J):=I.list G;have A:=!r;refine("list",_,slot_list_getitem.lookup,U.isList.typeIs,?_);refine wpAny_getItem_list_slice U.isList E M O .none 's' ?_ (by rw[bp]<;>lk);rw[Pu,←A];refine(.ref (~~~s),_,I.laid (t':=s.toks) (o:=.lst<|uX D lo N) (λb ob q=>ay _ q) (av _) ?_,rfl,q _<|I.hok.fresh<|av _);calc(ck (Gd D lo N) J,_,0,(r.drop<|HT.cj (!D) 0 lo).take<|HT.cj (!D) (!D) N - HT.cj (!D) 0 lo,bj _ rfl)
def rF:V->Bool
 |.non=>true
 |.bl _=>true
 |.int _=>true
 |.str _=>true
 |_=>false
def Nu:V->V->Bool
 |.non,.non=>true
 |.bl a,.bl b=>a==b
 |.bl a,.int b=>(if a then 1 else 0)==b
 |.int a,.bl b=>a==(if b then 1 else 0)
 |.int a,.int b=>a==b
 |.str a,.str b=>a==b
 |_,_=>false
def aic (D:RelV y u)(L:RelV x v)(E:rF y=true)(C:rF x=true):SeqAt.EqAt A s u v (Nu y x):=by
 cases y with
 |non=>
  cases D;cases x with
  |non=>cases L;calc SeqAt.EqAt.same _
  |bl b=>cases L;calc SeqAt.EqAt.none_bool b
  |int b=>let(t,rfl):=L;calc SeqAt.EqAt.none_int b t
  |str b=>let(t,rfl):=L;calc SeqAt.EqAt.none_str b t
  |_=>calc absurd (show false=true from C) bn
 |bl a=>
  cases D;cases x with
  |non=>cases L;calc SeqAt.EqAt.bool_none a
  |bl b=>cases L;calc SeqAt.EqAt.bool_bool a b
  |int b=>let(t,rfl):=L;calc SeqAt.EqAt.bool_int a b t
  |str b=>let(t,rfl):=L;calc SeqAt.EqAt.bool_str a b t
  |_=>calc absurd (show false=true from C) bn
 |int a=>
  let(M,rfl):=D;cases x with
  |non=>cases L;calc SeqAt.EqAt.int_none a M
  |bl b=>cases L;calc SeqAt.EqAt.int_bool a M b
  |int b=>let(t,rfl):=L;calc SeqAt.EqAt.int_int a M b t
  |str b=>let(t,rfl):=L;calc SeqAt.EqAt.int_str a M b t
  |_=>calc absurd (show false=true from C) bn
 |str a=>
  let(M,rfl):=D;cases x with
  |non=>cases L;calc SeqAt.EqAt.str_none a M
  |bl b=>cases L;calc SeqAt.EqAt.str_bool a M b
  |int b=>let(t,rfl):=L;calc SeqAt.EqAt.str_int a M b t
  |str b=>let(t,rfl):=L;calc SeqAt.EqAt.str_str a M b t
  |_=>calc absurd (show false=true from C) bn
 |_=>calc absurd (show false=true from E) bn
def wz (x:V)(u:Value):Bool:=match u with
 |.none=>Nu .non x
 |.bool b=>Nu (.bl b) x
 |.int i _=>Nu (.int i) x
 |.str z _=>Nu (.str z) x
 |_=>false
def aaT (r:RelV y u)(f:rF y=true):wz x u=Nu y x:=by
 cases y with
 |non=>cases r;rfl
 |bl b=>cases r;rfl
 |int i=>let(t,rfl):=r;rfl
 |str z=>let(t,rfl):=r;rfl
 |_=>calc absurd (show false=true from f) bn
def K6 (h:Vals xs us)(f:xs.all rF=true):us.any (wz x)=xs.any λy=>Nu y x:=by
 induction h with
 |nil=>rfl
 |cons r t A=>rw[all_cons,bc] at f;rw[im,im,aaT r f.1,A f.2]
def zc (L:RelV x v)(D:rF x=true)(h:Vals xs us)(f:xs.all rF=true):∀u∈us,SeqAt.EqAt A s u v (wz x u):=by
 induction h with
 |nil=>intro u C;cases C
 |cons r t E=>
  intro o C;rw[all_cons,bc] at f;rcases aI.mp C with rfl|C
  .rw[aaT r f.1];exact aic r L f.1 D
  .calc E f.2 o C
def inV (x:V)(xs:¬V):Bool:=xs.any λy=>Nu y x
def rIn (K:Frag)(A:Bool):R2:=λx y H Q=>∃p D,y=.ref p/\(aQ K H p D\/bK K H p D)/\rF x=true/\D.all rF=true/\Q (.bl<|if A then not (inV x D) else inV x D) H
def uY:cF X (compareOp .NotIn) (rIn X.K true):=by
 intro E s O H x y v u Q I L M h;let(p,J,rfl,T,D,fs,q):=h;cases M;rcases T with T|T
 .let(A,r,N,G):=I.list T;refine SeqAt.notIn_listAt (wz x) N.isList (λw C=>zc L D r fs w<|‹C›) (.bl _,H,I,rfl,?_);rw[show A.toArray.any (wz x)=A.any (wz x) by simp,K6 r fs];exact q
 .let(A,r,N,G):=I.tuple T;refine SeqAt.notIn_tupleAt (wz x) N (λw C=>zc L D r fs w<|‹C›) (.bl _,H,I,rfl,?_);rw[show A.toArray.any (wz x)=A.any (wz x) by simp,K6 r fs];calc q
def RD:dO X (.builtin "len") (λxs H Q=>∃p ys,xs=[.ref p]/\(aQ X.K H p ys\/bK X.K H p ys)/\Q (.int !ys) H):=by
 intro E s O H xs M Q I r h;let(p,ys,rfl,T,q):=h;let(u,rfl,L):=vals1 r;cases L;have J:=sJ;rcases T with T|T
 .let(A,C,N,G):=I.list T;have D:=!C;exact Calls.call_len_list N.isList (by erw[bp]<;>lk) ⟨.int !ys,H,I.tok _,⟨s.toks+1,by rw[bp,D]⟩,q⟩
 .let(A,C,N,G):=I.tuple T;have D:=!C;calc len_tuple N (by erw[bp]<;>lk) ⟨.int !ys,H,I.tok _,⟨s.toks+1,by rw[bp,D]⟩,q⟩
def RG:dO X (.builtin "len") (λxs H Q=>∃z,xs=[.str z]/\(!z)<=sizeLine/\Q (.int !z) H):=by intro A s G H xs E Q I r h;let(z,rfl,D,q):=h;let(u,rfl,t,rfl):=vals1 r;have C:=sJ;calc len_str ∅ ⟨.int !z,H,I.tok _,⟨_,rfl⟩,q⟩
def RJ:dO X (.type "list") (λxs H Q=>∃p ys,xs=[.ref p]/\(aQ X.K H p ys\/bK X.K H p ys)/\∀l,H l=none->Q (.ref l) (upd H l<|.lst ys)):=by
 intro M s m H xs t Q I r h;let(p,ys,rfl,T,q):=h;let(u,rfl,k):=vals1 r;cases k;have E:∀(A:¬Value),Vals ys A->(!ys)<=sizeLine->∀(g:Heap) (C:Nat),(∀b j,s.heap b=#[j]->g b=#[j])->
   g (~~~s)=some {cls:=.type "list",dict:=none,data:=.seq A.toArray C,slots:=#[]}->EP X M m Q (.ref (~~~s)) {s with heap:=g}:=λA D J g C L e=>
  (.ref (~~~s),_,I.laid (t':=s.toks) L (av _)<|show gj X.prog X.w _ g _ (.lst ys) from(J,A,C,D,e),rfl,q _<|I.hok.fresh<|av _)
 rcases T with T|T
 .let(A,D,Y,J):=I.list T;have G:=!D;let(o,U,O,n,N):=Y.isList;exact call_list_seq p (.inl rfl) U O N (λg C L e=>E A D J g C L e) (by erw[bp]<;>lk)
 .let(A,D,Y,J):=I.tuple T;have G:=!D;let(o,U,O,n,N):=Y;calc call_list_seq p (.inr rfl) U O N (λg C L e=>E A D J g C L e) (by erw[bp]<;>lk)
def tyV (K:Frag)(T:String)(x:V)(H:Hp):Prop:=match x with
 |.str _=>T="str"
 |.int _=>T="int"
 |.ref p=>(T="list"/\∃D,aQ K H p D)\/(T="tuple"/\∃o,K.lookup p=#[o]/\o.cls=.type "tuple"/\o.dict=none)\/
  (T="dict"/\∃A,H p=#[.dK A])
 |_=>False
def aaU (I:Inv X D Y H s)(r:RelV x v)(A:tyV X.K T x H):
  s.TypeIs v T/\∀a,v=.ref a->∃ob,s.heap a=#[ob]/\ob.dict=none:=by
 cases x with
 |str z=>
  let(t,rfl):=r;cases(show T="str" from A);calc⟨hE s z t,λ_ e=>nomatch e⟩
 |int i=>
  let(t,rfl):=r;cases(show T="int" from A);calc⟨typeIs_int s i t,λ_ e=>nomatch e⟩
 |ref p=>
  cases r;rcases A with⟨rfl,U,J⟩|⟨rfl,o,M,O,G⟩|⟨rfl,Q,M⟩
  .let(L,_,N,_):=I.list J;refine⟨N.isList.typeIs,λa e=>?_⟩;k_go;let(o,n,e,c,G,_):=N;exact⟨o,e,G⟩
  .refine⟨⟨o,I.o9 p o M,O⟩,λa e=>?_⟩;k_go;exact⟨o,I.o9 _ o M,G⟩
  .let(_,_,_,_,o,_,_,e,C,_):=I.hok p _ M;refine⟨⟨o,e,C.1⟩,λa E=>?_⟩;cases E;calc⟨o,e,C.2.1⟩
 |_=>calc False.elim A
def G6 (K:Frag)(T:String)(r:V->¬V->Hp->VK->Prop)(G:TE):TE:=λA H Q=>G A H λx E=>tyV K T x E/\r x [] E Q
def uZ (K:Frag)(T:String)(r:V->¬V->Hp->VK->Prop)(G:TE)(t:TA):TE:=λA H Q=>G A H λx E=>tyV K T x E/\t A E λD J=>r x D J Q
variable {T id:String}
def IW (j:PlainAttrs T)(slot:Slot T name id)(J:typeOf (.builtin id)=pure (.type "method_descriptor"))(U:ug X id r)(Y:PE X o l)
  (C:(attributeBase o name X.env (eval o X.env)=eval o X.env)∣0)(D:((E.endLine==G.line)=true)∣0):PE X (.Call (.Attribute o name E) [] [] G) (G6 X.K T r l):=by
 intro A s N H Q I h;refine wpAny_Call_method0_late C D<|aV (Y A s N H _ I h) ?_;rintro v g ⟨x,O,L,M,m,k⟩;let(h1,h2):=aaU L M m;calc(T,id,j,slot,J,h1,h2,ja rfl<|PySem.evalArgs_none<|U A g N O x [] v [] Q L M .nil k)
def uq (y:PlainAttrs T)(slot:Slot T name id)(N:typeOf (.builtin id)=pure (.type "method_descriptor"))(p:ug X id r)(q:PE X o n)(m:PA X (e::D) t)
  (E:(attributeBase o name X.env (eval o X.env)=eval o X.env)∣0)
  (M:((backTo G (starEach (e::D) X.env)).all (λx=>not x.1) && (backToKw G (keywordEach [] X.env)).all (λx=>x.1.isSome)
   && decide ((!(e::D))+(!([]:¬Keyword))+(if([]:¬Keyword).isEmpty then 0 else 1)<30))=true:=by rfl)
  (J:((L.endLine==G.line)=true)∣0)(u:(starEach (e::D) X.env=(false,eval e X.env)::starEach D X.env)∣0)(C:((backTo G<|starEach D X.env).any (·.1)=false)∣0):
  PE X (.Call (.Attribute o name L) (e::D) [] G) (uZ X.K T r n t):=by
 intro A s O H Q I h;refine wpAny_Call_method_late E M J rfl<|aV (q A s O H _ I h) ?_;rintro v d ⟨x,k,U,j,w,z⟩;let(h1,h2):=aaU U j w;refine(T,id,y,slot,N,h1,h2,?_);have Y:=m G A d O k _ U z;rw[u] at Y ⊢;refine ja (by show(false||(backTo G<|starEach D X.env).any (·.1))=false;rw[C]<;>rfl) (Calls.evalArgs_plain ?_);refine aV Y ?_;rintro a f ⟨i,g,l,c,b⟩;calc p A f O g x i v a Q l j c b
end
def MtM (X:Cx)(id:String)(r:V->¬V->Hp->VK->Prop):Prop:=
 ∀(A:¬(Addr×Obj)) (s:Shared) (B:St) (H:Hp) (x:V) (D:¬V) (v:Value) (C:¬Value) (Q:VK),Inv X A B H s->RelV x v->Vals D C->r x D H Q->
  (X.prog\X.w) X.A (call (.builtin id) (v::C)) (EP X A B Q) NE s
def Vals.one (h:Vals [x] us):∃u,us=[u]/\RelV x u:=by
 cases h with
 |cons r t=>cases t;calc(_,rfl,r)
def Vals.zero (h:Vals [] us):us=[]:=by cases h;rfl
theorem Nv:∀(l:¬A) (i:Nat),(!(l.eraseIdx i))<=!l
 |[],_=>av _
 |_::_,0=>kA _
 |_::r,i+1=>Nat.succ_le_succ<|Nv r i
theorem foldl_rep (A:¬Value):∀(k:Nat) (acc:¬Value),
  foldl (λx1 x2=>x1++x2) acc.toArray (replicate k A.toArray)=(acc++(replicate k A).flatten).toArray
 |0,acc=>by simp
 |k+1,acc=>by
  have e:acc.toArray++A.toArray=(acc++A).toArray:=by simp
  have G:(acc++A)++(replicate k A).flatten=acc++(replicate (k+1) A).flatten:=by grind
  rw[<-G,←foldl_rep A k (acc++A),←e,jI,g9]
section
variable {xs ys zs:¬V}
def Inv.aif {A its':¬Value}{n:Nat}{f:Array Value->Array Value}{t':Nat}(I:Inv X B L H s)(C:H l=#[.lst xs])
  (e:s.heap l=some {cls:=.type "list",data:=.seq A.toArray n})(E:f A.toArray=its'.toArray)(M:Vals ys its')(J:(!ys)<=sizeLine):
  Inv X B L (upd H l<|.lst ys) {s with heap:=s.heap.update l<|Obj.mapSeq f,toks:=t'}:=by
 have q:=PySem.IsL.update e f;rw[E] at q;refine I.write (x:=l) (e:=l) (by rw[C];calc trivial) (.inl rfl) (λN u D G=>(cb s.heap (Obj.mapSeq f)<|b8 D).trans G) ⟨_,q⟩ ?_;calc⟨J,its',_,M,q⟩
def Inv.ac9 (I:Inv X B D H s)(M:Vals ys A)(C:(!ys)<=sizeLine):
  Inv X B D (upd H (~~~s)<|.lst ys) {s with heap:=s.heap.push {cls:=.type "list",data:=.seq A.toArray},toks:=t'}:=
 I.laid (λ_ _ q=>ay _ q) (av _) (C,A,0,M,bj _ rfl)
theorem Inv.fresh (I:Inv X A B H s):H (~~~s)=none:=I.hok.fresh<|av _
def Inv.ada (I:Inv X B D H s)(C:H l=#[.lst xs]):(!xs)<=sizeLine/\∃(A:¬Value) (n:Nat),Vals xs A/\(!xs)=!A/\s.heap l=some {cls:=.type "list",data:=.seq A.toArray n}:=by let(z,A,n,r,e):=I.hok l _ C;calc(z,A,n,r,!r,e)
def adb (h:n<=sizeLine):Builtin.List.listTooLong n=false:=by delta Builtin.List.listTooLong;lk
end
section
def agF:V->¬V->Hp->VK->Prop:=λx J H Q=>∃l D y,x=.ref l/\J=[y]/\H l=#[.lst D]/\(!D)<sizeLine/\Q .non (upd H l<|.lst<|D++[y])
def Nx:MtM X "list.append" agF:=by intro B s T H x M v J Q I L G h;let(l,O,y,rfl,rfl,C,E,q):=h;cases L;let(u,rfl,D):=G.one;let(z,A,n,r,N,e):=I.ada C;refine gm F.slot_list_append ⟨_,e,rfl⟩ F.entry_list_append (F.args_list_append_2 _ _) (PySem.list_append l A.toArray n u (by rw[bp];lk)) ⟨e,?_⟩;refine⟨.non,_,I.aif (its':=A++[u]) C e 's' (r.append<|.cons D .nil) ?_,rfl,q⟩;grind
def ani:R2:=λx y H Q=>∃l k D,x=.ref l/\y=.int k/\H l=#[.lst D]∧-(2^63)<=k/\k<2^63/\(!D)*k.toNat<=sizeLine/\
 ∀p,H p=none->Q (.ref p) (upd H p<|.lst (replicate k.toNat D).flatten)
def len_rep (xs:¬A)(k:Nat):(replicate k xs).flatten.length=k*!xs:=by simp
def aii:cF X (binaryOp .Mult) ani:=by
 intro M s d H x y v u Q I g o h;let(l,k,c,rfl,rfl,O,h1,h2,L,q):=h;cases g;let(t,rfl):=o;let(z,A,n,r,j,e):=I.ada O;have E:A.toArray.size*k.toNat<=sizeLine:=by rw[bp,←j];exact L
 have C:Not (A.toArray.size*k.toNat>(2^63 - 1)/8):=by
  have:(sizeLine:Nat)<=(2^63 - 1)/8:=by decide
  lk
 have D:Not ((not (Builtin.List.listFitsIndex k))=true):=by rw[fitsIndex_both h1 h2];simp
 have B:Not (Builtin.List.listTooLong (A.toArray.size*k.toNat)=true):=by rw[adb E];simp
 have G:foldl (λJ Y=>J++Y) #[] (replicate (if A.toArray.isEmpty=true then 0 else k.toNat) A.toArray)=(replicate k.toNat A).flatten.toArray:=by
  have N:∀m:Nat,foldl (λJ Y=>J++Y) #[] (replicate m A.toArray)=(replicate m A).flatten.toArray:=λm=>by have:=foldl_rep A m [];grind
  rw[N];cases A with
  |nil=>simp
  |cons a b=>rfl
 refine wpAny_binaryOp_repeat_ref (T:="list") (U:="int") ⋯ ⟨_,e,rfl⟩ (λp=>typeIs_int p k t) noFill_list_mul F.fills_int_mul F.slot_int_rmul repeat_list F.slot_int_index.lookup
  (gm F.slot_int_rmul (typeIs_int s k t) F.entry_int_rmul (F.args_int_rmul_2 _ _) (int___rmul___int_list k t l A.toArray n)
   ⟨e,rfl,⟨_,e,rfl⟩,gm F.slot_list_mul ⟨_,e,rfl⟩ F.entry_list_mul (F.args_list_mul_2 _ _) (AutoListH.list___mul___list_int_3 l A.toArray n k t D C B) ⟨e,?_⟩⟩)
 rw[G];calc⟨.ref _,_,I.ac9 (t':=s.toks) (r.rep k.toNat) (by rw[len_rep,Nat.mul_comm];calc L),rfl,q _ I.fresh⟩
end
section
variable {s:Shared}
end
section
end
end L2
namespace Att
open PySem.W PySem.Calls PyProof.Rows
def Ja {P:Params}{h:Heap}:∀(ns:¬Int) (vs:¬Value),WellAll P h vs (ns.map WData.int)->IntsAre vs ns:=by
 intro ns;induction ns with
 |nil=>
  intro vs w;rw[fe] at w;cases w;calc .nil
 |cons n ns A=>
  intro vs w;rw[aS] at w;cases w with
  |cons a b=>cases a;calc .cons _ _<|A _ b
def aaV {l:OpenLaw}{n:Nat}(H:l.most=#[n]){P:Params}{h:Heap}{args:¬WData}{vals:¬Value}
  (A:l.row.toRowW.claim.pre args=true)(E:WellAll P h vals args):
  ∃a vs ns,vals=[Value.ref a]/\args=[WData.list<|ns.map WData.int]/\h a=some {cls:=.type "list",data:=.seq vs.toArray}/\IntsAre vs ns/\(!ns)<=n:=by
 have C:WShape.hasAll [] args [.list .int]=true:=(pre_splitW A).1;have O:l.pre.holds [] {args:=args}=true:=(pre_splitW A).2;let(d,r,rfl,h1,h2):=hasAllW_cons C;obtain rfl:=hasAllW_nil h2;let(L,rfl,J):=hasW_list h1;let(ns,rfl):=items_int J;have D:(!ns)<=n:=by
  delta OpenLaw.pre at O;have M:(WTm.not<|.lt (.lit<|.int (n:Int))<|.len<|.arg 0).holds [] {args:=[.list<|ns.map .int]}=true:=by have M:=(holds_andW O).1;lk
  have k:=condW_of M<|w_not<|w_lt w_lit<|w_len_list<|w_arg rfl;grind
 cases E with
 |cons x G=>
  cases G;cases x with
  |list I B=>calc(_,_,ns,rfl,rfl,I,Ja ns _ B,D)
def aaW (l:OpenLaw)(args:¬WData):l.row.toRowW.claim.post args (.bool true) args=true:=
 postW_of (r:=l.row.toRowW) (X:=(true==true))
  (show WShape.has [] (.bool true) .bool=true by first|rfl|decide|simp[WShape.has,WShape.arms,WShape.armsAll])
  (show(WTm.eq .res<|.lit<|.bool true).value [] {args:=args,res:=#[.bool true],after:=args}=#[.bool<|true==true] from w_eq_bool (w_res rfl) w_lit) rfl
def VJ {l:OpenLaw}{n:Nat}{q:Program}{A:¬Str}{g:(Str->↑Value)->Heap->Prop}{m:World->Heap->Prop}{d:DefRec}
  (x:l.most=#[n])(Q:d.params.defaults=[])
  (call:∀(w:World) (B C:Shared) (M j:Str->↑Value) (H:Addr) (o:Obj) (k p D:Value) (a:Addr) (vs:¬Value) (ns:¬Int),
   Ground q A [] g w B M j C.heap->m w C.heap->
   C.heap H=#[o]->o.data=.func (docDef d.name d.params d.body d.scope k p D)->C.heap.CodeRec p d.name->M d.name=#[.ref H]->
   C.heap a=some {cls:=.type "list",data:=.seq vs.toArray}->IntsAre vs ns->(!ns)<=n->C.gens= #[]->
   codeAny (model l.prog w) callerA (.call (.ref H) ⟨[.ref a],[]⟩) (λr N=>r=.ok (.ret (.bool true))/\OldK C.heap N.heap/\N.os=C.os/\AllBare N.gens) C):
  WalkO q A g m l.row.toRowW d [] (λf vs=>PySem.call f vs):=by
 intro w B C M j G Y H o k p D u kV i z O hD T b args vals as L t e U c;obtain rfl:u=.none:=Dflts.none hD Q;obtain rfl:kV=.none:=Dflts.noKw hD;let(a,vs,ns,rfl,rfl,J,E,I):=aaV x L U;refine enter_call<|kS (call w B C M j H o k p D a vs ns G Y i (fd_plain z) O T J E I b) λr N h=>?_;let(rfl,h2,v,y):=h;calc⟨.inl ⟨.bool true,.bool true,[],rfl,λ_=>rfl,.bool true,aaW l _,λ_=>⟨List.Pairwise.nil,λ_ s=>(nomatch s)⟩⟩,h2,v,y⟩
section
variable {K:Frag}
end
end Att
namespace L2
open PyProof.Rows
def aaX (h:IntsAre vs ns):Vals (ns.map V.int) vs:=by
 induction h with
 |nil=>calc .nil
 |cons n t _ A=>calc .cons ⟨t,rfl⟩ A
def Only (H:Hp):Prop:=∀b,H b=none\/∃o D,H b=#[.gO o<|.lst D]
def ade {P:Program}{w:World}{K:Frag}{T y:Str->↑Value}{k:Nat}{j a:Addr}{fd:FuncData}{x:Str}{sp:Sp}{C:Shared}{vs:¬Value}{ns:¬Int}
  (KX:K.In C.heap)(N:C.heap.Ns mainGlobals T)(I:C.heap.Ns builtinsNs y)(l:∀x:Str,x≠"__name__"->y x=bootBuiltins x)(M:C.heap.NoLimit)(hg:C.gens= #[])
  (g:C.heap a=some {cls:=.type "list",data:=.seq vs.toArray})(hi:IntsAre vs ns)(hl:(!ns)<=sizeLine)(hr:cY k callerA)
  (F:∀D:Heap,K.In D->D.Ns mainGlobals T->jA P w K T D k j fd [x] sp)(G:∀(s:Shared) (u:Value),BindsTo s fd ⟨[u],[]⟩ [(x,u)])
  (t:∀H:Hp,Only H->aQ K H a (ns.map V.int)->sp [.ref a] H λv _=>v=.bl true):
  codeAny (model P w) callerA (.call (.ref j) ⟨[.ref a],[]⟩) (λr E=>r=.ok (.ret<|.bool true)/\OldK C.heap E.heap/\E.os=C.os/\AllBare E.gens) C:=by
 have rv:=aaX hi;have Q:=!hi;have core:∀H:Hp,Only H->aQ K H a (ns.map V.int)->j7 P w H C.heap->(∀b,H b≠none->b=a)->(H a≠none->K.lookup a=none)->
   codeAny (model P w) callerA (.call (.ref j) ⟨[.ref a],[]⟩) (λr E=>r=.ok (.ret<|.bool true)/\OldK C.heap E.heap/\E.os=C.os/\AllBare E.gens) C:=by
  intro H hO hS f hA hK;have A:∀{b:Addr}{o:Obj},C.heap b=#[o]->H b=none->(yW C.heap H) b=#[o]:=λe n=>acR e n;have c:∀{b:Addr}{o:Obj} {Y:Array DictEntry} {U:Nat},C.heap b=#[o]->o.data=.dict Y U->H b=none:=λ{b o Y U} e d=>by grind
  have B:∀{b:Addr}{m:Str->↑Value},C.heap.Ns b m->(yW C.heap H).Ns b m:=λ{b m} ⟨o,Y,U,e,d,r⟩=>⟨o,Y,U,A e (c e d),d,r⟩;have L:K.In (yW C.heap H):=λb o e=>A (KX b o e) (by
   grind)
  have hM:Mod K T (yW C.heap H):=⟨L,B N,⟨y,B I,l⟩,let⟨mc,h1,h2⟩:=M;⟨mc,B h1,h2⟩⟩;have e0:G4 P w K T (yW C.heap H) callerA [] C H:=⟨rfl,hM,λb o e=>agx e,oD<|aaA _ _,trivial,λb I=>absurd (show b∈([]:¬Addr) from I) 's',f,.of_eq hg⟩;refine kS ((F _ L<|B N).run callerA [] C H ⟨[.ref a],[]⟩ [.ref a] [.ref a] _ hr e0 (G C<|.ref a) (.cons rfl .nil)<|t H hO hS) λr E h=>?_;cases r with
  |error e=>calc h.elim
  |ok fl=>
   cases fl with
   |next=>calc False.elim h
   |brk=>calc False.elim h
   |cont=>calc False.elim h
   |ret u=>
    let(v,H',os,J,un,O,r',q):=h;have q':v=.bl true:=q;subst q';obtain rfl:u=Value.bool true:=r';refine⟨rfl,OldK.of_keep λb o e=>?_,os,J⟩;cases q:H b with
    |none=>calc un.keep b o e q (by intro z;calc absurd (show b∈([]:¬Addr) from z) 's') 's'
    |some u=>
     rcases hO b with z|⟨ob,xs,z⟩
     .rw[q] at z;cases z
     .have z2:=un.tM b ob _ z;let(e1,_):=f b _ z;let(e2,_):=O b _ z2;rw[e] at e1;cases e1;exact e2
 cases p:K.lookup a with
 |some o=>
  have e:=KX a o p;rw[g] at e;k_go;refine core (λ_=>none) (λ_=>.inl rfl) (.inr ⟨_,vs.toArray,_,p,rfl,rfl,rfl,by rw[bp,Q];calc hl,by simpa using rv⟩) (λb u z=>by have i:(none:↑HO)=#[u]:=z;cases i) (λb z=>absurd rfl z) λz=>absurd rfl z
 |none=>
  refine core (λb=>if b=a then #[.gO {cls:=.type "list",data:=.seq vs.toArray}<|.lst<|ns.map V.int] else none) (λb=>?_) (.inl<|.inr ⟨{cls:=.type "list",data:=.seq vs.toArray},ah rfl⟩) (λb u z=>?_) (λb z=>?_) λ_=>p
  .grind
  .by_cases I:b=a
   .have i:=(ah I).symm.trans z;cases i;subst I;exact⟨g,by rw[ac];calc hl,vs,_,rv,g⟩
   .omega
  .omega
def agG {l:PySem.W.OpenLaw}{n k:Nat}{q:Program}{B:¬Str}{p:(Str->↑Value)->Heap->Prop}{O:World->Heap->Prop}{d:DefRec}{K:Params->Frag}{U:World->Sp}{x:Str}
  (e:l.most=#[n])(M:n<=sizeLine)(Q:d.params.defaults=[])(hr:cY k callerA)
  (z:∀(w:World) (h:Heap),O w h->(K w.params).In h)
  (F:∀(w:World) (C:Str->↑Value) (I:Addr) (h:Heap),(K w.params).In h->h.Ns mainGlobals C->C d.name=#[.ref I]->
   ∃L:FuncData,(∀(s:Shared) (u:Value),BindsTo s L ⟨[u],[]⟩ [(x,u)])/\
    ∀D:Heap,(K w.params).In D->D.Ns mainGlobals C->jA l.prog w (K w.params) C D k I L [x] (U w))
  (m:∀(w:World) (H:Hp) (a:Addr) (ns:¬Int),(!ns)<=n->Only H->aQ (K w.params) H a (ns.map V.int)->U w [.ref a] H λv _=>v=.bl true):
  PySem.W.WalkO q B p O l.row.toRowW d [] (λf vs=>PySem.call f vs):=by
 refine Att.VJ e Q λw j g C mb I o pm cd r a vs ns G Y ho hd c T J E A i=>?_;have N:=z w _ Y;let(L,b,t):=F w C I _ N G.T.g T;calc ade N G.T.g G.T.b G.T.builtins G.T.nolimit i J E (ck A M) hr t b λH y hS=>m w H a ns A y hS
def inClass (s:Stmt)(j:Nat):Stmt:=match s with
 |.ClassDef _ _ _ E _ _ _ _ _ _ _=>E.getD j<|.Pass (0,0,0,0)
 |_=>.Pass (0,0,0,0)
def lY (s:Stmt):Arguments:=match s with
 |.FunctionDef _ a _ _ _ _ _ _ _ _=>a
 |_=>{posonlyargs:=[],args:=[],vararg:=none,kwonlyargs:=[],kw_defaults:=[],kwarg:=none,defaults:=[]}
def eE (s:Stmt):¬Stmt:=match s with
 |.FunctionDef _ _ b _ _ _ _ _ _ _=>b
 |_=>[]
def aP (s:Stmt):Scope:=match s with
 |.FunctionDef _ _ _ _ _ _ A _ _ _=>A
 |_=>{kind:=.function,names:=[],isGenerator:=false,isCoroutine:=false}
structure xW (K:Frag)(x qual:Str)(st:Stmt)(f:Addr)(fd:FuncData):Prop where
 ex:∃(oc:Value) (od:↑Addr) (kV doc pm:Value) (an:↑Addr) (cdv ct:Value) (osl:Array (↑Value)),
  fd=fnOf x qual (lY st) (eE st) (aP st) .none kV doc pm an cdv ct/\K.lookup f=#[(oc,od,.func fd,osl)]/\codeIn K cdv qual=true
 kp:keepIn K (.ref f)=true
section
variable {K:Frag}
def xW.ok {x C:Str}{st:Stmt}{f:Addr}{J:FuncData}{N ps:¬Str}{k:Nat}{I:Sp}(F:xW K x C st f J)(S:iQ N ps (aP st))(len:∀vs H Q,I vs H Q->(!vs)=!ps)
  (T:∀(D:Value) (A:Around) (B:¬Env) (s:Shared) (H:Hp) (vs:¬V) (Q:VK),cY k (A.deeper (envOfC C (aP st) (~~~s) f D))->I vs H Q->
   ∃t,jy (iD P w K M E N C (aP st) f D A B s H) (eE st) t/\t {nx:=λ_ L=>Q .non L,rt:=Q} (start N vs) H):jA P w K M E (k+1) f J ps I:=by
 let(j,g,kV,Y,l,O,D,U,d,rfl,lk,G):=F.ex;calc akN lk G S len λA B s H vs Q hr m=>T D A B s H vs Q hr m
def xW.binds {x B:Str}{st:Stmt}{f:Addr}{A:FuncData}{ps:¬Str}(F:xW K x B st f A)
  (h:∀(kV Y k:Value) (O:↑Addr) (D U:Value) (us:¬Value),(!us)=!ps->bindArgs (fnOf x B (lY st) (eE st) (aP st) .none kV Y k O D U) ⟨us,[]⟩=pure (ps.zip us)):Binds A ps:=by
 let(j,E,kV,Y,k,O,D,U,d,rfl,lk,C):=F.ex;calc h kV Y k O D U
def aaY {x B:Str}{st:Stmt}{f:Addr}{j:Value}{C O:↑Addr}{d:Array (↑Value)}{kV Y A D U:Value}(l:K.lookup f=#[⟨j,C,.func<|fnOf x B (lY st) (eE st) (aP st) .none kV Y A O D U,d⟩])
  (c:codeIn K D B=true)(k:keepIn K (.ref f)=true):xW K x B st f (fnOf x B (lY st) (eE st) (aP st) .none kV Y A O D U):=⟨⟨j,C,kV,Y,A,O,D,U,d,rfl,l,c⟩,k⟩
end
def mG (hr:cY k A):A.units+1<cLine:=gE (Nat.add_le_add_left (by decide:1<=64) _) hr.units
def Ny (h:n<=1000):n<sizeLine:=gE h<|by decide
section
end
def Same (H E:Hp):Prop:=∀b o,H b=#[o]->E b=#[o]
def Same.refl (H:Hp):Same H H:=λ_ _ h=>h
def Same.trans (a:Same H E)(b:Same E J):Same H J:=λc o h=>b c o<|a c o h
def Same.free (e:Same H E)(h:E l=Option.none):H l=Option.none:=by
 cases q:H l with
 |none=>rfl
 |some o=>rw[e l o q] at h;cases h
def Same.seq {K:Frag}{H E:Hp}{a:Addr}{xs:¬V}(e:Same H E)(h:aQ K H a xs):aQ K E a xs:=by
 rcases h with(h|⟨o,h⟩)|h
 .exact .inl<|.inl<|e _ _ h
 .exact .inl<|.inr ⟨o,e _ _ h⟩
 .calc .inr h
def PE.imp (h:PE X e t)(U:∀B H Q,t' B H Q->t B H Q):PE X e t':=λA s B H Q I q=>h A s B H Q I<|U B H Q q
section
variable {h':Heap}
def Inv.turns {fp:¬Addr}{t':Nat}(I:Inv X A M H s)(k:∀b o,Not (b∈fp)->s.heap b=#[o]->h' b=#[o])(C:∀b∈fp,qF X A H b):Inv X A M H {s with heap:=h',toks:=t'}:=by
 have L:∀b u,H b=#[u]->Not (b∈fp):=λb u e z=>by rw[(C b z).1] at e;k_go
 refine I.step (λb B=>⟨(C b B).2.2.2.1,(C b B).2.1,(C b B).2.2.2.2.1,(C b B).2.2.2.2.2⟩) (λb o _ _ O e _=>k b o O e) (λb o _ _ O e _=>⟨o.slots,k b o O e⟩) (λ_ _ _ _ n=>n)
  (λb o O e=>⟨o,k b o O e⟩) (λ_ _ e=>e) (λ_ _ _ e=>e) (λm G=>?_) (λb u e=>?_) I.bare
 .let(o,E,D,J,r):=G;exact⟨o,E,D,k _ o (λz=>(C _ z).2.1 rfl) J,r⟩
 .refine(I.hok b u e).stay (λc v O q=>k c v ?_ q) (λ_ q=>q) λ_ _ q=>q;grind
def Inv.K7 {fp:¬Addr}{T:Addr}{o:HO}{t':Nat}(I:Inv X A Y H s)(k:∀b o,Not (b∈fp)->s.heap b=#[o]->h' b=#[o])(C:∀b∈fp,qF X A H b)(U: ~~~s<=T)
  (E:gj X.prog X.w (upd H T o) h' T o):Inv X A Y (upd H T o) {s with heap:=h',toks:=t'}:=by
 have D:=I.hok.fresh U;have N:∀b u,H b=#[u]->Not (b∈fp):=λb u e z=>by rw[(C b z).1] at e;k_go
 have neT:∀{b:Addr}{u:Obj},s.heap b=#[u]->b≠T:=λe=>cw<|bz (bX e) U;refine I.step (λb B=>⟨(C b B).2.2.2.1,(C b B).2.1,(C b B).2.2.2.2.1,(C b B).2.2.2.2.2⟩) (λb o _ _ O e _=>k b o O e) (λb o _ _ O e _=>⟨o.slots,k b o O e⟩)
  (λb o _ e n=>by rw[au<|neT e];calc n)
  (λb o O e=>⟨o,k b o O e⟩) (λb Q e=>by rw[au<|aZ e D];calc e) (λb _ _ e=>by rw[au<|aZ e D];calc e) (λm L=>?_) (λb u e=>?_) I.bare
 .let(o,J,G,M,r):=L;exact⟨o,J,G,k _ o (λz=>(C _ z).2.1 rfl) M,r⟩
 .by_cases B:b=T
  .subst B;rw[ao] at e;k_go;exact E
  .rw[au B] at e;refine(I.hok b u e).stay (λc v O q=>k c v ?_ q) (λc q=>by rw[au<|aZ q D];calc q) λc Q q=>by rw[au<|aZ q D];exact q
   grind
end
def Ite (K:Frag)(a:Addr):It:=
  (λi H=>∃D x,aQ K H a D/\D[i]? =#[x],
   λi H v E=>∃p x,H p=none/\v=.ref p/\(∀D,aQ K H a D->D[i]? =#[x])/\E=upd H p (.tup [.int (i:Int),x]),
   λi H=>∃D,aQ K H a D/\(!D)<=i)
def aaZ {P:Program}{w:World}{K:Frag}{E:¬Expr}{k:Nat}{pos:Pos}(a e C:Addr)(G:e≠C):
  Turn P w K (.Tuple E k pos) (Ite K a) [e,C] e (λi h=>(∃N,IsEnum h e C (i:Nat) N)/\h.IsListIter C a i) where
 mem:=by simp
 obj:=λi h st b B=>by
  let((N,Q),(o,e1,c,d)):=st;rcases aI.mp B with rfl|B
  .exact⟨_,Q,λv z=>by have z':Data.fields _=Data.cell v:=z;cases z'⟩
  .rw[a7.mp B];exact⟨o,e1,λv z=>by rw[d] at z;cases z⟩
 keep:=λi h h' st k=>by let((N,Q),st):=st;exact⟨⟨N,k e 's' _ Q⟩,st.at λo e=>k C 's' o e⟩
 item:=by
  intro X j t Y i M s σ H I O st m;subst j t Y;let((N,Q),A):=st;let(xs,x,T,f):=m;let(n,rv,p,hz):=I.list T;let(u,hu,ru):=rv.get f;refine wpAny_pyNext_enum_item Q A p.isList (x:=u) ‹hu› G λh' ho J hT hsz hk=>?_;refine⟨_,rfl,wpAny_letOwnedTupleGo_enum ho λh2 l D=>?_⟩;have L:e< ~~~s:=bX Q;have g:h2 (~~~s)=some {cls:=.type "tuple",data:=.seq #[.int i s.toks,u]}:=(D.2 _<|kw L).trans hT;refine⟨.ref (~~~s),upd H (~~~s)<|.tup [.int (i:Int),x],?_,rfl,⟨_,x,I.hok.fresh<|av _,rfl,λys hy=>by rw[I.yX hy T];calc f,rfl⟩,⟨⟨u,by simpa using l⟩,J.at λo y=>(D.2 C G.symm).trans y⟩,λb B=>?_⟩
  .refine I.K7 (fp:=[e,C]) (λb o B q=>?_) O (av _) ⟨by show 2<=sizeLine;decide,[.int i s.toks,u],.cons ⟨_,rfl⟩<|.cons ru .nil,⟨_,g,rfl,_,rfl⟩⟩;have h1:b≠e:=λz=>B (by simp[z]);have U:b≠C:=λz=>B (by simp[z]);exact(D.2 b h1).trans<|hk b o h1 U q
  .have r:b≠s.heap.objs.size:=by
    rcases aI.mp B with rfl|B
    .exact cw L
    .rw[a7.mp B];let(_,y,_):=A;exact cw<|bX y
   rw[au r];exact(O b B).1
 done:=by intro X j t Y i M s σ H I O st m;subst j t Y;let((N,Q),A):=st;let(xs,T,f):=m;let(n,rv,p,hz):=I.list T;have hl:=!rv;refine wpAny_pyNext_enum_end I.ok.hd Q A p.isList (by simp;lk) λh' eb=>⟨rfl,I.turns (t':=s.toks) (fp:=[e,C]) (λb o B q=>eb b o (λz=>B<|by simp[z]) q) O⟩
 self:=λ_ _ _ _ _ st h=>by let((N,Q),_):=st;calc wpAny_pyIter_enum Q h
section
inductive aa0 (K:Frag)(R:(It->Hp->Prop))(vs:¬V)(H1:Hp):Prop
 |mk:∀a,vs=[.ref a]->((∃xs,aQ K H1 a xs))->R (Ite K a) H1->aa0 K R vs H1
def Y0 (K:Frag)(A:TA):TI:=λB H R=>A B H λJ E=>aa0 K R J E
def WR {T:Pos}(Q:Gl X "enumerate")(Y:X.mg "enumerate"=none)(N:PA X [l] z)(g:(starEach [l] X.env=[(false,eval l X.env)])∣0):
  PI X (.Tuple J k T) (.Call (.Name "enumerate" p) [l] [] G) (Y0 X.K z):=by
 intro B s c H R I h;refine Call_<|sG I Q Y boot_enumerate<|cy (aV (N G B s c H _ I h) ?_) g rfl;rintro w O ⟨x,M,D,v,u⟩;let(a,e,(i,j),q):=u;subst e;cases v with
 |cons r y=>
  cases y;cases r;let(o,n,t,f):=D.list j;refine call_enumerate_list t.isList λd L hI m U=>?_;refine wpAny_pyIter_enum L ?_;have E: ~~~O+1≠O.heap.objs.size:=Nat.succ_ne_self _;refine⟨_,[~~~O+1,~~~O],_,_,M,rfl,D.kept U,aaZ a _ (~~~O) E,⟨⟨.none,L⟩,hI⟩,λb C=>?_,q⟩;have A: ~~~O<=b:=by
   rcases aI.mp C with rfl|C
   .exact kA _
   .rw[a7.mp C];exact av _
  calc D.Bv A<|D.hok.fresh A
end
theorem zf:∀(names:¬(Str×NameKind)) (acc:¬(Str×Addr)),(∀y∈names,y.2=.free->∃c,env.cells.lookup y.1=#[c])->(∀x c,acc.lookup x=#[c]->env.cells.lookup x=#[c])->
  ∃A:¬(Str×Addr),(forIn names acc λ(x:Str×NameKind) (r:¬(Str×Addr))=>(match x with|(name,B)=>if(B==NameKind.free)=true then do let c<-cellOf env name;pure (ForInStep.yield ((name,c)::r)) else pure (ForInStep.yield r):Sem (ForInStep<|List<|Str×Addr)):Sem (List<|Str×Addr))=pure A/\
   (∀x c,A.lookup x=#[c]->env.cells.lookup x=#[c])/\(∀x,(x,NameKind.free)∈names->∃c,A.lookup x=#[c])/\∀x c,acc.lookup x=#[c]->∃C,A.lookup x=#[C]
 |[],acc,_,G=>⟨acc,rfl,G,λ_ h=>(nomatch h),λx c h=>⟨c,h⟩⟩
 |(n,k)::r,acc,E,G=>by
  by_cases M:k=.free
  .subst M;let(c,O):=E (n,.free) aa rfl;have D:∀x C,((n,c)::acc).lookup x=#[C]->env.cells.lookup x=#[C]:=λx C h=>by grind
   let(A,e,h1,h2,J):=zf r ((n,c)::acc) (λy H=>E y<|ae _ H) D;refine⟨A,?_,h1,λx I=>?_,λx C I=>?_⟩
   .rw[iN];have L:cellOf env n=pure c:=by delta cellOf;rw[O]
    grind
   .grind
   .grind
  .let(A,e,h1,h2,J):=zf r acc (λy H=>E y<|ae _ H) G;grind
def Px (C:∀y∈scope.names,y.2=.free->∃c,env.cells.lookup y.1=#[c]):
  ∃A:¬(Str×Addr),closureFor scope env=pure A/\(∀x c,A.lookup x=#[c]->env.cells.lookup x=#[c])/\∀x,(x,NameKind.free)∈scope.names->∃c,A.lookup x=#[c]:=by
 let(A,e,h1,h2,_):=zf scope.names [] C (λx c h=>by simp at h);refine(A,?_,h1,h2);refine Eq.trans (b9 (λq=>q>>= λc=>pure c) e) ?_;rfl
theorem u0 {scope:Scope}{env:Env}:∀{names:¬(Str×NameKind)},(names.map λ(n,k)=>if(k==NameKind.free && env.scope.kind==.function && env.kindOf n==some .cell) then(n,NameKind.cell) else(n,k)).lookup x=#[k]->
  ∃C,(x,C)∈names/\(k=C\/(C=.free/\k=.cell))
 |[],h=>by simp at h
 |(n,j)::r,h=>by
  have g:List.lookup x ((if(j==NameKind.free && env.scope.kind==.function && env.kindOf n==some .cell)=true then(n,NameKind.cell) else(n,j))::(r.map λ(n,k)=>if(k==NameKind.free && env.scope.kind==.function && env.kindOf n==some .cell) then(n,NameKind.cell) else(n,k)))=#[k]:=h;by_cases O:(j==NameKind.free && env.scope.kind==.function && env.kindOf n==some .cell)=true
  .rw[ah O,o5] at g;cases A:x==n with
   |true=>
    rw[A] at g;cases g;have D:j=.free:=by erw[bc] at O;exact ge O.1.1
    rw[ge A];calc⟨.free,by rw[D];calc aa,.inr ⟨rfl,rfl⟩⟩
   |false=>rw[A] at g;let(C,B,q):=u0 (scope:=scope) (env:=env) (names:=r) g;exact⟨C,ae _ B,q⟩
  .rw[ap O,o5] at g;cases A:x==n with
   |true=>
    rw[A] at g;cases g;rw[ge A];calc⟨_,aa,.inl rfl⟩
   |false=>rw[A] at g;let(C,B,q):=u0 (scope:=scope) (env:=env) (names:=r) g;calc⟨C,ae _ B,q⟩
theorem u5 {env:Env}{x:Str}:∀{names:¬(Str×NameKind)},names.lookup x=some .free->
  (names.map λ(n,k)=>if(k==NameKind.free && env.scope.kind==.function && env.kindOf n==some .cell) then(n,NameKind.cell) else(n,k)).lookup x=some .cell\/
  (names.map λ(n,k)=>if(k==NameKind.free && env.scope.kind==.function && env.kindOf n==some .cell) then(n,NameKind.cell) else(n,k)).lookup x=some .free
 |[],h=>by simp at h
 |(n,j)::r,h=>by have A:=@u5 env x r;grind
def tQ (N:¬Str)(sc scope:Scope):¬Str->¬(↑Nat)->Bool
 |[],[]=>true
 |_::D,none::A=>tQ N sc scope D A
 |x::D,#[j]::A=>(match N[j]? with|some y=>y==x|none=>false) && (match sc.names.lookup x with|some .cell=>true|some .free=>true|_=>false) &&
  (match scope.names.lookup x with|some .free=>true|_=>false) && tQ N sc scope D A
 |_,_=>false
theorem zj:∀{xs:¬Str}{cs:¬(↑Nat)},tQ N sc scope xs cs=true->(!cs)=!xs
 |[],[],_=>rfl
 |_::xs,none::cs,h=>b9 (· +1)<|zj (xs:=xs) (cs:=cs) h
 |x::xs,#[j]::cs,h=>by erw[tQ,bc] at h;calc b9 (· +1)<|zj (xs:=xs) (cs:=cs) h.2
 |[],_::_,h=>by simp[tQ] at h
 |_::_,[],h=>by simp[tQ] at h
theorem K8:∀{xs:¬Str}{cs:¬(↑Nat)},tQ N sc scope xs cs=true->∀(i:Nat) (x:Str) (j:Nat),xs[i]? =#[x]->cs[i]? =#[#[j]]->
  N[j]? =#[x]/\(sc.names.lookup x=some .cell\/sc.names.lookup x=some .free)/\scope.names.lookup x=some .free
 |[],[],_,i,x,j,h,_=>by simp at h
 |_::xs,none::cs,h,0,x,j,_,h2=>by simp at h2
 |_::xs,none::cs,h,i+1,x,j,h1,h2=>K8 (xs:=xs) (cs:=cs) h i x j ‹h1› ‹h2›
 |y::xs,#[k]::cs,h,0,x,j,h1,h2=>by
  erw[tQ,bc] at h;let(((a,b),c),_):=h;have B:y=x:=‹h1›
  have G:k=j:=‹h2›
  subst B G;refine(?_,?_,?_)
  .cases q:N[k]? with
   |none=>rw[q] at a;simp at a
   |some z=>rw[q] at a;rw[ge a]
  .cases q:sc.names.lookup y with
   |none=>rw[q] at b;simp at b
   |some z=>rw[q] at b;cases z<;>first|calc .inl rfl|calc .inr rfl|simp at b
  .cases q:scope.names.lookup y with
   |none=>rw[q] at c;simp at c
   |some z=>rw[q] at c;cases z<;>first|rfl|simp at c
 |y::xs,#[k]::cs,h,i+1,x,j,h1,h2=>by erw[tQ,bc] at h;calc K8 (xs:=xs) (cs:=cs) h.2 i x j ‹h1› ‹h2›
 |[],_::_,h,_,_,_,_,_=>by simp[tQ] at h
 |_::_,[],h,_,_,_,_,_=>by simp[tQ] at h
def sS (N:¬Str)(sc scope:Scope)(N':¬Str)(cap:¬(↑Nat)):Bool:=
 tQ N sc scope N' cap && (scope.kind==.function) && (scope.names.all λy=>y.2 !=.cell) &&
 (scope.names.all λy=>y.2 !=.local||scope.names.lookup y.1==some .local) &&
 (scope.names.all λy=>y.2 !=.free||sc.names.lookup y.1==some .cell||sc.names.lookup y.1==some .free)
def cU (cap:¬(↑Nat))(B:St):St:=cap.map λo=>match o with
 |none=>none
 |some j=>match B[j]? with
  |some v=>v
  |none=>none
def fM (X:Cx)(scope:Scope)(N':¬Str)(A:¬(Str×Addr))(C:Addr)(s:Shared)(H:Hp)(B:¬Addr):Cx:=
 {X with N:=N',s₀:=s,cQ:=H,env:=compEnvC scope A C X.env,outer:=X.stack,ex:=B,fn:=λ_=>false,pn:=[]}
section
variable {s:Shared}
def aij {scope:Scope}(hB:sS X.N X.env.scope scope N' cap=true)(I:Inv X G σ H s)
  (c1:∀x c,O.lookup x=#[c]->X.env.cells.lookup x=#[c])(c2:∀x,(x,NameKind.free)∈scope.names->∃c,O.lookup x=#[c])(L:∀b∈Y,qF X G H b)(hex:∀b∈Y,b< ~~~s)
  (hn:Y4.Ns (~~~s) m)(M:∀b o,s.heap b=#[o]->Y4 b=#[o]):
  Inv (fM X scope N' O (~~~s) s H Y) [] (cU cap σ) H {s with heap:=Y4,toks:=t'}:=by
 erw[sS,bc] at hB;let((((b1,b2),b3),b4),b5):=hB;have D:=ge b2;have B:∀y∈scope.names,y.2≠ .cell:=λy hy=>by have:=cp.mp b3 y hy;simpa using this
 have ok:(fM X scope N' O (~~~s) s H Y).Ok:=by
  refine⟨I.ok.mod,D,I.ok.glob,I.ok.blt,av _,λx y c Q T=>I.ok.inj x y c (c1 x c Q) (c1 y c T),λx hx=>?_,λx c e _=>(by k_go),I.ok.hd,I.ok.frames,.inl rfl,λb C=>⟨cw (hex b C),λx c e=>(L b C).2.2.2.2.1 x c (c1 x c e)⟩,
   I.bs,ck I.ok.Nh I.sz,λb o e C=>?_,λb C g=>?_,I.stack,I.Wu⟩
  .have h:∃k,(relabel scope X.env).names.lookup x=#[k]/\(k=.cell\/k=.free):=by
    rcases hx with z|z
    .exact⟨.cell,z,.inl rfl⟩
    .exact⟨.free,z,.inr rfl⟩
   let(k,e,f):=h;let(k',w,q):=u0 (scope:=scope) e;have ek:k'=.free:=by
    rcases q with q|q
    .rw[<-q];rcases f with z|z
     .exact absurd (q.symm.trans z)<|B _ w
     .exact z
    .exact q.1
   rw[ek] at w;exact c2 x w
  .rcases(L b C).2.2.2.1 with z|z
   .exact I.ok.acS b o e z
   .exact absurd (bz (bz (bX e) I.ok.Nh) z)<|gh _
  .rcases aI.mp (I.Ij b g) with z|z
   .exact(L b C).2.1 z
   .exact(L b C).2.2.1 z
 refine⟨ok,rfl,I.bare,Un.kept M,⟨m,hn,λi x v Q T e3=>?_⟩,λx c e=>?_,I.hok.fresh<|av _,λx c e=>I.pI x c<|c1 x c e,λp hp=>absurd (show p∈([]:¬(Addr×Obj)) from hp) 's',I.hok.kept M,?_⟩
 .have A:=T;unfold cU at A;rw[ai] at A;cases U:cap[i]? with
  |none=>rw[U] at A;simp at A
  |some o=>
   rw[U] at A;cases o with
   |none=>simp at A
   |some j=>
    erw[map_some,dQ] at A;have ej:σ[j]? =#[#[v]]:=by
     cases q:σ[j]? with
     |none=>rw[q] at A;simp at A
     |some z=>rw[q] at A;simp only at A;rw[A]
    let(q1,J,q3):=K8 b1 i x j Q U;let(m0,hn0,n):=I.loc;let(u,r,l):=n j x v q1 ej (by rcases J with z|z;calc .inr<|.inl z;calc .inr<|.inr z);refine⟨u,r,?_⟩;rcases l with⟨kl,_⟩|⟨_,c,hc,z⟩
    .have E:X.env.scope.names.lookup x=some .local:=kl;rcases J with J|J<;>(rw[J] at E;cases E)
    .let(o,a,d):=z;let(N,t):=c2 x (ef q3)
     have:N=c:=by have:=c1 x N t;rw[hc] at this;exact(bm this).symm
     subst this;exact .inr ⟨u5 q3,N,t,o,M _ _ a,d⟩
 .let(v,o,a,d):=I.cell x c<|c1 x c e;exact⟨v,o,M _ _ a,d⟩
 .unfold cU;rw[ac];calc zj b1
end
def afq:TT:=λ_ H Q=>Q true H
def nW (X:Cx)(B:¬Expr)(t:TT):Prop:=
 ∀(A:¬(Addr×Obj)) (s:Shared) (C:St) (H:Hp) (Q:Bool->Hp->Prop),Inv X A C H s->t C H Q->
  (X.prog\X.w) X.A (forIn B true λc r=>if r=true then do let N<-isTrue c X.env (eval c X.env);pure (ForInStep.yield N) else pure<|ForInStep.yield r) (TP X A C Q) NE s
def xX:nW X [] afq:=λ_ _ _ H _ I h=>wpAny_tests_nil (H,I,h)
def WT (h:PT X c t):nW X [c] t:=λA s B H Q I q=>wpAny_tests_one<|h A s B H Q I q
section
variable {s:Shared}
def VL (I:Nat->Shared->Prop)
  (Y:∀n s,I n s->(prog\w) A (pyNext l) (λr C=>match r with
   |none=>R (.ok .next) C
   |some v=>(prog\w) A (letOwnedTupleGo B l v) (λ_ D=>(prog\w) A (assign B env v) (λ_ J=>
    (prog\w) A (forIn k true λc r=>if r=true then do let U<-isTrue c env (eval c env);pure (ForInStep.yield U) else pure (ForInStep.yield r)) (λU G=>
     if U=true then (prog\w) A (eval j env) (λx L=>
      (prog\w) A (call (.builtin "list.append") [acc,x]) (λ_ M=>∃m,m<n/\I m M) (λ_ _=>False) L) (λ_ _=>False) G
     else ∃m,m<n/\I m G) (λ_ _=>False) J) (λ_ _=>False) D) (λ_ _=>False) C) (λ_ _=>False) s)
  (n:Nat)(h:I n s):
  codeAny (model prog w) A (.compLoop (.ListComp j [⟨B,iter,k,0⟩] scope o) 0 l acc env) R s:=by
 refine codeAny_loop rfl I (λn s hI=>?_) n h;refine wpAny_noted ?_;rw[compTurn_list];refine ab<|nV<|ab<|eB (Y n s hI) (λr C E=>?_) λ_ _ g=>g.elim;cases r with
 |none=>calc ax E
 |some v=>
  refine ab<|eB E (λ_ D N=>ab<|eB N (λ_ J O=>ab<|eB O (λU G H=>?_) λ_ _ g=>g.elim) λ_ _ g=>g.elim) λ_ _ g=>g.elim;cases U with
  |false=>calc ax ⟨rfl,H⟩
  |true=>calc ab<|ab<|eB H (λx L Q=>ab<|eB Q (λ_ M T=>ax<|ax ⟨rfl,T⟩) λ_ _ g=>g.elim) λ_ _ g=>g.elim
end
def gA (a b:St):Prop:=∀(j:Nat) v,a[j]? =#[#[v]]->b[j]? =#[#[v]]
def gA.refl:gA a a:=λ_ _ h=>h
theorem gA.set (h:gA a b)(hi:a[i]? =#[none]):gA a (b.set i v):=λj u e=>by
 by_cases Y:j=i
 .omega
 .rw[bo<|b8 Y];calc h j u e
def G7 (J:It)(cap:¬(↑Nat))(g:TG)(tc:TT)(te:TE)(I:St)(B:Hp)(Q:VK):Prop:=
 ∀D,B D=none->∃W:Nat->Nat->Hp->Prop,(∃m,W 0 m (upd B D<|.lst []))/\∀i m H,W i m H->
  (J.stop i H/\Q (.ref D) H)\/(J.go i H/\∀x E,J.yld i H x E->g x (cU cap I) E λG L=>gA (cU cap I) G/\tc G L λb C=>
   if b=true then te G C λy M=>∃A,M D=#[.lst A]/\(!A)<sizeLine/\∃U,U<m/\W (i+1) U (upd M D<|.lst<|A++[y])
   else ∃U,U<m/\W (i+1) U C)
def xY (D:TI)(cap:¬(↑Nat))(g:TG)(tc:TT)(te:TE):TE:=λB H Q=>D B H λJ E=>G7 J cap g tc te B E Q
section
variable {X:Cx}
def RK {RR:Value->Addr->Result->Shared->Prop}(hB:sS X.N X.env.scope scope N' cap=true)
  (hg:∀Y C O M ex,PG (fM X scope N' Y C O M ex) tg g)(hi:∀Y C O M ex,nW (fM X scope N' Y C O M ex) ifs tc)(he:∀Y C O M ex,PE (fM X scope N' Y C O M ex) elt te)
  (c1:∀x c,Y.lookup x=#[c]->X.env.cells.lookup x=#[c])(c2:∀x,(x,NameKind.free)∈scope.names->∃c,Y.lookup x=#[c])
  (I:Inv X N σ H s)(T:Turn X.prog X.w X.K tg J fp it tn)(st:tn 0 s.heap)(hf:∀b∈fp,qF X N H b)(rd:G7 J cap g tc te σ H Q)
  (hRR:∀D C s' m G,Inv X N σ G s'->s'.heap.Ns C m->qF X N G C->Q (.ref D) G->RR (.ref D) C (.ok .next) s'):
  (X.prog\X.w) X.A (newList []) (λacc U=>(X.prog\X.w) X.A (newFunctionEnv scope X.env.globals Y [] X.env.qual none .none #[X.env]) (λaik anj=>
   codeAny (model X.prog X.w) X.A (.compStart (.ListComp elt [⟨tg,iter,ifs,0⟩] scope pos) 0 (.ref it) acc {aik with scope:=relabel scope X.env}) (RR acc aik.locals) anj) E U) E s:=by
 have hB':=hB;erw[sS,bc] at hB';let((((b1,b2),b3),b4),b5):=hB';have kind:=ge b2;have ail:∀y∈scope.names,y.2≠ .cell:=λy hy=>by grind
 have hfp:∀b∈fp,b< ~~~s:=λb B=>let⟨o,e,_⟩:=T.obj 0 _ st b B;bX e;refine ei (wpAny_newFunctionEnv ail (by intro y hy;simp at hy) (λL k l=>?_) kind);dsimp only at k l ⊢;have I3:Inv X N σ (upd H (~~~s)<|.lst []) {s with heap:=s.heap.push {cls:=.type "list",data:=.seq ([]:¬Value).toArray},toks:=s.toks}:=I.ac9 .nil<|cv _;generalize WW:({s with heap:=s.heap.push {cls:=.type "list",data:=.seq ([]).toArray},toks:=s.toks})=A at I3;have eh:A.heap=s.heap.push {cls:=.type "list",data:=.seq ([]).toArray}:=by rw[<-WW]
 have sz3: ~~~A=s.heap.objs.size+1:=by rw[eh,kQ]
 let(W,(m0,w0),ank):=rd (~~~s)<|I.hok.fresh<|av _;have hf3:∀b∈fp,qF X N (upd H (~~~s)<|.lst []) b:=λb B=>⟨by rw[au<|cw<|hfp b B];calc(hf b B).1,(hf b B).2⟩;have ain:∀b∈fp,b< ~~~A:=λb B=>by rw[sz3];exact Nat.lt_succ_of_lt<|hfp b B
 have a:L.Ns (~~~A) (λx=>([]).reverse.lookup x):=by rw[eh];exact k
 have old:∀b o,A.heap b=#[o]->L b=#[o]:=λb o e=>by refine l.extBut b o ?_ (ay _ (by rw[<-eh];calc e));rw[<-eh];exact cw<|bX e
 have I4:=aij (t':=s.toks) hB I3 c1 c2 hf3 ain a old;have anl:∀b o,s.heap b=#[o]->L b=#[o]:=λb o e=>old b o (by rw[eh];calc ay _ e);have WX:=T.keep _ _ _ st λb _ o e=>anl b o e;have eC:(s.heap.push {cls:=.type "list",data:=.seq ([]).toArray}).objs.size= ~~~A:=by rw[eh]
 have adf:∀{G:Hp},(∀b∈fp,G b=none)->∀b∈fp,qF (fM X scope N' Y (~~~A) A (upd H (~~~s)<|.lst []) fp) [] G b:=λhn b B=>
  ⟨hn b B,cw (ain b B),λz=>by
   rcases aI.mp (I3.Ij b z) with q|q
   .exact(hf b B).2.1 q
   .calc(hf b B).2.2.1 q,.inl B,λx c e=>(hf b B).2.2.2.2.1 x c (c1 x c e),λp hp=>absurd (show p∈([]:¬(Addr×Obj)) from hp) 's'⟩
 have loop:∀U:Shared,U={s with heap:=L,toks:=s.toks+!([]:¬(Str×Value))}->
   codeAny (model X.prog X.w) X.A (.compLoop (.ListComp elt [⟨tg,iter,ifs,0⟩] scope pos) 0 (.ref it) (.ref (~~~s))<|compEnvC scope Y (~~~A) X.env) (RR (.ref (~~~s)) (~~~A)) U:=by
  rintro U rfl;refine VL (λn s'=>∃i f G,Inv (fM X scope N' Y (~~~A) A (upd H (~~~s)<|.lst []) fp) [] f G s'/\(∀(j:Nat) v,(cU cap σ)[j]? =#[#[v]]->f[j]? =#[#[v]])/\tn i s'.heap/\(∀b∈fp,G b=none)/\W i n G) ?_ m0 ?_
  .rintro n s' ⟨i,f,G,I',wk,st',fr',w'⟩;have I'':=I'.weak (by rw[I'.len];show (!(cU cap σ))=!N';delta cU;rw[ac];calc zj b1) wk;rcases ank i n G w' with⟨stop,q⟩|⟨go,step⟩
   .refine aV (T.done (fM X scope N' Y (~~~A) A (upd H (~~~s)<|.lst []) fp) rfl rfl rfl i [] s' (cU cap σ) G I'' (adf fr') st' stop) ?_;rintro r s4 ⟨hr,t⟩;subst hr;have u:=(Un.laid (λb o e=>by show A.heap b=#[o];rw[eh];calc ay _ e) (av _) (I.hok.fresh<|av _)).trans t.base;have IX:=I.call' (t.os.trans (by show A.os=s.os;rw[<-WW])) u t.hok t.bare λb B=>⟨(hf b B).2.2.2.1,(hf b B).2.1,(hf b B).2.2.2.2.1,(hf b B).2.2.2.2.2⟩;let(m',hm',_):=t.loc;exact hRR _ _ s4 m' G IX hm' (I.Bv (by rw[sz3];calc kA _) t.free) q
   .refine aV (T.item (fM X scope N' Y (~~~A) A (upd H (~~~s)<|.lst []) fp) rfl rfl rfl i [] s' (cU cap σ) G I'' (adf fr') st' go) ?_;rintro r s4 ⟨v,hr,h4⟩;subst hr;refine aV h4 ?_;rintro _ s5 ⟨x,H5,I5,r5,y5,st5,fr5⟩;have I5':=I5.pinned (adf fr5)<|T.obj _ _ st5;refine aV (hg _ _ _ _ _ _ s5 (cU cap σ) H5 x v _ I5' r5<|step x H5 y5) ?_;rintro _ s6 ⟨Rr,H6,I6,kc6,q6⟩;refine aV (hi _ _ _ _ _ _ s6 Rr H6 _ I6 q6) ?_;rintro ok s7 ⟨H7,I7,q7⟩;have akP:∀{s8:Shared}{σ8:St} {w:Hp},Inv (fM X scope N' Y (~~~A) A (upd H (~~~s)<|.lst []) fp) ([]++xT fp s5.heap) σ8 w s8->tn (i+1) s8.heap/\∀b∈fp,w b=none:=λ{s8 σ8 w} I8=>
     ⟨T.keep _ _ _ st5 λb B o e=>(I8.pin (b,o) (ce _ (ce _ (uo B e)))).1,λb B=>by
      let(o,e,d):=T.obj _ _ st5 b B;calc(I8.pin (b,o) (ce _ (ce _ (uo B e)))).2.1⟩
    have again:∀{s8:Shared}{w:Hp} {m':Nat},Inv (fM X scope N' Y (~~~A) A (upd H (~~~s)<|.lst []) fp) ([]++xT fp s5.heap) Rr w s8->m'<n->W (i+1) m' w->
      ∃m,m<n/\∃i f G,Inv (fM X scope N' Y (~~~A) A (upd H (~~~s)<|.lst []) fp) [] f G s8/\(∀j v,(cU cap σ)[j]? =#[#[v]]->f[j]? =#[#[v]])/\tn i s8.heap/\(∀b∈fp,G b=none)/\W i m G:=λ{s8 w m'} I8 lt w8=>by
     let(k1,k2):=akP I8;exact⟨m',lt,i+1,Rr,w,I8.GZ,kc6,k1,k2,w8⟩
    cases ok with
    |false=>rw[ap bn] at q7 ⊢;let(m',lt,w8):=q7;calc again I7 lt w8
    |true=>rw[ah rfl] at q7 ⊢;refine aV (he _ _ _ _ _ _ s7 Rr H7 _ I7 q7) ?_;rintro y s8 ⟨vy,w,I8,ry,xs,hD,hz,m',lt,w8⟩;refine aV (@Nx (fM ..) _ s8 Rr w (.ref (~~~s)) [vy] _ _ (λ_ G=>G=upd w (~~~s) (.lst<|xs++[vy])) I8 rfl (.cons ry .nil) ⟨_,xs,vy,rfl,rfl,hD,hz,rfl⟩) ?_;rintro _ s9 ⟨_,H9,I9,_,e9⟩;subst e9;exact again I9 lt w8
  .have eS:({A with heap:=L,toks:=s.toks})={s with heap:=L,toks:=s.toks+!([]:¬(Str×Value))}:=by rw[<-WW];rfl
   exact⟨0,cU cap σ,upd H (~~~s)<|.lst [],eS▸I4,λ_ _ h=>h,WX,λb B=>(hf3 b B).1,w0⟩
 rw[eC];calc codeAny_compStart_list (loop _ rfl)<|T.self _ 0 _ _ _ WX<|loop _ rfl
def Nz (D:sS X.N X.env.scope scope N' cap=true):∀x∈scope.names,x.2=.local->scope.names.lookup x.1=some .local:=λy n e=>by erw[sS,bc] at D;have:=cp.mp D.1.2 y n;rw[e] at this;simpa using this
def RL (D:sS X.N X.env.scope scope N' cap=true)(N:X.Ok):∃A:¬(Str×Addr),closureFor scope X.env=pure A/\(∀x c,A.lookup x=#[c]->X.env.cells.lookup x=#[c])/\∀x,(x,NameKind.free)∈scope.names->∃c,A.lookup x=#[c]:=by
 refine Px λy n e=>N.has y.1 ?_;erw[sS,bc] at D;have:=cp.mp D.2 y n;rw[e] at this;erw[bne_self_eq_false,Bool.false_or,gL] at this;rcases this with z|z
 .exact .inl<|ge z
 .calc .inr<|ge z
def Jb (N:¬Str)(sc:Scope)(k:sS N sc scope N' cap=true)(l:X.N=N)(t:X.env.scope=sc)(p:PI X z iter wi)
  (hg:∀A C B M E,PG (fM X scope N' A C B M E) z g)(hi:∀A C B M E,nW (fM X scope N' A C B M E) u tc)(he:∀A C B M E,PE (fM X scope N' A C B M E) j te)
  (hs:(∀x,foldedSetIterable iter X.env x=pure x)∣4):PE X (.ListComp j [(z,iter,u,0)] scope pos) (xY wi cap g tc te):=by
 intro U s σ H Q I h;have L:sS X.N X.env.scope scope N' cap=true:=by rw[l,t];exact k
 have O:scope.kind=.function:=by erw[sS,bc] at L;exact ge L.1.1.1.2
 let(A,Y,n,w):=RL L I.ok;rw[eval_ListComp];refine n9 rfl hs Y O (Nz L)<|aV (p U s σ H _ I h) λv s1 h1=>aV h1 λitv s2 h2=>?_;let(it,fp,tn,J,H2,e,f,T,y,a,rd):=h2;subst e;refine RK L hg hi he n w f T y a rd λD C s' m c d hm G q=>?_;calc(m,hm,λh' r=>(.ref D,c,d.turned (λb o i e=>(r.2 b i).trans e) G.1 G.2.1 G.2.2.2.1 G.2.2.2.2.1 G.2.2.2.2.2,rfl,q))
def qH (hN:X.N.Nodup)(f:X.N[i]? =#[y])(hy:Loc X.env.scope y)(N:¬Str)(sc:Scope)(r:sS N sc scope N' cap=true)(t:X.N=N)(hsc:X.env.scope=sc)(d:PI X tg iter wi)
  (hg:∀A C B M E,PG (fM X scope N' A C B M E) tg g)(hi:∀A C B M E,nW (fM X scope N' A C B M E) L tc)(he:∀A C B M E,PE (fM X scope N' A C B M E) j te)
  (hsw:(swapsWith (.ListComp j [(tg,iter,L,0)] scope pos) (#[.Name y Y]) U.line X.env=pure true)∣0)
  (hs:(∀x,foldedSetIterable iter X.env x=pure x)∣4)(hf:(X.fn y=true\/X.env.scope.names.lookup y=some .local)∣3):
  PS X (.Assign [.Name y Y] (.ListComp j [(tg,iter,L,0)] scope pos) U) (gZ (xY wi cap g tc te)<|cC i):=by
 intro Q s σ H D I h;have k:sS X.N X.env.scope scope N' cap=true:=by rw[t,hsc];exact r
 have O:scope.kind=.function:=by erw[sS,bc] at k;lk
 let(A,p,c1,c2):=RL k I.ok;rw[exec_Assign_Name_used _ _ _ _ hsw];refine ab (nV (ab ?_));refine ab (eB (n9 rfl hs p O (Nz k)
  (aV (d Q s σ H _ I h) λv s1 h1=>aV h1 λitv s2 h2=>?_)) (λ_ s' hq=>ax (ax hq)) λ_ _ e=>e)
 let(it,fp,tn,J,H2,e,I2,T,st2,f2,rd):=h2;subst e;refine RK k hg hi he c1 c2 I2 T st2 f2 rd λDa C s' m H' I' hm G q=>?_;refine wpAny_assign_Name<|Ni (v:=.ref Da) I' hN f hy rfl ?_ hf;rintro s'' l ⟨a,w,c⟩;have u:C≠a:=by
  rcases c with z|z
  .rw[z];exact G.2.1
  .exact(G.2.2.2.2.1 y a z).symm
 refine(m,hm.sameBut w u,λh' n=>(σ.set i<|#[.ref Da],H',l.turned (λb o hb e=>(n.2 b hb).trans e) G.1 G.2.1 G.2.2.2.1 G.2.2.2.2.1 G.2.2.2.2.2,q))
end
def Qj (_ j:Int):Prop:=0<j/\j.natAbs.log2<9000
def Qk (i j:Int):Prop:=i.natAbs<2^8000/\j.natAbs<2^8000
def bits_le (h:i.natAbs<2^8000):Builtin.Int.intBits i<=2^20:=by
 delta Builtin.Int.intBits;split
 .simp
 .rename_i L;have C:i.natAbs≠0:=by lk
  have:=(np C).mpr h;lk
section
def adg:cF X (binaryOp .FloorDiv) (rI Qj λi j=>.int<|i/j):=opI λi j _ _ _ _ _ O q=>by
 have e:i.fdiv j=i/j:=by rw[Int.fdiv_eq_ediv_of_nonneg _<|hZ O.1]
 calc floordiv_int (Int.ne_of_gt O.1) (by rw[e];calc q) (.inl<|PyProof.noPylong_of_log2 O.2)
def agH:cF X (binaryOp .Mult) (rI Qk λi j=>.int<|i*j):=opI λ_ _ _ _ _ _ _ O q=>mul_int q<|IntMulOk.of_bits (bits_le O.1)<|bits_le O.2
end
theorem Bx:∀{ns:¬Int}{vs:¬Value},Vals (ns.map V.int) vs->IntsAre vs ns
 |[],_,.nil=>.nil
 |n::ns,_,.cons r t=>by let(k,rfl):=r;calc .cons n k<|Bx t
section
def aa2:dO X (.builtin "sum") (λxs H Q=>∃(p:Addr) (ns:¬Int),xs=[.ref p]/\aQ X.K H p (ns.map V.int)/\Q (.int ns.sum) H):=by
 intro C s k H xs j Q I r q;let(p,ns,rfl,T,q):=q;let(u,rfl,J):=r.one;cases J;let(D,L,E,O):=I.list T;have A:=Bx L;let(zs,e):=A.allInts.items;have N:ns=zs.toList.map (·.1):=by rw[<-A.numsOf,←nums_intItems,←e]
 have B:=E.isList;rw[e] at B;refine sum_intListG I.ok.hd B λg Y U M=>?_;have G:preSum (numAt zs) zs.size=ns.sum:=by rw[preSum_eq,bu<|by simp,←N]
 rw[G];calc⟨.int ns.sum,H,I.kept M,⟨_,rfl⟩,q⟩
def aa3:dO X (.builtin "min") (λxs H Q=>∃(p:Addr) (ns:¬Int),xs=[.ref p]/\aQ X.K H p (ns.map V.int)/\0<!ns/\∀M,M∈ns->(∀a,a∈ns->M<=a)->Q (.int M) H):=by
 intro C s z H xs y Q I r q;let(p,ns,rfl,T,E,q):=q;let(u,rfl,U):=r.one;cases U;let(L,k,O,l):=I.list T;have A:=Bx k;let(zs,e):=A.allInts.items;have N:ns=zs.toList.map (·.1):=by rw[<-A.numsOf,←nums_intItems,←e]
 have B:=O.isList;rw[e] at B;have m:0<zs.size:=by grind
 refine min_intList I.ok.hd B m λv g o J D=>?_;let(t,rfl):=intItems_at J;let(h1,h2):=argBest_lt (numAt zs)<|zs.size - 1;refine⟨.int _,H,I.kept D,⟨t,rfl⟩,q _ ?_ λa G=>?_⟩
 .rw[N,numAt_eq];exact getD_mem (by rw[ac,bt];lk)
 .rw[N] at G;let(j,Y,rfl):=mem_getD G;rw[ac,bt] at Y;rw[<-numAt_eq];calc h2 j ∅
end
section
variable {j:Nat}
end
mutual
def Has (K:Frag)(H:Hp):()->V->Prop
 |.none,v=>v=.non
 |.bool b,v=>v=.bl b
 |.int i,v=>v=.int i
 |.str x,v=>v=.str x/\(PyData.str x).canLay0=true
 |.list A,v=>∃a D,v=.ref a/\aQ K H a D/\aJ K H A D
 |.tuple A,v=>∃a D,v=.ref a/\bK K H a D/\aJ K H A D
 |.dict _,_=>False
def aJ (K:Frag)(H:Hp):¬()->¬V->Prop
 |[],J=>J=[]
 |d::A,J=>∃v r,J=v::r/\Has K H d v/\aJ K H A r
end
def Same.oW {K:Frag}(e:Same H E)(h:bK K H a xs):bK K E a xs:=by
 rcases h with(h|⟨o,h⟩)|h
 .exact .inl<|.inl<|e _ _ h
 .exact .inl<|.inr ⟨o,e _ _ h⟩
 .calc .inr h
mutual
theorem Has.same {K:Frag}(e:Same H E):∀{d:()}{v:V},Has K H d v->Has K E d v
 |.none,_,h=>h
 |.bool _,_,h=>h
 |.int _,_,h=>h
 |.str _,_,h=>h
 |.list _,_,⟨a,D,h1,h2,J⟩=>(a,D,h1,e.seq h2,aJ.same e J)
 |.tuple _,_,⟨a,D,h1,h2,J⟩=>(a,D,h1,e.oW h2,aJ.same e J)
theorem aJ.same {K:Frag}(e:Same H E):∀{ds:¬()}{vs:¬V},aJ K H ds vs->aJ K E ds vs
 |[],_,h=>h
 |_::_,_,⟨v,r,h1,h2,J⟩=>(v,r,h1,Has.same e h2,aJ.same e J)
end
section
variable {K:Frag}
def aJ.p:aJ K H ds vs↔Paired (Has K H) ds vs:=by
 induction ds generalizing vs with
 |nil=>calc⟨λh=>by cases(show vs=[] from h);calc .nil,λh=>by cases h;rfl⟩
 |cons d ds A=>
  constructor
  .rintro⟨v,r,rfl,h2,J⟩;exact .cons h2<|A.1 J
  .intro h;cases h with
   |cons x t=>calc(_,_,rfl,x,A.2 t)
theorem aJ.length (h:aJ K H ds vs):(!ds)=!vs:=!(aJ.p.1 h)
def aJ.get {i:Nat}(h:aJ K H ds vs)(e:vs[i]? =#[v]):∃d,ds[i]? =#[d]/\Has K H d v:=(aJ.p.1 h).at e
def aJ.at {i:Nat}(h:aJ K H ds vs)(e:ds[i]? =#[d]):∃v,vs[i]? =#[v]/\Has K H d v:=(aJ.p.1 h).get e
theorem aJ.snoc (M:Has K H d v)(h:aJ K H ds vs):aJ K H (ds++[d]) (vs++[v]):=aJ.p.2<|(aJ.p.1 h).snoc M
theorem aJ.append (h2:aJ K H D us)(h:aJ K H ds vs):aJ K H (ds++D) (vs++us):=aJ.p.2<|(aJ.p.1 h).append<|aJ.p.1 h2
theorem aJ.set (M:Has K H d v)(i:Nat)(h:aJ K H ds vs):aJ K H (ds.set i d) (vs.set i v):=aJ.p.2<|(aJ.p.1 h).set M i
def aJ.flat {A:¬C}{g:C->()}{B:C->V}(N:∀a v,Has K H (g a) v->v=B a)(h:aJ K H (A.map g) vs):vs=A.map B:=by
 induction A generalizing vs with
 |nil=>calc h
 |cons a A D=>let(v,r,rfl,h2,J):=h;rw[N _ _ h2,D J];rfl
theorem aJ.map {A:¬C}{g:C->()}{B:C->V}:(∀a∈A,Has K H (g a) (B a))->aJ K H (A.map g) (A.map B):=by
 induction A with
 |nil=>calc λ_=>rfl
 |cons a A E=>calc λh=>(_,_,rfl,h a aa,E λb D=>h b<|ae _ D)
def aJ.ints {ns:¬Int}:aJ K H (ns.map PyData.int) vs↔vs=ns.map V.int:=⟨aJ.flat λ_ _ h=>h,λh=>h▸aJ.map λ_ _=>rfl⟩
end
section
variable {s:Shared}
mutual
theorem Has.reads (I:Inv X D M H s):∀{d:()}{v:V} {u:Value},Has X.K H d v->RelV v u->∃A,Reads s.heap u d A
 |.none,v,u,h,r=>by
  have g:v=.non:=h;subst g;cases r;calc⟨_,.none⟩
 |.bool b,v,u,h,r=>by
  have g:v=.bl b:=h;subst g;cases r;calc⟨_,.bool b⟩
 |.int i,v,u,h,r=>by have g:v=.int i:=h;subst g;let(t,rfl):=r;calc⟨_,.int i t⟩
 |.str x,v,u,h,r=>by have g:v=.str x:=h.1;subst g;let(t,rfl):=r;calc⟨_,.str x t⟩
 |.list E,v,u,h,r=>by
  let(a,L,rfl,T,N):=h;cases r;let(B,G,(o,n,e,c,_,d),J):=I.list T;let(A,C):=aJ.reads I N G;calc⟨_,.list e c d<|‹C›⟩
 |.tuple E,v,u,h,r=>by
  let(a,L,rfl,T,N):=h;cases r;let(B,G,(o,e,c,n,d),J):=I.tuple T;let(A,C):=aJ.reads I N G;calc⟨_,.tuple e c d<|‹C›⟩
 |.dict _,_,_,h,_=>False.elim h
theorem aJ.reads (I:Inv X B G H s):∀{ds:¬()}{vs:¬V} {us:¬Value},aJ X.K H ds vs->Vals vs us->∃A,ReadsAll s.heap us ds A
 |[],vs,us,h,r=>by
  have g:vs=[]:=h;subst g;cases r;calc⟨_,.nil⟩
 |d::ds,vs,us,h,r=>by
  let(v,O,rfl,h1,h2):=h;cases r with
  |cons L m=>let(A,C):=Has.reads I h1 L;let(E,D):=aJ.reads I h2 m;calc⟨_,.cons C D⟩
end
end
mutual
theorem Has.can {K:Frag}:∀{d:()}{v:V},Has K H d v->d.canLay0=true
 |.none,_,_=>rfl
 |.bool _,_,_=>rfl
 |.int _,_,_=>rfl
 |.str _,_,h=>h.2
 |.list A,_,⟨_,_,_,_,h⟩=>by erw[canLay0];calc aJ.can h
 |.tuple A,_,⟨_,_,_,_,h⟩=>by erw[canLay0];calc aJ.can h
theorem aJ.can {K:Frag}:∀{ds:¬()}{vs:¬V},aJ K H ds vs->canLayAll0 ds=true
 |[],_,_=>rfl
 |d::ds,_,⟨_,_,_,h1,h2⟩=>by erw[canLayAll0,bc];calc⟨Has.can h1,aJ.can h2⟩
end
inductive BJ (K:Frag)(x:V)(y:V)(H:Hp)(Q:VK):Prop
 |mk:∀d e,Has K H d x->Has K H e y->d.depth<=60->Q (.bl<|eqv d e) H->BJ K x y H Q
inductive K9 (K:Frag)(x:V)(y:V)(H:Hp)(Q:VK):Prop
 |mk:∀d e,Has K H d x->Has K H e y->d.depth<=60->Q (.bl<|not (PyData.eqv d e)) H->K9 K x y H Q
section
def iZ (f:X.A.units+64<cLine):cF X (compareOp .Eq) (BJ X.K):=by intro B s O H x y v u Q I L M h;let(d,e,G,A,N,q):=h;let(E,C):=G.reads I L;let(J,D):=A.reads I M;calc SeqAt.compareEq_reads C D G.can A.can (by have:=pi d.depth e.depth;lk) (.bl _,H,I,rfl,q)
def lN (f:X.A.units+64<cLine):cF X (compareOp .NotEq) (K9 X.K):=by intro B s O H x y v u Q I L M h;let(d,e,G,A,N,q):=h;let(E,C):=G.reads I L;let(J,D):=A.reads I M;calc SeqAt.compareNe_reads C D G.can A.can (by have:=pi d.depth e.depth;lk) (.bl _,H,I,rfl,q)
end
end L2
namespace L2
open PyProof.Rows
def vR (i:Nat):TE:=λB H Q=>match B[i]? with
 |some #[v]=>Q v H
 |_=>False
def nY (sc:Scope)(x:Str):Bool:=match sc.names.lookup x with
 |some .local=>true
 |some .cell=>true
 |some .free=>true
 |_=>false
def adh (sc:Scope)(x:Str):Bool:=match sc.names.lookup x with
 |some .local=>true
 |some .cell=>true
 |_=>false
def glB (sc:Scope)(x:Str):Bool:=match sc.names.lookup x with
 |some .globalImplicit=>true
 |_=>false
def G8 (sc:Scope)(x:Str):Bool:=match sc.names.lookup x with
 |some .local=>true
 |some .free=>true
 |_=>false
def plain (x:Str):Bool:=not (x==("__debug__":Str)) && not (x==("__classdict__":Str))
def ais (h:nY sc x=true):Vis sc x:=by
 delta nY at h;split at h
 .rename_i e;exact .inl e
 .rename_i e;exact .inr<|.inl e
 .rename_i e;exact .inr<|.inr e
 .cases h
def lo (h:adh sc x=true):Loc sc x:=by
 delta adh at h;split at h
 .rename_i e;exact .inl e
 .rename_i e;exact .inr e
 .cases h
def agI (h:G8 sc x=true):Vis (relabel sc env) x:=by
 delta G8 at h;split at h
 .rename_i e;exact .inl<|lookup_relabel_local e
 .rename_i e;exact .inr<|u5 e
 .cases h
def adi (sc:Scope)(x:Str):Bool:=match sc.names.lookup x with
 |some .local=>true
 |_=>false
def loC (h:adi sc x=true):(relabel sc env).names.lookup x=some .local:=by
 delta adi at h;split at h
 .rename_i e;exact lookup_relabel_local e
 .cases h
theorem BK {env:Env}{x:Str}:∀{names:¬(Str×NameKind)},names.lookup x=some .globalImplicit->
  (names.map λ(n,k)=>if(k==NameKind.free && env.scope.kind==.function && env.kindOf n==some .cell) then(n,NameKind.cell) else(n,k)).lookup x=some .globalImplicit
 |[],h=>by simp at h
 |(n,j)::r,h=>by have A:=@BK env x r;grind
section
def gl (h:glB sc x=true)(D:(X.env.scope=sc)∣0):Gl X x:=by
 delta glB at h;split at h
 .rename_i e;show X.env.scope.names.lookup x=_;rw[D];exact e
 .cases h
def afr (h:PE X e (ahS i)):PE X e (vR i):=h.imp λB H Q h=>by
 delta vR at h;split at h
 .rename_i v e;exact(v,e,h)
 .calc h.elim
def zm (h:plain x=true):(x==("__debug__":Str))=false/\(x==("__classdict__":Str))=false:=by delta plain at h;simpa using h
def pV (vt:N.all (λx=>nY sc x && plain x)=true)(i:Nat)(C:(X.N[i]? =#[x])∣0)(A:(X.N=N)∣0)(B:(X.env.scope=sc)∣0):PE X (.Name x D) (vR i):=by have h:=cp.mp vt x (by rw[<-A];calc ag C);rw[bc] at h;calc afr<|aaE C (by rw[B];calc ais h.1) (zm h.2).1 (zm h.2).2
end
section
variable {A:Pos}
def pq (vt:N'.all (λx=>G8 scope x && plain x)=true)(i:Nat)(B:(N'[i]? =#[x])∣0):PE (fM X scope N' E C D M G) (.Name x A) (vR i):=by have h:=cp.mp vt x<|ag B;rw[bc] at h;calc afr<|aaE B (agI h.1) (zm h.2).1 (zm h.2).2
def wA (D:N'.Nodup)(h:adi scope x=true)(hi:(N'[i]? =#[x])∣0):PG (fM X scope N' E C B M G) (.Name x A) (cC i):=
 xR D hi (.inl<|loC h) (.inr<|loC h)
def glC (h:glB scope x=true):Gl (fM X scope N' D C B M E) x:=by
 delta glB at h;split at h
 .rename_i e;show(relabel scope X.env).names.lookup x=_;exact BK e
 .cases h
end
section
def cF.imp (h:cF X f r)(hi:∀x y H Q,C x y H Q->r x y H Q):cF X f C:=λA s B H x y v u Q I L M q=>h A s B H x y v u Q I L M<|hi x y H Q q
def sO.imp (h:sO X r)(hi:∀x y H Q,C x y H Q->r x y H Q):sO X C:=λa b A s B H x y v u Q I L M q=>h a b A s B H x y v u Q I L M<|hi x y H Q q
def Io.imp (h:Io X f r)(hi:∀x H Q,C x H Q->r x H Q):Io X f C:=λA s B H x v Q I L q=>h A s B H x v Q I L<|hi x H Q q
def dO.imp (h:dO X f r)(hi:∀xs H Q,C xs H Q->r xs H Q):dO X f C:=λA s D H xs B Q I L q=>h A s D H xs B Q I L<|hi xs H Q q
def Bb.imp (h:Bb X G r)(hi:∀x y H Q,C x y H Q->r x y H Q):Bb X G C:=λA s B H x y v u Q I L M q=>h A s B H x y v u Q I L M<|hi x y H Q q
def yZ.imp (h:yZ X r)(hi:∀x y z H Q,C x y z H Q->r x y z H Q):yZ X C:=λA s D H x y z v u w Q I L M B q=>h A s D H x y z v u w Q I L M B<|hi x y z H Q q
end
def rM (g:Int->Int->V):R2:=λx y H Q=>match x,y with
 |.int i,.int j=>Q (g i j) H
 |_,_=>False
def BL (C:Int->Int->Prop)(g:Int->Int->V):R2:=λx y H Q=>match x,y with
 |.int i,.int j=>C i j/\Q (g i j) H
 |_,_=>False
def wC:V->Bool
 |.non=>true
 |_=>false
def RP (x:V):decide (x=.non)=wC x:=by cases x<;>simp[wC]
section
def WY (h:cF X f (Ip g)):cF X f (rM g):=h.imp λx y H Q q=>by cases x<;>first|calc False.elim q|(cases y<;>first|calc False.elim q|calc(_,_,rfl,rfl,q))
def Y5 (h:cF X f (rI C g)):cF X f (BL C g):=h.imp λx y H Q q=>by cases x<;>first|calc False.elim q|(cases y<;>first|calc False.elim q|calc(_,_,rfl,rfl,q.1,q.2))
def pN:cF X (binaryOp .Add) (rM λi j=>.int<|i+j):=WY ahZ
def BP:cF X (binaryOp .Sub) (rM λi j=>.int<|i - j):=WY ah0
def RQ:cF X (binaryOp .Mult) (BL Qk λi j=>.int<|i*j):=Y5 agH
def oDiv:cF X (binaryOp .FloorDiv) (BL Qj λi j=>.int<|i/j):=Y5 adg
def oMod:cF X (binaryOp .Mod) (BL (λ_ j=>0<j) λi j=>.int<|i % j):=Y5 ah1
def adk:cF X (binaryOp .Pow) (BL YF λi j=>.int<|i^j.toNat):=Y5 ah2
def anm:cF X (binaryOp .BitXor) (rM λi j=>.int<|Builtin.bitXor i j):=WY ah3
def oLt:cF X (compareOp .Lt) (rM λi j=>.bl<|decide<|i<j):=WY akK
def oLe:cF X (compareOp .LtE) (rM λi j=>.bl<|decide<|i<=j):=WY akL
def NK:cF X (compareOp .Gt) (rM λi j=>.bl<|decide<|j<i):=WY akM
def adl:R2:=λx y H Q=>match y with
 |.non=>Q (.bl<|wC x) H
 |_=>False
def Ql:R2:=λx y H Q=>match y with
 |.non=>Q (.bl<|not (wC x)) H
 |_=>False
def adn:cF X (compareOp .Is) adl:=ah4.imp λx y H Q q=>by cases y<;>first|calc False.elim q|(refine⟨rfl,?_⟩;rw[RP];calc q)
def Y6:cF X (compareOp .IsNot) Ql:=agz.imp λx y H Q q=>by cases y<;>first|calc False.elim q|(refine⟨rfl,?_⟩;rw[RP];calc q)
def rUM (g:Int->V):V->Hp->VK->Prop:=λx H Q=>match x with
 |.int i=>Q (g i) H
 |_=>False
def aiu:Io X (unaryOp .USub) (rUM λi=>.int<|-i):=aaM.imp λx H Q q=>by cases x<;>first|calc False.elim q|calc(_,rfl,q)
end
def jJ (t:TE):TT:=λB H Q=>t B H λx E=>match x with
 |.bl k=>Q k E
 |_=>False
def afs (A D:TE):TE:=λB H Q=>A B H λx E=>match x with
 |.bl c=>if c=true then D B E Q else Q (.bl false) E
 |_=>False
def aft (A:TE):TE:=λB H Q=>A B H λx E=>match x with
 |.bl c=>Q (.bl<|not c) E
 |_=>False
def Y7 (r A:R2)(D G tc:TE):TE:=λB H Q=>D B H λx E=>G B E λy J=>r x y J λz C=>match z with
 |.bl k=>if k=true then tc B C λI M=>A y I M Q else Q (.bl false) C
 |_=>False
section
variable {rest:¬Expr}
def eF (U:cF X (compareOp G) r)(L:PE X a t)(M:PE X b d)(T:(behindInMarks G b=false)∣5):PT X (.Compare a [G] [b] Y) (jJ<|fC r t d):=by intro A s B H Q I h;refine pf (aV (L A s B H _ I h) ?_) T;rintro v p ⟨x,E,D,l,j⟩;refine aV (M A p B E _ D j) ?_;rintro u q ⟨y,J,N,m,k⟩;refine aV (U A q B J x y v u _ N l m k) ?_;rintro c f ⟨z,C,O,o,g⟩;cases z<;>first|calc False.elim g|(cases o;calc cq (C,O,g))
def Bc (I:cF X (compareOp G) r)(A:PE X a E)(B:PE X b H)(C:(behindInMarks G b=false)∣5):PE X (.Compare a [G] [b] D) (fC r E H):=agA I A B C
def ptV (h:PE X e t)(B:(∀nF,isTrue e X.env nF=(do let v<-nF;standAt e.pos;holding [v]<|truthy v))∣4):PT X e (jJ t):=by intro A s G H Q I C;refine isTrue_plain (aV (h A s G H _ I C) ?_)<|B _;rintro v O ⟨x,E,D,L,J⟩;cases x<;>first|calc False.elim J|(cases L;calc cq (E,D,J))
def akQ (G:PE X a N)(L:PE X (.BoolOp .And (b::rest) B) T):PE X (.BoolOp .And (a::b::rest) B) (afs N T):=by
 intro A s C H Q I h;refine BoolOp_and<|aV (G A s C H _ I h) ?_;rintro v O ⟨x,E,D,M,J⟩;cases x with
 |bl c=>
  cases M;refine cq ?_;cases c with
  |true=>calc L A O C E Q D J
  |false=>calc(.bl false,E,D,rfl,J)
 |_=>calc False.elim J
def akR (G:PE X a C):PE X (.UnaryOp .Not a B) (aft C):=by
 intro A s M H Q I h;refine UnaryOp_<|aV (G A s M H _ I h) ?_;rintro v O ⟨x,E,D,L,J⟩;cases x with
 |bl c=>cases L;calc not_of<|cq (.bl<|not c,E,D,rfl,J)
 |_=>calc False.elim J
def ano (p:cF X (compareOp G) r)(D:cF X (compareOp B) w)(Y:PE X a ta)(j:PE X b tb)(l:PE X c tc)
  (o:(lastMarks [G,B] [b,c]=false)∣6):PE X (.Compare a [G,B] [b,c] q) (Y7 r w ta tb tc):=by
 intro A s C H Q I h;refine Compare_chain (aV (Y A s C H _ I h) ?_) o;rintro v s1 ⟨x,J,N,i,t⟩;refine chain_link<|aV (j A s1 C J _ N t) ?_;rintro u s2 ⟨y,L,T,m,f⟩;refine aV (p A s2 C L x y v u _ T i m f) ?_;rintro d s3 ⟨z,E,O,e,g⟩;cases z with
 |bl k=>
  k_go;refine cq ?_;cases k with
  |false=>calc ite_ff (.bl false,E,O,rfl,g)
  |true=>calc ite_tt<|chain_last<|aV (l A s3 C E _ O g) λw' s4 ⟨z',M,U,r4,n⟩=>D A s4 C M y z' u w' Q U m r4 n
 |_=>calc False.elim g
end
def zp (K:Frag):R2:=λx y H Q=>match x,y with
 |.ref p,.int i=>∃D v,aQ K H p D/\cN D i=#[v]/\Q v H
 |_,_=>False
def wD (K:Frag):R2:=λx y H Q=>match x,y with
 |.ref p,.int i=>∃D v,bK K H p D/\cN D i=#[v]/\Q v H
 |_,_=>False
def aiv (K:Frag):R2:=λx y H Q=>match y with
 |.int i=>∃A n,(Has K H (.list A) x\/Has K H (.tuple A) x)/\cN A i=#[.int n]/\Q (.int n) H
 |_=>False
section
variable {pos BR pO:Pos}
def dw:sO X (zp X.K):=K4.imp λx y H Q q=>by cases x<;>first|calc False.elim q|(cases y<;>first|calc False.elim q|(let(D,v,h1,h2,J):=q;calc(_,D,_,v,rfl,rfl,h1,h2,J)))
def gP:sO X (wD X.K):=Ry.imp λx y H Q q=>by cases x<;>first|calc False.elim q|(cases y<;>first|calc False.elim q|(let(D,v,h1,h2,J):=q;calc(_,D,_,v,rfl,rfl,h1,h2,J)))
def W0 (h:n=m):pL n i=pL m i:=by rw[h]
def ixD:sO X (aiv X.K):=(K4.or Ry).imp λx y H Q q=>by
 cases y<;>first|calc False.elim q|skip
 rename_i i;let(B,n,C,h2,J):=q;have go:∀D,aJ X.K H B D->cN D i=#[.int n]:=λD N=>by
  delta cN at h2 ⊢;rw[W0 N.length.symm];cases e:pL (!B) i with
  |none=>grind
  |some j=>rw[e] at h2;let(v,E,k):=N.at h2;have A:=k;rw[<-A];exact E
 rcases C with⟨p,D,rfl,T,N⟩|⟨p,D,rfl,T,N⟩
 .exact .inl (p,D,i,_,rfl,rfl,T,go D N,J)
 .calc .inr (p,D,i,_,rfl,rfl,T,go D N,J)
def aR (hr:sO X r)(G:PE X a A)(B:PE X b C)(D:Ed b∣7):PE X (.Subscript a b pos) (fC r A C):=YX hr G B D
def Ef:Yy:=λo i v H Q=>match o,i with
 |.ref p,.int k=>∃D j,H p=#[.lst D]/\pL (!D) k=#[j]/\Q (upd H p<|.lst<|D.set j v)
 |_,_=>False
def RT:yZ X Ef:=set_list.imp λx y z H Q q=>by cases x<;>first|calc False.elim q|(cases y<;>first|calc False.elim q|(let(D,j,h1,h2,J):=q;calc(_,D,_,j,rfl,rfl,h1,h2,J)))
inductive zq (K:Frag):¬V->Hp->VK->Prop
 |mk ys:(aQ K H p ys\/bK K H p ys)->Q (.int !ys) H->zq K [.ref p] H Q
def Y8:dO X (.builtin "len") (zq X.K):=RD.imp λD H Q q=>by let(A,h1,h2):=q;calc(_,A,rfl,h1,h2)
inductive Qm:¬V->Hp->VK->Prop
 |mk:Q (.int<|if i<0 then -i else i) H->Qm [.int i] H Q
def cAbs:dO X (.builtin "abs") Qm:=ac2.imp λD H Q q=>by obtain⟨q⟩:=q;calc(_,rfl,q)
inductive BW (K:Frag):¬V->Hp->VK->Prop
 |mk ys:(aQ K H p ys\/bK K H p ys)->(∀l,H l=none->Q (.ref l) (upd H l<|.lst ys))->BW K [.ref p] H Q
def afv:dO X (.type "list") (BW X.K):=RJ.imp λD H Q q=>by let(A,h1,h2):=q;calc(_,A,rfl,h1,h2)
inductive Y9 (K:Frag):¬V->Hp->VK->Prop
 |mk (ns:¬Int):aQ K H p (ns.map V.int)->Q (.int ns.sum) H->Y9 K [.ref p] H Q
def aix:dO X (.builtin "sum") (Y9 X.K):=aa2.imp λD H Q q=>by let(A,h1,h2):=q;calc(_,A,rfl,h1,h2)
inductive Za (K:Frag):¬V->Hp->VK->Prop
 |mk (ns:¬Int):aQ K H p (ns.map V.int)->0<!ns->(∀M,M∈ns->(∀a,a∈ns->M<=a)->Q (.int M) H)->Za K [.ref p] H Q
def anp:dO X (.builtin "min") (Za X.K):=aa3.imp λD H Q q=>by let(A,h1,h2,J):=q;calc(_,A,rfl,h1,h2,J)
inductive zu:V->¬V->Hp->VK->Prop
 |mk ys:H l=#[.lst ys]->(!ys)<sizeLine->Q .non (upd H l<|.lst<|ys++[y])->zu (.ref l) [y] H Q
def anq:ug X "list.append" zu:=λA s E H x D v C Q I L G q=>Nx A s E H x D v C Q I L G (by
 let(B,h1,h2,J):=q;calc(_,B,_,rfl,rfl,h1,h2,J))
def Eh (I:PE X o E)(G:PA X [e] t)
  (A:(attributeBase o "append" X.env (eval o X.env)=eval o X.env)∣0)
  (M:((backTo pO (starEach [e] X.env)).all (λx=>not x.1) && (backToKw pO (keywordEach [] X.env)).all (λx=>x.1.isSome)
   && decide ((!([e]:¬Expr))+(!([]:¬Keyword))+(if([]:¬Keyword).isEmpty then 0 else 1)<30))=true:=by rfl)
  (D:((BR.endLine==pO.line)=true)∣0)(B:(starEach [e] X.env=(false,eval e X.env)::starEach [] X.env)∣0)(C:((backTo pO<|starEach [] X.env).any (·.1)=false)∣0):
  PE X (.Call (.Attribute o "append" BR) [e] [] pO) (uZ X.K "list" zu E t):=uq ma PySem.F.slot_list_append PySem.F.type_list_append anq I G A M D B C
structure Cal (P:Program)(w:World)(K:Frag)(mg:Str->↑Value)(base:Heap)(k:Nat)(x:Str)(ps:¬Str)(sp:Sp):Prop where
 ex:∃f fd,jA P w K mg base k f fd ps sp/\mg x=#[.ref f]/\keepIn K (.ref f)=true/\Binds fd ps
def afw (C:Cal X.prog X.w X.K X.mg X.base k x ps I)(hr:cY k X.A)(N:Gl X x)(G:PA X (e::D) t)
  (A:((x==("__debug__":Str))=false)∣1)(Q:(starEach (e::D) X.env=(false,eval e X.env)::starEach D X.env)∣0)(E:((backTo pos<|starEach D X.env).any (·.1)=false)∣0):
  PE X (.Call (.Name x p) (e::D) [] pos) (jH I t):=by
 let(f,J,F,H,M,B):=C.ex;calc agD F hr N H M B G A Q E
def zx:Wx:=λJ B H Q=>match J with
 |[]=>Q B H
 |_=>False
def jq (t:TG)(u:Wx):Wx:=λJ A H Q=>match J with
 |v::r=>t v A H λB E=>u r B E Q
 |[]=>False
def zy (K:Frag)(n:Nat)(t:Wx):TG:=λv B H Q=>match v with
 |.ref a=>∃D,bK K H a D/\(!D)=n/\t D B H Q
 |_=>False
def pP:sI X [] zx:=by
 intro A s B H J C Q I r h;cases J with
 |nil=>cases r;calc assignInOrder_nil (B,H,I,h)
 |cons _ _=>calc False.elim h
def eG (h1:PG X e t)(h2:sI X D u)
  (G:((assignEach (e::D) X.env).map (·.2)=assign e X.env::(assignEach D X.env).map (·.2))∣0):sI X (e::D) (jq t u):=by
 intro A s N H M T Q I r h;cases M with
 |nil=>calc False.elim h
 |cons v U=>
  cases r with
  |cons r O=>rw[G];refine assignInOrder_cons<|aV (h1 A s N H _ _ _ I r h) ?_;rintro _ L ⟨C,E,B,J⟩;calc h2 A L C E _ _ Q B O J
def ur (h:sI X D t)
  (E:((!(assignEach D X.env))=n)∣0)(B:((assignEach D X.env).findIdx? (·.1)=none)∣0):PG X (.Tuple D k pos) (zy X.K n t):=by
 intro A s J H v u Q I r C;cases v with
 |ref a=>let(G,T,N,C):=C;calc ahT h E B A s J H (.ref a) u Q I r (a,G,rfl,T,N,C)
 |_=>calc False.elim C
def Qn (i:Nat)(te:TE)(A:TIp):TS:=λD B H=>match B[i]? with
 |some #[x]=>te B H λy E=>A x y E λz J=>D.nx (B.set i<|#[z]) J
 |_=>False
def afx (B:X.N.Nodup)(hi:X.N[i]? =#[x])(J:Loc X.env.scope x)(Q:PE X e te)(G:Bb X L M)(E:(X.fn x=true\/X.env.scope.names.lookup x=some .local)∣3):
  PS X (.AugAssign (.Name x C) L e pos) (Qn i te M):=λA s N H D I h=>ahU B hi J Q G E A s N H D I (by
 delta Qn at h;split at h
 .rename_i v e;exact(v,e,h)
 .calc h.elim)
def aiz:Bb X .Add (rM λi j=>.int<|i+j):=ahW.imp λx y H Q q=>by cases x<;>first|calc False.elim q|(cases y<;>first|calc False.elim q|calc(_,_,rfl,rfl,q))
def aiA:Bb X .Sub (rM λi j=>.int<|i - j):=ahX.imp λx y H Q q=>by cases x<;>first|calc False.elim q|(cases y<;>first|calc False.elim q|calc(_,_,rfl,rfl,q))
end
def qI:GX C g A D B H=C B H λJ E=>rE J g A D B E:=rfl
def anr {K:Frag}(Pv:Nat->St->Hp->Prop)(L:Pv 0 B H)(O:∀i B H,i<=!xs->Pv i B H->aQ K H a xs)
  (T:∀i x B H p,xs[i]? =#[x]->Pv i B H->H p=none->g (.ref p) B (upd H p<|.tup [.int (i:Int),x]) λG J=>k {D with nx:=Pv<|i+1} G J)(M:∀B H,Pv (!xs) B H->D.nx B H):
  rE (Ite K a) g k D B H:=by
 refine⟨λi m B H=>m=(!xs) - i/\i<=!xs/\Pv i B H,⟨!xs,by simp,cv _,L⟩,?_⟩;rintro i m B H ⟨rfl,N,p⟩;have q:=O i B H N p;by_cases A:i<!xs
 .refine .inr ⟨⟨xs,xs[i],q,by simp[A]⟩,Pv<|i+1,λl E Y=>⟨(!xs) - (i+1),by lk,rfl,A,Y⟩,λx E y=>?_⟩;let(j,z,Q,C,U,I):=y;subst C I;exact T i z B _ j (U xs q) p Q
 .have e:i=!xs:=by lk
  subst e;calc .inl ⟨⟨xs,q,av _⟩,M B H p⟩
def gA.nil:gA [] []:=gA.refl
def gA.skip (h:gA a b):gA (none::a) (x::b):=λj v e=>by
 cases j with
 |zero=>simp at e
 |succ j=>calc h j v<|‹e›
def RV (h:0<n):pL n (-1)=#[n - 1]:=by delta pL;grind
def hide (D:Addr)(H:Hp):Hp:=λb=>if b=D then none else H b
def mR:Same (hide D H) H:=λb o e=>by delta hide at e;lk
def Ei:hide D H D=none:=by delta hide;rw[ah rfl]
def hide_ne (h:b≠D):hide D H b=H b:=by delta hide;rw[ap h]
def u6:hide D (upd H D o)=hide D H:=by funext b;delta hide upd;lk
def RZ (h:H D=none):hide D H=H:=by funext b;delta hide;lk
def aa5 (h:H D=none)(s:Same H G):Same H (hide D G):=λb o e=>by rw[hide_ne<|aZ e h];calc s b o e
def qJ (s:Same H G):Same (hide D H) (hide D G):=λb o e=>by
 delta hide at e ⊢;f_are
 .k_go
 .rename_i B;rw[ap B];calc s b o e
def aK (h:H p=none):Same H (upd H p o):=λb u e=>by rw[au<|aZ e h];calc e
def lcR {lo:Int}(r:n<sizeLine)(I:Nat->¬V->Hp->Prop)(U:I 0 [] E)
  (j:∀D i ys H (N:VK),i<n->H D=#[.lst ys]->E D=none->(!ys)=i->Same E (hide D H)->I i ys (hide D H)->
   (∀y M,M D=#[.lst ys]->Same (hide D H) (hide D M)->I (i+1) (ys++[y]) (hide D M)->N y M)->g (.int (lo+i)) (cU cap L) H λJ O=>gA (cU cap L) J/\te J O N)
  (Y:∀D ys H,H D=#[.lst ys]->E D=none->(!ys)=n->Same E (hide D H)->I n ys (hide D H)->Q (.ref D) H):G7 (Itr lo n) cap g afq te L E Q:=by
 intro D hD;refine⟨λi m H=>m=n - i/\i<=n/\∃ys,H D=#[.lst ys]/\(!ys)=i/\Same E (hide D H)/\I i ys (hide D H),⟨_,rfl,cv _,[],ao,rfl,by rw[u6,RZ hD];calc Same.refl _,by rw[u6,RZ hD];calc U⟩,?_⟩;rintro i m H ⟨rfl,q,ys,G,B,A,hI⟩;by_cases C:i<n
 .refine .inr ⟨C,λx p y=>?_⟩;let(e,T):=y;subst e T;refine j D i ys _ _ C G hD B A hI λv M k l o=>?_;refine⟨ys,k,by lk,n - (i+1),by lk,rfl,C,ys++[v],ao,by simp[B],?_,?_⟩
  .rw[u6];exact A.trans l
  .rw[u6];exact o
 .have e:i=n:=by lk
  subst e;calc .inl ⟨av _,Y D ys H G hD B A hI⟩
end L2
namespace L2
def PT.imp (h:PT X e t)(U:∀B H Q,t' B H Q->t B H Q):PT X e t':=λA s B H Q I q=>h A s B H Q I<|U B H Q q
def PW.imp (h:PW X e t)(U:∀B H Q,t' B H Q->t B H Q):PW X e t':=λE A s B H Q I q=>h E A s B H Q I<|U B H Q q
def PS.imp (h:PS X e t)(U:∀D B H,t' D B H->t D B H):PS X e t':=λA s B H Q I q=>h A s B H Q I<|U Q B H q
def jy.imp (h:jy X e t)(U:∀D B H,t' D B H->t D B H):jy X e t':=λA s B H Q I q=>h A s B H Q I<|U Q B H q
def PA.imp (h:PA X e t)(U:∀B H Q,t' B H Q->t B H Q):PA X e t':=λC A s B H Q I q=>h C A s B H Q I<|U B H Q q
def PG.imp (h:PG X e t)(U:∀v B H Q,t' v B H Q->t v B H Q):PG X e t':=λA s B H v u Q I r q=>h A s B H v u Q I r<|U v B H Q q
def PI.imp (h:PI X C e t)(U:∀B H Q,t' B H Q->t B H Q):PI X C e t':=λA s B H Q I q=>h A s B H Q I<|U B H Q q
def PO.imp (h:PO X e t)(U:∀B H Q,t' B H Q->t B H Q):PO X e t':=λA s B H Q I q=>h A s B H Q I<|U B H Q q
end L2
namespace VM
open L2
abbrev St:=L2.St
inductive Tg where
 |fr|ow|io
 deriving DecidableEq
def Tg.dat:Tg->Bool
 |_=>true
def Tg.own:Tg->Bool
 |.fr=>false
 |_=>true
abbrev GS:=List<|Option<|Tg×()
abbrev VE:=GS->↑()
def xZ:HO->Bool
 |.tup _=>true
 |.gO _ (.tup _)=>true
 |_=>false
structure bB (F H F' H':Hp):Prop where
 hh:Same H H'
 ff:Same F F'
 fh:Same F' H'
 new:∀a o,F' a=#[o]->F a=#[o]\/H a=none\/xZ o=true
theorem bB.refl (h:Same F H):bB F H F H:=(Same.refl _,Same.refl _,h,λ_ _ e=>.inl e)
theorem bB.trans (a:bB F H A E)(b:bB A E B J):bB F H B J:=(a.hh.trans b.hh,a.ff.trans b.ff,b.fh,λp o e=>by
 rcases b.new p o e with h|h|h
 .exact a.new p o h
 .exact .inr<|.inl<|a.hh.free h
 .calc .inr (.inr h))
def bB.alloc (h:Same F H)(D:H p=none):bB F H F (upd H p o):=
 (aK D,Same.refl _,h.trans<|aK D,λ_ _ e=>.inl e)
def bB.BX (h:Same F H)(D:H p=none):bB F H (upd F p o) (upd H p o):=by
 refine(aK D,aK<|h.free D,λb u e=>?_,λb u e=>?_)
 .by_cases B:b=p
  .subst B;rw[ao] at e ⊢;exact e
  .rw[au B] at e ⊢;exact h b u e
 .by_cases B:b=p
  .subst B;exact .inr<|.inl D
  .rw[au B] at e;calc .inl e
mutual
def sU:()->Bool
 |.none=>true
 |.bool _=>true
 |.int _=>true
 |.str _=>true
 |.tuple A=>mU A
 |_=>false
def mU:¬()->Bool
 |[]=>true
 |d::A=>sU d && mU A
end
def wide (F H:Hp):Hp:=λa=>match H a with
 |some o=>if xZ o=true then #[o] else F a
 |none=>none
def R0 (h:H a=#[o])(hi:xZ o=true):wide F H a=#[o]:=by delta wide;rw[h];erw[hi,dA]
def NP (g:bB F H A E):bB F H (wide A E) E:=by
 have B:∀a o,A a=#[o]->wide A E a=#[o]:=λa o e=>by unfold wide;rw[(g.fh a o e)];lk
 refine(g.hh,λa o e=>B a o<|g.ff a o e,λa o e=>?_,λa o e=>?_)
 .unfold wide at e;cases q:E a with
  |none=>lk
  |some u=>
   rw[q] at e;by_cases N:xZ u=true
   .omega
   .erw[N] at e;rw[<-q];exact g.fh a o e
 .unfold wide at e;cases q:E a with
  |none=>lk
  |some u=>
   rw[q] at e;by_cases N:xZ u=true
   .omega
   .erw[N] at e;calc g.new a o e
def aa6 (h:H a=#[.lst xs])(C:F a=none):wide F H a=none:=by delta wide;rw[h];simpa [xZ] using C
def ado (h:bK K H a xs):bK K (wide F H) a xs:=by
 rcases h with(h|⟨o,h⟩)|h
 .exact .inl<|.inl<|R0 h rfl
 .exact .inl<|.inr ⟨o,R0 h rfl⟩
 .calc .inr h
mutual
theorem G9:∀{d:()}{v:V},sU d=true->Has K H d v->Has K (wide F H) d v
 |.none,_,_,h=>h
 |.bool _,_,_,h=>h
 |.int _,_,_,h=>h
 |.str _,_,_,h=>h
 |.list _,_,f,_=>by simp[sU] at f
 |.tuple A,_,f,(a,D,e,T,N)=>(a,D,e,ado T,BZ (by simpa [sU] using f) N)
 |.dict _,_,f,_=>by simp[sU] at f
theorem BZ:∀{ds:¬()}{vs:¬V},mU ds=true->aJ K H ds vs->aJ K (wide F H) ds vs
 |[],_,_,h=>h
 |d::ds,_,f,(v,r,h1,h2,J)=>by erw[mU,bc] at f;calc(v,r,h1,G9 f.1 h2,BZ f.2 J)
end
inductive gD (K:Frag)(cQ F H:Hp)(d:())(v:V):Prop
 |mk:∀a ds xs,d=.list ds->v=.ref a->H a=#[.lst xs]->F a=none->cQ a=none->aJ K F ds xs->gD K cQ F H d v
def aa7 (K:Frag)(A:Nat->↑Addr)(M F H:Hp)(i:Nat):Tg->()->V->Prop
 |.fr,d,v=>Has K F d v
 |.ow,d,v=>gD K M F H d v
 |.io,d,v=>gD K M F H d v/\∃a,v=.ref a/\A i=#[a]
structure VI (K:Frag)(j8:Nat->↑Addr)(G cQ:Hp)(S:GS)(F:Hp)(σ:St)(H:Hp):Prop where
 len:(!S)=!σ
 same:Same cQ H
 gf:Same G F
 new:∀a o,F a=#[o]->G a=#[o]\/cQ a=none\/xZ o=true
 sub:Same F H
 slot:∀(i:Nat) t d,S[i]? =#[#[(t,d)]]->∃v,σ[i]? =#[#[v]]/\aa7 K j8 cQ F H i t d v
 inj:∀(i j:Nat) t t' d d' v,S[i]? =#[#[(t,d)]]->S[j]? =#[#[(t',d')]]->t.own=true->t'.own=true->σ[i]? =#[#[v]]->σ[j]? =#[#[v]]->i=j
section
variable {B:St}
def gD.grow (g:bB F H A E)(h:gD K M F H d v):gD K M A E d v:=by
 let(a,C,N,D,G,J,O,I,L):=h;refine(a,C,N,D,G,g.hh _ _ J,?_,I,L.same g.ff);cases q:A a with
 |none=>rfl
 |some o=>
  rcases g.new a o q with z|z|z
  .omega
  .omega
  .have:=g.fh a o q;rw[g.hh _ _ J] at this;cases this;simp[xZ] at z
theorem VI.grow (I:VI K A G M S F B H)(g:bB F H C E):VI K A G M S C B E where
 len:=I.len
 same:=I.same.trans g.hh
 gf:=I.gf.trans g.ff
 new:=λa o e=>by
  rcases g.new a o e with z|z|z
  .exact I.new a o z
  .exact .inr<|.inl<|I.same.free z
  .exact .inr<|.inr z
 sub:=g.fh
 slot:=λi t d e=>by
  let(v,D,h):=I.slot i t d e;refine(v,D,?_);cases t with
  |fr=>calc Has.same g.ff h
  |ow=>calc gD.grow g h
  |io=>exact⟨gD.grow g h.1,h.2⟩
 inj:=I.inj
end
abbrev Rel:=Frag->Hp->Hp->Hp->Hp->()->V->Prop
def RW:Rel:=λK _ _ _ E d v=>Has K E d v
def RS:Rel:=λK _ _ A _ d v=>Has K A d v
def RM:Rel:=λK _ _ A E d v=>Has K A d v\/∃B a D,d=.list B/\v=.ref a/\aQ K E a D/\aJ K A B D
inductive RNP (K:Frag)(H:Hp)(F':Hp)(H':Hp)(d:())(v:V):Prop
 |mk:∀ds a xs,d=.list ds->v=.ref a->H a=none->F' a=none->H' a=#[.lst xs]->aJ K F' ds xs->RNP K H F' H' d v
def RN:Rel:=λK _ H A E d v=>RNP K H A E d v
inductive tV (K:Frag)(R:Rel)(f:VE)(σ:St)(H:Hp)(Q:VK):Prop
 |mk:∀j8 G cQ S F,VI K j8 G cQ S F σ H->∀d,f S=#[d]->(∀v F' H',bB F H F' H'->R K F H F' H' d v->Q v H')->tV K R f σ H Q
def tV.imp (N:∀S d,f S=#[d]->f' S=#[d])
  (L:∀(F B E:Hp) S d v,f S=#[d]->bB F H B E->D K F H B E d v->∃A,bB F H A E/\R K F H A E d v)(h:tV K R f O H Q):tV K D f' O H Q:=by
 let(C,G,M,S,F,I,d,e,q):=h;refine(C,G,M,S,F,I,d,N S d e,λv B E g r=>?_);let(A,J,m):=L F B E S d v e g r;calc q v A E J m
section
variable {f:VE}
def sw (h:PE X e (tV X.K RS f)):PE X e (tV X.K RW f):=h.imp λ_ _ _ q=>tV.imp (λ_ _ h=>h) (λF A E S d v _ g r=>(A,g,Has.same g.fh r)) q
def sm (h:PE X e (tV X.K RS f)):PE X e (tV X.K RM f):=h.imp λ_ _ _ q=>tV.imp (λ_ _ h=>h) (λF A E S d v _ g r=>(A,g,.inl r)) q
def mw (h:PE X e (tV X.K RM f)):PE X e (tV X.K RW f):=h.imp λ_ _ _ q=>tV.imp (λ_ _ h=>h) (λF A E S d v _ g r=>(A,g,by
 rcases r with r|⟨B,a,D,rfl,rfl,h1,h2⟩
 .exact Has.same g.fh r
 .calc(a,D,rfl,h1,h2.same g.fh))) q
def nm (h:PE X e (tV X.K RN f)):PE X e (tV X.K RM f):=h.imp λ_ _ _ q=>tV.imp (λ_ _ h=>h) (λF A E S d v _ g r=>(A,g,by
 let(B,a,D,h1,h2,J,M,k,C):=r;calc .inr (B,a,D,h1,h2,aQ.of k,C))) q
def RN.gO (g:bB F H C E)(r:RN K F H C E d v):∃A,bB F H A E/\RS K F H A E d v:=by
 let(I,a,D,h1,h2,J,M,k,G):=r;refine(upd C a<|.lst D,(g.hh,g.ff.trans<|aK M,λb o e=>?_,λb o e=>?_),?_)
 .by_cases B:b=a
  .subst B;rw[ao] at e;k_go;exact k
  .rw[au B] at e;exact g.fh b o e
 .by_cases B:b=a
  .omega
  .rw[au B] at e;exact g.new b o e
 .rw[h1];calc(a,D,h2,aQ.of ao,G.same<|aK M)
def ns (h:PE X e (tV X.K RN f)):PE X e (tV X.K RS f):=h.imp λ_ _ _ q=>tV.imp (λ_ _ h=>h) (λF A E S d v _ g r=>RN.gO g r) q
def nw (h:PE X e (tV X.K RN f)):PE X e (tV X.K RW f):=mw<|nm h
def Hi (f:VE):VE:=λS=>match f S with
 |some d=>if sU d=true then #[d] else none
 |none=>none
def NQ (h:Hi f S=#[d]):f S=#[d]/\sU d=true:=by delta Hi at h;lk
end
def vN (i:Nat):VE:=λS=>match S[i]? with
 |some #[(.fr,d)]=>#[d]
 |some #[(.ow,d)]=>#[d]
 |some #[(.io,d)]=>#[d]
 |_=>none
def vF (i:Nat):VE:=λS=>match S[i]? with
 |some #[(.fr,d)]=>#[d]
 |_=>none
def vC (d:()):VE:=λ_=>#[d]
section
variable {A:Pos}
def dN (h:PE X e (vR i)):PE X e (tV X.K RM<|vN i):=h.imp λk H Q q=>by
 let(j,G,O,S,F,I,d,e,q):=q;delta vN at e;f_are
 .rename_i T hS;k_go;let(v,M,D):=I.slot i .fr d hS;delta vR;rw[M];exact q v F H (bB.refl I.sub)<|.inl D
 .rename_i T hS;k_go;let(v,M,D):=I.slot i .ow d hS;delta vR;rw[M];let(a,B,N,C,E,J,U,Y,L):=D;exact q v F H (bB.refl I.sub)<|.inr (B,a,N,C,E,aQ.of J,L)
 .rename_i T hS;k_go;let(v,M,D):=I.slot i .io d hS;delta vR;rw[M];let(a,B,N,C,E,J,U,Y,L):=D.1;exact q v F H (bB.refl I.sub)<|.inr (B,a,N,C,E,aQ.of J,L)
 .k_go
def dF (h:PE X e (vR i)):PE X e (tV X.K RS<|vF i):=h.imp λJ H Q q=>by
 let(C,G,M,S,F,I,d,e,q):=q;delta vF at e;f_are
 .rename_i E hS;k_go;let(v,B,D):=I.slot i .fr d hS;delta vR;rw[B];exact q v F H (bB.refl I.sub) D
 .k_go
def dC (h:PE X e (tC v))(B:∀H,Has X.K H d v):PE X e (tV X.K RS<|vC d):=h.imp λE H Q q=>by let(C,G,M,S,F,I,D,e,q):=q;cases e;calc q v F H (bB.refl I.sub)<|B F
def jB {i j}:PE X (.Constant (.int i) j A) (tV X.K RS<|vC<|.int i):=dC aH λ_=>rfl
def akS {b j}:PE X (.Constant (.bool b) j A) (tV X.K RS<|vC<|.bool b):=dC rC λ_=>rfl
def Qo {j}:PE X (.Constant .none j A) (tV X.K RS<|vC .none):=dC sE λ_=>rfl
def xr {x j}(B:((PyData.str x).canLay0=true)∣0):PE X (.Constant (.str x) j A) (tV X.K RS<|vC<|.str x):=dC aX λ_=>⟨rfl,B⟩
end
def v2 (h:()->()->↑())(H A:VE):VE:=λS=>match H S with
 |some x=>match A S with
  |some y=>h x y
  |none=>none
 |none=>none
def qK (e:v2 h H A S=#[d]):∃x y,H S=#[x]/\A S=#[y]/\h x y=#[d]:=by delta v2 at e;grind
def iR (K:Frag)(h:()->()->↑())(r:R2):Prop:=∀H x y E A d Q,h E A=#[d]->Has K H E x->Has K H A y->(∀v,(∀B,Has K B d v)->Q v H)->r x y H Q
def rd2 (U:iR K h r)(q:tV K RS (v2 h O T) k H Q):fC r (tV K RW O) (tV K RW T) k H Q:=by let(A,G,M,S,F,I,d,e,q):=q;let(x,y,L,N,e):=qK e;calc(A,G,M,S,F,I,x,L,λv E g C j=>(A,G,M,S,E,I.grow C,y,N,λu B J D n=>(U J v u x y d Q e (Has.same D.hh j) n λw Y=>q w B J (C.trans D)<|Y B)))
section
variable {r:R2}
def qD (I:cF X (binaryOp D) r)(C:iR X.K h r)(G:PE X a (tV X.K RW H))(B:PE X b (tV X.K RW A)):PE X (.BinOp a D b E) (tV X.K RS<|v2 h H A):=
 (bY I G B).imp λ_ _ _ q=>rd2 C q
def La (I:cF X (compareOp G) r)(D:iR X.K h r)(B:PE X a (tV X.K RW H))(C:PE X b (tV X.K RW A))(E:(behindInMarks G b=false)∣5):PE X (.Compare a [G] [b] J) (tV X.K RS<|v2 h H A):=
 (Bc I B C E).imp λ_ _ _ q=>rd2 D q
end
def yc (g:Int->Int->()):()->()->↑()
 |.int a,.int b=>#[g a b]
 |_,_=>none
def xu (C:Int->Int->Prop)[∀a b,Decidable (C a b)](g:Int->Int->()):()->()->↑()
 |.int a,.int b=>if C a b then #[g a b] else none
 |_,_=>none
def afy (d:())(v:V):Prop:=∀(K:Frag) (H:Hp),Has K H d v
def uM (N:∀a b,afy (g a b) (C a b)):iR K (yc g) (rM C):=by
 intro H x y A B d Q e D n q;cases A<;>first|(simp[yc] at e;done)|skip
 cases B<;>first|(simp[yc] at e;done)|skip
 erw[yc,dQ] at e;subst e;subst D n;calc q _ λE=>N _ _ K E
def zB [∀a b,Decidable (C a b)](O:∀a b,C a b->A a b)(N:∀a b,afy (g a b) (G a b)):iR K (xu C g) (BL A G):=by
 intro H x y B D d Q e I n q;cases B<;>first|(simp[xu] at e;done)|skip
 cases D<;>first|(simp[xu] at e;done)|skip
 erw[xu] at e;f_are
 .rename_i hC;k_go;subst I n;exact⟨O _ _ hC,q _ λE=>N _ _ K E⟩
 .k_go
set_option exponentiation.threshold 9000
def BMul (i j:Int):Prop:=i.natAbs<2^2000/\j.natAbs<2^2000
noncomputable instance (i j:Int):Decidable (BMul i j):=inferInstanceAs<|Decidable<|_/\_
def Zb (_ j:Int):Prop:=0<j/\j.natAbs<2^2000
noncomputable instance (i j:Int):Decidable (Zb i j):=inferInstanceAs<|Decidable<|_/\_
def BMod (_ j:Int):Prop:=0<j
noncomputable instance (i j:Int):Decidable (BMod i j):=inferInstanceAs<|Decidable<|_<_
def Zc (i j:Int):Prop:=0<=j/\j<=1000/\i.natAbs<2^60
noncomputable instance (i j:Int):Decidable (Zc i j):=inferInstanceAs<|Decidable<|_/\_/\_
def BMul.ok (h:BMul i j):Qk i j:=by have e:(2:Nat)^2000<=2^8000:=nk ⋯ ⋯;calc⟨bz h.1 e,bz h.2 e⟩
def Zb.ok (h:Zb i j):Qj i j:=⟨h.1,by
 have C:j.natAbs≠0:=by have:=h.1;lk
 have:=(np C).mpr h.2;lk⟩
def Zc.ok (h:Zc i j):YF i j:=(h.1,by have:=h.2.1;lk,Nat.lt_trans h.2.2<|by decide)
abbrev dW:=yc λa b=>.int<|a+b
abbrev jX:=yc λa b=>.int<|a - b
abbrev tR:=xu BMul λa b=>.int<|a*b
abbrev kI:=xu Zb λa b=>.int<|a/b
abbrev fO:=xu BMod λa b=>.int<|a % b
abbrev zE:=xu Zc λa b=>.int<|a^b.toNat
abbrev wF:=yc λa b=>.bool<|decide<|a<b
abbrev Bf:=yc λa b=>.bool<|decide<|a<=b
abbrev yd:=yc λa b=>.bool<|decide<|b<a
abbrev geD:=yc λa b=>.bool<|decide<|b<=a
section
def R3:iR K dW (rM λi j=>.int<|i+j):=uM λ_ _ _ _=>rfl
def hSub:iR K jX (rM λi j=>.int<|i - j):=uM λ_ _ _ _=>rfl
def hMul:iR K tR (BL Qk λi j=>.int<|i*j):=zB (λ_ _ h=>h.ok) λ_ _ _ _=>rfl
def hDiv:iR K kI (BL Qj λi j=>.int<|i/j):=zB (λ_ _ h=>h.ok) λ_ _ _ _=>rfl
def hMod:iR K fO (BL (λ_ j=>0<j) λi j=>.int<|i % j):=zB (λ_ _ h=>h) λ_ _ _ _=>rfl
def hPow:iR K zE (BL YF λi j=>.int<|i^j.toNat):=zB (λ_ _ h=>h.ok) λ_ _ _ _=>rfl
def hLt:iR K wF (rM λi j=>.bl<|decide<|i<j):=uM λ_ _ _ _=>rfl
def hLe:iR K Bf (rM λi j=>.bl<|decide<|i<=j):=uM λ_ _ _ _=>rfl
def hGt:iR K yd (rM λi j=>.bl<|decide<|j<i):=uM λ_ _ _ _=>rfl
end
def jc:()->()->↑():=λx y=>if x.depth<=60 then #[.bool<|eqv x y] else none
def jr:()->()->↑():=λx y=>if x.depth<=60 then #[.bool<|not (PyData.eqv x y)] else none
def hEq:iR K jc (BJ K):=by
 intro H x y E A d Q e B n q;delta jc at e;f_are
 .k_go;exact(E,A,B,n,by assumption,q _ λ_=>rfl)
 .k_go
def hNe:iR K jr (K9 K):=by
 intro H x y E A d Q e B n q;delta jr at e;f_are
 .k_go;exact(E,A,B,n,by assumption,q _ λ_=>rfl)
 .k_go
def jk:()->Bool
 |.none=>true
 |_=>false
def isD:()->()->↑():=λx y=>if jk y then #[.bool<|jk x] else none
def Ld:()->()->↑():=λx y=>if jk y then #[.bool<|not (jk x)] else none
def NT (h:Has K H d x):wC x=jk d:=by
 cases d with
 |none=>have e:=h;rw[e];rfl
 |bool b=>have e:=h;rw[e];rfl
 |int i=>have e:=h;rw[e];rfl
 |str y=>have e:=h.1;rw[e];rfl
 |list A=>let(a,D,rfl,_):=h;rfl
 |tuple A=>let(a,D,rfl,_):=h;rfl
 |dict k=>calc h.elim
def none_of (h:Has K H d x)(e:jk d=true):x=.non:=by cases d<;>first|calc h|(simp[jk] at e)
def hIs:iR K isD adl:=by
 intro H x y E B d Q e A n q;delta isD at e;f_are
 .rename_i C;k_go;have:=none_of n C;subst this;show Q (.bl<|wC x) H;rw[NT A];exact q _ λ_=>rfl
 .k_go
def aiC:iR K Ld Ql:=by
 intro H x y E B d Q e A n q;delta Ld at e;f_are
 .rename_i C;k_go;have:=none_of n C;subst this;show Q (.bl<|not (wC x)) H;rw[NT A];exact q _ λ_=>rfl
 .k_go
abbrev VT:=GS->↑Bool
inductive iT (K:Frag)(f:VT)(σ:St)(H:Hp)(Q:(Bool->Hp->Prop)):Prop
 |mk:∀j8 G cQ S F,VI K j8 G cQ S F σ H->∀b,f S=#[b]->(∀F' H',bB F H F' H'->Q b H')->iT K f σ H Q
def vB (f:VE):VT:=λS=>match f S with
 |some (.bool b)=>#[b]
 |_=>none
def agJ (h:vB f S=#[b]):f S=#[.bool b]:=by delta vB at h;lk
def lG (f g:VT):VT:=λS=>match f S with
 |some true=>g S
 |some false=>#[false]
 |none=>none
def nZ (f g:VT):VT:=λS=>match f S with
 |some true=>#[true]
 |some false=>g S
 |none=>none
def eU (f:VT):VT:=λS=>match f S with
 |some b=>some (not b)
 |none=>none
def R4:()->↑Bool
 |.none=>#[false]
 |.bool b=>#[b]
 |.int i=>#[i !=0]
 |.list A=>#[not A.isEmpty]
 |.tuple A=>#[not A.isEmpty]
 |_=>none
def u9 (f:VE):VT:=λS=>match f S with
 |some d=>R4 d
 |none=>none
theorem aJ.isEmpty (h:aJ K H ds vs):vs.isEmpty=ds.isEmpty:=by have:=!h;cases ds<;>cases vs<;>simp_all
section
variable {rest:¬Expr}
def Zd (U:∀C,tV K RS f B H C->t B H C)(q:iT K (vB f) B H Q):jJ t B H Q:=by let(A,G,M,S,F,I,b,e,q):=q;refine U _ (A,G,M,S,F,I,.bool b,agJ e,λv D E g J=>?_);subst J;calc q D E g
def kJ (I:cF X (compareOp G) r)(D:iR X.K h r)(B:PE X a (tV X.K RW H))(C:PE X b (tV X.K RW A))(E:(behindInMarks G b=false)∣5):PT X (.Compare a [G] [b] J) (iT X.K<|vB<|v2 h H A):=
 PT.imp (eF I B C E) λ_ _ _ q=>Zd (λ_ q=>rd2 D q) q
def cVal (Q:PE X e (tV X.K RS f))(D:(∀nF,isTrue e X.env nF=(do let v<-nF;standAt e.pos;holding [v]<|truthy v))∣4):PT X e (iT X.K<|vB f):=
 PT.imp (ptV Q D) λ_ _ _ q=>Zd (λ_ q=>q) q
def ant (D:PT X a (iT X.K B)):PT X (.UnaryOp .Not a H) (iT X.K<|eU B):=PT.imp (Il D) λ_ _ _ q=>by
 let(A,G,M,S,F,I,b,e,q):=q;delta eU at e;cases k:B S with
 |none=>lk
 |some c=>rw[k] at e;k_go;calc(A,G,M,S,F,I,c,k,λC E g=>q C E g)
def akT (G:PT X a (iT X.K B)):PW X (.BoolOp .And [a] A) (iT X.K B):=xQ G
def aiD (G:PT X a (iT X.K B)):PW X (.BoolOp .Or [a] A) (iT X.K B):=pJ G
def anu (L:PT X a (iT X.K C))(N:PW X (.BoolOp .And (b::rest) B) (iT X.K O)):PW X (.BoolOp .And (a::b::rest) B) (iT X.K<|lG C O):=PW.imp (Bs L N) λ_ _ _ q=>by
 let(A,G,M,S,F,I,b,e,q):=q;delta lG at e;cases k:C S with
 |none=>lk
 |some c=>
  rw[k] at e;refine(A,G,M,S,F,I,c,k,λD Q g=>?_);cases c with
  |true=>rw[ah rfl];calc(A,G,M,S,D,I.grow g,b,e,λE J H=>q E J<|g.trans H)
  |false=>grind
def wOr (L:PT X a (iT X.K C))(N:PW X (.BoolOp .Or (b::rest) B) (iT X.K O)):PW X (.BoolOp .Or (a::b::rest) B) (iT X.K<|nZ C O):=PW.imp (rD L N) λ_ _ _ q=>by
 let(A,G,M,S,F,I,b,e,q):=q;delta nZ at e;cases k:C S with
 |none=>lk
 |some c=>
  rw[k] at e;refine(A,G,M,S,F,I,c,k,λD Q g=>?_);cases c with
  |false=>rw[ap bn];calc(A,G,M,S,D,I.grow g,b,e,λE J H=>q E J<|g.trans H)
  |true=>grind
def anv (Q:PE X e (tV X.K RW f))(N:(∀nF,isTrue e X.env nF=(do let v<-nF;standAt e.pos;holding [v]<|truthy v))∣4):PT X e (iT X.K<|u9 f):=
 PT.imp (ac1 Q N) λ_ _ _ q=>by
  let(C,G,M,S,F,I,b,e,q):=q;delta u9 at e;cases D:f S with
  |none=>rw[D] at e;k_go
  |some d=>
   rw[D] at e;refine(C,G,M,S,F,I,d,D,λv H J g B=>(b,?_,q H J g));cases d with
   |none=>cases e;have A:=B;rw[A];rfl
   |bool c=>cases e;have A:=B;rw[A];rfl
   |int i=>cases e;have A:=B;rw[A];rfl
   |list L=>cases e;let(p,E,rfl,h1,h2):=B;calc .inl (E,h1,by rw[aJ.isEmpty h2])
   |tuple L=>cases e;let(p,E,rfl,h1,h2):=B;calc .inr<|.inl (E,h1,by rw[aJ.isEmpty h2])
   |str y=>cases e
   |dict k=>cases e
end
def Le (f g:VE):VE:=λS=>match f S with
 |some (.bool true)=>g S
 |some (.bool false)=>#[.bool false]
 |_=>none
def vOr (f g:VE):VE:=λS=>match f S with
 |some (.bool true)=>#[.bool true]
 |some (.bool false)=>g S
 |_=>none
def Hj (f:VE):VE:=λS=>match f S with
 |some (.bool b)=>#[.bool (not b)]
 |_=>none
def oA (h h':()->()->↑())(H A B:VE):VE:=λS=>match H S with
 |some x=>match A S with
  |some y=>match h x y with
   |some (.bool true)=>(match B S with
    |some z=>h' y z
    |none=>none)
   |some (.bool false)=>#[.bool false]
   |_=>none
  |none=>none
 |none=>none
def vIf (c:VT)(f g:VE):VE:=λS=>match c S with
 |some true=>f S
 |some false=>g S
 |none=>none
section
variable {rest:¬Expr}
def anw (T:PE X a (tV X.K RS N))(U:PE X (.BoolOp .And (b::rest) D) (tV X.K RS O)):PE X (.BoolOp .And (a::b::rest) D) (tV X.K RS<|Le N O):=(akQ T U).imp λ_ _ _ q=>by
 f_int;delta Le at e;f_are
 .rename_i k;refine(A,G,M,S,F,I,_,k,λv E J g C=>?_);have B:=C;subst B;erw[dA];exact(A,G,M,S,E,I.grow g,d,e,λw H L Q Y=>q w H L (g.trans Q) Y)
 .rename_i k;k_go;refine(A,G,M,S,F,I,_,k,λv E J g C=>?_);have B:=C;subst B;grind
 .k_go
def anx (C:PE X a (tV X.K RS H)):PE X (.UnaryOp .Not a J) (tV X.K RS<|Hj H):=(akR C).imp λ_ _ _ q=>by
 f_int;delta Hj at e;f_are
 .rename_i b k;k_go;refine(A,G,M,S,F,I,_,k,λv B E g D=>?_);subst D;exact q _ B E g rfl
 .k_go
def anz {G}(h:PE X a (tV X.K R f)):PE X (.BoolOp G [a] A) (tV X.K R f):=Im h
def aiF (m:iR K h r)(L:iR K h' s)(q:tV K RS (oA h h' U Y j) a H Q):Y7 r s (tV K RW U) (tV K RW Y) (tV K RW j) a H Q:=by
 f_int;delta oA at e;cases p:U S with
 |none=>lk
 |some x=>
  rw[p] at e;cases t:Y S with
  |none=>lk
  |some y=>
   rw[t] at e;simp only at e;refine(A,G,M,S,F,I,x,p,λv c i D o=>(A,G,M,S,c,I.grow D,y,t,λu N J B n=>?_));f_are
   .rename_i g;cases b:j S with
    |none=>lk
    |some z=>rw[b] at e;refine m J v u x y _ _ g (Has.same B.hh o) n λk C=>?_;have E:=C J;subst E;erw[dA];exact(A,G,M,S,N,(I.grow D).grow B,z,b,λw O T l f=>(L T u w y z d Q e (Has.same l.hh n) f λk C=>q k O T ((D.trans B).trans l)<|C O))
   .rename_i g;k_go;refine m J v u x y _ _ g (Has.same B.hh o) n λk C=>?_;have E:=C J;subst E;erw[dt,dE];exact q _ N J (D.trans B) rfl
   .k_go
def dCh (N:cF X (compareOp G) r)(L:iR X.K h r)(C:cF X (compareOp B) T)(A:iR X.K h' T)(I:PE X a (tV X.K RW H))(J:PE X b (tV X.K RW D))(O:PE X c (tV X.K RW E))
  (M:(lastMarks [G,B] [b,c]=false)∣6):PE X (.Compare a [G,B] [b,c] Q) (tV X.K RS<|oA h h' H D E):=(ano N C I J O M).imp λ_ _ _ q=>aiF L A q
def dIf (T:PT X c (iT X.K tc))(O:PE X a (tV X.K RS L))(Q:PE X b (tV X.K RS N)):PE X (.IfExp c a b U) (tV X.K RS<|vIf tc L N):=(Ro T O Q).imp λ_ _ _ q=>by
 f_int;delta vIf at e;f_are
 .rename_i k;refine(A,G,M,S,F,I,_,k,λB H g=>?_);erw[dA];exact(A,G,M,S,B,I.grow g,d,e,λw C J D E=>q w C J (g.trans D) E)
 .rename_i k;refine(A,G,M,S,F,I,_,k,λB H g=>?_);erw[dt,dE];exact(A,G,M,S,B,I.grow g,d,e,λw C J D E=>q w C J (g.trans D) E)
 .k_go
end
end VM
namespace VM
open L2
section
variable {F H A E:Hp}
theorem aJ.cN (h:aJ K H ds xs)(e:L2.cN ds i=#[d]):∃v,L2.cN xs i=#[v]/\Has K H d v:=by
 delta L2.cN at e ⊢;rw[W0 h.length.symm];cases q:pL (!ds) i with
 |none=>rw[q] at e;k_go
 |some j=>rw[q] at e;calc h.at e
theorem aJ.drop (n:Nat)(h:aJ K H ds vs):aJ K H (ds.drop n) (vs.drop n):=aJ.p.2<|(aJ.p.1 h).drop n
theorem aJ.take (n:Nat)(h:aJ K H ds vs):aJ K H (ds.take n) (vs.take n):=aJ.p.2<|(aJ.p.1 h).take n
theorem RM.list (C:Same A E)(r:RM K F H A E (.list ds) v):∃a xs,v=.ref a/\aQ K E a xs/\aJ K A ds xs:=by
 rcases r with⟨a,xs,rfl,h1,h2⟩|⟨B,a,xs,e,rfl,h1,h2⟩
 .exact(a,xs,rfl,C.seq h1,h2)
 .k_go;calc(a,xs,rfl,h1,h2)
theorem RM.tuple (C:Same A E)(r:RM K F H A E (.tuple ds) v):∃a xs,v=.ref a/\bK K E a xs/\aJ K A ds xs:=by
 rcases r with⟨a,xs,rfl,h1,h2⟩|⟨B,a,xs,e,rfl,h1,h2⟩
 .exact(a,xs,rfl,C.oW h1,h2)
 .k_go
def RM.grow (g:bB A E B J)(r:RM K F H A E d v):RM K F H B J d v:=by
 rcases r with r|⟨C,a,D,e,G,h1,h2⟩
 .exact .inl<|Has.same g.ff r
 .calc .inr (C,a,D,e,G,g.hh.seq h1,h2.same g.ff)
end
def aW:()->()->↑()
 |.list A,.int i=>cN A i
 |.tuple A,.int i=>cN A i
 |_,_=>none
section
variable {pos p2:Pos}
def NZ (l:PE X a (tV X.K RM k))(m:PE X b (tV X.K RW g))(o:Ed b∣7):PE X (.Subscript a b pos) (tV X.K RS<|v2 aW k g):=
 (YX (K4.or Ry) l m o).imp λ_ _ Q q=>by
  let(C,G,M,S,F,I,d,e,q):=q;let(x,y,Y,j,e):=qK e;refine(C,G,M,S,F,I,x,Y,λv T t E r=>(C,G,M,S,T,I.grow E,y,j,λu N O J n=>?_));have B:=RM.grow J r;delta aW at e;f_are
  .rename_i U i;have D:=n;let(p,L,rfl,h1,h2):=RM.list J.fh B;let(w,H,A):=aJ.cN h2 e;exact .inl (p,L,i,w,rfl,D,h1,H,q w N O (E.trans J) A)
  .rename_i U i;have D:=n;let(p,L,rfl,h1,h2):=RM.tuple J.fh B;let(w,H,A):=aJ.cN h2 e;exact .inr (p,L,i,w,rfl,D,h1,H,q w N O (E.trans J) A)
  .k_go
inductive Jc (K:Frag)(f:GS->↑(↑Int))(σ:St)(H:Hp)(Q:(↑Int->Hp->Prop)):Prop
 |mk:∀j8 G cQ S F,VI K j8 G cQ S F σ H->∀o,f S=#[o]->(∀F' H',bB F H F' H'->Q o H')->Jc K f σ H Q
def oN:GS->↑(↑Int):=λ_=>#[none]
def oI (f:VE):GS->↑(↑Int):=λS=>match f S with
 |some (.int i)=>#[#[i]]
 |_=>none
def poN:PO X none (Jc X.K oN):=PO.imp WM λ_ H Q q=>by let(A,G,M,S,F,I,o,e,q):=q;cases e;calc q F H<|bB.refl I.sub
def poI (h:PE X e (tV X.K RW f)):PO X #[e] (Jc X.K<|oI f):=PO.imp (uL h) λ_ H Q q=>by
 let(A,G,M,S,F,I,o,e,q):=q;delta oI at e;f_are
 .rename_i i k;k_go;refine(A,G,M,S,F,I,_,k,λv B E g C=>(i,C,q B E g))
 .k_go
def cutD (xs:¬())(lo hi:↑Int):¬():=(xs.drop<|HT.cj (!xs) 0 lo).take<|HT.cj (!xs) (!xs) hi - HT.cj (!xs) 0 lo
def aJ.cut {lo hi:↑Int}(h:aJ K H ds vs):aJ K H (cutD ds lo hi) (uX vs lo hi):=by delta cutD uX;rw[!h];calc aJ.take _<|aJ.drop _ h
def xG (f:VE)(l u:GS->↑(↑Int)):VE:=λS=>match f S,l S,u S with
 |some (.list A),#[lo],#[N]=>#[.list<|cutD A lo N]
 |_,_,_=>none
def Lg (f:VE)(l u:GS->↑(↑Int)):VE:=λS=>match f S,l S,u S with
 |some (.tuple A),#[lo],#[N]=>if HT.cj (!A) 0 lo=0/\HT.cj (!A) (!A) N=!A then none else #[.tuple<|cutD A lo N]
 |_,_,_=>none
variable {lo hi:↑Expr}
def anA (O:PE X e (tV X.K RM f))(T:PO X lo (Jc X.K fl))(U:PO X hi (Jc X.K N)):PE X (.Subscript e (.Slice lo hi none p2) pos) (tV X.K RS<|Lg f fl N):=
 (qG aaS O T U).imp λ_ H Q q=>by
  f_int;delta Lg at e;f_are
  .rename_i n l u k m o;f_are
   .k_go
   .rename_i Y;k_go;refine(A,G,M,S,F,I,_,k,λv E y C j=>(A,G,M,S,E,I.grow C,l,m,λL b J=>(A,G,M,S,L,(I.grow C).grow J,u,o,λt c B=>?_)));let(p,r,rfl,h1,h2):=RM.tuple B.fh<|RM.grow (J.trans B) j;have g:=(C.trans J).trans B;refine(p,r,rfl,h1,by rw[<-!h2];calc Y,λz D=>q _ _ _ (g.trans<|bB.BX B.fh D) (z,_,rfl,bK.of ao,aJ.same (aK<|B.fh.free D)<|aJ.cut h2))
  .k_go
def Ze (f:VE):VE:=λS=>match f S with
 |some (.list A)=>#[.list A.reverse]
 |_=>none
def oX:()->↑()
 |.int i=>#[.int<|-i]
 |_=>none
def v1 (h:()->↑())(f:VE):VE:=λS=>match f S with
 |some x=>h x
 |none=>none
def anB (J:PE X a (tV X.K RW f)):PE X (.UnaryOp .USub a pos) (tV X.K RS<|v1 oX f):=(YD aiu J).imp λ_ H Q q=>by
 f_int;delta v1 at e;f_are
 .rename_i x N;delta oX at e;f_are
  .rename_i i;k_go;refine(A,G,M,S,F,I,_,N,λv B E D L=>?_);have C:=L;subst C;exact q _ B E D rfl
  .k_go
 .k_go
end
abbrev VA:=GS->↑(¬())
inductive Bg (K:Frag)(f:VA)(σ:St)(H:Hp)(Q:(¬V->Hp->Prop)):Prop
 |mk:∀j8 G cQ S F,VI K j8 G cQ S F σ H->∀ds,f S=#[ds]->(∀vs F' H',bB F H F' H'->aJ K F' ds vs->Q vs H')->Bg K f σ H Q
inductive Hl (K:Frag)(f:VA)(σ:St)(H:Hp)(Q:(¬V->Hp->Prop)):Prop
 |mk:∀j8 G cQ S F,VI K j8 G cQ S F σ H->∀ds,f S=#[ds]->(∀vs F' H',bB F H F' H'->aJ K H' ds vs->Q vs H')->Hl K f σ H Q
def a0:VA:=λ_=>#[[]]
def aC (f:VE)(fs:VA):VA:=λS=>match f S with
 |some d=>match fs S with
  |some A=>#[d::A]
  |none=>none
 |none=>none
def Ej (h:aC f fs S=#[ds]):∃d r,f S=#[d]/\fs S=#[r]/\ds=d::r:=by delta aC at h;grind
section
variable {A:Pos}
def nQ:PA X [] (Bg X.K a0):=PA.imp aq λ_ H Q q=>by let(B,G,M,S,F,I,d,e,q):=q;cases e;calc q [] F H (bB.refl I.sub) rfl
def pw0:PA X [] (Hl X.K a0):=PA.imp aq λ_ H Q q=>by let(B,G,M,S,F,I,d,e,q):=q;cases e;calc q [] F H (bB.refl I.sub) rfl
def gV (U:PE X e (tV X.K RS f))(hr:PA X D (Bg X.K fs))(Y:(starEach (e::D) X.env=(false,eval e X.env)::starEach D X.env)∣0):PA X (e::D) (Bg X.K<|aC f fs):=PA.imp (aj U hr Y) λ_ H Q q=>by let(B,G,M,S,F,I,l,e,q):=q;let(d,r,O,T,rfl):=Ej e;calc(B,G,M,S,F,I,d,O,λv E g C j=>(B,G,M,S,E,I.grow C,r,T,λk L N J n=>q _ L N (C.trans J) (v,k,rfl,Has.same J.ff j,n)))
def pwC (U:PE X e (tV X.K RW f))(hr:PA X D (Hl X.K fs))(Y:(starEach (e::D) X.env=(false,eval e X.env)::starEach D X.env)∣0):PA X (e::D) (Hl X.K<|aC f fs):=PA.imp (aj U hr Y) λ_ H Q q=>by let(B,G,M,S,F,I,l,e,q):=q;let(d,r,O,T,rfl):=Ej e;calc(B,G,M,S,F,I,d,O,λv E g C j=>(B,G,M,S,E,I.grow C,r,T,λk L N J n=>q _ L N (C.trans J) (v,k,rfl,Has.same J.hh j,n)))
def fP (fs:VA):VE:=λS=>match fs S with
 |some B=>if (!B)<=1000 then #[.tuple B] else none
 |none=>none
def dD (fs:VA):VE:=λS=>match fs S with
 |some B=>if (!B)<=1000 then #[.list B] else none
 |none=>none
def aa9 (h:fP fs S=#[d]):∃ds,fs S=#[ds]/\(!ds)<=1000/\d=.tuple ds:=by delta fP at h;grind
def abb (h:dD fs S=#[d]):∃ds,fs S=#[ds]/\(!ds)<=1000/\d=.list ds:=by delta dD at h;grind
def dTup {x1}(h:PA X N (Bg X.K fs)):PE X (.Tuple N x1 A) (tV X.K RS<|fP fs):=(mQ h).imp λ_ H Q q=>by let(B,G,M,S,F,I,d,e,q):=q;let(J,L,O,rfl):=aa9 e;refine⟨B,G,M,S,F,I,J,L,λT U Y C E=>⟨by rw[<-!E];calc jp<|Ny O,λp D=>?_⟩⟩;calc q _ _ _ (C.trans<|bB.BX C.fh D) ⟨p,T,rfl,bK.of ao,aJ.same (aK<|C.fh.free D) E⟩
def Ca (h:PA X N (Bg X.K fs)):PE X (.List N A) (tV X.K RN<|dD fs):=(xU h).imp λ_ H Q q=>by let(B,G,M,S,F,I,d,e,q):=q;let(E,L,O,rfl):=abb e;refine⟨B,G,M,S,F,I,E,L,λT U Y C J=>⟨by rw[<-!J];calc jp<|Ny O,λp D=>?_⟩⟩;calc q _ _ _ (C.trans<|bB.alloc C.fh D) ⟨E,p,T,rfl,rfl,C.hh.free D,C.fh.free D,ao,J⟩
end
def CallD (K:Frag)(h:¬()->↑())(r:¬V->Hp->VK->Prop):Prop:=∀H J A d Q,h A=#[d]->aJ K H A J->(∀v,(∀E,Has K E d v)->Q v H)->r J H Q
def cL (h:¬()->↑())(fs:VA):VE:=λS=>match fs S with
 |some A=>h A
 |none=>none
def Bh (L:PE X e (qC r<|Hl X.K fs))(J:CallD X.K h r):PE X e (tV X.K RS<|cL h fs):=L.imp λ_ H Q q=>by
 f_int;delta cL at e;f_are
 .rename_i C T;exact(A,G,M,S,F,I,C,T,λU B E D O=>J E U C d Q e O λv N=>q v B E D<|N B)
 .k_go
def iG:¬()->↑()
 |[.list A]=>#[.int !A]
 |[.tuple A]=>#[.int !A]
 |_=>none
def Ho:¬()->↑()
 |[.int i]=>some<|.int<|if i<0 then -i else i
 |_=>none
open Classical in
def N5 (g:B->())(ds:¬()):↑(¬B):=if h:∃A,A.map g=ds then #[h.choose] else none
def oY {A:¬B}(h:N5 g ds=#[A]):ds=A.map g:=by
 delta N5 at h;by_cases e:∃A:¬B,A.map g=ds
 .rw[dif_pos e] at h;cases h;exact e.choose_spec.symm
 .rw[dif_neg e] at h;cases h
def Ek {A:¬B}{g:B->()}(N:∀a b,g a=g b->a=b):N5 g (A.map g)=#[A]:=by have h:∃E:¬B,E.map g=A.map g:=⟨A,rfl⟩;delta N5;rw[dif_pos h,(List.map_inj_right N).mp h.choose_spec]
abbrev sV:=N5 PyData.int
def jK (ns:¬Int):sV (ns.map PyData.int)=#[ns]:=Ek λ_ _ h=>by cases h;rfl
def Cd:¬()->↑()
 |[.list A]=>match sV A with
  |some ns=>#[.int ns.sum]
  |none=>none
 |_=>none
def eH:¬Int->Int
 |[]=>0
 |[n]=>n
 |n::r=>min n<|eH r
theorem kO:∀{ns:¬Int},ns≠[]->eH ns∈ns/\∀a∈ns,eH ns<=a
 |[n],_=>by simp[eH]
 |n::m::r,_=>by
  let(h1,h2):=kO (ns:=m::r) 's';have e:eH (n::m::r)=min n (eH (m::r)):=rfl;rw[e];refine⟨?_,λa G=>?_⟩
  .by_cases A:n<=eH (m::r)
   .rw[Int.min_eq_left A];exact aa
   .rw[pc ∅];exact ae _ h1
  .rcases aI.mp G with rfl|G
   .exact pr ..
   .calc fg (km ..)<|h2 a G
def minD:¬()->↑()
 |[.list A]=>match sV A with
  |some (n::r)=>#[.int<|eH (n::r)]
  |_=>none
 |_=>none
def rG:¬()->↑()
 |[.int i,.int j]=>some<|.int<|if j<i then j else i
 |_=>none
def Qp:¬()->↑()
 |[.int i,.int j]=>some<|.int<|if j>i then j else i
 |_=>none
def Qq:¬()->↑()
 |[.int i]=>#[.int i]
 |[.bool k]=>some<|.int<|if k then 1 else 0
 |_=>none
section
def aJ.one (h:aJ K H [d] vs):∃v,vs=[v]/\Has K H d v:=by let(v,r,rfl,h1,h2):=h;have U:=h2;rw[U];calc(v,rfl,h1)
def aJ.two (h:aJ K H [d,e] vs):∃v u,vs=[v,u]/\Has K H d v/\Has K H e u:=by let(v,r,rfl,h1,h2):=h;let(u,rfl,J):=aJ.one h2;calc(v,u,rfl,h1,J)
def hLen:CallD K iG (zq K):=by
 intro H J B d Q e A q;delta iG at e;f_are
 .let(v,rfl,a,D,rfl,h1,h2):=aJ.one A;k_go;exact(D,.inl h1,by rw[<-!h2];calc q _ λ_=>rfl)
 .let(v,rfl,a,D,rfl,h1,h2):=aJ.one A;k_go;exact(D,.inr h1,by rw[<-!h2];calc q _ λ_=>rfl)
 .k_go
def anC:CallD K Ho Qm:=by
 intro H J B d Q e A q;delta Ho at e;f_are
 .let(v,rfl,h1):=aJ.one A;have G:=h1;subst G;k_go;exact⟨q _ λ_=>rfl⟩
 .k_go
def aiG:CallD K Cd (Y9 K):=by
 intro H J B d Q e A q;delta Cd at e;f_are
 .f_are
  .rename_i ns C;let(v,rfl,a,D,rfl,h1,h2):=aJ.one A;k_go;rw[oY C] at h2;rw[aJ.ints.mp h2] at h1;exact(ns,h1,q _ λ_=>rfl)
  .k_go
 .k_go
def anD:CallD K minD (Za K):=by
 intro H G E d Q e D q;delta minD at e;f_are
 .f_are
  .rename_i n r B;let(v,rfl,a,I,rfl,h1,h2):=aJ.one D;k_go;rw[oY B] at h2;rw[aJ.ints.mp h2] at h1;refine(n::r,h1,by simp,λM A Y=>?_);let(C,J):=kO (ns:=n::r) 's';have:=ic (Y _ C)<|J _ A;rw[this];exact q _ λ_=>rfl
  .k_go
 .k_go
def akU:CallD K rG (λxs H Q=>∃i j,xs=[.int i,.int j]/\Q (.int<|if j<i then j else i) H):=by
 intro H J B d Q e A q;delta rG at e;f_are
 .rename_i i j;let(v,u,rfl,h1,h2):=aJ.two A;have G:=h1;have D:=h2;subst G D;k_go;exact(i,j,rfl,q _ λ_=>rfl)
 .k_go
end
def Ge:()->String
 |.none=>"NoneType"
 |.bool _=>"bool"
 |.int _=>"int"
 |.str _=>"str"
 |.list _=>"list"
 |.tuple _=>"tuple"
 |.dict _=>"dict"
def mC (T:String)(d:()):↑():=match d with
 |.dict _=>none
 |_=>#[.bool<|Ge d==T||(Ge d=="bool" && T=="int")]
inductive adp (K:Frag)(T:String)(xs:¬V)(H:Hp)(Q:VK):Prop
 |mk:∀x d b,xs=[x,.ty T]->Has K H d x->kitOne K (.type<|Ge d) (.type T)=#[b]->Q (.bl b) H->adp K T xs H Q
def anE:dO X (.builtin "isinstance") (adp X.K T):=by
 intro A s U H l g Q I r h;let(x,d,b,rfl,G,e,q):=h;cases r with
 |cons L O=>
  cases O with
  |cons m O=>
   cases O;rename_i u j;cases(m);have B:∀Y,EP X A U Q (.bool b) {s with toks:=Y}:=λY=>(.bl b,H,I.kept λ_ _ h=>h,rfl,q);cases d with
   |none=>cases(G);cases(L);calc nz PySem.W.kitx_none I.o9 dS e (λz=>nomatch z) B
   |bool y=>cases(G);cases(L);calc nz PySem.W.kitx_bool I.o9 dS e (λz=>nomatch z) B
   |int i=>cases(G);let(t,q):=(L);cases q;calc nz PySem.W.kitx_int I.o9 dS e (λz=>nomatch z) B
   |str y=>cases(G.1);let(t,q):=(L);cases q;calc nz PySem.W.kitx_str I.o9 dS e (λz=>nomatch z) B
   |list E=>
    let(a,N,rfl,h1,_):=G;cases(L);let(D,M,(o,n,C,c,_,_),J):=I.list h1;calc nz PySem.W.kitx_list I.o9 (o,C,c) e (λz=>nomatch z) B
   |tuple E=>
    let(a,N,rfl,h1,_):=G;cases(L);let(D,M,(o,C,c,_),J):=I.tuple h1;calc nz PySem.W.kitx_tuple I.o9 (o,C,c) e (λz=>nomatch z) B
   |dict k=>calc G.elim
structure vf (K:Frag)(T:String):Prop where
 ok:∀d d',mC T d=#[.bool d']->kitOne K (.type<|Ge d) (.type T)=#[d']
def tU (T:String)(f:VE):VE:=v1 (mC T) f
def abd (h:mC T d=#[x]):∃b,x=.bool b:=by cases d<;>first|(simp[mC] at h;done)|(erw[mC,dQ] at h;calc⟨_,h.symm⟩)
def R5 (L:vf X.K T)(D:PE X e (qC (adp X.K T)<|cg (tV X.K RW f)<|cg (tC<|.ty T) cV)):PE X e (tV X.K RS<|tU T f):=D.imp λ_ H Q q=>by
 f_int;delta tU v1 at e;f_are
 .rename_i x N;let(b,rfl):=abd e;exact(A,G,M,S,F,I,x,N,λv B E C J=>(v,x,b,rfl,J,L.ok x b e,q _ B E C rfl))
 .k_go
def nG (f:VE):VE:=λS=>match f S with
 |some (.list A)=>#[.list A]
 |some (.tuple A)=>#[.list A]
 |_=>none
def agK (T:PE X e (qC (BW X.K)<|cg (tV X.K RM f) cV)):PE X e (tV X.K RN<|nG f):=T.imp λ_ H Q q=>by
 let(B,G,M,S,F,I,d,e,q):=q;delta nG at e;f_are
 .rename_i O J;k_go;refine(B,G,M,S,F,I,_,J,λv D N C E=>?_);let(p,L,rfl,h1,h2):=RM.list C.fh E;exact(L,.inl h1,λz A=>q _ D _ (C.trans<|bB.alloc C.fh A) (_,z,_,rfl,rfl,C.hh.free A,C.fh.free A,ao,h2))
 .rename_i O J;k_go;refine(B,G,M,S,F,I,_,J,λv D N C E=>?_);let(p,L,rfl,h1,h2):=RM.tuple C.fh E;exact(L,.inr h1,λz A=>q _ D _ (C.trans<|bB.alloc C.fh A) (_,z,_,rfl,rfl,C.hh.free A,C.fh.free A,ao,h2))
 .k_go
end VM
namespace L2
open PyProof.Rows
section
variable {B t z TI TO C D G H:Addr}
def Zf {Q:Value->Shared->Prop}(I:s.heap.IsTupleIter B t i)(Y:s.heap.IsTuple t J)(j:J[i]? =#[x])(T:∀h',h'.IsTupleIter B t (i+1)->Heap.SameBut B s.heap h'->Q x {s with heap:=h'}):
  (prog\w) A (Builtin.SmallTypes.nextOf<|.ref B) Q E s:=by
 let(o,M,U,L):=id I;let(g,O,_,k,N):=Y;refine ab<|cE I.typeIs fv<|eJ fv I.typeIs m4 ?_<|mE _;show wpAny _ _ (field (.ref B) 0>>=_) _ _ s;refine ab<|ci M L rfl ?_;show wpAny _ _ (if(Value.ref t==Value.none)=true then _ else _) _ _ s;rw[ap<|show Not ((Value.ref t==Value.none)=true) from bn];refine ab<|ci M L rfl ?_;refine ab<|da O N ?_;erw[dq,j];calc ab<|wpAny_setField M L 's' (ax (x,rfl,ax<|T _ ((_,fR _ M<|Obj.isFreed_of_fields<|Obj.data_mapFields L _,(Obj.cls_mapFields ..).trans U,by rw[Obj.data_mapFields L];simp[rawInt])) (Heap.SameBut.update ..)))
def Lh {Q:Value->Shared->Prop}(T:A.handled=none)(I:s.heap.IsTupleIter B t i)(Y:s.heap.IsTuple t J)(j:J[i]? =none)
  (U:∀h' e,Heap.ExtBut B s.heap h'->(∃o,h' e=#[o]/\o.cls=.type "StopIteration")->E (.ref e) {s with heap:=h'}):
  (prog\w) A (Builtin.SmallTypes.nextOf<|.ref B) Q E s:=by
 let(o,M,k,L):=id I;let(l,O,_,g,N):=Y;refine ab<|cE I.typeIs fv<|eJ fv I.typeIs m4 ?_<|mE _;show wpAny _ _ (field (.ref B) 0>>=_) _ _ s;refine ab<|ci M L rfl ?_;show wpAny _ _ (if(Value.ref t==Value.none)=true then _ else _) _ _ s;rw[ap<|show Not ((Value.ref t==Value.none)=true) from bn];refine ab<|ci M L rfl ?_;refine ab<|da O N ?_;erw[dq,j];refine ab (nc (ab (wpAny_setField M L 's' ?_)));refine ab ?_;erw[newExc,newTuple];refine ab (ei ?_ (by size_fits));refine ab (wpAny_of_eq (by first|rfl|(erw[firstArgMember];rfl)) ?_);refine ei ?_ (by size_fits);erw[raiseNew];refine ab<|wpAny_handled ?_;first|rw[show A.in1.handled=none from T]|rw[T]
 calc ab<|ax<|wpAny_throw<|U _ _ (((Heap.SameBut.update ..).extBut.push _).push _) (_,bj _ rfl,rfl)
end
def Ce (b:Bool)(K:Frag)(H:Hp)(a:Addr)(xs:¬V):Prop:=if b=true then bK K H a xs else aQ K H a xs
def uh (b:Bool)(h:Heap)(i l:Addr)(k:Nat):Prop:=if b=true then h.IsTupleIter i l k else h.IsListIter i l k
def Cg (b:Bool)(h:Heap)(l:Addr)(xs:Array Value):Prop:=if b=true then h.IsTuple l xs else h.IsList l xs
section
variable {h h':Heap}
theorem uh.at (x:uh b h i l k)(q:∀o,h i=#[o]->h' i=#[o]):uh b h' i l k:=by
 cases b with
 |true=>calc Heap.IsTupleIter.at x q
 |false=>calc Heap.IsListIter.at x q
theorem Cg.at (x:Cg b h l xs)(q:∀o,h l=#[o]->h' l=#[o]):Cg b h' l xs:=by
 cases b with
 |true=>calc Heap.IsTuple.at x q
 |false=>calc Heap.IsList.at x q
def uh.obj (x:uh b h i l k):∃o,h i=#[o]/\∀v,o.data≠ .cell v:=by
 cases b with
 |true=>let(o,e,_,g):=(show h.IsTupleIter i l k from x);calc⟨o,e,λv q=>by rw[g] at q;cases q⟩
 |false=>let(o,e,_,g):=(show h.IsListIter i l k from x);calc⟨o,e,λv q=>by rw[g] at q;cases q⟩
end
def akV {Q:Value->Shared->Prop}(C:uh b s.heap D t i)(U:Cg b s.heap t B)(H:B[i]? =#[x])(G:∀h',uh b h' D t (i+1)->Heap.SameBut D s.heap h'->Q x {s with heap:=h'}):
  (prog\w) A (Builtin.SmallTypes.nextOf<|.ref D) Q E s:=by
 cases b with
 |true=>calc Zf C U H G
 |false=>calc gd C U H G
def abe {Q:Value->Shared->Prop}(H:A.handled=none)(C:uh b s.heap G t i)(U:Cg b s.heap t B)(D:B[i]? =none)
  (L:∀h' e,Heap.ExtBut G s.heap h'->(∃o,h' e=#[o]/\o.cls=.type "StopIteration")->E (.ref e) {s with heap:=h'}):
  (prog\w) A (Builtin.SmallTypes.nextOf<|.ref G) Q E s:=by
 cases b with
 |true=>calc Lh H C U D L
 |false=>calc pe H C U D L
section
variable {B t z TI TO C G H I:Addr}
def adq {Q:Value->Shared->Prop}(D:ZipApart z TI TO C G H I)(hz:IsZip s.heap z TI TO .none)(hTI:IsPair s.heap TI (.ref C) (.ref G))(hTO:IsPair s.heap TO a b)
  (h1:uh kd s.heap C H k1)(h2:s.heap.IsListIter G I k2)(hl1:Cg kd s.heap H xs)(hl2:s.heap.IsList I ys)(hx:xs[k1]? =#[x])(hy:ys[k2]? =#[y])
  (hQ:∀h',IsZip h' z TI TO (rawInt (~~~s))->IsPair h' TO x y->uh kd h' C H (k1+1)->h'.IsListIter G I (k2+1)->IsPair h' (~~~s) x y->
   (∀c o,c≠z->c≠TO->c≠C->c≠G->s.heap c=#[o]->h' c=#[o])->Q (.ref (~~~s)) {s with heap:=h'}):
  (prog\w) A (Builtin.«zip.__next__» ⟨[.ref z],[]⟩) (λfin s'=>∃v,fin=.done (.ret v)/\Q v s') E s:=by
 show wpAny _ _ (field (.ref z) 2>>=_) _ _ _;refine ab (ci hz rfl rfl ?_);refine ab (ci hz rfl rfl ?_);refine ab (da hTI rfl ?_);refine ab ?_;refine ab (ci hz rfl rfl (ax ?_));erw[dA];refine ab (nc ?_);refine ab (ci hz rfl rfl ?_);refine ab (eQ hz 's' λY4 k J=>?_);replace k:IsZip Y4 z TI TO .ellipsis:=k;refine ab ?_;erw[o0,pj,iN,forIn_nil];refine ab (ab (nX ?_));refine ab (akV (h1.at λo e=>J.extBut _ o D.i1z e) (hl1.at λo e=>J.extBut _ o D.l1z e) hx λh₂ i L=>ax ?_);have l:=L.extBut _ _ D.TOi1 (J.extBut _ _ D.TOz hTO);refine ab (da l rfl ?_);refine ab (wpAny_updateSeq_pair l λanF Y M=>?_);replace Y:IsPair anF TO x b:=Y;refine ab (wpAny_letGo (ax ?_));refine ab (ab (nX ?_));refine ab (gd (((h2.extBut J.extBut D.i2z).extBut L.extBut D.i12.symm).extBut M.extBut D.TOi2.symm)
  (((hl2.extBut J.extBut D.l2z).extBut L.extBut D.l2i1).extBut M.extBut D.l2TO) hy λh₄ h O=>ax ?_)
 have m:=O.extBut _ _ D.TOi2 Y;refine ab<|da m rfl ?_;refine ab<|wpAny_updateSeq_pair m λU N T=>?_;replace N:IsPair U TO x y:=N;refine ab<|wpAny_letGo<|ax<|ax ?_;refine ab<|da N rfl ?_;refine ab<|wpAny_newTuple ?_;have hsz:U.objs.size= ~~~s:=by rw[T.1,O.1,M.1,L.1,J.1]
 have u:=T.extBut _ _ D.TOz.symm (O.extBut _ _ D.i2z.symm (M.extBut _ _ D.TOz.symm (L.extBut _ _ D.i1z.symm k)));have akW:∀c o,c≠z->c≠TO->c≠C->c≠G->s.heap c=#[o]->U c=#[o]:=λc o n c2 c3 c4 e=>
  T.extBut _ _ c2 (O.extBut _ _ c4<|M.extBut _ _ c2<|L.extBut _ _ c3<|J.extBut _ _ n e)
 have f:=bX u;refine ab ?_;have akX:IsZip (U.push {cls:=.type "tuple",data:=.seq #[x,y]}) z TI TO .ellipsis:=ay _ u;refine ab (eQ akX 's' λanG g q=>?_);replace g:IsZip anG z TI TO (rawInt U.objs.size):=g;refine eQ g 's' λd j r=>?_;replace j:IsZip d z TI TO (rawInt U.objs.size):=j;have up:∀c o,c≠z->U c=#[o]->d c=#[o]:=λc o n e=>r.extBut _ _ n<|q.extBut _ _ n<|ay _ e;have p:=r.extBut _ _ (kw f)<|q.extBut _ _ (kw f)<|bj _ rfl;rw[hsz] at j p;refine ax (_,rfl,?_);rw[hsz];calc hQ d j (up _ _ D.TOz N) (i.at λo e=>up _ o D.i1z<|T.extBut _ o D.TOi1.symm (O.extBut _ o D.i12<|M.extBut _ o D.TOi1.symm e)) ((h.extBut T.extBut D.TOi2.symm).at λo e=>up _ o D.i2z e) p λc o n c2 c3 c4 e=>up c o n<|akW c o n c2 c3 c4 e
def agL {Q:Fin->Shared->Prop}(v:A.handled=none)(D:ZipApart z TI TO C G H I)(U:IsZip s.heap z TI TO .none)(g:IsPair s.heap TI (.ref C) (.ref G))
  (h1:uh d s.heap C H b)(m:Cg d s.heap H xs)(y:xs[b]? =none)
  (r:∀h' e,(∀c o,c≠z->c≠C->s.heap c=#[o]->h' c=#[o])->(∃o,h' e=#[o]/\o.cls=.type "StopIteration")->E (.ref e) {s with heap:=h'}):
  (prog\w) A (Builtin.«zip.__next__» ⟨[.ref z],[]⟩) Q E s:=by
 show wpAny _ _ (field (.ref z) 2>>=_) _ _ _;refine ab<|ci U rfl rfl ?_;refine ab<|ci U rfl rfl ?_;refine ab<|da g rfl ?_;refine ab ?_;refine ab<|ci U rfl rfl<|ax ?_;erw[dA];refine ab<|nc ?_;refine ab<|ci U rfl rfl ?_;refine ab (eQ U 's' λY k J=>?_);replace k:IsZip Y z TI TO .ellipsis:=k;refine ab ?_;erw[o0,pj,iN,forIn_nil];refine ab<|ab<|nX ?_;refine ab<|abe v (h1.at λo e=>J.extBut _ o D.i1z e) (m.at λo e=>J.extBut _ o D.l1z e) y λp e L u=>?_;let(f,O,T):=u;have N:=L _ _ D.i1z.symm k;have l:e≠z:=λx=>by subst x;rw[N] at O;cases O;simp at T
 calc eQ N 's' λj _ M=>r j e (λc o n q x=>M.extBut _ _ n<|L _ _ q<|J.extBut _ _ n x) (f,M.extBut _ _ l O,T)
def adt {Q:↑Value->Shared->Prop}(D:ZipApart z TI TO C G H I)(M:IsZip s.heap z TI TO .none)(g:IsPair s.heap TI (.ref C) (.ref G))(J:IsPair s.heap TO a b)
  (h1:uh d s.heap C H N)(h2:s.heap.IsListIter G I O)(m:Cg d s.heap H xs)(L:s.heap.IsList I ys)(r:xs[N]? =#[x])(n:ys[O]? =#[y])
  (q:∀h',IsZip h' z TI TO (rawInt (~~~s))->IsPair h' TO x y->uh d h' C H (N+1)->h'.IsListIter G I (O+1)->IsPair h' (~~~s) x y->
   (∀c o,c≠z->c≠TO->c≠C->c≠G->s.heap c=#[o]->h' c=#[o])->Q #[.ref (~~~s)] {s with heap:=h'}):(prog\w) A (pyNext (.ref z)) Q E s:=by
 have U:s.TypeIs (.ref z) "zip":=(_,M,rfl);exact ab (ko (cE U eg (eJ eg U iL
  (adq D M g J h1 h2 m L r n λh' T Y j k l p=>ax (q h' T Y j k l p)) (ie _))))
def R6 {Q:↑Value->Shared->Prop}(N:A.handled=none)(D:ZipApart z TI TO C G H I)(J:IsZip s.heap z TI TO .none)(g:IsPair s.heap TI (.ref C) (.ref G))
  (h1:uh d s.heap C H b)(m:Cg d s.heap H xs)(j:xs[b]? =none)
  (L:∀h',(∀c o,c≠z->c≠C->s.heap c=#[o]->h' c=#[o])->Q none {s with heap:=h'}):(prog\w) A (pyNext<|.ref z) Q E s:=by
 have U:s.TypeIs (.ref z) "zip":=(_,J,rfl);refine ab<|ko<|cE U eg<|eJ eg U iL (agL N D J g h1 m j λh' e T M=>?_)<|ie _;let(o,Y,O):=M;calc ab<|wpAny_isInstance (o,Y,O) isSubtype_stop<|ax<|L _ T
end
abbrev Zg (h:Heap)(G:Addr):Heap:=h.push {cls:=.type "tuple_iterator",data:=.fields #[.ref G,.int 0 0]}
abbrev Zh (h:Heap)(G H:Addr):Heap:=(Zg h G).push {cls:=.type "list_iterator",data:=.fields #[.ref H,.int 0 0]}
abbrev Zi (h:Heap)(G H:Addr):Heap:=(Zh h G H).push {cls:=.type "tuple",data:=.seq #[.ref h.objs.size,.ref (Zg h G).objs.size]}
abbrev Zj (h:Heap)(G H:Addr):Heap:=(Zi h G H).push {cls:=.type "tuple",data:=.seq #[.none,.none]}
abbrev Li (h:Heap)(G H:Addr):Heap:=(Zj h G H).push {cls:=.type "zip",data:=.fields #[.none,.bool false,.bool false,.ref (Zh h G H).objs.size,.ref (Zi h G H).objs.size]}
def adu (G H:Addr)(xs ys:Array Value):
  Meets (Builtin.«zip.__new__» ⟨[.type "zip",.ref G,.ref H],[]⟩) (λ_ R s=>s.heap.IsTuple G xs/\s.heap.IsList H ys/\
   R (.ok (.ret (.ref (Zj s.heap G H).objs.size))) {s with heap:=Li s.heap G H}):=
 .of_wp λD w A R s h=>by
  let(E,g,d,Y,os):=s;let(m,L,h):=h;have C:=sub_zip;have B:Heap.IsList (Shared.heap (E.push {cls:=.type "tuple_iterator",data:=.fields #[.ref G,.int 0 0]},g,d,Y,os)) H ys:=Heap.IsList.push L _
  wp_walk using wpAny_pyIter_tuple m,kP B
  calc(_,rfl,h)
section
variable {s:Shared}
def agM {G H:Addr}{xs ys:Array Value}{Q:Value->Shared->Prop}(m:s.heap.IsTuple G xs)(L:s.heap.IsList H ys)
  (h:∀h',IsZip h' (~~~s+4) (~~~s+2) (~~~s+3) .none->IsPair h' (~~~s+2) (.ref (~~~s)) (.ref (~~~s+1))->
   IsPair h' (~~~s+3) .none .none->h'.IsTupleIter (~~~s) G 0->h'.IsListIter (~~~s+1) H 0->(∀c o,s.heap c=#[o]->h' c=#[o])->Q (.ref (~~~s+4)) {s with heap:=h'}):
  (prog\w) A (call (.type "zip") [.ref G,.ref H]) Q E s:=by
 refine callType_new F.called_zip ⋯ (F.typeCall_zip_2 _ _) (F.newCall_zip_2 _ _) (λD=>F.args_object_init_3 D _ _) F.entry_zip_new (adu G H xs ys) ⟨m,L,?_⟩;have I:(Zg s.heap G).objs.size= ~~~s+1:=kQ ..;have j:(Zh s.heap G H).objs.size= ~~~s+2:=by rw[kQ,I]
 have J:(Zi s.heap G H).objs.size= ~~~s+3:=by rw[kQ,j]
 have O:(Zj s.heap G H).objs.size= ~~~s+4:=by rw[kQ,J]
 have B:∀{h:Heap}{c:Addr} {o U:Obj},h c=#[o]->(h.push U) c=#[o]:=λe=>ay _ e;have C:(Li s.heap G H) (Zj s.heap G H).objs.size=#[_]:=bj _ rfl;have N:(Li s.heap G H) (Zi s.heap G H).objs.size=#[_]:=B<|bj _ rfl;have l:(Li s.heap G H) (Zh s.heap G H).objs.size=#[_]:=B<|B<|bj _ rfl;have M:(Li s.heap G H) (Zg s.heap G).objs.size=#[_]:=B<|B<|B<|bj _ rfl;have T:(Li s.heap G H) (~~~s)=#[_]:=B<|B<|B<|B<|bj _ rfl;rw[j,J,O] at C;rw[I,j] at l;rw[J] at N;rw[I] at M;rw[O];calc⟨(_,C,rfl),h _ C l N (_,T,rfl,rfl) (_,M,rfl,rfl) λc o x=>B<|B<|B<|B<|B x⟩
end
def agN {s:Shared}{G H:Addr}{xs ys:Array Value}{Q:Value->Shared->Prop}(m:Cg d s.heap G xs)(L:s.heap.IsList H ys)
  (h:∀h',IsZip h' (~~~s+4) (~~~s+2) (~~~s+3) .none->IsPair h' (~~~s+2) (.ref (~~~s)) (.ref (~~~s+1))->
   IsPair h' (~~~s+3) .none .none->uh d h' (~~~s) G 0->h'.IsListIter (~~~s+1) H 0->(∀c o,s.heap c=#[o]->h' c=#[o])->Q (.ref (~~~s+4)) {s with heap:=h'}):
  (prog\w) A (call (.type "zip") [.ref G,.ref H]) Q E s:=by
 cases d with
 |true=>calc agM m L h
 |false=>calc call_zip_2 m L λh' C J l N B _ M=>h h' C J l N B M
def Inv.adv (I:Inv X B C H s)(h:Ce d X.K H a xs):∃A,Vals xs A/\Cg d s.heap a A.toArray:=by
 cases d with
 |true=>let(A,G,p,_):=I.tuple h;calc⟨A,G,p⟩
 |false=>let(A,G,p,_):=I.list h;calc⟨A,G,p.isList⟩
def Inv.adw (I:Inv X A B H s)(h:Ce d X.K H a xs)(h':Ce d X.K H a ys):xs=ys:=by
 cases d with
 |true=>calc I.Nj h h'
 |false=>calc I.yX h h'
def Itx (K:Frag)(d:Bool)(a b:Addr):It:=
  (λi H=>∃D x A y,Ce d K H a D/\D[i]? =#[x]/\aQ K H b A/\A[i]? =#[y],
   λi H v E=>∃p x y,H p=none/\v=.ref p/\(∀D,Ce d K H a D->D[i]? =#[x])/\(∀A,aQ K H b A->A[i]? =#[y])/\E=upd H p (.tup [x,y]),
   λi H=>∃D A,Ce d K H a D/\aQ K H b A/\(!D)<=i)
def anH (C:Bool)(z TI TO A B a b:Addr)(i:Nat)(h:Heap):Prop:=
 IsZip h z TI TO .none/\IsPair h TI (.ref A) (.ref B)/\(∃c d,IsPair h TO c d)/\uh C h A a i/\h.IsListIter B b i
def agO {P:Program}{w:World}{K:Frag}{N:¬Expr}{k:Nat}{pos:Pos}(a b z TI TO G L:Addr)(D:ZipApart z TI TO G L a b):
  Turn P w K (.Tuple N k pos) (Itx K kd a b) [z,TI,TO,G,L] z (anH kd z TI TO G L a b) where
 mem:=by simp
 obj:=λi h st c O=>by
  let(E,g,(n,d,J),M,(o2,f,_,g2)):=st;erw[aI,hV,ip] at O;rcases O with rfl|rfl|rfl|rfl|rfl
  .exact(_,E,λv q=>by have T:Data.fields _=Data.cell v:=q;cases T)
  .exact(_,g,λv q=>by have T:Data.seq _ _=Data.cell v:=q;cases T)
  .exact(_,J,λv q=>by have T:Data.seq _ _=Data.cell v:=q;cases T)
  .exact M.obj
  .exact(o2,f,λv q=>by rw[g2] at q;cases q)
 keep:=λi h h' st k=>by let(E,g,(n,d,J),h1,h2):=st;exact(k z 's' _ E,k TI 's' _ g,(n,d,k TO 's' _ J),h1.at λo e=>k G 's' o e,h2.at λo e=>k L 's' o e)
 item:=by
  intro X hP hw hK i Q s σ H I j st hg;subst hP hw hK;let(xs,x,ys,y,m,hx,C,hy):=hg;let(its,rv,p):=I.adv m;let(u,hu,ru):=rv.get hx;let(its2,rv2,p2,hz2):=I.list C;let(t,hu2,ru2):=rv2.get hy;let(Y,B,(n,d,U),M,s2):=st;refine adt D Y B U M s2 p p2.isList (x:=u) (y:=t) ‹hu› ‹hu2› λh' a1 a2 a3 a4 a5 l=>?_;refine(_,rfl,wpAny_letOwnedTupleGo_zip a1 λh2 he2 A=>?_);have lt:∀{c:Addr}{o:Obj},s.heap c=#[o]->c≠s.heap.objs.size:=λe=>cw (bX e);have hT2:IsPair h2 (~~~s) u t:=(A.2 _ (lt Y).symm).trans a5;refine(.ref (~~~s),upd H (~~~s) (.tup [x,y]),?_,rfl,(_,x,y,I.hok.fresh (av _),rfl,λzs E=>by rwa [I.adw E m],λzs E=>by rwa [I.yX E C],rfl),
   (he2,(A.2 _ D.TIz).trans (l _ _ D.TIz D.TITO D.TIi1 D.TIi2 B),(u,t,(A.2 _ D.TOz).trans a2),a3.at λo q=>(A.2 G D.i1z).trans q,a4.at λo q=>(A.2 L D.i2z).trans q),λc O=>?_)
  .refine I.K7 (fp:=[z,TI,TO,G,L]) (t':=s.toks) (λc o O q=>?_) j (av _) (by show 2<=sizeLine;decide,[u,t],.cons ru<|.cons ru2 .nil,(_,hT2,rfl,_,rfl));erw[aI,hV,ip,not_or] at O;let(r,n2,n3,n4,n5):=O;exact(A.2 c r).trans<|l c o r n3 n4 n5 q
  .have hne:c≠s.heap.objs.size:=by
    erw[aI,hV,ip] at O;let(_,e1,_):=M.obj;let(_,f,_):=s2;rcases O with rfl|rfl|rfl|rfl|rfl
    .exact lt Y
    .exact lt B
    .exact lt U
    .exact lt e1
    .exact lt f
   rw[au hne];exact(j c O).1
 done:=by intro X hP hw hK i Q s σ H I j st hg;subst hP hw hK;let(xs,ys,m,C,hx):=hg;let(its,rv,p):=I.adv m;have hl:=!rv;let(Y,B,_,M,_):=st;refine R6 I.ok.hd D Y B M p (by simp;lk) λh' l=>⟨rfl,I.turns (t':=s.toks) (fp:=[z,TI,TO,G,L]) (λc o O q=>?_) j⟩;erw[aI,hV,ip,not_or] at O;let(r,n2,n3,n4,n5):=O;exact l c o r n4 q
 self:=λ_ _ _ _ _ st h=>lp st.1 h
section
variable {A:TA}
def iZt (K:Frag)(A:TA):TI:=λC H R=>A C H λJ E=>∃d a b,J=[.ref a,.ref b]/\(∃D,Ce d K E a D)/\(∃B,aQ K E b B)/\R (Itx K d a b) E
def akY {T:Pos}(n:Gl X "zip")(x:X.mg "zip"=none)(f:PA X [l,E] A)(hs:(starEach [l,E] X.env=[(false,eval l X.env),(false,eval E X.env)])∣0)(C:(starEach [E] X.env=[(false,eval E X.env)])∣0):
  PI X (.Tuple Y k T) (.Call (.Name "zip" p) [l,E] [] Q) (iZt X.K A):=by
 intro G s σ H R I h;refine Call_ (sG I n x boot_zip (cy (aV (f Q G s σ H _ I h) λus O (vs,u,D,r1,q1)=>?_) (by rw[hs,C]) (by rw[C];rfl)));let(kd,a,b,e,(xs,i),(ys,L),q):=q1;subst e;cases r1 with
 |cons r U=>
  cases U with
  |cons r2 U=>
   cases U;cases r;cases r2;let(its,rv,t):=D.adv i;let(m,rv2,J,hz2):=D.list L;have M:a< ~~~O:=by cases kd<;>(let(o,e,_):=t;calc bX e)
   have N:b< ~~~O:=by let(o,e,_):=J.isList;exact bX e
   refine agN t J.isList λh' j v y z d w=>?_;refine lp j ?_;refine(_,[~~~O+4,~~~O+2,~~~O+3,~~~O,O.heap.objs.size+1],_,_,u,rfl,D.kept w,agO a b _ _ _ _ _<|zipApart_new M N,(j,v,(_,_,y),z,d),λc g=>?_,q);have B: ~~~O<=c:=by
    erw[aI,hV,ip] at g;rcases g with rfl|rfl|rfl|rfl|rfl
    .exact fq _ _
    .exact fq _ _
    .exact fq _ _
    .exact av _
    .exact fq _ _
   calc D.Bv B<|D.hok.fresh B
end
end L2
namespace VM
open L2
abbrev dX:=¬()->↑(Bool×())
def RB:Bool->Rel
 |true=>RN
 |false=>RS
inductive aiJ (K:Frag)(m:dX)(vs:¬V)(H:Hp)(Q:VK):Prop
 |mk:∀G ds,Same G H->aJ K G ds vs->∀b d,m ds=#[(b,d)]->(∀v F' H',bB G H F' H'->RB b K G H F' H' d v->Q v H')->aiJ K m vs H Q
def N6 (K:Frag)(m:dX):Sp:=λJ H Q=>aiJ K m J H Q
def bF (m:dX)(fs:VA):VE:=λS=>match fs S with
 |some A=>match m A with
  |some (_,d)=>#[d]
  |none=>none
 |none=>none
def yg (m:dX)(fs:VA):VE:=λS=>match fs S with
 |some A=>match m A with
  |some (true,d)=>#[d]
  |_=>none
 |none=>none
def Hq:Bool->()->Bool
 |true,.list A=>mU A
 |true,_=>false
 |false,d=>sU d
def vg (m:dX)(fs:VA):VE:=λS=>match fs S with
 |some A=>match m A with
  |some (b,d)=>if Hq b d=true then #[d] else none
  |none=>none
 |none=>none
def W3 (m:dX)(fs:VA):VE:=λS=>match fs S with
 |some A=>match m A with
  |some (true,.list D)=>if mU D=true then #[.list D] else none
  |_=>none
 |none=>none
section
variable {fs:VA}
def qL (T:PE X e (jH (N6 X.K m)<|Bg X.K fs)):PE X e (tV X.K RS<|bF m fs):=T.imp λ_ H Q q=>by
 let(B,G,M,S,F,I,d,e,q):=q;delta bF at e;f_are
 .rename_i D Y;f_are
  .rename_i b o k;k_go;refine(B,G,M,S,F,I,D,Y,λp N l C U=>?_);refine(N,D,C.fh,U,b,_,k,λv L E g J=>?_);cases b with
   |false=>calc q v L E (C.trans g) J
   |true=>let(A,O,j):=RN.gO g J;exact q v A E (C.trans O) j
  .k_go
 .k_go
def akZ (U:PE X e (jH (N6 X.K m)<|Bg X.K fs)):PE X e (tV X.K RN<|yg m fs):=U.imp λ_ H Q q=>by
 f_int;delta yg at e;f_are
 .rename_i B l;f_are
  .rename_i t o;k_go;refine(A,G,M,S,F,I,B,l,λu E r C j=>?_);refine(E,B,C.fh,j,true,_,o,λv D J g Y=>?_);let(L,a,p,h1,h2,N,O,k,T):=Y;exact q v D J (C.trans g) (L,a,p,h1,h2,C.hh.free N,O,k,T)
  .k_go
 .k_go
def ak0 (l:PE X e (jH (N6 X.K m)<|Hl X.K fs)):PE X e (tV X.K RS<|vg m fs):=l.imp λ_ H Q q=>by
 let(B,G,M,S,F,I,d,e,q):=q;delta vg at e;f_are
 .rename_i D p;f_are
  .rename_i b c r;f_are
   .rename_i N;k_go;refine(B,G,M,S,F,I,D,p,λn z T C o=>?_);refine(T,D,Same.refl _,o,b,_,r,λv y E g O=>?_);have J:=NP (g.hh,Same.refl _,C.fh.trans g.hh,λ_ _ e=>.inl e);cases b with
    |false=>calc q v _ E (C.trans J)<|G9 N<|Has.same g.fh O
    |true=>let(U,a,u,rfl,h2,L,f,k,j):=O;let(A,Y,t):=RN.gO J (U,a,u,rfl,h2,L,aa6 k<|C.fh.free L,k,BZ N<|j.same g.fh);exact q v A E (C.trans Y) t
   .k_go
  .k_go
 .k_go
end
structure Lj (K:Frag)(F:Hp)(J:It)(ds:¬()):Prop where
 go:∀(i:Nat) d F' H',ds[i]? =#[d]->Same F F'->Same F' H'->J.go i H'/\∀x Bj,J.yld i H' x Bj->∃F'',bB F' H' F'' Bj/\Has K F'' d x
 stop:∀(i:Nat) F' H',(!ds)<=i->Same F F'->Same F' H'->J.stop i H'
inductive vh (K:Frag)(f:VA)(σ:St)(H:Hp)(R:(It->Hp->Prop)):Prop
 |mk:∀j8 G cQ S F,VI K j8 G cQ S F σ H->∀ds,f S=#[ds]->(∀J F' H',bB F H F' H'->Lj K F' J ds->R J H')->vh K f σ H R
def cP (f:VE):VA:=λS=>match f S with
 |some (.list A)=>#[A]
 |_=>none
def qM (f:VE):VA:=λS=>match f S with
 |some (.tuple A)=>#[A]
 |_=>none
def jL (lo:Int)(n:Nat):¬():=(List.range n).map λ(i:Nat)=>PyData.int<|lo+i
def uw (fs:VA):VA:=λS=>match fs S with
 |some [.int j]=>@ite _ (-(2^62)<=j/\j<2^62) (Classical.propDecidable _) (#[jL 0 j.toNat]) none
 |_=>none
def Qs (fs:VA):VA:=λS=>match fs S with
 |some [.int i,.int j]=>@ite _ ((-(2^62)<=i/\i<2^62)∧-(2^62)<=j/\j<2^62) (Classical.propDecidable _) (#[jL i (j - i).toNat]) none
 |_=>none
def oK:Nat->¬()->¬()
 |_,[]=>[]
 |i,d::r=>.tuple [.int i,d]::oK (i+1) r
theorem N7:∀(k:Nat) (ds:¬()) (i:Nat),(oK k ds)[i]? =ds[i]?.map λd=>.tuple [.int ((k+i:Nat):Int),d]
 |_,[],_=>by simp[oK]
 |k,d::r,0=>by simp[oK]
 |k,d::r,i+1=>by erw[oK,kq];rw[N7 (k+1) r i];lk
def R7 (k:Nat)(ds:¬()):(!(oK k ds))=!ds:=by
 induction ds generalizing k with
 |nil=>rfl
 |cons d r A=>simp[oK,A]
def tW (ds D:¬()):¬():=List.zipWith (λa b=>PyData.tuple [a,b]) ds D
def zF (fs:VA):VA:=λS=>match fs S with
 |some [.list A]=>#[oK 0 A]
 |_=>none
def Zk:()->↑(Bool×¬())
 |.tuple A=>#[(true,A)]
 |.list A=>#[(false,A)]
 |_=>none
def Ci (fs:VA):VA:=λS=>match fs S with
 |some [d,.list D]=>(match Zk d with
  |some (_,A)=>if (!A)<=!D then #[tW A D] else none
  |none=>none)
 |_=>none
section
variable {k:Nat}
def abg (h1:aQ K F a xs)(h2:aJ K F ds xs):Lj K F (FZ K a) ds where
 go:=λi d B E e J A=>by let(v,G,M):=h2.at e;have T:=(J.trans A).seq h1;refine⟨(xs,v,T,G),λx C y=>?_⟩;let(D,y):=y;subst D;have:=y xs T;rw[G] at this;cases this;exact(B,bB.refl A,Has.same J M)
 stop:=λi B E e J A=>(xs,(J.trans A).seq h1,by rwa [<-!h2])
def adx (h1:bK K F a xs)(h2:aJ K F ds xs):Lj K F (Itt K a) ds where
 go:=λi d B E e J A=>by let(v,G,M):=h2.at e;have T:=(J.trans A).oW h1;refine⟨(xs,v,T,G),λx C y=>?_⟩;let(D,y):=y;subst D;have:=y xs T;rw[G] at this;cases this;exact(B,bB.refl A,Has.same J M)
 stop:=λi B E e J A=>(xs,(J.trans A).oW h1,by rwa [<-!h2])
def ady {lo:Int}:Lj K F (Itr lo n) (jL lo n) where
 go:=λi d A E e J B=>by
  delta jL at e;rw[ai] at e;by_cases N:i<n
  .rw[gc N] at e;k_go;refine⟨N,λx C y=>?_⟩;let(D,G):=y;subst D G;exact(A,bB.refl B,rfl)
  .rw[bg (by simp;lk)] at e;k_go
 stop:=λi A E e J B=>by delta jL at e;show n<=i;simpa using e
def abh (h1:aQ K F a xs)(h2:aJ K F ds xs):Lj K F (Ite K a) (oK 0 ds) where
 go:=λi d B E e J A=>by
  rw[N7] at e;cases q:ds[i]? with
  |none=>rw[q] at e;k_go
  |some O=>rw[q] at e;k_go;let(v,G,M):=h2.at q;have T:=(J.trans A).seq h1;refine⟨(xs,v,T,G),λx D y=>?_⟩;let(j,z,L,H,N,I):=y;subst H I;have:=N xs T;rw[G] at this;cases this;have C:bB B E (upd B j<|.tup [.int (i:Int),v]) (upd E j<|.tup [.int (i:Int),v]):=bB.BX A L;refine(_,C,j,_,rfl,bK.of ao,_,_,rfl,?_,_,_,rfl,Has.same (J.trans C.ff) M,rfl);show V.int (i:Int)=V.int ((0+i:Nat):Int);rw[ii]
 stop:=λi B E e J A=>(xs,(J.trans A).seq h1,by rw[<-!h2];rw[R7] at e;calc e)
def sqb (e:Same H E)(h:Ce d K H a xs):Ce d K E a xs:=by
 cases d with
 |true=>calc e.oW h
 |false=>calc e.seq h
def adz (h1:Ce r K F a xs)(h2:aJ K F ds xs)(L:aQ K F b ys)(g:aJ K F D ys)(n:(!ds)<=!D):Lj K F (Itx K r a b) (tW ds D) where
 go:=λi d B E e J A=>by
  delta tW at e;rw[List.getElem?_zipWith] at e;cases q:ds[i]? with
  |none=>lk
  |some t=>
   cases M:D[i]? with
   |none=>lk
   |some c=>rw[q,M] at e;k_go;let(v,I,m):=h2.at q;let(u,H,f):=g.at M;have T:=sqb (J.trans A) h1;have C:=(J.trans A).seq L;refine⟨(xs,v,ys,u,T,I,C,H),λx Q y=>?_⟩;let(j,z,w,l,U,p,o,Y):=y;subst U Y;have N:=p xs T;have O:=o ys C;rw[I] at N;rw[H] at O;cases N;cases O;have G:bB B E (upd B j<|.tup [v,u]) (upd E j<|.tup [v,u]):=bB.BX A l;exact(_,G,j,_,rfl,bK.of ao,_,_,rfl,Has.same (J.trans G.ff) m,_,_,rfl,Has.same (J.trans G.ff) f,rfl)
 stop:=λi B E e J A=>by delta tW at e;rw[nS] at e;calc(xs,ys,sqb (J.trans A) h1,(J.trans A).seq L,by rw[<-!h2];lk)
def itL (N:PE X l (tV X.K RS f)):PI X O l (vh X.K<|cP f):=PI.imp (iM N) λ_ H Q q=>by
 let(A,G,M,S,F,I,L,e,q):=q;delta cP at e;f_are
 .rename_i J;k_go;refine(A,G,M,S,F,I,_,J,λv B E g C=>?_);let(a,D,rfl,h1,h2):=C;exact(a,rfl,⟨D,g.fh.seq h1⟩,q _ B E g<|abg h1 h2)
 .k_go
def itT (N:PE X l (tV X.K RS f)):PI X O l (vh X.K<|qM f):=PI.imp (Rq N) λ_ H Q q=>by
 let(A,G,M,S,F,I,L,e,q):=q;delta qM at e;f_are
 .rename_i J;k_go;refine(A,G,M,S,F,I,_,J,λv B E g C=>?_);let(a,D,rfl,h1,h2):=C;exact(a,rfl,⟨D,g.fh.oW h1⟩,q _ B E g<|adx h1 h2)
 .k_go
def anI (h:PI X L l (YC<|Hl X.K fs)):PI X L l (vh X.K<|uw fs):=PI.imp h λ_ H Q q=>by
 let(A,G,M,S,F,I,N,e,q):=q;delta uw at e;f_are
 .rename_i j J;f_are
  .rename_i Y;k_go;refine(A,G,M,S,F,I,_,J,λO C E g D=>?_);let(v,rfl,B):=aJ.one D;exact(j,by rw[B],Y.1,Y.2,q _ C E g ady)
  .k_go
 .k_go
def itE (h:PI X D l (Y0 X.K<|Bg X.K fs)):PI X D l (vh X.K<|zF fs):=PI.imp h λ_ H Q q=>by
 let(A,G,M,S,F,I,N,e,q):=q;delta zF at e;f_are
 .rename_i O J;k_go;refine(A,G,M,S,F,I,_,J,λT B E g C=>?_);let(v,rfl,a,L,rfl,h1,h2):=aJ.one C;exact(a,rfl,⟨L,g.fh.seq h1⟩,q _ B E g<|abh h1 h2)
 .k_go
set_option tactic.hygienic true in
def agP (h:Has K H d v)(e:Zk d=#[(A,ds)]):∃a xs,v=.ref a/\Ce A K H a xs/\aJ K H ds xs:=by
 cases d with
 |tuple _=>cases e;calc h
 |list _=>cases e;calc h
 |_=>cases e
def itZ (h:PI X U l (iZt X.K<|Bg X.K fs)):PI X U l (vh X.K<|Ci fs):=PI.imp h λ_ H Q q=>by
 let(A,G,M,S,F,I,C,e,q):=q;delta Ci at e;f_are
 .rename_i d m O;f_are
  .rename_i o C T;f_are
   .rename_i N;k_go;refine(A,G,M,S,F,I,_,O,λp B E g L=>?_);let(v,u,rfl,h,b,j,rfl,J,D):=aJ.two L;let(a,Y,e,h1,h2):=agP h T;subst e;exact(_,a,b,rfl,⟨Y,sqb g.fh h1⟩,⟨j,g.fh.seq J⟩,q _ B E g<|adz h1 h2 J D N)
   .k_go
  .k_go
 .k_go
end
section
variable {B:St}
theorem VI.set (I:VI K D G M S F B H)(Q:Has K F d v):VI K D G M (S.set i<|#[(.fr,d)]) F (B.set i<|#[v]) H where
 len:=by rw[b6,b6];exact I.len
 same:=I.same
 gf:=I.gf
 new:=I.new
 sub:=I.sub
 slot:=λj t J e=>by
  by_cases Y:j=i
  .subst Y;by_cases N:j<!S
   .rw[be N] at e;k_go;exact(v,be<|by rwa [<-I.len],Q)
   .rw[bg (by rw[b6];lk)] at e;k_go
  .rw[bo<|b8 Y] at e ⊢;exact I.slot j t J e
 inj:=λj k t T L O u A C r E v1 v2=>by
  have h1:j≠i:=λz=>by
   subst z;by_cases N:j<!S
   .rw[be N] at A;cases A;exact(bn r)
   .rw[bg (by rw[b6];lk)] at A;cases A
  have h2:k≠i:=λz=>by
   subst z;by_cases N:k<!S
   .rw[be N] at C;cases C;exact(bn E)
   .rw[bg (by rw[b6];lk)] at C;cases C
  rw[bo<|b8 h1] at A v1;rw[bo<|b8 h2] at C v2;calc I.inj j k t T L O u A C r E v1 v2
end
abbrev VG:=()->GS->↑GS
abbrev W4:=¬()->GS->↑GS
def Hr (S:GS)(i:Nat):Bool:=match S[i]? with
 |some #[(.io,_)]=>false
 |_=>true
def gN (i:Nat):VG:=λd S=>if Hr S i=true then #[S.set i<|#[(.fr,d)]] else none
def g0:W4:=λA S=>match A with
 |[]=>#[S]
 |_=>none
def gC (t:VG)(u:W4):W4:=λB S=>match B with
 |d::r=>match t d S with
  |some A=>u r A
  |none=>none
 |[]=>none
def gT (n:Nat)(u:W4):VG:=λd S=>match d with
 |.tuple A=>if (!A)=n then u A S else none
 |_=>none
inductive yh (K:Frag)(t:VG)(js:¬Nat)(v:V)(σ:St)(H:Hp)(Q:(St->Hp->Prop)):Prop
 |mk:∀j8 G cQ S F,VI K j8 G cQ S F σ H->∀d S',Has K F d v->t d S=#[S']->(∀mH,(∀(j:Nat),Not (j∈js)->mH[j]? =σ[j]?)->VI K j8 G cQ S' F mH H->Q mH H)->yh K t js v σ H Q
inductive R8 (K:Frag)(t:W4)(js:¬Nat)(vs:¬V)(σ:St)(H:Hp)(Q:(St->Hp->Prop)):Prop
 |mk:∀j8 G cQ S F,VI K j8 G cQ S F σ H->∀ds S',aJ K F ds vs->t ds S=#[S']->(∀mH,(∀(j:Nat),Not (j∈js)->mH[j]? =σ[j]?)->VI K j8 G cQ S' F mH H->Q mH H)->R8 K t js vs σ H Q
section
variable {A:Pos}
def tgN (h:PG X e (cC i)):PG X e (yh X.K (gN i) [i]):=PG.imp h λv E H Q q=>by
 let(C,G,M,S,F,I,d,D,B,e,q):=q;delta gN at e;f_are
 .k_go;exact q _ (λj Y=>bo<|λz=>Y<|by simp[z]) (I.set B)
 .k_go
def sI.imp (h:sI X D t)(U:∀v C H Q,t' v C H Q->t v C H Q):sI X D t':=λB s C H v u Q I r q=>h B s C H v u Q I r<|U v C H Q q
def tg0:sI X [] (R8 X.K g0 []):=sI.imp pP λL D H Q q=>by
 let(C,G,M,S,F,I,J,E,B,e,q):=q;delta g0 at e;f_are
 .k_go;rw[B];exact q D (λ_ _=>rfl) I
 .k_go
def tgC (h1:PG X e (yh X.K t Y))(h2:sI X D (R8 X.K u k))(T:((assignEach (e::D) X.env).map (·.2)=assign e X.env::(assignEach D X.env).map (·.2))∣0):sI X (e::D) (R8 X.K (gC t u)<|Y++k):=sI.imp (eG h1 h2 T) λz c H Q q=>by
 let(B,G,M,S,F,I,m,L,O,e,q):=q;delta gC at e;f_are
 .rename_i d r;f_are
  .rename_i E g;let(v,y,rfl,U,hr):=O;refine(B,G,M,S,F,I,d,E,U,g,λl b J=>(B,G,M,E,F,J,r,L,hr,e,λC p N=>q C (λj o=>?_) N));grind
  .k_go
 .k_go
def tgT (h:sI X D (R8 X.K u Y))(N:((!(assignEach D X.env))=n)∣0)(C:((assignEach D X.env).findIdx? (·.1)=none)∣0):PG X (.Tuple D k A) (yh X.K (gT n u) Y):=PG.imp (ur h N C) λv U H Q q=>by
 let(B,G,M,S,F,I,d,E,L,e,q):=q;delta gT at e;f_are
 .rename_i J;f_are
  .rename_i T;let(a,O,rfl,h1,h2):=L;exact(O,I.sub.oW h1,by rwa [<-!h2],B,G,M,S,F,I,J,E,h2,e,q)
  .k_go
 .k_go
end
def vo (S:GS):↑Nat->↑(Tg×())
 |none=>none
 |some j=>match S[j]? with
  |some #[(.fr,d)]=>#[(.fr,d)]
  |some #[(.ow,d)]=>#[(.fr,d)]
  |some #[(.io,d)]=>#[(.fr,d)]
  |_=>none
def nH (S:GS):¬(↑Nat)->Bool
 |[]=>true
 |none::r=>nH S r
 |some j::r=>(match S[j]? with
  |some #[(.fr,_)]=>true
  |some #[_]=>false
  |_=>true) && nH S r
def iV (cap:¬(↑Nat))(S:GS):GS:=cap.map<|vo S
def nR (t:VG)(B:VT)(A:VE)(S:GS):¬()->↑(¬())
 |[]=>#[[]]
 |d::r=>match t d S with
  |none=>none
  |some C=>match B C with
   |none=>none
   |some false=>nR t B A S r
   |some true=>match A C with
    |none=>none
    |some e=>match nR t B A S r with
     |none=>none
     |some D=>#[e::D]
def jM (E:VA)(cap:¬(↑Nat))(t:VG)(B:VT)(C:VE):VE:=λS=>match E S with
 |some A=>@ite _ (nH S cap=true/\(!A)<sizeLine) (Classical.propDecidable _) (match nR t B C (iV cap S) A with
  |some D=>#[.list D]
  |none=>none) none
 |none=>none
def Cj (E:VA)(cap:¬(↑Nat))(t:VG)(B:VT)(C:VE):VE:=λS=>match E S with
 |some A=>@ite _ ((!A)<sizeLine) (Classical.propDecidable _) (match nR t B (Hi C) (iV cap S) A with
  |some D=>#[.list D]
  |none=>none) none
 |none=>none
def R9 {i:Nat}(h:(iV cap S)[i]? =#[#[(t,d)]]):∃j t',cap[i]? =#[#[j]]/\S[j]? =#[#[(t',d)]]/\t'.dat=true/\t=.fr:=by
 delta iV at h;rw[ai] at h;cases q:cap[i]? with
 |none=>rw[q] at h;cases h
 |some o=>
  rw[q] at h;cases o with
  |none=>simp[vo] at h
  |some j=>
   erw[map_some,vo,dQ] at h;split at h
   .rename_i C hS;cases h;exact(j,.fr,rfl,hS,rfl,rfl)
   .rename_i C hS;cases h;exact(j,.ow,rfl,hS,rfl,rfl)
   .rename_i C hS;cases h;exact(j,.io,rfl,hS,rfl,rfl)
   .cases h
theorem Ck:∀{cap:¬(↑Nat)}{i j:Nat} {t:Tg} {d:()},nH S cap=true->cap[i]? =#[#[j]]->S[j]? =#[#[(t,d)]]->t=.fr
 |[],i,j,t,d,_,h,_=>by simp at h
 |none::r,0,j,t,d,_,h,_=>by simp at h
 |none::r,i+1,j,t,d,O,h,D=>Ck (cap:=r) (i:=i) O ‹h› D
 |some k::r,0,j,t,d,O,h,D=>by
  have e:k=j:=‹h›
  subst e;unfold nH at O;lk
 |some k::r,i+1,j,t,d,O,h,D=>by unfold nH at O;rw[bc] at O;calc Ck (cap:=r) (i:=i) O.2 ‹h› D
def abj {i j:Nat}(h:cap[i]? =#[#[j]])(D:B[j]? =#[#[v]]):(cU cap B)[i]? =#[#[v]]:=by delta cU;rw[ai,h];erw[map_some,D]
section
variable {cap:¬(↑Nat)}
def VI.block (I:VI K B G M S F D H){R:Hp}(L:Same R H)(O:∀(i j:Nat) t d v,cap[i]? =#[#[j]]->S[j]? =#[#[(t,d)]]->D[j]? =#[#[v]]->t.dat=true->aa7 K B M F H j t d v->Has K R d v):
  VI K (λ_=>none) R H (iV cap S) R (cU cap D) H where
 len:=by delta iV cU;rw[ac,ac]
 same:=Same.refl _
 gf:=Same.refl _
 new:=λ_ _ e=>.inl e
 sub:=L
 slot:=λi t d e=>by let(j,C,h1,h2,J,rfl):=R9 e;let(v,A,N):=I.slot j C d h2;exact(v,abj h1 A,O i j C d v h1 h2 A J N)
 inj:=λi j t C d Q v E _ r=>by let(_,_,_,_,_,rfl):=R9 E;calc absurd r bn
def VI.adA (I:VI K A G M S F B H)(O:nH S cap=true):VI K (λ_=>none) F H (iV cap S) F (cU cap B) H:=
 I.block I.sub λi j t d v h1 h2 _ _ D=>by have:=Ck O h1 h2;subst this;calc D
def VI.abk (I:VI K E G M S F O H):VI K (λ_=>none) H H (iV cap S) H (cU cap O) H:=
 I.block (Same.refl _) λi j t d v h1 h2 _ T D=>by
  have A:gD K M F H d v->Has K H d v:=λ(a,Q,N,B,C,J,_,_,L)=>by rw[B];exact(a,N,C,aQ.of J,L.same I.sub)
  cases t with
  |fr=>calc Has.same I.sub D
  |ow=>calc A D
  |io=>calc A D.1
end
def agQ {Y:¬Nat}(A:(Y.all λj=>cap[j]? ==#[none])=true)(k:∀(j:Nat),Not (j∈Y)->B[j]? =(cU cap D)[j]?):gA (cU cap D) B:=λj v e=>by
 by_cases C:j∈Y
 .have:=cp.mp A j C;have O:cap[j]? =#[none]:=‹this›
  delta cU at e;rw[ai,O] at e;simp at e
 .rwa [k j C]
def afI (hjs:(js.all λj=>cap[j]? ==#[none])=true)
  (I:VI K j8 G c S F σ H)(e1:fi S=#[ds])(Zm:(!ds)<sizeLine)(e2:nR t fc n (iV cap S) ds=#[es])
  (f:Hp->Hp->Hp)(hb:∀B E,bB F H B E->VI K (λ_=>none) (f B E) E (iV cap S) (f B E) (cU cap σ) E/\Same B (f B E))
  (hr:∀(B E M N:Hp) S2 d v,n S2=#[d]->Same B E->bB (f B E) E M N->Has K M d v->∃h,bB B E h N/\Has K h d v)(hfe:∀S d,n S=#[d]->fe' S=#[d])
  (q:∀v B E,bB F H B E->RN K F H B E (.list es) v->Q v E):xY (vh K fi) cap (yh K t js) (iT K fc) (tV K RS fe') σ H Q:=by
 refine(j8,G,c,S,F,I,ds,e1,λJ F1 H1 s it D hD=>?_);refine(λi m E=>∃B L T r,m=(!ds) - i/\i<=!ds/\E D=#[.lst r]/\B D=none/\aJ K B L r/\bB F1 H1 B E/\(!L)<=i/\nR t fc n (iV cap S) (ds.drop i)=#[T]/\L++T=es,?_,?_)
 .exact(_,F1,[],es,[],rfl,cv _,ao,s.fh.free hD,rfl,bB.alloc s.fh hD,cv _,e2,rfl)
 .rintro i m E ⟨B,L,T,r,rfl,hi,k,p,hh,g,hle,A,C⟩;by_cases l:i<!ds
  .have hd:ds[i]? =#[ds[i]]:=by simp[l]
   rw[ec l] at A;let(go,yl):=it.go i ds[i] B E hd g.ff g.fh;refine .inr ⟨go,λx N y=>?_⟩;let(M,O,hx):=yl x N y;let(IB,hR):=hb M N<|(s.trans g).trans O;have hr':=hr M N;generalize f M N=R at*
   generalize ds[i]=d0 at*
   unfold nR at A;cases q1:t d0 (iV cap S) with
   |none=>rw[q1] at A;cases A
   |some S2=>
    rw[q1] at A;simp only at A;refine(λ_=>none,R,N,iV cap S,R,IB,d0,S2,Has.same hR hx,q1,λσ2 k2 I2=>⟨agQ hjs k2,?_⟩);have D2:=O.hh _ _ k;cases q2:fc S2 with
    |none=>rw[q2] at A;cases A
    |some b=>
     rw[q2] at A;refine(λ_=>none,R,N,S2,R,I2,b,q2,λh H3 u=>?_);cases b with
     |false=>
      erw[dt,dE];have gg:bB B E M H3:=(O.hh.trans u.hh,O.ff,hR.trans<|u.ff.trans u.fh,O.new);have hF2:M D=none:=by
       cases z:M D with
       |none=>rfl
       |some o=>
        rcases O.new D o z with w|w|w
        .rw[p] at w;cases w
        .rw[k] at w;cases w
        .have:=O.fh D o z;rw[D2] at this;cases this;simp[xZ] at w
      calc((!ds) - (i+1),by lk,M,L,T,r,rfl,l,u.hh _ _ D2,hF2,hh.same O.ff,g.trans gg,by lk,A,C)
     |true=>
      erw[dA] at A ⊢;cases q3:n S2 with
      |none=>rw[q3] at A;cases A
      |some e0=>
       rw[q3] at A;simp only at A;cases q4:nR t fc n (iV cap S) (ds.drop<|i+1) with
       |none=>rw[q4] at A;cases A
       |some es3=>
        rw[q4] at A;cases A;refine(λ_=>none,R,N,S2,h,I2.grow u,e0,hfe _ _ q3,λv F4 H4 g4 hv=>?_);let(F5,g5,hv5):=hr' F4 H4 S2 e0 v q3 O.fh (u.trans g4) hv;have D4:=g5.hh _ _ D2;have Y:=O.trans g5;have a:F5 D=none:=by
         cases z:F5 D with
         |none=>rfl
         |some o=>
          rcases Y.new D o z with w|w|w
          .rw[p] at w;cases w
          .rw[k] at w;cases w
          .have:=Y.fh D o z;rw[D4] at this;cases this;simp[xZ] at w
        have hly:=!hh;refine(r,D4,by lk,(!ds) - (i+1),by lk,F5,L++[e0],es3,r++[v],rfl,l,ao,a,aJ.snoc hv5<|hh.same Y.ff,?_,by simp;lk,rfl,by simpa using C);have U:=g.trans Y;refine(λb o e=>?_,U.ff,λb o e=>?_,U.new)
        .rw[au<|aZ e hD];exact U.hh b o e
        .rw[au<|aZ e a];exact U.fh b o e
  .have hie:i=!ds:=by lk
   subst hie;rw[mr<|av _] at A;cases A;rw[eP] at C;subst C;refine .inl ⟨it.stop _ B E (av _) g.ff g.fh,q _ B E (s.trans g) (_,D,r,rfl,rfl,s.hh.free hD,p,k,hh)⟩
def adB (B:(l.all λj=>cap[j]? ==#[none])=true)(q:tV K RN (jM T cap t L N) m H Q):
  xY (vh K T) cap (yh K t l) (iT K L) (tV K RS N) m H Q:=by
 let(k,G,M,S,F,I,d,e,q):=q;delta jM at e;f_are
 .rename_i r D;f_are
  .rename_i O;f_are
   .rename_i u J;k_go;exact afI B I D O.2 J (λA _=>A) (λA E g=>⟨(I.grow g).adA O.1,Same.refl _⟩) (λA E C o p d v _ _ U Y=>(C,U,Y)) (λ_ _ h=>h) q
   .k_go
  .k_go
 .k_go
def ak1 (A:(o.all λj=>cap[j]? ==#[none])=true)(q:tV K RN (Cj U cap t N O) p H Q):
  xY (vh K U) cap (yh K t o) (iT K N) (tV K RS O) p H Q:=by
 let(m,G,M,S,F,I,d,e,q):=q;delta Cj at e;f_are
 .rename_i y D;f_are
  .rename_i Y;f_are
   .rename_i z L;k_go;exact afI A I D Y L (λ_ E=>E) (λB E g=>⟨(I.grow g).abk,g.fh⟩) (λB E r C u d v k T J l=>((wide B C,NP (J.hh,Same.refl _,T.trans J.hh,λ_ _ e=>.inl e),G9 (NQ k).2<|Has.same J.fh l))) (λ_ _ h=>(NQ h).1) q
   .k_go
  .k_go
 .k_go
def c7:VT:=λ_=>#[true]
def nW.imp (h:nW X C t)(U:∀B H Q,t' B H Q->t B H Q):nW X C t':=λA s B H Q I q=>h A s B H Q I<|U B H Q q
def ifN:nW X [] (iT X.K c7):=nW.imp xX λ_ H Q q=>by let(A,G,M,S,F,I,b,e,q):=q;cases e;calc q F H<|bB.refl I.sub
def dLC (Q:PE X e (xY (vh X.K E) cap (yh X.K t Y) (iT X.K B)<|tV X.K RS C))(A:((Y.all λj=>cap[j]? ==#[none])=true)∣0):PE X e (tV X.K RN<|jM E cap t B C):=
 Q.imp λ_ _ _ q=>adB A q
def anJ (Q:PE X e (xY (vh X.K E) cap (yh X.K t Y) (iT X.K B)<|tV X.K RS C))(A:((Y.all λj=>cap[j]? ==#[none])=true)∣0):PE X e (tV X.K RN<|Cj E cap t B C):=
 Q.imp λ_ _ _ q=>ak1 A q
inductive Out where
 |fail
 |nxt (S:GS)
 |ret (S:GS) (b:Bool) (d:())
abbrev VS:=GS->Out
def RR (K:Frag)(M:Hp)(S:GS)(B:St)(F H:Hp):Bool->()->V->Prop
 |false,d,v=>Has K F d v
 |true,d,v=>gD K M F H d v/\∀(i:Nat) t C,S[i]? =#[#[(t,C)]]->t.own=true->B[i]? ≠#[#[v]]
def gn (K:Frag)(A:Nat->↑Addr)(G M:Hp)(D:Ends):Out->Prop
 |.fail=>False
 |.nxt S=>∀F B H,VI K A G M S F B H->D.nx B H
 |.ret S b d=>∀v F B H,VI K A G M S F B H->RR K M S B F H b d v->D.rt v H
inductive gW (K:Frag)(g:VS)(D:Ends)(σ:St)(H:Hp):Prop
 |mk:∀j8 G cQ S F,VI K j8 G cQ S F σ H->gn K j8 G cQ D (g S)->gW K g D σ H
section
variable {D:Ends}
def VI.self (I:VI K A G M S F B H):VI K A F M S F B H:=(I.len,I.same,Same.refl _,λ_ _ e=>.inl e,I.sub,I.slot,I.inj)
def VI.rebase (I:VI K A G M S F N H)(J:VI K A F M L C B E):VI K A G M L C B E:=(J.len,J.same,I.gf.trans J.gf,λa o e=>by
 rcases J.new a o e with z|z|z
 .exact I.new a o z
 .exact .inr<|.inl z
 .calc .inr (.inr z),J.sub,J.slot,J.inj)
end
def cI:VS:=λS=>.nxt S
def aN (C J:VS):VS:=λS=>match C S with
 |.nxt A=>J A
 |o=>o
def dz (c:VT)(C J:VS):VS:=λS=>match c S with
 |some true=>C S
 |some false=>J S
 |none=>.fail
section
variable {rest a b:¬Stmt}
def anK:jy X [] (gW X.K cI):=jy.imp bA λD B H q=>by let(A,G,M,S,F,I,q):=q;calc q F B H I
def anL (h:PS X s (gW X.K g)):jy X [s] (gW X.K g):=aM h
def anM (h1:PS X s (gW X.K C))(h2:jy X rest (gW X.K L)):jy X (s::rest) (gW X.K<|aN C L):=jy.imp (ak h1 h2) λD Q H q=>by
 f_len;refine(A,G,M,S,F,I,?_);delta aN at q;cases e:C S with
 |fail=>rw[e] at q;calc q
 |ret B b d=>rw[e] at q;calc q
 |nxt B=>rw[e] at q;calc λE N O J=>(A,G,M,B,E,J,q)
def sIf (O:PT X c (iT X.K tc))(E:jy X a (gW X.K C))(L:jy X b (gW X.K J)):PS X (.If c a b N) (gW X.K<|dz tc C J):=PS.imp (bQ O E L) λD T H q=>by
 f_len;delta dz at q;cases e:tc S with
 |none=>rw[e] at q;calc q.elim
 |some k=>
  rw[e] at q;refine(A,G,M,S,F,I,k,e,λB Q g=>?_);cases k with
  |true=>erw[dA];calc(A,G,M,S,B,I.grow g,q)
  |false=>erw[dt,dE];calc(A,G,M,S,B,I.grow g,q)
def pQ:VS:=λ_=>.fail
def aiL:PS X s (gW X.K pQ):=PS.imp lF λD B H q=>by let(_,_,_,_,_,_,q):=q;calc q
end
def cJ (f:VE):VS:=λS=>match f S with
 |some d=>.ret S false d
 |none=>.fail
def pR (f:VE):VS:=λS=>match f S with
 |some d=>.ret S true d
 |none=>.fail
def gq (i:Nat):VS:=λS=>match S[i]? with
 |some #[(.ow,d)]=>.ret (S.set i none) true d
 |some #[(.fr,d)]=>.ret S false d
 |_=>.fail
section
variable {B:St}
def pW {S:GS}(h:(S.set i none)[j]? =#[#[x]]):j≠i/\S[j]? =#[#[x]]:=by
 by_cases Y:j=i
 .subst Y;by_cases N:j<!S
  .rw[be N] at h;cases h
  .rw[bg (by rw[b6];lk)] at h;cases h
 .rw[bo<|b8 Y] at h;calc⟨Y,h⟩
def VI.drop (I:VI K A G M S F B H)(i:Nat):VI K A G M (S.set i none) F B H where
 len:=by rw[b6];exact I.len
 same:=I.same
 gf:=I.gf
 new:=I.new
 sub:=I.sub
 slot:=λj t d e=>I.slot j t d (pW e).2
 inj:=λj k t J d C v D E=>I.inj j k t J d C v (pW D).2 (pW E).2
def N8 (I:VI K O G M S F B H){i:Nat}(e:S[i]? =#[#[(t,d)]])(U:t.own=true)(N:B[i]? =#[#[.ref a]]):∃xs,H a=#[xs]:=by
 let(v,A,D):=I.slot i t d e;rw[N] at A;cases A;cases t with
 |fr=>cases U
 |ow=>let(E,L,xs,_,C,J,_):=D;cases C;calc⟨_,J⟩
 |io=>let(E,L,xs,_,C,J,_):=D.1;cases C;calc⟨_,J⟩
theorem RN.own {d:()}{v:V}(I:VI K O G M S F B H)(r:RN K F H C E d v):gD K M C E d v/\∀(i:Nat) t d',S[i]? =#[#[(t,d')]]->t.own=true->B[i]? ≠#[#[v]]:=by let(D,a,Q,h1,h2,J,L,k,N):=r;refine⟨(a,D,Q,h1,h2,k,L,I.same.free J,N),λi t d' e U A=>?_⟩;rw[h2] at A;let(T,n):=N8 I e U A;lk
end
section
variable {s:Stmt}
def anN (Q:PE X e (tV X.K RS f)):PS X (.Return #[e] J) (gW X.K<|cJ f):=PS.imp (bD Q) λD L H q=>by
 f_len;delta cJ at q;cases e:f S with
 |none=>rw[e] at q;calc q.elim
 |some d=>rw[e] at q;calc(A,G,M,S,F,I,d,e,λv B E g C=>q v B L E (I.grow g) C)
def ak2 (Q:PE X e (tV X.K RN f)):PS X (.Return #[e] J) (gW X.K<|pR f):=PS.imp (bD Q) λD L H q=>by
 f_len;delta pR at q;cases e:f S with
 |none=>rw[e] at q;calc q.elim
 |some d=>rw[e] at q;calc(A,G,M,S,F,I,d,e,λv B E g C=>q v B L E (I.grow g)<|RN.own I C)
def ak3 {i:Nat}(Q:PE X e (vR i)):PS X (.Return #[e] N) (gW X.K<|gq i):=PS.imp (bD Q) λD B H q=>by
 let(L,G,E,S,F,I,q):=q;delta gq at q;split at q
 .rename_i d hS;let(v,M,A):=I.slot i .ow d hS;show vR i B H D.rt;delta vR;rw[M];refine q v F B H (I.drop i) ⟨A,λj t J e U C=>?_⟩;let(Y,e):=pW e;exact Y<|I.inj j i t .ow J d v e hS U rfl C M
 .rename_i d hS;let(v,M,A):=I.slot i .fr d hS;show vR i B H D.rt;delta vR;rw[M];exact q v F B H I A
 .calc q.elim
def gEx (f:VE):VS:=λS=>match f S with
 |some _=>.nxt S
 |none=>.fail
def bZ (f:VE)(t:VG):VS:=λS=>match f S with
 |some d=>match t d S with
  |some D=>.nxt D
  |none=>.fail
 |none=>.fail
def sAs (h:PS X s (gZ (tV X.K RS f)<|yh X.K t Y)):PS X s (gW X.K<|bZ f t):=PS.imp h λD Q H q=>by
 f_len;delta bZ at q;cases e:f S with
 |none=>rw[e] at q;calc q.elim
 |some d=>
  rw[e] at q;simp only at q;cases B:t d S with
  |none=>rw[B] at q;calc q.elim
  |some N=>rw[B] at q;calc(A,G,M,S,F,I,d,e,λv E J g O=>(A,G,M,S,E,I.grow g,d,N,O,B,λC _ L=>q E C J L))
def pA (i:Nat)(f:VE):VS:=λS=>match f S with
 |some d=>if Hr S i=true then .nxt (S.set i<|#[(.ow,d)]) else .fail
 |none=>.fail
def VI.aiM (I:VI K J G M S F L H)(g:gD K M F H d v)(Q:∀(i:Nat) t d',S[i]? =#[#[(t,d')]]->t.own=true->L[i]? ≠#[#[v]]):
  VI K J G M (S.set i<|#[(.ow,d)]) F (L.set i<|#[v]) H where
 len:=by rw[b6,b6];exact I.len
 same:=I.same
 gf:=I.gf
 new:=I.new
 sub:=I.sub
 slot:=λj t d' e=>by
  by_cases Y:j=i
  .subst Y;by_cases N:j<!S
   .rw[be N] at e;k_go;exact(v,be<|by rwa [<-I.len],g)
   .rw[bg (by rw[b6];lk)] at e;k_go
  .rw[bo<|b8 Y] at e ⊢;exact I.slot j t d' e
 inj:=λj k t U C O u B D r T v1 v2=>by
  have A:∀{j:Nat}{t:Tg} {C:()} {u:V},(S.set i<|#[(.ow,d)])[j]? =#[#[(t,C)]]->(L.set i<|#[v])[j]? =#[#[u]]->j=i->u=v:=λ{j t C u} B v1 z=>by
   subst z;by_cases N:j<!S
   .rw[be (by rw[<-I.len];calc N)] at v1;exact(bm<|bm v1).symm
   .rw[bg (by rw[b6];lk)] at B;cases B
  by_cases Y:j=i
  .by_cases E:k=i
   .rw[Y,E]
   .have:=A B v1 Y;subst this;rw[bo<|b8 E] at D v2;exact absurd v2<|Q k U O D T
  .by_cases E:k=i
   .have:=A D v2 E;subst this;rw[bo<|b8 Y] at B v1;exact absurd v1<|Q j t C B r
   .rw[bo<|b8 Y] at B v1;rw[bo<|b8 E] at D v2;calc I.inj j k t U C O u B D r T v1 v2
def sOw (h:PS X s (gZ (tV X.K RN f)<|cC i)):PS X s (gW X.K<|pA i f):=PS.imp h λD J H q=>by
 f_len;delta pA at q;cases e:f S with
 |none=>rw[e] at q;calc q.elim
 |some d=>
  rw[e] at q;simp only at q;split at q
  .refine(A,G,M,S,F,I,d,e,λv B E g C=>?_);let(h1,h2):=RN.own I C;exact q B _ E<|(I.grow g).aiM h1 h2
  .calc q.elim
def Sd (h:PS X s (gZ te g))(hi:∀B H Q,A B H Q->te B H Q):PS X s (gZ A g):=PS.imp h λD B H q=>hi B H _ q
def gO (i:Nat)(S:GS):GS:=match S[i]? with
 |some #[(.ow,d)]=>S.set i<|#[(.fr,d)]
 |_=>S
def Sg (i:Nat)(g:VS):VS:=λS=>g<|gO i S
set_option tactic.hygienic true in
theorem VI.gO (I:VI K N G M S F σ H)(i:Nat):∃g,VI K N G M (gO i S) g σ H:=by
 delta VM.gO;split
 .rename_i d hS;let(v,hv,a,m,D,rfl,rfl,p,q,y,c):=I.slot i .ow d hS;have Q:i<!S:=by
   by_cases h:i<!S
   .exact h
   .rw[bg ∅] at hS;cases hS
  have O:Same F (upd F a<|.lst D):=aK q;have s2:Same (upd F a<|.lst D) H:=λb o e=>by
   by_cases B:b=a
   .subst B;rw[ao] at e;k_go;exact p
   .rw[au B] at e;exact I.sub b o e
  refine⟨upd F a<|.lst D,(by rw[b6];calc I.len,I.same,I.gf.trans O,λb o e=>?_,s2,λj t E e=>?_,λj k t t' A l u C n r T v1 v2=>?_)⟩
  .by_cases B:b=a
   .subst B;exact .inr<|.inl y
   .rw[au B] at e;exact I.new b o e
  .by_cases Y:j=i
   .subst Y;rw[be Q] at e;k_go;exact(_,hv,a,D,rfl,aQ.of ao,c.same O)
   .rw[bo<|b8 Y] at e;let(u,f,J):=I.slot j t E e;have ow:t.own=true->gD K M F H E u->gD K M (upd F a<|.lst D) H E u:=λht (b,L,ys,h1,h2,w,h4,x,h6)=>by
     refine(b,L,ys,h1,h2,w,?_,x,h6.same O)
     have:b≠a:=λz=>by subst z;exact Y<|I.inj j i t .ow E _ _ e hS ht rfl f<|by rwa [h2]
     rwa [au this]
    refine(u,f,?_);cases t with
    |fr=>calc Has.same O J
    |ow=>calc ow rfl J
    |io=>exact⟨ow rfl J.1,J.2⟩
  .have U:∀{j:Nat}{t:Tg} {A:()},(S.set i<|#[(.fr,.list m)])[j]? =#[#[(t,A)]]->t.own=true->S[j]? =#[#[(t,A)]]:=λ{j t A} C r=>by
    by_cases Y:j=i
    .subst Y;rw[be Q] at C;cases C;exact absurd r bn
    .rw[bo<|b8 Y] at C;exact C
   exact I.inj j k t t' A l u (U C r) (U n T) r T v1 v2
 .calc⟨F,I⟩
def sFz (h:PS X s (gW X.K g)):PS X s (gW X.K<|Sg i g):=PS.imp h λD E H q=>by let(A,G,M,S,F,I,q):=q;let(B,C):=I.gO i;calc(A,G,M,_,B,C,q)
end
section
variable {B:St}
def jC (S:GS)(i:Nat):↑(Tg×¬()):=match S[i]? with
 |some #[(.ow,.list A)]=>#[(.ow,A)]
 |some #[(.io,.list A)]=>#[(.io,A)]
 |_=>none
def Oa (h:jC S i=#[(t,ds)]):S[i]? =#[#[(t,.list ds)]]/\t.own=true:=by
 delta jC at h;split at h
 .cases h;exact⟨by assumption,rfl⟩
 .cases h;exact⟨by assumption,rfl⟩
 .cases h
def Sh (h:jC S i=#[(t,ds)]):t=.ow\/t=.io:=by delta jC at h;lk
theorem VI.own (I:VI K p G M S F B H)(h:jC S i=#[(t,ds)]):∃a xs,B[i]? =#[#[.ref a]]/\H a=#[.lst xs]/\aJ K F ds xs/\
  ∀(A:¬()) (C:¬V) (D E:Hp),bB F H D E->aJ K D A C->VI K p G M (S.set i<|#[(t,.list A)]) D B (upd E a<|.lst C):=by
 let(hS,ht):=Oa h;let(v,w,l):=I.slot i t _ hS;have ho:gD K M F H (.list ds) v:=by
  rcases Sh h with rfl|rfl
  .exact l
  .exact l.1
 let(a,ds0,xs,e1,rfl,d,e4,f,e6):=ho;cases e1;have hl:i<!S:=by grind
 refine(a,xs,w,d,e6,λA C D E g hx=>?_);have J:=I.grow g;have L:D a=none:=by
  cases q:D a with
  |none=>rfl
  |some o=>
   rcases g.new a o q with z|z|z
   .omega
   .omega
   .have:=g.fh a o q;rw[g.hh _ _ d] at this;cases this;simp[xZ] at z
 refine(by rw[b6];calc I.len,λb o e=>?_,J.gf,J.new,λb o e=>?_,λj Q O e=>?_,λj k N t2 T c u n g2 y x v1 v2=>?_)
 .rw[au<|aZ e f];exact J.same b o e
 .rw[au<|aZ e L];exact J.sub b o e
 .by_cases Y:j=i
  .subst Y;rw[be hl] at e;k_go;refine(_,w,?_);have o:gD K M D (upd E a<|.lst C) (.list A) (.ref a):=(a,A,C,rfl,rfl,ao,L,f,hx);rcases Sh h with rfl|rfl
   .exact o
   .exact⟨o,l.2⟩
  .rw[bo<|b8 Y] at e;let(u,s,r):=J.slot j Q O e;have ow:Q.own=true->gD K M D E O u->gD K M D (upd E a<|.lst C) O u:=λm (b,U,ys,h1,h2,h3,h4,h5,h6)=>by
    refine(b,U,ys,h1,h2,?_,h4,h5,h6)
    have:b≠a:=λz=>by subst z;exact Y<|I.inj j i Q t O _ _ e hS m ht s<|by rwa [h2]
    rwa [au this]
   refine(u,s,?_);cases Q with
   |fr=>calc r
   |ow=>calc ow rfl r
   |io=>exact⟨ow rfl r.1,r.2⟩
 .have nj:∀{j:Nat}{N:Tg} {T:()},(S.set i<|#[(t,.list A)])[j]? =#[#[(N,T)]]->N.own=true->∃c,S[j]? =#[#[(N,c)]]:=λ{j N T} n y=>by grind
  let(d3,q1):=nj n y;let(d4,q2):=nj g2 x;calc I.inj j k N t2 d3 d4 u q1 q2 y x v1 v2
end
def d8 (i:Nat)(fs:VA):VS:=λS=>match jC S i,fs S with
 |some (t,A),#[[d]]=>@ite _ ((!A)<sizeLine) (Classical.propDecidable _) (.nxt<|S.set i<|#[(t,.list<|A++[d])]) .fail
 |_,_=>.fail
def qN (i:Nat)(B f:VE):VS:=λS=>match f S,B S,jC S i with
 |some d,#[.int k],#[(t,A)]=>(match pL (!A) k with
  |some j=>.nxt<|S.set i<|#[(t,.list<|A.set j d)]
  |none=>.fail)
 |_,_,_=>.fail
def oM (h:()->()->↑())(i:Nat)(B f:VE):VS:=λS=>match jC S i,B S,f S with
 |some (t,A),#[.int k],#[y]=>(match pL (!A) k with
  |some j=>(match A[j]? with
   |some x=>(match h x y with
    |some z=>.nxt<|S.set i<|#[(t,.list<|A.set j z)]
    |none=>.fail)
   |none=>.fail)
  |none=>.fail)
 |_,_,_=>.fail
def qO (h:()->()->↑())(i:Nat)(f:VE):VS:=λS=>match S[i]?,f S with
 |some #[(.fr,x)],#[y]=>(match h x y with
  |some z=>.nxt<|S.set i<|#[(.fr,z)]
  |none=>.fail)
 |_,_=>.fail
section
variable {h:()->()->↑()}
def anO (Q:PS X s (gk<|uZ X.K "list" zu (vR i)<|Bg X.K fs)):PS X s (gW X.K<|d8 i fs):=PS.imp Q λD j H q=>by
 let(C,G,M,S,F,I,q):=q;delta d8 at q;split at q
 .rename_i t l d Y k;split at q
  .rename_i m;let(a,N,T,J,L,U):=I.own Y;delta gk uZ vR;erw[T];refine(.inl (rfl,N,aQ.of J),C,G,M,S,F,I,[d],k,λo E O g B=>?_);let(v,rfl,A):=aJ.one B;refine(N,g.hh _ _ J,by rwa [<-!L],q E j _<|U _ _ E O g<|aJ.snoc A<|L.same g.ff)
  .exact q.elim
 .calc q.elim
def anP (g:PS X s (gZ (tV X.K RS f)<|GR (vR i) (tV X.K RW U) Ef)):PS X s (gW X.K<|qN i U f):=PS.imp g λD N H q=>by
 f_len;delta qN at q;split at q
 .rename_i d k t b p r y;split at q
  .rename_i j n;refine(A,G,M,S,F,I,d,p,λv O Q E m=>?_);let(a,z,B,Y,L,o):=(I.grow E).own y;show vR i N Q _;delta vR;rw[B];refine(A,G,M,S,O,I.grow E,_,r,λu C T J l=>?_);subst l;refine(z,j,J.hh _ _ Y,by rwa [<-!L],q C N _<|o _ _ C T J<|aJ.set (Has.same J.ff m) j<|L.same J.ff)
  .exact q.elim
 .calc q.elim
def getL:ahV X (ac8 X.K):=by
 intro A s g H x y v u Q I O U h;let(p,b,i,z,rfl,rfl,T,G,q):=h;cases O;let(t,rfl):=U;let(C,r,N,o):=I.list T;let(j,h1,h2,l,M,k):=xV G;let(w,L,E):=r.get h2;have J:=!r;have m:=sJ;have B:EP X A g Q w s:=(z,H,I,E,q);by_cases D:0<=i
 .have Y:i.toNat=j:=by rw[lT D k] at h1;exact bm h1
  exact wpAny_getItem_list N.isList D ∅ (by rw[Y];simpa using L) B
 .have Y:(i+(C.toArray.size)).toNat=j:=by rw[kR ∅ M] at h1;rw[bp,←J];exact bm h1
  calc oB N.isList ∅ (by rw[bp]<;>lk) ∅ (by rw[Y];simpa using L) B
def afM (p:iR X.K h r)(b:PS X s (afk (vR i) (tV X.K RW o) (tV X.K RS f) (ac8 X.K) r Ef)):PS X s (gW X.K<|oM h i o f):=PS.imp b λD l H q=>by
 f_len;delta oM at q;split at q
 .rename_i t ds k y q1 q2 q3;split at q
  .rename_i j q4;split at q
   .rename_i x q5;split at q
    .rename_i z q6;let(a,T,L,Y,Q,e):=I.own q1;show vR i l H _;delta vR;rw[L];refine(A,G,M,S,F,I,_,q2,λu m H1 E c=>?_);subst c;let(w,n,O):=Q.at q5;have B:pL (!T) k=#[j]:=by rwa [<-!Q]
     refine(a,T,k,w,rfl,rfl,aQ.of (E.hh _ _ Y),by delta cN;rwa [B],?_);refine(A,G,M,S,m,I.grow E,y,q3,λv C U J d=>?_);have g:=E.trans J;exact p U w v x y z _ q6 (Has.same J.fh<|Has.same g.ff O) (Has.same J.fh d) λv2 N=>(T,j,g.hh _ _ Y,B,q C l _<|e _ _ C U g<|aJ.set (N C) j<|Q.same g.ff)
    .exact q.elim
   .exact q.elim
  .exact q.elim
 .calc q.elim
def aiN (J:iR X.K h r)(L:PS X s (Qn i (tV X.K RS f) r)):PS X s (gW X.K<|qO h i f):=PS.imp L λD Y H q=>by
 f_len;delta qO at q;split at q
 .rename_i x y U k;split at q
  .rename_i z g;let(v,Q,N):=I.slot i .fr x U;delta Qn;rw[Q];refine(A,G,M,S,F,I,y,k,λu B E C O=>?_);exact J E v u x y z _ g (Has.same C.fh<|Has.same C.ff N) (Has.same C.fh O) λw T=>q B _ E<|(I.grow C).set (T B)
  .exact q.elim
 .calc q.elim
end
def cT (t:VG)(g:VS):¬()->GS->Out
 |[],S=>.nxt S
 |d::r,S=>match t d S with
  |none=>.fail
  |some A=>match g A with
   |.nxt C=>cT t g r C
   |.ret C b e=>.ret C b e
   |.fail=>.fail
def mV (E:VA)(t:VG)(g:VS):VS:=λS=>match E S with
 |some A=>cT t g A S
 |none=>.fail
def cu (c:VT)(g:VS):Nat->GS->Out
 |0,_=>.fail
 |n+1,S=>match c S with
  |none=>.fail
  |some false=>.nxt S
  |some true=>match g S with
   |.nxt C=>cu c g n C
   |.ret C b e=>.ret C b e
   |.fail=>.fail
open Classical in
def Jd (c:VT)(g:VS):VS:=λS=>if h:∃n,cu c g n S≠ .fail then cu c g h.choose S else .fail
theorem Gf:∀{n:Nat}{S:GS},cu c g n S≠ .fail->cu c g (n+1) S=cu c g n S
 |0,_,h=>absurd rfl h
 |n+1,S,h=>by
  rw[cu];conv=>rhs;rw[cu]
  rw[cu] at h;cases q:c S with
  |none=>rfl
  |some b=>
   rw[q] at h;cases b with
   |false=>rfl
   |true=>
    simp only at h ⊢;cases k:g S with
    |nxt C=>rw[k] at h;calc Gf h
    |ret _ _ _=>rfl
    |fail=>rfl
def Ob (h:cu c g n S≠ .fail)(A:n<=m):cu c g m S=cu c g n S:=by
 induction A with
 |refl=>rfl
 |step A B=>rw[Gf (by rw[B];calc h),B]
def yj (h:cu c g n S=o)(I:o≠ .fail):Jd c g S=o:=by
 have A:∃n,cu c g n S≠ .fail:=⟨n,by rwa [h]⟩;delta Jd;rw[dif_pos A];rcases Nat.le_total n A.choose with l|l
 .rw[Ob (by rw[h];calc I) l,h]
 .rw[<-Ob A.choose_spec l,h]
section
variable {tc:VT}
def anQ (hp:PS X s (GX (vh X.K fi) (yh X.K t js)<|gW X.K g)):PS X s (gW X.K<|mV fi t g):=PS.imp hp λD σ H q=>by
 f_len;unfold mV at q;split at q
 .rename_i B q1;refine(A,G,M,S,F,I,B,q1,λJ Q H1 g1 a=>?_);have p:=I.grow g1;refine(λi m E T=>∃U O,m=(!B) - i/\i<=!B/\VI X.K A Q M U O E T/\gn X.K A G M D (cT t g (B.drop i) U),(_,S,Q,rfl,cv _,p.self,q),?_);rintro i m E T ⟨U,O,rfl,hi,N,L⟩;by_cases C:i<!B
  .have hd:B[i]? =#[B[i]]:=by simp[C]
   rw[ec C] at L;let(go,yl):=a.go i B[i] O T hd N.gf N.sub;generalize B[i]=w at*
   unfold cT at L;cases c:t w U with
   |none=>rw[c] at L;calc L.elim
   |some z=>
    rw[c] at L;simp only at L;refine .inr (go,λf o=>∃m',m'<(!B) - i/\∃Y k,m'=(!B) - (i+1)/\i+1<=!B/\VI X.K A Q M Y k f o/\gn X.K A G M D (cT t g (B.drop<|i+1) Y),λ_ _ h=>h,λx o y=>?_);let(k,g2,hx):=yl x o y;refine(A,Q,M,U,k,N.grow g2,w,z,hx,c,λσ3 _ I3=>(A,Q,M,z,k,I3,?_));cases d:g z with
    |fail=>rw[d] at L;calc L.elim
    |nxt Y=>rw[d] at L;calc λl j n u=>(_,by lk,Y,l,rfl,C,u,L)
    |ret Y b e=>rw[d] at L;exact λv l j n u r=>L v l j n (p.rebase u) r
  .have e:i=!B:=by lk
   subst e;rw[mr<|av _] at L;exact .inl ⟨a.stop _ O T (av _) N.gf N.sub,L O E T<|p.rebase N⟩
 .calc q.elim
def sWh (u:PS X s (aaH (iT X.K tc)<|gW X.K g)):PS X s (gW X.K<|Jd tc g):=PS.imp u λD c H q=>by
 f_len;delta Jd at q;split at q
 .rename_i z;refine(λm C U=>∃B E,VI X.K A G M B E C U/\gn X.K A G M D (cu tc g m B),(z.choose,S,F,I,q),?_);rintro m C U ⟨B,E,N,L⟩;cases m with
  |zero=>calc L.elim
  |succ n=>
   rw[cu] at L;cases k:tc B with
   |none=>rw[k] at L;calc L.elim
   |some b=>
    rw[k] at L;refine(A,G,M,B,E,N,b,k,λT J p=>?_);cases b with
    |false=>erw[dt,dE];calc L T C J<|N.grow p
    |true=>
     erw[dA];simp only at L;refine(λQ J=>∃t,t<n+1/\∃B E,VI X.K A G M B E Q J/\gn X.K A G M D (cu tc g t B),λ_ _ h=>h,A,G,M,B,T,N.grow p,?_);cases O:g B with
     |fail=>rw[O] at L;calc L.elim
     |nxt o=>rw[O] at L;calc λl j Y y=>(n,by lk,o,l,y,L)
     |ret o b e=>rw[O] at L;exact λv l j Y y r=>L v l j Y y r
 .calc q.elim
end
def Cp (A:Nat)(ds:¬()):GS:=ds.map (λd=>#[(.fr,d)])++replicate (A - !ds) none
def fH (n B:Nat)(g:VS):dX:=λA=>if (!A)=n then(match g (Cp B A) with
 |.ret _ b d=>#[(b,d)]
 |.nxt _=>#[(false,.none)]
 |_=>none) else none
def W5 {i:Nat}(h:(Cp A ds)[i]? =#[#[(t,d)]]):ds[i]? =#[d]/\t=.fr:=by delta Cp at h;grind
section
variable {D:Heap}
def aiO {ds:¬()}(E:Same G H)(h:aJ K G ds vs):VI K (λ_=>none) G H (Cp (!N) ds) G (L2.start N vs) H where
 len:=by delta Cp L2.start;simp[!h]
 same:=Same.refl _
 gf:=Same.refl _
 new:=λ_ _ e=>.inl e
 sub:=E
 slot:=λi t d e=>by
  let(B,rfl):=W5 e;let(v,M,A):=h.at B;refine(v,?_,A);have C:i<!vs:=by
   by_cases z:i<!vs
   .exact z
   .rw[bg ∅] at M;cases M
  delta L2.start;rw[bv<|‹C›,ai,M];rfl
 inj:=λi j t J d I v B _ r=>by rw[(W5 B).2] at r;calc absurd r bn
def anR (F:xW K x E st f l)(S:iQ N ps (aP st))
  (u:∀(C:Value) (A:Around) (B:¬Env) (s:Shared) (H:Hp),cY k (A.deeper<|PyProof.Rows.envOfC E (aP st) (~~~s) f C)->jy (iD P w K z D N E (aP st) f C A B s H) (eE st) (gW K g)):
  jA P w K z D (k+1) f l ps (N6 K<|fH (!ps) (!N) g):=by
 refine F.ok S (λc H Q h=>?_)<|λC A B s H c Q hr h=>(_,u C A B s H hr,?_)
 .let(G,U,_,O,b,d,e,_):=h;delta fH at e;f_are
  .rename_i hl;rwa [<-!O]
  .k_go
 .let(G,U,y,O,b,d,e,q):=h;delta fH at e;f_are
  .refine(λ_=>none,G,H,Cp (!N) U,G,aiO y O,?_);f_are
   .rename_i Y i d' M;k_go;rw[M];intro v J T L I r;refine q v J L (I.same,I.gf,I.sub,I.new) ?_;cases b with
    |false=>calc r
    |true=>let((a,j,n,h1,h2,m,o,p,t),_):=r;exact(j,a,n,h1,h2,p,o,m,t)
   .rename_i Y M;k_go;rw[M];intro J T L I;exact q .non J L (I.same,I.gf,I.sub,I.new) rfl
   .k_go
  .k_go
def fnV (F:xW K x B st f G)(S:iQ N ps (aP st))(L:(!ps)=n)(I:(!N)=O)
  (J:∀(E:Value) (A:Around) (C:¬Env) (s:Shared) (H:Hp),cY k (A.deeper<|PyProof.Rows.envOfC B (aP st) (~~~s) f E)->jy (iD P w K M D N B (aP st) f E A C s H) (eE st) (gW K g)):
  jA P w K M D (k+1) f G ps (N6 K<|fH n O g):=by
 subst L I;calc anR F S J
end
open PyProof.Rows (list_addW)
inductive afN (K:Frag)(x:V)(y:V)(H:Hp)(Q:VK):Prop
 |mk:∀l b xs zs,x=.ref l->y=.ref b->aQ K H l xs->aQ K H b zs->(!xs)+(!zs)<=sizeLine->(∀p,H p=none->Q (.ref p) (upd H p<|.lst<|xs++zs))->afN K x y H Q
def agR:cF X (binaryOp .Add) (afN X.K):=by
 intro j s σ H x y v u Q I w a h;let(l,b,xs,zs,rfl,rfl,p,o,hz,q):=h;cases w;cases a;let(B,r,f,z):=I.list p;let(A,m,J,z2):=I.list o;have hl:=!r;have c:=!m;let((k,g,N,i),n,Y,O,t,T):=f;let((M,E,data2,L),d,C,D,U,G):=J;simp only at O T D G;subst O T D G;have e:B.toArray++A.toArray=(B++A).toArray:=by simp
 refine concat_meets (_,Y,rfl) (_,C,rfl) noFill_list_add seq_list_add PySem.F.slot_list_add PySem.F.entry_list_add (PySem.F.args_list_add_2 _ _) (list_addW l b B.toArray A.toArray n d g E i L (by rw[bp,bp];lk)) (Y,C,?_);rw[e];calc(.ref _,_,I.ac9 (r.append m) (by rw[aE];lk),rfl,q _ I.fresh)
def tX:()->()->↑()
 |.list D,.list A=>@ite _ ((!D)+(!A)<=sizeLine) (Classical.propDecidable _) (#[.list<|D++A]) none
 |_,_=>none
def xH:()->()->↑()
 |.list D,.int k=>@ite _ (k<2^63∧-(2^63)<=k/\(!D)*k.toNat<=sizeLine) (Classical.propDecidable _) (#[.list (replicate k.toNat D).flatten]) none
 |_,_=>none
theorem aJ.rep (h:aJ K H ds vs)(k:Nat):aJ K H (replicate k ds).flatten (replicate k vs).flatten:=aJ.p.2<|(aJ.p.1 h).rep k
section
variable {fs:VA}
def dCat (j:PE X a (tV X.K RM T))(k:PE X b (tV X.K RM U)):PE X (.BinOp a .Add b o) (tV X.K RN<|v2 tX T U):=(bY agR j k).imp λ_ H Q q=>by
 f_int;let(x,y,N,O,e):=qK e;refine(A,G,M,S,F,I,x,N,λv E c B l=>(A,G,M,S,E,I.grow B,y,O,λu L f J n=>?_));delta tX at e;f_are
 .f_are
  .rename_i C;k_go;let(p,r,rfl,h1,h2):=RM.list J.fh<|RM.grow J l;let(m,t,rfl,Y,D):=RM.list J.fh n;have g:=B.trans J;refine(p,m,r,t,rfl,rfl,h1,Y,by rw[<-!h2,←!D];calc C,λz C=>q _ L _ (g.trans<|bB.alloc J.fh C) (_,z,_,rfl,rfl,g.hh.free C,J.fh.free C,ao,aJ.append D h2))
  .k_go
 .k_go
def anS (l:PE X a (tV X.K RN Y))(m:PE X b (tV X.K RW j)):PE X (.BinOp a .Mult b r) (tV X.K RN<|v2 xH Y j):=(bY aii l m).imp λ_ H Q q=>by
 f_int;let(x,y,T,U,e):=qK e;refine(A,G,M,S,F,I,x,T,λv E c B o=>(A,G,M,S,E,I.grow B,y,U,λu L f J n=>?_));delta xH at e;f_are
 .f_are
  .rename_i C;k_go;let(s,p,t,N,rfl,w,i,k,D):=o;cases N;have O:=n;subst O;have g:=B.trans J;refine(p,_,t,rfl,rfl,J.hh _ _ k,C.2.1,C.1,by rw[<-!D];calc C.2.2,λz C=>q _ L _ (g.trans<|bB.alloc J.fh C) (_,z,_,rfl,rfl,g.hh.free C,J.fh.free C,ao,aJ.rep (D.same J.ff) _))
  .k_go
 .k_go
end
abbrev Zn:=yc λa b=>.int<|Builtin.bitXor a b
def hXor:iR K Zn (rM λi j=>.int<|Builtin.bitXor i j):=uM λ_ _ _ _=>rfl
def Cq (i:Nat)(f:VE):VS:=λS=>match f S with
 |some d=>if Hr S i=true then .nxt (S.set i<|#[(.fr,d)]) else .fail
 |none=>.fail
section
variable {s:Stmt}
def aiP (h:PS X s (gZ (tV X.K RN f)<|cC i)):PS X s (gW X.K<|Cq i f):=PS.imp h λD N H q=>by
 let(B,G,M,S,F,I,q):=q;delta Cq at q;cases e:f S with
 |none=>rw[e] at q;calc q.elim
 |some d=>
  rw[e] at q;simp only at q;split at q
  .refine(B,G,M,S,F,I,d,e,λv L E g C=>?_);let(A,J,m):=RN.gO g C;exact q A _ E<|(I.grow J).set m
  .calc q.elim
inductive ak4:V->¬V->Hp->VK->Prop
 |mk ys:H l=#[.lst ys]->Q .non (upd H l<|.lst [])->ak4 (.ref l) [] H Q
def Zo (i:Nat):VS:=λS=>match jC S i with
 |some (t,_)=>.nxt<|S.set i<|#[(t,.list [])]
 |none=>.fail
def Zq (i:Nat):VS:=λS=>match jC S i with
 |some (t,A)=>if A=[] then .fail else .nxt (S.set i<|#[(t,.list A.dropLast)])
 |none=>.fail
end
structure Bl (mg:Str->↑Value):Prop where
 len:mg "len"=none
 list:mg "list"=none
 range:mg "range"=none
 enumerate:mg "enumerate"=none
 zip:mg "zip"=none
 abs:mg "abs"=none
 sum:mg "sum"=none
 min:mg "min"=none
 max:mg "max"=none
 int:mg "int"=none
 bool:mg "bool"=none
 tuple:mg "tuple"=none
 str:mg "str"=none
 sorted:mg "sorted"=none
 set:mg "set"=none
 isinstance:mg "isinstance"=none
structure Zr (K:Frag):Prop where
 int:vf K "int"
 bool:vf K "bool"
 list:vf K "list"
 tuple:vf K "tuple"
def agS:vf K "int":=⟨λd C h=>by
 cases d with
 |none=>cases h;kernel_rfl
 |bool _=>cases h;kernel_rfl
 |int _=>cases h;kernel_rfl
 |str _=>cases h;kernel_rfl
 |list _=>cases h;kernel_rfl
 |tuple _=>cases h;kernel_rfl
 |dict _=>cases h⟩
def adC:vf K "bool":=⟨λd C h=>by
 cases d with
 |none=>cases h;kernel_rfl
 |bool _=>cases h;kernel_rfl
 |int _=>cases h;kernel_rfl
 |str _=>cases h;kernel_rfl
 |list _=>cases h;kernel_rfl
 |tuple _=>cases h;kernel_rfl
 |dict _=>cases h⟩
def adD:vf K "list":=⟨λd C h=>by
 cases d with
 |none=>cases h;kernel_rfl
 |bool _=>cases h;kernel_rfl
 |int _=>cases h;kernel_rfl
 |str _=>cases h;kernel_rfl
 |list _=>cases h;kernel_rfl
 |tuple _=>cases h;kernel_rfl
 |dict _=>cases h⟩
def kit_tuple:vf K "tuple":=⟨λd C h=>by
 cases d with
 |none=>cases h;kernel_rfl
 |bool _=>cases h;kernel_rfl
 |int _=>cases h;kernel_rfl
 |str _=>cases h;kernel_rfl
 |list _=>cases h;kernel_rfl
 |tuple _=>cases h;kernel_rfl
 |dict _=>cases h⟩
def anT (K:Frag):Zr K:=(agS,adC,adD,kit_tuple)
inductive abl (K:Frag)(vs:¬V)(H:Hp)(Q:VK):Prop
 |mk:∀(a:Addr) (ns:¬Int),vs=[.ref a]->aQ K H a (ns.map V.int)->(!ns)<=63->(∀H',Q (.bl true) H')->abl K vs H Q
def Zt (K:Frag):Sp:=λJ H Q=>abl K J H Q
def walk {l:PySem.W.OpenLaw}{K:Params->Frag}(C:l.most=#[63])(Q:d.params.defaults=[])(hr:cY k callerA)
  (z:∀(w:World) (h:Heap),m w h->(K w.params).In h)
  (F:∀(w:World) (E:Str->↑Value) (H:Addr) (h:Heap),(K w.params).In h->h.Ns mainGlobals E->E d.name=#[.ref H]->
   ∃B:FuncData,(∀(s:Shared) (u:Value),BindsTo s B ⟨[u],[]⟩ [(x,u)])/\∀D:Heap,(K w.params).In D->D.Ns mainGlobals E->jA l.prog w (K w.params) E D k H B [x] (Zt (K w.params))):
  PySem.W.WalkO q A g m l.row.toRowW d [] (λf vs=>PySem.call f vs):=
 L2.agG C ⋯ Q hr z F λ_ _ a ns N _ hS=>⟨a,ns,rfl,hS,N,λ_=>rfl⟩
def zG (K:Frag)(F:Hp)(A:V):¬(↑())->¬V->Prop:=Paired λo v=>match o with|some d=>Has K F d v|none=>v=A
theorem zG.length {os:¬(↑())}(h:zG K F A os vs):(!os)=!vs:=kr h
def zG.at {os:¬(↑())}{i:Nat}(h:zG K F A os vs):os[i]? =#[o]->∃v,vs[i]? =#[v]/\match o with|some d=>Has K F d v|none=>v=A:=Paired.get h
abbrev Gg:=GS->↑(List<|↑())
inductive Gh (K:Frag)(j:Nat)(fs:Gg)(σ:St)(H:Hp)(Q:(¬V->Hp->Prop)):Prop
 |mk:∀j8 G cQ S F,VI K j8 G cQ S F σ H->∀v0,σ[j]? =#[#[v0]]->∀os,fs S=#[os]->(∀vs F' H',bB F H F' H'->zG K F' v0 os vs->Q vs H')->Gh K j fs σ H Q
def Oc:Gg:=λ_=>#[[]]
def vp (f:VE)(fs:Gg):Gg:=λS=>match f S with
 |some d=>match fs S with
  |some os=>#[#[d]::os]
  |none=>none
 |none=>none
def Je (fs:Gg):Gg:=λS=>match fs S with
 |some os=>#[none::os]
 |none=>none
section
variable {j:Nat}
def io0:PA X [] (Gh X.K j Oc):=PA.imp aq λ_ H Q q=>by let(A,G,M,S,F,I,C,B,os,e,q):=q;cases e;calc q [] F H (bB.refl I.sub) .nil
def ioS (O:PE X e (tV X.K RS f))(hr:PA X D (Gh X.K j fs))(T:(starEach (e::D) X.env=(false,eval e X.env)::starEach D X.env)∣0):PA X (e::D) (Gh X.K j<|vp f fs):=PA.imp (aj O hr T) λ_ H Q q=>by
 let(A,G,M,S,F,I,l,U,os,e,q):=q;delta vp at e;f_are
 .rename_i d k;f_are
  .rename_i B g;k_go;exact(A,G,M,S,F,I,d,k,λv E m C Y=>(A,G,M,S,E,I.grow C,l,U,B,g,λo L N J n=>q _ L N (C.trans J)<|.cons (Has.same J.ff Y) n))
  .k_go
 .k_go
def ioJ (N:PE X e (vR j))(hr:PA X D (Gh X.K j fs))(O:(starEach (e::D) X.env=(false,eval e X.env)::starEach D X.env)∣0):PA X (e::D) (Gh X.K j<|Je fs):=PA.imp (aj N hr O) λU H Q q=>by
 let(A,G,M,S,F,I,T,C,os,e,q):=q;delta Je at e;f_are
 .rename_i B k;k_go;show vR j U H _;delta vR;erw[C];exact(A,G,M,S,F,I,T,C,B,k,λY E J L n=>q _ E J L<|.cons rfl n)
 .k_go
end
abbrev Cr:=¬(↑())->¬()->↑(Bool×()×¬())
inductive afO (K:Frag)(m:Cr)(vs:¬V)(H:Hp)(Q:VK):Prop
 |mk:∀G os a ls xs,Same G H->G a=none->H a=#[.lst xs]->aJ K G ls xs->zG K G (.ref a) os vs->∀b d lE,m os ls=#[(b,d,lE)]->(∀v F' H' xs',bB G (hide a H) F' (hide a H')->F' a=none->H' a=#[.lst xs']->aJ K F' lE xs'->RB b K G (hide a H) F' (hide a H') d v->Q v H')->afO K m vs H Q
def vq (K:Frag)(m:Cr):Sp:=λJ H Q=>afO K m J H Q
def adE (h:H a=#[o])(p:HO):upd (upd H a p) a o=H:=by
 funext b;by_cases B:b=a
 .subst B;rw[ao,h]
 .rw[au B,au B]
def agT (g:bB C (hide a E) A (hide a D))(t:A a=none)(h1:E a=#[o]):bB C E A (upd D a o):=by
 refine(λb u e=>?_,g.ff,λb u e=>?_,λb u e=>?_)
 .by_cases B:b=a
  .subst B;rw[ao];rw[h1] at e;exact e
  .rw[au B];have:=g.hh b u (by rw[hide_ne B];calc e);rw[hide_ne B] at this;exact this
 .have B:=aZ e t;rw[au B];have:=g.fh b u e;rw[hide_ne B] at this;exact this
 .have B:=aZ e t;rcases g.new b u e with z|z|z
  .exact .inl z
  .rw[hide_ne B] at z;exact .inr<|.inl z
  .calc .inr<|.inr z
def VI.bound (I:VI K C G M S F E H)(h:jC S i=#[(t,ds)]):∃a,E[i]? =#[#[.ref a]]/\F a=none/\M a=none:=by
 let(hS,U):=Oa h;let(v,B,D):=I.slot i t _ hS;cases t with
 |fr=>cases U
 |ow=>let(a,_,_,_,rfl,_,A,k,_):=D;calc(a,B,A,k)
 |io=>let(a,_,_,_,rfl,_,A,k,_):=D.1;calc(a,B,A,k)
def Lk {os:¬(↑())}(I:VI K N G M S F y H)(k:jC S j=#[(t,x)])(hf:fs S=#[os])(hm:m os x=#[(b,d,A)])
  (q:∀v C E,VI K N G M (S.set j<|#[(t,.list A)]) C y E->RR K M (S.set j<|#[(t,.list A)]) y C E b d v->Q v E):jH (vq K m) (Gh K j fs) y H Q:=by
 let(a,o,hFa,hH0):=I.bound k;refine⟨N,G,M,S,F,I,_,o,os,hf,λvs F1 H1 s r=>?_⟩;have O:=I.grow s;let(a',xs,B,w,hx,nx):=O.own k;rw[o] at B;cases B;let(a2,L,U,_):=O.bound k;rw[o] at L;cases L;refine⟨F1,os,a,x,xs,s.fh,U,w,hx,r,b,d,A,hm,λv C E u g D J h hr=>?_⟩;have g2:=agT g D w;have c:=nx A u C _ g2 h;rw[adE J] at c;refine q v C E c ?_;cases b with
 |false=>calc hr
 |true=>
  let(es,p,ys,e1,f,n,e4,T,e6):=hr;have l:p≠a:=λz=>by subst z;delta hide at T;lk
  rw[hide_ne l] at n T;refine⟨⟨p,es,ys,e1,f,T,e4,O.same.free n,e6⟩,λi t' d' e ht B=>?_⟩;rw[f] at B;by_cases Y:i=j
  .omega
  .rw[bo<|b8 Y] at e;let(zs,hz):=N8 O e ht B;lk
def Jf (m:Cr)(j:Nat)(fs:Gg)(i:Nat):VS:=λS=>match jC S j,fs S with
 |some (t,x),#[os]=>(match m os x with
  |some (_,d,A)=>if Hr (S.set j<|#[(t,.list A)]) i=true/\i≠j then .nxt ((S.set j<|#[(t,.list A)]).set i<|#[(.fr,d)]) else .fail
  |none=>.fail)
 |_,_=>.fail
def Qt (m:Cr)(j:Nat)(fs:Gg):VS:=λS=>match jC S j,fs S with
 |some (t,x),#[os]=>(match m os x with
  |some (_,_,A)=>.nxt<|S.set j<|#[(t,.list A)]
  |none=>.fail)
 |_,_=>.fail
def Jg (m:Cr)(j:Nat)(fs:Gg):VS:=λS=>match jC S j,fs S with
 |some (t,x),#[os]=>(match m os x with
  |some (b,d,A)=>.ret (S.set j<|#[(t,.list A)]) b d
  |none=>.fail)
 |_,_=>.fail
def gD.ak5 (I:VI K E G M S F L H)(m:gD K M F H d v)(y:∀(i:Nat) t d',S[i]? =#[#[(t,d')]]->t.own=true->L[i]? ≠#[#[v]]):∃J,VI K E G M S J L H/\Has K J d v:=by
 let(a,q,A,rfl,rfl,j,k,r,g):=m;have O:Same F (upd F a<|.lst A):=aK k;refine⟨upd F a<|.lst A,⟨I.len,I.same,I.gf.trans O,λb o e=>?_,λb o e=>?_,λi t d' e=>?_,I.inj⟩,a,A,rfl,aQ.of ao,g.same O⟩
 .by_cases B:b=a
  .omega
  .rw[au B] at e;exact I.new b o e
 .by_cases B:b=a
  .subst B;rw[ao] at e;k_go;exact j
  .rw[au B] at e;exact I.sub b o e
 .let(u,f,D):=I.slot i t d' e;have ow:t.own=true->gD K M F H d' u->gD K M (upd F a<|.lst A) H d' u:=λc ⟨b,C,p,N,Q,l,T,U,Y⟩=>by
   refine⟨b,C,p,N,Q,l,?_,U,Y.same O⟩
   have:b≠a:=λz=>by grind
   rw[au this];exact T
  refine⟨u,f,?_⟩;cases t with
  |fr=>calc Has.same O D
  |ow=>calc ow rfl D
  |io=>calc⟨ow rfl D.1,D.2⟩
section
variable {fs:Gg}
def ak6 {i:Nat}(L:PS X s (gZ (jH (vq X.K m)<|Gh X.K j fs)<|cC i)):PS X s (gW X.K<|Jf m j fs i):=PS.imp L λD T H q=>by
 let(N,G,M,S,F,I,q):=q;delta Jf at q;split at q
 .rename_i t x os Q k;split at q
  .rename_i b d O g;split at q
   .refine Lk I Q k g λv C E B r=>?_;cases b with
    |false=>calc q C _ E<|B.set r
    |true=>let(A,l,J):=gD.ak5 B r.1 r.2;exact q A _ E<|l.set J
   .exact q.elim
  .exact q.elim
 .calc q.elim
def ak7 (C:PS X s (gk<|jH (vq X.K m)<|Gh X.K j fs)):PS X s (gW X.K<|Qt m j fs):=PS.imp C λD O H q=>by
 let(J,G,M,S,F,I,q):=q;delta Qt at q;split at q
 .rename_i t x os N k;split at q
  .rename_i b d L g;exact Lk I N k g λv A E B _=>q A O E B
  .exact q.elim
 .calc q.elim
def aiQ (C:PS X s (tO<|jH (vq X.K m)<|Gh X.K j fs)):PS X s (gW X.K<|Jg m j fs):=PS.imp C λD O H q=>by
 let(J,G,M,S,F,I,q):=q;delta Jg at q;split at q
 .rename_i t x os N k;split at q
  .rename_i b d L g;exact Lk I N k g λv A E B r=>q v A O E B r
  .exact q.elim
 .calc q.elim
end
def wG (A:Nat)(os:¬(↑()))(x:¬()):GS:=os.map (λo=>match o with|some d=>#[(.fr,d)]|none=>#[(.io,.list x)])++replicate (A - !os) none
def Qu:Nat->¬(↑())->Bool
 |_,[]=>false
 |0,none::r=>r.all isSome
 |0,#[_]::_=>false
 |k+1,#[_]::r=>Qu k r
 |_+1,none::_=>false
def Jh (S:GS)(k:Nat):↑(¬()):=match S[k]? with
 |some #[(.io,.list x)]=>#[x]
 |_=>none
def Cu (n B k:Nat)(g:VS):Cr:=λos x=>if (!os)=n/\Qu k os=true then(match g (wG B os x) with
 |.ret S b d=>(match Jh S k with
  |some A=>#[(b,d,A)]
  |none=>none)
 |.nxt S=>(match Jh S k with
  |some A=>#[(false,.none,A)]
  |none=>none)
 |_=>none) else none
theorem zH:∀{k:Nat}{os:¬(↑())},Qu k os=true->∀{i:Nat},os[i]? =#[none]->i=k
 |_,[],h,i,e=>by simp at e
 |0,none::r,h,0,e=>rfl
 |0,none::r,h,i+1,e=>by
  have:=cp.mp (show r.all isSome=true from h) none (ag ‹e›);cases this
 |0,#[_]::_,h,i,e=>by cases h
 |k+1,#[_]::r,h,0,e=>by simp at e
 |k+1,#[_]::r,h,i+1,e=>b9 (· +1)<|zH (k:=k) (os:=r) h<|‹e›
 |k+1,none::_,h,i,e=>by cases h
def Cv {os:¬(↑())}{i:Nat}(h:(wG A os x)[i]? =#[#[(t,d)]]):(os[i]? =#[#[d]]/\t=.fr)\/(os[i]? =#[none]/\t=.io/\d=.list x):=by
 delta wG at h;by_cases N:i<!os
 .rw[bv<|‹N›,ai] at h;cases q:os[i]? with
  |none=>rw[q] at h;cases h
  |some o=>
   rw[q] at h;cases o with
   |some C=>simp at h;calc .inl ⟨by rw[h.2],h.1.symm⟩
   |none=>simp at h;exact .inr ⟨rfl,h.1.symm,h.2.symm⟩
 .rw[cm<|‹N›,fI] at h;split at h<;>cases h
section
variable {D:Heap}
def adF {N:¬Str}{os:¬(↑())}(T:Same G H)(L:G a=none)(O:H a=#[.lst xs])(U:aJ K G x xs)(h:zG K G (.ref a) os vs)(I:Qu k os=true):
  VI K (λi=>if i=k then #[a] else none) G (hide a H) (wG (!N) os x) G (L2.start N vs) H:=by
 have E:∀{i:Nat}{v:V},vs[i]? =#[v]->(L2.start N vs)[i]? =#[#[v]]:=λ{i v} M=>by
  have Q:i<!vs:=by
   by_cases z:i<!vs
   .exact z
   .rw[bg ∅] at M;cases M
  delta L2.start;rw[bv<|‹Q›,ai,M];rfl
 refine(by delta wG L2.start;simp[!h],mR,Same.refl _,λ_ _ e=>.inl e,T,λi t d e=>?_,λi j t o d m v B J r Y _ _=>?_)
 .rcases Cv e with⟨B,rfl⟩|⟨B,rfl,rfl⟩
  .let(v,M,A):=h.at B;exact(v,E M,A)
  .let(v,M,A):=h.at B;have C:=A;subst C;exact(_,E M,(a,x,xs,rfl,rfl,O,L,Ei,U),a,rfl,by rw[zH I B];calc ah rfl)
 .rcases Cv B with⟨_,rfl⟩|⟨g,_,_⟩
  .exact absurd r bn
  .rcases Cv J with⟨_,rfl⟩|⟨l,_,_⟩
   .exact absurd Y bn
   .rw[zH I g,zH I l]
def ak8 (F:xW K x U st f fd)(S:iQ N ps (aP st))(hn:(!ps)=n)(hN:(!N)=nN)
  (c:∀(L:Value) (A:Around) (B:¬Env) (s:Shared) (H:Hp),cY lv (A.deeper<|PyProof.Rows.envOfC U (aP st) (~~~s) f L)->jy (iD P w K mg D N U (aP st) f L A B s H) (eE st) (gW K g)):
  jA P w K mg D (lv+1) f fd ps (vq K<|Cu n nN k g):=by
 subst hn hN;refine F.ok S (λvs H Q h=>?_)<|λL A B s H vs Q hr h=>(_,c L A B s H hr,?_)
 .let(G,os,a,ls,xs,_,_,_,_,hv,b,d,lE,e,_):=h;delta Cu at e;f_are
  .rename_i hl;rw[<-!hv];exact hl.1
  .k_go
 .let(G,os,a,ls,xs,hs,hG,hH,hx,hv,b,d,lE,e,q):=h;delta Cu at e;f_are
  .rename_i hl;refine(_,G,hide a H,wG (!N) os ls,G,adF hs hG hH hx hv hl.2,?_);have T:∀{Y:GS}{J:Hp} {E:St} {O:Hp} {m:¬()},VI K (λi=>if i=k then #[a] else none) G (hide a H) Y J E O->Jh Y k=#[m]->
     ∃C,bB G (hide a H) J (hide a O)/\J a=none/\O a=#[.lst C]/\aJ K J m C/\E[k]? =#[#[.ref a]]:=λ{Y J E O m} I M=>by
    delta Jh at M;split at M
    .rename_i l3 hS;cases M;let(v,hv1,(p,ds,ys,e1,j,l,e4,e5,e6),p2,e7,e8):=I.slot k .io _ hS;cases e1;rw[e7] at j;cases j;have e9:(if k=k then #[a] else none)=#[p]:=e8;rw[ah rfl] at e9;cases e9;refine(ys,(aa5 Ei I.same,I.gf,λb o e=>?_,I.new),e4,l,e6,by rw[hv1,e7]);have c:=aZ e e4;rw[hide_ne c];exact I.sub b o e
    .cases M
   f_are
   .rename_i Y b' d' j;f_are
    .rename_i m l;k_go;rw[j];intro v J E O I r;let(C,u,h1,h2,y,h4):=T I l;refine q v J O C u h1 h2 y ?_;cases b with
     |false=>calc r
     |true=>
      let((p,es,ys,r1,r2,r3,r4,r5,r6),r7):=r;have hS:∃t,Y[k]? =#[#[(.io,t)]]:=by delta Jh at l;grind
      let(t,hS):=hS;have hpa:p≠a:=λz=>by subst z;exact r7 k .io t hS rfl<|by rw[h4,r2]
      exact(es,p,ys,r1,r2,r5,r4,by rw[hide_ne hpa];calc r3,r6)
    .k_go
   .rename_i Y j;f_are
    .rename_i m l;k_go;rw[j];intro J E O I;let(C,u,h1,h2,y,h4):=T I l;exact q .non J O C u h1 h2 y rfl
    .k_go
   .k_go
  .k_go
end
section
variable {B G:Pos}
def gRv (i:Nat):VS:=λS=>match jC S i with
 |some (t,A)=>.nxt<|S.set i<|#[(t,.list A.reverse)]
 |none=>.fail
def ak9 (k:Nat)(y:A)(xs:¬A):¬A:=xs.take k++y::xs.drop k
def aiS (i:Nat)(fs:VA):VS:=λS=>match jC S i,fs S with
 |some (t,A),#[[.int k,d]]=>@ite _ ((!A)<sizeLine/\0<=k/\k<2^62) (Classical.propDecidable _) (.nxt<|S.set i<|#[(t,.list<|ak9 k.toNat d A)]) .fail
 |_,_=>.fail
def abm (i:Nat)(fs:VA):VS:=λS=>match jC S i,fs S with
 |some (t,A),#[[.int k]]=>@ite _ (k.toNat<!A/\0<=k/\k<2^62) (Classical.propDecidable _) (.nxt<|S.set i<|#[(t,.list<|A.eraseIdx k.toNat)]) .fail
 |_,_=>.fail
end
def aiT (ns:¬Int):¬Int:=PyProof.Rows.firstMet (λi=>ns.getD i 0) !ns
section
def agU:()->↑()
 |.list A=>match sV A with
  |some ns=>@ite _ ((!ns)<=4000) (Classical.propDecidable _) (#[.int !(aiT ns)]) none
  |none=>none
 |_=>none
def W6 (f:VE):VE:=v1 agU f
end
open PyProof PyProof.Rows
section
variable {r C:R2}
def anU (w:cF X (compareOp J) r)(E:cF X (compareOp B) C)(p:PE X a ta)(t:PE X b tb)(f:PE X c tc)
  (n:(lastMarks [J,B] [b,c]=false)∣6):PT X (.Compare a [J,B] [b,c] i) (jJ<|Y7 r C ta tb tc):=by
 intro A s D H Q I q;refine isTrue_chain (aV (p A s D H _ I q) ?_) n;rintro v s1 ⟨x,M,Y,r1,h⟩;refine test_link<|aV (t A s1 D M _ Y h) ?_;rintro u s2 ⟨y,N,j,m,e⟩;refine aV (w A s2 D N x y v u _ j r1 m e) ?_;rintro d s3 ⟨z,G,O,r3,g⟩;cases z with
 |bl k=>
  cases r3;refine cq ?_;cases k with
  |false=>calc ite_ff (G,O,g)
  |true=>
   refine ite_tt<|test_last<|aV (f A s3 D G _ O g) ?_;rintro w' s4 ⟨z',T,l,r4,q4⟩;refine aV (E A s4 D T y z' u w' _ l m r4 q4) ?_;rintro d' s5 ⟨z2,U,o,r5,L⟩;cases z2 with
   |bl k2=>cases r5;calc cq (U,o,L)
   |_=>calc False.elim L
 |_=>calc False.elim g
def cCh (Q:cF X (compareOp G) r)(M:iR X.K h r)(D:cF X (compareOp B) C)(A:iR X.K h' C)(J:PE X a (tV X.K RW H))(L:PE X b (tV X.K RW E))(O:PE X c (tV X.K RW I))
  (N:(lastMarks [G,B] [b,c]=false)∣6):PT X (.Compare a [G,B] [b,c] T) (iT X.K<|vB<|oA h h' H E I):=
 PT.imp (anU Q D J L O N) λ_ _ _ q=>Zd (λ_ q=>aiF M A q) q
end
end VM
namespace VM
open PyProof.Rows L2
section
variable {A:Expr}
end
end VM
namespace VM
open L2
set_option exponentiation.threshold 3000
def Cy (h1: -1e100<j)(h2:j<1e100):j.natAbs<2^2000:=by lk
def pX (h1: -1e100<a)(h2:a<1e100)(J: -1e100<b)(M:b<1e100):tR (.int a) (.int b)=#[.int<|a*b]:=ah ⟨Cy h1 h2,Cy J M⟩
def lO (L:0<b)(h1:b<1e100):kI (.int a) (.int b)=#[.int<|a/b]:=ah ⟨L,Cy ∅ h1⟩
def fV (L:0<b):fO (.int a) (.int b)=#[.int<|a % b]:=ah L
def Ji (L:0<=b)(h1:b<=1000)(h2:0<=a)(J:a<1152921504606846976):zE (.int a) (.int b)=#[.int<|a^b.toNat]:=ah (L,h1,by lk)
def Qv (a b:Int):jc (.int a) (.int b)=#[.bool<|decide<|a=b]:=by rfl
def Qw (a b:Int):jr (.int a) (.int b)=#[.bool<|not (decide (a=b))]:=by rfl
def Qx (x:()):isD x .none=#[.bool<|jk x]:=rfl
def Jj (x:()):Ld x .none=#[.bool<|not (jk x)]:=rfl
theorem W7 (P:Nat->GS->Prop):∀(ds:¬()) (i:Nat) (S:GS),P i S->
    (∀(j:Nat) d S,ds[j]? =#[d]->P (i+j) S->∃S1,t d S=#[S1]/\∃S2,g S1=.nxt S2/\P (i+j+1) S2)->∃D,cT t g ds S=.nxt D/\P (i+!ds) D
  |[],i,S,h,_=>(S,rfl,h)
  |d::r,i,S,h,st=>by
   let(S1,B,S2,G,m):=st 0 d S rfl h;let(D,J,E):=W7 P r (i+1) S2 m λj C D e p=>by
     have A:i+1+j=i+(j+1):=by lk
     rw[A] at p ⊢;exact st (j+1) C D ‹e› p
   refine(D, ?_,by rw[a8];have A:i+1+(!r)=i+((!r)+1):=by lk
                   rw[<-A];calc E)
   erw[cT,B];rw[G];calc J
theorem Sq (f:Nat->GS):∀(ds:¬()) (i:Nat),
  (∀(j:Nat) d,ds[j]? =#[d]->∃S1,t d (f<|i+j)=#[S1]/\g S1=.nxt (f<|i+j+1))->cT t g ds (f i)=.nxt (f<|i+!ds)
 |[],i,_=>rfl
 |d::r,i,st=>by
  let(S1,B,G):=st 0 d rfl;have J:=Sq f r (i+1) λj C e=>by
   have A:i+1+j=i+(j+1):=by lk
   rw[A];exact st (j+1) C<|‹e›
  erw[cT];grind
theorem g8:∀{ds:¬()},(∀d∈ds,∃S2,t d S=#[S2]/\A S2=#[true]/\C S2=#[f d])->nR t A C S ds=#[ds.map f]
 |[],_=>rfl
 |d::r,h=>by let(S2,B,G,J):=h d aa;have E:=g8 (ds:=r) (f:=f) λx D=>h x<|ae _ D;erw[nR,B,G,J,E,aS]
theorem Jk:∀{ds:¬()},(∀d∈ds,∃S2,t d S=#[S2]/\C S2=#[p d]/\(p d=true->D S2=#[f d]))->nR t C D S ds=#[(ds.filter p).map f]
 |[],_=>rfl
 |d::r,h=>by
  let(S2,B,G,J):=h d aa;have A:=Jk (ds:=r) (f:=f) (p:=p) λx E=>h x<|ae _ E;cases q:p d with
  |true=>erw[nR,B,G,q,J q,A,fm,dA,aS]
  |false=>erw[nR,B,G,q,A,fm,dt,dE]
def zJ {lo:Int}(h:(jL lo n)[j]? =#[d]):j<n/\d=.int (lo+j):=by
 delta jL at h;rw[ai] at h;by_cases Y:j<n
 .rw[gc Y] at h;cases h;exact⟨Y,rfl⟩
 .rw[bg (by simp;lk)] at h;cases h
def oO (lo:Int)(n:Nat):(!(jL lo n))=n:=by simp[jL]
def Ln (o:Out)(g:VS):Out:=match o with
 |.nxt S=>g S
 |o=>o
def bIf (o:↑Bool)(C J:VS)(S:GS):Out:=match o with
 |some true=>C S
 |some false=>J S
 |none=>.fail
def adG (o:↑Bool)(g:VT)(S:GS):↑Bool:=match o with
 |some true=>g S
 |some false=>#[false]
 |none=>none
def bOr (o:↑Bool)(g:VT)(S:GS):↑Bool:=match o with
 |some true=>#[true]
 |some false=>g S
 |none=>none
def Zu (o:↑())(g:VE)(S:GS):↑():=match o with
 |some (.bool true)=>g S
 |some (.bool false)=>#[.bool false]
 |_=>none
def adH (o:↑())(g:VE)(S:GS):↑():=match o with
 |some (.bool true)=>#[.bool true]
 |some (.bool false)=>g S
 |_=>none
def adI (o:↑Bool)(f g:VE)(S:GS):↑():=match o with
 |some true=>f S
 |some false=>g S
 |none=>none
def b2 (h:()->()->↑())(o:↑())(A:VE)(S:GS):↑():=match o with
 |some x=>(match A S with
  |some y=>h x y
  |none=>none)
 |none=>none
def b1 (h:()->↑())(o:↑()):↑():=match o with
 |some y=>h y
 |none=>none
def bC (o:↑())(fs:VA)(S:GS):↑(¬()):=match o with
 |some d=>(match fs S with
  |some A=>#[d::A]
  |none=>none)
 |none=>none
def bC1 (d:())(o:↑(¬())):↑(¬()):=match o with
 |some A=>#[d::A]
 |none=>none
def bAs (o:↑())(t:VG)(S:GS):Out:=match o with
 |some d=>(match t d S with
  |some D=>.nxt D
  |none=>.fail)
 |none=>.fail
def bNx (o:↑GS):Out:=match o with
 |some D=>.nxt D
 |none=>.fail
def bG (o:↑GS)(u:W4)(r:¬()):↑GS:=match o with
 |some A=>u r A
 |none=>none
def Zv (o:↑(Bool×())):↑():=match o with
 |some (_,d)=>#[d]
 |none=>none
def Qy (o:↑(Bool×())):↑():=match o with
 |some (true,d)=>#[d]
 |_=>none
def Od:Bool->()->↑()
 |true,d=>#[d]
 |false,_=>none
def Ss (b:Bool)(d:()):Od b d=if b=true then #[d] else none:=by cases b<;>rfl
def Qz (d:()):Od true d=#[d]:=rfl
def QB (o:↑(Bool×())):↑():=match o with
 |some (b,d)=>Od (Hq b d) d
 |none=>none
def Jl (o:↑(Bool×())):↑():=match o with
 |some (true,.list D)=>Od (mU D)<|.list D
 |_=>none
def Zw (m:dX)(o:↑(¬())):↑():=match o with
 |some A=>Zv<|m A
 |none=>none
def Sv (m:dX)(o:↑(¬())):↑():=match o with
 |some A=>Qy<|m A
 |none=>none
def Sw (m:dX)(o:↑(¬())):↑():=match o with
 |some A=>QB<|m A
 |none=>none
def Lp (m:dX)(o:↑(¬())):↑():=match o with
 |some A=>Jl<|m A
 |none=>none
def aiW (o:↑(¬()))(t:VG)(g:VS)(S:GS):Out:=match o with
 |some A=>cT t g A S
 |none=>.fail
def bFn (o:Out):↑(Bool×()):=match o with
 |.ret _ b d=>#[(b,d)]
 |.nxt _=>#[(false,.none)]
 |_=>none
def bCh (h':()->()->↑())(y:())(o:↑())(B:VE)(S:GS):↑():=match o with
 |some (.bool true)=>(match B S with
  |some z=>h' y z
  |none=>none)
 |some (.bool false)=>#[.bool false]
 |_=>none
section
variable {b:Bool}
def uN:aN C J S=Ln (C S) J:=rfl
def Jm:Ln (.nxt S) g=g S:=rfl
def Jo:Ln (.ret S b d) g=.ret S b d:=rfl
def Cz:dz c C J S=bIf (c S) C J S:=rfl
def QC:bIf #[true] C J S=C S:=rfl
def Jp:bIf #[false] C J S=J S:=rfl
def El:lG c c2 S=adG (c S) c2 S:=rfl
def Jq:adG #[true] c S=c S:=rfl
def Jr:adG #[false] c S=#[false]:=rfl
def CG:nZ c c2 S=bOr (c S) c2 S:=rfl
def QD:bOr #[true] c S=#[true]:=rfl
def Js:bOr #[false] c S=c S:=rfl
def Em:Le H A S=Zu (H S) A S:=rfl
def Eo:Zu (#[.bool true]) f S=f S:=rfl
def Ep:Zu (#[.bool false]) f S=#[.bool false]:=rfl
def Jt:vOr H A S=adH (H S) A S:=rfl
def Ju:adH (#[.bool true]) f S=#[.bool true]:=rfl
def Jv:adH (#[.bool false]) f S=f S:=rfl
def Jw:vIf c H A S=adI (c S) H A S:=rfl
def Jx:adI #[true] H A S=H S:=rfl
def Jy:adI #[false] H A S=A S:=rfl
def zK:v2 h H A S=b2 h (H S) A S:=rfl
def Hs:b2 h #[x] A S=b1 (h x) (A S):=rfl
def Lq:b1 k #[y]=k y:=rfl
def QF:v1 k f S=b1 k (f S):=rfl
def Er:aC f fs S=bC (f S) fs S:=rfl
def Zx:bC #[d] fs S=bC1 d (fs S):=rfl
def QG:bC1 d #[r]=#[d::r]:=rfl
def Jz:bZ f t S=bAs (f S) t S:=rfl
def QH:bAs #[d] t S=bNx (t d S):=rfl
def QJ:bNx #[S]=.nxt S:=rfl
def QK:gC t u (d::r) S=bG (t d S) u r:=rfl
def Zy:bG #[S] u r=u r S:=rfl
def zL:bF m fs S=Zw m (fs S):=by delta bF Zw Zv;rfl
def Es:Zw m #[ds]=Zv (m ds):=rfl
def wH:yg m fs S=Sv m (fs S):=by delta yg Sv Qy;rfl
def zM:Sv m #[ds]=Qy (m ds):=rfl
def wI:vg m fs S=Sw m (fs S):=by delta vg Sw QB;erw[Ss]<;>rfl
def zN:Sw m #[ds]=QB (m ds):=rfl
def Et:QB #[(b,d)]=Od (Hq b d) d:=rfl
def ux:W3 m fs S=Lp m (fs S):=by delta W3 Lp Jl;erw[Ss]<;>rfl
def wJ:Lp m #[ds]=Jl (m ds):=rfl
def zO:Jl #[(true,.list r)]=Od (mU r) (.list r):=rfl
def JB:Zv #[(b,d)]=#[d]:=rfl
def Eu:Qy #[(true,d)]=#[d]:=rfl
def yp (e:(!ds)=n):fH n A g ds=bFn (g<|Cp A ds):=by delta fH;rw[ah e];rfl
def QL:bFn (.ret S b d)=#[(b,d)]:=rfl
def QM:bFn (.nxt S)=#[(false,.none)]:=rfl
def JC:oA h h' H A B S=(match H S with
 |some x=>(match A S with
  |some y=>bCh h' y (h x y) B S
  |none=>none)
 |none=>none):=rfl
def QS:bCh h' y (#[.bool true]) B S=b1 (h' y) (B S):=rfl
def QT:bCh h' y (#[.bool false]) B S=#[.bool false]:=rfl
def kj (x:A)(r:¬A):cN (x::r) 0=#[x]:=gM rfl
def uy (x y:A)(r:¬A):cN (x::y::r) 1=#[y]:=gM rfl
def JD (x y z:A)(r:¬A):cN (x::y::z::r) 2=#[z]:=gM rfl
def QV (x y z w:A)(r:¬A):cN (x::y::z::w::r) 3=#[w]:=gM rfl
def Ew:mV E t g S=aiW (E S) t g S:=rfl
def JF:aiW #[ds] t g S=cT t g ds S:=rfl
end
def bL (o:↑(¬())):↑():=match o with
 |some D=>#[.list D]
 |none=>none
def bLC (o:↑(¬()))(cap:¬(↑Nat))(t:VG)(B:VT)(C:VE)(S:GS):↑():=match o with
 |some A=>@ite _ (nH S cap=true/\(!A)<sizeLine) (Classical.propDecidable _) (bL<|nR t B C (iV cap S) A) none
 |none=>none
def adJ (o:↑(¬()))(cap:¬(↑Nat))(t:VG)(B:VT)(C:VE)(S:GS):↑():=match o with
 |some A=>@ite _ ((!A)<sizeLine) (Classical.propDecidable _) (bL<|nR t B (Hi C) (iV cap S) A) none
 |none=>none
def bOw (o:↑())(b:Bool)(i:Nat)(t:Tg)(S:GS):Out:=match o with
 |some d=>if b=true then .nxt (S.set i<|#[(t,d)]) else .fail
 |none=>.fail
section
variable {b:Bool}
def yr:jM E cap t B A S=bLC (E S) cap t B A S:=by delta jM bLC bL;rfl
def mJ (h1:nH S cap=true)(h2:(!ds)<sizeLine):bLC #[ds] cap t B A S=bL (nR t B A (iV cap S) ds):=ah ⟨h1,h2⟩
def Ey:Cj E cap t B A S=adJ (E S) cap t B A S:=by delta Cj adJ bL;rfl
def Sx (h2:(!ds)<sizeLine):adJ #[ds] cap t B A S=bL (nR t B (Hi A) (iV cap S) ds):=ah h2
def Zz:bL #[D]=#[.list D]:=rfl
def JG:pA i f S=bOw (f S) (Hr S i) i .ow S:=rfl
def uO:Cq i f S=bOw (f S) (Hr S i) i .fr S:=rfl
def QW:bOw #[d] true i T S=.nxt (S.set i<|#[(T,d)]):=rfl
def adK (o:↑()):↑():=match o with
 |some d=>Od (sU d) d
 |none=>none
def Ez:Hi f S=adK (f S):=by delta Hi adK;erw[Ss]<;>rfl
def JH:adK #[d]=Od (sU d) d:=rfl
def aY (h:n<=16000000):n<sizeLine:=by have e:sizeLine=16777216:=rfl;lk
end
def ob (v:↑()):↑(Tg×()):=v.map λd=>(Tg.fr,d)
def qP (d:()):ob #[d]=#[(Tg.fr,d)]:=rfl
def ig:ob none=none:=rfl
def kW (f:A->()){xs:¬A}{i:Nat}(h:xs[i]? =#[x]):cN (xs.map f) (i:Int)=#[f x]:=gM (by rw[ai,h];rfl)
def vA (h:i<n):pL n (i:Int)=#[i]:=by delta pL;rw[ah ∅,ah ∅];simp
def JK (a b:Int):dW (.int a) (.int b)=#[.int<|a+b]:=rfl
def JL (a b:Int):jX (.int a) (.int b)=#[.int<|a - b]:=rfl
def QX (a b:Int):wF (.int a) (.int b)=#[.bool<|decide<|a<b]:=rfl
def QZ (a b:Int):Bf (.int a) (.int b)=#[.bool<|decide<|a<=b]:=rfl
def Q0 (a b:Int):yd (.int a) (.int b)=#[.bool<|decide<|b<a]:=rfl
def Q5 (a b:Int):geD (.int a) (.int b)=#[.bool<|decide<|b<=a]:=rfl
def JM (a b:Int):Zn (.int a) (.int b)=#[.int<|Builtin.bitXor a b]:=rfl
def W8:↑(Option<|Tg×())->Bool
 |some #[(.io,_)]=>false
 |_=>true
def EY (S:GS)(i:Nat):Hr S i=W8 (S[i]?):=rfl
def JN (o:↑()):W8 (#[ob o])=true:=by cases o<;>rfl
def Q6:W8 #[none]=true:=rfl
def JQ (d:()):W8 (#[#[(.fr,d)]])=true:=rfl
def JR (d:()):W8 (#[#[(.ow,d)]])=true:=rfl
def agV (x:A)(n:Nat):(replicate n [x]).flatten=replicate n x:=by simp
def zP (x:()){n:Nat}(h:n<=16000000):xH (.list [x]) (.int (n:Int))=#[.list<|replicate n x]:=by delta xH;have e:sizeLine=16777216:=rfl;erw[a8,di,dq];rw[ah (by lk,by lk,by lk),agV]
def zQ (ds:¬()):mC "list" (.list ds)=#[.bool true]:=by simp[mC,Ge]
def Fb (i:Int):mC "int" (.int i)=#[.bool true]:=by simp[mC,Ge]
def uz (i:Int):mC "bool" (.int i)=#[.bool false]:=by simp[mC,Ge]
def wK (ds:¬()):mC "tuple" (.tuple ds)=#[.bool true]:=by simp[mC,Ge]
end VM
namespace L2
open PyProof.Rows
def vD (l:¬Nat)(lo hi:↑Int):¬Nat:=(l.drop<|HT.cj (!l) 0 lo).take<|HT.cj (!l) (!l) hi - HT.cj (!l) 0 lo
def iH (z:Str)(lo hi:↑Int):Str:=⟨(vD ⇑z lo hi).toArray⟩
def afQ (o:↑Int)(n d:Nat)(G:d<=n):(match o with
  |none=>(d:Int)
  |some i=>max 0 (min (if i<0 then i+(n:Int) else i) (n:Int)))=((HT.cj n d o:Nat):Int):=by
 cases o with
 |none=>rfl
 |some v=>show max (0:Int) (min (if v<0 then v+(n:Int) else v) (n:Int))=(((if v<0 then(v+(n:Int)).toNat else min v.toNat n:Nat)):Int);split<;>lk
open PySem.Builtin.Str in
def agW (lo hi:↑Int)(n:Nat):strSliceIndices lo hi 1 n=(List.range<|HT.cj n n hi - HT.cj n 0 lo).map λk=>HT.cj n 0 lo+k:=by
 have B:strSliceIndices lo hi 1 n=sliceRange ((HT.cj n 0 lo)) ((HT.cj n n hi):Int) 1:=by rw[<-(afQ lo n 0<|cv _),←(afQ hi n n<|av _)];cases lo<;>cases hi<;>rfl
 rw[B];generalize HT.cj n 0 lo=a;generalize HT.cj n n hi=b;delta sliceRange;erw[show((1:Int)>0)=True by simp,dA];have J:(if(a)<(b:Int) then((b) - (a:Int)+1 - 1)/1 else 0).toNat=b - a:=by
  by_cases h:(a:Int)<b
  .rw[ah h,Int.ediv_one];lk
  .rw[ap h];lk
 rw[J];exact cK λk _=>by lk
open PySem.Builtin.Str in
def adL (z:Str)(t:Tok)(l u:↑(Int×Tok))(H:(!z)<=sizeLine)(q:∀t' k,Q (.str (iH z (l.map (·.1))<|u.map (·.1)) t') {s with toks:=k}):
  (sliceMade z t l u none).post Q s:=by
 delta sliceMade slicePicked;have N:(!⇑z)=!z:=by simp[Str.length]
 have D:=HT.Rx (!z) 0 (cv _)<|l.map (·.1);have E:=HT.Rx (!z) (!z) (av _)<|u.map (·.1);have A:strSliceIndices (l.map (·.1)) (u.map (·.1)) (((none:↑(Int×Tok)).map (·.1)).getD 1) (!z)=_:=agW (l.map (·.1)) (u.map (·.1)) !z;have B:(strSliceIndices (l.map (·.1)) (u.map (·.1)) (((none:↑(Int×Tok)).map (·.1)).getD 1) !z).filterMap (z.cps[·]?)=vD ⇑z (l.map (·.1)) (u.map (·.1)):=by
  rw[A];delta vD;rw[N];generalize Y:HT.cj (!z) 0 (l.map (·.1))=a at*
  generalize G:HT.cj (!z) (!z) (u.map (·.1))=b at*
  by_cases c:a<=b
  .have:=StrLaws.picks ⇑z (b - a) a ∅;simpa using this
  .rw[show b - a=0 by lk];simp
 split
 .rename_i c;have C:(strSliceIndices (l.map (·.1)) (u.map (·.1)) (((none:↑(Int×Tok)).map (·.1)).getD 1) !z).length=!z:=by erw[bc,oe] at c;exact c.2
  rw[A,ac,ka] at C
  have:iH z (l.map (·.1)) (u.map (·.1))=z:=by delta iH vD;rw[N,show HT.cj (!z) 0 (l.map (·.1))=0 by lk,drop_zero,bu (by rw[N];lk)]
  have L:=q t s.toks;rw[this] at L;exact L
 .rw[B];refine⟨?_,q _ _⟩;show(vD ⇑z (l.map (·.1))<|u.map (·.1)).toArray.size<=sizeLine;rw[bp];delta vD;rw[cS,eK,N];lk
section
inductive ai0 (x:V)(lo:↑Int)(hi:↑Int)(H:Hp)(Q:VK):Prop
 |mk:∀z,x=.str z->(!z)<=sizeLine->Q (.str<|iH z lo hi) H->ai0 x lo hi H Q
def ai1:SlR X ai0:=by
 intro C s l H x v j g lo U Y Q I M E N L h;let(z,rfl,J,q):=h;let(t,rfl):=M;refine("str",_,F.slot_str_getitem.lookup,hE s z t,?_);let(o,D,O,G):=E;have part:∀{v:Value}{o:↑Int},IsPart v o->∃p,v=partValue p/\p.map (·.1)=o:=λh=>by
  cases h with
  |none=>calc(none,rfl,rfl)
  |int i t=>exact(#[(i,t)],rfl,rfl)
 let(A,rfl,rfl):=part N;let(B,rfl,rfl):=part L;calc wpAny_getItem_str_slice (o,D,O,G) rfl<|adL z t A B J λT k=>((.str _,H,I.kept λ_ _ e=>e,⟨T,rfl⟩,q))
def Oe:cF X (compareOp .LtE) (λx y H Q=>∃i j,x=.str i/\y=.str j/\Q (.bl<|not (decide (⇑j<⇑i))) H):=by intro A s C H x y v u Q I L M h;let(i,j,rfl,rfl,q):=h;let(t,rfl):=L;let(B,rfl):=M;calc PySem.P.le_str<|Iu I q rfl
end
end L2
namespace VM
open PyProof.Rows L2
def yt:(PyData.str x).canLay0=true↔∀c∈⇑x,c<0x110000:=by show x.cps.all (· <0x110000)=true↔_;rw[oP];simp
def agX {lo hi:↑Int}(h:(PyData.str x).canLay0=true):(PyData.str<|iH x lo hi).canLay0=true:=by rw[yt] at h ⊢;intro c O;calc h c<|gs<|df O
def Fd (x y:Str):⇑(x++y)=⇑x++⇑y:=by show(x.cps++y.cps).toList=_;simp
def agY (h:(PyData.str x).canLay0=true)(g:(PyData.str y).canLay0=true):(PyData.str<|x++y).canLay0=true:=by
 rw[yt] at h g ⊢;intro c O;rw[Fd] at O;rcases aT.mp O with z|z
 .exact h c z
 .calc g c z
def zR:()->()->↑()
 |.str x,.str y=>if (!x)+(!y)<=1000 then #[.str<|x++y] else none
 |_,_=>none
def ala {K:Frag}:iR K zR (λx y H Q=>∃i j,x=.str i/\y=.str j/\(!i)+(!j)<=sizeLine/\Q (.str<|i++j) H):=by
 intro H x y E D d Q e A B q;delta zR at e;f_are
 .f_are
  .rename_i i j C;k_go;let(rfl,n):=A;let(rfl,w):=B;exact(_,_,rfl,rfl,ck C<|by decide,q _ λ_=>⟨rfl,agY n w⟩)
  .k_go
 .k_go
def gR:()->()->↑()
 |.str x,.str y=>#[.bool<|not (decide (⇑y<⇑x))]
 |_,_=>none
def ai2 {K:Frag}:iR K gR (λx y H Q=>∃i j,x=.str i/\y=.str j/\Q (.bl<|not (decide (⇑j<⇑i))) H):=by
 intro H x y E C d Q e A n q;delta gR at e;f_are
 .k_go;let(rfl,B):=A;let(rfl,w):=n;exact(_,_,rfl,rfl,q _ λ_=>rfl)
 .k_go
def pY:¬()->↑()
 |[.str x]=>if (!x)<=1000 then #[.int !x] else none
 |_=>none
def alb {K:Frag}:CallD K pY (λxs H Q=>∃z,xs=[.str z]/\(!z)<=sizeLine/\Q (.int !z) H):=by
 intro H J B d Q e A q;delta pY at e;f_are
 .f_are
  .rename_i x C;k_go;let(v,rfl,rfl,_):=aJ.one A;exact(_,rfl,ck C<|by decide,q _ λ_=>rfl)
  .k_go
 .k_go
def Lr:()->()->↑()
 |.str x,.int i=>if (!x)<=1000 then(cN ⇑x i).map λc=>.str ⟨[c].toArray⟩ else none
 |_,_=>none
abbrev sW:=N5 PyData.str
def pZ (xs:¬Str):sW (xs.map PyData.str)=#[xs]:=Ek λ_ _ h=>by cases h;rfl
def uP {K:Frag}{xs:¬Str}(h:aJ K H (xs.map PyData.str) vs):vs=xs.map V.str:=aJ.flat (g:=PyData.str) (λ_ _ h=>And.left h) h
def Ht (A:Bool):()->()->↑()
 |.str x,.list B=>match sW B with
  |some D=>some<|.bool<|if A then not (D.any λy=>y==x) else D.any λy=>y==x
  |none=>none
 |_,_=>none
def ai3 {K:Frag}:iR K (Ht A) (rIn K A):=by
 intro H x y G I d Q e E n q;delta Ht at e;f_are
 .f_are
  .rename_i D C;k_go;let(rfl,_):=E;let(p,J,rfl,h1,h2):=n;rw[oY C] at h2;rw[uP h2] at h1;have B:∀x:Str,inV (.str x) (D.map V.str)=D.any λy=>y==x:=λx=>by delta inV;rw[any_map];rfl
   refine(p,_,rfl,.inl h1,rfl,by rw[all_map];simp[rF],?_);rw[B];exact q _ λ_=>rfl
  .k_go
 .k_go
section
variable {lo hi:↑Expr}
def anV (k:PE X a (tV X.K RW T))(g:PE X b (tV X.K RW U))(l:Ed b∣7):PE X (.Subscript a b p) (tV X.K RS<|v2 Lr T U):=
 (YX ah9 k g l).imp λ_ _ Q q=>by
  f_int;let(x,y,N,O,e):=qK e;refine(A,G,M,S,F,I,x,N,λv E r D m=>(A,G,M,S,E,I.grow D,y,O,λu H J Y n=>?_));delta Lr at e;f_are
  .rename_i z i;f_are
   .rename_i o;cases L:cN ⇑z i with
    |none=>rw[L] at e;k_go
    |some c=>
     rw[L] at e;k_go;let(rfl,B):=m;refine(z,i,c,rfl,n,ck o<|by decide,L,q _ H J (D.trans Y) ⟨rfl,?_⟩);rw[yt] at B ⊢;intro C t
     have:C=c:=‹t›
     subst this;let(j,_,h2,_):=xV L;exact B C<|ag h2
   .k_go
  .k_go
def vG (f:VE)(l u:GS->↑(↑Int)):VE:=λS=>match f S,l S,u S with
 |some (.str x),#[lo],#[hi]=>if (!x)<=1000 then #[.str<|iH x lo hi] else none
 |_,_,_=>none
def anW (U:PE X e (tV X.K RW f))(Y:PO X lo (Jc X.K fl))(j:PO X hi (Jc X.K N)):PE X (.Subscript e (.Slice lo hi none z) m) (tV X.K RS<|vG f fl N):=
 (qG ai1 U Y j).imp λ_ H Q q=>by
  f_int;delta vG at e;f_are
  .rename_i x l u o p r;f_are
   .rename_i g;k_go;refine(A,G,M,S,F,I,_,o,λv B t C k=>(A,G,M,S,B,I.grow C,l,p,λD y J=>(A,G,M,S,D,(I.grow C).grow J,u,r,λO E T=>?_)));let(rfl,L):=k;exact(x,rfl,ck g<|by decide,q _ O E ((C.trans J).trans T) ⟨rfl,agX L⟩)
   .k_go
  .k_go
end
end VM
namespace L2
open PyProof.Rows
def sgn (z:Str)(i:Nat):↑Str:=(z.cps[i]?).map λc=>⟨[c].toArray⟩
def Its (z:Str):It:=(λi _=>i<!z,λi H x E=>E=H/\∃y,sgn z i=#[y]/\x=.str y,λi _=>(!z)<=i)
def ZC {K:Frag}(z:Str)(t:Tok)(C:Addr):Turn P w K f (Its z) [C] C (λi h=>h.IsStrIter C "str_ascii_iterator" z t i) where
 mem:=by simp
 obj:=λi h st b B=>by
  obtain rfl:b=C:=‹B›
  let(o,e,c,d):=st;exact(o,e,λv y=>by rw[d] at y;cases y)
 keep:=λi h g st k=>let(o,e,r):=st;(o,k C 's' o e,r)
 item:=by
  intro X Q Y O i A s l H I E st T;subst Q Y O;let(G,J,q,L,M,N):=E C 's';have U:i<z.cps.size:=T;have j:z.cps[i]? =#[z.cps[i]]:=by simp[U]
  refine wpAny_pyNext_ascii_item st j λg D u=>?_;have m:Inv X A l H {s with heap:=g,toks:=s.toks+1}:=I.turned (λb o B e=>(u.2 b B).trans e) G J L M N;let(o,e,c,d):=id D;exact(_,rfl,Qh (s:={s with heap:=g,toks:=s.toks+1}) e c d ⋯ (.str ⟨[z.cps[i]].toArray⟩,H,m,⟨_,rfl⟩,(rfl,_,by delta sgn;rw[j];rfl,rfl),D,λb B=>(E b B).1))
 done:=by intro X Q Y O i A s l H I E st T;subst Q Y O;let(G,J,q,L,M,N):=E C 's';have U:z.cps.size<=i:=T;exact wpAny_pyNext_ascii_end I.ok.hd st (by simp[U]) λg p=>⟨rfl,I.turned (t':=s.toks) (λb o B e=>p b o B e) G J L M N⟩
 self:=λ_ _ _ _ _ st h=>wpAny_pyIter_striter_ascii st h
section
variable {tg:Expr}
def ascii (z:Str):Bool:=z.cps.all (· <128)
inductive afR (R:(It->Hp->Prop))(x:V)(H1:Hp):Prop
 |mk:∀z,x=.str z->ascii z=true->R (Its z) H1->afR R x H1
def anY (B:TE):TI:=λA H R=>B A H λx E=>afR R x E
def ai4 {B:TE}(N:PE X l B):PI X tg l (anY B):=by
 intro A s M H R I h;refine aV (N A s M H _ I h) ?_;rintro v O ⟨x,E,D,L,J⟩;let(z,e,G,q):=J;subst e;let(t,rfl):=L;refine wpAny_pyIter_ascii G ?_;refine(~~~O,[~~~O],_,_,E,rfl,D.kept λb o e=>ay _ e,ZC z t _,(_,bj _ rfl,rfl,rfl),λb C=>?_,q);obtain rfl:b= ~~~O:=‹C›
 calc D.Bv (av _)<|D.hok.fresh<|av _
inductive ZD (K:Frag)(xs:¬V)(H:Hp)(Q:VK):Prop
 |mk:∀(p:Addr) (bs:¬Bool),xs=[.ref p]->aQ K H p (bs.map V.bl)->Q (.bl<|bs.all id) H->ZD K xs H Q
def anZ:dO X (.builtin "all") (ZD X.K):=by
 intro M s σ H xs x Q I r h;let(p,A,rfl,k,q):=h;let(u,rfl,l):=vals1 r;cases l;let(B,O,G,d):=I.list k;have L:=!O;rw[ac] at L;have C:∀(i:Nat) v,B[i]? =#[v]->v=.bool (A.getD i true):=λi v e=>by
  have N:i<!A:=by grind
  let(u,J,m):=O.get (i:=i) (a:=.bl A[i]) (by simp[N]);rw[e] at J;cases J;rw[m];simp[List.getD,N]
 refine call_all_walk<|kP G.isList ?_;have D:p≠s.heap.objs.size:=by let(o,n,e,_):=G;exact cw<|bX e
 refine(~~~s,_,_,_,_,_,λi=>A.getD i true,rfl,Walks.list (show X.A.in1.handled=none from I.ok.hd) (~~~s) p D B.toArray,⟨(_,bj _ rfl,rfl,rfl),?_⟩,?_,λc f j=>?_)
 .let(o,n,e,T,w,U):=G;exact(o,ay _ e,T,n,U)
 .intro i v s Q E g Y;rw[C i v<|‹g›];exact cq Y
 .have e:(List.range B.toArray.size).all (λi=>A.getD i true)=A.all id:=by
   rw[bp,←L];rw[pu,cp,cp];constructor
   .intro h b C;let(i,N,rfl):=i7 C;have:=h i<|gz.mpr N;grind
   .intro h i N;have N:=gz.mp N;have:=h A[i]<|gr N;grind
  rw[e];refine(.bl _,H,I.kept λb o t=>j b o ?_<|ay _ t,rfl,q);intro z;have y:b= ~~~s:=‹z›
  calc absurd (bX t) (by rw[y];calc gh _)
end
end L2
namespace VM
open PyProof.Rows L2
def Fe (z:Str):¬():=(⇑z).map λc=>.str ⟨[c].toArray⟩
def jl (f:VE):VA:=λS=>match f S with
 |some (.str z)=>if ascii z=true then #[Fe z] else none
 |_=>none
section
variable {fs:VA}
def itS (j:PE X l (tV X.K RW f)):PI X u l (vh X.K<|jl f):=PI.imp (ai4 j) λ_ H R q=>by
 let(C,G,M,S,F,I,p,e,q):=q;delta jl at e;f_are
 .rename_i z m;f_are
  .rename_i Y;k_go;refine(C,G,M,S,F,I,_,m,λv N T U g=>?_);let(rfl,J):=g;refine(z,rfl,Y,q _ N T U ⟨λi d D O B r o=>⟨?_,λx Q n=>?_⟩,λi D O k _ _=>?_⟩)
   .have:=(af.mp B).1;rw[Fe,ac] at this;assumption
   .let(rfl,y,n,rfl):=n;refine(D,bB.refl o,?_);rw[Fe,ai] at B;let(c,L,rfl):=bq.mp B;have A:z.cps[i]? =#[c]:=‹L›
    delta sgn at n;rw[A] at n;cases n;refine⟨rfl,?_⟩;rw[yt] at J ⊢;intro E t
    have:E=c:=‹t›
    subst this;exact J E<|ag L
   .rw[Fe,ac] at k;assumption
  .k_go
 .k_go
abbrev yu:=N5 PyData.bool
def Gi (xs:¬Bool):yu (xs.map PyData.bool)=#[xs]:=Ek λ_ _ h=>by cases h;rfl
def adM {K:Frag}{xs:¬Bool}(h:aJ K H (xs.map PyData.bool) vs):vs=xs.map V.bl:=aJ.flat (g:=PyData.bool) (λ_ _ h=>h) h
def vH:¬()->↑()
 |[.list A]=>(yu A).map λE=>.bool<|E.all id
 |_=>none
def an0 {K:Frag}:CallD K vH (ZD K):=by
 intro H J A d Q e B q;delta vH at e;f_are
 .rename_i A;cases t:yu A with
  |none=>grind
  |some E=>rw[t] at e;k_go;let(v,rfl,a,D,rfl,h1,h2):=aJ.one B;rw[oY t] at h2;rw[adM h2] at h1;exact(a,E,rfl,h1,q _ λ_=>rfl)
 .k_go
end
end VM
namespace L2
open PyProof.Rows
section
variable [DecidableEq κ]
def eV (B:¬(κ×V))(k:κ):↑V:=(B.find? λA=>decide<|A.1=k).map (·.2)
def putK (B:¬(κ×V))(k:κ)(v:V):¬(κ×V):=
 if(B.any λA=>decide<|A.1=k)=true then B.map (λA=>if A.1=k then(A.1,v) else A) else B++[(k,v)]
def p7 (B:¬(κ×V))(k:κ):¬(κ×V):=B.filter λA=>decide<|A.1≠k
def jY {k:κ}(e:p.1=k):eV (p::r) k=#[p.2]:=by simp[eV,iO,e]
def jt {k:κ}(e:Not (p.1=k)):eV (p::r) k=eV r k:=by simp[eV,iO,e]
def rH (B:¬(κ×V))(k:κ)(v:V):(!(putK B k v))<=(!B)+1:=by
 delta putK;split
 .rw[ac];lk
 .rw[aE,a8,di];lk
def oV.wL (r:oV o u):o.isSome=u.isSome:=by
 cases o with
 |none=>cases u with
  |none=>rfl
  |some _=>calc(show False from r).elim
 |some _=>cases u with
  |none=>calc(show False from r).elim
  |some _=>rfl
def KV.val {vs:¬(κ×Value)}(r:KV B vs)(k:κ):oV (eV B k) (valueAt vs k):=by
 delta KV at r;induction r with
 |nil=>calc dS
 | @cons p q E C h t D=>
  let(h1,h2):=h;by_cases e:p.1=k
  .have A:q.1=k:=h1.symm.trans e;have b:valueAt (q::C) k=#[q.2]:=by simp[valueAt,iO,A]
   rwa [jY e,b]
  .have A:Not (q.1=k):=λz=>e<|h1.trans z;have b:valueAt (q::C) k=valueAt C k:=by simp[valueAt,iO,A]
   rwa [jt e,b]
theorem KV.any (r:KV B vs)(k:κ):(B.any λA=>decide<|A.1=k)=vs.any λA=>decide (A.1=k):=by
 delta KV at r;induction r with
 |nil=>rfl
 |cons h t C=>rw[im,im,C,h.1]
def KV.repl (r:KV B vs)(k:κ)(M:RelV y u):
  KV (B.map λA=>if A.1=k then(A.1,y) else A) (vs.map λA=>if A.1=k then(A.1,u) else A):=by
 delta KV at r ⊢;induction r with
 |nil=>calc .nil
 | @cons p q E D h t C=>rw[aS,aS];refine .cons ?_ C;lk
def KV.put (r:KV B vs)(k:κ)(M:RelV y u):KV (putK B k y) (stored vs k u):=by
 delta putK stored;rw[r.any k];by_cases e:(vs.any λA=>decide<|A.1=k)=true
 .rw[ah e,ah e];exact r.repl k M
 .rw[ap e,ap e];calc Paired.snoc r ⟨rfl,M⟩
def KV.drop (r:KV B vs)(k:κ):KV (p7 B k) (without vs k):=by
 delta KV at r ⊢;delta p7 without;induction r with
 |nil=>calc .nil
 | @cons p q E D h t C=>
  let(h1,h2):=h;rw[fm,fm];by_cases e:p.1=k
  .omega
  .have A:Not (q.1=k):=λz=>e<|h1.trans z;have a:decide (p.1≠k)=true:=by simp[e]
   have b:decide (q.1≠k)=true:=by simp[A]
   rw[ah a,ah b];calc .cons ⟨h1,h2⟩ C
theorem KV.length (r:KV B vs):(!B)=!vs:=kr r
def adN (B:¬(κ×V))(k:κ):(!(p7 B k))<=!B:=f5 _ _
end
def rJ (r:RelV (kV k) u):(strKind P w).is k u=true:=by let(t,e):=r;subst e;simp[PySem.strKind,Value.isStrOf]
section
variable {a:Addr}
def alc (N:j7 P w H h)(e:Rd H a u):gj P w H h a u:=e.ok N
def zT (N:j7 P w H h)(e:Rd H a (.dK B)):(!B)<=sizeLine/\(a==sysModules)=false/\∃vs,KV B vs/\h.DictOf (strKind P w) a vs:=
 show gj P w H h a (.dK B) from alc N e
def rK (N:j7 P w H h)(e:H a=#[.dK B]):(!B)<=sizeLine/\(a==sysModules)=false/\∃vs,KV B vs/\h.DictOf (strKind P w) a vs:=zT N<|.inl e
end
def mD (H:Hp)(a:Addr)(y:V)(r:↑V):Prop:=
 ∃B k,Rd H a (.dK B)/\y=kV k/\r=eV B k
def zU (H:Hp)(a:Addr)(y v:V)(E:Hp):Prop:=
 ∃B k,H a=#[.dK B]/\y=kV k/\(!B)<sizeLine/\E=upd H a (.dK<|putK B k v)
theorem mD.k {k:Key}(e:H a=#[.dK B]):mD H a (kV k) (eV B k):=(B,k,.inl e,rfl,rfl)
theorem zU.k {k:Key}(e:H a=#[.dK B])(N:(!B)<sizeLine):zU H a (kV k) v (upd H a<|.dK<|putK B k v):=(B,k,e,rfl,N,rfl)
section
variable {E:Value->Shared->Prop}
def Inv.big (I:Inv X A B H s):sysModules< ~~~s:=by have h:mainGlobals< ~~~s:=(I.mod.glob.keeps I.bk).lt;calc Nat.lt_trans ⋯ h
def abn (f:A.units+1<cLine)(I:Inv X B U H s)(g:mD H a y #[v])(O:RelV y u)(h:∀C G,Inv X B U H G->RelV v C->Q C G):
  (X.prog\X.w) A (getItem (.ref a) u) Q E s:=by
 let(M,k,e,J,l):=g;subst J;let(z,Y,T,rel,N):=zT I.hok e;let(C,L,D):=oV.some_of (v:=v) (o:=valueAt T k) (by rw[l];calc rel.val k);calc wpAny_getItem_of (rJ O) N.mapOf L<|h C _ (I.tok _) D
def an1 (f:A.units+1<cLine)(I:Inv X B L H s)(g:mD H a y o)(M:RelV y u)(h:∀C,Inv X B L H C->Q (.bool o.isSome) C):
  (X.prog\X.w) A (compareOp .In u<|.ref a) Q E s:=by
 let(J,k,e,D,l):=g;subst D;let(z,G,O,rel,N):=zT I.hok e;refine wpAny_in_of (rJ M) G N.mapOf ?_;rw[<-(rel.val k).wL,←l];calc h _<|I.tok _
def agZ (f:A.units+1<cLine)(I:Inv X B L H s)(g:mD H a y o)(M:RelV y u)(h:∀C,Inv X B L H C->Q (.bool<|not o.isSome) C):
  (X.prog\X.w) A (compareOp .NotIn u<|.ref a) Q E s:=by
 let(J,k,e,D,l):=g;subst D;let(z,G,O,rel,N):=zT I.hok e;refine wpAny_notIn_of (rJ M) G N.mapOf ?_;rw[<-(rel.val k).wL,←l];calc h _<|I.tok _
def Ls (I:Inv X A G H s)(mu:Mut (H a))(D:Heap.SameBut a s.heap h')(Q:∃q,h' a=#[q])(B:gj X.prog X.w (upd H a ob) h' a ob):
  Inv X A G (upd H a ob) {s with heap:=h',toks:=t'}:=
 I.write (x:=a) (e:=a) mu (.inl rfl) (λb q C z=>(D.2 b C).trans z) Q B
def JT (z:(!B)<=sizeLine)(G:(a==sysModules)=false)(rel:KV B vs)(N:h'.DictOf (strKind P w) a vs):
  gj P w A h' a (.dK B):=(z,G,vs,rel,N)
def abo (f:A.units+1<cLine)(I:Inv X D c H s)(g:zU H a y v J)(t:RelV y u)(p:RelV v r)(h:∀G,Inv X D c J G->Q ⟨⟩ G):
  (X.prog\X.w) A (setItem (.ref a) u r) Q E s:=by
 let(C,k,e,M,l,L):=g;subst M L;let(z,T,b,rel,N):=rK I.hok e;have o:(!b)<=sizeLine:=by rwa [<-!rel]
 have Y:(!(putK C k v))<=sizeLine:=by have:=rH C k v;lk
 refine wpAny_setItem_pairs (hsz:=o) (rJ t) N λO B m=>h _ ?_;have U:∃q,O a=#[q]:=let(q,_,_,j,_):=B;⟨q,j⟩;calc Ls I (by rw[e];calc dS) m U (JT Y T (rel.put k p) B)
end
section
variable {E:Value->Shared->Prop}
def ald (I:Inv X G c H s)(e:H a=#[.dK C])(O:RelV (kV k) u)(l:eV C k=#[v])(M:B=[]\/∃x,B=[x])
  (h:∀J T,Inv X G c (upd H a<|.dK<|p7 C k) T->RelV v J->Q J T):(X.prog\X.w) A (call (.builtin "dict.pop") (.ref a::u::B)) Q E s:=by
 let(z,j,U,rel,N):=rK I.hok e;let(J,b,L):=oV.some_of (v:=v) (o:=valueAt U k) (by rw[<-l];calc rel.val k);have p:(keyPart u).isSome=true:=by let(t,q):=O;subst q;rfl
 have Y:argsOk "dict.pop" ⟨.ref a::u::B,[]⟩:=by
  rcases M with q|⟨x,q⟩
  .subst q;exact PySem.F.args_dict_pop_2 _ _
  .subst q;exact PySem.F.args_dict_pop_3 _ _ _
 refine iX mS N.typeIs PySem.F.entry_dict_pop Y (meets_dict_pop_there (strKind X.prog X.w) a (rJ O) B M p)
  (U,J,N,by rwa [<-!rel],b,λg D y=>h J _ ?_ L)
 have m:∃q,g a=#[q]:=let(q,_,_,r,_):=D;⟨q,r⟩;calc Ls I (by rw[e];calc dS) y m (JT (ck (adN C k) z) j (rel.drop k) D)
def ale (I:Inv X B J H s)(e:Rd H a (.dK C))(h:∀t D,Inv X B J H D->Q (.int (!C) t) D):(X.prog\X.w) A (call (.builtin "len") [.ref a]) Q E s:=by let(z,G,L,rel,N):=zT I.hok e;refine call_len_dict G N (by rw[<-!rel];rw[fo] at z;lk) ?_;rw[<-!rel];calc h _ _<|I.tok _
end
def adO (i:Expr):Prop:=∀C B,subscripted i false C B=operate [C,B] (getItem C B)
def W9 {T id:String}
  (N:typeLookup (.type T) "__getitem__"=pure (#[.builtin id]))(M:adO B)
  (h:(prog\w) A (eval C env) (λo G=>(prog\w) A (eval B env) (λi D=>D.TypeIs o T/\(prog\w) A (getItem o i) Q E D) E G) E s):
  (prog\w) A (eval (.Subscript C B Y) env) Q E s:=by
 refine Subscript_<|eB h (λo G J=>eB J (λi D O=>?_) λ_ _ x=>x) λ_ _ x=>x;let(U,O):=O;delta subscriptTail;refine ab ?_;rw[getitemInPython_of_ne U.not_modules];refine ab<|me U N ?_;have I:(prog\w) A (subscripted B false o i) (λr H=>(prog\w) A (letTemporaryGo C o r>>= λ_=>pure r) Q E H) E D:=by rw[M o i];exact wpAny_operating<|eB O (λr H L=>ab<|wpAny_letTemporaryGo<|ax L) λ_ _ x=>x
 first
  |calc ax (ab I)
  |calc ab (ax<|ab I)
  |calc ab I
def VN (I:Inv X A C H s)(g:mD H a y o):s.TypeIs (.ref a) "dict":=by let(B,k,e,_,_):=g;let(_,_,J,_,N):=zT I.hok e;calc N.typeIs
def Q7 (A C:TE):TE:=λB H Q=>A B H λx E=>C B E λy J=>∃a v,x=.ref a/\mD J a y #[v]/\Q v J
def ai5 (C A:TE):TE:=λB H Q=>C B H λy E=>A B E λx J=>∃a o,x=.ref a/\mD J a y o/\Q (.bl o.isSome) J
def Lw (C A:TE):TE:=λB H Q=>C B H λy E=>A B E λx J=>∃a o,x=.ref a/\mD J a y o/\Q (.bl<|not o.isSome) J
def Fg (A I G:TE):TS:=λD B H=>G B H λv E=>A B E λx J=>I B J λy C=>∃a M,x=.ref a/\zU C a y v M/\D.nx B M
section
variable {A B C:TE}
def uQ (f:X.A.units+1<cLine)(U:PE X o A)(hi:PE X i B)(Y:adO i):PE X (.Subscript o i j) (Q7 A B):=by intro D s G H Q I h;refine W9 lj.lookup Y<|aV (U D s G H _ I h) ?_;rintro u q ⟨x,J,M,m,k⟩;refine aV (hi D q G J _ M k) ?_;rintro r t ⟨y,L,N,p,a,v,T,g,l⟩;subst T;obtain rfl:u=Value.ref a:=m;calc⟨VN N g,abn f N g p λb z O E=>(v,L,O,E,l)⟩
def ai6 (f:X.A.units+1<cLine)(hi:PE X i B)(T:PE X o A):PC X .In i o (ai5 B A):=by intro D s E H Q I h;refine aV (hi D s E H _ I h) ?_;rintro p m ⟨y,G,L,l,Y⟩;refine aV (T D m E G _ L Y) ?_;rintro u q ⟨x,J,N,j,a,U,M,g,k⟩;subst M;obtain rfl:u=Value.ref a:=j;calc an1 f N g l λr O=>(.bl U.isSome,J,O,rfl,k)
def Og (f:X.A.units+1<cLine)(hi:PE X i B)(T:PE X o A):PC X .NotIn i o (Lw B A):=by intro D s E H Q I h;refine aV (hi D s E H _ I h) ?_;rintro p m ⟨y,G,L,l,Y⟩;refine aV (T D m E G _ L Y) ?_;rintro u q ⟨x,J,N,j,a,U,M,g,k⟩;subst M;obtain rfl:u=Value.ref a:=j;calc agZ f N g l λr O=>(.bl<|not U.isSome,J,O,rfl,k)
def yw (f:X.A.units+1<cLine)(l:PE X o A)(hi:PE X i B)(p:PE X G C)(m:swapsWith G (#[.Subscript o i J]) M.line X.env=pure false):
  PS X (.Assign [.Subscript o i J] G M) (Fg A B C):=by
 intro E s L H D I h;refine wpAny_Assign_Subscript (aV (p E s L H _ I h) ?_) m;rintro r n ⟨v,N,T,b,q⟩;refine aV (l E n L N _ T q) ?_;rintro u w ⟨x,O,U,c,t⟩;refine aV (hi E w L O _ U t) ?_;rintro iv s3 ⟨y,e,Y,d,a,Q,k,g,z⟩;subst k;obtain rfl:u=Value.ref a:=c;calc abo f Y g d b λs4 j=>(L,Q,j,z)
end
def Sy (h:Heap)(B:sysModules<h.objs.size):gj P w H (h.push {cls:=.type "dict",data:=.dict #[]}) h.objs.size (.dK []):=
 (cv _,nB.mpr<|b8 (cw B),[],.nil,Heap.DictOf.new h)
def ai7:TE:=λ_ H Q=>∀p,H p=none->Q (.ref p) (upd H p<|.dK [])
section
variable {A:Pos}
def Hu:PE X (.Dict [] [] A) ai7:=λB s C H Q I h=>
 wpAny_Dict_empty (.ref (~~~s),_,I.laid (a:= ~~~s) (o:=.dK []) (t':=s.toks) (λ_ _ q=>ay _ q) (av _)<|Sy s.heap I.big,rfl,h _<|I.hok.fresh<|av _)
end
def yx:¬(TE×TE)->St->Hp->(¬(V×V)->Hp->Prop)->Prop
 |[],_,H,Q=>Q [] H
 |(Y,D)::r,B,H,Q=>Y B H λx E=>D B E λy J=>yx r B J λA C=>Q ((x,y)::A) C
abbrev VV:¬(V×V)->¬(Value×Value)->Prop:=Paired λp q=>RelV p.1 q.1/\RelV p.2 q.2
def PPs (X:Cx)(D:Pos)(C:¬(↑Expr))(A:¬Expr)(E:¬(TE×TE)):Prop:=
 ∀(B:¬(Addr×Obj)) (s:Shared) (G:St) (H:Hp) (Q:¬(V×V)->Hp->Prop),Inv X B G H s->yx E G H Q->
  (X.prog\X.w) X.A (evalPairs<|pairTrees C A X.env D) (λM L=>∃J I,Inv X B G I L/\VV J M/\Q J I) NE s
def ag0:PPs X B [] [] []:=λA s C H Q I h=>pairTrees_nil_walk ([],H,I,.nil,h)
def SJ (M:PE X k r)(T:PE X v t)(hr:PPs X B U vs E):
  PPs X B (#[k]::U) (v::vs) ((r,t)::E):=λA s C H Q I h=>
 pairTrees_cons_walk (aV (M A s C H _ I h) λu p (x,D,L,m,j)=>aV (T A p C D _ L j) λb q (y,J,N,o,g)=>
  aV (hr A q C J _ N g) λc z (Y,G,O,rel,l)=>((x,y)::Y,G,O,.cons ⟨m,o⟩ rel,l))
def vI (C B:¬(Key×V)):¬(Key×V):=B.foldl (λA D=>putK A D.1 D.2) C
def KV.merge:∀{A:¬(Key×V)}{rs:¬(Key×Value)} {B:¬(Key×V)} {vs:¬(Key×Value)},KV A rs->KV B vs->KV (vI B A) (merged vs rs):=by
 intro A rs B vs r;delta KV at r;induction r generalizing B vs with
 |nil=>intro q;calc q
 | @cons p q E G h t C=>
  intro D;have e:KV (putK B p.1 p.2) (stored vs q.1 q.2):=by have:=D.put p.1 h.2;rwa [<-h.1]
  calc C e
theorem Bk:∀(A B:¬(Key×V)),(!(vI B A))<=(!B)+!A
 |[],B=>by show (!B)<=(!B)+0;lk
 |p::r,B=>by have h1:=Bk r<|putK B p.1 p.2;have h2:=rH B p.1 p.2;show (!(vI (putK B p.1 p.2) r))<=_;grind
theorem JV:∀{B:¬(Key×V)}{ws:¬(Value×Value)},VV (B.map λA=>(kV A.1,A.2)) ws->∃rs,Carries (strKind P w) ws rs/\KV B rs
 |[],_,r=>by rw[fe] at r;cases r;calc([],dS,.nil)
 |p::B,_,r=>by
  rw[aS] at r;cases r with
  | @cons a b C E h t=>let(rs,c,q):=JV (P:=P) (w:=w) t;let(b1,b2):=b;calc((p.1,b2)::rs,(rJ h.1,rfl,c),.cons ⟨rfl,h.2⟩ q)
def alf (E:¬(TE×TE)):TE:=λD H Q=>∀p,H p=none->yx E D (upd H p<|.dK []) λC J=>J p=#[.dK []]/\∃B:¬(Key×V),C=B.map (λA=>(kV A.1,A.2))/\(!B)<=15/\Q (.ref p) (upd J p<|.dK<|vI [] B)
def ag1 (h:PPs X L C A M)(D:C.all (·.isSome)=true)(k:(!C)=!A)(U:C≠[])
  (J:(!C)<=15):PE X (.Dict C A L) (alf M):=by
 intro G s b H Q I q;refine wpAny_Dict_walk (knd:=strKind X.prog X.w) D k U J<|aV (h G _ b _ _ (I.laid (a:= ~~~s) (o:=.dK []) (h':=s.heap.push {cls:=.type "dict",data:=.dict #[]}) (t':=s.toks) (λ_ _ q=>ay _ q) (av _)<|Sy s.heap I.big)<|q _<|I.hok.fresh<|av (~~~s)) ?_;rintro x n ⟨f,d,N,rel,e,E,T,lk,r⟩;subst T;let(v,c,u):=JV (P:=X.prog) (w:=X.w) rel;let(z,Y,y,t,O):=rK N.hok e;cases t;refine(v,c,O,λg B m=>(.ref (~~~s),_,?_,rfl,r));have p:(!(vI [] E))<=sizeLine:=by have h1:=Bk E [];rw[di] at h1;rw[fo];lk
 have j:∃q,g (~~~s)=#[q]:=let(q,_,_,l,_):=B;⟨q,l⟩;calc Ls N (by rw[e];calc dS) m j (JT p Y (u.merge .nil) B)
structure M1 (X:Cx)(o:Expr)(m:Str)(BR:Pos)(e:Expr)(pO:Pos):Prop where
 base:attributeBase o m X.env (eval o X.env)=eval o X.env
 few:((backTo pO (starEach [e] X.env)).all (λx=>not x.1) && (backToKw pO (keywordEach [] X.env)).all (λx=>x.1.isSome)
  && decide ((!([e]:¬Expr))+(!([]:¬Keyword))+(if([]:¬Keyword).isEmpty then 0 else 1)<30))=true
 line:(BR.endLine==pO.line)=true
 trees:backTo pO (starEach [e] X.env)=[(false,eval e X.env)]
def IsD (H:Hp)(a:Addr):Prop:=∃B,Rd H a (.dK B)
def ai8 (I:Inv X A C H s)(d:IsD H a):
  s.TypeIs (.ref a) "dict"/\(∀b,Value.ref a=.ref b->∃ob,s.heap b=#[ob]/\ob.dict=none)/\(a==sysModules)=false:=by
 let(B,e):=d;let(_,G,J,_,N):=zT I.hok e;refine(N.typeIs,λb q=>?_,G);cases q;let(ob,_,_,h1,h2,_):=N;calc(ob,h1,h2.2.1)
section
variable {E:Value->Shared->Prop}
end
def abp (C D:TE):TE:=λA H Q=>C A H λx E=>∃a,x=.ref a/\IsD E a/\D A E λy J=>∃B k v,J a=#[.dK B]/\y=kV k/\eV B k=#[v]/\Q v (upd J a<|.dK<|p7 B k)
section
variable {A B C:TE}
def SM (p:PE X o A)(g:PE X e B)(m:M1 X o "pop" E e G):PE X (.Call (.Attribute o "pop" E) [e] [] G) (abp A B):=by intro D s M H Q I h;refine wpAny_Call_method m.base m.few m.line c9 mS PySem.F.type_dict_pop<|aV (p D s M H _ I h) ?_;rintro u c ⟨x,N,L,z,a,Y,d,r⟩;subst Y;obtain rfl:u=Value.ref a:=z;let(f,n,_):=ai8 L d;refine(f,n,?_);rw[m.trees];refine ja rfl<|Calls.evalArgs_plain<|kM<|aV (g D c M N _ L r) ?_;rintro i s2 ⟨y,w,O,b,q,k,v,U,j,l,t⟩;refine k0 ?_;subst j;calc ald O U b l (.inl rfl) λw' s3 T J=>(v,_,T,J,t)
end
section
variable {E:Value->Shared->Prop}
end
section
variable {E:Value->Shared->Prop}
end
end L2
namespace VM
open L2 PySem.W PySem.Calls PyProof.Rows
section
variable {X:Cx}
end
end VM
namespace VM
open L2
abbrev Pq:=Int×Int×Int×Int
def pD (q:Pq):():=.tuple [.int q.1,.int q.2.1,.int q.2.2.1,.int q.2.2.2]
def yC (ps:¬Pq):():=.list<|ps.map pD
abbrev bU:=N5 pD
def adP (ps:¬Pq):bU (ps.map pD)=#[ps]:=Ek λa b h=>by simpa [pD,Prod.ext_iff] using h
def wM (m e:Int)(x:Int):():=.tuple [.int m,.int e,.int x]
def oh:Nat->¬Pq->Int->¬()
 |_,[],_=>[]
 |k,q::r,u=>(if q.1=u then [wM (2*k) q.2.1 q.2.2.2] else [])++((if q.2.1=u then [wM (2*k+1) q.1<|-q.2.2.2] else [])++oh (k+1) r u)
theorem Oh (q:Pq)(u:Int):∀(r:¬Pq) (k:Nat),oh k (r++[q]) u=oh k r u++((if q.1=u then [wM (2*((k+(!r):Nat):Int)) q.2.1 q.2.2.2] else [])++(if q.2.1=u then [wM (2*((k+(!r):Nat):Int)+1) q.1<|-q.2.2.2] else []))
 |[],k=>by simp[oh]
 |p::r,k=>by
  rw[jS,oh,oh,Oh q u r<|k+1];have e:k+1+(!r)=k+!(p::r):=by simp;lk
  rw[e];erw[cr]
theorem Hv (u:Int):∀(r:¬Pq) (k:Nat),(!(oh k r u))<=2*!r
 |[],_=>cv _
 |q::r,k=>by
  have A:=Hv u r<|k+1;have a:(!(if q.1=u then [wM (2*k) q.2.1 q.2.2.2] else []))<=1:=by split<;>simp
  have b:(!(if q.2.1=u then [wM (2*k+1) q.1<|-q.2.2.2] else []))<=1:=by split<;>simp
  rw[oh,aE,aE,a8];lk
def dG (ps:¬Pq)(n:Nat):():=.list<|(List.range n).map λ(u:Nat)=>.list<|oh 0 ps (u:Int)
def fL:dX:=λB=>match B with
 |[.int m,.list A]=>(match bU A with
  |some E=>if 0<=m/\m<=1000/\(!E)<=1000/\(∀q∈E,(0<=q.1/\q.1<m)/\0<=q.2.1/\q.2.1<m) then #[(false,dG E m.toNat)] else none
  |none=>none)
 |_=>none
def JW (L:0<=m)(h1:m<=1000)(h2:(!ps)<=1000)(J:∀q∈ps,(0<=q.1/\q.1<m)/\0<=q.2.1/\q.2.1<m):fL [.int m,yC ps]=#[(false,dG ps m.toNat)]:=by delta fL yC;erw[adP];rw[ah (L,h1,h2,J)]
structure MI (K:Frag)(G cQ:Hp)(D:Addr)(bs:¬Addr)(f:Nat->¬())(H:Hp):Prop where
 ex:∃F,Same cQ H/\Same G F/\Same F H/\(∀a o,F a=#[o]->G a=#[o]\/xZ o=true)/\F D=none/\cQ D=none/\H D=#[.lst<|bs.map V.ref]/\Not (D∈bs)/\bs.Nodup/\
  (∀b∈bs,F b=none/\cQ b=none)/\∀(u:Nat) b,bs[u]? =#[b]->∃ys,H b=#[.lst ys]/\aJ K F (f u) ys
section
variable {f f':Nat->¬()}
def MI.congr (I:MI K G M D E f H)(h:∀u,u<!E->f u=f' u):MI K G M D E f' H:=by let(F,h1,h2,J,C,k,L,N,O,Q,A,B):=I.ex;refine(F,h1,h2,J,C,k,L,N,O,Q,A,λu b e=>?_);grind
def MI.put (I:MI K G M D v f H)(j:v[u]? =#[b])(Y:H p=none)(s:∀w,f' w=if w=u then f w++[wM m e x] else f w):
  ∃ys,H b=#[.lst ys]/\(upd H p<|.tup [.int m,.int e,.int x]) b=#[.lst ys]/\(!ys)=!(f u)/\MI K G M D v f' (upd (upd H p<|.tup [.int m,.int e,.int x]) b<|.lst<|ys++[.ref p]):=by
 let(F,h1,h2,y,h,h5,h6,c,d,n,B,L):=I.ex;let(ys,g,q2):=L u b j;have E:=ag j;have U:=aZ g Y;have O:=aZ c Y;have q:D≠b:=λz=>d<|z▸E;have C:=y.free Y;refine(ys,g,by rw[au U];calc g,q2.length.symm,upd F p<|.tup [.int m,.int e,.int x],?_,h2.trans<|aK C,?_,?_,?_,h6,?_,d,n,?_,?_)
 .intro a o e;have A:=aZ e (B b E).2;rw[au A];exact aK Y a o<|h1 a o e
 .intro a o e;by_cases A:a=p
  .subst A;rw[ao] at e;rw[au<|b8 U,ao];exact e
  .rw[au A] at e;have r:=aZ e (B b E).1;rw[au r,au A];exact y a o e
 .intro a o e;by_cases A:a=p
  .subst A;rw[ao] at e;k_go;exact .inr rfl
  .rw[au A] at e;exact h a o e
 .rw[au O];exact h5
 .rw[au q,au O];exact c
 .intro N Q
  have:N≠p:=λz=>by subst z;let(u',e'):=gi.mp Q;grind
  rw[au this];exact B N Q
 .intro w N k;let(zs,l,i):=L w N k;have T:=aZ l Y;by_cases J:w=u
  .subst J;rw[j] at k;cases k;rw[g] at l;cases l;refine(ys++[.ref p],ao,?_);rw[s,ah rfl];have hv:Has K (upd F p<|.tup [.int m,.int e,.int x]) (wM m e x) (.ref p):=(p,_,rfl,bK.of ao,_,_,rfl,rfl,_,_,rfl,rfl,_,_,rfl,rfl,rfl);exact aJ.snoc hv<|aJ.same (aK C) i
  .have t:N≠b:=λz=>by
    subst z;exact J ((op (by
     grind) n).mp (by rw[k,j]))
   refine(zs,by rw[au t,au T];calc l,?_);rw[s,ap J];calc aJ.same (aK C) i
def MI.fin (I:MI K G M D E f H):∃F,bB G M F H/\Has K F (.list<|(List.range !E).map λu=>.list<|f u) (.ref D):=by
 let(F,h1,h2,U,q,t,v,Y,y,z,T,L):=I.ex;let B:Hp:=λa=>if a=D\/a∈E then H a else F a
 have J:∀a,B a=if a=D\/a∈E then H a else F a:=λ_=>rfl
 have O:Same F B:=λa o e=>by grind
 refine(B,(h1,h2.trans O,λa o e=>?_,λa o e=>?_),?_)
 .rw[J] at e;f_are
  .exact e
  .exact U a o e
 .grind
 .refine(D,E.map V.ref,rfl,aQ.of (by rw[J,ah<|.inl rfl];calc Y),?_);have N:∀(A:¬Addr) (k:Nat),(∀i b,A[i]? =#[b]->E[k+i]? =#[b])->aJ K B ((List.range' k !A).map λu=>PyData.list<|f u) (A.map V.ref):=λA=>by
   induction A with
   |nil=>intro k _;rfl
   |cons b r g=>intro k Q;have C:=Q 0 b rfl;let(p,l,m):=L k b C;rw[a8,o1];refine(_,_,rfl,(b,p,rfl,aQ.of (by rw[J,ah<|.inr<|ag C];calc l),aJ.same O m),g (k+1) λi c j=>?_);have:=Q (i+1) c ‹j›;lk
  have:=N E 0 λi b C=>by rw[ii];exact C
  rw[nr];lk
end
open PyProof.Rows
section
variable {K:Frag}
end
def aG (e:B[i]? =#[#[v]])(q:Q v H):vR i B H Q:=by delta vR;rw[e];calc q
section
variable {X:Cx}{rest:¬Stmt}
end
end VM
namespace L2
section
variable {X:Cx}
def gx (h:(glB X.env.scope x=true)∣10):Gl X x:=gl h
def lx (h:(adh X.env.scope x=true)∣10):Loc X.env.scope x:=lo h
def cY.mo (r:cY k A)(h:(j<=k)∣1):cY j A:=r.mono h
end
section
variable {sc:Scope}
def fs (a:(sc.kind=.function)∣0)(b:(sc.isCoroutine=false)∣0)(c:(sc.isGenerator=false)∣0)(d:N.Nodup∣2)(e:(N.take (!P)=P)∣0)(f:(∀x∈P,sc.names.lookup x=some .local\/sc.names.lookup x=some .cell)∣2)(g:(∀y∈sc.names,y.2≠ .free)∣2):iQ N P sc:=(a,b,c,d,e,f,g)
def iQ.vt (_:iQ N P sc)(h:(N.all (λx=>nY sc x && plain x)=true)∣2):N.all (λx=>nY sc x && plain x)=true:=h
end
section
variable {sc:Scope}
def pU (i:Nat)(vt:N.all (λx=>nY sc x && plain x)=true:=by calc vt)(C:(X.N[i]? =#[x])∣0)(A:(X.N=N)∣0)(B:(X.env.scope=sc)∣0):PE X (.Name x D) (vR i):=pV vt i C A B
end
def pS (i:Nat)(Q:PE X e te)(B:X.N.Nodup∣11)(hi:(X.N[i]? =#[x])∣0)(G:Loc X.env.scope x∣12)(E:(swapsWith e (#[.Name x C]) A.line X.env=pure false)∣0)(D:(X.fn x=true\/X.env.scope.names.lookup x=some .local)∣3):PS X (.Assign [.Name x C] e A) (gZ te<|cC i):=Bu B hi G Q E D
def pG (i:Nat)(A:X.N.Nodup∣11)(hi:(X.N[i]? =#[x])∣0)(B:Loc X.env.scope x∣12)(C:(X.fn x=true\/X.env.scope.names.lookup x=some .local)∣3):PG X (.Name x D) (cC i):=xR A hi B C
def pC {n:Nat}(C:Cal X.prog X.w X.K X.mg X.base k x ps H)(G:PA X (e::D) t)(hr:cY n X.A∣9)(M:(k<=n)∣1)(N:Gl X x:=by calc gx)
  (A:((x==("__debug__":Str))=false)∣1)(Q:(starEach (e::D) X.env=(false,eval e X.env)::starEach D X.env)∣0)(E:((backTo B<|starEach D X.env).any (·.1)=false)∣0):
  PE X (.Call (.Name x p) (e::D) [] B) (jH H t):=afw C (hr.mono M) N G A Q E
end L2
namespace VM
def ZF:Nat->(¬A->Prop)->Prop
 |0,p=>p []
 |n+1,p=>∀x,ZF n λl=>p (x::l)
def ZF.go {us:¬B}:∀{p},ZF (!us) p->p us:=by
 induction us with
 |nil=>calc λh=>h
 |cons x l A=>calc λh=>A<|h x
end VM
namespace cA
open L2 VM
def top (i:Nat):Stmt:=PySem.Challenge.pw_leavehall_k71_whole_desk.main.body.getD i<|.Pass (0,0,0,0)
abbrev bT (j:Nat):Stmt:=inClass (top 37) j
def Gj:Stmt->Str
 |.FunctionDef x _ _ _ _ _ _ _ _ _=>x
 |_=>Str.empty
def yD (s:Stmt):¬Str:=(lY s).args.map (·.arg)
def BD (q:Str)(st:Stmt):Prop:=ZF (!(yD st)) λC=>∀kV Y k O D U,bindArgs (fnOf (Gj st) q (lY st) (eE st) (aP st) .none kV Y k O D U) ⟨C,[]⟩=pure ((yD st).zip C)
def BD.b (h:BD q st)(F:xW K (Gj st) q st f A):Binds A (yD st):=F.binds λ_ _ _ _ _ _ C N=>by delta BD at h;rw[<-N] at h;calc h.go _ _ _ _ _ _
structure Ms (P:Program)(w:World)(K:Frag)(mg:Str->↑Value)(base:Heap)(C:Addr)(lv:Nat)(m:Str)(ps:¬Str)(sp:Sp):Prop where
 ex:∃f fd,jA P w K mg base lv f fd ps sp/\Meth K C m f/\Binds fd ps
structure En where
 P:Program
 w:World
 mg:Str->↑Value
 base:Heap
inductive GF (E:En)(K:Frag)(i:Nat):Prop
 |mk (F:xW K (Gj<|top i) q (top i) f fd) (g:E.mg (Gj<|top i)=#[.ref f])
inductive MF (E:En)(K:Frag)(C:Addr)(st:Stmt):Prop
 |mk (F:xW K (Gj st) q st f fd) (g:Meth K C (Gj st) f)
section
variable (E:En)(K:Frag)
abbrev CO (i A:Nat)(B:Sp):Prop:=Cal E.P E.w K E.mg E.base A (Gj<|top i) (yD<|top i) B
abbrev CV (i A:Nat)(m:dX):Prop:=CO E K i A<|N6 K m
abbrev MO (C:Addr)(st:Stmt)(A:Nat)(B:Sp):Prop:=Ms E.P E.w K E.mg E.base C A (Gj st) (yD st) B
def afT (st:Stmt)(N:¬Str)(k:Nat)(G:Sp):Prop:=∀{q f D A B s J Q} (H:Hp),N.Nodup->N.all (λx=>nY (aP st) x && plain x)=true->cY k (A.deeper<|PyProof.Rows.envOfC q (aP st) (~~~s) f D)->G J H Q->∃t,jy (iD E.P E.w K E.mg E.base N q (aP st) f D A B s H) (eE st) t/\t {nx:=λ_ C=>Q .non C,rt:=Q} (L2.start N J) H
end
section
variable (N:¬Str)
theorem Gk (h:GF E K i)(len:∀vs H Q,A vs H Q->(!vs)=!(yD<|top i))(C:afT E K (top i) N k A)(S:iQ N (yD<|top i) (aP<|top i)∣8)(vt:(N.all (λx=>nY (aP<|top i) x && plain x)=true)∣2)
    (B:∀q,BD q (top i):=by repeat intro _
                           rfl):CO E K i (k+1) A:=let⟨F,g⟩:=h;⟨_,_,F.ok S len λ_ _ _ _ H _ _=>C H S.nd vt,g,F.kp,(B _).b F⟩
def sX (h:MF E K C st)(len:∀vs H Q,A vs H Q->(!vs)=!(yD st))(D:afT E K st N k A)(S:iQ N (yD st) (aP st)∣8)(vt:(N.all (λx=>nY (aP st) x && plain x)=true)∣2)
    (B:∀q,BD q st:=by repeat intro _
                      rfl):MO E K C st (k+1) A:=let⟨F,g⟩:=h;⟨_,_,F.ok S len λ_ _ _ _ H _ _=>D H S.nd vt,g,(B _).b F⟩
theorem iu (h:GF E K i)(I:∀{q f D A B s H},N.Nodup->N.all (λx=>nY (aP<|top i) x && plain x)=true->cY k (A.deeper<|PyProof.Rows.envOfC q (aP<|top i) (~~~s) f D)->jy (iD E.P E.w K E.mg E.base N q (aP<|top i) f D A B s H) (eE<|top i) (gW K g))
    (S:iQ N (yD<|top i) (aP<|top i)∣8)(vt:(N.all (λx=>nY (aP<|top i) x && plain x)=true)∣2)(J:((!(yD<|top i))=n)∣0)(G:((!N)=L)∣0)
    (C:∀q,BD q (top i):=by repeat intro _
                           rfl):CV E K i (k+1) (fH n L g):=let⟨F,e⟩:=h;⟨_,_,fnV F S J G λ_ _ _ _ _=>I S.nd vt,e,F.kp,(C _).b F⟩
end
section
variable {t:TA}
def pM {n:Nat}(M:Ms X.prog X.w X.K X.mg X.base C k m ps O)(Q:PE X o T)(I:PA X (e::D) t)(c:Cls X.K C∣13)(hr:cY n X.A∣9)(L:(k<=n)∣1)
  (G:(starEach (e::D) X.env=(false,eval e X.env)::starEach D X.env)∣0)(E:((backTo A<|starEach D X.env).any (·.1)=false)∣0)
  (U:eval (.Call (.Attribute o m B) (e::D) [] A) X.env=(do
   let H<-eval o X.env
   standAt B.atName
   let(f,first)<-holding [H] (getMethod H m pl)
   callWith A f first (backTo A (starEach (e::D) X.env)) (backToKw A (keywordEach [] X.env))):=by rfl):
  PE X (.Call (.Attribute o m B) (e::D) [] A) (iw C m O T t):=let⟨_,_,F,N,J⟩:=M.ex;agE Q c N F (hr.mono L) J I G E U
def pM0 {n:Nat}(M:Ms X.prog X.w X.K X.mg X.base C k m ps I)(Q:PE X o J)(c:Cls X.K C∣13)(hr:cY n X.A∣9)(G:(k<=n)∣1)
  (U:eval (.Call (.Attribute o m B) [] [] A) X.env=(do
   let D<-eval o X.env
   standAt B.atName
   let(f,first)<-holding [D] (getMethod D m pl)
   callWith A f first (backTo A (starEach [] X.env)) (backToKw A (keywordEach [] X.env))):=by rfl):
  PE X (.Call (.Attribute o m B) [] [] A) (iw C m I J cV):=let⟨_,_,F,H,E⟩:=M.ex;ac6 Q c H F (hr.mono G) E U
end
open PyProof.Rows
abbrev Q4:=Int×Int×Int×Int
def xJ (x:Str×Int):Key×V:=(x.1,.int x.2)
def vJ (H:Hp)(A:Key×V)(x:Str×Q4):Prop:=A.1=x.1/\∃t,A.2=.ref t/\H t=#[.tup [.int x.2.1,.int x.2.2.1,.int x.2.2.2.1,.int x.2.2.2.2]]
structure aU (H:Hp)(C p dx nn ll:Addr)(nums:¬(Str×Int))(ls:¬(Str×Q4)):Prop where
 ins:H p=#[.ins C dx [("numbers",.ref nn),("laid",.ref ll)]]
 num:H nn=#[.dK<|nums.map xJ]
 laid:∃fU,H ll=#[.dK fU]/\Paired (vJ H) fU ls
 ne:nn≠ll
def vJ.same (k:∀t xs,H t=#[.tup xs]->E t=#[.tup xs])(h:vJ H A x):vJ E A x:=let⟨a,t,b,c⟩:=h;(a,t,b,k t _ c)
def aU.grow (h:aU H C p A G D nums x)(k:Same H E):aU E C p A G D nums x:=by let(a,b,(B,c,d),n):=h;calc(k _ _ a,k _ _ b,(B,k _ _ c,d.mono λ_ _ z=>z.same λt I e=>k _ _ e),n)
def eX (nm:Str):¬(Str×A)->↑A
 |[]=>none
 |x::r=>if x.1=nm then #[x.2] else eX nm r
def jZ (nm:Str)(v:A)(l:¬(Str×A)):¬(Str×A):=if(l.any λx=>decide<|x.1=nm)=true then l.map (λx=>if x.1=nm then(x.1,v) else x) else l++[(nm,v)]
def rN (nm:Str)(l:¬(Str×A)):¬(Str×A):=l.filter λx=>not (decide (x.1=nm))
theorem Fj (nm:Str):∀nums:¬(Str×Int),eV (nums.map xJ) nm=(eX nm nums).map V.int
 |[]=>rfl
 |x::r=>by
  rw[aS,eX];by_cases e:x.1=nm
  .rw[ah e,jY (by show x.1=_;rw[e])];rfl
  .rw[ap e,jt (by intro z;calc e<|z),Fj nm r]
def yE (nm:Str)(r:Paired (vJ H) B C):match eX nm C with
  |none=>eV B nm=none
  |some q=>∃t,eV B nm=#[.ref t]/\H t=#[.tup [.int q.1,.int q.2.1,.int q.2.2.1,.int q.2.2.2]]:=by
 induction r with
 |nil=>rfl
 | @cons D x _ _ h _ A=>
  let(h1,t,h2,J):=h;rw[eX];by_cases e:x.1=nm
  .rw[ah e];exact(t,by rw[jY<|by rw[h1,e],h2],J)
  .rw[ap e];rw[jt (by intro z;rw[h1] at z;calc e<|z)];calc A
def ai9 (nm:Str)(h:Paired (vJ H) B D):(B.any λC=>decide<|C.1=nm)=D.any λx=>decide (x.1=nm):=by
 induction h with
 |nil=>rfl
 |cons h _ A=>rw[im,im,A,h.1]
def abq {nm:Str}(U:H t=#[.tup [.int q.1,.int q.2.1,.int q.2.2.1,.int q.2.2.2]])(h:Paired (vJ H) B x):
  Paired (vJ H) (putK B nm<|.ref t) (jZ nm q x):=by
 delta putK jZ;rw[ai9 nm h];split
 .rename_i c;clear c;induction h with
  |nil=>calc .nil
  | @cons a b _ _ h _ A=>
   rw[aS,aS];refine .cons ?_ A;by_cases e:b.1=nm
   .rw[ah<|by rw[h.1,e],ah e];exact(h.1,t,rfl,U)
   .rw[ap (by intro z;rw[h.1] at z;calc e<|z),ap e];exact h
 .rename_i c;clear c;induction h with
  |nil=>calc .cons (rfl,t,rfl,U) .nil
  |cons h _ A=>calc .cons h A
def Xa {nm:Str}(h:Paired (vJ H) B x):Paired (vJ H) (p7 B nm) (rN nm x):=by
 delta p7 rN;induction h with
 |nil=>calc .nil
 | @cons a b _ _ h _ A=>
  rw[fm,fm];by_cases e:b.1=nm
  .rw[ap (by rw[h.1,e];simp),ap<|by simp[e]];exact A
  .have N:a.1≠nm:=λz=>by rw[h.1] at z;exact e (z)
   rw[ah<|az N,ah<|by simp[e]];calc .cons h A
def ag2 (nm:Str)(v:Int)(nums:¬(Str×Int)):putK (nums.map xJ) nm (.int v)=(jZ nm v nums).map xJ:=by
 delta putK jZ;rw[show((nums.map xJ).any λA=>decide<|A.1=nm)=nums.any λx=>decide (x.1=nm) by rw[any_map];rfl];split
 .rw[bE,bE];refine cK λx _=>?_;by_cases e:x.1=nm
  .exact(ah e).trans (by rw[comp,ah e];rfl)
  .exact(ap e).trans<|by rw[comp,ap e]
 .rw[bP];rfl
def fD (G D:Addr)(H E:Hp):Prop:=∀b o,b≠G->b≠D->H b=#[o]->E b=#[o]
def fD.same (h:Same H E):fD G D H E:=λb o _ _ e=>h b o e
def fD.trans (a:fD G D H E)(b:fD G D E C):fD G D H C:=λc o h1 h2 e=>b c o h1 h2<|a c o h1 h2 e
section
variable {B A:¬(Key×V)}
def SN (h:H a=#[.dK k]):∀t xs,H t=#[.tup xs]->upd H a o t=#[.tup xs]:=λt xs e=>by rw[au λz=>by subst z;rw[h] at e;cases e];calc e
def aU.put (h:aU H C p G I D nums x)(M:H D=#[.dK B])(N:Paired (vJ H) A E):aU (upd H D<|.dK A) C p G I D nums E:=by
 refine(?_,?_,(A,ao,N.mono λ_ _ z=>z.same<|SN M),h.ne)
 .rw[au λz=>by have:=h.ins;rw[z,M] at this;cases this];exact h.ins
 .rw[au h.ne];calc h.num
def fD.put (M:H D=#[.dK B]):fD G D H (upd H D<|.dK A):=λb o _ h2 e=>by rw[au h2];calc e
def aU.an2 (h:aU H C p E G I nums x):aU (upd H G<|.dK<|D.map xJ) C p E G I D x:=by
 let(B,M,N):=h.laid;refine(?_,ao,(B,?_,N.mono λ_ _ z=>z.same<|SN h.num),h.ne)
 .rw[au λz=>by have:=h.ins;rw[z,h.num] at this;cases this];exact h.ins
 .rw[au h.ne.symm];calc M
def fD.num:fD G D H (upd H G<|.dK k):=λb o h1 _ e=>by rw[au h1];calc e
end
def ZG {t u:TS}(h:∀o,o=u->t {D with nx:=o D} B H):iC t u D B H:=h u rfl
structure Cl (K:Frag)(C:Addr):Prop where
 cl:Cls K C
 n1:mO K C "numbers"
 n2:mO K C "laid"
def dH {K:Frag}{fs:¬(Str×V)}(e:B[i]? =#[#[.ref p]])(h:H p=#[.ins C E fs])(c:Cls K C)(n:mO K C f)(l:fs.lookup f=#[v])(q:Q v H):
  YK K (vR i) f B H Q:=aG e (p,C,E,fs,v,rfl,h,c,n,l,q)
def wN {K:Frag}(e:B[i]? =#[#[.ref t]])(h:H t=#[.tup xs])(a:cN xs j=#[v])(q:Q v H):fC (wD K) (vR i) (tC<|.int j) B H Q:=
 aG e (xs,v,bK.of h,a,q)
def op1:fC (rM g) A (tC<|.int j) B H Q=A B H λx E=>rM g x (.int j) E Q:=rfl
def afV (h:∀R:VK,R (.int x) H->A B H R)(e:B[i]? =#[#[.int y]])(q:Q (g x y) H):fC (rM g) A (vR i) B H Q:=h _<|aG e q
section
variable {K:Frag}
inductive Xb (C:Addr)(vs:¬V)(H:Hp)(Q:VK):Prop
 |mk:∀p dx nn ll nums ls nm q,vs=[.ref p,.str nm]->aU H C p dx nn ll nums ls->eX nm ls=#[q]->Q .non H->Xb C vs H Q
def CJ (C:Addr):Sp:=λJ H Q=>Xb C J H Q
def ag3 (c:Cl K C)(h:MF E K C (bT 5)):MO E K C (bT 5) 1 (CJ C):=by refine sX ["self","name"] h (λY H Q h=>by let(_,_,_,_,_,_,_,_,rfl,_):=h;rfl) λH nd vt hr m=>?_;let(p,L,U,J,B,x,nm,q,rfl,A,N,T):=m;refine(_,aM<|bQ (uW<|Og (mG hr) (pU 1)<|dB (pU 0) rfl) (aM lF) bA,?_);let(I,M,G):=A.laid;have g:=yE nm G;rw[N] at g;let(t,D,O):=g;delta cR tB Lw;refine aG rfl<|dH rfl A.ins c.cl c.n2 rfl (J,_,rfl,mD.k (k:=nm) M,_,rfl,?_);rwa [D]
inductive abr (C:Addr)(vs:¬V)(H:Hp)(Q:VK):Prop
 |mk:∀p dx nn ll nums ls nm q ch,vs=[.ref p,.str nm,.int ch]->aU H C p dx nn ll nums ls->eX nm ls=#[q]->(!ls)<100->(∀H',aU H' C p dx nn ll nums (jZ nm (q.1,q.2.1,q.2.2.1+ch,q.2.2.2) ls)->fD nn ll H H'->Q .non H')->abr C vs H Q
def ZJ (C:Addr):Sp:=λJ H Q=>abr C J H Q
def aja (c:Cl K C)(h:MF E K C (bT 6)):MO E K C (bT 6) 1 (ZJ C):=by
 refine sX ["self","name","change","passage"] h (λf H Q h=>by let(_,_,_,_,_,_,_,_,_,rfl,_):=h;rfl) λH nd vt hr m=>?_;let(p,v,b,I,J,x,nm,q,L,rfl,D,U,y,j):=m;refine(_,ak (pS 3 (uQ (mG hr) (dB (pU 0) rfl) (pU 1) (λ_ _=>rfl)))
  (aM (yw (mG hr) (dB (pU 0) rfl) (pU 1) (mQ (aj (aR gP (pU 3) aH) (aj (aR gP (pU 3) aH) (aj (bY pN (aR gP (pU 3) aH) (pU 2)) (aj (aR gP (pU 3) aH) aq))))) rfl)),?_)
 let(l,M,N):=D.laid;have g:=yE nm N;rw[U] at g;let(t,T,O):=g;have Y:=!N;delta iC gZ Q7 cC Fg za cg;refine dH rfl D.ins c.cl c.n2 rfl (aG rfl (I,.ref t,rfl,by rw[<-T];calc mD.k (k:=nm) M,?_));k_ne;refine wN rfl O rfl (wN rfl O rfl (afV (λR r=>wN rfl O rfl r) rfl (wN rfl O rfl ⟨by show 4<=sizeLine;decide,λd G=>?_⟩)));have same:=aK (o:=.tup [.int q.1,.int q.2.1,.int<|q.2.2.1+L,.int q.2.2.2]) G;have B:=D.grow same;have A:=same _ _ M;refine dH rfl B.ins c.cl c.n2 rfl (aG rfl (I,_,rfl,zU.k (k:=nm) A<|aY ∅,?_));refine j _ (B.put A<|abq ao<|N.mono λ_ _ z=>z.same λu n e=>same _ _ e)<|(fD.same same).trans<|fD.put A
inductive Xc (C:Addr)(vs:¬V)(H:Hp)(Q:VK):Prop
 |mk:∀p dx nn ll nums ls nm q,vs=[.ref p,.str nm]->aU H C p dx nn ll nums ls->eX nm ls=#[q]->(∀H',aU H' C p dx nn ll nums (rN nm ls)->fD nn ll H H'->Q .non H')->Xc C vs H Q
def SQ (C:Addr):Sp:=λJ H Q=>Xc C J H Q
def ag4 (c:Cl K C)(L:MO E K C (bT 5) 1 (CJ C))(h:MF E K C (bT 2)):MO E K C (bT 2) 2 (SQ C):=by refine sX ["self","name"] h (λj H Q h=>by let(_,_,_,_,_,_,_,_,rfl,_):=h;rfl) λH nd vt hr m=>?_;let(p,G,U,J,B,x,nm,q,rfl,A,N,T):=m;refine(_,ak (cB<|pM L (pU 0)<|aj (pU 1) aq)<|aM<|cB<|SM (dB (pU 0) rfl) (pU 1) (rfl,rfl,rfl,rfl),?_);let(D,M,I):=A.laid;have g:=yE nm I;rw[N] at g;let(t,O,Y):=g;delta iC gk iw abp cg cV;refine aG rfl (p,G,_,rfl,A.ins,rfl,aG rfl (p,G,U,J,B,x,nm,q,rfl,A,N,?_));k_ne;calc dH rfl A.ins c.cl c.n2 rfl (J,rfl,⟨_,.inl M⟩,aG rfl (D,nm,.ref t,M,rfl,O,(T _ (A.put M<|Xa I)<|fD.put M)))
inductive SX (C:Addr)(vs:¬V)(H:Hp)(Q:VK):Prop
 |mk:∀p dx nn ll nums ls nm q ch,vs=[.ref p,.str nm,.int ch]->aU H C p dx nn ll nums ls->eX nm ls=#[q]->1<=ch->(!ls)<100->(∀H',aU H' C p dx nn ll nums (jZ nm (q.1,q.2.1,q.2.2.1+ch,q.2.2.2) ls)->fD nn ll H H'->Q .non H')->SX C vs H Q
def Lx (C:Addr):Sp:=λJ H Q=>SX C J H Q
def adQ (c:Cl K C)(M:MO E K C (bT 5) 1 (CJ C))
  (O:MO E K C (bT 6) 1 (ZJ C))(h:MF E K C (bT 3)):MO E K C (bT 3) 2 (Lx C):=by
 refine sX ["self","name","more"] h (λY H Q h=>by let(_,_,_,_,_,_,_,_,_,rfl,_):=h;rfl) λH nd vt hr m=>?_;let(p,A,I,G,B,x,nm,q,L,rfl,D,N,h1,T,U):=m;refine(_,ak (cB (pM M (pU 0) (aj (pU 1) aq))) (ak (bQ (eF oLt (pU 2) aH) (aM lF) bA)
  (aM (cB (pM O (pU 0) (aj (pU 1) (aj (pU 2) aq)))))),?_)
 delta iC gk iw cg cV;refine aG rfl (p,A,_,rfl,D.ins,rfl,aG rfl (p,A,I,G,B,x,nm,q,rfl,D,N,?_));k_ne;delta cR jJ;rw[op1];refine aG rfl ?_;show(if decide (L<1)=true then _ else _);rw[ap (by simp;lk)];delta jF;k_ne;calc aG rfl (p,A,_,rfl,D.ins,rfl,aG rfl<|aG rfl (p,A,I,G,B,x,nm,q,L,rfl,D,N,T,λJ h1 h2=>(U J h1 h2)))
end
end cA
namespace L2
open PyProof.Rows
section
variable {o:Obj}
end
def Xd (h:(strKind P w).is k v=true):RelV (kV k) v:=Value.isStrOf_shape h
section
variable {T:Pos}
def abt:dO X (.type "list") (λxs H Q=>∃a B,xs=[.ref a]/\H a=#[.dK B]/\∀z,H z=none->Q (.ref z) (upd H z<|.lst<|B.map λD=>kV D.1)):=by
 intro O s i H xs C Q I r h;let(a,B,rfl,g,q):=h;let(u,rfl,t):=vals1 r;cases t;let(m,hS,w,rel,U):=rK I.hok g;let(d,G):=U.dictAt;have N:=!rel;refine kdl_call (PySem.W.kdl_dict hS) I.ok.hd G ∅ λf n E c J hD A=>?_;have M:Vals (B.map λD=>kV D.1) E.toList:=by
  have L:∀{l:¬(Key×V)}{r:¬(Key×Value)} {C:¬Value},KV l r->(!C)=!r->(∀j v,C[j]? =#[v]->∃k x,r[j]? =#[(k,x)]/\(strKind X.prog X.w).is k v=true)->Vals (l.map λD=>kV D.1) C:=λ{l r C} h=>by
   induction h generalizing C with
   |nil=>intro N _;cases C with
    |nil=>calc .nil
    |cons _ _=>cases N
   | @cons x y l r h _ p=>
    intro N M;cases C with
    |nil=>cases N
    |cons u C=>
     refine .cons ?_ (p ‹N› λj v e=>M (j+1) v e);let(k,b,e,J):=M 0 u rfl;have Y:y=(k,b):=‹e›
     show RelV (kV x.1) u;rw[h.1,Y];exact Xd J
  refine L rel (by rw[bt];calc A.1) λj v e=>A.2 j v (by rw[<-nb];calc e)
 calc(.ref (~~~s),_,I.laid (o:=.lst<|B.map λD=>kV D.1) J (av _) (by rw[ac];calc m,E.toList,c,M,by rw[hD]),rfl,q _<|I.hok.fresh<|av _)
end
end L2
namespace cA
open PyProof.Rows L2 VM
def JX:dO X (.builtin "len") (λxs H Q=>∃a B,xs=[.ref a]/\H a=#[.dK B]/\Q (.int !B) H):=by intro A s J H xs E Q I r h;let(a,B,rfl,G,q):=h;let(u,rfl,L):=vals1 r;cases L;calc ale I (.inl G) λt C D=>(.int _,H,D,⟨t,rfl⟩,q)
abbrev Row:=Str×Str×Str×Int×Int
def fQ (r:Row):¬V:=[.str r.1,.str r.2.1,.str r.2.2.1,.int r.2.2.2.1,.int r.2.2.2.2]
def seenOf (nums:¬(Str×Int)):¬Str:=nums.map (·.1)
section
variable {K:Frag}
inductive Oj (C:Addr)(vs:¬V)(H:Hp)(Q:VK):Prop
 |mk:∀p dx nn ll nums ls nm q ch,vs=[.ref p,.str nm,.int ch]->aU H C p dx nn ll nums ls->eX nm ls=#[q]->1<=ch->ch<q.2.2.1->(!ls)<100->(∀H',aU H' C p dx nn ll nums (jZ nm (q.1,q.2.1,q.2.2.1+ -ch,q.2.2.2) ls)->fD nn ll H H'->Q .non H')->Oj C vs H Q
def Hw (C:Addr):Sp:=λJ H Q=>Oj C J H Q
def abu (c:Cl K C)(O:MO E K C (bT 5) 1 (CJ C))
  (T:MO E K C (bT 6) 1 (ZJ C))(h:MF E K C (bT 4)):MO E K C (bT 4) 2 (Hw C):=by
 refine sX ["self","name","less"] h (λy H Q h=>by let(_,_,_,_,_,_,_,_,_,rfl,_):=h;rfl) λH nd vt hr m=>?_;let(p,D,J,G,B,I,nm,q,L,rfl,A,N,h1,h2,o,u):=m;refine(_,ak (cB (pM O (pU 0) (aj (pU 1) aq)))
  (ak (bQ (PW.pt (rD (eF oLt (pU 2) aH) (pJ (eF oLt (bY BP (aR gP (uQ (mG hr) (dB (pU 0) rfl) (pU 1) (λ_ _=>rfl)) aH) (pU 2)) aH)))) (aM lF) bA)
  (aM (cB (pM T (pU 0) (aj (pU 1) (aj (YD aaM (pU 2)) aq)))))),?_)
 let(v,j,l):=A.laid;have g:=yE nm l;rw[N] at g;let(t,Y,U):=g;dsimp only[iD];delta iC gk iw cg cV;refine aG rfl (p,D,_,rfl,A.ins,rfl,aG rfl (p,D,J,G,B,I,nm,q,rfl,A,N,?_));k_ne;delta cR Ww jJ;rw[op1];refine aG rfl ?_;show(if decide (L<1)=true then _ else _);rw[ap (by simp;lk)];rw[op1];refine afV (x:=q.2.2.1) (λR r=>?_) rfl ?_
 .delta fC Q7;exact dH rfl A.ins c.cl c.n2 rfl<|aG rfl (G,.ref t,rfl,by rw[<-Y];calc mD.k (k:=nm) j,(_,_,bK.of U,rfl,r))
 show(if decide (q.2.2.1 - L<1)=true then _ else _);rw[ap (by simp;lk)];delta jF;k_ne;refine aG rfl (p,D,_,rfl,A.ins,rfl,aG rfl ?_);calc aG rfl (L,rfl,p,D,J,G,B,I,nm,q,-L,rfl,A,N,o,λM h1 h2=>(u M h1 h2))
inductive S6 (C:Addr)(vs:¬V)(H:Hp)(Q:VK):Prop
 |mk:∀p dx nn ll nums ls,vs=[.ref p]->aU H C p dx nn ll nums ls->(∀z,H z=none->Q (.ref z) (upd H z<|.lst<|(seenOf nums).map V.str))->S6 C vs H Q
def yF (C:Addr):Sp:=λJ H Q=>S6 C J H Q
def adR (B:Bl E.mg)(c:Cl K C)(h:MF E K C (bT 7)):MO E K C (bT 7) 1 (yF C):=by
 refine sX ["self"] h (λN H Q h=>by let(_,_,_,_,_,_,rfl,_):=h;rfl) λH nd vt hr m=>?_;let(p,L,J,M,A,x,rfl,D,T):=m;refine(_,aM<|bD<|bM abt gx B.list eI<|aj (dB (pU 0) rfl) aq,?_);delta tO qC cg cV;refine dH rfl D.ins c.cl c.n1 rfl (J,_,rfl,D.num,λz G=>?_);have e:(A.map xJ).map (λI=>kV I.1)=(seenOf A).map V.str:=by delta seenOf;rw[bE,bE];rfl
 rw[e];calc T z G
def CK (e:B[i]? =#[#[.ref t]])(h:H t=#[.lst xs])(Y:∀R:VK,R (.int j) H->A B H R)(a:cN xs j=#[v])(q:Q v H):fC (zp K) (vR i) A B H Q:=
 aG e (Y _ (xs,v,aQ.of h,a,q))
end
end cA
namespace Pg
open L2 VM
def Bm:VS:=
 (aN (pA 2 (dD a0))
 (aN (mV (Ci (aC (vF 0) (aC (vF 1) a0))) (gT 2 (gC (gN 3) (gC (gN 4) g0)))
 (aN (d8 2 (aC (v2 jX (v2 aW (vN 3) (vC (.int 2))) (vN 4)) a0))
 (d8 2 (aC (vF 4) a0))))
 (gq 2)))
def fj:dX:=fH 2 5 Bm
def Gm:VS:=
 (aN (dz (nZ (vB (v2 isD (vN 2) (vC .none))) (vB (v2 wF (vN 0) (v2 aW (vN 2) (vC (.int 0))))))
 (cJ<|vC<|.bool true)
 cI)
 (cJ (Le (v2 jc (vN 0) (v2 aW (vN 2) (vC (.int 0)))) (v2 wF (vN 1) (v2 aW (vN 2) (vC (.int 1)))))))
def oE:dX:=fH 3 3 Gm
def Q8:VS:=(dz (lG (vB<|v2 yd (v2 aW (vN 1)<|vN 10)<|vC<|.int 0)<|vB<|bF oE<|aC (v2 dW (vN 8)<|vN 12)<|aC (vF 9)<|aC (v2 aW (vN 3)<|vN 11) a0) (aN (qN 3 (vN 11)<|fP<|aC (v2 dW (vN 8)<|vN 12)<|aC (vF 9)<|aC (vF 10)<|aC (vF 7) a0)<|dz (eU<|vB<|v2 aW (vN 4)<|vN 11) (aN (qN 4 (vN 11)<|vC<|.bool true)<|d8 5<|aC (vF 11) a0) cI) cI)
def uD:VS:=(aN (bZ (v2 aW (vN 5)<|vN 6)<|gN 7)<|aN (qO dW 6<|vC<|.int 1)<|aN (qN 4 (vN 7)<|vC<|.bool false)<|aN (bZ (v2 aW (v2 aW (vN 3)<|vN 7)<|vC<|.int 0)<|gN 8)<|aN (bZ (v2 dW (v2 aW (v2 aW (vN 3)<|vN 7)<|vC<|.int 1)<|vC<|.int 1)<|gN 9)<|mV (cP<|v2 aW (vN 0)<|vN 7) (gT 3<|gC (gN 10)<|gC (gN 11)<|gC (gN 12) g0) Q8)
def Xe:VS:=(aN (pA 3<|v2 xH (dD<|aC (vC .none) a0)<|cL iG<|aC (vN 0) a0)<|aN (qN 3 (vN 2)<|fP<|aC (vC<|.int 0)<|aC (vC<|.int 0)<|aC (vC .none)<|aC (vC .none) a0)<|aN (pA 4<|v2 xH (dD<|aC (vC<|.bool false) a0)<|cL iG<|aC (vN 0) a0)<|aN (pA 5<|dD<|aC (vF 2) a0)<|aN (bZ (vC<|.int 0)<|gN 6)<|aN (Jd (vB<|v2 wF (vN 6)<|cL iG<|aC (vN 5) a0) uD)<|gq 3)
def qQ:dX:=fH 3 13 Xe
def abv:VS:=
 (aN (bZ (cL minD (aC (Cj (cP (vF 1)) [none,#[0]] (gN 0) c7 (v2 aW (vN 1) (vN 0))) a0)) (gN 2))
 (aN (mV (cP (vF 1)) (gN 3)
 (aN (oM jX 0 (vN 3) (vF 2))
 (oM dW 0 (v2 Zn (vN 3) (vC (.int 1))) (vF 2))))
 (gq 2)))
def yG:Cr:=Cu 2 4 0 abv
def Q9:VS:=(aN (d8 3<|aC (v2 aW (v2 aW (vN 0)<|vN 4)<|vC<|.int 2) a0)<|bZ (v2 aW (v2 aW (vN 0)<|vN 4)<|vC<|.int 3)<|gN 4)
def S7:VS:=(aN (pA 3<|dD a0)<|aN (bZ (vF 2)<|gN 4)<|aN (Jd (vB<|v2 jr (vN 4)<|vN 1) Q9)<|gq 3)
def qR:dX:=fH 3 5 S7
def wO:VS:=(aN (bZ (vg qQ<|aC (vN 0)<|aC (vN 1)<|aC (vN 2) a0)<|gN 6)<|aN (dz (vB<|v2 isD (v2 aW (vN 6)<|vN 3)<|vC .none) (gq 5) cI)<|aN (bZ (v2 aW (v2 aW (vN 6)<|vN 3)<|vC<|.int 0)<|gN 7)<|aN (dz (lG (vB<|v2 Ld (vN 4)<|vC .none)<|vB<|v2 yd (vN 7)<|vN 4) (gq 5) cI)<|aN (Jf yG 1 (Je<|vp (bF qR<|aC (vF 6)<|aC (vF 2)<|aC (vF 3) a0) Oc) 8)<|dz (lG (u9<|vN 5)<|vB<|v2 jc (v2 aW (v2 aW (vN 5)<|v1 oX<|vC<|.int 1)<|vC<|.int 0)<|vN 7) (qN 5 (v1 oX<|vC<|.int 1)<|fP<|aC (vF 7)<|aC (v2 dW (v2 aW (v2 aW (vN 5)<|v1 oX<|vC<|.int 1)<|vC<|.int 1)<|vN 8) a0)<|d8 5<|aC (fP<|aC (vF 7)<|aC (vF 8) a0) a0)
def JZ:VS:=(aN (pA 5<|dD a0)<|Jd (vB<|vC<|.bool true) wO)
def lH:Cr:=Cu 5 9 1 JZ
def J0:VS:=
 (aN (pA 4 (yg fj (aC (vF 1) (aC (v2 xH (dD (aC (vC (.int 0)) a0)) (cL iG (aC (vN 1) a0))) a0))))
 (Jg lH 4 (vp (bF VM.fL (aC (vF 0) (aC (vF 1) a0))) (Je (vp (vF 2) (vp (vF 3) (vp (vC .none) Oc)))))))
def nJ:dX:=fH 4 5 J0
def Gn:VS:=
 (aN (pA 5 (yg fj (aC (vF 1) (aC (v2 xH (dD (aC (vC (.int 0)) a0)) (cL iG (aC (vN 1) a0))) a0))))
 (aN (Qt lH 5 (vp (bF VM.fL (aC (vF 0) (aC (vF 1) a0))) (Je (vp (vF 2) (vp (vF 3) (vp (vF 4) Oc))))))
 (pR (Cj (uw (aC (cL iG (aC (vN 1) a0)) a0)) [none,#[5]] (gN 0) c7 (v2 aW (vN 1) (v2 dW (v2 tR (vC (.int 2)) (vN 0)) (vC (.int 1))))))))
def iy:dX:=fH 5 6 Gn
def Gp:VS:=
 (cJ<|cL Cd<|aC (jM (cP<|vF 1) [none,#[0]] (gN 0) c7<|v2 aW (v2 aW (vN 1)<|vN 0)<|vC<|.int 3) a0)
def ji:dX:=fH 2 2 Gp
def CN:VS:=
 (aN (mV (zF (aC (vF 0) a0)) (gT 2 (gC (gN 3) (gC (gN 4) g0)))
 (dz (lG (vB (v2 jc (v2 aW (vN 4) (vC (.int 0))) (vN 1))) (vB (v2 yd (v2 aW (vN 2) (vN 3)) (vC (.int 0)))))
 (gq 3)
 cI))
 (cJ (vC .none)))
def ju:dX:=fH 3 5 CN
def zV:VS:=(aN (bZ (bF ju<|aC (vF 0)<|aC (vF 5)<|aC (vF 3) a0)<|gN 6)<|aN (dz (vB<|v2 isD (vN 6)<|vC .none) (pR<|dD a0) cI)<|aN (d8 4<|aC (vF 6) a0)<|bZ (v2 aW (v2 aW (vN 0)<|vN 6)<|vC<|.int 1)<|gN 5)
def vK:VS:=(aN (pA 4<|dD a0)<|aN (bZ (vF 1)<|gN 5)<|aN (Jd (vB<|v2 jr (vN 5)<|vN 2) zV)<|gq 4)
def iI:dX:=fH 4 7 vK
def J1:VS:=(aN (bZ (vg iI<|aC (vN 0)<|aC (vN 1)<|aC (vN 2)<|aC (vN 4) a0)<|gN 6)<|aN (dz (eU<|u9<|vN 6) (gq 5) cI)<|aN (bZ (cL minD<|aC (Cj (cP<|vF 6) [none,#[4]] (gN 0) c7<|v2 aW (vN 1)<|vN 0) a0)<|gN 7)<|aN (mV (cP<|vF 6) (gN 8)<|oM jX 4 (vN 8)<|vF 7)<|d8 5<|aC (fP<|aC (vF 6)<|aC (vF 7) a0) a0)
def J2:VS:=(aN (pA 4<|nG<|vN 3)<|aN (pA 5<|dD a0)<|Jd (vB<|vC<|.bool true) J1)
def jN:dX:=fH 4 9 J2
def CP:VS:=
 (aN (bZ (v2 dW (vN 4) (vC (.int 1))) (gN 6))
 (aN (bZ (v2 tX (vN 1) (dD (aC (fP (aC (vF 2) (aC (vF 3) (aC (vC (.int 1)) (aC (vF 6) a0))))) a0))) (gN 7))
 (aN (bZ (bF fj (aC (vF 7) (aC (v2 tX (vN 5) (dD (aC (vC (.int 0)) a0))) a0))) (gN 8))
 (aN (bZ (bF qQ (aC (bF VM.fL (aC (vF 0) (aC (vF 7) a0))) (aC (vF 8) (aC (vF 2) a0)))) (gN 9))
 (pR (jM (cP (vF 9)) [none,#[6]] (gN 0) c7 (vIf (vB (v2 isD (vN 0) (vC .none))) (vF 1) (cL rG (aC (v2 aW (vN 0) (vC (.int 0))) (aC (vN 1) a0))))))))))
def iJ:dX:=fH 6 10 CP
def CQ:VS:=
 (aN (bZ (bF iy (aC (vF 0) (aC (vF 1) (aC (vF 2) (aC (vF 3) (aC (vF 4) a0)))))) (gN 5))
 (aN (bZ (bF jN (aC (vF 1) (aC (vF 2) (aC (vF 3) (aC (vF 5) a0))))) (gN 6))
 (aN (bZ (cL Cd (aC (jM (cP (vF 6)) [none,none,#[4],#[1]] (gT 2 (gC (gN 0) (gC (gN 1) g0))) c7 (v2 tR (vN 1) (v2 dW (v2 jX (vN 2) (bF ji (aC (vF 3) (aC (vF 0) a0)))) (vC (.int 1))))) a0)) (gN 7))
 (cJ (fP (aC (vF 7) (aC (vF 6) (aC (bF iJ (aC (vF 0) (aC (vF 1) (aC (vF 2) (aC (vF 3) (aC (vF 4) (aC (vF 5) a0))))))) a0))))))))
def fJ:dX:=fH 5 8 CQ
def J3:VS:=
 (aN (bZ (vC (.int 0)) (gN 2))
 (aN (bZ (vC (.int 0)) (gN 3))
 (aN (pA 4 (dD a0))
 (aN (mV (cP (vF 0)) (gT 2 (gC (gN 5) (gC (gN 6) g0)))
 (aN (qO dW 2 (vF 6))
 (aN (qO dW 3 (v2 tR (vN 6) (vN 5)))
 (d8 4 (aC (v2 kI (v2 jX (v2 dW (vN 1) (vN 3)) (vC (.int 1))) (vN 2)) a0)))))
 (cJ (cL minD (aC (vN 4) a0)))))))
def p8:dX:=fH 2 7 J3
def J4:VS:=
 (aN (pA 4 (dD a0))
 (aN (bZ (vF 3) (gN 5))
 (aN (mV (cP (vF 1)) (gT 2 (gC (gN 6) (gC (gN 7) g0)))
 (aN (bZ (v2 dW (v2 jX (vN 2) (bF ji (aC (vF 0) (aC (vF 6) a0)))) (vC (.int 1))) (gN 8))
 (aN (bZ (cL rG (aC (vN 8) (aC (v2 kI (vN 5) (vN 7)) a0))) (gN 9))
 (aN (dz (vB (v2 yd (vN 9) (vC (.int 0))))
 (aN (d8 4 (aC (fP (aC (vF 6) (aC (vF 7) (aC (vC (.int 0)) (aC (v2 jX (vN 9) (vC (.int 1))) a0))))) a0))
 (qO jX 5 (v2 tR (vN 7) (vN 9))))
 cI)
 (dz (lG (vB (v2 wF (vN 9) (vN 8))) (vB (v2 yd (vN 5) (vC (.int 0)))))
 (aN (d8 4 (aC (fP (aC (nG (vN 6)) (aC (vF 5) (aC (vF 9) (aC (vF 9) a0))))) a0))
 (bZ (vC (.int 0)) (gN 5)))
 cI)))))
 (gq 4))))
def qb:dX:=fH 4 10 J4
def qT:VS:=
 (aN (bZ (bF nJ (aC (vF 0) (aC (vF 1) (aC (vF 2) (aC (vF 3) a0))))) (gN 5))
 (aN (dz (eU (u9 (vN 5)))
 (cJ<|vC .none)
 cI)
 (aN (bZ (bF p8 (aC (vF 5) (aC (vF 4) a0))) (gN 6))
 (aN (bZ (bF iy (aC (vF 0) (aC (vF 1) (aC (vF 2) (aC (vF 3) (aC (vF 6) a0)))))) (gN 7))
 (aN (bZ (bF qb (aC (vF 1) (aC (bF jN (aC (vF 1) (aC (vF 2) (aC (vF 3) (aC (vF 7) a0))))) (aC (vF 6) (aC (vF 4) a0))))) (gN 8))
 (cJ (fP (aC (vF 6) (aC (vF 8) (aC (bF iJ (aC (vF 0) (aC (vF 1) (aC (vF 2) (aC (vF 3) (aC (v2 jX (vN 6) (vC (.int 1))) (aC (vF 7) a0))))))) a0))))))))))
def fu:dX:=fH 5 9 qT
end Pg
namespace L2
open PyProof.Rows PySem.SeqAt
open PySem.MeetsSeq (size_erased plain_remove_loop entry_remove_loop)
open PySem.AutoSeq1 (wpAny_loadPart')
def Py (l:Addr)(B:Array Value)(n:Nat)(x:Value)(j:Nat)(J:j<B.size)(k:Nat)(H:B.size<=sizeLine):
  ∀i:Nat,j - i=k->i<=j->Meets (Builtin.«list.remove.loop» ⟨[.ref l,x,rawInt i],[]⟩)
   (λA R s=>s.heap l=some {cls:=.type "list",dict:=none,data:=.seq B n,slots:=#[]}/\(∀m (o:m<B.size),m<=j->EqAt A.in1 s B[m] x (decide<|m=j))/\R (.ok<|.ret .none) {s with heap:=s.heap.update l<|Obj.mapSeq λxs=>xs.eraseIdxIfInBounds j}):=by
 induction k with
 |zero=>
  intro i M Y D w A R s h;let(L,g,d,U,os):=s;let(N,Q,h):=h;have C:i=j:=by lk
  subst C
  wp_walk using jb N
  have G:B[((i):Int).toNat]? =#[B[i]]:=by simp[J]
  rw[G];refine ab<|Q i J (av _) D w _ _ ?_;rw[az rfl];have I:(B.eraseIdxIfInBounds i).size<=sizeLine+1:=ck (size_erased B _)<|Nat.le_succ_of_le H
  wp_walk using(fE N rfl (_hz':=I)),jb N
  simpa using h
 |succ k T=>
  intro i M Y D w A R s h;let(L,g,d,U,os):=s;let(N,Q,h):=h;have E:i<B.size:=by lk
  wp_walk using jb N
  have G:B[((i):Int).toNat]? =#[B[i]]:=by simp[E]
  have O:((i)+1)=((i+1):Int):=by push_cast;rfl
  rw[G];refine ab (Q i E ∅ D w _ _ ?_);rw[a9 ∅]
  wp_walk
  rw[O];exact⟨gp plain_remove_loop _,gu entry_remove_loop (by
   rw[fx plain_remove_loop _];calc T (i+1) ∅ ∅ D w A R _ ⟨N,Q,h⟩)⟩
def Pz (l:Addr)(B:Array Value)(n:Nat)(x:Value)(j:Nat)(Y:j<B.size)(H:B.size<=sizeLine):
  Meets (Builtin.«list.remove» ⟨[.ref l,x],[]⟩)
   (λA R s=>s.heap l=some {cls:=.type "list",dict:=none,data:=.seq B n,slots:=#[]}/\(∀m (C:m<B.size),m<=j->EqAt A.in1 s B[m] x (decide<|m=j))/\R (.ok<|.ret .none) {s with heap:=s.heap.update l<|Obj.mapSeq λxs=>xs.eraseIdxIfInBounds j}):=by
 intro D w A R s h;let(E,g,d,G,os):=s;let(N,Q,h):=h
 wp_walk using jb N
 exact⟨gp plain_remove_loop _,gu entry_remove_loop (by
  rw[fx plain_remove_loop _];calc Py l B n x j Y _ H 0 rfl (cv _) D w A R _ ⟨N,Q,h⟩)⟩
section
inductive Ra (K:Frag)(x:V)(vs:¬V)(H:Hp)(Q:VK):Prop
 |mk:∀l y xs ds dy j,x=.ref l->vs=[y]->H l=#[.lst xs]->aJ K H ds xs->Has K H dy y->dy.depth<=60->j<!xs->((∀m d,m<=j->ds[m]? =#[d]->eqv d dy=decide (m=j)))->Q .non (upd H l<|.lst<|xs.eraseIdx j)->Ra K x vs H Q
def an3 (hu:X.A.units+64<cLine):ug X "list.remove" (Ra X.K):=by
 intro U s σ H x vs v us Q I rx i h;let(l,y,D,ds,L,j,rfl,rfl,N,b,T,O,hj,C,q):=h;cases rx;let(u,rfl,a):=i.one;let(z,A,n,r,hl,e):=I.ada N;let(k,w):=T.reads I a;refine gm F.slot_list_remove ⟨_,e,rfl⟩ F.entry_list_remove (F.args_list_remove_2 _ _) (Pz l A.toArray n u j (by rw[bp];lk) (by rw[bp];lk)) ⟨e,λm c G=>?_,?_⟩
 .have E:m<!D:=by rw[bp] at c;lk
  have M:D[m]? =#[D[m]]:=by simp[E]
  let(d,p,B):=b.get M;let(o,t,J):=r.get M;have g:A.toArray[m]=o:=by
   have:A[m]? =#[A.toArray[m]]:=by simp
   rw[t] at this;exact(bm this).symm
  rw[g,←C m d G p];let(Y,f):=B.reads I J;refine eqAt_reads d L _ s o u Y k f w B.can T.can ?_;have:=hJ d.depth L.depth;lk
 .refine⟨.non,_,I.aif N e ?_ (r.eraseIdx j) ?_,rfl,q⟩
  .rw[List.eraseIdxIfInBounds_toArray]
  .have:=Nv D j;lk
def alg (f:X.A.units+64<cLine)(I:PE X o J)(E:PA X [e] t)
  (A:(attributeBase o "remove" X.env (eval o X.env)=eval o X.env)∣0)
  (M:((backTo G (starEach [e] X.env)).all (λx=>not x.1) && (backToKw G (keywordEach [] X.env)).all (λx=>x.1.isSome)
   && decide ((!([e]:¬Expr))+(!([]:¬Keyword))+(if([]:¬Keyword).isEmpty then 0 else 1)<30))=true:=by rfl)
  (D:((B.endLine==G.line)=true)∣0)(H:(starEach [e] X.env=(false,eval e X.env)::starEach [] X.env)∣0)(C:((backTo G<|starEach [] X.env).any (·.1)=false)∣0):
  PE X (.Call (.Attribute o "remove" B) [e] [] G) (uZ X.K "list" (Ra X.K) J t):=uq ma PySem.F.slot_list_remove PySem.F.type_list_remove (an3 f) I E A M D H C
end
end L2
namespace L2
open PyProof.Rows
inductive adS (K:Frag)(x:V)(y:V)(H:Hp)(Q:VK):Prop
 |mk:∀p xs ds dx,y=.ref p->aQ K H p xs->aJ K H ds xs->Has K H dx x->dx.depth<=60->((∀d∈ds,eqv d dx=false))->Q (.bl false) H->adS K x y H Q
def ajb (e:X.A.units+64<cLine):cF X (compareOp .In) (adS X.K):=by
 intro U s σ H x y v u Q I n a h;let(p,E,i,G,rfl,t,l,T,O,C,q):=h;cases a;let(A,r,b,hz):=I.list t;let(k,f):=T.reads I n;refine SeqAt.in_listAt (λ_=>false) b.isList (λw z=>?_) (.bl _,H,I,rfl,?_)
 .have D:w∈A:=‹z›
  let(j,L):=dm D;have o:j<!E:=by have:=(af.mp L).1;have:=!r;lk
  have N:E[j]? =#[E[j]]:=by simp[o]
  let(d,g,B):=l.get N;let(u',M,J):=r.get N;rw[L] at M;cases M;have m:=C d<|ag g;let(Y,c):=B.reads I J;rw[<-m];refine SeqAt.eqAt_reads d G _ s w v Y k c f B.can T.can ?_;have:=hJ d.depth G.depth;lk
 .rw[show A.toArray.any (λ_=>false)=false by simp];calc q
end L2
namespace VM
open PyProof.Rows L2
def inE:()->()->↑()
 |E,.list A=>if E.depth<=60/\(A.all λd=>not (PyData.eqv d E))=true then #[.bool false] else none
 |_,_=>none
def an4 {K:Frag}:iR K inE (adS K):=by
 intro H x y E C d Q e B n q;delta inE at e;f_are
 .rename_i A;f_are
  .rename_i c;k_go;let(p,D,rfl,h1,h2):=n;exact(p,D,A,E,rfl,h1,h2,B,c.1,λd G=>by have:=cp.mp c.2 d G;simpa using this,q _ λ_=>rfl)
  .k_go
 .k_go
end VM
private def mpQ {α β:Type}(f:α→Lean.MacroM β):List α→Lean.MacroM (List β)
 |[]=>pure []
 |a::l=>do return (←f a)::(←mpQ f l)
private def lsQ (s:String):Lean.MacroM (Array (Lean.TSyntax `Lean.Parser.Tactic.simpLemma)):=do return (←mpQ (λs=>`(Lean.Parser.Tactic.simpLemma|$(Lean.mkIdent s.toName):ident)) (s.splitOn " ")).toArray
private def evS:="L2.start map_cons map_nil length_cons length_nil replicate cons_append nil_append reduceAdd reduceSub append_nil iC jF gZ cC vR tC fC tUn rM BL rUM jJ cR Rm Ww Yx afs aft Y7 tO gk cg cV za YQ qC zq Qm BW jH aaF adl Ql wC aiv zp wD getElem?_cons_zero getElem?_cons_succ set_cons_zero set_cons_succ qI Y0 YC pK zy jq zx GR Ef xY tSl YW WL aib cU false_eq_true uZ zu"
local macro_rules | `(tactic| walk_at "e0")=>do
 let a<-lsQ evS
 `(tactic| try simp only[$a,*,↓reduceIte])
private def frQ:List (Lean.TSyntax `tactic)→Lean.TSyntax `tactic→Lean.MacroM (Lean.TSyntax `tactic)
 |[],z=>pure z
 |x::l,z=>do
  let y←frQ l z
  `(tactic|first|$x:tactic|$y:tactic)
local macro_rules | `(tactic| walk_at "d")=>do
 let g ← mpQ (λq=>do
  let p:=q.splitOn ":";let a ← mpQ (λs=>do
   let w:=s.splitOn " ";let x ← mpQ (λy=>if y == "?" then `(?_) else if y == "_" then `(_) else if y == "!" then `((by assumption)) else if y.startsWith "[" then let z : Array (Lean.TSyntax `term):=(((y.drop 1).dropEnd 1).toString.splitOn ";").toArray.map Lean.quote; `([$z,*]) else pure (Lean.mkIdent y.toName)) w.tail!;let x:=x.toArray
   if s.startsWith "'" then `(tactic| apply $(Lean.mkIdent (w.head!.drop 1).toString.toName)) else `(tactic| refine $(Lean.mkIdent w.head!.toName) $x*)) (p[1]!.splitOn ",")
  let h:=p[0]!.splitOn ".";let r ← frQ a (← `(tactic| fail))
  if (p[0]!.splitOn "=").length == 2 then `(tactic| (show L2.PE _ _ (L2.vR _); $r:tactic)) else if h.length == 2 then `(tactic| (show $(Lean.mkIdent h[0]!.toName) _ ($(Lean.mkIdent ("PySem.Expr." ++ h[1]!).toName) ..) _; $r:tactic)) else `(tactic| (show $(Lean.mkIdent h[0]!.toName) ..; $r:tactic))) ("PE=vR:pV vt _,pq ? _|PE:mN ?,nL ?,sw ?,dN ?,sm ?,dF ?|PE.Constant:jB,xr ?,akS,Qo|PE.BinOp:qD cH ala ? ?,qD pN R3 ? ?,qD oMod hMod ? ?,qD oDiv hDiv ? ?,qD RQ hMul ? ?,qD BP hSub ? ?,qD adk hPow ? ?,qD anm hXor ? ?,dCat ? ?,anS ? ?|PE.Subscript:NZ ? ?,anV ? ?,anW ? ? ?,ajc ? ? ?,anA ? ? ?,alh ! ? ?|PE.Call:qL ?,afw ! hr.mo ? ?,Bh ? hLen,Bh ? alb,dU ? ? B.len PySem.boot_len ?,R5 KT.int ?,R5 KT.bool ?,R5 KT.list ?,R5 KT.tuple ?,dU anE ? B.isinstance boot_isinstance ?,Bh ? anC,dU cAbs ? B.abs boot_abs ?,Bh ? akU,Bh ? anD,dU ? ? B.min boot_min ?,Bh ? aiG,dU ? ? B.sum boot_sum ?,Bh ? an0,dU ? ? ajd boot_all ?,agK ?,bM afv ? B.list boot_list ?,ak0 ?,akZ ?,Eh ? ?,S8 PySem.F.slot_str_split PySem.F.type_str_split zW J5 ? ?,S8 PySem.F.slot_str_partition PySem.F.type_str_partition Xf afX ? ?,S8 PySem.F.slot_str_startswith PySem.F.type_str_startswith abw ag5 ? ?,an5 ?,ZK ? ?,Bh ? adT,bM cStr ? B.str boot_str ?,Bh ? ali,bM alj ? B.int boot_int ?,afY ?,dU afZ ? B.sorted boot_sorted ?,R5 KS ?|PE.Name:xP ? B.int boot_int rfl,xP ? B.bool boot_bool rfl,xP ? B.list boot_list rfl,xP ? B.tuple boot_tuple rfl,dGl ! gx,xP ? B.str boot_str rfl|PE.Compare:aje ! S9 ? ?,aje ! Tc ? ?|PE.JoinedStr:ajf ?|PE.BoolOp:an6 ? ?|Td:pf0,pfC ? ?,pfL ?|PE:dTup ?,Ca ?,anB ?,anz ?,anw ? ?,dOr ? ?,La ? hEq ? ?,La ? hNe ? ?,La oLt hLt ? ?,La NK hGt ? ?,anx ?,'dLC,'anJ,dIf ? ? ?,dCh Oe ai2 Oe ai2 ? ? ?,vL vt [move;left] ? ? ? ?,vL vt [room] ? ? ? ?,vL vt [number;left] ? ? ? ?,vL vt [number;passages] ? ? ? ?,vL vt [known;late] ? ? ? ?,vL vt [walk;number;turns;passages] ? ? ? ?,vL vt [sign] ? ? ? ?,vL vt [_law_j;_law_base;_law_letters;_law_at] ? ? ? ?,vL vt [_law_row] ? ? ? ?,vL vt [_law_row;_law_name] ? ? ? ?,vL vt [_law_moment] ? ? ? ?,vL vt [_law_x] ? ? ? ?,vL vt [_law_one;_law_name;_law_first] ? ? ? ?,vL vt [kind;word] ? ? ? ?,vL vt [name;a;b;width;length] ? ? ? ?,ns ?,nm ?,nw ?|PT:ajh ! S9 ? ?,ajh ! Tc ? ?,kJ aji ai3 ? ?,kJ ? hEq ? ?,kJ ? hNe ? ?,kJ oLt hLt ? ?,kJ NK hGt ? ?,kJ oLe hLe ? ?,kJ adn hIs ? ?,kJ Y6 aiC ? ?,kJ uY ai3 ? ?,kJ uY aph ? ?,kJ ami hIn ? ?,kJ ? an4 ? ?,cCh oLe hLe oLe hLe ? ? ?,ant ?,anv ?,cVal ?,PW.pt ?|PW:akT ?,anu ? ?,aiD ?,wOr ? ?|PA:nQ,gV ? ?,pw0,pwC ? ?,aq,aj ? ?,io0,ioS ? ?,ioJ ? ?|jy:anL ?,anM ? ?,anK|PS:'sAs,Bt ? ?,sIf ? ? ?,sFz ?,anN ?,ak3 ?,ak2 ?,sOw ?,Bu nd rfl lx ?,cB ?,anO ?,anP ?,jG ? ? ?,'anQ,acV ? ?,sWh ?,afx nd rfl lx ? aiz,afx nd rfl lx ? aiA,aiN R3 ?,aiN hSub ?,aiQ ?,bD ?,ak6 ?,ak7 ?,aiL,afM hSub ?,afM R3 ?,Wy ? ? getL ? aiA RT,Wy ? ? getL ? aiz RT,sLC vt nd rfl lx [_law_row] ? ? ? ?,sLC vt nd rfl lx [_law_row;_law_name] ? ? ? ?,an7 vt nd rfl lx [name;a;b;width;length] ? ? ? ?|PG:xR nd rfl lx,tgN ?,wA ? ?,Rp ? ? RT,'tgT|sI:tg0,'tgC|PI:itL ?,itT ?,itS ?,WR ? B.enumerate ?,itE ?,Nk ? B.range ?,anI ?,akY ? B.zip ?,itZ ?|nW:ifN,WT ?|PO:poN,poI ?|cF:iZ hr.units,lN hr.units,ajb hr.units|dO:Y8,RG,aaO,anp,aix,anZ|Gl:gx,glC ?".splitOn "|")
 `(tactic| repeat' $(← frQ g (← `(tactic| first | rfl | decide +kernel | intro _))):tactic)
namespace cA
open L2 VM
seal L2.PE L2.PT L2.PW L2.PA L2.PS L2.jy L2.PG L2.sI L2.PI L2.nW L2.PO L2.cF L2.Io L2.dO L2.sO L2.ug L2.yZ L2.Bb VM.iR VM.CallD PySem.binaryOp PySem.compareOp VM.zR VM.yc VM.xu VM.tX VM.jc VM.jr VM.isD VM.Ld VM.xH VM.Sg
variable {J L:Tok}
def mN {X:Cx}{e:Expr}{i:Nat}(h:PE X e (vR i)):PE X e (tV X.K RW<|vN i):=mw<|dN h
def nL {X:Cx}{D:¬Expr}{fs:VA}{A:Pos}(h:PA X D (Bg X.K fs)):PE X (.List D A) (tV X.K RW<|dD fs):=nw<|Ca h
section
variable {X:Cx}{A iter B:Expr}{D:¬Expr}{scope sc:Scope}{N:¬Str}{E:Pos}{cap:¬(↑Nat)}
def tgF (N:¬Str):Expr->Bool|.Name x _=>N.head? ==#[x]|.Tuple (e::_) _ _=>tgF N e|_=>false
def vL {Q:TI}{g:TG}{tc:TT}{te:TE}(_:N.all (λx=>nY sc x && plain x)=true)(N':¬Str)(O:PI X A iter Q)(k:∀H C G M I,PG (fM X scope N' H C G M I) A g)(hi:∀H C G M I,nW (fM X scope N' H C G M I) D tc)(j:∀H C G M I,PE (fM X scope N' H C G M I) B te)
  (T:(sS N sc scope N' cap=true)∣2)(U:(X.N=N)∣0)(Y:(X.env.scope=sc)∣0)(l:(∀x,foldedSetIterable iter X.env x=pure x)∣4)(_:(tgF N' A=true)∣0):PE X (.ListComp B [(A,iter,D,0)] scope E) (xY Q cap g tc te):=Jb _ _ T U Y O k hi j l
def sLC {Y U:Pos}{l:VA}{i k:Nat}{y:Str}{T:VT}{g:VE}(_:N.all (λx=>nY sc x && plain x)=true)(r:X.N.Nodup)(f:X.N[i]? =#[y])(n:Loc X.env.scope y)(N':¬Str)(O:PI X A iter (vh X.K l))(v:∀H C G M I,PG (fM X scope N' H C G M I) A (yh X.K (gN k) [k]))(hi:∀H C G M I,nW (fM X scope N' H C G M I) D (iT X.K T))(t:∀H C G M I,PE (fM X scope N' H C G M I) B (tV X.K RS g))
  (m:(sS N sc scope N' cap=true)∣2)(o:(X.N=N)∣0)(p:(X.env.scope=sc)∣0)(z:(([k].all λj=>cap[j]? ==#[none])=true)∣0)(Q:(swapsWith (.ListComp B [(A,iter,D,0)] scope E) (#[.Name y Y]) U.line X.env=pure true)∣0)
  (b:(∀x,foldedSetIterable iter X.env x=pure x)∣4)(u:(X.fn y=true\/X.env.scope.names.lookup y=some .local)∣14):PS X (.Assign [.Name y Y] (.ListComp B [(A,iter,D,0)] scope E) U) (gW X.K<|Cq i<|jM l cap (gN k) T g):=aiP<|Sd (qH r f n _ _ m o p O v hi t Q b u) λ_ _ _ q=>adB z q
def dGl {x:Str}{n:Int}{Y:Tok}(h:X.mg x=#[.int n Y])(C:Gl X x)(G:((x==("__debug__":Str))=false)∣1):PE X (.Name x E) (tV X.K RS<|vC<|.int n):=dC (jD (v:=.int n) C h ⟨_,rfl⟩ G) λ_=>rfl
end
section
variable (N:¬Str)
theorem ajj (h:GF E K i)(I:∀{q f D A B s H},N.Nodup->N.all (λx=>nY (aP<|top i) x && plain x)=true->cY O (A.deeper<|PyProof.Rows.envOfC q (aP<|top i) (~~~s) f D)->jy (iD E.P E.w K E.mg E.base N q (aP<|top i) f D A B s H) (eE<|top i) (gW K g))
    (S:iQ N (yD<|top i) (aP<|top i)∣8)(vt:(N.all (λx=>nY (aP<|top i) x && plain x)=true)∣2)(M:((!(yD<|top i))=n)∣0)(G:((!N)=Q)∣0)
    (C:∀q,BD q (top i):=by repeat intro _
                           rfl):CO E K i (O+1) (vq K (Cu n Q k g)):=let⟨F,e⟩:=h;⟨_,_,ak8 F S M G λ_ _ _ _ _=>I S.nd vt,e,F.kp,(C _).b F⟩
end
open PyProof.Rows (boot_isinstance boot_abs boot_min boot_sum boot_all boot_int boot_bool boot_list boot_tuple boot_str)
section
variable {E:En}{K:Frag}(B:Bl E.mg)(KT:Zr K)
include B KT
theorem Ly (h:GF E K 12):CV E K 12 1 Pg.fj:=iu ["passages","flow","left","passage","number"] h λnd vt hr=>by walk_at "d"
theorem Te (h:GF E K 16):CV E K 16 1 Pg.oE:=iu ["length","count","known"] h λnd vt hr=>by walk_at "d"
theorem adU (A:CV E K 16 1 Pg.oE)(h:GF E K 15):CV E K 15 2 Pg.qQ:=iu ["moves","left","start","reached","waiting","queue","place","room","length","count","move","end","added"] h λnd vt hr=>by walk_at "d"
theorem ag6 (h:GF E K 18):CO E K 18 1 (vq K Pg.yG):=ajj ["left","way","pushed","move"] h λnd vt hr=>by walk_at "d"
theorem abx (h:GF E K 17):CV E K 17 1 Pg.qR:=iu ["reached","start","goal","way","room"] h λnd vt hr=>by walk_at "d"
theorem VP (C:CV E K 15 2 Pg.qQ)(D:CO E K 18 1 (vq K Pg.yG))(A:CV E K 17 1 Pg.qR)(h:GF E K 14):CO E K 14 3 (vq K Pg.lH):=ajj ["moves","left","start","goal","longest","steps","reached","length","pushed"] h λnd vt hr=>by walk_at "d"
set_option tactic.hygienic true in
theorem VR (h:GF E K 13):CV E K 13 1 fL:=by
 refine Gk ["many","passages","moves","number","passage","a","b","length"] h (λvs H Q h=>?_)<|λH nd vt hr h=>?_
 .let(G,ds,_,hx,b,d,e,_):=h;delta fL at e;f_are
  .exact hx.length.symm
  .k_go
 .let(G,ds,Y,hx,b,d,e,q):=h;delta fL at e;f_are
  .rename_i m pds;f_are
   .rename_i U eps;f_are
    .rename_i hc;let(m0,m1,pl,hr3):=hc;k_go;have epd:=oY eps;subst epd;let(v,u,rfl,hv,pa,xs,rfl,hq,hl):=aJ.two hx;have ev:v=.int m:=hv;subst ev;refine⟨_,(ak (qH (i:=2) nd rfl (lo (sc:=(aP<|top 13))<|'k') (N':=["room"]) (cap:=[none]) ["many","passages","moves","number","passage","a","b","length"] (aP<|top 13) 'k' rfl rfl (Nk (gl (sc:=(aP<|top 13))<|'k') B.range<|aj (pU 0) aq) (λ_ _ _ _ _=>(wA (i:=0) (show(["room"]:¬Str).Nodup by decide +kernel) 'k')) (λ_ _ _ _ _=>xX) (λ_ _ _ _ _=>(xU aq))) (ak (jG (WR (gl (sc:=(aP<|top 13))<|'k') B.enumerate<|aj (pU 1) aq) (ur (n:=2)<|eG (xR (i:=3) nd rfl<|lo (sc:=(aP<|top 13))<|'k')<|eG (xR (i:=4) nd rfl<|lo (sc:=(aP<|top 13))<|'k') pP)<|ak (Bu (i:=5) nd rfl (lo (sc:=(aP<|top 13))<|'k')<|aR ixD (pU 4) aH)<|ak (Bu (i:=6) nd rfl (lo (sc:=(aP<|top 13))<|'k')<|aR ixD (pU 4) aH)<|ak (Bu (i:=7) nd rfl (lo (sc:=(aP<|top 13))<|'k')<|aR ixD (pU 4) aH)<|ak (cB<|Eh (aR dw (pU 2)<|pU 5)<|aj (mQ<|aj (bY RQ aH<|pU 3)<|aj (pU 6)<|aj (pU 7) aq) aq)<|aM<|cB<|Eh (aR dw (pU 2)<|pU 6)<|aj (mQ<|aj (bY pN (bY RQ aH<|pU 3) aH)<|aj (pU 5)<|aj (YD aiu<|pU 7) aq) aq)<|aM<|bD<|pU 2)),?_⟩;dsimp only[iD];walk_at "e0";refine⟨m,rfl,by lk,by lk,?_⟩;refine lcR (n:=m.toNat) (aY ∅) (λi ys G'=>∃C:¬Addr,ys=C.map V.ref/\C.Nodup/\(!C)=i/\(∀b∈C,H b=none/\G' b=#[.lst []])/\∀a o,G' a=#[o]->H a=#[o]\/a∈C) ⟨[],rfl,li,rfl,by simp,λ_ _ h=>.inl h⟩ ?_ ?_
     .rintro D i ys k N hi hD s Zm A ⟨C,rfl,hnd,hbl,O,y⟩ hN;walk_at "e0";refine⟨.skip .nil,by decide,λp j=>?_⟩;have hpD:p≠D:=(aZ hD j).symm;refine hN _ _ (by rw[au hpD.symm];calc hD) (qJ<|aK j) ⟨C++[p],by simp,?_,by simp[hbl],λb T=>?_,λa o ha=>?_⟩
      .rw[d5];refine⟨hnd,by simp,λa ha c hc=>?_⟩;have hc':c=p:=‹hc›
       subst hc';intro z;subst z;have:=(O a ha).2;rw[hide_ne hpD] at this;rw[j] at this;cases this
      .rcases aT.mp T with T|T
       .refine⟨(O b T).1,qJ (aK j) _ _ (O b T).2⟩
       .have hb':b=p:=‹T›
        subst hb';refine⟨?_,by rw[hide_ne hpD,ao]⟩
        have:Same H k:=A.trans mR
        exact this.free j
      .by_cases hap:a=p
       .subst hap;exact .inr<|by simp
       .by_cases haD:a=D
        .subst haD;rw[Ei] at ha;cases ha
        .rw[hide_ne haD,au hap] at ha;rcases y a o (by rw[hide_ne haD];calc ha) with z|z
         .exact .inl z
         .exact .inr<|dT _ z
     .rintro D ys H1 hD s Zm A ⟨C,rfl,hnd,hbl,O,y⟩;have an8:Not (D∈C):=λz=>by have:=(O D z).2;rw[Ei] at this;cases this
      have I0:MI K G H D C (λ_=>[]) H1:=⟨G,A.trans mR,Same.refl _,Y.trans (A.trans mR),λ_ _ e=>.inl e,Y.free s,s,hD,an8,hnd,λb T=>⟨Y.free (O b T).1,(O b T).1⟩,λu b T=>⟨[],by
       have:=(O b (ag T)).2;calc mR _ _ this,rfl⟩⟩
      walk_at "e0";have hqH:aQ K H1 pa xs:=(A.trans mR).seq<|Y.seq hq;refine⟨pa,rfl,⟨xs,hqH⟩,?_⟩;have hpl:(!U)=!xs:=by rw[<-!hl,ac]
      refine anr (xs:=xs) (λi r k=>MI K G H D C (λu=>oh 0 (U.take i) (u:Int)) k/\∃v3 v4 v5 v6 v7,r=[#[.int m],#[.ref pa],#[.ref D],v3,v4,v5,v6,v7]) ⟨I0.congr λu _=>by simp[oh],none,none,none,none,none,rfl⟩ ?_ ?_ ?_
      .rintro i r k _ ⟨I,_⟩;let(F',h1,_):=I.ex;exact h1.seq<|Y.seq hq
      .rintro i x r k p hxi ⟨I,v3,v4,v5,v6,v7,rfl⟩ j;walk_at "e0";let(dd,hd,hxv):=hl.get hxi;rw[ai] at hd;cases eq:U[i]? with
       |none=>rw[eq] at hd;cases hd
       |some qq=>
        rw[eq] at hd;cases hd;let(M,t,qw,l):=qq;let((a0,a1),b0,b1):=hr3 _<|ag eq;dsimp only at a0 a1 b0 b1;have hi:i<!U:=by
         by_cases z:i<!U
         .exact z
         .rw[bg ∅] at eq;cases eq
        have I1:MI K G H D C (λu=>oh 0 (U.take i) (u:Int)) (upd k p<|.tup [.int (i:Int),x]):=by
         let(F',h1,h2,h3,h4,h5,h6,h7,h8,h9,h10,f):=I.ex;exact⟨F',h1.trans (aK j),h2,h3.trans (aK j),h4,h5,h6,aK j _ _ h7,h8,h9,h10,λu b T=>by
          let(ys,q1,q2):=f u b T;calc⟨ys,aK j _ _ q1,q2⟩⟩
        let(F',h1,h2,h3,h4,h5,h6,h7,h8,h9,h10,f):=I1.ex;have hxH:Has K (upd k p<|.tup [.int (i:Int),x]) (pD (M,t,qw,l)) x:=Has.same (h2.trans h3) hxv;refine⟨_,bK.of ao,rfl,?_⟩;walk_at "e0";refine⟨_,M,.inr hxH,rfl,_,t,.inr hxH,rfl,_,l,.inr hxH,rfl,?_⟩;have ea:C[M.toNat]? =#[C[M.toNat]'∅]:=ar _;have eb:C[t.toNat]? =#[C[t.toNat]'∅]:=ar _;generalize C[M.toNat]'∅=ba at ea;generalize C[t.toNat]'∅=bb at eb;have aA:cN (C.map V.ref) M=#[.ref ba]:=by
         have:M=((M.toNat:Nat):Int):=by lk
         rw[this];exact gM (by rw[ai,ea];rfl)
        have aB:cN (C.map V.ref) t=#[.ref bb]:=by
         have:t=((t.toNat:Nat):Int):=by lk
         rw[this];exact gM (by rw[ai,eb];rfl)
        let(zs,z1,_):=f _ _ ea;refine⟨_,_,aQ.of h7,aA,.inl ⟨rfl,_,aQ.of z1⟩,(BMul.ok ⟨by decide +kernel,by calc Cy ∅ ∅⟩),by decide,λp1 hp1=>?_⟩;let(ys,y1,y2,y3,I2):=I1.put (f':=λu=>oh 0 (U.take i) (u:Int)++(if u=M.toNat then [wM (2*i) t l] else [])) ea hp1 (m:=2*i) (e:=t) (x:=l) (by
         intro w;by_cases hw:w=M.toNat<;>simp[hw])
        have tl:=Hv (M.toNat:Int) (U.take i) 0;have tl2:=Hv (t.toNat:Int) (U.take i) 0;rw[cS] at tl tl2;refine⟨ys,y2,aY ∅,?_⟩;let(F2,k1,k2,k3,k4,k5,k6,k7,k8,k9,k10,k11):=I2.ex;let(ws,w1,_):=k11 _ _ eb;refine⟨_,_,aQ.of k7,aB,.inl ⟨rfl,_,aQ.of w1⟩,(BMul.ok ⟨by decide +kernel,by calc Cy ∅ ∅⟩),by decide,λp2 hp2=>?_⟩;let(ys2,_,y22,y23,I3):=I2.put (f':=λu=>(oh 0 (U.take i) (u:Int)++(if u=M.toNat then [wM (2*i) t l] else []))++(if u=t.toNat then [wM (2*i+1) M (-l)] else [])) eb hp2 (m:=2*i+1) (e:=M) (x:=-l) (by
         intro w;by_cases hw:w=t.toNat<;>simp[hw])
        refine⟨ys2,y22,aY ?_,I3.congr λu hu=>?_,_,_,_,_,_,rfl⟩
        .rw[y23,aE]
         have:(!(if t.toNat=M.toNat then [wM (2*i) t l] else []))<=1:=by split<;>simp
         lk
        .have et:U.take (i+1)=U.take i++[(M,t,qw,l)]:=by rw[f8,eq];rfl
         have ea':(u=M.toNat)↔(M=(u:Int)):=by lk
         have eb':(u=t.toNat)↔(t=(u:Int)):=by lk
         have el:(!(List.take i U))=i:=by rw[cS];lk
         rw[et,Oh,el,ii];erw[ea',eb',cr]
      .rintro r k ⟨I,v3,v4,v5,v6,v7,rfl⟩;walk_at "e0";rw[bu ∅] at I;let(F',g,hh):=I.fin;refine q _ F' k g ?_;rw[hbl] at hh;exact hh
    .k_go
   .k_go
  .k_go
theorem V0 (A:CV E K 12 1 Pg.fj)(D:CO E K 14 3 (vq K Pg.lH))(C:CV E K 13 1 VM.fL)(h:GF E K 10):CV E K 10 4 Pg.nJ:=iu ["many","passages","start","goal","left"] h λnd vt hr=>by walk_at "d"
theorem Tf (A:CV E K 12 1 Pg.fj)(D:CO E K 14 3 (vq K Pg.lH))(C:CV E K 13 1 VM.fL)(h:GF E K 11):CV E K 11 4 Pg.iy:=iu ["many","passages","start","goal","turns","left"] h λnd vt hr=>by walk_at "d"
theorem Ti (h:GF E K 20):CV E K 20 1 Pg.ji:=iu ["passages","walk"] h λnd vt hr=>by walk_at "d"
theorem PB (h:GF E K 23):CV E K 23 1 Pg.ju:=iu ["passages","room","left","number","passage"] h λnd vt hr=>by walk_at "d"
theorem PJ (A:CV E K 23 1 Pg.ju)(h:GF E K 22):CV E K 22 2 Pg.iI:=iu ["passages","start","goal","left","walk","room","number"] h λnd vt hr=>by walk_at "d"
theorem V1 (A:CV E K 22 2 Pg.iI)(h:GF E K 21):CV E K 21 3 Pg.jN:=iu ["passages","start","goal","flow","left","walks","walk","many","number"] h λnd vt hr=>by walk_at "d"
theorem PK (A:CV E K 12 1 Pg.fj)(D:CV E K 15 2 Pg.qQ)(C:CV E K 13 1 VM.fL)(h:GF E K 26):CV E K 26 3 Pg.iJ:=iu ["many","passages","start","goal","turns","flow","late","with_late","left","reached"] h λnd vt hr=>by walk_at "d"
theorem PL (C:CV E K 11 4 Pg.iy)(G:CV E K 21 3 Pg.jN)(A:CV E K 26 3 Pg.iJ)(D:CV E K 20 1 Pg.ji)(h:GF E K 25):CV E K 25 5 Pg.fJ:=iu ["many","passages","start","goal","turns","flow","walks","people"] h λnd vt hr=>by walk_at "d"
theorem V2 (h:GF E K 29):CV E K 29 1 Pg.p8:=iu ["steps","people","amount","cost","needed","length","many"] h λnd vt hr=>by walk_at "d"
theorem V3 (D:CV E K 20 1 Pg.ji)(h:GF E K 30):CV E K 30 2 Pg.qb:=iu ["passages","walks","turns","people","plan","waiting","walk","number","moments","full"] h λnd vt hr=>by walk_at "d"
theorem J6 (G:CV E K 10 4 Pg.nJ)(H:CV E K 29 1 Pg.p8)(C:CV E K 11 4 Pg.iy)(D:CV E K 30 2 Pg.qb)(I:CV E K 21 3 Pg.jN)(A:CV E K 26 3 Pg.iJ)(h:GF E K 28):CV E K 28 5 Pg.fu:=iu ["many","passages","start","goal","people","steps","turns","flow","plan"] h λnd vt hr=>by walk_at "d"
def yH:VS:=(dz (nZ (eU<|vB<|oA Bf Bf (vC<|.int 1) (cL pY<|aC (vN 0) a0)<|vC<|.int 12)<|eU<|vB<|cL vH<|aC (jM (jl<|vN 0) [none] (gN 0) c7<|oA gR gR (vC<|.str "a") (vN 0)<|vC<|.str "z") a0) pQ cI)
def jm:dX:=fH 1 1 yH
theorem J7 (ajd:E.mg "all"=none)(ahO:E.mg "LONGEST_NAME"=#[.int 12 L])(h:GF E K 38):CV E K 38 1 jm:=iu ["name"] h λnd vt hr=>by walk_at "d"
def yI:VS:=(aN (dz (vB<|v2 wF (vN 1)<|cL iG<|aC (vN 0) a0) (cJ<|v2 aW (vN 0)<|vN 1) cI)<|cJ<|vC<|.int 0)
def cW:dX:=fH 2 2 yI
theorem J8 (h:GF E K 52):CV E K 52 1 cW:=iu ["_law_script","_law_k"] h λnd vt hr=>by walk_at "d"
def CT:VS:=(aN (dz (vB<|v2 jc (v2 fO (vN 0)<|vC<|.int 2)<|vC<|.int 0) (aN (bZ (v2 kI (cL Ho<|aC (vN 0) a0)<|vC<|.int 2)<|gN 2)<|aN (mV (uw<|aC (vN 1) a0) (gN 3)<|bZ (v2 kI (vN 2)<|v2 zE (vC<|.int 10)<|vC<|.int 12)<|gN 2)<|gq 2) cI)<|aN (bZ (v2 fO (v2 dW (vN 0)<|v2 tR (vC<|.int 7919)<|vN 1)<|vC<|.int 2147483629)<|gN 2)<|aN (bZ (v2 fO (v2 dW (v2 dW (v2 tR (vN 2)<|vN 2)<|v2 tR (vC<|.int 16807)<|vN 2)<|vN 1)<|vC<|.int 2147483629)<|gN 2)<|cJ<|v2 fO (v2 tR (vN 2)<|vN 2)<|vC<|.int 2147483587)
def bN:dX:=fH 2 4 CT
theorem PX (h:GF E K 53):CV E K 53 1 bN:=iu ["_law_cell","_law_k","_law_number","_law_time"] h λnd vt hr=>by walk_at "d"
def Tj:VS:=(cJ<|Le (tU "int" (vN 0))<|Hj<|tU "bool" (vN 0))
def qd:dX:=fH 1 1 Tj
theorem P0 (h:GF E K 54):CV E K 54 1 qd:=iu ["_law_found"] h λnd vt hr=>by walk_at "d"
def CW:VS:=(aN (bZ (vC<|.str "abcdefghijklmnopqrstuvwxyz")<|gN 3)<|aN (bZ (bF bN<|aC (vF 0)<|aC (vF 2) a0)<|gN 4)<|aN (bZ (vG (vN 3) (oI<|v2 fO (vN 4)<|vC<|.int 26)<|oI<|v2 dW (v2 fO (vN 4)<|vC<|.int 26)<|v2 fO (v2 kI (vN 4)<|vC<|.int 26)<|vC<|.int 12)<|gN 5)<|aN (bZ (vG (vN 5) oN<|oI<|vC<|.int 11)<|gN 5)<|aN (bZ (v2 fO (v2 kI (vN 4)<|vC<|.int 312)<|v2 dW (cL pY<|aC (vN 5) a0)<|vC<|.int 1)<|gN 6)<|pR<|jM (uw<|aC (vN 1) a0) [none,#[5],#[3],#[6]] (gN 0) c7<|v2 zR (v2 zR (vG (vN 1) oN<|oI<|vN 3)<|v2 Lr (vN 2)<|vN 0)<|vG (vN 1) (oI<|vN 3) oN)
def kY:dX:=fH 3 7 CW
theorem Qa (A:CV E K 53 1 bN)(h:GF E K 55):CV E K 55 2 kY:=iu ["_law_cell","_law_many","_law_k","_law_letters","_law_number","_law_base","_law_at"] h λnd vt hr=>by walk_at "d"
def Bo:VS:=(aN (bZ (bF bN<|aC (vF 0)<|aC (vC<|.int 2) a0)<|gN 1)<|aN (dz (vB<|v2 jc (v2 fO (vN 1)<|vC<|.int 6)<|vC<|.int 0) (cJ<|v2 dW (vC<|.int 1)<|v2 fO (vN 0)<|v2 zE (vC<|.int 10)<|vC<|.int 58) cI)<|cJ<|v2 dW (vC<|.int 1)<|v2 fO (v2 kI (vN 1)<|vC<|.int 6)<|vC<|.int 5)
def lQ:dX:=fH 1 2 Bo
theorem Lz (A:CV E K 53 1 bN)(h:GF E K 56):CV E K 56 2 lQ:=iu ["_law_cell","_law_number"] h λnd vt hr=>by walk_at "d"
def CX:VS:=(aN (bZ (bF bN<|aC (vF 0)<|aC (vC<|.int 1) a0)<|gN 1)<|aN (dz (vB<|v2 jc (v2 fO (vN 1)<|vC<|.int 4)<|vC<|.int 0) (cJ<|v2 dW (vC<|.int 1)<|v2 fO (vN 0)<|v2 zE (vC<|.int 10)<|vC<|.int 58) cI)<|cJ<|v2 dW (vC<|.int 1)<|v2 fO (v2 kI (vN 1)<|vC<|.int 4)<|vC<|.int 6)
def kZ:dX:=fH 1 2 CX
theorem Qc (A:CV E K 53 1 bN)(h:GF E K 57):CV E K 57 2 kZ:=iu ["_law_cell","_law_number"] h λnd vt hr=>by walk_at "d"
def CZ:VS:=(aN (Cq 2<|jM (cP<|vF 1) [none] (gN 0) c7<|v2 aW (vN 0)<|vC<|.int 0)<|aN (mV (cP<|vF 0) (gN 3)<|dz (vB<|v2 (Ht true) (vN 3)<|vN 2) (gq 3) cI)<|cJ<|vC .none)
def mW:dX:=fH 2 4 CZ
theorem Qd (h:GF E K 58):CV E K 58 1 mW:=iu ["_law_words_here","_law_held","_law_names","_law_word"] h λnd vt hr=>by walk_at "d"
def ZL:VS:=(aN (bZ (v2 fO (v2 kI (vN 4)<|vC<|.int 9)<|cL iG<|aC (vN 2) a0)<|gN 6)<|aN (bZ (v2 fO (v2 dW (v2 dW (vN 6)<|vC<|.int 1)<|v2 fO (v2 kI (vN 4)<|vC<|.int 90)<|v2 jX (cL iG<|aC (vN 2) a0)<|vC<|.int 1)<|cL iG<|aC (vN 2) a0)<|gN 7)<|cJ<|fP<|aC (vC<|.str "lay")<|aC (bF mW<|aC (vF 3)<|aC (vF 1) a0)<|aC (v2 aW (vN 2)<|vN 6)<|aC (v2 aW (vN 2)<|vN 7)<|aC (bF kZ<|aC (vF 0) a0)<|aC (bF lQ<|aC (vF 0) a0) a0)
def yJ:VS:=(aN (bZ (v2 aW (vN 1)<|v2 fO (v2 kI (vN 4)<|vC<|.int 9)<|cL iG<|aC (vN 1) a0)<|gN 8)<|aN (dz (vB<|v2 jc (vN 5)<|vC<|.int 5) (cJ<|fP<|aC (vC<|.str "shut")<|aC (v2 aW (vN 8)<|vC<|.int 0) a0) cI)<|aN (dz (lG (vB<|v2 jc (vN 5)<|vC<|.int 6)<|vB<|v2 yd (v2 aW (vN 8)<|vC<|.int 3)<|vC<|.int 1) (cJ<|fP<|aC (vC<|.str "narrow")<|aC (v2 aW (vN 8)<|vC<|.int 0)<|aC (v2 dW (vC<|.int 1)<|v2 fO (v2 kI (vN 4)<|vC<|.int 90)<|cL rG<|aC (v2 jX (v2 aW (vN 8)<|vC<|.int 3)<|vC<|.int 1)<|aC (vC<|.int 3) a0) a0) cI)<|cJ<|fP<|aC (vC<|.str "widen")<|aC (v2 aW (vN 8)<|vC<|.int 0)<|aC (bF kZ<|aC (vF 0) a0) a0)
def Gq:VS:=(aN (bZ (bF bN<|aC (vF 0)<|aC (vC<|.int 0) a0)<|gN 4)<|aN (bZ (v2 fO (vN 4)<|vC<|.int 9)<|gN 5)<|aN (dz (nZ (vB<|v2 jc (vN 1)<|dD a0)<|lG (vB<|v2 wF (vN 5)<|vC<|.int 5)<|vB<|v2 wF (cL iG<|aC (vN 1) a0)<|cL iG<|aC (vN 3) a0) ZL cI) yJ)
def rO:dX:=fH 4 9 Gq
theorem Tn (D:CV E K 53 1 bN)(G:CV E K 57 2 kZ)(C:CV E K 58 1 mW)(A:CV E K 56 2 lQ)(h:GF E K 59):CV E K 59 3 rO:=iu ["_law_cell","_law_held","_law_rooms","_law_names","_law_number","_law_way_here","_law_a","_law_b","_law_row"] h λnd vt hr=>by walk_at "d"
def Dc:VS:=(aN (bZ (bF bN<|aC (vF 0)<|aC (vC<|.int 4) a0)<|gN 1)<|aN (dz (vB<|v2 jc (v2 fO (vN 1)<|vC<|.int 4)<|vC<|.int 0) (cJ<|v2 fO (vN 0)<|v2 zE (vC<|.int 10)<|vC<|.int 59) cI)<|cJ<|v2 fO (v2 kI (vN 1)<|vC<|.int 4)<|vC<|.int 25)
def gF:dX:=fH 1 2 Dc
theorem Qe (A:CV E K 53 1 bN)(h:GF E K 62):CV E K 62 2 gF:=iu ["_law_cell","_law_number"] h λnd vt hr=>by walk_at "d"
def uD:VS:=(aN (Cq 7<|jM (cP<|vF 0) [none,#[6]] (gN 0) (vB<|v2 jc (v2 aW (vN 0)<|vC<|.int 0)<|vN 1)<|vF 0)<|aN (dz (nZ (vB<|v2 jc (vN 7)<|dD a0)<|nZ (vB<|v2 inE (v2 aW (vN 7)<|vC<|.int 0)<|vN 4)<|vB<|v2 jr (v2 aW (v2 aW (vN 7)<|vC<|.int 0)<|vC<|.int 1)<|vN 5) (cJ<|vC .none) cI)<|aN (d8 4<|aC (v2 aW (vN 7)<|vC<|.int 0) a0)<|bZ (v2 aW (v2 aW (vN 7)<|vC<|.int 0)<|vC<|.int 2)<|gN 5)
def J9:VS:=(aN (pA 4<|dD a0)<|aN (bZ (vF 2)<|gN 5)<|aN (mV (cP<|vF 1) (gN 6) uD)<|aN (dz (vB<|v2 jr (vN 5)<|vN 3) (cJ<|vC .none) cI)<|gq 4)
def uE:dX:=fH 4 8 J9
theorem V4 (h:GF E K 63):CV E K 63 1 uE:=iu ["_law_held","_law_names","_law_start","_law_goal","_law_rows","_law_room","_law_name","_law_found"] h λnd vt hr=>by walk_at "d"
def ZM:VS:=(dz (nZ (eU<|vB<|tU "tuple" (vN 3))<|nZ (vB<|v2 jr (cL iG<|aC (vN 3) a0)<|vC<|.int 2)<|nZ (eU<|vB<|bF qd<|aC (v2 aW (vN 3)<|vC<|.int 1) a0)<|eU<|vB<|oA Bf Bf (vC<|.int 0) (v2 aW (vN 3)<|vC<|.int 1)<|v2 dW (vN 2)<|vC<|.int 1) (cJ<|vC<|.bool false) cI)
def yK:VS:=(aN (dz (nZ (eU<|vB<|tU "list" (vN 0))<|vB<|v2 jr (jM (cP<|vF 0) [none] (gN 0) c7<|v2 aW (vN 0)<|vC<|.int 0)<|vN 1) (cJ<|vC<|.bool false) cI)<|aN (mV (cP<|vF 0) (gN 3) ZM)<|cJ<|Le (v2 jc (v2 aW (v2 aW (vN 0)<|vC<|.int 0)<|vC<|.int 1)<|vC<|.int 0)<|v2 jc (v2 aW (v2 aW (vN 0)<|vC<|.int 1)<|vC<|.int 1)<|v2 dW (vN 2)<|vC<|.int 1)
def jo:dX:=fH 3 4 yK
theorem Ka (A:CV E K 54 1 qd)(h:GF E K 65):CV E K 65 2 jo:=iu ["_law_moments_here","_law_seen","_law_turns_here","_law_one"] h λnd vt hr=>by walk_at "d"
end
end cA
namespace cA
open PyProof.Rows L2 VM
def adV:Stmt->Scope
 |.Assign _ (.ListComp _ _ A _) _=>A
 |_=>aP<|.Pass (0,0,0,0)
def fW (nm:Str):Prop:=jm [.str nm]=#[(false,.none)]/\(PyData.str nm).canLay0=true
def mX (nums:¬(Str×Int))(rs:¬Str):¬(Str×Int):=rs.foldl (λn r=>jZ r ((!n):Int) n) nums
def newOf (nums:¬(Str×Int))(rs:¬Str):¬Str:=rs.filter λr=>(eX r nums).isNone
def adW (nm:Str)(v:A)(l:¬(Str×A)):(!(jZ nm v l))<=(!l)+1:=by
 delta jZ;split
 .rw[ac];lk
 .rw[aE];simp
def adX (rs:¬Str):∀nums,(!(mX nums rs))<=(!nums)+!rs:=by
 induction rs with
 |nil=>intro nums;calc av _
 |cons r rs A=>intro nums;have h1:=A<|jZ r (!nums) nums;have h2:=adW r ((!nums):Int) nums;show(mX (jZ r ((!nums):Int) nums) rs).length<=_;grind
def lcF {K:Frag}(E:V->Bool)(U:bK K A a xs)(k:(!xs)<sizeLine)
  (O:∀x∈xs,∀D ys (R:Bool->Hp->Prop),A D=none->R (E x) (upd A D<|.lst ys)->tc ((cU cap J).set 0<|#[x]) (upd A D<|.lst ys) R)
  (T:∀x,gA (cU cap J) ((cU cap J).set 0<|#[x]))(N:∀(x:V) (H:Hp) (R:VK),R x H->te ((cU cap J).set 0<|#[x]) H R)
  (M:∀D,A D=none->Q (.ref D) (upd A D<|.lst<|xs.filter E)):G7 (Itt K a) cap (cC 0) tc te J A Q:=by
 intro D hD;refine(λi m H=>m=(!xs) - i/\i<=!xs/\H=upd A D (.lst<|(xs.take i).filter E),(_,rfl,cv _,rfl),?_);rintro i m H ⟨rfl,j,rfl⟩;have C:bK K (upd A D<|.lst<|(xs.take i).filter E) a xs:=(aK hD).oW U;by_cases B:i<!xs
 .refine .inr ⟨(xs,xs[i],C,by simp[B]),λx Y y=>?_⟩;let(e,y):=y;subst e;have L:=y xs C;have G:xs.take (i+1)=xs.take i++[x]:=by rw[lh,L];rfl
  refine⟨T x,O x (ag L) D _ _ hD ?_⟩;by_cases I:E x=true
  .rw[ah I];refine N x _ _ (_,ao,?_,(!xs) - (i+1),by lk,rfl,B,?_)
   .have:=f5 E<|xs.take i;rw[cS] at this;lk
   .rw[Eb,G,ki];simp[I]
  .rw[ap I];refine((!xs) - (i+1),by lk,rfl,B,?_);rw[G,ki];simp[I]
 .have e:i=!xs:=by lk
  subst e;refine .inl ⟨(xs,C,av _),?_⟩;rw[bu<|av _];calc M D hD
section
variable {K:Frag}
def yL {nm:Str}(e:B[i]? =#[#[.str nm]])(h:fW nm)(q:∀v E,Same H E->Q v E):jH (N6 K jm) (cg (vR i) cV) B H Q:=
 aG e (H,[.str nm],Same.refl _,(.str nm,[],rfl,⟨rfl,h.2⟩,rfl),false,.none,h.1,λv A E g _=>q v E g.hh)
inductive abA (C:Addr)(vs:¬V)(H:Hp)(Q:VK):Prop
 |mk:∀p dx nn ll nums ls nm a b wd len ia ib,vs=[.ref p,.str nm,.str a,.str b,.int wd,.int len]->aU H C p dx nn ll nums ls->fW nm->fW a->fW b->eX nm ls=none->a≠b->1<=wd->1<=len->(!ls)<50->(!nums)<30->eX a (mX nums<|newOf nums [a,b])=#[ia]->eX b (mX nums<|newOf nums [a,b])=#[ib]->(∀H',aU H' C p dx nn ll (mX nums<|newOf nums [a,b]) (jZ nm (ia,ib,wd,len) ls)->fD nn ll H H'->Q .non H')->abA C vs H Q
def Kc (C:Addr):Sp:=λJ H Q=>abA C J H Q
def ajp (B:Bl E.mg)(c:Cl K C)(O:CV E K 38 1 jm)(g60:E.mg "MOST_PASSAGES"=#[.int 60 t60])(g40:E.mg "MOST_ROOMS"=#[.int 40 t40])(h:MF E K C (bT 1)):MO E K C (bT 1) 2 (Kc C):=by
 refine sX ["self","name","a","b","width","length","added","room"] h (λvs H Q h=>by let(_,_,_,_,_,_,_,_,_,_,_,_,_,rfl,_):=h;rfl) λH nd vt hr qe=>?_;let(p,dx,M,ll,A,ls,nm,a,b,l,len,ia,ib,rfl,hh,n1,n2,n3,hg,Tp,hw,hl1,hn1,hn2,ga,gb,hq):=qe;have vc:=(show(["room","self"]:¬Str).all (λx=>G8 (adV ((eE (bT 1)).getD 5 (.Pass (0,0,0,0)))) x && plain x)=true by decide +kernel);refine(_,ak (cB (pC O (aj (pU 1) aq)))
  (ak (cB (pC O (aj (pU 2) aq)))
  (ak (cB (pC O (aj (pU 3) aq)))
  (ak (bQ (uW (ai6 (mG hr) (pU 1) (dB (pU 0) rfl))) (aM lF) bA)
  (ak (bQ (PW.pt (rD (eF gU (pU 2) (pU 3)) (rD (eF oLt (pU 4) aH) (pJ (eF oLt (pU 5) aH))))) (aM lF) bA)
  (ak (qH (tc:=tB (Lw (vR 0) (YK K (vR 1) "numbers"))) (i:=6) nd rfl lx (cap:=[none,#[0]]) ["self","name","a","b","width","length","added","room"] (aP (bT 1)) 'k' rfl rfl
   (Rq (mQ (aj (pU 2) (aj (pU 3) aq)))) (λ_ _ _ _ _=>wA (i:=0) 'k' 'k') (λ_ _ _ _ _=>WT (uW (Og (mG hr) (pq vc 0) (dB (pq vc 1) (by rfl))))) (λ_ _ _ _ _=>pq vc 0))
  (ak (bQ (PW.pt (rD (eF NK (bY pN (dU JX gx B.len eA (aj (dB (pU 0) rfl) aq)) aH) (jD (v:=.int 60) gx g60 ⟨_,rfl⟩))
   (pJ (eF NK (bY pN (dU JX gx B.len eA (aj (dB (pU 0) rfl) aq)) (dU Y8 gx B.len eA (aj (pU 6) aq))) (jD (v:=.int 40) gx g40 ⟨_,rfl⟩))))) (aM lF) bA)
  (ak (jG (iM (pU 6)) (pG 7) (aM (yw (mG hr) (dB (pU 0) rfl) (pU 7) (dU JX gx B.len eA (aj (dB (pU 0) rfl) aq)) rfl)))
  (aM (yw (mG hr) (dB (pU 0) rfl) (pU 1) (mQ (aj (uQ (mG hr) (dB (pU 0) rfl) (pU 2) (λ_ _=>rfl)) (aj (uQ (mG hr) (dB (pU 0) rfl) (pU 3) (λ_ _=>rfl)) (aj (pU 4) (aj (pU 5) aq))))) rfl))))))))),?_)
 dsimp only[iD];delta iC gk;refine yL rfl n1 λ_ H1 s1=>?_;try k_ne
 refine yL rfl n2 λ_ H2 s2=>?_;refine yL rfl n3 λ_ H3 s3=>?_;have N:=(s1.trans s2).trans s3;have T:=hh.grow N;let(j,hk,hl):=T.laid;have g:=yE nm hl;rw[hg] at g;have hkl:=!hl;delta cR tB ai5;refine aG rfl<|dH rfl T.ins c.cl c.n2 rfl (ll,_,rfl,mD.k (k:=nm) hk,_,rfl,?_);rw[g];show(if(none:↑V).isSome=true then _ else _);rw[ap<|by simp];delta jF Ww jJ;try k_ne
 refine aG rfl<|aG rfl (_,_,rfl,rfl,?_);show(if decide (a=b)=true then _ else _);rw[ap<|by simp[Tp]];rw[cA.op1];refine aG (v:=.int l) rfl ?_;show(if decide (l<1)=true then _ else _);rw[ap (by simp;lk)];rw[cA.op1];refine aG (v:=.int len) rfl ?_;show(if decide (len<1)=true then _ else _);rw[ap (by simp;lk)];delta gZ xY acW za cg;try k_ne
 refine aG (v:=.str a) rfl (aG (v:=.str b) rfl ⟨by show 2<=sizeLine;decide,λt ht=>(t,rfl,⟨_,bK.of ao⟩,?_)⟩);have s4:=aK (o:=.tup [.str a,.str b]) ht;have U:=T.grow s4;refine lcF (λx=>match x with|.str r=>(eX r A).isNone|_=>false) (bK.of ao) (by show 2<sizeLine;decide) ?_ (λx=>gA.set gA.refl rfl) (λx Hx R r=>aG rfl r) ?_
 .intro x f D ys R hD r;have sD:=aK (o:=.lst ys) hD;obtain⟨I,rfl⟩:∃I,x=.str I:=by
   rcases aI.mp f with rfl|f
   .exact⟨_,rfl⟩
   .rw[a7.mp f];exact⟨_,rfl⟩
  refine aG (v:=.str I) rfl<|dH (p:=p) rfl ((U.grow sD).ins) c.cl c.n1 rfl ⟨M,_,rfl,mD.k (k:=I)<|(U.grow sD).num,_,rfl,?_⟩;rw[Fj];have e:(not ((Option.map V.int<|eX I A).isSome))=(eX I A).isNone:=by cases eX I A<;>rfl
  rwa [e]
 intro D hD;have eN:List.filter (λx=>match x with|.str r=>(eX r A).isNone|_=>false) [V.str a,V.str b]=(newOf A [a,b]).map V.str:=by delta newOf;rw[show [V.str a,V.str b]=[a,b].map V.str from rfl,kG];rfl
 rw[eN];have s5:=aK (o:=.lst<|(newOf A [a,b]).map V.str) hD;have J:=U.grow s5;have s:=s5 _ _<|s4 _ _ hk;have L:upd (upd H3 t<|.tup [.str a,.str b]) D (.lst<|(newOf A [a,b]).map V.str) D=#[.lst<|(newOf A [a,b]).map V.str]:=ao;have hl5:Paired (vJ<|upd (upd H3 t<|.tup [.str a,.str b]) D<|.lst<|(newOf A [a,b]).map V.str) j ls:=hl.mono λ_ _ z=>z.same λu xs e=>s5 _ _<|s4 _ _ e;have s35:=s4.trans s5;generalize upd (upd H3 t<|.tup [.str a,.str b]) D (.lst<|(newOf A [a,b]).map V.str)=H5 at J s L hl5 s35 ⊢;have nl:(!(newOf A [a,b]))<=2:=f5 _ _;generalize hN:newOf A [a,b]=nw at*
 dsimp only[cC];rw[cA.op1,cA.op1];delta qC;refine dH (p:=p) rfl J.ins c.cl c.n2 rfl ⟨ll,j,rfl,s,?_⟩;show(if decide ((60:Int)<((!j):Int)+1)=true then _ else _);rw[ap (by simp;lk)];rw[cA.op1];delta fC;refine dH (p:=p) rfl J.ins c.cl c.n1 rfl ⟨M,_,rfl,J.num,aG (v:=.ref D) rfl ⟨nw.map V.str,.inl<|aQ.of L,?_⟩⟩;show(if decide ((40:Int)<((!(A.map xJ)):Int)+((!(nw.map V.str)):Int))=true then _ else _);rw[ap (by rw[ac,ac];simp;lk)];try k_ne
 rw[qI];delta pK;refine aG (v:=.ref D) rfl ⟨D,rfl,⟨_,aQ.of L⟩,?_⟩;refine forL (xs:=nw.map V.str) (λi m d=>(∃y,m=[#[.ref p],#[.str nm],#[.str a],#[.str b],#[.int l],#[.int len],#[.ref D],y])/\aU d C p dx M ll (mX A<|nw.take i) ls/\d D=#[.lst<|nw.map V.str]/\fD M ll H5 d) ⟨⟨_,rfl⟩,J,L,fD.same<|Same.refl _⟩ (λ_ _ _ _ h=>aQ.of h.2.2.1) ?_ ?_
 .rintro i x m d f ⟨⟨y,rfl⟩,G,i2,i3⟩;rw[ai] at f;let(I,er,rfl):=bq.mp f;delta cC Fg;show YK K (vR 0) "numbers" [#[.ref p],#[.str nm],#[.str a],#[.str b],#[.int l],#[.int len],#[.ref D],#[.str I]] d _;refine dH (p:=p) rfl G.ins c.cl c.n1 rfl ⟨M,_,rfl,G.num,dH (p:=p) rfl G.ins c.cl c.n1 rfl<|aG (v:=.str I) rfl ⟨M,_,rfl,zU.k (k:=I) G.num<|aY ?_,?_⟩⟩
  .have:=adX (nw.take i) A
   have:(!(nw.take i))<=!nw:=by rw[cS];lk
   rw[ac];lk
  rw[ac,ag2];have e:jZ I ((!(mX A<|nw.take i)):Int) (mX A<|nw.take i)=mX A (nw.take<|i+1):=by rw[lh,er];delta mX;rw[oq];rfl
  rw[e];refine⟨⟨_,rfl⟩,G.an2,?_,i3.trans fD.num⟩;rw[au λz=>by have:=G.num;rw[<-z,i2] at this;cases this];exact i2
 .rintro m d ⟨⟨y,rfl⟩,G,i2,i3⟩;rw[ac,bu<|av _] at G;let(kv2,hk2,w):=G.laid;have ar5:=!w;k_ne;delta Fg Q7;refine dH (p:=p) rfl G.ins c.cl c.n1 rfl (aG (v:=.str a) rfl ⟨M,.int ia,rfl,?_,?_⟩)
  .have:=mD.k (k:=a) G.num;rw[Fj,ga] at this;exact this
  refine dH (p:=p) rfl G.ins c.cl c.n1 rfl<|aG (v:=.str b) rfl ⟨M,.int ib,rfl,?_,?_⟩
  .have:=mD.k (k:=b) G.num;rw[Fj,gb] at this;exact this
  refine aG (v:=.int l) rfl (aG (v:=.int len) rfl ⟨by show 4<=sizeLine;decide,λt' ht'=>?_⟩);have s6:=aK (o:=.tup [.int ia,.int ib,.int l,.int len]) ht';have n:=G.grow s6;have Y:=s6 _ _ hk2;refine dH (p:=p) rfl n.ins c.cl c.n2 rfl (aG (v:=.str nm) rfl ⟨ll,_,rfl,zU.k (k:=nm) Y<|aY ∅,?_⟩);calc hq _ (n.put Y<|abq (q:=(ia,ib,l,len)) ao<|w.mono λ_ _ z=>z.same λu xs e=>s6 _ _ e)<|((((fD.same N).trans<|fD.same s35).trans i3).trans<|fD.same s6).trans<|fD.put Y
end
section
variable {K:Frag}
inductive Xg (C:Addr)(vs:¬V)(H:Hp)(Q:VK):Prop
 |mk:∀x dx a b,vs=[.ref x,.str a,.str b]->H x=#[.ins C dx []]->fW a->fW b->a≠b->(∀H' nn ll,aU H' C x dx nn ll [(a,0),(b,1)] []->(∀c o,c≠x->H c=#[o]->H' c=#[o])->H nn=none->H ll=none->Q .non H')->Xg C vs H Q
def Kd (C:Addr):Sp:=λJ H Q=>Xg C J H Q
def ag7 (c:Cl K C)(O:CV E K 38 1 jm)(g0:E.mg "START"=#[.int 0 w])(k:E.mg "GOAL"=#[.int 1 i])(h:MF E K C (bT 0)):MO E K C (bT 0) 2 (Kd C):=by
 refine sX ["self","start","goal"] h (λvs H Q h=>by let(_,_,_,_,rfl,_):=h;rfl) λH nd vt hr m=>?_;let(x,N,a,b,rfl,p,q,t,r,g):=m;refine(_,ak (cB (pC O (aj (pU 1) aq)))
  (ak (cB (pC O (aj (pU 2) aq)))
  (ak (bQ (eF gU (pU 1) (pU 2)) (aM lF) bA)
  (ak (IK (pU 0) (ag1 (SJ (pU 1) (jD (v:=.int 0) gx g0 ⟨_,rfl⟩) (SJ (pU 2) (jD (v:=.int 1) gx k ⟨_,rfl⟩) ag0)) rfl rfl 's' ⋯) rfl)
  (aM (IK (pU 0) Hu rfl))))),?_)
 dsimp only[iD];delta iC gk;refine yL rfl q λ_ s u=>?_;try k_ne
 refine yL rfl t λ_ U y=>?_;have B:=u.trans y;have M:=B _ _ p;delta cR jJ;refine aG rfl<|aG rfl (_,_,rfl,rfl,?_);show(if decide (a=b)=true then _ else _);rw[ap<|by simp[r]];intro d L;have A:=aZ M L;delta yx yx yx tC;refine aG rfl (aG rfl (ao,[(a,.int 0),(b,.int 1)],rfl,by simp,?_));rw[Eb];have j:vI [] [(a,V.int 0),(b,.int 1)]=([(a,0),(b,1)]).map xJ:=by
  have:Not ((a:Key)=b):=λz=>r<|z
  delta vI;rw[g9,g9,List.foldl_nil];delta putK;simp[this,xJ]
 rw[j];refine aG rfl (x,C,N,[],rfl,by rwa [au A],c.cl,c.n1,by decide,?_);intro e I;have G:x≠e:=λz=>by subst z;rw[ao] at I;cases I
 have D:d≠e:=λz=>by subst z;rw[au A.symm,ao] at I;cases I
 refine aG rfl (x,C,N,_,rfl,by rw[au G,ao],c.cl,c.n2,by show 1<1000;decide,?_);have l:U e=none:=by rw[au G.symm,au D.symm] at I;exact I
 refine g _ d e (?_,?_,([],?_,.nil),D) (λc o T Y=>?_) (B.free L)<|B.free l
 .rw[ao];rfl
 .rw[au A.symm,au D,au A.symm,ao]
 .rw[au G.symm,ao]
 .have J:=B _ _ Y;have f:c≠e:=λz=>by subst z;rw[l] at J;cases J
  have n:c≠d:=λz=>by subst z;rw[L] at J;cases J
  rwa [au T,au f,au T,au n]
end
inductive bf where
 |lay (nm a b:Str) (w l:Int)
 |shut (nm:Str)
 |widen (nm:Str) (k:Int)
 |narrow (nm:Str) (k:Int)
def bf.vals:bf->¬V
 |.lay nm a b w l=>[.str "lay",.str nm,.str a,.str b,.int w,.int l]
 |.shut nm=>[.str "shut",.str nm]
 |.widen nm k=>[.str "widen",.str nm,.int k]
 |.narrow nm k=>[.str "narrow",.str nm,.int k]
def bf.nm:bf->Str
 |.lay nm _ _ _ _=>nm
 |.shut nm=>nm
 |.widen nm _=>nm
 |.narrow nm _=>nm
def bf.word:bf->Str
 |.lay _ _ _ _ _=>"lay"
 |.shut _=>"shut"
 |.widen _ _=>"widen"
 |.narrow _ _=>"narrow"
def bf.at0 (d:bf):cN d.vals 0=#[.str d.word]:=by cases d<;>rfl
def bf.at1 (d:bf):cN d.vals 1=#[.str d.nm]:=by cases d<;>rfl
def gG {K:Frag}{i:Nat}{j:Int}{B:L2.St}{H:Hp}{Q:VK}{t:Addr}{xs:¬V}{v:V}(e:B[i]? =#[#[.ref t]])(h:bK K H t xs)(a:cN xs j=#[v])(q:Q v H):fC (wD K) (vR i) (tC<|.int j) B H Q:=
 aG e (xs,v,h,a,q)
def zX {K:Frag}{A D:TE}{B:L2.St}{H:Hp}{Q:Bool->Hp->Prop}{x y:Str}(G:∀R:VK,R (.str x) H->A B H R)(C:∀R:VK,R (.str y) H->D B H R)(q:Q (decide<|x=y) H):jJ (fC Ir A D) B H Q:=by calc G _<|C _ ⟨_,_,rfl,rfl,q⟩
section
variable {K:Frag}
def bf.sp (C:Addr)(p:Addr):bf->Hp->VK->Prop
 |.lay nm a b w l,H,Q=>Kc C [.ref p,.str nm,.str a,.str b,.int w,.int l] H Q
 |.shut nm,H,Q=>SQ C [.ref p,.str nm] H Q
 |.widen nm k,H,Q=>Lx C [.ref p,.str nm,.int k] H Q
 |.narrow nm k,H,Q=>Hw C [.ref p,.str nm,.int k] H Q
end
def bh (r:Row):():=.list [.str r.1,.str r.2.1,.str r.2.2.1,.int r.2.2.2.1,.int r.2.2.2.2]
abbrev PR:=Addr×Row
structure Held (H:Hp)(D:Addr)(bJ:¬PR):Prop where
 top:H D=#[.lst<|bJ.map λx=>.ref x.1]
 row:∀x∈bJ,H x.1=#[.lst<|fQ x.2]
 can:∀x∈bJ,(bh x.2).canLay0=true
def Held.grow (h:Held H D A)(k:Same H E):Held E D A:=(k _ _ h.top,λx B=>k _ _<|h.row x B,h.can)
def mY (seen:¬Str)(rs:¬Str):¬Str:=rs.foldl (λs r=>if(s.any λy=>y==r)=true then s else s++[r]) seen
def gH (nm:Str)(k:Int)(r:Row):Row:=if r.1=nm then(r.1,r.2.1,r.2.2.1,r.2.2.2.1+k,r.2.2.2.2) else r
def uF:bf->¬Row->¬Row
 |.lay nm a b w l,A=>A++[(nm,a,b,w,l)]
 |.shut nm,A=>A.filter λr=>not (decide (r.1=nm))
 |.widen nm k,A=>A.map<|gH nm k
 |.narrow nm k,A=>A.map<|gH nm<|-k
def zY:bf->¬Str->¬Str
 |.lay _ a b _ _,seen=>mY seen [a,b]
 |_,seen=>seen
def adY (rs:¬Str):∀seen,(!(mY seen rs))<=(!seen)+!rs:=by
 induction rs with
 |nil=>intro seen;calc av _
 |cons r rs A=>intro seen;have h1:=A<|if(seen.any λy=>y==r)=true then seen else seen++[r];show (!(mY (if(seen.any λy=>y==r)=true then seen else seen++[r]) rs))<=_;grind
def adZ (x:Str)(xs:¬Str):inV (.str x) (xs.map V.str)=xs.any λy=>y==x:=by delta inV;rw[any_map];rfl
def Xh {K:Frag}(h:H a=#[.lst<|fQ r])(c:(bh r).canLay0=true):Has K H (bh r) (.ref a):=by erw[bh,canLay0,canLayAll0,bc] at c;let(n,w,q,_):=c;refine(a,fQ r,rfl,aQ.of h,?_);refine(_,_,rfl,⟨rfl,by erw[canLay0];calc n⟩,_,_,rfl,⟨rfl,by erw[canLay0];calc w⟩,_,_,rfl,⟨rfl,by erw[canLay0];calc q⟩,_,_,rfl,rfl,_,_,rfl,rfl,rfl)
theorem Dd {K:Frag}:∀{A:¬PR},(∀x∈A,H x.1=#[.lst<|fQ x.2])->(∀x∈A,(bh x.2).canLay0=true)->aJ K H (A.map λx=>bh x.2) (A.map λx=>V.ref x.1)
 |[],_,_=>rfl
 |x::r,h,c=>(_,_,rfl,Xh (h x<|aa ..)<|c x<|aa ..,Dd (λy n=>h y<|ae _ n)<|λy n=>c y<|ae _ n)
def Ke (h:r.1≠s.1):eqv (bh r) (bh s)=false:=by erw[bh,eqv,PyData.eqvAll];simp[h]
section
variable {K:Frag}{base:Heap}
inductive Tq (K:Frag)(vs:¬V)(H:Hp)(Q:VK):Prop
 |mk:∀D sA t bJ seen d,vs=[.ref D,.ref sA,.ref t]->Held H D bJ->H sA=#[.lst<|seen.map V.str]->(D::sA::bJ.map (·.1)).Nodup->bK K H t (bf.vals d)->(!bJ)<100->(!seen)<100->((∀nm a b w l,d=.lay nm a b w l->(bh (nm,a,b,w,l)).canLay0=true))->(∀H' bW,Held H' D bW->bW.map (·.2)=uF d (bJ.map (·.2))->H' sA=#[.lst<|(zY d seen).map V.str]->(D::sA::bW.map (·.1)).Nodup->(∀b o,Not (b∈D::sA::bJ.map (·.1))->H b=#[o]->H' b=#[o])->(∀b∈bW.map (·.1),b∈bJ.map (·.1)\/H b=none)->Q .non H')->Tq K vs H Q
def uR (K:Frag):Sp:=λJ H Q=>Tq K J H Q
def Rb (K:Frag)(y:Str):TT:=Rm (jJ<|fC Ir (fC (zp K) (vR 4)<|tC<|.int 0)<|fC (wD K) (vR 2)<|tC<|.int 1)<|jJ<|fC Ir (fC (wD K) (vR 2)<|tC<|.int 0)<|tC<|.str y
def tY {d:bf}(O:B[4]? =#[#[.ref a]])(G:B[2]? =#[#[.ref t]])(A:H a=#[.lst<|fQ r])(U:bK K H t d.vals)
  (q:Q (decide (r.1=d.nm) && decide (d.word=y)) H):Rb K y B H Q:=by
 refine zX (K:=K) (λR h=>CK O A (λR h=>h) rfl h) (λR h=>gG G U d.at1 h) ?_;by_cases e:r.1=d.nm
 .rw[az e,lS] at q;rw[ah<|az e];exact zX (K:=K) (λR h=>gG G U d.at0 h) (λR h=>h) q
 .omega
def wQ (K:Frag):TS:=iC (cR (Rb K "shut") (gk<|uZ K "list" (Ra K) (vR 0)<|cg (vR 4) cV) jF)
 (iC (cR (Rb K "widen") (gZ (fC (rM λi j=>.int (i+j)) (fC (zp K) (vR 4) (tC (.int 3))) (fC (wD K) (vR 2) (tC (.int 2)))) (GR (vR 4) (tC (.int 3)) Ef)) jF)
  (cR (Rb K "narrow") (gZ (fC (rM λi j=>.int (i - j)) (fC (zp K) (vR 4) (tC (.int 3))) (fC (wD K) (vR 2) (tC (.int 2)))) (GR (vR 4) (tC (.int 3)) Ef)) jF))
def op2:fC r A D B H Q=A B H λx E=>D B E λy J=>r x y J Q:=rfl
def uT {d:bf}(h:decide (d.word=y)=false):Not ((x && decide (d.word=y))=true):=by rw[h,Bool.and_false];simp
def Hy {r:Row}{d:bf}(h:decide (d.word=y)=true)(e:r.1=d.nm):(decide (r.1=d.nm) && decide (d.word=y))=true:=by rw[h,Bool.and_true];calc az e
section
variable {a t D:Addr}{d:bf}
def LC (O:B[4]? =#[#[.ref a]])(G:B[2]? =#[#[.ref t]])(A:H a=#[.lst<|fQ r])(U:bK K H t d.vals)(h:r.1≠d.nm\/d.word="lay")(q:C.nx B H):wQ K C B H:=by
 have z:∀y:Str,decide (("lay")=y)=false->Not ((decide (r.1=d.nm) && decide (d.word=y))=true):=λy n=>by lk
 refine tY O G A U ?_;rw[ap<|z _<|'k'];refine tY O G A U ?_;rw[ap<|z _<|'k'];refine tY O G A U ?_;rwa [ap<|z _<|'k']
def Xi {nm:Str}(e:r.1=nm):(fQ r).set 3 (.int<|r.2.2.2.1+k)=fQ (gH nm k r):=by delta gH;rw[ah e];rfl
def ZP {nm:Str}{k:Int}(O:C[4]? =#[#[.ref a]])(A:C[2]? =#[#[.ref t]])(G:H a=#[.lst<|fQ r])(U:bK K H t (bf.vals<|.widen nm k))(e:r.1=nm)(q:I.nx C (upd H a<|.lst<|fQ<|gH nm k r)):wQ K I C H:=by
 have J:∀E,H a≠#[.tup E]:=λE z=>by rw[G] at z;cases z
 have B:bK K (upd H a<|.lst<|fQ<|gH nm k r) t (bf.vals<|.widen nm k):=by
  rcases U with(h|⟨o,h⟩)|h
  .exact .inl<|.inl (by rw[au λz=>by subst z;rw[G] at h;cases h];calc h)
  .exact .inl<|.inr ⟨o,by rw[au λz=>by subst z;rw[G] at h;cases h];calc h⟩
  .exact .inr h
 refine tY O A G U ?_;rw[ap<|uT<|show decide ((bf.widen nm k).word="shut")=false from(by decide +kernel:decide (("widen":Str)="shut")=false)];delta jF;refine tY O A G U ?_;rw[ah<|Hy (show decide ((bf.widen nm k).word="widen")=true from(by decide +kernel:decide (("widen":Str)="widen")=true)) e];delta gZ GR;rw[op2];refine CK O G (λR h=>h) rfl ?_;refine gG A U rfl ?_;delta rM;refine aG O (_,3,G,rfl,?_);rw[Xi e];refine tY O A ao B ?_;rwa [ap<|uT<|show decide ((bf.widen nm k).word="narrow")=false from(by decide +kernel:decide (("widen":Str)="narrow")=false)]
def V5 {nm:Str}{k:Int}(O:B[4]? =#[#[.ref a]])(A:B[2]? =#[#[.ref t]])(G:H a=#[.lst<|fQ r])(U:bK K H t (bf.vals<|.narrow nm k))(e:r.1=nm)(q:C.nx B (upd H a<|.lst<|fQ<|gH nm (-k) r)):wQ K C B H:=by refine tY O A G U ?_;rw[ap<|uT<|show decide ((bf.narrow nm k).word="shut")=false from(by decide +kernel:decide (("narrow":Str)="shut")=false)];delta jF;refine tY O A G U ?_;rw[ap<|uT<|show decide ((bf.narrow nm k).word="widen")=false from(by decide +kernel:decide (("narrow":Str)="widen")=false)];refine tY O A G U ?_;rw[ah<|Hy (show decide ((bf.narrow nm k).word="narrow")=true from(by decide +kernel:decide (("narrow":Str)="narrow")=true)) e];delta gZ GR;rw[op2];refine CK O G (λR h=>h) rfl ?_;refine gG A U rfl ?_;delta rM;k_ne;refine aG O (_,3,G,rfl,?_);rwa [Int.sub_eq_add_neg,Xi e]
def abB {nm:Str}{pre post:¬PR}(k:M[0]? =#[#[.ref D]])(O:M[4]? =#[#[.ref a]])(N:M[2]? =#[#[.ref t]])(hD:H D=#[.lst<|(pre++(a,r)::post).map λx=>.ref x.1])(B:∀x∈pre++(a,r)::post,H x.1=#[.lst<|fQ x.2])
  (A:∀x∈pre++(a,r)::post,(bh x.2).canLay0=true)(T:a≠D)(I:∀x∈pre,x.2.1≠nm)(Y:bK K H t (bf.vals<|.shut nm))(e:r.1=nm)(q:j.nx M (upd H D<|.lst<|(pre++post).map λx=>.ref x.1)):wQ K j M H:=by
 have U:=B (a,r) 's';have J:bK K (upd H D<|.lst<|(pre++post).map λx=>.ref x.1) t (bf.vals<|.shut nm):=by
  rcases Y with(h|⟨o,h⟩)|h
  .exact .inl<|.inl (by rw[au λz=>by subst z;rw[hD] at h;cases h];calc h)
  .exact .inl<|.inr ⟨o,by rw[au λz=>by subst z;rw[hD] at h;cases h];calc h⟩
  .exact .inr h
 have C:upd H D (.lst<|(pre++post).map λx=>.ref x.1) a=#[.lst<|fQ r]:=by rwa [au T]
 refine tY O N U Y ?_;rw[ah<|Hy (show decide ((bf.shut nm).word="shut")=true from(by decide +kernel:decide (("shut":Str)="shut")=true)) e];delta gk uZ cg cV;refine aG k ⟨.inl (rfl,_,aQ.of hD),aG O (D,.ref a,_,_,bh r,!pre,rfl,rfl,hD,Dd B A,Xh U<|A (a,r)<|by simp,?_,?_,?_,?_)⟩
 .simp[bh,PyData.depth,depthAll]
 .simp
 .intro m l p E;rw[ai] at E;let(x,L,rfl):=bq.mp E;by_cases G:m=!pre
  .subst G;rw[cm<|av _,ku] at L;have Q:(a,r)=x:=‹L›
   subst Q;rw[az rfl,ft _<|A (a,r)<|by simp]
  .rw[bv ∅] at L;rw[a9 G,Ke];rw[e];exact I x<|ag L
 .have g:((pre++(a,r)::post).map λx=>V.ref x.1).eraseIdx (!pre)=(pre++post).map λx=>V.ref x.1:=by rw[bP,aS,List.eraseIdx_append_of_length_le (by rw[ac];calc av _),ac,ku,bP];rfl
  rw[g];refine tY O N C J ?_;rw[ap<|uT<|show decide ((bf.shut nm).word="widen")=false from(by decide +kernel:decide (("shut":Str)="widen")=false)];refine tY O N C J ?_;rwa [ap<|uT<|show decide ((bf.shut nm).word="narrow")=false from(by decide +kernel:decide (("shut":Str)="narrow")=false)]
end
end
section
variable {K:Frag}
def abC:bf->¬Row->¬Row
 |.lay _ _ _ _ _,A=>A
 |.shut nm,A=>A.filter λr=>not (decide (r.1=nm))
 |.widen nm k,A=>A.map<|gH nm k
 |.narrow nm k,A=>A.map<|gH nm<|-k
def bK.off (h:bK K H t xs)(k:∀o,xZ o=true->H t=#[o]->E t=#[o]):bK K E t xs:=by
 rcases h with(h|⟨o,h⟩)|h
 .exact .inl<|.inl<|k _ rfl h
 .exact .inl<|.inr ⟨o,k _ rfl h⟩
 .calc .inr h
def ag8 {nm:Str}(h:(bh r).canLay0=true):(bh<|gH nm k r).canLay0=true:=by
 delta gH;split
 .assumption
 .calc h
variable {d:bf}
def Tr {nm:Str}(l:∀{Q:Ends}{U:L2.St} {H:Hp} {a:Addr} {r:Row},U[4]? =#[#[.ref a]]->U[2]? =#[#[.ref t]]->H a=#[.lst<|fQ r]->bK K H t d.vals->r.1=nm->Q.nx U (upd H a<|.lst<|fQ<|gH nm k r)->wQ K Q U H)(c:d.nm=nm)
  (T:Held H D A)(M:(D::A.map (·.1)).Nodup)(u:H n=#[.lst<|A.map λx=>.ref x.1])(N:Not (n∈D::A.map (·.1)))(ht:bK K H t d.vals)
  (q:∀E bW x4,Held E D bW->bW.map (·.2)=(A.map (·.2)).map (gH nm k)->(bW.map (·.1)).Sublist (A.map (·.1))->(∀b o,Not (b∈D::A.map (·.1))->H b=#[o]->E b=#[o])->Q.nx [#[.ref D],#[.ref w],#[.ref t],x3,x4] E):
  rE (FZ K n) (cC 4) (wQ K) Q [#[.ref D],#[.ref w],#[.ref t],x3,x4] H:=by
 have f:Not (n∈A.map (·.1)):=λz=>N<|ae _ z;refine forL (λi C E=>(∃y,C=[#[.ref D],#[.ref w],#[.ref t],x3,y])/\(∀j (x:PR),A[j]? =#[x]->E x.1=#[.lst<|fQ<|if j<i then gH nm k x.2 else x.2])/\∀b o,Not (b∈A.map (·.1))->H b=#[o]->E b=#[o])
  (⟨_,rfl⟩,λj x e=>by rw[ap<|kB _];calc T.row x<|ag e,λ_ _ _ e=>e) (λi C E _ h=>aQ.of (h.2.2 _ _ f u)) ?_ ?_
 .rintro i v C E s ⟨⟨y,rfl⟩,O,J⟩;rw[ai] at s;let(x,I,rfl):=bq.mp s;have G:=O i x I;rw[ap (gh _)] at G;have m:=bK.off ht λo ho e=>J _ _ (λz=>by
   let(p,hp,e2):=a6.mp z;rw[<-e2,T.row p hp] at e;k_go;cases ho) e
  by_cases e:x.2.1=nm
  .refine l rfl rfl G m e (⟨_,rfl⟩,λj z B=>?_,λb o L eo=>?_)
   .by_cases Y:z.1=x.1
    .have:j=i:=(op (by
      rcases Nat.lt_or_ge j (A.map (·.1)).length with g|g
      .exact g
      .rw[bg (by rw[ac] at g;calc g)] at B;cases B) ((bd.mp M).2)).mp (by rw[ai,ai,B,I];calc b9 some Y)
     subst this;rw[I] at B;cases B;rw[ao,ah<|iq _]
    .rw[au Y,O j z B]
     have:j≠i:=λg=>by subst g;rw[I] at B;cases B;exact Y rfl
     by_cases g:j<i
     .rw[ah g,ah ∅]
     .rw[ap g,ap ∅]
   .rw[au λg=>L (by rw[g];calc cf<|ag I)];exact J b o L eo
  .refine LC rfl rfl G m (.inl<|by rwa [c]) (⟨_,rfl⟩,λj z B=>?_,J);rw[O j z B];by_cases g:j<i
   .rw[ah g,ah ∅]
   .by_cases g2:j=i
    .subst g2;rw[I] at B;cases B;rw[ap g,ah ∅];delta gH;rw[ap e]
    .rw[ap g,ap ∅]
 .rintro C E ⟨⟨y,rfl⟩,O,J⟩;refine q E (A.map λx=>(x.1,gH nm k x.2)) y (?_,λx G=>?_,λx G=>?_) ?_ ?_ λb o l e=>J b o (λz=>l<|ae _ z) e
  .rw[bE];exact J D _ ((bd.mp M).1) T.top
  .let(z,N,rfl):=a6.mp G;let(j,Y,rfl):=i7 N;rw[O j A[j]<|by simp[Y],ah<|by rwa [ac]]
  .let(z,N,rfl):=a6.mp G;exact ag8<|T.can z N
  .rw[bE,bE];rfl
  .rw[bE];calc oy _
def abD (G:Held H D A)(N:(D::A.map (·.1)).Nodup)(u:H lz=#[.lst<|A.map λx=>.ref x.1])(C:Not (lz∈D::A.map (·.1)))(U:bK K H t d.vals)
  (q:∀E bW x4,Held E D bW->bW.map (·.2)=abC d (A.map (·.2))->(bW.map (·.1)).Sublist (A.map (·.1))->(∀b o,Not (b∈D::A.map (·.1))->H b=#[o]->E b=#[o])->Dn.nx [#[.ref D],#[.ref sA],#[.ref t],x3,x4] E):
  rE (FZ K lz) (cC 4) (wQ K) Dn [#[.ref D],#[.ref sA],#[.ref t],x3,x4] H:=by
 have s:=(bd.mp N).1;have f:lz≠D:=λz=>C (by rw[z];calc aa ..);cases d with
 |lay nm a b w l=>
  refine forL (λi B E=>(∃y,B=[#[.ref D],#[.ref sA],#[.ref t],x3,y])/\E=H) ⟨⟨_,rfl⟩,rfl⟩ (λi B E _ h=>by rw[h.2];calc aQ.of u) ?_ ?_
  .rintro i v B E T ⟨⟨y,rfl⟩,rfl⟩;rw[ai] at T;let(x,M,rfl):=bq.mp T;exact LC rfl rfl (G.row x<|ag M) U (.inr rfl) ⟨⟨_,rfl⟩,rfl⟩
  .rintro B E ⟨⟨y,rfl⟩,rfl⟩;calc q _ A y G rfl (oy _) λ_ _ _ e=>e
 |shut nm=>
  refine forL (λi B E=>(∃y,B=[#[.ref D],#[.ref sA],#[.ref t],x3,y])/\E D=#[.lst<|((A.take i).filter (λx=>not (decide (x.2.1=nm)))++A.drop i).map λx=>.ref x.1]/\∀b o,b≠D->H b=#[o]->E b=#[o])
   (⟨_,rfl⟩,G.top,λ_ _ _ e=>e) (λi B E _ h=>aQ.of (h.2.2 _ _ f u)) ?_ ?_
  .rintro i v B E T ⟨⟨y,rfl⟩,Q,O⟩;rw[ai] at T;let(x,M,rfl):=bq.mp T;have r:A.drop i=x::A.drop (i+1):=by rw[ec<|(af.mp M).1,((af.mp M).2)]
   have et:A.take (i+1)=A.take i++[x]:=by rw[lh,M];rfl
   have L:∀z∈A,z.1≠D:=λz C g=>s (by rw[<-g];calc cf C);have I:∀z∈A,E z.1=#[.lst<|fQ z.2]:=λz C=>O _ _ (L z C)<|G.row z C;have m:=bK.off U λo ho e=>O _ _ (λz=>by rw[z,G.top] at e;k_go;cases ho) e;have J:∀z∈(A.take i).filter (λx=>not (decide (x.2.1=nm)))++x::A.drop (i+1),z∈A:=λz C=>by
    rcases aT.mp C with g|g
    .exact df<|(c6.mp g).1
    .rw[<-r] at g;exact gs g
   by_cases e:x.2.1=nm
   .rw[r] at Q;refine abB rfl rfl rfl Q (λz C=>I z<|J z C) (λz C=>G.can z<|J z C) (L x<|ag M) (λz C=>?_) m e (⟨_,rfl⟩,?_,λb o Y eo=>?_)
    .have:=(c6.mp C).2;simpa using this
    .rw[ao,et,ki];simp[e]
    .rw[au Y];exact O b o Y eo
   .refine LC rfl rfl (I x<|ag M) m (.inl e) (⟨_,rfl⟩,?_,O);rw[Q,r,et,ki];simp[e]
  .rintro B E ⟨⟨y,rfl⟩,Q,O⟩;rw[ac,bu<|av _,mn<|av _,eP] at Q;have n:∀z∈A.filter (λx=>not (decide (x.2.1=nm))),z∈A:=λz C=>(c6.mp C).1;refine q E (A.filter λx=>not (decide (x.2.1=nm))) y (Q,λz C=>O _ _ (λg=>s (by rw[<-g];calc cf<|n z C)) (G.row z<|n z C),λz C=>G.can z<|n z C) ?_ ((i8).map _) λb o Y e=>O b o (λz=>Y (by rw[z];calc aa ..)) e;show _=(A.map (·.2)).filter _;rw[kG];rfl
 |widen nm k=>calc Tr (λp j c U e q=>ZP p j c U e q) rfl G N u C U q
 |narrow nm k=>calc Tr (λp j c U e q=>V5 p j c U e q) rfl G N u C U q
end
section
variable {K:Frag}
variable {seen:¬Str}
def abE (C:Held H D A)(M:(D::A.map (·.1)).Nodup)(U:bK K H t d.vals)
  (q:∀E bW B,Held E D bW->bW.map (·.2)=abC d (A.map (·.2))->(bW.map (·.1)).Sublist (A.map (·.1))->(∀b o,Not (b∈D::A.map (·.1))->H b=#[o]->E b=#[o])->G.nx [#[.ref D],#[.ref w],#[.ref t],O,B] E):
  GX (pK K<|qC (BW K)<|cg (vR 0) cV) (cC 4) (wQ K) G [#[.ref D],#[.ref w],#[.ref t],O,B] H:=by
 rw[qI];delta pK qC cg cV;refine aG rfl (_,.inl<|aQ.of C.top,λn u=>(n,rfl,⟨_,aQ.of ao⟩,?_));have sm:=aK (o:=.lst<|A.map λx=>.ref x.1) u;refine abD (C.grow sm) M ao (λz=>?_) (sm.oW U) λE bW y I J j k=>q E bW y I J j λb o L e=>k b o L<|sm _ _ e;rcases aI.mp z with g|g
 .rw[g,C.top] at u;cases u
 .let(p,N,e):=a6.mp g;rw[<-e,C.row p N] at u;cases u
def Tt (K:Frag):TS:=cR (jJ<|fC (rIn K true) (vR 3)<|vR 1) (gk<|uZ K "list" zu (vR 1)<|cg (vR 3) cV) jF
def abF {seen rs:¬Str}(e:rs[i]? =#[r]):mY seen (rs.take<|i+1)=if((mY seen<|rs.take i).any λy=>y==r)=true then mY seen (rs.take i) else mY seen (rs.take i)++[r]:=by rw[lh,e];delta mY;rw[oq];rfl
def abG {a b:Str}(G:bK K H Y [.str a,.str b])(L:H w=#[.lst<|seen.map V.str])(j:(!seen)<1000)
  (q:∀E N,E w=#[.lst<|(mY seen [a,b]).map V.str]->(∀c o,c≠w->H c=#[o]->E c=#[o])->Q.nx [#[.ref D],#[.ref w],#[.ref t],N,I] E):
  rE (Itt K Y) (cC 3) (Tt K) Q [#[.ref D],#[.ref w],#[.ref t],N,I] H:=by
 refine agy (xs:=[a,b].map V.str) (λi B E=>(∃y,B=[#[.ref D],#[.ref w],#[.ref t],y,I])/\E w=#[.lst<|(mY seen<|[a,b].take i).map V.str]/\∀c o,c≠w->H c=#[o]->E c=#[o]) (⟨_,rfl⟩,L,λ_ _ _ e=>e)
  (λi B E _ h=>bK.off G λo U e=>h.2.2 _ _ (λz=>by rw[z,L] at e;k_go;cases U) e) ?_ ?_
 .rintro i v B E M ⟨⟨y,rfl⟩,A,C⟩;rw[ai] at M;let(r,T,rfl):=bq.mp M;show Tt K _ [#[.ref D],#[.ref w],#[.ref t],#[.str r],I] E;delta Tt cR jJ;rw[op2];refine aG rfl (aG rfl (w,_,rfl,.inl<|aQ.of A,rfl,by rw[all_map];simp[rF],?_));rw[adZ];have st:=abF (seen:=seen) T;show(if(not ((mY seen<|[a,b].take i).any λy=>y==r))=true then _ else _);have J:(!(mY seen<|[a,b].take i))<2000:=by
   have:=adY ([a,b].take i) seen
   have:(!([a,b].take i))<=2:=by rw[cS];exact hJ _ _
   lk
  by_cases c:((mY seen<|[a,b].take i).any λy=>y==r)=true
  .rw[ap (by rw[c];simp)];rw[ah c] at st;exact(⟨_,rfl⟩,by rwa [st],C)
  .rw[ah (by rw[gy.mpr c];rfl)];rw[ap c] at st;delta gk uZ cg cV;refine aG rfl ⟨.inl (rfl,_,aQ.of A),aG rfl (_,A,aY (by rw[ac];lk),⟨_,rfl⟩,?_,λc o O e=>?_)⟩
   .rw[ao,st,bP];rfl
   .rw[au O];exact C c o O e
 .rintro B E ⟨⟨y,rfl⟩,A,C⟩;calc q E y A C
theorem ad0 (B:Bl E.mg)(h:GF E K 61):CO E K 61 1 (uR K):=by
 refine Gk ["_law_held","_law_seen","_law_deed_here","_law_room","_law_row"] h (λvs H Q h=>by let(_,_,_,_,_,_,rfl,_):=h;rfl) λH nd vt hr qe=>?_;let(D,sA,t,A,seen,d,rfl,m,hs,hnd,p,hl1,hl2,ad1,hq):=qe;refine(_,ak (bQ (eF gU (aR gP (pU 2) aH) aX)
   (ak (cB (Eh (pU 0) (aj (xU (aj (aR gP (pU 2) aH) (aj (aR gP (pU 2) aH) (aj (aR gP (pU 2) aH) (aj (aR gP (pU 2) aH) (aj (aR gP (pU 2) aH) aq)))))) aq)))
   (aM (jG (Rq (qG aaS (pU 2) (uL aH) (uL aH))) (pG 3)
    (aM (bQ (eF uY (pU 3) (pU 1)) (aM (cB (Eh (pU 1) (aj (pU 3) aq)))) bA))))) bA)
  (aM (jG (iM (bM afv gx B.list eI (aj (pU 0) aq))) (pG 4)
   (ak (bQ (PW.pt (Bs (eF gU (aR dw (pU 4) aH) (aR gP (pU 2) aH)) (xQ (eF gU (aR gP (pU 2) aH) aX)))) (aM (cB (alg hr.units (pU 0) (aj (pU 4) aq)))) bA)
   (ak (bQ (PW.pt (Bs (eF gU (aR dw (pU 4) aH) (aR gP (pU 2) aH)) (xQ (eF gU (aR gP (pU 2) aH) aX)))) (aM (Bt (bY pN (aR dw (pU 4) aH) (aR gP (pU 2) aH)) (Rp (pU 4) aH RT))) bA)
   (aM (bQ (PW.pt (Bs (eF gU (aR dw (pU 4) aH) (aR gP (pU 2) aH)) (xQ (eF gU (aR gP (pU 2) aH) aX)))) (aM (Bt (bY BP (aR dw (pU 4) aH) (aR gP (pU 2) aH)) (Rp (pU 4) aH RT))) bA)))))),?_)
 let(i,an9):=bd.mp hnd;let(u,N):=bd.mp an9;have I:D≠sA:=λz=>i (by rw[z];calc aa ..);have Y:Not (D∈A.map (·.1)):=λz=>i<|ae _ z;dsimp only[iD];delta iC cR;refine zX (K:=K) (λR h=>gG rfl p d.at0 h) (λR h=>h) ?_;cases d with
 |lay nm a b w l=>
  rw[ah<|show decide ((bf.lay nm a b w l).word="lay")=true from(by decide +kernel:decide (("lay":Str)="lay")=true)];delta gk uZ cg YQ;refine aG rfl ⟨.inl (rfl,_,aQ.of m.top),gG rfl p rfl<|gG rfl p rfl<|gG rfl p rfl<|gG rfl p rfl<|gG rfl p rfl ⟨by show 5<=sizeLine;decide,λG M=>?_⟩⟩;have s1:=aK (o:=.lst<|fQ (nm,a,b,w,l)) M;have k:=aZ m.top M;refine(_,s1 _ _ m.top,aY (by rw[ac];lk),?_);have hrp:∀x∈A,x.1≠G:=λx L=>aZ (m.row x L) M;have hxD:∀x∈A,x.1≠D:=λx L g=>Y (by rw[<-g];calc cf L);have C:Held (upd (upd H G<|.lst<|fQ (nm,a,b,w,l)) D<|.lst<|(A.map λx=>.ref x.1)++[.ref G]) D (A++[(G,(nm,a,b,w,l))]):=by
   refine(by rw[ao,bP];rfl,λx L=>?_,λx L=>?_)
   .rcases aT.mp L with g|g
    .rw[au<|hxD x g];exact s1 _ _<|m.row x g
    .rw[a7.mp g,au k.symm,ao]
   .rcases aT.mp L with g|g
    .exact m.can x g
    .rw[a7.mp g];exact ad1 _ _ _ _ _ rfl
  have v:upd (upd H G<|.lst<|fQ (nm,a,b,w,l)) D (.lst<|(A.map λx=>.ref x.1)++[.ref G]) sA=#[.lst<|seen.map V.str]:=by rw[au I.symm];exact s1 _ _ hs
  have q:∀c o,c≠D->H c=#[o]->upd (upd H G<|.lst<|fQ (nm,a,b,w,l)) D (.lst<|(A.map λx=>.ref x.1)++[.ref G]) c=#[o]:=λc o O e=>by rw[au O];exact s1 _ _ e
  have f:=bK.off p λo ho e=>q _ _ (λz=>by rw[z,m.top] at e;k_go;cases ho) e;have eM:(A++[Prod.mk G<|Prod.mk nm<|Prod.mk a<|Prod.mk b<|Prod.mk w l]).map (·.1)=A.map (·.1)++[G]:=by rw[bP];rfl
  have J:(D::sA::(A++[Prod.mk G<|Prod.mk nm<|Prod.mk a<|Prod.mk b<|Prod.mk w l]).map (·.1)).Nodup:=by
   rw[eM];have aoa:Not (G∈A.map (·.1)):=λz=>by let(x,L,e):=a6.mp z;exact hrp x L e
   refine bd.mpr ⟨λz=>?_,bd.mpr ⟨λz=>?_,d5.mpr (N,by simp,λx L y hy g=>?_)⟩⟩
   .rcases aI.mp z with g|g
    .exact I g
    .rcases aT.mp g with g|g
     .exact Y g
     .exact k<|a7.mp g
   .rcases aT.mp z with g|g
    .exact u g
    .exact(aZ hs M)<|a7.mp g
   .rw[a7.mp hy] at g;exact aoa<|g▸L
  rw[show([V.str nm,V.str a,V.str b,V.int w,V.int l])=fQ (nm,a,b,w,l) from rfl];generalize upd (upd H G<|.lst<|fQ (nm,a,b,w,l)) D (.lst<|(A.map λx=>.ref x.1)++[.ref G])=H1 at C v q f ⊢;k_ne;rw[qI];delta acW tSl YW;refine aG rfl (2,rfl,4,rfl,t,_,rfl,f,by show Not (HT.cj 6 0 #[2]=0/\HT.cj 6 6 #[4]=6);decide,λtt htt=>(tt,rfl,⟨_,bK.of ao⟩,?_));have n:=aK (o:=.tup [.str a,.str b]) htt;refine abG (bK.of ao) (n _ _ v) ∅ λH2 x3 g1 g2=>?_;have r:Held H2 D (A++[(G,(nm,a,b,w,l))]):=by refine(g2 _ _ I<|n _ _ C.top,λx L=>g2 _ _ (λz=>?_)<|n _ _<|C.row x L,C.can);have:=(bd.mp (bd.mp J).2).1;exact this (by rw[<-z];calc cf L)
  have T:=bd.mpr ⟨λz=>(bd.mp J).1<|ae _ z,(bd.mp (bd.mp J).2).2⟩;refine abE r T (bK.off (n.oW f) λo ho e=>g2 _ _ (λz=>by rw[z,n _ _ v] at e;k_go;cases ho) e) λH3 U x4 a1 a2 j s=>?_;have hsN:Not (sA∈D::(A++[Prod.mk G<|Prod.mk nm<|Prod.mk a<|Prod.mk b<|Prod.mk w l]).map (·.1)):=λz=>by
   rcases aI.mp z with g|g
   .exact I g.symm
   .exact(bd.mp (bd.mp J).2).1 g
  refine hq H3 U a1 ?_ (s _ _ hsN g1) ?_ (λc o O e=>?_) λc O=>?_
  .rw[a2,bP];rfl
  .refine bd.mpr ⟨λz=>?_,bd.mpr ⟨λz=>?_,j.nodup (bd.mp T).2⟩⟩
   .rcases aI.mp z with g|g
    .exact I g
    .exact(bd.mp T).1<|j.subset g
   .exact hsN<|ae _<|j.subset z
  .have hcD:c≠D:=λz=>O (by rw[z];calc aa ..);have hcs:c≠sA:=λz=>O (by rw[z];calc ae _<|aa ..);refine s _ _ (λz=>?_)<|g2 _ _ hcs<|n _ _<|q _ _ hcD e;rcases aI.mp z with g|g
   .exact hcD g
   .rw[eM] at g;rcases aT.mp g with g|g
    .exact O<|ae _<|ae _ g
    .rw[a7.mp g,M] at e;k_go
  .have:=j.subset O;rw[eM] at this;rcases aT.mp this with g|g
   .exact .inl g
   .rw[a7.mp g];calc .inr M
 |_=>
  rw[ap<|by first|calc 'k'|calc 'k'|calc(by decide +kernel:Not (decide (("narrow":Str)="lay")=true))];refine abE m (bd.mpr ⟨Y,N⟩) p λH3 U x4 a1 a2 j s=>?_;refine hq H3 U a1 a2 (s _ _ (λz=>?_) hs) ?_ (λc o O e=>?_) λc O=>.inl<|j.subset O
  .rcases aI.mp z with g|g
   .exact I g.symm
   .exact u g
  .refine bd.mpr ⟨λz=>?_,bd.mpr ⟨λz=>u<|j.subset z,j.nodup N⟩⟩;rcases aI.mp z with g|g
   .exact I g
   .exact Y<|j.subset g
  .refine s _ _ (λz=>?_) e;rcases aI.mp z with g|g
   .exact O (by rw[g];calc aa ..)
   .calc O<|ae _<|ae _ g
end
end cA
namespace VM
open PyProof.Rows L2
section
variable {K:Frag}
def Tv (K:Frag)(H:Hp)(S:GS)(B:St):Prop:=(!S)=!B/\∀(i:Nat) t d,S[i]? =#[#[(t,d)]]->t=.fr/\∃v,B[i]? =#[#[v]]/\Has K H d v
def fX (n:Nat):¬(Nat×())->GS
 |[]=>replicate n none
 |x::r=>(fX n r).set x.1<|#[(.fr,x.2)]
inductive qg (K:Frag)(H:Hp)(σ:St):¬(Nat×())->Prop
 |n:qg K H σ []
 |c (e:σ[i]? =#[#[v]]) (h:Has K H d v) (r:qg K H σ L):qg K H σ ((i,d)::L)
theorem qg.at (h:qg K H B L)(C:(!B)=m):Tv K H (fX m L) B:=by
 induction h with
 |n=>calc⟨ik.trans C.symm,λi t d e=>by cases List.eq_of_mem_replicate (ag e)⟩
 |c e h r A=>
  refine⟨b6.trans A.1,λj t d g=>?_⟩;rw[fX,List.getElem?_set] at g;split at g
  .rename_i q;split at g
   .cases g;exact⟨rfl,v,q▸e,h⟩
   .cases g
  .calc A.2 j t d g
def VI.at (h:Tv K H S C):VI K (λ_=>none) H H S H C H where
 len:=h.1
 same:=Same.refl _
 gf:=Same.refl _
 new:=λ_ _ e=>.inl e
 sub:=Same.refl _
 slot:=λi t d e=>by let(rfl,v,B,G):=h.2 i t d e;exact(v,B,G)
 inj:=λi j t M d D v B _ A _ _ _=>by let(rfl,_):=h.2 i t d B;cases A
def zZ (h:Tv K H S B)(e:f S=#[d])(q:∀v E,Same H E->Has K E d v->Q v E):tV K RS f B H Q:=
 (_,_,_,S,H,VI.at h,d,e,λv _ E g M=>q v E g.hh<|Has.same g.fh M)
def Kf (h:Tv K H S D)(e:f S=#[.list ds])(q:∀a xs E,Same H E->H a=none->E a=#[.lst xs]->aJ K E ds xs->Q (.ref a) E):tV K RN f D H Q:=
 (_,_,_,S,H,VI.at h,_,e,λv G E g C=>by
  let(B,a,xs,A,rfl,h1,_,J,M):=C;cases A;calc q a xs E g.hh h1 J (aJ.same g.fh M))
def Tw (h:Tv K H S B)(e:f S=#[b])(q:∀E,Same H E->Q b E):iT K f B H Q:=
 (_,_,_,S,H,VI.at h,b,e,λ_ E g=>q E g.hh)
end
end VM
local macro_rules | `(tactic| walk_at "e1")=>do
 let a<-lsQ "yp qP ig QL QM Cp uN Jm Jo Cz QC Jp El Jq Jr CG QD Js eU Em Eo Ep Jt Ju Jv Jw Jx Jy zK Hs Lq QF Er Zx QG a0 Jz QH QJ QK Zy g0 zL Es wH zM wI zN Et ux wJ zO Qz Ez JH JB Eu JC QS QT kj uy JD QV Ew JF cJ pR gq gEx gN gT JG uO QW yr Ey Zz Sg gO d8 qN qO oM cI pQ Zo Zq gRv aiS abm W6 jC EY JN Q6 JQ JR vN vF vC vB u9 R4 Hj sU mU aW oN oI xG Lg Ze oX fP dD cL iG Ho rG Qp Qq tU zQ Fb uz wK nG Hq cP qM uw Qs zF Ci nH iV vo c7 JK JL QX QZ Q0 Q5 JM Qv Qw Int.reduceToNat reducePow Qx Jj jk length_cons length_nil map_cons map_nil replicate cons_append nil_append append_nil getElem?_cons_zero getElem?_cons_succ set_cons_zero set_cons_succ reduceAdd reduceSub Nat.reduceLeDiff Nat.reduceEqDiff Bool.and_true Bool.true_and Bool.not_true Bool.not_false false_eq_true if_true if_false"
 `(tactic| try simp only[$a,*,↓reduceIte])
namespace cA
open PyProof.Rows L2 VM
def dR (A:¬Row):():=.list<|A.map bh
def cX (xs:¬Str):():=.list<|xs.map .str
def Aa (h:d.depth<=60)(c:d.canLay0=true):jr d d=#[.bool false]:=by delta jr;rw[ah h,ft _ c];rfl
theorem wR:∀(ds:¬()) (n:Nat),(∀d∈ds,d.depth<=n)->depthAll ds<=n+1
 |[],_,_=>by simp[depthAll]
 |d::r,n,h=>by have h1:=h d<|aa ..;have h2:=wR r n λx A=>h x<|ae _ A;erw[depthAll];lk
theorem Xj:∀(ds:¬()),(∀d∈ds,d.canLay0=true)->canLayAll0 ds=true
 |[],_=>rfl
 |d::r,h=>by erw[canLayAll0,bc];calc⟨h d<|aa ..,Xj r λx A=>h x<|ae _ A⟩
def Kg (xs:¬Str):(cX xs).depth<=60:=by have:=wR (xs.map PyData.str) 5 (λd G=>by let(x,_,rfl):=a6.mp G;simp[PyData.depth]);erw[cX,PyData.depth];lk
def ad2 (h:∀x∈xs,(PyData.str x).canLay0=true):(cX xs).canLay0=true:=by erw[cX,canLay0];calc Xj _ λd G=>by let(x,A,rfl):=a6.mp G;calc h x A
section
variable {K:Frag}
def jj {xs:¬Str}(h:∀w∈xs,(PyData.str w).canLay0=true):aJ K H (xs.map PyData.str) (xs.map V.str):=aJ.map λw C=>⟨rfl,h w C⟩
def ad3 (h:H a=#[.lst<|xs.map V.str])(c:∀x∈xs,(PyData.str x).canLay0=true):Has K H (cX xs) (.ref a):=(a,_,rfl,aQ.of h,jj c)
def Held.has (h:Held H D A):Has K H (dR<|A.map (·.2)) (.ref D):=(D,_,rfl,aQ.of h.top,by rw[bE];calc Dd h.row h.can)
end
end cA
set_option hygiene false in
local macro_rules | `(tactic| walk_at "e2")=>do
 let a<-lsQ "yp qP ig QL QM Cp uN Jm Jo Cz QC Jp El Jq Jr CG QD Js eU Em Eo Ep Jt Ju Jv Jw Jx Jy zK Hs Lq QF Er Zx QG a0 Jz QH QJ QK Zy g0 zL Es wH zM wI zN Et ux wJ zO Qz Ez JH JB Eu JC QS QT kj uy JD QV Ew JF cJ pR gq gEx gN gT JG uO QW yr Ey Zz Sg gO d8 qN qO oM cI pQ Zo Zq gRv aiS abm W6 jC EY JN Q6 JQ JR vN vF vC vB u9 R4 Hj sU mU aW oN oI xG Lg Ze oX fP dD cL iG Ho rG Qp Qq tU zQ Fb uz wK nG Hq cP qM uw Qs zF Ci nH iV vo c7 JK JL QX QZ Q0 Q5 JM Qv Qw Int.reduceToNat reducePow Qx Jj jk length_cons length_nil map_cons map_nil replicate cons_append nil_append append_nil getElem?_cons_zero getElem?_cons_succ set_cons_zero set_cons_succ reduceAdd reduceSub Nat.reduceLeDiff Nat.reduceEqDiff Bool.and_true Bool.true_and Bool.not_true Bool.not_false false_eq_true if_true if_false fV lO pX Ji decide_eq_true decide_eq_false if_pos if_neg length_map"
 `(tactic| try simp (disch:=first | with_unfolding_all exact rfl | omega | assumption | (refine aY ?_; omega)) only[$a,*,↓reduceIte])
namespace cA
open PyProof.Rows L2 VM
def dg (ns:¬Int)(k:Int):Int:=ns.getD k.toNat 0
def ad4 {ns:¬Int}{k:Int}(L:0<=k)(h1:k<!ns):cN (ns.map PyData.int) k=#[.int<|dg ns k]:=by
 obtain⟨j,rfl⟩:∃j:Nat,k=j:=⟨k.toNat,by lk⟩;have Y:j<!ns:=by lk
 refine gM ?_;simp[Y,dg]
def LK (n:Int):Nat->Int
 |0=>n
 |k+1=>LK n k/1e12
def ajr (x k:Int):Int:=((x*x+16807*x+k) % 2147483629)*((x*x+16807*x+k) % 2147483629) % 2147483587
def d9 (c k:Int):Int:=if c % 2=0 then LK ((if c<0 then -c else c)/2) k.toNat else ajr ((c+7919*k) % 2147483629) k
def fK (a:Int)(h:0<b):0<=a % b/\a % b<b:=⟨Int.emod_nonneg a ∅,Int.emod_lt_of_pos a h⟩
def Tz {ns:¬Int}{k:Int}(L:0<=k):cW [.list<|ns.map .int,.int k]=#[(false,.int<|dg ns k)]:=by
 delta cW yI;kt_k;by_cases h:k<!ns
 .kt_k;rw[ad4 L h];rfl
 .kt_k;have e:dg ns k=0:=by delta dg;grind
  rw[e]
def wU (L:0<=k)(h1:k<=100):bN [.int c,.int k]=#[(false,.int<|d9 c k)]:=by
 delta bN CT d9;kt_k;by_cases h:c % 2=0
 .kt_k;have B:=Sq (t:=gN 3) (g:=bZ (v2 kI (vN 2)<|v2 zE (vC<|.int 10)<|vC<|.int 12)<|gN 2)
   (λi=>[#[(Tg.fr,.int c)],#[(Tg.fr,.int k)],#[(Tg.fr,.int<|LK ((if c<0 then -c else c)/2) i)],if i=0 then none else #[(Tg.fr,.int<|(i - 1))]]) (jL 0 k.toNat) 0 ?_
  .simp only[LK,↓reduceIte,ii,oO] at B;rw[B];rfl
  .intro j d Y;let(Y,rfl):=zJ Y;refine([#[(Tg.fr,.int c)],#[(Tg.fr,.int k)],#[(Tg.fr,.int<|LK ((if c<0 then -c else c)/2) j)],#[(Tg.fr,.int<|j)]],?_,?_)
   .cases j<;>(z_go;simp[W8])
   .kt_k;simp[LK]
 .erw[h,db];z_go;rw[pX ⋯ ⋯ ∅ ∅];z_go;erw[fV<|show(0:Int)<2147483629 by decide];z_go;have b:=fK (c+7919*k) (show(0:Int)<2147483629 by decide);generalize (c+7919*k) % 2147483629=x at*
  rw[pX ∅ ∅ ∅ ∅];z_go;rw[pX ∅ ∅ ∅ ∅];z_go;erw[fV<|show(0:Int)<2147483629 by decide];z_go;have b:=fK (x*x+16807*x+k) (show(0:Int)<2147483629 by decide);delta ajr;generalize (x*x+16807*x+k) % 2147483629=y at*
  rw[pX ∅ ∅ ∅ ∅];rfl
def bR:Int:=1e58
def af3 (c:Int):∃w,kZ [.int c]=#[(false,.int w)]/\1<=w/\w<=bR:=by
 delta kZ CX;z_go;erw[wU (k:=1) ⋯<|by decide];kt_k;by_cases h:d9 c 1 % 4=0
 .kt_k;exact(_,rfl,by delta bR;have:=fK c (show(0:Int)<1e58 by decide);lk)
 .kt_k;calc(_,rfl,by delta bR;have:=fK (d9 c 1/4) (show(0:Int)<6 by decide);lk)
def alk (c:Int):∃w,lQ [.int c]=#[(false,.int w)]/\1<=w/\w<=bR:=by
 delta lQ Bo;z_go;erw[wU (k:=2) ⋯<|by decide];kt_k;by_cases h:d9 c 2 % 6=0
 .kt_k;exact(_,rfl,by delta bR;have:=fK c (show(0:Int)<1e58 by decide);lk)
 .kt_k;calc(_,rfl,by delta bR;have:=fK (d9 c 2/6) (show(0:Int)<5 by decide);lk)
def abc:Str:="abcdefghijklmnopqrstuvwxyz"
def Xk:⇑abc=(List.range 26).map (· +97):='k'
def LQ:(!abc)=26:='k'
def AZ (x:Str):Prop:=∀c∈⇑x,97<=c/\c<=122
def ajs:AZ abc:=λc O=>by rw[Xk] at O;let(i,N,rfl):=a6.mp O;have:=gz.mp N;lk
def yM (z:Str)(lo hi:↑Int):⇑(iH z lo hi)=vD ⇑z lo hi:=by delta iH;simp
def AZ.cut (h:AZ z)(lo hi:↑Int):AZ (iH z lo hi):=λc O=>by rw[yM] at O;calc h c<|gs<|df O
def fY (z:Str):(!z)=!⇑z:=by simp[Str.length]
def Ab (z:Str)(lo hi:↑Int):(!(iH z lo hi))<=!z:=by rw[fY,yM,fY z];delta vD;rw[cS,eK];lk
def Ma (i:Int)(h:0<=i):HT.cj n d #[i]=min i.toNat n:=by show(if i<0 then _ else _)=_;rw[ap ∅]
def TF (z:Str):(!(iH z none<|#[11]))<=11:=by rw[fY,yM];delta vD;rw[Ma 11<|by decide,cS];lk
def ag9 (z:Str)(i:Nat)(h:i<=!z):⇑(iH z none<|#[(i:Int)])=(⇑z).take i:=by rw[yM];delta vD;rw[Ma (i) ∅,dq,←fY];show((⇑z).drop 0).take (min i (!z) - 0)=_;grind
def aha (z:Str)(i:Nat)(h:i<=!z):⇑(iH z #[(i:Int)] none)=(⇑z).drop i:=by rw[yM];delta vD;rw[Ma (i) ∅,dq,←fY,hU h];rw[bu];rw[eK,←fY];calc av _
def wordOf (D:Str)(i j:Nat):Str:=(iH D none #[(i:Int)]++⟨[j+97].toArray⟩)++iH D #[(i:Int)] none
def Ac (j:Nat)(h:i<=!D):⇑(wordOf D i j)=(⇑D).take i++(j+97)::(⇑D).drop i:=by delta wordOf;rw[Fd,Fd,ag9 D i h,aha D i h];simp
def ad5 (h:i<=!D)(e:wordOf D i j=wordOf D i k):j=k:=by have:=b9 (λz:Str=>⇑z) e;erw[Ac _ h] at this;simp_all
theorem AZ.ascii (h:AZ z):ascii z=true:=by delta L2.ascii;rw[oP];intro c O;have:=h c ‹O›;lk
def AZ.can (h:AZ z):(PyData.str z).canLay0=true:=by rw[yt];intro c O;have:=h c O;lk
def ajt (h:97<=c/\c<=122):(oA gR gR (vC<|.str "a") (vN 0)<|vC<|.str "z") [#[(.fr,.str ⟨[c].toArray⟩)]]=#[.bool true]:=by
 have B:gR (.str "a") (.str ⟨[c].toArray⟩)=#[.bool true]:=by
  show #[PyData.bool<|not (decide ([c]<⇑("a":Str)))]=_
  have:(⇑("a":Str))=[97]:='k'
  rw[this,a9 (λz=>by rcases f6.mp z with g|⟨_,g⟩;lk;calc absurd g<|by simp)];rfl
 have G:gR (.str ⟨[c].toArray⟩) (.str "z")=#[.bool true]:=by
  show #[PyData.bool<|not (decide (⇑("z":Str)<[c]))]=_
  have:(⇑("z":Str))=[122]:='k'
  rw[this,a9 (λz=>by rcases f6.mp z with g|⟨_,g⟩;lk;calc absurd g<|by simp)];rfl
 z_go;rw[B];assumption
def Xl (h:AZ z)(h1:1<=!z)(h2:(!z)<=12):fW z:=by
 refine⟨?_,h.can⟩;have D:pY [.str z]=#[.int<|!z]:=by show(if (!z)<=1000 then _ else _)=_;rw[ah ∅]
 have G:(jM (jl<|vN 0) [none] (gN 0) c7<|oA gR gR (vC<|.str "a") (vN 0)<|vC<|.str "z") [#[(.fr,.str z)]]=#[.list<|(⇑z).map λ_=>.bool true]:=by
  rw[yr];delta jl;have E:vN 0 [#[(.fr,.str z)]]=#[.str z]:=by z_go
  rw[E];erw[h.ascii,dA];delta Fe;rw[mJ rfl (by rw[ac,←fY];calc aY ∅)];rw[g8 (f:=λ_=>.bool true)]
  .z_go;rw[bE];rfl
  .intro d H;let(c,O,rfl):=a6.mp H;exact([#[(.fr,.str ⟨[c].toArray⟩)]],by z_go,rfl,ajt<|h c O)
 have J:vH [.list<|(⇑z).map λ_=>.bool true]=#[.bool true]:=by show(yu _).map _=_;rw[show((⇑z).map λ_=>PyData.bool true)=((⇑z).map λ_=>true).map PyData.bool by rw[bE];rfl,Gi];simp
 have B:(eU<|vB<|cL vH<|aC (jM (jl<|vN 0) [none] (gN 0) c7<|oA gR gR (vC<|.str "a") (vN 0)<|vC<|.str "z") a0) [#[(.fr,.str z)]]=#[false]:=by delta eU vB cL;rw[Er,G];show(match(match vH [.list<|(⇑z).map λ_=>.bool true] with|some (.bool b)=>#[b]|_=>none) with|some b=>some (not b)|none=>none)=_;rw[J];rfl
 have A:(eU<|vB<|oA Bf Bf (vC<|.int 1) (cL pY<|aC (vN 0) a0)<|vC<|.int 12) [#[(.fr,.str z)]]=#[false]:=by z_go;rw[D];z_go;have I:decide ((1:Int)<=((!z):Int))=true:=az ∅;have L:decide (((!z):Int)<=12)=true:=az ∅;kt_k
 have C:(nZ (eU<|vB<|oA Bf Bf (vC<|.int 1) (cL pY<|aC (vN 0) a0)<|vC<|.int 12)<|eU<|vB<|cL vH<|aC (jM (jl<|vN 0) [none] (gN 0) c7<|oA gR gR (vC<|.str "a") (vN 0)<|vC<|.str "z") a0) [#[(.fr,.str z)]]=#[false]:=by rw[CG,A,Js,B]
 delta jm yH;rw[yp<|by rfl];show bFn (dz _ pQ cI [#[(.fr,.str z)]])=_;rw[Cz,C,Jp];rfl
def baseOf (n:Int):Str:=iH (iH abc (#[n % 26])<|#[n % 26+n/26 % 12]) none<|#[11]
def mZ (n:Int):Nat:=(n/312 % ((!(baseOf n))+1:Int)).toNat
def wordsOf (n:Int)(many:Nat):¬Str:=(List.range many).map λj=>wordOf (baseOf n) (mZ n) j
def wV (n:Int):mZ n<=!(baseOf n):=by delta mZ;have:=fK (n/312) (show(0:Int)<((!(baseOf n))+1:Int) by lk);lk
def Fl (n:Int):AZ (baseOf n):=(ajs.cut _ _).cut _ _
def ahb (n:Int)(Y:j<26):fW (wordOf (baseOf n) (mZ n) j):=by
 have L:=Ac j<|wV n;have A:(!(baseOf n))<=11:=(TF<|iH abc (#[n % 26])<|#[n % 26+n/26 % 12]);have N:(!(wordOf (baseOf n) (mZ n) j))=(!(baseOf n))+1:=by rw[fY,L,aE,a8,cS,eK,←fY,hU<|wV n];have:=wV n;lk
 refine Xl (λc O=>?_) ∅ ∅;rw[L] at O;rcases aT.mp O with g|g
 .exact Fl n c<|df g
 .rcases aI.mp g with g|g
  .omega
  .calc Fl n c<|gs g
def aob (n:Int)(B:many<=8):∀x∈wordsOf n many,fW x:=λx A=>by let(j,Y,rfl):=a6.mp A;have:=gz.mp Y;calc ahb n ∅
def TJ (n:Int)(many:Nat):(wordsOf n many).Nodup:=by calc List.Pairwise.map _ (λa b h=>(λe=>h<|ad5 (wV n) e)) o3
def Df (n:Int)(many:Nat):(!(wordsOf n many))=many:=by delta wordsOf;rw[ac,ka]
def Fo {lo hi:↑Int}(h1:f S=#[.str x])(h2:l S=#[lo])(J:u S=#[hi])(h:(!x)<=1000):vG f l u S=#[.str<|iH x lo hi]:=by delta vG;lk
def TQ (h:(!x)+(!y)<=1000):zR (.str x) (.str y)=#[.str<|x++y]:=ah h
def Xm {j c:Nat}(h:(!x)<=1000)(e:(⇑x)[j]? =#[c]):Lr (.str x) (.int (j:Int))=#[.str ⟨[c].toArray⟩]:=by show(if (!x)<=1000 then _ else _)=_;rw[ah h,gM e];rfl
def TV (h:(!x)<=1000):pY [.str x]=#[.int ((!x):Int)]:=ah h
def ahc (x y:Str):(!(x++y))=(!x)+!y:=by rw[fY,Fd,aE,←fY,←fY]
def Xn (L:0<=k)(h1:k<=100){many:Nat}(I:many<=8):kY [.int c,.int (many:Int),.int k]=#[(true,cX<|wordsOf (d9 c k) many)]:=by
 delta kY CW;z_go;erw[wU L h1];z_go;generalize d9 c k=n;have D:(!(iH abc (#[n % 26])<|#[n % 26+n/26 % 12]))<=26:=by rw[<-LQ];exact Ab _ _ _
 have g:(!(baseOf n))<=11:=TF _;rw[Fo (x:=abc) (lo:=#[n % 26]) (hi:=#[n % 26+n/26 % 12]) (by z_go;rfl) (by z_go;erw[fV (show(0:Int)<26 by decide)])
  (by z_go;erw[fV (show(0:Int)<26 by decide)];z_go;erw[lO (show(0:Int)<26 by decide) ⋯];z_go;erw[fV (show(0:Int)<12 by decide)];z_go) (by rw[LQ];decide)]
 z_go;rw[Fo (x:=iH abc (#[n % 26])<|#[n % 26+n/26 % 12]) (lo:=none) (hi:=#[11]) (by z_go) (by z_go) (by z_go) ∅];z_go;rw[show iH (iH abc (#[n % 26])<|#[n % 26+n/26 % 12]) none #[11]=baseOf n from rfl];kt_k;rw[TV ∅];z_go;rw[fV ∅];z_go;have C:n/312 % ((!(baseOf n))+1)=(mZ n):=by delta mZ;have:=fK (n/312) (show(0:Int)<((!(baseOf n))+1:Int) by lk);lk
 rw[C];kt_k;rw[mJ rfl (by rw[oO];calc aY ∅)];rw[g8 (f:=λd=>match d with|.int j=>.str (wordOf (baseOf n) (mZ n) j.toNat)|d=>d)]
 .z_go;delta cX wordsOf jL;simp
 .intro d E;let(j,Y,rfl):=i7 E;have H:j<many:=by rw[oO,dq] at Y;exact Y
  have p:(jL 0 (many:Int).toNat)[j]=.int (j):=by have:=(zJ (lo:=0) (n:=(many:Int).toNat) (j:=j) (d:=(jL 0 (many:Int).toNat)[j])<|by simp[Y]).2;lk
  rw[p];refine([#[(.fr,.int<|j)],#[(.fr,.str<|baseOf n)],#[(.fr,.str abc)],#[(.fr,.int<|mZ n)]],by z_go;rfl,rfl,?_);have B:(vG (vN 1) oN<|oI<|vN 3) [#[(.fr,.int (j:Int))],#[(.fr,.str<|baseOf n)],#[(.fr,.str abc)],#[(.fr,.int (mZ n:Int))]]=#[.str<|iH (baseOf n) none<|#[(mZ n:Int)]]:=
   Fo (by z_go) (by z_go) (by z_go) ∅
  have G:(vG (vN 1) (oI<|vN 3) oN) [#[(.fr,.int (j:Int))],#[(.fr,.str<|baseOf n)],#[(.fr,.str abc)],#[(.fr,.int (mZ n:Int))]]=#[.str<|iH (baseOf n) #[(mZ n:Int)] none]:=
   Fo (by z_go) (by z_go) (by z_go) ∅
  have J:Lr (.str abc) (.int (j:Int))=#[.str ⟨[j+97].toArray⟩]:=Xm (by rw[LQ];decide) (by rw[Xk,ai,gc ∅];rfl);have M:=Ab (baseOf n) none<|#[mZ n];have N:=Ab (baseOf n) (#[mZ n]) none;have A:(!(⟨[j+97].toArray⟩:Str))=1:=rfl;rw[zK,zK,B,Hs];z_go;rw[J,Lq,TQ (by rw[A];lk),Hs,G,Lq,TQ (by rw[ahc,A];lk)];rfl
def Xo (x:Str)(xs:¬Str):Ht true (.str x) (.list<|xs.map .str)=#[.bool<|not (xs.any λy=>y==x)]:=by show(match sW (xs.map .str) with|some xs=>#[PyData.bool<|if true=true then not (xs.any λy=>y==x) else xs.any λy=>y==x]|none=>none)=_;rw[pZ];rfl
def nM (A:¬Str)(nms:¬Str):↑Str:=A.find? λx=>not (nms.any λy=>y==x)
theorem Kh (nms:¬Str):∀(A:¬Str) (O:↑(Tg×())),(O=none\/∃z,O=#[(.fr,.str z)])->
  (∃w,nM A nms=#[w]/\cT (gN 3) (dz (vB<|v2 (Ht true) (vN 3)<|vN 2) (gq 3) cI) (A.map .str) [#[(.fr,L1)],#[(.fr,L2)],#[(.fr,.list<|nms.map .str)],O]=.ret [#[(.fr,L1)],#[(.fr,L2)],#[(.fr,.list<|nms.map .str)],#[(.fr,.str w)]] false (.str w))
 \/nM A nms=none
 |[],_,_=>.inr rfl
 |w::c,O,C=>by
  by_cases h:(nms.any λy=>y==w)=true
  .have E:=Kh (L1:=L1) (L2:=L2) nms c #[(.fr,.str w)]<|.inr ⟨w,rfl⟩;have e:nM (w::c) nms=nM c nms:=by delta nM;rw[iO,h];rfl
   rw[e];rcases E with⟨v,D,J⟩|g
   .refine .inl (v,D,?_);rw[aS,cT];rcases C with rfl|⟨z,rfl⟩<;>(z_go;rw[Xo,h];z_go;calc J)
   .exact .inr g
  .have B:(nms.any λy=>y==w)=false:=gy.mpr h;refine .inl (w,?_,?_)
   .delta nM;rw[iO,B];rfl
   .rw[aS,cT];rcases C with rfl|⟨z,rfl⟩<;>(z_go;rw[Xo,B];z_go)
def ahd (N:(!A)<1000)(h:nM B (A.map (·.1))=#[w]):mW [cX B,dR A]=#[(false,.str w)]:=by
 have D:(jM (cP<|vF 1) [none] (gN 0) c7<|v2 aW (vN 0)<|vC<|.int 0) [#[(.fr,cX B)],#[(.fr,dR A)],none,none]=#[.list<|(A.map (·.1)).map .str]:=by
  unfold dR;z_go;rw[mJ rfl (by rw[ac];calc aY ∅)];rw[g8 (f:=λd=>match d with|.list (x::_)=>x|d=>d)]
  .z_go;rw[bE,bE];rfl
  .intro d G;let(r,_,rfl):=a6.mp G;exact(_,rfl,rfl,rfl)
 rcases Kh (A.map (·.1)) B none (.inl rfl) with⟨v,C,J⟩|g
 .rw[h] at C;cases C;unfold mW CZ;rw[yp<|by rfl];show bFn (aN _ _ [#[(.fr,cX B)],#[(.fr,dR A)],none,none])=_;rw[uN,uO,D];unfold cX at J ⊢;z_go;rw[J];rfl
 .omega
def bf.dat:bf->()
 |.lay nm a b w l=>.tuple [.str "lay",.str nm,.str a,.str b,.int w,.int l]
 |.shut nm=>.tuple [.str "shut",.str nm]
 |.widen nm k=>.tuple [.str "widen",.str nm,.int k]
 |.narrow nm k=>.tuple [.str "narrow",.str nm,.int k]
structure Mf (rooms names:¬Str)(bw:¬Row):Prop where
 r2:2<=!rooms
 r5:(!rooms)<=5
 rn:rooms.Nodup
 n8:(!names)=8
 nn:(bw.map (·.1)).Nodup
 sub:∀r∈bw,r.1∈names
 wd:∀r∈bw,1<=r.2.2.2.1
def lA (C:Int)(B names:¬Str)(A:¬Row):bf->Prop
 |.lay nm a b w l=>nm∈names/\Not (nm∈A.map (·.1))/\a∈B/\b∈B/\a≠b/\1<=w/\1<=l/\w<=C/\l<=C
 |.shut nm=>nm∈A.map (·.1)
 |.widen nm k=>nm∈A.map (·.1)/\1<=k/\k<=C
 |.narrow nm k=>∃r∈A,r.1=nm/\1<=k/\k<r.2.2.2.1
def Hz {xs ys:¬Str}(h:xs.Nodup)(s:∀x∈xs,x∈ys):(!xs)<=!ys:=by
 induction xs generalizing ys with
 |nil=>simp
 |cons x xs A=>let(h1,h2):=bd.mp h;have B:=s x<|aa ..;have:=A h2 λy n=>(List.mem_erase_of_ne (λz:y=x=>h1<|by rwa [<-z])).mpr (s y<|ae _ n);grind
def Mf.len (h:Mf B names A):(!A)<=8:=by
 have:=Hz h.nn λx C=>by let(r,hr,rfl):=a6.mp C;exact h.sub r hr
 rw[ac,h.n8] at this;calc this
def ZQ {names nms:¬Str}(C:names.Nodup)(h:(!nms)<!names):∃w,nM names nms=#[w]/\w∈names/\Not (w∈nms):=by
 cases e:nM names nms with
 |some w=>
  refine(w,rfl,List.mem_of_find?_eq_some e,λA=>?_);have:=List.find?_some e;have h2:(nms.any λy=>y==w)=true:=List.any_eq_true.mpr (w,A,by simp);rw[h2] at this;cases this
 |none=>
  have:=List.find?_eq_none.mp e;have:=Hz C λx B=>by have:=this x B;simpa using this
  lk
def TX {xs:¬Str}(h:i<!xs):aW (.list<|xs.map .str) (.int (i:Int))=#[.str xs[i]]:=by calc gM<|by simp[h]
def ad6 {xs:¬Row}(h:i<!xs):aW (.list<|xs.map bh) (.int (i:Int))=#[bh xs[i]]:=by calc gM<|by simp[h]
def eq_nil (A:¬Row):jc (.list<|A.map bh) (.list [])=#[.bool<|decide<|A=[]]:=by
 delta jc;have G:(PyData.list<|A.map bh).depth<=60:=by have:=wR (A.map bh) 10 (λd G=>by let(x,_,rfl):=a6.mp G;simp[bh,PyData.depth,depthAll]);erw[PyData.depth];lk
 rw[ah G];cases A with
 |nil=>rfl
 |cons r v=>rfl
def slot (c n:Int)(A:¬Row)(B names:¬Str):GS:=[#[(.fr,.int c)],#[(.fr,.list<|A.map bh)],#[(.fr,.list<|B.map .str)],#[(.fr,.list<|names.map .str)],#[(.fr,.int n)],#[(.fr,.int<|n % 9)],none,none,none]
def layB {c n:Int}(h:Mf B names A)(J:names.Nodup)(l:(!A)<!names):∃d Y,ZL (slot c n A B names)=.ret Y false d.dat/\lA bR B names A d:=by
 have v:=h.r2;have u:=h.n8;let(w,M,N,O):=ZQ (nms:=A.map (·.1)) J (by rwa [ac]);have U:=ahd ∅ M;unfold dR cX at U;let(o,j,Q):=af3 c;let(m,k,T):=alk c;have p:=fK (n/9) (show(0:Int)<((!B):Int) by lk);have t:=fK (n/90) (show(0:Int)<((!B):Int) - 1 by lk);obtain⟨C,I⟩:∃C:Nat,n/9 % (!B)=C:=⟨(n/9 % (!B)).toNat,by lk⟩;have D:C<!B:=by lk
 obtain⟨st,L⟩:∃st,n/90 % ((!B) - 1)=st:=⟨(n/90 % ((!B) - 1)).toNat,by lk⟩;have q:=fK ((C)+1+st) (show(0:Int)<((!B):Int) by lk);obtain⟨G,H⟩:∃G:Nat,((C)+1+st) % (!B)=G:=⟨(((C)+1+st) % (!B)).toNat,by lk⟩;have E:G<!B:=by lk
 have r:C≠G:=λg=>by
  subst g;have h1:((C)+1+st)<(!B)\/(!B)<=((C)+1+st):=by lk
  rcases h1 with h1|h1
  .rw[oz ∅ h1] at H;lk
  .have e:((C)+1+st) % (!B)=((C)+1+st) - (!B):=by rw[<-Int.sub_emod_right,oz ∅ ∅]
   lk
 refine(.lay w B[C] B[G] o m,[#[(.fr,.int c)],#[(.fr,.list<|A.map bh)],#[(.fr,.list<|B.map .str)],#[(.fr,.list<|names.map .str)],#[(.fr,.int n)],#[(.fr,.int<|n % 9)],#[(.fr,.int<|C)],#[(.fr,.int<|G)],none],?_,N,O,gr D,gr E,λg=>r<|(ly h.rn).mp g,Q.1,T.1,Q.2,T.2);unfold ZL slot;z_go;erw[lO (show(0:Int)<9 by decide) ⋯];z_go;erw[ac];rw[fV ∅,I];z_go;erw[lO (show(0:Int)<90 by decide) ⋯];z_go;erw[ac];rw[fV ∅,L];z_go;erw[ac];rw[fV ∅,H];z_go;rw[U];z_go;rw[show cN (B.map PyData.str) (C:Int)=#[.str B[C]] from TX D];z_go;rw[show cN (B.map PyData.str) (G:Int)=#[.str B[G]] from TX E];z_go;rw[j];z_go;rw[k];rfl
def alm {c n:Int}(h:Mf B names A)(L:A≠[]):∃d T,yJ (slot c n A B names)=.ret T false d.dat/\lA bR B names A d:=by
 have Q:=g7.mpr L;have p:=fK (n/9) (show(0:Int)<((!A):Int) by lk);obtain⟨i,N⟩:∃i:Nat,n/9 % (!A)=i:=⟨(n/9 % (!A)).toNat,by lk⟩;have E:i<!A:=by lk
 have H:=gr E;have M:=h.wd _ H;have C:cN (A.map bh) (i:Int)=#[bh A[i]]:=ad6 E;generalize A[i]=r at H M C;have G:=cf (f:=λx:Row=>x.1) H;by_cases I:n % 9=5
 .refine(.shut r.1,[#[(.fr,.int c)],#[(.fr,.list<|A.map bh)],#[(.fr,.list<|B.map .str)],#[(.fr,.list<|names.map .str)],#[(.fr,.int n)],#[(.fr,.int<|n % 9)],none,none,#[(.fr,bh r)]],?_,G);delta yJ slot;z_go;erw[lO (show(0:Int)<9 by decide) ⋯];z_go;erw[ac];rw[fV ∅,N];z_go;rw[C];z_go;erw[I,dL];rfl
 .by_cases J:n % 9=6/\1<r.2.2.2.1
  .have k:=fK (n/90) (show(0:Int)<min (r.2.2.2.1 - 1) 3 by lk);refine(.narrow r.1<|1+n/90 % min (r.2.2.2.1 - 1) 3,[#[(.fr,.int c)],#[(.fr,.list<|A.map bh)],#[(.fr,.list<|B.map .str)],#[(.fr,.list<|names.map .str)],#[(.fr,.int n)],#[(.fr,.int<|n % 9)],none,none,#[(.fr,bh r)]],?_,r,H,rfl,by lk,by lk);delta yJ slot;z_go;erw[lO (show(0:Int)<9 by decide) ⋯];z_go;erw[ac];rw[fV ∅,N];z_go;rw[C];z_go;have U:=a9 I;have D:=az J.1;erw[U];z_go;erw[D];delta bh;z_go;erw[(az J.2)];z_go;erw[lO (show(0:Int)<90 by decide) ⋯];z_go;rw[show(if 3<r.2.2.2.1 - 1 then(3) else r.2.2.2.1 - 1)=min (r.2.2.2.1 - 1) 3 by split<;>lk];rw[fV ∅];rfl
  .let(l,O,j):=af3 c;refine(.widen r.1 l,[#[(.fr,.int c)],#[(.fr,.list<|A.map bh)],#[(.fr,.list<|B.map .str)],#[(.fr,.list<|names.map .str)],#[(.fr,.int n)],#[(.fr,.int<|n % 9)],none,none,#[(.fr,bh r)]],?_,G,j);delta yJ slot;z_go;erw[lO (show(0:Int)<9 by decide) ⋯];z_go;erw[ac];rw[fV ∅,N];z_go;rw[C];z_go;erw[(a9 I)];delta bh;z_go;by_cases Y:n % 9=6
   .have D:=az Y;erw[D];z_go;have:=a9<|λz=>J ⟨Y,z⟩;erw[this];z_go;rw[O];rfl
   .have D:=a9 Y;erw[D];z_go;rw[O];rfl
def aju (h:Mf C names A)(J:names.Nodup):∃d,rO [.int c,dR A,cX C,cX names]=#[(false,d.dat)]/\lA bR C names A d:=by
 have O:=h.len;delta rO;delta Gq;delta dR cX;z_go;erw[wU (k:=0) ⋯<|by decide];z_go;erw[fV<|show(0:Int)<9 by decide];z_go;generalize d9 c 0=n;rw[eq_nil];z_go;by_cases B:A=[]
 .erw[B,dL];z_go;let(d,H,D,E):=layB h J (by rw[B,h.n8];decide);rw[B] at D;refine(d,?_,by rwa [<-B]);delta slot at D;rw[fe] at D;rw[D];rfl
 .erw[B,db];z_go;have L:∃d,bFn (yJ<|slot c n A C names)=#[(false,d.dat)]/\lA bR C names A d:=by let(d,H,D,E):=alm h B;exact(d,by rw[D];z_go,E)
  by_cases I:n % 9<5
  .erw[I,dL];z_go;erw[ac];by_cases G:(!A)<!names
   .have e:decide (((!A):Int)<((!names):Int))=true:=az ∅;erw[e];z_go;let(d,H,D,E):=layB h J G;refine(d,?_,E);delta slot at D;rw[D];rfl
   .have e:decide (((!A):Int)<((!names):Int))=false:=a9 ∅;erw[e];assumption
  .erw[I,db];assumption
def LN (seen:¬Str)(x:Str×Q4)(r:Row):Prop:=x.1=r.1/\(∃i:Nat,x.2.1=i/\seen[i]? =#[r.2.1])/\(∃j:Nat,x.2.2.1=j/\seen[j]? =#[r.2.2.1])/\x.2.2.2.1=r.2.2.2.1/\x.2.2.2.2=r.2.2.2.2
def TY {seen B:¬Str}{i:Nat}(h:seen[i]? =#[x]):(seen++B)[i]? =#[x]:=by rwa [bv (af.mp h).1]
def LN.grow {seen B:¬Str}{x:Str×Q4}(h:LN seen x r):LN (seen++B) x r:=by let(h1,(i,h2,J),(j,M,k),C,N):=h;calc(h1,(i,h2,TY J),(j,M,TY k),C,N)
structure Ok (rooms names:¬Str)(bw:¬Row)(nums:¬(Str×Int))(ls:¬(Str×Q4)):Prop where
 dr:Mf rooms names bw
 num:∀(i:Nat) x,nums[i]? =#[x]->x.2=(i:Int)
 nd:(seenOf nums).Nodup
 sub:∀x∈seenOf nums,x∈rooms
 lr:Paired (LN<|seenOf nums) ls bw
def m5 {seen:¬Str}(h:Paired (LN seen) x A):x.map (·.1)=A.map (·.1):=by
 induction h with
 |nil=>rfl
 |cons h _ B=>rw[aS,aS,B,h.1]
theorem Dg {nm:Str}:∀{l:¬(Str×A)},Not (nm∈l.map (·.1))->eX nm l=none
 |[],_=>rfl
 |x::r,h=>by rw[eX,ap λe=>h (by rw[aS,e];calc aa ..)];calc Dg λz=>h (by rw[aS];calc ae _ z)
theorem qU {nm:Str}:∀{l:¬(Str×A)},nm∈l.map (·.1)->∃v,eX nm l=#[v]
 |[],h=>by cases h
 |x::r,h=>by
  rw[eX];by_cases e:x.1=nm
  .simp_all
  .rw[ap e];refine qU ?_;grind
theorem T3 {nm:Str}:∀{l:¬(Str×A)},eX nm l=#[v]->∃i:Nat,l[i]? =#[(nm,v)]
 |[],h=>by cases h
 |x::r,h=>by
  rw[eX] at h;by_cases e:x.1=nm
  .rw[ah e] at h;cases h;exact⟨0,by rw[<-e];rfl⟩
  .rw[ap e] at h;let(i,N):=T3 h;calc⟨i+1,N⟩
theorem Dh {nm:Str}:∀{l:¬(Str×A)}{x:Str×A},(l.map (·.1)).Nodup->x∈l->x.1=nm->eX nm l=#[x.2]
 |[],x,_,h,_=>by cases h
 |y::r,x,C,h,e=>by
  rw[aS] at C;let(h1,h2):=bd.mp C;rw[eX];rcases aI.mp h with g|g
  .rw[ah (by rw[<-g];calc e),g]
  .rw[ap λz=>h1 (by rw[z,←e];calc cf (f:=λx:Str×A=>x.1) g)];calc Dh h2 g e
def T4 {nm:Str}{l:¬(Str×A)}(h:Not (nm∈l.map (·.1))):jZ nm v l=l++[(nm,v)]:=by delta jZ;grind
def ad7 {nm:Str}{l:¬(Str×A)}(h:nm∈l.map (·.1)):jZ nm v l=l.map λx=>if x.1=nm then(x.1,v) else x:=by delta jZ;grind
def abJ {rs:¬Str}:∀{nums:¬(Str×Int)},rs.Nodup->(∀r∈rs,Not (r∈seenOf nums))->(∀(i:Nat) x,nums[i]? =#[x]->x.2=(i:Int))->seenOf (mX nums rs)=seenOf nums++rs/\∀(i:Nat) x,(mX nums rs)[i]? =#[x]->x.2=(i:Int):=by
 induction rs with
 |nil=>calc λ_ _ A=>⟨by rw[eP];rfl,A⟩
 |cons r rs H=>
  intro nums h1 h2 A;let(B,E):=bd.mp h1;have e:mX nums (r::rs)=mX (nums++[(r,((!nums):Int))]) rs:=by show mX (jZ r ((!nums):Int) nums) rs=_;rw[T4<|h2 r<|aa ..]
  have D:seenOf (nums++[(r,((!nums):Int))])=seenOf nums++[r]:=by delta seenOf;rw[bP];rfl
  rw[e];let(b1,b2):=H (nums:=nums++[(r,((!nums):Int))]) E (λx G=>by
   rw[D];intro z;rcases aT.mp z with g|g
   .exact h2 x (ae _ G) g
   .calc B (by rwa [<-a7.mp g])) (λi x C=>by
   rcases Nat.lt_or_ge i !nums with g|g
   .rw[bv g] at C;exact A i x C
   .rw[cm g] at C
    have:i - (!nums)=0:=by
     rcases Nat.eq_zero_or_pos (i - !nums) with z|z
     .exact z
     .rw[bg (by simp;lk)] at C;cases C
    rw[this] at C;cases C;show((!nums):Int)=i;lk)
  calc⟨by rw[b1,D,cr];rfl,b2⟩
def sY {r:Str}:(eX r nums).isNone=true↔Not (r∈seenOf nums):=by
 constructor
 .intro h z;let(v,e):=qU z;grind
 .intro h;rw[Dg h];rfl
def Xp {nums:¬(Str×Int)}(C:a≠b):mY (seenOf nums) [a,b]=seenOf nums++newOf nums [a,b]:=by
 have step:∀s (r:Str),(if(s.any λy=>y==r)=true then s else s++[r])=if r∈s then s else s++[r]:=λs r=>by simp
 show(if((if((seenOf nums).any λy=>y==a)=true then seenOf nums else seenOf nums++[a]).any λy=>y==b)=true then(if((seenOf nums).any λy=>y==a)=true then seenOf nums else seenOf nums++[a]) else(if((seenOf nums).any λy=>y==a)=true then seenOf nums else seenOf nums++[a])++[b])=_;rw[step,step];delta newOf;by_cases G:a∈seenOf nums
 .rw[ah G];have D:=gy.mpr λz=>sY.mp z G;by_cases B:b∈seenOf nums
  .rw[ah B];have A:=gy.mpr λz=>sY.mp z B;grind
  .rw[ap B];have A:=sY.mpr B;grind
 .rw[ap G];have D:=sY.mpr G;by_cases B:b∈seenOf nums
  .rw[ah<|aT.mpr<|.inl B];have A:=gy.mpr λz=>sY.mp z B;grind
  .have A:=sY.mpr B;grind
def abK {r:Str}(C:∀(i:Nat) x,nums[i]? =#[x]->x.2=(i:Int))(h:r∈seenOf nums):∃i:Nat,eX r nums=#[(i:Int)]/\(seenOf nums)[i]? =#[r]:=by let(v,e):=qU h;let(i,N):=T3 e;have:=C i _ N;calc(i,by rw[e,←this],by delta seenOf;rw[ai,N];rfl)
def Bp (h:Paired R l r)(A:∀x y,R x y->p x=q y):Paired R (l.filter p) (r.filter q):=by
 induction h with
 |nil=>calc .nil
 | @cons a b _ _ h _ B=>
  rw[fm,fm,A a b h];split
  .exact .cons h B
  .calc B
def ZR (h:Paired R l r):(∀x∈l,∀y,R x y->R (f x) (g y))->Paired R (l.map f) (r.map g):=by
 induction h with
 |nil=>intro _;calc .nil
 | @cons a b _ _ h _ B=>intro k;calc .cons (k a (aa ..) b h)<|B λx A=>k x<|ae _ A
def Gs (h:Paired R l r):∀{y:Row},y∈r->∃x∈l,R x y:=by
 induction h with
 |nil=>intro y n;cases n
 | @cons a b _ _ h _ B=>
  intro y n;rcases aI.mp n with g|g
  .rw[g];exact(a,aa ..,h)
  .let(x,A,e):=B g;calc(x,ae _ A,e)
def Di (nm:Str)(k:Int)(A:¬Row):(A.map<|gH nm k).map (·.1)=A.map (·.1):=by rw[bE];refine cK λr _=>?_;show(gH nm k r).1=r.1;delta gH;split<;>rfl
def ad8 {A:¬Row}(h:(A.map (·.1)).Nodup)(hr:r∈A)(D:s∈A)(e:r.1=s.1):r=s:=by
 induction A with
 |nil=>grind
 |cons x C B=>grind
section
variable {A:¬(Str×Q4)}
theorem Ok.len (h:Ok B names C nums A):(!A)<=8/\(!nums)<=5:=by
 have h1:=!h.lr;have h2:=h.dr.len;have J:=Hz h.nd h.sub;have M:=h.dr.r5;have k:(!(seenOf nums))=!nums:=by delta seenOf;rw[ac]
 lk
def Ok.chg (h:Ok D names B nums A){nm:Str}{k:Int}(U:nm∈B.map (·.1))(Q:∀r∈B,r.1=nm->1<=r.2.2.2.1+k):
  ∃q,eX nm A=#[q]/\(∀r∈B,r.1=nm->q.2.2.1=r.2.2.2.1)/\Ok D names (B.map<|gH nm k) nums (jZ nm (q.1,q.2.1,q.2.2.1+k,q.2.2.2) A):=by
 have L:=m5 h.lr;have E:nm∈A.map (·.1):=by rwa [L]
 have G:(A.map (·.1)).Nodup:=by rw[L];exact h.dr.nn
 let(q,T):=qU E;refine(q,T,λr hr e=>?_,(h.dr.r2,h.dr.r5,h.dr.rn,h.dr.n8,by rw[Di];calc h.dr.nn,λr hr=>?_,λr hr=>?_),h.num,h.nd,h.sub,?_)
 .let(x,J,H):=Gs h.lr hr;have:=Dh G J<|H.1.trans e;rw[T] at this;cases this;exact H.2.2.2.1
 .let(s,I,rfl):=a6.mp hr
  have:(gH nm k s).1=s.1:=by delta gH;split<;>rfl
  rw[this];exact h.dr.sub s I
 .let(s,I,rfl):=a6.mp hr;delta gH;split
  .rename_i e;exact Q s I e
  .exact h.dr.wd s I
 .rw[ad7 E];refine ZR h.lr λx J y C=>?_;delta gH;by_cases e:x.1=nm
  .have:=Dh G J e;rw[T] at this;cases this;rw[ah e,ah<|C.1.symm.trans e];let(h1,h2,M,N,O):=C;exact(h1,h2,M,by show x.2.2.2.1+k=y.2.2.2.1+k;rw[N],O)
  .rwa [ap e,ap λz=>e<|C.1.trans z]
def step {C p L J I:Addr}{H:Hp}{d:bf}(h:Ok B names E nums A)(hR:∀x∈B,fW x)(hN:∀x∈names,fW x)(hd:lA Wt B names E d)(j:aU H C p L J I nums A):
  ∃D T,Ok B names (uF d E) D T/\seenOf D=zY d (seenOf nums)/\∀(Q:VK),(∀m,aU m C p L J I D T->fD J I H m->Q .non m)->d.sp C p H Q:=by
 let(hl,hnl):=h.len;have en:=m5 h.lr;cases d with
 |lay nm a b w l=>
  let(o,O,d3,d4,t,d6,d7):=hd;have M:(newOf nums [a,b]).Nodup:=List.Pairwise.filter _ (by simp[t]);have G:∀r∈newOf nums [a,b],Not (r∈seenOf nums):=λr hr=>sY.mp (c6.mp hr).2;have u:∀r∈newOf nums [a,b],r=a\/r=b:=λr hr=>by have:=(c6.mp hr).1;simpa using this
  let(Y,s2):=abJ M G h.num;have U:∀r,r∈[a,b]->r∈seenOf (mX nums<|newOf nums [a,b]):=λr hr=>by
   rw[Y];by_cases g:r∈seenOf nums
   .exact aT.mpr<|.inl g
   .exact aT.mpr<|.inr<|c6.mpr ⟨hr,sY.mpr g⟩
  let(ia,ga,n):=abK s2 (U a 's');let(ib,gb,i):=abK s2 (U b 's');have c:Not (nm∈A.map (·.1)):=by rwa [en]
  refine(mX nums<|newOf nums [a,b],jZ nm ((ia),(ib),w,l) A,((h.dr.r2,h.dr.r5,h.dr.rn,h.dr.n8,?_,?_,?_),s2,?_,?_,?_),?_,?_)
  .show((E++[Prod.mk nm<|Prod.mk a<|Prod.mk b<|Prod.mk w l]).map (·.1)).Nodup;rw[bP];refine d5.mpr (h.dr.nn,by simp,λx N y hy z=>?_)
   have:y=nm:=‹hy›
   exact O<|by rwa [<-this,←z]
  .intro r hr;rcases aT.mp hr with g|g
   .exact h.dr.sub r g
   .rwa [a7.mp g]
  .intro r hr;rcases aT.mp hr with g|g
   .exact h.dr.wd r g
   .rwa [a7.mp g]
  .rw[Y];exact d5.mpr (h.nd,M,λx N y hy z=>G y hy<|z▸N)
  .intro x N;rw[Y] at N;rcases aT.mp N with g|g
   .exact h.sub x g
   .rcases u x g with e|e
    .rwa [e]
    .rwa [e]
  .rw[T4 c];refine Paired.snoc ?_ (rfl,(ia,rfl,n),(ib,rfl,i),rfl,rfl);rw[Y];exact h.lr.mono λx y z=>z.grow
  .rw[Y];exact(Xp t).symm
  .intro Q q;calc(p,L,J,I,nums,A,nm,a,b,w,l,ia,ib,rfl,j,hN nm o,hR a d3,hR b d4,Dg c,t,d6,d7.1,by lk,by lk,ga,gb,q)
 |shut nm=>
  let(q,hq):=qU (by rwa [en]);refine(nums,rN nm A,((h.dr.r2,h.dr.r5,h.dr.rn,h.dr.n8,?_,?_,?_),h.num,h.nd,h.sub,?_),rfl,λQ k=>(p,L,J,I,nums,A,nm,q,rfl,j,hq,k))
  .exact(pb _ i8).nodup h.dr.nn
  .exact λr hr=>h.dr.sub r (c6.mp hr).1
  .exact λr hr=>h.dr.wd r (c6.mp hr).1
  .calc Bp h.lr λx y z=>by rw[z.1]
 |widen nm k=>
  let(o,O):=hd;let(q,v,g2,f):=h.chg (k:=k) o λr hr e=>by have:=h.dr.wd r hr;lk
  calc(nums,_,f,rfl,λQ kk=>(p,L,J,I,nums,A,nm,q,k,rfl,j,v,O.1,by lk,kk))
 |narrow nm k=>
  let(r,hr,e,O,d3):=hd;have hm:nm∈E.map (·.1):=by rw[<-e];exact cf hr
  let(q,v,g2,f):=h.chg (k:=-k) hm λs hs es=>by have:=ad8 h.dr.nn hs hr<|es.trans e.symm;rw[this];lk
  calc(nums,_,f,rfl,λQ kk=>(p,L,J,I,nums,A,nm,q,k,rfl,j,v,O,by rwa [g2 r hr e],by lk,kk))
end
section
variable {ns:¬Int}
end
section
variable {K:Frag}
def aU.off (h:aU H C p A G D nums x)(k:∀b o,(∀ys,o≠ .lst ys)->H b=#[o]->E b=#[o]):aU E C p A G D nums x:=by let(a,b,(B,c,d),n):=h;calc(k _ _ (by intro ys z;cases z) a,k _ _ (by intro ys z;cases z) b,(B,k _ _ (by intro ys z;cases z) c,d.mono λ_ _ z=>z.same λt I e=>k _ _ (by intro ys z;cases z) e),n)
def qW (h:aU H C p A G D nums x)(s:fD G D H E)(e:H a=#[.lst xs]):E a=#[.lst xs]:=by let(B,c,_):=h.laid;calc s _ _ (λz=>by rw[z,h.num] at e;cases e) (λz=>by rw[z,c] at e;cases e) e
def aoc (D L:Str)(rest:¬Str):uX ((D::L::rest).map V.str) none #[2]=[D,L].map V.str:=by rfl
def HB {d:bf}(h:Has K H d.dat v):∃t,v=.ref t/\bK K H t d.vals:=by
 cases d with
 |lay nm a b w l=>let(t,D,rfl,A,C,L,rfl,(rfl,_),E,m,rfl,(rfl,_),Y,O,rfl,(rfl,_),j,Q,rfl,(rfl,_),J,G,rfl,B,g,U,rfl,N,hr):=h;have I:=B;have M:=N;have T:=hr;subst I M T;calc(t,rfl,A)
 |shut nm=>let(t,D,rfl,A,C,L,rfl,(rfl,_),E,m,rfl,(rfl,_),hr):=h;have T:=hr;subst T;calc(t,rfl,A)
 |widen nm k=>let(t,D,rfl,A,C,L,rfl,(rfl,_),E,m,rfl,(rfl,_),J,G,rfl,B,hr):=h;have I:=B;have T:=hr;subst I T;calc(t,rfl,A)
 |narrow nm k=>let(t,D,rfl,A,C,L,rfl,(rfl,_),E,m,rfl,(rfl,_),J,G,rfl,B,hr):=h;have I:=B;have T:=hr;subst I T;calc(t,rfl,A)
def ad9 {nm a b:Str}(L:∀x∈B,fW x)(D:∀x∈names,fW x)(h:lA E B names C (.lay nm a b w l)):(bh (nm,a,b,w,l)).canLay0=true:=by let(h1,_,J,M,_):=h;have n:=(D _ h1).2;have A:=(L _ J).2;have q:=(L _ M).2;erw[bh,canLay0,canLayAll0,bc] at n A q ⊢;calc(n,A,q,trivial,trivial,trivial)
end
end cA
namespace VZ
open PySem.W PyProof.Rows
section
variable {s:Shared}
def alive (h:Q (s.heap a) s):wpAny M A (loadIfAlive a) Q E s:=λB p _=>by assumption
abbrev qj (h:Heap)(z TI TO T:Addr)(b:Bool):Prop:=h z=some {cls:=.type "zip",dict:=none,data:=.fields #[rawInt T,.bool b,.bool false,.ref TI,.ref TO],slots:=#[]}
def T5 (C:qj s.heap z TI TO T b)(U:s.heap T=#[G])
  (D:∀h',qj h' z TI TO T true->h'.objs.size= ~~~s->(∀c o,c≠z->s.heap c=#[o]->h' c=#[o])->Q false {s with heap:=h'}):
  (prog\w) A (Builtin.SmallTypes.ownedTupleIsFree<|.ref z) Q E s:=by
 refine ab<|ci C rfl rfl ?_;refine ab<|alive ?_;rw[dq,U];refine ab<|ci C rfl rfl ?_;cases b with
 |true=>calc ax<|D s.heap C rfl λc o _ e=>e
 |false=>refine ab<|eQ C 's' λB k J=>ax<|D B k J.1 λc o O e=>J.extBut _ _ O e
def abL {Q:Value->Shared->Prop}(D:ZipApart z TI TO N O q r)
  (p:qj s.heap z TI TO T b)(h:s.heap T=#[oT])(g:IsPair s.heap TI (.ref N) (.ref O))(h1:s.heap.IsListIter N q k)(h2:s.heap.IsListIter O r k)(m:s.heap.IsList q xs)(j:s.heap.IsList r ys)(hx:xs[k]? =#[x])(hy:ys[k]? =#[y])
  (a:∀h',qj h' z TI TO T true->h'.IsListIter N q (k+1)->h'.IsListIter O r (k+1)->IsPair h' (~~~s) x y->(∀c o,c≠z->c≠N->c≠O->s.heap c=#[o]->h' c=#[o])->Q (.ref (~~~s)) {s with heap:=h'}):
  (prog\w) A (Builtin.«zip.__next__» ⟨[.ref z],[]⟩) (λY s'=>∃v,Y=.done (.ret v)/\Q v s') E s:=by
 show wpAny _ _ (field (.ref z) 2>>=_) _ _ _;refine ab<|ci p rfl rfl ?_;refine ab<|ci p rfl rfl ?_;refine ab<|da g rfl ?_;refine ab<|T5 p h λt G C J=>?_;erw[dt,dE];rw[om,iN];refine ab<|ab<|ab<|fb ?_;refine ab<|gd (h1.at λo e=>J _ o D.i1z e) (m.at λo e=>J _ o D.l1z e) hx λu i L=>ax ?_;refine ax ?_;k_ne;rw[iN];refine ab<|ab<|fb ?_;refine ab<|gd ((h2.at λo e=>J _ o D.i2z e).extBut L.extBut D.i12.symm) ((j.at λo e=>J _ o D.l2z e).extBut L.extBut D.l2i1) hy λH B M=>ax ?_;refine ax ?_;k_ne;rw[forIn_nil];refine ax ?_;refine ab (wpAny_newTuple (hsz:=by show(2:Nat)<=sizeLine;decide) ?_);have l:H.objs.size= ~~~s:=by rw[M.1,L.1,C]
 refine ax (_,rfl,?_);have U:∀c o,H c=#[o]->(H.push {cls:=.type "tuple",data:=.seq #[x,y]}) c=#[o]:=λc o e=>ay _ e;have I:IsPair (H.push {cls:=.type "tuple",data:=.seq #[x,y]}) H.objs.size x y:=bj _ rfl;rw[l] at I ⊢;calc a _ (U _ _<|M.extBut _ _ D.i2z.symm (L.extBut _ _ D.i1z.symm G)) ((i.extBut M.extBut D.i12).at λo e=>U _ o e) (B.at λo e=>U _ o e) I λc o n d f e=>U _ _<|M.extBut _ _ f<|L.extBut _ _ d<|J _ _ n e
def abM (l:A.handled=none)(D:ZipApart z TI TO H q M r)
  (B:qj s.heap z TI TO T b)(Y:s.heap T=#[t])(g:IsPair s.heap TI (.ref H) (.ref q))(h1:s.heap.IsListIter H M k)(m:s.heap.IsList M xs)(p:xs[k]? =none)
  (U:∀h' e,(∀c o,c≠z->c≠H->s.heap c=#[o]->h' c=#[o])->(∃o,h' e=#[o]/\o.cls=.type "StopIteration")->E (.ref e) {s with heap:=h'}):
  (prog\w) A (Builtin.«zip.__next__» ⟨[.ref z],[]⟩) Q E s:=by
 show wpAny _ _ (field (.ref z) 2>>=_) _ _ _;refine ab<|ci B rfl rfl ?_;refine ab<|ci B rfl rfl ?_;refine ab<|da g rfl ?_;refine ab<|T5 B Y λI G C J=>?_;erw[dt,dE];rw[om,iN];refine ab<|ab<|ab<|fb ?_;calc ab<|pe l (h1.at λo e=>J _ o D.i1z e) (m.at λo e=>J _ o D.l1z e) p λO e L j=>(U O e (λc o n N x=>L _ _ N<|J _ _ n x) j)
end
section
variable {z TI TO T i1 i2 l1 l2:Addr}
def ZV (D:ZipApart z TI TO i1 i2 l1 l2)
  (C:qj s.heap z TI TO T b)(U:s.heap T=#[N])(g:IsPair s.heap TI (.ref i1) (.ref i2))(h1:s.heap.IsListIter i1 l1 k)(h2:s.heap.IsListIter i2 l2 k)(m:s.heap.IsList l1 xs)(L:s.heap.IsList l2 ys)(M:xs[k]? =#[x])(n:ys[k]? =#[y])
  (J:∀h',qj h' z TI TO T true->h'.IsListIter i1 l1 (k+1)->h'.IsListIter i2 l2 (k+1)->IsPair h' (~~~s) x y->(∀c o,c≠z->c≠i1->c≠i2->s.heap c=#[o]->h' c=#[o])->Q (#[.ref (~~~s)]) {s with heap:=h'}):
  (prog\w) A (pyNext<|.ref z) Q E s:=by
 have I:s.TypeIs (.ref z) "zip":=(_,C,rfl);exact ab (ko (cE I eg
  (eJ eg I iL
   (abL D C U g h1 h2 m L M n λh' B G j H l=>ax (J h' B G j H l)) (ie _))))
def ZW (H:A.handled=none)(D:ZipApart z TI TO i1 i2 l1 l2)
  (C:qj s.heap z TI TO T b)(U:s.heap T=#[N])(g:IsPair s.heap TI (.ref i1) (.ref i2))(h1:s.heap.IsListIter i1 l1 k)(m:s.heap.IsList l1 xs)(L:xs[k]? =none)
  (B:∀h',(∀c o,c≠z->c≠i1->s.heap c=#[o]->h' c=#[o])->Q none {s with heap:=h'}):(prog\w) A (pyNext<|.ref z) Q E s:=by
 have I:s.TypeIs (.ref z) "zip":=(_,C,rfl);refine ab (ko (cE I eg
  (eJ eg I iL (abM H D C U g h1 m L λh' e M G=>?_) (ie _))))
 let(o,J,O):=G;calc ab<|wpAny_isInstance (o,J,O) isSubtype_stop<|ax<|B _ M
structure ZS (z TI TO T i1 i2 l1 l2:Addr)(xs ys:Array Value)(i:Nat)(h:Heap):Prop where
 z:∃b,qj h z TI TO T b
 t:∃o,h T=#[o]
 ti:IsPair h TI (.ref i1) (.ref i2)
 a:h.IsListIter i1 l1 i
 b:h.IsListIter i2 l2 i
 la:h.IsList l1 xs
 lb:h.IsList l2 ys
theorem ZS.at (x:ZS z TI TO T i1 i2 l1 l2 xs ys i h)(k:∀c o,c=z\/c=T\/c=TI\/c=i1\/c=i2\/c=l1\/c=l2->h c=#[o]->h' c=#[o]):ZS z TI TO T i1 i2 l1 l2 xs ys i h':=by let((b,U),(o,Y),O,B,A,C,D):=x;calc(⟨b,k _ _ 's' U⟩,⟨o,k _ _ 's' Y⟩,k _ _ 's' O,B.at λo e=>k _ o 's' e,A.at λo e=>k _ o 's' e,C.at λo e=>k _ o 's' e,D.at λo e=>k _ o 's' e)
structure Laid (n0:Nat)(xs ys:Array Value)(ts:¬Addr)(h:Heap):Prop where
 nd:ts.Nodup
 lo:∀t∈ts,n0<=t/\t<h.objs.size
 it:∀(j:Nat) t,ts[j]? =#[t]->∃x y,xs[j]? =#[x]/\ys[j]? =#[y]/\IsPair h t x y
def Laid.at (x:Laid A xs ys I h)(k:∀c o,A<=c->h c=#[o]->h' c=#[o]):Laid A xs ys I h':=by
 have B:∀t∈I,∃j,I[j]? =#[t]:=λt U=>dm U;have C:∀j t,I[j]? =#[t]->∃x y,xs[j]? =#[x]/\ys[j]? =#[y]/\IsPair h' t x y:=λj t e=>by let(a,b,c,d,p):=x.it j t e;exact(a,b,c,d,k _ _ (x.lo t<|ag e).1 p)
 refine(x.nd,λt U=>⟨(x.lo t U).1,?_⟩,C);let(j,e):=B t U;let(_,_,_,_,p):=C j t e;calc bX p
def Laid.more (l:Laid B xs ys I h)(J:Not (t∈I))(L:B<=t)(M:xs[!I]? =#[x])(n:ys[!I]? =#[y])(D:IsPair h t x y):Laid B xs ys (I++[t]) h:=by
 refine(?_,λu f=>?_,λj u e=>?_)
 .rw[d5];exact(l.nd,by simp,λa G b H z=>by rw[a7.mp H] at z;calc J<|z▸G)
 .rcases aT.mp f with g|g
  .exact l.lo u g
  .rw[a7.mp g];exact⟨L,bX D⟩
 .by_cases Y:j<!I
  .rw[bv Y] at e;exact l.it j u e
  .rw[cm ∅] at e;have A:j - (!I)=0:=by have:=(af.mp e).1;simp at this;lk
   rw[A] at e;have E:t=u:=‹e›
   have C:j=!I:=by lk
   rw[C,←E];calc(x,y,M,n,D)
abbrev LstAt (h:Heap)(S:Addr)(I:¬Addr)(c:Nat):Prop:=h S=some {cls:=.type "list",dict:=none,data:=.seq (I.map Value.ref).toArray c,slots:=#[]}
def Xq (hS:LstAt h S I c):∃C,LstAt (h.update S<|Obj.mapSeq (·.push (Value.ref n))) S (I++[n]) C:=by
 have A:((I++[n]).map Value.ref).toArray=((I.map Value.ref).toArray).push (.ref n):=by simp
 have B:∀d:Data,(Obj.mapSeq (·.push (Value.ref n)) {cls:=.type "list",dict:=none,data:=.seq (I.map Value.ref).toArray c,slots:=#[]}).data=d->∃C,d=.seq (((I.map Value.ref).toArray).push<|.ref n) C:=λd G=>⟨_,G.symm.trans rfl⟩;let(C,O):=B _ rfl;refine⟨C,?_⟩;rw[LstAt,A,←O];calc(fR (Obj.mapSeq (·.push (Value.ref n))) hS rfl)
def aea (hh:A.handled=none)(D:ZipApart z TI TO i1 i2 l1 l2)(h0:z<I/\i1<I/\i2<I/\S<I/\T=I)
  (hS:S≠z/\S≠TI/\S≠i1/\S≠i2/\S≠l1/\S≠l2)(hle:xs.size=ys.size)(hn:xs.size<=sizeLine):∀(k i:Nat) (s:Shared) (L:¬Addr) (c:Nat),xs.size - i=k->i<=xs.size->(!L)=i->ZS z TI TO T i1 i2 l1 l2 xs ys i s.heap->LstAt s.heap S L c->Laid I xs ys L s.heap->
  (∀h' tk H y,(∀b o,b≠S->b≠z->b≠i1->b≠i2->s.heap b=#[o]->h' b=#[o])->LstAt h' S H y->Laid I xs ys H h'->(!H)=xs.size->R (.ok<|.ret res) {s with heap:=h',toks:=tk})->
  codeAny (model prog w) A (.builtin "list.extend.loop" ⟨[.ref S,.ref z,res],[]⟩) R s:=by
 let(Q,E,J,h,hT0):=h0;let(m,ar6,g,hS2,ar7,ar8):=hS;have N:∀{a c:Nat},a<I->I<=c->c≠a:=λh1 h2 z=>by lk
 intro k;induction k with
 |zero=>
  intro i s L c hk hi C st d t x;have hin:i=xs.size:=by lk
  let((b,x1),(o,r),u,x4,x5,v,x7):=st;refine gu kn ?_;rw[fx dn _];refine ab (ZW hh D x1 r u x4 v (by rw[hin];calc mI<|av _) λh' G=>?_);refine ax<|x h' s.toks L c (λb o _ n Y _ e=>G b o n Y e) (G _ _ m g d) (t.at λc o O e=>G c o (N Q O) (N E O) e) ∅
 |succ k ih=>
  intro i s L c hk hi C st d t x;have p:i<xs.size:=by lk
  let((b,x1),(o,r),u,x4,x5,v,x7):=st;have hx:=fk p;have hy:ys[i]? =#[ys[i]]:=fk ∅;refine gu kn ?_;rw[fx dn _];refine ab<|ZV D x1 r u x4 x5 v x7 hx hy λq g1 g2 g3 g4 B=>?_;have j:=B _ _ m g hS2 d;have M:T≠z/\T≠i1/\T≠i2:=by rw[hT0];exact(N Q<|av _,N E<|av _,N J<|av _)
  have U:ZS z TI TO T i1 i2 l1 l2 xs ys (i+1) q:=(⟨_,g1⟩,⟨o,B _ _ M.1 M.2.1 M.2.2 r⟩,B _ _ D.TIz D.TIi1 D.TIi2 u,g2,g3,v.at λo e=>B _ o D.l1z D.l1i1 D.l1i2 e,x7.at λo e=>B _ o D.l2z D.l2i1 D.l2i2 e);have hfr: Not (~~~s∈L):=λhm=>gh _ (t.lo _ hm).2;have hsn:I<= ~~~s:=by have:=bX r;lk
  let(Y,l):=Xq j;refine ab ?_;refine fE j rfl (ax ⟨gp dn _,ih (i+1) _ (L++[~~~s]) Y ∅ p (by rw[aE,C];rfl) (U.at λc o O e=>?_) l (((t.at λc o O e=>B c o (N Q O) (N E O) (N J O) e).more hfr hsn (by rwa [C]) (by rwa [C]) g4).at λc o O e=>?_) λh' tk H y G f la' hl'=>?_⟩)
   (by simp[C];lk) (by simp[C];lk)
  .refine(cb _ _ ?_).trans e;lk
  .exact(cb _ _ (N h O).symm).trans e
  .refine x h' tk H y (λb o c0 n Y c3 e=>G b o c0 n Y c3<|(cb _ _<|b8 c0).trans<|B b o n Y c3 e) f la' hl'
end
def ZX:typeLookup (.type "zip") "__len__"=pure none:=by rw[typeLookup_type,ph];kernel_rfl
def V6:typeLookup (.type "zip") "__length_hint__"=pure none:=by rw[typeLookup_type,ph];kernel_rfl
section
variable {z TI TO i1 i2 l1 l2:Addr}
structure Z0 (z TI TO i1 i2 l1 l2:Addr)(xs ys:Array Value)(h:Heap):Prop where
 z:IsZip h z TI TO .none
 ti:IsPair h TI (.ref i1) (.ref i2)
 to:∃a b,IsPair h TO a b
 a:h.IsListIter i1 l1 0
 b:h.IsListIter i2 l2 0
 la:h.IsList l1 xs
 lb:h.IsList l2 ys
theorem Z0.at (x:Z0 z TI TO i1 i2 l1 l2 xs ys h)(k:∀c o,c=z\/c=TO\/c=TI\/c=i1\/c=i2\/c=l1\/c=l2->h c=#[o]->h' c=#[o]):Z0 z TI TO i1 i2 l1 l2 xs ys h':=by let(U,O,(a,b,Y),B,A,C,D):=x;calc(k _ _ 's' U,k _ _ 's' O,(a,b,k _ _ 's' Y),B.at λo e=>k _ o 's' e,A.at λo e=>k _ o 's' e,C.at λo e=>k _ o 's' e,D.at λo e=>k _ o 's' e)
structure Off (S z TI TO i1 i2 l1 l2:Addr):Prop where
 z:S≠z
 ti:S≠TI
 to:S≠TO
 a:S≠i1
 b:S≠i2
 la:S≠l1
 lb:S≠l2
def Off.ne (o:Off S z TI TO i1 i2 l1 l2)(h:c=z\/c=TO\/c=TI\/c=i1\/c=i2\/c=l1\/c=l2):S≠c:=by
 rcases h with rfl|rfl|rfl|rfl|rfl|rfl|rfl
 .exact o.z
 .exact o.to
 .exact o.ti
 .exact o.a
 .exact o.b
 .exact o.la
 .calc o.lb
def Ol (hh:A.handled=none)(D:ZipApart z TI TO i1 i2 l1 l2)(hS:Off S z TI TO i1 i2 l1 l2)(Y:xs.size=ys.size)(hn:xs.size<=sizeLine)
  (st:Z0 z TI TO i1 i2 l1 l2 xs ys s.heap)(N:LstAt s.heap S [] c)
  (hR:∀h' p H J,(∀b o,b≠S->b≠z->b≠TO->b≠i1->b≠i2->s.heap b=#[o]->h' b=#[o])->LstAt h' S H J->Laid (~~~s) xs ys H h'->(!H)=xs.size->R (.ok<|.ret m) {s with heap:=h',toks:=p}):
  codeAny (model prog w) A (.builtin "list.extend.loop" ⟨[.ref S,.ref z,m],[]⟩) R s:=by
 let(r,u,(a,b,x2),v,d,x,i):=st;have h:=bX N;have L:i1< ~~~s:=by let(_,e,_):=v;exact bX e
 have M:i2< ~~~s:=by let(_,e,_):=d;exact bX e
 refine gu kn ?_;rw[fx dn _];by_cases h0:xs.size=0
 .refine ab (wpAny_pyNext_zip_end hh D r u x2 v d x i (.inl<|mI ∅) λh' hk=>?_);exact ax<|hR h' s.toks [] c (λb o _ n C q I e=>hk b o n C q I e) (hk _ _ hS.z hS.to hS.a hS.b N) (li,λt k=>(by cases k),λj t e=>(by simp at e)) h0.symm
 .have hx:xs[0]? =#[xs[0]]:=fk ∅;have hy:ys[0]? =#[ys[0]]:=fk ∅;refine ab<|wpAny_pyNext_zip_item D r u x2 v d x i hx hy λG g1 g2 g3 g4 g5 g6 B=>?_;have ne:∀{a:Nat},a< ~~~s->s.heap.objs.size≠a:=λh1 z=>by lk
  have E:=B _ _ hS.z hS.to hS.a hS.b N;let(C,l):=Xq E;rw[fF] at l;have U:ZS z TI TO (~~~s) i1 i2 l1 l2 xs ys 1 G:=(⟨_,g1⟩,⟨_,g5⟩,B _ _ D.TIz D.TITO D.TIi1 D.TIi2 u,g3,g4,x.at λo e=>B _ o D.l1z D.l1TO D.l1i1 D.l1i2 e,i.at λo e=>B _ o D.l2z D.l2TO D.l2i1 D.l2i2 e);refine ab ?_;refine fE E rfl (ax ⟨gp dn _,aea hh D ((bX r),L,M,h,rfl) (hS.z,hS.ti,hS.a,hS.b,hS.la,hS.lb) Y hn _ 1 _ [~~~s] C rfl ∅ rfl (U.at λc o O e=>?_) l ((Laid.more (li,λt k=>(by cases k),λj t e=>(by simp at e)) 's' (av _) hx hy g5).at λc o O e=>?_) λh' p H J Q f g T=>?_⟩)
   's' 's'
  .refine(cb _ _ ?_).trans e;rcases O with rfl|rfl|rfl|rfl|rfl|rfl|rfl
   .exact hS.z
   .exact(ne h).symm
   .exact hS.ti
   .exact hS.a
   .exact hS.b
   .exact hS.la
   .exact hS.lb
  .refine(cb _ _ λy=>?_).trans e;subst y;exact absurd h<|not_lt.mpr O
  .calc hR h' p H J (λb o c0 n C q I e=>Q b o c0 n q I<|(cb _ _<|b8 c0).trans<|B b o n C q I e) f g T
def aeb (U:s.TypeIs (.ref z) "zip")(h:Q true s):(prog\w) A (Builtin.List.listLengthHint<|.ref z) Q E s:=by calc ab<|me U ZX<|ab<|me U V6<|ax h
def Z1 (j:A.handled=none)(D:ZipApart z TI TO i1 i2 l1 l2)(hS:Off S z TI TO i1 i2 l1 l2)(G:xs.size=ys.size)(k:xs.size<=sizeLine)
  (st:Z0 z TI TO i1 i2 l1 l2 xs ys s.heap)(M:s.heap S=some {cls:=.type "list",data:=.seq #[] c})
  (T:∀h' Y H C,(∀b o,b≠S->b≠z->b≠TO->b≠i1->b≠i2->s.heap b=#[o]->h' b=#[o])->LstAt h' S H C->Laid (~~~s) xs ys H h'->(!H)=xs.size->R (.ok<|.ret m) {s with heap:=h',toks:=Y}):
  (prog\w) A.in1 (Builtin.List.listExtendWith (.ref S) (.ref z) m)
   (λL I=>match L with|.done f=>R (.ok f) I|.again C=>C.quiet=true/\codeAny (model prog w) A C R I) (λe I=>R (.error e) I) s:=by
 have U:s.TypeIs (.ref z) "zip":=(_,st.z,rfl);refine ab<|wpAny_typeOf U ?_;have h1:Builtin.List.listSameRef (.ref S) (.ref z)=false:=by simp[Builtin.List.listSameRef,hS.z]
 have h2:(type "zip"==type "list")=false:=by decide
 have p:(type "zip"==type "tuple")=false:=by decide
 erw[h1,h2,p,Bool.or_false,dt,dE];refine ab<|lp st.z ?_;refine ab<|fb<|aeb U ?_;refine wpAny_ite_split (λ_=>?_)<|λ_=>ax ⟨gp dn _,Ol j D hS G k st M T⟩;refine ab<|nc ?_;refine ab ?_;refine ab<|fE M rfl ?_;have B:=fR (Obj.mapSeq (·.push Value.none)) M rfl;refine fE B rfl ?_;refine ax ⟨gp dn _,Ol j D hS G k (st.at λc o r e=>?_) (fR (Obj.mapSeq (·.pop)) B rfl) λh' Y H C O N t Q=>?_⟩
 .have E:c≠S:=λy=>hS.ne r y.symm;exact(cb _ _<|b8 E).trans<|(cb _ _<|b8 E).trans e
 .refine T h' Y H C (λb o J n g q l e=>O b o J n g q l<|(cb _ _<|b8 J).trans<|(cb _ _<|b8 J).trans e) N ?_ Q;simp_all
def Qf (g:A.handled=none)(D:ZipApart z TI TO i1 i2 l1 l2)(N:xs.size=ys.size)(l:xs.size<=sizeLine)(st:Z0 z TI TO i1 i2 l1 l2 xs ys s.heap)
  (j:∀h' Y H J,(∀b o,b≠z->b≠TO->b≠i1->b≠i2->s.heap b=#[o]->h' b=#[o])->LstAt h' (~~~s) H J->Laid (~~~s+1) xs ys H h'->(!H)=xs.size->Q (.ref (~~~s)) {s with heap:=h',toks:=Y}):
  (prog\w) A (call (.type "list") [.ref z]) Q E s:=by
 refine callType_codes (Q₁:=λG C=>G=.ref (~~~s)/\C={s with heap:=s.heap.push {cls:=.type "list",data:=.seq #[]}}) PySem.F.called_list (PySem.F.typeCall_list_1 _) PySem.F.entry_list_init
  (code_list_new _ ⟨rfl,rfl⟩) λG C B=>?_
 let(rfl,rfl):=B;have hS:(s.heap.push {cls:=.type "list",data:=.seq #[]}) (~~~s)=some {cls:=.type "list",data:=.seq #[]}:=bj _ rfl;have lt:∀{b o},s.heap b=#[o]->s.heap.objs.size≠b:=λe=>kw<|bX e;let(a,b,p):=st.to;have I:Off (~~~s) z TI TO i1 i2 l1 l2:=(lt st.z,lt st.ti,lt p,(by let(_,e,_):=st.a;calc lt e),(by let(_,e,_):=st.b;calc lt e),(by let(_,e,_):=st.la;calc lt e),(by let(_,e,_):=st.lb;calc lt e));have U:Z0 z TI TO i1 i2 l1 l2 xs ys (s.heap.push {cls:=.type "list",data:=.seq #[]}):=st.at λc o _ e=>ay _ e;refine((_,hS,rfl),PySem.F.args_list_init_2 _ _,?_);refine ab ?_;refine ab<|da hS rfl<|ax ?_;refine ab<|fE hS rfl ?_;refine ab<|wpAny_letGo ?_;refine Z1 g D I N l (U.at λc o k e=>(cb _ _<|I.ne k).trans e) (fR (Obj.mapSeq<|λ_=>(#[])) hS rfl) λh' Y H J L f m M=>?_;refine⟨rfl,j h' Y H J (λb o n O q T e=>L b o (λy=>lt e y.symm) n O q T<|(cb _ _<|lt e).trans<|ay _ e) f ?_ M⟩;simp_all
end
end VZ
namespace L2
open PyProof.Rows
def putAll (H:Hp):¬(Addr×HO)->Hp
 |[]=>H
 |p::r=>upd (putAll H r) p.1 p.2
def Ad (h:Not (b∈ps.map (·.1))):putAll H ps b=H b:=by
 induction ps with
 |nil=>rfl
 |cons p r A=>rw[aS,aI,not_or] at h;show upd (putAll H r) p.1 p.2 b=_;rw[au h.1,A h.2]
def wW (nd:(ps.map (·.1)).Nodup)(h:p∈ps):putAll H ps p.1=#[p.2]:=by
 induction ps with
 |nil=>cases h
 |cons q r A=>
  rw[aS,bd] at nd;show upd (putAll H r) q.1 q.2 p.1=_;rcases aI.mp h with g|g
  .rw[g,ao]
  .rw[au λz=>nd.1 (by rw[<-z];calc cf g)];calc A nd.2 g
def Inv.lays (I:Inv X A G H s)(k:∀b u,s.heap b=#[u]->h' b=#[u])(sm:Same H E)(lo:∀b,b< ~~~s->E b=H b)
  (B:∀b o,~~~s<=b->E b=#[o]->gj X.prog X.w E h' b o):Inv X A G E {s with heap:=h',toks:=t'}:=by
 refine I.un ⟨λb u q _ _ _=>k b u q,λb u q _ _ _=>⟨u.slots,k b u q⟩,λb u q n _=>by rw[lo b<|bX q];calc n,λb u q _=>⟨u,k b u q⟩,λb D q=>sm _ _ q,λb u D q=>sm _ _ q⟩ λb u e=>?_;by_cases C:b<s.heap.objs.size
 .rw[lo b C] at e;exact(I.hok b u e).stay (λc v _ q=>k c v q) (λc q=>sm _ _ q) λc D q=>sm _ _ q
 .calc B b u (not_lt.mp C) e
theorem Om:∀I:¬Addr,Vals (I.map V.ref) (I.map Value.ref)
 |[]=>.nil
 |t::r=>.cons rfl<|Om r
def ajw (n G H:Nat)(h1:G<n)(h2:H<n):ZipApart (n+4) (n+2) (n+3) n (n+1) G H:=by constructor<;>(show(_)≠_)<;>lk
inductive ajx (K:Frag)(Q:VK)(vs:¬V)(H1:Hp):Prop
 |mk:∀a b xs ys,vs=[.ref a,.ref b]->aQ K H1 a xs->aQ K H1 b ys->(!xs)=!ys->(∀(z:Addr) (ts:¬Addr) (H2:Hp),Same H1 H2->H2 z=#[.lst<|ts.map V.ref]->(!ts)=!xs->(∀(j:Nat) t x y,ts[j]? =#[t]->xs[j]? =#[x]->ys[j]? =#[y]->H2 t=#[.tup [x,y]])->Q (.ref z) H2)->ajx K Q vs H1
def tLZ (K:Frag)(A:TA):TE:=λB H Q=>A B H λJ E=>ajx K Q J E
def Z2 (hgl:Gl X "list")(hml:X.mg "list"=none)(hg:Gl X "zip")(C:X.mg "zip"=none)(ha:PA X [l,L] ta)
  (hs:(starEach [l,L] X.env=[(false,eval l X.env),(false,eval L X.env)])∣0)(Y:(starEach [L] X.env=[(false,eval L X.env)])∣0)
  (he:(starEach [.Call (.Name "zip" p2) [l,L] [] B] X.env=[(false,eval (.Call (.Name "zip" p2) [l,L] [] B) X.env)])∣0):
  PE X (.Call (.Name "list" p) [.Call (.Name "zip" p2) [l,L] [] B] [] pos) (tLZ X.K ta):=by
 intro d s σ H Q I h;refine eR<|sG I hgl hml boot_list ?_;refine cy ?_;rw[he];refine kM ?_;refine Call_ (sG I hg C boot_zip (cy (aV (ha B d s σ H _ I h) ?_) (by rw[hs,Y]) (by rw[Y];rfl)));rintro us O ⟨vs,T,U,r1,q1⟩;let(a,b,xs,ys,e,hq,hq2,Zm,q):=q1;subst e;cases r1 with
 |cons r rr=>
  cases rr with
  |cons r2 rr=>
   cases rr;cases r;cases r2;let(its,rv,pl,hz):=U.list hq;let(m,f,M,hz2):=U.list hq2;have hl1:=!rv;have hl2:=!f;have la:a< ~~~O:=by let(_,e,_):=pl.isList;exact bX e
   have lb:b< ~~~O:=by let(_,e,_):=M.isList;exact bX e
   refine call_zip_2 pl.isList M.isList λJ g1 g2 g3 g4 g5 hsz hk=>?_;refine k0 ?_;have D:=ajw (~~~O) a b la lb;have st:VZ.Z0 (~~~O+4) (~~~O+2) (~~~O+3) (~~~O) (~~~O+1) a b its.toArray m.toArray J:=⟨g1,g2,⟨_,_,g3⟩,g4,g5,pl.isList.at λo e=>hk _ o e,M.isList.at λo e=>hk _ o e⟩;refine VZ.Qf U.ok.hd D (by simp;lk) (by simp;lk) st λh2 tk A c hk2 hL E htl=>?_;have k:=hsz;have G:∀{b:Addr}{o:Obj},O.heap b=#[o]->∀j:Nat,b≠O.heap.objs.size+j:=λ{b o} e j y=>by rw[y] at e;exact absurd (bX e)<|not_lt.mpr<|fq _ _
   have hk3:∀b o,O.heap b=#[o]->h2 b=#[o]:=λb o e=>hk2 b o (G e 4) (G e 3) (G e 0) (G e 1)<|hk b o e;have htx:(!A)=!xs:=by rw[htl];simp;lk
   let os:¬HO:=(xs.zip ys).map λp=>HO.tup [p.1,p.2];have hos:(!os)=!A:=by simp[os];lk
   have e1:(A.zip os).map (·.1)=A:=o4 ∅;have hnz:Not (J.objs.size∈A):=λC=>by have:=(E.lo _ C).1;exact Nat.not_succ_le_self _ this
   have z:∀t,t∈J.objs.size::A->O.heap.objs.size<=t:=λt ht=>by
    rcases aI.mp ht with g|g
    .rw[g,k];exact fq _ _
    .have h3:=(E.lo t g).1;rw[k] at h3;exact ck (fq _ 6) h3
   let N:¬(Addr×HO):=(J.objs.size,HO.lst<|A.map V.ref)::A.zip os;have w:N.map (·.1)=J.objs.size::A:=by erw[N,aS,e1]
   have nd:(N.map (·.1)).Nodup:=by rw[w];exact bd.mpr ⟨hnz,E.nd⟩
   have fr:∀t,t∈J.objs.size::A->T t=none:=λt ht=>U.hok.fresh<|z t ht;have sm:Same T (putAll T N):=λb o e=>by rw[Ad];calc e;rw[w];exact λC=>by rw[fr b C] at e;k_go
   have lo:∀b,b< ~~~O->putAll T N b=T b:=λb hb=>Ad (by rw[w];calc λC=>absurd hb<|not_lt.mpr<|z b C);have n:∀j t x y,A[j]? =#[t]->xs[j]? =#[x]->ys[j]? =#[y]->(t,HO.tup [x,y])∈N:=λj t x y a b c=>by refine ae _<|ag (i:=j) ?_;rw[du];refine⟨a,?_⟩;erw[os,ai,bq];exact⟨(x,y),du.mpr ⟨b,c⟩,rfl⟩
   refine⟨.ref J.objs.size,putAll T N,U.lays hk3 sm lo λb o hb e=>?_,rfl,q _ A _ sm (wW nd<|aa ..) htx λj t x y a b c=>wW nd<|n j t x y a b c⟩;by_cases C:b∈J.objs.size::A
   .rcases aI.mp C with g|g
    .rw[g,wW nd<|aa ..] at e;k_go;rw[g];refine⟨by rw[ac];lk,A.map Value.ref,c,Om A,hL⟩
    .let(j,ej):=dm g;let(u,v,eu,ev,hp):=E.it j b ej;let(x,ex,rx):=rv.at ‹eu›;let(y,ey,ry):=f.at ‹ev›;rw[wW nd<|n j b x y ej ex ey] at e;k_go;exact⟨by show 2<=sizeLine;decide,[u,v],.cons rx<|.cons ry .nil,⟨_,hp,rfl,_,rfl⟩⟩
   .rw[Ad (by rw[w];calc C),U.hok.fresh hb] at e;k_go
open PySem.W PySem.Calls
def Mg (d:Addr):Obj:={cls:=.type "dict_values",data:=.fields [.ref d].toArray}
def Ae (z d:Addr):HO:=HO.ext λh=>h z=#[Mg d]
section
inductive T6:V->¬V->Hp->VK->Prop
 |mk fU:H d=#[.dK fU]->(∀z,H z=none->Q (.ref z) (upd H z<|Ae z d))->T6 (.ref d) [] H Q
def aln:ug X "dict.values" T6:=by intro B s M H x J v E Q I L G q;let(D,C,q):=q;rename_i d;cases L;have A:=G.zero;subst A;let(z,hS,c,rel,N):=rK I.hok C;refine iX lL N.typeIs PySem.F.entry_dict_values (PySem.F.args_dict_values_1 _) (meets_dict_values (strKind X.prog X.w) _ hS) ⟨⟨c,N⟩,?_⟩;have e:(s.heap.push<|Mg d) (~~~s)=#[Mg d]:=bj _ rfl;calc⟨.ref _,_,I.laid (o:=Ae (~~~s) d) (λ_ _ q=>ay _ q) (av _) ⟨e,⟨_,e⟩,λh1 h2 a b=>b _ a⟩,rfl,q _ I.fresh⟩
def abN (I:PE X o A)(C:(attributeBase o "values" X.env (eval o X.env)=eval o X.env)∣0)(D:((B.endLine==G.line)=true)∣0):PE X (.Call (.Attribute o "values" B) [] [] G) (G6 X.K "dict" T6 A):=IW c9 lL PySem.F.type_dict_values aln I C D
inductive abO (xs:¬V)(H:Hp)(Q:VK):Prop
 |mk:∀z a fU,xs=[.ref z]->H z=#[Ae z a]->H a=#[.dK fU]->(∀l,H l=none->Q (.ref l) (upd H l<|.lst<|fU.map λkv=>kv.2))->abO xs H Q
def abP:dO X (.type "list") abO:=by
 intro O s w H n C Q I r h;let(z,a,E,rfl,M,U,q):=h;let(u,rfl,p):=vals1 r;cases p;let(g,hS,f,rel,T):=rK I.hok U;let(t,G):=T.dictAt;have N:=!rel;have J:=(I.hok z _ M).1;refine kdl_call (PySem.W.kdl_values) I.ok.hd ⟨⟨_,J,rfl,rfl⟩,G⟩ ∅ λb d B c Y hD A=>?_;have M:Vals (E.map λD=>D.2) B.toList:=by
  have L:∀{l:¬(Key×V)}{r:¬(Key×Value)} {C:¬Value},KV l r->(!C)=!r->(∀j v,C[j]? =#[v]->∃k,r[j]? =#[(k,v)])->Vals (l.map λD=>D.2) C:=λ{l r C} h=>by
   induction h generalizing C with
   |nil=>intro N _;cases C with
    |nil=>calc .nil
    |cons _ _=>cases N
   | @cons x y l r h _ m=>
    intro N M;cases C with
    |nil=>grind
    |cons u C=>refine .cons ?_ (m ‹N› λj v e=>M (j+1) v e);let(k,e):=M 0 u rfl;grind
  refine L rel (by rw[bt];calc A.1) λj v e=>A.2 j v (by rw[<-nb];calc e)
 calc⟨.ref (~~~s),_,I.laid (o:=.lst<|E.map λD=>D.2) Y (av _) ⟨by rw[ac];calc g,B.toList,c,M,by rw[hD]⟩,rfl,q _<|I.hok.fresh<|av _⟩
end
end L2
namespace Sp
def tot (f:Nat->A->Nat):Nat->¬A->Nat
 |_,[]=>0
 |i,x::D=>f i x+tot f (i+1) D
theorem Fp (f:Nat->A->Nat)(x:A):∀(xs:¬A) (i j:Nat) (y:A),xs[j]? =#[y]->tot f i (xs.set j x)+f (i+j) y=tot f i xs+f (i+j) x
 |[],i,j,y,h=>by simp at h
 |z::xs,i,0,y,h=>by
  have e:z=y:=‹h›
  subst e;erw[kf,tot,oQ];lk
 |z::xs,i,j+1,y,h=>by have B:=Fp f x xs (i+1) j y ‹h›;erw[kg,tot];lk
structure Lb where
 d:Int
 c:Nat
 fr:↑(Nat×Nat)
def near (d:Int)(c:Nat):↑Lb->Bool
 |none=>true
 |some l=>decide (d<l.d)||(decide (d=l.d) && decide (c<l.c))
def j9 (l:Lb)(d:Int)(c:Nat):Prop:=l.d<d\/(l.d=d/\l.c<=c)
def Z4 (h:near d c o=false):∃l,o=#[l]/\j9 l d c:=by
 cases o with
 |none=>simp[near] at h
 |some l=>refine(l,rfl,?_);erw[near,nv,l7,Bool.and_eq_false_iff] at h;delta j9;lk
structure RS where
 bx:¬(↑Lb)
 wait:¬Bool
 queue:¬Nat
 place:Nat
abbrev Mv:=Nat×Nat×Int
def relax (left:Nat->Int)(u:Nat)(d:Int)(c:Nat)(s:RS)(m:Mv):RS:=
  if 0<left m.1/\near (d+m.2.2) c (s.bx[m.2.1]?.getD none)=true then
    {s with bx:=s.bx.set m.2.1 #[(d+m.2.2,c,#[(m.1,u)])],
            wait:=if s.wait[m.2.1]?.getD false=true then s.wait else s.wait.set m.2.1 true,
            queue:=if s.wait[m.2.1]?.getD false=true then s.queue else s.queue++[m.2.1]}
  else s
def RS.room (s:RS):Nat:=s.queue[s.place]?.getD 0
def RS.at (s:RS):Lb:=((s.bx[s.room]?.getD none).getD (0,0,none))
def oR (left:Nat->Int)(A:Nat->¬Mv)(s:RS):RS:=
 (A s.room).foldl (relax left s.room s.at.d<|s.at.c+1) {s with place:=s.place+1,wait:=s.wait.set s.room false}
def RS.done (s:RS):Prop:=(!s.queue)<=s.place
inductive Ends (left:Nat->Int)(out:Nat->¬Mv):Nat->RS->RS->Prop
 |stop {s}:s.done->Ends left out 0 s s
 |go {m s t}:Not (s.done)->Ends left out m (oR left out s) t->Ends left out (m+1) s t
structure cM (n:Nat)(left:Nat->Int)(out:Nat->¬Mv)(π:Nat->Int):Prop where
 room:∀u m,m∈out u->m.2.1<n
 ne:∀u m,m∈out u->m.2.1≠u
 pay:∀u m,u<n->m∈out u->0<left m.1->π m.2.1<=π u+m.2.2
variable {st:Nat}
structure qm (n:Nat)(left:Nat->Int)(out:Nat->¬Mv)(π:Nat->Int)(st:Nat)(s:RS):Prop where
 pl:s.place<=!s.queue
 ll:(!s.bx)=n
 wl:(!s.wait)=n
 ql:∀v∈s.queue,v<n
 st0:s.bx[st]? =#[#[(0,0,none)]]
 lo:∀v l,s.bx[v]? =#[#[l]]->π v - π st<=l.d
 fr:∀v l,s.bx[v]? =#[#[l]]->v≠st->∃mv u x lu,l.fr=#[(mv,u)]/\u<n/\(mv,v,x)∈out u/\0<left mv/\s.bx[u]? =#[#[lu]]/\j9 (lu.d+x,lu.c+1,none) l.d l.c
 wq:∀v,s.wait[v]? =#[true]->v∈s.queue.drop s.place
 lq:∀v∈s.queue,∃l,s.bx[v]? =#[#[l]]
def af5 (left:Nat->Int)(s:RS)(l:Lb)(t:¬Mv):Prop:=
 ∀m∈t,0<left m.1->∃A,s.bx[m.2.1]? =#[#[A]]/\j9 A (l.d+m.2.2) (l.c+1)
structure oZ (n:Nat)(left:Nat->Int)(out:Nat->¬Mv)(π:Nat->Int)(st:Nat)(s:RS):Prop extends qm n left out π st s where
 rel:∀u l,s.bx[u]? =#[#[l]]->Not (u∈s.queue.drop s.place)->af5 left s l (out u)
def un (o:↑Lb):Nat:=if o.isNone then 1 else 0
def far (A:Nat->Int)(st v:Nat)(o:↑Lb):Nat:=match o with
 |none=>0
 |some l=>(l.d - (A v - A st)).toNat
def cnt (o:↑Lb):Nat:=match o with
 |none=>0
 |some l=>l.c
def mu (A:Nat->Int)(st:Nat)(s:RS):Nat×Nat×Nat:=(tot (λ_ o=>un o) 0 s.bx,tot (far A st) 0 s.bx,2*tot (λ_ o=>cnt o) 0 s.bx+((!s.queue) - s.place))
def L3 (a b:Nat×Nat×Nat):Prop:=a.1<b.1\/(a.1=b.1/\(a.2.1<b.2.1\/(a.2.1=b.2.1/\a.2.2<b.2.2)))
def L3.trans (h:L3 a b)(g:L3 b c):L3 a c:=by delta L3 at*;lk
def L3.wf:WellFounded L3:=by
 constructor;intro(a,b,c);induction a using Nat.strongRecOn generalizing b c with
 |ind a A=>
  induction b using Nat.strongRecOn generalizing c with
  |ind b B=>
   induction c using Nat.strongRecOn with
   |ind c C=>constructor;rintro⟨E,N,D⟩ h;erw[L3] at h;grind
def j9.trans (h:j9 a b.d b.c)(g:j9 b d c):j9 a d c:=by delta j9 at*;lk
def j9.refl (a:Lb):j9 a a.d a.c:=by delta j9;lk
def lZ {xs:¬A}(h:(xs.set i x)[j]? =#[y]):(j=i/\y=x/\i<!xs)\/(j≠i/\xs[j]? =#[y]):=by
 by_cases e:j=i
 .subst e;have N:=(af.mp h).1;rw[b6] at N;rw[be N] at h;exact .inl (rfl,(bm h).symm,N)
 .rw[bo<|b8 e] at h;calc .inr ⟨e,h⟩
structure oF (n:Nat)(left:Nat->Int)(out:Nat->¬Mv)(π:Nat->Int)(st:Nat)(s t:RS):Prop where
 ok:qm n left out π st t
 pl:t.place=s.place
 low:∀(v:Nat) (l:Lb),s.bx[v]? =#[#[l]]->∃l':Lb,t.bx[v]? =#[#[l']]/\j9 l' l.d l.c
 same:∀v:Nat,v∈t.queue.drop t.place\/t.bx[v]? =s.bx[v]?
 sub:∀v,v∈s.queue.drop s.place->v∈t.queue.drop t.place
 ms:mu π st t=mu π st s\/L3 (mu π st t) (mu π st s)
theorem oF.refl (h:qm n left A B st s):oF n left A B st s s:=(h,rfl,λv l e=>(l,e,j9.refl l),λ_=>.inr rfl,λ_ h=>h,.inl rfl)
theorem oF.trans (a:oF n left A B st s t)(b:oF n left A B st t r):oF n left A B st s r:=by
 refine(b.ok,b.pl.trans a.pl,λv l e=>?_,λv=>?_,λv h=>b.sub v<|a.sub v h,?_)
 .let(D,C,J):=a.low v l e;let(H,G,k):=b.low v D C;exact(H,G,k.trans J)
 .rcases b.same v with h|h
  .exact .inl h
  .rcases a.same v with g|g
   .exact .inl<|b.sub v g
   .exact .inr<|h.trans g
 .rcases a.ms with h|h
  .rw[<-h];exact b.ms
  .rcases b.ms with g|g
   .rw[g];exact .inr h
   .calc .inr<|g.trans h
def Af {u:Nat}(F:cM n left N G)(I:qm n left N G st s)(hu:u<n)(hl:s.bx[u]? =#[#[lu]])(p:m∈N u):
  oF n left N G st s (relax left u lu.d (lu.c+1) s m)/\(relax left u lu.d (lu.c+1) s m).bx[u]? =#[#[lu]]/\
   (0<left m.1->∃lv,(relax left u lu.d (lu.c+1) s m).bx[m.2.1]? =#[#[lv]]/\j9 lv (lu.d+m.2.2) (lu.c+1)):=by
 let(H,v,x):=m;have hvn:=F.room u _ p;have Y:=F.ne u _ p;have Q:v<!s.bx:=by rwa [I.ll]
 obtain⟨O,E⟩:∃o,s.bx[v]? =#[o]:=⟨_,ar Q⟩;obtain⟨y,j⟩:∃o,s.wait[v]? =#[o]:=⟨_,ar<|by rwa [I.wl]⟩;delta relax;erw[E,j,getD_some];by_cases g:0<left H/\near (lu.d+x) (lu.c+1) O=true
 .rw[ah g];let(L,D):=g;have ar9:=F.pay u (H,v,x) hu p L;have hlo:=I.lo u lu hl;have U:v≠st:=by intro e;subst e;rw[I.st0] at E;have J:=(bm E).symm;subst J;erw[near,gL,br,bc] at D;lk
  have b:∀z,z∈s.queue.drop s.place->z∈(if y=true then s.queue else s.queue++[v]).drop s.place:=λz C=>by
   split
   .exact C
   .rw[kt I.pl];exact dT _ C
  have T:v∈(if y=true then s.queue else s.queue++[v]).drop s.place:=by
   by_cases c:y=true
   .rw[ah c];exact I.wq v<|by rw[j,c]
   .rw[ap c,kt I.pl];exact ce _<|by simp
  have M:(s.bx.set v<|#[(lu.d+x,lu.c+1,#[(H,u)])])[v]? =#[#[(lu.d+x,lu.c+1,#[(H,u)])]]:=be Q;have B:∀z:Nat,z≠v->(s.bx.set v<|#[(lu.d+x,lu.c+1,#[(H,u)])])[z]? =s.bx[z]?:=λz C=>bo<|b8 C;have low:∀z (l:Lb),s.bx[z]? =#[#[l]]->∃r,(s.bx.set v<|#[(lu.d+x,lu.c+1,#[(H,u)])])[z]? =#[#[r]]/\j9 r l.d l.c:=λz l e=>by
   by_cases C:z=v
   .subst C;rw[E] at e;have J:=bm e;subst J;refine(_,M,?_);erw[near,gL,br,bc] at D;delta j9;lk
   .exact(l,by rwa [B z C],j9.refl l)
  refine(((?_,?_,?_,?_,?_,?_,?_,?_,?_),rfl,low,λz=>?_,b,?_),?_,λ_=>(_,M,?_))
  .split
   .exact I.pl
   .rw[aE];exact ck I.pl<|fq _ _
  .rw[b6];exact I.ll
  .split
   .exact I.wl
   .rw[b6];exact I.wl
  .intro z C;have A:=C;split at A
   .exact I.ql z A
   .rcases aT.mp A with h|h
    .exact I.ql z h
    .rwa [a7.mp h]
  .rw[B st<|b8 U];exact I.st0
  .intro z l e;rcases lZ (e) with⟨rfl,J,_⟩|⟨C,J⟩
   .cases J;lk
   .exact I.lo z l J
  .intro z l e d;rcases lZ (e) with⟨rfl,J,_⟩|⟨C,J⟩
   .cases J;exact(H,u,x,lu,rfl,hu,p,L,by show(s.bx.set z _)[u]? =_;rwa [B u<|b8 Y],by delta j9;k_ne;lk)
   .let(w,u',x',f,h1,h2,h3,h4,h5,h6):=I.fr z l J d;let(l2,g1,g2):=low u' f h5;refine(w,u',x',l2,h1,h2,h3,h4,g1,?_);delta j9 at*
    lk
  .intro z C;have A:=C;split at A
   .exact b z<|I.wq z A
   .rcases lZ A with⟨rfl,_,_⟩|⟨_,J⟩
    .exact T
    .exact b z<|I.wq z J
  .intro z C;have A:=C;have k:∀z:Nat,z∈s.queue->∃l,(s.bx.set v<|#[(lu.d+x,lu.c+1,#[(H,u)])])[z]? =#[#[l]]:=λz C=>by let(l,e):=I.lq z C;let(r,e',_):=low z l e;exact⟨r,e'⟩
   split at A
   .exact k z A
   .rcases aT.mp A with h|h
    .exact k z h
    .rw[a7.mp h];exact⟨_,M⟩
  .by_cases C:z=v
   .rw[C];exact .inl T
   .exact .inr<|B z C
  .
   have t:=Fp (λ_ o=>un o) #[(lu.d+x,lu.c+1,#[(H,u)])] s.bx 0 v O E;have a:=Fp (far G st) #[(lu.d+x,lu.c+1,#[(H,u)])] s.bx 0 v O E;have i:=Fp (λ_ o=>cnt o) #[(lu.d+x,lu.c+1,#[(H,u)])] s.bx 0 v O E;have lq:(!(if y=true then s.queue else s.queue++[v]))<=(!s.queue)+1:=by
    split
    .exact kA _
    .rw[aE];exact av _
   right;erw[mu,L3];erw[ii] at t a i;have z1:un #[(lu.d+x,lu.c+1,#[(H,u)])]=0:=rfl;have z3:cnt #[(lu.d+x,lu.c+1,#[(H,u)])]=lu.c+1:=rfl;have z2:far G st v #[(lu.d+x,lu.c+1,#[(H,u)])]=(lu.d+x - (G v - G st)).toNat:=rfl;rw[z1] at t;rw[z2] at a;rw[z3] at i;cases O with
   |none=>left;have y1:un none=1:=rfl;rw[y1] at t;lk
   |some l=>
    have l0:=I.lo v l E;erw[near,gL,br,bc] at D;right;have y1:un #[l]=0:=rfl;have y2:far G st v #[l]=(l.d - (G v - G st)).toNat:=rfl;have y3:cnt #[l]=l.c:=rfl;rw[y1] at t;rw[y2] at a;rw[y3] at i;refine⟨by lk,?_⟩;rcases D with h|⟨h,h'⟩
    .left;have e1:(lu.d+x - (G v - G st)).toNat<(l.d - (G v - G st)).toNat:=by lk
     lk
    .right;have e1:(lu.d+x - (G v - G st)).toNat=(l.d - (G v - G st)).toNat:=by rw[h]
     refine⟨by lk,?_⟩;have:=I.pl;lk
  .rwa [B u<|b8 Y]
  .delta j9;k_ne;lk
 .rw[ap g];refine⟨oF.refl I,hl,λh=>?_⟩;have hn:near (lu.d+x) (lu.c+1) O=false:=by
   cases e:near (lu.d+x) (lu.c+1) O with
   |false=>rfl
   |true=>exact absurd ⟨h,e⟩ g
  let(l,e,q):=Z4 hn;subst e;calc⟨l,E,q⟩
theorem T7 (F:cM n left A E)(f:u<n):∀(t:¬Mv) (s:RS),qm n left A E st s->s.bx[u]? =#[#[lu]]->(∀m∈t,m∈A u)->
  oF n left A E st s (t.foldl (relax left u lu.d<|lu.c+1) s)/\(t.foldl (relax left u lu.d<|lu.c+1) s).bx[u]? =#[#[lu]]/\af5 left (t.foldl (relax left u lu.d<|lu.c+1) s) lu t
 |[],s,I,N,_=>(oF.refl I,N,λ_ h=>nomatch h)
 |m::t,s,I,N,B=>by
  let(C,G,j):=Af F I f N<|B m aa;let(b1,b2,H):=T7 (lu:=lu) F f t _ C.ok G λU g=>B U<|ae _ g;refine(C.trans b1,b2,λU g D=>?_);rcases aI.mp g with rfl|g
  .let(M,e,q):=j D;let(L,J,k):=b1.low _ M e;exact(L,J,k.trans q)
  .calc H U g D
def drop_cons {xs:¬A}(h:xs[i]? =#[x]):xs.drop i=x::xs.drop (i+1):=by let(N,e):=af.mp h;rw[ec N,e]
def T8 {s:RS}(F:cM n left A C)(I:oZ n left A C st s)(g:Not (s.done)):oZ n left A C st (oR left A s)/\L3 (mu C st<|oR left A s) (mu C st s):=by
 have D:s.place<!s.queue:=by delta RS.done at g;lk
 have O:s.queue[s.place]? =#[s.room]:=by delta RS.room;rw[ar D];rfl
 have B:=ag O;let(H,N):=I.lq _ B;have G:s.at=H:=by delta RS.at;rw[N];rfl
 have L:=drop_cons O;have Q:qm n left A C st {s with place:=s.place+1,wait:=s.wait.set s.room false}:=by
  refine(D,I.ll,by show (!(s.wait.set s.room false))=n;rw[b6];calc I.wl,I.ql,I.st0,I.lo,I.fr,λv M=>?_,I.lq);rcases lZ (M) with⟨_,e,_⟩|⟨r,e⟩
  .k_go
  .have:=I.wq v e;rw[L] at this;rcases aI.mp this with z|z
   .exact absurd z r
   .exact z
 have U:oR left A s=(A s.room).foldl (relax left s.room H.d<|H.c+1) {s with place:=s.place+1,wait:=s.wait.set s.room false}:=by delta oR;rw[G]
 let(b1,b2,J):=T7 F (I.ql _ B) (A s.room) _ Q N λm h=>h;rw[<-U] at b1 b2 J;refine⟨{b1.ok with rel:=λv l e M=>?_},?_⟩
 .by_cases E:v=s.room
  .subst E;rw[b2] at e;k_go;exact J
  .have Y:(oR left A s).bx[v]? =s.bx[v]?:=by
    rcases b1.same v with z|z
    .exact absurd z M
    .exact z
   rw[Y] at e;have T:Not (v∈s.queue.drop s.place):=λz=>by
    rw[L] at z;rcases aI.mp z with z|z
    .exact E z
    .exact M<|b1.sub v z
   intro m p t;let(y,j,q):=I.rel v l e T m p t;let(u,k,c):=b1.low _ y j;exact(u,k,c.trans q)
 .have b:L3 (mu C st {s with place:=s.place+1,wait:=s.wait.set s.room false}) (mu C st s):=by refine .inr ⟨rfl,.inr ⟨rfl,?_⟩⟩;show 2*tot (λ_ o=>cnt o) 0 s.bx+((!s.queue) - (s.place+1))<2*tot (λ_ o=>cnt o) 0 s.bx+((!s.queue) - s.place);lk
  rcases b1.ms with z|z
  .rwa [z]
  .calc z.trans b
def ends (F:cM n left A B)(I:oZ n left A B st s):∃m t,Ends left A m s t/\oZ n left A B st t/\t.done:=by
 have D:∀a:Nat×Nat×Nat,∀s:RS,mu B st s=a->oZ n left A B st s->∃m t,Ends left A m s t/\oZ n left A B st t/\t.done:=λa=>by
  refine L3.wf.induction a (C:=λa=>∀s:RS,mu B st s=a->oZ n left A B st s->∃m t,Ends left A m s t/\oZ n left A B st t/\t.done) λa H s e I=>?_;by_cases G:s.done
  .exact(0,s,.stop G,I,G)
  .let(E,lt):=T8 F I G;let(m,t,h,q):=H _ (e▸lt) _ rfl E;exact(m+1,t,.go G h,q)
 calc D _ s rfl I
def lR (n st:Nat):RS:={bx:=(replicate n none).set st<|#[(0,0,none)],wait:=replicate n false,queue:=[st],place:=0}
def Dj (A:st<n):oZ n left D E st (lR n st):=by
 have C:∀v (l:Lb),((replicate n<|none).set st<|#[(0,0,none)])[v]? =#[#[l]]->v=st/\l=(0,0,none):=λv l e=>by
  rcases lZ e with⟨rfl,G,_⟩|⟨_,G⟩
  .cases G;exact⟨rfl,rfl⟩
  .rw[fI] at G;split at G<;>simp at G
 have L:((replicate n (none:↑Lb)).set st<|#[(0,0,none)])[st]? =#[#[(0,0,none)]]:=be ‹A›;refine⟨(cv _,by simp[lR],by simp[lR],λv M=>?_,L,λv l e=>?_,λv l e M=>?_,λv M=>?_,λv M=>?_),λv l e M=>?_⟩
 .have:v=st:=by simpa [lR] using M
  rwa [this]
 .let(rfl,rfl):=C v l e;lk
 .exact absurd (C v l e).1 M
 .have B:(replicate n false)[v]? =#[true]:=M;rw[fI] at B;split at B<;>simp at B
 .have:v=st:=by simpa [lR] using M
  rw[this];exact⟨_,L⟩
 .let(rfl,rfl):=C v l e;calc absurd (show v∈[v].drop 0 by simp) M
structure Tree (n:Nat)(left:Nat->Int)(out:Nat->¬Mv)(π:Nat->Int)(st:Nat)(bx:¬(↑Lb)):Prop where
 ll:(!bx)=n
 st0:bx[st]? =#[#[(0,0,none)]]
 fr:∀(v:Nat) (l:Lb),bx[v]? =#[#[l]]->v≠st->∃(mv u:Nat) (x:Int) (lu:Lb),l.fr=#[(mv,u)]/\u<n/\(mv,v,x)∈out u/\0<left mv/\bx[u]? =#[#[lu]]/\l.d=lu.d+x/\l.c=lu.c+1
 rel:∀(u:Nat) (l:Lb) (m:Mv),bx[u]? =#[#[l]]->m∈out u->0<left m.1->∃lv:Lb,bx[m.2.1]? =#[#[lv]]/\lv.d<=l.d+m.2.2
 lo:∀(v:Nat) (l:Lb),bx[v]? =#[#[l]]->π v - π st<=l.d
def ahe (I:oZ n left B Q st s)(N:s.done):Tree n left B Q st s.bx:=by
 have rel:∀u (l:Lb) (m:Mv),s.bx[u]? =#[#[l]]->m∈B u->0<left m.1->∃A,s.bx[m.2.1]? =#[#[A]]/\j9 A (l.d+m.2.2) (l.c+1):=λu l m e C D=>I.rel u l e (by rw[(mn N)];simp) m C D;refine(I.ll,I.st0,λv l e O=>?_,λu l m e C D=>?_,I.lo)
 .let(L,u,x,H,h1,h2,E,M,k,T):=I.fr v l e O;let(A,G,q):=rel u H (L,v,x) k E M;have J:=G;rw[e] at J;cases J;refine(L,u,x,H,h1,h2,E,M,k,?_);delta j9 at*
  lk
 .let(A,G,q):=rel u l m e C D;refine(A,G,?_);delta j9 at q;lk
end Sp
namespace Sp
theorem Dk [DecidableEq A]:∀{l m:¬A},l.Nodup->(∀x∈l,x∈m)->(!l)<=!m
 |[],_,_,_=>cv _
 |x::l,m,h,s=>by
  have B:x∈m:=s x aa;have h1:(!l)<=!(m.erase x):=Dk (bd.mp h).2 λy n=>by grind
  grind
def iW {l:¬Nat}(h:l.Nodup)(N:∀x∈l,x<n):(!l)<=n:=by have:=Dk h λx A=>gz.mpr<|N x A;rwa [ka] at this
def V7 {l:¬(Nat×Nat)}(h:l.Nodup)(N:∀x∈l,x.1<n/\x.2<n):(!l)<=n*n:=by
 have h2:(l.map λx=>x.1*n+x.2).Nodup:=by
  rw[List.Nodup,j3];refine List.Pairwise.imp_of_mem (λ{a b} G B r e=>r ?_) h;let(C,D):=N a G;let(b1,b2):=N b B;have J:a.1=b.1:=by
   rcases j1 a.1 b.1 with z|z|z
   .have:(a.1+1)*n<=b.1*n:=iE n z
    lk
   .exact z
   .have:(b.1+1)*n<=a.1*n:=iE n z
    lk
  grind
 have:=iW (n:=n*n) h2 λx A=>by
  let(a,G,rfl):=a6.mp A;let(C,D):=N a G
  have:(a.1+1)*n<=n*n:=iE n C
  lk
 grind
variable {st:Nat}
def qp (n:Nat)(G:Nat->Int)(B:¬(↑Lb))(v:Nat)(l:Lb):Prop:=
 ∃A:¬Nat,A.Nodup/\(!A)=l.c+1/\∀y∈A,y<n/\∃(D:Int) (C:Nat) (E:Lb),B[y]? =#[#[E]]/\j9 E D C/\G v<=G y+(l.d - D)/\C<=l.c
def Paths (n:Nat)(A:Nat->Int)(B:¬(↑Lb)):Prop:=∀v l,B[v]? =#[#[l]]->qp n A B v l
def qp.lt {B:¬(↑Lb)}(h:qp n D B v l):l.c<n:=by let(C,nd,N,h):=h;have:=iW nd λy A=>(h y A).1;lk
def qp.low (A:∀(v:Nat) (l:Lb),C[v]? =#[#[l]]->∃G:Lb,B[v]? =#[#[G]]/\j9 G l.d l.c)(h:qp n Q C v l):qp n Q B v l:=by let(E,nd,N,h):=h;refine(E,nd,N,λy L=>?_);let(h1,I,H,O,h2,J,M,k):=h y L;let(D,e,q):=A y O h2;calc(h1,I,H,D,e,q.trans J,M,k)
def qp.more (h:qp n L C u lu)(m:v<n)(O:L v<=L u+x)(D:near (lu.d+x) (lu.c+1) (C[v]?.getD none)=true)
  (A:∀(v:Nat) (l:Lb),C[v]? =#[#[l]]->∃Q:Lb,B[v]? =#[#[Q]]/\j9 Q l.d l.c)(G:B[v]? =#[#[(lu.d+x,lu.c+1,U)]]):qp n L B v (lu.d+x,lu.c+1,U):=by
 let(I,nd,j,h):=h;refine(v::I,bd.mpr ⟨λg=>?_,nd⟩,by rw[a8,j],λy E=>?_)
 .let(_,N,M,T,h2,J,Y,k):=h v g;rw[h2] at D;erw[getD_some,near,gL,br,bc] at D;delta j9 at J;lk
 .rcases aI.mp E with rfl|E
  .refine(m,lu.d+x,lu.c+1,_,G,.inr ⟨rfl,av _⟩,?_,av _);lk
  .let(h1,N,M,T,h2,J,Y,k):=h y E;let(H,e,q):=A y T h2;refine(h1,N,M,H,e,q.trans J,?_,?_)
   .omega
   .omega
structure QP (n:Nat)(p:Nat)(b:Nat)(s:RS)(Oo:¬Nat):Prop where
 len:(!Oo)=!s.queue
 lt:∀x∈Oo,x<n
 nd:(s.queue.zip Oo).Nodup
 old:∀(j:Nat) x,j<s.place->Oo[j]? =#[x]->x<=p
 T9:∀(j:Nat) x,s.place<=j->Oo[j]? =#[x]->p<=x/\x<=p+1
 srt:∀(i j:Nat) x y,s.place<=i->i<=j->Oo[i]? =#[x]->Oo[j]? =#[y]->x<=y
 cnt:∀(j:Nat) x v l,s.place<=j->Oo[j]? =#[x]->s.queue[j]? =#[v]->s.bx[v]? =#[#[l]]->x<=l.c
 wt:∀(j:Nat) v,b<=j->s.queue[j]? =#[v]->s.wait[v]? =#[true]
 one:∀(i j:Nat) v,s.place<=i->s.place<=j->s.queue[i]? =#[v]->s.queue[j]? =#[v]->i=j
def QP.bound {p b:Nat}(h:QP n p b s B)(T:∀v∈s.queue,v<n):(!s.queue)<=n*n:=by have:=V7 h.nd λx A=>⟨T _ (gS A).1,h.lt _ (gS A).2⟩;rw[gX,h.len,Nat.min_self] at this;calc this
def jE (h:(xs++[a])[j]? =#[x]):(j<!xs/\xs[j]? =#[x])\/(j=!xs/\x=a):=by
 by_cases Y:j<!xs
 .rw[bv Y] at h;exact .inl ⟨Y,h⟩
 .rw[cm ∅] at h
  have:j - (!xs)=0:=by
   by_cases z:j - (!xs)=0
   .exact z
   .rw[bg (by simp;lk)] at h;cases h
  rw[this] at h;calc .inr ⟨by lk,by simpa using h.symm⟩
def Ua (F:cM n left g c)(I:qm n left g c st s)(Q:QP n p s.place s C)(f:Paths n c s.bx)(hu:u<n)(hl:s.bx[u]? =#[#[lu]])(hm:m∈g u)(hp:p<=lu.c):
  ∃o,QP n p (relax left u lu.d (lu.c+1) s m).place (relax left u lu.d (lu.c+1) s m) o/\Paths n c (relax left u lu.d (lu.c+1) s m).bx:=by
 let(a1,_,_):=Af F I hu hl hm;let(H,v,x):=m;have hvn:=F.room u _ hm;have hvl:v<!s.bx:=by rwa [I.ll]
 have T:v<!s.wait:=by rwa [I.wl]
 by_cases r:0<left H/\near (lu.d+x) (lu.c+1) (s.bx[v]?.getD none)=true
 .have low:=a1.low;have e:relax left u lu.d (lu.c+1) s (H,v,x)={s with bx:=s.bx.set v<|#[(lu.d+x,lu.c+1,#[(H,u)])],wait:=if s.wait[v]?.getD false=true then s.wait else s.wait.set v true,queue:=if s.wait[v]?.getD false=true then s.queue else s.queue++[v]}:=by delta relax;rw[ah r]
  rw[e] at low ⊢;have E:(s.bx.set v<|#[(lu.d+x,lu.c+1,#[(H,u)])])[v]? =#[#[(lu.d+x,lu.c+1,#[(H,u)])]]:=be hvl;have PN:=(f u lu hl).more hvn (F.pay u _ hu hm r.1) r.2 low E;have N:Paths n c (s.bx.set v<|#[(lu.d+x,lu.c+1,#[(H,u)])]):=λw l ew=>by
   rcases lZ ew with⟨rfl,G,_⟩|⟨hne,G⟩
   .cases G;exact PN
   .exact(f w l G).low low
  have cn:=PN.lt;have D:∀j y w l,s.place<=j->C[j]? =#[y]->s.queue[j]? =#[w]->(s.bx.set v<|#[(lu.d+x,lu.c+1,#[(H,u)])])[w]? =#[#[l]]->y<=l.c:=λj y w l Y B G q=>by
   rcases lZ q with⟨rfl,d,_⟩|⟨hne,d⟩
   .cases d;have:=(Q.T9 j y Y B).2;lk
   .exact Q.cnt j y w l Y B G d
  by_cases t:s.wait[v]?.getD false=true
  .erw[t,dA];exact(C,(Q.len,Q.lt,Q.nd,Q.old,Q.T9,Q.srt,D,Q.wt,Q.one),N)
  .erw[t];have A:∀j,s.place<=j->s.queue[j]? ≠#[v]:=λj Y G=>by have:=Q.wt j v Y G;rw[this] at t;exact t rfl
   refine(C++[p+1],(?_,?_,?_,?_,?_,?_,?_,?_,?_),N)
   .show (!(C++[p+1]))=!(s.queue++[v]);rw[aE,aE,Q.len];rfl
   .intro y k;rcases aT.mp k with k|k
    .exact Q.lt y k
    .have:y=p+1:=‹k›
     lk
   .show((s.queue++[v]).zip<|C++[p+1]).Nodup;rw[List.zip_append Q.len.symm,d5];refine(Q.nd,by simp,λa ha b hb h=>?_);have hb':b=(v,p+1):=‹hb›
    subst hb';subst h;let(j,Y):=gi.mp ha;rw[du] at Y;by_cases hjp:s.place<=j
    .exact A j hjp Y.1
    .have:=Q.old j _ ∅ Y.2;simp at this;lk
   .intro j y Y G;rcases jE G with⟨_,G⟩|⟨G,_⟩
    .exact Q.old j y Y G
    .have h1:=I.pl;have h2:=Q.len;have hj':=Y;lk
   .intro j y Y G;rcases jE G with⟨_,G⟩|⟨_,G⟩
    .exact Q.T9 j y Y G
    .omega
   .intro i j y z O hij B G;rcases jE B with⟨h1,B⟩|⟨h1,B⟩
    .rcases jE G with⟨_,G⟩|⟨_,G⟩
     .exact Q.srt i j y z O hij B G
     .have:=(Q.T9 i y O B).2;lk
    .rcases jE G with⟨h2,G⟩|⟨_,G⟩
     .omega
     .omega
   .intro j y w l Y B G q;rcases jE B with⟨h1,B⟩|⟨h1,B⟩
    .rcases jE (G) with⟨_,G⟩|⟨h2,_⟩
     .exact D j y w l Y B G q
     .have:=Q.len;lk
    .rcases jE (G) with⟨h2,_⟩|⟨_,G⟩
     .have:=Q.len;lk
     .subst G;have L:=q;rw[E] at L;cases L;lk
   .intro j w Y G;show(s.wait.set v true)[w]? =#[true];rcases jE (G) with⟨_,G⟩|⟨_,G⟩
    .by_cases U:w=v
     .subst U;exact be T
     .rw[bo<|b8 U];exact Q.wt j w Y G
    .subst G;exact be T
   .intro i j w O Y B G;rcases jE (B) with⟨h1,M⟩|⟨h1,M⟩
    .rcases jE (G) with⟨_,J⟩|⟨_,J⟩
     .exact Q.one i j w O Y M J
     .rw[J] at M;exact absurd M<|A i O
    .rcases jE (G) with⟨_,J⟩|⟨h2,_⟩
     .rw[M] at J;exact absurd J<|A j Y
     .omega
 .have e:relax left u lu.d (lu.c+1) s (H,v,x)=s:=by delta relax;rw[ap r]
  rw[e];calc(C,Q,f)
theorem Ub (F:cM n left A E)(f:u<n)(H:p<=lu.c):∀(t:¬Mv) (s:RS) (B:¬Nat),qm n left A E st s->QP n p s.place s B->Paths n E s.bx->s.bx[u]? =#[#[lu]]->(∀m∈t,m∈A u)->
  ∃o,QP n p (t.foldl (relax left u lu.d<|lu.c+1) s).place (t.foldl (relax left u lu.d<|lu.c+1) s) o/\Paths n E (t.foldl (relax left u lu.d<|lu.c+1) s).bx
 |[],s,B,_,Q,C,_,_=>(B,Q,C)
 |m::t,s,B,I,Q,C,G,D=>by let(L,M,_):=Af F I f G<|D m aa;let(o,J,N):=Ua F I Q C f G (D m aa) H;calc Ub F f H t _ o L.ok J N M λU g=>D U<|ae _ g
def QI (n:Nat)(A:Nat->Int)(s:RS):Prop:=(∃p B,QP n p (s.place+1) s B)/\Paths n A s.bx
def QP.next (Q:QP n p (s.place+1) s C)(I:oZ n left M O st s)(L:s.queue[s.place]? =#[s.room])(A:C[s.place]? =#[T]):QP n T (s.place+1) {s with place:=s.place+1,wait:=s.wait.set s.room false} C:=by
 have E:=Q.T9 s.place T (av _) A;refine(Q.len,Q.lt,Q.nd,λj x Y e=>?_,λj x Y e=>?_,λi j x y N D B G=>Q.srt i j x y (by have:s.place+1<=i:=N;lk) D B G,λj x v l Y B G J=>Q.cnt j x v l (by have:s.place+1<=j:=Y;lk) B G J,λj v Y e=>?_,λi j v N Y B G=>Q.one i j v (by have:s.place+1<=i:=N;lk) (by have:=Y;lk) B G)
 .have H:=Y;by_cases z:j=s.place
  .omega
  .have:=Q.old j x ∅ e;lk
 .have H:=Y;refine⟨Q.srt s.place j T x (av _) ∅ A e,?_⟩;have:=(Q.T9 j x ∅ e).2;lk
 .have H:=Y;have r:v≠s.room:=λz=>by subst z;have:=Q.one j s.place s.room ∅ (av _) e L;lk
  rw[bo<|b8 r];calc Q.wt j v H e
def ahf (F:cM n left A L)(I:oZ n left A L st s)(g:QI n L s)(l:Not (s.done)):QI n L (oR left A s):=by
 let((p,G,Q),k):=g;have D:s.place<!s.queue:=by delta RS.done at l;lk
 have T:s.queue[s.place]? =#[s.room]:=by delta RS.room;rw[ar D];rfl
 have C:=ag T;let(H,O):=I.lq _ C;have M:s.at=H:=by delta RS.at;rw[O];rfl
 have U:qm n left A L st {s with place:=s.place+1,wait:=s.wait.set s.room false}:=by
  refine(D,I.ll,by show (!(s.wait.set s.room false))=n;rw[b6];calc I.wl,I.ql,I.st0,I.lo,I.fr,λv q=>?_,I.lq);rcases lZ (q) with⟨_,e,_⟩|⟨r,e⟩
  .k_go
  .have:=I.wq v e;rw[(drop_cons T)] at this;rcases aI.mp this with z|z
   .exact absurd z r
   .exact z
 have Y:oR left A s=(A s.room).foldl (relax left s.room H.d<|H.c+1) {s with place:=s.place+1,wait:=s.wait.set s.room false}:=by delta oR;rw[M]
 obtain⟨J,E⟩:∃J,G[s.place]? =#[J]:=⟨_,ar<|by rwa [Q.len]⟩;let(o,B,N):=Ub F (I.ql _ C) (Q.cnt s.place J s.room H (av _) E T O) (A s.room) _ G U (Q.next I T E) k O λm h=>h;rw[<-Y] at B N;calc⟨(J,o,(B.len,B.lt,B.nd,B.old,B.T9,B.srt,B.cnt,λj v t e=>B.wt j v ∅ e,B.one)),N⟩
def aec (C:st<n):QI n D (lR n st):=by
 have L:((replicate n (none:↑Lb)).set st<|#[(0,0,none)])[st]? =#[#[(0,0,none)]]:=be ‹C›;have I:∀v (l:Lb),((replicate n<|none).set st<|#[(0,0,none)])[v]? =#[#[l]]->v=st/\l=(0,0,none):=λv l e=>by
  rcases lZ e with⟨rfl,G,_⟩|⟨_,G⟩
  .cases G;exact⟨rfl,rfl⟩
  .rw[fI] at G;split at G<;>simp at G
 refine⟨(0,[0],(rfl,λx J=>?_,by simp[lR],λj x Y e=>?_,λj x Y e=>?_,λi j x y _ E B G=>?_,λj x v l _ B G N=>?_,λj v Y e=>?_,λi j v _ _ B G=>?_)),λv l e=>?_⟩
 .have:x=0:=‹J›
  lk
 .exact absurd Y<|kB _
 .have:x=0:=by
   cases j with
   |zero=>simpa using e.symm
   |succ j=>simp at e
  lk
 .have:x=0:=by
   cases i with
   |zero=>simpa using B.symm
   |succ i=>simp at B
  lk
 .have:x=0:=by
   cases j with
   |zero=>simpa using B.symm
   |succ j=>simp at B
  lk
 .have H:=Y;have A:([st]:¬Nat)[j]? =#[v]:=e;rw[bg (by simp;lk)] at A;cases A
 .have z:∀{k:Nat},([st])[k]? =#[v]->k=0:=λ{k} e=>by
   cases k with
   |zero=>rfl
   |succ k=>simp at e
  rw[z B,z G]
 .let(rfl,rfl):=I v l e;refine([v],by simp,rfl,λy M=>?_)
  have:y=v:=‹M›
  subst this;calc(C,0,0,_,L,.inr ⟨rfl,av _⟩,by show D y<=D y+(0 - 0);lk,av _)
end Sp
namespace Sp
structure aO where
 a:Nat
 b:Nat
 w:Int
 l:Int
structure aU (n:Nat)(ps:¬aO):Prop where
 ra:∀q∈ps,q.a<n
 rb:∀q∈ps,q.b<n
 ne:∀q∈ps,q.a≠q.b
 w1:∀q∈ps,1<=q.w
 l1:∀q∈ps,1<=q.l
def qX:Nat->¬aO->Nat->¬Mv
 |_,[],_=>[]
 |k,q::E,u=>(if q.a=u then [(2*k,q.b,q.l)] else [])++((if q.b=u then [(2*k+1,q.a,-q.l)] else [])++qX (k+1) E u)
def bH (ps:¬aO)(u:Nat):¬Mv:=qX 0 ps u
theorem Gu:∀{ps:¬aO}{k:Nat},m∈qX k ps u↔∃i q,ps[i]? =#[q]/\((q.a=u/\m=(2*(k+i),q.b,q.l))\/(q.b=u/\m=(2*(k+i)+1,q.a,-q.l)))
 |[],k=>by simp[qX]
 |q::ps,k=>by
  have A:=@Gu u m ps (k+1);erw[qX,aT];constructor
  .rintro(h|h|h)
   .split at h
    .rename_i e;exact(0,q,rfl,.inl ⟨e,by simpa using h⟩)
    .cases h
   .split at h
    .rename_i e;exact(0,q,rfl,.inr ⟨e,by simpa using h⟩)
    .cases h
   .let(i,L,e,r):=A.mp h;have G:k+1+i=k+(i+1):=by lk
    rw[G] at r;exact(i+1,L,by simpa using e,r)
  .rintro⟨i,L,e,r⟩;cases i with
   |zero=>
    have B:q=L:=‹e›
    subst B;rcases r with⟨h1,h2⟩|⟨h1,h2⟩
    .left;rw[ah h1];simpa using h2
    .right;left;rw[ah h1];simpa using h2
   |succ i=>
    right;right;have G:k+(i+1)=k+1+i:=by lk
    rw[G] at r;calc A.mpr (i,L,by simpa using e,r)
def fZ:m∈bH ps u↔∃i q,ps[i]? =#[q]/\((q.a=u/\m=(2*i,q.b,q.l))\/(q.b=u/\m=(2*i+1,q.a,-q.l))):=by delta bH;rw[Gu];simp
abbrev Lf:=Nat->Int
structure Laid (ps:¬aO)(left:Lf):Prop where
 nn:∀i,0<=left i
 sum:∀i q,ps[i]? =#[q]->left (2*i)+left (2*i+1)=q.w
def fB (f:Nat->aO->Int):Nat->¬aO->Int
 |_,[]=>0
 |k,q::E=>f k q+fB f (k+1) E
theorem vM (f g:Nat->aO->Int):∀(ps:¬aO) (k:Nat),fB (λi q=>f i q+g i q) k ps=fB f k ps+fB g k ps
 |[],_=>rfl
 |q::ps,k=>by erw[fB,vM f g ps<|k+1];lk
theorem jd:∀(ps:¬aO) (k:Nat),(∀i q,ps[i]? =#[q]->f (k+i) q=g (k+i) q)->fB f k ps=fB g k ps
 |[],_,_=>rfl
 |q::ps,k,h=>by
  erw[fB];have h2:=jd (f:=f) (g:=g) ps (k+1) λi L e=>by have:=h (i+1) L ‹e›;rwa [show k+(i+1)=k+1+i by lk] at this
  have:=h 0 q rfl;erw[oQ] at this;lk
theorem Mh:∀(ps:¬aO) (k:Nat),(∀i q,ps[i]? =#[q]->f (k+i) q<=g (k+i) q)->fB f k ps<=fB g k ps
 |[],_,_=>b7 _
 |q::ps,k,h=>by
  erw[fB];have h2:=Mh ps (k+1) λi L e=>by have:=h (i+1) L ‹e›;rwa [show k+(i+1)=k+1+i by lk] at this
  have:=h 0 q rfl;lk
theorem pB:∀(ps:¬aO) (k:Nat),fB (λ_ _=>0) k ps=0
 |[],_=>rfl
 |q::ps,k=>by have:=pB ps<|k+1;erw[fB];lk
theorem Ag:∀(ps:¬aO) (k j:Nat) (q:aO),ps[j]? =#[q]->(∀i L,ps[i]? =#[L]->i≠j->f (k+i) L=0)->fB f k ps=f (k+j) q
 |[],_,j,q,h,_=>by simp at h
 |p::ps,k,0,q,h,C=>by
  have e:p=q:=‹h›
  subst e;erw[fB,oQ]
  have:fB f (k+1) ps=0:=by rw[jd (g:=λ_ _=>0) ps (k+1) λi L e=>by have:=C (i+1) L ‹e› ∅;rwa [show k+(i+1)=k+1+i by lk] at this];exact pB ps<|k+1
  lk
 |p::ps,k,j+1,q,h,C=>by
  erw[fB];have A:=C 0 p rfl ∅;erw[oQ] at A;have:=Ag ps (k+1) j q ‹h› λi L e N=>by have:=C (i+1) L ‹e› ∅;rwa [show k+(i+1)=k+1+i by lk] at this
  lk
def b2 (p:Prop)[Decidable p]:Int:=if p then 1 else 0
def net (ps:¬aO)(left:Lf)(v:Nat):Int:=fB (λi q=>left (2*i+1)*(b2 (q.b=v) - b2 (q.a=v))) 0 ps
def cost (ps:¬aO)(left:Lf):Int:=fB (λi q=>left (2*i+1)*q.l) 0 ps
def fG (m:Nat):Nat:=if m % 2=0 then m+1 else m - 1
def move (p:Int)(left:Lf)(m:Nat):Lf:=λi=>if i=m then left i - p else if i=fG m then left i+p else left i
def jO (ps:¬aO)(m u v:Nat)(x:Int):Prop:=(m,v,x)∈bH ps u
def jO.cases (h:jO ps m u v x):∃i q,ps[i]? =#[q]/\((q.a=u/\q.b=v/\m=2*i/\x=q.l)\/(q.b=u/\q.a=v/\m=2*i+1/\x= -q.l)):=by
 let(i,q,e,h):=fZ.mp h;refine(i,q,e,?_);rcases h with⟨h1,h2⟩|⟨h1,h2⟩
 .injection h2 with a b;injection b with b c;exact .inl (h1,b.symm,a,c)
 .injection h2 with a b;injection b with b c;calc .inr (h1,b.symm,a,c)
def lB (i:Nat):fG (2*i)=2*i+1:=by delta fG;rw[ah ∅]
def rP (i:Nat):fG (2*i+1)=2*i:=by delta fG;rw[ap ∅];lk
def aed (h:jO ps m u v x):net ps (move p left m) z=net ps left z+p*(b2 (v=z) - b2 (u=z)):=by
 let(i,q,e,h):=h.cases;have B:net ps (move p left m) z - net ps left z=fB (λj q=>(move p left m (2*j+1) - left (2*j+1))*(b2 (q.b=z) - b2 (q.a=z))) 0 ps:=by delta net;have:=vM (λj q=>(move p left m (2*j+1) - left (2*j+1))*(b2 (q.b=z) - b2 (q.a=z))) (λj q=>left (2*j+1)*(b2 (q.b=z) - b2 (q.a=z))) ps 0;rw[jd (g:=λj q=>(move p left m (2*j+1) - left (2*j+1))*(b2 (q.b=z) - b2 (q.a=z))+left (2*j+1)*(b2 (q.b=z) - b2 (q.a=z))) ps 0 λj q _=>by rw[<-ir];congr 1;lk];rw[this];lk
 have C:=Ag (f:=λj q=>(move p left m (2*j+1) - left (2*j+1))*(b2 (q.b=z) - b2 (q.a=z))) ps 0 i q e λj L _ Y=>by
  have:move p left m (2*(0+j)+1)=left (2*(0+j)+1):=by
   delta move;rcases h with⟨_,_,rfl,_⟩|⟨_,_,rfl,_⟩
   .rw[ap ∅,lB,ap ∅]
   .rw[ap ∅,rP,ap ∅]
  rw[this,Int.sub_self,mx]
 rw[C] at B;erw[ii] at B;rcases h with⟨h1,h2,rfl,_⟩|⟨h1,h2,rfl,_⟩
 .have A:move p left (2*i) (2*i+1)=left (2*i+1)+p:=by delta move;rw[ap ∅,lB,ah rfl]
  rw[A,h1,h2] at B;rw[show left (2*i+1)+p - left (2*i+1)=p by lk] at B;lk
 .have A:move p left (2*i+1) (2*i+1)=left (2*i+1) - p:=by delta move;rw[ah rfl]
  rw[A,h1,h2] at B;rw[show left (2*i+1) - p - left (2*i+1)= -p by lk] at B;lk
def abR (h:jO ps m u v x):cost ps (move p left m)=cost ps left+p*x:=by
 let(i,q,e,h):=h.cases;have B:cost ps (move p left m) - cost ps left=fB (λj q=>(move p left m (2*j+1) - left (2*j+1))*q.l) 0 ps:=by delta cost;have:=vM (λj q=>(move p left m (2*j+1) - left (2*j+1))*q.l) (λj q=>left (2*j+1)*q.l) ps 0;rw[jd (g:=λj q=>(move p left m (2*j+1) - left (2*j+1))*q.l+left (2*j+1)*q.l) ps 0 λj q _=>by rw[<-ir];congr 1;lk];rw[this];lk
 have C:=Ag (f:=λj q=>(move p left m (2*j+1) - left (2*j+1))*q.l) ps 0 i q e λj L _ Y=>by
  have:move p left m (2*(0+j)+1)=left (2*(0+j)+1):=by
   delta move;rcases h with⟨_,_,rfl,_⟩|⟨_,_,rfl,_⟩
   .rw[ap ∅,lB,ap ∅]
   .rw[ap ∅,rP,ap ∅]
  rw[this,Int.sub_self,mx]
 rw[C] at B;erw[ii] at B;rcases h with⟨h1,h2,rfl,M⟩|⟨h1,h2,rfl,M⟩
 .have A:move p left (2*i) (2*i+1)=left (2*i+1)+p:=by delta move;rw[ap ∅,lB,ah rfl]
  rw[A,show left (2*i+1)+p - left (2*i+1)=p by lk] at B;rw[M];lk
 .have A:move p left (2*i+1) (2*i+1)=left (2*i+1) - p:=by delta move;rw[ah rfl]
  rw[A,show left (2*i+1) - p - left (2*i+1)= -p by lk] at B;rw[M,Int.mul_neg,←Int.neg_mul];lk
def aee (h:jO ps m u v x)(D:∀i q,ps[i]? =#[q]->left (2*i)+left (2*i+1)=q.w):∀i q,ps[i]? =#[q]->move p left m (2*i)+move p left m (2*i+1)=q.w:=by
 intro i q e;have:=D i q e;let(j,_,_,Y):=h.cases;have A:m=2*j\/m=2*j+1:=by rcases Y with⟨_,_,h,_⟩|⟨_,_,h,_⟩;calc .inl h;exact .inr h
 delta move;rcases A with rfl|rfl
 .rw[lB];lk
 .rw[rP];lk
def eY (B:¬(↑Lb)):Nat->Nat->¬Nat
 |0,_=>[]
 |c+1,v=>match B[v]? with
  |some #[l]=>(match l.fr with
   |some (H,u)=>H::eY B c u
   |none=>[])
  |_=>[]
variable {B:¬(↑Lb)}
def jO.uniq (h:jO ps m u v x)(g:jO ps m o E b):u=o/\v=E/\x=b:=by
 let(i,q,e,h):=h.cases;let(j,L,A,g):=g.cases;have Y:i=j:=by rcases h with⟨_,_,h,_⟩|⟨_,_,h,_⟩<;>rcases g with⟨_,_,g,_⟩|⟨_,_,g,_⟩<;>lk
 subst Y;rw[e] at A;cases A;rcases h with⟨h1,h2,D,M⟩|⟨h1,h2,D,M⟩<;>rcases g with⟨C,J,l,N⟩|⟨C,J,l,N⟩
 .exact(h1.symm.trans C,h2.symm.trans J,M.trans N.symm)
 .omega
 .omega
 .calc(h1.symm.trans C,h2.symm.trans J,M.trans N.symm)
def jO.back (h:jO ps m u v x):jO ps (fG m) v u (-x):=by
 let(i,q,e,h):=h.cases;refine fZ.mpr (i,q,e,?_);rcases h with⟨h1,h2,rfl,rfl⟩|⟨h1,h2,rfl,rfl⟩
 .rw[lB];exact .inr ⟨h2,by rw[h1]⟩
 .rw[rP];calc .inl ⟨h2,by rw[h1,Int.neg_neg]⟩
def HD (T:Tree n left (bH ps) D st B)(h:B[v]? =#[#[l]])(A:v≠st):
  ∃(mv u:Nat) (x:Int) (lu:Lb),l.fr=#[(mv,u)]/\u<n/\jO ps mv u v x/\0<left mv/\B[u]? =#[#[lu]]/\l.d=lu.d+x/\l.c=lu.c+1/\eY B l.c v=mv::eY B lu.c u:=by
 let(mv,u,x,lu,h1,h2,J,M,k,C,N):=T.fr v l h A;refine(mv,u,x,lu,h1,h2,J,M,k,C,N,?_);rw[N];erw[eY,h,h1]
def qY (T:Tree n left (bH ps) I st B){P:Nat->Lb->¬Nat->Prop}(L:P st (0,0,none) [])
  (G:∀(v:Nat) (l:Lb) (mv u:Nat) (x:Int) (lu:Lb) (t:¬Nat),B[v]? =#[#[l]]->v≠st->l.fr=#[(mv,u)]->jO ps mv u v x->0<left mv->B[u]? =#[#[lu]]->l.d=lu.d+x->l.c=lu.c+1->t=eY B lu.c u->P u lu t->P v l (mv::t)):
  ∀(v:Nat) (l:Lb),B[v]? =#[#[l]]->P v l (eY B l.c v):=by
 have A:∀c v (l:Lb),l.c=c->B[v]? =#[#[l]]->P v l (eY B l.c v):=λc=>by
  induction c with
  |zero=>
   intro v l E h;by_cases M:v=st
   .subst M;rw[T.st0] at h;cases h;exact L
   .let(mv,u,x,lu,_,_,_,_,_,_,N,_):=HD T h M;lk
  |succ c H=>
   intro v l E h;by_cases M:v=st
   .subst M;rw[T.st0] at h;cases h;exact L
   .let(mv,u,x,lu,h1,h2,J,C,k,D,N,O):=HD T h M;rw[O];exact G v l mv u x lu _ h M h1 J C k D N rfl<|H u lu ∅ k
 calc λv l h=>A l.c v l rfl h
def f9 (p:Int)(left:Lf)(t:¬Nat):Lf:=t.foldl (move p) left
def ahg (T:Tree n left (bH ps) E st B)(h:B[v]? =#[#[l]]):∀L:Lf,net ps (f9 p L<|eY B l.c v) z=net ps L z+p*(b2 (v=z) - b2 (st=z)):=by
 refine qY T (P:=λv _ t=>∀L:Lf,net ps (f9 p L t) z=net ps L z+p*(b2 (v=z) - b2 (st=z))) (λL=>?_) (λv l H u x D t _ _ _ A _ _ _ _ _ C L=>?_) v l h
 .show net ps L z=_;simp
 .show net ps (f9 p (move p L H) t) z=_;rw[C,aed A,nE,←ky];grind
def aef (T:Tree n left (bH ps) E st B)(h:B[v]? =#[#[l]]):∀L:Lf,cost ps (f9 p L<|eY B l.c v)=cost ps L+p*l.d:=by
 refine qY T (P:=λ_ l t=>∀L:Lf,cost ps (f9 p L t)=cost ps L+p*l.d) (λL=>?_) (λv l H u x D t _ _ _ A _ _ G _ _ C L=>?_) v l h
 .show cost ps L=_;simp
 .show cost ps (f9 p (move p L H) t)=_;rw[C,abR A,nE,←ky,G];grind
def ahh (T:Tree n left (bH ps) G st B)(h:B[v]? =#[#[l]]):∀L:Lf,(∀i q,ps[i]? =#[q]->L (2*i)+L (2*i+1)=q.w)->∀i q,ps[i]? =#[q]->f9 p L (eY B l.c v) (2*i)+f9 p L (eY B l.c v) (2*i+1)=q.w:=by refine qY T (P:=λ_ _ t=>∀L:Lf,(∀i q,ps[i]? =#[q]->L (2*i)+L (2*i+1)=q.w)->∀i q,ps[i]? =#[q]->f9 p L t (2*i)+f9 p L t (2*i+1)=q.w) (λL D=>D) (λv l E u x H t _ _ _ A _ _ _ _ _ C L D=>?_) v l h;calc C _<|aee A D
def Fq (T:Tree n left (bH ps) Q st B)(h:B[v]? =#[#[l]]):∀m∈eY B l.c v,∃(u w:Nat) (x:Int) (lu A:Lb),jO ps m u w x/\0<left m/\B[u]? =#[#[lu]]/\B[w]? =#[#[A]]/\A.d=lu.d+x/\1<=A.c/\A.c<=l.c:=by
 refine qY T (P:=λ_ l t=>∀m∈t,∃(u w:Nat) (x:Int) (lu A:Lb),jO ps m u w x/\0<left m/\B[u]? =#[#[lu]]/\B[w]? =#[#[A]]/\A.d=lu.d+x/\1<=A.c/\A.c<=l.c) (λ_ C=>nomatch C) (λv l N u x lu t M _ _ E H I G O _ J m C=>?_) v l h;rcases aI.mp C with rfl|C
 .exact(u,v,x,lu,l,E,H,I,M,G,by lk,av _)
 .let(o,w,L,D,A,a,b,c,d,e,f,g):=J m C;calc(o,w,L,D,A,a,b,c,d,e,f,by lk)
def Dl (T:Tree n left (bH ps) J st B)(h:B[v]? =#[#[l]]):(eY B l.c v).Nodup:=by refine qY T (P:=λ_ _ t=>t.Nodup) li (λv l H u x G t M _ _ A _ f _ O e D=>?_) v l h;refine bd.mpr ⟨λC=>?_,D⟩;subst e;let(o,w,b,E,I,a,_,_,d,_,_,g):=Fq T f H C;let(_,rfl,_):=A.uniq a;lk
theorem Xr (D:0<=p):∀(t:¬Nat) (L:Lf) (i:Nat),t.Nodup->L i - (if i∈t then p else 0)<=f9 p L t i
 |[],L,i,_=>by show L i - (if i∈([]:¬Nat) then p else 0)<=L i;simp
 |m::t,L,i,nd=>by have A:=(bd.mp nd).1;show _<=f9 p (move p L m) t i;refine fg ?_<|Xr D t (move p L m) i (bd.mp nd).2;delta move;grind
theorem Uc (D:0<=p):∀(t:¬Nat) (L:Lf) (i:Nat),0<f9 p L t i->0<L i\/∃m∈t,i=fG m
 |[],L,i,h=>.inl h
 |m::t,L,i,h=>by
  rcases Uc D t (move p L m) i h with h|⟨U,A,e⟩
  .delta move at h;by_cases e:i=m
   .rw[ah e] at h;left;lk
   .rw[ap e] at h;by_cases G:i=fG m
    .exact .inr (m,aa,G)
    .rw[ap G] at h;exact .inl h
  .calc .inr (U,ae _ A,e)
theorem above (f:Nat->↑Int):∀(n:Nat) (K:Int),∃C:Int,K<=C/\∀v y,v<n->f v=#[y]->y<=C
 |0,K=>(K,b7 _,λ_ _ h=>absurd h<|kB _)
 |n+1,K=>by
  let(C,h1,h2):=above f n K;cases e:f n with
  |none=>exact(C,h1,λv y M A=>by
   by_cases z:v=n
   .omega
   .calc h2 v y ∅ A)
  |some z=>exact(max C z,by lk,λv y M A=>by
   by_cases q:v=n
   .omega
   .have:=h2 v y ∅ A;lk)
def pays (z:aU n ps)(F:cM n left (bH ps) D)(T:Tree n left (bH ps) D st B)(g:∀m,0<L m->0<left m\/∃(r u w:Nat) (x:Int) (lu Q:Lb),m=fG r/\jO ps r u w x/\B[u]? =#[#[lu]]/\B[w]? =#[#[Q]]/\Q.d=lu.d+x)(K:Int):
  ∃A:Nat->Int,cM n L (bH ps) A/\A st=0/\(∀v l,B[v]? =#[#[l]]->A v=l.d)/\∀v,v<n->B[v]? =#[none]->K<=A v:=by
 let(U,d,hC):=above (λv=>match B[v]? with|some #[l]=>#[l.d - D v]|_=>none) n 0;let(C,k,J):=above (λv=>#[K - D v]) n U;refine(λv=>match B[v]? with|some #[l]=>l.d|_=>D v+C,(F.room,F.ne,λu m f E G=>?_),by erw[T.st0],λv l h=>by erw[h],λv M h=>?_)
 .let(N,v,x):=m;have M:=F.room u _ E;have lu:∃o,B[u]? =#[o]:=⟨_,ar<|by rwa [T.ll]⟩;have O:∃o,B[v]? =#[o]:=⟨_,ar<|by rwa [T.ll]⟩;let(p,H):=lu;let(t,I):=O;rcases g N G with G|⟨r,i,w0,x0,s,a,e,h1,h2,j,c⟩
  .have y:=F.pay u (N,v,x) f E G;cases p with
   |some l=>let(O,Y,q):=T.rel u l (N,v,x) H E G;erw[H];erw[Y];calc q
   |none=>
    erw[H];cases t with
    |none=>erw[I];lk
    |some l=>erw[I];have:=hC v (l.d - D v) M (by erw[I]);lk
  .have b:=h1.back;rw[<-e] at b;let(rfl,rfl,rfl):=b.uniq<|E;erw[h2,j];lk
 .erw[h];have:=J v (K - D v) M rfl;lk
end Sp
namespace Sp
variable {bx:¬(↑Lb)}
def Ends.uniq (h:Ends left B m s t)(g:Ends left B U s t'):t=t'/\m=U:=by
 induction h generalizing U with
 |stop h=>
  cases g with
  |stop _=>calc⟨rfl,rfl⟩
  |go A _=>calc absurd h A
 |go h _ C=>
  cases g with
  |stop A=>calc absurd A h
  |go _ b=>let(h1,h2):=C b;calc⟨h1,by rw[h2]⟩
inductive Found (n:Nat)(ps:¬aO)(st:Nat)(left:Lf)(bx:¬(↑Lb)):Prop
 |mk:∀m t,Ends left (bH ps) m (lR n st) t->t.bx=bx->Found n ps st left bx
theorem Found.uniq (h:Found n ps st left bx)(g:Found n ps st left B):bx=B:=by let(_,_,a,rfl):=h;let(_,_,b,rfl):=g;rw[(a.uniq b).1]
def aU.room (z:aU n ps):∀u m,m∈bH ps u->m.2.1<n:=λu m A=>by
 let(i,q,e,h):=fZ.mp A;have:=ag e;rcases h with⟨_,rfl⟩|⟨_,rfl⟩
 .exact z.rb q this
 .calc z.ra q this
def aU.Xu (A:aU n ps):∀u m,m∈bH ps u->m.2.1≠u:=λu m B=>by
 let(i,q,e,h):=fZ.mp B;have:=A.ne q<|ag e;rcases h with⟨h1,rfl⟩|⟨h1,rfl⟩
 .rw[<-h1];exact λz=>this z.symm
 .rwa [<-h1]
def jP (F:cM n left (bH ps) A)(C:st<n)(h:Found n ps st left bx):Tree n left (bH ps) A st bx:=by let(m,t,h,rfl):=h;let(U,M,g,I,G):=ends F<|Dj C;let(rfl,rfl):=h.uniq g;calc ahe I G
def finds (F:cM n left (bH ps) A)(C:st<n):∃bx,Found n ps st left bx:=by let(U,M,g,I,G):=ends F<|Dj C;calc(_,U,M,g,rfl)
structure Pushed (n:Nat)(ps:¬aO)(st g:Nat)(left:Lf)(len p:Int)(Rc:Lf):Prop where
 ex:∃bx l,Found n ps st left bx/\bx[g]? =#[#[l]]/\len=l.d/\(∃m∈eY bx l.c g,p=left m)/\(∀m∈eY bx l.c g,p<=left m)/\Rc=f9 p left (eY bx l.c g)
structure St (n:Nat)(ps:¬aO)(st:Nat)(left:Lf)(π:Nat->Int):Prop where
 laid:Laid ps left
 fit:cM n left (bH ps) π
 z:π st=0
def ahi (T:Tree n left (bH ps) B st bx)(N:bx[g]? =#[#[l]])(D:∃m∈eY bx l.c g,p=left m):0<p:=by let(m,A,rfl):=D;let(_,_,_,_,_,_,h,_):=Fq T N m A;calc h
def m6 (H:aU n ps)(S:St n ps st left j)(G:st<n)(P:Pushed n ps st g left len p A):
  0<p/\j g<=len/\(∃B,St n ps st A B/\B g=len)/\(∀z,net ps A z=net ps left z+p*(b2 (g=z) - b2 (st=z)))/\cost ps A=cost ps left+p*len:=by
 let(bx,l,t,N,rfl,O,C,rfl):=P.ex;have T:=jP S.fit G t;have Q:=ahi T N O;have lo:=T.lo g l N;rw[S.z] at lo;let(B,J,y,L,_):=pays H S.fit T (λm M=>by
  rcases Uc (hZ Q) _ left m M with h|⟨r,E,e⟩
  .exact .inl h
  .let(u,w,x,U,Y,a,_,c,d,I,_,_):=Fq T N r E;calc .inr (r,u,w,x,U,Y,e,a,c,d,I)) 0
 refine(Q,by lk,(B,(⟨λi=>?_,ahh T N left S.laid.sum⟩,J,y),L g l N),λz=>ahg T N left,aef T N left);have h:=Xr (hZ Q) (eY bx l.c g) left i<|Dl T N;have h2:=S.laid.nn i;by_cases D:i∈eY bx l.c g
 .rw[ah D] at h;have:=C i D;lk
 .rw[ap D] at h;lk
inductive Runs (n:Nat)(ps:¬aO)(st g:Nat)(Xv:↑Int):Lf->¬(Int×Int)->Lf->Prop
 |none {left:Lf} {bx:¬(↑Lb)}:Found n ps st left bx->bx[g]? =#[none]->Runs n ps st g Xv left [] left
 |far {left:Lf} {bx:¬(↑Lb)} {l:Lb} {T:Int}:Found n ps st left bx->bx[g]? =#[#[l]]->Xv=#[T]->T<l.d->Runs n ps st g Xv left [] left
 |go {left Rc abS:Lf} {len p:Int} {r:¬(Int×Int)}:Pushed n ps st g left len p Rc->(∀T,Xv=#[T]->len<=T)->Runs n ps st g Xv Rc r abS->Runs n ps st g Xv left ((len,p)::r) abS
def many (r:¬(Int×Int)):Int:=(r.map (·.2)).sum
def spent (r:¬(Int×Int)):Int:=(r.map λx=>x.2*x.1).sum
def Mi (J:aU n ps)(D:st<n)(R:Runs n ps st g G left r A)(S:St n ps st left C):
  (∃H,St n ps st A H)/\(∀z,net ps A z=net ps left z+many r*(b2 (g=z) - b2 (st=z)))/\cost ps A=cost ps left+spent r/\(∀x∈r,0<x.2/\C g<=x.1/\∀T,G=#[T]->x.1<=T)/\r.Pairwise (λx y=>x.1<=y.1):=by
 induction R generalizing C with
 |none _ _=>calc(⟨C,S⟩,λz=>by simp[many],by simp[spent],λ_ h=>(nomatch h),.nil)
 |far _ _ _ _=>calc(⟨C,S⟩,λz=>by simp[many],by simp[spent],λ_ h=>(nomatch h),.nil)
 | @go left E A len p r P N R O=>
  let(U,lo,(l,L,I),Q,M):=m6 J S D P;let(a,b,c,d,e):=O L;refine(a,λz=>?_,?_,λx B=>?_,List.Pairwise.cons (λx B=>?_) e)
  .rw[b z,Q z,nE,←ir];simp[many]
  .rw[c,M,nE];simp[spent]
  .rcases aI.mp B with rfl|B
   .exact(U,lo,N)
   .let(Y,k,j):=d x B;rw[I] at k;exact(Y,by lk,j)
  .have:=(d x B).2.1;rw[I] at this;calc this
theorem cM.min (D:cM n L A p)(T:cM n L A q):cM n L A λv=>min (p v) (q v):=
 (D.room,D.ne,λu m f B h=>by have:=D.pay u m f B h;have:=T.pay u m f B h;lk)
def cM.shift (k:Int)(D:cM n L A p):cM n L A λv=>p v+k:=
 (D.room,D.ne,λu m f B h=>by have:=D.pay u m f B h;lk)
def Z5 (z:aU n ps)(E:st<n)(j:g<n)(R:Runs n ps st g #[T] left r B)(S:St n ps st left C):
  ∃A,cM n B (bH ps) A/\A st=0/\T+1<=A g/\((r≠[]\/C g<=T)->A g=T+1):=by
 induction R generalizing C with
 | @none left bx t o=>
  have Q:=jP S.fit E t;let(A,J,y,L,M):=pays z S.fit Q (λm G=>.inl G)<|T+1;have O:=M g j o;by_cases D:C g<=T
  .refine(λv=>min (A v)<|C v+(T+1 - C g),J.min<|S.fit.shift _,?_,?_,λ_=>?_)
   .erw[y,S.z];lk
   .simp only;lk
   .simp only;lk
  .refine(A,J,y,O,λh=>?_);rcases h with h|h
   .exact absurd rfl h
   .calc absurd h D
 | @far left bx l q t N Y k=>
  cases Y;let(A,J,y,L,M):=pays z S.fit (jP S.fit E t) (λm G=>.inl G) 0;have O:=L g l N;by_cases D:C g<=T
  .refine(λv=>min (A v)<|C v+(T+1 - C g),J.min<|S.fit.shift _,?_,?_,λ_=>?_)
   .erw[y,S.z];lk
   .simp only;lk
   .simp only;lk
  .refine(A,J,y,by lk,λh=>?_);rcases h with h|h
   .exact absurd rfl h
   .calc absurd h D
 |go P N R p=>
  let(s,lo,(H,I,U),f,u):=m6 z S E P;let(A,a,b,c,d):=p I
  have:H g<=T:=by rw[U];exact N T rfl
  calc(A,a,b,c,λ_=>d<|.inr this)
def aeg (R:Runs n ps st g none left r B):∃A,Runs n ps st g #[T] left (r.takeWhile λx=>decide<|x.1<=T) A:=by
 induction R with
 |none t E=>calc⟨_,.none t E⟩
 |far _ _ J _=>lk
 | @go left A B len p r P N R G=>
  by_cases h:len<=T
  .let(H,D):=G;refine⟨H,?_⟩;rw[kT<|‹h›];exact .go P (λI e=>by k_go;calc h) D
  .let(bx,l,t,C,e,_):=P.ex;refine⟨left,?_⟩;rw[kU<|‹h›];calc .far t C rfl ∅
def gw (ps:¬aO):Lf:=λi=>if i % 2=0 then(match ps[i/2]? with|some q=>q.w|none=>0) else 0
def Z6 (ps:¬aO)(i:Nat)(h:ps[i]? =#[q]):gw ps (2*i)=q.w:=by delta gw;rw[ah ∅,show 2*i/2=i by lk,h]
def sZ (ps:¬aO)(i:Nat):gw ps (2*i+1)=0:=by delta gw;rw[ap ∅]
def yN (z:aU n ps):St n ps st (gw ps) (λv=>if v=st then 0 else 1):=by
 refine(⟨λi=>?_,λi q e=>by rw[Z6 ps i e,sZ];lk⟩,(z.room,z.Xu,λu m f A D=>?_),by simp)
 .delta gw;split
  .split
   .rename_i q e;have:=z.w1 q<|ag e;lk
   .simp
  .simp
 .let(i,q,e,h):=fZ.mp A;have h1:=z.l1 q<|ag e;rcases h with⟨_,rfl⟩|⟨_,rfl⟩
  .omega
  .exfalso;have:=sZ ps i;lk
def wide (ps:¬aO):Int:=fB (λ_ q=>q.w) 0 ps
def ahj (L:Laid ps left)(z:Nat): - wide ps<=net ps left z/\net ps left z<=wide ps:=by
 have C:∀p [Decidable p],b2 p=0\/b2 p=1:=λp _=>by delta b2;split;calc .inr rfl;exact .inl rfl
 have B:∀i q,ps[i]? =#[q]→-q.w<=left (2*i+1)*(b2 (q.b=z) - b2 (q.a=z))/\left (2*i+1)*(b2 (q.b=z) - b2 (q.a=z))<=q.w:=λi q e=>by have h1:=L.sum i q e;have h2:=L.nn<|2*i;have J:=L.nn<|2*i+1;rcases C (q.b=z) with A|A<;>rcases C (q.a=z) with G|G<;>rw[A,G]<;>lk
 constructor
 .have h:=Mh ps 0 λi q e=>by simpa using(B i q e).1
  have e:fB (λ_ q=>-q.w) 0 ps= - wide ps:=by have:=vM (λ_ q=>-q.w) (λ_ q=>q.w) ps 0;rw[jd (g:=λ_ _=>0) ps 0 λi q _=>by lk,pB] at this;delta wide;lk
  delta net;lk
 .calc Mh ps 0 λi q e=>by simpa using(B i q e).2
def rest (ps:¬aO)(g:Nat)(left:Lf):Nat:=(wide ps - net ps left g).toNat
def abT (z:aU n ps)(S:St n ps st left H)(C:st<n)(r:st≠g)(P:Pushed n ps st g left len p A):rest ps g A<rest ps g left:=by
 let(U,_,(l,B,_),E,_):=m6 z S C P;have h1:=E g;have h2:=(ahj B.laid g).2;have D:b2 (g=g)=1:=by simp[b2]
 have G:b2 (st=g)=0:=by simp[b2,r]
 rw[D,G] at h1;delta rest;lk
end Sp
namespace Sp
def eO (s:¬(Int×Int))(x:Int×Int):¬(Int×Int):=match s.getLast? with
 |some y=>if y.1=x.1 then s.dropLast++[(x.1,y.2+x.2)] else s++[x]
 |none=>s++[x]
def grouped (r:¬(Int×Int)):¬(Int×Int):=r.foldl eO []
def wsum (I:Int->Int)(r:¬(Int×Int)):Int:=(r.map λx=>x.2*I x.1).sum
def jQ (T:Int)(G:¬(Int×Int)):Int:=wsum (λl=>if l<=T then T+1 - l else 0) G
def rQ (I:Int->Int)(a b:¬(Int×Int)):wsum I (a++b)=wsum I a+wsum I b:=by simp[wsum]
def Ah (I:Int->Int)(x:Int×Int):wsum I [x]=x.2*I x.1:=by simp[wsum]
def pF (I:Int->Int)(x:Int×Int)(r:¬(Int×Int)):wsum I (x::r)=x.2*I x.1+wsum I r:=by simp[wsum]
theorem uG:∀{s:¬A}{y:A},s.getLast? =#[y]->s=s.dropLast++[y]
 |[],_,h=>by simp at h
 |[a],y,h=>by
  have:a=y:=‹h›
  rw[this];rfl
 |a::b::r,y,h=>by show a::b::r=a::((b::r).dropLast++[y]);rw[<-(uG (s:=b::r) (y:=y)<|‹h›)]
def V8 (I:Int->Int)(s:¬(Int×Int))(x:Int×Int):wsum I (eO s x)=wsum I s+x.2*I x.1:=by
 delta eO;cases e:s.getLast? with
 |none=>simp only;rw[rQ,Ah]
 |some y=>
  simp only;split
  .rename_i h;have J:wsum I s=wsum I s.dropLast+y.2*I y.1:=by rw[<-Ah,←rQ,←(uG e)]
   rw[rQ,Ah,J,h,ir];lk
  .rw[rQ,Ah]
def Gv (I:Int->Int)(r:¬(Int×Int)):wsum I (grouped r)=wsum I r:=by
 have B:∀r s,wsum I (r.foldl eO s)=wsum I s+wsum I r:=λr=>by
  induction r with
  |nil=>intro s;simp[wsum]
  |cons x r A=>intro s;rw[g9,A,V8,pF];lk
 delta grouped;rw[B];simp[wsum]
structure qt (s:¬(Int×Int)):Prop where
 up:s.Pairwise λx y=>x.1<y.1
 pos:∀x∈s,1<=x.1/\1<=x.2
def Ud (R:qt s)(I:1<=x.1/\1<=x.2)(N:∀y∈s,y.1<=x.1):qt (eO s x)/\∀y∈eO s x,y.1<=x.1:=by
 delta eO;cases e:s.getLast? with
 |none=>
  have:s=[]:=‹e›
  subst this;have C:∀y,y∈([])++[x]->y=x:=λy n=>‹n›
  refine⟨⟨by simp,λy n=>?_⟩,λy n=>?_⟩
  .rwa [C y n]
  .rw[C y n];calc b7 _
 |some y=>
  have A:=uG e;have n:y∈s:=by rw[A];simp
  have E:=R.up;rw[A,iF] at E;let(H,_,D):=E;simp only;split
  .rename_i h;refine⟨⟨iF.mpr (H,by simp,λa G b B=>?_),λa G=>?_⟩,λa G=>?_⟩
   .have:b=(x.1,y.2+x.2):=‹B›
    rw[this,←h];exact D a G y<|by simp
   .rcases aT.mp G with G|G
    .exact R.pos a (by rw[A];calc dT _ G)
    .have:a=(x.1,y.2+x.2):=‹G›
     have:=R.pos y n;subst a;simp only;lk
   .rcases aT.mp G with G|G
    .exact N a (by rw[A];calc dT _ G)
    .have:a=(x.1,y.2+x.2):=‹G›
     rw[this];exact b7 _
  .rename_i h;refine⟨⟨iF.mpr (R.up,by simp,λa G b B=>?_),λa G=>?_⟩,λa G=>?_⟩
   .have:b=x:=‹B›
    rw[this];have h1:=N a G;have h2:=N y n;rw[A] at G;rcases aT.mp G with G|G
    .have:=D a G y 's';lk
    .have:a=y:=‹G›
     rw[this];lk
   .rcases aT.mp G with G|G
    .exact R.pos a G
    .have:a=x:=‹G›
     rwa [this]
   .rcases aT.mp G with G|G
    .exact N a G
    .have:a=x:=‹G›
     rw[this];calc b7 _
theorem vO:∀(r s:¬(Int×Int)),r.Pairwise (λx y=>x.1<=y.1)->(∀x∈r,1<=x.1/\1<=x.2)->qt s->(∀x∈r,∀y∈s,y.1<=x.1)->qt (r.foldl eO s)
 |[],_,_,_,R,_=>R
 |x::r,s,D,A,R,N=>by let(h1,h2):=Ud R (A x aa)<|N x aa;let(M,m):=fz.mp D;refine vO r _ m (λy n=>A y<|ae _ n) h1 λy n z C=>?_;have:=h2 z C;have:=M y n;lk
theorem Ue:∀(r:¬(Int×Int)),r.Pairwise (λx y=>x.1<=y.1)->wsum (λl=>if l<=T then T+1 - l else 0) r=wsum (λl=>T+1 - l) (r.takeWhile λx=>decide<|x.1<=T)
 |[],_=>rfl
 |x::r,D=>by
  let(M,m):=fz.mp D;by_cases h:x.1<=T
  .rw[kT<|‹h›,pF,pF,ah h,Ue r m]
  .rw[kU<|‹h›]
   have:∀(r:¬(Int×Int)),(∀y∈r,Not (y.1<=T))->wsum (λl=>if l<=T then T+1 - l else 0) r=0:=λr=>by
    induction r with
    |nil=>intro _;rfl
    |cons y r A=>intro n;rw[pF,ap<|n y aa,A λz C=>n z<|ae _ C];lk
   rw[this (x::r) λy n=>by
    grind]
   rfl
end Sp
local macro_rules | `(tactic| walk_at "e3")=>do
 let a<-lsQ "yp qP ig QL QM Cp uN Jm Jo Cz QC Jp El Jq Jr CG QD Js eU Em Eo Ep Jt Ju Jv Jw Jx Jy zK Hs Lq QF Er Zx QG a0 Jz QH QJ QK Zy g0 zL Es wH zM wI zN Et ux wJ zO Qz Ez JH JB Eu JC QS QT kj uy JD QV Ew JF cJ pR gq gEx gN gT JG uO QW yr Ey Zz Sg gO d8 qN qO oM cI pQ Zo Zq jC EY JN Q6 JQ JR vN vF vC vB u9 R4 Hj sU mU aW oN oI xG Lg Ze oX fP dD cL iG Ho rG Qp Qq tU zQ Fb uz wK nG Hq cP qM uw Qs zF Ci nH iV vo c7 JK JL QX QZ Q0 Q5 JM Qv Qw Int.reduceToNat reducePow Qx Jj jk length_cons length_nil map_cons map_nil replicate cons_append nil_append append_nil getElem?_cons_zero getElem?_cons_succ set_cons_zero set_cons_succ reduceAdd reduceSub Nat.reduceLeDiff Nat.reduceEqDiff Bool.and_true Bool.true_and Bool.not_true Bool.not_false false_eq_true if_true if_false"
 `(tactic| try simp only[$a,*,↓reduceIte])
set_option hygiene false in
local macro_rules | `(tactic| walk_at "e4")=>do
 let a<-lsQ "yp qP ig QL QM Cp uN Jm Jo Cz QC Jp El Jq Jr CG QD Js eU Em Eo Ep Jt Ju Jv Jw Jx Jy zK Hs Lq QF Er Zx QG a0 Jz QH QJ QK Zy g0 zL Es wH zM wI zN Et ux wJ zO Qz Ez JH JB Eu JC QS QT kj uy JD QV Ew JF cJ pR gq gEx gN gT JG uO QW yr Ey Zz Sg gO d8 qN qO oM cI pQ Zo Zq jC EY JN Q6 JQ JR vN vF vC vB u9 R4 Hj sU mU aW oN oI xG Lg Ze oX fP dD cL iG Ho rG Qp Qq tU zQ Fb uz wK nG Hq cP qM uw Qs zF Ci nH iV vo c7 JK JL QX QZ Q0 Q5 JM Qv Qw Int.reduceToNat reducePow Qx Jj jk length_cons length_nil map_cons map_nil replicate cons_append nil_append append_nil getElem?_cons_zero getElem?_cons_succ set_cons_zero set_cons_succ reduceAdd reduceSub Nat.reduceLeDiff Nat.reduceEqDiff Bool.and_true Bool.true_and Bool.not_true Bool.not_false false_eq_true if_true if_false fV lO pX Ji decide_eq_true decide_eq_false if_pos if_neg length_map"
 `(tactic| try simp (disch:=first | with_unfolding_all exact rfl | omega | assumption | (refine aY ?_; omega)) only[$a,*,↓reduceIte])
namespace PM
open L2 VM Sp
def toPq (p:aO):Pq:=((p.a:Int),(p.b:Int),p.w,p.l)
def hD (ps:¬aO):():=yC<|ps.map toPq
def cZ (v:Nat):():=.int v
def frA:↑(Nat×Nat)->()
 |none=>.none
 |some (m,_)=>.int m
def frB:↑(Nat×Nat)->()
 |none=>.none
 |some (_,u)=>.int u
def iU:↑Lb->()
 |none=>.none
 |some l=>.tuple [.int l.d,.int l.c,frA l.fr,frB l.fr]
def j4 (l:Lb):iU #[l]=.tuple [.int l.d,.int l.c,frA l.fr,frB l.fr]:=rfl
def Gw (m:Mv):():=wM m.1 m.2.1 m.2.2
def lf (L:¬Int):Lf:=λi=>L.getD i 0
def ahk (ps:¬aO)(u:Nat):∀k,oh k (ps.map toPq) (u:Int)=(qX k ps u).map Gw:=by
 induction ps with
 |nil=>intro k;rfl
 |cons q r A=>
  intro k;rw[aS,oh,qX,bP,bP,A<|k+1];have J:((toPq q).1=(u))↔(q.a=u):=by show((q.a)=(u:Int))↔_;lk
  have t:((toPq q).2.1=(u))↔(q.b=u):=by show((q.b)=(u:Int))↔_;lk
  congr 1
  .by_cases h:q.a=u
   .rw[ah<|J.mpr h,ah h];rfl
   .grind
  .congr 1;by_cases h:q.b=u
   .rw[ah<|t.mpr h,ah h];rfl
   .grind
def Ug (ps:¬aO)(h:u<n):dG (ps.map toPq) n=.list ((List.range n).map λ(u:Nat)=>.list<|(bH ps u).map Gw)/\cN ((List.range n).map λ(u:Nat)=>PyData.list<|(bH ps u).map Gw) (u:Int)=#[.list<|(bH ps u).map Gw]:=by
 constructor
 .delta dG;congr 1;exact cK λu _=>by rw[ahk];rfl
 .calc kW _<|gc h
def ajC (d:Int)(c:Nat)(o:↑Lb):Pg.oE [.int d,.int c,iU o]=#[(false,.bool<|near d c o)]:=by
 delta Pg.oE Pg.Gm;cases o with
 |none=>rfl
 |some l=>
  delta iU;x_go;by_cases h:d<l.d
  .erw[h,dL];x_go;simp[near,h]
  .walk_at "e4";by_cases h2:d=l.d
   .erw[h2,dL];x_go;simp[near]
   .erw[h2,db];x_go;simp[near,h,h2]
def SR (mv A:())(st:Nat)(s:RS)(a b c d e f:↑()):GS:=
 [#[(.fr,mv)],#[(.fr,A)],#[(.fr,.int st)],#[(.ow,.list<|s.bx.map iU)],#[(.ow,.list<|s.wait.map .bool)],#[(.ow,.list<|s.queue.map cZ)],#[(.fr,.int s.place)],ob a,ob b,ob c,ob d,ob e,ob f]
variable {A:Nat->Int}
def Z7 {u:Nat}{c:Nat}(E:m.1<!L)(N:m.2.1<!s.bx)(C:m.2.1<!s.wait)(T:(!s.queue)<sizeLine):
  Pg.Q8 (SR mv (.list<|L.map .int) st s (#[.int u]) (#[.int d]) (#[.int c]) (#[.int m.1]) (#[.int m.2.1])<|#[.int m.2.2])=
   .nxt (SR mv (.list<|L.map .int) st (relax (lf L) u d c s m) (#[.int u]) (#[.int d]) (#[.int c]) (#[.int m.1]) (#[.int m.2.1])<|#[.int m.2.2]):=by
 let(B,v,x):=m;obtain⟨o,I⟩:∃o,s.bx[v]? =#[o]:=⟨_,ar N⟩;obtain⟨y,j⟩:∃o,s.wait[v]? =#[o]:=⟨_,ar C⟩;have D:cN (L.map PyData.int) (B:Int)=#[.int<|lf L B]:=by refine kW _ ?_;delta lf;grind
 have G:cN (s.bx.map iU) (v:Int)=#[iU o]:=kW _ I;have J:cN (s.wait.map PyData.bool) (v:Int)=#[.bool y]:=kW _ j;delta Pg.Q8 SR relax;erw[I,j,getD_some];x_go;rw[D];x_go;by_cases h:0<lf L B
 .erw[h,dL,true_and];x_go;rw[G];x_go;rw[ajC];x_go;cases H:near (d+x) c o
  .rfl
  .x_go;rw[ac,vA N];x_go;rw[J];x_go;cases y
   .x_go;rw[ac,vA C];walk_at "e4";rw[j0,j0,bP];rfl
   .x_go;rw[j0];rfl
 .erw[h,db,false_and];rfl
theorem Kl (D:n<=1000)(F:cM n (lf L) (bH ps) A)(f:u<n)(O:p<=lu.c)(H:∀m∈bH ps u,m.1<!L):
  ∀(t:¬Mv) (s:RS) (C:¬Nat) (x y z:↑()),qm n (lf L) (bH ps) A st s->QP n p s.place s C->Paths n A s.bx->s.bx[u]? =#[#[lu]]->(∀m∈t,m∈bH ps u)->
  ∃b G r,cT (gT 3<|gC (gN 10)<|gC (gN 11)<|gC (gN 12) g0) Pg.Q8 (t.map Gw) (SR mv (.list<|L.map .int) st s (#[.int u]) (#[.int lu.d]) (#[.int ((lu.c+1:Nat):Int)]) x y z)=
   .nxt (SR mv (.list<|L.map .int) st (t.foldl (relax (lf L) u lu.d<|lu.c+1) s) (#[.int u]) (#[.int lu.d]) (#[.int ((lu.c+1:Nat):Int)]) b G r)
 |[],s,C,x,y,z,_,_,_,_,_=>(x,y,z,rfl)
 |m::t,s,C,x,y,z,I,Q,k,J,M=>by
  have B:=M m aa;have E:m.2.1<n:=F.room u _ B;have l:(!s.queue)<sizeLine:=by have h1:=Q.bound I.ql;have h2:n*n<=1000*1000:=Nat.mul_le_mul D D;exact aY ∅
  let(U,Y,_):=Af F I f J B;let(o,T,N):=Ua F I Q k f J B O;let(b,G,r,q):=Kl (mv:=mv) D F f O H t _ o (#[.int m.1]) (#[.int m.2.1]) (#[.int m.2.2]) U.ok T N Y λv g=>M v<|ae _ g;refine(b,G,r,?_);rw[aS,cT,g9];have j:gT 3 (gC (gN 10)<|gC (gN 11)<|gC (gN 12) g0) (Gw m) (SR mv (.list<|L.map .int) st s (#[.int u]) (#[.int lu.d]) (#[.int ((lu.c+1:Nat):Int)]) x y z)=
    #[SR mv (.list<|L.map .int) st s (#[.int u]) (#[.int lu.d]) (#[.int ((lu.c+1:Nat):Int)]) (#[.int m.1]) (#[.int m.2.1])<|#[.int m.2.2]]:=by
   delta Gw wM SR;x_go
  rw[j];simp only;rw[Z7 (H m B) (by rw[I.ll];calc E) (by rwa [I.wl]) l];calc q
def abU (hn:n<=1000)(F:cM n (lf L) (bH ps) A)(y:∀u m,m∈bH ps u->m.1<!L)(I:oZ n (lf L) (bH ps) A st s)(x:QI n A s)(i:Not (s.done))(a b c d e f:↑()):
  ∃j k g d' l f',Pg.uD (SR (dG (ps.map toPq) n) (.list<|L.map .int) st s a b c d e f)=.nxt (SR (dG (ps.map toPq) n) (.list<|L.map .int) st (oR (lf L) (bH ps) s) j k g d' l f'):=by
 let((p,E,Q),w):=x;have C:s.place<!s.queue:=by delta RS.done at i;lk
 have T:s.queue[s.place]? =#[s.room]:=by delta RS.room;rw[ar C];rfl
 have B:=ag T;have U:=I.ql _ B;let(H,N):=I.lq _ B;have G:s.at=H:=by delta RS.at;rw[N];rfl
 have Y:qm n (lf L) (bH ps) A st {s with place:=s.place+1,wait:=s.wait.set s.room false}:=by
  refine(C,I.ll,by show (!(s.wait.set s.room false))=n;rw[b6];calc I.wl,I.ql,I.st0,I.lo,I.fr,λv hv=>?_,I.lq);rcases lZ (hv) with⟨_,e,_⟩|⟨r,e⟩
  .k_go
  .have:=I.wq v e;rw[(drop_cons T)] at this;rcases aI.mp this with z|z
   .exact absurd z r
   .exact z
 obtain⟨M,D⟩:∃M,E[s.place]? =#[M]:=⟨_,ar<|by rwa [Q.len]⟩;let(x',y',z',J):=Kl hn F U (Q.cnt s.place M s.room H (av _) D T N) (y s.room) (bH ps s.room) _ E d e f Y (Q.next I T D) w N λm h=>h;have o:oR (lf L) (bH ps) s=(bH ps s.room).foldl (relax (lf L) s.room H.d<|H.c+1) {s with place:=s.place+1,wait:=s.wait.set s.room false}:=by delta oR;rw[G]
 refine(#[.int s.room],#[.int H.d],#[.int<|(H.c+1:Nat)],x',y',z',?_);rw[o,←J];have q:cN (s.queue.map cZ) (s.place:Int)=#[.int s.room]:=kW _ T;have O:cN (s.bx.map iU) (s.room:Int)=#[iU<|#[H]]:=kW _ N;let(em,t):=Ug ps U;have hw:s.room<!s.wait:=by rwa [I.wl]
 rw[em];delta Pg.uD SR;x_go;rw[q];x_go;rw[ac,vA hw];x_go;rw[O,j4];x_go;rw[O,j4];x_go;rw[t];x_go;rw[j0];rfl
def Z8 (l:n<=1000)(F:cM n (lf L) (bH ps) A)(g:∀u m,m∈bH ps u->m.1<!L)(h:Ends (lf L) (bH ps) k s t):oZ n (lf L) (bH ps) A st s->QI n A s->∀(a b c d e f:↑()),
  ∃E N J d' T f',cu (vB<|v2 wF (vN 6)<|cL iG<|aC (vN 5) a0) Pg.uD (k+1) (SR (dG (ps.map toPq) n) (.list<|L.map .int) st s a b c d e f)=.nxt (SR (dG (ps.map toPq) n) (.list<|L.map .int) st t E N J d' T f'):=by
 induction h with
 |stop G=>
  rename_i s;intro I C a b c d e f;refine(a,b,c,d,e,f,?_);rw[cu]
  have:Not ((s.place)<((!(s.queue.map cZ)):Int)):=by delta RS.done at G;rw[ac];lk
  have B:(vB<|v2 wF (vN 6)<|cL iG<|aC (vN 5) a0) (SR (dG (ps.map toPq) n) (.list<|L.map .int) st s a b c d e f)=#[false]:=by delta SR;x_go;erw[this,db]
  rw[B]
 | @go k s t G _ o=>
  intro I C a b c d e f;let(D,b1,M,O,U,j,h1):=abU l F g I C G a b c d e f;let(H,b2,w,Q,Y,y,h2):=o (T8 F I G).1 (ahf F I C G) D b1 M O U j;refine(H,b2,w,Q,Y,y,?_);rw[cu]
  have:(s.place)<((!(s.queue.map cZ)):Int):=by delta RS.done at G;rw[ac];lk
  have B:(vB<|v2 wF (vN 6)<|cL iG<|aC (vN 5) a0) (SR (dG (ps.map toPq) n) (.list<|L.map .int) st s a b c d e f)=#[true]:=by delta SR;x_go;erw[this,dL]
  rw[B];simp only;rwa [h1]
def Xw (N:n<=1000)(C:st<n)(F:cM n (lf L) (bH ps) A)(J:∀u m,m∈bH ps u->m.1<!L):∃E,Found n ps st (lf L) E/\Pg.qQ [dG (ps.map toPq) n,.list<|L.map .int,.int st]=#[(true,.list<|E.map iU)]:=by
 have Q:oZ n (lf L) (bH ps) A st (lR n st):=Dj C;have H:QI n A (lR n st):=aec C;let(k,t,G,It,O):=ends F Q;refine(t.bx,(k,t,G,rfl),?_);let(a,b,c,d,e,f,M):=Z8 N F J G Q H none none none none none none;have B:=yj M (by intro z;cases z);delta Pg.qQ Pg.Xe;have D:(!((List.range n).map λu=>PyData.list<|(bH ps u).map Gw))=(n):=by simp
 rw[((Ug ps C).1)] at B ⊢;x_go;rw[D];rw[zP _ ∅];x_go;rw[ik,vA C];x_go;rw[D,zP _ ∅];x_go;have I:SR (.list<|(List.range n).map λu=>.list<|(bH ps u).map Gw) (.list<|L.map .int) st (lR n st) none none none none none none=
  [#[(Tg.fr,.list<|(List.range n).map λu=>.list<|(bH ps u).map Gw)],#[(Tg.fr,.list<|L.map .int)],#[(Tg.fr,.int st)],#[(Tg.ow,.list<|(replicate n PyData.none).set st<|.tuple [.int 0,.int 0,.none,.none])],#[(Tg.ow,.list<|replicate n<|.bool false)],#[(Tg.ow,.list [.int st])],#[(Tg.fr,.int 0)],none,none,none,none,none,none]:=by
  delta SR lR;erw[j0,oj,iU,frA,frB,ig];rfl
 rw[I] at B;rw[B];rfl
end PM
namespace PM
open L2 VM Sp
variable {st g:Nat}
def aeh (h:jO ps m u v x):m<2*!ps:=by let(i,q,e,r):=h.cases;grind
def Uh (T:Tree n left (bH ps) C st B)(h:B[v]? =#[#[l]]):∀m∈eY B l.c v,m<2*!ps:=λm A=>by let(_,_,_,_,_,a,_):=Fq T h m A;calc aeh a
def Xx (T:Tree n left (bH ps) A st B)(h:B[v]? =#[#[l]]):(!(eY B l.c v))<=2*!ps:=iW (Dl T h)<|Uh T h
def Z9 (Y:(!ps)<=1000000)(T:Tree n left (bH ps) m st B)(h:B[g]? =#[#[l]]):
  Pg.qR [.list<|B.map iU,.int st,.int g]=#[(true,.list<|(eY B l.c g).map cZ)]:=by
 have D:∀v (l:Lb),B[v]? =#[#[l]]->∀A:¬Nat,(!A)+(!(eY B l.c v))<=16000000->
   cu (vB<|v2 jr (vN 4)<|vN 1) Pg.Q9 ((!(eY B l.c v))+1) [#[(.fr,.list<|B.map iU)],#[(.fr,.int st)],#[(.fr,.int g)],#[(.ow,.list<|A.map cZ)],#[(.fr,.int v)]]=
    .nxt [#[(.fr,.list<|B.map iU)],#[(.fr,.int st)],#[(.fr,.int g)],#[(.ow,.list<|(A++eY B l.c v).map cZ)],#[(.fr,.int st)]]:=by
  refine qY T (P:=λv _ t=>∀A:¬Nat,(!A)+(!t)<=16000000->
   cu (vB<|v2 jr (vN 4)<|vN 1) Pg.Q9 ((!t)+1) [#[(.fr,.list<|B.map iU)],#[(.fr,.int st)],#[(.fr,.int g)],#[(.ow,.list<|A.map cZ)],#[(.fr,.int v)]]=
    .nxt [#[(.fr,.list (B.map iU))],#[(.fr,.int st)],#[(.fr,.int g)],#[(.ow,.list ((A++t).map cZ))],#[(.fr,.int st)]]) (λA _=>?_) (λv l L u x j t M r C N Q f U O I J A H=>?_)
  .rw[cu];x_go;simp
  .rw[cu];have E:cN (B.map iU) (v:Int)=#[iU<|#[l]]:=kW _ M;have k:Not ((v)=(st:Int)):=by lk
   walk_at "e4";delta Pg.Q9;x_go;rw[E,j4,C];walk_at "e4";rw[E,j4,C];x_go;have:=J (A++[L]) (by rw[aE,m2];rw[a8] at H;lk);rw[bP,cr] at this;exact this
 have G:=yj (D g l h [] (by have:=Xx T h;rw[di];lk)) (by intro z;cases z);delta Pg.qR Pg.S7;x_go;erw[fe,fF] at G;rw[G];rfl
def V9 (m:Nat):Builtin.bitXor (m:Int) 1=(fG m:Int):=by
 rw[PyProof.Rows.bitXor_and]
 have:Builtin.bitAnd (m) 1=((m % 2)):=by delta Builtin.bitAnd;simp
 rw[this];delta fG;lk
def wX (p:Int)(L:¬Int)(m:Nat):¬Int:=(L.set m<|lf L m - p).set (fG m)<|lf (L.set m<|lf L m - p) (fG m)+p
def Ui (h:i<!L)(x:Int)(j:Nat):lf (L.set i x) j=if j=i then x else lf L j:=by delta lf;grind
def aac (m:Nat):fG m≠m:=by delta fG;split<;>lk
def Dm (p:Int)(L:¬Int)(m:Nat):(!(wX p L m))=!L:=by delta wX;rw[b6,b6]
def aei (h1:m<!L)(h2:fG m<!L):lf (wX p L m)=move p (lf L) m:=by funext i;delta wX move;rw[Ui (by rw[b6];calc h2),Ui h1,Ui h1];have:=aac m;lk
def rR (p:Int)(L:¬Int)(t:¬Nat):¬Int:=t.foldl (wX p) L
theorem Oq (p:Int):∀(t:¬Nat) (L:¬Int),(!(rR p L t))=!L
 |[],_=>rfl
 |m::t,L=>by show (!(rR p (wX p L m) t))=_;rw[Oq p t,Dm]
def Km (h:m<2*k):fG m<2*k:=by delta fG;split<;>lk
theorem Uj (p:Int):∀(t:¬Nat) (L:¬Int),(!L)=2*k->(∀m∈t,m<2*k)->lf (rR p L t)=f9 p (lf L) t
 |[],_,_,_=>rfl
 |m::t,L,B,A=>by have h1:=A m aa;show lf (rR p (wX p L m) t)=f9 p (move p (lf L) m) t;rw[Uj p t _ (by rw[Dm];calc B) λx C=>A x<|ae _ C,aei ∅ (by have:=Km h1;lk)]
def Ko {L:¬Int}(h:m<!L):cN (L.map PyData.int) (m:Int)=#[.int<|lf L m]:=by refine kW _ ?_;delta lf;grind
def Uk {L:¬Int}(h:m<!L):(L.map PyData.int)[m]? =#[.int<|lf L m]:=by delta lf;rw[ai,ca,ar h];rfl
def ajD {k:Nat}(G:(!L)=2*k)(E:∀m∈t,m<2*k)(B:t≠[])(N:(!t)<=16000000):
  ∃p,(∃m∈t,p=lf L m)/\(∀m∈t,p<=lf L m)/\Pg.yG [none,#[.list<|t.map cZ]] (L.map .int)=#[(false,.int p,(rR p L t).map .int)]:=by
 refine(eH<|t.map<|lf L,?_,?_,?_)
 .let(h1,_):=kO (ns:=t.map<|lf L) ‹B›;grind
 .intro m h;exact(kO<|‹B›).2 _ (a6.mpr (m,h,rfl))
 .generalize O:eH (t.map (lf L))=p;delta Pg.yG Pg.abv Cu;rw[ah ⟨rfl,rfl⟩];delta wG;x_go;rw[Sx (by rw[ac];calc aY N)];rw[g8 (f:=λd=>match d with|.int m=>.int (lf L m.toNat)|_=>.none) (by
   intro d H;let(m,h,rfl):=a6.mp H;refine([#[(Tg.fr,.int m)],#[(Tg.fr,.list<|L.map .int)]],?_,rfl,?_)
   .rfl
   .have:=E m h;x_go;rw[Ko ∅];rfl)]
  rw[bE];have em:t.map ((λd=>match d with|.int m=>PyData.int (lf L m.toNat)|_=>.none) ∘ cZ)=(t.map<|lf L).map PyData.int:=by rw[bE];rfl
  rw[em];x_go;have j:minD [.list<|(t.map<|lf L).map PyData.int]=#[.int p]:=by
   erw[minD,jK];cases t with
   |nil=>lk
   |cons m r=>lk
  rw[j];x_go;have C:∀v (M:¬Int) (x:↑()),(!M)=2*k->(∀m∈v,m<2*k)->∃b,
    cT (gN 3) (aN (oM jX 0 (vN 3)<|vF 2)<|oM dW 0 (v2 Zn (vN 3)<|vC<|.int 1)<|vF 2) (v.map cZ) [#[(Tg.io,.list<|M.map .int)],#[(Tg.fr,.list<|t.map cZ)],#[(Tg.fr,.int p)],ob x]=
     .nxt [#[(Tg.io,.list<|(rR p M v).map .int)],#[(Tg.fr,.list<|t.map cZ)],#[(Tg.fr,.int p)],ob b]:=λv=>by
   induction v with
   |nil=>intro M x _ _;calc⟨x,rfl⟩
   |cons m v I=>intro M x J A;have h1:=A m aa;have h2:=Km h1;let(b,D):=I (wX p M m) (#[.int m]) (by rwa [Dm]) λy n=>A y<|ae _ n;refine⟨b,?_⟩;rw[aS,cT];delta cZ;x_go;rw[ac,vA ∅];x_go;rw[Uk ∅];x_go;rw[V9,b6,ac,vA ∅];x_go;rw[<-j0,Uk (by rw[b6];lk)];x_go;rwa [<-j0]
  let(b,D):=C t L none G E;rw[ig] at D;rw[D];rfl
end PM
namespace Sp
variable {B:¬(↑Lb)}
def abV (T:Tree n left (bH ps) C st B)(r:st≠g)(h:B[g]? =#[#[l]]):eY B l.c g≠[]:=by let(A,u,x,H,_,_,_,_,_,_,_,O):=HD T h<|b8 r;lk
theorem Ul (f:C->Int):∀(xs:¬C),xs≠[]->∃p,(∃m∈xs,p=f m)/\∀m∈xs,p<=f m
 |[x],_=>(f x,(x,by simp,rfl),λm A=>by rw[a7.mp A];calc b7 _)
 |x::y::r,_=>by let(p,(m,A,e),h):=Ul f (y::r) 's';grind
def Xy (z:aU n ps)(C:st<n)(Q:g<n)(D:st≠g)(S:St n ps st left G):∃r A,Runs n ps st g c left r A:=by
 have H:∀k (left:Lf) (G:Nat->Int),rest ps g left=k->St n ps st left G->∃r A,Runs n ps st g c left r A:=λk=>by
  induction k using Nat.strongRecOn with
  |_ k O=>
   intro left G M S;let(B,t):=finds S.fit C;have T:=jP S.fit C t;obtain⟨o,E⟩:∃o,B[g]? =#[o]:=⟨_,ar<|by rwa [T.ll]⟩;cases o with
   |none=>calc(_,_,.none t E)
   |some l=>
    have go:(∀I,c=#[I]->l.d<=I)->∃r A,Runs n ps st g c left r A:=λN=>by let(p,h1,h2):=Ul left (eY B l.c g)<|abV T D E;have P:Pushed n ps st g left l.d p (f9 p left<|eY B l.c g):=(B,l,t,E,rfl,h1,h2,rfl);let(_,_,(J,L,_),_,_):=m6 z S C P;let(r,A,R):=O _ (by rw[<-M];calc abT z S C D P) _ J rfl L;exact(_,_,.go P N R)
    cases c with
    |none=>calc go λ_ e=>by k_go
    |some I=>
     by_cases U:I<l.d
     .exact(_,_,.far t E rfl U)
     .exact go λ_ e=>by k_go;lk
 calc H _ left G rfl S
def vals:¬aO->¬Int
 |[]=>[0]
 |q::r=>(vals r).map (λx=>x - q.l)++(vals r++(vals r).map (λx=>x+q.l))
def aej (ps:¬aO):(!(vals ps))=3^!ps:=by
 induction ps with
 |nil=>rfl
 |cons q r A=>rw[vals,aE,aE,ac,ac,A,a8,Nat.pow_succ];lk
def qZ (t:¬Nat)(i:Nat):Int:=b2 (2*i∈t) - b2 (2*i+1∈t)
def Um (p:Prop)[Decidable p]:b2 p=0\/b2 p=1:=by delta b2;split;calc .inr rfl;calc .inl rfl
theorem Uo (t:¬Nat):∀(ps:¬aO) (k:Nat),fB (λi q=>qZ t i*q.l) k ps∈vals ps
 |[],_=>by simp[fB,vals]
 |q::r,k=>by
  have A:=Uo t r<|k+1;rw[fB,vals]
  have:qZ t k= -1\/qZ t k=0\/qZ t k=1:=by delta qZ;rcases Um (2*k∈t) with a|a<;>rcases Um (2*k+1∈t) with b|b<;>rw[a,b]<;>lk
  rcases this with e|e|e<;>rw[e]
  .refine dT _<|a6.mpr (_,A,?_);lk
  .refine ce _<|dT _ ?_;simpa using A
  .refine ce _<|ce _<|a6.mpr (_,A,?_);lk
def abW (h:Not (m∈t))(i:Nat):qZ (m::t) i=qZ t i+(b2 (2*i=m) - b2 (2*i+1=m)):=by
 delta qZ;have A:b2 (2*i∈m::t)=b2 (2*i∈t)+b2 (2*i=m):=by
  delta b2;by_cases a:2*i=m
  .subst a;simp[h]
  .simp[a]
 have G:b2 (2*i+1∈m::t)=b2 (2*i+1∈t)+b2 (2*i+1=m):=by
  delta b2;by_cases a:2*i+1=m
  .subst a;simp[h]
  .simp[a]
 rw[A,G];lk
def ahl (T:Tree n left (bH ps) k st B)(h:B[v]? =#[#[l]]):l.d=fB (λi q=>qZ (eY B l.c v) i*q.l) 0 ps:=by
 have:=qY T (P:=λv l t=>t.Nodup->l.d=fB (λi q=>qZ t i*q.l) 0 ps) (λ_=>?_) (λv l H u x Q t N E C A M f G O I J nd=>?_) v l h
 .exact this<|Dl T h
 .rw[jd (g:=λ_ _=>0) ps 0 λi q _=>by simp[qZ,b2],pB]
 .let(h1,h2):=bd.mp nd;have D:fB (λi q=>qZ (H::t) i*q.l) 0 ps=fB (λi q=>qZ t i*q.l) 0 ps+fB (λi q=>(b2 (2*i=H) - b2 (2*i+1=H))*q.l) 0 ps:=by rw[<-vM];exact jd ps 0 λi q _=>by rw[abW h1,ir]
  rw[D,G,J h2];congr 1;let(i,q,e,r):=A.cases;rw[Ag ps 0 i q e<|λj U L Y=>?_]
  .rcases r with⟨_,_,rfl,rfl⟩|⟨_,_,rfl,rfl⟩
   .have:Not (2*(0+i)+1=2*i):=by lk
    simp[b2,this]
   .have:Not (2*(0+i)=2*i+1):=by lk
    simp[b2,this]
  .have a:Not (2*(0+j)=H):=by rcases r with⟨_,_,rfl,_⟩|⟨_,_,rfl,_⟩<;>lk
   have b:Not (2*(0+j)+1=H):=by rcases r with⟨_,_,rfl,_⟩|⟨_,_,rfl,_⟩<;>lk
   erw[b2,a,b,dE];simp
def Ot (z:aU n ps)(C:st<n)(R:Runs n ps st g c left r A)(S:St n ps st left G):∀x∈r,x.1∈vals ps:=by
 induction R generalizing G with
 |none _ _=>simp
 |far _ _ _ _=>simp
 | @go left D A len p r P N R J=>
  intro x E;rcases aI.mp E with rfl|E
  .let(B,l,t,N,e,_):=P.ex;rw[e,ahl (jP S.fit C t) N];exact Uo _ ps 0
  .let(_,_,(H,I,_),_,_):=m6 z S C P;grind
def Wa (h:y∈eO s x):y.1=x.1\/y∈s:=by
 delta eO at h;split at h
 .rename_i z e;split at h
  .rcases aT.mp h with h|h
   .exact .inr<|(m3 s).subset h
   .grind
  .grind
 .grind
theorem HF:∀(r s:¬(Int×Int)) (y:Int×Int),y∈r.foldl eO s->(∃x∈r,y.1=x.1)\/y∈s
 |[],_,_,h=>.inr h
 |x::r,s,y,h=>by
  rcases HF r _ y h with⟨z,C,e⟩|h
  .exact .inl (z,ae _ C,e)
  .rcases Wa h with e|e
   .exact .inl (x,aa,e)
   .calc .inr e
def grouped_len {vs:¬Int}(D:r.Pairwise λx y=>x.1<=y.1)(h1:∀x∈r,1<=x.1/\1<=x.2)(M:∀x∈r,x.1∈vs):(!(grouped r))<=!vs:=by
 have nd:((grouped r).map (·.1)).Nodup:=by rw[List.Nodup,j3];exact(vO r [] D h1 ⟨.nil,λ_ h=>nomatch h⟩ (λ_ _ _ h=>nomatch h)).up.imp λh=>by lk
 have:=Dk nd λx A=>by
  let(y,n,rfl):=a6.mp A;rcases HF r [] y n with⟨z,C,e⟩|h
  .rw[e];exact M z C
  .cases h
 rwa [ac] at this
end Sp
namespace PM
open L2 VM Sp
variable {left:Lf}
def HJ:↑Int->()
 |none=>.none
 |some T=>.int T
def jw (x:Int×Int):():=.tuple [.int x.1,.int x.2]
theorem tu:∀B:¬(↑Lb),mU (B.map iU)=true
 |[]=>rfl
 |none::r=>by erw[aS,iU,mU,sU,tu r,Bool.and_self]
 |some l::r=>by
  have:sU (iU<|#[l])=true:=by
   rw[j4];cases h:l.fr with
   |none=>rfl
   |some x=>rfl
  erw[aS,mU,this,tu r,Bool.and_self]
def vP (mv:())(L:¬Int)(st g:Nat)(A:↑Int)(s:¬(Int×Int))(a b c:↑()):GS:=
 [#[(.fr,mv)],#[(.io,.list<|L.map .int)],#[(.fr,.int st)],#[(.fr,.int g)],#[(.fr,HJ A)],#[(.ow,.list<|s.map jw)],ob a,ob b,ob c]
def aek (h:xs.getLast? =#[y]):cN xs (-1)=#[y]:=by
 have r:xs≠[]:=by intro z;rw[z] at h;cases h
 delta cN;rw[RV<|g7.mpr r];grind
def getLast_map (f:A->B)(xs:¬A):(xs.map f).getLast? =xs.getLast?.map f:=by simp
def abX (D:(!(eO s (len,p)))<=16000000):
    (dz (lG (u9 (vN 5)) (vB (v2 jc (v2 aW (v2 aW (vN 5) (v1 oX (vC (.int 1)))) (vC (.int 0))) (vN 7))))
     (qN 5 (v1 oX<|vC<|.int 1)<|fP<|aC (vF 7)<|aC (v2 dW (v2 aW (v2 aW (vN 5)<|v1 oX<|vC<|.int 1)<|vC<|.int 1)<|vN 8) a0)
     (d8 5 (aC (fP (aC (vF 7) (aC (vF 8) a0))) a0))) (vP mv L st g c s a #[.int len] #[.int p])=.nxt (vP mv L st g c (eO s (len,p)) a #[.int len] #[.int p]):=by
  delta vP;x_go;delta eO at D ⊢;cases e:s.getLast? with
  |none=>
   have:s=[]:=‹e›
   subst this;x_go;erw[o6,Bool.not_true];walk_at "e4";rfl
  |some y=>
   rw[e] at D;have r:s≠[]:=by intro z;rw[z] at e;k_go
   have em:(s.map jw).isEmpty=false:=by cases s<;>simp_all
   have B:cN (s.map jw) (-1)=#[jw y]:=aek (by rw[getLast_map,e];rfl);erw[em,Bool.not_false];x_go;rw[B];delta jw;x_go;by_cases n:y.1=len
   . walk_at "e4"
     have A:cN (s.map<|λx=>PyData.tuple [.int x.1,.int x.2]) (-1)=#[.tuple [.int y.1,.int y.2]]:=B;rw[A];x_go;rw[RV (by rw[ac];calc g7.mpr r)];x_go;have G:=uG e;have C:(s.map<|λx=>PyData.tuple [.int x.1,.int x.2]).set ((!(s.map<|λx=>PyData.tuple [.int x.1,.int x.2])) - 1) (.tuple [.int len,.int<|y.2+p])=(s.dropLast++[(len,y.2+p)]).map (λx=>PyData.tuple [.int x.1,.int x.2]):=by rw[G];simp
     rw[C]
   . erw[n,db]
     x_go;erw[n,dE] at D;rw[ah (by rw[ac];rw[aE,m2] at D;calc aY ∅)];rw[bP];rfl
def Ai (h1:c S=#[true])(h2:b S=.ret S2 o d):cu c b (k+1) S=.ret S2 o d:=by rw[cu,h1];simp only;rw[h2]
def Dp (h1:c S=#[true])(h2:b S=.nxt S2)(J:cu c b k S2=o):cu c b (k+1) S=o:=by rw[cu,h1];simp only;rw[h2];calc J
def Dq (d:n<=1000)(f:(!ps)<=1000000)(D:st<n)(hg:g<n)(U:st≠g)(O:(!L)=2*!ps)(S:St n ps st (lf L) π)(a b c:↑())(t:Found n ps st (lf L) B):
    (B[g]? =#[none]->∃E,Pg.wO (vP (dG (ps.map toPq) n) L st g A s a b c)=.ret ((vP (dG (ps.map toPq) n) L st g A s E b c).set 5 none) true (.list<|s.map jw))/\
    (∀l T,B[g]? =#[#[l]]->A=#[T]->T<l.d->∃E N,Pg.wO (vP (dG (ps.map toPq) n) L st g A s a b c)=.ret ((vP (dG (ps.map toPq) n) L st g A s E N c).set 5 none) true (.list<|s.map jw))/\
    (∀l,B[g]? =#[#[l]]->(∀T,A=#[T]->l.d<=T)->∃p,(∃m∈eY B l.c g,p=lf L m)/\(∀m∈eY B l.c g,p<=lf L m)/\((!(eO s (l.d,p)))<=16000000->
      ∃E N k,Pg.wO (vP (dG (ps.map toPq) n) L st g A s a b c)=.nxt (vP (dG (ps.map toPq) n) (rR p L (eY B l.c g)) st g A (eO s (l.d,p)) E N k))):=by
  let(j,J,G):=Xw d D S.fit (λu m z=>by
    let(i,q,e,r):=fZ.mp z;grind)
  have:=t.uniq J;subst this;have T:=jP S.fit D t;refine⟨λh=> ?_, λl I h Q y=> ?_, λl h Q=> ?_⟩
  . have C:cN (B.map iU) (g:Int)=#[iU none]:=kW _ h
    refine⟨#[.list<|B.map iU], ?_⟩;delta Pg.wO vP;x_go;rw[G];x_go;rw[tu B];x_go;rw[C];rfl
  . have C:cN (B.map iU) (g:Int)=#[iU<|#[l]]:=kW _ h
    refine⟨#[.list<|B.map iU],#[.int l.d], ?_⟩;subst Q;delta Pg.wO vP;x_go;rw[G];x_go;rw[tu B];x_go;rw[C,j4];x_go;rw[C,j4];x_go;delta HJ;x_go;erw[y,dL];rfl
  . have C:cN (B.map iU) (g:Int)=#[iU<|#[l]]:=kW _ h
    have wl:=Xx T h;let(p,x,p2,v):=ajD O (Uh T h) (abV T U h) ∅;refine⟨p,x,p2, λw=>⟨#[.list (B.map iU)],#[.int l.d],#[.int p], ?_⟩⟩;rw[<-abX w];delta Pg.wO;generalize hk:(dz (lG (u9 (vN 5)) (vB (v2 jc (v2 aW (v2 aW (vN 5) (v1 oX (vC (.int 1)))) (vC (.int 0))) (vN 7))))
     (qN 5 (v1 oX<|vC<|.int 1)<|fP<|aC (vF 7)<|aC (v2 dW (v2 aW (v2 aW (vN 5)<|v1 oX<|vC<|.int 1)<|vC<|.int 1)<|vN 8) a0)
     (d8 5 (aC (fP (aC (vF 7) (aC (vF 8) a0))) a0)))=Y
    delta vP;x_go;rw[G];x_go;rw[tu B];x_go;rw[C,j4];x_go;rw[C,j4];x_go;have H:∀o,Ln (Jf Pg.yG 1 (Je (vp (bF Pg.qR (aC (vF 6) (aC (vF 2) (aC (vF 3) a0)))) Oc)) 8
        [#[(Tg.fr,dG (ps.map toPq) n)],#[(Tg.io,.list (L.map .int))],#[(Tg.fr,.int st)],#[(Tg.fr,.int g)],#[(Tg.fr,o)],#[(Tg.ow,.list (s.map jw))],#[(Tg.fr,.list (B.map iU))],#[(Tg.fr,.int l.d)],ob c]) Y=
        Y [#[(Tg.fr,dG (ps.map toPq) n)],#[(Tg.io,.list<|(rR p L<|eY B l.c g).map .int)],#[(Tg.fr,.int st)],#[(Tg.fr,.int g)],#[(Tg.fr,o)],#[(Tg.ow,.list<|s.map jw)],#[(Tg.fr,.list<|B.map iU)],#[(Tg.fr,.int l.d)],#[(Tg.fr,.int p)]]:= λo=>by
      erw[Jf,Je,vp,Oc];x_go;rw[Z9 f T h];x_go;rw[v];simp only;x_go;simp;x_go
    cases M:A with
    |none=>x_go;calc H _
    |some I=>
     have:=Q I M;have nT:Not (I<l.d):=by lk
     delta HJ;walk_at "e4";grind
def abY (f:aU n ps)(v:n<=1000)(y:(!ps)<=1000000)(C:st<n)(o:g<n)(G:st≠g)(R:Runs n ps st g O left r A):
  ∀(L:¬Int) (Y:Nat->Int) (s:¬(Int×Int)) (a b c:↑()),lf L=left->(!L)=2*!ps->St n ps st (lf L) Y->(∀k,(!((r.take k).foldl eO s))<=16000000)->
  ∃k B E J j,lf B=A/\(!B)=2*!ps/\cu (vB<|vC<|.bool true) Pg.wO k (vP (dG (ps.map toPq) n) L st g O s a b c)=.ret ((vP (dG (ps.map toPq) n) B st g O (r.foldl eO s) E J j).set 5 none) true (.list<|(r.foldl eO s).map jw):=by
 induction R with
 |none t h=>intro L Y s a b c M N S U;subst M;let(E,e):=(Dq v y C o G N S a b c t).1 h;calc(1,L,E,b,c,rfl,N,Ai rfl e)
 | @far left H l T t h hT u=>intro L Y s a b c M N S U;subst M;let(E,J,e):=(Dq v y C o G N S a b c t).2.1 l T h hT u;calc(1,L,E,J,c,rfl,N,Ai rfl e)
 | @go left I A len p r P N R ih=>
  intro L Y s a b c M D S U;subst M;let(_,_,(z,w,_),_,_):=m6 f S C P;let(H,l,t,h,rfl,hp1,hp2,e):=P.ex;have T:=jP S.fit C t;let(Q,q1,q2,q):=(Dq v y C o G D S a b c t).2.2 l h N;have m:Q=p:=by grind
  subst m;let(E,J,j,e1):=q (by have:=U 1;simpa using this);have d:lf (rR Q L<|eY H l.c g)=I:=by rw[Uj Q _ L D<|Uh T h,e]
  let(k,B,x,b2,i,f1,f2,f3):=ih (rR Q L<|eY H l.c g) z (eO s (l.d,Q)) E J j d (by rw[Oq];calc D) (by rw[d];calc w) (λk=>by have:=U<|k+1;simpa using this);calc(k+1,B,x,b2,i,f1,f2,Dp rfl e1 f3)
def Kp (G:aU n ps)(O:n<=1000)(Q:(!ps)<=1000000)(E:st<n)(N:g<n)(D:st≠g)(R:Runs n ps st g C (lf L) r A)(H:(!L)=2*!ps)(S:St n ps st (lf L) U)(T:∀k,(!(grouped<|r.take k))<=16000000):
  ∃B,lf B=A/\(!B)=2*!ps/\Pg.lH [#[dG (ps.map toPq) n],none,#[.int st],#[.int g],#[HJ C]] (L.map .int)=#[(true,.list<|(grouped r).map jw,B.map .int)]:=by
 let(k,B,a,b,c,h1,h2,J):=abY G O Q E N D R L U [] none none none rfl H S T;have M:=yj J (by intro z;cases z);refine⟨B,h1,h2,?_⟩;delta Pg.lH Pg.JZ Cu;rw[ah ⟨rfl,rfl⟩];delta wG;x_go;have I:vP (dG (ps.map toPq) n) L st g C [] none none none=[#[(Tg.fr,dG (ps.map toPq) n)],#[(Tg.io,.list<|L.map .int)],#[(Tg.fr,.int st)],#[(Tg.fr,.int g)],#[(Tg.fr,HJ C)],#[(Tg.ow,.list [])],none,none,none]:=rfl;rw[I] at M;rw[M];rfl
def rT:¬aO->¬Int
 |[]=>[]
 |q::r=>q.w::0::rT r
theorem Dr:∀ps:¬aO,(!(rT ps))=2*!ps
 |[]=>rfl
 |_::r=>by erw[rT,a8,Dr r];lk
theorem Aj:∀ps:¬aO,lf (rT ps)=gw ps
 |[]=>by funext i;delta lf gw rT;simp
 |q::r=>by
  have A:=Aj r;funext i
  match i with
  |0=>rfl
  |1=>rfl
  |i+2=>
   have B:lf (rT (q::r)) (i+2)=lf (rT r) i:=rfl;have G:gw (q::r) (i+2)=gw r i:=by delta gw;simp
   simp_all
def lJ:¬aO->¬Int->¬Int
 |q::r,f::C=>(q.w - f)::f::lJ r C
 |_,_=>[]
theorem Kq:∀ps:¬aO,lJ ps (replicate (!ps) 0)=rT ps
 |[]=>rfl
 |q::r=>by rw[a8,jI,lJ,rT,Kq r,oC]
def Xz (J:(!ps)<=1000000)(H:(!ps)<=!fl):Pg.fj [hD ps,.list<|fl.map .int]=#[(true,.list<|(lJ ps fl).map .int)]:=by
 delta Pg.fj Pg.Bm hD yC;x_go;erw[Zk];rw[ah<|‹H›];x_go;have C:∀all (r:¬aO) (fs A:¬Int) (x y:↑()),(!A)+2*(!r)<=16000000->∃b G,cT (gT 2<|gC (gN 3)<|gC (gN 4) g0) (aN (d8 2<|aC (v2 jX (v2 aW (vN 3)<|vC<|.int 2)<|vN 4) a0)<|d8 2<|aC (vF 4) a0) (tW ((r.map toPq).map pD)<|fs.map .int)
   [#[(Tg.fr,.list<|(ps.map toPq).map pD)],#[(Tg.fr,all)],#[(Tg.ow,.list<|A.map .int)],ob x,ob y]=.nxt [#[(Tg.fr,.list<|(ps.map toPq).map pD)],#[(Tg.fr,all)],#[(Tg.ow,.list<|(A++lJ r fs).map .int)],ob b,ob G]:=λall r=>by
  induction r with
  |nil=>intro fs A x y _;calc(x,y,by simp[cT,lJ,tW])
  |cons q r I=>
   intro fs A x y D;cases fs with
   |nil=>calc(x,y,by simp[cT,lJ,tW])
   |cons f fs=>
    let(b,G,B):=I fs (A++[q.w - f,f]) (#[pD<|toPq q]) (#[.int f]) (by rw[aE];erw[a8,di] at D ⊢;lk);refine(b,G,?_);have E:tW (((q::r).map toPq).map pD) ((f::fs).map .int)=.tuple [pD<|toPq q,.int f]::tW ((r.map toPq).map pD) (fs.map .int):=rfl;rw[E,cT];erw[a8] at D;delta pD at B ⊢;walk_at "e4";rw[ah (by rw[aE,ac];calc aY (by simp;lk))];x_go
    have:(A++[q.w - f,f]).map PyData.int=A.map .int++[.int<|q.w - f]++[.int f]:=by simp
    rw[this] at B;rw[lJ];erw[cr,jS,fF,qP] at B ⊢;exact B
 let(b,G,B):=C (.list<|fl.map .int) ps fl [] none none (by simp;lk);erw[fe,fF,ig] at B;rw[B];rfl
def abZ (D:(!ps)<=1000000):Pg.fj [hD ps,.list<|replicate (!ps)<|.int 0]=#[(true,.list<|(rT ps).map .int)]:=by have:=Xz (fl:=replicate (!ps) 0) D 's';rw[oj,Kq] at this;calc this
end PM
namespace PM
open L2 VM Sp
variable {left:Lf}
structure Small (n:Nat)(ps:¬aO):Prop where
 n1:n<=1000
 p1:(!ps)<=1000
 vs:∃vs:¬Int,(!vs)<=16000000/\∀v∈vals ps,v∈vs
def Kr (z:aU n ps):∀q∈ps.map toPq,(0<=q.1/\q.1<(n:Int))/\0<=q.2.1/\q.2.1<(n:Int):=λq T=>by let(p,D,rfl):=a6.mp T;have:=z.ra p D;have:=z.rb p D;show(0<=(p.a:Int)/\(p.a:Int)<n)/\0<=(p.b:Int)/\(p.b:Int)<n;lk
def Ds (z:aU n ps)(C:st<n)(D:st≠g)(I:∃vs:¬Int,(!vs)<=16000000/\∀v∈vals ps,v∈vs)(R:Runs n ps st g c (gw ps) r B):
  (∀x∈r,1<=x.1/\1<=x.2)/\∀k,(!(grouped<|r.take k))<=16000000:=by
 have E:St n ps st (gw ps) (λv=>if v=st then 0 else 1):=yN z;let(_,_,_,M,G):=Mi z C R E;have h1:∀x∈r,1<=x.1/\1<=x.2:=λx A=>by let(a,b,_):=M x A;erw[b8 D,dE] at b;lk
 refine⟨h1,λk=>?_⟩;let(vs,J,H):=I;have:=grouped_len (G.sublist<|j2 k r) (λx A=>h1 x<|df A) λx A=>H _<|Ot z C R E x<|df A;lk
def XC (z:aU n ps)(sm:Small n ps):VM.fL [.int n,hD ps]=#[(false,dG (ps.map toPq) n)]:=by have:=JW ∅ (by have:=sm.n1;lk) (by rw[ac];calc sm.p1) (Kr z);assumption
def ahm (z:aU n ps)(sm:Small n ps)(C:st<n)(N:g<n)(B:st≠g):∃r A,Runs n ps st g none (gw ps) r A/\Pg.nJ [.int n,hD ps,.int st,.int g]=#[(true,.list<|(grouped r).map jw)]:=by
 have E:St n ps st (gw ps) (λv=>if v=st then 0 else 1):=yN z;let(r,A,R):=Xy z C N B E;refine(r,A,R,?_);have G:(!ps)<=1000000:=by have:=sm.p1;lk
 rw[<-Aj] at R E;let(H,h1,h2,J):=Kp z sm.n1 G C N B R (Dr ps) E (Ds z C B sm.vs<|by rwa [<-Aj]).2;unfold Pg.nJ Pg.J0;x_go;unfold hD yC;x_go;rw[ac,ac,zP _ ∅];have D:=abZ G;have em:=XC z sm;unfold hD yC at D em;x_go;rw[D];x_go;erw[Jg,Je,vp,Oc];x_go;rw[em];x_go;erw[HJ] at J;rw[J];rfl
def qu (L:¬Int)(k:Nat):¬Int:=(List.range k).map λi=>lf L<|2*i+1
def Dt (z:aU n ps)(sm:Small n ps)(D:st<n)(N:g<n)(C:st≠g)(R:Runs n ps st g #[T] (gw ps) r A):∃B,lf B=A/\(!B)=2*!ps/\Pg.iy [.int n,hD ps,.int st,.int g,.int T]=#[(true,.list<|(qu B !ps).map .int)]:=by
 have G:St n ps st (gw ps) (λv=>if v=st then 0 else 1):=yN z;have I:(!ps)<=1000000:=by have:=sm.p1;lk
 have O:=sm.p1;have E:=R;rw[<-Aj] at E G;let(B,h1,h2,J):=Kp z sm.n1 I D N C E (Dr ps) G (Ds z D C sm.vs R).2;refine(B,h1,h2,?_);unfold Pg.iy Pg.Gn;x_go;unfold hD yC;x_go;rw[ac,ac,zP _ ∅];have H:=abZ I;have em:=XC z sm;unfold hD yC at H em;x_go;rw[H];x_go;erw[Qt,Je,vp,Oc];x_go;rw[em];x_go;erw[HJ] at J;rw[J];walk_at "e4";rw[Sx (by rw[oO];calc aY ∅)];rw[g8 (f:=λd=>match d with|.int i=>.int (lf B (2*i.toNat+1))|_=>.none) (by
  intro d M;let(j,Y):=gi.mp M;let(Y,rfl):=zJ Y;rw[dq] at Y;refine([#[(Tg.fr,.int<|0+j)],#[(Tg.fr,.list<|B.map .int)]],?_,rfl,?_)
  .rfl
  .walk_at "e4";have e:(2)*(0+j)+1=((2*j+1:Nat):Int):=by lk
   rw[e,Ko ∅];have L:(0+(j:Int)).toNat=j:=by lk
   erw[L];rfl)]
 x_go;congr 3;unfold jL qu;simp
def ajE (z:aU n ps)(sm:Small n ps)(C:st<n)(N:g<n)(A:st≠g):∃r B,Runs n ps st g #[T] (gw ps) r (lf B)/\(!B)=2*!ps/\Pg.iy [.int n,hD ps,.int st,.int g,.int T]=#[(true,.list<|(qu B !ps).map .int)]:=by have E:St n ps st (gw ps) (λv=>if v=st then 0 else 1):=yN z;let(r,D,R):=Xy z C N A E;let(B,rfl,h2,J):=Dt z sm C N A R;calc(r,B,R,h2,J)
end PM
namespace Sp
variable {I:Nat->Int}
end Sp
namespace LH
open L2 VM Sp PM
def zs (F:aO->Int->Int):¬aO->¬Int->Int
 |q::r,f::fs=>F q f+zs F r fs
 |_,_=>0
theorem XD (F:aO->Int->Int)(L:¬Int):∀(ps:¬aO) (k:Nat),zs F ps ((List.range' k !ps).map λi=>lf L<|2*i+1)=fB (λi q=>F q<|lf L<|2*i+1) k ps
 |[],_=>rfl
 |q::r,k=>by rw[a8,o1,aS,zs,fB,XD F L r<|k+1]
def Uq (F:aO->Int->Int)(L:¬Int)(ps:¬aO):zs F ps (qu L !ps)=fB (λi q=>F q<|lf L<|2*i+1) 0 ps:=by delta qu;rw[nr];calc XD F L ps 0
def Fits (ps:¬aO)(fl:¬Int)(A:Nat->Int):Prop:=∀(i:Nat) q f,ps[i]? =#[q]->fl[i]? =#[f]->(f<q.w->A q.b - A q.a<=q.l)/\(0<f->q.l<=A q.b - A q.a)
structure iK (n:Nat)(ps:¬aO)(st g:Nat)(T:Int)(fl:¬Int)(M C:Int):Prop where
 len:(!fl)=!ps
 lo:∀(i:Nat) q f,ps[i]? =#[q]->fl[i]? =#[f]->0<=f/\f<=q.w
 net:∀z:Nat,zs (λq f=>f*(Sp.b2 (q.b=z) - Sp.b2 (q.a=z))) ps fl=M*(Sp.b2 (g=z) - Sp.b2 (st=z))
 cost:zs (λq f=>f*q.l) ps fl=C
 M0:0<=M
 price:∃π:Nat->Int,π st=0/\T+1<=π g/\(0<M->π g=T+1)/\Fits ps fl π
 near:∃π:Nat->Int,π st=0/\Fits ps fl π/\(π g<=T\/π g<=1/\∀f∈fl,f<=0)
theorem HN:∀{r:¬(Int×Int)},(∀x∈r,0<x.2)->0<=many r
 |[],_=>by simp[many]
 |x::r,h=>by
  have a:=h x aa;have b:=HN (r:=r) λy n=>h y<|ae _ n;have e:many (x::r)=x.2+many r:=by simp[many]
  lk
def Mj (h:(qu L k)[i]? =#[f]):i<k/\f=lf L (2*i+1):=by
 delta qu at h;rw[ai] at h;by_cases N:i<k
 .rw[gc N] at h;exact⟨N,by simpa using h.symm⟩
 .rw[bg (by simp;lk)] at h;cases h
variable {T:Int}
def aod (ps:¬aO)(z:Nat):net ps (gw ps) z=0:=by delta net;rw[jd (g:=λ_ _=>0) ps 0 λi q _=>by rw[sZ];simp,pB]
def alo (ps:¬aO):cost ps (gw ps)=0:=by delta cost;rw[jd (g:=λ_ _=>0) ps 0 λi q _=>by rw[sZ];simp,pB]
def ab0 (z:aU n ps)(D:st<n)(R:Runs n ps st g #[T] left r A)(S:St n ps st left C)(h:r≠[]\/C g<=T):∃B,St n ps st A B/\B g<=T:=by
 induction R generalizing C with
 |none _ _=>calc(C,S,by rcases h with h|h;calc absurd rfl h;calc h)
 |far _ _ _ _=>calc(C,S,by rcases h with h|h;calc absurd rfl h;calc h)
 |go P N R H=>let(_,_,(l,E,G),_,_):=m6 z S D P;calc H E<|.inr (by rw[G];calc N T rfl)
def ael (R:Runs n ps st g c left [] A):A=left:=by cases R<;>rfl
def vQ (G:aU n ps)(D:st<n)(m:g<n)(p:st≠g)(R:Runs n ps st g #[T] (gw ps) r (lf L)):iK n ps st g T (qu L !ps) (many r) (spent r):=by
 have H:St n ps st (gw ps) (λv=>if v=st then 0 else 1):=yN G;let((u,J),I,B,hr,_):=Mi G D R H;let(U,M,y,j,k):=Z5 G D m R H;have A:∀{N},cM n (lf L) (bH ps) N->Fits ps (qu L !ps) N:=λM i q f C O=>by
  let(_,rfl):=Mj O;have h1:=J.laid.sum i q C;refine⟨λh=>?_,λh=>?_⟩
  .have:=M.pay q.a (2*i,q.b,q.l) (G.ra q<|ag C) (fZ.mpr (i,q,C,.inl ⟨rfl,rfl⟩)) (by show 0<lf L (2*i);lk);have E:=this;lk
  .have:=M.pay q.b (2*i+1,q.a,-q.l) (G.rb q<|ag C) (fZ.mpr (i,q,C,.inr ⟨rfl,rfl⟩)) h;have E:=this;lk
 refine(by simp[qu],λi q f C O=>?_,λz=>?_,?_,HN λx t=>(hr x t).1,(U,y,j,λY=>k<|.inl ?_,A M),?_)
 .let(_,rfl):=Mj O;have h1:=J.laid.sum i q C;have h2:=J.laid.nn<|2*i;have b:=J.laid.nn<|2*i+1;lk
 .rw[Uq];have:=I z;rw[aod,kb] at this;exact this
 .rw[Uq];rw[alo,kb] at B;exact B
 .intro z;rw[z] at Y;simp[many] at Y
 .by_cases z:r=[]
  .subst z;have e:=ael R;refine(_,H.z,A (by rw[e];calc H.fit),.inr ⟨by split<;>lk,λf l=>?_⟩);let(i,o):=gi.mp l;let(_,h):=Mj o;rw[h,e,sZ];exact b7 _
  .let(N,S,Q):=ab0 G D R H<|.inl z;calc(N,S.z,A S.fit,.inl Q)
def Ur (C:n<=1000)(D:(!ps)<=15):Small n ps:=(C,by lk,vals ps,by rw[aej];calc ck (nk ⋯ D)<|by decide,λ_ h=>h)
theorem ab1 (s:Nat):∀(ps:¬aO) (fl:¬Int),zs (λq f=>f*(Sp.b2 (q.a=s) - Sp.b2 (q.b=s))) ps fl= - zs (λq f=>f*(Sp.b2 (q.b=s) - Sp.b2 (q.a=s))) ps fl
 |[],_=>by simp[zs]
 |_::_,[]=>by simp[zs]
 |q::r,f::fs=>by rw[zs,zs,ab1 s r fs,Int.neg_add,←Int.mul_neg];lk
theorem ab2 (D:0<=B):∀(ps:¬aO) (fl:¬Int),(∀q∈ps,∀f∈fl,-B<=F q f/\F q f<=B)→-(B*!ps)<=zs F ps fl/\zs F ps fl<=B*!ps
 |[],_,_=>by simp[zs]
 |q::r,[],_=>by
  have:0<=B*((!(q::r)):Int):=fA D ∅
  erw[zs];lk
 |q::r,f::fs,h=>by have G:=ab2 D r fs λL E A C=>h L (ae _ E) A<|ae _ C;have h1:=h q aa f aa;rw[zs,a8];lk
end LH
namespace LH
open L2 VM Sp PM
variable {T:Int}
def Ut (R:Runs n ps st g none left r A)(h:∀x∈r,x.1<=T):Runs n ps st g #[T] left r A:=by
 induction R with
 |none t C=>calc .none t C
 |far _ _ J _=>lk
 |go P _ _ D=>calc .go P (λI e=>by k_go;calc h _ aa) (D λx B=>h x<|ae _ B)
theorem XF:∀{ps:¬aO},(∀q∈ps,0<=q.l)->∀v∈vals ps,v<=(ps.map aO.l).sum
 |[],_,v,M=>by
  have:v=0:=by simpa [vals] using M
  simp[this]
 |q::r,h,v,M=>by
  have D:=h q aa;have B:=XF (ps:=r) λL C=>h L<|ae _ C;rw[vals,aT,aT,a6,a6] at M;rw[aS,cx];rcases M with⟨x,A,rfl⟩|A|⟨x,A,rfl⟩
  .have:=B x A;lk
  .have:=B v A;lk
  .have:=B x A;lk
theorem Ks (T:Int):∀r:¬(Int×Int),many r*(T+1) - spent r=wsum (λl=>T+1 - l) r
 |[]=>by simp[many,spent,wsum]
 |x::r=>by
  have A:=Ks T r;have e:many (x::r)=x.2+many r:=by simp[many]
  have G:spent (x::r)=x.2*x.1+spent r:=by simp[spent]
  rw[e,G,pF,←A,ir,mul_sub];lk
def Ou (r:¬(Int×Int)):many r=wsum (λ_=>1) r:=by simp[many,wsum]
def alp (r:st≠g)(F:iK n ps st g T fl M C):zs (λq f=>f*(Sp.b2 (q.a=st) - Sp.b2 (q.b=st))) ps fl=M:=by rw[ab1,F.net st];delta Sp.b2;rw[ah rfl,ap<|λz=>r z.symm];lk
theorem ab3 (Z:¬Nat)(c:Nat->aO->Int):∀(ps:¬aO) (fl:¬Int),zs (λq f=>f*(Z.map λz=>c z q).sum) ps fl=(Z.map λz=>zs (λq f=>f*c z q) ps fl).sum
 |[],_=>by
  erw[zs];induction Z with
  |nil=>rfl
  |cons z Z A=>rw[aS,cx,←A];rfl
 |_::_,[]=>by
  erw[zs];induction Z with
  |nil=>rfl
  |cons z Z A=>rw[aS,cx,←A];rfl
 |q::r,f::fs=>by
  erw[zs];rw[ab3 Z c r fs];induction Z with
  |nil=>simp
  |cons z Z A=>rw[aS,aS,aS,cx,cx,cx,←A,ky];lk
theorem XH (F G:A->Int):∀Z:¬A,(Z.map λz=>F z - G z).sum=(Z.map F).sum - (Z.map G).sum
 |[]=>rfl
 |z::Z=>by rw[aS,aS,aS,cx,cx,cx,XH F G Z];lk
theorem XJ (M:Int)(F:Nat->Int):∀Z:¬Nat,(Z.map λz=>M*F z).sum=M*(Z.map F).sum
 |[]=>by simp
 |z::Z=>by rw[aS,aS,cx,cx,XJ M F Z,ky]
end LH
namespace LH
open L2 VM Sp PM
variable {ps:¬aO}
structure XK (n:Nat)(ps:¬aO)(st g:Nat)(G:¬(Int×Int)):Prop where
 e:Pg.nJ [.int n,hD ps,.int st,.int g]=#[(true,.list<|G.map jw)]
 rise:qt G
 len:(!G)<=16000000
 low:∀x∈G,x.1<=(ps.map aO.l).sum
 flow:∀T:Int,∃fl M C,iK n ps st g T fl M C/\Pg.iy [.int n,hD ps,.int st,.int g,.int T]=#[(true,.list<|fl.map .int)]/\M*(T+1) - C=jQ T G
 most:∃T fl C,iK n ps st g T fl (many G) C
def aem (B:aU n ps)(sm:Small n ps)(C:st<n)(N:g<n)(A:st≠g):∃G,XK n ps st g G:=by
 let(r,D,R,Q):=ahm B sm C N A;have M:St n ps st (gw ps) (λv=>if v=st then 0 else 1):=yN B;let(_,_,_,_,O):=Mi B C R M;let(I,gl):=Ds B C A sm.vs R;have low:∀x∈r,x.1<=(ps.map aO.l).sum:=λx E=>XF (λq h=>by have:=B.l1 q h;lk) x.1 (Ot B C R M x E);refine⟨grouped r,Q,vO r [] O I ⟨.nil,λ_ h=>nomatch h⟩ (λ_ _ _ h=>nomatch h),?_,λx E=>?_,λT=>?_,?_⟩
 .have:=gl !r;rwa [List.take_length] at this
 .rcases HF r [] x E with⟨z,U,e⟩|h
  .rw[e];exact low z U
  .cases h
 .let(H,J):=aeg (T:=T) R;let(L,rfl,_,e):=Dt B sm C N A J;refine⟨_,_,_,vQ B C N A J,e,?_⟩;rw[Ks,←Ue r O,jQ,Gv]
 .let(L,rfl,_,e):=Dt B sm C N A<|Ut R low;rw[Ou,Gv,←Ou];calc⟨_,_,_,vQ B C N A<|Ut R low⟩
def aen {fl:¬Int}(D:(!fl)=!ps)(E:∀q∈ps,q.w<=B)(h:∀(i:Nat) q f,ps[i]? =#[q]->fl[i]? =#[f]->0<=f/\f<=q.w):∀f∈fl,0<=f/\f<=B:=λf C=>by
 let(i,N):=gi.mp C;have A:i<!ps:=by grind
 have h1:=h i _ f (ar A) N;grind
def alq {fl:¬Int}(r:st≠g)(F:iK n ps st g T fl M C)(D:0<=B)(E:∀q∈ps,q.w<=B):M<=B*!ps:=by
 have A:=aen F.len E F.lo;have h:=ab2 D ps fl (F:=λq f=>f*(Sp.b2 (q.a=st) - Sp.b2 (q.b=st))) (λq _ f h=>by
  have:=A f h;delta Sp.b2;split<;>split<;>lk)
 rw[alp r F] at h;calc h.2
def ab4 (h:(!xs)+(!ys)<=16000000):tX (.list xs) (.list ys)=#[.list<|xs++ys]:=ah<|jp<|aY h
end LH
namespace LH
open L2 VM Sp PM
variable {M C:Int}
theorem Uu (m:Int)(F:aO->Int):∀(ps:¬aO) (fl:¬Int),zs (λq f=>f*(m*F q)) ps fl=m*zs (λq f=>f*F q) ps fl
 |[],_=>by simp[zs]
 |_::_,[]=>by simp[zs]
 |q::r,f::fs=>by rw[zs,zs,Uu m F r fs,ky,←ny,mB f m,ny]
theorem Uv (A:Nat->Int)(a:Nat):∀{Z:¬Nat},Z.Nodup->(Z.map λz=>A z*Sp.b2 (a=z)).sum=if a∈Z then A a else 0
 |[],_=>by simp
 |z::Z,nd=>by
  let(h1,h2):=bd.mp nd;rw[aS,cx,Uv A a h2];delta Sp.b2;by_cases e:a=z
  .subst e;simp[h1]
  .simp[e]
def Ov (A:Nat->Int)(h:a<n):((List.range n).map λz=>A z*Sp.b2 (a=z)).sum=A a:=by rw[Uv A a o3,ah<|gz.mpr h]
def Uw (A:Nat->Int)(G:a<n)(B:b<n):((List.range n).map λz=>A z*(Sp.b2 (b=z) - Sp.b2 (a=z))).sum=A b - A a:=by
 have e:((List.range n).map λz=>A z*(Sp.b2 (b=z) - Sp.b2 (a=z)))=(List.range n).map λz=>A z*Sp.b2 (b=z) - A z*Sp.b2 (a=z):=cK λz _=>by rw[mul_sub]
 rw[e,XH,Ov A B,Ov A G]
theorem xK:∀{ps:¬aO}{fl:¬Int},(∀q∈ps,∀f,F q f=G q f)->zs F ps fl=zs G ps fl
 |[],_,_=>by simp[zs]
 |_::_,[],_=>by simp[zs]
 |q::r,f::fs,h=>by rw[zs,zs,h q aa,xK λL T A=>h L (ae _ T) A]
def ajF (D:aU n ps)(B:st<n)(N:g<n)(net:∀z:Nat,zs (λq f=>f*(Sp.b2 (q.b=z) - Sp.b2 (q.a=z))) ps fl=M*(Sp.b2 (g=z) - Sp.b2 (st=z)))(A:Nat->Int):zs (λq f=>f*(A q.b - A q.a)) ps fl=M*(A g - A st):=by
 have E:zs (λq f=>f*(A q.b - A q.a)) ps fl=zs (λq f=>f*((List.range n).map λz=>A z*(Sp.b2 (q.b=z) - Sp.b2 (q.a=z))).sum) ps fl:=xK λq T f=>by rw[Uw A (D.ra q T)<|D.rb q T]
 rw[E,ab3 (List.range n)<|λz q=>A z*(Sp.b2 (q.b=z) - Sp.b2 (q.a=z))];have G:((List.range n).map λz=>zs (λq f=>f*(A z*(Sp.b2 (q.b=z) - Sp.b2 (q.a=z)))) ps fl)=(List.range n).map λz=>M*(A z*(Sp.b2 (g=z) - Sp.b2 (st=z))):=cK λz _=>by rw[Uu (A z)<|λq=>Sp.b2 (q.b=z) - Sp.b2 (q.a=z),net z,←ny,mB (A z) M,ny]
 rw[G,XJ M,Uw A B N]
theorem XM (F G:aO->Int->Int):∀(ps:¬aO) (fl:¬Int),zs (λq f=>F q f - G q f) ps fl=zs F ps fl - zs G ps fl
 |[],_=>by simp[zs]
 |_::_,[]=>by simp[zs]
 |q::r,f::fs=>by rw[zs,zs,zs,XM F G r fs];lk
theorem XQ:∀{ps:¬aO}{fl:¬Int},(∀(i:Nat) q f,ps[i]? =#[q]->fl[i]? =#[f]->F q f<=G q f)->zs F ps fl<=zs G ps fl
 |[],_,_=>by simp[zs]
 |_::_,[],_=>by simp[zs]
 |q::r,f::fs,h=>by have B:=h 0 q f rfl rfl;have:=XQ (F:=F) (G:=G) (ps:=r) (fl:=fs) λi L A a b=>h (i+1) L A ‹a› ‹b›;rw[zs,zs];lk
theorem af6:∀{ps:¬aO}{fl:¬Int},(∀(i:Nat) q f,ps[i]? =#[q]->fl[i]? =#[f]->F q f=G q f)->zs F ps fl=zs G ps fl
 |[],_,_=>by simp[zs]
 |_::_,[],_=>by simp[zs]
 |q::r,f::fs,h=>by rw[zs,zs,h 0 q f rfl rfl,af6 λi L A a b=>h (i+1) L A ‹a› ‹b›]
def over (A:Nat->Int)(q:aO):Int:=if q.l<A q.b - A q.a then q.w*(A q.b - A q.a - q.l) else 0
def Du (D:aU n ps)(B:st<n)(N:g<n)(net:∀z:Nat,zs (λq f=>f*(Sp.b2 (q.b=z) - Sp.b2 (q.a=z))) ps fl=M*(Sp.b2 (g=z) - Sp.b2 (st=z)))(cost:zs (λq f=>f*q.l) ps fl=C){A:Nat->Int}(r:A st=0)(E:A g=T+1):M*(T+1) - C=zs (λq f=>f*(A q.b - A q.a - q.l)) ps fl:=by have e:=ajF D B N net A;rw[r,E,oC] at e;rw[<-e,←cost,←XM];calc xK λq _ f=>by rw[mul_sub f (A q.b - A q.a) q.l]
def Ow (D:aU n ps)(A:st<n)(N:g<n)(lo:∀(i:Nat) q f,ps[i]? =#[q]->fl[i]? =#[f]->0<=f/\f<=q.w)(net:∀z:Nat,zs (λq f=>f*(Sp.b2 (q.b=z) - Sp.b2 (q.a=z))) ps fl=M*(Sp.b2 (g=z) - Sp.b2 (st=z)))(cost:zs (λq f=>f*q.l) ps fl=C){B:Nat->Int}(r:B st=0)(E:B g=T+1):M*(T+1) - C<=zs (λq _=>over B q) ps fl:=by
 rw[Du D A N net cost r E];refine XQ λi q f a b=>?_;have h:=lo i q f a b;delta over;split
 .simp_all
 .calc jv h.1 ∅
def Gx (E:aU n ps)(D:st<n)(N:g<n)(lo:∀(i:Nat) q f,ps[i]? =#[q]->fl[i]? =#[f]->0<=f/\f<=q.w)(net:∀z:Nat,zs (λq f=>f*(Sp.b2 (q.b=z) - Sp.b2 (q.a=z))) ps fl=M*(Sp.b2 (g=z) - Sp.b2 (st=z)))(cost:zs (λq f=>f*q.l) ps fl=C){A:Nat->Int}(r:A st=0)(H:A g=T+1)(B:Fits ps fl A):M*(T+1) - C=zs (λq _=>over A q) ps fl:=by
 rw[Du E D N net cost r H];refine af6 λi q f a b=>?_;have h:=lo i q f a b;have G:=B i q f a b;delta over;split
 .grind
 .rename_i z;by_cases p:0<f
  .have:=G.2 p
   have:A q.b - A q.a - q.l=0:=by lk
   grind
  .omega
theorem vU (F:aO->Int):∀{ps:¬aO}{fl:¬Int},(!fl)=!ps->zs (λq _=>F q) ps fl=(ps.map F).sum
 |[],_,_=>by simp[zs]
 |_::_,[],h=>by simp at h
 |q::r,f::fs,h=>by rw[zs,aS,cx,vU F<|‹h›]
end LH
namespace LH
open L2 VM Sp PM
variable {M:Int}
def inF (z:Nat):aO->Int->Int:=λq f=>f*Sp.b2 (q.b=z)
def outF (z:Nat):aO->Int->Int:=λq f=>f*Sp.b2 (q.a=z)
theorem vV (z:Nat):∀(ps:¬aO) (fl:¬Int),zs (λq f=>f*(Sp.b2 (q.b=z) - Sp.b2 (q.a=z))) ps fl=zs (inF z) ps fl - zs (outF z) ps fl
 |[],_=>by simp[zs]
 |_::_,[]=>by simp[zs]
 |q::r,f::fs=>by rw[zs,zs,zs,vV z r fs,mul_sub];delta inF outF;lk
def Rf (p:Prop)[Decidable p]:0<=Sp.b2 p:=by delta Sp.b2;split<;>decide
theorem aad:∀{ps:¬aO}{fl:¬Int},(∀(i:Nat) q f,ps[i]? =#[q]->fl[i]? =#[f]->0<=F q f)->0<=zs F ps fl
 |[],_,_=>by simp[zs]
 |_::_,[],_=>by simp[zs]
 |q::r,f::fs,h=>by have B:=h 0 q f rfl rfl;have:=aad (F:=F) (ps:=r) (fl:=fs) λi L A a b=>h (i+1) L A ‹a› ‹b›;rw[zs];lk
theorem Fv:∀{ps:¬aO}{fl:¬Int},(∀(i:Nat) q f,ps[i]? =#[q]->fl[i]? =#[f]->0<=F q f)->∀(i:Nat) q f,ps[i]? =#[q]->fl[i]? =#[f]->F q f<=zs F ps fl
 |[],_,_,i,q,f,a,_=>by simp at a
 |_::_,[],_,i,q,f,_,b=>by simp at b
 |p::r,G::fs,h,0,q,f,a,b=>by
  cases a;cases b;have:=aad (F:=F) (ps:=r) (fl:=fs) λi L A a b=>h (i+1) L A ‹a› ‹b›;rw[zs];lk
 |p::r,G::fs,h,i+1,q,f,a,b=>by have B:=h 0 p G rfl rfl;have:=Fv (F:=F) (ps:=r) (fl:=fs) (λi L A a b=>h (i+1) L A ‹a› ‹b›) i q f ‹a› ‹b›;rw[zs];lk
theorem Ml:∀{ps:¬aO}{fl:¬Int},0<zs F ps fl->∃(i:Nat) (q:aO) (f:Int),ps[i]? =#[q]/\fl[i]? =#[f]/\0<F q f
 |[],_,h=>by simp[zs] at h
 |_::_,[],h=>by simp[zs] at h
 |q::r,f::fs,h=>by
  rw[zs] at h;by_cases L:0<F q f
  .exact(0,q,f,rfl,rfl,L)
  .let(i,B,A,a,b,c):=Ml (F:=F) (ps:=r) (fl:=fs) ∅;calc(i+1,B,A,by simpa using a,by simpa using b,c)
def ab5 [Decidable p](h:0<f*Sp.b2 p):0<f/\p:=by
 delta Sp.b2 at h;split at h
 .rename_i D;exact⟨by lk,D⟩
 .omega
structure Cons (ps:¬aO)(st g:Nat)(fl:¬Int)(M:Int):Prop where
 nn:∀(i:Nat) q f,ps[i]? =#[q]->fl[i]? =#[f]->0<=f
 net:∀z:Nat,zs (λq f=>f*(Sp.b2 (q.b=z) - Sp.b2 (q.a=z))) ps fl=M*(Sp.b2 (g=z) - Sp.b2 (st=z))
def Cons.ajG (K:Cons ps st g fl M)(z:Nat):∀(i:Nat) q f,ps[i]? =#[q]->fl[i]? =#[f]->0<=inF z q f:=λi q f a b=>fA (K.nn i q f a b)<|Rf _
def Cons.af7 (K:Cons ps st g fl M)(z:Nat):∀(i:Nat) q f,ps[i]? =#[q]->fl[i]? =#[f]->0<=outF z q f:=λi q f a b=>fA (K.nn i q f a b)<|Rf _
def Ux (h:0<zs (outF z) ps fl):∃(i:Nat) (q:aO) (f:Int),ps[i]? =#[q]/\fl[i]? =#[f]/\0<f/\q.a=z:=by let(i,q,f,a,b,c):=Ml h;have:=ab5 c;calc(i,q,f,a,b,this.1,this.2)
def Cons.start (K:Cons ps st g fl M)(r:st≠g)(A:0<M):∃(i:Nat) (q:aO) (f:Int),ps[i]? =#[q]/\fl[i]? =#[f]/\0<f/\q.a=st:=by
 have e:=K.net st;rw[vV] at e;have h1:=aad<|K.ajG st;have G:Sp.b2 (g=st) - Sp.b2 (st=st)= -1:=by delta Sp.b2;rw[ap<|λz=>r z.symm,ah rfl];rfl
 rw[G] at e;calc Ux ∅
def Cons.on (K:Cons ps st g fl M)(A:0<=M){i:Nat}(a:ps[i]? =#[q])(b:fl[i]? =#[f])(C:0<f)(N:q.b≠g\/M=0):∃(j:Nat) (p:aO) (h:Int),ps[j]? =#[p]/\fl[j]? =#[h]/\0<h/\p.a=q.b:=by
 have e:=K.net q.b;rw[vV] at e;have h1:=Fv (K.ajG q.b) i q f a b;have h2:inF q.b q f=f:=by delta inF Sp.b2;rw[ah rfl];lk
 rw[h2] at h1;have J:M*(Sp.b2 (g=q.b) - Sp.b2 (st=q.b))<=0:=by
  rcases N with N|N
  .have:Sp.b2 (g=q.b)=0:=by delta Sp.b2;rw[ap<|λz=>N z.symm]
   rw[this];have:=Rf<|st=q.b;exact jv A ∅
  .rw[N];lk
 calc Ux ∅
def Cons.none (K:Cons ps st g fl 0){ρ:Nat->Int}(D:∀(i:Nat) q f,ps[i]? =#[q]->fl[i]? =#[f]->0<f->ρ q.a<ρ q.b):∀(i:Nat) q f,ps[i]? =#[q]->fl[i]? =#[f]->f=0:=by
 obtain⟨R,L⟩:∃R,∀q∈ps,ρ q.b<=R:=by
  clear K D;induction ps with
  |nil=>calc⟨0,by simp⟩
  |cons p r A=>
   let(R,h):=A;refine⟨max R<|ρ p.b,λq T=>?_⟩;rcases aI.mp T with rfl|T
   .exact pd ..
   .exact fg (h q T)<|kH ..
 have B:∀(k:Nat) (i:Nat) q f,ps[i]? =#[q]->fl[i]? =#[f]->0<f->R - ρ q.b<k->False:=λk=>by
  induction k with
  |zero=>intro i q f a b C G;have:=L q<|ag a;lk
  |succ k A=>intro i q f a b C G;let(j,p,h,E,N,H,e):=K.on (b7 _) a b C<|.inr rfl;have u:=D j p h E N H;rw[e] at u;exact A j p h E N H ∅
 intro i q f a b;have I:=K.nn i q f a b;by_cases C:0<f
 .exact(B ((R - ρ q.b).toNat+1) i q f a b C ∅).elim
 .omega
def XR (h:0<zs (inF z) ps fl):∃(i:Nat) (q:aO) (f:Int),ps[i]? =#[q]/\fl[i]? =#[f]/\0<f/\q.b=z:=by let(i,q,f,a,b,c):=Ml h;have:=ab5 c;calc(i,q,f,a,b,this.1,this.2)
def Cons.back (K:Cons ps st g fl M)(A:0<=M){i:Nat}(a:ps[i]? =#[q])(b:fl[i]? =#[f])(C:0<f)(D:q.a≠st):∃(j:Nat) (p:aO) (h:Int),ps[j]? =#[p]/\fl[j]? =#[h]/\0<h/\p.b=q.a:=by
 have e:=K.net q.a;rw[vV] at e;have h1:=Fv (K.af7 q.a) i q f a b;have h2:outF q.a q f=f:=by delta outF Sp.b2;rw[ah rfl];lk
 rw[h2] at h1;have J:0<=M*(Sp.b2 (g=q.a) - Sp.b2 (st=q.a)):=by
  have:Sp.b2 (st=q.a)=0:=by delta Sp.b2;rw[ap<|λz=>D z.symm]
  rw[this];have:=Rf<|g=q.a;exact fA A ∅
 calc XR ∅
def Cons.high (K:Cons ps st g fl M)(I:0<=M){ρ:Nat->Int}(D:∀(i:Nat) q f,ps[i]? =#[q]->fl[i]? =#[f]->0<f->ρ q.a<ρ q.b):∀(i:Nat) q f,ps[i]? =#[q]->fl[i]? =#[f]->0<f->ρ q.b<=ρ g:=by
 obtain⟨R,L⟩:∃R,∀q∈ps,ρ q.b<=R:=by
  clear K D;induction ps with
  |nil=>calc⟨0,by simp⟩
  |cons p r A=>
   let(R,h):=A;refine⟨max R<|ρ p.b,λq T=>?_⟩;rcases aI.mp T with rfl|T
   .exact pd ..
   .exact fg (h q T)<|kH ..
 have B:∀(k:Nat) (i:Nat) q f,ps[i]? =#[q]->fl[i]? =#[f]->0<f->R - ρ q.b<k->ρ q.b<=ρ g:=λk=>by
  induction k with
  |zero=>intro i q f a b C J;have:=L q<|ag a;lk
  |succ k A=>
   intro i q f a b C J;by_cases e:q.b=g
   .rw[e];exact b7 _
   .let(j,p,h,E,N,H,G):=K.on I a b C<|.inl e;have u:=D j p h E N H;rw[G] at u;have:=A j p h E N H ∅;lk
 intro i q f a b C;calc B ((R - ρ q.b).toNat+1) i q f a b C ∅
def Cons.low (K:Cons ps st g fl M)(I:0<=M){ρ:Nat->Int}(D:∀(i:Nat) q f,ps[i]? =#[q]->fl[i]? =#[f]->0<f->ρ q.a<ρ q.b):∀(i:Nat) q f,ps[i]? =#[q]->fl[i]? =#[f]->0<f->ρ st<=ρ q.a:=by
 obtain⟨R,L⟩:∃R,∀q∈ps,R<=ρ q.a:=by
  clear K D;induction ps with
  |nil=>calc⟨0,by simp⟩
  |cons p r A=>
   let(R,h):=A;refine⟨min R<|ρ p.a,λq T=>?_⟩;rcases aI.mp T with rfl|T
   .exact km ..
   .exact fg (pr ..)<|h q T
 have B:∀(k:Nat) (i:Nat) q f,ps[i]? =#[q]->fl[i]? =#[f]->0<f->ρ q.a - R<k->ρ st<=ρ q.a:=λk=>by
  induction k with
  |zero=>intro i q f a b C J;have:=L q<|ag a;lk
  |succ k A=>
   intro i q f a b C J;by_cases e:q.a=st
   .rw[e];exact b7 _
   .let(j,p,h,E,N,H,G):=K.back I a b C e;have u:=D j p h E N H;rw[G] at u;have:=A j p h E N H ∅;lk
 intro i q f a b C;calc B ((ρ q.a - R).toNat+1) i q f a b C ∅
def iK.cons (F:iK n ps st g T fl M C):Cons ps st g fl M:=⟨λi q f a b=>(F.lo i q f a b).1,F.net⟩
def iK.yO {T C:Int}(H:aU n ps)(F:iK n ps st g T fl M C)(Y:0<=T):∃A:Nat->Int,A st=0/\A g=T+1/\(∀v,0<=A v/\A v<=T+1)/\Fits ps fl A:=by
 let(G,U,N,m,E):=F.price;have B:∀(i:Nat) q f,ps[i]? =#[q]->fl[i]? =#[f]->0<f->G q.a<G q.b:=λi q f a b L=>by have:=(E i q f a b).2 L;have:=H.l1 q<|ag a;lk
 have D:∀{a:Int},0<=a->a<=T+1->min (max a 0) (T+1)=a:=by lk
 have I:∀{a b l:Int},0<=l->a - b<=l->min (max a 0) (T+1) - min (max b 0) (T+1)<=l:=by lk
 refine(λv=>min (max (G v) 0)<|T+1,?_,pc<|fg N<|kH ..,λv=>⟨by lk,km ..⟩,λi q f a b=>⟨λh=>I (by have:=H.l1 q<|ag a;lk) ((E i q f a b).1 h),λh=>?_⟩)
 .dsimp only;rw[U];exact D (b7 _) ∅
 .have h1:=(E i q f a b).2 h;have h2:=F.cons.low F.M0 B i q f a b h;have O:=F.cons.high F.M0 B i q f a b h;have Q:=B i q f a b h;have J:0<M:=by
   have r:=F.M0;by_cases z:M=0
   .have K:=F.cons;rw[z] at K;have:=K.none B i q f a b;lk
   .omega
  have k:=m J;k_ne;rwa [D ∅ ∅,D ∅ ∅]
def iK.le {T C:Int}(z:aU n ps)(B:st<n)(N:g<n)(U:0<=T)(F:iK n ps st g T fl M C)(A:iK n ps st g T I H G):M*(T+1) - C<=H*(T+1) - G:=by let(J,r,E,_,D):=A.yO z U;rw[Gx z B N A.lo A.net A.cost r E D,vU _ A.len,←vU _ F.len];calc Ow z B N F.lo F.net F.cost r E
end LH
namespace LH
open L2 VM Sp PM
variable {M:Int}
def goes (ps:¬aO):Nat->¬Nat->↑Nat
 |u,[]=>#[u]
 |u,j::w=>match ps[j]? with
  |some q=>if q.a=u then goes ps q.b w else none
  |none=>none
theorem Ox (T:ps[j]? =#[q]):∀{w:¬Nat}{u:Nat},goes ps u w=#[q.a]->goes ps u (w++[j])=#[q.b]
 |[],u,h=>by erw[goes,dQ] at h;simp only[fF,goes,T,h,↓reduceIte]
 |i::w,u,h=>by
  rw[jS,goes];rw[goes] at h;cases e:ps[i]? with
  |none=>lk
  |some p=>
   rw[e] at h;simp only at h ⊢;by_cases G:p.a=u
   .rw[ah G] at h ⊢;exact Ox T h
   .omega
def Bq (F:aO->Int)(ps:¬aO)(j:Nat):Int:=match ps[j]? with
 |some q=>F q
 |none=>0
def m7 (h:ps[j]? =#[q]):Bq F ps j=F q:=by delta Bq;rw[h]
def bV (F:aO->Int)(ps:¬aO)(w:¬Nat):Int:=(w.map<|Bq F ps).sum
def Ku (F:aO->Int):bV F ps []=0:=rfl
def j5 (F:aO->Int)(j:Nat)(w:¬Nat):bV F ps (j::w)=Bq F ps j+bV F ps w:=by simp[bV]
theorem Ak (A:Nat->Int):∀{w:¬Nat}{u v:Nat},goes ps u w=#[v]->bV (λq=>A q.b - A q.a) ps w=A v - A u
 |[],u,v,h=>by erw[goes,dQ] at h;rw[Ku,h];lk
 |j::w,u,v,h=>by
  rw[goes] at h;cases e:ps[j]? with
  |none=>rw[e] at h;cases h
  |some p=>
   rw[e] at h;simp only at h;by_cases G:p.a=u
   .rw[ah G] at h;rw[j5,Ak A h,m7 e,G];lk
   .rw[ap G] at h;cases h
theorem Al (F G:aO->Int):∀w:¬Nat,(∀j∈w,j<!ps)->bV (λq=>F q - G q) ps w=bV F ps w - bV G ps w
 |[],_=>rfl
 |j::w,h=>by have e:=ar<|h j aa;rw[j5,j5,j5,Al F G w λi N=>h i<|ae _ N,m7 e,m7 e,m7 e];lk
theorem Oz:∀{w:¬Nat},(∀j∈w,0<=Bq F ps j)->0<=bV F ps w
 |[],_=>b7 _
 |j::w,h=>by have:=Oz (w:=w) λi N=>h i<|ae _ N;have:=h j aa;rw[j5];lk
def tD (h:L[i]? =#[f]):lf L i=f:=by delta lf;rw[ca,h];rfl
def oG (h:i<!L):L[i]? =#[lf L i]:=by delta lf;rw[ca,ar h];rfl
def rW (m:Int)(fl:¬Int)(j:Nat):¬Int:=fl.set j<|lf fl j - m
def jR (m:Int)(fl:¬Int)(w:¬Nat):¬Int:=w.foldl (rW m) fl
def tE (m:Int)(fl:¬Int)(j:Nat):(!(rW m fl j))=!fl:=b6 ..
theorem pH (m:Int):∀(w:¬Nat) (fl:¬Int),(!(jR m fl w))=!fl
 |[],_=>rfl
 |j::w,fl=>by show (!(jR m (rW m fl j) w))=_;rw[pH m w,tE]
def aeo (h:j<!fl)(i:Nat):lf (rW m fl j) i=lf fl i - if i=j then m else 0:=by
 by_cases e:i=j
 .subst e;rw[ah rfl];exact tD (by delta rW;rw[be h])
 .rw[ap e,oC];delta rW lf;erw[ca,bo<|λz=>e z.symm]
theorem rm:∀{w:¬Nat}{fl:¬Int},w.Nodup->(∀j∈w,j<!fl)->∀i,lf (jR m fl w) i=lf fl i - if i∈w then m else 0
 |[],_,_,_,i=>by simp[jR]
 |j::w,fl,nd,h,i=>by let(r,Y):=bd.mp nd;show lf (jR m (rW m fl j) w) i=_;rw[rm Y (λi N=>by rw[tE];calc h i<|ae _ N),aeo<|h j aa];grind
theorem ab6 (F:aO->Int)(x:Int):∀(ps:¬aO) (fl:¬Int) (j:Nat),(!fl)=!ps->j<!fl->zs (λq f=>f*F q) ps (fl.set j<|lf fl j - x)=zs (λq f=>f*F q) ps fl - x*Bq F ps j
 |[],[],j,_,h=>by simp at h
 |[],_::_,_,e,_=>by simp at e
 |_::_,[],_,e,_=>by simp at e
 |q::r,f::fs,0,e,_=>by have B:lf (f::fs) 0=f:=rfl;have G:Bq F (q::r) 0=F q:=rfl;rw[kf,zs,zs,B,G,Int.sub_mul];lk
 |q::r,f::fs,j+1,e,h=>by have B:lf (f::fs) (j+1)=lf fs j:=rfl;have G:Bq F (q::r) (j+1)=Bq F r j:=rfl;rw[kg,zs,zs,B,G,ab6 F x r fs j ‹e› ‹h›];lk
theorem Mq (F:aO->Int)(m:Int):∀{w:¬Nat}{fl:¬Int},(!fl)=!ps->(∀j∈w,j<!fl)->zs (λq f=>f*F q) ps (jR m fl w)=zs (λq f=>f*F q) ps fl - m*bV F ps w
 |[],fl,_,_=>by rw[Ku,my,oC];rfl
 |j::w,fl,e,h=>by show zs _ ps (jR m (rW m fl j) w)=_;rw[Mq F m (by rw[tE];calc e) (λi N=>by rw[tE];calc h i<|ae _ N)];delta rW;rw[ab6 F m ps fl j e<|h j aa,j5,ky];lk
def mF:¬Int->Nat
 |[]=>0
 |f::r=>(if 0<f then 1 else 0)+mF r
theorem XS:∀{a b:¬Int},(!a)=!b->(∀i:Nat,0<lf a i->0<lf b i)->mF a<=mF b
 |[],[],_,_=>av _
 |[],_::_,e,_=>by simp at e
 |_::_,[],e,_=>by simp at e
 |x::a,y::b,e,h=>by
  have B:=XS (a:=a) (b:=b) ‹e› λi N=>h (i+1) N;have L:0<x->0<y:=h 0;rw[mF,mF];by_cases A:0<x
  .rw[ah A,ah<|L A];lk
  .rw[ap A];lk
theorem Mu:∀{a b:¬Int},(!a)=!b->(∀i:Nat,0<lf a i->0<lf b i)->(∃i:Nat,lf a i<=0/\0<lf b i)->mF a<mF b
 |[],[],_,_,(i,h1,h2)=>by simp[lf] at h2
 |[],_::_,e,_,_=>by simp at e
 |_::_,[],e,_,_=>by simp at e
 |x::a,y::b,e,h,(i,h1,h2)=>by
  have A:(!a)=!b:=‹e›
  have H:∀i:Nat,0<lf a i->0<lf b i:=λi N=>h (i+1) N;rw[mF,mF];cases i with
  |zero=>have B:x<=0:=h1;have U:0<y:=h2;have:=XS A H;lk
  |succ i=>have:=Mu A H (i,h1,h2);have L:0<x->0<y:=h 0;lk
theorem vW:∀a:¬Int,mF a<=!a
 |[]=>av _
 |x::a=>by have:=vW a;rw[mF,a8];split<;>lk
def share (i:Nat):¬(¬Nat×Int)->Int
 |[]=>0
 |x::c=>(if i∈x.1 then x.2 else 0)+share i c
def Dv (F:aO->Int)(ps:¬aO):¬(¬Nat×Int)->Int
 |[]=>0
 |x::c=>x.2*bV F ps x.1+Dv F ps c
structure yP (ps:¬aO)(st g:Nat)(x:¬Nat×Int):Prop where
 go:goes ps st x.1=#[g]
 nd:x.1.Nodup
 ix:∀j∈x.1,j<!ps
 ne:x.1≠[]
 m1:1<=x.2
structure lU (ps:¬aO)(st g:Nat)(fl:¬Int)(ws:¬(¬Nat×Int)):Prop where
 walk:∀x∈ws,yP ps st g x
 sum:∀i:Nat,i<!ps->share i ws=lf fl i
 few:(!ws)<=mF fl
 tot:∀F:aO->Int,Dv F ps ws=zs (λq f=>f*F q) ps fl
def Up (ps:¬aO)(fl:¬Int)(ρ:Nat->Int):Prop:=∀(i:Nat) q f,ps[i]? =#[q]->fl[i]? =#[f]->0<f->ρ q.a<ρ q.b
theorem X3 (F:aO->Int):∀{ps:¬aO}{fl:¬Int},(∀i:Nat,i<!ps->lf fl i=0)->zs (λq f=>f*F q) ps fl=0
 |[],_,_=>by simp[zs]
 |_::_,[],_=>by simp[zs]
 |q::r,f::fs,h=>by have L:f=0:=h 0 's';rw[zs,L,mx,X3 F (ps:=r) (fl:=fs) λi N=>h (i+1)<|‹N›];rfl
def lU.nil (h:∀i:Nat,i<!ps->lf fl i=0):lU ps st g fl []:=
 (λ_ h=>(nomatch h),λi N=>(h i N).symm,cv _,λF=>(X3 F h).symm)
def Cons.take (K:Cons ps st g fl M)(N:(!fl)=!ps)(D:goes ps st w=#[g])(nd:w.Nodup)(hi:∀j∈w,j<!ps)(C:∀j∈w,m<=lf fl j):Cons ps st g (jR m fl w) (M - m):=by
 have E:∀j∈w,j<!fl:=λj Y=>by rw[N];exact hi j Y
 refine⟨λi q f a b=>?_,λz=>?_⟩
 .have e:=rm (m:=m) nd E i;rw[tD b] at e;have B:i<!fl:=by have:=(af.mp b).1;rwa [pH] at this
  have:=K.nn i q _ a<|oG B;rw[e];by_cases A:i∈w
  .rw[ah A];have:=C i A;lk
  .rw[ap A];lk
 .have:=Mq (λq=>Sp.b2 (q.b=z) - Sp.b2 (q.a=z)) m N E;rw[this,K.net z,Ak (λv=>Sp.b2<|v=z) D,Int.sub_mul]
def HS (A:0<=m)(nd:w.Nodup)(hi:∀j∈w,j<!fl)(h:0<lf (jR m fl w) i):0<lf fl i:=by rw[rm nd hi i] at h;lk
def Up.take (U:Up ps fl ρ)(B:0<=m)(nd:w.Nodup)(hi:∀j∈w,j<!fl):Up ps (jR m fl w) ρ:=λi q f a b h=>by
 have A:i<!fl:=by have:=(af.mp b).1;rwa [pH] at this
 rw[<-tD b] at h;calc U i q _ a (oG A)<|HS B nd hi h
def lU.more {ws:¬(¬Nat×Int)}(N:(!fl)=!ps)(W:yP ps st g (w,m))(G:∀j∈w,m<=lf fl j)(C:∃j∈w,lf fl j=m)(P:lU ps st g (jR m fl w) ws):lU ps st g fl ((w,m)::ws):=by
 have E:∀j∈w,j<!fl:=λj Y=>by rw[N];exact W.ix j Y
 have D:=W.m1;simp only at D;refine(λx A=>?_,λi B=>?_,?_,λF=>?_)
 .rcases aI.mp A with rfl|A
  .exact W
  .exact P.walk x A
 .have:=P.sum i B;rw[rm W.nd E i] at this;rw[share,this];lk
 .have h1:=P.few;let(j,Y,e):=C;have h2:mF (jR m fl w)<mF fl:=Mu (pH ..) (λi h=>HS ∅ W.nd E h) (j,by rw[rm W.nd E j,ah Y];lk,by lk);grind
 .rw[Dv,P.tot F,Mq F m N E];lk
def Cons.most (K:Cons ps st g fl M)(N:(!fl)=!ps)(r:st≠g)(U:Up ps fl ρ)(D:0<=M)(A:goes ps st w=#[g])(hi:∀j∈w,j<!ps)(I:∀j∈w,m<=lf fl j)(wn:w≠[]):0<=M - m:=by
 cases w with
 |nil=>lk
 |cons j w=>
  have Y:=hi j aa;have J:=I j aa;have e:=ar Y;rw[goes,e] at A;simp only at A;by_cases E:ps[j].a=st
  .have B:=oG (by rwa [N]);have part:=Fv (K.af7 st) j _ _ e B;have C:=K.net st;rw[vV] at C;have G:Sp.b2 (g=st) - Sp.b2 (st=st)= -1:=by delta Sp.b2;rw[ap<|λz=>r z.symm,ah rfl];rfl
   rw[G] at C;have H:zs (inF st) ps fl<=0:=by
    by_cases z:0<zs (inF st) ps fl
    .let(i,q,f,a,b,c,d):=XR z;have h1:=K.low D U i q f a b c;have h2:=U i q f a b c;lk
    .omega
   have L:outF st ps[j] (lf fl j)=lf fl j:=by delta outF Sp.b2;rw[ah E,Int.mul_one]
   lk
  .omega
def Uy {ws:¬(¬Nat×Int)}(h:∀x∈ws,1<=x.2)(i:Nat):0<=share i ws:=by
 induction ws with
 |nil=>calc b7 _
 |cons x ws A=>have:=A λy n=>h y<|ae _ n;have:=h x aa;rw[share];lk
def aep {ws:¬(¬Nat×Int)}(h:∀x∈ws,1<=x.2):∀x∈ws,i∈x.1->x.2<=share i ws:=by
 induction ws with
 |nil=>simp
 |cons y ws B=>intro x A N;have L:=Uy (λy n=>h y<|ae _ n) i;have h1:=h y aa;rw[share];grind
def lU.has {ws:¬(¬Nat×Int)}(P:lU ps st g fl ws)(A:x∈ws):∀j∈x.1,x.2<=lf fl j/\0<lf fl j:=λj Y=>by have E:=(P.walk x A).m1;have:=aep (λy n=>(P.walk y n).m1) x A Y;rw[P.sum j<|(P.walk x A).ix j Y] at this;lk
end LH
namespace LH
open L2 VM Sp PM
variable {st g:Nat}
def Rg (ps:¬aO)(fl:¬Int)(u k:Nat)(o:Out):Prop:=
 (∃(i:Nat) (q:aO) (D:GS),ps[i]? =#[q]/\q.a=u/\0<lf fl i/\o=Out.ret D false (.int (i:Int)))\/
 ((∀(i:Nat) (q:aO),k<=i->ps[i]? =#[q]->q.a=u->lf fl i<=0)/\∃A B,o=Out.nxt [#[(Tg.fr,.list<|(ps.map toPq).map pD)],#[(Tg.fr,.int (u:Int))],#[(Tg.fr,.list<|fl.map .int)],ob A,ob B])
def Rg.step (h:Rg ps fl u (k+1) o)(L:∀q:aO,ps[k]? =#[q]->q.a=u->lf fl k<=0):Rg ps fl u k o:=by
 rcases h with h|⟨h1,h2⟩
 .exact .inl h
 .refine .inr ⟨λi q N e G=>?_,h2⟩;by_cases z:i=k
  .subst z;exact L q e G
  .calc h1 i q ∅ e G
theorem X4 (N:(!fl)=!ps):∀(r:¬aO) (k:Nat) (O B:↑()),(∀j:Nat,r[j]? =ps[k+j]?)->
  Rg ps fl u k (cT (gT 2 (gC (gN 3) (gC (gN 4) g0)))
   (dz (lG (vB<|v2 jc (v2 aW (vN 4)<|vC<|.int 0)<|vN 1)<|vB<|v2 yd (v2 aW (vN 2)<|vN 3)<|vC<|.int 0) (gq 3) cI)
   (oK k ((r.map toPq).map pD)) [#[(Tg.fr,.list ((ps.map toPq).map pD))],#[(Tg.fr,.int (u:Int))],#[(Tg.fr,.list (fl.map .int))],ob O,ob B])
 |[],k,O,B,h=>.inr (λi q L e=>by
  have:=h (i - k);rw[show k+(i - k)=i by lk,e] at this;simp at this,O,B,rfl)
 |q::r,k,O,B,h=>by
  have M:ps[k]? =#[q]:=(h 0).symm;have Y:k<!fl:=by rw[N];exact(af.mp M).1
  have hr:∀j:Nat,r[j]? =ps[k+1+j]?:=λj=>by have:=h<|j+1;rw[kq] at this;rw[this];congr 1;lk
  have A:=X4 (u:=u) N r (k+1) (#[.int (k:Int)]) (#[pD<|toPq q]) hr;have H:oK k (((q::r).map toPq).map pD)=.tuple [.int (k:Int),pD<|toPq q]::oK (k+1) ((r.map toPq).map pD):=rfl;have I:pD (toPq q)=.tuple [.int (q.a:Int),.int (q.b:Int),.int q.w,.int q.l]:=rfl;rw[H];erw[cT];rw[I] at A ⊢;erw[qP] at A;by_cases C:q.a=u
  .have G:((q.a:Int)=(u:Int)):=by rw[C]
   by_cases J:0<lf fl k
   .kt_k;rw[Ko Y];kt_k;exact .inl (k,q,_,M,C,J,rfl)
   .z_go;erw[G,dL];z_go;rw[Ko Y];kt_k;erw[G] at A;exact A.step λ_ _ _=>by lk
  .have G:Not ((q.a:Int)=(u:Int)):=by lk
   kt_k;calc A.step λQ E D=>by rw[M] at E;cases E;calc absurd D C
def ajH (N:(!fl)=!ps):(∃(i:Nat) (q:aO),ps[i]? =#[q]/\q.a=u/\0<lf fl i/\Pg.ju [hD ps,.int (u:Int),.list<|fl.map .int]=#[(false,.int (i:Int))])\/
  ((∀(i:Nat) q,ps[i]? =#[q]->q.a=u->lf fl i<=0)/\Pg.ju [hD ps,.int (u:Int),.list<|fl.map .int]=#[(false,.none)]):=by
 delta Pg.ju Pg.CN hD yC;z_go;rcases X4 N ps 0 none none (λj=>by rw[ii]) with⟨i,q,D,h1,h2,J,M⟩|⟨h1,O,B,h2⟩
 .erw[ig] at M;refine .inl (i,q,h1,h2,J,?_);rw[M];rfl
 .erw[ig] at h2;refine .inr ⟨λi q=>h1 i q<|cv _,?_⟩;rw[h2];rfl
def SA (ps:¬aO)(st g:Nat)(fl:¬Int)(w:¬Nat)(v:Nat)(C:↑()):GS:=[#[(Tg.fr,hD ps)],#[(Tg.fr,.int (st:Int))],#[(Tg.fr,.int (g:Int))],#[(Tg.fr,.list<|fl.map .int)],#[(Tg.ow,.list<|w.map cZ)],#[(Tg.fr,.int (v:Int))],ob C]
def aer {v i:Nat}(T:ps[i]? =#[q])(e:Pg.ju [hD ps,.int (v:Int),.list<|fl.map .int]=#[(false,.int (i:Int))])(C:(!w)<=1000000):Pg.zV (SA ps st g fl w v A)=.nxt (SA ps st g fl (w++[i]) q.b<|#[.int (i:Int)]):=by delta Pg.zV SA;z_go;rw[e];kt_k;delta hD yC;z_go;rw[kW pD (by rw[ai,T];rfl)];z_go;rw[bP];rfl
def aes {ρ:Nat->Int}(N:(!fl)=!ps)(hp:(!ps)<=1000)(K:Cons ps st g fl M)(H:0<M)(r:st≠g)(U:Up ps fl ρ):∀(k:Nat) (w:¬Nat) (v:Nat) (E:↑()),(ρ g - ρ v).toNat<k->goes ps st w=#[v]->
  (∀j∈w,j<!ps/\0<lf fl j/\∀q:aO,ps[j]? =#[q]->ρ q.a<ρ v)->w.Nodup->(v=st/\w=[]\/w≠[]/\∃(i:Nat) (q:aO) (f:Int),ps[i]? =#[q]/\fl[i]? =#[f]/\0<f/\q.b=v)->
  ∃C,goes ps st C=#[g]/\C.Nodup/\(∀j∈C,j<!ps/\0<lf fl j)/\C≠[]/\∃A D,cu (vB<|v2 jr (vN 5)<|vN 2) Pg.zV A (SA ps st g fl w v E)=.nxt (SA ps st g fl C g D):=λk=>by
 induction k with
 |zero=>intro w v E h;lk
 |succ k ih=>
  intro w v E e hw Y nd L;have cond:vB (v2 jr (vN 5)<|vN 2) (SA ps st g fl w v E)=#[not (decide ((v)=(g:Int)))]:=by delta SA;z_go
  by_cases s:v=g
  .subst s;refine(w,hw,nd,λj h=>⟨(Y j h).1,(Y j h).2.1⟩,?_,1,E,?_)
   .rcases L with⟨z,_⟩|⟨h,_⟩
    .exact absurd z.symm r
    .exact h
   .rw[cu,cond];simp
  .have nx:∃(i:Nat) (q:aO) (f:Int),ps[i]? =#[q]/\fl[i]? =#[f]/\0<f/\q.a=v:=by
    rcases L with⟨z,_⟩|⟨_,i,q,f,a,b,c,d⟩
    .rw[z];exact K.start r H
    .rw[<-d];exact K.on (hZ H) a b c<|.inl<|by rwa [d]
   rcases ajH (u:=v) N with⟨i,q,h1,h2,J,n⟩|⟨h1,_⟩
   .have I:=(af.mp h1).1;have B:=oG (by rwa [N]);have Q:=U i q _ h1 B J;have hi:=K.high (hZ H) U i q _ h1 B J;have hwl:=iW nd λj h=>(Y j h).1;let(C,T,l,m,o,A,D,p):=ih (w++[i]) q.b #[.int (i)] (by rw[<-h2] at e;lk) (Ox h1 (by rwa [h2])) (λj h=>by
     rcases aT.mp h with h|h
     .let(b1,b2,t):=Y j h;exact(b1,b2,λO G=>by have:=t O G;rw[h2] at Q;lk)
     .rw[a7.mp h];calc(I,J,λO G=>by rw[h1] at G;cases G;calc Q)) (by
     refine d5.mpr (nd,by simp,?_);intro x hx y hy;rw[a7.mp hy];intro z;have:=(Y x hx).2.2 q (by rwa [z]);rw[h2] at this;lk) (.inr (by simp,i,q,_,h1,B,J,rfl))
    refine(C,T,l,m,o,A+1,D,?_);refine Dp ?_ (aer h1 n ∅) p;rw[cond]
    have:Not ((v)=(g:Int)):=by lk
    erw[this,db];rfl
   .let(i,q,f,a,b,c,d):=nx;have:=h1 i q a d;rw[tD b] at this;lk
def ahn (N:(!fl)=!ps)(E:(!ps)<=1000)(K:Cons ps st g fl M)(D:0<M)(r:st≠g)(U:Up ps fl ρ):∃w:¬Nat,goes ps st w=#[g]/\w.Nodup/\(∀j∈w,j<!ps/\0<lf fl j)/\w≠[]/\Pg.iI [hD ps,.int (st:Int),.int (g:Int),.list<|fl.map .int]=#[(true,.list<|w.map cZ)]:=by let(w,h1,h2,J,B,A,G,k):=aes N E K D r U _ [] st none (iq _) rfl 's' .nil (.inl ⟨rfl,rfl⟩);refine(w,h1,h2,J,B,?_);have C:=yj k (by intro z;cases z);unfold SA at C;unfold Pg.iI Pg.vK;z_go;erw[ig,fe] at C;rw[C];rfl
def aeu (N:(!fl)=!ps)(K:Cons ps st g fl 0)(r:st≠g)(U:Up ps fl ρ):(∀i:Nat,i<!ps->lf fl i=0)/\Pg.iI [hD ps,.int (st:Int),.int (g:Int),.list<|fl.map .int]=#[(true,.list [])]:=by
 have z:∀i:Nat,i<!ps->lf fl i=0:=λi B=>K.none U i _ _ (ar B) (oG (by rwa [N]));refine⟨z,?_⟩;rcases ajH N with⟨i,q,h1,h2,J,M⟩|⟨_,h1⟩
 .have:=z i (af.mp h1).1;lk
 .unfold Pg.iI Pg.vK;z_go;have D:∀S C,cu (vB<|v2 jr (vN 5)<|vN 2) Pg.zV 1 (SA ps st g fl [] st C)=S->S=.ret ((SA ps st g fl [] st<|some .none)) true (.list []):=λS C h=>by
   rw[<-h,cu];have cond:vB (v2 jr (vN 5)<|vN 2) (SA ps st g fl [] st C)=#[true]:=by
    unfold SA;z_go
    have:Not ((st)=(g:Int)):=by lk
    erw[this,db];rfl
   rw[cond];simp only;have t:Pg.zV (SA ps st g fl [] st C)=.ret (SA ps st g fl [] st<|some .none) true (.list []):=by unfold Pg.zV SA;z_go;rw[h1];z_go
   rw[t]
  have A:=yj (D _ none rfl) (by intro z;cases z);unfold SA at A;erw[ig,fe] at A;rw[A];z_go
def kh (x:¬Nat×Int):():=.tuple [.list<|x.1.map cZ,.int x.2]
theorem Uz:∀w:¬Nat,mU (w.map cZ)=true
 |[]=>rfl
 |j::w=>by erw[aS,cZ,mU,sU,lS];calc Uz w
def SK (ps:¬aO)(st g:Nat)(A:¬Int)(fl:¬Int)(ws:¬(¬Nat×Int))(C x7 B:↑()):GS:=[#[(Tg.fr,hD ps)],#[(Tg.fr,.int (st:Int))],#[(Tg.fr,.int (g:Int))],#[(Tg.fr,.list<|A.map .int)],#[(Tg.ow,.list<|fl.map .int)],#[(Tg.ow,.list<|ws.map kh)],ob C,ob x7,ob B]
def aev (Q:(!fl)=!ps)(n:(!ps)<=1000)(z:(!acc)<=1000000)(nd:w.Nodup)(H:∀j∈w,j<!ps/\0<lf fl j)(wn:w≠[])(e:Pg.iI [hD ps,.int (st:Int),.int (g:Int),.list<|fl.map .int]=#[(true,.list<|w.map cZ)]):
  ∃m q t u,1<=m/\(∀j∈w,m<=lf fl j)/\(∃j∈w,lf fl j=m)/\Pg.J1 (SK ps st g C fl acc s x7 p)=.nxt (SK ps st g C (jR m fl w) (acc++[(w,m)]) q t u):=by
 have T:=iW nd λj h=>(H j h).1;let(l,o):=kO (ns:=w.map<|lf fl) ‹wn›;generalize c:eH (w.map<|lf fl)=m at*
 let(k,G,E):=a6.mp l;have I:∀v (L:¬Int) (A B:()) (x:↑()),(!L)=!ps->(∀j∈v,j<!ps)->∃b,
   cT (gN 8) (oM jX 4 (vN 8)<|vF 7) (v.map cZ) [#[(Tg.fr,hD ps)],#[(Tg.fr,.int<|st)],#[(Tg.fr,.int<|g)],#[(Tg.fr,.list<|C.map .int)],#[(Tg.ow,.list<|L.map .int)],#[(Tg.ow,A)],#[(Tg.fr,B)],#[(Tg.fr,.int m)],ob x]
    =.nxt [#[(Tg.fr,hD ps)],#[(Tg.fr,.int<|st)],#[(Tg.fr,.int<|g)],#[(Tg.fr,.list<|C.map .int)],#[(Tg.ow,.list<|(jR m L v).map .int)],#[(Tg.ow,A)],#[(Tg.fr,B)],#[(Tg.fr,.int m)],ob b]:=λv=>by
  induction v with
  |nil=>intro L A B x _ _;calc⟨x,rfl⟩
  |cons j v U=>intro L A B x y Y;have h1:=Y j aa;let(b,D):=U (rW m L j) A B (#[.int<|j]) (by rwa [tE]) λi O=>Y i<|ae _ O;refine⟨b,?_⟩;rw[aS,cT];delta cZ;z_go;rw[ac,vA ∅];z_go;rw[Uk ∅];z_go;rw[<-j0];erw[qP] at D;exact D
 let(b,D):=I w fl (.list<|acc.map kh) (.list<|w.map cZ) p Q λj h=>(H j h).1;refine(m,#[.list<|w.map cZ],#[.int m],b,?_,λj h=>o _<|a6.mpr (j,h,rfl),(k,G,E),?_)
 .grind
 delta Pg.J1 SK;z_go;rw[e];z_go;rw[Uz];z_go;have M:(w.map cZ).isEmpty=false:=by cases w with|nil=>calc absurd rfl wn|cons a r=>rfl
 erw[M];z_go;rw[Sx (by rw[ac];calc aY ∅)];rw[g8 (f:=λd=>match d with|.int m=>.int (lf fl m.toNat)|_=>.none) (by
  intro d N;let(j,h,rfl):=a6.mp N;refine([#[(Tg.fr,.int<|j)],#[(Tg.fr,.list<|fl.map .int)]],?_,rfl,?_)
  .rfl
  .have:=(H j h).1;z_go;rw[Ko ∅];rfl)]
 rw[bE];have em:w.map ((λd=>match d with|.int m=>PyData.int (lf fl m.toNat)|_=>.none) ∘ cZ)=(w.map<|lf fl).map PyData.int:=by rw[bE];rfl
 rw[em];z_go;have J:minD [.list<|(w.map<|lf fl).map PyData.int]=#[.int m]:=by
  erw[minD,jK];cases w with
  |nil=>lk
  |cons a r=>lk
 rw[J];z_go;rw[D];kt_k;rw[bP];rfl
def aew (o:(!ps)<=1000)(r:st≠g):∀(k:Nat) (fl:¬Int) (M:Int) (acc:¬(¬Nat×Int)) (T x7 C:↑()),mF fl<k->(!fl)=!ps->Cons ps st g fl M->0<=M->Up ps fl ρ->(!acc)+mF fl<=1000000->
  ∃ws A D,lU ps st g fl ws/\cu (vB<|vC<|.bool true) Pg.J1 A (SK ps st g H fl acc T x7 C)=.ret D true (.list<|(acc++ws).map kh):=λk=>by
 induction k with
 |zero=>intro fl M acc T x7 C h;lk
 |succ k b=>
  intro fl M acc T x7 C x N K u U l;by_cases y:M=0
  .subst y;let(z,e):=aeu N K r U;refine([],1,(SK ps st g H fl acc (#[.list []]) x7 C).set 5 none,lU.nil z,?_);refine Ai rfl ?_;delta Pg.J1 SK;z_go;rw[e];z_go;erw[o6];z_go
  .let(w,h1,h2,J,I,q):=ahn N o K ∅ r U;let(m,f,n,s,c,Q,d,t):=aev (acc:=acc) N o ∅ h2 J I q;have E:∀j∈w,j<!fl:=λj Y=>by rw[N];exact(J j Y).1
   have p:Up ps (jR m fl w) ρ:=U.take ∅ h2 E;let(O,B,G):=d;have v:mF (jR m fl w)<mF fl:=Mu (pH ..) (λi h=>HS ∅ h2 E h) (O,by rw[rm h2 E O,ah B];lk,by lk);have L:0<=M - m:=by
    by_cases z:0<=M - m
    .exact z
    .
     exact K.most N r U u h1 (λj Y=>(J j Y).1) Q I
   let(ws,A,D,P,e):=b (jR m fl w) (M - m) (acc++[(w,m)]) f n s ∅ (by rwa [pH]) (K.take N h1 h2 (λj Y=>(J j Y).1) Q) L p (by rw[aE];erw[a8,di];lk);refine((w,m)::ws,A+1,D,P.more N (h1,h2,λj Y=>(J j Y).1,I,c) Q (O,B,G),?_);refine Dp rfl t ?_;rw[e,cr];rfl
def aho (N:(!fl)=!ps)(D:(!ps)<=1000)(r:st≠g)(K:Cons ps st g fl M)(B:0<=M)(U:Up ps fl ρ):∃ws,lU ps st g fl ws/\Pg.jN [hD ps,.int (st:Int),.int (g:Int),.list<|fl.map .int]=#[(true,.list<|ws.map kh)]:=by let(ws,A,C,P,e):=aew D r _ fl M [] none none none (iq _) N K B U (by have:=vW fl;simp;lk);refine(ws,P,?_);have G:=yj e (by intro z;cases z);unfold SK at G;erw[ig,fe,fF] at G;unfold Pg.jN Pg.J2;z_go;rw[G];rfl
end LH
namespace LH
open L2 VM Sp PM
variable {M T C:Int}
def aae {A:Nat->Int}(hi:∀j∈w,j<!ps)(D:goes ps st w=#[g])(h:∀(i:Nat) q,ps[i]? =#[q]->i∈w->q.l<=A q.b - A q.a):bV aO.l ps w<=A g - A st:=by
 have e:=Ak A D;have s:=Al (λq=>A q.b - A q.a) aO.l w hi;have G:0<=bV (λq=>A q.b - A q.a - q.l) ps w:=Oz λj Y=>by have B:=ar<|hi j Y;rw[m7 B];have:=h j _ B Y;lk
 rw[s,e] at G;lk
theorem Dw (z:aU n ps):∀{w:¬Nat},(∀j∈w,j<!ps)->((!w):Int)<=bV aO.l ps w
 |[],_=>by simp[bV]
 |j::w,h=>by have B:=ar<|h j aa;have:=z.l1 _<|ag B;have:=Dw z (w:=w) λi N=>h i<|ae _ N;rw[j5,m7 B,a8];lk
theorem OD:∀{ps:¬aO}{fl:¬Int},(!fl)=!ps->(!(lJ ps fl))=2*!ps
 |[],[],_=>rfl
 |[],_::_,e=>by simp at e
 |_::_,[],e=>by simp at e
 |q::r,f::fs,e=>by rw[lJ,a8,a8,OD (ps:=r) (fl:=fs)<|‹e›,a8];lk
theorem tG:∀{ps:¬aO}{fl:¬Int} {i:Nat} {q:aO} {f:Int},ps[i]? =#[q]->fl[i]? =#[f]->lf (lJ ps fl) (2*i)=q.w - f/\lf (lJ ps fl) (2*i+1)=f
 |[],_,i,q,f,h,_=>by simp at h
 |_::_,[],i,q,f,_,h=>by simp at h
 |p::r,x::fs,0,q,f,h1,h2=>by erw[fN,dQ] at h1 h2;subst h1;subst h2;calc⟨rfl,rfl⟩
 |p::r,x::fs,i+1,q,f,h1,h2=>by rw[kq] at h1 h2;have:=tG (ps:=r) (fl:=fs) h1 h2;assumption
def lK (st g:Nat)(T:Int):aO:=(st,g,1,T+1)
def OJ (z:aU n ps)(A:st<n)(N:g<n)(r:st≠g)(U:0<=T):aU n (ps++[lK st g T]):=by
 refine(?_,?_,?_,?_,?_)<;>(intro q B;rcases aT.mp B with h|h)
 .exact z.ra q h
 .rw[a7.mp h];exact A
 .exact z.rb q h
 .rw[a7.mp h];exact N
 .exact z.ne q h
 .rw[a7.mp h];exact r
 .exact z.w1 q h
 .rw[a7.mp h];exact b7 _
 .exact z.l1 q h
 .rw[a7.mp h];show 1<=T+1;lk
def lC (T:Int):↑Lb->Int
 |none=>T+1
 |some l=>if T+1<l.d then T+1 else l.d
def aex (N:aU n ps)(E:st<n)(O:g<n)(r:st≠g)(U:0<=T)(j:(!fl)=!ps)(o:G st=0)(p:G g<=T+1)(A:Fits ps fl G):
  cM n (lf<|lJ (ps++[lK st g T])<|fl++[0]) (bH<|ps++[lK st g T]) G:=by
 have J:=OJ N E O r U;refine(J.room,J.Xu,λu m f k D=>?_);let(i,q,e,h):=fZ.mp k;have Y:i<(!ps)+1:=by have:=(af.mp e).1;rw[aE] at this;exact this
 by_cases z:i<!ps
 .have B:ps[i]? =#[q]:=by rw[bv z] at e;exact e
  have I:fl[i]? =#[lf fl i]:=oG ∅;have y:(fl++[0])[i]? =#[lf fl i]:=by rw[bv ∅];exact I
  let(L,H):=tG e y;let(b,l):=A i q _ B I;rcases h with⟨rfl,rfl⟩|⟨rfl,rfl⟩
  .simp only at D ⊢;rw[L] at D;lk
  .simp only at D ⊢;rw[H] at D;lk
 .have Q:i=!ps:=by lk
  subst Q;have B:q=lK st g T:=by rw[cm<|av _,ku,fN] at e;exact(bm e).symm
  have y:(fl++[0])[!ps]? =#[0]:=by rw[cm ∅,j,ku,fN]
  let(L,H):=tG e y;subst B;rcases h with⟨rfl,rfl⟩|⟨rfl,rfl⟩
  .erw[lK];lk
  .simp only at D;rw[H] at D;calc absurd D<|by decide
def UG (z:aU n ps)(hst:st<n)(hg:g<n)(hne:st≠g)(hT:0<=T)(F:iK n ps st g T fl M C)(m0:I st=0)(m1:I g=T+1)(d:∀v,0<=I v/\I v<=T+1)(Y:Fits ps fl I)
  (Q:Tree n (lf<|lJ (ps++[lK st g T])<|fl++[0]) (bH<|ps++[lK st g T]) I st A):
  lf (A.map<|lC T) st=0/\lf (A.map<|lC T) g=T+1/\(∀v,v<n->0<=lf (A.map<|lC T) v/\lf (A.map<|lC T) v<=T+1)/\
  Fits ps fl (lf<|A.map<|lC T):=by
 have E:∀{v:Nat}{o:↑Lb},A[v]? =#[o]->lf (A.map<|lC T) v=lC T o:=λ{v o} h=>tD (by rw[ai,h];rfl);have D:∀v,v<n->∃o,A[v]? =#[o]:=λv L=>⟨_,ar (by rw[Q.ll];calc L)⟩;have lo:∀v (l:Lb),A[v]? =#[#[l]]->I v<=l.d:=λv l h=>by have:=Q.lo v l h;lk
 have r:∃c,A[g]? =#[#[c]]/\c.d=T+1:=by
  have e:(ps++[lK st g T])[!ps]? =#[lK st g T]:=by rw[cm<|av _,ku,fN]
  have y:(fl++[0])[!ps]? =#[0]:=by rw[cm (by have:=F.len;lk),F.len,ku,fN]
  let(u,_):=tG e y;let(x,h1,h2):=Q.rel st _ (2*!ps,g,T+1) Q.st0 (fZ.mpr ⟨!ps,_,e,.inl ⟨rfl,rfl⟩⟩) (by simp only;rw[u];show(0)<1 - 0;decide);have h3:=lo g x h1;refine⟨x,h1,?_⟩;simp only at h2;lk
 let(c,w,hgd):=r;have step:∀i (q:aO) (f:Int),ps[i]? =#[q]->fl[i]? =#[f]->(f<q.w->∀l:Lb,A[q.a]? =#[#[l]]->∃H:Lb,A[q.b]? =#[#[H]]/\H.d<=l.d+q.l)/\(0<f->∀l:Lb,A[q.b]? =#[#[l]]->∃H:Lb,A[q.a]? =#[#[H]]/\H.d<=l.d - q.l):=λi q f a b=>by
  have k:=(af.mp a).1;have e:(ps++[lK st g T])[i]? =#[q]:=by rw[bv k];exact a
  have y:(fl++[0])[i]? =#[f]:=by rw[bv (by have:=F.len;lk)];exact b
  let(u,l2):=tG e y;refine⟨λh l p=>?_,λh l p=>?_⟩
  .exact Q.rel q.a l (2*i,q.b,q.l) p (fZ.mpr ⟨i,q,e,.inl ⟨rfl,rfl⟩⟩) (by simp only;rw[u];lk)
  .let(H,h1,h2):=Q.rel q.b l (2*i+1,q.a,-q.l) p (fZ.mpr ⟨i,q,e,.inr ⟨rfl,rfl⟩⟩) (by simp only;rw[l2];calc h);exact⟨H,h1,by simp only at h2;lk⟩
 let(B,hB0,hB):=above (λv=>match A[v]? with|some #[l]=>#[l.d]|_=>none) n (T+2);have j:∀v (l:Lb),v<n->A[v]? =#[#[l]]->l.d<=B:=λv l L h=>hB v l.d L (by rw[h]);have up:∀(i:Nat) q f,ps[i]? =#[q]->fl[i]? =#[f]->0<f->(λv=>match A[v]? with|some #[l]=>l.d|_=>B+1+I v) q.a<(λv=>match A[v]? with|some #[l]=>l.d|_=>B+1+I v) q.b:=λi q f a b O=>by
  have m:=z.l1 q<|ag a;let(G,t):=D q.b<|z.rb q<|ag a;let(s,J):=D q.a<|z.ra q<|ag a;erw[J,t];cases G with
  |some N=>
   let(H,h1,h2):=(step i q f a b).2 O N t;rw[J] at h1;cases h1;simp only;lk
  |none=>
   cases s with
   |some U=>have:=j q.a U (z.ra q<|ag a) J;have:=(d q.b).1;simp only;lk
   |none=>have:=(Y i q f a b).2 O;simp only;lk
 have high:∀(i:Nat) q f,ps[i]? =#[q]->fl[i]? =#[f]->0<f->∃l,A[q.b]? =#[#[l]]/\l.d<=T+1:=λi q f a b O=>by
  have h:=F.cons.high (ρ:=λv=>match A[v]? with|some #[l]=>l.d|_=>B+1+I v) F.M0 up i q f a b O;let(G,t):=D q.b<|z.rb q<|ag a;erw[t,w] at h;cases G with
  |some N=>calc⟨N,t,by simp only at h;lk⟩
  |none=>simp only at h;have:=(d q.b).1;lk
 refine⟨?_,?_,λv L=>?_,λi q f a b=>⟨λh=>?_,λh=>?_⟩⟩
 .rw[E Q.st0];erw[lC];rw[ap ∅]
 .rw[E w];erw[lC];split<;>lk
 .let(o,e):=D v L;rw[E e];cases o with
  |none=>erw[lC];lk
  |some l=>have h1:=lo v l e;have h2:=(d v).1;erw[lC];split<;>lk
 .have m:=z.l1 q<|ag a;let(G,t):=D q.b<|z.rb q<|ag a;let(s,J):=D q.a<|z.ra q<|ag a;rw[E J,E t];have top:lC T G<=T+1:=by
   cases G with
   |none=>erw[lC];lk
   |some l=>erw[lC];split<;>lk
  cases s with
  |none=>
   have:lC T none=T+1:=rfl
   rw[this];lk
  |some U=>let(H,h1,h2):=(step i q f a b).1 h U J;rw[t] at h1;cases h1;erw[lC] at top ⊢;split at top<;>split<;>lk
 .let(N,t,hb):=high i q f a b h;let(U,J,h2):=(step i q f a b).2 h N t;have m:=z.l1 q<|ag a;rw[E J,E t];erw[lC];rw[ap ∅,ap ∅];lk
def Kv (z:aU n ps)(c:n<=900)(w:(!ps)<=900)(B:st<n)(N:g<n)(r:st≠g)(U:0<=T)(J:(!fl)=!ps)(y:H st=0)(b:H g<=T+1)(E:Fits ps fl H):∃D:¬(↑Lb),Tree n (lf<|lJ (ps++[lK st g T])<|fl++[0]) (bH<|ps++[lK st g T]) H st D/\Pg.iJ [.int (n:Int),hD ps,.int (st:Int),.int (g:Int),.int T,.list<|fl.map .int]=#[(true,.list<|(D.map<|lC T).map .int)]:=by
 have L:=OJ z B N r U;have I:=aex z B N r U J y b E;have A:(!(fl++[0]))=!(ps++[lK st g T]):=by rw[aE,aE,J];rfl
 have G:=OD A;let(D,t,k):=Xw ∅ B I (λu m v=>by
  let(i,q,e,h):=fZ.mp v;have:=(af.mp e).1;rw[G];rcases h with⟨_,rfl⟩|⟨_,rfl⟩<;>simp only<;>lk)
 have Q:=jP I B t;refine(D,Q,?_);have em:=JW ∅ ∅ (by rw[ac,aE];erw[a8,di];lk) (Kr L);rw[dq] at em;have j:=Xz (ps:=ps++[lK st g T]) (fl:=fl++[0]) (by rw[aE];erw[a8,di];lk) (oD A.symm);unfold Pg.iJ Pg.CP;unfold hD yC at*
 z_go;have O:tX (.list<|(ps.map toPq).map pD) (.list [.tuple [.int<|st,.int<|g,.int 1,.int<|T+1]])=#[.list<|((ps++[lK st g T]).map toPq).map pD]:=by rw[ab4 (by rw[ac,ac];erw[a8,di];lk),bP,bP];rfl
 rw[O];z_go;have Y:tX (.list<|fl.map PyData.int) (.list [.int 0])=#[.list<|(fl++[0]).map .int]:=by rw[ab4 (by rw[ac];erw[a8,di];lk),bP];rfl
 rw[Y];z_go;rw[j];z_go;rw[em];z_go;rw[k];z_go;rw[mJ rfl (by rw[ac,Q.ll];calc aY ∅)];rw[g8 (f:=λd=>match d with|.tuple (.int d::_)=>.int (if T+1<d then T+1 else d)|_=>.int (T+1)) (by
  intro d p;let(o,s,rfl):=a6.mp p;refine([#[(Tg.fr,iU o)],#[(Tg.fr,.int<|T+1)]],?_,rfl,?_)
  .z_go
  .cases o with
   |none=>
    have:iU none=.none:=rfl
    rw[this];z_go
   |some l=>
    rw[j4];z_go)]
 z_go;rw[bE,bE]
 have:(λd=>match d with|PyData.tuple (.int d::_)=>PyData.int (if T+1<d then T+1 else d)|_=>.int<|T+1) ∘ iU=PyData.int ∘ lC T:=by funext o;cases o<;>rfl
 rw[this]
def O1 (A:∀j∈w,j<!ps)(N:(!w)<=1000):Pg.ji [hD ps,.list<|w.map cZ]=#[(false,.int<|bV aO.l ps w)]:=by
 delta Pg.ji Pg.Gp hD yC;z_go;rw[mJ rfl (by rw[ac];calc aY ∅)];rw[g8 (f:=λd=>match d with|.int j=>.int (Bq aO.l ps j.toNat)|_=>.none) (by
  intro d G;let(j,Y,rfl):=a6.mp G;have e:=ar<|A j Y;refine([#[(Tg.fr,.int<|j)],#[(Tg.fr,.list<|(ps.map toPq).map pD)]],?_,rfl,?_)
  .rfl
  .z_go;rw[kW pD (by rw[ai,e];rfl)];delta pD toPq cZ;z_go;erw[dq,m7 e])]
 z_go;rw[bE];have e:(w.map<|(λd=>match d with|.int j=>PyData.int (Bq aO.l ps j.toNat)|_=>.none) ∘ cZ)=(w.map<|Bq aO.l ps).map .int:=by rw[bE];rfl
 rw[e];erw[Cd,jK];rfl
def Dy (z:aU n ps)(H:n<=900)(I:(!ps)<=900)(D:st<n)(N:g<n)(r:st≠g)(U:0<=T)(F:iK n ps st g T fl M C):∃A:¬Int,Pg.iJ [.int (n:Int),hD ps,.int (st:Int),.int (g:Int),.int T,.list<|fl.map .int]=#[(true,.list<|A.map .int)]/\(!A)=n/\
  lf A st=0/\lf A g=T+1/\(∀v,v<n->0<=lf A v/\lf A v<=T+1)/\Fits ps fl (lf A):=by
 let(O,E,G,L,B):=F.yO z U;let(J,Q,e):=Kv z H I D N r U F.len E (Int.le_of_eq G) B;calc(_,e,by rw[ac];calc Q.ll,UG z D N r U F E G L B Q)
def iK.walks (z:aU n ps)(J:(!ps)<=900)(r:st≠g)(F:iK n ps st g T fl M C):∃ws,lU ps st g fl ws/\(∀x∈ws,bV aO.l ps x.1<=T)/\(!ws)<=!ps/\Pg.jN [hD ps,.int (st:Int),.int (g:Int),.list<|fl.map .int]=#[(true,.list<|ws.map kh)]:=by
 let(H,U,D,m):=F.near;let(ws,P,L):=aho (ρ:=H) F.len ∅ r F.cons F.M0 λi q f a b G=>by have:=(D i q f a b).2 G;have:=z.l1 q<|ag a;lk
 refine(ws,P,λx B=>?_,by have:=P.few;have:=vW fl;have:=F.len;lk,L);have Wk:=P.walk x B;have E:∀j∈x.1,fl[j]? =#[lf fl j]:=λj Y=>oG (by rw[F.len];calc Wk.ix j Y);let(k,A):=dv _ Wk.ne;have I:=((P.has B) k A).2;have:=aae Wk.ix Wk.go λi q e N=>(D i q _ e<|E i N).2 ((P.has B) i N).2;rcases m with h|⟨_,h⟩
 .omega
 .have:=h _<|ag<|E k A;lk
structure gn (n:Nat)(ps:¬aO)(st g:Nat)(T W:Int)(ws:¬(¬Nat×Int))(dI:¬Int):Prop where
 flow:∃fl M C,iK n ps st g T fl M C/\W=M*(T+1) - C/\lU ps st g fl ws
 short:∀x∈ws,bV aO.l ps x.1<=T
 ppl:W=(ws.map λx=>x.2*(T - bV aO.l ps x.1+1)).sum
 ml:(!dI)=n
 m0:lf dI st=0
 m1:lf dI g=T+1
 mb:∀v,v<n->0<=lf dI v/\lf dI v<=T+1
 UJ:W=(ps.map<|over<|lf dI).sum
def gn.weak {ws:¬(¬Nat×Int)}(z:aU n ps)(A:st<n)(N:g<n)(O:gn n ps st g T W ws D)(r:B st=0)(E:B g=T+1):W<=(ps.map<|over B).sum:=by let(G,M,C,F,e,_):=O.flow;have:=Ow z A N F.lo F.net F.cost r E;rw[vU _ F.len] at this;lk
theorem O2 {A:Nat->Int}(r:A st=0)(E:A g=T+1):∀{ws:¬(¬Nat×Int)},(∀x∈ws,yP ps st g x)->Dv (λq=>A q.b - A q.a - q.l) ps ws=(ws.map λx=>x.2*(T - bV aO.l ps x.1+1)).sum
 |[],_=>rfl
 |x::ws,h=>by have W:=h x aa;have e:=Ak A W.go;have s:=Al (ps:=ps) (λq=>A q.b - A q.a) aO.l x.1 W.ix;rw[Dv,O2 r E λy n=>h y<|ae _ n,aS,cx,s,e,r,E];lk
def alr (z:aU n ps)(sm:Small n ps)(i:n<=900)(p:(!ps)<=900)(A:st<n)(N:g<n)(E:st≠g)(c:0<=T)(hB:T+1<1e100)(h:∀q∈ps,q.w<1e100):
  ∃W ws D,gn n ps st g T W ws D/\Pg.fJ [.int (n:Int),hD ps,.int (st:Int),.int (g:Int),.int T]=#[(false,.tuple [.int W,.list<|ws.map kh,.list<|D.map .int])]:=by
 let(r,L,R,_,t):=ajE (T:=T) z sm A N E;have F:=vQ z A N E R;generalize qu L (!ps)=b,many r=M,spent r=C at F t;let(D,em,ml,J,O,mb,Y):=Dy z i p A N E c F;let(ws,P,B,e,y):=F.walks z p E;have I:M*(T+1) - C=(ws.map λx=>x.2*(T - bV aO.l ps x.1+1)).sum:=by rw[Du z A N F.net F.cost J O,←O2 J O P.walk];exact(P.tot _).symm
 have H:M*(T+1) - C=(ps.map<|over<|lf D).sum:=by rw[Gx z A N F.lo F.net F.cost J O Y,vU _ F.len]
 refine(M*(T+1) - C,ws,D,((b,M,C,F,rfl,P),B,I,ml,J,O,mb,H),?_);delta Pg.fJ Pg.CQ;z_go;rw[t];z_go;rw[y];z_go;rw[mJ rfl (by rw[ac];calc aY ∅)];rw[g8 (f:=λd=>match d with|.tuple [.list w,.int m]=>(match sV w with|some v=>.int (m*(T - bV aO.l ps (v.map toNat)+1))|none=>.none)|_=>.none) (by
  intro d s;let(x,l,rfl):=a6.mp s;have Wk:=P.walk x l;have hs:=B x l;have a:=Dw z Wk.ix;have hxl:=iW Wk.nd Wk.ix;let(k,G):=dv _ Wk.ne;have h1:=((P.has l) k G).1;have o:=ar<|Wk.ix k G;have h2:=(F.lo k _ _ o<|oG (by rw[F.len];calc Wk.ix k G)).2;have h3:=h _<|ag o;have h4:=Wk.m1;let(w,m):=x;simp only at*
  refine([#[(Tg.fr,.list<|w.map cZ)],#[(Tg.fr,.int m)],#[(Tg.fr,.int T)],#[(Tg.fr,hD ps)]],?_,rfl,?_)
  .delta kh;z_go
  .z_go;rw[O1 Wk.ix (by simp only;lk)];z_go;rw[pX ∅ ∅ ∅ ∅];have U:sV (w.map cZ)=#[(w.map λj:Nat=>(j:Int))]:=by
    have:w.map cZ=(w.map λj:Nat=>(j:Int)).map .int:=by rw[bE];rfl
    rw[this,jK]
   have Q:(w.map λj:Nat=>(j:Int)).map toNat=w:=by rw[bE];exact(cK λj _=>by simp).trans (List.map_id w)
   erw[kh,U,Q])]
 z_go;rw[bE];have u:ws.map ((λd=>match d with|.tuple [.list w,.int m]=>(match sV w with|some v=>PyData.int (m*(T - bV aO.l ps (v.map toNat)+1))|none=>.none)|_=>.none) ∘ kh)=(ws.map λx=>x.2*(T - bV aO.l ps x.1+1)).map .int:=by
  rw[bE];refine cK λx _=>?_;let(w,m):=x;have U:sV (w.map cZ)=#[(w.map λj:Nat=>(j:Int))]:=by
   have:w.map cZ=(w.map λj:Nat=>(j:Int)).map .int:=by rw[bE];rfl
   rw[this,jK]
  have Q:(w.map λj:Nat=>(j:Int)).map toNat=w:=by rw[bE];exact(cK λj _=>by simp).trans (List.map_id w)
  erw[comp,kh,U,Q]
 rw[u];erw[Cd,jK];rw[<-I];z_go;rw[em];z_go
end LH
namespace cA
open PyProof.Rows L2 VM
def lcL {K:Frag}(Pv:Addr->Nat->¬V->Hp->Prop)(u:(!xs)<sizeLine)
  (k:∀D,J D=none->Pv D 0 [] (upd J D<|.lst []))(o:∀D i ys H,Pv D i ys H->aQ K H a xs)(O:∀L H (R:Bool->Hp->Prop),R true H->tc L H R)
  (q:∀D i x ys H,J D=none->xs[i]? =#[x]->Pv D i ys H->H D=#[.lst ys]->∀(R:VK) (T:L2.St->Hp->Prop),(∀y M,M D=#[.lst ys]->Pv D (i+1) (ys++[y]) (upd M D<|.lst<|ys++[y])->R y M)->(∀G N,gA (cU cap L) G->te G N R->T G N)->g x (cU cap L) H T)
  (l:∀D ys H,J D=none->Pv D (!xs) ys H->(!ys)=!xs->H D=#[.lst ys]->Q (.ref D) H):G7 (FZ K a) cap g tc te L J Q:=by
 intro D hD;refine⟨λi m H=>m=(!xs) - i/\i<=!xs/\∃ys,(!ys)=i/\H D=#[.lst ys]/\Pv D i ys H,⟨_,rfl,cv _,[],rfl,ao,k D hD⟩,?_⟩;rintro i m H ⟨rfl,t,ys,I,E,p⟩;have C:=o D i ys H p;by_cases B:i<!xs
 .refine .inr ⟨⟨xs,xs[i],C,by simp[B]⟩,λx r y=>?_⟩;let(e,y):=y;subst e;have j:=y xs C;refine q D i x ys _ hD j p E (λy M=>∃zs,M D=#[.lst zs]/\(!zs)<sizeLine/\∃U,U<(!xs) - i/\(U=(!xs) - (i+1)/\i+1<=!xs/\∃A,(!A)=i+1/\upd M D (.lst<|zs++[y]) D=#[.lst A]/\Pv D (i+1) A (upd M D<|.lst<|zs++[y]))) _ (λv M h1 h2=>?_) λG N Y h=>⟨Y,O _ _ _ (by rw[ah rfl];calc h)⟩;exact⟨ys,h1,by lk,(!xs) - (i+1),by lk,rfl,B,ys++[v],by rw[aE,I];rfl,ao,h2⟩
 .have e:i=!xs:=by lk
  subst e;calc .inl ⟨⟨xs,C,av _⟩,l D ys _ hD p I E⟩
section
variable {K:Frag}
def vX (x:Str×Q4):():=.tuple [.int x.2.1,.int x.2.2.1,.int x.2.2.2.1,.int x.2.2.2.2]
def X5 (h:Paired (vJ H) B x):aJ K H (x.map vX) (B.map λC=>C.2):=by
 induction h with
 |nil=>rfl
 |cons h r A=>let(_,t,e,U):=h;calc(_,_,rfl,(t,_,e,bK.of U,_,_,rfl,rfl,_,_,rfl,rfl,_,_,rfl,rfl,_,_,rfl,rfl,rfl),A)
inductive UL (K:Frag)(C:Addr)(vs:¬V)(H:Hp)(Q:VK):Prop
 |mk:∀p dx nn ll q nums ls T d fU lE,vs=[.ref p,.ref q,.int T]->aU H C p dx nn ll nums ls->H q=#[.dK fU]->Paired (vJ H) fU lE->(!lE)<100->Pg.fJ [.int ((!nums):Int),.list<|lE.map vX,.int 0,.int 1,.int T]=#[(false,d)]->(∀v H',Same H H'->Has K H' d v->Q v H')->UL K C vs H Q
def Mx (K:Frag)(C:Addr):Sp:=λJ H Q=>UL K C J H Q
def aey (B:Bl E.mg)(c:Cl K C)(A:CV E K 25 5 Pg.fJ)(g0:E.mg "START"=#[.int 0 t0])(k:E.mg "GOAL"=#[.int 1 t1])(h:MF E K C (bT 12)):MO E K C (bT 12) 6 (Mx K C):=by
 refine sX ["self","laid","turns"] h (λvs H Q h=>by let(_,_,_,_,_,_,_,_,_,_,_,rfl,_):=h;rfl) λH nd vt hr m=>?_;refine⟨_,aM<|bD<|pC A<|aj (dU JX gx B.len eA<|aj (dB (pU 0) rfl) aq)<|aj (bM abP gx B.list eI<|aj (abN<|pU 1) aq)<|aj (jD (v:=.int 0) gx g0 ⟨_,rfl⟩)<|aj (jD (v:=.int 1) gx k ⟨_,rfl⟩)<|aj (pU 2) aq,?_⟩;let(p,w,f,a,q,I,i,T,d,D,N,rfl,O,G,M,x,j,r):=m;delta tO jH cg cV qC;refine dH rfl O.ins c.cl c.n1 rfl ⟨f,_,rfl,O.num,?_⟩;refine aG rfl ⟨.inr<|.inr ⟨rfl,D,G⟩,D,G,λz y=>?_⟩;have U:=aK (o:=Ae z q) y;refine⟨z,q,D,rfl,ao,U _ _ G,λl L=>?_⟩;have n:=aK (o:=.lst<|D.map λb=>b.2) L;have J:=U.trans n;delta tC;refine aG rfl ?_;refine⟨_,[.int<|!I,.list<|N.map vX,.int 0,.int 1,.int T],Same.refl _,?_,false,d,j,λv s Y g u=>r v Y (J.trans g.hh) ?_⟩
 .refine⟨_,_,rfl,?_,_,_,rfl,⟨l,_,rfl,aQ.of ao,X5<|M.mono λ_ _ z=>z.same λt xs e=>J _ _ e⟩,_,_,rfl,rfl,_,_,rfl,rfl,_,_,rfl,rfl,rfl⟩;show V.int _=V.int _;simp
 .calc Has.same g.fh u
def iz (x:¬(Str×Q4)):¬Str:=x.map (·.1)
def dh (x:¬(Str×Q4))(w:¬Nat):¬Str:=w.map λj=>(iz x).getD j ""
def je (p:Str×Int):():=.tuple [.str p.1,.int p.2]
abbrev Wk:=¬Str×Int
def kh (x:Wk):():=.tuple [.list<|x.1.map .str,.int x.2]
def wn (A:¬(Str×Q4))(x:¬Nat×Int):Wk:=(dh A x.1,x.2)
def aez (O:∀x∈iz A,(PyData.str x).canLay0=true)(C:∀j∈w,j<!A):∀x∈dh A w,(PyData.str x).canLay0=true:=λx B=>by let(j,Y,rfl):=a6.mp B;have H:=C j Y;refine O _ ?_;delta iz;rw[ca,ar (by rw[ac];calc H)];calc gr _
def ahp {ds:¬()}{vs:¬V}(e:(!ds)=!vs)(h:∀(j:Nat) d v,ds[j]? =#[d]->vs[j]? =#[v]->Has K H d v):aJ K H ds vs:=aJ.p.2<|.of e h
def aeA {seen:¬Str}{t:¬Addr}{A:¬Int}(I:E M=#[.lst<|t.map V.ref])(J:(!t)=!seen)(N:(!A)=!seen)(H:∀(j:Nat) m r C,t[j]? =#[m]->seen[j]? =#[r]->A[j]? =#[C]->E m=#[.tup [.str r,.int C]])(O:∀x∈seen,(PyData.str x).canLay0=true):Has K E (.list<|(seen.zip A).map je) (.ref M):=by refine⟨M,_,rfl,aQ.of I,ahp (by rw[ac,ac,gX];lk) λj d v B G=>?_⟩;rw[ai] at B G;let(p,D,rfl):=bq.mp B;let(m,em,rfl):=bq.mp G;let(h1,h2):=du.mp D;calc⟨m,_,rfl,bK.of (H j m p.1 p.2 em h1 h2),_,_,rfl,⟨rfl,O _<|ag h1⟩,_,_,rfl,rfl,rfl⟩
inductive UW (K:Frag)(C:Addr)(vs:¬V)(H:Hp)(Q:VK):Prop
 |mk:∀p dx nn ll nums ls v w,vs=[.ref p,v]->aU H C p dx nn ll nums ls->Has K H (.list<|w.map PM.cZ) v->((∀j∈w,j<!ls))->((∀x∈iz ls,(PyData.str x).canLay0=true))->(!w)<1000->(∀a H',Same H H'->H a=none->H' a=#[.lst<|(dh ls w).map V.str]->Q (.ref a) H')->UW K C vs H Q
def Mz (K:Frag)(C:Addr):Sp:=λJ H Q=>UW K C J H Q
def aeB (h:Paired (vJ H) B x):(B.map λC=>kV C.1)=(iz x).map V.str:=by
 induction h with
 |nil=>rfl
 |cons h _ A=>rw[aS,A,h.1];rfl
def ahq {w:¬Nat}(C:∀j∈w,j<!nms)(N:(!w)<1000):(jM (cP<|vF 1) [none,#[2]] (gN 0) c7<|v2 aW (vN 1)<|vN 0) [x0,#[(.fr,.list<|w.map PM.cZ)],#[(.fr,cX nms)]]=#[.list<|(w.map λj=>nms.getD j "").map .str]:=by
 z_go;rw[mJ rfl (by rw[ac];calc aY ∅)];rw[g8 (f:=λd=>match d with|.int j=>.str (nms.getD j.toNat "")|d=>d)]
 .z_go;rw[bE,bE];rfl
 .intro d G;let(j,Y,rfl):=a6.mp G;refine([#[(.fr,.int<|j)],#[(.fr,.list<|nms.map .str)]],by z_go;rfl,rfl,?_);have H:=C j Y;z_go;rw[show cN (nms.map PyData.str) (j:Int)=#[.str<|nms.getD j ""] from gM (by simp[H,ca])];rfl
def aeC (B:Bl E.mg)(KT:Zr K)(c:Cl K C)(h:MF E K C (bT 13)):MO E K C (bT 13) 1 (Mz K C):=by refine sX ["self","walk","names"] h (λe H Q h=>by let(_,_,_,_,_,_,_,_,rfl,_):=h;rfl) λH nd vt hr G=>?_;refine(_,ak (pS 2<|bM abt gx B.list eI<|aj (dB (pU 0) rfl) aq)<|aM<|bD<|dLC<|Jb (cap:=[none,#[2]]) ["self","walk","names"] (aP<|bT 13) 'k' rfl rfl (itL<|dF<|pU 1) (λ_ _ _ _ _=>(tgN<|wA (i:=0) (show(["number","names"]:¬Str).Nodup by decide +kernel) 'k')) (λ_ _ _ _ _=>ifN) (λ_ _ _ _ _=>(NZ (dN<|pq 'k' 1)<|mw<|dN<|pq 'k' 0)),?_);let(p,s,w,y,N,x,v,d,rfl,J,r,t,A,k,q):=G;let(I,U,l):=J.laid;dsimp only[iD];delta iC gZ qC cg cV cC tO;refine dH rfl J.ins c.cl c.n2 rfl (y,I,rfl,U,λz u=>?_);rw[aeB l];have O:=aK (o:=.lst<|(iz x).map V.str) u;have D:upd H z (.lst<|(iz x).map V.str) z=#[.lst<|(iz x).map V.str]:=ao;generalize upd H z (.lst<|(iz x).map V.str)=f at O D ⊢;refine VM.Kf (qg.at (m:=3) (L:=[(1,.list<|d.map PM.cZ),(2,cX<|iz x)]) (.c rfl (Has.same O r)<|.c rfl (ad3 D A) .n) rfl) (ahq (λj Y=>by delta iz;rw[ac];calc t j Y) k) λa xs T b g M n=>?_;rw[uP n] at M;calc q a T (O.trans b) (O.free g) M
inductive O4 (K:Frag)(C:Addr)(vs:¬V)(H:Hp)(Q:VK):Prop
 |mk:∀p dx nn ll nums ls v,∀dI:¬Int,vs=[.ref p,v]->aU H C p dx nn ll nums ls->Has K H (.list<|dI.map .int) v->(!dI)=!nums->(∀v H',Same H H'->((∀x∈seenOf nums,(PyData.str x).canLay0=true)->Has K H' (.list<|((seenOf nums).zip dI).map je) v)->Q v H')->O4 K C vs H Q
def HW (K:Frag)(C:Addr):Sp:=λJ H Q=>O4 K C J H Q
def ab8 (B:Bl E.mg)(c:Cl K C)(k:MO E K C (bT 7) 1 (yF C))(h:MF E K C (bT 14)):MO E K C (bT 14) 2 (HW K C):=by refine sX ["self","moments"] h (λvs H Q h=>by let(_,_,_,_,_,_,_,_,rfl,_):=h;rfl) λH nd vt hr m=>?_;refine(_,aM<|bD<|Z2 gx B.list gx B.zip<|aj (pM0 k<|pU 0)<|aj (pU 1) aq,?_);let(p,O,n,d,A,f,v,e,rfl,T,b,r,u):=m;let(a,xs,rfl,M,N):=b;have J:=aJ.ints.mp N;subst J;delta tO tLZ cg cV iw;refine aG rfl (p,O,_,rfl,T.ins,rfl,p,O,n,d,A,f,rfl,T,λs L=>?_);have U:=aK (o:=.lst<|(seenOf A).map V.str) L;refine aG rfl (s,a,_,_,rfl,aQ.of ao,U.seq M,by rw[ac,ac];delta seenOf;rw[ac,r],λz ts Y w G D I=>?_);have y:(!(seenOf A))=!A:=ac ..;rw[ac] at D;refine u _ Y (U.trans w) (aeA G D ∅ λj t x i g l q=>?_);calc I j t (.str x) (.int i) g (by rw[ai,l];rfl) (by rw[ai,q];rfl)
end
end cA
namespace LH
open L2 VM Sp PM
variable {T W W':Int}
inductive als (n:Nat)(ps:¬aO)(st g:Nat)(T W:Int):Prop
 |mk:∀ws dI,gn n ps st g T W ws dI->als n ps st g T W
end LH
namespace LH
open L2 VM Sp PM
variable {T W:Int}
end LH
namespace LH
open L2 VM Sp PM
variable {ps:¬aO}{M T C p:Int}
def rY (T:Int)(x:Int×Int)(G:¬(Int×Int)):jQ T (x::G)=x.2*(if x.1<=T then T+1 - x.1 else 0)+jQ T G:=pF _ _ _
theorem Am (T:Int):∀{G:¬(Int×Int)},(∀x∈G,T<x.1)->jQ T G=0
 |[],_=>by simp[jQ,wsum]
 |x::G,h=>by have a:=h x aa;rw[rY,Am T λy n=>h y<|ae _ n,ap ∅];simp
def jf (p:Int):Int->Int->¬(Int×Int)->¬Int
 |_,_,[]=>[]
 |am,A,x::G=>((p+(A+x.2*x.1) - 1)/(am+x.2))::jf p (am+x.2) (A+x.2*x.1) G
theorem O5 (p:Int):∀(G:¬(Int×Int)) (A B:Int),(!(jf p A B G))=!G
 |[],_,_=>rfl
 |x::G,A,B=>by rw[jf,a8,O5 p G,a8]
def ab9 (x:Int×Int)(G:¬(Int×Int)):many (x::G)=x.2+many G:=by simp[many]
def aaf (v:G≠[])(u:(!G)<=16000000)(D:∀x∈G,1<=x.1/\1<=x.2)(Q:∀x∈G,x.1<1e100)(g:many G<1e100):
  Pg.p8 [.list<|G.map jw,.int p]=#[(false,.int<|eH<|jf p 0 0 G)]:=by
 have O:∀A G (E J:Int) (B:¬Int) (U Y:↑()),0<=E->(!B)+(!G)<=16000000->(∀x∈G,1<=x.1/\1<=x.2)->(∀x∈G,x.1<1e100)->E+many G<1e100->∃H I j k,cT (gT 2<|gC (gN 5)<|gC (gN 6) g0) (aN (qO dW 2<|vF 6)<|aN (qO dW 3<|v2 tR (vN 6)<|vN 5)<|d8 4<|aC (v2 kI (v2 jX (v2 dW (vN 1)<|vN 3)<|vC<|.int 1)<|vN 2) a0) (G.map jw)
   [#[(Tg.fr,.list A)],#[(Tg.fr,.int p)],#[(Tg.fr,.int E)],#[(Tg.fr,.int J)],#[(Tg.ow,.list<|B.map .int)],ob U,ob Y]=.nxt [#[(Tg.fr,.list A)],#[(Tg.fr,.int p)],#[(Tg.fr,.int H)],#[(Tg.fr,.int I)],#[(Tg.ow,.list<|(B++jf p E J G).map .int)],ob j,ob k]:=λA G=>by
  induction G with
  |nil=>intro E J B U Y _ _ _ _ _;calc(E,J,U,Y,by simp[cT,jf])
  |cons x G z=>
   intro E J B U Y b N D Q g;have c:=D x aa;have s:=Q x aa;have t:=HN λy n=>by have:=(D y<|ae _ n).2;lk
   rw[ab9] at g;rw[a8] at N;let(H,I,l,o,L):=z (E+x.2) (J+x.2*x.1) (B++[(p+(J+x.2*x.1) - 1)/(E+x.2)]) (#[.int x.1]) (#[.int x.2]) ∅ (by rw[aE];erw[a8,di];lk) (λy n=>D y<|ae _ n) (λy n=>Q y<|ae _ n) ∅;refine(H,I,l,o,?_);have e:jw x=.tuple [.int x.1,.int x.2]:=rfl;rw[aS,cT,e,jf];rw[cr] at L;rw[List.singleton_append] at L;rw[<-L];z_go;rw[pX ∅ ∅ ∅ ∅];z_go;rw[lO ∅ ∅];z_go;rw[ah (by rw[ac];calc aY ∅),bP];rfl
 delta Pg.p8 Pg.J3;z_go;let(H,I,l,o,L):=O (G.map jw) G 0 0 [] none none ∅ ‹u› D Q ∅;erw[ig,fe,fF] at L;rw[L];z_go;have q:minD [.list<|(jf p 0 0 G).map PyData.int]=#[.int<|eH<|jf p 0 0 G]:=by
  erw[minD,jK];cases G with
  |nil=>lk
  |cons m r=>rfl
 rw[q];rfl
structure Ao where
 w:¬Nat
 m:Int
 s:Int
 e:Int
def bh (r:Ao):():=.tuple [.list<|r.w.map cZ,.int r.m,.int r.s,.int r.e]
abbrev X6 (ps:¬aO)(A:())(T p:Int)(L:¬())(B:Int)(D x7 E G:↑()):GS:=[#[(Tg.fr,hD ps)],#[(Tg.fr,A)],#[(Tg.fr,.int T)],#[(Tg.fr,.int p)],#[(Tg.ow,.list L)],#[(Tg.fr,.int B)],ob D,ob x7,ob E,ob G]
abbrev pfF (vs:¬(¬Nat×Int))(S:GS):Out:=cT (gT 2<|gC (gN 6)<|gC (gN 7) g0) (aN (bZ (v2 dW (v2 jX (vN 2)<|bF Pg.ji<|aC (vF 0)<|aC (vF 6) a0)<|vC<|.int 1)<|gN 8)<|aN (bZ (cL rG<|aC (vN 8)<|aC (v2 kI (vN 5)<|vN 7) a0)<|gN 9)<|aN (dz (vB<|v2 yd (vN 9)<|vC<|.int 0) (aN (d8 4<|aC (fP<|aC (vF 6)<|aC (vF 7)<|aC (vC<|.int 0)<|aC (v2 jX (vN 9)<|vC<|.int 1) a0) a0)<|qO jX 5<|v2 tR (vN 7)<|vN 9) cI)<|dz (lG (vB<|v2 wF (vN 9)<|vN 8)<|vB<|v2 yd (vN 5)<|vC<|.int 0) (aN (d8 4<|aC (fP<|aC (nG<|vN 6)<|aC (vF 5)<|aC (vF 9)<|aC (vF 9) a0) a0)<|bZ (vC<|.int 0)<|gN 5) cI) (vs.map kh) S
def aag {ws:¬(¬Nat×Int)}(hp:(!ps)<=900)(hwl:(!ws)<=900)(z:0<=p)(h:∀x∈ws,1<=x.2/\bV aO.l ps x.1<=T)(b:∀x∈ws,(∀j∈x.1,j<!ps)/\(!x.1)<=900)(hb:∀x∈ws,x.2<1e100/\0<=bV aO.l ps x.1)(hT:T+1<1e100):
  ∃B:¬Ao,(∀r∈B,∃x∈ws,r.w=x.1)/\(!B)<=2*!ws/\Pg.qb [hD ps,.list<|ws.map kh,.int T,.int p]=#[(true,.list<|B.map bh)]:=by
 have q:∀A J (D:Int) (E:¬Ao) (L N O Q:↑()),0<=D->(∀x∈J,x∈ws)->(!E)+2*(!J)<=2000->∃B:¬Ao,∃H U Y g l,(∀r∈B,∃x∈ws,r.w=x.1)/\(!B)<=2*!J/\pfF J (X6 ps A T p (E.map bh) D L N O Q)=.nxt (X6 ps A T p ((E++B).map bh) H U Y g l):=λA J=>by
  induction J with
  |nil=>intro D E L N O Q _ _ _;calc⟨[],D,L,N,O,Q,λ_ h=>(by cases h),cv _,by simp[pfF,cT]⟩
  |cons x J ih=>
   intro D E L N O Q u o m;have w:=h x<|o x aa;have c:=b x<|o x aa;have hx2:=hb x<|o x aa;rw[a8] at m;have G:∀(v:¬Ao) (I:Int) (L N O Q:()),(∀r∈v,r.w=x.1)->(!v)<=2->0<=I->∃B:¬Ao,∃H U Y g l,(∀r∈B,∃x∈ws,r.w=x.1)/\(!B)<=2*!(x::J)/\pfF J (X6 ps A T p (E.map bh++v.map bh) I #[L] #[N] #[O]<|#[Q])=.nxt (X6 ps A T p ((E++B).map bh) H U Y g l):=λv I L N O Q hr hl h2=>by
    let(B,H,a,i,e,y9,t,s,n):=ih I (E++v) #[L] #[N] #[O] #[Q] h2 (λy n=>o y<|ae _ n) (by rw[aE];lk);rw[cr,bP] at n;refine⟨v++B,H,a,i,e,y9,λr h=>?_,by rw[aE,a8];lk,n⟩;rcases aT.mp h with h|h
    .exact⟨x,o x aa,hr r h⟩
    .exact t r h
   delta pfF X6 at G ⊢;have ew:kh x=.tuple [.list<|x.1.map cZ,.int x.2]:=rfl;rw[aS,cT,ew];have el:=O1 c.1 ∅;have d0:0<=D/x.2:=Int.ediv_nonneg u ∅;have d1:=Int.mul_ediv_self_le (x:=D) (k:=x.2) ∅;z_go;rw[el];z_go;rw[lO ∅ ∅];z_go;have d:0<=(if D/x.2<T - bV aO.l ps x.1+1 then D/x.2 else T - bV aO.l ps x.1+1)/\(if D/x.2<T - bV aO.l ps x.1+1 then D/x.2 else T - bV aO.l ps x.1+1)<=T - bV aO.l ps x.1+1/\(if D/x.2<T - bV aO.l ps x.1+1 then D/x.2 else T - bV aO.l ps x.1+1)<=D/x.2:=by split<;>lk
   generalize (if D/x.2<T - bV aO.l ps x.1+1 then D/x.2 else T - bV aO.l ps x.1+1)=f at d ⊢;have d2:x.2*f<=x.2*(D/x.2):=cc d.2.2 ∅;by_cases zA:0<f
   .kt_k;by_cases z1:f<T - bV aO.l ps x.1+1
    .kt_k;by_cases z2:0<D - x.2*f
     .kt_k;rw[ah (by rw[aE,ac];erw[a8,di];calc aY ∅)];z_go;rw[cr];exact G [⟨x.1,x.2,0,f - 1⟩,⟨x.1,D - x.2*f,f,f⟩] 0 _ _ _ _ 's' 's' (b7 _)
     .kt_k;exact G [⟨x.1,x.2,0,f - 1⟩] (D - x.2*f) _ _ _ _ 's' 's' ∅
    .kt_k;exact G [⟨x.1,x.2,0,f - 1⟩] (D - x.2*f) _ _ _ _ 's' 's' ∅
   .erw[zA,db];z_go;by_cases z1:f<T - bV aO.l ps x.1+1
    .kt_k;by_cases z2:0<D
     .kt_k;exact G [⟨x.1,D,f,f⟩] 0 _ _ _ _ 's' 's' (b7 _)
     .kt_k;rw[<-eP (E.map bh)];exact G [] D _ _ _ _ 's' 's' u
    .erw[z1,db];z_go;rw[<-eP (E.map bh)];exact G [] D _ _ _ _ 's' 's' u
 let(B,H,a,i,e,y9,t,s,n):=q (.list<|ws.map kh) ws p [] none none none none z (λx w=>w) (by erw[di];lk);refine⟨B,t,s,?_⟩;delta Pg.qb Pg.J4;z_go;delta pfF X6 at n;erw[ig,fe,fF] at n;rw[n];rfl
def X7 (R:qt (x::G)):qt G:=⟨(fz.mp R.up).2,λy n=>R.pos y<|ae _ n⟩
def uH (R:qt (x::G)):jQ x.1 (x::G)=x.2:=by rw[rY,Am x.1 (fz.mp R.up).1,ah<|b7 _];lk
def ahr:∀{G A:¬(Int×Int)},qt G->qt A->(∀x∈G,x.1<B)->(∀x∈A,x.1<B)->(∀T,0<=T->T<B->jQ T G=jQ T A)->G=A:=by
 have far:∀{x:Int×Int}{G:¬(Int×Int)} {T:Int},qt (x::G)->T<x.1->jQ T (x::G)=0:=λR h=>Am _ λy n=>by
  rcases aI.mp n with e|e
  .rw[e];exact h
  .exact kz h<|(fz.mp R.up).1 y e
 have low:∀{x:Int×Int}{G A:¬(Int×Int)},qt (x::G)->jQ x.1 (x::G)=jQ x.1 A->∃y E,A=y::E/\(qt A->y.1<=x.1):=λ{x G A} R e=>by
  have p:=R.pos x aa;rw[uH R] at e;cases A with
  |nil=>have:jQ x.1 []=0:=rfl;lk
  |cons y E=>
   refine⟨y,E,rfl,λD=>?_⟩;by_cases c:x.1<y.1
   .rw[far D c] at e;lk
   .omega
 intro G;induction G with
 |nil=>
  intro A _ D _ j h;cases A with
  |nil=>rfl
  |cons y A=>
   let⟨_,_,e,_⟩:=low D (h y.1 (by have:=D.pos y aa;lk) (j y aa)).symm;k_go
 |cons x G Q=>
  intro A R D I j h;have p:=R.pos x aa;let⟨y,E,e,Y⟩:=low R (h x.1 ∅ (I x aa));subst e;have g:=D.pos y aa;let⟨_,_,e,k⟩:=low D (h y.1 ∅ (j y aa)).symm;k_go;have L:x.1=y.1:=ic (k R) (Y D);have N:=h x.1 ∅ (I x aa);rw[uH R,L,uH D] at N;have H:x=y:=Prod.ext L N;subst H;rw[Q (X7 R) (X7 D) (λz J=>I z (ae _ J)) (λz J=>j z (ae _ J)) λT O U=>by
   have:=h T O U;rw[rY,rY] at this;lk]
def aeD (I:1<=p):∀{G:¬(Int×Int)}{A B t:Int},0<=A->A<=B->(∀x∈G,1<=x.1/\1<=x.2)->t∈jf p A B G->1<=t:=by
 intro G;induction G with
 |nil=>intro _ _ _ _ _ _ h;cases h
 |cons x G E=>
  intro A B t H O D h;have U:=D x aa
  have:x.2*1<=x.2*x.1:=cc U.1 ∅
  rcases aI.mp h with h|h
  .rw[h];exact Int.le_ediv_of_mul_le ∅ ∅
  .calc E ∅ ∅ (λy n=>D y<|ae _ n) h
structure af8 (n:Nat)(ps:¬aO)(p T:Int)(xM:¬Ao)(dI:¬Int):Prop where
 T1:1<=T
 Tb:T<=p+(ps.map aO.l).sum
 row:∀r∈xM,(∀j∈r.w,j<!ps)/\r.w.Nodup
 len:(!xM)<=2*!ps
 ml:(!dI)=n
def aeE {B:Int}(j:aU n ps)(sm:Small n ps)(hn:n<=900)(m:(!ps)<=900)(Q:st<n)(y:g<n)(H:st≠g)(p1:1<=p)(hpb:p+(ps.map aO.l).sum+1<1e100)(k:0<=B)(b:∀q∈ps,q.w<=B)(hBl:B*(!ps)<1e100):
  ∃G,XK n ps st g G/\((G=[]/\Pg.fu [.int (n:Int),hD ps,.int (st:Int),.int (g:Int),.int p]=#[(false,.none)])\/(G≠[]/\∃D Y,af8 n ps p (eH<|jf p 0 0 G) D Y/\Pg.fu [.int (n:Int),hD ps,.int (st:Int),.int (g:Int),.int p]=#[(false,.tuple [.int<|eH<|jf p 0 0 G,.list<|D.map bh,.list<|Y.map .int])])):=by
 let(G,S):=aem j sm Q y H;refine⟨G,S,?_⟩;by_cases N:G=[]
 .refine .inl ⟨N,?_⟩;have e:=S.e;rw[N] at e;delta Pg.fu Pg.qT;z_go;rw[e];rfl
 .refine .inr ⟨N,?_⟩;have J:=S.rise.pos;let(t,u):=kO (ns:=jf p 0 0 G) (by intro z;have:=O5 p G 0 0;rw[z] at this;calc N<|eL.mp this.symm);have I:many G<1e100:=by let(_,_,_,c):=S.most;have:=alq H c k b;lk
  have a:=aaf (p:=p) N S.len J (λx A=>by have:=S.low x A;lk) I;generalize hT:eH (jf p 0 0 G)=T at*
  have d:=aeD p1 (b7 0) (b7 0) J t;have f:T<=p+(ps.map aO.l).sum:=by
   cases G with
   |nil=>lk
   |cons x G=>
    have h1:=u _ (by rw[jf];calc aa);have h2:=J x aa;have h:=S.low x aa;have h4:(p+(0+x.2*x.1) - 1)/(0+x.2)<p+x.1+1:=by
     refine Int.ediv_lt_of_lt_mul ∅ ?_;rw[kb,kb,ir,ir,mB x.1]
     have:p*1<=p*x.2:=cc ∅ ∅
     lk
    lk
  let(fl,M,C,F,w,_):=S.flow T;let(π,p0,p2,p3):=F.near;let(o,s,em):=Kv (T:=T - 1) j hn m Q y H ∅ F.len p0 ∅ p2;let(ws,P,L,hwl,i):=F.walks j m H;let(D,r1,r2,l):=aag (p:=p) (T:=T) m ∅ ∅ (λx A=>⟨(P.walk x A).m1,L x A⟩) (λx A=>⟨(P.walk x A).ix,by have:=iW (P.walk x A).nd (P.walk x A).ix;lk⟩) (λx A=>by
   have Wk:=P.walk x A;let(U,E):=dv _ Wk.ne;have h1:=((P.has A) U E).1;have v:=ar (Wk.ix U E);have h2:=(F.lo U _ _ v (oG (by rw[F.len];calc Wk.ix U E))).2;have h:=b _ (ag v);have h6:=Wk.ix U E;have h4:B*1<=B*!ps:=cc ∅ k;have h5:=Dw j Wk.ix;calc⟨by lk,by lk⟩) ∅
  refine⟨D,o.map<|lC<|T - 1,⟨d,f,λr hr=>?_,by lk,by rw[ac];calc s.ll⟩,?_⟩
  .let(x,A,R):=r1 r hr;rw[R];exact⟨(P.walk x A).ix,(P.walk x A).nd⟩
  .delta Pg.fu Pg.qT;z_go;rw[S.e];z_go;have O:(G.map jw).isEmpty=false:=by cases G with|nil=>calc absurd rfl N|cons x G=>rfl
   erw[O];z_go;rw[a];z_go;rw[w];z_go;rw[i];z_go;rw[l];z_go;rw[em];z_go
end LH
namespace L2
open PySem.W PySem.Calls PyProof.Rows
section
variable {BR pO:Pos}
inductive U0:V->¬V->Hp->VK->Prop
 |mk fU:H d=#[.dK fU]->(∀z,H z=none->Q (.ref z) (upd H z<|.dK fU))->U0 (.ref d) [] H Q
def alu:ug X "dict.copy" U0:=by intro B s T H x O v J Q I L E q;let(D,C,q):=q;cases L;have A:=E.zero;subst A;let(z,hS,c,rel,N):=rK I.hok C;refine iX mm N.typeIs PySem.F.entry_dict_copy (PySem.F.args_dict_copy_1 _) (meets_dict_copy (strKind X.prog X.w) _ hS) (c,N,by rw[<-!rel];calc z,λg G _ M=>?_);calc(.ref _,_,I.laid M (av _)<|JT z (nB.mpr<|b8 (cw I.big)) rel G,rfl,q _ I.fresh)
def ajI (I:PE X o G)(C:(attributeBase o "copy" X.env (eval o X.env)=eval o X.env)∣0)(D:((BR.endLine==pO.line)=true)∣0):PE X (.Call (.Attribute o "copy" BR) [] [] pO) (G6 X.K "dict" U0 G):=IW c9 mm PySem.F.type_dict_copy alu I C D
end
end L2
namespace cA
open PyProof.Rows L2 VM
section
variable {K:Frag}
def X8 (h:aJ K H ds vs):(!ds)=!vs/\∀(j:Nat) d v,ds[j]? =#[d]->vs[j]? =#[v]->Has K H d v:=⟨!h,λj d v e g=>by
 let(u,B,G):=h.at e;cases B.symm.trans g;calc G⟩
def lcH {ws:¬c}(k O:c->())(U:aQ K B a xs)(N:aJ K B (ws.map k) xs)(t:(!ws)<1000)(Y:∀M H (R:Bool->Hp->Prop),R true H->tc M H R)
  (step:∀D I x E (R:VK) (T:L2.St->Hp->Prop),I∈ws->Same B E->E D≠none->Has K E (k I) x->(∀y J,Same E J->Has K (hide D J) (O I) y->R y J)->(∀G J,gA (cU cap M) G->te G J R->T G J)->g x (cU cap M) E T)
  (m:∀v J,Same B J->Has K J (.list<|ws.map O) v->Q v J):G7 (FZ K a) cap g tc te M B Q:=by
 have q:=!N;rw[ac] at q;refine lcL (xs:=xs) (λD i L E=>Same B E/\aJ K (hide D E) ((ws.take i).map O) L) (aY ∅) (λD hD=>⟨aK hD,rfl⟩) (λD i L E h=>h.1.seq U) Y ?_ ?_
 .rintro D i x L E hD u ⟨sm,n⟩ A R T p l;let(d,e,r):=N.get u;rw[ai] at e;let(I,C,rfl):=bq.mp e;refine step D I x E R T (ag C) sm (by rw[A];calc Option.some_ne_none _) (r.same sm) (λy J j h2=>p y J (j _ _ A) ⟨λb o e=>by rw[au<|aZ e hD];calc j _ _<|sm _ _ e,?_⟩) l;rw[u6,f8,C,bP];exact(n.same<|qJ j).snoc h2
 .rintro D L J hD ⟨sm,n⟩ z A;rw[bu ∅] at n;calc m _ J sm ⟨D,L,rfl,aQ.of A,n.same mR⟩
def outD (x:¬(Str×Q4))(nums:¬(Str×Int))(W:Int)(ws:¬(¬Nat×Int))(A:¬Int):():=.tuple [.int W,.list<|(ws.map<|wn x).map kh,.list<|((seenOf nums).zip A).map je]
def ace (h:Has K H (outD x nums W ws A) v):∃t r,v=.ref t/\bK K H t (.int W::r):=by let(t,_,rfl,U,_,_,rfl,rfl,_):=h;calc⟨t,_,rfl,U⟩
inductive acf (K:Frag)(C:Addr)(vs:¬V)(H:Hp)(Q:VK):Prop
 |mk:∀p dx nn ll nums ls T W ws,∀dI:¬Int,vs=[.ref p,.int T]->aU H C p dx nn ll nums ls->(!ls)<100->Pg.fJ [.int ((!nums):Int),.list<|ls.map vX,.int 0,.int 1,.int T]=#[(false,.tuple [.int W,.list<|ws.map LH.kh,.list<|dI.map .int])]->((∀x∈ws,(∀j∈x.1,j<!ls)/\(!x.1)<1000))->(!ws)<1000->(!dI)=!nums->((∀x∈iz ls,(PyData.str x).canLay0=true))->(∀x∈seenOf nums,(PyData.str x).canLay0=true)->(∀v H',Same H H'->Has K H' (outD ls nums W ws dI) v->Q v H')->acf K C vs H Q
def uI (K:Frag)(C:Addr):Sp:=λJ H Q=>acf K C J H Q
def ajJ (B:Bl E.mg)(c:Cl K C)(Mo:MO E K C (bT 12) 6 (Mx K C))(Mn:MO E K C (bT 13) 1 (Mz K C))(Mb:MO E K C (bT 14) 2 (HW K C))(h:MF E K C (bT 9)):MO E K C (bT 9) 7 (uI K C):=by
 have vc:=(show(["walk","number","self"]:¬Str).all (λx=>G8 (adV ((eE (bT 9)).getD 1 (.Pass ⟨0,0,0,0⟩))) x && plain x)=true by decide +kernel);refine sX ["self","turns","told","walks"] h (λvs H Q h=>by let(_,_,_,_,_,_,_,_,_,_,rfl,_):=h;rfl) λH nd vt hr w=>?_;refine⟨_,ak (pS 2 (pM Mo (pU 0) (aj (dB (pU 0) rfl) (aj (pU 1) aq))))
  (ak (qH (g:=zy K 2 (jq (cC 0) (jq (cC 1) zx))) (i:=3) nd rfl lx (cap:=[none,none,#[0]]) ["self","turns","told","walks"] (aP (bT 9)) 'k' rfl rfl (iM (aR gP (pU 2) aH))
   (λ_ _ _ _ _=>(ur<|eG (wA 'k'<|'k')<|eG (wA 'k'<|'k') pP))
   (λ_ _ _ _ _=>xX) (λ_ _ _ _ _=>(mQ (aj (pM Mn (pq vc 2) (aj (pq vc 0) aq)) (aj (pq vc 1) aq)))))
  (aM (bD (mQ (aj (aR gP (pU 2) aH) (aj (pU 3) (aj (pM Mb (pU 0) (aj (aR gP (pU 2) aH) aq)) aq))))))),?_⟩
 let(p,I,nn,y,A,q,T,W,ws,dI,rfl,J,hl,em,hws,hwl,s,G,n,hq):=w;let(fU,hk,hp):=J.laid;dsimp only[iD];delta iC gZ;delta iw cg cV cC;refine aG rfl ⟨p,I,_,rfl,J.ins,rfl,?_⟩;refine dH rfl J.ins c.cl c.n2 rfl<|aG rfl ⟨p,I,nn,y,y,A,q,T,_,fU,q,rfl,J,hk,hp,hl,em,λv H1 s1 hv=>?_⟩;let(t0,xs0,rfl,Y,z1,q1,rfl,g1,z2,q2,rfl,g2,z3,q3,rfl,g3,g4):=hv;have e1:=g1;have e4:=g4;subst e1 e4;let(a,xs,rfl,k,Yb):=g2;have M:=J.grow s1;try k_ne
 delta xY pK;refine gG rfl Y rfl ⟨a,rfl,⟨xs,k⟩,?_⟩;refine lcH LH.kh (kh ∘ wn q) k Yb hwl (λmH H' R r=>r) (λD wi x H' R Kt hwm sm hD hv hR hK=>?_) λv2 H2 sm l=>?_
 .let(tt,ys',rfl,e,y1,r1,rfl,k1,y2,r2,rfl,k2,k3):=hv;have e2:=k2;have e3:=k3;subst e2 e3;refine⟨_,e,rfl,hK _ _ (gA.skip<|gA.skip gA.refl) ?_⟩;have O:=M.grow sm;let(U,m):=hws wi hwm;delta za;refine aG rfl ⟨p,I,_,rfl,O.ins,rfl,aG rfl ⟨p,I,nn,y,A,q,y1,wi.1,rfl,O,k1,U,G,m,λL H2 s2 hL f=>aG rfl ⟨by show 2<=sizeLine;decide,λu hu=>hR _ _ (s2.trans<|aK hu) ?_⟩⟩⟩;have b:=aK (o:=.tup [.ref L,.int wi.2]) hu;have huD:u≠D:=λz=>hD (s2.free (by rw[<-z];calc hu));have d:L≠D:=λz=>hD (by rw[<-z];calc hL);exact⟨u,_,rfl,bK.of ((hide_ne huD).trans ao),_,_,rfl,⟨L,_,rfl,aQ.of ((hide_ne d).trans<|b _ _ f),jj<|aez G U⟩,_,_,rfl,rfl,rfl⟩
 .have N:=M.grow sm;delta tO za;have j:=sm.oW Y;refine gG rfl j rfl (aG rfl (aG rfl ⟨p,I,_,rfl,N.ins,rfl,gG rfl j rfl ⟨p,I,nn,y,A,q,z3,dI,rfl,N,Has.same sm g3,s,λv3 H3 b hv3=>⟨by show 3<=sizeLine;decide,λt ht=>?_⟩⟩⟩));have s4:=aK (o:=.tup [.int W,v2,v3]) ht;rw[<-bE] at l;calc hq _ _ (s1.trans<|sm.trans<|b.trans s4) ⟨t,_,rfl,bK.of ao,_,_,rfl,rfl,_,_,rfl,l.same<|b.trans s4,_,_,rfl,(hv3 n).same s4,rfl⟩
inductive U3 (C:Addr)(vs:¬V)(H:Hp)(Q:VK):Prop
 |mk:∀p dx nn ll nums ls n d,vs=[.ref p,.int n]->aU H C p dx nn ll nums ls->(!ls)<100->Pg.fu [.int ((!nums):Int),.list<|ls.map vX,.int 0,.int 1,.int n]=#[(false,d)]->((∀x∈iz ls,(PyData.str x).canLay0=true))->(((d=.none/\∀H',Same H H'->Q .non H')\/∃T,∃xM:¬LH.Ao,∃dI:¬Int,d=.tuple [.int T,.list<|xM.map LH.bh,.list<|dI.map .int]/\(∀r∈xM,(∀j∈r.w,j<!ls)/\(!r.w)<1000)/\(!xM)<1000/\(!dI)=!nums/\∀H' t r,Same H H'->H' t=#[.tup (.int T::r)]->Q (.ref t) H'))->U3 C vs H Q
def mq (K:Frag)(C:Addr):Sp:=λJ H Q=>U3 C J H Q
def aeF (B:Bl E.mg)(c:Cl K C)(Cf:CV E K 28 5 Pg.fu){t0 t1:Tok}(g0:E.mg "START"=#[.int 0 t0])(g1:E.mg "GOAL"=#[.int 1 t1])(Mn:MO E K C (bT 13) 1 (Mz K C))(Mb:MO E K C (bT 14) 2 (HW K C))(h:MF E K C (bT 10)):MO E K C (bT 10) 6 (mq K C):=by
 have vc:=(show(["walk","number","first","last","self"]:¬Str).all (λx=>G8 (adV ((eE (bT 10)).getD 3 (.Pass ⟨0,0,0,0⟩))) x && plain x)=true by decide +kernel);refine sX ["self","people","laid","told","plan"] h (λvs H Q h=>by let(_,_,_,_,_,_,_,_,rfl,_):=h;rfl) λH nd vt hr qe=>?_;refine⟨_,ak (pS 2 (bM abP gx B.list eI (aj (abN (dB (pU 0) rfl)) aq)))
  (ak (pS 3 (pC Cf (aj (dU JX gx B.len eA (aj (dB (pU 0) rfl) aq)) (aj (pU 2) (aj (jD (v:=.int 0) gx g0 ⟨_,rfl⟩) (aj (jD (v:=.int 1) gx g1 ⟨_,rfl⟩) (aj (pU 1) aq)))))))
  (ak (bQ (uW (Ik (pU 3))) (aM (bD sE)) bA)
  (ak (qH (g:=zy K 4 (jq (cC 0) (jq (cC 1) (jq (cC 2) (jq (cC 3) zx))))) (i:=4) nd rfl lx (cap:=[none,none,none,none,#[0]]) ["self","people","laid","told","plan"] (aP (bT 10)) 'k' rfl rfl (iM (aR gP (pU 3) aH))
   (λ_ _ _ _ _=>(ur<|eG (wA 'k'<|'k')<|eG (wA 'k'<|'k')<|eG (wA 'k'<|'k')<|eG (wA 'k'<|'k') pP))
   (λ_ _ _ _ _=>xX) (λ_ _ _ _ _=>(mQ (aj (pM Mn (pq vc 4) (aj (pq vc 0) aq)) (aj (pq vc 1) (aj (pq vc 2) (aj (pq vc 3) aq)))))))
  (aM (bD (mQ (aj (aR gP (pU 3) aH) (aj (pU 4) (aj (pM Mb (pU 0) (aj (aR gP (pU 3) aH) aq)) aq))))))))),?_⟩
 let(p,dx,nn,N,G,ls,n,d,rfl,hh,hl,em,O,hd):=qe;let(A,hk,hp):=hh.laid;dsimp only[iD];delta iC gZ;delta qC G6 cg cV cC;refine dH rfl hh.ins c.cl c.n2 rfl ⟨.inr<|.inr ⟨rfl,A,hk⟩,A,hk,λz hz=>?_⟩;have s1:=aK (o:=Ae z N) hz;refine⟨z,N,A,rfl,ao,s1 _ _ hk,λl hl'=>?_⟩;have s2:=aK (o:=.lst<|A.map λJ=>J.2) hl';have I:=s1.trans s2;have m:upd (upd H z<|Ae z N) l (.lst<|A.map λJ=>J.2) l=#[.lst<|A.map λJ=>J.2]:=ao;generalize upd (upd H z<|Ae z N) l (.lst<|A.map λJ=>J.2)=H1 at s2 I m ⊢;have U:=hh.grow I;try k_ne
 delta jH tC;refine dH rfl U.ins c.cl c.n1 rfl ⟨nn,_,rfl,U.num,aG rfl<|aG rfl ?_⟩;refine⟨_,[.int<|!G,.list<|ls.map vX,.int 0,.int 1,.int n],Same.refl _,?_,false,d,em,λv F' H2 g M=>?_⟩
 .refine⟨_,_,rfl,?_,_,_,rfl,⟨l,_,rfl,aQ.of m,X5<|hp.mono λ_ _ z=>z.same λt xs e=>I _ _ e⟩,_,_,rfl,rfl,_,_,rfl,rfl,_,_,rfl,rfl,rfl⟩;show V.int _=V.int _;simp
 have sH:=I.trans g.hh;have M:=Has.same g.fh M;have Y:=hh.grow sH;delta cR tB Br;rcases hd with⟨rfl,hq⟩|⟨T,xM,dI,rfl,hws,hwl,hml,hq⟩
 .have M:=M;subst M;refine aG rfl ⟨true,by simp,?_⟩;try k_ne
  rw[ah rfl];exact hq _ sH
 let(t0,xs0,rfl,q,z1,q1,rfl,g1,z2,q2,rfl,g2,z3,q3,rfl,g3,g4):=M;have e1:=g1;have e4:=g4;subst e1 e4;let(a,xs,rfl,f,Yb):=g2;refine aG rfl ⟨false,by simp,?_⟩;try k_ne
 rw[ap<|by decide];delta jF;try k_ne
 delta xY pK;refine gG rfl q rfl ⟨a,rfl,⟨xs,f⟩,?_⟩;have hl2:=!Yb;rw[ac] at hl2;refine lcL (xs:=xs) (λ_ _ _ H'=>Same H2 H') (aY ∅) (λD hD=>aK hD) (λD i ys H' s=>s.seq f) (λmH H' R r=>r) ?_ ?_
 .intro D i x ys H' hD hx sm hyD R Kt hR hK;let(d,e,M):=Yb.get hx;rw[ai] at e;let(wi,hwi,rfl):=bq.mp e;let(tt,ys',rfl,htt,y1,r1,rfl,k1,y2,r2,rfl,k2,y3,r3,rfl,k3,y4,r4,rfl,k4,k5):=M.same sm;have e2:=k2;have e3:=k3;have e4:=k4;have e5:=k5;subst e2 e3 e4 e5;refine⟨_,htt,rfl,hK _ _ (gA.skip<|gA.skip<|gA.skip<|gA.skip gA.refl) ?_⟩;have k:=Y.grow sm;let(hix,w):=hws wi<|ag hwi;delta za iw;refine aG rfl ⟨p,dx,_,rfl,k.ins,rfl,aG rfl ⟨p,dx,nn,N,G,ls,y1,wi.w,rfl,k,k1,hix,O,w,λL H2 s2 hL hLv=>aG rfl<|aG rfl<|aG rfl ⟨by show 4<=sizeLine;decide,λu hu=>?_⟩⟩⟩;have s3:=s2.trans<|aK (o:=.tup [.ref L,.int wi.m,.int wi.s,.int wi.e]) hu;exact hR _ _ (s3 _ _ hyD) λb o e=>by rw[au<|aZ e hD];exact s3 _ _<|sm _ _ e
 .intro D ys H3 hD sm _ hyD;have j:=Y.grow sm;delta tO za iw;have y:=sm.oW q;calc gG rfl y rfl<|aG rfl<|aG rfl ⟨p,dx,_,rfl,j.ins,rfl,gG rfl y rfl ⟨p,dx,nn,N,G,ls,z3,dI,rfl,j,Has.same sm g3,hml,λv3 H4 s3 _=>⟨by show 3<=sizeLine;decide,λt ht=>hq _ t _ (sH.trans<|sm.trans<|s3.trans<|aK ht) ao⟩⟩⟩
inductive U4 (C:Addr)(vs:¬V)(H:Hp)(Q:VK):Prop
 |mk:∀p dx nn ll nums ls nm q T W W' r r',vs=[.ref p,.str nm,.int T]->aU H C p dx nn ll nums ls->eX nm ls=#[q]->(!ls)<100->Pg.fJ [.int ((!nums):Int),.list<|ls.map vX,.int 0,.int 1,.int T]=#[(false,.tuple (.int W::r))]->Pg.fJ [.int ((!nums):Int),.list<|(rN nm ls).map vX,.int 0,.int 1,.int T]=#[(false,.tuple (.int W'::r'))]->(∀H',Same H H'->Q (.int<|W - W') H')->U4 C vs H Q
def yQ (K:Frag)(C:Addr):Sp:=λJ H Q=>U4 C J H Q
def aeG (c:Cl K C)(a:MO E K C (bT 5) 1 (CJ C))(b:MO E K C (bT 12) 6 (Mx K C))(h:MF E K C (bT 11)):MO E K C (bT 11) 7 (yQ K C):=by
 refine sX ["self","name","turns","without"] h (λvs H Q h=>by let(_,_,_,_,_,_,_,_,_,_,_,_,_,rfl,_):=h;rfl) λH nd vt hr m=>?_;refine⟨_,ak (cB (pM a (pU 0) (aj (pU 1) aq)))
  (ak (pS 3 (ajI (dB (pU 0) rfl)))
  (ak (cB (SM (pU 3) (pU 1) ⟨rfl,rfl,rfl,rfl⟩))
  (aM (bD (bY BP (aR gP (pM b (pU 0) (aj (dB (pU 0) rfl) (aj (pU 2) aq))) aH) (aR gP (pM b (pU 0) (aj (pU 3) (aj (pU 2) aq))) aH)))))),?_⟩
 let(p,D,y,M,A,x,nm,q,T,W,W',r,r',rfl,G,d,n,i,e2,hq):=m;let(B,U,s):=G.laid;have g:=yE nm s;rw[d] at g;let(t,gv,gt):=g;dsimp only[iD];delta iC gk gZ;delta iw G6 cg cV cC;refine aG rfl ⟨p,D,_,rfl,G.ins,rfl,aG rfl ⟨p,D,y,M,A,x,nm,q,rfl,G,d,?_⟩⟩;try k_ne
 refine dH rfl G.ins c.cl c.n2 rfl ⟨.inr<|.inr ⟨rfl,B,U⟩,B,U,λz hz=>?_⟩;refine aG rfl ⟨z,rfl,⟨_,.inl ao⟩,aG rfl ⟨B,nm,.ref t,ao,rfl,gv,?_⟩⟩;rw[Eb];have L:=aK (o:=.dK<|p7 B nm) hz;have f:upd H z (.dK<|p7 B nm) z=#[.dK<|p7 B nm]:=ao;generalize upd H z (.dK<|p7 B nm)=H2 at L f ⊢;have N:=G.grow L;have J:=s.mono λ_ _ z=>z.same λu xs e=>L _ _ e;delta tO fC;refine aG rfl ⟨p,D,_,rfl,N.ins,rfl,dH rfl N.ins c.cl c.n2 rfl<|aG rfl ⟨p,D,y,M,M,A,x,T,_,B,x,rfl,N,L _ _ U,J,n,i,λv H3 O l=>?_⟩⟩;let(t3,xs3,rfl,j,z3,q3,rfl,g3,_):=l;have e3:=g3;subst e3;have Y:=J.mono λ_ _ z=>z.same λu xs e=>O _ _ e;have I:=N.grow O;refine⟨_,_,j,kj _ _,?_⟩;refine aG rfl ⟨p,D,_,rfl,I.ins,rfl,aG rfl<|aG rfl ⟨p,D,y,M,z,A,x,T,_,_,rN nm x,rfl,I,O _ _ f,Xa Y,gE (f5 _ _) n,e2,λv w s4 l=>?_⟩⟩;let(t4,xs4,rfl,k,z4,q4,rfl,g4,_):=l;have e4:=g4;subst e4;calc⟨_,_,k,kj _ _,hq w<|L.trans<|O.trans s4⟩
end
end cA
namespace cA
open L2 VM
def oU (x:Str×Q4):Sp.aO:=(x.2.1.toNat,x.2.2.1.toNat,x.2.2.2.1,x.2.2.2.2)
def bU (x:¬(Str×Q4)):¬Sp.aO:=x.map oU
structure cM (seen:¬Str)(ls:¬(Str×Q4))(bw:¬Row)(B:Int):Prop where
 lr:Paired (LN seen) ls bw
 nn:(bw.map (·.1)).Nodup
 ne:∀r∈bw,r.2.1≠r.2.2.1
 w1:∀r∈bw,1<=r.2.2.2.1/\r.2.2.2.1<=B
 l1:∀r∈bw,1<=r.2.2.2.2
def rowAt (A:¬Row)(j:Nat):Row:=A.getD j ("","","",0,0)
section
variable {B:Int}
def cM.len (F:cM seen x A B):(!x)=!A:=!F.lr
structure AtR (seen:¬Str)(ls:¬(Str×Q4))(bw:¬Row)(j:Nat)(x:Str×Q4):Prop where
 l:ls[j]? =#[x]
 r:bw[j]? =#[rowAt bw j]
 m:rowAt bw j∈bw
 ln:LN seen x (rowAt bw j)
 p:(bU ls)[j]? =#[oU x]
 n:(iz ls).getD j ""=(rowAt bw j).1
 a:∃i:Nat,(oU x).a=i/\seen[i]? =#[(rowAt bw j).2.1]
 b:∃i:Nat,(oU x).b=i/\seen[i]? =#[(rowAt bw j).2.2.1]
 w:(oU x).w=(rowAt bw j).2.2.2.1
 e:(oU x).l=(rowAt bw j).2.2.2.2
def cM.at (F:cM seen C A B)(h:j<!C):∃x,AtR seen C A j x:=by
 have e:=ar h;let(r,T,hr):=Paired.get F.lr e;have M:rowAt A j=r:=by delta rowAt;rw[ca,T];rfl
 let(h1,(i,h2,J),(k,D,E),G,N):=hr;refine(C[j],e,by rwa [M],by rw[M];calc ag T,by rw[M];calc(h1,(i,h2,J),(k,D,E),G,N),by delta bU;rw[ai,e];rfl,?_,(i,by delta oU;k_ne;rw[h2];rfl,by rwa [M]),(k,by delta oU;k_ne;rw[D];rfl,by rwa [M]),by rwa [M],by rwa [M]);delta iz;rwa [ca,ai,e,M]
def cM.mem (F:cM seen C A B)(T:q∈bU C):∃j x,j<!C/\AtR seen C A j x/\q=oU x:=by
 let(j,D):=dm T;have Y:j<!C:=by have:=(af.mp D).1;unfold bU at this;rw[ac] at this;exact this
 let(x,E):=F.at Y;rw[E.p] at D;calc(j,x,Y,E,(bm D).symm)
def cM.hall (F:cM seen E C B):Sp.aU (!seen) (bU E):=by
 refine(λq T=>?_,λq T=>?_,λq T=>?_,λq T=>?_,λq T=>?_)<;>let(j,x,Y,A,rfl):=F.mem T
 .let(i,e,h):=A.a;rw[e];exact(af.mp h).1
 .let(i,e,h):=A.b;rw[e];exact(af.mp h).1
 .let(i,e,h):=A.a;let(k,D,g):=A.b;rw[e,D];intro z;rw[z,g] at h;exact F.ne _ A.m (bm h).symm
 .rw[A.w];exact(F.w1 _ A.m).1
 .rw[A.e];calc F.l1 _ A.m
theorem cM.hD (F:cM seen A C B):PM.hD (bU A)=.list (A.map vX):=by delta PM.hD yC bU;rw[bE,bE];congr 1;refine cK λx E=>?_;let(j,D):=dm E;let(r,_,hr):=Paired.get F.lr D;let(_,(i,h2,_),(k,M,_),_,_):=hr;show pD (((x.2.1.toNat:Nat):Int),((x.2.2.1.toNat:Nat):Int),x.2.2.2.1,x.2.2.2.2)=vX x;delta pD vX;rw[h2,M];rfl
def cM.out (F:cM seen A E B)(H:B<1e69)(J:2<=!seen/\(!seen)<=100)(N:(!A)<=12)(L:0<=T)(h1:T<1e72):
  ∃W ws C,LH.gn (!seen) (bU A) 0 1 T W ws C/\Pg.fJ [.int ((!seen):Int),.list<|A.map vX,.int 0,.int 1,.int T]=#[(false,.tuple [.int W,.list<|ws.map LH.kh,.list<|C.map .int])]:=by
 have I:(!(bU A))=!A:=by delta bU;rw[ac]
 have e:=LH.alr (st:=0) (g:=1) F.hall (LH.Ur ∅ ∅) ∅ ∅ ∅ ∅ ⋯ L ∅ (λq G=>by
  let(j,x,Y,D,rfl):=F.mem G;have:=F.w1 _ D.m;rw[D.w];lk)
 rw[F.hD] at e;calc e
theorem Kw:∀{A:¬Row},(A.map (·.1)).Nodup->r∈A->A.filter (λs=>decide<|s.1=r.1)=[r]
 |[],_,h=>by cases h
 |s::A,nd,h=>by
  rw[aS,bd] at nd;rw[fm];rcases aI.mp h with g|g
  .subst g;rw[ah 's'];rw[List.filter_eq_nil_iff.mpr λt U=>by
    grind]
  .rw[ap (by erw[br];calc λz=>nd.1 (by rw[z];calc cf (f:=λx:Row=>x.1) g))];calc Kw nd.2 g
def SW (A:¬Row)(nms:())(s0 s1:Str)(acc:¬Nat)(room:Str)(C x7:↑()):GS:=[#[(Tg.fr,.list<|A.map bh)],#[(Tg.fr,nms)],#[(Tg.fr,.str s0)],#[(Tg.fr,.str s1)],#[(Tg.ow,.list<|acc.map λj=>bh<|rowAt A j)],#[(Tg.fr,.str room)],ob C,ob x7]
def acg (r:Row):(bh r).depth<=60:=by delta bh;simp[PyData.depth,depthAll]
def ahs {s0 s1 nm:Str}(nd:(A.map (·.1)).Nodup)(hr:r∈A)(N:(!A)<1000)(O:∀r∈A,(bh r).canLay0=true)(C:r.1=nm):
  (jM (cP<|vF 0) [none,#[6]] (gN 0) (vB<|v2 jc (v2 aW (vN 0)<|vC<|.int 0)<|vN 1)<|vF 0) (SW A nms s0 s1 acc room (#[.str nm]) x7)=#[.list [bh r]]:=by
 delta SW;z_go;rw[mJ rfl (by rw[ac];calc aY ∅)];rw[Jk (f:=λd=>d)]
 .z_go;rw[kG,bE];have e:(A.filter<|(λd=>match d with|.list (.str n::_)=>decide (n=nm)|_=>false) ∘ bh)=[r]:=by rw[<-Kw nd hr,C];rfl
  rw[e];rfl
 .intro d G;let(s,D,rfl):=a6.mp G;refine([#[(.fr,bh s)],#[(.fr,.str nm)]],by z_go,?_,λ_=>by z_go);rfl
def aeH {s0 s1 nm:Str}(nd:(A.map (·.1)).Nodup)(I:rowAt A j∈A)(U:(!A)<1000)(O:∀r∈A,(bh r).canLay0=true)(J:(rowAt A j).1=nm)(C:(rowAt A j).2.1=room)
  (D:∀i∈acc,(rowAt A i).1≠nm)(Y:(!acc)<=1000):uD (SW A nms s0 s1 acc room (#[.str nm]) x7)=.nxt (SW A nms s0 s1 (acc++[j]) (rowAt A j).2.2.1 (#[.str nm])<|#[.list [bh<|rowAt A j]]):=by
 have G:=O _ I;delta uD;rw[uN,uO,(ahs (nms:=nms) (s0:=s0) (s1:=s1) (acc:=acc) (room:=room) (x7:=x7) nd I U O J)];delta SW;z_go;have L:jc (.list [bh<|rowAt A j]) (.list [])=#[.bool false]:=eq_nil [rowAt A j];rw[L];z_go;have M:inE (bh<|rowAt A j) (.list<|acc.map λj=>bh<|rowAt A j)=#[.bool false]:=by
  have E:((acc.map λj=>bh<|rowAt A j).all λd=>not (PyData.eqv d (bh<|rowAt A j)))=true:=cp.mpr λd Q=>by let(i,T,rfl):=a6.mp Q;rw[Ke λz=>D i T<|by rw[z,J]];rfl
  exact ah ⟨acg _,E⟩
 rw[M];generalize H:rowAt A j=r at*
 have n:(PyData.str r.2.1).canLay0=true:=by erw[bh,canLay0,canLayAll0,bc] at G ⊢;exact G.2.1
 have N:jr (.str r.2.1) (.str room)=#[.bool false]:=by rw[<-C];exact Aa (by simp[PyData.depth]) n
 rw[show bh r=.list [.str r.1,.str r.2.1,.str r.2.2.1,.int r.2.2.2.1,.int r.2.2.2.2] from rfl];z_go;rw[N];z_go;rw[ah (by rw[ac];calc aY ∅)];z_go;rw[bP,aS,fe,H];rfl
def aeI (F:cM seen J A B)(p:(!A)<1000)(o:∀r∈A,(bh r).canLay0=true):∀(w acc:¬Nat) (v:Nat) (room:Str) (L x7:↑()),LH.goes (bU J) v w=#[g]->seen[v]? =#[room]->(acc++w).Nodup->(∀j∈acc++w,j<!J)->
  ∃C E Y,cT (gN 6) uD ((dh J w).map .str) (SW A nms s0 s1 acc room L x7)=.nxt (SW A nms s0 s1 (acc++w) C E Y)/\seen[g]? =#[C]:=by
 intro w;induction w with
 |nil=>
  intro acc v room L x7 N T _ _;cases N;calc(room,L,x7,by rw[eP];rfl,T)
 |cons j w b=>
  intro acc v room L x7 N T nd O;let(x,G):=F.at (O j<|aT.mpr<|.inr<|aa ..);rw[LH.goes,G.p] at N;dsimp only at N;split at N
  .rename_i q;let(s,l,U):=G.a;let(a,m,f):=G.b;have D:(rowAt A j).2.1=room:=by rw[<-l,q,T] at U;exact(bm U).symm
   have H:∀i∈acc,(rowAt A i).1≠(rowAt A j).1:=λi I z=>by
    let(y,u):=F.at (O i<|aT.mpr<|.inl I);have Q:i≠j:=λz=>(d5.mp nd).2.2 i I j (aa ..) z;have c:(A.map (·.1))[i]? =#[(rowAt A i).1]:=by rw[ai,u.r];rfl
    have d:(A.map (·.1))[j]? =#[(rowAt A i).1]:=by rw[ai,G.r,z];rfl
    let(b1,n):=af.mp c;let(b2,k):=af.mp d;exact Q<|(ly F.nn).mp<|n.trans k.symm
   have M:(!acc)<=1000:=by
    have h1:(!(acc++j::w))<=!J:=by have:=Sp.iW nd O;exact this
    rw[aE] at h1;have:=F.len;lk
   let(C,E,Y,h1,h2):=b (acc++[j]) (oU x).b (rowAt A j).2.2.1 (#[.str (rowAt A j).1]) (#[.list [bh<|rowAt A j]]) N (by rwa [m]) (by rwa [cr]) (by rwa [cr]);refine(C,E,Y,?_,h2);rw[cr] at h1;delta dh at h1 ⊢;rw[aS,aS,cT];have t:gN 6 (.str<|(iz J).getD j "") (SW A nms s0 s1 acc room L x7)=#[SW A nms s0 s1 acc room (#[.str (rowAt A j).1]) x7]:=by rw[G.n];delta SW;z_go
   rw[t];k_ne;rwa [(aeH (nms:=nms) (s0:=s0) (s1:=s1) (x7:=x7) F.nn G.m p o rfl D H M)]
  .cases N
def Z9 (F:cM seen D A B)(N:(!A)<1000)(O:∀r∈A,(bh r).canLay0=true){rest:¬Str}(G:seen=s0::s1::rest)(E:(PyData.str s1).canLay0=true)(Wk:LH.yP (bU D) 0 1 x):
  uE [dR A,cX<|dh D x.1,.str s0,.str s1]=#[(true,.list<|x.1.map λj=>bh<|rowAt A j)]:=by
 have J:(!(bU D))=!D:=by delta bU;rw[ac]
 let(C,H,I,e,h):=aeI F N O x.1 [] 0 s0 none none Wk.go (by rw[G];rfl) Wk.nd (λj Y=>by have:=Wk.ix j Y;lk);have hr:C=s1:=by rw[G] at h;exact(bm h).symm
 subst hr;delta uE dR cX at*
 delta J9;z_go;delta SW at e;erw[ig,fe,fF] at e;rw[e];z_go;rw[(Aa (by simp[PyData.depth]) E)];z_go
end
def aeJ (seen:¬Str)(A:¬Int):():=.list<|(seen.zip A).map je
def aht (x:Int):qd [.int x]=#[(false,.bool true)]:=by rfl
def Dy {rest:¬Str}(m:(!A)=!(s0::s1::rest))(y:(!(s0::s1::rest))<1000)(l:∀x∈s0::s1::rest,(PyData.str x).canLay0=true)(k:∀J∈A,0<=J/\J<=T+1)(U:PM.lf A 0=0)(h1:PM.lf A 1=T+1):
  jo [aeJ (s0::s1::rest) A,cX (s0::s1::rest),.int T]=#[(false,.bool true)]:=by
 obtain⟨r,E,C,rfl⟩:∃r E C,A=r::E::C:=by
  match A,m with
  |r::E::C,_=>exact⟨r,E,C,rfl⟩
 have L:r=0:=U;have M:E=T+1:=h1;have H:=Aa (Kg (s0::s1::rest))<|ad2 l;unfold jo aeJ cX at*
 unfold yK;generalize hS:s0::s1::rest=seen at*
 generalize Y:r::E::C=B at*
 z_go;rw[mJ rfl (by rw[ac,gX];calc aY ∅)];rw[g8]
 .z_go;have N:((seen.zip B).map je).map (λd=>match d with|.tuple (x::_)=>x|d=>d)=seen.map .str:=by
   rw[bE]
   have:(seen.zip B).map ((λd=>match d with|.tuple (x::_)=>x|d=>d) ∘ je)=((seen.zip B).map (·.1)).map .str:=by rw[bE];rfl
   rw[this,o4 ∅]
  rw[N,H];z_go;let(q,Q,O,D):=W7 (t:=gN 3) (g:=ZM) (λ_ S=>∃O,S=[#[(Tg.fr,.list<|(seen.zip B).map je)],#[(Tg.fr,.list<|seen.map .str)],#[(Tg.fr,.int T)],ob O]) ((seen.zip B).map je) 0 [#[(Tg.fr,.list<|(seen.zip B).map je)],#[(Tg.fr,.list<|seen.map .str)],#[(Tg.fr,.int T)],none] ⟨none,rfl⟩ λj d S G hS=>by
    let(O,rfl):=hS;let(p,o,rfl):=a6.mp<|ag G;have I:=(gS o).2;let(u,b1):=k _ I;refine⟨[#[(Tg.fr,.list<|(seen.zip B).map je)],#[(Tg.fr,.list<|seen.map .str)],#[(Tg.fr,.int T)],ob<|#[je p]],by z_go,[#[(Tg.fr,.list<|(seen.zip B).map je)],#[(Tg.fr,.list<|seen.map .str)],#[(Tg.fr,.int T)],ob<|#[je p]],?_,⟨_,rfl⟩⟩;unfold ZM je;z_go;have v:decide (((2:Nat):Int)=2)=true:=by decide
    kt_k;rw[aht];kt_k
  rw[Q];subst D;rw[<-hS,←Y];z_go;rw[ke,ke];z_go;unfold je;z_go;rw[L];z_go;erw[dL];z_go;rw[M];kt_k
 .intro d G;let(p,_,rfl):=a6.mp G;refine⟨_,rfl,rfl,rfl⟩
open PyProof.Rows
def mK (seen:¬Str)(A:¬Int)(x:Str):Int:=(eX x<|seen.zip A).getD 0
theorem vY:∀{seen:¬Str}{A:¬Int} {i:Nat} {x:Str} {B:Int},seen.Nodup->seen[i]? =#[x]->A[i]? =#[B]->eX x (seen.zip A)=#[B]
 |s::seen,m::A,0,x,B,_,h1,h2=>by cases h1;cases h2;rw[ke,eX,ah rfl]
 |s::seen,m::A,i+1,x,B,nd,h1,h2=>by
  rw[bd] at nd;rw[ke,eX,ap λz=>nd.1 (by
   have C:s=x:=z;rw[C];calc ag (show seen[i]? =#[x] from h1))]
  calc vY nd.2 (show seen[i]? =#[x] from h1) (show A[i]? =#[B] from h2)
 |[],_,i,x,B,_,h1,_=>by simp at h1
 |_::_,[],i,x,B,_,_,h2=>by simp at h2
def wY (seen:¬Str)(A:¬Int)(r:Row):Int:=r.2.2.2.1*(if mK seen A r.2.2.1 - mK seen A r.2.1 - r.2.2.2.2>0 then mK seen A r.2.2.1 - mK seen A r.2.1 - r.2.2.2.2 else 0)
section
variable {K:Frag}
def bI (e:B[i]? =#[#[.ref t]])(h:aQ K H t xs)(a:cN xs j=#[v])(q:Q v H):fC (zp K) (vR i) (tC<|.int j) B H Q:=aG e (xs,v,h,a,q)
def row_has (h:Has K H (bh r) v):∃a,v=.ref a/\aQ K H a (fQ r):=by let(t,A,rfl,T,B,L,rfl,(rfl,_),E,m,rfl,(rfl,_),Y,C,rfl,(rfl,_),j,D,rfl,M,J,G,rfl,k,hr):=h;subst M k hr;calc(t,rfl,T)
def ahu (h:Has K H (je p) v):∃a,v=.ref a/\bK K H a [.str p.1,.int p.2]:=by let(t,A,rfl,T,C,L,rfl,(rfl,_),j,D,rfl,M,hr):=h;subst M hr;calc(t,rfl,T)
inductive U5 (K:Frag)(vs:¬V)(H:Hp)(Q:VK):Prop
 |mk:∀vd vm bw seen,∀dI:¬Int,vs=[vd,vm]->Has K H (dR bw) vd->Has K H (aeJ seen dI) vm->seen.Nodup->(!dI)=!seen->(!seen)<1000->((∀r∈bw,r.2.1∈seen/\r.2.2.1∈seen/\r.2.2.2.1.natAbs<2^8000/\(mK seen dI r.2.2.1 - mK seen dI r.2.1 - r.2.2.2.2).natAbs<2^8000))->(∀H',Same H H'->Q (.int (bw.map<|wY seen dI).sum) H')->U5 K vs H Q
def Yc (K:Frag):Sp:=λJ H Q=>U5 K J H Q
end
section
variable {K:Frag}{seen:¬Str}{us A t:¬Addr}
end
section
variable {x0 x1 x2 O B A C:↑(Tg×())}
end
def ajL {seen:¬Str}{ws:¬(¬Nat×Int)}(N:(!B)<=12)(O:LH.gn (!seen) (bU B) 0 1 T W ws G):(∀x∈ws,(∀j∈x.1,j<!B)/\(!x.1)<1000)/\(!ws)<1000:=by
 let(E,I,H,D,_,A):=O.flow;have J:(!(bU B))=!B:=by delta bU;rw[ac]
 refine⟨λx C=>⟨λj Y=>by have:=(A.walk x C).ix j Y;lk,by have:=Sp.iW (A.walk x C).nd (A.walk x C).ix;lk⟩,?_⟩;have:=A.few;have:=LH.vW E;have:=D.len;lk
section
variable {seen A:¬Str}{ws C:¬(¬Nat×Int)}
def uJ (B:Str->Int)(r:Row):Int:=r.2.2.2.1*(if 0<B r.2.2.1 - B r.2.1 - r.2.2.2.2 then B r.2.2.1 - B r.2.1 - r.2.2.2.2 else 0)
def cM.UJ (F:cM seen I E B)(nd:seen.Nodup)(U:(!D)=!seen):((bU I).map<|LH.over<|PM.lf D).sum=(E.map<|wY seen D).sum:=by
 congr 1;refine ov λj=>?_;by_cases Y:j<!I
 .let(x,G):=F.at Y;rw[ai,ai,G.p,G.r];show #[_]=#[_];congr 1;let(Q,J,L):=G.a;let(T,M,O):=G.b;have H:∀{i:Nat}{z:Str},seen[i]? =#[z]->mK seen D z=PM.lf D i:=λ{i z} h=>by
   have N:i<!D:=by have:=(af.mp h).1;lk
   delta mK PM.lf;rw[vY nd h<|ar N,ca,ar N]
  delta LH.over wY;rw[G.w,G.e,J,M,H L,H O];by_cases c:(rowAt E j).2.2.2.2<PM.lf D T - PM.lf D Q
  .rw[ah c,ah ∅]
  .rw[ap c,ap ∅,my]
 .have h1:(!(bU I))<=j:=by delta bU;rw[ac];lk
  have h2:(!E)<=j:=by have:=F.len;lk
  rw[ai,ai,bg h1,bg h2];rfl
theorem cM.over (F:cM seen L D B)(E:Str->Int):((bU L).map<|LH.over λi=>E<|seen.getD i "").sum=(D.map<|uJ E).sum:=by
 congr 1;refine ov λj=>?_;by_cases Y:j<!L
 .let(x,G):=F.at Y;rw[ai,ai,G.p,G.r];show #[_]=#[_];congr 1;let(k,M,N):=G.a;let(g,O,Q):=G.b;have H:∀{i:Nat}{z:Str},seen[i]? =#[z]->seen.getD i ""=z:=λh=>by rw[ca,h];rfl
  have J:∀I:Nat->Int,I k=E (rowAt D j).2.1->I g=E (rowAt D j).2.2.1->LH.over I (oU x)=uJ E (rowAt D j):=λI T U=>by
   delta LH.over uJ;rw[G.w,G.e,M,O,T,U];by_cases c:(rowAt D j).2.2.2.2<E (rowAt D j).2.2.1 - E (rowAt D j).2.1
   .rw[ah c,ah ∅]
   .rw[ap c,ap ∅,my]
  exact J _ (b9 E<|H N)<|b9 E<|H Q
 .have h1:(!(bU L))<=j:=by delta bU;rw[ac];lk
  have h2:(!D)<=j:=by have:=F.len;lk
  rw[ai,ai,bg h1,bg h2];rfl
theorem cM.weak {rest:¬Str}(F:cM (s0::s1::rest) x D B)(O:LH.gn (!(s0::s1::rest)) (bU x) 0 1 T W ws G)(L:E s0=0)(h1:E s1=T+1):W<=(D.map<|uJ E).sum:=by rw[<-F.over E];calc O.weak F.hall 's' 's' L h1
def cM.top {rest:¬Str}(F:cM (s0::s1::rest) x E B)(nd:(s0::s1::rest).Nodup)(O:LH.gn (!(s0::s1::rest)) (bU x) 0 1 T W ws D):∃G:Str->Int,G s0=0/\G s1=T+1/\W=(E.map<|uJ G).sum:=by
 have I:=O.ml;have H:∀{i:Nat}{z:Str},(s0::s1::rest)[i]? =#[z]->mK (s0::s1::rest) D z=PM.lf D i:=λ{i z} h=>by
  have N:i<!D:=by have:=(af.mp h).1;lk
  delta mK PM.lf;rw[vY nd h<|ar N,ca,ar N]
 refine(mK (s0::s1::rest) D,(H rfl).trans O.m0,(H rfl).trans O.m1,?_);rw[O.UJ,F.UJ nd I];rfl
def aeK (h:1<=r.2.2.2.1):0<=uJ B r:=by
 delta uJ;split
 .exact fA ∅ ∅
 .simp
def cM.le {rest D:¬Str}(F:cM (s0::s1::rest) x G B)(L:cM (s0::s1::D) I E Y)(nd:(s0::s1::D).Nodup)(O:LH.gn (!(s0::s1::rest)) (bU x) 0 1 T W ws U)(M:LH.gn (!(s0::s1::D)) (bU I) 0 1 T N C J)(h:∀H:Str->Int,(G.map<|uJ H).sum<=(E.map<|uJ H).sum):W<=N:=by let(H,Q,h1,e):=L.top nd M;rw[e];calc fg (F.weak O Q h1)<|h H
def sum_filter {f:Row->Int}:∀{B:¬Row},(∀r∈B,0<=f r)->((B.filter p).map f).sum<=(B.map f).sum:=by
 intro B;induction B with
 |nil=>simp
 |cons r B D=>grind
end
end cA
namespace L2
open PyProof.Rows PySem.SeqAt
section
variable {BR pO:Pos}
inductive alv (K:Frag)(x:V)(vs:¬V)(H:Hp)(Q:VK):Prop
 |mk:∀(l:Addr) (y:V) (as:¬Addr) (ds:¬()) (dy:()) (j:Nat),x=.ref l->vs=[y]->H l=#[.lst<|as.map V.ref]->as.Nodup->aJ K H ds (as.map V.ref)->Has K H dy y->dy.depth<=60->j<!as->((∀(m:Nat) d,ds[m]? =#[d]->eqv d dy=decide (m=j)))->Q (.int (j:Int)) H->alv K x vs H Q
end
end L2
namespace cA
open PyProof.Rows L2 VM
def RB (B:Int)(r:Row):Prop:=r.2.1≠r.2.2.1/\r.2.2.2.1<=B/\1<=r.2.2.2.2
section
variable {A:¬Row}{ws C:¬(¬Nat×Int)}
def Dz (N:Ok D names A nums x)(h:∀r∈A,RB B r):cM (seenOf nums) x A B:=⟨N.lr,N.dr.nn,λr hr=>(h r hr).1,λr hr=>⟨N.dr.wd r hr,(h r hr).2.1⟩,λr hr=>(h r hr).2.2⟩
def cM.eq {rest D:¬Str}(F:cM (s0::s1::rest) x A B)(H:cM (s0::s1::D) E A Y)(nd:(s0::s1::rest).Nodup)(G:(s0::s1::D).Nodup)(O:LH.gn (!(s0::s1::rest)) (bU x) 0 1 T W ws M)(I:LH.gn (!(s0::s1::D)) (bU E) 0 1 T L C J):W=L:=
 ic (F.le H G O I λ_=>b7 _) (H.le F nd I O λ_=>b7 _)
end
section
variable {A:¬Row}{ws D:¬(¬Nat×Int)}{nm s0 s1:Str}{rest:¬Str}
def aeL (nm:Str)(A:¬Row):¬Row:=A.filter λs=>not (decide (s.1=nm))
def Yd (h:Ok B names A nums C):Ok B names (aeL nm A) nums (rN nm C):=by
 refine((h.dr.r2,h.dr.r5,h.dr.rn,h.dr.n8,?_,?_,?_),h.num,h.nd,h.sub,?_)
 .exact(pb _ i8).nodup h.dr.nn
 .exact λr hr=>h.dr.sub r (c6.mp hr).1
 .exact λr hr=>h.dr.wd r (c6.mp hr).1
 .calc Bp h.lr λx y z=>by rw[z.1]
def ajM (h:∀r∈A,RB B r):∀r∈aeL nm A,RB B r:=λr hr=>h r (c6.mp hr).1
def Ok.two (h:Ok B names A nums x)(C:seenOf nums=s0::s1::rest):2<=!nums:=by have:=b9 List.length C;unfold seenOf at this;grind
def U6 (N:Ok C names A nums x)(L:seenOf nums=s0::s1::rest)(H:∀r∈A,RB B r)(O:LH.gn (!(seenOf nums)) (bU x) 0 1 T W ws M)(G:LH.gn (!(seenOf nums)) (bU<|rN nm x) 0 1 T I D J):I<=W:=by have F:=Dz N H;have E:=Dz (Yd (nm:=nm) N)<|ajM H;have nd:=N.nd;rw[L] at F E O G nd;calc E.le F nd G O λQ=>sum_filter λr hr=>aeK<|N.dr.wd r hr
def aeM (U:Ok E names A nums x)(k:seenOf nums=s0::s1::rest)(L:Ok E names A C I)(H:seenOf C=s0::s1::J)(Q:∀r∈A,RB B r)(O:LH.gn (!(seenOf nums)) (bU x) 0 1 T W ws g)(N:LH.gn (!(seenOf C)) (bU I) 0 1 T j D Y):W=j:=by have F:=Dz U Q;have M:=Dz L Q;have nd:=U.nd;have G:=L.nd;rw[k] at F O nd;rw[H] at M N G;calc F.eq M nd G O N
end
section
end
section
variable {K:Frag}
def Ye (O:∀R:¬V->Hp->Prop,(∀E,Same H E->R [.str a,.str b] E)->t m H R)(k:fW a)(g:fW b)(r:a≠b)
  (q:∀x A J G E,aU E C x A J G [(a,0),(b,1)] []->Same H E->H J=none->H G=none->Q (.ref x) E):Qi C (Kd C) t m H Q:=by
 refine O _ λN l x A p T Y=>?_;have B:∀c o,H c=#[o]->c≠x/\c≠A/\N c=#[o]:=λc o e=>by have e:=l c o e;lk
 refine⟨x,A,a,b,rfl,ao,k,g,r,λE J G D U M L=>⟨rfl,q x A J G E D (λc o e=>?_) ?_ ?_⟩⟩
 .let(I,j,e):=B c o e;exact U c o I (by rw[au I,au j];calc e)
 .cases e:H J with
  |none=>rfl
  |some o=>let(I,j,e):=B _ _ e;rw[au I,au j,e] at M;lk
 .cases e:H G with
  |none=>rfl
  |some o=>let(I,j,e):=B _ _ e;rw[au I,au j,e] at L;lk
def of_lay {nm a b:Str}(h:bf.sp C p (.lay nm a b w l) H Q):Kc C [.ref p,.str nm,.str a,.str b,.int w,.int l] H Q:=h
def aeN {xs:¬Str}(nd:xs.Nodup)(h:xs[i]? =#[a]):Not (a∈xs.take i):=λz=>by let(N,e):=af.mp h;have G:=nd;rw[<-mT i xs] at G;calc(d5.mp G).2.2 a z a (by rw[ec N,e];calc aa ..) rfl
def Held.stay (h:Held H D A)(g:aU H C p J I G nums L)(s:fD I G H E):Held E D A:=(qW g s h.top,λx B=>qW g s<|h.row x B,h.can)
end
def Ok.U7 (N:Ok B names A nums D)(hr:r∈A):r.2.1∈B/\r.2.2.1∈B:=by let(x,_,_,(i,_,C),(j,_,G),_):=Gs N.lr hr;calc⟨N.sub _<|ag C,N.sub _<|ag G⟩
def RX (B:Int)(r:Row):Prop:=r.2.1≠r.2.2.1/\r.2.2.2.1<=B/\1<=r.2.2.2.2/\r.2.2.2.2<=bR
def wB (i:Nat):Int:=(i:Int)*bR
def MJ (i:Nat):wB (i+1)=wB i+bR:=by delta wB;rw[pp,ir];show _+1*bR=_;rw[Int.one_mul]
def ahv (G:lA bR C names A d)(D:∀r∈A,RX (wB i) r):∀r∈uF d A,RX (wB<|i+1) r:=by
 have L:0<=bR:=by decide
 have M:0<=wB i:=fA ∅ L;have E:∀{r:Row}{nm:Str} {k:Int},r∈A->k<=bR->RX (wB<|i+1) (gH nm k r):=λ{r nm k} hr T=>by
  let(a,b,c,d):=D r hr;rw[MJ];delta gH;split
  .exact(a,by show r.2.2.2.1+k<=_;lk,c,d)
  .exact(a,by lk,c,d)
 have st:∀r∈A,RX (wB<|i+1) r:=λr hr=>by let(a,b,c,d):=D r hr;rw[MJ];exact(a,by lk,c,d)
 cases d with
 |lay nm a b w l=>
  let(_,_,_,_,H,_,N,O,Q):=G;intro r hr;have B:=hr;rcases aT.mp B with g|g
  .exact st r g
  .rw[a7.mp g,MJ];calc(H,by show w<=_;lk,N,Q)
 |shut nm=>intro r hr;calc st r (c6.mp hr).1
 |widen nm k=>let(_,_,J):=G;intro r hr;let(I,B,rfl):=a6.mp hr;calc E B J
 |narrow nm k=>let(_,_,_,J,_):=G;intro r hr;let(I,B,rfl):=a6.mp hr;calc E B ∅
def ach (d:bf)(D L:Str)(B:¬Str):∃Q,zY d (D::L::B)=D::L::Q:=by
 have C:∀m r,∃Q,(if((D::L::m).any λy=>y==r)=true then D::L::m else(D::L::m)++[r])=D::L::Q:=λm r=>by
  split
  .exact⟨m,rfl⟩
  .exact⟨m++[r],rfl⟩
 cases d with
 |lay nm a b w l=>show ∃Q,mY (D::L::B) [a,b]=D::L::Q;delta mY;rw[g9,g9,List.foldl_nil];let(E,A):=C B a;rw[A];calc C E b
 |shut nm=>calc⟨B,rfl⟩
 |widen nm k=>calc⟨B,rfl⟩
 |narrow nm k=>calc⟨B,rfl⟩
section
variable {K:Frag}
def SL (K:Frag)(m8:¬Addr)(H:Hp)(t:Addr)(xs:¬V):Prop:=(∃o,H t=#[o]/\(∀k,o≠ .dK k)/\Not (t∈m8)/\∀E:Hp,E t=#[o]->aQ K E t xs)\/∀E,aQ K E t xs
def SL.mk0 (h:aQ K H t xs):SL K [] H t xs:=by
 rcases h with(h|⟨o,h⟩)|h
 .exact .inl (_,h,λ_ z=>(by cases z),λz=>(by cases z),λ_ e=>.inl<|.inl e)
 .exact .inl (_,h,λ_ z=>(by cases z),λz=>(by cases z),λ_ e=>.inl<|.inr ⟨o,e⟩)
 .calc .inr λ_=>.inr h
def SL.sq (h:SL K m8 H t xs):aQ K H t xs:=by
 rcases h with⟨o,e,_,_,f⟩|h
 .exact f _ e
 .calc h _
def SL.new (h:SL K m8 H t xs)(n:H b=none):SL K (b::m8) H t xs:=by
 rcases h with⟨o,e,d,m,f⟩|h
 .refine .inl (o,e,d,λz=>?_,f);grind
 .calc .inr h
def SL.grow (h:SL K m8 H t xs)(s:Same H E):SL K m8 E t xs:=by
 rcases h with⟨o,e,d,m,f⟩|h
 .exact .inl (o,s _ _ e,d,m,f)
 .calc .inr h
def SL.frame (h:SL K m8 H t xs)(U:∀b o,Not (b∈m8)->H b=#[o]->E b=#[o])(C:∀x∈A,x∈m8\/H x=none):SL K A E t xs:=by
 rcases h with⟨o,e,d,m,f⟩|h
 .refine .inl (o,U _ _ m e,d,λz=>?_,f);grind
 .calc .inr h
def Yg (h:aQ K H t (A.map V.str))(c:∀x∈A,(PyData.str x).canLay0=true):Has K H (cX A) (.ref t):=(t,_,rfl,h,jj c)
end
section
variable {K:Frag}
def tvV (n L)(h:qg K H B L)(e:f (fX n L)=#[d])(q:∀v E,Same H E->Has K E d v->Q v E)(C:((!B)=n)∣0):tV K RS f B H Q:=VM.zZ (h.at C) e q
def U8 (n L)(h:qg K H B L)(e:f (fX n L)=#[.int z0])(q:∀E,Same H E->Q (.int z0) E)(C:((!B)=n)∣0):tV K RS f B H Q:=VM.zZ (h.at C) e λv E s M=>(M)▸q E s
def tvS (n L)(h:qg K H B L)(e:f (fX n L)=#[.str z])(q:∀E,Same H E->Q (.str z) E)(C:((!B)=n)∣0):tV K RS f B H Q:=VM.zZ (h.at C) e λv E s M=>(M.1)▸q E s
def tvB (n L)(h:qg K H B L)(e:f (fX n L)=#[.bool b])(q:∀E,Same H E->Q (.bl b) E)(C:((!B)=n)∣0):tV K RS f B H Q:=VM.zZ (h.at C) e λv E s M=>(M)▸q E s
def tvT (n L)(h:qg K H B L)(e:f (fX n L)=#[b])(q:∀E,Same H E->Q b E)(C:((!B)=n)∣0):iT K f B H Q:=VM.Tw (h.at C) e q
def tvN {ys:¬Str}(n L)(h:qg K H B L)(e:f (fX n L)=#[.list<|ys.map .str])(q:∀a E,Same H E->H a=none->E a=#[.lst<|ys.map V.str]->Q (.ref a) E)(C:((!B)=n)∣0):tV K RN f B H Q:=VM.Kf (h.at C) e λa D E s h1 h2 J=>by cases uP J;calc q a E s h1 h2
def tvP (n L)(h:qg K H B L)(e:f (fX n L)=#[.tuple [.str a,.str b,.str c]])(q:∀E,Same H E->D.nx (((B.set i<|#[.str a]).set j<|#[.str b]).set k<|#[.str c]) E)(C:((!B)=n)∣0)(A:(3=m)∣0):gZ (tV K RS f) (zy K m<|jq (cC i)<|jq (cC j)<|jq (cC k) zx) D B H:=VM.zZ (h.at C) e λv E s M=>by let(w,I,rfl,G,_,_,rfl,(rfl,_),_,_,rfl,(rfl,_),_,_,rfl,(rfl,_),N):=M;cases(N);calc(_,G,A,q E s)
def tvY (n L)(h:qg K H B L)(e:f (fX n L)=#[true])(q:∀E,Same H E->t D B E)(C:((!B)=n)∣0):cR (iT K f) t u D B H:=VM.Tw (h.at C) e q
def Yh (n L)(h:qg K H B L)(e:f (fX n L)=#[false])(q:∀E,Same H E->u D B E)(C:((!B)=n)∣0):cR (iT K f) t u D B H:=VM.Tw (h.at C) e q
end
def bO (h:∀N:L2.St->Hp->Prop,(∀B H,u D B H->N B H)->t {D with nx:=N} B H):iC t u D B H:=h _ λ_ _ x=>x
def oW (f:∀E,Same H E->u D B E)(h:∀N:L2.St->Hp->Prop,(∀E,Same H E->N B E)->t {D with nx:=N} B H):iC t u D B H:=h _ f
def U9 {K:Frag}(Pv:Nat->L2.St->Hp->Prop)(e:B[i]? =#[#[.ref a]])(L:Pv 0 B H)(N:∀i B H,i<=!xs->Pv i B H->aQ K H a xs)(C:∀i x B H,xs[i]? =#[x]->Pv i B H->g x B H λG J=>E {D with nx:=Pv<|i+1} G J)(A:∀B H,Pv (!xs) B H->D.nx B H):GX (pK K<|vR i) g E D B H:=by rw[qI];calc aG e (a,rfl,⟨xs,N 0 B H (cv _) L⟩,forL Pv L N C A)
def jT (e:B[i]? =#[#[.ref a]])(hi:H a=#[.ins C E A])(D:A.lookup m=none)(q:t B H λvs J=>G (.ref a::vs) J Q):iw C m G (vR i) t B H Q:=aG e (a,E,A,rfl,hi,D,q)
def forA {K:Frag}{ws:¬U}(F:U->V)(st:Nat->Y->L2.St)(A:Nat->Hp->Prop)(y:Y)(C:j=st 0 y)(L:A 0 H)(N:∀i H,A i H->aQ K H a (ws.map F))
  (O:∀i x y H,ws[i]? =#[x]->A i H->g (F x) (st i y) H λG J=>T {D with nx:=λB E=>(∃y,B=st (i+1) y)/\A (i+1) E} G J)(I:∀y H,A (!ws) H->D.nx (st (!ws) y) H):rE (FZ K a) g T D j H:=by
 refine forL (λi B E=>(∃y,B=st i y)/\A i E) ⟨⟨y,C⟩,L⟩ (λi B E _ h=>N i E h.2) ?_ ?_
 .rintro i v B E M ⟨⟨y,rfl⟩,h⟩;rw[ai] at M;let(x,Q,rfl):=bq.mp M;exact O i x y E Q h
 .rintro B E ⟨⟨y,rfl⟩,h⟩;rw[ac] at h ⊢;calc I y E h
def aeO {K:Frag}(h:te B H λv E=>∃a,v=.ref a/\(∃xs,aQ K E a xs)/\rE (FZ K a) g A D B E):GX (pK K te) g A D B H:=by rwa [qI]
def forM {K:Frag}{ws:¬T}(F:T->V)(st:Nat->U->L2.St)(A:Nat->Hp->Prop)(y:U)(e:E[k]? =#[#[.ref a]])(C:E=st 0 y)(L:A 0 H)(N:∀i H,A i H->aQ K H a (ws.map F))
  (O:∀i x y H,ws[i]? =#[x]->A i H->g (F x) (st i y) H λG J=>Q {D with nx:=λB I=>(∃y,B=st (i+1) y)/\A (i+1) I} G J)(M:∀y H,A (!ws) H->D.nx (st (!ws) y) H):GX (pK K<|vR k) g Q D E H:=aeO<|aG e (a,rfl,⟨_,N 0 H L⟩,forA F st A y C L N O M)
def hide {g:Prop}(h:∀G:Prop,(g->G)->G):g:=h g λx=>x
def ifK (t u:TS)(D:Ends)(B:L2.St):VK:=λx H=>match x with
 |.bl k=>if k=true then t D B H else u D B H
 |_=>False
def aoe (h:t D B H):ifK t u D B (.bl true) H:=h
def DG (h:te B H (ifK t u D B)):cR (jJ te) t u D B H:=h
def orK (b:TT)(t u:TS)(D:Ends)(B:L2.St):VK:=λx H=>match x with
 |.bl k=>if k=true then t D B H else cR b t u D B H
 |_=>False
def orO (h:te B H (orK tc t u D B)):cR (Ww (jJ te) tc) t u D B H:=h
def orF (h:cR tc t u D B H):orK tc t u D B (.bl false) H:=h
def aah (h:te B H λ_ E=>D.nx B E):gk te D B H:=h
def qx (h:te B H λx E=>g x B E D.nx):gZ te g D B H:=h
def callC (h:te B H λv E=>C B E λvs J=>A (v::vs) J Q):jH A (cg te C) B H Q:=h
def dJ (h:te B H λx E=>D B E λy J=>r x y J Q):fC r te D B H Q:=h
def gJ (h:te B H λv E=>A B E λvs J=>Q (v::vs) J):cg te A B H Q:=h
def cO (h:Q v H):tC v B H Q:=h
def vZ (h:te B H D.rt):tO te D B H:=h
def cbO (h:A B H λvs E=>r vs E Q):qC r A B H Q:=h
def ajP (h:t {D with nx:=u D} B H):iC t u D B H:=h
end cA
namespace VM
open PyProof.Rows L2 PySem.Builtin PySem.Builtin.Str
section
variable {R:Rel}
def MtD (K:Frag)(D:()->()->↑())(r:V->¬V->Hp->VK->Prop)(R:Rel):Prop:=∀A M F H z y d (Q:VK),D (.str z) y=#[d]->bB A M F H->∀u,Has K H y u->
 (∀v B E,bB A M B E->R K A M B E d v->Q v E)->r (.str z) [u] H Q
def qy (D:()->()->↑()):()->()->↑()
 |.str z,y=>D (.str z) y
 |_,_=>none
def S8 {id:String}(slot:Slot "str" m id)(O:typeOf (.builtin id)=pure (.type "method_descriptor"))(n:ug X id r)(b:MtD X.K D r R)(s:PE X o (tV X.K RW f))(c:PE X e (tV X.K RW g))
  (B:(attributeBase o m X.env (eval o X.env)=eval o X.env)∣0)
  (L:(((backTo A<|starEach [e] X.env).all (λx=>not x.1) && (backToKw A<|keywordEach [] X.env).all (λx=>x.1.isSome) && decide ([e].length+(!([]:¬Keyword))+(if([]:¬Keyword).isEmpty then 0 else 1)<30))=true)∣0)
  (E:((J.endLine==A.line)=true)∣0)(U:(starEach [e] X.env=(false,eval e X.env)::starEach [] X.env)∣0)(C:((backTo A<|starEach [] X.env).any (·.1)=false)∣0):
  PE X (.Call (.Attribute o m J) [e] [] A) (tV X.K R<|v2 (qy D) f g):=(uq de slot O n s (aj c aq U) B L E U C).imp λ_ H Q q=>by
 let(N,G,M,S,F,I,d,e,q):=q;let(x,y,l,p,e):=qK e;cases x with
 |str z=>
  refine⟨N,G,M,S,F,I,_,l,λv Y i T w=>?_⟩;let(rfl,_):=w;calc⟨rfl,N,G,M,S,Y,I.grow T,_,p,λu j k t a=>b F H j k z y d Q e (T.trans t) u a q⟩
 |_=>cases e
end
section
variable {K:Frag}
theorem O6:∀(l:¬(Str×Tok)),Vals ((l.map (·.1)).map V.str) (strValues l)
 |[]=>.nil
 |(x,t)::r=>.cons ⟨t,rfl⟩<|O6 r
theorem MK:∀{ys:¬Str}{us:¬Value},Vals (ys.map V.str) us->∃l:¬(Str×Tok),l.map (·.1)=ys/\us=strValues l
 |[],_,.nil=>([],rfl,rfl)
 |y::ys,_,.cons ⟨t,e⟩ r=>by let(l,h1,h2):=MK r;calc((y,t)::l,by rw[aS,h1],by rw[e,h2];rfl)
def jj {ys:¬Str}(h:∀w∈ys,(PyData.str w).canLay0=true):aJ K H (ys.map PyData.str) (ys.map V.str):=aJ.map λw C=>⟨rfl,h w C⟩
theorem wZ:∀{ys:¬Str}{vs:¬V},aJ K H (ys.map PyData.str) vs->vs=ys.map V.str
 |[],_,h=>h
 |_::_,_,(_,_,e,⟨B,_⟩,r)=>by rw[e,B,wZ r];rfl
def agc:V->¬V->Hp->VK->Prop:=λx D H Q=>∃z y,x=.str z/\D=[.str y]/\((!y)==0)=false/\(!z)<=sizeLine/\
 ∀t,H t=none->Q (.ref t) (upd H t<|.tup [.str (Txt.partition z y).1,.str (Txt.partition z y).2.1,.str (Txt.partition z y).2.2])
def Xf:ug X "str.partition" agc:=by
 intro A s D H x J v E Q I L G h;let(z,y,rfl,rfl,n,C,q):=h;let(t,rfl):=L;let(_,rfl,u,rfl):=vals1 G;refine gm F.slot_str_partition (hE _ _ _) F.entry_str_partition (F.args_str_partition_2 _ _) (meets_str_partition z y t u n C) ?_;have B:∀a b c (k:Nat),Vals [.str (Txt.partition z y).1,.str (Txt.partition z y).2.1,.str (Txt.partition z y).2.2] [a,b,c]->EP X A D Q (.ref (~~~s)) {s with toks:=k,heap:=s.heap.push {cls:=.type "tuple",data:=.seq [a,b,c].toArray}}:=λa b c k e=>
  (.ref (~~~s),_,I.laid (λb o h=>ay _ h) (av _)
   (show gj X.prog X.w _ _ _ (.tup _) from(by show 3<=sizeLine;decide,_,e,(_,bj _ rfl,rfl,_,rfl))),rfl,q _ (I.hok.fresh (av _)))
 delta Txt.partition at B;revert B;cases occurrences z y 0 (!z) 1 with
 |nil=>calc λf=>f _ _ _ _<|.cons ⟨_,rfl⟩<|.cons ⟨_,rfl⟩<|.cons ⟨_,rfl⟩ .nil
 |cons i r=>calc λf=>f _ _ _ _<|.cons ⟨_,rfl⟩<|.cons ⟨_,rfl⟩<|.cons ⟨_,rfl⟩ .nil
def cG (z:Str):Bool:=(PyData.str z).canLay0
def w5:()->()->↑()
 |.str z,.str y=>if(not ((!y)==0) && decide ((!z)<=9000) && cG (Txt.partition z y).1 && cG (Txt.partition z y).2.1 && cG (Txt.partition z y).2.2)=true then #[.tuple [.str (Txt.partition z y).1,.str (Txt.partition z y).2.1,.str (Txt.partition z y).2.2]] else none
 |_,_=>none
def afX:MtD K w5 agc RS:=by
 intro A M F H z y d Q e g u n q;cases y with
 |str y=>
  let(rfl,_):=n;erw[w5] at e;by_cases c:(not ((!y)==0) && decide ((!z)<=9000) && cG (Txt.partition z y).1 && cG (Txt.partition z y).2.1 && cG (Txt.partition z y).2.2)=true
  .rw[ah c] at e;k_go;erw[bc,br,kN] at c;refine(_,_,rfl,rfl,c.1.1.1.1,ck c.1.1.1.2<|by decide,λt U=>q _ _ _ (g.trans<|bB.BX g.fh U) (t,_,rfl,bK.of ao,jj (ys:=[_,_,_]) ?_));intro w C;erw[aI,List.mem_nil_iff,ip] at C;rcases C with rfl|rfl|rfl
   .exact c.1.1.2
   .exact c.1.2
   .exact c.2
  .rw[ap c] at e;k_go
 |_=>cases e
end
section
variable {K:Frag}
def acj:V->¬V->Hp->VK->Prop:=λx D H Q=>∃z y,x=.str z/\D=[.str y]/\((!y)==0)=false/\(!z)<=sizeLine/\(!(Txt.split z y))<=sizeLine/\
 (partsBetween z (occurrences z y 0 (!z)<|(!z)+1) !y).length<=sizeLine/\∀l,H l=none->Q (.ref l) (upd H l<|.lst<|(Txt.split z y).map V.str)
def zW:ug X "str.split" acj:=by
 intro A s E H x N v M Q I L G h;let(z,y,rfl,rfl,n,D,J,f,q):=h;let(t,rfl):=L;let(_,rfl,u,rfl):=vals1 G;have B:∀l (k:Nat),l.map (·.1)=Txt.split z y->EP X A E Q (.ref (~~~s)) {s with toks:=k,heap:=s.heap.push {cls:=.type "list",data:=.seq (strValues l).toArray}}:=λl k e=>
  (.ref (~~~s),_,I.laid (λb o h=>ay _ h) (av _)
   (show gj X.prog X.w _ _ _ (.lst ((Txt.split z y).map V.str)) from(by rwa [ac],strValues l,0,by rw[<-e];calc O6 l,bj _ rfl)),rfl,q _ (I.hok.fresh (av _)))
 cases h1:(decide ((!z)<!y)||decide (strKind z<strKind y))
 .cases C:(occurrences z y 0 (!z)<|(!z)+1).isEmpty
  .refine gm lP (hE _ _ _) kX (kK _ _) (meets_str_split_sep z y t u h1 n C D f) ?_;rw[strsFrom_eq];exact B (numbered s.toks _) _<|(numbered_texts _ _).trans ((ap<|iS h1).trans<|ap<|iS C).symm
  .exact gm lP (hE _ _ _) kX (kK _ _) (meets_str_split_not_found z y t u h1 n C)
    (B [Prod.mk z t] s.toks ((ap<|iS h1).trans<|ah C).symm)
 .exact gm lP (hE _ _ _) kX (kK _ _) (meets_str_split_cannot_occur z y t u h1)
   (B [Prod.mk z t] s.toks (ah h1).symm)
def yR (z y:Str):Bool:=not ((!y)==0) && decide ((!z)<=9000) && decide ((!(Txt.split z y))<=1000) && decide ((partsBetween z (occurrences z y 0 (!z)<|(!z)+1) !y).length<=1000) && (Txt.split z y).all cG
def tH:()->()->↑()
 |.str z,.str y=>if yR z y=true then #[.list<|(Txt.split z y).map .str] else none
 |_,_=>none
def J5:MtD K tH acj RN:=by
 intro A M F H z y d Q e g u n q;cases y with
 |str y=>
  let(rfl,_):=n;erw[tH] at e;by_cases c:yR z y=true
  .rw[ah c] at e;k_go;delta yR at c;erw[bc,br,kN] at c;have k:=show(9000)<=sizeLine by decide
   exact(_,_,rfl,rfl,c.1.1.1.1,by lk,by lk,by lk,λl N=>q _ _ _ (g.trans<|bB.alloc g.fh N) (_,l,_,rfl,rfl,g.hh.free N,g.fh.free N,ao,jj<|cp.mp c.2))
  .rw[ap c] at e;k_go
 |_=>cases e
def Yi:V->¬V->Hp->VK->Prop:=λx D H Q=>∃z y,x=.str z/\D=[.str y]/\Q (.bl<|Txt.startswith z y) H
def abw:ug X "str.startswith" Yi:=by intro A s B H x D v C Q I L G h;let(z,y,rfl,rfl,q):=h;let(t,rfl):=L;let(_,rfl,u,rfl):=vals1 G;calc SC.startswith (.bl _,H,I,rfl,q)
def MN:()->()->↑()
 |.str z,.str y=>#[.bool<|Txt.startswith z y]
 |_,_=>none
def ag5:MtD K MN Yi RS:=by
 intro A M F H z y d Q e g u n q;cases y with
 |str y=>
  let(rfl,_):=n;k_go;calc(_,_,rfl,rfl,q _ _ _ g rfl)
 |_=>cases e
def aof:V->¬V->Hp->VK->Prop:=λx D H Q=>∃z,x=.str z/\D=[]/\Q (.bl<|Txt.isdigit z) H
def ajQ:ug X "str.isdigit" aof:=by intro A s B H x D v C Q I L G h;let(z,rfl,rfl,q):=h;let(t,rfl):=L;cases G;calc SC.isdigit (.bl _,H,I,rfl,q)
def aeP:()->↑()
 |.str z=>#[.bool<|Txt.isdigit z]
 |_=>none
def an5 (T:PE X o (tV X.K RW f))(C:(attributeBase o "isdigit" X.env (eval o X.env)=eval o X.env)∣0)(D:((B.endLine==A.line)=true)∣0):
  PE X (.Call (.Attribute o "isdigit" B) [] [] A) (tV X.K RS<|v1 aeP f):=(IW de PySem.F.slot_str_isdigit PySem.F.type_str_isdigit ajQ T C D).imp λ_ H Q q=>by
 let(J,G,M,S,F,I,d,e,q):=q;delta v1 at e;cases E:f S with
 |none=>rw[E] at e;k_go
 |some x=>
  rw[E] at e;cases x with
  |str z=>
   k_go;refine(J,G,M,S,F,I,_,E,λv L N O U=>?_);let(rfl,_):=U;calc(rfl,_,rfl,rfl,q _ L N O rfl)
  |_=>cases e
def MP:¬V->Hp->VK->Prop:=λD H Q=>∃n:Int,D=[.int n]/\n.natAbs.log2<1920/\Q (.str<|toString n) H
def cStr:dO X (.type "str") MP:=by intro A s B H D C Q I r h;let(n,rfl,h1,q):=h;let(u,rfl,t,rfl):=vals1 r;calc P.str_of_int h1 (.str _,H,I.tok _,⟨_,rfl⟩,q)
def tZ:¬()->↑()
 |[.int n]=>if(decide (n.natAbs.log2<1920) && cG (toString n))=true then #[.str<|toString n] else none
 |_=>none
def adT:CallD K tZ MP:=by
 intro H J A d Q e h q;delta tZ at e;f_are
 .f_are
  .rename_i n c;k_go;rw[bc,br] at c;let(_,_,rfl,rfl,rfl):=h;exact(n,rfl,c.1,q _ λ_=>⟨rfl,c.2⟩)
  .k_go
 .k_go
def agd:¬V->Hp->VK->Prop:=λD H Q=>∃z n,D=[.str z]/\intText? z=#[n]/\(!z)<=640/\Q (.int n) H
def alj:dO X (.type "int") agd:=by intro A s E H D B Q I r h;let(z,n,rfl,C,N,q):=h;let(u,rfl,t,rfl):=vals1 r;calc PySem.W.KIN.call_text C N (.int n,H,I.tok _,⟨_,rfl⟩,q)
def Aq:¬()->↑()
 |[.str x]=>if (!x)<=640 then(intText? x).map .int else none
 |_=>none
def ali:CallD K Aq agd:=by
 intro H J D d Q e A q;delta Aq at e;f_are
 .f_are
  .rename_i x B;let(n,C,rfl):=bq.mp e;let(_,_,rfl,(rfl,_),rfl):=A;exact(_,n,rfl,C,B,q _ λ_=>rfl)
  .k_go
 .k_go
def rJoin (K:Frag):V->¬V->Hp->VK->Prop:=λx D H Q=>∃z p A,x=.str z/\D=[.ref p]/\aQ K H p (A.map V.str)/\JoinOk z A=true/\Q (.str<|Txt.join z A) H
def Fw:ug X "str.join" (rJoin X.K):=by intro A s T H x J v E Q I L G h;let(z,p,O,rfl,rfl,D,Y,q):=h;let(t,rfl):=L;let(_,rfl,e):=vals1 G;cases e;let(B,C,N,_):=I.list D;let(l,h1,rfl):=MK C;calc SC.join N.isList h1 Y λM k=>(.str _,H,I.tok k,⟨M,rfl⟩,q)
def jx:()->()->↑()
 |.str z,.list B=>match sW B with
  |some A=>if(JoinOk z A && cG (Txt.join z A))=true then #[.str<|Txt.join z A] else none
  |none=>none
 |_,_=>none
def ZK (z:PE X o (tV X.K RW f))(t:PE X e (tV X.K RM g))(B:(attributeBase o "join" X.env (eval o X.env)=eval o X.env)∣0)
  (L:(((backTo A<|starEach [e] X.env).all (λx=>not x.1) && (backToKw A<|keywordEach [] X.env).all (λx=>x.1.isSome) && decide ([e].length+(!([]:¬Keyword))+(if([]:¬Keyword).isEmpty then 0 else 1)<30))=true)∣0)
  (D:((J.endLine==A.line)=true)∣0)(Y:(starEach [e] X.env=(false,eval e X.env)::starEach [] X.env)∣0)(C:((backTo A<|starEach [] X.env).any (·.1)=false)∣0):
  PE X (.Call (.Attribute o "join" J) [e] [] A) (tV X.K RS<|v2 jx f g):=(uq de f4 fT Fw z (aj t aq Y) B L D Y C).imp λ_ H Q q=>by
 let(N,G,M,S,F,I,d,e,q):=q;let(x,y,m,r,e):=qK e;delta jx at e;f_are
 .f_are
  .f_are
   .rename_i s _ a O E;k_go;cases oY O;rw[bc] at E;refine(N,G,M,S,F,I,_,m,λv j c T b=>?_);let(rfl,_):=b;refine(rfl,N,G,M,S,j,I.grow T,_,r,λu k l U n=>?_);let(p,w,rfl,h1,h2):=RM.list U.fh n;cases wZ h2;exact(_,_,_,rfl,rfl,h1,E.1,q _ k l (T.trans U) ⟨rfl,E.2⟩)
   .k_go
  .k_go
 .k_go
end
end VM
namespace VM
open PyProof.Rows L2
section
variable {K:Frag}
def v8 (a b:Str):Bool:=not (ltCps ⇑b ⇑a)
def rA:v8 a b=true↔⇑a<=⇑b:=by delta v8;rw[ltCps_eq,kN,l7];calc List.not_lt
def O7 (h:v8 a b=true)(g:v8 b c=true):v8 a c=true:=rA.mpr<|List.le_trans (rA.mp h)<|rA.mp g
def acn (a b:Str):(v8 a b||v8 b a)=true:=by rw[gL,rA,rA];calc List.le_total ..
def aeQ (h:v8 a b=true)(g:v8 b a=true):a=b:=by have e:=List.le_antisymm (rA.mp h)<|rA.mp g;cases a;cases b;rw[iP] at e;cases e;rfl
theorem O8:∀{l:¬Str}{p},risingS p l=true->(p::l).Pairwise (λa b=>v8 a b=true)
 |[],_,_=>List.pairwise_singleton ..
 |x::r,p,h=>by
  let(h1,h2):=Bool.and_eq_true_iff.mp h;have A:=O8 h2;refine fz.mpr ⟨λy n=>?_,A⟩;rcases aI.mp n with rfl|n
  .exact h1
  .calc O7 h1<|(fz.mp A).1 y n
def aai:∀{l:¬Str},sortedS l=true->l.Pairwise (λa b=>v8 a b=true)
 |[],_=>.nil
 |_::_,h=>O8 h
def j6 (ys:¬Str):¬Str:=ys.mergeSort v8
def aco (ys:¬Str):(j6 ys).Pairwise (λa b=>v8 a b=true):=List.pairwise_mergeSort (le:=v8) (λ_ _ _=>O7) acn ys
def aeR (h:sortedS zs=true)(p:zs.Perm ys):zs=j6 ys:=
 List.Perm.eq_of_pairwise (λ_ _ _ _=>aeQ) (aai h) (aco ys) (p.trans (nK ys v8).symm)
def aeS (ys:¬Str):j6 (j6 ys)=j6 ys:=List.mergeSort_of_pairwise<|aco ys
def v9 (ys:¬Str):(j6 ys).Perm ys:=nK ..
theorem Ky:∀{l:¬(Str×Tok)},StrsAre (strValues l) (l.map (·.1))
 |[]=>.nil
 |_::_=>.cons _ _ Ky
theorem Yj:∀{vs:¬Value}{A:¬Str},StrsAre vs A->Vals (A.map V.str) vs
 |_,_,.nil=>.nil
 |_,_,.cons _ _ r=>.cons ⟨_,rfl⟩<|Yj r
theorem Va:∀{ys:¬Str}{vs:¬V},aJ K H (ys.map PyData.str) vs->∀w∈ys,(PyData.str w).canLay0=true
 |_::_,_,(_,_,_,⟨_,c⟩,r),w,C=>by
  rcases aI.mp C with rfl|C
  .exact c
  .calc Va r w C
def agf (K:Frag):¬V->Hp->VK->Prop:=λD H Q=>∃p A,D=[.ref p]/\aQ K H p (A.map V.str)/\(!A)<64/\∀l,H l=none->Q (.ref l) (upd H l<|.lst<|(j6 A).map V.str)
def afZ:dO X (.builtin "sorted") (agf X.K):=by
 intro B s m H g k Q I r h;let(p,Y,rfl,M,L,q):=h;let(_,rfl,e):=vals1 r;k_go;let(O,E,T,_):=I.list M;let(l,h1,rfl):=MK E;have N:(!(strValues l))<64:=by rwa [<-!E,ac]
 refine sorted_strs T.isList Ky N λA U G D j=>?_;rw[h1] at D;have e:=aeR j D;subst e;let(J,C):=sortedAll_at s.heap (strValues l) A;refine(.ref<| ~~~s+1,_,I.laid (λb ob e=>sortedAll_old e) (kA _) ?_,rfl,q _<|I.hok.fresh<|kA _);refine(?_,A.toList,J,Yj G,C);rw[ac,(v9 Y).length_eq];calc ck (jp L)<|by decide
def Fx (f:VE):VE:=λS=>match f S with
 |some (.list B)=>match sW B with
  |some A=>if (!A)<64 then #[.list<|(j6 A).map .str] else none
  |none=>none
 |_=>none
def afY (J:PE X e (qC (agf X.K)<|cg (tV X.K RM f) cV)):PE X e (tV X.K RN<|Fx f):=J.imp λ_ H Q q=>by
 f_int;delta Fx at e;f_are
 .rename_i j D;f_are
  .rename_i B E;f_are
   .rename_i L;k_go;cases oY E;refine(A,G,M,S,F,I,_,D,λv U Y C T=>?_);let(p,k,rfl,h1,h2):=RM.list C.fh T;cases wZ h2;exact(p,B,rfl,h1,L,λl N=>q _ _ _ (C.trans<|bB.alloc C.fh N) (_,l,_,rfl,rfl,C.hh.free N,C.fh.free N,ao,jj λw O=>(Va h2) w<|(v9 B).mem_iff.mp O))
   .k_go
  .k_go
 .k_go
end
section
variable {K:Frag}
def wg:()->↑Str
 |.str z=>if (!z)<=9000 then #[z] else none
 |.int n=>if n.natAbs.log2<1920 then #[toString n] else none
 |_=>none
def ou:¬()->↑Str
 |[]=>#[Str.empty]
 |d::r=>match wg d with
  |some z=>(ou r).map (z++ ·)
  |none=>none
def ahw {n:Int}(h:n.natAbs.log2<1920):(!↥n)<=9000:=by have e:=int_text_length_le ⋯ h;rw[PySem.ofString_length];lk
def O9 (a b c:Str):a++b++c=a++(b++c):=by show Str.mk ((a.cps++b.cps)++c.cps)=Str.mk (a.cps++(b.cps++c.cps));rw[Array.append_assoc]
def ahx (a:Str):a++Str.empty=a:=by show Str.mk (a.cps++ #[])=a;rw[Array.append_empty]
def ahy (a:Str):Str.empty++a=a:=by show Str.mk (#[]++a.cps)=a;rw[Array.empty_append]
inductive FmA (K:Frag)(fw:VA)(σ:L2.St)(H:Hp)(Q:Str->Hp->Prop):Prop
 |mk {j8:Nat->↑Addr} {G cQ:Hp} {S:GS} {F:Hp} (I:VI K j8 G cQ S F σ H) (e:fw S=#[ds]) (z:ou ds=#[y]) (q:∀F' H',bB F H F' H'->Q y H')
def Td (X:Cx)(D:¬Expr)(G:VA):Prop:=∀(B:Str) (n:Nat) (A:¬(Addr×Obj)) (s:Shared) (C:L2.St) (H:Hp) (Q:VK),(!B)<=9000*n->n+(!D)<=100->Inv X A C H s->FmA X.K G C H (λz E=>Q (.str<|B++z) E)->
 (X.prog\X.w) X.A (joinParts B<|evalEach D X.env) (EP X A C Q) NE s
variable {A:Pos}
def pf0:Td X [] a0:=by intro B n C s J H Q G E I q;let(D,e,z,q):=q;cases e;cases z;have q:=q _ _<|bB.refl D.sub;rw[ahx] at q;refine joinParts_nil (.str B,H,I.tok _,⟨_,rfl⟩,q) ?_;rw[fo];erw[di] at E;lk
def pfC (h1:PE X e (tV X.K RW f))(h2:Td X L Y)(he:(evalEach (.FormattedValue e (-1) none A::L) X.env=eval (.FormattedValue e (-1) none A) X.env::evalEach L X.env)∣0):Td X (.FormattedValue e (-1) none A::L) (aC f Y):=by
 intro C n B s J H Q hn hz I q;rw[he];let(T,e,z,q):=q;let(d,r,i,h,e3):=Ej e;subst e3;erw[ou] at z;cases G:wg d with
 |none=>rw[G] at z;cases z
 |some y=>
  rw[G] at z;let(z',O,ez):=bq.mp z;subst ez;refine joinParts_cons<|FormattedValue_plain<|aV (h1 B s J H (λv E=>Has X.K E d v/\FmA X.K Y J E λz b=>Q (.str<|C++(y++z)) b) I (_,_,_,_,_,T,d,i,λv F1 E j M=>(M,T.grow j,h,O,λo p g=>q o p<|j.trans g))) ?_;rintro u s1 ⟨x,E,U,m,M,l⟩;have D:∀N,(!y)<=9000->Inv X B J E N->(!(C++y))<=sizeLine/\(X.prog\X.w) X.A (joinParts (C++y)<|evalEach L X.env) (EP X B J Q) NE N:=λN hy a=>by
   have hl:(!(C++y))<=9000*(n+1):=by rw[strLen_append];lk
   erw[a8] at hz;erw[<-O9] at l;refine⟨?_,h2 (C++y) (n+1) B N J E Q hl ∅ a l⟩;rw[fo];lk
  cases d with
  |str w=>
   let(rfl,_):=M;let(t,rfl):=m;erw[wg] at G;by_cases c:(!w)<=9000
   .rw[ah c] at G;cases G;exact formatField_str (λt' tk=>D _ c<|U.tok _) (by rw[fo];lk)
   .rw[ap c] at G;cases G
  |int k=>
   subst M;let(t,rfl):=m;erw[wg] at G;by_cases c:k.natAbs.log2<1920
   .rw[ah c] at G;cases G;exact formatField_int_small c<|D _ (ahw c)<|U.tok _
   .rw[ap c] at G;cases G
  |_=>cases G
def pfL (h2:Td X D O)(T:((!a)<=9000)∣2)(U:(evalEach (.Constant (.str a) j A::D) X.env=eval (.Constant (.str a) j A) X.env::evalEach D X.env)∣0):Td X (.Constant (.str a) j A::D) (aC (vC<|.str a) O):=by
 intro B n C s g H Q l k I q;rw[U];let(G,e,z,q):=q;let(d,r,J,L,M):=Ej e;subst M;cases J;erw[ou,wg,ah T] at z;let(m,E,N):=bq.mp z;subst N;refine joinParts_cons<|Calls.Constant_str ?_;have Y:(!(B++a))<=9000*(n+1):=by rw[strLen_append];lk
 erw[a8] at k;refine⟨by rw[fo];lk,h2 (B++a) (n+1) C _ g H Q Y ∅ (I.tok _) (G,L,E,?_)⟩;erw[O9];calc q
def uc (G:VA):VE:=λS=>match G S with
 |some B=>match ou B with
  |some z=>if cG z=true then #[.str z] else none
  |none=>none
 |none=>none
def ajf (h:Td X (e::U::E) J)(Y:(Nat.ble (!E) 90=true)∣0):PE X (.JoinedStr (e::U::E) A) (tV X.K RS<|uc J):=by
 intro B s k H Q I q;refine JoinedStr_many ?_;let(j,G,M,S,F,O,d,e,q):=q;delta uc at e;cases C:J S with
 |none=>rw[C] at e;k_go
 |some T=>
  cases D:ou T with
  |none=>erw[C,D] at e;k_go
  |some z=>
   erw[C,D] at e;by_cases c:cG z=true
   .rw[ah c] at e;k_go;refine h Str.empty 0 B s k H Q ⋯ (by have:=Nat.le_of_ble_eq_true Y;erw[a8];lk) I (O,C,D,λL N g=>?_);rw[ahy];exact q _ L N g ⟨rfl,c⟩
   .rw[ap c] at e;k_go
end
end VM
namespace L2
open PyProof.Rows
def KDict (P:Program)(w:World)(K:Frag)(a:Addr)(B:¬(Key×V)):Prop:=∃o J,K.lookup a=#[o]/\KV B J/\o.IsDictOf (strKind P w) J/\(a==sysModules)=false
section
variable {B:¬(Key×V)}
def KDict.at (g:KDict X.prog X.w X.K a B)(I:Inv X A C H s):∃vs,KV B vs/\s.heap.DictOf (strKind X.prog X.w) a vs/\(a==sysModules)=false:=by let(o,vs,e,r,d,n):=g;calc(vs,r,Heap.dictOf_iff.mpr (o,I.o9 a o e,d),n)
end
end L2
namespace VM
open PyProof.Rows L2
section
variable {K:Frag}
def jg (k:Str):¬(Str×())->↑()
 |[]=>none
 |x::r=>if x.1=k then #[x.2] else jg k r
inductive KTab (P:Program)(w:World)(K:Frag)(mg:Str->↑Value)(x:Str)(tab:¬(Str×())):Prop
 |mk {a:Addr} {fU:¬(Key×V)} (g:mg x=#[.ref a]) (k:KDict P w K a fU) (at':∀z,(∃d v,jg z tab=#[d]/\eV fU z=#[v]/\∀H,Has K H d v)\/jg z tab=none/\eV fU z=none)
def tabIn (b:Bool)(A:¬(Str×())):()->↑()
 |.str k=>#[.bool<|(jg k A).isSome==b]
 |_=>none
def tabAt (A:¬(Str×())):()->↑()
 |.str k=>jg k A
 |_=>none
variable {A:¬(Str×())}
def Vb (a:Addr)(B:¬(Key×V))(b:Bool):R2:=λx y H Q=>∃z,x=.str z/\y=.ref a/\Q (.bl<|(eV B z).isSome==b) H
def S9 (g:KDict X.prog X.w X.K a B):cF X (compareOp .In) (Vb a B true):=by intro C s D H x y v u Q I L M h;let(z,rfl,rfl,q):=h;cases M;let(J,rel,N,G):=g.at I;refine wpAny_in_of (rJ (k:=z) L) G N.mapOf ?_;rw[<-(rel.val z).wL];calc(.bl _,H,I.tok _,rfl,by simpa using q)
def Tc (g:KDict X.prog X.w X.K a B):cF X (compareOp .NotIn) (Vb a B false):=by intro C s D H x y v u Q I L M h;let(z,rfl,rfl,q):=h;cases M;let(J,rel,N,G):=g.at I;refine wpAny_notIn_of (rJ (k:=z) L) G N.mapOf ?_;rw[<-(rel.val z).wL];calc(.bl _,H,I.tok _,rfl,by simpa using q)
def rdK (O:∀z,(∃d v,jg z A=#[d]/\eV B z=#[v]/\∀H,Has K H d v)\/jg z A=none/\eV B z=none)(q:tV K RS (v1 (tabIn b A) f) T H Q):fC (Vb a B b) (tV K RW f) (tC<|.ref a) T H Q:=by
 let(D,G,M,S,F,I,d,e,q):=q;delta v1 at e;cases C:f S with
 |none=>rw[C] at e;k_go
 |some y=>
  rw[C] at e;cases y with
  |str z=>
   k_go;refine(D,G,M,S,F,I,_,C,λv E J L N=>?_);let(rfl,_):=N;refine(z,rfl,rfl,?_);rcases O z with⟨d,v,h1,h2,_⟩|⟨h1,h2⟩
   .rw[h2];rw[h1] at q;exact q _ E J L rfl
   .rw[h2];rw[h1] at q;calc q _ E J L rfl
  |_=>cases e
def aje (t:KTab X.prog X.w X.K X.mg x A)(I:∀{a B},KDict X.prog X.w X.K a B->cF X (compareOp G) (Vb a B b))(N:Gl X x)(Q:PE X e (tV X.K RW f))(C:((x==("__debug__":Str))=false)∣1)(D:(behindInMarks G (.Name x p)=false)∣0):PE X (.Compare e [G] [.Name x p] E) (tV X.K RS<|v1 (tabIn b A) f):=by let(g,k,H):=t;calc PE.imp (Bc (I k) Q (jD (v:=.ref _) N g rfl C) D) λ_ _ _ q=>rdK H q
def ajh (t:KTab X.prog X.w X.K X.mg x A)(I:∀{a B},KDict X.prog X.w X.K a B->cF X (compareOp G) (Vb a B b))(N:Gl X x)(Q:PE X e (tV X.K RW f))(C:((x==("__debug__":Str))=false)∣1)(D:(behindInMarks G (.Name x p)=false)∣0):PT X (.Compare e [G] [.Name x p] E) (iT X.K<|vB<|v1 (tabIn b A) f):=by let(g,k,H):=t;calc PT.imp (eF (I k) Q (jD (v:=.ref _) N g rfl C) D) λ_ _ _ q=>Zd (λ_ q=>rdK H q) q
def alh (t:KTab X.prog X.w X.K X.mg x A)(a:Gl X x)(w:PE X e (tV X.K RW f))(i:adO e∣7)(o:((x==("__debug__":Str))=false)∣1):PE X (.Subscript (.Name x p) e pos) (tV X.K RS<|v1 (tabAt A) f):=by
 let(g,k,ta):=t;intro B s r H Q I h;let(T,G,M,S,F,b,d,C,q):=h;delta v1 at C;cases N:f S with
 |none=>rw[N] at C;cases C
 |some y=>
  rw[N] at C;cases y with
  |str z=>
   have J:jg z A=#[d]:=C;rcases ta z with⟨d',v,h1,h2,n⟩|⟨h1,_⟩
   .rw[h1] at J;cases J;refine W9 lj.lookup i<|aV (jD (v:=.ref _) a g rfl o B s r H (λL E=>L=.ref _/\E=H) I ⟨rfl,rfl⟩) ?_;rintro u s1 ⟨_,E,j,rx,rfl,c⟩;cases rx;rw[c] at j;refine aV (w B s1 r H (λL E=>∃D,bB F H D E/\Has X.K E (.str z) L) j (T,G,M,S,F,b,_,N,λL D E O hx=>(D,O,hx))) ?_;rintro iv s2 ⟨_,Y,l,ry,D,O,rfl,_⟩;let(vs,rel,m,o):=k.at l;let(w',hw,U):=oV.some_of (by rw[<-h2];calc rel.val _);exact⟨m.typeIs,wpAny_getItem_of (rJ (k:=z) ry) m.mapOf hw (v,Y,l.tok _,U,q v D Y O<|n _)⟩
   .rw[h1] at J;cases J
  |_=>cases C
end
section
variable {K:Frag}
def HX (f g:VE):VE:=λS=>match f S with
 |some (.str z)=>if (!z)<=9000 then if (!z)=0 then g S else #[.str z] else none
 |_=>none
variable {A:Pos}
def an6 (p:PE X D (tV X.K RS f))(r:PE X J (tV X.K RS g)):PE X (.BoolOp .Or [D,J] A) (tV X.K RS<|HX f g):=by
 intro B s k H Q I h;let(N,G,M,S,F,Y,d,e,q):=h;delta HX at e;cases T:f S with
 |none=>rw[T] at e;k_go
 |some x=>
  rw[T] at e;cases x with
  |str z=>
   simp only at e;by_cases c:(!z)<=9000
   .rw[ah c] at e;refine BoolOp_or<|aV (p B s k H (λv E=>∃C,bB F H C E/\Has X.K C (.str z) v) I (N,G,M,S,F,Y,_,T,λv C E L U=>(C,L,U))) ?_;rintro u n ⟨_,E,j,b,C,L,rfl,y⟩;let(t,rfl):=b;refine og ∅ ?_;by_cases O:(!z)=0
    .rw[ah O] at e;rw[show(((!z):Int) !=0)=false by simp[O]];exact Im r B _ k E Q (j.tok _) (N,G,M,S,C,Y.grow L,d,e,λv l m o U=>q v l m (L.trans o) U)
    .rw[ap O] at e;k_go;rw[show(((!z):Int) !=0)=true by simpa using O];exact(.str z,E,j.tok _,⟨_,rfl⟩,q _ C E L ⟨rfl,y⟩)
   .rw[ap c] at e;k_go
  |_=>cases e
end
end VM
namespace L2
open PyProof.Rows
section
variable {A:Pos}
def aog (C D:TE):TE:=λB H Q=>C B H λx E=>match x with
 |.bl c=>if c=true then Q (.bl true) E else D B E Q
 |_=>False
def aoh (G:PE X a N)(L:PE X (.BoolOp .Or (b::rest) A) T):PE X (.BoolOp .Or (a::b::rest) A) (aog N T):=by
 intro B s C H Q I h;refine BoolOp_or<|aV (G B s C H _ I h) λv O (x,E,D,M,J)=>?_;cases x with
 |bl c=>
  cases M;refine cq ?_;cases c with
  |false=>calc L B O C E Q D J
  |true=>calc(.bl true,E,D,rfl,J)
 |_=>calc False.elim J
end
end L2
namespace VM
open PyProof.Rows L2
section
variable {A:Pos}
def dOr (Q:PE X D (tV X.K RS f))(T:PE X (.BoolOp .Or (b::rest) A) (tV X.K RS g)):PE X (.BoolOp .Or (D::b::rest) A) (tV X.K RS<|vOr f g):=(aoh Q T).imp λ_ _ _ q=>by
 let(B,G,M,S,F,I,d,e,q):=q;delta vOr at e;f_are
 .rename_i k;k_go;refine(B,G,M,S,F,I,_,k,λv C H g E=>?_);have N:=E;subst N;erw[dA];exact q _ C H g rfl
 .rename_i k;refine(B,G,M,S,F,I,_,k,λv C H g E=>?_);subst E;erw[dt,dE];exact(B,G,M,S,C,I.grow g,d,e,λw J L O U=>q w J L (g.trans O) U)
 .k_go
end
section
variable {m A:Pos}
def aji:cF X (compareOp .In) (rIn X.K false):=by
 intro C s O H x y v u Q I L M h;let(p,G,rfl,T,E,fs,q):=h;cases M;have B:∀{J:¬Value},Vals G J->EP X C O Q (.bool<|J.toArray.any<|wz x) s:=λr=>by rw[show ∀l:¬Value,l.toArray.any (wz x)=l.any (wz x) from λl=>by simp,K6 r fs];exact(.bl _,H,I,rfl,q)
 rcases T with T|T
 .let(J,r,N,_):=I.list T;exact SeqAt.in_listAt (wz x) N.isList (λw D=>zc L E r fs w<|‹D›) (B r)
 .let(J,r,N,_):=I.tuple T;calc SeqAt.in_tupleAt (wz x) N (λw D=>zc L E r fs w<|‹D›) (B r)
def ajc {lo hi:↑Expr}(U:PE X e (tV X.K RM f))(Y:PO X lo (Jc X.K fl))(j:PO X hi (Jc X.K T)):PE X (.Subscript e (.Slice lo hi none m) A) (tV X.K RN<|xG f fl T):=
 (qG K5 U Y j).imp λ_ H Q q=>by
  let(B,G,M,S,F,I,d,e,q):=q;delta xG at e;f_are
  .rename_i s l u o r t;k_go;refine⟨B,G,M,S,F,I,_,o,λv L b D k=>⟨B,G,M,S,L,I.grow D,l,r,λN c J=>⟨B,G,M,S,N,(I.grow D).grow J,u,t,λO n C=>?_⟩⟩⟩;let(p,y,rfl,h1,h2):=RM.list C.fh<|RM.grow (J.trans C) k;have g:=(D.trans J).trans C;exact(p,y,rfl,h1,λz E=>q _ O _ (g.trans<|bB.alloc C.fh E) ⟨_,z,_,rfl,rfl,g.hh.free E,C.fh.free E,ao,aJ.cut h2⟩)
  .k_go
end
end VM
namespace cA
open L2 VM
seal L2.PE L2.PT L2.PW L2.PA L2.PS L2.jy L2.PG L2.sI L2.PI L2.nW L2.PO L2.cF L2.Io L2.dO L2.sO L2.ug L2.yZ L2.Bb VM.iR VM.CallD PySem.binaryOp PySem.compareOp VM.zR VM.yc VM.xu VM.tX VM.jc VM.jr VM.isD VM.Ld VM.xH VM.Sg
variable {J L:Tok}{E:En}{K:Frag}
open PyProof.Rows (boot_isinstance boot_abs boot_min boot_sum boot_all boot_int boot_bool boot_list boot_tuple boot_str boot_sorted)
def an7 {X:Cx}{O iter A:Expr}{D:¬Expr}{scope sc:Scope}{N:¬Str}{I:Pos}{cap:¬(↑Nat)}{t:VG}{Y U:Pos}{l:VA}{i:Nat}{y:Str}{k:VT}{g:VE}(_:N.all (λx=>nY sc x && plain x)=true)(r:X.N.Nodup)(f:X.N[i]? =#[y])(n:Loc X.env.scope y)(N':¬Str)(Q:PI X O iter (vh X.K l))(z:∀G C B M H,PG (fM X scope N' G C B M H) O (yh X.K t<|[0]++([1]++([2]++([3]++([4]++[]))))))(hi:∀G C B M H,nW (fM X scope N' G C B M H) D (iT X.K k))(u:∀G C B M H,PE (fM X scope N' G C B M H) A (tV X.K RS g))
  (m:(sS N sc scope N' cap=true)∣2)(o:(X.N=N)∣0)(p:(X.env.scope=sc)∣0)(b:(((([0]++([1]++([2]++([3]++([4]++[]))))):¬Nat).all λj=>cap[j]? ==#[none])=true)∣0)(T:(swapsWith (.ListComp A [(O,iter,D,0)] scope I) (#[.Name y Y]) U.line X.env=pure true)∣0)
  (c:(∀x,foldedSetIterable iter X.env x=pure x)∣4)(v:(X.fn y=true\/X.env.scope.names.lookup y=some .local)∣14):PS X (.Assign [.Name y Y] (.ListComp A [(O,iter,D,0)] scope I) U) (gW X.K<|Cq i<|jM l cap t k g):=aiP<|Sd (qH r f n _ _ m o p Q z hi u T c v) λ_ _ _ q=>adB b q
def Kz:():=.str "name"
def nbT:():=.str "number"
def lV:¬(Str×()):=[("hall",.tuple [Kz,Kz]),("lay",.tuple [Kz,Kz,Kz,nbT,nbT]),("shut",.tuple [Kz]),("widen",.tuple [Kz,nbT]),("narrow",.tuple [Kz,nbT]),("out",.tuple [.str "turns"]),("walks",.tuple [.str "turns"]),("moments",.tuple [.str "turns"]),("turns",.tuple [.str "people"]),("worth",.tuple [Kz,.str "turns"]),("rooms",.tuple []),("passages",.tuple [])]
def lW:¬(Str×()):=[("turns",.int 0),("people",.int 1)]
def Gy:VS:=(aN (bZ (vIf (vB<|v2 (qy MN) (vN 0)<|vC<|.str "-") (vG (vN 0) (oI<|vC<|.int 1) oN)<|vF 0)<|gN 1)<|aN (dz (eU<|vB<|oA Bf Bf (vC<|.int 1) (cL pY<|aC (vN 1) a0)<|vC<|.int 60) (cJ<|vC<|.bool false) cI)<|aN (dz (eU<|vB<|cL vH<|aC (jM (jl<|vN 1) [none] (gN 0) c7<|oA gR gR (vC<|.str "0") (vN 0)<|vC<|.str "9") a0) (cJ<|vC<|.bool false) cI)<|cJ<|vOr (v2 jc (vN 0)<|vC<|.str "0")<|v2 jr (v2 Lr (vN 1)<|vC<|.int 0)<|vC<|.str "0")
def oH:dX:=fH 1 2 Gy
section
variable {E:En}{K:Frag}(B:Bl E.mg)(KT:Zr K)
include B KT
theorem Vc (ajd:E.mg "all"=none)(ahP:E.mg "MOST_FIGURES"=#[.int 60 J])(h:GF E K 46):CV E K 46 1 oH:=iu ["word","figures"] h λnd vt hr=>by walk_at "d"
def Ar:VS:=(aN (dz (vB<|v2 jc (vN 0)<|vC<|.str "name") (gq 1) cI)<|aN (dz (eU<|vB<|bF oH<|aC (vF 1) a0) pQ cI)<|aN (bZ (cL Aq<|aC (vN 1) a0)<|gN 2)<|aN (dz (lG (vB<|v1 (tabIn true lW)<|vN 0)<|vB<|v2 wF (vN 2)<|v1 (tabAt lW)<|vN 0) pQ cI)<|gq 2)
def dj:dX:=fH 2 3 Ar
theorem Wb (C:KTab E.P E.w K E.mg "LEAST" lW)(A:CV E K 46 1 oH)(h:GF E K 45):CV E K 45 2 dj:=iu ["kind","word","number"] h λnd vt hr=>by walk_at "d"
def Gz:VS:=(aN (dz (nZ (vB<|v2 (Ht false) (vC<|.str "")<|vN 0)<|vB<|v1 (tabIn false lV)<|v2 aW (vN 0)<|vC<|.int 0) pQ cI)<|aN (bZ (v1 (tabAt lV)<|v2 aW (vN 0)<|vC<|.int 0)<|gN 1)<|aN (dz (vB<|v2 jr (v2 jX (cL iG<|aC (vN 0) a0)<|vC<|.int 1)<|cL iG<|aC (vN 1) a0) pQ cI)<|pR<|jM (Ci<|aC (vF 1)<|aC (xG (vN 0) (oI<|vC<|.int 1) oN) a0) [none,none] (gT 2<|gC (gN 0)<|gC (gN 1) g0) c7<|bF dj<|aC (vF 0)<|aC (vF 1) a0)
def oJ:dX:=fH 1 2 Gz
theorem Vd (C:KTab E.P E.w K E.mg "FORMS" lV)(A:CV E K 45 2 dj)(h:GF E K 44):CV E K 44 3 oJ:=iu ["words","form"] h λnd vt hr=>by walk_at "d"
def DK:VS:=(aN (pA 1<|dD a0)<|aN (mV (cP<|vF 0) (gT 2<|gC (gN 2)<|gC (gN 3) g0)<|aN (bZ (v2 jx (vC<|.str " ")<|vN 2)<|gN 4)<|d8 1<|aC (uc<|aC (vN 3)<|aC (vC<|.str " by ")<|aC (vN 4) a0) a0)<|cJ<|HX (v2 jx (vC<|.str "; ")<|Fx<|vN 1)<|vC<|.str "none")
def m9:dX:=fH 1 5 DK
theorem Qg (h:GF E K 49):CV E K 49 1 m9:=iu ["walks","told","names","number","together"] h λnd vt hr=>by walk_at "d"
def w6:VS:=(aN (Cq 1<|jM (cP<|vF 0) [none,none,none,none,none] (gT 5<|gC (gN 0)<|gC (gN 1)<|gC (gN 2)<|gC (gN 3)<|gC (gN 4) g0) c7<|uc<|aC (vN 0)<|aC (vC<|.str " ")<|aC (vN 1)<|aC (vC<|.str " ")<|aC (vN 2)<|aC (vC<|.str " ")<|aC (vN 3)<|aC (vC<|.str " ")<|aC (vN 4) a0)<|cJ<|HX (v2 jx (vC<|.str "; ")<|vN 1)<|vC<|.str "none")
def jU:dX:=fH 1 2 w6
theorem HY (h:GF E K 50):CV E K 50 1 jU:=iu ["passages","told"] h λnd vt hr=>by walk_at "d"
def GC:VS:=(aN (bZ (bF kY<|aC (bF cW<|aC (vF 0)<|aC (vC<|.int 0) a0)<|aC (v2 dW (vC<|.int 2)<|v2 fO (bF bN<|aC (bF cW<|aC (vF 0)<|aC (vC<|.int 0) a0)<|aC (vC<|.int 2) a0)<|vC<|.int 4)<|aC (vC<|.int 0) a0)<|gN 1)<|aN (bZ (bF kY<|aC (bF cW<|aC (vF 0)<|aC (vC<|.int 1) a0)<|aC (vC<|.int 8)<|aC (v2 fO (bF bN<|aC (bF cW<|aC (vF 0)<|aC (vC<|.int 1) a0)<|aC (vC<|.int 2) a0)<|vC<|.int 2) a0)<|gN 2)<|aN (dz (vB<|v2 jc (v2 fO (bF bN<|aC (bF cW<|aC (vF 0)<|aC (vC<|.int 1) a0)<|aC (vC<|.int 3) a0)<|vC<|.int 4)<|vC<|.int 0) (aN (bZ (dD<|aC (vC<|.str "by")<|aC (vC<|.str "out")<|aC (vC<|.str "none")<|aC (vC<|.str "never")<|aC (vC<|.str "hall")<|aC (vC<|.str "rooms")<|aC (vC<|.str "ok")<|aC (vC<|.str "walks") a0)<|gN 2)<|bZ (xG (dD<|aC (vC<|.str "rooms")<|aC (vC<|.str "by")<|aC (vC<|.str "none")<|aC (vC<|.str "goal")<|aC (vC<|.str "start") a0) oN<|oI<|cL iG<|aC (vN 1) a0)<|gN 1) cI)<|cJ<|fP<|aC (vF 1)<|aC (vF 2) a0)
def rZ:dX:=fH 1 3 GC
theorem Ve (D:CV E K 55 2 kY)(A:CV E K 52 1 cW)(C:CV E K 53 1 bN)(h:GF E K 66):CV E K 66 3 rZ:=iu ["_law_script","_law_rooms","_law_names"] h λnd vt hr=>by walk_at "d"
def GD:VS:=(aN (pA 1<|dD a0)<|aN (mV (qM<|vF 0) (gN 2)<|dz (vB<|tU "str" (vN 2)) (d8 1<|aC (vF 2) a0)<|d8 1<|aC (cL tZ<|aC (vN 2) a0) a0)<|cJ<|v2 jx (vC<|.str " ")<|vN 1)
def mz:dX:=fH 1 3 GD
theorem Vf (KS:vf K "str")(h:GF E K 67):CV E K 67 1 mz:=iu ["_law_deed_here","_law_words_here","_law_one"] h λnd vt hr=>by walk_at "d"
def wj:VS:=(aN (dz (nZ (eU<|vB<|v1 aeP<|vN 0)<|nZ (vB<|v2 yd (cL pY<|aC (vN 0) a0)<|vC<|.int 900)<|vB<|v2 jr (cL tZ<|aC (cL Aq<|aC (vN 0) a0) a0)<|vN 0) (cJ<|vC .none) cI)<|cJ<|cL Aq<|aC (vN 0) a0)
def eZ:dX:=fH 1 1 wj
theorem FW (h:GF E K 68):CV E K 68 1 eZ:=iu ["_law_text"] h λnd vt hr=>by walk_at "d"
def um:VS:=(aN (pA 3<|dD a0)<|aN (mV (cP<|v2 (qy tH) (vN 0)<|vC<|.str "; ") (gN 4)<|aN (bZ (v2 (qy w5) (vN 4)<|vC<|.str ": ")<|gT 3<|gC (gN 5)<|gC (gN 6)<|gC (gN 7) g0)<|aN (bZ (bF eZ<|aC (vF 7) a0)<|gN 7)<|aN (dz (vB<|v2 isD (vN 7)<|vC .none) (cJ<|vC .none) cI)<|d8 3<|aC (fP<|aC (vF 5)<|aC (vF 7) a0) a0)<|aN (dz (eU<|vB<|vg jo<|aC (vN 3)<|aC (vN 1)<|aC (vN 2) a0) (cJ<|vC .none) cI)<|gq 3)
def kE:dX:=fH 3 8 um
theorem DN (A:CV E K 68 1 eZ)(C:CV E K 65 2 jo)(h:GF E K 70):CV E K 70 3 kE:=iu ["_law_text","_law_seen","_law_turns_here","_law_found","_law_one","_law_room","_law_mark","_law_moment"] h λnd vt hr=>by walk_at "d"
end
end cA
namespace cA
open PyProof.Rows L2 VM PySem.W.KIN PySem.NumText
structure iY (n:Int):Prop where
 ds:AllDigits ⇑↥n
 ne:⇑↥n≠[]
 len:(!↥n)<=500
 rd:intText? ↥n=#[n]
 lg:n.natAbs.log2<1920
def KC (L:0<=n)(h:n<10^500):iY n:=by
 have N:=toString_length_le L ⋯ h;let(m,rfl):=md L;have G:AllDigits ⇑(Str.ofString<|toString ((m):Int)):=by intro c O;rw[signs_num] at O;let(B,D,e):=a6.mp O;rw[<-e];exact(digit_range<|Nat.isDigit_of_mem_toDigits ⋯ ⋯ D)
 have r:⇑(Str.ofString<|toString ((m):Int))≠[]:=by rw[signs_num];intro e;have h:=Nat.length_toDigits_pos (b:=10) (n:=m);rw[i0.mp e] at h;exact absurd h<|by decide
 have e:=intText_digits G r (ck N ⋯);rw[signs_num,val_back] at e;refine(G,r,N,e,?_);have A:m<2^1920:=bz (show m<10^500 by lk) 'k';by_cases z:m=0
 .subst z;decide
 .calc(np z).mpr A
def iY.dig (h:iY n):Txt.isdigit ↥n=true:=by
 delta Txt.isdigit;rw[bc,br];refine⟨?_,?_⟩
 .have:(⇑↥n).length=!↥n:=bt
  have:=g7.mpr h.ne;lk
 .rw[<-ng,cp];intro c O;have hr:=h.ds c O;rw[cls_isdigit c ∅];calc(show ∀c,c<58->48<=c->inR 48 57 ⟨[c].toArray⟩=true by decide +kernel) c ∅ hr.1
def iY.ok (h:iY n):cG ↥n=true:=by show(↥n).cps.all (· <0x110000)=true;rw[<-ng,cp];intro c O;have hr:=h.ds c O;calc az ∅
def GJ (h:iY n):eZ [.str<|↥n]=#[(false,.int n)]:=by
 have B:aeP (.str<|↥n)=#[.bool true]:=by show #[PyData.bool<|Txt.isdigit _]=_;rw[h.dig]
 have G:Aq [.str<|↥n]=#[.int n]:=by show(if _ then _ else _)=_;rw[ah (by have:=h.len;lk),h.rd];rfl
 have J:tZ [.int n]=#[.str<|↥n]:=by exact ah (by rw[bc,br];calc⟨h.lg,h.ok⟩)
 delta eZ wj;z_go;have N:=h.len;have O:pY [.str<|↥n]=#[.int ((!↥n):Int)]:=ah ∅;rw[B];z_go;rw[O];z_go;erw[a9<|show Not (((!↥n):Int)>900) by lk];z_go;rw[G];z_go;rw[J];z_go;have I:jr (.str<|↥n) (.str<|↥n)=#[.bool false]:=by delta jr;rw[ah<|by simp[PyData.depth],ft _ h.ok];rfl
 rw[I];z_go;rw[G];z_go
def ajR {lo hi:Str}(B:⇑lo=[l])(G:⇑hi=[h]):(oA gR gR (vC<|.str lo) (vN 0)<|vC<|.str hi) [#[(.fr,.str ⟨[c].toArray⟩)]]=#[.bool<|decide (l<=c) && decide (c<=h)]:=by
 have q:∀x y:Nat,decide ([x]<[y])=decide (x<y):=λx y=>decide_eq_decide.mpr ⟨λz=>by rcases f6.mp z with g|⟨_,g⟩;calc g;calc absurd g<|by simp,λz=>f6.mpr<|.inl z⟩;have k:∀x y:Nat,(not (decide (x<y)))=decide (y<=x):=λx y=>by by_cases z:x<y<;>simp[z]<;>lk
 have J:gR (.str lo) (.str ⟨[c].toArray⟩)=#[.bool<|decide<|l<=c]:=by show #[PyData.bool<|not (decide ([c]<⇑lo))]=_;rw[B,q,k]
 have A:gR (.str ⟨[c].toArray⟩) (.str hi)=#[.bool<|decide<|c<=h]:=by show #[PyData.bool<|not (decide (⇑hi<[c]))]=_;rw[G,q,k]
 z_go;rw[J];cases C:decide (l<=c) with
 |false=>z_go;rfl
 |true=>z_go;rw[A]
def ajS {lo hi:Str}(B:⇑lo=[l])(G:⇑hi=[h])(E:f S=#[.str z])(A:ascii z=true)(H:(!z)<=1000):
  (cL vH<|aC (jM (jl f) [none] (gN 0) c7<|oA gR gR (vC<|.str lo) (vN 0)<|vC<|.str hi) a0) S=#[.bool<|(⇑z).all λc=>decide (l<=c) && decide (c<=h)]:=by
 have D:(jM (jl f) [none] (gN 0) c7<|oA gR gR (vC<|.str lo) (vN 0)<|vC<|.str hi) S=#[.list<|(⇑z).map λc=>.bool<|decide (l<=c) && decide (c<=h)]:=by
  rw[yr];delta jl;rw[E];erw[A,dA];delta Fe;rw[mJ rfl (by rw[ac,←fY];calc gE H<|by decide)];rw[g8 (f:=λd=>match d with|.str s=>.bool (decide (l<=(⇑s).headD 0) && decide ((⇑s).headD 0<=h))|d=>d)]
  .z_go;rw[bE];rfl
  .intro d C;let(c,O,rfl):=a6.mp C;exact([#[(.fr,.str ⟨[c].toArray⟩)]],by z_go,rfl,ajR B G)
 delta cL;rw[Er,D];show(yu _).map _=_;rw[show((⇑z).map λc=>PyData.bool<|decide (l<=c) && decide (c<=h))=((⇑z).map λc=>decide (l<=c) && decide (c<=h)).map PyData.bool by rw[bE];rfl,Gi];simp[all_map,Function.comp_def]
def Vg (z:Str):Txt.startswith z "-"=decide ((⇑z).head? =#[45]):=by
 obtain⟨⟨l⟩⟩:=z;have B:(!("-":Str))=1:=rfl;delta Txt.startswith;cases l with
 |nil=>rfl
 |cons c r=>
  have h1:decide (0+(!("-":Str))<=!(⟨⟨c::r⟩⟩:Str))=true:=az (by rw[B];show 0+1<=!(c::r);simp);rw[h1,lS];have h2:((⟨c::r⟩:Array Nat).extract 0<|0+!("-":Str))= [c].toArray:=by rw[B];refine iP.mp ?_;simp
  show(((⟨c::r⟩:Array Nat).extract 0<|0+!("-":Str))== [45].toArray)=_;rw[h2];by_cases O:c=45
  .subst O;rfl
  .rw[show(([c].toArray)== [45].toArray)=false by simpa using O];simp[O]
def ahz:ascii z=true↔∀c∈⇑z,c<128:=by delta L2.ascii;rw[oP];simp
def aaj (a b:Str):jc (.str a) (.str b)=#[.bool<|decide<|a=b]:=by
 have:PyData.depth (.str a)<=60:=by simp[PyData.depth]
 delta jc;rw[ah this];erw[eqv,il]
def alw (a b:Str):jr (.str a) (.str b)=#[.bool<|not (decide (a=b))]:=by
 have:PyData.depth (.str a)<=60:=by simp[PyData.depth]
 delta jr;rw[ah this];erw[eqv,il]
theorem iY.head (h:iY n)(J:0<n):(⇑↥n).head? ≠#[48]:=by
 let(m,rfl):=md (show 0<=n by lk);have M:=val_back m;have E:=signs_num m;intro z;rw[E] at z;cases N:(Nat.toDigits 10 m).map Char.toNat with
 |nil=>rw[N] at z;cases z
 |cons c r=>
  rw[N] at z M;cases z;have G:AllDigits (48::r):=by rw[<-N,←E];exact h.ds
  have D:(!(Nat.toDigits 10 m))=(!r)+1:=by have:=b9 List.length N;simpa using this
  have H:∀k (A:¬Nat),(!A)=k->AllDigits A->digitsVal A<10^k:=by
   intro k;induction k with
   |zero=>intro A e _;rw[eL.mp e];decide
   |succ k I=>
    intro A e O;have B:A≠[]:=λz=>by subst z;k_go
    rw[<-List.dropLast_concat_getLast B,digitsVal_snoc];have h1:=I A.dropLast (by simp[e]) λd G=>O d<|(m3 A).subset G;have h2:=O _<|List.getLast_mem B;rw[Nat.pow_succ];lk
  have hr:=H _ r rfl G.tail;rw[digitsVal_zero] at M;by_cases C:0<!r
  .have:=(Nat.length_toDigits_le_iff (b:=10) ⋯ C).mpr ∅;lk
  .have:r=[]:=eL.mp ∅
   subst this
   have:m=0:=by rw[<-M];rfl
   lk
def Wc (h:iY n)(L:0<=n)(C:n<10^60):oH [.str<|↥n]=#[(false,.bool true)]:=by
 have N:=toString_length_le L ⋯ C;have D:(!↥n)<=1000:=by lk
 have G:1<=!↥n:=by rw[fY];exact g7.mpr h.ne
 have J:∀c,(⇑↥n).head? =#[c]->48<=c/\c<=57:=λc O=>h.ds c<|List.mem_of_mem_head? O;have H:qy MN (.str<|↥n) (.str "-")=#[.bool false]:=by show #[PyData.bool<|Txt.startswith _ "-"]=_;rw[Vg,a9 λz=>by have:=J _ z;lk]
 have E:=ajS (S:=[#[(.fr,.str<|↥n)],#[(.fr,.str<|↥n)]]) (f:=vN 1) (lo:="0") (hi:="9") (l:=48) (h:=57) 'k' 'k' (by z_go) (ahz.mpr λc O=>by have:=h.ds c O;lk) D;rw[cp.mpr λc O=>by have:=h.ds c O;simp[this.1,this.2]] at E;delta oH Gy;generalize A:↥n=z at*
 z_go;rw[H];z_go;rw[TV D];z_go;rw[az ∅];z_go;rw[az ∅];z_go;have I:eU (vB<|cL vH<|aC (jM (jl<|vN 1) [none] (gN 0) c7<|oA gR gR (vC<|.str "0") (vN 0)<|vC<|.str "9") a0) [#[(.fr,.str z)],#[(.fr,.str z)]]=#[false]:=by delta eU vB;rw[E];rfl
 change bFn (Ln (bIf (eU (vB<|cL vH<|aC (jM (jl<|vN 1) [none] (gN 0) c7<|oA gR gR (vC<|.str "0") (vN 0)<|vC<|.str "9") a0) _) _ _ _) _)=_;rw[I];z_go;rw[aaj];by_cases Q:z="0"
 .rw[az Q];z_go
 .rw[a9 Q];z_go;cases O:⇑z with
  |nil=>rw[fY,O] at G;cases G
  |cons c r=>
   rw[show(0)=((0:Nat):Int) from rfl,Xm D (by rw[O];rfl)];z_go;rw[alw,a9 λe=>?_]
   .z_go
   have B:c=48:=by
    have:=b9 (λs:Str=>⇑s) e;have w:⇑("0":Str)=[48]:='k'
    erw[w] at this;simpa using this
   by_cases M:n=0
   .subst M;exact Q<|A.symm.trans<|'k'
   .calc h.head ∅ (by rw[A,O,B];rfl)
end cA
namespace cA
open PyProof.Rows L2 VM
def gK:dj [.str "name",.str a]=#[(false,.str a)]:=by delta dj Ar;z_go;rw[aaj,az rfl];z_go
def xO {d:Str}(h:iY n)(L:0<=n)(C:n<10^60)(M:d≠"name")(N:jg d lW=none\/∃m:Int,jg d lW=#[.int m]/\m<=n):dj [.str d,.str<|↥n]=#[(false,.int n)]:=by
 have B:=Wc h L C;have G:Aq [.str<|↥n]=#[.int n]:=by show(if _ then _ else _)=_;rw[ah (by have:=h.len;lk),h.rd];rfl
 delta dj Ar;generalize ↥n=z at*
 z_go;rw[aaj,a9 M];z_go;rw[B];z_go;rw[G];z_go;rcases N with N|⟨m,N,A⟩
 .have J:tabIn true lW (.str d)=#[.bool false]:=by show #[PyData.bool<|(jg d lW).isSome==true]=_;rw[N];rfl
  rw[J];z_go
 .have J:tabIn true lW (.str d)=#[.bool true]:=by show #[PyData.bool<|(jg d lW).isSome==true]=_;rw[N];rfl
  have O:tabAt lW (.str d)=#[.int m]:=N;rw[J];z_go;rw[O];z_go;erw[a9<|show Not (n<m) by lk];z_go
inductive xg:¬Str->¬Str->¬()->Prop
 |nil:xg [] [] []
 |cons {b:Bool} (h:dj [.str k,.str a]=#[(b,d)]) (r:xg ks as ds):xg (k::ks) (a::as) (d::ds)
def xg.len (h:xg k A ds):(!k)=!A:=by
 induction h with
 |nil=>rfl
 |cons _ _ B=>simp[B]
def aeT (D:jg l lV=#[.tuple<|B.map .str])(C:∀w∈l::A,w≠"")(T:(!A)<100)(M:xg B A ds):oJ [.list<|(l::A).map .str]=#[(true,.list ds)]:=by
 have Y:=M.len;have G:Ht false (.str "") (.list (.str l::A.map .str))=#[.bool false]:=by show(match sW ((l::A).map .str) with|some E=>#[PyData.bool<|if false=true then not (E.any λy=>y==("":Str)) else E.any λy=>y==("":Str)]|none=>none)=_;rw[pZ];show #[PyData.bool<|(l::A).any λy=>y==("":Str)]=_;rw[ox.mpr λy n=>‹C y n›]
 have H:tabIn false lV (.str l)=#[.bool false]:=by show #[PyData.bool<|(jg l lV).isSome==false]=_;rw[D];rfl
 have J:tabAt lV (.str l)=#[.tuple<|B.map .str]:=D;delta oJ Gz;z_go;rw[G];z_go;rw[H];z_go;rw[J];z_go;rw[az (by erw[ac];lk)];z_go;have L:VM.cutD (.str l::A.map PyData.str) #[1] none=A.map .str:=by delta VM.cutD;rw[show(1)=((1:Nat):Int) from rfl,HT.WD,HT.Rw,hU<|by simp];exact bu<|by simp
 have N:∀{B A:¬Str}{ds:¬()},xg B A ds->nR (gT 2<|gC (gN 0)<|gC (gN 1) g0) c7 (bF dj<|aC (vF 0)<|aC (vF 1) a0) [none,none] (tW (B.map .str)<|A.map .str)=#[ds]:=by
  intro B A ds h;induction h with
  |nil=>rfl
  |cons h r Q=>
   have I:bF dj (aC (vF 0)<|aC (vF 1) a0) [#[(.fr,.str k)],#[(.fr,.str a)]]=#[d]:=by z_go;rw[h];z_go
   show(match bF dj (aC (vF 0)<|aC (vF 1) a0) [#[(.fr,.str k)],#[(.fr,.str a)]] with|none=>none|some e=>match nR _ _ _ _ (tW _ _) with|none=>none|some O=>#[e::O])=_;rw[I,Q]
 erw[Zk];rw[L,ah (by erw[ac];lk),mJ rfl (by delta tW;rw[nS,ac,ac];calc aY ∅),show iV [none,none] _=[none,none] from rfl,N M];rfl
open PySem.Builtin.Str StrLaws
def ahA (D:⇑s=c::t)(h:At x s (!x) k):(⇑x)[k]? =#[c]:=by
 have h2:=h.2;rw[subAt_eq,D] at h2;have G:(((⇑x).drop k).take !s)[0]? =#[c]:=by rw[(ge h2)];rfl
 have N:0<!s:=by show 0<s.cps.size;rw[<-bt,D];simp
 rw[gI N,ol] at G;calc G
def at_of (M:k<=!x)(h:(⇑x).drop k=⇑s++r):At x s (!x) k:=by have N:(!s)=!⇑s:=bt.symm;have A:(!x)=!⇑x:=bt.symm;have e:=b9 List.length h;rw[eK,aE] at e;calc⟨by lk,by rw[subAt_eq,h,N,take_left];calc beq_self_eq_true _⟩
def Av:⇑(Str.join s (w::v::r))=⇑w++(⇑s++⇑(Str.join s (v::r))):=by show((w.cps++s.cps)++(Str.join s (v::r)).cps).toList=_;simp
def M4 {x s w:Str}(D:⇑s=c::t)(C:Not (c∈⇑w))(h:(⇑x).drop a=⇑w++r)(h1:a<=k)(h2:k<a+!w):Not (At x s (!x) k):=λz=>by have e:=ahA D z;have N:(!w)=!⇑w:=bt.symm;rw[show k=a+(k - a) by lk,←ol,h,bv ∅] at e;calc C<|ag e
theorem Vh {x s:Str}(B:⇑s=c::t):∀{ws:¬Str}{a f:Nat} {A:¬Nat},ws≠[]->(∀w∈ws,Not (c∈⇑w))->a<=!x->(⇑x).drop a=⇑(Str.join s ws)->ChainG x s (!x) a A f->(∀k,f<=k->Not (At x s (!x) k))->partsFrom x (!s) a A=ws
 |[],_,_,_,h,_,_,_,_,_=>absurd rfl h
 |[w],a,f,A,_,C,N,e,O,E=>by
  have e:(⇑x).drop a=⇑w++[]:=by rw[e];simp[Str.join]
  have J:(!x)=!⇑x:=bt.symm;have D:=b9 List.length e;rw[eK,eP,bt (xs:=w.cps)] at D;have D:(!x) - a=!w:=by rwa [J]
  cases A with
  |nil=>show [strSub x a !x]=[w];congr 1;calc nh<|iP.mp (by rw[strSub_toList,e,eP];calc bu (by rw[bt];calc oD D.symm))
  |cons i r=>
   have h2:=O.2.1.1;have T:0<!s:=by show 0<s.cps.size;rw[<-bt,B];simp
   calc absurd O.2.1<|M4 B (C w aa) e O.1 ∅
 |w::v::r,a,f,A,_,C,N,e,O,E=>by
  rw[Av] at e;have J:(!x)=!⇑x:=bt.symm;have H:(!w)=!⇑w:=bt.symm;have G:(!s)=!⇑s:=bt.symm;have D:=b9 List.length e;rw[eK,aE,aE] at D;have I:(⇑x).drop (a+!w)=⇑s++⇑(Str.join s (v::r)):=by rw[<-drop_drop,e,H,oa]
  have Y:=at_of ∅ I;have L:(⇑x).drop (a+(!w)+!s)=⇑(Str.join s (v::r)):=by rw[<-drop_drop,I,G,oa]
  have Q:∀{k},a<=k->k<a+!w->Not (At x s (!x) k):=M4 B (C w aa) e;cases A with
  |nil=>calc absurd Y<|E _ (by have:f=a:=O;lk)
  |cons i q=>
   have M:i=a+!w:=by
    rcases j1 i (a+!w) with h|h|h
    .exact absurd O.2.1<|Q O.1 h
    .exact h
    .exact absurd Y<|O.2.2.1 _ ∅ h
   subst M;show strSub x a (a+!w)::_=_;rw[Vh B 's' (λy n=>C y<|ae _ n) ∅ L O.2.2.2 E];congr 1;calc nh<|iP.mp<|by rw[strSub_toList,e,show a+(!w) - a=(!⇑w) by lk,take_left]
def aak (B:⇑s=c::t)(M:Builtin.Str.strKind s=1)(A:ws≠[])(C:∀w∈ws,Not (c∈⇑w)):partsBetween (Str.join s ws) (occurrences (Str.join s ws) s 0 (!(Str.join s ws))<|(!(Str.join s ws))+1) (!s)=ws/\Txt.split (Str.join s ws) s=ws:=by
 have N:1<=!s:=by show 1<=s.cps.size;rw[<-bt,B];simp
 let(f,h1,h2):=occ_tight (Str.join s ws) s N;have D:partsBetween (Str.join s ws) (occurrences (Str.join s ws) s 0 (!(Str.join s ws))<|(!(Str.join s ws))+1) (!s)=ws:=by rw[partsBetween_eq];exact Vh B A C (cv _) rfl h1 h2
 have L:occurrences (Str.join s ws) s 0 (!(Str.join s ws)) ((!(Str.join s ws))+1)=[]->[Str.join s ws]=ws:=λe=>by rw[e] at D;exact(b9 (λz=>[z])<|sub_whole _).symm.trans<|(partsBetween_eq _ [] _).symm.trans D
 refine⟨D,?_⟩;delta Txt.split;split
 .rename_i O;apply L;cases q:occurrences (Str.join s ws) s 0 (!(Str.join s ws)) ((!(Str.join s ws))+1) with
  |nil=>rfl
  |cons i r=>
   rw[q] at h1;have z:=h1.2.1.1;rw[gL,br,br,M] at O
   have:1<=strKind (Str.join s ws):=by delta Builtin.Str.strKind;split;decide;split<;>decide
   lk
 .split
  .rename_i Q;exact L<|List.isEmpty_iff.mp Q
  .calc D
def ahB {a s b:Str}(I:⇑s=c::t)(B:Not (c∈⇑a)):Txt.partition (a++s++b) s=(a,s,b):=by
 have e:⇑(a++s++b)=⇑a++(⇑s++⇑b):=by show((a.cps++s.cps)++b.cps).toList=_;simp
 have M:(!a)=!⇑a:=bt.symm;have y:(!s)=!⇑s:=bt.symm;have J:(!(a++s++b))=(⇑(a++s++b)).length:=bt.symm;have D:=b9 List.length e;rw[aE,aE] at D;have G:(⇑(a++s++b)).drop (!a)=⇑s++⇑b:=by rw[e,M,oa]
 have Y:=at_of ∅ G;have E:∀{k},0<=k->k<0+!a->Not (At (a++s++b) s (!(a++s++b)) k):=M4 I B e;rcases partition_whole (a++s++b) s with⟨_,C⟩|⟨i,H,N,C⟩
 .exact absurd Y<|C _
 .have A:i=!a:=by
   rcases j1 i !a with h|h|h
   .exact absurd N<|E (cv _) ∅
   .exact h
   .exact absurd Y<|C _ h
  subst A;rw[H];congr 1
  .exact nh<|iP.mp<|by rw[strSub_toList,drop_zero,e,show (!a) - 0=(!⇑a) by lk,take_left]
  .congr 1;calc nh<|iP.mp (by rw[strSub_toList,←drop_drop,G,y,oa];calc bu ∅)
def Vi (h:cG z=true):∀c∈⇑z,c<0x110000:=λc O=>by have h:z.cps.all (· <0x110000)=true:=h;rw[<-ng,cp] at h;calc of_decide_eq_true<|h c O
def Yk (h:∀c∈⇑z,c<0x110000):cG z=true:=by show z.cps.all (· <0x110000)=true;rw[<-ng,cp];calc λc O=>az<|h c O
def o7 (h1:cG a=true)(h2:cG b=true):cG (a++b)=true:=Yk λc O=>by
 rw[show⇑(a++b)=⇑a++⇑b by rw[dP,eD]] at O;rcases aT.mp O with h|h
 .exact Vi h1 c h
 .calc Vi h2 c h
theorem jV (h1:cG s=true):∀{ws:¬Str},(∀w∈ws,cG w=true)->cG (Str.join s ws)=true
 |[],_=>Yk λ_ h=>nomatch h
 |[w],h=>h w aa
 |w::v::r,h=>o7 (o7 (h w aa) h1)<|jV h1 λy n=>h y<|ae _ n
theorem mem_join:∀{ws:¬Str},c∈⇑(Str.join s ws)->c∈⇑s\/∃w∈ws,c∈⇑w
 |[],h=>nomatch h
 |[w],h=>.inr (w,aa,h)
 |w::v::r,h=>by
  rw[Av] at h;rcases aT.mp h with h|h
  .exact .inr (w,aa,h)
  rcases aT.mp h with h|h
  .exact .inl h
  rcases mem_join h with h|⟨y,n,h⟩
  .exact .inl h
  .calc .inr (y,ae _ n,h)
def join_le (h:∀w∈ws,(!w)<=B):(!(Str.join s ws))<=(!ws)*B+(!ws)*!s:=by have:=join_length_le s ws;have:=sumLen_le ws h;lk
def yS (h1:cG s=true)(h2:∀w∈ws,cG w=true)(J:∀w∈ws,(!w)<=B)(M:(!ws)*B+(!ws)*(!s)<=16777216):jx (.str s) (.list<|ws.map .str)=#[.str<|Str.join s ws]:=by have e:Txt.join s ws=Str.join s ws:=glued_eq_join s ws;delta jx;erw[pZ];rw[e,ah (by rw[bc];calc⟨(b9 not<|joinFits J M),jV h1 h2⟩)]
def yU (D:⇑s=c::t)(A:Builtin.Str.strKind s=1)(r:ws≠[])(C:∀w∈ws,Not (c∈⇑w))(h2:∀w∈ws,cG w=true)(J:(!(Str.join s ws))<=9000)(M:(!ws)<=1000):qy tH (.str<|Str.join s ws) (.str s)=#[.list<|ws.map .str]:=by
 let(B,G):=aak D A r C;have N:((!s)==0)=false:=by
  have:(!s)=!⇑s:=bt.symm
  rw[this,D];rfl
 show(if yR _ _=true then _ else _)=_;rw[ah (by delta yR;rw[B,G,N,az J,az M,cp.mpr h2];rfl),G]
def acp (D:⇑s=c::t)(G:Not (c∈⇑a))(h1:cG a=true)(h2:cG s=true)(J:cG b=true)(M:(!(a++s++b))<=9000):qy w5 (.str<|a++s++b) (.str s)=#[.tuple [.str a,.str s,.str b]]:=by
 have N:((!s)==0)=false:=by
  have:(!s)=!⇑s:=bt.symm
  rw[this,D];rfl
 show(if _ then _ else _)=_;rw[ahB D G,ah (by rw[N,az M,h1,h2,J];rfl)]
end cA
namespace cA
open PyProof.Rows L2 VM StrLaws
inductive Tx:¬()->¬Str->Prop
 |nil:Tx [] []
 |str (h:cG z=true) (r:Tx ds ws):Tx (.str z::ds) (z::ws)
 |int (h:iY n) (r:Tx ds ws):Tx (.int n::ds) (↥n::ws)
theorem Tx.ok (h:Tx ds ws):∀w∈ws,cG w=true:=by
 induction h with
 |nil=>simp
 |str h r A=>intro w C;rcases aI.mp C with e|e;calc e▸h;calc A w e
 |int h r A=>intro w C;rcases aI.mp C with e|e;calc e▸h.ok;calc A w e
def M8 (h:iY n):tZ [.int n]=#[.str<|↥n]:=by calc ah (by rw[bc,br];calc⟨h.lg,h.ok⟩)
def Fy (h1:t d S=#[S1])(h2:g S1=.nxt S2):cT t g (d::r) S=cT t g r S2:=by rw[cT,h1];k_ne;rw[h2]
def acq (h:Tx ds ws):∀{acc:¬Str}{x:↑()},(!acc)+(!ds)<=1000->∃b,cT (gN 2) (dz (vB<|tU "str" (vN 2)) (d8 1<|aC (vF 2) a0)<|d8 1<|aC (cL tZ<|aC (vN 2) a0) a0) ds [x0,#[(.ow,.list<|acc.map .str)],ob x]=.nxt [x0,#[(.ow,.list<|(acc++ws).map .str)],ob b]:=by
 induction h with
 |nil=>intro acc x _;calc⟨x,by rw[eP];rfl⟩
 |str h r A=>
  intro acc x N;let(b,e):=A (acc:=acc++[z]) (x:=#[.str z]) (by simp at N ⊢;lk);refine⟨b,(Fy (S1:=[x0,#[(.ow,.list<|acc.map .str)],#[(.fr,.str z)]]) ?_ ?_).trans (by rw[<-lI] at e;calc e)⟩
  .z_go
  .z_go;rw[show mC "str" (.str z)=#[.bool true] by simp[mC,Ge]];z_go;rw[ah (by rw[ac];calc aY (by simp at N;lk)),bP];rfl
 |int h r A=>
  intro acc x N;let(b,e):=A (acc:=acc++[↥n]) (x:=#[.int n]) (by simp at N ⊢;lk);refine⟨b,(Fy (S1:=[x0,#[(.ow,.list<|acc.map .str)],#[(.fr,.int n)]]) ?_ ?_).trans (by rw[<-lI] at e;calc e)⟩
  .z_go
  .z_go;rw[show mC "str" (.int n)=#[.bool false] by simp[mC,Ge]];z_go;rw[M8 h];z_go;rw[ah (by rw[ac];calc aY (by simp at N;lk)),bP];rfl
def KD (h:Tx ds ws)(N:(!ds)<=20)(J:∀w∈ws,(!w)<=500)(C:(!ws)<=20):mz [.tuple ds]=#[(false,.str<|Str.join " " ws)]:=by let(b,e):=acq h (acc:=[]) (x:=none) (by simp;lk);delta mz GD;z_go;rw[show cT (gN 2) (dz (vB<|v1 (mC "str")<|vN 2) (d8 1<|aC (vF 2) a0)<|d8 1<|aC (cL tZ<|aC (vN 2) a0) a0) ds [#[(.fr,.tuple ds)],#[(.ow,.list [])],none]=_ from e];z_go;rw[yS 'k' h.ok J (by show (!ws)*500+(!ws)*1<=_;lk)];z_go
end cA
namespace cA
open PyProof.Rows L2 VM
abbrev GK (j:Nat):Stmt:=inClass (top 43) j
section
variable {K:Frag}
def KH (K:Frag)(e:B[i]? =#[#[.str y]])(q:t D B H):cR (jJ<|fC Ir (vR i)<|tC<|.str y) t u D B H:=zX (K:=K) (λ_ r=>aG e r) (λ_ r=>r) (by rw[az rfl];calc q)
def Ia (K:Frag)(e:B[i]? =#[#[.str x]])(h:decide (x=y)=false)(q:u D B H):cR (jJ<|fC Ir (vR i)<|tC<|.str y) t u D B H:=zX (K:=K) (λ_ r=>aG e r) (λ_ r=>r) (by rw[h];calc q)
inductive Vj (C:Addr)(vs:¬V)(H:Hp)(Q:VK):Prop
 |mk {p dx nn ll v:Addr} {vl:¬V} {d:bf} (e:vs=[.ref p,.str d.word,.ref v]) (hp:H p=#[.ins C dx [("numbers",.ref nn),("laid",.ref ll)]]) (hv:H v=#[.lst vl]) (ev:d.vals=.str d.word::vl) (hd:d.sp C p H (λ_ H'=>Q .non H'))
theorem acr (c:Cl K C)(I:MO E K C (bT 1) 2 (Kc C))(B:MO E K C (bT 2) 2 (SQ C))
  (L:MO E K C (bT 3) 2 (Lx C))(J:MO E K C (bT 4) 2 (Hw C))(h:GF E K 48):CO E K 48 3 (Vj C):=by
 refine Gk ["hall","word","values"] h (λN H Q h=>by let(rfl,_):=h;rfl) λH nd vt hr m=>?_;let(rfl,D,M,G,A):=m;refine⟨_,aM (bQ (eF gU (pU 1) aX) (aM (cB (pM I (pU 0) (aj (aR dw (pU 2) aH) (aj (aR dw (pU 2) aH) (aj (aR dw (pU 2) aH) (aj (aR dw (pU 2) aH) (aj (aR dw (pU 2) aH) aq))))))))
  (aM (bQ (eF gU (pU 1) aX) (aM (cB (pM B (pU 0) (aj (aR dw (pU 2) aH) aq))))
  (aM (bQ (eF gU (pU 1) aX) (aM (cB (pM L (pU 0) (aj (aR dw (pU 2) aH) (aj (aR dw (pU 2) aH) aq)))))
  (aM (bQ (eF gU (pU 1) aX) (aM (cB (pM J (pU 0) (aj (aR dw (pU 2) aH) (aj (aR dw (pU 2) aH) aq))))) bA))))))),?_⟩
 have M:=aQ.of (K:=K) M;cases d with
 |lay nm a b w l=>
  cases G;refine KH K rfl ?_;delta gk iw cg cV;calc aG rfl ⟨_,_,_,rfl,D,rfl,bI rfl M rfl<|bI rfl M rfl<|bI rfl M rfl<|bI rfl M rfl<|bI rfl M rfl A⟩
 |shut nm=>
  cases G;dsimp only[bf.word];refine Ia K rfl 'k'<|KH K rfl ?_;delta gk iw cg cV;calc aG rfl ⟨_,_,_,rfl,D,rfl,bI rfl M rfl A⟩
 |widen nm k=>
  cases G;dsimp only[bf.word];refine Ia K rfl 'k' (Ia K rfl 'k'<|KH K rfl ?_);delta gk iw cg cV;calc aG rfl ⟨_,_,_,rfl,D,rfl,bI rfl M rfl<|bI rfl M rfl A⟩
 |narrow nm k=>cases G;dsimp only[bf.word];refine Ia K rfl 'k' (Ia K rfl 'k' (Ia K rfl 'k'<|KH K rfl ?_));delta gk iw cg cV;calc aG rfl ⟨_,_,_,rfl,D,rfl,bI rfl M rfl<|bI rfl M rfl A⟩
end
end cA
namespace L2
open PyProof.Rows
section
variable {o:Obj}
def Inv.still (I:Inv X A E H s)(h:H a=#[.dK B])(D:s.heap a=#[o]):Inv X A E (upd H a<|.gO o<|.dK B) s:=by have C:gj X.prog X.w (upd H a<|.gO o<|.dK B) s.heap a (.gO o<|.dK B):=⟨D,I.hok a _ h⟩;calc I.write (by rw[h];calc dS) (.inl rfl) (λ_ _ _ e=>e) ⟨o,D⟩ C
def Inv.loose (A:Inv X B k H s)(h₀:H a=#[.dK E])(I:Inv X B J G j)(h:G a=#[.gO o<|.dK E]):Inv X B J (upd G a<|.dK E) j:=by
 have U:G a≠none:=by rw[h];simp
 have O:∀ob u,X.cQ a≠#[.gO ob u]:=λob u e=>by have:=A.base.tM a ob u e;rw[h₀] at this;cases this
 have Q:∀D,X.cQ a≠#[.tup D]:=λD e=>by have:=A.base.tups a D e;rw[h₀] at this;cases this
 have C:=I.hok a _ h;refine(I.ok,I.os,I.bare,(I.base.keep,I.base.slot,λb ob e n N=>?_,I.base.there,λb D e=>?_,λb ob u e=>?_),I.loc,I.cell,?_,λx c e=>?_,λp M=>?_,λb u e=>?_,I.len)
 .have z:=I.base.free b ob e n N;rwa [au λy=>by subst y;calc U z]
 .rw[au λy=>by subst y;calc Q D e];exact I.base.tups b D e
 .rw[au λy=>by subst y;calc O ob u e];exact I.base.tM b ob u e
 .rw[au λy=>U (by rw[<-y];calc I.free)];exact I.free
 .rw[au λy=>U (by rw[<-y];calc I.pI x c e)];exact I.pI x c e
 .let(T,m,Y):=I.pin p M;exact(T,by rw[au λy=>U (by rw[<-y];calc m)];calc m,Y)
 .by_cases L:b=a
  .subst L;rw[ao] at e;k_go;exact C.2
  .rw[au L] at e;refine(I.hok b u e).stay (λc v _ q=>q) (λc q=>?_) λc D q=>?_
   .rw[au λy=>by subst y;rw[h] at q;cases q];exact q
   .rw[au λy=>by subst y;rw[h] at q;cases q];calc q
end
def Iti (a:Addr)(o:Obj)(B:¬(Key×V)):It:=
  (λi H=>H a=#[.gO o (.dK B)]/\i<!B,
   λi H v E=>∃p A,B[i]? =#[A]/\H p=none/\v=.ref p/\E=upd H p (.tup [kV A.1,A.2]),
   λi H=>H a=#[.gO o (.dK B)]/\(!B)<=i)
def Vk (N:j7 P w H h)(e:H a=#[.gO o<|.dK B])(I:o.data=.dict D A):
  ∃vs,KV B vs/\h.DictAt (strKind P w) a vs A:=by
 let(g,_,_,vs,J,Q,E,C,G,U,Y,O,L,M):=(N a _ e);rw[g] at G;cases G;rw[I] at Y;cases Y;calc(vs,J,o,D,g,U,I,O,L,M)
def aal {K:Frag}(a C:Addr)(o:Obj)(B:¬(Key×V))(es:Array DictEntry)(n:Nat)(ho:o.data=.dict es n):
  Turn P w K (.Tuple f k pos) (Iti a o B) [C] C (λi h=>∃N E,IsItemIter h C a i (!B) n N E) where
 mem:=by simp
 obj:=λi h st b D=>by let(_,_,Q):=st;rw[a7.mp D];exact(_,Q,λv z=>by have z':Data.fields _=Data.cell v:=z;cases z')
 keep:=λi h h' st k=>by let(N,E,Q):=st;exact(N,E,k C 's' _ Q)
 item:=by
  intro X g c Y i M s σ H I O st t;subst g c Y;let(N,E,Q):=st;let(p,hi):=t;let(vs,U,G):=Vk I.hok p ho;have T:=!U;have ex:B[i]? =#[B[i]]:=by simp[hi]
  obtain⟨⟨k',d⟩,e2,r1,r2⟩:∃y,vs[i]? =#[y]/\B[i].1=y.1/\RelV B[i].2 y.2:=by
   have A:∀{l:¬(Key×V)}{r:¬(Key×Value)} {j:Nat} {x:Key×V},KV l r->l[j]? =#[x]->∃y,r[j]? =#[y]/\x.1=y.1/\RelV x.2 y.2:=λ{l r}=>by
    intro j x h;induction h generalizing j with
    |nil=>intro e;k_go
    |cons h _ ih=>
     cases j with
     |zero=>intro e;k_go;calc(_,rfl,h)
     |succ j=>intro e;exact ih e
   exact A U ex
  rw[T] at Q;refine wpAny_pyNext_items_item Q G e2 λA h' hk hO hT hsz u=>?_;refine(_,rfl,wpAny_letOwnedTupleGo_items hO λh2 he2 L=>?_);have J:C< ~~~s:=bX Q;have m:h2 (~~~s)=some {cls:=.type "tuple",data:=.seq #[A,d]}:=(L.2 _<|kw J).trans hT;have rk:RelV (kV B[i].1) A:=by rw[r1];exact Xd hk
  refine(.ref (~~~s),upd H (~~~s)<|.tup [kV B[i].1,B[i].2],?_,rfl,(_,B[i],ex,I.hok.fresh<|av _,rfl,rfl),(A,d,by rwa [T]),λb D=>?_)
  .refine I.K7 (fp:=[C]) (λb ob D q=>?_) O (av _) (by show 2<=sizeLine;decide,[A,d],.cons rk<|.cons r2 .nil,(_,m,rfl,_,rfl));have h1:b≠C:=λz=>D (by simp[z]);exact(L.2 b h1).trans<|u b ob h1 q
  .rw[a7.mp D,au<|cw J];exact(O C<|by simp).1
 done:=by intro X g c Y i M s σ H I O st t;subst g c Y;let(N,E,Q):=st;let(p,hi):=t;let(vs,U,G):=Vk I.hok p ho;have T:=!U;rw[T] at Q;refine wpAny_pyNext_items_end I.ok.hd Q G (bg ∅) λh' eb=>⟨rfl,I.turns (t':=s.toks) (fp:=[C]) (λb ob D q=>eb b ob (λz=>D<|by simp[z]) q) O⟩
 self:=λ_ _ _ _ _ st h=>by let(N,E,Q):=st;calc PySem.W.kcp_self Q h
section
variable {T:Pos}
def o8 (d:Addr):Obj:={cls:=.type "dict_items",data:=.fields [.ref d].toArray}
def Yl:V->¬V->Hp->VK->Prop:=λx J H Q=>match x,J with
 |.ref d,[]=>∃B,H d=#[.dK B]/\∀z,H z=none->Q (.ref z) (upd H z<|HO.ext λh=>h z=#[o8 d])
 |_,_=>False
def ajU:ug X "dict.items" Yl:=by
 intro B s M H x J v E Q I L G q
 match x,J,q with
 |.ref d,[],(D,C,q)=>cases L;have A:=G.zero;subst A;let(z,hS,c,rel,N):=rK I.hok C;refine iX l9 N.typeIs PySem.F.entry_dict_items (PySem.F.args_dict_items_1 _) (meets_dict_items (strKind X.prog X.w) d hS) ⟨⟨c,N⟩,?_⟩;have e:(s.heap.push<|o8 d) (~~~s)=#[o8 d]:=bj _ rfl;calc(.ref _,_,I.laid (o:=HO.ext λh=>h (~~~s)=#[o8 d]) (λ_ _ q=>ay _ q) (av _) (e,⟨_,e⟩,λh1 h2 a b=>b _ a),rfl,q _ I.fresh)
def acs (K:Frag)(A:TE):TI:=λC H R=>G6 K "dict" Yl A C H λv J=>∃z a B E,v=.ref z/\J=upd E z (HO.ext λh=>h z=#[o8 a])/\E z=none/\E a=#[.dK B]/\∀o,R (Iti a o B) (upd J a<|.gO o<|.dK B)
def aeU {d:Expr}(w:PE X d td)(A:(attributeBase d "items" X.env (eval d X.env)=eval d X.env)∣0)(D:((B.endLine==G.line)=true)∣0):
  PI X (.Tuple Q k T) (.Call (.Attribute d "items" B) [] [] G) (acs X.K td):=by
 intro J s σ H R I h;refine aV ((IW c9 l9 PySem.F.type_dict_items ajU w A D) J s σ H _ I h) λv O (x,H2,N,r2,z,a,E,g,c,u,i,f,q)=>?_;subst c;cases r2;subst u;have C:upd g z (HO.ext λh=>h z=#[o8 a]) a=#[.dK E]:=by rwa [au<|aZ f i]
 let(_,hS,ws,rel,t):=rK N.hok C;let(o,j,Y,L,l,M,m,p,r):=id t;refine wpAny_pyIter_items (_,((N.hok z _ ao).1),rfl,rfl) (o,j,L,l,M,m,p,r) ?_;refine(~~~O,[~~~O],_,_,_,rfl,(N.kept (t':=O.toks) (h':=O.heap.push {cls:=.type "dict_itemiterator",data:=.fields #[.none,.bool false,.ref a,.int 0 0,.int (!ws) 0,.int Y 0,.none,.none]}) λb ob e=>ay _ e).still C<|ay _ L,aal a _ o E j Y M,(.none,.none,by rw[!rel];calc bj _ rfl),λb n=>?_,q o);rw[a7.mp n];have U:=N.hok.fresh<|av (~~~O);refine N.Bv (av _) ?_;rw[au λy=>by rw[y,C] at U;cases U];calc U
def aeV {st:Stmt}(h:PS X st t):PS X st (λD G H=>∃a B,H a=#[.dK B]/\t {D with nx:=λA E=>∃o,E a=#[.gO o<|.dK B]/\D.nx A (upd E a<|.dK B)} G H):=by
 intro C s G H D I q;let(a,B,M,q):=q;refine aV (h C s G H _ I q) λf N J=>?_;cases f with
 |next=>let(A,E,L,o,h1,h2):=J;calc(A,_,Inv.loose I M L h1,h2)
 |_=>calc J
end
end L2
namespace cA
open PyProof.Rows L2 VM
section
variable {K:Frag}
def alx (Pv:Nat->L2.St->Hp->Prop)(N:Pv 0 A H)(T:∀i A H,i<=!B->Pv i A H->H a=#[.gO o<|.dK B])
  (Y:∀i E A H p,B[i]? =#[E]->Pv i A H->H p=none->g (.ref p) A (upd H p<|.tup [kV E.1,E.2]) λG J=>r {D with nx:=Pv<|i+1} G J)(O:∀A H,Pv (!B) A H->D.nx A H):
  rE (Iti a o B) g r D A H:=by
 refine(λi m A H=>m=(!B) - i/\i<=!B/\Pv i A H,(!B,by simp,cv _,N),?_);rintro i m A H ⟨rfl,Q,p⟩;have q:=T i A H Q p;by_cases C:i<!B
 .refine .inr (⟨q,C⟩,Pv<|i+1,λt I k=>((!B) - (i+1),by lk,rfl,C,k),λx I y=>?_);let(l,E,j,U,L,M):=y;subst L M;exact Y i E A _ l j p U
 .have e:i=!B:=by lk
  subst e;calc .inl ⟨⟨q,av _⟩,O A H p⟩
def ajV (H:Hp)(v:V)(r:Row):Prop:=∃t,v=.ref t/\H t=#[.tup<|fQ r]
def LR (seen:¬Str)(x:Str×Q4)(r:Row):Prop:=x.1=r.1/\cN (seen.map V.str) x.2.1=#[.str r.2.1]/\cN (seen.map V.str) x.2.2.1=#[.str r.2.2.1]/\x.2.2.2.1=r.2.2.2.1/\x.2.2.2.2=r.2.2.2.2
def Vl (C:Addr):Sp:=λL H Q=>∃p D J G B x A,L=[.ref p]/\aU H C p D J G B x/\(!x)<100/\Paired (LR<|seenOf B) x A/\
 ∀E q I,Same H E->H q=none->E q=#[.lst I]->Paired (ajV E) I A->Q (.ref q) E
def ahC (c:Cl K C)(M7:MO E K C (bT 7) 1 (yF C))(h:MF E K C (bT 8)):MO E K C (bT 8) 2 (Vl C):=by
 refine sX ["self","rooms","told","name","passage"] h (λvs H Q h=>by let(_,_,_,_,_,_,_,rfl,_):=h;rfl) λH nd vt hr qe=>?_;let(p,dx,nn,j,J,ls,L,rfl,hh,hn,hR,hq):=qe;refine(_,ak (pS 1 (pM0 M7 (pU 0)))
  (ak (pS 2 (xU aq))
  (ak (aeV (jG (aeU (dB (pU 0) rfl)) (ur (eG (pG 3) (eG (pG 4) pP)))
   (aM (cB (Eh (pU 2) (aj (mQ (aj (pU 3) (aj (aR dw (pU 1) (aR gP (pU 4) aH)) (aj (aR dw (pU 1) (aR gP (pU 4) aH)) (aj (aR gP (pU 4) aH) (aj (aR gP (pU 4) aH) aq)))))) aq))))))
  (aM (bD (pU 2))))),?_)
 let(I,Y,hl):=hh.laid;have hkl:=!hl;have hrl:=!hR;delta iC gZ iw cV cC YQ;refine aG rfl (p,dx,_,rfl,hh.ins,rfl,p,dx,nn,j,J,ls,rfl,hh,λrz s=>?_);k_ne;refine⟨cv _,λU T=>?_⟩;have s1:=aK (o:=.lst<|(seenOf J).map V.str) s;have B:=s1.trans<|aK (o:=.lst []) T;have l:=s1.free T;have g:rz≠U:=λz=>by subst z;rw[ao] at T;cases T
 have G:=aZ Y l;refine(j,I,B _ _ Y,?_);rw[qI];delta acs G6;refine dH rfl (B _ _ hh.ins) c.cl c.n2 rfl (.inr<|.inr (rfl,I,B _ _ Y),I,B _ _ Y,λz d=>?_);refine(z,j,I,_,rfl,rfl,d,B _ _ Y,λo=>?_);have hzt:U≠z:=λy=>by subst y;rw[ao] at d;cases d
 have hzr:rz≠z:=λy=>by subst y;rw[au g,ao] at d;cases d
 refine alx (λi q M=>(∃x y,q=[#[.ref p],#[.ref rz],#[.ref U],x,y])/\M j=#[.gO o<|.dK I]/\M rz=#[.lst<|(seenOf J).map V.str]/\(∃k,M U=#[.lst k]/\(!k)=i/\Paired (ajV M) k (L.take i))/\∀b ob,b≠j->H b=#[ob]->M b=#[ob])
  ((_,_,rfl),ao,by rw[au (aZ Y s).symm,au hzr,au g,ao],([],by rw[au G.symm,au hzt,ao],rfl,.nil),λb ob O e=>by rw[au O];calc(aK (o:=HO.ext λh=>h z=#[o8 j]) d) _ _<|B _ _ e) (λ_ _ _ _ h=>h.2.1) ?_ ?_
 .rintro i kv q M p' n ⟨⟨x,y,rfl⟩,i1,i2,⟨k,i3,i4,i5⟩,i6⟩ hp';let(x1,e1,e2):=Paired.get hl n;let(r,e3,e4):=Paired.get hR e1;let(D,t,hv,ht):=e2;let(l1,l2,l3,l4,l5):=e4;have hi:=(af.mp n).1;rw[l1] at D;have htl:t≠j:=λz=>by subst z;rw[Y] at ht;cases ht
  have m:=i6 _ _ htl ht;have N:=aK (o:=.tup [kV kv.1,kv.2]) hp';refine(_,bK.of ao,rfl,?_);rw[D,hv];show gk (uZ K "list" zu (vR 2) _) _ [#[.ref p],#[.ref rz],#[.ref U],#[.str r.1],#[.ref t]] _;rw[D,hv] at N;delta gk uZ;refine aG rfl ⟨.inl (rfl,_,aQ.of (N _ _ i3)),?_⟩;delta cg za;refine aG rfl (CK rfl (N _ _ i2) (λR r=>wN rfl (N _ _ m) rfl r) l2 (CK rfl (N _ _ i2) (λR r=>wN rfl (N _ _ m) rfl r) l3 (wN rfl (N _ _ m) rfl (wN rfl (N _ _ m) rfl ⟨by show 5<=sizeLine;decide,λt' ht2=>?_⟩))));rw[l4,l5];have s5:=aK (o:=.tup<|fQ r) ht2;refine(k,s5 _ _<|N _ _ i3,aY ∅,?_);have A:=N.trans s5;have w:∀b ob,b≠U->upd (upd M p'<|.tup [kV r.1,V.ref t]) t' (.tup<|fQ r) b=#[ob]->upd (upd (upd M p'<|.tup [kV r.1,V.ref t]) t'<|.tup<|fQ r) U (.lst<|k++[.ref t']) b=#[ob]:=λb ob O e=>by rwa [au O]
  have a:∀b xs,upd (upd M p'<|.tup [kV r.1,V.ref t]) t' (.tup<|fQ r) b=#[.tup xs]->b≠U:=λb xs e z=>by subst z;rw[A _ _ i3] at e;k_go
  refine((_,_,rfl),w _ _ G<|A _ _ i1,w _ _ g<|A _ _ i2,(_,ao,by rw[aE,i4];rfl,?_),λb ob O e=>w _ _ (λz=>by subst z;rw[l] at e;k_go) (A _ _<|i6 _ _ O e));have etk:L.take (i+1)=L.take i++[r]:=by rw[lh,e3];rfl
  rw[etk];refine Paired.snoc (i5.mono λv r' h=>?_) (t',rfl,w _ _ (a _ _ ao) ao);let(u,eu,f):=h;exact(u,eu,w _ _ (a _ _<|A _ _ f)<|A _ _ f)
 .rintro q M ⟨⟨x,y,rfl⟩,i1,i2,⟨k,i3,i4,i5⟩,i6⟩;refine⟨o,i1,?_⟩;refine aG rfl ?_;refine hq _ U k (λb ob e=>?_) l (by rwa [au G.symm]) ?_
  .by_cases O:b=j
   .subst O;rw[Y] at e;k_go;exact ao
   .rw[au O];exact i6 _ _ O e
  .rw[bu ∅] at i5;refine i5.mono λv r' h=>?_;obtain⟨u,eu,f⟩:=h;calc⟨u,eu,by rw[au λz=>by subst z;rw[i1] at f;cases f];calc f⟩
end
section
variable {E:En}{K:Frag}{C CD:Addr}{σ:L2.St}{H:Hp}{D:Ends}{i:Nat}{x y:Str}{t u:TS}
def wu (K:Frag)(e:σ[i]? =#[#[.str y]])(q:∀o,t {D with nx:=o} σ H):iC (cR (jJ<|fC Ir (vR i)<|tC<|.str y) t jF) u D σ H:=KH K e<|q _
def aly (K:Frag)(e:σ[i]? =#[#[.str x]])(h:decide (x=y)=false)(q:u D σ H):iC (cR (jJ<|fC Ir (vR i)<|tC<|.str y) t jF) u D σ H:=Ia K e h q
def ajW (K:Frag)(Q:VK)(v:V)(H:Hp):Prop:=∃t W r,v=.ref t/\bK K H t (.int W::r)/\W.natAbs.log2<1920/\Q (.str<|toString W) H
def jh (x:Str×Int):Str:=x.1++(": "++(toString x.2++Str.empty))
inductive nO (K:Frag)(C p:Addr)(H:Hp)(Q:VK):Str->¬V->Prop
 |deed (d:bf) (e:d.vals=.str d.word::vl) (h:d.sp C p H (λ_ H'=>Q (.str "ok") H')):nO K C p H Q d.word vl
 |out (h:uI K C [.ref p,v] H (ajW K Q)):nO K C p H Q "out" [v]
 |walks (h:uI K C [.ref p,v] H (λv H1=>∃a d r z,Has K H1 (.tuple (a::d::r)) v/\m9 [d]=#[(false,.str z)]/\∀H2,Same H1 H2->Q (.str z) H2)):nO K C p H Q "walks" [v]
 |yO (h:uI K C [.ref p,v] H (λv H1=>∃a b,∃rs:¬(Str×Int),Has K H1 (.tuple [a,b,.list<|rs.map je]) v/\(∀x∈rs,(!x.1)<=100/\x.2.natAbs.log2<1920/\cG (jh x)=true)/\(!rs)<1000/\JoinOk "; " (rs.map jh)=true/\∀H2,Same H1 H2->Q (.str<|Txt.join "; " (rs.map jh)) H2)):nO K C p H Q "moments" [v]
 |turns (h:mq K C [.ref p,v] H (λv H1=>v=.non/\Q (.str "never") H1\/ajW K Q v H1)):nO K C p H Q "turns" [v]
 |worth (h:yQ K C [.ref p,b,v] H (λv H1=>∃n:Int,v=.int n/\n.natAbs.log2<1920/\Q (.str<|toString n) H1)):nO K C p H Q "worth" [b,v]
 |rooms (h:yF C [.ref p] H (λv H1=>∃z ys,v=.ref z/\aQ K H1 z (ys.map V.str)/\JoinOk " " ys=true/\Q (.str<|Txt.join " " ys) H1)):nO K C p H Q "rooms" []
 |passages (h:Vl C [.ref p] H (λv H1=>∃d z,Has K H1 d v/\jU [d]=#[(false,.str z)]/\∀H2,Same H1 H2->Q (.str z) H2)):nO K C p H Q "passages" []
inductive agh (K:Frag)(C:Addr)(vs:¬V)(H:Hp)(Q:VK):Prop
 |mk {p dx nn ll v:Addr} {vl:¬V} {wd:Str} (e:vs=[.ref p,.str wd,.ref v]) (hp:H p=#[.ins C dx [("numbers",.ref nn),("laid",.ref ll)]]) (hv:H v=#[.lst vl]) (h:nO K C p H Q wd vl)
def alz:Stmt->Scope
 |.If _ [.Return (#[.Call _ [.ListComp _ _ A _] _ _]) _] _ _=>A
 |_=>aP<|top 47
def lcO (h:te σ H λx B=>∃a,x=.ref a/\(∃xs,aQ K B a xs)/\G7 (FZ K a) cap g tc A σ B Q):xY (pK K te) cap g tc A σ H Q:=h
def Ib (h:uI K C vs H Q)(m:∀v A,Q v A->M v A):uI K C vs H M:=by let(p,N,o,g,B,l,T,W,c,L,e,U,Y,em,J,I,G,O,k,j):=h;calc(p,N,o,g,B,l,T,W,c,L,e,U,Y,em,J,I,G,O,k,λv A s q=>m _ _<|j v A s q)
def aam (h:mq K C vs H Q)(m:∀v A,Q v A->J v A):mq K C vs H J:=by
 let(p,L,z,l,B,o,n,d,e,j,k,em,Y,g):=h;refine(p,L,z,l,B,o,n,d,e,j,k,em,Y,?_);rcases g with⟨e,q⟩|⟨T,G,I,M,N,O,U,q⟩
 .exact .inl ⟨e,λA s=>m _ _<|q A s⟩
 .calc .inr ⟨T,G,I,M,N,O,U,λA t r s b=>m _ _<|q A t r s b⟩
def bf.asks (d:bf):(["out","walks","moments","turns","worth","rooms","passages"]:¬Str).all (λy=>not (decide (d.word=y)))=true:=by cases d<;>kernel_rfl
def ahD (h1:(!r)<=100)(h2:A.natAbs.log2<1920)(J:cG (jh (r,A))=true):uc (aC (vN 0)<|aC (vC<|.str ": ")<|aC (vN 1) a0) [#[(.fr,.str r)],#[(.fr,.int A)]]=#[.str<|jh (r,A)]:=by
 have e:ou [.str r,.str ": ",.int A]=#[jh (r,A)]:=by erw[ou,wg,ah h2,ah<|show (!r)<=9000 by lk,ah<|show (!(Str.ofString ": "))<=9000 by decide +kernel];rfl
 show(match ou [.str r,.str ": ",.int A] with|some z=>if cG z=true then #[PyData.str z] else none|none=>none)=_;rw[e];calc ah J
def ajX (B:Bl E.mg)(c:Cl K C)(Mo:MO E K C (bT 9) 7 (uI K C))(Mt:MO E K C (bT 10) 6 (mq K C))(Mw:MO E K C (bT 11) 7 (yQ K C))
  (Mr:MO E K C (bT 7) 1 (yF C))(Ctw:CV E K 49 1 m9)(Cch:CO E K 48 3 (Vj C))(Mp:MO E K C (bT 8) 2 (Vl C))(Ctp:CV E K 50 1 jU)(h:GF E K 47):CO E K 47 8 (agh K C):=by
 have vc:=(show(["room","moment"]:¬Str).all (λx=>G8 (alz ((eE (top 47)).getD 2 (.Pass ⟨0,0,0,0⟩))) x && plain x)=true by decide +kernel);refine Gk ["hall","word","values","fewest"] h (λvs H Q h=>by let(rfl,_):=h;rfl) λH nd vt hr qe=>?_;let(rfl,J,I,h):=qe;refine⟨_,ak (bQ (eF gU (pU 1) aX) (aM (bD (bM cStr gx B.str boot_str (aj (aR gP (pM Mo (pU 0) (aj (aR dw (pU 2) aH) aq)) aH) aq)))) bA)
  (ak (bQ (eF gU (pU 1) aX) (aM (bD (pC Ctw (aj (aR gP (pM Mo (pU 0) (aj (aR dw (pU 2) aH) aq)) aH) aq)))) bA)
  (ak (bQ (eF gU (pU 1) aX) (aM (bD (uq de f4 fT Fw aX (aj (Jb (g:=zy K 2 (jq (cC 0) (jq (cC 1) zx))) (te:=tV K RS (uc (aC (vN 0) (aC (vC (.str ": ")) (aC (vN 1) a0))))) (cap:=[none,none]) ["hall","word","values","fewest"] (aP (top 47)) 'k' rfl rfl (iM (aR gP (pM Mo (pU 0) (aj (aR dw (pU 2) aH) aq)) aH))
   (λ_ _ _ _ _=>ur (eG (wA 'k' 'k') (eG (wA 'k' 'k') pP))) (λ_ _ _ _ _=>xX) (λ_ _ _ _ _=>ajf (pfC (mw (dN (pq vc 0))) (pfL (pfC (mw (dN (pq vc 1))) pf0))))) aq)))) bA)
  (ak (bQ (eF gU (pU 1) aX) (ak (pS 3 (pM Mt (pU 0) (aj (aR dw (pU 2) aH) aq))) (aM (bD (Ro (uW (Ik (pU 3))) aX (bM cStr gx B.str boot_str (aj (aR gP (pU 3) aH) aq)))))) bA)
  (ak (bQ (eF gU (pU 1) aX) (aM (bD (bM cStr gx B.str boot_str (aj (pM Mw (pU 0) (aj (aR dw (pU 2) aH) (aj (aR dw (pU 2) aH) aq))) aq)))) bA)
  (ak (bQ (eF gU (pU 1) aX) (aM (bD (uq de f4 fT Fw aX (aj (pM0 Mr (pU 0)) aq)))) bA)
  (ak (bQ (eF gU (pU 1) aX) (aM (bD (pC Ctp (aj (pM0 Mp (pU 0)) aq)))) bA)
  (ak (cB (pC Cch (aj (pU 0) (aj (pU 1) (aj (pU 2) aq)))))
  (aM (bD aX))))))))),?_⟩
 have hv0:=I;have I:=aQ.of (K:=K) I;have A:∀{x y:Str}{t u:TS} {D:Ends} {σ:L2.St},σ[1]? =#[#[.str x]]->u D σ H->decide (x=y)=false->iC (cR (jJ<|fC Ir (vR 1)<|tC<|.str y) t jF) u D σ H:=λe q h=>aly K e h q;cases h with
 |deed d e h=>have nw:=d.asks;erw[all_cons,List.all_nil,Bool.and_true,bc,kN] at nw;let(n1,n2,n3,n4,n5,n6,n7):=nw;refine A rfl (A rfl (A rfl (A rfl (A rfl (A rfl (A rfl ?_ n7) n6) n5) n4) n3) n2) n1;calc ajP<|aah<|callC<|aG rfl<|gJ<|aG rfl<|gJ<|aG rfl ⟨rfl,J,hv0,e,h⟩
 |out h=>
  refine wu K rfl λ_=>vZ<|cbO<|gJ<|dJ<|jT rfl J rfl<|gJ<|bI rfl I rfl<|Ib h λv w q=>?_;let(t,W,r,rfl,U,N,q):=q;calc cO ⟨_,_,U,kj _ _,W,rfl,N,q⟩
 |walks h=>
  refine A rfl (wu K rfl λ_=>vZ<|callC<|dJ<|jT rfl J rfl<|gJ<|bI rfl I rfl<|Ib h λv w q=>?_) 'k';let(a,d,r,z,(t,_,rfl,U,_,_,rfl,_,_,_,rfl,hd,_),e,q):=q;refine cO ⟨_,_,U,uy _ _ _,w,[d],Same.refl _,⟨_,_,rfl,hd,rfl⟩,_,_,e,λv F' O g hr=>?_⟩;let(rfl,_):=hr;calc q _ g.hh
 |yO h=>
  refine A rfl (A rfl (wu K rfl λ_=>vZ ⟨rfl,gJ<|lcO<|dJ<|jT rfl J rfl<|gJ<|bI rfl I rfl<|Ib h λv w q=>?_⟩)<|'k') 'k';let(_,_,rs,(t,_,rfl,U,_,_,rfl,_,_,_,rfl,_,_,_,rfl,⟨M,xs,rfl,hM,Yb⟩,e0),hm,hn,hj,q):=q;cases(show _=[] from e0);refine cO ⟨_,_,U,JD _ _ _ _,M,rfl,⟨_,hM⟩,lcH je (PyData.str ∘ jh) hM Yb hn (λ_ _ _ r=>r) (λD x v O R Kt hx sm _ I hR hK=>?_) λv H2 sm I=>?_⟩
  .let(tt,_,rfl,htt,_,_,rfl,⟨rfl,h3⟩,_,_,rfl,h4,e0):=I;cases(show _=[] from e0);cases(show _=V.int _ from h4);let(h1,h2,h5):=hm x hx;refine⟨_,htt,rfl,hK _ _ (gA.skip<|gA.skip gA.nil)<|VM.zZ (qg.at (m:=2) (L:=[(0,.str x.1),(1,.int x.2)]) (.c rfl ⟨rfl,h3⟩<|.c rfl rfl .n) rfl) (ahD h1 h2 h5) λv Bj s I=>?_⟩;let(rfl,h6):=I;exact hR _ _ s ⟨rfl,h6⟩
  .let(D,ys,rfl,hD,hy):=I;rw[<-bE] at hy;cases uP hy;calc⟨_,_,_,rfl,rfl,hD,hj,q _ sm⟩
 |turns h=>
  refine A rfl (A rfl (A rfl (wu K rfl λ_=>ajP<|qx<|jT rfl J rfl<|gJ<|bI rfl I rfl<|aam h λv w q=>?_)<|'k')<|'k') 'k';delta cC;k_ne;refine vZ ?_;delta tIf tB Br;refine aG rfl ?_;rcases q with⟨rfl,q⟩|⟨t,W,r,rfl,U,N,q⟩
  .exact⟨true,rfl,q⟩
  .calc⟨false,rfl,cbO<|gJ<|gG rfl U (kj _ _) ⟨W,rfl,N,q⟩⟩
 |worth h=>
  let(p,Y,b,l,G,o,nm,q,T,W,W',r,r',e,j,hg,N,e1,e2,k):=h;k_go;refine A rfl (A rfl (A rfl (A rfl (wu K rfl λ_=>vZ<|cbO<|gJ<|jT rfl J rfl<|gJ<|bI rfl I rfl<|gJ<|bI rfl I rfl ⟨p,Y,b,l,G,o,nm,q,T,W,W',r,r',rfl,j,hg,N,e1,e2,λO s=>?_⟩)<|'k')<|'k')<|'k') 'k';let(n,e,N,q):=k O s;k_go;calc⟨_,rfl,N,q⟩
 |rooms h=>
  let(p,Y,b,l,G,o,e,j,k):=h;k_go;refine A rfl (A rfl (A rfl (A rfl (A rfl (wu K rfl λ_=>vZ ⟨rfl,gJ<|jT rfl J rfl ⟨p,Y,b,l,G,o,rfl,j,λz hz=>?_⟩⟩)<|'k')<|'k')<|'k')<|'k') 'k';let(z',ys,e,hs,hj,q):=k z hz;k_go;calc⟨_,_,ys,rfl,rfl,hs,hj,q⟩
 |passages h=>let(p,Y,b,l,G,o,f,e,j,N,hR,k):=h;k_go;refine A rfl (A rfl (A rfl (A rfl (A rfl (A rfl (wu K rfl λ_=>vZ<|callC<|jT rfl J rfl ⟨p,Y,b,l,G,o,f,rfl,j,N,hR,λO q ts s h1 h2 h3=>?_⟩)<|'k')<|'k')<|'k')<|'k')<|'k') 'k';let(d,z,hd,e,q'):=k O q ts s h1 h2 h3;refine⟨O,[d],Same.refl _,⟨_,_,rfl,hd,rfl⟩,_,_,e,λv F' Bj g hr=>?_⟩;let(rfl,_):=hr;calc q' _ g.hh
end
section
variable {K:Frag}
abbrev gY (H:Hp)(A p E:Addr)(h:V):Prop:=H p=#[.ins A E [("hall",h)]]
inductive M9 (CD:Addr)(vs:¬V)(H:Hp)(Q:VK):Prop
 |mk {x dx:Addr} (e:vs=[.ref x]) (h:H x=#[.ins CD dx []]) (q:Q .non (upd H x<|.ins CD dx [("hall",.non)]))
def aeW (c:Cls K A)(n:mO K A "hall")(h:MF E K A (GK 0)):MO E K A (GK 0) 1 (M9 A):=by refine sX ["self"] h (λJ H Q h=>by let(rfl,_):=h;rfl) λH nd vt hr m=>?_;let(rfl,B,T):=m;refine⟨_,aM<|IK (pU 0) sE rfl,?_⟩;delta ac5 tC;calc aG rfl ⟨_,A,_,[],rfl,B,c,n,by decide,T⟩
inductive Rh (K:Frag)(CD C:Addr)(x dx:Addr)(hv:V)(H:Hp)(Q:VK):Str->¬()->Prop
 |hall {a b:Str} (n1:fW a) (n2:fW b) (Tp:a≠b) (q:∀p dx' nn ll H',aU H' C p dx' nn ll [(a,0),(b,1)] []->Same H H'->H nn=none->H ll=none->Q (.str "ok") (upd H' x<|.ins CD dx [("hall",.ref p)])):Rh K CD C x dx hv H Q "hall" [.str a,.str b]
 |ask {p dx' nn ll:Addr} {wd:Str} {ds:¬()} (n:decide (wd="hall")=false) (e:hv=.ref p) (hp:H p=#[.ins C dx' [("numbers",.ref nn),("laid",.ref ll)]]) (h:∀H1 vl,Same H H1->aJ K H1 ds vl->nO K C p H1 Q wd vl):Rh K CD C x dx hv H Q wd ds
inductive dY (K:Frag)(CD C:Addr)(vs:¬V)(H:Hp)(Q:VK):Prop
 |mk {x dx:Addr} {hv:V} {line wd:Str} {r:¬Str} {ds:¬()} (e:vs=[.ref x,.str line]) (hd:gY H CD x dx hv) (hl:(PyData.str line).canLay0=true) (es:tH (.str line) (.str " ")=#[.list<|(wd::r).map .str]) (ev:oJ [.list<|(wd::r).map .str]=#[(true,.list ds)]) (h:Rh K CD C x dx hv H Q wd ds)
def ajZ (B:Bl E.mg)(c:Cls K CD)(n:mO K CD "hall")(M:Mk K C s)(o:jA E.P E.w K E.mg E.base 2 s I ["self","start","goal"] (Kd C))(y:Binds I ["self","start","goal"])(hC:E.mg "NamedHall"=#[.ref C])
  (l:CV E K 44 3 oJ)(k:CO E K 47 8 (agh K C))(h:MF E K CD (GK 1)):MO E K CD (GK 1) 9 (dY K CD C):=by
 refine sX ["self","line","words","values"] h (λvs H Q h=>by let(rfl,_):=h;rfl) λH nd vt hr T=>?_;let(rfl,hd,hl,es,ev,h):=T;refine⟨_,ak (pS 2 (S8 hY hX zW J5 (mw (dN (pU 1))) (sw (xr 'k'))))
  (ak (pS 3 (pC l (aj (pU 2) aq)))
  (ak (bQ (eF gU (aR dw (pU 2) aH) aX) (ak (IK (pU 0) (Wz M o (hr.mono ⋯) gx hC y (aj (aR dw (pU 3) aH) (aj (aR dw (pU 3) aH) aq))) rfl) (aM (bD aX))) bA)
  (ak (bQ (uW (Ik (dB (pU 0) rfl))) (aM lF) bA)
  (aM (bD (pC k (aj (dB (pU 0) rfl) (aj (aR dw (pU 2) aH) (aj (pU 3) aq))))))))),?_⟩
 w_left;refine VM.Kf (qg.at (m:=4) (L:=[(1,.str line)]) (.c rfl ⟨rfl,hl⟩ .n) rfl) es λa xs H1 s1 hn U Y=>?_;have ex:=wZ Y;subst ex
 w_left;delta gZ cC jH cg cV;refine aG rfl ⟨H1,[.list<|(wd::r).map .str],Same.refl _,⟨_,_,rfl,⟨a,_,rfl,aQ.of U,Y⟩,rfl⟩,_,_,ev,λv F' H2 g hr=>?_⟩;let(b,x,vl,G,rfl,f1,_,J,w):=hr;cases G;have s2:=s1.trans g.hh;have A:=aJ.same g.fh w;have D:=aQ.of (K:=K)<|g.hh _ _ U
 w_left;refine zX (K:=K) (λR r=>bI rfl D (kj _ _) r) (λR r=>r) ?_;cases h with
 |hall n1 n2 Tp q=>
  rw[az rfl,ah rfl];let(_,_,G,⟨rfl,_⟩,_,_,d,⟨rfl,_⟩,f):=A;subst f d G;have J:=aQ.of (K:=K) J;delta iC ac5;refine Ye (λZ z=>?_) n1 n2 Tp λp dx' nn ll t hall j O N=>?_
  .exact bI rfl J rfl<|bI rfl J rfl<|z _<|Same.refl _
  refine aG rfl ⟨_,CD,_,_,rfl,j _ _<|s2 _ _ hd,c,n,show 1<1000 by decide,?_⟩;have q:=q p dx' nn ll t hall (s2.trans j) (s2.free O)<|s2.free N;calc q
 |ask nn e hp h=>
  rw[nn,ap<|by simp];delta jF
  w_left;delta cR tB Br;refine dH rfl (s2 _ _ hd) c n rfl ⟨_,rfl,?_⟩;subst e;rw[ap<|by simp];delta jF
  (subst hu;try k_ne)
  delta tO jH cg cV;calc dH rfl (s2 _ _ hd) c n rfl<|bI rfl D (kj _ _)<|aG rfl ⟨rfl,s2 _ _ hp,J,h _ _ s2 A⟩
end
open StrLaws
structure gQ (z:Str):Prop where
 ne:z≠""
 fr:Not (32∈⇑z)
 ln:(!z)<=500
 ok:cG z=true
def iY.ni (h:iY n):gQ ↥n:=⟨λe=>h.ne (by rw[e];rfl),λz=>absurd (h.ds 32 z).1<|by decide,h.len,h.ok⟩
def aan:⇑(" ":Str)=32::[]:='k'
def Ym:Builtin.Str.strKind " "=1:='k'
def KJ:cG " "=true:='k'
def tK {K:Frag}(L:jg l lV=#[.tuple<|k.map .str])(D:∀w∈l::B,gQ w)(N:(!B)<=10)(E:xg k B ds)(J:gY H G x I M)(h:Rh K G C x I M H Q l ds):dY K G C [.ref x,.str<|Str.join " " (l::B)] H Q:=by
 have f:∀w∈l::B,cG w=true:=λw A=>(D w A).ok;have Y:(!(Str.join " " (l::B)))<=9000:=by
  have:=join_le (s:=" ") λw A=>(D w A).ln;have e:(!(" ":Str))=1:='k'
  rw[e,a8] at this;lk
 calc .mk rfl J (jV KJ f) (yU aan Ym 's' (λw A=>(D w A).fr) f Y (by rw[a8];lk)) (aeT L (λw A=>(D w A).ne) ∅ E) h
def bf.args:bf->¬Str
 |.lay nm a b w l=>[nm,a,b,↥w,↥l]
 |.shut nm=>[nm]
 |.widen nm k=>[nm,↥k]
 |.narrow nm k=>[nm,↥k]
def dZ (n:Int):Prop:=0<=n/\n<10^60
def dZ.z (h:dZ n):iY n:=KC h.1<|oo h.2<|'k'
def bf.fits:bf->Prop
 |.lay nm a b w l=>gQ nm/\gQ a/\gQ b/\dZ w/\dZ l
 |.shut nm=>gQ nm
 |.widen nm k=>gQ nm/\dZ k
 |.narrow nm k=>gQ nm/\dZ k
def Ri (h:dZ n):dj [.str "number",.str<|↥n]=#[(false,.int n)]:=xO h.z h.1 h.2 'k'<|.inl<|'k'
def Fz (h:dZ n):dj [.str "turns",.str<|↥n]=#[(false,.int n)]:=xO h.z h.1 h.2 'k'<|.inr (0,by rfl,h.1)
def aeX (h:dZ n)(h1:1<=n):dj [.str "people",.str<|↥n]=#[(false,.int n)]:=xO h.z h.1 h.2 'k'<|.inr (1,by rfl,h1)
def su:gQ "lay"/\gQ "shut"/\gQ "widen"/\gQ "narrow"/\gQ "hall":=by refine((?_,?_,?_,?_),(?_,?_,?_,?_),(?_,?_,?_,?_),(?_,?_,?_,?_),(?_,?_,?_,?_))<;>decide +kernel
def Aw:gQ "out"/\gQ "walks"/\gQ "moments"/\gQ "turns"/\gQ "worth"/\gQ "rooms"/\gQ "passages":=by refine((?_,?_,?_,?_),(?_,?_,?_,?_),(?_,?_,?_,?_),(?_,?_,?_,?_),(?_,?_,?_,?_),(?_,?_,?_,?_),(?_,?_,?_,?_))<;>decide +kernel
def bf.aj0 {d:bf}(h:d.fits):∀w∈d.word::d.args,gQ w:=by
 have(C,D,j,A,_):=su;cases d with
 |lay nm a b w l=>have(b1,b2,H,B,E):=h;erw[bf.word,bf.args,c5];calc(C,b1,b2,H,B.z.ni,E.z.ni,by simp)
 |shut nm=>erw[bf.word,bf.args,c5];calc(D,h,by simp)
 |widen nm k=>erw[bf.word,bf.args,c5];calc(j,h.1,h.2.z.ni,by simp)
 |narrow nm k=>erw[bf.word,bf.args,c5];calc(A,h.1,h.2.z.ni,by simp)
def GP {d:bf}(h:d.fits):mz [d.dat]=#[(false,.str<|Str.join " " (d.word::d.args))]:=by
 have A:=bf.aj0 h;cases d with
 |lay nm a b w l=>
  have(b1,b2,H,B,E):=h;calc KD (.str su.1.ok<|.str b1.ok<|.str b2.ok<|.str H.ok<|.int B.z<|.int E.z .nil) 's' (λw C=>(A w C).ln) (by simp[bf.args])
 |shut nm=>calc KD (.str su.2.1.ok<|.str h.ok .nil) 's' (λw C=>(A w C).ln) (by simp[bf.args])
 |widen nm k=>calc KD (.str su.2.2.1.ok<|.str h.1.ok<|.int h.2.z .nil) 's' (λw C=>(A w C).ln) (by simp[bf.args])
 |narrow nm k=>calc KD (.str su.2.2.2.1.ok<|.str h.1.ok<|.int h.2.z .nil) 's' (λw C=>(A w C).ln) (by simp[bf.args])
def aeY {K:Frag}{d:bf}(h:d.fits)(D:gY H O x z (.ref p))(I:H p=#[.ins C j [("numbers",.ref f),("laid",.ref c)]])(q:∀E,Same H E->d.sp C p E (λ_ T=>Q (.str "ok") T)):dY K O C [.ref x,.str<|Str.join " " (d.word::d.args)] H Q:=by
 have J:=bf.aj0 h;cases d with
 |lay nm a b w l=>
  have(b1,b2,y,U,Y):=h;refine tK (by rfl) J (by simp[bf.args]) (.cons gK<|.cons gK<|.cons gK<|.cons (Ri U)<|.cons (Ri Y) .nil) D (.ask (show decide (("lay":Str)="hall")=false by decide +kernel) rfl I λE N s M=>?_);let(_,_,B,(A,_),_,_,G,(m,_),_,_,g,(t,_),_,_,o,u,_,_,r,v,L):=M;subst L r o g G B;cases A;cases m;cases t;cases u;cases v;calc .deed (.lay nm a b w l) rfl<|q E s
 |shut nm=>
  refine tK (by rfl) J (by simp[bf.args]) (.cons gK .nil) D (.ask (show decide (("shut":Str)="hall")=false by decide +kernel) rfl I λE N s M=>?_);let(_,_,B,(A,_),L):=M;subst L B;cases A;calc .deed (.shut nm) rfl<|q E s
 |widen nm k=>
  refine tK (by rfl) J (by simp[bf.args]) (.cons gK<|.cons (Ri h.2) .nil) D (.ask (show decide (("widen":Str)="hall")=false by decide +kernel) rfl I λE N s M=>?_);let(_,_,B,(A,_),_,_,G,m,L):=M;subst L G B;cases A;cases m;calc .deed (.widen nm k) rfl<|q E s
 |narrow nm k=>refine tK (by rfl) J (by simp[bf.args]) (.cons gK<|.cons (Ri h.2) .nil) D (.ask (show decide (("narrow":Str)="hall")=false by decide +kernel) rfl I λE N s M=>?_);let(_,_,B,(A,_),_,_,G,m,L):=M;subst L G B;cases A;cases m;calc .deed (.narrow nm k) rfl<|q E s
section
variable {K:Frag}
def FJ (D:jg l lV=#[.tuple [.str d]])(h1:gQ l)(I:decide (l="hall")=false)(N:iY n)(M:dj [.str d,.str<|↥n]=#[(false,.int n)])(G:gY H A x U (.ref p))(J:H p=#[.ins C T [("numbers",.ref j),("laid",.ref Y)]])(q:∀E,Same H E->nO K C p E Q l [.int n]):dY K A C [.ref x,.str<|l++" "++↥n] H Q:=by refine tK D (by erw[c5];calc(h1,N.ni,by simp)) 's' (.cons M .nil) G (.ask I rfl J λE k s M=>?_);let(_,_,B,O,L):=M;subst L B;cases O;calc q E s
def Vm (B:jg l lV=#[.tuple []])(h1:gQ l)(D:decide (l="hall")=false)(G:gY H A x J (.ref p))(I:H p=#[.ins C T [("numbers",.ref N),("laid",.ref L)]])(q:∀E,Same H E->nO K C p E Q l []):dY K A C [.ref x,.str l] H Q:=by refine tK B ‹h1› 's' .nil G (.ask D rfl I λE O s M=>?_);cases M;calc q E s
def acv {nm:Str}(h1:gQ nm)(A:dZ n)(I:gY H B x O (.ref p))(J:H p=#[.ins C T [("numbers",.ref Y),("laid",.ref U)]])(q:∀E,Same H E->nO K C p E Q "worth" [.str nm,.int n]):dY K B C [.ref x,.str<|"worth"++" "++(nm++" "++↥n)] H Q:=by refine tK (by rfl) (by erw[c5];calc(Aw.2.2.2.2.1,h1,A.z.ni,by simp)) 's' (.cons gK<|.cons (Fz A) .nil) I (.ask 'k' rfl J λE j s M=>?_);let(_,_,D,(N,_),_,_,G,m,L):=M;subst L G D;cases N;cases m;calc q E s
def aeZ (h1:gQ a)(h2:gQ b)(J:fW a)(Y:fW b)(r:a≠b)(I:gY H A x B M)(q:∀p T G D E,aU E C p T G D [(a,0),(b,1)] []->Same H E->H G=none->H D=none->Q (.str "ok") (upd E x<|.ins A B [("hall",.ref p)])):dY K A C [.ref x,.str<|"hall"++" "++(a++" "++b)] H Q:=
 tK (by rfl) (by erw[c5];calc(su.2.2.2.2,h1,h2,by simp)) 's' (.cons gK<|.cons gK .nil) I (.hall J Y r q)
end
def KN (r:Row):():=.tuple [.str r.1,.str r.2.1,.str r.2.2.1,.int r.2.2.2.1,.int r.2.2.2.2]
def KQ (r:Row):¬Str:=[r.1,r.2.1,r.2.2.1,↥r.2.2.2.1,↥r.2.2.2.2]
def lM (r:Row):Str:=Str.join " " (KQ r)
structure RowW (r:Row):Prop where
 n:gQ r.1
 a:gQ r.2.1
 b:gQ r.2.2.1
 w:iY r.2.2.2.1
 l:iY r.2.2.2.2
 ln:(!r.1)<=12
 la:(!r.2.1)<=12
 lb:(!r.2.2.1)<=12
def RowW.all (h:RowW r):∀z∈KQ r,gQ z:=by erw[KQ,c5];calc(h.n,h.a,h.b,h.w.ni,h.l.ni,by simp)
theorem RowW.ok (h:RowW r):cG (lM r)=true:=jV KJ λz C=>(h.all z C).ok
def nq:(!(" ":Str))=1:='k'
def aoi:(!(Str.join s [a,b,c,d,e]))=(!a)+(!s)+((!b)+(!s)+((!c)+(!s)+((!d)+(!s)+!e))):=by erw[Str.join,bS]
theorem RowW.len (h:RowW r):(!(lM r))<=1040:=by have e:(!(lM r))=_:=aoi;have:=h.ln;have:=h.la;have:=h.lb;have:=h.w.len;have:=h.l.len;rw[nq] at e;lk
def KR (h:(!z)<=9000):wg (.str z)=#[z]:=ah h
def Vn (h:iY n):wg (.int n)=#[↥n]:=ah h.lg
def lX (h:wg d=#[z])(h2:ou r=#[y]):ou (d::r)=#[z++y]:=by unfold ou;rw[h,h2];rfl
def KY:wg (.str " ")=#[" "]:=KR (by rw[nq];decide)
def gQ.fmt (h:gQ z):wg (.str z)=#[z]:=KR<|ck h.ln<|by decide
def alA:a++(s++(b++(s++(c++(s++(d++(s++(e++Str.empty))))))))=Str.join s [a,b,c,d,e]:=by erw[Str.join,fy,iA]
def ahE (h:RowW r):ou [.str r.1,.str " ",.str r.2.1,.str " ",.str r.2.2.1,.str " ",.int r.2.2.2.1,.str " ",.int r.2.2.2.2]=#[lM r]:=
 (lX h.n.fmt<|lX KY<|lX h.a.fmt<|lX KY<|lX h.b.fmt<|lX KY<|lX (Vn h.w)<|lX KY<|lX (Vn h.l) rfl).trans (b9 some alA)
def qz:(!("; ":Str))=2:='k'
def FN:cG "; "=true:='k'
def Ie (A:ws≠[])(h:∀w∈ws,(!w)≠0):(!(Str.join s ws))≠0:=by
 cases ws with
 |nil=>calc absurd rfl A
 |cons w r=>
  have h1:=h w aa;cases r with
  |nil=>calc h1
  |cons v r=>show (!((w++s)++_))≠0;rw[bS,bS];lk
def gQ.pos (h:gQ z):(!z)≠0:=λe=>h.ne (nh (by
 have:z.cps.size=0:=e
 rw[Array.size_eq_zero_iff.mp this];decide +kernel))
theorem RowW.pos (h:RowW r):(!(lM r))≠0:=Ie (by simp[KQ]) λz C=>(h.all z C).pos
def Wd (h:∀r∈A,RowW r)(N:(!A)<=8):jU [.list<|A.map KN]=#[(false,.str<|if A=[] then "none" else Str.join "; " (A.map lM))]:=by
 have D:nR (gT 5<|gC (gN 0)<|gC (gN 1)<|gC (gN 2)<|gC (gN 3)<|gC (gN 4) g0) c7 (uc<|aC (vN 0)<|aC (vC<|.str " ")<|aC (vN 1)<|aC (vC<|.str " ")<|aC (vN 2)<|aC (vC<|.str " ")<|aC (vN 3)<|aC (vC<|.str " ")<|aC (vN 4) a0) [none,none,none,none,none] (A.map KN)=#[(A.map lM).map .str]:=by
  clear N;induction A with
  |nil=>rfl
  |cons r v J=>
   have hr:=h r aa;have I:uc (aC (vN 0)<|aC (vC<|.str " ")<|aC (vN 1)<|aC (vC<|.str " ")<|aC (vN 2)<|aC (vC<|.str " ")<|aC (vN 3)<|aC (vC<|.str " ")<|aC (vN 4) a0) [#[(.fr,.str r.1)],#[(.fr,.str r.2.1)],#[(.fr,.str r.2.2.1)],#[(.fr,.int r.2.2.2.1)],#[(.fr,.int r.2.2.2.2)]]=#[.str<|lM r]:=by show(match ou [.str r.1,.str " ",.str r.2.1,.str " ",.str r.2.2.1,.str " ",.int r.2.2.2.1,.str " ",.int r.2.2.2.2] with|some z=>if cG z=true then #[PyData.str z] else none|none=>none)=_;rw[ahE hr];exact ah hr.ok
   show(match uc _ [#[(.fr,.str r.1)],#[(.fr,.str r.2.1)],#[(.fr,.str r.2.2.1)],#[(.fr,.int r.2.2.2.1)],#[(.fr,.int r.2.2.2.2)]] with|none=>none|some e=>match nR _ _ _ _ (v.map KN) with|none=>none|some G=>#[e::G])=_;rw[I,J λy n=>h y<|ae _ n];rfl
 delta jU w6;z_go;rw[mJ rfl (by rw[ac];calc aY ∅),show iV [none,none,none,none,none] _=[none,none,none,none,none] from rfl,D];z_go;have H:(!(Str.join "; " (A.map lM)))<=9000:=by have:=join_le (s:="; ") (B:=1040) (λz C=>by let(r,hr,e):=a6.mp C;calc e▸(h r hr).len);rw[ac,qz] at this;lk
 have E:HX (v2 jx (vC<|.str "; ")<|vN 1) (vC<|.str "none") [#[(.fr,.list<|A.map KN)],#[(.fr,.list<|(A.map lM).map .str)]]=#[.str<|if A=[] then "none" else Str.join "; " (A.map lM)]:=by
  show(match jx (.str "; ") (.list<|(A.map lM).map .str) with|some (.str z)=>if (!z)<=9000 then if (!z)=0 then #[PyData.str "none"] else #[.str z] else none|_=>none)=_;rw[(yS FN (λz C=>by let(r,hr,e):=a6.mp C;calc e▸(h r hr).ok) (λz C=>by let(r,hr,e):=a6.mp C;calc e▸(h r hr).len) (by rw[ac,qz];lk))];show(if _ then if _ then _ else _ else _)=_;rw[ah H];by_cases c:A=[]
  .subst c;rfl
  .rw[ap c,ap (Ie ‹c› λz C=>by let(r,hr,e):=a6.mp C;calc e▸(h r hr).pos)]
 rw[E];z_go
def nP (n:Int):Prop:=0<=n/\n<10^70
def nP.z (h:nP n):iY n:=KC h.1<|oo h.2<|'k'
def dM (x:Wk):Str:=↥x.2++" by "++Str.join " " x.1
structure jz (x:Wk):Prop where
 ns:∀z∈x.1,gQ z/\(!z)<=12
 ne:x.1≠[]
 l8:(!x.1)<=8
 n:nP x.2
def Vo:(!(" by ":Str))=4:='k'
def agi:cG " by "=true:='k'
def jz.jok (h:jz x):cG (Str.join " " x.1)=true:=jV KJ λz C=>(h.ns z C).1.ok
def jz.ae0 (h:jz x):(!(Str.join " " x.1))<=104:=by have:=join_le (s:=" ") λz C=>(h.ns z C).2;rw[nq] at this;have:=h.l8;lk
theorem jz.ok (h:jz x):cG (dM x)=true:=o7 (o7 h.n.z.ok agi) h.jok
def nP.len (h:nP n):(!↥n)<=70:=toString_length_le h.1 ⋯ h.2
theorem jz.len (h:jz x):(!(dM x))<=178:=by have e:(!(dM x))=_:=bS ..;rw[bS,Vo] at e;have:=h.ae0;have:=h.n.len;lk
def jz.pos (h:jz x):(!(dM x))≠0:=by have e:(!(dM x))=_:=bS ..;rw[bS,Vo] at e;lk
theorem jz.join (h:jz x):jx (.str " ") (.list<|x.1.map .str)=#[.str<|Str.join " " x.1]:=yS KJ (λz C=>(h.ns z C).1.ok) (λz C=>(h.ns z C).2) (by rw[nq];have:=h.l8;lk)
def jz.fmt (h:jz x):ou [.int x.2,.str " by ",.str<|Str.join " " x.1]=#[dM x]:=
 (lX (Vn h.n.z)<|lX (KR (by rw[Vo];decide)) (lX (KR<|ck h.ae0<|by decide) rfl)).trans (b9 some (by rw[iA,←fy];rfl))
theorem Pa:∀{ws:¬Wk}{acc:¬Str} {a b c:↑()},(∀x∈ws,jz x)->(!acc)+(!ws)<=1000->∃E N C,cT (gT 2<|gC (gN 2)<|gC (gN 3) g0) (aN (bZ (v2 jx (vC<|.str " ")<|vN 2)<|gN 4)<|d8 1<|aC (uc<|aC (vN 3)<|aC (vC<|.str " by ")<|aC (vN 4) a0) a0) (ws.map kh) [x0,#[(.ow,.list<|acc.map .str)],ob a,ob b,ob c]=.nxt [x0,#[(.ow,.list<|(acc++ws.map dM).map .str)],ob E,ob N,ob C]
 |[],acc,a,b,c,_,_=>(a,b,c,by show _=Out.nxt [x0,#[(.ow,.list<|(acc++[]).map .str)],_,_,_];rw[eP];rfl)
 |x::ws,acc,a,b,c,h,B=>by
  have A:=h x aa;let(E,N,C,e):=Pa (x0:=x0) (ws:=ws) (acc:=acc++[dM x]) (a:=#[.list<|x.1.map .str]) (b:=#[.int x.2]) (c:=#[.str<|Str.join " " x.1]) (λy n=>h y<|ae _ n) (by simp at B ⊢;lk);refine(E,N,C,(Fy (S1:=[x0,#[(.ow,.list<|acc.map .str)],#[(.fr,.list<|x.1.map .str)],#[(.fr,.int x.2)],ob c]) (S2:=[x0,#[(.ow,.list<|(acc++[dM x]).map .str)],#[(.fr,.list<|x.1.map .str)],#[(.fr,.int x.2)],#[(.fr,.str<|Str.join " " x.1)]]) ?_ ?_).trans (by rw[<-lI] at e;calc e))
  .delta kh;z_go
  .have D:uc (aC (vN 3)<|aC (vC<|.str " by ")<|aC (vN 4) a0) [x0,#[(.ow,.list<|acc.map .str)],#[(.fr,.list<|x.1.map .str)],#[(.fr,.int x.2)],#[(.fr,.str<|Str.join " " x.1)]]=#[.str<|dM x]:=by show(match ou [.int x.2,.str " by ",.str<|Str.join " " x.1] with|some z=>if cG z=true then #[PyData.str z] else none|none=>none)=_;rw[A.fmt];exact ah A.ok
   z_go;rw[A.join];z_go;rw[D];z_go;rw[ah (by rw[ac];calc aY (by simp at B;lk)),bP];rfl
def Vp (h:∀x∈ws,jz x)(M:(!ws)<=50):m9 [.list<|ws.map kh]=#[(false,.str<|if ws=[] then "none" else Str.join "; " (j6<|ws.map dM))]:=by
 let(E,N,G,e):=Pa (acc:=[]) (a:=none) (b:=none) (c:=none) h (by simp;lk);have D:∀z∈j6 (ws.map dM),∃x,jz x/\dM x=z:=λz C=>by let(x,A,e):=a6.mp<|(v9 _).mem_iff.mp C;exact(x,h x A,e)
 have B:(!(j6<|ws.map dM))=!ws:=by rw[(v9 _).length_eq,ac]
 have H:∀z∈j6 (ws.map dM),(!z)<=178:=λz C=>by let(x,A,e):=D z C;exact e▸A.len
 have A:(!(Str.join "; " (j6<|ws.map dM)))<=9000:=by have:=join_le (s:="; ") H;rw[B,qz] at this;lk
 delta m9 DK;z_go;rw[show cT (gT 2<|gC (gN 2)<|gC (gN 3) g0) (aN (bZ (v2 jx (vC<|.str " ")<|vN 2)<|gN 4)<|d8 1<|aC (uc<|aC (vN 3)<|aC (vC<|.str " by ")<|aC (vN 4) a0) a0) (ws.map kh) [#[(.fr,.list<|ws.map kh)],#[(.ow,.list [])],none,none,none]=_ from e];z_go;have J:HX (v2 jx (vC<|.str "; ")<|Fx<|vN 1) (vC<|.str "none") [#[(.fr,.list<|ws.map kh)],#[(.ow,.list<|(ws.map dM).map .str)],ob E,ob N,ob G]=#[.str<|if ws=[] then "none" else Str.join "; " (j6<|ws.map dM)]:=by
  have L:Fx (vN 1) [#[(.fr,.list<|ws.map kh)],#[(.ow,.list<|(ws.map dM).map .str)],ob E,ob N,ob G]=#[.list<|(j6<|ws.map dM).map .str]:=by show(match sW ((ws.map dM).map .str) with|some I=>if (!I)<64 then #[PyData.list<|(j6 I).map .str] else none|none=>none)=_;rw[pZ];exact ah (by rw[ac];lk)
  delta HX;rw[zK,show vC (.str "; ") _=#[PyData.str "; "] from rfl,Hs,L];show(match jx (.str "; ") (.list<|(j6<|ws.map dM).map .str) with|some (.str z)=>if (!z)<=9000 then if (!z)=0 then #[PyData.str "none"] else #[.str z] else none|_=>none)=_;rw[(yS FN (λz C=>by let(x,A,e):=D z C;calc e▸A.ok) H (by rw[B,qz];lk))];show(if _ then if _ then _ else _ else _)=_;rw[ah A];by_cases c:ws=[]
  .rw[ah c,ah (by rw[eL.mp<|B.trans (by rw[c];rfl)];rfl)]
  .rw[ap c,ap (Ie (λz=>c<|eL.mp (by rw[<-B,z];rfl)) λz C=>by let(x,A,e):=D z C;calc e▸A.pos)]
 rw[J];z_go
structure ud (x:Str×Int):Prop where
 r:gQ x.1
 c:Not (58∈⇑x.1)/\Not (59∈⇑x.1)
 l:(!x.1)<=12
 n:nP x.2
def aj2:(!(": ":Str))=2:='k'
def agj:cG ": "=true:='k'
def agk:⇑(": ":Str)=58::[32]:='k'
def aao:⇑("; ":Str)=59::[32]:='k'
def Nb:Builtin.Str.strKind "; "=1:='k'
def FP:jh x=x.1++": "++↥x.2:=by show x.1++(": "++(↥x.2++Str.empty))=_;rw[iA,fy]
theorem ud.ok (h:ud x):cG (jh x)=true:=by rw[FP];calc o7 (o7 h.r.ok agj) h.n.z.ok
theorem ud.len (h:ud x):(!(jh x))<=84:=by rw[FP,bS,bS,aj2];have:=h.l;have:=h.n.len;lk
def Ig (h:iY n)(O:c<48\/57<c):Not (c∈⇑↥n):=λz=>by have:=h.ds c z;lk
def ud.sc (h:ud x):Not (59∈⇑(jh x)):=λz=>by
 rw[FP,dP,eD,dP,eD,agk] at z;rcases aT.mp z with z|z
 .rcases aT.mp z with z|z
  .exact h.c.2 z
  .exact absurd z<|by decide
 .calc Ig h.n.z (.inr<|by decide) z
def ud.part (h:ud x):qy w5 (.str<|jh x) (.str ": ")=#[.tuple [.str x.1,.str ": ",.str<|↥x.2]]:=by have:=h.len;rw[FP] at this ⊢;calc acp agk h.c.1 h.r.ok agj h.n.z.ok ∅
theorem Pb:∀{rs:¬(Str×Int)}{acc:¬()} {a b c d:↑()},(∀x∈rs,ud x)->(!acc)+(!rs)<=1000->∃E N C d',cT (gN 4) (aN (bZ (v2 (qy w5) (vN 4)<|vC<|.str ": ")<|gT 3<|gC (gN 5)<|gC (gN 6)<|gC (gN 7) g0)<|aN (bZ (bF eZ<|aC (vF 7) a0)<|gN 7)<|aN (dz (vB<|v2 isD (vN 7)<|vC .none) (cJ<|vC .none) cI)<|d8 3<|aC (fP<|aC (vF 5)<|aC (vF 7) a0) a0) ((rs.map jh).map .str) [x0,x1,x2,#[(.ow,.list acc)],ob a,ob b,ob c,ob d]=.nxt [x0,x1,x2,#[(.ow,.list<|acc++rs.map je)],ob E,ob N,ob C,ob d']
 |[],acc,a,b,c,d,_,_=>(a,b,c,d,by show _=Out.nxt [x0,x1,x2,#[(.ow,.list<|acc++[])],_,_,_,_];rw[eP];rfl)
 |x::rs,acc,a,b,c,d,h,A=>by
  have B:=h x aa;let(E,N,C,d',e):=Pb (x0:=x0) (x1:=x1) (x2:=x2) (rs:=rs) (acc:=acc++[je x]) (a:=#[.str<|jh x]) (b:=#[.str x.1]) (c:=#[.str ": "]) (d:=#[.int x.2]) (λy n=>h y<|ae _ n) (by simp at A ⊢;lk);refine(E,N,C,d',(Fy (S1:=[x0,x1,x2,#[(.ow,.list acc)],#[(.fr,.str<|jh x)],ob b,ob c,ob d]) (S2:=[x0,x1,x2,#[(.ow,.list<|acc++[je x])],#[(.fr,.str<|jh x)],#[(.fr,.str x.1)],#[(.fr,.str ": ")],#[(.fr,.int x.2)]]) ?_ ?_).trans (by rw[<-lI] at e;calc e))
  .z_go
  .z_go;rw[B.part];z_go;rw[GJ B.n.z];z_go;rw[ah<|aY (by simp at A;lk)];rfl
def Vq (h:∀x∈rs,ud x)(r:rs≠[])(J:(!rs)<=100)(E:jo [.list<|rs.map je,B,.int T]=#[(false,.bool true)]):kE [.str<|Str.join "; " (rs.map jh),B,.int T]=#[(true,.list<|rs.map je)]:=by
 have D:∀z∈rs.map jh,(!z)<=84:=λz C=>by let(x,A,e):=a6.mp C;exact e▸(h x A).len
 have A:(!(Str.join "; " (rs.map jh)))<=9000:=by have:=join_le (s:="; ") D;rw[ac,qz] at this;lk
 let(G,N,H,I,e):=Pb (acc:=[]) (a:=none) (b:=none) (c:=none) (d:=none) h (by simp;lk);delta kE um;z_go;rw[(yU aao Nb ‹r› (λz C=>by let(x,A,e):=a6.mp C;calc e▸(h x A).sc) (λz C=>by let(x,A,e):=a6.mp C;calc e▸(h x A).ok) A (by rw[ac];lk))];z_go;rw[show cT (gN 4) (aN (bZ (v2 (qy w5) (vN 4)<|vC<|.str ": ")<|gT 3<|gC (gN 5)<|gC (gN 6)<|gC (gN 7) g0)<|aN (bZ (bF eZ<|aC (vF 7) a0)<|gN 7)<|aN (dz (vB<|v2 isD (vN 7)<|vC .none) (cJ<|vC .none) cI)<|d8 3<|aC (fP<|aC (vF 5)<|aC (vF 7) a0) a0) ((rs.map jh).map .str) [#[(.fr,.str<|Str.join "; " (rs.map jh))],#[(.fr,B)],#[(.fr,.int T)],#[(.ow,.list [])],none,none,none,none]=_ from e];z_go;rw[E];z_go
end cA
namespace cA
open PyProof.Rows L2 VM
def Nm (z:Str):Prop:=AZ z/\1<=!z/\(!z)<=12
def Nm.ok (h:Nm z):fW z:=Xl h.1 h.2.1 h.2.2
def Nm.free (h:Nm z)(O:c<97):Not (c∈⇑z):=λy=>by have:=h.1 c y;lk
def Nm.ni (h:Nm z):gQ z:=⟨λe=>by
 have:=h.2.1;rw[e] at this;calc absurd this 'k',h.free ⋯,ck h.2.2 ⋯,h.1.can⟩
def Nm.mom (h:Nm z)(C:nP n):ud (z,n):=⟨h.ni,⟨h.free<|by decide,h.free<|by decide⟩,h.2.2,C⟩
def ahF (n:Int)(Y:j<26):Nm (wordOf (baseOf n) (mZ n) j):=by
 have L:=Ac j<|wV n;have B:=TF<|iH abc (#[n % 26])<|#[n % 26+n/26 % 12];have A:(!(baseOf n))<=11:=B;have N:(!(wordOf (baseOf n) (mZ n) j))=(!(baseOf n))+1:=by rw[fY,L,aE,a8,cS,eK,←fY,hU<|wV n];have:=wV n;lk
 refine⟨λc O=>?_,by lk,by lk⟩;rw[L] at O;rcases aT.mp O with g|g
 .exact Fl n c<|df g
 .rcases aI.mp g with g|g
  .omega
  .calc Fl n c<|gs g
def Vr (n:Int)(B:many<=8):∀x∈wordsOf n many,Nm x:=λx A=>by let(j,Y,rfl):=a6.mp A;have:=gz.mp Y;calc ahF n ∅
def Vs (h:((⇑z).all λc=>decide (97<=c) && decide (c<=122)) && decide (1<=!z) && decide ((!z)<=12)):Nm z:=by rw[bc,bc,br,br,cp] at h;calc⟨λc O=>by have:=h.1.1 c O;rw[bc,br,br] at this;calc this,h.1.2,h.2⟩
def Rj:¬Str:=["by","out","none","never","hall","rooms","ok","walks"]
def Ax:¬Str:=["rooms","by","none","goal","start"]
def ae1:∀x∈Rj,Nm x:=by erw[Rj,c5];refine⟨?_,?_,?_,?_,?_,?_,?_,?_,by simp⟩<;>calc Vs 'k'
def ae2:∀x∈Ax,Nm x:=by erw[Ax,c5];refine⟨?_,?_,?_,?_,?_,by simp⟩<;>calc Vs 'k'
def Vt:Rj.Nodup/\Ax.Nodup:=by constructor<;>decide +kernel
structure gB (rooms names:¬Str)(bw:¬Row)(nums:¬(Str×Int))(ls:¬(Str×Q4))(s0 s1:Str):Prop where
 ok:Ok rooms names bw nums ls
 R:∀x∈rooms,Nm x
 N:∀x∈names,Nm x
 sn:∃more,seenOf nums=s0::s1::more
 rx:∀r∈bw,RX (100*bR) r
section
variable {K:Frag}
def gB.two (S:gB B names C nums x s0 s1):s0∈B/\s1∈B/\s0≠s1:=by let(A,e):=S.sn;have nd:=S.ok.nd;have sub:=S.ok.sub;rw[e] at nd sub;calc(sub _ aa,sub _<|ae _ aa,λz=>(bd.mp nd).1 (by rw[z];calc aa))
def Vu (m:2<=!B)(G:(!B)<=5)(A:B.Nodup)(u:(!names)=8)(L:s0∈B)(h1:s1∈B)(h2:s0≠s1):Ok B names [] [(s0,0),(s1,1)] []:=by
 refine((m,G,A,u,li,λr h=>(by cases h),λr h=>(by cases h)),λi x h=>?_,?_,?_,.nil)
 .match i,h with
  |0,h=>cases h;rfl
  |1,h=>cases h;rfl
 .simp[seenOf,h2]
 .intro y n;erw[seenOf,aS,fe,aI,hV,ip] at n;rcases n with rfl|rfl
  .exact L
  .calc h1
inductive uU (C:Addr)(vs:¬V)(H:Hp)(Q:VK):Prop
 |mk {bJ:¬PR} {nums:¬(Str×Int)} (e:vs=[.ref D,.ref sA]) (hd:Held H D bJ) (hs:H sA=#[.lst<|(seenOf nums).map V.str]) (S:gB rooms names (bJ.map (·.2)) nums ls s0 s1)
  (q:∀H' p dx nn ll iB lE,Same H H'->gB rooms names (bJ.map (·.2)) iB lE s0 s1->aU H' C p dx nn ll iB lE->Q (.ref p) H')
theorem ae3 (c:Cl K C)(M:Mk K C a)(v:jA E.P E.w K E.mg E.base 2 a g ["self","start","goal"] (Kd C))(w:Binds g ["self","start","goal"])(hC:E.mg "NamedHall"=#[.ref C])(d:MO E K C (bT 1) 2 (Kc C))(h:GF E K 71):CO E K 71 4 (uU C):=by
 refine Gk ["_law_held","_law_seen","_law_hall","_law_row"] h (λvs H Q h=>by let(rfl,_):=h;rfl) λH nd vt hr p=>?_;refine(_,(ak (pS 2 (Wz M v hr gx hC w (aj (aR dw (pU 1) aH) (aj (aR dw (pU 1) aH) aq))))
  (ak (jG (iM (pU 0)) (pG 3) (aM (cB (pM d (pU 2) (aj (aR dw (pU 3) aH) (aj (aR dw (pU 3) aH) (aj (aR dw (pU 3) aH) (aj (aR dw (pU 3) aH) (aj (aR dw (pU 3) aH) aq)))))))))
  (aM (bD (pU 2))))),?_)
 let(rfl,hd,hs,S,hq):=p;have(h0,h1,h2):=S.two;refine bO λN l=>?_;refine Ye (λZ z=>?_) (S.R _ h0).ok (S.R _ h1).ok h2 λx dx nn ll H1 hall k hn hl=>l _ _ ?_
 .let(more,e):=S.sn;rw[e] at hs;exact bI rfl (aQ.of hs) (kj _ _)<|bI rfl (aQ.of hs) (uy _ _ _)<|z _<|Same.refl _
 refine bO λN l=>?_;have U:=hd.grow k;refine forM (ws:=bJ) (λx=>V.ref x.1) (λ_ y=>[#[.ref D],#[.ref sA],#[.ref x],y]) (λi H'=>fD nn ll H1 H'/\∃iB lE more,Ok rooms names ((bJ.map (·.2)).take i) iB lE/\seenOf iB=s0::s1::more/\aU H' C x dx nn ll iB lE) none rfl rfl (fD.same<|Same.refl _,_,_,[],Vu S.ok.dr.r2 S.ok.dr.r5 S.ok.dr.rn S.ok.dr.n8 h0 h1 h2,rfl,hall) (λi H' h=>aQ.of (qW hall h.1 U.top)) (λi y _ H' hi h=>?_) λy H' h=>?_
 .let(iB,lE,more,L,J,A):=h.2;have j:=ag hi;have B:=aQ.of (K:=K)<|qW hall h.1<|U.row _ j;have G:y.2∈bJ.map (·.2):=a6.mpr (_,j,rfl);have Y:(bJ.map (·.2))[i]? =#[y.2]:=by rw[ai,hi];rfl
  let(r,O):=y;have(b1,b2,f,b4):=S.rx O G;have⟨n,s⟩:=S.ok.U7 G;have w1:=S.ok.dr.wd O G;have hD:lA (O.2.2.2.1+O.2.2.2.2) rooms names ((bJ.map (·.2)).take i) (.lay O.1 O.2.1 O.2.2.1 O.2.2.2.1 O.2.2.2.2):=by refine(S.ok.dr.sub O G,?_,n,s,b1,w1,f,by lk,by lk);rw[map_take];exact aeN S.ok.dr.nn (by rw[ai,Y];rfl)
  let(T,t,ok3,m,hk):=step L (λx q=>(S.R x q).ok) (λx q=>(S.N x q).ok) hD A;show gk _ _ [#[.ref D],#[.ref sA],#[.ref x],#[.ref r]] H';refine jT rfl A.ins rfl ?_;refine bI rfl B rfl<|bI rfl B rfl<|bI rfl B rfl<|bI rfl B rfl<|bI rfl B rfl ?_;refine of_lay<|hk _ λH5 I u=>(⟨_,rfl⟩,h.1.trans u,T,t,more++newOf iB [O.2.1,O.2.2.1],?_,?_,I)
  .rwa [f8,Y]
  .rw[m];show mY (seenOf iB) [O.2.1,O.2.2.1]=_;rw[Xp b1,J];rfl
 .let(iB,lE,more,L,J,A):=h.2;rw[bu (by rw[ac];calc av _)] at L;calc l _ _<|aG rfl<|hq H' x dx nn ll iB lE (λb o e=>h.1 _ _ (λz=>by rw[z,hn] at e;k_go) (λz=>by rw[z,hl] at e;k_go) (k _ _ e)) (L,S.R,S.N,⟨_,J⟩,S.rx) A
end
def uK (ns:¬Int):Nat:=(2+d9 (dg ns 0) 2 % 4).toNat
def nu (ns:¬Int):¬Str:=if d9 (dg ns 1) 3 % 4=0 then Ax.take (uK ns) else wordsOf (d9 (dg ns 0) 0) (uK ns)
def names7 (ns:¬Int):¬Str:=if d9 (dg ns 1) 3 % 4=0 then Rj else wordsOf (d9 (dg ns 1)<|d9 (dg ns 1) 2 % 2) 8
def Ay (ns:¬Int):2<=uK ns/\uK ns<=5:=by have m:=fK (d9 (dg ns 0) 2) (show(0:Int)<4 by decide);delta uK;lk
def acw (ns:¬Int):(!(names7 ns))=8/\(names7 ns).Nodup/\∀x∈names7 ns,Nm x:=by
 delta names7;split
 .exact(by rfl,Vt.1,ae1)
 .calc(Df _ _,TJ _ _,Vr _<|by decide)
def Ph (ns:¬Int):(!(nu ns))=uK ns/\(nu ns).Nodup/\∀x∈nu ns,Nm x:=by
 have m:=Ay ns;delta nu;split
 .exact(by rw[cS];calc hU m.2,Vt.2.sublist<|j2 ..,λx A=>ae2 x<|df A)
 .calc(Df _ _,TJ _ _,Vr _ ∅)
def ahG (ns:¬Int):rZ [.list<|ns.map .int]=#[(false,.tuple [cX<|nu ns,cX<|names7 ns])]:=by
 have m:=fK (d9 (dg ns 0) 2) (show(0:Int)<4 by decide);have Q:=fK (d9 (dg ns 1) 2) (show(0:Int)<2 by decide);have e:=Xn (c:=dg ns 0) (k:=0) ⋯ ⋯ (many:=(2+d9 (dg ns 0) 2 % 4).toNat) ∅;rw[show(((2+d9 (dg ns 0) 2 % 4).toNat))=2+d9 (dg ns 0) 2 % 4 by lk] at e;have G:=Xn (c:=dg ns 1) (k:=d9 (dg ns 1) 2 % 2) ∅ ∅ (many:=8) ⋯;rw[show((8:Nat):Int)=8 from rfl] at G;delta rZ GC;z_go;repeat (first|rw[Tz<|by decide]|rw[wU ⋯<|by decide]|erw[fV<|show(0:Int)<4 by decide,fV<|show(0:Int)<2 by decide]|rw[e]|rw[G]);z_go
 delta names7 nu;have L:VM.cutD (Ax.map .str) none (#[uK ns])=(Ax.take<|uK ns).map .str:=by delta VM.cutD;rw[HT.Rw,HT.WD,drop_zero,Nat.sub_zero,hU (by rw[ac];calc((Ay ns).2)),map_take]
 by_cases h:d9 (dg ns 1) 3 % 4=0
 .rw[az h,ah h,ah h];z_go;show bFn (Ln (bAs (#[.list<|VM.cutD (Ax.map .str) none<|#[(((!((wordsOf (d9 (dg ns 0) 0)<|uK ns).map PyData.str)):Nat):Int)]]) (gN 1) _) _)=_;rw[ac,Df,L];z_go;rfl
 .rw[a9 h,ap h,ap h];z_go;rfl
def aap:Int:=1e59
def ahH (c:Int):∃T,gF [.int c]=#[(false,.int T)]/\0<=T/\T<aap:=by
 have p:zE (.int 10) (.int 59)=#[.int aap]:=by rw[Ji ⋯ ⋯ ⋯<|by decide];rfl
 have m:=fK c (show(0:Int)<aap by decide);have Q:=fK (d9 c 4/4) (show(0:Int)<25 by decide);delta gF Dc;z_go;rw[wU ⋯<|by decide];kt_k;by_cases h:d9 c 4 % 4=0
 .erw[h,dL];z_go;rw[p];kt_k;exact(_,rfl,m.1,m.2)
 .kt_k;calc(_,rfl,Q.1,kz Q.2<|by decide)
def Vv (c:Int):∃T,gF [.int c]=#[(false,.int T)]/\dZ T/\dZ (T+1):=by
 obtain⟨T,e,L,h1⟩:=ahH c
 have:aap<10^60:='k'
 calc⟨T,e,⟨L,by lk⟩,by lk,by lk⟩
def DP (L:∀x∈B,Nm x)(C:∀x∈names,Nm x)(E:∀r∈A,r.1∈names)(H:∀r∈A,r.2.2.2.1<10^60)(Q:G<10^60)(h:lA G B names A d):d.fits:=by
 have D:∀{nm},nm∈A.map (·.1)->gQ nm:=λh=>by let(r,hr,e):=a6.mp h;exact(C _<|e▸E r hr).ni
 cases d with
 |lay nm a b w l=>have⟨h1,_,h2,J,_,M,I,N,O⟩:=h;calc⟨(C _ h1).ni,(L _ h2).ni,(L _ J).ni,⟨by lk,by lk⟩,by lk,by lk⟩
 |shut nm=>calc D h
 |widen nm k=>have⟨h1,h2,J⟩:=h;calc⟨D h1,by lk,by lk⟩
 |narrow nm k=>have⟨r,hr,e,h2,J⟩:=h;have:=H r hr;exact⟨e▸(C _<|E r hr).ni,by lk,by lk⟩
open StrLaws
def agl:⇑(" by ":Str)=32::[98,121,32]:='k'
def jz.part (h:jz x):qy w5 (.str<|dM x) (.str " by ")=#[.tuple [.str<|↥x.2,.str " by ",.str<|Str.join " " x.1]]:=acp agl (Ig h.n.z<|.inl<|by decide) h.n.z.ok agi h.jok<|ck h.len<|by decide
def jz.split (h:jz x):qy tH (.str<|Str.join " " x.1) (.str " ")=#[.list<|x.1.map .str]:=yU aan Ym h.ne (λz C=>(h.ns z C).1.fr) (λz C=>(h.ns z C).1.ok) (ck h.ae0<|by decide) (by have:=h.l8;lk)
def jz.sc (h:jz x)(h2:∀z∈x.1,Not (59∈⇑z)):Not (59∈⇑(dM x)):=λz=>by
 have z:59∈⇑(↥x.2++" by "++Str.join " " x.1):=z;rw[dP,eD,dP,eD,agl] at z;rcases aT.mp z with z|z
 .rcases aT.mp z with z|z
  .exact Ig h.n.z (.inr<|by decide) z
  .exact absurd z<|by decide
 .rcases mem_join z with z|⟨w,C,z⟩
  .rw[aan] at z;exact absurd z<|by decide
  .calc h2 w C z
def alB (h1:Nm r.1)(h2:Nm r.2.1)(J:Nm r.2.2.1)(M:nP r.2.2.2.1)(k:nP r.2.2.2.2):RowW r:=(h1.ni,h2.ni,J.ni,M.z,k.z,h1.2.2,h2.2.2,J.2.2)
def aoj (h:∀z∈x.1,Nm z)(r:x.1≠[])(O:(!x.1)<=8)(A:nP x.2):jz x/\∀z∈x.1,Not (59∈⇑z):=⟨(λz C=>⟨(h z C).ni,(h z C).2.2⟩,r,O,A),λz C=>(h z C).free<|by decide⟩
def Az:("out ":Str)++z="out"++" "++z/\("walks ":Str)++z="walks"++" "++z/\("moments ":Str)++z="moments"++" "++z/\("turns ":Str)++z="turns"++" "++z:=by
 have B:("out ":Str)="out"++" ":='k'
 have G:("walks ":Str)="walks"++" ":='k'
 have J:("moments ":Str)="moments"++" ":='k'
 have O:("turns ":Str)="turns"++" ":='k'
 calc(by rw[B],by rw[G],by rw[J],by rw[O])
def KZ:("worth ":Str)++a++" "++b="worth"++" "++(a++" "++b)/\("hall ":Str)++a++" "++b="hall"++" "++(a++" "++b):=by
 have B:("worth ":Str)="worth"++" ":='k'
 have G:("hall ":Str)="hall"++" ":='k'
 rw[B,G];erw[fy,and_self]
end cA
namespace cA
open PyProof.Rows L2 VM
section
variable {K:Frag}{ws:¬(¬Nat×Int)}
def gB.fit (S:gB B names A nums x s0 s1):cM (seenOf nums) x A (100*bR):=Dz S.ok λr hr=>((S.rx r hr).1,(S.rx r hr).2.1,(S.rx r hr).2.2.1)
theorem gB.len (S:gB B names A nums x s0 s1):(!x)<=8/\(!A)<=8/\2<=!nums/\(!nums)<=5/\(!(seenOf nums))=!nums:=by have h:=S.ok.len;have N:=S.fit.len;have⟨m,e⟩:=S.sn;calc(h.1,by lk,S.ok.two e,h.2,ac ..)
structure lD (nums:¬(Str×Int))(ls:¬(Str×Q4))(T W:Int)(ws:¬(¬Nat×Int))(dI:¬Int):Prop where
 O:LH.gn (!(seenOf nums)) (bU ls) 0 1 T W ws dI
 em:Pg.fJ [.int ((!nums):Int),.list<|ls.map vX,.int 0,.int 1,.int T]=#[(false,.tuple [.int W,.list<|ws.map LH.kh,.list<|dI.map .int])]
def dZ.n7 (h:dZ n):nP n:=⟨h.1,kz h.2<|'k'⟩
theorem gB.out (S:gB B names C nums x s0 s1)(h:nP T):∃W ws A,lD nums x T W ws A:=by have(h1,_,h2,J,M):=S.len;let(W,ws,A,O,em):=S.fit.out (T:=T) ⋯ ⟨by lk,by lk⟩ ∅ h.1 (kz h.2 ⋯);rw[M] at em;calc(W,ws,A,O,em)
theorem gB.can (S:gB B names A nums D s0 s1):∀x∈iz D,(PyData.str x).canLay0=true:=λx C=>by rw[show iz D=A.map (·.1) from m5 S.ok.lr] at C;let(r,hr,rfl):=a6.mp C;calc(S.N _<|S.ok.dr.sub r hr).1.can
def lD.sp (S:gB G names I nums B s0 s1)(o:lD nums B T W ws A)(N:aU H C p L Y U nums B)(q:∀v E,Same H E->Has K E (outD B nums W ws A) v->Q v E):uI K C [.ref p,.int T] H Q:=by have(h1,_,h2,j,M):=S.len;let(J,D):=ajL ∅ o.O;calc(p,L,Y,U,nums,B,T,W,ws,A,rfl,N,by lk,o.em,J,D,by rw[o.O.ml,M],S.can,λx O=>(S.R x<|S.ok.sub x O).1.can,q)
def lD.eq (S:gB B names A nums x s0 s1)(E:gB B names A D C s0 s1)(o:lD nums x T W ws M)(I:lD D C T G L J):W=G:=by have⟨m,e⟩:=S.sn;have⟨U,H⟩:=E.sn;calc aeM S.ok e E.ok H (λr hr=>((S.rx r hr).1,(S.rx r hr).2.1,(S.rx r hr).2.2.1)) o.O I.O
def acy {A:Type}{f:A->Int}:∀{l:¬A},(∀q∈l,f q<=B)->(l.map f).sum<=B*!l:=by
 intro l;induction l with
 |nil=>intro _;simp
 |cons q l D=>intro h;have h1:=h q aa;have h2:=D λx C=>h x<|ae _ C;rw[aS,cx,a8,pp,ky];lk
structure Yn (nums:¬(Str×Int))(ls:¬(Str×Q4))(G:¬(Int×Int)):Prop where
 r:Sp.qt G
 l:∀x∈G,x.1<10^70
 w:∀T W ws dI,0<=T->LH.gn (!(seenOf nums)) (bU ls) 0 1 T W ws dI->W=Sp.jQ T G
theorem Yn.eq (S:gB B names A nums x s0 s1)(I:gB B names A D C s0 s1)(d:Yn nums x G)(d':Yn D C N):G=N:=LH.ahr d.r d'.r d.l d'.l λT L U=>by let(W,ws,H,o):=S.out ⟨L,U⟩;let(O,E,J,M):=I.out ⟨L,U⟩;rw[<-d.w T W ws H L o.O,←d'.w T O E J L M.O];calc o.eq S I M
inductive yV (nums:¬(Str×Int))(ls:¬(Str×Q4))(n:Int):↑Int->Prop
 |no (d:Yn nums ls []) (em:Pg.fu [.int ((!nums):Int),.list<|ls.map vX,.int 0,.int 1,.int n]=#[(false,.none)]):yV nums ls n none
 |yes {xM:¬LH.Ao} {dI:¬Int} (d:Yn nums ls G) (g0:G≠[]) (em:Pg.fu [.int ((!nums):Int),.list<|ls.map vX,.int 0,.int 1,.int n]=#[(false,.tuple [.int<|eH<|LH.jf n 0 0 G,.list<|xM.map LH.bh,.list<|dI.map .int])]) (k:LH.af8 (!(seenOf nums)) (bU ls) n (eH<|LH.jf n 0 0 G) xM dI) (hT:nP (eH<|LH.jf n 0 0 G)):yV nums ls n (#[eH<|LH.jf n 0 0 G])
def gB.few (S:gB J names m nums A s0 s1)(h1:1<=n)(h:n<10^60):∃T,yV nums A n T:=by
 have(s,a,i,l4,Y):=S.len;have f:(!(bU A))=!A:=by delta bU;rw[ac]
 have U:((bU A).map Sp.aO.l).sum<=bR*!(bU A):=acy λq I=>by let(j,x,u,E,rfl):=S.fit.mem I;rw[E.e];exact(S.rx _ E.m).2.2.2
 have d:bR*((!(bU A)):Int)<=bR*8:=cc ∅ ⋯;have t:100*bR*((!(bU A)):Int)<=100*bR*8:=cc ∅ ⋯;have z:10^60+bR*8+1<1e100:=by decide
 have w:100*bR*8<1e100:=by decide
 have b:10^60+bR*8<10^70:='k'
 have e:=LH.aeE (p:=n) (st:=0) (g:=1) (B:=100*bR) S.fit.hall (LH.Ur ∅ ∅) ∅ ∅ ∅ ∅ ⋯ h1 ∅ ⋯ (λq I=>by
  let(j,x,u,E,rfl):=S.fit.mem I;rw[E.w];calc(S.rx _ E.m).2.1) ∅
 rw[S.fit.hD] at e;let(G,H,e):=e;have D:Yn nums A G:=⟨H.rise,λx E=>by have:=H.low x E;lk,λT W ws L Q O=>by
  let(c,M,C,F,_,e):=H.flow T;let(r,y,v,N,o,_):=O.flow;rw[<-e,o];calc ic (N.le S.fit.hall ∅ ∅ Q F) (F.le S.fit.hall ∅ ∅ Q N)⟩
 rcases e with⟨rfl,em⟩|⟨g0,l,L,k,em⟩
 .exact⟨none,.no D<|by rwa [<-Y]⟩
 .calc⟨_,.yes D g0 (by rwa [<-Y]) k ⟨by have:=k.T1;lk,by have:=k.Tb;lk⟩⟩
theorem yV.eq (S:gB B names A nums x s0 s1)(E:gB B names A D G s0 s1)(f:yV nums x n T)(f':yV D G n I):T=I:=by
 cases f with
 |no d em=>
  cases f' with
  |no _ _=>rfl
  |yes C g0=>calc absurd (d.eq S E C).symm g0
 |yes d g0=>
  cases f' with
  |no C _=>calc absurd (d.eq S E C) g0
  |yes C=>rw[d.eq S E C]
def yV.sp (S:gB B names J nums x s0 s1)(D:aU H C p A I G nums x)(f:yV nums x n T)(q:∀E,Same H E->match T with|none=>Q .non E|some T=>∀t r,E t=#[.tup (.int T::r)]->Q (.ref t) E):mq K C [.ref p,.int n] H Q:=by
 have(O,g,l,m,L):=S.len;have N:(!(bU x))=!x:=by delta bU;rw[ac]
 cases f with
 |no _ em=>calc(p,A,I,G,nums,x,n,_,rfl,D,by lk,em,S.can,.inl ⟨rfl,q⟩)
 |yes _ _ em k U=>calc(p,A,I,G,nums,x,n,_,rfl,D,by lk,em,S.can,.inr (_,_,_,rfl,λr hr=>⟨λj Y=>by have:=(k.row r hr).1 j Y;lk,by have:=Sp.iW (k.row r hr).2 (k.row r hr).1;lk⟩,by have:=k.len;lk,by rw[k.ml,L],λE t r s M=>q E s t r M))
end
end cA
namespace L2
open PySem.W PySem.Calls PyProof.Rows
inductive agm:V->¬V->Hp->VK->Prop
 |mk fU:H d=#[.dK fU]->Q ((eV fU x).getD z) H->agm (.ref d) [.str x,z] H Q
def aj3:ug X "dict.get" agm:=by
 intro A s O H x M v J Q I D G q;let .mk (x:=y) B C q:=q;cases D;let(E,j,e,L,m):=vals2 G;subst e;let(_,hS,c,rel,N):=rK I.hok C;exact iX ij N.typeIs PySem.F.entry_dict_get (PySem.F.args_dict_get_3 _ _ _) (meets_dict_get_default (strKind X.prog X.w) _ (rJ (k:=y) L) hS j) (_,N.mapOf,_,_,I.tok _,by
  have g:=rel.val y;revert g;cases eV B y<;>cases valueAt c y<;>intro g;calc m;cases g;cases g;calc g,q)
end L2
namespace cA
open PyProof.Rows L2 VM StrLaws
local macro_rules | `(tactic| walk_at "fr")=>`(tactic| repeat' (first | exact rfl | assumption | refine ⟨_,_,rfl,rfl,?_,?_⟩ | refine ⟨_,_,rfl,?_⟩))
def rB (A:¬Row)(w:¬Nat):Int:=(w.map λj=>(rowAt A j).2.2.2.2).sum
def uf (A:¬Row)(T:Int)(ws:¬(¬Nat×Int)):Int:=(ws.map λx=>x.2*(T - rB A x.1+1)).sum
def Yo {B:¬(Key×V)}:eV (putK B k y) j=if j=k then #[y] else eV B j:=by
 have h1:∀B:¬(Key×V),eV (B.map λA=>if A.1=k then(A.1,y) else A) j=if j=k then(if(B.any λA=>decide<|A.1=k)=true then #[y] else none) else eV B j:=λB=>by
  induction B with
  |nil=>split<;>rfl
  |cons p r C=>
   rw[aS,im];by_cases e:p.1=k<;>by_cases g:p.1=j
   .rw[ah e,jY (p:=(p.1,y)) g,ah<|g.symm.trans e,az e];rfl
   .have:Not (j=k):=λz=>g (e.trans z.symm)
    rw[ah e,jt (p:=(p.1,y)) g,C,jt g,ap this,ap this]
   .rw[ap e,jY g,jY g,ap λz=>e<|g.trans z]
   .rw[ap e,jt g,jt g,C,a9 e,Bool.false_or]
 have h2:∀B:¬(Key×V),(B.any λA=>decide<|A.1=k)=false->eV (B++[(k,y)]) j=if j=k then #[y] else eV B j:=λB=>by
  induction B with
  |nil=>
   intro _;by_cases g:k=j
   .rw[ah g.symm];exact jY g
   .rw[ap λz=>g z.symm];calc jt g
  |cons p r C=>
   intro h;rw[im,nv] at h;by_cases g:p.1=j
   .rw[jS,jY g,jY g,ap λz=>of_decide_eq_false h.1<|g.trans z]
   .rw[jS,jt g,jt g,C h.2]
 delta putK;split
 .rename_i h;rw[h1,ah h]
 .rename_i h;calc h2 _<|gy.mpr h
def Us (H:Hp)(d:Addr)(L:Nat)(f:Str->Int):Prop:=∃B,H d=#[.dK B]/\(!B)<=L/\∀x,(eV B x).getD (.int 0)=.int (f x)
theorem Vw:∀{ds:¬()},canLayAll0 ds=true->∀d∈ds,d.canLay0=true
 |[],_,d,h=>by cases h
 |e::ds,h,d,G=>by
  erw[canLayAll0,bc] at h;rcases aI.mp G with g|g
  .rw[g];exact h.1
  .calc Vw h.2 d g
def ae4 (h:(dR A).canLay0=true):∀r∈A,(bh r).canLay0=true:=λr hr=>by delta dR at h;erw[canLay0] at h;calc Vw h _<|cf hr
def nA (A:¬(Str×Q4))(us:¬(¬Nat×Int)):Str:=if us=[] then "none" else Str.join "; " (us.map λx=>dM<|wn A x)
inductive Yp (K:Frag)(vs:¬V)(H:Hp)(Q:VK):Prop
 |mk {seen:¬Str} {us:¬(¬Nat×Int)} (e:vs=[.str<|nA ls us,vd,vz,.int T]) (hd:Has K H (dR bw) vd) (hz:Has K H (cX seen) vz) (hs:seen=s0::s1::rest) (hc:(PyData.str s1).canLay0=true) (F:cM seen ls bw Bd) (hl:(!bw)<=8) (hu:(!us)<=50) (hT:T+1<10^78)
  (hw:∀x∈us,LH.yP (bU ls) 0 1 x/\(jz (wn ls x)/\∀z∈dh ls x.1,Not (59∈⇑z))/\rB bw x.1<=T/\0<=rB bw x.1) (hr:j6 (us.map λx=>dM<|wn ls x)=us.map λx=>dM<|wn ls x) (hj:∀j,j<!bw->LH.share j us<=(rowAt bw j).2.2.2.1) (q:∀H',Same H H'->Q (.int<|uf bw T us) H')
def aj4 (h:∀x∈us,jz (wn A x))(C:us≠[]):nA A us≠"none":=λe=>by
 delta nA at e;rw[ap C] at e;cases us with
 |nil=>calc C rfl
 |cons x r=>
  have B:=(h x aa).n.z;have G:=b9 (λz:Str=>(⇑z).head?) e;have D:∃t,⇑(Str.join "; " ((x::r).map λx=>dM<|wn A x))=⇑↥x.2++t:=by
   cases r with
   |nil=>calc⟨⇑(" by ":Str)++⇑(Str.join " " (dh A x.1)),by show⇑(↥x.2++" by "++Str.join " " (dh A x.1))=_;rw[dP,eD,dP,eD,cr]⟩
   |cons y r=>exact⟨⇑(" by ":Str)++(⇑(Str.join " " (dh A x.1))++(⇑("; ":Str)++⇑(Str.join "; " (dM (wn A y)::r.map λx=>dM<|wn A x)))),by rw[aS,aS,Av];show⇑(↥x.2++" by "++Str.join " " (dh A x.1))++_=_;rw[dP,eD,dP,eD,cr,cr]⟩
  let(t,D):=D;erw[D] at G;cases O:⇑↥x.2 with
  |nil=>calc B.ne O
  |cons c t=>rw[O,show(⇑("none":Str)).head? =#[110] by decide +kernel] at G;have:=B.ds c (by rw[show Str.ofString (toString (wn A x).2)=↥x.2 from rfl,O];calc aa);cases G;lk
def acz (h:∀x∈us,jz (wn B x)):cG (nA B us)=true:=by
 delta nA;split
 .decide +kernel
 .calc jV FN λz C=>by let(x,A,e):=a6.mp C;calc e▸(h x A).ok
def acA (h:∀x∈us,jz (wn E x)/\∀z∈dh E x.1,Not (59∈⇑z))(N:(!us)<=50):qy tH (.str<|nA E us) (.str "; ")=#[.list<|((if us=[] then ["none"] else us.map λx=>dM<|wn E x):¬Str).map .str]:=by
 delta nA;split
 .exact yU (ws:=["none"]) aao Nb 's' (λw D=>by rw[a7.mp D];decide +kernel) (λw D=>by rw[a7.mp D];decide +kernel) 'k' 's'
 .rename_i r;refine yU aao Nb ‹r› (λz C=>by let(x,A,e):=a6.mp C;calc e▸(h x A).1.sc (h x A).2) (λz C=>by let(x,A,e):=a6.mp C;calc e▸(h x A).1.ok) ?_ (by rw[ac];lk);have:=join_le (s:="; ") (B:=178) λz C=>by let(x,A,e):=a6.mp C;exact e▸(h x A).1.len
  rw[ac,qz] at this;lk
def ae5 {l:¬Str}:∀{ws:¬D},l.Perm (ws.map f)->∃us:¬D,us.Perm ws/\us.map f=l:=by
 induction l with
 |nil=>intro ws p;have:=p.length_eq;rw[ac] at this;calc([],by rw[eL.mp this.symm],rfl)
 |cons z l B=>intro ws p;let(x,A,e):=a6.mp<|p.mem_iff.mp aa;let(s,t,rfl):=List.append_of_mem A;have k:(s++x::t).Perm (x::(s++t)):=List.perm_middle;have m:=p.trans<|k.map f;rw[aS,e] at m;let(us,J,C):=B<|List.Perm.cons_inv m;calc(x::us,(J.cons x).trans k.symm,by rw[aS,C,e])
def Vx {f:B->Int}{us ws:¬B}(p:us.Perm ws):(us.map f).sum=(ws.map f).sum:=by
 induction p with
 |nil=>rfl
 |cons x _ A=>rw[aS,aS,cx,cx,A]
 |swap x y l=>erw[aS,cx];lk
 |trans _ _ a b=>calc a.trans b
theorem DQ (j:Nat):∀ws:¬(¬Nat×Int),LH.share j ws=(ws.map λx=>if j∈x.1 then x.2 else 0).sum
 |[]=>rfl
 |x::ws=>by rw[LH.share,DQ j ws];rfl
section
variable {ws:¬(¬Nat×Int)}
def acB {seen:¬Str}(F:cM seen E A B)(D:∀j∈w,j<!E):rB A w=LH.bV Sp.aO.l (bU E) w/\0<=rB A w:=by
 delta rB LH.bV;induction w with
 |nil=>calc⟨rfl,b7 _⟩
 |cons j w G=>let(x,C):=F.at (D j aa);have⟨h1,h2⟩:=G λk M=>D k<|ae _ M;have:=F.l1 _ C.m;rw[aS,aS,cx,cx,h1,LH.m7 C.p,C.e];calc⟨rfl,by rw[<-h1];lk⟩
structure Wks (bw:¬Row)(ls:¬(Str×Q4))(T:Int)(x:¬Nat×Int):Prop where
 wk:LH.yP (bU ls) 0 1 x
 ww:jz (wn ls x)/\∀z∈dh ls x.1,Not (59∈⇑z)
 f1:rB bw x.1<=T
 f0:0<=rB bw x.1
def lD.walks (S:gB rooms names bw nums ls s0 s1)(o:lD nums ls T W ws dI):(∀x∈ws,Wks bw ls T x)/\(!ws)<=8/\(∀j,j<!bw->LH.share j ws<=(rowAt bw j).2.2.2.1)/\uf bw T ws=W/\0<=W:=by
 let(fl,M,Q,H,_,B):=o.O.flow;have(l1,l2,k,m,p):=S.len;have hp:(!(bU ls))=!ls:=by delta bU;rw[ac]
 have L:=S.fit.len;have O:=H.len;have C:∀j,j<!bw->LH.share j ws<=(rowAt bw j).2.2.2.1:=λj hj=>by let(x,A):=S.fit.at (j:=j) ∅;rw[B.sum j ∅,←A.w];exact(H.lo j _ _ A.p<|LH.oG ∅).2
 have U:∀x∈ws,∀j∈x.1,j<!ls:=λx A j hj=>by have:=(B.walk x A).ix j hj;lk
 have J:∀x∈ws,1<=x.2:=λx A=>(B.walk x A).m1;have D:∀{ws:¬(¬Nat×Int)},(∀x∈ws,1<=x.2)->∀x∈ws,∀j∈x.1,x.2<=LH.share j ws:=λ{ws}=>by
  induction ws with
  |nil=>intro _ x A;cases A
  |cons y ws E=>
   intro h x A j hj;have h1:=h y aa;have h2:∀z∈ws,1<=z.2:=λz hz=>h z<|ae _ hz;have N:=LH.Uy h2 j;rw[LH.share];rcases aI.mp A with g|g
   .subst g;rw[ah hj];lk
   .have:=E h2 x g j hj;split<;>lk
 have I:∀x∈ws,Wks bw ls T x:=λx A=>by
  have wk:=B.walk x A;have⟨e,f0⟩:=acB S.fit<|U x A;refine(wk,aoj (λz hz=>?_) (λz=>wk.ne<|i0.mp z) ?_ ?_,by rw[e];calc o.O.short x A,f0)
  .let(j,hj,rfl):=a6.mp hz;let(y,n):=S.fit.at (U x A j hj);rw[n.n];exact S.N _<|S.ok.dr.sub _ n.m
  .show (!(dh ls x.1))<=8;delta dh;rw[ac];have:=Sp.iW wk.nd wk.ix;lk
  .have⟨j,hj⟩:=dv _ wk.ne;let(y,n):=S.fit.at (U x A j hj);have h1:=D J x A j hj;have h2:=C j (by have:=U x A j hj;lk);have N:=(S.rx _ n.m).2.1;have Y:=wk.m1
   have:100*bR<10^70:='k'
   exact⟨by show 0<=x.2;lk,by show x.2<_;lk⟩
 have hs:uf bw T ws=W:=by rw[o.O.ppl];delta uf;congr 1;exact cK λx A=>by rw[(acB S.fit<|U x A).1]
 refine(I,?_,C,hs,?_)
 .have:=B.few;have:=LH.vW fl;lk
 .rw[<-hs];have G:∀l:¬(¬Nat×Int),(∀x∈l,x∈ws)->0<=uf bw T l:=λl=>by
   induction l with
   |nil=>intro _;calc b7 _
   |cons x l E=>intro hl;have A:=hl x aa;exact Int.add_nonneg (fA (by have:=J x A;lk) (by have:=(I x A).f1;lk)) (E λy n=>hl y<|ae _ n)
  calc G ws λ_ h=>h
def lD.DR (S:gB rooms names bw nums ls s0 s1)(o:lD nums ls T W ws dI)(hT:dZ T):(∀x∈(seenOf nums).zip dI,ud x)/\(bw.map<|wY (seenOf nums) dI).sum=W/\0<=W/\W<10^500:=by
 have(l1,l2,N,m,Y):=S.len;have C:∀E∈dI,0<=E/\E<=T+1:=λE D=>by let(v,ev):=dm D;have hv:=(af.mp ev).1;have:=o.O.mb v (by have:=o.O.ml;lk);rw[LH.tD ev] at this;exact this
 have hd:=o.O.UJ;have h1:((bU ls).map<|LH.over<|PM.lf dI).sum<=100*bR*(T+1)*!(bU ls):=acy λq A=>by
  let(j,x,hj,B,rfl):=S.fit.mem A;have I:=o.O.mb _<|S.fit.hall.ra _ A;have L:=o.O.mb _<|S.fit.hall.rb _ A;have hl:=S.fit.hall.l1 _ A;have hw:=S.fit.hall.w1 _ A;have G:(oU x).w<=100*bR:=by rw[B.w];exact(S.rx _ B.m).2.1
  delta LH.over;split
  .exact fg (cc ∅ ∅) (f7 G (by have:=hT.1;lk))
  .exact fA ⋯ (by have:=hT.1;lk)
 have h2:100*bR*(T+1)<=100*bR*10^60:=cc (by have:=hT.2;lk) ⋯;have J:100*bR*(T+1)*((!(bU ls)):Int)<=100*bR*(T+1)*8:=cc (by delta bU;rw[ac];lk) (fA ⋯ (by have:=hT.1;lk));have M:100*bR*10^60*8<10^500:='k'
 refine(λx B=>?_,(S.fit.UJ S.ok.nd o.O.ml).symm.trans hd.symm,(o.walks S).2.2.2.2,by rw[hd];lk);have hz:=gS B;have:=C _ hz.2;have k:=hT.2;have H:(10)^60+1<10^70:='k'
 calc(S.R _<|S.ok.sub _ hz.1).mom ⟨this.1,by lk⟩
def lD.z (S:gB B names A nums x s0 s1)(o:lD nums x T W ws C)(U:dZ T):iY W:=let(_,_,a,b):=o.DR S U;KC a b
end
section
variable {K:Frag}
def wtx (x:¬(Str×Q4))(ws:¬(¬Nat×Int)):Str:=if ws.map (wn x)=[] then "none" else Str.join "; " (j6<|(ws.map<|wn x).map dM)
def aj5 (A:¬(Str×Q4))(ws:¬(¬Nat×Int)):∃us:¬(¬Nat×Int),us.Perm ws/\(j6 (us.map λx=>dM<|wn A x)=us.map λx=>dM<|wn A x)/\wtx A ws=nA A us:=by
 have E:(ws.map<|wn A).map dM=ws.map λx=>dM (wn A x):=by rw[bE];rfl
 let⟨us,p,e⟩:=ae5<|v9<|ws.map λx=>dM<|wn A x;refine⟨us,p,by rw[e,aeS],?_⟩;delta wtx nA;rw[E,e];by_cases c:ws=[]
 .subst c;rw[p.eq_nil];rfl
 .rw[ap λz=>c<|i0.mp z,ap λz=>c (by rw[z] at p;calc p.symm.eq_nil)]
def gB.drop {nm:Str}(S:gB B names A nums x s0 s1):gB B names (aeL nm A) nums (rN nm x) s0 s1:=⟨Yd S.ok,S.R,S.N,S.sn,λr hr=>S.rx r (c6.mp hr).1⟩
def gB.row (S:gB B names A nums x s0 s1)(hr:r∈A):RowW r:=by
 have⟨a,b⟩:=S.ok.U7 hr;have⟨c,d,e,f⟩:=S.rx r hr;have w:=S.ok.dr.wd r hr;have h:100*bR<10^70/\bR<10^70:='k'
 calc alB (S.N _<|S.ok.dr.sub r hr) (S.R _ a) (S.R _ b) ⟨by lk,by lk⟩ ⟨by lk,by lk⟩
section
variable (S:gB rooms names bw nums ls s0 s1)(G:gY H CD x dk (.ref p))(A:aU H C p dx nn ll nums ls)
include S G A
def Yq (o:lD nums ls T W ws D)(U:dZ T)(q:∀E,Same H E->Q (.str<|toString W) E):dY K CD C [.ref x,.str<|"out "++↥T] H Q:=by rw[Az.1];calc FJ (by rfl) Aw.1 'k' U.z (Fz U) G A.ins λI s=>.out (o.sp S (A.grow s) λv E B M=>let⟨t,r,e,h⟩:=ace M;⟨t,W,r,e,h,(o.z S U).lg,q E<|s.trans B⟩)
def DW (o:lD nums ls T W ws L)(U:dZ T)(q:∀E,Same H E->Q (.str<|wtx ls ws) E):dY K CD C [.ref x,.str<|"walks "++↥T] H Q:=by rw[Az.2.1];have⟨B,Y,_⟩:=o.walks S;calc FJ (by rfl) Aw.2.1 'k' U.z (Fz U) G A.ins λO s=>.walks<|o.sp S (A.grow s) λv E I M=>⟨_,_,_,_,M,Vp (λy n=>by let(x,D,e):=a6.mp n;calc e▸(B x D).ww.1) (by rw[ac];lk),λJ N=>q J<|s.trans<|I.trans N⟩
def ae6 (o:lD nums ls T W ws B)(U:dZ T)(q:∀I,Same H I->Q (.str<|Str.join "; " (((seenOf nums).zip B).map jh)) I):dY K CD C [.ref x,.str<|"moments "++↥T] H Q:=by
 rw[Az.2.2.1];have E:=(o.DR S U).1;have⟨j,k,g,m,l⟩:=S.len;refine FJ (by rfl) Aw.2.2.1 'k' U.z (Fz U) G A.ins λY s=>.yO<|o.sp S (A.grow s) λv I N M=>⟨_,_,_,M,λx D=>⟨ck (E x D).l<|by decide,(E x D).n.z.lg,(E x D).ok⟩,by rw[gX];lk,?_,λJ O=>?_⟩
 .exact(b9 not<|joinFits (λz L=>by let(x,D,e):=a6.mp L;calc e▸(E x D).len) (by rw[ac,gX,qz];lk))
 .rw[show Txt.join "; " (((seenOf nums).zip B).map jh)=Str.join "; " (((seenOf nums).zip B).map jh) from glued_eq_join ..];calc q J<|s.trans<|N.trans O
def turnT:↑Int->Str
 |none=>"never"
 |some T=>↥T
def tL (f:yV nums ls n T)(h1:1<=n)(B:dZ n)(q:∀E,Same H E->Q (.str<|turnT T) E):dY K CD C [.ref x,.str<|"turns "++↥n] H Q:=by
 rw[Az.2.2.2];refine FJ (by rfl) Aw.2.2.2.1 'k' B.z (aeX B h1) G A.ins λJ s=>.turns<|f.sp S (A.grow s) λE D=>?_;cases f with
 |no _ _=>calc .inl ⟨rfl,q E<|s.trans D⟩
 |yes _ _ _ _ U=>calc λt r I=>.inr ⟨t,_,r,rfl,bK.of I,U.z.lg,q E<|s.trans D⟩
def Pj (q:∀E,Same H E->Q (.str<|Str.join " " (seenOf nums)) E):dY K CD C [.ref x,.str "rooms"] H Q:=by
 have⟨I,J,L,m,Y⟩:=S.len;refine Vm (by rfl) Aw.2.2.2.2.2.1 'k' G A.ins λD s=>.rooms ⟨p,dx,nn,ll,nums,ls,rfl,A.grow s,λz B=>⟨z,_,rfl,aQ.of ao,?_,?_⟩⟩
 .exact(b9 not<|joinFits (λz B=>(S.R z<|S.ok.sub z B).2.2) (by rw[nq];lk))
 .rw[show Txt.join " " (seenOf nums)=Str.join " " (seenOf nums) from glued_eq_join ..];calc q _<|s.trans<|aK B
def acC {nm:Str}(J:nm∈bw.map (·.1))(o:lD nums ls T W ws Y)(I:lD nums (rN nm ls) T B O L)(U:dZ T)(q:∀E,Same H E->Q (.str<|Str.ofString<|toString<|W - B) E):dY K CD C [.ref x,.str<|("worth ":Str)++nm++" "++↥T] H Q:=by
 rw[KZ.1];have⟨k,g,l,t,u⟩:=S.len;let(y,n):=qU (by rw[m5 S.ok.lr];calc J);let(r,hr,D):=a6.mp J;have M:iY (W - B):=by have⟨m,e⟩:=S.sn;have h1:=U6 S.ok e (λr hr=>⟨(S.rx r hr).1,(S.rx r hr).2.1,(S.rx r hr).2.2.1⟩) o.O I.O;have⟨_,_,a,b⟩:=o.DR S U;have⟨_,_,c,_⟩:=I.DR S.drop U;exact KC ∅ ∅
 calc acv (D▸(S.N _<|S.ok.dr.sub r hr).ni) U G A.ins λj s=>.worth ⟨p,dx,nn,ll,nums,ls,nm,y,T,W,B,_,_,rfl,A.grow s,n,by lk,o.em,I.em,λE N=>⟨_,rfl,M.lg,q E<|s.trans N⟩⟩
def Vy (q:∀E,Same H E->Q (.str<|if bw=[] then "none" else Str.join "; " (bw.map lM)) E):dY K CD C [.ref x,.str "passages"] H Q:=by
 have⟨u,I,v,y,b⟩:=S.len;refine Vm (by rfl) Aw.2.2.2.2.2.2 'k' G A.ins λo s=>.passages ⟨p,dx,nn,ll,nums,ls,bw,rfl,A.grow s,by lk,S.ok.lr.mono λx r h=>?_,λE z m g _ D U=>⟨.list<|bw.map KN,_,⟨z,m,rfl,aQ.of D,?_⟩,Wd (λr hr=>S.row hr) I,λJ l=>q J<|s.trans<|g.trans l⟩⟩
 .let(h1,(i,h2,L),(k,M,N),O,T):=h;exact⟨h1,by rw[h2];calc gM (by rw[ai,L];rfl),by rw[M];calc gM (by rw[ai,N];rfl),O,T⟩
 .have B:∀r∈bw,RowW r:=λr hr=>S.row hr;clear q S I D;induction U with
  |nil=>rfl
  |cons h _ j=>let⟨t,e,Y⟩:=h;have hr:=B _ aa;calc⟨_,_,rfl,⟨t,_,e,bK.of Y,_,_,rfl,⟨rfl,hr.n.ok⟩,_,_,rfl,⟨rfl,hr.a.ok⟩,_,_,rfl,⟨rfl,hr.b.ok⟩,_,_,rfl,rfl,_,_,rfl,rfl,rfl⟩,j λr hr=>B r<|ae _ hr⟩
end
end
local macro_rules | `(tactic| walk_at "fr")=>`(tactic| repeat' (first | exact rfl | assumption | refine ⟨_,_,rfl,rfl,?_,?_⟩ | refine ⟨_,_,rfl,?_⟩))
def aQ.put {K:Frag}(h:aQ K H t xs)(G:H d=#[.dK B]):aQ K (upd H d o) t xs:=by
 rcases h with(h|⟨o,h⟩)|h
 .exact .inl<|.inl<|(au λz=>by rw[z,G] at h;cases h).trans h
 .exact .inl<|.inr ⟨o,(au λz=>by rw[z,G] at h;cases h).trans h⟩
 .calc .inr h
def ae7 (h:H d=#[o]):upd H d o=H:=funext λb=>by
 by_cases e:b=d
 .rw[e,ao,h]
 .rw[au e]
def name_eq {seen:¬Str}(F:cM seen C A B)(hi:i<!C)(Y:j<!C)(e:(iz C).getD i ""=(iz C).getD j ""):i=j:=by
 let(x,D):=F.at hi;let(y,n):=F.at Y;rw[D.n,n.n] at e;have r:(A.map (·.1))[i]? =#[(rowAt A i).1]:=by rw[ai,D.r];rfl
 have G:(A.map (·.1))[j]? =#[(rowAt A i).1]:=by rw[ai,n.r,e];rfl
 let(b1,E):=af.mp r;let(b2,w):=af.mp G;calc(ly F.nn).mp<|E.trans w.symm
def Vz {seen:¬Str}(F:cM seen x A B)(C:∀k∈w,k<!x)(Y:j<!x):(iz x).getD j ""∈dh x w↔j∈w:=⟨λh=>by
 let(k,M,e):=a6.mp h;calc name_eq F (C k M) Y e▸M,λh=>cf h⟩
section
variable {K:Frag}
theorem ae8 (B:Bl E.mg)(A:CV E K 68 1 eZ)(J:CV E K 63 1 uE)(h:GF E K 69):CO E K 69 2 (Yp K):=by
 refine Gk ["_law_text","_law_held","_law_seen","_law_turns_here","_law_found","_law_used","_law_rows","_law_one","_law_number","_law_by","_law_names","_law_way_here","_law_far","_law_row"] h (λvs H Q h=>by let(rfl,_):=h;rfl) λH nd vt hr qe=>?_;refine⟨_,(ak (pS 4 aH)
  (ak (pS 5 Hu)
  (ak (pS 6 (S8 hY hX zW J5 (mw (dN (pU 0))) (sw (xr 'k'))))
  (ak (bQ (eF gU (pU 0) aX) (aM (pS 6 (xU aq))) bA)
  (ak (jG (iM (pU 6)) (pG 7) (ak (Bt (S8 PySem.F.slot_str_partition PySem.F.type_str_partition Xf afX (mw (dN (pU 7))) (sw (xr 'k'))) (ur (eG (pG 8) (eG (pG 9) (eG (pG 10) pP)))))
  (ak (pS 8 (qL (pC A (gV (dF (pU 8)) nQ))))
  (ak (pS 11 (qL (pC J (gV (dF (pU 1)) (gV (ns (S8 hY hX zW J5 (mw (dN (pU 10))) (sw (xr 'k')))) (gV (NZ (dN (pU 2)) (sw jB)) (gV (NZ (dN (pU 2)) (sw jB)) nQ)))))))
  (ak (bQ (PW.pt (wOr (kJ adn hIs (mw (dN (pU 8))) (sw Qo)) (wOr (kJ oLt hLt (mw (dN (pU 8))) (sw jB)) (aiD (kJ adn hIs (mw (dN (pU 11))) (sw Qo)))))) (aM (bD sE)) bA)
  (ak (pS 12 (Bh (dU aix gx B.sum PyProof.Rows.boot_sum (pwC (nw (dLC (Jb (cap:=[none]) ["_law_text","_law_held","_law_seen","_law_turns_here","_law_found","_law_used","_law_rows","_law_one","_law_number","_law_by","_law_names","_law_way_here","_law_far","_law_row"] (aP (top 69)) 'k' rfl rfl (itL (dF (pU 11))) (λ_ _ _ _ _=>(tgN (wA (i:=0) (show(["_law_row"]:¬Str).Nodup by decide +kernel) 'k'))) (λ_ _ _ _ _=>ifN) (λ_ _ _ _ _=>(NZ (dN (pq 'k' 0)) (sw jB)))))) pw0)) aiG))
  (ak (bQ (kJ NK hGt (mw (dN (pU 12))) (mw (dN (pU 3)))) (aM (bD sE)) bA)
  (ak (pS 4 (qD pN R3 (mw (dN (pU 4))) (sw (qD RQ hMul (mw (dN (pU 8))) (sw (qD pN R3 (sw (qD BP hSub (mw (dN (pU 3))) (mw (dN (pU 12))))) (sw jB)))))))
  (aM (jG (iM (pU 11)) (pG 13) (aM (yw (mG hr) (pU 5) (aR dw (pU 13) aH) (bY pN (uq c9 ij mP aj3 (pU 5) (aj (aR dw (pU 13) aH) (aj aH aq))) (pU 8)) rfl))))))))))))
  (ak (jG (iM (pU 1)) (pG 13) (aM (bQ (eF NK (uq c9 ij mP aj3 (pU 5) (aj (aR dw (pU 13) aH) (aj aH aq))) (aR dw (pU 13) aH)) (aM (bD sE)) bA)))
  (ak (bQ (kJ (lN hr.units) hNe (mw (dN (pU 6))) (nw (afY (dU afZ gx B.sorted boot_sorted (aj (dN (pU 6)) aq))))) (aM (bD sE)) bA)
  (aM (bD (pU 4)))))))))),?_⟩
 let(rfl,hd,hz,hs,hc,Ft,hl,hul,hT,hw,hsr,hsh,hq):=qe;have hww:∀x∈us,jz (wn ls x):=λx U=>(hw x U).2.1.1;have ad1:=ae4<|Has.can hd;dsimp only[iD];refine bO λN C=>?_;refine C _ _<|bO λN C=>?_;intro d hd0;have t1:=aK (o:=.dK []) hd0;have hu1:Us (upd H d<|.dK []) d 0 λ_=>0:=⟨[],ao,av _,λ_=>rfl⟩;generalize upd H d (.dK [])=H1 at t1 hu1 ⊢;refine C _ _<|bO λN C=>?_;have ht:Has K H1 (.str<|nA ls us) (.str<|nA ls us):=⟨rfl,acz hww⟩;refine tvN 14 [(0,.str<|nA ls us)] (.c rfl ht .n) (acA (λx U=>(hw x U).2.1) hul) λa H2 s2 hn U=>?_;refine C _ _<|bO λN C=>?_;have go:∀a H3,Same H H3->Us H3 d 0 (λ_=>0)->H3 a=#[.lst<|(us.map λx=>dM<|wn ls x).map V.str]->N [#[.str<|nA ls us],#[vd],#[vz],#[.int T],#[.int 0],#[.ref d],#[.ref a],none,none,none,none,none,none,none] H3:=λa H3 s3 hu3 ha=>C _ _ ?_
 .unfold cR;refine zX (K:=K) (λR r=>aG rfl r) (λR r=>r) ?_;by_cases c:us=[]
  .rw[az (by unfold nA;rw[ah c]),ah rfl];refine⟨cv _,λz hz=>go z _ ((t1.trans s2).trans<|aK hz) ?_ (by rw[ao,c];rfl)⟩;let⟨fU,e,r⟩:=hu1;exact⟨fU,aK hz _ _<|s2 _ _ e,r⟩
  .rw[a9<|aj4 hww c,ap<|by simp];let⟨fU,e,r⟩:=hu1;rw[ap c] at U;exact go a H2 (t1.trans s2) ⟨fU,s2 _ _ e,r⟩ U
 refine bO λN C=>?_;have had:a≠d:=λz=>by let⟨fU,e,_⟩:=hu3;rw[<-z,ha] at e;k_go
 have Zm:=Ft.len;have hpl:(!(bU ls))=!ls:=by unfold bU;rw[ac]
 subst hs;refine U9 (xs:=(us.map λx=>dM<|wn ls x).map V.str) (λi mH H'=>(∃y7 y8 y9 g m p D,mH=[#[.str<|nA ls us],#[vd],#[vz],#[.int T],#[.int<|uf bw T<|us.take i],#[.ref d],#[.ref a],y7,y8,y9,g,m,p,D])/\Us H' d (i*8) (λx=>((us.take i).map λw=>if x∈dh ls w.1 then w.2 else 0).sum)/\Same H H'/\H' a=#[.lst<|(us.map λx=>dM<|wn ls x).map V.str]) rfl ⟨⟨_,_,_,_,_,_,_,rfl⟩,by simpa using hu3,s3,ha⟩ (λi mH H' _ h=>aQ.of h.2.2.2) ?_ ?_
 .rintro i v mH H' hv ⟨⟨y7,y8,y9,g,m,p,D,rfl⟩,hus,sm,u⟩;rw[bE,ai] at hv;let(x,hxi,rfl):=bq.mp hv;have hxm:=ag hxi;have hiu:=(af.mp hxi).1;let(Wk,⟨hW,_⟩,hf1,hf0):=hw x hxm;have htk:us.take (i+1)=us.take i++[x]:=by rw[f8,hxi];rfl
  have hm1:=Wk.m1;have M:=hW.n;have h8:(!x.1)<=8:=by have:=Sp.iW Wk.nd Wk.ix;lk
  refine bO λN C=>?_;have ho:Has K H' (.str (dM (wn ls x))) (.str (dM (wn ls x))):=⟨rfl,hW.ok⟩;refine tvP 14 [(7,.str (dM (wn ls x)))] (.c rfl ho .n) hW.part λHb sb=>?_;refine C _ _ (bO λN C=>?_);refine U8 14 [(8,.str (Str.ofString (toString (wn ls x).2)))] (.c rfl ⟨rfl,M.z.ok⟩ .n) (z0:=x.2) (by dsimp only[fX];z_go;rw[GJ M.z];rfl) λHc sc=>?_;refine C _ _ (bO λN C=>?_);have smc:=sm.trans (sb.trans sc);refine tvV 14 [(1,dR bw),(2,cX (s0::s1::rest)),(10,.str (Str.join " " (dh ls x.1)))] (.c rfl (Has.same smc hd) (.c rfl (Has.same smc hz) (.c rfl ⟨rfl,hW.jok⟩ .n))) (by
   dsimp only[fX];have ew:=Z9 Ft ∅ ad1 rfl hc Wk;have esp:qy tH (.str (Str.join " " (dh ls x.1))) (.str " ")=#[.list ((dh ls x.1).map .str)]:=hW.split;unfold cX at ew ⊢;z_go;rw[esp];z_go;rw[ew];rfl) λv11 Hd sd O=>?_
  refine C _ _ (bO λN C=>?_);refine Yh 14 [(8,.int x.2),(11,.list (x.1.map λj=>bh (rowAt bw j)))] (.c rfl rfl (.c rfl O .n)) (by
   dsimp only[fX];z_go;erw[a9 (show Not (x.2<1) by lk)];z_go) λHe se=>?_
  refine C _ _ (bO λN C=>?_);refine U8 14 [(11,.list (x.1.map λj=>bh (rowAt bw j)))] (.c rfl (Has.same se O) .n) (z0:=rB bw x.1) (by
   dsimp only[fX];z_go;rw[mJ rfl (by rw[ac];calc aY ∅),g8 (f:=λd=>match d with|.list [_,_,_,_,x]=>x|d=>d)]
   .z_go;rw[bE];show Cd [.list<|x.1.map λj=>.int (rowAt bw j).2.2.2.2]=_;rw[show(x.1.map λj=>PyData.int (rowAt bw j).2.2.2.2)=(x.1.map λj=>(rowAt bw j).2.2.2.2).map .int by rw[bE];rfl];unfold Cd;erw[jK];rfl
   .intro d hd;let(j,_,rfl):=a6.mp hd;calc⟨_,rfl,rfl,rfl⟩) λHf sf=>?_
  refine C _ _ (bO λN C=>?_);refine Yh 14 [(3,.int T),(12,.int (rB bw x.1))] (.c rfl rfl (.c rfl rfl .n)) (by
   dsimp only[fX];z_go;erw[a9 (show Not (rB bw x.1>T) by lk)]) λHg sg=>?_
  refine C _ _ (bO λN C=>?_);refine U8 14 [(3,.int T),(4,.int (uf bw T (us.take i))),(8,.int x.2),(12,.int (rB bw x.1))] (.c rfl rfl (.c rfl rfl (.c rfl rfl (.c rfl rfl .n)))) (z0:=uf bw T (us.take (i+1))) (by
   dsimp only[fX];have h70:x.2<10^78:=kz M.2 'k';z_go;rw[pX ∅ ∅ ∅ ∅];z_go;unfold uf;rw[htk,bP,pk,aS,fe,cx,List.sum_nil,kc]) λHh sh=>?_
  have s2h:=sb.trans<|sc.trans<|sd.trans<|se.trans<|sf.trans<|sg.trans sh;refine C _ _ ?_;let⟨aok,I,hkl,hkf⟩:=hus;have I:=s2h _ _ I;let(aw,xw,e11,hsw,hxw):=O;subst e11;have sdh:=se.trans<|sf.trans<|sg.trans sh;let(lw,n):=X8 hxw;rw[ac] at lw;refine U9 (xs:=xw) (λk mH H'=>(∃D,mH=[#[.str<|nA ls us],#[vd],#[vz],#[.int T],#[.int<|uf bw T<|us.take<|i+1],#[.ref d],#[.ref a],#[.str<|dM<|wn ls x],#[.int x.2],some<|.str " by ",#[.str<|Str.join " " (dh ls x.1)],#[.ref aw],#[.int<|rB bw x.1],D])/\∃fU,H'=upd Hh d (.dK fU)/\(!fU)<=i*8+k/\∀z,(eV fU z).getD (.int 0)=.int (((us.take i).map λw=>if z∈dh ls w.1 then w.2 else 0).sum+if z∈dh ls (x.1.take k) then x.2 else 0)) rfl ⟨⟨_,rfl⟩,aok,(ae7 I).symm,hkl,λz=>by rw[hkf,List.take_zero,ap<|by simp[dh],kc]⟩ (λk mH H' _ h=>by obtain⟨_,fU,rfl,_⟩:=h;calc aQ.put (sdh.seq hsw) I) ?_ ?_
  .rintro k v mH Bj hv ⟨⟨D,rfl⟩,fU,rfl,aol,L⟩;have hk:k<!x.1:=by have:=(af.mp hv).1;lk
   have ej:=ar hk;let(t,rfl,G):=row_has (Has.same sdh (n k _ v (by rw[ai,ej];rfl) hv));have q:x.1.take (k+1)=x.1.take k++[x.1[k]]:=by rw[f8,ej];rfl
   have hnk:Not (x.1[k]∈x.1.take k):=λz=>by have nd:=Wk.nd;rw[<-mT k x.1,ec hk] at nd;exact(d5.mp nd).2.2 _ z _ (aa ..) rfl
   have s:x.1[k]<!ls:=by have:=Wk.ix _<|ag ej;lk
   generalize x.1[k]=j at G q hnk s;let(y,hy):=Ft.at s;have G:=aQ.put (o:=.dK fU) G I;have hno:=mt (Vz Ft (w:=x.1.take k) (λi hi=>by have:=Wk.ix i<|df hi;lk) s).mp hnk;rw[hy.n] at hno;have Y:∀z,z∈dh ls (x.1.take<|k+1)↔z∈dh ls (x.1.take k)\/z=(rowAt bw j).1:=λz=>by rw[q];unfold dh;rw[bP,aT,aS,fe,a7,hy.n]
   generalize rowAt bw j=r at G hno Y;dsimp only[cC,Fg,kf,kg];rw[op2];unfold uZ cg cV tC;k_ne;refine aG rfl ⟨.inr<|.inr ⟨rfl,_,ao⟩,bI rfl G rfl<|.mk fU ao ?_⟩;rw[L];refine aG rfl ?_;dsimp only[rM];refine(aG rfl<|bI rfl G rfl ⟨d,_,rfl,zU.k (k:=r.1) ao<|aY ∅,⟨_,rfl⟩,_,Eb,?_,λz=>?_⟩)
   .have:=rH fU r.1<|.int<|(((us.take i).map λw=>if r.1∈dh ls w.1 then w.2 else 0).sum+if r.1∈dh ls (x.1.take k) then x.2 else 0)+x.2;lk
   .rw[Yo];by_cases e:z=r.1
    .subst e;rw[ah rfl,ap hno,ah<|(Y _).mpr<|.inr rfl,kc];rfl
    .rw[ap λh=>e h,L];by_cases c:z∈dh ls (x.1.take k)
     .rw[ah c,ah<|(Y _).mpr<|.inl c]
     .rw[ap c,ap λh=>((Y _).mp h).elim c e]
  .rintro mH Bj ⟨⟨D,rfl⟩,fU,rfl,aol,L⟩;refine⟨⟨_,_,_,_,_,_,_,rfl⟩,⟨fU,ao,by lk,λz=>?_⟩,λb o e=>?_,?_⟩
   .rw[L,htk];k_ne;rw[bP,pk,aS,fe,cx,List.sum_nil,kc,bu (l:=x.1) ∅]
   .rw[au λz=>by rw[z,hd0] at e;cases e];exact s2h _ _<|sm _ _ e
   .rw[au had];exact s2h _ _ u
 .rintro mH H' ⟨⟨y7,y8,y9,g,m,p,D,rfl⟩,hus,sm,u⟩;rw[ac,ac,bu<|av _] at*
  let⟨fU,I,hkl,hkf⟩:=hus;refine C _ _<|bO λN C=>?_;let(ad,xd,e1,hsd,hxd):=hd;subst e1;let(ld,n):=X8 hxd;rw[ac] at ld;refine U9 (xs:=xd) (λi mH Bj=>(∃D,mH=[#[.str<|nA ls us],#[.ref ad],#[vz],#[.int T],#[.int<|uf bw T us],#[.ref d],#[.ref a],y7,y8,y9,g,m,p,D])/\Bj=H') rfl ⟨⟨_,rfl⟩,rfl⟩ (λi mH Bj _ h=>by rw[h.2];calc sm.seq hsd) ?_ ?_
  .rintro i v mH Bj hv ⟨⟨D,rfl⟩,rfl⟩;have hi:i<!bw:=by have:=(af.mp hv).1;lk
   let(y,hy):=Ft.at (j:=i) ∅;let(t,rfl,G):=row_has (Has.same sm (n i _ v (by rw[ai,hy.r];rfl) hv));have hsi:=hsh i hi;have aom:∀ws:¬(¬Nat×Int),(∀x∈ws,x∈us)->(ws.map λw=>if(rowAt bw i).1∈dh ls w.1 then w.2 else 0).sum=LH.share i ws:=by
    intro ws;induction ws with
    |nil=>intro _;rfl
    |cons w ws ih=>intro h;have hm:=Vz Ft (w:=w.1) (λk hk=>by have:=(hw w<|h w aa).1.ix k hk;lk) (show i<(!ls) by lk);rw[hy.n] at hm;rw[aS,cx,ih λx U=>h x<|ae _ U,LH.share];erw[hm]
   have hsu:=aom us λ_ h=>h;generalize rowAt bw i=r at G hsi hsu;dsimp only[cC,cR,jJ,kf,kg];rw[op2];unfold uZ cg cV tC;k_ne;refine aG rfl ⟨.inr<|.inr ⟨rfl,_,I⟩,bI rfl G rfl<|.mk fU I ?_⟩;rw[hkf];k_ne;rw[hsu];refine bI rfl G rfl ?_;show(if decide (LH.share i us>r.2.2.2.1)=true then _ else _);rw[ap (by simp;lk)];exact⟨⟨_,rfl⟩,rfl⟩
  .rintro mH Bj ⟨⟨D,rfl⟩,rfl⟩;refine C _ _ (bO λN C=>?_);have hla:Has K Bj (.list ((us.map λx=>dM (wn ls x)).map .str)) (.ref a):=⟨a,_,rfl,aQ.of u,jj λz hz=>by let(x,U,e):=a6.mp hz;calc e▸(hww x U).ok⟩;refine Yh 14 [(6,.list ((us.map λx=>dM (wn ls x)).map .str))] (.c rfl hla .n) (by
    dsimp only[fX];have es:Fx (vN 6) [none,none,none,none,none,none,#[(.fr,.list<|(us.map λx=>dM<|wn ls x).map .str)],none,none,none,none,none,none,none]=#[.list<|(us.map λx=>dM<|wn ls x).map .str]:=by show(match sW ((us.map λx=>dM<|wn ls x).map .str) with|some ys=>if (!ys)<64 then #[PyData.list<|(j6 ys).map .str] else none|none=>none)=_;rw[pZ];show(if _ then _ else _)=_;rw[ah (by rw[ac];lk),hsr]
    z_go;rw[es];z_go;rw[show jr (.list ((us.map λx=>dM (wn ls x)).map .str)) (.list ((us.map λx=>dM (wn ls x)).map .str))=#[.bool false] from Aa (Kg _) (Has.can hla)]) λH3 s3=>?_
   calc C _ _<|aG rfl<|hq _<|sm.trans s3
end
abbrev ago:V->V->Hp->VK->Prop:=λx y H Q=>∃i j,x=.str i/\y=.str j/\(!i)+(!j)<=sizeLine/\Q (.str<|i++j) H
section
variable {K:Frag}
def DX (E:D[j]? =#[#[.ref x]])(G:gY H A x I M)(J:(!a)<=100)(hi:∀R:VK,R (.int n) H->te D H R)(B:iY n)(q:dY K A C [.ref x,.str<|a++↥n] H Q):iw A "say" (dY K A C) (vR j) (cg (fC ago (tC<|.str a)<|qC MP<|cg te cV) cV) D H Q:=
 jT E G rfl (hi _ ⟨n,rfl,B.lg,_,_,rfl,rfl,by have:=B.len;have e:sizeLine=16777216:=rfl;lk,q⟩)
def aaq (h:te B H λv E=>MP [v] E Q):qC MP (cg te cV) B H Q:=h
def Ih (E:B[j]? =#[#[.ref x]])(G:gY H A x I M)(q:dY K A C [.ref x,.str a] H Q):iw A "say" (dY K A C) (vR j) (cg (tC<|.str a) cV) B H Q:=jT E G rfl q
def Pk (h:cG z=true)(q:Q (.bl false) H):K9 K (.str z) (.str z) H Q:=⟨.str z,.str z,⟨rfl,h⟩,⟨rfl,h⟩,by simp[PyData.depth],by rw[ft _ h];calc q⟩
def neI (q:Q (.bl false) H):K9 K (.int n) (.int n) H Q:=⟨.int n,.int n,rfl,rfl,by simp[PyData.depth],by rw[ft _ rfl];calc q⟩
def Ba (h:cG z=true)(q:Q (.bl true) H):BJ K (.str z) (.str z) H Q:=⟨.str z,.str z,⟨rfl,h⟩,⟨rfl,h⟩,by simp[PyData.depth],by rw[ft _ h];calc q⟩
def aon (q:Q (.bl true) H):BJ K (.int n) (.int n) H Q:=⟨.int n,.int n,rfl,rfl,by simp[PyData.depth],by rw[ft _ rfl];calc q⟩
end
section
variable {K:Frag}
def hC (h:Has K H d v)(r:aJ K H ds vs):aJ K H (d::ds) (v::vs):=⟨_,_,rfl,h,r⟩
def hN0:aJ K H [] []:=rfl
def hS (h:cG z=true):Has K H (.str z) (.str z):=⟨rfl,h⟩
def hI:Has K H (.int n) (.int n):=rfl
def akd (h:aJ K H ds vs)(e:m ds=#[(b,d)])(q:∀v E,Same H E->Has K E d v->Q v E):N6 K m vs H Q:=⟨H,ds,Same.refl _,h,b,d,e,λv I E g M=>q v E g.hh (by
 cases b with
 |false=>calc Has.same g.fh M
 |true=>
  let(B,a,D,A,G,h1,_,J,C):=M;subst A G;calc⟨a,D,rfl,aQ.of J,aJ.same g.fh C⟩)⟩
def lD.bnd (S:gB G names D nums Y s0 s1)(o:lD nums Y T W ws A)(U:dZ T):∀r∈D,r.2.1∈seenOf nums/\r.2.2.1∈seenOf nums/\r.2.2.2.1.natAbs<2^8000/\(mK (seenOf nums) A r.2.2.1 - mK (seenOf nums) A r.2.1 - r.2.2.2.2).natAbs<2^8000:=λr hr=>by
 have⟨g,l,m,p,q⟩:=S.len;have t:=o.O.ml;have L:=S.fit.len;have C:∀x∈seenOf nums,0<=mK (seenOf nums) A x/\mK (seenOf nums) A x<=T+1:=λx B=>by
  let(i,H):=dm B;have N:i<!A:=by have:=(af.mp H).1;lk
  delta mK;rw[vY S.ok.nd H<|ar N];have:=o.O.mb i ∅;rw[LH.tD<|ar N] at this;exact this
 let(j,E):=dm hr;let(x,B):=S.fit.at (j:=j) (by have:=(af.mp E).1;lk);rw[B.r] at E;cases bm E;let(_,_,O):=B.a;let(_,_,Q):=B.b;have I:=ag O;have J:=ag Q;have k:=C _ I;have b1:=C _ J;have⟨_,c,d,e⟩:=S.rx _ hr;have v:=S.ok.dr.wd _ hr;have u:=U.2;have M:(100*bR).natAbs<2^8000/\((10)^60+1+bR).natAbs<2^8000:='k'
 calc⟨I,J,by lk,by lk⟩
structure Std (C CD:Addr)(H:Hp)(x dk p dx nn ll D sA:Addr)(bJ:¬PR)(nums:¬(Str×Int))(ls:¬(Str×Q4)):Prop where
 d:gY H CD x dk (.ref p)
 h:aU H C p dx nn ll nums ls
 l:Held H D bJ
 s:H sA=#[.lst<|(seenOf nums).map V.str]
theorem Std.grow (h:Std C B H x I p G M J D w A nums L)(s:Same H E):Std C B E x I p G M J D w A nums L:=⟨s _ _ h.d,h.h.grow s,h.l.grow s,s _ _ h.s⟩
def Std.seen (h:Std C I H x J p L N M D w A nums G)(S:gB B names (A.map (·.2)) nums G s0 s1):Has K H (cX<|seenOf nums) (.ref w):=⟨w,_,rfl,aQ.of h.s,jj λz E=>(S.R z<|S.ok.sub z E).1.can⟩
inductive DY (C CD:Addr)(vs:¬V)(H:Hp)(Q:VK):Prop
 |mk {bJ:¬PR} (e:vs=[.ref x,.ref D,.ref sA,.int T]) (h:Std C CD H x dk p dx nn ll D sA bJ nums ls) (S:gB rooms names (bJ.map (·.2)) nums ls s0 s1) (hT:dZ T) (q:∀H',Same H H'->Q (.bl true) H')
theorem ahI (B:Bl E.mg)(c:Cl K C)(cD:Cls K CD)(Mo:MO E K C (bT 9) 7 (uI K C))(G:MO E K CD (GK 1) 9 (dY K CD C))(Cb:CO E K 71 4 (uU C))(Cw:CO E K 69 2 (Yp K))(Cm:CV E K 70 3 kE)(y:CO E K 64 1 (Yc K))(h:GF E K 72):CO E K 72 10 (DY C CD):=by
 refine Gk ["_law_desk","_law_held","_law_seen","_law_turns_here","_law_many","_law_text","_law_moments_here"] h (λvs H Q h=>by let(rfl,_):=h;rfl) λH nd vt hr n=>?_;refine⟨_,(ak (pS 4 (aR gP (pM Mo (pC Cb (aj (pU 1) (aj (pU 2) aq))) (aj (pU 3) aq)) aH))
  (ak (bQ (eF (lN hr.units) (pM G (pU 0) (aj (bY cH aX (bM cStr gx B.str boot_str (aj (pU 3) aq))) aq)) (bM cStr gx B.str boot_str (aj (pU 4) aq))) (aM (bD rC)) bA)
  (ak (pS 5 (pM G (pU 0) (aj (bY cH aX (bM cStr gx B.str boot_str (aj (pU 3) aq))) aq)))
  (ak (bQ (PW.pt (rD (eF (lN hr.units) (pC Cw (aj (pU 5) (aj (pU 1) (aj (pU 2) (aj (pU 3) aq))))) (pU 4)) (pJ (eF (lN hr.units) (pM G (pU 0) (aj (bY cH aX (bM cStr gx B.str boot_str (aj (pU 3) aq))) aq)) (pU 5))))) (aM (bD rC)) bA)
  (ak (pS 6 (pC Cm (aj (pM G (pU 0) (aj (bY cH aX (bM cStr gx B.str boot_str (aj (pU 3) aq))) aq)) (aj (pU 2) (aj (pU 3) aq)))))
  (aM (bD (Rn (La Y6 aiC (mw (dN (pU 6))) (sw Qo)) (Im (Bc (iZ hr.units) (pC y (aj (pU 1) (aj (pU 6) aq))) (pU 4))))))))))),?_⟩
 let(rfl,h,S,hT,hq):=n;let(W,ws,dI,o):=S.out hT.n7;have M:=o.z S hT;refine bO λN I=>(⟨rfl,h.l,h.s,S,λH1 p2 d nn2 ll2 alC ls2 k b J=>⟨p2,d,_,rfl,J.ins,rfl,?_⟩⟩);let(W2,ws2,aoo,o2):=b.out hT.n7;cases o.eq S b o2;refine o2.sp (K:=K) b J λv H2 U to=>?_;let⟨t,r,e,ht⟩:=ace to;subst e;refine⟨_,_,ht,kj _ _,I _ _ ?_⟩;have s2:=k.trans U;clear k U to ht J;refine bO λN I=>DG (dJ (DX rfl (s2 _ _ h.d) 'k' (λR r=>aG rfl r) hT.z<|Yq S (h.grow s2).d (h.grow s2).h o hT λH3 l=>⟨W,rfl,M.lg,Pk M.ok<|I _ _ ?_⟩));have g:=s2.trans l;clear s2 l;refine bO λN I=>DX rfl (g _ _ h.d) 'k' (λR r=>r) hT.z<|DW S (h.grow g).d (h.grow g).h o hT λH4 m=>I _ _ ?_;have s4:=g.trans m;clear g m;let⟨us,pm,w,f⟩:=aj5 ls ws;have⟨hw,hl8,hj,a,_⟩:=o.walks S;have⟨l1,l2,l3,l4,l5⟩:=S.len;have Y:=(λx A=>hw x<|pm.mem_iff.mp A);have hpl:=pm.length_eq;have⟨more,D⟩:=S.sn;have hok:cG (wtx ls ws)=true:=by rw[f];exact acz λx A=>(Y x A).ww.1
 have es:uf (bJ.map (·.2)) T us=W:=(Vx pm).trans a;refine bO λN I=>orO<|dJ<|?_;rw[f];refine⟨rfl,(h.grow s4).l.has,(h.grow s4).seen S,D,(S.R _ S.two.2.1).1.can,S.fit,l2,by lk,kz (show T+1<10^60+1 by have:=hT.2;lk) 'k',λx A=>⟨(Y x A).wk,(Y x A).ww,(Y x A).f1,(Y x A).f0⟩,w,λj s=>?_,λH5 s5'=>?_⟩
 .rw[DQ,Vx pm,←DQ];exact hj j s
 rw[es];refine aG rfl<|neI<|orF ?_;have u:=s4.trans s5';refine DG (dJ (DX rfl (u _ _ h.d) 'k' (λR r=>aG rfl r) hT.z<|DW S (h.grow u).d (h.grow u).h o hT λH6 s6'=>?_));refine aG rfl ?_;rw[f] at hok ⊢;refine Pk hok<|I _ _ ?_;have p:=u.trans s6';refine bO λN I=>qx (callC (DX rfl (p _ _ h.d) 'k' (λR r=>aG rfl r) hT.z<|ae6 S (h.grow p).d (h.grow p).h o hT λH7 q=>?_));have hm:=(o.DR S hT).1;have ml:=o.O.ml;have O:(!((seenOf nums).zip dI))=!nums:=by rw[gX];lk
 have e0:=Vq hm (λz=>by rw[z] at O;calc absurd O (by simp;lk)) ∅ (by
  have:=Dy (by rw[<-D];calc ml) (by rw[<-D];lk) (λx A=>(S.R x (S.ok.sub x (by rw[D];calc A))).1.can) (λμ i=>by
   let(v,ev):=dm i;have hv:=(af.mp ev).1;have:=o.O.mb v ∅;rw[LH.tD ev] at this;calc this) o.O.m0 o.O.m1
  rw[<-D] at this;calc this)
 refine aG rfl (aG rfl (akd (hC (hS (jV FN λz hz=>by let(x,A,e):=a6.mp hz;calc e▸(hm x A).ok)) (hC ((h.grow<|p.trans q).seen S)<|hC hI hN0)) e0 λv H8 s8' hv=>I _ _ ?_));have s8:=(p.trans q).trans s8';refine tvB 7 [(6,.list<|((seenOf nums).zip dI).map je)] (.c rfl hv .n) rfl λH9 L=>⟨true,rfl,?_⟩;refine dJ (callC (aG rfl (aG rfl ⟨_,_,bJ.map (·.2),seenOf nums,dI,rfl,(h.grow<|s8.trans L).l.has,Has.same L hv,S.ok.nd,ml,by lk,o.bnd S hT,λH10 s10=>?_⟩)));rw[(o.DR S hT).2.1];calc aG rfl<|aon<|hq _<|s8.trans<|L.trans s10
end
end cA
namespace cA
open PyProof.Rows L2 VM
section
variable {K:Frag}
theorem ae9 (B:Bl E.mg)(h:GF E K 64):CO E K 64 1 (Yc K):=by
 refine Gk ["_law_held","_law_moments_here","_law_at","_law_room","_law_moment","_law_found","_law_row"] h (λvs H Q h=>by let(_,_,_,_,_,rfl,_):=h;rfl) λH nd vt hr qe=>?_;refine(_,ak (pS 2 Hu)
  (ak (jG (iM (pU 1)) (ur (eG (pG 3) (eG (pG 4) pP))) (aM (yw (mG hr) (pU 2) (pU 3) (pU 4) rfl)))
  (ak (pS 5 aH)
  (ak (jG (iM (pU 0)) (pG 6) (aM (pS 5 (bY pN (pU 5) (bY RQ (aR dw (pU 6) aH) (dU aaN gx B.max PyProof.Rows.boot_max (aj aH (aj (bY BP (bY BP (uQ (mG hr) (pU 2) (aR dw (pU 6) aH) (λ_ _=>rfl)) (uQ (mG hr) (pU 2) (aR dw (pU 6) aH) (λ_ _=>rfl))) (aR dw (pU 6) aH)) aq))))))))
  (aM (bD (pU 5)))))),?_)
 let(vd,vm,I,seen,A,rfl,(ad,xd,rfl,w,U),(q,xm,rfl,a,Y),s,hml,hsl,n,hq):=qe;have lm:=!Y;have ld:=!U;rw[ac,gX] at lm;rw[ac] at ld;dsimp only[iD];refine bO λN L=>qx λd hd=>L _ _<|bO λN L=>U9 (xs:=xm) (λi C J=>(∃l m,C=[#[.ref ad],#[.ref q],#[.ref d],l,m,none,none])/\Same H J/\∃G,J d=#[.dK G]/\(!G)<=i/\∀x∈seen.take i,eV G x=#[.int<|mK seen A x]) rfl ⟨⟨_,_,rfl⟩,aK hd,[],ao,av _,λ_ h=>(by simp at h)⟩ (λi C J _ h=>h.2.1.seq a) ?_ ?_
 .rintro i v C J j ⟨⟨l,m,rfl⟩,sm,G,c,hl,T⟩;have hi:=(af.mp j).1;let(dd,e,f):=Y.get j;rw[ai] at e;let(p,ep,rfl):=bq.mp e;let(t,rfl,D):=ahu<|f.same sm;let(e1,e2):=du.mp ep;refine⟨_,D,rfl,?_⟩;refine(show Fg (vR 2) (vR 3) (vR 4) _ [#[.ref ad],#[.ref q],#[.ref d],#[.str p.1],#[.int p.2],none,none] J from aG rfl (aG rfl<|aG rfl ⟨d,_,rfl,zU.k (k:=p.1) c<|aY ∅,⟨_,_,rfl⟩,λb o e=>?_,_,ao,ck (rH ..) ∅,λx hx=>?_⟩))
  .rw[au<|aZ e hd];exact sm _ _ e
  .rw[Yo];split
   .rename_i z;rw[z];delta mK;rw[vY s e1 e2];rfl
   .rename_i z;rw[f8,e1] at hx;rcases aT.mp hx with g|g
    .exact T x g
    .exact absurd (a7.mp g) z
 rintro C H2 ⟨⟨l,m,rfl⟩,s2,G,O,_,T⟩;rw[bu ∅] at T;refine L _ _<|bO λN L=>qx<|cO<|L _ _<|bO λN L=>U9 (xs:=xd) (λi C J=>(∃y6,C=[#[.ref ad],#[.ref q],#[.ref d],l,m,#[.int ((I.take i).map<|wY seen A).sum],y6])/\J=H2) rfl ⟨⟨_,rfl⟩,rfl⟩ (λi C J _ h=>by rw[h.2];calc s2.seq w) ?_ ?_
 .rintro i v C J j ⟨⟨y6,rfl⟩,rfl⟩;let(dd,e,f):=U.get j;rw[ai] at e;let(r,er,rfl):=bq.mp e;let(t,rfl,D):=row_has<|f.same s2;let(ha,hb,y,M):=n r<|ag er;have u:(if mK seen A r.2.2.1 - mK seen A r.2.1 - r.2.2.2.2>0 then mK seen A r.2.2.1 - mK seen A r.2.1 - r.2.2.2.2 else 0).natAbs<2^8000:=by
   split
   .exact M
   .exact gE (cv _) M
  have es:((I.take<|i+1).map<|wY seen A).sum=((I.take i).map<|wY seen A).sum+wY seen A r:=by rw[f8,er];simp
  rw[es];exact qx<|dJ<|aG rfl<|dJ<|bI rfl D rfl<|cbO<|gJ<|cO<|gJ<|dJ<|dJ<|aG rfl<|bI rfl D rfl ⟨d,.int<|mK seen A r.2.2.1,rfl,by rw[<-T _ hb];calc mD.k (k:=r.2.2.1) O,aG rfl<|bI rfl D rfl ⟨d,.int<|mK seen A r.2.1,rfl,by rw[<-T _ ha];calc mD.k (k:=r.2.1) O,bI rfl D rfl ⟨0,_,rfl,⟨y,u⟩,⟨_,rfl⟩,rfl⟩⟩⟩
 rintro C H3 ⟨⟨y6,rfl⟩,rfl⟩;rw[<-ld,bu<|av _];calc L _ _<|vZ<|aG (v:=.int _) rfl<|hq _ s2
end
end cA
namespace L2
open PySem.W PySem.Calls PyProof.Rows
def alD:dO X (.type "int") (λxs H Q=>∃k:Bool,xs=[.bl k]/\Q (.int<|if k then 1 else 0) H):=by intro A s B H xs C Q I r h;let(k,rfl,q):=h;obtain⟨u,rfl,L⟩:=vals1 r;cases L;calc call_int_bool ⟨.int<|if k then 1 else 0,H,I.tok _,⟨_,rfl⟩,q⟩
def alE:cF X (binaryOp .Mult) (λx y H Q=>∃z,∃k:Bool,x=.str z/\y=.int (if k then 1 else 0)/\Q (.str<|if k then z else Str.empty) H):=by
 intro A s C H x y v u Q I L M h;let(z,k,rfl,rfl,q):=h;let(t,rfl):=L;let(B,rfl):=M;cases k with
 |false=>calc P.mul_str_none ⋯ ⋯ ⟨.str Str.empty,H,I.tok _,⟨_,rfl⟩,q⟩
 |true=>calc P.mul_str ⋯ (λ_ h=>absurd h<|by simp) (λ_ h=>absurd h<|by simp) ⟨.str z,H,I,⟨_,rfl⟩,q⟩
def akh (M:Mk X.K C f)(F:jA X.prog X.w X.K X.mg X.base k f A ps D)(hr:cY (k+1) X.A)(g:Gl X x)(e:X.mg x=#[.ref C])(b:Binds A ps)(n:((x==("__debug__":Str))=false)∣1):PE X (.Call (.Name x p) [] [] B) (Qi C D cV):=λ_ _ _ _ _ I h=>eR<|Ec I g e (nI I.o9 M.kp<|Ru M F hr b I .nil h) n
end L2
namespace cA
open PyProof.Rows L2 VM StrLaws
def alF (h:∀r∈A,RowW r)(N:(!A)<=8):(v2 jx (vC<|.str "; ")<|jM (cP<|vF 1) [none] (gN 0) c7<|v2 jx (vC<|.str " ")<|v2 tX (xG (vN 0) oN<|oI<|vC<|.int 3)<|dD<|aC (cL tZ<|aC (v2 aW (vN 0)<|vC<|.int 3) a0)<|aC (cL tZ<|aC (v2 aW (vN 0)<|vC<|.int 4) a0) a0) (fX 12 [(1,dR A)])=#[.str<|Str.join "; " (A.map lM)]:=by
 have D:nR (gN 0) c7 (v2 jx (vC<|.str " ")<|v2 tX (xG (vN 0) oN<|oI<|vC<|.int 3)<|dD<|aC (cL tZ<|aC (v2 aW (vN 0)<|vC<|.int 3) a0)<|aC (cL tZ<|aC (v2 aW (vN 0)<|vC<|.int 4) a0) a0) [none] (A.map bh)=#[(A.map lM).map .str]:=by
  rw[g8 (f:=λd=>match d with|.list [.str n,.str a,.str b,.int w,.int l]=>.str (lM (n,a,b,w,l))|d=>d)]
  .rw[bE,bE];rfl
  .intro d G;let(r,hr,rfl):=a6.mp G;have B:=h r hr;refine⟨[#[(.fr,bh r)]],by z_go,rfl,?_⟩;delta bh;z_go;rw[M8 B.w];z_go;rw[show cN [PyData.str r.1,.str r.2.1,.str r.2.2.1,.int r.2.2.2.1,.int r.2.2.2.2] 4=#[.int r.2.2.2.2] from gM rfl];z_go;rw[M8 B.l];z_go;rw[show tX (.list<|VM.cutD [PyData.str r.1,.str r.2.1,.str r.2.2.1,.int r.2.2.2.1,.int r.2.2.2.2] none<|#[3]) (.list [.str<|↥r.2.2.2.1,.str<|↥r.2.2.2.2])=#[.list<|(KQ r).map .str] from ah (by show 5<=sizeLine;decide)];z_go;rw[yS 'k' (λz C=>(B.all z C).ok) (λz C=>(B.all z C).ln) (by rw[nq];show 5*500+5*1<=_;lk)];rfl
 dsimp only[fX];delta dR;z_go;rw[mJ rfl (by rw[ac];calc aY ∅),show iV [none] _=[none] from rfl,D];z_go;rw[yS FN (λz C=>by let(r,hr,e):=a6.mp C;calc e▸(h r hr).ok) (λz C=>by let(r,hr,e):=a6.mp C;calc e▸(h r hr).len) (by rw[ac,qz];lk)]
def ne_nil (A:¬Row):jr (dR A) (.list [])=#[.bool<|not (decide (A=[]))]:=by
 have G:(PyData.list<|A.map bh).depth<=60:=by have:=wR (A.map bh) 10 (λd G=>by let(x,_,rfl):=a6.mp G;simp[bh,PyData.depth,depthAll]);erw[PyData.depth];lk
 delta jr dR;rw[ah G];cases A<;>rfl
inductive Nf (C CD:Addr)(vs:¬V)(H:Hp)(Q:VK):Prop
 |mk {bJ:¬PR} (e:vs=[.ref x,.ref D,.ref sA,.int c1,.int c2]) (h:Std C CD H x dk p dx nn ll D sA bJ nums ls) (S:gB rooms names (bJ.map (·.2)) nums ls s0 s1) (q:∀H',Same H H'->Q (.bl true) H')
section
variable {K:Frag}
def ifL (e:B[i]? =#[#[.int a]])(h1:a<b->t D B H)(h2:Not (a<b)->u D B H):cR (jJ (fC (rM λi j=>.bl (decide (i<j))) (vR i) (tC (.int b)))) t u D B H:=DG (dJ (aG e (show ifK t u D B (.bl (decide (a<b))) H by
 by_cases c:a<b
 .rw[az c];exact h1 c
 .rw[a9 c];calc h2 c)))
def aki (q:Q (.bl<|decide<|a=b) H):BJ K (.int a) (.int b) H Q:=⟨.int a,.int b,rfl,rfl,by simp[PyData.depth],by simpa only[eqv,il] using q⟩
def ifE (e:B[i]? =#[#[.int a]])(h1:a=b->t D B H)(h2:Not (a=b)->u D B H):cR (jJ (fC (BJ K) (vR i) (tC (.int b)))) t u D B H:=DG (dJ (aG e (aki (by
 by_cases c:a=b
 .rw[az c];exact h1 c
 .rw[a9 c];calc h2 c))))
def aop (e:B[i]? =#[#[.int a]])(h1:a=b->cR tc t u D B H)(h2:Not (a=b)->u D B H):cR (Rm (jJ<|fC (BJ K) (vR i)<|tC<|.int b) tc) t u D B H:=by
 delta cR Rm;exact dJ (aG e (aki (by
  by_cases c:a=b
  .rw[az c];exact h1 c
  .rw[a9 c];calc h2 c)))
def aoq (e:B[i]? =#[some .non])(q:t D B H):cR (tB<|Br<|vR i) t u D B H:=by delta cR tB Br;calc aG e ⟨true,rfl,q⟩
def aor (e:B[i]? =#[#[.ref a]])(q:u D B H):cR (tB<|Br<|vR i) t u D B H:=by delta cR tB Br;calc aG e ⟨false,rfl,q⟩
def aos:∃T,(bF gF<|aC (v2 aW (dD<|aC (vF 3)<|aC (vF 4) a0)<|v2 fO (v2 kI (vN 5)<|vC<|.int 6)<|vC<|.int 2) a0) (fX 12 [(3,.int c1),(4,.int c2),(5,.int n)])=#[.int T]/\dZ T/\dZ (T+1):=by
 have m:=fK (n/6) (show(0:Int)<2 by decide);let⟨d,A,h1⟩:=Vv c1;let⟨q,G,h2⟩:=Vv c2;have B:∀{c T},gF [.int c]=#[(false,.int T)]->cN [PyData.int c1,.int c2] (n/6 % 2)=#[.int c]->(bF gF<|aC (v2 aW (dD<|aC (vF 3)<|aC (vF 4) a0)<|v2 fO (v2 kI (vN 5)<|vC<|.int 6)<|vC<|.int 2) a0) (fX 12 [(3,.int c1),(4,.int c2),(5,.int n)])=#[.int T]:=λ{c T} e J=>by dsimp only[fX];z_go;rw[lO ⋯<|by decide];z_go;rw[fV<|by decide];z_go;rw[J];z_go;rw[e];rfl
 rcases(show n/6 % 2=0\/n/6 % 2=1 by lk) with z|z
 .exact⟨d,B A (by rw[z];rfl),h1⟩
 .calc⟨q,B G (by rw[z];rfl),h2⟩
def afa (B:Bl E.mg)(c:Cl K C)(cD:Cls K CD)(Mt:MO E K C (bT 10) 6 (mq K C))(Mw:MO E K C (bT 11) 7 (yQ K C))(L:MO E K CD (GK 1) 9 (dY K CD C))(Cb:CO E K 71 4 (uU C))(Co:CO E K 72 10 (DY C CD))(Cmx:CV E K 53 1 bN)(Ctu:CV E K 62 2 gF)(h:GF E K 73):CO E K 73 11 (Nf C CD):=by
 refine Gk ["_law_desk","_law_held","_law_seen","_law_cell","_law_other","_law_number","_law_way_here","_law_turns_here","_law_hall","_law_told","_law_name","_law_due"] h (λvs H Q h=>by let(rfl,_):=h;rfl) λH nd vt hr qe=>?_;refine⟨_,(ak (pS 5 (qL (pC Cmx (gV (dF (pU 3)) (gV jB nQ)))))
  (ak (pS 6 (bY oMod (pU 5) aH))
  (ak (pS 7 (qL (pC Ctu (gV (NZ (nm (Ca (gV (dF (pU 3)) (gV (dF (pU 4)) nQ)))) (sw (qD oMod hMod (sw (qD oDiv hDiv (mw (dN (pU 5))) (sw jB))) (sw jB)))) nQ))))
  (ak (pS 8 (pC Cb (aj (pU 1) (aj (pU 2) aq))))
  (ak (bQ (eF oLt (pU 6) aH) (aM (bD (pC Co (aj (pU 0) (aj (pU 1) (aj (pU 2) (aj (pU 7) aq))))))) bA)
  (ak (bQ (eF (iZ hr.units) (pU 6) aH) (ak (pS 9 (pM Mt (pU 8) (aj (bY pN (pU 7) aH) aq)))
  (ak (bQ (uW (Ik (pU 9))) (aM (bD (Bc (iZ hr.units) (pM L (pU 0) (aj (bY cH aX (bM cStr gx B.str boot_str (aj (bY pN (pU 7) aH) aq))) aq)) aX))) bA)
  (aM (bD (Bc (iZ hr.units) (pM L (pU 0) (aj (bY cH aX (bM cStr gx B.str boot_str (aj (bY pN (pU 7) aH) aq))) aq)) (bM cStr gx B.str boot_str (aj (aR gP (pU 9) aH) aq))))))) bA)
  (ak (bQ (PW.pt (Bs (eF (iZ hr.units) (pU 6) aH) (xQ (kJ (lN hr.units) hNe (mw (dN (pU 1))) (nw (Ca nQ)))))) (ak (pS 10 (aR dw (aR dw (pU 1) (bY oMod (bY oDiv (pU 5) aH) (dU Y8 gx B.len eA (aj (pU 1) aq)))) aH))
  (aM (bD (Bc (iZ hr.units) (pM L (pU 0) (aj (bY cH (bY cH (bY cH aX (pU 10)) aX) (bM cStr gx B.str boot_str (aj (pU 7) aq))) aq)) (bM cStr gx B.str boot_str (aj (pM Mw (pU 8) (aj (pU 10) (aj (pU 7) aq))) aq)))))) bA)
  (ak (bQ (eF (iZ hr.units) (pU 6) aH) (aM (bD (Bc (iZ hr.units) (pM L (pU 0) (aj aX aq)) (uq de f4 fT Fw aX (aj (pU 2) aq))))) bA)
  (ak (pS 11 (ZK (sw (xr 'k')) (nm (dLC (Jb (cap:=[none]) ["_law_desk","_law_held","_law_seen","_law_cell","_law_other","_law_number","_law_way_here","_law_turns_here","_law_hall","_law_told","_law_name","_law_due"] (aP (top 73)) 'k' rfl rfl (itL (dF (pU 1))) (λ_ _ _ _ _=>(tgN (wA (i:=0) (show(["_law_row"]:¬Str).Nodup by decide +kernel) 'k'))) (λ_ _ _ _ _=>ifN) (λ_ _ _ _ _=>by calc ZK (sw (xr 'k')) (nm (dCat (nm (ajc (dN (pq 'k' 0)) poN (poI (sw jB)))) (nm (Ca (gV (Bh (bM cStr (glC 'k') (by calc B.str) boot_str (pwC (sw (NZ (dN (pq 'k' 0)) (sw jB))) pw0)) adT) (gV (Bh (bM cStr (glC 'k') (by calc B.str) boot_str (pwC (sw (NZ (dN (pq 'k' 0)) (sw jB))) pw0)) adT) nQ))))))))))))
  (aM (bD (Bc (iZ hr.units) (pM L (pU 0) (aj aX aq)) (bY cH (pU 11) (bY alE aX (bM alD gx B.int boot_int (aj (La (iZ hr.units) hEq (mw (dN (pU 1))) (nw (Ca nQ))) aq)))))))))))))))),?_⟩
 let(rfl,h,S,p):=qe;let⟨T,eT,hT,I⟩:=aos (c1:=c1) (c2:=c2) (n:=d9 c1 3);have mk:=fK (d9 c1 3) (show(0:Int)<6 by decide);dsimp only[iD];refine bO λN A=>U8 12 [(3,.int c1)] (.c rfl rfl .n) (z0:=d9 c1 3) (by dsimp only[fX];z_go;rw[wU ⋯<|by decide];rfl) λH1 t1=>A _ _ ?_;refine bO λN A=>qx (aG rfl ⟨show(0:Int)<6 by decide,A _ _ ?_⟩);refine bO λN A=>U8 12 [(3,.int c1),(4,.int c2),(5,.int<|d9 c1 3)] (.c rfl rfl<|.c rfl rfl<|.c rfl rfl .n) eT λH2 t2=>A _ _ ?_;refine bO λN A=>(show uU C [.ref D,.ref sA] H2 _ from⟨rfl,(h.grow<|t1.trans t2).l,(h.grow<|t1.trans t2).s,S,λH3 p2 dx2 nn2 ll2 l ls2 t3 O Y=>A _ _ ?_⟩);have s3:=(t1.trans t2).trans t3;have h3:=h.grow s3;clear t1 t2 t3;refine bO λN A=>ifL rfl (λk=>?_) λk=>A _ _ ?_
 .exact(show DY C CD [.ref x,.ref D,.ref sA,.int T] H3 _ from⟨rfl,h3,S,hT,λH' s'=>p _<|s3.trans s'⟩)
 refine bO λN A=>ifE rfl (λk=>?_) λk=>A _ _ ?_
 .let⟨To,f1⟩:=S.few (n:=T+1) (by have:=hT.1;lk) I.2;let⟨To2,f2⟩:=O.few (n:=T+1) (by have:=hT.1;lk) I.2;cases f1.eq S O f2;have n1:1<=T+1:=by have:=hT.1;lk
  refine bO λN A=>qx (jT rfl Y.ins rfl (show mq K C [.ref p2,.int<|T+1] H3 _ from f2.sp O Y λH4 q=>?_));have G:=s3.trans q;cases f2 with
  |no em2 _=>
   refine A _ _<|bO λN A=>aoq rfl ?_;calc dJ<|DX rfl (G _ _ h.d) 'k' (λR r=>aG rfl r) I.z<|tL S (h.grow G).d (h.grow G).h f1 n1 I λu J=>Ba 'k'<|p _<|G.trans J
  |yes _ _ _ _ v=>intro t r ht;refine A _ _<|bO λN A=>aor rfl<|A _ _ ?_;exact dJ<|DX rfl (G _ _ h.d) 'k' (λR r=>aG rfl r) I.z<|tL S (h.grow G).d (h.grow G).h f1 n1 I λu J=>aaq<|gG rfl (bK.of (J _ _ ht)) (kj _ _) ⟨_,rfl,v.z.lg,Ba v.z.ok<|p _<|G.trans J⟩
 have f:(vB<|v2 jr (vN 1)<|dD a0) (fX 12 [(1,dR<|bJ.map (·.2))])=#[not (decide (bJ.map (·.2)=[]))]:=by dsimp only[fX];z_go;rw[ne_nil]
 refine oW (λH4 q=>?_) λN A=>aop rfl (λk3=>?_) λ_=>A _<|Same.refl _
 rotate_left
 .by_cases cn:bJ.map (·.2)=[]
  .exact Yh 12 [(1,dR<|bJ.map (·.2))] (.c rfl h3.l.has .n) (f.trans<|b9 (λb:Bool=>some (not b))<|az cn) A
  .refine tvT 12 [(1,dR<|bJ.map (·.2))] (.c rfl h3.l.has .n) (f.trans<|b9 (λb:Bool=>some (not b))<|a9 cn) λH4 q=>?_;have G:=s3.trans q;have M:=h.grow G;have hlp:(!(bJ.map λx=>V.ref x.1))=!bJ:=ac ..;have hp0:0<!bJ:=by cases bJ with|nil=>calc absurd rfl cn|cons _ _=>simp
   have mj:=fK (d9 c1 3/12) (show(0:Int)<((!bJ):Int) by lk);obtain⟨j,hj⟩:∃j:Nat,d9 c1 3/12 % ((!bJ):Int)=(j:Int):=⟨(d9 c1 3/12 % ((!bJ):Int)).toNat,by lk⟩;have g:j<!bJ:=by lk
   have hjr:=ar g;refine bO λN A=>qx (dJ (dJ (aG rfl (dJ (dJ (aG rfl ⟨⟨by decide,by decide +kernel⟩,?_⟩))))));refine(show zq K [.ref D] H4 _ from⟨_,.inl<|aQ.of M.l.top,?_⟩);rw[hlp];refine⟨by lk,_,.ref bJ[j].1,aQ.of M.l.top,by rw[hj];calc gM (by rw[ai,hjr];rfl),⟨_,.str bJ[j].2.1,aQ.of (M.l.row _<|gr g),rfl,A _ _ ?_⟩⟩;have U:bJ[j].2∈bJ.map (·.2):=cf<|gr g;generalize bJ[j]=y at U;let⟨W,ws,dI,o⟩:=S.out hT.n7;let⟨W',ws',asa,o'⟩:=(S.drop (nm:=y.2.1)).out hT.n7;let⟨W2,ws2,aoo,o2⟩:=O.out hT.n7;let⟨W2',asb,arl,w⟩:=(O.drop (nm:=y.2.1)).out hT.n7;cases o.eq S O o2;cases o'.eq S.drop O.drop w;have hnm:=(S.N _<|S.ok.dr.sub _ U).2.2;have hTl:=hT.z.len;have hz:iY (W - W'):=by have⟨m,e⟩:=S.sn;have h1:=U6 S.ok e (λr hr=>⟨(S.rx r hr).1,(S.rx r hr).2.1,(S.rx r hr).2.2.1⟩) o.O o'.O;have⟨_,_,a,b⟩:=o.DR S hT;have⟨_,_,c,_⟩:=o'.DR S.drop hT;exact KC ∅ ∅
   have sz:sizeLine=16777216:=rfl;have l6:(!("worth ":Str))=6:='k'
   refine dJ<|jT rfl M.d rfl<|gJ<|dJ<|dJ<|dJ<|cO<|aG rfl ⟨_,_,rfl,rfl,?_,cO ⟨_,_,rfl,rfl,?_,aaq<|aG rfl ⟨T,rfl,hT.z.lg,_,_,rfl,rfl,?_,acC S M.d M.h (cf U) o o' hT λu J=>?_⟩⟩⟩
   .rw[l6];lk
   .rw[bS,l6,nq];lk
   .rw[bS,bS,l6,nq];lk
   have d:=Y.grow<|q.trans J;let(yq,hyq):=qU (by rw[m5 O.ok.lr];calc cf U);exact aaq<|jT rfl d.ins rfl<|show yQ K C [.ref p2,.str y.2.1,.int T] u _ from⟨p2,dx2,nn2,ll2,l,ls2,y.2.1,yq,T,W,W',_,_,rfl,d,hyq,by have:=O.len;lk,o2.em,w.em,λH6 t6=>⟨_,rfl,hz.lg,Ba hz.ok<|p _<|(G.trans J).trans t6⟩⟩
 have G:=s3.trans q;have M:=h.grow G;have⟨l1,l2,l3,l4,l5⟩:=S.len;refine bO λN A=>ifE rfl (λk4=>?_) λk4=>A _ _ ?_
 .refine dJ (Ih rfl M.d<|Pj S M.d M.h λu J=>⟨rfl,aG rfl ⟨_,_,_,rfl,rfl,aQ.of ((M.grow J).s),?_,?_⟩⟩)
  .exact(b9 not (joinFits (B:=12) (λz hz=>(S.R z<|S.ok.sub z hz).2.2) (by rw[nq];lk)):JoinOk " " _=true)
  .rw[show Txt.join " " (seenOf nums)=Str.join " " (seenOf nums) from glued_eq_join ..];exact Ba (jV KJ λz hz=>(S.R z<|S.ok.sub z hz).1.can)<|p _<|G.trans J
 refine bO λN A=>tvS 12 [(1,dR (bJ.map (·.2)))] (.c rfl M.l.has .n) (alF (λr hr=>S.row hr) l2) λu J=>A _ _ ?_;have s5:=G.trans J;have h5:=h.grow s5;refine dJ (Ih rfl h5.d (Vy S h5.d h5.h λH6 t6=>?_));refine dJ (aG rfl (dJ (cO ?_)));refine(show tV K RS (v2 jc (vN 1) (dD a0)) _ H6 _ from tvB (b:=decide (bJ.map (·.2)=[])) 12 [(1,dR (bJ.map (·.2)))] (.c rfl (h5.grow t6).l.has .n) (by
  dsimp only[fX];delta dR;z_go;rw[eq_nil]) λH7 t7=>⟨_,rfl,_,_,rfl,rfl,_,_,rfl,rfl,?_,?_⟩)
 .have e:sizeLine=16777216:=rfl;have:=join_le (s:="; ") (ws:=(bJ.map (·.2)).map lM) (B:=1040) λz hz=>by let(r,hr,e):=a6.mp hz;exact e▸(S.row hr).len
  rw[ac,qz] at this
  have:(if decide (bJ.map (·.2)=[])=true then("none":Str) else Str.empty).length<=4:=by split<;>decide +kernel
  lk
 .have ee:Str.join "; " ((bJ.map (·.2)).map lM)++(if decide (bJ.map (·.2)=[])=true then("none":Str) else Str.empty)=if bJ.map (·.2)=[] then("none":Str) else Str.join "; " ((bJ.map (·.2)).map lM):=by
   by_cases c:bJ.map (·.2)=[]
   .rw[c,az rfl,ah rfl,ah rfl];decide +kernel
   .rw[a9 c,ap<|by simp,ap c,iA]
  rw[ee];refine Ba ?_<|p _<|s5.trans<|t6.trans t7;split
  .decide +kernel
  .calc jV FN λz hz=>by let(r,hr,e):=a6.mp hz;calc e▸(S.row hr).ok
end
abbrev m8 (D w:Addr)(A:¬PR):¬Addr:=D::w::A.map (·.1)
def jW (D w:Addr)(A bW:¬PR)(H E:Hp):Prop:=∀b o,Not (b∈m8 D w A)->(∀k,o≠ .dK k)->H b=#[o]->E b=#[o]/\Not (b∈m8 D w bW)
def jW.trans (f:jW D w B bW H E)(g:jW D w bW A E C):jW D w B A H C:=λb o J I e=>let⟨G,h1⟩:=f b o J I e;g b o h1 I G
def jW.same (s:Same H E):jW D w A A H E:=λb o B _ e=>⟨s b o e,B⟩
def jW.stay (B:aU H C p N M L nums x)(s:fD M L H E):jW D w A A H E:=λb o G I e=>by let(J,c,_):=B.laid;calc⟨s b o (λz=>by rw[z,B.num] at e;cases e;calc I _ rfl) (λz=>by rw[z,c] at e;cases e;calc I _ rfl) e,G⟩
section
variable {K:Frag}
def SL.frm (h:SL K (x::m8 D w A) H t xs)(f:jW D w A bW H E):SL K (x::m8 D w bW) E t xs:=by
 rcases h with⟨o,e,d,m,g⟩|h
 .let(B,C):=f t o (λz=>m<|ae _ z) d e;exact .inl (o,B,d,λz=>(aI.mp z).elim (λz=>m (by rw[z];calc aa)) C,g)
 .calc .inr h
def Yr {seen:¬Str}(G:Held H D A)(L:H B=#[.lst<|seen.map V.str])(nd:(m8 D B A).Nodup)(k:bK K H t d.vals)(Y:(!A)<100)(J:(!seen)<100)(T:∀nm a b w l,d=.lay nm a b w l->(bh (nm,a,b,w,l)).canLay0=true)
  (q:∀E bW,Held E D bW->bW.map (·.2)=uF d (A.map (·.2))->E B=#[.lst<|(zY d seen).map V.str]->(m8 D B bW).Nodup->(∀b o,(∀ys,o≠ .lst ys)->H b=#[o]->E b=#[o])->jW D B A bW H E->Q .non E):uR K [.ref D,.ref B,.ref t] H Q:=by
 refine(D,B,t,A,seen,d,rfl,G,L,nd,k,Y,J,T,λE bW h1 h2 M O U j=>q E bW h1 h2 M O (λb o I e=>U b o (λz=>?_) e) λb o C I e=>⟨U b o C e,λz=>?_⟩)
 .rcases aI.mp z with g|g
  .rw[g,G.top] at e;k_go;exact I _ rfl
  .rcases aI.mp g with g|g
   .rw[g,L] at e;k_go;exact I _ rfl
   .let(y,n,N):=a6.mp g;rw[<-N,G.row y n] at e;k_go;exact I _ rfl
 .rcases aI.mp z with g|g
  .exact C (by rw[g];calc aa)
  .rcases aI.mp g with g|g
   .exact C (by rw[g];calc ae _ aa)
   .rcases j b g with g|g
    .exact C<|ae _<|ae _ g
    .rw[g] at e;k_go
def VB (L:gY H j x m (.ref p))(M:aU H C p o g k nums v)(l:Ok B names A nums v)(R:∀x∈B,Nm x)(N:∀x∈names,Nm x)(I:lA bR B names A d)(t:∀r∈A,r.2.2.2.1<10^60)
  (q:∀G D E,Ok B names (uF d A) D E->seenOf D=zY d (seenOf nums)->aU G C p o g k D E->gY G j x m (.ref p)->fD g k H G->Q (.str "ok") G):dY K j C [.ref x,.str<|Str.join " " (d.word::d.args)] H Q:=by
 refine aeY (DP R N l.dr.sub t 'k' I) L M.ins λy s=>?_;let(D,E,Y,T,run):=step l (λx U=>(R x U).ok) (λx U=>(N x U).ok) I<|M.grow s;refine run _ λG O st=>?_;have J:=(fD.same s).trans st;let(u,c,_):=M.laid;calc q G D E Y T O (J _ _ (λz=>by have:=M.num;rw[<-z,L] at this;cases this) (λz=>by rw[<-z,L] at c;cases c) L) J
structure mL (C CD:Addr)(H:Hp)(x dk p dx nn ll D sA:Addr)(rooms names:¬Str)(s0 s1:Str)(i:Nat)(bJ:¬PR)(nums:¬(Str×Int))(ls:¬(Str×Q4)):Prop where
 d:Std C CD H x dk p dx nn ll D sA bJ nums ls
 ok:Ok rooms names (bJ.map (·.2)) nums ls
 R:∀x∈rooms,Nm x
 N:∀x∈names,Nm x
 sn:∃more,seenOf nums=s0::s1::more
 rx:∀r∈bJ.map (·.2),RX (wB i) r
 nd:(m8 D sA bJ).Nodup
def mL.S (h:mL C G H x I p J M L D w B names s0 s1 i A nums E)(hi:i<=90):gB B names (A.map (·.2)) nums E s0 s1:=(h.ok,h.R,h.N,h.sn,λr hr=>by
 have(a,b,c,d):=h.rx r hr
 have:wB i<=100*bR:=f7 ∅ ⋯
 calc(a,by lk,c,d))
def mL.w60 (h:mL C E H x I p G M J D w B names s0 s1 i A nums L)(hi:i<=90):∀r∈A.map (·.2),r.2.2.2.1<10^60:=λr hr=>by
 have(a,b,c,d):=h.rx r hr
 have:wB i<=90*bR:=f7 ∅ ⋯
 have:90*bR<10^60:='k'
 lk
theorem mL.grow (h:mL C CD H x dk p dx nn ll D sA rooms names s0 s1 i bJ nums ls)(s:Same H H'):mL C CD H' x dk p dx nn ll D sA rooms names s0 s1 i bJ nums ls:=(h.d.grow s,h.ok,h.R,h.N,h.sn,h.rx,h.nd)
theorem mL.len (h:mL C E H x I p G M J D w B names s0 s1 i A nums L):(!A)<100/\(!(seenOf nums))<100:=by have l:=h.ok.len;have:=!h.ok.lr;rw[ac] at this;calc⟨by lk,by delta seenOf;rw[ac];lk⟩
def mL.can {d:bf}(h:mL C CD H x dk p dx nn ll D sA rooms names s0 s1 i bJ nums ls)(I:lA bR rooms names (bJ.map (·.2)) d):∀nm a b w l,d=.lay nm a b w l->(bh (nm,a,b,w,l)).canLay0=true:=λnm a b w l e=>by subst e;calc ad9 (λx A=>(h.R x A).ok) (λx A=>(h.N x A).ok) I
def mL.next {d:bf}(h:mL C CD H x dk p dx nn ll D sA rooms names s0 s1 i bJ nums ls)(I:lA bR rooms names (bJ.map (·.2)) d)(T:bW.map (·.2)=uF d (bJ.map (·.2)))(L:Ok rooms names (uF d<|bJ.map (·.2)) iB lE)(es:seenOf iB=zY d (seenOf nums))(hd:gY H' CD x dk (.ref p))(hh:aU H' C p dx nn ll iB lE)(A:Held H' D bW)(hs:H' sA=#[.lst<|(zY d<|seenOf nums).map V.str])(nd:(m8 D sA bW).Nodup):mL C CD H' x dk p dx nn ll D sA rooms names s0 s1 (i+1) bW iB lE:=
 ((hd,hh,A,by rwa [es]),by rw[T];calc L,h.R,h.N,by let(m,e):=h.sn;rw[es,e];calc ach d s0 s1 m,by rw[T];calc ahv I h.rx,nd)
end
section
variable {K:Frag}
def mL.tup (h:mL C G H x J p L Q M D w B names s0 s1 i A nums O)(f:jW D w A bW H E)(t:bK K H a xs):bK K E a xs:=bK.off t λo I e=>(f a o (λz=>by
 rcases aI.mp z with g|g
 .rw[g,h.d.l.top] at e;k_go;cases I
 .rcases aI.mp g with g|g
  .rw[g,h.d.s] at e;k_go;cases I
  .let(y,n,N):=a6.mp g;rw[<-N,h.d.l.row y n] at e;k_go;cases I) (λk z=>by rw[z] at I;cases I) e).1
def mL.fresh (h:mL C E H x I p G M J D w B names s0 s1 i A nums L)(e:H a=none):Not (a∈x::m8 D w A):=λz=>by
 rcases aI.mp z with g|z
 .rw[g,h.d.d] at e;k_go
 rcases aI.mp z with g|g
 .rw[g,h.d.l.top] at e;k_go
 .rcases aI.mp g with g|g
  .rw[g,h.d.s] at e;k_go
  .let(y,n,N):=a6.mp g;rw[<-N,h.d.l.row y n] at e;k_go
def Ys {d:bf}(h:d.fits)(t:bK K H a d.vals):Has K H d.dat (.ref a):=by
 cases d with
 |lay nm x y w l=>calc⟨a,_,rfl,t,hC (hS su.1.ok)<|hC (hS h.1.ok)<|hC (hS h.2.1.ok)<|hC (hS h.2.2.1.ok)<|hC hI<|hC hI hN0⟩
 |shut nm=>calc⟨a,_,rfl,t,hC (hS su.2.1.ok)<|hC (hS h.ok) hN0⟩
 |widen nm k=>calc⟨a,_,rfl,t,hC (hS su.2.2.1.ok)<|hC (hS h.1.ok)<|hC hI hN0⟩
 |narrow nm k=>calc⟨a,_,rfl,t,hC (hS su.2.2.2.1.ok)<|hC (hS h.1.ok)<|hC hI hN0⟩
end
def Ng (S:gB B names [] nums A s0 s1)(o:lD nums A T W ws C):W=0/\ws=[]:=by
 have N:=S.fit.len;have e:ws=[]:=by
  cases ws with
  |nil=>rfl
  |cons x ws=>have d:=((o.walks S).1 x aa).wk;let⟨j,Y⟩:=dv _ d.ne;have:=d.ix j Y;unfold bU at this;rw[ac,N] at this;cases this
 subst e;calc⟨(o.walks S).2.2.2.1.symm,rfl⟩
def Yt (S:gB B names [] nums A s0 s1)(f:yV nums A n T):T=none:=by
 cases f with
 |no _ _=>rfl
 | @yes G _ _ d g0=>
  cases G with
  |nil=>calc absurd rfl g0
  |cons x G=>have p:=d.r.pos x aa;have h:=d.l x aa;let⟨W,c,C,o⟩:=S.out (T:=x.1) ⟨by lk,h⟩;have h1:=d.w x.1 _ _ _ ∅ o.O;rw[LH.uH d.r,(Ng S o).1] at h1;lk
inductive Ii (C CD:Addr)(vs:¬V)(H:Hp)(Q:VK):Prop
 |mk (e:vs=[.ref x,.ref D,.ref sA,.int n]) (h:mL C CD H x dk p dx nn ll D sA rooms names s0 s1 i bJ nums ls) (hi:i<=80) (n1:1<=n) (hn:dZ n) (q:∀H' bW,gY H' CD x dk (.ref p)->jW D sA bJ bW H H'->Q (.bl true) H')
section
variable {K:Frag}
def alG (e:B[i]? =#[#[.ref a]])(q:t D B H):cR (jJ<|fC Ql (vR i)<|tC .non) t u D B H:=DG<|dJ<|aG e<|show ifK t u D B (.bl true) H from q
theorem yV.ok (f:yV nums x n T):cG (turnT T)=true:=by
 cases f with
 |no _ _=>decide +kernel
 |yes _ _ _ _ U=>calc U.z.ok
def Yu (S:gB G names (A.map (·.2)) nums L s0 s1)(h:Std C I H x Y p j g k D w A nums L)(f:yV nums L n T)(U:1<=n)(J:dZ n)(N:B[0]? =#[#[.ref x]])(O:B[3]? =#[#[.int n]])(Q:B[7]? =#[#[.str<|turnT T]])(q:∀E,Same H E->u M B E):cR (jJ<|fC (K9 K) (iw I "say" (dY K I C) (vR 0)<|cg (fC ago (tC<|.str "turns ")<|qC MP<|cg (vR 3) cV) cV)<|vR 7) t u M B H:=
 DG (dJ<|DX N h.d 'k' (λR r=>aG O r) J.z<|tL S h.d h.h f U J λE s=>aG Q<|Pk f.ok<|q E s)
theorem acE (B:Bl E.mg)(c:Cl K C)(cD:Cls K CD)(Mt:MO E K C (bT 10) 6 (mq K C))(g:MO E K CD (GK 1) 9 (dY K CD C))(Cb:CO E K 71 4 (uU C))(Cln:CV E K 67 1 mz)(Cno:CO E K 61 1 (uR K))(h:GF E K 74):CO E K 74 10 (Ii C CD):=by
 refine Gk ["_law_desk","_law_held","_law_seen","_law_people","_law_name","_law_deed_here","_law_told","_law_due"] h (λvs H Q h=>by let(rfl,_):=h;rfl) λH nd vt hr qe=>?_;refine⟨_,(ak (bQ (kJ (iZ hr.units) hEq (mw (dN (pU 1))) (nw (Ca nQ))) (aM (bD (Bc (iZ hr.units) (pM g (pU 0) (aj (bY cH aX (bM cStr gx B.str boot_str (aj (pU 3) aq))) aq)) aX))) bA)
  (ak (pS 4 (aR dw (aR dw (pU 1) aH) aH))
  (ak (jG (iM (Ca (gV (dTup (gV (xr 'k') nQ)) (gV (dTup (gV (xr 'k') (gV (dF (pU 4)) (gV (qD adk hPow (sw jB) (sw jB)) nQ)))) (gV (dTup (gV (xr 'k') (gV (dF (pU 4)) (gV (qD BP hSub (sw (qD adk hPow (sw jB) (sw jB))) (sw jB)) nQ)))) nQ))))) (pG 5) (ak (bQ (eF NK (dU Y8 gx B.len eA (aj (pU 5) aq)) aH) (ak (cB (pM g (pU 0) (aj (qL (pC Cln (gV (dF (pU 5)) nQ))) aq)))
  (aM (cB (pC Cno (aj (pU 1) (aj (pU 2) (aj (pU 5) aq))))))) bA)
  (ak (pS 6 (pM Mt (pC Cb (aj (pU 1) (aj (pU 2) aq))) (aj (pU 3) aq)))
  (ak (pS 7 aX)
  (ak (bQ (eF Y6 (pU 6) sE) (aM (pS 7 (bM cStr gx B.str boot_str (aj (aR gP (pU 6) aH) aq)))) bA)
  (aM (bQ (eF (lN hr.units) (pM g (pU 0) (aj (bY cH aX (bM cStr gx B.str boot_str (aj (pU 3) aq))) aq)) (pU 7)) (aM (bD rC)) bA)))))))
  (aM (bD rC))))),?_⟩
 let(rfl,h,hi,n1,hn,M):=qe;dsimp only[iD];have S:=h.S ∅;have e0:(vB<|v2 jc (vN 1)<|dD a0) (fX 8 [(1,dR<|bJ.map (·.2))])=#[decide<|bJ.map (·.2)=[]]:=by dsimp only[fX];delta dR;z_go;rw[eq_nil];z_go
 by_cases cn:bJ.map (·.2)=[]
 .refine bO λN L=>tvY 8 [(1,dR<|bJ.map (·.2))] (.c rfl h.d.l.has .n) (e0.trans<|b9 some<|az cn) λH1 t1=>?_;let⟨To,f1⟩:=S.few n1 hn.2;have h1:=h.d.grow t1;refine vZ (dJ (DX rfl h1.d 'k' (λR r=>aG rfl r) hn.z<|tL S h1.d h1.h f1 n1 hn λH2 t2=>?_));rw[cn] at S;cases Yt S f1;exact Ba 'k'<|M _ bJ (t2 _ _ h1.d)<|jW.same<|t1.trans t2
 refine bO λN L=>Yh 8 [(1,dR<|bJ.map (·.2))] (.c rfl h.d.l.has .n) (e0.trans<|b9 some<|a9 cn) λH1 t1=>L _ _ ?_;obtain⟨s,v,rfl⟩:∃y v,bJ=y::v:=by cases bJ with|nil=>calc absurd rfl cn|cons y v=>exact⟨y,v,rfl⟩
 have h1:=h.grow t1;refine bO λN L=>qx<|dJ<|dJ<|aG rfl ⟨_,.ref s.1,aQ.of h1.d.l.top,kj _ _,⟨_,.str s.2.1,aQ.of (h1.d.l.row _ aa),rfl,L _ _ ?_⟩⟩;have hnm:Nm s.2.1:=h.N _<|h.ok.dr.sub _<|aa;generalize hy0:s.2.1=nm at hnm;have aot:nm∈((s::v).map (·.2)).map (·.1):=by rw[<-hy0];exact aa
 have aou:zE (.int 10) (.int 58)=#[.int bR]:=by rw[Ji ⋯ ⋯ ⋯<|by decide];rfl
 refine bO λN L=>aeO (VM.Kf (ds:=[.tuple [.str "rooms"],(bf.widen nm bR).dat,(bf.narrow nm (bR - 1)).dat]) (S:=fX 8 [(4,.str nm)]) (qg.at (.c rfl (hS hnm.ni.ok) .n) rfl) (by
  dsimp only[fX];z_go;rw[aou];z_go;rfl) λa xs H2 t2 hna hx A=>⟨a,rfl,⟨_,aQ.of hx⟩,?_⟩)
 let(v0,r0,e1,hv0,v1,r1,e2,hv1,v2,r2,e3,hv2,e4):=A;subst e4 e3 e2 e1;let(a0',_,e5,hq0,_,_,e6,⟨e7,_⟩,e8):=hv0;subst e5 e8 e6 e7;let(a1,e9,hq1):=HB hv1;let(a2,e10,hq2):=HB hv2;subst e9 e10;have h2:=h1.grow t2;generalize s::v=bJ at*
 have hsl:SL K (x::m8 D sA bJ) H2 a [.ref a0',.ref a1,.ref a2]:=.inl ⟨_,hx,λ_ z=>(by cases z),h1.fresh hna,λ_ e=>aQ.of e⟩;refine forA (ws:=[(a0',none),(a1,#[bf.widen nm bR]),(a2,#[bf.narrow nm<|bR - 1])]) (λy=>V.ref y.1) (λ_ (y:↑V×↑V×↑V)=>[#[.ref x],#[.ref D],#[.ref sA],#[.int n],#[.str nm],y.1,y.2.1,y.2.2])
  (λj H'=>∃k bW iB lE,k<=i+j/\mL C CD H' x dk p dx nn ll D sA rooms names s0 s1 k bW iB lE/\jW D sA bJ bW H2 H'/\nm∈(bW.map (·.2)).map (·.1)/\(j=2->∃r∈bW.map (·.2),r.1=nm/\bR<=r.2.2.2.1)) (none,none,none) rfl ⟨i,bJ,nums,ls,av _,h2,jW.same<|Same.refl _,aot,λz=>by cases z⟩ (λj H' ⟨_,_,_,_,_,_,f,_⟩=>(hsl.frm f).sq) (λj y yy H' A ⟨k,bW,iB,lE,hk,st,fr,hm,hw⟩=>?_) λy H' ⟨_,_,_,_,_,st,f,_⟩=>?_
 .have key:(y.2=none->bK K H' y.1 [.str "rooms"]/\j+1≠2)/\∀d,y.2=#[d]->bK K H' y.1 d.vals/\1<!d.vals/\lA bR rooms names (bW.map (·.2)) d/\nm∈(uF d<|bW.map (·.2)).map (·.1)/\(j+1=2->∃r∈uF d (bW.map (·.2)),r.1=nm/\bR<=r.2.2.2.1):=by
   match j,A with
   |0,A=>cases A;calc⟨λ_=>⟨h2.tup fr hq0,by decide⟩,λd e=>(by k_go)⟩
   |1,A=>
    cases A;refine⟨λe=>(by k_go),λd e=>?_⟩;k_go;refine⟨h2.tup fr hq1,by show 1<3;decide,⟨hm,by decide,by decide⟩,by show nm∈((bW.map (·.2)).map<|gH nm bR).map (·.1);rw[Di];calc hm,λ_=>?_⟩;let(r,hr,er):=a6.mp hm;have:=st.ok.dr.wd r hr;refine⟨_,cf hr,?_⟩;delta gH;rw[ah er];calc⟨er,by show bR<=r.2.2.2.1+bR;lk⟩
   |2,A=>cases A;refine⟨λe=>(by k_go),λd e=>?_⟩;k_go;let⟨r,hr,er,hwr⟩:=hw rfl;exact⟨h2.tup fr hq2,by show 1<3;decide,⟨r,hr,er,by decide,by lk⟩,by show nm∈((bW.map (·.2)).map<|gH nm<|-(bR - 1)).map (·.1);rw[Di];calc hm,λz=>by lk⟩
  have hj3:j<3:=(af.mp A).1;show iC _ _ _ [#[.ref x],#[.ref D],#[.ref sA],#[.int n],#[.str nm],#[.ref y.1],yy.2.1,yy.2.2] H';refine bO λN L=>?_;have go:∀k3 U T m Y,k3<=i+(j+1)->mL C CD Y x dk p dx nn ll D sA rooms names s0 s1 k3 U T m->jW D sA bJ U H2 Y->nm∈(U.map (·.2)).map (·.1)->(j+1=2->∃r∈U.map (·.2),r.1=nm/\bR<=r.2.2.2.1)->N [#[.ref x],#[.ref D],#[.ref sA],#[.int n],#[.str nm],#[.ref y.1],yy.2.1,yy.2.2] Y:=λk3 U T m Y hk3 q fr3 hm3 hw3=>L _ _ ?_
  .cases hy2:y.2 with
   |none=>
    let⟨M,hj⟩:=key.1 hy2;refine DG<|dJ<|show zq K [.ref y.1] H' _ from⟨_,.inr M,go k bW iB lE H' ∅ st fr hm λz=>absurd z hj⟩
   |some d=>
    let⟨M,hl,I,hm',hw'⟩:=key.2 d hy2;have J:=DP st.R st.N st.ok.dr.sub (st.w60 ∅) 'k' I;refine DG (dJ (show zq K [.ref y.1] H' _ from⟨_,.inr M,?_⟩));refine(show ifK _ _ _ _ (.bl (decide ((1:Int)<((!d.vals):Int)))) H' from ?_);rw[az ∅];refine aoe (bO λN1 h1=>aah (jT rfl st.d.d rfl (gJ (tvS 8 [(5,d.dat)] (.c rfl (Ys J M) .n) (z:=Str.join " " (d.word::d.args)) (by
     dsimp only[fX];z_go;rw[GP J];rfl) λY t3=>?_))))
    have q:=st.grow t3;refine(show dY K CD C [.ref x,.str<|Str.join " " (d.word::d.args)] Y _ from VB q.d.d q.d.h q.ok q.R q.N I (q.w60 ∅) λH4 o ls4 ok4 es4 G Yv sy=>h1 _ _ ?_);refine(show uR K [.ref D,.ref sA,.ref y.1] H4 _ from Yr (d:=d) (q.d.l.stay q.d.h sy) (qW q.d.h sy q.d.s) st.nd (q.tup (bW:=bW) (jW.stay q.d.h sy)<|t3.oW M) st.len.1 st.len.2 (st.can I) λH5 aov hH5 l hs5 nd5 kp fr5=>?_);refine go (k+1) aov o ls4 H5 ∅ (q.next I l ok4 es4 ?_ (G.off kp) hH5 hs5 nd5) ?_ (by rw[l];calc hm') (by rw[l];calc hw')
    .exact kp _ _ (λys z=>by cases z) Yv
    .exact((fr.trans<|jW.same t3).trans<|jW.stay q.d.h sy).trans fr5
  .have w:=q.S ∅;let⟨To,f1⟩:=w.few n1 hn.2;refine bO λN1 h1=>qx (show uU C [.ref D,.ref sA] Y _ from⟨rfl,q.d.l,q.d.s,w,λH4 p2 dx2 nn2 ll2 alC ls2 t4 S4 G=>⟨p2,dx2,_,rfl,G.ins,rfl,?_⟩⟩);let⟨To2,f2⟩:=S4.few n1 hn.2;cases f1.eq w S4 f2;refine(show mq K C [.ref p2,.int n] H4 _ from f2.sp S4 G λH5 t5=>?_);have s5:=t4.trans t5;have u:=q.grow s5;have inv:∀O,Same H5 O->∃k bW iB lE,k<=i+(j+1)/\mL C CD O x dk p dx nn ll D sA rooms names s0 s1 k bW iB lE/\jW D sA bJ bW H2 O/\nm∈(bW.map (·.2)).map (·.1)/\(j+1=2->∃r∈bW.map (·.2),r.1=nm/\bR<=r.2.2.2.1):=λO b=>⟨k3,U,T,m,hk3,u.grow b,fr3.trans<|jW.same<|s5.trans b,hm3,hw3⟩;cases f2 with
   |no em2 _=>calc h1 _ _<|bO λN2 h2=>h2 _ _<|bO λN3 h3=>DG<|dJ<|aG rfl<|cO<|h3 _ _<|Yu w u.d f1 n1 hn rfl rfl rfl λO b=>⟨⟨(_,_,_),rfl⟩,inv O b⟩
   |yes _ _ _ _ hT2=>intro t r ht;exact h1 _ _<|bO λN2 h2=>h2 _ _<|bO λN3 h3=>alG rfl<|qx<|aaq<|gG rfl (bK.of ht) (kj _ _) ⟨_,rfl,hT2.z.lg,h3 _ _<|Yu w u.d f1 n1 hn rfl rfl rfl λO b=>⟨⟨(_,_,_),rfl⟩,inv O b⟩⟩
 .calc L _ _<|M _ _ st.d.d<|(jW.same<|t1.trans t2).trans f
end
section
variable {K:Frag}
def akt (t u:TS)(D:Ends)(B:L2.St):VK:=λx H=>match x with
 |.bl k=>if(not k)=true then t D B H else u D B H
 |_=>False
def aku (h:te B H (akt t u D B)):cR (Yx<|jJ te) t u D B H:=h
def agq (h:u D B H):akt t u D B (.bl true) H:=h
def onK (b:TT)(t u:TS)(D:Ends)(B:L2.St):VK:=λx H=>match x with
 |.bl k=>if(not k)=true then t D B H else cR b t u D B H
 |_=>False
def onO (h:te B H (onK tc t u D B)):cR (Ww (Yx<|jJ te) tc) t u D B H:=h
def aow (h:cR tc t u D B H):onK tc t u D B (.bl true) H:=h
def akv (b:TE)(B:L2.St)(Q:VK):VK:=λx H=>∃c,x=.bl c/\if c=true then b B H Q else Q (.bl false) H
def akx (h:te B H (akv D B Q)):afj te D B H Q:=h
def agr (h:D B H Q):akv D B Q (.bl true) H:=⟨true,rfl,h⟩
def aox (n L)(h:qg K H B L)(e:f (fX n L)=#[.tuple [cX xs,cX ys]])(q:∀E a b,Same H E->aQ K E a (xs.map V.str)->aQ K E b (ys.map V.str)->D.nx ((B.set i<|#[.ref a]).set j<|#[.ref b]) E)(C:((!B)=n)∣0)(A:(2=m)∣0):gZ (tV K RS f) (zy K m<|jq (cC i)<|jq (cC j) zx) D B H:=VM.zZ (h.at C) e λv E s M=>by let(w,J,rfl,G,_,_,rfl,⟨a,Q,rfl,h1,I⟩,_,_,rfl,⟨b,T,rfl,h2,O⟩,N):=M;cases(show _=[] from N);cases uP I;cases uP O;calc⟨_,G,A,q E a b s h1 h2⟩
def ahJ (q:∀x I E,H x=none->Same H E->gY E A x I .non->Q (.ref x) E):Qi A (M9 A) cV G H Q:=λx B C T D=>.mk rfl ao ⟨rfl,q x B _ C (λb o e=>by
 have r:b≠x:=λz=>by rw[z,C] at e;k_go
 have Y:b≠B:=λz=>by rw[z,T] at e;k_go
 rw[au r,au r,au Y];calc e) ao⟩
def VD (h1:Nm a)(h2:Nm b)(r:a≠b)(N:gY H M x O Y)(q:∀p G L J E,aU E C p G L J [(a,0),(b,1)] []->gY E M x O (.ref p)->(∀c o,c≠x->H c=#[o]->E c=#[o])->Q (.str "ok") E):dY K M C [.ref x,.str<|"hall"++" "++(a++" "++b)] H Q:=aeZ h1.ni h2.ni h1.ok h2.ok r N λp G L J E U s _ _=>by
 have A:=s _ _ N;let(B,D,(I,c,d),n):=U;refine q p G L J _ ⟨?_,?_,⟨I,?_,d.mono λ_ _ z=>z.same λt j e=>?_⟩,n⟩ ao λc o T e=>by rw[au T];exact s _ _ e
 .rw[au λz=>by rw[z,A] at B;cases B];exact B
 .rw[au λz=>by rw[z,A] at D;cases D];exact D
 .rw[au λz=>by rw[z,A] at c;cases c];exact c
 .rw[au λz=>by rw[z,A] at e;cases e];calc e
def afb (ns:¬Int)(lo hi:↑Int):∃cs:¬Int,uX (ns.map V.int) lo hi=cs.map V.int/\(!cs)<=!ns:=by
 refine((ns.drop<|HT.cj (!ns) 0 lo).take<|HT.cj (!ns) (!ns) hi - HT.cj (!ns) 0 lo,?_,?_)
 .delta uX;rw[ac,←List.map_drop,←map_take]
 .rw[cS,eK];lk
def acH:Nm "new":=Vs<|'k'
def Pn:("hall ":Str)++r++" new"="hall"++" "++(r++" "++"new")/\Str.join " " [r,"new"]=r++" new":=by
 have B:(" new":Str)=" "++"new":='k'
 have G:("hall ":Str)="hall"++" ":='k'
 refine⟨by rw[B,G];erw[fy],?_⟩;show r++" "++"new"=_;rw[B,fy]
def aoy (ns:¬Int):∃D L rest,nu ns=D::L::rest/\L≠"new":=by
 have⟨N,_,_⟩:=Ph ns;have m:=Ay ns;obtain⟨D,L,rest,e⟩:∃D L rest,nu ns=D::L::rest:=by
  match h:nu ns with
  |[]=>rw[h] at N;simp at N;lk
  |[_]=>rw[h] at N;simp at N;lk
  |D::L::rest=>exact⟨D,L,rest,rfl⟩
 refine⟨D,L,rest,e,λz=>?_⟩;have B:(nu ns)[1]? =#[L]:=by rw[e];rfl
 subst z;delta nu at B;split at B
 .rw[gI ∅] at B;exact absurd B<|'k'
 .delta wordsOf at B;rw[ai] at B;let(j,Y,E):=bq.mp B;have A:j=1:=by rw[gc ∅] at Y;exact(bm Y).symm
  subst A;have C:=Ac 1<|wV<|d9 (dg ns 0) 0;rw[E] at C
  have:98∈⇑("new":Str):=by rw[C];simp
  calc absurd this<|'k'
def aky (B:Bl E.mg)(cD:Cls K Y)(MD:Mk K Y fi)(Fi:jA E.P E.w K E.mg E.base 1 fi fdi ["self"] (M9 Y))(bi:Binds fdi ["self"])(hC:E.mg "Desk"=#[.ref Y])(M:MO E K Y (GK 1) 9 (dY K Y C))(Cse:CV E K 66 3 rZ)(Cce:CV E K 52 1 cW)(Cde:CV E K 59 3 rO)(Cno:CO E K 61 1 (uR K))(Cln:CV E K 67 1 mz)(Cas:CO E K 73 11 (Nf C Y))(Co:CO E K 72 10 (DY C Y))(Ctd:CO E K 74 10 (Ii C Y))(Ctu:CV E K 62 2 gF)(Cmx:CV E K 53 1 bN)(F:xW K "law" "law" (top 75) f fd):jA E.P E.w K E.mg E.base 12 f fd ["_law_script"] (Zt K):=by
 have S:iQ ["_law_script","_law_rooms","_law_names","_law_desk","_law_held","_law_other","_law_seen","_law_cell","_law_deed_here"] ["_law_script"] (aP (top 75)):=fs;have nd:=S.nd;have vt:=S.vt;refine F.ok S (λvs H Q h=>by let(_,_,rfl,_):=h;rfl) λ_ _ _ _ H _ _ hr qe=>?_;refine⟨_,(ak (Bt (qL (pC Cse (gV (dF (pU 0)) nQ))) (ur (eG (pG 1) (eG (pG 2) pP))))
  (ak (pS 3 (akh MD Fi (hr.mono ⋯) gx hC bi))
  (ak (pS 4 (xU aq))
  (ak (pS 5 (qL (pC Cce (gV (dF (pU 0)) (gV jB nQ)))))
  (ak (pS 6 (qG K5 (pU 1) WM (uL aH)))
  (ak (bQ (PW.pt (rD (eF (lN hr.units) (pM M (pU 3) (aj (bY cH (bY cH (bY cH aX (aR dw (pU 1) aH)) aX) (aR dw (pU 1) aH)) aq)) aX) (pJ (eF (lN hr.units) (pM M (pU 3) (aj aX aq)) aX)))) (aM (bD rC)) bA)
  (ak (jG (iM (qG K5 (pU 0) (uL aH) (uL aH))) (pG 7) (ak (pS 8 (qL (pC Cde (gV (dF (pU 7)) (gV (dF (pU 4)) (gV (dF (pU 1)) (gV (dF (pU 2)) nQ)))))))
  (ak (cB (pC Cno (aj (pU 4) (aj (pU 6) (aj (pU 8) aq)))))
  (aM (bQ (PW.pt (rD (eF (lN hr.units) (pM M (pU 3) (aj (qL (pC Cln (gV (dF (pU 8)) nQ))) aq)) aX) (pJ (Il (ptV (pC Cas (aj (pU 3) (aj (pU 4) (aj (pU 6) (aj (pU 7) (aj (pU 5) aq))))))))))) (aM (bD rC)) bA)))))
  (ak (bQ (PW.pt (rD (Il (ptV (pC Co (aj (pU 3) (aj (pU 4) (aj (pU 6) (aj aH aq))))))) (pJ (Il (ptV (pC Ctd (aj (pU 3) (aj (pU 4) (aj (pU 6) (aj (bY pN aH (qL (pC Ctu (gV (dF (pU 5)) nQ)))) aq)))))))))) (aM (bD rC)) bA)
  (ak (bQ (kJ NK hGt (sw (qD oMod hMod (sw (qL (pC Cmx (gV (qL (pC Cce (gV (dF (pU 0)) (gV jB nQ)))) (gV jB nQ))))) (sw jB))) (sw jB)) (aM (bD rC)) bA)
  (ak (bQ (PW.pt (rD (eF (lN hr.units) (pM M (pU 3) (aj (bY cH (bY cH aX (aR dw (pU 1) aH)) aX) aq)) aX) (pJ (eF (lN hr.units) (pM M (pU 3) (aj aX aq)) (bY cH (aR dw (pU 1) aH) aX))))) (aM (bD rC)) bA)
  (aM (bD (Rn (Bc (iZ hr.units) (pM M (pU 3) (aj aX aq)) aX) (Rn (Bc (iZ hr.units) (pM M (pU 3) (aj aX aq)) aX) (Im (Bc (iZ hr.units) (pM M (pU 3) (aj aX aq)) aX)))))))))))))))),?_⟩
 let(sc,ns,rfl,hsc,hns,hq):=qe;dsimp only[iD];have hsN:∀{H':Hp},Same H H'->Has K H' (.list (ns.map .int)) (.ref sc):=λk=>⟨sc,_,rfl,k.seq hsc,aJ.ints.mpr rfl⟩;refine bO λN A=>aox 9 [(0,.list (ns.map .int))] (.c rfl (hsN (Same.refl _)) .n) (by
  dsimp only[fX];z_go;rw[ahG];rfl) λH1 ra na t1 hra hna=>A _ _ ?_
 refine bO λN A=>qx (ahJ λx dk H2 hxn t2 hd=>A _ _ ?_);refine bO λN A=>qx ⟨cv _,λD hD=>A _ _ ?_⟩;have i:=aK (o:=.lst []) hD;have hD3:upd H2 D (.lst []) D=#[.lst []]:=ao;generalize upd H2 D (.lst [])=H3 at i hD3 ⊢;refine bO λN A=>U8 9 [(0,.list (ns.map .int))] (.c rfl (hsN (t1.trans (t2.trans i))) .n) (z0:=dg ns 12) (by
  dsimp only[fX];z_go;rw[Tz ⋯];rfl) λH4 t4=>A _ _ ?_
 let⟨u,L,rest,er,a⟩:=aoy ns;have⟨hrl,hrn,hR⟩:=Ph ns;have⟨hn8,hnn,hNm⟩:=acw ns;have hm5:=Ay ns;rw[er] at hra hrl hrn hR;generalize names7 ns=nms at hna hn8 hnn hNm;have I:=(t2.trans<|i.trans t4).seq hra;refine bO λN A=>qx<|aG rfl ⟨2,rfl,ra,_,rfl,I,λw U=>A _ _ ?_⟩;rw[aoc];have t5:=aK (o:=.lst<|[u,L].map V.str) U;have hs5:upd H4 w (.lst<|[u,L].map V.str) w=#[.lst<|[u,L].map V.str]:=ao;generalize upd H4 w (.lst<|[u,L].map V.str)=H5 at t5 hs5 ⊢;have O:=t5.seq I;have l:=t5 _ _<|t4 _ _<|i _ _ hd;have n0:=hR u aa;have n1:=hR L<|ae _ aa;have Tp:u≠L:=λz=>(bd.mp hrn).1 (by rw[z];calc aa);have sz:sizeLine=16777216:=rfl;have l5:(!("hall ":Str))=5:='k'
 have b0:=n0.2.2;have b1:=n1.2.2;refine bO λN A=>orO (dJ (jT rfl l rfl (gJ (dJ (dJ (dJ (cO (bI rfl O (kj _ _) ⟨_,_,rfl,rfl,by rw[l5];lk,cO ⟨_,_,rfl,rfl,by rw[bS,l5,nq];lk,bI rfl O (uy _ _ _) ⟨_,_,rfl,rfl,by rw[bS,bS,l5,nq];lk,?_⟩⟩⟩))))))));refine(show dY K Y C [.ref x,.str<|("hall ":Str)++u++" "++L] H5 _ from ?_);rw[KZ.2];refine VD n0 n1 Tp l λp dx nn ll H6 hh J kx=>cO (Pk 'k'<|orF ?_);have q:∀{t xs},SL K [] H1 t xs->SL K (x::m8 D w []) H6 t xs:=λ{t xs} h=>SL.frame ((((((h.new hxn).grow t2).new hD).grow<|i.trans t4).new U).grow t5) (λb o hb e=>kx b o (λz=>hb (by rw[z];simp)) e) λy hy=>.inl (by simpa [or_comm,or_left_comm] using hy);have akB:=q<|SL.mk0 hra;have akC:=q<|SL.mk0 hna;have afc:=q<|(SL.mk0 hsc).grow t1;have hDx:D≠x:=λz=>by have:=t2;rw[z,hd] at hD;cases hD
 have hsx:w≠x:=λz=>by rw[z] at U;rw[t4 _ _<|i _ _ hd] at U;cases U
 have hDs:D≠w:=λz=>by rw[<-z,t4 _ _ hD3] at U;cases U
 have m:mL C Y H6 x dk p dx nn ll D w (u::L::rest) nms u L 0 [] [(u,0),(L,1)] []:=⟨⟨J,hh,⟨kx _ _ hDx<|t5 _ _<|t4 _ _ hD3,λ_ h=>(by cases h),λ_ h=>(by cases h)⟩,kx _ _ hsx hs5⟩,Vu 's' ∅ hrn hn8 aa (ae _ aa) Tp,hR,hNm,⟨[],rfl⟩,λ_ h=>(by cases h),by simp[m8,hDs]⟩;clear hra I O hna hsc hd l hs5 hD U hxn kx q hh J t1 t2 i t4 t5 hD3;refine DG (dJ (Ih rfl m.d.d (Vy (m.S<|by decide) m.d.d m.d.h λH7 r=>cO (Pk 'k'<|A _ _ ?_))));let(cs,ecs,hcl):=afb ns #[2]<|#[12];refine bO λN A=>aeO<|aG rfl ⟨2,rfl,12,rfl,sc,_,rfl,(afc.grow r).sq,λcz hcz=>⟨cz,rfl,⟨_,aQ.of ao⟩,?_⟩⟩;rw[ecs];have t8:=aK (o:=.lst<|cs.map V.int) hcz;have s:upd H7 cz (.lst<|cs.map V.int) cz=#[.lst<|cs.map V.int]:=ao;generalize upd H7 cz (.lst<|cs.map V.int)=H8 at t8 s ⊢;have st8:=m.grow<|r.trans t8;have hcz:SL K (x::m8 D w []) H8 cz (cs.map V.int):=.inl ⟨_,s,λ_ z=>(by cases z),(m.grow r).fresh hcz,λ_ e=>aQ.of e⟩;have akD:=akB.grow<|r.trans t8;have aoz:=akC.grow<|r.trans t8;have aoA:=afc.grow<|r.trans t8;clear r t8 s akB akC afc m ecs;refine forA (ws:=cs) V.int (λ_ (y:↑V×↑V)=>[#[.ref sc],#[.ref ra],#[.ref na],#[.ref x],#[.ref D],#[.int<|dg ns 12],#[.ref w],y.1,y.2]) (λj H'=>∃bJ nums ls,mL C Y H' x dk p dx nn ll D w (u::L::rest) nms u L j bJ nums ls/\jW D w [] bJ H8 H') (none,none) rfl ⟨[],_,_,st8,jW.same<|Same.refl _⟩ (λj H' ⟨_,_,_,_,f⟩=>(hcz.frm f).sq) (λj c yy H' hj ⟨bJ,nums,ls,st,fr⟩=>?_) λyy H' ⟨bJ,nums,ls,st,fr⟩=>?_
 .have asd:j<!cs:=(af.mp hj).1;let(d,ed,dok):=aju (c:=c) st.ok.dr hnn;have fits:=DP st.R st.N st.ok.dr.sub (st.w60 ∅) 'k' dok;show iC _ _ _ [#[.ref sc],#[.ref ra],#[.ref na],#[.ref x],#[.ref D],#[.int (dg ns 12)],#[.ref w],#[.int c],yy.2] H';refine bO λN A=>tvV 9 [(7,.int c),(4,dR (bJ.map (·.2))),(1,cX (u::L::rest)),(2,cX nms)] (.c rfl rfl (.c rfl st.d.l.has (.c rfl (Yg (akD.frm fr).sq λz hz=>(hR z hz).1.can) (.c rfl (Yg (aoz.frm fr).sq λz hz=>(hNm z hz).1.can) .n)))) (by
   dsimp only[fX];z_go;rw[ed];rfl) λv H1 t1 hv=>A _ _ ?_
  let(tg,ev,htg):=HB hv;subst ev;have G:=st.grow t1;refine bO λN A=>aah (show uR K [.ref D,.ref w,.ref tg] H1 _ from Yr (d:=d) G.d.l G.d.s G.nd htg G.len.1 G.len.2 (G.can dok) λH2 aoB hH2 er2 hs2 nd2 kp fr2=>A _ _ ?_);have hd2:=kp _ _ (λys z=>by cases z) G.d.d;have hh2:=G.d.h.off kp;have aoC:=G.tup fr2 htg;refine orO (dJ (jT rfl hd2 rfl (gJ (tvS 9 [(8,d.dat)] (.c rfl (Ys fits aoC) .n) (z:=Str.join " " (d.word::d.args)) (by
   dsimp only[fX];z_go;rw[GP fits];rfl) λH3 i=>?_))))
  refine(show dY K Y C [.ref x,.str<|Str.join " " (d.word::d.args)] H3 _ from VB (i _ _ hd2) (hh2.grow i) st.ok st.R st.N dok (st.w60 ∅) λH4 alH ls4 ok4 es4 hh4 Yv sy=>cO (Pk 'k'<|orF ?_));have hh3:=hh2.grow i;have WX:=G.next dok er2 ok4 es4 Yv hh4 ((hH2.grow i).stay hh3 sy) (qW hh3 sy<|i _ _ hs2) nd2
  refine aku (show Nf C Y [.ref x,.ref D,.ref w,.int c,.int<|dg ns 12] H4 _ from⟨rfl,WX.d,WX.S ∅,λH5 t5=>agq ⟨⟨(_,_),rfl⟩,aoB,alH,ls4,WX.grow t5,?_⟩⟩);exact fr.trans<|(jW.same t1).trans<|fr2.trans<|(jW.same i).trans<|(jW.stay hh3 sy).trans<|jW.same t5
 .have ase:(!cs)<=63:=by lk
  let⟨T,eT,hT,hT1⟩:=Vv (dg ns 12);refine A _ _ (bO λN A=>onO (show DY C Y [.ref x,.ref D,.ref w,.int 7] H' _ from⟨rfl,st.d,st.S ∅,⟨by decide,by decide +kernel⟩,λH1 t1=>aow (aku (callC (aG rfl (gJ (aG rfl (gJ (aG rfl (gJ (dJ (cO (U8 9 [(5,.int (dg ns 12))] (.c rfl rfl .n) (z0:=T) (by
   dsimp only[fX];z_go;rw[eT];rfl) λH2 t2=>?_)))))))))))⟩))
  refine(show Ii C Y [.ref x,.ref D,.ref w,.int<|1+T] H2 _ from⟨rfl,st.grow<|t1.trans t2,by lk,by have:=hT.1;lk,⟨by have:=hT.1;lk,by have:=hT1.2;lk⟩,λH3 asf hd3 fr3=>agq<|A _ _ ?_⟩);have f3:=fr.trans<|(jW.same<|t1.trans t2).trans fr3;have aoD:=akD.frm f3;have e8:(vB<|v2 yd (v2 fO (bF bN<|aC (bF cW<|aC (vF 0)<|aC (vC<|.int 0) a0)<|aC (vC<|.int 3) a0)<|vC<|.int 8)<|vC<|.int 0) (fX 9 [(0,.list<|ns.map .int)])=#[decide<|d9 (dg ns 0) 3 % 8>0]:=by dsimp only[fX];z_go;rw[Tz<|by decide];z_go;rw[wU ⋯<|by decide];z_go;rw[fV<|by decide];z_go
  have WW:Has K H3 (.list<|ns.map .int) (.ref sc):=⟨sc,_,rfl,(aoA.frm f3).sq,aJ.ints.mpr rfl⟩;by_cases c8:d9 (dg ns 0) 3 % 8>0
  .exact bO λN A=>tvY 9 [(0,.list<|ns.map .int)] (.c rfl WW .n) (e8.trans<|b9 some<|az c8) λH4 t4=>vZ<|cO<|hq _
  refine bO λN A=>Yh 9 [(0,.list<|ns.map .int)] (.c rfl WW .n) (e8.trans<|b9 some<|a9 c8) λH4 t4=>A _ _ ?_;have I:=aoD.grow t4;have Yv:=t4 _ _ hd3;have l5:(!("hall ":Str))=5:='k'
  have l4:(!(" new":Str))=4:='k'
  refine bO λN A=>orO (dJ (jT rfl Yv rfl (gJ (dJ (dJ (cO (bI rfl I.sq (uy _ _ _) ⟨_,_,rfl,rfl,by rw[l5];lk,cO ⟨_,_,rfl,rfl,by rw[bS,l5,l4];lk,?_⟩⟩)))))));refine(show dY K Y C [.ref x,.str (("hall ":Str)++L++" new")] H4 _ from ?_);rw[Pn.1];refine VD n1 acH a Yv λp5 dx5 nn5 ll5 H5 hh5 l kx5=>cO (Pk 'k' (orF ?_));have S5:gB [L,"new"] nms [] [(L,0),("new",1)] [] L "new":=⟨Vu (by show 2<=2;decide) (by show 2<=5;decide) (by simp[a]) hn8 aa (ae _ aa) a,λz hz=>by
   rcases aI.mp hz with g|g
   .exact g▸n1
   .calc a7.mp g▸acH,hNm,⟨[],rfl⟩,λ_ h=>(by cases h)⟩
  have O:SL K [] H5 ra _:=I.frame (λb o hb e=>kx5 b o (λz=>hb (by rw[z];calc aa)) e) λ_ h=>(by cases h);refine DG<|dJ<|Ih rfl l<|Pj S5 l hh5 λH6 t6=>?_;refine dJ (bI rfl (O.grow t6).sq (uy _ _ _) (cO ⟨_,_,rfl,rfl,by rw[l4];lk,?_⟩));rw[show Str.join " " (seenOf [(L,0),("new",1)])=L++" new" from Pn.2];refine Pk (o7 n1.1.can<|'k')<|A _ _ ?_;have h9:dZ 9:=⟨by decide,by decide +kernel⟩;have h1:dZ 1:=⟨by decide,by decide +kernel⟩;let⟨W,ws,dI,o⟩:=S5.out h9.n7;cases(Ng S5 o).1;cases(Ng S5 o).2;let⟨To,f1⟩:=S5.few (n:=1) ⋯ h1.2;cases Yt S5 f1;have J:=t6 _ _ l;have hh6:=hh5.grow t6;refine vZ<|akx<|dJ<|Ih rfl J ?_;rw[show("out 9":Str)="out "++Str.ofString (toString (9:Int)) by decide +kernel];refine Yq S5 J hh6 o h9 λH7 r=>cO (Ba (z:="0") 'k'<|agr<|akx<|dJ<|Ih rfl (r _ _ J) ?_);rw[show("turns 1":Str)="turns "++Str.ofString (toString (1:Int)) by decide +kernel];refine tL S5 (r _ _ J) (hh6.grow r) f1 ⋯ h1 λH8 t8=>cO (Ba (z:="never") 'k'<|agr<|dJ<|Ih rfl (t8 _ _<|r _ _ J) ?_);rw[show("walks 9":Str)="walks "++Str.ofString (toString (9:Int)) by decide +kernel];calc DW S5 (t8 _ _<|r _ _ J) ((hh6.grow r).grow t8) o h9 λH9 t9=>cO<|Ba (z:="none") 'k'<|hq _
end
end cA
namespace cA
open L2 VM
def ahK:vf K "str":=⟨λd C h=>by
 cases d with
 |none=>cases h;kernel_rfl
 |bool _=>cases h;kernel_rfl
 |int _=>cases h;kernel_rfl
 |str _=>cases h;kernel_rfl
 |list _=>cases h;kernel_rfl
 |tuple _=>cases h;kernel_rfl
 |dict _=>cases h⟩
def afd (w:World)(x:Str×Tok×Value):DictEntry:=(keyHash w.params x.1,.str x.1 x.2.1,x.2.2)
theorem Pr:∀l:¬(Str×Tok×Value),Pairs (strKind P w) (l.map<|afd w) (l.map λx=>((x.1:Key),x.2.2))
 |[]=>.nil
 |x::r=>.cons (by show(x.1==x.1)=true;simp) rfl (Pr r)
def afe {l:¬(Str×Tok×Value)}(h:K.lookup a=#[(.type "dict",none,.dict (l.map<|afd w).toArray A,#[])])(C:(l.map (·.1)).Nodup)(M:KV B (l.map λx=>((x.1:Key),x.2.2)))(G:(a==sysModules)=false):KDict P w K a B:=by
 refine(_,_,h,M,(_,A,(rfl,rfl,rfl),rfl,λe Q=>?_,by rw[List.toList_toArray];calc Pr l,?_),G)
 .let(x,_,e):=a6.mp<|List.mem_toArray.mp Q;exact(x.1,by rw[<-e];show(x.1==x.1)=true;simp,by rw[<-e];rfl)
 .rw[bE];delta List.Nodup at C ⊢;rw[j3] at C ⊢;calc C.imp λh z=>h<|z
def nC (K:Frag)(a:Addr)(k:¬Str):Prop:=∃(o:Obj) (A:Array Value) (n:Nat),K.lookup a=#[o]/\o.cls=.type "tuple"/\o.data=.seq A n/\A.size<=sizeLine/\Vals (k.map V.str) A.toList
inductive Ea (K:Frag):¬(Str×Tok×Value)->¬(Str×())->Prop
 |nil:Ea K [] []
 |int (r:Ea K l t):Ea K ((x,tk,.int n i)::l) ((x,.int n)::t)
 |tup (h:nC K a ks) (c:ks.all cG=true) (r:Ea K l t):Ea K ((x,tk,.ref a)::l) ((x,.tuple<|ks.map .str)::t)
def Ea.kv (h:Ea K l t):∃B,KV B (l.map λx=>((x.1:Key),x.2.2))/\∀z,(∃d v,jg z t=#[d]/\eV B z=#[v]/\∀H,Has K H d v)\/jg z t=none/\eV B z=none:=by
 have A:∀{x:Str}{d:()} {v:V} {u:Value} {t:¬(Str×())} {J B},RelV v u->(∀H,Has K H d v)->(KV B J/\∀z,(∃d v,jg z t=#[d]/\eV B z=#[v]/\∀H,Has K H d v)\/jg z t=none/\eV B z=none)->∃B,KV B (((x:Key),u)::J)/\∀z,(∃e v,jg z ((x,d)::t)=#[e]/\eV B z=#[v]/\∀H,Has K H e v)\/jg z ((x,d)::t)=none/\eV B z=none:=λ{x d v u t J B} r G ⟨k,q⟩=>by
  refine((x,v)::B,.cons ⟨rfl,r⟩ k,λz=>?_);rw[jg];by_cases c:x=z
  .rw[ah c,jY<|c];exact .inl (d,v,rfl,rfl,G)
  .rw[ap c,jt λy=>c y];exact q z
 induction h with
 |nil=>calc([],.nil,λz=>.inr ⟨rfl,rfl⟩)
 |int r C=>let(_,q):=C;calc A (v:=.int _) ⟨_,rfl⟩ (λ_=>rfl) q
 |tup h c r C=>let(_,q):=C;calc A (v:=.ref _) rfl (λ_=>(_,_,rfl,.inr h,jj λz D=>cp.mp c z D)) q
def FT (P:Program)(w:World)(K:Frag)(a:Addr)(t:¬(Str×())):Prop:=∀E x,E x=#[.ref a]->KTab P w K E x t
def tab_of (h:K.lookup a=#[(.type "dict",none,.dict (l.map<|afd w).toArray B,#[])])(C:(l.map (·.1)).Nodup)(G:(a==sysModules)=false)(te:Ea K l t):FT P w K a t:=λE x g=>let(_,k,q):=te.kv;.mk g (afe h C k G) q
def akG (h:K.lookup t=#[(.type "tuple",O,.seq #[] n,D)]):nC K t []:=(_,_,_,h,rfl,rfl,by decide,.nil)
def VF (h:K.lookup t=#[(.type "tuple",O,.seq [.str a A].toArray n,D)]):nC K t [a]:=(_,_,_,h,rfl,rfl,by show 1<=sizeLine;decide,.cons ⟨_,rfl⟩ .nil)
def aar (h:K.lookup t=#[(.type "tuple",O,.seq #[.str a A,.str b B] n,D)]):nC K t [a,b]:=(_,_,_,h,rfl,rfl,by show 2<=sizeLine;decide,.cons ⟨_,rfl⟩<|.cons ⟨_,rfl⟩ .nil)
def aoE (h:K.lookup t=#[(.type "tuple",O,.seq #[.str a A,.str b B,.str c tc,.str d C,.str e te] n,D)]):nC K t [a,b,c,d,e]:=(_,_,_,h,rfl,rfl,by show 5<=sizeLine;decide,.cons ⟨_,rfl⟩<|.cons ⟨_,rfl⟩<|.cons ⟨_,rfl⟩<|.cons ⟨_,rfl⟩<|.cons ⟨_,rfl⟩ .nil)
def afg (h:K.lookup a=#[(.type "dict",none,.dict #[(keyHash w.params "turns",.str "turns" C,.int 0 A),(keyHash w.params "people",.str "people" N,.int 1 B)] D,#[])])(G:(a==sysModules)=false):FT P w K a lW:=tab_of (l:=[("turns",C,.int 0 A),("people",N,.int 1 B)]) h (show(["turns","people"]:¬Str).Nodup by decide +kernel) G (.int<|.int .nil)
def afh (h:K.lookup a=#[(.type "dict",none,.dict #[(keyHash w.params "hall",.str "hall" q,.ref s),(keyHash w.params "lay",.str "lay" r,.ref E),(keyHash w.params "shut",.str "shut" v,.ref G),(keyHash w.params "widen",.str "widen" i,.ref Y),(keyHash w.params "narrow",.str "narrow" y,.ref j),(keyHash w.params "out",.str "out" z,.ref J),(keyHash w.params "walks",.str "walks" b,.ref H),(keyHash w.params "moments",.str "moments" c,.ref t),(keyHash w.params "turns",.str "turns" d,.ref u),(keyHash w.params "worth",.str "worth" f,.ref I),(keyHash w.params "rooms",.str "rooms" C,.ref g),(keyHash w.params "passages",.str "passages" D,.ref m)] x,#[])])(M:nC K s ["name","name"])(N:nC K E ["name","name","name","number","number"])(k:nC K G ["name"])(O:nC K Y ["name","number"])(n:nC K j ["name","number"])(Q:nC K J ["turns"])(T:nC K H ["turns"])(p:nC K t ["turns"])(U:nC K u ["people"])(o:nC K I ["name","turns"])(A:nC K g [])(B:nC K m [])(L:(a==sysModules)=false):FT P w K a lV:=
 tab_of (l:=[("hall",q,.ref s),("lay",r,.ref E),("shut",v,.ref G),("widen",i,.ref Y),("narrow",y,.ref j),("out",z,.ref J),("walks",b,.ref H),("moments",c,.ref t),("turns",d,.ref u),("worth",f,.ref I),("rooms",C,.ref g),("passages",D,.ref m)]) h (show(["hall","lay","shut","widen","narrow","out","walks","moments","turns","worth","rooms","passages"]:¬Str).Nodup by decide +kernel) L (.tup M 'k'<|.tup N 'k'<|.tup k 'k'<|.tup O 'k'<|.tup n 'k'<|.tup Q 'k'<|.tup T 'k'<|.tup p 'k'<|.tup U 'k'<|.tup o 'k'<|.tup A 'k'<|.tup B 'k' .nil)
structure FH (K:Frag)(x q:Str)(st:Stmt)(f:Addr):Prop where
 ex:∃oc od kV dc pm an cd ct sl,K.lookup f=#[(oc,od,.func<|fnOf x q (lY st) (eE st) (aP st) .none kV dc pm an cd ct,sl)]/\codeIn K cd q=true/\keepIn K (.ref f)=true
abbrev GH (K:Frag)(x:Str)(st:Stmt):Prop:=∃f,nsIn K mainGlobals x=#[#[.ref f]]/\FH K x x st f
abbrev MH (K:Frag)(C:Addr)(x q:Str)(st:Stmt):Prop:=∃f,findIn K (.ref C) x=#[#[.ref f]]/\isFn K (.ref f)=true/\FH K x q st f
section
inductive XG (P:α)(w:β)(b:γ)(K:Frag)(mg:Str->↑Value):Prop
 |mk (X:K.In h0) (G:h0.Ns mainGlobals mg)
def FH.fn (h:FH K x q st f):∃A,xW K x q st f A:=by let(_,_,_,_,_,_,_,_,_,l,c,k):=h.ex;calc⟨_,aaY l c k⟩
def GH.gf (h:GH K x (top i))(y:XG E.P E.w E.base K E.mg)(e:(Gj (top i)=x)∣0):GF E K i:=by let(_,a,b):=h;let(A,F):=b.fn;let(X,G):=y;cases e;calc⟨F,mg_of X G a⟩
def MH.mf (h:MH K C x q st)(_:XG E.P E.w E.base K E.mg)(e:(Gj st=x)∣0):MF E K C st:=by let⟨_,a,n,b⟩:=h;let⟨A,F⟩:=b.fn;cases e;calc⟨F,a,n,F.kp⟩
def GH.mk' {kV L A p U:Value}(a:nsIn K mainGlobals x=#[#[.ref f]])(l:K.lookup f=#[(j,B,.func<|fnOf x x (lY st) (eE st) (aP st) .none kV L A O p U,D)])(c:codeIn K p x=true)(k:keepIn K (.ref f)=true):GH K x st:=(f,a,j,B,kV,L,A,O,p,U,D,l,c,k)
def MH.mk' {kV L A p U:Value}(a:findIn K (.ref C) x=#[#[.ref f]])(l:K.lookup f=#[(j,B,.func<|fnOf x q (lY st) (eE st) (aP st) .none kV L A O p U,D)])(c:codeIn K p q=true)(k:keepIn K (.ref f)=true)(n:isFn K (.ref f)=true):MH K C x q st:=(f,a,n,j,B,kV,L,A,O,p,U,D,l,c,k)
def K1 {p:A->Prop}(h:p a):∃x,p x:=⟨a,h⟩
end
def all_mk {l:PySem.W.OpenLaw}(X:K.In h)(G:h.Ns mainGlobals mg)(hfa:mg "law"=#[.ref fa])
  (h0:GH K "left_behind" (top 12))
  (h1:GH K "is_nearer" (top 16))
  (h2:GH K "reach" (top 15))
  (h3:GH K "push" (top 18))
  (h4:GH K "way_to" (top 17))
  (h5:GH K "push_all" (top 14))
  (h6:GH K "moves_of" (top 13))
  (h7:GH K "steps_of" (top 10))
  (h8:GH K "best_flow" (top 11))
  (h9:GH K "length_of" (top 20))
  (h10:GH K "passage_on" (top 23))
  (h11:GH K "walk_along" (top 22))
  (h12:GH K "walks_of" (top 21))
  (h13:GH K "moments_of" (top 26))
  (h14:GH K "out_within" (top 25))
  (h15:GH K "turns_by" (top 29))
  (h16:GH K "plan_for" (top 30))
  (h17:GH K "fewest_turns" (top 28))
  (h18:GH K "look_at_name" (top 38))
  (h19:GH K "is_number" (top 46))
  (h20:GH K "value_of" (top 45))
  (h21:GH K "values_of" (top 44))
  (h22:GH K "told_walks" (top 49))
  (h23:GH K "told_passages" (top 50))
  (h24:GH K "_law_cell_at" (top 52))
  (h25:GH K "_law_mixed" (top 53))
  (h26:GH K "_law_whole" (top 54))
  (h27:GH K "_law_words" (top 55))
  (h28:GH K "_law_length" (top 56))
  (h29:GH K "_law_width" (top 57))
  (h30:GH K "_law_fresh" (top 58))
  (h31:GH K "_law_deed" (top 59))
  (h32:GH K "_law_turns" (top 62))
  (h33:GH K "_law_way" (top 63))
  (h34:GH K "_law_moments" (top 65))
  (h35:GH K "_law_sets" (top 66))
  (h36:GH K "_law_line" (top 67))
  (h37:GH K "_law_number_of" (top 68))
  (h38:GH K "_law_moments_of" (top 70))
  (h39:GH K "change" (top 48))
  (h40:GH K "answer_to" (top 47))
  (h41:GH K "_law_noted" (top 61))
  (h42:GH K "_law_bound" (top 64))
  (h43:GH K "_law_walks" (top 69))
  (h44:GH K "_law_built" (top 71))
  (h45:GH K "_law_out" (top 72))
  (h46:GH K "_law_asked" (top 73))
  (h47:GH K "_law_turned" (top 74))
  (h48:GH K "law" (top 75))
  (hC:∃C,nsIn K mainGlobals "NamedHall"=#[#[.ref C]]/\plainGet K C Str.empty=true/\hasDictIn K C=true/\plainOver K C=true/\findIn K (.ref C) "__setattr__"=#[#[.builtin "object.__setattr__"]]/\findIn K (.ref C) "numbers"=#[none]/\findIn K (.ref C) "laid"=#[none]/\makesIn K C=true/\keepIn K (.ref C)=true/\MH K C "__init__" "NamedHall.__init__" (bT 0)/\MH K C "lay" "NamedHall.lay" (bT 1)/\MH K C "shut" "NamedHall.shut" (bT 2)/\MH K C "widen" "NamedHall.widen" (bT 3)/\MH K C "narrow" "NamedHall.narrow" (bT 4)/\MH K C "look_for" "NamedHall.look_for" (bT 5)/\MH K C "change_width" "NamedHall.change_width" (bT 6)/\MH K C "rooms" "NamedHall.rooms" (bT 7)/\MH K C "passages" "NamedHall.passages" (bT 8)/\MH K C "out" "NamedHall.out" (bT 9)/\MH K C "turns_for" "NamedHall.turns_for" (bT 10)/\MH K C "worth" "NamedHall.worth" (bT 11)/\MH K C "out_by" "NamedHall.out_by" (bT 12)/\MH K C "names_on" "NamedHall.names_on" (bT 13)/\MH K C "by_room" "NamedHall.by_room" (bT 14))
  (hD:∃C,nsIn K mainGlobals "Desk"=#[#[.ref C]]/\plainGet K C Str.empty=true/\hasDictIn K C=true/\plainOver K C=true/\findIn K (.ref C) "__setattr__"=#[#[.builtin "object.__setattr__"]]/\findIn K (.ref C) "hall"=#[none]/\makesIn K C=true/\keepIn K (.ref C)=true/\MH K C "__init__" "Desk.__init__" (GK 0)/\MH K C "say" "Desk.say" (GK 1))
  (H:∃t,nsIn K mainGlobals "LONGEST_NAME"=#[#[.int 12 t]])
  (D:∃t,nsIn K mainGlobals "MOST_PASSAGES"=#[#[.int 60 t]])
  (L:∃t,nsIn K mainGlobals "MOST_ROOMS"=#[#[.int 40 t]])
  (T:∃t,nsIn K mainGlobals "START"=#[#[.int 0 t]])
  (m:∃t,nsIn K mainGlobals "GOAL"=#[#[.int 1 t]])
  (I:∃t,nsIn K mainGlobals "MOST_FIGURES"=#[#[.int 60 t]])
  (hF:∃a,nsIn K mainGlobals "FORMS"=#[#[.ref a]]/\FT l.prog w K a lV)
  (hL:∃a,nsIn K mainGlobals "LEAST"=#[#[.ref a]]/\FT l.prog w K a lW)
  (z:nsIn K mainGlobals "len"=#[none]/\nsIn K mainGlobals "list"=#[none]/\nsIn K mainGlobals "range"=#[none]/\nsIn K mainGlobals "enumerate"=#[none]/\nsIn K mainGlobals "zip"=#[none]/\nsIn K mainGlobals "abs"=#[none]/\nsIn K mainGlobals "sum"=#[none]/\nsIn K mainGlobals "min"=#[none]/\nsIn K mainGlobals "max"=#[none]/\nsIn K mainGlobals "int"=#[none]/\nsIn K mainGlobals "bool"=#[none]/\nsIn K mainGlobals "tuple"=#[none]/\nsIn K mainGlobals "str"=#[none]/\nsIn K mainGlobals "sorted"=#[none]/\nsIn K mainGlobals "set"=#[none]/\nsIn K mainGlobals "isinstance"=#[none]/\nsIn K mainGlobals "all"=#[none]):
  ∃fd:FuncData,(∀(s:Shared) (v:Value),BindsTo s fd ⟨[v],[]⟩ [("_law_script",v)])/\∀base:Heap,K.In base->base.Ns mainGlobals mg->jA l.prog w K mg base 12 fa fd ["_law_script"] (Zt K):=by
 let(fl,al,oc,od,kV,dc,pm,an,cd,ct,sl,ll,lc,lk):=h48;have e:=hfa.symm.trans<|mg_of X G al;k_go;let(_,H):=H;let(_,D):=D;let(_,L):=L;let(_,T):=T;let(_,m):=m;let(_,I):=I;have Z:=λ{x} (e:nsIn K mainGlobals x=#[none])=>PySem.W.mg_none_of X G e;let(z0,z1,z2,z3,z4,z5,z6,z7,z8,z9,z10,z11,z12,z13,z14,z15,z16):=z;have B:Bl mg:=⟨Z z0,Z z1,Z z2,Z z3,Z z4,Z z5,Z z6,Z z7,Z z8,Z z9,Z z10,Z z11,Z z12,Z z13,Z z14,Z z15⟩;let(C,aC,pg,hd,po,sa,no1,no2,mk,kC,m_0,m_1,m_2,m_3,m_4,m_5,m_6,m_7,m_8,m_9,aoF,aoG,aoH,aoI,aoJ):=hC;let(CD,aD,pgD,hdD,poD,saD,nD,mkD,kD,d_0,d_1):=hD;have cl:Cl K C:=⟨⟨pg,hd,po,sa⟩,no1,no2⟩;have cD:Cls K CD:=⟨pgD,hdD,poD,saD⟩;refine⟨fnOf "law" "law" (lY<|top 75) (eE<|top 75) (aP<|top 75) .none kV dc pm an cd ct,λs v=>.of_eq rfl,λbase _ _=>?_⟩;have W:=λ{x v} (e:nsIn K mainGlobals x=#[#[v]])=>mg_of X G e;let(_,aF,kF):=hF;have kF:=kF mg "FORMS" (W aF);let(_,aL,kL):=hL;have kL:=kL mg "LEAST" (W aL);let E:En:=⟨l.prog,w,mg,base⟩;have y:XG E.P E.w E.base K E.mg:=⟨X,G⟩;have KT:=anT K;have J:=Ly B KT<|h0.gf y;have aas:=Te B KT<|h1.gf y;have acI:=adU B KT aas<|h2.gf y;have alI:=ag6 B KT<|h3.gf y;have ahL:=abx B KT<|h4.gf y;have d:=VP B KT acI alI ahL<|h5.gf y;have U:=VR B KT<|h6.gf y;have acJ:=V0 B KT J d U<|h7.gf y;have p:=Tf B KT J d U<|h8.gf y;have q:=Ti B KT<|h9.gf y;have Wf:=PB B KT<|h10.gf y;have Wg:=PJ B KT Wf<|h11.gf y;have f:=V1 B KT Wg<|h12.gf y;have g:=PK B KT J acI U<|h13.gf y;have Wh:=PL B KT p f g q<|h14.gf y;have acK:=V2 B KT<|h15.gf y;have acL:=V3 B KT q<|h16.gf y;have c:=J6 B KT acJ acK p acL f g<|h17.gf y;have Q:=J7 B KT (Z z16) (W H)<|h18.gf y;have aat:=Vc B KT (Z z16) (W I)<|h19.gf y;have acM:=Wb B KT kL aat<|h20.gf y;have aau:=Vd B KT kF acM<|h21.gf y;have Wi:=Qg B KT<|h22.gf y;have r:=HY B KT<|h23.gf y;have O:=J8 B KT<|h24.gf y;have A:=PX B KT<|h25.gf y;have Wj:=P0 B KT<|h26.gf y;have Wm:=Qa B KT A<|h27.gf y;have n:=Lz B KT A<|h28.gf y;have Wn:=Qc B KT A<|h29.gf y;have Wo:=Qd B KT<|h30.gf y;have aav:=Tn B KT A Wn Wo n<|h31.gf y;have k:=Qe B KT A<|h32.gf y;have acN:=V4 B KT<|h33.gf y;have u:=Ka B KT Wj<|h34.gf y;have aaw:=Ve B KT Wm O A<|h35.gf y;have o:=Vf B KT ahK<|h36.gf y;have M:=FW B KT<|h37.gf y;have Y:=DN B KT M u<|h38.gf y;have M5:=ag3 cl<|m_5.mf y;have M6:=aja cl<|m_6.mf y;have alJ:=ag4 cl M5<|m_2.mf y;have akH:=adQ cl M5 M6<|m_3.mf y;have ahM:=abu cl M5 M6<|m_4.mf y;have akI:=ajp B cl Q (W D) (W L)<|m_1.mf y;have M7:=adR B cl<|m_7.mf y;have acO:=aey B cl Wh (W T) (W m)<|aoH.mf y;have acP:=aeC B KT cl<|aoI.mf y;have Yw:=ab8 B cl M7<|aoJ.mf y;have akJ:=ajJ B cl acO acP Yw<|m_9.mf y;let(_,_,Oi,mi,bi):=(ag7 cl Q (W T) (W m)<|m_0.mf y).ex;have j:=ad0 B<|h41.gf y;have Wq:=ae9 B<|h42.gf y;have VH:=aeF B cl c (W T) (W m) acP Yw<|aoF.mf y;have acQ:=aeG cl M5 acO<|aoG.mf y;have alK:=ahC cl M7<|m_8.mf y;have ahN:=acr cl akI alJ akH ahM<|h39.gf y;have aax:=ajX B cl akJ VH acQ M7 Wi ahN alK r<|h40.gf y;let(_,_,O0,m0,b0):=(aeW cD nD<|d_0.mf y).ex;have aay:=ajZ B cD nD ⟨mk,mi.at_,mi.fn,kC⟩ Oi bi (W aC) aau aax<|d_1.mf y;have Wr:=ae8 B M acN<|h43.gf y;have N:=ae3 cl ⟨mk,mi.at_,mi.fn,kC⟩ Oi bi (W aC) akI<|h44.gf y;have b:=ahI B cl cD akJ aay N Wr Y Wq<|h45.gf y;have Ws:=afa B cl cD VH acQ aay N b A k<|h46.gf y;have i:=acE B cl cD VH aay N o j<|h47.gf y;calc aky B cD ⟨mkD,m0.at_,m0.fn,kD⟩ O0 b0 (W aD) aay aaw O aav j o Ws b i k A<|aaY ll lc lk
end cA
end Lake
open Lake
open PySem.W PyProof.Rows
local macro_rules | `(universe $x*)=>return Lean.mkNullNode (←mpQ (λx=>return (←`(def $x:ident:=True)).raw) x.toList).toArray
namespace PySem.W.Fast
universe tw342093953733165768 tw12957995237075953646 tw1214478969057013923 tw4409705212890132412 tw9183542163560517304 tw14489696875248124014 tw16469144333889353875 tw8241314973477063115 tw7441924680571804350 tw591129403512990994 tw10090235412981961211 tw15078961378182202452 tw15030386393596410417 tw6700174441495817184 tw3497816670406180040 tw3266895106731332222 tw8019021630413345256 tw1271067396271456687 tw3330069641079167222 tw7316574436426024109 tw9370043109895297991 tw15434981184392794959 tw8513503829154288556 tw811146670948396122 tw5036002572707357167 tw11698756832504375136 tw6558105218586830818 tw1921835182373255661 tw8808475390488697465 tw8501330211110243762 tw548537735803099047 tw1036440192021846978 tw3726353300868533876 tw9978975896260510786 tw6712285578003108674 tw16251341052365829603 tw12512051732919476130 tw11375987153244960087 tw14216405643440982481 tw18142067675443806794 tw13552473430877943331 tw5430635764490216157 tw5225351171861629901 tw13566908303672418653 tw18116573399208953739 tw5028039014109653434 tw15887232186704564943 tw8984986476898652768 tw2897249121709441027 tw12950354234049258111 tw3745847806849418628 tw3109465387436651796 tw13434295858463242405 tw4581550805702066578 tw6735170494696038973 tw17839559325400107298 tw9312437223091797684 tw7915802347553779560 tw6041807335239107334 tw14928978165788927154 tw11643991511646759276 tw3754481713354073761 tw5313540672252425851 tw4530226113965343825 tw897148923699531997 tw16789801169311811441 tw9390178579773619781 tw7949224719160975666 tw4722950675662349056 tw2676302590413801040 tw16806432981678805093 tw14043467926168679809 tw3305898913629950031 tw13428337196199445520 tw13631691303103622785 tw13763185968159920546 tw12684911064292167609 tw9120847828881049437 tw12765754019179620142 tw12458862747925344711 tw14158956401639737268 tw8231182239428371676 tw167586296845166099 tw12111899710780105860 tw6843605808899182848 tw8681491143307369639 tw12382993481389600012 tw3381781106831833194 tw5305673924236031015 tw3382725543094271396 tw2485437136801161519 tw2057690817311763224 tw12145933187284809163 tw11743367417035612759 tw7743359744932975164 tw15056051933815255729 tw10598746896077440792 tw18299721177738539209 tw5753488839944191491 tw12698006745376000471 tw2873640087188195518 tw10826559702889802312 tw9411867073312839718 tw9718380240062397726 tw10657748843648400008 tw6427758353102056043 tw15118054910468676202 tw9793428572714061878 tw10528594803640008191 tw9479555844397979038 tw15331883499314653298 tw18342697492979955713 tw10758093740177754965 tw2162504202324215360 tw13038149334471395784 tw6073021754376571366 tw6964283223523701390 tw13529557279994385727 tw2922866424939679800 tw2098874317521492883 tw7285735210438855420 tw6999605074615989969 tw11725828272697773493 tw14779570115112926248 tw3098314324192782791 tw15615504315897305257 tw1174342223066036230 tw18113123006934257954 tw14089018558668537176 tw2346308396460041539 tw9145247564257101711 tw4072391126262833437 tw5823545888889521849 tw9668283529973594308 tw11494143153587301158 tw12232061767497739305 tw7777109744196812475 tw6738492367322831996 tw9048534537464087027 tw6730436029233634537 tw455181920662291143 tw16455861735515247033 tw6533481861753730677 tw14633620831611012336 tw1819316198641279942 tw3749769497251747774 tw8959931551267818553 tw13626111161053854078 tw3266560563799759129 tw1007346278368946157 tw5650191666715370997 tw4019602991846936804 tw15772099683481971383 tw8696136778415178380 tw1156862800046257866 tw17296617960717352967 tw6481312624183707228 tw10672277040282815988 tw16341905392835481585 tw8582138114682147363 tw5899540753542468946 tw561944587986727548 tw4341863457911183623 tw14375370263311933143 tw504356275807525258 tw16392772591506229590 tw17922083809553201327 tw7835890917024723230 tw14523549657803716474 tw1654414012211551152 tw1479694934204462733 tw14497900969508766467 tw2891384703121648963 tw16513115741678565406 tw1738806648590286331 tw3284500582578073612 tw9199789799364914211 tw14209495964200815312 tw1550744226860320154 tw6593098769278555019 tw7405357283937088331 tw9879282537171028340 tw9667774739046020868 tw7254073247523405145 tw14134189071972671993 tw5010938815568988223 tw7935364999250854774 tw279983632184529236 tw17069484778646498091 tw17768126737503319901 tw14025641370662639323 tw4141325124571877758 tw13720254416753715520 tw14887288758428373997 tw10545016533311492165 tw12797213558309486565 tw15407207096418152276 tw6073828201909079614 tw538866684793756758 tw17644766521322283441 tw11585622668524256170 tw7779075785375457257 tw5035681777183312109 tw4968304354022056579 tw16608341225224749064 tw14605047547013073691 tw1060444046046757065 tw15848573565277078196 tw1088257581916308459 tw9919367480504604241 tw9591430868874498352 tw9525076479663845514 tw14916654667997076705 tw11878400060988489211 tw8324511262357845392 tw18176911044545031232 tw8141017360271347632 tw5535942409352933914 tw2960936344973169106 tw11590837729455130886 tw17348068515677160606 tw6000621300752955613 tw12703353215352612988 tw8107005431334176919 tw8221351111797670930 tw9209857725164783997 tw8387592333459803275 tw7716270409849452597 tw15158717324183599878 tw4543712251806903343 tw13268711030595508122 tw10726560490503149739 tw10593265361460209715 tw12993198475977335983 tw4643572655372757219 tw10107319241791677616 tw4212002371971045340 tw5412968628415913228 tw3936737209968544160 tw12658655188303594793 tw1070702700374374202 tw341089529757113199 tw2153635945577597327 tw10664793522857137998 tw1255244762916952820 tw7164461887404426036 tw14468992710729407129 tw16313463467644120065 tw3960699707332855420 tw6470125391079132734 tw282509510899210100 tw11608246316962222268 tw14892662712162787668 tw9838294659123358542 tw5141053462052591238 tw4779976417788065268 tw14912697654993650289 tw13825337807153998684 tw10182450885003664983 tw13781900399680430858 tw9141123349038488599 tw2412340913706170942 tw12398339743557126662 tw12869639660701019805 tw805378377849172319 tw7593498220187879995 tw10861653329479214587 tw8589263951329631237 tw8530779099264551707 tw9517848368566446302 tw8467647586276876006 tw771600116477993564 tw12759209615017414005 tw5750231110429955766 tw17116579767373987466 tw9591044739747258293 tw917719024451080405 tw8307780631997197203 tw7878719249519430098 tw6942286321621247650 tw15713325731388614658 tw15689516706582034163 tw10731650276657588288 tw5688633368488440131 tw8122696504077096092 tw6293778106069695815 tw14287308572896957394 tw10959465371375004126 tw1547892107674368810 tw422512804739875973 tw17366723787604041912 tw9032029657208064892 tw13488345399875301045 tw13329520602615177361 tw7137298035724223903 tw2809850908040529053 tw13169746726286518226 tw10223885121880417227 tw1708203941901531044 tw17532546039207113626 tw13905613245344804841 tw9997620477860403342 tw8465632064793928822 tw6916279731307049082 tw6348165774491759180 tw464949736075728019 tw9666242709111668018 tw9320651009590522662 tw7637957386590183664 tw7586525800941595708 tw5821471614601799616 tw5155855474544433698 tw4532901520362735832 tw4485956912381744003 tw2599422476018173189 tw15499107979318168724 tw14557268388149559585 tw13132893906790341696 tw11806733612268553547 tw11481434614519592898 tw11190800673072959471 tw9737448850747240844 tw8979916885822309911 tw8474706351869368222 tw7186200722504682574 tw6966696202223894604 tw5488873463368774509 tw422971779517001908 tw2302247157417673422 tw1975950947430389299 tw17940128507339774092 tw17620519350831490927 tw16434819598135388601 tw1642327768298703112 tw15426049320569589768 tw14274446087755052177 tw14025863805107357771 tw13487836016174941348 tw11627585081521964460 tw10683477827047694427 tw10194830859275385978 tw10031627775154958902 tw16005491416741170611 tw10742332483033096420 tw13790649645532031418 tw11286484457046648696 tw15578135230441577346 tw8193097439096939553 tw2543890040208032490 tw13713251246887189067 tw3207705850596532250 tw16966950084032103030 tw2783530293093774713 tw6741064101555890467 tw565610879657534942 tw12168119552832040026 tw9600453934317197509 tw6575294156946761960 tw2660934389999719018 tw12707444312604202816 tw8475707375110217984 tw18328376276190271401 tw1780903021121862417 tw1084941888838802350 tw9778511138099729807 tw16639314849613522852 tw13290383461176328441 tw18315447838428978670 tw2001143123133735680 tw6285147922746045281 tw18025707602659714257 tw5744771725602240373 tw9371888533390565571 tw5976214491441727630 tw295935518091917734 tw15713985075098687784 tw8329310753982645750 tw16446323255107387381 tw892897664088675244 tw9936754968516019024 tw3777979460998122597 tw16208029182696037244 tw13651405313930930075 tw13237821296143102434 tw12556727370320033596 tw12500006220079415716 tw8176691796107862540 tw12849269872935803894 tw8741561697057902149 tw7633253720579865176 tw4943573049878262362 tw3615104491102072351 tw3104681320884716596 tw17218055834096912898 tw15067063063975894476 tw13027922953514083489 tw12641367765627096566 tw5613961092002625925 tw17136056538865776983 tw15193133955871385609 tw17395427333680343007 tw2653159821056404005 tw9474387321280521590 tw7482329502116388309 tw11120361687709664379 tw9130206072091617886 tw16478614494626697151 tw13262612915932418897 tw10915953461145252363 tw729437688328924704 tw8364266784378291582 tw7806248117969704527 tw6102212393010367067 tw4888539929784527047 tw4072574223335429132 tw216998427659810174 tw11890532285070296483 tw10944279610074864898 tw962697726405493422 tw8716989181406053993 tw8313004617645720911 tw8204655917107283335 tw6396997622510951611 tw5566773411109287368 tw4936764209598808977 tw4491682779227443659 tw3915624406439232695 tw2732454413687910517 tw2593424959230445701 tw1907438179586609825 tw173139980654476933 tw14833723826957969096 tw14660672069135464039 tw13165198476156543904 tw12897789463468112656 tw10355240716457626940 tw12220453832533244145 tw7299312959037738393 tw6267245674603441395 tw15877859375336697714 tw12389782916890559661 tw7470219153916026088 tw6557713382178420371 tw6240349291592932576 tw4061164986508608209 tw3705585567670506351 tw16176461893813631795 tw15649077132160851972 tw14273795399936179994 tw1166936278761124057 tw5850791933591350018 tw16215235581436703228 tw9978278081925109264 tw9962094546398094200 tw9958670151576709706 tw9452769761867418280 tw9299879534383668044 tw9235215075771520239 tw9098472231872343325 tw900359165120383779 tw8777065208504153608 tw8775400059127891049 tw8757133671985309733 tw8662256125906203342 tw860283109516502650 tw8535552358938796230 tw8510817605506355312 tw8484152614968430384 tw8413057920229345534 tw8363340035855245762 tw8362615053162508391 tw8240434808219342882 tw8199968977252579587 tw7991063981760064437 tw7948801385283846644 tw7766398624045917072 tw7733962362527170855 tw7572938972724756021 tw7557220104489736278 tw7500562223775471896 tw7161873351136292282 tw7078369922357467783 tw7052981110740142571 tw6745015280770658997 tw6678546967989162706 tw6672198180318683792 tw653661929290703785 tw6485546060302273968 tw6469656929840486311 tw6053217755341165579 tw6035546940313526323 tw5666287653749424382 tw5644320000234701147 tw5599122855873882385 tw5596827131654381426 tw55302234696830676 tw5487705593548519501 tw5390390193596626605 tw530341206473954283 tw526130645632888253 tw5201340087559045467 tw5177041949609077392 tw517210622044275947 tw4876950385489433530 tw4774915106549783576 tw4767829435770168366 tw4738029135026816239 tw4603188488692705122 tw4473571886584673647 tw4453032508933168129 tw4451551885295208952 tw4325661242261844108 tw4207026547484683184 tw4157466740459355349 tw4145060255546142674 tw4089407802979323166 tw4020497575096191645 tw3860298917215247784 tw3728064161586065907 tw3713677823666412474 tw3642533849310695052 tw339741035541549633 tw3395735494106939066 tw33369502577462117 tw3305813087626696052 tw3274773254600889559 tw3262963921199588483 tw303940262958961556 tw2973437776722793342 tw2885781254957229352 tw2767754298195240923 tw2690400761167637322 tw2436534302699695781 tw2390363840324919212 tw2365506779874472167 tw2194892079307496533 tw2168494044988640232 tw2144358286626205176 tw1958442505928816375 tw1896796919797118573 tw18426523662723498766 tw18388927916822563836 tw18211499987365751562 tw181366099002526093 tw1806855378865625699 tw1800937043964434030 tw17944453948141033058 tw17888257724207779715 tw17881294574255859829 tw17676074657696268484 tw17507386786718236657 tw17443274439905650419 tw17279605540349657917 tw17015926895457997487 tw1697387515508747048 tw16895519164474227898 tw16819533024328996993 tw16815804504729881975 tw16617965492792318109 tw16524033350236273909 tw16507879964648210491 tw1620371466444869118 tw16140780403201752070 tw15996420076797406325 tw15953195136741058180 tw15850011588129388785 tw15553384411376746483 tw15548427634357099134 tw1535946269514420771 tw15289023055597451653 tw15197701696172285566 tw15154977508545492458 tw15127527924050456323 tw150646602818237334 tw14963713437885028694 tw14955669557462222931 tw14933845885468218482 tw14903160659750285495 tw14491338405055308827 tw14429493480251674558 tw1441755137719911024 tw14368744308847253221 tw14266031444437175448 tw14091247501693603154 tw13939266401473160613 tw13836382995056052695 tw13780360179133406411 tw13750332072611237562 tw13743134970166030606 tw13698205199597925581 tw13638801701354444592 tw13635787555266081007 tw1363452320662500178 tw13632163111457641359 tw13507401225496829582 tw13345767375160798222 tw1319884439066177900 tw13112123977955203805 tw13090086061014082926 tw12817688994234133011 tw12723117796848519662 tw12623031227386644707 tw12561297326749693500 tw12452128511661552385 tw12374639526025015380 tw122242850772554859 tw1214185898147417909 tw12053221264174218267 tw11930367452124279150 tw11683444692026884959 tw11560321040273091353 tw11488970465424357230 tw1131069488251583526 tw11290677810273649119 tw1119702869342956654 tw11152284388660751682 tw11092845652092723419 tw10965021288578655561 tw10919148956356224713 tw1085716249409504803 tw10812223121411927811 tw10735564995628451062 tw10689491561527710867 tw10411215680713771611 tw1029115349389247854 tw1019101672426561123 tw10062701382965294650
end PySem.W.Fast
set_option maxRecDepth 100000 in
set_option maxHeartbeats 0 in
theorem PySem.Challenge.cw_leavehall_k71_whole_desk_holds : PySem.Challenge.rw_leavehall_k71_whole_desk.Holds := by
 w_on;o_law;k_head;(case hw=>w_witness2)
 k_fill
 refine VM.walk (l:=PySem.Challenge.rw_leavehall_k71_whole_desk) (k:=12) (x:="_law_script") rfl rfl ⟨rfl,by decide,by decide⟩ (λw h Y=>PySem.W.kIn_of Y) ?F;case F=>
  intro w mg fa h KX G hmg;refine' cA.all_mk KX G hmg ?ash ?asi ?asj ?asl ?asn ?aso ?asp ?asq ?asr ?asu ?arn ?aro ?arp ?arq ?ars ?aru ?arv ?arw ?arx ?arz ?arA ?arB ?arC ?arD ?arE ?arF ?arG ?arH ?arI ?arJ ?arK ?arL ?arM ?arN ?arO ?arP ?arQ ?arR ?arS ?arT ?arU ?arV ?arW ?arX ?arY ?arZ ?ar0 ?ar3 ?ar4 ?qqC ?qqD ?asv ?asw ?asx ?asy ?asz ?asA ?qqF ?qqL ?qqz;case qqC=>refine' cA.K1 ⟨?_,?_,?_,?_,?_,?_,?_,?_,?_,?_,?_,?_,?_,?_,?_,?_,?_,?_,?_,?_,?_,?_,?_,?_⟩<;>first|k_is|(refine' cA.MH.mk' ?a ?l ?c ?k ?n;(case a=>k_is);(case l=>k_is);(case c=>k_is);(case k=>k_is);(case n=>k_is))|skip
  case qqD=>refine' cA.K1 ⟨?_,?_,?_,?_,?_,?_,?_,?_,?_,?_⟩<;>first|k_is|(refine' cA.MH.mk' ?a ?l ?c ?k ?n;(case a=>k_is);(case l=>k_is);(case c=>k_is);(case k=>k_is);(case n=>k_is))|skip
  case qqF=>refine' cA.K1 ⟨?a,?b⟩;(case a=>k_is);(case b=>(refine' cA.afh ?h ?q0 ?q1 ?q2 ?q3 ?q4 ?q5 ?q6 ?q7 ?q8 ?q9 ?q10 ?q11 ?ha;(case h=>k_is);(case q0=>refine' cA.aar ?a;(case a=>k_is));(case q1=>refine' cA.aoE ?a;(case a=>k_is));(case q2=>refine' cA.VF ?a;(case a=>k_is));(case q3=>refine' cA.aar ?a;(case a=>k_is));(case q4=>refine' cA.aar ?a;(case a=>k_is));(case q5=>refine' cA.VF ?a;(case a=>k_is));(case q6=>refine' cA.VF ?a;(case a=>k_is));(case q7=>refine' cA.VF ?a;(case a=>k_is));(case q8=>refine' cA.VF ?a;(case a=>k_is));(case q9=>refine' cA.aar ?a;(case a=>k_is));(case q10=>refine' cA.akG ?a;(case a=>k_is));(case q11=>refine' cA.akG ?a;(case a=>k_is));(case ha=>rfl)))
  case qqL=>refine' cA.K1 ⟨?a,?b⟩;(case a=>k_is);(case b=>(refine' cA.afg ?h ?ha;(case h=>k_is);(case ha=>rfl)))
  case qqz=>refine⟨?_,?_,?_,?_,?_,?_,?_,?_,?_,?_,?_,?_,?_,?_,?_,?_,?_⟩<;>k_is
  all_goals first|(refine' cA.GH.mk' ?a ?l ?c ?k;(case a=>k_is);(case l=>k_is);(case c=>k_is);(case k=>k_is))|(refine' cA.K1 ?a;(case a=>k_is))
