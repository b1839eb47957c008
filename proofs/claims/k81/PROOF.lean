import PyProof.Rows.All
import Wide.All
import OpenK.AllK
import Wide.FinOn
import Lean
import PyProof.EqAt
import PyProof.EqKinds
import PyProof.TupleCall
import KE.KIntText
import PyProof.StrCalls2
import PyProof.StrBlock2
import PyProof.Rows.StrNews2
import PyProof.Rows.SortStr
import PyProof.Rows.StrMeet
import PyProof.Rows.SortWalk
import PyProof.StrLawsRepr
import PyProof.Truth
import KE.KDictList
import KE.IntTextLaws
import KE.KxText
import PyProof.Rows.StrAscii
import PyProof.StrOps2
import PyProof.StrOps
import PyProof.DictWalks
import PyProof.Rows.SetFrom
import PyProof.SetRoads
import PySem.Challenge.RW_leavehall_k81_whole_desk_by_its_texts
set_option bootstrap.genMatcherCode false
set_option compiler.extract_closed false
set_option Elab.async false
set_option linter.all false
set_option maxRecDepth 100000
set_option maxHeartbeats 4000000
noncomputable section
open PySem PySem.Spec
open PySem.W (Frag callWith_K codeIn emptyDict findIn fnOf handedIn hasDictIn instObj isFn kdl_call keepIn kia_one kitOne lookIn makesIn mg_of nsIn plainGet plainGet_of plainOver takerIn)
open Int (add_assoc add_mul emod_nonneg lt_of_le_of_lt lt_trans mul_add mul_assoc mul_le_mul_of_nonneg_left mul_nonneg mul_sub reducePow sub_zero toNat toNat_natCast)
open Nat (add_zero le_add_right le_of_eq le_of_lt le_refl le_succ le_trans lt_irrefl lt_of_lt_of_le ne_of_gt ne_of_lt not_lt reduceAdd reduceSub sub_self zero_add zero_le)
open List (all_cons all_eq_true any_cons any_map append_assoc append_nil cons_append drop_drop drop_eq_getElem_cons drop_left drop_zero filter_cons find?_cons foldl foldl_cons foldl_nil forIn_cons forIn_nil forall_mem_cons getD_eq_getElem?_getD getElem?_append_left getElem?_append_right getElem?_cons_succ getElem?_cons_zero getElem?_eq_getElem getElem?_eq_none getElem?_map getElem?_of_mem getElem?_range getElem?_replicate getElem?_set_ne getElem?_set_self length_append length_cons length_drop length_eq_zero_iff length_filter_le length_map length_nil length_pos_iff length_set length_take length_zip map_append map_congr_left map_cons map_fst_zip map_id map_map map_nil map_set map_take mem_append mem_append_left mem_append_right mem_cons mem_cons_of_mem mem_cons_self mem_filter mem_iff_getElem? mem_map mem_map_of_mem mem_of_getElem? mem_of_mem_take mem_range mem_singleton nil_append nodup_append nodup_cons nodup_nil not_mem_nil of_mem_zip pairwise_cons pairwise_map replicate replicate_succ set_cons_succ set_cons_zero size_toArray sum_cons sum_nil take_add_one take_left take_of_length_le take_succ take_succ_cons take_zero zip_cons_cons)
open Array (all_eq_true' all_toList length_toList toList toList_append toList_inj)
open Bool (and_eq_true eq_false_iff false_eq_true not_eq_true' or_eq_true)
open PyData (canLay0 canLayAll0 depthAll eqv keyHash)
open Function (comp)
open Heap (get?_push_of_some get?_push_size get?_update_other get?_update_self lt_size size_push)
open Option (getD_some isSome map_eq_some_iff map_some)
open Value (type)
def aa:=@PySem.wpAny_bind
def ac:=@List.length_map
def ae:=@List.mem_cons_self
def af:=@List.mem_cons_of_mem
def ag:=@List.mem_of_getElem?
def ah:=@List.getElem?_eq_some_iff
def ai:=@List.getElem?_eq_getElem
def ap:=@if_pos
def ar:=@PySem.Heap.get?_push_of_some
def av:=@Nat.le_refl
def aw:=@if_neg
def ax:=@PySem.wpAny_pure
def ay:=@List.getElem?_map
def aE:=@List.length_append
def aI:=@List.mem_singleton
def aS:=@decide_eq_false
def aT:=@List.map_cons
def a8:=@List.length_cons
def a9:=@decide_eq_true
def bc:=@PySem.Heap.get?_push_size
def bd:=@List.mem_append
def be:=@Int.mul_le_mul_of_nonneg_left
def bg:=@List.mem_map
def bj:=@Bool.and_eq_true
def bm:=@List.getElem?_eq_none
def bn:=@List.take_of_length_le
def bo:=@List.getElem?_set_self
def bp:=@Bool.false_ne_true
def bq:=@List.mem_cons
def br:=@List.getD_eq_getElem?_getD
def bt:=@PySem.Str.length_append
def bu:=@List.size_toArray
def bv:=@Option.some.inj
def bE:=@Int.le_refl
def bP:=@List.getElem?_set_ne
def bS:=@Array.length_toList
def bX:=@Nat.lt_of_lt_of_le
def b6:=@List.mem_append_right
def b7:=@List.map_append
def b8:=@PySem.Heap.lt_size
def b9:=@List.getElem?_append_left
def ca:=@decide_eq_true_eq
def cb:=@Nat.le_trans
def cc:=@List.length_set
def ce:=@List.map_map
def cf:=@PySem.F.plainAttrs_str
def ci:=@Ne.symm
def ck:=@PySem.Heap.get?_update_other
def cm:=@PySem.wpAny_field
def cp:=@List.all_eq_true
def cq:=@List.sum_cons
def cv:=@Nat.zero_le
def cw:=@congrArg
def cx:=@List.map_congr_left
def cy:=@PyProof.Rows.callWith_type1
def cz:=@List.getElem?_append_right
def cE:=@List.append_assoc
def cK:=@PySem.wpAny_truthy_bool
def cS:=@List.nodup_cons
def c5:=@List.mem_append_left
def c6:=@Option.map_eq_some_iff
def c8:=@Nat.ne_of_lt
def c9:=@List.length_nil
def da:=@PySem.wpAny_callSpecial?_slot
def db:=@PySem.boot_len
def de:=@PySem.F.type_str_split
def df:=@PySem.F.slot_str_split
def di:=@List.mem_filter
def dm:=@PySem.F.type_str_join
def dn:=@PySem.F.slot_str_join
def dq:=@List.getElem?_of_mem
def dt:=@PySem.F.called_set
def du:=@PySem.F.plainAttrs_dict
def dv:=@Int.eq_ofNat_of_zero_le
def dA:=@PySem.wpAny_seqItems
def dE:=@if_true
def dL:=@Nat.lt_of_le_of_lt
def dP:=@PySem.F.plain_extend_loop
def dQ:=@List.nodup_append
def dS:=@Bool.false_eq_true
def dT:=@PySem.wpAny_holding
def d5:=@Int.lt_of_le_of_lt
def ed:=@PySem.Str.append_assoc
def ee:=@List.length_eq_zero_iff
def eg:=@if_false
def ei:=@PySem.Str.cps_append
def eA:=@Option.some.injEq
def eB:=@Int.le_trans
def eD:=@True.intro
def eI:=@List.forall_mem_cons
def eJ:=@List.take_add_one
def eK:=@List.drop_eq_getElem_cons
def eL:=@PySem.mem_of_lookup
def eM:=@PySem.F.slot_zip_next
def eP:=@PySem.wpAny_newObj_type
def eQ:=@List.foldl_cons
def eR:=@PySem.wpAny_mono
def eT:=@Array.toList_append
def eW:=@PyProof.Rows.boot_list
def fe:=@Int.lt_of_lt_of_le
def fg:=@PySem.wpAny_call_entry
def fk:=@Int.mul_nonneg
def fm:=@List.length_take
def fo:=@PySem.wpAny_setField_rec
def fq:=@PySem.wpAny_Call_Name_kw
def ft:=@Int.lt_trans
def fv:=@PySem.wpAny_passesOwn
def fx:=@List.map_nil
def fy:=@decide_false
def fz:=@List.getElem?_zip_eq_some
def fA:=@List.exists_mem_of_ne_nil
def fE:=@Array.getElem?_eq_getElem
def fF:=@PyProof.Rows.F.plain_set_update_loop
def fI:=@List.not_mem_nil
def fN:=@List.mem_map_of_mem
def fR:=@List.filter_cons
def fS:=@List.append_nil
def fT:=@PySem.sizeLine_eq
def f7:=@Nat.le_add_right
def f8:=@PySem.F.slot_tuple_iterator_next
def gc:=@PySem.Around.under_plainId
def gd:=@List.length_filter_le
def ge:=@Bool.eq_false_iff
def gh:=@Int.toNat_natCast
def gi:=@LawfulBEq.eq_of_beq
def gm:=@List.nil_append
def gp:=@List.getElem?_replicate
def gr:=@List.getElem?_cons_zero
def gs:=@PySem.Heap.get?_update_self
def gu:=@PySem.codeAny_builtin
def gy:=@PyProof.Rows.slot_tuple_getitem
def gz:=@List.cons_lt_cons_iff
def gE:=@Int.mul_le_mul_of_nonneg_right
def gI:=@PySem.wpAny_nextOf_list_item
def gL:=@or_false
def gS:=@decide_true
def gX:=@Bool.or_eq_true
def g9:=@List.of_mem_zip
def hE:=@List.mem_iff_getElem?
def hU:=@Int.emod_nonneg
def hV:=@Int.emod_lt_of_pos
def hX:=@List.mem_of_mem_take
def hY:=@PySem.wpAny_updateSeq
def hZ:=@Nat.lt_irrefl
def ic:=@PySem.codeAny_mono
def ie:=@PySem.call_meetsIn
def ii:=@PySem.typeIs_str
def ij:=@Array.toList_inj
def ik:=@PySem.call_meets
def il:=@beq_self_eq_true
def im:=@PySem.SeqAt.eqv_refl
def ip:=@Nat.lt_succ_self
def iq:=@Int.add_mul
def ir:=@List.length_drop
def iA:=@Int.zero_add
def iE:=@Int.le_of_lt
def iF:=@PySem.wpAny_pyIter_list
def iL:=@List.pairwise_cons
def iN:=@Int.natCast_add
def iO:=@PySem.F.args_zip_next_1
def iP:=@PySem.plainId_quiet
def iS:=@Nat.le_of_lt
def iX:=@List.take_append_drop
def i0:=@List.length_singleton
def i7:=@List.length_replicate
def i8:=@List.any_cons
def i9:=@Int.mul_add
def ja:=@Nat.sub_succ_lt_self
def jb:=@Nat.mul_le_mul_right
def jp:=@List.pairwise_append
def jv:=@List.length_take_le'
def jI:=@PySem.F.entry_zip_next
def jS:=@List.length_zip
def j0:=@List.forIn_cons
def j3:=@ne_true_of_eq_false
def ka:=@PyProof.Rows.F.entry_set_update_loop
def kb:=@List.map_eq_nil_iff
def kc:=@List.filterMap_cons
def ki:=@PySem.Calls.callWith_builtin
def km:=@PySem.wpAny_execs_nil
def kn:=@Nat.zero_add
def ko:=@Int.mul_nonpos_of_nonneg_of_nonpos
def kq:=@List.take_succ_cons
def kr:=@PySem.Heap.size_push
def kt:=@List.replicate_succ
def ku:=@List.map_fst_zip
def kw:=@List.length_pos_iff
def kx:=@Nat.le_succ
def ky:=@List.getElem?_range
def kz:=@List.cons_append
def kA:=@List.map_set
def kB:=@Nat.lt_trichotomy
def kG:=@List.length_range
def kH:=@List.foldl_append
def kK:=@List.any_eq_false
def kM:=@Int.add_zero
def kN:=@List.zip_cons_cons
def kP:=@List.set_cons_zero
def kQ:=@List.set_cons_succ
def kR:=@List.getElem_inj
def kS:=@Int.min_le_right
def kT:=@PySem.F.entry_extend_loop
def kU:=@PySem.wpAny_attempt
def kX:=@List.getElem?_cons_succ
def lh:=@PySem.Paired.length
def li:=@List.drop_append_of_le_length
def lj:=@Nat.ne_of_gt
def lm:=@List.sum_append
def lp:=@Int.le_max_left
def lw:=@Int.le_antisymm
def ly:=@PySem.F.args_str_split_2
def lz:=@PySem.Calls.spliced_cons
def lI:=@List.pairwise_map
def lL:=@Bool.not_eq_true'
def lP:=@PySem.seqIndex_neg
def lS:=@beq_iff_eq
def lT:=@PySem.Str.ext'
def l6:=@PySem.F.type_str_partition
def ma:=@PySem.F.slot_str_partition
def me:=@List.takeWhile_cons_of_pos
def mh:=@List.takeWhile_cons_of_neg
def mm:=@PySem.F.entry_str_split
def mn:=@PySem.Calls.spliced_nil
def mr:=@List.nodup_nil
def mx:=@List.mem_range
def my:=@PySem.F.slot_dict_getitem
def mB:=@PySem.wpAny_pyIter_zip
def mE:=@PySem.Str.append_empty
def mI:=@PySem.F.slot_dict_values
def mM:=@List.getElem?_take_of_lt
def mP:=@List.Pairwise.imp_of_mem
def mS:=@PySem.F.slot_str_split
def mT:=@PySem.seqIndex_of
def m3:=@Option.getD_some
def m4:=@decide_eq_false_iff_not
def na:=@PySem.F.slot_dict_items
def nb:=@PySem.wpAny_specialOf
def nc:=@PySem.W.cellsFrom_some
def ng:=@PySem.F.slot_dict_keys
def nh:=@PySem.F.slot_dict_copy
def nk:=@List.drop_eq_nil_of_le
def np:=@Int.zero_mul
def nt:=@Int.mul_zero
def nv:=@Int.mul_comm
def ny:=@PySem.F.args_tuple_iterator_next_1
def nB:=@Array.getElem?_eq_none
def nE:=@List.find?_cons
def nI:=@PySem.W.methodCall_KW
def nK:=@PySem.F.slot_dict_pop
def nS:=@PySem.F.slot_dict_get
def nV:=@List.dropLast_sublist
def nX:=@Int.mul_ediv_add_emod
def n9:=@PySem.F.entry_tuple_iterator_next
def oa:=@Bool.beq_eq_decide_eq
def oe:=@Array.getElem?_toList
def og:=@PySem.wpAny_rule
def oi:=@Nat.pow_le_pow_right
def oj:=@Nat.log2_lt
def ol:=@List.range_eq_range'
def om:=@PySem.Calls.Name_function_global
def oo:=@Bool.or_eq_false_iff
def op:=@Int.mul_assoc
def oq:=@PySem.W.kia_one
def ot:=@beq_eq_false_iff_ne
def ov:=@Int.add_assoc
def ox:=@PySem.W.callWith_K0
def oy:=@List.mergeSort_perm
def oz:=@List.length_zipWith
def oB:=@List.filter_sublist
def oC:=@PySem.wpAny_standAt
def oP:=@PySem.wpAny_onRaise
def oQ:=@PySem.wpAny_comprehension_free
def oS:=@List.take_zero
def o0:=@List.take_succ
def o1:=@Int.mul_sub
def o3:=@List.drop_left
def o4:=@PySem.P.truthy_str
def o5:=@List.mem_filterMap
def o6:=@List.map_replicate
def pj:=@List.getElem?_drop
def pk:=@List.forIn_toArray
def pr:=@List.filter_append
def pu:=@List.take_sublist
def pw:=@List.flatten_cons
def px:=@List.ext_getElem?
def py:=@PySem.wpAny_pyNext_range_end
def pz:=@PySem.wpAny_pyIter_rangeiter
def pE:=@PySem.wpAny_getItem_list_neg
def pT:=@Int.sub_zero
def p4:=@Nat.sub_self
def p5:=@Nat.le_of_eq
def p6:=@Array.all_eq_true'
def p9:=@Nat.add_zero
def qa:=@Option.getD_none
def qc:=@Nat.min_le_right
def qh:=@List.zipIdx_cons
def qi:=@List.range'_succ
def qk:=@List.lookup_cons
def qo:=@List.isEmpty_nil
def qs:=@List.getElem_mem
def qv:=@List.any_eq_true
def qA:=@List.Sublist.map
def qB:=@Int.min_eq_right
def qE:=@Int.le_max_right
def qS:=@PySem.wpAny_nextOf_list_end
def qV:=@PySem.wpAny_isTrue_Compare1
def rc:=@PySem.builtinLookup_eq_fast
def re:=@Nat.not_lt_zero
def rf:=@Nat.min_le_left
def rg:=@List.zipIdx_nil
def rh:=@List.filter_map
def ri:=@Int.min_le_left
def rj:=@Bool.eq_iff_iff
local macro_rules | `(tactic| omega) => `(tactic| lia)
namespace Lake
set_option tactic.hygienic false
local macro_rules (kind:=Lean.Parser.Command.declaration)|s=>do
 if (s[1].isOfKind ``Lean.Parser.Command.definition||s[1].isOfKind ``Lean.Parser.Command.abbrev) && s[0].getArgs.all (·.getNumArgs==0) then let t:=s.setArg 0 (←Lean.MonadRef.withRef .missing `(noncomputable def x:=0)).raw[0];if (s.find? (·.isOfKind ``Lean.Parser.Tactic.renameI)).isSome then `(command|set_option tactic.hygienic true in $(⟨t⟩)) else return t else Lean.Macro.throwUnsupported
local macro_rules | `($x:scientific)=>match x.raw.isScientificLit? with |some (m,false,e)=>`($(Lean.quote (m*10^e)))|_=>Lean.Macro.throwUnsupported
local macro_rules | `(tactic|lk)=>`(tactic|first|lia|omega)
local macro_rules | `(∅)=>`(by lk)
local macro_rules | `(⋯)=>`(by decide)
set_option hygiene false in
local macro_rules | `(tactic|w_left)=>`(tactic|(try subst hu);(try dsimp only);refine YX λu hu=>?_)
local macro_rules | `(tactic|k_ne)=>`(tactic|dsimp only)
local macro_rules | `(tactic|z_go)=>`(tactic|walk_at "e1")
local macro_rules | `(tactic|x_go)=>`(tactic|walk_at "e3")
local macro_rules | `(tactic|kt_k)=>`(tactic|walk_at "e2")
open Lean in
private def toPat:Nat→Term→MacroM (TSyntax `rcasesPat)
 |0,_=>Macro.throwUnsupported
 |n+1,t=>match t with
  |`(_)=>`(rcasesPat|_)
  |`($i:ident)=>`(rcasesPat|$i:ident)
  |`(($a,$b,*))=>do `(rcasesPat|⟨$[$(←(#[a]++b.getElems).mapM (toPat n))],*⟩)
  |`(⟨$b,*⟩)=>do `(rcasesPat|⟨$[$(←b.getElems.mapM (toPat n))],*⟩)
  |_=>Macro.throwUnsupported
local macro_rules | `(($a,$b,$c,*)) => `(⟨$a,$b,$c,*⟩)
local macro_rules | `(tactic|let $p:term:=$e) => do `(tactic|obtain $(←toPat 9 p):rcasesPat:=$e)
local macro_rules | `(#[$x]) => `(some $x)
section
variable {F:α->β->Prop}
def _root_.PySem.Paired.get (h:Paired F l r):∀{i:Nat}{a:α},l[i]? =#[a]->∃b,r[i]? =#[b]/\F a b:=by
 induction h with
 |nil=>exact λe=>nomatch e
 |cons x _ A=>
  intro i a e;cases i with
  |zero=>cases e;exact(_,rfl,x)
  |succ i=>exact A e
def _root_.PySem.Paired.flip (h:Paired F l r):Paired (λb a=>F a b) r l:=by
 induction h with
 |nil=>exact .nil
 |cons x _ A=>exact .cons x A
def _root_.PySem.Paired.at {i:Nat}(h:Paired F l r)(e:r[i]? =#[b]):∃a,l[i]? =#[a]/\F a b:=h.flip.get e
def _root_.PySem.Paired.of {l:List α}:∀{r:List β},l.length=r.length->(∀(i:Nat) a b,l[i]? =#[a]->r[i]? =#[b]->F a b)->Paired F l r:=by
 induction l with
 |nil=>intro r e _;cases r;exact .nil;cases e
 |cons x l A=>
  intro r e h;cases r with
  |nil=>cases e
  |cons y r=>exact .cons (h 0 x y rfl rfl)<|A (Nat.succ.inj e) λi=>h<|i+1
theorem _root_.PySem.Paired.set (f:F a b)(h:Paired F l r):∀i,Paired F (l.set i a) (r.set i b):=by
 induction h with
 |nil=>exact λ_=>.nil
 |cons x t A=>
  intro i;cases i with
  |zero=>exact .cons f t
  |succ i=>exact .cons x<|A i
def _root_.PySem.Paired.append (h:Paired F l r)(g:Paired F B C):Paired F (l++B) (r++C):=by
 induction h with
 |nil=>exact g
 |cons x _ A=>exact .cons x A
theorem _root_.PySem.Paired.take (n:Nat)(h:Paired F l r):Paired F (l.take n) (r.take n):=by
 induction h generalizing n with
 |nil=>rw[List.take_nil,List.take_nil];exact .nil
 |cons x _ A=>
  cases n with
  |zero=>exact .nil
  |succ n=>exact .cons x<|A n
theorem _root_.PySem.Paired.drop (n:Nat)(h:Paired F l r):Paired F (l.drop n) (r.drop n):=by
 induction h generalizing n with
 |nil=>rw[List.drop_nil,List.drop_nil];exact .nil
 |cons x t A=>
  cases n with
  |zero=>exact .cons x t
  |succ n=>exact A n
theorem _root_.PySem.Paired.eraseIdx (i:Nat)(h:Paired F l r):Paired F (l.eraseIdx i) (r.eraseIdx i):=by
 induction h generalizing i with
 |nil=>exact .nil
 |cons x t A=>
  cases i with
  |zero=>exact t
  |succ i=>exact .cons x<|A i
def _root_.PySem.Paired.rep (h:Paired F l r)(k:Nat):Paired F (replicate k l).flatten (replicate k r).flatten:=by
 induction k with
 |zero=>exact .nil
 |succ k A=>rw[kt,kt,pw,pw];exact h.append A
end
local macro_rules|`($c:char)=>if c.getChar=='s' then `(by simp) else `(by decide +kernel)
local macro_rules|`(‹$x›)=>`(by simpa using $x)
local macro_rules|`(~~~$s)=>`(($s).heap.objs.size)
local macro_rules|`(!$x)=>`(($x).length)
local macro_rules|`(¬$x)=>`(List $x)
local macro_rules|`(↑$x)=>`(Option $x)
instance:CoeFun PySem.Heap λ_=>PySem.Addr->Option PySem.Obj:=⟨PySem.Heap.get?⟩
local macro_rules|`(tactic|erw[$[$x],*] $[$l]?)=>do
 let a:=x.map λr=>(⟨Lean.mkNode ``Lean.Parser.Tactic.simpLemma #[Lean.mkNullNode,r.raw[0],r.raw[1]]⟩:Lean.TSyntax `Lean.Parser.Tactic.simpLemma)
 `(tactic|simp only[$[$a],*] $[$l]?)
local macro_rules|`(⇑$x)=>`(($x).cps.toList)
local macro_rules|`(↥$x)=>`(Str.ofString (toString $x))
local macro_rules|`($a\$b)=>`(wpAny (model $a $b))
local macro_rules|`(())=>`(PyData)
set_option hygiene false in
local macro_rules|`(tactic|f_int)=>`(tactic|(let(A,G,M,S,F,I,d,e,q):=q))
set_option hygiene false in
local macro_rules|`(tactic|f_tup)=>`(tactic|(let(A,G,M,S,F,I,q):=q))
set_option hygiene false in
local macro_rules|`(tactic|f_len)=>`(tactic|(refine bh λN hN=>?_))
set_option hygiene false in
local macro_rules|`(tactic|f_are)=>`(tactic|(split at e))
set_option hygiene false in
local macro_rules|`(tactic|k_go)=>`(tactic|(cases e))
def q0(_:0=0:=by rfl):=0
def q1(_:0=0:=by decide):=0
def q2(_:0=0:=by decide +kernel):=0
def q3(_:0=0:=by first|exact .inl rfl|exact .inr rfl|assumption):=0
def q4(_:0=0:=by intro _;rfl):=0
def q5(_:0=0:=by first|exact Hl _|rfl):=0
def q6(_:0=0:=by with_unfolding_all rfl):=0
def q7(_:0=0:=by intro _ _;rfl):=0
def q8(_:0=0:=by exact fs):=0
def q9(_:0=0:=by exact hr):=0
def q10(_:0=0:=by kernel_rfl):=0
def q11(_:0=0:=by exact nd):=0
def q12(_:0=0:=by exact lx):=0
def q13(_:0=0:=by first|exact c.cl|exact cD):=0
def q14(_:0=0:=by first|exact .inl rfl|exact .inr rfl):=0
local macro_rules|`($x∣$n:num)=>`(autoParam $x $(Lean.mkIdent (.str (.mkSimple s!"q{n.getNat}") "_auto_1")))
local macro_rules|`(tactic|calc $e:term)=>`(tactic|exact $e)
namespace L2
open PyProof.Rows
abbrev Key:=Str
inductive V where
 |non|bl (b:Bool)|int (i:Int)|str (x:Str)|ref (a:Addr)|ty (n:String)
 deriving DecidableEq
def RelV:V->Value->Prop
 |.non,u=>u=Value.none
 |.bl b,u=>u=Value.bool b
 |.int i,u=>∃t,u=Value.int i t
 |.str x,u=>∃t,u=Value.str x t
 |.ref a,u=>u=Value.ref a
 |.ty n,u=>u=type n
abbrev Vals:¬V->¬Value->Prop:=Paired RelV
theorem Vals.length {xs:¬V}{us:¬Value}(r:Vals xs us):(!xs)=!us:=lh r
def oO:↑V->↑Value->Prop
 |some v,#[u]=>RelV v u
 |none,none=>True
 |_,_=>False
def KV:¬(A×V)->¬(A×Value)->Prop:=Paired λ(p:A×V) (q:A×Value)=>p.1=q.1/\RelV p.2 q.2
abbrev kV:Key->V:=V.str
inductive HO where
 |lst (xs:¬V)
 |tup (xs:¬V)
 |dK (dI:¬(Key×V))
 |ins (C dx:Addr) (fs:¬(Str×V))
 |own (x:Addr)
 |dR (o:Obj) (u:HO)
 |ext (φ:Heap->Prop)
abbrev Hp:=Addr->↑HO
def upd (H:Hp)(a:Addr)(o:HO):Hp:=λb=>if b=a then #[o] else H b
def ao:upd H a o a=#[o]:=by delta upd;rw[ap rfl]
def au (h:b≠a):upd H a o b=H b:=by delta upd;rw[aw h]
def Kd:upd (upd H a o) a u=upd H a u:=by funext b;delta upd;split<;>rfl
def akJ {H:Hp}(h:H a=#[o])(h':H b=#[u])(d:o≠u):a≠b:=by lk
def aV {H:Hp}(h:H a=#[o])(h':H b=none):a≠b:=by lk
section
variable (P:Program)(w:World)
def fU (H:Hp)(h:Heap)(a:Addr):HO->Prop
 |.lst D=>(!D)<=sizeLine/\∃(A:¬Value) (n:Nat),Vals D A/\h a=some {cls:=.type "list",data:=.seq A.toArray n}
 |.tup D=>(!D)<=sizeLine/\∃A:¬Value,Vals D A/\IsTup h a A.toArray
 |.dK B=>(!B)<=sizeLine/\(a==sysModules)=false/\∃J,KV B J/\h.DictOf (strKind P w) a J
 |.ins C E fs=>H E=#[.own a]/\(!fs)<=1000/\E≠a/\h a=#[instObj C E]/\
  ∃G,h.Ns1 E G/\(∀f,oO (fs.lookup f) (G f))/\PySem.Within G (fs.map (·.1))
 |.own _=>∃o,h a=#[o]
 |.dR o u=>h a=#[o]/\fU H h a u
 |.ext I=>I h/\(∃o,h a=#[o])/\∀h1 h2:Heap,I h1->(∀o,h1 a=#[o]->h2 a=#[o])->I h2
def jP (H:Hp)(h:Heap):Prop:=∀a o,H a=#[o]->fU P w H h a o
end
section
variable {o:HO}
theorem fU.lt (x:fU P w H h a o):a<h.objs.size:=by
 cases o with
 |lst D=>let(_,_,_,_,e):=x;calc b8 e
 |tup D=>let(_,_,_,p):=x;calc p.lt
 |dK B=>let(_,_,_,_,o,_,_,e,_):=x;calc b8 e
 |ins C E fs=>let(_,_,_,e,_):=x;calc b8 e
 |own y=>let(_,e):=x;calc b8 e
 |dR ob u=>let(e,_):=x;calc b8 e
 |ext I=>let(_,(_,e),_):=x;calc b8 e
def fU.stay (x:fU P w H h a o)(k:∀b u,(b=a\/H b=#[.own a])->h b=#[u]->h' b=#[u])
  (I:∀b,H b=#[.own a]->E b=#[.own a])(U:∀b xs,H b=#[.tup xs]->E b=#[.tup xs]):fU P w E h' a o:=by
 induction o with
 |lst xs=>let(z,A,n,r,e):=x;calc⟨z,A,n,r,k _ _ (.inl rfl) e⟩
 |tup xs=>let(z,A,r,ob,e,c):=x;calc⟨z,A,r,ob,k _ _ (.inl rfl) e,c⟩
 |dK L=>let(z,y,Q,r,ob,D,B,e,c):=x;calc⟨z,y,Q,r,ob,D,B,k _ _ (.inl rfl) e,c⟩
 |ins C T fs=>let(d,z,N,e,M,(O,D,B,G,c),r):=x;calc⟨I _ d,z,N,k _ _ (.inl rfl) e,M,⟨O,D,B,k _ _ (.inr d) G,c⟩,r⟩
 |own y=>let(ob,e):=x;calc⟨ob,k _ _ (.inl rfl) e⟩
 |dR ob u J=>let(e,q):=x;calc⟨k _ _ (.inl rfl) e,J q⟩
 |ext Y=>let(p,(o,e),st):=x;calc⟨st _ _ p λo q=>k _ _ (.inl rfl) q,⟨o,k _ _ (.inl rfl) e⟩,st⟩
theorem jP.lt (x:jP P w H h)(e:H a=#[o]):a<h.objs.size:=(x a o e).lt
def jP.fresh (x:jP P w H h)(e:h.objs.size<=a):H a=none:=by
 cases q:H a with
 |none=>rfl
 |some u=>calc absurd (bX (x.lt q) e)<|hZ _
def jP.kept (x:jP P w H h)(k:∀b u,h b=#[u]->h' b=#[u]):jP P w H h':=λa o e=>
 (x a o e).stay (λb u _ q=>k b u q) (λ_ q=>q) λ_ _ q=>q
def jP.laid (x:jP P w H h)(k:∀b u,h b=#[u]->h' b=#[u])(D:h.objs.size<=a)(A:fU P w (upd H a o) h' a o):jP P w (upd H a o) h':=λb u e=>by
 have C:=x.fresh D;by_cases B:b=a
 .subst B;rw[ao] at e;k_go;exact A
 .rw[au B] at e;calc(x b u e).stay (λc v _ q=>k c v q) (λc q=>by rw[au<|aV q C];calc q) λc E q=>by rw[au<|aV q C];calc q
end
def Rd (H:Hp)(a:Addr)(u:HO):Prop:=H a=#[u]\/∃o,H a=#[.dR o u]
def Rd.ok {P:Program}{w:World}{H:Hp}{h:Heap}{a:Addr}{u:HO}(r:Rd H a u)(x:jP P w H h):fU P w H h a u:=by
 rcases r with r|⟨o,r⟩
 .exact x a u r
 .let(_,q):=x a _ r;calc q
def ZP:↑HO->Prop
 |some (.lst _)=>True
 |some (.dK _)=>True
 |some (.ins _ _ _)=>True
 |some (.ext _)=>True
 |_=>False
section
variable {A:HO}
def jP.write (N:jP P w H h)(mu:ZP (H x))(Q:e=x\/H e=#[.own x])(k:∀b u,b≠e->h b=#[u]->h' b=#[u])(G:∃u,h' e=#[u])
  (I:fU P w (upd H x A) h' x A):jP P w (upd H x A) h':=λb u q=>by
 have B:∀c y,H c=#[.own y]->c≠x:=λc y r z=>by subst z;rw[r] at mu;exact mu
 have C:∀c D,H c=#[.tup D]->c≠x:=λc D r z=>by subst z;rw[r] at mu;exact mu
 by_cases J:b=x
 .subst J;rw[ao] at q;cases q;exact I
 .rw[au J] at q;by_cases E:b=e
  .have L:H b=#[.own x]:=by lk
   rw[q] at L;cases L;let(v,M):=G;exact⟨v,by rw[E];calc M⟩
  .refine(N b u q).stay (λc v O r=>k c v ?_ r) (λc r=>by rw[au<|B c b r];calc r) λc D r=>by rw[au<|C c D r];exact r
   grind
end
structure Un (fs ex:¬Addr)(H H':Hp)(h h':Heap):Prop where
 keep:∀b o,h b=#[o]->H b=none->Not (b∈fs)->Not (b∈ex)->h' b=#[o]
 slot:∀b o,h b=#[o]->H b=none->b∈fs->Not (b∈ex)->∃sl,h' b=some {o with slots:=sl}
 free:∀b o,h b=#[o]->H b=none->Not (b∈ex)->H' b=none
 there:∀b o,h b=#[o]->Not (b∈ex)->∃o',h' b=#[o']
 tups:∀b xs,H b=#[.tup xs]->H' b=#[.tup xs]
 tY:∀b o u,H b=#[.dR o u]->H' b=#[.dR o u]
section
variable {o:HO}
def Un.any (u:Un fs C H E h h1)(q:h b=#[ob])(n:H b=none)(A:Not (b∈C)):∃D,h1 b=some {ob with slots:=D}:=by
 by_cases B:b∈fs
 .exact u.slot b ob q n B A
 .calc⟨ob.slots,u.keep b ob q n B A⟩
def Un.trans (a:Un fs G H I h h1)(b:Un fs G I J h1 h2):Un fs G H J h h2 where
 keep:=λc ob q n O A=>b.keep c ob (a.keep c ob q n O A) (a.free c ob q n A) O A
 slot:=λc ob q n O A=>by let(M,B):=a.slot c ob q n O A;let(E,L):=b.slot c _ B (a.free c ob q n A) O A;exact⟨E,L⟩
 free:=λc ob q n A=>by let(C,B):=a.there c ob q A;exact b.free c C B (a.free c ob q n A) A
 there:=λc ob q A=>by let(C,B):=a.there c ob q A;exact b.there c C B A
 tups:=λc D q=>b.tups c D<|a.tups c D q
 tY:=λc ob D q=>b.tY c ob D<|a.tY c ob D q
def Un.kept (k:∀b u,h b=#[u]->h' b=#[u]):Un fs C H H h h':=
 ⟨λb ob q _ _ _=>k b ob q,λb ob q _ _ _=>⟨ob.slots,k b ob q⟩,λ_ _ _ n _=>n,λb ob q _=>⟨ob,k b ob q⟩,λ_ _ q=>q,λ_ _ _ q=>q⟩
def Un.refl:Un fs C H H h h:=Un.kept λ_ _ q=>q
def Un.laid (k:∀b u,h b=#[u]->h' b=#[u])(D:h.objs.size<=a)(C:H a=none):Un fs B H (upd H a o) h h' where
 keep:=λb u q _ _ _=>k b u q
 slot:=λb u q _ _ _=>⟨u.slots,k b u q⟩
 free:=λb u q n _=>by rw[au<|c8<|bX (b8 q) D];exact n
 there:=λb u q _=>⟨u,k b u q⟩
 tups:=λb A q=>by rw[au<|aV q C];exact q
 tY:=λb u A q=>by rw[au<|aV q C];calc q
def Un.write (mu:ZP (H x))(Q:e=x\/H e=#[.own x])(k:∀b u,b≠e->h b=#[u]->h' b=#[u])(G:∃u,h' e=#[u]):Un fs E H (upd H x o) h h':=by
 have C:∀b,H b=none->b≠x:=λb n z=>by subst z;rw[n] at mu;exact mu
 have B:∀b,H b=none->b≠e:=λb n z=>by lk
 have A:∀b u,H b=#[u]->Not (ZP #[u])->b≠x:=λb u q nm z=>by subst z;rw[q] at mu;exact nm mu
 refine⟨λb u q n _ _=>k b u (B b n) q,λb u q n _ _=>⟨u.slots,k b u (B b n) q⟩,λb u q n _=>by rw[au (C b n)];calc n,λb u q _=>?_,
  λb D q=>by rw[au (A b _ q λz=>z)];calc q,λb u D q=>by rw[au (A b _ q λz=>z)];calc q⟩
 grind
end
def trk (h:Heap)(H:Hp):¬Addr:=(List.range h.objs.size).filter λa=>(H a).isSome
def yP (h:Heap)(H:Hp):Heap:=PySem.W.hideAll h<|trk h H
def ZQ (h:Heap)(H:Hp):(yP h H).objs.size=h.objs.size:=PySem.W.hideAll_size _ _
def acj (e:h b=#[o])(n:H b=none):(yP h H) b=#[o]:=
 PySem.W.hideAll_get _ e λA=>by have q:(H b).isSome=true:=(di.mp A).2;grind
def agc (e:(yP h H) b=#[o]):h b=#[o]/\H b=none:=by
 have A:h b=#[o]:=PySem.W.of_hideAll (trk h H) e;refine⟨A,?_⟩;cases q:H b with
 |none=>rfl
 |some x=>have B:b∈trk h H:=di.mpr ⟨mx.mpr<|b8 A,by simp[q]⟩;have z:(yP h H) b=none:=PySem.W.hideAll_none (trk h H) B;lk
structure Mod (K:Frag)(mg:Str->↑Value)(base:Heap):Prop where
 ZR:K.In base
 glob:base.Ns mainGlobals mg
 blt:∃mb,base.Ns builtinsNs mb/\∀x:Str,x≠"__name__"->mb x=bootBuiltins x
 nolimit:base.NoLimit
structure Cx where
 prog:Program
 w:World
 K:Frag
 mg:Str->↑Value
 base:Heap
 A:Around
 N:¬Str
 s₀:Shared
 cQ:Hp
 env:Env
 outer:¬Env
 stack:¬Env
 ex:¬Addr
 fn:Str->Bool
 pn:¬(Addr×Obj)
def frs (l:¬Env):¬Addr:=l.filterMap (·.frame)
abbrev Cx.fs (X:Cx):¬Addr:=frs X.outer
def ZV (sc:Scope)(x:Str):Prop:=sc.names.lookup x=some .local\/sc.names.lookup x=some .cell\/sc.names.lookup x=some .free
def Loc (sc:Scope)(x:Str):Prop:=sc.names.lookup x=some .local\/sc.names.lookup x=some .cell
def Look (env:Env)(h:Heap)(m:Str->↑Value)(x:Str)(u:Value):Prop:=
 (env.kindOf x=some .local/\m x=#[u])\/((env.kindOf x=some .cell\/env.kindOf x=some .free)/\∃c,env.cells.lookup x=#[c]/\h.IsCell c #[u])
structure Cx.Ok (X:Cx):Prop where
 mod:Mod X.K X.mg X.base
 kind:X.env.scope.kind=.function
 glob:X.env.globals=mainGlobals
 blt:X.env.builtins=builtinsNs
 above:X.s₀.heap.objs.size<=X.env.locals
 inj:∀x y c,X.env.cells.lookup x=#[c]->X.env.cells.lookup y=#[c]->x=y
 has:∀x,(X.env.kindOf x=some .cell\/X.env.kindOf x=some .free)->∃c,X.env.cells.lookup x=#[c]
 cab:∀x c,X.fn x=true->X.env.cells.lookup x=#[c]->X.s₀.heap.objs.size<=c
 hd:X.A.handled=none
 frames:X.A.frames=#[X.stack]
 stk:X.stack=X.outer\/(X.stack=X.env::X.outer/\X.env.frame=#[X.env.locals])
 exf:∀b∈X.ex,b≠X.env.locals/\∀x c,X.env.cells.lookup x=#[c]->c≠b
 bs:∀b o,X.base b=#[o]->X.s₀.heap b=#[o]/\X.cQ b=none
 Mg:X.base.objs.size<=X.s₀.heap.objs.size
 acn:∀b o,X.base b=#[o]->Not (b∈X.ex)
 ahy:∀b∈X.ex,Not (b∈X.fs)
 xg:X.s₀.heap.FunFrames X.base X.outer
 ZW:∀b∈X.fs,X.cQ b=none
structure Inv (X:Cx)(tZ:¬(Addr×Obj))(σ:¬(↑V))(H:Hp)(s:Shared):Prop where
 ok:X.Ok
 os:s.os=X.s₀.os
 bare:AllBare s.gens
 base:Un X.fs X.ex X.cQ H X.s₀.heap s.heap
 loc:∃m,s.heap.Ns X.env.locals m/\∀(i:Nat) (x:Str) (v:V),X.N[i]? =#[x]->σ[i]? =#[#[v]]->ZV X.env.scope x->∃u,RelV v u/\Look X.env s.heap m x u
 cell:∀x c,X.env.cells.lookup x=#[c]->∃v,s.heap.IsCell c v
 free:H X.env.locals=none
 pJ:∀x c,X.env.cells.lookup x=#[c]->H c=none
 pin:∀p∈X.pn++tZ,s.heap p.1=#[p.2]/\H p.1=none/\p.1≠X.env.locals/\Not (p.1∈X.fs)/\∀v,p.2.data≠ .cell v
 hok:jP X.prog X.w H s.heap
 len:(!σ)=!X.N
section
variable {X:Cx}
def Cx.Ok.anF (N:X.Ok)(e:X.base b=#[o]):Not (b∈X.fs):=λB=>by have:=(N.xg.mem B).1;lk
theorem Inv.bs (I:Inv X A B H s):∀b o,X.base b=#[o]->s.heap b=#[o]/\H b=none:=λb o e=>
 ⟨I.base.keep b o (I.ok.bs b o e).1 (I.ok.bs b o e).2 (I.ok.anF e)<|I.ok.acn b o e,I.base.free b o (I.ok.bs b o e).1 (I.ok.bs b o e).2<|I.ok.acn b o e⟩
def Inv.bk (I:Inv X A B H s):∀b o,X.base b=#[o]->s.heap b=#[o]:=λb o e=>(I.bs b o e).1
theorem Inv.mod (I:Inv X A B H s):Mod X.K X.mg X.base:=I.ok.mod
def Inv.o9 (I:Inv X A B H s):X.K.In s.heap:=I.ok.mod.ZR.keeps I.bk
def Inv.fr (I:Inv X A B H s):∃m,Fr X.base X.env.locals s.heap m:=
 let⟨m,C,_⟩:=I.loc
 (m,C,I.bk,cb I.ok.Mg I.ok.above)
theorem Inv.lt (I:Inv X A B H s):X.env.locals< ~~~s:=let⟨_,C,_⟩:=I.loc;C.lt
def Inv.sz (I:Inv X A B H s):X.s₀.heap.objs.size<= ~~~s:=cb I.ok.above<|iS I.lt
def Inv.anG (I:Inv X A D H s)(h: ~~~s<=a):Not (a∈X.fs):=λB=>by let(_,o,C,_):=I.ok.xg.mem B;calc absurd (bX (b8 C)<|cb I.sz h)<|hZ _
def Inv.cne (I:Inv X A M H s):∀x c,X.env.cells.lookup x=#[c]->c≠X.env.locals:=λx c e z=>by let(v,o,J,G):=I.cell x c e;let(m,(L,E,D,C,B,_),_):=I.loc;lk
theorem Inv.xg (I:Inv X E Y H s):s.heap.FunFrames X.base X.outer:=by
 have all:∀(l:¬Env),(∀b∈frs l,b∈X.fs)->X.s₀.heap.FunFrames X.base l->s.heap.FunFrames X.base l:=by
  intro l;induction l with
  |nil=>intro _ _;trivial
  |cons G r T=>intro D N;let(M,(L,o,C,O,Q,J),hr):=N;have A:L∈X.fs:=D L (by delta frs;rw[kc,C];calc ae);let(U,e):=I.base.slot L o Q (I.ok.ZW L A) A λz=>I.ok.ahy L z A;exact(M,(L,_,C,O,e,J),T (λb B=>D b (by delta frs;rw[kc,C];calc af _ B)) hr)
 calc all X.outer (λ_ B=>B) I.ok.xg
theorem Inv.stack (I:Inv X A D H s):s.heap.FunFrames X.base X.stack:=by
 rcases I.ok.stk with e|⟨e,C⟩
 .rw[e];exact I.xg
 .rw[e];let(m,B,_):=I.loc;refine .cons (by rw[I.ok.kind];decide) C B ?_ I.xg;calc Heap.get?_none_of_le<|cb I.ok.Mg I.ok.above
def Inv.G5 (I:Inv X A D H s):∀b∈frs X.stack,b∈X.env.locals::X.fs:=λb B=>by
 rcases I.ok.stk with e|⟨e,C⟩
 .grind
 .rw[e] at B;delta frs at B;rw[kc,C] at B;calc B
def Inv.Vy (I:Inv X A D H s):∀b∈frs X.stack,H b=none:=λb B=>by
 rcases bq.mp (I.G5 b B) with e|B
 .rw[e];exact I.free
 .let(_,o,C,_):=I.ok.xg.mem B;calc I.base.free b o C (I.ok.ZW b B) λz=>I.ok.ahy b z B
def Inv.step {ch:¬Addr}(I:Inv X L σ H s)
  (D:∀b∈ch,(b∈X.ex\/X.s₀.heap.objs.size<=b)/\b≠X.env.locals/\(∀x c,X.env.cells.lookup x=#[c]->c≠b)/\∀p∈X.pn++L,p.1≠b)
  (E:∀b o,b≠X.env.locals->Not (b∈X.fs)->Not (b∈ch)->s.heap b=#[o]->H b=none->h' b=#[o])
  (slot:∀b o,b≠X.env.locals->b∈X.fs->Not (b∈ch)->s.heap b=#[o]->H b=none->∃f,h' b=some {o with slots:=f})(B:∀b o,Not (b∈ch)->s.heap b=#[o]->H b=none->j b=none)
  (O:∀b o,Not (b∈ch)->s.heap b=#[o]->∃U,h' b=#[U])
  (Y:∀b xs,H b=#[.tup xs]->j b=#[.tup xs])(T:∀b o u,H b=#[.dR o u]->j b=#[.dR o u])
  (ns:∀m,s.heap.Ns X.env.locals m->h'.Ns X.env.locals m)(y:jP X.prog X.w j h')(hg:AllBare g'):
  Inv X L σ j {s with heap:=h',gens:=g',drawn:=d',toks:=t'}:=by
 have neL:∀b o,X.s₀.heap b=#[o]->b≠X.env.locals:=λb o e=>c8<|bX (b8 e) I.ok.above;have J:∀b o,X.s₀.heap b=#[o]->Not (b∈X.ex)->Not (b∈ch):=λb o e A N=>by
  rcases(D b N).1 with z|z
  .exact A z
  .exact absurd (bX (b8 e) z)<|hZ _
 have C:∀x c,X.env.cells.lookup x=#[c]->∀v,s.heap.IsCell c v->h'.IsCell c v:=λx c e v ⟨o,Q,t⟩=>by
  have G:Not (c∈ch):=λz=>(D c z).2.2.1 x c e rfl;by_cases a:c∈X.fs
  .let(f,q):=slot c o (I.cne x c e) a G Q<|I.pJ x c e;exact⟨_,q,t⟩
  .exact⟨o,E c o (I.cne x c e) a G Q<|I.pJ x c e,t⟩
 refine⟨I.ok,I.os,hg,⟨λb o e n N A=>?_,λb o e n N A=>?_,λb o e n A=>?_,λb o e A=>?_,λb xs e=>Y b xs<|I.base.tups b xs e,λb o xs e=>T b o xs<|I.base.tY b o xs e⟩,?_,λx c e=>?_,?_,λx c e=>?_,λp h=>?_,y,I.len⟩
 .exact E b o (neL b o e) N (J b o e A) (I.base.keep b o e n N A)<|I.base.free b o e n A
 .let(f,M):=I.base.slot b o e n N A;let(w,g):=slot b _ (neL b o e) N (J b o e A) M<|I.base.free b o e n A;exact⟨w,g⟩
 .let(U,M):=I.base.there b o e A;exact B b U (J b o e A) M<|I.base.free b o e n A
 .let(U,M):=I.base.there b o e A;exact O b U (J b o e A) M
 .let(m,hn,hl):=I.loc;refine⟨m,ns m hn,λi x v M g e3=>?_⟩;let(u,r,l):=hl i x v M g e3;refine⟨u,r,?_⟩;rcases l with l|⟨k,c,e,z⟩
  .exact .inl l
  .exact .inr ⟨k,c,e,C x c e _ z⟩
 .let(v,z):=I.cell x c e;exact⟨v,C x c e v z⟩
 .let(m,(o,_,_,Q,_),_):=I.loc;exact B _ o (λz=>(D _ z).2.1 rfl) Q I.free
 .let(v,o,Q,t):=I.cell x c e;exact B c o (λz=>(D c z).2.2.1 x c e rfl) Q<|I.pJ x c e
 .let(e,n,ne,nf,d):=I.pin p h;have G:Not (p.1∈ch):=λz=>(D p.1 z).2.2.2 p h rfl;calc⟨E p.1 p.2 ne nf G e n,B p.1 p.2 G e n,ne,nf,d⟩
def Inv.un {t':Nat}(I:Inv X A O H s)(u:Un X.fs [] H G s.heap h')(y:jP X.prog X.w G h'):Inv X A O G {s with heap:=h',toks:=t'}:=by
 let(m,(o,T,Q,J,r),_):=id I.loc;let(j,L):=u.any J I.free 's';exact I.step (g':=s.gens) (d':=s.drawn) (ch:=[]) (λ_ z=>nomatch z) (λb o _ E _ e n=>u.keep b o e n E 's') (λb o _ E _ e n=>u.slot b o e n E 's') (λb o _ e n=>u.free b o e n 's') (λb o _ e=>u.there b o e 's') u.tups u.tY (λU M=>by
  let(Y,D,B,C,N):=M;rw[J] at C;cases C;calc(_,D,B,L,N)) y I.bare
def Inv.call {g':Array GenState}{t':Nat}{d':Drawn}{ch:¬Addr}(I:Inv X A T H s)(u:Un (frs X.stack) ch H J s.heap h')(y:jP X.prog X.w J h')(hg:AllBare g')
  (D:∀b∈ch,(b∈X.ex\/X.s₀.heap.objs.size<=b)/\b≠X.env.locals/\(∀x c,X.env.cells.lookup x=#[c]->c≠b)/\∀p∈X.pn++A,p.1≠b):
  Inv X A T J {s with heap:=h',gens:=g',drawn:=d',toks:=t'}:=by
 let(m,(o,Y,U,L,r),_):=id I.loc;let(g,G):=u.any L I.free λz=>(D _ z).2.1 rfl;exact I.step (ch:=ch) D (λb o G M O e n=>u.keep b o e n (λz=>(bq.mp (I.G5 b z)).elim G M) O) (λb o _ _ O e n=>u.any e n O) (λb o O e n=>u.free b o e n O) (λb o O e=>u.there b o e O) u.tups u.tY (λj N=>by
  let(k,E,B,C,Q):=N;rw[L] at C;cases C;calc(_,E,B,G,Q)) y hg
def Inv.turned {A:Addr}(I:Inv X B T H s)(k:∀b o,b≠A->s.heap b=#[o]->h' b=#[o])(N:H A=none)(D:A≠X.env.locals)
  (h1:A∈X.ex\/X.s₀.heap.objs.size<=A)(h2:∀x c,X.env.cells.lookup x=#[c]->c≠A)(J:∀p∈X.pn++B,p.1≠A):Inv X B T H {s with heap:=h',toks:=t'}:=by
 have C:∀b u,H b=#[u]->b≠A:=λb u e z=>by rw[z,N] at e;k_go
 refine I.step (g':=s.gens) (d':=s.drawn) (ch:=[A]) (λb L=>?_) (λb o _ _ O e _=>k b o (λz=>O<|by simp[z]) e) (λb o _ _ O e _=>⟨o.slots,k b o (λz=>O<|by simp[z]) e⟩) (λ_ _ _ _ n=>n)
  (λb o O e=>⟨o,k b o (λz=>O<|by simp[z]) e⟩) (λ_ _ e=>e) (λ_ _ _ e=>e) (λm M=>?_) (λb u e=>?_) I.bare
 .have e:b=A:=‹L›
  subst e;exact⟨h1,D,h2,J⟩
 .let(o,G,E,Q,r):=M;exact⟨o,G,E,k _ o (ci D) Q,r⟩
 .refine(I.hok b u e).stay (λc v O q=>k c v ?_ q) (λ_ q=>q) λ_ _ q=>q;rcases O with z|z
  .rw[z];exact C b u e
  .calc C c _ z
def Inv.tok (I:Inv X A B H s)(t:Nat):Inv X A B H {s with toks:=t}:=I.un (h':=s.heap) (t':=t) Un.refl I.hok
theorem Inv.kept {t':Nat}(I:Inv X A B H s)(k:∀b u,s.heap b=#[u]->h' b=#[u]):Inv X A B H {s with heap:=h',toks:=t'}:=I.un (Un.kept k)<|I.hok.kept k
theorem Inv.laid (I:Inv X A C H s)(k:∀b u,s.heap b=#[u]->h' b=#[u])(D: ~~~s<=a)(B:fU X.prog X.w (upd H a o) h' a o):
  Inv X A C (upd H a o) {s with heap:=h',toks:=t'}:=I.un (Un.laid k D<|I.hok.fresh D)<|I.hok.laid k D B
theorem Inv.write (I:Inv X A C H s)(mu:ZP (H x))(Q:e=x\/H e=#[.own x])(k:∀b u,b≠e->s.heap b=#[u]->h' b=#[u])(G:∃u,h' e=#[u])
  (B:fU X.prog X.w (upd H x o) h' x o):Inv X A C (upd H x o) {s with heap:=h',toks:=t'}:=I.un (Un.write mu Q k G)<|I.hok.write mu Q k G B
def Inv.weak (I:Inv X A D H s)(N:(!B)=!D)(w:∀(i:Nat) v,B[i]? =#[#[v]]->D[i]? =#[#[v]]):Inv X A B H s:=
 (I.ok,I.os,I.bare,I.base,let⟨m,L,C⟩:=I.loc;(m,L,λi x v E G J=>C i x v E (w i v G) J),I.cell,I.free,I.pJ,I.pin,I.hok,N.trans I.len)
def Inv.Vz (I:Inv X B C H s)(h:∀p∈A,s.heap p.1=#[p.2]/\H p.1=none/\p.1≠X.env.locals/\Not (p.1∈X.fs)/\∀v,p.2.data≠ .cell v):Inv X A C H s:=
 (I.ok,I.os,I.bare,I.base,I.loc,I.cell,I.free,I.pJ,λp D=>(bd.mp D).elim (λz=>I.pin p<|c5 _ z)<|h p,I.hok,I.len)
def QM {N:¬Str}(A:N.Nodup){i j:Nat}(a:N[i]? =#[x])(b:N[j]? =#[x]):i=j:=by let(h1,B):=ah.mp a;let(h2,G):=ah.mp b;calc(kR A).mp<|B.trans G.symm
def Mh {M:Model}(I:Inv X tZ σ H s)(hN:X.N.Nodup)(hi:X.N[i]? =#[x])(G:Loc X.env.scope x)(r:RelV v u)
  (h:∀s',Inv X tZ (σ.set i<|#[v]) H s'->(∃a,Heap.SameBut a s.heap s'.heap/\(a=X.env.locals\/X.env.cells.lookup x=#[a]))->Q ⟨⟩ s')(hf:(X.fn x=true\/X.env.scope.names.lookup x=some .local)∣3):wpAny M A (storeName X.env x u) Q E s:=by
 let(m,hn,hl):=id I.loc;have w:(X.env.scope.kind==.class||(X.env.scope.kind==.module && X.env.locals !=X.env.globals))=false:=by rw[I.ok.kind];rfl
 have L:i<!σ:=by rw[I.len];exact(ah.mp hi).1
 have N:=I.cne;have C:∀{a:Addr}{g:Heap},(∃o,s.heap a=#[o]/\H a=none)->Heap.SameBut a s.heap g->jP X.prog X.w H g:=λ{a g} ha D b ob e=>by let(_,_,hfree):=ha;refine(I.hok b ob e).stay (λc w' O q=>(D.2 c ?_).trans q) (λ_ q=>q) λ_ _ q=>q;lk
 rcases G with l|l
 .refine wpAny_storeName_local l hn (λg hn' D=>?_) w;let(oL,_,_,hoL,_):=id hn;refine h _ ⟨I.ok,I.os,I.bare,⟨λb o e n T G=>?_,λb o e n T G=>?_,I.base.free,λb o e G=>?_,I.base.tups,I.base.tY⟩,⟨_,hn',λj y v' B J e3=>?_⟩,λy c e=>?_,I.free,I.pJ,λp hp=>?_,C ⟨oL,hoL,I.free⟩ D,by simpa using I.len⟩ ⟨_,D,.inl rfl⟩
  .exact(D.2 b<|c8<|bX (b8 e) I.ok.above).trans<|I.base.keep b o e n T G
  .let(sl,B):=I.base.slot b o e n T G;exact⟨sl,(D.2 b<|c8<|bX (b8 e) I.ok.above).trans B⟩
  .let(o',B):=I.base.there b o e G;exact⟨o',(D.2 b<|c8<|bX (b8 e) I.ok.above).trans B⟩
  .by_cases Y:j=i
   .subst Y;rw[hi] at B;cases B;rw[bo L] at J;cases J;exact⟨u,r,.inl ⟨l,by simp⟩⟩
   .rw[bP<|ci Y] at J;let(u',r',q):=hl j y v' B J e3;refine⟨u',r',?_⟩;rcases q with⟨k,e⟩|⟨k,c,e,z⟩
    .refine .inl ⟨k,?_⟩
     have:y≠x:=λe=>Y<|QM hN B<|e▸hi
     lk
    .exact .inr ⟨k,c,e,z.sameBut D<|N y c e⟩
  .let(w',z):=I.cell y c e;exact⟨w',z.sameBut D<|N y c e⟩
  .let(e,n,ne,nf,d):=I.pin p hp;exact⟨(D.2 p.1 ne).trans e,n,ne,nf,d⟩
 .have U:X.fn x=true:=by lk
  let(c,O):=I.ok.has x<|.inl l;let(w',z):=I.cell x c O;refine wpAny_storeName_cell I.ok.kind l O z<|λg t D=>?_;let(oc,hoc,anH):=id z;refine h {s with heap:=g} ⟨I.ok,I.os,I.bare,⟨λb o e n T G=>?_,λb o e n T G=>?_,I.base.free,λb o e G=>?_,I.base.tups,I.base.tY⟩,⟨m,hn.sameBut D<|ci (N x c O),λj y v' B J e3=>?_⟩,λy c' e=>?_,I.free,I.pJ,λp hp=>?_,C ⟨oc,hoc,I.pJ x c O⟩ D,by simpa using I.len⟩ ⟨c,D,.inr O⟩
  .exact(D.2 b<|c8<|bX (b8 e)<|I.ok.cab x c U O).trans<|I.base.keep b o e n T G
  .let(sl,B):=I.base.slot b o e n T G;exact⟨sl,(D.2 b<|c8<|bX (b8 e)<|I.ok.cab x c U O).trans B⟩
  .let(o',B):=I.base.there b o e G;exact⟨o',(D.2 b<|c8<|bX (b8 e)<|I.ok.cab x c U O).trans B⟩
  .by_cases Y:j=i
   .subst Y;rw[hi] at B;cases B;rw[bo L] at J;cases J;exact⟨u,r,.inr ⟨.inl l,c,O,t⟩⟩
   .rw[bP<|ci Y] at J;let(u',r',q):=hl j y v' B J e3;refine⟨u',r',?_⟩;rcases q with q|⟨k,c',e,z'⟩
    .exact .inl q
    .refine .inr ⟨k,c',e,z'.sameBut D ?_⟩;rintro rfl;exact Y<|QM hN B<|I.ok.inj _ _ _ e O▸hi
  .by_cases f:c'=c
   .subst f;exact⟨_,t⟩
   .let(w2,z2):=I.cell y c' e;exact⟨w2,z2.sameBut D f⟩
  .let(e,n,ne,nf,d):=I.pin p hp;refine⟨(D.2 p.1 ?_).trans e,n,ne,nf,d⟩;intro q;rw[q,hoc] at e;have q':oc=p.2:=bv e;calc d w' (by rw[<-q'];calc anH)
def FN (I:Inv X B N H s)(G:X.N.Nodup)(hi:X.N[i]? =#[x])(L:Loc X.env.scope x)(r:RelV v u)
  (h:∀C,Inv X B (N.set i<|#[v]) H C->Q ⟨⟩ C)(J:(X.fn x=true\/X.env.scope.names.lookup x=some .local)∣3):wpAny M A (storeName X.env x u) Q E s:=
 Mh I G hi L r (λC D _=>h C D) J
def Inv.call' (I:Inv X A N H s)(J:B.os=s.os)(u:Un (frs X.stack) ch H E s.heap B.heap)(y:jP X.prog X.w E B.heap)(hg:AllBare B.gens)
  (D:∀b∈ch,(b∈X.ex\/X.s₀.heap.objs.size<=b)/\b≠X.env.locals/\(∀x c,X.env.cells.lookup x=#[c]->c≠b)/\∀p∈X.pn++A,p.1≠b):Inv X A N E B:=by
 let(g,G,C,M,L):=B;have e:L=s.os:=J;subst e;calc I.call (g':=G) (t':=M) (d':=C) u y hg D
end
abbrev NE:Value->Shared->Prop:=λ_ _=>False
abbrev St:=List<|↑V
abbrev VK:=V->Hp->Prop
abbrev TE:=St->Hp->VK->Prop
abbrev TT:=St->Hp->(Bool->Hp->Prop)->Prop
abbrev TA:=St->Hp->(¬V->Hp->Prop)->Prop
structure Ends where
 nx:St->Hp->Prop
 rt:VK
abbrev TS:=Ends->St->Hp->Prop
def EP (X:Cx)(A:¬(Addr×Obj))(C:St)(Q:VK)(u:Value)(B:Shared):Prop:=∃v E,Inv X A C E B/\RelV v u/\Q v E
def TP (X:Cx)(A:¬(Addr×Obj))(C:St)(Q:Bool->Hp->Prop)(b:Bool)(B:Shared):Prop:=∃E,Inv X A C E B/\Q b E
def AP (X:Cx)(A:¬(Addr×Obj))(C:St)(Q:¬V->Hp->Prop)(us:¬Value)(B:Shared):Prop:=∃J E,Inv X A C E B/\Vals J us/\Q J E
def SP (X:Cx)(A:¬(Addr×Obj))(D:Ends)(f:Flow)(C:Shared):Prop:=
 match f with
 |.next=>∃B E,Inv X A B E C/\D.nx B E
 |.ret u=>∃v B E,Inv X A B E C/\RelV v u/\D.rt v E
 |_=>False
def PE (X:Cx)(e:Expr)(t:TE):Prop:=
 ∀(A:¬(Addr×Obj)) (s:Shared) (B:St) (H:Hp) (Q:VK),Inv X A B H s->t B H Q->(X.prog\X.w) X.A (eval e X.env) (EP X A B Q) NE s
def PT (X:Cx)(e:Expr)(t:TT):Prop:=
 ∀(A:¬(Addr×Obj)) (s:Shared) (B:St) (H:Hp) (Q:Bool->Hp->Prop),Inv X A B H s->t B H Q->(X.prog\X.w) X.A (isTrue e X.env<|eval e X.env) (TP X A B Q) NE s
def PW (X:Cx)(e:Expr)(t:TT):Prop:=
 ∀(mZ:Sem Value) (A:¬(Addr×Obj)) (s:Shared) (B:St) (H:Hp) (Q:Bool->Hp->Prop),Inv X A B H s->t B H Q->(X.prog\X.w) X.A (isTrue e X.env mZ) (TP X A B Q) NE s
def PW.pt (h:PW X e t):PT X e t:=h _
def PA (X:Cx)(D:¬Expr)(t:TA):Prop:=
 ∀(B:Pos) (A:¬(Addr×Obj)) (s:Shared) (C:St) (H:Hp) (Q:¬V->Hp->Prop),Inv X A C H s->t C H Q->(X.prog\X.w) X.A (spliced<|backTo B<|starEach D X.env) (AP X A C Q) NE s
def PS (X:Cx)(st:Stmt)(t:TS):Prop:=
 ∀(A:¬(Addr×Obj)) (s:Shared) (B:St) (H:Hp) (D:Ends),Inv X A B H s->t D B H->(X.prog\X.w) X.A (exec st X.env) (SP X A D) NE s
def jl (X:Cx)(st:¬Stmt)(t:TS):Prop:=
 ∀(A:¬(Addr×Obj)) (s:Shared) (B:St) (H:Hp) (D:Ends),Inv X A B H s->t D B H->(X.prog\X.w) X.A (execs st X.env) (SP X A D) NE s
def aY (h:wpAny M A t Q E s)(C:∀a s,Q a s->B a s):wpAny M A t B E s:=eR h C λ_ _ x=>x
section
def ahA (i:Nat):TE:=λB H Q=>∃v,B[i]? =#[#[v]]/\Q v H
def tC (v:V):TE:=λ_ H Q=>Q v H
def ZX (E:X.N[i]? =#[x])(T:ZV X.env.scope x)(G:((x==("__debug__":Str))=false)∣1)(D:((x==("__classdict__":Str))=false)∣1):PE X (.Name x U) (ahA i):=by
 intro C s Y H Q I h;let(v,e,h):=h;let(m,L,N):=I.loc;let(u,r,l):=N i x v E e T;have B:EP X C Y Q u s:=(v,H,I,r,h);rcases l with⟨M,J⟩|⟨M,c,O,A⟩
 .exact wpAny_Name (wpAny_loadName_local I.ok.kind M L J B) G
 .rcases M with M|M
  .exact wpAny_Name (wpAny_loadName_cell I.ok.kind M O A B) G
  .calc wpAny_Name (wpAny_loadName_free I.ok.kind M O A B D) G
def aN {i j A}:PE X (.Constant (.int i) j A) (tC<|.int i):=λ_ _ _ H _ I h=>wpAny_Constant_int ⟨.int i,H,I.tok _,⟨_,rfl⟩,h⟩
def kI {b j A}:PE X (.Constant (.bool b) j A) (tC<|.bl b):=λ_ _ _ H _ I h=>Constant_bool (.bl b,H,I,rfl,h)
def nO {j A}:PE X (.Constant .none j A) (tC .non):=λ_ _ _ H _ I h=>Constant_none (.non,H,I,rfl,h)
def aQ {x j A}:PE X (.Constant (.str x) j A) (tC<|.str x):=λ_ _ _ H _ I h=>Calls.Constant_str ⟨.str x,H,I.tok _,⟨_,rfl⟩,h⟩
def Gl (X:Cx)(x:Str):Prop:=X.env.kindOf x=some .globalImplicit
def Dh (I:Inv X A D H s)(hg:Gl X x)(B:X.mg x=#[u])(h:Q u s)
  (G:((x==("__debug__":Str))=false)∣1):(X.prog\X.w) X.A (eval (.Name x C) X.env) Q E s:=
 om I.ok.kind hg (Calls.loadGlobal_global (by rw[I.ok.glob];calc I.mod.glob.keeps I.bk) B h) G
def pK (I:Inv X A L H s)(hg:Gl X x)(B:X.mg x=none)(M:bootBuiltins x=#[u])(h:Q u s)
  (C:(x≠"__name__")∣1)(G:((x==("__debug__":Str))=false)∣1):(X.prog\X.w) X.A (eval (.Name x D) X.env) Q E s:=by
 let(J,h1,h2):=I.mod.blt;calc om I.ok.kind hg (Calls.loadGlobal_builtin (by rw[I.ok.glob];calc I.mod.glob.keeps I.bk) B (by rw[I.ok.blt];calc h1.keeps I.bk) ((h2 x C).trans M) h) G
def ju (hg:Gl X x)(A:X.mg x=#[u])(r:RelV v u)(G:((x==("__debug__":Str))=false)∣1):PE X (.Name x B) (tC v):=
 λ_ _ _ H _ I h=>Dh I hg A (v,H,I,r,h) G
def xP (hg:Gl X x)(A:X.mg x=none)(M:bootBuiltins x=#[u])(r:RelV v u)(C:(x≠"__name__")∣1)(G:((x==("__debug__":Str))=false)∣1):PE X (.Name x B) (tC v):=
 λ_ _ _ H _ I h=>pK I hg A M (v,H,I,r,h) C G
variable {A:Pos}
def PC (X:Cx)(G:CmpOp)(a b:Expr)(t:TE):Prop:=
 ∀(B:¬(Addr×Obj)) (s:Shared) (E:St) (H:Hp) (Q:VK),Inv X B E H s->t E H Q->
  (X.prog\X.w) X.A (eval a X.env) (λv C=>(X.prog\X.w) X.A (eval b X.env) (λu D=>(X.prog\X.w) X.A (compareOp G v u) (EP X B E Q) NE D) NE C) NE s
def aco (b:Expr)(h:G≠ .In)(h2:G≠ .NotIn):behindInMarks G b=false:=by
 have B:(G==CmpOp.In)=false:=by cases G<;>first|rfl|exact absurd rfl h
 have C:(G==CmpOp.NotIn)=false:=by cases G<;>first|rfl|exact absurd rfl h2
 cases b<;>simp[behindInMarks,B,C]
def Xw (B:TE):TE:=λC H Q=>B C H λx E=>Q (.bl<|decide<|x=.non) E
def RelV.acp (r:RelV x v):(v==Value.none)=decide (x=.non):=by
 cases x with
 |non=>cases r;rfl
 |bl _=>cases r;rfl
 |int _=>let(t,rfl):=r;rfl
 |str _=>let(t,rfl):=r;rfl
 |ref _=>cases r;rfl
 |ty _=>cases r;rfl
def QS {j C}(G:PE X a M):PC X .Is a (.Constant .none j C) (Xw M):=by intro B s N H Q I h;refine aY (G B s N H _ I h) ?_;rintro v O ⟨x,E,D,L,J⟩;calc Constant_none<|is_none_gen (.bl _,E,D,by rw[L.acp];rfl,J)
def tB (t:TE):TT:=λB H Q=>t B H λx E=>∃c,x=.bl c/\Q c E
def sO (h:PC X G a b t)(h1:behindInMarks G b=false:=by first|calc aco _ ⋯ ⋯|rfl):PT X (.Compare a [G] [b] A) (tB t):=by intro B s M H Q I C;refine qV (aY (h B s M H _ I C) λv O h1=>aY h1 λu N h2=>aY h2 ?_) h1;rintro c T ⟨x,E,D,L,J⟩;let(d,rfl,q):=J;cases L;calc cK (E,D,q)
variable {rest:¬Expr}
def QT (t u:TT):TT:=λB H Q=>t B H λc E=>if c=true then u B E Q else Q false E
def Mi (t u:TT):TT:=λB H Q=>t B H λc E=>if c=true then Q true E else u B E Q
def Xx (t:TT):TT:=λB H Q=>t B H λc E=>Q (not c) E
def Ke (G:PT X a C):PW X (.BoolOp .And [a] A) C:=by
 intro E B s D H Q I h;refine isTrue_and<|aY (G B s D H Q I h) λc O e=>?_;cases c with
 |true=>calc isTrue_and_nil e
 |false=>calc e
def iV (G:PT X a C):PW X (.BoolOp .Or [a] A) C:=by
 intro E B s D H Q I h;refine isTrue_or<|aY (G B s D H Q I h) λc O e=>?_;cases c with
 |false=>calc isTrue_or_nil e
 |true=>calc e
def QV (L:PT X a N)(M:PW X (.BoolOp .And (b::rest) A) C):PW X (.BoolOp .And (a::b::rest) A) (QT N C):=by
 intro T B s G H Q I h;refine isTrue_and<|aY (L B s G H _ I h) ?_;rintro c O ⟨E,D,J⟩;cases c with
 |true=>calc M T B O G E Q D J
 |false=>calc(E,D,J)
def gG (L:PT X a N)(M:PW X (.BoolOp .Or (b::rest) A) C):PW X (.BoolOp .Or (a::b::rest) A) (Mi N C):=by
 intro T B s G H Q I h;refine isTrue_or<|aY (L B s G H _ I h) ?_;rintro c O ⟨E,D,J⟩;cases c with
 |true=>calc(E,D,J)
 |false=>calc M T B O G E Q D J
def nP (G:PT X a C):PT X (.UnaryOp .Not a A) (Xx C):=by intro B s D H Q I h;calc isTrue_not<|G B s D H (λc E=>Q (not c) E) I h
def QW {G}(h:PE X a t):PE X (.BoolOp G [a] A) t:=λB s D H Q I C=>BoolOp_one<|h B s D H Q I C
def tIf (t:TT)(C D:TE):TE:=λB H Q=>t B H λc E=>if c=true then C B E Q else D B E Q
def QX (M:PT X c N)(G:PE X a T)(L:PE X b U):PE X (.IfExp c a b A) (tIf N T U):=by
 intro B s C H Q I h;refine wpAny_IfExp<|aY (M B s C H _ I h) ?_;rintro d O ⟨E,D,J⟩;cases d with
 |true=>calc G B O C E Q D J
 |false=>calc L B O C E Q D J
end
def aU (K:Frag)(H:Hp)(a:Addr)(xs:¬V):Prop:=
 Rd H a (.lst xs)\/
  ∃(o:Obj) (A:Array Value) (n:Nat),K.lookup a=#[o]/\o.cls=.type "list"/\o.dict=none/\o.data=.seq A n/\A.size<=sizeLine/\Vals xs A.toList
def cF (K:Frag)(H:Hp)(a:Addr)(xs:¬V):Prop:=
 Rd H a (.tup xs)\/
  ∃(o:Obj) (A:Array Value) (n:Nat),K.lookup a=#[o]/\o.cls=.type "tuple"/\o.data=.seq A n/\A.size<=sizeLine/\Vals xs A.toList
def anI:Value->↑V
 |.none=>some .non
 |.bool b=>#[.bl b]
 |.int i _=>#[.int i]
 |.str x _=>#[.str x]
 |.ref a=>#[.ref a]
 |.type n=>#[.ty n]
 |_=>none
def RelV.abs (r:RelV x u):anI u=#[x]:=by
 cases x with
 |non=>cases r;rfl
 |bl _=>cases r;rfl
 |int _=>let(t,rfl):=r;rfl
 |str _=>let(t,rfl):=r;rfl
 |ref _=>cases r;rfl
 |ty _=>cases r;rfl
def RelV.inj (r:RelV x u)(q:RelV y u):x=y:=bv<|r.abs.symm.trans q.abs
theorem Vals.inj (h:Vals xs us)(g:Vals ys us):xs=ys:=by
 induction h generalizing ys with
 |nil=>cases g;rfl
 |cons r _ A=>
  cases g with
  |cons C M=>rw[r.inj C,A M]
section
variable {xs ys:¬V}
def aU.of {K:Frag}(h:H a=#[.lst xs]):aU K H a xs:=.inl<|.inl h
def cF.of {K:Frag}(h:H a=#[.tup xs]):cF K H a xs:=.inl<|.inl h
def Inv.list (I:Inv X B E H s)(h:aU X.K H a xs):∃A:¬Value,Vals xs A/\PlainL s.heap a A.toArray/\(!xs)<=sizeLine:=by
 rcases h with h|⟨o,A,n,M,O,G,D,C,r⟩
 .let(z,A,n,r,e):=h.ok I.hok;exact(A,r,(_,n,e,rfl,rfl,rfl),z)
 .refine(A.toList,r,(o,n,I.o9 a o M,O,G,by simpa using D),?_);have e:=!r;grind
def Inv.tuple (I:Inv X B E H s)(h:cF X.K H a xs):∃A:¬Value,Vals xs A/\IsTup s.heap a A.toArray/\(!xs)<=sizeLine:=by
 rcases h with h|⟨o,A,n,M,O,D,C,r⟩
 .let(z,A,r,p):=h.ok I.hok;exact(A,r,p,z)
 .refine(A.toList,r,(o,I.o9 a o M,O,n,by simpa using D),?_);have e:=!r;erw[bS] at e;lk
def Inv.yQ (I:Inv X E N H s)(h:aU X.K H a xs)(h':aU X.K H a ys):xs=ys:=by
 let(B,r,(o,n,e,_,_,d),_):=I.list h;let(A,J,(M,L,D,_,_,C),_):=I.list h';rw[e] at D;cases D;rw[d] at C;injection C with G _
 have:B=A:=‹cw toList G›
 subst this;calc r.inj J
def Inv.Mj (I:Inv X E N H s)(h:cF X.K H a xs)(h':cF X.K H a ys):xs=ys:=by
 let(B,r,(o,e,_,n,d),_):=I.tuple h;let(A,J,(M,D,_,L,C),_):=I.tuple h';rw[e] at D;cases D;rw[d] at C;injection C with G _
 have:B=A:=‹cw toList G›
 subst this;calc r.inj J
end
section
variable {st:Stmt}{rest:¬Stmt}
def m5:TS:=λD B H=>D.nx B H
def iW (t u:TS):TS:=λD B H=>t {D with nx:=u D} B H
def aX:jl X [] m5:=λ_ _ B H _ I h=>km (B,H,I,h)
def aq (h1:PS X st t)(h2:jl X rest u):jl X (st::rest) (iW t u):=by
 intro A s G H D I h;refine wpAny_execs_cons<|aY (h1 A s G H {D with nx:=u D} I h) λf O q=>?_;cases f with
 |next=>let(B,E,C,q):=q;calc h2 A O B E D C q
 |_=>calc q
def aJ (h1:PS X st t):jl X [st] t:=by
 intro A s B H D I h;refine wpAny_execs_cons<|aY (h1 A s B H D I h) λf O q=>?_;cases f with
 |next=>calc km q
 |_=>calc q
def Inv.quiet (I:Inv X A B H s):interactive X.env=false:=by simp[interactive,I.ok.kind]
def iw (te:TE):TS:=λD B H=>te B H λ_ E=>D.nx B E
def cG (Q:PE X e te)(J:(swapsWith e none B.line X.env=pure false)∣0):PS X (.Expr e B) (iw te):=by intro A s C H D I h;refine wpAny_Expr_any (aY (Q A s C H _ I h) ?_) I.quiet J;rintro v O ⟨x,E,G,M,L⟩;calc(C,E,G,L)
def uc (te:TE):TS:=λD B H=>te B H D.rt
def aZ (Q:PE X e te):PS X (.Return #[e] G) (uc te):=by intro A s B H D I h;refine wpAny_Return_some<|aY (Q A s B H _ I h) ?_;rintro v O ⟨x,E,C,L,J⟩;calc(x,B,E,C,L,J)
def d8 (c:TT)(t u:TS):TS:=λD B H=>c B H λb E=>if b=true then t D B E else u D B E
def bI (M:PT X c tc)(G:jl X a t)(L:jl X b u):PS X (.If c a b N) (d8 tc t u):=by
 intro A s B H D I h;refine wpAny_If<|aY (M A s B H _ I h) ?_;rintro d O ⟨E,C,J⟩;cases d with
 |true=>calc G A O B E D C J
 |false=>calc L A O B E D C J
def Z1:TS:=λ_ _ _=>False
def kJ:PS X st Z1:=λ_ _ _ _ _ _ h=>h.elim
end
abbrev TG:=V->St->Hp->(St->Hp->Prop)->Prop
abbrev VB:=¬V->St->Hp->(St->Hp->Prop)->Prop
def PG (X:Cx)(A:Expr)(t:TG):Prop:=
 ∀(B:¬(Addr×Obj)) (s:Shared) (D:St) (H:Hp) (v:V) (u:Value) (Q:St->Hp->Prop),Inv X B D H s->RelV v u->t v D H Q->
  (X.prog\X.w) X.A (assign A X.env u) (λ_ G=>∃C E,Inv X B C E G/\Q C E) NE s
def sS (X:Cx)(I:¬Expr)(t:VB):Prop:=
 ∀(A:¬(Addr×Obj)) (s:Shared) (D:St) (H:Hp) (J:¬V) (C:¬Value) (Q:St->Hp->Prop),Inv X A D H s->Vals J C->t J D H Q->
  (X.prog\X.w) X.A (assignInOrder ((assignEach I X.env).map (·.2)) C) (λ_ G=>∃B E,Inv X A B E G/\Q B E) NE s
abbrev Xy:=V->V->V->Hp->(Hp->Prop)->Prop
def yR (X:Cx)(t:Xy):Prop:=
 ∀(A:¬(Addr×Obj)) (s:Shared) (D:St) (H:Hp) (o i v:V) (C B u:Value) (Q:Hp->Prop),Inv X A D H s->RelV o C->RelV i B->RelV v u->t o i v H Q->
  (X.prog\X.w) X.A (setItem C B u) (λ_ G=>∃E,Inv X A D E G/\Q E) NE s
abbrev Z2:=V->V->Hp->VK->Prop
def Ad (X:Cx)(G:Operator)(t:Z2):Prop:=
 ∀(A:¬(Addr×Obj)) (s:Shared) (B:St) (H:Hp) (x y:V) (v u:Value) (Q:VK),Inv X A B H s->RelV x v->RelV y u->t x y H Q->
  (X.prog\X.w) X.A (inplaceOp G v u) (EP X A B Q) NE s
section
variable {A:Pos}
def cg (i:Nat):TG:=λv B H Q=>Q (B.set i<|#[v]) H
def xQ (C:X.N.Nodup)(hi:X.N[i]? =#[x])(G:Loc X.env.scope x)(E:(X.fn x=true\/X.env.scope.names.lookup x=some .local)∣3):PG X (.Name x A) (cg i):=by intro B s L H v u Q I r h;calc wpAny_assign_Name<|FN I C hi G r (λJ D=>(_,H,D,h)) E
def anJ (K:Frag)(n:Nat)(t:VB):TG:=λv B H Q=>∃a D,v=.ref a/\cF K H a D/\(!D)=n/\t D B H Q
def ahB (h:sS X D t)
  (O:((!(assignEach D X.env))=n)∣0)(C:((assignEach D X.env).findIdx? (·.1)=none)∣0):PG X (.Tuple D k A) (anJ X.K n t):=by
 intro B s J H v u Q I r E;let(a,l,M,T,N,E):=E;subst M;cases r;let(j,G,U,m):=I.tuple T;refine assign_Tuple_tuple I.ok.hd U (by simp[O,←N,!G]) C λg Y=>?_;have L:Inv X B J H {s with heap:=g}:=I.kept (t':=s.toks) λb o e=>Y b o (c8<|b8 e) e;calc h B _ J H l _ Q L ‹G› E
def acq (G D:TE)(t:Xy):TG:=λv B H Q=>G B H λo E=>D B E λi J=>t o i v J λC=>Q B C
def ahC (U:PE X o b)(hi:PE X i z)(Y:yR X t)
  (T:∀v,assign (.Subscript o i A) X.env v=(do
   let C<-holding [v] (eval o X.env);let D<-holding [v,C] (eval i X.env)
   standAt A
   holding [v,C,D] (setItem C D v)
   release [v,C,D] []):=by intro _;rfl):PG X (.Subscript o i A) (acq b z t):=by
 intro B s E H v u Q I r h;rw[T];refine aa<|dT<|aY (U B s E H _ I h) ?_;rintro C p ⟨x,G,M,l,j⟩;refine aa<|dT<|aY (hi B p E G _ M j) ?_;rintro D q ⟨y,J,N,m,k⟩;refine aa<|oC<|aa<|dT<|aY (Y B q E J x y v C D u _ N l m r k) ?_;rintro _ c ⟨L,O,g⟩;calc wpAny_release (E,L,O,g)
def jq (te:TE)(g:TG):TS:=λD B H=>te B H λx E=>g x B E D.nx
def Av (Q:PE X e te)(hg:PG X C g)(L:(swapsWithSole [C] e A.line X.env=pure false)∣0)(M:(swappedStores [C] e X.env=pure none)∣0)
  (h1:((assignEach [C] X.env).map (·.2)=[assign C X.env])∣0):PS X (.Assign [C] e A) (jq te g):=by
 intro B s E H D I h;refine wpAny_Assign_stores (aY (Q B s E H _ I h) ?_) L M;rintro v T ⟨x,G,J,O,N⟩;rw[h1];calc aY (hg B T E G x v _ J O N) λ_ U q=>q
def Aw (J:X.N.Nodup)(hi:X.N[i]? =#[x])(O:Loc X.env.scope x)(Q:PE X e te)(M:(swapsWith e (#[.Name x C]) A.line X.env=pure false)∣0)(L:(X.fn x=true\/X.env.scope.names.lookup x=some .local)∣3):
  PS X (.Assign [.Name x C] e A) (jq te<|cg i):=by
 intro B s Y H D I h;refine wpAny_Assign_Name (aY (Q B s Y H _ I h) ?_) M;rintro v j ⟨y,E,G,U,T⟩;calc FN G J hi O U (λk N=>(_,E,N,T)) L
def anK (i:Nat)(te:TE)(C:Z2):TS:=λD B H=>∃x,B[i]? =#[#[x]]/\te B H λy E=>C x y E λz J=>D.nx (B.set i<|#[z]) J
def ahD (p:X.N.Nodup)(hi:X.N[i]? =#[x])(J:Loc X.env.scope x)(t:PE X e te)(a:Ad X N ti)(b:(X.fn x=true\/X.env.scope.names.lookup x=some .local)∣3):
  PS X (.AugAssign (.Name x O) N e A) (anK i te ti):=by
 intro B s Q H D I h;let(v,o,h):=h;let(m,n,d):=I.loc;have L:ZV X.env.scope x:=by rcases J with k|k;calc .inl k;exact .inr<|.inl k
 let(u,r,l):=d i x v hi o L;refine wpAny_AugAssign_Name ?_;have go:(X.prog\X.w) X.A (eval e X.env) (λw E=>(X.prog\X.w) X.A (inplaceOp N u w) (λr G=>(X.prog\X.w) X.A (storeName X.env x r) (λ_=>SP X B D .next) NE G) NE E) NE s:=by refine aY (t B s Q H _ I h) ?_;rintro w s1 ⟨y,T,Y,r1,q1⟩;refine aY (a B s1 Q T v y u w _ Y r r1 q1) ?_;rintro z s2 ⟨zv,U,j,r2,q2⟩;exact FN j p hi J r2 (λs3 g=>(_,U,g,q2)) b
 rcases l with⟨M,f⟩|⟨M,c,q,C⟩
 .exact wpAny_loadName_local I.ok.kind M n f go
 .rcases M with M|M
  .exact wpAny_loadName_cell I.ok.kind M q C go
  .rcases J with k|k
   .have:X.env.scope.names.lookup x=some .free:=M
    lk
   .have:X.env.scope.names.lookup x=some .free:=M
    lk
def aeT (T Q te:TE)(B:V->V->Hp->VK->Prop)(G:Z2)(C:Xy):TS:=λD E H=>T E H λo I=>Q E I λi J=>B o i J λx L=>te E L λy M=>G x y M λz N=>C o i z N λO=>D.nx E O
def ahE (X:Cx)(t:V->V->Hp->VK->Prop):Prop:=
 ∀(B:¬(Addr×Obj)) (s:Shared) (E:St) (H:Hp) (o i:V) (D C:Value) (Q:VK),Inv X B E H s->RelV o D->RelV i C->t o i H Q->
  (X.prog\X.w) X.A (getItem D C) (EP X B E Q) NE s
def VD (f:PE X o to)(hi:PE X i ti)(hg:ahE X L)(d:PE X e te)(n:Ad X x O)(w:yR X M)
  (c:∀G E C,augStore i G E C=(do holding [C,G,E] (setItem G E C);release [C,G,E] [];pure .next):=by intros;rfl):PS X (.AugAssign (.Subscript o i T) x e A) (aeT to ti te L O M):=by
 intro B s J H D I h;refine wpAny_AugAssign_SubscriptAny (aY (f B s J H _ I h) ?_) c;rintro G s1 ⟨U,j,r,Q,a⟩;refine aY (hi B s1 J j _ r a) ?_;rintro E s2 ⟨Y,k,t,m,q2⟩;refine aY (hg B s2 J k U Y G E _ t Q m q2) ?_;rintro N s3 ⟨x3,g,u,r3,q3⟩;refine aY (d B s3 J g _ u q3) ?_;rintro v s4 ⟨x4,l,y,r4,q4⟩;refine aY (n B s4 J l x3 x4 N v _ y r3 r4 q4) ?_;rintro C s5 ⟨x5,p,z,r5,q5⟩;refine aY (w B s5 J p U Y x5 G E C _ z Q m r5 q5) ?_;rintro _ s6 ⟨q,b,q6⟩;calc(J,q,b,q6)
def ipI (f:Int->Int->Int):Z2:=λx y H Q=>∃i j,x=.int i/\y=.int j/\Q (.int<|f i j) H
def ahF:Ad X .Add (ipI λi j=>i+j):=by intro B s D H x y v u Q I L m h;let(i,j,C,G,q):=h;subst C;subst G;let(t,rfl):=L;let(M,rfl):=m;calc iadd_int ⟨.int _,H,I.tok _,⟨_,rfl⟩,q⟩
def ahG:Ad X .Sub (ipI λi j=>i - j):=by intro B s D H x y v u Q I L m h;let(i,j,C,G,q):=h;subst C;subst G;let(t,rfl):=L;let(M,rfl):=m;calc isub_int ⟨.int _,H,I.tok _,⟨_,rfl⟩,q⟩
end
section
variable {A:Pos}
def Z4 (c:TT)(I:TS):TS:=λD B H=>∃W:Nat->St->Hp->Prop,(∃m,W m B H)/\∀m B H,W m B H->
 c B H λb G=>if b=true then ∃N:St->Hp->Prop,(∀C E,N C E->∃U,U<m/\W U C E)/\I {D with nx:=N} B G else D.nx B G
def acr (o:PT X c tc)(m:jl X E d):PS X (.While c E [] A) (Z4 tc d):=by
 intro B s i H D I h;let(W,(r,w),G):=h;refine wpAny_While<|codeAny_whileLoop (λn u=>∃J M,Inv X B J M u/\W n J M) ?_ r (i,H,I,w);rintro n y ⟨C,O,Y,x⟩;refine fv .never<|aY (o B y C O _ Y<|G n C O x) ?_;rintro b z ⟨Q,U,k⟩;cases b with
 |true=>
  let(N,l,k):=k;rw[ap rfl];refine fv .never<|aY (m B z C Q _ U k) λf e g=>?_;cases f with
  |next=>let(L,T,j,t):=g;let(q,p,a):=l L T t;calc(q,p,L,T,j,a)
  |ret v=>calc g
  |_=>calc g.elim
 |false=>rw[aw bp];calc km (C,Q,U,k)
end
structure It where
 go:Nat->Hp->Prop
 Z5:Nat->Hp->V->Hp->Prop
 stop:Nat->Hp->Prop
def qH (X:Cx)(A:¬(Addr×Obj))(H:Hp)(b:Addr):Prop:=
 H b=none/\b≠X.env.locals/\Not (b∈X.fs)/\(b∈X.ex\/X.s₀.heap.objs.size<=b)/\(∀x c,X.env.cells.lookup x=#[c]->c≠b)/\∀p∈X.pn++A,p.1≠b
def Inv.uU (I:Inv X A G H s)(B: ~~~s<=b)(C:E b=none):qH X A E b:=by
 refine(C,lj<|bX I.lt B,I.anG B,.inr<|cb I.sz B,λx c e z=>?_,λp D z=>?_)
 .let(v,q):=I.cell x c e;exact absurd (bX q.lt (by rw[z];calc B)) (hZ _)
 .calc absurd (bX (b8 (I.pin p D).1) (by rw[z];calc B)) (hZ _)
structure Turn (P:Program)(w:World)(K:Frag)(tg:Expr)(J:It)(fp:¬Addr)(it:Addr)(tn:Nat->Heap->Prop):Prop where
 mem:it∈fp
 obj:∀i h,tn i h->∀b∈fp,∃o,h b=#[o]/\∀v,o.data≠ .cell v
 keep:∀i h h',tn i h->(∀b∈fp,∀o,h b=#[o]->h' b=#[o])->tn i h'
 item:∀(X:Cx),X.prog=P->X.w=w->X.K=K->∀(i:Nat) (tZ:¬(Addr×Obj)) (s:Shared) (σ:St) (H:Hp),Inv X tZ σ H s->(∀b∈fp,qH X tZ H b)->tn i s.heap->J.go i H->
  (P\w) X.A (pyNext (.ref it)) (λr s1=>∃u,r=#[u]/\
   (P\w) X.A (letOwnedTupleGo tg (.ref it) u) (λ_ s2=>∃x H',Inv X tZ σ H' s2/\RelV x u/\J.Z5 i H x H'/\tn (i+1) s2.heap/\∀b∈fp,H' b=none) NE s1) NE s
 done:∀(X:Cx),X.prog=P->X.w=w->X.K=K->∀(i:Nat) (tZ:¬(Addr×Obj)) (s:Shared) (σ:St) (H:Hp),Inv X tZ σ H s->(∀b∈fp,qH X tZ H b)->tn i s.heap->J.stop i H->
  (P\w) X.A (pyNext<|.ref it) (λr s1=>r=none/\Inv X tZ σ H s1) NE s
 self:∀(A:Around) (i:Nat) (s:Shared) (Q:Value->Shared->Prop) (E:Value->Shared->Prop),tn i s.heap->Q (.ref it) s->(P\w) A (pyIter<|.ref it) Q E s
abbrev TI:=St->Hp->(It->Hp->Prop)->Prop
def PIE (X:Cx)(A:¬(Addr×Obj))(I:St)(H:Expr)(R:It->Hp->Prop)(B:Value)(N:Shared):Prop:=
 ∃(D:Addr) (C:¬Addr) (G:Nat->Heap->Prop) (J:It) (E:Hp),B=.ref D/\Inv X A I E N/\Turn X.prog X.w X.K H J C D G/\G 0 N.heap/\(∀b∈C,qH X A E b)/\R J E
def PI (X:Cx)(C iter:Expr)(D:TI):Prop:=
 ∀(A:¬(Addr×Obj)) (s:Shared) (B:St) (H:Hp) (R:It->Hp->Prop),Inv X A B H s->D B H R->
  (X.prog\X.w) X.A (eval iter X.env) (λv O=>(X.prog\X.w) X.A (pyIter v) (PIE X A B C R) NE O) NE s
def yS (I:s.heap D=#[o])(O:o.cls=.type n)(G:o.data=.fields vs)
    (B:["enumerate","zip","dict_itemiterator","dict_reverseitemiterator","odict_iterator","itertools.zip_longest","itertools.pairwise"].contains n=false)(C:Q ⟨⟩ s):wpAny M A (letOwnedTupleGo H (.ref D) u) Q E s:=by
  delta letOwnedTupleGo;cases H<;>first
    |calc ax C
    |(cases u<;>first
        |calc ax C
        |(refine aa (wpAny_load I ?_)
          rw[O,G];show wpAny M A (if(["enumerate","zip","dict_itemiterator","dict_reverseitemiterator","odict_iterator","itertools.zip_longest","itertools.pairwise"].contains n && vs[0]? ==#[rawInt _])=true then _ else _) Q E s;rw[aw (by intro h;rw[B,Bool.false_and] at h;cases h)];calc ax C))
def G6 (K:Frag)(a:Addr):It:=
 (λi H=>∃D x,aU K H a D/\D[i]? =#[x],λi H x E=>E=H/\∀D,aU K H a D->D[i]? =#[x],λi H=>∃D,aU K H a D/\(!D)<=i)
def Itt (K:Frag)(a:Addr):It:=
 (λi H=>∃D x,cF K H a D/\D[i]? =#[x],λi H x E=>E=H/\∀D,cF K H a D->D[i]? =#[x],λi H=>∃D,cF K H a D/\(!D)<=i)
def Z6 (lo:Int)(n:Nat):It:=(λi _=>i<n,λi H x E=>E=H/\x=.int (lo+i),λi _=>n<=i)
def Z7 {K:Frag}(a C:Addr):Turn P w K tg (G6 K a) [C] C (λi h=>h.IsListIter C a i) where
 mem:=by simp
 obj:=λi h st b B=>by
  have e:b=C:=‹B›
  subst e;let(o,e,c,d):=st;exact⟨o,e,λv z=>by rw[d] at z;cases z⟩
 keep:=λi h g st k=>st.at λo e=>k C 's' o e
 item:=by intro X Q Y O i A s q H I E st U;subst Q Y O;let(xs,x,T,j):=U;let(l,m,p,hz):=I.list T;let(u,f,ru):=m.get j;let(G,J,y,L,M,N):=E C 's';refine wpAny_pyNext_list_item st p.isList (x:=u) ‹f› λg D sb=>?_;have r:Inv X A q H {s with heap:=g}:=I.turned (t':=s.toks) (λb o B e=>(sb.2 b B).trans e) G J L M N;let(o,e,c,d):=id D;exact⟨u,rfl,yS (s:={s with heap:=g}) e c d ⋯ ⟨x,H,r,ru,⟨rfl,λys n=>by rw[I.yQ n T];calc j⟩,D,λb B=>(E b B).1⟩⟩
 done:=by intro X Q Y O i A s q H I E st U;subst Q Y O;let(xs,T,j):=U;let(l,m,p,hz):=I.list T;let(G,J,y,L,M,N):=E C 's';have hl:=!m;exact wpAny_pyNext_list_end I.ok.hd st p.isList (by simp;lk) λg t=>⟨rfl,I.turned (t':=s.toks) (λb o B e=>t b o B e) G J L M N⟩
 self:=λ_ _ _ _ _ st h=>wpAny_pyIter_listiter st h
def Xz {K:Frag}(a C:Addr):Turn P w K tg (Itt K a) [C] C (λi h=>h.IsTupleIter C a i) where
 mem:=by simp
 obj:=λi h st b B=>by
  have e:b=C:=‹B›
  subst e;let(o,e,c,d):=st;exact⟨o,e,λv z=>by rw[d] at z;cases z⟩
 keep:=λi h g st k=>st.at λo e=>k C 's' o e
 item:=by intro X U j Q i A s q H I G st Y;subst U j Q;let(xs,x,T,l):=Y;let(D,m,p,hz):=I.tuple T;let(u,f,ru):=m.get l;let(J,L,y,M,N,O):=G C 's';refine wpAny_pyNext_tuple_item st (show s.heap.IsTuple a D.toArray from p) (x:=u) ‹f› λg E sb=>?_;have r:Inv X A q H {s with heap:=g}:=I.turned (t':=s.toks) (λb o B e=>(sb.2 b B).trans e) J L M N O;let(o,e,c,d):=id E;exact⟨u,rfl,yS (s:={s with heap:=g}) e c d ⋯ ⟨x,H,r,ru,⟨rfl,λys n=>by rw[I.Mj n T];calc l⟩,E,λb B=>(G b B).1⟩⟩
 done:=by intro X U j Q i A s q H I G st Y;subst U j Q;let(xs,T,l):=Y;let(D,m,p,hz):=I.tuple T;let(J,L,y,M,N,O):=G C 's';have hl:=!m;exact wpAny_pyNext_tuple_end I.ok.hd st (show s.heap.IsTuple a D.toArray from p) (by simp;lk) λg t=>⟨rfl,I.turned (t':=s.toks) (λb o B e=>t b o B e) J L M N O⟩
 self:=λ_ _ _ _ _ st h=>wpAny_pyIter_tupleiter st h
def XC {K:Frag}(A:Addr)(lo:Int)(n:Nat):Turn P w K u (Z6 lo n) [A] A (λi h=>IsRangeIter h A (lo+(i:Nat)*1) ((n:Int) - (i:Nat)) 1) where
 mem:=by simp
 obj:=λi h st b C=>by
  have e:b=A:=‹C›
  subst e;exact⟨_,st,λv z=>by
   have r:Data.fields _=Data.cell v:=z;cases r⟩
 keep:=λi h g st k=>k A 's' _ st
 item:=by intro X Q T O i B s j H I E st U;subst Q T O;let(G,J,y,L,M,N):=E A 's';have W:=Walks.range (prog:=X.prog) (w:=X.w) I.ok.hd A lo 1 n;refine W.item i s _ _ U st λv g Y p D q=>?_;let(t,rfl):=p;have l:Inv X B j H {s with heap:=g,toks:=Y}:=I.turned (λb o C e=>q b o ‹C› e) G J L M N;refine⟨_,rfl,yS (s:={s with heap:=g,toks:=Y}) (n:="range_iterator") D rfl rfl ⋯ ⟨.int<|lo+i,H,l,⟨t,?_⟩,⟨rfl,rfl⟩,D,λb C=>(E b C).1⟩⟩;rw[Int.mul_one]
 done:=by intro X Q T O i B s j H I E st U;subst Q T O;let(G,J,y,L,M,N):=E A 's';exact py I.ok.hd st (by have:n<=i:=U;lk) λg m=>⟨rfl,I.turned (t':=s.toks) (λb o C e=>m b o C e) G J L M N⟩
 self:=λ_ _ _ _ _ st h=>pz st h
section
variable {A:Expr}
def uw (K:Frag)(B:TE):TI:=λC H R=>B C H λx E=>∃a,x=.ref a/\(∃D,aU K E a D)/\R (G6 K a) E
def ahH (K:Frag)(B:TE):TI:=λC H R=>B C H λx E=>∃a,x=.ref a/\(∃D,cF K E a D)/\R (Itt K a) E
def jW {C:TE}(N:PE X l C):PI X A l (uw X.K C):=by
 intro B s Q H R I h;refine aY (N B s Q H _ I h) ?_;rintro v O ⟨x,E,D,M,L⟩;let(a,e,(j,T),q):=L;subst e;cases M;let(J,Y,p,U):=D.list T;refine iF p.isList ?_;refine(~~~O,[~~~O],_,_,E,rfl,D.kept (t':=O.toks) λb o e=>ar _ e,Z7 a _,(_,bc _ rfl,rfl,rfl),λb G=>?_,q);have e:b= ~~~O:=‹G›
 subst e;calc D.uU (av _)<|D.hok.fresh<|av _
def Z8 {E:TE}(N:PE X l E):PI X A l (ahH X.K E):=by
 intro B s Q H R I h;refine aY (N B s Q H _ I h) ?_;rintro v O ⟨x,G,D,M,L⟩;let(a,e,(j,T),q):=L;subst e;cases M;let(C,Y,p,U):=D.tuple T;refine wpAny_pyIter_tuple (show O.heap.IsTuple a C.toArray from p) ?_;refine(~~~O,[~~~O],_,_,G,rfl,D.kept (t':=O.toks) λb o e=>ar _ e,Xz a _,(_,bc _ rfl,rfl,rfl),λb J=>?_,q);have e:b= ~~~O:=‹J›
 subst e;calc D.uU (av _)<|D.hok.fresh<|av _
def acs {lo hi:Int}(I:Inv X B C H s)(h1: -(2^62)<=lo)(h2:lo<2^62)(L: -(2^62)<=hi)(M:hi<2^62)
  (q:R (Z6 lo (hi - lo).toNat) H):(X.prog\X.w) X.A (pyIter<|.ref (~~~s)) (PIE X B C A R) E {s with heap:=s.heap.push {cls:=.type "range",data:=.fields #[.int lo t,.int hi u,.int 1 v]},toks:=Y}:=by
 refine wpAny_pyIter_range (IsRange.new ..) (small_one h1 h2 L M) ?_;have D:Inv X B C H {s with heap:=s.heap.push {cls:=.type "range",data:=.fields #[.int lo t,.int hi u,.int 1 v]},toks:=Y}:=I.kept λb o e=>ar _ e;refine((s.heap.push {cls:=.type "range",data:=.fields #[.int lo t,.int hi u,.int 1 v]}).objs.size,[(s.heap.push {cls:=.type "range",data:=.fields #[.int lo t,.int hi u,.int 1 v]}).objs.size],_,_,H,rfl,
  D.kept (t':=Y) λb o e=>ar _ e,XC _ lo (hi - lo).toNat,?_,λb N=>?_,q)
 .have G:lo+((0:Nat):Int)*1=lo:=by simp
  have J:(((hi - lo).toNat:Nat):Int) - ((0:Nat):Int)=Builtin.Range.rangeSize lo hi 1:=by rw[rangeSize_one];split<;>lk
  show IsRangeIter _ _ (lo+((0:Nat):Int)*1) ((((hi - lo).toNat:Nat):Int) - ((0:Nat):Int)) 1;rw[G,J];exact bc _ rfl
 .have e:b=(s.heap.push {cls:=.type "range",data:=.fields #[.int lo t,.int hi u,.int 1 v]}).objs.size:=‹N›
  subst e;calc D.uU (av _)<|D.hok.fresh<|av _
def O9 (B:TA):TI:=λC H R=>B C H λJ E=>∃j:Int,J=[.int j]∧-(2^62)<=j/\j<2^62/\R (Z6 0 j.toNat) E
def v9 {p C:Pos}(hg:Gl X "range")(E:X.mg "range"=none)(G:PA X [a] O)(L:(starEach [a] X.env=[(false,eval a X.env)])∣0):PI X A (.Call (.Name "range" p) [a] [] C) (O9 O):=by
 intro B s Q H R I h;refine Call_<|pK I hg E boot_range<|cy (aY (G C B s Q H _ I h) ?_) L rfl;rintro Y U ⟨g,T,D,M,J⟩;let(j,e,J,k,q):=J;subst e;cases M with
 |cons r N=>cases N;let(t,rfl):=r;calc call_range_1<|acs D ∅ ∅ J k ‹q›
def ux (J:It)(g:TG)(M:TS)(D:Ends)(B:St)(I:Hp):Prop:=∃W:Nat->Nat->St->Hp->Prop,(∃m,W 0 m B I)/\∀i m B H,W i m B H->
 (J.stop i H/\D.nx B H)\/(J.go i H/\∃N:St->Hp->Prop,(∀C E,N C E->∃U,U<m/\W (i+1) U C E)/\∀x E,J.Z5 i H x E->g x B E λG L=>M {D with nx:=N} G L)
def FP (G:TI)(g:TG)(C:TS):TS:=λD B H=>G B H λJ E=>ux J g C D B E
def xR (fp:¬Addr)(h:Heap):¬(Addr×Obj):=fp.filterMap λb=>(h b).map λo=>(b,o)
def uy (B:b∈fp)(e:h b=#[o]):(b,o)∈xR fp h:=o5.mpr (b,B,by rw[e];rfl)
def Z9 (D:p∈xR fp h):p.1∈fp/\h p.1=#[p.2]:=by
 let(b,B,e):=o5.mp D;cases q:h b with
 |none=>grind
 |some o=>grind
def Inv.pinned (I:Inv X B G H s)(D:∀b∈fp,qH X B H b)(M:∀b∈fp,∃o,s.heap b=#[o]/\∀v,o.data≠ .cell v):Inv X (B++xR fp s.heap) G H s:=
 I.Vz λp E=>(bd.mp E).elim (λz=>I.pin p<|b6 _ z) λz=>by let(C,e):=Z9 z;let(J,L,y,_):=D p.1 C;grind
def Inv.FQ (I:Inv X (B++pl) C H s):Inv X B C H s:=I.Vz λp D=>I.pin p<|b6 _<|c5 _ D
def jx (hi:PI X A iter wi)(hg:PG X A g)(E:jl X j tb)
  (hs:(∀x,foldedSetIterable iter X.env x=pure x)∣4):PS X (.For A iter j [] pos) (FP wi g tb):=by
 intro B s σ H D I h;refine wpAny_For (aY (hi B s σ H _ I h) λv s1 h1=>aY h1 λitv s2 h2=>?_) hs;let(it,k,tn,J,H2,e,I2,T,VF,f2,W,(m0,w0),t):=h2;subst e;have G:∀{O:Hp},(∀b∈k,O b=none)->∀b∈k,qH X B O b:=λhn b E=>⟨hn b E,(f2 b E).2⟩;refine codeAny_forLoop_any (λn s'=>∃i L O,Inv X B L O s'/\tn i s'.heap/\(∀b∈k,O b=none)/\W i n L O) ?_ m0 ⟨0,σ,H2,I2,VF,λb E=>(f2 b E).1,w0⟩;rintro n s3 ⟨i,M,y,I3,q,l,w3⟩;rcases t i n M y w3 with⟨stop,qn⟩|⟨go,N,hN,step⟩
 .refine fv .never<|aY (T.done X rfl rfl rfl i B s3 M y I3 (G l) q stop) ?_;rintro r s4 ⟨hr,I4⟩;subst hr;exact km ⟨M,y,I4,qn⟩
 .refine fv .never<|aY (T.item X rfl rfl rfl i B s3 M y I3 (G l) q go) ?_;rintro r s4 ⟨u,hr,h4⟩;subst hr;refine fv .never<|aY h4 ?_;rintro _ s5 ⟨x,H5,I5,r5,y5,Y,c⟩;have z:=I5.pinned (G c)<|T.obj _ _ Y;refine fv .never<|aY (hg _ s5 M H5 x u _ z r5<|step x H5 y5) ?_;rintro _ s6 ⟨QZ,H6,I6,q6⟩;refine fv .never<|aY (E _ s6 QZ H6 _ I6 q6) λf a p=>?_;have again:∀{C:St}{Q:Hp},Inv X (B++xR k s5.heap) C Q a->N C Q->∃m,m<n/\∃i L O,Inv X B L O a/\tn i a.heap/\(∀b∈k,O b=none)/\W i m L O:=λ{C Q} U w=>by let(m',hm,w7):=hN C Q w;refine⟨m',hm,i+1,C,Q,U.FQ,T.keep _ _ _ Y λb E o e=>(U.pin (b,o)<|b6 _<|b6 _<|uy E e).1,λb E=>?_,w7⟩;let(o,e,d):=T.obj _ _ Y b E;exact(U.pin (b,o)<|b6 _<|b6 _<|uy E e).2.1
  cases f with
  |next=>let(C,Q,U,w):=p;calc again U w
  |ret v=>let(x7,C,Q,U,r7,p):=p;calc⟨x7,C,Q,U.FQ,r7,p⟩
  |_=>calc p.elim
end
def akK {C:Hp->¬V->Prop}{xs:¬V}{g:TG}{I:TS}{D:Ends}{B:St}{H:Hp}(Pv:Nat->St->Hp->Prop)(L:Pv 0 B H)(O:∀i B H,i<=!xs->Pv i B H->C H xs)(Q:∀i x B H,xs[i]? =#[x]->Pv i B H->g x B H λG J=>I {D with nx:=Pv<|i+1} G J)(M:∀B H,Pv (!xs) B H->D.nx B H):ux ⟨λi H=>∃xs x,C H xs/\xs[i]? =#[x],λi H x E=>E=H/\∀xs,C H xs->xs[i]? =#[x],λi H=>∃xs,C H xs/\(!xs)<=i⟩ g I D B H:=by
 refine⟨λi m B H=>m=(!xs) - i/\i<=!xs/\Pv i B H,⟨!xs,by simp,cv _,L⟩,?_⟩;rintro i m B H ⟨rfl,N,p⟩;have q:=O i B H N p;by_cases A:i<!xs
 .refine .inr ⟨⟨xs,xs[i],q,by simp[A]⟩,Pv<|i+1,λU E T=>⟨(!xs) - (i+1),by lk,rfl,A,T⟩,λx E y=>?_⟩;let(e,y):=y;subst e;exact Q i x B _ (y xs q) p
 .have e:i=!xs:=by lk
  subst e;calc .inl ⟨⟨xs,q,av _⟩,M B H p⟩
def forL {K:Frag}{a:Addr}:=@akK λH D=>aU K H a D
abbrev R2:=V->V->Hp->VK->Prop
def cB (X:Cx)(f:Value->Value->Sem Value)(r:R2):Prop:=
 ∀(A:¬(Addr×Obj)) (s:Shared) (B:St) (H:Hp) (x y:V) (v u:Value) (Q:VK),Inv X A B H s->RelV x v->RelV y u->r x y H Q->
  (X.prog\X.w) X.A (f v u) (EP X A B Q) NE s
def G7 (X:Cx)(f:Value->Sem Value)(r:V->Hp->VK->Prop):Prop:=
 ∀(A:¬(Addr×Obj)) (s:Shared) (B:St) (H:Hp) (x:V) (v:Value) (Q:VK),Inv X A B H s->RelV x v->r x H Q->
  (X.prog\X.w) X.A (f v) (EP X A B Q) NE s
def cU (X:Cx)(f:Value)(r:¬V->Hp->VK->Prop):Prop:=
 ∀(A:¬(Addr×Obj)) (s:Shared) (B:St) (H:Hp) (D:¬V) (C:¬Value) (Q:VK),Inv X A B H s->Vals D C->r D H Q->
  (X.prog\X.w) X.A (call f C) (EP X A B Q) NE s
def anL (X:Cx)(r:V->Hp->(Bool->Hp->Prop)->Prop):Prop:=
 ∀(A:¬(Addr×Obj)) (s:Shared) (B:St) (H:Hp) (x:V) (v:Value) (Q:Bool->Hp->Prop),Inv X A B H s->RelV x v->r x H Q->
  (X.prog\X.w) X.A (truthy v) (TP X A B Q) NE s
def jm (r:R2)(A D:TE):TE:=λB H Q=>A B H λx E=>D B E λy J=>r x y J Q
def tUn (r:V->Hp->VK->Prop)(A:TE):TE:=λB H Q=>A B H λx E=>r x E Q
def rI (C:Int->Int->Prop)(g:Int->Int->V):R2:=λx y H Q=>∃i j,x=.int i/\y=.int j/\C i j/\Q (g i j) H
def G8 (g:Int->Int->V):R2:=λx y H Q=>∃i j,x=.int i/\y=.int j/\Q (g i j) H
def rU (g:Int->V):V->Hp->VK->Prop:=λx H Q=>∃i,x=.int i/\Q (g i) H
section
variable {A:Pos}
def acu (O:PE X a l)(T:PE X b o){R:V->V->Hp->Prop}(I:Inv X B E H s)
  (h:l E H λx G=>o E G λy J=>R x y J){f:Value->Value->Sem Value}
  (U:∀v u N x y J,Inv X B E J N->RelV x v->RelV y u->R x y J->(X.prog\X.w) X.A (f v u) Q NE N):
  (X.prog\X.w) X.A (eval a X.env) (λv C=>(X.prog\X.w) X.A (eval b X.env) (λu D=>(X.prog\X.w) X.A (f v u) Q NE D) NE C) NE s:=by
 refine aY (O B s E H _ I h) ?_;rintro v g ⟨x,G,L,j,Y⟩;refine aY (T B g E G _ L Y) ?_;rintro u N ⟨y,J,M,m,k⟩;calc U v u N x y J M j m k
def bK {r:R2}(D:cB X (binaryOp E) r)(G:PE X a T)(C:PE X b U):PE X (.BinOp a E b A) (jm r T U):=by intro B s Y H Q I h;calc wpAny_BinOp<|acu G C I h λv u O x y J N L M q=>D B O Y J x y v u Q N L M q
def XD (J:G7 X (unaryOp L) r)(G:PE X a T):PE X (.UnaryOp L a A) (tUn r T):=by intro B s C H Q I h;refine UnaryOp_<|aY (G B s C H _ I h) ?_;rintro v O ⟨x,E,D,N,M⟩;calc J B O C E x v Q D N M
def opI {g:Int->Int->Int}
  (rule:∀(i j:Int) (t u:Tok) (s:Shared) (Q:Value->Shared->Prop) (E:Value->Shared->Prop),C i j->Q (.int (g i j) s.toks) {s with toks:=s.toks+1}->(X.prog\X.w) X.A (f (.int i t)<|.int j u) Q E s):
  cB X f (rI C λi j=>.int<|g i j):=by
 intro B s G H x y v u Q I L M h;let(i,j,rfl,rfl,O,q):=h;let(t,rfl):=L;let(D,rfl):=M;calc rule i j t D s _ _ O ⟨.int<|g i j,H,I.tok _,⟨_,rfl⟩,q⟩
def acv {g:Int->Int->Int}
  (rule:∀(i j:Int) (t u:Tok) (s:Shared) (Q:Value->Shared->Prop) (E:Value->Shared->Prop),Q (.int (g i j) s.toks) {s with toks:=s.toks+1}->(X.prog\X.w) X.A (f (.int i t)<|.int j u) Q E s):
  cB X f (G8 λi j=>.int<|g i j):=by
 intro B s D H x y v u Q I L M h;let(i,j,rfl,rfl,q):=h;let(t,rfl):=L;let(C,rfl):=M;calc rule i j t C s _ _ ⟨.int<|g i j,H,I.tok _,⟨_,rfl⟩,q⟩
def acw {g:Int->Int->Bool}
  (rule:∀(i j:Int) (t u:Tok) (s:Shared) (Q:Value->Shared->Prop) (E:Value->Shared->Prop),Q (.bool<|g i j) s->(X.prog\X.w) X.A (f (.int i t)<|.int j u) Q E s):
  cB X f (G8 λi j=>.bl<|g i j):=by
 intro B s D H x y v u Q I L M h;let(i,j,rfl,rfl,q):=h;let(t,rfl):=L;let(C,rfl):=M;calc rule i j t C s _ _ (.bl<|g i j,H,I,rfl,q)
def XF (i j:Int):Prop:=0<=j/\j<=1000000/\i.natAbs<2^64
def ahI:cB X (binaryOp .Add) (G8 λi j=>.int<|i+j):=acv λ_ _ _ _ _ _ _ q=>add_int q
def ahJ:cB X (binaryOp .Sub) (G8 λi j=>.int<|i - j):=acv λ_ _ _ _ _ _ _ q=>sub_int q
def ahK:cB X (binaryOp .Mod) (rI (λ_ j=>0<j) λi j=>.int<|i % j):=opI λi j _ _ _ _ _ O q=>by have h1:(0:Int)<j:=O;calc mod_int' ∅ (by rw[Int.fmod_eq_emod_of_nonneg i ∅];calc q)
def ahL:cB X (binaryOp .Pow) (rI XF λi j=>.int<|i^j.toNat):=opI λ_ _ _ _ _ _ _ O q=>pow_int_small O.1 O.2.1 O.2.2 q
def ahM:cB X (binaryOp .BitXor) (G8 λi j=>.int<|Builtin.bitXor i j):=acv λ_ _ _ _ _ _ _ q=>xor_int q
def unI {f:Value->Sem Value}{g:Int->Int}
  (rule:∀(i:Int) (t:Tok) (s:Shared) (Q:Value->Shared->Prop) (E:Value->Shared->Prop),Q (.int (g i) s.toks) {s with toks:=s.toks+1}->(X.prog\X.w) X.A (f<|.int i t) Q E s):
  G7 X f (rU λi=>.int<|g i):=by
 intro B s C H x v Q I L h;let(i,rfl,q):=h;let(t,rfl):=L;calc rule i t s _ _ ⟨.int<|g i,H,I.tok _,⟨_,rfl⟩,q⟩
def aac:G7 X (unaryOp .USub) (rU λi=>.int<|-i):=unI λ_ _ _ _ _ q=>neg_int q
end
def Q0:R2:=λx y H Q=>∃i j,x=.str i/\y=.str j/\Q (.bl<|decide<|i=j) H
section
variable {A:Pos}
def G9 (I:Inv X B D H s)(q:Q (.bl k) H)(e:k=C):EP X B D Q (.bool C) s:=by subst e;calc(.bl k,H,I,rfl,q)
def kO:cB X (compareOp .Eq) Q0:=by intro B s D H x y v u Q I L M h;let(i,j,rfl,rfl,q):=h;let(t,rfl):=L;let(C,rfl):=M;calc eq_str<|G9 I q (by rw[rj];simp)
def akL:cB X (compareOp .Lt) (G8 λi j=>.bl<|decide<|i<j):=acw λ_ _ _ _ _ _ _ q=>lt_int q
def akM:cB X (compareOp .LtE) (G8 λi j=>.bl<|decide<|i<=j):=acw λ_ _ _ _ _ _ _ q=>le_int q
def akN:cB X (compareOp .Gt) (G8 λi j=>.bl<|decide<|j<i):=acw λ_ _ _ _ _ _ _ q=>gt_int q
def ahN:cB X (compareOp .Is) (λx y H Q=>y=.non/\Q (.bl<|decide<|x=.non) H):=by
 intro B s C H x y v u Q I L M h;let(rfl,q):=h;cases M;refine is_none_gen<|G9 I q ?_;cases x<;>first
  |(cases L;rfl)
  |(let(t,rfl):=L;rfl)
def agd:cB X (compareOp .IsNot) (λx y H Q=>y=.non/\Q (.bl<|not (decide (x=.non))) H):=by
 intro B s C H x y v u Q I L M h;let(rfl,q):=h;cases M;refine isnot_none_gen<|G9 I q ?_;cases x<;>first
  |(cases L;rfl)
  |(let(t,rfl):=L;rfl)
def Hl (b:Expr)(h:(G≠ .In)∣1)(h2:(G≠ .NotIn)∣1):behindInMarks G b=false:=by
 have B:(G==CmpOp.In)=false:=by cases G<;>first|rfl|exact absurd rfl h
 have C:(G==CmpOp.NotIn)=false:=by cases G<;>first|rfl|exact absurd rfl h2
 cases b<;>simp[behindInMarks,B,C]
def agf (L:cB X (compareOp G) r)(C:PE X a U)(D:PE X b Y)(E:behindInMarks G b=false):PE X (.Compare a [G] [b] A) (jm r U Y):=by intro B s j H Q I h;calc wpAny_Compare1 (acu C D I h λv u T x y J N M O q=>L B T j J x y v u Q N M O q) E
def ahO (K:Frag)(x:V)(H:Hp)(k:Bool):Prop:=
 match x with
 |.non=>k=false
 |.bl b=>k=b
 |.int i=>k=(i !=0)
 |.str y=>(!y)<=sizeLine/\k=(((!y):Int) !=0)
 |.ref p=>(∃D,aU K H p D/\k= not D.isEmpty)\/(∃D,cF K H p D/\k= not D.isEmpty)\/∃B,H p=#[.dK B]/\k= not B.isEmpty
 |_=>False
def XH (r:KV B vs):(not vs.isEmpty)= not B.isEmpty:=by cases r<;>rfl
def Ho (r:Vals xs B):(not B.toArray.isEmpty)= not xs.isEmpty:=by cases r<;>simp
def sU:(sizeLine:Nat)<2^63:=by rw[fT];decide
def ahP:anL X (λx H Q=>∃k,ahO X.K x H k/\Q k H):=by
 intro T s j H x v Q I L h;let(k,e,q):=h;have U:=sU;have Y:sizeLine=16777216:=fT;cases x with
 |non=>
  cases L;have B:k=false:=e;subst B;calc truthy_none (H,I,q)
 |bl b=>
  cases L;have B:k=b:=e;subst B;calc cK (H,I,q)
 |int i=>let(t,rfl):=L;have B:k=(i !=0):=e;subst B;calc PySem.P.truthy_int (H,I,q)
 |str y=>
  let(t,rfl):=L;obtain⟨n,B⟩:(!y)<=sizeLine/\k=(((!y):Int) !=0):=e;subst B;calc o4 ∅ (H,I.tok _,q)
 |ref p=>
  cases L;have B:(∃E,aU X.K H p E/\k= not E.isEmpty)\/(∃E,cF X.K H p E/\k= not E.isEmpty)\/∃C,H p=#[.dK C]/\k= not C.isEmpty:=e;rcases B with⟨E,G,B⟩|⟨E,G,B⟩|⟨C,G,B⟩
  .subst B;let(M,r,N,O):=I.list G;have D:=!r;exact wpAny_truthy_list N.isList (by erw[bu];lk) (H,I.tok _,by rw[Ho r];calc q)
  .subst B;let(M,r,N,O):=I.tuple G;have D:=!r;exact truthy_tuple N (by erw[bu];lk) (H,I.tok _,by rw[Ho r];calc q)
  .subst B;obtain⟨O,hS,J,r,m⟩:(!C)<=sizeLine/\(p==sysModules)=false/\∃J,KV C J/\s.heap.DictOf (strKind X.prog X.w) p J:=I.hok p _ G;have D:(!C)=!J:=lh r;calc wpAny_truthy_dict hS m ∅ (H,I.tok _,by rw[XH r];calc q)
 |_=>calc(show False from e).elim
def acy (J:PE X a T)(L:∀mZ,isTrue a X.env mZ=(do let v<-mZ;standAt a.pos;holding [v]<|truthy v)):
  PT X a (λC H Q=>T C H λx E=>∃k,ahO X.K x E k/\Q k E):=by
 intro B s C H Q I h;refine isTrue_plain (aY (J B s C H _ I h) ?_)<|L _;rintro v O ⟨x,D,G,N,M⟩;calc ahP B O C D x v Q G N M
def bJ:cB X (binaryOp .Add) (λx y H Q=>∃i j,x=.str i/\y=.str j/\(!i)+(!j)<=sizeLine/\Q (.str<|i++j) H):=by intro B s E H x y v u Q I L M h;let(i,j,rfl,rfl,C,q):=h;let(t,rfl):=L;let(D,rfl):=M;calc add_str (λD Y=>⟨.str<|i++j,H,I.tok _,⟨_,rfl⟩,q⟩) C
def vals1 (r:Vals [x] us):∃u,us=[u]/\RelV x u:=by
 cases r with
 |cons L m=>cases m;calc(_,rfl,L)
def vals2 (r:Vals [x,y] us):∃u B,us=[u,B]/\RelV x u/\RelV y B:=by
 cases r with
 |cons L m=>
  cases m with
  |cons C D=>cases D;calc(_,_,rfl,L,C)
def acz:cU X (.builtin "abs") (λxs H Q=>∃i,xs=[.int i]/\Q (.int<|if i<0 then -i else i) H):=by intro B s D H xs C Q I r h;let(i,rfl,q):=h;let(u,rfl,t,rfl):=vals1 r;calc call_abs_int λu Y=>⟨.int<|if i<0 then -i else i,H,I.tok _,⟨_,rfl⟩,q⟩
def aad:cU X (.builtin "max") (λxs H Q=>∃i j,xs=[.int i,.int j]/\Q (.int<|if j>i then j else i) H):=by
 intro B s G H xs D Q I r h;let(i,j,rfl,q):=h;let(u,E,rfl,(t,rfl),(M,rfl)):=vals2 r;refine max_two_ints I.ok.hd λg C k=>⟨_,H,I.kept k,?_,q⟩;by_cases Y:j>i
 .rw[ap Y,ap Y];exact⟨_,rfl⟩
 .rw[aw Y,aw Y];calc⟨_,rfl⟩
def Ml:cU X (.builtin "min") (λxs H Q=>∃i j,xs=[.int i,.int j]/\Q (.int<|if j<i then j else i) H):=by
 intro B s G H xs D Q I r h;let(i,j,rfl,q):=h;let(u,E,rfl,(t,rfl),(M,rfl)):=vals2 r;refine min_two_ints I.ok.hd λg C k=>⟨_,H,I.kept k,?_,q⟩;by_cases Y:j<i
 .rw[ap Y,ap Y];exact⟨_,rfl⟩
 .rw[aw Y,aw Y];calc⟨_,rfl⟩
end
structure FW (h:Heap)(x dx C:Addr)(mA:Str->↑Value):Prop where
 obj:h x=#[instObj C dx]
 ns:h.Ns1 dx mA
 ne:dx≠x
def aae {h:Heap}{E:Addr}{G:Str->↑Value}(n:h.Ns1 E G):∃O,h E=#[O]/\∀name,lookIn name O=#[G name]:=by
 let(o,D,J,I,B,M,_,C):=n;refine(o,I,λname=>?_);have e:=C name;unfold nsFind findBy at e;rw[<-Array.find?_toList] at e;unfold lookIn;rw[B];k_ne;split
 .grind
 .rename_i q;rw[q] at e;have a:D.toList.any (·.refKey)=false:=by rw[kK];intro y H;let(z,t,A):=M y<|Array.mem_toList_iff.mp H;simp[DictEntry.refKey,A]
  grind
def FW.look (I:FW h x E C G):∃O,PySem.W.InstAt h x (instObj C E) C #[O]/\∀name,lookIn name O=#[G name]:=
 let⟨O,A,N⟩:=aae I.ns
 (O,(I.obj,rfl,rfl,A),N)
section
variable {K:Frag}
def get_map (X:K.In s.heap)(I:FW s.heap x O C L)(hg:plainGet K C name=true)(H:hasDictIn K C=true)
  (G:findIn K (.ref C) name=#[none])(M:L name=#[v])(B:handedIn v=true)(h:Q v {s with toks:=s.toks+1}):
  (prog\w) A (getAttr (.ref x) name D) Q E s:=by
 let(T,J,N):=I.look;calc PySem.W.get_value X J (plainGet_of hg).1 (PySem.W.findObj_own H G rfl<|by rw[N,M]) B h
def acA (X:K.In s.heap)(I:FW s.heap x D C G)(hg:plainGet K C name=true)
  (B:findIn K (.ref C) name=#[#[.ref f]])(U:isFn K (.ref f)=true)(M:G name=none)(h:Q (.ref f,[.ref x]) s):
  (prog\w) A (getMethod (.ref x) name pl) Q E s:=by
 let(O,J,N):=I.look;calc PySem.W.method_fn X J (plainGet_of hg).1 (plainGet_of hg).2 B (lS.mp U) (by show(lookIn name O).map (·.isSome)=#[false];rw[N,M];rfl) h
def agg (X:K.In s.heap)(I:FW s.heap x G C O)
  (g:findIn K (.ref C) "__setattr__"=#[#[.builtin "object.__setattr__"]])(k:plainOver K C=true)(l:takerIn K C name=#[none])(j:hasDictIn K C=true)
  (m:PySem.Within O ns)(hsz:(!ns)<=sizeLine)
  (h:∀h',FW h' x G C (λy=>if y=name then #[v] else O y)->Heap.SameBut G s.heap h'->Q ⟨⟩ {s with heap:=h',toks:=s.toks+2}):
  (prog\w) A (setAttr (.ref x) name v) Q E s:=by
 let(u,J,q):=I.look;refine PySem.W.set_plain X J g<|PySem.W.osa_open (s:={s with toks:=s.toks+1}) (r:=none) X J k l λb=>?_;let(p,Y,L):=PySem.W.any_some j;have o:s.heap x=#[(.ref C,#[G],.plain,#[])]:=I.obj;refine aa<|ax<|aa<|aa<|wpAny_loadPart o<|aa<|PySem.W.Looks.here (s:={s with toks:=s.toks+1}) (PySem.W.looks_clsIn X Y) ?_;rw[L];refine ax (a:=#[G])<|aa<|ax<|aa ?_;refine wpAny_nsSet1 (s:={s with toks:=s.toks+1}) I.ns λh' B D=>?_;let(t,U,T,N,M,H):=B.count<|PySem.Within.cons name v m;refine aa (wpAny_lookBehind N (by rw[M];calc pastItsLine_dict<|cb H (by rw[a8];lk)) ?_);calc ax<|h _ ((D.2 _<|ci I.ne).trans I.obj,B,I.ne) D
def acB (X:K.In s.heap)(E:makesIn K C=true)
  (hi:findIn K (.ref C) "__init__"=#[#[.ref f]])(D:PySem.W.typeIn K (.ref f)=#[.type "function"])
  (h:codeAny (model prog w) (A.under (.builtin "type.__call__" ⟨.ref C::vs,B⟩)) (.call (.ref f) ⟨.ref (~~~s+1)::vs,B⟩) (PySem.W.InitBack (~~~s+1) R)
   {s with heap:=(s.heap.push emptyDict).push (instObj C (~~~s))}):
  codeAny (model prog w) A (.call (.ref C) ⟨vs,B⟩) R s:=by
 let(H,g,d,t,os):=s;calc PySem.W.make_core (PySem.W.makes_of X E) (PySem.W.looks_findIn X hi) (λself=>PySem.W.bind_fn X self D) (.inl rfl) h
end
def nC (f:Str)(v:V):¬(Str×V)->¬(Str×V)
 |[]=>[(f,v)]
 |(g,x)::r=>if g=f then(g,v)::r else(g,x)::nC f v r
theorem Es (f g:Str)(v:V):∀fs:¬(Str×V),(nC f v fs).lookup g=if g=f then #[v] else fs.lookup g
 |[]=>by show List.lookup g [(f,v)]=_;grind
 |(k,x)::r=>by have A:=Es f g v r;rw[show nC f v ((k,x)::r)=(if k=f then(k,v)::r else(k,x)::nC f v r) from rfl];grind
theorem Ax (f:Str)(v:V):∀fs:¬(Str×V),f∈(nC f v fs).map (·.1)/\∀g,g∈fs.map (·.1)->g∈(nC f v fs).map (·.1)
 |[]=>⟨by simp[nC],λg h=>by simp at h⟩
 |(k,x)::r=>by let(A,B):=Ax f v r;rw[show nC f v ((k,x)::r)=(if k=f then(k,v)::r else(k,x)::nC f v r) from rfl];grind
theorem Et (f:Str)(v:V):∀fs:¬(Str×V),(!(nC f v fs))<=(!fs)+1
 |[]=>by simp[nC]
 |(k,x)::r=>by have A:=Et f v r;rw[show nC f v ((k,x)::r)=(if k=f then(k,v)::r else(k,x)::nC f v r) from rfl];grind
def oO.some_of (r:oO #[v] o):∃u,o=#[u]/\RelV v u:=by
 cases o with
 |none=>calc(show False from r).elim
 |some u=>calc(u,rfl,r)
def oO.none_of (r:oO none o):o=none:=by
 cases o with
 |none=>rfl
 |some u=>calc(show False from r).elim
def aaf (r:RelV v u):handedIn u=true:=by
 cases v with
 |non=>cases(show u=Value.none from r);rfl
 |bl b=>cases(show u=Value.bool b from r);rfl
 |int i=>let(t,e):=(show ∃t,u=Value.int i t from r);k_go;rfl
 |str x=>let(t,e):=(show ∃t,u=Value.str x t from r);k_go;rfl
 |ref a=>cases(show u=Value.ref a from r);rfl
 |ty n=>cases(show u=type n from r);rfl
section
variable {fs A:¬(Str×V)}
def Kf (y:jP P w H h)(e:H a=#[.ins C E fs]):∃G,FW h a E C G/\(∀f,oO (fs.lookup f) (G f))/\PySem.Within G (fs.map (·.1))/\(!fs)<=1000/\H E=#[.own a]:=by let(d,z,N,ob,G,n,r,q):=(show fU P w H h a (.ins C E fs) from y a _ e);calc(G,(ob,n,N),r,q,z,d)
end
structure Cls (K:Frag)(C:Addr):Prop where
 pg:plainGet K C Str.empty=true
 hd:hasDictIn K C=true
 po:plainOver K C=true
 sa:findIn K (.ref C) "__setattr__"=#[#[.builtin "object.__setattr__"]]
def Cls.get {K:Frag}{C:Addr}(c:Cls K C)(f:Str):plainGet K C f=true:=c.pg
def mC (K:Frag)(C:Addr)(f:Str):Prop:=findIn K (.ref C) f=#[none]
def mC.taker {K:Frag}{C:Addr}{f:Str}(n:mC K C f):takerIn K C f=#[none]:=by delta takerIn;rw[show findIn K (.ref C) f=#[none] from n];rfl
structure Meth (K:Frag)(C:Addr)(m:Str)(f:Addr):Prop where
 at_:findIn K (.ref C) m=#[#[.ref f]]
 fn:isFn K (.ref f)=true
 kp:keepIn K (.ref f)=true
section
variable {E:Value->Shared->Prop}
def XJ (I:Inv X B M H s)(e:H a=#[.ins C N fs])(c:Cls X.K C)(n:mC X.K C f)(l:fs.lookup f=#[v])
  (h:∀u G,Inv X B M H G->RelV v u->Q u G):(X.prog\X.w) A (getAttr (.ref a) f b) Q E s:=by
 let(L,O,r,_,_,_):=Kf I.hok e;let(u,J,D):=oO.some_of (v:=v) (o:=L f) (by rw[<-l];calc r f);calc get_map I.o9 O (c.get f) c.hd n J (aaf D)<|h u _ (I.tok _) D
def Hq (I:Inv X B L H s)(e:H a=#[.ins C J fs])(c:Cls X.K C)(k:Meth X.K C m g)(l:fs.lookup m=none)
  (h:Q (.ref g,[.ref a]) s):(X.prog\X.w) A (getMethod (.ref a) m pl) Q E s:=by
 let(G,O,r,_,_,_):=Kf I.hok e;have D:G m=none:=oO.none_of (by rw[<-l];calc r m);calc acA I.o9 O (c.get m) k.at_ k.fn D h
def XK (I:Inv X B t H s)(e:H a=#[.ins C G fs])(c:Cls X.K C)(n:mC X.K C f)(v:(!fs)<1000)(m:RelV y u)
  (h:∀L,Inv X B t (upd H a<|.ins C G<|nC f y fs) L->Q ⟨⟩ L):(X.prog\X.w) A (setAttr (.ref a) f u) Q E s:=by
 let(l,O,r,M,_,J):=Kf I.hok e;have k:(fs.map (·.1)).length<=sizeLine:=by rw[ac,fT];lk
 refine agg I.o9 O c.sa c.po n.taker c.hd M k λT D p=>h _ ?_;have Y:∃o,T G=#[o]:=let⟨o,_,_,N,_⟩:=D.ns;⟨o,N⟩;refine I.write (x:=a) (e:=G) (by rw[e];calc eD) (.inr J) (λb q U z=>(p.2 b U).trans z) Y ?_;refine⟨by rw[au O.ne];calc J,?_,O.ne,D.obj,_,D.ns,λg=>?_,λg j=>?_⟩
 .have:=Et f y fs;lk
 .show oO ((nC f y fs).lookup g) (if g=f then #[u] else l g);rw[Es];by_cases q:g=f
  .rw[ap q,ap q];exact m
  .grind
 .by_cases q:g=f
  .rw[q];exact(Ax f y fs).1
  .refine(Ax f y fs).2 g<|M g λz=>j ?_;lk
def Inv.made (I:Inv X A L H s):Inv X A L (upd (upd H (~~~s)<|.own<| ~~~s+1) (~~~s+1)<|.ins C (~~~s) [])
  {s with heap:=(s.heap.push emptyDict).push<|instObj C (~~~s)}:=by
 have B:(s.heap.push emptyDict) (~~~s)=#[emptyDict]:=bc s.heap rfl;have G:((s.heap.push emptyDict).push<|instObj C (~~~s)) (~~~s+1)=#[instObj C (~~~s)]:=by have:=bc (s.heap.push emptyDict) (o:=instObj C (~~~s)) rfl;simp_all
 have J:(s.heap.push emptyDict).Ns (~~~s) (λ_=>none):=⟨emptyDict,#[],_,B,rfl,(λe Q=>absurd Q<|by simp),λ_=>rfl⟩;have D:=I.laid (a:= ~~~s) (o:=.own<| ~~~s+1) (h':=s.heap.push emptyDict) (t':=s.toks) (λb u q=>ar _ q) (av _) ⟨_,B⟩;refine D.laid (a:= ~~~s+1) (o:=.ins C (~~~s) []) (t':=s.toks) (λb u q=>ar _ q) (p5<|kr _ _) ?_;have N: ~~~s≠s.heap.objs.size+1:=c8<|ip _;refine⟨by rw[au N,ao],cv _,N,G,λ_=>none,(Heap.Ns1.of_empty J).at λo q=>ar _ q,λ_=>eD,λy n=>absurd rfl n⟩
def agh (B:attributeBase e f env (eval e env)=eval e env)
  (h:(prog\w) A (eval e env) (λo C=>(prog\w) A (getAttr o f true) Q E C) E s):(prog\w) A (eval (.Attribute e f D) env) Q E s:=
 Attribute_any_ h (by rw[arm_eval_Attribute,B])
end
def XM (K:Frag)(B:TE)(f:Str):TE:=λD H Q=>B D H λx E=>∃a C A fs v,x=.ref a/\E a=#[.ins C A fs]/\Cls K C/\mC K C f/\fs.lookup f=#[v]/\Q v E
def acC (K:Frag)(G I:TE)(f:Str):TS:=λD B H=>I B H λy A=>G B A λx J=>∃a C E fs,x=.ref a/\J a=#[.ins C E fs]/\Cls K C/\mC K C f/\(!fs)<1000/\
 D.nx B (upd J a<|.ins C E<|nC f y fs)
section
variable {A B:TE}
def c7 (O:PE X e A)(M:attributeBase e f X.env (eval e X.env)=eval e X.env):PE X (.Attribute e f T) (XM X.K A f):=by intro D s j H Q I h;refine agh M<|aY (O D s j H _ I h) ?_;rintro u g ⟨x,E,G,Y,a,C,k,fs,v,L,J,c,n,l,q⟩;subst L;obtain rfl:u=Value.ref a:=Y;calc XJ G J c n l λo m N U=>(v,E,N,U,q)
def Hr (j:PE X o A)(g:PE X E B)(k:swapsWith E (#[.Attribute o f J]) L.line X.env=pure false):PS X (.Assign [.Attribute o f J] E L) (acC X.K A B f):=by intro G s M H D I h;refine plainObj_wpAny_Assign_Attribute (aY (g G s M H _ I h) ?_) k;rintro u v ⟨y,N,O,t,q⟩;refine aY (j G v M N _ O q) ?_;rintro m d ⟨x,z,Q,r,a,C,b,fs,Y,U,c,n,l,p⟩;subst Y;obtain rfl:m=Value.ref a:=r;calc XK Q U c n l t λw T=>(M,_,T,p)
end
section
variable {b:Bool}
end
structure cW (k:Nat)(A:Around):Prop where
 hd:A.handled=none
 dp:A.depth+3*k+5<recursionLimit
 un:A.units+16*k+200<cLine
def cW.mono (r:cW k A)(h:j<=k):cW j A:=(r.hd,by have:=r.dp;lk,by have:=r.un;lk)
theorem cW.deeper {k:Nat}{A:Around}(r:cW (k+1) A)(env:Env):cW k (A.deeper env):=
 (r.hd,by have:=r.dp;show A.depth+1+3*k+5<_;lk,by have:=r.un;show A.units+3+16*k+200<_;lk)
def XQ {A:Around}{C:Addr}{us:¬Value}{B:¬(Str×Value)}:(A.under<|.builtin "type.__call__" ⟨.ref C::us,B⟩).depth=A.depth+1:=by rfl
def XR {A:Around}{C:Addr}{us:¬Value}{B:¬(Str×Value)}:(A.under<|.builtin "type.__call__" ⟨.ref C::us,B⟩).units=A.units+1:=by rfl
def cW.make {k:Nat}{A:Around}(r:cW (k+1) A)(C:Addr)(us:¬Value)(B:¬(Str×Value)):cW k (A.under<|.builtin "type.__call__" ⟨.ref C::us,B⟩):=
 ⟨r.hd,by have:=r.dp;rw[XQ];lk,by have:=r.un;rw[XR];lk⟩
theorem cW.depth {k:Nat}{A:Around}(r:cW k A):A.depth<recursionLimit:=by have:=r.dp;lk
theorem cW.units (r:cW k A):A.units+64<cLine:=by have:=r.un;lk
def d9:TA:=λ_ H Q=>Q [] H
def cL (A:TE)(C:TA):TA:=λB H Q=>A B H λx E=>C B E λD J=>Q (x::D) J
section
variable {A:Pos}
def aG:PA X [] d9:=λ_ _ _ _ H Q I h=>mn ([],H,I,.nil,h)
def aj (L:PE X e te)(hr:PA X D t)(M:(starEach (e::D) X.env=(false,eval e X.env)::starEach D X.env)∣0):PA X (e::D) (cL te t):=by intro A B s C H Q I h;rw[M];show wpAny _ _ (spliced ((false,eval e X.env)::backTo A (starEach D X.env))) _ _ s;refine lz<|aY (L B s C H _ I h) ?_;rintro u U ⟨x,E,G,T,O⟩;refine aY (hr A B U C E _ G O) ?_;rintro g j ⟨Y,J,N,m,k⟩;calc(x::Y,J,N,.cons T m,k)
def qI (t:TA):TE:=λB H Q=>t B H λD E=>(!D)<=sizeLine/\∀p,E p=none->Q (.ref p) (upd E p<|.tup D)
def Q5 (t:TA):TE:=λB H Q=>t B H λD E=>(!D)<=sizeLine/\∀p,E p=none->Q (.ref p) (upd E p<|.lst D)
def iY {x1}(h:PA X C t):PE X (.Tuple C x1 A) (qI t):=by intro B s M H Q I T;refine wpAny_Tuple_spliced<|aY (h A B s M H _ I T) ?_;rintro J O ⟨L,E,D,r,z,q⟩;refine⟨by rw[<-!r];calc z,?_⟩;have G:E (~~~O)=none:=D.hok.fresh<|av _;refine⟨.ref (~~~O),upd E (~~~O)<|.tup L,D.laid (t':=O.toks) (λb u e=>ar _ e) (av _) ?_,rfl,q _ G⟩;calc⟨z,J,r,⟨_,bc _ rfl,rfl,_,rfl⟩⟩
def jX (h:PA X C t):PE X (.List C A) (Q5 t):=by intro B s M H Q I T;refine wpAny_List_spliced<|aY (h A B s M H _ I T) ?_;rintro J O ⟨L,E,D,r,z,q⟩;refine⟨by rw[<-!r];calc z,?_⟩;have G:E (~~~O)=none:=D.hok.fresh<|av _;refine⟨.ref (~~~O),upd E (~~~O)<|.lst L,D.laid (t':=O.toks) (λb u e=>ar _ e) (av _) ?_,rfl,q _ G⟩;calc⟨z,J,0,r,bc _ rfl⟩
end
abbrev Sp:=¬V->Hp->VK->Prop
structure FZ (P:Program)(w:World)(K:Frag)(mg:Str->↑Value)(base:Heap)(A:Around)(outer:¬Env)(s:Shared)(H:Hp):Prop where
 frames:A.frames=#[outer]
 mod:Mod K mg base
 bs:∀b o,base b=#[o]->s.heap b=#[o]/\H b=none
 Mg:base.objs.size<=s.heap.objs.size
 xg:s.heap.FunFrames base outer
 ZW:∀b∈frs outer,H b=none
 hok:jP P w H s.heap
 bare:AllBare s.gens
def CE (A:¬Env)(P:Program)(w:World)(H:Hp)(s:Shared)(Q:VK)(u:Value)(B:Shared):Prop:=
 ∃v E,B.os=s.os/\AllBare B.gens/\Un (frs A) [] H E s.heap B.heap/\jP P w E B.heap/\RelV v u/\Q v E
def CR (A:¬Env)(P:Program)(w:World)(H:Hp)(s:Shared)(Q:VK)(r:Result)(B:Shared):Prop:=
 match r with
 |.ok (.ret u)=>CE A P w H s Q u B
 |_=>False
structure jK (P:Program)(w:World)(K:Frag)(mg:Str->↑Value)(base:Heap)(k:Nat)(f:Addr)(fd:FuncData)(ps:¬Str)(sp:Sp):Prop where
 len:∀vs H Q,sp vs H Q->(!vs)=!ps
 run:∀(A:Around) (outer:¬Env) (s:Shared) (H:Hp) (args:Args) (us:¬Value) (vs:¬V) (Q:VK),cW k A->FZ P w K mg base A outer s H->BindsTo s fd args (ps.zip us)->Vals vs us->sp vs H Q->
  codeAny (model P w) A (.call (.ref f) args) (CR outer P w H s Q) s
def FZ.make {P:Program}{w:World}{K:Frag}{E:Str->↑Value}{D:Heap}{A:Around}{B:¬Env}{s:Shared}{H:Hp}(e:FZ P w K E D A B s H)(C:Addr)(us:¬Value)(G:¬(Str×Value)):
  FZ P w K E D (A.under<|.builtin "type.__call__" ⟨.ref C::us,G⟩) B s H:=⟨by first|calc e.frames|(simpa [Around.under,Code.envs,Code.isFrame,pushEnvs] using e.frames),e.mod,e.bs,e.Mg,e.xg,e.ZW,e.hok,e.bare⟩
section
variable {s A:Shared}
def Inv.env0 (I:Inv X B C H s):FZ X.prog X.w X.K X.mg X.base X.A X.stack s H:=
 (I.ok.frames,I.ok.mod,I.bs,cb I.ok.Mg I.sz,I.stack,I.Vy,I.hok,I.bare)
def Inv.after (I:Inv X C J H s)(h:CE X.stack X.prog X.w H s Q u A):EP X C J Q u A:=by let(v,E,os,B,un,y,r,q):=h;let(G,g,d,t,D):=A;obtain rfl:D=s.os:=os;calc(v,E,I.call (h':=G) (g':=g) (d':=d) (t':=t) (ch:=[]) un y B<|λb z=>absurd z<|by simp,r,q)
end
def jy (A:Sp)(t:TA):TE:=λB H Q=>t B H λJ E=>A J E Q
def iy (C:Addr)(m:Str)(D:Sp)(G:TE)(t:TA):TE:=λB H Q=>G B H λx E=>∃a A fs,x=.ref a/\E a=#[.ins C A fs]/\fs.lookup m=none/\
 t B E λI J=>D (x::I) J Q
def Pa (C:Addr)(B:Sp)(t:TA):TE:=λG H Q=>t G H λD A=>∀x E,A x=none->A E=none->E≠x->
 B (.ref x::D) (upd (upd A E<|.own x) x<|.ins C E []) (λv J=>v=.non/\Q (.ref x) J)
def Binds (A:FuncData)(ps:¬Str):Prop:=∀C:¬Value,(!C)=!ps->bindArgs A ⟨C,[]⟩=pure (ps.zip C)
section
variable {t:TA}
def Q6 (F:jK X.prog X.w X.K X.mg X.base k f B ps E)(hr:cW k X.A)(D:Binds B ps)
  (I:Inv X A G H s)(r:Vals vs us)(h:E vs H Q):(X.prog\X.w) X.A (call (.ref f) us) (EP X A G Q) NE s:=by
 refine wpAny_call (ic (F.run X.A X.stack s H ⟨us,[]⟩ us vs Q hr I.env0 (.of_eq<|D us (by rw[<-!r];calc F.len _ _ _ h)) r h) λr J T=>?_);cases r with
 |error e=>calc T.elim
 |ok C=>
  cases C with
  |ret u=>calc I.after T
  |_=>assumption
def agi (F:jK X.prog X.w X.K X.mg X.base k f J ps T)(hr:cW k X.A)(hg:Gl X x)(O:X.mg x=#[.ref f])(hk:keepIn X.K (.ref f)=true)(M:Binds J ps)
  (L:PA X (e::D) t)(C:((x==("__debug__":Str))=false)∣1)(N:(starEach (e::D) X.env=(false,eval e X.env)::starEach D X.env)∣0)(E:((backTo B<|starEach D X.env).any (·.1)=false)∣0):
  PE X (.Call (.Name x p) (e::D) [] B) (jy T t):=by
 intro A s U H Q I h;refine fq<|Dh I hg O ?_ C;refine callWith_K (h₀:=X.base) I.ok.mod.ZR hk (aY (L B A s U H _ I h) ?_) N E;rintro g j ⟨l,Y,G,r,q⟩;refine⟨G.o9,?_⟩;calc Q6 F hr M G r q
def agj (y:PE X o i)(c:Cls X.K C)(M:Meth X.K C m f)(F:jK X.prog X.w X.K X.mg X.base k f g ps w)(hr:cW k X.A)(v:Binds g ps)(p:PA X (e::E) t)
  (J:(starEach (e::E) X.env=(false,eval e X.env)::starEach E X.env)∣0)(G:((backTo A<|starEach E X.env).any (·.1)=false)∣0)
  (z:eval (.Call (.Attribute o m B) (e::E) [] A) X.env=(do
   let O<-eval o X.env
   standAt B.atName
   let(f,first)<-holding [O] (getMethod O m pl)
   callWith A f first (backTo A (starEach (e::E) X.env)) (backToKw A (keywordEach [] X.env))):=by rfl):
  PE X (.Call (.Attribute o m B) (e::E) [] A) (iy C m w i t):=by
 intro D s T H Q I h;refine nI (pl:=pl) (aY (y D s T H _ I h) ?_) z;rintro u n ⟨x,U,L,d,a,dx,fs,j,Y,l,q⟩;subst j;obtain rfl:u=Value.ref a:=d;refine Hq L Y c M l ?_;refine callWith_K (first:=[.ref a]) (h₀:=X.base) I.ok.mod.ZR M.kp (aY (p A D n T U _ L q) ?_) J G;rintro us s2 ⟨vs,H2,N,r,b⟩;refine⟨N.o9,?_⟩;calc Q6 (us:=.ref a::us) (vs:=.ref a::vs) F hr v N (.cons rfl r) b
def acD (T:PE X o g)(c:Cls X.K C)(G:Meth X.K C m f)(F:jK X.prog X.w X.K X.mg X.base k f N ps j)(hr:cW k X.A)(O:Binds N ps)
  (U:eval (.Call (.Attribute o m B) [] [] A) X.env=(do
   let J<-eval o X.env
   standAt B.atName
   let(f,first)<-holding [J] (getMethod J m pl)
   callWith A f first (backTo A (starEach [] X.env)) (backToKw A (keywordEach [] X.env))):=by rfl):
  PE X (.Call (.Attribute o m B) [] [] A) (iy C m j g d9):=by
 intro D s p H Q I h;refine nI (pl:=pl) (aY (T D s p H _ I h) ?_) U;rintro u y ⟨x,r,E,Y,a,v,fs,M,L,l,q⟩;subst M;obtain rfl:u=Value.ref a:=Y;refine Hq E L c G l ?_;calc ox (first:=[.ref a]) E.o9 G.kp (Q6 (us:=[.ref a]) (vs:=[.ref a]) F hr O E (.cons rfl .nil) q)
structure Mk (K:Frag)(C f:Addr):Prop where
 makes:makesIn K C=true
 init:findIn K (.ref C) "__init__"=#[#[.ref f]]
 fn:isFn K (.ref f)=true
 kp:keepIn K (.ref C)=true
def Q7 (M:Mk X.K C f)(F:jK X.prog X.w X.K X.mg X.base k f L ps l)(hr:cW (k+1) X.A)(Y:Binds L ps)(I:Inv X B o H s)(r:Vals vs us)
  (h:∀x E,H x=none->H E=none->E≠x->l (.ref x::vs) (upd (upd H E<|.own x) x<|.ins C E []) (λv J=>v=.non/\Q (.ref x) J)):
  (X.prog\X.w) X.A (call (.ref C) us) (EP X B o Q) NE s:=by
 have T:=h (~~~s+1) (~~~s) (I.hok.fresh (kx _)) (I.hok.fresh (av _)) (c8 (ip _));have N:=Inv.made (C:=C) I;have m:Vals (V.ref (~~~s+1)::vs) (Value.ref (~~~s+1)::us):=.cons rfl r;refine wpAny_call (acB (f:=f) I.o9 M.makes M.init (lS.mp M.fn) (ic (F.run _ X.stack _ _ ⟨_,[]⟩ _ _ _ (hr.make C us [])
  (N.env0.make C us []) (.of_eq (Y _ (by rw[<-!m];calc F.len _ _ _ T))) m T) λr p A=>?_))
 cases r with
 |error e=>calc A.elim
 |ok U=>
  cases U with
  |ret u=>let(v,D,O,j,G,g):=N.after A;subst G;calc⟨j,⟨V.ref<| ~~~s+1,D,O,rfl,g⟩⟩
  |_=>calc False.elim A
def agk (M:Mk X.K C f)(F:jK X.prog X.w X.K X.mg X.base k f L ps Y)(hr:cW (k+1) X.A)(hg:Gl X x)(U:X.mg x=#[.ref C])(O:Binds L ps)
  (N:PA X (e::D) t)(E:((x==("__debug__":Str))=false)∣1)(T:(starEach (e::D) X.env=(false,eval e X.env)::starEach D X.env)∣0)(G:((backTo B<|starEach D X.env).any (·.1)=false)∣0):
  PE X (.Call (.Name x p) (e::D) [] B) (Pa C Y t):=by
 intro A s j H Q I h;refine fq<|Dh I hg U ?_ E;refine callWith_K (h₀:=X.base) I.ok.mod.ZR M.kp (aY (N B A s j H _ I h) ?_) T G;rintro m l ⟨o,g,J,r,q⟩;refine⟨J.o9,?_⟩;calc Q7 M F hr O J r q
end
structure iz (N P:¬Str)(sc:Scope):Prop where
 kind:sc.kind=.function
 co:sc.isCoroutine=false
 gen:sc.isGenerator=false
 nd:N.Nodup
 pre:N.take (!P)=P
 par:∀x∈P,sc.names.lookup x=some .local\/sc.names.lookup x=some .cell
 ahQ:∀y∈sc.names,y.2≠ .free
theorem Mq {kindOf:Str->↑NameKind}{x:Str}:∀{A:¬(Str×Value)}{m:Str->↑Value},(∀v,Not ((x,v)∈A))->bindL kindOf A m x=m x
 |[],_,_=>rfl
 |(n,v)::r,m,h=>by
  unfold bindL;rw[Mq λw C=>h w<|af _ C];split
  .grind
  .rfl
theorem Mu {kindOf:Str->↑NameKind}{x:Str}:∀{A:¬(Str×Value)}{m:Str->↑Value},(∀v,Not ((x,v)∈A))->bindC kindOf A m x=m x
 |[],_,_=>rfl
 |(n,v)::r,m,h=>by
  unfold bindC;rw[Mu λw C=>h w<|af _ C];split
  .rfl
  .grind
theorem Mx {kindOf:Str->↑NameKind}{x:Str}{v:Value}:∀{P:¬Str}{vs:¬Value} {i:Nat} {m:Str->↑Value},P.Nodup->P[i]? =#[x]->vs[i]? =#[v]->kindOf x=some .local->
  bindL kindOf (P.zip vs) m x=#[v]
 |[],_,_,_,_,h,_,_=>by simp at h
 |_::_,[],_,_,_,_,h,_=>by simp at h
 |p::P,w::vs,0,m,nd,h1,h2,M=>by
  simp at h1 h2;subst h1;subst h2;show bindL kindOf ((p,w)::P.zip vs) m p=_;unfold bindL;rw[Mq λv A=>(cS.mp nd).1 (g9 A).1,ap M];simp
 |p::P,w::vs,i+1,m,nd,h1,h2,M=>by show bindL kindOf ((p,w)::P.zip vs) m x=_;unfold bindL;calc Mx (i:=i) (cS.mp nd).2 ‹h1› ‹h2› M
theorem Mz {kindOf:Str->↑NameKind}{x:Str}{v:Value}:∀{P:¬Str}{vs:¬Value} {i:Nat} {m:Str->↑Value},P.Nodup->P[i]? =#[x]->vs[i]? =#[v]->kindOf x≠some .local->
  bindC kindOf (P.zip vs) m x=#[v]
 |[],_,_,_,_,h,_,_=>by simp at h
 |_::_,[],_,_,_,_,h,_=>by simp at h
 |p::P,w::vs,0,m,nd,h1,h2,M=>by
  simp at h1 h2;subst h1;subst h2;show bindC kindOf ((p,w)::P.zip vs) m p=_;unfold bindC;rw[Mu λv A=>(cS.mp nd).1 (g9 A).1,aw M];simp
 |p::P,w::vs,i+1,m,nd,h1,h2,M=>by show bindC kindOf ((p,w)::P.zip vs) m x=_;unfold bindC;calc Mz (i:=i) (cS.mp nd).2 ‹h1› ‹h2› M
def start (N:¬Str)(vs:¬V):St:=vs.map some++replicate ((!N) - !vs) none
def gA (P:Program)(w:World)(K:Frag)(mg:Str->↑Value)(base:Heap)(N:¬Str)(B:Str)(scope:Scope)(f:Addr)(p:Value)(A:Around)(outer:¬Env)(s:Shared)(H:Hp):Cx where
 prog:=P
 w:=w
 K:=K
 mg:=mg
 base:=base
 A:=A.deeper<|envOfC B scope (~~~s) f p
 N:=N
 s₀:=s
 cQ:=H
 env:=envOfC B scope (~~~s) f p
 outer:=outer
 stack:=envOfC B scope (~~~s) f p::outer
 ex:=[]
 fn:=λ_=>true
 pn:=[]
def Q8 {sc:Scope}{n:Nat}{x:Str}(h:sc.names.lookup x=some .cell):∃c,(cellsFrom n sc.names []).lookup x=#[c]:=by have q:=nc sc.names n []<|.inl h;calc Option.isSome_iff_exists.mp q
def aag {P:Program}{w:World}{K:Frag}{Q:Str->↑Value}{D:Heap}{N ps:¬Str}{C:Str}{scope:Scope}{f:Addr}{M:Value}{A:Around}{B:¬Env}{s s1:Shared}{H:Hp}{us:¬Value}{vs:¬V}
  (S:iz N ps scope)(j:A.handled=none)(E:FZ P w K Q D A B s H)(o:(!vs)=!ps)(r:Vals vs us)
  (x:InCallC s (~~~s) (bindL (envOfC C scope (~~~s) f M).kindOf (ps.zip us) λ_=>none) (cellsFrom (~~~s+1) scope.names []) (bindC (envOfC C scope (~~~s) f M).kindOf (ps.zip us) λ_=>none) s1):
  Inv (gA P w K Q D N C scope f M A B s H) [] (start N vs) H s1:=by
 have g:(!ps)<=!N:=by have:=cw List.length S.pre;rw[fm] at this;lk
 let(h1,t,rfl,T):=x.done;have I:∀b:Addr,Not (b∈(gA P w K Q D N C scope f M A B s H).ex):=λb z=>absurd (show b∈([]:¬Addr) from z) 's';refine⟨⟨E.mod,S.kind,rfl,rfl,av _,λy z c h1 h2=>?_,λy G=>?_,λy c _ h=>?_,j,Around.frames_deeper E.frames,.inr ⟨rfl,rfl⟩,λb z=>absurd z (I b),E.bs,E.Mg,λb _ _=>I b,λb z=>absurd z (I b),E.xg,E.ZW⟩,
  rfl,E.bare,Un.kept T,⟨_,x.toInCall.ns,λi y v h1 h2 m=>?_⟩,λy c h=>⟨_,x.cell y c h⟩,E.hok.fresh (av _),λy c h=>?_,λp J=>absurd (show p∈([]:¬(Addr×Obj)) from J) 's',E.hok.kept T,?_⟩
 .exact name_of_addr x.apart (eL h1)<|eL h2
 .have G:scope.names.lookup y=some .cell\/scope.names.lookup y=some .free:=G;rcases G with G|G
  .exact Q8 G
  .exact absurd rfl<|S.ahQ _<|eL G
 .exact iS<|x.above y c<|eL h
 .have O:i<!vs:=by
   unfold start at h2;by_cases O:i<!vs
   .exact O
   .rw[cz<|‹O›] at h2;rw[gp] at h2;split at h2<;>cases h2
  have Y:vs[i]? =#[v]:=by
   unfold start at h2;rw[b9<|‹O›,ay] at h2;cases e:vs[i]? with
   |none=>rw[e] at h2;cases h2
   |some a=>rw[e] at h2;cases h2;rfl
  let(u,U,l):=r.get Y;have J:ps[i]? =#[y]:=by rw[<-S.pre,mM ∅];exact h1
  have L:ps.Nodup:=by rw[<-S.pre];exact S.nd.sublist<|pu _ _
  refine⟨u,l,?_⟩;rcases S.par y (ag J) with k|k
  .exact .inl ⟨k,Mx L J U k⟩
  .let(c,e):=Q8 (n:= ~~~s+1) k;refine .inr ⟨.inl k,c,e,?_⟩;have q:=x.cell y c e;rw[Mz L J U (by show scope.names.lookup y≠_;rw[k];decide)] at q;exact q
 .exact E.hok.fresh<|iS<|x.above y c<|eL h
 .unfold start;show _=!N;rw[aE,ac,i7];lk
def akO {P:Program}{w:World}{K:Frag}{p:Str->↑Value}{E:Heap}{k:Nat}{f:Addr}{name C:Str}{G:Arguments}{L:¬Stmt}{scope:Scope}{dV kV Y pm D ct oc:Value}{an od:↑Addr}
  {d:Array (↑Value)}{N ps:¬Str}{h:Sp}(lk:K.lookup f=#[⟨oc,od,.func<|fnOf name C G L scope dV kV Y pm an D ct,d⟩])(z:codeIn K D C=true)(S:iz N ps scope)
  (len:∀vs H Q,h vs H Q->(!vs)=!ps)
  (T:∀(A:Around) (B:¬Env) (s:Shared) (H:Hp) (vs:¬V) (Q:VK),cW k (A.deeper (envOfC C scope (~~~s) f D))->h vs H Q->
   ∃t,jl (gA P w K p E N C scope f D A B s H) L t/\t {nx:=λ_ O=>Q .non O,rt:=Q} (start N vs) H):
  jK P w K p E (k+1) f (fnOf name C G L scope dV kV Y pm an D ct) ps h:=by
 refine⟨len,λA B s H args us vs Q hr j hb r m=>?_⟩;have hl:=len _ _ _ m;have KX:K.In s.heap:=j.mod.ZR.keeps λb o e=>(j.bs b o e).1;have c:s.heap.NoLimit:=j.mod.nolimit.keeps λb o e=>(j.bs b o e).1;have U:∀y∈ps.zip us,scope.names.lookup y.1=some .local\/(scope.names.lookup y.1=some .cell/\((cellsFrom (~~~s+1) scope.names []).lookup y.1).isSome=true):=λ⟨n,v⟩ hy=>by
  rcases S.par n (g9 hy).1 with q|q
  .exact .inl q
  .exact .inr ⟨q,nc _ _ _<|.inl q⟩
 refine codeAny_call_function hr.depth (KX _ _ lk) rfl S.co S.gen rfl (PySem.W.codeRec_of KX z)<|hb _ _ _ _ ?_;refine wpAny_newFunctionEnv_cells S.kind U λenv he s1 x=>?_;subst he;refine⟨c.keeps x.toInCall.keep,codeAny_func ?_⟩;let(t,ht,hq):=T A B s H vs Q (hr.deeper _) m;have I:Inv (gA P w K p E N C scope f D A B s H) [] (start N vs) H s1:=aag S hr.hd j hl r x;refine eR (ht [] s1 (start N vs) H _ I hq) (λfl i l=>?_) λe i l=>False.elim l;have g:∀{M:St}{O:Hp} {v:V} {u:Value},Inv (gA P w K p E N C scope f D A B s H) [] M O i->RelV v u->Q v O->CE B P w H s Q u i:=
  λ{M O v u} J a q=>⟨v,O,J.os,J.bare,J.base,J.hok,a,q⟩
 cases fl with
 |ret u=>let(v,M,O,J,a,q):=l;calc g J a q
 |next=>let(M,O,J,q):=l;calc g (v:=V.non) (u:=Value.none) J rfl q
 |_=>calc False.elim l
section
variable {id T:String}
def um (r:¬V->Hp->VK->Prop)(t:TA):TE:=λB H Q=>t B H λJ E=>r J E Q
def cI (O:cU X (.builtin id) r)(hg:Gl X x)(U:X.mg x=none)(j:bootBuiltins x=#[.builtin id])(M:PA X (e::D) t)(Y:(x≠"__name__")∣1)(C:((x==("__debug__":Str))=false)∣1)
  (N:(starEach (e::D) X.env=(false,eval e X.env)::starEach D X.env)∣0)(E:((backTo B<|starEach D X.env).any (·.1)=false)∣0):PE X (.Call (.Name x p) (e::D) [] B) (um r t):=by
 intro A s G H Q I h;refine fq<|pK I hg U j ?_ Y C;refine PyProof.Rows.callWith_builtin1 (aY (M B A s G H _ I h) ?_) N E;rintro m l ⟨o,J,L,g,k⟩;calc O A l G J o m Q L g k
def bF (O:cU X (.type T) r)(hg:Gl X x)(U:X.mg x=none)(j:bootBuiltins x=#[.type T])(M:PA X (e::D) t)(Y:(x≠"__name__")∣1)(C:((x==("__debug__":Str))=false)∣1)
  (N:(starEach (e::D) X.env=(false,eval e X.env)::starEach D X.env)∣0)(E:((backTo B<|starEach D X.env).any (·.1)=false)∣0):PE X (.Call (.Name x p) (e::D) [] B) (um r t):=by
 intro A s G H Q I h;refine fq<|pK I hg U j ?_ Y C;refine cy (aY (M B A s G H _ I h) ?_) N E;rintro m l ⟨o,J,L,g,k⟩;calc O A l G J o m Q L g k
end
end L2
namespace HT
open PyProof.Rows
section
open PySem.SeqAt
open PySem.AutoSeq1 (wpAny_loadPart')
open PySem.MeetsSeq PySem.MeetsSeq2 PySem.MeetsSeq3
end
section
variable {s:Shared}
def cj (n d:Nat):↑Int->Nat
 |none=>d
 |some v=>if v<0 then(v+(n:Int)).toNat else min v.toNat n
def Q9 (n d:Nat):cj n d none=d:=rfl
def VH (n d k:Nat):cj n d #[(k:Int)]=min k n:=by rfl
def Ra (n d:Nat)(G:d<=n)(o:↑Int):cj n d o<=n:=by
 cases o with
 |none=>calc G
 |some v=>
  show(if v<0 then(v+(n:Int)).toNat else min v.toNat n)<=n;by_cases M:v<0
  .rw[ap M];lk
  .rw[aw M];calc qc _ _
def VJ (v:Int)(n d:Nat):(if v<0 then max (v+(n:Int)) 0 else min v (n:Int))=((cj n d #[v]:Nat):Int):=by
 show(if v<0 then max (v+(n:Int)) 0 else min v (n:Int))=(((if v<0 then(v+(n:Int)).toNat else min v.toNat n):Nat):Int);by_cases M:v<0
 .erw[ap M];lk
 .erw[aw M];lk
def XS (lo hi:↑Int)(n:Nat):Builtin.Slice.sliceAdjust lo hi 1 (n:Int)=(((cj n 0 lo:Nat):Int),((cj n n hi:Nat):Int)):=by
 have h1:Not ((1:Int)<0):=by lk
 delta Builtin.Slice.sliceAdjust;erw[h1,eg];refine Prod.ext ?_ ?_
 .cases lo with
  |none=>rfl
  |some v=>exact VJ v n 0
 .cases hi with
  |none=>rfl
  |some v=>calc VJ v n n
def X3 (i j:Nat):Builtin.Slice.slicePlaces (i:Int) (j:Int) 1=j - i:=by delta Builtin.Slice.slicePlaces;lk
def Hs {v:Value}{o:↑Int}{Q:↑Int->Shared->Prop}(p:IsPart v o)(h:Q o s):(prog\w) A (Builtin.Slice.slicePartIndex v) Q E s:=by
 cases p with
 |none=>calc slicePart_none h
 |int i t=>calc slicePart_int h
def Ga {H:Addr}{D G:Value}{lo hi:↑Int}{n:Nat}{Q:Int×Int×Nat->Shared->Prop}(J:s.heap.IsSliceOf H D G .none)(pl:IsPart D lo)(L:IsPart G hi)
  (h:Q (((cj n 0 lo:Nat):Int),1,cj n n hi - cj n 0 lo) s):(prog\w) A (Builtin.Slice.sliceApplied (.ref H)<|pure (n:Int)) Q E s:=by
 let(os,C,I,B):=id J;delta Builtin.Slice.sliceApplied Builtin.Slice.sliceFields;refine aa<|aa<|cm C B (x:=D) rfl<|aa<|cm C B (x:=G) rfl<|aa<|cm C B (x:=.none) rfl<|ax ?_;refine aa<|slicePart_none ?_;show wpAny _ _ (if((1:Int)==0)=true then _ else _) _ _ s;rw[aw<|by decide];refine aa<|Hs pl<|aa<|Hs L<|aa<|ax ?_;show wpAny _ _ (match Builtin.Slice.sliceAdjust lo hi 1 (n:Int) with|(lo,hi)=>pure<|Prod.mk lo<|Prod.mk (1:Int)<|Builtin.Slice.slicePlaces lo hi 1) _ _ s;rw[XS lo hi n];k_ne;rw[X3];calc ax h
def acE (xs:Array Value)(i k:Nat):((List.range k).filterMap λ(m:Nat)=>xs[((i:Int)+(m:Int)*1).toNat]?).toArray=((xs.toList.drop i).take k).toArray:=by
 have e:(λ(m:Nat)=>xs[((i:Int)+(m:Int)*1).toNat]?)= λm=>xs[i+m]?:=by
  funext m
  have:((i:Int)+(m:Int)*1).toNat=i+m:=by lk
  rw[this]
 rw[e];have:=pick_run xs i k;rw[List.filterMap_map] at this;have G:((λx=>xs[x]?) ∘ λx=>i+x)= λm=>xs[i+m]?:=rfl;rw[G] at this;rw[this]
def Er {t J:Addr}{B:Array Value}{M N:Value}{lo hi:↑Int}{Q:Value->Shared->Prop}(U:IsTup s.heap t B)(L:s.heap.IsSliceOf J M N .none)(pl:IsPart M lo)(T:IsPart N hi)
  (j:Not (cj B.size 0 lo=0/\cj B.size B.size hi=B.size))
  (h:Q (.ref (~~~s)) {s with heap:=s.heap.push {cls:=.type "tuple",data:=.seq ((B.toList.drop<|cj B.size 0 lo).take<|cj B.size B.size hi - cj B.size 0 lo).toArray}})
  (hsz:B.size<=sizeLine):(prog\w) A (getItem (.ref t)<|.ref J) Q E s:=by
 have C:sizeOk (.seq ((B.toList.drop<|cj B.size 0 lo).take<|cj B.size B.size hi - cj B.size 0 lo).toArray):=by show((B.toList.drop<|cj B.size 0 lo).take<|cj B.size B.size hi - cj B.size 0 lo).toArray.size<=sizeLine;grind
 have Y:cj B.size B.size hi<=B.size:=Ra _ _ (av _) hi;let(os,H,I,O):=id L;have D:s.TypeIs (.ref J) "slice":=(os,H,I);delta getItem;try with_reducible refine dT ?_
 first|refine aa (ax ?_)|skip
 refine aa (wpAny_sequenceKey U.typeIs ⋯ ?_);refine aa (da (name:=Str.ofString "__getitem__") U.typeIs gy
  (fg gy U.typeIs entry_tuple_getitem ?_ (args_tuple_getitem _ _)))
 show wpAny _ _ (Builtin.Tuple.tupleItemsOf (.ref t)>>=_) _ _ s;refine aa<|tupleItemsOf_ U ?_;refine aa<|wpAny_typeOf D ?_;rw[ap<|by decide];refine aa<|Ga L pl T ?_;have G:Not ((((cj B.size 0 lo:Nat):Int)==0 && (1:Int)==1 && (cj B.size B.size hi - cj B.size 0 lo)==B.size)=true):=by lk
 show wpAny _ _ (if(((cj B.size 0 lo:Nat):Int)==0 && (1:Int)==1 && (cj B.size B.size hi - cj B.size 0 lo)==B.size)=true then _ else _) _ _ s;rw[aw G,acE];first
  |calc aa (m:=Builtin.Tuple.tupleExact _) (eP (ax (_,rfl,ax h)) C)
  |calc aa (m:=Builtin.Tuple.tupleExact _) (eP (aa<|ax<|ax (_,rfl,ax h)) C)
  |calc aa (aa (m:=Builtin.Tuple.tupleExact _)<|eP (ax<|ax (_,rfl,ax h)) C)
  |calc aa (aa (m:=Builtin.Tuple.tupleExact _)<|eP (ax (_,rfl,ax h)) C)
end
end HT
namespace L2
open PyProof.Rows
abbrev TO:=St->Hp->(↑Int->Hp->Prop)->Prop
def PO (X:Cx)(e:↑Expr)(t:TO):Prop:=
 ∀(A:¬(Addr×Obj)) (s:Shared) (B:St) (H:Hp) (Q:↑Int->Hp->Prop),Inv X A B H s->t B H Q->
  (X.prog\X.w) X.A (evalPart e X.env) (λu C=>∃o E,Inv X A B E C/\IsPart u o/\Q o E) NE s
def Kg:TO:=λ_ H Q=>Q none H
def yU (t:TE):TO:=λB H Q=>t B H λx E=>∃i,x=.int i/\Q #[i] E
section
variable {lo hi:↑Expr}
def VL:PO X none Kg:=by intro A s B H Q I h;rw[evalPart_none];calc ax (none,H,I,.none,h)
def uN (h:PE X e te):PO X #[e] (yU te):=by intro A s B H Q I C;rw[evalPart_some];refine aY (h A s B H _ I C) ?_;rintro u O ⟨x,E,D,L,J⟩;let(i,rfl,q):=J;let(t,rfl):=L;calc(#[i],E,D,.int i t,q)
def SlR (X:Cx)(r:V->↑Int->↑Int->Hp->VK->Prop):Prop:=
 ∀(A:¬(Addr×Obj)) (s:Shared) (C:St) (H:Hp) (x:V) (v B G:Value) (lo hi:↑Int) (D:Addr) (Q:VK),Inv X A C H s->RelV x v->s.heap.IsSliceOf D B G .none->IsPart B lo->IsPart G hi->r x lo hi H Q->
  ∃T id,typeLookup (.type T) "__getitem__"=pure (#[.builtin id])/\s.TypeIs v T/\(X.prog\X.w) X.A (getItem v<|.ref D) (EP X A C Q) NE s
def VN (r:V->↑Int->↑Int->Hp->VK->Prop)(te:TE)(D A:TO):TE:=λB H Q=>te B H λx E=>D B E λl J=>A B J λu C=>r x l u C Q
def qJ (hr:SlR X r)(Y:PE X e te)(k:PO X lo tl)(f:PO X hi i):PE X (.Subscript e (.Slice lo hi none m) p) (VN r te tl i):=by intro A s C H Q I h;refine Subscript_<|aY (Y A s C H _ I h) ?_;rintro v w ⟨x,J,M,n,z⟩;refine wpAny_Slice<|aY (k A w C J _ M z) ?_;rintro D a ⟨l,L,N,o,c⟩;refine aY (f A a C L _ N c) ?_;rintro G B ⟨u,E,O,t,d⟩;rw[evalPart_none];refine ax ?_;have y:Inv X A C E {B with heap:=B.heap.push {cls:=.type "slice",data:=.fields #[D,G,.none]}}:=O.kept (t':=B.toks) λb ob q=>ar _ q;let(T,id,U,g,j):=hr A {B with heap:=B.heap.push {cls:=.type "slice",data:=.fields #[D,G,.none]}} C E x v D G l u (~~~B) Q y n (Heap.IsSliceOf.new ..) o t d;show (X.prog\X.w) X.A (subscriptTail e (.Slice lo hi none m) v<|.ref (~~~B)) (EP X A C Q) NE {B with heap:=B.heap.push {cls:=.type "slice",data:=.fields #[D,G,.none]}};calc tail_any (ops:=[.ref (~~~B),v]) g U j<|by with_unfolding_all rfl
def iZ (xs:¬V)(lo hi:↑Int):¬V:=(xs.drop<|HT.cj (!xs) 0 lo).take<|HT.cj (!xs) (!xs) hi - HT.cj (!xs) 0 lo
def Eu (xs:¬V)(lo hi:↑Int):(!(iZ xs lo hi))<=!xs:=by delta iZ;rw[fm,ir];lk
def anM (K:Frag):V->↑Int->↑Int->Hp->VK->Prop:=λx lo hi H Q=>∃a D,x=.ref a/\cF K H a D/\
 Not (HT.cj (!D) 0 lo=0/\HT.cj (!D) (!D) hi=!D)/\∀p,H p=none->Q (.ref p) (upd H p<|.tup<|iZ D lo hi)
def ahR:SlR X (anM X.K):=by
 intro E s k H x v Y j lo hi T Q I O G N M h;let(a,A,rfl,L,J,q):=h;cases O;let(B,r,U,C):=I.tuple L;have D:B.toArray.size=!A:=by rw[bu];exact r.length.symm
 refine("tuple",_,gy.lookup,U.typeIs,?_);refine HT.Er U G N M (by rw[D];calc J) ?_ (by rw[D];calc C);rw[D];refine(.ref (~~~s),_,I.laid (t':=s.toks) (o:=.tup<|iZ A lo hi) (λb ob q=>ar _ q) (av _) ?_,rfl,q _<|I.hok.fresh<|av _);calc(cb (Eu A lo hi) C,_,(r.drop<|HT.cj (!A) 0 lo).take<|HT.cj (!A) (!A) hi - HT.cj (!A) 0 lo,IsTup.new _ _)
end
def pL (n:Nat)(i:Int):↑Nat:=if 0<=i then(if i<n then #[i.toNat] else none) else if -(n:Int)<=i then #[(i+n).toNat] else none
def cP {A:Type}(xs:¬A)(i:Int):↑A:=(pL (!xs) i).bind λj=>xs[j]?
def VP (h:pL n i=#[j]):seqIndex? i n=#[j]/\j<n∧-(n:Int)<=i/\i<n:=by
 delta pL at h;by_cases L:0<=i
 .rw[ap L] at h;by_cases h1:i<n
  .rw[ap h1] at h;have e:i.toNat=j:=bv h;exact(by rw[mT L h1,e],by lk,by lk,h1)
  .rw[aw h1] at h;cases h
 .rw[aw L] at h;by_cases h1: -(n:Int)<=i
  .rw[ap h1] at h;have e:(i+n).toNat=j:=bv h;exact(by rw[lP ∅ h1,e],by lk,h1,by lk)
  .rw[aw h1] at h;cases h
def xT (h:cP xs i=#[v]):∃j,seqIndex? i (!xs)=#[j]/\xs[j]? =#[v]/\j<!xs∧-((!xs):Int)<=i/\i<!xs:=by
 delta cP at h;cases e:pL (!xs) i with
 |none=>rw[e] at h;cases h
 |some j=>rw[e] at h;let(h1,h2,J,M):=VP e;calc(j,h1,h,h2,J,M)
def fM {A:Type}{xs:¬A}{j:Nat}{v:A}(h:xs[j]? =#[v]):cP xs (j:Int)=#[v]:=by
 have Y:j<!xs:=(ah.mp h).1;have e:pL (!xs) (j:Int)=#[j]:=by delta pL;rw[ap ∅,ap ∅];simp
 delta cP;rw[e];calc h
def Di (b:Expr):Prop:=∀o i,subscripted b false o i=operate [o,i] (getItem o i)
def sV (X:Cx)(r:R2):Prop:=
 ∀(E A:Expr) (B:¬(Addr×Obj)) (s:Shared) (C:St) (H:Hp) (x y:V) (v u:Value) (Q:VK),Inv X B C H s->RelV x v->RelV y u->r x y H Q->
  subscripted A false v u=operate [v,u] (getItem v u)->(X.prog\X.w) X.A (subscriptTail E A v u) (EP X B C Q) NE s
def uo (X:Cx)(id:String)(r:V->¬V->Hp->VK->Prop):Prop:=
 ∀(A:¬(Addr×Obj)) (s:Shared) (B:St) (H:Hp) (x:V) (D:¬V) (v:Value) (C:¬Value) (Q:VK),Inv X A B H s->RelV x v->Vals D C->r x D H Q->
  (X.prog\X.w) X.A (call (.builtin id) (v::C)) (EP X A B Q) NE s
section
variable {B:Pos}
def sV.or (h:sV X r)(h':sV X J):sV X (λx y H Q=>r x y H Q\/J x y H Q):=by
 intro E A C s G H x y v u Q I L M q D;rcases q with q|q
 .exact h E A C s G H x y v u Q I L M q D
 .calc h' E A C s G H x y v u Q I L M q D
def X4 (hr:sV X r)(G:PE X a O)(C:PE X b T)(D:Di b):PE X (.Subscript a b B) (jm r O T):=by intro A s U H Q I h;calc Subscript_<|acu G C I h λv u E x y J N L M q=>hr a b A E U J x y v u Q N L M q<|D _ _
def acF (K:Frag):R2:=λx y H Q=>∃p D i v,x=.ref p/\y=.int i/\aU K H p D/\cP D i=#[v]/\Q v H
def anN (K:Frag):R2:=λx y H Q=>∃p D i v,x=.ref p/\y=.int i/\cF K H p D/\cP D i=#[v]/\Q v H
def anO:R2:=λx y H Q=>∃z i c,x=.str z/\y=.int i/\(!z)<=sizeLine/\cP ⇑z i=#[c]/\Q (.str ⟨[c].toArray⟩) H
def Kh:sV X (acF X.K):=by
 intro J G A s T H x y v u Q I o b h O;let(p,a,i,z,rfl,rfl,m,g,q):=h;cases o;let(t,rfl):=b;let(D,r,N,n):=I.list m;let(j,h1,h2,d,U,k):=xT g;let(w,L,E):=r.get h2;have l:=!r;have f:=sU;have C:EP X A T Q w s:=⟨z,H,I,E,q⟩;by_cases M:0<=i
 .have Y:i.toNat=j:=by rw[mT M k] at h1;exact bv h1
  exact item_listR N.isList M ∅ (by rw[Y];simpa using L) C O
 .have Y:(i+(D.toArray.size:Int)).toNat=j:=by rw[lP ∅ U] at h1;rw[bu,←l];exact bv h1
  exact subscriptTail_builtinR (x:=w) N.isList.typeIs slot_list_getitem.lookup
   (pE (Q:=λr c=>r=w/\EP X A T Q r c) N.isList ∅ (by rw[bu]<;>lk) ∅ (by rw[Y];simpa using L) ⟨rfl,C⟩) O
def Rb:sV X (anN X.K):=by
 intro G D A s J H x y v u Q I k g h U;let(p,f,i,z,rfl,rfl,T,M,q):=h;cases k;let(t,rfl):=g;let(Y,r,N,d):=I.tuple T;let(j,h1,h2,m,o,b):=xT M;let(w,L,E):=r.get h2;have O:=!r;have c:=sU;have C:EP X A J Q w s:=⟨z,H,I,E,q⟩;exact subscriptTail_builtinR (x:=w) N.typeIs slot_tuple_getitem.lookup
  (getItem_tuple (j:=j) (Q:=λr l=>r=w/\EP X A J Q r l) N ∅ ∅ (by rw[bu,←O];calc h1) ‹L› ⟨rfl,C⟩) U
def ahS:sV X anO:=by
 intro E A C s g H x y v u Q I L J h G;let(z,i,c,rfl,rfl,U,D,q):=h;let(t,rfl):=L;let(Y,rfl):=J;let(j,h1,h2,O,M,k):=xT D;have N:(!⇑z)=!z:=by simp[Str.length]
 rw[N] at h1 M k;have T:=sU;exact tail_any (ii s z t) slot_str_getitem.lookup (getItem_str (c:=c) (by
  lk) (by rw[h1];simpa using h2) ⟨.str ⟨[c].toArray⟩,H,I.tok _,⟨_,rfl⟩,q⟩) G
def X5 (A:¬Value)(n j:Nat)(u:Value):Obj.mapSeq (·.setIfInBounds j u) {cls:=.type "list",data:=.seq A.toArray n}={cls:=.type "list",data:=.seq (A.set j u).toArray n}:=by simp[Obj.mapSeq]
theorem Inv.lst (I:Inv X C D H s)(h:H p=#[.lst xs]):
  ∃(A:¬Value) (n:Nat),Vals xs A/\s.heap p=some {cls:=.type "list",data:=.seq A.toArray n}/\(!xs)<=sizeLine:=by
 let(z,A,n,r,e):=I.hok p _ h;calc(A,n,r,e,z)
def Inv.ahT {A:¬(Addr×Obj)}{E:St}{H:Hp}{s:Shared}{p:Addr}{xs ys:¬V}{C its':¬Value}{n L:Nat}{f:Obj->Obj}(I:Inv X A E H s)(h:H p=#[.lst xs])
  (J:s.heap p=some {cls:=.type "list",data:=.seq C.toArray n})(D:f {cls:=.type "list",data:=.seq C.toArray n}={cls:=.type "list",data:=.seq its'.toArray L})(r:Vals ys its')(M:(!ys)<=sizeLine)(t:Nat):
  Inv X A E (upd H p<|.lst ys) {s with heap:=s.heap.update p f,toks:=t}:=by
 have e:(s.heap.update p f) p=some {cls:=.type "list",data:=.seq its'.toArray L}:=by rw[gs f J (by rw[D]<;>rfl),D]
 refine I.write (x:=p) (e:=p) (by rw[h];trivial) (.inl rfl) (λb u G q=>(ck _ _<|ci G).trans q) ⟨_,e⟩ ?_;calc⟨M,its',L,r,e⟩
def akP:V->V->V->Hp->(Hp->Prop)->Prop:=λo i v H Q=>∃p D k j,o=.ref p/\i=.int k/\H p=#[.lst D]/\pL (!D) k=#[j]/\Q (upd H p<|.lst<|D.set j v)
def set_list:yR X akP:=by
 intro C s y H o i v c b u Q I g U l h;let(p,m,k,j,rfl,rfl,O,Y,q):=h;cases g;let(t,rfl):=U;let(A,n,r,D,T):=I.lst O;let(h1,h2,J,G):=VP Y;have N:=!r;have z:=sU;have E:Inv X C y (upd H p<|.lst<|m.set j v) {s with heap:=s.heap.update p<|Obj.mapSeq (·.setIfInBounds j u)}:=
  I.ahT O D (X5 A n j u) (r.set l j) (by rw[cc];calc T) s.toks
 by_cases L:0<=k
 .have M:k.toNat=j:=by rw[mT L G] at h1;lk
  exact PySem.W.ki_setAt D L ∅ (by rw[bu,←N];calc G) (by rw[M];calc(_,E,q))
 .have M:(k+(A.toArray.size:Int)).toNat=j:=by rw[lP ∅ J] at h1;grind
  calc PySem.W.ki_setBack D ∅ (by rw[bu,←N];calc J) ∅ (by rw[M];calc(_,E,q))
def Rc (lo hi:↑Int)(n:Nat):(sliceBounds lo hi none n).1=((HT.cj n 0 lo:Nat):Int)/\(sliceBounds lo hi none n).2.1=((HT.cj n n hi:Nat):Int)/\(sliceBounds lo hi none n).2.2=1:=by
 refine(?_,?_,rfl)
 .cases lo with
  |none=>simp[sliceBounds,HT.cj]
  |some i=>
   erw[sliceBounds,HT.cj,qa,show(1:Int)>0 by decide,dE];by_cases h:i<0
   .erw[h,dE]<;>lk
   .erw[h,eg]<;>lk
 .cases hi with
  |none=>simp[sliceBounds,HT.cj]
  |some i=>
   erw[sliceBounds,HT.cj,qa,show(1:Int)>0 by decide,dE];by_cases h:i<0
   .erw[h,dE]<;>lk
   .erw[h,eg]<;>lk
def OD (A:¬Value)(lo hi:↑Int):slicePick A.toArray lo hi none=((A.drop<|HT.cj (!A) 0 lo).take<|HT.cj (!A) (!A) hi - HT.cj (!A) 0 lo).toArray:=by let(h1,h2,J):=Rc lo hi A.toArray.size;delta slicePick;rw[h1,h2,J];erw[sliceRange_one,pick_run,bu]<;>rfl
def acG (K:Frag):V->↑Int->↑Int->Hp->VK->Prop:=λx lo N H Q=>∃a D,x=.ref a/\aU K H a D/\∀p,H p=none->Q (.ref p) (upd H p<|.lst<|iZ D lo N)
def Dj:SlR X (acG X.K):=by intro C s g H x v j k lo N Y Q I T E M O h;let(a,D,rfl,G,q):=h;cases T;let(L,r,U,J):=I.list G;have A:=!r;refine("list",_,slot_list_getitem.lookup,U.isList.typeIs,?_);refine wpAny_getItem_list_slice U.isList E M O .none 's' ?_ (by rw[bu]<;>lk);rw[OD,←A];refine(.ref (~~~s),_,I.laid (t':=s.toks) (o:=.lst<|iZ D lo N) (λb ob q=>ar _ q) (av _) ?_,rfl,q _<|I.hok.fresh<|av _);calc(cb (Eu D lo N) J,_,0,(r.drop<|HT.cj (!D) 0 lo).take<|HT.cj (!D) (!D) N - HT.cj (!D) 0 lo,bc _ rfl)
def rQ:V->Bool
 |.non=>true
 |.bl _=>true
 |.int _=>true
 |.str _=>true
 |_=>false
def MJ:V->V->Bool
 |.non,.non=>true
 |.bl a,.bl b=>a==b
 |.bl a,.int b=>(if a then 1 else 0)==b
 |.int a,.bl b=>a==(if b then 1 else 0)
 |.int a,.int b=>a==b
 |.str a,.str b=>a==b
 |_,_=>false
def ahU (D:RelV y u)(L:RelV x v)(E:rQ y=true)(C:rQ x=true):SeqAt.EqAt A s u v (MJ y x):=by
 cases y with
 |non=>
  cases D;cases x with
  |non=>cases L;calc SeqAt.EqAt.same _
  |bl b=>cases L;calc SeqAt.EqAt.none_bool b
  |int b=>let(t,rfl):=L;calc SeqAt.EqAt.none_int b t
  |str b=>let(t,rfl):=L;calc SeqAt.EqAt.none_str b t
  |_=>calc absurd (show false=true from C) bp
 |bl a=>
  cases D;cases x with
  |non=>cases L;calc SeqAt.EqAt.bool_none a
  |bl b=>cases L;calc SeqAt.EqAt.bool_bool a b
  |int b=>let(t,rfl):=L;calc SeqAt.EqAt.bool_int a b t
  |str b=>let(t,rfl):=L;calc SeqAt.EqAt.bool_str a b t
  |_=>calc absurd (show false=true from C) bp
 |int a=>
  let(M,rfl):=D;cases x with
  |non=>cases L;calc SeqAt.EqAt.int_none a M
  |bl b=>cases L;calc SeqAt.EqAt.int_bool a M b
  |int b=>let(t,rfl):=L;calc SeqAt.EqAt.int_int a M b t
  |str b=>let(t,rfl):=L;calc SeqAt.EqAt.int_str a M b t
  |_=>calc absurd (show false=true from C) bp
 |str a=>
  let(M,rfl):=D;cases x with
  |non=>cases L;calc SeqAt.EqAt.str_none a M
  |bl b=>cases L;calc SeqAt.EqAt.str_bool a M b
  |int b=>let(t,rfl):=L;calc SeqAt.EqAt.str_int a M b t
  |str b=>let(t,rfl):=L;calc SeqAt.EqAt.str_str a M b t
  |_=>calc absurd (show false=true from C) bp
 |_=>calc absurd (show false=true from E) bp
def wg (x:V)(u:Value):Bool:=match u with
 |.none=>MJ .non x
 |.bool b=>MJ (.bl b) x
 |.int i _=>MJ (.int i) x
 |.str z _=>MJ (.str z) x
 |_=>false
def aah (r:RelV y u)(f:rQ y=true):wg x u=MJ y x:=by
 cases y with
 |non=>cases r;rfl
 |bl b=>cases r;rfl
 |int i=>let(t,rfl):=r;rfl
 |str z=>let(t,rfl):=r;rfl
 |_=>calc absurd (show false=true from f) bp
def Kl (h:Vals xs us)(f:xs.all rQ=true):us.any (wg x)=xs.any λy=>MJ y x:=by
 induction h with
 |nil=>rfl
 |cons r t A=>rw[all_cons,bj] at f;rw[i8,i8,aah r f.1,A f.2]
def yV (L:RelV x v)(D:rQ x=true)(h:Vals xs us)(f:xs.all rQ=true):∀u∈us,SeqAt.EqAt A s u v (wg x u):=by
 induction h with
 |nil=>intro u C;cases C
 |cons r t E=>
  intro o C;rw[all_cons,bj] at f;rcases bq.mp C with rfl|C
  .rw[aah r f.1];exact ahU r L f.1 D
  .calc E f.2 o C
def inV (x:V)(xs:¬V):Bool:=xs.any λy=>MJ y x
def rIn (K:Frag)(A:Bool):R2:=λx y H Q=>∃p D,y=.ref p/\(aU K H p D\/cF K H p D)/\rQ x=true/\D.all rQ=true/\Q (.bl<|if A then not (inV x D) else inV x D) H
def mD:cB X (compareOp .NotIn) (rIn X.K true):=by
 intro E s O H x y v u Q I L M h;let(p,J,rfl,T,D,fs,q):=h;cases M;rcases T with T|T
 .let(A,r,N,G):=I.list T;refine SeqAt.notIn_listAt (wg x) N.isList (λw C=>yV L D r fs w<|‹C›) (.bl _,H,I,rfl,?_);rw[show A.toArray.any (wg x)=A.any (wg x) by simp,Kl r fs];exact q
 .let(A,r,N,G):=I.tuple T;refine SeqAt.notIn_tupleAt (wg x) N (λw C=>yV L D r fs w<|‹C›) (.bl _,H,I,rfl,?_);rw[show A.toArray.any (wg x)=A.any (wg x) by simp,Kl r fs];calc q
def Rf:cU X (.builtin "len") (λxs H Q=>∃p ys,xs=[.ref p]/\(aU X.K H p ys\/cF X.K H p ys)/\Q (.int !ys) H):=by
 intro E s O H xs M Q I r h;let(p,ys,rfl,T,q):=h;let(u,rfl,L):=vals1 r;cases L;have J:=sU;rcases T with T|T
 .let(A,C,N,G):=I.list T;have D:=!C;exact Calls.call_len_list N.isList (by erw[bu]<;>lk) ⟨.int !ys,H,I.tok _,⟨s.toks+1,by rw[bu,D]⟩,q⟩
 .let(A,C,N,G):=I.tuple T;have D:=!C;calc len_tuple N (by erw[bu]<;>lk) ⟨.int !ys,H,I.tok _,⟨s.toks+1,by rw[bu,D]⟩,q⟩
def Rg:cU X (.builtin "len") (λxs H Q=>∃z,xs=[.str z]/\(!z)<=sizeLine/\Q (.int !z) H):=by intro A s G H xs E Q I r h;let(z,rfl,D,q):=h;let(u,rfl,t,rfl):=vals1 r;have C:=sU;calc len_str ∅ ⟨.int !z,H,I.tok _,⟨_,rfl⟩,q⟩
def Rh:cU X (.type "list") (λxs H Q=>∃p ys,xs=[.ref p]/\(aU X.K H p ys\/cF X.K H p ys)/\∀l,H l=none->Q (.ref l) (upd H l<|.lst ys)):=by
 intro M s m H xs t Q I r h;let(p,ys,rfl,T,q):=h;let(u,rfl,k):=vals1 r;cases k;have E:∀(A:¬Value),Vals ys A->(!ys)<=sizeLine->∀(g:Heap) (C:Nat),(∀b j,s.heap b=#[j]->g b=#[j])->
   g (~~~s)=some {cls:=.type "list",dict:=none,data:=.seq A.toArray C,slots:=#[]}->EP X M m Q (.ref (~~~s)) {s with heap:=g}:=λA D J g C L e=>
  (.ref (~~~s),_,I.laid (t':=s.toks) L (av _)<|show fU X.prog X.w _ g _ (.lst ys) from(J,A,C,D,e),rfl,q _<|I.hok.fresh<|av _)
 rcases T with T|T
 .let(A,D,Y,J):=I.list T;have G:=!D;let(o,U,O,n,N):=Y.isList;exact call_list_seq p (.inl rfl) U O N (λg C L e=>E A D J g C L e) (by erw[bu]<;>lk)
 .let(A,D,Y,J):=I.tuple T;have G:=!D;let(o,U,O,n,N):=Y;calc call_list_seq p (.inr rfl) U O N (λg C L e=>E A D J g C L e) (by erw[bu]<;>lk)
def tyV (K:Frag)(T:String)(x:V)(H:Hp):Prop:=match x with
 |.str _=>T="str"
 |.int _=>T="int"
 |.ref p=>(T="list"/\∃D,aU K H p D)\/(T="tuple"/\∃o,K.lookup p=#[o]/\o.cls=.type "tuple"/\o.dict=none)\/
  (T="dict"/\∃A,H p=#[.dK A])
 |_=>False
def aaj (I:Inv X D Y H s)(r:RelV x v)(A:tyV X.K T x H):
  s.TypeIs v T/\∀a,v=.ref a->∃ob,s.heap a=#[ob]/\ob.dict=none:=by
 cases x with
 |str z=>
  let(t,rfl):=r;cases(show T="str" from A);calc⟨ii s z t,λ_ e=>nomatch e⟩
 |int i=>
  let(t,rfl):=r;cases(show T="int" from A);calc⟨typeIs_int s i t,λ_ e=>nomatch e⟩
 |ref p=>
  cases r;rcases A with⟨rfl,U,J⟩|⟨rfl,o,M,O,G⟩|⟨rfl,Q,M⟩
  .let(L,_,N,_):=I.list J;refine⟨N.isList.typeIs,λa e=>?_⟩;k_go;let(o,n,e,c,G,_):=N;exact⟨o,e,G⟩
  .refine⟨⟨o,I.o9 p o M,O⟩,λa e=>?_⟩;k_go;exact⟨o,I.o9 _ o M,G⟩
  .let(_,_,_,_,o,_,_,e,C,_):=I.hok p _ M;refine⟨⟨o,e,C.1⟩,λa E=>?_⟩;cases E;calc⟨o,e,C.2.1⟩
 |_=>calc False.elim A
def qK (K:Frag)(T:String)(r:V->¬V->Hp->VK->Prop)(G:TE):TE:=λA H Q=>G A H λx E=>tyV K T x E/\r x [] E Q
def pN (K:Frag)(T:String)(r:V->¬V->Hp->VK->Prop)(G:TE)(t:TA):TE:=λA H Q=>G A H λx E=>tyV K T x E/\t A E λD J=>r x D J Q
variable {T id:String}
def Ay (j:PlainAttrs T)(slot:Slot T name id)(J:typeOf (.builtin id)=pure (.type "method_descriptor"))(U:uo X id r)(Y:PE X o l)
  (C:(attributeBase o name X.env (eval o X.env)=eval o X.env)∣0)(D:((E.endLine==G.line)=true)∣0):PE X (.Call (.Attribute o name E) [] [] G) (qK X.K T r l):=by
 intro A s N H Q I h;refine wpAny_Call_method0_late C D<|aY (Y A s N H _ I h) ?_;rintro v g ⟨x,O,L,M,m,k⟩;let(h1,h2):=aaj L M m;calc(T,id,j,slot,J,h1,h2,ki rfl<|PySem.evalArgs_none<|U A g N O x [] v [] Q L M .nil k)
def oF (y:PlainAttrs T)(slot:Slot T name id)(N:typeOf (.builtin id)=pure (.type "method_descriptor"))(p:uo X id r)(q:PE X o n)(m:PA X (e::D) t)
  (E:(attributeBase o name X.env (eval o X.env)=eval o X.env)∣0)
  (M:((backTo G (starEach (e::D) X.env)).all (λx=>not x.1) && (backToKw G (keywordEach [] X.env)).all (λx=>x.1.isSome)
   && decide ((!(e::D))+(!([]:¬Keyword))+(if([]:¬Keyword).isEmpty then 0 else 1)<30))=true:=by rfl)
  (J:((L.endLine==G.line)=true)∣0)(u:(starEach (e::D) X.env=(false,eval e X.env)::starEach D X.env)∣0)(C:((backTo G<|starEach D X.env).any (·.1)=false)∣0):
  PE X (.Call (.Attribute o name L) (e::D) [] G) (pN X.K T r n t):=by
 intro A s O H Q I h;refine wpAny_Call_method_late E M J rfl<|aY (q A s O H _ I h) ?_;rintro v d ⟨x,k,U,j,w,z⟩;let(h1,h2):=aaj U j w;refine(T,id,y,slot,N,h1,h2,?_);have Y:=m G A d O k _ U z;rw[u] at Y ⊢;refine ki (by show(false||(backTo G<|starEach D X.env).any (·.1))=false;rw[C]<;>rfl) (Calls.evalArgs_plain ?_);refine aY Y ?_;rintro a f ⟨i,g,l,c,b⟩;calc p A f O g x i v a Q l j c b
end
def MtM (X:Cx)(id:String)(r:V->¬V->Hp->VK->Prop):Prop:=
 ∀(A:¬(Addr×Obj)) (s:Shared) (B:St) (H:Hp) (x:V) (D:¬V) (v:Value) (C:¬Value) (Q:VK),Inv X A B H s->RelV x v->Vals D C->r x D H Q->
  (X.prog\X.w) X.A (call (.builtin id) (v::C)) (EP X A B Q) NE s
def Vals.one (h:Vals [x] us):∃u,us=[u]/\RelV x u:=by
 cases h with
 |cons r t=>cases t;calc(_,rfl,r)
def Vals.zero (h:Vals [] us):us=[]:=by cases h;rfl
theorem foldl_rep (A:¬Value):∀(k:Nat) (acc:¬Value),
  foldl (λx1 x2=>x1++x2) acc.toArray (replicate k A.toArray)=(acc++(replicate k A).flatten).toArray
 |0,acc=>by simp
 |k+1,acc=>by
  have e:acc.toArray++A.toArray=(acc++A).toArray:=by simp
  have G:(acc++A)++(replicate k A).flatten=acc++(replicate (k+1) A).flatten:=by grind
  rw[<-G,←foldl_rep A k (acc++A),←e,kt,eQ]
section
variable {xs ys zs:¬V}
def Inv.anP {A its':¬Value}{n:Nat}{f:Array Value->Array Value}{t':Nat}(I:Inv X B L H s)(C:H l=#[.lst xs])
  (e:s.heap l=some {cls:=.type "list",data:=.seq A.toArray n})(E:f A.toArray=its'.toArray)(M:Vals ys its')(J:(!ys)<=sizeLine):
  Inv X B L (upd H l<|.lst ys) {s with heap:=s.heap.update l<|Obj.mapSeq f,toks:=t'}:=by
 have q:=PySem.IsL.update e f;rw[E] at q;refine I.write (x:=l) (e:=l) (by rw[C];calc trivial) (.inl rfl) (λN u D G=>(ck s.heap (Obj.mapSeq f)<|ci D).trans G) ⟨_,q⟩ ?_;calc⟨J,its',_,M,q⟩
def Inv.X6 (I:Inv X B D H s)(M:Vals ys A)(C:(!ys)<=sizeLine):
  Inv X B D (upd H (~~~s)<|.lst ys) {s with heap:=s.heap.push {cls:=.type "list",data:=.seq A.toArray},toks:=t'}:=
 I.laid (λ_ _ q=>ar _ q) (av _) (C,A,0,M,bc _ rfl)
theorem Inv.fresh (I:Inv X A B H s):H (~~~s)=none:=I.hok.fresh<|av _
def Inv.X7 (I:Inv X B D H s)(C:H l=#[.lst xs]):(!xs)<=sizeLine/\∃(A:¬Value) (n:Nat),Vals xs A/\(!xs)=!A/\s.heap l=some {cls:=.type "list",data:=.seq A.toArray n}:=by let(z,A,n,r,e):=I.hok l _ C;calc(z,A,n,r,!r,e)
def acH (h:n<=sizeLine):Builtin.List.listTooLong n=false:=by delta Builtin.List.listTooLong;lk
end
section
def agl:V->¬V->Hp->VK->Prop:=λx J H Q=>∃l D y,x=.ref l/\J=[y]/\H l=#[.lst D]/\(!D)<sizeLine/\Q .non (upd H l<|.lst<|D++[y])
def MK:MtM X "list.append" agl:=by intro B s T H x M v J Q I L G h;let(l,O,y,rfl,rfl,C,E,q):=h;cases L;let(u,rfl,D):=G.one;let(z,A,n,r,N,e):=I.X7 C;refine ik F.slot_list_append ⟨_,e,rfl⟩ F.entry_list_append (F.args_list_append_2 _ _) (PySem.list_append l A.toArray n u (by rw[bu];lk)) ⟨e,?_⟩;refine⟨.non,_,I.anP (its':=A++[u]) C e 's' (r.append<|.cons D .nil) ?_,rfl,q⟩;grind
def anQ:R2:=λx y H Q=>∃l b D zs,x=.ref l/\y=.ref b/\H l=#[.lst D]/\H b=#[.lst zs]/\(!D)+(!zs)<=sizeLine/\∀p,H p=none->Q (.ref p) (upd H p<|.lst<|D++zs)
def ahW:cB X (binaryOp .Add) anQ:=by
 intro C s k H x y v u Q I M N h;let(l,b,U,zs,rfl,rfl,E,D,T,q):=h;cases M;cases N;let(z,B,n,r,O,e):=I.X7 E;let(j,A,Y,m,L,G):=I.X7 D;refine PySem.P.add_list e G ?_ (by rw[bu,bu];lk);have J:B.toArray++A.toArray=(B++A).toArray:=by simp
 rw[J];calc(.ref _,_,I.X6 (t':=s.toks) (r.append m) (by rw[aE];lk),rfl,q _ I.fresh)
def ahX:R2:=λx y H Q=>∃l k D,x=.ref l/\y=.int k/\H l=#[.lst D]∧-(2^63)<=k/\k<2^63/\(!D)*k.toNat<=sizeLine/\
 ∀p,H p=none->Q (.ref p) (upd H p<|.lst (replicate k.toNat D).flatten)
def len_rep (xs:¬A)(k:Nat):(replicate k xs).flatten.length=k*!xs:=by simp
def aak:cB X (binaryOp .Mult) ahX:=by
 intro M s d H x y v u Q I g o h;let(l,k,c,rfl,rfl,O,h1,h2,L,q):=h;cases g;let(t,rfl):=o;let(z,A,n,r,j,e):=I.X7 O;have E:A.toArray.size*k.toNat<=sizeLine:=by rw[bu,←j];exact L
 have C:Not (A.toArray.size*k.toNat>(2^63 - 1)/8):=by
  have:(sizeLine:Nat)<=(2^63 - 1)/8:=by decide
  lk
 have D:Not ((not (Builtin.List.listFitsIndex k))=true):=by rw[fitsIndex_both h1 h2];simp
 have B:Not (Builtin.List.listTooLong (A.toArray.size*k.toNat)=true):=by rw[acH E];simp
 have G:foldl (λJ Y=>J++Y) #[] (replicate (if A.toArray.isEmpty=true then 0 else k.toNat) A.toArray)=(replicate k.toNat A).flatten.toArray:=by
  have N:∀m:Nat,foldl (λJ Y=>J++Y) #[] (replicate m A.toArray)=(replicate m A).flatten.toArray:=λm=>by have:=foldl_rep A m [];grind
  rw[N];cases A with
  |nil=>simp
  |cons a b=>rfl
 refine wpAny_binaryOp_repeat_ref (T:="list") (U:="int") ⋯ ⟨_,e,rfl⟩ (λp=>typeIs_int p k t) noFill_list_mul F.fills_int_mul F.slot_int_rmul repeat_list F.slot_int_index.lookup
  (ik F.slot_int_rmul (typeIs_int s k t) F.entry_int_rmul (F.args_int_rmul_2 _ _) (int___rmul___int_list k t l A.toArray n)
   ⟨e,rfl,⟨_,e,rfl⟩,ik F.slot_list_mul ⟨_,e,rfl⟩ F.entry_list_mul (F.args_list_mul_2 _ _) (AutoListH.list___mul___list_int_3 l A.toArray n k t D C B) ⟨e,?_⟩⟩)
 rw[G];calc⟨.ref _,_,I.X6 (t':=s.toks) (r.rep k.toNat) (by rw[len_rep,Nat.mul_comm];calc L),rfl,q _ I.fresh⟩
end
section
variable {s:Shared}
end
section
end
end L2
namespace Att
open PySem.W PySem.Calls PyProof.Rows
def Ht {P:Params}{h:Heap}:∀(ns:¬Int) (vs:¬Value),WellAll P h vs (ns.map WData.int)->IntsAre vs ns:=by
 intro ns;induction ns with
 |nil=>
  intro vs w;rw[fx] at w;cases w;calc .nil
 |cons n ns A=>
  intro vs w;rw[aT] at w;cases w with
  |cons a b=>cases a;calc .cons _ _<|A _ b
def aal {l:OpenLaw}{n:Nat}(H:l.most=#[n]){P:Params}{h:Heap}{args:¬WData}{vals:¬Value}
  (A:l.row.toRowW.claim.pre args=true)(E:WellAll P h vals args):
  ∃a vs ns,vals=[Value.ref a]/\args=[WData.list<|ns.map WData.int]/\h a=some {cls:=.type "list",data:=.seq vs.toArray}/\IntsAre vs ns/\(!ns)<=n:=by
 have C:WShape.hasAll [] args [.list .int]=true:=(pre_splitW A).1;have O:l.pre.holds [] {args:=args}=true:=(pre_splitW A).2;let(d,r,rfl,h1,h2):=hasAllW_cons C;obtain rfl:=hasAllW_nil h2;let(L,rfl,J):=hasW_list h1;let(ns,rfl):=items_int J;have D:(!ns)<=n:=by
  delta OpenLaw.pre at O;have M:(WTm.not<|.lt (.lit<|.int (n:Int))<|.len<|.arg 0).holds [] {args:=[.list<|ns.map .int]}=true:=by have M:=(holds_andW O).1;lk
  have k:=condW_of M<|w_not<|w_lt w_lit<|w_len_list<|w_arg rfl;grind
 cases E with
 |cons x G=>
  cases G;cases x with
  |list I B=>calc(_,_,ns,rfl,rfl,I,Ht ns _ B,D)
def aam (l:OpenLaw)(args:¬WData):l.row.toRowW.claim.post args (.bool true) args=true:=
 postW_of (r:=l.row.toRowW) (X:=(true==true))
  (show WShape.has [] (.bool true) .bool=true by first|rfl|decide|simp[WShape.has,WShape.arms,WShape.armsAll])
  (show(WTm.eq .res<|.lit<|.bool true).value [] {args:=args,res:=#[.bool true],after:=args}=#[.bool<|true==true] from w_eq_bool (w_res rfl) w_lit) rfl
def Vh {l:OpenLaw}{n:Nat}{q:Program}{A:¬Str}{g:(Str->↑Value)->Heap->Prop}{m:World->Heap->Prop}{d:DefRec}
  (x:l.most=#[n])(Q:d.params.defaults=[])
  (call:∀(w:World) (B C:Shared) (M j:Str->↑Value) (H:Addr) (o:Obj) (k p D:Value) (a:Addr) (vs:¬Value) (ns:¬Int),
   Ground q A [] g w B M j C.heap->m w C.heap->
   C.heap H=#[o]->o.data=.func (docDef d.name d.params d.body d.scope k p D)->C.heap.CodeRec p d.name->M d.name=#[.ref H]->
   C.heap a=some {cls:=.type "list",data:=.seq vs.toArray}->IntsAre vs ns->(!ns)<=n->C.gens= #[]->
   codeAny (model l.prog w) callerA (.call (.ref H) ⟨[.ref a],[]⟩) (λr N=>r=.ok (.ret (.bool true))/\OldK C.heap N.heap/\N.os=C.os/\AllBare N.gens) C):
  WalkO q A g m l.row.toRowW d [] (λf vs=>PySem.call f vs):=by
 intro w B C M j G Y H o k p D u kV i z O hD T b args vals as L t e U c;obtain rfl:u=.none:=Dflts.none hD Q;obtain rfl:kV=.none:=Dflts.noKw hD;let(a,vs,ns,rfl,rfl,J,E,I):=aal x L U;refine enter_call<|ic (call w B C M j H o k p D a vs ns G Y i (fd_plain z) O T J E I b) λr N h=>?_;let(rfl,h2,v,y):=h;calc⟨.inl ⟨.bool true,.bool true,[],rfl,λ_=>rfl,.bool true,aam l _,λ_=>⟨List.Pairwise.nil,λ_ s=>(nomatch s)⟩⟩,h2,v,y⟩
section
variable {K:Frag}
end
end Att
namespace L2
open PyProof.Rows
def aan (h:IntsAre vs ns):Vals (ns.map V.int) vs:=by
 induction h with
 |nil=>calc .nil
 |cons n t _ A=>calc .cons ⟨t,rfl⟩ A
def Only (H:Hp):Prop:=∀b,H b=none\/∃o D,H b=#[.dR o<|.lst D]
def acI {P:Program}{w:World}{K:Frag}{T c:Str->↑Value}{k:Nat}{j a:Addr}{fd:FuncData}{x:Str}{sp:Sp}{C:Shared}{vs:¬Value}{ns:¬Int}
  (KX:K.In C.heap)(N:C.heap.Ns mainGlobals T)(I:C.heap.Ns builtinsNs c)(l:∀x:Str,x≠"__name__"->c x=bootBuiltins x)(M:C.heap.NoLimit)(hg:C.gens= #[])
  (g:C.heap a=some {cls:=.type "list",data:=.seq vs.toArray})(hi:IntsAre vs ns)(hl:(!ns)<=sizeLine)(hr:cW k callerA)
  (F:∀D:Heap,K.In D->D.Ns mainGlobals T->jK P w K T D k j fd [x] sp)(G:∀(s:Shared) (u:Value),BindsTo s fd ⟨[u],[]⟩ [(x,u)])
  (t:∀H:Hp,Only H->aU K H a (ns.map V.int)->sp [.ref a] H λv _=>v=.bl true):
  codeAny (model P w) callerA (.call (.ref j) ⟨[.ref a],[]⟩) (λr E=>r=.ok (.ret<|.bool true)/\OldK C.heap E.heap/\E.os=C.os/\AllBare E.gens) C:=by
 have rv:=aan hi;have Q:=!hi;have core:∀H:Hp,Only H->aU K H a (ns.map V.int)->jP P w H C.heap->(∀b,H b≠none->b=a)->(H a≠none->K.lookup a=none)->
   codeAny (model P w) callerA (.call (.ref j) ⟨[.ref a],[]⟩) (λr E=>r=.ok (.ret<|.bool true)/\OldK C.heap E.heap/\E.os=C.os/\AllBare E.gens) C:=by
  intro H hO hS y hA hK;have A:∀{b:Addr}{o:Obj},C.heap b=#[o]->H b=none->(yP C.heap H) b=#[o]:=λe n=>acj e n;have f:∀{b:Addr}{o:Obj} {Y:Array DictEntry} {U:Nat},C.heap b=#[o]->o.data=.dict Y U->H b=none:=λ{b o Y U} e d=>by grind
  have B:∀{b:Addr}{m:Str->↑Value},C.heap.Ns b m->(yP C.heap H).Ns b m:=λ{b m} ⟨o,Y,U,e,d,r⟩=>⟨o,Y,U,A e (f e d),d,r⟩;have L:K.In (yP C.heap H):=λb o e=>A (KX b o e) (by
   grind)
  have hM:Mod K T (yP C.heap H):=⟨L,B N,⟨c,B I,l⟩,let⟨mc,h1,h2⟩:=M;⟨mc,B h1,h2⟩⟩;have e0:FZ P w K T (yP C.heap H) callerA [] C H:=⟨rfl,hM,λb o e=>agc e,p5<|ZQ _ _,trivial,λb I=>absurd (show b∈([]:¬Addr) from I) 's',y,.of_eq hg⟩;refine ic ((F _ L<|B N).run callerA [] C H ⟨[.ref a],[]⟩ [.ref a] [.ref a] _ hr e0 (G C<|.ref a) (.cons rfl .nil)<|t H hO hS) λr E h=>?_;cases r with
  |error e=>calc h.elim
  |ok fl=>
   cases fl with
   |next=>calc False.elim h
   |brk=>calc False.elim h
   |cont=>calc False.elim h
   |ret u=>
    let(v,H',os,J,un,O,r',q):=h;have q':v=.bl true:=q;subst q';obtain rfl:u=Value.bool true:=r';refine⟨rfl,OldK.of_keep λb o e=>?_,os,J⟩;cases q:H b with
    |none=>calc un.keep b o e q (by intro z;calc absurd (show b∈([]:¬Addr) from z) 's') 's'
    |some u=>
     rcases hO b with z|⟨ob,xs,z⟩
     .rw[q] at z;cases z
     .have z2:=un.tY b ob _ z;let(e1,_):=y b _ z;let(e2,_):=O b _ z2;rw[e] at e1;cases e1;exact e2
 cases p:K.lookup a with
 |some o=>
  have e:=KX a o p;rw[g] at e;k_go;refine core (λ_=>none) (λ_=>.inl rfl) (.inr ⟨_,vs.toArray,_,p,rfl,rfl,rfl,by rw[bu,Q];calc hl,by simpa using rv⟩) (λb u z=>by have i:(none:↑HO)=#[u]:=z;cases i) (λb z=>absurd rfl z) λz=>absurd rfl z
 |none=>
  refine core (λb=>if b=a then #[.dR {cls:=.type "list",data:=.seq vs.toArray}<|.lst<|ns.map V.int] else none) (λb=>?_) (.inl<|.inr ⟨{cls:=.type "list",data:=.seq vs.toArray},ap rfl⟩) (λb u z=>?_) (λb z=>?_) λ_=>p
  .grind
  .by_cases I:b=a
   .have i:=(ap I).symm.trans z;cases i;subst I;exact⟨g,by rw[ac];calc hl,vs,_,rv,g⟩
   .omega
  .omega
def agm {l:PySem.W.OpenLaw}{n k:Nat}{q:Program}{B:¬Str}{p:(Str->↑Value)->Heap->Prop}{O:World->Heap->Prop}{d:DefRec}{K:Params->Frag}{U:World->Sp}{x:Str}
  (e:l.most=#[n])(M:n<=sizeLine)(Q:d.params.defaults=[])(hr:cW k callerA)
  (z:∀(w:World) (h:Heap),O w h->(K w.params).In h)
  (F:∀(w:World) (C:Str->↑Value) (I:Addr) (h:Heap),(K w.params).In h->h.Ns mainGlobals C->C d.name=#[.ref I]->
   ∃L:FuncData,(∀(s:Shared) (u:Value),BindsTo s L ⟨[u],[]⟩ [(x,u)])/\
    ∀D:Heap,(K w.params).In D->D.Ns mainGlobals C->jK l.prog w (K w.params) C D k I L [x] (U w))
  (m:∀(w:World) (H:Hp) (a:Addr) (ns:¬Int),(!ns)<=n->Only H->aU (K w.params) H a (ns.map V.int)->U w [.ref a] H λv _=>v=.bl true):
  PySem.W.WalkO q B p O l.row.toRowW d [] (λf vs=>PySem.call f vs):=by
 refine Att.Vh e Q λw j g C mb I o pm cd r a vs ns G Y ho hd c T J E A i=>?_;have N:=z w _ Y;let(L,b,t):=F w C I _ N G.T.g T;calc acI N G.T.g G.T.b G.T.builtins G.T.nolimit i J E (cb A M) hr t b λH y hS=>m w H a ns A y hS
def inClass (s:Stmt)(j:Nat):Stmt:=match s with
 |.ClassDef _ _ _ E _ _ _ _ _ _ _=>E.getD j<|.Pass (0,0,0,0)
 |_=>.Pass (0,0,0,0)
def lR (s:Stmt):Arguments:=match s with
 |.FunctionDef _ a _ _ _ _ _ _ _ _=>a
 |_=>{posonlyargs:=[],args:=[],vararg:=none,kwonlyargs:=[],kw_defaults:=[],kwarg:=none,defaults:=[]}
def dU (s:Stmt):¬Stmt:=match s with
 |.FunctionDef _ _ b _ _ _ _ _ _ _=>b
 |_=>[]
def aP (s:Stmt):Scope:=match s with
 |.FunctionDef _ _ _ _ _ _ A _ _ _=>A
 |_=>{kind:=.function,names:=[],isGenerator:=false,isCoroutine:=false}
structure xU (K:Frag)(x qual:Str)(st:Stmt)(f:Addr)(fd:FuncData):Prop where
 ex:∃(oc:Value) (od:↑Addr) (kV doc pm:Value) (an:↑Addr) (cdv ct:Value) (osl:Array (↑Value)),
  fd=fnOf x qual (lR st) (dU st) (aP st) .none kV doc pm an cdv ct/\K.lookup f=#[(oc,od,.func fd,osl)]/\codeIn K cdv qual=true
 kp:keepIn K (.ref f)=true
section
variable {K:Frag}
def xU.ok {x C:Str}{st:Stmt}{f:Addr}{J:FuncData}{N ps:¬Str}{k:Nat}{I:Sp}(F:xU K x C st f J)(S:iz N ps (aP st))(len:∀vs H Q,I vs H Q->(!vs)=!ps)
  (T:∀(D:Value) (A:Around) (B:¬Env) (s:Shared) (H:Hp) (vs:¬V) (Q:VK),cW k (A.deeper (envOfC C (aP st) (~~~s) f D))->I vs H Q->
   ∃t,jl (gA P w K M E N C (aP st) f D A B s H) (dU st) t/\t {nx:=λ_ L=>Q .non L,rt:=Q} (start N vs) H):jK P w K M E (k+1) f J ps I:=by
 let(j,g,kV,Y,l,O,D,U,d,rfl,lk,G):=F.ex;calc akO lk G S len λA B s H vs Q hr m=>T D A B s H vs Q hr m
def xU.binds {x B:Str}{st:Stmt}{f:Addr}{A:FuncData}{ps:¬Str}(F:xU K x B st f A)
  (h:∀(kV Y k:Value) (O:↑Addr) (D U:Value) (us:¬Value),(!us)=!ps->bindArgs (fnOf x B (lR st) (dU st) (aP st) .none kV Y k O D U) ⟨us,[]⟩=pure (ps.zip us)):Binds A ps:=by
 let(j,E,kV,Y,k,O,D,U,d,rfl,lk,C):=F.ex;calc h kV Y k O D U
def aao {x B:Str}{st:Stmt}{f:Addr}{j:Value}{C O:↑Addr}{d:Array (↑Value)}{kV Y A D U:Value}(l:K.lookup f=#[⟨j,C,.func<|fnOf x B (lR st) (dU st) (aP st) .none kV Y A O D U,d⟩])
  (c:codeIn K D B=true)(k:keepIn K (.ref f)=true):xU K x B st f (fnOf x B (lR st) (dU st) (aP st) .none kV Y A O D U):=⟨⟨j,C,kV,Y,A,O,D,U,d,rfl,l,c⟩,k⟩
end
def dJ (hr:cW k A):A.units+1<cLine:=dL (Nat.add_le_add_left (by decide:1<=64) _) hr.units
def MN (h:n<=1000):n<sizeLine:=dL h<|by decide
section
end
def Same (H E:Hp):Prop:=∀b o,H b=#[o]->E b=#[o]
def Same.refl (H:Hp):Same H H:=λ_ _ h=>h
def Same.trans (a:Same H E)(b:Same E J):Same H J:=λc o h=>b c o<|a c o h
def Same.free (e:Same H E)(h:E l=Option.none):H l=Option.none:=by
 cases q:H l with
 |none=>rfl
 |some o=>rw[e l o q] at h;cases h
def Same.seq {K:Frag}{H E:Hp}{a:Addr}{xs:¬V}(e:Same H E)(h:aU K H a xs):aU K E a xs:=by
 rcases h with(h|⟨o,h⟩)|h
 .exact .inl<|.inl<|e _ _ h
 .exact .inl<|.inr ⟨o,e _ _ h⟩
 .calc .inr h
def PE.imp (h:PE X e t)(U:∀B H Q,t' B H Q->t B H Q):PE X e t':=λA s B H Q I q=>h A s B H Q I<|U B H Q q
section
variable {h':Heap}
def Inv.turns {fp:¬Addr}{t':Nat}(I:Inv X A M H s)(k:∀b o,Not (b∈fp)->s.heap b=#[o]->h' b=#[o])(C:∀b∈fp,qH X A H b):Inv X A M H {s with heap:=h',toks:=t'}:=by
 have L:∀b u,H b=#[u]->Not (b∈fp):=λb u e z=>by rw[(C b z).1] at e;k_go
 refine I.step (λb B=>⟨(C b B).2.2.2.1,(C b B).2.1,(C b B).2.2.2.2.1,(C b B).2.2.2.2.2⟩) (λb o _ _ O e _=>k b o O e) (λb o _ _ O e _=>⟨o.slots,k b o O e⟩) (λ_ _ _ _ n=>n)
  (λb o O e=>⟨o,k b o O e⟩) (λ_ _ e=>e) (λ_ _ _ e=>e) (λm G=>?_) (λb u e=>?_) I.bare
 .let(o,E,D,J,r):=G;exact⟨o,E,D,k _ o (λz=>(C _ z).2.1 rfl) J,r⟩
 .refine(I.hok b u e).stay (λc v O q=>k c v ?_ q) (λ_ q=>q) λ_ _ q=>q;grind
def Inv.Km {fp:¬Addr}{T:Addr}{o:HO}{t':Nat}(I:Inv X A Y H s)(k:∀b o,Not (b∈fp)->s.heap b=#[o]->h' b=#[o])(C:∀b∈fp,qH X A H b)(U: ~~~s<=T)
  (E:fU X.prog X.w (upd H T o) h' T o):Inv X A Y (upd H T o) {s with heap:=h',toks:=t'}:=by
 have D:=I.hok.fresh U;have N:∀b u,H b=#[u]->Not (b∈fp):=λb u e z=>by rw[(C b z).1] at e;k_go
 have neT:∀{b:Addr}{u:Obj},s.heap b=#[u]->b≠T:=λe=>c8<|bX (b8 e) U;refine I.step (λb B=>⟨(C b B).2.2.2.1,(C b B).2.1,(C b B).2.2.2.2.1,(C b B).2.2.2.2.2⟩) (λb o _ _ O e _=>k b o O e) (λb o _ _ O e _=>⟨o.slots,k b o O e⟩)
  (λb o _ e n=>by rw[au<|neT e];calc n)
  (λb o O e=>⟨o,k b o O e⟩) (λb Q e=>by rw[au<|aV e D];calc e) (λb _ _ e=>by rw[au<|aV e D];calc e) (λm L=>?_) (λb u e=>?_) I.bare
 .let(o,J,G,M,r):=L;exact⟨o,J,G,k _ o (λz=>(C _ z).2.1 rfl) M,r⟩
 .by_cases B:b=T
  .subst B;rw[ao] at e;k_go;exact E
  .rw[au B] at e;refine(I.hok b u e).stay (λc v O q=>k c v ?_ q) (λc q=>by rw[au<|aV q D];calc q) λc Q q=>by rw[au<|aV q D];exact q
   grind
end
def Ite (K:Frag)(a:Addr):It:=
  (λi H=>∃D x,aU K H a D/\D[i]? =#[x],
   λi H v E=>∃p x,H p=none/\v=.ref p/\(∀D,aU K H a D->D[i]? =#[x])/\E=upd H p (.tup [.int (i:Int),x]),
   λi H=>∃D,aU K H a D/\(!D)<=i)
def aap {P:Program}{w:World}{K:Frag}{E:¬Expr}{k:Nat}{pos:Pos}(a e C:Addr)(G:e≠C):
  Turn P w K (.Tuple E k pos) (Ite K a) [e,C] e (λi h=>(∃N,IsEnum h e C (i:Nat) N)/\h.IsListIter C a i) where
 mem:=by simp
 obj:=λi h st b B=>by
  let((N,Q),(o,e1,c,d)):=st;rcases bq.mp B with rfl|B
  .exact⟨_,Q,λv z=>by have z':Data.fields _=Data.cell v:=z;cases z'⟩
  .rw[aI.mp B];exact⟨o,e1,λv z=>by rw[d] at z;cases z⟩
 keep:=λi h h' st k=>by let((N,Q),st):=st;exact⟨⟨N,k e 's' _ Q⟩,st.at λo e=>k C 's' o e⟩
 item:=by
  intro X j t Y i M s σ H I O st m;subst j t Y;let((N,Q),A):=st;let(xs,x,T,f):=m;let(n,rv,p,hz):=I.list T;let(u,hu,ru):=rv.get f;refine wpAny_pyNext_enum_item Q A p.isList (x:=u) ‹hu› G λh' ho J hT hsz hk=>?_;refine⟨_,rfl,wpAny_letOwnedTupleGo_enum ho λh2 l D=>?_⟩;have L:e< ~~~s:=b8 Q;have g:h2 (~~~s)=some {cls:=.type "tuple",data:=.seq #[.int i s.toks,u]}:=(D.2 _<|lj L).trans hT;refine⟨.ref (~~~s),upd H (~~~s)<|.tup [.int (i:Int),x],?_,rfl,⟨_,x,I.hok.fresh<|av _,rfl,λys hy=>by rw[I.yQ hy T];calc f,rfl⟩,⟨⟨u,by simpa using l⟩,J.at λo y=>(D.2 C G.symm).trans y⟩,λb B=>?_⟩
  .refine I.Km (fp:=[e,C]) (λb o B q=>?_) O (av _) ⟨by show 2<=sizeLine;decide,[.int i s.toks,u],.cons ⟨_,rfl⟩<|.cons ru .nil,⟨_,g,rfl,_,rfl⟩⟩;have h1:b≠e:=λz=>B (by simp[z]);have U:b≠C:=λz=>B (by simp[z]);exact(D.2 b h1).trans<|hk b o h1 U q
  .have r:b≠s.heap.objs.size:=by
    rcases bq.mp B with rfl|B
    .exact c8 L
    .rw[aI.mp B];let(_,y,_):=A;exact c8<|b8 y
   rw[au r];exact(O b B).1
 done:=by intro X j t Y i M s σ H I O st m;subst j t Y;let((N,Q),A):=st;let(xs,T,f):=m;let(n,rv,p,hz):=I.list T;have hl:=!rv;refine wpAny_pyNext_enum_end I.ok.hd Q A p.isList (by simp;lk) λh' eb=>⟨rfl,I.turns (t':=s.toks) (fp:=[e,C]) (λb o B q=>eb b o (λz=>B<|by simp[z]) q) O⟩
 self:=λ_ _ _ _ _ st h=>by let((N,Q),_):=st;calc wpAny_pyIter_enum Q h
section
inductive aaq (K:Frag)(R:(It->Hp->Prop))(vs:¬V)(H1:Hp):Prop
 |mk:∀a,vs=[.ref a]->((∃xs,aU K H1 a xs))->R (Ite K a) H1->aaq K R vs H1
def X8 (K:Frag)(A:TA):TI:=λB H R=>A B H λJ E=>aaq K R J E
def VR {T:Pos}(hg:Gl X "enumerate")(U:X.mg "enumerate"=none)(N:PA X [l] y)(j:(starEach [l] X.env=[(false,eval l X.env)])∣0):
  PI X (.Tuple J k T) (.Call (.Name "enumerate" p) [l] [] G) (X8 X.K y):=by
 intro B s z H R I h;refine Call_<|pK I hg U boot_enumerate<|cy (aY (N G B s z H _ I h) ?_) j rfl;rintro n O ⟨w,M,D,u,t⟩;let(a,e,(x,Y),q):=t;subst e;cases u with
 |cons r v=>
  cases v;cases r;let(m,f,o,d):=D.list Y;refine call_enumerate_list o.isList λc L hI g Q=>?_;refine wpAny_pyIter_enum L ?_;have E: ~~~O+1≠O.heap.objs.size:=Nat.succ_ne_self _;refine⟨_,[~~~O+1,~~~O],_,_,M,rfl,D.kept Q,aap a _ (~~~O) E,⟨⟨.none,L⟩,hI⟩,λb C=>?_,q⟩;have A: ~~~O<=b:=by
   rcases bq.mp C with rfl|C
   .exact kx _
   .rw[aI.mp C];exact av _
  calc D.uU A<|D.hok.fresh A
end
theorem yW:∀(names:¬(Str×NameKind)) (acc:¬(Str×Addr)),(∀y∈names,y.2=.free->∃c,env.cells.lookup y.1=#[c])->(∀x c,acc.lookup x=#[c]->env.cells.lookup x=#[c])->
  ∃A:¬(Str×Addr),(forIn names acc λ(x:Str×NameKind) (r:¬(Str×Addr))=>(match x with|(name,B)=>if(B==NameKind.free)=true then do let c<-cellOf env name;pure (ForInStep.yield ((name,c)::r)) else pure (ForInStep.yield r):Sem (ForInStep<|List<|Str×Addr)):Sem (List<|Str×Addr))=pure A/\
   (∀x c,A.lookup x=#[c]->env.cells.lookup x=#[c])/\(∀x,(x,NameKind.free)∈names->∃c,A.lookup x=#[c])/\∀x c,acc.lookup x=#[c]->∃C,A.lookup x=#[C]
 |[],acc,_,G=>⟨acc,rfl,G,λ_ h=>(nomatch h),λx c h=>⟨c,h⟩⟩
 |(n,k)::r,acc,E,G=>by
  by_cases M:k=.free
  .subst M;let(c,O):=E (n,.free) ae rfl;have D:∀x C,((n,c)::acc).lookup x=#[C]->env.cells.lookup x=#[C]:=λx C h=>by grind
   let(A,e,h1,h2,J):=yW r ((n,c)::acc) (λy H=>E y<|af _ H) D;refine⟨A,?_,h1,λx I=>?_,λx C I=>?_⟩
   .rw[j0];have L:cellOf env n=pure c:=by delta cellOf;rw[O]
    grind
   .grind
   .grind
  .let(A,e,h1,h2,J):=yW r acc (λy H=>E y<|af _ H) G;grind
def OJ (C:∀y∈scope.names,y.2=.free->∃c,env.cells.lookup y.1=#[c]):
  ∃A:¬(Str×Addr),closureFor scope env=pure A/\(∀x c,A.lookup x=#[c]->env.cells.lookup x=#[c])/\∀x,(x,NameKind.free)∈scope.names->∃c,A.lookup x=#[c]:=by
 let(A,e,h1,h2,_):=yW scope.names [] C (λx c h=>by simp at h);refine(A,?_,h1,h2);refine Eq.trans (cw (λq=>q>>= λc=>pure c) e) ?_;rfl
theorem uV {scope:Scope}{env:Env}:∀{names:¬(Str×NameKind)},(names.map λ(n,k)=>if(k==NameKind.free && env.scope.kind==.function && env.kindOf n==some .cell) then(n,NameKind.cell) else(n,k)).lookup x=#[k]->
  ∃C,(x,C)∈names/\(k=C\/(C=.free/\k=.cell))
 |[],h=>by simp at h
 |(n,j)::r,h=>by
  have g:List.lookup x ((if(j==NameKind.free && env.scope.kind==.function && env.kindOf n==some .cell)=true then(n,NameKind.cell) else(n,j))::(r.map λ(n,k)=>if(k==NameKind.free && env.scope.kind==.function && env.kindOf n==some .cell) then(n,NameKind.cell) else(n,k)))=#[k]:=h;by_cases O:(j==NameKind.free && env.scope.kind==.function && env.kindOf n==some .cell)=true
  .rw[ap O,qk] at g;cases A:x==n with
   |true=>
    rw[A] at g;cases g;have D:j=.free:=by erw[bj] at O;exact gi O.1.1
    rw[gi A];calc⟨.free,by rw[D];calc ae,.inr ⟨rfl,rfl⟩⟩
   |false=>rw[A] at g;let(C,B,q):=uV (scope:=scope) (env:=env) (names:=r) g;exact⟨C,af _ B,q⟩
  .rw[aw O,qk] at g;cases A:x==n with
   |true=>
    rw[A] at g;cases g;rw[gi A];calc⟨_,ae,.inl rfl⟩
   |false=>rw[A] at g;let(C,B,q):=uV (scope:=scope) (env:=env) (names:=r) g;calc⟨C,af _ B,q⟩
theorem uW {env:Env}{x:Str}:∀{names:¬(Str×NameKind)},names.lookup x=some .free->
  (names.map λ(n,k)=>if(k==NameKind.free && env.scope.kind==.function && env.kindOf n==some .cell) then(n,NameKind.cell) else(n,k)).lookup x=some .cell\/
  (names.map λ(n,k)=>if(k==NameKind.free && env.scope.kind==.function && env.kindOf n==some .cell) then(n,NameKind.cell) else(n,k)).lookup x=some .free
 |[],h=>by simp at h
 |(n,j)::r,h=>by have A:=@uW env x r;grind
def ud (N:¬Str)(sc scope:Scope):¬Str->¬(↑Nat)->Bool
 |[],[]=>true
 |_::D,none::A=>ud N sc scope D A
 |x::D,#[j]::A=>(match N[j]? with|some y=>y==x|none=>false) && (match sc.names.lookup x with|some .cell=>true|some .free=>true|_=>false) &&
  (match scope.names.lookup x with|some .free=>true|_=>false) && ud N sc scope D A
 |_,_=>false
theorem yX:∀{xs:¬Str}{cs:¬(↑Nat)},ud N sc scope xs cs=true->(!cs)=!xs
 |[],[],_=>rfl
 |_::xs,none::cs,h=>cw (· +1)<|yX (xs:=xs) (cs:=cs) h
 |x::xs,#[j]::cs,h=>by erw[ud,bj] at h;calc cw (· +1)<|yX (xs:=xs) (cs:=cs) h.2
 |[],_::_,h=>by simp[ud] at h
 |_::_,[],h=>by simp[ud] at h
theorem Ko:∀{xs:¬Str}{cs:¬(↑Nat)},ud N sc scope xs cs=true->∀(i:Nat) (x:Str) (j:Nat),xs[i]? =#[x]->cs[i]? =#[#[j]]->
  N[j]? =#[x]/\(sc.names.lookup x=some .cell\/sc.names.lookup x=some .free)/\scope.names.lookup x=some .free
 |[],[],_,i,x,j,h,_=>by simp at h
 |_::xs,none::cs,h,0,x,j,_,h2=>by simp at h2
 |_::xs,none::cs,h,i+1,x,j,h1,h2=>Ko (xs:=xs) (cs:=cs) h i x j ‹h1› ‹h2›
 |y::xs,#[k]::cs,h,0,x,j,h1,h2=>by
  erw[ud,bj] at h;let(((a,b),c),_):=h;have B:y=x:=‹h1›
  have G:k=j:=‹h2›
  subst B G;refine(?_,?_,?_)
  .cases q:N[k]? with
   |none=>rw[q] at a;simp at a
   |some z=>rw[q] at a;rw[gi a]
  .cases q:sc.names.lookup y with
   |none=>rw[q] at b;simp at b
   |some z=>rw[q] at b;cases z<;>first|calc .inl rfl|calc .inr rfl|simp at b
  .cases q:scope.names.lookup y with
   |none=>rw[q] at c;simp at c
   |some z=>rw[q] at c;cases z<;>first|rfl|simp at c
 |y::xs,#[k]::cs,h,i+1,x,j,h1,h2=>by erw[ud,bj] at h;calc Ko (xs:=xs) (cs:=cs) h.2 i x j ‹h1› ‹h2›
 |[],_::_,h,_,_,_,_,_=>by simp[ud] at h
 |_::_,[],h,_,_,_,_,_=>by simp[ud] at h
def sW (N:¬Str)(sc scope:Scope)(N':¬Str)(cap:¬(↑Nat)):Bool:=
 ud N sc scope N' cap && (scope.kind==.function) && (scope.names.all λy=>y.2 !=.cell) &&
 (scope.names.all λy=>y.2 !=.local||scope.names.lookup y.1==some .local) &&
 (scope.names.all λy=>y.2 !=.free||sc.names.lookup y.1==some .cell||sc.names.lookup y.1==some .free)
def cR (cap:¬(↑Nat))(B:St):St:=cap.map λo=>match o with
 |none=>none
 |some j=>match B[j]? with
  |some v=>v
  |none=>none
def fK (X:Cx)(scope:Scope)(N':¬Str)(A:¬(Str×Addr))(C:Addr)(s:Shared)(H:Hp)(B:¬Addr):Cx:=
 {X with N:=N',s₀:=s,cQ:=H,env:=compEnvC scope A C X.env,outer:=X.stack,ex:=B,fn:=λ_=>false,pn:=[]}
section
variable {s:Shared}
def ahY {scope:Scope}(hB:sW X.N X.env.scope scope N' cap=true)(I:Inv X J σ H s)
  (D:∀x c,O.lookup x=#[c]->X.env.cells.lookup x=#[c])(c2:∀x,(x,NameKind.free)∈scope.names->∃c,O.lookup x=#[c])(M:∀b∈Y,qH X J H b)(hex:∀b∈Y,b< ~~~s)
  (hn:Yb.Ns (~~~s) m)(hk:∀b o,s.heap b=#[o]->Yb b=#[o]):
  Inv (fK X scope N' O (~~~s) s H Y) [] (cR cap σ) H {s with heap:=Yb,toks:=t'}:=by
 erw[sW,bj] at hB;let((((b1,b2),b3),b4),b5):=hB;have E:=gi b2;have B:∀y∈scope.names,y.2≠ .cell:=λy hy=>by have:=cp.mp b3 y hy;simpa using this
 have ok:(fK X scope N' O (~~~s) s H Y).Ok:=by
  refine⟨I.ok.mod,E,I.ok.glob,I.ok.blt,av _,λx y c Q T=>I.ok.inj x y c (D x c Q) (D y c T),λx hx=>?_,λx c e _=>(by k_go),I.ok.hd,I.ok.frames,.inl rfl,λb C=>⟨c8 (hex b C),λx c e=>(M b C).2.2.2.2.1 x c (D x c e)⟩,
   I.bs,cb I.ok.Mg I.sz,λb o e C=>?_,λb C g=>?_,I.stack,I.Vy⟩
  .have h:∃k,(relabel scope X.env).names.lookup x=#[k]/\(k=.cell\/k=.free):=by
    rcases hx with z|z
    .exact⟨.cell,z,.inl rfl⟩
    .exact⟨.free,z,.inr rfl⟩
   let(k,e,f):=h;let(k',w,q):=uV (scope:=scope) e;have ek:k'=.free:=by
    rcases q with q|q
    .rw[<-q];rcases f with z|z
     .exact absurd (q.symm.trans z)<|B _ w
     .exact z
    .exact q.1
   rw[ek] at w;exact c2 x w
  .rcases(M b C).2.2.2.1 with z|z
   .exact I.ok.acn b o e z
   .exact absurd (bX (bX (b8 e) I.ok.Mg) z)<|hZ _
  .rcases bq.mp (I.G5 b g) with z|z
   .exact(M b C).2.1 z
   .exact(M b C).2.2.1 z
 refine⟨ok,rfl,I.bare,Un.kept hk,⟨m,hn,λi x v Q T e3=>?_⟩,λx c e=>?_,I.hok.fresh<|av _,λx c e=>I.pJ x c<|D x c e,λp hp=>absurd (show p∈([]:¬(Addr×Obj)) from hp) 's',I.hok.kept hk,?_⟩
 .have A:=T;unfold cR at A;rw[ay] at A;cases U:cap[i]? with
  |none=>rw[U] at A;simp at A
  |some o=>
   rw[U] at A;cases o with
   |none=>simp at A
   |some j=>
    erw[map_some,eA] at A;have ej:σ[j]? =#[#[v]]:=by
     cases q:σ[j]? with
     |none=>rw[q] at A;simp at A
     |some z=>rw[q] at A;simp only at A;rw[A]
    let(q1,L,q3):=Ko b1 i x j Q U;let(m0,hn0,n):=I.loc;let(u,r,l):=n j x v q1 ej (by rcases L with z|z;calc .inr<|.inl z;calc .inr<|.inr z);refine⟨u,r,?_⟩;rcases l with⟨kl,_⟩|⟨_,c,hc,z⟩
    .have G:X.env.scope.names.lookup x=some .local:=kl;rcases L with L|L<;>(rw[L] at G;cases G)
    .let(o,a,d):=z;let(N,t):=c2 x (eL q3)
     have:N=c:=by have:=D x N t;rw[hc] at this;exact(bv this).symm
     subst this;exact .inr ⟨uW q3,N,t,o,hk _ _ a,d⟩
 .let(v,o,a,d):=I.cell x c<|D x c e;exact⟨v,o,hk _ _ a,d⟩
 .unfold cR;rw[ac];calc yX b1
end
def Dk:TT:=λ_ H Q=>Q true H
def nF (X:Cx)(B:¬Expr)(t:TT):Prop:=
 ∀(A:¬(Addr×Obj)) (s:Shared) (C:St) (H:Hp) (Q:Bool->Hp->Prop),Inv X A C H s->t C H Q->
  (X.prog\X.w) X.A (forIn B true λc r=>if r=true then do let N<-isTrue c X.env (eval c X.env);pure (ForInStep.yield N) else pure<|ForInStep.yield r) (TP X A C Q) NE s
def lU:nF X [] Dk:=λ_ _ _ H _ I h=>wpAny_tests_nil (H,I,h)
def V0 (h:PT X c t):nF X [c] t:=λA s B H Q I q=>wpAny_tests_one<|h A s B H Q I q
section
variable {s:Shared}
def Vi (I:Nat->Shared->Prop)
  (Y:∀n s,I n s->(prog\w) A (pyNext l) (λr C=>match r with
   |none=>R (.ok .next) C
   |some v=>(prog\w) A (letOwnedTupleGo B l v) (λ_ D=>(prog\w) A (assign B env v) (λ_ J=>
    (prog\w) A (forIn k true λc r=>if r=true then do let U<-isTrue c env (eval c env);pure (ForInStep.yield U) else pure (ForInStep.yield r)) (λU G=>
     if U=true then (prog\w) A (eval j env) (λx L=>
      (prog\w) A (call (.builtin "list.append") [acc,x]) (λ_ M=>∃m,m<n/\I m M) (λ_ _=>False) L) (λ_ _=>False) G
     else ∃m,m<n/\I m G) (λ_ _=>False) J) (λ_ _=>False) D) (λ_ _=>False) C) (λ_ _=>False) s)
  (n:Nat)(h:I n s):
  codeAny (model prog w) A (.compLoop (.ListComp j [⟨B,iter,k,0⟩] scope o) 0 l acc env) R s:=by
 refine codeAny_loop rfl I (λn s hI=>?_) n h;refine wpAny_noted ?_;rw[compTurn_list];refine aa<|oC<|aa<|eR (Y n s hI) (λr C E=>?_) λ_ _ g=>g.elim;cases r with
 |none=>calc ax E
 |some v=>
  refine aa<|eR E (λ_ D N=>aa<|eR N (λ_ J O=>aa<|eR O (λU G H=>?_) λ_ _ g=>g.elim) λ_ _ g=>g.elim) λ_ _ g=>g.elim;cases U with
  |false=>calc ax ⟨rfl,H⟩
  |true=>calc aa<|aa<|eR H (λx L Q=>aa<|eR Q (λ_ M T=>ax<|ax ⟨rfl,T⟩) λ_ _ g=>g.elim) λ_ _ g=>g.elim
end
def dD (a b:St):Prop:=∀(j:Nat) v,a[j]? =#[#[v]]->b[j]? =#[#[v]]
def dD.refl:dD a a:=λ_ _ h=>h
theorem dD.set (h:dD a b)(hi:a[i]? =#[none]):dD a (b.set i v):=λj u e=>by
 by_cases Y:j=i
 .omega
 .rw[bP<|ci Y];calc h j u e
def Gb (J:It)(cap:¬(↑Nat))(g:TG)(tc:TT)(te:TE)(I:St)(B:Hp)(Q:VK):Prop:=
 ∀D,B D=none->∃W:Nat->Nat->Hp->Prop,(∃m,W 0 m (upd B D<|.lst []))/\∀i m H,W i m H->
  (J.stop i H/\Q (.ref D) H)\/(J.go i H/\∀x E,J.Z5 i H x E->g x (cR cap I) E λG L=>dD (cR cap I) G/\tc G L λb C=>
   if b=true then te G C λy M=>∃A,M D=#[.lst A]/\(!A)<sizeLine/\∃U,U<m/\W (i+1) U (upd M D<|.lst<|A++[y])
   else ∃U,U<m/\W (i+1) U C)
def sX (D:TI)(cap:¬(↑Nat))(g:TG)(tc:TT)(te:TE):TE:=λB H Q=>D B H λJ E=>Gb J cap g tc te B E Q
section
variable {X:Cx}
def Ri {RR:Value->Addr->Result->Shared->Prop}(hB:sW X.N X.env.scope scope N' cap=true)
  (hg:∀Y C O M ex,PG (fK X scope N' Y C O M ex) tg g)(hi:∀Y C O M ex,nF (fK X scope N' Y C O M ex) ifs tc)(he:∀Y C O M ex,PE (fK X scope N' Y C O M ex) elt te)
  (c1:∀x c,Y.lookup x=#[c]->X.env.cells.lookup x=#[c])(c2:∀x,(x,NameKind.free)∈scope.names->∃c,Y.lookup x=#[c])
  (I:Inv X N σ H s)(T:Turn X.prog X.w X.K tg J fp it tn)(st:tn 0 s.heap)(hf:∀b∈fp,qH X N H b)(rd:Gb J cap g tc te σ H Q)
  (hRR:∀D C s' m G,Inv X N σ G s'->s'.heap.Ns C m->qH X N G C->Q (.ref D) G->RR (.ref D) C (.ok .next) s'):
  (X.prog\X.w) X.A (newList []) (λacc U=>(X.prog\X.w) X.A (newFunctionEnv scope X.env.globals Y [] X.env.qual none .none #[X.env]) (λahZ anR=>
   codeAny (model X.prog X.w) X.A (.compStart (.ListComp elt [⟨tg,iter,ifs,0⟩] scope pos) 0 (.ref it) acc {ahZ with scope:=relabel scope X.env}) (RR acc ahZ.locals) anR) E U) E s:=by
 have hB':=hB;erw[sW,bj] at hB';let((((b1,b2),b3),b4),b5):=hB';have kind:=gi b2;have ah0:∀y∈scope.names,y.2≠ .cell:=λy hy=>by grind
 have hfp:∀b∈fp,b< ~~~s:=λb B=>let⟨o,e,_⟩:=T.obj 0 _ st b B;b8 e;refine eP (wpAny_newFunctionEnv ah0 (by intro y hy;simp at hy) (λL k l=>?_) kind);dsimp only at k l ⊢;have I3:Inv X N σ (upd H (~~~s)<|.lst []) {s with heap:=s.heap.push {cls:=.type "list",data:=.seq ([]:¬Value).toArray},toks:=s.toks}:=I.X6 .nil<|cv _;generalize V1:({s with heap:=s.heap.push {cls:=.type "list",data:=.seq ([]).toArray},toks:=s.toks})=A at I3;have eh:A.heap=s.heap.push {cls:=.type "list",data:=.seq ([]).toArray}:=by rw[<-V1]
 have sz3: ~~~A=s.heap.objs.size+1:=by rw[eh,kr]
 let(W,(m0,w0),anS):=rd (~~~s)<|I.hok.fresh<|av _;have hf3:∀b∈fp,qH X N (upd H (~~~s)<|.lst []) b:=λb B=>⟨by rw[au<|c8<|hfp b B];calc(hf b B).1,(hf b B).2⟩;have ah1:∀b∈fp,b< ~~~A:=λb B=>by rw[sz3];exact Nat.lt_succ_of_lt<|hfp b B
 have a:L.Ns (~~~A) (λx=>([]).reverse.lookup x):=by rw[eh];exact k
 have old:∀b o,A.heap b=#[o]->L b=#[o]:=λb o e=>by refine l.extBut b o ?_ (ar _ (by rw[<-eh];calc e));rw[<-eh];exact c8<|b8 e
 have I4:=ahY (t':=s.toks) hB I3 c1 c2 hf3 ah1 a old;have anT:∀b o,s.heap b=#[o]->L b=#[o]:=λb o e=>old b o (by rw[eh];calc ar _ e);have V2:=T.keep _ _ _ st λb _ o e=>anT b o e;have eC:(s.heap.push {cls:=.type "list",data:=.seq ([]).toArray}).objs.size= ~~~A:=by rw[eh]
 have acJ:∀{G:Hp},(∀b∈fp,G b=none)->∀b∈fp,qH (fK X scope N' Y (~~~A) A (upd H (~~~s)<|.lst []) fp) [] G b:=λhn b B=>
  ⟨hn b B,c8 (ah1 b B),λz=>by
   rcases bq.mp (I3.G5 b z) with q|q
   .exact(hf b B).2.1 q
   .calc(hf b B).2.2.1 q,.inl B,λx c e=>(hf b B).2.2.2.2.1 x c (c1 x c e),λp hp=>absurd (show p∈([]:¬(Addr×Obj)) from hp) 's'⟩
 have ah2:∀U:Shared,U={s with heap:=L,toks:=s.toks+!([]:¬(Str×Value))}->
   codeAny (model X.prog X.w) X.A (.compLoop (.ListComp elt [⟨tg,iter,ifs,0⟩] scope pos) 0 (.ref it) (.ref (~~~s))<|compEnvC scope Y (~~~A) X.env) (RR (.ref (~~~s)) (~~~A)) U:=by
  rintro U rfl;refine Vi (λn s'=>∃i f G,Inv (fK X scope N' Y (~~~A) A (upd H (~~~s)<|.lst []) fp) [] f G s'/\(∀(j:Nat) v,(cR cap σ)[j]? =#[#[v]]->f[j]? =#[#[v]])/\tn i s'.heap/\(∀b∈fp,G b=none)/\W i n G) ?_ m0 ?_
  .rintro n s' ⟨i,f,G,I',wk,st',fr',w'⟩;have I'':=I'.weak (by rw[I'.len];show (!(cR cap σ))=!N';delta cR;rw[ac];calc yX b1) wk;rcases anS i n G w' with⟨stop,q⟩|⟨go,step⟩
   .refine aY (T.done (fK X scope N' Y (~~~A) A (upd H (~~~s)<|.lst []) fp) rfl rfl rfl i [] s' (cR cap σ) G I'' (acJ fr') st' stop) ?_;rintro r s4 ⟨hr,t⟩;subst hr;have u:=(Un.laid (λb o e=>by show A.heap b=#[o];rw[eh];calc ar _ e) (av _) (I.hok.fresh<|av _)).trans t.base;have IX:=I.call' (t.os.trans (by show A.os=s.os;rw[<-V1])) u t.hok t.bare λb B=>⟨(hf b B).2.2.2.1,(hf b B).2.1,(hf b B).2.2.2.2.1,(hf b B).2.2.2.2.2⟩;let(m',hm',_):=t.loc;exact hRR _ _ s4 m' G IX hm' (I.uU (by rw[sz3];calc kx _) t.free) q
   .refine aY (T.item (fK X scope N' Y (~~~A) A (upd H (~~~s)<|.lst []) fp) rfl rfl rfl i [] s' (cR cap σ) G I'' (acJ fr') st' go) ?_;rintro r s4 ⟨v,hr,h4⟩;subst hr;refine aY h4 ?_;rintro _ s5 ⟨x,H5,I5,r5,y5,V3,fr5⟩;have I5':=I5.pinned (acJ fr5)<|T.obj _ _ V3;refine aY (hg _ _ _ _ _ _ s5 (cR cap σ) H5 x v _ I5' r5<|step x H5 y5) ?_;rintro _ s6 ⟨QZ,H6,I6,kc6,q6⟩;refine aY (hi _ _ _ _ _ _ s6 QZ H6 _ I6 q6) ?_;rintro ok s7 ⟨H7,I7,q7⟩;have akQ:∀{s8:Shared}{σ8:St} {w:Hp},Inv (fK X scope N' Y (~~~A) A (upd H (~~~s)<|.lst []) fp) ([]++xR fp s5.heap) σ8 w s8->tn (i+1) s8.heap/\∀b∈fp,w b=none:=λ{s8 σ8 w} I8=>
     ⟨T.keep _ _ _ V3 λb B o e=>(I8.pin (b,o) (b6 _ (b6 _ (uy B e)))).1,λb B=>by
      let(o,e,d):=T.obj _ _ V3 b B;calc(I8.pin (b,o) (b6 _ (b6 _ (uy B e)))).2.1⟩
    have again:∀{s8:Shared}{w:Hp} {m':Nat},Inv (fK X scope N' Y (~~~A) A (upd H (~~~s)<|.lst []) fp) ([]++xR fp s5.heap) QZ w s8->m'<n->W (i+1) m' w->
      ∃m,m<n/\∃i f G,Inv (fK X scope N' Y (~~~A) A (upd H (~~~s)<|.lst []) fp) [] f G s8/\(∀j v,(cR cap σ)[j]? =#[#[v]]->f[j]? =#[#[v]])/\tn i s8.heap/\(∀b∈fp,G b=none)/\W i m G:=λ{s8 w m'} I8 lt w8=>by
     let(k1,k2):=akQ I8;exact⟨m',lt,i+1,QZ,w,I8.FQ,kc6,k1,k2,w8⟩
    cases ok with
    |false=>rw[aw bp] at q7 ⊢;let(m',lt,w8):=q7;calc again I7 lt w8
    |true=>rw[ap rfl] at q7 ⊢;refine aY (he _ _ _ _ _ _ s7 QZ H7 _ I7 q7) ?_;rintro y s8 ⟨vy,w,I8,ry,xs,hD,hz,m',lt,w8⟩;refine aY (@MK (fK ..) _ s8 QZ w (.ref (~~~s)) [vy] _ _ (λ_ G=>G=upd w (~~~s) (.lst<|xs++[vy])) I8 rfl (.cons ry .nil) ⟨_,xs,vy,rfl,rfl,hD,hz,rfl⟩) ?_;rintro _ s9 ⟨_,H9,I9,_,e9⟩;subst e9;exact again I9 lt w8
  .have eS:({A with heap:=L,toks:=s.toks})={s with heap:=L,toks:=s.toks+!([]:¬(Str×Value))}:=by rw[<-V1];rfl
   exact⟨0,cR cap σ,upd H (~~~s)<|.lst [],eS▸I4,λ_ _ h=>h,V2,λb B=>(hf3 b B).1,w0⟩
 rw[eC];calc codeAny_compStart_list (ah2 _ rfl)<|T.self _ 0 _ _ _ V2<|ah2 _ rfl
def MP (D:sW X.N X.env.scope scope N' cap=true):∀x∈scope.names,x.2=.local->scope.names.lookup x.1=some .local:=λy n e=>by erw[sW,bj] at D;have:=cp.mp D.1.2 y n;rw[e] at this;simpa using this
def Rj (D:sW X.N X.env.scope scope N' cap=true)(N:X.Ok):∃A:¬(Str×Addr),closureFor scope X.env=pure A/\(∀x c,A.lookup x=#[c]->X.env.cells.lookup x=#[c])/\∀x,(x,NameKind.free)∈scope.names->∃c,A.lookup x=#[c]:=by
 refine OJ λy n e=>N.has y.1 ?_;erw[sW,bj] at D;have:=cp.mp D.2 y n;rw[e] at this;erw[bne_self_eq_false,Bool.false_or,gX] at this;rcases this with z|z
 .exact .inl<|gi z
 .calc .inr<|gi z
def Dl (N:¬Str)(sc:Scope)(k:sW N sc scope N' cap=true)(l:X.N=N)(t:X.env.scope=sc)(p:PI X z iter wi)
  (hg:∀A C B M E,PG (fK X scope N' A C B M E) z g)(hi:∀A C B M E,nF (fK X scope N' A C B M E) u tc)(he:∀A C B M E,PE (fK X scope N' A C B M E) j te)
  (hs:(∀x,foldedSetIterable iter X.env x=pure x)∣4):PE X (.ListComp j [(z,iter,u,0)] scope pos) (sX wi cap g tc te):=by
 intro U s σ H Q I h;have L:sW X.N X.env.scope scope N' cap=true:=by rw[l,t];exact k
 have O:scope.kind=.function:=by erw[sW,bj] at L;exact gi L.1.1.1.2
 let(A,Y,n,w):=Rj L I.ok;rw[eval_ListComp];refine oQ rfl hs Y O (MP L)<|aY (p U s σ H _ I h) λv s1 h1=>aY h1 λitv s2 h2=>?_;let(it,fp,tn,J,H2,e,f,T,y,a,rd):=h2;subst e;refine Ri L hg hi he n w f T y a rd λD C s' m c d hm G q=>?_;calc(m,hm,λh' r=>(.ref D,c,d.turned (λb o i e=>(r.2 b i).trans e) G.1 G.2.1 G.2.2.2.1 G.2.2.2.2.1 G.2.2.2.2.2,rfl,q))
def mF (hN:X.N.Nodup)(f:X.N[i]? =#[y])(hy:Loc X.env.scope y)(N:¬Str)(sc:Scope)(r:sW N sc scope N' cap=true)(t:X.N=N)(hsc:X.env.scope=sc)(d:PI X tg iter wi)
  (hg:∀A C B M E,PG (fK X scope N' A C B M E) tg g)(hi:∀A C B M E,nF (fK X scope N' A C B M E) L tc)(he:∀A C B M E,PE (fK X scope N' A C B M E) j te)
  (hsw:(swapsWith (.ListComp j [(tg,iter,L,0)] scope pos) (#[.Name y Y]) U.line X.env=pure true)∣0)
  (hs:(∀x,foldedSetIterable iter X.env x=pure x)∣4)(hf:(X.fn y=true\/X.env.scope.names.lookup y=some .local)∣3):
  PS X (.Assign [.Name y Y] (.ListComp j [(tg,iter,L,0)] scope pos) U) (jq (sX wi cap g tc te)<|cg i):=by
 intro Q s σ H D I h;have k:sW X.N X.env.scope scope N' cap=true:=by rw[t,hsc];exact r
 have O:scope.kind=.function:=by erw[sW,bj] at k;lk
 let(A,p,c1,c2):=Rj k I.ok;rw[exec_Assign_Name_used _ _ _ _ hsw];refine aa (oC (aa ?_));refine aa (eR (oQ rfl hs p O (MP k)
  (aY (d Q s σ H _ I h) λv s1 h1=>aY h1 λitv s2 h2=>?_)) (λ_ s' hq=>ax (ax hq)) λ_ _ e=>e)
 let(it,fp,tn,J,H2,e,I2,T,VF,f2,rd):=h2;subst e;refine Ri k hg hi he c1 c2 I2 T VF f2 rd λDa C s' m H' I' hm G q=>?_;refine wpAny_assign_Name<|Mh (v:=.ref Da) I' hN f hy rfl ?_ hf;rintro s'' l ⟨a,w,c⟩;have u:C≠a:=by
  rcases c with z|z
  .rw[z];exact G.2.1
  .exact(G.2.2.2.2.1 y a z).symm
 refine(m,hm.sameBut w u,λh' n=>(σ.set i<|#[.ref Da],H',l.turned (λb o hb e=>(n.2 b hb).trans e) G.1 G.2.1 G.2.2.2.1 G.2.2.2.2.1 G.2.2.2.2.2,q))
end
def Pb (_ j:Int):Prop:=0<j/\j.natAbs.log2<9000
def Ph (i j:Int):Prop:=i.natAbs<2^8000/\j.natAbs<2^8000
def bits_le (h:i.natAbs<2^8000):Builtin.Int.intBits i<=2^20:=by
 delta Builtin.Int.intBits;split
 .simp
 .rename_i L;have C:i.natAbs≠0:=by lk
  have:=(oj C).mpr h;lk
section
def acK:cB X (binaryOp .FloorDiv) (rI Pb λi j=>.int<|i/j):=opI λi j _ _ _ _ _ O q=>by
 have e:i.fdiv j=i/j:=by rw[Int.fdiv_eq_ediv_of_nonneg _<|iE O.1]
 calc floordiv_int (Int.ne_of_gt O.1) (by rw[e];calc q) (.inl<|PyProof.noPylong_of_log2 O.2)
def agn:cB X (binaryOp .Mult) (rI Ph λi j=>.int<|i*j):=opI λ_ _ _ _ _ _ _ O q=>mul_int q<|IntMulOk.of_bits (bits_le O.1)<|bits_le O.2
end
theorem Az:∀{ns:¬Int}{vs:¬Value},Vals (ns.map V.int) vs->IntsAre vs ns
 |[],_,.nil=>.nil
 |n::ns,_,.cons r t=>by let(k,rfl):=r;calc .cons n k<|Az t
section
def aar:cU X (.builtin "sum") (λxs H Q=>∃(p:Addr) (ns:¬Int),xs=[.ref p]/\aU X.K H p (ns.map V.int)/\Q (.int ns.sum) H):=by
 intro C s k H xs j Q I r q;let(p,ns,rfl,T,q):=q;let(u,rfl,J):=r.one;cases J;let(D,L,E,O):=I.list T;have A:=Az L;let(zs,e):=A.allInts.items;have N:ns=zs.toList.map (·.1):=by rw[<-A.numsOf,←nums_intItems,←e]
 have B:=E.isList;rw[e] at B;refine sum_intListG I.ok.hd B λg Y U M=>?_;have G:preSum (numAt zs) zs.size=ns.sum:=by rw[preSum_eq,bn<|by simp,←N]
 rw[G];calc⟨.int ns.sum,H,I.kept M,⟨_,rfl⟩,q⟩
def aas:cU X (.builtin "min") (λxs H Q=>∃(p:Addr) (ns:¬Int),xs=[.ref p]/\aU X.K H p (ns.map V.int)/\0<!ns/\∀M,M∈ns->(∀a,a∈ns->M<=a)->Q (.int M) H):=by
 intro C s z H xs y Q I r q;let(p,ns,rfl,T,E,q):=q;let(u,rfl,U):=r.one;cases U;let(L,k,O,m):=I.list T;have A:=Az k;let(zs,e):=A.allInts.items;have N:ns=zs.toList.map (·.1):=by rw[<-A.numsOf,←nums_intItems,←e]
 have B:=O.isList;rw[e] at B;have g:0<zs.size:=by grind
 refine min_intList I.ok.hd B g λv l o J D=>?_;let(t,rfl):=intItems_at J;let(h1,h2):=argBest_lt (numAt zs)<|zs.size - 1;refine⟨.int _,H,I.kept D,⟨t,rfl⟩,q _ ?_ λa G=>?_⟩
 .rw[N,numAt_eq];exact getD_mem (by rw[ac,bS];lk)
 .rw[N] at G;let(j,Y,rfl):=mem_getD G;rw[ac,bS] at Y;rw[<-numAt_eq];calc h2 j ∅
end
section
variable {j:Nat}
end
mutual
def Has (K:Frag)(H:Hp):()->V->Prop
 |.none,v=>v=.non
 |.bool b,v=>v=.bl b
 |.int i,v=>v=.int i
 |.str x,v=>v=.str x/\(PyData.str x).canLay0=true
 |.list A,v=>∃a D,v=.ref a/\aU K H a D/\aK K H A D
 |.tuple A,v=>∃a D,v=.ref a/\cF K H a D/\aK K H A D
 |.dict _,_=>False
def aK (K:Frag)(H:Hp):¬()->¬V->Prop
 |[],J=>J=[]
 |d::A,J=>∃v r,J=v::r/\Has K H d v/\aK K H A r
end
def Same.uX {K:Frag}(e:Same H E)(h:cF K H a xs):cF K E a xs:=by
 rcases h with(h|⟨o,h⟩)|h
 .exact .inl<|.inl<|e _ _ h
 .exact .inl<|.inr ⟨o,e _ _ h⟩
 .calc .inr h
mutual
theorem Has.same {K:Frag}(e:Same H E):∀{d:()}{v:V},Has K H d v->Has K E d v
 |.none,_,h=>h
 |.bool _,_,h=>h
 |.int _,_,h=>h
 |.str _,_,h=>h
 |.list _,_,⟨a,D,h1,h2,J⟩=>(a,D,h1,e.seq h2,aK.same e J)
 |.tuple _,_,⟨a,D,h1,h2,J⟩=>(a,D,h1,e.uX h2,aK.same e J)
theorem aK.same {K:Frag}(e:Same H E):∀{ds:¬()}{vs:¬V},aK K H ds vs->aK K E ds vs
 |[],_,h=>h
 |_::_,_,⟨v,r,h1,h2,J⟩=>(v,r,h1,Has.same e h2,aK.same e J)
end
section
variable {K:Frag}
def aK.p:aK K H ds vs↔Paired (Has K H) ds vs:=by
 induction ds generalizing vs with
 |nil=>calc⟨λh=>by cases(show vs=[] from h);calc .nil,λh=>by cases h;rfl⟩
 |cons d ds A=>
  constructor
  .rintro⟨v,r,rfl,h2,J⟩;exact .cons h2<|A.1 J
  .intro h;cases h with
   |cons x t=>calc(_,_,rfl,x,A.2 t)
theorem aK.length (h:aK K H ds vs):(!ds)=!vs:=!(aK.p.1 h)
def aK.get {i:Nat}(h:aK K H ds vs)(e:vs[i]? =#[v]):∃d,ds[i]? =#[d]/\Has K H d v:=(aK.p.1 h).at e
def aK.at {i:Nat}(h:aK K H ds vs)(e:ds[i]? =#[d]):∃v,vs[i]? =#[v]/\Has K H d v:=(aK.p.1 h).get e
theorem aK.snoc (M:Has K H d v)(h:aK K H ds vs):aK K H (ds++[d]) (vs++[v]):=aK.p.2<|(aK.p.1 h).snoc M
theorem aK.append (h2:aK K H D us)(h:aK K H ds vs):aK K H (ds++D) (vs++us):=aK.p.2<|(aK.p.1 h).append<|aK.p.1 h2
theorem aK.set (M:Has K H d v)(i:Nat)(h:aK K H ds vs):aK K H (ds.set i d) (vs.set i v):=aK.p.2<|(aK.p.1 h).set M i
def aK.flat {as:¬B}{g:B->()}{A:B->V}(hg:∀a v,Has K H (g a) v->v=A a)(h:aK K H (as.map g) vs):vs=as.map A:=by
 induction as generalizing vs with
 |nil=>calc h
 |cons a as C=>let(v,r,rfl,h2,J):=h;rw[hg _ _ h2,C J];rfl
theorem aK.map {as:¬B}{g:B->()}{A:B->V}:(∀a∈as,Has K H (g a) (A a))->aK K H (as.map g) (as.map A):=by
 induction as with
 |nil=>calc λ_=>rfl
 |cons a as D=>calc λh=>(_,_,rfl,h a ae,D λb C=>h b<|af _ C)
def aK.ints {ns:¬Int}:aK K H (ns.map PyData.int) vs↔vs=ns.map V.int:=⟨aK.flat λ_ _ h=>h,λh=>h▸aK.map λ_ _=>rfl⟩
end
section
variable {s:Shared}
mutual
theorem Has.reads (I:Inv X C L H s):∀{d:()}{v:V} {u:Value},Has X.K H d v->RelV v u->∃as,Reads s.heap u d as
 |.none,v,u,h,r=>by
  have g:v=.non:=h;subst g;cases r;calc⟨_,.none⟩
 |.bool b,v,u,h,r=>by
  have g:v=.bl b:=h;subst g;cases r;calc⟨_,.bool b⟩
 |.int i,v,u,h,r=>by have g:v=.int i:=h;subst g;let(t,rfl):=r;calc⟨_,.int i t⟩
 |.str x,v,u,h,r=>by have g:v=.str x:=h.1;subst g;let(t,rfl):=r;calc⟨_,.str x t⟩
 |.list D,v,u,h,r=>by
  let(a,J,rfl,T,N):=h;cases r;let(A,G,(o,n,e,c,_,d),E):=I.list T;let(as,B):=aK.reads I N G;calc⟨_,.list e c d<|‹B›⟩
 |.tuple D,v,u,h,r=>by
  let(a,J,rfl,T,N):=h;cases r;let(A,G,(o,e,c,n,d),E):=I.tuple T;let(as,B):=aK.reads I N G;calc⟨_,.tuple e c d<|‹B›⟩
 |.dict _,_,_,h,_=>False.elim h
theorem aK.reads (I:Inv X A E H s):∀{ds:¬()}{vs:¬V} {us:¬Value},aK X.K H ds vs->Vals vs us->∃as,ReadsAll s.heap us ds as
 |[],vs,us,h,r=>by
  have g:vs=[]:=h;subst g;cases r;calc⟨_,.nil⟩
 |d::ds,vs,us,h,r=>by
  let(v,N,rfl,h1,h2):=h;cases r with
  |cons L m=>let(as,B):=Has.reads I h1 L;let(D,C):=aK.reads I h2 m;calc⟨_,.cons B C⟩
end
end
mutual
theorem Has.can {K:Frag}:∀{d:()}{v:V},Has K H d v->d.canLay0=true
 |.none,_,_=>rfl
 |.bool _,_,_=>rfl
 |.int _,_,_=>rfl
 |.str _,_,h=>h.2
 |.list A,_,⟨_,_,_,_,h⟩=>by erw[canLay0];calc aK.can h
 |.tuple A,_,⟨_,_,_,_,h⟩=>by erw[canLay0];calc aK.can h
theorem aK.can {K:Frag}:∀{ds:¬()}{vs:¬V},aK K H ds vs->canLayAll0 ds=true
 |[],_,_=>rfl
 |d::ds,_,⟨_,_,_,h1,h2⟩=>by erw[canLayAll0,bj];calc⟨Has.can h1,aK.can h2⟩
end
inductive Yc (K:Frag)(x:V)(y:V)(H:Hp)(Q:VK):Prop
 |mk:∀d e,Has K H d x->Has K H e y->d.depth<=60->Q (.bl<|eqv d e) H->Yc K x y H Q
inductive Gd (K:Frag)(x:V)(y:V)(H:Hp)(Q:VK):Prop
 |mk:∀d e,Has K H d x->Has K H e y->d.depth<=60->Q (.bl<|not (PyData.eqv d e)) H->Gd K x y H Q
section
def jY (f:X.A.units+64<cLine):cB X (compareOp .Eq) (Yc X.K):=by intro B s O H x y v u Q I L M h;let(d,e,G,A,N,q):=h;let(E,C):=G.reads I L;let(J,D):=A.reads I M;calc SeqAt.compareEq_reads C D G.can A.can (by have:=rf d.depth e.depth;lk) (.bl _,H,I,rfl,q)
def fY (f:X.A.units+64<cLine):cB X (compareOp .NotEq) (Gd X.K):=by intro B s O H x y v u Q I L M h;let(d,e,G,A,N,q):=h;let(E,C):=G.reads I L;let(J,D):=A.reads I M;calc SeqAt.compareNe_reads C D G.can A.can (by have:=rf d.depth e.depth;lk) (.bl _,H,I,rfl,q)
end
end L2
namespace L2
open PyProof.Rows
def vR (i:Nat):TE:=λB H Q=>match B[i]? with
 |some #[v]=>Q v H
 |_=>False
def nG (sc:Scope)(x:Str):Bool:=match sc.names.lookup x with
 |some .local=>true
 |some .cell=>true
 |some .free=>true
 |_=>false
def acL (sc:Scope)(x:Str):Bool:=match sc.names.lookup x with
 |some .local=>true
 |some .cell=>true
 |_=>false
def glB (sc:Scope)(x:Str):Bool:=match sc.names.lookup x with
 |some .globalImplicit=>true
 |_=>false
def Ge (sc:Scope)(x:Str):Bool:=match sc.names.lookup x with
 |some .local=>true
 |some .free=>true
 |_=>false
def plain (x:Str):Bool:=not (x==("__debug__":Str)) && not (x==("__classdict__":Str))
def ah3 (h:nG sc x=true):ZV sc x:=by
 delta nG at h;split at h
 .rename_i e;exact .inl e
 .rename_i e;exact .inr<|.inl e
 .rename_i e;exact .inr<|.inr e
 .cases h
def lo (h:acL sc x=true):Loc sc x:=by
 delta acL at h;split at h
 .rename_i e;exact .inl e
 .rename_i e;exact .inr e
 .cases h
def ago (h:Ge sc x=true):ZV (relabel sc env) x:=by
 delta Ge at h;split at h
 .rename_i e;exact .inl<|lookup_relabel_local e
 .rename_i e;exact .inr<|uW e
 .cases h
def acM (sc:Scope)(x:Str):Bool:=match sc.names.lookup x with
 |some .local=>true
 |_=>false
def loC (h:acM sc x=true):(relabel sc env).names.lookup x=some .local:=by
 delta acM at h;split at h
 .rename_i e;exact lookup_relabel_local e
 .cases h
theorem Ba {env:Env}{x:Str}:∀{names:¬(Str×NameKind)},names.lookup x=some .globalImplicit->
  (names.map λ(n,k)=>if(k==NameKind.free && env.scope.kind==.function && env.kindOf n==some .cell) then(n,NameKind.cell) else(n,k)).lookup x=some .globalImplicit
 |[],h=>by simp at h
 |(n,j)::r,h=>by have A:=@Ba env x r;grind
section
def gl (h:glB sc x=true)(D:(X.env.scope=sc)∣0):Gl X x:=by
 delta glB at h;split at h
 .rename_i e;show X.env.scope.names.lookup x=_;rw[D];exact e
 .cases h
def aeZ (h:PE X e (ahA i)):PE X e (vR i):=h.imp λB H Q h=>by
 delta vR at h;split at h
 .rename_i v e;exact(v,e,h)
 .calc h.elim
def yZ (h:plain x=true):(x==("__debug__":Str))=false/\(x==("__classdict__":Str))=false:=by delta plain at h;simpa using h
def pV (vt:N.all (λx=>nG sc x && plain x)=true)(i:Nat)(C:(X.N[i]? =#[x])∣0)(A:(X.N=N)∣0)(B:(X.env.scope=sc)∣0):PE X (.Name x D) (vR i):=by have h:=cp.mp vt x (by rw[<-A];calc ag C);rw[bj] at h;calc aeZ<|ZX C (by rw[B];calc ah3 h.1) (yZ h.2).1 (yZ h.2).2
end
section
variable {A:Pos}
def lF (vt:N'.all (λx=>Ge scope x && plain x)=true)(i:Nat)(B:(N'[i]? =#[x])∣0):PE (fK X scope N' E C D M G) (.Name x A) (vR i):=by have h:=cp.mp vt x<|ag B;rw[bj] at h;calc aeZ<|ZX B (ago h.1) (yZ h.2).1 (yZ h.2).2
def qC (D:N'.Nodup)(h:acM scope x=true)(hi:(N'[i]? =#[x])∣0):PG (fK X scope N' E C B M G) (.Name x A) (cg i):=
 xQ D hi (.inl<|loC h) (.inr<|loC h)
def glC (h:glB scope x=true):Gl (fK X scope N' D C B M E) x:=by
 delta glB at h;split at h
 .rename_i e;show(relabel scope X.env).names.lookup x=_;exact Ba e
 .cases h
end
section
def cB.imp (h:cB X f r)(hi:∀x y H Q,C x y H Q->r x y H Q):cB X f C:=λA s B H x y v u Q I L M q=>h A s B H x y v u Q I L M<|hi x y H Q q
def sV.imp (h:sV X r)(hi:∀x y H Q,C x y H Q->r x y H Q):sV X C:=λa b A s B H x y v u Q I L M q=>h a b A s B H x y v u Q I L M<|hi x y H Q q
def G7.imp (h:G7 X f r)(hi:∀x H Q,C x H Q->r x H Q):G7 X f C:=λA s B H x v Q I L q=>h A s B H x v Q I L<|hi x H Q q
def cU.imp (h:cU X f r)(hi:∀xs H Q,C xs H Q->r xs H Q):cU X f C:=λA s D H xs B Q I L q=>h A s D H xs B Q I L<|hi xs H Q q
def Ad.imp (h:Ad X G r)(hi:∀x y H Q,C x y H Q->r x y H Q):Ad X G C:=λA s B H x y v u Q I L M q=>h A s B H x y v u Q I L M<|hi x y H Q q
def yR.imp (h:yR X r)(hi:∀x y z H Q,C x y z H Q->r x y z H Q):yR X C:=λA s D H x y z v u w Q I L M B q=>h A s D H x y z v u w Q I L M B<|hi x y z H Q q
end
def rM (g:Int->Int->V):R2:=λx y H Q=>match x,y with
 |.int i,.int j=>Q (g i j) H
 |_,_=>False
def Bb (C:Int->Int->Prop)(g:Int->Int->V):R2:=λx y H Q=>match x,y with
 |.int i,.int j=>C i j/\Q (g i j) H
 |_,_=>False
def wj:V->Bool
 |.non=>true
 |_=>false
def Rk (x:V):decide (x=.non)=wj x:=by cases x<;>simp[wj]
section
def V4 (h:cB X f (G8 g)):cB X f (rM g):=h.imp λx y H Q q=>by cases x<;>first|calc False.elim q|(cases y<;>first|calc False.elim q|calc(_,_,rfl,rfl,q))
def Yd (h:cB X f (rI C g)):cB X f (Bb C g):=h.imp λx y H Q q=>by cases x<;>first|calc False.elim q|(cases y<;>first|calc False.elim q|calc(_,_,rfl,rfl,q.1,q.2))
def gK:cB X (binaryOp .Add) (rM λi j=>.int<|i+j):=V4 ahI
def qL:cB X (binaryOp .Sub) (rM λi j=>.int<|i - j):=V4 ahJ
def Rm:cB X (binaryOp .Mult) (Bb Ph λi j=>.int<|i*j):=Yd agn
def oDiv:cB X (binaryOp .FloorDiv) (Bb Pb λi j=>.int<|i/j):=Yd acK
def oMod:cB X (binaryOp .Mod) (Bb (λ_ j=>0<j) λi j=>.int<|i % j):=Yd ahK
def acN:cB X (binaryOp .Pow) (Bb XF λi j=>.int<|i^j.toNat):=Yd ahL
def anU:cB X (binaryOp .BitXor) (rM λi j=>.int<|Builtin.bitXor i j):=V4 ahM
def oLt:cB X (compareOp .Lt) (rM λi j=>.bl<|decide<|i<j):=V4 akL
def oLe:cB X (compareOp .LtE) (rM λi j=>.bl<|decide<|i<=j):=V4 akM
def M4:cB X (compareOp .Gt) (rM λi j=>.bl<|decide<|j<i):=V4 akN
def acO:R2:=λx y H Q=>match y with
 |.non=>Q (.bl<|wj x) H
 |_=>False
def Ye:R2:=λx y H Q=>match y with
 |.non=>Q (.bl<|not (wj x)) H
 |_=>False
def Bc:cB X (compareOp .Is) acO:=ahN.imp λx y H Q q=>by cases y<;>first|calc False.elim q|(refine⟨rfl,?_⟩;rw[Rk];calc q)
def Pj:cB X (compareOp .IsNot) Ye:=agd.imp λx y H Q q=>by cases y<;>first|calc False.elim q|(refine⟨rfl,?_⟩;rw[Rk];calc q)
def rUM (g:Int->V):V->Hp->VK->Prop:=λx H Q=>match x with
 |.int i=>Q (g i) H
 |_=>False
def ah4:G7 X (unaryOp .USub) (rUM λi=>.int<|-i):=aac.imp λx H Q q=>by cases x<;>first|calc False.elim q|calc(_,rfl,q)
end
def mG (t:TE):TT:=λB H Q=>t B H λx E=>match x with
 |.bl k=>Q k E
 |_=>False
def ae0 (A D:TE):TE:=λB H Q=>A B H λx E=>match x with
 |.bl c=>if c=true then D B E Q else Q (.bl false) E
 |_=>False
def ae1 (A:TE):TE:=λB H Q=>A B H λx E=>match x with
 |.bl c=>Q (.bl<|not c) E
 |_=>False
def Yg (r A:R2)(D G tc:TE):TE:=λB H Q=>D B H λx E=>G B E λy J=>r x y J λz C=>match z with
 |.bl k=>if k=true then tc B C λI M=>A y I M Q else Q (.bl false) C
 |_=>False
section
variable {rest:¬Expr}
def eU (U:cB X (compareOp G) r)(L:PE X a t)(M:PE X b d)(T:(behindInMarks G b=false)∣5):PT X (.Compare a [G] [b] Y) (mG<|jm r t d):=by intro A s B H Q I h;refine qV (aY (L A s B H _ I h) ?_) T;rintro v p ⟨x,E,D,l,j⟩;refine aY (M A p B E _ D j) ?_;rintro u q ⟨y,J,N,m,k⟩;refine aY (U A q B J x y v u _ N l m k) ?_;rintro c f ⟨z,C,O,o,g⟩;cases z<;>first|calc False.elim g|(cases o;calc cK (C,O,g))
def peC (I:cB X (compareOp G) r)(A:PE X a E)(B:PE X b H)(C:(behindInMarks G b=false)∣5):PE X (.Compare a [G] [b] D) (jm r E H):=agf I A B C
def Ew (h:PE X e t)(B:(∀mZ,isTrue e X.env mZ=(do let v<-mZ;standAt e.pos;holding [v]<|truthy v))∣4):PT X e (mG t):=by intro A s G H Q I C;refine isTrue_plain (aY (h A s G H _ I C) ?_)<|B _;rintro v O ⟨x,E,D,L,J⟩;cases x<;>first|calc False.elim J|(cases L;calc cK (E,D,J))
def akR (G:PE X a N)(L:PE X (.BoolOp .And (b::rest) B) T):PE X (.BoolOp .And (a::b::rest) B) (ae0 N T):=by
 intro A s C H Q I h;refine BoolOp_and<|aY (G A s C H _ I h) ?_;rintro v O ⟨x,E,D,M,J⟩;cases x with
 |bl c=>
  cases M;refine cK ?_;cases c with
  |true=>calc L A O C E Q D J
  |false=>calc(.bl false,E,D,rfl,J)
 |_=>calc False.elim J
def akS (G:PE X a C):PE X (.UnaryOp .Not a B) (ae1 C):=by
 intro A s M H Q I h;refine UnaryOp_<|aY (G A s M H _ I h) ?_;rintro v O ⟨x,E,D,L,J⟩;cases x with
 |bl c=>cases L;calc not_of<|cK (.bl<|not c,E,D,rfl,J)
 |_=>calc False.elim J
def anV (p:cB X (compareOp G) r)(D:cB X (compareOp B) w)(Y:PE X a ta)(j:PE X b tb)(l:PE X c tc)
  (o:(lastMarks [G,B] [b,c]=false)∣6):PE X (.Compare a [G,B] [b,c] q) (Yg r w ta tb tc):=by
 intro A s C H Q I h;refine Compare_chain (aY (Y A s C H _ I h) ?_) o;rintro v s1 ⟨x,J,N,i,t⟩;refine chain_link<|aY (j A s1 C J _ N t) ?_;rintro u s2 ⟨y,L,T,m,f⟩;refine aY (p A s2 C L x y v u _ T i m f) ?_;rintro d s3 ⟨z,E,O,e,g⟩;cases z with
 |bl k=>
  k_go;refine cK ?_;cases k with
  |false=>calc ite_ff (.bl false,E,O,rfl,g)
  |true=>calc ite_tt<|chain_last<|aY (l A s3 C E _ O g) λw' s4 ⟨z',M,U,r4,n⟩=>D A s4 C M y z' u w' Q U m r4 n
 |_=>calc False.elim g
end
def Hu (K:Frag):R2:=λx y H Q=>match x,y with
 |.ref p,.int i=>∃D v,aU K H p D/\cP D i=#[v]/\Q v H
 |_,_=>False
def Pk (K:Frag):R2:=λx y H Q=>match x,y with
 |.ref p,.int i=>∃D v,cF K H p D/\cP D i=#[v]/\Q v H
 |_,_=>False
def ah5 (K:Frag):R2:=λx y H Q=>match y with
 |.int i=>∃A n,(Has K H (.list A) x\/Has K H (.tuple A) x)/\cP A i=#[.int n]/\Q (.int n) H
 |_=>False
section
variable {pos Bf pO:Pos}
def jc:sV X (Hu X.K):=Kh.imp λx y H Q q=>by cases x<;>first|calc False.elim q|(cases y<;>first|calc False.elim q|(let(D,v,h1,h2,J):=q;calc(_,D,_,v,rfl,rfl,h1,h2,J)))
def lG:sV X (Pk X.K):=Rb.imp λx y H Q q=>by cases x<;>first|calc False.elim q|(cases y<;>first|calc False.elim q|(let(D,v,h1,h2,J):=q;calc(_,D,_,v,rfl,rfl,h1,h2,J)))
def V5 (h:n=m):pL n i=pL m i:=by rw[h]
def ixD:sV X (ah5 X.K):=(Kh.or Rb).imp λx y H Q q=>by
 cases y<;>first|calc False.elim q|skip
 rename_i i;let(B,n,C,h2,J):=q;have go:∀D,aK X.K H B D->cP D i=#[.int n]:=λD N=>by
  delta cP at h2 ⊢;rw[V5 N.length.symm];cases e:pL (!B) i with
  |none=>grind
  |some j=>rw[e] at h2;let(v,E,k):=N.at h2;have A:=k;rw[<-A];exact E
 rcases C with⟨p,D,rfl,T,N⟩|⟨p,D,rfl,T,N⟩
 .exact .inl (p,D,i,_,rfl,rfl,T,go D N,J)
 .calc .inr (p,D,i,_,rfl,rfl,T,go D N,J)
def bO (hr:sV X r)(G:PE X a A)(B:PE X b C)(D:Di b∣7):PE X (.Subscript a b pos) (jm r A C):=X4 hr G B D
def Pn:Xy:=λo i v H Q=>match o,i with
 |.ref p,.int k=>∃D j,H p=#[.lst D]/\pL (!D) k=#[j]/\Q (upd H p<|.lst<|D.set j v)
 |_,_=>False
def acP:yR X Pn:=set_list.imp λx y z H Q q=>by cases x<;>first|calc False.elim q|(cases y<;>first|calc False.elim q|(let(D,j,h1,h2,J):=q;calc(_,D,_,j,rfl,rfl,h1,h2,J)))
inductive Pr (K:Frag):¬V->Hp->VK->Prop
 |mk ys:(aU K H p ys\/cF K H p ys)->Q (.int !ys) H->Pr K [.ref p] H Q
def Kq:cU X (.builtin "len") (Pr X.K):=Rf.imp λD H Q q=>by let(A,h1,h2):=q;calc(_,A,rfl,h1,h2)
inductive Pu:¬V->Hp->VK->Prop
 |mk:Q (.int<|if i<0 then -i else i) H->Pu [.int i] H Q
def cAbs:cU X (.builtin "abs") Pu:=acz.imp λD H Q q=>by obtain⟨q⟩:=q;calc(_,rfl,q)
inductive Hv (K:Frag):¬V->Hp->VK->Prop
 |mk ys:(aU K H p ys\/cF K H p ys)->(∀l,H l=none->Q (.ref l) (upd H l<|.lst ys))->Hv K [.ref p] H Q
def ae2:cU X (.type "list") (Hv X.K):=Rh.imp λD H Q q=>by let(A,h1,h2):=q;calc(_,A,rfl,h1,h2)
inductive Yh (K:Frag):¬V->Hp->VK->Prop
 |mk (ns:¬Int):aU K H p (ns.map V.int)->Q (.int ns.sum) H->Yh K [.ref p] H Q
def ah7:cU X (.builtin "sum") (Yh X.K):=aar.imp λD H Q q=>by let(A,h1,h2):=q;calc(_,A,rfl,h1,h2)
inductive Yi (K:Frag):¬V->Hp->VK->Prop
 |mk (ns:¬Int):aU K H p (ns.map V.int)->0<!ns->(∀M,M∈ns->(∀a,a∈ns->M<=a)->Q (.int M) H)->Yi K [.ref p] H Q
def anW:cU X (.builtin "min") (Yi X.K):=aas.imp λD H Q q=>by let(A,h1,h2,J):=q;calc(_,A,rfl,h1,h2,J)
inductive wu:V->¬V->Hp->VK->Prop
 |mk ys:H l=#[.lst ys]->(!ys)<sizeLine->Q .non (upd H l<|.lst<|ys++[y])->wu (.ref l) [y] H Q
def anY:uo X "list.append" wu:=λA s E H x D v C Q I L G q=>MK A s E H x D v C Q I L G (by
 let(B,h1,h2,J):=q;calc(_,B,_,rfl,rfl,h1,h2,J))
def Dm (I:PE X o E)(G:PA X [e] t)
  (A:(attributeBase o "append" X.env (eval o X.env)=eval o X.env)∣0)
  (M:((backTo pO (starEach [e] X.env)).all (λx=>not x.1) && (backToKw pO (keywordEach [] X.env)).all (λx=>x.1.isSome)
   && decide ((!([e]:¬Expr))+(!([]:¬Keyword))+(if([]:¬Keyword).isEmpty then 0 else 1)<30))=true:=by rfl)
  (D:((Bf.endLine==pO.line)=true)∣0)(B:(starEach [e] X.env=(false,eval e X.env)::starEach [] X.env)∣0)(C:((backTo pO<|starEach [] X.env).any (·.1)=false)∣0):
  PE X (.Call (.Attribute o "append" Bf) [e] [] pO) (pN X.K "list" wu E t):=oF PySem.F.plainAttrs_list PySem.F.slot_list_append PySem.F.type_list_append anY I G A M D B C
structure Cal (P:Program)(w:World)(K:Frag)(mg:Str->↑Value)(base:Heap)(k:Nat)(x:Str)(ps:¬Str)(sp:Sp):Prop where
 ex:∃f fd,jK P w K mg base k f fd ps sp/\mg x=#[.ref f]/\keepIn K (.ref f)=true/\Binds fd ps
def ae3 (C:Cal X.prog X.w X.K X.mg X.base k x ps I)(hr:cW k X.A)(hg:Gl X x)(G:PA X (e::D) t)
  (A:((x==("__debug__":Str))=false)∣1)(Q:(starEach (e::D) X.env=(false,eval e X.env)::starEach D X.env)∣0)(E:((backTo pos<|starEach D X.env).any (·.1)=false)∣0):
  PE X (.Call (.Name x p) (e::D) [] pos) (jy I t):=by
 let(f,J,F,H,M,B):=C.ex;calc agi F hr hg H M B G A Q E
def uz:VB:=λJ B H Q=>match J with
 |[]=>Q B H
 |_=>False
def gV (t:TG)(u:VB):VB:=λJ A H Q=>match J with
 |v::r=>t v A H λB E=>u r B E Q
 |[]=>False
def za (K:Frag)(n:Nat)(t:VB):TG:=λv B H Q=>match v with
 |.ref a=>∃D,cF K H a D/\(!D)=n/\t D B H Q
 |_=>False
def jZ:sS X [] uz:=by
 intro A s B H J C Q I r h;cases J with
 |nil=>cases r;calc assignInOrder_nil (B,H,I,h)
 |cons _ _=>calc False.elim h
def bM (h1:PG X e t)(h2:sS X D u)
  (G:((assignEach (e::D) X.env).map (·.2)=assign e X.env::(assignEach D X.env).map (·.2))∣0):sS X (e::D) (gV t u):=by
 intro A s M H L T Q I r h;cases L with
 |nil=>calc False.elim h
 |cons v U=>
  cases r with
  |cons r N=>rw[G];refine assignInOrder_cons<|aY (h1 A s M H _ _ _ I r h) ?_;rintro _ O ⟨C,E,B,J⟩;calc h2 A O C E _ _ Q B N J
def m6 (h:sS X D t)
  (E:((!(assignEach D X.env))=n)∣0)(B:((assignEach D X.env).findIdx? (·.1)=none)∣0):PG X (.Tuple D k pos) (za X.K n t):=by
 intro A s J H v u Q I r C;cases v with
 |ref a=>let(G,T,N,C):=C;calc ahB h E B A s J H (.ref a) u Q I r (a,G,rfl,T,N,C)
 |_=>calc False.elim C
def Px (i:Nat)(te:TE)(A:Z2):TS:=λD B H=>match B[i]? with
 |some #[x]=>te B H λy E=>A x y E λz J=>D.nx (B.set i<|#[z]) J
 |_=>False
def ae4 (B:X.N.Nodup)(hi:X.N[i]? =#[x])(J:Loc X.env.scope x)(Q:PE X e te)(G:Ad X L M)(E:(X.fn x=true\/X.env.scope.names.lookup x=some .local)∣3):
  PS X (.AugAssign (.Name x C) L e pos) (Px i te M):=λA s N H D I h=>ahD B hi J Q G E A s N H D I (by
 delta Px at h;split at h
 .rename_i v e;exact(v,e,h)
 .calc h.elim)
def ah9:Ad X .Add (rM λi j=>.int<|i+j):=ahF.imp λx y H Q q=>by cases x<;>first|calc False.elim q|(cases y<;>first|calc False.elim q|calc(_,_,rfl,rfl,q))
def aia:Ad X .Sub (rM λi j=>.int<|i - j):=ahG.imp λx y H Q q=>by cases x<;>first|calc False.elim q|(cases y<;>first|calc False.elim q|calc(_,_,rfl,rfl,q))
end
def qM:FP C g A D B H=C B H λJ E=>ux J g A D B E:=rfl
def anZ {K:Frag}(Pv:Nat->St->Hp->Prop)(L:Pv 0 B H)(O:∀i B H,i<=!xs->Pv i B H->aU K H a xs)
  (T:∀i x B H p,xs[i]? =#[x]->Pv i B H->H p=none->g (.ref p) B (upd H p<|.tup [.int (i:Int),x]) λG J=>k {D with nx:=Pv<|i+1} G J)(M:∀B H,Pv (!xs) B H->D.nx B H):
  ux (Ite K a) g k D B H:=by
 refine⟨λi m B H=>m=(!xs) - i/\i<=!xs/\Pv i B H,⟨!xs,by simp,cv _,L⟩,?_⟩;rintro i m B H ⟨rfl,N,p⟩;have q:=O i B H N p;by_cases A:i<!xs
 .refine .inr ⟨⟨xs,xs[i],q,by simp[A]⟩,Pv<|i+1,λl E Y=>⟨(!xs) - (i+1),by lk,rfl,A,Y⟩,λx E y=>?_⟩;let(j,z,Q,C,U,I):=y;subst C I;exact T i z B _ j (U xs q) p Q
 .have e:i=!xs:=by lk
  subst e;calc .inl ⟨⟨xs,q,av _⟩,M B H p⟩
def dD.nil:dD [] []:=dD.refl
def dD.skip (h:dD a b):dD (none::a) (x::b):=λj v e=>by
 cases j with
 |zero=>simp at e
 |succ j=>calc h j v<|‹e›
def Rn (h:0<n):pL n (-1)=#[n - 1]:=by delta pL;grind
def hide (D:Addr)(H:Hp):Hp:=λb=>if b=D then none else H b
def mH:Same (hide D H) H:=λb o e=>by delta hide at e;lk
def Dn:hide D H D=none:=by delta hide;rw[ap rfl]
def hide_ne (h:b≠D):hide D H b=H b:=by delta hide;rw[aw h]
def uY:hide D (upd H D o)=hide D H:=by funext b;delta hide upd;lk
def Ro (h:H D=none):hide D H=H:=by funext b;delta hide;lk
def aaw (h:H D=none)(s:Same H G):Same H (hide D G):=λb o e=>by rw[hide_ne<|aV e h];calc s b o e
def qN (s:Same H G):Same (hide D H) (hide D G):=λb o e=>by
 delta hide at e ⊢;f_are
 .k_go
 .rename_i B;rw[aw B];calc s b o e
def aH (h:H p=none):Same H (upd H p o):=λb u e=>by rw[au<|aV e h];calc e
def lcR {lo:Int}(r:n<sizeLine)(I:Nat->¬V->Hp->Prop)(U:I 0 [] E)
  (j:∀D i ys H (N:VK),i<n->H D=#[.lst ys]->E D=none->(!ys)=i->Same E (hide D H)->I i ys (hide D H)->
   (∀y M,M D=#[.lst ys]->Same (hide D H) (hide D M)->I (i+1) (ys++[y]) (hide D M)->N y M)->g (.int (lo+i)) (cR cap L) H λJ O=>dD (cR cap L) J/\te J O N)
  (Y:∀D ys H,H D=#[.lst ys]->E D=none->(!ys)=n->Same E (hide D H)->I n ys (hide D H)->Q (.ref D) H):Gb (Z6 lo n) cap g Dk te L E Q:=by
 intro D hD;refine⟨λi m H=>m=n - i/\i<=n/\∃ys,H D=#[.lst ys]/\(!ys)=i/\Same E (hide D H)/\I i ys (hide D H),⟨_,rfl,cv _,[],ao,rfl,by rw[uY,Ro hD];calc Same.refl _,by rw[uY,Ro hD];calc U⟩,?_⟩;rintro i m H ⟨rfl,q,ys,G,B,A,hI⟩;by_cases C:i<n
 .refine .inr ⟨C,λx p y=>?_⟩;let(e,T):=y;subst e T;refine j D i ys _ _ C G hD B A hI λv M k l o=>?_;refine⟨ys,k,by lk,n - (i+1),by lk,rfl,C,ys++[v],ao,by simp[B],?_,?_⟩
  .rw[uY];exact A.trans l
  .rw[uY];exact o
 .have e:i=n:=by lk
  subst e;calc .inl ⟨av _,Y D ys H G hD B A hI⟩
end L2
namespace L2
def PT.imp (h:PT X e t)(U:∀B H Q,t' B H Q->t B H Q):PT X e t':=λA s B H Q I q=>h A s B H Q I<|U B H Q q
def PW.imp (h:PW X e t)(U:∀B H Q,t' B H Q->t B H Q):PW X e t':=λE A s B H Q I q=>h E A s B H Q I<|U B H Q q
def PS.imp (h:PS X e t)(U:∀D B H,t' D B H->t D B H):PS X e t':=λA s B H Q I q=>h A s B H Q I<|U Q B H q
def jl.imp (h:jl X e t)(U:∀D B H,t' D B H->t D B H):jl X e t':=λA s B H Q I q=>h A s B H Q I<|U Q B H q
def PA.imp (h:PA X e t)(U:∀B H Q,t' B H Q->t B H Q):PA X e t':=λC A s B H Q I q=>h C A s B H Q I<|U B H Q q
def PG.imp (h:PG X e t)(U:∀v B H Q,t' v B H Q->t v B H Q):PG X e t':=λA s B H v u Q I r q=>h A s B H v u Q I r<|U v B H Q q
def PI.imp (h:PI X C e t)(U:∀B H Q,t' B H Q->t B H Q):PI X C e t':=λA s B H Q I q=>h A s B H Q I<|U B H Q q
def PO.imp (h:PO X e t)(U:∀B H Q,t' B H Q->t B H Q):PO X e t':=λA s B H Q I q=>h A s B H Q I<|U B H Q q
end L2
namespace VM
open L2
abbrev St:=L2.St
inductive Tg where
 |fr|ow|io
 deriving DecidableEq
def Tg.dat:Tg->Bool
 |_=>true
def Tg.own:Tg->Bool
 |.fr=>false
 |_=>true
abbrev GS:=List<|Option<|Tg×()
abbrev VE:=GS->↑()
def Ae:HO->Bool
 |.tup _=>true
 |.dR _ (.tup _)=>true
 |_=>false
structure bA (F H F' H':Hp):Prop where
 hh:Same H H'
 ff:Same F F'
 fh:Same F' H'
 new:∀a o,F' a=#[o]->F a=#[o]\/H a=none\/Ae o=true
theorem bA.refl (h:Same F H):bA F H F H:=(Same.refl _,Same.refl _,h,λ_ _ e=>.inl e)
theorem bA.trans (a:bA F H A E)(b:bA A E B J):bA F H B J:=(a.hh.trans b.hh,a.ff.trans b.ff,b.fh,λp o e=>by
 rcases b.new p o e with h|h|h
 .exact a.new p o h
 .exact .inr<|.inl<|a.hh.free h
 .calc .inr (.inr h))
def bA.alloc (h:Same F H)(D:H p=none):bA F H F (upd H p o):=
 (aH D,Same.refl _,h.trans<|aH D,λ_ _ e=>.inl e)
def bA.Bg (h:Same F H)(D:H p=none):bA F H (upd F p o) (upd H p o):=by
 refine(aH D,aH<|h.free D,λb u e=>?_,λb u e=>?_)
 .by_cases B:b=p
  .subst B;rw[ao] at e ⊢;exact e
  .rw[au B] at e ⊢;exact h b u e
 .by_cases B:b=p
  .subst B;exact .inr<|.inl D
  .rw[au B] at e;calc .inl e
mutual
def sY:()->Bool
 |.none=>true
 |.bool _=>true
 |.int _=>true
 |.str _=>true
 |.tuple A=>mJ A
 |_=>false
def mJ:¬()->Bool
 |[]=>true
 |d::A=>sY d && mJ A
end
def wide (F H:Hp):Hp:=λa=>match H a with
 |some o=>if Ae o=true then #[o] else F a
 |none=>none
def Rp (h:H a=#[o])(hi:Ae o=true):wide F H a=#[o]:=by delta wide;rw[h];erw[hi,dE]
def M8 (g:bA F H A E):bA F H (wide A E) E:=by
 have B:∀a o,A a=#[o]->wide A E a=#[o]:=λa o e=>by unfold wide;rw[(g.fh a o e)];lk
 refine(g.hh,λa o e=>B a o<|g.ff a o e,λa o e=>?_,λa o e=>?_)
 .unfold wide at e;cases q:E a with
  |none=>lk
  |some u=>
   rw[q] at e;by_cases N:Ae u=true
   .omega
   .erw[N] at e;rw[<-q];exact g.fh a o e
 .unfold wide at e;cases q:E a with
  |none=>lk
  |some u=>
   rw[q] at e;by_cases N:Ae u=true
   .omega
   .erw[N] at e;calc g.new a o e
def aax (h:H a=#[.lst xs])(C:F a=none):wide F H a=none:=by delta wide;rw[h];simpa [Ae] using C
def acQ (h:cF K H a xs):cF K (wide F H) a xs:=by
 rcases h with(h|⟨o,h⟩)|h
 .exact .inl<|.inl<|Rp h rfl
 .exact .inl<|.inr ⟨o,Rp h rfl⟩
 .calc .inr h
mutual
theorem Gf:∀{d:()}{v:V},sY d=true->Has K H d v->Has K (wide F H) d v
 |.none,_,_,h=>h
 |.bool _,_,_,h=>h
 |.int _,_,_,h=>h
 |.str _,_,_,h=>h
 |.list _,_,f,_=>by simp[sY] at f
 |.tuple A,_,f,(a,D,e,T,N)=>(a,D,e,acQ T,Bh (by simpa [sY] using f) N)
 |.dict _,_,f,_=>by simp[sY] at f
theorem Bh:∀{ds:¬()}{vs:¬V},mJ ds=true->aK K H ds vs->aK K (wide F H) ds vs
 |[],_,_,h=>h
 |d::ds,_,f,(v,r,h1,h2,J)=>by erw[mJ,bj] at f;calc(v,r,h1,Gf f.1 h2,Bh f.2 J)
end
inductive fZ (K:Frag)(cQ F H:Hp)(d:())(v:V):Prop
 |mk:∀a ds xs,d=.list ds->v=.ref a->H a=#[.lst xs]->F a=none->cQ a=none->aK K F ds xs->fZ K cQ F H d v
def aay (K:Frag)(A:Nat->↑Addr)(M F H:Hp)(i:Nat):Tg->()->V->Prop
 |.fr,d,v=>Has K F d v
 |.ow,d,v=>fZ K M F H d v
 |.io,d,v=>fZ K M F H d v/\∃a,v=.ref a/\A i=#[a]
structure VI (K:Frag)(jQ:Nat->↑Addr)(G cQ:Hp)(S:GS)(F:Hp)(σ:St)(H:Hp):Prop where
 len:(!S)=!σ
 same:Same cQ H
 gf:Same G F
 new:∀a o,F a=#[o]->G a=#[o]\/cQ a=none\/Ae o=true
 sub:Same F H
 slot:∀(i:Nat) t d,S[i]? =#[#[(t,d)]]->∃v,σ[i]? =#[#[v]]/\aay K jQ cQ F H i t d v
 inj:∀(i j:Nat) t t' d d' v,S[i]? =#[#[(t,d)]]->S[j]? =#[#[(t',d')]]->t.own=true->t'.own=true->σ[i]? =#[#[v]]->σ[j]? =#[#[v]]->i=j
section
variable {B:St}
def fZ.grow (g:bA F H A E)(h:fZ K M F H d v):fZ K M A E d v:=by
 let(a,C,N,D,G,J,O,I,L):=h;refine(a,C,N,D,G,g.hh _ _ J,?_,I,L.same g.ff);cases q:A a with
 |none=>rfl
 |some o=>
  rcases g.new a o q with z|z|z
  .omega
  .omega
  .have:=g.fh a o q;rw[g.hh _ _ J] at this;cases this;simp[Ae] at z
theorem VI.grow (I:VI K A G M S F B H)(g:bA F H C E):VI K A G M S C B E where
 len:=I.len
 same:=I.same.trans g.hh
 gf:=I.gf.trans g.ff
 new:=λa o e=>by
  rcases g.new a o e with z|z|z
  .exact I.new a o z
  .exact .inr<|.inl<|I.same.free z
  .exact .inr<|.inr z
 sub:=g.fh
 slot:=λi t d e=>by
  let(v,D,h):=I.slot i t d e;refine(v,D,?_);cases t with
  |fr=>calc Has.same g.ff h
  |ow=>calc fZ.grow g h
  |io=>exact⟨fZ.grow g h.1,h.2⟩
 inj:=I.inj
end
abbrev Rel:=Frag->Hp->Hp->Hp->Hp->()->V->Prop
def RW:Rel:=λK _ _ _ E d v=>Has K E d v
def RS:Rel:=λK _ _ A _ d v=>Has K A d v
def RM:Rel:=λK _ _ A E d v=>Has K A d v\/∃B a D,d=.list B/\v=.ref a/\aU K E a D/\aK K A B D
inductive RNP (K:Frag)(H:Hp)(F':Hp)(H':Hp)(d:())(v:V):Prop
 |mk:∀ds a xs,d=.list ds->v=.ref a->H a=none->F' a=none->H' a=#[.lst xs]->aK K F' ds xs->RNP K H F' H' d v
def RN:Rel:=λK _ H A E d v=>RNP K H A E d v
inductive tV (K:Frag)(R:Rel)(f:VE)(σ:St)(H:Hp)(Q:VK):Prop
 |mk:∀jQ G cQ S F,VI K jQ G cQ S F σ H->∀d,f S=#[d]->(∀v F' H',bA F H F' H'->R K F H F' H' d v->Q v H')->tV K R f σ H Q
def tV.imp (N:∀S d,f S=#[d]->f' S=#[d])
  (L:∀(F B E:Hp) S d v,f S=#[d]->bA F H B E->D K F H B E d v->∃A,bA F H A E/\R K F H A E d v)(h:tV K R f O H Q):tV K D f' O H Q:=by
 let(C,G,M,S,F,I,d,e,q):=h;refine(C,G,M,S,F,I,d,N S d e,λv B E g r=>?_);let(A,J,m):=L F B E S d v e g r;calc q v A E J m
section
variable {f:VE}
def sw (h:PE X e (tV X.K RS f)):PE X e (tV X.K RW f):=h.imp λ_ _ _ q=>tV.imp (λ_ _ h=>h) (λF A E S d v _ g r=>(A,g,Has.same g.fh r)) q
def sm (h:PE X e (tV X.K RS f)):PE X e (tV X.K RM f):=h.imp λ_ _ _ q=>tV.imp (λ_ _ h=>h) (λF A E S d v _ g r=>(A,g,.inl r)) q
def mw (h:PE X e (tV X.K RM f)):PE X e (tV X.K RW f):=h.imp λ_ _ _ q=>tV.imp (λ_ _ h=>h) (λF A E S d v _ g r=>(A,g,by
 rcases r with r|⟨B,a,D,rfl,rfl,h1,h2⟩
 .exact Has.same g.fh r
 .calc(a,D,rfl,h1,h2.same g.fh))) q
def nm (h:PE X e (tV X.K RN f)):PE X e (tV X.K RM f):=h.imp λ_ _ _ q=>tV.imp (λ_ _ h=>h) (λF A E S d v _ g r=>(A,g,by
 let(B,a,D,h1,h2,J,M,k,C):=r;calc .inr (B,a,D,h1,h2,aU.of k,C))) q
def RN.dR (g:bA F H C E)(r:RN K F H C E d v):∃A,bA F H A E/\RS K F H A E d v:=by
 let(I,a,D,h1,h2,J,M,k,G):=r;refine(upd C a<|.lst D,(g.hh,g.ff.trans<|aH M,λb o e=>?_,λb o e=>?_),?_)
 .by_cases B:b=a
  .subst B;rw[ao] at e;k_go;exact k
  .rw[au B] at e;exact g.fh b o e
 .by_cases B:b=a
  .omega
  .rw[au B] at e;exact g.new b o e
 .rw[h1];calc(a,D,h2,aU.of ao,G.same<|aH M)
def ns (h:PE X e (tV X.K RN f)):PE X e (tV X.K RS f):=h.imp λ_ _ _ q=>tV.imp (λ_ _ h=>h) (λF A E S d v _ g r=>RN.dR g r) q
def nw (h:PE X e (tV X.K RN f)):PE X e (tV X.K RW f):=mw<|nm h
def Gg (f:VE):VE:=λS=>match f S with
 |some d=>if sY d=true then #[d] else none
 |none=>none
def M9 (h:Gg f S=#[d]):f S=#[d]/\sY d=true:=by delta Gg at h;lk
end
def vN (i:Nat):VE:=λS=>match S[i]? with
 |some #[(.fr,d)]=>#[d]
 |some #[(.ow,d)]=>#[d]
 |some #[(.io,d)]=>#[d]
 |_=>none
def vF (i:Nat):VE:=λS=>match S[i]? with
 |some #[(.fr,d)]=>#[d]
 |_=>none
def vC (d:()):VE:=λ_=>#[d]
section
variable {A:Pos}
def dN (h:PE X e (vR i)):PE X e (tV X.K RM<|vN i):=h.imp λk H Q q=>by
 let(j,G,O,S,F,I,d,e,q):=q;delta vN at e;f_are
 .rename_i T hS;k_go;let(v,M,D):=I.slot i .fr d hS;delta vR;rw[M];exact q v F H (bA.refl I.sub)<|.inl D
 .rename_i T hS;k_go;let(v,M,D):=I.slot i .ow d hS;delta vR;rw[M];let(a,B,N,C,E,J,U,Y,L):=D;exact q v F H (bA.refl I.sub)<|.inr (B,a,N,C,E,aU.of J,L)
 .rename_i T hS;k_go;let(v,M,D):=I.slot i .io d hS;delta vR;rw[M];let(a,B,N,C,E,J,U,Y,L):=D.1;exact q v F H (bA.refl I.sub)<|.inr (B,a,N,C,E,aU.of J,L)
 .k_go
def dF (h:PE X e (vR i)):PE X e (tV X.K RS<|vF i):=h.imp λJ H Q q=>by
 let(C,G,M,S,F,I,d,e,q):=q;delta vF at e;f_are
 .rename_i E hS;k_go;let(v,B,D):=I.slot i .fr d hS;delta vR;rw[B];exact q v F H (bA.refl I.sub) D
 .k_go
def dC (h:PE X e (tC v))(B:∀H,Has X.K H d v):PE X e (tV X.K RS<|vC d):=h.imp λE H Q q=>by let(C,G,M,S,F,I,D,e,q):=q;cases e;calc q v F H (bA.refl I.sub)<|B F
def bQ {i j}:PE X (.Constant (.int i) j A) (tV X.K RS<|vC<|.int i):=dC aN λ_=>rfl
def akT {b j}:PE X (.Constant (.bool b) j A) (tV X.K RS<|vC<|.bool b):=dC kI λ_=>rfl
def pP {j}:PE X (.Constant .none j A) (tV X.K RS<|vC .none):=dC nO λ_=>rfl
def oR {x j}(B:((PyData.str x).canLay0=true)∣0):PE X (.Constant (.str x) j A) (tV X.K RS<|vC<|.str x):=dC aQ λ_=>⟨rfl,B⟩
end
def v2 (h:()->()->↑())(H A:VE):VE:=λS=>match H S with
 |some x=>match A S with
  |some y=>h x y
  |none=>none
 |none=>none
def qO (e:v2 h H A S=#[d]):∃x y,H S=#[x]/\A S=#[y]/\h x y=#[d]:=by delta v2 at e;grind
def gW (K:Frag)(h:()->()->↑())(r:R2):Prop:=∀H x y E A d Q,h E A=#[d]->Has K H E x->Has K H A y->(∀v,(∀B,Has K B d v)->Q v H)->r x y H Q
def rd2 (U:gW K h r)(q:tV K RS (v2 h O T) k H Q):jm r (tV K RW O) (tV K RW T) k H Q:=by let(A,G,M,S,F,I,d,e,q):=q;let(x,y,L,N,e):=qO e;calc(A,G,M,S,F,I,x,L,λv E g C j=>(A,G,M,S,E,I.grow C,y,N,λu B J D n=>(U J v u x y d Q e (Has.same D.hh j) n λw Y=>q w B J (C.trans D)<|Y B)))
section
variable {r:R2}
def cJ (I:cB X (binaryOp D) r)(C:gW X.K h r)(G:PE X a (tV X.K RW H))(B:PE X b (tV X.K RW A)):PE X (.BinOp a D b E) (tV X.K RS<|v2 h H A):=
 (bK I G B).imp λ_ _ _ q=>rd2 C q
def qP (I:cB X (compareOp G) r)(D:gW X.K h r)(B:PE X a (tV X.K RW H))(C:PE X b (tV X.K RW A))(E:(behindInMarks G b=false)∣5):PE X (.Compare a [G] [b] J) (tV X.K RS<|v2 h H A):=
 (peC I B C E).imp λ_ _ _ q=>rd2 D q
end
def xV (g:Int->Int->()):()->()->↑()
 |.int a,.int b=>#[g a b]
 |_,_=>none
def xq (C:Int->Int->Prop)[∀a b,Decidable (C a b)](g:Int->Int->()):()->()->↑()
 |.int a,.int b=>if C a b then #[g a b] else none
 |_,_=>none
def ae5 (d:())(v:V):Prop:=∀(K:Frag) (H:Hp),Has K H d v
def uO (hg:∀a b,ae5 (g a b) (C a b)):gW K (xV g) (rM C):=by
 intro H x y A B d Q e D n q;cases A<;>first|(simp[xV] at e;done)|skip
 cases B<;>first|(simp[xV] at e;done)|skip
 erw[xV,eA] at e;subst e;subst D n;calc q _ λE=>hg _ _ K E
def zc [∀a b,Decidable (C a b)](O:∀a b,C a b->A a b)(hg:∀a b,ae5 (g a b) (G a b)):gW K (xq C g) (Bb A G):=by
 intro H x y B D d Q e I n q;cases B<;>first|(simp[xq] at e;done)|skip
 cases D<;>first|(simp[xq] at e;done)|skip
 erw[xq] at e;f_are
 .rename_i hC;k_go;subst I n;exact⟨O _ _ hC,q _ λE=>hg _ _ K E⟩
 .k_go
set_option exponentiation.threshold 9000
def BMul (i j:Int):Prop:=i.natAbs<2^2000/\j.natAbs<2^2000
noncomputable instance (i j:Int):Decidable (BMul i j):=inferInstanceAs<|Decidable<|_/\_
def Yj (_ j:Int):Prop:=0<j/\j.natAbs<2^2000
noncomputable instance (i j:Int):Decidable (Yj i j):=inferInstanceAs<|Decidable<|_/\_
def BMod (_ j:Int):Prop:=0<j
noncomputable instance (i j:Int):Decidable (BMod i j):=inferInstanceAs<|Decidable<|_<_
def Yk (i j:Int):Prop:=0<=j/\j<=1000/\i.natAbs<2^60
noncomputable instance (i j:Int):Decidable (Yk i j):=inferInstanceAs<|Decidable<|_/\_/\_
def BMul.ok (h:BMul i j):Ph i j:=by have e:(2:Nat)^2000<=2^8000:=oi ⋯ ⋯;calc⟨bX h.1 e,bX h.2 e⟩
def Yj.ok (h:Yj i j):Pb i j:=⟨h.1,by
 have C:j.natAbs≠0:=by have:=h.1;lk
 have:=(oj C).mpr h.2;lk⟩
def Yk.ok (h:Yk i j):XF i j:=(h.1,by have:=h.2.1;lk,Nat.lt_trans h.2.2<|by decide)
abbrev fX:=xV λa b=>.int<|a+b
abbrev jd:=xV λa b=>.int<|a - b
abbrev Bj:=xq BMul λa b=>.int<|a*b
abbrev uZ:=xq Yj λa b=>.int<|a/b
abbrev Bk:=xq BMod λa b=>.int<|a % b
abbrev aic:=xq Yk λa b=>.int<|a^b.toNat
abbrev Af:=xV λa b=>.bool<|decide<|a<b
abbrev Ag:=xV λa b=>.bool<|decide<|a<=b
abbrev Ah:=xV λa b=>.bool<|decide<|b<a
abbrev geD:=xV λa b=>.bool<|decide<|b<=a
section
def lY:gW K fX (rM λi j=>.int<|i+j):=uO λ_ _ _ _=>rfl
def hSub:gW K jd (rM λi j=>.int<|i - j):=uO λ_ _ _ _=>rfl
def hMul:gW K Bj (Bb Ph λi j=>.int<|i*j):=zc (λ_ _ h=>h.ok) λ_ _ _ _=>rfl
def hDiv:gW K uZ (Bb Pb λi j=>.int<|i/j):=zc (λ_ _ h=>h.ok) λ_ _ _ _=>rfl
def hMod:gW K Bk (Bb (λ_ j=>0<j) λi j=>.int<|i % j):=zc (λ_ _ h=>h) λ_ _ _ _=>rfl
def hPow:gW K aic (Bb XF λi j=>.int<|i^j.toNat):=zc (λ_ _ h=>h.ok) λ_ _ _ _=>rfl
def hLt:gW K Af (rM λi j=>.bl<|decide<|i<j):=uO λ_ _ _ _=>rfl
def hLe:gW K Ag (rM λi j=>.bl<|decide<|i<=j):=uO λ_ _ _ _=>rfl
def hGt:gW K Ah (rM λi j=>.bl<|decide<|j<i):=uO λ_ _ _ _=>rfl
end
def kE:()->()->↑():=λx y=>if x.depth<=60 then #[.bool<|eqv x y] else none
def lH:()->()->↑():=λx y=>if x.depth<=60 then #[.bool<|not (PyData.eqv x y)] else none
def hEq:gW K kE (Yc K):=by
 intro H x y E A d Q e B n q;delta kE at e;f_are
 .k_go;exact(E,A,B,n,by assumption,q _ λ_=>rfl)
 .k_go
def hNe:gW K lH (Gd K):=by
 intro H x y E A d Q e B n q;delta lH at e;f_are
 .k_go;exact(E,A,B,n,by assumption,q _ λ_=>rfl)
 .k_go
def iT:()->Bool
 |.none=>true
 |_=>false
def isD:()->()->↑():=λx y=>if iT y then #[.bool<|iT x] else none
def Kr:()->()->↑():=λx y=>if iT y then #[.bool<|not (iT x)] else none
def Nb (h:Has K H d x):wj x=iT d:=by
 cases d with
 |none=>have e:=h;rw[e];rfl
 |bool b=>have e:=h;rw[e];rfl
 |int i=>have e:=h;rw[e];rfl
 |str y=>have e:=h.1;rw[e];rfl
 |list A=>let(a,D,rfl,_):=h;rfl
 |tuple A=>let(a,D,rfl,_):=h;rfl
 |dict k=>calc h.elim
def none_of (h:Has K H d x)(e:iT d=true):x=.non:=by cases d<;>first|calc h|(simp[iT] at e)
def hIs:gW K isD acO:=by
 intro H x y E B d Q e A n q;delta isD at e;f_are
 .rename_i C;k_go;have:=none_of n C;subst this;show Q (.bl<|wj x) H;rw[Nb A];exact q _ λ_=>rfl
 .k_go
def Yl:gW K Kr Ye:=by
 intro H x y E B d Q e A n q;delta Kr at e;f_are
 .rename_i C;k_go;have:=none_of n C;subst this;show Q (.bl<|not (wj x)) H;rw[Nb A];exact q _ λ_=>rfl
 .k_go
abbrev VT:=GS->↑Bool
inductive gQ (K:Frag)(f:VT)(σ:St)(H:Hp)(Q:(Bool->Hp->Prop)):Prop
 |mk:∀jQ G cQ S F,VI K jQ G cQ S F σ H->∀b,f S=#[b]->(∀F' H',bA F H F' H'->Q b H')->gQ K f σ H Q
def vB (f:VE):VT:=λS=>match f S with
 |some (.bool b)=>#[b]
 |_=>none
def agp (h:vB f S=#[b]):f S=#[.bool b]:=by delta vB at h;lk
def mj (f g:VT):VT:=λS=>match f S with
 |some true=>g S
 |some false=>#[false]
 |none=>none
def oU (f g:VT):VT:=λS=>match f S with
 |some true=>#[true]
 |some false=>g S
 |none=>none
def eZ (f:VT):VT:=λS=>match f S with
 |some b=>some (not b)
 |none=>none
def Rq:()->↑Bool
 |.none=>#[false]
 |.bool b=>#[b]
 |.int i=>#[i !=0]
 |.list A=>#[not A.isEmpty]
 |.tuple A=>#[not A.isEmpty]
 |_=>none
def u0 (f:VE):VT:=λS=>match f S with
 |some d=>Rq d
 |none=>none
theorem aK.isEmpty (h:aK K H ds vs):vs.isEmpty=ds.isEmpty:=by have:=!h;cases ds<;>cases vs<;>simp_all
section
variable {rest:¬Expr}
def Ym (U:∀C,tV K RS f B H C->t B H C)(q:gQ K (vB f) B H Q):mG t B H Q:=by let(A,G,M,S,F,I,b,e,q):=q;refine U _ (A,G,M,S,F,I,.bool b,agp e,λv D E g J=>?_);subst J;calc q D E g
def dG (I:cB X (compareOp G) r)(D:gW X.K h r)(B:PE X a (tV X.K RW H))(C:PE X b (tV X.K RW A))(E:(behindInMarks G b=false)∣5):PT X (.Compare a [G] [b] J) (gQ X.K<|vB<|v2 h H A):=
 PT.imp (eU I B C E) λ_ _ _ q=>Ym (λ_ q=>rd2 D q) q
def cVal (Q:PE X e (tV X.K RS f))(D:(∀mZ,isTrue e X.env mZ=(do let v<-mZ;standAt e.pos;holding [v]<|truthy v))∣4):PT X e (gQ X.K<|vB f):=
 PT.imp (Ew Q D) λ_ _ _ q=>Ym (λ_ q=>q) q
def an0 (D:PT X a (gQ X.K B)):PT X (.UnaryOp .Not a H) (gQ X.K<|eZ B):=PT.imp (nP D) λ_ _ _ q=>by
 let(A,G,M,S,F,I,b,e,q):=q;delta eZ at e;cases k:B S with
 |none=>lk
 |some c=>rw[k] at e;k_go;calc(A,G,M,S,F,I,c,k,λC E g=>q C E g)
def Yn (G:PT X a (gQ X.K B)):PW X (.BoolOp .And [a] A) (gQ X.K B):=Ke G
def Yo (G:PT X a (gQ X.K B)):PW X (.BoolOp .Or [a] A) (gQ X.K B):=iV G
def acR (L:PT X a (gQ X.K C))(N:PW X (.BoolOp .And (b::rest) B) (gQ X.K O)):PW X (.BoolOp .And (a::b::rest) B) (gQ X.K<|mj C O):=PW.imp (QV L N) λ_ _ _ q=>by
 let(A,G,M,S,F,I,b,e,q):=q;delta mj at e;cases k:C S with
 |none=>lk
 |some c=>
  rw[k] at e;refine(A,G,M,S,F,I,c,k,λD Q g=>?_);cases c with
  |true=>rw[ap rfl];calc(A,G,M,S,D,I.grow g,b,e,λE J H=>q E J<|g.trans H)
  |false=>grind
def wOr (L:PT X a (gQ X.K C))(N:PW X (.BoolOp .Or (b::rest) B) (gQ X.K O)):PW X (.BoolOp .Or (a::b::rest) B) (gQ X.K<|oU C O):=PW.imp (gG L N) λ_ _ _ q=>by
 let(A,G,M,S,F,I,b,e,q):=q;delta oU at e;cases k:C S with
 |none=>lk
 |some c=>
  rw[k] at e;refine(A,G,M,S,F,I,c,k,λD Q g=>?_);cases c with
  |false=>rw[aw bp];calc(A,G,M,S,D,I.grow g,b,e,λE J H=>q E J<|g.trans H)
  |true=>grind
def an1 (Q:PE X e (tV X.K RW f))(N:(∀mZ,isTrue e X.env mZ=(do let v<-mZ;standAt e.pos;holding [v]<|truthy v))∣4):PT X e (gQ X.K<|u0 f):=
 PT.imp (acy Q N) λ_ _ _ q=>by
  let(C,G,M,S,F,I,b,e,q):=q;delta u0 at e;cases D:f S with
  |none=>rw[D] at e;k_go
  |some d=>
   rw[D] at e;refine(C,G,M,S,F,I,d,D,λv H J g B=>(b,?_,q H J g));cases d with
   |none=>cases e;have A:=B;rw[A];rfl
   |bool c=>cases e;have A:=B;rw[A];rfl
   |int i=>cases e;have A:=B;rw[A];rfl
   |list L=>cases e;let(p,E,rfl,h1,h2):=B;calc .inl (E,h1,by rw[aK.isEmpty h2])
   |tuple L=>cases e;let(p,E,rfl,h1,h2):=B;calc .inr<|.inl (E,h1,by rw[aK.isEmpty h2])
   |str y=>cases e
   |dict k=>cases e
end
def Ks (f g:VE):VE:=λS=>match f S with
 |some (.bool true)=>g S
 |some (.bool false)=>#[.bool false]
 |_=>none
def vOr (f g:VE):VE:=λS=>match f S with
 |some (.bool true)=>#[.bool true]
 |some (.bool false)=>g S
 |_=>none
def Gh (f:VE):VE:=λS=>match f S with
 |some (.bool b)=>#[.bool (not b)]
 |_=>none
def nQ (h h':()->()->↑())(H A B:VE):VE:=λS=>match H S with
 |some x=>match A S with
  |some y=>match h x y with
   |some (.bool true)=>(match B S with
    |some z=>h' y z
    |none=>none)
   |some (.bool false)=>#[.bool false]
   |_=>none
  |none=>none
 |none=>none
def vIf (c:VT)(f g:VE):VE:=λS=>match c S with
 |some true=>f S
 |some false=>g S
 |none=>none
section
variable {rest:¬Expr}
def Ku (T:PE X a (tV X.K RS N))(U:PE X (.BoolOp .And (b::rest) D) (tV X.K RS O)):PE X (.BoolOp .And (a::b::rest) D) (tV X.K RS<|Ks N O):=(akR T U).imp λ_ _ _ q=>by
 f_int;delta Ks at e;f_are
 .rename_i k;refine(A,G,M,S,F,I,_,k,λv E J g C=>?_);have B:=C;subst B;erw[dE];exact(A,G,M,S,E,I.grow g,d,e,λw H L Q Y=>q w H L (g.trans Q) Y)
 .rename_i k;k_go;refine(A,G,M,S,F,I,_,k,λv E J g C=>?_);have B:=C;subst B;grind
 .k_go
def an2 (C:PE X a (tV X.K RS H)):PE X (.UnaryOp .Not a J) (tV X.K RS<|Gh H):=(akS C).imp λ_ _ _ q=>by
 f_int;delta Gh at e;f_are
 .rename_i b k;k_go;refine(A,G,M,S,F,I,_,k,λv B E g D=>?_);subst D;exact q _ B E g rfl
 .k_go
def acS {G}(h:PE X a (tV X.K R f)):PE X (.BoolOp G [a] A) (tV X.K R f):=QW h
def aie (m:gW K h r)(L:gW K h' s)(q:tV K RS (nQ h h' U Y j) a H Q):Yg r s (tV K RW U) (tV K RW Y) (tV K RW j) a H Q:=by
 f_int;delta nQ at e;cases p:U S with
 |none=>lk
 |some x=>
  rw[p] at e;cases t:Y S with
  |none=>lk
  |some y=>
   rw[t] at e;simp only at e;refine(A,G,M,S,F,I,x,p,λv c i D o=>(A,G,M,S,c,I.grow D,y,t,λu N J B n=>?_));f_are
   .rename_i g;cases b:j S with
    |none=>lk
    |some z=>rw[b] at e;refine m J v u x y _ _ g (Has.same B.hh o) n λk C=>?_;have E:=C J;subst E;erw[dE];exact(A,G,M,S,N,(I.grow D).grow B,z,b,λw O T l f=>(L T u w y z d Q e (Has.same l.hh n) f λk C=>q k O T ((D.trans B).trans l)<|C O))
   .rename_i g;k_go;refine m J v u x y _ _ g (Has.same B.hh o) n λk C=>?_;have E:=C J;subst E;erw[dS,eg];exact q _ N J (D.trans B) rfl
   .k_go
def dCh (N:cB X (compareOp G) r)(L:gW X.K h r)(C:cB X (compareOp B) T)(A:gW X.K h' T)(I:PE X a (tV X.K RW H))(J:PE X b (tV X.K RW D))(O:PE X c (tV X.K RW E))
  (M:(lastMarks [G,B] [b,c]=false)∣6):PE X (.Compare a [G,B] [b,c] Q) (tV X.K RS<|nQ h h' H D E):=(anV N C I J O M).imp λ_ _ _ q=>aie L A q
def dIf (T:PT X c (gQ X.K tc))(O:PE X a (tV X.K RS L))(Q:PE X b (tV X.K RS N)):PE X (.IfExp c a b U) (tV X.K RS<|vIf tc L N):=(QX T O Q).imp λ_ _ _ q=>by
 f_int;delta vIf at e;f_are
 .rename_i k;refine(A,G,M,S,F,I,_,k,λB H g=>?_);erw[dE];exact(A,G,M,S,B,I.grow g,d,e,λw C J D E=>q w C J (g.trans D) E)
 .rename_i k;refine(A,G,M,S,F,I,_,k,λB H g=>?_);erw[dS,eg];exact(A,G,M,S,B,I.grow g,d,e,λw C J D E=>q w C J (g.trans D) E)
 .k_go
end
end VM
namespace VM
open L2
section
variable {F H A E:Hp}
theorem aK.cP (h:aK K H ds xs)(e:L2.cP ds i=#[d]):∃v,L2.cP xs i=#[v]/\Has K H d v:=by
 delta L2.cP at e ⊢;rw[V5 h.length.symm];cases q:pL (!ds) i with
 |none=>rw[q] at e;k_go
 |some j=>rw[q] at e;calc h.at e
theorem aK.drop (n:Nat)(h:aK K H ds vs):aK K H (ds.drop n) (vs.drop n):=aK.p.2<|(aK.p.1 h).drop n
theorem aK.take (n:Nat)(h:aK K H ds vs):aK K H (ds.take n) (vs.take n):=aK.p.2<|(aK.p.1 h).take n
theorem RM.list (C:Same A E)(r:RM K F H A E (.list ds) v):∃a xs,v=.ref a/\aU K E a xs/\aK K A ds xs:=by
 rcases r with⟨a,xs,rfl,h1,h2⟩|⟨B,a,xs,e,rfl,h1,h2⟩
 .exact(a,xs,rfl,C.seq h1,h2)
 .k_go;calc(a,xs,rfl,h1,h2)
theorem RM.tuple (C:Same A E)(r:RM K F H A E (.tuple ds) v):∃a xs,v=.ref a/\cF K E a xs/\aK K A ds xs:=by
 rcases r with⟨a,xs,rfl,h1,h2⟩|⟨B,a,xs,e,rfl,h1,h2⟩
 .exact(a,xs,rfl,C.uX h1,h2)
 .k_go
def RM.grow (g:bA A E B J)(r:RM K F H A E d v):RM K F H B J d v:=by
 rcases r with r|⟨C,a,D,e,G,h1,h2⟩
 .exact .inl<|Has.same g.ff r
 .calc .inr (C,a,D,e,G,g.hh.seq h1,h2.same g.ff)
end
def bB:()->()->↑()
 |.list A,.int i=>cP A i
 |.tuple A,.int i=>cP A i
 |_,_=>none
section
variable {pos p2:Pos}
def dIx (l:PE X a (tV X.K RM k))(m:PE X b (tV X.K RW g))(o:Di b∣7):PE X (.Subscript a b pos) (tV X.K RS<|v2 bB k g):=
 (X4 (Kh.or Rb) l m o).imp λ_ _ Q q=>by
  let(C,G,M,S,F,I,d,e,q):=q;let(x,y,Y,j,e):=qO e;refine(C,G,M,S,F,I,x,Y,λv T t E r=>(C,G,M,S,T,I.grow E,y,j,λu N O J n=>?_));have B:=RM.grow J r;delta bB at e;f_are
  .rename_i U i;have D:=n;let(p,L,rfl,h1,h2):=RM.list J.fh B;let(w,H,A):=aK.cP h2 e;exact .inl (p,L,i,w,rfl,D,h1,H,q w N O (E.trans J) A)
  .rename_i U i;have D:=n;let(p,L,rfl,h1,h2):=RM.tuple J.fh B;let(w,H,A):=aK.cP h2 e;exact .inr (p,L,i,w,rfl,D,h1,H,q w N O (E.trans J) A)
  .k_go
inductive Hw (K:Frag)(f:GS->↑(↑Int))(σ:St)(H:Hp)(Q:(↑Int->Hp->Prop)):Prop
 |mk:∀jQ G cQ S F,VI K jQ G cQ S F σ H->∀o,f S=#[o]->(∀F' H',bA F H F' H'->Q o H')->Hw K f σ H Q
def oN:GS->↑(↑Int):=λ_=>#[none]
def oI (f:VE):GS->↑(↑Int):=λS=>match f S with
 |some (.int i)=>#[#[i]]
 |_=>none
def poN:PO X none (Hw X.K oN):=PO.imp VL λ_ H Q q=>by let(A,G,M,S,F,I,o,e,q):=q;cases e;calc q F H<|bA.refl I.sub
def poI (h:PE X e (tV X.K RW f)):PO X #[e] (Hw X.K<|oI f):=PO.imp (uN h) λ_ H Q q=>by
 let(A,G,M,S,F,I,o,e,q):=q;delta oI at e;f_are
 .rename_i i k;k_go;refine(A,G,M,S,F,I,_,k,λv B E g C=>(i,C,q B E g))
 .k_go
def cutD (xs:¬())(lo hi:↑Int):¬():=(xs.drop<|HT.cj (!xs) 0 lo).take<|HT.cj (!xs) (!xs) hi - HT.cj (!xs) 0 lo
def aK.cut {lo hi:↑Int}(h:aK K H ds vs):aK K H (cutD ds lo hi) (iZ vs lo hi):=by delta cutD iZ;rw[!h];calc aK.take _<|aK.drop _ h
def Gi (f:VE)(l u:GS->↑(↑Int)):VE:=λS=>match f S,l S,u S with
 |some (.list A),#[lo],#[N]=>#[.list<|cutD A lo N]
 |_,_,_=>none
def Gj (f:VE)(l u:GS->↑(↑Int)):VE:=λS=>match f S,l S,u S with
 |some (.tuple A),#[lo],#[N]=>if HT.cj (!A) 0 lo=0/\HT.cj (!A) (!A) N=!A then none else #[.tuple<|cutD A lo N]
 |_,_,_=>none
variable {lo hi:↑Expr}
def aif (O:PE X e (tV X.K RM f))(T:PO X lo (Hw X.K fl))(U:PO X hi (Hw X.K N)):PE X (.Subscript e (.Slice lo hi none p2) pos) (tV X.K RS<|Gj f fl N):=
 (qJ ahR O T U).imp λ_ H Q q=>by
  f_int;delta Gj at e;f_are
  .rename_i n l u k m o;f_are
   .k_go
   .rename_i Y;k_go;refine(A,G,M,S,F,I,_,k,λv E y C j=>(A,G,M,S,E,I.grow C,l,m,λL b J=>(A,G,M,S,L,(I.grow C).grow J,u,o,λt c B=>?_)));let(p,r,rfl,h1,h2):=RM.tuple B.fh<|RM.grow (J.trans B) j;have g:=(C.trans J).trans B;refine(p,r,rfl,h1,by rw[<-!h2];calc Y,λz D=>q _ _ _ (g.trans<|bA.Bg B.fh D) (z,_,rfl,cF.of ao,aK.same (aH<|B.fh.free D)<|aK.cut h2))
  .k_go
def Yp (f:VE):VE:=λS=>match f S with
 |some (.list A)=>#[.list A.reverse]
 |_=>none
def oV:()->↑()
 |.int i=>#[.int<|-i]
 |_=>none
def v1 (h:()->↑())(f:VE):VE:=λS=>match f S with
 |some x=>h x
 |none=>none
def an3 (J:PE X a (tV X.K RW f)):PE X (.UnaryOp .USub a pos) (tV X.K RS<|v1 oV f):=(XD ah4 J).imp λ_ H Q q=>by
 f_int;delta v1 at e;f_are
 .rename_i x N;delta oV at e;f_are
  .rename_i i;k_go;refine(A,G,M,S,F,I,_,N,λv B E D L=>?_);have C:=L;subst C;exact q _ B E D rfl
  .k_go
 .k_go
end
abbrev VA:=GS->↑(¬())
inductive Ai (K:Frag)(f:VA)(σ:St)(H:Hp)(Q:(¬V->Hp->Prop)):Prop
 |mk:∀jQ G cQ S F,VI K jQ G cQ S F σ H->∀ds,f S=#[ds]->(∀vs F' H',bA F H F' H'->aK K F' ds vs->Q vs H')->Ai K f σ H Q
inductive Gk (K:Frag)(f:VA)(σ:St)(H:Hp)(Q:(¬V->Hp->Prop)):Prop
 |mk:∀jQ G cQ S F,VI K jQ G cQ S F σ H->∀ds,f S=#[ds]->(∀vs F' H',bA F H F' H'->aK K H' ds vs->Q vs H')->Gk K f σ H Q
def a0:VA:=λ_=>#[[]]
def aC (f:VE)(fs:VA):VA:=λS=>match f S with
 |some d=>match fs S with
  |some A=>#[d::A]
  |none=>none
 |none=>none
def Dp (h:aC f fs S=#[ds]):∃d r,f S=#[d]/\fs S=#[r]/\ds=d::r:=by delta aC at h;grind
section
variable {A:Pos}
def Ey:PA X [] (Ai X.K a0):=PA.imp aG λ_ H Q q=>by let(B,G,M,S,F,I,d,e,q):=q;cases e;calc q [] F H (bA.refl I.sub) rfl
def V6:PA X [] (Gk X.K a0):=PA.imp aG λ_ H Q q=>by let(B,G,M,S,F,I,d,e,q):=q;cases e;calc q [] F H (bA.refl I.sub) rfl
def xW (U:PE X e (tV X.K RS f))(hr:PA X D (Ai X.K fs))(Y:(starEach (e::D) X.env=(false,eval e X.env)::starEach D X.env)∣0):PA X (e::D) (Ai X.K<|aC f fs):=PA.imp (aj U hr Y) λ_ H Q q=>by let(B,G,M,S,F,I,l,e,q):=q;let(d,r,O,T,rfl):=Dp e;calc(B,G,M,S,F,I,d,O,λv E g C j=>(B,G,M,S,E,I.grow C,r,T,λk L N J n=>q _ L N (C.trans J) (v,k,rfl,Has.same J.ff j,n)))
def V7 (U:PE X e (tV X.K RW f))(hr:PA X D (Gk X.K fs))(Y:(starEach (e::D) X.env=(false,eval e X.env)::starEach D X.env)∣0):PA X (e::D) (Gk X.K<|aC f fs):=PA.imp (aj U hr Y) λ_ H Q q=>by let(B,G,M,S,F,I,l,e,q):=q;let(d,r,O,T,rfl):=Dp e;calc(B,G,M,S,F,I,d,O,λv E g C j=>(B,G,M,S,E,I.grow C,r,T,λk L N J n=>q _ L N (C.trans J) (v,k,rfl,Has.same J.hh j,n)))
def je (fs:VA):VE:=λS=>match fs S with
 |some B=>if (!B)<=1000 then #[.tuple B] else none
 |none=>none
def gB (fs:VA):VE:=λS=>match fs S with
 |some B=>if (!B)<=1000 then #[.list B] else none
 |none=>none
def aaC (h:je fs S=#[d]):∃ds,fs S=#[ds]/\(!ds)<=1000/\d=.tuple ds:=by delta je at h;grind
def aaD (h:gB fs S=#[d]):∃ds,fs S=#[ds]/\(!ds)<=1000/\d=.list ds:=by delta gB at h;grind
def dTup {x1}(h:PA X N (Ai X.K fs)):PE X (.Tuple N x1 A) (tV X.K RS<|je fs):=(iY h).imp λ_ H Q q=>by let(B,G,M,S,F,I,d,e,q):=q;let(J,L,O,rfl):=aaC e;refine⟨B,G,M,S,F,I,J,L,λT U Y C E=>⟨by rw[<-!E];calc iS<|MN O,λp D=>?_⟩⟩;calc q _ _ _ (C.trans<|bA.Bg C.fh D) ⟨p,T,rfl,cF.of ao,aK.same (aH<|C.fh.free D) E⟩
def Yq (h:PA X N (Ai X.K fs)):PE X (.List N A) (tV X.K RN<|gB fs):=(jX h).imp λ_ H Q q=>by let(B,G,M,S,F,I,d,e,q):=q;let(E,L,O,rfl):=aaD e;refine⟨B,G,M,S,F,I,E,L,λT U Y C J=>⟨by rw[<-!J];calc iS<|MN O,λp D=>?_⟩⟩;calc q _ _ _ (C.trans<|bA.alloc C.fh D) ⟨E,p,T,rfl,rfl,C.hh.free D,C.fh.free D,ao,J⟩
end
def CallD (K:Frag)(h:¬()->↑())(r:¬V->Hp->VK->Prop):Prop:=∀H J A d Q,h A=#[d]->aK K H A J->(∀v,(∀E,Has K E d v)->Q v H)->r J H Q
def dW (h:¬()->↑())(fs:VA):VE:=λS=>match fs S with
 |some A=>h A
 |none=>none
def wz (L:PE X e (um r<|Gk X.K fs))(J:CallD X.K h r):PE X e (tV X.K RS<|dW h fs):=L.imp λ_ H Q q=>by
 f_int;delta dW at e;f_are
 .rename_i C T;exact(A,G,M,S,F,I,C,T,λU B E D O=>J E U C d Q e O λv N=>q v B E D<|N B)
 .k_go
def kW:¬()->↑()
 |[.list A]=>#[.int !A]
 |[.tuple A]=>#[.int !A]
 |_=>none
def Kv:¬()->↑()
 |[.int i]=>some<|.int<|if i<0 then -i else i
 |_=>none
open Classical in
def Nf (g:A->())(ds:¬()):↑(¬A):=if h:∃E,E.map g=ds then #[h.choose] else none
def oW {as:¬A}(h:Nf g ds=#[as]):ds=as.map g:=by
 delta Nf at h;by_cases e:∃as:¬A,as.map g=ds
 .rw[dif_pos e] at h;cases h;exact e.choose_spec.symm
 .rw[dif_neg e] at h;cases h
def Dq {as:¬A}{g:A->()}(hg:∀a b,g a=g b->a=b):Nf g (as.map g)=#[as]:=by have h:∃D:¬A,D.map g=as.map g:=⟨as,rfl⟩;delta Nf;rw[dif_pos h,(List.map_inj_right hg).mp h.choose_spec]
abbrev sZ:=Nf PyData.int
def kY (ns:¬Int):sZ (ns.map PyData.int)=#[ns]:=Dq λ_ _ h=>by cases h;rfl
def Kw:¬()->↑()
 |[.list A]=>match sZ A with
  |some ns=>#[.int ns.sum]
  |none=>none
 |_=>none
def dX:¬Int->Int
 |[]=>0
 |[n]=>n
 |n::r=>min n<|dX r
theorem jf:∀{ns:¬Int},ns≠[]->dX ns∈ns/\∀a∈ns,dX ns<=a
 |[n],_=>by simp[dX]
 |n::m::r,_=>by
  let(h1,h2):=jf (ns:=m::r) 's';have e:dX (n::m::r)=min n (dX (m::r)):=rfl;rw[e];refine⟨?_,λa G=>?_⟩
  .by_cases A:n<=dX (m::r)
   .rw[Int.min_eq_left A];exact ae
   .rw[qB ∅];exact af _ h1
  .rcases bq.mp G with rfl|G
   .exact ri ..
   .calc eB (kS ..)<|h2 a G
def minD:¬()->↑()
 |[.list A]=>match sZ A with
  |some (n::r)=>#[.int<|dX (n::r)]
  |_=>none
 |_=>none
def uD:¬()->↑()
 |[.int i,.int j]=>some<|.int<|if j<i then j else i
 |_=>none
def Py:¬()->↑()
 |[.int i,.int j]=>some<|.int<|if j>i then j else i
 |_=>none
def Pz:¬()->↑()
 |[.int i]=>#[.int i]
 |[.bool k]=>some<|.int<|if k then 1 else 0
 |_=>none
section
def aK.one (h:aK K H [d] vs):∃v,vs=[v]/\Has K H d v:=by let(v,r,rfl,h1,h2):=h;have U:=h2;rw[U];calc(v,rfl,h1)
def aK.two (h:aK K H [d,e] vs):∃v u,vs=[v,u]/\Has K H d v/\Has K H e u:=by let(v,r,rfl,h1,h2):=h;let(u,rfl,J):=aK.one h2;calc(v,u,rfl,h1,J)
def hLen:CallD K kW (Pr K):=by
 intro H J B d Q e A q;delta kW at e;f_are
 .let(v,rfl,a,D,rfl,h1,h2):=aK.one A;k_go;exact(D,.inl h1,by rw[<-!h2];calc q _ λ_=>rfl)
 .let(v,rfl,a,D,rfl,h1,h2):=aK.one A;k_go;exact(D,.inr h1,by rw[<-!h2];calc q _ λ_=>rfl)
 .k_go
def an4:CallD K Kv Pu:=by
 intro H J B d Q e A q;delta Kv at e;f_are
 .let(v,rfl,h1):=aK.one A;have G:=h1;subst G;k_go;exact⟨q _ λ_=>rfl⟩
 .k_go
def an5:CallD K Kw (Yh K):=by
 intro H J B d Q e A q;delta Kw at e;f_are
 .f_are
  .rename_i ns C;let(v,rfl,a,D,rfl,h1,h2):=aK.one A;k_go;rw[oW C] at h2;rw[aK.ints.mp h2] at h1;exact(ns,h1,q _ λ_=>rfl)
  .k_go
 .k_go
def an6:CallD K minD (Yi K):=by
 intro H G E d Q e D q;delta minD at e;f_are
 .f_are
  .rename_i n r B;let(v,rfl,a,I,rfl,h1,h2):=aK.one D;k_go;rw[oW B] at h2;rw[aK.ints.mp h2] at h1;refine(n::r,h1,by simp,λM A Y=>?_);let(C,J):=jf (ns:=n::r) 's';have:=lw (Y _ C)<|J _ A;rw[this];exact q _ λ_=>rfl
  .k_go
 .k_go
def akU:CallD K uD (λxs H Q=>∃i j,xs=[.int i,.int j]/\Q (.int<|if j<i then j else i) H):=by
 intro H J B d Q e A q;delta uD at e;f_are
 .rename_i i j;let(v,u,rfl,h1,h2):=aK.two A;have G:=h1;have D:=h2;subst G D;k_go;exact(i,j,rfl,q _ λ_=>rfl)
 .k_go
end
def Ng:()->String
 |.none=>"NoneType"
 |.bool _=>"bool"
 |.int _=>"int"
 |.str _=>"str"
 |.list _=>"list"
 |.tuple _=>"tuple"
 |.dict _=>"dict"
def qQ (T:String)(d:()):↑():=match d with
 |.dict _=>none
 |_=>#[.bool<|Ng d==T||(Ng d=="bool" && T=="int")]
inductive acT (K:Frag)(T:String)(xs:¬V)(H:Hp)(Q:VK):Prop
 |mk:∀x d b,xs=[x,.ty T]->Has K H d x->kitOne K (.type<|Ng d) (.type T)=#[b]->Q (.bl b) H->acT K T xs H Q
def an7:cU X (.builtin "isinstance") (acT X.K T):=by
 intro A s U H l g Q I r h;let(x,d,b,rfl,G,e,q):=h;cases r with
 |cons L N=>
  cases N with
  |cons m N=>
   cases N;rename_i u j;cases(m);have B:∀Y,EP X A U Q (.bool b) {s with toks:=Y}:=λY=>(.bl b,H,I.kept λ_ _ h=>h,rfl,q);cases d with
   |none=>cases(G);cases(L);calc oq PySem.W.kitx_none I.o9 eD e (λz=>nomatch z) B
   |bool y=>cases(G);cases(L);calc oq PySem.W.kitx_bool I.o9 eD e (λz=>nomatch z) B
   |int i=>cases(G);let(t,q):=(L);cases q;calc oq PySem.W.kitx_int I.o9 eD e (λz=>nomatch z) B
   |str y=>cases(G.1);let(t,q):=(L);cases q;calc oq PySem.W.kitx_str I.o9 eD e (λz=>nomatch z) B
   |list E=>
    let(a,O,rfl,h1,_):=G;cases(L);let(D,M,(o,n,C,c,_,_),J):=I.list h1;calc oq PySem.W.kitx_list I.o9 (o,C,c) e (λz=>nomatch z) B
   |tuple E=>
    let(a,O,rfl,h1,_):=G;cases(L);let(D,M,(o,C,c,_),J):=I.tuple h1;calc oq PySem.W.kitx_tuple I.o9 (o,C,c) e (λz=>nomatch z) B
   |dict k=>calc G.elim
structure zf (K:Frag)(T:String):Prop where
 ok:∀d d',qQ T d=#[.bool d']->kitOne K (.type<|Ng d) (.type T)=#[d']
def xr (T:String)(f:VE):VE:=v1 (qQ T) f
def aaE (h:qQ T d=#[x]):∃b,x=.bool b:=by cases d<;>first|(simp[qQ] at h;done)|(erw[qQ,eA] at h;calc⟨_,h.symm⟩)
def Rr (L:zf X.K T)(D:PE X e (um (acT X.K T)<|cL (tV X.K RW f)<|cL (tC<|.ty T) d9)):PE X e (tV X.K RS<|xr T f):=D.imp λ_ H Q q=>by
 f_int;delta xr v1 at e;f_are
 .rename_i x N;let(b,rfl):=aaE e;exact(A,G,M,S,F,I,x,N,λv B E C J=>(v,x,b,rfl,J,L.ok x b e,q _ B E C rfl))
 .k_go
def lV (f:VE):VE:=λS=>match f S with
 |some (.list A)=>#[.list A]
 |some (.tuple A)=>#[.list A]
 |_=>none
def V8 (T:PE X e (um (Hv X.K)<|cL (tV X.K RM f) d9)):PE X e (tV X.K RN<|lV f):=T.imp λ_ H Q q=>by
 let(B,G,M,S,F,I,d,e,q):=q;delta lV at e;f_are
 .rename_i O J;k_go;refine(B,G,M,S,F,I,_,J,λv D N C E=>?_);let(p,L,rfl,h1,h2):=RM.list C.fh E;exact(L,.inl h1,λz A=>q _ D _ (C.trans<|bA.alloc C.fh A) (_,z,_,rfl,rfl,C.hh.free A,C.fh.free A,ao,h2))
 .rename_i O J;k_go;refine(B,G,M,S,F,I,_,J,λv D N C E=>?_);let(p,L,rfl,h1,h2):=RM.tuple C.fh E;exact(L,.inr h1,λz A=>q _ D _ (C.trans<|bA.alloc C.fh A) (_,z,_,rfl,rfl,C.hh.free A,C.fh.free A,ao,h2))
 .k_go
end VM
namespace L2
open PyProof.Rows
section
variable {B t z TI TO C D G H:Addr}
def Yr {Q:Value->Shared->Prop}(I:s.heap.IsTupleIter B t i)(Y:s.heap.IsTuple t J)(j:J[i]? =#[x])(T:∀h',h'.IsTupleIter B t (i+1)->Heap.SameBut B s.heap h'->Q x {s with heap:=h'}):
  (prog\w) A (Builtin.SmallTypes.nextOf<|.ref B) Q E s:=by
 let(o,M,U,L):=id I;let(g,O,_,k,N):=Y;refine aa<|da I.typeIs f8<|fg f8 I.typeIs n9 ?_<|ny _;show wpAny _ _ (field (.ref B) 0>>=_) _ _ s;refine aa<|cm M L rfl ?_;show wpAny _ _ (if(Value.ref t==Value.none)=true then _ else _) _ _ s;rw[aw<|show Not ((Value.ref t==Value.none)=true) from bp];refine aa<|cm M L rfl ?_;refine aa<|dA O N ?_;erw[gh,j];calc aa<|wpAny_setField M L 's' (ax (x,rfl,ax<|T _ ((_,gs _ M<|Obj.isFreed_of_fields<|Obj.data_mapFields L _,(Obj.cls_mapFields ..).trans U,by rw[Obj.data_mapFields L];simp[rawInt])) (Heap.SameBut.update ..)))
def Ky {Q:Value->Shared->Prop}(T:A.handled=none)(I:s.heap.IsTupleIter B t i)(Y:s.heap.IsTuple t J)(j:J[i]? =none)
  (U:∀h' e,Heap.ExtBut B s.heap h'->(∃o,h' e=#[o]/\o.cls=.type "StopIteration")->E (.ref e) {s with heap:=h'}):
  (prog\w) A (Builtin.SmallTypes.nextOf<|.ref B) Q E s:=by
 let(o,M,k,L):=id I;let(l,O,_,g,N):=Y;refine aa<|da I.typeIs f8<|fg f8 I.typeIs n9 ?_<|ny _;show wpAny _ _ (field (.ref B) 0>>=_) _ _ s;refine aa<|cm M L rfl ?_;show wpAny _ _ (if(Value.ref t==Value.none)=true then _ else _) _ _ s;rw[aw<|show Not ((Value.ref t==Value.none)=true) from bp];refine aa<|cm M L rfl ?_;refine aa<|dA O N ?_;erw[gh,j];refine aa (og (aa (wpAny_setField M L 's' ?_)));refine aa ?_;erw[newExc,newTuple];refine aa (eP ?_ (by size_fits));refine aa (wpAny_of_eq (by first|rfl|(erw[firstArgMember];rfl)) ?_);refine eP ?_ (by size_fits);erw[raiseNew];refine aa<|wpAny_handled ?_;first|rw[show A.in1.handled=none from T]|rw[T]
 calc aa<|ax<|wpAny_throw<|U _ _ (((Heap.SameBut.update ..).extBut.push _).push _) (_,bc _ rfl,rfl)
end
def Bm (b:Bool)(K:Frag)(H:Hp)(a:Addr)(xs:¬V):Prop:=if b=true then cF K H a xs else aU K H a xs
def uq (b:Bool)(h:Heap)(i l:Addr)(k:Nat):Prop:=if b=true then h.IsTupleIter i l k else h.IsListIter i l k
def Bo (b:Bool)(h:Heap)(l:Addr)(xs:Array Value):Prop:=if b=true then h.IsTuple l xs else h.IsList l xs
section
variable {h h':Heap}
theorem uq.at (x:uq b h i l k)(q:∀o,h i=#[o]->h' i=#[o]):uq b h' i l k:=by
 cases b with
 |true=>calc Heap.IsTupleIter.at x q
 |false=>calc Heap.IsListIter.at x q
theorem Bo.at (x:Bo b h l xs)(q:∀o,h l=#[o]->h' l=#[o]):Bo b h' l xs:=by
 cases b with
 |true=>calc Heap.IsTuple.at x q
 |false=>calc Heap.IsList.at x q
def uq.obj (x:uq b h i l k):∃o,h i=#[o]/\∀v,o.data≠ .cell v:=by
 cases b with
 |true=>let(o,e,_,g):=(show h.IsTupleIter i l k from x);calc⟨o,e,λv q=>by rw[g] at q;cases q⟩
 |false=>let(o,e,_,g):=(show h.IsListIter i l k from x);calc⟨o,e,λv q=>by rw[g] at q;cases q⟩
end
def akV {Q:Value->Shared->Prop}(C:uq b s.heap D t i)(U:Bo b s.heap t B)(H:B[i]? =#[x])(G:∀h',uq b h' D t (i+1)->Heap.SameBut D s.heap h'->Q x {s with heap:=h'}):
  (prog\w) A (Builtin.SmallTypes.nextOf<|.ref D) Q E s:=by
 cases b with
 |true=>calc Yr C U H G
 |false=>calc gI C U H G
def aaF {Q:Value->Shared->Prop}(H:A.handled=none)(C:uq b s.heap G t i)(U:Bo b s.heap t B)(D:B[i]? =none)
  (L:∀h' e,Heap.ExtBut G s.heap h'->(∃o,h' e=#[o]/\o.cls=.type "StopIteration")->E (.ref e) {s with heap:=h'}):
  (prog\w) A (Builtin.SmallTypes.nextOf<|.ref G) Q E s:=by
 cases b with
 |true=>calc Ky H C U D L
 |false=>calc qS H C U D L
section
variable {B t z TI TO C G H I:Addr}
def acU {Q:Value->Shared->Prop}(D:ZipApart z TI TO C G H I)(hz:IsZip s.heap z TI TO .none)(hTI:IsPair s.heap TI (.ref C) (.ref G))(hTO:IsPair s.heap TO a b)
  (h1:uq kd s.heap C H k1)(h2:s.heap.IsListIter G I k2)(hl1:Bo kd s.heap H xs)(hl2:s.heap.IsList I ys)(hx:xs[k1]? =#[x])(hy:ys[k2]? =#[y])
  (hQ:∀h',IsZip h' z TI TO (rawInt (~~~s))->IsPair h' TO x y->uq kd h' C H (k1+1)->h'.IsListIter G I (k2+1)->IsPair h' (~~~s) x y->
   (∀c o,c≠z->c≠TO->c≠C->c≠G->s.heap c=#[o]->h' c=#[o])->Q (.ref (~~~s)) {s with heap:=h'}):
  (prog\w) A (Builtin.«zip.__next__» ⟨[.ref z],[]⟩) (λfin s'=>∃v,fin=.done (.ret v)/\Q v s') E s:=by
 show wpAny _ _ (field (.ref z) 2>>=_) _ _ _;refine aa (cm hz rfl rfl ?_);refine aa (cm hz rfl rfl ?_);refine aa (dA hTI rfl ?_);refine aa ?_;refine aa (cm hz rfl rfl (ax ?_));erw[dE];refine aa (og ?_);refine aa (cm hz rfl rfl ?_);refine aa (fo hz 's' λYb k J=>?_);replace k:IsZip Yb z TI TO .ellipsis:=k;refine aa ?_;erw[qh,rg,j0,forIn_nil];refine aa (aa (oP ?_));refine aa (akV (h1.at λo e=>J.extBut _ o D.i1z e) (hl1.at λo e=>J.extBut _ o D.l1z e) hx λh₂ i L=>ax ?_);have l:=L.extBut _ _ D.TOi1 (J.extBut _ _ D.TOz hTO);refine aa (dA l rfl ?_);refine aa (wpAny_updateSeq_pair l λan8 Y M=>?_);replace Y:IsPair an8 TO x b:=Y;refine aa (wpAny_letGo (ax ?_));refine aa (aa (oP ?_));refine aa (gI (((h2.extBut J.extBut D.i2z).extBut L.extBut D.i12.symm).extBut M.extBut D.TOi2.symm)
  (((hl2.extBut J.extBut D.l2z).extBut L.extBut D.l2i1).extBut M.extBut D.l2TO) hy λh₄ h O=>ax ?_)
 have m:=O.extBut _ _ D.TOi2 Y;refine aa<|dA m rfl ?_;refine aa<|wpAny_updateSeq_pair m λU N T=>?_;replace N:IsPair U TO x y:=N;refine aa<|wpAny_letGo<|ax<|ax ?_;refine aa<|dA N rfl ?_;refine aa<|wpAny_newTuple ?_;have hsz:U.objs.size= ~~~s:=by rw[T.1,O.1,M.1,L.1,J.1]
 have u:=T.extBut _ _ D.TOz.symm (O.extBut _ _ D.i2z.symm (M.extBut _ _ D.TOz.symm (L.extBut _ _ D.i1z.symm k)));have akW:∀c o,c≠z->c≠TO->c≠C->c≠G->s.heap c=#[o]->U c=#[o]:=λc o n c2 c3 c4 e=>
  T.extBut _ _ c2 (O.extBut _ _ c4<|M.extBut _ _ c2<|L.extBut _ _ c3<|J.extBut _ _ n e)
 have f:=b8 u;refine aa ?_;have akX:IsZip (U.push {cls:=.type "tuple",data:=.seq #[x,y]}) z TI TO .ellipsis:=ar _ u;refine aa (fo akX 's' λan9 g q=>?_);replace g:IsZip an9 z TI TO (rawInt U.objs.size):=g;refine fo g 's' λd j r=>?_;replace j:IsZip d z TI TO (rawInt U.objs.size):=j;have up:∀c o,c≠z->U c=#[o]->d c=#[o]:=λc o n e=>r.extBut _ _ n<|q.extBut _ _ n<|ar _ e;have p:=r.extBut _ _ (lj f)<|q.extBut _ _ (lj f)<|bc _ rfl;rw[hsz] at j p;refine ax (_,rfl,?_);rw[hsz];calc hQ d j (up _ _ D.TOz N) (i.at λo e=>up _ o D.i1z<|T.extBut _ o D.TOi1.symm (O.extBut _ o D.i12<|M.extBut _ o D.TOi1.symm e)) ((h.extBut T.extBut D.TOi2.symm).at λo e=>up _ o D.i2z e) p λc o n c2 c3 c4 e=>up c o n<|akW c o n c2 c3 c4 e
def agq {Q:Fin->Shared->Prop}(y:A.handled=none)(D:ZipApart z TI TO C G H I)(U:IsZip s.heap z TI TO .none)(g:IsPair s.heap TI (.ref C) (.ref G))
  (h1:uq f s.heap C H d)(m:Bo f s.heap H xs)(b:xs[d]? =none)
  (u:∀h' e,(∀c o,c≠z->c≠C->s.heap c=#[o]->h' c=#[o])->(∃o,h' e=#[o]/\o.cls=.type "StopIteration")->E (.ref e) {s with heap:=h'}):
  (prog\w) A (Builtin.«zip.__next__» ⟨[.ref z],[]⟩) Q E s:=by
 show wpAny _ _ (field (.ref z) 2>>=_) _ _ _;refine aa<|cm U rfl rfl ?_;refine aa<|cm U rfl rfl ?_;refine aa<|dA g rfl ?_;refine aa ?_;refine aa<|cm U rfl rfl<|ax ?_;erw[dE];refine aa<|og ?_;refine aa<|cm U rfl rfl ?_;refine aa (fo U 's' λY k J=>?_);replace k:IsZip Y z TI TO .ellipsis:=k;refine aa ?_;erw[qh,rg,j0,forIn_nil];refine aa<|aa<|oP ?_;refine aa<|aaF y (h1.at λo e=>J.extBut _ o D.i1z e) (m.at λo e=>J.extBut _ o D.l1z e) b λq e L v=>?_;let(n,O,T):=v;have N:=L _ _ D.i1z.symm k;have l:e≠z:=λx=>by subst x;rw[N] at O;cases O;simp at T
 calc fo N 's' λj _ M=>u j e (λc o p r x=>M.extBut _ _ p<|L _ _ r<|J.extBut _ _ p x) (n,M.extBut _ _ l O,T)
def acV {Q:↑Value->Shared->Prop}(D:ZipApart z TI TO C G H I)(M:IsZip s.heap z TI TO .none)(g:IsPair s.heap TI (.ref C) (.ref G))(J:IsPair s.heap TO a b)
  (h1:uq f s.heap C H d)(h2:s.heap.IsListIter G I N)(m:Bo f s.heap H xs)(L:s.heap.IsList I ys)(q:xs[d]? =#[x])(n:ys[N]? =#[y])
  (p:∀h',IsZip h' z TI TO (rawInt (~~~s))->IsPair h' TO x y->uq f h' C H (d+1)->h'.IsListIter G I (N+1)->IsPair h' (~~~s) x y->
   (∀c o,c≠z->c≠TO->c≠C->c≠G->s.heap c=#[o]->h' c=#[o])->Q #[.ref (~~~s)] {s with heap:=h'}):(prog\w) A (pyNext (.ref z)) Q E s:=by
 have U:s.TypeIs (.ref z) "zip":=(_,M,rfl);exact aa (kU (da U eM (fg eM U jI
  (acU D M g J h1 h2 m L q n λh' O T Y j k l=>ax (p h' O T Y j k l)) (iO _))))
def Rt {Q:↑Value->Shared->Prop}(N:A.handled=none)(D:ZipApart z TI TO C G H I)(J:IsZip s.heap z TI TO .none)(g:IsPair s.heap TI (.ref C) (.ref G))
  (h1:uq f s.heap C H d)(m:Bo f s.heap H xs)(j:xs[d]? =none)
  (L:∀h',(∀c o,c≠z->c≠C->s.heap c=#[o]->h' c=#[o])->Q none {s with heap:=h'}):(prog\w) A (pyNext<|.ref z) Q E s:=by
 have U:s.TypeIs (.ref z) "zip":=(_,J,rfl);refine aa<|kU<|da U eM<|fg eM U jI (agq N D J g h1 m j λh' e T M=>?_)<|iO _;let(o,Y,O):=M;calc aa<|wpAny_isInstance (o,Y,O) isSubtype_stop<|ax<|L _ T
end
abbrev Ys (h:Heap)(G:Addr):Heap:=h.push {cls:=.type "tuple_iterator",data:=.fields #[.ref G,.int 0 0]}
abbrev Yt (h:Heap)(G H:Addr):Heap:=(Ys h G).push {cls:=.type "list_iterator",data:=.fields #[.ref H,.int 0 0]}
abbrev Yu (h:Heap)(G H:Addr):Heap:=(Yt h G H).push {cls:=.type "tuple",data:=.seq #[.ref h.objs.size,.ref (Ys h G).objs.size]}
abbrev Yv (h:Heap)(G H:Addr):Heap:=(Yu h G H).push {cls:=.type "tuple",data:=.seq #[.none,.none]}
abbrev Kz (h:Heap)(G H:Addr):Heap:=(Yv h G H).push {cls:=.type "zip",data:=.fields #[.none,.bool false,.bool false,.ref (Yt h G H).objs.size,.ref (Yu h G H).objs.size]}
def acW (G H:Addr)(xs ys:Array Value):
  Meets (Builtin.«zip.__new__» ⟨[.type "zip",.ref G,.ref H],[]⟩) (λ_ R s=>s.heap.IsTuple G xs/\s.heap.IsList H ys/\
   R (.ok (.ret (.ref (Yv s.heap G H).objs.size))) {s with heap:=Kz s.heap G H}):=
 .of_wp λD w A R s h=>by
  let(E,g,d,Y,os):=s;let(m,L,h):=h;have C:=sub_zip;have B:Heap.IsList (Shared.heap (E.push {cls:=.type "tuple_iterator",data:=.fields #[.ref G,.int 0 0]},g,d,Y,os)) H ys:=Heap.IsList.push L _
  wp_walk using wpAny_pyIter_tuple m,iF B
  calc(_,rfl,h)
section
variable {s:Shared}
def agr {G H:Addr}{xs ys:Array Value}{Q:Value->Shared->Prop}(m:s.heap.IsTuple G xs)(L:s.heap.IsList H ys)
  (h:∀h',IsZip h' (~~~s+4) (~~~s+2) (~~~s+3) .none->IsPair h' (~~~s+2) (.ref (~~~s)) (.ref (~~~s+1))->
   IsPair h' (~~~s+3) .none .none->h'.IsTupleIter (~~~s) G 0->h'.IsListIter (~~~s+1) H 0->(∀c o,s.heap c=#[o]->h' c=#[o])->Q (.ref (~~~s+4)) {s with heap:=h'}):
  (prog\w) A (call (.type "zip") [.ref G,.ref H]) Q E s:=by
 refine callType_new F.called_zip ⋯ (F.typeCall_zip_2 _ _) (F.newCall_zip_2 _ _) (λD=>F.args_object_init_3 D _ _) F.entry_zip_new (acW G H xs ys) ⟨m,L,?_⟩;have I:(Ys s.heap G).objs.size= ~~~s+1:=kr ..;have j:(Yt s.heap G H).objs.size= ~~~s+2:=by rw[kr,I]
 have J:(Yu s.heap G H).objs.size= ~~~s+3:=by rw[kr,j]
 have O:(Yv s.heap G H).objs.size= ~~~s+4:=by rw[kr,J]
 have B:∀{h:Heap}{c:Addr} {o U:Obj},h c=#[o]->(h.push U) c=#[o]:=λe=>ar _ e;have C:(Kz s.heap G H) (Yv s.heap G H).objs.size=#[_]:=bc _ rfl;have N:(Kz s.heap G H) (Yu s.heap G H).objs.size=#[_]:=B<|bc _ rfl;have l:(Kz s.heap G H) (Yt s.heap G H).objs.size=#[_]:=B<|B<|bc _ rfl;have M:(Kz s.heap G H) (Ys s.heap G).objs.size=#[_]:=B<|B<|B<|bc _ rfl;have T:(Kz s.heap G H) (~~~s)=#[_]:=B<|B<|B<|B<|bc _ rfl;rw[j,J,O] at C;rw[I,j] at l;rw[J] at N;rw[I] at M;rw[O];calc⟨(_,C,rfl),h _ C l N (_,T,rfl,rfl) (_,M,rfl,rfl) λc o x=>B<|B<|B<|B<|B x⟩
end
def ags {s:Shared}{G H:Addr}{xs ys:Array Value}{Q:Value->Shared->Prop}(m:Bo f s.heap G xs)(L:s.heap.IsList H ys)
  (h:∀h',IsZip h' (~~~s+4) (~~~s+2) (~~~s+3) .none->IsPair h' (~~~s+2) (.ref (~~~s)) (.ref (~~~s+1))->
   IsPair h' (~~~s+3) .none .none->uq f h' (~~~s) G 0->h'.IsListIter (~~~s+1) H 0->(∀c o,s.heap c=#[o]->h' c=#[o])->Q (.ref (~~~s+4)) {s with heap:=h'}):
  (prog\w) A (call (.type "zip") [.ref G,.ref H]) Q E s:=by
 cases f with
 |true=>calc agr m L h
 |false=>calc call_zip_2 m L λh' C J l N B _ M=>h h' C J l N B M
def Inv.acX (I:Inv X B C H s)(h:Bm f X.K H a xs):∃A,Vals xs A/\Bo f s.heap a A.toArray:=by
 cases f with
 |true=>let(A,G,p,_):=I.tuple h;calc⟨A,G,p⟩
 |false=>let(A,G,p,_):=I.list h;calc⟨A,G,p.isList⟩
def Inv.acY (I:Inv X A B H s)(h:Bm f X.K H a xs)(h':Bm f X.K H a ys):xs=ys:=by
 cases f with
 |true=>calc I.Mj h h'
 |false=>calc I.yQ h h'
def Itx (K:Frag)(f:Bool)(a b:Addr):It:=
  (λi H=>∃D x A y,Bm f K H a D/\D[i]? =#[x]/\aU K H b A/\A[i]? =#[y],
   λi H v E=>∃p x y,H p=none/\v=.ref p/\(∀D,Bm f K H a D->D[i]? =#[x])/\(∀A,aU K H b A->A[i]? =#[y])/\E=upd H p (.tup [x,y]),
   λi H=>∃D A,Bm f K H a D/\aU K H b A/\(!D)<=i)
def aoa (f:Bool)(z TI TO A B a b:Addr)(i:Nat)(h:Heap):Prop:=
 IsZip h z TI TO .none/\IsPair h TI (.ref A) (.ref B)/\(∃c d,IsPair h TO c d)/\uq f h A a i/\h.IsListIter B b i
def agt {P:Program}{w:World}{K:Frag}{N:¬Expr}{k:Nat}{pos:Pos}(a b z TI TO G L:Addr)(D:ZipApart z TI TO G L a b):
  Turn P w K (.Tuple N k pos) (Itx K kd a b) [z,TI,TO,G,L] z (aoa kd z TI TO G L a b) where
 mem:=by simp
 obj:=λi h st c O=>by
  let(E,g,(d,f,J),M,(o2,n,_,g2)):=st;erw[bq,fI,gL] at O;rcases O with rfl|rfl|rfl|rfl|rfl
  .exact(_,E,λv q=>by have T:Data.fields _=Data.cell v:=q;cases T)
  .exact(_,g,λv q=>by have T:Data.seq _ _=Data.cell v:=q;cases T)
  .exact(_,J,λv q=>by have T:Data.seq _ _=Data.cell v:=q;cases T)
  .exact M.obj
  .exact(o2,n,λv q=>by rw[g2] at q;cases q)
 keep:=λi h h' st k=>by let(E,g,(d,f,J),h1,h2):=st;exact(k z 's' _ E,k TI 's' _ g,(d,f,k TO 's' _ J),h1.at λo e=>k G 's' o e,h2.at λo e=>k L 's' o e)
 item:=by
  intro X hP hw hK i Q s σ H I j st hg;subst hP hw hK;let(xs,x,ys,y,m,hx,C,hy):=hg;let(Ru,rv,p):=I.acX m;let(u,hu,ru):=rv.get hx;let(its2,rv2,p2,Nh):=I.list C;let(t,hu2,ru2):=rv2.get hy;let(Y,B,(d,f,U),M,s2):=st;refine acV D Y B U M s2 p p2.isList (x:=u) (y:=t) ‹hu› ‹hu2› λh' a1 a2 a3 a4 a5 l=>?_;refine(_,rfl,wpAny_letOwnedTupleGo_zip a1 λh2 he2 A=>?_);have lt:∀{c:Addr}{o:Obj},s.heap c=#[o]->c≠s.heap.objs.size:=λe=>c8 (b8 e);have hT2:IsPair h2 (~~~s) u t:=(A.2 _ (lt Y).symm).trans a5;refine(.ref (~~~s),upd H (~~~s) (.tup [x,y]),?_,rfl,(_,x,y,I.hok.fresh (av _),rfl,λzs E=>by rwa [I.acY E m],λzs E=>by rwa [I.yQ E C],rfl),
   (he2,(A.2 _ D.TIz).trans (l _ _ D.TIz D.TITO D.TIi1 D.TIi2 B),(u,t,(A.2 _ D.TOz).trans a2),a3.at λo q=>(A.2 G D.i1z).trans q,a4.at λo q=>(A.2 L D.i2z).trans q),λc O=>?_)
  .refine I.Km (fp:=[z,TI,TO,G,L]) (t':=s.toks) (λc o O q=>?_) j (av _) (by show 2<=sizeLine;decide,[u,t],.cons ru<|.cons ru2 .nil,(_,hT2,rfl,_,rfl));erw[bq,fI,gL,not_or] at O;let(r,n2,n3,n4,n5):=O;exact(A.2 c r).trans<|l c o r n3 n4 n5 q
  .have V9:c≠s.heap.objs.size:=by
    erw[bq,fI,gL] at O;let(_,e1,_):=M.obj;let(_,n,_):=s2;rcases O with rfl|rfl|rfl|rfl|rfl
    .exact lt Y
    .exact lt B
    .exact lt U
    .exact lt e1
    .exact lt n
   rw[au V9];exact(j c O).1
 done:=by intro X hP hw hK i Q s σ H I j st hg;subst hP hw hK;let(xs,ys,m,C,hx):=hg;let(Ru,rv,p):=I.acX m;have hl:=!rv;let(Y,B,_,M,_):=st;refine Rt I.ok.hd D Y B M p (by simp;lk) λh' l=>⟨rfl,I.turns (t':=s.toks) (fp:=[z,TI,TO,G,L]) (λc o O q=>?_) j⟩;erw[bq,fI,gL,not_or] at O;let(r,n2,n3,n4,n5):=O;exact l c o r n4 q
 self:=λ_ _ _ _ _ st h=>mB st.1 h
section
variable {A:TA}
def iZt (K:Frag)(A:TA):TI:=λC H R=>A C H λJ E=>∃f a b,J=[.ref a,.ref b]/\(∃D,Bm f K E a D)/\(∃B,aU K E b B)/\R (Itx K f a b) E
def akY {T:Pos}(hg:Gl X "zip")(w:X.mg "zip"=none)(f:PA X [l,E] A)(i:(starEach [l,E] X.env=[(false,eval l X.env),(false,eval E X.env)])∣0)(C:(starEach [E] X.env=[(false,eval E X.env)])∣0):
  PI X (.Tuple Y k T) (.Call (.Name "zip" p) [l,E] [] Q) (iZt X.K A):=by
 intro G s σ H R I h;refine Call_ (pK I hg w boot_zip (cy (aY (f Q G s σ H _ I h) λus O (vs,u,D,r1,q1)=>?_) (by rw[i,C]) (by rw[C];rfl)));let(kd,a,b,e,(xs,x),(ys,L),q):=q1;subst e;cases r1 with
 |cons r U=>
  cases U with
  |cons r2 U=>
   cases U;cases r;cases r2;let(Ru,rv,t):=D.acX x;let(m,rv2,J,Nh):=D.list L;have M:a< ~~~O:=by cases kd<;>(let(o,e,_):=t;calc b8 e)
   have N:b< ~~~O:=by let(o,e,_):=J.isList;exact b8 e
   refine ags t J.isList λh' j v y z d n=>?_;refine mB j ?_;refine(_,[~~~O+4,~~~O+2,~~~O+3,~~~O,O.heap.objs.size+1],_,_,u,rfl,D.kept n,agt a b _ _ _ _ _<|zipApart_new M N,(j,v,(_,_,y),z,d),λc g=>?_,q);have B: ~~~O<=c:=by
    erw[bq,fI,gL] at g;rcases g with rfl|rfl|rfl|rfl|rfl
    .exact f7 _ _
    .exact f7 _ _
    .exact f7 _ _
    .exact av _
    .exact f7 _ _
   calc D.uU B<|D.hok.fresh B
end
end L2
namespace VM
open L2
abbrev f9:=¬()->↑(Bool×())
def RB:Bool->Rel
 |true=>RN
 |false=>RS
inductive aik (K:Frag)(m:f9)(vs:¬V)(H:Hp)(Q:VK):Prop
 |mk:∀G ds,Same G H->aK K G ds vs->∀b d,m ds=#[(b,d)]->(∀v F' H',bA G H F' H'->RB b K G H F' H' d v->Q v H')->aik K m vs H Q
def Hy (K:Frag)(m:f9):Sp:=λJ H Q=>aik K m J H Q
def cV (m:f9)(fs:VA):VE:=λS=>match fs S with
 |some A=>match m A with
  |some (_,d)=>#[d]
  |none=>none
 |none=>none
def xX (m:f9)(fs:VA):VE:=λS=>match fs S with
 |some A=>match m A with
  |some (true,d)=>#[d]
  |_=>none
 |none=>none
def Gm:Bool->()->Bool
 |true,.list A=>mJ A
 |true,_=>false
 |false,d=>sY d
def xY (m:f9)(fs:VA):VE:=λS=>match fs S with
 |some A=>match m A with
  |some (b,d)=>if Gm b d=true then #[d] else none
  |none=>none
 |none=>none
def Wa (m:f9)(fs:VA):VE:=λS=>match fs S with
 |some A=>match m A with
  |some (true,.list D)=>if mJ D=true then #[.list D] else none
  |_=>none
 |none=>none
section
variable {fs:VA}
def Bp (T:PE X e (jy (Hy X.K m)<|Ai X.K fs)):PE X e (tV X.K RS<|cV m fs):=T.imp λ_ H Q q=>by
 let(B,G,M,S,F,I,d,e,q):=q;delta cV at e;f_are
 .rename_i D Y;f_are
  .rename_i b o k;k_go;refine(B,G,M,S,F,I,D,Y,λp N l C U=>?_);refine(N,D,C.fh,U,b,_,k,λv L E g J=>?_);cases b with
   |false=>calc q v L E (C.trans g) J
   |true=>let(A,O,j):=RN.dR g J;exact q v A E (C.trans O) j
  .k_go
 .k_go
def akZ (U:PE X e (jy (Hy X.K m)<|Ai X.K fs)):PE X e (tV X.K RN<|xX m fs):=U.imp λ_ H Q q=>by
 f_int;delta xX at e;f_are
 .rename_i B l;f_are
  .rename_i t o;k_go;refine(A,G,M,S,F,I,B,l,λu E r C j=>?_);refine(E,B,C.fh,j,true,_,o,λv D J g Y=>?_);let(L,a,p,h1,h2,N,O,k,T):=Y;exact q v D J (C.trans g) (L,a,p,h1,h2,C.hh.free N,O,k,T)
  .k_go
 .k_go
def ak0 (l:PE X e (jy (Hy X.K m)<|Gk X.K fs)):PE X e (tV X.K RS<|xY m fs):=l.imp λ_ H Q q=>by
 let(B,G,M,S,F,I,d,e,q):=q;delta xY at e;f_are
 .rename_i D p;f_are
  .rename_i b c r;f_are
   .rename_i N;k_go;refine(B,G,M,S,F,I,D,p,λn z T C o=>?_);refine(T,D,Same.refl _,o,b,_,r,λv y E g O=>?_);have J:=M8 (g.hh,Same.refl _,C.fh.trans g.hh,λ_ _ e=>.inl e);cases b with
    |false=>calc q v _ E (C.trans J)<|Gf N<|Has.same g.fh O
    |true=>let(U,a,u,rfl,h2,L,f,k,j):=O;let(A,Y,t):=RN.dR J (U,a,u,rfl,h2,L,aax k<|C.fh.free L,k,Bh N<|j.same g.fh);exact q v A E (C.trans Y) t
   .k_go
  .k_go
 .k_go
end
structure KC (K:Frag)(F:Hp)(J:It)(ds:¬()):Prop where
 go:∀(i:Nat) d F' H',ds[i]? =#[d]->Same F F'->Same F' H'->J.go i H'/\∀x pq,J.Z5 i H' x pq->∃F'',bA F' H' F'' pq/\Has K F'' d x
 stop:∀(i:Nat) F' H',(!ds)<=i->Same F F'->Same F' H'->J.stop i H'
inductive u5 (K:Frag)(f:VA)(σ:St)(H:Hp)(R:(It->Hp->Prop)):Prop
 |mk:∀jQ G cQ S F,VI K jQ G cQ S F σ H->∀ds,f S=#[ds]->(∀J F' H',bA F H F' H'->KC K F' J ds->R J H')->u5 K f σ H R
def dM (f:VE):VA:=λS=>match f S with
 |some (.list A)=>#[A]
 |_=>none
def uP (f:VE):VA:=λS=>match f S with
 |some (.tuple A)=>#[A]
 |_=>none
def nR (lo:Int)(n:Nat):¬():=(List.range n).map λ(i:Nat)=>PyData.int<|lo+i
def zj (fs:VA):VA:=λS=>match fs S with
 |some [.int j]=>@ite _ (-(2^62)<=j/\j<2^62) (Classical.propDecidable _) (#[nR 0 j.toNat]) none
 |_=>none
def PB (fs:VA):VA:=λS=>match fs S with
 |some [.int i,.int j]=>@ite _ ((-(2^62)<=i/\i<2^62)∧-(2^62)<=j/\j<2^62) (Classical.propDecidable _) (#[nR i (j - i).toNat]) none
 |_=>none
def oG:Nat->¬()->¬()
 |_,[]=>[]
 |i,d::r=>.tuple [.int i,d]::oG (i+1) r
theorem Ni:∀(k:Nat) (ds:¬()) (i:Nat),(oG k ds)[i]? =ds[i]?.map λd=>.tuple [.int ((k+i:Nat):Int),d]
 |_,[],_=>by simp[oG]
 |k,d::r,0=>by simp[oG]
 |k,d::r,i+1=>by erw[oG,kX];rw[Ni (k+1) r i];lk
def Rv (k:Nat)(ds:¬()):(!(oG k ds))=!ds:=by
 induction ds generalizing k with
 |nil=>rfl
 |cons d r A=>simp[oG,A]
def uf (ds D:¬()):¬():=List.zipWith (λa b=>PyData.tuple [a,b]) ds D
def zm (fs:VA):VA:=λS=>match fs S with
 |some [.list A]=>#[oG 0 A]
 |_=>none
def Yw:()->↑(Bool×¬())
 |.tuple A=>#[(true,A)]
 |.list A=>#[(false,A)]
 |_=>none
def Bq (fs:VA):VA:=λS=>match fs S with
 |some [d,.list D]=>(match Yw d with
  |some (_,A)=>if (!A)<=!D then #[uf A D] else none
  |none=>none)
 |_=>none
section
variable {k:Nat}
def aaG (h1:aU K F a xs)(h2:aK K F ds xs):KC K F (G6 K a) ds where
 go:=λi d B E e J A=>by let(v,G,M):=h2.at e;have T:=(J.trans A).seq h1;refine⟨(xs,v,T,G),λx C y=>?_⟩;let(D,y):=y;subst D;have:=y xs T;rw[G] at this;cases this;exact(B,bA.refl A,Has.same J M)
 stop:=λi B E e J A=>(xs,(J.trans A).seq h1,by rwa [<-!h2])
def acZ (h1:cF K F a xs)(h2:aK K F ds xs):KC K F (Itt K a) ds where
 go:=λi d B E e J A=>by let(v,G,M):=h2.at e;have T:=(J.trans A).uX h1;refine⟨(xs,v,T,G),λx C y=>?_⟩;let(D,y):=y;subst D;have:=y xs T;rw[G] at this;cases this;exact(B,bA.refl A,Has.same J M)
 stop:=λi B E e J A=>(xs,(J.trans A).uX h1,by rwa [<-!h2])
def ac0 {lo:Int}:KC K F (Z6 lo n) (nR lo n) where
 go:=λi d A E e J B=>by
  delta nR at e;rw[ay] at e;by_cases N:i<n
  .rw[ky N] at e;k_go;refine⟨N,λx C y=>?_⟩;let(D,G):=y;subst D G;exact(A,bA.refl B,rfl)
  .rw[bm (by simp;lk)] at e;k_go
 stop:=λi A E e J B=>by delta nR at e;show n<=i;simpa using e
def aaH (h1:aU K F a xs)(h2:aK K F ds xs):KC K F (Ite K a) (oG 0 ds) where
 go:=λi d B E e J A=>by
  rw[Ni] at e;cases q:ds[i]? with
  |none=>rw[q] at e;k_go
  |some O=>rw[q] at e;k_go;let(v,G,M):=h2.at q;have T:=(J.trans A).seq h1;refine⟨(xs,v,T,G),λx D y=>?_⟩;let(j,z,L,H,N,I):=y;subst H I;have:=N xs T;rw[G] at this;cases this;have C:bA B E (upd B j<|.tup [.int (i:Int),v]) (upd E j<|.tup [.int (i:Int),v]):=bA.Bg A L;refine(_,C,j,_,rfl,cF.of ao,_,_,rfl,?_,_,_,rfl,Has.same (J.trans C.ff) M,rfl);show V.int (i:Int)=V.int ((0+i:Nat):Int);rw[kn]
 stop:=λi B E e J A=>(xs,(J.trans A).seq h1,by rw[<-!h2];rw[Rv] at e;calc e)
def sqb (e:Same H E)(h:Bm f K H a xs):Bm f K E a xs:=by
 cases f with
 |true=>calc e.uX h
 |false=>calc e.seq h
def ac1 (h1:Bm r K F a xs)(h2:aK K F ds xs)(L:aU K F b ys)(g:aK K F D ys)(n:(!ds)<=!D):KC K F (Itx K r a b) (uf ds D) where
 go:=λi d B E e J A=>by
  delta uf at e;rw[List.getElem?_zipWith] at e;cases q:ds[i]? with
  |none=>lk
  |some t=>
   cases M:D[i]? with
   |none=>lk
   |some c=>rw[q,M] at e;k_go;let(v,I,m):=h2.at q;let(u,H,f):=g.at M;have T:=sqb (J.trans A) h1;have C:=(J.trans A).seq L;refine⟨(xs,v,ys,u,T,I,C,H),λx Q y=>?_⟩;let(j,z,w,l,U,p,o,Y):=y;subst U Y;have N:=p xs T;have O:=o ys C;rw[I] at N;rw[H] at O;cases N;cases O;have G:bA B E (upd B j<|.tup [v,u]) (upd E j<|.tup [v,u]):=bA.Bg A l;exact(_,G,j,_,rfl,cF.of ao,_,_,rfl,Has.same (J.trans G.ff) m,_,_,rfl,Has.same (J.trans G.ff) f,rfl)
 stop:=λi B E e J A=>by delta uf at e;rw[oz] at e;calc(xs,ys,sqb (J.trans A) h1,(J.trans A).seq L,by rw[<-!h2];lk)
def itL (N:PE X l (tV X.K RS f)):PI X O l (u5 X.K<|dM f):=PI.imp (jW N) λ_ H Q q=>by
 let(A,G,M,S,F,I,L,e,q):=q;delta dM at e;f_are
 .rename_i J;k_go;refine(A,G,M,S,F,I,_,J,λv B E g C=>?_);let(a,D,rfl,h1,h2):=C;exact(a,rfl,⟨D,g.fh.seq h1⟩,q _ B E g<|aaG h1 h2)
 .k_go
def itT (N:PE X l (tV X.K RS f)):PI X O l (u5 X.K<|uP f):=PI.imp (Z8 N) λ_ H Q q=>by
 let(A,G,M,S,F,I,L,e,q):=q;delta uP at e;f_are
 .rename_i J;k_go;refine(A,G,M,S,F,I,_,J,λv B E g C=>?_);let(a,D,rfl,h1,h2):=C;exact(a,rfl,⟨D,g.fh.uX h1⟩,q _ B E g<|acZ h1 h2)
 .k_go
def aob (h:PI X L l (O9<|Gk X.K fs)):PI X L l (u5 X.K<|zj fs):=PI.imp h λ_ H Q q=>by
 let(A,G,M,S,F,I,N,e,q):=q;delta zj at e;f_are
 .rename_i j J;f_are
  .rename_i Y;k_go;refine(A,G,M,S,F,I,_,J,λO C E g D=>?_);let(v,rfl,B):=aK.one D;exact(j,by rw[B],Y.1,Y.2,q _ C E g ac0)
  .k_go
 .k_go
def itE (h:PI X D l (X8 X.K<|Ai X.K fs)):PI X D l (u5 X.K<|zm fs):=PI.imp h λ_ H Q q=>by
 let(A,G,M,S,F,I,N,e,q):=q;delta zm at e;f_are
 .rename_i O J;k_go;refine(A,G,M,S,F,I,_,J,λT B E g C=>?_);let(v,rfl,a,L,rfl,h1,h2):=aK.one C;exact(a,rfl,⟨L,g.fh.seq h1⟩,q _ B E g<|aaH h1 h2)
 .k_go
set_option tactic.hygienic true in
def agu (h:Has K H d v)(e:Yw d=#[(f,ds)]):∃a xs,v=.ref a/\Bm f K H a xs/\aK K H ds xs:=by
 cases d with
 |tuple _=>cases e;calc h
 |list _=>cases e;calc h
 |_=>cases e
def itZ (h:PI X U l (iZt X.K<|Ai X.K fs)):PI X U l (u5 X.K<|Bq fs):=PI.imp h λ_ H Q q=>by
 let(A,G,M,S,F,I,C,e,q):=q;delta Bq at e;f_are
 .rename_i d m O;f_are
  .rename_i f C T;f_are
   .rename_i N;k_go;refine(A,G,M,S,F,I,_,O,λo B E g L=>?_);let(v,u,rfl,h,b,j,rfl,J,D):=aK.two L;let(a,Y,e,h1,h2):=agu h T;subst e;exact(_,a,b,rfl,⟨Y,sqb g.fh h1⟩,⟨j,g.fh.seq J⟩,q _ B E g<|ac1 h1 h2 J D N)
   .k_go
  .k_go
 .k_go
end
section
variable {B:St}
theorem VI.set (I:VI K D G M S F B H)(Q:Has K F d v):VI K D G M (S.set i<|#[(.fr,d)]) F (B.set i<|#[v]) H where
 len:=by rw[cc,cc];exact I.len
 same:=I.same
 gf:=I.gf
 new:=I.new
 sub:=I.sub
 slot:=λj t J e=>by
  by_cases Y:j=i
  .subst Y;by_cases N:j<!S
   .rw[bo N] at e;k_go;exact(v,bo<|by rwa [<-I.len],Q)
   .rw[bm (by rw[cc];lk)] at e;k_go
  .rw[bP<|ci Y] at e ⊢;exact I.slot j t J e
 inj:=λj k t T L O u A C r E v1 v2=>by
  have h1:j≠i:=λz=>by
   subst z;by_cases N:j<!S
   .rw[bo N] at A;cases A;exact(bp r)
   .rw[bm (by rw[cc];lk)] at A;cases A
  have h2:k≠i:=λz=>by
   subst z;by_cases N:k<!S
   .rw[bo N] at C;cases C;exact(bp E)
   .rw[bm (by rw[cc];lk)] at C;cases C
  rw[bP<|ci h1] at A v1;rw[bP<|ci h2] at C v2;calc I.inj j k t T L O u A C r E v1 v2
end
abbrev VG:=()->GS->↑GS
abbrev Wb:=¬()->GS->↑GS
def Gn (S:GS)(i:Nat):Bool:=match S[i]? with
 |some #[(.io,_)]=>false
 |_=>true
def gN (i:Nat):VG:=λd S=>if Gn S i=true then #[S.set i<|#[(.fr,d)]] else none
def g0:Wb:=λA S=>match A with
 |[]=>#[S]
 |_=>none
def gC (t:VG)(u:Wb):Wb:=λB S=>match B with
 |d::r=>match t d S with
  |some A=>u r A
  |none=>none
 |[]=>none
def gT (n:Nat)(u:Wb):VG:=λd S=>match d with
 |.tuple A=>if (!A)=n then u A S else none
 |_=>none
inductive xZ (K:Frag)(t:VG)(js:¬Nat)(v:V)(σ:St)(H:Hp)(Q:(St->Hp->Prop)):Prop
 |mk:∀jQ G cQ S F,VI K jQ G cQ S F σ H->∀d S',Has K F d v->t d S=#[S']->(∀mK,(∀(j:Nat),Not (j∈js)->mK[j]? =σ[j]?)->VI K jQ G cQ S' F mK H->Q mK H)->xZ K t js v σ H Q
inductive Rw (K:Frag)(t:Wb)(js:¬Nat)(vs:¬V)(σ:St)(H:Hp)(Q:(St->Hp->Prop)):Prop
 |mk:∀jQ G cQ S F,VI K jQ G cQ S F σ H->∀ds S',aK K F ds vs->t ds S=#[S']->(∀mK,(∀(j:Nat),Not (j∈js)->mK[j]? =σ[j]?)->VI K jQ G cQ S' F mK H->Q mK H)->Rw K t js vs σ H Q
section
variable {A:Pos}
def tgN (h:PG X e (cg i)):PG X e (xZ X.K (gN i) [i]):=PG.imp h λv E H Q q=>by
 let(C,G,M,S,F,I,d,D,B,e,q):=q;delta gN at e;f_are
 .k_go;exact q _ (λj Y=>bP<|λz=>Y<|by simp[z]) (I.set B)
 .k_go
def sS.imp (h:sS X D t)(U:∀v C H Q,t' v C H Q->t v C H Q):sS X D t':=λB s C H v u Q I r q=>h B s C H v u Q I r<|U v C H Q q
def tg0:sS X [] (Rw X.K g0 []):=sS.imp jZ λL D H Q q=>by
 let(C,G,M,S,F,I,J,E,B,e,q):=q;delta g0 at e;f_are
 .k_go;rw[B];exact q D (λ_ _=>rfl) I
 .k_go
def tgC (h1:PG X e (xZ X.K t Y))(h2:sS X D (Rw X.K u k))(T:((assignEach (e::D) X.env).map (·.2)=assign e X.env::(assignEach D X.env).map (·.2))∣0):sS X (e::D) (Rw X.K (gC t u)<|Y++k):=sS.imp (bM h1 h2 T) λb c H Q q=>by
 let(B,G,M,S,F,I,m,L,O,e,q):=q;delta gC at e;f_are
 .rename_i d r;f_are
  .rename_i E g;let(v,z,rfl,U,hr):=O;refine(B,G,M,S,F,I,d,E,U,g,λl p J=>(B,G,M,E,F,J,r,L,hr,e,λC y N=>q C (λj o=>?_) N));grind
  .k_go
 .k_go
def tgT (h:sS X D (Rw X.K u Y))(N:((!(assignEach D X.env))=n)∣0)(C:((assignEach D X.env).findIdx? (·.1)=none)∣0):PG X (.Tuple D k A) (xZ X.K (gT n u) Y):=PG.imp (m6 h N C) λv U H Q q=>by
 let(B,G,M,S,F,I,d,E,L,e,q):=q;delta gT at e;f_are
 .rename_i J;f_are
  .rename_i T;let(a,O,rfl,h1,h2):=L;exact(O,I.sub.uX h1,by rwa [<-!h2],B,G,M,S,F,I,J,E,h2,e,q)
  .k_go
 .k_go
end
def u6 (S:GS):↑Nat->↑(Tg×())
 |none=>none
 |some j=>match S[j]? with
  |some #[(.fr,d)]=>#[(.fr,d)]
  |some #[(.ow,d)]=>#[(.fr,d)]
  |some #[(.io,d)]=>#[(.fr,d)]
  |_=>none
def m7 (S:GS):¬(↑Nat)->Bool
 |[]=>true
 |none::r=>m7 S r
 |some j::r=>(match S[j]? with
  |some #[(.fr,_)]=>true
  |some #[_]=>false
  |_=>true) && m7 S r
def iI (cap:¬(↑Nat))(S:GS):GS:=cap.map<|u6 S
def nU (t:VG)(B:VT)(A:VE)(S:GS):¬()->↑(¬())
 |[]=>#[[]]
 |d::r=>match t d S with
  |none=>none
  |some C=>match B C with
   |none=>none
   |some false=>nU t B A S r
   |some true=>match A C with
    |none=>none
    |some e=>match nU t B A S r with
     |none=>none
     |some D=>#[e::D]
def lJ (E:VA)(cap:¬(↑Nat))(t:VG)(B:VT)(C:VE):VE:=λS=>match E S with
 |some A=>@ite _ (m7 S cap=true/\(!A)<sizeLine) (Classical.propDecidable _) (match nU t B C (iI cap S) A with
  |some D=>#[.list D]
  |none=>none) none
 |none=>none
def Br (E:VA)(cap:¬(↑Nat))(t:VG)(B:VT)(C:VE):VE:=λS=>match E S with
 |some A=>@ite _ ((!A)<sizeLine) (Classical.propDecidable _) (match nU t B (Gg C) (iI cap S) A with
  |some D=>#[.list D]
  |none=>none) none
 |none=>none
def Rx {i:Nat}(h:(iI cap S)[i]? =#[#[(t,d)]]):∃j t',cap[i]? =#[#[j]]/\S[j]? =#[#[(t',d)]]/\t'.dat=true/\t=.fr:=by
 delta iI at h;rw[ay] at h;cases q:cap[i]? with
 |none=>rw[q] at h;cases h
 |some o=>
  rw[q] at h;cases o with
  |none=>simp[u6] at h
  |some j=>
   erw[map_some,u6,eA] at h;split at h
   .rename_i C hS;cases h;exact(j,.fr,rfl,hS,rfl,rfl)
   .rename_i C hS;cases h;exact(j,.ow,rfl,hS,rfl,rfl)
   .rename_i C hS;cases h;exact(j,.io,rfl,hS,rfl,rfl)
   .cases h
theorem Bt:∀{cap:¬(↑Nat)}{i j:Nat} {t:Tg} {d:()},m7 S cap=true->cap[i]? =#[#[j]]->S[j]? =#[#[(t,d)]]->t=.fr
 |[],i,j,t,d,_,h,_=>by simp at h
 |none::r,0,j,t,d,_,h,_=>by simp at h
 |none::r,i+1,j,t,d,O,h,D=>Bt (cap:=r) (i:=i) O ‹h› D
 |some k::r,0,j,t,d,O,h,D=>by
  have e:k=j:=‹h›
  subst e;unfold m7 at O;lk
 |some k::r,i+1,j,t,d,O,h,D=>by unfold m7 at O;rw[bj] at O;calc Bt (cap:=r) (i:=i) O.2 ‹h› D
def aaI {i j:Nat}(h:cap[i]? =#[#[j]])(D:B[j]? =#[#[v]]):(cR cap B)[i]? =#[#[v]]:=by delta cR;rw[ay,h];erw[map_some,D]
section
variable {cap:¬(↑Nat)}
def VI.block (I:VI K B G M S F D H){R:Hp}(L:Same R H)(O:∀(i j:Nat) t d v,cap[i]? =#[#[j]]->S[j]? =#[#[(t,d)]]->D[j]? =#[#[v]]->t.dat=true->aay K B M F H j t d v->Has K R d v):
  VI K (λ_=>none) R H (iI cap S) R (cR cap D) H where
 len:=by delta iI cR;rw[ac,ac]
 same:=Same.refl _
 gf:=Same.refl _
 new:=λ_ _ e=>.inl e
 sub:=L
 slot:=λi t d e=>by let(j,C,h1,h2,J,rfl):=Rx e;let(v,A,N):=I.slot j C d h2;exact(v,aaI h1 A,O i j C d v h1 h2 A J N)
 inj:=λi j t C d Q v E _ r=>by let(_,_,_,_,_,rfl):=Rx E;calc absurd r bp
def VI.ac2 (I:VI K A G M S F B H)(O:m7 S cap=true):VI K (λ_=>none) F H (iI cap S) F (cR cap B) H:=
 I.block I.sub λi j t d v h1 h2 _ _ D=>by have:=Bt O h1 h2;subst this;calc D
def VI.aaJ (I:VI K E G M S F O H):VI K (λ_=>none) H H (iI cap S) H (cR cap O) H:=
 I.block (Same.refl _) λi j t d v h1 h2 _ T D=>by
  have A:fZ K M F H d v->Has K H d v:=λ(a,Q,N,B,C,J,_,_,L)=>by rw[B];exact(a,N,C,aU.of J,L.same I.sub)
  cases t with
  |fr=>calc Has.same I.sub D
  |ow=>calc A D
  |io=>calc A D.1
end
def agv {Y:¬Nat}(A:(Y.all λj=>cap[j]? ==#[none])=true)(k:∀(j:Nat),Not (j∈Y)->B[j]? =(cR cap D)[j]?):dD (cR cap D) B:=λj v e=>by
 by_cases C:j∈Y
 .have:=cp.mp A j C;have O:cap[j]? =#[none]:=‹this›
  delta cR at e;rw[ay,O] at e;simp at e
 .rwa [k j C]
def ae9 (hjs:(js.all λj=>cap[j]? ==#[none])=true)
  (I:VI K jQ G c S F σ H)(e1:fi S=#[ds])(Yx:(!ds)<sizeLine)(e2:nU t fc n (iI cap S) ds=#[es])
  (f:Hp->Hp->Hp)(hb:∀B E,bA F H B E->VI K (λ_=>none) (f B E) E (iI cap S) (f B E) (cR cap σ) E/\Same B (f B E))
  (hr:∀(B E M N:Hp) S2 d v,n S2=#[d]->Same B E->bA (f B E) E M N->Has K M d v->∃h,bA B E h N/\Has K h d v)(hfe:∀S d,n S=#[d]->fe' S=#[d])
  (q:∀v B E,bA F H B E->RN K F H B E (.list es) v->Q v E):sX (u5 K fi) cap (xZ K t js) (gQ K fc) (tV K RS fe') σ H Q:=by
 refine(jQ,G,c,S,F,I,ds,e1,λJ F1 H1 s it D hD=>?_);refine(λi m E=>∃B L T r,m=(!ds) - i/\i<=!ds/\E D=#[.lst r]/\B D=none/\aK K B L r/\bA F1 H1 B E/\(!L)<=i/\nU t fc n (iI cap S) (ds.drop i)=#[T]/\L++T=es,?_,?_)
 .exact(_,F1,[],es,[],rfl,cv _,ao,s.fh.free hD,rfl,bA.alloc s.fh hD,cv _,e2,rfl)
 .rintro i m E ⟨B,L,T,r,rfl,hi,k,p,hh,g,hle,A,C⟩;by_cases l:i<!ds
  .have hd:ds[i]? =#[ds[i]]:=by simp[l]
   rw[eK l] at A;let(go,yl):=it.go i ds[i] B E hd g.ff g.fh;refine .inr ⟨go,λx N y=>?_⟩;let(M,O,hx):=yl x N y;let(IB,hR):=hb M N<|(s.trans g).trans O;have hr':=hr M N;generalize f M N=R at*
   generalize ds[i]=d0 at*
   unfold nU at A;cases q1:t d0 (iI cap S) with
   |none=>rw[q1] at A;cases A
   |some S2=>
    rw[q1] at A;simp only at A;refine(λ_=>none,R,N,iI cap S,R,IB,d0,S2,Has.same hR hx,q1,λσ2 k2 I2=>⟨agv hjs k2,?_⟩);have D2:=O.hh _ _ k;cases q2:fc S2 with
    |none=>rw[q2] at A;cases A
    |some b=>
     rw[q2] at A;refine(λ_=>none,R,N,S2,R,I2,b,q2,λh H3 u=>?_);cases b with
     |false=>
      erw[dS,eg];have gg:bA B E M H3:=(O.hh.trans u.hh,O.ff,hR.trans<|u.ff.trans u.fh,O.new);have hF2:M D=none:=by
       cases z:M D with
       |none=>rfl
       |some o=>
        rcases O.new D o z with w|w|w
        .rw[p] at w;cases w
        .rw[k] at w;cases w
        .have:=O.fh D o z;rw[D2] at this;cases this;simp[Ae] at w
      calc((!ds) - (i+1),by lk,M,L,T,r,rfl,l,u.hh _ _ D2,hF2,hh.same O.ff,g.trans gg,by lk,A,C)
     |true=>
      erw[dE] at A ⊢;cases q3:n S2 with
      |none=>rw[q3] at A;cases A
      |some e0=>
       rw[q3] at A;simp only at A;cases q4:nU t fc n (iI cap S) (ds.drop<|i+1) with
       |none=>rw[q4] at A;cases A
       |some es3=>
        rw[q4] at A;cases A;refine(λ_=>none,R,N,S2,h,I2.grow u,e0,hfe _ _ q3,λv F4 H4 g4 hv=>?_);let(F5,g5,hv5):=hr' F4 H4 S2 e0 v q3 O.fh (u.trans g4) hv;have D4:=g5.hh _ _ D2;have Y:=O.trans g5;have a:F5 D=none:=by
         cases z:F5 D with
         |none=>rfl
         |some o=>
          rcases Y.new D o z with w|w|w
          .rw[p] at w;cases w
          .rw[k] at w;cases w
          .have:=Y.fh D o z;rw[D4] at this;cases this;simp[Ae] at w
        have hly:=!hh;refine(r,D4,by lk,(!ds) - (i+1),by lk,F5,L++[e0],es3,r++[v],rfl,l,ao,a,aK.snoc hv5<|hh.same Y.ff,?_,by simp;lk,rfl,by simpa using C);have U:=g.trans Y;refine(λb o e=>?_,U.ff,λb o e=>?_,U.new)
        .rw[au<|aV e hD];exact U.hh b o e
        .rw[au<|aV e a];exact U.fh b o e
  .have hie:i=!ds:=by lk
   subst hie;rw[nk<|av _] at A;cases A;rw[fS] at C;subst C;refine .inl ⟨it.stop _ B E (av _) g.ff g.fh,q _ B E (s.trans g) (_,D,r,rfl,rfl,s.hh.free hD,p,k,hh)⟩
def ac3 (B:(l.all λj=>cap[j]? ==#[none])=true)(q:tV K RN (lJ T cap t L N) m H Q):
  sX (u5 K T) cap (xZ K t l) (gQ K L) (tV K RS N) m H Q:=by
 let(k,G,M,S,F,I,d,e,q):=q;delta lJ at e;f_are
 .rename_i r D;f_are
  .rename_i O;f_are
   .rename_i u J;k_go;exact ae9 B I D O.2 J (λA _=>A) (λA E g=>⟨(I.grow g).ac2 O.1,Same.refl _⟩) (λA E C o p d v _ _ U Y=>(C,U,Y)) (λ_ _ h=>h) q
   .k_go
  .k_go
 .k_go
def ak1 (A:(o.all λj=>cap[j]? ==#[none])=true)(q:tV K RN (Br U cap t N O) p H Q):
  sX (u5 K U) cap (xZ K t o) (gQ K N) (tV K RS O) p H Q:=by
 let(m,G,M,S,F,I,d,e,q):=q;delta Br at e;f_are
 .rename_i y D;f_are
  .rename_i Y;f_are
   .rename_i z L;k_go;exact ae9 A I D Y L (λ_ E=>E) (λB E g=>⟨(I.grow g).aaJ,g.fh⟩) (λB E r C u d v k T J l=>((wide B C,M8 (J.hh,Same.refl _,T.trans J.hh,λ_ _ e=>.inl e),Gf (M9 k).2<|Has.same J.fh l))) (λ_ _ h=>(M9 h).1) q
   .k_go
  .k_go
 .k_go
def fj:VT:=λ_=>#[true]
def nF.imp (h:nF X C t)(U:∀B H Q,t' B H Q->t B H Q):nF X C t':=λA s B H Q I q=>h A s B H Q I<|U B H Q q
def ifN:nF X [] (gQ X.K fj):=nF.imp lU λ_ H Q q=>by let(A,G,M,S,F,I,b,e,q):=q;cases e;calc q F H<|bA.refl I.sub
def dLC (Q:PE X e (sX (u5 X.K E) cap (xZ X.K t Y) (gQ X.K B)<|tV X.K RS C))(A:((Y.all λj=>cap[j]? ==#[none])=true)∣0):PE X e (tV X.K RN<|lJ E cap t B C):=
 Q.imp λ_ _ _ q=>ac3 A q
def aoc (Q:PE X e (sX (u5 X.K E) cap (xZ X.K t Y) (gQ X.K B)<|tV X.K RS C))(A:((Y.all λj=>cap[j]? ==#[none])=true)∣0):PE X e (tV X.K RN<|Br E cap t B C):=
 Q.imp λ_ _ _ q=>ak1 A q
inductive Out where
 |fail
 |nxt (S:GS)
 |ret (S:GS) (b:Bool) (d:())
abbrev VS:=GS->Out
def RR (K:Frag)(M:Hp)(S:GS)(B:St)(F H:Hp):Bool->()->V->Prop
 |false,d,v=>Has K F d v
 |true,d,v=>fZ K M F H d v/\∀(i:Nat) t C,S[i]? =#[#[(t,C)]]->t.own=true->B[i]? ≠#[#[v]]
def fV (K:Frag)(A:Nat->↑Addr)(G M:Hp)(D:Ends):Out->Prop
 |.fail=>False
 |.nxt S=>∀F B H,VI K A G M S F B H->D.nx B H
 |.ret S b d=>∀v F B H,VI K A G M S F B H->RR K M S B F H b d v->D.rt v H
inductive gJ (K:Frag)(g:VS)(D:Ends)(σ:St)(H:Hp):Prop
 |mk:∀jQ G cQ S F,VI K jQ G cQ S F σ H->fV K jQ G cQ D (g S)->gJ K g D σ H
section
variable {D:Ends}
def VI.self (I:VI K A G M S F B H):VI K A F M S F B H:=(I.len,I.same,Same.refl _,λ_ _ e=>.inl e,I.sub,I.slot,I.inj)
def VI.rebase (I:VI K A G M S F N H)(J:VI K A F M L C B E):VI K A G M L C B E:=(J.len,J.same,I.gf.trans J.gf,λa o e=>by
 rcases J.new a o e with z|z|z
 .exact I.new a o z
 .exact .inr<|.inl z
 .calc .inr (.inr z),J.sub,J.slot,J.inj)
end
def dH:VS:=λS=>.nxt S
def aR (C J:VS):VS:=λS=>match C S with
 |.nxt A=>J A
 |o=>o
def gw (c:VT)(C J:VS):VS:=λS=>match c S with
 |some true=>C S
 |some false=>J S
 |none=>.fail
section
variable {rest a b:¬Stmt}
def aod:jl X [] (gJ X.K dH):=jl.imp aX λD B H q=>by let(A,G,M,S,F,I,q):=q;calc q F B H I
def aoe (h:PS X s (gJ X.K g)):jl X [s] (gJ X.K g):=aJ h
def aof (h1:PS X s (gJ X.K C))(h2:jl X rest (gJ X.K L)):jl X (s::rest) (gJ X.K<|aR C L):=jl.imp (aq h1 h2) λD Q H q=>by
 f_tup;refine(A,G,M,S,F,I,?_);delta aR at q;cases e:C S with
 |fail=>rw[e] at q;calc q
 |ret B b d=>rw[e] at q;calc q
 |nxt B=>rw[e] at q;calc λE N O J=>(A,G,M,B,E,J,q)
def sIf (O:PT X c (gQ X.K tc))(E:jl X a (gJ X.K C))(L:jl X b (gJ X.K J)):PS X (.If c a b N) (gJ X.K<|gw tc C J):=PS.imp (bI O E L) λD T H q=>by
 f_tup;delta gw at q;cases e:tc S with
 |none=>rw[e] at q;calc q.elim
 |some k=>
  rw[e] at q;refine(A,G,M,S,F,I,k,e,λB Q g=>?_);cases k with
  |true=>erw[dE];calc(A,G,M,S,B,I.grow g,q)
  |false=>erw[dS,eg];calc(A,G,M,S,B,I.grow g,q)
def pQ:VS:=λ_=>.fail
def ain:PS X s (gJ X.K pQ):=PS.imp kJ λD B H q=>by let(_,_,_,_,_,_,q):=q;calc q
end
def eX (f:VE):VS:=λS=>match f S with
 |some d=>.ret S false d
 |none=>.fail
def rR (f:VE):VS:=λS=>match f S with
 |some d=>.ret S true d
 |none=>.fail
def iB (i:Nat):VS:=λS=>match S[i]? with
 |some #[(.ow,d)]=>.ret (S.set i none) true d
 |some #[(.fr,d)]=>.ret S false d
 |_=>.fail
section
variable {B:St}
def pR {S:GS}(h:(S.set i none)[j]? =#[#[x]]):j≠i/\S[j]? =#[#[x]]:=by
 by_cases Y:j=i
 .subst Y;by_cases N:j<!S
  .rw[bo N] at h;cases h
  .rw[bm (by rw[cc];lk)] at h;cases h
 .rw[bP<|ci Y] at h;calc⟨Y,h⟩
def VI.drop (I:VI K A G M S F B H)(i:Nat):VI K A G M (S.set i none) F B H where
 len:=by rw[cc];exact I.len
 same:=I.same
 gf:=I.gf
 new:=I.new
 sub:=I.sub
 slot:=λj t d e=>I.slot j t d (pR e).2
 inj:=λj k t J d C v D E=>I.inj j k t J d C v (pR D).2 (pR E).2
def Nj (I:VI K O G M S F B H){i:Nat}(e:S[i]? =#[#[(t,d)]])(U:t.own=true)(N:B[i]? =#[#[.ref a]]):∃xs,H a=#[xs]:=by
 let(v,A,D):=I.slot i t d e;rw[N] at A;cases A;cases t with
 |fr=>cases U
 |ow=>let(E,L,xs,_,C,J,_):=D;cases C;calc⟨_,J⟩
 |io=>let(E,L,xs,_,C,J,_):=D.1;cases C;calc⟨_,J⟩
theorem RN.own {d:()}{v:V}(I:VI K O G M S F B H)(r:RN K F H C E d v):fZ K M C E d v/\∀(i:Nat) t d',S[i]? =#[#[(t,d')]]->t.own=true->B[i]? ≠#[#[v]]:=by let(D,a,Q,h1,h2,J,L,k,N):=r;refine⟨(a,D,Q,h1,h2,k,L,I.same.free J,N),λi t d' e U A=>?_⟩;rw[h2] at A;let(T,n):=Nj I e U A;lk
end
section
variable {s:Stmt}
def aog (Q:PE X e (tV X.K RS f)):PS X (.Return #[e] J) (gJ X.K<|eX f):=PS.imp (aZ Q) λD L H q=>by
 f_tup;delta eX at q;cases e:f S with
 |none=>rw[e] at q;calc q.elim
 |some d=>rw[e] at q;calc(A,G,M,S,F,I,d,e,λv B E g C=>q v B L E (I.grow g) C)
def ak2 (Q:PE X e (tV X.K RN f)):PS X (.Return #[e] J) (gJ X.K<|rR f):=PS.imp (aZ Q) λD L H q=>by
 f_tup;delta rR at q;cases e:f S with
 |none=>rw[e] at q;calc q.elim
 |some d=>rw[e] at q;calc(A,G,M,S,F,I,d,e,λv B E g C=>q v B L E (I.grow g)<|RN.own I C)
def ak3 {i:Nat}(Q:PE X e (vR i)):PS X (.Return #[e] N) (gJ X.K<|iB i):=PS.imp (aZ Q) λD B H q=>by
 let(L,G,E,S,F,I,q):=q;delta iB at q;split at q
 .rename_i d hS;let(v,M,A):=I.slot i .ow d hS;show vR i B H D.rt;delta vR;rw[M];refine q v F B H (I.drop i) ⟨A,λj t J e U C=>?_⟩;let(Y,e):=pR e;exact Y<|I.inj j i t .ow J d v e hS U rfl C M
 .rename_i d hS;let(v,M,A):=I.slot i .fr d hS;show vR i B H D.rt;delta vR;rw[M];exact q v F B H I A
 .calc q.elim
def gEx (f:VE):VS:=λS=>match f S with
 |some _=>.nxt S
 |none=>.fail
def eV (f:VE)(t:VG):VS:=λS=>match f S with
 |some d=>match t d S with
  |some D=>.nxt D
  |none=>.fail
 |none=>.fail
def sAs (h:PS X s (jq (tV X.K RS f)<|xZ X.K t Y)):PS X s (gJ X.K<|eV f t):=PS.imp h λD Q H q=>by
 f_tup;delta eV at q;cases e:f S with
 |none=>rw[e] at q;calc q.elim
 |some d=>
  rw[e] at q;simp only at q;cases B:t d S with
  |none=>rw[B] at q;calc q.elim
  |some N=>rw[B] at q;calc(A,G,M,S,F,I,d,e,λv E J g O=>(A,G,M,S,E,I.grow g,d,N,O,B,λC _ L=>q E C J L))
def qD (i:Nat)(f:VE):VS:=λS=>match f S with
 |some d=>if Gn S i=true then .nxt (S.set i<|#[(.ow,d)]) else .fail
 |none=>.fail
def VI.aio (I:VI K J G M S F L H)(g:fZ K M F H d v)(Q:∀(i:Nat) t d',S[i]? =#[#[(t,d')]]->t.own=true->L[i]? ≠#[#[v]]):
  VI K J G M (S.set i<|#[(.ow,d)]) F (L.set i<|#[v]) H where
 len:=by rw[cc,cc];exact I.len
 same:=I.same
 gf:=I.gf
 new:=I.new
 sub:=I.sub
 slot:=λj t d' e=>by
  by_cases Y:j=i
  .subst Y;by_cases N:j<!S
   .rw[bo N] at e;k_go;exact(v,bo<|by rwa [<-I.len],g)
   .rw[bm (by rw[cc];lk)] at e;k_go
  .rw[bP<|ci Y] at e ⊢;exact I.slot j t d' e
 inj:=λj k t U C O u B D r T v1 v2=>by
  have A:∀{j:Nat}{t:Tg} {C:()} {u:V},(S.set i<|#[(.ow,d)])[j]? =#[#[(t,C)]]->(L.set i<|#[v])[j]? =#[#[u]]->j=i->u=v:=λ{j t C u} B v1 z=>by
   subst z;by_cases N:j<!S
   .rw[bo (by rw[<-I.len];calc N)] at v1;exact(bv<|bv v1).symm
   .rw[bm (by rw[cc];lk)] at B;cases B
  by_cases Y:j=i
  .by_cases E:k=i
   .rw[Y,E]
   .have:=A B v1 Y;subst this;rw[bP<|ci E] at D v2;exact absurd v2<|Q k U O D T
  .by_cases E:k=i
   .have:=A D v2 E;subst this;rw[bP<|ci Y] at B v1;exact absurd v1<|Q j t C B r
   .rw[bP<|ci Y] at B v1;rw[bP<|ci E] at D v2;calc I.inj j k t U C O u B D r T v1 v2
def sOw (h:PS X s (jq (tV X.K RN f)<|cg i)):PS X s (gJ X.K<|qD i f):=PS.imp h λD J H q=>by
 f_tup;delta qD at q;cases e:f S with
 |none=>rw[e] at q;calc q.elim
 |some d=>
  rw[e] at q;simp only at q;split at q
  .refine(A,G,M,S,F,I,d,e,λv B E g C=>?_);let(h1,h2):=RN.own I C;exact q B _ E<|(I.grow g).aio h1 h2
  .calc q.elim
def Ry (h:PS X s (jq te g))(hi:∀B H Q,A B H Q->te B H Q):PS X s (jq A g):=PS.imp h λD B H q=>hi B H _ q
def dR (i:Nat)(S:GS):GS:=match S[i]? with
 |some #[(.ow,d)]=>S.set i<|#[(.fr,d)]
 |_=>S
def Rz (i:Nat)(g:VS):VS:=λS=>g<|dR i S
set_option tactic.hygienic true in
theorem VI.dR (I:VI K N G M S F σ H)(i:Nat):∃g,VI K N G M (dR i S) g σ H:=by
 delta VM.dR;split
 .rename_i d hS;let(v,hv,a,m,D,rfl,rfl,p,q,y,c):=I.slot i .ow d hS;have Q:i<!S:=by
   by_cases h:i<!S
   .exact h
   .rw[bm ∅] at hS;cases hS
  have O:Same F (upd F a<|.lst D):=aH q;have s2:Same (upd F a<|.lst D) H:=λb o e=>by
   by_cases B:b=a
   .subst B;rw[ao] at e;k_go;exact p
   .rw[au B] at e;exact I.sub b o e
  refine⟨upd F a<|.lst D,(by rw[cc];calc I.len,I.same,I.gf.trans O,λb o e=>?_,s2,λj t E e=>?_,λj k t t' A l u C n r T v1 v2=>?_)⟩
  .by_cases B:b=a
   .subst B;exact .inr<|.inl y
   .rw[au B] at e;exact I.new b o e
  .by_cases Y:j=i
   .subst Y;rw[bo Q] at e;k_go;exact(_,hv,a,D,rfl,aU.of ao,c.same O)
   .rw[bP<|ci Y] at e;let(u,f,J):=I.slot j t E e;have ow:t.own=true->fZ K M F H E u->fZ K M (upd F a<|.lst D) H E u:=λht (b,L,ys,h1,h2,w,h4,x,h6)=>by
     refine(b,L,ys,h1,h2,w,?_,x,h6.same O)
     have:b≠a:=λz=>by subst z;exact Y<|I.inj j i t .ow E _ _ e hS ht rfl f<|by rwa [h2]
     rwa [au this]
    refine(u,f,?_);cases t with
    |fr=>calc Has.same O J
    |ow=>calc ow rfl J
    |io=>exact⟨ow rfl J.1,J.2⟩
  .have U:∀{j:Nat}{t:Tg} {A:()},(S.set i<|#[(.fr,.list m)])[j]? =#[#[(t,A)]]->t.own=true->S[j]? =#[#[(t,A)]]:=λ{j t A} C r=>by
    by_cases Y:j=i
    .subst Y;rw[bo Q] at C;cases C;exact absurd r bp
    .rw[bP<|ci Y] at C;exact C
   exact I.inj j k t t' A l u (U C r) (U n T) r T v1 v2
 .calc⟨F,I⟩
def sFz (h:PS X s (gJ X.K g)):PS X s (gJ X.K<|Rz i g):=PS.imp h λD E H q=>by let(A,G,M,S,F,I,q):=q;let(B,C):=I.dR i;calc(A,G,M,_,B,C,q)
end
section
variable {B:St}
def jr (S:GS)(i:Nat):↑(Tg×¬()):=match S[i]? with
 |some #[(.ow,.list A)]=>#[(.ow,A)]
 |some #[(.io,.list A)]=>#[(.io,A)]
 |_=>none
def Nk (h:jr S i=#[(t,ds)]):S[i]? =#[#[(t,.list ds)]]/\t.own=true:=by
 delta jr at h;split at h
 .cases h;exact⟨by assumption,rfl⟩
 .cases h;exact⟨by assumption,rfl⟩
 .cases h
def RD (h:jr S i=#[(t,ds)]):t=.ow\/t=.io:=by delta jr at h;lk
theorem VI.own (I:VI K p G M S F B H)(h:jr S i=#[(t,ds)]):∃a xs,B[i]? =#[#[.ref a]]/\H a=#[.lst xs]/\aK K F ds xs/\
  ∀(A:¬()) (C:¬V) (D E:Hp),bA F H D E->aK K D A C->VI K p G M (S.set i<|#[(t,.list A)]) D B (upd E a<|.lst C):=by
 let(hS,ht):=Nk h;let(v,w,l):=I.slot i t _ hS;have ho:fZ K M F H (.list ds) v:=by
  rcases RD h with rfl|rfl
  .exact l
  .exact l.1
 let(a,ds0,xs,e1,rfl,d,e4,f,e6):=ho;cases e1;have hl:i<!S:=by grind
 refine(a,xs,w,d,e6,λA C D E g hx=>?_);have J:=I.grow g;have L:D a=none:=by
  cases q:D a with
  |none=>rfl
  |some o=>
   rcases g.new a o q with z|z|z
   .omega
   .omega
   .have:=g.fh a o q;rw[g.hh _ _ d] at this;cases this;simp[Ae] at z
 refine(by rw[cc];calc I.len,λb o e=>?_,J.gf,J.new,λb o e=>?_,λj Q O e=>?_,λj k N t2 T c u n g2 y x v1 v2=>?_)
 .rw[au<|aV e f];exact J.same b o e
 .rw[au<|aV e L];exact J.sub b o e
 .by_cases Y:j=i
  .subst Y;rw[bo hl] at e;k_go;refine(_,w,?_);have o:fZ K M D (upd E a<|.lst C) (.list A) (.ref a):=(a,A,C,rfl,rfl,ao,L,f,hx);rcases RD h with rfl|rfl
   .exact o
   .exact⟨o,l.2⟩
  .rw[bP<|ci Y] at e;let(u,s,r):=J.slot j Q O e;have ow:Q.own=true->fZ K M D E O u->fZ K M D (upd E a<|.lst C) O u:=λm (b,U,ys,h1,h2,h3,h4,h5,h6)=>by
    refine(b,U,ys,h1,h2,?_,h4,h5,h6)
    have:b≠a:=λz=>by subst z;exact Y<|I.inj j i Q t O _ _ e hS m ht s<|by rwa [h2]
    rwa [au this]
   refine(u,s,?_);cases Q with
   |fr=>calc r
   |ow=>calc ow rfl r
   |io=>exact⟨ow rfl r.1,r.2⟩
 .have nj:∀{j:Nat}{N:Tg} {T:()},(S.set i<|#[(t,.list A)])[j]? =#[#[(N,T)]]->N.own=true->∃c,S[j]? =#[#[(N,c)]]:=λ{j N T} n y=>by grind
  let(d3,q1):=nj n y;let(d4,q2):=nj g2 x;calc I.inj j k N t2 d3 d4 u q1 q2 y x v1 v2
end
def gM (i:Nat)(fs:VA):VS:=λS=>match jr S i,fs S with
 |some (t,A),#[[d]]=>@ite _ ((!A)<sizeLine) (Classical.propDecidable _) (.nxt<|S.set i<|#[(t,.list<|A++[d])]) .fail
 |_,_=>.fail
def qR (i:Nat)(B f:VE):VS:=λS=>match f S,B S,jr S i with
 |some d,#[.int k],#[(t,A)]=>(match pL (!A) k with
  |some j=>.nxt<|S.set i<|#[(t,.list<|A.set j d)]
  |none=>.fail)
 |_,_,_=>.fail
def oH (h:()->()->↑())(i:Nat)(B f:VE):VS:=λS=>match jr S i,B S,f S with
 |some (t,A),#[.int k],#[y]=>(match pL (!A) k with
  |some j=>(match A[j]? with
   |some x=>(match h x y with
    |some z=>.nxt<|S.set i<|#[(t,.list<|A.set j z)]
    |none=>.fail)
   |none=>.fail)
  |none=>.fail)
 |_,_,_=>.fail
def qT (h:()->()->↑())(i:Nat)(f:VE):VS:=λS=>match S[i]?,f S with
 |some #[(.fr,x)],#[y]=>(match h x y with
  |some z=>.nxt<|S.set i<|#[(.fr,z)]
  |none=>.fail)
 |_,_=>.fail
section
variable {h:()->()->↑()}
def aoh (Q:PS X s (iw<|pN X.K "list" wu (vR i)<|Ai X.K fs)):PS X s (gJ X.K<|gM i fs):=PS.imp Q λD j H q=>by
 let(C,G,M,S,F,I,q):=q;delta gM at q;split at q
 .rename_i t l d Y k;split at q
  .rename_i m;let(a,N,T,J,L,U):=I.own Y;delta iw pN vR;erw[T];refine(.inl (rfl,N,aU.of J),C,G,M,S,F,I,[d],k,λo E O g B=>?_);let(v,rfl,A):=aK.one B;refine(N,g.hh _ _ J,by rwa [<-!L],q E j _<|U _ _ E O g<|aK.snoc A<|L.same g.ff)
  .exact q.elim
 .calc q.elim
def aoi (g:PS X s (jq (tV X.K RS f)<|acq (vR i) (tV X.K RW U) Pn)):PS X s (gJ X.K<|qR i U f):=PS.imp g λD N H q=>by
 f_tup;delta qR at q;split at q
 .rename_i d k t b p r y;split at q
  .rename_i j n;refine(A,G,M,S,F,I,d,p,λv O Q E m=>?_);let(a,z,B,Y,L,o):=(I.grow E).own y;show vR i N Q _;delta vR;rw[B];refine(A,G,M,S,O,I.grow E,_,r,λu C T J l=>?_);subst l;refine(z,j,J.hh _ _ Y,by rwa [<-!L],q C N _<|o _ _ C T J<|aK.set (Has.same J.ff m) j<|L.same J.ff)
  .exact q.elim
 .calc q.elim
def getL:ahE X (acF X.K):=by
 intro A s g H x y v u Q I O U h;let(p,b,i,z,rfl,rfl,T,G,q):=h;cases O;let(t,rfl):=U;let(C,r,N,o):=I.list T;let(j,h1,h2,l,M,k):=xT G;let(w,L,E):=r.get h2;have J:=!r;have m:=sU;have B:EP X A g Q w s:=(z,H,I,E,q);by_cases D:0<=i
 .have Y:i.toNat=j:=by rw[mT D k] at h1;exact bv h1
  exact wpAny_getItem_list N.isList D ∅ (by rw[Y];simpa using L) B
 .have Y:(i+(C.toArray.size)).toNat=j:=by rw[lP ∅ M] at h1;rw[bu,←J];exact bv h1
  calc pE N.isList ∅ (by rw[bu]<;>lk) ∅ (by rw[Y];simpa using L) B
def afc (p:gW X.K h r)(b:PS X s (aeT (vR i) (tV X.K RW o) (tV X.K RS f) (acF X.K) r Pn)):PS X s (gJ X.K<|oH h i o f):=PS.imp b λD l H q=>by
 f_tup;delta oH at q;split at q
 .rename_i t ds k y q1 q2 q3;split at q
  .rename_i j q4;split at q
   .rename_i x q5;split at q
    .rename_i z q6;let(a,T,L,Y,Q,e):=I.own q1;show vR i l H _;delta vR;rw[L];refine(A,G,M,S,F,I,_,q2,λu m H1 E c=>?_);subst c;let(w,n,O):=Q.at q5;have B:pL (!T) k=#[j]:=by rwa [<-!Q]
     refine(a,T,k,w,rfl,rfl,aU.of (E.hh _ _ Y),by delta cP;rwa [B],?_);refine(A,G,M,S,m,I.grow E,y,q3,λv C U J d=>?_);have g:=E.trans J;exact p U w v x y z _ q6 (Has.same J.fh<|Has.same g.ff O) (Has.same J.fh d) λv2 N=>(T,j,g.hh _ _ Y,B,q C l _<|e _ _ C U g<|aK.set (N C) j<|Q.same g.ff)
    .exact q.elim
   .exact q.elim
  .exact q.elim
 .calc q.elim
def aip (J:gW X.K h r)(L:PS X s (Px i (tV X.K RS f) r)):PS X s (gJ X.K<|qT h i f):=PS.imp L λD Y H q=>by
 f_tup;delta qT at q;split at q
 .rename_i x y U k;split at q
  .rename_i z g;let(v,Q,N):=I.slot i .fr x U;delta Px;rw[Q];refine(A,G,M,S,F,I,y,k,λu B E C O=>?_);exact J E v u x y z _ g (Has.same C.fh<|Has.same C.ff N) (Has.same C.fh O) λw T=>q B _ E<|(I.grow C).set (T B)
  .exact q.elim
 .calc q.elim
end
def eE (t:VG)(g:VS):¬()->GS->Out
 |[],S=>.nxt S
 |d::r,S=>match t d S with
  |none=>.fail
  |some A=>match g A with
   |.nxt C=>eE t g r C
   |.ret C b e=>.ret C b e
   |.fail=>.fail
def pW (E:VA)(t:VG)(g:VS):VS:=λS=>match E S with
 |some A=>eE t g A S
 |none=>.fail
def bZ (c:VT)(g:VS):Nat->GS->Out
 |0,_=>.fail
 |n+1,S=>match c S with
  |none=>.fail
  |some false=>.nxt S
  |some true=>match g S with
   |.nxt C=>bZ c g n C
   |.ret C b e=>.ret C b e
   |.fail=>.fail
open Classical in
def Hz (c:VT)(g:VS):VS:=λS=>if h:∃n,bZ c g n S≠ .fail then bZ c g h.choose S else .fail
theorem Ez:∀{n:Nat}{S:GS},bZ c g n S≠ .fail->bZ c g (n+1) S=bZ c g n S
 |0,_,h=>absurd rfl h
 |n+1,S,h=>by
  rw[bZ];conv=>rhs;rw[bZ]
  rw[bZ] at h;cases q:c S with
  |none=>rfl
  |some b=>
   rw[q] at h;cases b with
   |false=>rfl
   |true=>
    simp only at h ⊢;cases k:g S with
    |nxt C=>rw[k] at h;calc Ez h
    |ret _ _ _=>rfl
    |fail=>rfl
def Np (h:bZ c g n S≠ .fail)(A:n<=m):bZ c g m S=bZ c g n S:=by
 induction A with
 |refl=>rfl
 |step A B=>rw[Ez (by rw[B];calc h),B]
def yc (h:bZ c g n S=o)(I:o≠ .fail):Hz c g S=o:=by
 have A:∃n,bZ c g n S≠ .fail:=⟨n,by rwa [h]⟩;delta Hz;rw[dif_pos A];rcases Nat.le_total n A.choose with l|l
 .rw[Np (by rw[h];calc I) l,h]
 .rw[<-Np A.choose_spec l,h]
section
variable {tc:VT}
def aoj (hp:PS X s (FP (u5 X.K fi) (xZ X.K t js)<|gJ X.K g)):PS X s (gJ X.K<|pW fi t g):=PS.imp hp λD σ H q=>by
 f_tup;unfold pW at q;split at q
 .rename_i B q1;refine(A,G,M,S,F,I,B,q1,λJ Q H1 g1 a=>?_);have p:=I.grow g1;refine(λi m E T=>∃U O,m=(!B) - i/\i<=!B/\VI X.K A Q M U O E T/\fV X.K A G M D (eE t g (B.drop i) U),(_,S,Q,rfl,cv _,p.self,q),?_);rintro i m E T ⟨U,O,rfl,hi,N,L⟩;by_cases C:i<!B
  .have hd:B[i]? =#[B[i]]:=by simp[C]
   rw[eK C] at L;let(go,yl):=a.go i B[i] O T hd N.gf N.sub;generalize B[i]=w at*
   unfold eE at L;cases c:t w U with
   |none=>rw[c] at L;calc L.elim
   |some z=>
    rw[c] at L;simp only at L;refine .inr (go,λf o=>∃m',m'<(!B) - i/\∃Y k,m'=(!B) - (i+1)/\i+1<=!B/\VI X.K A Q M Y k f o/\fV X.K A G M D (eE t g (B.drop<|i+1) Y),λ_ _ h=>h,λx o y=>?_);let(k,g2,hx):=yl x o y;refine(A,Q,M,U,k,N.grow g2,w,z,hx,c,λσ3 _ I3=>(A,Q,M,z,k,I3,?_));cases d:g z with
    |fail=>rw[d] at L;calc L.elim
    |nxt Y=>rw[d] at L;calc λl j n u=>(_,by lk,Y,l,rfl,C,u,L)
    |ret Y b e=>rw[d] at L;exact λv l j n u r=>L v l j n (p.rebase u) r
  .have e:i=!B:=by lk
   subst e;rw[nk<|av _] at L;exact .inl ⟨a.stop _ O T (av _) N.gf N.sub,L O E T<|p.rebase N⟩
 .calc q.elim
def sWh (u:PS X s (Z4 (gQ X.K tc)<|gJ X.K g)):PS X s (gJ X.K<|Hz tc g):=PS.imp u λD c H q=>by
 f_tup;delta Hz at q;split at q
 .rename_i z;refine(λm C U=>∃B E,VI X.K A G M B E C U/\fV X.K A G M D (bZ tc g m B),(z.choose,S,F,I,q),?_);rintro m C U ⟨B,E,N,L⟩;cases m with
  |zero=>calc L.elim
  |succ n=>
   rw[bZ] at L;cases k:tc B with
   |none=>rw[k] at L;calc L.elim
   |some b=>
    rw[k] at L;refine(A,G,M,B,E,N,b,k,λT J p=>?_);cases b with
    |false=>erw[dS,eg];calc L T C J<|N.grow p
    |true=>
     erw[dE];simp only at L;refine(λQ J=>∃t,t<n+1/\∃B E,VI X.K A G M B E Q J/\fV X.K A G M D (bZ tc g t B),λ_ _ h=>h,A,G,M,B,T,N.grow p,?_);cases O:g B with
     |fail=>rw[O] at L;calc L.elim
     |nxt o=>rw[O] at L;calc λl j Y y=>(n,by lk,o,l,y,L)
     |ret o b e=>rw[O] at L;exact λv l j Y y r=>L v l j Y y r
 .calc q.elim
end
def Bu (A:Nat)(ds:¬()):GS:=ds.map (λd=>#[(.fr,d)])++replicate (A - !ds) none
def iG (n B:Nat)(g:VS):f9:=λA=>if (!A)=n then(match g (Bu B A) with
 |.ret _ b d=>#[(b,d)]
 |.nxt _=>#[(false,.none)]
 |_=>none) else none
def Wc {i:Nat}(h:(Bu A ds)[i]? =#[#[(t,d)]]):ds[i]? =#[d]/\t=.fr:=by delta Bu at h;grind
section
variable {D:Heap}
def aiq {ds:¬()}(E:Same G H)(h:aK K G ds vs):VI K (λ_=>none) G H (Bu (!N) ds) G (L2.start N vs) H where
 len:=by delta Bu L2.start;simp[!h]
 same:=Same.refl _
 gf:=Same.refl _
 new:=λ_ _ e=>.inl e
 sub:=E
 slot:=λi t d e=>by
  let(B,rfl):=Wc e;let(v,M,A):=h.at B;refine(v,?_,A);have C:i<!vs:=by
   by_cases z:i<!vs
   .exact z
   .rw[bm ∅] at M;cases M
  delta L2.start;rw[b9<|‹C›,ay,M];rfl
 inj:=λi j t J d I v B _ r=>by rw[(Wc B).2] at r;calc absurd r bp
def aok (F:xU K x E st f l)(S:iz N ps (aP st))
  (u:∀(C:Value) (A:Around) (B:¬Env) (s:Shared) (H:Hp),cW k (A.deeper<|PyProof.Rows.envOfC E (aP st) (~~~s) f C)->jl (gA P w K z D N E (aP st) f C A B s H) (dU st) (gJ K g)):
  jK P w K z D (k+1) f l ps (Hy K<|iG (!ps) (!N) g):=by
 refine F.ok S (λc H Q h=>?_)<|λC A B s H c Q hr h=>(_,u C A B s H hr,?_)
 .let(G,U,_,O,b,d,e,_):=h;delta iG at e;f_are
  .rename_i hl;rwa [<-!O]
  .k_go
 .let(G,U,y,O,b,d,e,q):=h;delta iG at e;f_are
  .refine(λ_=>none,G,H,Bu (!N) U,G,aiq y O,?_);f_are
   .rename_i Y i d' M;k_go;rw[M];intro v J T L I r;refine q v J L (I.same,I.gf,I.sub,I.new) ?_;cases b with
    |false=>calc r
    |true=>let((a,j,n,h1,h2,m,o,p,t),_):=r;exact(j,a,n,h1,h2,p,o,m,t)
   .rename_i Y M;k_go;rw[M];intro J T L I;exact q .non J L (I.same,I.gf,I.sub,I.new) rfl
   .k_go
  .k_go
def fnV (F:xU K x B st f G)(S:iz N ps (aP st))(L:(!ps)=n)(I:(!N)=O)
  (J:∀(E:Value) (A:Around) (C:¬Env) (s:Shared) (H:Hp),cW k (A.deeper<|PyProof.Rows.envOfC B (aP st) (~~~s) f E)->jl (gA P w K M D N B (aP st) f E A C s H) (dU st) (gJ K g)):
  jK P w K M D (k+1) f G ps (Hy K<|iG n O g):=by
 subst L I;calc aok F S J
end
open PyProof.Rows (list_addW)
inductive afe (K:Frag)(x:V)(y:V)(H:Hp)(Q:VK):Prop
 |mk:∀l b xs zs,x=.ref l->y=.ref b->aU K H l xs->aU K H b zs->(!xs)+(!zs)<=sizeLine->(∀p,H p=none->Q (.ref p) (upd H p<|.lst<|xs++zs))->afe K x y H Q
def agw:cB X (binaryOp .Add) (afe X.K):=by
 intro j s σ H x y v u Q I w a h;let(l,b,xs,zs,rfl,rfl,p,o,hz,q):=h;cases w;cases a;let(B,r,f,z):=I.list p;let(A,m,J,z2):=I.list o;have hl:=!r;have c:=!m;let((k,g,N,i),n,Y,O,t,T):=f;let((M,E,data2,L),d,C,D,U,G):=J;simp only at O T D G;subst O T D G;have e:B.toArray++A.toArray=(B++A).toArray:=by simp
 refine concat_meets (_,Y,rfl) (_,C,rfl) noFill_list_add seq_list_add PySem.F.slot_list_add PySem.F.entry_list_add (PySem.F.args_list_add_2 _ _) (list_addW l b B.toArray A.toArray n d g E i L (by rw[bu,bu];lk)) (Y,C,?_);rw[e];calc(.ref _,_,I.X6 (r.append m) (by rw[aE];lk),rfl,q _ I.fresh)
def pX:()->()->↑()
 |.list D,.list A=>@ite _ ((!D)+(!A)<=sizeLine) (Classical.propDecidable _) (#[.list<|D++A]) none
 |_,_=>none
def xu:()->()->↑()
 |.list D,.int k=>@ite _ (k<2^63∧-(2^63)<=k/\(!D)*k.toNat<=sizeLine) (Classical.propDecidable _) (#[.list (replicate k.toNat D).flatten]) none
 |_,_=>none
theorem aK.rep (h:aK K H ds vs)(k:Nat):aK K H (replicate k ds).flatten (replicate k vs).flatten:=aK.p.2<|(aK.p.1 h).rep k
section
variable {fs:VA}
def dCat (j:PE X a (tV X.K RM T))(k:PE X b (tV X.K RM U)):PE X (.BinOp a .Add b o) (tV X.K RN<|v2 pX T U):=(bK agw j k).imp λ_ H Q q=>by
 f_int;let(x,y,N,O,e):=qO e;refine(A,G,M,S,F,I,x,N,λv E c B l=>(A,G,M,S,E,I.grow B,y,O,λu L f J n=>?_));delta pX at e;f_are
 .f_are
  .rename_i C;k_go;let(p,r,rfl,h1,h2):=RM.list J.fh<|RM.grow J l;let(m,t,rfl,Y,D):=RM.list J.fh n;have g:=B.trans J;refine(p,m,r,t,rfl,rfl,h1,Y,by rw[<-!h2,←!D];calc C,λz C=>q _ L _ (g.trans<|bA.alloc J.fh C) (_,z,_,rfl,rfl,g.hh.free C,J.fh.free C,ao,aK.append D h2))
  .k_go
 .k_go
def aol (l:PE X a (tV X.K RN Y))(m:PE X b (tV X.K RW j)):PE X (.BinOp a .Mult b r) (tV X.K RN<|v2 xu Y j):=(bK aak l m).imp λ_ H Q q=>by
 f_int;let(x,y,T,U,e):=qO e;refine(A,G,M,S,F,I,x,T,λv E c B o=>(A,G,M,S,E,I.grow B,y,U,λu L f J n=>?_));delta xu at e;f_are
 .f_are
  .rename_i C;k_go;let(s,p,t,N,rfl,w,i,k,D):=o;cases N;have O:=n;subst O;have g:=B.trans J;refine(p,_,t,rfl,rfl,J.hh _ _ k,C.2.1,C.1,by rw[<-!D];calc C.2.2,λz C=>q _ L _ (g.trans<|bA.alloc J.fh C) (_,z,_,rfl,rfl,g.hh.free C,J.fh.free C,ao,aK.rep (D.same J.ff) _))
  .k_go
 .k_go
end
abbrev Yy:=xV λa b=>.int<|Builtin.bitXor a b
def hXor:gW K Yy (rM λi j=>.int<|Builtin.bitXor i j):=uO λ_ _ _ _=>rfl
def Gp (i:Nat)(f:VE):VS:=λS=>match f S with
 |some d=>if Gn S i=true then .nxt (S.set i<|#[(.fr,d)]) else .fail
 |none=>.fail
section
variable {s:Stmt}
def air (h:PS X s (jq (tV X.K RN f)<|cg i)):PS X s (gJ X.K<|Gp i f):=PS.imp h λD N H q=>by
 let(B,G,M,S,F,I,q):=q;delta Gp at q;cases e:f S with
 |none=>rw[e] at q;calc q.elim
 |some d=>
  rw[e] at q;simp only at q;split at q
  .refine(B,G,M,S,F,I,d,e,λv L E g C=>?_);let(A,J,m):=RN.dR g C;exact q A _ E<|(I.grow J).set m
  .calc q.elim
inductive ak4:V->¬V->Hp->VK->Prop
 |mk ys:H l=#[.lst ys]->Q .non (upd H l<|.lst [])->ak4 (.ref l) [] H Q
def Yz (i:Nat):VS:=λS=>match jr S i with
 |some (t,_)=>.nxt<|S.set i<|#[(t,.list [])]
 |none=>.fail
def YB (i:Nat):VS:=λS=>match jr S i with
 |some (t,A)=>if A=[] then .fail else .nxt (S.set i<|#[(t,.list A.dropLast)])
 |none=>.fail
end
structure Bl (mg:Str->↑Value):Prop where
 len:mg "len"=none
 list:mg "list"=none
 range:mg "range"=none
 enumerate:mg "enumerate"=none
 zip:mg "zip"=none
 abs:mg "abs"=none
 sum:mg "sum"=none
 min:mg "min"=none
 max:mg "max"=none
 int:mg "int"=none
 bool:mg "bool"=none
 tuple:mg "tuple"=none
 str:mg "str"=none
 sorted:mg "sorted"=none
 set:mg "set"=none
 isinstance:mg "isinstance"=none
structure YC (K:Frag):Prop where
 int:zf K "int"
 bool:zf K "bool"
 list:zf K "list"
 tuple:zf K "tuple"
def agx:zf K "int":=⟨λd C h=>by
 cases d with
 |none=>cases h;kernel_rfl
 |bool _=>cases h;kernel_rfl
 |int _=>cases h;kernel_rfl
 |str _=>cases h;kernel_rfl
 |list _=>cases h;kernel_rfl
 |tuple _=>cases h;kernel_rfl
 |dict _=>cases h⟩
def ac4:zf K "bool":=⟨λd C h=>by
 cases d with
 |none=>cases h;kernel_rfl
 |bool _=>cases h;kernel_rfl
 |int _=>cases h;kernel_rfl
 |str _=>cases h;kernel_rfl
 |list _=>cases h;kernel_rfl
 |tuple _=>cases h;kernel_rfl
 |dict _=>cases h⟩
def ac5:zf K "list":=⟨λd C h=>by
 cases d with
 |none=>cases h;kernel_rfl
 |bool _=>cases h;kernel_rfl
 |int _=>cases h;kernel_rfl
 |str _=>cases h;kernel_rfl
 |list _=>cases h;kernel_rfl
 |tuple _=>cases h;kernel_rfl
 |dict _=>cases h⟩
def kit_tuple:zf K "tuple":=⟨λd C h=>by
 cases d with
 |none=>cases h;kernel_rfl
 |bool _=>cases h;kernel_rfl
 |int _=>cases h;kernel_rfl
 |str _=>cases h;kernel_rfl
 |list _=>cases h;kernel_rfl
 |tuple _=>cases h;kernel_rfl
 |dict _=>cases h⟩
def aom (K:Frag):YC K:=(agx,ac4,ac5,kit_tuple)
inductive aaK (K:Frag)(vs:¬V)(H:Hp)(Q:VK):Prop
 |mk:∀(a:Addr) (ns:¬Int),vs=[.ref a]->aU K H a (ns.map V.int)->(!ns)<=63->(∀H',Q (.bl true) H')->aaK K vs H Q
def YD (K:Frag):Sp:=λJ H Q=>aaK K J H Q
def walk {l:PySem.W.OpenLaw}{K:Params->Frag}(C:l.most=#[63])(Q:d.params.defaults=[])(hr:cW k callerA)
  (z:∀(w:World) (h:Heap),m w h->(K w.params).In h)
  (F:∀(w:World) (E:Str->↑Value) (H:Addr) (h:Heap),(K w.params).In h->h.Ns mainGlobals E->E d.name=#[.ref H]->
   ∃B:FuncData,(∀(s:Shared) (u:Value),BindsTo s B ⟨[u],[]⟩ [(x,u)])/\∀D:Heap,(K w.params).In D->D.Ns mainGlobals E->jK l.prog w (K w.params) E D k H B [x] (YD (K w.params))):
  PySem.W.WalkO q A g m l.row.toRowW d [] (λf vs=>PySem.call f vs):=
 L2.agm C ⋯ Q hr z F λ_ _ a ns N _ hS=>⟨a,ns,rfl,hS,N,λ_=>rfl⟩
end VM
namespace VM
def YF:Nat->(¬A->Prop)->Prop
 |0,p=>p []
 |n+1,p=>∀x,YF n λl=>p (x::l)
def YF.go {us:¬B}:∀{p},YF (!us) p->p us:=by
 induction us with
 |nil=>calc λh=>h
 |cons x l A=>exact λh=>A<|h x
open L2
def zp (K:Frag)(F:Hp)(A:V):¬(↑())->¬V->Prop:=Paired λo v=>match o with|some d=>Has K F d v|none=>v=A
theorem zp.length {os:¬(↑())}(h:zp K F A os vs):(!os)=!vs:=lh h
def zp.at {os:¬(↑())}{i:Nat}(h:zp K F A os vs):os[i]? =#[o]->∃v,vs[i]? =#[v]/\match o with|some d=>Has K F d v|none=>v=A:=Paired.get h
abbrev EY:=GS->↑(List<|↑())
inductive Fb (K:Frag)(j:Nat)(fs:EY)(σ:St)(H:Hp)(Q:(¬V->Hp->Prop)):Prop
 |mk:∀jQ G cQ S F,VI K jQ G cQ S F σ H->∀v0,σ[j]? =#[#[v0]]->∀os,fs S=#[os]->(∀vs F' H',bA F H F' H'->zp K F' v0 os vs->Q vs H')->Fb K j fs σ H Q
def Nq:EY:=λ_=>#[[]]
def u9 (f:VE)(fs:EY):EY:=λS=>match f S with
 |some d=>match fs S with
  |some os=>#[#[d]::os]
  |none=>none
 |none=>none
def HB (fs:EY):EY:=λS=>match fs S with
 |some os=>#[none::os]
 |none=>none
section
variable {j:Nat}
def io0:PA X [] (Fb X.K j Nq):=PA.imp aG λ_ H Q q=>by let(A,G,M,S,F,I,C,B,os,e,q):=q;cases e;calc q [] F H (bA.refl I.sub) .nil
def ioS (O:PE X e (tV X.K RS f))(hr:PA X D (Fb X.K j fs))(T:(starEach (e::D) X.env=(false,eval e X.env)::starEach D X.env)∣0):PA X (e::D) (Fb X.K j<|u9 f fs):=PA.imp (aj O hr T) λ_ H Q q=>by
 let(A,G,M,S,F,I,l,U,os,e,q):=q;delta u9 at e;f_are
 .rename_i d k;f_are
  .rename_i B g;k_go;exact(A,G,M,S,F,I,d,k,λv E m C Y=>(A,G,M,S,E,I.grow C,l,U,B,g,λo L N J n=>q _ L N (C.trans J)<|.cons (Has.same J.ff Y) n))
  .k_go
 .k_go
def ioJ (N:PE X e (vR j))(hr:PA X D (Fb X.K j fs))(O:(starEach (e::D) X.env=(false,eval e X.env)::starEach D X.env)∣0):PA X (e::D) (Fb X.K j<|HB fs):=PA.imp (aj N hr O) λU H Q q=>by
 let(A,G,M,S,F,I,T,C,os,e,q):=q;delta HB at e;f_are
 .rename_i B k;k_go;show vR j U H _;delta vR;erw[C];exact(A,G,M,S,F,I,T,C,B,k,λY E J L n=>q _ E J L<|.cons rfl n)
 .k_go
end
abbrev Bv:=¬(↑())->¬()->↑(Bool×()×¬())
inductive afg (K:Frag)(m:Bv)(vs:¬V)(H:Hp)(Q:VK):Prop
 |mk:∀G os a ls xs,Same G H->G a=none->H a=#[.lst xs]->aK K G ls xs->zp K G (.ref a) os vs->∀b d ur,m os ls=#[(b,d,ur)]->(∀v F' H' xs',bA G (hide a H) F' (hide a H')->F' a=none->H' a=#[.lst xs']->aK K F' ur xs'->RB b K G (hide a H) F' (hide a H') d v->Q v H')->afg K m vs H Q
def vf (K:Frag)(m:Bv):Sp:=λJ H Q=>afg K m J H Q
def ac6 (h:H a=#[o])(p:HO):upd (upd H a p) a o=H:=by
 funext b;by_cases B:b=a
 .subst B;rw[ao,h]
 .rw[au B,au B]
def agy (g:bA C (hide a E) A (hide a D))(t:A a=none)(h1:E a=#[o]):bA C E A (upd D a o):=by
 refine(λb u e=>?_,g.ff,λb u e=>?_,λb u e=>?_)
 .by_cases B:b=a
  .subst B;rw[ao];rw[h1] at e;exact e
  .rw[au B];have:=g.hh b u (by rw[hide_ne B];calc e);rw[hide_ne B] at this;exact this
 .have B:=aV e t;rw[au B];have:=g.fh b u e;rw[hide_ne B] at this;exact this
 .have B:=aV e t;rcases g.new b u e with z|z|z
  .exact .inl z
  .rw[hide_ne B] at z;exact .inr<|.inl z
  .calc .inr<|.inr z
def VI.bound (I:VI K C G M S F E H)(h:jr S i=#[(t,ds)]):∃a,E[i]? =#[#[.ref a]]/\F a=none/\M a=none:=by
 let(hS,U):=Nk h;let(v,B,D):=I.slot i t _ hS;cases t with
 |fr=>cases U
 |ow=>let(a,_,_,_,rfl,_,A,k,_):=D;calc(a,B,A,k)
 |io=>let(a,_,_,_,rfl,_,A,k,_):=D.1;calc(a,B,A,k)
def KD {os:¬(↑())}(I:VI K N G M S F y H)(k:jr S j=#[(t,x)])(hf:fs S=#[os])(hm:m os x=#[(b,d,A)])
  (q:∀v C E,VI K N G M (S.set j<|#[(t,.list A)]) C y E->RR K M (S.set j<|#[(t,.list A)]) y C E b d v->Q v E):jy (vf K m) (Fb K j fs) y H Q:=by
 let(a,o,hFa,hH0):=I.bound k;refine⟨N,G,M,S,F,I,_,o,os,hf,λvs F1 H1 s r=>?_⟩;have O:=I.grow s;let(a',xs,B,w,hx,nx):=O.own k;rw[o] at B;cases B;let(a2,L,U,_):=O.bound k;rw[o] at L;cases L;refine⟨F1,os,a,x,xs,s.fh,U,w,hx,r,b,d,A,hm,λv C E u g D J h hr=>?_⟩;have g2:=agy g D w;have c:=nx A u C _ g2 h;rw[ac6 J] at c;refine q v C E c ?_;cases b with
 |false=>calc hr
 |true=>
  let(es,p,ys,e1,f,n,e4,T,e6):=hr;have l:p≠a:=λz=>by subst z;delta hide at T;lk
  rw[hide_ne l] at n T;refine⟨⟨p,es,ys,e1,f,T,e4,O.same.free n,e6⟩,λi t' d' e ht B=>?_⟩;rw[f] at B;by_cases Y:i=j
  .omega
  .rw[bP<|ci Y] at e;let(zs,hz):=Nj O e ht B;lk
def HD (m:Bv)(j:Nat)(fs:EY)(i:Nat):VS:=λS=>match jr S j,fs S with
 |some (t,x),#[os]=>(match m os x with
  |some (_,d,A)=>if Gn (S.set j<|#[(t,.list A)]) i=true/\i≠j then .nxt ((S.set j<|#[(t,.list A)]).set i<|#[(.fr,d)]) else .fail
  |none=>.fail)
 |_,_=>.fail
def PJ (m:Bv)(j:Nat)(fs:EY):VS:=λS=>match jr S j,fs S with
 |some (t,x),#[os]=>(match m os x with
  |some (_,_,A)=>.nxt<|S.set j<|#[(t,.list A)]
  |none=>.fail)
 |_,_=>.fail
def HF (m:Bv)(j:Nat)(fs:EY):VS:=λS=>match jr S j,fs S with
 |some (t,x),#[os]=>(match m os x with
  |some (b,d,A)=>.ret (S.set j<|#[(t,.list A)]) b d
  |none=>.fail)
 |_,_=>.fail
def fZ.ak5 (I:VI K E G M S F L H)(m:fZ K M F H d v)(y:∀(i:Nat) t d',S[i]? =#[#[(t,d')]]->t.own=true->L[i]? ≠#[#[v]]):∃J,VI K E G M S J L H/\Has K J d v:=by
 let(a,q,A,rfl,rfl,j,k,r,g):=m;have O:Same F (upd F a<|.lst A):=aH k;refine⟨upd F a<|.lst A,⟨I.len,I.same,I.gf.trans O,λb o e=>?_,λb o e=>?_,λi t d' e=>?_,I.inj⟩,a,A,rfl,aU.of ao,g.same O⟩
 .by_cases B:b=a
  .omega
  .rw[au B] at e;exact I.new b o e
 .by_cases B:b=a
  .subst B;rw[ao] at e;k_go;exact j
  .rw[au B] at e;exact I.sub b o e
 .let(u,f,D):=I.slot i t d' e;have ow:t.own=true->fZ K M F H d' u->fZ K M (upd F a<|.lst A) H d' u:=λc ⟨b,C,p,N,Q,l,T,U,Y⟩=>by
   refine⟨b,C,p,N,Q,l,?_,U,Y.same O⟩
   have:b≠a:=λz=>by grind
   rw[au this];exact T
  refine⟨u,f,?_⟩;cases t with
  |fr=>calc Has.same O D
  |ow=>calc ow rfl D
  |io=>calc⟨ow rfl D.1,D.2⟩
section
variable {fs:EY}
def ak6 {i:Nat}(L:PS X s (jq (jy (vf X.K m)<|Fb X.K j fs)<|cg i)):PS X s (gJ X.K<|HD m j fs i):=PS.imp L λD T H q=>by
 let(N,G,M,S,F,I,q):=q;delta HD at q;split at q
 .rename_i t x os Q k;split at q
  .rename_i b d O g;split at q
   .refine KD I Q k g λv C E B r=>?_;cases b with
    |false=>calc q C _ E<|B.set r
    |true=>let(A,l,J):=fZ.ak5 B r.1 r.2;exact q A _ E<|l.set J
   .exact q.elim
  .exact q.elim
 .calc q.elim
def ak7 (C:PS X s (iw<|jy (vf X.K m)<|Fb X.K j fs)):PS X s (gJ X.K<|PJ m j fs):=PS.imp C λD O H q=>by
 let(J,G,M,S,F,I,q):=q;delta PJ at q;split at q
 .rename_i t x os N k;split at q
  .rename_i b d L g;exact KD I N k g λv A E B _=>q A O E B
  .exact q.elim
 .calc q.elim
def ais (C:PS X s (uc<|jy (vf X.K m)<|Fb X.K j fs)):PS X s (gJ X.K<|HF m j fs):=PS.imp C λD O H q=>by
 let(J,G,M,S,F,I,q):=q;delta HF at q;split at q
 .rename_i t x os N k;split at q
  .rename_i b d L g;exact KD I N k g λv A E B r=>q v A O E B r
  .exact q.elim
 .calc q.elim
end
def wA (A:Nat)(os:¬(↑()))(x:¬()):GS:=os.map (λo=>match o with|some d=>#[(.fr,d)]|none=>#[(.io,.list x)])++replicate (A - !os) none
def PK:Nat->¬(↑())->Bool
 |_,[]=>false
 |0,none::r=>r.all isSome
 |0,#[_]::_=>false
 |k+1,#[_]::r=>PK k r
 |_+1,none::_=>false
def HJ (S:GS)(k:Nat):↑(¬()):=match S[k]? with
 |some #[(.io,.list x)]=>#[x]
 |_=>none
def Bw (n B k:Nat)(g:VS):Bv:=λos x=>if (!os)=n/\PK k os=true then(match g (wA B os x) with
 |.ret S b d=>(match HJ S k with
  |some A=>#[(b,d,A)]
  |none=>none)
 |.nxt S=>(match HJ S k with
  |some A=>#[(false,.none,A)]
  |none=>none)
 |_=>none) else none
theorem zq:∀{k:Nat}{os:¬(↑())},PK k os=true->∀{i:Nat},os[i]? =#[none]->i=k
 |_,[],h,i,e=>by simp at e
 |0,none::r,h,0,e=>rfl
 |0,none::r,h,i+1,e=>by
  have:=cp.mp (show r.all isSome=true from h) none (ag ‹e›);cases this
 |0,#[_]::_,h,i,e=>by cases h
 |k+1,#[_]::r,h,0,e=>by simp at e
 |k+1,#[_]::r,h,i+1,e=>cw (· +1)<|zq (k:=k) (os:=r) h<|‹e›
 |k+1,none::_,h,i,e=>by cases h
def Bx {os:¬(↑())}{i:Nat}(h:(wA A os x)[i]? =#[#[(t,d)]]):(os[i]? =#[#[d]]/\t=.fr)\/(os[i]? =#[none]/\t=.io/\d=.list x):=by
 delta wA at h;by_cases N:i<!os
 .rw[b9<|‹N›,ay] at h;cases q:os[i]? with
  |none=>rw[q] at h;cases h
  |some o=>
   rw[q] at h;cases o with
   |some C=>simp at h;calc .inl ⟨by rw[h.2],h.1.symm⟩
   |none=>simp at h;exact .inr ⟨rfl,h.1.symm,h.2.symm⟩
 .rw[cz<|‹N›,gp] at h;split at h<;>cases h
section
variable {D:Heap}
def ac7 {N:¬Str}{os:¬(↑())}(T:Same G H)(L:G a=none)(O:H a=#[.lst xs])(U:aK K G x xs)(h:zp K G (.ref a) os vs)(I:PK k os=true):
  VI K (λi=>if i=k then #[a] else none) G (hide a H) (wA (!N) os x) G (L2.start N vs) H:=by
 have E:∀{i:Nat}{v:V},vs[i]? =#[v]->(L2.start N vs)[i]? =#[#[v]]:=λ{i v} M=>by
  have Q:i<!vs:=by
   by_cases z:i<!vs
   .exact z
   .rw[bm ∅] at M;cases M
  delta L2.start;rw[b9<|‹Q›,ay,M];rfl
 refine(by delta wA L2.start;simp[!h],mH,Same.refl _,λ_ _ e=>.inl e,T,λi t d e=>?_,λi j t o d m v B J r Y _ _=>?_)
 .rcases Bx e with⟨B,rfl⟩|⟨B,rfl,rfl⟩
  .let(v,M,A):=h.at B;exact(v,E M,A)
  .let(v,M,A):=h.at B;have C:=A;subst C;exact(_,E M,(a,x,xs,rfl,rfl,O,L,Dn,U),a,rfl,by rw[zq I B];calc ap rfl)
 .rcases Bx B with⟨_,rfl⟩|⟨g,_,_⟩
  .exact absurd r bp
  .rcases Bx J with⟨_,rfl⟩|⟨l,_,_⟩
   .exact absurd Y bp
   .rw[zq I g,zq I l]
def ak8 (F:xU K x U st f fd)(S:iz N ps (aP st))(hn:(!ps)=n)(hN:(!N)=nN)
  (c:∀(L:Value) (A:Around) (B:¬Env) (s:Shared) (H:Hp),cW lv (A.deeper<|PyProof.Rows.envOfC U (aP st) (~~~s) f L)->jl (gA P w K mg D N U (aP st) f L A B s H) (dU st) (gJ K g)):
  jK P w K mg D (lv+1) f fd ps (vf K<|Bw n nN k g):=by
 subst hn hN;refine F.ok S (λvs H Q h=>?_)<|λL A B s H vs Q hr h=>(_,c L A B s H hr,?_)
 .let(G,os,a,ls,xs,_,_,_,_,hv,b,d,ur,e,_):=h;delta Bw at e;f_are
  .rename_i hl;rw[<-!hv];exact hl.1
  .k_go
 .let(G,os,a,ls,xs,hs,hG,hH,hx,hv,b,d,ur,e,q):=h;delta Bw at e;f_are
  .rename_i hl;refine(_,G,hide a H,wA (!N) os ls,G,ac7 hs hG hH hx hv hl.2,?_);have T:∀{Y:GS}{J:Hp} {E:St} {O:Hp} {m:¬()},VI K (λi=>if i=k then #[a] else none) G (hide a H) Y J E O->HJ Y k=#[m]->
     ∃C,bA G (hide a H) J (hide a O)/\J a=none/\O a=#[.lst C]/\aK K J m C/\E[k]? =#[#[.ref a]]:=λ{Y J E O m} I M=>by
    delta HJ at M;split at M
    .rename_i l3 hS;cases M;let(v,hv1,(p,ds,ys,e1,j,l,e4,e5,e6),p2,e7,e8):=I.slot k .io _ hS;cases e1;rw[e7] at j;cases j;have e9:(if k=k then #[a] else none)=#[p]:=e8;rw[ap rfl] at e9;cases e9;refine(ys,(aaw Dn I.same,I.gf,λb o e=>?_,I.new),e4,l,e6,by rw[hv1,e7]);have c:=aV e e4;rw[hide_ne c];exact I.sub b o e
    .cases M
   f_are
   .rename_i Y b' d' j;f_are
    .rename_i m l;k_go;rw[j];intro v J E O I r;let(C,u,h1,h2,y,h4):=T I l;refine q v J O C u h1 h2 y ?_;cases b with
     |false=>calc r
     |true=>
      let((p,es,ys,r1,r2,r3,r4,r5,r6),r7):=r;have hS:∃t,Y[k]? =#[#[(.io,t)]]:=by delta HJ at l;grind
      let(t,hS):=hS;have hpa:p≠a:=λz=>by subst z;exact r7 k .io t hS rfl<|by rw[h4,r2]
      exact(es,p,ys,r1,r2,r5,r4,by rw[hide_ne hpa];calc r3,r6)
    .k_go
   .rename_i Y j;f_are
    .rename_i m l;k_go;rw[j];intro J E O I;let(C,u,h1,h2,y,h4):=T I l;exact q .non J O C u h1 h2 y rfl
    .k_go
   .k_go
  .k_go
end
section
variable {B G:Pos}
def gRv (i:Nat):VS:=λS=>match jr S i with
 |some (t,A)=>.nxt<|S.set i<|#[(t,.list A.reverse)]
 |none=>.fail
def ak9 (k:Nat)(y:A)(xs:¬A):¬A:=xs.take k++y::xs.drop k
def ait (i:Nat)(fs:VA):VS:=λS=>match jr S i,fs S with
 |some (t,A),#[[.int k,d]]=>@ite _ ((!A)<sizeLine/\0<=k/\k<2^62) (Classical.propDecidable _) (.nxt<|S.set i<|#[(t,.list<|ak9 k.toNat d A)]) .fail
 |_,_=>.fail
def aaL (i:Nat)(fs:VA):VS:=λS=>match jr S i,fs S with
 |some (t,A),#[[.int k]]=>@ite _ (k.toNat<!A/\0<=k/\k<2^62) (Classical.propDecidable _) (.nxt<|S.set i<|#[(t,.list<|A.eraseIdx k.toNat)]) .fail
 |_,_=>.fail
end
def aiu (ns:¬Int):¬Int:=PyProof.Rows.firstMet (λi=>ns.getD i 0) !ns
section
def agz:()->↑()
 |.list A=>match sZ A with
  |some ns=>@ite _ ((!ns)<=4000) (Classical.propDecidable _) (#[.int !(aiu ns)]) none
  |none=>none
 |_=>none
def Wd (f:VE):VE:=v1 agz f
end
open PyProof PyProof.Rows
section
variable {r C:R2}
def aon (w:cB X (compareOp J) r)(E:cB X (compareOp B) C)(p:PE X a ta)(t:PE X b tb)(f:PE X c tc)
  (n:(lastMarks [J,B] [b,c]=false)∣6):PT X (.Compare a [J,B] [b,c] i) (mG<|Yg r C ta tb tc):=by
 intro A s D H Q I q;refine isTrue_chain (aY (p A s D H _ I q) ?_) n;rintro v s1 ⟨x,M,Y,r1,h⟩;refine test_link<|aY (t A s1 D M _ Y h) ?_;rintro u s2 ⟨y,N,j,m,e⟩;refine aY (w A s2 D N x y v u _ j r1 m e) ?_;rintro d s3 ⟨z,G,O,r3,g⟩;cases z with
 |bl k=>
  cases r3;refine cK ?_;cases k with
  |false=>calc ite_ff (G,O,g)
  |true=>
   refine ite_tt<|test_last<|aY (f A s3 D G _ O g) ?_;rintro w' s4 ⟨z',T,l,r4,q4⟩;refine aY (E A s4 D T y z' u w' _ l m r4 q4) ?_;rintro d' s5 ⟨z2,U,o,r5,L⟩;cases z2 with
   |bl k2=>cases r5;calc cK (U,o,L)
   |_=>calc False.elim L
 |_=>calc False.elim g
def cCh (Q:cB X (compareOp G) r)(M:gW X.K h r)(D:cB X (compareOp B) C)(A:gW X.K h' C)(J:PE X a (tV X.K RW H))(L:PE X b (tV X.K RW E))(O:PE X c (tV X.K RW I))
  (N:(lastMarks [G,B] [b,c]=false)∣6):PT X (.Compare a [G,B] [b,c] T) (gQ X.K<|vB<|nQ h h' H E I):=
 PT.imp (aon Q D J L O N) λ_ _ _ q=>Ym (λ_ q=>aie M A q) q
end
end VM
namespace VM
open PyProof.Rows L2
section
variable {A:Expr}
end
end VM
namespace VM
open L2
set_option exponentiation.threshold 3000
def BJ (h1: -1e100<j)(h2:j<1e100):j.natAbs<2^2000:=by lk
def BK (h1: -1e100<a)(h2:a<1e100)(J: -1e100<b)(M:b<1e100):Bj (.int a) (.int b)=#[.int<|a*b]:=ap ⟨BJ h1 h2,BJ J M⟩
def jz (L:0<b)(h1:b<1e100):uZ (.int a) (.int b)=#[.int<|a/b]:=ap ⟨L,BJ ∅ h1⟩
def cY (L:0<b):Bk (.int a) (.int b)=#[.int<|a % b]:=ap L
def RG (L:0<=b)(h1:b<=1000)(h2:0<=a)(J:a<1152921504606846976):aic (.int a) (.int b)=#[.int<|a^b.toNat]:=ap (L,h1,by lk)
def PL (a b:Int):kE (.int a) (.int b)=#[.bool<|decide<|a=b]:=by rfl
def PX (a b:Int):lH (.int a) (.int b)=#[.bool<|not (decide (a=b))]:=by rfl
def P0 (x:()):isD x .none=#[.bool<|iT x]:=rfl
def HN (x:()):Kr x .none=#[.bool<|not (iT x)]:=rfl
theorem Wf (P:Nat->GS->Prop):∀(ds:¬()) (i:Nat) (S:GS),P i S->
    (∀(j:Nat) d S,ds[j]? =#[d]->P (i+j) S->∃S1,t d S=#[S1]/\∃S2,g S1=.nxt S2/\P (i+j+1) S2)->∃D,eE t g ds S=.nxt D/\P (i+!ds) D
  |[],i,S,h,_=>(S,rfl,h)
  |d::r,i,S,h,st=>by
   let(S1,B,S2,G,m):=st 0 d S rfl h;let(D,J,E):=Wf P r (i+1) S2 m λj C D e p=>by
     have A:i+1+j=i+(j+1):=by lk
     rw[A] at p ⊢;exact st (j+1) C D ‹e› p
   refine(D, ?_,by rw[a8];have A:i+1+(!r)=i+((!r)+1):=by lk
                   rw[<-A];calc E)
   erw[eE,B];rw[G];calc J
theorem j4:∀{ds:¬()},(∀d∈ds,∃S2,t d S=#[S2]/\A S2=#[true]/\C S2=#[f d])->nU t A C S ds=#[ds.map f]
 |[],_=>rfl
 |d::r,h=>by let(S2,B,G,J):=h d ae;have E:=j4 (ds:=r) (f:=f) λx D=>h x<|af _ D;erw[nU,B,G,J,E,aT]
theorem HS:∀{ds:¬()},(∀d∈ds,∃S2,t d S=#[S2]/\C S2=#[p d]/\(p d=true->D S2=#[f d]))->nU t C D S ds=#[(ds.filter p).map f]
 |[],_=>rfl
 |d::r,h=>by
  let(S2,B,G,J):=h d ae;have A:=HS (ds:=r) (f:=f) (p:=p) λx E=>h x<|af _ E;cases q:p d with
  |true=>erw[nU,B,G,q,J q,A,fR,dE,aT]
  |false=>erw[nU,B,G,q,A,fR,dS,eg]
def YG {lo:Int}(h:(nR lo n)[j]? =#[d]):j<n/\d=.int (lo+j):=by
 delta nR at h;rw[ay] at h;by_cases Y:j<n
 .rw[ky Y] at h;cases h;exact⟨Y,rfl⟩
 .rw[bm (by simp;lk)] at h;cases h
def O1 (lo:Int)(n:Nat):(!(nR lo n))=n:=by simp[nR]
def KH (o:Out)(g:VS):Out:=match o with
 |.nxt S=>g S
 |o=>o
def bIf (o:↑Bool)(C J:VS)(S:GS):Out:=match o with
 |some true=>C S
 |some false=>J S
 |none=>.fail
def ac8 (o:↑Bool)(g:VT)(S:GS):↑Bool:=match o with
 |some true=>g S
 |some false=>#[false]
 |none=>none
def bOr (o:↑Bool)(g:VT)(S:GS):↑Bool:=match o with
 |some true=>#[true]
 |some false=>g S
 |none=>none
def YH (o:↑())(g:VE)(S:GS):↑():=match o with
 |some (.bool true)=>g S
 |some (.bool false)=>#[.bool false]
 |_=>none
def ac9 (o:↑())(g:VE)(S:GS):↑():=match o with
 |some (.bool true)=>#[.bool true]
 |some (.bool false)=>g S
 |_=>none
def ada (o:↑Bool)(f g:VE)(S:GS):↑():=match o with
 |some true=>f S
 |some false=>g S
 |none=>none
def b2 (h:()->()->↑())(o:↑())(A:VE)(S:GS):↑():=match o with
 |some x=>(match A S with
  |some y=>h x y
  |none=>none)
 |none=>none
def b1 (h:()->↑())(o:↑()):↑():=match o with
 |some y=>h y
 |none=>none
def bC (o:↑())(fs:VA)(S:GS):↑(¬()):=match o with
 |some d=>(match fs S with
  |some A=>#[d::A]
  |none=>none)
 |none=>none
def bC1 (d:())(o:↑(¬())):↑(¬()):=match o with
 |some A=>#[d::A]
 |none=>none
def bAs (o:↑())(t:VG)(S:GS):Out:=match o with
 |some d=>(match t d S with
  |some D=>.nxt D
  |none=>.fail)
 |none=>.fail
def bNx (o:↑GS):Out:=match o with
 |some D=>.nxt D
 |none=>.fail
def bG (o:↑GS)(u:Wb)(r:¬()):↑GS:=match o with
 |some A=>u r A
 |none=>none
def YJ (o:↑(Bool×())):↑():=match o with
 |some (_,d)=>#[d]
 |none=>none
def Qa (o:↑(Bool×())):↑():=match o with
 |some (true,d)=>#[d]
 |_=>none
def Nr:Bool->()->↑()
 |true,d=>#[d]
 |false,_=>none
def RJ (b:Bool)(d:()):Nr b d=if b=true then #[d] else none:=by cases b<;>rfl
def Qc (d:()):Nr true d=#[d]:=rfl
def Qd (o:↑(Bool×())):↑():=match o with
 |some (b,d)=>Nr (Gm b d) d
 |none=>none
def HW (o:↑(Bool×())):↑():=match o with
 |some (true,.list D)=>Nr (mJ D)<|.list D
 |_=>none
def YK (m:f9)(o:↑(¬())):↑():=match o with
 |some A=>YJ<|m A
 |none=>none
def RK (m:f9)(o:↑(¬())):↑():=match o with
 |some A=>Qa<|m A
 |none=>none
def RL (m:f9)(o:↑(¬())):↑():=match o with
 |some A=>Qd<|m A
 |none=>none
def KJ (m:f9)(o:↑(¬())):↑():=match o with
 |some A=>HW<|m A
 |none=>none
def adb (o:↑(¬()))(t:VG)(g:VS)(S:GS):Out:=match o with
 |some A=>eE t g A S
 |none=>.fail
def bFn (o:Out):↑(Bool×()):=match o with
 |.ret _ b d=>#[(b,d)]
 |.nxt _=>#[(false,.none)]
 |_=>none
def bCh (h':()->()->↑())(y:())(o:↑())(B:VE)(S:GS):↑():=match o with
 |some (.bool true)=>(match B S with
  |some z=>h' y z
  |none=>none)
 |some (.bool false)=>#[.bool false]
 |_=>none
section
variable {b:Bool}
def yd:aR C J S=KH (C S) J:=rfl
def HX:KH (.nxt S) g=g S:=rfl
def HY:KH (.ret S b d) g=.ret S b d:=rfl
def BL:gw c C J S=bIf (c S) C J S:=rfl
def Qe:bIf #[true] C J S=C S:=rfl
def Ia:bIf #[false] C J S=J S:=rfl
def Dr:mj c w S=ac8 (c S) w S:=rfl
def Ib:ac8 #[true] c S=c S:=rfl
def Ie:ac8 #[false] c S=#[false]:=rfl
def BP:oU c w S=bOr (c S) w S:=rfl
def Qf:bOr #[true] c S=#[true]:=rfl
def Ig:bOr #[false] c S=c S:=rfl
def Ds:Ks H A S=YH (H S) A S:=rfl
def Dt:YH (#[.bool true]) f S=f S:=rfl
def Du:YH (#[.bool false]) f S=#[.bool false]:=rfl
def Ih:vOr H A S=ac9 (H S) A S:=rfl
def Ii:ac9 (#[.bool true]) f S=#[.bool true]:=rfl
def Ij:ac9 (#[.bool false]) f S=f S:=rfl
def Ik:vIf c H A S=ada (c S) H A S:=rfl
def Il:ada #[true] H A S=H S:=rfl
def Im:ada #[false] H A S=A S:=rfl
def Io:v2 h H A S=b2 h (H S) A S:=rfl
def RP:b2 h #[x] A S=b1 (h x) (A S):=rfl
def YL:b1 k #[y]=k y:=rfl
def Qg:v1 k f S=b1 k (f S):=rfl
def Dv:aC f fs S=bC (f S) fs S:=rfl
def YM:bC #[d] fs S=bC1 d (fs S):=rfl
def Qh:bC1 d #[r]=#[d::r]:=rfl
def Ip:eV f t S=bAs (f S) t S:=rfl
def Qi:bAs #[d] t S=bNx (t d S):=rfl
def Qj:bNx #[S]=.nxt S:=rfl
def Qk:gC t u (d::r) S=bG (t d S) u r:=rfl
def YQ:bG #[S] u r=u r S:=rfl
def zu:cV m fs S=YK m (fs S):=by delta cV YK YJ;rfl
def Dw:YK m #[ds]=YJ (m ds):=rfl
def wC:xX m fs S=RK m (fs S):=by delta xX RK Qa;rfl
def zx:RK m #[ds]=Qa (m ds):=rfl
def wD:xY m fs S=RL m (fs S):=by delta xY RL Qd;erw[RJ]<;>rfl
def zy:RL m #[ds]=Qd (m ds):=rfl
def Dy:Qd #[(b,d)]=Nr (Gm b d) d:=rfl
def uE:Wa m fs S=KJ m (fs S):=by delta Wa KJ HW;erw[RJ]<;>rfl
def wF:KJ m #[ds]=HW (m ds):=rfl
def zB:HW #[(true,.list r)]=Nr (mJ r) (.list r):=rfl
def Ir:YJ #[(b,d)]=#[d]:=rfl
def Dz:Qa #[(true,d)]=#[d]:=rfl
def BR (e:(!ds)=n):iG n A g ds=bFn (g<|Bu A ds):=by delta iG;rw[ap e];rfl
def Ql:bFn (.ret S b d)=#[(b,d)]:=rfl
def Qm:bFn (.nxt S)=#[(false,.none)]:=rfl
def Iu:nQ h h' H A B S=(match H S with
 |some x=>(match A S with
  |some y=>bCh h' y (h x y) B S
  |none=>none)
 |none=>none):=rfl
def Qn:bCh h' y (#[.bool true]) B S=b1 (h' y) (B S):=rfl
def Qo:bCh h' y (#[.bool false]) B S=#[.bool false]:=rfl
def pY (x:A)(r:¬A):cP (x::r) 0=#[x]:=fM rfl
def Iv (x y:A)(r:¬A):cP (x::y::r) 1=#[y]:=fM rfl
def Iw (x y z:A)(r:¬A):cP (x::y::z::r) 2=#[z]:=fM rfl
def Qp (x y z w:A)(r:¬A):cP (x::y::z::w::r) 3=#[w]:=fM rfl
def DG:pW E t g S=adb (E S) t g S:=rfl
def Iz:adb #[ds] t g S=eE t g ds S:=rfl
end
def bL (o:↑(¬())):↑():=match o with
 |some D=>#[.list D]
 |none=>none
def bLC (o:↑(¬()))(cap:¬(↑Nat))(t:VG)(B:VT)(C:VE)(S:GS):↑():=match o with
 |some A=>@ite _ (m7 S cap=true/\(!A)<sizeLine) (Classical.propDecidable _) (bL<|nU t B C (iI cap S) A) none
 |none=>none
def ade (o:↑(¬()))(cap:¬(↑Nat))(t:VG)(B:VT)(C:VE)(S:GS):↑():=match o with
 |some A=>@ite _ ((!A)<sizeLine) (Classical.propDecidable _) (bL<|nU t B (Gg C) (iI cap S) A) none
 |none=>none
def bOw (o:↑())(b:Bool)(i:Nat)(t:Tg)(S:GS):Out:=match o with
 |some d=>if b=true then .nxt (S.set i<|#[(t,d)]) else .fail
 |none=>.fail
section
variable {b:Bool}
def yg:lJ E cap t B A S=bLC (E S) cap t B A S:=by delta lJ bLC bL;rfl
def rT (h1:m7 S cap=true)(h2:(!ds)<sizeLine):bLC #[ds] cap t B A S=bL (nU t B A (iI cap S) ds):=ap ⟨h1,h2⟩
def DK:Br E cap t B A S=ade (E S) cap t B A S:=by delta Br ade bL;rfl
def RQ (h2:(!ds)<sizeLine):ade #[ds] cap t B A S=bL (nU t B (Gg A) (iI cap S) ds):=ap h2
def YS:bL #[D]=#[.list D]:=rfl
def IK:qD i f S=bOw (f S) (Gn S i) i .ow S:=rfl
def yh:Gp i f S=bOw (f S) (Gn S i) i .fr S:=rfl
def Qq:bOw #[d] true i T S=.nxt (S.set i<|#[(T,d)]):=rfl
def adf (o:↑()):↑():=match o with
 |some d=>Nr (sY d) d
 |none=>none
def DN:Gg f S=adf (f S):=by delta Gg adf;erw[RJ]<;>rfl
def IV:adf #[d]=Nr (sY d) d:=rfl
def bw (h:n<=16000000):n<sizeLine:=by have e:sizeLine=16777216:=rfl;lk
end
def ob (v:↑()):↑(Tg×()):=v.map λd=>(Tg.fr,d)
def qU (d:()):ob #[d]=#[(Tg.fr,d)]:=rfl
def gn:ob none=none:=rfl
def j5 (f:A->()){xs:¬A}{i:Nat}(h:xs[i]? =#[x]):cP (xs.map f) (i:Int)=#[f x]:=fM (by rw[ay,h];rfl)
def vg (h:i<n):pL n (i:Int)=#[i]:=by delta pL;rw[ap ∅,ap ∅];simp
def IW (a b:Int):fX (.int a) (.int b)=#[.int<|a+b]:=rfl
def Ja (a b:Int):jd (.int a) (.int b)=#[.int<|a - b]:=rfl
def Qs (a b:Int):Af (.int a) (.int b)=#[.bool<|decide<|a<b]:=rfl
def Qt (a b:Int):Ag (.int a) (.int b)=#[.bool<|decide<|a<=b]:=rfl
def Qu (a b:Int):Ah (.int a) (.int b)=#[.bool<|decide<|b<a]:=rfl
def Qv (a b:Int):geD (.int a) (.int b)=#[.bool<|decide<|b<=a]:=rfl
def Jb (a b:Int):Yy (.int a) (.int b)=#[.int<|Builtin.bitXor a b]:=rfl
def nio:↑(Option<|Tg×())->Bool
 |some #[(.io,_)]=>false
 |_=>true
def DP (S:GS)(i:Nat):Gn S i=nio (S[i]?):=rfl
def Jc (o:↑()):nio (#[ob o])=true:=by cases o<;>rfl
def Qw:nio #[none]=true:=rfl
def Jd (d:()):nio (#[#[(.fr,d)]])=true:=rfl
def Je (d:()):nio (#[#[(.ow,d)]])=true:=rfl
def agA (x:A)(n:Nat):(replicate n [x]).flatten=replicate n x:=by simp
def zE (x:()){n:Nat}(h:n<=16000000):xu (.list [x]) (.int (n:Int))=#[.list<|replicate n x]:=by delta xu;have e:sizeLine=16777216:=rfl;erw[a8,c9,gh];rw[ap (by lk,by lk,by lk),agA]
def zF (ds:¬()):qQ "list" (.list ds)=#[.bool true]:=by simp[qQ,Ng]
def DQ (i:Int):qQ "int" (.int i)=#[.bool true]:=by simp[qQ,Ng]
def uF (i:Int):qQ "bool" (.int i)=#[.bool false]:=by simp[qQ,Ng]
def wG (ds:¬()):qQ "tuple" (.tuple ds)=#[.bool true]:=by simp[qQ,Ng]
end VM
namespace L2
open PyProof.Rows
def KN (l:¬Nat)(lo hi:↑Int):¬Nat:=(l.drop<|HT.cj (!l) 0 lo).take<|HT.cj (!l) (!l) hi - HT.cj (!l) 0 lo
def KQ (z:Str)(lo hi:↑Int):Str:=⟨(KN ⇑z lo hi).toArray⟩
def afi (o:↑Int)(n d:Nat)(G:d<=n):(match o with
  |none=>(d:Int)
  |some i=>max 0 (min (if i<0 then i+(n:Int) else i) (n:Int)))=((HT.cj n d o:Nat):Int):=by
 cases o with
 |none=>rfl
 |some v=>show max (0:Int) (min (if v<0 then v+(n:Int) else v) (n:Int))=(((if v<0 then(v+(n:Int)).toNat else min v.toNat n:Nat)):Int);split<;>lk
open PySem.Builtin.Str in
def agB (lo hi:↑Int)(n:Nat):strSliceIndices lo hi 1 n=(List.range<|HT.cj n n hi - HT.cj n 0 lo).map λk=>HT.cj n 0 lo+k:=by
 have B:strSliceIndices lo hi 1 n=sliceRange ((HT.cj n 0 lo)) ((HT.cj n n hi):Int) 1:=by rw[<-(afi lo n 0<|cv _),←(afi hi n n<|av _)];cases lo<;>cases hi<;>rfl
 rw[B];generalize HT.cj n 0 lo=a;generalize HT.cj n n hi=b;delta sliceRange;erw[show((1:Int)>0)=True by simp,dE];have J:(if(a)<(b:Int) then((b) - (a:Int)+1 - 1)/1 else 0).toNat=b - a:=by
  by_cases h:(a:Int)<b
  .rw[ap h,Int.ediv_one];lk
  .rw[aw h];lk
 rw[J];exact cx λk _=>by lk
open PySem.Builtin.Str in
def adg (z:Str)(t:Tok)(l u:↑(Int×Tok))(H:(!z)<=sizeLine)(q:∀t' k,Q (.str (KQ z (l.map (·.1))<|u.map (·.1)) t') {s with toks:=k}):
  (sliceMade z t l u none).post Q s:=by
 delta sliceMade slicePicked;have N:(!⇑z)=!z:=by simp[Str.length]
 have D:=HT.Ra (!z) 0 (cv _)<|l.map (·.1);have E:=HT.Ra (!z) (!z) (av _)<|u.map (·.1);have A:strSliceIndices (l.map (·.1)) (u.map (·.1)) (((none:↑(Int×Tok)).map (·.1)).getD 1) (!z)=_:=agB (l.map (·.1)) (u.map (·.1)) !z;have B:(strSliceIndices (l.map (·.1)) (u.map (·.1)) (((none:↑(Int×Tok)).map (·.1)).getD 1) !z).filterMap (z.cps[·]?)=KN ⇑z (l.map (·.1)) (u.map (·.1)):=by
  rw[A];delta KN;rw[N];generalize Y:HT.cj (!z) 0 (l.map (·.1))=a at*
  generalize G:HT.cj (!z) (!z) (u.map (·.1))=b at*
  by_cases c:a<=b
  .have:=StrLaws.picks ⇑z (b - a) a ∅;simpa using this
  .rw[show b - a=0 by lk];simp
 split
 .rename_i c;have C:(strSliceIndices (l.map (·.1)) (u.map (·.1)) (((none:↑(Int×Tok)).map (·.1)).getD 1) !z).length=!z:=by erw[bj,lS] at c;exact c.2
  rw[A,ac,kG] at C
  have:KQ z (l.map (·.1)) (u.map (·.1))=z:=by delta KQ KN;rw[N,show HT.cj (!z) 0 (l.map (·.1))=0 by lk,drop_zero,bn (by rw[N];lk)]
  have L:=q t s.toks;rw[this] at L;exact L
 .rw[B];refine⟨?_,q _ _⟩;show(KN ⇑z (l.map (·.1))<|u.map (·.1)).toArray.size<=sizeLine;rw[bu];delta KN;rw[fm,ir,N];lk
section
inductive aiz (x:V)(lo:↑Int)(hi:↑Int)(H:Hp)(Q:VK):Prop
 |mk:∀z,x=.str z->(!z)<=sizeLine->Q (.str<|KQ z lo hi) H->aiz x lo hi H Q
def aiA:SlR X aiz:=by
 intro C s l H x v j g lo U Y Q I M E N L h;let(z,rfl,J,q):=h;let(t,rfl):=M;refine("str",_,F.slot_str_getitem.lookup,ii s z t,?_);let(o,D,O,G):=E;have part:∀{v:Value}{o:↑Int},IsPart v o->∃p,v=partValue p/\p.map (·.1)=o:=λh=>by
  cases h with
  |none=>calc(none,rfl,rfl)
  |int i t=>exact(#[(i,t)],rfl,rfl)
 let(A,rfl,rfl):=part N;let(B,rfl,rfl):=part L;calc wpAny_getItem_str_slice (o,D,O,G) rfl<|adg z t A B J λT k=>((.str _,H,I.kept λ_ _ e=>e,⟨T,rfl⟩,q))
def Nt:cB X (compareOp .LtE) (λx y H Q=>∃i j,x=.str i/\y=.str j/\Q (.bl<|not (decide (⇑j<⇑i))) H):=by intro A s C H x y v u Q I L M h;let(i,j,rfl,rfl,q):=h;let(t,rfl):=L;let(B,rfl):=M;calc PySem.P.le_str<|G9 I q rfl
end
end L2
namespace VM
open PyProof.Rows L2
def yj:(PyData.str x).canLay0=true↔∀c∈⇑x,c<0x110000:=by show x.cps.all (· <0x110000)=true↔_;rw[p6];simp
def agC {lo hi:↑Int}(h:(PyData.str x).canLay0=true):(PyData.str<|KQ x lo hi).canLay0=true:=by rw[yj] at h ⊢;intro c O;calc h c<|List.mem_of_mem_drop<|hX O
def agD (x y:Str):⇑(x++y)=⇑x++⇑y:=by show(x.cps++y.cps).toList=_;simp
def agE (h:(PyData.str x).canLay0=true)(g:(PyData.str y).canLay0=true):(PyData.str<|x++y).canLay0=true:=by
 rw[yj] at h g ⊢;intro c O;rw[agD] at O;rcases bd.mp O with z|z
 .exact h c z
 .calc g c z
def Qx:()->()->↑()
 |.str x,.str y=>if (!x)+(!y)<=1000 then #[.str<|x++y] else none
 |_,_=>none
def ala {K:Frag}:gW K Qx (λx y H Q=>∃i j,x=.str i/\y=.str j/\(!i)+(!j)<=sizeLine/\Q (.str<|i++j) H):=by
 intro H x y E B d Q e A n q;delta Qx at e;f_are
 .f_are
  .rename_i i j C;k_go;let(rfl,D):=A;let(rfl,w):=n;exact(_,_,rfl,rfl,cb C<|by decide,q _ λ_=>⟨rfl,agE D w⟩)
  .k_go
 .k_go
def gD:()->()->↑()
 |.str x,.str y=>#[.bool<|not (decide (⇑y<⇑x))]
 |_,_=>none
def aiB {K:Frag}:gW K gD (λx y H Q=>∃i j,x=.str i/\y=.str j/\Q (.bl<|not (decide (⇑j<⇑i))) H):=by
 intro H x y E B d Q e A n q;delta gD at e;f_are
 .k_go;let(rfl,D):=A;let(rfl,w):=n;exact(_,_,rfl,rfl,q _ λ_=>rfl)
 .k_go
def pZ:¬()->↑()
 |[.str x]=>if (!x)<=1000 then #[.int !x] else none
 |_=>none
def alb {K:Frag}:CallD K pZ (λxs H Q=>∃z,xs=[.str z]/\(!z)<=sizeLine/\Q (.int !z) H):=by
 intro H J B d Q e A q;delta pZ at e;f_are
 .f_are
  .rename_i x C;k_go;let(v,rfl,rfl,_):=aK.one A;exact(_,rfl,cb C<|by decide,q _ λ_=>rfl)
  .k_go
 .k_go
def KR:()->()->↑()
 |.str x,.int i=>if (!x)<=1000 then(cP ⇑x i).map λc=>.str ⟨[c].toArray⟩ else none
 |_,_=>none
abbrev tu:=Nf PyData.str
def p7 (xs:¬Str):tu (xs.map PyData.str)=#[xs]:=Dq λ_ _ h=>by cases h;rfl
def yp {K:Frag}{xs:¬Str}(h:aK K H (xs.map PyData.str) vs):vs=xs.map V.str:=aK.flat (g:=PyData.str) (λ_ _ h=>And.left h) h
def KY (A:Bool):()->()->↑()
 |.str x,.list B=>match tu B with
  |some D=>some<|.bool<|if A then not (D.any λy=>y==x) else D.any λy=>y==x
  |none=>none
 |_,_=>none
def adh {K:Frag}:gW K (KY A) (rIn K A):=by
 intro H x y G I d Q e E n q;delta KY at e;f_are
 .f_are
  .rename_i D C;k_go;let(rfl,_):=E;let(p,J,rfl,h1,h2):=n;rw[oW C] at h2;rw[yp h2] at h1;have B:∀x:Str,inV (.str x) (D.map V.str)=D.any λy=>y==x:=λx=>by delta inV;rw[any_map];rfl
   refine(p,_,rfl,.inl h1,rfl,by rw[List.all_map];simp[rQ],?_);rw[B];exact q _ λ_=>rfl
  .k_go
 .k_go
section
variable {lo hi:↑Expr}
def aiC (k:PE X a (tV X.K RW T))(g:PE X b (tV X.K RW U))(l:Di b∣7):PE X (.Subscript a b p) (tV X.K RS<|v2 KR T U):=
 (X4 ahS k g l).imp λ_ _ Q q=>by
  f_int;let(x,y,N,O,e):=qO e;refine(A,G,M,S,F,I,x,N,λv E r D m=>(A,G,M,S,E,I.grow D,y,O,λu H J Y n=>?_));delta KR at e;f_are
  .rename_i z i;f_are
   .rename_i o;cases L:cP ⇑z i with
    |none=>rw[L] at e;k_go
    |some c=>
     rw[L] at e;k_go;let(rfl,B):=m;refine(z,i,c,rfl,n,cb o<|by decide,L,q _ H J (D.trans Y) ⟨rfl,?_⟩);rw[yj] at B ⊢;intro C t
     have:C=c:=‹t›
     subst this;let(j,_,h2,_):=xT L;exact B C<|ag h2
   .k_go
  .k_go
def adi (f:VE)(l u:GS->↑(↑Int)):VE:=λS=>match f S,l S,u S with
 |some (.str x),#[lo],#[hi]=>if (!x)<=1000 then #[.str<|KQ x lo hi] else none
 |_,_,_=>none
def aoo (U:PE X e (tV X.K RW f))(Y:PO X lo (Hw X.K fl))(j:PO X hi (Hw X.K N)):PE X (.Subscript e (.Slice lo hi none z) m) (tV X.K RS<|adi f fl N):=
 (qJ aiA U Y j).imp λ_ H Q q=>by
  f_int;delta adi at e;f_are
  .rename_i x l u o p r;f_are
   .rename_i g;k_go;refine(A,G,M,S,F,I,_,o,λv B t C k=>(A,G,M,S,B,I.grow C,l,p,λD y J=>(A,G,M,S,D,(I.grow C).grow J,u,r,λO E T=>?_)));let(rfl,L):=k;exact(x,rfl,cb g<|by decide,q _ O E ((C.trans J).trans T) ⟨rfl,agC L⟩)
   .k_go
  .k_go
end
end VM
namespace L2
open PyProof.Rows
def sgn (z:Str)(i:Nat):↑Str:=(z.cps[i]?).map λc=>⟨[c].toArray⟩
def Its (z:Str):It:=(λi _=>i<!z,λi H x E=>E=H/\∃y,sgn z i=#[y]/\x=.str y,λi _=>(!z)<=i)
def YT {K:Frag}(z:Str)(t:Tok)(C:Addr):Turn P w K f (Its z) [C] C (λi h=>h.IsStrIter C "str_ascii_iterator" z t i) where
 mem:=by simp
 obj:=λi h st b B=>by
  obtain rfl:b=C:=‹B›
  let(o,e,c,d):=st;exact(o,e,λv y=>by rw[d] at y;cases y)
 keep:=λi h g st k=>let(o,e,r):=st;(o,k C 's' o e,r)
 item:=by
  intro X Q Y O i A s l H I E st U;subst Q Y O;let(G,J,q,L,M,N):=E C 's';have T:i<z.cps.size:=U;have j:z.cps[i]? =#[z.cps[i]]:=by simp[T]
  refine wpAny_pyNext_ascii_item st j λg D u=>?_;have m:Inv X A l H {s with heap:=g,toks:=s.toks+1}:=I.turned (λb o B e=>(u.2 b B).trans e) G J L M N;let(o,e,c,d):=id D;exact(_,rfl,yS (s:={s with heap:=g,toks:=s.toks+1}) e c d ⋯ (.str ⟨[z.cps[i]].toArray⟩,H,m,⟨_,rfl⟩,(rfl,_,by delta sgn;rw[j];rfl,rfl),D,λb B=>(E b B).1))
 done:=by intro X Q Y O i A s l H I E st U;subst Q Y O;let(G,J,q,L,M,N):=E C 's';have T:z.cps.size<=i:=U;exact wpAny_pyNext_ascii_end I.ok.hd st (by simp[T]) λg p=>⟨rfl,I.turned (t':=s.toks) (λb o B e=>p b o B e) G J L M N⟩
 self:=λ_ _ _ _ _ st h=>wpAny_pyIter_striter_ascii st h
section
variable {tg:Expr}
def ascii (z:Str):Bool:=z.cps.all (· <128)
inductive afj (R:(It->Hp->Prop))(x:V)(H1:Hp):Prop
 |mk:∀z,x=.str z->ascii z=true->R (Its z) H1->afj R x H1
def aop (B:TE):TI:=λA H R=>B A H λx E=>afj R x E
def aiD {B:TE}(N:PE X l B):PI X tg l (aop B):=by
 intro A s M H R I h;refine aY (N A s M H _ I h) ?_;rintro v O ⟨x,E,D,L,J⟩;let(z,e,G,q):=J;subst e;let(t,rfl):=L;refine wpAny_pyIter_ascii G ?_;refine(~~~O,[~~~O],_,_,E,rfl,D.kept λb o e=>ar _ e,YT z t _,(_,bc _ rfl,rfl,rfl),λb C=>?_,q);obtain rfl:b= ~~~O:=‹C›
 calc D.uU (av _)<|D.hok.fresh<|av _
inductive YW (K:Frag)(xs:¬V)(H:Hp)(Q:VK):Prop
 |mk:∀(p:Addr) (bs:¬Bool),xs=[.ref p]->aU K H p (bs.map V.bl)->Q (.bl<|bs.all id) H->YW K xs H Q
def aoq:cU X (.builtin "all") (YW X.K):=by
 intro M s σ H xs x Q I r h;let(p,D,rfl,k,q):=h;let(u,rfl,l):=vals1 r;cases l;let(A,O,G,d):=I.list k;have L:=!O;rw[ac] at L;have B:∀(i:Nat) v,A[i]? =#[v]->v=.bool (D.getD i true):=λi v e=>by
  have N:i<!D:=by grind
  let(u,J,m):=O.get (i:=i) (a:=.bl D[i]) (by simp[N]);rw[e] at J;cases J;rw[m];simp[List.getD,N]
 refine call_all_walk<|iF G.isList ?_;have C:p≠s.heap.objs.size:=by let(o,n,e,_):=G;exact c8<|b8 e
 refine(~~~s,_,_,_,_,_,λi=>D.getD i true,rfl,Walks.list (show X.A.in1.handled=none from I.ok.hd) (~~~s) p C A.toArray,⟨(_,bc _ rfl,rfl,rfl),?_⟩,?_,λc f j=>?_)
 .let(o,n,e,T,w,U):=G;exact(o,ar _ e,T,n,U)
 .intro i v s Q E g Y;rw[B i v<|‹g›];exact cK Y
 .have e:(List.range A.toArray.size).all (λi=>D.getD i true)=D.all id:=by
   rw[bu,←L];rw[rj,cp,cp];constructor
   .intro h b B;let(i,N,rfl):=List.getElem_of_mem B;have:=h i<|mx.mpr N;grind
   .intro h i N;have N:=mx.mp N;have:=h D[i]<|qs N;grind
  rw[e];refine(.bl _,H,I.kept λb o t=>j b o ?_<|ar _ t,rfl,q);intro z;have y:b= ~~~s:=‹z›
  calc absurd (b8 t) (by rw[y];calc hZ _)
end
end L2
namespace VM
open PyProof.Rows L2
def DR (z:Str):¬():=(⇑z).map λc=>.str ⟨[c].toArray⟩
def gq (f:VE):VA:=λS=>match f S with
 |some (.str z)=>if ascii z=true then #[DR z] else none
 |_=>none
section
variable {fs:VA}
def itS (j:PE X l (tV X.K RW f)):PI X u l (u5 X.K<|gq f):=PI.imp (aiD j) λ_ H R q=>by
 let(C,G,M,S,F,I,p,e,q):=q;delta gq at e;f_are
 .rename_i z m;f_are
  .rename_i Y;k_go;refine(C,G,M,S,F,I,_,m,λv N T U g=>?_);let(rfl,J):=g;refine(z,rfl,Y,q _ N T U ⟨λi d D O B r o=>⟨?_,λx Q n=>?_⟩,λi D O k _ _=>?_⟩)
   .have:=(ah.mp B).1;rw[DR,ac] at this;assumption
   .let(rfl,y,n,rfl):=n;refine(D,bA.refl o,?_);rw[DR,ay] at B;let(c,L,rfl):=c6.mp B;have A:z.cps[i]? =#[c]:=‹L›
    delta sgn at n;rw[A] at n;cases n;refine⟨rfl,?_⟩;rw[yj] at J ⊢;intro E t
    have:E=c:=‹t›
    subst this;exact J E<|ag L
   .rw[DR,ac] at k;assumption
  .k_go
 .k_go
abbrev yq:=Nf PyData.bool
def Fd (xs:¬Bool):yq (xs.map PyData.bool)=#[xs]:=Dq λ_ _ h=>by cases h;rfl
def adk {K:Frag}{xs:¬Bool}(h:aK K H (xs.map PyData.bool) vs):vs=xs.map V.bl:=aK.flat (g:=PyData.bool) (λ_ _ h=>h) h
def vh:¬()->↑()
 |[.list A]=>(yq A).map λD=>.bool<|D.all id
 |_=>none
def aor {K:Frag}:CallD K vh (YW K):=by
 intro H J A d Q e B q;delta vh at e;f_are
 .rename_i A;cases t:yq A with
  |none=>grind
  |some D=>rw[t] at e;k_go;let(v,rfl,a,C,rfl,h1,h2):=aK.one B;rw[oW t] at h2;rw[adk h2] at h1;exact(a,D,rfl,h1,q _ λ_=>rfl)
 .k_go
end
end VM
namespace L2
open PyProof.Rows
section
variable [DecidableEq κ]
def dO (B:¬(κ×V))(k:κ):↑V:=(B.find? λA=>decide<|A.1=k).map (·.2)
def putK (B:¬(κ×V))(k:κ)(v:V):¬(κ×V):=
 if(B.any λA=>decide<|A.1=k)=true then B.map (λA=>if A.1=k then(A.1,v) else A) else B++[(k,v)]
def mq (B:¬(κ×V))(k:κ):¬(κ×V):=B.filter λA=>decide<|A.1≠k
def jL {k:κ}(e:p.1=k):dO (p::r) k=#[p.2]:=by simp[dO,nE,e]
def jg {k:κ}(e:Not (p.1=k)):dO (p::r) k=dO r k:=by simp[dO,nE,e]
def xG (B:¬(κ×V))(k:κ)(v:V):(!(putK B k v))<=(!B)+1:=by
 delta putK;split
 .rw[ac];lk
 .rw[aE,a8,c9];lk
def oO.wH (r:oO o u):o.isSome=u.isSome:=by
 cases o with
 |none=>cases u with
  |none=>rfl
  |some _=>calc(show False from r).elim
 |some _=>cases u with
  |none=>calc(show False from r).elim
  |some _=>rfl
def KV.val {vs:¬(κ×Value)}(r:KV B vs)(k:κ):oO (dO B k) (valueAt vs k):=by
 delta KV at r;induction r with
 |nil=>calc eD
 | @cons p q E C h t D=>
  let(h1,h2):=h;by_cases e:p.1=k
  .have A:q.1=k:=h1.symm.trans e;have b:valueAt (q::C) k=#[q.2]:=by simp[valueAt,nE,A]
   rwa [jL e,b]
  .have A:Not (q.1=k):=λz=>e<|h1.trans z;have b:valueAt (q::C) k=valueAt C k:=by simp[valueAt,nE,A]
   rwa [jg e,b]
theorem KV.any (r:KV B vs)(k:κ):(B.any λA=>decide<|A.1=k)=vs.any λA=>decide (A.1=k):=by
 delta KV at r;induction r with
 |nil=>rfl
 |cons h t C=>rw[i8,i8,C,h.1]
def KV.repl (r:KV B vs)(k:κ)(M:RelV y u):
  KV (B.map λA=>if A.1=k then(A.1,y) else A) (vs.map λA=>if A.1=k then(A.1,u) else A):=by
 delta KV at r ⊢;induction r with
 |nil=>calc .nil
 | @cons p q E D h t C=>rw[aT,aT];refine .cons ?_ C;lk
def KV.put (r:KV B vs)(k:κ)(M:RelV y u):KV (putK B k y) (stored vs k u):=by
 delta putK stored;rw[r.any k];by_cases e:(vs.any λA=>decide<|A.1=k)=true
 .rw[ap e,ap e];exact r.repl k M
 .rw[aw e,aw e];calc Paired.snoc r ⟨rfl,M⟩
def KV.drop (r:KV B vs)(k:κ):KV (mq B k) (without vs k):=by
 delta KV at r ⊢;delta mq without;induction r with
 |nil=>calc .nil
 | @cons p q E D h t C=>
  let(h1,h2):=h;rw[fR,fR];by_cases e:p.1=k
  .omega
  .have A:Not (q.1=k):=λz=>e<|h1.trans z;have a:decide (p.1≠k)=true:=by simp[e]
   have b:decide (q.1≠k)=true:=by simp[A]
   rw[ap a,ap b];calc .cons ⟨h1,h2⟩ C
theorem KV.length (r:KV B vs):(!B)=!vs:=lh r
def adl (B:¬(κ×V))(k:κ):(!(mq B k))<=!B:=gd _ _
end
def rW (r:RelV (kV k) u):(strKind P w).is k u=true:=by let(t,e):=r;subst e;simp[PySem.strKind,Value.isStrOf]
section
variable {a:Addr}
def alc (N:jP P w H h)(e:Rd H a u):fU P w H h a u:=e.ok N
def zG (N:jP P w H h)(e:Rd H a (.dK B)):(!B)<=sizeLine/\(a==sysModules)=false/\∃vs,KV B vs/\h.DictOf (strKind P w) a vs:=
 show fU P w H h a (.dK B) from alc N e
def m8 (N:jP P w H h)(e:H a=#[.dK B]):(!B)<=sizeLine/\(a==sysModules)=false/\∃vs,KV B vs/\h.DictOf (strKind P w) a vs:=zG N<|.inl e
end
def gO (H:Hp)(a:Addr)(y:V)(r:↑V):Prop:=
 ∃B k,Rd H a (.dK B)/\y=kV k/\r=dO B k
def qW (H:Hp)(a:Addr)(y v:V)(E:Hp):Prop:=
 ∃B k,H a=#[.dK B]/\y=kV k/\(!B)<sizeLine/\E=upd H a (.dK<|putK B k v)
theorem gO.k {k:Key}(e:H a=#[.dK B]):gO H a (kV k) (dO B k):=(B,k,.inl e,rfl,rfl)
theorem qW.k {k:Key}(e:H a=#[.dK B])(N:(!B)<sizeLine):qW H a (kV k) v (upd H a<|.dK<|putK B k v):=(B,k,e,rfl,N,rfl)
section
variable {E:Value->Shared->Prop}
def Inv.big (I:Inv X A B H s):sysModules< ~~~s:=by have h:mainGlobals< ~~~s:=(I.mod.glob.keeps I.bk).lt;calc Nat.lt_trans ⋯ h
def aaN (f:A.units+1<cLine)(I:Inv X B U H s)(g:gO H a y #[v])(O:RelV y u)(h:∀C G,Inv X B U H G->RelV v C->Q C G):
  (X.prog\X.w) A (getItem (.ref a) u) Q E s:=by
 let(M,k,e,J,l):=g;subst J;let(z,Y,T,rel,N):=zG I.hok e;let(C,L,D):=oO.some_of (v:=v) (o:=valueAt T k) (by rw[l];calc rel.val k);calc wpAny_getItem_of (rW O) N.mapOf L<|h C _ (I.tok _) D
def aos (f:A.units+1<cLine)(I:Inv X B L H s)(g:gO H a y o)(M:RelV y u)(h:∀C,Inv X B L H C->Q (.bool o.isSome) C):
  (X.prog\X.w) A (compareOp .In u<|.ref a) Q E s:=by
 let(J,k,e,D,l):=g;subst D;let(z,G,O,rel,N):=zG I.hok e;refine wpAny_in_of (rW M) G N.mapOf ?_;rw[<-(rel.val k).wH,←l];calc h _<|I.tok _
def agF (f:A.units+1<cLine)(I:Inv X B L H s)(g:gO H a y o)(M:RelV y u)(h:∀C,Inv X B L H C->Q (.bool<|not o.isSome) C):
  (X.prog\X.w) A (compareOp .NotIn u<|.ref a) Q E s:=by
 let(J,k,e,D,l):=g;subst D;let(z,G,O,rel,N):=zG I.hok e;refine wpAny_notIn_of (rW M) G N.mapOf ?_;rw[<-(rel.val k).wH,←l];calc h _<|I.tok _
def KZ (I:Inv X A G H s)(mu:ZP (H a))(D:Heap.SameBut a s.heap h')(Q:∃q,h' a=#[q])(B:fU X.prog X.w (upd H a ob) h' a ob):
  Inv X A G (upd H a ob) {s with heap:=h',toks:=t'}:=
 I.write (x:=a) (e:=a) mu (.inl rfl) (λb q C z=>(D.2 b C).trans z) Q B
def Jf (z:(!B)<=sizeLine)(G:(a==sysModules)=false)(rel:KV B vs)(N:h'.DictOf (strKind P w) a vs):
  fU P w A h' a (.dK B):=(z,G,vs,rel,N)
def aaO (f:A.units+1<cLine)(I:Inv X D c H s)(g:qW H a y v J)(t:RelV y u)(p:RelV v r)(h:∀G,Inv X D c J G->Q ⟨⟩ G):
  (X.prog\X.w) A (setItem (.ref a) u r) Q E s:=by
 let(C,k,e,M,l,L):=g;subst M L;let(z,T,b,rel,N):=m8 I.hok e;have o:(!b)<=sizeLine:=by rwa [<-!rel]
 have Y:(!(putK C k v))<=sizeLine:=by have:=xG C k v;lk
 refine wpAny_setItem_pairs (hsz:=o) (rW t) N λO B m=>h _ ?_;have U:∃q,O a=#[q]:=let(q,_,_,j,_):=B;⟨q,j⟩;calc KZ I (by rw[e];calc eD) m U (Jf Y T (rel.put k p) B)
end
section
variable {E:Value->Shared->Prop}
def ald (I:Inv X G c H s)(e:H a=#[.dK C])(O:RelV (kV k) u)(l:dO C k=#[v])(M:B=[]\/∃x,B=[x])
  (h:∀J T,Inv X G c (upd H a<|.dK<|mq C k) T->RelV v J->Q J T):(X.prog\X.w) A (call (.builtin "dict.pop") (.ref a::u::B)) Q E s:=by
 let(z,j,U,rel,N):=m8 I.hok e;let(J,b,L):=oO.some_of (v:=v) (o:=valueAt U k) (by rw[<-l];calc rel.val k);have p:(keyPart u).isSome=true:=by let(t,q):=O;subst q;rfl
 have Y:argsOk "dict.pop" ⟨.ref a::u::B,[]⟩:=by
  rcases M with q|⟨x,q⟩
  .subst q;exact PySem.F.args_dict_pop_2 _ _
  .subst q;exact PySem.F.args_dict_pop_3 _ _ _
 refine ie nK N.typeIs PySem.F.entry_dict_pop Y (meets_dict_pop_there (strKind X.prog X.w) a (rW O) B M p)
  (U,J,N,by rwa [<-!rel],b,λg D y=>h J _ ?_ L)
 have m:∃q,g a=#[q]:=let(q,_,_,r,_):=D;⟨q,r⟩;calc KZ I (by rw[e];calc eD) y m (Jf (cb (adl C k) z) j (rel.drop k) D)
def ale (I:Inv X B J H s)(e:Rd H a (.dK C))(h:∀t D,Inv X B J H D->Q (.int (!C) t) D):(X.prog\X.w) A (call (.builtin "len") [.ref a]) Q E s:=by let(z,G,L,rel,N):=zG I.hok e;refine call_len_dict G N (by rw[<-!rel];rw[fT] at z;lk) ?_;rw[<-!rel];calc h _ _<|I.tok _
end
def adn (i:Expr):Prop:=∀C B,subscripted i false C B=operate [C,B] (getItem C B)
def Wg {T id:String}
  (N:typeLookup (.type T) "__getitem__"=pure (#[.builtin id]))(M:adn B)
  (h:(prog\w) A (eval C env) (λo G=>(prog\w) A (eval B env) (λi D=>D.TypeIs o T/\(prog\w) A (getItem o i) Q E D) E G) E s):
  (prog\w) A (eval (.Subscript C B Y) env) Q E s:=by
 refine Subscript_<|eR h (λo G J=>eR J (λi D O=>?_) λ_ _ x=>x) λ_ _ x=>x;let(U,O):=O;delta subscriptTail;refine aa ?_;rw[getitemInPython_of_ne U.not_modules];refine aa<|nb U N ?_;have I:(prog\w) A (subscripted B false o i) (λr H=>(prog\w) A (letTemporaryGo C o r>>= λ_=>pure r) Q E H) E D:=by rw[M o i];exact wpAny_operating<|eR O (λr H L=>aa<|wpAny_letTemporaryGo<|ax L) λ_ _ x=>x
 first
  |calc ax (aa I)
  |calc aa (ax<|aa I)
  |calc aa I
def Vj (I:Inv X A C H s)(g:gO H a y o):s.TypeIs (.ref a) "dict":=by let(B,k,e,_,_):=g;let(_,_,J,_,N):=zG I.hok e;calc N.typeIs
def Qy (A C:TE):TE:=λB H Q=>A B H λx E=>C B E λy J=>∃a v,x=.ref a/\gO J a y #[v]/\Q v J
def ado (C A:TE):TE:=λB H Q=>C B H λy E=>A B E λx J=>∃a o,x=.ref a/\gO J a y o/\Q (.bl o.isSome) J
def DW (C A:TE):TE:=λB H Q=>C B H λy E=>A B E λx J=>∃a o,x=.ref a/\gO J a y o/\Q (.bl<|not o.isSome) J
def uG (A I G:TE):TS:=λD B H=>G B H λv E=>A B E λx J=>I B J λy C=>∃a M,x=.ref a/\qW C a y v M/\D.nx B M
section
variable {A B C:TE}
def gP (f:X.A.units+1<cLine)(U:PE X o A)(hi:PE X i B)(Y:adn i):PE X (.Subscript o i j) (Qy A B):=by intro D s G H Q I h;refine Wg my.lookup Y<|aY (U D s G H _ I h) ?_;rintro u q ⟨x,J,M,m,k⟩;refine aY (hi D q G J _ M k) ?_;rintro r t ⟨y,L,N,p,a,v,T,g,l⟩;subst T;obtain rfl:u=Value.ref a:=m;calc⟨Vj N g,aaN f N g p λb z O E=>(v,L,O,E,l)⟩
def aaP (f:X.A.units+1<cLine)(hi:PE X i B)(T:PE X o A):PC X .In i o (ado B A):=by intro D s E H Q I h;refine aY (hi D s E H _ I h) ?_;rintro p m ⟨y,G,L,l,Y⟩;refine aY (T D m E G _ L Y) ?_;rintro u q ⟨x,J,N,j,a,U,M,g,k⟩;subst M;obtain rfl:u=Value.ref a:=j;calc aos f N g l λr O=>(.bl U.isSome,J,O,rfl,k)
def BW (f:X.A.units+1<cLine)(hi:PE X i B)(T:PE X o A):PC X .NotIn i o (DW B A):=by intro D s E H Q I h;refine aY (hi D s E H _ I h) ?_;rintro p m ⟨y,G,L,l,Y⟩;refine aY (T D m E G _ L Y) ?_;rintro u q ⟨x,J,N,j,a,U,M,g,k⟩;subst M;obtain rfl:u=Value.ref a:=j;calc agF f N g l λr O=>(.bl<|not U.isSome,J,O,rfl,k)
def m9 (f:X.A.units+1<cLine)(l:PE X o A)(hi:PE X i B)(p:PE X G C)(m:swapsWith G (#[.Subscript o i J]) M.line X.env=pure false):
  PS X (.Assign [.Subscript o i J] G M) (uG A B C):=by
 intro E s L H D I h;refine wpAny_Assign_Subscript (aY (p E s L H _ I h) ?_) m;rintro r n ⟨v,N,T,b,q⟩;refine aY (l E n L N _ T q) ?_;rintro u w ⟨x,O,U,c,t⟩;refine aY (hi E w L O _ U t) ?_;rintro iv s3 ⟨y,e,Y,d,a,Q,k,g,z⟩;subst k;obtain rfl:u=Value.ref a:=c;calc aaO f Y g d b λs4 j=>(L,Q,j,z)
end
def RT (h:Heap)(B:sysModules<h.objs.size):fU P w H (h.push {cls:=.type "dict",data:=.dict #[]}) h.objs.size (.dK []):=
 (cv _,ot.mpr<|ci (c8 B),[],.nil,Heap.DictOf.new h)
def aiE:TE:=λ_ H Q=>∀p,H p=none->Q (.ref p) (upd H p<|.dK [])
section
variable {A:Pos}
def zH:PE X (.Dict [] [] A) aiE:=λB s C H Q I h=>
 wpAny_Dict_empty (.ref (~~~s),_,I.laid (a:= ~~~s) (o:=.dK []) (t':=s.toks) (λ_ _ q=>ar _ q) (av _)<|RT s.heap I.big,rfl,h _<|I.hok.fresh<|av _)
end
def yr:¬(TE×TE)->St->Hp->(¬(V×V)->Hp->Prop)->Prop
 |[],_,H,Q=>Q [] H
 |(Y,D)::r,B,H,Q=>Y B H λx E=>D B E λy J=>yr r B J λA C=>Q ((x,y)::A) C
abbrev VV:¬(V×V)->¬(Value×Value)->Prop:=Paired λp q=>RelV p.1 q.1/\RelV p.2 q.2
def PPs (X:Cx)(D:Pos)(C:¬(↑Expr))(A:¬Expr)(E:¬(TE×TE)):Prop:=
 ∀(B:¬(Addr×Obj)) (s:Shared) (G:St) (H:Hp) (Q:¬(V×V)->Hp->Prop),Inv X B G H s->yr E G H Q->
  (X.prog\X.w) X.A (evalPairs<|pairTrees C A X.env D) (λM L=>∃J I,Inv X B G I L/\VV J M/\Q J I) NE s
def agG:PPs X B [] [] []:=λA s C H Q I h=>pairTrees_nil_walk ([],H,I,.nil,h)
def RV (hk:PE X k q)(M:PE X v r)(hr:PPs X B T vs E):
  PPs X B (#[k]::T) (v::vs) ((q,r)::E):=λA s C H Q I h=>
 pairTrees_cons_walk (aY (hk A s C H _ I h) λu o (x,D,L,l,Y)=>aY (M A o C D _ L Y) λz p (y,J,N,m,j)=>
  aY (hr A p C J _ N j) λb t (U,G,O,rel,g)=>((x,y)::U,G,O,.cons ⟨l,m⟩ rel,g))
def vo (C B:¬(Key×V)):¬(Key×V):=B.foldl (λA D=>putK A D.1 D.2) C
def KV.merge:∀{A:¬(Key×V)}{rs:¬(Key×Value)} {B:¬(Key×V)} {vs:¬(Key×Value)},KV A rs->KV B vs->KV (vo B A) (merged vs rs):=by
 intro A rs B vs r;delta KV at r;induction r generalizing B vs with
 |nil=>intro q;calc q
 | @cons p q E G h t C=>
  intro D;have e:KV (putK B p.1 p.2) (stored vs q.1 q.2):=by have:=D.put p.1 h.2;rwa [<-h.1]
  calc C e
theorem Aj:∀(A B:¬(Key×V)),(!(vo B A))<=(!B)+!A
 |[],B=>by show (!B)<=(!B)+0;lk
 |p::r,B=>by have h1:=Aj r<|putK B p.1 p.2;have h2:=xG B p.1 p.2;show (!(vo (putK B p.1 p.2) r))<=_;grind
theorem Jg:∀{B:¬(Key×V)}{ws:¬(Value×Value)},VV (B.map λA=>(kV A.1,A.2)) ws->∃rs,Carries (strKind P w) ws rs/\KV B rs
 |[],_,r=>by rw[fx] at r;cases r;calc([],eD,.nil)
 |p::B,_,r=>by
  rw[aT] at r;cases r with
  | @cons a b E D h t=>let(rs,c,q):=Jg (P:=P) (w:=w) t;let(b1,b2):=b;calc((p.1,b2)::rs,(rW h.1,rfl,c),.cons ⟨rfl,h.2⟩ q)
def alf (E:¬(TE×TE)):TE:=λD H Q=>∀p,H p=none->yr E D (upd H p<|.dK []) λC J=>J p=#[.dK []]/\∃B:¬(Key×V),C=B.map (λA=>(kV A.1,A.2))/\(!B)<=15/\Q (.ref p) (upd J p<|.dK<|vo [] B)
def agH (h:PPs X L C A M)(D:C.all (·.isSome)=true)(k:(!C)=!A)(U:C≠[])
  (J:(!C)<=15):PE X (.Dict C A L) (alf M):=by
 intro G s b H Q I q;refine wpAny_Dict_walk (knd:=strKind X.prog X.w) D k U J<|aY (h G _ b _ _ (I.laid (a:= ~~~s) (o:=.dK []) (h':=s.heap.push {cls:=.type "dict",data:=.dict #[]}) (t':=s.toks) (λ_ _ q=>ar _ q) (av _)<|RT s.heap I.big)<|q _<|I.hok.fresh<|av (~~~s)) ?_;rintro x n ⟨f,d,N,rel,e,E,T,lk,r⟩;subst T;let(v,c,u):=Jg (P:=X.prog) (w:=X.w) rel;let(z,Y,y,t,O):=m8 N.hok e;cases t;refine(v,c,O,λg B m=>(.ref (~~~s),_,?_,rfl,r));have p:(!(vo [] E))<=sizeLine:=by have h1:=Aj E [];rw[c9] at h1;rw[fT];lk
 have j:∃q,g (~~~s)=#[q]:=let(q,_,_,l,_):=B;⟨q,l⟩;calc KZ N (by rw[e];calc eD) m j (Jf p Y (u.merge .nil) B)
structure M1 (X:Cx)(o:Expr)(m:Str)(Bf:Pos)(e:Expr)(pO:Pos):Prop where
 base:attributeBase o m X.env (eval o X.env)=eval o X.env
 few:((backTo pO (starEach [e] X.env)).all (λx=>not x.1) && (backToKw pO (keywordEach [] X.env)).all (λx=>x.1.isSome)
  && decide ((!([e]:¬Expr))+(!([]:¬Keyword))+(if([]:¬Keyword).isEmpty then 0 else 1)<30))=true
 line:(Bf.endLine==pO.line)=true
 trees:backTo pO (starEach [e] X.env)=[(false,eval e X.env)]
def IsD (H:Hp)(a:Addr):Prop:=∃B,Rd H a (.dK B)
def aiF (I:Inv X A C H s)(d:IsD H a):
  s.TypeIs (.ref a) "dict"/\(∀b,Value.ref a=.ref b->∃ob,s.heap b=#[ob]/\ob.dict=none)/\(a==sysModules)=false:=by
 let(B,e):=d;let(_,G,J,_,N):=zG I.hok e;refine(N.typeIs,λb q=>?_,G);cases q;let(ob,_,_,h1,h2,_):=N;calc(ob,h1,h2.2.1)
section
variable {E:Value->Shared->Prop}
end
def Jh (C D:TE):TE:=λA H Q=>C A H λx E=>∃a,x=.ref a/\IsD E a/\D A E λy J=>∃B k v,J a=#[.dK B]/\y=kV k/\dO B k=#[v]/\Q v (upd J a<|.dK<|mq B k)
section
variable {A B C:TE}
def zJ (p:PE X o A)(g:PE X e B)(m:M1 X o "pop" E e G):PE X (.Call (.Attribute o "pop" E) [e] [] G) (Jh A B):=by intro D s M H Q I h;refine wpAny_Call_method m.base m.few m.line du nK PySem.F.type_dict_pop<|aY (p D s M H _ I h) ?_;rintro u c ⟨x,N,L,z,a,Y,d,r⟩;subst Y;obtain rfl:u=Value.ref a:=z;let(f,n,_):=aiF L d;refine(f,n,?_);rw[m.trees];refine ki rfl<|Calls.evalArgs_plain<|lz<|aY (g D c M N _ L r) ?_;rintro i s2 ⟨y,w,O,b,q,k,v,U,j,l,t⟩;refine mn ?_;subst j;calc ald O U b l (.inl rfl) λw' s3 T J=>(v,_,T,J,t)
end
section
variable {E:Value->Shared->Prop}
end
section
variable {E:Value->Shared->Prop}
end
end L2
namespace VM
open L2 PySem.W PySem.Calls PyProof.Rows
section
variable {X:Cx}
end
end VM
namespace VM
open L2
abbrev Pq:=Int×Int×Int×Int
def pD (q:Pq):():=.tuple [.int q.1,.int q.2.1,.int q.2.2.1,.int q.2.2.2]
def yt (ps:¬Pq):():=.list<|ps.map pD
abbrev bD:=Nf pD
def adp (ps:¬Pq):bD (ps.map pD)=#[ps]:=Dq λa b h=>by simpa [pD,Prod.ext_iff] using h
def wI (m e:Int)(x:Int):():=.tuple [.int m,.int e,.int x]
def nH:Nat->¬Pq->Int->¬()
 |_,[],_=>[]
 |k,q::r,u=>(if q.1=u then [wI (2*k) q.2.1 q.2.2.2] else [])++((if q.2.1=u then [wI (2*k+1) q.1<|-q.2.2.2] else [])++nH (k+1) r u)
theorem Nu (q:Pq)(u:Int):∀(r:¬Pq) (k:Nat),nH k (r++[q]) u=nH k r u++((if q.1=u then [wI (2*((k+(!r):Nat):Int)) q.2.1 q.2.2.2] else [])++(if q.2.1=u then [wI (2*((k+(!r):Nat):Int)+1) q.1<|-q.2.2.2] else []))
 |[],k=>by simp[nH]
 |p::r,k=>by
  rw[kz,nH,nH,Nu q u r<|k+1];have e:k+1+(!r)=k+!(p::r):=by simp;lk
  rw[e];erw[cE]
theorem Gq (u:Int):∀(r:¬Pq) (k:Nat),(!(nH k r u))<=2*!r
 |[],_=>cv _
 |q::r,k=>by
  have A:=Gq u r<|k+1;have a:(!(if q.1=u then [wI (2*k) q.2.1 q.2.2.2] else []))<=1:=by split<;>simp
  have b:(!(if q.2.1=u then [wI (2*k+1) q.1<|-q.2.2.2] else []))<=1:=by split<;>simp
  rw[nH,aE,aE,a8];lk
def dh (ps:¬Pq)(n:Nat):():=.list<|(List.range n).map λ(u:Nat)=>.list<|nH 0 ps (u:Int)
def fH:f9:=λB=>match B with
 |[.int m,.list A]=>(match bD A with
  |some E=>if 0<=m/\m<=1000/\(!E)<=1000/\(∀q∈E,(0<=q.1/\q.1<m)/\0<=q.2.1/\q.2.1<m) then #[(false,dh E m.toNat)] else none
  |none=>none)
 |_=>none
def Ji (L:0<=m)(h1:m<=1000)(h2:(!ps)<=1000)(J:∀q∈ps,(0<=q.1/\q.1<m)/\0<=q.2.1/\q.2.1<m):fH [.int m,yt ps]=#[(false,dh ps m.toNat)]:=by delta fH yt;erw[adp];rw[ap (L,h1,h2,J)]
structure MI (K:Frag)(G cQ:Hp)(D:Addr)(bs:¬Addr)(f:Nat->¬())(H:Hp):Prop where
 ex:∃F,Same cQ H/\Same G F/\Same F H/\(∀a o,F a=#[o]->G a=#[o]\/Ae o=true)/\F D=none/\cQ D=none/\H D=#[.lst<|bs.map V.ref]/\Not (D∈bs)/\bs.Nodup/\
  (∀b∈bs,F b=none/\cQ b=none)/\∀(u:Nat) b,bs[u]? =#[b]->∃ys,H b=#[.lst ys]/\aK K F (f u) ys
section
variable {f f':Nat->¬()}
def MI.congr (I:MI K G M D B f H)(h:∀u,u<!B->f u=f' u):MI K G M D B f' H:=by let(F,h1,h2,J,E,k,L,N,O,Q,A,C):=I.ex;refine(F,h1,h2,J,E,k,L,N,O,Q,A,λu b e=>?_);grind
def MI.put (I:MI K G M D v f H)(j:v[u]? =#[b])(Y:H p=none)(s:∀w,f' w=if w=u then f w++[wI m e x] else f w):
  ∃ys,H b=#[.lst ys]/\(upd H p<|.tup [.int m,.int e,.int x]) b=#[.lst ys]/\(!ys)=!(f u)/\MI K G M D v f' (upd (upd H p<|.tup [.int m,.int e,.int x]) b<|.lst<|ys++[.ref p]):=by
 let(F,h1,h2,y,h,h5,h6,c,d,n,B,L):=I.ex;let(ys,g,q2):=L u b j;have E:=ag j;have U:=aV g Y;have O:=aV c Y;have q:D≠b:=λz=>d<|z▸E;have C:=y.free Y;refine(ys,g,by rw[au U];calc g,q2.length.symm,upd F p<|.tup [.int m,.int e,.int x],?_,h2.trans<|aH C,?_,?_,?_,h6,?_,d,n,?_,?_)
 .intro a o e;have A:=aV e (B b E).2;rw[au A];exact aH Y a o<|h1 a o e
 .intro a o e;by_cases A:a=p
  .subst A;rw[ao] at e;rw[au<|ci U,ao];exact e
  .rw[au A] at e;have r:=aV e (B b E).1;rw[au r,au A];exact y a o e
 .intro a o e;by_cases A:a=p
  .subst A;rw[ao] at e;k_go;exact .inr rfl
  .rw[au A] at e;exact h a o e
 .rw[au O];exact h5
 .rw[au q,au O];exact c
 .intro N Q
  have:N≠p:=λz=>by subst z;let(u',e'):=hE.mp Q;grind
  rw[au this];exact B N Q
 .intro w N k;let(zs,l,i):=L w N k;have T:=aV l Y;by_cases J:w=u
  .subst J;rw[j] at k;cases k;rw[g] at l;cases l;refine(ys++[.ref p],ao,?_);rw[s,ap rfl];have hv:Has K (upd F p<|.tup [.int m,.int e,.int x]) (wI m e x) (.ref p):=(p,_,rfl,cF.of ao,_,_,rfl,rfl,_,_,rfl,rfl,_,_,rfl,rfl,rfl);exact aK.snoc hv<|aK.same (aH C) i
  .have t:N≠b:=λz=>by
    subst z;exact J ((List.getElem?_inj (by
     grind) n).mp (by rw[k,j]))
   refine(zs,by rw[au t,au T];calc l,?_);rw[s,aw J];calc aK.same (aH C) i
def MI.fin (I:MI K G M D A f H):∃F,bA G M F H/\Has K F (.list<|(List.range !A).map λu=>.list<|f u) (.ref D):=by
 let(F,h1,h2,U,q,t,v,Y,y,z,T,L):=I.ex;let C:Hp:=λa=>if a=D\/a∈A then H a else F a
 have J:∀a,C a=if a=D\/a∈A then H a else F a:=λ_=>rfl
 have O:Same F C:=λa o e=>by grind
 refine(C,(h1,h2.trans O,λa o e=>?_,λa o e=>?_),?_)
 .rw[J] at e;f_are
  .exact e
  .exact U a o e
 .grind
 .refine(D,A.map V.ref,rfl,aU.of (by rw[J,ap<|.inl rfl];calc Y),?_);have N:∀(B:¬Addr) (k:Nat),(∀i b,B[i]? =#[b]->A[k+i]? =#[b])->aK K C ((List.range' k !B).map λu=>PyData.list<|f u) (B.map V.ref):=λB=>by
   induction B with
   |nil=>intro k _;rfl
   |cons b r g=>intro k Q;have E:=Q 0 b rfl;let(p,l,m):=L k b E;rw[a8,qi];refine(_,_,rfl,(b,p,rfl,aU.of (by rw[J,ap<|.inr<|ag E];calc l),aK.same O m),g (k+1) λi c j=>?_);have:=Q (i+1) c ‹j›;lk
  have:=N A 0 λi b E=>by rw[kn];exact E
  rw[ol];lk
end
open PyProof.Rows
section
variable {K:Frag}
end
def ak (e:B[i]? =#[#[v]])(q:Q v H):vR i B H Q:=by delta vR;rw[e];calc q
section
variable {X:Cx}{rest:¬Stmt}
end
end VM
namespace L2
section
variable {X:Cx}
def gx (h:(glB X.env.scope x=true)∣10):Gl X x:=gl h
def lx (h:(acL X.env.scope x=true)∣10):Loc X.env.scope x:=lo h
def cW.mo (r:cW k A)(h:(j<=k)∣1):cW j A:=r.mono h
end
section
variable {sc:Scope}
def fs (a:(sc.kind=.function)∣0)(b:(sc.isCoroutine=false)∣0)(c:(sc.isGenerator=false)∣0)(d:N.Nodup∣2)(e:(N.take (!P)=P)∣0)(f:(∀x∈P,sc.names.lookup x=some .local\/sc.names.lookup x=some .cell)∣2)(g:(∀y∈sc.names,y.2≠ .free)∣2):iz N P sc:=(a,b,c,d,e,f,g)
def iz.vt (_:iz N P sc)(h:(N.all (λx=>nG sc x && plain x)=true)∣2):N.all (λx=>nG sc x && plain x)=true:=h
end
section
variable {sc:Scope}
def pU (i:Nat)(vt:N.all (λx=>nG sc x && plain x)=true:=by calc vt)(C:(X.N[i]? =#[x])∣0)(A:(X.N=N)∣0)(B:(X.env.scope=sc)∣0):PE X (.Name x D) (vR i):=pV vt i C A B
end
def pS (i:Nat)(Q:PE X e te)(B:X.N.Nodup∣11)(hi:(X.N[i]? =#[x])∣0)(G:Loc X.env.scope x∣12)(E:(swapsWith e (#[.Name x C]) A.line X.env=pure false)∣0)(D:(X.fn x=true\/X.env.scope.names.lookup x=some .local)∣3):PS X (.Assign [.Name x C] e A) (jq te<|cg i):=Aw B hi G Q E D
def pG (i:Nat)(A:X.N.Nodup∣11)(hi:(X.N[i]? =#[x])∣0)(B:Loc X.env.scope x∣12)(C:(X.fn x=true\/X.env.scope.names.lookup x=some .local)∣3):PG X (.Name x D) (cg i):=xQ A hi B C
def pC {n:Nat}(C:Cal X.prog X.w X.K X.mg X.base k x ps H)(G:PA X (e::D) t)(hr:cW n X.A∣9)(hk:(k<=n)∣1)(hg:Gl X x:=by calc gx)
  (A:((x==("__debug__":Str))=false)∣1)(Q:(starEach (e::D) X.env=(false,eval e X.env)::starEach D X.env)∣0)(E:((backTo B<|starEach D X.env).any (·.1)=false)∣0):
  PE X (.Call (.Name x p) (e::D) [] B) (jy H t):=ae3 C (hr.mono hk) hg G A Q E
end L2
namespace bV
open L2 VM
def top (i:Nat):Stmt:=PySem.Challenge.pw_leavehall_k81_whole_desk_by_its_texts.main.body.getD i<|.Pass (0,0,0,0)
abbrev bW (j:Nat):Stmt:=inClass (top 37) j
def Fe:Stmt->Str
 |.FunctionDef x _ _ _ _ _ _ _ _ _=>x
 |_=>Str.empty
def yu (s:Stmt):¬Str:=(lR s).args.map (·.arg)
def BD (q:Str)(st:Stmt):Prop:=YF (!(yu st)) λC=>∀kV Y k O D U,bindArgs (fnOf (Fe st) q (lR st) (dU st) (aP st) .none kV Y k O D U) ⟨C,[]⟩=pure ((yu st).zip C)
def BD.b (h:BD q st)(F:xU K (Fe st) q st f A):Binds A (yu st):=F.binds λ_ _ _ _ _ _ C N=>by delta BD at h;rw[<-N] at h;calc h.go _ _ _ _ _ _
structure Ms (P:Program)(w:World)(K:Frag)(mg:Str->↑Value)(base:Heap)(C:Addr)(lv:Nat)(m:Str)(ps:¬Str)(sp:Sp):Prop where
 ex:∃f fd,jK P w K mg base lv f fd ps sp/\Meth K C m f/\Binds fd ps
structure En where
 P:Program
 w:World
 mg:Str->↑Value
 base:Heap
inductive GF (E:En)(K:Frag)(i:Nat):Prop
 |mk (F:xU K (Fe<|top i) q (top i) f fd) (g:E.mg (Fe<|top i)=#[.ref f])
inductive MF (E:En)(K:Frag)(C:Addr)(st:Stmt):Prop
 |mk (F:xU K (Fe st) q st f fd) (g:Meth K C (Fe st) f)
section
variable (E:En)(K:Frag)
abbrev CO (i A:Nat)(B:Sp):Prop:=Cal E.P E.w K E.mg E.base A (Fe<|top i) (yu<|top i) B
abbrev CV (i A:Nat)(m:f9):Prop:=CO E K i A<|Hy K m
abbrev MO (C:Addr)(st:Stmt)(A:Nat)(B:Sp):Prop:=Ms E.P E.w K E.mg E.base C A (Fe st) (yu st) B
def afl (st:Stmt)(N:¬Str)(k:Nat)(G:Sp):Prop:=∀{q f D A B s J Q} (H:Hp),N.Nodup->N.all (λx=>nG (aP st) x && plain x)=true->cW k (A.deeper<|PyProof.Rows.envOfC q (aP st) (~~~s) f D)->G J H Q->∃t,jl (gA E.P E.w K E.mg E.base N q (aP st) f D A B s H) (dU st) t/\t {nx:=λ_ C=>Q .non C,rt:=Q} (L2.start N J) H
end
section
variable (N:¬Str)
theorem BX (h:GF E K i)(len:∀vs H Q,A vs H Q->(!vs)=!(yu<|top i))(C:afl E K (top i) N k A)(S:iz N (yu<|top i) (aP<|top i)∣8)(vt:(N.all (λx=>nG (aP<|top i) x && plain x)=true)∣2)
    (B:∀q,BD q (top i):=by repeat intro _
                           rfl):CO E K i (k+1) A:=let⟨F,g⟩:=h;⟨_,_,F.ok S len λ_ _ _ _ H _ _=>C H S.nd vt,g,F.kp,(B _).b F⟩
def tD (h:MF E K C st)(len:∀vs H Q,A vs H Q->(!vs)=!(yu st))(D:afl E K st N k A)(S:iz N (yu st) (aP st)∣8)(vt:(N.all (λx=>nG (aP st) x && plain x)=true)∣2)
    (B:∀q,BD q st:=by repeat intro _
                      rfl):MO E K C st (k+1) A:=let⟨F,g⟩:=h;⟨_,_,F.ok S len λ_ _ _ _ H _ _=>D H S.nd vt,g,(B _).b F⟩
theorem mL (h:GF E K i)(I:∀{q f D A B s H},N.Nodup->N.all (λx=>nG (aP<|top i) x && plain x)=true->cW k (A.deeper<|PyProof.Rows.envOfC q (aP<|top i) (~~~s) f D)->jl (gA E.P E.w K E.mg E.base N q (aP<|top i) f D A B s H) (dU<|top i) (gJ K g))
    (S:iz N (yu<|top i) (aP<|top i)∣8)(vt:(N.all (λx=>nG (aP<|top i) x && plain x)=true)∣2)(J:((!(yu<|top i))=n)∣0)(G:((!N)=L)∣0)
    (C:∀q,BD q (top i):=by repeat intro _
                           rfl):CV E K i (k+1) (iG n L g):=let⟨F,e⟩:=h;⟨_,_,fnV F S J G λ_ _ _ _ _=>I S.nd vt,e,F.kp,(C _).b F⟩
end
section
variable {t:TA}
def pM {n:Nat}(M:Ms X.prog X.w X.K X.mg X.base C k m ps N)(Q:PE X o O)(I:PA X (e::D) t)(c:Cls X.K C∣13)(hr:cW n X.A∣9)(hk:(k<=n)∣1)
  (G:(starEach (e::D) X.env=(false,eval e X.env)::starEach D X.env)∣0)(E:((backTo A<|starEach D X.env).any (·.1)=false)∣0)
  (U:eval (.Call (.Attribute o m B) (e::D) [] A) X.env=(do
   let H<-eval o X.env
   standAt B.atName
   let(f,first)<-holding [H] (getMethod H m pl)
   callWith A f first (backTo A (starEach (e::D) X.env)) (backToKw A (keywordEach [] X.env))):=by rfl):
  PE X (.Call (.Attribute o m B) (e::D) [] A) (iy C m N O t):=let⟨_,_,F,L,J⟩:=M.ex;agj Q c L F (hr.mono hk) J I G E U
def pM0 {n:Nat}(M:Ms X.prog X.w X.K X.mg X.base C k m ps H)(Q:PE X o I)(c:Cls X.K C∣13)(hr:cW n X.A∣9)(hk:(k<=n)∣1)
  (U:eval (.Call (.Attribute o m B) [] [] A) X.env=(do
   let D<-eval o X.env
   standAt B.atName
   let(f,first)<-holding [D] (getMethod D m pl)
   callWith A f first (backTo A (starEach [] X.env)) (backToKw A (keywordEach [] X.env))):=by rfl):
  PE X (.Call (.Attribute o m B) [] [] A) (iy C m H I d9):=let⟨_,_,F,G,E⟩:=M.ex;acD Q c G F (hr.mono hk) E U
end
open PyProof.Rows
abbrev Q4:=Int×Int×Int×Int
def oX (x:Str×Int):Key×V:=(x.1,.int x.2)
def yw (B:C->¬V)(H:Hp)(A:Key×V)(x:Str×C):Prop:=A.1=x.1/\∃t,A.2=.ref t/\H t=#[.tup<|B x.2]
abbrev Wh:=yw λq:Q4=>[.int q.1,.int q.2.1,.int q.2.2.1,.int q.2.2.2]
structure aW (H:Hp)(C p dx nn ll:Addr)(nums:¬(Str×Int))(ls:¬(Str×Q4)):Prop where
 ins:H p=#[.ins C dx [("numbers",.ref nn),("laid",.ref ll)]]
 num:H nn=#[.dK<|nums.map oX]
 laid:∃dI,H ll=#[.dK dI]/\Paired (Wh H) dI ls
 ne:nn≠ll
def yw.same (k:∀t xs,H t=#[.tup xs]->E t=#[.tup xs])(h:yw B H A x):yw B E A x:=let⟨a,t,b,c⟩:=h;(a,t,b,k t _ c)
def aW.grow (h:aW H C p A G D nums x)(k:Same H E):aW E C p A G D nums x:=by let(a,b,(B,c,d),n):=h;calc(k _ _ a,k _ _ b,(B,k _ _ c,d.mono λ_ _ z=>z.same λt I e=>k _ _ e),n)
def dj (nm:Str):¬(Str×A)->↑A
 |[]=>none
 |x::r=>if x.1=nm then #[x.2] else dj nm r
def iJ (nm:Str)(v:A)(l:¬(Str×A)):¬(Str×A):=if(l.any λx=>decide<|x.1=nm)=true then l.map (λx=>if x.1=nm then(x.1,v) else x) else l++[(nm,v)]
def rY (nm:Str)(l:¬(Str×A)):¬(Str×A):=l.filter λx=>not (decide (x.1=nm))
theorem uQ (nm:Str):∀nums:¬(Str×Int),dO (nums.map oX) nm=(dj nm nums).map V.int
 |[]=>rfl
 |x::r=>by
  rw[aT,dj];by_cases e:x.1=nm
  .rw[ap e,jL (by show x.1=_;rw[e])];rfl
  .rw[aw e,jg (by intro z;calc e<|z),uQ nm r]
def tE {A:G->¬V}{B:¬(Key×V)}(nm:Str)(r:Paired (yw A H) B D):match dj nm D with
  |none=>dO B nm=none
  |some q=>∃t,dO B nm=#[.ref t]/\H t=#[.tup<|A q]:=by
 induction r with
 |nil=>rfl
 | @cons E x _ _ h _ C=>
  let(h1,t,h2,J):=h;rw[dj];by_cases e:x.1=nm
  .rw[ap e];exact(t,by rw[jL<|by rw[h1,e],h2],J)
  .rw[aw e];rw[jg (by intro z;rw[h1] at z;calc e<|z)];calc C
def aiG (nm:Str)(h:Paired (yw E H) B D):(B.any λC=>decide<|C.1=nm)=D.any λx=>decide (x.1=nm):=by
 induction h with
 |nil=>rfl
 |cons h _ A=>rw[i8,i8,A,h.1]
def Jj {nm:Str}(U:H t=#[.tup<|C q])(h:Paired (yw C H) B x):
  Paired (yw C H) (putK B nm<|.ref t) (iJ nm q x):=by
 delta putK iJ;rw[aiG nm h];split
 .rename_i c;clear c;induction h with
  |nil=>calc .nil
  | @cons a b _ _ h _ A=>
   rw[aT,aT];refine .cons ?_ A;by_cases e:b.1=nm
   .rw[ap<|by rw[h.1,e],ap e];exact(h.1,t,rfl,U)
   .rw[aw (by intro z;rw[h.1] at z;calc e<|z),aw e];exact h
 .rename_i c;clear c;induction h with
  |nil=>calc .cons (rfl,t,rfl,U) .nil
  |cons h _ A=>calc .cons h A
def DX {nm:Str}(h:Paired (yw C H) B x):Paired (yw C H) (mq B nm) (rY nm x):=by
 delta mq rY;induction h with
 |nil=>calc .nil
 | @cons a b _ _ h _ A=>
  rw[fR,fR];by_cases e:b.1=nm
  .rw[aw (by rw[h.1,e];simp),aw<|by simp[e]];exact A
  .have N:a.1≠nm:=λz=>by rw[h.1] at z;exact e (z)
   rw[ap<|a9 N,ap<|by simp[e]];calc .cons h A
def Wi (nm:Str)(v:Int)(nums:¬(Str×Int)):putK (nums.map oX) nm (.int v)=(iJ nm v nums).map oX:=by
 delta putK iJ;rw[show((nums.map oX).any λA=>decide<|A.1=nm)=nums.any λx=>decide (x.1=nm) by rw[any_map];rfl];split
 .rw[ce,ce];refine cx λx _=>?_;by_cases e:x.1=nm
  .exact(ap e).trans (by rw[comp,ap e];rfl)
  .exact(aw e).trans<|by rw[comp,aw e]
 .rw[b7];rfl
def fL (G D:Addr)(H E:Hp):Prop:=∀b o,b≠G->b≠D->H b=#[o]->E b=#[o]
def fL.same (h:Same H E):fL G D H E:=λb o _ _ e=>h b o e
def fL.trans (a:fL G D H E)(b:fL G D E C):fL G D H C:=λc o h1 h2 e=>b c o h1 h2<|a c o h1 h2 e
section
variable {B A:¬(Key×V)}
def qX (h:H a=#[.dK k]):∀t xs,H t=#[.tup xs]->upd H a o t=#[.tup xs]:=λt xs e=>by rw[au λz=>by subst z;rw[h] at e;cases e];calc e
def aW.put (h:aW H C p G I D nums x)(hk:H D=#[.dK B])(N:Paired (Wh H) A E):aW (upd H D<|.dK A) C p G I D nums E:=by
 refine(?_,?_,(A,ao,N.mono λ_ _ z=>z.same<|qX hk),h.ne)
 .rw[au λz=>by have:=h.ins;rw[z,hk] at this;cases this];exact h.ins
 .rw[au h.ne];calc h.num
def fL.put (hk:H D=#[.dK B]):fL G D H (upd H D<|.dK A):=λb o _ h2 e=>by rw[au h2];calc e
def aW.aot (h:aW H C p E G I nums x):aW (upd H G<|.dK<|D.map oX) C p E G I D x:=by
 let(B,M,N):=h.laid;refine(?_,ao,(B,?_,N.mono λ_ _ z=>z.same<|qX h.num),h.ne)
 .rw[au λz=>by have:=h.ins;rw[z,h.num] at this;cases this];exact h.ins
 .rw[au h.ne.symm];calc M
def fL.num:fL G D H (upd H G<|.dK k):=λb o h1 _ e=>by rw[au h1];calc e
end
def YX {t u:TS}(h:∀o,o=u->t {D with nx:=o D} B H):iW t u D B H:=h u rfl
structure Cl (K:Frag)(C:Addr):Prop where
 cl:Cls K C
 n1:mC K C "numbers"
 n2:mC K C "laid"
def dw {K:Frag}{fs:¬(Str×V)}(e:B[i]? =#[#[.ref p]])(h:H p=#[.ins C E fs])(c:Cls K C)(n:mC K C f)(l:fs.lookup f=#[v])(q:Q v H):
  XM K (vR i) f B H Q:=ak e (p,C,E,fs,v,rfl,h,c,n,l,q)
def wJ {K:Frag}(e:B[i]? =#[#[.ref t]])(h:H t=#[.tup xs])(a:cP xs j=#[v])(q:Q v H):jm (Pk K) (vR i) (tC<|.int j) B H Q:=
 ak e (xs,v,cF.of h,a,q)
def op1:jm (rM g) A (tC<|.int j) B H Q=A B H λx E=>rM g x (.int j) E Q:=rfl
def afn (h:∀R:VK,R (.int x) H->A B H R)(e:B[i]? =#[#[.int y]])(q:Q (g x y) H):jm (rM g) A (vR i) B H Q:=h _<|ak e q
section
variable {K:Frag}
inductive Wj (C:Addr)(vs:¬V)(H:Hp)(Q:VK):Prop
 |mk:∀p dx nn ll nums ls nm q,vs=[.ref p,.str nm]->aW H C p dx nn ll nums ls->dj nm ls=#[q]->Q .non H->Wj C vs H Q
def BZ (C:Addr):Sp:=λJ H Q=>Wj C J H Q
def agI (c:Cl K C)(h:MF E K C (bW 5)):MO E K C (bW 5) 1 (BZ C):=by refine tD ["self","name"] h (λY H Q h=>by let(_,_,_,_,_,_,_,_,rfl,_):=h;rfl) λH nd vt hr m=>?_;let(p,J,O,I,B,x,nm,q,rfl,A,U,T):=m;refine(_,aJ<|bI (sO<|BW (dJ hr) (pU 1)<|c7 (pU 0) rfl) (aJ kJ) aX,?_);let(G,M,N):=A.laid;have g:=tE nm N;rw[U] at g;let(t,D,L):=g;delta d8 tB DW;refine ak rfl<|dw rfl A.ins c.cl c.n2 rfl (I,_,rfl,gO.k (k:=nm) M,_,rfl,?_);rwa [D]
inductive aaQ (C:Addr)(vs:¬V)(H:Hp)(Q:VK):Prop
 |mk:∀p dx nn ll nums ls nm q ch,vs=[.ref p,.str nm,.int ch]->aW H C p dx nn ll nums ls->dj nm ls=#[q]->(!ls)<100->(∀H',aW H' C p dx nn ll nums (iJ nm (q.1,q.2.1,q.2.2.1+ch,q.2.2.2) ls)->fL nn ll H H'->Q .non H')->aaQ C vs H Q
def YZ (C:Addr):Sp:=λJ H Q=>aaQ C J H Q
def aiH (c:Cl K C)(h:MF E K C (bW 6)):MO E K C (bW 6) 1 (YZ C):=by
 refine tD ["self","name","change","passage"] h (λf H Q h=>by let(_,_,_,_,_,_,_,_,_,rfl,_):=h;rfl) λH nd vt hr m=>?_;let(p,v,b,I,J,x,nm,q,O,rfl,D,U,y,j):=m;refine(_,aq (pS 3 (gP (dJ hr) (c7 (pU 0) rfl) (pU 1) (λ_ _=>rfl)))
  (aJ (m9 (dJ hr) (c7 (pU 0) rfl) (pU 1) (iY (aj (bO lG (pU 3) aN) (aj (bO lG (pU 3) aN) (aj (bK gK (bO lG (pU 3) aN) (pU 2)) (aj (bO lG (pU 3) aN) aG))))) rfl)),?_)
 let(l,M,N):=D.laid;have g:=tE nm N;rw[U] at g;let(t,T,L):=g;have Y:=!N;delta iW jq Qy cg uG qI cL;refine dw rfl D.ins c.cl c.n2 rfl (ak rfl (I,.ref t,rfl,by rw[<-T];calc gO.k (k:=nm) M,?_));k_ne;refine wJ rfl L rfl (wJ rfl L rfl (afn (λR r=>wJ rfl L rfl r) rfl (wJ rfl L rfl ⟨by show 4<=sizeLine;decide,λd G=>?_⟩)));have same:=aH (o:=.tup [.int q.1,.int q.2.1,.int<|q.2.2.1+O,.int q.2.2.2]) G;have B:=D.grow same;have A:=same _ _ M;refine dw rfl B.ins c.cl c.n2 rfl (ak rfl (I,_,rfl,qW.k (k:=nm) A<|bw ∅,?_));refine j _ (B.put A<|Jj ao<|N.mono λ_ _ z=>z.same λu n e=>same _ _ e)<|(fL.same same).trans<|fL.put A
inductive Wm (C:Addr)(vs:¬V)(H:Hp)(Q:VK):Prop
 |mk:∀p dx nn ll nums ls nm q,vs=[.ref p,.str nm]->aW H C p dx nn ll nums ls->dj nm ls=#[q]->(∀H',aW H' C p dx nn ll nums (rY nm ls)->fL nn ll H H'->Q .non H')->Wm C vs H Q
def RZ (C:Addr):Sp:=λJ H Q=>Wm C J H Q
def agJ (c:Cl K C)(J:MO E K C (bW 5) 1 (BZ C))(h:MF E K C (bW 2)):MO E K C (bW 2) 2 (RZ C):=by refine tD ["self","name"] h (λj H Q h=>by let(_,_,_,_,_,_,_,_,rfl,_):=h;rfl) λH nd vt hr m=>?_;let(p,G,O,I,B,x,nm,q,rfl,A,U,T):=m;refine(_,aq (cG<|pM J (pU 0)<|aj (pU 1) aG)<|aJ<|cG<|zJ (c7 (pU 0) rfl) (pU 1) (rfl,rfl,rfl,rfl),?_);let(D,M,N):=A.laid;have g:=tE nm N;rw[U] at g;let(t,L,Y):=g;delta iW iw iy Jh cL d9;refine ak rfl (p,G,_,rfl,A.ins,rfl,ak rfl (p,G,O,I,B,x,nm,q,rfl,A,U,?_));k_ne;calc dw rfl A.ins c.cl c.n2 rfl (I,rfl,⟨_,.inl M⟩,ak rfl (D,nm,.ref t,M,rfl,L,(T _ (A.put M<|DX N)<|fL.put M)))
inductive R3 (C:Addr)(vs:¬V)(H:Hp)(Q:VK):Prop
 |mk:∀p dx nn ll nums ls nm q ch,vs=[.ref p,.str nm,.int ch]->aW H C p dx nn ll nums ls->dj nm ls=#[q]->1<=ch->(!ls)<100->(∀H',aW H' C p dx nn ll nums (iJ nm (q.1,q.2.1,q.2.2.1+ch,q.2.2.2) ls)->fL nn ll H H'->Q .non H')->R3 C vs H Q
def K1 (C:Addr):Sp:=λJ H Q=>R3 C J H Q
def adq (c:Cl K C)(L:MO E K C (bW 5) 1 (BZ C))
  (M:MO E K C (bW 6) 1 (YZ C))(h:MF E K C (bW 3)):MO E K C (bW 3) 2 (K1 C):=by
 refine tD ["self","name","more"] h (λY H Q h=>by let(_,_,_,_,_,_,_,_,_,rfl,_):=h;rfl) λH nd vt hr m=>?_;let(p,A,I,G,B,x,nm,q,O,rfl,D,U,h1,N,T):=m;refine(_,aq (cG (pM L (pU 0) (aj (pU 1) aG))) (aq (bI (eU oLt (pU 2) aN) (aJ kJ) aX)
  (aJ (cG (pM M (pU 0) (aj (pU 1) (aj (pU 2) aG)))))),?_)
 delta iW iw iy cL d9;refine ak rfl (p,A,_,rfl,D.ins,rfl,ak rfl (p,A,I,G,B,x,nm,q,rfl,D,U,?_));k_ne;delta d8 mG;rw[op1];refine ak rfl ?_;show(if decide (O<1)=true then _ else _);rw[aw (by simp;lk)];delta m5;k_ne;calc ak rfl (p,A,_,rfl,D.ins,rfl,ak rfl<|ak rfl (p,A,I,G,B,x,nm,q,O,rfl,D,U,N,λJ h1 h2=>(T J h1 h2)))
end
end bV
namespace L2
open PyProof.Rows
section
variable {o:Obj}
end
def K3 (h:(strKind P w).is k v=true):RelV (kV k) v:=Value.isStrOf_shape h
section
variable {T:Pos}
def aaR:cU X (.type "list") (λxs H Q=>∃a B,xs=[.ref a]/\H a=#[.dK B]/\∀z,H z=none->Q (.ref z) (upd H z<|.lst<|B.map λD=>kV D.1)):=by
 intro O s i H xs C Q I r h;let(a,B,rfl,g,q):=h;let(u,rfl,t):=vals1 r;cases t;let(m,hS,w,rel,U):=m8 I.hok g;let(d,G):=U.dictAt;have N:=!rel;refine kdl_call (PySem.W.kdl_dict hS) I.ok.hd G ∅ λf n E c J hD A=>?_;have M:Vals (B.map λD=>kV D.1) E.toList:=by
  have L:∀{l:¬(Key×V)}{r:¬(Key×Value)} {C:¬Value},KV l r->(!C)=!r->(∀j v,C[j]? =#[v]->∃k x,r[j]? =#[(k,x)]/\(strKind X.prog X.w).is k v=true)->Vals (l.map λD=>kV D.1) C:=λ{l r C} h=>by
   induction h generalizing C with
   |nil=>intro N _;cases C with
    |nil=>calc .nil
    |cons _ _=>cases N
   | @cons x y l r h _ p=>
    intro N M;cases C with
    |nil=>cases N
    |cons u C=>
     refine .cons ?_ (p ‹N› λj v e=>M (j+1) v e);let(k,b,e,J):=M 0 u rfl;have Y:y=(k,b):=‹e›
     show RelV (kV x.1) u;rw[h.1,Y];exact K3 J
  refine L rel (by rw[bS];calc A.1) λj v e=>A.2 j v (by rw[<-oe];calc e)
 calc(.ref (~~~s),_,I.laid (o:=.lst<|B.map λD=>kV D.1) J (av _) (by rw[ac];calc m,E.toList,c,M,by rw[hD]),rfl,q _<|I.hok.fresh<|av _)
end
end L2
namespace bV
open PyProof.Rows L2 VM
def Jk:cU X (.builtin "len") (λxs H Q=>∃a B,xs=[.ref a]/\H a=#[.dK B]/\Q (.int !B) H):=by intro A s J H xs E Q I r h;let(a,B,rfl,G,q):=h;let(u,rfl,L):=vals1 r;cases L;calc ale I (.inl G) λt C D=>(.int _,H,D,⟨t,rfl⟩,q)
abbrev Row:=Str×Str×Str×Int×Int
def K4 (r:Row):¬V:=[.str r.1,.str r.2.1,.str r.2.2.1,.int r.2.2.2.1,.int r.2.2.2.2]
def seenOf (nums:¬(Str×Int)):¬Str:=nums.map (·.1)
section
variable {K:Frag}
inductive Nv (C:Addr)(vs:¬V)(H:Hp)(Q:VK):Prop
 |mk:∀p dx nn ll nums ls nm q ch,vs=[.ref p,.str nm,.int ch]->aW H C p dx nn ll nums ls->dj nm ls=#[q]->1<=ch->ch<q.2.2.1->(!ls)<100->(∀H',aW H' C p dx nn ll nums (iJ nm (q.1,q.2.1,q.2.2.1+ -ch,q.2.2.2) ls)->fL nn ll H H'->Q .non H')->Nv C vs H Q
def Gs (C:Addr):Sp:=λJ H Q=>Nv C J H Q
def aaS (c:Cl K C)(M:MO E K C (bW 5) 1 (BZ C))
  (N:MO E K C (bW 6) 1 (YZ C))(h:MF E K C (bW 4)):MO E K C (bW 4) 2 (Gs C):=by
 refine tD ["self","name","less"] h (λy H Q h=>by let(_,_,_,_,_,_,_,_,_,rfl,_):=h;rfl) λH nd vt hr m=>?_;let(p,D,J,G,B,I,nm,q,O,rfl,A,U,h1,h2,o,u):=m;refine(_,aq (cG (pM M (pU 0) (aj (pU 1) aG)))
  (aq (bI (PW.pt (gG (eU oLt (pU 2) aN) (iV (eU oLt (bK qL (bO lG (gP (dJ hr) (c7 (pU 0) rfl) (pU 1) (λ_ _=>rfl)) aN) (pU 2)) aN)))) (aJ kJ) aX)
  (aJ (cG (pM N (pU 0) (aj (pU 1) (aj (XD aac (pU 2)) aG)))))),?_)
 let(v,j,l):=A.laid;have g:=tE nm l;rw[U] at g;let(t,Y,T):=g;dsimp only[gA];delta iW iw iy cL d9;refine ak rfl (p,D,_,rfl,A.ins,rfl,ak rfl (p,D,J,G,B,I,nm,q,rfl,A,U,?_));k_ne;delta d8 Mi mG;rw[op1];refine ak rfl ?_;show(if decide (O<1)=true then _ else _);rw[aw (by simp;lk)];rw[op1];refine afn (x:=q.2.2.1) (λR r=>?_) rfl ?_
 .delta jm Qy;exact dw rfl A.ins c.cl c.n2 rfl<|ak rfl (G,.ref t,rfl,by rw[<-Y];calc gO.k (k:=nm) j,(_,_,cF.of T,rfl,r))
 show(if decide (q.2.2.1 - O<1)=true then _ else _);rw[aw (by simp;lk)];delta m5;k_ne;refine ak rfl (p,D,_,rfl,A.ins,rfl,ak rfl ?_);calc ak rfl (O,rfl,p,D,J,G,B,I,nm,q,-O,rfl,A,U,o,λL h1 h2=>(u L h1 h2))
inductive R4 (C:Addr)(vs:¬V)(H:Hp)(Q:VK):Prop
 |mk:∀p dx nn ll nums ls,vs=[.ref p]->aW H C p dx nn ll nums ls->(∀z,H z=none->Q (.ref z) (upd H z<|.lst<|(seenOf nums).map V.str))->R4 C vs H Q
def yx (C:Addr):Sp:=λJ H Q=>R4 C J H Q
def adt (B:Bl E.mg)(c:Cl K C)(h:MF E K C (bW 7)):MO E K C (bW 7) 1 (yx C):=by
 refine tD ["self"] h (λN H Q h=>by let(_,_,_,_,_,_,rfl,_):=h;rfl) λH nd vt hr m=>?_;let(p,L,J,M,A,x,rfl,D,T):=m;refine(_,aJ<|aZ<|bF aaR gx B.list eW<|aj (c7 (pU 0) rfl) aG,?_);delta uc um cL d9;refine dw rfl D.ins c.cl c.n1 rfl (J,_,rfl,D.num,λz G=>?_);have e:(A.map oX).map (λI=>kV I.1)=(seenOf A).map V.str:=by delta seenOf;rw[ce,ce];rfl
 rw[e];calc T z G
def aaT (e:B[i]? =#[#[.ref t]])(h:H t=#[.lst xs])(Y:∀R:VK,R (.int j) H->A B H R)(a:cP xs j=#[v])(q:Q v H):jm (Hu K) (vR i) A B H Q:=
 ak e (Y _ (xs,v,aU.of h,a,q))
end
end bV
namespace Pg
open L2 VM
def Ak:VS:=
 (aR (qD 2 (gB a0))
 (aR (pW (Bq (aC (vF 0) (aC (vF 1) a0))) (gT 2 (gC (gN 3) (gC (gN 4) g0)))
 (aR (gM 2 (aC (v2 jd (v2 bB (vN 3) (vC (.int 2))) (vN 4)) a0))
 (gM 2 (aC (vF 4) a0))))
 (iB 2)))
def eG:f9:=iG 2 5 Ak
def Fg:VS:=
 (aR (gw (oU (vB (v2 isD (vN 2) (vC .none))) (vB (v2 Af (vN 0) (v2 bB (vN 2) (vC (.int 0))))))
 (eX<|vC<|.bool true)
 dH)
 (eX (Ks (v2 kE (vN 0) (v2 bB (vN 2) (vC (.int 0)))) (v2 Af (vN 1) (v2 bB (vN 2) (vC (.int 1)))))))
def nW:f9:=iG 3 3 Fg
def Qz:VS:=(gw (mj (vB<|v2 Ah (v2 bB (vN 1)<|vN 10)<|vC<|.int 0)<|vB<|cV nW<|aC (v2 fX (vN 8)<|vN 12)<|aC (vF 9)<|aC (v2 bB (vN 3)<|vN 11) a0) (aR (qR 3 (vN 11)<|je<|aC (v2 fX (vN 8)<|vN 12)<|aC (vF 9)<|aC (vF 10)<|aC (vF 7) a0)<|gw (eZ<|vB<|v2 bB (vN 4)<|vN 11) (aR (qR 4 (vN 11)<|vC<|.bool true)<|gM 5<|aC (vF 11) a0) dH) dH)
def uH:VS:=(aR (eV (v2 bB (vN 5)<|vN 6)<|gN 7)<|aR (qT fX 6<|vC<|.int 1)<|aR (qR 4 (vN 7)<|vC<|.bool false)<|aR (eV (v2 bB (v2 bB (vN 3)<|vN 7)<|vC<|.int 0)<|gN 8)<|aR (eV (v2 fX (v2 bB (v2 bB (vN 3)<|vN 7)<|vC<|.int 1)<|vC<|.int 1)<|gN 9)<|pW (dM<|v2 bB (vN 0)<|vN 7) (gT 3<|gC (gN 10)<|gC (gN 11)<|gC (gN 12) g0) Qz)
def Wn:VS:=(aR (qD 3<|v2 xu (gB<|aC (vC .none) a0)<|dW kW<|aC (vN 0) a0)<|aR (qR 3 (vN 2)<|je<|aC (vC<|.int 0)<|aC (vC<|.int 0)<|aC (vC .none)<|aC (vC .none) a0)<|aR (qD 4<|v2 xu (gB<|aC (vC<|.bool false) a0)<|dW kW<|aC (vN 0) a0)<|aR (qD 5<|gB<|aC (vF 2) a0)<|aR (eV (vC<|.int 0)<|gN 6)<|aR (Hz (vB<|v2 Af (vN 6)<|dW kW<|aC (vN 5) a0) uH)<|iB 3)
def qY:f9:=iG 3 13 Wn
def aaU:VS:=
 (aR (eV (dW minD (aC (Br (dM (vF 1)) [none,#[0]] (gN 0) fj (v2 bB (vN 1) (vN 0))) a0)) (gN 2))
 (aR (pW (dM (vF 1)) (gN 3)
 (aR (oH jd 0 (vN 3) (vF 2))
 (oH fX 0 (v2 Yy (vN 3) (vC (.int 1))) (vF 2))))
 (iB 2)))
def yC:Bv:=Bw 2 4 0 aaU
def QB:VS:=(aR (gM 3<|aC (v2 bB (v2 bB (vN 0)<|vN 4)<|vC<|.int 2) a0)<|eV (v2 bB (v2 bB (vN 0)<|vN 4)<|vC<|.int 3)<|gN 4)
def R5:VS:=(aR (qD 3<|gB a0)<|aR (eV (vF 2)<|gN 4)<|aR (Hz (vB<|v2 lH (vN 4)<|vN 1) QB)<|iB 3)
def qZ:f9:=iG 3 5 R5
def wK:VS:=(aR (eV (xY qY<|aC (vN 0)<|aC (vN 1)<|aC (vN 2) a0)<|gN 6)<|aR (gw (vB<|v2 isD (v2 bB (vN 6)<|vN 3)<|vC .none) (iB 5) dH)<|aR (eV (v2 bB (v2 bB (vN 6)<|vN 3)<|vC<|.int 0)<|gN 7)<|aR (gw (mj (vB<|v2 Kr (vN 4)<|vC .none)<|vB<|v2 Ah (vN 7)<|vN 4) (iB 5) dH)<|aR (HD yC 1 (HB<|u9 (cV qZ<|aC (vF 6)<|aC (vF 2)<|aC (vF 3) a0) Nq) 8)<|gw (mj (u0<|vN 5)<|vB<|v2 kE (v2 bB (v2 bB (vN 5)<|v1 oV<|vC<|.int 1)<|vC<|.int 0)<|vN 7) (qR 5 (v1 oV<|vC<|.int 1)<|je<|aC (vF 7)<|aC (v2 fX (v2 bB (v2 bB (vN 5)<|v1 oV<|vC<|.int 1)<|vC<|.int 1)<|vN 8) a0)<|gM 5<|aC (je<|aC (vF 7)<|aC (vF 8) a0) a0)
def Jl:VS:=(aR (qD 5<|gB a0)<|Hz (vB<|vC<|.bool true) wK)
def kZ:Bv:=Bw 5 9 1 Jl
def Jm:VS:=
 (aR (qD 4 (xX eG (aC (vF 1) (aC (v2 xu (gB (aC (vC (.int 0)) a0)) (dW kW (aC (vN 1) a0))) a0))))
 (HF kZ 4 (u9 (cV VM.fH (aC (vF 0) (aC (vF 1) a0))) (HB (u9 (vF 2) (u9 (vF 3) (u9 (vC .none) Nq)))))))
def ni:f9:=iG 4 5 Jm
def Fj:VS:=
 (aR (qD 5 (xX eG (aC (vF 1) (aC (v2 xu (gB (aC (vC (.int 0)) a0)) (dW kW (aC (vN 1) a0))) a0))))
 (aR (PJ kZ 5 (u9 (cV VM.fH (aC (vF 0) (aC (vF 1) a0))) (HB (u9 (vF 2) (u9 (vF 3) (u9 (vF 4) Nq))))))
 (rR (Br (zj (aC (dW kW (aC (vN 1) a0)) a0)) [none,#[5]] (gN 0) fj (v2 bB (vN 1) (v2 fX (v2 Bj (vC (.int 2)) (vN 0)) (vC (.int 1))))))))
def gU:f9:=iG 5 6 Fj
def Fl:VS:=
 (eX<|dW Kw<|aC (lJ (dM<|vF 1) [none,#[0]] (gN 0) fj<|v2 bB (v2 bB (vN 1)<|vN 0)<|vC<|.int 3) a0)
def iR:f9:=iG 2 2 Fl
def Ca:VS:=
 (aR (pW (zm (aC (vF 0) a0)) (gT 2 (gC (gN 3) (gC (gN 4) g0)))
 (gw (mj (vB (v2 kE (v2 bB (vN 4) (vC (.int 0))) (vN 1))) (vB (v2 Ah (v2 bB (vN 2) (vN 3)) (vC (.int 0)))))
 (iB 3)
 dH))
 (eX (vC .none)))
def jh:f9:=iG 3 5 Ca
def zK:VS:=(aR (eV (cV jh<|aC (vF 0)<|aC (vF 5)<|aC (vF 3) a0)<|gN 6)<|aR (gw (vB<|v2 isD (vN 6)<|vC .none) (rR<|gB a0) dH)<|aR (gM 4<|aC (vF 6) a0)<|eV (v2 bB (v2 bB (vN 0)<|vN 6)<|vC<|.int 1)<|gN 5)
def vp:VS:=(aR (qD 4<|gB a0)<|aR (eV (vF 1)<|gN 5)<|aR (Hz (vB<|v2 lH (vN 5)<|vN 2) zK)<|iB 4)
def gY:f9:=iG 4 7 vp
def Jo:VS:=(aR (eV (xY gY<|aC (vN 0)<|aC (vN 1)<|aC (vN 2)<|aC (vN 4) a0)<|gN 6)<|aR (gw (eZ<|u0<|vN 6) (iB 5) dH)<|aR (eV (dW minD<|aC (Br (dM<|vF 6) [none,#[4]] (gN 0) fj<|v2 bB (vN 1)<|vN 0) a0)<|gN 7)<|aR (pW (dM<|vF 6) (gN 8)<|oH jd 4 (vN 8)<|vF 7)<|gM 5<|aC (je<|aC (vF 6)<|aC (vF 7) a0) a0)
def Jp:VS:=(aR (qD 4<|lV<|vN 3)<|aR (qD 5<|gB a0)<|Hz (vB<|vC<|.bool true) Jo)
def jA:f9:=iG 4 9 Jp
def Cd:VS:=
 (aR (eV (v2 fX (vN 4) (vC (.int 1))) (gN 6))
 (aR (eV (v2 pX (vN 1) (gB (aC (je (aC (vF 2) (aC (vF 3) (aC (vC (.int 1)) (aC (vF 6) a0))))) a0))) (gN 7))
 (aR (eV (cV eG (aC (vF 7) (aC (v2 pX (vN 5) (gB (aC (vC (.int 0)) a0))) a0))) (gN 8))
 (aR (eV (cV qY (aC (cV VM.fH (aC (vF 0) (aC (vF 7) a0))) (aC (vF 8) (aC (vF 2) a0)))) (gN 9))
 (rR (lJ (dM (vF 9)) [none,#[6]] (gN 0) fj (vIf (vB (v2 isD (vN 0) (vC .none))) (vF 1) (dW uD (aC (v2 bB (vN 0) (vC (.int 0))) (aC (vN 1) a0))))))))))
def gZ:f9:=iG 6 10 Cd
def Ce:VS:=
 (aR (eV (cV gU (aC (vF 0) (aC (vF 1) (aC (vF 2) (aC (vF 3) (aC (vF 4) a0)))))) (gN 5))
 (aR (eV (cV jA (aC (vF 1) (aC (vF 2) (aC (vF 3) (aC (vF 5) a0))))) (gN 6))
 (aR (eV (dW Kw (aC (lJ (dM (vF 6)) [none,none,#[4],#[1]] (gT 2 (gC (gN 0) (gC (gN 1) g0))) fj (v2 Bj (vN 1) (v2 fX (v2 jd (vN 2) (cV iR (aC (vF 3) (aC (vF 0) a0)))) (vC (.int 1))))) a0)) (gN 7))
 (eX (je (aC (vF 7) (aC (vF 6) (aC (cV gZ (aC (vF 0) (aC (vF 1) (aC (vF 2) (aC (vF 3) (aC (vF 4) (aC (vF 5) a0))))))) a0))))))))
def fD:f9:=iG 5 8 Ce
def Jq:VS:=
 (aR (eV (vC (.int 0)) (gN 2))
 (aR (eV (vC (.int 0)) (gN 3))
 (aR (qD 4 (gB a0))
 (aR (pW (dM (vF 0)) (gT 2 (gC (gN 5) (gC (gN 6) g0)))
 (aR (qT fX 2 (vF 6))
 (aR (qT fX 3 (v2 Bj (vN 6) (vN 5)))
 (gM 4 (aC (v2 uZ (v2 jd (v2 fX (vN 1) (vN 3)) (vC (.int 1))) (vN 2)) a0)))))
 (eX (dW minD (aC (vN 4) a0)))))))
def p8:f9:=iG 2 7 Jq
def Jr:VS:=
 (aR (qD 4 (gB a0))
 (aR (eV (vF 3) (gN 5))
 (aR (pW (dM (vF 1)) (gT 2 (gC (gN 6) (gC (gN 7) g0)))
 (aR (eV (v2 fX (v2 jd (vN 2) (cV iR (aC (vF 0) (aC (vF 6) a0)))) (vC (.int 1))) (gN 8))
 (aR (eV (dW uD (aC (vN 8) (aC (v2 uZ (vN 5) (vN 7)) a0))) (gN 9))
 (aR (gw (vB (v2 Ah (vN 9) (vC (.int 0))))
 (aR (gM 4 (aC (je (aC (vF 6) (aC (vF 7) (aC (vC (.int 0)) (aC (v2 jd (vN 9) (vC (.int 1))) a0))))) a0))
 (qT jd 5 (v2 Bj (vN 7) (vN 9))))
 dH)
 (gw (mj (vB (v2 Af (vN 9) (vN 8))) (vB (v2 Ah (vN 5) (vC (.int 0)))))
 (aR (gM 4 (aC (je (aC (lV (vN 6)) (aC (vF 5) (aC (vF 9) (aC (vF 9) a0))))) a0))
 (eV (vC (.int 0)) (gN 5)))
 dH)))))
 (iB 4))))
def qb:f9:=iG 4 10 Jr
def rB:VS:=
 (aR (eV (cV ni (aC (vF 0) (aC (vF 1) (aC (vF 2) (aC (vF 3) a0))))) (gN 5))
 (aR (gw (eZ (u0 (vN 5)))
 (eX<|vC .none)
 dH)
 (aR (eV (cV p8 (aC (vF 5) (aC (vF 4) a0))) (gN 6))
 (aR (eV (cV gU (aC (vF 0) (aC (vF 1) (aC (vF 2) (aC (vF 3) (aC (vF 6) a0)))))) (gN 7))
 (aR (eV (cV qb (aC (vF 1) (aC (cV jA (aC (vF 1) (aC (vF 2) (aC (vF 3) (aC (vF 7) a0))))) (aC (vF 6) (aC (vF 4) a0))))) (gN 8))
 (eX (je (aC (vF 6) (aC (vF 8) (aC (cV gZ (aC (vF 0) (aC (vF 1) (aC (vF 2) (aC (vF 3) (aC (v2 jd (vN 6) (vC (.int 1))) (aC (vF 7) a0))))))) a0))))))))))
def eH:f9:=iG 5 9 rB
end Pg
namespace L2
open PyProof.Rows PySem.SeqAt
open PySem.MeetsSeq (size_erased plain_remove_loop entry_remove_loop)
open PySem.AutoSeq1 (wpAny_loadPart')
section
inductive alg (K:Frag)(x:V)(vs:¬V)(H:Hp)(Q:VK):Prop
 |mk:∀l y xs ds dy j,x=.ref l->vs=[y]->H l=#[.lst xs]->aK K H ds xs->Has K H dy y->dy.depth<=60->j<!xs->((∀m d,m<=j->ds[m]? =#[d]->eqv d dy=decide (m=j)))->Q .non (upd H l<|.lst<|xs.eraseIdx j)->alg K x vs H Q
end
end L2
namespace L2
open PyProof.Rows
inductive adu (K:Frag)(x:V)(y:V)(H:Hp)(Q:VK):Prop
 |mk:∀p xs ds dx,y=.ref p->aU K H p xs->aK K H ds xs->Has K H dx x->dx.depth<=60->((∀d∈ds,eqv d dx=false))->Q (.bl false) H->adu K x y H Q
def aiI (e:X.A.units+64<cLine):cB X (compareOp .In) (adu X.K):=by
 intro U s σ H x y v u Q I n a h;let(p,E,i,G,rfl,t,l,T,O,C,q):=h;cases a;let(A,r,b,hz):=I.list t;let(k,f):=T.reads I n;refine SeqAt.in_listAt (λ_=>false) b.isList (λw z=>?_) (.bl _,H,I,rfl,?_)
 .have D:w∈A:=‹z›
  let(j,L):=dq D;have o:j<!E:=by have:=(ah.mp L).1;have:=!r;lk
  have N:E[j]? =#[E[j]]:=by simp[o]
  let(d,g,B):=l.get N;let(u',M,J):=r.get N;rw[L] at M;cases M;have m:=C d<|ag g;let(Y,c):=B.reads I J;rw[<-m];refine SeqAt.eqAt_reads d G _ s w v Y k c f B.can T.can ?_;have:=qc d.depth G.depth;lk
 .rw[show A.toArray.any (λ_=>false)=false by simp];calc q
end L2
namespace VM
open PyProof.Rows L2
def inE:()->()->↑()
 |E,.list A=>if E.depth<=60/\(A.all λd=>not (PyData.eqv d E))=true then #[.bool false] else none
 |_,_=>none
def aou {K:Frag}:gW K inE (adu K):=by
 intro H x y E C d Q e B n q;delta inE at e;f_are
 .rename_i A;f_are
  .rename_i c;k_go;let(p,D,rfl,h1,h2):=n;exact(p,D,A,E,rfl,h1,h2,B,c.1,λd G=>by have:=cp.mp c.2 d G;simpa using this,q _ λ_=>rfl)
  .k_go
 .k_go
end VM
private def mpQ {α β:Type}(f:α→Lean.MacroM β):List α→Lean.MacroM (List β)
 |[]=>pure []
 |a::l=>do return (←f a)::(←mpQ f l)
private def lsQ (s:String):Lean.MacroM (Array (Lean.TSyntax `Lean.Parser.Tactic.simpLemma)):=do return (←mpQ (λs=>`(Lean.Parser.Tactic.simpLemma|$(Lean.mkIdent s.toName):ident)) (s.splitOn " ")).toArray
private def evS:="L2.start map_cons map_nil length_cons length_nil replicate cons_append nil_append reduceAdd reduceSub append_nil iW m5 jq cg vR tC jm tUn rM Bb rUM mG d8 QT Mi Xx ae0 ae1 Yg uc iw cL d9 qI Q5 um Pr Pu Hv jy Z1 acO Ye wj ah5 Hu Pk getElem?_cons_zero getElem?_cons_succ set_cons_zero set_cons_succ qM X8 O9 uw za gV uz acq Pn sX VN yU Kg acG cR false_eq_true pN wu"
local macro_rules | `(tactic| walk_at "e0")=>do
 let a<-lsQ evS
 `(tactic| try simp only[$a,*,↓reduceIte])
private def frQ:List (Lean.TSyntax `tactic)→Lean.TSyntax `tactic→Lean.MacroM (Lean.TSyntax `tactic)
 |[],z=>pure z
 |x::l,z=>do
  let y←frQ l z
  `(tactic|first|$x:tactic|$y:tactic)
local macro_rules | `(tactic| walk_at "d")=>do
 let g ← mpQ (λq=>do
  let p:=q.splitOn ":";let a ← mpQ (λs=>do
   let w:=s.splitOn " ";let x ← mpQ (λy=>if y == "?" then `(?_) else if y == "_" then `(_) else if y == "!" then `((by assumption)) else if y.startsWith "[" then let z : Array (Lean.TSyntax `term):=(((y.drop 1).dropEnd 1).toString.splitOn ";").toArray.map Lean.quote; `([$z,*]) else pure (Lean.mkIdent y.toName)) w.tail!;let x:=x.toArray
   if s.startsWith "'" then `(tactic| apply $(Lean.mkIdent (w.head!.drop 1).toString.toName)) else `(tactic| refine $(Lean.mkIdent w.head!.toName) $x*)) (p[1]!.splitOn ",")
  let h:=p[0]!.splitOn ".";let r ← frQ a (← `(tactic| fail))
  if (p[0]!.splitOn "=").length == 2 then `(tactic| (show L2.PE _ _ (L2.vR _); $r:tactic)) else if h.length == 2 then `(tactic| (show $(Lean.mkIdent h[0]!.toName) _ ($(Lean.mkIdent ("PySem.Expr." ++ h[1]!).toName) ..) _; $r:tactic)) else `(tactic| (show $(Lean.mkIdent h[0]!.toName) ..; $r:tactic))) ("PE=vR:pV vt _,lF ? _|PE:mN ?,nL ?,sw ?,dN ?,sm ?,dF ?|PE.Constant:bQ,oR ?,akT,pP|PE.BinOp:cJ bJ ala ? ?,cJ gK lY ? ?,cJ oMod hMod ? ?,cJ oDiv hDiv ? ?,cJ Rm hMul ? ?,cJ qL hSub ? ?,cJ acN hPow ? ?,cJ anU hXor ? ?,dCat ? ?,aol ? ?|PE.Subscript:dIx ? ?,aiC ? ?,aoo ? ? ?,aov ? ? ?,aif ? ? ?,alh ! ? ?|PE.Call:Bp ?,ae3 ! hr.mo ? ?,wz ? hLen,wz ? alb,cI ? ? B.len PySem.boot_len ?,Rr KT.int ?,Rr KT.bool ?,Rr KT.list ?,Rr KT.tuple ?,cI an7 ? B.isinstance boot_isinstance ?,wz ? an4,cI cAbs ? B.abs boot_abs ?,wz ? akU,wz ? an6,cI ? ? B.min boot_min ?,wz ? an5,cI ? ? B.sum boot_sum ?,wz ? aor,cI ? ? aiJ boot_all ?,V8 ?,bF ae2 ? B.list boot_list ?,ak0 ?,akZ ?,Dm ? ?,Fo PySem.F.slot_str_split PySem.F.type_str_split mO vq ? ?,Fo PySem.F.slot_str_partition PySem.F.type_str_partition K5 Y0 ? ?,Fo PySem.F.slot_str_startswith PySem.F.type_str_startswith aaV agK ? ?,aow ?,afp ? ?,wz ? adv,bF cStr ? B.str boot_str ?,wz ? ali,bF alj ? B.int boot_int ?,afq ?,cI afr ? B.sorted boot_sorted ?,Rr KS ?|PE.Name:xP ? B.int boot_int rfl,xP ? B.bool boot_bool rfl,xP ? B.list boot_list rfl,xP ? B.tuple boot_tuple rfl,dGl ! gx,xP ? B.str boot_str rfl|PE.Compare:aiK ! R7 ? ?,aiK ! R8 ? ?|PE.JoinedStr:aiL ?|PE.BoolOp:aox ? ?|R9:pf0,pfC ? ?,pfL ?|PE:dTup ?,Yq ?,an3 ?,acS ?,Ku ? ?,dOr ? ?,qP ? hEq ? ?,qP ? hNe ? ?,qP oLt hLt ? ?,qP M4 hGt ? ?,an2 ?,'dLC,'aoc,dIf ? ? ?,dCh Nt aiB Nt aiB ? ? ?,vA vt [move;left] ? ? ? ?,vA vt [room] ? ? ? ?,vA vt [number;left] ? ? ? ?,vA vt [number;passages] ? ? ? ?,vA vt [known;late] ? ? ? ?,vA vt [walk;number;turns;passages] ? ? ? ?,vA vt [sign] ? ? ? ?,vA vt [_law_j;_law_base;_law_letters;_law_at] ? ? ? ?,vA vt [_law_row] ? ? ? ?,vA vt [_law_row;_law_name] ? ? ? ?,vA vt [_law_moment] ? ? ? ?,vA vt [_law_x] ? ? ? ?,vA vt [_law_one;_law_name;_law_first] ? ? ? ?,vA vt [kind;word] ? ? ? ?,vA vt [name;a;b;width;length] ? ? ? ?,ns ?,nm ?,nw ?|PT:dG aiN aoy ? ?,aiO ! R7 ? ?,aiO ! R8 ? ?,dG Sd adh ? ?,dG ? hEq ? ?,dG ? hNe ? ?,dG oLt hLt ? ?,dG M4 hGt ? ?,dG oLe hLe ? ?,dG Bc hIs ? ?,dG Pj Yl ? ?,dG mD adh ? ?,dG mD apy ? ?,dG amr hIn ? ?,dG ? aou ? ?,cCh oLe hLe oLe hLe ? ? ?,an0 ?,an1 ?,cVal ?,PW.pt ?|PW:Yn ?,acR ? ?,Yo ?,wOr ? ?|PA:Ey,xW ? ?,V6,V7 ? ?,aG,aj ? ?,io0,ioS ? ?,ioJ ? ?|jl:aoe ?,aof ? ?,aod|PS:'sAs,Av ? ?,sIf ? ? ?,sFz ?,aog ?,ak3 ?,ak2 ?,sOw ?,Aw nd rfl lx ?,cG ?,aoh ?,aoi ?,jx ? ? ?,'aoj,acr ? ?,sWh ?,ae4 nd rfl lx ? ah9,ae4 nd rfl lx ? aia,aip lY ?,aip hSub ?,ais ?,aZ ?,ak6 ?,ak7 ?,ain,afc hSub ?,afc lY ?,VD ? ? getL ? aia acP,VD ? ? getL ? ah9 acP,sLC vt nd rfl lx [_law_row] ? ? ? ?,sLC vt nd rfl lx [_law_row;_law_name] ? ? ? ?,aoz vt nd rfl lx [name;a;b;width;length] ? ? ? ?|PG:xQ nd rfl lx,tgN ?,qC ? ?,ahC ? ? acP,'tgT|sS:tg0,'tgC|PI:itL ?,itT ?,itS ?,VR ? B.enumerate ?,itE ?,v9 ? B.range ?,aob ?,akY ? B.zip ?,itZ ?|nF:ifN,V0 ?|PO:poN,poI ?|cB:jY hr.units,fY hr.units,aiI hr.units|cU:Kq,Rg,Ml,anW,ah7,aoq|Gl:gx,glC ?".splitOn "|")
 `(tactic| repeat' $(← frQ g (← `(tactic| first | rfl | decide +kernel | intro _))):tactic)
namespace bV
open L2 VM
seal L2.PE L2.PT L2.PW L2.PA L2.PS L2.jl L2.PG L2.sS L2.PI L2.nF L2.PO L2.cB L2.G7 L2.cU L2.sV L2.uo L2.yR L2.Ad VM.gW VM.CallD PySem.binaryOp PySem.compareOp VM.Qx VM.xV VM.xq VM.pX VM.kE VM.lH VM.isD VM.Kr VM.xu VM.Rz
variable {J L:Tok}
def mN {X:Cx}{e:Expr}{i:Nat}(h:PE X e (vR i)):PE X e (tV X.K RW<|vN i):=mw<|dN h
def nL {X:Cx}{D:¬Expr}{fs:VA}{A:Pos}(h:PA X D (Ai X.K fs)):PE X (.List D A) (tV X.K RW<|gB fs):=nw<|Yq h
section
variable {X:Cx}{A iter B:Expr}{D:¬Expr}{scope sc:Scope}{N:¬Str}{E:Pos}{cap:¬(↑Nat)}
def tgF (N:¬Str):Expr->Bool|.Name x _=>N.head? ==#[x]|.Tuple (e::_) _ _=>tgF N e|_=>false
def vA {Q:TI}{g:TG}{tc:TT}{te:TE}(_:N.all (λx=>nG sc x && plain x)=true)(N':¬Str)(O:PI X A iter Q)(hg:∀H C G M I,PG (fK X scope N' H C G M I) A g)(hi:∀H C G M I,nF (fK X scope N' H C G M I) D tc)(j:∀H C G M I,PE (fK X scope N' H C G M I) B te)
  (T:(sW N sc scope N' cap=true)∣2)(U:(X.N=N)∣0)(Y:(X.env.scope=sc)∣0)(k:(∀x,foldedSetIterable iter X.env x=pure x)∣4)(_:(tgF N' A=true)∣0):PE X (.ListComp B [(A,iter,D,0)] scope E) (sX Q cap g tc te):=Dl _ _ T U Y O hg hi j k
def sLC {Y U:Pos}{l:VA}{i k:Nat}{y:Str}{T:VT}{g:VE}(_:N.all (λx=>nG sc x && plain x)=true)(r:X.N.Nodup)(f:X.N[i]? =#[y])(n:Loc X.env.scope y)(N':¬Str)(O:PI X A iter (u5 X.K l))(hg:∀H C G M I,PG (fK X scope N' H C G M I) A (xZ X.K (gN k) [k]))(hi:∀H C G M I,nF (fK X scope N' H C G M I) D (gQ X.K T))(t:∀H C G M I,PE (fK X scope N' H C G M I) B (tV X.K RS g))
  (m:(sW N sc scope N' cap=true)∣2)(o:(X.N=N)∣0)(p:(X.env.scope=sc)∣0)(hk:(([k].all λj=>cap[j]? ==#[none])=true)∣0)(Q:(swapsWith (.ListComp B [(A,iter,D,0)] scope E) (#[.Name y Y]) U.line X.env=pure true)∣0)
  (v:(∀x,foldedSetIterable iter X.env x=pure x)∣4)(u:(X.fn y=true\/X.env.scope.names.lookup y=some .local)∣14):PS X (.Assign [.Name y Y] (.ListComp B [(A,iter,D,0)] scope E) U) (gJ X.K<|Gp i<|lJ l cap (gN k) T g):=air<|Ry (mF r f n _ _ m o p O hg hi t Q v u) λ_ _ _ q=>ac3 hk q
def dGl {x:Str}{n:Int}{Y:Tok}(h:X.mg x=#[.int n Y])(hg:Gl X x)(G:((x==("__debug__":Str))=false)∣1):PE X (.Name x E) (tV X.K RS<|vC<|.int n):=dC (ju (v:=.int n) hg h ⟨_,rfl⟩ G) λ_=>rfl
end
section
variable (N:¬Str)
theorem aiP (h:GF E K i)(I:∀{q f D A B s H},N.Nodup->N.all (λx=>nG (aP<|top i) x && plain x)=true->cW O (A.deeper<|PyProof.Rows.envOfC q (aP<|top i) (~~~s) f D)->jl (gA E.P E.w K E.mg E.base N q (aP<|top i) f D A B s H) (dU<|top i) (gJ K g))
    (S:iz N (yu<|top i) (aP<|top i)∣8)(vt:(N.all (λx=>nG (aP<|top i) x && plain x)=true)∣2)(M:((!(yu<|top i))=n)∣0)(G:((!N)=Q)∣0)
    (C:∀q,BD q (top i):=by repeat intro _
                           rfl):CO E K i (O+1) (vf K (Bw n Q k g)):=let⟨F,e⟩:=h;⟨_,_,ak8 F S M G λ_ _ _ _ _=>I S.nd vt,e,F.kp,(C _).b F⟩
end
open PyProof.Rows (boot_isinstance boot_abs boot_min boot_sum boot_all boot_int boot_bool boot_list boot_tuple boot_str)
section
variable {E:En}{K:Frag}(B:Bl E.mg)(KT:YC K)
include B KT
theorem K6 (h:GF E K 12):CV E K 12 1 Pg.eG:=mL ["passages","flow","left","passage","number"] h λnd vt hr=>by walk_at "d"
theorem Sg (h:GF E K 16):CV E K 16 1 Pg.nW:=mL ["length","count","known"] h λnd vt hr=>by walk_at "d"
theorem adw (A:CV E K 16 1 Pg.nW)(h:GF E K 15):CV E K 15 2 Pg.qY:=mL ["moves","left","start","reached","waiting","queue","place","room","length","count","move","end","added"] h λnd vt hr=>by walk_at "d"
theorem agL (h:GF E K 18):CO E K 18 1 (vf K Pg.yC):=aiP ["left","way","pushed","move"] h λnd vt hr=>by walk_at "d"
theorem aaW (h:GF E K 17):CV E K 17 1 Pg.qZ:=mL ["reached","start","goal","way","room"] h λnd vt hr=>by walk_at "d"
theorem Vk (C:CV E K 15 2 Pg.qY)(D:CO E K 18 1 (vf K Pg.yC))(A:CV E K 17 1 Pg.qZ)(h:GF E K 14):CO E K 14 3 (vf K Pg.kZ):=aiP ["moves","left","start","goal","longest","steps","reached","length","pushed"] h λnd vt hr=>by walk_at "d"
set_option tactic.hygienic true in
theorem Vl (h:GF E K 13):CV E K 13 1 fH:=by
 refine BX ["many","passages","moves","number","passage","a","b","length"] h (λvs H Q h=>?_)<|λH nd vt hr h=>?_
 .let(G,ds,_,hx,b,d,e,_):=h;delta fH at e;f_are
  .exact hx.length.symm
  .k_go
 .let(G,ds,Y,hx,b,d,e,q):=h;delta fH at e;f_are
  .rename_i m pds;f_are
   .rename_i U eps;f_are
    .rename_i hc;let(m0,m1,pl,Sq):=hc;k_go;have epd:=oW eps;subst epd;let(v,u,rfl,hv,pa,xs,rfl,hq,hl):=aK.two hx;have ev:v=.int m:=hv;subst ev;refine⟨_,(aq (mF (i:=2) nd rfl (lo (sc:=(aP<|top 13))<|'k') (N':=["room"]) (cap:=[none]) ["many","passages","moves","number","passage","a","b","length"] (aP<|top 13) 'k' rfl rfl (v9 (gl (sc:=(aP<|top 13))<|'k') B.range<|aj (pU 0) aG) (λ_ _ _ _ _=>(qC (i:=0) (show(["room"]:¬Str).Nodup by decide +kernel) 'k')) (λ_ _ _ _ _=>lU) (λ_ _ _ _ _=>(jX aG))) (aq (jx (VR (gl (sc:=(aP<|top 13))<|'k') B.enumerate<|aj (pU 1) aG) (m6 (n:=2)<|bM (xQ (i:=3) nd rfl<|lo (sc:=(aP<|top 13))<|'k')<|bM (xQ (i:=4) nd rfl<|lo (sc:=(aP<|top 13))<|'k') jZ)<|aq (Aw (i:=5) nd rfl (lo (sc:=(aP<|top 13))<|'k')<|bO ixD (pU 4) aN)<|aq (Aw (i:=6) nd rfl (lo (sc:=(aP<|top 13))<|'k')<|bO ixD (pU 4) aN)<|aq (Aw (i:=7) nd rfl (lo (sc:=(aP<|top 13))<|'k')<|bO ixD (pU 4) aN)<|aq (cG<|Dm (bO jc (pU 2)<|pU 5)<|aj (iY<|aj (bK Rm aN<|pU 3)<|aj (pU 6)<|aj (pU 7) aG) aG)<|aJ<|cG<|Dm (bO jc (pU 2)<|pU 6)<|aj (iY<|aj (bK gK (bK Rm aN<|pU 3) aN)<|aj (pU 5)<|aj (XD ah4<|pU 7) aG) aG)<|aJ<|aZ<|pU 2)),?_⟩;dsimp only[gA];walk_at "e0";refine⟨m,rfl,by lk,by lk,?_⟩;refine lcR (n:=m.toNat) (bw ∅) (λi ys G'=>∃C:¬Addr,ys=C.map V.ref/\C.Nodup/\(!C)=i/\(∀b∈C,H b=none/\G' b=#[.lst []])/\∀a o,G' a=#[o]->H a=#[o]\/a∈C) ⟨[],rfl,mr,rfl,by simp,λ_ _ h=>.inl h⟩ ?_ ?_
     .rintro D i ys k N hi hD s Yx A ⟨C,rfl,hnd,hbl,O,y⟩ hN;walk_at "e0";refine⟨.skip .nil,by decide,λp j=>?_⟩;have hpD:p≠D:=(aV hD j).symm;refine hN _ _ (by rw[au hpD.symm];calc hD) (qN<|aH j) ⟨C++[p],by simp,?_,by simp[hbl],λb T=>?_,λa o ha=>?_⟩
      .rw[dQ];refine⟨hnd,by simp,λa ha c hc=>?_⟩;have hc':c=p:=‹hc›
       subst hc';intro z;subst z;have:=(O a ha).2;rw[hide_ne hpD] at this;rw[j] at this;cases this
      .rcases bd.mp T with T|T
       .refine⟨(O b T).1,qN (aH j) _ _ (O b T).2⟩
       .have hb':b=p:=‹T›
        subst hb';refine⟨?_,by rw[hide_ne hpD,ao]⟩
        have:Same H k:=A.trans mH
        exact this.free j
      .by_cases hap:a=p
       .subst hap;exact .inr<|by simp
       .by_cases haD:a=D
        .subst haD;rw[Dn] at ha;cases ha
        .rw[hide_ne haD,au hap] at ha;rcases y a o (by rw[hide_ne haD];calc ha) with z|z
         .exact .inl z
         .exact .inr<|c5 _ z
     .rintro D ys H1 hD s Yx A ⟨C,rfl,hnd,hbl,O,y⟩;have aoA:Not (D∈C):=λz=>by have:=(O D z).2;rw[Dn] at this;cases this
      have I0:MI K G H D C (λ_=>[]) H1:=⟨G,A.trans mH,Same.refl _,Y.trans (A.trans mH),λ_ _ e=>.inl e,Y.free s,s,hD,aoA,hnd,λb T=>⟨Y.free (O b T).1,(O b T).1⟩,λu b T=>⟨[],by
       have:=(O b (ag T)).2;calc mH _ _ this,rfl⟩⟩
      walk_at "e0";have hqH:aU K H1 pa xs:=(A.trans mH).seq<|Y.seq hq;refine⟨pa,rfl,⟨xs,hqH⟩,?_⟩;have hpl:(!U)=!xs:=by rw[<-!hl,ac]
      refine anZ (xs:=xs) (λi r k=>MI K G H D C (λu=>nH 0 (U.take i) (u:Int)) k/\∃v3 v4 v5 v6 v7,r=[#[.int m],#[.ref pa],#[.ref D],v3,v4,v5,v6,v7]) ⟨I0.congr λu _=>by simp[nH],none,none,none,none,none,rfl⟩ ?_ ?_ ?_
      .rintro i r k _ ⟨I,_⟩;let(F',h1,_):=I.ex;exact h1.seq<|Y.seq hq
      .rintro i x r k p hxi ⟨I,v3,v4,v5,v6,v7,rfl⟩ j;walk_at "e0";let(dd,hd,hxv):=hl.get hxi;rw[ay] at hd;cases eq:U[i]? with
       |none=>rw[eq] at hd;cases hd
       |some qq=>
        rw[eq] at hd;cases hd;let(M,t,qw,l):=qq;let((a0,a1),b0,b1):=Sq _<|ag eq;dsimp only at a0 a1 b0 b1;have hi:i<!U:=by
         by_cases z:i<!U
         .exact z
         .rw[bm ∅] at eq;cases eq
        have I1:MI K G H D C (λu=>nH 0 (U.take i) (u:Int)) (upd k p<|.tup [.int (i:Int),x]):=by
         let(F',h1,h2,h3,h4,h5,h6,h7,h8,h9,h10,f):=I.ex;exact⟨F',h1.trans (aH j),h2,h3.trans (aH j),h4,h5,h6,aH j _ _ h7,h8,h9,h10,λu b T=>by
          let(ys,q1,q2):=f u b T;calc⟨ys,aH j _ _ q1,q2⟩⟩
        let(F',h1,h2,h3,h4,h5,h6,h7,h8,h9,h10,f):=I1.ex;have hxH:Has K (upd k p<|.tup [.int (i:Int),x]) (pD (M,t,qw,l)) x:=Has.same (h2.trans h3) hxv;refine⟨_,cF.of ao,rfl,?_⟩;walk_at "e0";refine⟨_,M,.inr hxH,rfl,_,t,.inr hxH,rfl,_,l,.inr hxH,rfl,?_⟩;have ea:C[M.toNat]? =#[C[M.toNat]'∅]:=ai _;have eb:C[t.toNat]? =#[C[t.toNat]'∅]:=ai _;generalize C[M.toNat]'∅=ba at ea;generalize C[t.toNat]'∅=bb at eb;have aA:cP (C.map V.ref) M=#[.ref ba]:=by
         have:M=((M.toNat:Nat):Int):=by lk
         rw[this];exact fM (by rw[ay,ea];rfl)
        have aB:cP (C.map V.ref) t=#[.ref bb]:=by
         have:t=((t.toNat:Nat):Int):=by lk
         rw[this];exact fM (by rw[ay,eb];rfl)
        let(zs,z1,_):=f _ _ ea;refine⟨_,_,aU.of h7,aA,.inl ⟨rfl,_,aU.of z1⟩,(BMul.ok ⟨by decide +kernel,by calc BJ ∅ ∅⟩),by decide,λp1 hp1=>?_⟩;let(ys,y1,y2,y3,I2):=I1.put (f':=λu=>nH 0 (U.take i) (u:Int)++(if u=M.toNat then [wI (2*i) t l] else [])) ea hp1 (m:=2*i) (e:=t) (x:=l) (by
         intro w;by_cases hw:w=M.toNat<;>simp[hw])
        have tl:=Gq (M.toNat:Int) (U.take i) 0;have tl2:=Gq (t.toNat:Int) (U.take i) 0;rw[fm] at tl tl2;refine⟨ys,y2,bw ∅,?_⟩;let(F2,k1,k2,k3,k4,k5,k6,k7,k8,k9,k10,k11):=I2.ex;let(ws,w1,_):=k11 _ _ eb;refine⟨_,_,aU.of k7,aB,.inl ⟨rfl,_,aU.of w1⟩,(BMul.ok ⟨by decide +kernel,by calc BJ ∅ ∅⟩),by decide,λp2 hp2=>?_⟩;let(ys2,_,y22,y23,I3):=I2.put (f':=λu=>(nH 0 (U.take i) (u:Int)++(if u=M.toNat then [wI (2*i) t l] else []))++(if u=t.toNat then [wI (2*i+1) M (-l)] else [])) eb hp2 (m:=2*i+1) (e:=M) (x:=-l) (by
         intro w;by_cases hw:w=t.toNat<;>simp[hw])
        refine⟨ys2,y22,bw ?_,I3.congr λu hu=>?_,_,_,_,_,_,rfl⟩
        .rw[y23,aE]
         have:(!(if t.toNat=M.toNat then [wI (2*i) t l] else []))<=1:=by split<;>simp
         lk
        .have et:U.take (i+1)=U.take i++[(M,t,qw,l)]:=by rw[eJ,eq];rfl
         have ea':(u=M.toNat)↔(M=(u:Int)):=by lk
         have eb':(u=t.toNat)↔(t=(u:Int)):=by lk
         have el:(!(List.take i U))=i:=by rw[fm];lk
         rw[et,Nu,el,kn];erw[ea',eb',cE]
      .rintro r k ⟨I,v3,v4,v5,v6,v7,rfl⟩;walk_at "e0";rw[bn ∅] at I;let(F',g,hh):=I.fin;refine q _ F' k g ?_;rw[hbl] at hh;exact hh
    .k_go
   .k_go
  .k_go
theorem Vm (A:CV E K 12 1 Pg.eG)(D:CO E K 14 3 (vf K Pg.kZ))(C:CV E K 13 1 VM.fH)(h:GF E K 10):CV E K 10 4 Pg.ni:=mL ["many","passages","start","goal","left"] h λnd vt hr=>by walk_at "d"
theorem Ss (A:CV E K 12 1 Pg.eG)(D:CO E K 14 3 (vf K Pg.kZ))(C:CV E K 13 1 VM.fH)(h:GF E K 11):CV E K 11 4 Pg.gU:=mL ["many","passages","start","goal","turns","left"] h λnd vt hr=>by walk_at "d"
theorem Sv (h:GF E K 20):CV E K 20 1 Pg.iR:=mL ["passages","walk"] h λnd vt hr=>by walk_at "d"
theorem O2 (h:GF E K 23):CV E K 23 1 Pg.jh:=mL ["passages","room","left","number","passage"] h λnd vt hr=>by walk_at "d"
theorem O4 (A:CV E K 23 1 Pg.jh)(h:GF E K 22):CV E K 22 2 Pg.gY:=mL ["passages","start","goal","left","walk","room","number"] h λnd vt hr=>by walk_at "d"
theorem Vn (A:CV E K 22 2 Pg.gY)(h:GF E K 21):CV E K 21 3 Pg.jA:=mL ["passages","start","goal","flow","left","walks","walk","many","number"] h λnd vt hr=>by walk_at "d"
theorem O5 (A:CV E K 12 1 Pg.eG)(D:CV E K 15 2 Pg.qY)(C:CV E K 13 1 VM.fH)(h:GF E K 26):CV E K 26 3 Pg.gZ:=mL ["many","passages","start","goal","turns","flow","late","with_late","left","reached"] h λnd vt hr=>by walk_at "d"
theorem O6 (C:CV E K 11 4 Pg.gU)(G:CV E K 21 3 Pg.jA)(A:CV E K 26 3 Pg.gZ)(D:CV E K 20 1 Pg.iR)(h:GF E K 25):CV E K 25 5 Pg.fD:=mL ["many","passages","start","goal","turns","flow","walks","people"] h λnd vt hr=>by walk_at "d"
theorem Vo (h:GF E K 29):CV E K 29 1 Pg.p8:=mL ["steps","people","amount","cost","needed","length","many"] h λnd vt hr=>by walk_at "d"
theorem Vp (D:CV E K 20 1 Pg.iR)(h:GF E K 30):CV E K 30 2 Pg.qb:=mL ["passages","walks","turns","people","plan","waiting","walk","number","moments","full"] h λnd vt hr=>by walk_at "d"
theorem Js (G:CV E K 10 4 Pg.ni)(H:CV E K 29 1 Pg.p8)(C:CV E K 11 4 Pg.gU)(D:CV E K 30 2 Pg.qb)(I:CV E K 21 3 Pg.jA)(A:CV E K 26 3 Pg.gZ)(h:GF E K 28):CV E K 28 5 Pg.eH:=mL ["many","passages","start","goal","people","steps","turns","flow","plan"] h λnd vt hr=>by walk_at "d"
def yE:VS:=(gw (oU (eZ<|vB<|nQ Ag Ag (vC<|.int 1) (dW pZ<|aC (vN 0) a0)<|vC<|.int 12)<|eZ<|vB<|dW vh<|aC (lJ (gq<|vN 0) [none] (gN 0) fj<|nQ gD gD (vC<|.str "a") (vN 0)<|vC<|.str "z") a0) pQ dH)
def iU:f9:=iG 1 1 yE
theorem Jt (aiJ:E.mg "all"=none)(ahw:E.mg "LONGEST_NAME"=#[.int 12 L])(h:GF E K 38):CV E K 38 1 iU:=mL ["name"] h λnd vt hr=>by walk_at "d"
def yF:VS:=(aR (gw (vB<|v2 Af (vN 1)<|dW kW<|aC (vN 0) a0) (eX<|v2 bB (vN 0)<|vN 1) dH)<|eX<|vC<|.int 0)
def j6:f9:=iG 2 2 yF
theorem Ju (h:GF E K 52):CV E K 52 1 j6:=mL ["_law_script","_law_k"] h λnd vt hr=>by walk_at "d"
def Sw:VS:=(eX<|Ks (xr "int" (vN 0))<|Gh<|xr "bool" (vN 0))
def Cg:f9:=iG 1 1 Sw
def uH:VS:=(aR (Gp 7<|lJ (dM<|vF 0) [none,#[6]] (gN 0) (vB<|v2 kE (v2 bB (vN 0)<|vC<|.int 0)<|vN 1)<|vF 0)<|aR (gw (oU (vB<|v2 kE (vN 7)<|gB a0)<|oU (vB<|v2 inE (v2 bB (vN 7)<|vC<|.int 0)<|vN 4)<|vB<|v2 lH (v2 bB (v2 bB (vN 7)<|vC<|.int 0)<|vC<|.int 1)<|vN 5) (eX<|vC .none) dH)<|aR (gM 4<|aC (v2 bB (vN 7)<|vC<|.int 0) a0)<|eV (v2 bB (v2 bB (vN 7)<|vC<|.int 0)<|vC<|.int 2)<|gN 5)
def Jv:VS:=(aR (qD 4<|gB a0)<|aR (eV (vF 2)<|gN 5)<|aR (pW (dM<|vF 1) (gN 6) uH)<|aR (gw (vB<|v2 lH (vN 5)<|vN 3) (eX<|vC .none) dH)<|iB 4)
def Jw:f9:=iG 4 8 Jv
def Y4:VS:=(gw (oU (eZ<|vB<|xr "tuple" (vN 3))<|oU (vB<|v2 lH (dW kW<|aC (vN 3) a0)<|vC<|.int 2)<|oU (eZ<|vB<|cV Cg<|aC (v2 bB (vN 3)<|vC<|.int 1) a0)<|eZ<|vB<|nQ Ag Ag (vC<|.int 0) (v2 bB (vN 3)<|vC<|.int 1)<|v2 fX (vN 2)<|vC<|.int 1) (eX<|vC<|.bool false) dH)
def yG:VS:=(aR (gw (oU (eZ<|vB<|xr "list" (vN 0))<|vB<|v2 lH (lJ (dM<|vF 0) [none] (gN 0) fj<|v2 bB (vN 0)<|vC<|.int 0)<|vN 1) (eX<|vC<|.bool false) dH)<|aR (pW (dM<|vF 0) (gN 3) Y4)<|eX<|Ks (v2 kE (v2 bB (v2 bB (vN 0)<|vC<|.int 0)<|vC<|.int 1)<|vC<|.int 0)<|v2 kE (v2 bB (v2 bB (vN 0)<|vC<|.int 1)<|vC<|.int 1)<|v2 fX (vN 2)<|vC<|.int 1)
def yH:f9:=iG 3 4 yG
end
end bV
namespace bV
open PyProof.Rows L2 VM
def adx:Stmt->Scope
 |.Assign _ (.ListComp _ _ A _) _=>A
 |_=>aP<|.Pass (0,0,0,0)
def iH (nm:Str):Prop:=iU [.str nm]=#[(false,.none)]/\(PyData.str nm).canLay0=true
def mQ (nums:¬(Str×Int))(rs:¬Str):¬(Str×Int):=rs.foldl (λn r=>iJ r ((!n):Int) n) nums
def newOf (nums:¬(Str×Int))(rs:¬Str):¬Str:=rs.filter λr=>(dj r nums).isNone
def ady (nm:Str)(v:A)(l:¬(Str×A)):(!(iJ nm v l))<=(!l)+1:=by
 delta iJ;split
 .rw[ac];lk
 .rw[aE];simp
def adz (rs:¬Str):∀nums,(!(mQ nums rs))<=(!nums)+!rs:=by
 induction rs with
 |nil=>intro nums;calc av _
 |cons r rs A=>intro nums;have h1:=A<|iJ r (!nums) nums;have h2:=ady r ((!nums):Int) nums;show(mQ (iJ r ((!nums):Int) nums) rs).length<=_;grind
def lcF {K:Frag}(E:V->Bool)(T:cF K A a xs)(j:(!xs)<sizeLine)
  (O:∀x∈xs,∀D ys (R:Bool->Hp->Prop),A D=none->R (E x) (upd A D<|.lst ys)->tc ((cR cap J).set 0<|#[x]) (upd A D<|.lst ys) R)
  (hk:∀x,dD (cR cap J) ((cR cap J).set 0<|#[x]))(N:∀(x:V) (H:Hp) (R:VK),R x H->te ((cR cap J).set 0<|#[x]) H R)
  (M:∀D,A D=none->Q (.ref D) (upd A D<|.lst<|xs.filter E)):Gb (Itt K a) cap (cg 0) tc te J A Q:=by
 intro D hD;refine(λi m H=>m=(!xs) - i/\i<=!xs/\H=upd A D (.lst<|(xs.take i).filter E),(_,rfl,cv _,rfl),?_);rintro i m H ⟨rfl,Y,rfl⟩;have C:cF K (upd A D<|.lst<|(xs.take i).filter E) a xs:=(aH hD).uX T;by_cases B:i<!xs
 .refine .inr ⟨(xs,xs[i],C,by simp[B]),λx U y=>?_⟩;let(e,y):=y;subst e;have L:=y xs C;have G:xs.take (i+1)=xs.take i++[x]:=by rw[o0,L];rfl
  refine⟨hk x,O x (ag L) D _ _ hD ?_⟩;by_cases I:E x=true
  .rw[ap I];refine N x _ _ (_,ao,?_,(!xs) - (i+1),by lk,rfl,B,?_)
   .have:=gd E<|xs.take i;rw[fm] at this;lk
   .rw[Kd,G,pr];simp[I]
  .rw[aw I];refine((!xs) - (i+1),by lk,rfl,B,?_);rw[G,pr];simp[I]
 .have e:i=!xs:=by lk
  subst e;refine .inl ⟨(xs,C,av _),?_⟩;rw[bn<|av _];calc M D hD
section
variable {K:Frag}
def yI {nm:Str}(e:B[i]? =#[#[.str nm]])(h:iH nm)(q:∀v E,Same H E->Q v E):jy (Hy K iU) (cL (vR i) d9) B H Q:=
 ak e (H,[.str nm],Same.refl _,(.str nm,[],rfl,⟨rfl,h.2⟩,rfl),false,.none,h.1,λv A E g _=>q v E g.hh)
inductive aaY (C:Addr)(vs:¬V)(H:Hp)(Q:VK):Prop
 |mk:∀p dx nn ll nums ls nm a b wd len ia ib,vs=[.ref p,.str nm,.str a,.str b,.int wd,.int len]->aW H C p dx nn ll nums ls->iH nm->iH a->iH b->dj nm ls=none->a≠b->1<=wd->1<=len->(!ls)<50->(!nums)<30->dj a (mQ nums<|newOf nums [a,b])=#[ia]->dj b (mQ nums<|newOf nums [a,b])=#[ib]->(∀H',aW H' C p dx nn ll (mQ nums<|newOf nums [a,b]) (iJ nm (ia,ib,wd,len) ls)->fL nn ll H H'->Q .non H')->aaY C vs H Q
def Y5 (C:Addr):Sp:=λJ H Q=>aaY C J H Q
def aiW (B:Bl E.mg)(c:Cl K C)(O:CV E K 38 1 iU)(g60:E.mg "MOST_PASSAGES"=#[.int 60 t60])(g40:E.mg "MOST_ROOMS"=#[.int 40 t40])(h:MF E K C (bW 1)):MO E K C (bW 1) 2 (Y5 C):=by
 refine tD ["self","name","a","b","width","length","added","room"] h (λvs H Q h=>by let(_,_,_,_,_,_,_,_,_,_,_,_,_,rfl,_):=h;rfl) λH nd vt hr nY=>?_;let(p,dx,M,ll,A,ls,nm,a,b,l,len,ia,ib,rfl,hh,n1,n2,n3,hg,hab,hw,hl1,hn1,hn2,ga,gb,hq):=nY;have vc:=(show(["room","self"]:¬Str).all (λx=>Ge (adx ((dU (bW 1)).getD 5 (.Pass (0,0,0,0)))) x && plain x)=true by decide +kernel);refine(_,aq (cG (pC O (aj (pU 1) aG)))
  (aq (cG (pC O (aj (pU 2) aG)))
  (aq (cG (pC O (aj (pU 3) aG)))
  (aq (bI (sO (aaP (dJ hr) (pU 1) (c7 (pU 0) rfl))) (aJ kJ) aX)
  (aq (bI (PW.pt (gG (eU kO (pU 2) (pU 3)) (gG (eU oLt (pU 4) aN) (iV (eU oLt (pU 5) aN))))) (aJ kJ) aX)
  (aq (mF (tc:=tB (DW (vR 0) (XM K (vR 1) "numbers"))) (i:=6) nd rfl lx (cap:=[none,#[0]]) ["self","name","a","b","width","length","added","room"] (aP (bW 1)) 'k' rfl rfl
   (Z8 (iY (aj (pU 2) (aj (pU 3) aG)))) (λ_ _ _ _ _=>qC (i:=0) 'k' 'k') (λ_ _ _ _ _=>V0 (sO (BW (dJ hr) (lF vc 0) (c7 (lF vc 1) (by rfl))))) (λ_ _ _ _ _=>lF vc 0))
  (aq (bI (PW.pt (gG (eU M4 (bK gK (cI Jk gx B.len db (aj (c7 (pU 0) rfl) aG)) aN) (ju (v:=.int 60) gx g60 ⟨_,rfl⟩))
   (iV (eU M4 (bK gK (cI Jk gx B.len db (aj (c7 (pU 0) rfl) aG)) (cI Kq gx B.len db (aj (pU 6) aG))) (ju (v:=.int 40) gx g40 ⟨_,rfl⟩))))) (aJ kJ) aX)
  (aq (jx (jW (pU 6)) (pG 7) (aJ (m9 (dJ hr) (c7 (pU 0) rfl) (pU 7) (cI Jk gx B.len db (aj (c7 (pU 0) rfl) aG)) rfl)))
  (aJ (m9 (dJ hr) (c7 (pU 0) rfl) (pU 1) (iY (aj (gP (dJ hr) (c7 (pU 0) rfl) (pU 2) (λ_ _=>rfl)) (aj (gP (dJ hr) (c7 (pU 0) rfl) (pU 3) (λ_ _=>rfl)) (aj (pU 4) (aj (pU 5) aG))))) rfl))))))))),?_)
 dsimp only[gA];delta iW iw;refine yI rfl n1 λ_ H1 s1=>?_;try k_ne
 refine yI rfl n2 λ_ H2 s2=>?_;refine yI rfl n3 λ_ H3 s3=>?_;have N:=(s1.trans s2).trans s3;have T:=hh.grow N;let(j,hk,hl):=T.laid;have g:=tE nm hl;rw[hg] at g;have hkl:=!hl;delta d8 tB ado;refine ak rfl<|dw rfl T.ins c.cl c.n2 rfl (ll,_,rfl,gO.k (k:=nm) hk,_,rfl,?_);rw[g];show(if(none:↑V).isSome=true then _ else _);rw[aw<|by simp];delta m5 Mi mG;try k_ne
 refine ak rfl<|ak rfl (_,_,rfl,rfl,?_);show(if decide (a=b)=true then _ else _);rw[aw<|by simp[hab]];rw[bV.op1];refine ak (v:=.int l) rfl ?_;show(if decide (l<1)=true then _ else _);rw[aw (by simp;lk)];rw[bV.op1];refine ak (v:=.int len) rfl ?_;show(if decide (len<1)=true then _ else _);rw[aw (by simp;lk)];delta jq sX ahH qI cL;try k_ne
 refine ak (v:=.str a) rfl (ak (v:=.str b) rfl ⟨by show 2<=sizeLine;decide,λt ht=>(t,rfl,⟨_,cF.of ao⟩,?_)⟩);have s4:=aH (o:=.tup [.str a,.str b]) ht;have U:=T.grow s4;refine lcF (λx=>match x with|.str r=>(dj r A).isNone|_=>false) (cF.of ao) (by show 2<sizeLine;decide) ?_ (λx=>dD.set dD.refl rfl) (λx Hx R r=>ak rfl r) ?_
 .intro x f D ys R hD r;have sD:=aH (o:=.lst ys) hD;obtain⟨I,rfl⟩:∃I,x=.str I:=by
   rcases bq.mp f with rfl|f
   .exact⟨_,rfl⟩
   .rw[aI.mp f];exact⟨_,rfl⟩
  refine ak (v:=.str I) rfl<|dw (p:=p) rfl ((U.grow sD).ins) c.cl c.n1 rfl ⟨M,_,rfl,gO.k (k:=I)<|(U.grow sD).num,_,rfl,?_⟩;rw[uQ];have e:(not ((Option.map V.int<|dj I A).isSome))=(dj I A).isNone:=by cases dj I A<;>rfl
  rwa [e]
 intro D hD;have eN:List.filter (λx=>match x with|.str r=>(dj r A).isNone|_=>false) [V.str a,V.str b]=(newOf A [a,b]).map V.str:=by delta newOf;rw[show [V.str a,V.str b]=[a,b].map V.str from rfl,rh];rfl
 rw[eN];have s5:=aH (o:=.lst<|(newOf A [a,b]).map V.str) hD;have J:=U.grow s5;have s:=s5 _ _<|s4 _ _ hk;have L:upd (upd H3 t<|.tup [.str a,.str b]) D (.lst<|(newOf A [a,b]).map V.str) D=#[.lst<|(newOf A [a,b]).map V.str]:=ao;have hl5:Paired (Wh<|upd (upd H3 t<|.tup [.str a,.str b]) D<|.lst<|(newOf A [a,b]).map V.str) j ls:=hl.mono λ_ _ z=>z.same λu xs e=>s5 _ _<|s4 _ _ e;have s35:=s4.trans s5;generalize upd (upd H3 t<|.tup [.str a,.str b]) D (.lst<|(newOf A [a,b]).map V.str)=H5 at J s L hl5 s35 ⊢;have nl:(!(newOf A [a,b]))<=2:=gd _ _;generalize hN:newOf A [a,b]=nw at*
 dsimp only[cg];rw[bV.op1,bV.op1];delta um;refine dw (p:=p) rfl J.ins c.cl c.n2 rfl ⟨ll,j,rfl,s,?_⟩;show(if decide ((60:Int)<((!j):Int)+1)=true then _ else _);rw[aw (by simp;lk)];rw[bV.op1];delta jm;refine dw (p:=p) rfl J.ins c.cl c.n1 rfl ⟨M,_,rfl,J.num,ak (v:=.ref D) rfl ⟨nw.map V.str,.inl<|aU.of L,?_⟩⟩;show(if decide ((40:Int)<((!(A.map oX)):Int)+((!(nw.map V.str)):Int))=true then _ else _);rw[aw (by rw[ac,ac];simp;lk)];try k_ne
 rw[qM];delta uw;refine ak (v:=.ref D) rfl ⟨D,rfl,⟨_,aU.of L⟩,?_⟩;refine forL (xs:=nw.map V.str) (λi m d=>(∃y,m=[#[.ref p],#[.str nm],#[.str a],#[.str b],#[.int l],#[.int len],#[.ref D],y])/\aW d C p dx M ll (mQ A<|nw.take i) ls/\d D=#[.lst<|nw.map V.str]/\fL M ll H5 d) ⟨⟨_,rfl⟩,J,L,fL.same<|Same.refl _⟩ (λ_ _ _ _ h=>aU.of h.2.2.1) ?_ ?_
 .rintro i x m d f ⟨⟨y,rfl⟩,G,i2,i3⟩;rw[ay] at f;let(I,er,rfl):=c6.mp f;delta cg uG;show XM K (vR 0) "numbers" [#[.ref p],#[.str nm],#[.str a],#[.str b],#[.int l],#[.int len],#[.ref D],#[.str I]] d _;refine dw (p:=p) rfl G.ins c.cl c.n1 rfl ⟨M,_,rfl,G.num,dw (p:=p) rfl G.ins c.cl c.n1 rfl<|ak (v:=.str I) rfl ⟨M,_,rfl,qW.k (k:=I) G.num<|bw ?_,?_⟩⟩
  .have:=adz (nw.take i) A
   have:(!(nw.take i))<=!nw:=by rw[fm];lk
   rw[ac];lk
  rw[ac,Wi];have e:iJ I ((!(mQ A<|nw.take i)):Int) (mQ A<|nw.take i)=mQ A (nw.take<|i+1):=by rw[o0,er];delta mQ;rw[kH];rfl
  rw[e];refine⟨⟨_,rfl⟩,G.aot,?_,i3.trans fL.num⟩;rw[au λz=>by have:=G.num;rw[<-z,i2] at this;cases this];exact i2
 .rintro m d ⟨⟨y,rfl⟩,G,i2,i3⟩;rw[ac,bn<|av _] at G;let(kv2,hk2,w):=G.laid;have arR:=!w;k_ne;delta uG Qy;refine dw (p:=p) rfl G.ins c.cl c.n1 rfl (ak (v:=.str a) rfl ⟨M,.int ia,rfl,?_,?_⟩)
  .have:=gO.k (k:=a) G.num;rw[uQ,ga] at this;exact this
  refine dw (p:=p) rfl G.ins c.cl c.n1 rfl<|ak (v:=.str b) rfl ⟨M,.int ib,rfl,?_,?_⟩
  .have:=gO.k (k:=b) G.num;rw[uQ,gb] at this;exact this
  refine ak (v:=.int l) rfl (ak (v:=.int len) rfl ⟨by show 4<=sizeLine;decide,λt' ht'=>?_⟩);have s6:=aH (o:=.tup [.int ia,.int ib,.int l,.int len]) ht';have n:=G.grow s6;have Y:=s6 _ _ hk2;refine dw (p:=p) rfl n.ins c.cl c.n2 rfl (ak (v:=.str nm) rfl ⟨ll,_,rfl,qW.k (k:=nm) Y<|bw ∅,?_⟩);calc hq _ (n.put Y<|Jj (q:=(ia,ib,l,len)) ao<|w.mono λ_ _ z=>z.same λu xs e=>s6 _ _ e)<|((((fL.same N).trans<|fL.same s35).trans i3).trans<|fL.same s6).trans<|fL.put Y
end
section
variable {K:Frag}
inductive Wo (C:Addr)(vs:¬V)(H:Hp)(Q:VK):Prop
 |mk:∀x dx a b,vs=[.ref x,.str a,.str b]->H x=#[.ins C dx []]->iH a->iH b->a≠b->(∀H' nn ll,aW H' C x dx nn ll [(a,0),(b,1)] []->(∀c o,c≠x->H c=#[o]->H' c=#[o])->H nn=none->H ll=none->Q .non H')->Wo C vs H Q
def Sx (C:Addr):Sp:=λJ H Q=>Wo C J H Q
def agM (c:Cl K C)(O:CV E K 38 1 iU)(g0:E.mg "START"=#[.int 0 w])(k:E.mg "GOAL"=#[.int 1 i])(h:MF E K C (bW 0)):MO E K C (bW 0) 2 (Sx C):=by
 refine tD ["self","start","goal"] h (λvs H Q h=>by let(_,_,_,_,rfl,_):=h;rfl) λH nd vt hr m=>?_;let(x,N,a,b,rfl,p,q,t,r,g):=m;refine(_,aq (cG (pC O (aj (pU 1) aG)))
  (aq (cG (pC O (aj (pU 2) aG)))
  (aq (bI (eU kO (pU 1) (pU 2)) (aJ kJ) aX)
  (aq (Hr (pU 0) (agH (RV (pU 1) (ju (v:=.int 0) gx g0 ⟨_,rfl⟩) (RV (pU 2) (ju (v:=.int 1) gx k ⟨_,rfl⟩) agG)) rfl rfl 's' ⋯) rfl)
  (aJ (Hr (pU 0) zH rfl))))),?_)
 dsimp only[gA];delta iW iw;refine yI rfl q λ_ s u=>?_;try k_ne
 refine yI rfl t λ_ U y=>?_;have B:=u.trans y;have M:=B _ _ p;delta d8 mG;refine ak rfl<|ak rfl (_,_,rfl,rfl,?_);show(if decide (a=b)=true then _ else _);rw[aw<|by simp[r]];intro d L;have A:=aV M L;delta yr yr yr tC;refine ak rfl (ak rfl (ao,[(a,.int 0),(b,.int 1)],rfl,by simp,?_));rw[Kd];have j:vo [] [(a,V.int 0),(b,.int 1)]=([(a,0),(b,1)]).map oX:=by
  have:Not ((a:Key)=b):=λz=>r<|z
  delta vo;rw[eQ,eQ,foldl_nil];delta putK;simp[this,oX]
 rw[j];refine ak rfl (x,C,N,[],rfl,by rwa [au A],c.cl,c.n1,by decide,?_);intro e I;have G:x≠e:=λz=>by subst z;rw[ao] at I;cases I
 have D:d≠e:=λz=>by subst z;rw[au A.symm,ao] at I;cases I
 refine ak rfl (x,C,N,_,rfl,by rw[au G,ao],c.cl,c.n2,by show 1<1000;decide,?_);have l:U e=none:=by rw[au G.symm,au D.symm] at I;exact I
 refine g _ d e (?_,?_,([],?_,.nil),D) (λc o T Y=>?_) (B.free L)<|B.free l
 .rw[ao];rfl
 .rw[au A.symm,au D,au A.symm,ao]
 .rw[au G.symm,ao]
 .have J:=B _ _ Y;have f:c≠e:=λz=>by subst z;rw[l] at J;cases J
  have n:c≠d:=λz=>by subst z;rw[L] at J;cases J
  rwa [au T,au f,au T,au n]
end
inductive bR where
 |lay (nm a b:Str) (w l:Int)
 |shut (nm:Str)
 |widen (nm:Str) (k:Int)
 |narrow (nm:Str) (k:Int)
def bR.vals:bR->¬V
 |.lay nm a b w l=>[.str "lay",.str nm,.str a,.str b,.int w,.int l]
 |.shut nm=>[.str "shut",.str nm]
 |.widen nm k=>[.str "widen",.str nm,.int k]
 |.narrow nm k=>[.str "narrow",.str nm,.int k]
def bR.nm:bR->Str
 |.lay nm _ _ _ _=>nm
 |.shut nm=>nm
 |.widen nm _=>nm
 |.narrow nm _=>nm
def bR.word:bR->Str
 |.lay _ _ _ _ _=>"lay"
 |.shut _=>"shut"
 |.widen _ _=>"widen"
 |.narrow _ _=>"narrow"
def vD {K:Frag}{i:Nat}{j:Int}{B:L2.St}{H:Hp}{Q:VK}{t:Addr}{xs:¬V}{v:V}(e:B[i]? =#[#[.ref t]])(h:cF K H t xs)(a:cP xs j=#[v])(q:Q v H):jm (Pk K) (vR i) (tC<|.int j) B H Q:=
 ak e (xs,v,h,a,q)
def QC {K:Frag}{A D:TE}{B:L2.St}{H:Hp}{Q:Bool->Hp->Prop}{x y:Str}(G:∀R:VK,R (.str x) H->A B H R)(C:∀R:VK,R (.str y) H->D B H R)(q:Q (decide<|x=y) H):mG (jm Q0 A D) B H Q:=by calc G _<|C _ ⟨_,_,rfl,rfl,q⟩
section
variable {K:Frag}
def bR.sp (C:Addr)(p:Addr):bR->Hp->VK->Prop
 |.lay nm a b w l,H,Q=>Y5 C [.ref p,.str nm,.str a,.str b,.int w,.int l] H Q
 |.shut nm,H,Q=>RZ C [.ref p,.str nm] H Q
 |.widen nm k,H,Q=>K1 C [.ref p,.str nm,.int k] H Q
 |.narrow nm k,H,Q=>Gs C [.ref p,.str nm,.int k] H Q
end
def cM (r:Row):():=.list [.str r.1,.str r.2.1,.str r.2.2.1,.int r.2.2.2.1,.int r.2.2.2.2]
abbrev PR:=Addr×Row
structure Held (H:Hp)(D:Addr)(qd:¬PR):Prop where
 top:H D=#[.lst<|qd.map λx=>.ref x.1]
 row:∀x∈qd,H x.1=#[.lst<|K4 x.2]
 can:∀x∈qd,(cM x.2).canLay0=true
def j7 (seen:¬Str)(rs:¬Str):¬Str:=rs.foldl (λs r=>if(s.any λy=>y==r)=true then s else s++[r]) seen
def eY (nm:Str)(k:Int)(r:Row):Row:=if r.1=nm then(r.1,r.2.1,r.2.2.1,r.2.2.2.1+k,r.2.2.2.2) else r
def oJ:bR->¬Row->¬Row
 |.lay nm a b w l,A=>A++[(nm,a,b,w,l)]
 |.shut nm,A=>A.filter λr=>not (decide (r.1=nm))
 |.widen nm k,A=>A.map<|eY nm k
 |.narrow nm k,A=>A.map<|eY nm<|-k
def DY:bR->¬Str->¬Str
 |.lay _ a b _ _,seen=>j7 seen [a,b]
 |_,seen=>seen
def adA (rs:¬Str):∀seen,(!(j7 seen rs))<=(!seen)+!rs:=by
 induction rs with
 |nil=>intro seen;calc av _
 |cons r rs A=>intro seen;have h1:=A<|if(seen.any λy=>y==r)=true then seen else seen++[r];show (!(j7 (if(seen.any λy=>y==r)=true then seen else seen++[r]) rs))<=_;grind
def zL (x:Str)(xs:¬Str):inV (.str x) (xs.map V.str)=xs.any λy=>y==x:=by delta inV;rw[any_map];rfl
def Y6 (h:r.1≠s.1):eqv (cM r) (cM s)=false:=by erw[cM,eqv,PyData.eqvAll];simp[h]
section
variable {K:Frag}{base:Heap}
inductive adB (K:Frag)(vs:¬V)(H:Hp)(Q:VK):Prop
 |mk:∀D sA t qd seen d,vs=[.ref D,.ref sA,.ref t]->Held H D qd->H sA=#[.lst<|seen.map V.str]->(D::sA::qd.map (·.1)).Nodup->cF K H t (bR.vals d)->(!qd)<100->(!seen)<100->((∀nm a b w l,d=.lay nm a b w l->(cM (nm,a,b,w,l)).canLay0=true))->(∀H' Y7,Held H' D Y7->Y7.map (·.2)=oJ d (qd.map (·.2))->H' sA=#[.lst<|(DY d seen).map V.str]->(D::sA::Y7.map (·.1)).Nodup->(∀b o,Not (b∈D::sA::qd.map (·.1))->H b=#[o]->H' b=#[o])->(∀b∈Y7.map (·.1),b∈qd.map (·.1)\/H b=none)->Q .non H')->adB K vs H Q
section
variable {a t D:Addr}{d:bR}
end
end
section
variable {K:Frag}
variable {d:bR}
end
section
variable {K:Frag}
variable {seen:¬Str}
def aaZ {seen rs:¬Str}(e:rs[i]? =#[r]):j7 seen (rs.take<|i+1)=if((j7 seen<|rs.take i).any λy=>y==r)=true then j7 seen (rs.take i) else j7 seen (rs.take i)++[r]:=by rw[o0,e];delta j7;rw[kH];rfl
end
end bV
namespace VM
open PyProof.Rows L2
section
variable {K:Frag}
def Sy (K:Frag)(H:Hp)(S:GS)(B:St):Prop:=(!S)=!B/\∀(i:Nat) t d,S[i]? =#[#[(t,d)]]->t=.fr/\∃v,B[i]? =#[#[v]]/\Has K H d v
def cu (n:Nat):¬(Nat×())->GS
 |[]=>replicate n none
 |x::r=>(cu n r).set x.1<|#[(.fr,x.2)]
inductive qF (K:Frag)(H:Hp)(σ:St):¬(Nat×())->Prop
 |n:qF K H σ []
 |c (e:σ[i]? =#[#[v]]) (h:Has K H d v) (r:qF K H σ L):qF K H σ ((i,d)::L)
theorem qF.at (h:qF K H B L)(C:(!B)=m):Sy K H (cu m L) B:=by
 induction h with
 |n=>calc⟨i7.trans C.symm,λi t d e=>by cases List.eq_of_mem_replicate (ag e)⟩
 |c e h r A=>
  refine⟨cc.trans A.1,λj t d g=>?_⟩;rw[cu,List.getElem?_set] at g;split at g
  .rename_i q;split at g
   .cases g;exact⟨rfl,v,q▸e,h⟩
   .cases g
  .calc A.2 j t d g
def VI.at (h:Sy K H S C):VI K (λ_=>none) H H S H C H where
 len:=h.1
 same:=Same.refl _
 gf:=Same.refl _
 new:=λ_ _ e=>.inl e
 sub:=Same.refl _
 slot:=λi t d e=>by let(rfl,v,B,G):=h.2 i t d e;exact(v,B,G)
 inj:=λi j t M d D v B _ A _ _ _=>by let(rfl,_):=h.2 i t d B;cases A
def Jx (h:Sy K H S B)(e:f S=#[d])(q:∀v E,Same H E->Has K E d v->Q v E):tV K RS f B H Q:=
 (_,_,_,S,H,VI.at h,d,e,λv _ E g M=>q v E g.hh<|Has.same g.fh M)
def SJ (h:Sy K H S D)(e:f S=#[.list ds])(q:∀a xs E,Same H E->H a=none->E a=#[.lst xs]->aK K E ds xs->Q (.ref a) E):tV K RN f D H Q:=
 (_,_,_,S,H,VI.at h,_,e,λv G E g C=>by
  let(B,a,xs,A,rfl,h1,_,J,M):=C;cases A;calc q a xs E g.hh h1 J (aK.same g.fh M))
def Ci (h:Sy K H S B)(e:f S=#[b])(q:∀E,Same H E->Q b E):gQ K f B H Q:=
 (_,_,_,S,H,VI.at h,b,e,λ_ E g=>q E g.hh)
end
end VM
local macro_rules | `(tactic| walk_at "e1")=>do
 let a<-lsQ "BR qU gn Ql Qm Bu yd HX HY BL Qe Ia Dr Ib Ie BP Qf Ig eZ Ds Dt Du Ih Ii Ij Ik Il Im Io RP YL Qg Dv YM Qh a0 Ip Qi Qj Qk YQ g0 zu Dw wC zx wD zy Dy uE wF zB Qc DN IV Ir Dz Iu Qn Qo pY Iv Iw Qp DG Iz eX rR iB gEx gN gT IK yh Qq yg DK YS Rz dR gM qR qT oH dH pQ Yz YB gRv ait aaL Wd jr DP Jc Qw Jd Je vN vF vC vB u0 Rq Gh sY mJ bB oN oI Gi Gj Yp oV je gB dW kW Kv uD Py Pz xr zF DQ uF wG lV Gm dM uP zj PB zm Bq m7 iI u6 fj IW Ja Qs Qt Qu Qv Jb PL PX Int.reduceToNat reducePow P0 HN iT length_cons length_nil map_cons map_nil replicate cons_append nil_append append_nil getElem?_cons_zero getElem?_cons_succ set_cons_zero set_cons_succ reduceAdd reduceSub Nat.reduceLeDiff Nat.reduceEqDiff Bool.and_true Bool.true_and Bool.not_true Bool.not_false false_eq_true if_true if_false"
 `(tactic| try simp only[$a,*,↓reduceIte])
namespace bV
open PyProof.Rows L2 VM
def QD (rows:¬Row):():=.list<|rows.map cM
def gH (xs:¬Str):():=.list<|xs.map .str
def zM (h:d.depth<=60)(c:d.canLay0=true):lH d d=#[.bool false]:=by delta lH;rw[ap h,im _ c];rfl
theorem Cj:∀(ds:¬()) (n:Nat),(∀d∈ds,d.depth<=n)->depthAll ds<=n+1
 |[],_,_=>by simp[depthAll]
 |d::r,n,h=>by have h1:=h d<|ae ..;have h2:=Cj r n λx A=>h x<|af _ A;erw[depthAll];lk
theorem Wq:∀(ds:¬()),(∀d∈ds,d.canLay0=true)->canLayAll0 ds=true
 |[],_=>rfl
 |d::r,h=>by erw[canLayAll0,bj];calc⟨h d<|ae ..,Wq r λx A=>h x<|af _ A⟩
def qe (xs:¬Str):(gH xs).depth<=60:=by have:=Cj (xs.map PyData.str) 5 (λd G=>by let(x,_,rfl):=bg.mp G;simp[PyData.depth]);erw[gH,PyData.depth];lk
def adC (h:∀x∈xs,(PyData.str x).canLay0=true):(gH xs).canLay0=true:=by erw[gH,canLay0];calc Wq _ λd G=>by let(x,A,rfl):=bg.mp G;calc h x A
section
variable {K:Frag}
def fu {xs:¬Str}(h:∀w∈xs,(PyData.str w).canLay0=true):aK K H (xs.map PyData.str) (xs.map V.str):=aK.map λw C=>⟨rfl,h w C⟩
def adD (h:H a=#[.lst<|xs.map V.str])(c:∀x∈xs,(PyData.str x).canLay0=true):Has K H (gH xs) (.ref a):=(a,_,rfl,aU.of h,fu c)
end
end bV
set_option hygiene false in
local macro_rules | `(tactic| walk_at "e2")=>do
 let a<-lsQ "BR qU gn Ql Qm Bu yd HX HY BL Qe Ia Dr Ib Ie BP Qf Ig eZ Ds Dt Du Ih Ii Ij Ik Il Im Io RP YL Qg Dv YM Qh a0 Ip Qi Qj Qk YQ g0 zu Dw wC zx wD zy Dy uE wF zB Qc DN IV Ir Dz Iu Qn Qo pY Iv Iw Qp DG Iz eX rR iB gEx gN gT IK yh Qq yg DK YS Rz dR gM qR qT oH dH pQ Yz YB gRv ait aaL Wd jr DP Jc Qw Jd Je vN vF vC vB u0 Rq Gh sY mJ bB oN oI Gi Gj Yp oV je gB dW kW Kv uD Py Pz xr zF DQ uF wG lV Gm dM uP zj PB zm Bq m7 iI u6 fj IW Ja Qs Qt Qu Qv Jb PL PX Int.reduceToNat reducePow P0 HN iT length_cons length_nil map_cons map_nil replicate cons_append nil_append append_nil getElem?_cons_zero getElem?_cons_succ set_cons_zero set_cons_succ reduceAdd reduceSub Nat.reduceLeDiff Nat.reduceEqDiff Bool.and_true Bool.true_and Bool.not_true Bool.not_false false_eq_true if_true if_false cY jz BK RG decide_eq_true decide_eq_false if_pos if_neg length_map"
 `(tactic| try simp (disch:=first | with_unfolding_all exact rfl | omega | assumption | (refine bw ?_; omega)) only[$a,*,↓reduceIte])
namespace bV
open PyProof.Rows L2 VM
def uI (ns:¬Int)(k:Int):Int:=ns.getD k.toNat 0
def adE {ns:¬Int}{k:Int}(L:0<=k)(h1:k<!ns):cP (ns.map PyData.int) k=#[.int<|uI ns k]:=by
 obtain⟨j,rfl⟩:∃j:Nat,k=j:=⟨k.toNat,by lk⟩;have Y:j<!ns:=by lk
 refine fM ?_;simp[Y,uI]
def aa0 {ns:¬Int}{k:Int}(L:0<=k):j6 [.list<|ns.map .int,.int k]=#[(false,.int<|uI ns k)]:=by
 delta j6 yF;kt_k;by_cases h:k<!ns
 .kt_k;rw[adE L h];rfl
 .kt_k;have e:uI ns k=0:=by delta uI;grind
  rw[e]
def bf:Int:=1e20
def AZ (x:Str):Prop:=∀c∈⇑x,97<=c/\c<=122
def Ea (z:Str):(!z)=!⇑z:=by simp[Str.length]
theorem AZ.ascii (h:AZ z):ascii z=true:=by delta L2.ascii;rw[p6];intro c O;have:=h c ‹O›;lk
def AZ.can (h:AZ z):(PyData.str z).canLay0=true:=by rw[yj];intro c O;have:=h c O;lk
def ai0 (h:97<=c/\c<=122):(nQ gD gD (vC<|.str "a") (vN 0)<|vC<|.str "z") [#[(.fr,.str ⟨[c].toArray⟩)]]=#[.bool true]:=by
 have B:gD (.str "a") (.str ⟨[c].toArray⟩)=#[.bool true]:=by
  show #[PyData.bool<|not (decide ([c]<⇑("a":Str)))]=_
  have:(⇑("a":Str))=[97]:='k'
  rw[this,aS (λz=>by rcases gz.mp z with g|⟨_,g⟩;lk;calc absurd g<|by simp)];rfl
 have G:gD (.str ⟨[c].toArray⟩) (.str "z")=#[.bool true]:=by
  show #[PyData.bool<|not (decide (⇑("z":Str)<[c]))]=_
  have:(⇑("z":Str))=[122]:='k'
  rw[this,aS (λz=>by rcases gz.mp z with g|⟨_,g⟩;lk;calc absurd g<|by simp)];rfl
 z_go;rw[B];assumption
def agN (h:AZ z)(h1:1<=!z)(h2:(!z)<=12):iH z:=by
 refine⟨?_,h.can⟩;have D:pZ [.str z]=#[.int<|!z]:=by show(if (!z)<=1000 then _ else _)=_;rw[ap ∅]
 have G:(lJ (gq<|vN 0) [none] (gN 0) fj<|nQ gD gD (vC<|.str "a") (vN 0)<|vC<|.str "z") [#[(.fr,.str z)]]=#[.list<|(⇑z).map λ_=>.bool true]:=by
  rw[yg];delta gq;have E:vN 0 [#[(.fr,.str z)]]=#[.str z]:=by z_go
  rw[E];erw[h.ascii,dE];delta DR;rw[rT rfl (by rw[ac,←Ea];calc bw ∅)];rw[j4 (f:=λ_=>.bool true)]
  .z_go;rw[ce];rfl
  .intro d H;let(c,O,rfl):=bg.mp H;exact([#[(.fr,.str ⟨[c].toArray⟩)]],by z_go,rfl,ai0<|h c O)
 have J:vh [.list<|(⇑z).map λ_=>.bool true]=#[.bool true]:=by show(yq _).map _=_;rw[show((⇑z).map λ_=>PyData.bool true)=((⇑z).map λ_=>true).map PyData.bool by rw[ce];rfl,Fd];simp
 have B:(eZ<|vB<|dW vh<|aC (lJ (gq<|vN 0) [none] (gN 0) fj<|nQ gD gD (vC<|.str "a") (vN 0)<|vC<|.str "z") a0) [#[(.fr,.str z)]]=#[false]:=by delta eZ vB dW;rw[Dv,G];show(match(match vh [.list<|(⇑z).map λ_=>.bool true] with|some (.bool b)=>#[b]|_=>none) with|some b=>some (not b)|none=>none)=_;rw[J];rfl
 have A:(eZ<|vB<|nQ Ag Ag (vC<|.int 1) (dW pZ<|aC (vN 0) a0)<|vC<|.int 12) [#[(.fr,.str z)]]=#[false]:=by z_go;rw[D];z_go;have I:decide ((1:Int)<=((!z):Int))=true:=a9 ∅;have L:decide (((!z):Int)<=12)=true:=a9 ∅;kt_k
 have C:(oU (eZ<|vB<|nQ Ag Ag (vC<|.int 1) (dW pZ<|aC (vN 0) a0)<|vC<|.int 12)<|eZ<|vB<|dW vh<|aC (lJ (gq<|vN 0) [none] (gN 0) fj<|nQ gD gD (vC<|.str "a") (vN 0)<|vC<|.str "z") a0) [#[(.fr,.str z)]]=#[false]:=by rw[BP,A,Ig,B]
 delta iU yE;rw[BR<|by rfl];show bFn (gw _ pQ dH [#[(.fr,.str z)]])=_;rw[BL,C,Ia];rfl
def K7 {j c:Nat}(h:(!x)<=1000)(e:(⇑x)[j]? =#[c]):KR (.str x) (.int (j:Int))=#[.str ⟨[c].toArray⟩]:=by show(if (!x)<=1000 then _ else _)=_;rw[ap h,fM e];rfl
def adF (h:(!x)<=1000):pZ [.str x]=#[.int ((!x):Int)]:=ap h
def agO (x:Str)(xs:¬Str):KY true (.str x) (.list<|xs.map .str)=#[.bool<|not (xs.any λy=>y==x)]:=by show(match tu (xs.map .str) with|some xs=>#[PyData.bool<|if true=true then not (xs.any λy=>y==x) else xs.any λy=>y==x]|none=>none)=_;rw[p7];rfl
def bR.dat:bR->()
 |.lay nm a b w l=>.tuple [.str "lay",.str nm,.str a,.str b,.int w,.int l]
 |.shut nm=>.tuple [.str "shut",.str nm]
 |.widen nm k=>.tuple [.str "widen",.str nm,.int k]
 |.narrow nm k=>.tuple [.str "narrow",.str nm,.int k]
structure adG (rooms names:¬Str)(rows:¬Row):Prop where
 r2:2<=!rooms
 r5:(!rooms)<=6
 rn:rooms.Nodup
 n8:(!rows)<=8
 nn:(rows.map (·.1)).Nodup
 sub:∀r∈rows,r.1∈names
 wd:∀r∈rows,1<=r.2.2.2.1
def qg (B:Int)(A names:¬Str)(rows:¬Row):bR->Prop
 |.lay nm a b w l=>nm∈names/\Not (nm∈rows.map (·.1))/\a∈A/\b∈A/\a≠b/\1<=w/\1<=l/\w<=B/\l<=B/\(!rows)<8
 |.shut nm=>nm∈rows.map (·.1)
 |.widen nm k=>nm∈rows.map (·.1)/\1<=k/\k<=B
 |.narrow nm k=>∃r∈rows,r.1=nm/\1<=k/\k<r.2.2.2.1
def SM {xs ys:¬Str}(h:xs.Nodup)(s:∀x∈xs,x∈ys):(!xs)<=!ys:=by
 induction xs generalizing ys with
 |nil=>simp
 |cons x xs A=>let(h1,h2):=cS.mp h;have B:=s x<|ae ..;have:=A h2 λy n=>(List.mem_erase_of_ne (λz:y=x=>h1<|by rwa [<-z])).mpr (s y<|af _ n);grind
def adG.len (h:adG A names rows):(!rows)<=8:=h.n8
def eq_nil (rows:¬Row):kE (.list<|rows.map cM) (.list [])=#[.bool<|decide<|rows=[]]:=by
 delta kE;have G:(PyData.list<|rows.map cM).depth<=60:=by have:=Cj (rows.map cM) 10 (λd G=>by let(x,_,rfl):=bg.mp G;simp[cM,PyData.depth,depthAll]);erw[PyData.depth];lk
 rw[ap G];cases rows with
 |nil=>rfl
 |cons r v=>rfl
def slot (c n:Int)(rows:¬Row)(A names:¬Str):GS:=[#[(.fr,.int c)],#[(.fr,.list<|rows.map cM)],#[(.fr,.list<|A.map .str)],#[(.fr,.list<|names.map .str)],#[(.fr,.int n)],#[(.fr,.int<|n % 9)],none,none,none]
def LN (seen:¬Str)(x:Str×Q4)(r:Row):Prop:=x.1=r.1/\(∃i:Nat,x.2.1=i/\seen[i]? =#[r.2.1])/\(∃j:Nat,x.2.2.1=j/\seen[j]? =#[r.2.2.1])/\x.2.2.2.1=r.2.2.2.1/\x.2.2.2.2=r.2.2.2.2
def SN {seen B:¬Str}{i:Nat}(h:seen[i]? =#[x]):(seen++B)[i]? =#[x]:=by rwa [b9 (ah.mp h).1]
def LN.grow {seen B:¬Str}{x:Str×Q4}(h:LN seen x r):LN (seen++B) x r:=by let(h1,(i,h2,J),(j,M,k),C,N):=h;calc(h1,(i,h2,SN J),(j,M,SN k),C,N)
structure Ok (rooms names:¬Str)(rows:¬Row)(nums:¬(Str×Int))(ls:¬(Str×Q4)):Prop where
 dr:adG rooms names rows
 num:∀(i:Nat) x,nums[i]? =#[x]->x.2=(i:Int)
 nd:(seenOf nums).Nodup
 sub:∀x∈seenOf nums,x∈rooms
 lr:Paired (LN<|seenOf nums) ls rows
def qj {seen:¬Str}(h:Paired (LN seen) x rows):x.map (·.1)=rows.map (·.1):=by
 induction h with
 |nil=>rfl
 |cons h _ A=>rw[aT,aT,A,h.1]
theorem wL {nm:Str}:∀{l:¬(Str×A)},Not (nm∈l.map (·.1))->dj nm l=none
 |[],_=>rfl
 |x::r,h=>by rw[dj,aw λe=>h (by rw[aT,e];calc ae ..)];calc wL λz=>h (by rw[aT];calc af _ z)
theorem pA {nm:Str}:∀{l:¬(Str×A)},nm∈l.map (·.1)->∃v,dj nm l=#[v]
 |[],h=>by cases h
 |x::r,h=>by
  rw[dj];by_cases e:x.1=nm
  .simp_all
  .rw[aw e];refine pA ?_;grind
theorem zN {nm:Str}:∀{l:¬(Str×A)},dj nm l=#[v]->∃i:Nat,l[i]? =#[(nm,v)]
 |[],h=>by cases h
 |x::r,h=>by
  rw[dj] at h;by_cases e:x.1=nm
  .rw[ap e] at h;cases h;exact⟨0,by rw[<-e];rfl⟩
  .rw[aw e] at h;let(i,N):=zN h;calc⟨i+1,N⟩
theorem tG {nm:Str}:∀{l:¬(Str×A)}{x:Str×A},(l.map (·.1)).Nodup->x∈l->x.1=nm->dj nm l=#[x.2]
 |[],x,_,h,_=>by cases h
 |y::r,x,C,h,e=>by
  rw[aT] at C;let(h1,h2):=cS.mp C;rw[dj];rcases bq.mp h with g|g
  .rw[ap (by rw[<-g];calc e),g]
  .rw[aw λz=>h1 (by rw[z,←e];calc fN (f:=λx:Str×A=>x.1) g)];calc tG h2 g e
def vG {nm:Str}{l:¬(Str×A)}(h:Not (nm∈l.map (·.1))):iJ nm v l=l++[(nm,v)]:=by delta iJ;grind
def SQ {nm:Str}{l:¬(Str×A)}(h:nm∈l.map (·.1)):iJ nm v l=l.map λx=>if x.1=nm then(x.1,v) else x:=by delta iJ;grind
def aa1 {rs:¬Str}:∀{nums:¬(Str×Int)},rs.Nodup->(∀r∈rs,Not (r∈seenOf nums))->(∀(i:Nat) x,nums[i]? =#[x]->x.2=(i:Int))->seenOf (mQ nums rs)=seenOf nums++rs/\∀(i:Nat) x,(mQ nums rs)[i]? =#[x]->x.2=(i:Int):=by
 induction rs with
 |nil=>calc λ_ _ A=>⟨by rw[fS];rfl,A⟩
 |cons r rs H=>
  intro nums h1 h2 A;let(B,E):=cS.mp h1;have e:mQ nums (r::rs)=mQ (nums++[(r,((!nums):Int))]) rs:=by show mQ (iJ r ((!nums):Int) nums) rs=_;rw[vG<|h2 r<|ae ..]
  have D:seenOf (nums++[(r,((!nums):Int))])=seenOf nums++[r]:=by delta seenOf;rw[b7];rfl
  rw[e];let(b1,b2):=H (nums:=nums++[(r,((!nums):Int))]) E (λx G=>by
   rw[D];intro z;rcases bd.mp z with g|g
   .exact h2 x (af _ G) g
   .calc B (by rwa [<-aI.mp g])) (λi x C=>by
   rcases Nat.lt_or_ge i !nums with g|g
   .rw[b9 g] at C;exact A i x C
   .rw[cz g] at C
    have:i - (!nums)=0:=by
     rcases Nat.eq_zero_or_pos (i - !nums) with z|z
     .exact z
     .rw[bm (by simp;lk)] at C;cases C
    rw[this] at C;cases C;show((!nums):Int)=i;lk)
  calc⟨by rw[b1,D,cE];rfl,b2⟩
def tH {r:Str}:(dj r nums).isNone=true↔Not (r∈seenOf nums):=by
 constructor
 .intro h z;let(v,e):=pA z;grind
 .intro h;rw[wL h];rfl
def Eb {s:¬Str}:(s.any λy=>y==r)=true↔r∈s:=by simp
def agP {nums:¬(Str×Int)}(C:a≠b):j7 (seenOf nums) [a,b]=seenOf nums++newOf nums [a,b]:=by
 have step:∀s (r:Str),(if(s.any λy=>y==r)=true then s else s++[r])=if r∈s then s else s++[r]:=λs r=>by simp
 show(if((if((seenOf nums).any λy=>y==a)=true then seenOf nums else seenOf nums++[a]).any λy=>y==b)=true then(if((seenOf nums).any λy=>y==a)=true then seenOf nums else seenOf nums++[a]) else(if((seenOf nums).any λy=>y==a)=true then seenOf nums else seenOf nums++[a])++[b])=_;rw[step,step];delta newOf;by_cases G:a∈seenOf nums
 .rw[ap G];have D:=ge.mpr λz=>tH.mp z G;by_cases B:b∈seenOf nums
  .rw[ap B];have A:=ge.mpr λz=>tH.mp z B;grind
  .rw[aw B];have A:=tH.mpr B;grind
 .rw[aw G];have D:=tH.mpr G;by_cases B:b∈seenOf nums
  .rw[ap<|bd.mpr<|.inl B];have A:=ge.mpr λz=>tH.mp z B;grind
  .have A:=tH.mpr B;grind
def aa2 {r:Str}(C:∀(i:Nat) x,nums[i]? =#[x]->x.2=(i:Int))(h:r∈seenOf nums):∃i:Nat,dj r nums=#[(i:Int)]/\(seenOf nums)[i]? =#[r]:=by let(v,e):=pA h;let(i,N):=zN e;have:=C i _ N;calc(i,by rw[e,←this],by delta seenOf;rw[ay,N];rfl)
def Al (h:Paired R l r)(A:∀x y,R x y->p x=q y):Paired R (l.filter p) (r.filter q):=by
 induction h with
 |nil=>calc .nil
 | @cons a b _ _ h _ B=>
  rw[fR,fR,A a b h];split
  .exact .cons h B
  .calc B
def Y8 (h:Paired R l r):(∀x∈l,∀y,R x y->R (f x) (g y))->Paired R (l.map f) (r.map g):=by
 induction h with
 |nil=>intro _;calc .nil
 | @cons a b _ _ h _ B=>intro k;calc .cons (k a (ae ..) b h)<|B λx A=>k x<|af _ A
def xH (h:Paired R l r):∀{y:Row},y∈r->∃x∈l,R x y:=by
 induction h with
 |nil=>intro y n;cases n
 | @cons a b _ _ h _ B=>
  intro y n;rcases bq.mp n with g|g
  .rw[g];exact(a,ae ..,h)
  .let(x,A,e):=B g;calc(x,af _ A,e)
def aa3 (nm:Str)(k:Int)(rows:¬Row):(rows.map<|eY nm k).map (·.1)=rows.map (·.1):=by rw[ce];refine cx λr _=>?_;show(eY nm k r).1=r.1;delta eY;split<;>rfl
def SX {rows:¬Row}(h:(rows.map (·.1)).Nodup)(hr:r∈rows)(D:s∈rows)(e:r.1=s.1):r=s:=by
 induction rows with
 |nil=>grind
 |cons x B A=>grind
section
variable {A:¬(Str×Q4)}
theorem Ok.len (h:Ok B names rows nums A):(!A)<=8/\(!nums)<=6:=by
 have h1:=!h.lr;have h2:=h.dr.len;have J:=SM h.nd h.sub;have M:=h.dr.r5;have k:(!(seenOf nums))=!nums:=by delta seenOf;rw[ac]
 lk
def Ok.chg (h:Ok C names rows nums A){nm:Str}{k:Int}(Q:nm∈rows.map (·.1))(O:∀r∈rows,r.1=nm->1<=r.2.2.2.1+k):
  ∃q,dj nm A=#[q]/\(∀r∈rows,r.1=nm->q.2.2.1=r.2.2.2.1)/\Ok C names (rows.map<|eY nm k) nums (iJ nm (q.1,q.2.1,q.2.2.1+k,q.2.2.2) A):=by
 have J:=qj h.lr;have D:nm∈A.map (·.1):=by rwa [J]
 have E:(A.map (·.1)).Nodup:=by rw[J];exact h.dr.nn
 let(q,T):=pA D;refine(q,T,λr hr e=>?_,(h.dr.r2,h.dr.r5,h.dr.rn,by rw[ac];calc h.dr.n8,by rw[aa3];calc h.dr.nn,λr hr=>?_,λr hr=>?_),h.num,h.nd,h.sub,?_)
 .let(x,I,G):=xH h.lr hr;have:=tG E I<|G.1.trans e;rw[T] at this;cases this;exact G.2.2.2.1
 .let(s,H,rfl):=bg.mp hr
  have:(eY nm k s).1=s.1:=by delta eY;split<;>rfl
  rw[this];exact h.dr.sub s H
 .let(s,H,rfl):=bg.mp hr;delta eY;split
  .rename_i e;exact O s H e
  .exact h.dr.wd s H
 .rw[SQ D];refine Y8 h.lr λx I y B=>?_;delta eY;by_cases e:x.1=nm
  .have:=tG E I e;rw[T] at this;cases this;rw[ap e,ap<|B.1.symm.trans e];let(h1,h2,L,M,N):=B;exact(h1,h2,L,by show x.2.2.2.1+k=y.2.2.2.1+k;rw[M],N)
  .rwa [aw e,aw λz=>e<|B.1.trans z]
def step {C p J I G:Addr}{H:Hp}{d:bR}(h:Ok B names rows nums A)(hR:∀x∈B,iH x)(hN:∀x∈names,iH x)(i:qg Wt B names rows d)(Y:aW H C p J I G nums A):
  ∃D N,Ok B names (oJ d rows) D N/\seenOf D=DY d (seenOf nums)/\∀(Q:VK),(∀j,aW j C p J I G D N->fL I G H j->Q .non j)->d.sp C p H Q:=by
 let(hl,hnl):=h.len;have en:=qj h.lr;cases d with
 |lay nm a b w l=>
  let(m,O,d3,d4,o,d6,d7):=i;have L:(newOf nums [a,b]).Nodup:=List.Pairwise.filter _ (by simp[o]);have E:∀r∈newOf nums [a,b],Not (r∈seenOf nums):=λr hr=>tH.mp (di.mp hr).2;have t:∀r∈newOf nums [a,b],r=a\/r=b:=λr hr=>by have:=(di.mp hr).1;simpa using this
  let(U,s2):=aa1 L E h.num;have T:∀r,r∈[a,b]->r∈seenOf (mQ nums<|newOf nums [a,b]):=λr hr=>by
   rw[U];by_cases g:r∈seenOf nums
   .exact bd.mpr<|.inl g
   .exact bd.mpr<|.inr<|di.mpr ⟨hr,tH.mpr g⟩
  let(ia,ga,c):=aa2 s2 (T a 's');let(ib,gb,n):=aa2 s2 (T b 's');have f:Not (nm∈A.map (·.1)):=by rwa [en]
  refine(mQ nums<|newOf nums [a,b],iJ nm ((ia),(ib),w,l) A,((h.dr.r2,h.dr.r5,h.dr.rn,by show (!(rows++_))<=8;rw[aE];calc d7.2.2.2,?_,?_,?_),s2,?_,?_,?_),?_,?_)
  .show((rows++[Prod.mk nm<|Prod.mk a<|Prod.mk b<|Prod.mk w l]).map (·.1)).Nodup;rw[b7];refine dQ.mpr (h.dr.nn,by simp,λx M y hy z=>?_)
   have:y=nm:=‹hy›
   exact O<|by rwa [<-this,←z]
  .intro r hr;rcases bd.mp hr with g|g
   .exact h.dr.sub r g
   .rwa [aI.mp g]
  .intro r hr;rcases bd.mp hr with g|g
   .exact h.dr.wd r g
   .rwa [aI.mp g]
  .rw[U];exact dQ.mpr (h.nd,L,λx M y hy z=>E y hy<|z▸M)
  .intro x M;rw[U] at M;rcases bd.mp M with g|g
   .exact h.sub x g
   .rcases t x g with e|e
    .rwa [e]
    .rwa [e]
  .rw[vG f];refine Paired.snoc ?_ (rfl,(ia,rfl,c),(ib,rfl,n),rfl,rfl);rw[U];exact h.lr.mono λx y z=>z.grow
  .rw[U];exact(agP o).symm
  .intro Q q;calc(p,J,I,G,nums,A,nm,a,b,w,l,ia,ib,rfl,Y,hN nm m,hR a d3,hR b d4,wL f,o,d6,d7.1,by lk,by lk,ga,gb,q)
 |shut nm=>
  let(q,hq):=pA (by rwa [en]);refine(nums,rY nm A,((h.dr.r2,h.dr.r5,h.dr.rn,cb (gd ..) h.dr.n8,?_,?_,?_),h.num,h.nd,h.sub,?_),rfl,λQ k=>(p,J,I,G,nums,A,nm,q,rfl,Y,hq,k))
  .exact(qA _ oB).nodup h.dr.nn
  .exact λr hr=>h.dr.sub r (di.mp hr).1
  .exact λr hr=>h.dr.wd r (di.mp hr).1
  .calc Al h.lr λx y z=>by rw[z.1]
 |widen nm k=>
  let(m,O):=i;let(q,u,g2,v):=h.chg (k:=k) m λr hr e=>by have:=h.dr.wd r hr;lk
  calc(nums,_,v,rfl,λQ kk=>(p,J,I,G,nums,A,nm,q,k,rfl,Y,u,O.1,by lk,kk))
 |narrow nm k=>
  let(r,hr,e,O,d3):=i;have hm:nm∈rows.map (·.1):=by rw[<-e];exact fN hr
  let(q,u,g2,v):=h.chg (k:=-k) hm λs hs es=>by have:=SX h.dr.nn hs hr<|es.trans e.symm;rw[this];lk
  calc(nums,_,v,rfl,λQ kk=>(p,J,I,G,nums,A,nm,q,k,rfl,Y,u,O,by rwa [g2 r hr e],by lk,kk))
end
section
variable {ns:¬Int}
end
section
variable {K:Frag}
end
end bV
namespace VZ
open PySem.W PyProof.Rows
section
variable {s:Shared}
def alive (h:Q (s.heap a) s):wpAny M A (loadIfAlive a) Q E s:=λB p _=>by assumption
abbrev qm (h:Heap)(z TI TO T:Addr)(b:Bool):Prop:=h z=some {cls:=.type "zip",dict:=none,data:=.fields #[rawInt T,.bool b,.bool false,.ref TI,.ref TO],slots:=#[]}
def S5 (C:qm s.heap z TI TO T b)(U:s.heap T=#[G])
  (D:∀h',qm h' z TI TO T true->h'.objs.size= ~~~s->(∀c o,c≠z->s.heap c=#[o]->h' c=#[o])->Q false {s with heap:=h'}):
  (prog\w) A (Builtin.SmallTypes.ownedTupleIsFree<|.ref z) Q E s:=by
 refine aa<|cm C rfl rfl ?_;refine aa<|alive ?_;rw[gh,U];refine aa<|cm C rfl rfl ?_;cases b with
 |true=>calc ax<|D s.heap C rfl λc o _ e=>e
 |false=>refine aa<|fo C 's' λB k J=>ax<|D B k J.1 λc o O e=>J.extBut _ _ O e
def aa4 {Q:Value->Shared->Prop}(D:ZipApart z TI TO N O q r)
  (p:qm s.heap z TI TO T b)(h:s.heap T=#[oT])(g:IsPair s.heap TI (.ref N) (.ref O))(h1:s.heap.IsListIter N q k)(h2:s.heap.IsListIter O r k)(m:s.heap.IsList q xs)(j:s.heap.IsList r ys)(hx:xs[k]? =#[x])(hy:ys[k]? =#[y])
  (a:∀h',qm h' z TI TO T true->h'.IsListIter N q (k+1)->h'.IsListIter O r (k+1)->IsPair h' (~~~s) x y->(∀c o,c≠z->c≠N->c≠O->s.heap c=#[o]->h' c=#[o])->Q (.ref (~~~s)) {s with heap:=h'}):
  (prog\w) A (Builtin.«zip.__next__» ⟨[.ref z],[]⟩) (λY s'=>∃v,Y=.done (.ret v)/\Q v s') E s:=by
 show wpAny _ _ (field (.ref z) 2>>=_) _ _ _;refine aa<|cm p rfl rfl ?_;refine aa<|cm p rfl rfl ?_;refine aa<|dA g rfl ?_;refine aa<|S5 p h λt G C J=>?_;erw[dS,eg];rw[pk,j0];refine aa<|aa<|aa<|dT ?_;refine aa<|gI (h1.at λo e=>J _ o D.i1z e) (m.at λo e=>J _ o D.l1z e) hx λu i L=>ax ?_;refine ax ?_;k_ne;rw[j0];refine aa<|aa<|dT ?_;refine aa<|gI ((h2.at λo e=>J _ o D.i2z e).extBut L.extBut D.i12.symm) ((j.at λo e=>J _ o D.l2z e).extBut L.extBut D.l2i1) hy λH B M=>ax ?_;refine ax ?_;k_ne;rw[forIn_nil];refine ax ?_;refine aa (wpAny_newTuple (hsz:=by show(2:Nat)<=sizeLine;decide) ?_);have l:H.objs.size= ~~~s:=by rw[M.1,L.1,C]
 refine ax (_,rfl,?_);have U:∀c o,H c=#[o]->(H.push {cls:=.type "tuple",data:=.seq #[x,y]}) c=#[o]:=λc o e=>ar _ e;have I:IsPair (H.push {cls:=.type "tuple",data:=.seq #[x,y]}) H.objs.size x y:=bc _ rfl;rw[l] at I ⊢;calc a _ (U _ _<|M.extBut _ _ D.i2z.symm (L.extBut _ _ D.i1z.symm G)) ((i.extBut M.extBut D.i12).at λo e=>U _ o e) (B.at λo e=>U _ o e) I λc o d f n e=>U _ _<|M.extBut _ _ n<|L.extBut _ _ f<|J _ _ d e
def aa5 (p:A.handled=none)(D:ZipApart z TI TO H r M t)
  (B:qm s.heap z TI TO T b)(j:s.heap T=#[u])(g:IsPair s.heap TI (.ref H) (.ref r))(h1:s.heap.IsListIter H M k)(m:s.heap.IsList M xs)(q:xs[k]? =none)
  (Y:∀h' e,(∀c o,c≠z->c≠H->s.heap c=#[o]->h' c=#[o])->(∃o,h' e=#[o]/\o.cls=.type "StopIteration")->E (.ref e) {s with heap:=h'}):
  (prog\w) A (Builtin.«zip.__next__» ⟨[.ref z],[]⟩) Q E s:=by
 show wpAny _ _ (field (.ref z) 2>>=_) _ _ _;refine aa<|cm B rfl rfl ?_;refine aa<|cm B rfl rfl ?_;refine aa<|dA g rfl ?_;refine aa<|S5 B j λI G C J=>?_;erw[dS,eg];rw[pk,j0];refine aa<|aa<|aa<|dT ?_;calc aa<|qS p (h1.at λo e=>J _ o D.i1z e) (m.at λo e=>J _ o D.l1z e) q λO e L l=>(Y O e (λc o N U x=>L _ _ U<|J _ _ N x) l)
end
section
variable {z TI TO T i1 i2 l1 l2:Addr}
def Y9 (D:ZipApart z TI TO i1 i2 l1 l2)
  (C:qm s.heap z TI TO T b)(U:s.heap T=#[N])(g:IsPair s.heap TI (.ref i1) (.ref i2))(h1:s.heap.IsListIter i1 l1 k)(h2:s.heap.IsListIter i2 l2 k)(m:s.heap.IsList l1 xs)(L:s.heap.IsList l2 ys)(M:xs[k]? =#[x])(n:ys[k]? =#[y])
  (J:∀h',qm h' z TI TO T true->h'.IsListIter i1 l1 (k+1)->h'.IsListIter i2 l2 (k+1)->IsPair h' (~~~s) x y->(∀c o,c≠z->c≠i1->c≠i2->s.heap c=#[o]->h' c=#[o])->Q (#[.ref (~~~s)]) {s with heap:=h'}):
  (prog\w) A (pyNext<|.ref z) Q E s:=by
 have I:s.TypeIs (.ref z) "zip":=(_,C,rfl);exact aa (kU (da I eM
  (fg eM I jI
   (aa4 D C U g h1 h2 m L M n λh' B G Y j H=>ax (J h' B G Y j H)) (iO _))))
def Za (H:A.handled=none)(D:ZipApart z TI TO i1 i2 l1 l2)
  (C:qm s.heap z TI TO T b)(U:s.heap T=#[N])(g:IsPair s.heap TI (.ref i1) (.ref i2))(h1:s.heap.IsListIter i1 l1 k)(m:s.heap.IsList l1 xs)(L:xs[k]? =none)
  (B:∀h',(∀c o,c≠z->c≠i1->s.heap c=#[o]->h' c=#[o])->Q none {s with heap:=h'}):(prog\w) A (pyNext<|.ref z) Q E s:=by
 have I:s.TypeIs (.ref z) "zip":=(_,C,rfl);refine aa (kU (da I eM
  (fg eM I jI (aa5 H D C U g h1 m L λh' e M G=>?_) (iO _))))
 let(o,J,O):=G;calc aa<|wpAny_isInstance (o,J,O) isSubtype_stop<|ax<|B _ M
structure ZS (z TI TO T i1 i2 l1 l2:Addr)(xs ys:Array Value)(i:Nat)(h:Heap):Prop where
 z:∃b,qm h z TI TO T b
 t:∃o,h T=#[o]
 ti:IsPair h TI (.ref i1) (.ref i2)
 a:h.IsListIter i1 l1 i
 b:h.IsListIter i2 l2 i
 la:h.IsList l1 xs
 lb:h.IsList l2 ys
theorem ZS.at (x:ZS z TI TO T i1 i2 l1 l2 xs ys i h)(k:∀c o,c=z\/c=T\/c=TI\/c=i1\/c=i2\/c=l1\/c=l2->h c=#[o]->h' c=#[o]):ZS z TI TO T i1 i2 l1 l2 xs ys i h':=by let((b,U),(o,Y),A,G,B,C,D):=x;calc(⟨b,k _ _ 's' U⟩,⟨o,k _ _ 's' Y⟩,k _ _ 's' A,G.at λo e=>k _ o 's' e,B.at λo e=>k _ o 's' e,C.at λo e=>k _ o 's' e,D.at λo e=>k _ o 's' e)
structure Laid (n0:Nat)(xs ys:Array Value)(ts:¬Addr)(h:Heap):Prop where
 nd:ts.Nodup
 lo:∀t∈ts,n0<=t/\t<h.objs.size
 it:∀(j:Nat) t,ts[j]? =#[t]->∃x y,xs[j]? =#[x]/\ys[j]? =#[y]/\IsPair h t x y
def Laid.at (x:Laid A xs ys I h)(k:∀c o,A<=c->h c=#[o]->h' c=#[o]):Laid A xs ys I h':=by
 have B:∀t∈I,∃j,I[j]? =#[t]:=λt U=>dq U;have C:∀j t,I[j]? =#[t]->∃x y,xs[j]? =#[x]/\ys[j]? =#[y]/\IsPair h' t x y:=λj t e=>by let(a,b,c,d,p):=x.it j t e;exact(a,b,c,d,k _ _ (x.lo t<|ag e).1 p)
 refine(x.nd,λt U=>⟨(x.lo t U).1,?_⟩,C);let(j,e):=B t U;let(_,_,_,_,p):=C j t e;calc b8 p
def Laid.more (l:Laid B xs ys I h)(J:Not (t∈I))(L:B<=t)(M:xs[!I]? =#[x])(n:ys[!I]? =#[y])(D:IsPair h t x y):Laid B xs ys (I++[t]) h:=by
 refine(?_,λu f=>?_,λj u e=>?_)
 .rw[dQ];exact(l.nd,by simp,λa G b H z=>by rw[aI.mp H] at z;calc J<|z▸G)
 .rcases bd.mp f with g|g
  .exact l.lo u g
  .rw[aI.mp g];exact⟨L,b8 D⟩
 .by_cases Y:j<!I
  .rw[b9 Y] at e;exact l.it j u e
  .rw[cz ∅] at e;have A:j - (!I)=0:=by have:=(ah.mp e).1;simp at this;lk
   rw[A] at e;have E:t=u:=‹e›
   have C:j=!I:=by lk
   rw[C,←E];calc(x,y,M,n,D)
abbrev LstAt (h:Heap)(S:Addr)(I:¬Addr)(c:Nat):Prop:=h S=some {cls:=.type "list",dict:=none,data:=.seq (I.map Value.ref).toArray c,slots:=#[]}
def Wr (hS:LstAt h S I c):∃C,LstAt (h.update S<|Obj.mapSeq (·.push (Value.ref n))) S (I++[n]) C:=by
 have A:((I++[n]).map Value.ref).toArray=((I.map Value.ref).toArray).push (.ref n):=by simp
 have B:∀d:Data,(Obj.mapSeq (·.push (Value.ref n)) {cls:=.type "list",dict:=none,data:=.seq (I.map Value.ref).toArray c,slots:=#[]}).data=d->∃C,d=.seq (((I.map Value.ref).toArray).push<|.ref n) C:=λd G=>⟨_,G.symm.trans rfl⟩;let(C,O):=B _ rfl;refine⟨C,?_⟩;rw[LstAt,A,←O];calc(gs (Obj.mapSeq (·.push (Value.ref n))) hS rfl)
def adH (hh:A.handled=none)(D:ZipApart z TI TO i1 i2 l1 l2)(h0:z<I/\i1<I/\i2<I/\S<I/\T=I)
  (hS:S≠z/\S≠TI/\S≠i1/\S≠i2/\S≠l1/\S≠l2)(hle:xs.size=ys.size)(hn:xs.size<=sizeLine):∀(k i:Nat) (s:Shared) (L:¬Addr) (c:Nat),xs.size - i=k->i<=xs.size->(!L)=i->ZS z TI TO T i1 i2 l1 l2 xs ys i s.heap->LstAt s.heap S L c->Laid I xs ys L s.heap->
  (∀h' tk H d,(∀b o,b≠S->b≠z->b≠i1->b≠i2->s.heap b=#[o]->h' b=#[o])->LstAt h' S H d->Laid I xs ys H h'->(!H)=xs.size->R (.ok<|.ret res) {s with heap:=h',toks:=tk})->
  codeAny (model prog w) A (.builtin "list.extend.loop" ⟨[.ref S,.ref z,res],[]⟩) R s:=by
 let(Q,E,J,h,hT0):=h0;let(m,arS,g,hS2,arT,arU):=hS;have N:∀{a c:Nat},a<I->I<=c->c≠a:=λh1 h2 z=>by lk
 intro k;induction k with
 |zero=>
  intro i s L c hk hi C st f u x;have hin:i=xs.size:=by lk
  let((b,x1),(o,r),v,x4,x5,y,x7):=st;refine gu kT ?_;rw[gc dP _];refine aa (Za hh D x1 r v x4 y (by rw[hin];calc nB<|av _) λh' G=>?_);refine ax<|x h' s.toks L c (λb o _ t Y _ e=>G b o t Y e) (G _ _ m g f) (u.at λc o O e=>G c o (N Q O) (N E O) e) ∅
 |succ k ih=>
  intro i s L c hk hi C st f u x;have p:i<xs.size:=by lk
  let((b,x1),(o,r),v,x4,x5,y,x7):=st;have hx:=fE p;have hy:ys[i]? =#[ys[i]]:=fE ∅;refine gu kT ?_;rw[gc dP _];refine aa<|Y9 D x1 r v x4 x5 y x7 hx hy λq g1 g2 g3 g4 B=>?_;have j:=B _ _ m g hS2 f;have M:T≠z/\T≠i1/\T≠i2:=by rw[hT0];exact(N Q<|av _,N E<|av _,N J<|av _)
  have U:ZS z TI TO T i1 i2 l1 l2 xs ys (i+1) q:=(⟨_,g1⟩,⟨o,B _ _ M.1 M.2.1 M.2.2 r⟩,B _ _ D.TIz D.TIi1 D.TIi2 v,g2,g3,y.at λo e=>B _ o D.l1z D.l1i1 D.l1i2 e,x7.at λo e=>B _ o D.l2z D.l2i1 D.l2i2 e);have hfr: Not (~~~s∈L):=λhm=>hZ _ (u.lo _ hm).2;have S6:I<= ~~~s:=by have:=b8 r;lk
  let(Y,l):=Wr j;refine aa ?_;refine hY j rfl (ax ⟨iP dP _,ih (i+1) _ (L++[~~~s]) Y ∅ p (by rw[aE,C];rfl) (U.at λc o O e=>?_) l (((u.at λc o O e=>B c o (N Q O) (N E O) (N J O) e).more hfr S6 (by rwa [C]) (by rwa [C]) g4).at λc o O e=>?_) λh' tk H d G n la' hl'=>?_⟩)
   (by simp[C];lk) (by simp[C];lk)
  .refine(ck _ _ ?_).trans e;lk
  .exact(ck _ _ (N h O).symm).trans e
  .refine x h' tk H d (λb o c0 t Y c3 e=>G b o c0 t Y c3<|(ck _ _<|ci c0).trans<|B b o t Y c3 e) n la' hl'
end
def Zb:typeLookup (.type "zip") "__len__"=pure none:=by rw[typeLookup_type,rc];kernel_rfl
def Vq:typeLookup (.type "zip") "__length_hint__"=pure none:=by rw[typeLookup_type,rc];kernel_rfl
section
variable {z TI TO i1 i2 l1 l2:Addr}
structure Z0 (z TI TO i1 i2 l1 l2:Addr)(xs ys:Array Value)(h:Heap):Prop where
 z:IsZip h z TI TO .none
 ti:IsPair h TI (.ref i1) (.ref i2)
 to:∃a b,IsPair h TO a b
 a:h.IsListIter i1 l1 0
 b:h.IsListIter i2 l2 0
 la:h.IsList l1 xs
 lb:h.IsList l2 ys
theorem Z0.at (x:Z0 z TI TO i1 i2 l1 l2 xs ys h)(k:∀c o,c=z\/c=TO\/c=TI\/c=i1\/c=i2\/c=l1\/c=l2->h c=#[o]->h' c=#[o]):Z0 z TI TO i1 i2 l1 l2 xs ys h':=by let(U,T,(a,b,Y),G,B,C,D):=x;calc(k _ _ 's' U,k _ _ 's' T,(a,b,k _ _ 's' Y),G.at λo e=>k _ o 's' e,B.at λo e=>k _ o 's' e,C.at λo e=>k _ o 's' e,D.at λo e=>k _ o 's' e)
structure Off (S z TI TO i1 i2 l1 l2:Addr):Prop where
 z:S≠z
 ti:S≠TI
 to:S≠TO
 a:S≠i1
 b:S≠i2
 la:S≠l1
 lb:S≠l2
def Off.ne (o:Off S z TI TO i1 i2 l1 l2)(h:c=z\/c=TO\/c=TI\/c=i1\/c=i2\/c=l1\/c=l2):S≠c:=by
 rcases h with rfl|rfl|rfl|rfl|rfl|rfl|rfl
 .exact o.z
 .exact o.to
 .exact o.ti
 .exact o.a
 .exact o.b
 .exact o.la
 .calc o.lb
def Nx (hh:A.handled=none)(D:ZipApart z TI TO i1 i2 l1 l2)(hS:Off S z TI TO i1 i2 l1 l2)(k:xs.size=ys.size)(hn:xs.size<=sizeLine)
  (st:Z0 z TI TO i1 i2 l1 l2 xs ys s.heap)(O:LstAt s.heap S [] c)
  (hR:∀h' q H L,(∀b o,b≠S->b≠z->b≠TO->b≠i1->b≠i2->s.heap b=#[o]->h' b=#[o])->LstAt h' S H L->Laid (~~~s) xs ys H h'->(!H)=xs.size->R (.ok<|.ret p) {s with heap:=h',toks:=q}):
  codeAny (model prog w) A (.builtin "list.extend.loop" ⟨[.ref S,.ref z,p],[]⟩) R s:=by
 let(u,v,(a,b,x2),d,f,x,i):=st;have h:=b8 O;have M:i1< ~~~s:=by let(_,e,_):=d;exact b8 e
 have N:i2< ~~~s:=by let(_,e,_):=f;exact b8 e
 refine gu kT ?_;rw[gc dP _];by_cases h0:xs.size=0
 .refine aa (wpAny_pyNext_zip_end hh D u v x2 d f x i (.inl<|nB ∅) λh' hk=>?_);exact ax<|hR h' s.toks [] c (λb o _ I C r J e=>hk b o I C r J e) (hk _ _ hS.z hS.to hS.a hS.b O) (mr,λt g=>(by cases g),λj t e=>(by simp at e)) h0.symm
 .have hx:xs[0]? =#[xs[0]]:=fE ∅;have hy:ys[0]? =#[ys[0]]:=fE ∅;refine aa<|wpAny_pyNext_zip_item D u v x2 d f x i hx hy λG g1 g2 g3 g4 g5 g6 B=>?_;have ne:∀{a:Nat},a< ~~~s->s.heap.objs.size≠a:=λh1 z=>by lk
  have E:=B _ _ hS.z hS.to hS.a hS.b O;let(C,l):=Wr E;rw[gm] at l;have U:ZS z TI TO (~~~s) i1 i2 l1 l2 xs ys 1 G:=(⟨_,g1⟩,⟨_,g5⟩,B _ _ D.TIz D.TITO D.TIi1 D.TIi2 v,g3,g4,x.at λo e=>B _ o D.l1z D.l1TO D.l1i1 D.l1i2 e,i.at λo e=>B _ o D.l2z D.l2TO D.l2i1 D.l2i2 e);refine aa ?_;refine hY E rfl (ax ⟨iP dP _,adH hh D ((b8 u),M,N,h,rfl) (hS.z,hS.ti,hS.a,hS.b,hS.la,hS.lb) k hn _ 1 _ [~~~s] C rfl ∅ rfl (U.at λc o Q e=>?_) l ((Laid.more (mr,λt g=>(by cases g),λj t e=>(by simp at e)) 's' (av _) hx hy g5).at λc o Q e=>?_) λh' q H L T n m Y=>?_⟩)
   's' 's'
  .refine(ck _ _ ?_).trans e;rcases Q with rfl|rfl|rfl|rfl|rfl|rfl|rfl
   .exact hS.z
   .exact(ne h).symm
   .exact hS.ti
   .exact hS.a
   .exact hS.b
   .exact hS.la
   .exact hS.lb
  .refine(ck _ _ λy=>?_).trans e;subst y;exact absurd h<|not_lt.mpr Q
  .calc hR h' q H L (λb o c0 I C r J e=>T b o c0 I r J<|(ck _ _<|ci c0).trans<|B b o I C r J e) n m Y
def adI (U:s.TypeIs (.ref z) "zip")(h:Q true s):(prog\w) A (Builtin.List.listLengthHint<|.ref z) Q E s:=by calc aa<|nb U Zb<|aa<|nb U Vq<|ax h
def Zc (T:A.handled=none)(D:ZipApart z TI TO i1 i2 l1 l2)(hS:Off S z TI TO i1 i2 l1 l2)(G:xs.size=ys.size)(j:xs.size<=sizeLine)
  (st:Z0 z TI TO i1 i2 l1 l2 xs ys s.heap)(M:s.heap S=some {cls:=.type "list",data:=.seq #[] c})
  (Q:∀h' Y H C,(∀b o,b≠S->b≠z->b≠TO->b≠i1->b≠i2->s.heap b=#[o]->h' b=#[o])->LstAt h' S H C->Laid (~~~s) xs ys H h'->(!H)=xs.size->R (.ok<|.ret p) {s with heap:=h',toks:=Y}):
  (prog\w) A.in1 (Builtin.List.listExtendWith (.ref S) (.ref z) p)
   (λL I=>match L with|.done f=>R (.ok f) I|.again C=>C.quiet=true/\codeAny (model prog w) A C R I) (λe I=>R (.error e) I) s:=by
 have U:s.TypeIs (.ref z) "zip":=(_,st.z,rfl);refine aa<|wpAny_typeOf U ?_;have h1:Builtin.List.listSameRef (.ref S) (.ref z)=false:=by simp[Builtin.List.listSameRef,hS.z]
 have h2:(type "zip"==type "list")=false:=by decide
 have m:(type "zip"==type "tuple")=false:=by decide
 erw[h1,h2,m,Bool.or_false,dS,eg];refine aa<|mB st.z ?_;refine aa<|dT<|adI U ?_;refine wpAny_ite_split (λ_=>?_)<|λ_=>ax ⟨iP dP _,Nx T D hS G j st M Q⟩;refine aa<|og ?_;refine aa ?_;refine aa<|hY M rfl ?_;have B:=gs (Obj.mapSeq (·.push Value.none)) M rfl;refine hY B rfl ?_;refine ax ⟨iP dP _,Nx T D hS G j (st.at λc o q e=>?_) (gs (Obj.mapSeq (·.pop)) B rfl) λh' Y H C N n t O=>?_⟩
 .have E:c≠S:=λy=>hS.ne q y.symm;exact(ck _ _<|ci E).trans<|(ck _ _<|ci E).trans e
 .refine Q h' Y H C (λb o J k g r l e=>N b o J k g r l<|(ck _ _<|ci J).trans<|(ck _ _<|ci J).trans e) n ?_ O;simp_all
def O7 (l:A.handled=none)(D:ZipApart z TI TO i1 i2 l1 l2)(N:xs.size=ys.size)(m:xs.size<=sizeLine)(st:Z0 z TI TO i1 i2 l1 l2 xs ys s.heap)
  (k:∀h' Y H J,(∀b o,b≠z->b≠TO->b≠i1->b≠i2->s.heap b=#[o]->h' b=#[o])->LstAt h' (~~~s) H J->Laid (~~~s+1) xs ys H h'->(!H)=xs.size->Q (.ref (~~~s)) {s with heap:=h',toks:=Y}):
  (prog\w) A (call (.type "list") [.ref z]) Q E s:=by
 refine callType_codes (Q₁:=λG C=>G=.ref (~~~s)/\C={s with heap:=s.heap.push {cls:=.type "list",data:=.seq #[]}}) PySem.F.called_list (PySem.F.typeCall_list_1 _) PySem.F.entry_list_init
  (code_list_new _ ⟨rfl,rfl⟩) λG C B=>?_
 let(rfl,rfl):=B;have hS:(s.heap.push {cls:=.type "list",data:=.seq #[]}) (~~~s)=some {cls:=.type "list",data:=.seq #[]}:=bc _ rfl;have lt:∀{b o},s.heap b=#[o]->s.heap.objs.size≠b:=λe=>lj<|b8 e;let(a,b,q):=st.to;have I:Off (~~~s) z TI TO i1 i2 l1 l2:=(lt st.z,lt st.ti,lt q,(by let(_,e,_):=st.a;calc lt e),(by let(_,e,_):=st.b;calc lt e),(by let(_,e,_):=st.la;calc lt e),(by let(_,e,_):=st.lb;calc lt e));have U:Z0 z TI TO i1 i2 l1 l2 xs ys (s.heap.push {cls:=.type "list",data:=.seq #[]}):=st.at λc o _ e=>ar _ e;refine((_,hS,rfl),PySem.F.args_list_init_2 _ _,?_);refine aa ?_;refine aa<|dA hS rfl<|ax ?_;refine aa<|hY hS rfl ?_;refine aa<|wpAny_letGo ?_;refine Zc l D I N m (U.at λc o g e=>(ck _ _<|I.ne g).trans e) (gs (Obj.mapSeq<|λ_=>(#[])) hS rfl) λh' Y H J L n p M=>?_;refine⟨rfl,k h' Y H J (λb o O T r j e=>L b o (λy=>lt e y.symm) O T r j<|(ck _ _<|lt e).trans<|ar _ e) n ?_ M⟩;simp_all
end
end VZ
namespace L2
open PyProof.Rows
def putAll (H:Hp):¬(Addr×HO)->Hp
 |[]=>H
 |p::r=>upd (putAll H r) p.1 p.2
def zO (h:Not (b∈ps.map (·.1))):putAll H ps b=H b:=by
 induction ps with
 |nil=>rfl
 |cons p r A=>rw[aT,bq,not_or] at h;show upd (putAll H r) p.1 p.2 b=_;rw[au h.1,A h.2]
def wM (nd:(ps.map (·.1)).Nodup)(h:p∈ps):putAll H ps p.1=#[p.2]:=by
 induction ps with
 |nil=>cases h
 |cons q r A=>
  rw[aT,cS] at nd;show upd (putAll H r) q.1 q.2 p.1=_;rcases bq.mp h with g|g
  .rw[g,ao]
  .rw[au λz=>nd.1 (by rw[<-z];calc fN g)];calc A nd.2 g
def Inv.lays (I:Inv X A G H s)(k:∀b u,s.heap b=#[u]->h' b=#[u])(sm:Same H E)(lo:∀b,b< ~~~s->E b=H b)
  (B:∀b o,~~~s<=b->E b=#[o]->fU X.prog X.w E h' b o):Inv X A G E {s with heap:=h',toks:=t'}:=by
 refine I.un ⟨λb u q _ _ _=>k b u q,λb u q _ _ _=>⟨u.slots,k b u q⟩,λb u q n _=>by rw[lo b<|b8 q];calc n,λb u q _=>⟨u,k b u q⟩,λb D q=>sm _ _ q,λb u D q=>sm _ _ q⟩ λb u e=>?_;by_cases C:b<s.heap.objs.size
 .rw[lo b C] at e;exact(I.hok b u e).stay (λc v _ q=>k c v q) (λc q=>sm _ _ q) λc D q=>sm _ _ q
 .calc B b u (not_lt.mp C) e
theorem Ny:∀I:¬Addr,Vals (I.map V.ref) (I.map Value.ref)
 |[]=>.nil
 |t::r=>.cons rfl<|Ny r
def ai4 (n G H:Nat)(h1:G<n)(h2:H<n):ZipApart (n+4) (n+2) (n+3) n (n+1) G H:=by constructor<;>(show(_)≠_)<;>lk
inductive ai5 (K:Frag)(Q:VK)(vs:¬V)(H1:Hp):Prop
 |mk:∀a b xs ys,vs=[.ref a,.ref b]->aU K H1 a xs->aU K H1 b ys->(!xs)=!ys->(∀(z:Addr) (ts:¬Addr) (H2:Hp),Same H1 H2->H2 z=#[.lst<|ts.map V.ref]->(!ts)=!xs->(∀(j:Nat) t x y,ts[j]? =#[t]->xs[j]? =#[x]->ys[j]? =#[y]->H2 t=#[.tup [x,y]])->Q (.ref z) H2)->ai5 K Q vs H1
def tLZ (K:Frag)(A:TA):TE:=λB H Q=>A B H λJ E=>ai5 K Q J E
def Zd (hgl:Gl X "list")(hml:X.mg "list"=none)(hg:Gl X "zip")(C:X.mg "zip"=none)(ha:PA X [l,L] ta)
  (hs:(starEach [l,L] X.env=[(false,eval l X.env),(false,eval L X.env)])∣0)(Y:(starEach [L] X.env=[(false,eval L X.env)])∣0)
  (he:(starEach [.Call (.Name "zip" p2) [l,L] [] B] X.env=[(false,eval (.Call (.Name "zip" p2) [l,L] [] B) X.env)])∣0):
  PE X (.Call (.Name "list" p) [.Call (.Name "zip" p2) [l,L] [] B] [] pos) (tLZ X.K ta):=by
 intro d s σ H Q I h;refine fq<|pK I hgl hml boot_list ?_;refine cy ?_;rw[he];refine lz ?_;refine Call_ (pK I hg C boot_zip (cy (aY (ha B d s σ H _ I h) ?_) (by rw[hs,Y]) (by rw[Y];rfl)));rintro us O ⟨vs,T,U,r1,q1⟩;let(a,b,xs,ys,e,hq,hq2,Yx,q):=q1;subst e;cases r1 with
 |cons r rr=>
  cases rr with
  |cons r2 rr=>
   cases rr;cases r;cases r2;let(Ru,rv,pl,hz):=U.list hq;let(m,f,M,Nh):=U.list hq2;have hl1:=!rv;have hl2:=!f;have la:a< ~~~O:=by let(_,e,_):=pl.isList;exact b8 e
   have lb:b< ~~~O:=by let(_,e,_):=M.isList;exact b8 e
   refine call_zip_2 pl.isList M.isList λJ g1 g2 g3 g4 g5 hsz hk=>?_;refine mn ?_;have D:=ai4 (~~~O) a b la lb;have st:VZ.Z0 (~~~O+4) (~~~O+2) (~~~O+3) (~~~O) (~~~O+1) a b Ru.toArray m.toArray J:=⟨g1,g2,⟨_,_,g3⟩,g4,g5,pl.isList.at λo e=>hk _ o e,M.isList.at λo e=>hk _ o e⟩;refine VZ.O7 U.ok.hd D (by simp;lk) (by simp;lk) st λh2 tk A c hk2 hL E htl=>?_;have k:=hsz;have G:∀{b:Addr}{o:Obj},O.heap b=#[o]->∀j:Nat,b≠O.heap.objs.size+j:=λ{b o} e j y=>by rw[y] at e;exact absurd (b8 e)<|not_lt.mpr<|f7 _ _
   have hk3:∀b o,O.heap b=#[o]->h2 b=#[o]:=λb o e=>hk2 b o (G e 4) (G e 3) (G e 0) (G e 1)<|hk b o e;have htx:(!A)=!xs:=by rw[htl];simp;lk
   let os:¬HO:=(xs.zip ys).map λp=>HO.tup [p.1,p.2];have hos:(!os)=!A:=by simp[os];lk
   have e1:(A.zip os).map (·.1)=A:=ku ∅;have hnz:Not (J.objs.size∈A):=λC=>by have:=(E.lo _ C).1;exact Nat.not_succ_le_self _ this
   have z:∀t,t∈J.objs.size::A->O.heap.objs.size<=t:=λt ht=>by
    rcases bq.mp ht with g|g
    .rw[g,k];exact f7 _ _
    .have h3:=(E.lo t g).1;rw[k] at h3;exact cb (f7 _ 6) h3
   let N:¬(Addr×HO):=(J.objs.size,HO.lst<|A.map V.ref)::A.zip os;have w:N.map (·.1)=J.objs.size::A:=by erw[N,aT,e1]
   have nd:(N.map (·.1)).Nodup:=by rw[w];exact cS.mpr ⟨hnz,E.nd⟩
   have fr:∀t,t∈J.objs.size::A->T t=none:=λt ht=>U.hok.fresh<|z t ht;have sm:Same T (putAll T N):=λb o e=>by rw[zO];calc e;rw[w];exact λC=>by rw[fr b C] at e;k_go
   have lo:∀b,b< ~~~O->putAll T N b=T b:=λb hb=>zO (by rw[w];calc λC=>absurd hb<|not_lt.mpr<|z b C);have n:∀j t x y,A[j]? =#[t]->xs[j]? =#[x]->ys[j]? =#[y]->(t,HO.tup [x,y])∈N:=λj t x y a b c=>by refine af _<|ag (i:=j) ?_;rw[fz];refine⟨a,?_⟩;erw[os,ay,c6];exact⟨(x,y),fz.mpr ⟨b,c⟩,rfl⟩
   refine⟨.ref J.objs.size,putAll T N,U.lays hk3 sm lo λb o hb e=>?_,rfl,q _ A _ sm (wM nd<|ae ..) htx λj t x y a b c=>wM nd<|n j t x y a b c⟩;by_cases C:b∈J.objs.size::A
   .rcases bq.mp C with g|g
    .rw[g,wM nd<|ae ..] at e;k_go;rw[g];refine⟨by rw[ac];lk,A.map Value.ref,c,Ny A,hL⟩
    .let(j,ej):=dq g;let(u,v,eu,ev,hp):=E.it j b ej;let(x,ex,rx):=rv.at ‹eu›;let(y,ey,ry):=f.at ‹ev›;rw[wM nd<|n j b x y ej ex ey] at e;k_go;exact⟨by show 2<=sizeLine;decide,[u,v],.cons rx<|.cons ry .nil,⟨_,hp,rfl,_,rfl⟩⟩
   .rw[zO (by rw[w];calc C),U.hok.fresh hb] at e;k_go
open PySem.W PySem.Calls
def K8 (d:Addr):Obj:={cls:=.type "dict_values",data:=.fields [.ref d].toArray}
def qp (z d:Addr):HO:=HO.ext λh=>h z=#[K8 d]
section
inductive Jy:V->¬V->Hp->VK->Prop
 |mk dI:H d=#[.dK dI]->(∀z,H z=none->Q (.ref z) (upd H z<|qp z d))->Jy (.ref d) [] H Q
def alk:uo X "dict.values" Jy:=by intro B s O H x M v J Q I L G q;let(D,C,q):=q;rename_i d;cases L;have A:=G.zero;subst A;let(z,hS,E,rel,N):=m8 I.hok C;refine ie mI N.typeIs PySem.F.entry_dict_values (PySem.F.args_dict_values_1 _) (meets_dict_values (strKind X.prog X.w) _ hS) ⟨⟨E,N⟩,?_⟩;have e:(s.heap.push<|K8 d) (~~~s)=#[K8 d]:=bc _ rfl;calc⟨.ref _,_,I.laid (o:=qp (~~~s) d) (λ_ _ q=>ar _ q) (av _) ⟨e,⟨_,e⟩,λh1 h2 a b=>b _ a⟩,rfl,q _ I.fresh⟩
def Jz (I:PE X o A)(C:(attributeBase o "values" X.env (eval o X.env)=eval o X.env)∣0)(D:((B.endLine==G.line)=true)∣0):PE X (.Call (.Attribute o "values" B) [] [] G) (qK X.K "dict" Jy A):=Ay du mI PySem.F.type_dict_values alk I C D
inductive aa6 (xs:¬V)(H:Hp)(Q:VK):Prop
 |mk:∀z a dI,xs=[.ref z]->H z=#[qp z a]->H a=#[.dK dI]->(∀l,H l=none->Q (.ref l) (upd H l<|.lst<|dI.map λkv=>kv.2))->aa6 xs H Q
def aa7:cU X (.type "list") aa6:=by
 intro O s w H n C Q I r h;let(z,a,E,rfl,M,U,q):=h;let(u,rfl,p):=vals1 r;cases p;let(g,hS,f,rel,T):=m8 I.hok U;let(t,G):=T.dictAt;have N:=!rel;have J:=(I.hok z _ M).1;refine kdl_call (PySem.W.kdl_values) I.ok.hd ⟨⟨_,J,rfl,rfl⟩,G⟩ ∅ λb d B c Y hD A=>?_;have M:Vals (E.map λD=>D.2) B.toList:=by
  have L:∀{l:¬(Key×V)}{r:¬(Key×Value)} {C:¬Value},KV l r->(!C)=!r->(∀j v,C[j]? =#[v]->∃k,r[j]? =#[(k,v)])->Vals (l.map λD=>D.2) C:=λ{l r C} h=>by
   induction h generalizing C with
   |nil=>intro N _;cases C with
    |nil=>calc .nil
    |cons _ _=>cases N
   | @cons x y l r h _ m=>
    intro N M;cases C with
    |nil=>grind
    |cons u C=>refine .cons ?_ (m ‹N› λj v e=>M (j+1) v e);let(k,e):=M 0 u rfl;grind
  refine L rel (by rw[bS];calc A.1) λj v e=>A.2 j v (by rw[<-oe];calc e)
 calc⟨.ref (~~~s),_,I.laid (o:=.lst<|E.map λD=>D.2) Y (av _) ⟨by rw[ac];calc g,B.toList,c,M,by rw[hD]⟩,rfl,q _<|I.hok.fresh<|av _⟩
end
end L2
namespace Sp
def tot (f:Nat->A->Nat):Nat->¬A->Nat
 |_,[]=>0
 |i,x::D=>f i x+tot f (i+1) D
theorem Ec (f:Nat->A->Nat)(x:A):∀(xs:¬A) (i j:Nat) (y:A),xs[j]? =#[y]->tot f i (xs.set j x)+f (i+j) y=tot f i xs+f (i+j) x
 |[],i,j,y,h=>by simp at h
 |z::xs,i,0,y,h=>by
  have e:z=y:=‹h›
  subst e;erw[kP,tot,p9];lk
 |z::xs,i,j+1,y,h=>by have B:=Ec f x xs (i+1) j y ‹h›;erw[kQ,tot];lk
structure Lb where
 d:Int
 c:Nat
 fr:↑(Nat×Nat)
def near (d:Int)(c:Nat):↑Lb->Bool
 |none=>true
 |some l=>decide (d<l.d)||(decide (d=l.d) && decide (c<l.c))
def jR (l:Lb)(d:Int)(c:Nat):Prop:=l.d<d\/(l.d=d/\l.c<=c)
def Ze (h:near d c o=false):∃l,o=#[l]/\jR l d c:=by
 cases o with
 |none=>simp[near] at h
 |some l=>refine(l,rfl,?_);erw[near,oo,m4,Bool.and_eq_false_iff] at h;delta jR;lk
structure RS where
 bx:¬(↑Lb)
 wait:¬Bool
 queue:¬Nat
 place:Nat
abbrev Mv:=Nat×Nat×Int
def relax (left:Nat->Int)(u:Nat)(d:Int)(c:Nat)(s:RS)(m:Mv):RS:=
  if 0<left m.1/\near (d+m.2.2) c (s.bx[m.2.1]?.getD none)=true then
    {s with bx:=s.bx.set m.2.1 #[(d+m.2.2,c,#[(m.1,u)])],
            wait:=if s.wait[m.2.1]?.getD false=true then s.wait else s.wait.set m.2.1 true,
            queue:=if s.wait[m.2.1]?.getD false=true then s.queue else s.queue++[m.2.1]}
  else s
def RS.room (s:RS):Nat:=s.queue[s.place]?.getD 0
def RS.at (s:RS):Lb:=((s.bx[s.room]?.getD none).getD (0,0,none))
def oK (left:Nat->Int)(A:Nat->¬Mv)(s:RS):RS:=
 (A s.room).foldl (relax left s.room s.at.d<|s.at.c+1) {s with place:=s.place+1,wait:=s.wait.set s.room false}
def RS.done (s:RS):Prop:=(!s.queue)<=s.place
inductive Ends (left:Nat->Int)(out:Nat->¬Mv):Nat->RS->RS->Prop
 |stop {s}:s.done->Ends left out 0 s s
 |go {m s t}:Not (s.done)->Ends left out m (oK left out s) t->Ends left out (m+1) s t
structure cH (n:Nat)(left:Nat->Int)(out:Nat->¬Mv)(π:Nat->Int):Prop where
 room:∀u m,m∈out u->m.2.1<n
 ne:∀u m,m∈out u->m.2.1≠u
 pay:∀u m,u<n->m∈out u->0<left m.1->π m.2.1<=π u+m.2.2
variable {st:Nat}
structure qt (n:Nat)(left:Nat->Int)(out:Nat->¬Mv)(π:Nat->Int)(st:Nat)(s:RS):Prop where
 pl:s.place<=!s.queue
 ll:(!s.bx)=n
 wl:(!s.wait)=n
 ql:∀v∈s.queue,v<n
 st0:s.bx[st]? =#[#[(0,0,none)]]
 lo:∀v l,s.bx[v]? =#[#[l]]->π v - π st<=l.d
 fr:∀v l,s.bx[v]? =#[#[l]]->v≠st->∃mv u x lu,l.fr=#[(mv,u)]/\u<n/\(mv,v,x)∈out u/\0<left mv/\s.bx[u]? =#[#[lu]]/\jR (lu.d+x,lu.c+1,none) l.d l.c
 wq:∀v,s.wait[v]? =#[true]->v∈s.queue.drop s.place
 lq:∀v∈s.queue,∃l,s.bx[v]? =#[#[l]]
def afu (left:Nat->Int)(s:RS)(l:Lb)(B:¬Mv):Prop:=
 ∀m∈B,0<left m.1->∃A,s.bx[m.2.1]? =#[#[A]]/\jR A (l.d+m.2.2) (l.c+1)
structure oY (n:Nat)(left:Nat->Int)(out:Nat->¬Mv)(π:Nat->Int)(st:Nat)(s:RS):Prop extends qt n left out π st s where
 rel:∀u l,s.bx[u]? =#[#[l]]->Not (u∈s.queue.drop s.place)->afu left s l (out u)
def un (o:↑Lb):Nat:=if o.isNone then 1 else 0
def far (A:Nat->Int)(st v:Nat)(o:↑Lb):Nat:=match o with
 |none=>0
 |some l=>(l.d - (A v - A st)).toNat
def cnt (o:↑Lb):Nat:=match o with
 |none=>0
 |some l=>l.c
def mu (A:Nat->Int)(st:Nat)(s:RS):Nat×Nat×Nat:=(tot (λ_ o=>un o) 0 s.bx,tot (far A st) 0 s.bx,2*tot (λ_ o=>cnt o) 0 s.bx+((!s.queue) - s.place))
def L3 (a b:Nat×Nat×Nat):Prop:=a.1<b.1\/(a.1=b.1/\(a.2.1<b.2.1\/(a.2.1=b.2.1/\a.2.2<b.2.2)))
def L3.trans (h:L3 a b)(g:L3 b c):L3 a c:=by delta L3 at*;lk
def L3.wf:WellFounded L3:=by
 constructor;intro(a,b,c);induction a using Nat.strongRecOn generalizing b c with
 |ind a A=>
  induction b using Nat.strongRecOn generalizing c with
  |ind b B=>
   induction c using Nat.strongRecOn with
   |ind c C=>constructor;rintro⟨E,N,D⟩ h;erw[L3] at h;grind
def jR.trans (h:jR a b.d b.c)(g:jR b d c):jR a d c:=by delta jR at*;lk
def jR.refl (a:Lb):jR a a.d a.c:=by delta jR;lk
def lW {xs:¬A}(h:(xs.set i x)[j]? =#[y]):(j=i/\y=x/\i<!xs)\/(j≠i/\xs[j]? =#[y]):=by
 by_cases e:j=i
 .subst e;have N:=(ah.mp h).1;rw[cc] at N;rw[bo N] at h;exact .inl (rfl,(bv h).symm,N)
 .rw[bP<|ci e] at h;calc .inr ⟨e,h⟩
structure nZ (n:Nat)(left:Nat->Int)(out:Nat->¬Mv)(π:Nat->Int)(st:Nat)(s t:RS):Prop where
 ok:qt n left out π st t
 pl:t.place=s.place
 low:∀(v:Nat) (l:Lb),s.bx[v]? =#[#[l]]->∃l':Lb,t.bx[v]? =#[#[l']]/\jR l' l.d l.c
 same:∀v:Nat,v∈t.queue.drop t.place\/t.bx[v]? =s.bx[v]?
 sub:∀v,v∈s.queue.drop s.place->v∈t.queue.drop t.place
 ms:mu π st t=mu π st s\/L3 (mu π st t) (mu π st s)
theorem nZ.refl (h:qt n left A B st s):nZ n left A B st s s:=(h,rfl,λv l e=>(l,e,jR.refl l),λ_=>.inr rfl,λ_ h=>h,.inl rfl)
theorem nZ.trans (a:nZ n left A B st s t)(b:nZ n left A B st t r):nZ n left A B st s r:=by
 refine(b.ok,b.pl.trans a.pl,λv l e=>?_,λv=>?_,λv h=>b.sub v<|a.sub v h,?_)
 .let(D,C,J):=a.low v l e;let(H,G,k):=b.low v D C;exact(H,G,k.trans J)
 .rcases b.same v with h|h
  .exact .inl h
  .rcases a.same v with g|g
   .exact .inl<|b.sub v g
   .exact .inr<|h.trans g
 .rcases a.ms with h|h
  .rw[<-h];exact b.ms
  .rcases b.ms with g|g
   .rw[g];exact .inr h
   .calc .inr<|g.trans h
def zP {u:Nat}(F:cH n left N G)(I:qt n left N G st s)(hu:u<n)(hl:s.bx[u]? =#[#[lu]])(p:m∈N u):
  nZ n left N G st s (relax left u lu.d (lu.c+1) s m)/\(relax left u lu.d (lu.c+1) s m).bx[u]? =#[#[lu]]/\
   (0<left m.1->∃lv,(relax left u lu.d (lu.c+1) s m).bx[m.2.1]? =#[#[lv]]/\jR lv (lu.d+m.2.2) (lu.c+1)):=by
 let(H,v,x):=m;have hvn:=F.room u _ p;have Y:=F.ne u _ p;have Q:v<!s.bx:=by rwa [I.ll]
 obtain⟨O,E⟩:∃o,s.bx[v]? =#[o]:=⟨_,ai Q⟩;obtain⟨y,j⟩:∃o,s.wait[v]? =#[o]:=⟨_,ai<|by rwa [I.wl]⟩;delta relax;erw[E,j,m3];by_cases g:0<left H/\near (lu.d+x) (lu.c+1) O=true
 .rw[ap g];let(L,D):=g;have arV:=F.pay u (H,v,x) hu p L;have hlo:=I.lo u lu hl;have U:v≠st:=by intro e;subst e;rw[I.st0] at E;have J:=(bv E).symm;subst J;erw[near,gX,ca,bj] at D;lk
  have b:∀z,z∈s.queue.drop s.place->z∈(if y=true then s.queue else s.queue++[v]).drop s.place:=λz C=>by
   split
   .exact C
   .rw[li I.pl];exact c5 _ C
  have T:v∈(if y=true then s.queue else s.queue++[v]).drop s.place:=by
   by_cases c:y=true
   .rw[ap c];exact I.wq v<|by rw[j,c]
   .rw[aw c,li I.pl];exact b6 _<|by simp
  have M:(s.bx.set v<|#[(lu.d+x,lu.c+1,#[(H,u)])])[v]? =#[#[(lu.d+x,lu.c+1,#[(H,u)])]]:=bo Q;have B:∀z:Nat,z≠v->(s.bx.set v<|#[(lu.d+x,lu.c+1,#[(H,u)])])[z]? =s.bx[z]?:=λz C=>bP<|ci C;have low:∀z (l:Lb),s.bx[z]? =#[#[l]]->∃r,(s.bx.set v<|#[(lu.d+x,lu.c+1,#[(H,u)])])[z]? =#[#[r]]/\jR r l.d l.c:=λz l e=>by
   by_cases C:z=v
   .subst C;rw[E] at e;have J:=bv e;subst J;refine(_,M,?_);erw[near,gX,ca,bj] at D;delta jR;lk
   .exact(l,by rwa [B z C],jR.refl l)
  refine(((?_,?_,?_,?_,?_,?_,?_,?_,?_),rfl,low,λz=>?_,b,?_),?_,λ_=>(_,M,?_))
  .split
   .exact I.pl
   .rw[aE];exact cb I.pl<|f7 _ _
  .rw[cc];exact I.ll
  .split
   .exact I.wl
   .rw[cc];exact I.wl
  .intro z C;have A:=C;split at A
   .exact I.ql z A
   .rcases bd.mp A with h|h
    .exact I.ql z h
    .rwa [aI.mp h]
  .rw[B st<|ci U];exact I.st0
  .intro z l e;rcases lW (e) with⟨rfl,J,_⟩|⟨C,J⟩
   .cases J;lk
   .exact I.lo z l J
  .intro z l e d;rcases lW (e) with⟨rfl,J,_⟩|⟨C,J⟩
   .cases J;exact(H,u,x,lu,rfl,hu,p,L,by show(s.bx.set z _)[u]? =_;rwa [B u<|ci Y],by delta jR;k_ne;lk)
   .let(w,u',x',f,h1,h2,h3,h4,h5,h6):=I.fr z l J d;let(l2,g1,g2):=low u' f h5;refine(w,u',x',l2,h1,h2,h3,h4,g1,?_);delta jR at*
    lk
  .intro z C;have A:=C;split at A
   .exact b z<|I.wq z A
   .rcases lW A with⟨rfl,_,_⟩|⟨_,J⟩
    .exact T
    .exact b z<|I.wq z J
  .intro z C;have A:=C;have k:∀z:Nat,z∈s.queue->∃l,(s.bx.set v<|#[(lu.d+x,lu.c+1,#[(H,u)])])[z]? =#[#[l]]:=λz C=>by let(l,e):=I.lq z C;let(r,e',_):=low z l e;exact⟨r,e'⟩
   split at A
   .exact k z A
   .rcases bd.mp A with h|h
    .exact k z h
    .rw[aI.mp h];exact⟨_,M⟩
  .by_cases C:z=v
   .rw[C];exact .inl T
   .exact .inr<|B z C
  .
   have t:=Ec (λ_ o=>un o) #[(lu.d+x,lu.c+1,#[(H,u)])] s.bx 0 v O E;have a:=Ec (far G st) #[(lu.d+x,lu.c+1,#[(H,u)])] s.bx 0 v O E;have i:=Ec (λ_ o=>cnt o) #[(lu.d+x,lu.c+1,#[(H,u)])] s.bx 0 v O E;have lq:(!(if y=true then s.queue else s.queue++[v]))<=(!s.queue)+1:=by
    split
    .exact kx _
    .rw[aE];exact av _
   right;erw[mu,L3];erw[kn] at t a i;have z1:un #[(lu.d+x,lu.c+1,#[(H,u)])]=0:=rfl;have z3:cnt #[(lu.d+x,lu.c+1,#[(H,u)])]=lu.c+1:=rfl;have z2:far G st v #[(lu.d+x,lu.c+1,#[(H,u)])]=(lu.d+x - (G v - G st)).toNat:=rfl;rw[z1] at t;rw[z2] at a;rw[z3] at i;cases O with
   |none=>left;have y1:un none=1:=rfl;rw[y1] at t;lk
   |some l=>
    have l0:=I.lo v l E;erw[near,gX,ca,bj] at D;right;have y1:un #[l]=0:=rfl;have y2:far G st v #[l]=(l.d - (G v - G st)).toNat:=rfl;have y3:cnt #[l]=l.c:=rfl;rw[y1] at t;rw[y2] at a;rw[y3] at i;refine⟨by lk,?_⟩;rcases D with h|⟨h,h'⟩
    .left;have e1:(lu.d+x - (G v - G st)).toNat<(l.d - (G v - G st)).toNat:=by lk
     lk
    .right;have e1:(lu.d+x - (G v - G st)).toNat=(l.d - (G v - G st)).toNat:=by rw[h]
     refine⟨by lk,?_⟩;have:=I.pl;lk
  .rwa [B u<|ci Y]
  .delta jR;k_ne;lk
 .rw[aw g];refine⟨nZ.refl I,hl,λh=>?_⟩;have hn:near (lu.d+x) (lu.c+1) O=false:=by
   cases e:near (lu.d+x) (lu.c+1) O with
   |false=>rfl
   |true=>exact absurd ⟨h,e⟩ g
  let(l,e,q):=Ze hn;subst e;calc⟨l,E,q⟩
theorem S9 (F:cH n left A G)(f:u<n):∀(B:¬Mv) (s:RS),qt n left A G st s->s.bx[u]? =#[#[lu]]->(∀m∈B,m∈A u)->
  nZ n left A G st s (B.foldl (relax left u lu.d<|lu.c+1) s)/\(B.foldl (relax left u lu.d<|lu.c+1) s).bx[u]? =#[#[lu]]/\afu left (B.foldl (relax left u lu.d<|lu.c+1) s) lu B
 |[],s,I,N,_=>(nZ.refl I,N,λ_ h=>nomatch h)
 |m::B,s,I,N,D=>by
  let(C,H,Y):=zP F I f N<|D m ae;let(b1,b2,J):=S9 (lu:=lu) F f B _ C.ok H λU g=>D U<|af _ g;refine(C.trans b1,b2,λU g E=>?_);rcases bq.mp g with rfl|g
  .let(O,e,q):=Y E;let(M,L,k):=b1.low _ O e;exact(M,L,k.trans q)
  .calc J U g E
def drop_cons {xs:¬A}(h:xs[i]? =#[x]):xs.drop i=x::xs.drop (i+1):=by let(N,e):=ah.mp h;rw[eK N,e]
def Tc {s:RS}(F:cH n left A C)(I:oY n left A C st s)(g:Not (s.done)):oY n left A C st (oK left A s)/\L3 (mu C st<|oK left A s) (mu C st s):=by
 have D:s.place<!s.queue:=by delta RS.done at g;lk
 have O:s.queue[s.place]? =#[s.room]:=by delta RS.room;rw[ai D];rfl
 have B:=ag O;let(H,N):=I.lq _ B;have G:s.at=H:=by delta RS.at;rw[N];rfl
 have L:=drop_cons O;have Q:qt n left A C st {s with place:=s.place+1,wait:=s.wait.set s.room false}:=by
  refine(D,I.ll,by show (!(s.wait.set s.room false))=n;rw[cc];calc I.wl,I.ql,I.st0,I.lo,I.fr,λv M=>?_,I.lq);rcases lW (M) with⟨_,e,_⟩|⟨r,e⟩
  .k_go
  .have:=I.wq v e;rw[L] at this;rcases bq.mp this with z|z
   .exact absurd z r
   .exact z
 have U:oK left A s=(A s.room).foldl (relax left s.room H.d<|H.c+1) {s with place:=s.place+1,wait:=s.wait.set s.room false}:=by delta oK;rw[G]
 let(b1,b2,J):=S9 F (I.ql _ B) (A s.room) _ Q N λm h=>h;rw[<-U] at b1 b2 J;refine⟨{b1.ok with rel:=λv l e M=>?_},?_⟩
 .by_cases E:v=s.room
  .subst E;rw[b2] at e;k_go;exact J
  .have Y:(oK left A s).bx[v]? =s.bx[v]?:=by
    rcases b1.same v with z|z
    .exact absurd z M
    .exact z
   rw[Y] at e;have T:Not (v∈s.queue.drop s.place):=λz=>by
    rw[L] at z;rcases bq.mp z with z|z
    .exact E z
    .exact M<|b1.sub v z
   intro m p t;let(y,j,q):=I.rel v l e T m p t;let(u,k,c):=b1.low _ y j;exact(u,k,c.trans q)
 .have b:L3 (mu C st {s with place:=s.place+1,wait:=s.wait.set s.room false}) (mu C st s):=by refine .inr ⟨rfl,.inr ⟨rfl,?_⟩⟩;show 2*tot (λ_ o=>cnt o) 0 s.bx+((!s.queue) - (s.place+1))<2*tot (λ_ o=>cnt o) 0 s.bx+((!s.queue) - s.place);lk
  rcases b1.ms with z|z
  .rwa [z]
  .calc z.trans b
def ends (F:cH n left A B)(I:oY n left A B st s):∃m t,Ends left A m s t/\oY n left A B st t/\t.done:=by
 have D:∀a:Nat×Nat×Nat,∀s:RS,mu B st s=a->oY n left A B st s->∃m t,Ends left A m s t/\oY n left A B st t/\t.done:=λa=>by
  refine L3.wf.induction a (C:=λa=>∀s:RS,mu B st s=a->oY n left A B st s->∃m t,Ends left A m s t/\oY n left A B st t/\t.done) λa H s e I=>?_;by_cases G:s.done
  .exact(0,s,.stop G,I,G)
  .let(E,lt):=Tc F I G;let(m,t,h,q):=H _ (e▸lt) _ rfl E;exact(m+1,t,.go G h,q)
 calc D _ s rfl I
def lK (n st:Nat):RS:={bx:=(replicate n none).set st<|#[(0,0,none)],wait:=replicate n false,queue:=[st],place:=0}
def Ck (A:st<n):oY n left D E st (lK n st):=by
 have C:∀v (l:Lb),((replicate n<|none).set st<|#[(0,0,none)])[v]? =#[#[l]]->v=st/\l=(0,0,none):=λv l e=>by
  rcases lW e with⟨rfl,G,_⟩|⟨_,G⟩
  .cases G;exact⟨rfl,rfl⟩
  .rw[gp] at G;split at G<;>simp at G
 have L:((replicate n (none:↑Lb)).set st<|#[(0,0,none)])[st]? =#[#[(0,0,none)]]:=bo ‹A›;refine⟨(cv _,by simp[lK],by simp[lK],λv M=>?_,L,λv l e=>?_,λv l e M=>?_,λv M=>?_,λv M=>?_),λv l e M=>?_⟩
 .have:v=st:=by simpa [lK] using M
  rwa [this]
 .let(rfl,rfl):=C v l e;lk
 .exact absurd (C v l e).1 M
 .have B:(replicate n false)[v]? =#[true]:=M;rw[gp] at B;split at B<;>simp at B
 .have:v=st:=by simpa [lK] using M
  rw[this];exact⟨_,L⟩
 .let(rfl,rfl):=C v l e;calc absurd (show v∈[v].drop 0 by simp) M
structure Tree (n:Nat)(left:Nat->Int)(out:Nat->¬Mv)(π:Nat->Int)(st:Nat)(bx:¬(↑Lb)):Prop where
 ll:(!bx)=n
 st0:bx[st]? =#[#[(0,0,none)]]
 fr:∀(v:Nat) (l:Lb),bx[v]? =#[#[l]]->v≠st->∃(mv u:Nat) (x:Int) (lu:Lb),l.fr=#[(mv,u)]/\u<n/\(mv,v,x)∈out u/\0<left mv/\bx[u]? =#[#[lu]]/\l.d=lu.d+x/\l.c=lu.c+1
 rel:∀(u:Nat) (l:Lb) (m:Mv),bx[u]? =#[#[l]]->m∈out u->0<left m.1->∃lv:Lb,bx[m.2.1]? =#[#[lv]]/\lv.d<=l.d+m.2.2
 lo:∀(v:Nat) (l:Lb),bx[v]? =#[#[l]]->π v - π st<=l.d
def agQ (I:oY n left B Q st s)(N:s.done):Tree n left B Q st s.bx:=by
 have rel:∀u (l:Lb) (m:Mv),s.bx[u]? =#[#[l]]->m∈B u->0<left m.1->∃A,s.bx[m.2.1]? =#[#[A]]/\jR A (l.d+m.2.2) (l.c+1):=λu l m e C D=>I.rel u l e (by rw[(List.drop_of_length_le N)];simp) m C D;refine(I.ll,I.st0,λv l e O=>?_,λu l m e C D=>?_,I.lo)
 .let(L,u,x,H,h1,h2,E,M,k,T):=I.fr v l e O;let(A,G,q):=rel u H (L,v,x) k E M;have J:=G;rw[e] at J;cases J;refine(L,u,x,H,h1,h2,E,M,k,?_);delta jR at*
  lk
 .let(A,G,q):=rel u l m e C D;refine(A,G,?_);delta jR at q;lk
end Sp
namespace Sp
theorem Cm [DecidableEq A]:∀{l m:¬A},l.Nodup->(∀x∈l,x∈m)->(!l)<=!m
 |[],_,_,_=>cv _
 |x::l,m,h,s=>by
  have B:x∈m:=s x ae;have h1:(!l)<=!(m.erase x):=Cm (cS.mp h).2 λy n=>by grind
  grind
def iD {l:¬Nat}(h:l.Nodup)(N:∀x∈l,x<n):(!l)<=n:=by have:=Cm h λx A=>mx.mpr<|N x A;rwa [kG] at this
def Vr {l:¬(Nat×Nat)}(h:l.Nodup)(N:∀x∈l,x.1<n/\x.2<n):(!l)<=n*n:=by
 have h2:(l.map λx=>x.1*n+x.2).Nodup:=by
  rw[List.Nodup,lI];refine mP (λ{a b} G A r e=>r ?_) h;let(B,C):=N a G;let(b1,b2):=N b A;have J:a.1=b.1:=by
   rcases kB a.1 b.1 with z|z|z
   .have:(a.1+1)*n<=b.1*n:=jb n z
    lk
   .exact z
   .have:(b.1+1)*n<=a.1*n:=jb n z
    lk
  grind
 have:=iD (n:=n*n) h2 λx D=>by
  let(a,G,rfl):=bg.mp D;let(B,C):=N a G
  have:(a.1+1)*n<=n*n:=jb n B
  lk
 grind
variable {st:Nat}
def qu (n:Nat)(G:Nat->Int)(B:¬(↑Lb))(v:Nat)(l:Lb):Prop:=
 ∃A:¬Nat,A.Nodup/\(!A)=l.c+1/\∀y∈A,y<n/\∃(D:Int) (C:Nat) (E:Lb),B[y]? =#[#[E]]/\jR E D C/\G v<=G y+(l.d - D)/\C<=l.c
def Paths (n:Nat)(A:Nat->Int)(B:¬(↑Lb)):Prop:=∀v l,B[v]? =#[#[l]]->qu n A B v l
def qu.lt {B:¬(↑Lb)}(h:qu n D B v l):l.c<n:=by let(C,nd,N,h):=h;have:=iD nd λy A=>(h y A).1;lk
def qu.low (A:∀(v:Nat) (l:Lb),C[v]? =#[#[l]]->∃G:Lb,B[v]? =#[#[G]]/\jR G l.d l.c)(h:qu n Q C v l):qu n Q B v l:=by let(E,nd,N,h):=h;refine(E,nd,N,λy L=>?_);let(h1,I,H,O,h2,J,M,k):=h y L;let(D,e,q):=A y O h2;calc(h1,I,H,D,e,q.trans J,M,k)
def qu.more (h:qu n L C u lu)(m:v<n)(O:L v<=L u+x)(D:near (lu.d+x) (lu.c+1) (C[v]?.getD none)=true)
  (A:∀(v:Nat) (l:Lb),C[v]? =#[#[l]]->∃Q:Lb,B[v]? =#[#[Q]]/\jR Q l.d l.c)(G:B[v]? =#[#[(lu.d+x,lu.c+1,U)]]):qu n L B v (lu.d+x,lu.c+1,U):=by
 let(I,nd,j,h):=h;refine(v::I,cS.mpr ⟨λg=>?_,nd⟩,by rw[a8,j],λy E=>?_)
 .let(_,N,M,T,h2,J,Y,k):=h v g;rw[h2] at D;erw[m3,near,gX,ca,bj] at D;delta jR at J;lk
 .rcases bq.mp E with rfl|E
  .refine(m,lu.d+x,lu.c+1,_,G,.inr ⟨rfl,av _⟩,?_,av _);lk
  .let(h1,N,M,T,h2,J,Y,k):=h y E;let(H,e,q):=A y T h2;refine(h1,N,M,H,e,q.trans J,?_,?_)
   .omega
   .omega
structure QP (n:Nat)(p:Nat)(b:Nat)(s:RS)(Nz:¬Nat):Prop where
 len:(!Nz)=!s.queue
 lt:∀x∈Nz,x<n
 nd:(s.queue.zip Nz).Nodup
 old:∀(j:Nat) x,j<s.place->Nz[j]? =#[x]->x<=p
 Td:∀(j:Nat) x,s.place<=j->Nz[j]? =#[x]->p<=x/\x<=p+1
 srt:∀(i j:Nat) x y,s.place<=i->i<=j->Nz[i]? =#[x]->Nz[j]? =#[y]->x<=y
 cnt:∀(j:Nat) x v l,s.place<=j->Nz[j]? =#[x]->s.queue[j]? =#[v]->s.bx[v]? =#[#[l]]->x<=l.c
 wt:∀(j:Nat) v,b<=j->s.queue[j]? =#[v]->s.wait[v]? =#[true]
 one:∀(i j:Nat) v,s.place<=i->s.place<=j->s.queue[i]? =#[v]->s.queue[j]? =#[v]->i=j
def QP.bound {p b:Nat}(h:QP n p b s B)(T:∀v∈s.queue,v<n):(!s.queue)<=n*n:=by have:=Vr h.nd λx A=>⟨T _ (g9 A).1,h.lt _ (g9 A).2⟩;rw[jS,h.len,Nat.min_self] at this;calc this
def jw (h:(xs++[a])[j]? =#[x]):(j<!xs/\xs[j]? =#[x])\/(j=!xs/\x=a):=by
 by_cases Y:j<!xs
 .rw[b9 Y] at h;exact .inl ⟨Y,h⟩
 .rw[cz ∅] at h
  have:j - (!xs)=0:=by
   by_cases z:j - (!xs)=0
   .exact z
   .rw[bm (by simp;lk)] at h;cases h
  rw[this] at h;calc .inr ⟨by lk,by simpa using h.symm⟩
def Te (F:cH n left g c)(I:qt n left g c st s)(Q:QP n p s.place s C)(f:Paths n c s.bx)(hu:u<n)(hl:s.bx[u]? =#[#[lu]])(hm:m∈g u)(hp:p<=lu.c):
  ∃o,QP n p (relax left u lu.d (lu.c+1) s m).place (relax left u lu.d (lu.c+1) s m) o/\Paths n c (relax left u lu.d (lu.c+1) s m).bx:=by
 let(a1,_,_):=zP F I hu hl hm;let(H,v,x):=m;have hvn:=F.room u _ hm;have hvl:v<!s.bx:=by rwa [I.ll]
 have T:v<!s.wait:=by rwa [I.wl]
 by_cases r:0<left H/\near (lu.d+x) (lu.c+1) (s.bx[v]?.getD none)=true
 .have low:=a1.low;have e:relax left u lu.d (lu.c+1) s (H,v,x)={s with bx:=s.bx.set v<|#[(lu.d+x,lu.c+1,#[(H,u)])],wait:=if s.wait[v]?.getD false=true then s.wait else s.wait.set v true,queue:=if s.wait[v]?.getD false=true then s.queue else s.queue++[v]}:=by delta relax;rw[ap r]
  rw[e] at low ⊢;have E:(s.bx.set v<|#[(lu.d+x,lu.c+1,#[(H,u)])])[v]? =#[#[(lu.d+x,lu.c+1,#[(H,u)])]]:=bo hvl;have PN:=(f u lu hl).more hvn (F.pay u _ hu hm r.1) r.2 low E;have N:Paths n c (s.bx.set v<|#[(lu.d+x,lu.c+1,#[(H,u)])]):=λw l ew=>by
   rcases lW ew with⟨rfl,G,_⟩|⟨V9,G⟩
   .cases G;exact PN
   .exact(f w l G).low low
  have cn:=PN.lt;have D:∀j y w l,s.place<=j->C[j]? =#[y]->s.queue[j]? =#[w]->(s.bx.set v<|#[(lu.d+x,lu.c+1,#[(H,u)])])[w]? =#[#[l]]->y<=l.c:=λj y w l Y B G q=>by
   rcases lW q with⟨rfl,d,_⟩|⟨V9,d⟩
   .cases d;have:=(Q.Td j y Y B).2;lk
   .exact Q.cnt j y w l Y B G d
  by_cases t:s.wait[v]?.getD false=true
  .erw[t,dE];exact(C,(Q.len,Q.lt,Q.nd,Q.old,Q.Td,Q.srt,D,Q.wt,Q.one),N)
  .erw[t];have A:∀j,s.place<=j->s.queue[j]? ≠#[v]:=λj Y G=>by have:=Q.wt j v Y G;rw[this] at t;exact t rfl
   refine(C++[p+1],(?_,?_,?_,?_,?_,?_,?_,?_,?_),N)
   .show (!(C++[p+1]))=!(s.queue++[v]);rw[aE,aE,Q.len];rfl
   .intro y k;rcases bd.mp k with k|k
    .exact Q.lt y k
    .have:y=p+1:=‹k›
     lk
   .show((s.queue++[v]).zip<|C++[p+1]).Nodup;rw[List.zip_append Q.len.symm,dQ];refine(Q.nd,by simp,λa ha b hb h=>?_);have hb':b=(v,p+1):=‹hb›
    subst hb';subst h;let(j,Y):=hE.mp ha;rw[fz] at Y;by_cases hjp:s.place<=j
    .exact A j hjp Y.1
    .have:=Q.old j _ ∅ Y.2;simp at this;lk
   .intro j y Y G;rcases jw G with⟨_,G⟩|⟨G,_⟩
    .exact Q.old j y Y G
    .have h1:=I.pl;have h2:=Q.len;have hj':=Y;lk
   .intro j y Y G;rcases jw G with⟨_,G⟩|⟨_,G⟩
    .exact Q.Td j y Y G
    .omega
   .intro i j y z O hij B G;rcases jw B with⟨h1,B⟩|⟨h1,B⟩
    .rcases jw G with⟨_,G⟩|⟨_,G⟩
     .exact Q.srt i j y z O hij B G
     .have:=(Q.Td i y O B).2;lk
    .rcases jw G with⟨h2,G⟩|⟨_,G⟩
     .omega
     .omega
   .intro j y w l Y B G q;rcases jw B with⟨h1,B⟩|⟨h1,B⟩
    .rcases jw (G) with⟨_,G⟩|⟨h2,_⟩
     .exact D j y w l Y B G q
     .have:=Q.len;lk
    .rcases jw (G) with⟨h2,_⟩|⟨_,G⟩
     .have:=Q.len;lk
     .subst G;have L:=q;rw[E] at L;cases L;lk
   .intro j w Y G;show(s.wait.set v true)[w]? =#[true];rcases jw (G) with⟨_,G⟩|⟨_,G⟩
    .by_cases U:w=v
     .subst U;exact bo T
     .rw[bP<|ci U];exact Q.wt j w Y G
    .subst G;exact bo T
   .intro i j w O Y B G;rcases jw (B) with⟨h1,M⟩|⟨h1,M⟩
    .rcases jw (G) with⟨_,J⟩|⟨_,J⟩
     .exact Q.one i j w O Y M J
     .rw[J] at M;exact absurd M<|A i O
    .rcases jw (G) with⟨_,J⟩|⟨h2,_⟩
     .rw[M] at J;exact absurd J<|A j Y
     .omega
 .have e:relax left u lu.d (lu.c+1) s (H,v,x)=s:=by delta relax;rw[aw r]
  rw[e];calc(C,Q,f)
theorem Tf (F:cH n left C G)(f:u<n)(J:p<=lu.c):∀(A:¬Mv) (s:RS) (B:¬Nat),qt n left C G st s->QP n p s.place s B->Paths n G s.bx->s.bx[u]? =#[#[lu]]->(∀m∈A,m∈C u)->
  ∃o,QP n p (A.foldl (relax left u lu.d<|lu.c+1) s).place (A.foldl (relax left u lu.d<|lu.c+1) s) o/\Paths n G (A.foldl (relax left u lu.d<|lu.c+1) s).bx
 |[],s,B,_,Q,D,_,_=>(B,Q,D)
 |m::A,s,B,I,Q,D,H,E=>by let(M,O,_):=zP F I f H<|E m ae;let(o,L,N):=Te F I Q D f H (E m ae) J;calc Tf F f J A _ o M.ok L N O λU g=>E U<|af _ g
def QI (n:Nat)(A:Nat->Int)(s:RS):Prop:=(∃p B,QP n p (s.place+1) s B)/\Paths n A s.bx
def QP.next (Q:QP n p (s.place+1) s C)(I:oY n left M O st s)(L:s.queue[s.place]? =#[s.room])(A:C[s.place]? =#[T]):QP n T (s.place+1) {s with place:=s.place+1,wait:=s.wait.set s.room false} C:=by
 have E:=Q.Td s.place T (av _) A;refine(Q.len,Q.lt,Q.nd,λj x Y e=>?_,λj x Y e=>?_,λi j x y N D B G=>Q.srt i j x y (by have:s.place+1<=i:=N;lk) D B G,λj x v l Y B G J=>Q.cnt j x v l (by have:s.place+1<=j:=Y;lk) B G J,λj v Y e=>?_,λi j v N Y B G=>Q.one i j v (by have:s.place+1<=i:=N;lk) (by have:=Y;lk) B G)
 .have H:=Y;by_cases z:j=s.place
  .omega
  .have:=Q.old j x ∅ e;lk
 .have H:=Y;refine⟨Q.srt s.place j T x (av _) ∅ A e,?_⟩;have:=(Q.Td j x ∅ e).2;lk
 .have H:=Y;have r:v≠s.room:=λz=>by subst z;have:=Q.one j s.place s.room ∅ (av _) e L;lk
  rw[bP<|ci r];calc Q.wt j v H e
def agR (F:cH n left A L)(I:oY n left A L st s)(g:QI n L s)(l:Not (s.done)):QI n L (oK left A s):=by
 let((p,G,Q),k):=g;have D:s.place<!s.queue:=by delta RS.done at l;lk
 have T:s.queue[s.place]? =#[s.room]:=by delta RS.room;rw[ai D];rfl
 have C:=ag T;let(H,O):=I.lq _ C;have M:s.at=H:=by delta RS.at;rw[O];rfl
 have U:qt n left A L st {s with place:=s.place+1,wait:=s.wait.set s.room false}:=by
  refine(D,I.ll,by show (!(s.wait.set s.room false))=n;rw[cc];calc I.wl,I.ql,I.st0,I.lo,I.fr,λv q=>?_,I.lq);rcases lW (q) with⟨_,e,_⟩|⟨r,e⟩
  .k_go
  .have:=I.wq v e;rw[(drop_cons T)] at this;rcases bq.mp this with z|z
   .exact absurd z r
   .exact z
 have Y:oK left A s=(A s.room).foldl (relax left s.room H.d<|H.c+1) {s with place:=s.place+1,wait:=s.wait.set s.room false}:=by delta oK;rw[M]
 obtain⟨J,E⟩:∃J,G[s.place]? =#[J]:=⟨_,ai<|by rwa [Q.len]⟩;let(o,B,N):=Tf F (I.ql _ C) (Q.cnt s.place J s.room H (av _) E T O) (A s.room) _ G U (Q.next I T E) k O λm h=>h;rw[<-Y] at B N;calc⟨(J,o,(B.len,B.lt,B.nd,B.old,B.Td,B.srt,B.cnt,λj v t e=>B.wt j v ∅ e,B.one)),N⟩
def adJ (C:st<n):QI n D (lK n st):=by
 have L:((replicate n (none:↑Lb)).set st<|#[(0,0,none)])[st]? =#[#[(0,0,none)]]:=bo ‹C›;have I:∀v (l:Lb),((replicate n<|none).set st<|#[(0,0,none)])[v]? =#[#[l]]->v=st/\l=(0,0,none):=λv l e=>by
  rcases lW e with⟨rfl,G,_⟩|⟨_,G⟩
  .cases G;exact⟨rfl,rfl⟩
  .rw[gp] at G;split at G<;>simp at G
 refine⟨(0,[0],(rfl,λx J=>?_,by simp[lK],λj x Y e=>?_,λj x Y e=>?_,λi j x y _ E B G=>?_,λj x v l _ B G N=>?_,λj v Y e=>?_,λi j v _ _ B G=>?_)),λv l e=>?_⟩
 .have:x=0:=‹J›
  lk
 .exact absurd Y<|re _
 .have:x=0:=by
   cases j with
   |zero=>simpa using e.symm
   |succ j=>simp at e
  lk
 .have:x=0:=by
   cases i with
   |zero=>simpa using B.symm
   |succ i=>simp at B
  lk
 .have:x=0:=by
   cases j with
   |zero=>simpa using B.symm
   |succ j=>simp at B
  lk
 .have H:=Y;have A:([st]:¬Nat)[j]? =#[v]:=e;rw[bm (by simp;lk)] at A;cases A
 .have z:∀{k:Nat},([st])[k]? =#[v]->k=0:=λ{k} e=>by
   cases k with
   |zero=>rfl
   |succ k=>simp at e
  rw[z B,z G]
 .let(rfl,rfl):=I v l e;refine([v],by simp,rfl,λy M=>?_)
  have:y=v:=‹M›
  subst this;calc(C,0,0,_,L,.inr ⟨rfl,av _⟩,by show D y<=D y+(0 - 0);lk,av _)
end Sp
namespace Sp
structure aO where
 a:Nat
 b:Nat
 w:Int
 l:Int
structure aW (n:Nat)(ps:¬aO):Prop where
 ra:∀q∈ps,q.a<n
 rb:∀q∈ps,q.b<n
 ne:∀q∈ps,q.a≠q.b
 w1:∀q∈ps,1<=q.w
 l1:∀q∈ps,1<=q.l
def rC:Nat->¬aO->Nat->¬Mv
 |_,[],_=>[]
 |k,q::E,u=>(if q.a=u then [(2*k,q.b,q.l)] else [])++((if q.b=u then [(2*k+1,q.a,-q.l)] else [])++rC (k+1) E u)
def bH (ps:¬aO)(u:Nat):¬Mv:=rC 0 ps u
theorem Fp:∀{ps:¬aO}{k:Nat},m∈rC k ps u↔∃i q,ps[i]? =#[q]/\((q.a=u/\m=(2*(k+i),q.b,q.l))\/(q.b=u/\m=(2*(k+i)+1,q.a,-q.l)))
 |[],k=>by simp[rC]
 |q::ps,k=>by
  have A:=@Fp u m ps (k+1);erw[rC,bd];constructor
  .rintro(h|h|h)
   .split at h
    .rename_i e;exact(0,q,rfl,.inl ⟨e,by simpa using h⟩)
    .cases h
   .split at h
    .rename_i e;exact(0,q,rfl,.inr ⟨e,by simpa using h⟩)
    .cases h
   .let(i,L,e,r):=A.mp h;have G:k+1+i=k+(i+1):=by lk
    rw[G] at r;exact(i+1,L,by simpa using e,r)
  .rintro⟨i,L,e,r⟩;cases i with
   |zero=>
    have B:q=L:=‹e›
    subst B;rcases r with⟨h1,h2⟩|⟨h1,h2⟩
    .left;rw[ap h1];simpa using h2
    .right;left;rw[ap h1];simpa using h2
   |succ i=>
    right;right;have G:k+(i+1)=k+1+i:=by lk
    rw[G] at r;calc A.mpr (i,L,by simpa using e,r)
def fO:m∈bH ps u↔∃i q,ps[i]? =#[q]/\((q.a=u/\m=(2*i,q.b,q.l))\/(q.b=u/\m=(2*i+1,q.a,-q.l))):=by delta bH;rw[Fp];simp
abbrev Lf:=Nat->Int
structure Laid (ps:¬aO)(left:Lf):Prop where
 nn:∀i,0<=left i
 sum:∀i q,ps[i]? =#[q]->left (2*i)+left (2*i+1)=q.w
def eO (f:Nat->aO->Int):Nat->¬aO->Int
 |_,[]=>0
 |k,q::E=>f k q+eO f (k+1) E
theorem vH (f g:Nat->aO->Int):∀(ps:¬aO) (k:Nat),eO (λi q=>f i q+g i q) k ps=eO f k ps+eO g k ps
 |[],_=>rfl
 |q::ps,k=>by erw[eO,vH f g ps<|k+1];lk
theorem iK:∀(ps:¬aO) (k:Nat),(∀i q,ps[i]? =#[q]->f (k+i) q=g (k+i) q)->eO f k ps=eO g k ps
 |[],_,_=>rfl
 |q::ps,k,h=>by
  erw[eO];have h2:=iK (f:=f) (g:=g) ps (k+1) λi L e=>by have:=h (i+1) L ‹e›;rwa [show k+(i+1)=k+1+i by lk] at this
  have:=h 0 q rfl;erw[p9] at this;lk
theorem K9:∀(ps:¬aO) (k:Nat),(∀i q,ps[i]? =#[q]->f (k+i) q<=g (k+i) q)->eO f k ps<=eO g k ps
 |[],_,_=>bE _
 |q::ps,k,h=>by
  erw[eO];have h2:=K9 ps (k+1) λi L e=>by have:=h (i+1) L ‹e›;rwa [show k+(i+1)=k+1+i by lk] at this
  have:=h 0 q rfl;lk
theorem pB:∀(ps:¬aO) (k:Nat),eO (λ_ _=>0) k ps=0
 |[],_=>rfl
 |q::ps,k=>by have:=pB ps<|k+1;erw[eO];lk
theorem zQ:∀(ps:¬aO) (k j:Nat) (q:aO),ps[j]? =#[q]->(∀i L,ps[i]? =#[L]->i≠j->f (k+i) L=0)->eO f k ps=f (k+j) q
 |[],_,j,q,h,_=>by simp at h
 |p::ps,k,0,q,h,C=>by
  have e:p=q:=‹h›
  subst e;erw[eO,p9]
  have:eO f (k+1) ps=0:=by rw[iK (g:=λ_ _=>0) ps (k+1) λi L e=>by have:=C (i+1) L ‹e› ∅;rwa [show k+(i+1)=k+1+i by lk] at this];exact pB ps<|k+1
  lk
 |p::ps,k,j+1,q,h,C=>by
  erw[eO];have A:=C 0 p rfl ∅;erw[p9] at A;have:=zQ ps (k+1) j q ‹h› λi L e N=>by have:=C (i+1) L ‹e› ∅;rwa [show k+(i+1)=k+1+i by lk] at this
  lk
def b2 (p:Prop)[Decidable p]:Int:=if p then 1 else 0
def net (ps:¬aO)(left:Lf)(v:Nat):Int:=eO (λi q=>left (2*i+1)*(b2 (q.b=v) - b2 (q.a=v))) 0 ps
def cost (ps:¬aO)(left:Lf):Int:=eO (λi q=>left (2*i+1)*q.l) 0 ps
def fC (m:Nat):Nat:=if m % 2=0 then m+1 else m - 1
def move (p:Int)(left:Lf)(m:Nat):Lf:=λi=>if i=m then left i - p else if i=fC m then left i+p else left i
def jB (ps:¬aO)(m u v:Nat)(x:Int):Prop:=(m,v,x)∈bH ps u
def jB.cases (h:jB ps m u v x):∃i q,ps[i]? =#[q]/\((q.a=u/\q.b=v/\m=2*i/\x=q.l)\/(q.b=u/\q.a=v/\m=2*i+1/\x= -q.l)):=by
 let(i,q,e,h):=fO.mp h;refine(i,q,e,?_);rcases h with⟨h1,h2⟩|⟨h1,h2⟩
 .injection h2 with a b;injection b with b c;exact .inl (h1,b.symm,a,c)
 .injection h2 with a b;injection b with b c;calc .inr (h1,b.symm,a,c)
def j8 (i:Nat):fC (2*i)=2*i+1:=by delta fC;rw[ap ∅]
def rZ (i:Nat):fC (2*i+1)=2*i:=by delta fC;rw[aw ∅];lk
def adK (h:jB ps m u v x):net ps (move p left m) z=net ps left z+p*(b2 (v=z) - b2 (u=z)):=by
 let(i,q,e,h):=h.cases;have B:net ps (move p left m) z - net ps left z=eO (λj q=>(move p left m (2*j+1) - left (2*j+1))*(b2 (q.b=z) - b2 (q.a=z))) 0 ps:=by delta net;have:=vH (λj q=>(move p left m (2*j+1) - left (2*j+1))*(b2 (q.b=z) - b2 (q.a=z))) (λj q=>left (2*j+1)*(b2 (q.b=z) - b2 (q.a=z))) ps 0;rw[iK (g:=λj q=>(move p left m (2*j+1) - left (2*j+1))*(b2 (q.b=z) - b2 (q.a=z))+left (2*j+1)*(b2 (q.b=z) - b2 (q.a=z))) ps 0 λj q _=>by rw[<-iq];congr 1;lk];rw[this];lk
 have C:=zQ (f:=λj q=>(move p left m (2*j+1) - left (2*j+1))*(b2 (q.b=z) - b2 (q.a=z))) ps 0 i q e λj L _ Y=>by
  have:move p left m (2*(0+j)+1)=left (2*(0+j)+1):=by
   delta move;rcases h with⟨_,_,rfl,_⟩|⟨_,_,rfl,_⟩
   .rw[aw ∅,j8,aw ∅]
   .rw[aw ∅,rZ,aw ∅]
  rw[this,Int.sub_self,np]
 rw[C] at B;erw[kn] at B;rcases h with⟨h1,h2,rfl,_⟩|⟨h1,h2,rfl,_⟩
 .have A:move p left (2*i) (2*i+1)=left (2*i+1)+p:=by delta move;rw[aw ∅,j8,ap rfl]
  rw[A,h1,h2] at B;rw[show left (2*i+1)+p - left (2*i+1)=p by lk] at B;lk
 .have A:move p left (2*i+1) (2*i+1)=left (2*i+1) - p:=by delta move;rw[ap rfl]
  rw[A,h1,h2] at B;rw[show left (2*i+1) - p - left (2*i+1)= -p by lk] at B;lk
def aa9 (h:jB ps m u v x):cost ps (move p left m)=cost ps left+p*x:=by
 let(i,q,e,h):=h.cases;have B:cost ps (move p left m) - cost ps left=eO (λj q=>(move p left m (2*j+1) - left (2*j+1))*q.l) 0 ps:=by delta cost;have:=vH (λj q=>(move p left m (2*j+1) - left (2*j+1))*q.l) (λj q=>left (2*j+1)*q.l) ps 0;rw[iK (g:=λj q=>(move p left m (2*j+1) - left (2*j+1))*q.l+left (2*j+1)*q.l) ps 0 λj q _=>by rw[<-iq];congr 1;lk];rw[this];lk
 have C:=zQ (f:=λj q=>(move p left m (2*j+1) - left (2*j+1))*q.l) ps 0 i q e λj L _ Y=>by
  have:move p left m (2*(0+j)+1)=left (2*(0+j)+1):=by
   delta move;rcases h with⟨_,_,rfl,_⟩|⟨_,_,rfl,_⟩
   .rw[aw ∅,j8,aw ∅]
   .rw[aw ∅,rZ,aw ∅]
  rw[this,Int.sub_self,np]
 rw[C] at B;erw[kn] at B;rcases h with⟨h1,h2,rfl,M⟩|⟨h1,h2,rfl,M⟩
 .have A:move p left (2*i) (2*i+1)=left (2*i+1)+p:=by delta move;rw[aw ∅,j8,ap rfl]
  rw[A,show left (2*i+1)+p - left (2*i+1)=p by lk] at B;rw[M];lk
 .have A:move p left (2*i+1) (2*i+1)=left (2*i+1) - p:=by delta move;rw[ap rfl]
  rw[A,show left (2*i+1) - p - left (2*i+1)= -p by lk] at B;rw[M,Int.mul_neg,←Int.neg_mul];lk
def adL (h:jB ps m u v x)(D:∀i q,ps[i]? =#[q]->left (2*i)+left (2*i+1)=q.w):∀i q,ps[i]? =#[q]->move p left m (2*i)+move p left m (2*i+1)=q.w:=by
 intro i q e;have:=D i q e;let(j,_,_,Y):=h.cases;have A:m=2*j\/m=2*j+1:=by rcases Y with⟨_,_,h,_⟩|⟨_,_,h,_⟩;calc .inl h;exact .inr h
 delta move;rcases A with rfl|rfl
 .rw[j8];lk
 .rw[rZ];lk
def eF (B:¬(↑Lb)):Nat->Nat->¬Nat
 |0,_=>[]
 |c+1,v=>match B[v]? with
  |some #[l]=>(match l.fr with
   |some (H,u)=>H::eF B c u
   |none=>[])
  |_=>[]
variable {B:¬(↑Lb)}
def jB.uniq (h:jB ps m u v x)(g:jB ps m o E b):u=o/\v=E/\x=b:=by
 let(i,q,e,h):=h.cases;let(j,L,A,g):=g.cases;have Y:i=j:=by rcases h with⟨_,_,h,_⟩|⟨_,_,h,_⟩<;>rcases g with⟨_,_,g,_⟩|⟨_,_,g,_⟩<;>lk
 subst Y;rw[e] at A;cases A;rcases h with⟨h1,h2,D,M⟩|⟨h1,h2,D,M⟩<;>rcases g with⟨C,J,l,N⟩|⟨C,J,l,N⟩
 .exact(h1.symm.trans C,h2.symm.trans J,M.trans N.symm)
 .omega
 .omega
 .calc(h1.symm.trans C,h2.symm.trans J,M.trans N.symm)
def jB.back (h:jB ps m u v x):jB ps (fC m) v u (-x):=by
 let(i,q,e,h):=h.cases;refine fO.mpr (i,q,e,?_);rcases h with⟨h1,h2,rfl,rfl⟩|⟨h1,h2,rfl,rfl⟩
 .rw[j8];exact .inr ⟨h2,by rw[h1]⟩
 .rw[rZ];calc .inl ⟨h2,by rw[h1,Int.neg_neg]⟩
def Gu (T:Tree n left (bH ps) D st B)(h:B[v]? =#[#[l]])(A:v≠st):
  ∃(mv u:Nat) (x:Int) (lu:Lb),l.fr=#[(mv,u)]/\u<n/\jB ps mv u v x/\0<left mv/\B[u]? =#[#[lu]]/\l.d=lu.d+x/\l.c=lu.c+1/\eF B l.c v=mv::eF B lu.c u:=by
 let(mv,u,x,lu,h1,h2,J,M,k,C,N):=T.fr v l h A;refine(mv,u,x,lu,h1,h2,J,M,k,C,N,?_);rw[N];erw[eF,h,h1]
def rD (T:Tree n left (bH ps) Q st B){P:Nat->Lb->¬Nat->Prop}(L:P st (0,0,none) [])
  (H:∀(v:Nat) (l:Lb) (mv u:Nat) (x:Int) (lu:Lb) (C:¬Nat),B[v]? =#[#[l]]->v≠st->l.fr=#[(mv,u)]->jB ps mv u v x->0<left mv->B[u]? =#[#[lu]]->l.d=lu.d+x->l.c=lu.c+1->C=eF B lu.c u->P u lu C->P v l (mv::C)):
  ∀(v:Nat) (l:Lb),B[v]? =#[#[l]]->P v l (eF B l.c v):=by
 have A:∀c v (l:Lb),l.c=c->B[v]? =#[#[l]]->P v l (eF B l.c v):=λc=>by
  induction c with
  |zero=>
   intro v l G h;by_cases M:v=st
   .subst M;rw[T.st0] at h;cases h;exact L
   .let(mv,u,x,lu,_,_,_,_,_,_,N,_):=Gu T h M;lk
  |succ c I=>
   intro v l G h;by_cases M:v=st
   .subst M;rw[T.st0] at h;cases h;exact L
   .let(mv,u,x,lu,h1,h2,J,D,k,E,N,O):=Gu T h M;rw[O];exact H v l mv u x lu _ h M h1 J D k E N rfl<|I u lu ∅ k
 calc λv l h=>A l.c v l rfl h
def fP (p:Int)(left:Lf)(A:¬Nat):Lf:=A.foldl (move p) left
def agS (T:Tree n left (bH ps) G st B)(h:B[v]? =#[#[l]]):∀L:Lf,net ps (fP p L<|eF B l.c v) z=net ps L z+p*(b2 (v=z) - b2 (st=z)):=by
 refine rD T (P:=λv _ A=>∀L:Lf,net ps (fP p L A) z=net ps L z+p*(b2 (v=z) - b2 (st=z))) (λL=>?_) (λv l H u x E A _ _ _ C _ _ _ _ _ D L=>?_) v l h
 .show net ps L z=_;simp
 .show net ps (fP p (move p L H) A) z=_;rw[D,adK C,ov,←i9];grind
def adM (T:Tree n left (bH ps) I st B)(h:B[v]? =#[#[l]]):∀L:Lf,cost ps (fP p L<|eF B l.c v)=cost ps L+p*l.d:=by
 refine rD T (P:=λ_ l A=>∀L:Lf,cost ps (fP p L A)=cost ps L+p*l.d) (λL=>?_) (λv l H u x E A _ _ _ C _ _ G _ _ D L=>?_) v l h
 .show cost ps L=_;simp
 .show cost ps (fP p (move p L H) A)=_;rw[D,aa9 C,ov,←i9,G];grind
def agT (T:Tree n left (bH ps) I st B)(h:B[v]? =#[#[l]]):∀L:Lf,(∀i q,ps[i]? =#[q]->L (2*i)+L (2*i+1)=q.w)->∀i q,ps[i]? =#[q]->fP p L (eF B l.c v) (2*i)+fP p L (eF B l.c v) (2*i+1)=q.w:=by refine rD T (P:=λ_ _ A=>∀L:Lf,(∀i q,ps[i]? =#[q]->L (2*i)+L (2*i+1)=q.w)->∀i q,ps[i]? =#[q]->fP p L A (2*i)+fP p L A (2*i+1)=q.w) (λL D=>D) (λv l G u x H A _ _ _ C _ _ _ _ _ E L D=>?_) v l h;calc E _<|adL C D
def Ed (T:Tree n left (bH ps) U st B)(h:B[v]? =#[#[l]]):∀m∈eF B l.c v,∃(u w:Nat) (x:Int) (lu A:Lb),jB ps m u w x/\0<left m/\B[u]? =#[#[lu]]/\B[w]? =#[#[A]]/\A.d=lu.d+x/\1<=A.c/\A.c<=l.c:=by
 refine rD T (P:=λ_ l E=>∀m∈E,∃(u w:Nat) (x:Int) (lu A:Lb),jB ps m u w x/\0<left m/\B[u]? =#[#[lu]]/\B[w]? =#[#[A]]/\A.d=lu.d+x/\1<=A.c/\A.c<=l.c) (λ_ C=>nomatch C) (λv l Q u x lu E M _ _ G I J H O _ L m C=>?_) v l h;rcases bq.mp C with rfl|C
 .exact(u,v,x,lu,l,G,I,J,M,H,by lk,av _)
 .let(o,w,N,D,A,a,b,c,d,e,f,g):=L m C;calc(o,w,N,D,A,a,b,c,d,e,f,by lk)
def Cq (T:Tree n left (bH ps) L st B)(h:B[v]? =#[#[l]]):(eF B l.c v).Nodup:=by refine rD T (P:=λ_ _ A=>A.Nodup) mr (λv l H u x I A M _ _ C _ f _ O e E=>?_) v l h;refine cS.mpr ⟨λD=>?_,E⟩;subst e;let(o,w,b,G,J,a,_,_,d,_,_,g):=Ed T f H D;let(_,rfl,_):=C.uniq a;lk
theorem Ws (D:0<=p):∀(A:¬Nat) (L:Lf) (i:Nat),A.Nodup->L i - (if i∈A then p else 0)<=fP p L A i
 |[],L,i,_=>by show L i - (if i∈([]:¬Nat) then p else 0)<=L i;simp
 |m::A,L,i,nd=>by have C:=(cS.mp nd).1;show _<=fP p (move p L m) A i;refine eB ?_<|Ws D A (move p L m) i (cS.mp nd).2;delta move;grind
theorem Ti (D:0<=p):∀(A:¬Nat) (L:Lf) (i:Nat),0<fP p L A i->0<L i\/∃m∈A,i=fC m
 |[],L,i,h=>.inl h
 |m::A,L,i,h=>by
  rcases Ti D A (move p L m) i h with h|⟨U,C,e⟩
  .delta move at h;by_cases e:i=m
   .rw[ap e] at h;left;lk
   .rw[aw e] at h;by_cases G:i=fC m
    .exact .inr (m,ae,G)
    .rw[aw G] at h;exact .inl h
  .calc .inr (U,af _ C,e)
theorem above (f:Nat->↑Int):∀(n:Nat) (K:Int),∃C:Int,K<=C/\∀v y,v<n->f v=#[y]->y<=C
 |0,K=>(K,bE _,λ_ _ h=>absurd h<|re _)
 |n+1,K=>by
  let(C,h1,h2):=above f n K;cases e:f n with
  |none=>exact(C,h1,λv y M A=>by
   by_cases z:v=n
   .omega
   .calc h2 v y ∅ A)
  |some z=>exact(max C z,by lk,λv y M A=>by
   by_cases q:v=n
   .omega
   .have:=h2 v y ∅ A;lk)
def pays (z:aW n ps)(F:cH n left (bH ps) D)(T:Tree n left (bH ps) D st B)(g:∀m,0<L m->0<left m\/∃(r u w:Nat) (x:Int) (lu Q:Lb),m=fC r/\jB ps r u w x/\B[u]? =#[#[lu]]/\B[w]? =#[#[Q]]/\Q.d=lu.d+x)(K:Int):
  ∃A:Nat->Int,cH n L (bH ps) A/\A st=0/\(∀v l,B[v]? =#[#[l]]->A v=l.d)/\∀v,v<n->B[v]? =#[none]->K<=A v:=by
 let(U,d,hC):=above (λv=>match B[v]? with|some #[l]=>#[l.d - D v]|_=>none) n 0;let(C,k,J):=above (λv=>#[K - D v]) n U;refine(λv=>match B[v]? with|some #[l]=>l.d|_=>D v+C,(F.room,F.ne,λu m f E G=>?_),by erw[T.st0],λv l h=>by erw[h],λv M h=>?_)
 .let(N,v,x):=m;have M:=F.room u _ E;have lu:∃o,B[u]? =#[o]:=⟨_,ai<|by rwa [T.ll]⟩;have O:∃o,B[v]? =#[o]:=⟨_,ai<|by rwa [T.ll]⟩;let(p,H):=lu;let(t,I):=O;rcases g N G with G|⟨r,i,w0,x0,s,a,e,h1,h2,j,c⟩
  .have y:=F.pay u (N,v,x) f E G;cases p with
   |some l=>let(O,Y,q):=T.rel u l (N,v,x) H E G;erw[H];erw[Y];calc q
   |none=>
    erw[H];cases t with
    |none=>erw[I];lk
    |some l=>erw[I];have:=hC v (l.d - D v) M (by erw[I]);lk
  .have b:=h1.back;rw[<-e] at b;let(rfl,rfl,rfl):=b.uniq<|E;erw[h2,j];lk
 .erw[h];have:=J v (K - D v) M rfl;lk
end Sp
namespace Sp
variable {bx:¬(↑Lb)}
def Ends.uniq (h:Ends left B m s t)(g:Ends left B U s t'):t=t'/\m=U:=by
 induction h generalizing U with
 |stop h=>
  cases g with
  |stop _=>calc⟨rfl,rfl⟩
  |go A _=>calc absurd h A
 |go h _ C=>
  cases g with
  |stop A=>calc absurd A h
  |go _ b=>let(h1,h2):=C b;calc⟨h1,by rw[h2]⟩
inductive Found (n:Nat)(ps:¬aO)(st:Nat)(left:Lf)(bx:¬(↑Lb)):Prop
 |mk:∀m t,Ends left (bH ps) m (lK n st) t->t.bx=bx->Found n ps st left bx
theorem Found.uniq (h:Found n ps st left bx)(g:Found n ps st left B):bx=B:=by let(_,_,a,rfl):=h;let(_,_,b,rfl):=g;rw[(a.uniq b).1]
def aW.room (z:aW n ps):∀u m,m∈bH ps u->m.2.1<n:=λu m A=>by
 let(i,q,e,h):=fO.mp A;have:=ag e;rcases h with⟨_,rfl⟩|⟨_,rfl⟩
 .exact z.rb q this
 .calc z.ra q this
def aW.Wu (A:aW n ps):∀u m,m∈bH ps u->m.2.1≠u:=λu m B=>by
 let(i,q,e,h):=fO.mp B;have:=A.ne q<|ag e;rcases h with⟨h1,rfl⟩|⟨h1,rfl⟩
 .rw[<-h1];exact λz=>this z.symm
 .rwa [<-h1]
def jC (F:cH n left (bH ps) A)(C:st<n)(h:Found n ps st left bx):Tree n left (bH ps) A st bx:=by let(m,t,h,rfl):=h;let(U,M,g,I,G):=ends F<|Ck C;let(rfl,rfl):=h.uniq g;calc agQ I G
def finds (F:cH n left (bH ps) A)(C:st<n):∃bx,Found n ps st left bx:=by let(U,M,g,I,G):=ends F<|Ck C;calc(_,U,M,g,rfl)
structure Pushed (n:Nat)(ps:¬aO)(st g:Nat)(left:Lf)(len p:Int)(QF:Lf):Prop where
 ex:∃bx l,Found n ps st left bx/\bx[g]? =#[#[l]]/\len=l.d/\(∃m∈eF bx l.c g,p=left m)/\(∀m∈eF bx l.c g,p<=left m)/\QF=fP p left (eF bx l.c g)
structure St (n:Nat)(ps:¬aO)(st:Nat)(left:Lf)(π:Nat->Int):Prop where
 laid:Laid ps left
 fit:cH n left (bH ps) π
 z:π st=0
def agU (T:Tree n left (bH ps) B st bx)(N:bx[g]? =#[#[l]])(D:∃m∈eF bx l.c g,p=left m):0<p:=by let(m,A,rfl):=D;let(_,_,_,_,_,_,h,_):=Ed T N m A;calc h
def mR (I:aW n ps)(S:St n ps st left j)(H:st<n)(P:Pushed n ps st g left len p A):
  0<p/\j g<=len/\(∃C,St n ps st A C/\C g=len)/\(∀z,net ps A z=net ps left z+p*(b2 (g=z) - b2 (st=z)))/\cost ps A=cost ps left+p*len:=by
 let(bx,l,t,N,rfl,Q,D,rfl):=P.ex;have T:=jC S.fit H t;have B:=agU T N Q;have lo:=T.lo g l N;rw[S.z] at lo;let(C,L,y,M,_):=pays I S.fit T (λm O=>by
  rcases Ti (iE B) _ left m O with h|⟨r,G,e⟩
  .exact .inl h
  .let(u,w,x,U,Y,a,_,c,d,J,_,_):=Ed T N r G;calc .inr (r,u,w,x,U,Y,e,a,c,d,J)) 0
 refine(B,by lk,(C,(⟨λi=>?_,agT T N left S.laid.sum⟩,L,y),M g l N),λz=>agS T N left,adM T N left);have h:=Ws (iE B) (eF bx l.c g) left i<|Cq T N;have h2:=S.laid.nn i;by_cases E:i∈eF bx l.c g
 .rw[ap E] at h;have:=D i E;lk
 .rw[aw E] at h;lk
inductive Runs (n:Nat)(ps:¬aO)(st g:Nat)(Wv:↑Int):Lf->¬(Int×Int)->Lf->Prop
 |none {left:Lf} {bx:¬(↑Lb)}:Found n ps st left bx->bx[g]? =#[none]->Runs n ps st g Wv left [] left
 |far {left:Lf} {bx:¬(↑Lb)} {l:Lb} {T:Int}:Found n ps st left bx->bx[g]? =#[#[l]]->Wv=#[T]->T<l.d->Runs n ps st g Wv left [] left
 |go {left QF abb:Lf} {len p:Int} {r:¬(Int×Int)}:Pushed n ps st g left len p QF->(∀T,Wv=#[T]->len<=T)->Runs n ps st g Wv QF r abb->Runs n ps st g Wv left ((len,p)::r) abb
def many (r:¬(Int×Int)):Int:=(r.map (·.2)).sum
def spent (r:¬(Int×Int)):Int:=(r.map λx=>x.2*x.1).sum
def La (J:aW n ps)(D:st<n)(R:Runs n ps st g G left r A)(S:St n ps st left C):
  (∃H,St n ps st A H)/\(∀z,net ps A z=net ps left z+many r*(b2 (g=z) - b2 (st=z)))/\cost ps A=cost ps left+spent r/\(∀x∈r,0<x.2/\C g<=x.1/\∀T,G=#[T]->x.1<=T)/\r.Pairwise (λx y=>x.1<=y.1):=by
 induction R generalizing C with
 |none _ _=>calc(⟨C,S⟩,λz=>by simp[many],by simp[spent],λ_ h=>(nomatch h),.nil)
 |far _ _ _ _=>calc(⟨C,S⟩,λz=>by simp[many],by simp[spent],λ_ h=>(nomatch h),.nil)
 | @go left E A len p r P N R O=>
  let(U,lo,(l,L,I),Q,M):=mR J S D P;let(a,b,c,d,e):=O L;refine(a,λz=>?_,?_,λx B=>?_,List.Pairwise.cons (λx B=>?_) e)
  .rw[b z,Q z,ov,←iq];simp[many]
  .rw[c,M,ov];simp[spent]
  .rcases bq.mp B with rfl|B
   .exact(U,lo,N)
   .let(Y,k,j):=d x B;rw[I] at k;exact(Y,by lk,j)
  .have:=(d x B).2.1;rw[I] at this;calc this
theorem cH.min (D:cH n L A p)(T:cH n L A q):cH n L A λv=>min (p v) (q v):=
 (D.room,D.ne,λu m f B h=>by have:=D.pay u m f B h;have:=T.pay u m f B h;lk)
def cH.shift (k:Int)(D:cH n L A p):cH n L A λv=>p v+k:=
 (D.room,D.ne,λu m f B h=>by have:=D.pay u m f B h;lk)
def Zf (z:aW n ps)(E:st<n)(hg:g<n)(R:Runs n ps st g #[T] left r B)(S:St n ps st left C):
  ∃A,cH n B (bH ps) A/\A st=0/\T+1<=A g/\((r≠[]\/C g<=T)->A g=T+1):=by
 induction R generalizing C with
 | @none left bx t k=>
  have Q:=jC S.fit E t;let(A,J,y,L,M):=pays z S.fit Q (λm G=>.inl G)<|T+1;have O:=M g hg k;by_cases D:C g<=T
  .refine(λv=>min (A v)<|C v+(T+1 - C g),J.min<|S.fit.shift _,?_,?_,λ_=>?_)
   .erw[y,S.z];lk
   .simp only;lk
   .simp only;lk
  .refine(A,J,y,O,λh=>?_);rcases h with h|h
   .exact absurd rfl h
   .calc absurd h D
 | @far left bx l p t N Y j=>
  cases Y;let(A,J,y,L,M):=pays z S.fit (jC S.fit E t) (λm G=>.inl G) 0;have O:=L g l N;by_cases D:C g<=T
  .refine(λv=>min (A v)<|C v+(T+1 - C g),J.min<|S.fit.shift _,?_,?_,λ_=>?_)
   .erw[y,S.z];lk
   .simp only;lk
   .simp only;lk
  .refine(A,J,y,by lk,λh=>?_);rcases h with h|h
   .exact absurd rfl h
   .calc absurd h D
 |go P N R o=>
  let(f,lo,(H,I,U),u,q):=mR z S E P;let(A,a,b,c,d):=o I
  have:H g<=T:=by rw[U];exact N T rfl
  calc(A,a,b,c,λ_=>d<|.inr this)
def adN (R:Runs n ps st g none left r B):∃A,Runs n ps st g #[T] left (r.takeWhile λx=>decide<|x.1<=T) A:=by
 induction R with
 |none t E=>calc⟨_,.none t E⟩
 |far _ _ J _=>lk
 | @go left A B len p r P N R G=>
  by_cases h:len<=T
  .let(H,D):=G;refine⟨H,?_⟩;rw[me<|‹h›];exact .go P (λI e=>by k_go;calc h) D
  .let(bx,l,t,C,e,_):=P.ex;refine⟨left,?_⟩;rw[mh<|‹h›];calc .far t C rfl ∅
def fW (ps:¬aO):Lf:=λi=>if i % 2=0 then(match ps[i/2]? with|some q=>q.w|none=>0) else 0
def Zg (ps:¬aO)(i:Nat)(h:ps[i]? =#[q]):fW ps (2*i)=q.w:=by delta fW;rw[ap ∅,show 2*i/2=i by lk,h]
def tK (ps:¬aO)(i:Nat):fW ps (2*i+1)=0:=by delta fW;rw[aw ∅]
def yJ (z:aW n ps):St n ps st (fW ps) (λv=>if v=st then 0 else 1):=by
 refine(⟨λi=>?_,λi q e=>by rw[Zg ps i e,tK];lk⟩,(z.room,z.Wu,λu m f A D=>?_),by simp)
 .delta fW;split
  .split
   .rename_i q e;have:=z.w1 q<|ag e;lk
   .simp
  .simp
 .let(i,q,e,h):=fO.mp A;have h1:=z.l1 q<|ag e;rcases h with⟨_,rfl⟩|⟨_,rfl⟩
  .omega
  .exfalso;have:=tK ps i;lk
def wide (ps:¬aO):Int:=eO (λ_ q=>q.w) 0 ps
def agV (L:Laid ps left)(z:Nat): - wide ps<=net ps left z/\net ps left z<=wide ps:=by
 have C:∀p [Decidable p],b2 p=0\/b2 p=1:=λp _=>by delta b2;split;calc .inr rfl;exact .inl rfl
 have B:∀i q,ps[i]? =#[q]→-q.w<=left (2*i+1)*(b2 (q.b=z) - b2 (q.a=z))/\left (2*i+1)*(b2 (q.b=z) - b2 (q.a=z))<=q.w:=λi q e=>by have h1:=L.sum i q e;have h2:=L.nn<|2*i;have J:=L.nn<|2*i+1;rcases C (q.b=z) with A|A<;>rcases C (q.a=z) with G|G<;>rw[A,G]<;>lk
 constructor
 .have h:=K9 ps 0 λi q e=>by simpa using(B i q e).1
  have e:eO (λ_ q=>-q.w) 0 ps= - wide ps:=by have:=vH (λ_ q=>-q.w) (λ_ q=>q.w) ps 0;rw[iK (g:=λ_ _=>0) ps 0 λi q _=>by lk,pB] at this;delta wide;lk
  delta net;lk
 .calc K9 ps 0 λi q e=>by simpa using(B i q e).2
def rest (ps:¬aO)(g:Nat)(left:Lf):Nat:=(wide ps - net ps left g).toNat
def abd (z:aW n ps)(S:St n ps st left H)(C:st<n)(r:st≠g)(P:Pushed n ps st g left len p A):rest ps g A<rest ps g left:=by
 let(U,_,(l,B,_),E,_):=mR z S C P;have h1:=E g;have h2:=(agV B.laid g).2;have D:b2 (g=g)=1:=by simp[b2]
 have G:b2 (st=g)=0:=by simp[b2,r]
 rw[D,G] at h1;delta rest;lk
end Sp
namespace Sp
def dY (s:¬(Int×Int))(x:Int×Int):¬(Int×Int):=match s.getLast? with
 |some y=>if y.1=x.1 then s.dropLast++[(x.1,y.2+x.2)] else s++[x]
 |none=>s++[x]
def grouped (r:¬(Int×Int)):¬(Int×Int):=r.foldl dY []
def wsum (I:Int->Int)(r:¬(Int×Int)):Int:=(r.map λx=>x.2*I x.1).sum
def jD (T:Int)(G:¬(Int×Int)):Int:=wsum (λl=>if l<=T then T+1 - l else 0) G
def su (I:Int->Int)(a b:¬(Int×Int)):wsum I (a++b)=wsum I a+wsum I b:=by simp[wsum]
def zR (I:Int->Int)(x:Int×Int):wsum I [x]=x.2*I x.1:=by simp[wsum]
def pF (I:Int->Int)(x:Int×Int)(r:¬(Int×Int)):wsum I (x::r)=x.2*I x.1+wsum I r:=by simp[wsum]
theorem uJ:∀{s:¬A}{y:A},s.getLast? =#[y]->s=s.dropLast++[y]
 |[],_,h=>by simp at h
 |[a],y,h=>by
  have:a=y:=‹h›
  rw[this];rfl
 |a::b::r,y,h=>by show a::b::r=a::((b::r).dropLast++[y]);rw[<-(uJ (s:=b::r) (y:=y)<|‹h›)]
def Vs (I:Int->Int)(s:¬(Int×Int))(x:Int×Int):wsum I (dY s x)=wsum I s+x.2*I x.1:=by
 delta dY;cases e:s.getLast? with
 |none=>simp only;rw[su,zR]
 |some y=>
  simp only;split
  .rename_i h;have J:wsum I s=wsum I s.dropLast+y.2*I y.1:=by rw[<-zR,←su,←(uJ e)]
   rw[su,zR,J,h,iq];lk
  .rw[su,zR]
def Fq (I:Int->Int)(r:¬(Int×Int)):wsum I (grouped r)=wsum I r:=by
 have B:∀r s,wsum I (r.foldl dY s)=wsum I s+wsum I r:=λr=>by
  induction r with
  |nil=>intro s;simp[wsum]
  |cons x r A=>intro s;rw[eQ,A,Vs,pF];lk
 delta grouped;rw[B];simp[wsum]
structure Gv (s:¬(Int×Int)):Prop where
 up:s.Pairwise λx y=>x.1<y.1
 pos:∀x∈s,1<=x.1/\1<=x.2
def Tj (R:Gv s)(I:1<=x.1/\1<=x.2)(N:∀y∈s,y.1<=x.1):Gv (dY s x)/\∀y∈dY s x,y.1<=x.1:=by
 delta dY;cases e:s.getLast? with
 |none=>
  have:s=[]:=‹e›
  subst this;have C:∀y,y∈([])++[x]->y=x:=λy n=>‹n›
  refine⟨⟨by simp,λy n=>?_⟩,λy n=>?_⟩
  .rwa [C y n]
  .rw[C y n];calc bE _
 |some y=>
  have A:=uJ e;have n:y∈s:=by rw[A];simp
  have E:=R.up;rw[A,jp] at E;let(H,_,D):=E;simp only;split
  .rename_i h;refine⟨⟨jp.mpr (H,by simp,λa G b B=>?_),λa G=>?_⟩,λa G=>?_⟩
   .have:b=(x.1,y.2+x.2):=‹B›
    rw[this,←h];exact D a G y<|by simp
   .rcases bd.mp G with G|G
    .exact R.pos a (by rw[A];calc c5 _ G)
    .have:a=(x.1,y.2+x.2):=‹G›
     have:=R.pos y n;subst a;simp only;lk
   .rcases bd.mp G with G|G
    .exact N a (by rw[A];calc c5 _ G)
    .have:a=(x.1,y.2+x.2):=‹G›
     rw[this];exact bE _
  .rename_i h;refine⟨⟨jp.mpr (R.up,by simp,λa G b B=>?_),λa G=>?_⟩,λa G=>?_⟩
   .have:b=x:=‹B›
    rw[this];have h1:=N a G;have h2:=N y n;rw[A] at G;rcases bd.mp G with G|G
    .have:=D a G y 's';lk
    .have:a=y:=‹G›
     rw[this];lk
   .rcases bd.mp G with G|G
    .exact R.pos a G
    .have:a=x:=‹G›
     rwa [this]
   .rcases bd.mp G with G|G
    .exact N a G
    .have:a=x:=‹G›
     rw[this];calc bE _
theorem vI:∀(r s:¬(Int×Int)),r.Pairwise (λx y=>x.1<=y.1)->(∀x∈r,1<=x.1/\1<=x.2)->Gv s->(∀x∈r,∀y∈s,y.1<=x.1)->Gv (r.foldl dY s)
 |[],_,_,_,R,_=>R
 |x::r,s,D,A,R,N=>by let(h1,h2):=Tj R (A x ae)<|N x ae;let(M,m):=iL.mp D;refine vI r _ m (λy n=>A y<|af _ n) h1 λy n z C=>?_;have:=h2 z C;have:=M y n;lk
theorem Tn:∀(r:¬(Int×Int)),r.Pairwise (λx y=>x.1<=y.1)->wsum (λl=>if l<=T then T+1 - l else 0) r=wsum (λl=>T+1 - l) (r.takeWhile λx=>decide<|x.1<=T)
 |[],_=>rfl
 |x::r,D=>by
  let(M,m):=iL.mp D;by_cases h:x.1<=T
  .rw[me<|‹h›,pF,pF,ap h,Tn r m]
  .rw[mh<|‹h›]
   have:∀(r:¬(Int×Int)),(∀y∈r,Not (y.1<=T))->wsum (λl=>if l<=T then T+1 - l else 0) r=0:=λr=>by
    induction r with
    |nil=>intro _;rfl
    |cons y r A=>intro n;rw[pF,aw<|n y ae,A λz C=>n z<|af _ C];lk
   rw[this (x::r) λy n=>by
    grind]
   rfl
end Sp
local macro_rules | `(tactic| walk_at "e3")=>do
 let a<-lsQ "BR qU gn Ql Qm Bu yd HX HY BL Qe Ia Dr Ib Ie BP Qf Ig eZ Ds Dt Du Ih Ii Ij Ik Il Im Io RP YL Qg Dv YM Qh a0 Ip Qi Qj Qk YQ g0 zu Dw wC zx wD zy Dy uE wF zB Qc DN IV Ir Dz Iu Qn Qo pY Iv Iw Qp DG Iz eX rR iB gEx gN gT IK yh Qq yg DK YS Rz dR gM qR qT oH dH pQ Yz YB jr DP Jc Qw Jd Je vN vF vC vB u0 Rq Gh sY mJ bB oN oI Gi Gj Yp oV je gB dW kW Kv uD Py Pz xr zF DQ uF wG lV Gm dM uP zj PB zm Bq m7 iI u6 fj IW Ja Qs Qt Qu Qv Jb PL PX Int.reduceToNat reducePow P0 HN iT length_cons length_nil map_cons map_nil replicate cons_append nil_append append_nil getElem?_cons_zero getElem?_cons_succ set_cons_zero set_cons_succ reduceAdd reduceSub Nat.reduceLeDiff Nat.reduceEqDiff Bool.and_true Bool.true_and Bool.not_true Bool.not_false false_eq_true if_true if_false"
 `(tactic| try simp only[$a,*,↓reduceIte])
set_option hygiene false in
local macro_rules | `(tactic| walk_at "e4")=>do
 let a<-lsQ "BR qU gn Ql Qm Bu yd HX HY BL Qe Ia Dr Ib Ie BP Qf Ig eZ Ds Dt Du Ih Ii Ij Ik Il Im Io RP YL Qg Dv YM Qh a0 Ip Qi Qj Qk YQ g0 zu Dw wC zx wD zy Dy uE wF zB Qc DN IV Ir Dz Iu Qn Qo pY Iv Iw Qp DG Iz eX rR iB gEx gN gT IK yh Qq yg DK YS Rz dR gM qR qT oH dH pQ Yz YB jr DP Jc Qw Jd Je vN vF vC vB u0 Rq Gh sY mJ bB oN oI Gi Gj Yp oV je gB dW kW Kv uD Py Pz xr zF DQ uF wG lV Gm dM uP zj PB zm Bq m7 iI u6 fj IW Ja Qs Qt Qu Qv Jb PL PX Int.reduceToNat reducePow P0 HN iT length_cons length_nil map_cons map_nil replicate cons_append nil_append append_nil getElem?_cons_zero getElem?_cons_succ set_cons_zero set_cons_succ reduceAdd reduceSub Nat.reduceLeDiff Nat.reduceEqDiff Bool.and_true Bool.true_and Bool.not_true Bool.not_false false_eq_true if_true if_false cY jz BK RG decide_eq_true decide_eq_false if_pos if_neg length_map"
 `(tactic| try simp (disch:=first | with_unfolding_all exact rfl | omega | assumption | (refine bw ?_; omega)) only[$a,*,↓reduceIte])
namespace PM
open L2 VM Sp
def toPq (p:aO):Pq:=((p.a:Int),(p.b:Int),p.w,p.l)
def hD (ps:¬aO):():=yt<|ps.map toPq
def cX (v:Nat):():=.int v
def frA:↑(Nat×Nat)->()
 |none=>.none
 |some (m,_)=>.int m
def frB:↑(Nat×Nat)->()
 |none=>.none
 |some (_,u)=>.int u
def iC:↑Lb->()
 |none=>.none
 |some l=>.tuple [.int l.d,.int l.c,frA l.fr,frB l.fr]
def jM (l:Lb):iC #[l]=.tuple [.int l.d,.int l.c,frA l.fr,frB l.fr]:=rfl
def Ft (m:Mv):():=wI m.1 m.2.1 m.2.2
def lf (L:¬Int):Lf:=λi=>L.getD i 0
def agW (ps:¬aO)(u:Nat):∀k,nH k (ps.map toPq) (u:Int)=(rC k ps u).map Ft:=by
 induction ps with
 |nil=>intro k;rfl
 |cons q r A=>
  intro k;rw[aT,nH,rC,b7,b7,A<|k+1];have J:((toPq q).1=(u))↔(q.a=u):=by show((q.a)=(u:Int))↔_;lk
  have t:((toPq q).2.1=(u))↔(q.b=u):=by show((q.b)=(u:Int))↔_;lk
  congr 1
  .by_cases h:q.a=u
   .rw[ap<|J.mpr h,ap h];rfl
   .grind
  .congr 1;by_cases h:q.b=u
   .rw[ap<|t.mpr h,ap h];rfl
   .grind
def Tp (ps:¬aO)(h:u<n):dh (ps.map toPq) n=.list ((List.range n).map λ(u:Nat)=>.list<|(bH ps u).map Ft)/\cP ((List.range n).map λ(u:Nat)=>PyData.list<|(bH ps u).map Ft) (u:Int)=#[.list<|(bH ps u).map Ft]:=by
 constructor
 .delta dh;congr 1;exact cx λu _=>by rw[agW];rfl
 .calc j5 _<|ky h
def aja (d:Int)(c:Nat)(o:↑Lb):Pg.nW [.int d,.int c,iC o]=#[(false,.bool<|near d c o)]:=by
 delta Pg.nW Pg.Fg;cases o with
 |none=>rfl
 |some l=>
  delta iC;x_go;by_cases h:d<l.d
  .erw[h,gS];x_go;simp[near,h]
  .walk_at "e4";by_cases h2:d=l.d
   .erw[h2,gS];x_go;simp[near]
   .erw[h2,fy];x_go;simp[near,h,h2]
def SR (mv A:())(st:Nat)(s:RS)(a b c d e f:↑()):GS:=
 [#[(.fr,mv)],#[(.fr,A)],#[(.fr,.int st)],#[(.ow,.list<|s.bx.map iC)],#[(.ow,.list<|s.wait.map .bool)],#[(.ow,.list<|s.queue.map cX)],#[(.fr,.int s.place)],ob a,ob b,ob c,ob d,ob e,ob f]
variable {A:Nat->Int}
def Zh {u:Nat}{c:Nat}(E:m.1<!L)(N:m.2.1<!s.bx)(C:m.2.1<!s.wait)(T:(!s.queue)<sizeLine):
  Pg.Qz (SR mv (.list<|L.map .int) st s (#[.int u]) (#[.int d]) (#[.int c]) (#[.int m.1]) (#[.int m.2.1])<|#[.int m.2.2])=
   .nxt (SR mv (.list<|L.map .int) st (relax (lf L) u d c s m) (#[.int u]) (#[.int d]) (#[.int c]) (#[.int m.1]) (#[.int m.2.1])<|#[.int m.2.2]):=by
 let(B,v,x):=m;obtain⟨o,I⟩:∃o,s.bx[v]? =#[o]:=⟨_,ai N⟩;obtain⟨y,j⟩:∃o,s.wait[v]? =#[o]:=⟨_,ai C⟩;have D:cP (L.map PyData.int) (B:Int)=#[.int<|lf L B]:=by refine j5 _ ?_;delta lf;grind
 have G:cP (s.bx.map iC) (v:Int)=#[iC o]:=j5 _ I;have J:cP (s.wait.map PyData.bool) (v:Int)=#[.bool y]:=j5 _ j;delta Pg.Qz SR relax;erw[I,j,m3];x_go;rw[D];x_go;by_cases h:0<lf L B
 .erw[h,gS,true_and];x_go;rw[G];x_go;rw[aja];x_go;cases H:near (d+x) c o
  .rfl
  .x_go;rw[ac,vg N];x_go;rw[J];x_go;cases y
   .x_go;rw[ac,vg C];walk_at "e4";rw[kA,kA,b7];rfl
   .x_go;rw[kA];rfl
 .erw[h,fy,false_and];rfl
theorem JB (E:n<=1000)(F:cH n (lf L) (bH ps) A)(f:u<n)(T:p<=lu.c)(J:∀m∈bH ps u,m.1<!L):
  ∀(D:¬Mv) (s:RS) (C:¬Nat) (x y z:↑()),qt n (lf L) (bH ps) A st s->QP n p s.place s C->Paths n A s.bx->s.bx[u]? =#[#[lu]]->(∀m∈D,m∈bH ps u)->
  ∃b H r,eE (gT 3<|gC (gN 10)<|gC (gN 11)<|gC (gN 12) g0) Pg.Qz (D.map Ft) (SR mv (.list<|L.map .int) st s (#[.int u]) (#[.int lu.d]) (#[.int ((lu.c+1:Nat):Int)]) x y z)=
   .nxt (SR mv (.list<|L.map .int) st (D.foldl (relax (lf L) u lu.d<|lu.c+1) s) (#[.int u]) (#[.int lu.d]) (#[.int ((lu.c+1:Nat):Int)]) b H r)
 |[],s,C,x,y,z,_,_,_,_,_=>(x,y,z,rfl)
 |m::D,s,C,x,y,z,I,Q,l,M,O=>by
  have B:=O m ae;have G:m.2.1<n:=F.room u _ B;have q:(!s.queue)<sizeLine:=by have h1:=Q.bound I.ql;have h2:n*n<=1000*1000:=Nat.mul_le_mul E E;exact bw ∅
  let(Y,j,_):=zP F I f M B;let(o,U,N):=Te F I Q l f M B T;let(b,H,r,t):=JB (mv:=mv) E F f T J D _ o (#[.int m.1]) (#[.int m.2.1]) (#[.int m.2.2]) Y.ok U N j λv g=>O v<|af _ g;refine(b,H,r,?_);rw[aT,eE,eQ];have k:gT 3 (gC (gN 10)<|gC (gN 11)<|gC (gN 12) g0) (Ft m) (SR mv (.list<|L.map .int) st s (#[.int u]) (#[.int lu.d]) (#[.int ((lu.c+1:Nat):Int)]) x y z)=
    #[SR mv (.list<|L.map .int) st s (#[.int u]) (#[.int lu.d]) (#[.int ((lu.c+1:Nat):Int)]) (#[.int m.1]) (#[.int m.2.1])<|#[.int m.2.2]]:=by
   delta Ft wI SR;x_go
  rw[k];simp only;rw[Zh (J m B) (by rw[I.ll];calc G) (by rwa [I.wl]) q];calc t
def Cr (hn:n<=1000)(F:cH n (lf L) (bH ps) A)(y:∀u m,m∈bH ps u->m.1<!L)(I:oY n (lf L) (bH ps) A st s)(x:QI n A s)(i:Not (s.done))(a b c d e f:↑()):
  ∃j k g d' l f',Pg.uH (SR (dh (ps.map toPq) n) (.list<|L.map .int) st s a b c d e f)=.nxt (SR (dh (ps.map toPq) n) (.list<|L.map .int) st (oK (lf L) (bH ps) s) j k g d' l f'):=by
 let((p,E,Q),w):=x;have C:s.place<!s.queue:=by delta RS.done at i;lk
 have T:s.queue[s.place]? =#[s.room]:=by delta RS.room;rw[ai C];rfl
 have B:=ag T;have U:=I.ql _ B;let(H,N):=I.lq _ B;have G:s.at=H:=by delta RS.at;rw[N];rfl
 have Y:qt n (lf L) (bH ps) A st {s with place:=s.place+1,wait:=s.wait.set s.room false}:=by
  refine(C,I.ll,by show (!(s.wait.set s.room false))=n;rw[cc];calc I.wl,I.ql,I.st0,I.lo,I.fr,λv hv=>?_,I.lq);rcases lW (hv) with⟨_,e,_⟩|⟨r,e⟩
  .k_go
  .have:=I.wq v e;rw[(drop_cons T)] at this;rcases bq.mp this with z|z
   .exact absurd z r
   .exact z
 obtain⟨M,D⟩:∃M,E[s.place]? =#[M]:=⟨_,ai<|by rwa [Q.len]⟩;let(x',y',z',J):=JB hn F U (Q.cnt s.place M s.room H (av _) D T N) (y s.room) (bH ps s.room) _ E d e f Y (Q.next I T D) w N λm h=>h;have o:oK (lf L) (bH ps) s=(bH ps s.room).foldl (relax (lf L) s.room H.d<|H.c+1) {s with place:=s.place+1,wait:=s.wait.set s.room false}:=by delta oK;rw[G]
 refine(#[.int s.room],#[.int H.d],#[.int<|(H.c+1:Nat)],x',y',z',?_);rw[o,←J];have q:cP (s.queue.map cX) (s.place:Int)=#[.int s.room]:=j5 _ T;have O:cP (s.bx.map iC) (s.room:Int)=#[iC<|#[H]]:=j5 _ N;let(em,t):=Tp ps U;have hw:s.room<!s.wait:=by rwa [I.wl]
 rw[em];delta Pg.uH SR;x_go;rw[q];x_go;rw[ac,vg hw];x_go;rw[O,jM];x_go;rw[O,jM];x_go;rw[t];x_go;rw[kA];rfl
def Zi (l:n<=1000)(F:cH n (lf L) (bH ps) A)(g:∀u m,m∈bH ps u->m.1<!L)(h:Ends (lf L) (bH ps) k s t):oY n (lf L) (bH ps) A st s->QI n A s->∀(a b c d e f:↑()),
  ∃E N J d' T f',bZ (vB<|v2 Af (vN 6)<|dW kW<|aC (vN 5) a0) Pg.uH (k+1) (SR (dh (ps.map toPq) n) (.list<|L.map .int) st s a b c d e f)=.nxt (SR (dh (ps.map toPq) n) (.list<|L.map .int) st t E N J d' T f'):=by
 induction h with
 |stop G=>
  rename_i s;intro I C a b c d e f;refine(a,b,c,d,e,f,?_);rw[bZ]
  have:Not ((s.place)<((!(s.queue.map cX)):Int)):=by delta RS.done at G;rw[ac];lk
  have B:(vB<|v2 Af (vN 6)<|dW kW<|aC (vN 5) a0) (SR (dh (ps.map toPq) n) (.list<|L.map .int) st s a b c d e f)=#[false]:=by delta SR;x_go;erw[this,fy]
  rw[B]
 | @go k s t G _ o=>
  intro I C a b c d e f;let(D,b1,M,O,U,j,h1):=Cr l F g I C G a b c d e f;let(H,b2,w,Q,Y,y,h2):=o (Tc F I G).1 (agR F I C G) D b1 M O U j;refine(H,b2,w,Q,Y,y,?_);rw[bZ]
  have:(s.place)<((!(s.queue.map cX)):Int):=by delta RS.done at G;rw[ac];lk
  have B:(vB<|v2 Af (vN 6)<|dW kW<|aC (vN 5) a0) (SR (dh (ps.map toPq) n) (.list<|L.map .int) st s a b c d e f)=#[true]:=by delta SR;x_go;erw[this,gS]
  rw[B];simp only;rwa [h1]
def Ww (N:n<=1000)(C:st<n)(F:cH n (lf L) (bH ps) A)(J:∀u m,m∈bH ps u->m.1<!L):∃E,Found n ps st (lf L) E/\Pg.qY [dh (ps.map toPq) n,.list<|L.map .int,.int st]=#[(true,.list<|E.map iC)]:=by
 have Q:oY n (lf L) (bH ps) A st (lK n st):=Ck C;have H:QI n A (lK n st):=adJ C;let(k,t,G,It,O):=ends F Q;refine(t.bx,(k,t,G,rfl),?_);let(a,b,c,d,e,f,M):=Zi N F J G Q H none none none none none none;have B:=yc M (by intro z;cases z);delta Pg.qY Pg.Wn;have D:(!((List.range n).map λu=>PyData.list<|(bH ps u).map Ft))=(n):=by simp
 rw[((Tp ps C).1)] at B ⊢;x_go;rw[D];rw[zE _ ∅];x_go;rw[i7,vg C];x_go;rw[D,zE _ ∅];x_go;have I:SR (.list<|(List.range n).map λu=>.list<|(bH ps u).map Ft) (.list<|L.map .int) st (lK n st) none none none none none none=
  [#[(Tg.fr,.list<|(List.range n).map λu=>.list<|(bH ps u).map Ft)],#[(Tg.fr,.list<|L.map .int)],#[(Tg.fr,.int st)],#[(Tg.ow,.list<|(replicate n PyData.none).set st<|.tuple [.int 0,.int 0,.none,.none])],#[(Tg.ow,.list<|replicate n<|.bool false)],#[(Tg.ow,.list [.int st])],#[(Tg.fr,.int 0)],none,none,none,none,none,none]:=by
  delta SR lK;erw[kA,o6,iC,frA,frB,gn];rfl
 rw[I] at B;rw[B];rfl
end PM
namespace PM
open L2 VM Sp
variable {st g:Nat}
def adO (h:jB ps m u v x):m<2*!ps:=by let(i,q,e,r):=h.cases;grind
def Tq (T:Tree n left (bH ps) C st B)(h:B[v]? =#[#[l]]):∀m∈eF B l.c v,m<2*!ps:=λm A=>by let(_,_,_,_,_,a,_):=Ed T h m A;calc adO a
def Wx (T:Tree n left (bH ps) A st B)(h:B[v]? =#[#[l]]):(!(eF B l.c v))<=2*!ps:=iD (Cq T h)<|Tq T h
def afv (j:(!ps)<=1000000)(T:Tree n left (bH ps) o st B)(h:B[g]? =#[#[l]]):
  Pg.qZ [.list<|B.map iC,.int st,.int g]=#[(true,.list<|(eF B l.c g).map cX)]:=by
 have E:∀v (l:Lb),B[v]? =#[#[l]]->∀A:¬Nat,(!A)+(!(eF B l.c v))<=16000000->
   bZ (vB<|v2 lH (vN 4)<|vN 1) Pg.QB ((!(eF B l.c v))+1) [#[(.fr,.list<|B.map iC)],#[(.fr,.int st)],#[(.fr,.int g)],#[(.ow,.list<|A.map cX)],#[(.fr,.int v)]]=
    .nxt [#[(.fr,.list<|B.map iC)],#[(.fr,.int st)],#[(.fr,.int g)],#[(.ow,.list<|(A++eF B l.c v).map cX)],#[(.fr,.int st)]]:=by
  refine rD T (P:=λv _ D=>∀A:¬Nat,(!A)+(!D)<=16000000->
   bZ (vB<|v2 lH (vN 4)<|vN 1) Pg.QB ((!D)+1) [#[(.fr,.list<|B.map iC)],#[(.fr,.int st)],#[(.fr,.int g)],#[(.ow,.list<|A.map cX)],#[(.fr,.int v)]]=
    .nxt [#[(.fr,.list (B.map iC))],#[(.fr,.int st)],#[(.fr,.int g)],#[(.ow,.list ((A++D).map cX))],#[(.fr,.int st)]]) (λA _=>?_) (λv l O u x k D M r C Q H f Y U L N A J=>?_)
  .rw[bZ];x_go;simp
  .rw[bZ];have G:cP (B.map iC) (v:Int)=#[iC<|#[l]]:=j5 _ M;have m:Not ((v)=(st:Int)):=by lk
   walk_at "e4";delta Pg.QB;x_go;rw[G,jM,C];walk_at "e4";rw[G,jM,C];x_go;have:=N (A++[O]) (by rw[aE,i0];rw[a8] at J;lk);rw[b7,cE] at this;exact this
 have I:=yc (E g l h [] (by have:=Wx T h;rw[c9];lk)) (by intro z;cases z);delta Pg.qZ Pg.R5;x_go;erw[fx,gm] at I;rw[I];rfl
def Vt (m:Nat):Builtin.bitXor (m:Int) 1=(fC m:Int):=by
 rw[PyProof.Rows.bitXor_and]
 have:Builtin.bitAnd (m) 1=((m % 2)):=by delta Builtin.bitAnd;simp
 rw[this];delta fC;lk
def wN (p:Int)(L:¬Int)(m:Nat):¬Int:=(L.set m<|lf L m - p).set (fC m)<|lf (L.set m<|lf L m - p) (fC m)+p
def Tr (h:i<!L)(x:Int)(j:Nat):lf (L.set i x) j=if j=i then x else lf L j:=by delta lf;grind
def Zj (m:Nat):fC m≠m:=by delta fC;split<;>lk
def Cu (p:Int)(L:¬Int)(m:Nat):(!(wN p L m))=!L:=by delta wN;rw[cc,cc]
def adP (h1:m<!L)(h2:fC m<!L):lf (wN p L m)=move p (lf L) m:=by funext i;delta wN move;rw[Tr (by rw[cc];calc h2),Tr h1,Tr h1];have:=Zj m;lk
def sE (p:Int)(L:¬Int)(B:¬Nat):¬Int:=B.foldl (wN p) L
theorem NK (p:Int):∀(B:¬Nat) (L:¬Int),(!(sE p L B))=!L
 |[],_=>rfl
 |m::B,L=>by show (!(sE p (wN p L m) B))=_;rw[NK p B,Cu]
def JC (h:m<2*k):fC m<2*k:=by delta fC;split<;>lk
theorem Tt (p:Int):∀(B:¬Nat) (L:¬Int),(!L)=2*k->(∀m∈B,m<2*k)->lf (sE p L B)=fP p (lf L) B
 |[],_,_,_=>rfl
 |m::B,L,C,A=>by have h1:=A m ae;show lf (sE p (wN p L m) B)=fP p (move p (lf L) m) B;rw[Tt p B _ (by rw[Cu];calc C) λx D=>A x<|af _ D,adP ∅ (by have:=JC h1;lk)]
def JD {L:¬Int}(h:m<!L):cP (L.map PyData.int) (m:Int)=#[.int<|lf L m]:=by refine j5 _ ?_;delta lf;grind
def Tv {L:¬Int}(h:m<!L):(L.map PyData.int)[m]? =#[.int<|lf L m]:=by delta lf;rw[ay,br,ai h];rfl
def ajb {k:Nat}(H:(!L)=2*k)(G:∀m∈B,m<2*k)(C:B≠[])(N:(!B)<=16000000):
  ∃p,(∃m∈B,p=lf L m)/\(∀m∈B,p<=lf L m)/\Pg.yC [none,#[.list<|B.map cX]] (L.map .int)=#[(false,.int p,(sE p L B).map .int)]:=by
 refine(dX<|B.map<|lf L,?_,?_,?_)
 .let(h1,_):=jf (ns:=B.map<|lf L) ‹C›;grind
 .intro m h;exact(jf<|‹C›).2 _ (bg.mpr (m,h,rfl))
 .generalize Q:dX (B.map (lf L))=p;delta Pg.yC Pg.aaU Bw;rw[ap ⟨rfl,rfl⟩];delta wA;x_go;rw[RQ (by rw[ac];calc bw N)];rw[j4 (f:=λd=>match d with|.int m=>.int (lf L m.toNat)|_=>.none) (by
   intro d I;let(m,h,rfl):=bg.mp I;refine([#[(Tg.fr,.int m)],#[(Tg.fr,.list<|L.map .int)]],?_,rfl,?_)
   .rfl
   .have:=G m h;x_go;rw[JD ∅];rfl)]
  rw[ce];have em:B.map ((λd=>match d with|.int m=>PyData.int (lf L m.toNat)|_=>.none) ∘ cX)=(B.map<|lf L).map PyData.int:=by rw[ce];rfl
  rw[em];x_go;have j:minD [.list<|(B.map<|lf L).map PyData.int]=#[.int p]:=by
   erw[minD,kY];cases B with
   |nil=>lk
   |cons m r=>lk
  rw[j];x_go;have D:∀v (M:¬Int) (x:↑()),(!M)=2*k->(∀m∈v,m<2*k)->∃b,
    eE (gN 3) (aR (oH jd 0 (vN 3)<|vF 2)<|oH fX 0 (v2 Yy (vN 3)<|vC<|.int 1)<|vF 2) (v.map cX) [#[(Tg.io,.list<|M.map .int)],#[(Tg.fr,.list<|B.map cX)],#[(Tg.fr,.int p)],ob x]=
     .nxt [#[(Tg.io,.list<|(sE p M v).map .int)],#[(Tg.fr,.list<|B.map cX)],#[(Tg.fr,.int p)],ob b]:=λv=>by
   induction v with
   |nil=>intro M x _ _;calc⟨x,rfl⟩
   |cons m v J=>intro M x O A;have h1:=A m ae;have h2:=JC h1;let(b,E):=J (wN p M m) (#[.int m]) (by rwa [Cu]) λy n=>A y<|af _ n;refine⟨b,?_⟩;rw[aT,eE];delta cX;x_go;rw[ac,vg ∅];x_go;rw[Tv ∅];x_go;rw[Vt,cc,ac,vg ∅];x_go;rw[<-kA,Tv (by rw[cc];lk)];x_go;rwa [<-kA]
  let(b,E):=D B L none H G;rw[gn] at E;rw[E];rfl
end PM
namespace Sp
variable {B:¬(↑Lb)}
def abe (T:Tree n left (bH ps) C st B)(r:st≠g)(h:B[g]? =#[#[l]]):eF B l.c g≠[]:=by let(A,u,x,H,_,_,_,_,_,_,_,O):=Gu T h<|ci r;lk
theorem Tw (f:C->Int):∀(xs:¬C),xs≠[]->∃p,(∃m∈xs,p=f m)/\∀m∈xs,p<=f m
 |[x],_=>(f x,(x,by simp,rfl),λm A=>by rw[aI.mp A];calc bE _)
 |x::y::r,_=>by let(p,(m,A,e),h):=Tw f (y::r) 's';grind
def Wy (z:aW n ps)(C:st<n)(hg:g<n)(D:st≠g)(S:St n ps st left G):∃r A,Runs n ps st g c left r A:=by
 have H:∀k (left:Lf) (G:Nat->Int),rest ps g left=k->St n ps st left G->∃r A,Runs n ps st g c left r A:=λk=>by
  induction k using Nat.strongRecOn with
  |_ k O=>
   intro left G M S;let(B,t):=finds S.fit C;have T:=jC S.fit C t;obtain⟨o,E⟩:∃o,B[g]? =#[o]:=⟨_,ai<|by rwa [T.ll]⟩;cases o with
   |none=>calc(_,_,.none t E)
   |some l=>
    have go:(∀I,c=#[I]->l.d<=I)->∃r A,Runs n ps st g c left r A:=λN=>by let(p,h1,h2):=Tw left (eF B l.c g)<|abe T D E;have P:Pushed n ps st g left l.d p (fP p left<|eF B l.c g):=(B,l,t,E,rfl,h1,h2,rfl);let(_,_,(J,L,_),_,_):=mR z S C P;let(r,A,R):=O _ (by rw[<-M];calc abd z S C D P) _ J rfl L;exact(_,_,.go P N R)
    cases c with
    |none=>calc go λ_ e=>by k_go
    |some I=>
     by_cases U:I<l.d
     .exact(_,_,.far t E rfl U)
     .exact go λ_ e=>by k_go;lk
 calc H _ left G rfl S
def vals:¬aO->¬Int
 |[]=>[0]
 |q::r=>(vals r).map (λx=>x - q.l)++(vals r++(vals r).map (λx=>x+q.l))
def adQ (ps:¬aO):(!(vals ps))=3^!ps:=by
 induction ps with
 |nil=>rfl
 |cons q r A=>rw[vals,aE,aE,ac,ac,A,a8,Nat.pow_succ];lk
def rE (A:¬Nat)(i:Nat):Int:=b2 (2*i∈A) - b2 (2*i+1∈A)
def Tz (p:Prop)[Decidable p]:b2 p=0\/b2 p=1:=by delta b2;split;calc .inr rfl;calc .inl rfl
theorem TF (A:¬Nat):∀(ps:¬aO) (k:Nat),eO (λi q=>rE A i*q.l) k ps∈vals ps
 |[],_=>by simp[eO,vals]
 |q::r,k=>by
  have C:=TF A r<|k+1;rw[eO,vals]
  have:rE A k= -1\/rE A k=0\/rE A k=1:=by delta rE;rcases Tz (2*k∈A) with a|a<;>rcases Tz (2*k+1∈A) with b|b<;>rw[a,b]<;>lk
  rcases this with e|e|e<;>rw[e]
  .refine c5 _<|bg.mpr (_,C,?_);lk
  .refine b6 _<|c5 _ ?_;simpa using C
  .refine b6 _<|b6 _<|bg.mpr (_,C,?_);lk
def abf (h:Not (m∈A))(i:Nat):rE (m::A) i=rE A i+(b2 (2*i=m) - b2 (2*i+1=m)):=by
 delta rE;have C:b2 (2*i∈m::A)=b2 (2*i∈A)+b2 (2*i=m):=by
  delta b2;by_cases a:2*i=m
  .subst a;simp[h]
  .simp[a]
 have G:b2 (2*i+1∈m::A)=b2 (2*i+1∈A)+b2 (2*i+1=m):=by
  delta b2;by_cases a:2*i+1=m
  .subst a;simp[h]
  .simp[a]
 rw[C,G];lk
def agX (T:Tree n left (bH ps) m st B)(h:B[v]? =#[#[l]]):l.d=eO (λi q=>rE (eF B l.c v) i*q.l) 0 ps:=by
 have:=rD T (P:=λv l A=>A.Nodup->l.d=eO (λi q=>rE A i*q.l) 0 ps) (λ_=>?_) (λv l H u x U A Q I E C N f G O L J nd=>?_) v l h
 .exact this<|Cq T h
 .rw[iK (g:=λ_ _=>0) ps 0 λi q _=>by simp[rE,b2],pB]
 .let(h1,h2):=cS.mp nd;have D:eO (λi q=>rE (H::A) i*q.l) 0 ps=eO (λi q=>rE A i*q.l) 0 ps+eO (λi q=>(b2 (2*i=H) - b2 (2*i+1=H))*q.l) 0 ps:=by rw[<-vH];exact iK ps 0 λi q _=>by rw[abf h1,iq]
  rw[D,G,J h2];congr 1;let(i,q,e,r):=C.cases;rw[zQ ps 0 i q e<|λj k M Y=>?_]
  .rcases r with⟨_,_,rfl,rfl⟩|⟨_,_,rfl,rfl⟩
   .have:Not (2*(0+i)+1=2*i):=by lk
    simp[b2,this]
   .have:Not (2*(0+i)=2*i+1):=by lk
    simp[b2,this]
  .have a:Not (2*(0+j)=H):=by rcases r with⟨_,_,rfl,_⟩|⟨_,_,rfl,_⟩<;>lk
   have b:Not (2*(0+j)+1=H):=by rcases r with⟨_,_,rfl,_⟩|⟨_,_,rfl,_⟩<;>lk
   erw[b2,a,b,eg];simp
def NP (z:aW n ps)(C:st<n)(R:Runs n ps st g c left r A)(S:St n ps st left G):∀x∈r,x.1∈vals ps:=by
 induction R generalizing G with
 |none _ _=>simp
 |far _ _ _ _=>simp
 | @go left D A len p r P N R J=>
  intro x E;rcases bq.mp E with rfl|E
  .let(B,l,t,N,e,_):=P.ex;rw[e,agX (jC S.fit C t) N];exact TF _ ps 0
  .let(_,_,(H,I,_),_,_):=mR z S C P;grind
def Vu (h:y∈dY s x):y.1=x.1\/y∈s:=by
 delta dY at h;split at h
 .rename_i z e;split at h
  .rcases bd.mp h with h|h
   .exact .inr<|(nV s).subset h
   .grind
  .grind
 .grind
theorem Gw:∀(r s:¬(Int×Int)) (y:Int×Int),y∈r.foldl dY s->(∃x∈r,y.1=x.1)\/y∈s
 |[],_,_,h=>.inr h
 |x::r,s,y,h=>by
  rcases Gw r _ y h with⟨z,C,e⟩|h
  .exact .inl (z,af _ C,e)
  .rcases Vu h with e|e
   .exact .inl (x,ae,e)
   .calc .inr e
def grouped_len {vs:¬Int}(D:r.Pairwise λx y=>x.1<=y.1)(h1:∀x∈r,1<=x.1/\1<=x.2)(M:∀x∈r,x.1∈vs):(!(grouped r))<=!vs:=by
 have nd:((grouped r).map (·.1)).Nodup:=by rw[List.Nodup,lI];exact(vI r [] D h1 ⟨.nil,λ_ h=>nomatch h⟩ (λ_ _ _ h=>nomatch h)).up.imp λh=>by lk
 have:=Cm nd λx A=>by
  let(y,n,rfl):=bg.mp A;rcases Gw r [] y n with⟨z,C,e⟩|h
  .rw[e];exact M z C
  .cases h
 rwa [ac] at this
end Sp
namespace PM
open L2 VM Sp
variable {left:Lf}
def Gx:↑Int->()
 |none=>.none
 |some T=>.int T
def jj (x:Int×Int):():=.tuple [.int x.1,.int x.2]
theorem tL:∀B:¬(↑Lb),mJ (B.map iC)=true
 |[]=>rfl
 |none::r=>by erw[aT,iC,mJ,sY,tL r,Bool.and_self]
 |some l::r=>by
  have:sY (iC<|#[l])=true:=by
   rw[jM];cases h:l.fr with
   |none=>rfl
   |some x=>rfl
  erw[aT,mJ,this,tL r,Bool.and_self]
def vJ (mv:())(L:¬Int)(st g:Nat)(A:↑Int)(s:¬(Int×Int))(a b c:↑()):GS:=
 [#[(.fr,mv)],#[(.io,.list<|L.map .int)],#[(.fr,.int st)],#[(.fr,.int g)],#[(.fr,Gx A)],#[(.ow,.list<|s.map jj)],ob a,ob b,ob c]
def adR (h:xs.getLast? =#[y]):cP xs (-1)=#[y]:=by
 have r:xs≠[]:=by intro z;rw[z] at h;cases h
 delta cP;rw[Rn<|kw.mpr r];grind
def getLast_map (f:A->B)(xs:¬A):(xs.map f).getLast? =xs.getLast?.map f:=by simp
def abg (D:(!(dY s (len,p)))<=16000000):
    (gw (mj (u0 (vN 5)) (vB (v2 kE (v2 bB (v2 bB (vN 5) (v1 oV (vC (.int 1)))) (vC (.int 0))) (vN 7))))
     (qR 5 (v1 oV<|vC<|.int 1)<|je<|aC (vF 7)<|aC (v2 fX (v2 bB (v2 bB (vN 5)<|v1 oV<|vC<|.int 1)<|vC<|.int 1)<|vN 8) a0)
     (gM 5 (aC (je (aC (vF 7) (aC (vF 8) a0))) a0))) (vJ mv L st g c s a #[.int len] #[.int p])=.nxt (vJ mv L st g c (dY s (len,p)) a #[.int len] #[.int p]):=by
  delta vJ;x_go;delta dY at D ⊢;cases e:s.getLast? with
  |none=>
   have:s=[]:=‹e›
   subst this;x_go;erw[qo,Bool.not_true];walk_at "e4";rfl
  |some y=>
   rw[e] at D;have r:s≠[]:=by intro z;rw[z] at e;k_go
   have em:(s.map jj).isEmpty=false:=by cases s<;>simp_all
   have B:cP (s.map jj) (-1)=#[jj y]:=adR (by rw[getLast_map,e];rfl);erw[em,Bool.not_false];x_go;rw[B];delta jj;x_go;by_cases n:y.1=len
   . walk_at "e4"
     have A:cP (s.map<|λx=>PyData.tuple [.int x.1,.int x.2]) (-1)=#[.tuple [.int y.1,.int y.2]]:=B;rw[A];x_go;rw[Rn (by rw[ac];calc kw.mpr r)];x_go;have G:=uJ e;have C:(s.map<|λx=>PyData.tuple [.int x.1,.int x.2]).set ((!(s.map<|λx=>PyData.tuple [.int x.1,.int x.2])) - 1) (.tuple [.int len,.int<|y.2+p])=(s.dropLast++[(len,y.2+p)]).map (λx=>PyData.tuple [.int x.1,.int x.2]):=by rw[G];simp
     rw[C]
   . erw[n,fy]
     x_go;erw[n,eg] at D;rw[ap (by rw[ac];rw[aE,i0] at D;calc bw ∅)];rw[b7];rfl
def zT (h1:c S=#[true])(h2:b S=.ret S2 o d):bZ c b (k+1) S=.ret S2 o d:=by rw[bZ,h1];simp only;rw[h2]
def Cv (h1:c S=#[true])(h2:b S=.nxt S2)(J:bZ c b k S2=o):bZ c b (k+1) S=o:=by rw[bZ,h1];simp only;rw[h2];calc J
def Cy (d:n<=1000)(f:(!ps)<=1000000)(D:st<n)(hg:g<n)(Q:st≠g)(J:(!L)=2*!ps)(S:St n ps st (lf L) π)(a b c:↑())(t:Found n ps st (lf L) B):
    (B[g]? =#[none]->∃E,Pg.wK (vJ (dh (ps.map toPq) n) L st g A s a b c)=.ret ((vJ (dh (ps.map toPq) n) L st g A s E b c).set 5 none) true (.list<|s.map jj))/\
    (∀l T,B[g]? =#[#[l]]->A=#[T]->T<l.d->∃E N,Pg.wK (vJ (dh (ps.map toPq) n) L st g A s a b c)=.ret ((vJ (dh (ps.map toPq) n) L st g A s E N c).set 5 none) true (.list<|s.map jj))/\
    (∀l,B[g]? =#[#[l]]->(∀T,A=#[T]->l.d<=T)->∃p,(∃m∈eF B l.c g,p=lf L m)/\(∀m∈eF B l.c g,p<=lf L m)/\((!(dY s (l.d,p)))<=16000000->
      ∃E N k,Pg.wK (vJ (dh (ps.map toPq) n) L st g A s a b c)=.nxt (vJ (dh (ps.map toPq) n) (sE p L (eF B l.c g)) st g A (dY s (l.d,p)) E N k))):=by
  let(j,H,U):=Ww d D S.fit (λu m z=>by
    let(i,q,e,r):=fO.mp z;grind)
  have:=t.uniq H;subst this;have T:=jC S.fit D t;refine⟨λh=> ?_, λl I h O y=> ?_, λl h O=> ?_⟩
  . have C:cP (B.map iC) (g:Int)=#[iC none]:=j5 _ h
    refine⟨#[.list<|B.map iC], ?_⟩;delta Pg.wK vJ;x_go;rw[U];x_go;rw[tL B];x_go;rw[C];rfl
  . have C:cP (B.map iC) (g:Int)=#[iC<|#[l]]:=j5 _ h
    refine⟨#[.list<|B.map iC],#[.int l.d], ?_⟩;subst O;delta Pg.wK vJ;x_go;rw[U];x_go;rw[tL B];x_go;rw[C,jM];x_go;rw[C,jM];x_go;delta Gx;x_go;erw[y,gS];rfl
  . have C:cP (B.map iC) (g:Int)=#[iC<|#[l]]:=j5 _ h
    have wl:=Wx T h;let(p,x,p2,v):=ajb J (Tq T h) (abe T Q h) ∅;refine⟨p,x,p2, λw=>⟨#[.list (B.map iC)],#[.int l.d],#[.int p], ?_⟩⟩;rw[<-abg w];delta Pg.wK;generalize hk:(gw (mj (u0 (vN 5)) (vB (v2 kE (v2 bB (v2 bB (vN 5) (v1 oV (vC (.int 1)))) (vC (.int 0))) (vN 7))))
     (qR 5 (v1 oV<|vC<|.int 1)<|je<|aC (vF 7)<|aC (v2 fX (v2 bB (v2 bB (vN 5)<|v1 oV<|vC<|.int 1)<|vC<|.int 1)<|vN 8) a0)
     (gM 5 (aC (je (aC (vF 7) (aC (vF 8) a0))) a0)))=Y
    delta vJ;x_go;rw[U];x_go;rw[tL B];x_go;rw[C,jM];x_go;rw[C,jM];x_go;have G:∀o,KH (HD Pg.yC 1 (HB (u9 (cV Pg.qZ (aC (vF 6) (aC (vF 2) (aC (vF 3) a0)))) Nq)) 8
        [#[(Tg.fr,dh (ps.map toPq) n)],#[(Tg.io,.list (L.map .int))],#[(Tg.fr,.int st)],#[(Tg.fr,.int g)],#[(Tg.fr,o)],#[(Tg.ow,.list (s.map jj))],#[(Tg.fr,.list (B.map iC))],#[(Tg.fr,.int l.d)],ob c]) Y=
        Y [#[(Tg.fr,dh (ps.map toPq) n)],#[(Tg.io,.list<|(sE p L<|eF B l.c g).map .int)],#[(Tg.fr,.int st)],#[(Tg.fr,.int g)],#[(Tg.fr,o)],#[(Tg.ow,.list<|s.map jj)],#[(Tg.fr,.list<|B.map iC)],#[(Tg.fr,.int l.d)],#[(Tg.fr,.int p)]]:= λo=>by
      erw[HD,HB,u9,Nq];x_go;rw[afv f T h];x_go;rw[v];simp only;x_go;simp;x_go
    cases M:A with
    |none=>x_go;calc G _
    |some I=>
     have:=O I M;have nT:Not (I<l.d):=by lk
     delta Gx;walk_at "e4";grind
def abh (d:aW n ps)(u:n<=1000)(v:(!ps)<=1000000)(C:st<n)(hg:g<n)(G:st≠g)(R:Runs n ps st g O left r A):
  ∀(L:¬Int) (Y:Nat->Int) (s:¬(Int×Int)) (a b c:↑()),lf L=left->(!L)=2*!ps->St n ps st (lf L) Y->(∀k,(!((r.take k).foldl dY s))<=16000000)->
  ∃k B E J j,lf B=A/\(!B)=2*!ps/\bZ (vB<|vC<|.bool true) Pg.wK k (vJ (dh (ps.map toPq) n) L st g O s a b c)=.ret ((vJ (dh (ps.map toPq) n) B st g O (r.foldl dY s) E J j).set 5 none) true (.list<|(r.foldl dY s).map jj):=by
 induction R with
 |none t h=>intro L Y s a b c M N S U;subst M;let(E,e):=(Cy u v C hg G N S a b c t).1 h;calc(1,L,E,b,c,rfl,N,zT rfl e)
 | @far left H l T t h hT q=>intro L Y s a b c M N S U;subst M;let(E,J,e):=(Cy u v C hg G N S a b c t).2.1 l T h hT q;calc(1,L,E,J,c,rfl,N,zT rfl e)
 | @go left I A len p r P N R ih=>
  intro L Y s a b c M D S U;subst M;let(_,_,(y,f,_),_,_):=mR d S C P;let(H,l,t,h,rfl,hp1,hp2,e):=P.ex;have T:=jC S.fit C t;let(Q,q1,q2,o):=(Cy u v C hg G D S a b c t).2.2 l h N;have m:Q=p:=by grind
  subst m;let(E,J,j,i):=o (by have:=U 1;simpa using this);have z:lf (sE Q L<|eF H l.c g)=I:=by rw[Tt Q _ L D<|Tq T h,e]
  let(k,B,w,b2,x,f1,f2,f3):=ih (sE Q L<|eF H l.c g) y (dY s (l.d,Q)) E J j z (by rw[NK];calc D) (by rw[z];calc f) (λk=>by have:=U<|k+1;simpa using this);calc(k+1,B,w,b2,x,f1,f2,Cv rfl i f3)
def JF (G:aW n ps)(H:n<=1000)(O:(!ps)<=1000000)(E:st<n)(hg:g<n)(D:st≠g)(R:Runs n ps st g C (lf L) r A)(N:(!L)=2*!ps)(S:St n ps st (lf L) T)(Q:∀k,(!(grouped<|r.take k))<=16000000):
  ∃B,lf B=A/\(!B)=2*!ps/\Pg.kZ [#[dh (ps.map toPq) n],none,#[.int st],#[.int g],#[Gx C]] (L.map .int)=#[(true,.list<|(grouped r).map jj,B.map .int)]:=by
 let(k,B,a,b,c,h1,h2,J):=abh G H O E hg D R L T [] none none none rfl N S Q;have M:=yc J (by intro z;cases z);refine⟨B,h1,h2,?_⟩;delta Pg.kZ Pg.Jl Bw;rw[ap ⟨rfl,rfl⟩];delta wA;x_go;have I:vJ (dh (ps.map toPq) n) L st g C [] none none none=[#[(Tg.fr,dh (ps.map toPq) n)],#[(Tg.io,.list<|L.map .int)],#[(Tg.fr,.int st)],#[(Tg.fr,.int g)],#[(Tg.fr,Gx C)],#[(Tg.ow,.list [])],none,none,none]:=rfl;rw[I] at M;rw[M];rfl
def sG:¬aO->¬Int
 |[]=>[]
 |q::r=>q.w::0::sG r
theorem Cz:∀ps:¬aO,(!(sG ps))=2*!ps
 |[]=>rfl
 |_::r=>by erw[sG,a8,Cz r];lk
theorem zU:∀ps:¬aO,lf (sG ps)=fW ps
 |[]=>by funext i;delta lf fW sG;simp
 |q::r=>by
  have A:=zU r;funext i
  match i with
  |0=>rfl
  |1=>rfl
  |i+2=>
   have B:lf (sG (q::r)) (i+2)=lf (sG r) i:=rfl;have G:fW (q::r) (i+2)=fW r i:=by delta fW;simp
   simp_all
def lA:¬aO->¬Int->¬Int
 |q::r,f::C=>(q.w - f)::f::lA r C
 |_,_=>[]
theorem JG:∀ps:¬aO,lA ps (replicate (!ps) 0)=sG ps
 |[]=>rfl
 |q::r=>by rw[a8,kt,lA,sG,JG r,pT]
def Wz (J:(!ps)<=1000000)(G:(!ps)<=!fl):Pg.eG [hD ps,.list<|fl.map .int]=#[(true,.list<|(lA ps fl).map .int)]:=by
 delta Pg.eG Pg.Ak hD yt;x_go;erw[Yw];rw[ap<|‹G›];x_go;have C:∀all (r:¬aO) (fs A:¬Int) (x y:↑()),(!A)+2*(!r)<=16000000->∃b H,eE (gT 2<|gC (gN 3)<|gC (gN 4) g0) (aR (gM 2<|aC (v2 jd (v2 bB (vN 3)<|vC<|.int 2)<|vN 4) a0)<|gM 2<|aC (vF 4) a0) (uf ((r.map toPq).map pD)<|fs.map .int)
   [#[(Tg.fr,.list<|(ps.map toPq).map pD)],#[(Tg.fr,all)],#[(Tg.ow,.list<|A.map .int)],ob x,ob y]=.nxt [#[(Tg.fr,.list<|(ps.map toPq).map pD)],#[(Tg.fr,all)],#[(Tg.ow,.list<|(A++lA r fs).map .int)],ob b,ob H]:=λall r=>by
  induction r with
  |nil=>intro fs A x y _;calc(x,y,by simp[eE,lA,uf])
  |cons q r I=>
   intro fs A x y D;cases fs with
   |nil=>calc(x,y,by simp[eE,lA,uf])
   |cons f fs=>
    let(b,H,B):=I fs (A++[q.w - f,f]) (#[pD<|toPq q]) (#[.int f]) (by rw[aE];erw[a8,c9] at D ⊢;lk);refine(b,H,?_);have E:uf (((q::r).map toPq).map pD) ((f::fs).map .int)=.tuple [pD<|toPq q,.int f]::uf ((r.map toPq).map pD) (fs.map .int):=rfl;rw[E,eE];erw[a8] at D;delta pD at B ⊢;walk_at "e4";rw[ap (by rw[aE,ac];calc bw (by simp;lk))];x_go
    have:(A++[q.w - f,f]).map PyData.int=A.map .int++[.int<|q.w - f]++[.int f]:=by simp
    rw[this] at B;rw[lA];erw[cE,kz,gm,qU] at B ⊢;exact B
 let(b,H,B):=C (.list<|fl.map .int) ps fl [] none none (by simp;lk);erw[fx,gm,gn] at B;rw[B];rfl
def abj (D:(!ps)<=1000000):Pg.eG [hD ps,.list<|replicate (!ps)<|.int 0]=#[(true,.list<|(sG ps).map .int)]:=by have:=Wz (fl:=replicate (!ps) 0) D 's';rw[o6,JG] at this;calc this
end PM
namespace PM
open L2 VM Sp
variable {left:Lf}
structure Small (n:Nat)(ps:¬aO):Prop where
 n1:n<=1000
 p1:(!ps)<=1000
 vs:∃vs:¬Int,(!vs)<=16000000/\∀v∈vals ps,v∈vs
def JH (z:aW n ps):∀q∈ps.map toPq,(0<=q.1/\q.1<(n:Int))/\0<=q.2.1/\q.2.1<(n:Int):=λq T=>by let(p,D,rfl):=bg.mp T;have:=z.ra p D;have:=z.rb p D;show(0<=(p.a:Int)/\(p.a:Int)<n)/\0<=(p.b:Int)/\(p.b:Int)<n;lk
def CG (z:aW n ps)(C:st<n)(D:st≠g)(I:∃vs:¬Int,(!vs)<=16000000/\∀v∈vals ps,v∈vs)(R:Runs n ps st g c (fW ps) r B):
  (∀x∈r,1<=x.1/\1<=x.2)/\∀k,(!(grouped<|r.take k))<=16000000:=by
 have E:St n ps st (fW ps) (λv=>if v=st then 0 else 1):=yJ z;let(_,_,_,M,G):=La z C R E;have h1:∀x∈r,1<=x.1/\1<=x.2:=λx A=>by let(a,b,_):=M x A;erw[ci D,eg] at b;lk
 refine⟨h1,λk=>?_⟩;let(vs,J,H):=I;have:=grouped_len (G.sublist<|pu k r) (λx A=>h1 x<|hX A) λx A=>H _<|NP z C R E x<|hX A;lk
def WD (z:aW n ps)(sm:Small n ps):VM.fH [.int n,hD ps]=#[(false,dh (ps.map toPq) n)]:=by have:=Ji ∅ (by have:=sm.n1;lk) (by rw[ac];calc sm.p1) (JH z);assumption
def agY (z:aW n ps)(sm:Small n ps)(C:st<n)(hg:g<n)(B:st≠g):∃r A,Runs n ps st g none (fW ps) r A/\Pg.ni [.int n,hD ps,.int st,.int g]=#[(true,.list<|(grouped r).map jj)]:=by
 have E:St n ps st (fW ps) (λv=>if v=st then 0 else 1):=yJ z;let(r,A,R):=Wy z C hg B E;refine(r,A,R,?_);have G:(!ps)<=1000000:=by have:=sm.p1;lk
 rw[<-zU] at R E;let(H,h1,h2,J):=JF z sm.n1 G C hg B R (Cz ps) E (CG z C B sm.vs<|by rwa [<-zU]).2;unfold Pg.ni Pg.Jm;x_go;unfold hD yt;x_go;rw[ac,ac,zE _ ∅];have D:=abj G;have em:=WD z sm;unfold hD yt at D em;x_go;rw[D];x_go;erw[HF,HB,u9,Nq];x_go;rw[em];x_go;erw[Gx] at J;rw[J];rfl
def qx (L:¬Int)(k:Nat):¬Int:=(List.range k).map λi=>lf L<|2*i+1
def CJ (z:aW n ps)(sm:Small n ps)(D:st<n)(hg:g<n)(C:st≠g)(R:Runs n ps st g #[T] (fW ps) r A):∃B,lf B=A/\(!B)=2*!ps/\Pg.gU [.int n,hD ps,.int st,.int g,.int T]=#[(true,.list<|(qx B !ps).map .int)]:=by
 have G:St n ps st (fW ps) (λv=>if v=st then 0 else 1):=yJ z;have I:(!ps)<=1000000:=by have:=sm.p1;lk
 have N:=sm.p1;have E:=R;rw[<-zU] at E G;let(B,h1,h2,J):=JF z sm.n1 I D hg C E (Cz ps) G (CG z D C sm.vs R).2;refine(B,h1,h2,?_);unfold Pg.gU Pg.Fj;x_go;unfold hD yt;x_go;rw[ac,ac,zE _ ∅];have H:=abj I;have em:=WD z sm;unfold hD yt at H em;x_go;rw[H];x_go;erw[PJ,HB,u9,Nq];x_go;rw[em];x_go;erw[Gx] at J;rw[J];walk_at "e4";rw[RQ (by rw[O1];calc bw ∅)];rw[j4 (f:=λd=>match d with|.int i=>.int (lf B (2*i.toNat+1))|_=>.none) (by
  intro d M;let(j,Y):=hE.mp M;let(Y,rfl):=YG Y;rw[gh] at Y;refine([#[(Tg.fr,.int<|0+j)],#[(Tg.fr,.list<|B.map .int)]],?_,rfl,?_)
  .rfl
  .walk_at "e4";have e:(2)*(0+j)+1=((2*j+1:Nat):Int):=by lk
   rw[e,JD ∅];have L:(0+(j:Int)).toNat=j:=by lk
   erw[L];rfl)]
 x_go;congr 3;unfold nR qx;simp
def ajc (z:aW n ps)(sm:Small n ps)(C:st<n)(hg:g<n)(A:st≠g):∃r B,Runs n ps st g #[T] (fW ps) r (lf B)/\(!B)=2*!ps/\Pg.gU [.int n,hD ps,.int st,.int g,.int T]=#[(true,.list<|(qx B !ps).map .int)]:=by have E:St n ps st (fW ps) (λv=>if v=st then 0 else 1):=yJ z;let(r,D,R):=Wy z C hg A E;let(B,rfl,h2,J):=CJ z sm C hg A R;calc(r,B,R,h2,J)
end PM
namespace Sp
variable {I:Nat->Int}
end Sp
namespace LH
open L2 VM Sp PM
def zs (F:aO->Int->Int):¬aO->¬Int->Int
 |q::r,f::fs=>F q f+zs F r fs
 |_,_=>0
theorem WK (F:aO->Int->Int)(L:¬Int):∀(ps:¬aO) (k:Nat),zs F ps ((List.range' k !ps).map λi=>lf L<|2*i+1)=eO (λi q=>F q<|lf L<|2*i+1) k ps
 |[],_=>rfl
 |q::r,k=>by rw[a8,qi,aT,zs,eO,WK F L r<|k+1]
def TJ (F:aO->Int->Int)(L:¬Int)(ps:¬aO):zs F ps (qx L !ps)=eO (λi q=>F q<|lf L<|2*i+1) 0 ps:=by delta qx;rw[ol];calc WK F L ps 0
def Fits (ps:¬aO)(fl:¬Int)(A:Nat->Int):Prop:=∀(i:Nat) q f,ps[i]? =#[q]->fl[i]? =#[f]->(f<q.w->A q.b - A q.a<=q.l)/\(0<f->q.l<=A q.b - A q.a)
structure g8 (n:Nat)(ps:¬aO)(st g:Nat)(T:Int)(fl:¬Int)(M C:Int):Prop where
 len:(!fl)=!ps
 lo:∀(i:Nat) q f,ps[i]? =#[q]->fl[i]? =#[f]->0<=f/\f<=q.w
 net:∀z:Nat,zs (λq f=>f*(Sp.b2 (q.b=z) - Sp.b2 (q.a=z))) ps fl=M*(Sp.b2 (g=z) - Sp.b2 (st=z))
 cost:zs (λq f=>f*q.l) ps fl=C
 M0:0<=M
 price:∃π:Nat->Int,π st=0/\T+1<=π g/\(0<M->π g=T+1)/\Fits ps fl π
 near:∃π:Nat->Int,π st=0/\Fits ps fl π/\(π g<=T\/π g<=1/\∀f∈fl,f<=0)
theorem Gy:∀{r:¬(Int×Int)},(∀x∈r,0<x.2)->0<=many r
 |[],_=>by simp[many]
 |x::r,h=>by
  have a:=h x ae;have b:=Gy (r:=r) λy n=>h y<|af _ n;have e:many (x::r)=x.2+many r:=by simp[many]
  lk
def Ld (h:(qx L k)[i]? =#[f]):i<k/\f=lf L (2*i+1):=by
 delta qx at h;rw[ay] at h;by_cases N:i<k
 .rw[ky N] at h;exact⟨N,by simpa using h.symm⟩
 .rw[bm (by simp;lk)] at h;cases h
variable {T:Int}
def aoB (ps:¬aO)(z:Nat):net ps (fW ps) z=0:=by delta net;rw[iK (g:=λ_ _=>0) ps 0 λi q _=>by rw[tK];simp,pB]
def alm (ps:¬aO):cost ps (fW ps)=0:=by delta cost;rw[iK (g:=λ_ _=>0) ps 0 λi q _=>by rw[tK];simp,pB]
def abk (z:aW n ps)(D:st<n)(R:Runs n ps st g #[T] left r A)(S:St n ps st left C)(h:r≠[]\/C g<=T):∃B,St n ps st A B/\B g<=T:=by
 induction R generalizing C with
 |none _ _=>calc(C,S,by rcases h with h|h;calc absurd rfl h;calc h)
 |far _ _ _ _=>calc(C,S,by rcases h with h|h;calc absurd rfl h;calc h)
 |go P N R H=>let(_,_,(l,E,G),_,_):=mR z S D P;calc H E<|.inr (by rw[G];calc N T rfl)
def adS (R:Runs n ps st g c left [] A):A=left:=by cases R<;>rfl
def vK (G:aW n ps)(D:st<n)(hg:g<n)(o:st≠g)(R:Runs n ps st g #[T] (fW ps) r (lf L)):g8 n ps st g T (qx L !ps) (many r) (spent r):=by
 have H:St n ps st (fW ps) (λv=>if v=st then 0 else 1):=yJ G;let((t,J),I,B,hr,_):=La G D R H;let(U,M,y,j,k):=Zf G D hg R H;have A:∀{N},cH n (lf L) (bH ps) N->Fits ps (qx L !ps) N:=λM i q f C O=>by
  let(_,rfl):=Ld O;have h1:=J.laid.sum i q C;refine⟨λh=>?_,λh=>?_⟩
  .have:=M.pay q.a (2*i,q.b,q.l) (G.ra q<|ag C) (fO.mpr (i,q,C,.inl ⟨rfl,rfl⟩)) (by show 0<lf L (2*i);lk);have E:=this;lk
  .have:=M.pay q.b (2*i+1,q.a,-q.l) (G.rb q<|ag C) (fO.mpr (i,q,C,.inr ⟨rfl,rfl⟩)) h;have E:=this;lk
 refine(by simp[qx],λi q f C O=>?_,λz=>?_,?_,Gy λx p=>(hr x p).1,(U,y,j,λY=>k<|.inl ?_,A M),?_)
 .let(_,rfl):=Ld O;have h1:=J.laid.sum i q C;have h2:=J.laid.nn<|2*i;have u:=J.laid.nn<|2*i+1;lk
 .rw[TJ];have:=I z;rw[aoB,iA] at this;exact this
 .rw[TJ];rw[alm,iA] at B;exact B
 .intro z;rw[z] at Y;simp[many] at Y
 .by_cases z:r=[]
  .subst z;have e:=adS R;refine(_,H.z,A (by rw[e];calc H.fit),.inr ⟨by split<;>lk,λf l=>?_⟩);let(i,m):=hE.mp l;let(_,h):=Ld m;rw[h,e,tK];exact bE _
  .let(N,S,Q):=abk G D R H<|.inl z;calc(N,S.z,A S.fit,.inl Q)
def TQ (C:n<=1000)(D:(!ps)<=15):Small n ps:=(C,by lk,vals ps,by rw[adQ];calc cb (oi ⋯ D)<|by decide,λ_ h=>h)
theorem abl (s:Nat):∀(ps:¬aO) (fl:¬Int),zs (λq f=>f*(Sp.b2 (q.a=s) - Sp.b2 (q.b=s))) ps fl= - zs (λq f=>f*(Sp.b2 (q.b=s) - Sp.b2 (q.a=s))) ps fl
 |[],_=>by simp[zs]
 |_::_,[]=>by simp[zs]
 |q::r,f::fs=>by rw[zs,zs,abl s r fs,Int.neg_add,←Int.mul_neg];lk
theorem abm (D:0<=B):∀(ps:¬aO) (fl:¬Int),(∀q∈ps,∀f∈fl,-B<=F q f/\F q f<=B)→-(B*!ps)<=zs F ps fl/\zs F ps fl<=B*!ps
 |[],_,_=>by simp[zs]
 |q::r,[],_=>by
  have:0<=B*((!(q::r)):Int):=fk D ∅
  erw[zs];lk
 |q::r,f::fs,h=>by have G:=abm D r fs λL E A C=>h L (af _ E) A<|af _ C;have h1:=h q ae f ae;rw[zs,a8];lk
end LH
namespace LH
open L2 VM Sp PM
variable {T:Int}
def TV (R:Runs n ps st g none left r A)(h:∀x∈r,x.1<=T):Runs n ps st g #[T] left r A:=by
 induction R with
 |none t C=>calc .none t C
 |far _ _ J _=>lk
 |go P _ _ D=>calc .go P (λI e=>by k_go;calc h _ ae) (D λx B=>h x<|af _ B)
theorem WL:∀{ps:¬aO},(∀q∈ps,0<=q.l)->∀v∈vals ps,v<=(ps.map aO.l).sum
 |[],_,v,M=>by
  have:v=0:=by simpa [vals] using M
  simp[this]
 |q::r,h,v,M=>by
  have D:=h q ae;have B:=WL (ps:=r) λL C=>h L<|af _ C;rw[vals,bd,bd,bg,bg] at M;rw[aT,cq];rcases M with⟨x,A,rfl⟩|A|⟨x,A,rfl⟩
  .have:=B x A;lk
  .have:=B v A;lk
  .have:=B x A;lk
theorem JK (T:Int):∀r:¬(Int×Int),many r*(T+1) - spent r=wsum (λl=>T+1 - l) r
 |[]=>by simp[many,spent,wsum]
 |x::r=>by
  have A:=JK T r;have e:many (x::r)=x.2+many r:=by simp[many]
  have G:spent (x::r)=x.2*x.1+spent r:=by simp[spent]
  rw[e,G,pF,←A,iq,o1];lk
def NQ (r:¬(Int×Int)):many r=wsum (λ_=>1) r:=by simp[many,wsum]
def aln (r:st≠g)(F:g8 n ps st g T fl M C):zs (λq f=>f*(Sp.b2 (q.a=st) - Sp.b2 (q.b=st))) ps fl=M:=by rw[abl,F.net st];delta Sp.b2;rw[ap rfl,aw<|λz=>r z.symm];lk
theorem abn (Z:¬Nat)(c:Nat->aO->Int):∀(ps:¬aO) (fl:¬Int),zs (λq f=>f*(Z.map λz=>c z q).sum) ps fl=(Z.map λz=>zs (λq f=>f*c z q) ps fl).sum
 |[],_=>by
  erw[zs];induction Z with
  |nil=>rfl
  |cons z Z A=>rw[aT,cq,←A];rfl
 |_::_,[]=>by
  erw[zs];induction Z with
  |nil=>rfl
  |cons z Z A=>rw[aT,cq,←A];rfl
 |q::r,f::fs=>by
  erw[zs];rw[abn Z c r fs];induction Z with
  |nil=>simp
  |cons z Z A=>rw[aT,aT,aT,cq,cq,cq,←A,i9];lk
theorem WM (F G:A->Int):∀Z:¬A,(Z.map λz=>F z - G z).sum=(Z.map F).sum - (Z.map G).sum
 |[]=>rfl
 |z::Z=>by rw[aT,aT,aT,cq,cq,cq,WM F G Z];lk
theorem WQ (M:Int)(F:Nat->Int):∀Z:¬Nat,(Z.map λz=>M*F z).sum=M*(Z.map F).sum
 |[]=>by simp
 |z::Z=>by rw[aT,aT,cq,cq,WQ M F Z,i9]
end LH
namespace LH
open L2 VM Sp PM
variable {ps:¬aO}
structure WR (n:Nat)(ps:¬aO)(st g:Nat)(G:¬(Int×Int)):Prop where
 e:Pg.ni [.int n,hD ps,.int st,.int g]=#[(true,.list<|G.map jj)]
 rise:Gv G
 len:(!G)<=16000000
 low:∀x∈G,x.1<=(ps.map aO.l).sum
 flow:∀T:Int,∃fl M C,g8 n ps st g T fl M C/\Pg.gU [.int n,hD ps,.int st,.int g,.int T]=#[(true,.list<|fl.map .int)]/\M*(T+1) - C=jD T G
 most:∃T fl C,g8 n ps st g T fl (many G) C
def adT (B:aW n ps)(sm:Small n ps)(C:st<n)(hg:g<n)(A:st≠g):∃G,WR n ps st g G:=by
 let(r,D,R,O):=agY B sm C hg A;have M:St n ps st (fW ps) (λv=>if v=st then 0 else 1):=yJ B;let(_,_,_,_,N):=La B C R M;let(I,gl):=CG B C A sm.vs R;have low:∀x∈r,x.1<=(ps.map aO.l).sum:=λx E=>WL (λq h=>by have:=B.l1 q h;lk) x.1 (NP B C R M x E);refine⟨grouped r,O,vI r [] N I ⟨.nil,λ_ h=>nomatch h⟩ (λ_ _ _ h=>nomatch h),?_,λx E=>?_,λT=>?_,?_⟩
 .have:=gl !r;rwa [List.take_length] at this
 .rcases Gw r [] x E with⟨z,Q,e⟩|h
  .rw[e];exact low z Q
  .cases h
 .let(H,J):=adN (T:=T) R;let(L,rfl,_,e):=CJ B sm C hg A J;refine⟨_,_,_,vK B C hg A J,e,?_⟩;rw[JK,←Tn r N,jD,Fq]
 .let(L,rfl,_,e):=CJ B sm C hg A<|TV R low;rw[NQ,Fq,←NQ];calc⟨_,_,_,vK B C hg A<|TV R low⟩
def adU {fl:¬Int}(D:(!fl)=!ps)(E:∀q∈ps,q.w<=B)(h:∀(i:Nat) q f,ps[i]? =#[q]->fl[i]? =#[f]->0<=f/\f<=q.w):∀f∈fl,0<=f/\f<=B:=λf C=>by
 let(i,N):=hE.mp C;have A:i<!ps:=by grind
 have h1:=h i _ f (ai A) N;grind
def alo {fl:¬Int}(r:st≠g)(F:g8 n ps st g T fl M C)(D:0<=B)(E:∀q∈ps,q.w<=B):M<=B*!ps:=by
 have A:=adU F.len E F.lo;have h:=abm D ps fl (F:=λq f=>f*(Sp.b2 (q.a=st) - Sp.b2 (q.b=st))) (λq _ f h=>by
  have:=A f h;delta Sp.b2;split<;>split<;>lk)
 rw[aln r F] at h;calc h.2
def abo (h:(!xs)+(!ys)<=16000000):pX (.list xs) (.list ys)=#[.list<|xs++ys]:=ap<|iS<|bw h
end LH
namespace LH
open L2 VM Sp PM
variable {M C:Int}
theorem TX (m:Int)(F:aO->Int):∀(ps:¬aO) (fl:¬Int),zs (λq f=>f*(m*F q)) ps fl=m*zs (λq f=>f*F q) ps fl
 |[],_=>by simp[zs]
 |_::_,[]=>by simp[zs]
 |q::r,f::fs=>by rw[zs,zs,TX m F r fs,i9,←op,nv f m,op]
theorem TY (A:Nat->Int)(a:Nat):∀{Z:¬Nat},Z.Nodup->(Z.map λz=>A z*Sp.b2 (a=z)).sum=if a∈Z then A a else 0
 |[],_=>by simp
 |z::Z,nd=>by
  let(h1,h2):=cS.mp nd;rw[aT,cq,TY A a h2];delta Sp.b2;by_cases e:a=z
  .subst e;simp[h1]
  .simp[e]
def NT (A:Nat->Int)(h:a<n):((List.range n).map λz=>A z*Sp.b2 (a=z)).sum=A a:=by rw[TY A a List.nodup_range,ap<|mx.mpr h]
def T3 (A:Nat->Int)(G:a<n)(B:b<n):((List.range n).map λz=>A z*(Sp.b2 (b=z) - Sp.b2 (a=z))).sum=A b - A a:=by
 have e:((List.range n).map λz=>A z*(Sp.b2 (b=z) - Sp.b2 (a=z)))=(List.range n).map λz=>A z*Sp.b2 (b=z) - A z*Sp.b2 (a=z):=cx λz _=>by rw[o1]
 rw[e,WM,NT A B,NT A G]
theorem xJ:∀{ps:¬aO}{fl:¬Int},(∀q∈ps,∀f,F q f=G q f)->zs F ps fl=zs G ps fl
 |[],_,_=>by simp[zs]
 |_::_,[],_=>by simp[zs]
 |q::r,f::fs,h=>by rw[zs,zs,h q ae,xJ λL T A=>h L (af _ T) A]
def ajd (D:aW n ps)(B:st<n)(hg:g<n)(net:∀z:Nat,zs (λq f=>f*(Sp.b2 (q.b=z) - Sp.b2 (q.a=z))) ps fl=M*(Sp.b2 (g=z) - Sp.b2 (st=z)))(A:Nat->Int):zs (λq f=>f*(A q.b - A q.a)) ps fl=M*(A g - A st):=by
 have E:zs (λq f=>f*(A q.b - A q.a)) ps fl=zs (λq f=>f*((List.range n).map λz=>A z*(Sp.b2 (q.b=z) - Sp.b2 (q.a=z))).sum) ps fl:=xJ λq T f=>by rw[T3 A (D.ra q T)<|D.rb q T]
 rw[E,abn (List.range n)<|λz q=>A z*(Sp.b2 (q.b=z) - Sp.b2 (q.a=z))];have G:((List.range n).map λz=>zs (λq f=>f*(A z*(Sp.b2 (q.b=z) - Sp.b2 (q.a=z)))) ps fl)=(List.range n).map λz=>M*(A z*(Sp.b2 (g=z) - Sp.b2 (st=z))):=cx λz _=>by rw[TX (A z)<|λq=>Sp.b2 (q.b=z) - Sp.b2 (q.a=z),net z,←op,nv (A z) M,op]
 rw[G,WQ M,T3 A B hg]
theorem WT (F G:aO->Int->Int):∀(ps:¬aO) (fl:¬Int),zs (λq f=>F q f - G q f) ps fl=zs F ps fl - zs G ps fl
 |[],_=>by simp[zs]
 |_::_,[]=>by simp[zs]
 |q::r,f::fs=>by rw[zs,zs,zs,WT F G r fs];lk
theorem WW:∀{ps:¬aO}{fl:¬Int},(∀(i:Nat) q f,ps[i]? =#[q]->fl[i]? =#[f]->F q f<=G q f)->zs F ps fl<=zs G ps fl
 |[],_,_=>by simp[zs]
 |_::_,[],_=>by simp[zs]
 |q::r,f::fs,h=>by have B:=h 0 q f rfl rfl;have:=WW (F:=F) (G:=G) (ps:=r) (fl:=fs) λi L A a b=>h (i+1) L A ‹a› ‹b›;rw[zs,zs];lk
theorem afw:∀{ps:¬aO}{fl:¬Int},(∀(i:Nat) q f,ps[i]? =#[q]->fl[i]? =#[f]->F q f=G q f)->zs F ps fl=zs G ps fl
 |[],_,_=>by simp[zs]
 |_::_,[],_=>by simp[zs]
 |q::r,f::fs,h=>by rw[zs,zs,h 0 q f rfl rfl,afw λi L A a b=>h (i+1) L A ‹a› ‹b›]
def over (A:Nat->Int)(q:aO):Int:=if q.l<A q.b - A q.a then q.w*(A q.b - A q.a - q.l) else 0
def CK (D:aW n ps)(B:st<n)(hg:g<n)(net:∀z:Nat,zs (λq f=>f*(Sp.b2 (q.b=z) - Sp.b2 (q.a=z))) ps fl=M*(Sp.b2 (g=z) - Sp.b2 (st=z)))(cost:zs (λq f=>f*q.l) ps fl=C){A:Nat->Int}(r:A st=0)(E:A g=T+1):M*(T+1) - C=zs (λq f=>f*(A q.b - A q.a - q.l)) ps fl:=by have e:=ajd D B hg net A;rw[r,E,pT] at e;rw[<-e,←cost,←WT];calc xJ λq _ f=>by rw[o1 f (A q.b - A q.a) q.l]
def NZ (D:aW n ps)(A:st<n)(hg:g<n)(lo:∀(i:Nat) q f,ps[i]? =#[q]->fl[i]? =#[f]->0<=f/\f<=q.w)(net:∀z:Nat,zs (λq f=>f*(Sp.b2 (q.b=z) - Sp.b2 (q.a=z))) ps fl=M*(Sp.b2 (g=z) - Sp.b2 (st=z)))(cost:zs (λq f=>f*q.l) ps fl=C){B:Nat->Int}(r:B st=0)(E:B g=T+1):M*(T+1) - C<=zs (λq _=>over B q) ps fl:=by
 rw[CK D A hg net cost r E];refine WW λi q f a b=>?_;have h:=lo i q f a b;delta over;split
 .simp_all
 .calc ko h.1 ∅
def Fv (E:aW n ps)(D:st<n)(hg:g<n)(lo:∀(i:Nat) q f,ps[i]? =#[q]->fl[i]? =#[f]->0<=f/\f<=q.w)(net:∀z:Nat,zs (λq f=>f*(Sp.b2 (q.b=z) - Sp.b2 (q.a=z))) ps fl=M*(Sp.b2 (g=z) - Sp.b2 (st=z)))(cost:zs (λq f=>f*q.l) ps fl=C){A:Nat->Int}(r:A st=0)(H:A g=T+1)(B:Fits ps fl A):M*(T+1) - C=zs (λq _=>over A q) ps fl:=by
 rw[CK E D hg net cost r H];refine afw λi q f a b=>?_;have h:=lo i q f a b;have G:=B i q f a b;delta over;split
 .grind
 .rename_i z;by_cases p:0<f
  .have:=G.2 p
   have:A q.b - A q.a - q.l=0:=by lk
   grind
  .omega
theorem vL (F:aO->Int):∀{ps:¬aO}{fl:¬Int},(!fl)=!ps->zs (λq _=>F q) ps fl=(ps.map F).sum
 |[],_,_=>by simp[zs]
 |_::_,[],h=>by simp at h
 |q::r,f::fs,h=>by rw[zs,aT,cq,vL F<|‹h›]
end LH
namespace LH
open L2 VM Sp PM
variable {M:Int}
def inF (z:Nat):aO->Int->Int:=λq f=>f*Sp.b2 (q.b=z)
def outF (z:Nat):aO->Int->Int:=λq f=>f*Sp.b2 (q.a=z)
theorem vM (z:Nat):∀(ps:¬aO) (fl:¬Int),zs (λq f=>f*(Sp.b2 (q.b=z) - Sp.b2 (q.a=z))) ps fl=zs (inF z) ps fl - zs (outF z) ps fl
 |[],_=>by simp[zs]
 |_::_,[]=>by simp[zs]
 |q::r,f::fs=>by rw[zs,zs,zs,vM z r fs,o1];delta inF outF;lk
def QG (p:Prop)[Decidable p]:0<=Sp.b2 p:=by delta Sp.b2;split<;>decide
theorem Zk:∀{ps:¬aO}{fl:¬Int},(∀(i:Nat) q f,ps[i]? =#[q]->fl[i]? =#[f]->0<=F q f)->0<=zs F ps fl
 |[],_,_=>by simp[zs]
 |_::_,[],_=>by simp[zs]
 |q::r,f::fs,h=>by have B:=h 0 q f rfl rfl;have:=Zk (F:=F) (ps:=r) (fl:=fs) λi L A a b=>h (i+1) L A ‹a› ‹b›;rw[zs];lk
theorem Ef:∀{ps:¬aO}{fl:¬Int},(∀(i:Nat) q f,ps[i]? =#[q]->fl[i]? =#[f]->0<=F q f)->∀(i:Nat) q f,ps[i]? =#[q]->fl[i]? =#[f]->F q f<=zs F ps fl
 |[],_,_,i,q,f,a,_=>by simp at a
 |_::_,[],_,i,q,f,_,b=>by simp at b
 |p::r,G::fs,h,0,q,f,a,b=>by
  cases a;cases b;have:=Zk (F:=F) (ps:=r) (fl:=fs) λi L A a b=>h (i+1) L A ‹a› ‹b›;rw[zs];lk
 |p::r,G::fs,h,i+1,q,f,a,b=>by have B:=h 0 p G rfl rfl;have:=Ef (F:=F) (ps:=r) (fl:=fs) (λi L A a b=>h (i+1) L A ‹a› ‹b›) i q f ‹a› ‹b›;rw[zs];lk
theorem Le:∀{ps:¬aO}{fl:¬Int},0<zs F ps fl->∃(i:Nat) (q:aO) (f:Int),ps[i]? =#[q]/\fl[i]? =#[f]/\0<F q f
 |[],_,h=>by simp[zs] at h
 |_::_,[],h=>by simp[zs] at h
 |q::r,f::fs,h=>by
  rw[zs] at h;by_cases L:0<F q f
  .exact(0,q,f,rfl,rfl,L)
  .let(i,B,A,a,b,c):=Le (F:=F) (ps:=r) (fl:=fs) ∅;calc(i+1,B,A,by simpa using a,by simpa using b,c)
def abp [Decidable p](h:0<f*Sp.b2 p):0<f/\p:=by
 delta Sp.b2 at h;split at h
 .rename_i D;exact⟨by lk,D⟩
 .omega
structure Cons (ps:¬aO)(st g:Nat)(fl:¬Int)(M:Int):Prop where
 nn:∀(i:Nat) q f,ps[i]? =#[q]->fl[i]? =#[f]->0<=f
 net:∀z:Nat,zs (λq f=>f*(Sp.b2 (q.b=z) - Sp.b2 (q.a=z))) ps fl=M*(Sp.b2 (g=z) - Sp.b2 (st=z))
def Cons.aje (K:Cons ps st g fl M)(z:Nat):∀(i:Nat) q f,ps[i]? =#[q]->fl[i]? =#[f]->0<=inF z q f:=λi q f a b=>fk (K.nn i q f a b)<|QG _
def Cons.afx (K:Cons ps st g fl M)(z:Nat):∀(i:Nat) q f,ps[i]? =#[q]->fl[i]? =#[f]->0<=outF z q f:=λi q f a b=>fk (K.nn i q f a b)<|QG _
def T4 (h:0<zs (outF z) ps fl):∃(i:Nat) (q:aO) (f:Int),ps[i]? =#[q]/\fl[i]? =#[f]/\0<f/\q.a=z:=by let(i,q,f,a,b,c):=Le h;have:=abp c;calc(i,q,f,a,b,this.1,this.2)
def Cons.start (K:Cons ps st g fl M)(r:st≠g)(A:0<M):∃(i:Nat) (q:aO) (f:Int),ps[i]? =#[q]/\fl[i]? =#[f]/\0<f/\q.a=st:=by
 have e:=K.net st;rw[vM] at e;have h1:=Zk<|K.aje st;have G:Sp.b2 (g=st) - Sp.b2 (st=st)= -1:=by delta Sp.b2;rw[aw<|λz=>r z.symm,ap rfl];rfl
 rw[G] at e;calc T4 ∅
def Cons.on (K:Cons ps st g fl M)(A:0<=M){i:Nat}(a:ps[i]? =#[q])(b:fl[i]? =#[f])(C:0<f)(hg:q.b≠g\/M=0):∃(j:Nat) (p:aO) (h:Int),ps[j]? =#[p]/\fl[j]? =#[h]/\0<h/\p.a=q.b:=by
 have e:=K.net q.b;rw[vM] at e;have h1:=Ef (K.aje q.b) i q f a b;have h2:inF q.b q f=f:=by delta inF Sp.b2;rw[ap rfl];lk
 rw[h2] at h1;have J:M*(Sp.b2 (g=q.b) - Sp.b2 (st=q.b))<=0:=by
  rcases hg with hg|hg
  .have:Sp.b2 (g=q.b)=0:=by delta Sp.b2;rw[aw<|λz=>hg z.symm]
   rw[this];have:=QG<|st=q.b;exact ko A ∅
  .rw[hg];lk
 calc T4 ∅
def Cons.none (K:Cons ps st g fl 0){ρ:Nat->Int}(D:∀(i:Nat) q f,ps[i]? =#[q]->fl[i]? =#[f]->0<f->ρ q.a<ρ q.b):∀(i:Nat) q f,ps[i]? =#[q]->fl[i]? =#[f]->f=0:=by
 obtain⟨R,L⟩:∃R,∀q∈ps,ρ q.b<=R:=by
  clear K D;induction ps with
  |nil=>calc⟨0,by simp⟩
  |cons p r A=>
   let(R,h):=A;refine⟨max R<|ρ p.b,λq T=>?_⟩;rcases bq.mp T with rfl|T
   .exact qE ..
   .exact eB (h q T)<|lp ..
 have B:∀(k:Nat) (i:Nat) q f,ps[i]? =#[q]->fl[i]? =#[f]->0<f->R - ρ q.b<k->False:=λk=>by
  induction k with
  |zero=>intro i q f a b C G;have:=L q<|ag a;lk
  |succ k A=>intro i q f a b C G;let(j,p,h,E,N,H,e):=K.on (bE _) a b C<|.inr rfl;have u:=D j p h E N H;rw[e] at u;exact A j p h E N H ∅
 intro i q f a b;have I:=K.nn i q f a b;by_cases C:0<f
 .exact(B ((R - ρ q.b).toNat+1) i q f a b C ∅).elim
 .omega
def WX (h:0<zs (inF z) ps fl):∃(i:Nat) (q:aO) (f:Int),ps[i]? =#[q]/\fl[i]? =#[f]/\0<f/\q.b=z:=by let(i,q,f,a,b,c):=Le h;have:=abp c;calc(i,q,f,a,b,this.1,this.2)
def Cons.back (K:Cons ps st g fl M)(A:0<=M){i:Nat}(a:ps[i]? =#[q])(b:fl[i]? =#[f])(C:0<f)(D:q.a≠st):∃(j:Nat) (p:aO) (h:Int),ps[j]? =#[p]/\fl[j]? =#[h]/\0<h/\p.b=q.a:=by
 have e:=K.net q.a;rw[vM] at e;have h1:=Ef (K.afx q.a) i q f a b;have h2:outF q.a q f=f:=by delta outF Sp.b2;rw[ap rfl];lk
 rw[h2] at h1;have J:0<=M*(Sp.b2 (g=q.a) - Sp.b2 (st=q.a)):=by
  have:Sp.b2 (st=q.a)=0:=by delta Sp.b2;rw[aw<|λz=>D z.symm]
  rw[this];have:=QG<|g=q.a;exact fk A ∅
 calc WX ∅
def Cons.high (K:Cons ps st g fl M)(I:0<=M){ρ:Nat->Int}(D:∀(i:Nat) q f,ps[i]? =#[q]->fl[i]? =#[f]->0<f->ρ q.a<ρ q.b):∀(i:Nat) q f,ps[i]? =#[q]->fl[i]? =#[f]->0<f->ρ q.b<=ρ g:=by
 obtain⟨R,L⟩:∃R,∀q∈ps,ρ q.b<=R:=by
  clear K D;induction ps with
  |nil=>calc⟨0,by simp⟩
  |cons p r A=>
   let(R,h):=A;refine⟨max R<|ρ p.b,λq T=>?_⟩;rcases bq.mp T with rfl|T
   .exact qE ..
   .exact eB (h q T)<|lp ..
 have B:∀(k:Nat) (i:Nat) q f,ps[i]? =#[q]->fl[i]? =#[f]->0<f->R - ρ q.b<k->ρ q.b<=ρ g:=λk=>by
  induction k with
  |zero=>intro i q f a b C J;have:=L q<|ag a;lk
  |succ k A=>
   intro i q f a b C J;by_cases e:q.b=g
   .rw[e];exact bE _
   .let(j,p,h,E,N,H,G):=K.on I a b C<|.inl e;have u:=D j p h E N H;rw[G] at u;have:=A j p h E N H ∅;lk
 intro i q f a b C;calc B ((R - ρ q.b).toNat+1) i q f a b C ∅
def Cons.low (K:Cons ps st g fl M)(I:0<=M){ρ:Nat->Int}(D:∀(i:Nat) q f,ps[i]? =#[q]->fl[i]? =#[f]->0<f->ρ q.a<ρ q.b):∀(i:Nat) q f,ps[i]? =#[q]->fl[i]? =#[f]->0<f->ρ st<=ρ q.a:=by
 obtain⟨R,L⟩:∃R,∀q∈ps,R<=ρ q.a:=by
  clear K D;induction ps with
  |nil=>calc⟨0,by simp⟩
  |cons p r A=>
   let(R,h):=A;refine⟨min R<|ρ p.a,λq T=>?_⟩;rcases bq.mp T with rfl|T
   .exact kS ..
   .exact eB (ri ..)<|h q T
 have B:∀(k:Nat) (i:Nat) q f,ps[i]? =#[q]->fl[i]? =#[f]->0<f->ρ q.a - R<k->ρ st<=ρ q.a:=λk=>by
  induction k with
  |zero=>intro i q f a b C J;have:=L q<|ag a;lk
  |succ k A=>
   intro i q f a b C J;by_cases e:q.a=st
   .rw[e];exact bE _
   .let(j,p,h,E,N,H,G):=K.back I a b C e;have u:=D j p h E N H;rw[G] at u;have:=A j p h E N H ∅;lk
 intro i q f a b C;calc B ((ρ q.a - R).toNat+1) i q f a b C ∅
def g8.cons (F:g8 n ps st g T fl M C):Cons ps st g fl M:=⟨λi q f a b=>(F.lo i q f a b).1,F.net⟩
def g8.yK {T C:Int}(H:aW n ps)(F:g8 n ps st g T fl M C)(Y:0<=T):∃A:Nat->Int,A st=0/\A g=T+1/\(∀v,0<=A v/\A v<=T+1)/\Fits ps fl A:=by
 let(G,U,N,m,E):=F.price;have B:∀(i:Nat) q f,ps[i]? =#[q]->fl[i]? =#[f]->0<f->G q.a<G q.b:=λi q f a b L=>by have:=(E i q f a b).2 L;have:=H.l1 q<|ag a;lk
 have D:∀{a:Int},0<=a->a<=T+1->min (max a 0) (T+1)=a:=by lk
 have I:∀{a b l:Int},0<=l->a - b<=l->min (max a 0) (T+1) - min (max b 0) (T+1)<=l:=by lk
 refine(λv=>min (max (G v) 0)<|T+1,?_,qB<|eB N<|lp ..,λv=>⟨by lk,kS ..⟩,λi q f a b=>⟨λh=>I (by have:=H.l1 q<|ag a;lk) ((E i q f a b).1 h),λh=>?_⟩)
 .dsimp only;rw[U];exact D (bE _) ∅
 .have h1:=(E i q f a b).2 h;have h2:=F.cons.low F.M0 B i q f a b h;have O:=F.cons.high F.M0 B i q f a b h;have Q:=B i q f a b h;have J:0<M:=by
   have r:=F.M0;by_cases z:M=0
   .have K:=F.cons;rw[z] at K;have:=K.none B i q f a b;lk
   .omega
  have k:=m J;k_ne;rwa [D ∅ ∅,D ∅ ∅]
def g8.le {T C:Int}(z:aW n ps)(B:st<n)(hg:g<n)(U:0<=T)(F:g8 n ps st g T fl M C)(A:g8 n ps st g T I H G):M*(T+1) - C<=H*(T+1) - G:=by let(J,r,E,_,D):=A.yK z U;rw[Fv z B hg A.lo A.net A.cost r E D,vL _ A.len,←vL _ F.len];calc NZ z B hg F.lo F.net F.cost r E
end LH
namespace LH
open L2 VM Sp PM
variable {M:Int}
def goes (ps:¬aO):Nat->¬Nat->↑Nat
 |u,[]=>#[u]
 |u,j::w=>match ps[j]? with
  |some q=>if q.a=u then goes ps q.b w else none
  |none=>none
theorem N5 (T:ps[j]? =#[q]):∀{w:¬Nat}{u:Nat},goes ps u w=#[q.a]->goes ps u (w++[j])=#[q.b]
 |[],u,h=>by erw[goes,eA] at h;simp only[gm,goes,T,h,↓reduceIte]
 |i::w,u,h=>by
  rw[kz,goes];rw[goes] at h;cases e:ps[i]? with
  |none=>lk
  |some p=>
   rw[e] at h;simp only at h ⊢;by_cases G:p.a=u
   .rw[ap G] at h ⊢;exact N5 T h
   .omega
def Am (F:aO->Int)(ps:¬aO)(j:Nat):Int:=match ps[j]? with
 |some q=>F q
 |none=>0
def mU (h:ps[j]? =#[q]):Am F ps j=F q:=by delta Am;rw[h]
def bT (F:aO->Int)(ps:¬aO)(w:¬Nat):Int:=(w.map<|Am F ps).sum
def JL (F:aO->Int):bT F ps []=0:=rfl
def jN (F:aO->Int)(j:Nat)(w:¬Nat):bT F ps (j::w)=Am F ps j+bT F ps w:=by simp[bT]
theorem zV (A:Nat->Int):∀{w:¬Nat}{u v:Nat},goes ps u w=#[v]->bT (λq=>A q.b - A q.a) ps w=A v - A u
 |[],u,v,h=>by erw[goes,eA] at h;rw[JL,h];lk
 |j::w,u,v,h=>by
  rw[goes] at h;cases e:ps[j]? with
  |none=>rw[e] at h;cases h
  |some p=>
   rw[e] at h;simp only at h;by_cases G:p.a=u
   .rw[ap G] at h;rw[jN,zV A h,mU e,G];lk
   .rw[aw G] at h;cases h
theorem zW (F G:aO->Int):∀w:¬Nat,(∀j∈w,j<!ps)->bT (λq=>F q - G q) ps w=bT F ps w - bT G ps w
 |[],_=>rfl
 |j::w,h=>by have e:=ai<|h j ae;rw[jN,jN,jN,zW F G w λi N=>h i<|af _ N,mU e,mU e,mU e];lk
theorem N6:∀{w:¬Nat},(∀j∈w,0<=Am F ps j)->0<=bT F ps w
 |[],_=>bE _
 |j::w,h=>by have:=N6 (w:=w) λi N=>h i<|af _ N;have:=h j ae;rw[jN];lk
def mV (h:L[i]? =#[f]):lf L i=f:=by delta lf;rw[br,h];rfl
def oh (h:i<!L):L[i]? =#[lf L i]:=by delta lf;rw[br,ai h];rfl
def sI (m:Int)(fl:¬Int)(j:Nat):¬Int:=fl.set j<|lf fl j - m
def jE (m:Int)(fl:¬Int)(w:¬Nat):¬Int:=w.foldl (sI m) fl
def tM (m:Int)(fl:¬Int)(j:Nat):(!(sI m fl j))=!fl:=cc ..
theorem pH (m:Int):∀(w:¬Nat) (fl:¬Int),(!(jE m fl w))=!fl
 |[],_=>rfl
 |j::w,fl=>by show (!(jE m (sI m fl j) w))=_;rw[pH m w,tM]
def adV (h:j<!fl)(i:Nat):lf (sI m fl j) i=lf fl i - if i=j then m else 0:=by
 by_cases e:i=j
 .subst e;rw[ap rfl];exact mV (by delta sI;rw[bo h])
 .rw[aw e,pT];delta sI lf;erw[br,bP<|λz=>e z.symm]
theorem rF:∀{w:¬Nat}{fl:¬Int},w.Nodup->(∀j∈w,j<!fl)->∀i,lf (jE m fl w) i=lf fl i - if i∈w then m else 0
 |[],_,_,_,i=>by simp[jE]
 |j::w,fl,nd,h,i=>by let(r,Y):=cS.mp nd;show lf (jE m (sI m fl j) w) i=_;rw[rF Y (λi N=>by rw[tM];calc h i<|af _ N),adV<|h j ae];grind
theorem abq (F:aO->Int)(x:Int):∀(ps:¬aO) (fl:¬Int) (j:Nat),(!fl)=!ps->j<!fl->zs (λq f=>f*F q) ps (fl.set j<|lf fl j - x)=zs (λq f=>f*F q) ps fl - x*Am F ps j
 |[],[],j,_,h=>by simp at h
 |[],_::_,_,e,_=>by simp at e
 |_::_,[],_,e,_=>by simp at e
 |q::r,f::fs,0,e,_=>by have B:lf (f::fs) 0=f:=rfl;have G:Am F (q::r) 0=F q:=rfl;rw[kP,zs,zs,B,G,Int.sub_mul];lk
 |q::r,f::fs,j+1,e,h=>by have B:lf (f::fs) (j+1)=lf fs j:=rfl;have G:Am F (q::r) (j+1)=Am F r j:=rfl;rw[kQ,zs,zs,B,G,abq F x r fs j ‹e› ‹h›];lk
theorem Lg (F:aO->Int)(m:Int):∀{w:¬Nat}{fl:¬Int},(!fl)=!ps->(∀j∈w,j<!fl)->zs (λq f=>f*F q) ps (jE m fl w)=zs (λq f=>f*F q) ps fl - m*bT F ps w
 |[],fl,_,_=>by rw[JL,nt,pT];rfl
 |j::w,fl,e,h=>by show zs _ ps (jE m (sI m fl j) w)=_;rw[Lg F m (by rw[tM];calc e) (λi N=>by rw[tM];calc h i<|af _ N)];delta sI;rw[abq F m ps fl j e<|h j ae,jN,i9];lk
def lZ:¬Int->Nat
 |[]=>0
 |f::r=>(if 0<f then 1 else 0)+lZ r
theorem WY:∀{a b:¬Int},(!a)=!b->(∀i:Nat,0<lf a i->0<lf b i)->lZ a<=lZ b
 |[],[],_,_=>av _
 |[],_::_,e,_=>by simp at e
 |_::_,[],e,_=>by simp at e
 |x::a,y::b,e,h=>by
  have B:=WY (a:=a) (b:=b) ‹e› λi N=>h (i+1) N;have L:0<x->0<y:=h 0;rw[lZ,lZ];by_cases A:0<x
  .rw[ap A,ap<|L A];lk
  .rw[aw A];lk
theorem Lh:∀{a b:¬Int},(!a)=!b->(∀i:Nat,0<lf a i->0<lf b i)->(∃i:Nat,lf a i<=0/\0<lf b i)->lZ a<lZ b
 |[],[],_,_,(i,h1,h2)=>by simp[lf] at h2
 |[],_::_,e,_,_=>by simp at e
 |_::_,[],e,_,_=>by simp at e
 |x::a,y::b,e,h,(i,h1,h2)=>by
  have A:(!a)=!b:=‹e›
  have H:∀i:Nat,0<lf a i->0<lf b i:=λi N=>h (i+1) N;rw[lZ,lZ];cases i with
  |zero=>have B:x<=0:=h1;have U:0<y:=h2;have:=WY A H;lk
  |succ i=>have:=Lh A H (i,h1,h2);have L:0<x->0<y:=h 0;lk
theorem vO:∀a:¬Int,lZ a<=!a
 |[]=>av _
 |x::a=>by have:=vO a;rw[lZ,a8];split<;>lk
def share (i:Nat):¬(¬Nat×Int)->Int
 |[]=>0
 |x::b=>(if i∈x.1 then x.2 else 0)+share i b
def CN (F:aO->Int)(ps:¬aO):¬(¬Nat×Int)->Int
 |[]=>0
 |x::b=>x.2*bT F ps x.1+CN F ps b
structure vP (ps:¬aO)(st g:Nat)(x:¬Nat×Int):Prop where
 go:goes ps st x.1=#[g]
 nd:x.1.Nodup
 ix:∀j∈x.1,j<!ps
 ne:x.1≠[]
 m1:1<=x.2
structure lM (ps:¬aO)(st g:Nat)(fl:¬Int)(ws:¬(¬Nat×Int)):Prop where
 walk:∀x∈ws,vP ps st g x
 sum:∀i:Nat,i<!ps->share i ws=lf fl i
 few:(!ws)<=lZ fl
 tot:∀F:aO->Int,CN F ps ws=zs (λq f=>f*F q) ps fl
def Up (ps:¬aO)(fl:¬Int)(ρ:Nat->Int):Prop:=∀(i:Nat) q f,ps[i]? =#[q]->fl[i]? =#[f]->0<f->ρ q.a<ρ q.b
theorem W0 (F:aO->Int):∀{ps:¬aO}{fl:¬Int},(∀i:Nat,i<!ps->lf fl i=0)->zs (λq f=>f*F q) ps fl=0
 |[],_,_=>by simp[zs]
 |_::_,[],_=>by simp[zs]
 |q::r,f::fs,h=>by have L:f=0:=h 0 's';rw[zs,L,np,W0 F (ps:=r) (fl:=fs) λi N=>h (i+1)<|‹N›];rfl
def lM.nil (h:∀i:Nat,i<!ps->lf fl i=0):lM ps st g fl []:=
 (λ_ h=>(nomatch h),λi N=>(h i N).symm,cv _,λF=>(W0 F h).symm)
def Cons.take (K:Cons ps st g fl M)(N:(!fl)=!ps)(E:goes ps st w=#[g])(nd:w.Nodup)(hi:∀j∈w,j<!ps)(D:∀j∈w,m<=lf fl j):Cons ps st g (jE m fl w) (M - m):=by
 have B:∀j∈w,j<!fl:=λj Y=>by rw[N];exact hi j Y
 refine⟨λi q f a b=>?_,λz=>?_⟩
 .have e:=rF (m:=m) nd B i;rw[mV b] at e;have C:i<!fl:=by have:=(ah.mp b).1;rwa [pH] at this
  have:=K.nn i q _ a<|oh C;rw[e];by_cases A:i∈w
  .rw[ap A];have:=D i A;lk
  .rw[aw A];lk
 .have:=Lg (λq=>Sp.b2 (q.b=z) - Sp.b2 (q.a=z)) m N B;rw[this,K.net z,zV (λv=>Sp.b2<|v=z) E,Int.sub_mul]
def Gz (A:0<=m)(nd:w.Nodup)(hi:∀j∈w,j<!fl)(h:0<lf (jE m fl w) i):0<lf fl i:=by rw[rF nd hi i] at h;lk
def Up.take (U:Up ps fl ρ)(B:0<=m)(nd:w.Nodup)(hi:∀j∈w,j<!fl):Up ps (jE m fl w) ρ:=λi q f a b h=>by
 have A:i<!fl:=by have:=(ah.mp b).1;rwa [pH] at this
 rw[<-mV b] at h;calc U i q _ a (oh A)<|Gz B nd hi h
def lM.more {ws:¬(¬Nat×Int)}(N:(!fl)=!ps)(W:vP ps st g (w,m))(D:∀j∈w,m<=lf fl j)(G:∃j∈w,lf fl j=m)(P:lM ps st g (jE m fl w) ws):lM ps st g fl ((w,m)::ws):=by
 have B:∀j∈w,j<!fl:=λj Y=>by rw[N];exact W.ix j Y
 have E:=W.m1;simp only at E;refine(λx A=>?_,λi C=>?_,?_,λF=>?_)
 .rcases bq.mp A with rfl|A
  .exact W
  .exact P.walk x A
 .have:=P.sum i C;rw[rF W.nd B i] at this;rw[share,this];lk
 .have h1:=P.few;let(j,Y,e):=G;have h2:lZ (jE m fl w)<lZ fl:=Lh (pH ..) (λi h=>Gz ∅ W.nd B h) (j,by rw[rF W.nd B j,ap Y];lk,by lk);grind
 .rw[CN,P.tot F,Lg F m N B];lk
def Cons.most (K:Cons ps st g fl M)(N:(!fl)=!ps)(r:st≠g)(U:Up ps fl ρ)(D:0<=M)(A:goes ps st w=#[g])(hi:∀j∈w,j<!ps)(I:∀j∈w,m<=lf fl j)(wn:w≠[]):0<=M - m:=by
 cases w with
 |nil=>lk
 |cons j w=>
  have Y:=hi j ae;have J:=I j ae;have e:=ai Y;rw[goes,e] at A;simp only at A;by_cases E:ps[j].a=st
  .have B:=oh (by rwa [N]);have part:=Ef (K.afx st) j _ _ e B;have C:=K.net st;rw[vM] at C;have G:Sp.b2 (g=st) - Sp.b2 (st=st)= -1:=by delta Sp.b2;rw[aw<|λz=>r z.symm,ap rfl];rfl
   rw[G] at C;have H:zs (inF st) ps fl<=0:=by
    by_cases z:0<zs (inF st) ps fl
    .let(i,q,f,a,b,c,d):=WX z;have h1:=K.low D U i q f a b c;have h2:=U i q f a b c;lk
    .omega
   have L:outF st ps[j] (lf fl j)=lf fl j:=by delta outF Sp.b2;rw[ap E,Int.mul_one]
   lk
  .omega
def T5 {ws:¬(¬Nat×Int)}(h:∀x∈ws,1<=x.2)(i:Nat):0<=share i ws:=by
 induction ws with
 |nil=>calc bE _
 |cons x ws A=>have:=A λy n=>h y<|af _ n;have:=h x ae;rw[share];lk
def adW {ws:¬(¬Nat×Int)}(h:∀x∈ws,1<=x.2):∀x∈ws,i∈x.1->x.2<=share i ws:=by
 induction ws with
 |nil=>simp
 |cons y ws B=>intro x A N;have L:=T5 (λy n=>h y<|af _ n) i;have h1:=h y ae;rw[share];grind
def lM.has {ws:¬(¬Nat×Int)}(P:lM ps st g fl ws)(A:x∈ws):∀j∈x.1,x.2<=lf fl j/\0<lf fl j:=λj Y=>by have E:=(P.walk x A).m1;have:=adW (λy n=>(P.walk y n).m1) x A Y;rw[P.sum j<|(P.walk x A).ix j Y] at this;lk
end LH
namespace LH
open L2 VM Sp PM
variable {st g:Nat}
def QH (ps:¬aO)(fl:¬Int)(u k:Nat)(o:Out):Prop:=
 (∃(i:Nat) (q:aO) (D:GS),ps[i]? =#[q]/\q.a=u/\0<lf fl i/\o=Out.ret D false (.int (i:Int)))\/
 ((∀(i:Nat) (q:aO),k<=i->ps[i]? =#[q]->q.a=u->lf fl i<=0)/\∃A B,o=Out.nxt [#[(Tg.fr,.list<|(ps.map toPq).map pD)],#[(Tg.fr,.int (u:Int))],#[(Tg.fr,.list<|fl.map .int)],ob A,ob B])
def QH.step (h:QH ps fl u (k+1) o)(L:∀q:aO,ps[k]? =#[q]->q.a=u->lf fl k<=0):QH ps fl u k o:=by
 rcases h with h|⟨h1,h2⟩
 .exact .inl h
 .refine .inr ⟨λi q N e G=>?_,h2⟩;by_cases z:i=k
  .subst z;exact L q e G
  .calc h1 i q ∅ e G
theorem W3 (N:(!fl)=!ps):∀(r:¬aO) (k:Nat) (T G:↑()),(∀j:Nat,r[j]? =ps[k+j]?)->
  QH ps fl u k (eE (gT 2 (gC (gN 3) (gC (gN 4) g0)))
   (gw (mj (vB<|v2 kE (v2 bB (vN 4)<|vC<|.int 0)<|vN 1)<|vB<|v2 Ah (v2 bB (vN 2)<|vN 3)<|vC<|.int 0) (iB 3) dH)
   (oG k ((r.map toPq).map pD)) [#[(Tg.fr,.list ((ps.map toPq).map pD))],#[(Tg.fr,.int (u:Int))],#[(Tg.fr,.list (fl.map .int))],ob T,ob G])
 |[],k,T,G,h=>.inr (λi q L e=>by
  have:=h (i - k);rw[show k+(i - k)=i by lk,e] at this;simp at this,T,G,rfl)
 |q::r,k,T,G,h=>by
  have M:ps[k]? =#[q]:=(h 0).symm;have Y:k<!fl:=by rw[N];exact(ah.mp M).1
  have hr:∀j:Nat,r[j]? =ps[k+1+j]?:=λj=>by have:=h<|j+1;rw[kX] at this;rw[this];congr 1;lk
  have A:=W3 (u:=u) N r (k+1) (#[.int (k:Int)]) (#[pD<|toPq q]) hr;have H:oG k (((q::r).map toPq).map pD)=.tuple [.int (k:Int),pD<|toPq q]::oG (k+1) ((r.map toPq).map pD):=rfl;have I:pD (toPq q)=.tuple [.int (q.a:Int),.int (q.b:Int),.int q.w,.int q.l]:=rfl;rw[H];erw[eE];rw[I] at A ⊢;erw[qU] at A;by_cases C:q.a=u
  .have B:((q.a:Int)=(u:Int)):=by rw[C]
   by_cases J:0<lf fl k
   .kt_k;rw[JD Y];kt_k;exact .inl (k,q,_,M,C,J,rfl)
   .z_go;erw[B,gS];z_go;rw[JD Y];kt_k;erw[B] at A;exact A.step λ_ _ _=>by lk
  .have B:Not ((q.a:Int)=(u:Int)):=by lk
   kt_k;calc A.step λO E D=>by rw[M] at E;cases E;calc absurd D C
def ajf (N:(!fl)=!ps):(∃(i:Nat) (q:aO),ps[i]? =#[q]/\q.a=u/\0<lf fl i/\Pg.jh [hD ps,.int (u:Int),.list<|fl.map .int]=#[(false,.int (i:Int))])\/
  ((∀(i:Nat) q,ps[i]? =#[q]->q.a=u->lf fl i<=0)/\Pg.jh [hD ps,.int (u:Int),.list<|fl.map .int]=#[(false,.none)]):=by
 delta Pg.jh Pg.Ca hD yt;z_go;rcases W3 N ps 0 none none (λj=>by rw[kn]) with⟨i,q,D,h1,h2,J,M⟩|⟨h1,T,G,h2⟩
 .erw[gn] at M;refine .inl (i,q,h1,h2,J,?_);rw[M];rfl
 .erw[gn] at h2;refine .inr ⟨λi q=>h1 i q<|cv _,?_⟩;rw[h2];rfl
def SA (ps:¬aO)(st g:Nat)(fl:¬Int)(w:¬Nat)(v:Nat)(C:↑()):GS:=[#[(Tg.fr,hD ps)],#[(Tg.fr,.int (st:Int))],#[(Tg.fr,.int (g:Int))],#[(Tg.fr,.list<|fl.map .int)],#[(Tg.ow,.list<|w.map cX)],#[(Tg.fr,.int (v:Int))],ob C]
def adX {v i:Nat}(T:ps[i]? =#[q])(e:Pg.jh [hD ps,.int (v:Int),.list<|fl.map .int]=#[(false,.int (i:Int))])(C:(!w)<=1000000):Pg.zK (SA ps st g fl w v A)=.nxt (SA ps st g fl (w++[i]) q.b<|#[.int (i:Int)]):=by delta Pg.zK SA;z_go;rw[e];kt_k;delta hD yt;z_go;rw[j5 pD (by rw[ay,T];rfl)];z_go;rw[b7];rfl
def adY {ρ:Nat->Int}(N:(!fl)=!ps)(hp:(!ps)<=1000)(K:Cons ps st g fl M)(H:0<M)(r:st≠g)(U:Up ps fl ρ):∀(k:Nat) (w:¬Nat) (v:Nat) (E:↑()),(ρ g - ρ v).toNat<k->goes ps st w=#[v]->
  (∀j∈w,j<!ps/\0<lf fl j/\∀q:aO,ps[j]? =#[q]->ρ q.a<ρ v)->w.Nodup->(v=st/\w=[]\/w≠[]/\∃(i:Nat) (q:aO) (f:Int),ps[i]? =#[q]/\fl[i]? =#[f]/\0<f/\q.b=v)->
  ∃C,goes ps st C=#[g]/\C.Nodup/\(∀j∈C,j<!ps/\0<lf fl j)/\C≠[]/\∃A D,bZ (vB<|v2 lH (vN 5)<|vN 2) Pg.zK A (SA ps st g fl w v E)=.nxt (SA ps st g fl C g D):=λk=>by
 induction k with
 |zero=>intro w v E h;lk
 |succ k ih=>
  intro w v E e hw Y nd L;have cond:vB (v2 lH (vN 5)<|vN 2) (SA ps st g fl w v E)=#[not (decide ((v)=(g:Int)))]:=by delta SA;z_go
  by_cases s:v=g
  .subst s;refine(w,hw,nd,λj h=>⟨(Y j h).1,(Y j h).2.1⟩,?_,1,E,?_)
   .rcases L with⟨z,_⟩|⟨h,_⟩
    .exact absurd z.symm r
    .exact h
   .rw[bZ,cond];simp
  .have nx:∃(i:Nat) (q:aO) (f:Int),ps[i]? =#[q]/\fl[i]? =#[f]/\0<f/\q.a=v:=by
    rcases L with⟨z,_⟩|⟨_,i,q,f,a,b,c,d⟩
    .rw[z];exact K.start r H
    .rw[<-d];exact K.on (iE H) a b c<|.inl<|by rwa [d]
   rcases ajf (u:=v) N with⟨i,q,h1,h2,J,n⟩|⟨h1,_⟩
   .have I:=(ah.mp h1).1;have B:=oh (by rwa [N]);have Q:=U i q _ h1 B J;have hi:=K.high (iE H) U i q _ h1 B J;have hwl:=iD nd λj h=>(Y j h).1;let(C,T,l,m,o,A,D,p):=ih (w++[i]) q.b #[.int (i)] (by rw[<-h2] at e;lk) (N5 h1 (by rwa [h2])) (λj h=>by
     rcases bd.mp h with h|h
     .let(b1,b2,t):=Y j h;exact(b1,b2,λO G=>by have:=t O G;rw[h2] at Q;lk)
     .rw[aI.mp h];calc(I,J,λO G=>by rw[h1] at G;cases G;calc Q)) (by
     refine dQ.mpr (nd,by simp,?_);intro x hx y hy;rw[aI.mp hy];intro z;have:=(Y x hx).2.2 q (by rwa [z]);rw[h2] at this;lk) (.inr (by simp,i,q,_,h1,B,J,rfl))
    refine(C,T,l,m,o,A+1,D,?_);refine Cv ?_ (adX h1 n ∅) p;rw[cond]
    have:Not ((v)=(g:Int)):=by lk
    erw[this,fy];rfl
   .let(i,q,f,a,b,c,d):=nx;have:=h1 i q a d;rw[mV b] at this;lk
def agZ (N:(!fl)=!ps)(E:(!ps)<=1000)(K:Cons ps st g fl M)(D:0<M)(r:st≠g)(U:Up ps fl ρ):∃w:¬Nat,goes ps st w=#[g]/\w.Nodup/\(∀j∈w,j<!ps/\0<lf fl j)/\w≠[]/\Pg.gY [hD ps,.int (st:Int),.int (g:Int),.list<|fl.map .int]=#[(true,.list<|w.map cX)]:=by let(w,h1,h2,J,B,A,G,k):=adY N E K D r U _ [] st none (ip _) rfl 's' .nil (.inl ⟨rfl,rfl⟩);refine(w,h1,h2,J,B,?_);have C:=yc k (by intro z;cases z);unfold SA at C;unfold Pg.gY Pg.vp;z_go;erw[gn,fx] at C;rw[C];rfl
def adZ (N:(!fl)=!ps)(K:Cons ps st g fl 0)(r:st≠g)(U:Up ps fl ρ):(∀i:Nat,i<!ps->lf fl i=0)/\Pg.gY [hD ps,.int (st:Int),.int (g:Int),.list<|fl.map .int]=#[(true,.list [])]:=by
 have z:∀i:Nat,i<!ps->lf fl i=0:=λi B=>K.none U i _ _ (ai B) (oh (by rwa [N]));refine⟨z,?_⟩;rcases ajf N with⟨i,q,h1,h2,J,M⟩|⟨_,h1⟩
 .have:=z i (ah.mp h1).1;lk
 .unfold Pg.gY Pg.vp;z_go;have D:∀S C,bZ (vB<|v2 lH (vN 5)<|vN 2) Pg.zK 1 (SA ps st g fl [] st C)=S->S=.ret ((SA ps st g fl [] st<|some .none)) true (.list []):=λS C h=>by
   rw[<-h,bZ];have cond:vB (v2 lH (vN 5)<|vN 2) (SA ps st g fl [] st C)=#[true]:=by
    unfold SA;z_go
    have:Not ((st)=(g:Int)):=by lk
    erw[this,fy];rfl
   rw[cond];simp only;have t:Pg.zK (SA ps st g fl [] st C)=.ret (SA ps st g fl [] st<|some .none) true (.list []):=by unfold Pg.zK SA;z_go;rw[h1];z_go
   rw[t]
  have A:=yc (D _ none rfl) (by intro z;cases z);unfold SA at A;erw[gn,fx] at A;rw[A];z_go
def jT (x:¬Nat×Int):():=.tuple [.list<|x.1.map cX,.int x.2]
theorem T6:∀w:¬Nat,mJ (w.map cX)=true
 |[]=>rfl
 |j::w=>by erw[aT,cX,mJ,sY,Bool.true_and];calc T6 w
def SK (ps:¬aO)(st g:Nat)(A:¬Int)(fl:¬Int)(ws:¬(¬Nat×Int))(C x7 B:↑()):GS:=[#[(Tg.fr,hD ps)],#[(Tg.fr,.int (st:Int))],#[(Tg.fr,.int (g:Int))],#[(Tg.fr,.list<|A.map .int)],#[(Tg.ow,.list<|fl.map .int)],#[(Tg.ow,.list<|ws.map jT)],ob C,ob x7,ob B]
def ad0 (Q:(!fl)=!ps)(n:(!ps)<=1000)(z:(!acc)<=1000000)(nd:w.Nodup)(H:∀j∈w,j<!ps/\0<lf fl j)(wn:w≠[])(e:Pg.gY [hD ps,.int (st:Int),.int (g:Int),.list<|fl.map .int]=#[(true,.list<|w.map cX)]):
  ∃m q t u,1<=m/\(∀j∈w,m<=lf fl j)/\(∃j∈w,lf fl j=m)/\Pg.Jo (SK ps st g C fl acc s x7 p)=.nxt (SK ps st g C (jE m fl w) (acc++[(w,m)]) q t u):=by
 have T:=iD nd λj h=>(H j h).1;let(l,o):=jf (ns:=w.map<|lf fl) ‹wn›;generalize c:dX (w.map<|lf fl)=m at*
 let(k,G,E):=bg.mp l;have I:∀v (L:¬Int) (A B:()) (x:↑()),(!L)=!ps->(∀j∈v,j<!ps)->∃b,
   eE (gN 8) (oH jd 4 (vN 8)<|vF 7) (v.map cX) [#[(Tg.fr,hD ps)],#[(Tg.fr,.int<|st)],#[(Tg.fr,.int<|g)],#[(Tg.fr,.list<|C.map .int)],#[(Tg.ow,.list<|L.map .int)],#[(Tg.ow,A)],#[(Tg.fr,B)],#[(Tg.fr,.int m)],ob x]
    =.nxt [#[(Tg.fr,hD ps)],#[(Tg.fr,.int<|st)],#[(Tg.fr,.int<|g)],#[(Tg.fr,.list<|C.map .int)],#[(Tg.ow,.list<|(jE m L v).map .int)],#[(Tg.ow,A)],#[(Tg.fr,B)],#[(Tg.fr,.int m)],ob b]:=λv=>by
  induction v with
  |nil=>intro L A B x _ _;calc⟨x,rfl⟩
  |cons j v U=>intro L A B x y Y;have h1:=Y j ae;let(b,D):=U (sI m L j) A B (#[.int<|j]) (by rwa [tM]) λi O=>Y i<|af _ O;refine⟨b,?_⟩;rw[aT,eE];delta cX;z_go;rw[ac,vg ∅];z_go;rw[Tv ∅];z_go;rw[<-kA];erw[qU] at D;exact D
 let(b,D):=I w fl (.list<|acc.map jT) (.list<|w.map cX) p Q λj h=>(H j h).1;refine(m,#[.list<|w.map cX],#[.int m],b,?_,λj h=>o _<|bg.mpr (j,h,rfl),(k,G,E),?_)
 .grind
 delta Pg.Jo SK;z_go;rw[e];z_go;rw[T6];z_go;have M:(w.map cX).isEmpty=false:=by cases w with|nil=>calc absurd rfl wn|cons a r=>rfl
 erw[M];z_go;rw[RQ (by rw[ac];calc bw ∅)];rw[j4 (f:=λd=>match d with|.int m=>.int (lf fl m.toNat)|_=>.none) (by
  intro d N;let(j,h,rfl):=bg.mp N;refine([#[(Tg.fr,.int<|j)],#[(Tg.fr,.list<|fl.map .int)]],?_,rfl,?_)
  .rfl
  .have:=(H j h).1;z_go;rw[JD ∅];rfl)]
 rw[ce];have em:w.map ((λd=>match d with|.int m=>PyData.int (lf fl m.toNat)|_=>.none) ∘ cX)=(w.map<|lf fl).map PyData.int:=by rw[ce];rfl
 rw[em];z_go;have J:minD [.list<|(w.map<|lf fl).map PyData.int]=#[.int m]:=by
  erw[minD,kY];cases w with
  |nil=>lk
  |cons a r=>lk
 rw[J];z_go;rw[D];kt_k;rw[b7];rfl
def ad1 (o:(!ps)<=1000)(r:st≠g):∀(k:Nat) (fl:¬Int) (M:Int) (acc:¬(¬Nat×Int)) (T x7 D:↑()),lZ fl<k->(!fl)=!ps->Cons ps st g fl M->0<=M->Up ps fl ρ->(!acc)+lZ fl<=1000000->
  ∃ws A E,lM ps st g fl ws/\bZ (vB<|vC<|.bool true) Pg.Jo A (SK ps st g H fl acc T x7 D)=.ret E true (.list<|(acc++ws).map jT):=λk=>by
 induction k with
 |zero=>intro fl M acc T x7 D h;lk
 |succ k b=>
  intro fl M acc T x7 D x N K u U l;by_cases y:M=0
  .subst y;let(z,e):=adZ N K r U;refine([],1,(SK ps st g H fl acc (#[.list []]) x7 D).set 5 none,lM.nil z,?_);refine zT rfl ?_;delta Pg.Jo SK;z_go;rw[e];z_go;erw[qo];z_go
  .let(w,h1,h2,J,I,q):=agZ N o K ∅ r U;let(m,f,n,s,c,Q,d,t):=ad0 (acc:=acc) N o ∅ h2 J I q;have B:∀j∈w,j<!fl:=λj Y=>by rw[N];exact(J j Y).1
   have p:Up ps (jE m fl w) ρ:=U.take ∅ h2 B;let(O,C,G):=d;have v:lZ (jE m fl w)<lZ fl:=Lh (pH ..) (λi h=>Gz ∅ h2 B h) (O,by rw[rF h2 B O,ap C];lk,by lk);have L:0<=M - m:=by
    by_cases z:0<=M - m
    .exact z
    .
     exact K.most N r U u h1 (λj Y=>(J j Y).1) Q I
   let(ws,A,E,P,e):=b (jE m fl w) (M - m) (acc++[(w,m)]) f n s ∅ (by rwa [pH]) (K.take N h1 h2 (λj Y=>(J j Y).1) Q) L p (by rw[aE];erw[a8,c9];lk);refine((w,m)::ws,A+1,E,P.more N (h1,h2,λj Y=>(J j Y).1,I,c) Q (O,C,G),?_);refine Cv rfl t ?_;rw[e,cE];rfl
def ag0 (N:(!fl)=!ps)(D:(!ps)<=1000)(r:st≠g)(K:Cons ps st g fl M)(B:0<=M)(U:Up ps fl ρ):∃ws,lM ps st g fl ws/\Pg.jA [hD ps,.int (st:Int),.int (g:Int),.list<|fl.map .int]=#[(true,.list<|ws.map jT)]:=by let(ws,A,C,P,e):=ad1 D r _ fl M [] none none none (ip _) N K B U (by have:=vO fl;simp;lk);refine(ws,P,?_);have G:=yc e (by intro z;cases z);unfold SK at G;erw[gn,fx,gm] at G;unfold Pg.jA Pg.Jp;z_go;rw[G];rfl
end LH
namespace LH
open L2 VM Sp PM
variable {M T C:Int}
def Zm {A:Nat->Int}(hi:∀j∈w,j<!ps)(D:goes ps st w=#[g])(h:∀(i:Nat) q,ps[i]? =#[q]->i∈w->q.l<=A q.b - A q.a):bT aO.l ps w<=A g - A st:=by
 have e:=zV A D;have s:=zW (λq=>A q.b - A q.a) aO.l w hi;have G:0<=bT (λq=>A q.b - A q.a - q.l) ps w:=N6 λj Y=>by have B:=ai<|hi j Y;rw[mU B];have:=h j _ B Y;lk
 rw[s,e] at G;lk
theorem CP (z:aW n ps):∀{w:¬Nat},(∀j∈w,j<!ps)->((!w):Int)<=bT aO.l ps w
 |[],_=>by simp[bT]
 |j::w,h=>by have B:=ai<|h j ae;have:=z.l1 _<|ag B;have:=CP z (w:=w) λi N=>h i<|af _ N;rw[jN,mU B,a8];lk
theorem N7:∀{ps:¬aO}{fl:¬Int},(!fl)=!ps->(!(lA ps fl))=2*!ps
 |[],[],_=>rfl
 |[],_::_,e=>by simp at e
 |_::_,[],e=>by simp at e
 |q::r,f::fs,e=>by rw[lA,a8,a8,N7 (ps:=r) (fl:=fs)<|‹e›,a8];lk
theorem tO:∀{ps:¬aO}{fl:¬Int} {i:Nat} {q:aO} {f:Int},ps[i]? =#[q]->fl[i]? =#[f]->lf (lA ps fl) (2*i)=q.w - f/\lf (lA ps fl) (2*i+1)=f
 |[],_,i,q,f,h,_=>by simp at h
 |_::_,[],i,q,f,_,h=>by simp at h
 |p::r,x::fs,0,q,f,h1,h2=>by erw[gr,eA] at h1 h2;subst h1;subst h2;calc⟨rfl,rfl⟩
 |p::r,x::fs,i+1,q,f,h1,h2=>by rw[kX] at h1 h2;have:=tO (ps:=r) (fl:=fs) h1 h2;assumption
def lB (st g:Nat)(T:Int):aO:=(st,g,1,T+1)
def N8 (z:aW n ps)(A:st<n)(hg:g<n)(r:st≠g)(U:0<=T):aW n (ps++[lB st g T]):=by
 refine(?_,?_,?_,?_,?_)<;>(intro q B;rcases bd.mp B with h|h)
 .exact z.ra q h
 .rw[aI.mp h];exact A
 .exact z.rb q h
 .rw[aI.mp h];exact hg
 .exact z.ne q h
 .rw[aI.mp h];exact r
 .exact z.w1 q h
 .rw[aI.mp h];exact bE _
 .exact z.l1 q h
 .rw[aI.mp h];show 1<=T+1;lk
def j9 (T:Int):↑Lb->Int
 |none=>T+1
 |some l=>if T+1<l.d then T+1 else l.d
def ad2 (N:aW n ps)(E:st<n)(hg:g<n)(r:st≠g)(U:0<=T)(Y:(!fl)=!ps)(l:G st=0)(o:G g<=T+1)(A:Fits ps fl G):
  cH n (lf<|lA (ps++[lB st g T])<|fl++[0]) (bH<|ps++[lB st g T]) G:=by
 have J:=N8 N E hg r U;refine(J.room,J.Wu,λu m f j D=>?_);let(i,q,e,h):=fO.mp j;have Q:i<(!ps)+1:=by have:=(ah.mp e).1;rw[aE] at this;exact this
 by_cases z:i<!ps
 .have B:ps[i]? =#[q]:=by rw[b9 z] at e;exact e
  have I:fl[i]? =#[lf fl i]:=oh ∅;have y:(fl++[0])[i]? =#[lf fl i]:=by rw[b9 ∅];exact I
  let(L,H):=tO e y;let(d,k):=A i q _ B I;rcases h with⟨rfl,rfl⟩|⟨rfl,rfl⟩
  .simp only at D ⊢;rw[L] at D;lk
  .simp only at D ⊢;rw[H] at D;lk
 .have O:i=!ps:=by lk
  subst O;have B:q=lB st g T:=by rw[cz<|av _,p4,gr] at e;exact(bv e).symm
  have y:(fl++[0])[!ps]? =#[0]:=by rw[cz ∅,Y,p4,gr]
  let(L,H):=tO e y;subst B;rcases h with⟨rfl,rfl⟩|⟨rfl,rfl⟩
  .erw[lB];lk
  .simp only at D;rw[H] at D;calc absurd D<|by decide
def T7 (z:aW n ps)(hst:st<n)(hg:g<n)(V9:st≠g)(hT:0<=T)(F:g8 n ps st g T fl M C)(m0:I st=0)(m1:I g=T+1)(d:∀v,0<=I v/\I v<=T+1)(U:Fits ps fl I)
  (Q:Tree n (lf<|lA (ps++[lB st g T])<|fl++[0]) (bH<|ps++[lB st g T]) I st A):
  lf (A.map<|j9 T) st=0/\lf (A.map<|j9 T) g=T+1/\(∀v,v<n->0<=lf (A.map<|j9 T) v/\lf (A.map<|j9 T) v<=T+1)/\
  Fits ps fl (lf<|A.map<|j9 T):=by
 have E:∀{v:Nat}{o:↑Lb},A[v]? =#[o]->lf (A.map<|j9 T) v=j9 T o:=λ{v o} h=>mV (by rw[ay,h];rfl);have D:∀v,v<n->∃o,A[v]? =#[o]:=λv L=>⟨_,ai (by rw[Q.ll];calc L)⟩;have lo:∀v (l:Lb),A[v]? =#[#[l]]->I v<=l.d:=λv l h=>by have:=Q.lo v l h;lk
 have p:∃c,A[g]? =#[#[c]]/\c.d=T+1:=by
  have e:(ps++[lB st g T])[!ps]? =#[lB st g T]:=by rw[cz<|av _,p4,gr]
  have y:(fl++[0])[!ps]? =#[0]:=by rw[cz (by have:=F.len;lk),F.len,p4,gr]
  let(r,_):=tO e y;let(x,h1,h2):=Q.rel st _ (2*!ps,g,T+1) Q.st0 (fO.mpr ⟨!ps,_,e,.inl ⟨rfl,rfl⟩⟩) (by simp only;rw[r];show(0)<1 - 0;decide);have h3:=lo g x h1;refine⟨x,h1,?_⟩;simp only at h2;lk
 let(c,w,hgd):=p;have step:∀i (q:aO) (f:Int),ps[i]? =#[q]->fl[i]? =#[f]->(f<q.w->∀l:Lb,A[q.a]? =#[#[l]]->∃H:Lb,A[q.b]? =#[#[H]]/\H.d<=l.d+q.l)/\(0<f->∀l:Lb,A[q.b]? =#[#[l]]->∃H:Lb,A[q.a]? =#[#[H]]/\H.d<=l.d - q.l):=λi q f a b=>by
  have j:=(ah.mp a).1;have e:(ps++[lB st g T])[i]? =#[q]:=by rw[b9 j];exact a
  have y:(fl++[0])[i]? =#[f]:=by rw[b9 (by have:=F.len;lk)];exact b
  let(r,l2):=tO e y;refine⟨λh l k=>?_,λh l k=>?_⟩
  .exact Q.rel q.a l (2*i,q.b,q.l) k (fO.mpr ⟨i,q,e,.inl ⟨rfl,rfl⟩⟩) (by simp only;rw[r];lk)
  .let(H,h1,h2):=Q.rel q.b l (2*i+1,q.a,-q.l) k (fO.mpr ⟨i,q,e,.inr ⟨rfl,rfl⟩⟩) (by simp only;rw[l2];calc h);exact⟨H,h1,by simp only at h2;lk⟩
 let(B,hB0,hB):=above (λv=>match A[v]? with|some #[l]=>#[l.d]|_=>none) n (T+2);have Y:∀v (l:Lb),v<n->A[v]? =#[#[l]]->l.d<=B:=λv l L h=>hB v l.d L (by rw[h]);have up:∀(i:Nat) q f,ps[i]? =#[q]->fl[i]? =#[f]->0<f->(λv=>match A[v]? with|some #[l]=>l.d|_=>B+1+I v) q.a<(λv=>match A[v]? with|some #[l]=>l.d|_=>B+1+I v) q.b:=λi q f a b O=>by
  have m:=z.l1 q<|ag a;let(G,t):=D q.b<|z.rb q<|ag a;let(s,J):=D q.a<|z.ra q<|ag a;erw[J,t];cases G with
  |some N=>
   let(H,h1,h2):=(step i q f a b).2 O N t;rw[J] at h1;cases h1;simp only;lk
  |none=>
   cases s with
   |some u=>have:=Y q.a u (z.ra q<|ag a) J;have:=(d q.b).1;simp only;lk
   |none=>have:=(U i q f a b).2 O;simp only;lk
 have high:∀(i:Nat) q f,ps[i]? =#[q]->fl[i]? =#[f]->0<f->∃l,A[q.b]? =#[#[l]]/\l.d<=T+1:=λi q f a b O=>by
  have h:=F.cons.high (ρ:=λv=>match A[v]? with|some #[l]=>l.d|_=>B+1+I v) F.M0 up i q f a b O;let(G,t):=D q.b<|z.rb q<|ag a;erw[t,w] at h;cases G with
  |some N=>calc⟨N,t,by simp only at h;lk⟩
  |none=>simp only at h;have:=(d q.b).1;lk
 refine⟨?_,?_,λv L=>?_,λi q f a b=>⟨λh=>?_,λh=>?_⟩⟩
 .rw[E Q.st0];erw[j9];rw[aw ∅]
 .rw[E w];erw[j9];split<;>lk
 .let(o,e):=D v L;rw[E e];cases o with
  |none=>erw[j9];lk
  |some l=>have h1:=lo v l e;have h2:=(d v).1;erw[j9];split<;>lk
 .have m:=z.l1 q<|ag a;let(G,t):=D q.b<|z.rb q<|ag a;let(s,J):=D q.a<|z.ra q<|ag a;rw[E J,E t];have top:j9 T G<=T+1:=by
   cases G with
   |none=>erw[j9];lk
   |some l=>erw[j9];split<;>lk
  cases s with
  |none=>
   have:j9 T none=T+1:=rfl
   rw[this];lk
  |some u=>let(H,h1,h2):=(step i q f a b).1 h u J;rw[t] at h1;cases h1;erw[j9] at top ⊢;split at top<;>split<;>lk
 .let(N,t,hb):=high i q f a b h;let(u,J,h2):=(step i q f a b).2 h N t;have m:=z.l1 q<|ag a;rw[E J,E t];erw[j9];rw[aw ∅,aw ∅];lk
def JM (z:aW n ps)(b:n<=900)(s:(!ps)<=900)(B:st<n)(hg:g<n)(r:st≠g)(U:0<=T)(N:(!fl)=!ps)(v:H st=0)(y:H g<=T+1)(E:Fits ps fl H):∃D:¬(↑Lb),Tree n (lf<|lA (ps++[lB st g T])<|fl++[0]) (bH<|ps++[lB st g T]) H st D/\Pg.gZ [.int (n:Int),hD ps,.int (st:Int),.int (g:Int),.int T,.list<|fl.map .int]=#[(true,.list<|(D.map<|j9 T).map .int)]:=by
 have J:=N8 z B hg r U;have I:=ad2 z B hg r U N v y E;have A:(!(fl++[0]))=!(ps++[lB st g T]):=by rw[aE,aE,N];rfl
 have G:=N7 A;let(D,t,j):=Ww ∅ B I (λu m p=>by
  let(i,q,e,h):=fO.mp p;have:=(ah.mp e).1;rw[G];rcases h with⟨_,rfl⟩|⟨_,rfl⟩<;>simp only<;>lk)
 have Q:=jC I B t;refine(D,Q,?_);have em:=Ji ∅ ∅ (by rw[ac,aE];erw[a8,c9];lk) (JH J);rw[gh] at em;have Y:=Wz (ps:=ps++[lB st g T]) (fl:=fl++[0]) (by rw[aE];erw[a8,c9];lk) (p5 A.symm);unfold Pg.gZ Pg.Cd;unfold hD yt at*
 z_go;have L:pX (.list<|(ps.map toPq).map pD) (.list [.tuple [.int<|st,.int<|g,.int 1,.int<|T+1]])=#[.list<|((ps++[lB st g T]).map toPq).map pD]:=by rw[abo (by rw[ac,ac];erw[a8,c9];lk),b7,b7];rfl
 rw[L];z_go;have O:pX (.list<|fl.map PyData.int) (.list [.int 0])=#[.list<|(fl++[0]).map .int]:=by rw[abo (by rw[ac];erw[a8,c9];lk),b7];rfl
 rw[O];z_go;rw[Y];z_go;rw[em];z_go;rw[j];z_go;rw[rT rfl (by rw[ac,Q.ll];calc bw ∅)];rw[j4 (f:=λd=>match d with|.tuple (.int d::_)=>.int (if T+1<d then T+1 else d)|_=>.int (T+1)) (by
  intro d k;let(o,c,rfl):=bg.mp k;refine([#[(Tg.fr,iC o)],#[(Tg.fr,.int<|T+1)]],?_,rfl,?_)
  .z_go
  .cases o with
   |none=>
    have:iC none=.none:=rfl
    rw[this];z_go
   |some l=>
    rw[jM];z_go)]
 z_go;rw[ce,ce]
 have:(λd=>match d with|PyData.tuple (.int d::_)=>PyData.int (if T+1<d then T+1 else d)|_=>.int<|T+1) ∘ iC=PyData.int ∘ j9 T:=by funext o;cases o<;>rfl
 rw[this]
def Oa (A:∀j∈w,j<!ps)(N:(!w)<=1000):Pg.iR [hD ps,.list<|w.map cX]=#[(false,.int<|bT aO.l ps w)]:=by
 delta Pg.iR Pg.Fl hD yt;z_go;rw[rT rfl (by rw[ac];calc bw ∅)];rw[j4 (f:=λd=>match d with|.int j=>.int (Am aO.l ps j.toNat)|_=>.none) (by
  intro d G;let(j,Y,rfl):=bg.mp G;have e:=ai<|A j Y;refine([#[(Tg.fr,.int<|j)],#[(Tg.fr,.list<|(ps.map toPq).map pD)]],?_,rfl,?_)
  .rfl
  .z_go;rw[j5 pD (by rw[ay,e];rfl)];delta pD toPq cX;z_go;erw[gh,mU e])]
 z_go;rw[ce];have e:(w.map<|(λd=>match d with|.int j=>PyData.int (Am aO.l ps j.toNat)|_=>.none) ∘ cX)=(w.map<|Am aO.l ps).map .int:=by rw[ce];rfl
 rw[e];erw[Kw,kY];rfl
def Ob (z:aW n ps)(H:n<=900)(I:(!ps)<=900)(D:st<n)(hg:g<n)(r:st≠g)(U:0<=T)(F:g8 n ps st g T fl M C):∃A:¬Int,Pg.gZ [.int (n:Int),hD ps,.int (st:Int),.int (g:Int),.int T,.list<|fl.map .int]=#[(true,.list<|A.map .int)]/\(!A)=n/\
  lf A st=0/\lf A g=T+1/\(∀v,v<n->0<=lf A v/\lf A v<=T+1)/\Fits ps fl (lf A):=by
 let(N,E,G,L,B):=F.yK z U;let(J,Q,e):=JM z H I D hg r U F.len E (Int.le_of_eq G) B;calc(_,e,by rw[ac];calc Q.ll,T7 z D hg r U F E G L B Q)
def g8.walks (z:aW n ps)(J:(!ps)<=900)(r:st≠g)(F:g8 n ps st g T fl M C):∃ws,lM ps st g fl ws/\(∀x∈ws,bT aO.l ps x.1<=T)/\(!ws)<=!ps/\Pg.jA [hD ps,.int (st:Int),.int (g:Int),.list<|fl.map .int]=#[(true,.list<|ws.map jT)]:=by
 let(H,U,D,m):=F.near;let(ws,P,L):=ag0 (ρ:=H) F.len ∅ r F.cons F.M0 λi q f a b G=>by have:=(D i q f a b).2 G;have:=z.l1 q<|ag a;lk
 refine(ws,P,λx B=>?_,by have:=P.few;have:=vO fl;have:=F.len;lk,L);have Wk:=P.walk x B;have E:∀j∈x.1,fl[j]? =#[lf fl j]:=λj Y=>oh (by rw[F.len];calc Wk.ix j Y);let(k,A):=fA _ Wk.ne;have I:=((P.has B) k A).2;have:=Zm Wk.ix Wk.go λi q e N=>(D i q _ e<|E i N).2 ((P.has B) i N).2;rcases m with h|⟨_,h⟩
 .omega
 .have:=h _<|ag<|E k A;lk
structure fV (n:Nat)(ps:¬aO)(st g:Nat)(T W:Int)(ws:¬(¬Nat×Int))(bU:¬Int):Prop where
 flow:∃fl M C,g8 n ps st g T fl M C/\W=M*(T+1) - C/\lM ps st g fl ws
 short:∀x∈ws,bT aO.l ps x.1<=T
 ppl:W=(ws.map λx=>x.2*(T - bT aO.l ps x.1+1)).sum
 ml:(!bU)=n
 m0:lf bU st=0
 m1:lf bU g=T+1
 mb:∀v,v<n->0<=lf bU v/\lf bU v<=T+1
 T8:W=(ps.map<|over<|lf bU).sum
def fV.weak {ws:¬(¬Nat×Int)}(z:aW n ps)(A:st<n)(hg:g<n)(O:fV n ps st g T W ws D)(r:B st=0)(E:B g=T+1):W<=(ps.map<|over B).sum:=by let(G,M,C,F,e,_):=O.flow;have:=NZ z A hg F.lo F.net F.cost r E;rw[vL _ F.len] at this;lk
theorem Oc {A:Nat->Int}(r:A st=0)(E:A g=T+1):∀{ws:¬(¬Nat×Int)},(∀x∈ws,vP ps st g x)->CN (λq=>A q.b - A q.a - q.l) ps ws=(ws.map λx=>x.2*(T - bT aO.l ps x.1+1)).sum
 |[],_=>rfl
 |x::ws,h=>by have W:=h x ae;have e:=zV A W.go;have s:=zW (ps:=ps) (λq=>A q.b - A q.a) aO.l x.1 W.ix;rw[CN,Oc r E λy n=>h y<|af _ n,aT,cq,s,e,r,E];lk
def alp (z:aW n ps)(sm:Small n ps)(a:n<=900)(o:(!ps)<=900)(A:st<n)(hg:g<n)(E:st≠g)(b:0<=T)(hB:T+1<1e100)(i:∀q∈ps,q.w<1e100):
  ∃W ws D,fV n ps st g T W ws D/\Pg.fD [.int (n:Int),hD ps,.int (st:Int),.int (g:Int),.int T]=#[(false,.tuple [.int W,.list<|ws.map jT,.list<|D.map .int])]:=by
 let(r,L,R,_,t):=ajc (T:=T) z sm A hg E;have F:=vK z A hg E R;generalize qx L (!ps)=y,many r=M,spent r=C at F t;let(D,em,ml,J,N,mb,U):=Ob z a o A hg E b F;let(ws,P,B,h,u):=F.walks z o E;have I:M*(T+1) - C=(ws.map λx=>x.2*(T - bT aO.l ps x.1+1)).sum:=by rw[CK z A hg F.net F.cost J N,←Oc J N P.walk];exact(P.tot _).symm
 have H:M*(T+1) - C=(ps.map<|over<|lf D).sum:=by rw[Fv z A hg F.lo F.net F.cost J N U,vL _ F.len]
 refine(M*(T+1) - C,ws,D,((y,M,C,F,rfl,P),B,I,ml,J,N,mb,H),?_);delta Pg.fD Pg.Ce;z_go;rw[t];z_go;rw[u];z_go;rw[rT rfl (by rw[ac];calc bw ∅)];rw[j4 (f:=λd=>match d with|.tuple [.list w,.int m]=>(match sZ w with|some v=>.int (m*(T - bT aO.l ps (v.map toNat)+1))|none=>.none)|_=>.none) (by
  intro d c;let(x,Y,rfl):=bg.mp c;have Wk:=P.walk x Y;have hs:=B x Y;have s:=CP z Wk.ix;have e:=iD Wk.nd Wk.ix;let(k,G):=fA _ Wk.ne;have h1:=((P.has Y) k G).1;have l:=ai<|Wk.ix k G;have h2:=(F.lo k _ _ l<|oh (by rw[F.len];calc Wk.ix k G)).2;have h3:=i _<|ag l;have h4:=Wk.m1;let(w,m):=x;simp only at*
  refine([#[(Tg.fr,.list<|w.map cX)],#[(Tg.fr,.int m)],#[(Tg.fr,.int T)],#[(Tg.fr,hD ps)]],?_,rfl,?_)
  .delta jT;z_go
  .z_go;rw[Oa Wk.ix (by simp only;lk)];z_go;rw[BK ∅ ∅ ∅ ∅];have Q:sZ (w.map cX)=#[(w.map λj:Nat=>(j:Int))]:=by
    have:w.map cX=(w.map λj:Nat=>(j:Int)).map .int:=by rw[ce];rfl
    rw[this,kY]
   have O:(w.map λj:Nat=>(j:Int)).map toNat=w:=by rw[ce];exact(cx λj _=>by simp).trans (map_id w)
   erw[jT,Q,O])]
 z_go;rw[ce];have p:ws.map ((λd=>match d with|.tuple [.list w,.int m]=>(match sZ w with|some v=>PyData.int (m*(T - bT aO.l ps (v.map toNat)+1))|none=>.none)|_=>.none) ∘ jT)=(ws.map λx=>x.2*(T - bT aO.l ps x.1+1)).map .int:=by
  rw[ce];refine cx λx _=>?_;let(w,m):=x;have Q:sZ (w.map cX)=#[(w.map λj:Nat=>(j:Int))]:=by
   have:w.map cX=(w.map λj:Nat=>(j:Int)).map .int:=by rw[ce];rfl
   rw[this,kY]
  have O:(w.map λj:Nat=>(j:Int)).map toNat=w:=by rw[ce];exact(cx λj _=>by simp).trans (map_id w)
  erw[comp,jT,Q,O]
 rw[p];erw[Kw,kY];rw[<-I];z_go;rw[em];z_go
end LH
namespace bV
open PyProof.Rows L2 VM
def lcL {K:Frag}(Pv:Addr->Nat->¬V->Hp->Prop)(u:(!xs)<sizeLine)
  (k:∀D,J D=none->Pv D 0 [] (upd J D<|.lst []))(o:∀D i ys H,Pv D i ys H->aU K H a xs)(O:∀L H (R:Bool->Hp->Prop),R true H->tc L H R)
  (q:∀D i x ys H,J D=none->xs[i]? =#[x]->Pv D i ys H->H D=#[.lst ys]->∀(R:VK) (T:L2.St->Hp->Prop),(∀y M,M D=#[.lst ys]->Pv D (i+1) (ys++[y]) (upd M D<|.lst<|ys++[y])->R y M)->(∀G N,dD (cR cap L) G->te G N R->T G N)->g x (cR cap L) H T)
  (l:∀D ys H,J D=none->Pv D (!xs) ys H->(!ys)=!xs->H D=#[.lst ys]->Q (.ref D) H):Gb (G6 K a) cap g tc te L J Q:=by
 intro D hD;refine⟨λi m H=>m=(!xs) - i/\i<=!xs/\∃ys,(!ys)=i/\H D=#[.lst ys]/\Pv D i ys H,⟨_,rfl,cv _,[],rfl,ao,k D hD⟩,?_⟩;rintro i m H ⟨rfl,t,ys,I,E,p⟩;have C:=o D i ys H p;by_cases B:i<!xs
 .refine .inr ⟨⟨xs,xs[i],C,by simp[B]⟩,λx r y=>?_⟩;let(e,y):=y;subst e;have j:=y xs C;refine q D i x ys _ hD j p E (λy M=>∃zs,M D=#[.lst zs]/\(!zs)<sizeLine/\∃U,U<(!xs) - i/\(U=(!xs) - (i+1)/\i+1<=!xs/\∃A,(!A)=i+1/\upd M D (.lst<|zs++[y]) D=#[.lst A]/\Pv D (i+1) A (upd M D<|.lst<|zs++[y]))) _ (λv M h1 h2=>?_) λG N Y h=>⟨Y,O _ _ _ (by rw[ap rfl];calc h)⟩;exact⟨ys,h1,by lk,(!xs) - (i+1),by lk,rfl,B,ys++[v],by rw[aE,I];rfl,ao,h2⟩
 .have e:i=!xs:=by lk
  subst e;calc .inl ⟨⟨xs,C,av _⟩,l D ys _ hD p I E⟩
section
variable {K:Frag}
def vQ (x:Str×Q4):():=.tuple [.int x.2.1,.int x.2.2.1,.int x.2.2.2.1,.int x.2.2.2.2]
def W4 (h:Paired (Wh H) B x):aK K H (x.map vQ) (B.map λC=>C.2):=by
 induction h with
 |nil=>rfl
 |cons h r A=>let(_,t,e,U):=h;calc(_,_,rfl,(t,_,e,cF.of U,_,_,rfl,rfl,_,_,rfl,rfl,_,_,rfl,rfl,_,_,rfl,rfl,rfl),A)
inductive T9 (K:Frag)(C:Addr)(vs:¬V)(H:Hp)(Q:VK):Prop
 |mk:∀p dx nn ll q nums ls T d dI ur,vs=[.ref p,.ref q,.int T]->aW H C p dx nn ll nums ls->H q=#[.dK dI]->Paired (Wh H) dI ur->(!ur)<100->Pg.fD [.int ((!nums):Int),.list<|ur.map vQ,.int 0,.int 1,.int T]=#[(false,d)]->(∀v H',Same H H'->Has K H' d v->Q v H')->T9 K C vs H Q
def Li (K:Frag)(C:Addr):Sp:=λJ H Q=>T9 K C J H Q
def ad3 (B:Bl E.mg)(c:Cl K C)(A:CV E K 25 5 Pg.fD)(g0:E.mg "START"=#[.int 0 t0])(k:E.mg "GOAL"=#[.int 1 t1])(h:MF E K C (bW 12)):MO E K C (bW 12) 6 (Li K C):=by
 refine tD ["self","laid","turns"] h (λvs H Q h=>by let(_,_,_,_,_,_,_,_,_,_,_,rfl,_):=h;rfl) λH nd vt hr m=>?_;refine⟨_,aJ<|aZ<|pC A<|aj (cI Jk gx B.len db<|aj (c7 (pU 0) rfl) aG)<|aj (bF aa7 gx B.list eW<|aj (Jz<|pU 1) aG)<|aj (ju (v:=.int 0) gx g0 ⟨_,rfl⟩)<|aj (ju (v:=.int 1) gx k ⟨_,rfl⟩)<|aj (pU 2) aG,?_⟩;let(p,w,f,a,q,I,i,T,d,D,N,rfl,O,G,M,x,j,r):=m;delta uc jy cL d9 um;refine dw rfl O.ins c.cl c.n1 rfl ⟨f,_,rfl,O.num,?_⟩;refine ak rfl ⟨.inr<|.inr ⟨rfl,D,G⟩,D,G,λz y=>?_⟩;have U:=aH (o:=qp z q) y;refine⟨z,q,D,rfl,ao,U _ _ G,λl L=>?_⟩;have n:=aH (o:=.lst<|D.map λb=>b.2) L;have J:=U.trans n;delta tC;refine ak rfl ?_;refine⟨_,[.int<|!I,.list<|N.map vQ,.int 0,.int 1,.int T],Same.refl _,?_,false,d,j,λv s Y g u=>r v Y (J.trans g.hh) ?_⟩
 .refine⟨_,_,rfl,?_,_,_,rfl,⟨l,_,rfl,aU.of ao,W4<|M.mono λ_ _ z=>z.same λt xs e=>J _ _ e⟩,_,_,rfl,rfl,_,_,rfl,rfl,_,_,rfl,rfl,rfl⟩;show V.int _=V.int _;simp
 .calc Has.same g.fh u
def gj (x:¬(Str×Q4)):¬Str:=x.map (·.1)
def bN (x:¬(Str×Q4))(w:¬Nat):¬Str:=w.map λj=>(gj x).getD j ""
def mW (p:Str×Int):():=.tuple [.str p.1,.int p.2]
abbrev Wk:=¬Str×Int
def jT (x:Wk):():=.tuple [.list<|x.1.map .str,.int x.2]
def wn (A:¬(Str×Q4))(x:¬Nat×Int):Wk:=(bN A x.1,x.2)
def ad4 (O:∀x∈gj A,(PyData.str x).canLay0=true)(C:∀j∈w,j<!A):∀x∈bN A w,(PyData.str x).canLay0=true:=λx B=>by let(j,Y,rfl):=bg.mp B;have H:=C j Y;refine O _ ?_;delta gj;rw[br,ai (by rw[ac];calc H)];calc qs _
def ag1 {ds:¬()}{vs:¬V}(e:(!ds)=!vs)(h:∀(j:Nat) d v,ds[j]? =#[d]->vs[j]? =#[v]->Has K H d v):aK K H ds vs:=aK.p.2<|.of e h
def ad5 {seen:¬Str}{B:¬Addr}{A:¬Int}(J:E M=#[.lst<|B.map V.ref])(L:(!B)=!seen)(N:(!A)=!seen)(I:∀(j:Nat) m r D,B[j]? =#[m]->seen[j]? =#[r]->A[j]? =#[D]->E m=#[.tup [.str r,.int D]])(O:∀x∈seen,(PyData.str x).canLay0=true):Has K E (.list<|(seen.zip A).map mW) (.ref M):=by refine⟨M,_,rfl,aU.of J,ag1 (by rw[ac,ac,jS];lk) λj d v C G=>?_⟩;rw[ay] at C G;let(p,H,rfl):=c6.mp C;let(m,em,rfl):=c6.mp G;let(h1,h2):=fz.mp H;calc⟨m,_,rfl,cF.of (I j m p.1 p.2 em h1 h2),_,_,rfl,⟨rfl,O _<|ag h1⟩,_,_,rfl,rfl,rfl⟩
inductive Ua (K:Frag)(C:Addr)(vs:¬V)(H:Hp)(Q:VK):Prop
 |mk:∀p dx nn ll nums ls v w,vs=[.ref p,v]->aW H C p dx nn ll nums ls->Has K H (.list<|w.map PM.cX) v->((∀j∈w,j<!ls))->((∀x∈gj ls,(PyData.str x).canLay0=true))->(!w)<1000->(∀a H',Same H H'->H a=none->H' a=#[.lst<|(bN ls w).map V.str]->Q (.ref a) H')->Ua K C vs H Q
def Lj (K:Frag)(C:Addr):Sp:=λJ H Q=>Ua K C J H Q
def ad6 (h:Paired (Wh H) B x):(B.map λC=>kV C.1)=(gj x).map V.str:=by
 induction h with
 |nil=>rfl
 |cons h _ A=>rw[aT,A,h.1];rfl
def ag2 {w:¬Nat}(C:∀j∈w,j<!nms)(N:(!w)<1000):(lJ (dM<|vF 1) [none,#[2]] (gN 0) fj<|v2 bB (vN 1)<|vN 0) [x0,#[(.fr,.list<|w.map PM.cX)],#[(.fr,gH nms)]]=#[.list<|(w.map λj=>nms.getD j "").map .str]:=by
 z_go;rw[rT rfl (by rw[ac];calc bw ∅)];rw[j4 (f:=λd=>match d with|.int j=>.str (nms.getD j.toNat "")|d=>d)]
 .z_go;rw[ce,ce];rfl
 .intro d G;let(j,Y,rfl):=bg.mp G;refine([#[(.fr,.int<|j)],#[(.fr,.list<|nms.map .str)]],by z_go;rfl,rfl,?_);have H:=C j Y;z_go;rw[show cP (nms.map PyData.str) (j:Int)=#[.str<|nms.getD j ""] from fM (by simp[H,br])];rfl
def ad7 (B:Bl E.mg)(KT:YC K)(c:Cl K C)(h:MF E K C (bW 13)):MO E K C (bW 13) 1 (Lj K C):=by refine tD ["self","walk","names"] h (λe H Q h=>by let(_,_,_,_,_,_,_,_,rfl,_):=h;rfl) λH nd vt hr G=>?_;refine(_,aq (pS 2<|bF aaR gx B.list eW<|aj (c7 (pU 0) rfl) aG)<|aJ<|aZ<|dLC<|Dl (cap:=[none,#[2]]) ["self","walk","names"] (aP<|bW 13) 'k' rfl rfl (itL<|dF<|pU 1) (λ_ _ _ _ _=>(tgN<|qC (i:=0) (show(["number","names"]:¬Str).Nodup by decide +kernel) 'k')) (λ_ _ _ _ _=>ifN) (λ_ _ _ _ _=>(dIx (dN<|lF 'k' 1)<|mw<|dN<|lF 'k' 0)),?_);let(p,s,w,y,N,x,v,d,rfl,J,r,t,A,k,q):=G;let(I,U,l):=J.laid;dsimp only[gA];delta iW jq um cL d9 cg uc;refine dw rfl J.ins c.cl c.n2 rfl (y,I,rfl,U,λz u=>?_);rw[ad6 l];have O:=aH (o:=.lst<|(gj x).map V.str) u;have D:upd H z (.lst<|(gj x).map V.str) z=#[.lst<|(gj x).map V.str]:=ao;generalize upd H z (.lst<|(gj x).map V.str)=f at O D ⊢;refine VM.SJ (qF.at (m:=3) (L:=[(1,.list<|d.map PM.cX),(2,gH<|gj x)]) (.c rfl (Has.same O r)<|.c rfl (adD D A) .n) rfl) (ag2 (λj Y=>by delta gj;rw[ac];calc t j Y) k) λa xs T b g M n=>?_;rw[yp n] at M;calc q a T (O.trans b) (O.free g) M
inductive Od (K:Frag)(C:Addr)(vs:¬V)(H:Hp)(Q:VK):Prop
 |mk:∀p dx nn ll nums ls v,∀bU:¬Int,vs=[.ref p,v]->aW H C p dx nn ll nums ls->Has K H (.list<|bU.map .int) v->(!bU)=!nums->(∀v H',Same H H'->((∀x∈seenOf nums,(PyData.str x).canLay0=true)->Has K H' (.list<|((seenOf nums).zip bU).map mW) v)->Q v H')->Od K C vs H Q
def GC (K:Frag)(C:Addr):Sp:=λJ H Q=>Od K C J H Q
def abt (B:Bl E.mg)(c:Cl K C)(k:MO E K C (bW 7) 1 (yx C))(h:MF E K C (bW 14)):MO E K C (bW 14) 2 (GC K C):=by refine tD ["self","moments"] h (λvs H Q h=>by let(_,_,_,_,_,_,_,_,rfl,_):=h;rfl) λH nd vt hr m=>?_;refine(_,aJ<|aZ<|Zd gx B.list gx B.zip<|aj (pM0 k<|pU 0)<|aj (pU 1) aG,?_);let(p,O,n,d,A,f,v,e,rfl,T,b,r,u):=m;let(a,xs,rfl,M,N):=b;have J:=aK.ints.mp N;subst J;delta uc tLZ cL d9 iy;refine ak rfl (p,O,_,rfl,T.ins,rfl,p,O,n,d,A,f,rfl,T,λs L=>?_);have U:=aH (o:=.lst<|(seenOf A).map V.str) L;refine ak rfl (s,a,_,_,rfl,aU.of ao,U.seq M,by rw[ac,ac];delta seenOf;rw[ac,r],λz ts Y w G D I=>?_);have y:(!(seenOf A))=!A:=ac ..;rw[ac] at D;refine u _ Y (U.trans w) (ad5 G D ∅ λj t x i g l q=>?_);calc I j t (.str x) (.int i) g (by rw[ay,l];rfl) (by rw[ay,q];rfl)
end
end bV
namespace LH
open L2 VM Sp PM
variable {T W W':Int}
inductive alq (n:Nat)(ps:¬aO)(st g:Nat)(T W:Int):Prop
 |mk:∀ws bU,fV n ps st g T W ws bU->alq n ps st g T W
end LH
namespace LH
open L2 VM Sp PM
variable {T W:Int}
end LH
namespace LH
open L2 VM Sp PM
variable {ps:¬aO}{M T C p:Int}
def lX (T:Int)(x:Int×Int)(G:¬(Int×Int)):jD T (x::G)=x.2*(if x.1<=T then T+1 - x.1 else 0)+jD T G:=pF _ _ _
theorem JN (T:Int):∀{G:¬(Int×Int)},(∀x∈G,T<x.1)->jD T G=0
 |[],_=>by simp[jD,wsum]
 |x::G,h=>by have a:=h x ae;rw[lX,JN T λy n=>h y<|af _ n,aw ∅];simp
def fB (p:Int):Int->Int->¬(Int×Int)->¬Int
 |_,_,[]=>[]
 |am,A,x::G=>((p+(A+x.2*x.1) - 1)/(am+x.2))::fB p (am+x.2) (A+x.2*x.1) G
theorem CQ (p:Int):∀(G:¬(Int×Int)) (am co:Int),(!(fB p am co G))=!G
 |[],_,_=>rfl
 |x::G,am,co=>by rw[fB,a8,CQ p G,a8]
def abu (x:Int×Int)(G:¬(Int×Int)):many (x::G)=x.2+many G:=by simp[many]
def Zn (v:G≠[])(u:(!G)<=16000000)(D:∀x∈G,1<=x.1/\1<=x.2)(Q:∀x∈G,x.1<1e100)(g:many G<1e100):
  Pg.p8 [.list<|G.map jj,.int p]=#[(false,.int<|dX<|fB p 0 0 G)]:=by
 have O:∀A G (E J:Int) (B:¬Int) (U Y:↑()),0<=E->(!B)+(!G)<=16000000->(∀x∈G,1<=x.1/\1<=x.2)->(∀x∈G,x.1<1e100)->E+many G<1e100->∃H I j k,eE (gT 2<|gC (gN 5)<|gC (gN 6) g0) (aR (qT fX 2<|vF 6)<|aR (qT fX 3<|v2 Bj (vN 6)<|vN 5)<|gM 4<|aC (v2 uZ (v2 jd (v2 fX (vN 1)<|vN 3)<|vC<|.int 1)<|vN 2) a0) (G.map jj)
   [#[(Tg.fr,.list A)],#[(Tg.fr,.int p)],#[(Tg.fr,.int E)],#[(Tg.fr,.int J)],#[(Tg.ow,.list<|B.map .int)],ob U,ob Y]=.nxt [#[(Tg.fr,.list A)],#[(Tg.fr,.int p)],#[(Tg.fr,.int H)],#[(Tg.fr,.int I)],#[(Tg.ow,.list<|(B++fB p E J G).map .int)],ob j,ob k]:=λA G=>by
  induction G with
  |nil=>intro E J B U Y _ _ _ _ _;calc(E,J,U,Y,by simp[eE,fB])
  |cons x G z=>
   intro E J B U Y b N D Q g;have c:=D x ae;have s:=Q x ae;have t:=Gy λy n=>by have:=(D y<|af _ n).2;lk
   rw[abu] at g;rw[a8] at N;let(H,I,l,o,L):=z (E+x.2) (J+x.2*x.1) (B++[(p+(J+x.2*x.1) - 1)/(E+x.2)]) (#[.int x.1]) (#[.int x.2]) ∅ (by rw[aE];erw[a8,c9];lk) (λy n=>D y<|af _ n) (λy n=>Q y<|af _ n) ∅;refine(H,I,l,o,?_);have e:jj x=.tuple [.int x.1,.int x.2]:=rfl;rw[aT,eE,e,fB];rw[cE] at L;rw[List.singleton_append] at L;rw[<-L];z_go;rw[BK ∅ ∅ ∅ ∅];z_go;rw[jz ∅ ∅];z_go;rw[ap (by rw[ac];calc bw ∅),b7];rfl
 delta Pg.p8 Pg.Jq;z_go;let(H,I,l,o,L):=O (G.map jj) G 0 0 [] none none ∅ ‹u› D Q ∅;erw[gn,fx,gm] at L;rw[L];z_go;have q:minD [.list<|(fB p 0 0 G).map PyData.int]=#[.int<|dX<|fB p 0 0 G]:=by
  erw[minD,kY];cases G with
  |nil=>lk
  |cons m r=>rfl
 rw[q];rfl
structure zX where
 w:¬Nat
 m:Int
 s:Int
 e:Int
def cM (r:zX):():=.tuple [.list<|r.w.map cX,.int r.m,.int r.s,.int r.e]
abbrev W5 (ps:¬aO)(A:())(T p:Int)(L:¬())(B:Int)(D x7 E G:↑()):GS:=[#[(Tg.fr,hD ps)],#[(Tg.fr,A)],#[(Tg.fr,.int T)],#[(Tg.fr,.int p)],#[(Tg.ow,.list L)],#[(Tg.fr,.int B)],ob D,ob x7,ob E,ob G]
abbrev pfF (vs:¬(¬Nat×Int))(S:GS):Out:=eE (gT 2<|gC (gN 6)<|gC (gN 7) g0) (aR (eV (v2 fX (v2 jd (vN 2)<|cV Pg.iR<|aC (vF 0)<|aC (vF 6) a0)<|vC<|.int 1)<|gN 8)<|aR (eV (dW uD<|aC (vN 8)<|aC (v2 uZ (vN 5)<|vN 7) a0)<|gN 9)<|aR (gw (vB<|v2 Ah (vN 9)<|vC<|.int 0) (aR (gM 4<|aC (je<|aC (vF 6)<|aC (vF 7)<|aC (vC<|.int 0)<|aC (v2 jd (vN 9)<|vC<|.int 1) a0) a0)<|qT jd 5<|v2 Bj (vN 7)<|vN 9) dH)<|gw (mj (vB<|v2 Af (vN 9)<|vN 8)<|vB<|v2 Ah (vN 5)<|vC<|.int 0) (aR (gM 4<|aC (je<|aC (lV<|vN 6)<|aC (vF 5)<|aC (vF 9)<|aC (vF 9) a0) a0)<|eV (vC<|.int 0)<|gN 5) dH) (vs.map jT) S
def Zo {ws:¬(¬Nat×Int)}(hp:(!ps)<=900)(hwl:(!ws)<=900)(z:0<=p)(h:∀x∈ws,1<=x.2/\bT aO.l ps x.1<=T)(b:∀x∈ws,(∀j∈x.1,j<!ps)/\(!x.1)<=900)(hb:∀x∈ws,x.2<1e100/\0<=bT aO.l ps x.1)(hT:T+1<1e100):
  ∃B:¬zX,(∀r∈B,∃x∈ws,r.w=x.1)/\(!B)<=2*!ws/\Pg.qb [hD ps,.list<|ws.map jT,.int T,.int p]=#[(true,.list<|B.map cM)]:=by
 have q:∀A J (D:Int) (E:¬zX) (L N O Q:↑()),0<=D->(∀x∈J,x∈ws)->(!E)+2*(!J)<=2000->∃B:¬zX,∃H U Y g l,(∀r∈B,∃x∈ws,r.w=x.1)/\(!B)<=2*!J/\pfF J (W5 ps A T p (E.map cM) D L N O Q)=.nxt (W5 ps A T p ((E++B).map cM) H U Y g l):=λA J=>by
  induction J with
  |nil=>intro D E L N O Q _ _ _;calc⟨[],D,L,N,O,Q,λ_ h=>(by cases h),cv _,by simp[pfF,eE]⟩
  |cons x J ih=>
   intro D E L N O Q u o m;have w:=h x<|o x ae;have c:=b x<|o x ae;have hx2:=hb x<|o x ae;rw[a8] at m;have G:∀(v:¬zX) (I:Int) (L N O Q:()),(∀r∈v,r.w=x.1)->(!v)<=2->0<=I->∃B:¬zX,∃H U Y g l,(∀r∈B,∃x∈ws,r.w=x.1)/\(!B)<=2*!(x::J)/\pfF J (W5 ps A T p (E.map cM++v.map cM) I #[L] #[N] #[O]<|#[Q])=.nxt (W5 ps A T p ((E++B).map cM) H U Y g l):=λv I L N O Q hr hl h2=>by
    let(B,H,a,i,e,y9,t,s,n):=ih I (E++v) #[L] #[N] #[O] #[Q] h2 (λy n=>o y<|af _ n) (by rw[aE];lk);rw[cE,b7] at n;refine⟨v++B,H,a,i,e,y9,λr h=>?_,by rw[aE,a8];lk,n⟩;rcases bd.mp h with h|h
    .exact⟨x,o x ae,hr r h⟩
    .exact t r h
   delta pfF W5 at G ⊢;have ew:jT x=.tuple [.list<|x.1.map cX,.int x.2]:=rfl;rw[aT,eE,ew];have el:=Oa c.1 ∅;have d0:0<=D/x.2:=Int.ediv_nonneg u ∅;have d1:=Int.mul_ediv_self_le (x:=D) (k:=x.2) ∅;z_go;rw[el];z_go;rw[jz ∅ ∅];z_go;have d:0<=(if D/x.2<T - bT aO.l ps x.1+1 then D/x.2 else T - bT aO.l ps x.1+1)/\(if D/x.2<T - bT aO.l ps x.1+1 then D/x.2 else T - bT aO.l ps x.1+1)<=T - bT aO.l ps x.1+1/\(if D/x.2<T - bT aO.l ps x.1+1 then D/x.2 else T - bT aO.l ps x.1+1)<=D/x.2:=by split<;>lk
   generalize (if D/x.2<T - bT aO.l ps x.1+1 then D/x.2 else T - bT aO.l ps x.1+1)=f at d ⊢;have d2:x.2*f<=x.2*(D/x.2):=be d.2.2 ∅;by_cases zA:0<f
   .kt_k;by_cases z1:f<T - bT aO.l ps x.1+1
    .kt_k;by_cases z2:0<D - x.2*f
     .kt_k;rw[ap (by rw[aE,ac];erw[a8,c9];calc bw ∅)];z_go;rw[cE];exact G [⟨x.1,x.2,0,f - 1⟩,⟨x.1,D - x.2*f,f,f⟩] 0 _ _ _ _ 's' 's' (bE _)
     .kt_k;exact G [⟨x.1,x.2,0,f - 1⟩] (D - x.2*f) _ _ _ _ 's' 's' ∅
    .kt_k;exact G [⟨x.1,x.2,0,f - 1⟩] (D - x.2*f) _ _ _ _ 's' 's' ∅
   .erw[zA,fy];z_go;by_cases z1:f<T - bT aO.l ps x.1+1
    .kt_k;by_cases z2:0<D
     .kt_k;exact G [⟨x.1,D,f,f⟩] 0 _ _ _ _ 's' 's' (bE _)
     .kt_k;rw[<-fS (E.map cM)];exact G [] D _ _ _ _ 's' 's' u
    .erw[z1,fy];z_go;rw[<-fS (E.map cM)];exact G [] D _ _ _ _ 's' 's' u
 let(B,H,a,i,e,y9,t,s,n):=q (.list<|ws.map jT) ws p [] none none none none z (λx w=>w) (by erw[c9];lk);refine⟨B,t,s,?_⟩;delta Pg.qb Pg.Jr;z_go;delta pfF W5 at n;erw[gn,fx,gm] at n;rw[n];rfl
def ad8 (E:1<=p):∀{G:¬(Int×Int)}{am co t:Int},0<=am->am<=co->(∀x∈G,1<=x.1/\1<=x.2)->t∈fB p am co G->1<=t:=by
 intro G;induction G with
 |nil=>intro _ _ _ _ _ _ h;cases h
 |cons x G A=>
  intro am co t B O D h;have U:=D x ae
  have:x.2*1<=x.2*x.1:=be U.1 ∅
  rcases bq.mp h with h|h
  .rw[h];exact Int.le_ediv_of_mul_le ∅ ∅
  .calc A ∅ ∅ (λy n=>D y<|af _ n) h
structure afy (n:Nat)(ps:¬aO)(p T:Int)(xK:¬zX)(bU:¬Int):Prop where
 T1:1<=T
 Tb:T<=p+(ps.map aO.l).sum
 row:∀r∈xK,(∀j∈r.w,j<!ps)/\r.w.Nodup
 len:(!xK)<=2*!ps
 ml:(!bU)=n
def ad9 {B:Int}(j:aW n ps)(sm:Small n ps)(hn:n<=900)(m:(!ps)<=900)(Q:st<n)(hg:g<n)(H:st≠g)(p1:1<=p)(hpb:p+(ps.map aO.l).sum+1<1e100)(k:0<=B)(y:∀q∈ps,q.w<=B)(hBl:B*(!ps)<1e100):
  ∃G,WR n ps st g G/\((G=[]/\Pg.eH [.int (n:Int),hD ps,.int (st:Int),.int (g:Int),.int p]=#[(false,.none)])\/(G≠[]/\∃D Y,afy n ps p (dX<|fB p 0 0 G) D Y/\Pg.eH [.int (n:Int),hD ps,.int (st:Int),.int (g:Int),.int p]=#[(false,.tuple [.int<|dX<|fB p 0 0 G,.list<|D.map cM,.list<|Y.map .int])])):=by
 let(G,S):=adT j sm Q hg H;refine⟨G,S,?_⟩;by_cases N:G=[]
 .refine .inl ⟨N,?_⟩;have e:=S.e;rw[N] at e;delta Pg.eH Pg.rB;z_go;rw[e];rfl
 .refine .inr ⟨N,?_⟩;have J:=S.rise.pos;let(t,u):=jf (ns:=fB p 0 0 G) (by intro z;have:=CQ p G 0 0;rw[z] at this;calc N<|ee.mp this.symm);have I:many G<1e100:=by let(_,_,_,b):=S.most;have:=alo H b k y;lk
  have w:=Zn (p:=p) N S.len J (λx A=>by have:=S.low x A;lk) I;generalize hT:dX (fB p 0 0 G)=T at*
  have c:=ad8 p1 (bE 0) (bE 0) J t;have d:T<=p+(ps.map aO.l).sum:=by
   cases G with
   |nil=>lk
   |cons x G=>
    have h1:=u _ (by rw[fB];calc ae);have h2:=J x ae;have i:=S.low x ae;have h:(p+(0+x.2*x.1) - 1)/(0+x.2)<p+x.1+1:=by
     refine Int.ediv_lt_of_lt_mul ∅ ?_;rw[iA,iA,iq,iq,nv x.1]
     have:p*1<=p*x.2:=be ∅ ∅
     lk
    lk
  let(fl,M,C,F,s,_):=S.flow T;let(π,p0,p2,p3):=F.near;let(o,f,em):=JM (T:=T - 1) j hn m Q hg H ∅ F.len p0 ∅ p2;let(ws,P,L,hwl,a):=F.walks j m H;let(D,r1,r2,l):=Zo (p:=p) (T:=T) m ∅ ∅ (λx A=>⟨(P.walk x A).m1,L x A⟩) (λx A=>⟨(P.walk x A).ix,by have:=iD (P.walk x A).nd (P.walk x A).ix;lk⟩) (λx A=>by
   have Wk:=P.walk x A;let(U,E):=fA _ Wk.ne;have h1:=((P.has A) U E).1;have v:=ai (Wk.ix U E);have h2:=(F.lo U _ _ v (oh (by rw[F.len];calc Wk.ix U E))).2;have i:=y _ (ag v);have h6:=Wk.ix U E;have h:B*1<=B*!ps:=be ∅ k;have h5:=CP j Wk.ix;calc⟨by lk,by lk⟩) ∅
  refine⟨D,o.map<|j9<|T - 1,⟨c,d,λr hr=>?_,by lk,by rw[ac];calc f.ll⟩,?_⟩
  .let(x,A,R):=r1 r hr;rw[R];exact⟨(P.walk x A).ix,(P.walk x A).nd⟩
  .delta Pg.eH Pg.rB;z_go;rw[S.e];z_go;have O:(G.map jj).isEmpty=false:=by cases G with|nil=>calc absurd rfl N|cons x G=>rfl
   erw[O];z_go;rw[w];z_go;rw[s];z_go;rw[a];z_go;rw[l];z_go;rw[em];z_go
end LH
namespace L2
open PySem.W PySem.Calls PyProof.Rows
section
variable {Bf pO:Pos}
inductive Ub:V->¬V->Hp->VK->Prop
 |mk dI:H d=#[.dK dI]->(∀z,H z=none->Q (.ref z) (upd H z<|.dK dI))->Ub (.ref d) [] H Q
def alr:uo X "dict.copy" Ub:=by intro B s T H x O v J Q I L E q;let(D,C,q):=q;cases L;have A:=E.zero;subst A;let(z,hS,b,rel,N):=m8 I.hok C;refine ie nh N.typeIs PySem.F.entry_dict_copy (PySem.F.args_dict_copy_1 _) (meets_dict_copy (strKind X.prog X.w) _ hS) (b,N,by rw[<-!rel];calc z,λg G _ M=>?_);calc(.ref _,_,I.laid M (av _)<|Jf z (ot.mpr<|ci (c8 I.big)) rel G,rfl,q _ I.fresh)
def ajg (I:PE X o G)(C:(attributeBase o "copy" X.env (eval o X.env)=eval o X.env)∣0)(D:((Bf.endLine==pO.line)=true)∣0):PE X (.Call (.Attribute o "copy" Bf) [] [] pO) (qK X.K "dict" Ub G):=Ay du nh PySem.F.type_dict_copy alr I C D
end
end L2
namespace bV
open PyProof.Rows L2 VM
section
variable {K:Frag}
def lcH {ws:¬c}(k O:c->())(U:aU K B a xs)(N:aK K B (ws.map k) xs)(t:(!ws)<1000)(Y:∀M H (R:Bool->Hp->Prop),R true H->tc M H R)
  (step:∀D I x E (R:VK) (T:L2.St->Hp->Prop),I∈ws->Same B E->E D≠none->Has K E (k I) x->(∀y J,Same E J->Has K (hide D J) (O I) y->R y J)->(∀G J,dD (cR cap M) G->te G J R->T G J)->g x (cR cap M) E T)
  (m:∀v J,Same B J->Has K J (.list<|ws.map O) v->Q v J):Gb (G6 K a) cap g tc te M B Q:=by
 have q:=!N;rw[ac] at q;refine lcL (xs:=xs) (λD i L E=>Same B E/\aK K (hide D E) ((ws.take i).map O) L) (bw ∅) (λD hD=>⟨aH hD,rfl⟩) (λD i L E h=>h.1.seq U) Y ?_ ?_
 .rintro D i x L E hD u ⟨sm,n⟩ A R T p l;let(d,e,r):=N.get u;rw[ay] at e;let(I,C,rfl):=c6.mp e;refine step D I x E R T (ag C) sm (by rw[A];calc Option.some_ne_none _) (r.same sm) (λy J j h2=>p y J (j _ _ A) ⟨λb o e=>by rw[au<|aV e hD];calc j _ _<|sm _ _ e,?_⟩) l;rw[uY,eJ,C,b7];exact(n.same<|qN j).snoc h2
 .rintro D L J hD ⟨sm,n⟩ z A;rw[bn ∅] at n;calc m _ J sm ⟨D,L,rfl,aU.of A,n.same mH⟩
def outD (x:¬(Str×Q4))(nums:¬(Str×Int))(W:Int)(ws:¬(¬Nat×Int))(A:¬Int):():=.tuple [.int W,.list<|(ws.map<|wn x).map jT,.list<|((seenOf nums).zip A).map mW]
def ajh (h:Has K H (outD x nums W ws A) v):∃t r,v=.ref t/\cF K H t (.int W::r):=by let(t,_,rfl,U,_,_,rfl,rfl,_):=h;calc⟨t,_,rfl,U⟩
inductive abw (K:Frag)(C:Addr)(vs:¬V)(H:Hp)(Q:VK):Prop
 |mk:∀p dx nn ll nums ls T W ws,∀bU:¬Int,vs=[.ref p,.int T]->aW H C p dx nn ll nums ls->(!ls)<100->Pg.fD [.int ((!nums):Int),.list<|ls.map vQ,.int 0,.int 1,.int T]=#[(false,.tuple [.int W,.list<|ws.map LH.jT,.list<|bU.map .int])]->((∀x∈ws,(∀j∈x.1,j<!ls)/\(!x.1)<1000))->(!ws)<1000->(!bU)=!nums->((∀x∈gj ls,(PyData.str x).canLay0=true))->(∀x∈seenOf nums,(PyData.str x).canLay0=true)->(∀v H',Same H H'->Has K H' (outD ls nums W ws bU) v->Q v H')->abw K C vs H Q
def wO (K:Frag)(C:Addr):Sp:=λJ H Q=>abw K C J H Q
def aji (B:Bl E.mg)(c:Cl K C)(Mo:MO E K C (bW 12) 6 (Li K C))(Mn:MO E K C (bW 13) 1 (Lj K C))(Mb:MO E K C (bW 14) 2 (GC K C))(h:MF E K C (bW 9)):MO E K C (bW 9) 7 (wO K C):=by
 have vc:=(show(["walk","number","self"]:¬Str).all (λx=>Ge (adx ((dU (bW 9)).getD 1 (.Pass ⟨0,0,0,0⟩))) x && plain x)=true by decide +kernel);refine tD ["self","turns","told","walks"] h (λvs H Q h=>by let(_,_,_,_,_,_,_,_,_,_,rfl,_):=h;rfl) λH nd vt hr w=>?_;refine⟨_,aq (pS 2 (pM Mo (pU 0) (aj (c7 (pU 0) rfl) (aj (pU 1) aG))))
  (aq (mF (g:=za K 2 (gV (cg 0) (gV (cg 1) uz))) (i:=3) nd rfl lx (cap:=[none,none,#[0]]) ["self","turns","told","walks"] (aP (bW 9)) 'k' rfl rfl (jW (bO lG (pU 2) aN))
   (λ_ _ _ _ _=>(m6<|bM (qC 'k'<|'k')<|bM (qC 'k'<|'k') jZ))
   (λ_ _ _ _ _=>lU) (λ_ _ _ _ _=>(iY (aj (pM Mn (lF vc 2) (aj (lF vc 0) aG)) (aj (lF vc 1) aG)))))
  (aJ (aZ (iY (aj (bO lG (pU 2) aN) (aj (pU 3) (aj (pM Mb (pU 0) (aj (bO lG (pU 2) aN) aG)) aG))))))),?_⟩
 let(p,I,nn,y,A,q,T,W,ws,bU,rfl,J,hl,em,hws,hwl,s,G,n,hq):=w;let(dI,hk,hp):=J.laid;dsimp only[gA];delta iW jq;delta iy cL d9 cg;refine ak rfl ⟨p,I,_,rfl,J.ins,rfl,?_⟩;refine dw rfl J.ins c.cl c.n2 rfl<|ak rfl ⟨p,I,nn,y,y,A,q,T,_,dI,q,rfl,J,hk,hp,hl,em,λv H1 s1 hv=>?_⟩;let(t0,xs0,rfl,Y,z1,q1,rfl,g1,z2,q2,rfl,g2,z3,q3,rfl,g3,g4):=hv;have e1:=g1;have e4:=g4;subst e1 e4;let(a,xs,rfl,k,W6):=g2;have M:=J.grow s1;try k_ne
 delta sX uw;refine vD rfl Y rfl ⟨a,rfl,⟨xs,k⟩,?_⟩;refine lcH LH.jT (jT ∘ wn q) k W6 hwl (λmK H' R r=>r) (λD wi x H' R Kt hwm sm hD hv hR hK=>?_) λv2 H2 sm l=>?_
 .let(tt,ys',rfl,e,y1,r1,rfl,k1,y2,r2,rfl,k2,k3):=hv;have e2:=k2;have e3:=k3;subst e2 e3;refine⟨_,e,rfl,hK _ _ (dD.skip<|dD.skip dD.refl) ?_⟩;have O:=M.grow sm;let(U,m):=hws wi hwm;delta qI;refine ak rfl ⟨p,I,_,rfl,O.ins,rfl,ak rfl ⟨p,I,nn,y,A,q,y1,wi.1,rfl,O,k1,U,G,m,λL H2 s2 hL f=>ak rfl ⟨by show 2<=sizeLine;decide,λu hu=>hR _ _ (s2.trans<|aH hu) ?_⟩⟩⟩;have b:=aH (o:=.tup [.ref L,.int wi.2]) hu;have huD:u≠D:=λz=>hD (s2.free (by rw[<-z];calc hu));have d:L≠D:=λz=>hD (by rw[<-z];calc hL);exact⟨u,_,rfl,cF.of ((hide_ne huD).trans ao),_,_,rfl,⟨L,_,rfl,aU.of ((hide_ne d).trans<|b _ _ f),fu<|ad4 G U⟩,_,_,rfl,rfl,rfl⟩
 .have N:=M.grow sm;delta uc qI;have j:=sm.uX Y;refine vD rfl j rfl (ak rfl (ak rfl ⟨p,I,_,rfl,N.ins,rfl,vD rfl j rfl ⟨p,I,nn,y,A,q,z3,bU,rfl,N,Has.same sm g3,s,λv3 H3 b hv3=>⟨by show 3<=sizeLine;decide,λt ht=>?_⟩⟩⟩));have s4:=aH (o:=.tup [.int W,v2,v3]) ht;rw[<-ce] at l;calc hq _ _ (s1.trans<|sm.trans<|b.trans s4) ⟨t,_,rfl,cF.of ao,_,_,rfl,rfl,_,_,rfl,l.same<|b.trans s4,_,_,rfl,(hv3 n).same s4,rfl⟩
inductive Uc (C:Addr)(vs:¬V)(H:Hp)(Q:VK):Prop
 |mk:∀p dx nn ll nums ls n d,vs=[.ref p,.int n]->aW H C p dx nn ll nums ls->(!ls)<100->Pg.eH [.int ((!nums):Int),.list<|ls.map vQ,.int 0,.int 1,.int n]=#[(false,d)]->((∀x∈gj ls,(PyData.str x).canLay0=true))->(((d=.none/\∀H',Same H H'->Q .non H')\/∃T,∃xK:¬LH.zX,∃bU:¬Int,d=.tuple [.int T,.list<|xK.map LH.cM,.list<|bU.map .int]/\(∀r∈xK,(∀j∈r.w,j<!ls)/\(!r.w)<1000)/\(!xK)<1000/\(!bU)=!nums/\∀H' t r,Same H H'->H' t=#[.tup (.int T::r)]->Q (.ref t) H'))->Uc C vs H Q
def uR (K:Frag)(C:Addr):Sp:=λJ H Q=>Uc C J H Q
def aea (B:Bl E.mg)(c:Cl K C)(Cf:CV E K 28 5 Pg.eH){t0 t1:Tok}(g0:E.mg "START"=#[.int 0 t0])(g1:E.mg "GOAL"=#[.int 1 t1])(Mn:MO E K C (bW 13) 1 (Lj K C))(Mb:MO E K C (bW 14) 2 (GC K C))(h:MF E K C (bW 10)):MO E K C (bW 10) 6 (uR K C):=by
 have vc:=(show(["walk","number","first","last","self"]:¬Str).all (λx=>Ge (adx ((dU (bW 10)).getD 3 (.Pass ⟨0,0,0,0⟩))) x && plain x)=true by decide +kernel);refine tD ["self","people","laid","told","plan"] h (λvs H Q h=>by let(_,_,_,_,_,_,_,_,rfl,_):=h;rfl) λH nd vt hr nY=>?_;refine⟨_,aq (pS 2 (bF aa7 gx B.list eW (aj (Jz (c7 (pU 0) rfl)) aG)))
  (aq (pS 3 (pC Cf (aj (cI Jk gx B.len db (aj (c7 (pU 0) rfl) aG)) (aj (pU 2) (aj (ju (v:=.int 0) gx g0 ⟨_,rfl⟩) (aj (ju (v:=.int 1) gx g1 ⟨_,rfl⟩) (aj (pU 1) aG)))))))
  (aq (bI (sO (QS (pU 3))) (aJ (aZ nO)) aX)
  (aq (mF (g:=za K 4 (gV (cg 0) (gV (cg 1) (gV (cg 2) (gV (cg 3) uz))))) (i:=4) nd rfl lx (cap:=[none,none,none,none,#[0]]) ["self","people","laid","told","plan"] (aP (bW 10)) 'k' rfl rfl (jW (bO lG (pU 3) aN))
   (λ_ _ _ _ _=>(m6<|bM (qC 'k'<|'k')<|bM (qC 'k'<|'k')<|bM (qC 'k'<|'k')<|bM (qC 'k'<|'k') jZ))
   (λ_ _ _ _ _=>lU) (λ_ _ _ _ _=>(iY (aj (pM Mn (lF vc 4) (aj (lF vc 0) aG)) (aj (lF vc 1) (aj (lF vc 2) (aj (lF vc 3) aG)))))))
  (aJ (aZ (iY (aj (bO lG (pU 3) aN) (aj (pU 4) (aj (pM Mb (pU 0) (aj (bO lG (pU 3) aN) aG)) aG))))))))),?_⟩
 let(p,dx,nn,N,G,ls,n,d,rfl,hh,hl,em,O,hd):=nY;let(A,hk,hp):=hh.laid;dsimp only[gA];delta iW jq;delta um qK cL d9 cg;refine dw rfl hh.ins c.cl c.n2 rfl ⟨.inr<|.inr ⟨rfl,A,hk⟩,A,hk,λz hz=>?_⟩;have s1:=aH (o:=qp z N) hz;refine⟨z,N,A,rfl,ao,s1 _ _ hk,λl hl'=>?_⟩;have s2:=aH (o:=.lst<|A.map λJ=>J.2) hl';have I:=s1.trans s2;have m:upd (upd H z<|qp z N) l (.lst<|A.map λJ=>J.2) l=#[.lst<|A.map λJ=>J.2]:=ao;generalize upd (upd H z<|qp z N) l (.lst<|A.map λJ=>J.2)=H1 at s2 I m ⊢;have U:=hh.grow I;try k_ne
 delta jy tC;refine dw rfl U.ins c.cl c.n1 rfl ⟨nn,_,rfl,U.num,ak rfl<|ak rfl ?_⟩;refine⟨_,[.int<|!G,.list<|ls.map vQ,.int 0,.int 1,.int n],Same.refl _,?_,false,d,em,λv F' H2 g M=>?_⟩
 .refine⟨_,_,rfl,?_,_,_,rfl,⟨l,_,rfl,aU.of m,W4<|hp.mono λ_ _ z=>z.same λt xs e=>I _ _ e⟩,_,_,rfl,rfl,_,_,rfl,rfl,_,_,rfl,rfl,rfl⟩;show V.int _=V.int _;simp
 have sH:=I.trans g.hh;have M:=Has.same g.fh M;have Y:=hh.grow sH;delta d8 tB Xw;rcases hd with⟨rfl,hq⟩|⟨T,xK,bU,rfl,hws,hwl,hml,hq⟩
 .have M:=M;subst M;refine ak rfl ⟨true,by simp,?_⟩;try k_ne
  rw[ap rfl];exact hq _ sH
 let(t0,xs0,rfl,q,z1,q1,rfl,g1,z2,q2,rfl,g2,z3,q3,rfl,g3,g4):=M;have e1:=g1;have e4:=g4;subst e1 e4;let(a,xs,rfl,f,W6):=g2;refine ak rfl ⟨false,by simp,?_⟩;try k_ne
 rw[aw<|by decide];delta m5;try k_ne
 delta sX uw;refine vD rfl q rfl ⟨a,rfl,⟨xs,f⟩,?_⟩;have hl2:=!W6;rw[ac] at hl2;refine lcL (xs:=xs) (λ_ _ _ H'=>Same H2 H') (bw ∅) (λD hD=>aH hD) (λD i ys H' s=>s.seq f) (λmK H' R r=>r) ?_ ?_
 .intro D i x ys H' hD hx sm hyD R Kt hR hK;let(d,e,M):=W6.get hx;rw[ay] at e;let(wi,hwi,rfl):=c6.mp e;let(tt,ys',rfl,htt,y1,r1,rfl,k1,y2,r2,rfl,k2,y3,r3,rfl,k3,y4,r4,rfl,k4,k5):=M.same sm;have e2:=k2;have e3:=k3;have e4:=k4;have e5:=k5;subst e2 e3 e4 e5;refine⟨_,htt,rfl,hK _ _ (dD.skip<|dD.skip<|dD.skip<|dD.skip dD.refl) ?_⟩;have k:=Y.grow sm;let(W8,w):=hws wi<|ag hwi;delta qI iy;refine ak rfl ⟨p,dx,_,rfl,k.ins,rfl,ak rfl ⟨p,dx,nn,N,G,ls,y1,wi.w,rfl,k,k1,W8,O,w,λL H2 s2 hL hLv=>ak rfl<|ak rfl<|ak rfl ⟨by show 4<=sizeLine;decide,λu hu=>?_⟩⟩⟩;have s3:=s2.trans<|aH (o:=.tup [.ref L,.int wi.m,.int wi.s,.int wi.e]) hu;exact hR _ _ (s3 _ _ hyD) λb o e=>by rw[au<|aV e hD];exact s3 _ _<|sm _ _ e
 .intro D ys H3 hD sm _ hyD;have j:=Y.grow sm;delta uc qI iy;have y:=sm.uX q;calc vD rfl y rfl<|ak rfl<|ak rfl ⟨p,dx,_,rfl,j.ins,rfl,vD rfl y rfl ⟨p,dx,nn,N,G,ls,z3,bU,rfl,j,Has.same sm g3,hml,λv3 H4 s3 _=>⟨by show 3<=sizeLine;decide,λt ht=>hq _ t _ (sH.trans<|sm.trans<|s3.trans<|aH ht) ao⟩⟩⟩
inductive Ud (C:Addr)(vs:¬V)(H:Hp)(Q:VK):Prop
 |mk:∀p dx nn ll nums ls nm q T W W' r r',vs=[.ref p,.str nm,.int T]->aW H C p dx nn ll nums ls->dj nm ls=#[q]->(!ls)<100->Pg.fD [.int ((!nums):Int),.list<|ls.map vQ,.int 0,.int 1,.int T]=#[(false,.tuple (.int W::r))]->Pg.fD [.int ((!nums):Int),.list<|(rY nm ls).map vQ,.int 0,.int 1,.int T]=#[(false,.tuple (.int W'::r'))]->(∀H',Same H H'->Q (.int<|W - W') H')->Ud C vs H Q
def Lk (K:Frag)(C:Addr):Sp:=λJ H Q=>Ud C J H Q
def aeb (c:Cl K C)(a:MO E K C (bW 5) 1 (BZ C))(b:MO E K C (bW 12) 6 (Li K C))(h:MF E K C (bW 11)):MO E K C (bW 11) 7 (Lk K C):=by
 refine tD ["self","name","turns","without"] h (λvs H Q h=>by let(_,_,_,_,_,_,_,_,_,_,_,_,_,rfl,_):=h;rfl) λH nd vt hr m=>?_;refine⟨_,aq (cG (pM a (pU 0) (aj (pU 1) aG)))
  (aq (pS 3 (ajg (c7 (pU 0) rfl)))
  (aq (cG (zJ (pU 3) (pU 1) ⟨rfl,rfl,rfl,rfl⟩))
  (aJ (aZ (bK qL (bO lG (pM b (pU 0) (aj (c7 (pU 0) rfl) (aj (pU 2) aG))) aN) (bO lG (pM b (pU 0) (aj (pU 3) (aj (pU 2) aG))) aN)))))),?_⟩
 let(p,D,y,M,A,x,nm,q,T,W,W',r,r',rfl,G,d,f,i,e2,hq):=m;let(B,U,s):=G.laid;have g:=tE nm s;rw[d] at g;let(t,gv,gt):=g;dsimp only[gA];delta iW iw jq;delta iy qK cL d9 cg;refine ak rfl ⟨p,D,_,rfl,G.ins,rfl,ak rfl ⟨p,D,y,M,A,x,nm,q,rfl,G,d,?_⟩⟩;try k_ne
 refine dw rfl G.ins c.cl c.n2 rfl ⟨.inr<|.inr ⟨rfl,B,U⟩,B,U,λz hz=>?_⟩;refine ak rfl ⟨z,rfl,⟨_,.inl ao⟩,ak rfl ⟨B,nm,.ref t,ao,rfl,gv,?_⟩⟩;rw[Kd];have L:=aH (o:=.dK<|mq B nm) hz;have n:upd H z (.dK<|mq B nm) z=#[.dK<|mq B nm]:=ao;generalize upd H z (.dK<|mq B nm)=H2 at L n ⊢;have N:=G.grow L;have J:=s.mono λ_ _ z=>z.same λu xs e=>L _ _ e;delta uc jm;refine ak rfl ⟨p,D,_,rfl,N.ins,rfl,dw rfl N.ins c.cl c.n2 rfl<|ak rfl ⟨p,D,y,M,M,A,x,T,_,B,x,rfl,N,L _ _ U,J,f,i,λv H3 O l=>?_⟩⟩;let(t3,xs3,rfl,j,z3,q3,rfl,g3,_):=l;have e3:=g3;subst e3;have Y:=J.mono λ_ _ z=>z.same λu xs e=>O _ _ e;have I:=N.grow O;refine⟨_,_,j,pY _ _,?_⟩;refine ak rfl ⟨p,D,_,rfl,I.ins,rfl,ak rfl<|ak rfl ⟨p,D,y,M,z,A,x,T,_,_,rY nm x,rfl,I,O _ _ n,DX Y,dL (gd _ _) f,e2,λv w s4 l=>?_⟩⟩;let(t4,xs4,rfl,k,z4,q4,rfl,g4,_):=l;have e4:=g4;subst e4;calc⟨_,_,k,pY _ _,hq w<|L.trans<|O.trans s4⟩
end
end bV
namespace bV
open L2 VM
def oM (x:Str×Q4):Sp.aO:=(x.2.1.toNat,x.2.2.1.toNat,x.2.2.2.1,x.2.2.2.2)
def bD (x:¬(Str×Q4)):¬Sp.aO:=x.map oM
structure cH (seen:¬Str)(ls:¬(Str×Q4))(rows:¬Row)(B:Int):Prop where
 lr:Paired (LN seen) ls rows
 nn:(rows.map (·.1)).Nodup
 ne:∀r∈rows,r.2.1≠r.2.2.1
 w1:∀r∈rows,1<=r.2.2.2.1/\r.2.2.2.1<=B
 l1:∀r∈rows,1<=r.2.2.2.2
def rowAt (rows:¬Row)(j:Nat):Row:=rows.getD j ("","","",0,0)
section
variable {B:Int}
def cH.len (F:cH seen x rows B):(!x)=!rows:=!F.lr
structure AtR (seen:¬Str)(ls:¬(Str×Q4))(rows:¬Row)(j:Nat)(x:Str×Q4):Prop where
 l:ls[j]? =#[x]
 r:rows[j]? =#[rowAt rows j]
 m:rowAt rows j∈rows
 ln:LN seen x (rowAt rows j)
 p:(bD ls)[j]? =#[oM x]
 n:(gj ls).getD j ""=(rowAt rows j).1
 a:∃i:Nat,(oM x).a=i/\seen[i]? =#[(rowAt rows j).2.1]
 b:∃i:Nat,(oM x).b=i/\seen[i]? =#[(rowAt rows j).2.2.1]
 w:(oM x).w=(rowAt rows j).2.2.2.1
 e:(oM x).l=(rowAt rows j).2.2.2.2
def cH.at (F:cH seen C rows B)(h:j<!C):∃x,AtR seen C rows j x:=by
 have e:=ai h;let(r,U,hr):=Paired.get F.lr e;have A:rowAt rows j=r:=by delta rowAt;rw[br,U];rfl
 let(h1,(i,h2,J),(k,M,D),E,N):=hr;refine(C[j],e,by rwa [A],by rw[A];calc ag U,by rw[A];calc(h1,(i,h2,J),(k,M,D),E,N),by delta bD;rw[ay,e];rfl,?_,(i,by delta oM;k_ne;rw[h2];rfl,by rwa [A]),(k,by delta oM;k_ne;rw[M];rfl,by rwa [A]),by rwa [A],by rwa [A]);delta gj;rwa [br,ay,e,A]
def cH.mem (F:cH seen A rows B)(T:q∈bD A):∃j x,j<!A/\AtR seen A rows j x/\q=oM x:=by
 let(j,D):=dq T;have Y:j<!A:=by have:=(ah.mp D).1;unfold bD at this;rw[ac] at this;exact this
 let(x,C):=F.at Y;rw[C.p] at D;calc(j,x,Y,C,(bv D).symm)
def cH.hall (F:cH seen D rows B):Sp.aW (!seen) (bD D):=by
 refine(λq T=>?_,λq T=>?_,λq T=>?_,λq T=>?_,λq T=>?_)<;>let(j,x,Y,A,rfl):=F.mem T
 .let(i,e,h):=A.a;rw[e];exact(ah.mp h).1
 .let(i,e,h):=A.b;rw[e];exact(ah.mp h).1
 .let(i,e,h):=A.a;let(k,C,g):=A.b;rw[e,C];intro z;rw[z,g] at h;exact F.ne _ A.m (bv h).symm
 .rw[A.w];exact(F.w1 _ A.m).1
 .rw[A.e];calc F.l1 _ A.m
theorem cH.hD (F:cH seen A rows B):PM.hD (bD A)=.list (A.map vQ):=by delta PM.hD yt bD;rw[ce,ce];congr 1;refine cx λx C=>?_;let(j,D):=dq C;let(r,_,hr):=Paired.get F.lr D;let(_,(i,h2,_),(k,M,_),_,_):=hr;show pD (((x.2.1.toNat:Nat):Int),((x.2.2.1.toNat:Nat):Int),x.2.2.2.1,x.2.2.2.2)=vQ x;delta pD vQ;rw[h2,M];rfl
def cH.out (F:cH seen A rows B)(G:B<1e69)(I:2<=!seen/\(!seen)<=100)(N:(!A)<=12)(L:0<=T)(h1:T<1e72):
  ∃W ws C,LH.fV (!seen) (bD A) 0 1 T W ws C/\Pg.fD [.int ((!seen):Int),.list<|A.map vQ,.int 0,.int 1,.int T]=#[(false,.tuple [.int W,.list<|ws.map LH.jT,.list<|C.map .int])]:=by
 have H:(!(bD A))=!A:=by delta bD;rw[ac]
 have e:=LH.alp (st:=0) (g:=1) F.hall (LH.TQ ∅ ∅) ∅ ∅ ∅ ∅ ⋯ L ∅ (λq E=>by
  let(j,x,Y,D,rfl):=F.mem E;have:=F.w1 _ D.m;rw[D.w];lk)
 rw[F.hD] at e;calc e
theorem JQ:∀{rows:¬Row},(rows.map (·.1)).Nodup->r∈rows->rows.filter (λs=>decide<|s.1=r.1)=[r]
 |[],_,h=>by cases h
 |s::rows,nd,h=>by
  rw[aT,cS] at nd;rw[fR];rcases bq.mp h with g|g
  .subst g;rw[ap 's'];rw[List.filter_eq_nil_iff.mpr λt U=>by
    grind]
  .rw[aw (by erw[ca];calc λz=>nd.1 (by rw[z];calc fN (f:=λx:Row=>x.1) g))];calc JQ nd.2 g
def SW (rows:¬Row)(nms:())(s0 s1:Str)(acc:¬Nat)(room:Str)(C x7:↑()):GS:=[#[(Tg.fr,.list<|rows.map cM)],#[(Tg.fr,nms)],#[(Tg.fr,.str s0)],#[(Tg.fr,.str s1)],#[(Tg.ow,.list<|acc.map λj=>cM<|rowAt rows j)],#[(Tg.fr,.str room)],ob C,ob x7]
def abx (r:Row):(cM r).depth<=60:=by delta cM;simp[PyData.depth,depthAll]
def ag3 {s0 s1 nm:Str}(nd:(rows.map (·.1)).Nodup)(hr:r∈rows)(N:(!rows)<1000)(O:∀r∈rows,(cM r).canLay0=true)(C:r.1=nm):
  (lJ (dM<|vF 0) [none,#[6]] (gN 0) (vB<|v2 kE (v2 bB (vN 0)<|vC<|.int 0)<|vN 1)<|vF 0) (SW rows nms s0 s1 acc room (#[.str nm]) x7)=#[.list [cM r]]:=by
 delta SW;z_go;rw[rT rfl (by rw[ac];calc bw ∅)];rw[HS (f:=λd=>d)]
 .z_go;rw[rh,ce];have e:(rows.filter<|(λd=>match d with|.list (.str n::_)=>decide (n=nm)|_=>false) ∘ cM)=[r]:=by rw[<-JQ nd hr,C];rfl
  rw[e];rfl
 .intro d G;let(s,D,rfl):=bg.mp G;refine([#[(.fr,cM s)],#[(.fr,.str nm)]],by z_go,?_,λ_=>by z_go);rfl
def aec {s0 s1 nm:Str}(nd:(rows.map (·.1)).Nodup)(H:rowAt rows j∈rows)(U:(!rows)<1000)(O:∀r∈rows,(cM r).canLay0=true)(I:(rowAt rows j).1=nm)(A:(rowAt rows j).2.1=room)
  (C:∀i∈acc,(rowAt rows i).1≠nm)(Y:(!acc)<=1000):uH (SW rows nms s0 s1 acc room (#[.str nm]) x7)=.nxt (SW rows nms s0 s1 (acc++[j]) (rowAt rows j).2.2.1 (#[.str nm])<|#[.list [cM<|rowAt rows j]]):=by
 have E:=O _ H;delta uH;rw[yd,yh,(ag3 (nms:=nms) (s0:=s0) (s1:=s1) (acc:=acc) (room:=room) (x7:=x7) nd H U O I)];delta SW;z_go;have L:kE (.list [cM<|rowAt rows j]) (.list [])=#[.bool false]:=eq_nil [rowAt rows j];rw[L];z_go;have M:inE (cM<|rowAt rows j) (.list<|acc.map λj=>cM<|rowAt rows j)=#[.bool false]:=by
  have D:((acc.map λj=>cM<|rowAt rows j).all λd=>not (PyData.eqv d (cM<|rowAt rows j)))=true:=cp.mpr λd Q=>by let(i,T,rfl):=bg.mp Q;rw[Y6 λz=>C i T<|by rw[z,I]];rfl
  exact ap ⟨abx _,D⟩
 rw[M];generalize G:rowAt rows j=r at*
 have J:(PyData.str r.2.1).canLay0=true:=by erw[cM,canLay0,canLayAll0,bj] at E ⊢;exact E.2.1
 have N:lH (.str r.2.1) (.str room)=#[.bool false]:=by rw[<-A];exact zM (by simp[PyData.depth]) J
 rw[show cM r=.list [.str r.1,.str r.2.1,.str r.2.2.1,.int r.2.2.2.1,.int r.2.2.2.2] from rfl];z_go;rw[N];z_go;rw[ap (by rw[ac];calc bw ∅)];z_go;rw[b7,aT,fx,G];rfl
def aed (F:cH seen I rows B)(p:(!rows)<1000)(o:∀r∈rows,(cM r).canLay0=true):∀(w acc:¬Nat) (v:Nat) (room:Str) (J x7:↑()),LH.goes (bD I) v w=#[g]->seen[v]? =#[room]->(acc++w).Nodup->(∀j∈acc++w,j<!I)->
  ∃A D Y,eE (gN 6) uH ((bN I w).map .str) (SW rows nms s0 s1 acc room J x7)=.nxt (SW rows nms s0 s1 (acc++w) A D Y)/\seen[g]? =#[A]:=by
 intro w;induction w with
 |nil=>
  intro acc v room J x7 U O _ _;cases U;calc(room,J,x7,by rw[fS];rfl,O)
 |cons j w u=>
  intro acc v room J x7 U O nd N;let(x,E):=F.at (N j<|bd.mpr<|.inr<|ae ..);rw[LH.goes,E.p] at U;dsimp only at U;split at U
  .rename_i q;let(f,l,Q):=E.a;let(s,m,d):=E.b;have C:(rowAt rows j).2.1=room:=by rw[<-l,q,O] at Q;exact(bv Q).symm
   have G:∀i∈acc,(rowAt rows i).1≠(rowAt rows j).1:=λi H z=>by
    let(y,n):=F.at (N i<|bd.mpr<|.inl H);have M:i≠j:=λz=>(dQ.mp nd).2.2 i H j (ae ..) z;have b:(rows.map (·.1))[i]? =#[(rowAt rows i).1]:=by rw[ay,n.r];rfl
    have c:(rows.map (·.1))[j]? =#[(rowAt rows i).1]:=by rw[ay,E.r,z];rfl
    let(b1,T):=ah.mp b;let(b2,k):=ah.mp c;exact M<|(kR F.nn).mp<|T.trans k.symm
   have L:(!acc)<=1000:=by
    have h1:(!(acc++j::w))<=!I:=by have:=Sp.iD nd N;exact this
    rw[aE] at h1;have:=F.len;lk
   let(A,D,Y,h1,h2):=u (acc++[j]) (oM x).b (rowAt rows j).2.2.1 (#[.str (rowAt rows j).1]) (#[.list [cM<|rowAt rows j]]) U (by rwa [m]) (by rwa [cE]) (by rwa [cE]);refine(A,D,Y,?_,h2);rw[cE] at h1;delta bN at h1 ⊢;rw[aT,aT,eE];have t:gN 6 (.str<|(gj I).getD j "") (SW rows nms s0 s1 acc room J x7)=#[SW rows nms s0 s1 acc room (#[.str (rowAt rows j).1]) x7]:=by rw[E.n];delta SW;z_go
   rw[t];k_ne;rwa [(aec (nms:=nms) (s0:=s0) (s1:=s1) (x7:=x7) F.nn E.m p o rfl C G L)]
  .cases U
def afv (F:cH seen C rows B)(N:(!rows)<1000)(O:∀r∈rows,(cM r).canLay0=true){rest:¬Str}(E:seen=s0::s1::rest)(D:(PyData.str s1).canLay0=true)(Wk:LH.vP (bD C) 0 1 x):
  Jw [QD rows,gH<|bN C x.1,.str s0,.str s1]=#[(true,.list<|x.1.map λj=>cM<|rowAt rows j)]:=by
 have I:(!(bD C))=!C:=by delta bD;rw[ac]
 let(A,G,H,e,h):=aed F N O x.1 [] 0 s0 none none Wk.go (by rw[E];rfl) Wk.nd (λj Y=>by have:=Wk.ix j Y;lk);have hr:A=s1:=by rw[E] at h;exact(bv h).symm
 subst hr;delta Jw QD gH at*
 delta Jv;z_go;delta SW at e;erw[gn,fx,gm] at e;rw[e];z_go;rw[(zM (by simp[PyData.depth]) D)];z_go
end
def aee (seen:¬Str)(A:¬Int):():=.list<|(seen.zip A).map mW
def ag4 (x:Int):Cg [.int x]=#[(false,.bool true)]:=by rfl
def Ob {rest:¬Str}(m:(!A)=!(s0::s1::rest))(y:(!(s0::s1::rest))<1000)(l:∀x∈s0::s1::rest,(PyData.str x).canLay0=true)(k:∀L∈A,0<=L/\L<=T+1)(U:PM.lf A 0=0)(h1:PM.lf A 1=T+1):
  yH [aee (s0::s1::rest) A,gH (s0::s1::rest),.int T]=#[(false,.bool true)]:=by
 obtain⟨r,E,C,rfl⟩:∃r E C,A=r::E::C:=by
  match A,m with
  |r::E::C,_=>exact⟨r,E,C,rfl⟩
 have M:r=0:=U;have N:E=T+1:=h1;have H:=zM (qe (s0::s1::rest))<|adC l;unfold yH aee gH at*
 unfold yG;generalize hS:s0::s1::rest=seen at*
 generalize Y:r::E::C=B at*
 z_go;rw[rT rfl (by rw[ac,jS];calc bw ∅)];rw[j4]
 .z_go;have O:((seen.zip B).map mW).map (λd=>match d with|.tuple (x::_)=>x|d=>d)=seen.map .str:=by
   rw[ce]
   have:(seen.zip B).map ((λd=>match d with|.tuple (x::_)=>x|d=>d) ∘ mW)=((seen.zip B).map (·.1)).map .str:=by rw[ce];rfl
   rw[this,ku ∅]
  rw[O,H];z_go;let(q,Q,J,D):=Wf (t:=gN 3) (g:=Y4) (λ_ S=>∃J,S=[#[(Tg.fr,.list<|(seen.zip B).map mW)],#[(Tg.fr,.list<|seen.map .str)],#[(Tg.fr,.int T)],ob J]) ((seen.zip B).map mW) 0 [#[(Tg.fr,.list<|(seen.zip B).map mW)],#[(Tg.fr,.list<|seen.map .str)],#[(Tg.fr,.int T)],none] ⟨none,rfl⟩ λj d S G hS=>by
    let(J,rfl):=hS;let(p,o,rfl):=bg.mp<|ag G;have I:=(g9 o).2;let(u,b1):=k _ I;refine⟨[#[(Tg.fr,.list<|(seen.zip B).map mW)],#[(Tg.fr,.list<|seen.map .str)],#[(Tg.fr,.int T)],ob<|#[mW p]],by z_go,[#[(Tg.fr,.list<|(seen.zip B).map mW)],#[(Tg.fr,.list<|seen.map .str)],#[(Tg.fr,.int T)],ob<|#[mW p]],?_,⟨_,rfl⟩⟩;unfold Y4 mW;z_go;have v:decide (((2:Nat):Int)=2)=true:=by decide
    kt_k;rw[ag4];kt_k
  rw[Q];subst D;rw[<-hS,←Y];z_go;rw[kN,kN];z_go;unfold mW;z_go;rw[M];z_go;erw[gS];z_go;rw[N];kt_k
 .intro d G;let(p,_,rfl):=bg.mp G;refine⟨_,rfl,rfl,rfl⟩
open PyProof.Rows
def gR (seen:¬Str)(A:¬Int)(x:Str):Int:=(dj x<|seen.zip A).getD 0
theorem oZ:∀{seen:¬Str}{A:¬Int} {i:Nat} {x:Str} {B:Int},seen.Nodup->seen[i]? =#[x]->A[i]? =#[B]->dj x (seen.zip A)=#[B]
 |s::seen,m::A,0,x,B,_,h1,h2=>by cases h1;cases h2;rw[kN,dj,ap rfl]
 |s::seen,m::A,i+1,x,B,nd,h1,h2=>by
  rw[cS] at nd;rw[kN,dj,aw λz=>nd.1 (by
   have C:s=x:=z;rw[C];calc ag (show seen[i]? =#[x] from h1))]
  calc oZ nd.2 (show seen[i]? =#[x] from h1) (show A[i]? =#[B] from h2)
 |[],_,i,x,B,_,h1,_=>by simp at h1
 |_::_,[],i,x,B,_,_,h2=>by simp at h2
def lC (seen:¬Str)(A:¬Int)(r:Row):Int:=r.2.2.2.1*(if gR seen A r.2.2.1 - gR seen A r.2.1 - r.2.2.2.2>0 then gR seen A r.2.2.1 - gR seen A r.2.1 - r.2.2.2.2 else 0)
section
variable {K:Frag}
def dz (e:B[i]? =#[#[.ref t]])(h:aU K H t xs)(a:cP xs j=#[v])(q:Q v H):jm (Hu K) (vR i) (tC<|.int j) B H Q:=ak e (xs,v,h,a,q)
inductive aef (K:Frag)(vs:¬V)(H:Hp)(Q:VK):Prop
 |mk:∀vd vm rows seen,∀bU:¬Int,vs=[vd,vm]->Has K H (QD rows) vd->Has K H (aee seen bU) vm->seen.Nodup->(!bU)=!seen->(!seen)<1000->((∀r∈rows,r.2.1∈seen/\r.2.2.1∈seen/\r.2.2.2.1.natAbs<2^8000/\(gR seen bU r.2.2.1 - gR seen bU r.2.1 - r.2.2.2.2).natAbs<2^8000))->(∀H',Same H H'->Q (.int (rows.map<|lC seen bU).sum) H')->aef K vs H Q
end
section
variable {K:Frag}{seen:¬Str}{us A B:¬Addr}
end
section
variable {x0 x1 x2 T G B C:↑(Tg×())}
end
def ajm {seen:¬Str}{ws:¬(¬Nat×Int)}(N:(!B)<=12)(O:LH.fV (!seen) (bD B) 0 1 T W ws G):(∀x∈ws,(∀j∈x.1,j<!B)/\(!x.1)<1000)/\(!ws)<1000:=by
 let(E,I,H,D,_,A):=O.flow;have J:(!(bD B))=!B:=by delta bD;rw[ac]
 refine⟨λx C=>⟨λj Y=>by have:=(A.walk x C).ix j Y;lk,by have:=Sp.iD (A.walk x C).nd (A.walk x C).ix;lk⟩,?_⟩;have:=A.few;have:=LH.vO E;have:=D.len;lk
section
variable {seen A:¬Str}{ws C:¬(¬Nat×Int)}
def uK (B:Str->Int)(r:Row):Int:=r.2.2.2.1*(if 0<B r.2.2.1 - B r.2.1 - r.2.2.2.2 then B r.2.2.1 - B r.2.1 - r.2.2.2.2 else 0)
def cH.T8 (F:cH seen H rows B)(nd:seen.Nodup)(M:(!D)=!seen):((bD H).map<|LH.over<|PM.lf D).sum=(rows.map<|lC seen D).sum:=by
 congr 1;refine px λj=>?_;by_cases Y:j<!H
 .let(x,E):=F.at Y;rw[ay,ay,E.p,E.r];show #[_]=#[_];congr 1;let(f,I,J):=E.a;let(s,L,O):=E.b;have G:∀{i:Nat}{z:Str},seen[i]? =#[z]->gR seen D z=PM.lf D i:=λ{i z} h=>by
   have N:i<!D:=by have:=(ah.mp h).1;lk
   delta gR PM.lf;rw[oZ nd h<|ai N,br,ai N]
  delta LH.over lC;rw[E.w,E.e,I,L,G J,G O];by_cases c:(rowAt rows j).2.2.2.2<PM.lf D s - PM.lf D f
  .rw[ap c,ap ∅]
  .rw[aw c,aw ∅,nt]
 .have h1:(!(bD H))<=j:=by delta bD;rw[ac];lk
  have h2:(!rows)<=j:=by have:=F.len;lk
  rw[ay,ay,bm h1,bm h2];rfl
theorem cH.over (F:cH seen J rows B)(D:Str->Int):((bD J).map<|LH.over λi=>D<|seen.getD i "").sum=(rows.map<|uK D).sum:=by
 congr 1;refine px λj=>?_;by_cases Y:j<!J
 .let(x,E):=F.at Y;rw[ay,ay,E.p,E.r];show #[_]=#[_];congr 1;let(f,L,M):=E.a;let(s,N,O):=E.b;have G:∀{i:Nat}{z:Str},seen[i]? =#[z]->seen.getD i ""=z:=λh=>by rw[br,h];rfl
  have I:∀H:Nat->Int,H f=D (rowAt rows j).2.1->H s=D (rowAt rows j).2.2.1->LH.over H (oM x)=uK D (rowAt rows j):=λH Q T=>by
   delta LH.over uK;rw[E.w,E.e,L,N,Q,T];by_cases c:(rowAt rows j).2.2.2.2<D (rowAt rows j).2.2.1 - D (rowAt rows j).2.1
   .rw[ap c,ap ∅]
   .rw[aw c,aw ∅,nt]
  exact I _ (cw D<|G M)<|cw D<|G O
 .have h1:(!(bD J))<=j:=by delta bD;rw[ac];lk
  have h2:(!rows)<=j:=by have:=F.len;lk
  rw[ay,ay,bm h1,bm h2];rfl
theorem cH.weak {rest:¬Str}(F:cH (s0::s1::rest) x rows B)(O:LH.fV (!(s0::s1::rest)) (bD x) 0 1 T W ws E)(L:D s0=0)(h1:D s1=T+1):W<=(rows.map<|uK D).sum:=by rw[<-F.over D];calc O.weak F.hall 's' 's' L h1
def cH.top {rest:¬Str}(F:cH (s0::s1::rest) x rows B)(nd:(s0::s1::rest).Nodup)(O:LH.fV (!(s0::s1::rest)) (bD x) 0 1 T W ws D):∃E:Str->Int,E s0=0/\E s1=T+1/\W=(rows.map<|uK E).sum:=by
 have H:=O.ml;have G:∀{i:Nat}{z:Str},(s0::s1::rest)[i]? =#[z]->gR (s0::s1::rest) D z=PM.lf D i:=λ{i z} h=>by
  have N:i<!D:=by have:=(ah.mp h).1;lk
  delta gR PM.lf;rw[oZ nd h<|ai N,br,ai N]
 refine(gR (s0::s1::rest) D,(G rfl).trans O.m0,(G rfl).trans O.m1,?_);rw[O.T8,F.T8 nd H];rfl
def aeg (h:1<=r.2.2.2.1):0<=uK B r:=by
 delta uK;split
 .exact fk ∅ ∅
 .simp
def cH.le {rest D:¬Str}(F:cH (s0::s1::rest) x rows B)(J:cH (s0::s1::D) H E U)(nd:(s0::s1::D).Nodup)(O:LH.fV (!(s0::s1::rest)) (bD x) 0 1 T W ws Q)(L:LH.fV (!(s0::s1::D)) (bD H) 0 1 T M C I)(h:∀G:Str->Int,(rows.map<|uK G).sum<=(E.map<|uK G).sum):W<=M:=by let(G,N,h1,e):=J.top nd L;rw[e];calc eB (F.weak O N h1)<|h G
def sum_filter {f:Row->Int}:∀{rows:¬Row},(∀r∈rows,0<=f r)->((rows.filter p).map f).sum<=(rows.map f).sum:=by
 intro rows;induction rows with
 |nil=>simp
 |cons r rows B=>grind
end
end bV
namespace L2
open PyProof.Rows PySem.SeqAt
section
variable {Bf pO:Pos}
inductive als (K:Frag)(x:V)(vs:¬V)(H:Hp)(Q:VK):Prop
 |mk:∀(l:Addr) (y:V) (as:¬Addr) (ds:¬()) (dy:()) (j:Nat),x=.ref l->vs=[y]->H l=#[.lst<|as.map V.ref]->as.Nodup->aK K H ds (as.map V.ref)->Has K H dy y->dy.depth<=60->j<!as->((∀(m:Nat) d,ds[m]? =#[d]->eqv d dy=decide (m=j)))->Q (.int (j:Int)) H->als K x vs H Q
end
end L2
namespace bV
open PyProof.Rows L2 VM
def RB (B:Int)(r:Row):Prop:=r.2.1≠r.2.2.1/\r.2.2.2.1<=B/\1<=r.2.2.2.2
section
variable {rows:¬Row}{ws C:¬(¬Nat×Int)}
def CT (N:Ok A names rows nums x)(h:∀r∈rows,RB B r):cH (seenOf nums) x rows B:=⟨N.lr,N.dr.nn,λr hr=>(h r hr).1,λr hr=>⟨N.dr.wd r hr,(h r hr).2.1⟩,λr hr=>(h r hr).2.2⟩
def cH.eq {rest D:¬Str}(F:cH (s0::s1::rest) x rows B)(G:cH (s0::s1::D) A rows U)(nd:(s0::s1::rest).Nodup)(E:(s0::s1::D).Nodup)(O:LH.fV (!(s0::s1::rest)) (bD x) 0 1 T W ws L)(H:LH.fV (!(s0::s1::D)) (bD A) 0 1 T J C I):W=J:=
 lw (F.le G E O H λ_=>bE _) (G.le F nd H O λ_=>bE _)
def Ue (nm:Str)(k:Int)(rows:¬Row):(rows.map<|eY nm k).map (eY nm<|-k)=rows:=by
 rw[ce];refine(cx λr _=>?_).trans<|map_id _;show eY nm (-k) (eY nm k r)=r;delta eY;by_cases e:r.1=nm
 .rw[ap e,ap e];rw[show r.2.2.2.1+k+ -k=r.2.2.2.1 by lk]
 .rw[aw e,aw e]
end
section
variable {rows:¬Row}{ws A:¬(¬Nat×Int)}{nm s0 s1:Str}{rest:¬Str}
def qy (nm:Str)(rows:¬Row):¬Row:=rows.filter λs=>not (decide (s.1=nm))
def W9 (h:Ok B names rows nums C):Ok B names (qy nm rows) nums (rY nm C):=by
 refine((h.dr.r2,h.dr.r5,h.dr.rn,cb (gd ..) h.dr.n8,?_,?_,?_),h.num,h.nd,h.sub,?_)
 .exact(qA _ oB).nodup h.dr.nn
 .exact λr hr=>h.dr.sub r (di.mp hr).1
 .exact λr hr=>h.dr.wd r (di.mp hr).1
 .calc Al h.lr λx y z=>by rw[z.1]
def ajn (h:∀r∈rows,RB B r):∀r∈qy nm rows,RB B r:=λr hr=>h r (di.mp hr).1
def Ok.two (h:Ok B names rows nums x)(D:seenOf nums=s0::s1::rest):2<=!nums:=by have:=cw List.length D;unfold seenOf at this;grind
def Ug (N:Ok C names rows nums x)(J:seenOf nums=s0::s1::rest)(G:∀r∈rows,RB B r)(O:LH.fV (!(seenOf nums)) (bD x) 0 1 T W ws L)(E:LH.fV (!(seenOf nums)) (bD<|rY nm x) 0 1 T H A I):H<=W:=by have F:=CT N G;have D:=CT (W9 (nm:=nm) N)<|ajn G;have nd:=N.nd;rw[J] at F D O E nd;calc D.le F nd E O λM=>sum_filter λr hr=>aeg<|N.dr.wd r hr
def aeh (Q:Ok C names rows nums x)(j:seenOf nums=s0::s1::rest)(J:Ok C names rows D H)(G:seenOf D=s0::s1::I)(N:∀r∈rows,RB B r)(O:LH.fV (!(seenOf nums)) (bD x) 0 1 T W ws k)(M:LH.fV (!(seenOf D)) (bD H) 0 1 T Y A U):W=Y:=by have F:=CT Q N;have L:=CT J N;have nd:=Q.nd;have E:=J.nd;rw[j] at F O nd;rw[G] at L M E;calc F.eq L nd E O M
end
section
end
section
variable {K:Frag}
def ag5 (O:∀R:¬V->Hp->Prop,(∀E,Same H E->R [.str a,.str b] E)->t m H R)(k:iH a)(g:iH b)(r:a≠b)
  (q:∀x A J G E,aW E C x A J G [(a,0),(b,1)] []->Same H E->H J=none->H G=none->Q (.ref x) E):Pa C (Sx C) t m H Q:=by
 refine O _ λN l x A p T Y=>?_;have B:∀c o,H c=#[o]->c≠x/\c≠A/\N c=#[o]:=λc o e=>by have e:=l c o e;lk
 refine⟨x,A,a,b,rfl,ao,k,g,r,λE J G D U M L=>⟨rfl,q x A J G E D (λc o e=>?_) ?_ ?_⟩⟩
 .let(I,j,e):=B c o e;exact U c o I (by rw[au I,au j];calc e)
 .cases e:H J with
  |none=>rfl
  |some o=>let(I,j,e):=B _ _ e;rw[au I,au j,e] at M;lk
 .cases e:H G with
  |none=>rfl
  |some o=>let(I,j,e):=B _ _ e;rw[au I,au j,e] at L;lk
def aei {xs:¬Str}(nd:xs.Nodup)(h:xs[i]? =#[a]):Not (a∈xs.take i):=λz=>by let(N,e):=ah.mp h;have E:=nd;rw[<-iX i xs] at E;calc(dQ.mp E).2.2 a z a (by rw[eK N,e];calc ae ..) rfl
end
def Ok.Uh (N:Ok A names rows nums C)(hr:r∈rows):r.2.1∈A/\r.2.2.1∈A:=by let(x,_,_,(i,_,B),(j,_,G),_):=xH N.lr hr;calc⟨N.sub _<|ag B,N.sub _<|ag G⟩
def RX (B:Int)(r:Row):Prop:=r.2.1≠r.2.2.1/\r.2.2.2.1<=B/\1<=r.2.2.2.2/\r.2.2.2.2<=bf
def wB (i:Nat):Int:=(i:Int)*bf
def Ln (i:Nat):wB (i+1)=wB i+bf:=by delta wB;rw[iN,iq];show _+1*bf=_;rw[Int.one_mul]
def ag6 (G:qg bf B names rows d)(C:∀r∈rows,RX (wB i) r):∀r∈oJ d rows,RX (wB<|i+1) r:=by
 have L:0<=bf:=by decide
 have I:0<=wB i:=fk ∅ L;have D:∀{r:Row}{nm:Str} {k:Int},r∈rows->k<=bf->RX (wB<|i+1) (eY nm k r):=λ{r nm k} hr M=>by
  let(a,b,c,d):=C r hr;rw[Ln];delta eY;split
  .exact(a,by show r.2.2.2.1+k<=_;lk,c,d)
  .exact(a,by lk,c,d)
 have st:∀r∈rows,RX (wB<|i+1) r:=λr hr=>by let(a,b,c,d):=C r hr;rw[Ln];exact(a,by lk,c,d)
 cases d with
 |lay nm a b w l=>
  let(_,_,_,_,E,_,N,O,Q):=G;intro r hr;have A:=hr;rcases bd.mp A with g|g
  .exact st r g
  .rw[aI.mp g,Ln];calc(E,by show w<=_;lk,N,Q.1)
 |shut nm=>intro r hr;calc st r (di.mp hr).1
 |widen nm k=>let(_,_,J):=G;intro r hr;let(H,A,rfl):=bg.mp hr;calc D A J
 |narrow nm k=>let(_,_,_,J,_):=G;intro r hr;let(H,A,rfl):=bg.mp hr;calc D A ∅
def aby (d:bR)(D L:Str)(B:¬Str):∃Q,DY d (D::L::B)=D::L::Q:=by
 have C:∀m r,∃Q,(if((D::L::m).any λy=>y==r)=true then D::L::m else(D::L::m)++[r])=D::L::Q:=λm r=>by
  split
  .exact⟨m,rfl⟩
  .exact⟨m++[r],rfl⟩
 cases d with
 |lay nm a b w l=>show ∃Q,j7 (D::L::B) [a,b]=D::L::Q;delta j7;rw[eQ,eQ,foldl_nil];let(E,A):=C B a;rw[A];calc C E b
 |shut nm=>calc⟨B,rfl⟩
 |widen nm k=>calc⟨B,rfl⟩
 |narrow nm k=>calc⟨B,rfl⟩
section
variable {K:Frag}
def SL (K:Frag)(A:¬Addr)(H:Hp)(t:Addr)(xs:¬V):Prop:=(∃o,H t=#[o]/\(∀k,o≠ .dK k)/\Not (t∈A)/\∀E:Hp,E t=#[o]->aU K E t xs)\/∀E,aU K E t xs
def SL.mk0 (h:aU K H t xs):SL K [] H t xs:=by
 rcases h with(h|⟨o,h⟩)|h
 .exact .inl (_,h,λ_ z=>(by cases z),λz=>(by cases z),λ_ e=>.inl<|.inl e)
 .exact .inl (_,h,λ_ z=>(by cases z),λz=>(by cases z),λ_ e=>.inl<|.inr ⟨o,e⟩)
 .calc .inr λ_=>.inr h
def SL.sq (h:SL K A H t xs):aU K H t xs:=by
 rcases h with⟨o,e,_,_,f⟩|h
 .exact f _ e
 .calc h _
def SL.new (h:SL K A H t xs)(n:H b=none):SL K (b::A) H t xs:=by
 rcases h with⟨o,e,d,m,f⟩|h
 .refine .inl (o,e,d,λz=>?_,f);grind
 .calc .inr h
def SL.grow (h:SL K A H t xs)(s:Same H E):SL K A E t xs:=by
 rcases h with⟨o,e,d,m,f⟩|h
 .exact .inl (o,s _ _ e,d,m,f)
 .calc .inr h
def SL.frame (h:SL K A H t xs)(U:∀b o,Not (b∈A)->H b=#[o]->E b=#[o])(C:∀x∈B,x∈A\/H x=none):SL K B E t xs:=by
 rcases h with⟨o,e,d,m,f⟩|h
 .refine .inl (o,U _ _ m e,d,λz=>?_,f);grind
 .calc .inr h
def Ui (e:B[i]? =#[#[.ref t]])(h:aU K H t xs)(Y:∀R:VK,R (.int j) H->A B H R)(a:cP xs j=#[v])(q:Q v H):jm (Hu K) (vR i) A B H Q:=
 ak e (Y _ (xs,v,h,a,q))
end
section
variable {K:Frag}
def qG (n L)(h:qF K H B L)(e:f (cu n L)=#[.int z0])(q:∀E,Same H E->Q (.int z0) E)(C:((!B)=n)∣0):tV K RS f B H Q:=VM.Jx (h.at C) e λv E s M=>(M)▸q E s
def tvS (n L)(h:qF K H B L)(e:f (cu n L)=#[.str z])(q:∀E,Same H E->Q (.str z) E)(C:((!B)=n)∣0):tV K RS f B H Q:=VM.Jx (h.at C) e λv E s M=>(M.1)▸q E s
def tvB (n L)(h:qF K H B L)(e:f (cu n L)=#[.bool b])(q:∀E,Same H E->Q (.bl b) E)(C:((!B)=n)∣0):tV K RS f B H Q:=VM.Jx (h.at C) e λv E s M=>(M)▸q E s
def tvN {ys:¬Str}(n L)(h:qF K H B L)(e:f (cu n L)=#[.list<|ys.map .str])(q:∀a E,Same H E->H a=none->E a=#[.lst<|ys.map V.str]->Q (.ref a) E)(C:((!B)=n)∣0):tV K RN f B H Q:=VM.SJ (h.at C) e λa D E s h1 h2 J=>by cases yp J;calc q a E s h1 h2
def tvP (n L)(h:qF K H B L)(e:f (cu n L)=#[.tuple [.str a,.str b,.str c]])(q:∀E,Same H E->D.nx (((B.set i<|#[.str a]).set j<|#[.str b]).set k<|#[.str c]) E)(C:((!B)=n)∣0)(A:(3=m)∣0):jq (tV K RS f) (za K m<|gV (cg i)<|gV (cg j)<|gV (cg k) uz) D B H:=VM.Jx (h.at C) e λv E s M=>by let(w,I,rfl,G,_,_,rfl,(rfl,_),_,_,rfl,(rfl,_),_,_,rfl,(rfl,_),N):=M;cases(N);calc(_,G,A,q E s)
def Xa (n L)(h:qF K H B L)(e:f (cu n L)=#[true])(q:∀E,Same H E->t D B E)(C:((!B)=n)∣0):d8 (gQ K f) t u D B H:=VM.Ci (h.at C) e q
def Ao (n L)(h:qF K H B L)(e:f (cu n L)=#[false])(q:∀E,Same H E->u D B E)(C:((!B)=n)∣0):d8 (gQ K f) t u D B H:=VM.Ci (h.at C) e q
end
def bh (h:∀N:L2.St->Hp->Prop,(∀B H,u D B H->N B H)->t {D with nx:=N} B H):iW t u D B H:=h _ λ_ _ x=>x
def uX (f:∀E,Same H E->u D B E)(h:∀N:L2.St->Hp->Prop,(∀E,Same H E->N B E)->t {D with nx:=N} B H):iW t u D B H:=h _ f
def jU (e:B[i]? =#[#[.ref a]])(hi:H a=#[.ins C E as])(A:as.lookup m=none)(q:t B H λvs J=>D (.ref a::vs) J Q):iy C m D (vR i) t B H Q:=ak e (a,E,as,rfl,hi,A,q)
def forA {K:Frag}{ws:¬U}(F:U->V)(st:Nat->Y->L2.St)(A:Nat->Hp->Prop)(y:Y)(C:j=st 0 y)(L:A 0 H)(N:∀i H,A i H->aU K H a (ws.map F))
  (O:∀i x y H,ws[i]? =#[x]->A i H->g (F x) (st i y) H λG J=>T {D with nx:=λB E=>(∃y,B=st (i+1) y)/\A (i+1) E} G J)(I:∀y H,A (!ws) H->D.nx (st (!ws) y) H):ux (G6 K a) g T D j H:=by
 refine forL (λi B E=>(∃y,B=st i y)/\A i E) ⟨⟨y,C⟩,L⟩ (λi B E _ h=>N i E h.2) ?_ ?_
 .rintro i v B E M ⟨⟨y,rfl⟩,h⟩;rw[ay] at M;let(x,Q,rfl):=c6.mp M;exact O i x y E Q h
 .rintro B E ⟨⟨y,rfl⟩,h⟩;rw[ac] at h ⊢;calc I y E h
def Uj {K:Frag}(h:te B H λv E=>∃a,v=.ref a/\(∃xs,aU K E a xs)/\ux (G6 K a) g A D B E):FP (uw K te) g A D B H:=by rwa [qM]
def forM {K:Frag}{ws:¬T}(F:T->V)(st:Nat->U->L2.St)(A:Nat->Hp->Prop)(y:U)(e:E[k]? =#[#[.ref a]])(C:E=st 0 y)(L:A 0 H)(N:∀i H,A i H->aU K H a (ws.map F))
  (O:∀i x y H,ws[i]? =#[x]->A i H->g (F x) (st i y) H λG J=>Q {D with nx:=λB I=>(∃y,B=st (i+1) y)/\A (i+1) I} G J)(M:∀y H,A (!ws) H->D.nx (st (!ws) y) H):FP (uw K<|vR k) g Q D E H:=Uj<|ak e (a,rfl,⟨_,N 0 H L⟩,forA F st A y C L N O M)
def hide {g:Prop}(h:∀G:Prop,(g->G)->G):g:=h g λx=>x
def ifK (t u:TS)(D:Ends)(B:L2.St):VK:=λx H=>match x with
 |.bl k=>if k=true then t D B H else u D B H
 |_=>False
def aej (h:t D B H):ifK t u D B (.bl true) H:=h
def rG (h:u D B H):ifK t u D B (.bl false) H:=h
def yL (h:te B H (ifK t u D B)):d8 (mG te) t u D B H:=h
def orK (b:TT)(t u:TS)(D:Ends)(B:L2.St):VK:=λx H=>match x with
 |.bl k=>if k=true then t D B H else d8 b t u D B H
 |_=>False
def orO (h:te B H (orK tc t u D B)):d8 (Mi (mG te) tc) t u D B H:=h
def orF (h:d8 tc t u D B H):orK tc t u D B (.bl false) H:=h
def JR (h:te B H λ_ E=>D.nx B E):iw te D B H:=h
def fG (h:te B H λx E=>g x B E D.nx):jq te g D B H:=h
def callC (h:te B H λv E=>C B E λvs J=>A (v::vs) J Q):jy A (cL te C) B H Q:=h
def cC (h:te B H λx E=>D B E λy J=>r x y J Q):jm r te D B H Q:=h
def aM (h:te B H λv E=>A B E λvs J=>Q (v::vs) J):cL te A B H Q:=h
def cO (h:Q v H):tC v B H Q:=h
def ji (h:te B H D.rt):uc te D B H:=h
def cbO (h:A B H λvs E=>r vs E Q):um r A B H Q:=h
def ajq (h:t {D with nx:=u D} B H):iW t u D B H:=h
end bV
namespace VM
open PyProof.Rows L2 PySem.Builtin PySem.Builtin.Str
section
variable {R:Rel}
def MtD (K:Frag)(D:()->()->↑())(r:V->¬V->Hp->VK->Prop)(R:Rel):Prop:=∀A M F H z y d (Q:VK),D (.str z) y=#[d]->bA A M F H->∀u,Has K H y u->
 (∀v B E,bA A M B E->R K A M B E d v->Q v E)->r (.str z) [u] H Q
def vU (D:()->()->↑()):()->()->↑()
 |.str z,y=>D (.str z) y
 |_,_=>none
def Fo {id:String}(slot:Slot "str" m id)(O:typeOf (.builtin id)=pure (.type "method_descriptor"))(n:uo X id r)(b:MtD X.K D r R)(s:PE X o (tV X.K RW f))(c:PE X e (tV X.K RW g))
  (B:(attributeBase o m X.env (eval o X.env)=eval o X.env)∣0)
  (L:(((backTo A<|starEach [e] X.env).all (λx=>not x.1) && (backToKw A<|keywordEach [] X.env).all (λx=>x.1.isSome) && decide ([e].length+(!([]:¬Keyword))+(if([]:¬Keyword).isEmpty then 0 else 1)<30))=true)∣0)
  (E:((J.endLine==A.line)=true)∣0)(U:(starEach [e] X.env=(false,eval e X.env)::starEach [] X.env)∣0)(C:((backTo A<|starEach [] X.env).any (·.1)=false)∣0):
  PE X (.Call (.Attribute o m J) [e] [] A) (tV X.K R<|v2 (vU D) f g):=(oF cf slot O n s (aj c aG U) B L E U C).imp λ_ H Q q=>by
 let(N,G,M,S,F,I,d,e,q):=q;let(x,y,l,p,e):=qO e;cases x with
 |str z=>
  refine⟨N,G,M,S,F,I,_,l,λv Y i T w=>?_⟩;let(rfl,_):=w;calc⟨rfl,N,G,M,S,Y,I.grow T,_,p,λu j k t a=>b F H j k z y d Q e (T.trans t) u a q⟩
 |_=>cases e
end
section
variable {K:Frag}
theorem Oe:∀(l:¬(Str×Tok)),Vals ((l.map (·.1)).map V.str) (strValues l)
 |[]=>.nil
 |(x,t)::r=>.cons ⟨t,rfl⟩<|Oe r
theorem Lp:∀{ys:¬Str}{us:¬Value},Vals (ys.map V.str) us->∃l:¬(Str×Tok),l.map (·.1)=ys/\us=strValues l
 |[],_,.nil=>([],rfl,rfl)
 |y::ys,_,.cons ⟨t,e⟩ r=>by let(l,h1,h2):=Lp r;calc((y,t)::l,by rw[aT,h1],by rw[e,h2];rfl)
def fu {ys:¬Str}(h:∀w∈ys,(PyData.str w).canLay0=true):aK K H (ys.map PyData.str) (ys.map V.str):=aK.map λw C=>⟨rfl,h w C⟩
theorem wQ:∀{ys:¬Str}{vs:¬V},aK K H (ys.map PyData.str) vs->vs=ys.map V.str
 |[],_,h=>h
 |_::_,_,(_,_,e,⟨B,_⟩,r)=>by rw[e,B,wQ r];rfl
def afB:V->¬V->Hp->VK->Prop:=λx D H Q=>∃z y,x=.str z/\D=[.str y]/\((!y)==0)=false/\(!z)<=sizeLine/\
 ∀t,H t=none->Q (.ref t) (upd H t<|.tup [.str (Txt.partition z y).1,.str (Txt.partition z y).2.1,.str (Txt.partition z y).2.2])
def K5:uo X "str.partition" afB:=by
 intro A s D H x J v E Q I L G h;let(z,y,rfl,rfl,n,C,q):=h;let(t,rfl):=L;let(_,rfl,u,rfl):=vals1 G;refine ik F.slot_str_partition (ii _ _ _) F.entry_str_partition (F.args_str_partition_2 _ _) (meets_str_partition z y t u n C) ?_;have B:∀a b c (k:Nat),Vals [.str (Txt.partition z y).1,.str (Txt.partition z y).2.1,.str (Txt.partition z y).2.2] [a,b,c]->EP X A D Q (.ref (~~~s)) {s with toks:=k,heap:=s.heap.push {cls:=.type "tuple",data:=.seq [a,b,c].toArray}}:=λa b c k e=>
  (.ref (~~~s),_,I.laid (λb o h=>ar _ h) (av _)
   (show fU X.prog X.w _ _ _ (.tup _) from(by show 3<=sizeLine;decide,_,e,(_,bc _ rfl,rfl,_,rfl))),rfl,q _ (I.hok.fresh (av _)))
 delta Txt.partition at B;revert B;cases occurrences z y 0 (!z) 1 with
 |nil=>calc λf=>f _ _ _ _<|.cons ⟨_,rfl⟩<|.cons ⟨_,rfl⟩<|.cons ⟨_,rfl⟩ .nil
 |cons i r=>calc λf=>f _ _ _ _<|.cons ⟨_,rfl⟩<|.cons ⟨_,rfl⟩<|.cons ⟨_,rfl⟩ .nil
def cA (z:Str):Bool:=(PyData.str z).canLay0
def JT:()->()->↑()
 |.str z,.str y=>if(not ((!y)==0) && decide ((!z)<=9000) && cA (Txt.partition z y).1 && cA (Txt.partition z y).2.1 && cA (Txt.partition z y).2.2)=true then #[.tuple [.str (Txt.partition z y).1,.str (Txt.partition z y).2.1,.str (Txt.partition z y).2.2]] else none
 |_,_=>none
def Y0:MtD K JT afB RS:=by
 intro A M F H z y d Q e g u n q;cases y with
 |str y=>
  let(rfl,_):=n;erw[JT] at e;by_cases c:(not ((!y)==0) && decide ((!z)<=9000) && cA (Txt.partition z y).1 && cA (Txt.partition z y).2.1 && cA (Txt.partition z y).2.2)=true
  .rw[ap c] at e;k_go;erw[bj,ca,lL] at c;refine(_,_,rfl,rfl,c.1.1.1.1,cb c.1.1.1.2<|by decide,λt U=>q _ _ _ (g.trans<|bA.Bg g.fh U) (t,_,rfl,cF.of ao,fu (ys:=[_,_,_]) ?_));intro w C;erw[bq,List.mem_nil_iff,gL] at C;rcases C with rfl|rfl|rfl
   .exact c.1.1.2
   .exact c.1.2
   .exact c.2
  .rw[aw c] at e;k_go
 |_=>cases e
end
section
variable {K:Frag}
def JV:V->¬V->Hp->VK->Prop:=λx D H Q=>∃z y,x=.str z/\D=[.str y]/\((!y)==0)=false/\(!z)<=sizeLine/\(!(Txt.split z y))<=sizeLine/\
 (partsBetween z (occurrences z y 0 (!z)<|(!z)+1) !y).length<=sizeLine/\∀l,H l=none->Q (.ref l) (upd H l<|.lst<|(Txt.split z y).map V.str)
def mO:uo X "str.split" JV:=by
 intro A s J H x O v N Q I L G h;let(z,y,rfl,rfl,D,E,M,n,q):=h;let(t,rfl):=L;let(_,rfl,u,rfl):=vals1 G;have B:∀l (k:Nat),l.map (·.1)=Txt.split z y->EP X A J Q (.ref (~~~s)) {s with toks:=k,heap:=s.heap.push {cls:=.type "list",data:=.seq (strValues l).toArray}}:=λl k e=>
  (.ref (~~~s),_,I.laid (λb o h=>ar _ h) (av _)
   (show fU X.prog X.w _ _ _ (.lst ((Txt.split z y).map V.str)) from(by rwa [ac],strValues l,0,by rw[<-e];calc Oe l,bc _ rfl)),rfl,q _ (I.hok.fresh (av _)))
 cases h1:(decide ((!z)<!y)||decide (strKind z<strKind y))
 .cases C:(occurrences z y 0 (!z)<|(!z)+1).isEmpty
  .refine ik mS (ii _ _ _) mm (ly _ _) (meets_str_split_sep z y t u h1 D C E n) ?_;rw[strsFrom_eq];exact B (numbered s.toks _) _<|(numbered_texts _ _).trans ((aw<|j3 h1).trans<|aw<|j3 C).symm
  .exact ik mS (ii _ _ _) mm (ly _ _) (meets_str_split_not_found z y t u h1 D C)
    (B [Prod.mk z t] s.toks ((aw<|j3 h1).trans<|ap C).symm)
 .exact ik mS (ii _ _ _) mm (ly _ _) (meets_str_split_cannot_occur z y t u h1)
   (B [Prod.mk z t] s.toks (ap h1).symm)
def yM (z y:Str):Bool:=not ((!y)==0) && decide ((!z)<=9000) && decide ((!(Txt.split z y))<=1000) && decide ((partsBetween z (occurrences z y 0 (!z)<|(!z)+1) !y).length<=1000) && (Txt.split z y).all cA
def tQ:()->()->↑()
 |.str z,.str y=>if yM z y=true then #[.list<|(Txt.split z y).map .str] else none
 |_,_=>none
def vq:MtD K tQ JV RN:=by
 intro A M F H z y d Q e g u n q;cases y with
 |str y=>
  let(rfl,_):=n;erw[tQ] at e;by_cases c:yM z y=true
  .rw[ap c] at e;k_go;delta yM at c;erw[bj,ca,lL] at c;have k:=show(9000)<=sizeLine by decide
   exact(_,_,rfl,rfl,c.1.1.1.1,by lk,by lk,by lk,λl N=>q _ _ _ (g.trans<|bA.alloc g.fh N) (_,l,_,rfl,rfl,g.hh.free N,g.fh.free N,ao,fu<|cp.mp c.2))
  .rw[aw c] at e;k_go
 |_=>cases e
def Xb:V->¬V->Hp->VK->Prop:=λx D H Q=>∃z y,x=.str z/\D=[.str y]/\Q (.bl<|Txt.startswith z y) H
def aaV:uo X "str.startswith" Xb:=by intro A s B H x D v C Q I L G h;let(z,y,rfl,rfl,q):=h;let(t,rfl):=L;let(_,rfl,u,rfl):=vals1 G;calc SC.startswith (.bl _,H,I,rfl,q)
def Lq:()->()->↑()
 |.str z,.str y=>#[.bool<|Txt.startswith z y]
 |_,_=>none
def agK:MtD K Lq Xb RS:=by
 intro A M F H z y d Q e g u n q;cases y with
 |str y=>
  let(rfl,_):=n;k_go;calc(_,_,rfl,rfl,q _ _ _ g rfl)
 |_=>cases e
def aoC:V->¬V->Hp->VK->Prop:=λx D H Q=>∃z,x=.str z/\D=[]/\Q (.bl<|Txt.isdigit z) H
def ajr:uo X "str.isdigit" aoC:=by intro A s B H x D v C Q I L G h;let(z,rfl,rfl,q):=h;let(t,rfl):=L;cases G;calc SC.isdigit (.bl _,H,I,rfl,q)
def aoD:()->↑()
 |.str z=>#[.bool<|Txt.isdigit z]
 |_=>none
def aow (T:PE X o (tV X.K RW f))(C:(attributeBase o "isdigit" X.env (eval o X.env)=eval o X.env)∣0)(D:((B.endLine==A.line)=true)∣0):
  PE X (.Call (.Attribute o "isdigit" B) [] [] A) (tV X.K RS<|v1 aoD f):=(Ay cf PySem.F.slot_str_isdigit PySem.F.type_str_isdigit ajr T C D).imp λ_ H Q q=>by
 let(J,G,M,S,F,I,d,e,q):=q;delta v1 at e;cases E:f S with
 |none=>rw[E] at e;k_go
 |some x=>
  rw[E] at e;cases x with
  |str z=>
   k_go;refine(J,G,M,S,F,I,_,E,λv L N O U=>?_);let(rfl,_):=U;calc(rfl,_,rfl,rfl,q _ L N O rfl)
  |_=>cases e
def Uk:¬V->Hp->VK->Prop:=λD H Q=>∃n:Int,D=[.int n]/\n.natAbs.log2<1920/\Q (.str<|toString n) H
def cStr:cU X (.type "str") Uk:=by intro A s B H D C Q I r h;let(n,rfl,h1,q):=h;let(u,rfl,t,rfl):=vals1 r;calc P.str_of_int h1 (.str _,H,I.tok _,⟨_,rfl⟩,q)
def Lr:¬()->↑()
 |[.int n]=>if(decide (n.natAbs.log2<1920) && cA (toString n))=true then #[.str<|toString n] else none
 |_=>none
def adv:CallD K Lr Uk:=by
 intro H J A d Q e h q;delta Lr at e;f_are
 .f_are
  .rename_i n c;k_go;rw[bj,ca] at c;let(_,_,rfl,rfl,rfl):=h;exact(n,rfl,c.1,q _ λ_=>⟨rfl,c.2⟩)
  .k_go
 .k_go
def afC:¬V->Hp->VK->Prop:=λD H Q=>∃z n,D=[.str z]/\intText? z=#[n]/\(!z)<=640/\Q (.int n) H
def alj:cU X (.type "int") afC:=by intro A s E H D B Q I r h;let(z,n,rfl,C,N,q):=h;let(u,rfl,t,rfl):=vals1 r;calc PySem.W.KIN.call_text C N (.int n,H,I.tok _,⟨_,rfl⟩,q)
def zY:¬()->↑()
 |[.str x]=>if (!x)<=640 then(intText? x).map .int else none
 |_=>none
def ali:CallD K zY afC:=by
 intro H J D d Q e A q;delta zY at e;f_are
 .f_are
  .rename_i x B;let(n,C,rfl):=c6.mp e;let(_,_,rfl,(rfl,_),rfl):=A;exact(_,n,rfl,C,B,q _ λ_=>rfl)
  .k_go
 .k_go
def rJoin (K:Frag):V->¬V->Hp->VK->Prop:=λx D H Q=>∃z p A,x=.str z/\D=[.ref p]/\aU K H p (A.map V.str)/\JoinOk z A=true/\Q (.str<|Txt.join z A) H
def rH:uo X "str.join" (rJoin X.K):=by intro A s T H x J v E Q I L G h;let(z,p,O,rfl,rfl,D,Y,q):=h;let(t,rfl):=L;let(_,rfl,e):=vals1 G;cases e;let(B,C,N,_):=I.list D;let(l,h1,rfl):=Lp C;calc SC.join N.isList h1 Y λM k=>(.str _,H,I.tok k,⟨M,rfl⟩,q)
def jV:()->()->↑()
 |.str z,.list B=>match tu B with
  |some A=>if(JoinOk z A && cA (Txt.join z A))=true then #[.str<|Txt.join z A] else none
  |none=>none
 |_,_=>none
def afp (z:PE X o (tV X.K RW f))(t:PE X e (tV X.K RM g))(B:(attributeBase o "join" X.env (eval o X.env)=eval o X.env)∣0)
  (L:(((backTo A<|starEach [e] X.env).all (λx=>not x.1) && (backToKw A<|keywordEach [] X.env).all (λx=>x.1.isSome) && decide ([e].length+(!([]:¬Keyword))+(if([]:¬Keyword).isEmpty then 0 else 1)<30))=true)∣0)
  (D:((J.endLine==A.line)=true)∣0)(Y:(starEach [e] X.env=(false,eval e X.env)::starEach [] X.env)∣0)(C:((backTo A<|starEach [] X.env).any (·.1)=false)∣0):
  PE X (.Call (.Attribute o "join" J) [e] [] A) (tV X.K RS<|v2 jV f g):=(oF cf dn dm rH z (aj t aG Y) B L D Y C).imp λ_ H Q q=>by
 let(N,G,M,S,F,I,d,e,q):=q;let(x,y,m,r,e):=qO e;delta jV at e;f_are
 .f_are
  .f_are
   .rename_i s _ a O E;k_go;cases oW O;rw[bj] at E;refine(N,G,M,S,F,I,_,m,λv j c T b=>?_);let(rfl,_):=b;refine(rfl,N,G,M,S,j,I.grow T,_,r,λu k l U n=>?_);let(p,w,rfl,h1,h2):=RM.list U.fh n;cases wQ h2;exact(_,_,_,rfl,rfl,h1,E.1,q _ k l (T.trans U) ⟨rfl,E.2⟩)
   .k_go
  .k_go
 .k_go
end
end VM
namespace VM
open PyProof.Rows L2
section
variable {K:Frag}
def vV (a b:Str):Bool:=not (ltCps ⇑b ⇑a)
def rJ:vV a b=true↔⇑a<=⇑b:=by delta vV;rw[ltCps_eq,lL,m4];calc List.not_lt
def Og (h:vV a b=true)(g:vV b c=true):vV a c=true:=rJ.mpr<|List.le_trans (rJ.mp h)<|rJ.mp g
def abB (a b:Str):(vV a b||vV b a)=true:=by rw[gX,rJ,rJ];calc List.le_total ..
def aek (h:vV a b=true)(g:vV b a=true):a=b:=by have e:=List.le_antisymm (rJ.mp h)<|rJ.mp g;cases a;cases b;rw[ij] at e;cases e;rfl
theorem Oh:∀{l:¬Str}{p},risingS p l=true->(p::l).Pairwise (λa b=>vV a b=true)
 |[],_,_=>List.pairwise_singleton ..
 |x::r,p,h=>by
  let(h1,h2):=Bool.and_eq_true_iff.mp h;have A:=Oh h2;refine iL.mpr ⟨λy n=>?_,A⟩;rcases bq.mp n with rfl|n
  .exact h1
  .calc Og h1<|(iL.mp A).1 y n
def Zq:∀{l:¬Str},sortedS l=true->l.Pairwise (λa b=>vV a b=true)
 |[],_=>.nil
 |_::_,h=>Oh h
def jO (ys:¬Str):¬Str:=ys.mergeSort vV
def abC (ys:¬Str):(jO ys).Pairwise (λa b=>vV a b=true):=List.pairwise_mergeSort (le:=vV) (λ_ _ _=>Og) abB ys
def ael (h:sortedS zs=true)(p:zs.Perm ys):zs=jO ys:=
 List.Perm.eq_of_pairwise (λ_ _ _ _=>aek) (Zq h) (abC ys) (p.trans (oy ys vV).symm)
def aem (ys:¬Str):jO (jO ys)=jO ys:=List.mergeSort_of_pairwise<|abC ys
def vW (ys:¬Str):(jO ys).Perm ys:=oy ..
theorem JW:∀{l:¬(Str×Tok)},StrsAre (strValues l) (l.map (·.1))
 |[]=>.nil
 |_::_=>.cons _ _ JW
theorem Xc:∀{vs:¬Value}{A:¬Str},StrsAre vs A->Vals (A.map V.str) vs
 |_,_,.nil=>.nil
 |_,_,.cons _ _ r=>.cons ⟨_,rfl⟩<|Xc r
theorem Ul:∀{ys:¬Str}{vs:¬V},aK K H (ys.map PyData.str) vs->∀w∈ys,(PyData.str w).canLay0=true
 |_::_,_,(_,_,_,⟨_,c⟩,r),w,C=>by
  rcases bq.mp C with rfl|C
  .exact c
  .calc Ul r w C
def afD (K:Frag):¬V->Hp->VK->Prop:=λD H Q=>∃p A,D=[.ref p]/\aU K H p (A.map V.str)/\(!A)<64/\∀l,H l=none->Q (.ref l) (upd H l<|.lst<|(jO A).map V.str)
def afr:cU X (.builtin "sorted") (afD X.K):=by
 intro B s m H g k Q I r h;let(p,j,rfl,M,L,q):=h;let(_,rfl,e):=vals1 r;k_go;let(O,D,T,_):=I.list M;let(l,h1,rfl):=Lp D;have N:(!(strValues l))<64:=by rwa [<-!D,ac]
 refine sorted_strs T.isList JW N λA U E C Y=>?_;rw[h1] at C;have e:=ael Y C;subst e;let(J,G):=sortedAll_at s.heap (strValues l) A;refine(.ref<| ~~~s+1,_,I.laid (λb ob e=>sortedAll_old e) (kx _) ?_,rfl,q _<|I.hok.fresh<|kx _);refine(?_,A.toList,J,Xc E,G);rw[ac,(vW j).length_eq];calc cb (iS L)<|by decide
def Eh (f:VE):VE:=λS=>match f S with
 |some (.list B)=>match tu B with
  |some A=>if (!A)<64 then #[.list<|(jO A).map .str] else none
  |none=>none
 |_=>none
def afq (J:PE X e (um (afD X.K)<|cL (tV X.K RM f) d9)):PE X e (tV X.K RN<|Eh f):=J.imp λ_ H Q q=>by
 f_int;delta Eh at e;f_are
 .rename_i j D;f_are
  .rename_i B E;f_are
   .rename_i L;k_go;cases oW E;refine(A,G,M,S,F,I,_,D,λv U Y C T=>?_);let(p,k,rfl,h1,h2):=RM.list C.fh T;cases wQ h2;exact(p,B,rfl,h1,L,λl N=>q _ _ _ (C.trans<|bA.alloc C.fh N) (_,l,_,rfl,rfl,C.hh.free N,C.fh.free N,ao,fu λw O=>(Ul h2) w<|(vW B).mem_iff.mp O))
   .k_go
  .k_go
 .k_go
end
section
variable {K:Frag}
def vX:()->↑Str
 |.str z=>if (!z)<=9000 then #[z] else none
 |.int n=>if n.natAbs.log2<1920 then #[toString n] else none
 |_=>none
def nJ:¬()->↑Str
 |[]=>#[Str.empty]
 |d::r=>match vX d with
  |some z=>(nJ r).map (z++ ·)
  |none=>none
def ag7 {n:Int}(h:n.natAbs.log2<1920):(!↥n)<=9000:=by have e:=int_text_length_le ⋯ h;rw[PySem.ofString_length];lk
def Oj (a b c:Str):a++b++c=a++(b++c):=by show Str.mk ((a.cps++b.cps)++c.cps)=Str.mk (a.cps++(b.cps++c.cps));rw[Array.append_assoc]
def ag8 (a:Str):a++Str.empty=a:=by show Str.mk (a.cps++ #[])=a;rw[Array.append_empty]
def ag9 (a:Str):Str.empty++a=a:=by show Str.mk (#[]++a.cps)=a;rw[Array.empty_append]
inductive FmA (K:Frag)(fw:VA)(σ:L2.St)(H:Hp)(Q:Str->Hp->Prop):Prop
 |mk {jQ:Nat->↑Addr} {G cQ:Hp} {S:GS} {F:Hp} (I:VI K jQ G cQ S F σ H) (e:fw S=#[ds]) (z:nJ ds=#[y]) (q:∀F' H',bA F H F' H'->Q y H')
def R9 (X:Cx)(D:¬Expr)(G:VA):Prop:=∀(B:Str) (n:Nat) (A:¬(Addr×Obj)) (s:Shared) (C:L2.St) (H:Hp) (Q:VK),(!B)<=9000*n->n+(!D)<=100->Inv X A C H s->FmA X.K G C H (λz E=>Q (.str<|B++z) E)->
 (X.prog\X.w) X.A (joinParts B<|evalEach D X.env) (EP X A C Q) NE s
variable {A:Pos}
def pf0:R9 X [] a0:=by intro B n C s J H Q G E I q;let(D,e,z,q):=q;cases e;cases z;have q:=q _ _<|bA.refl D.sub;rw[ag8] at q;refine joinParts_nil (.str B,H,I.tok _,⟨_,rfl⟩,q) ?_;rw[fT];erw[c9] at E;lk
def pfC (h1:PE X e (tV X.K RW f))(h2:R9 X L Y)(he:(evalEach (.FormattedValue e (-1) none A::L) X.env=eval (.FormattedValue e (-1) none A) X.env::evalEach L X.env)∣0):R9 X (.FormattedValue e (-1) none A::L) (aC f Y):=by
 intro C n B s J H Q hn hz I q;rw[he];let(T,e,z,q):=q;let(d,r,i,h,e3):=Dp e;subst e3;erw[nJ] at z;cases G:vX d with
 |none=>rw[G] at z;cases z
 |some y=>
  rw[G] at z;let(z',O,ez):=c6.mp z;subst ez;refine joinParts_cons<|FormattedValue_plain<|aY (h1 B s J H (λv E=>Has X.K E d v/\FmA X.K Y J E λz b=>Q (.str<|C++(y++z)) b) I (_,_,_,_,_,T,d,i,λv F1 E j M=>(M,T.grow j,h,O,λo p g=>q o p<|j.trans g))) ?_;rintro u s1 ⟨x,E,U,m,M,l⟩;have D:∀N,(!y)<=9000->Inv X B J E N->(!(C++y))<=sizeLine/\(X.prog\X.w) X.A (joinParts (C++y)<|evalEach L X.env) (EP X B J Q) NE N:=λN hy a=>by
   have hl:(!(C++y))<=9000*(n+1):=by rw[strLen_append];lk
   erw[a8] at hz;erw[<-Oj] at l;refine⟨?_,h2 (C++y) (n+1) B N J E Q hl ∅ a l⟩;rw[fT];lk
  cases d with
  |str w=>
   let(rfl,_):=M;let(t,rfl):=m;erw[vX] at G;by_cases c:(!w)<=9000
   .rw[ap c] at G;cases G;exact formatField_str (λt' tk=>D _ c<|U.tok _) (by rw[fT];lk)
   .rw[aw c] at G;cases G
  |int k=>
   subst M;let(t,rfl):=m;erw[vX] at G;by_cases c:k.natAbs.log2<1920
   .rw[ap c] at G;cases G;exact formatField_int_small c<|D _ (ag7 c)<|U.tok _
   .rw[aw c] at G;cases G
  |_=>cases G
def pfL (h2:R9 X D O)(T:((!a)<=9000)∣2)(U:(evalEach (.Constant (.str a) j A::D) X.env=eval (.Constant (.str a) j A) X.env::evalEach D X.env)∣0):R9 X (.Constant (.str a) j A::D) (aC (vC<|.str a) O):=by
 intro B n C s g H Q l k I q;rw[U];let(G,e,z,q):=q;let(d,r,J,L,M):=Dp e;subst M;cases J;erw[nJ,vX,ap T] at z;let(m,E,N):=c6.mp z;subst N;refine joinParts_cons<|Calls.Constant_str ?_;have Y:(!(B++a))<=9000*(n+1):=by rw[strLen_append];lk
 erw[a8] at k;refine⟨by rw[fT];lk,h2 (B++a) (n+1) C _ g H Q Y ∅ (I.tok _) (G,L,E,?_)⟩;erw[Oj];calc q
def ug (G:VA):VE:=λS=>match G S with
 |some B=>match nJ B with
  |some z=>if cA z=true then #[.str z] else none
  |none=>none
 |none=>none
def aiL (h:R9 X (e::U::E) J)(Y:(Nat.ble (!E) 90=true)∣0):PE X (.JoinedStr (e::U::E) A) (tV X.K RS<|ug J):=by
 intro B s k H Q I q;refine JoinedStr_many ?_;let(j,G,M,S,F,O,d,e,q):=q;delta ug at e;cases C:J S with
 |none=>rw[C] at e;k_go
 |some T=>
  cases D:nJ T with
  |none=>erw[C,D] at e;k_go
  |some z=>
   erw[C,D] at e;by_cases c:cA z=true
   .rw[ap c] at e;k_go;refine h Str.empty 0 B s k H Q ⋯ (by have:=Nat.le_of_ble_eq_true Y;erw[a8];lk) I (O,C,D,λL N g=>?_);rw[ag9];exact q _ L N g ⟨rfl,c⟩
   .rw[aw c] at e;k_go
end
end VM
namespace L2
open PyProof.Rows
def KDict (P:Program)(w:World)(K:Frag)(a:Addr)(B:¬(Key×V)):Prop:=∃o J,K.lookup a=#[o]/\KV B J/\o.IsDictOf (strKind P w) J/\(a==sysModules)=false
section
variable {B:¬(Key×V)}
def KDict.at (g:KDict X.prog X.w X.K a B)(I:Inv X A C H s):∃vs,KV B vs/\s.heap.DictOf (strKind X.prog X.w) a vs/\(a==sysModules)=false:=by let(o,vs,e,r,d,n):=g;calc(vs,r,Heap.dictOf_iff.mpr (o,I.o9 a o e,d),n)
end
end L2
namespace VM
open PyProof.Rows L2
section
variable {K:Frag}
def iM (k:Str):¬(Str×())->↑()
 |[]=>none
 |x::r=>if x.1=k then #[x.2] else iM k r
inductive KTab (P:Program)(w:World)(K:Frag)(mg:Str->↑Value)(x:Str)(tab:¬(Str×())):Prop
 |mk {a:Addr} {dI:¬(Key×V)} (g:mg x=#[.ref a]) (k:KDict P w K a dI) (at':∀z,(∃d v,iM z tab=#[d]/\dO dI z=#[v]/\∀H,Has K H d v)\/iM z tab=none/\dO dI z=none)
def tabIn (b:Bool)(A:¬(Str×())):()->↑()
 |.str k=>#[.bool<|(iM k A).isSome==b]
 |_=>none
def tabAt (A:¬(Str×())):()->↑()
 |.str k=>iM k A
 |_=>none
variable {A:¬(Str×())}
def Um (a:Addr)(B:¬(Key×V))(b:Bool):R2:=λx y H Q=>∃z,x=.str z/\y=.ref a/\Q (.bl<|(dO B z).isSome==b) H
def R7 (g:KDict X.prog X.w X.K a B):cB X (compareOp .In) (Um a B true):=by intro C s D H x y v u Q I L M h;let(z,rfl,rfl,q):=h;cases M;let(J,rel,N,G):=g.at I;refine wpAny_in_of (rW (k:=z) L) G N.mapOf ?_;rw[<-(rel.val z).wH];calc(.bl _,H,I.tok _,rfl,by simpa using q)
def R8 (g:KDict X.prog X.w X.K a B):cB X (compareOp .NotIn) (Um a B false):=by intro C s D H x y v u Q I L M h;let(z,rfl,rfl,q):=h;cases M;let(J,rel,N,G):=g.at I;refine wpAny_notIn_of (rW (k:=z) L) G N.mapOf ?_;rw[<-(rel.val z).wH];calc(.bl _,H,I.tok _,rfl,by simpa using q)
def rdK (O:∀z,(∃d v,iM z A=#[d]/\dO B z=#[v]/\∀H,Has K H d v)\/iM z A=none/\dO B z=none)(q:tV K RS (v1 (tabIn b A) f) T H Q):jm (Um a B b) (tV K RW f) (tC<|.ref a) T H Q:=by
 let(D,G,M,S,F,I,d,e,q):=q;delta v1 at e;cases C:f S with
 |none=>rw[C] at e;k_go
 |some y=>
  rw[C] at e;cases y with
  |str z=>
   k_go;refine(D,G,M,S,F,I,_,C,λv E J L N=>?_);let(rfl,_):=N;refine(z,rfl,rfl,?_);rcases O z with⟨d,v,h1,h2,_⟩|⟨h1,h2⟩
   .rw[h2];rw[h1] at q;exact q _ E J L rfl
   .rw[h2];rw[h1] at q;calc q _ E J L rfl
  |_=>cases e
def aiK (t:KTab X.prog X.w X.K X.mg x A)(I:∀{a B},KDict X.prog X.w X.K a B->cB X (compareOp G) (Um a B b))(hg:Gl X x)(Q:PE X e (tV X.K RW f))(C:((x==("__debug__":Str))=false)∣1)(D:(behindInMarks G (.Name x p)=false)∣0):PE X (.Compare e [G] [.Name x p] E) (tV X.K RS<|v1 (tabIn b A) f):=by let(g,k,H):=t;calc PE.imp (peC (I k) Q (ju (v:=.ref _) hg g rfl C) D) λ_ _ _ q=>rdK H q
def aiO (t:KTab X.prog X.w X.K X.mg x A)(I:∀{a B},KDict X.prog X.w X.K a B->cB X (compareOp G) (Um a B b))(hg:Gl X x)(Q:PE X e (tV X.K RW f))(C:((x==("__debug__":Str))=false)∣1)(D:(behindInMarks G (.Name x p)=false)∣0):PT X (.Compare e [G] [.Name x p] E) (gQ X.K<|vB<|v1 (tabIn b A) f):=by let(g,k,H):=t;calc PT.imp (eU (I k) Q (ju (v:=.ref _) hg g rfl C) D) λ_ _ _ q=>Ym (λ_ q=>rdK H q) q
def alh (t:KTab X.prog X.w X.K X.mg x A)(hg:Gl X x)(w:PE X e (tV X.K RW f))(a:adn e∣7)(o:((x==("__debug__":Str))=false)∣1):PE X (.Subscript (.Name x p) e pos) (tV X.K RS<|v1 (tabAt A) f):=by
 let(g,k,ta):=t;intro B s r H Q I h;let(T,G,M,S,F,b,d,C,q):=h;delta v1 at C;cases N:f S with
 |none=>rw[N] at C;cases C
 |some y=>
  rw[N] at C;cases y with
  |str z=>
   have J:iM z A=#[d]:=C;rcases ta z with⟨d',v,h1,h2,n⟩|⟨h1,_⟩
   .rw[h1] at J;cases J;refine Wg my.lookup a<|aY (ju (v:=.ref _) hg g rfl o B s r H (λL E=>L=.ref _/\E=H) I ⟨rfl,rfl⟩) ?_;rintro u s1 ⟨_,E,j,rx,rfl,c⟩;cases rx;rw[c] at j;refine aY (w B s1 r H (λL E=>∃D,bA F H D E/\Has X.K E (.str z) L) j (T,G,M,S,F,b,_,N,λL D E O hx=>(D,O,hx))) ?_;rintro iv s2 ⟨_,Y,l,ry,D,O,rfl,_⟩;let(vs,rel,m,o):=k.at l;let(w',i,U):=oO.some_of (by rw[<-h2];calc rel.val _);exact⟨m.typeIs,wpAny_getItem_of (rW (k:=z) ry) m.mapOf i (v,Y,l.tok _,U,q v D Y O<|n _)⟩
   .rw[h1] at J;cases J
  |_=>cases C
end
section
variable {K:Frag}
def GD (f g:VE):VE:=λS=>match f S with
 |some (.str z)=>if (!z)<=9000 then if (!z)=0 then g S else #[.str z] else none
 |_=>none
variable {A:Pos}
def aox (p:PE X D (tV X.K RS f))(r:PE X J (tV X.K RS g)):PE X (.BoolOp .Or [D,J] A) (tV X.K RS<|GD f g):=by
 intro B s k H Q I h;let(N,G,M,S,F,Y,d,e,q):=h;delta GD at e;cases T:f S with
 |none=>rw[T] at e;k_go
 |some x=>
  rw[T] at e;cases x with
  |str z=>
   simp only at e;by_cases c:(!z)<=9000
   .rw[ap c] at e;refine BoolOp_or<|aY (p B s k H (λv E=>∃C,bA F H C E/\Has X.K C (.str z) v) I (N,G,M,S,F,Y,_,T,λv C E L U=>(C,L,U))) ?_;rintro u n ⟨_,E,j,b,C,L,rfl,y⟩;let(t,rfl):=b;refine o4 ∅ ?_;by_cases O:(!z)=0
    .rw[ap O] at e;rw[show(((!z):Int) !=0)=false by simp[O]];exact QW r B _ k E Q (j.tok _) (N,G,M,S,C,Y.grow L,d,e,λv l m o U=>q v l m (L.trans o) U)
    .rw[aw O] at e;k_go;rw[show(((!z):Int) !=0)=true by simpa using O];exact(.str z,E,j.tok _,⟨_,rfl⟩,q _ C E L ⟨rfl,y⟩)
   .rw[aw c] at e;k_go
  |_=>cases e
end
end VM
namespace L2
open PyProof.Rows
section
variable {A:Pos}
def aoE (C D:TE):TE:=λB H Q=>C B H λx E=>match x with
 |.bl c=>if c=true then Q (.bl true) E else D B E Q
 |_=>False
def aoF (G:PE X a N)(L:PE X (.BoolOp .Or (b::rest) A) T):PE X (.BoolOp .Or (a::b::rest) A) (aoE N T):=by
 intro B s C H Q I h;refine BoolOp_or<|aY (G B s C H _ I h) λv O (x,E,D,M,J)=>?_;cases x with
 |bl c=>
  cases M;refine cK ?_;cases c with
  |false=>calc L B O C E Q D J
  |true=>calc(.bl true,E,D,rfl,J)
 |_=>calc False.elim J
end
end L2
namespace VM
open PyProof.Rows L2
section
variable {A:Pos}
def dOr (Q:PE X D (tV X.K RS f))(T:PE X (.BoolOp .Or (b::rest) A) (tV X.K RS g)):PE X (.BoolOp .Or (D::b::rest) A) (tV X.K RS<|vOr f g):=(aoF Q T).imp λ_ _ _ q=>by
 let(B,G,M,S,F,I,d,e,q):=q;delta vOr at e;f_are
 .rename_i k;k_go;refine(B,G,M,S,F,I,_,k,λv C H g E=>?_);have N:=E;subst N;erw[dE];exact q _ C H g rfl
 .rename_i k;refine(B,G,M,S,F,I,_,k,λv C H g E=>?_);subst E;erw[dS,eg];exact(B,G,M,S,C,I.grow g,d,e,λw J L O U=>q w J L (g.trans O) U)
 .k_go
end
section
variable {m A:Pos}
def Sd:cB X (compareOp .In) (rIn X.K false):=by
 intro C s O H x y v u Q I L M h;let(p,G,rfl,T,E,fs,q):=h;cases M;have B:∀{J:¬Value},Vals G J->EP X C O Q (.bool<|J.toArray.any<|wg x) s:=λr=>by rw[show ∀l:¬Value,l.toArray.any (wg x)=l.any (wg x) from λl=>by simp,Kl r fs];exact(.bl _,H,I,rfl,q)
 rcases T with T|T
 .let(J,r,N,_):=I.list T;exact SeqAt.in_listAt (wg x) N.isList (λw D=>yV L E r fs w<|‹D›) (B r)
 .let(J,r,N,_):=I.tuple T;calc SeqAt.in_tupleAt (wg x) N (λw D=>yV L E r fs w<|‹D›) (B r)
def aov {lo hi:↑Expr}(U:PE X e (tV X.K RM f))(Y:PO X lo (Hw X.K fl))(j:PO X hi (Hw X.K T)):PE X (.Subscript e (.Slice lo hi none m) A) (tV X.K RN<|Gi f fl T):=
 (qJ Dj U Y j).imp λ_ H Q q=>by
  let(B,G,M,S,F,I,d,e,q):=q;delta Gi at e;f_are
  .rename_i s l u o r t;k_go;refine⟨B,G,M,S,F,I,_,o,λv L b D k=>⟨B,G,M,S,L,I.grow D,l,r,λN c J=>⟨B,G,M,S,N,(I.grow D).grow J,u,t,λO n C=>?_⟩⟩⟩;let(p,y,rfl,h1,h2):=RM.list C.fh<|RM.grow (J.trans C) k;have g:=(D.trans J).trans C;exact(p,y,rfl,h1,λz E=>q _ O _ (g.trans<|bA.alloc C.fh E) ⟨_,z,_,rfl,rfl,g.hh.free E,C.fh.free E,ao,aK.cut h2⟩)
  .k_go
end
def aen (x y:Str):Bool:=(Builtin.Str.occurrences x y 0 (!x) 1).isEmpty
def ajs:R2:=λx y H Q=>∃a b,x=.str a/\y=.str b/\Q (.bl<|aen b a) H
def aiN:cB X (compareOp .NotIn) ajs:=by intro A s D H x y v u Q I L M h;let(a,b,B,G,q):=h;subst B;subst G;let⟨t,rfl⟩:=L;let⟨C,rfl⟩:=M;calc P.notIn_str (.bl _,H,I,by rw[Bool.not_not];rfl,q)
def Uo:()->()->↑()
 |.str a,.str b=>#[.bool<|aen b a]
 |_,_=>none
def aoy {K:Frag}:gW K Uo ajs:=by
 intro H x y E A d Q e B n q;cases E<;>first|cases e|skip
 cases A<;>first|cases e|skip
 let⟨rfl,_⟩:=B;let⟨rfl,_⟩:=n;calc(_,_,rfl,rfl,q _ λ_=>rfl)
end VM
namespace bV
open L2 VM
seal L2.PE L2.PT L2.PW L2.PA L2.PS L2.jl L2.PG L2.sS L2.PI L2.nF L2.PO L2.cB L2.G7 L2.cU L2.sV L2.uo L2.yR L2.Ad VM.gW VM.CallD PySem.binaryOp PySem.compareOp VM.Qx VM.xV VM.xq VM.pX VM.kE VM.lH VM.isD VM.Kr VM.xu VM.Rz
variable {J L:Tok}{E:En}{K:Frag}
open PyProof.Rows (boot_isinstance boot_abs boot_min boot_sum boot_all boot_int boot_bool boot_list boot_tuple boot_str boot_sorted)
def aoz {X:Cx}{O iter A:Expr}{D:¬Expr}{scope sc:Scope}{N:¬Str}{I:Pos}{cap:¬(↑Nat)}{t:VG}{Y U:Pos}{l:VA}{i:Nat}{y:Str}{k:VT}{g:VE}(_:N.all (λx=>nG sc x && plain x)=true)(r:X.N.Nodup)(f:X.N[i]? =#[y])(n:Loc X.env.scope y)(N':¬Str)(Q:PI X O iter (u5 X.K l))(hg:∀G C B M H,PG (fK X scope N' G C B M H) O (xZ X.K t<|[0]++([1]++([2]++([3]++([4]++[]))))))(hi:∀G C B M H,nF (fK X scope N' G C B M H) D (gQ X.K k))(u:∀G C B M H,PE (fK X scope N' G C B M H) A (tV X.K RS g))
  (m:(sW N sc scope N' cap=true)∣2)(o:(X.N=N)∣0)(p:(X.env.scope=sc)∣0)(hk:(((([0]++([1]++([2]++([3]++([4]++[]))))):¬Nat).all λj=>cap[j]? ==#[none])=true)∣0)(T:(swapsWith (.ListComp A [(O,iter,D,0)] scope I) (#[.Name y Y]) U.line X.env=pure true)∣0)
  (z:(∀x,foldedSetIterable iter X.env x=pure x)∣4)(v:(X.fn y=true\/X.env.scope.names.lookup y=some .local)∣14):PS X (.Assign [.Name y Y] (.ListComp A [(O,iter,D,0)] scope I) U) (gJ X.K<|Gp i<|lJ l cap t k g):=air<|Ry (mF r f n _ _ m o p Q hg hi u T z v) λ_ _ _ q=>ac3 hk q
def JX:():=.str "name"
def nbT:():=.str "number"
def lN:¬(Str×()):=[("hall",.tuple [JX,JX]),("lay",.tuple [JX,JX,JX,nbT,nbT]),("shut",.tuple [JX]),("widen",.tuple [JX,nbT]),("narrow",.tuple [JX,nbT]),("out",.tuple [.str "turns"]),("walks",.tuple [.str "turns"]),("moments",.tuple [.str "turns"]),("turns",.tuple [.str "people"]),("worth",.tuple [JX,.str "turns"]),("rooms",.tuple []),("passages",.tuple [])]
def lO:¬(Str×()):=[("turns",.int 0),("people",.int 1)]
def Fw:VS:=(aR (eV (vIf (vB<|v2 (vU Lq) (vN 0)<|vC<|.str "-") (adi (vN 0) (oI<|vC<|.int 1) oN)<|vF 0)<|gN 1)<|aR (gw (eZ<|vB<|nQ Ag Ag (vC<|.int 1) (dW pZ<|aC (vN 1) a0)<|vC<|.int 60) (eX<|vC<|.bool false) dH)<|aR (gw (eZ<|vB<|dW vh<|aC (lJ (gq<|vN 1) [none] (gN 0) fj<|nQ gD gD (vC<|.str "0") (vN 0)<|vC<|.str "9") a0) (eX<|vC<|.bool false) dH)<|eX<|vOr (v2 kE (vN 0)<|vC<|.str "0")<|v2 lH (v2 KR (vN 1)<|vC<|.int 0)<|vC<|.str "0")
def oA:f9:=iG 1 2 Fw
section
variable {E:En}{K:Frag}(B:Bl E.mg)(KT:YC K)
include B KT
theorem Uq (aiJ:E.mg "all"=none)(ahx:E.mg "MOST_FIGURES"=#[.int 60 J])(h:GF E K 46):CV E K 46 1 oA:=mL ["word","figures"] h λnd vt hr=>by walk_at "d"
def zZ:VS:=(aR (gw (vB<|v2 kE (vN 0)<|vC<|.str "name") (iB 1) dH)<|aR (gw (eZ<|vB<|cV oA<|aC (vF 1) a0) pQ dH)<|aR (eV (dW zY<|aC (vN 1) a0)<|gN 2)<|aR (gw (mj (vB<|v1 (tabIn true lO)<|vN 0)<|vB<|v2 Af (vN 2)<|v1 (tabAt lO)<|vN 0) pQ dH)<|iB 2)
def cZ:f9:=iG 2 3 zZ
theorem Vv (C:KTab E.P E.w K E.mg "LEAST" lO)(A:CV E K 46 1 oA)(h:GF E K 45):CV E K 45 2 cZ:=mL ["kind","word","number"] h λnd vt hr=>by walk_at "d"
def Fx:VS:=(aR (gw (oU (vB<|v2 (KY false) (vC<|.str "")<|vN 0)<|vB<|v1 (tabIn false lN)<|v2 bB (vN 0)<|vC<|.int 0) pQ dH)<|aR (eV (v1 (tabAt lN)<|v2 bB (vN 0)<|vC<|.int 0)<|gN 1)<|aR (gw (vB<|v2 lH (v2 jd (dW kW<|aC (vN 0) a0)<|vC<|.int 1)<|dW kW<|aC (vN 1) a0) pQ dH)<|rR<|lJ (Bq<|aC (vF 1)<|aC (Gi (vN 0) (oI<|vC<|.int 1) oN) a0) [none,none] (gT 2<|gC (gN 0)<|gC (gN 1) g0) fj<|cV cZ<|aC (vF 0)<|aC (vF 1) a0)
def oE:f9:=iG 1 2 Fx
theorem Ur (C:KTab E.P E.w K E.mg "FORMS" lN)(A:CV E K 45 2 cZ)(h:GF E K 44):CV E K 44 3 oE:=mL ["words","form"] h λnd vt hr=>by walk_at "d"
def CW:VS:=(aR (qD 1<|gB a0)<|aR (pW (dM<|vF 0) (gT 2<|gC (gN 2)<|gC (gN 3) g0)<|aR (eV (v2 jV (vC<|.str " ")<|vN 2)<|gN 4)<|gM 1<|aC (ug<|aC (vN 3)<|aC (vC<|.str " by ")<|aC (vN 4) a0) a0)<|eX<|GD (v2 jV (vC<|.str "; ")<|Eh<|vN 1)<|vC<|.str "none")
def mX:f9:=iG 1 5 CW
theorem O8 (h:GF E K 49):CV E K 49 1 mX:=mL ["walks","told","names","number","together"] h λnd vt hr=>by walk_at "d"
def wR:VS:=(aR (Gp 1<|lJ (dM<|vF 0) [none,none,none,none,none] (gT 5<|gC (gN 0)<|gC (gN 1)<|gC (gN 2)<|gC (gN 3)<|gC (gN 4) g0) fj<|ug<|aC (vN 0)<|aC (vC<|.str " ")<|aC (vN 1)<|aC (vC<|.str " ")<|aC (vN 2)<|aC (vC<|.str " ")<|aC (vN 3)<|aC (vC<|.str " ")<|aC (vN 4) a0)<|eX<|GD (v2 jV (vC<|.str "; ")<|vN 1)<|vC<|.str "none")
def jF:f9:=iG 1 2 wR
theorem GJ (h:GF E K 50):CV E K 50 1 jF:=mL ["passages","told"] h λnd vt hr=>by walk_at "d"
def Aq:VS:=(aR (gw (oU (vB<|v2 kE (vN 0)<|vC<|.str "")<|oU (vB<|v2 Ah (dW pZ<|aC (vN 0) a0)<|vC<|.int 100)<|mj (vB<|v2 Ah (dW pZ<|aC (vN 0) a0)<|vC<|.int 1)<|vB<|v2 kE (v2 KR (vN 0)<|vC<|.int 0)<|vC<|.str "0") (eX<|vC .none) dH)<|aR (pW (gq<|vN 0) (gN 1)<|gw (vB<|v2 Uo (vN 1)<|vC<|.str "0123456789") (eX<|vC .none) dH)<|eX<|dW zY<|aC (vN 0) a0)
def fJ:f9:=iG 1 2 Aq
theorem Ls (h:GF E K 53):CV E K 53 1 fJ:=mL ["_law_text","_law_sign"] h λnd vt hr=>by walk_at "d"
end
end bV
namespace bV
open PyProof.Rows L2 VM PySem.W.KIN PySem.NumText
structure iQ (n:Int):Prop where
 ds:AllDigits ⇑↥n
 ne:⇑↥n≠[]
 len:(!↥n)<=500
 rd:intText? ↥n=#[n]
 lg:n.natAbs.log2<1920
def sJ (L:0<=n)(h:n<10^500):iQ n:=by
 have N:=toString_length_le L ⋯ h;let(m,rfl):=dv L;have G:AllDigits ⇑(Str.ofString<|toString ((m):Int)):=by intro c O;rw[signs_num] at O;let(B,D,e):=bg.mp O;rw[<-e];exact(digit_range<|Nat.isDigit_of_mem_toDigits ⋯ ⋯ D)
 have r:⇑(Str.ofString<|toString ((m):Int))≠[]:=by rw[signs_num];intro e;have h:=Nat.length_toDigits_pos (b:=10) (n:=m);rw[kb.mp e] at h;exact absurd h<|by decide
 have e:=intText_digits G r (cb N ⋯);rw[signs_num,val_back] at e;refine(G,r,N,e,?_);have A:m<2^1920:=bX (show m<10^500 by lk) 'k';by_cases z:m=0
 .subst z;decide
 .calc(oj z).mpr A
def iQ.ok (h:iQ n):cA ↥n=true:=by show(↥n).cps.all (· <0x110000)=true;rw[<-all_toList,cp];intro c O;have hr:=h.ds c O;calc a9 ∅
def ajt {lo hi:Str}(B:⇑lo=[l])(G:⇑hi=[h]):(nQ gD gD (vC<|.str lo) (vN 0)<|vC<|.str hi) [#[(.fr,.str ⟨[c].toArray⟩)]]=#[.bool<|decide (l<=c) && decide (c<=h)]:=by
 have q:∀x y:Nat,decide ([x]<[y])=decide (x<y):=λx y=>decide_eq_decide.mpr ⟨λz=>by rcases gz.mp z with g|⟨_,g⟩;calc g;calc absurd g<|by simp,λz=>gz.mpr<|.inl z⟩;have k:∀x y:Nat,(not (decide (x<y)))=decide (y<=x):=λx y=>by by_cases z:x<y<;>simp[z]<;>lk
 have J:gD (.str lo) (.str ⟨[c].toArray⟩)=#[.bool<|decide<|l<=c]:=by show #[PyData.bool<|not (decide ([c]<⇑lo))]=_;rw[B,q,k]
 have A:gD (.str ⟨[c].toArray⟩) (.str hi)=#[.bool<|decide<|c<=h]:=by show #[PyData.bool<|not (decide (⇑hi<[c]))]=_;rw[G,q,k]
 z_go;rw[J];cases C:decide (l<=c) with
 |false=>z_go;rfl
 |true=>z_go;rw[A]
def aju {lo hi:Str}(B:⇑lo=[l])(G:⇑hi=[h])(E:f S=#[.str z])(A:ascii z=true)(H:(!z)<=1000):
  (dW vh<|aC (lJ (gq f) [none] (gN 0) fj<|nQ gD gD (vC<|.str lo) (vN 0)<|vC<|.str hi) a0) S=#[.bool<|(⇑z).all λc=>decide (l<=c) && decide (c<=h)]:=by
 have D:(lJ (gq f) [none] (gN 0) fj<|nQ gD gD (vC<|.str lo) (vN 0)<|vC<|.str hi) S=#[.list<|(⇑z).map λc=>.bool<|decide (l<=c) && decide (c<=h)]:=by
  rw[yg];delta gq;rw[E];erw[A,dE];delta DR;rw[rT rfl (by rw[ac,←Ea];calc dL H<|by decide)];rw[j4 (f:=λd=>match d with|.str s=>.bool (decide (l<=(⇑s).headD 0) && decide ((⇑s).headD 0<=h))|d=>d)]
  .z_go;rw[ce];rfl
  .intro d C;let(c,O,rfl):=bg.mp C;exact([#[(.fr,.str ⟨[c].toArray⟩)]],by z_go,rfl,ajt B G)
 delta dW;rw[Dv,D];show(yq _).map _=_;rw[show((⇑z).map λc=>PyData.bool<|decide (l<=c) && decide (c<=h))=((⇑z).map λc=>decide (l<=c) && decide (c<=h)).map PyData.bool by rw[ce];rfl,Fd];simp[List.all_map,Function.comp_def]
def Ut (z:Str):Txt.startswith z "-"=decide ((⇑z).head? =#[45]):=by
 obtain⟨⟨l⟩⟩:=z;have B:(!("-":Str))=1:=rfl;delta Txt.startswith;cases l with
 |nil=>rfl
 |cons c r=>
  have h1:decide (0+(!("-":Str))<=!(⟨⟨c::r⟩⟩:Str))=true:=a9 (by rw[B];show 0+1<=!(c::r);simp);rw[h1,Bool.true_and];have h2:((⟨c::r⟩:Array Nat).extract 0<|0+!("-":Str))= [c].toArray:=by rw[B];refine ij.mp ?_;simp
  show(((⟨c::r⟩:Array Nat).extract 0<|0+!("-":Str))== [45].toArray)=_;rw[h2];by_cases O:c=45
  .subst O;rfl
  .rw[show(([c].toArray)== [45].toArray)=false by simpa using O];simp[O]
def Xd:ascii z=true↔∀c∈⇑z,c<128:=by delta L2.ascii;rw[p6];simp
def wU (a b:Str):kE (.str a) (.str b)=#[.bool<|decide<|a=b]:=by
 have:PyData.depth (.str a)<=60:=by simp[PyData.depth]
 delta kE;rw[ap this];erw[eqv,oa]
def QJ (a b:Str):lH (.str a) (.str b)=#[.bool<|not (decide (a=b))]:=by
 have:PyData.depth (.str a)<=60:=by simp[PyData.depth]
 delta lH;rw[ap this];erw[eqv,oa]
def aha {a b:Str}(h:⇑b=l):a=b↔⇑a=l:=⟨λz=>by rw[z,h],λz=>lT<|ij.mp<|z.trans h.symm⟩
theorem iQ.head (h:iQ n)(J:0<n):(⇑↥n).head? ≠#[48]:=by
 let(m,rfl):=dv (show 0<=n by lk);have M:=val_back m;have E:=signs_num m;intro z;rw[E] at z;cases N:(Nat.toDigits 10 m).map Char.toNat with
 |nil=>rw[N] at z;cases z
 |cons c r=>
  rw[N] at z M;cases z;have G:AllDigits (48::r):=by rw[<-N,←E];exact h.ds
  have D:(!(Nat.toDigits 10 m))=(!r)+1:=by have:=cw List.length N;simpa using this
  have H:∀k (A:¬Nat),(!A)=k->AllDigits A->digitsVal A<10^k:=by
   intro k;induction k with
   |zero=>intro A e _;rw[ee.mp e];decide
   |succ k I=>
    intro A e O;have B:A≠[]:=λz=>by subst z;k_go
    rw[<-List.dropLast_concat_getLast B,digitsVal_snoc];have h1:=I A.dropLast (by simp[e]) λd G=>O d<|(nV A).subset G;have h2:=O _<|List.getLast_mem B;rw[Nat.pow_succ];lk
  have hr:=H _ r rfl G.tail;rw[digitsVal_zero] at M;by_cases C:0<!r
  .have:=(Nat.length_toDigits_le_iff (b:=10) ⋯ C).mpr ∅;lk
  .have:r=[]:=ee.mp ∅
   subst this
   have:m=0:=by rw[<-M];rfl
   lk
def Vw (h:iQ n)(L:0<=n)(C:n<10^60):oA [.str<|↥n]=#[(false,.bool true)]:=by
 have N:=toString_length_le L ⋯ C;have D:(!↥n)<=1000:=by lk
 have G:1<=!↥n:=by rw[Ea];exact kw.mpr h.ne
 have J:∀c,(⇑↥n).head? =#[c]->48<=c/\c<=57:=λc O=>h.ds c<|List.mem_of_mem_head? O;have H:vU Lq (.str<|↥n) (.str "-")=#[.bool false]:=by show #[PyData.bool<|Txt.startswith _ "-"]=_;rw[Ut,aS λz=>by have:=J _ z;lk]
 have E:=aju (S:=[#[(.fr,.str<|↥n)],#[(.fr,.str<|↥n)]]) (f:=vN 1) (lo:="0") (hi:="9") (l:=48) (h:=57) 'k' 'k' (by z_go) (Xd.mpr λc O=>by have:=h.ds c O;lk) D;rw[cp.mpr λc O=>by have:=h.ds c O;simp[this.1,this.2]] at E;delta oA Fw;generalize A:↥n=z at*
 z_go;rw[H];z_go;rw[adF D];z_go;rw[a9 ∅];z_go;rw[a9 ∅];z_go;have I:eZ (vB<|dW vh<|aC (lJ (gq<|vN 1) [none] (gN 0) fj<|nQ gD gD (vC<|.str "0") (vN 0)<|vC<|.str "9") a0) [#[(.fr,.str z)],#[(.fr,.str z)]]=#[false]:=by delta eZ vB;rw[E];rfl
 change bFn (KH (bIf (eZ (vB<|dW vh<|aC (lJ (gq<|vN 1) [none] (gN 0) fj<|nQ gD gD (vC<|.str "0") (vN 0)<|vC<|.str "9") a0) _) _ _ _) _)=_;rw[I];z_go;rw[wU];by_cases Q:z="0"
 .rw[a9 Q];z_go
 .rw[aS Q];z_go;cases O:⇑z with
  |nil=>rw[Ea,O] at G;cases G
  |cons c r=>
   rw[show(0)=((0:Nat):Int) from rfl,K7 D (by rw[O];rfl)];z_go;rw[QJ,aS λe=>?_]
   .z_go
   have B:c=48:=by
    have:=cw (λs:Str=>⇑s) e;have w:⇑("0":Str)=[48]:='k'
    erw[w] at this;simpa using this
   by_cases M:n=0
   .subst M;exact Q<|A.symm.trans<|'k'
   .calc h.head ∅ (by rw[A,O,B];rfl)
end bV
namespace bV
open PyProof.Rows L2 VM
def gk:cZ [.str "name",.str a]=#[(false,.str a)]:=by delta cZ zZ;z_go;rw[wU,a9 rfl];z_go
def xM {f:Str}(h:iQ n)(L:0<=n)(C:n<10^60)(hk:f≠"name")(N:iM f lO=none\/∃m:Int,iM f lO=#[.int m]/\m<=n):cZ [.str f,.str<|↥n]=#[(false,.int n)]:=by
 have B:=Vw h L C;have G:zY [.str<|↥n]=#[.int n]:=by show(if _ then _ else _)=_;rw[ap (by have:=h.len;lk),h.rd];rfl
 delta cZ zZ;generalize ↥n=z at*
 z_go;rw[wU,aS hk];z_go;rw[B];z_go;rw[G];z_go;rcases N with N|⟨m,N,A⟩
 .have J:tabIn true lO (.str f)=#[.bool false]:=by show #[PyData.bool<|(iM f lO).isSome==true]=_;rw[N];rfl
  rw[J];z_go
 .have J:tabIn true lO (.str f)=#[.bool true]:=by show #[PyData.bool<|(iM f lO).isSome==true]=_;rw[N];rfl
  have O:tabAt lO (.str f)=#[.int m]:=N;rw[J];z_go;rw[O];z_go;erw[aS<|show Not (n<m) by lk];z_go
inductive wV:¬Str->¬Str->¬()->Prop
 |nil:wV [] [] []
 |cons {b:Bool} (h:cZ [.str k,.str a]=#[(b,d)]) (r:wV ks as ds):wV (k::ks) (a::as) (d::ds)
def wV.len (h:wV k as ds):(!k)=!as:=by
 induction h with
 |nil=>rfl
 |cons _ _ A=>simp[A]
def aeo (C:iM l lN=#[.tuple<|A.map .str])(B:∀w∈l::as,w≠"")(Q:(!as)<100)(M:wV A as ds):oE [.list<|(l::as).map .str]=#[(true,.list ds)]:=by
 have Y:=M.len;have E:KY false (.str "") (.list (.str l::as.map .str))=#[.bool false]:=by show(match tu ((l::as).map .str) with|some D=>#[PyData.bool<|if false=true then not (D.any λy=>y==("":Str)) else D.any λy=>y==("":Str)]|none=>none)=_;rw[p7];show #[PyData.bool<|(l::as).any λy=>y==("":Str)]=_;rw[kK.mpr λy n=>‹B y n›]
 have G:tabIn false lN (.str l)=#[.bool false]:=by show #[PyData.bool<|(iM l lN).isSome==false]=_;rw[C];rfl
 have J:tabAt lN (.str l)=#[.tuple<|A.map .str]:=C;delta oE Fx;z_go;rw[E];z_go;rw[G];z_go;rw[J];z_go;rw[a9 (by erw[ac];lk)];z_go;have L:VM.cutD (.str l::as.map PyData.str) #[1] none=as.map .str:=by delta VM.cutD;rw[show(1)=((1:Nat):Int) from rfl,HT.VH,HT.Q9,Nat.min_eq_left<|by simp];exact bn<|by simp
 have H:∀{A as:¬Str}{ds:¬()},wV A as ds->nU (gT 2<|gC (gN 0)<|gC (gN 1) g0) fj (cV cZ<|aC (vF 0)<|aC (vF 1) a0) [none,none] (uf (A.map .str)<|as.map .str)=#[ds]:=by
  intro A as ds h;induction h with
  |nil=>rfl
  |cons h r O=>
   have I:cV cZ (aC (vF 0)<|aC (vF 1) a0) [#[(.fr,.str k)],#[(.fr,.str a)]]=#[d]:=by z_go;rw[h];z_go
   show(match cV cZ (aC (vF 0)<|aC (vF 1) a0) [#[(.fr,.str k)],#[(.fr,.str a)]] with|none=>none|some e=>match nU _ _ _ _ (uf _ _) with|none=>none|some N=>#[e::N])=_;rw[I,O]
 erw[Yw];rw[L,ap (by erw[ac];lk),rT rfl (by delta uf;rw[oz,ac,ac];calc bw ∅),show iI [none,none] _=[none,none] from rfl,H M];rfl
open PySem.Builtin.Str StrLaws
def ahb (D:⇑s=c::t)(h:At x s (!x) k):(⇑x)[k]? =#[c]:=by
 have h2:=h.2;rw[subAt_eq,D] at h2;have G:(((⇑x).drop k).take !s)[0]? =#[c]:=by rw[(gi h2)];rfl
 have N:0<!s:=by show 0<s.cps.size;rw[<-bS,D];simp
 rw[mM N,pj] at G;calc G
def at_of (hk:k<=!x)(h:(⇑x).drop k=⇑s++r):At x s (!x) k:=by have N:(!s)=!⇑s:=bS.symm;have A:(!x)=!⇑x:=bS.symm;have e:=cw List.length h;rw[ir,aE] at e;calc⟨by lk,by rw[subAt_eq,h,N,take_left];calc il _⟩
def uL:⇑(Str.join s (w::v::r))=⇑w++(⇑s++⇑(Str.join s (v::r))):=by show((w.cps++s.cps)++(Str.join s (v::r)).cps).toList=_;simp
def Lw {x s w:Str}(D:⇑s=c::t)(C:Not (c∈⇑w))(h:(⇑x).drop a=⇑w++r)(h1:a<=k)(h2:k<a+!w):Not (At x s (!x) k):=λz=>by have e:=ahb D z;have N:(!w)=!⇑w:=bS.symm;rw[show k=a+(k - a) by lk,←pj,h,b9 ∅] at e;calc C<|ag e
theorem Uu {x s:Str}(B:⇑s=c::t):∀{ws:¬Str}{a f:Nat} {A:¬Nat},ws≠[]->(∀w∈ws,Not (c∈⇑w))->a<=!x->(⇑x).drop a=⇑(Str.join s ws)->ChainG x s (!x) a A f->(∀k,f<=k->Not (At x s (!x) k))->partsFrom x (!s) a A=ws
 |[],_,_,_,h,_,_,_,_,_=>absurd rfl h
 |[w],a,f,A,_,C,N,e,O,E=>by
  have e:(⇑x).drop a=⇑w++[]:=by rw[e];simp[Str.join]
  have J:(!x)=!⇑x:=bS.symm;have D:=cw List.length e;rw[ir,fS,bS (xs:=w.cps)] at D;have D:(!x) - a=!w:=by rwa [J]
  cases A with
  |nil=>show [strSub x a !x]=[w];congr 1;calc lT<|ij.mp (by rw[strSub_toList,e,fS];calc bn (by rw[bS];calc p5 D.symm))
  |cons i r=>
   have h2:=O.2.1.1;have T:0<!s:=by show 0<s.cps.size;rw[<-bS,B];simp
   calc absurd O.2.1<|Lw B (C w ae) e O.1 ∅
 |w::v::r,a,f,A,_,C,N,e,O,E=>by
  rw[uL] at e;have J:(!x)=!⇑x:=bS.symm;have H:(!w)=!⇑w:=bS.symm;have G:(!s)=!⇑s:=bS.symm;have D:=cw List.length e;rw[ir,aE,aE] at D;have I:(⇑x).drop (a+!w)=⇑s++⇑(Str.join s (v::r)):=by rw[<-drop_drop,e,H,o3]
  have Y:=at_of ∅ I;have L:(⇑x).drop (a+(!w)+!s)=⇑(Str.join s (v::r)):=by rw[<-drop_drop,I,G,o3]
  have Q:∀{k},a<=k->k<a+!w->Not (At x s (!x) k):=Lw B (C w ae) e;cases A with
  |nil=>calc absurd Y<|E _ (by have:f=a:=O;lk)
  |cons i q=>
   have M:i=a+!w:=by
    rcases kB i (a+!w) with h|h|h
    .exact absurd O.2.1<|Q O.1 h
    .exact h
    .exact absurd Y<|O.2.2.1 _ ∅ h
   subst M;show strSub x a (a+!w)::_=_;rw[Uu B 's' (λy n=>C y<|af _ n) ∅ L O.2.2.2 E];congr 1;calc lT<|ij.mp<|by rw[strSub_toList,e,show a+(!w) - a=(!⇑w) by lk,take_left]
def Zr (B:⇑s=c::t)(hk:Builtin.Str.strKind s=1)(A:ws≠[])(C:∀w∈ws,Not (c∈⇑w)):partsBetween (Str.join s ws) (occurrences (Str.join s ws) s 0 (!(Str.join s ws))<|(!(Str.join s ws))+1) (!s)=ws/\Txt.split (Str.join s ws) s=ws:=by
 have N:1<=!s:=by show 1<=s.cps.size;rw[<-bS,B];simp
 let(f,h1,h2):=occ_tight (Str.join s ws) s N;have D:partsBetween (Str.join s ws) (occurrences (Str.join s ws) s 0 (!(Str.join s ws))<|(!(Str.join s ws))+1) (!s)=ws:=by rw[partsBetween_eq];exact Uu B A C (cv _) rfl h1 h2
 have L:occurrences (Str.join s ws) s 0 (!(Str.join s ws)) ((!(Str.join s ws))+1)=[]->[Str.join s ws]=ws:=λe=>by rw[e] at D;exact(cw (λz=>[z])<|sub_whole _).symm.trans<|(partsBetween_eq _ [] _).symm.trans D
 refine⟨D,?_⟩;delta Txt.split;split
 .rename_i O;apply L;cases q:occurrences (Str.join s ws) s 0 (!(Str.join s ws)) ((!(Str.join s ws))+1) with
  |nil=>rfl
  |cons i r=>
   rw[q] at h1;have z:=h1.2.1.1;rw[gX,ca,ca,hk] at O
   have:1<=strKind (Str.join s ws):=by delta Builtin.Str.strKind;split;decide;split<;>decide
   lk
 .split
  .rename_i Q;exact L<|List.isEmpty_iff.mp Q
  .calc D
def ahc {a s b:Str}(I:⇑s=c::t)(B:Not (c∈⇑a)):Txt.partition (a++s++b) s=(a,s,b):=by
 have e:⇑(a++s++b)=⇑a++(⇑s++⇑b):=by show((a.cps++s.cps)++b.cps).toList=_;simp
 have L:(!a)=!⇑a:=bS.symm;have y:(!s)=!⇑s:=bS.symm;have J:(!(a++s++b))=(⇑(a++s++b)).length:=bS.symm;have D:=cw List.length e;rw[aE,aE] at D;have G:(⇑(a++s++b)).drop (!a)=⇑s++⇑b:=by rw[e,L,o3]
 have Y:=at_of ∅ G;have E:∀{k},0<=k->k<0+!a->Not (At (a++s++b) s (!(a++s++b)) k):=Lw I B e;rcases partition_whole (a++s++b) s with⟨_,C⟩|⟨i,H,N,C⟩
 .exact absurd Y<|C _
 .have A:i=!a:=by
   rcases kB i !a with h|h|h
   .exact absurd N<|E (cv _) ∅
   .exact h
   .exact absurd Y<|C _ h
  subst A;rw[H];congr 1
  .exact lT<|ij.mp<|by rw[strSub_toList,drop_zero,e,show (!a) - 0=(!⇑a) by lk,take_left]
  .congr 1;calc lT<|ij.mp (by rw[strSub_toList,←drop_drop,G,y,o3];calc bn ∅)
def Uv (h:cA z=true):∀c∈⇑z,c<0x110000:=λc O=>by have h:z.cps.all (· <0x110000)=true:=h;rw[<-all_toList,cp] at h;calc of_decide_eq_true<|h c O
def Xe (h:∀c∈⇑z,c<0x110000):cA z=true:=by show z.cps.all (· <0x110000)=true;rw[<-all_toList,cp];calc λc O=>a9<|h c O
def rK (h1:cA a=true)(h2:cA b=true):cA (a++b)=true:=Xe λc O=>by
 rw[show⇑(a++b)=⇑a++⇑b by rw[ei,eT]] at O;rcases bd.mp O with h|h
 .exact Uv h1 c h
 .calc Uv h2 c h
theorem jG (h1:cA s=true):∀{ws:¬Str},(∀w∈ws,cA w=true)->cA (Str.join s ws)=true
 |[],_=>Xe λ_ h=>nomatch h
 |[w],h=>h w ae
 |w::v::r,h=>rK (rK (h w ae) h1)<|jG h1 λy n=>h y<|af _ n
theorem mem_join:∀{ws:¬Str},c∈⇑(Str.join s ws)->c∈⇑s\/∃w∈ws,c∈⇑w
 |[],h=>nomatch h
 |[w],h=>.inr (w,ae,h)
 |w::v::r,h=>by
  rw[uL] at h;rcases bd.mp h with h|h
  .exact .inr (w,ae,h)
  rcases bd.mp h with h|h
  .exact .inl h
  rcases mem_join h with h|⟨y,n,h⟩
  .exact .inl h
  .calc .inr (y,af _ n,h)
def join_le (h:∀w∈ws,(!w)<=B):(!(Str.join s ws))<=(!ws)*B+(!ws)*!s:=by have:=join_length_le s ws;have:=sumLen_le ws h;lk
def JZ (h1:cA s=true)(h2:∀w∈ws,cA w=true)(J:∀w∈ws,(!w)<=B)(M:(!ws)*B+(!ws)*(!s)<=16777216):jV (.str s) (.list<|ws.map .str)=#[.str<|Str.join s ws]:=by have e:Txt.join s ws=Str.join s ws:=glued_eq_join s ws;delta jV;erw[p7];rw[e,ap (by rw[bj];calc⟨(cw not<|joinFits J M),jG h1 h2⟩)]
def uT (D:⇑s=c::t)(hk:Builtin.Str.strKind s=1)(r:ws≠[])(C:∀w∈ws,Not (c∈⇑w))(h2:∀w∈ws,cA w=true)(J:(!(Str.join s ws))<=9000)(M:(!ws)<=1000):vU tQ (.str<|Str.join s ws) (.str s)=#[.list<|ws.map .str]:=by
 let(B,G):=Zr D hk r C;have N:((!s)==0)=false:=by
  have:(!s)=!⇑s:=bS.symm
  rw[this,D];rfl
 show(if yM _ _=true then _ else _)=_;rw[ap (by delta yM;rw[B,G,N,a9 J,a9 M,cp.mpr h2];rfl),G]
def abD (D:⇑s=c::t)(G:Not (c∈⇑a))(h1:cA a=true)(h2:cA s=true)(J:cA b=true)(M:(!(a++s++b))<=9000):vU JT (.str<|a++s++b) (.str s)=#[.tuple [.str a,.str s,.str b]]:=by
 have N:((!s)==0)=false:=by
  have:(!s)=!⇑s:=bS.symm
  rw[this,D];rfl
 show(if _ then _ else _)=_;rw[ahc D G,ap (by rw[N,a9 M,h1,h2,J];rfl)]
end bV
namespace bV
open PyProof.Rows L2 VM StrLaws
inductive Tx:¬()->¬Str->Prop
 |nil:Tx [] []
 |str (h:cA z=true) (r:Tx ds ws):Tx (.str z::ds) (z::ws)
 |int (h:iQ n) (r:Tx ds ws):Tx (.int n::ds) (↥n::ws)
theorem Tx.ok (h:Tx ds ws):∀w∈ws,cA w=true:=by
 induction h with
 |nil=>simp
 |str h r A=>intro w C;rcases bq.mp C with e|e;calc e▸h;calc A w e
 |int h r A=>intro w C;rcases bq.mp C with e|e;calc e▸h.ok;calc A w e
def Xf (h1:t d S=#[S1])(h2:g S1=.nxt S2):eE t g (d::r) S=eE t g r S2:=by rw[eE,h1];k_ne;rw[h2]
end bV
namespace bV
open PyProof.Rows L2 VM
abbrev yN (j:Nat):Stmt:=inClass (top 43) j
section
variable {K:Frag}
def J0 (K:Frag)(e:B[i]? =#[#[.str y]])(q:t D B H):d8 (mG<|jm Q0 (vR i)<|tC<|.str y) t u D B H:=QC (K:=K) (λ_ r=>ak e r) (λ_ r=>r) (by rw[a9 rfl];calc q)
def GK (K:Frag)(e:B[i]? =#[#[.str x]])(h:decide (x=y)=false)(q:u D B H):d8 (mG<|jm Q0 (vR i)<|tC<|.str y) t u D B H:=QC (K:=K) (λ_ r=>ak e r) (λ_ r=>r) (by rw[h];calc q)
inductive Uw (C:Addr)(vs:¬V)(H:Hp)(Q:VK):Prop
 |mk {p dx nn ll v:Addr} {vl:¬V} {d:bR} (e:vs=[.ref p,.str d.word,.ref v]) (hp:H p=#[.ins C dx [("numbers",.ref nn),("laid",.ref ll)]]) (hv:H v=#[.lst vl]) (ev:d.vals=.str d.word::vl) (hd:d.sp C p H (λ_ H'=>Q .non H'))
theorem abE (c:Cl K C)(I:MO E K C (bW 1) 2 (Y5 C))(B:MO E K C (bW 2) 2 (RZ C))
  (L:MO E K C (bW 3) 2 (K1 C))(J:MO E K C (bW 4) 2 (Gs C))(h:GF E K 48):CO E K 48 3 (Uw C):=by
 refine BX ["hall","word","values"] h (λN H Q h=>by let(rfl,_):=h;rfl) λH nd vt hr m=>?_;let(rfl,D,M,G,A):=m;refine⟨_,aJ (bI (eU kO (pU 1) aQ) (aJ (cG (pM I (pU 0) (aj (bO jc (pU 2) aN) (aj (bO jc (pU 2) aN) (aj (bO jc (pU 2) aN) (aj (bO jc (pU 2) aN) (aj (bO jc (pU 2) aN) aG))))))))
  (aJ (bI (eU kO (pU 1) aQ) (aJ (cG (pM B (pU 0) (aj (bO jc (pU 2) aN) aG))))
  (aJ (bI (eU kO (pU 1) aQ) (aJ (cG (pM L (pU 0) (aj (bO jc (pU 2) aN) (aj (bO jc (pU 2) aN) aG)))))
  (aJ (bI (eU kO (pU 1) aQ) (aJ (cG (pM J (pU 0) (aj (bO jc (pU 2) aN) (aj (bO jc (pU 2) aN) aG))))) aX))))))),?_⟩
 have M:=aU.of (K:=K) M;cases d with
 |lay nm a b w l=>
  cases G;refine J0 K rfl ?_;delta iw iy cL d9;calc ak rfl ⟨_,_,_,rfl,D,rfl,dz rfl M rfl<|dz rfl M rfl<|dz rfl M rfl<|dz rfl M rfl<|dz rfl M rfl A⟩
 |shut nm=>
  cases G;dsimp only[bR.word];refine GK K rfl 'k'<|J0 K rfl ?_;delta iw iy cL d9;calc ak rfl ⟨_,_,_,rfl,D,rfl,dz rfl M rfl A⟩
 |widen nm k=>
  cases G;dsimp only[bR.word];refine GK K rfl 'k' (GK K rfl 'k'<|J0 K rfl ?_);delta iw iy cL d9;calc ak rfl ⟨_,_,_,rfl,D,rfl,dz rfl M rfl<|dz rfl M rfl A⟩
 |narrow nm k=>cases G;dsimp only[bR.word];refine GK K rfl 'k' (GK K rfl 'k' (GK K rfl 'k'<|J0 K rfl ?_));delta iw iy cL d9;calc ak rfl ⟨_,_,_,rfl,D,rfl,dz rfl M rfl<|dz rfl M rfl A⟩
end
end bV
namespace L2
open PyProof.Rows
section
variable {o:Obj}
def Inv.still (I:Inv X A E H s)(h:H a=#[.dK B])(D:s.heap a=#[o]):Inv X A E (upd H a<|.dR o<|.dK B) s:=by have C:fU X.prog X.w (upd H a<|.dR o<|.dK B) s.heap a (.dR o<|.dK B):=⟨D,I.hok a _ h⟩;calc I.write (by rw[h];calc eD) (.inl rfl) (λ_ _ _ e=>e) ⟨o,D⟩ C
def Inv.loose (A:Inv X B k H s)(h₀:H a=#[.dK E])(I:Inv X B J G j)(h:G a=#[.dR o<|.dK E]):Inv X B J (upd G a<|.dK E) j:=by
 have U:G a≠none:=by rw[h];simp
 have O:∀ob u,X.cQ a≠#[.dR ob u]:=λob u e=>by have:=A.base.tY a ob u e;rw[h₀] at this;cases this
 have Q:∀D,X.cQ a≠#[.tup D]:=λD e=>by have:=A.base.tups a D e;rw[h₀] at this;cases this
 have C:=I.hok a _ h;refine(I.ok,I.os,I.bare,(I.base.keep,I.base.slot,λb ob e n N=>?_,I.base.there,λb D e=>?_,λb ob u e=>?_),I.loc,I.cell,?_,λx c e=>?_,λp M=>?_,λb u e=>?_,I.len)
 .have z:=I.base.free b ob e n N;rwa [au λy=>by subst y;calc U z]
 .rw[au λy=>by subst y;calc Q D e];exact I.base.tups b D e
 .rw[au λy=>by subst y;calc O ob u e];exact I.base.tY b ob u e
 .rw[au λy=>U (by rw[<-y];calc I.free)];exact I.free
 .rw[au λy=>U (by rw[<-y];calc I.pJ x c e)];exact I.pJ x c e
 .let(T,m,Y):=I.pin p M;exact(T,by rw[au λy=>U (by rw[<-y];calc m)];calc m,Y)
 .by_cases L:b=a
  .subst L;rw[ao] at e;k_go;exact C.2
  .rw[au L] at e;refine(I.hok b u e).stay (λc v _ q=>q) (λc q=>?_) λc D q=>?_
   .rw[au λy=>by subst y;rw[h] at q;cases q];exact q
   .rw[au λy=>by subst y;rw[h] at q;cases q];calc q
end
def Iti (a:Addr)(o:Obj)(B:¬(Key×V)):It:=
  (λi H=>H a=#[.dR o (.dK B)]/\i<!B,
   λi H v E=>∃p A,B[i]? =#[A]/\H p=none/\v=.ref p/\E=upd H p (.tup [kV A.1,A.2]),
   λi H=>H a=#[.dR o (.dK B)]/\(!B)<=i)
def rN (N:jP P w H h)(e:H a=#[.dR o<|.dK B])(I:o.data=.dict D A):
  ∃vs,KV B vs/\h.DictAt (strKind P w) a vs A:=by
 let(g,_,_,vs,J,O,E,C,G,U,Y,T,L,M):=(N a _ e);rw[g] at G;cases G;rw[I] at Y;cases Y;calc(vs,J,o,D,g,U,I,T,L,M)
def Zt {K:Frag}(a C:Addr)(o:Obj)(B:¬(Key×V))(es:Array DictEntry)(n:Nat)(ho:o.data=.dict es n):
  Turn P w K (.Tuple f k pos) (Iti a o B) [C] C (λi h=>∃N E,IsItemIter h C a i (!B) n N E) where
 mem:=by simp
 obj:=λi h st b D=>by let(_,_,Q):=st;rw[aI.mp D];exact(_,Q,λv z=>by have z':Data.fields _=Data.cell v:=z;cases z')
 keep:=λi h h' st k=>by let(N,E,Q):=st;exact(N,E,k C 's' _ Q)
 item:=by
  intro X g c Y i M s σ H I O st t;subst g c Y;let(N,E,Q):=st;let(p,hi):=t;let(vs,U,G):=rN I.hok p ho;have T:=!U;have ex:B[i]? =#[B[i]]:=by simp[hi]
  obtain⟨⟨k',d⟩,e2,r1,r2⟩:∃y,vs[i]? =#[y]/\B[i].1=y.1/\RelV B[i].2 y.2:=by
   have A:∀{l:¬(Key×V)}{r:¬(Key×Value)} {j:Nat} {x:Key×V},KV l r->l[j]? =#[x]->∃y,r[j]? =#[y]/\x.1=y.1/\RelV x.2 y.2:=λ{l r}=>by
    intro j x h;induction h generalizing j with
    |nil=>intro e;k_go
    |cons h _ ih=>
     cases j with
     |zero=>intro e;k_go;calc(_,rfl,h)
     |succ j=>intro e;exact ih e
   exact A U ex
  rw[T] at Q;refine wpAny_pyNext_items_item Q G e2 λA h' hk hO hT hsz u=>?_;refine(_,rfl,wpAny_letOwnedTupleGo_items hO λh2 he2 L=>?_);have J:C< ~~~s:=b8 Q;have m:h2 (~~~s)=some {cls:=.type "tuple",data:=.seq #[A,d]}:=(L.2 _<|lj J).trans hT;have rk:RelV (kV B[i].1) A:=by rw[r1];exact K3 hk
  refine(.ref (~~~s),upd H (~~~s)<|.tup [kV B[i].1,B[i].2],?_,rfl,(_,B[i],ex,I.hok.fresh<|av _,rfl,rfl),(A,d,by rwa [T]),λb D=>?_)
  .refine I.Km (fp:=[C]) (λb ob D q=>?_) O (av _) (by show 2<=sizeLine;decide,[A,d],.cons rk<|.cons r2 .nil,(_,m,rfl,_,rfl));have h1:b≠C:=λz=>D (by simp[z]);exact(L.2 b h1).trans<|u b ob h1 q
  .rw[aI.mp D,au<|c8 J];exact(O C<|by simp).1
 done:=by intro X g c Y i M s σ H I O st t;subst g c Y;let(N,E,Q):=st;let(p,hi):=t;let(vs,U,G):=rN I.hok p ho;have T:=!U;rw[T] at Q;refine wpAny_pyNext_items_end I.ok.hd Q G (bm ∅) λh' eb=>⟨rfl,I.turns (t':=s.toks) (fp:=[C]) (λb ob D q=>eb b ob (λz=>D<|by simp[z]) q) O⟩
 self:=λ_ _ _ _ _ st h=>by let(N,E,Q):=st;calc PySem.W.kcp_self Q h
section
variable {T:Pos}
def lD (d:Addr):Obj:={cls:=.type "dict_items",data:=.fields [.ref d].toArray}
def Xg:V->¬V->Hp->VK->Prop:=λx J H Q=>match x,J with
 |.ref d,[]=>∃B,H d=#[.dK B]/\∀z,H z=none->Q (.ref z) (upd H z<|HO.ext λh=>h z=#[lD d])
 |_,_=>False
def ajw:uo X "dict.items" Xg:=by
 intro B s O H x J v M Q I L G q
 match x,J,q with
 |.ref d,[],(D,C,q)=>cases L;have A:=G.zero;subst A;let(z,hS,E,rel,N):=m8 I.hok C;refine ie na N.typeIs PySem.F.entry_dict_items (PySem.F.args_dict_items_1 _) (meets_dict_items (strKind X.prog X.w) d hS) ⟨⟨E,N⟩,?_⟩;have e:(s.heap.push<|lD d) (~~~s)=#[lD d]:=bc _ rfl;calc(.ref _,_,I.laid (o:=HO.ext λh=>h (~~~s)=#[lD d]) (λ_ _ q=>ar _ q) (av _) (e,⟨_,e⟩,λh1 h2 a b=>b _ a),rfl,q _ I.fresh)
def Ux (K:Frag)(A:TE):TI:=λC H R=>qK K "dict" Xg A C H λv J=>∃z a B E,v=.ref z/\J=upd E z (HO.ext λh=>h z=#[lD a])/\E z=none/\E a=#[.dK B]/\∀o,R (Iti a o B) (upd J a<|.dR o<|.dK B)
def Uy {d:Expr}(w:PE X d td)(A:(attributeBase d "items" X.env (eval d X.env)=eval d X.env)∣0)(D:((B.endLine==G.line)=true)∣0):
  PI X (.Tuple Q k T) (.Call (.Attribute d "items" B) [] [] G) (Ux X.K td):=by
 intro J s σ H R I h;refine aY ((Ay du na PySem.F.type_dict_items ajw w A D) J s σ H _ I h) ?_;rintro v O ⟨x,H2,N,r2,z,a,E,g,c,u,i,f,q⟩;subst c;cases r2;subst u;have C:upd g z (HO.ext λh=>h z=#[lD a]) a=#[.dK E]:=by rwa [au<|aV f i]
 let(_,hS,ws,rel,t):=m8 N.hok C;let(o,j,Y,L,l,M,m,p,r):=id t;refine wpAny_pyIter_items (_,((N.hok z _ ao).1),rfl,rfl) (o,j,L,l,M,m,p,r) ?_;refine(~~~O,[~~~O],_,_,_,rfl,(N.kept (t':=O.toks) (h':=O.heap.push {cls:=.type "dict_itemiterator",data:=.fields #[.none,.bool false,.ref a,.int 0 0,.int (!ws) 0,.int Y 0,.none,.none]}) λb ob e=>ar _ e).still C<|ar _ L,Zt a _ o E j Y M,(.none,.none,by rw[!rel];calc bc _ rfl),λb n=>?_,q o);rw[aI.mp n];have U:=N.hok.fresh<|av (~~~O);refine N.uU (av _) ?_;rw[au λy=>by rw[y,C] at U;cases U];calc U
def vY {st:Stmt}(h:PS X st t):PS X st (λD G H=>∃a B,H a=#[.dK B]/\t {D with nx:=λA E=>∃o,E a=#[.dR o<|.dK B]/\D.nx A (upd E a<|.dK B)} G H):=by
 intro C s G H D I q;let(a,B,M,q):=q;refine aY (h C s G H _ I q) λf N J=>?_;cases f with
 |next=>let(A,E,L,o,h1,h2):=J;calc(A,_,Inv.loose I M L h1,h2)
 |_=>calc J
end
end L2
namespace bV
open PyProof.Rows L2 VM
section
variable {K:Frag}
def alu (Pv:Nat->L2.St->Hp->Prop)(N:Pv 0 A H)(T:∀i A H,i<=!B->Pv i A H->H a=#[.dR o<|.dK B])
  (Y:∀i E A H p,B[i]? =#[E]->Pv i A H->H p=none->g (.ref p) A (upd H p<|.tup [kV E.1,E.2]) λG J=>r {D with nx:=Pv<|i+1} G J)(O:∀A H,Pv (!B) A H->D.nx A H):
  ux (Iti a o B) g r D A H:=by
 refine(λi m A H=>m=(!B) - i/\i<=!B/\Pv i A H,(!B,by simp,cv _,N),?_);rintro i m A H ⟨rfl,Q,p⟩;have q:=T i A H Q p;by_cases C:i<!B
 .refine .inr (⟨q,C⟩,Pv<|i+1,λt I k=>((!B) - (i+1),by lk,rfl,C,k),λx I y=>?_);let(l,E,j,U,L,M):=y;subst L M;exact Y i E A _ l j p U
 .have e:i=!B:=by lk
  subst e;calc .inl ⟨⟨q,av _⟩,O A H p⟩
def ajx (H:Hp)(v:V)(r:Row):Prop:=∃t,v=.ref t/\H t=#[.tup<|K4 r]
def LR (seen:¬Str)(x:Str×Q4)(r:Row):Prop:=x.1=r.1/\cP (seen.map V.str) x.2.1=#[.str r.2.1]/\cP (seen.map V.str) x.2.2.1=#[.str r.2.2.1]/\x.2.2.2.1=r.2.2.2.1/\x.2.2.2.2=r.2.2.2.2
def Uz (C:Addr):Sp:=λL H Q=>∃p D J G B x A,L=[.ref p]/\aW H C p D J G B x/\(!x)<100/\Paired (LR<|seenOf B) x A/\
 ∀E q I,Same H E->H q=none->E q=#[.lst I]->Paired (ajx E) I A->Q (.ref q) E
def ahd (c:Cl K C)(M7:MO E K C (bW 7) 1 (yx C))(h:MF E K C (bW 8)):MO E K C (bW 8) 2 (Uz C):=by
 refine tD ["self","rooms","told","name","passage"] h (λvs H Q h=>by let(_,_,_,_,_,_,_,rfl,_):=h;rfl) λH nd vt hr nY=>?_;let(p,dx,nn,j,J,ls,L,rfl,hh,hn,hR,hq):=nY;refine(_,aq (pS 1 (pM0 M7 (pU 0)))
  (aq (pS 2 (jX aG))
  (aq (vY (jx (Uy (c7 (pU 0) rfl)) (m6 (bM (pG 3) (bM (pG 4) jZ)))
   (aJ (cG (Dm (pU 2) (aj (iY (aj (pU 3) (aj (bO jc (pU 1) (bO lG (pU 4) aN)) (aj (bO jc (pU 1) (bO lG (pU 4) aN)) (aj (bO lG (pU 4) aN) (aj (bO lG (pU 4) aN) aG)))))) aG))))))
  (aJ (aZ (pU 2))))),?_)
 let(I,Y,hl):=hh.laid;have hkl:=!hl;have hrl:=!hR;delta iW jq iy d9 cg Q5;refine ak rfl (p,dx,_,rfl,hh.ins,rfl,p,dx,nn,j,J,ls,rfl,hh,λrz s=>?_);k_ne;refine⟨cv _,λU T=>?_⟩;have s1:=aH (o:=.lst<|(seenOf J).map V.str) s;have B:=s1.trans<|aH (o:=.lst []) T;have l:=s1.free T;have g:rz≠U:=λz=>by subst z;rw[ao] at T;cases T
 have G:=aV Y l;refine(j,I,B _ _ Y,?_);rw[qM];delta Ux qK;refine dw rfl (B _ _ hh.ins) c.cl c.n2 rfl (.inr<|.inr (rfl,I,B _ _ Y),I,B _ _ Y,λz d=>?_);refine(z,j,I,_,rfl,rfl,d,B _ _ Y,λo=>?_);have hzt:U≠z:=λy=>by subst y;rw[ao] at d;cases d
 have hzr:rz≠z:=λy=>by subst y;rw[au g,ao] at d;cases d
 refine alu (λi q M=>(∃x y,q=[#[.ref p],#[.ref rz],#[.ref U],x,y])/\M j=#[.dR o<|.dK I]/\M rz=#[.lst<|(seenOf J).map V.str]/\(∃k,M U=#[.lst k]/\(!k)=i/\Paired (ajx M) k (L.take i))/\∀b ob,b≠j->H b=#[ob]->M b=#[ob])
  ((_,_,rfl),ao,by rw[au (aV Y s).symm,au hzr,au g,ao],([],by rw[au G.symm,au hzt,ao],rfl,.nil),λb ob O e=>by rw[au O];calc(aH (o:=HO.ext λh=>h z=#[lD j]) d) _ _<|B _ _ e) (λ_ _ _ _ h=>h.2.1) ?_ ?_
 .rintro i kv q M p' n ⟨⟨x,y,rfl⟩,i1,i2,⟨k,i3,i4,i5⟩,i6⟩ hp';let(x1,e1,e2):=Paired.get hl n;let(r,e3,e4):=Paired.get hR e1;let(D,t,hv,ht):=e2;let(l1,l2,l3,l4,l5):=e4;have hi:=(ah.mp n).1;rw[l1] at D;have htl:t≠j:=λz=>by subst z;rw[Y] at ht;cases ht
  have m:=i6 _ _ htl ht;have N:=aH (o:=.tup [kV kv.1,kv.2]) hp';refine(_,cF.of ao,rfl,?_);rw[D,hv];show iw (pN K "list" wu (vR 2) _) _ [#[.ref p],#[.ref rz],#[.ref U],#[.str r.1],#[.ref t]] _;rw[D,hv] at N;delta iw pN;refine ak rfl ⟨.inl (rfl,_,aU.of (N _ _ i3)),?_⟩;delta cL qI;refine ak rfl (aaT rfl (N _ _ i2) (λR r=>wJ rfl (N _ _ m) rfl r) l2 (aaT rfl (N _ _ i2) (λR r=>wJ rfl (N _ _ m) rfl r) l3 (wJ rfl (N _ _ m) rfl (wJ rfl (N _ _ m) rfl ⟨by show 5<=sizeLine;decide,λt' ht2=>?_⟩))));rw[l4,l5];have s5:=aH (o:=.tup<|K4 r) ht2;refine(k,s5 _ _<|N _ _ i3,bw ∅,?_);have A:=N.trans s5;have w:∀b ob,b≠U->upd (upd M p'<|.tup [kV r.1,V.ref t]) t' (.tup<|K4 r) b=#[ob]->upd (upd (upd M p'<|.tup [kV r.1,V.ref t]) t'<|.tup<|K4 r) U (.lst<|k++[.ref t']) b=#[ob]:=λb ob O e=>by rwa [au O]
  have a:∀b xs,upd (upd M p'<|.tup [kV r.1,V.ref t]) t' (.tup<|K4 r) b=#[.tup xs]->b≠U:=λb xs e z=>by subst z;rw[A _ _ i3] at e;k_go
  refine((_,_,rfl),w _ _ G<|A _ _ i1,w _ _ g<|A _ _ i2,(_,ao,by rw[aE,i4];rfl,?_),λb ob O e=>w _ _ (λz=>by subst z;rw[l] at e;k_go) (A _ _<|i6 _ _ O e));have etk:L.take (i+1)=L.take i++[r]:=by rw[o0,e3];rfl
  rw[etk];refine Paired.snoc (i5.mono λv r' h=>?_) (t',rfl,w _ _ (a _ _ ao) ao);let(u,eu,f):=h;exact(u,eu,w _ _ (a _ _<|A _ _ f)<|A _ _ f)
 .rintro q M ⟨⟨x,y,rfl⟩,i1,i2,⟨k,i3,i4,i5⟩,i6⟩;refine⟨o,i1,?_⟩;refine ak rfl ?_;refine hq _ U k (λb ob e=>?_) l (by rwa [au G.symm]) ?_
  .by_cases O:b=j
   .subst O;rw[Y] at e;k_go;exact ao
   .rw[au O];exact i6 _ _ O e
  .rw[bn ∅] at i5;refine i5.mono λv r' h=>?_;obtain⟨u,eu,f⟩:=h;calc⟨u,eu,by rw[au λz=>by subst z;rw[i1] at f;cases f];calc f⟩
end
section
variable {E:En}{K:Frag}{C CD:Addr}{σ:L2.St}{H:Hp}{D:Ends}{i:Nat}{x y:Str}{t u:TS}
def vZ (K:Frag)(e:σ[i]? =#[#[.str y]])(q:∀o,t {D with nx:=o} σ H):iW (d8 (mG<|jm Q0 (vR i)<|tC<|.str y) t m5) u D σ H:=J0 K e<|q _
def alv (K:Frag)(e:σ[i]? =#[#[.str x]])(h:decide (x=y)=false)(q:u D σ H):iW (d8 (mG<|jm Q0 (vR i)<|tC<|.str y) t m5) u D σ H:=GK K e h q
def ajy (K:Frag)(Q:VK)(v:V)(H:Hp):Prop:=∃t W r,v=.ref t/\cF K H t (.int W::r)/\W.natAbs.log2<1920/\Q (.str<|toString W) H
def lE (x:Str×Int):Str:=x.1++(": "++(toString x.2++Str.empty))
inductive nq (K:Frag)(C p:Addr)(H:Hp)(Q:VK):Str->¬V->Prop
 |deed (d:bR) (e:d.vals=.str d.word::vl) (h:d.sp C p H (λ_ H'=>Q (.str "ok") H')):nq K C p H Q d.word vl
 |out (h:wO K C [.ref p,v] H (ajy K Q)):nq K C p H Q "out" [v]
 |walks (h:wO K C [.ref p,v] H (λv H1=>∃a d r z,Has K H1 (.tuple (a::d::r)) v/\mX [d]=#[(false,.str z)]/\∀H2,Same H1 H2->Q (.str z) H2)):nq K C p H Q "walks" [v]
 |yK (h:wO K C [.ref p,v] H (λv H1=>∃a b,∃rs:¬(Str×Int),Has K H1 (.tuple [a,b,.list<|rs.map mW]) v/\(∀x∈rs,(!x.1)<=100/\x.2.natAbs.log2<1920/\cA (lE x)=true)/\(!rs)<1000/\JoinOk "; " (rs.map lE)=true/\∀H2,Same H1 H2->Q (.str<|Txt.join "; " (rs.map lE)) H2)):nq K C p H Q "moments" [v]
 |turns (h:uR K C [.ref p,v] H (λv H1=>v=.non/\Q (.str "never") H1\/ajy K Q v H1)):nq K C p H Q "turns" [v]
 |worth (h:Lk K C [.ref p,b,v] H (λv H1=>∃n:Int,v=.int n/\n.natAbs.log2<1920/\Q (.str<|toString n) H1)):nq K C p H Q "worth" [b,v]
 |rooms (h:yx C [.ref p] H (λv H1=>∃z ys,v=.ref z/\aU K H1 z (ys.map V.str)/\JoinOk " " ys=true/\Q (.str<|Txt.join " " ys) H1)):nq K C p H Q "rooms" []
 |passages (h:Uz C [.ref p] H (λv H1=>∃d z,Has K H1 d v/\jF [d]=#[(false,.str z)]/\∀H2,Same H1 H2->Q (.str z) H2)):nq K C p H Q "passages" []
inductive afF (K:Frag)(C:Addr)(vs:¬V)(H:Hp)(Q:VK):Prop
 |mk {p dx nn ll v:Addr} {vl:¬V} {wd:Str} (e:vs=[.ref p,.str wd,.ref v]) (hp:H p=#[.ins C dx [("numbers",.ref nn),("laid",.ref ll)]]) (hv:H v=#[.lst vl]) (h:nq K C p H Q wd vl)
def alw:Stmt->Scope
 |.If _ [.Return (#[.Call _ [.ListComp _ _ A _] _ _]) _] _ _=>A
 |_=>aP<|top 47
def lcO (h:te σ H λx B=>∃a,x=.ref a/\(∃xs,aU K B a xs)/\Gb (G6 K a) cap g tc A σ B Q):sX (uw K te) cap g tc A σ H Q:=h
def GP (h:wO K C vs H Q)(m:∀v A,Q v A->M v A):wO K C vs H M:=by let(p,N,o,g,B,l,T,W,b,L,e,U,Y,em,J,I,G,O,k,j):=h;calc(p,N,o,g,B,l,T,W,b,L,e,U,Y,em,J,I,G,O,k,λv A s q=>m _ _<|j v A s q)
def Zu (h:uR K C vs H Q)(m:∀v A,Q v A->J v A):uR K C vs H J:=by
 let(p,L,z,l,B,o,n,d,e,j,k,em,Y,g):=h;refine(p,L,z,l,B,o,n,d,e,j,k,em,Y,?_);rcases g with⟨e,q⟩|⟨T,G,I,M,N,O,U,q⟩
 .exact .inl ⟨e,λA s=>m _ _<|q A s⟩
 .calc .inr ⟨T,G,I,M,N,O,U,λA t r s b=>m _ _<|q A t r s b⟩
def bR.asks (d:bR):(["out","walks","moments","turns","worth","rooms","passages"]:¬Str).all (λy=>not (decide (d.word=y)))=true:=by cases d<;>kernel_rfl
def ahe (h1:(!r)<=100)(h2:A.natAbs.log2<1920)(J:cA (lE (r,A))=true):ug (aC (vN 0)<|aC (vC<|.str ": ")<|aC (vN 1) a0) [#[(.fr,.str r)],#[(.fr,.int A)]]=#[.str<|lE (r,A)]:=by
 have e:nJ [.str r,.str ": ",.int A]=#[lE (r,A)]:=by erw[nJ,vX,ap h2,ap<|show (!r)<=9000 by lk,ap<|show (!(Str.ofString ": "))<=9000 by decide +kernel];rfl
 show(match nJ [.str r,.str ": ",.int A] with|some z=>if cA z=true then #[PyData.str z] else none|none=>none)=_;rw[e];calc ap J
def ajz (B:Bl E.mg)(c:Cl K C)(Mo:MO E K C (bW 9) 7 (wO K C))(Mt:MO E K C (bW 10) 6 (uR K C))(Mw:MO E K C (bW 11) 7 (Lk K C))
  (Mr:MO E K C (bW 7) 1 (yx C))(Ctw:CV E K 49 1 mX)(Cch:CO E K 48 3 (Uw C))(Mp:MO E K C (bW 8) 2 (Uz C))(Ctp:CV E K 50 1 jF)(h:GF E K 47):CO E K 47 8 (afF K C):=by
 have vc:=(show(["room","moment"]:¬Str).all (λx=>Ge (alw ((dU (top 47)).getD 2 (.Pass ⟨0,0,0,0⟩))) x && plain x)=true by decide +kernel);refine BX ["hall","word","values","fewest"] h (λvs H Q h=>by let(rfl,_):=h;rfl) λH nd vt hr nY=>?_;let(rfl,J,I,h):=nY;refine⟨_,aq (bI (eU kO (pU 1) aQ) (aJ (aZ (bF cStr gx B.str boot_str (aj (bO lG (pM Mo (pU 0) (aj (bO jc (pU 2) aN) aG)) aN) aG)))) aX)
  (aq (bI (eU kO (pU 1) aQ) (aJ (aZ (pC Ctw (aj (bO lG (pM Mo (pU 0) (aj (bO jc (pU 2) aN) aG)) aN) aG)))) aX)
  (aq (bI (eU kO (pU 1) aQ) (aJ (aZ (oF cf dn dm rH aQ (aj (Dl (g:=za K 2 (gV (cg 0) (gV (cg 1) uz))) (te:=tV K RS (ug (aC (vN 0) (aC (vC (.str ": ")) (aC (vN 1) a0))))) (cap:=[none,none]) ["hall","word","values","fewest"] (aP (top 47)) 'k' rfl rfl (jW (bO lG (pM Mo (pU 0) (aj (bO jc (pU 2) aN) aG)) aN))
   (λ_ _ _ _ _=>m6 (bM (qC 'k' 'k') (bM (qC 'k' 'k') jZ))) (λ_ _ _ _ _=>lU) (λ_ _ _ _ _=>aiL (pfC (mw (dN (lF vc 0))) (pfL (pfC (mw (dN (lF vc 1))) pf0))))) aG)))) aX)
  (aq (bI (eU kO (pU 1) aQ) (aq (pS 3 (pM Mt (pU 0) (aj (bO jc (pU 2) aN) aG))) (aJ (aZ (QX (sO (QS (pU 3))) aQ (bF cStr gx B.str boot_str (aj (bO lG (pU 3) aN) aG)))))) aX)
  (aq (bI (eU kO (pU 1) aQ) (aJ (aZ (bF cStr gx B.str boot_str (aj (pM Mw (pU 0) (aj (bO jc (pU 2) aN) (aj (bO jc (pU 2) aN) aG))) aG)))) aX)
  (aq (bI (eU kO (pU 1) aQ) (aJ (aZ (oF cf dn dm rH aQ (aj (pM0 Mr (pU 0)) aG)))) aX)
  (aq (bI (eU kO (pU 1) aQ) (aJ (aZ (pC Ctp (aj (pM0 Mp (pU 0)) aG)))) aX)
  (aq (cG (pC Cch (aj (pU 0) (aj (pU 1) (aj (pU 2) aG)))))
  (aJ (aZ aQ))))))))),?_⟩
 have hv0:=I;have I:=aU.of (K:=K) I;have A:∀{x y:Str}{t u:TS} {D:Ends} {σ:L2.St},σ[1]? =#[#[.str x]]->u D σ H->decide (x=y)=false->iW (d8 (mG<|jm Q0 (vR 1)<|tC<|.str y) t m5) u D σ H:=λe q h=>alv K e h q;cases h with
 |deed d e h=>have nw:=d.asks;erw[all_cons,List.all_nil,Bool.and_true,bj,lL] at nw;let(n1,n2,n3,n4,n5,n6,n7):=nw;refine A rfl (A rfl (A rfl (A rfl (A rfl (A rfl (A rfl ?_ n7) n6) n5) n4) n3) n2) n1;calc ajq<|JR<|callC<|ak rfl<|aM<|ak rfl<|aM<|ak rfl ⟨rfl,J,hv0,e,h⟩
 |out h=>
  refine vZ K rfl λ_=>ji<|cbO<|aM<|cC<|jU rfl J rfl<|aM<|dz rfl I rfl<|GP h λv w q=>?_;let(t,W,r,rfl,U,N,q):=q;calc cO ⟨_,_,U,pY _ _,W,rfl,N,q⟩
 |walks h=>
  refine A rfl (vZ K rfl λ_=>ji<|callC<|cC<|jU rfl J rfl<|aM<|dz rfl I rfl<|GP h λv w q=>?_) 'k';let(a,d,r,z,(t,_,rfl,U,_,_,rfl,_,_,_,rfl,hd,_),e,q):=q;refine cO ⟨_,_,U,Iv _ _ _,w,[d],Same.refl _,⟨_,_,rfl,hd,rfl⟩,_,_,e,λv F' O g hr=>?_⟩;let(rfl,_):=hr;calc q _ g.hh
 |yK h=>
  refine A rfl (A rfl (vZ K rfl λ_=>ji ⟨rfl,aM<|lcO<|cC<|jU rfl J rfl<|aM<|dz rfl I rfl<|GP h λv w q=>?_⟩)<|'k') 'k';let(_,_,rs,(t,_,rfl,U,_,_,rfl,_,_,_,rfl,_,_,_,rfl,⟨M,xs,rfl,hM,W6⟩,e0),hm,hn,hj,q):=q;cases(show _=[] from e0);refine cO ⟨_,_,U,Iw _ _ _ _,M,rfl,⟨_,hM⟩,lcH mW (PyData.str ∘ lE) hM W6 hn (λ_ _ _ r=>r) (λD x v O R Kt hx sm _ I hR hK=>?_) λv H2 sm I=>?_⟩
  .let(tt,_,rfl,htt,_,_,rfl,⟨rfl,h3⟩,_,_,rfl,h4,e0):=I;cases(show _=[] from e0);cases(show _=V.int _ from h4);let(h1,h2,h5):=hm x hx;refine⟨_,htt,rfl,hK _ _ (dD.skip<|dD.skip dD.nil)<|VM.Jx (qF.at (m:=2) (L:=[(0,.str x.1),(1,.int x.2)]) (.c rfl ⟨rfl,h3⟩<|.c rfl rfl .n) rfl) (ahe h1 h2 h5) λv pq s I=>?_⟩;let(rfl,h6):=I;exact hR _ _ s ⟨rfl,h6⟩
  .let(D,ys,rfl,hD,hy):=I;rw[<-ce] at hy;cases yp hy;calc⟨_,_,_,rfl,rfl,hD,hj,q _ sm⟩
 |turns h=>
  refine A rfl (A rfl (A rfl (vZ K rfl λ_=>ajq<|fG<|jU rfl J rfl<|aM<|dz rfl I rfl<|Zu h λv w q=>?_)<|'k')<|'k') 'k';delta cg;k_ne;refine ji ?_;delta tIf tB Xw;refine ak rfl ?_;rcases q with⟨rfl,q⟩|⟨t,W,r,rfl,U,N,q⟩
  .exact⟨true,rfl,q⟩
  .calc⟨false,rfl,cbO<|aM<|vD rfl U (pY _ _) ⟨W,rfl,N,q⟩⟩
 |worth h=>
  let(p,Y,b,l,G,o,nm,q,T,W,W',r,r',e,j,hg,N,e1,e2,k):=h;k_go;refine A rfl (A rfl (A rfl (A rfl (vZ K rfl λ_=>ji<|cbO<|aM<|jU rfl J rfl<|aM<|dz rfl I rfl<|aM<|dz rfl I rfl ⟨p,Y,b,l,G,o,nm,q,T,W,W',r,r',rfl,j,hg,N,e1,e2,λO s=>?_⟩)<|'k')<|'k')<|'k') 'k';let(n,e,N,q):=k O s;k_go;calc⟨_,rfl,N,q⟩
 |rooms h=>
  let(p,Y,b,l,G,o,e,j,k):=h;k_go;refine A rfl (A rfl (A rfl (A rfl (A rfl (vZ K rfl λ_=>ji ⟨rfl,aM<|jU rfl J rfl ⟨p,Y,b,l,G,o,rfl,j,λz hz=>?_⟩⟩)<|'k')<|'k')<|'k')<|'k') 'k';let(z',ys,e,hs,hj,q):=k z hz;k_go;calc⟨_,_,ys,rfl,rfl,hs,hj,q⟩
 |passages h=>let(p,Y,b,l,G,o,f,e,j,N,hR,k):=h;k_go;refine A rfl (A rfl (A rfl (A rfl (A rfl (A rfl (vZ K rfl λ_=>ji<|callC<|jU rfl J rfl ⟨p,Y,b,l,G,o,f,rfl,j,N,hR,λO q ts s h1 h2 h3=>?_⟩)<|'k')<|'k')<|'k')<|'k')<|'k') 'k';let(d,z,hd,e,q'):=k O q ts s h1 h2 h3;refine⟨O,[d],Same.refl _,⟨_,_,rfl,hd,rfl⟩,_,_,e,λv F' pq g hr=>?_⟩;let(rfl,_):=hr;calc q' _ g.hh
end
section
variable {K:Frag}
abbrev ig (H:Hp)(A p E:Addr)(h:V):Prop:=H p=#[.ins A E [("hall",h)]]
inductive Lx (CD:Addr)(vs:¬V)(H:Hp)(Q:VK):Prop
 |mk {x dx:Addr} (e:vs=[.ref x]) (h:H x=#[.ins CD dx []]) (q:Q .non (upd H x<|.ins CD dx [("hall",.non)]))
def aep (c:Cls K A)(n:mC K A "hall")(h:MF E K A (yN 0)):MO E K A (yN 0) 1 (Lx A):=by refine tD ["self"] h (λJ H Q h=>by let(rfl,_):=h;rfl) λH nd vt hr m=>?_;let(rfl,B,T):=m;refine⟨_,aJ<|Hr (pU 0) nO rfl,?_⟩;delta acC tC;calc ak rfl ⟨_,A,_,[],rfl,B,c,n,by decide,T⟩
inductive QK (K:Frag)(CD C:Addr)(x dx:Addr)(hv:V)(H:Hp)(Q:VK):Str->¬()->Prop
 |hall {a b:Str} (n1:iH a) (n2:iH b) (hab:a≠b) (q:∀p dx' nn ll H',aW H' C p dx' nn ll [(a,0),(b,1)] []->Same H H'->H nn=none->H ll=none->Q (.str "ok") (upd H' x<|.ins CD dx [("hall",.ref p)])):QK K CD C x dx hv H Q "hall" [.str a,.str b]
 |ask {p dx' nn ll:Addr} {wd:Str} {ds:¬()} (n:decide (wd="hall")=false) (e:hv=.ref p) (hp:H p=#[.ins C dx' [("numbers",.ref nn),("laid",.ref ll)]]) (h:∀H1 vl,Same H H1->aK K H1 ds vl->nq K C p H1 Q wd vl):QK K CD C x dx hv H Q wd ds
inductive dZ (K:Frag)(CD C:Addr)(vs:¬V)(H:Hp)(Q:VK):Prop
 |mk {x dx:Addr} {hv:V} {line wd:Str} {r:¬Str} {ds:¬()} (e:vs=[.ref x,.str line]) (hd:ig H CD x dx hv) (hl:(PyData.str line).canLay0=true) (es:tQ (.str line) (.str " ")=#[.list<|(wd::r).map .str]) (ev:oE [.list<|(wd::r).map .str]=#[(true,.list ds)]) (h:QK K CD C x dx hv H Q wd ds)
def ajA (B:Bl E.mg)(c:Cls K CD)(n:mC K CD "hall")(M:Mk K C s)(o:jK E.P E.w K E.mg E.base 2 s I ["self","start","goal"] (Sx C))(y:Binds I ["self","start","goal"])(hC:E.mg "NamedHall"=#[.ref C])
  (l:CV E K 44 3 oE)(k:CO E K 47 8 (afF K C))(h:MF E K CD (yN 1)):MO E K CD (yN 1) 9 (dZ K CD C):=by
 refine tD ["self","line","words","values"] h (λvs H Q h=>by let(rfl,_):=h;rfl) λH nd vt hr T=>?_;let(rfl,hd,hl,es,ev,h):=T;refine⟨_,aq (pS 2 (Fo df de mO vq (mw (dN (pU 1))) (sw (oR 'k'))))
  (aq (pS 3 (pC l (aj (pU 2) aG)))
  (aq (bI (eU kO (bO jc (pU 2) aN) aQ) (aq (Hr (pU 0) (agk M o (hr.mono ⋯) gx hC y (aj (bO jc (pU 3) aN) (aj (bO jc (pU 3) aN) aG))) rfl) (aJ (aZ aQ))) aX)
  (aq (bI (sO (QS (c7 (pU 0) rfl))) (aJ kJ) aX)
  (aJ (aZ (pC k (aj (c7 (pU 0) rfl) (aj (bO jc (pU 2) aN) (aj (pU 3) aG))))))))),?_⟩
 w_left;refine VM.SJ (qF.at (m:=4) (L:=[(1,.str line)]) (.c rfl ⟨rfl,hl⟩ .n) rfl) es λa xs H1 s1 hn U Y=>?_;have ex:=wQ Y;subst ex
 w_left;delta jq cg jy cL d9;refine ak rfl ⟨H1,[.list<|(wd::r).map .str],Same.refl _,⟨_,_,rfl,⟨a,_,rfl,aU.of U,Y⟩,rfl⟩,_,_,ev,λv F' H2 g hr=>?_⟩;let(b,x,vl,G,rfl,f1,_,J,w):=hr;cases G;have s2:=s1.trans g.hh;have A:=aK.same g.fh w;have D:=aU.of (K:=K)<|g.hh _ _ U
 w_left;refine QC (K:=K) (λR r=>dz rfl D (pY _ _) r) (λR r=>r) ?_;cases h with
 |hall n1 n2 hab q=>
  rw[a9 rfl,ap rfl];let(_,_,G,⟨rfl,_⟩,_,_,d,⟨rfl,_⟩,f):=A;subst f d G;have J:=aU.of (K:=K) J;delta iW acC;refine ag5 (λZ z=>?_) n1 n2 hab λp dx' nn ll t hall j O N=>?_
  .exact dz rfl J rfl<|dz rfl J rfl<|z _<|Same.refl _
  refine ak rfl ⟨_,CD,_,_,rfl,j _ _<|s2 _ _ hd,c,n,show 1<1000 by decide,?_⟩;have q:=q p dx' nn ll t hall (s2.trans j) (s2.free O)<|s2.free N;calc q
 |ask nn e hp h=>
  rw[nn,aw<|by simp];delta m5
  w_left;delta d8 tB Xw;refine dw rfl (s2 _ _ hd) c n rfl ⟨_,rfl,?_⟩;subst e;rw[aw<|by simp];delta m5
  (subst hu;try k_ne)
  delta uc jy cL d9;calc dw rfl (s2 _ _ hd) c n rfl<|dz rfl D (pY _ _)<|ak rfl ⟨rfl,s2 _ _ hp,J,h _ _ s2 A⟩
end
open StrLaws
structure fQ (z:Str):Prop where
 ne:z≠""
 fr:Not (32∈⇑z)
 ln:(!z)<=500
 ok:cA z=true
def iQ.nA (h:iQ n):fQ ↥n:=⟨λe=>h.ne (by rw[e];rfl),λz=>absurd (h.ds 32 z).1<|by decide,h.len,h.ok⟩
def J1:⇑(" ":Str)=32::[]:='k'
def Ly:Builtin.Str.strKind " "=1:='k'
def wW:cA " "=true:='k'
def tR {K:Frag}(J:iM l lN=#[.tuple<|k.map .str])(B:∀w∈l::as,fQ w)(N:(!as)<=10)(D:wV k as ds)(I:ig H E x G M)(h:QK K E C x G M H Q l ds):dZ K E C [.ref x,.str<|Str.join " " (l::as)] H Q:=by
 have y:∀w∈l::as,cA w=true:=λw A=>(B w A).ok;have Y:(!(Str.join " " (l::as)))<=9000:=by
  have:=join_le (s:=" ") λw A=>(B w A).ln;have e:(!(" ":Str))=1:='k'
  rw[e,a8] at this;lk
 calc .mk rfl I (jG wW y) (uT J1 Ly 's' (λw A=>(B w A).fr) y Y (by rw[a8];lk)) (aeo J (λw A=>(B w A).ne) ∅ D) h
def bR.args:bR->¬Str
 |.lay nm a b w l=>[nm,a,b,↥w,↥l]
 |.shut nm=>[nm]
 |.widen nm k=>[nm,↥k]
 |.narrow nm k=>[nm,↥k]
def cT (n:Int):Prop:=0<=n/\n<10^60
def cT.z (h:cT n):iQ n:=sJ h.1<|fe h.2<|'k'
def bR.fits:bR->Prop
 |.lay nm a b w l=>fQ nm/\fQ a/\fQ b/\cT w/\cT l
 |.shut nm=>fQ nm
 |.widen nm k=>fQ nm/\cT k
 |.narrow nm k=>fQ nm/\cT k
def QL (h:cT n):cZ [.str "number",.str<|↥n]=#[(false,.int n)]:=xM h.z h.1 h.2 'k'<|.inl<|'k'
def Ei (h:cT n):cZ [.str "turns",.str<|↥n]=#[(false,.int n)]:=xM h.z h.1 h.2 'k'<|.inr (0,by rfl,h.1)
def aer (h:cT n)(h1:1<=n):cZ [.str "people",.str<|↥n]=#[(false,.int n)]:=xM h.z h.1 h.2 'k'<|.inr (1,by rfl,h1)
def afG:fQ "lay"/\fQ "shut"/\fQ "widen"/\fQ "narrow"/\fQ "hall":=by refine((?_,?_,?_,?_),(?_,?_,?_,?_),(?_,?_,?_,?_),(?_,?_,?_,?_),(?_,?_,?_,?_))<;>decide +kernel
def wX:fQ "out"/\fQ "walks"/\fQ "moments"/\fQ "turns"/\fQ "worth"/\fQ "rooms"/\fQ "passages":=by refine((?_,?_,?_,?_),(?_,?_,?_,?_),(?_,?_,?_,?_),(?_,?_,?_,?_),(?_,?_,?_,?_),(?_,?_,?_,?_),(?_,?_,?_,?_))<;>decide +kernel
def bR.ws (d:bR):¬Str:=d.word::d.args
def bR.ajB {d:bR}(h:d.fits):∀w∈d.word::d.args,fQ w:=by
 have(B,C,Y,j,_):=afG;cases d with
 |lay nm a b w l=>have(b1,b2,J,A,D):=h;erw[bR.word,bR.args,eI];calc(B,b1,b2,J,A.z.nA,D.z.nA,by simp)
 |shut nm=>erw[bR.word,bR.args,eI];calc(C,h,by simp)
 |widen nm k=>erw[bR.word,bR.args,eI];calc(Y,h.1,h.2.z.nA,by simp)
 |narrow nm k=>erw[bR.word,bR.args,eI];calc(j,h.1,h.2.z.nA,by simp)
def aes {K:Frag}{d:bR}(h:d.fits)(D:ig H O x z (.ref p))(I:H p=#[.ins C j [("numbers",.ref f),("laid",.ref c)]])(q:∀E,Same H E->d.sp C p E (λ_ T=>Q (.str "ok") T)):dZ K O C [.ref x,.str<|Str.join " " (d.word::d.args)] H Q:=by
 have J:=bR.ajB h;cases d with
 |lay nm a b w l=>
  have(b1,b2,y,U,Y):=h;refine tR (by rfl) J (by simp[bR.args]) (.cons gk<|.cons gk<|.cons gk<|.cons (QL U)<|.cons (QL Y) .nil) D (.ask (show decide (("lay":Str)="hall")=false by decide +kernel) rfl I λE N s M=>?_);let(_,_,B,(A,_),_,_,G,(m,_),_,_,g,(t,_),_,_,o,u,_,_,r,v,L):=M;subst L r o g G B;cases A;cases m;cases t;cases u;cases v;calc .deed (.lay nm a b w l) rfl<|q E s
 |shut nm=>
  refine tR (by rfl) J (by simp[bR.args]) (.cons gk .nil) D (.ask (show decide (("shut":Str)="hall")=false by decide +kernel) rfl I λE N s M=>?_);let(_,_,B,(A,_),L):=M;subst L B;cases A;calc .deed (.shut nm) rfl<|q E s
 |widen nm k=>
  refine tR (by rfl) J (by simp[bR.args]) (.cons gk<|.cons (QL h.2) .nil) D (.ask (show decide (("widen":Str)="hall")=false by decide +kernel) rfl I λE N s M=>?_);let(_,_,B,(A,_),_,_,G,m,L):=M;subst L G B;cases A;cases m;calc .deed (.widen nm k) rfl<|q E s
 |narrow nm k=>refine tR (by rfl) J (by simp[bR.args]) (.cons gk<|.cons (QL h.2) .nil) D (.ask (show decide (("narrow":Str)="hall")=false by decide +kernel) rfl I λE N s M=>?_);let(_,_,B,(A,_),_,_,G,m,L):=M;subst L G B;cases A;cases m;calc .deed (.narrow nm k) rfl<|q E s
section
variable {K:Frag}
def Ej (D:iM l lN=#[.tuple [.str f]])(h1:fQ l)(I:decide (l="hall")=false)(N:iQ n)(M:cZ [.str f,.str<|↥n]=#[(false,.int n)])(G:ig H A x U (.ref p))(J:H p=#[.ins C T [("numbers",.ref j),("laid",.ref Y)]])(q:∀E,Same H E->nq K C p E Q l [.int n]):dZ K A C [.ref x,.str<|l++" "++↥n] H Q:=by refine tR D (by erw[eI];calc(h1,N.nA,by simp)) 's' (.cons M .nil) G (.ask I rfl J λE k s M=>?_);let(_,_,B,O,L):=M;subst L B;cases O;calc q E s
def UG (B:iM l lN=#[.tuple []])(h1:fQ l)(D:decide (l="hall")=false)(G:ig H A x J (.ref p))(I:H p=#[.ins C T [("numbers",.ref N),("laid",.ref L)]])(q:∀E,Same H E->nq K C p E Q l []):dZ K A C [.ref x,.str l] H Q:=by refine tR B ‹h1› 's' .nil G (.ask D rfl I λE O s M=>?_);cases M;calc q E s
def abG {nm:Str}(h1:fQ nm)(A:cT n)(I:ig H B x O (.ref p))(J:H p=#[.ins C T [("numbers",.ref Y),("laid",.ref U)]])(q:∀E,Same H E->nq K C p E Q "worth" [.str nm,.int n]):dZ K B C [.ref x,.str<|"worth"++" "++(nm++" "++↥n)] H Q:=by refine tR (by rfl) (by erw[eI];calc(wX.2.2.2.2.1,h1,A.z.nA,by simp)) 's' (.cons gk<|.cons (Ei A) .nil) I (.ask 'k' rfl J λE j s M=>?_);let(_,_,D,(N,_),_,_,G,m,L):=M;subst L G D;cases N;cases m;calc q E s
def aeu (h1:fQ a)(h2:fQ b)(J:iH a)(Y:iH b)(r:a≠b)(I:ig H A x B M)(q:∀p T G D E,aW E C p T G D [(a,0),(b,1)] []->Same H E->H G=none->H D=none->Q (.str "ok") (upd E x<|.ins A B [("hall",.ref p)])):dZ K A C [.ref x,.str<|"hall"++" "++(a++" "++b)] H Q:=
 tR (by rfl) (by erw[eI];calc(afG.2.2.2.2,h1,h2,by simp)) 's' (.cons gk<|.cons gk .nil) I (.hall J Y r q)
end
def J2 (r:Row):():=.tuple [.str r.1,.str r.2.1,.str r.2.2.1,.int r.2.2.2.1,.int r.2.2.2.2]
def Aa (r:Row):¬Str:=[r.1,r.2.1,r.2.2.1,↥r.2.2.2.1,↥r.2.2.2.2]
def jt (r:Row):Str:=Str.join " " (Aa r)
structure RowW (r:Row):Prop where
 n:fQ r.1
 a:fQ r.2.1
 b:fQ r.2.2.1
 w:iQ r.2.2.2.1
 l:iQ r.2.2.2.2
 ln:(!r.1)<=12
 la:(!r.2.1)<=12
 lb:(!r.2.2.1)<=12
def RowW.all (h:RowW r):∀z∈Aa r,fQ z:=by erw[Aa,eI];calc(h.n,h.a,h.b,h.w.nA,h.l.nA,by simp)
theorem RowW.ok (h:RowW r):cA (jt r)=true:=jG wW λz C=>(h.all z C).ok
def jH:(!(" ":Str))=1:='k'
def aoG:(!(Str.join s [a,b,c,d,e]))=(!a)+(!s)+((!b)+(!s)+((!c)+(!s)+((!d)+(!s)+!e))):=by erw[Str.join,bt]
theorem RowW.len (h:RowW r):(!(jt r))<=1040:=by have e:(!(jt r))=_:=aoG;have:=h.ln;have:=h.la;have:=h.lb;have:=h.w.len;have:=h.l.len;rw[jH] at e;lk
def J3 (h:(!z)<=9000):vX (.str z)=#[z]:=ap h
def UJ (h:iQ n):vX (.int n)=#[↥n]:=ap h.lg
def lQ (h:vX d=#[z])(h2:nJ r=#[y]):nJ (d::r)=#[z++y]:=by unfold nJ;rw[h,h2];rfl
def J4:vX (.str " ")=#[" "]:=J3 (by rw[jH];decide)
def fQ.fmt (h:fQ z):vX (.str z)=#[z]:=J3<|cb h.ln<|by decide
def alx:a++(s++(b++(s++(c++(s++(d++(s++(e++Str.empty))))))))=Str.join s [a,b,c,d,e]:=by erw[Str.join,ed,mE]
def ahf (h:RowW r):nJ [.str r.1,.str " ",.str r.2.1,.str " ",.str r.2.2.1,.str " ",.int r.2.2.2.1,.str " ",.int r.2.2.2.2]=#[jt r]:=
 (lQ h.n.fmt<|lQ J4<|lQ h.a.fmt<|lQ J4<|lQ h.b.fmt<|lQ J4<|lQ (UJ h.w)<|lQ J4<|lQ (UJ h.l) rfl).trans (cw some alx)
def tU:(!("; ":Str))=2:='k'
def J5:cA "; "=true:='k'
def GQ (A:ws≠[])(h:∀w∈ws,(!w)≠0):(!(Str.join s ws))≠0:=by
 cases ws with
 |nil=>calc absurd rfl A
 |cons w r=>
  have h1:=h w ae;cases r with
  |nil=>calc h1
  |cons v r=>show (!((w++s)++_))≠0;rw[bt,bt];lk
def fQ.pos (h:fQ z):(!z)≠0:=λe=>h.ne (lT (by
 have:z.cps.size=0:=e
 rw[Array.size_eq_zero_iff.mp this];decide +kernel))
theorem RowW.pos (h:RowW r):(!(jt r))≠0:=GQ (by simp[Aa]) λz C=>(h.all z C).pos
def Vx (h:∀r∈rows,RowW r)(N:(!rows)<=8):jF [.list<|rows.map J2]=#[(false,.str<|if rows=[] then "none" else Str.join "; " (rows.map jt))]:=by
 have D:nU (gT 5<|gC (gN 0)<|gC (gN 1)<|gC (gN 2)<|gC (gN 3)<|gC (gN 4) g0) fj (ug<|aC (vN 0)<|aC (vC<|.str " ")<|aC (vN 1)<|aC (vC<|.str " ")<|aC (vN 2)<|aC (vC<|.str " ")<|aC (vN 3)<|aC (vC<|.str " ")<|aC (vN 4) a0) [none,none,none,none,none] (rows.map J2)=#[(rows.map jt).map .str]:=by
  clear N;induction rows with
  |nil=>rfl
  |cons r v H=>
   have hr:=h r ae;have I:ug (aC (vN 0)<|aC (vC<|.str " ")<|aC (vN 1)<|aC (vC<|.str " ")<|aC (vN 2)<|aC (vC<|.str " ")<|aC (vN 3)<|aC (vC<|.str " ")<|aC (vN 4) a0) [#[(.fr,.str r.1)],#[(.fr,.str r.2.1)],#[(.fr,.str r.2.2.1)],#[(.fr,.int r.2.2.2.1)],#[(.fr,.int r.2.2.2.2)]]=#[.str<|jt r]:=by show(match nJ [.str r.1,.str " ",.str r.2.1,.str " ",.str r.2.2.1,.str " ",.int r.2.2.2.1,.str " ",.int r.2.2.2.2] with|some z=>if cA z=true then #[PyData.str z] else none|none=>none)=_;rw[ahf hr];exact ap hr.ok
   show(match ug _ [#[(.fr,.str r.1)],#[(.fr,.str r.2.1)],#[(.fr,.str r.2.2.1)],#[(.fr,.int r.2.2.2.1)],#[(.fr,.int r.2.2.2.2)]] with|none=>none|some e=>match nU _ _ _ _ (v.map J2) with|none=>none|some E=>#[e::E])=_;rw[I,H λy n=>h y<|af _ n];rfl
 delta jF wR;z_go;rw[rT rfl (by rw[ac];calc bw ∅),show iI [none,none,none,none,none] _=[none,none,none,none,none] from rfl,D];z_go;have G:(!(Str.join "; " (rows.map jt)))<=9000:=by have:=join_le (s:="; ") (B:=1040) (λz C=>by let(r,hr,e):=bg.mp C;calc e▸(h r hr).len);rw[ac,tU] at this;lk
 have A:GD (v2 jV (vC<|.str "; ")<|vN 1) (vC<|.str "none") [#[(.fr,.list<|rows.map J2)],#[(.fr,.list<|(rows.map jt).map .str)]]=#[.str<|if rows=[] then "none" else Str.join "; " (rows.map jt)]:=by
  show(match jV (.str "; ") (.list<|(rows.map jt).map .str) with|some (.str z)=>if (!z)<=9000 then if (!z)=0 then #[PyData.str "none"] else #[.str z] else none|_=>none)=_;rw[(JZ J5 (λz C=>by let(r,hr,e):=bg.mp C;calc e▸(h r hr).ok) (λz C=>by let(r,hr,e):=bg.mp C;calc e▸(h r hr).len) (by rw[ac,tU];lk))];show(if _ then if _ then _ else _ else _)=_;rw[ap G];by_cases c:rows=[]
  .subst c;rfl
  .rw[aw c,aw (GQ ‹c› λz C=>by let(r,hr,e):=bg.mp C;calc e▸(h r hr).pos)]
 rw[A];z_go
def nu (n:Int):Prop:=0<=n/\n<10^70
def nu.z (h:nu n):iQ n:=sJ h.1<|fe h.2<|'k'
def dB (x:Wk):Str:=↥x.2++" by "++Str.join " " x.1
structure jo (x:Wk):Prop where
 ns:∀z∈x.1,fQ z/\(!z)<=12
 ne:x.1≠[]
 l8:(!x.1)<=8
 n:nu x.2
def UL:(!(" by ":Str))=4:='k'
def afH:cA " by "=true:='k'
def jo.jok (h:jo x):cA (Str.join " " x.1)=true:=jG wW λz C=>(h.ns z C).1.ok
def jo.aev (h:jo x):(!(Str.join " " x.1))<=104:=by have:=join_le (s:=" ") λz C=>(h.ns z C).2;rw[jH] at this;have:=h.l8;lk
theorem jo.ok (h:jo x):cA (dB x)=true:=rK (rK h.n.z.ok afH) h.jok
def nu.len (h:nu n):(!↥n)<=70:=toString_length_le h.1 ⋯ h.2
theorem jo.len (h:jo x):(!(dB x))<=178:=by have e:(!(dB x))=_:=bt ..;rw[bt,UL] at e;have:=h.aev;have:=h.n.len;lk
def jo.pos (h:jo x):(!(dB x))≠0:=by have e:(!(dB x))=_:=bt ..;rw[bt,UL] at e;lk
theorem jo.join (h:jo x):jV (.str " ") (.list<|x.1.map .str)=#[.str<|Str.join " " x.1]:=JZ wW (λz C=>(h.ns z C).1.ok) (λz C=>(h.ns z C).2) (by rw[jH];have:=h.l8;lk)
def jo.fmt (h:jo x):nJ [.int x.2,.str " by ",.str<|Str.join " " x.1]=#[dB x]:=
 (lQ (UJ h.n.z)<|lQ (J3 (by rw[UL];decide)) (lQ (J3<|cb h.aev<|by decide) rfl)).trans (cw some (by rw[mE,←ed];rfl))
theorem Ol:∀{ws:¬Wk}{acc:¬Str} {a b c:↑()},(∀x∈ws,jo x)->(!acc)+(!ws)<=1000->∃E N C,eE (gT 2<|gC (gN 2)<|gC (gN 3) g0) (aR (eV (v2 jV (vC<|.str " ")<|vN 2)<|gN 4)<|gM 1<|aC (ug<|aC (vN 3)<|aC (vC<|.str " by ")<|aC (vN 4) a0) a0) (ws.map jT) [x0,#[(.ow,.list<|acc.map .str)],ob a,ob b,ob c]=.nxt [x0,#[(.ow,.list<|(acc++ws.map dB).map .str)],ob E,ob N,ob C]
 |[],acc,a,b,c,_,_=>(a,b,c,by show _=Out.nxt [x0,#[(.ow,.list<|(acc++[]).map .str)],_,_,_];rw[fS];rfl)
 |x::ws,acc,a,b,c,h,B=>by
  have A:=h x ae;let(E,N,C,e):=Ol (x0:=x0) (ws:=ws) (acc:=acc++[dB x]) (a:=#[.list<|x.1.map .str]) (b:=#[.int x.2]) (c:=#[.str<|Str.join " " x.1]) (λy n=>h y<|af _ n) (by simp at B ⊢;lk);refine(E,N,C,(Xf (S1:=[x0,#[(.ow,.list<|acc.map .str)],#[(.fr,.list<|x.1.map .str)],#[(.fr,.int x.2)],ob c]) (S2:=[x0,#[(.ow,.list<|(acc++[dB x]).map .str)],#[(.fr,.list<|x.1.map .str)],#[(.fr,.int x.2)],#[(.fr,.str<|Str.join " " x.1)]]) ?_ ?_).trans (by rw[<-List.append_cons] at e;calc e))
  .delta jT;z_go
  .have D:ug (aC (vN 3)<|aC (vC<|.str " by ")<|aC (vN 4) a0) [x0,#[(.ow,.list<|acc.map .str)],#[(.fr,.list<|x.1.map .str)],#[(.fr,.int x.2)],#[(.fr,.str<|Str.join " " x.1)]]=#[.str<|dB x]:=by show(match nJ [.int x.2,.str " by ",.str<|Str.join " " x.1] with|some z=>if cA z=true then #[PyData.str z] else none|none=>none)=_;rw[A.fmt];exact ap A.ok
   z_go;rw[A.join];z_go;rw[D];z_go;rw[ap (by rw[ac];calc bw (by simp at B;lk)),b7];rfl
def UW (h:∀x∈ws,jo x)(M:(!ws)<=50):mX [.list<|ws.map jT]=#[(false,.str<|if ws=[] then "none" else Str.join "; " (jO<|ws.map dB))]:=by
 let(E,N,G,e):=Ol (acc:=[]) (a:=none) (b:=none) (c:=none) h (by simp;lk);have D:∀z∈jO (ws.map dB),∃x,jo x/\dB x=z:=λz C=>by let(x,A,e):=bg.mp<|(vW _).mem_iff.mp C;exact(x,h x A,e)
 have B:(!(jO<|ws.map dB))=!ws:=by rw[(vW _).length_eq,ac]
 have H:∀z∈jO (ws.map dB),(!z)<=178:=λz C=>by let(x,A,e):=D z C;exact e▸A.len
 have A:(!(Str.join "; " (jO<|ws.map dB)))<=9000:=by have:=join_le (s:="; ") H;rw[B,tU] at this;lk
 delta mX CW;z_go;rw[show eE (gT 2<|gC (gN 2)<|gC (gN 3) g0) (aR (eV (v2 jV (vC<|.str " ")<|vN 2)<|gN 4)<|gM 1<|aC (ug<|aC (vN 3)<|aC (vC<|.str " by ")<|aC (vN 4) a0) a0) (ws.map jT) [#[(.fr,.list<|ws.map jT)],#[(.ow,.list [])],none,none,none]=_ from e];z_go;have J:GD (v2 jV (vC<|.str "; ")<|Eh<|vN 1) (vC<|.str "none") [#[(.fr,.list<|ws.map jT)],#[(.ow,.list<|(ws.map dB).map .str)],ob E,ob N,ob G]=#[.str<|if ws=[] then "none" else Str.join "; " (jO<|ws.map dB)]:=by
  have L:Eh (vN 1) [#[(.fr,.list<|ws.map jT)],#[(.ow,.list<|(ws.map dB).map .str)],ob E,ob N,ob G]=#[.list<|(jO<|ws.map dB).map .str]:=by show(match tu ((ws.map dB).map .str) with|some I=>if (!I)<64 then #[PyData.list<|(jO I).map .str] else none|none=>none)=_;rw[p7];exact ap (by rw[ac];lk)
  delta GD;rw[Io,show vC (.str "; ") _=#[PyData.str "; "] from rfl,RP,L];show(match jV (.str "; ") (.list<|(jO<|ws.map dB).map .str) with|some (.str z)=>if (!z)<=9000 then if (!z)=0 then #[PyData.str "none"] else #[.str z] else none|_=>none)=_;rw[(JZ J5 (λz C=>by let(x,A,e):=D z C;calc e▸A.ok) H (by rw[B,tU];lk))];show(if _ then if _ then _ else _ else _)=_;rw[ap A];by_cases c:ws=[]
  .rw[ap c,ap (by rw[ee.mp<|B.trans (by rw[c];rfl)];rfl)]
  .rw[aw c,aw (GQ (λz=>c<|ee.mp (by rw[<-B,z];rfl)) λz C=>by let(x,A,e):=D z C;calc e▸A.pos)]
 rw[J];z_go
structure xO (x:Str×Int):Prop where
 r:fQ x.1
 c:Not (58∈⇑x.1)/\Not (59∈⇑x.1)
 l:(!x.1)<=12
 n:nu x.2
def ajC:(!(": ":Str))=2:='k'
def afJ:cA ": "=true:='k'
def afK:⇑(": ":Str)=58::[32]:='k'
def Zv:⇑("; ":Str)=59::[32]:='k'
def Lz:Builtin.Str.strKind "; "=1:='k'
def Ek:lE x=x.1++": "++↥x.2:=by show x.1++(": "++(↥x.2++Str.empty))=_;rw[mE,ed]
theorem xO.ok (h:xO x):cA (lE x)=true:=by rw[Ek];calc rK (rK h.r.ok afJ) h.n.z.ok
theorem xO.len (h:xO x):(!(lE x))<=84:=by rw[Ek,bt,bt,ajC];have:=h.l;have:=h.n.len;lk
def GR (h:iQ n)(O:c<48\/57<c):Not (c∈⇑↥n):=λz=>by have:=h.ds c z;lk
def xO.sc (h:xO x):Not (59∈⇑(lE x)):=λz=>by
 rw[Ek,ei,eT,ei,eT,afK] at z;rcases bd.mp z with z|z
 .rcases bd.mp z with z|z
  .exact h.c.2 z
  .exact absurd z<|by decide
 .calc GR h.n.z (.inr<|by decide) z
def xO.part (h:xO x):vU JT (.str<|lE x) (.str ": ")=#[.tuple [.str x.1,.str ": ",.str<|↥x.2]]:=by have:=h.len;rw[Ek] at this ⊢;calc abD afK h.c.1 h.r.ok afJ h.n.z.ok ∅
end bV
namespace bV
open PyProof.Rows L2 VM
def Nm (z:Str):Prop:=AZ z/\1<=!z/\(!z)<=12
def Nm.ok (h:Nm z):iH z:=agN h.1 h.2.1 h.2.2
def Nm.free (h:Nm z)(O:c<97):Not (c∈⇑z):=λy=>by have:=h.1 c y;lk
def Nm.nA (h:Nm z):fQ z:=⟨λe=>by
 have:=h.2.1;rw[e] at this;calc absurd this 'k',h.free ⋯,cb h.2.2 ⋯,h.1.can⟩
def Nm.mom (h:Nm z)(C:nu n):xO (z,n):=⟨h.nA,⟨h.free<|by decide,h.free<|by decide⟩,h.2.2,C⟩
def J6 (h:((⇑z).all λc=>decide (97<=c) && decide (c<=122)) && decide (1<=!z) && decide ((!z)<=12)):Nm z:=by rw[bj,bj,ca,ca,cp] at h;calc⟨λc O=>by have:=h.1.1 c O;rw[bj,ca,ca] at this;calc this,h.1.2,h.2⟩
structure jJ (rooms names:¬Str)(rows:¬Row)(nums:¬(Str×Int))(ls:¬(Str×Q4))(s0 s1:Str):Prop where
 ok:Ok rooms names rows nums ls
 R:∀x∈rooms,Nm x
 N:∀x∈names,Nm x
 sn:∃more,seenOf nums=s0::s1::more
 rx:∀r∈rows,RX (100*bf) r
section
variable {K:Frag}
def ajD (m:2<=!A)(E:(!A)<=6)(B:A.Nodup)(L:s0∈A)(h1:s1∈A)(h2:s0≠s1):Ok A names [] [(s0,0),(s1,1)] []:=by
 refine((m,E,B,cv _,mr,λr h=>(by cases h),λr h=>(by cases h)),λi x h=>?_,?_,?_,.nil)
 .match i,h with
  |0,h=>cases h;rfl
  |1,h=>cases h;rfl
 .simp[seenOf,h2]
 .intro y n;erw[seenOf,aT,fx,bq,fI,gL] at n;rcases n with rfl|rfl
  .exact L
  .calc h1
inductive aoW (C:Addr)(vs:¬V)(H:Hp)(Q:VK):Prop
 |mk {qd:¬PR} {nums:¬(Str×Int)} (e:vs=[.ref D,.ref sA]) (hd:Held H D qd) (hs:H sA=#[.lst<|(seenOf nums).map V.str]) (S:jJ rooms names (qd.map (·.2)) nums ls s0 s1)
  (q:∀H' p dx nn ll uM ur,Same H H'->jJ rooms names (qd.map (·.2)) uM ur s0 s1->aW H' C p dx nn ll uM ur->Q (.ref p) H')
end
def Om (L:∀x∈A,Nm x)(B:∀x∈names,Nm x)(D:∀r∈rows,r.1∈names)(G:∀r∈rows,r.2.2.2.1<10^60)(O:E<10^60)(h:qg E A names rows d):d.fits:=by
 have C:∀{nm},nm∈rows.map (·.1)->fQ nm:=λh=>by let(r,hr,e):=bg.mp h;exact(B _<|e▸D r hr).nA
 cases d with
 |lay nm a b w l=>have⟨h1,_,h2,J,_,M,H,I,N⟩:=h;calc⟨(B _ h1).nA,(L _ h2).nA,(L _ J).nA,⟨by lk,by lk⟩,by lk,by lk⟩
 |shut nm=>calc C h
 |widen nm k=>have⟨h1,h2,J⟩:=h;calc⟨C h1,by lk,by lk⟩
 |narrow nm k=>have⟨r,hr,e,h2,J⟩:=h;have:=G r hr;exact⟨e▸(B _<|D r hr).nA,by lk,by lk⟩
open StrLaws
def afL:⇑(" by ":Str)=32::[98,121,32]:='k'
def jo.part (h:jo x):vU JT (.str<|dB x) (.str " by ")=#[.tuple [.str<|↥x.2,.str " by ",.str<|Str.join " " x.1]]:=abD afL (GR h.n.z<|.inl<|by decide) h.n.z.ok afH h.jok<|cb h.len<|by decide
def jo.split (h:jo x):vU tQ (.str<|Str.join " " x.1) (.str " ")=#[.list<|x.1.map .str]:=uT J1 Ly h.ne (λz C=>(h.ns z C).1.fr) (λz C=>(h.ns z C).1.ok) (cb h.aev<|by decide) (by have:=h.l8;lk)
def jo.sc (h:jo x)(h2:∀z∈x.1,Not (59∈⇑z)):Not (59∈⇑(dB x)):=λz=>by
 have z:59∈⇑(↥x.2++" by "++Str.join " " x.1):=z;rw[ei,eT,ei,eT,afL] at z;rcases bd.mp z with z|z
 .rcases bd.mp z with z|z
  .exact GR h.n.z (.inr<|by decide) z
  .exact absurd z<|by decide
 .rcases mem_join z with z|⟨w,C,z⟩
  .rw[J1] at z;exact absurd z<|by decide
  .calc h2 w C z
def aly (h1:Nm r.1)(h2:Nm r.2.1)(J:Nm r.2.2.1)(M:nu r.2.2.2.1)(k:nu r.2.2.2.2):RowW r:=(h1.nA,h2.nA,J.nA,M.z,k.z,h1.2.2,h2.2.2,J.2.2)
def aoH (h:∀z∈x.1,Nm z)(r:x.1≠[])(O:(!x.1)<=8)(A:nu x.2):jo x/\∀z∈x.1,Not (59∈⇑z):=⟨(λz C=>⟨(h z C).nA,(h z C).2.2⟩,r,O,A),λz C=>(h z C).free<|by decide⟩
def Ab:("out ":Str)++z="out"++" "++z/\("walks ":Str)++z="walks"++" "++z/\("moments ":Str)++z="moments"++" "++z/\("turns ":Str)++z="turns"++" "++z:=by
 have B:("out ":Str)="out"++" ":='k'
 have G:("walks ":Str)="walks"++" ":='k'
 have J:("moments ":Str)="moments"++" ":='k'
 have O:("turns ":Str)="turns"++" ":='k'
 calc(by rw[B],by rw[G],by rw[J],by rw[O])
def Zw:("worth ":Str)++a++" "++b="worth"++" "++(a++" "++b)/\("hall ":Str)++a++" "++b="hall"++" "++(a++" "++b):=by
 have B:("worth ":Str)="worth"++" ":='k'
 have G:("hall ":Str)="hall"++" ":='k'
 rw[B,G];erw[ed,and_self]
end bV
namespace bV
open PyProof.Rows L2 VM
section
variable {K:Frag}{ws:¬(¬Nat×Int)}
def jJ.fit (S:jJ A names rows nums x s0 s1):cH (seenOf nums) x rows (100*bf):=CT S.ok λr hr=>((S.rx r hr).1,(S.rx r hr).2.1,(S.rx r hr).2.2.1)
theorem jJ.len (S:jJ A names rows nums x s0 s1):(!x)<=8/\(!rows)<=8/\2<=!nums/\(!nums)<=6/\(!(seenOf nums))=!nums:=by have h:=S.ok.len;have N:=S.fit.len;have⟨m,e⟩:=S.sn;calc(h.1,by lk,S.ok.two e,h.2,ac ..)
structure iu (nums:¬(Str×Int))(ls:¬(Str×Q4))(T W:Int)(ws:¬(¬Nat×Int))(bU:¬Int):Prop where
 O:LH.fV (!(seenOf nums)) (bD ls) 0 1 T W ws bU
 em:Pg.fD [.int ((!nums):Int),.list<|ls.map vQ,.int 0,.int 1,.int T]=#[(false,.tuple [.int W,.list<|ws.map LH.jT,.list<|bU.map .int])]
def cT.n7 (h:cT n):nu n:=⟨h.1,ft h.2<|'k'⟩
theorem jJ.out (S:jJ B names rows nums x s0 s1)(h:nu T):∃W ws A,iu nums x T W ws A:=by have(h1,_,h2,J,M):=S.len;let(W,ws,A,O,em):=S.fit.out (T:=T) ⋯ ⟨by lk,by lk⟩ ∅ h.1 (ft h.2 ⋯);rw[M] at em;calc(W,ws,A,O,em)
theorem jJ.can (S:jJ A names rows nums C s0 s1):∀x∈gj C,(PyData.str x).canLay0=true:=λx B=>by rw[show gj C=rows.map (·.1) from qj S.ok.lr] at B;let(r,hr,rfl):=bg.mp B;calc(S.N _<|S.ok.dr.sub r hr).1.can
def iu.sp (S:jJ rooms names rows nums ls s0 s1)(o:iu nums ls T W ws bU)(hh:aW H C p dx nn ll nums ls)(q:∀v H',Same H H'->Has K H' (outD ls nums W ws bU) v->Q v H'):wO K C [.ref p,.int T] H Q:=by have(h1,_,h2,B,M):=S.len;let(J,E):=ajm ∅ o.O;calc(p,dx,nn,ll,nums,ls,T,W,ws,bU,rfl,hh,by lk,o.em,J,E,by rw[o.O.ml,M],S.can,λx A=>(S.R x<|S.ok.sub x A).1.can,q)
def iu.eq (S:jJ A names rows nums x s0 s1)(C:jJ A names rows D B s0 s1)(o:iu nums x T W ws L)(H:iu D B T E J I):W=E:=by have⟨m,e⟩:=S.sn;have⟨U,G⟩:=C.sn;calc aeh S.ok e C.ok G (λr hr=>((S.rx r hr).1,(S.rx r hr).2.1,(S.rx r hr).2.2.1)) o.O H.O
def U0 {A:Type}{f:A->Int}:∀{l:¬A},(∀q∈l,f q<=B)->(l.map f).sum<=B*!l:=by
 intro l;induction l with
 |nil=>intro _;simp
 |cons q l D=>intro h;have h1:=h q ae;have h2:=D λx C=>h x<|af _ C;rw[aT,cq,a8,iN,i9];lk
structure Det (nums:¬(Str×Int))(ls:¬(Str×Q4))(G:¬(Int×Int)):Prop where
 r:Sp.Gv G
 l:∀x∈G,x.1<10^70
 w:∀T W ws bU,0<=T->LH.fV (!(seenOf nums)) (bD ls) 0 1 T W ws bU->W=Sp.jD T G
inductive wY (nums:¬(Str×Int))(ls:¬(Str×Q4))(n:Int):↑Int->Prop
 |no (d:Det nums ls []) (em:Pg.eH [.int ((!nums):Int),.list<|ls.map vQ,.int 0,.int 1,.int n]=#[(false,.none)]):wY nums ls n none
 |yes {xK:¬LH.zX} {bU:¬Int} (d:Det nums ls G) (g0:G≠[]) (em:Pg.eH [.int ((!nums):Int),.list<|ls.map vQ,.int 0,.int 1,.int n]=#[(false,.tuple [.int<|dX<|LH.fB n 0 0 G,.list<|xK.map LH.cM,.list<|bU.map .int])]) (k:LH.afy (!(seenOf nums)) (bD ls) n (dX<|LH.fB n 0 0 G) xK bU) (hT:nu (dX<|LH.fB n 0 0 G)):wY nums ls n (#[dX<|LH.fB n 0 0 G])
def jJ.few (S:jJ J names rows nums A s0 s1)(h1:1<=n)(h:n<10^60):∃T,wY nums A n T:=by
 have(f,s,a,i,Y):=S.len;have d:(!(bD A))=!A:=by delta bD;rw[ac]
 have U:((bD A).map Sp.aO.l).sum<=bf*!(bD A):=U0 λq I=>by let(j,x,t,E,rfl):=S.fit.mem I;rw[E.e];exact(S.rx _ E.m).2.2.2
 have c:bf*((!(bD A)):Int)<=bf*8:=be ∅ ⋯;have r:100*bf*((!(bD A)):Int)<=100*bf*8:=be ∅ ⋯;have y:10^60+bf*8+1<1e100:=by decide
 have w:100*bf*8<1e100:=by decide
 have z:10^60+bf*8<10^70:='k'
 have e:=LH.ad9 (p:=n) (st:=0) (g:=1) (B:=100*bf) S.fit.hall (LH.TQ ∅ ∅) ∅ ∅ ∅ ∅ ⋯ h1 ∅ ⋯ (λq I=>by
  let(j,x,t,E,rfl):=S.fit.mem I;rw[E.w];calc(S.rx _ E.m).2.1) ∅
 rw[S.fit.hD] at e;let(G,H,e):=e;have D:Det nums A G:=⟨H.rise,λx E=>by have:=H.low x E;lk,λT W ws L Q O=>by
  let(b,M,C,F,_,e):=H.flow T;let(o,v,u,N,m,_):=O.flow;rw[<-e,m];calc lw (N.le S.fit.hall ∅ ∅ Q F) (F.le S.fit.hall ∅ ∅ Q N)⟩
 rcases e with⟨rfl,em⟩|⟨g0,l,L,k,em⟩
 .exact⟨none,.no D<|by rwa [<-Y]⟩
 .calc⟨_,.yes D g0 (by rwa [<-Y]) k ⟨by have:=k.T1;lk,by have:=k.Tb;lk⟩⟩
def wY.sp (S:jJ A names rows nums x s0 s1)(D:aW H C p B I G nums x)(f:wY nums x n T)(q:∀E,Same H E->match T with|none=>Q .non E|some T=>∀t r,E t=#[.tup (.int T::r)]->Q (.ref t) E):uR K C [.ref p,.int n] H Q:=by
 have(N,O,g,i,J):=S.len;have M:(!(bD x))=!x:=by delta bD;rw[ac]
 cases f with
 |no _ em=>calc(p,B,I,G,nums,x,n,_,rfl,D,by lk,em,S.can,.inl ⟨rfl,q⟩)
 |yes _ _ em k U=>calc(p,B,I,G,nums,x,n,_,rfl,D,by lk,em,S.can,.inr (_,_,_,rfl,λr hr=>⟨λj Y=>by have:=(k.row r hr).1 j Y;lk,by have:=Sp.iD (k.row r hr).2 (k.row r hr).1;lk⟩,by have:=k.len;lk,by rw[k.ml,J],λE t r s L=>q E s t r L))
end
end bV
namespace L2
open PySem.W PySem.Calls PyProof.Rows
inductive afM:V->¬V->Hp->VK->Prop
 |mk dI:H d=#[.dK dI]->Q ((dO dI x).getD z) H->afM (.ref d) [.str x,z] H Q
def aoI:uo X "dict.get" afM:=by
 intro A s O H x M v J Q I D G q;let .mk (x:=y) B C q:=q;cases D;let(E,j,e,L,m):=vals2 G;subst e;let(_,hS,b,rel,N):=m8 I.hok C;exact ie nS N.typeIs PySem.F.entry_dict_get (PySem.F.args_dict_get_3 _ _ _) (meets_dict_get_default (strKind X.prog X.w) _ (rW (k:=y) L) hS j) (_,N.mapOf,_,_,I.tok _,by
  have g:=rel.val y;revert g;cases dO B y<;>cases valueAt b y<;>intro g;calc m;cases g;cases g;calc g,q)
end L2
namespace bV
open PyProof.Rows L2 VM StrLaws
local macro_rules | `(tactic| walk_at "fr")=>`(tactic| repeat' (first | exact rfl | assumption | refine ⟨_,_,rfl,rfl,?_,?_⟩ | refine ⟨_,_,rfl,?_⟩))
def o8 (rows:¬Row)(w:¬Nat):Int:=(w.map λj=>(rowAt rows j).2.2.2.2).sum
def uh (rows:¬Row)(T:Int)(ws:¬(¬Nat×Int)):Int:=(ws.map λx=>x.2*(T - o8 rows x.1+1)).sum
def Xh {B:¬(Key×V)}:dO (putK B k y) j=if j=k then #[y] else dO B j:=by
 have h1:∀B:¬(Key×V),dO (B.map λA=>if A.1=k then(A.1,y) else A) j=if j=k then(if(B.any λA=>decide<|A.1=k)=true then #[y] else none) else dO B j:=λB=>by
  induction B with
  |nil=>split<;>rfl
  |cons p r C=>
   rw[aT,i8];by_cases e:p.1=k<;>by_cases g:p.1=j
   .rw[ap e,jL (p:=(p.1,y)) g,ap<|g.symm.trans e,a9 e];rfl
   .have:Not (j=k):=λz=>g (e.trans z.symm)
    rw[ap e,jg (p:=(p.1,y)) g,C,jg g,aw this,aw this]
   .rw[aw e,jL g,jL g,aw λz=>e<|g.trans z]
   .rw[aw e,jg g,jg g,C,aS e,Bool.false_or]
 have h2:∀B:¬(Key×V),(B.any λA=>decide<|A.1=k)=false->dO (B++[(k,y)]) j=if j=k then #[y] else dO B j:=λB=>by
  induction B with
  |nil=>
   intro _;by_cases g:k=j
   .rw[ap g.symm];exact jL g
   .rw[aw λz=>g z.symm];calc jg g
  |cons p r C=>
   intro h;rw[i8,oo] at h;by_cases g:p.1=j
   .rw[kz,jL g,jL g,aw λz=>of_decide_eq_false h.1<|g.trans z]
   .rw[kz,jg g,jg g,C h.2]
 delta putK;split
 .rename_i h;rw[h1,ap h]
 .rename_i h;calc h2 _<|ge.mpr h
def Us (H:Hp)(d:Addr)(L:Nat)(f:Str->Int):Prop:=∃B,H d=#[.dK B]/\(!B)<=L/\∀x,(dO B x).getD (.int 0)=.int (f x)
def nM (A:¬(Str×Q4))(us:¬(¬Nat×Int)):Str:=if us=[] then "none" else Str.join "; " (us.map λx=>dB<|wn A x)
inductive aoX (K:Frag)(vs:¬V)(H:Hp)(Q:VK):Prop
 |mk {seen:¬Str} {us:¬(¬Nat×Int)} (e:vs=[.str<|nM ls us,vd,vz,.int T]) (hd:Has K H (QD rows) vd) (hz:Has K H (gH seen) vz) (hs:seen=s0::s1::rest) (hc:(PyData.str s1).canLay0=true) (F:cH seen ls rows Bd) (hl:(!rows)<=8) (hu:(!us)<=50) (hT:T+1<10^78)
  (hw:∀x∈us,LH.vP (bD ls) 0 1 x/\(jo (wn ls x)/\∀z∈bN ls x.1,Not (59∈⇑z))/\o8 rows x.1<=T/\0<=o8 rows x.1) (hr:jO (us.map λx=>dB<|wn ls x)=us.map λx=>dB<|wn ls x) (hj:∀j,j<!rows->LH.share j us<=(rowAt rows j).2.2.2.1) (q:∀H',Same H H'->Q (.int<|uh rows T us) H')
def ajF (h:∀x∈us,jo (wn A x))(C:us≠[]):nM A us≠"none":=λe=>by
 delta nM at e;rw[aw C] at e;cases us with
 |nil=>calc C rfl
 |cons x r=>
  have B:=(h x ae).n.z;have G:=cw (λz:Str=>(⇑z).head?) e;have D:∃t,⇑(Str.join "; " ((x::r).map λx=>dB<|wn A x))=⇑↥x.2++t:=by
   cases r with
   |nil=>calc⟨⇑(" by ":Str)++⇑(Str.join " " (bN A x.1)),by show⇑(↥x.2++" by "++Str.join " " (bN A x.1))=_;rw[ei,eT,ei,eT,cE]⟩
   |cons y r=>exact⟨⇑(" by ":Str)++(⇑(Str.join " " (bN A x.1))++(⇑("; ":Str)++⇑(Str.join "; " (dB (wn A y)::r.map λx=>dB<|wn A x)))),by rw[aT,aT,uL];show⇑(↥x.2++" by "++Str.join " " (bN A x.1))++_=_;rw[ei,eT,ei,eT,cE,cE]⟩
  let(t,D):=D;erw[D] at G;cases O:⇑↥x.2 with
  |nil=>calc B.ne O
  |cons c t=>rw[O,show(⇑("none":Str)).head? =#[110] by decide +kernel] at G;have:=B.ds c (by rw[show Str.ofString (toString (wn A x).2)=↥x.2 from rfl,O];calc ae);cases G;lk
def ajG (h:∀x∈us,jo (wn B x)):cA (nM B us)=true:=by
 delta nM;split
 .decide +kernel
 .calc jG J5 λz C=>by let(x,A,e):=bg.mp C;calc e▸(h x A).ok
def abH (h:∀x∈us,jo (wn E x)/\∀z∈bN E x.1,Not (59∈⇑z))(N:(!us)<=50):vU tQ (.str<|nM E us) (.str "; ")=#[.list<|((if us=[] then ["none"] else us.map λx=>dB<|wn E x):¬Str).map .str]:=by
 delta nM;split
 .exact uT (ws:=["none"]) Zv Lz 's' (λw D=>by rw[aI.mp D];decide +kernel) (λw D=>by rw[aI.mp D];decide +kernel) 'k' 's'
 .rename_i r;refine uT Zv Lz ‹r› (λz C=>by let(x,A,e):=bg.mp C;calc e▸(h x A).1.sc (h x A).2) (λz C=>by let(x,A,e):=bg.mp C;calc e▸(h x A).1.ok) ?_ (by rw[ac];lk);have:=join_le (s:="; ") (B:=178) λz C=>by let(x,A,e):=bg.mp C;exact e▸(h x A).1.len
  rw[ac,tU] at this;lk
def aew {l:¬Str}:∀{ws:¬D},l.Perm (ws.map f)->∃us:¬D,us.Perm ws/\us.map f=l:=by
 induction l with
 |nil=>intro ws p;have:=p.length_eq;rw[ac] at this;calc([],by rw[ee.mp this.symm],rfl)
 |cons z l B=>intro ws p;let(x,A,e):=bg.mp<|p.mem_iff.mp ae;let(s,t,rfl):=List.append_of_mem A;have k:(s++x::t).Perm (x::(s++t)):=List.perm_middle;have m:=p.trans<|k.map f;rw[aT,e] at m;let(us,J,C):=B<|List.Perm.cons_inv m;calc(x::us,(J.cons x).trans k.symm,by rw[aT,C,e])
def U3 {f:B->Int}{us ws:¬B}(p:us.Perm ws):(us.map f).sum=(ws.map f).sum:=by
 induction p with
 |nil=>rfl
 |cons x _ A=>rw[aT,aT,cq,cq,A]
 |swap x y l=>erw[aT,cq];lk
 |trans _ _ a b=>calc a.trans b
theorem wZ (j:Nat):∀ws:¬(¬Nat×Int),LH.share j ws=(ws.map λx=>if j∈x.1 then x.2 else 0).sum
 |[]=>rfl
 |x::ws=>by rw[LH.share,wZ j ws];rfl
section
variable {ws:¬(¬Nat×Int)}
def abI {seen:¬Str}(F:cH seen D rows B)(C:∀j∈w,j<!D):o8 rows w=LH.bT Sp.aO.l (bD D) w/\0<=o8 rows w:=by
 delta o8 LH.bT;induction w with
 |nil=>calc⟨rfl,bE _⟩
 |cons j w E=>let(x,A):=F.at (C j ae);have⟨h1,h2⟩:=E λk M=>C k<|af _ M;have:=F.l1 _ A.m;rw[aT,aT,cq,cq,h1,LH.mU A.p,A.e];calc⟨rfl,by rw[<-h1];lk⟩
structure Wks (rows:¬Row)(ls:¬(Str×Q4))(T:Int)(x:¬Nat×Int):Prop where
 wk:LH.vP (bD ls) 0 1 x
 ww:jo (wn ls x)/\∀z∈bN ls x.1,Not (59∈⇑z)
 f1:o8 rows x.1<=T
 f0:0<=o8 rows x.1
def iu.walks (S:jJ rooms names rows nums ls s0 s1)(o:iu nums ls T W ws bU):(∀x∈ws,Wks rows ls T x)/\(!ws)<=8/\(∀j,j<!rows->LH.share j ws<=(rowAt rows j).2.2.2.1)/\uh rows T ws=W/\0<=W:=by
 let(fl,M,Q,I,_,B):=o.O.flow;have(l1,l2,k,i,m):=S.len;have hp:(!(bD ls))=!ls:=by delta bD;rw[ac]
 have L:=S.fit.len;have O:=I.len;have D:∀j,j<!rows->LH.share j ws<=(rowAt rows j).2.2.2.1:=λj hj=>by let(x,A):=S.fit.at (j:=j) ∅;rw[B.sum j ∅,←A.w];exact(I.lo j _ _ A.p<|LH.oh ∅).2
 have U:∀x∈ws,∀j∈x.1,j<!ls:=λx A j hj=>by have:=(B.walk x A).ix j hj;lk
 have C:∀x∈ws,1<=x.2:=λx A=>(B.walk x A).m1;have E:∀{ws:¬(¬Nat×Int)},(∀x∈ws,1<=x.2)->∀x∈ws,∀j∈x.1,x.2<=LH.share j ws:=λ{ws}=>by
  induction ws with
  |nil=>intro _ x A;cases A
  |cons y ws G=>
   intro h x A j hj;have h1:=h y ae;have h2:∀z∈ws,1<=z.2:=λz hz=>h z<|af _ hz;have N:=LH.T5 h2 j;rw[LH.share];rcases bq.mp A with g|g
   .subst g;rw[ap hj];lk
   .have:=G h2 x g j hj;split<;>lk
 have J:∀x∈ws,Wks rows ls T x:=λx A=>by
  have wk:=B.walk x A;have⟨e,f0⟩:=abI S.fit<|U x A;refine(wk,aoH (λz hz=>?_) (λz=>wk.ne<|kb.mp z) ?_ ?_,by rw[e];calc o.O.short x A,f0)
  .let(j,hj,rfl):=bg.mp hz;let(y,n):=S.fit.at (U x A j hj);rw[n.n];exact S.N _<|S.ok.dr.sub _ n.m
  .show (!(bN ls x.1))<=8;delta bN;rw[ac];have:=Sp.iD wk.nd wk.ix;lk
  .have⟨j,hj⟩:=fA _ wk.ne;let(y,n):=S.fit.at (U x A j hj);have h1:=E C x A j hj;have h2:=D j (by have:=U x A j hj;lk);have N:=(S.rx _ n.m).2.1;have Y:=wk.m1
   have:100*bf<10^70:='k'
   exact⟨by show 0<=x.2;lk,by show x.2<_;lk⟩
 have hs:uh rows T ws=W:=by rw[o.O.ppl];delta uh;congr 1;exact cx λx A=>by rw[(abI S.fit<|U x A).1]
 refine(J,?_,D,hs,?_)
 .have:=B.few;have:=LH.vO fl;lk
 .rw[<-hs];have H:∀l:¬(¬Nat×Int),(∀x∈l,x∈ws)->0<=uh rows T l:=λl=>by
   induction l with
   |nil=>intro _;calc bE _
   |cons x l G=>intro hl;have A:=hl x ae;exact Int.add_nonneg (fk (by have:=C x A;lk) (by have:=(J x A).f1;lk)) (G λy n=>hl y<|af _ n)
  calc H ws λ_ h=>h
def iu.CX (S:jJ rooms names rows nums ls s0 s1)(o:iu nums ls T W ws bU)(hT:cT T):(∀x∈(seenOf nums).zip bU,xO x)/\(rows.map<|lC (seenOf nums) bU).sum=W/\0<=W/\W<10^500:=by
 have(l1,l2,N,i,Y):=S.len;have C:∀E∈bU,0<=E/\E<=T+1:=λE D=>by let(v,ev):=dq D;have hv:=(ah.mp ev).1;have:=o.O.mb v (by have:=o.O.ml;lk);rw[LH.mV ev] at this;exact this
 have hd:=o.O.T8;have h1:((bD ls).map<|LH.over<|PM.lf bU).sum<=100*bf*(T+1)*!(bD ls):=U0 λq A=>by
  let(j,x,hj,B,rfl):=S.fit.mem A;have I:=o.O.mb _<|S.fit.hall.ra _ A;have L:=o.O.mb _<|S.fit.hall.rb _ A;have hl:=S.fit.hall.l1 _ A;have hw:=S.fit.hall.w1 _ A;have G:(oM x).w<=100*bf:=by rw[B.w];exact(S.rx _ B.m).2.1
  delta LH.over;split
  .exact eB (be ∅ ∅) (gE G (by have:=hT.1;lk))
  .exact fk ⋯ (by have:=hT.1;lk)
 have h2:100*bf*(T+1)<=100*bf*10^60:=be (by have:=hT.2;lk) ⋯;have J:100*bf*(T+1)*((!(bD ls)):Int)<=100*bf*(T+1)*8:=be (by delta bD;rw[ac];lk) (fk ⋯ (by have:=hT.1;lk));have M:100*bf*10^60*8<10^500:='k'
 refine(λx B=>?_,(S.fit.T8 S.ok.nd o.O.ml).symm.trans hd.symm,(o.walks S).2.2.2.2,by rw[hd];lk);have hz:=g9 B;have:=C _ hz.2;have k:=hT.2;have H:(10)^60+1<10^70:='k'
 calc(S.R _<|S.ok.sub _ hz.1).mom ⟨this.1,by lk⟩
def iu.z (S:jJ A names rows nums x s0 s1)(o:iu nums x T W ws B)(U:cT T):iQ W:=let(_,_,a,b):=o.CX S U;sJ a b
end
section
variable {K:Frag}
def wtx (x:¬(Str×Q4))(ws:¬(¬Nat×Int)):Str:=if ws.map (wn x)=[] then "none" else Str.join "; " (jO<|(ws.map<|wn x).map dB)
def ajI (A:¬(Str×Q4))(ws:¬(¬Nat×Int)):∃us:¬(¬Nat×Int),us.Perm ws/\(jO (us.map λx=>dB<|wn A x)=us.map λx=>dB<|wn A x)/\wtx A ws=nM A us:=by
 have E:(ws.map<|wn A).map dB=ws.map λx=>dB (wn A x):=by rw[ce];rfl
 let⟨us,p,e⟩:=aew<|vW<|ws.map λx=>dB<|wn A x;refine⟨us,p,by rw[e,aem],?_⟩;delta wtx nM;rw[E,e];by_cases c:ws=[]
 .subst c;rw[p.eq_nil];rfl
 .rw[aw λz=>c<|kb.mp z,aw λz=>c (by rw[z] at p;calc p.symm.eq_nil)]
def jJ.drop {nm:Str}(S:jJ A names rows nums x s0 s1):jJ A names (qy nm rows) nums (rY nm x) s0 s1:=⟨W9 S.ok,S.R,S.N,S.sn,λr hr=>S.rx r (di.mp hr).1⟩
def jJ.row (S:jJ A names rows nums x s0 s1)(hr:r∈rows):RowW r:=by
 have⟨a,b⟩:=S.ok.Uh hr;have⟨c,d,e,f⟩:=S.rx r hr;have w:=S.ok.dr.wd r hr;have h:100*bf<10^70/\bf<10^70:='k'
 calc aly (S.N _<|S.ok.dr.sub r hr) (S.R _ a) (S.R _ b) ⟨by lk,by lk⟩ ⟨by lk,by lk⟩
section
variable (S:jJ rooms names rows nums ls s0 s1)(G:ig H CD x dk (.ref p))(A:aW H C p dx nn ll nums ls)
include S G A
def yO (o:iu nums ls T W ws D)(U:cT T)(q:∀E,Same H E->Q (.str<|toString W) E):dZ K CD C [.ref x,.str<|"out "++↥T] H Q:=by rw[Ab.1];calc Ej (by rfl) wX.1 'k' U.z (Ei U) G A.ins λI s=>.out (o.sp S (A.grow s) λv E B M=>let⟨t,r,e,h⟩:=ajh M;⟨t,W,r,e,h,(o.z S U).lg,q E<|s.trans B⟩)
def abJ (o:iu nums ls T W ws L)(U:cT T)(q:∀E,Same H E->Q (.str<|wtx ls ws) E):dZ K CD C [.ref x,.str<|"walks "++↥T] H Q:=by rw[Ab.2.1];have⟨B,Y,_⟩:=o.walks S;calc Ej (by rfl) wX.2.1 'k' U.z (Ei U) G A.ins λO s=>.walks<|o.sp S (A.grow s) λv E I M=>⟨_,_,_,_,M,UW (λy n=>by let(x,D,e):=bg.mp n;calc e▸(B x D).ww.1) (by rw[ac];lk),λJ N=>q J<|s.trans<|I.trans N⟩
def aex (o:iu nums ls T W ws B)(U:cT T)(q:∀I,Same H I->Q (.str<|Str.join "; " (((seenOf nums).zip B).map lE)) I):dZ K CD C [.ref x,.str<|"moments "++↥T] H Q:=by
 rw[Ab.2.2.1];have E:=(o.CX S U).1;have⟨j,k,g,i,l⟩:=S.len;refine Ej (by rfl) wX.2.2.1 'k' U.z (Ei U) G A.ins λY s=>.yK<|o.sp S (A.grow s) λv I N M=>⟨_,_,_,M,λx D=>⟨cb (E x D).l<|by decide,(E x D).n.z.lg,(E x D).ok⟩,by rw[jS];lk,?_,λJ O=>?_⟩
 .exact(cw not<|joinFits (λz L=>by let(x,D,e):=bg.mp L;calc e▸(E x D).len) (by rw[ac,jS,tU];lk))
 .rw[show Txt.join "; " (((seenOf nums).zip B).map lE)=Str.join "; " (((seenOf nums).zip B).map lE) from glued_eq_join ..];calc q J<|s.trans<|N.trans O
def turnT:↑Int->Str
 |none=>"never"
 |some T=>↥T
def CZ (f:wY nums ls n T)(h1:1<=n)(B:cT n)(q:∀E,Same H E->Q (.str<|turnT T) E):dZ K CD C [.ref x,.str<|"turns "++↥n] H Q:=by
 rw[Ab.2.2.2];refine Ej (by rfl) wX.2.2.2.1 'k' B.z (aer B h1) G A.ins λJ s=>.turns<|f.sp S (A.grow s) λE D=>?_;cases f with
 |no _ _=>calc .inl ⟨rfl,q E<|s.trans D⟩
 |yes _ _ _ _ U=>calc λt r I=>.inr ⟨t,_,r,rfl,cF.of I,U.z.lg,q E<|s.trans D⟩
def abK (q:∀E,Same H E->Q (.str<|Str.join " " (seenOf nums)) E):dZ K CD C [.ref x,.str "rooms"] H Q:=by
 have⟨I,J,L,i,Y⟩:=S.len;refine UG (by rfl) wX.2.2.2.2.2.1 'k' G A.ins λD s=>.rooms ⟨p,dx,nn,ll,nums,ls,rfl,A.grow s,λz B=>⟨z,_,rfl,aU.of ao,?_,?_⟩⟩
 .exact(cw not<|joinFits (λz B=>(S.R z<|S.ok.sub z B).2.2) (by rw[jH];lk))
 .rw[show Txt.join " " (seenOf nums)=Str.join " " (seenOf nums) from glued_eq_join ..];calc q _<|s.trans<|aH B
def abL {nm:Str}(J:nm∈rows.map (·.1))(o:iu nums ls T W ws Y)(I:iu nums (rY nm ls) T B O L)(U:cT T)(q:∀E,Same H E->Q (.str<|Str.ofString<|toString<|W - B) E):dZ K CD C [.ref x,.str<|("worth ":Str)++nm++" "++↥T] H Q:=by
 rw[Zw.1];have⟨k,g,l,i,t⟩:=S.len;let(y,n):=pA (by rw[qj S.ok.lr];calc J);let(r,hr,D):=bg.mp J;have M:iQ (W - B):=by have⟨m,e⟩:=S.sn;have h1:=Ug S.ok e (λr hr=>⟨(S.rx r hr).1,(S.rx r hr).2.1,(S.rx r hr).2.2.1⟩) o.O I.O;have⟨_,_,a,b⟩:=o.CX S U;have⟨_,_,c,_⟩:=I.CX S.drop U;exact sJ ∅ ∅
 calc abG (D▸(S.N _<|S.ok.dr.sub r hr).nA) U G A.ins λj s=>.worth ⟨p,dx,nn,ll,nums,ls,nm,y,T,W,B,_,_,rfl,A.grow s,n,by lk,o.em,I.em,λE N=>⟨_,rfl,M.lg,q E<|s.trans N⟩⟩
def aey (q:∀E,Same H E->Q (.str<|if rows=[] then "none" else Str.join "; " (rows.map jt)) E):dZ K CD C [.ref x,.str "passages"] H Q:=by
 have⟨u,I,v,y,b⟩:=S.len;refine UG (by rfl) wX.2.2.2.2.2.2 'k' G A.ins λo s=>.passages ⟨p,dx,nn,ll,nums,ls,rows,rfl,A.grow s,by lk,S.ok.lr.mono λx r h=>?_,λE z m g _ D U=>⟨.list<|rows.map J2,_,⟨z,m,rfl,aU.of D,?_⟩,Vx (λr hr=>S.row hr) I,λJ l=>q J<|s.trans<|g.trans l⟩⟩
 .let(h1,(i,h2,L),(k,M,N),O,T):=h;exact⟨h1,by rw[h2];calc fM (by rw[ay,L];rfl),by rw[M];calc fM (by rw[ay,N];rfl),O,T⟩
 .have B:∀r∈rows,RowW r:=λr hr=>S.row hr;clear q S I D;induction U with
  |nil=>rfl
  |cons h _ j=>let⟨t,e,Y⟩:=h;have hr:=B _ ae;calc⟨_,_,rfl,⟨t,_,e,cF.of Y,_,_,rfl,⟨rfl,hr.n.ok⟩,_,_,rfl,⟨rfl,hr.a.ok⟩,_,_,rfl,⟨rfl,hr.b.ok⟩,_,_,rfl,rfl,_,_,rfl,rfl,rfl⟩,j λr hr=>B r<|af _ hr⟩
end
end
abbrev alz:V->V->Hp->VK->Prop:=λx y H Q=>∃i j,x=.str i/\y=.str j/\(!i)+(!j)<=sizeLine/\Q (.str<|i++j) H
section
variable {K:Frag}
def Ac (E:D[j]? =#[#[.ref x]])(G:ig H A x I M)(J:(!a)<=100)(hi:∀R:VK,R (.int n) H->te D H R)(B:iQ n)(q:dZ K A C [.ref x,.str<|a++↥n] H Q):iy A "say" (dZ K A C) (vR j) (cL (jm alz (tC<|.str a)<|um Uk<|cL te d9) d9) D H Q:=
 jU E G rfl (hi _ ⟨n,rfl,B.lg,_,_,rfl,rfl,by have:=B.len;have e:sizeLine=16777216:=rfl;lk,q⟩)
def GX (h:te B H λv E=>Uk [v] E Q):um Uk (cL te d9) B H Q:=h
def aez (E:B[j]? =#[#[.ref x]])(G:ig H A x I M)(q:dZ K A C [.ref x,.str a] H Q):iy A "say" (dZ K A C) (vR j) (cL (tC<|.str a) d9) B H Q:=jU E G rfl q
def neS (h:cA z=true)(q:Q (.bl false) H):Gd K (.str z) (.str z) H Q:=⟨.str z,.str z,⟨rfl,h⟩,⟨rfl,h⟩,by simp[PyData.depth],by rw[im _ h];calc q⟩
def Xi (q:Q (.bl false) H):Gd K (.int n) (.int n) H Q:=⟨.int n,.int n,rfl,rfl,by simp[PyData.depth],by rw[im _ rfl];calc q⟩
def ajK (h:cA z=true)(q:Q (.bl true) H):Yc K (.str z) (.str z) H Q:=⟨.str z,.str z,⟨rfl,h⟩,⟨rfl,h⟩,by simp[PyData.depth],by rw[im _ h];calc q⟩
end
section
variable {K:Frag}
def hC (h:Has K H d v)(r:aK K H ds vs):aK K H (d::ds) (v::vs):=⟨_,_,rfl,h,r⟩
def hN0:aK K H [] []:=rfl
def hS (h:cA z=true):Has K H (.str z) (.str z):=⟨rfl,h⟩
def hI:Has K H (.int n) (.int n):=rfl
def ajL (h:aK K H ds vs)(e:m ds=#[(b,d)])(q:∀v E,Same H E->Has K E d v->Q v E):Hy K m vs H Q:=⟨H,ds,Same.refl _,h,b,d,e,λv I E g M=>q v E g.hh (by
 cases b with
 |false=>calc Has.same g.fh M
 |true=>
  let(B,a,D,A,G,h1,_,J,C):=M;subst A G;calc⟨a,D,rfl,aU.of J,aK.same g.fh C⟩)⟩
def iu.bnd (S:jJ C names rows nums Q s0 s1)(o:iu nums Q T W ws A)(U:cT T):∀r∈rows,r.2.1∈seenOf nums/\r.2.2.1∈seenOf nums/\r.2.2.2.1.natAbs<2^8000/\(gR (seenOf nums) A r.2.2.1 - gR (seenOf nums) A r.2.1 - r.2.2.2.2).natAbs<2^8000:=λr hr=>by
 have⟨k,g,l,m,p⟩:=S.len;have q:=o.O.ml;have J:=S.fit.len;have G:∀x∈seenOf nums,0<=gR (seenOf nums) A x/\gR (seenOf nums) A x<=T+1:=λx B=>by
  let(i,E):=dq B;have N:i<!A:=by have:=(ah.mp E).1;lk
  delta gR;rw[oZ S.ok.nd E<|ai N];have:=o.O.mb i ∅;rw[LH.mV<|ai N] at this;exact this
 let(j,D):=dq hr;let(x,B):=S.fit.at (j:=j) (by have:=(ah.mp D).1;lk);rw[B.r] at D;cases bv D;let(_,_,M):=B.a;let(_,_,O):=B.b;have H:=ag M;have I:=ag O;have Y:=G _ H;have b1:=G _ I;have⟨_,c,d,e⟩:=S.rx _ hr;have u:=S.ok.dr.wd _ hr;have t:=U.2;have L:(100*bf).natAbs<2^8000/\((10)^60+1+bf).natAbs<2^8000:='k'
 calc⟨H,I,by lk,by lk⟩
structure Std (C CD:Addr)(H:Hp)(x dk p dx nn ll D sA:Addr)(qd:¬PR)(nums:¬(Str×Int))(ls:¬(Str×Q4)):Prop where
 d:ig H CD x dk (.ref p)
 h:aW H C p dx nn ll nums ls
 l:Held H D qd
 s:H sA=#[.lst<|(seenOf nums).map V.str]
def Std.seen (h:Std C I H x J p L N M D Q A nums G)(S:jJ B names (A.map (·.2)) nums G s0 s1):Has K H (gH<|seenOf nums) (.ref Q):=⟨Q,_,rfl,aU.of h.s,fu λz E=>(S.R z<|S.ok.sub z E).1.can⟩
inductive ap1 (C CD:Addr)(vs:¬V)(H:Hp)(Q:VK):Prop
 |mk {qd:¬PR} (e:vs=[.ref x,.ref D,.ref sA,.int T]) (h:Std C CD H x dk p dx nn ll D sA qd nums ls) (S:jJ rooms names (qd.map (·.2)) nums ls s0 s1) (hT:cT T) (q:∀H',Same H H'->Q (.bl true) H')
end
end bV
namespace bV
open L2 VM
def aeA (w:World)(x:Str×Tok×Value):DictEntry:=(keyHash w.params x.1,.str x.1 x.2.1,x.2.2)
theorem Oo:∀l:¬(Str×Tok×Value),Pairs (strKind P w) (l.map<|aeA w) (l.map λx=>((x.1:Key),x.2.2))
 |[]=>.nil
 |x::r=>.cons (by show(x.1==x.1)=true;simp) rfl (Oo r)
def aeB {l:¬(Str×Tok×Value)}(h:K.lookup a=#[(.type "dict",none,.dict (l.map<|aeA w).toArray A,#[])])(C:(l.map (·.1)).Nodup)(hk:KV B (l.map λx=>((x.1:Key),x.2.2)))(G:(a==sysModules)=false):KDict P w K a B:=by
 refine(_,_,h,hk,(_,A,(rfl,rfl,rfl),rfl,λe Q=>?_,by rw[List.toList_toArray];calc Oo l,?_),G)
 .let(x,_,e):=bg.mp<|List.mem_toArray.mp Q;exact(x.1,by rw[<-e];show(x.1==x.1)=true;simp,by rw[<-e];rfl)
 .rw[ce];delta List.Nodup at C ⊢;rw[lI] at C ⊢;calc C.imp λh z=>h<|z
def mY (K:Frag)(a:Addr)(k:¬Str):Prop:=∃(o:Obj) (A:Array Value) (n:Nat),K.lookup a=#[o]/\o.cls=.type "tuple"/\o.data=.seq A n/\A.size<=sizeLine/\Vals (k.map V.str) A.toList
inductive Dc (K:Frag):¬(Str×Tok×Value)->¬(Str×())->Prop
 |nil:Dc K [] []
 |int (r:Dc K l t):Dc K ((x,tk,.int n i)::l) ((x,.int n)::t)
 |tup (h:mY K a ks) (c:ks.all cA=true) (r:Dc K l t):Dc K ((x,tk,.ref a)::l) ((x,.tuple<|ks.map .str)::t)
def Dc.kv (h:Dc K l t):∃B,KV B (l.map λx=>((x.1:Key),x.2.2))/\∀z,(∃d v,iM z t=#[d]/\dO B z=#[v]/\∀H,Has K H d v)\/iM z t=none/\dO B z=none:=by
 have A:∀{x:Str}{d:()} {v:V} {u:Value} {t:¬(Str×())} {J B},RelV v u->(∀H,Has K H d v)->(KV B J/\∀z,(∃d v,iM z t=#[d]/\dO B z=#[v]/\∀H,Has K H d v)\/iM z t=none/\dO B z=none)->∃B,KV B (((x:Key),u)::J)/\∀z,(∃e v,iM z ((x,d)::t)=#[e]/\dO B z=#[v]/\∀H,Has K H e v)\/iM z ((x,d)::t)=none/\dO B z=none:=λ{x d v u t J B} r G ⟨k,q⟩=>by
  refine((x,v)::B,.cons ⟨rfl,r⟩ k,λz=>?_);rw[iM];by_cases c:x=z
  .rw[ap c,jL<|c];exact .inl (d,v,rfl,rfl,G)
  .rw[aw c,jg λy=>c y];exact q z
 induction h with
 |nil=>calc([],.nil,λz=>.inr ⟨rfl,rfl⟩)
 |int r C=>let(_,q):=C;calc A (v:=.int _) ⟨_,rfl⟩ (λ_=>rfl) q
 |tup h c r C=>let(_,q):=C;calc A (v:=.ref _) rfl (λ_=>(_,_,rfl,.inr h,fu λz D=>cp.mp c z D)) q
def FT (P:Program)(w:World)(K:Frag)(a:Addr)(t:¬(Str×())):Prop:=∀E x,E x=#[.ref a]->KTab P w K E x t
def tab_of (h:K.lookup a=#[(.type "dict",none,.dict (l.map<|aeA w).toArray B,#[])])(C:(l.map (·.1)).Nodup)(G:(a==sysModules)=false)(te:Dc K l t):FT P w K a t:=λE x g=>let(_,k,q):=te.kv;.mk g (aeB h C k G) q
def ajM (h:K.lookup t=#[(.type "tuple",O,.seq #[] n,D)]):mY K t []:=(_,_,_,h,rfl,rfl,by decide,.nil)
def U4 (h:K.lookup t=#[(.type "tuple",O,.seq [.str a A].toArray n,D)]):mY K t [a]:=(_,_,_,h,rfl,rfl,by show 1<=sizeLine;decide,.cons ⟨_,rfl⟩ .nil)
def Zx (h:K.lookup t=#[(.type "tuple",O,.seq #[.str a A,.str b B] n,D)]):mY K t [a,b]:=(_,_,_,h,rfl,rfl,by show 2<=sizeLine;decide,.cons ⟨_,rfl⟩<|.cons ⟨_,rfl⟩ .nil)
def aoJ (h:K.lookup t=#[(.type "tuple",O,.seq #[.str a A,.str b B,.str c tc,.str d C,.str e te] n,D)]):mY K t [a,b,c,d,e]:=(_,_,_,h,rfl,rfl,by show 5<=sizeLine;decide,.cons ⟨_,rfl⟩<|.cons ⟨_,rfl⟩<|.cons ⟨_,rfl⟩<|.cons ⟨_,rfl⟩<|.cons ⟨_,rfl⟩ .nil)
def aeC (h:K.lookup a=#[(.type "dict",none,.dict #[(keyHash w.params "turns",.str "turns" C,.int 0 A),(keyHash w.params "people",.str "people" N,.int 1 B)] D,#[])])(G:(a==sysModules)=false):FT P w K a lO:=tab_of (l:=[("turns",C,.int 0 A),("people",N,.int 1 B)]) h (show(["turns","people"]:¬Str).Nodup by decide +kernel) G (.int<|.int .nil)
def aeD (h:K.lookup a=#[(.type "dict",none,.dict #[(keyHash w.params "hall",.str "hall" r,.ref H),(keyHash w.params "lay",.str "lay" v,.ref I),(keyHash w.params "shut",.str "shut" y,.ref J),(keyHash w.params "widen",.str "widen" i,.ref Y),(keyHash w.params "narrow",.str "narrow" z,.ref j),(keyHash w.params "out",.str "out" b,.ref L),(keyHash w.params "walks",.str "walks" c,.ref g),(keyHash w.params "moments",.str "moments" d,.ref t),(keyHash w.params "turns",.str "turns" f,.ref u),(keyHash w.params "worth",.str "worth" s,.ref M),(keyHash w.params "rooms",.str "rooms" E,.ref A),(keyHash w.params "passages",.str "passages" G,.ref B)] x,#[])])(O:mY K H ["name","name"])(Q:mY K I ["name","name","name","number","number"])(k:mY K J ["name"])(T:mY K Y ["name","number"])(n:mY K j ["name","number"])(U:mY K L ["turns"])(m:mY K g ["turns"])(p:mY K t ["turns"])(o:mY K u ["people"])(q:mY K M ["name","turns"])(C:mY K A [])(D:mY K B [])(N:(a==sysModules)=false):FT P w K a lN:=
 tab_of (l:=[("hall",r,.ref H),("lay",v,.ref I),("shut",y,.ref J),("widen",i,.ref Y),("narrow",z,.ref j),("out",b,.ref L),("walks",c,.ref g),("moments",d,.ref t),("turns",f,.ref u),("worth",s,.ref M),("rooms",E,.ref A),("passages",G,.ref B)]) h (show(["hall","lay","shut","widen","narrow","out","walks","moments","turns","worth","rooms","passages"]:¬Str).Nodup by decide +kernel) N (.tup O 'k'<|.tup Q 'k'<|.tup k 'k'<|.tup T 'k'<|.tup n 'k'<|.tup U 'k'<|.tup m 'k'<|.tup p 'k'<|.tup o 'k'<|.tup q 'k'<|.tup C 'k'<|.tup D 'k' .nil)
open PyProof.Rows PySem.W.KIN PySem.NumText
def rO (L:0<=n)(h1:n<10^100):fJ [.str<|↥n]=#[(false,.int n)]:=by
 have h:=sJ L (ft h1 'k');have p:(!↥n)<=100:=toString_length_le L ⋯ h1;have N:zY [.str<|↥n]=#[.int n]:=by show(if _ then _ else _)=_;rw[ap ∅,h.rd];rfl
 have H:pZ [.str<|↥n]=#[.int ((!↥n):Int)]:=ap ∅;have M:Not (↥n=""):=λz=>h.ne (by rw[z];rfl);have Y:1<!↥n->0<n:=λm=>by
  rcases Int.lt_or_eq_of_le L with g|g
  .exact g
  .subst g;exact absurd m<|'k'
 have U:=λz=>h.head<|Y z;have T:ascii ↥n=true:=Xd.mpr λc O=>by have:=(h.ds c O).2;lk
 have G:=h.ds;have E:=h.ne;delta fJ Aq;generalize ↥n=z at*
 have o:∀(l:¬Nat) (x:↑()),(∀c∈l,48<=c/\c<=57)->∃C,eE (gN 1) (gw (vB<|v2 Uo (vN 1)<|vC<|.str "0123456789") (eX<|vC .none) dH) (l.map λc=>PyData.str ⟨[c].toArray⟩) [#[(.fr,.str z)],ob x]=.nxt [#[(.fr,.str z)],ob C]:=λl=>by
  induction l with
  |nil=>intro x _;calc⟨x,rfl⟩
  |cons c l k=>
   intro x J;let⟨C,e⟩:=k (#[.str ⟨[c].toArray⟩]) λd G=>J d<|af _ G;refine⟨C,(Xf (S1:=[#[(.fr,.str z)],#[(.fr,.str ⟨[c].toArray⟩)]]) ?_ ?_).trans e⟩
   .z_go
   .z_go;have O:=J c ae;rw[show Uo (.str ⟨[c].toArray⟩) (.str "0123456789")=#[.bool false] from cw (λb=>#[PyData.bool b]) ((show ∀c,c<58->48<=c->aen "0123456789" ⟨[c].toArray⟩=false by decide +kernel) c ∅ O.1)];z_go
 let⟨C,I⟩:=o ⇑z none λc O=>by have:=G c O;lk
 z_go;rw[wU,aS M];z_go;rw[H];z_go;erw[aS<|show Not (((!z):Int)>100) by lk];z_go;have Q:gq (vN 0) [#[(.fr,.str z)],none]=#[(⇑z).map λc=>PyData.str ⟨[c].toArray⟩]:=ap T;rw[H];z_go;have B:bFn (KH (adb (gq (vN 0) [#[(.fr,.str z)],none]) (gN 1) (gw (vB<|v2 Uo (vN 1)<|vC<|.str "0123456789") (eX<|vC .none) dH) [#[(.fr,.str z)],none])<|eX<|dW zY<|aC (vN 0) a0)=#[(false,PyData.int n)]:=by rw[Q];z_go;rw[gn] at I;rw[I];delta dW;z_go;rw[N];z_go
 by_cases D:((!z):Int)>1
 .erw[a9 D];z_go;cases A:⇑z with
  |nil=>calc absurd A E
  |cons c r=>rw[show KR (.str z) (.int 0)=#[.str ⟨[c].toArray⟩] from K7 (j:=0) ∅ (by rw[A];rfl)];z_go;rw[wU,aS λe=>U ∅ (by have:=(aha (a:=⟨[c].toArray⟩) (l:=[48]) rfl).mp e;cases this;rw[A];rfl)];z_go;exact B
 .erw[aS D];z_go;calc B
end bV
namespace L2
open PySem.W PyProof.Rows
def Itk (f:Key×V->V)(a:Addr)(o:Obj)(B:¬(Key×V)):It:=
 (λi H=>H a=#[.dR o<|.dK B]/\i<!B,λi H v E=>∃A,B[i]? =#[A]/\v=f A/\E=H,λi H=>H a=#[.dR o<|.dK B]/\(!B)<=i)
section
variable {K:Frag}
def abM (a D:Addr)(o:Obj)(B:¬(Key×V))(es:Array DictEntry)(r:Nat)(t:o.data=.dict es r):Turn P w K tg (Itk (λE=>E.2) a o B) [D] D (λi h=>h.IsValIter D a i (!B) r) where
 mem:=by simp
 obj:=λi h st b C=>by
  have e:b=D:=‹C›
  subst e;let(o,e,c,d):=st;exact⟨o,e,λv z=>by rw[d] at z;cases z⟩
 keep:=λi h g st k=>st.at λo e=>k D 's' o e
 item:=by intro X j q Y i A s u H I L st m;subst j q Y;let⟨l,p⟩:=m;let(vs,E,G):=rN I.hok l t;have N:=!E;let(y,n,r1,r2):=Paired.get E<|ai p;rw[N] at st;let(M,O,f2,Q,T,U):=L D 's';refine wpAny_pyNext_values_item st G (k:=y.1) (v:=y.2) n λg J sb=>?_;have f:Inv X A u H {s with heap:=g}:=I.turned (t':=s.toks) (λb o C e=>(sb.2 b C).trans e) M O Q T U;let(o',e,c,d):=id J;exact⟨y.2,rfl,yS (s:={s with heap:=g}) e c d ⋯ ⟨B[i].2,H,f,r2,⟨B[i],ai p,rfl,rfl⟩,by rw[N];calc J,λb C=>(L b C).1⟩⟩
 done:=by intro X j q Y i A s u H I L st m;subst j q Y;let⟨l,p⟩:=m;let(vs,E,G):=rN I.hok l t;have N:=!E;rw[N] at st;let(M,O,f2,Q,T,U):=L D 's';exact wpAny_pyNext_values_end I.ok.hd st G (bm ∅) λg x=>⟨rfl,I.turned (t':=s.toks) (λb o C e=>x b o C e) M O Q T U⟩
 self:=λ_ _ _ _ _ st h=>wpAny_pyIter_valiter st h
def abN (a D:Addr)(o:Obj)(B:¬(Key×V))(es:Array DictEntry)(t:Nat)(u:o.data=.dict es t):Turn P w K tg (Itk (λE=>kV E.1) a o B) [D] D (λi h=>h.IsKeyIter D a i (!B) t) where
 mem:=by simp
 obj:=λi h st b C=>by
  have e:b=D:=‹C›
  subst e;let(o,e,c,d):=st;exact⟨o,e,λv z=>by rw[d] at z;cases z⟩
 keep:=λi h g st k=>st.at λo e=>k D 's' o e
 item:=by intro X j q Y i A s f H I L st m;subst j q Y;let⟨l,p⟩:=m;let(vs,E,G):=rN I.hok l u;have N:=!E;let(y,x,r1,r2):=Paired.get E<|ai p;rw[N] at st;let(M,O,f2,Q,T,U):=L D 's';refine wpAny_pyNext_dict_item st G (k:=y.1) (v:=y.2) x λr g hk J sb=>?_;have n:Inv X A f H {s with heap:=g}:=I.turned (t':=s.toks) (λb o C e=>(sb.2 b C).trans e) M O Q T U;let(o',e,c,d):=id J;exact⟨r,rfl,yS (s:={s with heap:=g}) e c d ⋯ ⟨kV B[i].1,H,n,by rw[r1];calc K3 hk,⟨B[i],ai p,rfl,rfl⟩,by rw[N];calc J,λb C=>(L b C).1⟩⟩
 done:=by intro X j q Y i A s f H I L st m;subst j q Y;let⟨l,p⟩:=m;let(vs,E,G):=rN I.hok l u;have N:=!E;rw[N] at st;let(M,O,f2,Q,T,U):=L D 's';exact wpAny_pyNext_dict_end I.ok.hd st G (bm ∅) λg eb=>⟨rfl,I.turned (t':=s.toks) (λb o C e=>eb b o C e) M O Q T U⟩
 self:=λ_ _ _ _ _ st h=>wpAny_pyIter_keyiter st h
def LC (d:Addr):Obj:={cls:=.type "dict_keys",data:=.fields [.ref d].toArray}
def El (z d:Addr):HO:=HO.ext λh=>h z=#[LC d]
inductive J7:V->¬V->Hp->VK->Prop
 |mk dI:H d=#[.dK dI]->(∀z,H z=none->Q (.ref z) (upd H z<|El z d))->J7 (.ref d) [] H Q
def alA:uo X "dict.keys" J7:=by intro B s O H x M v J Q I L G q;let(D,C,q):=q;rename_i d;cases L;have A:=G.zero;subst A;let(z,hS,E,rel,N):=m8 I.hok C;refine ie ng N.typeIs PySem.F.entry_dict_keys (PySem.F.args_dict_keys_1 _) (kdl_meets_keys (strKind X.prog X.w) _ hS) ⟨⟨E,N⟩,?_⟩;have e:(s.heap.push<|LC d) (~~~s)=#[LC d]:=bc _ rfl;calc⟨.ref _,_,I.laid (o:=El (~~~s) d) (λ_ _ q=>ar _ q) (av _) ⟨e,⟨_,e⟩,λh1 h2 a b=>b _ a⟩,rfl,q _ I.fresh⟩
def U5 (I:PE X o A)(C:(attributeBase o "keys" X.env (eval o X.env)=eval o X.env)∣0)(D:((B.endLine==G.line)=true)∣0):PE X (.Call (.Attribute o "keys" B) [] [] G) (qK X.K "dict" J7 A):=Ay du ng PySem.F.type_dict_keys alA I C D
def Xj (f:Key×V->V)(A:Addr->Addr->HO)(te:TE):TI:=λC H R=>te C H λv J=>∃z a B,v=.ref z/\J z=#[A z a]/\J a=#[.dK B]/\∀o,R (Itk f a o B) (upd J a<|.dR o<|.dK B)
def Xk {e:Expr}(Y:PE X e te):PI X u e (Xj (λk=>k.2) qp te):=by intro A s p H R I h;refine aY (Y A s p H _ I h) ?_;rintro v O ⟨x,t,N,g,z,a,B,Q,j,G,q⟩;subst Q;cases g;let(_,hS,l,rel,M):=m8 N.hok G;let(o,E,D,C,J,d,m,L,r):=id M;refine wpAny_pyIter_values (_,((N.hok z _ j).1),rfl,rfl) (o,E,C,J,d,m,L,r) ?_;refine(~~~O,[~~~O],_,_,_,rfl,(N.kept (t':=O.toks) (h':=O.heap.push {cls:=.type "dict_valueiterator",data:=.fields #[.ref a,.int 0 0,.int (!l) 0,.int D 0]}) λb ob e=>ar _ e).still G<|ar _ C,abM a _ o B E D d,by rw[!rel];calc(_,bc _ rfl,rfl,rfl),λb T=>?_,q o);rw[aI.mp T];have U:=N.hok.fresh<|av (~~~O);refine N.uU (av _) ?_;rw[au λy=>by rw[y,G] at U;cases U];calc U
def LQ {e:Expr}(Y:PE X e te):PI X u e (Xj (λk=>kV k.1) El te):=by intro A s p H R I h;refine aY (Y A s p H _ I h) ?_;rintro v O ⟨x,t,N,g,z,a,B,Q,j,G,q⟩;subst Q;cases g;let(_,hS,l,rel,M):=m8 N.hok G;let(o,E,D,C,J,d,m,L,r):=id M;refine kdl_pyIter_keys (_,((N.hok z _ j).1),rfl,rfl) (o,E,C,J,d,m,L,r) ?_;refine(~~~O,[~~~O],_,_,_,rfl,(N.kept (t':=O.toks) (h':=O.heap.push {cls:=.type "dict_keyiterator",data:=.fields #[.ref a,.int 0 0,.int (!l) 0,.int D 0]}) λb ob e=>ar _ e).still G<|ar _ C,abN a _ o B E D d,by rw[!rel];calc(_,bc _ rfl,rfl,rfl),λb T=>?_,q o);rw[aI.mp T];have U:=N.hok.fresh<|av (~~~O);refine N.uU (av _) ?_;rw[au λy=>by rw[y,G] at U;cases U];calc U
def tLo (t:TE):TE:=λA H Q=>∃a B,H a=#[.dK B]/\t A H λv E=>∃o,E a=#[.dR o<|.dK B]/\Q v (upd E a<|.dK B)
def U6 {e:Expr}(h:PE X e t):PE X e (tLo t):=by intro A s E H Q I q;let(a,B,G,q):=q;refine aY (h A s E H _ I q) λu L C=>?_;let(v,J,D,r,o,h1,h2):=C;calc(v,_,Inv.loose I G D h1,r,h2)
end
end L2
namespace bV
open PyProof.Rows L2 VM
def aeE {J:It}(n:Nat)(Pv:Nat->L2.St->Hp->Prop)(L:Pv 0 B H)(hg:∀i B H,i<n->Pv i B H->J.go i H)(M:∀i B H x E,i<n->Pv i B H->J.Z5 i H x E->g x B E λG C=>N {D with nx:=Pv<|i+1} G C)(I:∀B H,Pv n B H->J.stop n H/\D.nx B H):ux J g N D B H:=by
 refine(λi m B H=>m=n - i/\i<=n/\Pv i B H,(n,by simp,cv _,L),?_);rintro i m B H ⟨rfl,Q,p⟩;by_cases A:i<n
 .exact .inr (hg i B H A p,Pv<|i+1,λO E T=>(n - (i+1),by lk,rfl,A,T),λx E y=>M i B H x E A p y)
 .have e:i=n:=by lk
  subst e;calc .inl<|I B H p
abbrev Dd (q:Str×Str×Int×Int):¬V:=[.str q.1,.str q.2.1,.int q.2.2.1,.int q.2.2.2]
def tW (H:Hp)(m:Addr)(rows:¬Row):Prop:=∃B,H m=#[.dK B]/\Paired (yw Dd H) B rows
def tW.grow (h:tW H m rows)(s:Same H E):tW E m rows:=by let(B,a,b):=h;calc(B,s _ _ a,b.mono λ_ _ z=>z.same λt D e=>s _ _ e)
def w5 {H:Hp}(h:H a=#[o]):upd (upd H a u) a o=H:=funext λb=>by
 by_cases e:b=a
 .rw[e,ao,h]
 .rw[au e,au e]
def rP {H:Hp}(h:a≠b):upd (upd H a o) b u=upd (upd H b u) a o:=funext λc=>by
 by_cases e:c=b
 .subst e;rw[ao,au h.symm,ao]
 .by_cases G:c=a
  .subst G;rw[au e,ao,ao]
  .rw[au e,au G,au G,au e]
section
variable {K:Frag}
def lpV {D:Ends}(e:u[k]? =#[#[.ref m]])(hm:tW C m rows)(s0:Same C H)(G:Nat->L2.St->Hp->Prop)(s:∀E,Same H E->G 0 u E)
  (hs:∀i r A E t o B,rows[i]? =#[r]->E m=#[.dR o<|.dK B]->Same C (upd E m<|.dK B)->G i A (upd E m<|.dK B)->E t=#[.tup<|Dd r.2]->g (.ref t) A E λT v=>tb {D with nx:=λU N=>N m=#[.dR o<|.dK B]/\Same C (upd N m<|.dK B)/\G (i+1) U (upd N m<|.dK B)} T v)
  (h:∀A E,Same C E->G (!rows) A E->D.nx A E):
  ∃a B,H a=#[.dK B]/\FP (Xj (λQ=>Q.2) qp<|qK K "dict" Jy<|vR k) g tb {D with nx:=λA E=>∃o,E a=#[.dR o<|.dK B]/\D.nx A (upd E a<|.dK B)} u H:=by
 let(B,I,l):=hm;have M:=s0 _ _ I;have hl:=!l;refine⟨m,B,M,?_⟩;rw[qM];delta Xj qK;refine ak e ⟨.inr<|.inr ⟨rfl,B,M⟩,.mk B M λz q=>⟨z,m,B,rfl,ao,by rw[au<|aV M q];calc M,λo=>?_⟩⟩;have Y:=aH (o:=qp z m) q;generalize upd H z (qp z m)=H1 at Y;have J:=Y _ _ M;refine aeE (!B) (λi A E=>E m=#[.dR o<|.dK B]/\Same C (upd E m<|.dK B)/\G i A (upd E m<|.dK B)) ⟨ao,by rw[w5 J];calc s0.trans Y,by rw[w5 J];calc s _ Y⟩ (λi A E j p=>⟨p.1,j⟩) (λi A E x L j p y=>?_) λA E p=>⟨⟨p.1,av _⟩,o,p.1,h _ _ p.2.1<|hl▸p.2.2⟩;let(Q,b,c,d):=y;subst c d;let(r,f,e5,t,n,O):=l.get b;show g Q.2 A L _;rw[n];refine hs i r A _ t o B f p.1 p.2.1 p.2.2 ?_;have w:=p.2.1 _ _ O;rwa [au λy=>by rw[y,I] at O;cases O] at w
def gF (near:¬Str)(r:Row):¬Str:=if r.2.1∈near/\Not (r.2.2.1∈near) then near++[r.2.2.1] else near
def cN (rows:¬Row):Nat->¬Str
 |0=>["den"]
 |n+1=>rows.foldl gF<|cN rows n
def qz (rows:¬Row):Bool:=(cN rows 7).any λy=>y=="yard"
def U7 (rows:¬Row)(A:¬Str):(!(rows.foldl gF A))<=(!A)+!rows:=by
 induction rows generalizing A with
 |nil=>calc av _
 |cons r rows B=>
  have h:=B<|gF A r
  have:(!(gF A r))<=(!A)+1:=by
   delta gF;split
   .rw[aE];exact av _
   .omega
  rw[eQ,a8];lk
def Oq (h:(!rows)<=8)(n:Nat):(!(cN rows n))<=1+n*8:=by
 induction n with
 |zero=>calc av _
 |succ n A=>have:=U7 rows<|cN rows n;show (!(rows.foldl gF<|cN rows n))<=_;lk
inductive Ma (vs:¬V)(H:Hp)(Q:VK):Prop
 |mk (e:vs=[.ref m]) (hm:tW H m rows) (hl:(!rows)<=8) (q:∀H',Same H H'->Q (.bl<|qz rows) H')
def w6 (xs:¬Str):(xs.map V.str).all rQ=true:=by rw[cp];intro v M;let(x,_,e):=bg.mp M;rw[<-e];rfl
theorem aeF (B:Bl E.mg)(h:GF E K 59):CO E K 59 1 Ma:=by
 refine BX ["_law_model","_law_near","_law_time","_law_a","_law_b","_law_width","_law_length"] h (λvs H Q h=>by let(rfl,_):=h;rfl) λH nd vt hr nY=>?_;refine⟨_,aq (pS 1 (jX (aj aQ aG)))
  (aq (jx (v9 gx B.range (aj aN aG)) (pG 2) (aJ (vY (jx (Xk (Jz (pU 0))) (m6 (bM (pG 3) (bM (pG 4) (bM (pG 5) (bM (pG 6) jZ)))))
   (aJ (bI (PW.pt (QV (eU Sd (pU 3) (pU 1)) (Ke (eU mD (pU 4) (pU 1))))) (aJ (cG (Dm (pU 1) (aj (pU 4) aG)))) aX))))))
  (aJ (aZ (peC Sd aQ (pU 1))))),?_⟩
 let(rfl,hm,hl,hq):=nY;have hm0:=hm;refine bh λN hN=>⟨by decide,λn hn=>hN _ _ ?_⟩;have s1:=aH (o:=.lst [.str "den"]) hn;have hn1:upd H n (.lst [.str "den"]) n=#[.lst<|(cN rows 0).map V.str]:=ao;generalize upd H n (.lst [.str "den"])=H1 at s1 hn1 ⊢;have v8:n≠m:=λz=>by let(dI,e,_):=hm0;rw[<-z,hn] at e;k_go
 f_len;rw[qM];refine⟨7,rfl,by decide,by decide,?_⟩;refine aeE 7 (λi mK H'=>(∃y2 y3 y4 y5 y6,mK=[#[.ref m],#[.ref n],y2,y3,y4,y5,y6])/\Same H H'/\H' n=#[.lst<|(cN rows i).map V.str]) ⟨⟨_,_,_,_,_,rfl⟩,s1,hn1⟩ (λi mK H' hi p=>hi) ?_ ?_
 .rintro i mK H' x pq hi ⟨⟨y2,y3,y4,y5,y6,rfl⟩,sm,hnr⟩ ⟨rfl,rfl⟩;refine lpV rfl hm sm (λj σ3 H3=>(∃y3 y4 y5 y6,σ3=[#[.ref m],#[.ref n],#[.int<|0+i],y3,y4,y5,y6])/\H3 n=#[.lst<|((rows.take j).foldl gF<|cN rows i).map V.str]) (λH3 s3=>⟨⟨_,_,_,_,rfl⟩,s3 _ _ hnr⟩) ?_ ?_
  .intro j r σ3 H3 t o dI hr hf sm3 hi3 ht;obtain⟨⟨y3,y4,y5,y6,rfl⟩,Df⟩:=hi3;have htk:rows.take (j+1)=rows.take j++[r]:=by rw[eJ,hr];rfl
   rw[htk,kH];have hnl:(!((rows.take j).foldl gF<|cN rows i))<1000:=by have h1:=U7 (rows.take j)<|cN rows i;have h2:=Oq hl i;have h3:=jv j rows;lk
   generalize (rows.take j).foldl gF (cN rows i)=nr at Df hnl;rw[au v8] at Df;refine⟨_,cF.of ht,rfl,?_⟩;dsimp only[gV,cg,uz,kP,kQ];delta d8 QT mG;refine cC<|ak rfl<|ak rfl ⟨n,_,rfl,.inl<|aU.of Df,rfl,w6 _,?_⟩;rw[zL];k_ne;have ek:∀{nr'},gF nr r=nr'->[r].foldl gF nr=nr':=λe=>e;by_cases ha:r.2.1∈nr
   .rw[Eb.mpr ha];refine cC<|ak rfl<|ak rfl ⟨n,_,rfl,.inl<|aU.of Df,rfl,w6 _,?_⟩;rw[zL];k_ne;by_cases hb:r.2.2.1∈nr
    .rw[Eb.mpr hb];refine⟨hf,sm3,⟨_,_,_,_,rfl⟩,?_⟩;rw[au v8,Df,ek<|aw λz=>z.2 hb]
    .rw[ge.mpr λz=>hb<|Eb.mp z];rw[ap<|show(if true=true then not false else false)=true from rfl];refine JR ?_;delta pN;refine ak rfl ⟨.inl ⟨rfl,_,aU.of Df⟩,ak rfl ⟨_,Df,bw ?_,?_⟩⟩
     .rw[ac];lk
     .refine⟨by rw[au v8.symm];calc hf,λb ob e=>by rw[rP v8,au<|aV e hn];calc sm3 b ob e,⟨_,_,_,_,rfl⟩,?_⟩;rw[rP v8,ao,ek<|ap ⟨ha,hb⟩,b7];rfl
   .rw[ge.mpr λz=>ha<|Eb.mp z];refine⟨hf,sm3,⟨_,_,_,_,rfl⟩,?_⟩;rw[au v8,Df,ek<|aw λz=>ha z.1]
  .rintro σ3 H3 sm3 ⟨⟨y3,y4,y5,y6,rfl⟩,Df⟩;rw[bn<|av _] at Df;exact⟨⟨_,_,_,_,_,rfl⟩,sm3,Df⟩
 .rintro mK H' ⟨⟨y2,y3,y4,y5,y6,rfl⟩,sm,hnr⟩;refine⟨av _,hN _ _ ?_⟩;refine ji<|cC<|cO<|ak rfl ⟨n,_,rfl,.inl<|aU.of hnr,rfl,w6 _,?_⟩;rw[zL];calc hq _ sm
end
open StrLaws
abbrev R6:¬Str:=["den","yard","dens","ard","a","barn"]
abbrev N9:¬Str:=["pa","pb","pc","pd","pe","pf","pg","ph","pi"]
abbrev S8 (rows:¬Row)(nums:¬(Str×Int))(x:¬(Str×Q4)):Prop:=jJ R6 N9 rows nums x "den" "yard"
structure mz (C CD:Addr)(H:Hp)(x dk p dx nn ll m:Addr)(rows:¬Row)(nums:¬(Str×Int))(ls:¬(Str×Q4)):Prop where
 d:ig H CD x dk (.ref p)
 h:aW H C p dx nn ll nums ls
 md:tW H m rows
theorem mz.grow (h:mz C A H x I p B J D m rows nums G)(s:Same H E):mz C A E x I p B J D m rows nums G:=⟨s _ _ h.d,h.h.grow s,h.md.grow s⟩
section
variable {K:Frag}
def Fy {g:Int->Int->V}{Q:VK}(h:Q (g i j) H):rM g (.int i) (.int j) H Q:=h
def bY (h:Q [] H):d9 B H Q:=h
def Zy {Q:VK}(e:j[k]? =#[#[.ref m]])(hk:H m=#[.dK B])(U:(!B)<=1000)(q:∀D E,Same H E->H D=none->E D=#[.lst<|B.map λC=>kV C.1]->Q (.ref D) E):
  tLo (sX (Xj (λC=>kV C.1) El<|qK K "dict" J7<|vR k) [none] (cg 0) Dk<|vR 0) j H Q:=by
 refine⟨m,B,hk,?_⟩;delta sX Xj qK;refine ak e ⟨.inr<|.inr ⟨rfl,B,hk⟩,.mk B hk λz L=>⟨z,m,B,rfl,ao,by rw[au<|aV hk L];calc hk,λo D hD=>?_⟩⟩;have Y:=aH (o:=El z m) L;have G:=Y _ _ hk;generalize upd H z (El z m)=g at Y G hD ⊢;have A:D≠m:=λy=>by rw[y,ao] at hD;cases hD
 rw[au A] at hD;refine⟨λi n E=>n=(!B) - i/\i<=!B/\E m=#[.dR o<|.dK B]/\E D=#[.lst<|(B.take i).map λC=>kV C.1]/\Same H (upd E m<|.dK B),⟨_,rfl,cv _,by rw[au A.symm,ao],ao,λb ob e=>?_⟩,?_⟩
 .rw[rP A,w5 G,au<|aV (Y _ _ e) hD];exact Y _ _ e
 rintro i n E ⟨rfl,l,I,J,sm⟩;by_cases c:i<!B
 .refine .inr ⟨⟨I,c⟩,λx M y=>?_⟩;let(C,N,O,T):=y;subst O T;refine⟨dD.skip dD.nil,?_⟩;delta Dk;k_ne;rw[ap rfl];refine ak rfl ?_;refine⟨_,J,dL (by rw[ac];calc jv ..) (dL U<|by decide),_,ja _ _ c,rfl,c,by rw[au A.symm];calc I,?_,λb ob e=>?_⟩
  .rw[ao,eJ,N,b7];rfl
  .rw[rP A,au<|aV (Y _ _ e) hD];exact sm _ _ e
 .have e:i=!B:=by lk
  subst e;rw[bn<|av _] at J;refine .inl ⟨⟨I,av _⟩,o,I,q D _ sm (Y.free hD) ?_⟩;rwa [au A]
def ajR (K:Frag){Q:VK}{ws:¬Str}(e:vU tQ (.str z) (.str y)=#[.list<|ws.map .str])(n:cA y=true)(q:∀a E,Same H E->H a=none->E a=#[.lst<|ws.map V.str]->Q (.ref a) E):JV (.str z) [.str y] H Q:=
 vq (K:=K) H H H H z (.str y) _ Q e (bA.refl<|Same.refl _) (.str y) ⟨rfl,n⟩ λv A E g r=>by let(D,a,I,B,G,J,_,k,C):=r;cases B;cases G;rw[yp C] at k;calc q a E g.hh J k
def Ot {t u:TS}(n L)(h:qF K H B L)(e:f (cu n L)=#[false])(q:∀E,Same H E->d8 c t u D B E)(C:((!B)=n)∣0):d8 (Mi (gQ K f) c) t u D B H:=VM.Ci (h.at C) e q
def alB {l:¬(Str×B)}{i:Nat}(nd:(l.map (·.1)).Nodup)(A:l[i]? =#[x]):Not (x.1∈(l.take i).map (·.1)):=λz=>by rw[map_take] at z;calc aei nd (by rw[ay,A];rfl) z
def neL {d:()}(h1:Has K H d x)(h2:Has K H d y)(G:d.depth<=60)(q:Q (.bl false) H):Gd K x y H Q:=⟨d,d,h1,h2,G,by rw[im _ h1.can];calc q⟩
inductive ajS (K:Frag)(C CD:Addr)(vs:¬V)(H:Hp)(Q:VK):Prop
 |mk (e:vs=[.ref x,.ref m,.int T,.ref rA]) (h:mz C CD H x dk p dx nn ll m rows nums ls) (hr:H rA=#[.lst<|(seenOf nums).map V.str]) (S:S8 rows nums ls) (hT:cT T) (o:iu nums ls T W ws bU) (q:∀H',Same H H'->Q (.int W) H')
theorem abP (B:Bl E.mg)(cD:Cls K CD)(tX:MO E K CD (yN 1) 9 (dZ K CD C))(Cn:CV E K 53 1 fJ)(h:GF E K 57):CO E K 57 10 (ajS K C CD):=by
 refine BX ["_law_desk","_law_model","_law_turns_here","_law_rooms","_law_moments","_law_piece","_law_name","_law_colon","_law_text","_law_moment","_law_bound_here","_law_a","_law_b","_law_width","_law_length"] h (λvs H Q h=>by let(rfl,_):=h;rfl) λH nd vt hr nY=>?_;refine⟨_,aq (pS 4 zH)
  (aq (jx (jW (oF cf df de mO (pM tX (pU 0) (aj (bK bJ aQ (bF cStr gx B.str boot_str (aj (pU 2) aG))) aG)) (aj aQ aG))) (pG 5)
   (aq (Av (Fo ma l6 K5 Y0 (mw (dN (pU 5))) (sw (oR 'k'))) (m6 (bM (pG 6) (bM (pG 7) (bM (pG 8) jZ)))))
   (aq (pS 9 (Bp (pC Cn (xW (dF (pU 8)) Ey))))
   (aq (bI (PW.pt (gG (dG Bc hIs (mw (dN (pU 9))) (sw pP)) (gG (dG M4 hGt (mw (dN (pU 9))) (sw (cJ gK lY (mw (dN (pU 2))) (sw bQ)))) (iV (sO (aaP (dJ hr) (pU 6) (pU 4))))))) (aJ (aZ nO)) aX)
   (aJ (m9 (dJ hr) (pU 4) (pU 6) (pU 9) rfl))))))
  (aq (bI (PW.pt (gG (eU (fY hr.units) (U6 (Dl (cap:=[none]) ["_law_desk","_law_model","_law_turns_here","_law_rooms","_law_moments","_law_piece","_law_name","_law_colon","_law_text","_law_moment","_law_bound_here","_law_a","_law_b","_law_width","_law_length"] (aP (top 57)) 'k' rfl rfl (LQ (U5 (pU 4))) (λ_ _ _ _ _=>qC (i:=0) (show(["_law_name"]:¬Str).Nodup by decide +kernel) 'k') (λ_ _ _ _ _=>lU) (λ_ _ _ _ _=>lF 'k' 0))) (pU 3)) (gG (eU (fY hr.units) (gP (dJ hr) (pU 4) aQ (λ_ _=>rfl)) aN) (iV (eU (fY hr.units) (gP (dJ hr) (pU 4) aQ (λ_ _=>rfl)) (bK gK (pU 2) aN)))))) (aJ (aZ nO)) aX)
  (aq (pS 10 aN)
  (aq (vY (jx (Xk (Jz (pU 1))) (m6 (bM (pG 11) (bM (pG 12) (bM (pG 13) (bM (pG 14) jZ)))))
   (aJ (pS 10 (bK gK (pU 10) (bK Rm (pU 13) (cI aad gx B.max PyProof.Rows.boot_max (aj aN (aj (bK qL (bK qL (gP (dJ hr) (pU 4) (pU 12) (λ_ _=>rfl)) (gP (dJ hr) (pU 4) (pU 11) (λ_ _=>rfl))) (pU 14)) aG)))))))))
  (aJ (aZ (pU 10))))))),?_⟩
 let(rfl,h,hrA,S,hT,ou,hq):=nY;have⟨l1,l2,l3,l4,l5⟩:=S.len;have ml:=ou.O.ml;have hm:=(ou.CX S hT).1;have hzl:(!((seenOf nums).zip bU))=!nums:=by rw[jS];lk
 dsimp only[gA];refine bh λN hN=>fG λd hd=>hN _ _<|bh λN hN=>Uj ?_;have s1:=aH (o:=.dK []) hd;have hd1:upd H d (.dK []) d=#[.dK []]:=ao;generalize upd H d (.dK [])=H1 at s1 hd1 ⊢;have s1H:=h.grow s1;have v8:(((seenOf nums).zip bU).map (·.1)).Nodup:=by rw[show((seenOf nums).zip bU).map (·.1)=seenOf nums from ku ∅];exact S.ok.nd
 delta pN;refine Ac rfl s1H.d 'k' (λR r=>ak rfl r) hT.z<|aex S s1H.d s1H.h ou hT λH2 s2=>⟨rfl,aM<|cO<|bY<|ajR K (ws:=((seenOf nums).zip bU).map lE) (uT Zv Lz (λz=>?_) (λz hz=>by let(x,hx,e):=bg.mp hz;calc e▸(hm x hx).sc) (λz hz=>by let(x,hx,e):=bg.mp hz;calc e▸(hm x hx).ok) ?_ (by rw[ac];lk)) J5 λa H3 s3 ha hx=>⟨a,rfl,⟨_,aU.of hx⟩,?_⟩⟩
 .have:=cw List.length z;rw[ac,hzl,c9] at this;lk
 .have:=join_le (s:="; ") (B:=84) λz hz=>by let(x,hx,e):=bg.mp hz;exact e▸(hm x hx).len
  rw[ac,tU] at this;lk
 have s13:=s1.trans<|s2.trans s3;have U8:=s3 _ _<|s2 _ _ hd1;have hmb:∀y∈(seenOf nums).zip bU,0<=y.2/\y.2<=T+1:=λy hy=>by let(v,ev):=dq (g9 hy).2;have hv:=(ah.mp ev).1;have:=ou.O.mb v ∅;rw[LH.mV ev] at this;exact this
 have hT2:T+1<10^100:=ft (show T+1<10^60+1 by have:=hT.2;lk) 'k';generalize hms:(seenOf nums).zip bU=ms at hm hzl v8 hx hmb;refine forA (ws:=ms) (λx=>V.str<|lE x) (λ_ (y:↑V×↑V×↑V×↑V×↑V)=>[#[.ref x],#[.ref m],#[.int T],#[.ref rA],#[.ref d],y.1,y.2.1,y.2.2.1,y.2.2.2.1,y.2.2.2.2,none,none,none,none,none]) (λi H'=>Same H H'/\H' d=#[.dK<|(ms.take i).map oX]/\H' a=#[.lst<|ms.map λx=>V.str<|lE x]) (none,none,none,none,none) rfl ⟨s13,U8,by rw[ce] at hx;calc hx⟩ (λi H' h=>aU.of h.2.2) ?_ ?_
 .rintro i y w H' hy ⟨sm,Dg,ha'⟩;have Ou:=hm y<|ag hy;have hyb:=hmb y<|ag hy;refine bh λN hN=>tvP 15 [(5,.str<|lE y)] (.c rfl ⟨rfl,Ou.ok⟩ .n) Ou.part λHa sa=>hN _ _ ?_;refine bh λN hN=>qG 15 [(8,.str<|↥y.2)] (.c rfl ⟨rfl,Ou.n.z.ok⟩ .n) (z0:=y.2) (by dsimp only[cu];z_go;rw[rO hyb.1 ∅];rfl) λHb sb=>hN _ _ ?_;refine bh λN hN=>Ot 15 [(9,.int y.2)] (.c rfl rfl .n) (by dsimp only[cu];z_go) λHc sc=>Ot 15 [(2,.int T),(9,.int y.2)] (.c rfl rfl<|.c rfl rfl .n) (by dsimp only[cu];z_go;rw[aS<|show Not (y.2>T+1) by lk]) λHd sd=>?_;have sx:=sa.trans<|sb.trans<|sc.trans sd;have Dg:=sx _ _ Dg;have hno:=alB v8 hy;delta d8 tB ado;refine ak rfl<|ak rfl ⟨d,_,rfl,gO.k (k:=y.1) Dg,_,rfl,?_⟩;rw[uQ,wL hno];refine hN _ _ ?_;refine ak rfl (ak rfl<|ak rfl ⟨d,_,rfl,qW.k (k:=y.1) Dg<|bw ?_,⟨(_,_,_,_,_),rfl⟩,λb o e=>?_,?_,?_⟩)
  .rw[ac,fm];lk
  .rw[au<|aV e hd];exact sx _ _<|sm _ _ e
  .rw[ao,Wi,vG hno,eJ,hy];rfl
  .rw[au (akJ Dg (sx _ _ ha')<|λz=>by cases z).symm];exact sx _ _ ha'
 .rintro w H' ⟨sm,Dg,_⟩;rw[bn<|av _] at Dg;refine hN _ _<|bh λN hN=>orO<|cC ?_;have hkn:(ms.map oX).map (λkv=>kV kv.1)=(seenOf nums).map V.str:=by rw[ce,show seenOf nums=ms.map (·.1) by rw[<-hms];calc(ku ∅).symm,ce];rfl
  have hcs:∀x∈seenOf nums,(PyData.str x).canLay0=true:=λx hx=>(S.R x<|S.ok.sub x hx).1.can;have hat:∀x∈seenOf nums,dO (ms.map oX) x=#[.int<|gR (seenOf nums) bU x]:=λx hx=>by let(v,e):=pA (l:=ms) (nm:=x) (by rw[<-hms,ku ∅];calc hx);rw[uQ,e];delta gR;rw[hms,e];rfl
  let(more,S6):=S.sn;have ajX:∀(j:Nat) z v,(seenOf nums)[j]? =#[z]->PM.lf bU j=v->dO (ms.map oX) z=#[.int v]:=λj z v e g=>by
   have hj:j<!bU:=by have:=(ah.mp e).1;lk
   have e2:=ai hj;rw[hat z<|ag e];delta gR;rw[oZ S.ok.nd e e2,←g,LH.mV e2];rfl
  refine Zy rfl Dg (by rw[ac];lk) λD H2 s2 hD0 hD=>?_;refine ak rfl ?_;have s02:=sm.trans s2;rw[hkn] at hD;refine neL (d:=gH<|seenOf nums) ⟨D,_,rfl,aU.of hD,fu hcs⟩ ⟨rA,_,rfl,aU.of (s02 _ _ hrA),fu hcs⟩ (qe _) (orF (orO (cC (ak rfl (cO ⟨d,.int 0,rfl,by rw[<-ajX 0 "den" 0 (by rw[S6];rfl) ou.O.m0];calc gO.k (k:="den")<|s2 _ _ Dg,cO<|Xi<|orF<|yL<|cC<|ak rfl<|cO ⟨d,.int<|T+1,rfl,by rw[<-ajX 1 "yard" (T+1) (by rw[S6];rfl) ou.O.m1];calc gO.k (k:="yard")<|s2 _ _ Dg,cC<|ak rfl<|cO<|Xi<|rG<|hN _ _ ?_⟩⟩)))));refine bh λN hN=>fG<|cO<|hN _ _<|bh λN hN=>?_;have hdm:d≠m:=λz=>by let(dI,e,_):=h.md;rw[<-z,hd] at e;k_go
  refine lpV rfl h.md s02 (λi mK H'=>(∃y11 y12 y13 y14,mK=[#[.ref x],#[.ref m],#[.int T],#[.ref rA],#[.ref d],w.1,w.2.1,w.2.2.1,w.2.2.2.1,w.2.2.2.2,#[.int ((rows.take i).map<|lC (seenOf nums) bU).sum],y11,y12,y13,y14])/\H' d=#[.dK<|ms.map oX]) (λH' s'=>⟨⟨_,_,_,_,rfl⟩,s' _ _<|s2 _ _ Dg⟩) ?_ ?_
  .rintro i r mK H' t o dI er hf sm' ⟨⟨y11,y12,y13,y14,rfl⟩,Zz⟩ ht;rw[au hdm] at Zz;let(ha,hb,hbw,hbm):=ou.bnd S hT r<|ag er;have hbi:(if gR (seenOf nums) bU r.2.2.1 - gR (seenOf nums) bU r.2.1 - r.2.2.2.2>0 then gR (seenOf nums) bU r.2.2.1 - gR (seenOf nums) bU r.2.1 - r.2.2.2.2 else 0).natAbs<2^8000:=by
    split
    .exact hbm
    .exact dL (cv _) hbm
   have es:((rows.take<|i+1).map<|lC (seenOf nums) bU).sum=((rows.take i).map<|lC (seenOf nums) bU).sum+lC (seenOf nums) bU r:=by rw[eJ,er];simp
   rw[es];refine⟨_,cF.of ht,rfl,?_⟩;dsimp only[gV,cg,uz,kP,kQ];exact fG<|cC<|ak rfl<|cC<|ak rfl<|cbO<|aM<|cO<|aM<|cC<|cC<|ak rfl<|ak rfl ⟨d,.int<|gR (seenOf nums) bU r.2.2.1,rfl,by rw[<-hat _ hb];calc gO.k (k:=r.2.2.1) Zz,ak rfl<|ak rfl ⟨d,.int<|gR (seenOf nums) bU r.2.1,rfl,by rw[<-hat _ ha];calc gO.k (k:=r.2.1) Zz,Fy<|ak rfl<|Fy<|bY ⟨0,_,rfl,⟨hbw,hbi⟩,hf,sm',⟨_,_,_,_,rfl⟩,by rw[au hdm];calc Zz⟩⟩⟩
  .rintro mK H' sm' ⟨⟨y11,y12,y13,y14,rfl⟩,_⟩;rw[bn<|av _,(ou.CX S hT).2.1];calc hN _ _<|ji<|ak rfl<|hq _ sm'
end
end bV
namespace L2
open PySem.W PyProof.Rows
section
variable {P:Program}{w:World}{A:Around}{E:Value->Shared->Prop}{s:Shared}
def abS {R:Result->Shared->Prop}{G:Array GenState->Array GenState->Prop}{Pv:Nat->Value->Prop}{L:Nat->Shared->Prop}{fp C:¬Addr}{n:Nat}{ws:¬Str}(W:WalksS P w A.in1 it fp C G n Pv L)(M:Not (z∈fp))(hn:(!ws)=n)(hv:∀i v,Pv i v->∃t,v=.str (ws.getD i "") t)(nd:ws.Nodup)(hb:n+1<scanBound)(k:Nat):
  ∀(i:Nat) (s:Shared),n - i=k->i<=n->L i s->s.heap.SetOf (strKind P w) z (λx=>decide<|x∈ws.take i) i->(∀B,Moved (z::C) G s B->B.heap.SetOf (strKind P w) z (λx=>decide<|x∈ws) n->R (.ok<|.ret .none) B)->codeAny (model P w) A (.builtin "set.update.loop" ⟨[.ref z,.ref it],[]⟩) R s:=by
 have hw:Not (z∈C):=λy=>M<|W.sub _ y;have Q:∀b∈C,b∈z::C:=λb y=>af _ y;have O:∀{s B:Shared}{f:Str->Bool} {j:Nat},Moved C G s B->s.heap.SetOf (strKind P w) z f j->B.heap.SetOf (strKind P w) z f j:=λm S=>by let(o,d,u,t,h,r):=S;exact(o,d,u,t,m.heap z _ hw h,r)
 induction k with
 |zero=>
  intro i s g l st S q;have e:i=n:=by lk
  subst e;refine gu ka ?_;rw[gc fF _];refine aa<|W.done s _ _ st λB m=>ax<|q B (m.mono Q) ?_;have T:=O m S;rwa [bn ∅] at T
 |succ k ih=>
  intro i s g l st S q;refine gu ka ?_;rw[gc fF _];refine aa (W.item i s _ _ ∅ st λv B pv I m=>?_);let⟨t,a⟩:=hv i v pv;subst a;have N:i<!ws:=by lk
  have H:ws[i]? =#[ws.getD i ""]:=by rw[ai N,br,ai N];rfl
  have no:decide (ws.getD i ""∈ws.take i)=false:=aS λy=>by have D:=nd;rw[<-iX i ws,eK N] at D;refine(dQ.mp D).2.2 _ y _ ae ?_;rw[ai N] at H;exact(bv H).symm
  refine aa<|dT ?_;delta setAdd;refine dT<|aa<|(strKind P w).pyHash (k:=ws.getD i "") (strKind_is _ _ _ _) ?_;refine wpAny_setAddHashed_of (knd:=strKind P w) (s:={B with toks:=B.toks+1}) (strKind_is _ _ _ _) rfl (show B.heap.SetOf _ _ _ _ from O m S) ∅ λh' p U=>?_;refine ax ⟨iP fF _,ih (i+1) _ ∅ ∅ (W.frame _ B _ _ I (kx _) λb y o e=>?_) ?_ λs2 m2 Y=>q s2 (Moved.trans W.gtrans ((m.mono Q).then_heap (kx _) λb o y e=>?_) m2) Y⟩
  .rw[p.2 b λJ:b=z=>M<|J▸y];exact e
  .refine SetOf_congr U (λx=>?_) (by rw[no];rfl);rw[eJ,H];by_cases c:x∈ws.take i<;>simp[c]
  .rw[p.2 b λJ:b=z=>y (by rw[J];calc ae)];calc e
def GZ (b:Bool):Obj:={cls:=.type "set",dict:=none,data:=.set #[] 0 (.fresh 0 0 b)}
def abT {Q:Value->Shared->Prop}{ws:¬Str}{B:Array Value}(hh:A.handled=none)(hl:s.heap.IsList l B)(hn:(!ws)=B.size)(hv:∀(i:Nat) v,B[i]? =#[v]->∃t,v=.str (ws.getD i "") t)(nd:ws.Nodup)(U:B.size+1<scanBound)
  (q:∀h' Y,h'.SetOf (strKind P w) (~~~s) (λx=>decide<|x∈ws) B.size->(∀b o,b< ~~~s->s.heap b=#[o]->h' b=#[o])->Q (.ref (~~~s)) {s with heap:=h',toks:=Y}):(P\w) A (call (.type "set") [.ref l]) Q E s:=by
 obtain⟨c,tl,j⟩:=dt.mro;have hm1:=dt.made;have hm2:=dt.sub;refine wpAny_call (codeAny_of_tree (ax ⟨Code.quiet_builtin _<|'k',gu PySem.F.entry_type_call ?_⟩));rw[Around.under_plain (weight_type_call_type "set" [.ref l] []) rfl];have hm3:=dt.notType;have hm4:=dt.canCreate;have hm5:=PySem.F.typeCall_set_1<|.ref l;repeat (any_goals first|assumption|wp_step)
 refine ic (code_set_new_1 (.ref l) (E:=E) (Q₁:=λob g=>∃b:Bool,ob=.ref (~~~s)/\g={s with heap:=s.heap.push<|GZ b}) λb=>⟨b,rfl,rfl⟩) λr g hr=>?_;cases r with
 |error e=>calc hr
 |ok a=>
  cases a with
  |ret ob=>
   obtain⟨b,rfl,rfl⟩:=hr;have hS:(s.heap.push<|GZ b) (~~~s)=#[GZ b]:=bc _ rfl;have hT:Shared.TypeIs {s with heap:=s.heap.push<|GZ b} (.ref (~~~s)) "set":=⟨_,hS,rfl⟩;have hm6:=dt.init.lookup;have hm7:=dt.init.bind<|.ref (~~~s);repeat (any_goals first|assumption|wp_step)
   refine ic (codeAny_call_builtin (R:=wants (λr p=>r=.none/\∃h' Y,p={s with heap:=h',toks:=Y}/\h'.SetOf (strKind P w) (~~~s) (λx=>decide<|x∈ws) B.size/\(∀b o,b< ~~~s->s.heap b=#[o]->h' b=#[o])) E) dt.init.plain PySem.F.entry_set_init (check_set_init_1 hT ?_)) λr2 p h2=>?_
   .obtain⟨⟨oc,od,oD,os⟩,O,H,k,N⟩:=hl;cases H;cases N;have I:(s.heap.push<|GZ b) l=some {cls:=.type "list",dict:=od,data:=.seq B k,slots:=os}:=ar _ O;have hm8:=PySem.F.sub_list_set;have hm9:=PySem.F.sub_list_frozenset;have hma:(type "list"==type "dict")=false:=by decide
    have L:(s.heap.push<|GZ b).IsList l B:=⟨_,I,rfl,k,rfl⟩;unfold Builtin.«set.__init__» noKeywords Builtin.Frozenset.updateFrom;generalize G:pyIter=PI
    wp_walk
    subst G;have hlt:l< ~~~s:=b8 O;have n:(s.heap.push<|GZ b).objs.size= ~~~s+1:=kr ..;refine iF L<|aa<|wpAny_runValue ?_;refine abS ((Walks.list (by simp[hh]) _ l ∅ B).toS) (z:= ~~~s) (ws:=ws) (by simp;lk) hn (λi v J=>hv i v J) nd U (B.size - 0) 0 _ rfl (cv _) ⟨⟨_,bc _ rfl,rfl,rfl⟩,L.push _⟩ (SetOf_congr ((setObjOf_fresh (knd:=strKind P w) b).setOf (ar _ hS)<|by decide) (λ_=>rfl) rfl) λs' m D=>?_;obtain⟨h',h,u,T,M⟩:=s';have y:h=s.gens:=m.gens;have d:u=s.drawn:=m.drawn;have f:M=s.os:=m.os;subst y;subst d;subst f;refine ax<|ax ⟨rfl,h',T,rfl,D,λb o U e=>m.heap b o (by simp;lk) (ar _<|ar _ e)⟩
   .cases r2 with
    |error e=>calc h2
    |ok C=>
     cases C with
     |ret r=>
      obtain⟨rfl,h',Y,rfl,D,hk⟩:=h2;repeat (any_goals first|assumption|wp_step)
      calc q _ _ D hk
     |_=>calc h2.elim
  |_=>calc hr.elim
end
def ZC (P:Program)(w:World)(n:Nat)(z:Addr):HO:=HO.ext λh=>∃S,h.SetOf (strKind P w) z S n
inductive alC (P:Program)(w:World)(K:Frag)(xs:¬V)(H:Hp)(Q:VK):Prop
 |mk {ws:¬Str} (e:xs=[.ref a]) (h:aU K H a (ws.map V.str)) (nd:ws.Nodup) (hl:(!ws)<1000) (q:∀z,H z=none->Q (.ref z) (upd H z<|ZC P w (!ws) z))
def alD:cU X (.type "set") (alC X.prog X.w X.K):=by
 intro tZ s σ H xs us Q I r h;let(rfl,hq,nd,hl,q):=h;let(u,rfl,rx):=vals1 r;cases rx;let(Ru,rv,p,hz):=I.list hq;have hn:=!rv;rw[ac] at hn;refine abT (ws:=ws) I.ok.hd p.isList ‹hn› (λi v e=>?_) nd (by show Ru.toArray.size+1<4096;rw[bu];lk) λh' tk S k=>?_
 .let(x,e1,r1):=rv.at (i:=i) ‹e›;rw[ay] at e1;let(y,e2,e3):=c6.mp e1;subst e3;rw[br,e2];exact r1
 .have hs:Ru.toArray.size=!ws:=by rw[bu];lk
  rw[hs] at S;refine⟨.ref _,_,I.laid (t':=tk) (o:=ZC X.prog X.w (!ws) (~~~s)) (λb o e=>k b o (b8 e) e) (av _) ⟨⟨_,S⟩,?_,λh1 h2 a b=>?_⟩,rfl,q _ I.fresh⟩
  .let(o,_,_,_,ho,_):=S;exact⟨o,ho⟩
  .let(T,o,es,ep,t,ho,r):=a;calc(T,o,es,ep,t,b _ ho,r)
inductive alE (P:Program)(w:World)(xs:¬V)(H:Hp)(Q:VK):Prop
 |mk (e:xs=[.ref z]) (h:H z=#[ZC P w n z]) (hl:n<1000) (q:Q (.int n) H)
def alF:cU X (.builtin "len") (alE X.prog X.w):=by intro A s g H k j Q I r h;let(rfl,L,Y,q):=h;let(u,rfl,M):=vals1 r;cases M;let(T,o,O,N,t,J,hex,G,C,B,U,D,E):=(I.hok _ _ L).1;subst E;calc call_len_set J hex G D ∅ (.int _,H,I.tok _,⟨_,rfl⟩,q)
end L2
namespace bV
open PyProof.Rows L2 VM StrLaws
def name_eq {seen:¬Str}(F:cH seen A rows B)(hi:i<!A)(Y:j<!A)(e:(gj A).getD i ""=(gj A).getD j ""):i=j:=by
 let(x,C):=F.at hi;let(y,n):=F.at Y;rw[C.n,n.n] at e;have r:(rows.map (·.1))[i]? =#[(rowAt rows i).1]:=by rw[ay,C.r];rfl
 have E:(rows.map (·.1))[j]? =#[(rowAt rows i).1]:=by rw[ay,n.r,e];rfl
 let(b1,D):=ah.mp r;let(b2,w):=ah.mp E;calc(kR F.nn).mp<|D.trans w.symm
def U9 {seen:¬Str}(F:cH seen x rows B)(C:∀k∈w,k<!x)(Y:j<!x):(gj x).getD j ""∈bN x w↔j∈w:=⟨λh=>by
 let(k,M,e):=bg.mp h;calc name_eq F (C k M) Y e▸M,λh=>fN h⟩
def ahg {ps:¬Sp.aO}{w:¬Nat}:∀{u k j:Nat},LH.goes ps u w=#[g]->w[k]? =#[j]->∃q,ps[j]? =#[q]/\LH.goes ps u (w.take k)=#[q.a]/\LH.goes ps u (w.take<|k+1)=#[q.b]:=by
 induction w with
 |nil=>intro u k j _ e;k_go
 |cons i w C=>
  intro u k j h e;rw[LH.goes] at h;cases J:ps[i]? with
  |none=>rw[J] at h;cases h
  |some q=>
   rw[J] at h;dsimp only at h;by_cases c:q.a=u
   .rw[ap c] at h;cases k with
    |zero=>
     k_go;calc⟨q,J,by rw[oS,LH.goes,c],by rw[kq,oS,LH.goes,J];k_ne;rw[ap c];rfl⟩
    |succ k=>let(p,B,G,A):=C h e;exact⟨p,B,by rw[kq,LH.goes,J];k_ne;rw[ap c];calc G,by rw[kq,LH.goes,J];k_ne;rw[ap c];calc A⟩
   .rw[aw c] at h;cases h
def ahh {g:C->Int}{us:¬C}(h:∀x∈us,0<=g x):∀{i:Nat}{x:C},us[i]? =#[x]->((us.take i).map g).sum+g x<=(us.map g).sum:=by
 induction us with
 |nil=>intro i x e;k_go
 |cons y us B=>
  intro i x e;have G:∀l:¬C,(∀x∈l,0<=g x)->0<=(l.map g).sum:=λl=>by
   induction l with
   |nil=>intro _;calc bE _
   |cons z l B=>intro h;rw[aT,cq];have:=h z ae;have:=B λx A=>h x<|af _ A;lk
  cases i with
  |zero=>
   k_go;have:=G us λx A=>h x<|af _ A;rw[oS,fx,sum_nil,aT,cq];lk
  |succ i=>have:=B (λx A=>h x<|af _ A) (i:=i) (x:=x) e;rw[kq,aT,aT,cq,cq];lk
def Ar (seen:¬Str)(ps:¬Sp.aO)(w:¬Nat)(k:Nat):Str:=seen.getD ((LH.goes ps 0<|w.take k).getD 0) ""
def afP {rows:¬Row}{seen:¬Str}(Wk:LH.vP (bD x) 0 1 y)(Y:y.1[k]? =#[j])(a:AtR seen x rows j I):Ar seen (bD x) y.1 k=(rowAt rows j).2.1/\Ar seen (bD x) y.1 (k+1)=(rowAt rows j).2.2.1:=by let(H,E,G,J):=ahg Wk.go Y;rw[a.p] at E;cases E;let(f,A,B):=a.a;let(s,C,D):=a.b;delta Ar;rw[G,J,A,C,m3,m3,br,br,B,D];calc⟨rfl,rfl⟩
section
variable {K:Frag}
def ZD (h:tW H m rows)(e:dj z rows=#[q]):∃t B,H m=#[.dK B]/\dO B z=#[.ref t]/\H t=#[.tup<|Dd q]:=by let(B,M,D):=h;have g:=tE z D;rw[e] at g;let(t,C,J):=g;calc⟨t,B,M,C,J⟩
inductive abU (K:Frag)(C CD:Addr)(vs:¬V)(H:Hp)(Q:VK):Prop
 |mk (e:vs=[.ref x,.ref m,.int T]) (h:mz C CD H x dk p dx nn ll m rows nums ls) (S:S8 rows nums ls) (hT:cT T) (o:iu nums ls T W ws bU) (q:∀H',Same H H'->Q (.int W) H')
theorem ahi (B:Bl E.mg)(Bs:E.mg "set"=none)(cD:Cls K CD)(tX:MO E K CD (yN 1) 9 (dZ K CD C))(Cn:CV E K 53 1 fJ)(h:GF E K 56):CO E K 56 10 (abU K C CD):=by
 refine BX ["_law_desk","_law_model","_law_turns_here","_law_answer","_law_pieces","_law_sums","_law_out_here","_law_piece","_law_number_here","_law_by","_law_names","_law_length","_law_room","_law_many","_law_name"] h (λvs H Q h=>by let(rfl,_):=h;rfl) λH nd vt hr nY=>?_;refine⟨_,(aq (pS 3 (pM tX (pU 0) (aj (bK bJ aQ (bF cStr gx B.str boot_str (aj (pU 2) aG))) aG)))
  (aq (pS 4 (Fo df de mO vq (mw (dN (pU 3))) (sw (oR 'k'))))
  (aq (bI (eU kO (pU 3) aQ) (aJ (pS 4 (jX aG))) aX)
  (aq (bI (dG (fY hr.units) hNe (mw (dN (pU 4))) (nw (afq (cI afr gx B.sorted boot_sorted (aj (dN (pU 4)) aG))))) (aJ (aZ nO)) aX)
  (aq (pS 5 zH)
  (aq (pS 6 aN)
  (aq (jx (jW (pU 4)) (pG 7) (aq (Av (Fo ma l6 K5 Y0 (mw (dN (pU 7))) (sw (oR 'k'))) (m6 (bM (pG 8) (bM (pG 9) (bM (pG 10) jZ)))))
  (aq (pS 11 aN)
  (aq (pS 12 aQ)
  (aq (pS 13 (Bp (pC Cn (xW (dF (pU 8)) Ey))))
  (aq (bI (PW.pt (gG (dG (jY hr.units) hEq (mw (dN (pU 9))) (sw (oR 'k'))) (gG (dG Bc hIs (mw (dN (pU 13))) (sw pP)) (gG (dG oLt hLt (mw (dN (pU 13))) (sw bQ)) (iV (eU (fY hr.units) (cI alF gx B.len db (aj (bF alD gx Bs boot_set (aj (Fo df de mO vq (mw (dN (pU 10))) (sw (oR 'k'))) aG)) aG)) (wz (cI Kq gx B.len db (V7 (nw (Fo df de mO vq (mw (dN (pU 10))) (sw (oR 'k')))) V6)) hLen))))))) (aJ (aZ nO)) aX)
  (aq (jx (jW (Fo df de mO vq (mw (dN (pU 10))) (sw (oR 'k')))) (pG 14) (aq (bI (PW.pt (gG (sO (BW (dJ hr) (pU 14) (pU 1))) (iV (eU (fY hr.units) (bO lG (gP (dJ hr) (pU 1) (pU 14) (λ_ _=>rfl)) aN) (pU 12))))) (aJ (aZ nO)) aX)
  (aq (pS 12 (bO lG (gP (dJ hr) (pU 1) (pU 14) (λ_ _=>rfl)) aN))
  (aq (pS 11 (bK gK (pU 11) (bO lG (gP (dJ hr) (pU 1) (pU 14) (λ_ _=>rfl)) aN)))
  (aq (m9 (dJ hr) (pU 5) (pU 14) (bK gK (oF du nS PySem.F.type_dict_get aoI (pU 5) (aj (pU 14) (aj aN aG))) (pU 13)) rfl)
  (aJ (bI (eU M4 (gP (dJ hr) (pU 5) (pU 14) (λ_ _=>rfl)) (bO lG (gP (dJ hr) (pU 1) (pU 14) (λ_ _=>rfl)) aN)) (aJ (aZ nO)) aX)))))))
  (aq (bI (PW.pt (wOr (dG (fY hr.units) hNe (mw (dN (pU 12))) (sw (oR 'k'))) (Yo (dG M4 hGt (mw (dN (pU 11))) (mw (dN (pU 2))))))) (aJ (aZ nO)) aX)
  (aJ (pS 6 (cJ gK lY (mw (dN (pU 6))) (sw (cJ Rm hMul (mw (dN (pU 13))) (sw (cJ gK lY (sw (cJ qL hSub (mw (dN (pU 2))) (mw (dN (pU 11))))) (sw bQ))))))))))))))))
  (aJ (aZ (pU 6)))))))))),?_⟩
 let(rfl,h,S,hT,ou,hq):=nY;let⟨us,pm,hsr,ew⟩:=ajI ls ws;have⟨hw0,hl8,hj0,hsu,_⟩:=ou.walks S;have⟨l1,l2,l3,l4,l5⟩:=S.len;have hw:=λx hx=>hw0 x<|pm.mem_iff.mp hx;have hpl:=pm.length_eq;have hww:∀x∈us,jo (wn ls x):=λx hx=>(hw x hx).ww.1;have Yx:=S.fit.len;have hpp:(!(bD ls))=!ls:=by delta bD;rw[ac]
 let(more,S6):=S.sn;dsimp only[gA];refine bh λN hN=>Ac rfl h.d 'k' (λR r=>ak rfl r) hT.z<|abJ S h.d h.h ou hT λH1 s1=>hN _ _ ?_;rw[ew];f_len;have ht:Has K H1 (.str<|nM ls us) (.str<|nM ls us):=⟨rfl,ajG hww⟩;refine tvN 15 [(3,.str<|nM ls us)] (.c rfl ht .n) (abH (λx hx=>(hw x hx).ww) ∅) λa H2 s2 hn hx=>hN _ _ ?_;f_len;have go:∀a H3,Same H H3->H3 a=#[.lst<|(us.map λx=>dB<|wn ls x).map V.str]->N [#[.ref x],#[.ref m],#[.int T],#[.str<|nM ls us],#[.ref a],none,none,none,none,none,none,none,none,none,none] H3:=λa H3 s3 ha=>hN _ _ ?_
 .delta d8;refine QC (K:=K) (λR r=>ak rfl r) (λR r=>r) ?_;by_cases c:us=[]
  .rw[a9 (by unfold nM;rw[ap c]),ap rfl];exact⟨cv _,λz hz=>go z _ ((s1.trans s2).trans<|aH hz) (by rw[ao,c];rfl)⟩
  .rw[aS<|ajF hww c,aw<|by simp];rw[aw c] at hx;exact go a H2 (s1.trans s2) hx
 f_len;have hla:Has K H3 (.list ((us.map λx=>dB (wn ls x)).map .str)) (.ref a):=⟨a,_,rfl,aU.of ha,fu λz hz=>by let(x,hx,e):=bg.mp hz;calc e▸(hww x hx).ok⟩;refine Ao 15 [(4,.list ((us.map λx=>dB (wn ls x)).map .str))] (.c rfl hla .n) (by
  dsimp only[cu];have es:Eh (vN 4) [none,none,none,none,#[(.fr,.list<|(us.map λx=>dB<|wn ls x).map .str)],none,none,none,none,none,none,none,none,none,none]=#[.list<|(us.map λx=>dB<|wn ls x).map .str]:=by show(match tu ((us.map λx=>dB<|wn ls x).map .str) with|some ys=>if (!ys)<64 then #[PyData.list<|(jO ys).map .str] else none|none=>none)=_;rw[p7];show(if _ then _ else _)=_;rw[ap (by rw[ac];lk),hsr]
  z_go;rw[es];z_go;rw[show lH (.list ((us.map λx=>dB (wn ls x)).map .str)) (.list ((us.map λx=>dB (wn ls x)).map .str))=#[.bool false] from zM (qe _) (Has.can hla)]) λH4 s4=>hN _ _ ?_
 refine bh λN hN=>fG λd hd=>hN _ _<|bh λN hN=>fG<|cO<|hN _ _<|bh λN hN=>?_;have Va:=s3.trans s4;have hd0:=Va.free hd;have s5:=aH (o:=.dK []) hd;have hu5:Us (upd H4 d<|.dK []) d 0 λ_=>0:=⟨[],ao,av _,λ_=>rfl⟩;generalize upd H4 d (.dK [])=H5 at s5 hu5 ⊢;have ha5:=s5 _ _<|s4 _ _ ha;have had:a≠d:=λz=>by let⟨dI,e,_⟩:=hu5;rw[<-z,ha5] at e;k_go
 refine forM (ws:=us) (λy=>V.str<|dB<|wn ls y) (λi (y:↑V×↑V×↑V×↑V×↑V×↑V×↑V×↑V)=>[#[.ref x],#[.ref m],#[.int T],#[.str<|nM ls us],#[.ref a],#[.ref d],#[.int<|uh rows T<|us.take i],y.1,y.2.1,y.2.2.1,y.2.2.2.1,y.2.2.2.2.1,y.2.2.2.2.2.1,y.2.2.2.2.2.2.1,y.2.2.2.2.2.2.2]) (λi H'=>Same H H'/\Us H' d (i*8) (λz=>((us.take i).map λw=>if z∈bN ls w.1 then w.2 else 0).sum)/\H' a=#[.lst<|us.map λy=>V.str<|dB<|wn ls y]) (none,none,none,none,none,none,none,none) rfl rfl ⟨Va.trans s5,by simpa using hu5,by rw[ha5,ce];rfl⟩ (λi H' h=>aU.of h.2.2) ?_ ?_
 .rintro i y w H' hy ⟨sm,hus,ha'⟩;have Ou:=ag hy;have hiu:=(ah.mp hy).1;have Wk:=(hw y Ou).wk;have hW:=(hw y Ou).ww.1;have hm1:=Wk.m1;have ZF:=hW.n;have h8:(!y.1)<=8:=by have:=Sp.iD Wk.nd Wk.ix;lk
  have W8:∀j∈y.1,j<!ls:=λj hj=>by have:=Wk.ix j hj;lk
  have hf1:=(hw y Ou).f1;have hf0:=(hw y Ou).f0;have htk:us.take (i+1)=us.take i++[y]:=by rw[eJ,hy];rfl
  have hnW:(bN ls y.1).Nodup/\(!(bN ls y.1))<1000:=by delta bN;refine⟨?_,by rw[ac];lk⟩;delta List.Nodup;rw[lI];exact mP (λhi hj V9 e=>V9<|name_eq S.fit (W8 _ hi) (W8 _ hj) e) Wk.nd
  have hjo:Has K H' (.str (Str.join " " (bN ls y.1))) (.str (Str.join " " (bN ls y.1))):=⟨rfl,hW.jok⟩;refine bh λN hN=>tvP 15 [(7,.str (dB (wn ls y)))] (.c rfl ⟨rfl,hW.ok⟩ .n) hW.part λHb sb=>hN _ _ ?_;refine bh λN hN=>fG (cO (hN _ _ (bh λN hN=>fG (cO (hN _ _ ?_)))));refine bh λN hN=>qG 15 [(8,.str (Str.ofString (toString (wn ls y).2)))] (.c rfl ⟨rfl,ZF.z.ok⟩ .n) (z0:=y.2) (by dsimp only[cu];z_go;rw[rO ZF.1 (ft ZF.2 'k')];rfl) λHc sc=>hN _ _ ?_;refine bh λN hN=>Ot 15 [(9,.str " by ")] (.c rfl ⟨rfl,by decide +kernel⟩ .n) (by dsimp only[cu];z_go;rw[wU,aS 'k']) λHd sd=>Ot 15 [(13,.int y.2)] (.c rfl rfl .n) (by dsimp only[cu];z_go) λHe se=>Ot 15 [(13,.int y.2)] (.c rfl rfl .n) (by dsimp only[cu];z_go;rw[aS (show Not (y.2<1) by lk)]) λHf sf=>?_;have hjo:∀H,Has K H (.str (Str.join " " (bN ls y.1))) (.str (Str.join " " (bN ls y.1))):=λ_=>⟨rfl,hW.jok⟩;refine yL (cC (cbO (aM (cbO (aM (tvN 15 [(10,.str (Str.join " " (bN ls y.1)))] (.c rfl (hjo _) .n) hW.split λb1 Hg sg hb1 hbx=>bY ⟨rfl,aU.of hbx,hnW.1,hnW.2,λz hz=>bY ⟨rfl,ao,hnW.2,qG 15 [(10,.str (Str.join " " (bN ls y.1)))] (.c rfl (hjo _) .n) (z0:=((!(bN ls y.1)):Int)) (by
   dsimp only[cu];have e:=hW.split;z_go;rw[show vU tQ (.str (Str.join " " (bN ls y.1))) (.str " ")=#[.list ((bN ls y.1).map .str)] from e];z_go;rw[ac]) λHi si=>Xi (rG (hN _ _ ?_))⟩⟩))))))
  have sz:=aH (o:=ZC E.P E.w (!(bN ls y.1)) z) hz;have sH:Same H Hi:=sm.trans<|sb.trans<|sc.trans<|sd.trans<|se.trans<|sf.trans<|sg.trans<|sz.trans si;have sH':Same H' Hi:=sb.trans<|sc.trans<|sd.trans<|se.trans<|sf.trans<|sg.trans<|sz.trans si;clear sz si hz hbx hb1;refine bh λN hN=>Uj<|tvN 15 [(10,.str<|Str.join " " (bN ls y.1))] (.c rfl (hjo _) .n) hW.split λb2 Hj sj hb2 aj8=>⟨b2,rfl,⟨_,aU.of aj8⟩,?_⟩;have aoK:Ar (seenOf nums) (bD ls) y.1 0="den":=by delta Ar;rw[S6];rfl
  have hbd:b2≠d:=λe=>by let⟨dI,e2,_⟩:=hus;rw[e,sH' _ _ e2] at hb2;cases hb2
  refine forA (ws:=y.1) (λj=>V.str<|(gj ls).getD j "") (λk (u:↑V)=>[#[.ref x],#[.ref m],#[.int T],#[.str<|nM ls us],#[.ref a],#[.ref d],#[.int<|uh rows T<|us.take i],#[.str<|dB<|wn ls y],#[.str<|↥y.2],some<|.str " by ",#[.str<|Str.join " " (bN ls y.1)],#[.int<|o8 rows<|y.1.take k],#[.str<|Ar (seenOf nums) (bD ls) y.1 k],#[.int y.2],u]) (λk pq=>Same H pq/\Us pq d (i*8+k) (λz=>((us.take i).map λw=>if z∈bN ls w.1 then w.2 else 0).sum+if z∈bN ls (y.1.take k) then y.2 else 0)/\pq b2=#[.lst<|y.1.map λj=>V.str<|(gj ls).getD j ""]/\pq a=#[.lst<|us.map λy=>V.str<|dB<|wn ls y]) _ (by rw[aoK];rfl) ⟨sH.trans sj,?_,by rw[aj8];delta bN wn;rw[ce];rfl,sj _ _<|sH' _ _ ha'⟩ (λk pq h=>aU.of h.2.2.1) ?_ ?_
  .let⟨dI,e2,e3,e4⟩:=hus;exact⟨dI,sj _ _<|sH' _ _ e2,e3,λz=>by rw[e4,oS];k_ne;rw[aw<|by simp[bN],kM]⟩
  .rintro k j u pq hj ⟨sm2,⟨kd,Xl,hkl,hkf⟩,hb,ha2⟩;have hk:=(ah.mp hj).1;have hjm:=ag hj;have hjl:=W8 j hjm;let(y0,Ov):=S.fit.at hjl;let(hr1,hr2):=afP Wk hj Ov;have akb:y.1.take (k+1)=y.1.take k++[j]:=by rw[eJ,hj];rfl
   have aoL:o8 rows (y.1.take<|k+1)=o8 rows (y.1.take k)+(rowAt rows j).2.2.2.2:=by rw[akb];delta o8;rw[b7,lm];simp
   have hnk:Not (j∈y.1.take k):=λz=>by have nd:=Wk.nd;rw[<-iX k y.1,eK hk] at nd;refine(dQ.mp nd).2.2 _ z _ ae ?_;rw[ai hk] at hj;exact(bv hj).symm
   have hno:=mt (U9 S.fit (w:=y.1.take k) (λi hi=>W8 i<|hX hi) hjl).mp hnk;have hwk:∀z,z∈bN ls (y.1.take<|k+1)↔z∈bN ls (y.1.take k)\/z=(rowAt rows j).1:=λz=>by rw[akb];unfold bN;rw[b7,bd,aT,fx,aI,Ov.n]
   rw[Ov.n] at hno;have hsh:((us.take i).map λw=>if(rowAt rows j).1∈bN ls w.1 then w.2 else 0).sum+y.2<=(rowAt rows j).2.2.2.1:=by
    have hin:(rowAt rows j).1∈bN ls y.1:=by rw[<-Ov.n];exact fN hjm
    have h1:=ahh (g:=λw:¬Nat×Int=>if(rowAt rows j).1∈bN ls w.1 then w.2 else 0) (λw hw'=>by have:=(hw w hw').wk.m1;split<;>lk) hy;rw[ap hin] at h1;have h2:(us.map λw=>if(rowAt rows j).1∈bN ls w.1 then w.2 else 0).sum=LH.share j us:=by rw[wZ];congr 1;refine cx λw hw'=>?_;have:=U9 S.fit (w:=w.1) (λi hi=>by have:=(hw w hw').wk.ix i hi;lk) hjl;rw[Ov.n] at this;erw[this]
    have h3:=hj0 j ∅;rw[wZ,←U3 pm,←wZ] at h3;lk
   have hg:dj (rowAt rows j).1 rows=#[(rowAt rows j).2]:=tG S.fit.nn Ov.m rfl;let(t,dI,hkm,g1,g2):=ZD (h.md.grow sm2) hg;have hra:cA (rowAt rows j).2.1=true:=(S.R _ (S.ok.Uh Ov.m).1).1.can;rw[hr1,Ov.n,hr2,aoL];generalize rowAt rows j=r at*
   have dg:gO pq m (.str r.1) (#[.ref t]):=by rw[<-g1];exact gO.k (k:=r.1) hkm
   f_len;delta d8 Mi tB DW;refine ak rfl<|ak rfl ⟨m,_,rfl,dg,_,rfl,?_⟩;k_ne;rw[aw<|show Not ((not ((#[V.ref t]).isSome))=true) from bp];delta mG;refine cC<|cC<|ak rfl<|ak rfl ⟨m,.ref t,rfl,dg,cO ⟨_,_,cF.of g2,rfl,ak rfl<|neS hra<|hN _ _ ?_⟩⟩;refine bh λN hN=>fG<|cC<|ak rfl<|ak rfl ⟨m,.ref t,rfl,dg,cO ⟨_,_,cF.of g2,rfl,hN _ _ ?_⟩⟩;refine bh λN hN=>fG<|cC<|ak rfl<|cC<|ak rfl<|ak rfl ⟨m,.ref t,rfl,dg,cO ⟨_,_,cF.of g2,rfl,hN _ _ ?_⟩⟩;f_len;delta uG;refine cC ?_;delta pN;refine ak rfl ⟨.inr<|.inr ⟨rfl,_,Xl⟩,aM<|ak rfl<|aM<|cO<|bY<|.mk kd Xl ?_⟩;rw[hkf];k_ne;rw[aw hno,kM];have hlp:=xG kd r.1<|V.int<|((us.take i).map λw=>if r.1∈bN ls w.1 then w.2 else 0).sum+y.2;refine ak rfl (Fy (ak rfl (ak rfl ⟨d,_,rfl,qW.k (k:=r.1) Xl<|bw ∅,hN _ _ ?_⟩)));have hmd:m≠d:=λz=>by let(kv0,e0,_):=h.md;rw[z,hd0] at e0;cases e0
   have htd:t≠d:=λz=>by rw[z,Xl] at g2;cases g2
   refine yL<|cC<|ak rfl<|ak rfl ⟨d,.int<|((us.take i).map λw=>if r.1∈bN ls w.1 then w.2 else 0).sum+y.2,rfl,?_,cC<|ak rfl<|ak rfl ⟨m,.ref t,rfl,?_,cO ⟨_,_,cF.of ((au htd).trans g2),rfl,Fy ?_⟩⟩⟩
   .have:=gO.k (k:=r.1) (H:=upd pq d<|.dK<|putK kd r.1<|.int<|((us.take i).map λw=>if r.1∈bN ls w.1 then w.2 else 0).sum+y.2) ao;rw[Xh,ap rfl] at this;exact this
   .rw[<-g1];exact gO.k (k:=r.1)<|(au hmd).trans hkm
   rw[aS<|show Not (r.2.2.2.1<((us.take i).map λw=>if r.1∈bN ls w.1 then w.2 else 0).sum+y.2) by lk];refine rG ⟨⟨_,rfl⟩,λb o e=>by rw[au<|aV e hd0];calc sm2 _ _ e,⟨_,ao,by lk,λz=>?_⟩,by rw[au hbd];calc hb,by rw[au had];calc ha2⟩;rw[Xh];k_ne;by_cases e:z=r.1
   .subst e;rw[ap rfl,ap<|(hwk _).mpr<|.inr rfl];rfl
   .rw[aw e,hkf];k_ne;by_cases c:z∈bN ls (y.1.take k)
    .rw[ap c,ap<|(hwk _).mpr<|.inl c]
    .rw[aw c,aw λh=>((hwk _).mp h).elim c e]
  .rintro u pq ⟨sm2,ake,hb,ha2⟩;have hr1:Ar (seenOf nums) (bD ls) y.1 (!y.1)="yard":=by delta Ar;rw[bn<|av _,Wk.go,S6];rfl
   refine hN _ _ ?_;rw[hr1];rw[bn (l:=y.1) (av _)] at ake ⊢;refine bh λN hN=>Ao 15 [(2,.int T),(11,.int (o8 rows y.1)),(12,.str "yard")] (.c rfl rfl (.c rfl rfl (.c rfl ⟨rfl,by decide +kernel⟩ .n))) (by
    dsimp only[cu];z_go;rw[QJ,a9 rfl];z_go;erw[aS (show Not (o8 rows y.1>T) by lk)]) λH7 s7=>hN _ _ ?_
   refine qG 15 [(2,.int T),(6,.int (uh rows T (us.take i))),(11,.int (o8 rows y.1)),(13,.int y.2)] (.c rfl rfl (.c rfl rfl (.c rfl rfl (.c rfl rfl .n)))) (z0:=uh rows T (us.take (i+1))) (by
    dsimp only[cu];have h70:y.2<10^78:=ft ZF.2 'k';have arW:T+1<10^78:=ft (show T+1<10^60+1 by have:=hT.2;lk) 'k';z_go;rw[BK ∅ ∅ ∅ ∅];z_go;unfold uh;rw[htk,b7,lm,aT,fx,cq,sum_nil,kM]) λH8 s8=>⟨⟨(_,_,_,_,_,_,_,_),rfl⟩,sm2.trans (s7.trans s8),?_,s8 _ _ (s7 _ _ ha2)⟩
   let⟨kd,Xl,hkl,hkf⟩:=ake;refine⟨kd,s8 _ _<|s7 _ _ Xl,by lk,λz=>?_⟩;rw[hkf,htk];k_ne;rw[b7,lm,aT,fx,cq,sum_nil,kM]
 .rintro w H' ⟨sm,hus,ha'⟩;rw[bn<|av _];refine hN _ _<|ji<|ak rfl ?_;rw[show uh rows T us=W from(U3 pm).trans hsu];calc hq _ sm
end
end bV
namespace LH
open L2 VM Sp PM
variable {p:Int}
theorem Ow (T:Int):∀{G:¬(Int×Int)},(∀x∈G,1<=x.2)->0<=jD T G
 |[],_=>by simp[jD,wsum]
 |x::G,h=>by
  have a:=h x ae;have b:=Ow T (G:=G) λy n=>h y<|af _ n;rw[lX]
  have:0<=x.2*(if x.1<=T then T+1 - x.1 else 0):=fk ∅ (by split<;>lk)
  lk
def akf (a:Int)(h:0<b):a<b*(a/b+1):=by have:=nX a b;have:=hV a h;lk
def akg (a:Int)(h:0<b):b*(a/b)<=a:=by have:=nX a b;have:=hU a (show b≠0 by lk);lk
theorem Xm:∀{G:¬(Int×Int)}{am co t:Int},0<=am->(∀x∈G,1<=x.2)->t∈fB p am co G->p<=am*(t+1) - co+jD t G
 |[],_,_,_,_,_,h=>by simp[fB] at h
 |x::G,am,co,t,C,D,h=>by
  have U:=D x ae;have A:∀y∈G,1<=y.2:=λy n=>D y<|af _ n;have B:(am+x.2)*(t+1) - (co+x.2*x.1)<=am*(t+1) - co+x.2*(if x.1<=t then t+1 - x.1 else 0):=by
   rw[iq];have e:x.2*(t+1) - x.2*x.1=x.2*(t+1 - x.1):=by rw[o1]
   have:x.2*(t+1 - x.1)<=x.2*(if x.1<=t then t+1 - x.1 else 0):=be (by split<;>lk) ∅
   lk
  rw[lX];rw[fB,bq] at h;rcases h with h|h
  .have:=akf (p+(co+x.2*x.1) - 1) (show 0<am+x.2 by lk);rw[<-h] at this;have:=Ow t A;lk
  .have:=Xm ∅ A h;lk
theorem Xn:∀{G:¬(Int×Int)}{am co T:Int},0<=am->Gv G->(∀t∈fB p am co G,T<t)->am*(T+1) - co<p->am*(T+1) - co+jD T G<p
 |[],am,co,T,_,_,_,h=>by simpa [jD,wsum] using h
 |x::G,am,co,T,A,R,C,h=>by
  have D:=(R.pos x ae).2;have B:=iL.mp R.up;by_cases z:x.1<=T
  .have L:=C _ (by rw[fB];calc ae);have h1:=akg (p+(co+x.2*x.1) - 1) (show 0<am+x.2 by lk);have h2:(am+x.2)*(T+1)<=(am+x.2)*((p+(co+x.2*x.1) - 1)/(am+x.2)):=be ∅ ∅;have:=Xn (G:=G) (am:=am+x.2) (co:=co+x.2*x.1) (T:=T) ∅ ⟨B.2,λy n=>R.pos y<|af _ n⟩ (λt U=>C t (by rw[fB];calc af _ U)) ∅;rw[lX,ap z];lk
  .rw[JN T (G:=x::G) λy n=>by
    grind]
   lk
def abX {G:¬(Int×Int)}(D:∀x∈G,1<=x.2)(h:t<=T):jD t G<=jD T G:=by
 induction G with
 |nil=>calc bE _
 |cons x G A=>
  have a:=D x ae;have:=A λy n=>D y<|af _ n
  have:x.2*(if x.1<=t then t+1 - x.1 else 0)<=x.2*(if x.1<=T then T+1 - x.1 else 0):=be (by split<;>split<;>lk) ∅
  rw[lX,lX];lk
end LH
namespace bV
open PyProof.Rows L2 VM StrLaws
def wY.cut {rows:¬Row}(S:S8 rows nums B)(f:wY nums B n #[t])(h1:1<=n)(C:0<=T)(o:iu nums B T W ws A):n<=W↔t<=T:=by
 cases f with
 | @yes G _ _ d g0 em k U=>
  have H:=d.w T W ws A C o.O;have r:LH.fB n 0 0 G≠[]:=λz=>by have:=LH.CQ n G 0 0;rw[z] at this;exact g0<|ee.mp this.symm
  have D:∀x∈G,1<=x.2:=λx E=>(d.r.pos x E).2;let(a,b):=jf r;refine⟨λh=>Int.not_lt.mp λc=>?_,λh=>?_⟩
  .have:=LH.Xn (p:=n) (am:=0) (co:=0) (T:=T) (bE _) d.r (λt U=>fe c<|b t U) ∅;lk
  .have:=LH.Xm (bE _) D a;have:=LH.abX D h;lk
def wY.lo {rows:¬Row}(S:S8 rows nums A)(f:wY nums A n #[t])(h:n<10^50):1<=t/\t<=n+bf*8/\cT t:=by
 cases f with
 |yes d g0 em k E=>
  have U:((bD A).map Sp.aO.l).sum<=bf*!(bD A):=U0 λq T=>by let(j,x,Y,B,rfl):=S.fit.mem T;rw[B.e];exact(S.rx _ B.m).2.2.2
  have(G,H,I,i,J):=S.len;have D:(!(bD A))=!A:=by delta bD;rw[ac]
  have C:bf*((!(bD A)):Int)<=bf*8:=be ∅ ⋯;have r:10^50+bf*8<10^60:='k'
  have N:=k.T1;have:=k.Tb;calc⟨N,by lk,by lk,by lk⟩
def wY.nil (f:wY nums x n none)(U:0<=T)(o:iu nums x T W ws A):W=0:=by
 cases f with
 |no d=>calc d.w T W ws A U o.O
def iu.small {rows:¬Row}(S:S8 rows nums ls)(o:iu nums ls T W ws bU)(h0:0<=T)(h:T<=10^22):0<=W/\W<10^49:=by
 have⟨l1,l2,E,H,Y⟩:=S.len;have hT:cT T:=⟨h0,d5 h<|'k'⟩;have⟨_,e,M,_⟩:=o.CX S hT;have B:=o.bnd S hT;have G:∀z∈seenOf nums,0<=gR (seenOf nums) bU z/\gR (seenOf nums) bU z<=T+1:=λz hz=>by
  have ml:=o.O.ml;let(v,ev):=dq hz;have hv:v<!bU:=by have:=(ah.mp ev).1;lk
  have A:=ai hv;have:=o.O.mb v ∅;rw[LH.mV A] at this;delta gR;rwa [oZ S.ok.nd ev A]
 have:(rows.map<|lC (seenOf nums) bU).sum<=100*bf*(10^22+1)*!rows:=by
  have g:∀l:¬Row,(∀r∈l,r∈rows)->(l.map<|lC (seenOf nums) bU).sum<=100*bf*(10^22+1)*!l:=λl=>by
   induction l with
   |nil=>intro _;calc bE _
   |cons r l D=>
    intro hl;have hr:=hl r ae;have i:=D λx C=>hl x<|af _ C;have x:=S.rx r hr;have a:=G _ (B r hr).1;have b:=G _ (B r hr).2.1;have t:lC (seenOf nums) bU r<=100*bf*(10^22+1):=by delta lC;refine Int.mul_le_mul x.2.1 ?_ (by split<;>lk) ⋯;have:=x.2.2.1;split<;>lk
    rw[aT,cq,a8]
    have:(100*bf*(10^22+1):Int)*(((!l)+1:Nat):Int)=100*bf*(10^22+1)*(!l)+100*bf*(10^22+1):=by rw[iN,i9];simp
    lk
  exact g rows λ_ h=>h
 have O:100*bf*(10^22+1)*((!rows):Int)<=100*bf*(10^22+1)*8:=be ∅ ⋯;have c:100*bf*(10^22+1)*8<10^49:='k'
 calc⟨M,by lk⟩
def Vb {near:¬Str}(h:x∈near):x∈gF near r:=by
 delta gF;split
 .exact c5 _ h
 .calc h
def Vc (rows:¬Row):∀near:¬Str,∃e,rows.foldl gF near=near++e:=by
 induction rows with
 |nil=>intro near;calc⟨[],(fS _).symm⟩
 |cons r rows A=>
  intro near;let⟨e,h⟩:=A<|gF near r;rw[eQ,h];delta gF;split
  .exact⟨_,cE ..⟩
  .calc⟨_,rfl⟩
def aeG {rows:¬Row}:∀{near:¬Str},r∈rows->r.2.1∈near->r.2.2.1∈rows.foldl gF near:=by
 induction rows with
 |nil=>intro near h;cases h
 |cons q rows A=>
  intro near h G;rw[eQ];rcases bq.mp h with rfl|h
  .let⟨e,g⟩:=Vc rows<|gF near r;rw[g];refine c5 _ ?_;by_cases c:r.2.2.1∈near
   .exact Vb c
   .delta gF;rw[ap ⟨G,c⟩];exact b6 _ ae
  .calc A h<|Vb G
def aeH {P:¬Str->Prop}{rows:¬Row}(D:∀r∈rows,∀near,P near->r.2.1∈near->Not (r.2.2.1∈near)->P (near++[r.2.2.1])):∀{near},P near->P (rows.foldl gF near):=by
 induction rows with
 |nil=>intro near h;calc h
 |cons r rows A=>
  intro near h;refine A (λq T=>D q<|af _ T) ?_;delta gF;split
  .rename_i c;exact D r ae near h c.1 c.2
  .calc h
def G3 {P:¬Str->Prop}{rows:¬Row}(L:P ["den"])(D:∀r∈rows,∀near,P near->r.2.1∈near->Not (r.2.2.1∈near)->P (near++[r.2.2.1]))(i:Nat):P (cN rows i):=by
 induction i with
 |zero=>calc L
 |succ i A=>calc aeH D A
def abY {rows:¬Row}{seen:¬Str}(L:("den":Str)∈seen)(H:(!seen)<=6)(D:∀r∈rows,r.2.2.1∈seen)(hr:r∈rows)(G:r.2.1∈cN rows 7):r.2.2.1∈cN rows 7:=by
 have st:∀i,cN rows (i+1)=cN rows i\/i+2<=!(cN rows<|i+1):=λi=>by
  have go:∀j,j+1<=!(cN rows j)->cN rows (j+1)=cN rows j\/j+2<=!(cN rows<|j+1):=λj Y=>by
   let⟨e,h⟩:=Vc rows<|cN rows j;have h:cN rows (j+1)=cN rows j++e:=h;cases e with
   |nil=>calc .inl<|by rw[h,fS]
   |cons x e=>exact .inr (by rw[h,aE,a8];lk)
  induction i with
  |zero=>calc go 0<|av _
  |succ i E=>
   rcases E with h|h
   .exact .inl<|show rows.foldl gF (cN rows<|i+1)=rows.foldl gF (cN rows i) by rw[h]
   .exact go _ h
 have A:(cN rows 8).Nodup/\∀z∈cN rows 8,z∈seen:=G3 (P:=λnear=>near.Nodup/\∀z∈near,z∈seen) ⟨by decide,λz C=>by rwa [aI.mp C]⟩ (λr hr near h _ c=>⟨dQ.mpr ⟨h.1,by simp,λx B y n e=>c (by rw[<-aI.mp n,←e];calc B)⟩,λz C=>by
  rcases bd.mp C with g|g
  .exact h.2 z g
  .rw[aI.mp g];calc D r hr⟩) 8
 have:=SM A.1 A.2;rcases st 7 with h|h
 .rw[<-h];exact aeG hr G
 .omega
def akh {g:C->Int}{us:¬C}:(∀x∈us,0<=g x)->0<=(us.map g).sum/\∀x∈us,g x<=(us.map g).sum:=by
 induction us with
 |nil=>intro _;calc⟨bE _,λx A=>by cases A⟩
 |cons y us B=>
  intro h;have a:=h y ae;let(b,c):=B λx A=>h x<|af _ A;rw[aT,cq];refine⟨by lk,λx A=>?_⟩;rcases bq.mp A with rfl|A
  .omega
  .have:=c x A;lk
def abZ {rows:¬Row}(S:S8 rows nums x)(o:iu nums x T W ws A)(e:(seenOf nums)[j]? =#[z]):gR (seenOf nums) A z=PM.lf A j:=by
 have⟨B,H,C,i,D⟩:=S.len;have q:=o.O.ml;have Y:j<!A:=by have:=(ah.mp e).1;lk
 have G:=ai Y;delta gR;rw[oZ S.ok.nd e G,LH.mV G];rfl
def wY.leads {rows:¬Row}(S:S8 rows nums E)(f:wY nums E n t)(h1:1<=n)(m:n<10^50):qz rows=t.isSome:=by
 have⟨l1,s,l3,l4,l5⟩:=S.len;let(T,B):=S.sn;have C:(seenOf nums)[0]? =#[("den":Str)]:=by rw[B];rfl
 have D:(seenOf nums)[1]? =#[("yard":Str)]:=by rw[B];rfl
 have Q:qz rows=true↔("yard":Str)∈cN rows 7:=by delta qz;rw[qv];exact⟨λ⟨y,L,e⟩=>gi e▸L,λh=>⟨_,h,il _⟩⟩
 cases t with
 |none=>
  refine ge.mpr λz=>?_;have L:=Q.mp z;have U:cT (10^22):=⟨by decide,by decide +kernel⟩;let(W,N,A,o):=S.out U.n7;have O:=f.nil U.1 o;have⟨_,e,_⟩:=o.CX S U;rw[O] at e;have i:=o.bnd S U;have w:∀r∈rows,0<=lC (seenOf nums) A r:=λr hr=>by delta lC;exact fk (by have:=(S.fit.w1 r hr).1;lk) (by split<;>lk)
  have I:∀r∈rows,gR (seenOf nums) A r.2.2.1<=gR (seenOf nums) A r.2.1+bf:=λr hr=>by
   have a:=(akh w).2 r hr;rw[e] at a;have b:=(S.fit.w1 r hr).1;have c:=(S.rx r hr).2.2.2;by_cases g:gR (seenOf nums) A r.2.2.1 - gR (seenOf nums) A r.2.1 - r.2.2.2.2>0
   .delta lC at a;rw[ap g] at a;have:=Int.mul_pos (show 0<r.2.2.2.1 by lk) g;lk
   .omega
  have far:∀z∈cN rows 7,gR (seenOf nums) A z<=bf*!(cN rows 7):=G3 (P:=λnear=>∀z∈near,gR (seenOf nums) A z<=bf*!near) (λz M=>by
   rw[aI.mp M,abZ S o C,o.O.m0];decide) (λr hr near h j _ z M=>by
   have w0:0<=bf:=by decide
   have:=I r hr;have:=h _ j;have e:bf*((!(near++[r.2.2.1])):Int)=bf*(!near)+bf:=by rw[aE,i0,iN,i9];simp
   rw[e];rcases bd.mp M with g|g
   .have:=h z g;lk
   .rw[aI.mp g];lk) 7
  have a:=far _ L;rw[abZ S o D,o.O.m1] at a;have b:=Oq s 7;have c:bf*((!(cN rows 7)):Int)<=bf*57:=be ∅ ⋯;have d:bf*57<10^22+1:='k'
  lk
 |some t=>
  refine Q.mpr ?_;let(t1,_,J):=f.lo S m;let(W,N,A,o):=S.out J.n7;have O:=(f.cut S h1 J.1 o).mpr<|bE _;have⟨u,_,_,q,_⟩:=o.walks S;cases N with
  |nil=>have:uh rows t []=0:=rfl;lk
  |cons x N=>
   have Wk:=(u x ae).wk;have p:(!(bD E))=!E:=by delta bD;rw[ac]
   have H:∀r∈rows,r.2.2.1∈seenOf nums:=λr hr=>(o.bnd S J r hr).2.1;have st:∀k,k<=!x.1->Ar (seenOf nums) (bD E) x.1 k∈cN rows 7:=λk=>by
    induction k with
    |zero=>
     intro _
     have:Ar (seenOf nums) (bD E) x.1 0="den":=by delta Ar;rw[B];rfl
     rw[this];calc G3 (P:=λnear=>("den":Str)∈near) ae (λ_ _ _ h _ _=>c5 _ h) 7
    |succ k v=>intro hk;have Y:=ai (show k<(!x.1) by lk);have l:=Wk.ix _<|ag Y;let(y0,G):=S.fit.at (show x.1[k]<(!E) by lk);let(a,b):=afP Wk Y G;have:=v ∅;rw[a] at this;rw[b];exact abY (ag C) ∅ H G.m this
   have:=st _<|av _;unfold Ar at this;rw[bn<|av _,Wk.go] at this;rwa [show(seenOf nums).getD ((#[1]).getD 0) ""=("yard":Str) by rw[B];rfl] at this
def aeI (t u:TS)(D:Ends)(B:L2.St):VK:=λx H=>match x with
 |.bl k=>if(not k)=true then t D B H else u D B H
 |_=>False
def Mf (h:te B H (aeI t u D B)):d8 (Xx<|mG te) t u D B H:=h
def Em (h:u D B H):aeI t u D B (.bl true) H:=h
def afU (h:t D B H):aeI t u D B (.bl false) H:=h
section
variable {K:Frag}
def G4 (L:0<=n)(h1:n<10^100)(q:∀E,Same H E->Q (.int n) E):Hy K fJ [.str<|↥n] H Q:=
 ajL (hC (hS (sJ L<|ft h1<|'k').ok) hN0) (rO L h1) λv E s M=>by cases M;calc q E s
inductive ab0 (K:Frag)(C CD:Addr)(vs:¬V)(H:Hp)(Q:VK):Prop
 |mk {old rows:¬Row} (e:vs=[.ref x,.ref m,.int n]) (h:mz C CD H x dk p dx nn ll m old nums ls) (S:S8 rows nums ls) (eo:qz old=qz rows) (lo:(!old)<=8) (h1:1<=n) (hn:n<=10^20) (q:∀H',Same H H'->Q (.bl true) H')
theorem ahj (B:Bl E.mg)(cD:Cls K T)(J:MO E K T (yN 1) 9 (dZ K T C))(Y:CV E K 53 1 fJ)(Cl:CO E K 59 1 Ma)(h:GF E K 60):CO E K 60 10 (ab0 K C T):=by
 refine BX ["_law_desk","_law_model","_law_people","_law_answer","_law_turns_here","_law_enough","_law_few"] h (λvs H Q h=>by let(rfl,_):=h;rfl) λH nd vt hr l=>?_;refine⟨_,(aq (pS 3 (pM J (pU 0) (aj (bK bJ aQ (bF cStr gx B.str boot_str (aj (pU 2) aG))) aG)))
  (aq (bI (nP (Ew (pC Cl (aj (pU 1) aG)))) (aJ (aZ (peC (jY hr.units) (pU 3) aQ))) aX)
  (aq (pS 4 (Bp (pC Y (xW (dF (pU 3)) Ey))))
  (aq (bI (PW.pt (wOr (dG Bc hIs (mw (dN (pU 4))) (sw pP)) (Yo (dG oLt hLt (mw (dN (pU 4))) (sw bQ))))) (aJ (aZ kI)) aX)
  (aq (pS 5 (pC Y (aj (pM J (pU 0) (aj (bK bJ aQ (pU 3)) aG)) aG)))
  (aq (pS 6 (pC Y (aj (pM J (pU 0) (aj (bK bJ aQ (bF cStr gx B.str boot_str (aj (bK qL (pU 4) aN) aG))) aG)) aG)))
  (aJ (aZ (Ku (qP Pj Yl (mw (dN (pU 5))) (sw pP)) (Ku (qP Pj Yl (mw (dN (pU 6))) (sw pP)) (Ku (qP oLt hLt (mw (dN (pU 6))) (mw (dN (pU 2)))) (QW (qP oLe hLe (mw (dN (pU 2))) (mw (dN (pU 5)))))))))))))))),?_⟩
 let(rfl,h,S,i,lo,h1,D,v):=l;have⟨l1,l2,l3,l4,l5⟩:=S.len;have G:cT n:=⟨by lk,d5 D<|'k'⟩;have u:n<10^50:=d5 D 'k';let(t,f):=S.few h1 G.2;have hl:=f.leads S h1 u;dsimp only[gA];refine bh λN A=>Ac rfl h.d 'k' (λR r=>ak rfl r) G.z<|CZ S h.d h.h f h1 G λH1 y=>A _ _ ?_;refine bh λN A=>Mf<|callC<|ak rfl<|bY<|.mk rfl (h.md.grow y) lo λH2 s2=>?_;rw[i,hl];have L:=y.trans s2;cases t with
 |none=>calc afU<|ji<|cC<|ak rfl<|cO<|ajK 'k'<|v _ L
 |some t=>
 refine Em<|A _ _ ?_;let(t1,t2,U):=f.lo S u;have tb:t<=10^22:=eB t2 (eB (Int.add_le_add_right D _) 'k');let(W,ws,bU,o):=S.out U.n7;have m:cT (t - 1):=⟨by lk,by have:=U.2;lk⟩;let(q,ws',w,p):=S.out m.n7;have e:=(f.cut S h1 U.1 o).mpr<|bE _;have g:q<n:=Int.not_le.mp λc=>by have:=(f.cut S h1 m.1 p).mp c;lk
 have x:=o.small S U.1 tb;have s:=p.small S m.1 ∅;have j:∀{a:Int},a<10^60->a<10^100:=λh=>ft h 'k';have I:∀{a:Int},a<10^49->a<10^100:=λh=>ft h 'k';show iW _ _ _ [_,_,_,#[.str<|↥t],none,none,none] _;refine bh λN A=>qG 7 [(3,.str<|↥t)] (.c rfl ⟨rfl,U.z.ok⟩ .n) (z0:=t) (by dsimp only[cu];z_go;rw[rO U.1<|j U.2];rfl) λH3 s3=>A _ _ ?_;refine bh λN A=>Ao 7 [(4,.int t)] (.c rfl rfl .n) (by dsimp only[cu];z_go;rw[aS<|show Not (t<1) by lk]) λH4 s4=>A _ _ ?_;have M:=L.trans<|s3.trans s4;have O:=h.grow M;have zl:=U.z.len;refine bh λN A=>fG<|callC<|jU rfl O.d rfl<|aM<|cC<|cO<|ak rfl ⟨_,_,rfl,rfl,?_,bY<|yO S O.d O.h o U λH5 z=>bY<|G4 x.1 (I x.2) λH6 d=>A _ _ ?_⟩
 .have:sizeLine=16777216:=rfl
  have:(!("out ":Str))=4:='k'
  lk
 have k:=O.grow<|z.trans d;refine bh λN A=>fG (callC (Ac rfl k.d 'k' (λR r=>cC<|ak rfl<|cO<|Fy r) m.z<|yO S k.d k.h p m λH7 s7=>bY<|G4 s.1 (I s.2) λH8 s8=>A _ _ ?_));refine ji<|tvB 7 [(2,.int n),(5,.int W),(6,.int q)] (.c rfl rfl<|.c rfl rfl<|.c rfl rfl .n) (b:=true) (by dsimp only[cu];z_go;rw[a9 g];z_go;rw[a9 e]) λH9 s9=>v _<|M.trans<|z.trans<|d.trans<|s7.trans<|s8.trans s9
end
section
variable {K:Frag}
inductive ZG (K:Frag)(C CD:Addr)(vs:¬V)(H:Hp)(Q:VK):Prop
 |mk (e:vs=[.ref x,.ref m,.ref rA,.int T]) (h:mz C CD H x dk p dx nn ll m rows nums ls) (hr:H rA=#[.lst<|(seenOf nums).map V.str]) (S:S8 rows nums ls) (h0:0<=T) (hT:T<=10^22) (q:∀H',Same H H'->Q (.bl true) H')
theorem ab1 (B:Bl E.mg)(cD:Cls K Y)(M:MO E K Y (yN 1) 9 (dZ K Y C))(y:CV E K 53 1 fJ)(Co:CO E K 56 10 (abU K C Y))(Cb:CO E K 57 10 (ajS K C Y))(Cl:CO E K 59 1 Ma)(h:GF E K 58):CO E K 58 11 (ZG K C Y):=by
 refine BX ["_law_desk","_law_model","_law_rooms","_law_turns_here","_law_out_here","_law_more","_law_fewest_here"] h (λvs H Q h=>by let(rfl,_):=h;rfl) λH nd vt hr x=>?_;refine⟨_,(aq (pS 4 (pC y (aj (pM M (pU 0) (aj (bK bJ aQ (bF cStr gx B.str boot_str (aj (pU 3) aG))) aG)) aG)))
  (aq (bI (PW.pt (gG (dG Bc hIs (mw (dN (pU 4))) (sw pP)) (gG (eU (fY hr.units) (pC Co (aj (pU 0) (aj (pU 1) (aj (pU 3) aG)))) (pU 4)) (iV (eU (fY hr.units) (pC Cb (aj (pU 0) (aj (pU 1) (aj (pU 3) (aj (pU 2) aG))))) (pU 4)))))) (aJ (aZ kI)) aX)
  (aq (pS 5 (pM M (pU 0) (aj (bK bJ aQ (bF cStr gx B.str boot_str (aj (bK gK (pU 4) aN) aG))) aG)))
  (aq (bI (nP (Ew (pC Cl (aj (pU 1) aG)))) (aJ (aZ (Ku (qP (jY hr.units) hEq (mw (dN (pU 5))) (sw (oR 'k'))) (acS (qP (jY hr.units) hEq (mw (dN (pU 4))) (sw bQ)))))) aX)
  (aq (bI (PW.pt (wOr (dG Bc hIs (sw (Bp (pC y (xW (dF (pU 5)) Ey)))) (sw pP)) (Yo (dG oLe hLe (sw (Bp (pC y (xW (dF (pU 5)) Ey)))) (mw (dN (pU 3))))))) (aJ (aZ kI)) aX)
  (aq (bI (dG (jY hr.units) hEq (mw (dN (pU 4))) (sw bQ)) (aJ (aZ kI)) aX)
  (aq (pS 6 (pC y (aj (pM M (pU 0) (aj (bK bJ aQ (bF cStr gx B.str boot_str (aj (pU 4) aG))) aG)) aG)))
  (aJ (aZ (Ku (qP Pj Yl (mw (dN (pU 6))) (sw pP)) (acS (qP oLe hLe (mw (dN (pU 6))) (mw (dN (pU 3))))))))))))))),?_⟩
 let(rfl,h,w,S,j,hT,s):=x;have⟨l1,l2,l3,l4,l5⟩:=S.len;have D:cT T:=⟨j,d5 hT<|'k'⟩;let(W,ws,bU,o):=S.out D.n7;let(w0,w1):=o.small S j hT;have O:W+1<10^50:=fe (Int.add_lt_add_right w1 1) 'k';have L:∀{a:Int},a<10^60->a<10^100:=λh=>ft h 'k';have I:cT (W+1):=⟨by lk,ft O<|'k'⟩;have G:cT W:=⟨w0,ft (Int.lt_succ W) I.2⟩;let(t,f):=S.few (n:=W+1) ∅ I.2;have hl:=f.leads S ∅ O;dsimp only[gA];refine bh λN A=>fG (callC (Ac rfl h.d 'k' (λR r=>ak rfl r) D.z<|yO S h.d h.h o D λH1 s1=>bY<|G4 w0 (L G.2) λH2 s2=>A _ _ ?_));refine bh λN A=>Ot 7 [(4,.int W)] (.c rfl rfl .n) (by dsimp only[cu];z_go) λH3 s3=>?_;have l:=s1.trans<|s2.trans s3;refine orO<|cC<|callC<|ak rfl<|aM<|ak rfl<|aM<|ak rfl<|bY<|.mk rfl (h.grow l) S D o λH4 s4=>ak rfl<|Xi<|orF ?_;have U:=l.trans s4;refine yL<|cC<|callC<|ak rfl<|aM<|ak rfl<|aM<|ak rfl<|aM<|ak rfl<|bY<|.mk rfl (h.grow U) (U _ _ w) S D o λH5 s5=>ak rfl<|Xi<|rG<|A _ _ ?_;have m:=U.trans s5;have z:=h.grow m;refine bh λN A=>Ac rfl z.d 'k' (λR r=>cC<|ak rfl<|cO<|Fy r) I.z (CZ S z.d z.h f ∅ I λH6 s6=>A _ _ ?_);refine bh λN A=>Mf<|callC<|ak rfl<|bY<|.mk rfl (z.md.grow s6) l2 λH7 s7=>?_;rw[hl];have p:=m.trans<|s6.trans s7;cases t with
 |none=>
  have e0:=f.nil j o;subst e0;calc afU<|ji<|tvB 7 [(4,.int 0),(5,.str "never")] (.c rfl rfl<|.c rfl ⟨rfl,by decide +kernel⟩ .n) (b:=true) (by dsimp only[cu];z_go;rw[wU];rfl) λH8 e=>s _<|p.trans e
 |some t=>
 refine Em<|A _ _ ?_;let(t1,t2,k):=f.lo S O;have htT:T<t:=Int.not_le.mp λc=>by have:=(f.cut S ∅ j o).mpr c;lk
 show iW _ _ _ [_,_,_,_,_,#[.str<|↥t],none] _;refine bh λN A=>Ao 7 [(3,.int T),(5,.str<|↥t)] (.c rfl rfl<|.c rfl ⟨rfl,k.z.ok⟩ .n) (by dsimp only[cu];z_go;rw[rO k.1<|L k.2];z_go;rw[rO k.1<|L k.2];z_go;rw[aS<|show Not (t<=T) by lk]) λH8 e=>A _ _ ?_;have q:=p.trans e;by_cases c:W=0
 .refine bh λN A=>Xa 7 [(4,.int W)] (.c rfl rfl .n) (by dsimp only[cu];z_go;rw[c];rfl) λH9 s9=>ji<|cO<|s _<|q.trans s9
 refine bh λN A=>Ao 7 [(4,.int W)] (.c rfl rfl .n) (by dsimp only[cu];z_go;rw[aS c]) λH9 s9=>A _ _ ?_;have v:=q.trans s9;have d:=h.grow v;let(u,g):=S.few (n:=W) ∅ G.2;have J:W<10^50:=by lk
 have gl:=g.leads S ∅ J;rw[hl] at gl;cases u with
 |none=>cases gl
 |some u=>
 let(u1,u2,hu):=g.lo S J;have i:=(g.cut S ∅ j o).mp (bE _);refine bh λN A=>fG (callC (Ac rfl d.d 'k' (λR r=>ak rfl r) G.z (CZ S d.d d.h g ∅ G λHa sa=>bY<|G4 hu.1 (L hu.2) λHb sb=>A _ _ ?_)));calc ji<|tvB 7 [(3,.int T),(6,.int u)] (.c rfl rfl<|.c rfl rfl .n) (b:=true) (by dsimp only[cu];z_go;rw[a9 i]) λHc sc=>s _<|v.trans<|sa.trans<|sb.trans sc
end
section
variable {K:Frag}
inductive ZJ (C CD:Addr)(vs:¬V)(H:Hp)(Q:VK):Prop
 |mk (e:vs=[.ref x,.ref m]) (h:mz C CD H x dk p dx nn ll m rows nums ls) (S:S8 rows nums ls) (q:∀H',Same H H'->Q (.bl true) H')
theorem aeJ (B:Bl E.mg)(cD:Cls K CD)(tX:MO E K CD (yN 1) 9 (dZ K CD C))(h:GF E K 55):CO E K 55 10 (ZJ C CD):=by
 refine BX ["_law_desk","_law_model","_law_due"] h (λvs H Q h=>by let(rfl,_):=h;rfl) λH nd vt hr nY=>?_;refine⟨_,(aq (vY (mF (i:=2) nd rfl lx (g:=za K 2 (gV (cg 0) (gV (cg 1) uz))) (te:=tV K RS (v2 jV (vC (.str " ")) (v2 pX (v2 pX (gB (aC (vF 0) a0)) (lV (Gj (vN 1) oN (oI (vC (.int 2)))))) (gB (aC (dW Lr (aC (v2 bB (vN 1) (vC (.int 2))) a0)) (aC (dW Lr (aC (v2 bB (vN 1) (vC (.int 3))) a0)) a0)))))) (N':=["_law_name","_law_one"]) (cap:=[none,none]) ["_law_desk","_law_model","_law_due"] (aP (top 55)) 'k' rfl rfl (Uy (pU 1))
   (λ_ _ _ _ _=>m6 (bM (qC 'k' 'k') (bM (qC 'k' 'k') jZ))) (λ_ _ _ _ _=>lU) (λ_ _ _ _ _=>afp (sw (oR 'k')) (nm (dCat (nm (dCat (nm (Yq (xW (dF (lF 'k' 0)) Ey))) (nm (V8 (bF ae2 (glC (by kernel_rfl)) (by calc B.list) eW (aj (sm (aif (dN (lF 'k' 1)) poN (poI (sw bQ)))) aG)))))) (nm (Yq (xW (wz (bF cStr (glC (by kernel_rfl)) (by calc B.str) boot_str (V7 (sw (dIx (dN (lF 'k' 1)) (sw bQ))) V6)) adv) (xW (wz (bF cStr (glC (by kernel_rfl)) (by calc B.str) boot_str (V7 (sw (dIx (dN (lF 'k' 1)) (sw bQ))) V6)) adv) Ey)))))))))
  (aq (bI (eU (jY hr.units) (pU 2) (jX aG)) (aJ (pS 2 (jX (aj aQ aG)))) aX)
  (aJ (aZ (peC (jY hr.units) (pM tX (pU 0) (aj aQ aG)) (oF cf dn dm rH aQ (aj (pU 2) aG))))))),?_⟩
 let(rfl,h,S,hq):=nY;have⟨l1,l2,l3,l4,l5⟩:=S.len;let(dI,hk,hp):=h.md;have hpl:=!hp;have hrw:∀r∈rows,RowW r:=λr hr=>S.row hr;dsimp only[gA];refine bh λN hN=>⟨m,dI,hk,fG ?_⟩;delta sX Ux qK;refine ak rfl ⟨.inr<|.inr ⟨rfl,dI,hk⟩,dI,hk,λz hz=>⟨z,m,dI,_,rfl,rfl,hz,hk,λo D hD=>?_⟩⟩;have sz:=aH (o:=HO.ext λh=>h z=#[lD m]) hz;have hk1:=sz _ _ hk;generalize upd H z (HO.ext λh=>h z=#[lD m])=H1 at sz hk1 hD ⊢;have Xo:D≠m:=λy=>by rw[y,ao] at hD;cases hD
 rw[au Xo] at hD;refine⟨λi n H'=>n=(!dI) - i/\i<=!dI/\H' m=#[.dR o<|.dK dI]/\H' D=#[.lst<|(rows.take i).map λr=>V.str<|jt r]/\Same H (upd H' m<|.dK dI),⟨_,rfl,cv _,by rw[au Xo.symm,ao],ao,λb ob e=>?_⟩,?_⟩
 .rw[rP Xo,w5 hk1,au<|aV (sz _ _ e) hD];exact sz _ _ e
 rintro i n H' ⟨rfl,hi,hf,hd,sm⟩;by_cases c:i<!dI
 .refine .inr ⟨⟨hf,c⟩,λx pq y=>?_⟩;let(pp,kv,e1,e2,e3,e4):=y;subst e3 e4;let(r,f1,f2,t,f3,f4):=hp.get e1;have hr:=hrw r<|ag f1;have ht:t≠m:=λz=>by rw[z,hk] at f4;cases f4
  have f5:=sm _ _ f4;rw[au ht] at f5;have sp:=aH (o:=.tup [kV kv.1,kv.2]) e2;have f6:=sp _ _ f5;obtain⟨k0,v0⟩:=kv;cases f2;cases f3;refine⟨_,cF.of ao,rfl,?_⟩;refine⟨dD.skip<|dD.skip dD.nil,?_⟩;delta Dk;k_ne;rw[ap rfl];refine tvS 2 [(0,.str r.1),(1,.tuple [.str r.2.1,.str r.2.2.1,.int r.2.2.2.1,.int r.2.2.2.2])] (.c rfl ⟨rfl,hr.n.ok⟩<|.c rfl ⟨t,_,rfl,cF.of f6,_,_,rfl,⟨rfl,hr.a.ok⟩,_,_,rfl,⟨rfl,hr.b.ok⟩,_,_,rfl,rfl,_,_,rfl,rfl,rfl⟩ .n) (z:=jt r) ?_ λH4 s4=>⟨_,s4 _ _<|sp _ _ hd,bw (by rw[ac,fm];lk),_,ja _ _ c,rfl,c,by rw[au Xo.symm];calc s4 _ _<|sp _ _ hf,?_,λb ob e=>?_⟩
  .dsimp only[cu];z_go;have e1:Lr [.int r.2.2.2.1]=#[.str<|↥r.2.2.2.1]:=ap (by rw[bj];calc⟨a9 hr.w.lg,hr.w.ok⟩);have e2:Lr [.int r.2.2.2.2]=#[.str<|↥r.2.2.2.2]:=ap (by rw[bj];calc⟨a9 hr.l.lg,hr.l.ok⟩);have ec:∀a b c d:(),VM.cutD [a,b,c,d] none #[2]=[a,b]:=λa b c d=>by with_unfolding_all rfl
   rw[aw 'k',ec];have hc:∀xs ys:¬(),(!xs)+(!ys)<=9->pX (.list xs) (.list ys)=#[.list (xs++ys)]:=λxs ys h=>ap (iS (bw ∅));show b1 (jV (.str " ")) (b2 pX (pX (.list [.str r.1]) (.list [.str r.2.1,.str r.2.2.1])) _ _)=_;rw[hc _ _ (by erw[a8,c9];lk)];z_go;rw[e1];z_go;rw[e2];z_go;rw[hc _ _ (by erw[a8,c9];lk)];z_go;have:=hr.w.len;have:=hr.l.len;exact JZ (ws:=Aa r) (B:=1040) wW (λz hz=>(hr.all z hz).ok) (λz hz=>by
    erw[Aa,bq,fI,gL] at hz;have:=hr.ln;have:=hr.la;have:=hr.lb;rcases hz with rfl|rfl|rfl|rfl|rfl<;>lk) (by rw[jH];simp[Aa])
  .rw[ao,eJ,f1,b7];rfl
  .rw[rP Xo,au<|aV (sz _ _ e) hD];have:=sm _ _ e;by_cases z:b=m
   .subst z;rwa [ao] at this ⊢
   .rw[au z] at this ⊢;exact s4 _ _<|sp _ _ this
 .have e:i=!dI:=by lk
  subst e;rw[hpl,bn<|av _] at hd;refine .inl ⟨⟨hf,av _⟩,o,hf,hN _ _ ?_⟩;have hd2:upd H' m (.dK dI) D=#[.lst<|(rows.map jt).map V.str]:=by rw[au Xo,hd,ce];rfl
  generalize upd H' m (.dK dI)=H2 at sm hd2;have ok:∀z∈rows.map jt,(PyData.str z).canLay0=true:=λz hz=>by let(r,hr,e):=bg.mp hz;exact e▸(hrw r hr).ok
  f_len;have go:∀(a:Addr) H3 (ws:¬Str),Same H H3->H3 a=#[.lst (ws.map V.str)]->JoinOk "; " ws=true->cA (Txt.join "; " ws)=true->(if rows=[] then("none":Str) else Str.join "; " (rows.map jt))=Txt.join "; " ws->N [#[.ref x],#[.ref m],#[.ref a]] H3:=λa H3 ws s3 ha j1 j2 e=>hN _ _ (ji (cC (aez rfl (h.grow s3).d (aey S (h.grow s3).d (h.grow s3).h λH4 s4=>by
   rw[e];delta pN;calc cO ⟨rfl,aM (ak rfl (bY ⟨_,a,ws,rfl,rfl,aU.of (s4 _ _ ha),j1,ajK j2 (hq _ (s3.trans s4))⟩))⟩))))
  refine yL<|cC<|ak rfl ⟨cv _,λz2 Nh=>?_⟩;have s2:=aH (o:=.lst []) Nh;refine⟨gH<|rows.map jt,gH [],⟨D,_,rfl,aU.of (s2 _ _ hd2),fu ok⟩,⟨z2,_,rfl,aU.of ao,rfl⟩,qe _,?_⟩;by_cases c:rows=[]
  .subst c;exact aej<|fG<|aM<|cO<|bY ⟨by decide,λz3 hz3=>go z3 _ ["none"] (sm.trans<|s2.trans<|aH hz3) ao 'k' 'k' (by rw[ap rfl];decide +kernel)⟩
  .have e:eqv (gH<|rows.map jt) (gH [])=false:=by
    cases rows with
    |nil=>calc absurd rfl c
    |cons r rs=>rfl
   rw[e];have jn:Txt.join "; " (rows.map jt)=Str.join "; " (rows.map jt):=glued_eq_join ..;calc rG<|go D _ _ (sm.trans s2) (s2 _ _ hd2) (cw not<|joinFits (λz hz=>by let(r,hr,e):=bg.mp hz;calc e▸(hrw r hr).len) (by rw[ac,tU];lk)) (by rw[jn];calc jG J5 ok) (by rw[aw c,jn])
end
def ab2 (nm:Str)(k:Int)(rows:¬Row):qz (rows.map<|eY nm k)=qz rows:=by
 have h:∀near r,gF near (eY nm k r)=gF near r:=λnear r=>by delta gF eY;split<;>rfl
 have f:∀near,(rows.map<|eY nm k).foldl gF near=rows.foldl gF near:=λnear=>by rw[List.foldl_map];congr 1;funext a b;exact h a b
 have g:∀i,cN (rows.map<|eY nm k) i=cN rows i:=λi=>by
  induction i with
  |zero=>rfl
  |succ i A=>show foldl _ _ _=foldl _ _ _;rw[f,A]
 delta qz;rw[g]
def ahk {seen:¬Str}(G:a∈seen)(B:b∈seen):j7 seen [a,b]=seen:=by have e:∀z∈seen,(if(seen.any λy=>y==z)=true then seen else seen++[z])=seen:=λz C=>ap (by rw[qv];calc⟨z,C,il z⟩);delta j7;rw[eQ,eQ,foldl_nil,e a G,e b B]
section
variable {K:Frag}
def tW.stay (h:tW H m rows)(A:aW H C p J G D nums x)(h1:m≠G)(h2:m≠D)(s:fL G D H E):tW E m rows:=by let⟨B,M,I⟩:=h;let⟨L,N,_⟩:=A.laid;calc⟨B,s _ _ h1 h2 M,I.mono λ_ _ z=>z.same λt O e=>s _ _ (λy=>by rw[y,A.num] at e;cases e) (λy=>by rw[y,N] at e;cases e) e⟩
def Ox {rows:¬Row}(L:ig H U x k (.ref p))(M:aW H C p g j Y nums m)(S:S8 rows nums m)(B:qg (100*bf) R6 N9 rows d)(o:∀r∈oJ d rows,RX (100*bf) r)
  (q:∀E D A,S8 (oJ d rows) D A->seenOf D=DY d (seenOf nums)->aW E C p g j Y D A->ig E U x k (.ref p)->fL j Y H E->Q (.str "ok") E):dZ K U C [.ref x,.str<|Str.join " " (d.word::d.args)] H Q:=by
 refine aes (Om S.R S.N S.ok.dr.sub (λr hr=>d5 (S.rx r hr).2.1<|'k') 'k' B) L M.ins λt s=>?_;let(D,A,T,G,run):=step S.ok (λx O=>(S.R x O).ok) (λx O=>(S.N x O).ok) B<|M.grow s;refine run _ λE N st=>?_;have J:=(fL.same s).trans st;let(l,c,_):=M.laid;let(I,e):=S.sn;calc q E D A ⟨T,S.R,S.N,by rw[G,e];calc aby d _ _ I,o⟩ G N (J _ _ (λz=>by have:=M.num;rw[<-z,L] at this;cases this) (λz=>by rw[<-z,L] at c;cases c) L) J
end
def LK (H E:Hp):Prop:=∀b D,H b=#[.lst D]->E b=#[.lst D]
def LK.trans (a:LK H E)(b:LK E C):LK H C:=λc D e=>b c D<|a c D e
def LK.of (s:Same H E):LK H E:=λb _ e=>s b _ e
def ab3 (h:H m=#[.dK B]):LK H (upd H m o):=λb D e=>by rw[au λz=>by rw[z,h] at e;cases e];calc e
section
variable {K:Frag}
def LK.stay (A:aW H C p B G D nums x)(s:fL G D H E):LK H E:=λb I e=>by let⟨L,N,_⟩:=A.laid;calc s b _ (λz=>by rw[z,A.num] at e;cases e) (λz=>by rw[z,N] at e;cases e) e
def aW.aoM (h:aW H C p E G D nums x)(A:m≠G)(Q:m≠D)(hk:H m=#[.dK B]):aW (upd H m o) C p E G D nums x:=by
 let(a,b,(L,c,d),n):=h;refine(?_,?_,(L,?_,d.mono λ_ _ z=>z.same<|qX hk),n)
 .rw[au λz=>by rw[z,hk] at a;cases a];exact a
 .rw[au A.symm];exact b
 .rw[au Q.symm];calc c
def ab4 {E:¬Row}(h:mz C I H x J p L B D m rows nums O)(Q:m≠B)(T:m≠D)(hk:H m=#[.dK N])(M:Paired (yw Dd H) A E):mz C I (upd H m<|.dK A) x J p L B D m E nums O:=by refine⟨?_,h.h.aoM Q T hk,A,ao,M.mono λ_ _ z=>z.same<|qX hk⟩;calc(au λz=>by have G:=h.d;rw[z] at G;calc absurd (hk.symm.trans G)<|by simp).trans h.d
def akk {nm:Str}{Q:Hp->Prop}{v:Str×Str×Int×Int}(h:mz C B H x I p J G A m rows nums N)(O:m≠G)(T:m≠A)(Y:(!rows)<=8)(U:H t=#[.tup<|Dd v])(q:∀E,mz C B E x I p J G A m (iJ nm v rows) nums N->LK H E->Q E):∃E,qW H m (.str nm) (.ref t) E/\Q E:=by let(L,M,D):=h.md;have:=!D;calc⟨_,qW.k (k:=nm) M<|bw ∅,q _ (ab4 h O T M<|Jj U D)<|ab3 M⟩
def Eo {d:bR}{N rows:¬Row}(st:mz C G H x M p O J I m N nums Y)(S:S8 rows nums Y)(j:m≠J)(k:m≠I)(B:qg (100*bf) R6 N9 rows d)(g:∀r∈oJ d rows,RX (100*bf) r)
  (q:∀E D A,S8 (oJ d rows) D A->seenOf D=DY d (seenOf nums)->mz C G E x M p O J I m N D A->LK H E->Q (.str "ok") E):dZ K G C [.ref x,.str<|Str.join " " (d.word::d.args)] H Q:=
 Ox st.d st.h S B g λE D A L e U T s=>q E D A L e ⟨T,U,st.md.stay st.h j k s⟩<|LK.stay st.h s
def pI {a b:Str}:("shut ":Str)++a=Str.join " " ["shut",a]/\("widen ":Str)++a++" "++b=Str.join " " ["widen",a,b]/\("narrow ":Str)++a++" "++b=Str.join " " ["narrow",a,b]:=by
 have B:("shut ":Str)="shut"++" ":='k'
 have G:("widen ":Str)="widen"++" ":='k'
 have J:("narrow ":Str)="narrow"++" ":='k'
 rw[B,G,J];refine⟨rfl,?_,?_⟩
 .show _="widen"++" "++(a++" "++b);erw[ed]
 .show _="narrow"++" "++(a++" "++b);erw[ed]
def J8 {a:Str}:("widen ":Str)++a++" 7"=Str.join " " ["widen",a,Str.ofString<|toString (7:Int)]/\("narrow ":Str)++a++" 7"=Str.join " " ["narrow",a,Str.ofString<|toString (7:Int)]:=by
 have e:(" 7":Str)=" "++Str.ofString (toString (7:Int)):='k'
 rw[<-pI.2.1,←pI.2.2,e];calc⟨(ed _ _ _).symm,(ed _ _ _).symm⟩
def akl (c:TT)(t u:TS)(D:Ends)(B:L2.St):VK:=λx H=>match x with
 |.bl k=>if(not k)=true then(if true=true then t D B H else u D B H) else d8 c t u D B H
 |_=>False
def aeK {t u:TS}(h:te B H (akl c t u D B)):d8 (Mi (Xx<|mG te) c) t u D B H:=h
def aeL {t u:TS}(h:d8 c t u D B H):akl c t u D B (.bl true) H:=h
def ZK {ws:¬Str}(A:H z=#[.lst<|ws.map V.str])(C:∀y∈ws,(!y)<=500)(N:(!ws)<=10)(q:Q (.str<|Str.join " " ws) H):rJoin K (.str " ") [.ref z] H Q:=by refine⟨" ",z,ws,rfl,rfl,aU.of A,cw not<|joinFits C (by rw[jH];lk),?_⟩;rw[show Txt.join " " ws=Str.join " " ws from glued_eq_join ..];calc q
def Ok.ahl (N:Ok A names rows nums C)(hr:r∈rows):r.2.1∈seenOf nums/\r.2.2.1∈seenOf nums:=by let(x,_,_,(i,_,B),(j,_,G),_):=xH N.lr hr;calc⟨ag B,ag G⟩
def ab5 (nm:Str)(rows:¬Row):Not (nm∈(qy nm rows).map (·.1)):=λh=>by let(r,hr,e):=bg.mp h;have:=(di.mp hr).2;rw[e] at this;simp at this
def akm {rows:¬Row}(h:(A,v)∈rows):(!(qy A rows))<!rows:=List.length_filter_lt_length_iff_exists.mpr ⟨_,h,by simp⟩
def Ep (q:Q (.bl false) H):Gd K (.str "ok") (.str "ok") H Q:=neS 'k' q
end
section
variable {K:Frag}
def Xp {rows:¬Row}(D:Paired (yw Dd H) B rows):(B.map λC=>kV C.1)=(rows.map (·.1)).map V.str:=by
 rw[ce];induction D with
 |nil=>rfl
 |cons h _ A=>rw[aT,aT,A,h.1];rfl
def ahm (xs:¬V):iZ xs none #[2]=xs.take 2:=by have e:HT.cj (!xs) (!xs) #[2]=min 2 !xs:=HT.VH _ _ 2;delta iZ;rw[e,HT.Q9,drop_zero,Nat.sub_zero,←List.take_eq_take_min]
inductive afV (C CD:Addr)(vs:¬V)(H:Hp)(Q:VK):Prop
 |mk {rows:¬Row} (e:vs=[.ref x,.ref m,.ref rA,.int T,.int n]) (h:mz C CD H x dk p dx nn ll m rows nums ls) (m1:m≠nn) (m2:m≠ll) (hr:H rA=#[.lst<|(seenOf nums).map V.str]) (S:S8 rows nums ls) (h0:0<=T) (hT:T<=10^22) (h1:1<=n) (hn:n<=10^20) (rx:∀r∈rows,RX (90*bf) r) (q:∀H',Q (.bl true) H')
theorem ZL (B:Bl E.mg)(cD:Cls K CD)(tX:MO E K CD (yN 1) 9 (dZ K CD C))(Cn:CV E K 53 1 fJ)(Cf:CO E K 60 10 (ab0 K C CD))(Ct:CO E K 58 11 (ZG K C CD))(Cp:CO E K 55 10 (ZJ C CD))(h:GF E K 61):CO E K 61 12 (afV C CD):=by
 refine BX ["_law_desk","_law_model","_law_rooms","_law_turns_here","_law_people","_law_name","_law_a","_law_b","_law_width","_law_length","_law_worth","_law_before"] h (λvs H Q h=>by let(rfl,_):=h;rfl) λH nd vt hr nY=>?_;refine⟨_,(aq (jx (jW (qJ Dj (U6 (Dl (cap:=[none]) ["_law_desk","_law_model","_law_rooms","_law_turns_here","_law_people","_law_name","_law_a","_law_b","_law_width","_law_length","_law_worth","_law_before"] (aP (top 61)) 'k' rfl rfl (LQ (U5 (pU 1))) (λ_ _ _ _ _=>qC (i:=0) (show(["_law_name"]:¬Str).Nodup by decide +kernel) 'k') (λ_ _ _ _ _=>lU) (λ_ _ _ _ _=>lF 'k' 0))) VL (uN aN))) (pG 5) (aq (Av (gP (dJ hr) (pU 1) (pU 5) (λ_ _=>rfl)) (m6 (bM (pG 6) (bM (pG 7) (bM (pG 8) (bM (pG 9) jZ))))))
  (aq (pS 10 (pC Cn (aj (pM tX (pU 0) (aj (bK bJ (bK bJ (bK bJ aQ (pU 5)) aQ) (bF cStr gx B.str boot_str (aj (pU 3) aG))) aG)) aG)))
  (aq (pS 11 (pC Cn (aj (pM tX (pU 0) (aj (bK bJ aQ (bF cStr gx B.str boot_str (aj (pU 3) aG))) aG)) aG)))
  (aq (bI (PW.pt (gG (nP (Ew (pC Cf (aj (pU 0) (aj (pU 1) (aj (pU 4) aG)))))) (iV (eU (fY hr.units) (pM tX (pU 0) (aj (bK bJ aQ (pU 5)) aG)) aQ)))) (aJ (aZ kI)) aX)
  (aq (cG (zJ (pU 1) (pU 5) ⟨rfl,rfl,rfl,rfl⟩))
  (aq (bI (PW.pt (gG (dG Bc hIs (mw (dN (pU 10))) (sw pP)) (gG (dG Bc hIs (mw (dN (pU 11))) (sw pP)) (iV (eU (fY hr.units) (pC Cn (aj (pM tX (pU 0) (aj (bK bJ aQ (bF cStr gx B.str boot_str (aj (pU 3) aG))) aG)) aG)) (bK qL (pU 11) (pU 10))))))) (aJ (aZ kI)) aX)
  (aq (bI (PW.pt (gG (nP (Ew (pC Cf (aj (pU 0) (aj (pU 1) (aj (pU 4) aG)))))) (iV (nP (Ew (pC Ct (aj (pU 0) (aj (pU 1) (aj (pU 2) (aj (pU 3) aG)))))))))) (aJ (aZ kI)) aX)
  (aq (bI (eU (fY hr.units) (pM tX (pU 0) (aj (oF cf dn dm rH aQ (aj (jX (aj aQ (aj (pU 5) (aj (pU 6) (aj (pU 7) (aj (bF cStr gx B.str boot_str (aj (pU 8) aG)) (aj (bF cStr gx B.str boot_str (aj (pU 9) aG)) aG))))))) aG)) aG)) aQ) (aJ (aZ kI)) aX)
  (aq (m9 (dJ hr) (pU 1) (pU 5) (iY (aj (pU 6) (aj (pU 7) (aj (pU 8) (aj (pU 9) aG))))) rfl)
  (aq (bI (PW.pt (gG (eU (fY hr.units) (pM tX (pU 0) (aj (bK bJ (bK bJ aQ (pU 5)) aQ) aG)) aQ) (iV (nP (Ew (pC Cf (aj (pU 0) (aj (pU 1) (aj (pU 4) aG))))))))) (aJ (aZ kI)) aX)
  (aJ (bI (PW.pt (gG (eU (fY hr.units) (pM tX (pU 0) (aj (bK bJ (bK bJ aQ (pU 5)) aQ) aG)) aQ) (iV (nP (Ew (pC Cf (aj (pU 0) (aj (pU 1) (aj (pU 4) aG))))))))) (aJ (aZ kI)) aX)))))))))))))
  (aJ (aZ (pC Cp (aj (pU 0) (aj (pU 1) aG)))))),?_⟩
 obtain⟨rfl,h,m1,m2,hrA,S,h0,hT,h1,hn,rx,hq⟩:=nY;have⟨l1,l2,l3,l4,l5⟩:=S.len;let(dI,hk,hp):=h.md;have hpl:=!hp;have Fz:cT T:=⟨h0,d5 hT<|'k'⟩;have big:∀{a:Int},a<10^49->a<10^100:=λh=>ft h 'k';have hTl:=Fz.z.len;have sz:sizeLine=16777216:=rfl;have v8:=Xp hp;dsimp only[gA];refine bh λN hN=>Uj ?_;delta VN Kg yU;refine Zy rfl hk ∅ λD0 H1 s1 hD0 hD1=>?_;rw[v8] at hD1;refine cO ⟨_,rfl,D0,_,rfl,aU.of hD1,λD hD=>⟨D,rfl,⟨_,aU.of ao⟩,?_⟩⟩;have s2:=s1.trans<|aH (o:=.lst<|iZ ((rows.map (·.1)).map V.str) none<|#[2]) hD;have Xq:upd H1 D (.lst<|iZ ((rows.map (·.1)).map V.str) none<|#[2]) D=#[.lst<|((rows.map (·.1)).take 2).map V.str]:=by rw[ao,ahm,map_take]
 generalize upd H1 D (.lst<|iZ ((rows.map (·.1)).map V.str) none<|#[2])=H2 at s2 Xq ⊢;refine forA (ws:=(rows.map (·.1)).take 2) V.str (λ_ (y:↑V×↑V×↑V×↑V×↑V×↑V×↑V)=>[#[.ref x],#[.ref m],#[.ref rA],#[.int T],#[.int n],y.1,y.2.1,y.2.2.1,y.2.2.2.1,y.2.2.2.2.1,y.2.2.2.2.2.1,y.2.2.2.2.2.2]) (λ_ H'=>∃(jk:¬Row) (uM:¬(Str×Int)) (ur:¬(Str×Q4)),mz C CD H' x dk p dx nn ll m jk uM ur/\S8 jk uM ur/\seenOf uM=seenOf nums/\(∀r∈jk,RX (90*bf) r)/\(∀z∈rows.map (·.1),z∈jk.map (·.1))/\H' rA=#[.lst<|(seenOf nums).map V.str]/\H' D=#[.lst<|((rows.map (·.1)).take 2).map V.str]) (none,none,none,none,none,none,none) rfl ⟨rows,nums,ls,h.grow s2,S,rfl,rx,λ_ h=>h,s2 _ _ hrA,Xq⟩ (λi H' ⟨_,_,_,_,_,_,_,_,_,e⟩=>aU.of e) ?_ ?_
 .rintro i nm y H' v8 ⟨jk,uM,ur,st,S',es,rx',sub,hr',hD'⟩;have hmn:=sub nm<|hX<|ag v8;let(v,ev):=pA (l:=jk) hmn;let(t,kd,k1,k2,k3):=ZD st.md ev;refine bh λN hN=>fG (ak rfl (ak rfl ⟨m,.ref t,rfl,by rw[<-k2];calc gO.k (k:=nm) k1,_,cF.of k3,rfl,hN _ _ ?_⟩));let(ia,va):=zN ev;have vm:=ag va;have hnz:=S'.N _<|S'.ok.dr.sub _ vm;have hnl:=hnz.2.2;have S2:=S'.drop (nm:=nm);let(W,ws,bU,o):=S'.out Fz.n7;let(W2,ws2,arX,o2):=S2.out Fz.n7;have w1:=o.small S' h0 hT;have w2:=o2.small S2 h0 hT;have wn:W2<=W:=let⟨_,e⟩:=S'.sn;Ug S'.ok e (λr hr=>⟨(S'.rx r hr).1,(S'.rx r hr).2.1,(S'.rx r hr).2.2.1⟩) o.O o2.O;refine bh λN hN=>fG (callC<|jU rfl st.d rfl<|aM<|cC<|cC<|cC<|cO<|ak rfl ⟨_,_,rfl,rfl,?_,cO ⟨_,_,rfl,rfl,?_,GX<|ak rfl ⟨T,rfl,Fz.z.lg,_,_,rfl,rfl,?_,bY<|abL S' st.d st.h hmn o o2 Fz λH1 s1=>bY<|G4 ∅ (big ∅) λH3 s3=>hN _ _ ?_⟩⟩⟩)
  .have:(!("worth ":Str))=6:='k'
   show _+(!nm)<=_;lk
  .have:(!("worth ":Str))=6:='k'
   rw[bt,jH];lk
  .have:(!("worth ":Str))=6:='k'
   rw[bt,bt,jH];lk
  have st3:=st.grow<|s1.trans s3;refine bh λN hN=>fG (callC (Ac rfl st3.d 'k' (λR r=>ak rfl r) Fz.z<|yO S' st3.d st3.h o Fz λH4 s4=>bY<|G4 w1.1 (big w1.2) λH5 s5=>hN _ _ ?_));have V3:=st3.grow<|s4.trans s5;have k5:=LK.of ((s1.trans s3).trans<|s4.trans s5);have⟨_,q2,_⟩:=S'.len;refine bh λN hN=>aeK<|callC<|ak rfl<|aM<|ak rfl<|aM<|ak rfl<|bY<|.mk rfl V3 S' rfl q2 h1 hn λH6 s6=>aeL ?_;have st6:=V3.grow s6;refine yL<|cC<|jU rfl st6.d rfl<|aM<|cC<|cO<|ak rfl ⟨_,_,rfl,rfl,?_,bY ?_⟩
  .have:(!("shut ":Str))=5:='k'
   show _+(!nm)<=_;lk
  rw[(pI (b:="")).1];refine Eo (d:=.shut nm) st6 S' m1 m2 hmn (λr hr=>S'.rx r (di.mp hr).1) λH7 J9 ls7 S7 e7 st7 k7=>cO<|Ep<|rG<|hN _ _ ?_;have k57:=(k5.trans<|LK.of s6).trans k7;let(kv7,hk7,hp7):=st7.md;have g7:=tE nm hp7;rw[ev] at g7;let(t7,g71,g72):=g7;refine bh λN hN=>JR ?_;delta Jh;refine ak rfl ⟨m,rfl,⟨_,.inl hk7⟩,ak rfl ⟨kv7,nm,.ref t7,hk7,rfl,g71,hN _ _ ?_⟩⟩;have st8:mz C CD (upd H7 m<|.dK<|mq kv7 nm) x dk p dx nn ll m (qy nm jk) J9 ls7:=ab4 st7 m1 m2 hk7<|DX (nm:=nm) hp7;have k8:=k57.trans<|ab3 (o:=.dK<|mq kv7 nm) hk7;generalize upd H7 m (.dK<|mq kv7 nm)=H8 at st8 k8 ⊢;have Vd:S8 (qy nm jk) J9 ls7:=S7;let(W7,ws7,arY,o7):=Vd.out Fz.n7;cases o2.eq S2 Vd o7;refine bh λN hN=>Ot 12 [(10,.int<|W - W2)] (.c rfl rfl .n) (by dsimp only[cu];z_go) λH9 s9=>Ot 12 [(11,.int W)] (.c rfl rfl .n) (by dsimp only[cu];z_go) λHa sa=>?_;have sta:=st8.grow<|s9.trans sa;refine yL (cC (callC (Ac rfl sta.d 'k' (λR r=>ak rfl r) Fz.z<|yO Vd sta.d sta.h o7 Fz λHb sb=>bY<|G4 w2.1 (big w2.2) λHc sc=>cC<|ak rfl<|ak rfl<|Fy ?_)));rw[show W - (W - W2)=W2 by lk];refine Xi<|rG<|hN _ _ ?_;have sac:=(s9.trans sa).trans<|sb.trans sc;have stc:=st8.grow sac;have⟨_,q7,_⟩:=Vd.len;have hrc:Hc rA=#[.lst<|(seenOf J9).map V.str]:=by rw[show seenOf J9=seenOf nums from e7.trans es];exact sac _ _<|k8 _ _ hr'
  refine bh λN hN=>aeK<|callC<|ak rfl<|aM<|ak rfl<|aM<|ak rfl<|bY<|.mk rfl stc Vd rfl q7 h1 hn λHd sd=>aeL ?_;refine Mf<|callC<|ak rfl<|aM<|ak rfl<|aM<|ak rfl<|aM<|ak rfl<|bY<|.mk rfl (stc.grow sd) (sd _ _ hrc) Vd h0 hT λHe se=>Em<|hN _ _ ?_;have ste:=stc.grow<|sd.trans se;have ke:=k8.trans<|LK.of (sac.trans<|sd.trans se);let(rab,vw,vl,vl2):=rx' _ vm;let(sa1,sb1):=S'.ok.ahl vm;have ra:=S'.R _<|S'.ok.sub _ sa1;have rb:=S'.R _<|S'.ok.sub _ sb1;have v1:=S'.ok.dr.wd _ vm;have h7:90*bf+7<=100*bf/\bf<=100*bf/\7<=100*bf/\100*bf<10^60:='k'
  have zw:cT v.2.2.1:=⟨by lk,by lk⟩;have zl:cT v.2.2.2:=⟨by lk,by lk⟩;have hl8:=akm vm;have dok:qg (100*bf) R6 N9 (qy nm jk) (.lay nm v.1 v.2.1 v.2.2.1 v.2.2.2):=⟨S'.ok.dr.sub _ vm,ab5 nm jk,S'.ok.sub _ sa1,S'.ok.sub _ sb1,rab,v1,vl,by lk,by lk,by lk⟩;have rxo:∀r∈qy nm jk++[(nm,v)],RX (90*bf) r:=λr hr=>by
   rcases bd.mp hr with g|g
   .exact rx' r (di.mp g).1
   .cases aI.mp g;exact rx' _ vm
  have rxu:∀r,RX (90*bf) r->RX (100*bf) r:=λr ⟨a,b,c⟩=>⟨a,by lk,c⟩;refine bh λN hN=>yL<|cC<|jU rfl ste.d rfl<|aM ?_;delta pN Q5;refine cO ⟨rfl,aM<|aM<|cO<|aM<|ak rfl<|aM<|ak rfl<|aM<|ak rfl<|aM<|GX<|ak rfl ⟨_,rfl,zw.z.lg,aM<|GX<|ak rfl ⟨_,rfl,zl.z.lg,bY ⟨(by show 6<=16777216;decide),λz hz=>bY<|ZK (ws:=["lay",nm,v.1,v.2.1,↥v.2.2.1,↥v.2.2.2]) ao ?_ (by show 6<=10;decide) (bY ?_)⟩⟩⟩⟩
  .intro y hy
   have:(!("lay":Str))=3:='k'
   erw[bq,fI,gL] at hy;rcases hy with rfl|rfl|rfl|rfl|rfl|rfl
   .omega
   .omega
   .exact cb ra.2.2<|by decide
   .exact cb rb.2.2<|by decide
   .exact zw.z.len
   .exact zl.z.len
  have sz8:=aH (o:=.lst [V.str "lay",.str nm,.str v.1,.str v.2.1,.str<|↥v.2.2.1,.str<|↥v.2.2.2]) hz;refine Eo (d:=.lay nm v.1 v.2.1 v.2.2.1 v.2.2.2) (ste.grow sz8) Vd m1 m2 dok (λr hr=>rxu r<|rxo r hr) λHf af2 lsf Sf ef stf kf=>cO<|Ep<|rG<|hN _ _ ?_;have kf':=(ke.trans<|LK.of sz8).trans kf;have Sf':S8 (qy nm jk++[(nm,v)]) af2 lsf:=Sf;have esf:seenOf af2=seenOf nums:=by rw[ef];show j7 _ [_,_]=_;rw[show seenOf J9=seenOf uM from e7,ahk sa1 sb1,es]
  have⟨_,qf,_⟩:=Sf'.len;have hmf:nm∈(qy nm jk++[(nm,v)]).map (·.1):=bg.mpr ⟨(nm,v),b6 _<|aI.mpr rfl,rfl⟩;f_len;delta uG qI;refine aM (ak rfl (aM (ak rfl (aM (ak rfl (aM (ak rfl (bY ⟨(by show 4<=16777216;decide),λt ht=>ak rfl<|ak rfl ?_⟩))))))));have sft:=aH (o:=.tup<|Dd v) ht;refine⟨m,(akk (nm:=nm) (v:=v) (stf.grow sft) m1 m2 ∅ ao λHg stg kg=>hN _ _ ?_).imp λ_ h=>⟨rfl,h⟩⟩;rw[vG<|ab5 nm jk] at stg;have kg':=(kf'.trans<|LK.of sft).trans kg;have l7:(!(" 7":Str))=2/\(!("widen ":Str))=6/\(!("narrow ":Str))=7:='k'
  refine bh λN hN=>orO<|cC<|jU rfl stg.d rfl<|aM<|cC<|cC<|cO<|ak rfl ⟨_,_,rfl,rfl,?_,cO ⟨_,_,rfl,rfl,?_,bY ?_⟩⟩
  .show _+(!nm)<=_;lk
  .rw[bt];lk
  rw[J8.1];have rxw:∀r∈(qy nm jk++[(nm,v)]).map (eY nm 7),RX (100*bf) r:=λr hr=>by
   let(s,hs,e):=bg.mp hr;let(a,b,c):=rxo s hs;rw[<-e];delta eY;split
   .exact⟨a,(show s.2.2.2.1+7<=_ by lk),c⟩
   .exact⟨a,by lk,c⟩
  refine Eo (d:=.widen nm 7) stg Sf' m1 m2 ⟨hmf,by decide,h7.2.2.1⟩ rxw λHh arl lsh Sh eh sth kh=>cO<|Ep<|orF ?_;refine Mf<|callC<|ak rfl<|aM<|ak rfl<|aM<|ak rfl<|bY<|.mk rfl sth Sh (ab2 nm 7 _).symm qf h1 hn λHi si=>Em<|hN _ _ ?_;have sti:=sth.grow si;refine orO<|cC<|jU rfl sti.d rfl<|aM<|cC<|cC<|cO<|ak rfl ⟨_,_,rfl,rfl,?_,cO ⟨_,_,rfl,rfl,?_,bY ?_⟩⟩
  .show _+(!nm)<=_;lk
  .rw[bt];lk
  rw[J8.2];refine Eo (d:=.narrow nm 7) sti Sh m1 m2 ⟨eY nm 7 (nm,v),fN<|b6 _<|aI.mpr rfl,?_,by decide,?_⟩ ?_ λHj af3 lsj Sj ej stj kj=>cO<|Ep<|orF ?_
  .delta eY;rw[ap rfl]
  .delta eY;rw[ap rfl];show 7<v.2.2.1+7;lk
  .show ∀r∈List.map (eY nm<|-7) (List.map (eY nm 7) _),_;rw[Ue];exact λr hr=>rxu r<|rxo r hr
  have Sj':S8 (qy nm jk++[(nm,v)]) af3 lsj:=by rw[<-Ue nm 7 (qy nm jk++[(nm,v)])];exact Sj
  refine Mf<|callC<|ak rfl<|aM<|ak rfl<|aM<|ak rfl<|bY<|.mk rfl stj Sj' rfl qf h1 hn λHk sk=>Em ?_;have kk:=((((kg'.trans kh).trans<|LK.of si).trans kj).trans<|LK.of sk);refine⟨⟨(_,_,_,_,_,_,_),rfl⟩,_,af3,lsj,stj.grow sk,Sj',?_,rxo,λz hz=>?_,kk _ _ hr',kk _ _ hD'⟩
  .exact ej.trans<|eh.trans esf
  .let(r,hr,e):=bg.mp<|sub z hz;by_cases c:z=nm
   .rw[c];exact hmf
   .exact bg.mpr ⟨r,c5 _<|di.mpr ⟨hr,by rw[e];simp[c]⟩,e⟩
 .rintro y H' ⟨jk,uM,ur,st,S',_⟩;calc hN _ _<|ji<|callC<|ak rfl<|aM<|ak rfl<|bY<|.mk rfl st S' λpq _=>hq _
end
section
variable {K:Frag}
def Xr {rows:¬Row}{v:Str×Str×Int×Int}{nm:Str}(nd:(rows.map (·.1)).Nodup)(e:dj nm rows=#[v])(k:Int):iJ nm (v.1,v.2.1,v.2.2.1+k,v.2.2.2) rows=rows.map (eY nm k):=by
 let(i,N):=zN e;have A:=ag N;rw[SQ<|bg.mpr ⟨_,A,rfl⟩];refine cx λr hr=>?_;delta eY;by_cases c:r.1=nm
 .rw[ap c,ap c];cases SX nd hr A c;rfl
 .rw[aw c,aw c]
def alG:∀j<9,(⇑("abcdefghi":Str))[j]? =#[97+j]/\("p":Str)++⟨[97+j].toArray⟩∈N9:='k'
def alH:∀i<6,∀j<6,i≠j->R6.getD i ""≠R6.getD j "":='k'
def af4 {i:Nat}(h:i<6):cP (R6.map V.str) (i:Int)=#[.str<|R6.getD i ""]/\R6.getD i ""∈R6:=by
 have e:R6[i]? =#[R6.getD i ""]:=by rw[br,ai<|show i<!R6 from h];rfl
 calc⟨fM (by rw[ay,e];rfl),ag e⟩
def Of (m:Addr)(H E:Hp):Prop:=∀b o,b≠m->H b=#[o]->E b=#[o]
def Of.trans (f:Of m H E)(g:Of m E C):Of m H C:=λb o n e=>g b o n<|f b o n e
def Of.same (s:Same H E):Of m H E:=λb o _ e=>s b o e
def Ve:Of m H (upd H m o):=λb ob n e=>by rw[au n];calc e
def Vf {nm:Str}{v:Str×Str×Int×Int}{Q:Hp->Prop}(h:tW H m rows)(U:H t=#[.tup<|Dd v])(N:(!rows)<=8)(q:∀E,Of m H E->tW E m (iJ nm v rows)->Q E):∃a M,V.ref m=.ref a/\qW H a (.str nm) (.ref t) M/\Q M:=by let(B,A,D):=h;have:=!D;calc⟨m,_,rfl,qW.k (k:=nm) A<|bw ∅,q _ Ve ⟨_,ao,(Jj U D).mono λ_ _ z=>z.same<|qX A⟩⟩
inductive aeM (vs:¬V)(H:Hp)(Q:VK):Prop
 |mk {rows:¬Row} (e:vs=[.ref m,.int c,.int mo,.int la]) (h:tW H m rows) (S:S8 rows nums ls) (qr:rows=[]->∀H',Same H H'->Q (.str "rooms") H') (q:∀(d:bR) H',qg bf R6 N9 rows d->Of m H H'->tW H' m (oJ d rows)->Q (.str<|Str.join " " (d.word::d.args)) H')
theorem aeN (B:Bl E.mg)(h:GF E K 54):CO E K 54 1 aeM:=by
 refine BX ["_law_model","_law_cell","_law_more","_law_last","_law_names","_law_rooms","_law_name","_law_a","_law_b","_law_width","_law_length"] h (λvs H Q h=>by let(rfl,_):=h;rfl) λH nd vt hr nY=>?_;refine⟨_,(aq (vY (mF (i:=4) nd rfl lx (g:=cg 0) (te:=vR 0) (N':=["_law_name"]) (cap:=[none]) ["_law_model","_law_cell","_law_more","_law_last","_law_names","_law_rooms","_law_name","_law_a","_law_b","_law_width","_law_length"] (aP (top 54)) 'k' rfl rfl (LQ (U5 (pU 0))) (λ_ _ _ _ _=>qC (i:=0) 'k' 'k') (λ_ _ _ _ _=>lU) (λ_ _ _ _ _=>lF 'k' 0)))
  (aq (pS 5 (jX (aj aQ (aj aQ (aj aQ (aj aQ (aj aQ (aj aQ aG))))))))
  (aq (bI (PW.pt (acR (dG oLt hLt (sw (cJ oMod hMod (mw (dN (pU 1))) (sw bQ))) (sw bQ)) (Yn (dG oLt hLt (sw (wz (cI Kq gx B.len db (V7 (mw (dN (pU 4))) V6)) hLen)) (sw bQ))))) (aq (pS 6 (bK bJ aQ (aiC (sw (oR 'k')) (sw (cJ oMod hMod (sw (cJ oDiv hDiv (mw (dN (pU 1))) (sw bQ))) (sw bQ))))))
  (aq (pS 7 (bO jc (pU 5) (cJ oMod hMod (sw (cJ oDiv hDiv (mw (dN (pU 1))) (sw bQ))) (sw bQ))))
  (aq (pS 8 (bO jc (pU 5) (cJ oMod hMod (sw (cJ gK lY (sw (cJ gK lY (sw (cJ oDiv hDiv (mw (dN (pU 1))) (sw bQ))) (sw bQ))) (sw (cJ oMod hMod (sw (cJ oDiv hDiv (mw (dN (pU 1))) (sw bQ))) (sw bQ))))) (sw bQ))))
  (aq (pS 9 (cJ gK lY (sw bQ) (sw (cJ oMod hMod (mw (dN (pU 2))) (sw bQ)))))
  (aq (bI (dG (jY hr.units) hEq (sw (cJ oMod hMod (mw (dN (pU 3))) (sw bQ))) (sw bQ)) (aJ (pS 9 (cJ gK lY (sw bQ) (sw (cJ oMod hMod (mw (dN (pU 2))) (sw (cJ acN hPow (sw bQ) (sw bQ)))))))) aX)
  (aJ (bI (dG mD adh (mw (dN (pU 6))) (mw (dN (pU 4)))) (aq (m9 (dJ hr) (pU 0) (pU 6) (iY (aj (pU 7) (aj (pU 8) (aj (pU 9) (aj (cJ gK lY (sw bQ) (sw (cJ oMod hMod (sw (cJ oDiv hDiv (mw (dN (pU 3))) (sw bQ))) (sw bQ)))) aG))))) rfl)
  (aJ (aZ (oF cf dn dm rH aQ (aj (jX (aj aQ (aj (pU 6) (aj (pU 7) (aj (pU 8) (aj (bF cStr gx B.str boot_str (aj (pU 9) aG)) (aj (bF cStr gx B.str boot_str (aj (cJ gK lY (sw bQ) (sw (cJ oMod hMod (sw (cJ oDiv hDiv (mw (dN (pU 3))) (sw bQ))) (sw bQ)))) aG)) aG))))))) aG))))) aX))))))) aX)
  (aq (bI (eU (jY hr.units) (pU 4) (jX aG)) (aJ (aZ aQ)) aX)
  (aq (pS 6 (bO jc (pU 4) (cJ oMod hMod (sw (cJ oDiv hDiv (mw (dN (pU 1))) (sw bQ))) (sw (wz (cI Kq gx B.len db (V7 (mw (dN (pU 4))) V6)) hLen)))))
  (aq (Av (gP (dJ hr) (pU 0) (pU 6) (λ_ _=>rfl)) (m6 (bM (pG 7) (bM (pG 8) (bM (pG 9) (bM (pG 10) jZ))))))
  (aq (bI (dG (jY hr.units) hEq (sw (cJ oMod hMod (mw (dN (pU 1))) (sw bQ))) (sw bQ)) (aq (cG (zJ (pU 0) (pU 6) ⟨rfl,rfl,rfl,rfl⟩))
  (aJ (aZ (bK bJ aQ (pU 6))))) aX)
  (aq (bI (PW.pt (acR (dG (jY hr.units) hEq (sw (cJ oMod hMod (mw (dN (pU 2))) (sw bQ))) (sw bQ)) (Yn (dG M4 hGt (mw (dN (pU 9))) (sw bQ))))) (aq (m9 (dJ hr) (pU 0) (pU 6) (iY (aj (pU 7) (aj (pU 8) (aj (cJ qL hSub (sw (cJ qL hSub (mw (dN (pU 9))) (sw bQ))) (sw (cJ oMod hMod (sw (cJ oDiv hDiv (mw (dN (pU 2))) (sw bQ))) (sw (cJ qL hSub (mw (dN (pU 9))) (sw bQ)))))) (aj (pU 10) aG))))) rfl)
  (aJ (aZ (bK bJ (bK bJ (bK bJ aQ (pU 6)) aQ) (bF cStr gx B.str boot_str (aj (cJ gK lY (sw bQ) (sw (cJ oMod hMod (sw (cJ oDiv hDiv (mw (dN (pU 2))) (sw bQ))) (sw (cJ qL hSub (mw (dN (pU 9))) (sw bQ)))))) aG)))))) aX)
  (aq (m9 (dJ hr) (pU 0) (pU 6) (iY (aj (pU 7) (aj (pU 8) (aj (cJ gK lY (sw (cJ gK lY (mw (dN (pU 9))) (sw bQ))) (sw (cJ oMod hMod (sw (cJ oDiv hDiv (mw (dN (pU 2))) (sw bQ))) (sw bQ)))) (aj (pU 10) aG))))) rfl)
  (aJ (aZ (bK bJ (bK bJ (bK bJ aQ (pU 6)) aQ) (bF cStr gx B.str boot_str (aj (cJ gK lY (sw bQ) (sw (cJ oMod hMod (sw (cJ oDiv hDiv (mw (dN (pU 2))) (sw bQ))) (sw bQ)))) aG)))))))))))))),?_⟩
 let(rfl,h,S,qr,hq):=nY;have⟨l1,l2,l3,l4,l5⟩:=S.len;have hM:=h;let(dI,hk,hp):=h;have hpl:=!hp;have v8:=Xp hp;dsimp only[gA];have sz:sizeLine=16777216:=rfl;have nmk:∀z∈rows.map (·.1),Nm z:=λz hz=>by let(r,hr,e):=bg.mp hz;exact e▸S.N _ (S.ok.dr.sub r hr)
 refine bh λN hN=>(show tLo _ _ _ _ from Zy rfl hk ∅ λD0 H1 s1 hD0 hD1=>hN _ _ ?_);rw[v8] at hD1;refine bh λN hN=>fG (aM (cO (aM (cO (aM (cO (aM (cO (aM (cO (aM (cO (bY ⟨(by show 6<=16777216;decide),λR0 hR0=>hN _ _ ?_⟩)))))))))))));have s2:=s1.trans<|aH (o:=.lst [V.str "den",.str "yard",.str "dens",.str "ard",.str "a",.str "barn"]) hR0;have Xq:=aH (o:=.lst [V.str "den",.str "yard",.str "dens",.str "ard",.str "a",.str "barn"]) hR0 _ _ hD1;have hR2:upd H1 R0 (.lst [V.str "den",.str "yard",.str "dens",.str "ard",.str "a",.str "barn"]) R0=#[.lst<|R6.map V.str]:=ao;generalize upd H1 R0 (.lst [V.str "den",.str "yard",.str "dens",.str "ard",.str "a",.str "barn"])=H2 at s2 Xq hR2;have Xu:∀{H3},Same H2 H3->Has K H3 (.list<|(rows.map (·.1)).map .str) (.ref D0):=λs=>⟨D0,_,rfl,aU.of (s _ _ Xq),fu λz hz=>(nmk z hz).1.can⟩;f_len;have go:∀y6 y7 y8 y9 H3,Same H2 H3->N [#[.ref m],#[.int c],#[.int mo],#[.int la],#[.ref D0],#[.ref R0],y6,y7,y8,y9,none] H3:=λy6 y7 y8 y9 H3 s3=>hN _ _ ?_
 .by_cases a1:c % 5<3
  .by_cases a2:((rows.map (·.1)).length:Int)<7
   .refine Xa 11 [(1,.int c),(4,.list<|(rows.map (·.1)).map .str)] (.c rfl rfl<|.c rfl (Xu<|Same.refl _) .n) (by dsimp only[cu];z_go;erw[cY<|show(0:Int)<5 by decide];z_go;rw[a9 a1];z_go;rw[ac,a9 a2]) λH3 s3=>?_;obtain⟨j,hj⟩:=dv (hU (c/5) (show(9:Int)≠0 by decide));have hj9:j<9:=by lk
    let(e1,e2):=alG j hj9;generalize hpn:("p":Str)++⟨[97+j].toArray⟩=nm at e2;have nz:=S.N _ e2;have nzl:=nz.2.2;refine bh λN hN=>fG<|cC<|cO<|tvS 11 [(1,.int c)] (.c rfl rfl .n) (z:=⟨[97+j].toArray⟩) (by dsimp only[cu];z_go;erw[jz (show(0:Int)<5 by decide) ⋯];z_go;erw[cY<|show(0:Int)<9 by decide];z_go;rw[hj];calc K7 'k' e1) λH4 s4=>⟨_,_,rfl,rfl,?_,hN _ _ ?_⟩
    .have:(!("p":Str))=1:='k'
     have:(!(⟨[97+j].toArray⟩:Str))=1:=rfl
     lk
    rw[hpn];have s24:=s3.trans s4;obtain⟨i1,hi1⟩:=dv (hU (c/45) (show(6:Int)≠0 by decide));obtain⟨i2,hi2⟩:=dv (hU (c/45+1+c/270 % 5) (show(6:Int)≠0 by decide));have b1:i1<6:=by lk
    have b2:i2<6:=by lk
    have b12:i1≠i2:=by lk
    have ab:=alH i1 b1 i2 b2 b12;let(f1,f2):=af4 b1;let(g1,g2):=af4 b2;generalize R6.getD i1 ""=a at ab f1 f2;generalize R6.getD i2 ""=b at ab g1 g2;have az:=S.R _ f2;have bz:=S.R _ g2;refine bh λN hN=>fG (cC (ak rfl (qG 11 [(1,.int c)] (.c rfl rfl .n) (z0:=(i1:Int)) (by dsimp only[cu];z_go;erw[jz (show(0:Int)<45 by decide) ⋯];z_go;erw[cY<|show(0:Int)<6 by decide];rw[hi1]) λH5 s5=>⟨_,_,aU.of (s5 _ _<|s24 _ _ hR2),f1,hN _ _ ?_⟩)));have Vg:=s24.trans s5;refine bh λN hN=>fG (cC (ak rfl (qG 11 [(1,.int c)] (.c rfl rfl .n) (z0:=(i2:Int)) (by dsimp only[cu];z_go;erw[jz (show(0:Int)<45 by decide) ⋯];z_go;erw[jz (show(0:Int)<270 by decide) ⋯];z_go;erw[cY<|show(0:Int)<5 by decide];z_go;erw[cY<|show(0:Int)<6 by decide];rw[hi2]) λH6 s6=>⟨_,_,aU.of (s6 _ _<|Vg _ _ hR2),g1,hN _ _ ?_⟩)));have FJ:=Vg.trans s6;refine bh λN hN=>qG 11 [(2,.int mo)] (.c rfl rfl .n) (z0:=1+mo % 9) (by dsimp only[cu];z_go;erw[cY<|show(0:Int)<9 by decide];rfl) λH7 s7=>hN _ _ ?_;have Ka:=FJ.trans s7;have w9:1<=1+mo % 9/\1+mo % 9<=bf:=by have:bf=10^20:=rfl;lk
    have w20:1<=1+mo % 10^20/\1+mo % 10^20<=bf:=by have:bf=10^20:=rfl;lk
    f_len;have go2:∀w H8,1<=w->w<=bf->Same H2 H8->N [#[.ref m],#[.int c],#[.int mo],#[.int la],#[.ref D0],#[.ref R0],#[.str nm],#[.str a],#[.str b],#[.int w],none] H8:=λw H8 x1 x2 s8=>hN _ _ ?_
    .by_cases a3:la % 7=3
     .refine Xa 11 [(3,.int la)] (.c rfl rfl .n) (by dsimp only[cu];z_go;erw[cY<|show(0:Int)<7 by decide];z_go;rw[a9 a3]) λH8 s8=>qG 11 [(2,.int mo)] (.c rfl rfl .n) (z0:=1+mo % 10^20) (by dsimp only[cu];z_go;rw[RG ⋯ ⋯ ⋯<|by decide];z_go;rw[cY<|by decide];z_go) λH9 s9=>?_;exact go2 _ _ w20.1 w20.2<|Ka.trans<|s8.trans s9
     .refine Ao 11 [(3,.int la)] (.c rfl rfl .n) (by dsimp only[cu];z_go;erw[cY<|show(0:Int)<7 by decide];z_go;rw[aS a3]) λH8 s8=>?_;exact go2 _ _ w9.1 w9.2<|Ka.trans s8
    have ein:KY true (.str nm) (.list<|(rows.map (·.1)).map .str)=#[.bool<|not ((rows.map (·.1)).any λy=>y==nm)]:=agO nm _;cases a4:(rows.map (·.1)).any λy=>y==nm with
    |true=>
     refine Ao 11 [(6,.str nm),(4,.list<|(rows.map (·.1)).map .str)] (.c rfl ⟨rfl,nz.1.can⟩<|.c rfl (Xu s8) .n) (by dsimp only[cu];z_go;rw[ein,a4];rfl) λH9 s9=>?_;calc go _ _ _ _ _<|s8.trans s9
    |false=>
    have aky:Not (nm∈rows.map (·.1)):=λz=>by rw[kK] at a4;exact a4 nm z<|il nm
    refine Xa 11 [(6,.str nm),(4,.list<|(rows.map (·.1)).map .str)] (.c rfl ⟨rfl,nz.1.can⟩<|.c rfl (Xu s8) .n) (by dsimp only[cu];z_go;rw[ein,a4];rfl) λH9 s9=>?_;have s29:=s2.trans<|s8.trans s9;have l9:1<=1+la/7 % 9/\1+la/7 % 9<=bf:=by have:bf=10^20:=rfl;lk
    have el:(v2 fX (vC<|.int 1)<|v2 Bk (v2 uZ (vN 3)<|vC<|.int 7)<|vC<|.int 9) (cu 11 [(3,.int la)])=#[.int<|1+la/7 % 9]:=by dsimp only[cu];z_go;rw[jz ⋯<|by decide];z_go;rw[cY<|by decide];z_go
    generalize 1+la/7 % 9=l at l9 el;f_len;delta uG qI;refine aM (ak rfl (aM (ak rfl (aM (ak rfl (aM (qG 11 [(3,.int la)] (.c rfl rfl .n) el λHa sa=>bY ⟨(by show 4<=16777216;decide),λt ht=>ak rfl<|ak rfl ?_⟩)))))));have s3a:=s29.trans sa;have Oz:=aH (o:=.tup<|Dd (a,b,w,l)) ht;refine Vf (nm:=nm) (v:=(a,b,w,l)) (hM.grow<|s3a.trans Oz) ao ∅ λHb fb mb=>hN _ _<|ji ?_;rw[vG aky] at mb;have zw:iQ w:=sJ ∅ (d5 x2 'k');have zl:iQ l:=sJ ∅ (d5 l9.2 'k');delta pN Q5;refine cO ⟨rfl,aM<|aM<|cO<|aM<|ak rfl<|aM<|ak rfl<|aM<|ak rfl<|aM<|GX<|ak rfl ⟨_,rfl,zw.lg,aM<|GX<|qG 11 [(3,.int la)] (.c rfl rfl .n) el λHc sc=>⟨_,rfl,zl.lg,bY ⟨(by show 6<=16777216;decide),λz hz=>bY<|ZK (ws:=["lay",nm,a,b,↥w,↥l]) ao ?_ (by show 6<=10;decide) ?_⟩⟩⟩⟩
    .intro y hy
     have:(!("lay":Str))=3:='k'
     erw[bq,fI,gL] at hy;rcases hy with rfl|rfl|rfl|rfl|rfl|rfl
     .omega
     .omega
     .exact cb az.2.2<|by decide
     .exact cb bz.2.2<|by decide
     .exact zw.len
     .exact zl.len
    have scz:=sc.trans<|aH (o:=.lst [V.str "lay",.str nm,.str a,.str b,.str<|↥w,.str<|↥l]) hz;rw[ac] at a2;exact hq (.lay nm a b w l) _ ⟨e2,aky,f2,g2,ab,x1,l9.1,x2,l9.2,by lk⟩ ((Of.same<|s3a.trans Oz).trans<|fb.trans<|Of.same scz) (mb.grow scz)
   .refine Ao 11 [(1,.int c),(4,.list<|(rows.map (·.1)).map .str)] (.c rfl rfl<|.c rfl (Xu<|Same.refl _) .n) (by dsimp only[cu];z_go;erw[cY<|show(0:Int)<5 by decide];z_go;rw[a9 a1];z_go;rw[ac,aS a2]) λH3 s3=>?_;exact go _ _ _ _ _ s3
  .refine Ao 11 [(1,.int c)] (.c rfl rfl .n) (by dsimp only[cu];z_go;erw[cY<|show(0:Int)<5 by decide];z_go;rw[aS a1];z_go) λH3 s3=>?_;exact go _ _ _ _ _ s3
 have s23:=s2.trans s3;refine bh λN hN=>yL<|cC<|ak rfl ⟨cv _,λz2 Nh=>?_⟩;have Xv:=aH (o:=.lst []) Nh;refine⟨gH (rows.map λr:Row=>r.1),gH [],Xu<|s3.trans Xv,⟨z2,_,rfl,aU.of ao,rfl⟩,qe _,?_⟩;by_cases cr:rows=[]
 .subst cr;exact aej<|ji<|cO<|qr rfl _<|s23.trans Xv
 have e:eqv (gH (rows.map λr:Row=>r.1)) (gH [])=false:=by
  cases rows with
  |nil=>calc absurd rfl cr
  |cons r rs=>rfl
 rw[e];refine rG<|hN _ _ ?_;have Va:=s3.trans Xv;generalize upd H3 z2 (.lst [])=H4 at Va;clear Xv;have hl0:0<!rows:=kw.mpr cr;have aeO:(0:Int)<((rows.map (·.1)).length:Int):=by rw[ac];lk
 obtain⟨j,hj⟩:=dv<|hU (c/5)<|Int.ne_of_gt aeO;have hjl:j<!rows:=by have:=hV (c/5) aeO;rw[hj,ac] at this;lk
 obtain⟨⟨nm,a,b,w,l⟩,er⟩:∃r,rows[j]? =#[r]:=⟨_,ai hjl⟩;have rm:=ag er;have ev:=tG S.ok.dr.nn rm rfl;have nz:=S.N _<|S.ok.dr.sub _ rm;have nzl:=nz.2.2;have rmn:nm∈rows.map (·.1):=bg.mpr ⟨_,rm,rfl⟩;have w1:=S.ok.dr.wd _ rm;have⟨_,w2,_⟩:=S.rx _ rm;have wb:100*bf<10^60/\9<=bf:='k'
 dsimp only at ev nz nzl w1 w2;refine bh λN hN=>fG (cC (ak rfl (qG 11 [(1,.int c),(4,.list<|(rows.map (·.1)).map .str)] (.c rfl rfl<|.c rfl (Xu Va) .n) (z0:=(j:Int)) (by dsimp only[cu];z_go;rw[jz ⋯<|by decide];z_go;rw[ac,cY aeO,hj]) λH5 s5=>⟨_,_,aU.of (s5 _ _<|Va _ _ Xq),(show _=#[.str nm] from fM (by rw[ay,ay,er];rfl)),hN _ _ ?_⟩)));have Vg:=s2.trans<|Va.trans s5;let(t,kd,k1,k2,k3):=ZD (hM.grow Vg) ev;refine bh λN hN=>fG (ak rfl (ak rfl ⟨m,.ref t,rfl,by rw[<-k2];calc gO.k (k:=nm) k1,_,cF.of k3,rfl,hN _ _ ?_⟩));by_cases a5:c % 5=3
 .refine bh λN hN=>Xa 11 [(1,.int c)] (.c rfl rfl .n) (by dsimp only[cu];z_go;erw[cY<|show(0:Int)<5 by decide];z_go;rw[a9 a5]) λH6 s6=>?_;refine bh λN hN=>JR ?_;delta Jh;have k16:=s6 _ _ k1;refine ak rfl ⟨m,rfl,⟨_,.inl k16⟩,ak rfl ⟨kd,nm,.ref t,k16,rfl,k2,hN _ _<|ji<|cC<|cO<|ak rfl ⟨_,_,rfl,rfl,?_,?_⟩⟩⟩
  .have:(!("shut ":Str))=5:='k'
   lk
  rw[(pI (b:="")).1];let(kv6,q1,q2):=hM.grow<|Vg.trans s6;rw[k16] at q1;cases q1;exact hq (.shut nm) _ rmn ((Of.same<|Vg.trans s6).trans Ve) ⟨_,ao,(DX q2).mono λ_ _ z=>z.same<|qX k16⟩
 refine bh λN hN=>Ao 11 [(1,.int c)] (.c rfl rfl .n) (by dsimp only[cu];z_go;erw[cY<|show(0:Int)<5 by decide];z_go;rw[aS a5]) λH6 s6=>hN _ _ ?_;have FJ:=Vg.trans s6;f_len;have go:∀H7,Same H6 H7->N [#[.ref m],#[.int c],#[.int mo],#[.int la],#[.ref D0],#[.ref R0],#[.str nm],#[.str a],#[.str b],#[.int w],#[.int l]] H7:=λH7 s7=>hN _ _ ?_
 .by_cases a6:mo % 2=1
  .by_cases a7:w>1
   .refine Xa 11 [(2,.int mo),(9,.int w)] (.c rfl rfl<|.c rfl rfl .n) (by dsimp only[cu];z_go;erw[cY<|show(0:Int)<2 by decide];z_go;rw[a9 a6];z_go;rw[a9 a7]) λH7 s7=>?_;have Ka:=FJ.trans s7;have m0:=hU (mo/2) (show w - 1≠0 by lk);have m1:=hV (mo/2) (show 0<w - 1 by lk);have e1:(v2 jd (v2 jd (vN 9)<|vC<|.int 1)<|v2 Bk (v2 uZ (vN 2)<|vC<|.int 2)<|v2 jd (vN 9)<|vC<|.int 1) (cu 11 [(2,.int mo),(9,.int w)])=#[.int<|w - 1 - mo/2 % (w - 1)]:=by dsimp only[cu];z_go;rw[jz ⋯<|by decide];z_go;rw[cY ∅];z_go
    have e2:(v2 fX (vC<|.int 1)<|v2 Bk (v2 uZ (vN 2)<|vC<|.int 2)<|v2 jd (vN 9)<|vC<|.int 1) (cu 11 [(2,.int mo),(9,.int w)])=#[.int<|1+mo/2 % (w - 1)]:=by dsimp only[cu];z_go;rw[jz ⋯<|by decide];z_go;rw[cY ∅];z_go
    generalize mo/2 % (w - 1)=k at m0 m1 e1 e2;f_len;delta uG qI;refine aM (ak rfl (aM (ak rfl (aM (qG 11 [(2,.int mo),(9,.int w)] (.c rfl rfl<|.c rfl rfl .n) e1 λHa sa=>aM (ak rfl (bY ⟨(by show 4<=16777216;decide),λt ht=>ak rfl<|ak rfl ?_⟩)))))));have Oz:=Ka.trans<|sa.trans<|aH (o:=.tup<|Dd (a,b,w - 1 - k,l)) ht;refine Vf (nm:=nm) (v:=(a,b,w - 1 - k,l)) (hM.grow Oz) ao ∅ λHb fb mb=>hN _ _<|ji ?_;rw[show w - 1 - k=w+ -(1+k) by lk] at mb;have mb':tW Hb m (rows.map<|eY nm<|-(1+k)):=by rw[<-Xr S.ok.dr.nn ev];exact mb
    have zk:iQ (1+k):=sJ ∅ (fe (show 1+k<10^60 by lk) 'k');have zkl:=zk.len;have ll7:(!("narrow ":Str))=7:='k'
    refine cC<|cC<|cC<|cO<|ak rfl ⟨_,_,rfl,rfl,?_,cO ⟨_,_,rfl,rfl,?_,GX<|qG 11 [(2,.int mo),(9,.int w)] (.c rfl rfl<|.c rfl rfl .n) e2 λHc sc=>⟨_,rfl,zk.lg,_,_,rfl,rfl,?_,?_⟩⟩⟩
    .omega
    .rw[bt,jH];lk
    .rw[bt,bt,jH];lk
    rw[pI.2.2];exact hq (.narrow nm<|1+k) _ ⟨_,rm,rfl,by lk,by show 1+k<w;lk⟩ ((Of.same Oz).trans<|fb.trans<|Of.same sc) (mb'.grow sc)
   .refine Ao 11 [(2,.int mo),(9,.int w)] (.c rfl rfl<|.c rfl rfl .n) (by dsimp only[cu];z_go;erw[cY<|show(0:Int)<2 by decide];z_go;rw[a9 a6];z_go;rw[aS a7]) λH7 s7=>go _ s7
  .refine Ao 11 [(2,.int mo)] (.c rfl rfl .n) (by dsimp only[cu];z_go;erw[cY<|show(0:Int)<2 by decide];z_go;rw[aS a6];z_go) λH7 s7=>go _ s7
 have Ka:=FJ.trans s7;have m0:=hU (mo/2) (show(9:Int)≠0 by decide);have m1:=hV (mo/2) (show(0:Int)<9 by decide);have e1:(v2 fX (v2 fX (vN 9)<|vC<|.int 1)<|v2 Bk (v2 uZ (vN 2)<|vC<|.int 2)<|vC<|.int 9) (cu 11 [(2,.int mo),(9,.int w)])=#[.int<|w+1+mo/2 % 9]:=by dsimp only[cu];z_go;rw[jz ⋯<|by decide];z_go;rw[cY ∅];z_go
 have e2:(v2 fX (vC<|.int 1)<|v2 Bk (v2 uZ (vN 2)<|vC<|.int 2)<|vC<|.int 9) (cu 11 [(2,.int mo)])=#[.int<|1+mo/2 % 9]:=by dsimp only[cu];z_go;rw[jz ⋯<|by decide];z_go;rw[cY ∅];z_go
 generalize mo/2 % 9=k at m0 m1 e1 e2;f_len;delta uG qI;refine aM (ak rfl (aM (ak rfl (aM (qG 11 [(2,.int mo),(9,.int w)] (.c rfl rfl<|.c rfl rfl .n) e1 λHa sa=>aM (ak rfl (bY ⟨(by show 4<=16777216;decide),λt ht=>ak rfl<|ak rfl ?_⟩)))))));have Oz:=Ka.trans<|sa.trans<|aH (o:=.tup<|Dd (a,b,w+1+k,l)) ht;refine Vf (nm:=nm) (v:=(a,b,w+1+k,l)) (hM.grow Oz) ao ∅ λHb fb mb=>hN _ _<|ji ?_;rw[show w+1+k=w+(1+k) by lk] at mb;have mb':tW Hb m (rows.map<|eY nm<|1+k):=by rw[<-Xr S.ok.dr.nn ev];exact mb
 have zk:iQ (1+k):=sJ ∅ (fe (show 1+k<10^60 by lk) 'k');have zkl:=zk.len;have ll7:(!("widen ":Str))=6:='k'
 refine cC<|cC<|cC<|cO<|ak rfl ⟨_,_,rfl,rfl,?_,cO ⟨_,_,rfl,rfl,?_,GX<|qG 11 [(2,.int mo)] (.c rfl rfl .n) e2 λHc sc=>⟨_,rfl,zk.lg,_,_,rfl,rfl,?_,?_⟩⟩⟩
 .omega
 .rw[bt,jH];lk
 .rw[bt,bt,jH];lk
 rw[pI.2.1];calc hq (.widen nm<|1+k) _ ⟨rmn,by lk,by lk⟩ ((Of.same Oz).trans<|fb.trans<|Of.same sc) (mb'.grow sc)
end
end bV
namespace L2
open PyProof.Rows
def It3 (n:Nat):It:=(λi _=>i<n,λi H x E=>E=H/\x=.int (i*3),λi _=>n<=i)
section
variable {A:Expr}
def Cr {K:Frag}(B:Addr)(n:Nat):Turn P w K A (It3 n) [B] B (λi h=>IsRangeIter h B (0+(i:Nat)*3) ((n:Int) - (i:Nat)) 3) where
 mem:=by simp
 obj:=λi h st b D=>by
  have e:b=B:=‹D›
  subst e;exact⟨_,st,λv z=>by
   have u:Data.fields _=Data.cell v:=z;cases u⟩
 keep:=λi h g st k=>k B 's' _ st
 item:=by intro X T Y Q i C s l H I G st U;subst T Y Q;let(J,L,y,M,N,O):=G B 's';have W:=Walks.range (prog:=X.prog) (w:=X.w) I.ok.hd B 0 3 n;refine W.item i s _ _ U st λv g j q E r=>?_;let(t,rfl):=q;have m:Inv X C l H {s with heap:=g,toks:=j}:=I.turned (λb o D e=>r b o ‹D› e) J L M N O;refine⟨_,rfl,yS (s:={s with heap:=g,toks:=j}) (n:="range_iterator") E rfl rfl ⋯ ⟨.int<|i*3,H,m,⟨t,?_⟩,⟨rfl,rfl⟩,E,λb D=>(G b D).1⟩⟩;rw[iA]
 done:=by intro X T Y Q i C s l H I G st U;subst T Y Q;let(J,L,y,M,N,O):=G B 's';exact py I.ok.hd st (by have:n<=i:=U;lk) λg p=>⟨rfl,I.turned (t':=s.toks) (λb o D e=>p b o D e) J L M N O⟩
 self:=λ_ _ _ _ _ st h=>pz st h
def ZM {j:Int}(L: -5<=j)(h1:j<=100):Builtin.Range.rangeSize 0 j 3=(((j+2)/3).toNat:Int)/\Builtin.Range.small 0 j 3=true:=by
 have e:Builtin.Range.rangeSize 0 j 3=(((j+2)/3).toNat:Int):=by unfold Builtin.Range.rangeSize;erw[show(3:Int)>0 by decide,dE];split<;>lk
 refine⟨e,?_⟩;unfold Builtin.Range.small;rw[e];erw[Builtin.Range.rangeFitsLong,bj,gX,ca,lS,show(3:Int)>0 by decide,dE];lk
def af6 (B:TA):TI:=λC H R=>B C H λJ E=>∃j:Int,J=[.int 0,.int j,.int 3]∧-5<=j/\j<=100/\R (It3 ((j+2)/3).toNat) E
def ab7 {p C:Pos}(hg:Gl X "range")(g:X.mg "range"=none)(Y:PA X [a,b,c] f)(l:(starEach [a,b,c] X.env=(false,eval a X.env)::starEach [b,c] X.env)∣0)(J:((backTo C<|starEach [b,c] X.env).any (·.1)=false)∣0):PI X A (.Call (.Name "range" p) [a,b,c] [] C) (af6 f):=by
 intro B s Q H R I h;refine Call_<|pK I hg g boot_range<|cy (aY (Y C B s Q H _ I h) ?_) l J;rintro n O ⟨i,M,T,y,L⟩;let(j,e,L,m,q):=L;subst e;obtain⟨t,u,v,rfl⟩:∃t u v,n=[.int 0 t,.int j u,.int 3 v]:=by
  cases y with
  |cons r N=>
   cases N with
   |cons z N=>
    cases N with
    |cons d N=>cases N;let(t,E):=r;let(u,G):=z;let(v,U):=d;exact⟨t,u,v,by rw[E,G,U]⟩
 refine call_range_3 ⋯ ?_ (.inl (PyProof.noPylong_small ∅));let(w,x):=ZM L m;refine wpAny_pyIter_range (IsRange.new ..) x ?_;have D:Inv X B Q M {O with heap:=O.heap.push {cls:=.type "range",data:=.fields #[.int 0 t,.int j u,.int 3 v]},toks:=O.toks}:=T.kept λb o e=>ar _ e;refine((O.heap.push {cls:=.type "range",data:=.fields #[.int 0 t,.int j u,.int 3 v]}).objs.size,[(O.heap.push {cls:=.type "range",data:=.fields #[.int 0 t,.int j u,.int 3 v]}).objs.size],_,_,M,rfl,
  D.kept (t':=O.toks) λb o e=>ar _ e,Cr _ _,?_,λb k=>?_,q)
 .show IsRangeIter _ _ (0+((0:Nat):Int)*3) ((((j+2)/3).toNat:Int) - ((0:Nat):Int)) 3;have E:(0:Int)+((0:Nat):Int)*3=0:=by simp
  have G:((((j+2)/3).toNat:Nat):Int) - ((0:Nat):Int)=Builtin.Range.rangeSize 0 j 3:=by rw[w];simp
  rw[E,G];exact bc _ rfl
 .have e:b=(O.heap.push {cls:=.type "range",data:=.fields #[.int 0 t,.int j u,.int 3 v]}).objs.size:=‹k›
  subst e;calc D.uU (av _)<|D.hok.fresh<|av _
end
open PySem.W PySem.Calls
def alI:cU X (.type "int") (λxs H Q=>∃k:Bool,xs=[.bl k]/\Q (.int<|if k then 1 else 0) H):=by intro A s B H xs C Q I r h;let(k,rfl,q):=h;obtain⟨u,rfl,L⟩:=vals1 r;cases L;calc call_int_bool ⟨.int<|if k then 1 else 0,H,I.tok _,⟨_,rfl⟩,q⟩
def akA (M:Mk X.K C f)(F:jK X.prog X.w X.K X.mg X.base k f A ps D)(hr:cW (k+1) X.A)(g:Gl X x)(e:X.mg x=#[.ref C])(b:Binds A ps)(n:((x==("__debug__":Str))=false)∣1):PE X (.Call (.Name x p) [] [] B) (Pa C D d9):=λ_ _ _ _ _ I h=>fq<|Dh I g e (ox I.o9 M.kp<|Q7 M F hr b I .nil h) n
end L2
namespace bV
open PyProof.Rows L2 VM StrLaws
section
variable {K:Frag}
def ahn (q:∀x I E,H x=none->Same H E->ig E A x I .non->Q (.ref x) E):Pa A (Lx A) d9 G H Q:=λx B C T D=>.mk rfl ao ⟨rfl,q x B _ C (λb o e=>by
 have r:b≠x:=λz=>by rw[z,C] at e;k_go
 have Y:b≠B:=λz=>by rw[z,T] at e;k_go
 rw[au r,au r,au Y];calc e) ao⟩
def aeP (h1:Nm a)(h2:Nm b)(r:a≠b)(N:ig H M x O k)(q:∀p J G D E,aW E C p J G D [(a,0),(b,1)] []->ig E M x O (.ref p)->Of x H E->H G=none->H D=none->Q (.str "ok") E):dZ K M C [.ref x,.str<|"hall"++" "++(a++" "++b)] H Q:=aeu h1.nA h2.nA h1.ok h2.ok r N λp J G D E U s Y j=>by
 have A:=s _ _ N;let(B,I,(L,c,d),n):=U;refine q p J G D _ ⟨?_,?_,⟨L,?_,d.mono λ_ _ z=>z.same λt g e=>?_⟩,n⟩ ao (λc o T e=>by rw[au T];calc s _ _ e) Y j
 .rw[au λz=>by rw[z,A] at B;cases B];exact B
 .rw[au λz=>by rw[z,A] at I;cases I];exact I
 .rw[au λz=>by rw[z,A] at c;cases c];exact c
 .rw[au λz=>by rw[z,A] at e;cases e];calc e
def Kp (r:Addr)(H E:Hp):Prop:=∀b o,b≠r->(∀k,o≠ .dK k)->H b=#[o]->E b=#[o]
def Kp.trans (f:Kp r H E)(g:Kp r E C):Kp r H C:=λb o n d e=>g b o n d<|f b o n d e
def Kp.same (s:Same H E):Kp r H E:=λb o _ _ e=>s b o e
def Kp.own (f:Of r H E):Kp r H E:=λb o n _ e=>f b o n e
def Kp.dic (h:H m=#[.dK B])(f:Of m H E):Kp r H E:=λb o _ d e=>f b o (λz=>by rw[z,h] at e;cases e;calc d _ rfl) e
def Kp.stay (A:aW H C p B G D nums x)(s:fL G D H E):Kp r H E:=λb o _ d e=>by let⟨L,N,_⟩:=A.laid;calc s b _ (λz=>by rw[z,A.num] at e;cases e;calc d _ rfl) (λz=>by rw[z,N] at e;cases e;calc d _ rfl) e
def SL.kp (h:SL K [r] H t xs)(k:Kp r H E):SL K [r] E t xs:=by
 rcases h with⟨o,e,d,m,f⟩|h
 .exact .inl ⟨o,k _ _ (λz=>m (by rw[z];calc aI.mpr rfl)) d e,d,m,f⟩
 .calc .inr h
def alJ {t u:TS}(n L)(h:qF K H B L)(e:f (cu n L)=#[true])(q:∀E,Same H E->d8 c t u D B E)(C:((!B)=n)∣0):d8 (QT (gQ K f) c) t u D B H:=VM.Ci (h.at C) e q
def alK {t u:TS}(n L)(h:qF K H B L)(e:f (cu n L)=#[false])(q:∀E,Same H E->u D B E)(C:((!B)=n)∣0):d8 (QT (gQ K f) c) t u D B H:=VM.Ci (h.at C) e q
def alL {E:¬Row}(h:mz C B H x I p J G D m rows nums Q)(T:m≠G)(U:m≠D)(f:Of m H A)(Y:tW A m E):mz C B A x I p J G D m E nums Q:=by
 let(O,M,_):=h.md;let(a,b,(L,c,d),n):=h.h;have N:∀{b o},H b=#[o]->(∀k,o≠ .dK k)->b≠m:=λe d z=>by rw[z,M] at e;k_go;exact d _ rfl
 calc⟨f _ _ (N h.d λ_ z=>by cases z) h.d,⟨f _ _ (N a λ_ z=>by cases z) a,f _ _ T.symm b,⟨L,f _ _ U.symm c,d.mono λ_ _ z=>z.same λt j e=>f _ _ (N e λ_ z=>by cases z) e⟩,n⟩,Y⟩
def af7 (h:mz C A H x I p D Q J m rows nums O)(hr:H T=#[.lst xs])(f:Of T H E):mz C A E x I p D Q J m rows nums O:=by let(B,M,G):=h.md;let(a,b,(L,c,d),n):=h.h;have N:∀{b o},H b=#[o]->(∀k,o≠ .lst k)->E b=#[o]:=λe d=>f _ _ (λz=>by rw[z,hr] at e;cases e;calc d _ rfl) e;calc⟨N h.d λ_ z=>(by cases z),⟨N a λ_ z=>(by cases z),N b λ_ z=>(by cases z),⟨L,N c λ_ z=>(by cases z),d.mono λ_ _ z=>z.same λt xs e=>N e λ_ z=>(by cases z)⟩,n⟩,B,N M λ_ z=>(by cases z),G.mono λ_ _ z=>z.same λt xs e=>N e λ_ z=>(by cases z)⟩
def aho {a b:Str}{r:¬Str}:Str.join " " (a::b::r)≠"rooms":=λe=>by
 have:32∈⇑("rooms":Str):=by rw[<-e,uL,J1];simp
 calc absurd this<|'k'
def ahp (d:bR):Str.join " " (d.word::d.args)≠"rooms":=by cases d<;>calc aho
def akB {d:bR}(h:qg bf R6 N9 rows d):qg (100*bf) R6 N9 rows d:=by
 have w:bf<=100*bf:='k'
 cases d with
 |lay nm a b w l=>let⟨B,C,Y,j,D,E,G,H,I,A⟩:=h;calc⟨B,C,Y,j,D,E,G,by lk,by lk,A⟩
 |shut nm=>calc h
 |widen nm k=>let⟨B,C,Y⟩:=h;calc⟨B,C,by lk⟩
 |narrow nm k=>calc h
def yD:bR->¬Str
 |.lay _ a b _ _=>[a,b]
 |_=>[]
def ahq (d:bR)(seen:¬Str):DY d seen=j7 seen (yD d):=by cases d<;>rfl
def akC (d:bR):(replicate (if decide (d.word="lay")=true then(1:Int) else 0).toNat (iZ ((d.word::d.args).map V.str) #[2]<|#[4])).flatten=(yD d).map V.str:=by
 cases d with
 |lay nm a b w l=>with_unfolding_all rfl
 |shut nm=>rw[aS (show Not ((bR.shut nm).word="lay") by show Not (("shut":Str)="lay");decide +kernel)];rfl
 |widen nm k=>rw[aS (show Not ((bR.widen nm k).word="lay") by show Not (("widen":Str)="lay");decide +kernel)];rfl
 |narrow nm k=>rw[aS (show Not ((bR.narrow nm k).word="lay") by show Not (("narrow":Str)="lay");decide +kernel)];rfl
def ahr {D:Ends}{B ys:¬Str}(h1:H m=#[.lst<|ys.map V.str])(h2:H T=#[.lst<|B.map V.str])(C:m≠T)(k:(!B)<=10)(g:(!ys)<=10)
  (q:∀t E,Of T H E->E T=#[.lst<|(j7 B ys).map V.str]->D.nx [J,L,j,#[.ref T],M,N,O,t,Q,U] E):
  ux (G6 K m) (cg 7) (d8 (mG<|jm (rIn K true) (vR 7)<|vR 3) (iw<|pN K "list" wu (vR 3)<|cL (vR 7) d9) m5) D [J,L,j,#[.ref T],M,N,O,Y,Q,U] H:=by
 refine forA (ws:=ys) V.str (λ_ (y:↑V)=>[J,L,j,#[.ref T],M,N,O,y,Q,U]) (λi E=>Of T H E/\E T=#[.lst<|(j7 B<|ys.take i).map V.str]/\E m=#[.lst<|ys.map V.str]) Y rfl ⟨λ_ _ _ e=>e,h2,h1⟩ (λi E h=>aU.of h.2.2) ?_ ?_
 .rintro i r y E hr ⟨f,A,I⟩;have st:=aaZ (seen:=B) hr;have G:(!(j7 B<|ys.take i))<1000:=by
   have:=adA (ys.take i) B
   have:(!(ys.take i))<=!ys:=jv ..
   lk
  refine yL<|cC<|ak rfl<|ak rfl ⟨T,_,rfl,.inl<|aU.of A,rfl,w6 _,?_⟩;rw[zL];by_cases c:((j7 B<|ys.take i).any λy=>y==r)=true
  .rw[c];rw[ap c] at st;exact rG ⟨⟨_,rfl⟩,f,by rw[st];calc A,I⟩
  .rw[ge.mpr c];rw[aw c] at st;refine aej<|JR ?_;delta pN;refine ak rfl ⟨.inl ⟨rfl,_,aU.of A⟩,ak rfl ⟨_,A,bw (by rw[ac];lk),⟨_,rfl⟩,f.trans Ve,?_,?_⟩⟩
   .rw[ao,st,b7];rfl
   .rw[au C];exact I
 .rintro y E ⟨f,A,_⟩;rw[bn<|av _] at A;calc q y E f A
def akD (K:Frag){ws:¬Str}(r:ws≠[])(C:∀w∈ws,fQ w)(N:(!ws)<=10)(q:∀a E,Same H E->H a=none->E a=#[.lst<|ws.map V.str]->Q (.ref a) E):JV (.str<|Str.join " " ws) [.str " "] H Q:=
 ajR K (uT J1 Ly r (λw h=>(C w h).fr) (λw h=>(C w h).ok) (by
  have:=join_le (s:=" ") λw A=>(C w A).ln;rw[jH] at this;lk) ∅) wW q
def ab8 {D:Ends}{w0:Str}{as ys G:¬Str}(I:H a=#[.lst<|(w0::as).map V.str])(L:∀w∈w0::as,fQ w)(x:(!as)<=9)(n:(replicate (if decide (w0="lay")=true then(1:Int) else 0).toNat (iZ ((w0::as).map V.str) #[2]<|#[4])).flatten=ys.map V.str)(e:(!ys)<=2)(hr:H T=#[.lst<|G.map V.str])(Y:(!G)<=10)
  (q:∀t E,Of T H E->E T=#[.lst<|(j7 G ys).map V.str]->D.nx [i,p,r,#[.ref T],u,v,#[.ref a],t,y,c] E):
  FP (uw K<|jm ahX (VN (acG K) (vR 6) (yU<|tC<|.int 2)<|yU<|tC<|.int 4)<|um (λxs H Q=>∃k:Bool,xs=[.bl k]/\Q (.int<|if k then 1 else 0) H) (cL (tV K RS<|v2 kE (v2 bB (vN 6)<|vC<|.int 0)<|vC<|.str "lay") d9)) (cg 7) (d8 (mG<|jm (rIn K true) (vR 7)<|vR 3) (iw<|pN K "list" wu (vR 3)<|cL (vR 7) d9) m5) D [i,p,r,#[.ref T],u,v,#[.ref a],u7,y,c] H:=by
 refine Uj<|cC ?_;delta VN yU;refine ak rfl<|cO ⟨_,rfl,cO ⟨_,rfl,a,_,rfl,aU.of I,λM N=>?_⟩⟩;have O:=aH (o:=.lst<|iZ ((w0::as).map V.str) #[2]<|#[4]) N;have A:upd H M (.lst<|iZ ((w0::as).map V.str) #[2]<|#[4]) M=#[.lst<|iZ ((w0::as).map V.str) #[2]<|#[4]]:=ao;generalize upd H M (.lst<|iZ ((w0::as).map V.str) #[2]<|#[4])=d at O A;refine cbO<|aM<|tvB 10 [(6,.list<|(w0::as).map .str)] (.c rfl ⟨a,_,rfl,aU.of (O _ _ I),fu λz U=>(L z U).ok⟩ .n) (b:=decide<|w0="lay") (by dsimp only[cu];z_go;rw[wU]) λs C=>bY ⟨_,rfl,M,_,_,rfl,rfl,C _ _ A,?_,?_,?_,λm J=>⟨m,rfl,⟨_,aU.of ao⟩,?_⟩⟩
 .split<;>decide
 .split<;>decide
 .have B:(!(iZ ((w0::as).map V.str) #[2]<|#[4]))<=10:=by delta iZ;rw[fm,ir,ac,a8];lk
  have:(if decide (w0="lay")=true then(1:Int) else 0).toNat<=1:=by split<;>decide
  have g:sizeLine=16777216:=rfl;exact cb (Nat.mul_le_mul B this) (by rw[g];decide)
 rw[n];have j:=aH (o:=.lst<|ys.map V.str) J;have l:=O.trans<|C.trans j;calc ahr ao (l _ _ hr) (λz=>by rw[z,C _ _<|O _ _ hr] at J;cases J) Y ∅ λt E f h=>q t E ((Of.same l).trans f) h
def aeQ (ns:¬Int)(lo hi:↑Int):∃cs:¬Int,iZ (ns.map V.int) lo hi=cs.map V.int:=by refine⟨(ns.drop<|HT.cj (!ns) 0 lo).take<|HT.cj (!ns) (!ns) hi - HT.cj (!ns) 0 lo,?_⟩;delta iZ;rw[ac,←List.map_drop,←map_take]
def ahs (B:Bl E.mg)(cD:Cls K s)(MD:Mk K s fi)(Fi:jK E.P E.w K E.mg E.base 1 fi fdi ["self"] (Lx s))(bi:Binds fdi ["self"])(hC:E.mg "Desk"=#[.ref s])(tX:MO E K s (yN 1) 9 (dZ K s C))(Cce:CV E K 52 1 j6)(Cln:CO E K 54 1 aeM)(Cp:CO E K 55 10 (ZJ C s))(Ct:CO E K 58 11 (ZG K C s))(Cw:CO E K 61 12 (afV C s))(F:xU K "law" "law" (top 62) f fd):jK E.P E.w K E.mg E.base 13 f fd ["_law_script"] (YD K):=by
 have S:iz ["_law_script","_law_desk","_law_model","_law_rooms","_law_k","_law_line_here","_law_words","_law_name","_law_asked","_law_turns_here"] ["_law_script"] (aP (top 62)):=fs;have nd:=S.nd;have vt:=S.vt;refine F.ok S (λvs H Q h=>by let(_,_,rfl,_):=h;rfl) λ_ _ _ _ H _ _ hr nY=>?_;refine⟨_,(aq (pS 1 (akA MD Fi (hr.mono ⋯) gx hC bi))
  (aq (pS 2 zH)
  (aq (pS 3 (jX (aj aQ (aj aQ aG))))
  (aq (bI (eU (fY hr.units) (pM tX (pU 1) (aj aQ aG)) aQ) (aJ (aZ kI)) aX)
  (aq (jx (ab7 gx B.range (aj aN (aj (cI Ml gx B.min PyProof.Rows.boot_min (aj aN (aj (bK qL (cI Kq gx B.len db (aj (pU 0) aG)) aN) aG))) (aj aN aG)))) (pG 4) (aq (pS 5 (pC Cln (aj (pU 2) (aj (bO jc (pU 0) (pU 4)) (aj (bO jc (pU 0) (bK gK (pU 4) aN)) (aj (bO jc (pU 0) (bK gK (pU 4) aN)) aG))))))
  (aq (pS 6 (oF cf df de mO (pU 5) (aj aQ aG)))
  (aq (bI (PW.pt (QV (dG (fY hr.units) hNe (mw (dN (pU 5))) (sw (oR 'k'))) (Ke (eU (fY hr.units) (pM tX (pU 1) (aj (pU 5) aG)) aQ)))) (aJ (aZ kI)) aX)
  (aJ (jx (jW (bK aak (qJ Dj (pU 6) (uN aN) (uN aN)) (bF alI gx B.int boot_int (aj (qP (jY hr.units) hEq (sw (dIx (dN (pU 6)) (sw bQ))) (sw (oR 'k'))) aG)))) (pG 7) (aJ (bI (eU mD (pU 7) (pU 3)) (aJ (cG (Dm (pU 3) (aj (pU 7) aG)))) aX))))))))
  (aq (bI (PW.pt (gG (nP (Ew (pC Cp (aj (pU 1) (aj (pU 2) aG))))) (iV (eU (fY hr.units) (pM tX (pU 1) (aj aQ aG)) (oF cf dn dm rH aQ (aj (pU 3) aG)))))) (aJ (aZ kI)) aX)
  (aq (pS 8 (bK ahW (Dl (g:=cg 0) (te:=tV K RS (v2 Bk (cV j6 (aC (vF 1) (aC (v2 fX (vC (.int 30)) (vN 0)) a0))) (vC (.int 16)))) (N':=["_law_k","_law_script"]) (cap:=[none,#[0]]) ["_law_script","_law_desk","_law_model","_law_rooms","_law_k","_law_line_here","_law_words","_law_name","_law_asked","_law_turns_here"] (aP (top 62)) 'k' rfl rfl (v9 gx B.range (aj aN aG)) (λ_ _ _ _ _=>qC (i:=0) 'k' 'k') (λ_ _ _ _ _=>lU) (λ_ _ _ _ _=>cJ oMod hMod (sw (Bp (pC Cce (xW (dF (lF 'k' 1)) (xW (cJ gK lY (sw bQ) (mw (dN (lF 'k' 0)))) Ey)) (hr:=hr) (hk:=by decide) (hg:=glC (by kernel_rfl))))) (sw bQ))) (jX (aj (bK oMod (cI ah7 gx B.sum PyProof.Rows.boot_sum (aj (qJ Dj (pU 0) (uN aN) (uN aN)) aG)) (bK acN aN aN)) aG))))
  (aq (jx (jW (pU 8)) (pG 9) (aJ (bI (nP (Ew (pC Ct (aj (pU 1) (aj (pU 2) (aj (pU 3) (aj (pU 9) aG))))))) (aJ (aZ kI)) aX)))
  (aJ (aZ (pC Cw (aj (pU 1) (aj (pU 2) (aj (pU 3) (aj (bO jc (pU 8) aN) (aj (cJ gK lY (sw bQ) (sw (cJ oMod hMod (sw (Bp (pC Cce (xW (dF (pU 0)) (xW bQ Ey))))) (sw bQ)))) aG)))))))))))))))),?_⟩
 let(sc,ns,rfl,hsc,hns,hq):=nY;dsimp only[gA];have nd6:Nm "den"/\Nm "yard"/\("den":Str)≠"yard":=⟨J6<|'k',J6<|'k',by decide +kernel⟩;refine bh λN I=>fG<|ahn λx dk H1 hxn t1 hd=>I _ _ ?_;refine bh λN I=>fG λm hm=>I _ _ ?_;have t2:=aH (o:=.dK []) hm;have hm2:upd H1 m (.dK []) m=#[.dK []]:=ao;generalize upd H1 m (.dK [])=H2 at t2 hm2;refine bh λN I=>fG (aM (cO (aM (cO (bY ⟨(by show 2<=16777216;decide),λO G=>I _ _ ?_⟩)))));have u:=aH (o:=.lst [V.str "den",.str "yard"]) G;have Sq:upd H2 O (.lst [V.str "den",.str "yard"]) O=#[.lst<|(["den","yard"]:¬Str).map V.str]:=ao;generalize upd H2 O (.lst [V.str "den",.str "yard"])=H3 at u Sq;have U8:=u _ _<|t2 _ _ hd;have t:=u _ _ hm2;have V1:SL K [O,x] H3 sc (ns.map V.int):=(((((SL.mk0 hsc).new hxn).grow<|t1.trans t2).new G).grow u);refine bh λN I=>yL<|cC<|aez rfl U8 ?_;rw[show("hall den yard":Str)="hall"++" "++("den"++" "++"yard") by decide +kernel];refine aeP nd6.1 nd6.2.1 nd6.2.2 U8 λp dx nn ll H4 hh hd4 f4 i1 i2=>cO<|Ep<|rG<|I _ _ ?_;have m1:m≠nn:=λz=>by rw[<-z,t] at i1;cases i1
 have m2:m≠ll:=λz=>by rw[<-z,t] at i2;cases i2
 have hmx:m≠x:=λz=>by rw[z,U8] at t;cases t
 have hrx:O≠x:=λz=>by rw[z,U8] at Sq;cases Sq
 have V2:mz C s H4 x dk p dx nn ll m [] [("den",0),("yard",1)] []:=⟨hd4,hh,[],f4 _ _ hmx t,.nil⟩;have S4:S8 [] [("den",0),("yard",1)] []:=⟨ajD ⋯ ⋯ 'k' 'k' 'k' nd6.2.2,λz hz=>J6 (by revert z;decide +kernel),λz hz=>J6 (by revert z;decide +kernel),⟨[],rfl⟩,λ_ h=>(by cases h)⟩;have hr4:H4 O=#[.lst<|(seenOf [("den",0),("yard",1)]).map V.str]:=f4 _ _ hrx Sq;have hs4:SL K [O] H4 sc (ns.map V.int):=V1.frame (λb o hb e=>f4 b o (λz=>hb (by rw[z];simp)) e) λy hy=>.inl (by rw[aI.mp hy];simp);clear V1 Sq t U8 i1 i2 f4 hd4 hh t1 t2 u hd hm2 hxn hm G hsc;have hln:((!(ns.map V.int)):Int)=!ns:=by rw[ac]
 refine bh λN I=>?_;rw[qM];delta af6;refine aM<|cO<|aM<|cbO<|aM<|cO<|aM<|cC<|cbO<|aM<|ak rfl<|bY<|.mk _ (.inl hs4.sq)<|cO<|Fy<|bY ⟨_,_,rfl,aM<|cO<|bY ⟨_,rfl,?_,?_,?_⟩⟩
 .split<;>lk
 .split<;>lk
 generalize hJ:(if((!(ns.map V.int)):Int) - 2<30 then((!(ns.map V.int)):Int) - 2 else 30)=J;have hJ1:J<=30/\J+2<=!ns:=by subst hJ;split<;>lk
 clear hJ;refine aeE ((J+2)/3).toNat (λi mK Y=>∃y4 y5 y6 y7,mK=[#[.ref sc],#[.ref x],#[.ref m],#[.ref O],y4,y5,y6,y7,none,none]/\∃A L ls,mz C s Y x dk p dx nn ll m A L ls/\S8 A L ls/\(∀r∈A,RX (wB i) r)/\Y O=#[.lst<|(seenOf L).map V.str]/\SL K [O] Y sc (ns.map V.int)) ⟨_,_,_,_,rfl,[],_,_,V2,S4,λ_ h=>(by cases h),hr4,hs4⟩ (λi mK Y hi p=>hi) ?_ ?_
 .rintro i mK Y v pq hi ⟨y4,y5,y6,y7,rfl,A,L,ls,st,M,rx,G,hs⟩ ⟨rfl,rfl⟩;have hi3:i*3+2<!ns/\i<10:=by lk
  obtain⟨c,ec⟩:∃c,ns[i*3]? =#[c]:=⟨_,ai ∅⟩;obtain⟨mo,emo⟩:∃c,ns[i*3+1]? =#[c]:=⟨_,ai ∅⟩;obtain⟨la,ela⟩:∃c,ns[i*3+2]? =#[c]:=⟨_,ai ∅⟩;have a0:cP (ns.map V.int) ((i:Int)*3)=#[.int c]:=fM (j:=i*3) (by rw[ay,ec];rfl);have a1:cP (ns.map V.int) ((i:Int)*3+1)=#[.int mo]:=fM (j:=i*3+1) (by rw[ay,emo];rfl);have a2:cP (ns.map V.int) ((i:Int)*3+2)=#[.int la]:=fM (j:=i*3+2) (by rw[ay,ela];rfl);refine bh λN I=>fG<|callC<|ak rfl<|aM<|Ui rfl hs.sq (λR r=>ak rfl r) a0<|aM<|Ui rfl hs.sq (λR r=>cC<|ak rfl<|cO<|Fy r) a1<|aM<|Ui rfl hs.sq (λR r=>cC<|ak rfl<|cO<|Fy r) a2<|bY<|aeM.mk (rows:=A) rfl st.md M (λe0 H1 s1=>I _ _ ?_)<|λd H1 dok f1 md1=>I _ _ ?_
  .subst e0;refine bh λN I=>fG ?_;delta pN;have wr:∀w∈(["rooms"]:¬Str),fQ w:=λw hw=>by rw[aI.mp hw];exact wX.2.2.2.2.2.1
   refine ak rfl ⟨rfl,aM<|cO<|bY<|akD K (ws:=["rooms"]) 's' wr ⋯ λa H2 s2 ha hx=>I _ _ ?_⟩;refine bh λN I=>alK 10 [(5,.str "rooms")] (.c rfl ⟨rfl,by decide +kernel⟩ .n) (by dsimp only[cu];z_go;rw[QJ];rfl) λH3 s3=>I _ _ ?_;have l:=s1.trans<|s2.trans s3;refine ab8 (K:=K) (w0:="rooms") (as:=[]) (ys:=[]) (s3 _ _ hx) wr ⋯ (by rw[aS<|'k'];rfl) ⋯ (l _ _ G) (by have:=M.len;lk) λy7 H4 f4 h4=>?_;exact⟨_,_,_,_,rfl,[],L,ls,af7 (st.grow l) (l _ _ G) f4,M,λ_ h=>(by cases h),h4,hs.kp<|(Kp.same l).trans<|Kp.own f4⟩
  .have hB:∀r∈oJ d A,RX (wB<|i+1) r:=ag6 dok rx;have wle:wB (i+1)<=100*bf:=gE ∅ ⋯;have hB':∀r∈oJ d A,RX (100*bf) r:=λr hr=>let⟨a,b,c⟩:=hB r hr;⟨a,by lk,c⟩;have akE:=akB dok;have wr:=bR.ajB (Om M.R M.N M.ok.dr.sub (λr hr=>d5 (M.rx r hr).2.1<|'k') 'k' akE);have al:(!d.args)<=5:=by cases d<;>(delta bR.args;simp)
   let(kv0,hk0,_):=st.md;have k1:Kp O pq H1:=Kp.dic hk0 f1;have hr1:H1 O=#[.lst<|(seenOf L).map V.str]:=f1 _ _ (λz=>by rw[z,hk0] at G;cases G) G;have U:=alL st m1 m2 f1 md1;have hs1:=hs.kp k1;refine bh λN I=>fG ?_;delta pN;refine ak rfl ⟨rfl,aM<|cO<|bY<|akD K (ws:=d.word::d.args) 's' wr (by rw[a8];lk) λa H2 s2 ha hx=>I _ _ ?_⟩;refine bh λN I=>alJ 10 [(5,.str<|Str.join " " (d.word::d.args))] (.c rfl ⟨rfl,jG wW λw h=>(wr w h).ok⟩ .n) (by dsimp only[cu];z_go;rw[QJ,aS<|ahp d];rfl) λH3 s3=>?_;have l:=s2.trans s3;have q:=U.grow l;refine yL<|cC<|jU rfl q.d rfl<|aM<|ak rfl<|bY<|Ox q.d q.h M akE hB' λH4 agb ls4 S4 e4 hh4 hd4 sy=>cO<|Ep<|rG<|I _ _ ?_;have V2:mz C s H4 x dk p dx nn ll m (oJ d A) agb ls4:=⟨hd4,hh4,q.md.stay q.h m1 m2 sy⟩;have k4:Kp O H3 H4:=Kp.stay q.h sy;have l4:LK H3 H4:=LK.stay q.h sy;have hr4:=l4 _ _<|l _ _ hr1;refine ab8 (K:=K) (ys:=yD d) (l4 _ _<|s3 _ _ hx) wr ∅ (akC d) (by cases d<;>(delta yD;simp)) hr4 (by have:=M.len;lk) λy7 H5 f5 h5=>?_;rw[<-ahq,←e4] at h5;exact⟨_,_,_,_,rfl,oJ d A,agb,ls4,af7 V2 hr4 f5,S4,hB,h5,hs1.kp<|(Kp.same l).trans<|k4.trans<|Kp.own f5⟩
 .rintro mK Y ⟨y4,y5,y6,y7,rfl,A,L,ls,st,M,rx,G,hs⟩;refine⟨av _,I _ _ ?_⟩;have aoN:∀r∈A,RX (90*bf) r:=λr hr=>by
   have⟨a,b,c⟩:=rx r hr
   have:wB ((J+2)/3).toNat<=90*bf:=gE ∅ ⋯
   exact⟨a,by lk,c⟩
  have⟨l1,l2,l3,l4,l5⟩:=M.len;refine bh λN I=>aeK<|callC<|ak rfl<|aM<|ak rfl<|bY<|.mk rfl st M λH1 s1=>aeL ?_;have U:=st.grow s1;refine yL<|cC<|aez rfl U.d<|abK M U.d U.h λH2 s2=>?_;delta pN;refine cO ⟨rfl,aM<|ak rfl<|bY<|ZK (ws:=seenOf L) (s2 _ _<|s1 _ _ G) (λy hy=>cb (M.R y<|M.ok.sub y hy).2.2<|by decide) ∅ (neS (jG wW λz hz=>(M.R z<|M.ok.sub z hz).1.can)<|rG<|I _ _ ?_)⟩;have VF:=U.grow s2;have hr2:=s2 _ _<|s1 _ _ G;have hs2:=(hs.grow s1).grow s2;clear hs G st U s1 s2 rx;have hsN:∀{Y:Hp},Same H2 Y->Has K Y (.list<|ns.map .int) (.ref sc):=λk=>⟨sc,_,rfl,(hs2.grow k).sq,aK.ints.mpr rfl⟩;refine bh λN I=>fG<|cC ?_;delta sX O9;refine aM (cO (bY ⟨3,rfl,by decide,by decide,λD hD=>?_⟩));refine⟨λi n Y=>n=3 - i/\i<=3/\Y D=#[.lst<|((List.range i).map λk:Nat=>uI ns (30+(0+(k:Int))) % 16).map V.int]/\Same H2 Y,⟨_,rfl,cv _,ao,aH hD⟩,?_⟩;rintro i n Y ⟨rfl,hi,hd,sm⟩;by_cases c:i<3
  .refine .inr ⟨c,?_⟩;rintro v pq ⟨rfl,rfl⟩;refine⟨dD.skip dD.refl,?_⟩;delta Dk;k_ne;rw[ap rfl];refine qG 2 [(0,.int<|0+i),(1,.list<|ns.map .int)] (.c rfl rfl<|.c rfl (hsN sm) .n) (z0:=uI ns (30+(0+(i:Int))) % 16) (by dsimp only[cu];z_go;rw[aa0 ∅];z_go;rw[cY<|by decide]) λH4 s4=>⟨_,s4 _ _ hd,bw (by rw[ac,ac,kG];lk),_,ja _ _ c,rfl,c,?_,λb ob e=>?_⟩
   .rw[ao,List.range_succ,b7,b7];rfl
   .rw[au<|aV e hD];exact s4 _ _<|sm _ _ e
  have e3:i=3:=by lk
  subst e3;refine .inl ⟨av _,?_⟩;generalize ht3:((List.range 3).map λk:Nat=>uI ns (30+(0+(k:Int))) % 16)=u at hd;have aoO:∀z∈u,0<=z/\z<=10^22:=λz hz=>by rw[<-ht3] at hz;let(k,_,e):=bg.mp hz;lk
  obtain⟨q0,q1,eq3⟩:∃q0 q1,u=q0::q1:=⟨_,_,ht3.symm⟩;let(cs,ecs):=aeQ ns #[33]<|#[63];have hm0:0<=cs.sum % 10^20/\cs.sum % 10^20<=10^22:=by lk
  delta VN yU;refine aM<|cC<|cbO<|aM<|ak rfl<|cO ⟨_,rfl,cO ⟨_,rfl,sc,_,rfl,(hs2.grow sm).sq,λz1 hz1=>bY ?_⟩⟩;rw[ecs];have sz1:=aH (o:=.lst<|cs.map V.int) hz1;refine .mk cs (aU.of ao)<|cC<|cO<|cO ⟨?_,?_,bY ⟨(by show 1<=16777216;decide),λz2 Nh=>?_⟩⟩
  .exact⟨by decide,by decide,by decide⟩
  .show(0:Int)<10^20;decide
  have Xv:=aH (o:=.lst [V.int<|cs.sum % 10^20]) Nh;have sz:=sz1.trans Xv;refine⟨D,z2,_,_,rfl,rfl,sz _ _ hd,ao,?_,λq8 hq8=>?_⟩
  .rw[<-ht3];show 4<=16777216;decide
  have key:∀H5,Same H2 H5->H5 q8=#[.lst<|(u++[cs.sum % 10^20]).map V.int]->N [#[.ref sc],#[.ref x],#[.ref m],#[.ref O],y4,y5,y6,y7,#[.ref q8],none] H5:=λH5 s5 h5=>I _ _ ?_
  .exact key _ (sm.trans<|sz.trans<|aH (o:=.lst<|u.map V.int++[V.int<|cs.sum % 10^20]) hq8) (by rw[ao,b7];rfl)
  have hall:∀z∈u++[cs.sum % 10^20],0<=z/\z<=10^22:=λz hz=>by
   rcases bd.mp hz with g|g
   .exact aoO z g
   .rw[aI.mp g];exact hm0
  refine bh λN I=>forM (ws:=u++[cs.sum % 10^20]) V.int (λ_ (y:↑V)=>[#[.ref sc],#[.ref x],#[.ref m],#[.ref O],y4,y5,y6,y7,#[.ref q8],y]) (λ_ H6=>Same H5 H6) none rfl rfl (Same.refl _) (λi H6 s6=>aU.of (s6 _ _ h5)) ?_ ?_
  .rintro i T y H6 hT s6;have⟨h0,hT'⟩:=hall T<|ag hT;have FJ:=s5.trans s6;exact Mf<|callC<|ak rfl<|aM<|ak rfl<|aM<|ak rfl<|aM<|ak rfl<|bY<|.mk rfl (VF.grow FJ) (FJ _ _ hr2) M h0 hT' λH7 s7=>Em ⟨⟨_,rfl⟩,s6.trans s7⟩
  .rintro y H6 s6;refine I _ _<|ji ?_;have FJ:=s5.trans s6;subst eq3;have h6:=s6 _ _ h5;have⟨g0,g1⟩:=hall q0 ae;refine callC (ak rfl (aM (ak rfl (aM (ak rfl (aM (dz rfl (aU.of h6) (pY _ _) (aM (qG 10 [(0,.list<|ns.map .int)] (.c rfl (hsN FJ) .n) (z0:=1+uI ns 31 % 40) (by dsimp only[cu];z_go;rw[aa0<|by decide];z_go;rw[cY<|by decide];z_go) λH7 s7=>bY ?_)))))))));have Ka:=FJ.trans s7;calc .mk rfl (VF.grow Ka) m1 m2 (Ka _ _ hr2) M g0 g1 ∅ ∅ aoN λH8=>hq _
end
end bV
namespace bV
open L2 VM
structure FH (K:Frag)(x q:Str)(st:Stmt)(f:Addr):Prop where
 ex:∃oc od kV dc pm an cd ct sl,K.lookup f=#[(oc,od,.func<|fnOf x q (lR st) (dU st) (aP st) .none kV dc pm an cd ct,sl)]/\codeIn K cd q=true/\keepIn K (.ref f)=true
abbrev GH (K:Frag)(x:Str)(st:Stmt):Prop:=∃f,nsIn K mainGlobals x=#[#[.ref f]]/\FH K x x st f
abbrev MH (K:Frag)(C:Addr)(x q:Str)(st:Stmt):Prop:=∃f,findIn K (.ref C) x=#[#[.ref f]]/\isFn K (.ref f)=true/\FH K x q st f
section
inductive XG (P:α)(w:β)(b:γ)(K:Frag)(mg:Str->↑Value):Prop
 |mk (X:K.In h0) (G:h0.Ns mainGlobals mg)
def FH.fn (h:FH K x q st f):∃A,xU K x q st f A:=by let(_,_,_,_,_,_,_,_,_,l,c,k):=h.ex;calc⟨_,aao l c k⟩
def GH.gf (h:GH K x (top i))(y:XG E.P E.w E.base K E.mg)(e:(Fe (top i)=x)∣0):GF E K i:=by let(_,a,b):=h;let(A,F):=b.fn;let(X,G):=y;cases e;calc⟨F,mg_of X G a⟩
def MH.mf (h:MH K C x q st)(_:XG E.P E.w E.base K E.mg)(e:(Fe st=x)∣0):MF E K C st:=by let⟨_,a,n,b⟩:=h;let⟨A,F⟩:=b.fn;cases e;calc⟨F,a,n,F.kp⟩
def GH.mk' {kV L A p U:Value}(a:nsIn K mainGlobals x=#[#[.ref f]])(l:K.lookup f=#[(j,B,.func<|fnOf x x (lR st) (dU st) (aP st) .none kV L A O p U,D)])(c:codeIn K p x=true)(k:keepIn K (.ref f)=true):GH K x st:=(f,a,j,B,kV,L,A,O,p,U,D,l,c,k)
def MH.mk' {kV L A p U:Value}(a:findIn K (.ref C) x=#[#[.ref f]])(l:K.lookup f=#[(j,B,.func<|fnOf x q (lR st) (dU st) (aP st) .none kV L A O p U,D)])(c:codeIn K p q=true)(k:keepIn K (.ref f)=true)(n:isFn K (.ref f)=true):MH K C x q st:=(f,a,n,j,B,kV,L,A,O,p,U,D,l,c,k)
def Kc {p:A->Prop}(h:p a):∃x,p x:=⟨a,h⟩
end
def all_mk {l:PySem.W.OpenLaw}(X:K.In h)(G:h.Ns mainGlobals mg)(hfa:mg "law"=#[.ref fa])
  (h0:GH K "left_behind" (top 12))
  (h1:GH K "is_nearer" (top 16))
  (h2:GH K "reach" (top 15))
  (h3:GH K "push" (top 18))
  (h4:GH K "way_to" (top 17))
  (h5:GH K "push_all" (top 14))
  (h6:GH K "moves_of" (top 13))
  (h7:GH K "steps_of" (top 10))
  (h8:GH K "best_flow" (top 11))
  (h9:GH K "length_of" (top 20))
  (h10:GH K "passage_on" (top 23))
  (h11:GH K "walk_along" (top 22))
  (h12:GH K "walks_of" (top 21))
  (h13:GH K "moments_of" (top 26))
  (h14:GH K "out_within" (top 25))
  (h15:GH K "turns_by" (top 29))
  (h16:GH K "plan_for" (top 30))
  (h17:GH K "fewest_turns" (top 28))
  (h18:GH K "look_at_name" (top 38))
  (h19:GH K "is_number" (top 46))
  (h20:GH K "value_of" (top 45))
  (h21:GH K "values_of" (top 44))
  (h22:GH K "told_walks" (top 49))
  (h23:GH K "told_passages" (top 50))
  (h24:GH K "_law_cell_at" (top 52))
  (h25:GH K "_law_number" (top 53))
  (h26:GH K "_law_line" (top 54))
  (h27:GH K "_law_passages" (top 55))
  (h28:GH K "_law_out" (top 56))
  (h29:GH K "_law_bound" (top 57))
  (h30:GH K "_law_turns" (top 58))
  (h31:GH K "_law_leads" (top 59))
  (h32:GH K "_law_fewest" (top 60))
  (h33:GH K "_law_worths" (top 61))
  (h34:GH K "change" (top 48))
  (h35:GH K "answer_to" (top 47))
  (h36:GH K "law" (top 62))
  (hC:∃C,nsIn K mainGlobals "NamedHall"=#[#[.ref C]]/\plainGet K C Str.empty=true/\hasDictIn K C=true/\plainOver K C=true/\findIn K (.ref C) "__setattr__"=#[#[.builtin "object.__setattr__"]]/\findIn K (.ref C) "numbers"=#[none]/\findIn K (.ref C) "laid"=#[none]/\makesIn K C=true/\keepIn K (.ref C)=true/\MH K C "__init__" "NamedHall.__init__" (bW 0)/\MH K C "lay" "NamedHall.lay" (bW 1)/\MH K C "shut" "NamedHall.shut" (bW 2)/\MH K C "widen" "NamedHall.widen" (bW 3)/\MH K C "narrow" "NamedHall.narrow" (bW 4)/\MH K C "look_for" "NamedHall.look_for" (bW 5)/\MH K C "change_width" "NamedHall.change_width" (bW 6)/\MH K C "rooms" "NamedHall.rooms" (bW 7)/\MH K C "passages" "NamedHall.passages" (bW 8)/\MH K C "out" "NamedHall.out" (bW 9)/\MH K C "turns_for" "NamedHall.turns_for" (bW 10)/\MH K C "worth" "NamedHall.worth" (bW 11)/\MH K C "out_by" "NamedHall.out_by" (bW 12)/\MH K C "names_on" "NamedHall.names_on" (bW 13)/\MH K C "by_room" "NamedHall.by_room" (bW 14))
  (hD:∃C,nsIn K mainGlobals "Desk"=#[#[.ref C]]/\plainGet K C Str.empty=true/\hasDictIn K C=true/\plainOver K C=true/\findIn K (.ref C) "__setattr__"=#[#[.builtin "object.__setattr__"]]/\findIn K (.ref C) "hall"=#[none]/\makesIn K C=true/\keepIn K (.ref C)=true/\MH K C "__init__" "Desk.__init__" (yN 0)/\MH K C "say" "Desk.say" (yN 1))
  (H:∃t,nsIn K mainGlobals "LONGEST_NAME"=#[#[.int 12 t]])
  (D:∃t,nsIn K mainGlobals "MOST_PASSAGES"=#[#[.int 60 t]])
  (L:∃t,nsIn K mainGlobals "MOST_ROOMS"=#[#[.int 40 t]])
  (N:∃t,nsIn K mainGlobals "START"=#[#[.int 0 t]])
  (T:∃t,nsIn K mainGlobals "GOAL"=#[#[.int 1 t]])
  (I:∃t,nsIn K mainGlobals "MOST_FIGURES"=#[#[.int 60 t]])
  (hF:∃a,nsIn K mainGlobals "FORMS"=#[#[.ref a]]/\FT l.prog w K a lN)
  (hL:∃a,nsIn K mainGlobals "LEAST"=#[#[.ref a]]/\FT l.prog w K a lO)
  (z:nsIn K mainGlobals "len"=#[none]/\nsIn K mainGlobals "list"=#[none]/\nsIn K mainGlobals "range"=#[none]/\nsIn K mainGlobals "enumerate"=#[none]/\nsIn K mainGlobals "zip"=#[none]/\nsIn K mainGlobals "abs"=#[none]/\nsIn K mainGlobals "sum"=#[none]/\nsIn K mainGlobals "min"=#[none]/\nsIn K mainGlobals "max"=#[none]/\nsIn K mainGlobals "int"=#[none]/\nsIn K mainGlobals "bool"=#[none]/\nsIn K mainGlobals "tuple"=#[none]/\nsIn K mainGlobals "str"=#[none]/\nsIn K mainGlobals "sorted"=#[none]/\nsIn K mainGlobals "set"=#[none]/\nsIn K mainGlobals "isinstance"=#[none]/\nsIn K mainGlobals "all"=#[none]):
  ∃fd:FuncData,(∀(s:Shared) (v:Value),BindsTo s fd ⟨[v],[]⟩ [("_law_script",v)])/\∀base:Heap,K.In base->base.Ns mainGlobals mg->jK l.prog w K mg base 13 fa fd ["_law_script"] (YD K):=by
 let(fl,al,oc,od,kV,dc,pm,an,cd,ct,sl,ll,lc,lk):=h36;have e:=hfa.symm.trans<|mg_of X G al;k_go;let(_,H):=H;let(_,D):=D;let(_,L):=L;let(_,N):=N;let(_,T):=T;let(_,I):=I;have Z:=λ{x} (e:nsIn K mainGlobals x=#[none])=>PySem.W.mg_none_of X G e;let(z0,z1,z2,z3,z4,z5,z6,z7,z8,z9,z10,z11,z12,z13,z14,z15,z16):=z;have B:Bl mg:=⟨Z z0,Z z1,Z z2,Z z3,Z z4,Z z5,Z z6,Z z7,Z z8,Z z9,Z z10,Z z11,Z z12,Z z13,Z z14,Z z15⟩;let(C,aC,pg,hd,po,sa,no1,no2,mk,kC,m_0,m_1,m_2,m_3,m_4,m_5,m_6,m_7,m_8,m_9,aoP,aoQ,aoR,aoS,aoT):=hC;let(CD,aD,pgD,hdD,poD,saD,nD,mkD,kD,d_0,d_1):=hD;have cl:Cl K C:=⟨⟨pg,hd,po,sa⟩,no1,no2⟩;have cD:Cls K CD:=⟨pgD,hdD,poD,saD⟩;refine⟨fnOf "law" "law" (lR<|top 62) (dU<|top 62) (aP<|top 62) .none kV dc pm an cd ct,λs v=>.of_eq rfl,λbase _ _=>?_⟩;have W:=λ{x v} (e:nsIn K mainGlobals x=#[#[v]])=>mg_of X G e;let(_,aF,kF):=hF;have kF:=kF mg "FORMS" (W aF);let(_,aL,kL):=hL;have kL:=kL mg "LEAST" (W aL);let E:En:=⟨l.prog,w,mg,base⟩;have y:XG E.P E.w E.base K E.mg:=⟨X,G⟩;have KT:=aom K;have J:=K6 B KT<|h0.gf y;have d:=Sg B KT<|h1.gf y;have ab9:=adw B KT d<|h2.gf y;have alM:=agL B KT<|h3.gf y;have aht:=aaW B KT<|h4.gf y;have m:=Vk B KT ab9 alM aht<|h5.gf y;have O:=Vl B KT<|h6.gf y;have acd:=Vm B KT J m O<|h7.gf y;have U:=Ss B KT J m O<|h8.gf y;have Y:=Sv B KT<|h9.gf y;have r:=O2 B KT<|h10.gf y;have b:=O4 B KT r<|h11.gf y;have o:=Vn B KT b<|h12.gf y;have Q:=O5 B KT J ab9 O<|h13.gf y;have q:=O6 B KT U o Q Y<|h14.gf y;have ace:=Vo B KT<|h15.gf y;have acf:=Vp B KT Y<|h16.gf y;have g:=Js B KT acd ace U acf o Q<|h17.gf y;have M:=Jt B KT (Z z16) (W H)<|h18.gf y;have f:=Uq B KT (Z z16) (W I)<|h19.gf y;have acg:=Vv B KT kL f<|h20.gf y;have n:=Ur B KT kF acg<|h21.gf y;have u:=O8 B KT<|h22.gf y;have j:=GJ B KT<|h23.gf y;have k:=Ju B KT<|h24.gf y;have A:=Ls B KT<|h25.gf y;have M5:=agI cl<|m_5.mf y;have M6:=aiH cl<|m_6.mf y;have alN:=agJ cl M5<|m_2.mf y;have akG:=adq cl M5 M6<|m_3.mf y;have ahu:=aaS cl M5 M6<|m_4.mf y;have aoU:=aiW B cl M (W D) (W L)<|m_1.mf y;have M7:=adt B cl<|m_7.mf y;have ach:=ad3 B cl q (W N) (W T)<|aoR.mf y;have aci:=ad7 B KT cl<|aoS.mf y;have i:=abt B cl M7<|aoT.mf y;have aoV:=aji B cl ach aci i<|m_9.mf y;let(_,_,Oi,mi,bi):=(agM cl M (W N) (W T)<|m_0.mf y).ex;have akH:=aea B cl g (W N) (W T) aci i<|aoP.mf y;have akI:=aeb cl M5 ach<|aoQ.mf y;have alO:=ahd cl M7<|m_8.mf y;have ahv:=abE cl aoU alN akG ahu<|h34.gf y;have c:=ajz B cl aoV akH akI M7 u ahv alO j<|h35.gf y;let(_,_,O0,m0,b0):=(aep cD nD<|d_0.mf y).ex;have p:=ajA B cD nD ⟨mk,mi.at_,mi.fn,kC⟩ Oi bi (W aC) n c<|d_1.mf y;have Cl:=aeF B<|h31.gf y;have Cf:=ahj B cD p A Cl<|h32.gf y;have Cp:=aeJ B cD p<|h27.gf y;have Ct:=ab1 B cD p A (ahi B B.set cD p A<|h28.gf y) (abP B cD p A<|h29.gf y) Cl<|h30.gf y;calc ahs B cD ⟨mkD,m0.at_,m0.fn,kD⟩ O0 b0 (W aD) p k (aeN B<|h26.gf y) Cp Ct (ZL B cD p A Cf Ct Cp<|h33.gf y)<|aao ll lc lk
end bV
end Lake
open Lake
open PySem.W PyProof.Rows
local macro_rules | `(universe $x*)=>return Lean.mkNullNode (←mpQ (λx=>return (←`(def $x:ident:=True)).raw) x.toList).toArray
namespace PySem.W.Fast
universe tw14849308820648748021 tw17422566571976870292 tw7522476757668739543 tw1029149046627517671 tw12581590531045637681 tw7556730786092398105 tw8986023261983393020 tw11470813845225903812 tw13852932155518587160 tw7469050116827952641 tw4189157593990491438 tw5267262399708941771 tw4978448663809482837 tw17217836979619031906 tw15288509487019051268 tw9872231225383183541 tw4045293649421577282 tw1922200895666042253 tw5590152632100833631 tw15947186730415677734 tw4086191147887523968 tw10999913898017151095 tw7771222641855561800 tw6878156076066543125 tw13390569294006806394 tw104817954493315471 tw7232720357344116546 tw5224974129833184526 tw4951861811577883815 tw17014879511120834680 tw3519343342697788877 tw13093456492911417797 tw10715829747133357648 tw13288761251830899689 tw12573353418276157568 tw14578638474180673276 tw6647701927311555048 tw7043072759382142583 tw17601346644183578825 tw9507404969899141578 tw4182259514950250487 tw17156109252951954475 tw3607500601234689673 tw1893202104928008386 tw3393913693531467655 tw10449807277999612560 tw11918608654669957475 tw6690991101476400126 tw17104536057155310936 tw8610050182956446345 tw8105091177458584974 tw5945316726906656133 tw15397644575172067167 tw6997129117506067470 tw12558625133229404878 tw5072335473590694348 tw9033189262555107909 tw5178141725607373786 tw2972194745642287992 tw11743413194505757019 tw5956198132711772575 tw11208401758328232363 tw2436783724677529719 tw15330364371552780427 tw15174605385360394378 tw9772257056811566840 tw3515027145466456890 tw16456840643125826171 tw11637781086365502154 tw2190354204687126965 tw2818560297732448141 tw3468436344395114517 tw17332653606780841096 tw8271861922835171831 tw4882434425760306126 tw11892993814553114366 tw13335410701391497812 tw755311750851014825 tw4624086587153014161 tw899916435397875413 tw10031741453563278302 tw3004585028229331094 tw3566632284461847089 tw10808930831883098041 tw1061828785643484946 tw6008193001285325434 tw7053247982932054401 tw1019724409317230461 tw13931683235117181124 tw1532589865533706956 tw4757042655845251589 tw12687809596047010404 tw14235594989779246692 tw6119482583251772010 tw9733496706568863202 tw5739184600924107436 tw6711411447408984994 tw18131176534854460572 tw820577145987122660 tw4615622904941603952 tw5887790228206327224 tw8806155222553676418 tw5316252660003761327 tw15020073213036742810 tw8844541262018049122 tw9518181346079062020 tw14705060214743640345 tw8296796289908386316 tw17844696264483160300 tw18014266476169320434 tw8395650837377671877 tw14047867490541104130 tw856386400527799721 tw3881619975303401771 tw6894368504533354986 tw17312490475247572047 tw2472321009637894029 tw2491002911212842248 tw942914633886271849 tw16571014731207338706 tw3992777952264792051 tw5264239924661879748 tw17013115441682581932 tw12604413803147558371 tw10918395244711951939 tw8345819188387023169 tw16001059476430160515 tw8816587206939201987 tw15809604703857115094 tw2499167595943311501 tw18270148740471466895 tw11753266342400357107 tw13900081009858882451 tw15631172413137248883 tw11357609822783652142 tw3163845817982882125 tw10587082075854918159 tw9345670219823475047 tw12340435997984600646 tw7998222534574547102 tw5832638869051693072 tw12099834151834215691 tw11472597542055591765 tw7553714055136680565 tw14986047251411515403 tw7190220965405252733 tw6180985704379007574 tw12794466306792539153 tw7189494118418110304 tw3210420177815341904 tw3880911715717857705 tw7292141044997817543 tw14773005147782086676 tw1267449640112176203 tw4190314687518999562 tw927080969124306752 tw12240627449821718542 tw17438786389140622515 tw9659638438315582590 tw11786362093431662626 tw8994806661934172718 tw16273383294835399889 tw13926592346515359580 tw9980247407458697167 tw3226322903766826343 tw16550326443562798121 tw9000386334364771523 tw15861842383723154756 tw17212748098178706036 tw4057499353011976548 tw1250001556101557057 tw7252142508448828740 tw1052276542807119996 tw2809011513226757781 tw1209407295254425294 tw7726578209335871403 tw7062958279510781411 tw2456839436549433648 tw15964369657156211626 tw14970087729230989825 tw3330455058788478040 tw7745269631669098613 tw13266976441051679233 tw2481108557737432362 tw17685548903200741706 tw11426200517393130138 tw12152075901962318439 tw11098021710897081292 tw5488054128684620992 tw11470240330545291777 tw9081968177623645041 tw6003751067063355351 tw4885021538609106006 tw3659939275368698303 tw554274882164682577 tw3956674013980007545 tw16819131008718027212 tw10403441709833357501 tw8150906448186933123 tw7444256395359655840 tw6138353798991976951 tw5061674603308993856 tw14441013916993247174 tw1281954698972333370 tw7168527480288924501 tw9991037649253415138 tw8103989864223386154 tw17281135963593386569 tw11332203369532120009 tw18352337972883751376 tw11339411621380715172 tw16905604570749906518 tw8246175369813603959 tw12668998700505685878 tw196330129827336350 tw9784131299687462479 tw14644418898881580552 tw13269381060212390446 tw15088226248428770323 tw2347028711928781326 tw18443262442680208474 tw5257148816261844151 tw13625253945371128882 tw3583050852466016323 tw7155637384314565708 tw7135588479610153056 tw284018230006740133 tw14935093143059782902 tw5605780425518548663 tw10056427917496668704 tw8183407269356754654 tw628707333303369067 tw13766220829994574504 tw14051358846775863896 tw9084786123614045362 tw16699397778147079153 tw1486917127549632904 tw10800871963781719706 tw7890436533199085622 tw8832287593606011120 tw7151573036270447247 tw6683300015624451160 tw5002801627933357272 tw17335018328162140751 tw12539844871806327065 tw12249428438370771992 tw1163231643560804392 tw10977445660285118255 tw8861815380058669724 tw15080539851912754645 tw477602267237745329 tw6257219280110772050 tw9392951309352004344 tw10056070576376962164 tw1497585142357247311 tw17248531401172330859 tw4976870513899019647 tw1958160000477865009 tw12120699453872330328 tw11070335442968330418 tw12364461860957935750 tw11733022801098808807 tw435989417123229376 tw16854485020978960521 tw14066427712375812762 tw2711056827540069259 tw9190237498631029511 tw6035018032485629782 tw2202994143865138666 tw16991982386248947121 tw13719082404308158799 tw12976425800187539753 tw10552644349954251995 tw3010893025847664198 tw9776129510139059862 tw892703803985116790 tw5954433515885441423 tw3345222695870640419 tw15736723286508478650 tw14146598125320685437 tw9209529298278163854 tw8654838054805815724 tw7694812933648846644 tw4563638326567238110 tw4071886725818437712 tw16828207743329139937 tw16704269552614581169 tw16177031936971097970 tw15730715336175441550 tw15291320690948324769 tw15024353008381047904 tw13589594932408744597 tw13037299588645656610 tw11796993549030216717 tw11171297163151476644 tw10929547307824322804 tw17967670409416646463 tw13917435499693979955 tw15951525607748002779 tw12986988198051150624 tw17814167260054027209 tw2093565161598362096 tw6838552692859000910 tw5775428556463115381 tw6189489620415959664 tw5495420990169471513 tw5148814130974296996 tw4354750377465761178 tw298125571723078915 tw15997990224114272734 tw889258920968741611 tw14786321335589470164 tw14796850297826897370 tw4453333334708540831 tw5228215469690451983 tw17249464634324292500 tw18145589219672715094 tw11305533567732814783 tw6403111869369787650 tw8992747114210401721 tw13636376803963632428 tw7331081363908073222 tw3077016245338637235 tw14313705070354040028 tw91813135983179336 tw14673226862965238746 tw12865596809765415156 tw11690785799834415070 tw4981128350919463294 tw2631635619607334949 tw16788248796915265244 tw14315879849642074371 tw9813432738205967195 tw8657422049864691022 tw7645373616542594021 tw6776707458721922268 tw17356673514761592360 tw14874380403488056107 tw13935036577566770130 tw12997686571696779904 tw6878843886589845798 tw648925630411202954 tw5697137571315498623 tw18425201312276337601 tw18381919410384062115 tw14522656622940534369 tw1400610103246510077 tw14816846952517358497 tw8473537497252187049 tw4272449244580727733 tw6761254088811434076 tw5025361641857182444 tw3821495895073889415 tw3168287259875502024 tw3128501645266668484 tw18015239300718074214 tw1765279827446749939 tw15738248899598600941 tw14802360807877297716 tw12040752642584124693 tw11538877613492145172 tw2350558959087615753 tw8073878012456409732 tw7917852321843375108 tw6837975252575462748 tw6540998640221943494 tw5812306156547834927 tw4894159234582068228 tw1323013222272404959 tw10442823078133285761 tw6255069741249740036 tw582295198034028142 tw575106932936807128 tw4343111640646261134 tw3645005204036594427 tw3186579991696620052 tw2450883948112887540 tw18424556016922940148 tw1694025685768829514 tw16029622939169239420 tw15136882942733806410 tw14448414204087183231 tw13748803327770194426 tw1366321374676711447 tw9907261399010906742 tw9427028150022576511 tw9060080603596800143 tw7676654977325904476 tw2347083612421059458 tw2331684488395949149 tw1996588847265300095 tw1603479021957227391 tw13868768984529780404 tw13245032468463599816 tw1005613277913681463 tw8793226360148938169 tw874372462127425750 tw8709698896188235005 tw8307648242858120486 tw8262015624970769900 tw7942000912939539142 tw727217581246323252 tw6896965677596157597 tw6382819975185433670 tw6106470153952572587 tw5183942607436703942 tw4834963055861225730 tw4739893644018835261 tw4592494573353201428 tw4374671161196670649 tw4359674277508214452 tw3217081596074368070 tw2647034388760768702 tw2056752966930944008 tw1930562023534548593 tw17980589645363740122 tw17448008028884111327 tw17355683635128227956 tw16694205529490721723 tw1614108989807858865 tw15523050470285543367 tw15225365186527636957 tw14433247815803411160 tw14216421907341044756 tw14104876783308137348 tw13978303567858580112 tw13860555101021864522 tw13780079004188586562 tw13770335158839418913 tw12991653007685877097 tw12203945827490723365 tw11544490292633323169 tw11440803796428802672 tw11430580980611005625 tw10924523200961193542 tw10856860030302001555 tw10378529263200625121 tw10355587833597322798 tw10024044830242275532 tw9887267524802511574 tw9612357794027549713 tw2670106218378136983 tw9703956210806412785 tw9670389995547430055 tw9662247748247779791 tw9510376263548137239 tw9453472807770793876 tw9294950722065696116 tw9230759514505547502 tw8882129437391248383 tw8775284865845410911 tw865138000503288210 tw858640992669049518 tw8539904664884964501 tw8463124379758547232 tw8221580772150962608 tw8128529210220449194 tw7326859906071520144 tw702260168784205610 tw6999743518768630313 tw6930202952287829281 tw6818646407279535445 tw6532770305813759971 tw6172325504830080431 tw5997362840863083117 tw5535291611412039035 tw5488955563422832726 tw5407733242825626730 tw4945996860652476953 tw4882733927025725016 tw4860295825100677416 tw4706262039268703023 tw4656237185207330377 tw4518174200174558737 tw4245491768628314417 tw4180028915110081058 tw3967965082724441083 tw3601761596902389297 tw3599066973609383337 tw3361850931327497933 tw3170656584174930754 tw3116730784346559638 tw2963671704530306279 tw2805974316579196181 tw279952927112526937 tw2767258476232482973 tw2756547137193440121 tw2705118796551129186 tw2389903339982885793 tw18278447540068752508 tw18119839938092393353 tw17851264167347808150 tw17824689323934431416 tw17725392272841920544 tw17539050760841695951 tw17526878894068058296 tw17501927733679223433 tw17319279955592115961 tw17289472072825320765 tw1708715107886902500 tw1706975484365483680 tw16907994790866000551 tw1650026368958297487 tw16276272503757345947 tw16272494440732197180 tw15926156276750681364 tw15819212596249603796 tw15606822957644516370 tw15562760407614918706 tw15481101256620721389 tw15373583923837206560 tw15011290883487886495 tw1498707397990595041 tw14690849388073710481 tw14680085581053447797 tw14631709206128287169 tw14603034164028849760 tw14031113887928358314 tw14003224918684706063 tw13832390518372432074 tw13815387467516852968 tw13720363457616826413 tw13718776131796974032 tw13671145290893460779 tw13555871519801981111 tw1346258228512744569 tw13159659975175120320 tw12771430093271606909 tw1255530932350651549 tw12282860147504695307 tw12261308125904166382 tw12221755334933624660 tw12213533593562150185 tw12118633141882537067 tw12039804997936831592 tw11821637041981704480 tw11787294231575023611 tw11681522906931755033 tw11138623808406839583 tw11066813831392882965 tw10987582265945751177 tw10731919457739902613 tw1070889530553659356 tw10641807536598507012 tw10528679699691716051 tw10503997639049728808 tw10404139993038163556 tw10374431414933236731
end PySem.W.Fast
set_option maxRecDepth 100000 in
set_option maxHeartbeats 0 in
theorem PySem.Challenge.cw_leavehall_k81_whole_desk_by_its_texts_holds : PySem.Challenge.rw_leavehall_k81_whole_desk_by_its_texts.Holds := by
 w_on;o_law;k_head;(case hw=>w_witness2)
 k_fill
 refine VM.walk (l:=PySem.Challenge.rw_leavehall_k81_whole_desk_by_its_texts) (k:=13) (x:="_law_script") rfl rfl ⟨rfl,by decide,by decide⟩ (λw h Y=>PySem.W.kIn_of Y) ?F;case F=>
  intro w mg fa h KX G hmg;refine' bV.all_mk KX G hmg ?arZ ?ar0 ?ar3 ?ar4 ?ar5 ?ar6 ?ar7 ?ar8 ?ar9 ?asa ?arn ?aro ?arp ?arq ?ars ?aru ?arv ?arw ?arx ?arz ?arA ?arB ?arC ?arD ?arE ?arF ?arG ?arH ?arI ?arJ ?arK ?arL ?arM ?arN ?arO ?arP ?arQ ?qqC ?qqD ?asb ?asd ?ase ?asf ?ash ?asi ?qqF ?qqL ?qqz;case qqC=>refine' bV.Kc ⟨?_,?_,?_,?_,?_,?_,?_,?_,?_,?_,?_,?_,?_,?_,?_,?_,?_,?_,?_,?_,?_,?_,?_,?_⟩<;>first|k_is|(refine' bV.MH.mk' ?a ?l ?c ?k ?n;(case a=>k_is);(case l=>k_is);(case c=>k_is);(case k=>k_is);(case n=>k_is))|skip
  case qqD=>refine' bV.Kc ⟨?_,?_,?_,?_,?_,?_,?_,?_,?_,?_⟩<;>first|k_is|(refine' bV.MH.mk' ?a ?l ?c ?k ?n;(case a=>k_is);(case l=>k_is);(case c=>k_is);(case k=>k_is);(case n=>k_is))|skip
  case qqF=>refine' bV.Kc ⟨?a,?b⟩;(case a=>k_is);(case b=>(refine' bV.aeD ?h ?q0 ?q1 ?q2 ?q3 ?q4 ?q5 ?q6 ?q7 ?q8 ?q9 ?q10 ?q11 ?ha;(case h=>k_is);(case q0=>refine' bV.Zx ?a;(case a=>k_is));(case q1=>refine' bV.aoJ ?a;(case a=>k_is));(case q2=>refine' bV.U4 ?a;(case a=>k_is));(case q3=>refine' bV.Zx ?a;(case a=>k_is));(case q4=>refine' bV.Zx ?a;(case a=>k_is));(case q5=>refine' bV.U4 ?a;(case a=>k_is));(case q6=>refine' bV.U4 ?a;(case a=>k_is));(case q7=>refine' bV.U4 ?a;(case a=>k_is));(case q8=>refine' bV.U4 ?a;(case a=>k_is));(case q9=>refine' bV.Zx ?a;(case a=>k_is));(case q10=>refine' bV.ajM ?a;(case a=>k_is));(case q11=>refine' bV.ajM ?a;(case a=>k_is));(case ha=>rfl)))
  case qqL=>refine' bV.Kc ⟨?a,?b⟩;(case a=>k_is);(case b=>(refine' bV.aeC ?h ?ha;(case h=>k_is);(case ha=>rfl)))
  case qqz=>refine⟨?_,?_,?_,?_,?_,?_,?_,?_,?_,?_,?_,?_,?_,?_,?_,?_,?_⟩<;>k_is
  all_goals first|(refine' bV.GH.mk' ?a ?l ?c ?k;(case a=>k_is);(case l=>k_is);(case c=>k_is);(case k=>k_is))|(refine' bV.Kc ?a;(case a=>k_is))
