import PyProof.Rows.All
import Wide.All
import OpenK.AllK
import Wide.FinOn
import Lean
import PyProof.EqAt
import PyProof.EqKinds
import PyProof.TupleCall
import PySem.Challenge.RW_leavehall_k64_whole_turns_and_worth
set_option compiler.extract_closed false
set_option Elab.async false
set_option linter.all false
set_option maxRecDepth 100000
set_option maxHeartbeats 4000000
noncomputable section
open PySem PySem.Spec
open PySem.W (Frag callWith_K codeIn emptyDict findIn fnOf handedIn hasDictIn instObj isFn kdl_call keepIn kia_one kitOne lookIn makesIn mg_of nsIn plainGet plainGet_of plainOver takerIn)
open Int (add_assoc add_mul lt_trans mul_add mul_assoc mul_le_mul_of_nonneg_left mul_nonneg mul_one mul_sub reducePow sub_zero toNat toNat_natCast)
open Nat (add_zero le_of_lt le_refl le_succ le_trans lt_irrefl lt_of_lt_of_le lt_succ_self min_le_right ne_of_lt not_lt reduceAdd reduceSub sub_self zero_add zero_le)
open List (all_eq_true any_cons any_map append_assoc append_nil cons_append filter_append filter_cons filter_map find?_cons flatten_cons foldl foldl_cons forIn_cons getD_eq_getElem?_getD getElem?_append_left getElem?_append_right getElem?_cons_succ getElem?_cons_zero getElem?_eq_getElem getElem?_eq_none getElem?_map getElem?_of_mem getElem?_range getElem?_replicate getElem?_set_ne getElem?_set_self getElem_inj getElem_map getElem_mem getElem_of_mem length_append length_cons length_drop length_map length_nil length_pos_iff length_set length_take length_zip map_append map_congr_left map_cons map_drop map_id map_map map_nil map_set map_take mem_append mem_append_left mem_append_right mem_cons mem_cons_of_mem mem_cons_self mem_filter mem_iff_getElem? mem_map mem_map_of_mem mem_of_getElem? mem_of_mem_drop mem_of_mem_take mem_range mem_singleton nil_append nodup_append nodup_cons nodup_nil not_mem_nil of_mem_zip pairwise_cons replicate replicate_succ set_cons_succ set_cons_zero size_toArray sum_cons sum_nil take_of_length_le take_succ zip_cons_cons)
open Bool (and_eq_true eq_false_iff false_eq_true or_eq_true)
open PyData (canLay0 canLayAll0 depthAll eqv)
open Prod (fst)
open Heap (get?_push_of_some get?_push_size get?_update_other get?_update_self lt_size)
open Option (getD_some isSome map_eq_some_iff map_some)
open Array (length_toList toList)
open Value (type)
def aa:=@List.mem_cons_of_mem
def ab:=@List.getElem?_eq_some_iff
def ae:=@List.mem_cons_self
def af:=@List.length_map
def ag:=@List.getElem?_eq_getElem
def ah:=@List.mem_of_getElem?
def ai:=@PySem.wpAny_bind
def ap:=@if_neg
def ar:=@if_pos
def av:=@List.getElem?_map
def aw:=@List.length_append
def ax:=@Nat.le_refl
def ay:=@List.length_cons
def az:=@List.map_cons
def aE:=@List.mem_singleton
def aI:=@List.mem_cons
def aS:=@PySem.wpAny_pure
def aT:=@PySem.Heap.get?_push_of_some
def bc:=@List.mem_append
def be:=@Option.some.inj
def bg:=@List.nodup_cons
def bj:=@Bool.false_ne_true
def bm:=@List.size_toArray
def bp:=@List.mem_map
def bq:=@List.getElem?_set_self
def bu:=@List.getElem?_eq_none
def bv:=@List.getElem?_set_ne
def bz:=@List.map_append
def bE:=@List.getD_eq_getElem?_getD
def bP:=@List.getElem?_append_left
def bS:=@Bool.and_eq_true
def bX:=@Int.le_refl
def b8:=@Nat.lt_of_lt_of_le
def b9:=@List.mem_map_of_mem
def cc:=@Option.map_eq_some_iff
def ce:=@List.length_set
def cf:=@decide_eq_true
def ci:=@List.mem_append_right
def cm:=@List.map_map
def cp:=@Ne.symm
def cq:=@PySem.Heap.lt_size
def cr:=@List.getElem?_append_right
def cv:=@PySem.Heap.get?_update_other
def cw:=@List.getElem?_of_mem
def cE:=@decide_eq_false
def cK:=@PyProof.Rows.boot_list
def cS:=@Int.mul_le_mul_of_nonneg_left
def c9:=@List.take_of_length_le
def da:=@PySem.Heap.get?_push_size
def db:=@PySem.wpAny_truthy_bool
def de:=@decide_false
def df:=@List.append_nil
def di:=@PySem.PassesOwn.never
def dk:=@List.sum_cons
def dm:=@List.append_assoc
def dn:=@PyProof.Rows.callWith_type1
def dq:=@Nat.ne_of_lt
def dt:=@List.length_take
def du:=@List.mem_filter
def dv:=@List.map_congr_left
def dA:=@List.mem_append_left
def dE:=@Nat.zero_le
def dL:=@Nat.le_trans
def dP:=@decide_true
def dQ:=@decide_eq_true_eq
def dS:=@Option.some.injEq
def dT:=@congrArg
def eD:=@List.length_nil
def eI:=@if_false
def eJ:=@PySem.boot_len
def eK:=@Int.mul_nonpos_of_nonneg_of_nonpos
def eP:=@PySem.F.plain_extend_loop
def eQ:=@List.map_nil
def eR:=@List.filter_cons
def fg:=@List.drop_eq_getElem_cons
def fm:=@List.nil_append
def fq:=@PySem.wpAny_mono
def fv:=@Int.le_trans
def fz:=@List.nodup_append
def fA:=@if_true
def fE:=@List.all_eq_true
def fF:=@PySem.mem_of_lookup
def fI:=@Bool.false_eq_true
def fN:=@True.intro
def fR:=@List.getElem_mem
def fS:=@Int.toNat_natCast
def fT:=@List.mem_of_mem_take
def f8:=@PySem.wpAny_passesOwn
def gc:=@PySem.wpAny_holding
def gh:=@List.getElem?_zip_eq_some
def gi:=@List.exists_mem_of_ne_nil
def gp:=@Array.getElem?_eq_getElem
def gs:=@Int.mul_nonneg
def gu:=@PySem.wpAny_field
def gy:=@PySem.SeqAt.eqv_refl
def gE:=@PySem.Around.under_plainId
def gI:=@List.mem_iff_getElem?
def gL:=@decide_eq_false_iff_not
def gS:=@PySem.F.plainAttrs_list
def gX:=@PySem.wpAny_updateSeq
def g7:=@List.getElem?_replicate
def g9:=@List.getElem?_cons_zero
def hJ:=@PySem.wpAny_Call_Name_kw
def hV:=@List.length_drop
def hX:=@List.getElem_inj
def hZ:=@PyProof.Rows.slot_tuple_getitem
def ic:=@List.length_filter_le
def ie:=@Int.mul_le_mul_of_nonneg_right
def ii:=@List.replicate_succ
def ij:=@PySem.wpAny_newObj_type
def ik:=@Nat.lt_irrefl
def il:=@Int.add_mul
def im:=@Int.zero_add
def ip:=@PySem.plainId_quiet
def iq:=@Nat.lt_of_le_of_lt
def ir:=@List.mem_of_mem_drop
def iA:=@LawfulBEq.eq_of_beq
def iE:=@PySem.codeAny_builtin
def iF:=@PySem.Heap.get?_update_self
def iL:=@Sum.inr.inj
def iN:=@List.length_pos_iff
def iO:=@List.getElem?_range
def iP:=@List.foldl_cons
def iS:=@PySem.F.plainAttrs_dict
def iX:=@Nat.le_add_right
def i4:=@List.cons_append
def i5:=@Int.le_of_lt
def i6:=@Nat.min_eq_left
def i7:=@Bool.eq_iff_iff
def i8:=@Nat.zero_add
def i9:=@Array.length_toList
def ja:=@List.mem_range
def jb:=@PySem.wpAny_callSpecial?_slot
def jn:=@Nat.min_le_right
def jp:=@Nat.lt_succ_self
def jv:=@Nat.mul_le_mul_right
def jI:=@List.pairwise_append
def jS:=@List.of_mem_zip
def j1:=@List.find?_cons
def j2:=@Bool.eq_false_iff
def j3:=@PySem.call_meets
def ka:=@List.filter_sublist
def kb:=@List.filterMap_cons
def kc:=@PySem.Calls.callWith_builtin
def kd:=@PySem.wpAny_loadPart'
def ke:=@PySem.wpAny_execs_nil
def kf:=@PySem.F.slot_zip_next
def kg:=@Int.mul_add
def ki:=@List.getElem_of_mem
def km:=@List.getElem_map
def kn:=@List.any_cons
def ko:=@Int.add_assoc
def kq:=@List.take_succ
def kr:=@PySem.sizeLine_eq
def ku:=@List.map_set
def kx:=@List.pairwise_map
def ky:=@List.length_range
def kz:=@List.zip_cons_cons
def kA:=@List.set_cons_zero
def kB:=@List.set_cons_succ
def kD:=@List.pairwise_cons
def kF:=@List.filter_append
def kG:=@decide_eq_decide
def kH:=@List.map_fst_zip
def kK:=@PySem.F.entry_extend_loop
def kL:=@Bool.or_eq_true
def kM:=@List.getElem?_cons_succ
def kN:=@List.drop_append_of_le_length
def kP:=@Nat.sub_self
def kQ:=@Nat.le_of_lt
def kR:=@PyProof.Rows.boot_isinstance
def kS:=@Nat.not_lt_zero
def kT:=@PySem.Calls.spliced_cons
def kU:=@List.flatten_cons
def kX:=@true_and
def lh:=@PySem.seqIndex_neg
def li:=@PySem.codeAny_mono
def lj:=@List.takeWhile_cons_of_pos
def lp:=@List.takeWhile_cons_of_neg
def lI:=@PySem.Calls.spliced_nil
def lP:=@List.nodup_nil
def lS:=@PySem.wpAny_pyIter_zip
def lT:=@PySem.wpAny_call_entry
def l4:=@List.not_mem_nil
def l5:=@PySem.F.slot_dict_values
def l6:=@PySem.F.args_tuple_add_2
def l7:=@List.Pairwise.imp_of_mem
def l8:=@PySem.seqIndex_of
def l9:=@PySem.F.entry_tuple_add
def md:=@PySem.wpAny_specialOf
def me:=@Int.sub_zero
def mf:=@PySem.W.cellsFrom_some
def mh:=@PySem.F.slot_tuple_add
def my:=@PySem.F.slot_dict_copy
def mB:=@Nat.ne_of_gt
def mE:=@List.drop_of_length_le
def mI:=@List.drop_eq_nil_of_le
def mM:=@Int.zero_mul
def mP:=@Int.mul_zero
def mS:=@Int.mul_comm
def mT:=@Int.add_zero
def m4:=@Array.getElem?_eq_none
def nc:=@List.map_take
def ng:=@List.length_zip
def nh:=@List.forIn_cons
def nk:=@List.filter_map
def no:=@PySem.W.methodCall_KW
def np:=@PySem.F.slot_dict_pop
def nr:=@List.length_singleton
def nv:=@List.length_replicate
def ny:=@List.cons_lt_cons_iff
def nB:=@Int.mul_ediv_add_emod
def nE:=@Array.getElem?_toList
def nI:=@PySem.wpAny_seqItems
def nK:=@or_false
def nS:=@Nat.pow_le_pow_right
def nV:=@List.range_eq_range'
def nX:=@PySem.Calls.Name_function_global
def n9:=@Int.mul_assoc
def oe:=@PySem.W.kia_one
def og:=@beq_eq_false_iff_ne
def oi:=@List.takeWhile_cons
def oj:=@PySem.wpAny_standAt
def ol:=@PySem.wpAny_comprehension_free
def om:=@Int.mul_sub
def oo:=@Int.mul_one
def oq:=@Nat.le_succ
def ot:=@beq_iff_eq
def ox:=@PySem.Paired.length
def oy:=@List.mem_filterMap
def oz:=@List.map_replicate
def oB:=@List.forIn_toArray
def oC:=@Int.emod_lt_of_pos
def oP:=@Array.append_assoc
def oQ:=@Array.all_eq_true'
def oS:=@List.take_sublist
def o0:=@List.take_add_one
def o3:=@List.getElem?_inj
def o4:=@List.foldl_append
def o5:=@List.ext_getElem?
def o6:=@List.Sublist.refl
def pb:=@Int.emod_eq_of_lt
def pc:=@Bool.not_eq_true'
def pf:=@PySem.wpAny_nextOf_list_item
def ph:=@PySem.wpAny_getItem_list_neg
def pi:=@Int.lt_trans
def pj:=@PySem.concat_meets
def pk:=@PySem.call_meetsIn
def pv:=@Nat.add_zero
def px:=@Option.getD_none
def py:=@List.range'_succ
def pz:=@List.nodup_range
def pE:=@List.lookup_cons
def pM:=@List.isEmpty_nil
def pS:=@List.Sublist.map
def pT:=@Int.min_le_right
def p4:=@Int.le_max_right
def p5:=@PySem.wpAny_pyNext_zip_item
def p6:=@PySem.wpAny_isTrue_Compare1
def p9:=@PySem.builtinLookup_eq_fast
def qf:=@Nat.min_le_left
def qh:=@List.sum_append
def qi:=@Int.min_le_left
def qk:=@Int.le_max_left
def qo:=@Int.le_antisymm
def qr:=@Int.emod_nonneg
local macro_rules | `(tactic| omega) => `(tactic| lia)
namespace Lake
set_option tactic.hygienic false
local macro_rules | `($x:scientific)=>match x.raw.isScientificLit? with |some (m,false,e)=>`($(Lean.quote (m*10^e)))|_=>Lean.Macro.throwUnsupported
local macro_rules | `(tactic|lk)=>`(tactic|first|lia|omega)
local macro_rules | `(∅)=>`(by lk)
local macro_rules | `(⋯)=>`(by decide)
set_option hygiene false in
local macro_rules | `(tactic|ksr_p)=>`(tactic|(try subst hu);(try dsimp only);refine eO λu hu=>?_)
local macro_rules | `(tactic|k_ne)=>`(tactic|dsimp only)
local macro_rules | `(tactic|z_go)=>`(tactic|walk_at "e2")
local macro_rules | `(tactic|x_go)=>`(tactic|walk_at "e0")
local macro_rules | `(tactic|kt_k)=>`(tactic|walk_at "e3")
set_option hygiene false in
local macro_rules | `(tactic|w_up)=>`(tactic|(intro X hP hw hK hc i aj s σ H E I hf st hg))
set_option hygiene false in
local macro_rules | `(tactic|fin2)=>`(tactic|(intro aj s σ H x y v u Q I rx ry h))
set_option hygiene false in
local macro_rules | `(tactic|k_in)=>`(tactic|(intro H x y dx dy d Q e hx hy q))
set_option hygiene false in
local macro_rules | `(tactic|room)=>`(tactic|(intro aj s σ H xs us Q I r h))
set_option hygiene false in
local macro_rules | `(tactic|kl_no)=>`(tactic|(intro aj s σ H Q I h))
set_option hygiene false in
local macro_rules | `(tactic|k_sub)=>`(tactic|(intro aj s σ H D I h))
open Lean in
def toPat:Nat→Term→MacroM (TSyntax `rcasesPat)
 |0,_=>Macro.throwUnsupported
 |n+1,t=>match t with
  |`(_)=>`(rcasesPat|_)
  |`($i:ident)=>`(rcasesPat|$i:ident)
  |`(($a,$b,*))=>do `(rcasesPat|⟨$[$(←(#[a]++b.getElems).mapM (toPat n))],*⟩)
  |`(⟨$b,*⟩)=>do `(rcasesPat|⟨$[$(←b.getElems.mapM (toPat n))],*⟩)
  |_=>Macro.throwUnsupported
local macro_rules | `(($a,$b,$c,*)) => `(⟨$a,$b,$c,*⟩)
local macro_rules | `(tactic|let $p:term:=$e) => do `(tactic|obtain $(←toPat 9 p):rcasesPat:=$e)
namespace L2
open PyProof.Rows
abbrev Key:=Sum Int Str
noncomputable def CP:Key->Value->Bool
 |.inl k,v=>Value.isInt k v
 |.inr x,v=>Value.isStrOf x v
noncomputable def auz (w:World):Key->Int
 |.inl k=>hashInt k
 |.inr x=>hashStr w x
def iJ:∀{k:Key}{v:Value},CP k v=true->(∃i t,k=Sum.inl i/\v=Value.int i t)\/(∃x t,k=Sum.inr x/\v=Value.str x t)
 |.inl i,v,h=>by let(t,e):=Value.isInt_shape (k:=i) (v:=v) h;exact .inl (i,t,rfl,e)
 |.inr x,v,h=>by let(t,e):=Value.isStrOf_shape (x:=x) (v:=v) h;exact .inr (x,t,rfl,e)
def ae3 (i:Int)(t:Tok):CP (.inl i) (.int i t)=true:=by simp[CP,Value.isInt]
def ae4 (x:Str)(t:Tok):CP (.inr x) (.str x t)=true:=by simp[CP,Value.isStrOf]
def am3 (a b:Int):decide ((Sum.inl a:Key)=Sum.inl b)=(a==b):=by lk
def am4 (a b:Str):decide ((Sum.inr a:Key)=Sum.inr b)=decide (a=b):=by simp
def am5 (a:Int)(b:Str):decide ((Sum.inl a:Key)=Sum.inr b)=false:=cE<|λq=>nomatch q
def am6 (a:Str)(b:Int):decide ((Sum.inr a:Key)=Sum.inl b)=false:=cE<|λq=>nomatch q
def iB (prog:Program)(w:World):PySem.KeyKind prog w Key where
 is:=CP
 hash:=auz w
 inj:=λv a b ha hb=>by
  rcases iJ ha with⟨i,t,rfl,rfl⟩|⟨x,t,rfl,rfl⟩
  .rcases iJ hb with⟨j,u,rfl,e⟩|⟨y,u,rfl,e⟩
   .injection e with e1 _;rw[e1]
   .exact nomatch e
  .rcases iJ hb with⟨j,u,rfl,e⟩|⟨y,u,rfl,e⟩
   .exact nomatch e
   .injection e with e1 _;rw[e1]
 byValue:=λk v h=>by rcases iJ h with⟨i,t,rfl,rfl⟩|⟨x,t,rfl,rfl⟩<;>rfl
 pyHash:=λhv h=>by
  rcases iJ hv with⟨i,t,rfl,rfl⟩|⟨x,t,rfl,rfl⟩
  .exact wpAny_pyHash_int h
  .exact wpAny_pyHash_str h
 eqBool:=λhu hv h=>by
  rcases iJ hu with⟨i,t,rfl,rfl⟩|⟨x,t,rfl,rfl⟩
  .rcases iJ hv with⟨j,u,rfl,rfl⟩|⟨y,u,rfl,rfl⟩
   .rw[am3] at h;exact wpAny_eqBool_int h
   .rw[am5] at h;exact SeqAt.EqAt.int_str i t y u _ _ _ _ h
  .rcases iJ hv with⟨j,u,rfl,rfl⟩|⟨y,u,rfl,rfl⟩
   .rw[am6] at h;exact SeqAt.EqAt.str_int x t j u _ _ _ _ h
   .rw[am4] at h;exact wpAny_eqBool_str h
 «strs»:=λk x t v h=>by
  rcases iJ h with⟨i,u,rfl,e⟩|⟨y,u,rfl,e⟩
  .exact nomatch e
  .injection e with e1 _;subst e1;cases v<;>rfl
def ac8 (prog:Program)(w:World)(k:Key)(v:Value):(iB prog w).is k v=CP k v:=rfl
def abd (prog:Program)(w:World)(i:Int)(t:Tok):(iB prog w).is (.inl i) (.int i t)=true:=ae3 i t
def abe (prog:Program)(w:World)(x:Str)(t:Tok):(iB prog w).is (.inr x) (.str x t)=true:=ae4 x t
inductive V where
 |non|bl (b:Bool)|int (i:Int)|str (x:Str)|ref (a:Addr)|ty (n:String)
 deriving DecidableEq
def RelV:V->Value->Prop
 |.non,u=>u=Value.none
 |.bl b,u=>u=Value.bool b
 |.int i,u=>∃t,u=Value.int i t
 |.str x,u=>∃t,u=Value.str x t
 |.ref a,u=>u=Value.ref a
 |.ty n,u=>u=type n
abbrev Vals:List V->List Value->Prop:=Paired RelV
theorem Vals.length {xs:List V}{us:List Value}(r:Vals xs us):xs.length=us.length:=ox r
theorem Vals.get:∀{xs:List V}{us:List Value} {i:Nat} {x:V},Vals xs us->xs[i]? =some x->∃u,us[i]? =some u/\RelV x u
 |_,_,_,_,.nil,e=>by simp at e
 |_,_,0,_,.cons r _,e=>by simp at e;subst e;exact(_,rfl,r)
 |_,_,i+1,x,.cons _ t,e=>by let(u,h1,h2):=Vals.get (i:=i) (x:=x) t (by simpa using e);exact(u,by simpa using h1,h2)
theorem Vals.set (r:RelV x u):∀{xs:List V}{us:List Value} (i:Nat),Vals xs us->Vals (xs.set i x) (us.set i u)
 |_,_,_,.nil=>.nil
 |_,_,0,.cons _ t=>.cons r t
 |_,_,i+1,.cons q t=>.cons q<|Vals.set r i t
def Vals.append (h:Vals xs us)(s:Vals ys ws):Vals (xs++ys) (us++ws):=by
 induction h with
 |nil=>exact s
 |cons r _ ih=>exact .cons r ih
theorem Vals.take (n:Nat)(h:Vals xs us):Vals (xs.take n) (us.take n):=by
 induction h generalizing n with
 |nil=>rw[List.take_nil,List.take_nil];exact .nil
 |cons r _ ih=>
  cases n with
  |zero=>exact .nil
  |succ n=>exact .cons r<|ih n
theorem Vals.drop (n:Nat)(h:Vals xs us):Vals (xs.drop n) (us.drop n):=by
 induction h generalizing n with
 |nil=>rw[List.drop_nil,List.drop_nil];exact .nil
 |cons r t ih=>
  cases n with
  |zero=>exact .cons r t
  |succ n=>exact ih n
def rF:Option V->Option Value->Prop
 |some v,some u=>RelV v u
 |none,none=>True
 |_,_=>False
def KV:List (κ×V)->List (κ×Value)->Prop:=Paired λ(p:κ×V) (q:κ×Value)=>p.1=q.1/\RelV p.2 q.2
noncomputable def kV:Key->V
 |.inl i=>.int i
 |.inr x=>.str x
inductive HO where
 |lst (xs:List V)
 |tup (xs:List V)
 |dK (aO:List (Key×V))
 |ins (C dx:Addr) (fs:List (Str×V))
 |own (x:Addr)
 |jZ (o:Obj) (u:HO)
 |XM (ps:Array Value)
 |ext (φ:Heap->Prop)
abbrev Hp:=Addr->Option HO
noncomputable def upd (H:Hp)(a:Addr)(o:HO):Hp:=λb=>if b=a then some o else H b
def au:upd H a o a=some o:=by unfold upd;rw[ar rfl]
def aJ (h:b≠a):upd H a o b=H b:=by unfold upd;rw[ap h]
def Rt:upd (upd H a o) a u=upd H a u:=by funext b;unfold upd;split<;>rfl
def ay4 {H:Hp}(h:H a=some o)(h':H b=some u)(d:o≠u):a≠b:=by lk
def bF {H:Hp}(h:H a=some o)(h':H b=none):a≠b:=by lk
section
variable (P:Program)(w:World)
def jw (H:Hp)(h:Heap)(a:Addr):HO->Prop
 |.lst xs=>xs.length<=sizeLine/\∃(aW:List Value) (n:Nat),Vals xs aW/\h.get? a=some {cls:=.type "list",data:=.seq aW.toArray n}
 |.tup xs=>xs.length<=sizeLine/\∃aW:List Value,Vals xs aW/\IsTup h a aW.toArray
 |.dK aO=>aO.length<=sizeLine/\(a==sysModules)=false/\∃vs,KV aO vs/\h.DictOf (iB P w) a vs
 |.ins C dx fs=>H dx=some (.own a)/\fs.length<=1000/\dx≠a/\h.get? a=some (instObj C dx)/\
  ∃mA,h.Ns1 dx mA/\(∀f,rF (fs.lookup f) (mA f))/\PySem.Within mA (fs.map (·.1))
 |.own _=>∃o,h.get? a=some o
 |.jZ o u=>h.get? a=some o/\jw H h a u
 |.XM ps=>h.get? a=some {cls:=.none,data:=.fields ps}
 |.ext φ=>φ h/\(∃o,h.get? a=some o)/\∀h1 h2:Heap,φ h1->(∀o,h1.get? a=some o->h2.get? a=some o)->φ h2
def mz (H:Hp)(h:Heap):Prop:=∀a o,H a=some o->jw P w H h a o
end
section
variable {o:HO}
theorem jw.lt (x:jw P w H h a o):a<h.objs.size:=by
 cases o with
 |lst xs=>let(_,_,_,_,e):=x;exact cq e
 |tup xs=>let(_,_,_,p):=x;exact p.lt
 |dK aO=>let(_,_,_,_,o,_,_,e,_):=x;exact cq e
 |ins C dx fs=>let(_,_,_,e,_):=x;exact cq e
 |own y=>let(_,e):=x;exact cq e
 |jZ ob u=>let(e,_):=x;exact cq e
 |XM ps=>exact cq<|show h.get? a=some _ from x
 |ext φ=>let(_,(_,e),_):=x;exact cq e
def Paired.aza (h:Paired F auA auB)(f:∀a b,F a b->G a b):Paired G auA auB:=by
 induction h with
 |nil=>exact .nil
 |cons r _ ih=>exact .cons (f _ _ r) ih
def jw.stay (x:jw P w H h a o)(k:∀b u,(b=a\/H b=some (.own a))->h.get? b=some u->h'.get? b=some u)
  (ho:∀b,H b=some (.own a)->H' b=some (.own a))(ht:∀b xs,H b=some (.tup xs)->H' b=some (.tup xs)):jw P w H' h' a o:=by
 induction o with
 |lst xs=>let(z,aW,n,r,e):=x;exact⟨z,aW,n,r,k _ _ (.inl rfl) e⟩
 |tup xs=>let(z,aW,r,ob,e,c):=x;exact⟨z,aW,r,ob,k _ _ (.inl rfl) e,c⟩
 |dK aO=>let(z,y,vs,r,ob,es,ep,e,c):=x;exact⟨z,y,vs,r,ob,es,ep,k _ _ (.inl rfl) e,c⟩
 |ins C dx fs=>let(d,z,ne,e,mA,(od,es,ep,e2,c),r):=x;exact⟨ho _ d,z,ne,k _ _ (.inl rfl) e,mA,⟨od,es,ep,k _ _ (.inr d) e2,c⟩,r⟩
 |own y=>let(ob,e):=x;exact⟨ob,k _ _ (.inl rfl) e⟩
 |jZ ob u ih=>let(e,q):=x;exact⟨k _ _ (.inl rfl) e,ih q⟩
 |XM ps=>have e:h.get? a=some {cls:=.none,data:=.fields ps}:=x;show h'.get? a=some {cls:=.none,data:=.fields ps};exact k a _ (.inl rfl) e
 |ext φ=>let(p,(o,e),st):=x;exact⟨st _ _ p λo q=>k _ _ (.inl rfl) q,⟨o,k _ _ (.inl rfl) e⟩,st⟩
theorem mz.lt (x:mz P w H h)(e:H a=some o):a<h.objs.size:=(x a o e).lt
def mz.fresh (x:mz P w H h)(e:h.objs.size<=a):H a=none:=by
 cases q:H a with
 |none=>rfl
 |some u=>exact absurd (b8 (x.lt q) e)<|ik _
def mz.kept (x:mz P w H h)(k:∀b u,h.get? b=some u->h'.get? b=some u):mz P w H h':=λa o e=>
 (x a o e).stay (λb u _ q=>k b u q) (λ_ q=>q) λ_ _ q=>q
def mz.laid (x:mz P w H h)(k:∀b u,h.get? b=some u->h'.get? b=some u)(hp:h.objs.size<=a)(new:jw P w (upd H a o) h' a o):mz P w (upd H a o) h':=λb u e=>by
 have hn:=x.fresh hp;by_cases hb:b=a
 .subst hb;rw[au] at e;cases e;exact new
 .rw[aJ hb] at e;exact(x b u e).stay (λc v _ q=>k c v q) (λc q=>by rw[aJ<|bF q hn];exact q) λc xs q=>by rw[aJ<|bF q hn];exact q
end
def Rd (H:Hp)(a:Addr)(u:HO):Prop:=H a=some u\/∃o,H a=some (.jZ o u)
def Rd.ok {P:Program}{w:World}{H:Hp}{h:Heap}{a:Addr}{u:HO}(r:Rd H a u)(x:mz P w H h):jw P w H h a u:=by
 rcases r with r|⟨o,r⟩
 .exact x a u r
 .let(_,q):=x a _ r;exact q
def Mut:Option HO->Prop
 |some (.lst _)=>True
 |some (.dK _)=>True
 |some (.ins _ _ _)=>True
 |some (.ext _)=>True
 |_=>False
section
variable {o':HO}
def mz.write (ok:mz P w H h)(mu:Mut (H x))(he:e=x\/H e=some (.own x))(k:∀b u,b≠e->h.get? b=some u->h'.get? b=some u)(heo:∃u,h'.get? e=some u)
  (new:jw P w (upd H x o') h' x o'):mz P w (upd H x o') h':=λb u q=>by
 have auC:∀c y,H c=some (.own y)->c≠x:=λc y r z=>by subst z;rw[r] at mu;exact mu
 have Lj:∀c xs,H c=some (.tup xs)->c≠x:=λc xs r z=>by subst z;rw[r] at mu;exact mu
 by_cases hb:b=x
 .subst hb;rw[au] at q;cases q;exact new
 .rw[aJ hb] at q;by_cases hbe:b=e
  .have q':H b=some (.own x):=by lk
   rw[q] at q';cases q';let(v,hv):=heo;exact⟨v,by rw[hbe];exact hv⟩
  .refine(ok b u q).stay (λc v hc r=>k c v ?_ r) (λc r=>by rw[aJ<|auC c b r];exact r) λc xs r=>by rw[aJ<|Lj c xs r];exact r
   grind
end
structure Un (fs ex:List Addr)(H H':Hp)(h h':Heap):Prop where
 keep:∀b o,h.get? b=some o->H b=none->b∉fs->b∉ex->h'.get? b=some o
 slot:∀b o,h.get? b=some o->H b=none->b∈fs->b∉ex->∃sl,h'.get? b=some {o with slots:=sl}
 free:∀b o,h.get? b=some o->H b=none->b∉ex->H' b=none
 there:∀b o,h.get? b=some o->b∉ex->∃o',h'.get? b=some o'
 tups:∀b xs,H b=some (.tup xs)->H' b=some (.tup xs)
 vO:∀b o u,H b=some (.jZ o u)->H' b=some (.jZ o u)
 xO:∀b ps,H b=some (.XM ps)->∃more,H' b=some (.XM<|ps++more)
section
variable {o:HO}
def Un.any (u:Un fs ex H H1 h h1)(q:h.get? b=some ob)(n:H b=none)(hx:b∉ex):∃sl,h1.get? b=some {ob with slots:=sl}:=by
 by_cases hb:b∈fs
 .exact u.slot b ob q n hb hx
 .exact⟨ob.slots,u.keep b ob q n hb hx⟩
def Un.trans (a:Un fs ex H H1 h h1)(b:Un fs ex H1 H2 h1 h2):Un fs ex H H2 h h2 where
 keep:=λc ob q n hc hx=>b.keep c ob (a.keep c ob q n hc hx) (a.free c ob q n hx) hc hx
 slot:=λc ob q n hc hx=>by let(sl,e1):=a.slot c ob q n hc hx;let(sl',e2):=b.slot c _ e1 (a.free c ob q n hx) hc hx;exact⟨sl',e2⟩
 free:=λc ob q n hx=>by let(o',e1):=a.there c ob q hx;exact b.free c o' e1 (a.free c ob q n hx) hx
 there:=λc ob q hx=>by let(o',e1):=a.there c ob q hx;exact b.there c o' e1 hx
 tups:=λc xs q=>b.tups c xs<|a.tups c xs q
 vO:=λc ob xs q=>b.vO c ob xs<|a.vO c ob xs q
 xO:=λc ps q=>by let(m1,e1):=a.xO c ps q;let(m2,e2):=b.xO c _ e1;exact⟨m1++m2,by rw[e2,oP]⟩
def Un.kept (k:∀b u,h.get? b=some u->h'.get? b=some u):Un fs ex H H h h':=
 ⟨λb ob q _ _ _=>k b ob q,λb ob q _ _ _=>⟨ob.slots,k b ob q⟩,λ_ _ _ n _=>n,λb ob q _=>⟨ob,k b ob q⟩,λ_ _ q=>q,λ_ _ _ q=>q,λ_ ps q=>⟨#[],by rw[q];simp⟩⟩
def Un.refl:Un fs ex H H h h:=Un.kept λ_ _ q=>q
def Un.laid (k:∀b u,h.get? b=some u->h'.get? b=some u)(hp:h.objs.size<=a)(hn:H a=none):Un fs ex H (upd H a o) h h' where
 keep:=λb u q _ _ _=>k b u q
 slot:=λb u q _ _ _=>⟨u.slots,k b u q⟩
 free:=λb u q n _=>by rw[aJ<|dq<|b8 (cq q) hp];exact n
 there:=λb u q _=>⟨u,k b u q⟩
 tups:=λb xs q=>by rw[aJ<|bF q hn];exact q
 vO:=λb u xs q=>by rw[aJ<|bF q hn];exact q
 xO:=λb ps q=>⟨#[],by rw[aJ<|bF q hn,q];simp⟩
def Un.write (mu:Mut (H x))(he:e=x\/H e=some (.own x))(k:∀b u,b≠e->h.get? b=some u->h'.get? b=some u)(heo:∃u,h'.get? e=some u):Un fs ex H (upd H x o) h h':=by
 have hx:∀b,H b=none->b≠x:=λb n z=>by subst z;rw[n] at mu;exact mu
 have hb:∀b,H b=none->b≠e:=λb n z=>by lk
 have hm:∀b u,H b=some u->¬Mut (some u)->b≠x:=λb u q nm z=>by subst z;rw[q] at mu;exact nm mu
 refine⟨λb u q n _ _=>k b u (hb b n) q,λb u q n _ _=>⟨u.slots,k b u (hb b n) q⟩,λb u q n _=>by rw[aJ (hx b n)];exact n,λb u q _=>?_,
  λb xs q=>by rw[aJ (hm b _ q λz=>z)];exact q,λb u xs q=>by rw[aJ (hm b _ q λz=>z)];exact q,λb ps q=>⟨#[],by rw[aJ (hm b _ q λz=>z),q];simp⟩⟩
 grind
end
noncomputable def trk (h:Heap)(H:Hp):List Addr:=(List.range h.objs.size).filter λa=>(H a).isSome
def CQ (h:Heap)(H:Hp):Heap:=PySem.W.hideAll h<|trk h H
def ae7 (h:Heap)(H:Hp):(CQ h H).objs.size=h.objs.size:=PySem.W.hideAll_size _ _
def ahP (e:h.get? b=some o)(n:H b=none):(CQ h H).get? b=some o:=
 PySem.W.hideAll_get _ e λhm=>by have q:(H b).isSome=true:=(du.mp hm).2;grind
def alR (e:(CQ h H).get? b=some o):h.get? b=some o/\H b=none:=by
 have e':h.get? b=some o:=PySem.W.of_hideAll (trk h H) e;refine⟨e',?_⟩;cases q:H b with
 |none=>rfl
 |some x=>have hm:b∈trk h H:=du.mpr ⟨ja.mpr<|cq e',by simp[q]⟩;have z:(CQ h H).get? b=none:=PySem.W.hideAll_none (trk h H) hm;lk
structure Mod (K:Frag)(mg:Str->Option Value)(base:Heap):Prop where
 kin:K.In base
 glob:base.Ns mainGlobals mg
 blt:∃mb,base.Ns builtinsNs mb/\∀x:Str,x≠"__name__"->mb x=bootBuiltins x
 nolimit:base.NoLimit
structure Cx where
 prog:Program
 w:World
 K:Frag
 mg:Str->Option Value
 base:Heap
 A:Around
 N:List Str
 s₀:Shared
 ao:Hp
 env:Env
 outer:List Env
 stack:List Env
 ex:List Addr
 fn:Str->Bool
 calm:Bool
 pn:List (Addr×Obj)
 xe:Value->Shared->Prop
noncomputable def frs (l:List Env):List Addr:=l.filterMap (·.frame)
noncomputable abbrev Cx.fs (X:Cx):List Addr:=frs X.outer
def Vis (sc:Scope)(x:Str):Prop:=sc.names.lookup x=some .local\/sc.names.lookup x=some .cell\/sc.names.lookup x=some .free
def Loc (sc:Scope)(x:Str):Prop:=sc.names.lookup x=some .local\/sc.names.lookup x=some .cell
def Look (env:Env)(h:Heap)(m:Str->Option Value)(x:Str)(u:Value):Prop:=
 (env.kindOf x=some .local/\m x=some u)\/((env.kindOf x=some .cell\/env.kindOf x=some .free)/\∃c,env.cells.lookup x=some c/\h.IsCell c (some u))
structure Cx.Ok (X:Cx):Prop where
 mod:Mod X.K X.mg X.base
 kind:X.env.scope.kind=.function
 glob:X.env.globals=mainGlobals
 blt:X.env.builtins=builtinsNs
 above:X.s₀.heap.objs.size<=X.env.locals
 inj:∀x y c,X.env.cells.lookup x=some c->X.env.cells.lookup y=some c->x=y
 has:∀x,(X.env.kindOf x=some .cell\/X.env.kindOf x=some .free)->∃c,X.env.cells.lookup x=some c
 cab:∀x c,X.fn x=true->X.env.cells.lookup x=some c->X.s₀.heap.objs.size<=c
 hd:X.calm=true->X.A.handled=none
 frames:X.A.frames=some X.stack
 stk:X.stack=X.outer\/(X.stack=X.env::X.outer/\X.env.frame=some X.env.locals)
 exf:∀b∈X.ex,b≠X.env.locals/\∀x c,X.env.cells.lookup x=some c->c≠b
 bs:∀b o,X.base.get? b=some o->X.s₀.heap.get? b=some o/\X.ao b=none
 Ka:X.base.objs.size<=X.s₀.heap.objs.size
 XQ:∀b o,X.base.get? b=some o->b∉X.ex
 ac9:∀b∈X.ex,b∉X.fs
 vP:X.s₀.heap.FunFrames X.base X.outer
 XR:∀b∈X.fs,X.ao b=none
structure Inv (X:Cx)(aj:List (Addr×Obj))(σ:List (Option V))(H:Hp)(s:Shared):Prop where
 ok:X.Ok
 os:s.os=X.s₀.os
 bare:AllBare s.gens
 base:Un X.fs X.ex X.ao H X.s₀.heap s.heap
 loc:∃m,s.heap.Ns X.env.locals m/\∀(i:Nat) (x:Str) (v:V),X.N[i]? =some x->σ[i]? =some (some v)->Vis X.env.scope x->∃u,RelV v u/\Look X.env s.heap m x u
 cell:∀x c,X.env.cells.lookup x=some c->∃v,s.heap.IsCell c v
 free:H X.env.locals=none
 rG:∀x c,X.env.cells.lookup x=some c->H c=none
 pin:∀p∈X.pn++aj,s.heap.get? p.1=some p.2/\H p.1=none/\p.1≠X.env.locals/\p.1∉X.fs/\∀v,p.2.data≠ .cell v
 hok:mz X.prog X.w H s.heap
 len:σ.length=X.N.length
section
variable {X:Cx}
def Cx.Ok.auD (ok:X.Ok)(e:X.base.get? b=some o):b∉X.fs:=λhb=>by have:=(ok.vP.mem hb).1;lk
theorem Inv.bs (I:Inv X aj σ H s):∀b o,X.base.get? b=some o->s.heap.get? b=some o/\H b=none:=λb o e=>
 ⟨I.base.keep b o (I.ok.bs b o e).1 (I.ok.bs b o e).2 (I.ok.auD e)<|I.ok.XQ b o e,I.base.free b o (I.ok.bs b o e).1 (I.ok.bs b o e).2<|I.ok.XQ b o e⟩
def Inv.bk (I:Inv X aj σ H s):∀b o,X.base.get? b=some o->s.heap.get? b=some o:=λb o e=>(I.bs b o e).1
theorem Inv.mod (I:Inv X aj σ H s):Mod X.K X.mg X.base:=I.ok.mod
def Inv.qP (I:Inv X aj σ H s):X.K.In s.heap:=I.ok.mod.kin.keeps I.bk
def Inv.fr (I:Inv X aj σ H s):∃m,Fr X.base X.env.locals s.heap m:=
 let⟨m,hn,_⟩:=I.loc
 (m,hn,I.bk,dL I.ok.Ka I.ok.above)
theorem Inv.lt (I:Inv X aj σ H s):X.env.locals<s.heap.objs.size:=let⟨_,hn,_⟩:=I.loc;hn.lt
def Inv.sz (I:Inv X aj σ H s):X.s₀.heap.objs.size<=s.heap.objs.size:=dL I.ok.above<|kQ I.lt
def Inv.auE (I:Inv X aj σ H s)(h:s.heap.objs.size<=a):a∉X.fs:=λhb=>by let(_,o,ho,_):=I.ok.vP.mem hb;exact absurd (b8 (cq ho)<|dL I.sz h)<|ik _
def Inv.XS (I:Inv X aj σ H s):∀x c,X.env.cells.lookup x=some c->c≠X.env.locals:=λx c e z=>by let(v,o,ho,hd):=I.cell x c e;let(m,(o',es,ep,yW,Bb,_),_):=I.loc;lk
theorem Inv.vP (I:Inv X aj σ H s):s.heap.FunFrames X.base X.outer:=by
 have all:∀(l:List Env),(∀b∈frs l,b∈X.fs)->X.s₀.heap.FunFrames X.base l->s.heap.FunFrames X.base l:=by
  intro l;induction l with
  |nil=>intro _ _;trivial
  |cons env r ih=>intro hs hl;let(hk,(L,o,hf,hn,ho,hd),hr):=hl;have hL:L∈X.fs:=hs L (by unfold frs;rw[kb,hf];exact ae);let(sl,e):=I.base.slot L o ho (I.ok.XR L hL) hL λz=>I.ok.ac9 L z hL;exact(hk,(L,_,hf,hn,e,hd),ih (λb hb=>hs b (by unfold frs;rw[kb,hf];exact aa _ hb)) hr)
 exact all X.outer (λ_ hb=>hb) I.ok.vP
theorem Inv.stack (I:Inv X aj σ H s):s.heap.FunFrames X.base X.stack:=by
 rcases I.ok.stk with e|⟨e,hf⟩
 .rw[e];exact I.vP
 .rw[e];let(m,hn,_):=I.loc;refine .cons (by rw[I.ok.kind];decide) hf hn ?_ I.vP;exact Heap.get?_none_of_le<|dL I.ok.Ka I.ok.above
def Inv.Ny (I:Inv X aj σ H s):∀b∈frs X.stack,b∈X.env.locals::X.fs:=λb hb=>by
 rcases I.ok.stk with e|⟨e,hf⟩
 .grind
 .rw[e] at hb;unfold frs at hb;rw[kb,hf] at hb;exact hb
def Inv.aby (I:Inv X aj σ H s):∀b∈frs X.stack,H b=none:=λb hb=>by
 rcases aI.mp (I.Ny b hb) with e|hb
 .rw[e];exact I.free
 .let(_,o,ho,_):=I.ok.vP.mem hb;exact I.base.free b o ho (I.ok.XR b hb) λz=>I.ok.ac9 b z hb
def Inv.step {ch:List Addr}(I:Inv X aj σ H s)
  (Kc:∀b∈ch,(b∈X.ex\/X.s₀.heap.objs.size<=b)/\b≠X.env.locals/\(∀x c,X.env.cells.lookup x=some c->c≠b)/\∀p∈X.pn++aj,p.1≠b)
  (keep:∀b o,b≠X.env.locals->b∉X.fs->b∉ch->s.heap.get? b=some o->H b=none->h'.get? b=some o)
  (slot:∀b o,b≠X.env.locals->b∈X.fs->b∉ch->s.heap.get? b=some o->H b=none->∃sl,h'.get? b=some {o with slots:=sl})(free:∀b o,b∉ch->s.heap.get? b=some o->H b=none->H' b=none)
  (there:∀b o,b∉ch->s.heap.get? b=some o->∃o',h'.get? b=some o')
  (tups:∀b xs,H b=some (.tup xs)->H' b=some (.tup xs))(vO:∀b o u,H b=some (.jZ o u)->H' b=some (.jZ o u))(xO:∀b ps,H b=some (.XM ps)->∃more,H' b=some (.XM<|ps++more))
  (ns:∀m,s.heap.Ns X.env.locals m->h'.Ns X.env.locals m)(hok:mz X.prog X.w H' h')(hg:AllBare g'):
  Inv X aj σ H' {s with heap:=h',gens:=g',drawn:=d',toks:=t'}:=by
 have neL:∀b o,X.s₀.heap.get? b=some o->b≠X.env.locals:=λb o e=>dq<|b8 (cq e) I.ok.above;have neC:∀b o,X.s₀.heap.get? b=some o->b∉X.ex->b∉ch:=λb o e hx hb=>by
  rcases(Kc b hb).1 with z|z
  .exact hx z
  .exact absurd (b8 (cq e) z)<|ik _
 have aki:∀x c,X.env.cells.lookup x=some c->∀v,s.heap.IsCell c v->h'.IsCell c v:=λx c e v ⟨o,ho,hd⟩=>by
  have nch:c∉ch:=λz=>(Kc c z).2.2.1 x c e rfl;by_cases hc:c∈X.fs
  .let(sl,q):=slot c o (I.XS x c e) hc nch ho<|I.rG x c e;exact⟨_,q,hd⟩
  .exact⟨o,keep c o (I.XS x c e) hc nch ho<|I.rG x c e,hd⟩
 refine⟨I.ok,I.os,hg,⟨λb o e n hb hx=>?_,λb o e n hb hx=>?_,λb o e n hx=>?_,λb o e hx=>?_,λb xs e=>tups b xs<|I.base.tups b xs e,λb o xs e=>vO b o xs<|I.base.vO b o xs e,λb ps e=>?_⟩,?_,λx c e=>?_,?_,λx c e=>?_,λp hp=>?_,hok,I.len⟩
 .exact keep b o (neL b o e) hb (neC b o e hx) (I.base.keep b o e n hb hx)<|I.base.free b o e n hx
 .let(sl,e1):=I.base.slot b o e n hb hx;let(sl',e2):=slot b _ (neL b o e) hb (neC b o e hx) e1<|I.base.free b o e n hx;exact⟨sl',e2⟩
 .let(o',e1):=I.base.there b o e hx;exact free b o' (neC b o e hx) e1<|I.base.free b o e n hx
 .let(o',e1):=I.base.there b o e hx;exact there b o' (neC b o e hx) e1
 .let(m1,e1):=I.base.xO b ps e;let(m2,e2):=xO b _ e1;exact⟨m1++m2,by rw[e2,oP]⟩
 .let(m,hn,hl):=I.loc;refine⟨m,ns m hn,λi x v e1 e2 e3=>?_⟩;let(u,r,l):=hl i x v e1 e2 e3;refine⟨u,r,?_⟩;rcases l with l|⟨k,c,e,z⟩
  .exact .inl l
  .exact .inr ⟨k,c,e,aki x c e _ z⟩
 .let(v,z):=I.cell x c e;exact⟨v,aki x c e v z⟩
 .let(m,(o,_,_,ho,_),_):=I.loc;exact free _ o (λz=>(Kc _ z).2.1 rfl) ho I.free
 .let(v,o,ho,hd):=I.cell x c e;exact free c o (λz=>(Kc c z).2.2.1 x c e rfl) ho<|I.rG x c e
 .let(e,n,ne,nf,d):=I.pin p hp;have nch:p.1∉ch:=λz=>(Kc p.1 z).2.2.2 p hp rfl;exact⟨keep p.1 p.2 ne nf nch e n,free p.1 p.2 nch e n,ne,nf,d⟩
def Inv.un {t':Nat}(I:Inv X aj σ H s)(u:Un X.fs [] H H' s.heap h')(hok:mz X.prog X.w H' h'):Inv X aj σ H' {s with heap:=h',toks:=t'}:=by
 let(m,(o,es,ep,ho,r),_):=id I.loc;let(sl,hL):=u.any ho I.free (by simp);exact I.step (g':=s.gens) (d':=s.drawn) (ch:=[]) (λ_ z=>nomatch z) (λb o _ hb _ e n=>u.keep b o e n hb (by simp)) (λb o _ hb _ e n=>u.slot b o e n hb (by simp)) (λb o _ e n=>u.free b o e n (by simp)) (λb o _ e=>u.there b o e (by simp)) u.tups u.vO u.xO (λm' hm=>by
  let(o',es',ep',yW,r'):=hm;rw[ho] at yW;cases yW;exact(_,es',ep',hL,r')) hok I.bare
def Inv.call {g':Array GenState}{t':Nat}{d':Drawn}{ch:List Addr}(I:Inv X aj σ H s)(u:Un (frs X.stack) ch H H' s.heap h')(hok:mz X.prog X.w H' h')(hg:AllBare g')
  (Kc:∀b∈ch,(b∈X.ex\/X.s₀.heap.objs.size<=b)/\b≠X.env.locals/\(∀x c,X.env.cells.lookup x=some c->c≠b)/\∀p∈X.pn++aj,p.1≠b):
  Inv X aj σ H' {s with heap:=h',gens:=g',drawn:=d',toks:=t'}:=by
 let(m,(o,es,ep,ho,r),_):=id I.loc;let(sl,hL):=u.any ho I.free λz=>(Kc _ z).2.1 rfl;exact I.step (ch:=ch) Kc (λb o hL hb hc e n=>u.keep b o e n (λz=>(aI.mp (I.Ny b z)).elim hL hb) hc) (λb o _ _ hc e n=>u.any e n hc) (λb o hc e n=>u.free b o e n hc) (λb o hc e=>u.there b o e hc) u.tups u.vO u.xO (λm' hm=>by
  let(o',es',ep',yW,r'):=hm;rw[ho] at yW;cases yW;exact(_,es',ep',hL,r')) hok hg
def Inv.turned {it:Addr}(I:Inv X aj σ H s)(k:∀b o,b≠it->s.heap.get? b=some o->h'.get? b=some o)(hn:H it=none)(hL:it≠X.env.locals)
  (h1:it∈X.ex\/X.s₀.heap.objs.size<=it)(h2:∀x c,X.env.cells.lookup x=some c->c≠it)(h3:∀p∈X.pn++aj,p.1≠it):Inv X aj σ H {s with heap:=h',toks:=t'}:=by
 have nit:∀b u,H b=some u->b≠it:=λb u e z=>by rw[z,hn] at e;cases e
 refine I.step (g':=s.gens) (d':=s.drawn) (ch:=[it]) (λb hb=>?_) (λb o _ _ hc e _=>k b o (λz=>hc<|by simp[z]) e) (λb o _ _ hc e _=>⟨o.slots,k b o (λz=>hc<|by simp[z]) e⟩) (λ_ _ _ _ n=>n)
  (λb o hc e=>⟨o,k b o (λz=>hc<|by simp[z]) e⟩) (λ_ _ e=>e) (λ_ _ _ e=>e) (λb ps e=>⟨#[],by rw[e];simp⟩) (λm hm=>?_) (λb u e=>?_) I.bare
 .have e:b=it:=by simpa using hb
  subst e;exact⟨h1,hL,h2,h3⟩
 .let(o,es,ep,ho,r):=hm;exact⟨o,es,ep,k _ o (cp hL) ho,r⟩
 .refine(I.hok b u e).stay (λc v hc q=>k c v ?_ q) (λ_ q=>q) λ_ _ q=>q;rcases hc with z|z
  .rw[z];exact nit b u e
  .exact nit c _ z
def Inv.tok (I:Inv X aj σ H s)(t:Nat):Inv X aj σ H {s with toks:=t}:=I.un (h':=s.heap) (t':=t) Un.refl I.hok
theorem Inv.kept {t':Nat}(I:Inv X aj σ H s)(k:∀b u,s.heap.get? b=some u->h'.get? b=some u):Inv X aj σ H {s with heap:=h',toks:=t'}:=I.un (Un.kept k)<|I.hok.kept k
theorem Inv.laid (I:Inv X aj σ H s)(k:∀b u,s.heap.get? b=some u->h'.get? b=some u)(hp:s.heap.objs.size<=a)(new:jw X.prog X.w (upd H a o) h' a o):
  Inv X aj σ (upd H a o) {s with heap:=h',toks:=t'}:=I.un (Un.laid k hp<|I.hok.fresh hp)<|I.hok.laid k hp new
theorem Inv.write (I:Inv X aj σ H s)(mu:Mut (H x))(he:e=x\/H e=some (.own x))(k:∀b u,b≠e->s.heap.get? b=some u->h'.get? b=some u)(heo:∃u,h'.get? e=some u)
  (new:jw X.prog X.w (upd H x o) h' x o):Inv X aj σ (upd H x o) {s with heap:=h',toks:=t'}:=I.un (Un.write mu he k heo)<|I.hok.write mu he k heo new
def Inv.weak (I:Inv X aj σ H s)(hl:aX.length=σ.length)(w:∀(i:Nat) v,aX[i]? =some (some v)->σ[i]? =some (some v)):Inv X aj aX H s:=
 (I.ok,I.os,I.bare,I.base,let⟨m,hn,tK⟩:=I.loc;(m,hn,λi x v e1 e2 e3=>tK i x v e1 (w i v e2) e3),I.cell,I.free,I.rG,I.pin,I.hok,hl.trans I.len)
def Inv.abz (I:Inv X aj σ H s)(h:∀p∈aqZ,s.heap.get? p.1=some p.2/\H p.1=none/\p.1≠X.env.locals/\p.1∉X.fs/\∀v,p.2.data≠ .cell v):Inv X aqZ σ H s:=
 (I.ok,I.os,I.bare,I.base,I.loc,I.cell,I.free,I.rG,λp hp=>(bc.mp hp).elim (λz=>I.pin p<|dA _ z)<|h p,I.hok,I.len)
def X3 {N:List Str}(hN:N.Nodup){i j:Nat}(a:N[i]? =some x)(b:N[j]? =some x):i=j:=by let(h1,e1):=ab.mp a;let(h2,e2):=ab.mp b;exact(hX hN).mp<|e1.trans e2.symm
def TF {M:Model}(I:Inv X aj σ H s)(hN:X.N.Nodup)(hi:X.N[i]? =some x)(hx:Loc X.env.scope x)(r:RelV v u)
  (h:∀s',Inv X aj (σ.set i<|some v) H s'->(∃a,Heap.SameBut a s.heap s'.heap/\(a=X.env.locals\/X.env.cells.lookup x=some a))->Q () s')(hf:X.fn x=true\/X.env.scope.names.lookup x=some .local:=by first|exact .inl rfl|exact .inr rfl|assumption):wpAny M A (storeName X.env x u) Q E s:=by
 let(m,hn,hl):=id I.loc;have auF:(X.env.scope.kind==.class||(X.env.scope.kind==.module && X.env.locals !=X.env.globals))=false:=by rw[I.ok.kind];rfl
 have ana:i<σ.length:=by rw[I.len];exact(ab.mp hi).1
 have XS:=I.XS;have abA:∀{a:Addr}{h':Heap},(∃o,s.heap.get? a=some o/\H a=none)->Heap.SameBut a s.heap h'->mz X.prog X.w H h':=λ{a h'} ha hs b ob e=>by let(_,_,hfree):=ha;refine(I.hok b ob e).stay (λc w' hc q=>(hs.2 c ?_).trans q) (λ_ q=>q) λ_ _ q=>q;lk
 rcases hx with hk|hk
 .refine wpAny_storeName_local hk hn (λh' hn' hs=>?_) auF;let(oL,_,_,hoL,_):=id hn;refine h _ ⟨I.ok,I.os,I.bare,⟨λb o e n hb hx=>?_,λb o e n hb hx=>?_,I.base.free,λb o e hx=>?_,I.base.tups,I.base.vO,I.base.xO⟩,⟨_,hn',λj y v' e1 e2 e3=>?_⟩,λy c e=>?_,I.free,I.rG,λp hp=>?_,abA ⟨oL,hoL,I.free⟩ hs,by simpa using I.len⟩ ⟨_,hs,.inl rfl⟩
  .exact(hs.2 b<|dq<|b8 (cq e) I.ok.above).trans<|I.base.keep b o e n hb hx
  .let(sl,e1):=I.base.slot b o e n hb hx;exact⟨sl,(hs.2 b<|dq<|b8 (cq e) I.ok.above).trans e1⟩
  .let(o',e1):=I.base.there b o e hx;exact⟨o',(hs.2 b<|dq<|b8 (cq e) I.ok.above).trans e1⟩
  .by_cases hj:j=i
   .subst hj;rw[hi] at e1;cases e1;rw[bq ana] at e2;cases e2;exact⟨u,r,.inl ⟨hk,by simp⟩⟩
   .rw[bv<|cp hj] at e2;let(u',r',q):=hl j y v' e1 e2 e3;refine⟨u',r',?_⟩;rcases q with⟨k,e⟩|⟨k,c,e,z⟩
    .refine .inl ⟨k,?_⟩
     have:y≠x:=λe=>hj<|X3 hN e1<|e▸hi
     lk
    .exact .inr ⟨k,c,e,z.sameBut hs<|XS y c e⟩
  .let(w',z):=I.cell y c e;exact⟨w',z.sameBut hs<|XS y c e⟩
  .let(e,n,ne,nf,d):=I.pin p hp;exact⟨(hs.2 p.1 ne).trans e,n,ne,nf,d⟩
 .have hfn:X.fn x=true:=by lk
  let(c,hc):=I.ok.has x<|.inl hk;let(w',z):=I.cell x c hc;refine wpAny_storeName_cell I.ok.kind hk hc z<|λh' yX hs=>?_;let(oc,hoc,auG):=id z;refine h {s with heap:=h'} ⟨I.ok,I.os,I.bare,⟨λb o e n hb hx=>?_,λb o e n hb hx=>?_,I.base.free,λb o e hx=>?_,I.base.tups,I.base.vO,I.base.xO⟩,⟨m,hn.sameBut hs<|cp (XS x c hc),λj y v' e1 e2 e3=>?_⟩,λy c' e=>?_,I.free,I.rG,λp hp=>?_,abA ⟨oc,hoc,I.rG x c hc⟩ hs,by simpa using I.len⟩ ⟨c,hs,.inr hc⟩
  .exact(hs.2 b<|dq<|b8 (cq e)<|I.ok.cab x c hfn hc).trans<|I.base.keep b o e n hb hx
  .let(sl,e1):=I.base.slot b o e n hb hx;exact⟨sl,(hs.2 b<|dq<|b8 (cq e)<|I.ok.cab x c hfn hc).trans e1⟩
  .let(o',e1):=I.base.there b o e hx;exact⟨o',(hs.2 b<|dq<|b8 (cq e)<|I.ok.cab x c hfn hc).trans e1⟩
  .by_cases hj:j=i
   .subst hj;rw[hi] at e1;cases e1;rw[bq ana] at e2;cases e2;exact⟨u,r,.inr ⟨.inl hk,c,hc,yX⟩⟩
   .rw[bv<|cp hj] at e2;let(u',r',q):=hl j y v' e1 e2 e3;refine⟨u',r',?_⟩;rcases q with q|⟨k,c',e,z'⟩
    .exact .inl q
    .refine .inr ⟨k,c',e,z'.sameBut hs ?_⟩;rintro rfl;exact hj<|X3 hN e1<|I.ok.inj _ _ _ e hc▸hi
  .by_cases hcc:c'=c
   .subst hcc;exact⟨_,yX⟩
   .let(w2,z2):=I.cell y c' e;exact⟨w2,z2.sameBut hs hcc⟩
  .let(e,n,ne,nf,d):=I.pin p hp;refine⟨(hs.2 p.1 ?_).trans e,n,ne,nf,d⟩;intro q;rw[q,hoc] at e;have q':oc=p.2:=be e;exact d w' (by rw[<-q'];exact auG)
def Lk (I:Inv X aj σ H s)(hN:X.N.Nodup)(hi:X.N[i]? =some x)(hx:Loc X.env.scope x)(r:RelV v u)
  (h:∀s',Inv X aj (σ.set i<|some v) H s'->Q () s')(hf:X.fn x=true\/X.env.scope.names.lookup x=some .local:=by first|exact .inl rfl|exact .inr rfl|assumption):wpAny M A (storeName X.env x u) Q E s:=
 TF I hN hi hx r (λs' I' _=>h s' I') hf
def Inv.call' (I:Inv X aj σ H s)(ho:s'.os=s.os)(u:Un (frs X.stack) ch H H' s.heap s'.heap)(hok:mz X.prog X.w H' s'.heap)(hg:AllBare s'.gens)
  (Kc:∀b∈ch,(b∈X.ex\/X.s₀.heap.objs.size<=b)/\b≠X.env.locals/\(∀x c,X.env.cells.lookup x=some c->c≠b)/\∀p∈X.pn++aj,p.1≠b):Inv X aj σ H' s':=by
 let(h',g',d',t',o'):=s';have e:o'=s.os:=ho;subst e;exact I.call (g':=g') (t':=t') (d':=d') u hok hg Kc
end
abbrev XK:=Value->Option Addr->Hp->Prop
abbrev St:=List<|Option V
abbrev VK:=V->Hp->Prop
abbrev TE:=St->Hp->VK->Prop
abbrev TT:=St->Hp->(Bool->Hp->Prop)->Prop
abbrev TA:=St->Hp->(List V->Hp->Prop)->Prop
structure Ends where
 nx:St->Hp->Prop
 rt:VK
 bk:St->Hp->Prop:=λ_ _=>False
 ct:St->Hp->Prop:=λ_ _=>False
abbrev TS:=Ends->St->Hp->Prop
def EP (X:Cx)(aj:List (Addr×Obj))(σ:St)(Q:VK)(u:Value)(s':Shared):Prop:=∃v H',Inv X aj σ H' s'/\RelV v u/\Q v H'
def TP (X:Cx)(aj:List (Addr×Obj))(σ:St)(Q:Bool->Hp->Prop)(b:Bool)(s':Shared):Prop:=∃H',Inv X aj σ H' s'/\Q b H'
def AP (X:Cx)(aj:List (Addr×Obj))(σ:St)(Q:List V->Hp->Prop)(us:List Value)(s':Shared):Prop:=∃vs H',Inv X aj σ H' s'/\Vals vs us/\Q vs H'
def SP (X:Cx)(aj:List (Addr×Obj))(D:Ends)(f:Flow)(s':Shared):Prop:=
 match f with
 |.next=>∃aX H',Inv X aj aX H' s'/\D.nx aX H'
 |.brk=>∃aX H',Inv X aj aX H' s'/\D.bk aX H'
 |.cont=>∃aX H',Inv X aj aX H' s'/\D.ct aX H'
 |.ret u=>∃v aX H',Inv X aj aX H' s'/\RelV v u/\D.rt v H'
def PE (X:Cx)(e:Expr)(t:TE):Prop:=
 ∀(aj:List (Addr×Obj)) (s:Shared) (σ:St) (H:Hp) (Q:VK),Inv X aj σ H s->t σ H Q->wpAny (model X.prog X.w) X.A (eval e X.env) (EP X aj σ Q) X.xe s
def PT (X:Cx)(e:Expr)(t:TT):Prop:=
 ∀(aj:List (Addr×Obj)) (s:Shared) (σ:St) (H:Hp) (Q:Bool->Hp->Prop),Inv X aj σ H s->t σ H Q->wpAny (model X.prog X.w) X.A (isTrue e X.env<|eval e X.env) (TP X aj σ Q) X.xe s
def PW (X:Cx)(e:Expr)(t:TT):Prop:=
 ∀(o9:Sem Value) (aj:List (Addr×Obj)) (s:Shared) (σ:St) (H:Hp) (Q:Bool->Hp->Prop),Inv X aj σ H s->t σ H Q->wpAny (model X.prog X.w) X.A (isTrue e X.env o9) (TP X aj σ Q) X.xe s
def PW.pt (h:PW X e t):PT X e t:=h _
def PA (X:Cx)(es:List Expr)(t:TA):Prop:=
 ∀(pos:Pos) (aj:List (Addr×Obj)) (s:Shared) (σ:St) (H:Hp) (Q:List V->Hp->Prop),Inv X aj σ H s->t σ H Q->wpAny (model X.prog X.w) X.A (spliced<|backTo pos<|starEach es X.env) (AP X aj σ Q) X.xe s
def PS (X:Cx)(st:Stmt)(t:TS):Prop:=
 ∀(aj:List (Addr×Obj)) (s:Shared) (σ:St) (H:Hp) (D:Ends),Inv X aj σ H s->t D σ H->wpAny (model X.prog X.w) X.A (exec st X.env) (SP X aj D) X.xe s
def kj (X:Cx)(st:List Stmt)(t:TS):Prop:=
 ∀(aj:List (Addr×Obj)) (s:Shared) (σ:St) (H:Hp) (D:Ends),Inv X aj σ H s->t D σ H->wpAny (model X.prog X.w) X.A (execs st X.env) (SP X aj D) X.xe s
def bK (h:wpAny M A t Q E s)(hQ:∀a s,Q a s->Q' a s):wpAny M A t Q' E s:=fq h hQ λ_ _ x=>x
section
def anc (i:Nat):TE:=λσ H Q=>∃v,σ[i]? =some (some v)/\Q v H
def tC (v:V):TE:=λ_ H Q=>Q v H
def afb (hN:X.N[i]? =some x)(hv:Vis X.env.scope x)(hd:(x==("__debug__":Str))=false:=by decide)(Nz:(x==("__classdict__":Str))=false:=by decide):PE X (.Name x pos) (anc i):=by
 kl_no;let(v,e,h):=h;let(m,hn,hl):=I.loc;let(u,r,l):=hl i x v hN e hv;have fin:EP X aj σ Q u s:=(v,H,I,r,h);rcases l with⟨hk,hm⟩|⟨hk,c,hc,Wc⟩
 .exact wpAny_Name (wpAny_loadName_local I.ok.kind hk hn hm fin) hd
 .rcases hk with hk|hk
  .exact wpAny_Name (wpAny_loadName_cell I.ok.kind hk hc Wc fin) hd
  .exact wpAny_Name (wpAny_loadName_free I.ok.kind hk hc Wc fin Nz) hd
def aF {i j pos}:PE X (.Constant (.int i) j pos) (tC<|.int i):=λ_ _ _ H _ I h=>wpAny_Constant_int ⟨.int i,H,I.tok _,⟨_,rfl⟩,h⟩
def pq {b j pos}:PE X (.Constant (.bool b) j pos) (tC<|.bl b):=λ_ _ _ H _ I h=>Constant_bool (.bl b,H,I,rfl,h)
def afc {j pos}:PE X (.Constant .none j pos) (tC .non):=λ_ _ _ H _ I h=>Constant_none (.non,H,I,rfl,h)
def nC {x j pos}:PE X (.Constant (.str x) j pos) (tC<|.str x):=λ_ _ _ H _ I h=>Calls.Constant_str ⟨.str x,H,I.tok _,⟨_,rfl⟩,h⟩
def Gl (X:Cx)(x:Str):Prop:=X.env.kindOf x=some .globalImplicit
def Ru (I:Inv X aj σ H s)(hg:Gl X x)(hm:X.mg x=some u)(h:Q u s)
  (hd:(x==("__debug__":Str))=false:=by decide):wpAny (model X.prog X.w) X.A (eval (.Name x pos) X.env) Q E s:=
 nX I.ok.kind hg (Calls.loadGlobal_global (by rw[I.ok.glob];exact I.mod.glob.keeps I.bk) hm h) hd
def uW (I:Inv X aj σ H s)(hg:Gl X x)(hm:X.mg x=none)(hv:bootBuiltins x=some u)(h:Q u s)
  (hn:x≠"__name__":=by decide)(hd:(x==("__debug__":Str))=false:=by decide):wpAny (model X.prog X.w) X.A (eval (.Name x pos) X.env) Q E s:=by
 let(mb,h1,h2):=I.mod.blt;exact nX I.ok.kind hg (Calls.loadGlobal_builtin (by rw[I.ok.glob];exact I.mod.glob.keeps I.bk) hm (by rw[I.ok.blt];exact h1.keeps I.bk) ((h2 x hn).trans hv) h) hd
def pA (hg:Gl X x)(hm:X.mg x=some u)(r:RelV v u)(hd:(x==("__debug__":Str))=false:=by decide):PE X (.Name x pos) (tC v):=
 λ_ _ _ H _ I h=>Ru I hg hm (v,H,I,r,h) hd
def xg (hg:Gl X x)(hm:X.mg x=none)(hv:bootBuiltins x=some u)(r:RelV v u)(hn:x≠"__name__":=by decide)(hd:(x==("__debug__":Str))=false:=by decide):PE X (.Name x pos) (tC v):=
 λ_ _ _ H _ I h=>uW I hg hm hv (v,H,I,r,h) hn hd
variable {pos:Pos}
def PC (X:Cx)(op:CmpOp)(a b:Expr)(t:TE):Prop:=
 ∀(aj:List (Addr×Obj)) (s:Shared) (σ:St) (H:Hp) (Q:VK),Inv X aj σ H s->t σ H Q->
  wpAny (model X.prog X.w) X.A (eval a X.env) (λv cJ=>wpAny (model X.prog X.w) X.A (eval b X.env) (λu tY=>wpAny (model X.prog X.w) X.A (compareOp op v u) (EP X aj σ Q) X.xe tY) X.xe cJ) X.xe s
def X4 (b:Expr)(h:op≠ .In)(h2:op≠ .NotIn):behindInMarks op b=false:=by
 have e1:(op==CmpOp.In)=false:=by cases op<;>first|rfl|exact absurd rfl h
 have e2:(op==CmpOp.NotIn)=false:=by cases op<;>first|rfl|exact absurd rfl h2
 cases b<;>simp[behindInMarks,e1,e2]
def ahQ (ta:TE):TE:=λσ H Q=>ta σ H λx H1=>Q (.bl<|decide<|x=.non) H1
def RelV.ahR (r:RelV x v):(v==Value.none)=decide (x=.non):=by
 cases x with
 |non=>cases r;rfl
 |bl _=>cases r;rfl
 |int _=>let(t,rfl):=r;rfl
 |str _=>let(t,rfl):=r;rfl
 |ref _=>cases r;rfl
 |ty _=>cases r;rfl
def afd {j xP}(ha:PE X a ta):PC X .Is a (.Constant .none j xP) (ahQ ta):=by kl_no;refine bK (ha aj s σ H _ I h) ?_;rintro v s1 ⟨x,H1,I1,r1,q1⟩;exact Constant_none<|is_none_gen (.bl _,H1,I1,by rw[r1.ahR];rfl,q1)
def tB (t:TE):TT:=λσ H Q=>t σ H λx H1=>∃c,x=.bl c/\Q c H1
def ane (h:PC X op a b t)(h1:behindInMarks op b=false:=by first|exact X4 _ ⋯ ⋯|rfl):PE X (.Compare a [op] [b] pos) t:=λaj s σ H Q I hw=>wpAny_Compare1 (h aj s σ H Q I hw) h1
def NK (h:PC X op a b t)(h1:behindInMarks op b=false:=by first|exact X4 _ ⋯ ⋯|rfl):PT X (.Compare a [op] [b] pos) (tB t):=by intro aj s σ H Q I hw;refine p6 (bK (h aj s σ H _ I hw) λv s1 h1=>bK h1 λu s2 h2=>bK h2 ?_) h1;rintro c s3 ⟨x,H1,I1,r1,q1⟩;let(d,rfl,q):=q1;cases r1;exact db (H1,I1,q)
variable {rest:List Expr}
def ada (t u:TT):TT:=λσ H Q=>t σ H λc H1=>if c=true then u σ H1 Q else Q false H1
def TJ (t u:TT):TT:=λσ H Q=>t σ H λc H1=>if c=true then Q true H1 else u σ H1 Q
def Rv (t:TT):TT:=λσ H Q=>t σ H λc H1=>Q (!c) H1
def Bc (ha:PT X a tA):PW X (.BoolOp .And [a] pos) tA:=by
 intro wh aj s σ H Q I h;refine isTrue_and<|bK (ha aj s σ H Q I h) λc s1 e=>?_;cases c with
 |true=>exact isTrue_and_nil e
 |false=>exact e
def uX (ha:PT X a tA):PW X (.BoolOp .Or [a] pos) tA:=by
 intro wh aj s σ H Q I h;refine isTrue_or<|bK (ha aj s σ H Q I h) λc s1 e=>?_;cases c with
 |false=>exact isTrue_or_nil e
 |true=>exact e
def Bf (ha:PT X a tA)(hb:PW X (.BoolOp .And (b::rest) pos) tB'):PW X (.BoolOp .And (a::b::rest) pos) (ada tA tB'):=by
 intro wh aj s σ H Q I h;refine isTrue_and<|bK (ha aj s σ H _ I h) ?_;rintro c s1 ⟨H1,I1,q1⟩;cases c with
 |true=>exact hb wh aj s1 σ H1 Q I1 q1
 |false=>exact(H1,I1,q1)
def uE (ha:PT X a tA)(hb:PW X (.BoolOp .Or (b::rest) pos) tB'):PW X (.BoolOp .Or (a::b::rest) pos) (TJ tA tB'):=by
 intro wh aj s σ H Q I h;refine isTrue_or<|bK (ha aj s σ H _ I h) ?_;rintro c s1 ⟨H1,I1,q1⟩;cases c with
 |true=>exact(H1,I1,q1)
 |false=>exact hb wh aj s1 σ H1 Q I1 q1
def Gp (ha:PT X a tA):PT X (.UnaryOp .Not a pos) (Rv tA):=by kl_no;exact isTrue_not<|ha aj s σ H (λc H1=>Q (!c) H1) I h
def adb (ta tb:TE):TE:=λσ H Q=>ta σ H λx H1=>∃c,x=.bl c/\if c=true then tb σ H1 Q else Q (.bl false) H1
def X5 {op}(h:PE X a t):PE X (.BoolOp op [a] pos) t:=λaj s σ H Q I hw=>BoolOp_one<|h aj s σ H Q I hw
def afe (ha:PE X a ta)(hb:PE X (.BoolOp .And (b::rest) pos) tb):PE X (.BoolOp .And (a::b::rest) pos) (adb ta tb):=by
 kl_no;refine BoolOp_and<|bK (ha aj s σ H _ I h) ?_;rintro v s1 ⟨x,H1,I1,r1,q1⟩;let(c,rfl,q1):=q1;cases r1;refine db ?_;cases c with
 |true=>exact hb aj s1 σ H1 Q I1 q1
 |false=>exact(.bl false,H1,I1,rfl,q1)
def tIf (t:TT)(ta tb:TE):TE:=λσ H Q=>t σ H λc H1=>if c=true then ta σ H1 Q else tb σ H1 Q
def ahS (hc:PT X c tA)(ha:PE X a ta)(hb:PE X b tb):PE X (.IfExp c a b pos) (tIf tA ta tb):=by
 kl_no;refine wpAny_IfExp<|bK (hc aj s σ H _ I h) ?_;rintro d s1 ⟨H1,I1,q1⟩;cases d with
 |true=>exact ha aj s1 σ H1 Q I1 q1
 |false=>exact hb aj s1 σ H1 Q I1 q1
end
def aZ (K:Frag)(H:Hp)(a:Addr)(xs:List V):Prop:=
 Rd H a (.lst xs)\/
  ∃(o:Obj) (aW:Array Value) (n:Nat),K.lookup a=some o/\o.cls=.type "list"/\o.dict=none/\o.data=.seq aW n/\aW.size<=sizeLine/\Vals xs aW.toList
def bV (K:Frag)(H:Hp)(a:Addr)(xs:List V):Prop:=
 Rd H a (.tup xs)\/
  ∃(o:Obj) (aW:Array Value) (n:Nat),K.lookup a=some o/\o.cls=.type "tuple"/\o.data=.seq aW n/\aW.size<=sizeLine/\Vals xs aW.toList
noncomputable def auH:Value->Option V
 |.none=>some .non
 |.bool b=>some<|.bl b
 |.int i _=>some<|.int i
 |.str x _=>some<|.str x
 |.ref a=>some<|.ref a
 |.type n=>some<|.ty n
 |_=>none
def RelV.abs (r:RelV x u):auH u=some x:=by
 cases x with
 |non=>cases r;rfl
 |bl _=>cases r;rfl
 |int _=>let(t,rfl):=r;rfl
 |str _=>let(t,rfl):=r;rfl
 |ref _=>cases r;rfl
 |ty _=>cases r;rfl
def RelV.inj (r:RelV x u)(q:RelV y u):x=y:=be<|r.abs.symm.trans q.abs
theorem Vals.inj (h:Vals xs us)(g:Vals ys us):xs=ys:=by
 induction h generalizing ys with
 |nil=>cases g;rfl
 |cons r _ ih=>
  cases g with
  |cons r' t'=>rw[r.inj r',ih t']
section
variable {xs ys:List V}
def aZ.of {K:Frag}(h:H a=some (.lst xs)):aZ K H a xs:=.inl<|.inl h
def bV.of {K:Frag}(h:H a=some (.tup xs)):bV K H a xs:=.inl<|.inl h
def Inv.list (I:Inv X aj σ H s)(h:aZ X.K H a xs):∃aW:List Value,Vals xs aW/\PlainL s.heap a aW.toArray/\xs.length<=sizeLine:=by
 rcases h with h|⟨o,aW,n,hk,hc,hd,hs,hz,r⟩
 .let(z,aW,n,r,e):=h.ok I.hok;exact(aW,r,(_,n,e,rfl,rfl,rfl),z)
 .refine(aW.toList,r,(o,n,I.qP a o hk,hc,hd,by simpa using hs),?_);have e:=r.length;grind
def Inv.tuple (I:Inv X aj σ H s)(h:bV X.K H a xs):∃aW:List Value,Vals xs aW/\IsTup s.heap a aW.toArray/\xs.length<=sizeLine:=by
 rcases h with h|⟨o,aW,n,hk,hc,hs,hz,r⟩
 .let(z,aW,r,p):=h.ok I.hok;exact(aW,r,p,z)
 .refine(aW.toList,r,(o,I.qP a o hk,hc,n,by simpa using hs),?_);have e:=r.length;simp only[i9] at e;lk
def Inv.CT (I:Inv X aj σ H s)(h:aZ X.K H a xs)(h':aZ X.K H a ys):xs=ys:=by
 let(aW,r,(o,n,e,_,_,d),_):=I.list h;let(its',r',(o',n',e',_,_,d'),_):=I.list h';rw[e] at e';cases e';rw[d] at d';injection d' with d1 _
 have:aW=its':=by simpa using dT toList d1
 subst this;exact r.inj r'
def Inv.afg (I:Inv X aj σ H s)(h:bV X.K H a xs)(h':bV X.K H a ys):xs=ys:=by
 let(aW,r,(o,e,_,n,d),_):=I.tuple h;let(its',r',(o',e',_,n',d'),_):=I.tuple h';rw[e] at e';cases e';rw[d] at d';injection d' with d1 _
 have:aW=its':=by simpa using dT toList d1
 subst this;exact r.inj r'
end
noncomputable abbrev Cx.wish (X:Cx)(E:Value->Shared->Prop):Cx:={X with xe:=E}
noncomputable abbrev Cx.TQ (X:Cx):Cx:=X.wish λ_ _=>False
theorem Cx.Ok.wish {X:Cx}(ok:X.Ok)(E:Value->Shared->Prop):(X.wish E).Ok:=
 (ok.mod,ok.kind,ok.glob,ok.blt,ok.above,ok.inj,ok.has,ok.cab,ok.hd,ok.frames,ok.stk,ok.exf,ok.bs,ok.Ka,ok.XQ,ok.ac9,ok.vP,ok.XR)
def Cx.Ok.uY {X:Cx}(ok:(X.wish E).Ok):X.Ok:=
 (ok.mod,ok.kind,ok.glob,ok.blt,ok.above,ok.inj,ok.has,ok.cab,ok.hd,ok.frames,ok.stk,ok.exf,ok.bs,ok.Ka,ok.XQ,ok.ac9,ok.vP,ok.XR)
section
variable {E:Value->Shared->Prop}
theorem Inv.wish (I:Inv X aj σ H s)(E:Value->Shared->Prop):Inv (X.wish E) aj σ H s:=(I.ok.wish E,I.os,I.bare,I.base,I.loc,I.cell,I.free,I.rG,I.pin,I.hok,I.len)
theorem Inv.uY (I:Inv (X.wish E) aj σ H s):Inv X aj σ H s:=(I.ok.uY,I.os,I.bare,I.base,I.loc,I.cell,I.free,I.rG,I.pin,I.hok,I.len)
theorem SP.uY (h:SP (X.wish E) aj D f s'):SP X aj D f s':=by
 cases f with
 |next=>let(aX,H',I,q):=h;exact(aX,H',I.uY,q)
 |brk=>let(aX,H',I,q):=h;exact(aX,H',I.uY,q)
 |cont=>let(aX,H',I,q):=h;exact(aX,H',I.uY,q)
 |ret u=>let(v,aX,H',I,r,q):=h;exact(v,aX,H',I.uY,r,q)
theorem kj.TQ {st:List Stmt}{t:TS}(h:kj X.TQ st t):kj X st t:=λaj s σ H D I hw=>
 fq (h aj s σ H D (I.wish _) hw) (λ_ _ q=>q.uY) λ_ _ z=>False.elim z
end
section
variable {st:Stmt}{rest:List Stmt}
def iH:TS:=λD σ H=>D.nx σ H
def mV (t u:TS):TS:=λD σ H=>t {D with nx:=u D} σ H
def cT:kj X [] iH:=λ_ _ σ H _ I h=>ke (σ,H,I,h)
def aK (h1:PS X st t)(h2:kj X rest u):kj X (st::rest) (mV t u):=by
 k_sub;refine wpAny_execs_cons<|bK (h1 aj s σ H {D with nx:=u D} I h) λf s1 q=>?_;cases f with
 |next=>let(aX,H',I',q):=q;exact h2 aj s1 aX H' D I' q
 |ret v=>exact q
 |brk=>exact q
 |cont=>exact q
def bf (h1:PS X st t):kj X [st] t:=by
 k_sub;refine wpAny_execs_cons<|bK (h1 aj s σ H D I h) λf s1 q=>?_;cases f with
 |next=>exact ke q
 |ret v=>exact q
 |brk=>exact q
 |cont=>exact q
def Inv.quiet (I:Inv X aj σ H s):interactive X.env=false:=by simp[interactive,I.ok.kind]
def gk (te:TE):TS:=λD σ H=>te σ H λ_ H1=>D.nx σ H1
def cP (he:PE X e te)(hs:swapsWith e none pos.line X.env=pure false:=by rfl):PS X (.Expr e pos) (gk te):=by k_sub;refine wpAny_Expr_any (bK (he aj s σ H _ I h) ?_) I.quiet hs;rintro v s1 ⟨x,H1,I1,r1,q1⟩;exact(σ,H1,I1,q1)
def mW (te:TE):TS:=λD σ H=>te σ H D.rt
def cU (he:PE X e te):PS X (.Return (some e) pos) (mW te):=by k_sub;refine wpAny_Return_some<|bK (he aj s σ H _ I h) ?_;rintro v s1 ⟨x,H1,I1,r1,q1⟩;exact(x,σ,H1,I1,r1,q1)
def jj (c:TT)(t u:TS):TS:=λD σ H=>c σ H λb H1=>if b=true then t D σ H1 else u D σ H1
def fW (hc:PT X c tc)(ha:kj X a t)(hb:kj X b u):PS X (.If c a b pos) (jj tc t u):=by
 k_sub;refine wpAny_If<|bK (hc aj s σ H _ I h) ?_;rintro d s1 ⟨H1,I1,q1⟩;cases d with
 |true=>exact ha aj s1 σ H1 D I1 q1
 |false=>exact hb aj s1 σ H1 D I1 q1
def afh:TS:=λ_ _ _=>False
def oF:PS X st afh:=λ_ _ _ _ _ _ h=>h.elim
end
abbrev TG:=V->St->Hp->(St->Hp->Prop)->Prop
abbrev TGs:=List V->St->Hp->(St->Hp->Prop)->Prop
def PG (X:Cx)(NP:Expr)(t:TG):Prop:=
 ∀(aj:List (Addr×Obj)) (s:Shared) (σ:St) (H:Hp) (v:V) (u:Value) (Q:St->Hp->Prop),Inv X aj σ H s->RelV v u->t v σ H Q->
  wpAny (model X.prog X.w) X.A (assign NP X.env u) (λ_ s'=>∃aX H',Inv X aj aX H' s'/\Q aX H') X.xe s
def wg (X:Cx)(ts:List Expr)(t:TGs):Prop:=
 ∀(aj:List (Addr×Obj)) (s:Shared) (σ:St) (H:Hp) (vs:List V) (us:List Value) (Q:St->Hp->Prop),Inv X aj σ H s->Vals vs us->t vs σ H Q->
  wpAny (model X.prog X.w) X.A (assignInOrder ((assignEach ts X.env).map (·.2)) us) (λ_ s'=>∃aX H',Inv X aj aX H' s'/\Q aX H') X.xe s
abbrev ade:=V->V->V->Hp->(Hp->Prop)->Prop
def Gq (X:Cx)(t:ade):Prop:=
 ∀(aj:List (Addr×Obj)) (s:Shared) (σ:St) (H:Hp) (o i v:V) (ov iv u:Value) (Q:Hp->Prop),Inv X aj σ H s->RelV o ov->RelV i iv->RelV v u->t o i v H Q->
  wpAny (model X.prog X.w) X.A (setItem ov iv u) (λ_ s'=>∃H',Inv X aj σ H' s'/\Q H') X.xe s
abbrev TIp:=V->V->Hp->VK->Prop
def Gs (X:Cx)(op:Operator)(t:TIp):Prop:=
 ∀(aj:List (Addr×Obj)) (s:Shared) (σ:St) (H:Hp) (x y:V) (v u:Value) (Q:VK),Inv X aj σ H s->RelV x v->RelV y u->t x y H Q->
  wpAny (model X.prog X.w) X.A (inplaceOp op v u) (EP X aj σ Q) X.xe s
section
variable {pos:Pos}
def cH (i:Nat):TG:=λv σ H Q=>Q (σ.set i<|some v) H
def dM (hN:X.N.Nodup)(hi:X.N[i]? =some x)(hx:Loc X.env.scope x)(hf:X.fn x=true\/X.env.scope.names.lookup x=some .local:=by first|exact .inl rfl|exact .inr rfl|assumption):PG X (.Name x pos) (cH i):=by intro aj s σ H v u Q I r h;exact wpAny_assign_Name<|Lk I hN hi hx r (λs' I'=>(_,H,I',h)) hf
def auI (K:Frag)(n:Nat)(t:TGs):TG:=λv σ H Q=>∃a xs,v=.ref a/\bV K H a xs/\xs.length=n/\t xs σ H Q
def ang (hc:X.calm=true)(h:wg X es t)
  (hn:(assignEach es X.env).length=n:=by rfl)(bh:(assignEach es X.env).findIdx? (·.1)=none:=by rfl):PG X (.Tuple es k pos) (auI X.K n t):=by
 intro aj s σ H v u Q I r hw;let(a,xs,e1,hq,hl,hw):=hw;subst e1;cases r;let(aW,rv,ht,hz):=I.tuple hq;refine assign_Tuple_tuple (I.ok.hd hc) ht (by simp[hn,←hl,rv.length]) bh λh' hx=>?_;have I1:Inv X aj σ H {s with heap:=h'}:=I.kept (t':=s.toks) λb o e=>hx b o (dq<|cq e) e;exact h aj _ σ H xs _ Q I1 (by simpa using rv) hw
def Ln (to ti:TE)(t:ade):TG:=λv σ H Q=>to σ H λo H1=>ti σ H1 λi H2=>t o i v H2 λH3=>Q σ H3
def NQ (ho:PE X o to)(hi:PE X i ti)(hs:Gq X t)
  (ha:∀v,assign (.Subscript o i pos) X.env v=(do
   let ov<-holding [v] (eval o X.env);let iv<-holding [v,ov] (eval i X.env)
   standAt pos
   holding [v,ov,iv] (setItem ov iv v)
   release [v,ov,iv] []):=by intro _;rfl):PG X (.Subscript o i pos) (Ln to ti t):=by
 intro aj s σ H v u Q I r h;rw[ha];refine ai<|gc<|bK (ho aj s σ H _ I h) ?_;rintro ov s1 ⟨x,H1,I1,r1,q1⟩;refine ai<|gc<|bK (hi aj s1 σ H1 _ I1 q1) ?_;rintro iv s2 ⟨y,H2,I2,r2,q2⟩;refine ai<|oj<|ai<|gc<|bK (hs aj s2 σ H2 x y v ov iv u _ I2 r1 r2 r q2) ?_;rintro _ s3 ⟨H3,I3,q3⟩;exact wpAny_release (σ,H3,I3,q3)
def fG (te:TE)(g:TG):TS:=λD σ H=>te σ H λx H1=>g x σ H1 D.nx
def nD (he:PE X e te)(hg:PG X tg g)(hs:swapsWithSole [tg] e pos.line X.env=pure false:=by rfl)(hw:swappedStores [tg] e X.env=pure none:=by rfl)
  (h1:(assignEach [tg] X.env).map (·.2)=[assign tg X.env]:=by rfl):PS X (.Assign [tg] e pos) (fG te g):=by
 k_sub;refine wpAny_Assign_stores (bK (he aj s σ H _ I h) ?_) hs hw;rintro v s1 ⟨x,H1,I1,r1,q1⟩;rw[h1];exact bK (hg aj s1 σ H1 x v _ I1 r1 q1) λ_ s2 q=>q
def dO (hN:X.N.Nodup)(hi:X.N[i]? =some x)(hx:Loc X.env.scope x)(he:PE X e te)(hs:swapsWith e (some<|.Name x xP) pos.line X.env=pure false:=by rfl)(hf:X.fn x=true\/X.env.scope.names.lookup x=some .local:=by first|exact .inl rfl|exact .inr rfl|assumption):
  PS X (.Assign [.Name x xP] e pos) (fG te<|cH i):=by
 k_sub;refine wpAny_Assign_Name (bK (he aj s σ H _ I h) ?_) hs;rintro v s1 ⟨y,H1,I1,r1,q1⟩;exact Lk I1 hN hi hx r1 (λs2 I2=>(_,H1,I2,q1)) hf
def auJ (i:Nat)(te:TE)(ti:TIp):TS:=λD σ H=>∃x,σ[i]? =some (some x)/\te σ H λy H1=>ti x y H1 λz H2=>D.nx (σ.set i<|some z) H2
def anh (hN:X.N.Nodup)(hi:X.N[i]? =some x)(hx:Loc X.env.scope x)(he:PE X e te)(ho:Gs X op ti)(hf:X.fn x=true\/X.env.scope.names.lookup x=some .local:=by first|exact .inl rfl|exact .inr rfl|assumption):
  PS X (.AugAssign (.Name x xP) op e pos) (auJ i te ti):=by
 k_sub;let(v,e1,h):=h;let(m,hn,hl):=I.loc;have vis:Vis X.env.scope x:=by rcases hx with k|k;exact .inl k;exact .inr<|.inl k
 let(u,r,l):=hl i x v hi e1 vis;refine wpAny_AugAssign_Name ?_;have go:wpAny (model X.prog X.w) X.A (eval e X.env) (λw tY=>wpAny (model X.prog X.w) X.A (inplaceOp op u w) (λr rH=>wpAny (model X.prog X.w) X.A (storeName X.env x r) (λ_=>SP X aj D .next) X.xe rH) X.xe tY) X.xe s:=by refine bK (he aj s σ H _ I h) ?_;rintro w s1 ⟨y,H1,I1,r1,q1⟩;refine bK (ho aj s1 σ H1 v y u w _ I1 r r1 q1) ?_;rintro z s2 ⟨zv,H2,I2,r2,q2⟩;exact Lk I2 hN hi hx r2 (λs3 I3=>(_,H2,I3,q2)) hf
 rcases l with⟨hk,hm⟩|⟨hk,c,hc,Wc⟩
 .exact wpAny_loadName_local I.ok.kind hk hn hm go
 .rcases hk with hk|hk
  .exact wpAny_loadName_cell I.ok.kind hk hc Wc go
  .rcases hx with k|k
   .have:X.env.scope.names.lookup x=some .free:=hk
    lk
   .have:X.env.scope.names.lookup x=some .free:=hk
    lk
def akk (to ti te:TE)(ahT:V->V->Hp->VK->Prop)(tip:TIp)(ahU:ade):TS:=λD σ H=>to σ H λo H1=>ti σ H1 λi H2=>ahT o i H2 λx H3=>te σ H3 λy H4=>tip x y H4 λz H5=>ahU o i z H5 λH6=>D.nx σ H6
def anj (X:Cx)(t:V->V->Hp->VK->Prop):Prop:=
 ∀(aj:List (Addr×Obj)) (s:Shared) (σ:St) (H:Hp) (o i:V) (ov iv:Value) (Q:VK),Inv X aj σ H s->RelV o ov->RelV i iv->t o i H Q->
  wpAny (model X.prog X.w) X.A (getItem ov iv) (EP X aj σ Q) X.xe s
def Jm (ho:PE X o to)(hi:PE X i ti)(hg:anj X ahT)(he:PE X e te)(hp:Gs X op tip)(hs:Gq X ahU)
  (ha:∀ov iv new,augStore i ov iv new=(do holding [new,ov,iv] (setItem ov iv new);release [new,ov,iv] [];pure .next):=by intros;rfl):PS X (.AugAssign (.Subscript o i X6) op e pos) (akk to ti te ahT tip ahU):=by
 k_sub;refine wpAny_AugAssign_SubscriptAny (bK (ho aj s σ H _ I h) ?_) ha;rintro ov s1 ⟨x1,H1,I1,r1,q1⟩;refine bK (hi aj s1 σ H1 _ I1 q1) ?_;rintro iv s2 ⟨x2,H2,I2,r2,q2⟩;refine bK (hg aj s2 σ H2 x1 x2 ov iv _ I2 r1 r2 q2) ?_;rintro old s3 ⟨x3,H3,I3,r3,q3⟩;refine bK (he aj s3 σ H3 _ I3 q3) ?_;rintro v s4 ⟨x4,H4,I4,r4,q4⟩;refine bK (hp aj s4 σ H4 x3 x4 old v _ I4 r3 r4 q4) ?_;rintro new s5 ⟨x5,H5,I5,r5,q5⟩;refine bK (hs aj s5 σ H5 x1 x2 x5 ov iv new _ I5 r1 r2 r5 q5) ?_;rintro _ s6 ⟨H6,I6,q6⟩;exact(σ,H6,I6,q6)
def ipI (f:Int->Int->Int):TIp:=λx y H Q=>∃i j,x=.int i/\y=.int j/\Q (.int<|f i j) H
def ank:Gs X .Add (ipI λi j=>i+j):=by intro aj s σ H x y v u Q I r1 r2 h;let(i,j,e1,e2,q):=h;subst e1;subst e2;let(t,rfl):=r1;let(t',rfl):=r2;exact iadd_int ⟨.int _,H,I.tok _,⟨_,rfl⟩,q⟩
def anl:Gs X .Sub (ipI λi j=>i - j):=by intro aj s σ H x y v u Q I r1 r2 h;let(i,j,e1,e2,q):=h;subst e1;subst e2;let(t,rfl):=r1;let(t',rfl):=r2;exact isub_int ⟨.int _,H,I.tok _,⟨_,rfl⟩,q⟩
end
section
variable {pos:Pos}
def afj (c:TT)(tb:TS):TS:=λD σ H=>∃W:Nat->St->Hp->Prop,(∃m,W m σ H)/\∀m σ H,W m σ H->
 c σ H λb H1=>if b=true then ∃N:St->Hp->Prop,(∀aX H',N aX H'->∃m',m'<m/\W m' aX H')/\tb {D with nx:=N,ct:=N,bk:=D.nx} σ H1 else D.nx σ H1
def X7 (hp:PassesOwn (model X.prog X.w) X.A X.env X.xe)(hc:PT X c tc)(hb:kj X body tb):PS X (.While c body [] pos) (afj tc tb):=by
 k_sub;let(W,(m0,w0),Lp):=h;refine wpAny_While<|codeAny_whileLoop (λn s'=>∃aX H',Inv X aj aX H' s'/\W n aX H') ?_ m0 (σ,H,I,w0);rintro n s1 ⟨X8,H1,I1,w1⟩;refine f8 hp<|bK (hc aj s1 X8 H1 _ I1<|Lp n X8 H1 w1) ?_;rintro b s2 ⟨H2,I2,q2⟩;cases b with
 |true=>
  let(N,hN,q2):=q2;rw[ar rfl];refine f8 hp<|bK (hb aj s2 X8 H2 _ I2 q2) λf s3 q3=>?_;cases f with
  |next=>let(FJ,H3,I3,n3):=q3;let(m',hm,w3):=hN FJ H3 n3;exact(m',hm,FJ,H3,I3,w3)
  |cont=>let(FJ,H3,I3,n3):=q3;let(m',hm,w3):=hN FJ H3 n3;exact(m',hm,FJ,H3,I3,w3)
  |brk=>exact q3
  |ret v=>exact q3
 |false=>rw[ap bj];exact ke (X8,H2,I2,q2)
end
structure It where
 go:Nat->Hp->Prop
 Yb:Nat->Hp->V->Hp->Prop
 stop:Nat->Hp->Prop
def tZ (X:Cx)(aj:List (Addr×Obj))(H:Hp)(b:Addr):Prop:=
 H b=none/\b≠X.env.locals/\b∉X.fs/\(b∈X.ex\/X.s₀.heap.objs.size<=b)/\(∀x c,X.env.cells.lookup x=some c->c≠b)/\∀p∈X.pn++aj,p.1≠b
def Inv.Lq (I:Inv X aj σ H s)(hb:s.heap.objs.size<=b)(hn:H' b=none):tZ X aj H' b:=by
 refine(hn,mB<|b8 I.lt hb,I.auE hb,.inr<|dL I.sz hb,λx c e z=>?_,λp hp z=>?_)
 .let(v,q):=I.cell x c e;exact absurd (b8 q.lt (by rw[z];exact hb)) (ik _)
 .exact absurd (b8 (cq (I.pin p hp).1) (by rw[z];exact hb)) (ik _)
structure Turn (P:Program)(w:World)(K:Frag)(tg:Expr)(J:It)(fp:List Addr)(it:Addr)(tn:Nat->Heap->Prop):Prop where
 mem:it∈fp
 obj:∀i h,tn i h->∀b∈fp,∃o,h.get? b=some o/\∀v,o.data≠ .cell v
 keep:∀i h h',tn i h->(∀b∈fp,∀o,h.get? b=some o->h'.get? b=some o)->tn i h'
 item:∀(X:Cx),X.prog=P->X.w=w->X.K=K->X.calm=true->∀(i:Nat) (aj:List (Addr×Obj)) (s:Shared) (σ:St) (H:Hp) (E:Value->Shared->Prop),Inv X aj σ H s->(∀b∈fp,tZ X aj H b)->tn i s.heap->J.go i H->
  wpAny (model P w) X.A (pyNext (.ref it)) (λr s1=>∃u,r=some u/\
   wpAny (model P w) X.A (letOwnedTupleGo tg (.ref it) u) (λ_ s2=>∃x H',Inv X aj σ H' s2/\RelV x u/\J.Yb i H x H'/\tn (i+1) s2.heap/\∀b∈fp,H' b=none) E s1) E s
 done:∀(X:Cx),X.prog=P->X.w=w->X.K=K->X.calm=true->∀(i:Nat) (aj:List (Addr×Obj)) (s:Shared) (σ:St) (H:Hp) (E:Value->Shared->Prop),Inv X aj σ H s->(∀b∈fp,tZ X aj H b)->tn i s.heap->J.stop i H->
  wpAny (model P w) X.A (pyNext<|.ref it) (λr s1=>r=none/\Inv X aj σ H s1) E s
 self:∀(A:Around) (i:Nat) (s:Shared) (Q:Value->Shared->Prop) (E:Value->Shared->Prop),tn i s.heap->Q (.ref it) s->wpAny (model P w) A (pyIter<|.ref it) Q E s
abbrev TI:=St->Hp->(It->Hp->Prop)->Prop
def PIE (X:Cx)(aj:List (Addr×Obj))(σ:St)(tg:Expr)(R:It->Hp->Prop)(itv:Value)(s2:Shared):Prop:=
 ∃(it:Addr) (fp:List Addr) (tn:Nat->Heap->Prop) (J:It) (H':Hp),itv=.ref it/\Inv X aj σ H' s2/\Turn X.prog X.w X.K tg J fp it tn/\tn 0 s2.heap/\(∀b∈fp,tZ X aj H' b)/\R J H'
def PI (X:Cx)(tg kI:Expr)(wi:TI):Prop:=
 ∀(aj:List (Addr×Obj)) (s:Shared) (σ:St) (H:Hp) (R:It->Hp->Prop),Inv X aj σ H s->wi σ H R->
  wpAny (model X.prog X.w) X.A (eval kI X.env) (λv s1=>wpAny (model X.prog X.w) X.A (pyIter v) (PIE X aj σ tg R) X.xe s1) X.xe s
def Wd (ho:s.heap.get? it=some o)(hc:o.cls=.type n)(hd:o.data=.fields vs)
    (hn:["enumerate","zip","dict_itemiterator","dict_reverseitemiterator","odict_iterator","itertools.zip_longest","itertools.pairwise"].contains n=false)(hQ:Q () s):wpAny M A (letOwnedTupleGo tg (.ref it) u) Q E s:=by
  unfold letOwnedTupleGo;cases tg<;>first
    |exact aS hQ
    |(cases u<;>first
        |exact aS hQ
        |(refine ai (wpAny_load ho ?_)
          rw[hc,hd];show wpAny M A (if(["enumerate","zip","dict_itemiterator","dict_reverseitemiterator","odict_iterator","itertools.zip_longest","itertools.pairwise"].contains n && vs[0]? ==some (rawInt _))=true then _ else _) Q E s;rw[ap (by intro h;rw[hn,Bool.false_and] at h;cases h)];exact aS hQ))
noncomputable def Gu (K:Frag)(a:Addr):It:=
 (λi H=>∃xs x,aZ K H a xs/\xs[i]? =some x,λi H x H'=>H'=H/\∀xs,aZ K H a xs->xs[i]? =some x,λi H=>∃xs,aZ K H a xs/\xs.length<=i)
noncomputable def TV (K:Frag)(a:Addr):It:=
 (λi H=>∃xs x,bV K H a xs/\xs[i]? =some x,λi H x H'=>H'=H/\∀xs,bV K H a xs->xs[i]? =some x,λi H=>∃xs,bV K H a xs/\xs.length<=i)
noncomputable def Itr (lo:Int)(n:Nat):It:=(λi _=>i<n,λi H x H'=>H'=H/\x=.int (lo+i),λi _=>n<=i)
def afl {K:Frag}(a it:Addr):Turn P w K tg (Gu K a) [it] it (λi h=>h.IsListIter it a i) where
 mem:=by simp
 obj:=λi h st b hb=>by
  have e:b=it:=by simpa using hb
  subst e;let(o,e,c,d):=st;exact⟨o,e,λv z=>by rw[d] at z;cases z⟩
 keep:=λi h h' st k=>st.at λo e=>k it (by simp) o e
 item:=by w_up;subst hP hw hK;let(xs,x,hq,hx):=hg;let(aW,rv,p,hz):=I.list hq;let(u,hu,ru):=rv.get hx;let(f0,f1,f2,f3,f4,f5):=hf it (by simp);refine wpAny_pyNext_list_item st p.isList (x:=u) (by simpa using hu) λh' yZ sb=>?_;have I1:Inv X aj σ H {s with heap:=h'}:=I.turned (t':=s.toks) (λb o hb e=>(sb.2 b hb).trans e) f0 f1 f3 f4 f5;let(o,e,c,d):=id yZ;exact⟨u,rfl,Wd (s:={s with heap:=h'}) e c d ⋯ ⟨x,H,I1,ru,⟨rfl,λys hy=>by rw[I.CT hy hq];exact hx⟩,yZ,λb hb=>(hf b hb).1⟩⟩
 done:=by w_up;subst hP hw hK;let(xs,hq,hx):=hg;let(aW,rv,p,hz):=I.list hq;let(f0,f1,f2,f3,f4,f5):=hf it (by simp);have hl:=rv.length;exact wpAny_pyNext_list_end (I.ok.hd hc) st p.isList (by simp;lk) λh' eb=>⟨rfl,I.turned (t':=s.toks) (λb o hb e=>eb b o hb e) f0 f1 f3 f4 f5⟩
 self:=λ_ _ _ _ _ st h=>wpAny_pyIter_listiter st h
def adf {K:Frag}(a it:Addr):Turn P w K tg (TV K a) [it] it (λi h=>h.IsTupleIter it a i) where
 mem:=by simp
 obj:=λi h st b hb=>by
  have e:b=it:=by simpa using hb
  subst e;let(o,e,c,d):=st;exact⟨o,e,λv z=>by rw[d] at z;cases z⟩
 keep:=λi h h' st k=>st.at λo e=>k it (by simp) o e
 item:=by w_up;subst hP hw hK;let(xs,x,hq,hx):=hg;let(aW,rv,p,hz):=I.tuple hq;let(u,hu,ru):=rv.get hx;let(f0,f1,f2,f3,f4,f5):=hf it (by simp);refine wpAny_pyNext_tuple_item st (show s.heap.IsTuple a aW.toArray from p) (x:=u) (by simpa using hu) λh' yZ sb=>?_;have I1:Inv X aj σ H {s with heap:=h'}:=I.turned (t':=s.toks) (λb o hb e=>(sb.2 b hb).trans e) f0 f1 f3 f4 f5;let(o,e,c,d):=id yZ;exact⟨u,rfl,Wd (s:={s with heap:=h'}) e c d ⋯ ⟨x,H,I1,ru,⟨rfl,λys hy=>by rw[I.afg hy hq];exact hx⟩,yZ,λb hb=>(hf b hb).1⟩⟩
 done:=by w_up;subst hP hw hK;let(xs,hq,hx):=hg;let(aW,rv,p,hz):=I.tuple hq;let(f0,f1,f2,f3,f4,f5):=hf it (by simp);have hl:=rv.length;exact wpAny_pyNext_tuple_end (I.ok.hd hc) st (show s.heap.IsTuple a aW.toArray from p) (by simp;lk) λh' eb=>⟨rfl,I.turned (t':=s.toks) (λb o hb e=>eb b o hb e) f0 f1 f3 f4 f5⟩
 self:=λ_ _ _ _ _ st h=>wpAny_pyIter_tupleiter st h
def adg {K:Frag}(it:Addr)(lo:Int)(n:Nat):Turn P w K tg (Itr lo n) [it] it (λi h=>IsRangeIter h it (lo+(i:Nat)*1) ((n:Int) - (i:Nat)) 1) where
 mem:=by simp
 obj:=λi h st b hb=>by
  have e:b=it:=by simpa using hb
  subst e;exact⟨_,st,λv z=>by
   have z':Data.fields _=Data.cell v:=z;cases z'⟩
 keep:=λi h h' st k=>k it (by simp) _ st
 item:=by intro X hP hw hK hc i aj s σ H E I hf st hg;subst hP hw hK;let(f0,f1,f2,f3,f4,f5):=hf it (by simp);have W:=Walks.range (prog:=X.prog) (w:=X.w) (I.ok.hd hc) it lo 1 n;refine W.item i s _ _ hg st λv h' tk hv yZ kk=>?_;let(t,rfl):=hv;have I1:Inv X aj σ H {s with heap:=h',toks:=tk}:=I.turned (λb o hb e=>kk b o (by simpa using hb) e) f0 f1 f3 f4 f5;refine⟨_,rfl,Wd (s:={s with heap:=h',toks:=tk}) (n:="range_iterator") yZ rfl rfl ⋯ ⟨.int<|lo+i,H,I1,⟨t,?_⟩,⟨rfl,rfl⟩,yZ,λb hb=>(hf b hb).1⟩⟩;rw[oo]
 done:=by w_up;subst hP hw hK;let(f0,f1,f2,f3,f4,f5):=hf it (by simp);exact wpAny_pyNext_range_end (I.ok.hd hc) st (by have:n<=i:=hg;lk) λh' eb=>⟨rfl,I.turned (t':=s.toks) (λb o hb e=>eb b o hb e) f0 f1 f3 f4 f5⟩
 self:=λ_ _ _ _ _ st h=>wpAny_pyIter_rangeiter st h
section
variable {tg:Expr}
def uF (K:Frag)(tl:TE):TI:=λσ H R=>tl σ H λx H1=>∃a,x=.ref a/\(∃xs,aZ K H1 a xs)/\R (Gu K a) H1
def ahV (K:Frag)(tl:TE):TI:=λσ H R=>tl σ H λx H1=>∃a,x=.ref a/\(∃xs,bV K H1 a xs)/\R (TV K a) H1
def mC {tl:TE}(hl:PE X l tl):PI X tg l (uF X.K tl):=by
 intro aj s σ H R I h;refine bK (hl aj s σ H _ I h) ?_;rintro v s1 ⟨x,H1,I1,r1,q1⟩;let(a,e,(xs,hq),q):=q1;subst e;cases r1;let(aW,rv,p,hz):=I1.list hq;refine wpAny_pyIter_list p.isList ?_;refine(s1.heap.objs.size,[s1.heap.objs.size],_,_,H1,rfl,I1.kept (t':=s1.toks) λb o e=>aT _ e,afl a _,(_,da _ rfl,rfl,rfl),λb hb=>?_,q);have e:b=s1.heap.objs.size:=by simpa using hb
 subst e;exact I1.Lq (ax _)<|I1.hok.fresh<|ax _
def Yc {tl:TE}(hl:PE X l tl):PI X tg l (ahV X.K tl):=by
 intro aj s σ H R I h;refine bK (hl aj s σ H _ I h) ?_;rintro v s1 ⟨x,H1,I1,r1,q1⟩;let(a,e,(xs,hq),q):=q1;subst e;cases r1;let(aW,rv,p,hz):=I1.tuple hq;refine wpAny_pyIter_tuple (show s1.heap.IsTuple a aW.toArray from p) ?_;refine(s1.heap.objs.size,[s1.heap.objs.size],_,_,H1,rfl,I1.kept (t':=s1.toks) λb o e=>aT _ e,adf a _,(_,da _ rfl,rfl,rfl),λb hb=>?_,q);have e:b=s1.heap.objs.size:=by simpa using hb
 subst e;exact I1.Lq (ax _)<|I1.hok.fresh<|ax _
def ahW {lo hi:Int}(I:Inv X aj σ H s)(h1: -(2^62)<=lo)(h2:lo<2^62)(h3: -(2^62)<=hi)(h4:hi<2^62)
  (q:R (Itr lo (hi - lo).toNat) H):wpAny (model X.prog X.w) X.A (pyIter<|.ref s.heap.objs.size) (PIE X aj σ tg R) E {s with heap:=s.heap.push {cls:=.type "range",data:=.fields #[.int lo t,.int hi u,.int 1 v]},toks:=tk}:=by
 refine wpAny_pyIter_range (IsRange.new ..) (small_one h1 h2 h3 h4) ?_;have I1:Inv X aj σ H {s with heap:=s.heap.push {cls:=.type "range",data:=.fields #[.int lo t,.int hi u,.int 1 v]},toks:=tk}:=I.kept λb o e=>aT _ e;refine((s.heap.push {cls:=.type "range",data:=.fields #[.int lo t,.int hi u,.int 1 v]}).objs.size,[(s.heap.push {cls:=.type "range",data:=.fields #[.int lo t,.int hi u,.int 1 v]}).objs.size],_,_,H,rfl,
  I1.kept (t':=tk) λb o e=>aT _ e,adg _ lo (hi - lo).toNat,?_,λb hb=>?_,q)
 .have e1:lo+((0:Nat):Int)*1=lo:=by simp
  have e2:(((hi - lo).toNat:Nat):Int) - ((0:Nat):Int)=Builtin.Range.rangeSize lo hi 1:=by rw[rangeSize_one];split<;>lk
  show IsRangeIter _ _ (lo+((0:Nat):Int)*1) ((((hi - lo).toNat:Nat):Int) - ((0:Nat):Int)) 1;rw[e1,e2];exact da _ rfl
 .have e:b=(s.heap.push {cls:=.type "range",data:=.fields #[.int lo t,.int hi u,.int 1 v]}).objs.size:=by simpa using hb
  subst e;exact I1.Lq (ax _)<|I1.hok.fresh<|ax _
def adh (ta:TA):TI:=λσ H R=>ta σ H λvs H1=>∃j:Int,vs=[.int j]∧-(2^62)<=j/\j<2^62/\R (Itr 0 j.toNat) H1
def TX {p pos:Pos}(hg:Gl X "range")(hm:X.mg "range"=none)(ha:PA X [a] ta)(hs:starEach [a] X.env=[(false,eval a X.env)]:=by rfl):PI X tg (.Call (.Name "range" p) [a] [] pos) (adh ta):=by
 intro aj s σ H R I h;refine Call_<|uW I hg hm boot_range<|dn (bK (ha pos aj s σ H _ I h) ?_) hs rfl;rintro us s1 ⟨vs,H1,I1,r1,q1⟩;let(j,e,q1,q2,q):=q1;subst e;cases r1 with
 |cons r rr=>cases rr;let(t,rfl):=r;exact call_range_1<|ahW I1 ∅ ∅ q1 q2 (by simpa using q)
def adi (wi:TI)(g:TG)(tb:TS):TS:=λD σ H=>wi σ H λJ H1=>∃W:Nat->Nat->St->Hp->Prop,(∃m,W 0 m σ H1)/\∀i m σ H,W i m σ H->
 (J.stop i H/\D.nx σ H)\/(J.go i H/\∃N:St->Hp->Prop,(∀aX H',N aX H'->∃m',m'<m/\W (i+1) m' aX H')/\∀x H',J.Yb i H x H'->g x σ H' λiY H2=>tb {D with nx:=N,ct:=N,bk:=D.nx} iY H2)
noncomputable def Bg (fp:List Addr)(h:Heap):List (Addr×Obj):=fp.filterMap λb=>(h.get? b).map λo=>(b,o)
def wJ (hb:b∈fp)(e:h.get? b=some o):(b,o)∈Bg fp h:=oy.mpr (b,hb,by rw[e];rfl)
def afm (hp:p∈Bg fp h):p.1∈fp/\h.get? p.1=some p.2:=by
 let(b,hb,e):=oy.mp hp;cases q:h.get? b with
 |none=>grind
 |some o=>grind
def Inv.pinned (I:Inv X aj σ H s)(hf:∀b∈fp,tZ X aj H b)(ho:∀b∈fp,∃o,s.heap.get? b=some o/\∀v,o.data≠ .cell v):Inv X (aj++Bg fp s.heap) σ H s:=
 I.abz λp hp=>(bc.mp hp).elim (λz=>I.pin p<|ci _ z) λz=>by let(hb,e):=afm z;let(f0,f1,f2,_):=hf p.1 hb;grind
def Inv.CV (I:Inv X (aj++pl) σ H s):Inv X aj σ H s:=I.abz λp hp=>I.pin p<|ci _<|dA _ hp
def nF (hp:PassesOwn (model X.prog X.w) X.A X.env X.xe)(hc:X.calm=true)(hi:PI X tg kI wi)(hg:PG X tg g)(hb:kj X body tb)
  (hs:∀x,foldedSetIterable kI X.env x=pure x:=by intro _;rfl):PS X (.For tg kI body [] pos) (adi wi g tb):=by
 k_sub;refine wpAny_For (bK (hi aj s σ H _ I h) λv s1 h1=>bK h1 λitv s2 h2=>?_) hs;let(it,fp,tn,J,H2,e,I2,T,st2,f2,W,(m0,w0),Lp):=h2;subst e;have Lr:∀{H':Hp},(∀b∈fp,H' b=none)->∀b∈fp,tZ X aj H' b:=λhn b hb=>⟨hn b hb,(f2 b hb).2⟩;refine codeAny_forLoop_any (λn s'=>∃i aX H',Inv X aj aX H' s'/\tn i s'.heap/\(∀b∈fp,H' b=none)/\W i n aX H') ?_ m0 ⟨0,σ,H2,I2,st2,λb hb=>(f2 b hb).1,w0⟩;rintro n s3 ⟨i,FJ,H3,I3,FN,fr3,w3⟩;rcases Lp i n FJ H3 w3 with⟨stop,qn⟩|⟨go,N,hN,step⟩
 .refine f8 hp<|bK (T.done X rfl rfl rfl hc i aj s3 FJ H3 X.xe I3 (Lr fr3) FN stop) ?_;rintro r s4 ⟨hr,I4⟩;subst hr;exact ke ⟨FJ,H3,I4,qn⟩
 .refine f8 hp<|bK (T.item X rfl rfl rfl hc i aj s3 FJ H3 X.xe I3 (Lr fr3) FN go) ?_;rintro r s4 ⟨u,hr,h4⟩;subst hr;refine f8 hp<|bK h4 ?_;rintro _ s5 ⟨x,H5,I5,r5,y5,za,fr5⟩;have I5':=I5.pinned (Lr fr5)<|T.obj _ _ za;refine f8 hp<|bK (hg _ s5 FJ H5 x u _ I5' r5<|step x H5 y5) ?_;rintro _ s6 ⟨Yd,H6,I6,q6⟩;refine f8 hp<|bK (hb _ s6 Yd H6 _ I6 q6) λf s7 q7=>?_;have again:∀{Gv:St}{H7:Hp},Inv X (aj++Bg fp s5.heap) Gv H7 s7->N Gv H7->∃m,m<n/\∃i aX H',Inv X aj aX H' s7/\tn i s7.heap/\(∀b∈fp,H' b=none)/\W i m aX H':=λ{Gv H7} I7 n7=>by let(m',hm,w7):=hN Gv H7 n7;refine⟨m',hm,i+1,Gv,H7,I7.CV,T.keep _ _ _ za λb hb o e=>(I7.pin (b,o)<|ci _<|ci _<|wJ hb e).1,λb hb=>?_,w7⟩;let(o,e,d):=T.obj _ _ za b hb;exact(I7.pin (b,o)<|ci _<|ci _<|wJ hb e).2.1
  cases f with
  |next=>let(Gv,H7,I7,n7):=q7;exact again I7 n7
  |cont=>let(Gv,H7,I7,n7):=q7;exact again I7 n7
  |brk=>let(Gv,H7,I7,q7):=q7;exact⟨Gv,H7,I7.CV,q7⟩
  |ret v=>let(x7,Gv,H7,I7,r7,q7):=q7;exact⟨x7,Gv,H7,I7.CV,r7,q7⟩
end
def ahX {K:Frag}{g:TG}{tb:TS}{D:Ends}(Pv:Nat->St->Hp->Prop)(h0:Pv 0 σ H)(hl:∀i σ H,i<=xs.length->Pv i σ H->aZ K H a xs)
  (hs:∀i x σ H,xs[i]? =some x->Pv i σ H->g x σ H λiY H2=>tb {D with nx:=Pv<|i+1,ct:=Pv<|i+1,bk:=D.nx} iY H2)(hd:∀σ H,Pv xs.length σ H->D.nx σ H):
  ∃W:Nat->Nat->St->Hp->Prop,(∃m,W 0 m σ H)/\∀i m σ H,W i m σ H->
   ((Gu K a).stop i H/\D.nx σ H)\/((Gu K a).go i H/\∃N:St->Hp->Prop,(∀aX H',N aX H'->∃m',m'<m/\W (i+1) m' aX H')/\∀x H',(Gu K a).Yb i H x H'->g x σ H' λiY H2=>tb {D with nx:=N,ct:=N,bk:=D.nx} iY H2):=by
 refine⟨λi m σ H=>m=xs.length - i/\i<=xs.length/\Pv i σ H,⟨xs.length,by simp,dE _,h0⟩,?_⟩;rintro i m σ H ⟨rfl,hi,p⟩;have q:=hl i σ H hi p;by_cases dZ:i<xs.length
 .refine .inr ⟨⟨xs,xs[i],q,by simp[dZ]⟩,Pv<|i+1,λaX H' p'=>⟨xs.length - (i+1),by lk,rfl,dZ,p'⟩,λx H' y=>?_⟩;let(e,y):=y;grind
 .have e:i=xs.length:=by lk
  subst e;exact .inl ⟨⟨xs,q,ax _⟩,hd σ H p⟩
def alS {K:Frag}{g:TG}{tb:TS}{D:Ends}(Pv:Nat->St->Hp->Prop)(h0:Pv 0 σ H)(hl:∀i σ H,i<=xs.length->Pv i σ H->bV K H a xs)
  (hs:∀i x σ H,xs[i]? =some x->Pv i σ H->g x σ H λiY H2=>tb {D with nx:=Pv<|i+1,ct:=Pv<|i+1,bk:=D.nx} iY H2)(hd:∀σ H,Pv xs.length σ H->D.nx σ H):
  ∃W:Nat->Nat->St->Hp->Prop,(∃m,W 0 m σ H)/\∀i m σ H,W i m σ H->
   ((TV K a).stop i H/\D.nx σ H)\/((TV K a).go i H/\∃N:St->Hp->Prop,(∀aX H',N aX H'->∃m',m'<m/\W (i+1) m' aX H')/\∀x H',(TV K a).Yb i H x H'->g x σ H' λiY H2=>tb {D with nx:=N,ct:=N,bk:=D.nx} iY H2):=by
 refine⟨λi m σ H=>m=xs.length - i/\i<=xs.length/\Pv i σ H,⟨xs.length,by simp,dE _,h0⟩,?_⟩;rintro i m σ H ⟨rfl,hi,p⟩;have q:=hl i σ H hi p;by_cases dZ:i<xs.length
 .refine .inr ⟨⟨xs,xs[i],q,by simp[dZ]⟩,Pv<|i+1,λaX H' p'=>⟨xs.length - (i+1),by lk,rfl,dZ,p'⟩,λx H' y=>?_⟩;let(e,y):=y;subst e;exact hs i x σ _ (y xs q) p
 .have e:i=xs.length:=by lk
  subst e;exact .inl ⟨⟨xs,q,ax _⟩,hd σ H p⟩
abbrev R2:=V->V->Hp->VK->Prop
def dh (X:Cx)(f:Value->Value->Sem Value)(r:R2):Prop:=
 ∀(aj:List (Addr×Obj)) (s:Shared) (σ:St) (H:Hp) (x y:V) (v u:Value) (Q:VK),Inv X aj σ H s->RelV x v->RelV y u->r x y H Q->
  wpAny (model X.prog X.w) X.A (f v u) (EP X aj σ Q) X.xe s
def TY (X:Cx)(f:Value->Sem Value)(r:V->Hp->VK->Prop):Prop:=
 ∀(aj:List (Addr×Obj)) (s:Shared) (σ:St) (H:Hp) (x:V) (v:Value) (Q:VK),Inv X aj σ H s->RelV x v->r x H Q->
  wpAny (model X.prog X.w) X.A (f v) (EP X aj σ Q) X.xe s
def iu (X:Cx)(f:Value)(r:List V->Hp->VK->Prop):Prop:=
 ∀(aj:List (Addr×Obj)) (s:Shared) (σ:St) (H:Hp) (xs:List V) (us:List Value) (Q:VK),Inv X aj σ H s->Vals xs us->r xs H Q->
  wpAny (model X.prog X.w) X.A (call f us) (EP X aj σ Q) X.xe s
def auK (X:Cx)(r:V->Hp->(Bool->Hp->Prop)->Prop):Prop:=
 ∀(aj:List (Addr×Obj)) (s:Shared) (σ:St) (H:Hp) (x:V) (v:Value) (Q:Bool->Hp->Prop),Inv X aj σ H s->RelV x v->r x H Q->
  wpAny (model X.prog X.w) X.A (truthy v) (TP X aj σ Q) X.xe s
def jt (r:R2)(ta tb:TE):TE:=λσ H Q=>ta σ H λx H1=>tb σ H1 λy H2=>r x y H2 Q
def tUn (r:V->Hp->VK->Prop)(ta:TE):TE:=λσ H Q=>ta σ H λx H1=>r x H1 Q
def rI (C:Int->Int->Prop)(g:Int->Int->V):R2:=λx y H Q=>∃i j,x=.int i/\y=.int j/\C i j/\Q (g i j) H
def Kd (g:Int->Int->V):R2:=λx y H Q=>∃i j,x=.int i/\y=.int j/\Q (g i j) H
def rU (g:Int->V):V->Hp->VK->Prop:=λx H Q=>∃i,x=.int i/\Q (g i) H
section
variable {pos:Pos}
def ahY (ha:PE X a ta)(hb:PE X b tb){R:V->V->Hp->Prop}(I:Inv X aj σ H s)
  (h:ta σ H λx H1=>tb σ H1 λy H2=>R x y H2){f:Value->Value->Sem Value}
  (hf:∀v u s2 x y H2,Inv X aj σ H2 s2->RelV x v->RelV y u->R x y H2->wpAny (model X.prog X.w) X.A (f v u) Q X.xe s2):
  wpAny (model X.prog X.w) X.A (eval a X.env) (λv cJ=>wpAny (model X.prog X.w) X.A (eval b X.env) (λu tY=>wpAny (model X.prog X.w) X.A (f v u) Q X.xe tY) X.xe cJ) X.xe s:=by
 refine bK (ha aj s σ H _ I h) ?_;rintro v s1 ⟨x,H1,I1,r1,q1⟩;refine bK (hb aj s1 σ H1 _ I1 q1) ?_;rintro u s2 ⟨y,H2,I2,r2,q2⟩;exact hf v u s2 x y H2 I2 r1 r2 q2
def dj {r:R2}(ho:dh X (binaryOp op) r)(ha:PE X a ta)(hb:PE X b tb):PE X (.BinOp a op b pos) (jt r ta tb):=by kl_no;exact wpAny_BinOp<|ahY ha hb I h λv u s2 x y H2 I2 rx ry q=>ho aj s2 σ H2 x y v u Q I2 rx ry q
def adk (ho:TY X (unaryOp op) r)(ha:PE X a ta):PE X (.UnaryOp op a pos) (tUn r ta):=by kl_no;refine UnaryOp_<|bK (ha aj s σ H _ I h) ?_;rintro v s1 ⟨x,H1,I1,r1,q1⟩;exact ho aj s1 σ H1 x v Q I1 r1 q1
def opI {g:Int->Int->Int}
  (rule:∀(i j:Int) (t u:Tok) (s:Shared) (Q:Value->Shared->Prop) (E:Value->Shared->Prop),C i j->Q (.int (g i j) s.toks) {s with toks:=s.toks+1}->wpAny (model X.prog X.w) X.A (f (.int i t)<|.int j u) Q E s):
  dh X f (rI C λi j=>.int<|g i j):=by
 fin2;let(i,j,rfl,rfl,hc,q):=h;let(t,rfl):=rx;let(t',rfl):=ry;exact rule i j t t' s _ _ hc ⟨.int<|g i j,H,I.tok _,⟨_,rfl⟩,q⟩
def ahZ {g:Int->Int->Int}
  (rule:∀(i j:Int) (t u:Tok) (s:Shared) (Q:Value->Shared->Prop) (E:Value->Shared->Prop),Q (.int (g i j) s.toks) {s with toks:=s.toks+1}->wpAny (model X.prog X.w) X.A (f (.int i t)<|.int j u) Q E s):
  dh X f (Kd λi j=>.int<|g i j):=by
 fin2;let(i,j,rfl,rfl,q):=h;let(t,rfl):=rx;let(t',rfl):=ry;exact rule i j t t' s _ _ ⟨.int<|g i j,H,I.tok _,⟨_,rfl⟩,q⟩
def adl {g:Int->Int->Bool}
  (rule:∀(i j:Int) (t u:Tok) (s:Shared) (Q:Value->Shared->Prop) (E:Value->Shared->Prop),Q (.bool<|g i j) s->wpAny (model X.prog X.w) X.A (f (.int i t)<|.int j u) Q E s):
  dh X f (Kd λi j=>.bl<|g i j):=by
 fin2;let(i,j,rfl,rfl,q):=h;let(t,rfl):=rx;let(t',rfl):=ry;exact rule i j t t' s _ _ (.bl<|g i j,H,I,rfl,q)
def adn (i j:Int):Prop:=0<=j/\j<=1000000/\i.natAbs<2^64
def anp:dh X (binaryOp .Add) (Kd λi j=>.int<|i+j):=ahZ λ_ _ _ _ _ _ _ q=>add_int q
def anq:dh X (binaryOp .Sub) (Kd λi j=>.int<|i - j):=ahZ λ_ _ _ _ _ _ _ q=>sub_int q
def anr:dh X (binaryOp .Mod) (rI (λ_ j=>0<j) λi j=>.int<|i % j):=opI λi j _ _ _ _ _ hc q=>by have h1:(0:Int)<j:=hc;exact mod_int' ∅ (by rw[Int.fmod_eq_emod_of_nonneg i ∅];exact q)
def ant:dh X (binaryOp .Pow) (rI adn λi j=>.int<|i^j.toNat):=opI λ_ _ _ _ _ _ _ hc q=>pow_int_small hc.1 hc.2.1 hc.2.2 q
def anu:dh X (binaryOp .BitXor) (Kd λi j=>.int<|Builtin.bitXor i j):=ahZ λ_ _ _ _ _ _ _ q=>xor_int q
def unI {f:Value->Sem Value}{g:Int->Int}
  (rule:∀(i:Int) (t:Tok) (s:Shared) (Q:Value->Shared->Prop) (E:Value->Shared->Prop),Q (.int (g i) s.toks) {s with toks:=s.toks+1}->wpAny (model X.prog X.w) X.A (f<|.int i t) Q E s):
  TY X f (rU λi=>.int<|g i):=by
 intro aj s σ H x v Q I rx h;let(i,rfl,q):=h;let(t,rfl):=rx;exact rule i t s _ _ ⟨.int<|g i,H,I.tok _,⟨_,rfl⟩,q⟩
def afo:TY X (unaryOp .USub) (rU λi=>.int<|-i):=unI λ_ _ _ _ _ q=>neg_int q
end
noncomputable def auL:V->V->Bool
 |.non,.non=>true|.non,.int _=>true|.int _,.non=>true|.non,.bl _=>true|.bl _,.non=>true|.non,.str _=>true|.str _,.non=>true
 |.int _,.int _=>true|.bl _,.bl _=>true|.str _,.str _=>true
 |.int _,.str _=>true|.str _,.int _=>true|.bl _,.str _=>true|.str _,.bl _=>true
 |_,_=>false
def rEq:R2:=λx y H Q=>auL x y=true/\Q (.bl<|decide<|x=y) H
def alT:decide (V.int i=V.int j)=(i==j):=by rw[i7];simp
def anv:decide (V.bl i=V.bl j)=(i==j):=by rw[i7];simp
def alU:decide (V.str i=V.str j)=(i==j):=by rw[i7];simp
section
variable {pos:Pos}
def jy (I:Inv X aj σ H s)(q:Q (.bl k) H)(e:k=k'):EP X aj σ Q (.bool k') s:=by subst e;exact(.bl k,H,I,rfl,q)
def qt:dh X (compareOp .Eq) rEq:=by
 fin2;let(hs,q):=h;cases x with
 |non=>
  cases rx;cases y with
  |non=>cases ry;exact PySem.EqNone.eq_none_none<|jy I q<|by simp
  |bl j=>cases ry;exact PySem.EqNone.eq_none_bool<|jy I q<|by simp
  |int j=>let(t',rfl):=ry;exact PySem.EqNone.eq_none_int<|jy I q<|by simp
  |str j=>let(t',rfl):=ry;exact PySem.EqNone.eq_none_str<|jy I q<|by simp
  |_=>exact absurd (show false=true from hs) bj
 |bl i=>
  cases rx;cases y with
  |non=>cases ry;exact PySem.EqNone.eq_bool_none<|jy I q<|by simp
  |bl j=>cases ry;exact eq_bool<|jy I q anv
  |str j=>let(t',rfl):=ry;exact PySem.EqMixed.eq_bool_str<|jy I q<|by simp
  |_=>exact absurd (show false=true from hs) bj
 |int i=>
  let(t,rfl):=rx;cases y with
  |non=>cases ry;exact PySem.EqNone.eq_int_none<|jy I q<|by simp
  |int j=>let(t',rfl):=ry;exact eq_int<|jy I q alT
  |str j=>let(t',rfl):=ry;exact PySem.EqMixed.eq_int_str<|jy I q<|by simp
  |_=>exact absurd (show false=true from hs) bj
 |str i=>
  let(t,rfl):=rx;cases y with
  |non=>cases ry;exact PySem.EqNone.eq_str_none<|jy I q<|by simp
  |bl j=>cases ry;exact PySem.EqMixed.eq_str_bool<|jy I q<|by simp
  |int j=>let(t',rfl):=ry;exact PySem.EqMixed.eq_str_int<|jy I q<|by simp
  |str j=>let(t',rfl):=ry;exact eq_str<|jy I q alU
  |_=>exact absurd (show false=true from hs) bj
 |_=>cases y<;>exact absurd (show false=true from hs) bj
def aq0:dh X (compareOp .Lt) (Kd λi j=>.bl<|decide<|i<j):=adl λ_ _ _ _ _ _ _ q=>lt_int q
def aq1:dh X (compareOp .LtE) (Kd λi j=>.bl<|decide<|i<=j):=adl λ_ _ _ _ _ _ _ q=>le_int q
def aq2:dh X (compareOp .Gt) (Kd λi j=>.bl<|decide<|j<i):=adl λ_ _ _ _ _ _ _ q=>gt_int q
def aq3:dh X (compareOp .GtE) (Kd λi j=>.bl<|decide<|j<=i):=adl λ_ _ _ _ _ _ _ q=>ge_int q
def anw:dh X (compareOp .Is) (λx y H Q=>y=.non/\Q (.bl<|decide<|x=.non) H):=by
 fin2;let(rfl,q):=h;cases ry;refine is_none_gen<|jy I q ?_;cases x<;>first
  |(cases rx;rfl)
  |(let(t,rfl):=rx;rfl)
def alV:dh X (compareOp .IsNot) (λx y H Q=>y=.non/\Q (.bl<|!decide (x=.non)) H):=by
 fin2;let(rfl,q):=h;cases ry;refine isnot_none_gen<|jy I q ?_;cases x<;>first
  |(cases rx;rfl)
  |(let(t,rfl):=rx;rfl)
def NT (b:Expr)(h:op≠ .In:=by decide)(h2:op≠ .NotIn:=by decide):behindInMarks op b=false:=by
 have e1:(op==CmpOp.In)=false:=by cases op<;>first|rfl|exact absurd rfl h
 have e2:(op==CmpOp.NotIn)=false:=by cases op<;>first|rfl|exact absurd rfl h2
 cases b<;>simp[behindInMarks,e1,e2]
def alW (ho:dh X (compareOp op) r)(ha:PE X a ta)(hb:PE X b tb)(hm:behindInMarks op b=false):PE X (.Compare a [op] [b] pos) (jt r ta tb):=by kl_no;exact wpAny_Compare1 (ahY ha hb I h λv u s2 x y H2 I2 rx ry q=>ho aj s2 σ H2 x y v u Q I2 rx ry q) hm
def anx (K:Frag)(x:V)(H:Hp)(k:Bool):Prop:=
 match x with
 |.non=>k=false
 |.bl b=>k=b
 |.int i=>k=(i !=0)
 |.str y=>y.length<=sizeLine/\k=((y.length:Int) !=0)
 |.ref p=>(∃xs,aZ K H p xs/\k= !xs.isEmpty)\/(∃xs,bV K H p xs/\k= !xs.isEmpty)\/∃aO,H p=some (.dK aO)/\k= !aO.isEmpty
 |_=>False
def ado (r:KV aO vs):(!vs.isEmpty)= !aO.isEmpty:=by cases r<;>rfl
def NZ (r:Vals xs aW):(!aW.toArray.isEmpty)= !xs.isEmpty:=by cases r<;>simp
def uZ:(sizeLine:Nat)<2^63:=by rw[kr];decide
def anz:auK X (λx H Q=>∃k,anx X.K x H k/\Q k H):=by
 intro aj s σ H x v Q I rx h;let(k,e,q):=h;have hl:=uZ;have hs:sizeLine=16777216:=kr;cases x with
 |non=>
  cases rx;have e':k=false:=e;subst e';exact truthy_none (H,I,q)
 |bl b=>
  cases rx;have e':k=b:=e;subst e';exact db (H,I,q)
 |int i=>let(t,rfl):=rx;have e':k=(i !=0):=e;subst e';exact PySem.P.truthy_int (H,I,q)
 |str y=>
  let(t,rfl):=rx;obtain⟨hy,e'⟩:y.length<=sizeLine/\k=((y.length:Int) !=0):=e;subst e';exact PySem.P.truthy_str ∅ (H,I.tok _,q)
 |ref p=>
  cases rx;have e':(∃xs,aZ X.K H p xs/\k= !xs.isEmpty)\/(∃xs,bV X.K H p xs/\k= !xs.isEmpty)\/∃aO,H p=some (.dK aO)/\k= !aO.isEmpty:=e;rcases e' with⟨xs,hx,e'⟩|⟨xs,hx,e'⟩|⟨aO,hx,e'⟩
  .subst e';let(aW,r,pl,hz):=I.list hx;have cZ:=r.length;exact wpAny_truthy_list pl.isList (by simp only[bm];lk) (H,I.tok _,by rw[NZ r];exact q)
  .subst e';let(aW,r,pl,hz):=I.tuple hx;have cZ:=r.length;exact truthy_tuple pl (by simp only[bm];lk) (H,I.tok _,by rw[NZ r];exact q)
  .subst e';obtain⟨hz,hS,vs,r,m⟩:aO.length<=sizeLine/\(p==sysModules)=false/\∃vs,KV aO vs/\s.heap.DictOf (iB X.prog X.w) p vs:=I.hok p _ hx;have cZ:aO.length=vs.length:=ox r;exact wpAny_truthy_dict hS m ∅ (H,I.tok _,by rw[ado r];exact q)
 |_=>exact(show False from e).elim
def ah0 (ha:PE X a ta)(he:∀o9,isTrue a X.env o9=(do let v<-o9;standAt a.pos;holding [v]<|truthy v)):
  PT X a (λσ H Q=>ta σ H λx H'=>∃k,anx X.K x H' k/\Q k H'):=by
 kl_no;refine isTrue_plain (bK (ha aj s σ H _ I h) ?_)<|he _;rintro v s1 ⟨x,H1,I1,r1,q1⟩;exact anz aj s1 σ H1 x v Q I1 r1 q1
def adp:dh X (binaryOp .Add) (λx y H Q=>∃i j,x=.str i/\y=.str j/\i.length+j.length<=sizeLine/\Q (.str<|i++j) H):=by fin2;let(i,j,rfl,rfl,hz,q):=h;let(t,rfl):=rx;let(t',rfl):=ry;exact add_str (λt' tk=>⟨.str<|i++j,H,I.tok _,⟨_,rfl⟩,q⟩) hz
def vals1 (r:Vals [x] us):∃u,us=[u]/\RelV x u:=by
 cases r with
 |cons r1 r2=>cases r2;exact(_,rfl,r1)
def vals2 (r:Vals [x,y] us):∃u w',us=[u,w']/\RelV x u/\RelV y w':=by
 cases r with
 |cons r1 r2=>
  cases r2 with
  |cons r3 r4=>cases r4;exact(_,_,rfl,r1,r3)
def ah1:iu X (.builtin "abs") (λxs H Q=>∃i,xs=[.int i]/\Q (.int<|if i<0 then -i else i) H):=by intro aj s σ H xs us Q I r h;let(i,rfl,q):=h;let(u,rfl,t,rfl):=vals1 r;exact call_abs_int λu tk=>⟨.int<|if i<0 then -i else i,H,I.tok _,⟨_,rfl⟩,q⟩
def afq (hc:X.calm=true):iu X (.builtin "max") (λxs H Q=>∃i j,xs=[.int i,.int j]/\Q (.int<|if j>i then j else i) H):=by
 room;let(i,j,rfl,q):=h;let(u,w',rfl,(t,rfl),(t',rfl)):=vals2 r;refine max_two_ints (I.ok.hd hc) λh' tk k=>⟨_,H,I.kept k,?_,q⟩;by_cases hj:j>i
 .rw[ar hj,ar hj];exact⟨_,rfl⟩
 .rw[ap hj,ap hj];exact⟨_,rfl⟩
def afr (hc:X.calm=true):iu X (.builtin "min") (λxs H Q=>∃i j,xs=[.int i,.int j]/\Q (.int<|if j<i then j else i) H):=by
 room;let(i,j,rfl,q):=h;let(u,w',rfl,(t,rfl),(t',rfl)):=vals2 r;refine min_two_ints (I.ok.hd hc) λh' tk k=>⟨_,H,I.kept k,?_,q⟩;by_cases hj:j<i
 .rw[ar hj,ar hj];exact⟨_,rfl⟩
 .rw[ap hj,ap hj];exact⟨_,rfl⟩
end
structure Lw (h:Heap)(x dx C:Addr)(mA:Str->Option Value):Prop where
 obj:h.get? x=some (instObj C dx)
 ns:h.Ns1 dx mA
 ne:dx≠x
def afs {h:Heap}{dx:Addr}{mA:Str->Option Value}(n:h.Ns1 dx mA):∃od,h.get? dx=some od/\∀name,lookIn name od=some (mA name):=by
 let(o,es,ep,ho,hd,hk,_,hm):=n;refine(o,ho,λname=>?_);have e:=hm name;unfold nsFind findBy at e;rw[<-Array.find?_toList] at e;unfold lookIn;rw[hd];k_ne;split
 .grind
 .rename_i q;rw[q] at e;have a:es.toList.any (·.refKey)=false:=by rw[List.any_eq_false];intro y hy;let(z,t,auM):=hk y<|Array.mem_toList_iff.mp hy;simp[DictEntry.refKey,auM]
  grind
def Lw.look (I:Lw h x dx C mA):∃od,PySem.W.InstAt h x (instObj C dx) C (some od)/\∀name,lookIn name od=some (mA name):=
 let⟨od,ho,hl⟩:=afs I.ns
 (od,(I.obj,rfl,rfl,ho),hl)
section
variable {K:Frag}
def get_map (X:K.In s.heap)(I:Lw s.heap x dx C mA)(hg:plainGet K C name=true)(hh:hasDictIn K C=true)
  (ha:findIn K (.ref C) name=some none)(hv:mA name=some v)(jF:handedIn v=true)(h:Q v {s with toks:=s.toks+1}):
  wpAny (model prog w) A (getAttr (.ref x) name expr) Q E s:=by
 let(od,J,hl):=I.look;exact PySem.W.get_value X J (plainGet_of hg).1 (PySem.W.findObj_own hh ha rfl<|by rw[hl,hv]) jF h
def ah2 (X:K.In s.heap)(I:Lw s.heap x dx C mA)(hg:plainGet K C name=true)
  (hf:findIn K (.ref C) name=some (some<|.ref f))(ht:isFn K (.ref f)=true)(hv:mA name=none)(h:Q (.ref f,[.ref x]) s):
  wpAny (model prog w) A (getMethod (.ref x) name pl) Q E s:=by
 let(od,J,hl):=I.look;exact PySem.W.method_fn X J (plainGet_of hg).1 (plainGet_of hg).2 hf (ot.mp ht) (by show(lookIn name od).map (·.isSome)=some false;rw[hl,hv];rfl) h
def alX (X:K.In s.heap)(I:Lw s.heap x dx C mA)
  (hs:findIn K (.ref C) "__setattr__"=some (some<|.builtin "object.__setattr__"))(hp:plainOver K C=true)(ht:takerIn K C name=some none)(hh:hasDictIn K C=true)
  (hw:PySem.Within mA ns)(hsz:ns.length<=sizeLine)
  (h:∀h',Lw h' x dx C (λy=>if y=name then some v else mA y)->Heap.SameBut dx s.heap h'->Q () {s with heap:=h',toks:=s.toks+2}):
  wpAny (model prog w) A (setAttr (.ref x) name v) Q E s:=by
 let(od,J,hl):=I.look;refine PySem.W.set_plain X J hs<|PySem.W.osa_open (s:={s with toks:=s.toks+1}) (r:=none) X J hp ht λb=>?_;let(cd,hc,Bb):=PySem.W.any_some hh;have hx:s.heap.get? x=some (.ref C,some dx,.plain,#[]):=I.obj;refine ai<|aS<|ai<|ai<|wpAny_loadPart hx<|ai<|PySem.W.Looks.here (s:={s with toks:=s.toks+1}) (PySem.W.looks_clsIn X hc) ?_;rw[Bb];refine aS (a:=some dx)<|ai<|aS<|ai ?_;refine wpAny_nsSet1 (s:={s with toks:=s.toks+1}) I.ns λh' Ke lX=>?_;let(oD,esD,epD,hoD,hdD,hcD):=Ke.count<|PySem.Within.cons name v hw;refine ai (wpAny_lookBehind hoD (by rw[hdD];exact pastItsLine_dict<|dL hcD (by rw[ay];lk)) ?_);exact aS<|h _ ((lX.2 _<|cp I.ne).trans I.obj,Ke,I.ne) lX
def ah3 (X:K.In s.heap)(hm:makesIn K C=true)
  (hi:findIn K (.ref C) "__init__"=some (some<|.ref f))(hf:PySem.W.typeIn K (.ref f)=some (.type "function"))
  (h:codeAny (model prog w) (A.under (.builtin "type.__call__" ⟨.ref C::vs,kw⟩)) (.call (.ref f) ⟨.ref (s.heap.objs.size+1)::vs,kw⟩) (PySem.W.InitBack (s.heap.objs.size+1) R)
   {s with heap:=(s.heap.push emptyDict).push (instObj C s.heap.objs.size)}):
  codeAny (model prog w) A (.call (.ref C) ⟨vs,kw⟩) R s:=by
 let(hh,g,d,t,os):=s;exact PySem.W.make_core (PySem.W.makes_of X hm) (PySem.W.looks_findIn X hi) (λself=>PySem.W.bind_fn X self hf) (.inl rfl) h
end
noncomputable def pZ (f:Str)(v:V):List (Str×V)->List (Str×V)
 |[]=>[(f,v)]
 |(g,x)::r=>if g=f then(g,v)::r else(g,x)::pZ f v r
theorem Kg (f g:Str)(v:V):∀fs:List (Str×V),(pZ f v fs).lookup g=if g=f then some v else fs.lookup g
 |[]=>by show List.lookup g [(f,v)]=_;grind
 |(k,x)::r=>by have ih:=Kg f g v r;rw[show pZ f v ((k,x)::r)=(if k=f then(k,v)::r else(k,x)::pZ f v r) from rfl];grind
theorem Gw (f:Str)(v:V):∀fs:List (Str×V),f∈(pZ f v fs).map (·.1)/\∀g,g∈fs.map (·.1)->g∈(pZ f v fs).map (·.1)
 |[]=>⟨by simp[pZ],λg h=>by simp at h⟩
 |(k,x)::r=>by let(i1,i2):=Gw f v r;rw[show pZ f v ((k,x)::r)=(if k=f then(k,v)::r else(k,x)::pZ f v r) from rfl];grind
theorem Kh (f:Str)(v:V):∀fs:List (Str×V),(pZ f v fs).length<=fs.length+1
 |[]=>by simp[pZ]
 |(k,x)::r=>by have ih:=Kh f v r;rw[show pZ f v ((k,x)::r)=(if k=f then(k,v)::r else(k,x)::pZ f v r) from rfl];grind
def rF.some_of (r:rF (some v) o):∃u,o=some u/\RelV v u:=by
 cases o with
 |none=>exact(show False from r).elim
 |some u=>exact(u,rfl,r)
def rF.none_of (r:rF none o):o=none:=by
 cases o with
 |none=>rfl
 |some u=>exact(show False from r).elim
def aft (r:RelV v u):handedIn u=true:=by
 cases v with
 |non=>cases(show u=Value.none from r);rfl
 |bl b=>cases(show u=Value.bool b from r);rfl
 |int i=>let(t,e):=(show ∃t,u=Value.int i t from r);cases e;rfl
 |str x=>let(t,e):=(show ∃t,u=Value.str x t from r);cases e;rfl
 |ref a=>cases(show u=Value.ref a from r);rfl
 |ty n=>cases(show u=type n from r);rfl
section
variable {fs fs':List (Str×V)}
def Rw (hok:mz P w H h)(e:H a=some (.ins C dx fs)):∃mA,Lw h a dx C mA/\(∀f,rF (fs.lookup f) (mA f))/\PySem.Within mA (fs.map (·.1))/\fs.length<=1000/\H dx=some (.own a):=by let(d,z,ne,ob,mA,n,r,q):=(show jw P w H h a (.ins C dx fs) from hok a _ e);exact(mA,(ob,n,ne),r,q,z,d)
end
structure Cls (K:Frag)(C:Addr):Prop where
 pg:plainGet K C Str.empty=true
 hd:hasDictIn K C=true
 po:plainOver K C=true
 sa:findIn K (.ref C) "__setattr__"=some (some<|.builtin "object.__setattr__")
def Cls.get {K:Frag}{C:Addr}(c:Cls K C)(f:Str):plainGet K C f=true:=c.pg
def rJ (K:Frag)(C:Addr)(f:Str):Prop:=findIn K (.ref C) f=some none
def rJ.taker {K:Frag}{C:Addr}{f:Str}(n:rJ K C f):takerIn K C f=some none:=by unfold takerIn;rw[show findIn K (.ref C) f=some none from n];rfl
structure Meth (K:Frag)(C:Addr)(m:Str)(f:Addr):Prop where
 at_:findIn K (.ref C) m=some (some<|.ref f)
 fn:isFn K (.ref f)=true
 kp:keepIn K (.ref f)=true
section
variable {E:Value->Shared->Prop}
def adq (I:Inv X aj σ H s)(e:H a=some (.ins C dx fs))(c:Cls X.K C)(n:rJ X.K C f)(l:fs.lookup f=some v)
  (h:∀u s',Inv X aj σ H s'->RelV v u->Q u s'):wpAny (model X.prog X.w) A (getAttr (.ref a) f b) Q E s:=by
 let(mA,O,r,_,_,_):=Rw I.hok e;let(u,hu,ru):=rF.some_of (v:=v) (o:=mA f) (by rw[<-l];exact r f);exact get_map I.qP O (c.get f) c.hd n hu (aft ru)<|h u _ (I.tok _) ru
def N5 (I:Inv X aj σ H s)(e:H a=some (.ins C dx fs))(c:Cls X.K C)(k:Meth X.K C m g)(l:fs.lookup m=none)
  (h:Q (.ref g,[.ref a]) s):wpAny (model X.prog X.w) A (getMethod (.ref a) m pl) Q E s:=by
 let(mA,O,r,_,_,_):=Rw I.hok e;have hn:mA m=none:=rF.none_of (by rw[<-l];exact r m);exact ah2 I.qP O (c.get m) k.at_ k.fn hn h
def adt (I:Inv X aj σ H s)(e:H a=some (.ins C dx fs))(c:Cls X.K C)(n:rJ X.K C f)(hl:fs.length<1000)(ry:RelV y u)
  (h:∀s',Inv X aj σ (upd H a<|.ins C dx<|pZ f y fs) s'->Q () s'):wpAny (model X.prog X.w) A (setAttr (.ref a) f u) Q E s:=by
 let(mA,O,r,wi,_,ho):=Rw I.hok e;have hz:(fs.map (·.1)).length<=sizeLine:=by rw[af,kr];lk
 refine alX I.qP O c.sa c.po n.taker c.hd wi hz λh' O' sb=>h _ ?_;have hd:∃o,h'.get? dx=some o:=let⟨o,_,_,e',_⟩:=O'.ns;⟨o,e'⟩;refine I.write (x:=a) (e:=dx) (by rw[e];exact fN) (.inr ho) (λb q hb z=>(sb.2 b hb).trans z) hd ?_;refine⟨by rw[aJ O.ne];exact ho,?_,O.ne,O'.obj,_,O'.ns,λg=>?_,λg hg=>?_⟩
 .have:=Kh f y fs;lk
 .show rF ((pZ f y fs).lookup g) (if g=f then some u else mA g);rw[Kg];by_cases q:g=f
  .rw[ar q,ar q];exact ry
  .grind
 .by_cases q:g=f
  .rw[q];exact(Gw f y fs).1
  .refine(Gw f y fs).2 g<|wi g λz=>hg ?_;lk
def Inv.made (I:Inv X aj σ H s):Inv X aj σ (upd (upd H s.heap.objs.size<|.own<|s.heap.objs.size+1) (s.heap.objs.size+1)<|.ins C s.heap.objs.size [])
  {s with heap:=(s.heap.push emptyDict).push<|instObj C s.heap.objs.size}:=by
 have e1:(s.heap.push emptyDict).get? s.heap.objs.size=some emptyDict:=da s.heap rfl;have e2:((s.heap.push emptyDict).push<|instObj C s.heap.objs.size).get? (s.heap.objs.size+1)=some (instObj C s.heap.objs.size):=by have:=da (s.heap.push emptyDict) (o:=instObj C s.heap.objs.size) rfl;simp_all
 have e3:(s.heap.push emptyDict).Ns s.heap.objs.size (λ_=>none):=⟨emptyDict,#[],_,e1,rfl,(λe he=>absurd he<|by simp),λ_=>rfl⟩;have I1:=I.laid (a:=s.heap.objs.size) (o:=.own<|s.heap.objs.size+1) (h':=s.heap.push emptyDict) (t':=s.toks) (λb u q=>aT _ q) (ax _) ⟨_,e1⟩;refine I1.laid (a:=s.heap.objs.size+1) (o:=.ins C s.heap.objs.size []) (t':=s.toks) (λb u q=>aT _ q) (Nat.le_of_eq<|Heap.size_push _ _) ?_;have ne:s.heap.objs.size≠s.heap.objs.size+1:=dq<|jp _;refine⟨by rw[aJ ne,au],dE _,ne,e2,λ_=>none,(Heap.Ns1.of_empty e3).at λo q=>aT _ q,λ_=>fN,λy hy=>absurd rfl hy⟩
def alY (hb:attributeBase e f env (eval e env)=eval e env)
  (h:wpAny (model prog w) A (eval e env) (λo cJ=>wpAny (model prog w) A (getAttr o f true) Q E cJ) E s):wpAny (model prog w) A (eval (.Attribute e f pos) env) Q E s:=
 Attribute_any_ h (by rw[arm_eval_Attribute,hb])
end
def adu (K:Frag)(ta:TE)(f:Str):TE:=λσ H Q=>ta σ H λx H1=>∃a C dx fs v,x=.ref a/\H1 a=some (.ins C dx fs)/\Cls K C/\rJ K C f/\fs.lookup f=some v/\Q v H1
def auN (K:Frag)(ta tv:TE)(f:Str):TS:=λD σ H=>tv σ H λy H1=>ta σ H1 λx H2=>∃a C dx fs,x=.ref a/\H2 a=some (.ins C dx fs)/\Cls K C/\rJ K C f/\fs.length<1000/\
 D.nx σ (upd H2 a<|.ins C dx<|pZ f y fs)
section
variable {ta tv:TE}
def gO (he:PE X e ta)(hb:attributeBase e f X.env (eval e X.env)=eval e X.env):PE X (.Attribute e f pos) (adu X.K ta f):=by kl_no;refine alY hb<|bK (he aj s σ H _ I h) ?_;rintro u s1 ⟨x,H1,I1,rx,a,C,dx,fs,v,ex,ea,c,n,l,q⟩;subst ex;obtain rfl:u=Value.ref a:=rx;exact adq I1 ea c n l λu' s2 I2 ru=>(v,H1,I2,ru,q)
def afu (ha:PE X o ta)(hv:PE X value tv)(hs:swapsWith value (some<|.Attribute o f xP) pos.line X.env=pure false):PS X (.Assign [.Attribute o f xP] value pos) (auN X.K ta tv f):=by k_sub;refine plainObj_wpAny_Assign_Attribute (bK (hv aj s σ H _ I h) ?_) hs;rintro u s1 ⟨y,H1,I1,ry,q⟩;refine bK (ha aj s1 σ H1 _ I1 q) ?_;rintro ov s2 ⟨x,H2,I2,rx,a,C,dx,fs,ex,ea,c,n,l,q2⟩;subst ex;obtain rfl:ov=Value.ref a:=rx;exact adt I2 ea c n l ry λs3 I3=>(σ,_,I3,q2)
end
section
variable {b:Bool}
end
structure gD (k:Nat)(A:Around):Prop where
 hd:A.handled=none
 dp:A.depth+3*k+5<recursionLimit
 un:A.units+16*k+200<cLine
def gD.mono (r:gD k A)(h:j<=k):gD j A:=(r.hd,by have:=r.dp;lk,by have:=r.un;lk)
theorem gD.deeper {k:Nat}{A:Around}(r:gD (k+1) A)(env:Env):gD k (A.deeper env):=
 (r.hd,by have:=r.dp;show A.depth+1+3*k+5<_;lk,by have:=r.un;show A.units+3+16*k+200<_;lk)
def adv {A:Around}{C:Addr}{us:List Value}{kw:List (Str×Value)}:(A.under<|.builtin "type.__call__" ⟨.ref C::us,kw⟩).depth=A.depth+1:=by rfl
def adw {A:Around}{C:Addr}{us:List Value}{kw:List (Str×Value)}:(A.under<|.builtin "type.__call__" ⟨.ref C::us,kw⟩).units=A.units+1:=by rfl
def gD.make {k:Nat}{A:Around}(r:gD (k+1) A)(C:Addr)(us:List Value)(kw:List (Str×Value)):gD k (A.under<|.builtin "type.__call__" ⟨.ref C::us,kw⟩):=
 ⟨r.hd,by have:=r.dp;rw[adv];lk,by have:=r.un;rw[adw];lk⟩
theorem gD.depth {k:Nat}{A:Around}(r:gD k A):A.depth<recursionLimit:=by have:=r.dp;lk
theorem gD.units (r:gD k A):A.units+64<cLine:=by have:=r.un;lk
def c7:TA:=λ_ H Q=>Q [] H
def bR (ta:TE)(tr:TA):TA:=λσ H Q=>ta σ H λx H1=>tr σ H1 λxs H2=>Q (x::xs) H2
section
variable {pos:Pos}
def aP:PA X [] c7:=λ_ _ _ _ H Q I h=>lI ([],H,I,.nil,h)
def ak (ha:PE X e te)(hr:PA X es t)(hs:starEach (e::es) X.env=(false,eval e X.env)::starEach es X.env:=by rfl):PA X (e::es) (bR te t):=by intro pos aj s σ H Q I h;rw[hs];show wpAny _ _ (spliced ((false,eval e X.env)::backTo pos (starEach es X.env))) _ _ s;refine kT<|bK (ha aj s σ H _ I h) ?_;rintro u s1 ⟨x,H1,I1,r1,q1⟩;refine bK (hr pos aj s1 σ H1 _ I1 q1) ?_;rintro us s2 ⟨xs,H2,I2,r2,q2⟩;exact(x::xs,H2,I2,.cons r1 r2,q2)
def vQ (t:TA):TE:=λσ H Q=>t σ H λxs H1=>xs.length<=sizeLine/\∀p,H1 p=none->Q (.ref p) (upd H1 p<|.tup xs)
def Rx (t:TA):TE:=λσ H Q=>t σ H λxs H1=>xs.length<=sizeLine/\∀p,H1 p=none->Q (.ref p) (upd H1 p<|.lst xs)
def jM {x1}(h:PA X es t):PE X (.Tuple es x1 pos) (vQ t):=by intro aj s σ H Q I hq;refine wpAny_Tuple_spliced<|bK (h pos aj s σ H _ I hq) ?_;rintro us s1 ⟨xs,H1,I1,r,z,q⟩;refine⟨by rw[<-r.length];exact z,?_⟩;have hf:H1 s1.heap.objs.size=none:=I1.hok.fresh<|ax _;refine⟨.ref s1.heap.objs.size,upd H1 s1.heap.objs.size<|.tup xs,I1.laid (t':=s1.toks) (λb u e=>aT _ e) (ax _) ?_,rfl,q _ hf⟩;exact⟨z,us,r,⟨_,da _ rfl,rfl,_,rfl⟩⟩
def xQ (h:PA X es t):PE X (.List es pos) (Rx t):=by intro aj s σ H Q I hq;refine wpAny_List_spliced<|bK (h pos aj s σ H _ I hq) ?_;rintro us s1 ⟨xs,H1,I1,r,z,q⟩;refine⟨by rw[<-r.length];exact z,?_⟩;have hf:H1 s1.heap.objs.size=none:=I1.hok.fresh<|ax _;refine⟨.ref s1.heap.objs.size,upd H1 s1.heap.objs.size<|.lst xs,I1.laid (t':=s1.toks) (λb u e=>aT _ e) (ax _) ?_,rfl,q _ hf⟩;exact⟨z,us,0,r,da _ rfl⟩
end
abbrev Sp:=List V->Hp->VK->XK->Prop
abbrev N6:=List Env->Hp->Shared->XK->Value->Shared->Prop
structure Ly (P:Program)(w:World)(K:Frag)(mg:Str->Option Value)(base:Heap)(A:Around)(outer:List Env)(s:Shared)(H:Hp):Prop where
 frames:A.frames=some outer
 mod:Mod K mg base
 bs:∀b o,base.get? b=some o->s.heap.get? b=some o/\H b=none
 Ka:base.objs.size<=s.heap.objs.size
 vP:s.heap.FunFrames base outer
 XR:∀b∈frs outer,H b=none
 hok:mz P w H s.heap
 bare:AllBare s.gens
def CE (outer:List Env)(P:Program)(w:World)(H:Hp)(s:Shared)(Q:VK)(u:Value)(s':Shared):Prop:=
 ∃v H',s'.os=s.os/\AllBare s'.gens/\Un (frs outer) [] H H' s.heap s'.heap/\mz P w H' s'.heap/\RelV v u/\Q v H'
def CR (CX:N6)(outer:List Env)(P:Program)(w:World)(H:Hp)(s:Shared)(Q:VK)(E:XK)(r:Result)(s':Shared):Prop:=
 match r with
 |.ok (.ret u)=>CE outer P w H s Q u s'
 |.ok _=>False
 |.error e=>CX outer H s E e s'
structure bJ (P:Program)(w:World)(K:Frag)(mg:Str->Option Value)(base:Heap)(CX:N6)(k:Nat)(f:Addr)(fd:FuncData)(ps:List Str)(sp:Sp):Prop where
 len:∀vs H Q E,sp vs H Q E->vs.length=ps.length
 run:∀(A:Around) (outer:List Env) (s:Shared) (H:Hp) (args:Args) (us:List Value) (vs:List V) (Q:VK) (E:XK),gD k A->Ly P w K mg base A outer s H->BindsTo s fd args (ps.zip us)->Vals vs us->sp vs H Q E->
  codeAny (model P w) A (.call (.ref f) args) (CR CX outer P w H s Q E) s
def Ly.make {P:Program}{w:World}{K:Frag}{mg:Str->Option Value}{base:Heap}{A:Around}{outer:List Env}{s:Shared}{H:Hp}(e:Ly P w K mg base A outer s H)(C:Addr)(us:List Value)(kw:List (Str×Value)):
  Ly P w K mg base (A.under<|.builtin "type.__call__" ⟨.ref C::us,kw⟩) outer s H:=⟨by first|exact e.frames|(simpa [Around.under,Code.envs,Code.isFrame,pushEnvs] using e.frames),e.mod,e.bs,e.Ka,e.vP,e.XR,e.hok,e.bare⟩
section
variable {s s':Shared}
def Inv.env0 (I:Inv X aj σ H s):Ly X.prog X.w X.K X.mg X.base X.A X.stack s H:=
 (I.ok.frames,I.ok.mod,I.bs,dL I.ok.Ka I.sz,I.stack,I.aby,I.hok,I.bare)
def Inv.after (I:Inv X aj σ H s)(h:CE X.stack X.prog X.w H s Q u s'):EP X aj σ Q u s':=by let(v,H',os,bare,un,hok,r,q):=h;let(hh,g,d,t,os'):=s';obtain rfl:os'=s.os:=os;exact(v,H',I.call (h':=hh) (g':=g) (d':=d) (t':=t) (ch:=[]) un hok bare<|λb z=>absurd z<|by simp,r,q)
end
def iM (sp:Sp)(qQ:List V)(E:XK)(t:TA):TE:=λσ H Q=>t σ H λvs H1=>sp (vs++qQ) H1 Q E
def gF (C:Addr)(m:Str)(sp:Sp)(qQ:List V)(E:XK)(ta:TE)(t:TA):TE:=λσ H Q=>ta σ H λx H1=>∃a dx fs,x=.ref a/\H1 a=some (.ins C dx fs)/\fs.lookup m=none/\
 t σ H1 λvs H2=>sp (x::(vs++qQ)) H2 Q E
def ako (C:Addr)(sp:Sp)(qQ:List V)(E:XK)(t:TA):TE:=λσ H Q=>t σ H λvs H1=>∀x dx,H1 x=none->H1 dx=none->dx≠x->
 sp (.ref x::(vs++qQ)) (upd (upd H1 dx<|.own x) x<|.ins C dx []) (λv H2=>v=.non/\Q (.ref x) H2) E
def Binds (K:Frag)(fd:FuncData)(ps:List Str)(ds:List Value):Prop:=
 ∀(s:Shared) (us:List Value),K.In s.heap->(us++ds).length=ps.length->BindsTo s fd ⟨us,[]⟩ (ps.zip<|us++ds)
def Binds.all {K:Frag}{fd:FuncData}{ps:List Str}(h:∀us:List Value,us.length=ps.length->bindArgs fd ⟨us,[]⟩=pure (ps.zip us)):Binds K fd ps []:=λs us _ hl=>by rw[df] at hl ⊢;exact .of_eq<|h us hl
def Passes (CX:N6)(X:Cx)(E:XK):Prop:=∀(aj:List (Addr×Obj)) (σ:St) (H:Hp) (s:Shared) (e:Value) (s':Shared),Inv X aj σ H s->CX X.stack H s E e s'->X.xe e s'
section
variable {t:TA}
def Ye (F:bJ X.prog X.w X.K X.mg X.base CX k f fd ps sp)(hr:gD k X.A)(hb:Binds X.K fd ps ds)(hd:Vals qQ ds)(hx:Passes CX X E)
  (I:Inv X aj σ H s)(r:Vals vs us)(h:sp (vs++qQ) H Q E):wpAny (model X.prog X.w) X.A (call (.ref f) us) (EP X aj σ Q) X.xe s:=by
 have r2:Vals (vs++qQ) (us++ds):=r.append hd;have hl:(us++ds).length=ps.length:=by rw[<-r2.length];exact F.len _ _ _ _ h
 refine wpAny_call<|li (F.run X.A X.stack s H ⟨us,[]⟩ (us++ds) (vs++qQ) Q E hr I.env0 (hb s us I.qP hl) r2 h) λr s' hq=>?_;cases r with
 |error e=>exact hx aj σ H s e s' I hq
 |ok fl=>
  cases fl with
  |ret u=>exact I.after hq
  |next=>assumption
  |brk=>assumption
  |cont=>assumption
def alZ (F:bJ X.prog X.w X.K X.mg X.base CX k f fd ps sp)(hr:gD k X.A)(hg:Gl X x)(hm:X.mg x=some (.ref f))(hk:keepIn X.K (.ref f)=true)(hb:Binds X.K fd ps ds)(hd:Vals qQ ds)(hx:Passes CX X E)
  (ha:PA X (e::es) t)(N7:(x==("__debug__":Str))=false:=by decide)(he:starEach (e::es) X.env=(false,eval e X.env)::starEach es X.env:=by rfl)(xR:(backTo pos<|starEach es X.env).any (·.1)=false:=by rfl):
  PE X (.Call (.Name x p) (e::es) [] pos) (iM sp qQ E t):=by
 kl_no;refine hJ<|Ru I hg hm ?_ N7;refine callWith_K (h₀:=X.base) I.ok.mod.kin hk (bK (ha pos aj s σ H _ I h) ?_) he xR;rintro us s1 ⟨vs,H1,I1,r,q⟩;refine⟨I1.qP,?_⟩;exact Ye F hr hb hd hx I1 r q
def cL (he:PE X o ta)(c:Cls X.K C)(hm:Meth X.K C m f)(F:bJ X.prog X.w X.K X.mg X.base CX k f fd ps sp)(hr:gD k X.A)(hb:Binds X.K fd ps ds)(hd:Vals qQ ds)(hx:Passes CX X E)(ha:PA X (e::es) t)
  (bh:starEach (e::es) X.env=(false,eval e X.env)::starEach es X.env:=by rfl)(xR:(backTo pos<|starEach es X.env).any (·.1)=false:=by rfl)
  (ht:eval (.Call (.Attribute o m iQ) (e::es) [] pos) X.env=(do
   let ov<-eval o X.env
   standAt iQ.atName
   let(f,first)<-holding [ov] (getMethod ov m pl)
   callWith pos f first (backTo pos (starEach (e::es) X.env)) (backToKw pos (keywordEach [] X.env))):=by rfl):
  PE X (.Call (.Attribute o m iQ) (e::es) [] pos) (gF C m sp qQ E ta t):=by
 kl_no;refine no (pl:=pl) (bK (he aj s σ H _ I h) ?_) ht;rintro u s1 ⟨x,H1,I1,rx,a,dx,fs,ex,ea,l,q⟩;subst ex;obtain rfl:u=Value.ref a:=rx;refine N5 I1 ea c hm l ?_;refine callWith_K (first:=[.ref a]) (h₀:=X.base) I.ok.mod.kin hm.kp (bK (ha pos aj s1 σ H1 _ I1 q) ?_) bh xR;rintro us s2 ⟨vs,H2,I2,r,q2⟩;refine⟨I2.qP,?_⟩;exact Ye (us:=.ref a::us) (vs:=.ref a::vs) F hr hb hd hx I2 (.cons rfl r) q2
def Lz (he:PE X o ta)(c:Cls X.K C)(hm:Meth X.K C m f)(F:bJ X.prog X.w X.K X.mg X.base CX k f fd ps sp)(hr:gD k X.A)(hb:Binds X.K fd ps ds)(hd:Vals qQ ds)(hx:Passes CX X E)
  (ht:eval (.Call (.Attribute o m iQ) [] [] pos) X.env=(do
   let ov<-eval o X.env
   standAt iQ.atName
   let(f,first)<-holding [ov] (getMethod ov m pl)
   callWith pos f first (backTo pos (starEach [] X.env)) (backToKw pos (keywordEach [] X.env))):=by rfl):
  PE X (.Call (.Attribute o m iQ) [] [] pos) (gF C m sp qQ E ta c7):=by
 kl_no;refine no (pl:=pl) (bK (he aj s σ H _ I h) ?_) ht;rintro u s1 ⟨x,H1,I1,rx,a,dx,fs,ex,ea,l,q⟩;subst ex;obtain rfl:u=Value.ref a:=rx;refine N5 I1 ea c hm l ?_;exact PySem.W.callWith_K0 (first:=[.ref a]) I1.qP hm.kp (Ye (us:=[.ref a]) (vs:=[.ref a]) F hr hb hd hx I1 (.cons rfl .nil) q)
structure Mk (K:Frag)(C f:Addr):Prop where
 makes:makesIn K C=true
 init:findIn K (.ref C) "__init__"=some (some<|.ref f)
 fn:isFn K (.ref f)=true
 kp:keepIn K (.ref C)=true
def ah4 (M:Mk X.K C f)(F:bJ X.prog X.w X.K X.mg X.base CX k f fd ps sp)(hr:gD (k+1) X.A)(hb:Binds X.K fd ps ds)(hd:Vals qQ ds)
  (hx:Passes CX X E)(I:Inv X aj σ H s)(r:Vals vs us)
  (h:∀x dx,H x=none->H dx=none->dx≠x->sp (.ref x::(vs++qQ)) (upd (upd H dx<|.own x) x<|.ins C dx []) (λv H2=>v=.non/\Q (.ref x) H2) E):
  wpAny (model X.prog X.w) X.A (call (.ref C) us) (EP X aj σ Q) X.xe s:=by
 have hq:=h (s.heap.objs.size+1) s.heap.objs.size (I.hok.fresh<|oq _) (I.hok.fresh<|ax _)<|dq<|jp _;have I2:=Inv.made (C:=C) I;have r2:Vals (V.ref (s.heap.objs.size+1)::(vs++qQ)) (Value.ref (s.heap.objs.size+1)::(us++ds)):=.cons rfl<|r.append hd;have hl:(Value.ref (s.heap.objs.size+1)::us++ds).length=ps.length:=by have e:=r2.length;rw[F.len _ _ _ _ hq] at e;exact e.symm
 refine wpAny_call (ah3 (f:=f) I.qP M.makes M.init (ot.mp M.fn) (li (F.run _ X.stack _ _ ⟨Value.ref (s.heap.objs.size+1)::us,[]⟩ (Value.ref (s.heap.objs.size+1)::(us++ds)) _ _ E (hr.make C us [])
  (I2.env0.make C us []) (hb _ (Value.ref (s.heap.objs.size+1)::us) I2.qP hl) r2 hq) λr s' hq'=>?_))
 cases r with
 |error e=>exact hx aj σ _ _ e s' I2 hq'
 |ok fl=>
  cases fl with
  |ret u=>let(v,H',I3,rv,ev,q3):=I2.after hq';subst ev;exact⟨rv,⟨V.ref<|s.heap.objs.size+1,H',I3,rfl,q3⟩⟩
  |next=>exact False.elim hq'
  |brk=>exact False.elim hq'
  |cont=>exact False.elim hq'
def abC (M:Mk X.K C f)(F:bJ X.prog X.w X.K X.mg X.base CX k f fd ps sp)(hr:gD (k+1) X.A)(hg:Gl X x)(hm:X.mg x=some (.ref C))(hb:Binds X.K fd ps ds)(hd:Vals qQ ds)(hx:Passes CX X E)
  (ha:PA X (e::es) t)(N7:(x==("__debug__":Str))=false:=by decide)(he:starEach (e::es) X.env=(false,eval e X.env)::starEach es X.env:=by rfl)(xR:(backTo pos<|starEach es X.env).any (·.1)=false:=by rfl):
  PE X (.Call (.Name x p) (e::es) [] pos) (ako C sp qQ E t):=by
 kl_no;refine hJ<|Ru I hg hm ?_ N7;refine callWith_K (h₀:=X.base) I.ok.mod.kin M.kp (bK (ha pos aj s σ H _ I h) ?_) he xR;rintro us s1 ⟨vs,H1,I1,r,q⟩;refine⟨I1.qP,?_⟩;exact ah4 M F hr hb hd hx I1 r q
end
section
variable {nm:Option Str}
variable {gV:List V->List V->List V}
end
structure cB (N P:List Str)(sc:Scope):Prop where
 kind:sc.kind=.function
 co:sc.isCoroutine=false
 gen:sc.isGenerator=false
 nd:N.Nodup
 pre:N.take P.length=P
 par:∀x∈P,sc.names.lookup x=some .local\/sc.names.lookup x=some .cell
 anA:∀y∈sc.names,y.2≠ .free
theorem T3 {kindOf:Str->Option NameKind}{x:Str}:∀{binds:List (Str×Value)}{m:Str->Option Value},(∀v,(x,v)∉binds)->bindL kindOf binds m x=m x
 |[],_,_=>rfl
 |(n,v)::r,m,h=>by
  unfold bindL;rw[T3 λw hw=>h w<|aa _ hw];split
  .grind
  .rfl
theorem T4 {kindOf:Str->Option NameKind}{x:Str}:∀{binds:List (Str×Value)}{m:Str->Option Value},(∀v,(x,v)∉binds)->bindC kindOf binds m x=m x
 |[],_,_=>rfl
 |(n,v)::r,m,h=>by
  unfold bindC;rw[T4 λw hw=>h w<|aa _ hw];split
  .rfl
  .grind
theorem T5 {kindOf:Str->Option NameKind}{x:Str}{v:Value}:∀{P:List Str}{vs:List Value} {i:Nat} {m:Str->Option Value},P.Nodup->P[i]? =some x->vs[i]? =some v->kindOf x=some .local->
  bindL kindOf (P.zip vs) m x=some v
 |[],_,_,_,_,h,_,_=>by simp at h
 |_::_,[],_,_,_,_,h,_=>by simp at h
 |p::P,w::vs,0,m,nd,h1,h2,hk=>by
  simp at h1 h2;subst h1;subst h2;show bindL kindOf ((p,w)::P.zip vs) m p=_;unfold bindL;rw[T3 λv hv=>(bg.mp nd).1 (jS hv).1,ar hk];simp
 |p::P,w::vs,i+1,m,nd,h1,h2,hk=>by show bindL kindOf ((p,w)::P.zip vs) m x=_;unfold bindL;exact T5 (i:=i) (bg.mp nd).2 (by simpa using h1) (by simpa using h2) hk
theorem T6 {kindOf:Str->Option NameKind}{x:Str}{v:Value}:∀{P:List Str}{vs:List Value} {i:Nat} {m:Str->Option Value},P.Nodup->P[i]? =some x->vs[i]? =some v->kindOf x≠some .local->
  bindC kindOf (P.zip vs) m x=some v
 |[],_,_,_,_,h,_,_=>by simp at h
 |_::_,[],_,_,_,_,h,_=>by simp at h
 |p::P,w::vs,0,m,nd,h1,h2,hk=>by
  simp at h1 h2;subst h1;subst h2;show bindC kindOf ((p,w)::P.zip vs) m p=_;unfold bindC;rw[T4 λv hv=>(bg.mp nd).1 (jS hv).1,ap hk];simp
 |p::P,w::vs,i+1,m,nd,h1,h2,hk=>by show bindC kindOf ((p,w)::P.zip vs) m x=_;unfold bindC;exact T6 (i:=i) (bg.mp nd).2 (by simpa using h1) (by simpa using h2) hk
noncomputable def start (N:List Str)(vs:List V):St:=vs.map some++replicate (N.length - vs.length) none
noncomputable def jP (CX:N6)(P:Program)(w:World)(K:Frag)(mg:Str->Option Value)(base:Heap)(N:List Str)(qual:Str)(scope:Scope)(f:Addr)(cd:Value)(A:Around)(outer:List Env)(s:Shared)(H:Hp)(E:XK):Cx where
 prog:=P
 w:=w
 K:=K
 mg:=mg
 base:=base
 A:=A.deeper<|envOfC qual scope s.heap.objs.size f cd
 N:=N
 s₀:=s
 ao:=H
 env:=envOfC qual scope s.heap.objs.size f cd
 outer:=outer
 stack:=envOfC qual scope s.heap.objs.size f cd::outer
 ex:=[]
 calm:=true
 fn:=λ_=>true
 pn:=[]
 xe:=λe s'=>wpAny (model P w) (A.deeper<|envOfC qual scope s.heap.objs.size f cd) (leaving (envOfC qual scope s.heap.objs.size f cd) e) (λ_ s''=>CX outer H s E e s'') (λe' s''=>CX outer H s E e' s'') s'
def Yg {sc:Scope}{n:Nat}{x:Str}(h:sc.names.lookup x=some .cell):∃c,(cellsFrom n sc.names []).lookup x=some c:=by have q:=mf sc.names n []<|.inl h;exact Option.isSome_iff_exists.mp q
def afx {CX:N6}{P:Program}{w:World}{K:Frag}{mg:Str->Option Value}{base:Heap}{N ps:List Str}{qual:Str}{scope:Scope}{f:Addr}{cd:Value}{A:Around}{outer:List Env}{s s1:Shared}{H:Hp}{E:XK}{us:List Value}{vs:List V}
  (S:cB N ps scope)(hd:A.handled=none)(e0:Ly P w K mg base A outer s H)(hl:vs.length=ps.length)(r:Vals vs us)
  (x:InCallC s s.heap.objs.size (bindL (envOfC qual scope s.heap.objs.size f cd).kindOf (ps.zip us) λ_=>none) (cellsFrom (s.heap.objs.size+1) scope.names []) (bindC (envOfC qual scope s.heap.objs.size f cd).kindOf (ps.zip us) λ_=>none) s1):
  Inv (jP CX P w K mg base N qual scope f cd A outer s H E) [] (start N vs) H s1:=by
 have xR:ps.length<=N.length:=by have:=dT List.length S.pre;rw[dt] at this;lk
 let(h1,tk,rfl,hk):=x.done;have noA:∀b:Addr,b∉(jP CX P w K mg base N qual scope f cd A outer s H E).ex:=λb z=>absurd (show b∈([]:List Addr) from z) (by simp);refine⟨⟨e0.mod,S.kind,rfl,rfl,ax _,λy z c h1 h2=>?_,λy hy=>?_,λy c _ h=>?_,λ_=>hd,Around.frames_deeper e0.frames,.inr ⟨rfl,rfl⟩,λb z=>absurd z (noA b),e0.bs,e0.Ka,λb _ _=>noA b,λb z=>absurd z (noA b),e0.vP,e0.XR⟩,
  rfl,e0.bare,Un.kept hk,⟨_,x.toInCall.ns,λi y v h1 h2 h3=>?_⟩,λy c h=>⟨_,x.cell y c h⟩,e0.hok.fresh (ax _),λy c h=>?_,λp hp=>absurd (show p∈([]:List (Addr×Obj)) from hp) (by simp),e0.hok.kept hk,?_⟩
 .exact name_of_addr x.apart (fF h1)<|fF h2
 .have hy:scope.names.lookup y=some .cell\/scope.names.lookup y=some .free:=hy;rcases hy with hy|hy
  .exact Yg hy
  .exact absurd rfl<|S.anA _<|fF hy
 .exact kQ<|x.above y c<|fF h
 .have hi:i<vs.length:=by
   unfold start at h2;by_cases hi:i<vs.length
   .exact hi
   .rw[cr<|by simpa using hi] at h2;rw[g7] at h2;split at h2<;>cases h2
  have ha:vs[i]? =some v:=by
   unfold start at h2;rw[bP<|by simpa using hi,av] at h2;cases e:vs[i]? with
   |none=>rw[e] at h2;cases h2
   |some a=>rw[e] at h2;cases h2;rfl
  let(u,hu,rv):=r.get ha;have hp:ps[i]? =some y:=by rw[<-S.pre,List.getElem?_take_of_lt ∅];exact h1
  have ndP:ps.Nodup:=by rw[<-S.pre];exact S.nd.sublist<|oS _ _
  refine⟨u,rv,?_⟩;rcases S.par y (ah hp) with k|k
  .exact .inl ⟨k,T5 ndP hp hu k⟩
  .let(c,e):=Yg (n:=s.heap.objs.size+1) k;refine .inr ⟨.inl k,c,e,?_⟩;have q:=x.cell y c e;rw[T6 ndP hp hu (by show scope.names.lookup y≠_;rw[k];decide)] at q;exact q
 .exact e0.hok.fresh<|kQ<|x.above y c<|fF h
 .unfold start;show _=N.length;rw[aw,af,nv];lk
def aq4 {CX:N6}{P:Program}{w:World}{K:Frag}{mg:Str->Option Value}{base:Heap}{k:Nat}{f:Addr}{name qual:Str}{params:Arguments}{body:List Stmt}{scope:Scope}{dV kV qR pm cX ct oc:Value}{an od:Option Addr}
  {T7:Array (Option Value)}{N ps:List Str}{sp:Sp}(lk:K.lookup f=some ⟨oc,od,.func<|fnOf name qual params body scope dV kV qR pm an cX ct,T7⟩)(Nz:codeIn K cX qual=true)(S:cB N ps scope)
  (len:∀vs H Q E,sp vs H Q E->vs.length=ps.length)
  (adx:∀(A:Around) (outer:List Env) (s:Shared) (H:Hp) (vs:List V) (Q:VK) (E:XK),gD k (A.deeper (envOfC qual scope s.heap.objs.size f cX))->sp vs H Q E->
   ∃t,kj (jP CX P w K mg base N qual scope f cX A outer s H E) body t/\t {nx:=λ_ H'=>Q .non H',rt:=Q} (start N vs) H):
  bJ P w K mg base CX (k+1) f (fnOf name qual params body scope dV kV qR pm an cX ct) ps sp:=by
 refine⟨len,λA outer s H args us vs Q E hr e0 hb r fQ=>?_⟩;have hl:=len _ _ _ _ fQ;have KX:K.In s.heap:=e0.mod.kin.keeps λb o e=>(e0.bs b o e).1;have iZ:s.heap.NoLimit:=e0.mod.nolimit.keeps λb o e=>(e0.bs b o e).1;have aq5:∀y∈ps.zip us,scope.names.lookup y.1=some .local\/(scope.names.lookup y.1=some .cell/\((cellsFrom (s.heap.objs.size+1) scope.names []).lookup y.1).isSome=true):=λ⟨n,v⟩ hy=>by
  rcases S.par n (jS hy).1 with q|q
  .exact .inl q
  .exact .inr ⟨q,mf _ _ _<|.inl q⟩
 refine codeAny_call_function hr.depth (KX _ _ lk) rfl S.co S.gen rfl (PySem.W.codeRec_of KX Nz)<|hb _ _ _ _ ?_;refine wpAny_newFunctionEnv_cells S.kind aq5 λenv he s1 x=>?_;subst he;refine⟨iZ.keeps x.toInCall.keep,codeAny_func ?_⟩;let(t,ht,hq):=adx A outer s H vs Q E (hr.deeper _) fQ;have I:Inv (jP CX P w K mg base N qual scope f cX A outer s H E) [] (start N vs) H s1:=afx S hr.hd e0 hl r x;refine fq (ht [] s1 (start N vs) H _ I hq) (λfl s' hs=>?_) λe s' hs=>hs;have fin:∀{aX:St}{H':Hp} {v:V} {u:Value},Inv (jP CX P w K mg base N qual scope f cX A outer s H E) [] aX H' s'->RelV v u->Q v H'->CE outer P w H s Q u s':=
  λ{aX H' v u} J rv q=>⟨v,H',J.os,J.bare,J.base,J.hok,rv,q⟩
 cases fl with
 |ret u=>let(v,aX,H',J,rv,q):=hs;exact fin J rv q
 |next=>let(aX,H',J,q):=hs;exact fin (v:=V.non) (u:=Value.none) J rfl q
 |brk=>let(_,_,_,q):=hs;exact False.elim q
 |cont=>let(_,_,_,q):=hs;exact False.elim q
section
variable {id T:String}
def rK (r:List V->Hp->VK->Prop)(t:TA):TE:=λσ H Q=>t σ H λvs H1=>r vs H1 Q
def eZ (hc:iu X (.builtin id) r)(hg:Gl X x)(hm:X.mg x=none)(hv:bootBuiltins x=some (.builtin id))(ha:PA X (e::es) t)(hn:x≠"__name__":=by decide)(N7:(x==("__debug__":Str))=false:=by decide)
  (he:starEach (e::es) X.env=(false,eval e X.env)::starEach es X.env:=by rfl)(xR:(backTo pos<|starEach es X.env).any (·.1)=false:=by rfl):PE X (.Call (.Name x p) (e::es) [] pos) (rK r t):=by
 kl_no;refine hJ<|uW I hg hm hv ?_ hn N7;refine PyProof.Rows.callWith_builtin1 (bK (ha pos aj s σ H _ I h) ?_) he xR;rintro us s1 ⟨vs,H1,I1,r1,q1⟩;exact hc aj s1 σ H1 vs us Q I1 r1 q1
def lD (hc:iu X (.type T) r)(hg:Gl X x)(hm:X.mg x=none)(hv:bootBuiltins x=some (.type T))(ha:PA X (e::es) t)(hn:x≠"__name__":=by decide)(N7:(x==("__debug__":Str))=false:=by decide)
  (he:starEach (e::es) X.env=(false,eval e X.env)::starEach es X.env:=by rfl)(xR:(backTo pos<|starEach es X.env).any (·.1)=false:=by rfl):PE X (.Call (.Name x p) (e::es) [] pos) (rK r t):=by
 kl_no;refine hJ<|uW I hg hm hv ?_ hn N7;refine dn (bK (ha pos aj s σ H _ I h) ?_) he xR;rintro us s1 ⟨vs,H1,I1,r1,q1⟩;exact hc aj s1 σ H1 vs us Q I1 r1 q1
end
end L2
namespace HT
open PyProof.Rows
section
open PySem.SeqAt
open PySem.AutoSeq1 (wpAny_loadPart')
open PySem.MeetsSeq PySem.MeetsSeq2 PySem.MeetsSeq3
end
section
variable {s:Shared}
def al0 (ht:IsTup s.heap t vs.toArray)(hb:IsTup s.heap b ws.toArray)(hv:vs≠[])
  (h1:ws=[]->Q (.ref t) s)(h2:ws≠[]->Q (.ref s.heap.objs.size) {s with heap:=s.heap.push {cls:=.type "tuple",data:=.seq (vs++ws).toArray}})
  (hsz:vs.length+ws.length<=sizeLine):wpAny (model prog w) A (binaryOp .Add (.ref t)<|.ref b) Q E s:=by
 let((cls,dd,data,sl),ho,hc,n,hd):=id ht;let((auO,dd2,data2,sl2),Yh,hc2,n2,N8):=id hb;simp only at hc hd hc2 N8;subst hc hd hc2 N8;have e:vs.toArray++ws.toArray=(vs++ws).toArray:=by simp
 by_cases hw:ws=[]
 .exact pj (_,ho,rfl) (_,Yh,rfl) noFill_tuple_add seq_tuple_add mh l9 (l6 _ _)
   (tuple_addW1 t b vs.toArray ws.toArray n n2 dd dd2 sl sl2 (by simpa using hv) (by simp[hw])) (ho,Yh,h1 hw)
 .refine pj (_,ho,rfl) (_,Yh,rfl) noFill_tuple_add seq_tuple_add mh l9 (l6 _ _)
   (tuple_addW2 t b vs.toArray ws.toArray n n2 dd dd2 sl sl2 (by simpa using hv) (by simpa using hw) (by rw[bm,bm];exact hsz)) (ho,Yh,?_)
  rw[e];exact h2 hw
noncomputable def cI (n d:Nat):Option Int->Nat
 |none=>d
 |some v=>if v<0 then(v+(n:Int)).toNat else min v.toNat n
def Yi (n d:Nat):cI n d none=d:=rfl
def abD (n d k:Nat):cI n d (some (k:Int))=min k n:=by rfl
def Yj (n d:Nat)(hd:d<=n)(o:Option Int):cI n d o<=n:=by
 cases o with
 |none=>exact hd
 |some v=>
  show(if v<0 then(v+(n:Int)).toNat else min v.toNat n)<=n;by_cases hv:v<0
  .rw[ar hv];lk
  .rw[ap hv];exact jn _ _
def abE (v:Int)(n d:Nat):(if v<0 then max (v+(n:Int)) 0 else min v (n:Int))=((cI n d (some v):Nat):Int):=by
 show(if v<0 then max (v+(n:Int)) 0 else min v (n:Int))=(((if v<0 then(v+(n:Int)).toNat else min v.toNat n):Nat):Int);by_cases hv:v<0
 .simp only[ar hv];lk
 .simp only[ap hv];lk
def ady (lo hi:Option Int)(n:Nat):Builtin.Slice.sliceAdjust lo hi 1 (n:Int)=(((cI n 0 lo:Nat):Int),((cI n n hi:Nat):Int)):=by
 have h1:¬((1:Int)<0):=by lk
 unfold Builtin.Slice.sliceAdjust;simp only[h1,eI];refine Prod.ext ?_ ?_
 .cases lo with
  |none=>rfl
  |some v=>exact abE v n 0
 .cases hi with
  |none=>rfl
  |some v=>exact abE v n n
def adz (i j:Nat):Builtin.Slice.slicePlaces (i:Int) (j:Int) 1=j - i:=by unfold Builtin.Slice.slicePlaces;lk
def Oa {v:Value}{o:Option Int}{Q:Option Int->Shared->Prop}(p:IsPart v o)(h:Q o s):wpAny (model prog w) A (Builtin.Slice.slicePartIndex v) Q E s:=by
 cases p with
 |none=>exact slicePart_none h
 |int i t=>exact slicePart_int h
def LC {sl:Addr}{vl vu:Value}{lo hi:Option Int}{n:Nat}{Q:Int×Int×Nat->Shared->Prop}(hs:s.heap.IsSliceOf sl vl vu .none)(pl:IsPart vl lo)(pu:IsPart vu hi)
  (h:Q (((cI n 0 lo:Nat):Int),1,cI n n hi - cI n 0 lo) s):wpAny (model prog w) A (Builtin.Slice.sliceApplied (.ref sl)<|pure (n:Int)) Q E s:=by
 let(os,hos,hcs,hds):=id hs;unfold Builtin.Slice.sliceApplied Builtin.Slice.sliceFields;refine ai<|ai<|gu hos hds (x:=vl) rfl<|ai<|gu hos hds (x:=vu) rfl<|ai<|gu hos hds (x:=.none) rfl<|aS ?_;refine ai<|slicePart_none ?_;show wpAny _ _ (if((1:Int)==0)=true then _ else _) _ _ s;rw[ap<|by decide];refine ai<|Oa pl<|ai<|Oa pu<|ai<|aS ?_;show wpAny _ _ (match Builtin.Slice.sliceAdjust lo hi 1 (n:Int) with|(lo,hi)=>pure<|Prod.mk lo<|Prod.mk (1:Int)<|Builtin.Slice.slicePlaces lo hi 1) _ _ s;rw[ady lo hi n];k_ne;rw[adz];exact aS h
def ah5 (xs:Array Value)(i k:Nat):((List.range k).filterMap λ(m:Nat)=>xs[((i:Int)+(m:Int)*1).toNat]?).toArray=((xs.toList.drop i).take k).toArray:=by
 have e:(λ(m:Nat)=>xs[((i:Int)+(m:Int)*1).toNat]?)= λm=>xs[i+m]?:=by
  funext m
  have:((i:Int)+(m:Int)*1).toNat=i+m:=by lk
  rw[this]
 rw[e];have:=pick_run xs i k;rw[List.filterMap_map] at this;have e2:((λx=>xs[x]?) ∘ λx=>i+x)= λm=>xs[i+m]?:=rfl;rw[e2] at this;rw[this]
def J9 {t sl:Addr}{items:Array Value}{vl vu:Value}{lo hi:Option Int}{Q:Value->Shared->Prop}(ht:IsTup s.heap t items)(hs:s.heap.IsSliceOf sl vl vu .none)(pl:IsPart vl lo)(pu:IsPart vu hi)
  (hw:¬(cI items.size 0 lo=0/\cI items.size items.size hi=items.size))
  (h:Q (.ref s.heap.objs.size) {s with heap:=s.heap.push {cls:=.type "tuple",data:=.seq ((items.toList.drop<|cI items.size 0 lo).take<|cI items.size items.size hi - cI items.size 0 lo).toArray}})
  (hsz:items.size<=sizeLine):wpAny (model prog w) A (getItem (.ref t)<|.ref sl) Q E s:=by
 have Wf:sizeOk (.seq ((items.toList.drop<|cI items.size 0 lo).take<|cI items.size items.size hi - cI items.size 0 lo).toArray):=by show((items.toList.drop<|cI items.size 0 lo).take<|cI items.size items.size hi - cI items.size 0 lo).toArray.size<=sizeLine;grind
 have hj:cI items.size items.size hi<=items.size:=Yj _ _ (ax _) hi;let(os,hos,hcs,hds):=id hs;have hTs:s.TypeIs (.ref sl) "slice":=(os,hos,hcs);unfold getItem;try with_reducible refine gc ?_
 first|refine ai (aS ?_)|skip
 refine ai (wpAny_sequenceKey ht.typeIs ⋯ ?_);refine ai (jb (name:=Str.ofString "__getitem__") ht.typeIs hZ
  (lT hZ ht.typeIs entry_tuple_getitem ?_ (args_tuple_getitem _ _)))
 show wpAny _ _ (Builtin.Tuple.tupleItemsOf (.ref t)>>=_) _ _ s;refine ai<|tupleItemsOf_ ht ?_;refine ai<|wpAny_typeOf hTs ?_;rw[ar<|by decide];refine ai<|LC hs pl pu ?_;have hno:¬((((cI items.size 0 lo:Nat):Int)==0 && (1:Int)==1 && (cI items.size items.size hi - cI items.size 0 lo)==items.size)=true):=by lk
 show wpAny _ _ (if(((cI items.size 0 lo:Nat):Int)==0 && (1:Int)==1 && (cI items.size items.size hi - cI items.size 0 lo)==items.size)=true then _ else _) _ _ s;rw[ap hno,ah5];first
  |exact ai (m:=Builtin.Tuple.tupleExact _) (ij (aS (_,rfl,aS h)) Wf)
  |exact ai (m:=Builtin.Tuple.tupleExact _) (ij (ai<|aS<|aS (_,rfl,aS h)) Wf)
  |exact ai (ai (m:=Builtin.Tuple.tupleExact _)<|ij (aS<|aS (_,rfl,aS h)) Wf)
  |exact ai (ai (m:=Builtin.Tuple.tupleExact _)<|ij (aS (_,rfl,aS h)) Wf)
end
end HT
namespace L2
open PyProof.Rows
abbrev TO:=St->Hp->(Option Int->Hp->Prop)->Prop
def PO (X:Cx)(e:Option Expr)(t:TO):Prop:=
 ∀(aj:List (Addr×Obj)) (s:Shared) (σ:St) (H:Hp) (Q:Option Int->Hp->Prop),Inv X aj σ H s->t σ H Q->
  wpAny (model X.prog X.w) X.A (evalPart e X.env) (λu s'=>∃o H',Inv X aj σ H' s'/\IsPart u o/\Q o H') X.xe s
def Bh:TO:=λ_ H Q=>Q none H
def Jo (t:TE):TO:=λσ H Q=>t σ H λx H1=>∃i,x=.int i/\Q (some i) H1
section
variable {lo hi:Option Expr}
def Bj:PO X none Bh:=by kl_no;rw[evalPart_none];exact aS (none,H,I,.none,h)
def pB (h:PE X e te):PO X (some e) (Jo te):=by intro aj s σ H Q I hw;rw[evalPart_some];refine bK (h aj s σ H _ I hw) ?_;rintro u s1 ⟨x,H1,I1,r1,q1⟩;let(i,rfl,q):=q1;let(t,rfl):=r1;exact(some i,H1,I1,.int i t,q)
def SlR (X:Cx)(r:V->Option Int->Option Int->Hp->VK->Prop):Prop:=
 ∀(aj:List (Addr×Obj)) (s:Shared) (σ:St) (H:Hp) (x:V) (v vl vu:Value) (lo hi:Option Int) (sl:Addr) (Q:VK),Inv X aj σ H s->RelV x v->s.heap.IsSliceOf sl vl vu .none->IsPart vl lo->IsPart vu hi->r x lo hi H Q->
  ∃T id,typeLookup (.type T) "__getitem__"=pure (some<|.builtin id)/\s.TypeIs v T/\wpAny (model X.prog X.w) X.A (getItem v<|.ref sl) (EP X aj σ Q) X.xe s
def tSl (r:V->Option Int->Option Int->Hp->VK->Prop)(te:TE)(tl th:TO):TE:=λσ H Q=>te σ H λx H1=>tl σ H1 λl H2=>th σ H2 λu H3=>r x l u H3 Q
def oG (hr:SlR X r)(he:PE X e te)(hl:PO X lo tl)(hu:PO X hi th):PE X (.Subscript e (.Slice lo hi none p2) pos) (tSl r te tl th):=by intro aj s σ H Q I h;refine Subscript_<|bK (he aj s σ H _ I h) ?_;rintro v s1 ⟨x,H1,I1,r1,q1⟩;refine wpAny_Slice<|bK (hl aj s1 σ H1 _ I1 q1) ?_;rintro vl s2 ⟨l,H2,I2,pl,q2⟩;refine bK (hu aj s2 σ H2 _ I2 q2) ?_;rintro vu s3 ⟨u,H3,I3,pu,q3⟩;rw[evalPart_none];refine aS ?_;have I4:Inv X aj σ H3 {s3 with heap:=s3.heap.push {cls:=.type "slice",data:=.fields #[vl,vu,.none]}}:=I3.kept (t':=s3.toks) λb ob q=>aT _ q;let(T,id,hT,ht,hg):=hr aj {s3 with heap:=s3.heap.push {cls:=.type "slice",data:=.fields #[vl,vu,.none]}} σ H3 x v vl vu l u s3.heap.objs.size Q I4 r1 (Heap.IsSliceOf.new ..) pl pu q3;show wpAny (model X.prog X.w) X.A (subscriptTail e (.Slice lo hi none p2) v<|.ref s3.heap.objs.size) (EP X aj σ Q) X.xe {s3 with heap:=s3.heap.push {cls:=.type "slice",data:=.fields #[vl,vu,.none]}};exact tail_any (ops:=[.ref s3.heap.objs.size,v]) ht hT hg<|by with_unfolding_all rfl
noncomputable def lQ (xs:List V)(lo hi:Option Int):List V:=(xs.drop<|HT.cI xs.length 0 lo).take<|HT.cI xs.length xs.length hi - HT.cI xs.length 0 lo
def Kl (xs:List V)(lo hi:Option Int):(lQ xs lo hi).length<=xs.length:=by unfold lQ;rw[dt,hV];lk
def anB (K:Frag):V->Option Int->Option Int->Hp->VK->Prop:=λx lo hi H Q=>∃a xs,x=.ref a/\bV K H a xs/\
 ¬(HT.cI xs.length 0 lo=0/\HT.cI xs.length xs.length hi=xs.length)/\∀p,H p=none->Q (.ref p) (upd H p<|.tup<|lQ xs lo hi)
def Yk:SlR X (anB X.K):=by
 intro aj s σ H x v vl vu lo hi sl Q I rx hs pl pu h;let(a,xs,rfl,hx,hw,q):=h;cases rx;let(aW,r,ht,hz):=I.tuple hx;have cZ:aW.toArray.size=xs.length:=by rw[bm];exact r.length.symm
 refine("tuple",_,hZ.lookup,ht.typeIs,?_);refine HT.J9 ht hs pl pu (by rw[cZ];exact hw) ?_ (by rw[cZ];exact hz);rw[cZ];refine(.ref s.heap.objs.size,_,I.laid (t':=s.toks) (o:=.tup<|lQ xs lo hi) (λb ob q=>aT _ q) (ax _) ?_,rfl,q _<|I.hok.fresh<|ax _);exact(dL (Kl xs lo hi) hz,_,(r.drop<|HT.cI xs.length 0 lo).take<|HT.cI xs.length xs.length hi - HT.cI xs.length 0 lo,IsTup.new _ _)
def adA (K:Frag):R2:=λx y H Q=>∃a b xs ys,x=.ref a/\y=.ref b/\bV K H a xs/\bV K H b ys/\xs≠[]/\xs.length+ys.length<=sizeLine/\
 (ys=[]->Q (.ref a) H)/\(ys≠[]->∀p,H p=none->Q (.ref p) (upd H p<|.tup<|xs++ys))
def Vals.Ry (r:Vals xs us):us=[]↔xs=[]:=by
 cases r with
 |nil=>simp
 |cons _ _=>simp
def al1:dh X (binaryOp .Add) (adA X.K):=by fin2;let(a,b,xs,ys,rfl,rfl,ha,hb,hx,hz,q1,q2):=h;cases rx;cases ry;let(aW,r1,p1,_):=I.tuple ha;let(vU,r2,p2,_):=I.tuple hb;refine HT.al0 p1 p2 (λz=>hx<|r1.Ry.mp z) (λz=>(.ref a,H,I,rfl,q1<|r2.Ry.mp z)) (λz=>?_) (by rw[<-r1.length,←r2.length];exact hz);refine(.ref s.heap.objs.size,_,I.laid (t':=s.toks) (o:=.tup<|xs++ys) (λb ob q=>aT _ q) (ax _) ?_,rfl,q2 (λw=>z<|r2.Ry.mpr w) _<|I.hok.fresh<|ax _);exact(by rw[aw];exact hz,_,r1.append r2,IsTup.new _ _)
end
noncomputable def rN (n:Nat)(i:Int):Option Nat:=if 0<=i then(if i<n then some i.toNat else none) else if -(n:Int)<=i then some (i+n).toNat else none
def dI {α:Type}(xs:List α)(i:Int):Option α:=(rN xs.length i).bind λj=>xs[j]?
def abH (h:rN n i=some j):seqIndex? i n=some j/\j<n∧-(n:Int)<=i/\i<n:=by
 unfold rN at h;by_cases h0:0<=i
 .rw[ar h0] at h;by_cases h1:i<n
  .rw[ar h1] at h;have e:i.toNat=j:=be h;exact(by rw[l8 h0 h1,e],by lk,by lk,h1)
  .rw[ap h1] at h;cases h
 .rw[ap h0] at h;by_cases h1: -(n:Int)<=i
  .rw[ar h1] at h;have e:(i+n).toNat=j:=be h;exact(by rw[lh ∅ h1,e],by lk,h1,by lk)
  .rw[ap h1] at h;cases h
def Bk (h:dI xs i=some v):∃j,seqIndex? i xs.length=some j/\xs[j]? =some v/\j<xs.length∧-(xs.length:Int)<=i/\i<xs.length:=by
 unfold dI at h;cases e:rN xs.length i with
 |none=>rw[e] at h;cases h
 |some j=>rw[e] at h;let(h1,h2,h3,h4):=abH e;exact(j,h1,h,h2,h3,h4)
def iC {α:Type}{xs:List α}{j:Nat}{v:α}(h:xs[j]? =some v):dI xs (j:Int)=some v:=by
 have hj:j<xs.length:=(ab.mp h).1;have e:rN xs.length (j:Int)=some j:=by unfold rN;rw[ar ∅,ar ∅];simp
 unfold dI;rw[e];exact h
def Jp (b:Expr):Prop:=∀o i,subscripted b false o i=operate [o,i] (getItem o i)
def wj (X:Cx)(r:R2):Prop:=
 ∀(value qu:Expr) (aj:List (Addr×Obj)) (s:Shared) (σ:St) (H:Hp) (x y:V) (v u:Value) (Q:VK),Inv X aj σ H s->RelV x v->RelV y u->r x y H Q->
  subscripted qu false v u=operate [v,u] (getItem v u)->wpAny (model X.prog X.w) X.A (subscriptTail value qu v u) (EP X aj σ Q) X.xe s
def Ob (X:Cx)(id:String)(r:V->List V->Hp->VK->Prop):Prop:=
 ∀(aj:List (Addr×Obj)) (s:Shared) (σ:St) (H:Hp) (x:V) (xs:List V) (v:Value) (us:List Value) (Q:VK),Inv X aj σ H s->RelV x v->Vals xs us->r x xs H Q->
  wpAny (model X.prog X.w) X.A (call (.builtin id) (v::us)) (EP X aj σ Q) X.xe s
section
variable {pos:Pos}
def wj.or (h:wj X r)(h':wj X r'):wj X (λx y H Q=>r x y H Q\/r' x y H Q):=by
 intro value qu aj s σ H x y v u Q I rx ry q hs;rcases q with q|q
 .exact h value qu aj s σ H x y v u Q I rx ry q hs
 .exact h' value qu aj s σ H x y v u Q I rx ry q hs
def adB (hr:wj X r)(ha:PE X a ta)(hb:PE X b tb)(hs:Jp b):PE X (.Subscript a b pos) (jt r ta tb):=by kl_no;exact Subscript_<|ahY ha hb I h λv u s2 x y H2 I2 rx ry q=>hr a b aj s2 σ H2 x y v u Q I2 rx ry q<|hs _ _
def ah6 (K:Frag):R2:=λx y H Q=>∃p xs i v,x=.ref p/\y=.int i/\aZ K H p xs/\dI xs i=some v/\Q v H
def auP (K:Frag):R2:=λx y H Q=>∃p xs i v,x=.ref p/\y=.int i/\bV K H p xs/\dI xs i=some v/\Q v H
def auQ:R2:=λx y H Q=>∃z i c,x=.str z/\y=.int i/\z.length<=sizeLine/\dI z.cps.toList i=some c/\Q (.str ⟨#[c]⟩) H
def Rz:wj X (ah6 X.K):=by
 intro value qu aj s σ H x y v u Q I rx ry h hs;let(p,xs,i,z,rfl,rfl,hq,he,q):=h;cases rx;let(t,rfl):=ry;let(aW,r,pl,hz):=I.list hq;let(j,h1,h2,h3,h4,h5):=Bk he;let(w,ew,Bm):=r.get h2;have hl:=r.length;have hn:=uZ;have fin:EP X aj σ Q w s:=⟨z,H,I,Bm,q⟩;by_cases h0:0<=i
 .have hj:i.toNat=j:=by rw[l8 h0 h5] at h1;exact be h1
  exact item_listR pl.isList h0 ∅ (by rw[hj];simpa using ew) fin hs
 .have hj:(i+(aW.toArray.size:Int)).toNat=j:=by rw[lh ∅ h4] at h1;rw[bm,←hl];exact be h1
  exact subscriptTail_builtinR (x:=w) pl.isList.typeIs slot_list_getitem.lookup
   (ph (Q:=λr s'=>r=w/\EP X aj σ Q r s') pl.isList ∅ (by rw[bm]<;>lk) ∅ (by rw[hj];simpa using ew) ⟨rfl,fin⟩) hs
def Yl:wj X (auP X.K):=by
 intro value qu aj s σ H x y v u Q I rx ry h hs;let(p,xs,i,z,rfl,rfl,hq,he,q):=h;cases rx;let(t,rfl):=ry;let(aW,r,pl,hz):=I.tuple hq;let(j,h1,h2,h3,h4,h5):=Bk he;let(w,ew,Bm):=r.get h2;have hl:=r.length;have hn:=uZ;have fin:EP X aj σ Q w s:=⟨z,H,I,Bm,q⟩;exact subscriptTail_builtinR (x:=w) pl.typeIs slot_tuple_getitem.lookup
  (getItem_tuple (j:=j) (Q:=λr s'=>r=w/\EP X aj σ Q r s') pl ∅ ∅ (by rw[bm,←hl];exact h1) (by simpa using ew) ⟨rfl,fin⟩) hs
def anC:wj X auQ:=by
 intro value qu aj s σ H x y v u Q I rx ry h hs;let(z,i,c,rfl,rfl,hz,he,q):=h;let(t,rfl):=rx;let(t',rfl):=ry;let(j,h1,h2,h3,h4,h5):=Bk he;have hl:z.cps.toList.length=z.length:=by simp[Str.length]
 rw[hl] at h1 h4 h5;have hn:=uZ;exact tail_any (typeIs_str s z t) slot_str_getitem.lookup (getItem_str (c:=c) (by
  lk) (by rw[h1];simpa using h2) ⟨.str ⟨#[c]⟩,H,I.tok _,⟨_,rfl⟩,q⟩) hs
def adC (aW:List Value)(n j:Nat)(u:Value):Obj.mapSeq (·.setIfInBounds j u) {cls:=.type "list",data:=.seq aW.toArray n}={cls:=.type "list",data:=.seq (aW.set j u).toArray n}:=by simp[Obj.mapSeq]
theorem Inv.lst (I:Inv X aj σ H s)(h:H p=some (.lst xs)):
  ∃(aW:List Value) (n:Nat),Vals xs aW/\s.heap.get? p=some {cls:=.type "list",data:=.seq aW.toArray n}/\xs.length<=sizeLine:=by
 let(z,aW,n,r,e):=I.hok p _ h;exact(aW,n,r,e,z)
def Inv.anD {aj:List (Addr×Obj)}{σ:St}{H:Hp}{s:Shared}{p:Addr}{xs ys:List V}{aW its':List Value}{n n':Nat}{f:Obj->Obj}(I:Inv X aj σ H s)(h:H p=some (.lst xs))
  (ho:s.heap.get? p=some {cls:=.type "list",data:=.seq aW.toArray n})(hf:f {cls:=.type "list",data:=.seq aW.toArray n}={cls:=.type "list",data:=.seq its'.toArray n'})(r:Vals ys its')(hz:ys.length<=sizeLine)(t:Nat):
  Inv X aj σ (upd H p<|.lst ys) {s with heap:=s.heap.update p f,toks:=t}:=by
 have e:(s.heap.update p f).get? p=some {cls:=.type "list",data:=.seq its'.toArray n'}:=by rw[iF f ho (by rw[hf]<;>rfl),hf]
 refine I.write (x:=p) (e:=p) (by rw[h];trivial) (.inl rfl) (λb u hb q=>(cv _ _<|cp hb).trans q) ⟨_,e⟩ ?_;exact⟨hz,its',n',r,e⟩
def aq6:V->V->V->Hp->(Hp->Prop)->Prop:=λo i v H Q=>∃p xs k j,o=.ref p/\i=.int k/\H p=some (.lst xs)/\rN xs.length k=some j/\Q (upd H p<|.lst<|xs.set j v)
def set_list:Gq X aq6:=by
 intro aj s σ H o i v ov iv u Q I ro ri rv h;let(p,xs,k,j,rfl,rfl,hp,hj,q):=h;cases ro;let(t,rfl):=ri;let(aW,n,r,ho,hz):=I.lst hp;let(h1,h2,h3,h4):=abH hj;have hl:=r.length;have hn:=uZ;have I':Inv X aj σ (upd H p<|.lst<|xs.set j v) {s with heap:=s.heap.update p<|Obj.mapSeq (·.setIfInBounds j u)}:=
  I.anD hp ho (adC aW n j u) (r.set rv j) (by rw[ce];exact hz) s.toks
 by_cases h0:0<=k
 .have hk:k.toNat=j:=by rw[l8 h0 h4] at h1;lk
  exact PySem.W.ki_setAt ho h0 ∅ (by rw[bm,←hl];exact h4) (by rw[hk];exact(_,I',q))
 .have hk:(k+(aW.toArray.size:Int)).toNat=j:=by rw[lh ∅ h3] at h1;grind
  exact PySem.W.ki_setBack ho ∅ (by rw[bm,←hl];exact h3) ∅ (by rw[hk];exact(_,I',q))
def Ym (lo hi:Option Int)(n:Nat):(sliceBounds lo hi none n).1=((HT.cI n 0 lo:Nat):Int)/\(sliceBounds lo hi none n).2.1=((HT.cI n n hi:Nat):Int)/\(sliceBounds lo hi none n).2.2=1:=by
 refine(?_,?_,rfl)
 .cases lo with
  |none=>simp[sliceBounds,HT.cI]
  |some i=>
   simp only[sliceBounds,HT.cI,px,show(1:Int)>0 by decide,fA];by_cases h:i<0
   .simp only[h,fA]<;>lk
   .simp only[h,eI]<;>lk
 .cases hi with
  |none=>simp[sliceBounds,HT.cI]
  |some i=>
   simp only[sliceBounds,HT.cI,px,show(1:Int)>0 by decide,fA];by_cases h:i<0
   .simp only[h,fA]<;>lk
   .simp only[h,eI]<;>lk
def VL (aW:List Value)(lo hi:Option Int):slicePick aW.toArray lo hi none=((aW.drop<|HT.cI aW.length 0 lo).take<|HT.cI aW.length aW.length hi - HT.cI aW.length 0 lo).toArray:=by let(h1,h2,h3):=Ym lo hi aW.toArray.size;unfold slicePick;rw[h1,h2,h3];simp only[sliceRange_one,pick_run,bm]<;>rfl
def anE (K:Frag):V->Option Int->Option Int->Hp->VK->Prop:=λx lo hi H Q=>∃a xs,x=.ref a/\aZ K H a xs/\∀p,H p=none->Q (.ref p) (upd H p<|.lst<|lQ xs lo hi)
def Jq:SlR X (anE X.K):=by intro aj s σ H x v vl vu lo hi sl Q I rx hs pl pu h;let(a,xs,rfl,hx,q):=h;cases rx;let(aW,r,ht,hz):=I.list hx;have cZ:=r.length;refine("list",_,slot_list_getitem.lookup,ht.isList.typeIs,?_);refine wpAny_getItem_list_slice ht.isList hs pl pu .none (by simp) ?_ (by rw[bm]<;>lk);rw[VL,←cZ];refine(.ref s.heap.objs.size,_,I.laid (t':=s.toks) (o:=.lst<|lQ xs lo hi) (λb ob q=>aT _ q) (ax _) ?_,rfl,q _<|I.hok.fresh<|ax _);exact(dL (Kl xs lo hi) hz,_,0,(r.drop<|HT.cI xs.length 0 lo).take<|HT.cI xs.length xs.length hi - HT.cI xs.length 0 lo,da _ rfl)
noncomputable def uG:V->Bool
 |.non=>true
 |.bl _=>true
 |.int _=>true
 |.str _=>true
 |_=>false
noncomputable def Ua:V->V->Bool
 |.non,.non=>true
 |.bl a,.bl b=>a==b
 |.bl a,.int b=>(if a then 1 else 0)==b
 |.int a,.bl b=>a==(if b then 1 else 0)
 |.int a,.int b=>a==b
 |.str a,.str b=>a==b
 |_,_=>false
def anF (ry:RelV y u)(rx:RelV x v)(fy:uG y=true)(fx:uG x=true):SeqAt.EqAt A s u v (Ua y x):=by
 cases y with
 |non=>
  cases ry;cases x with
  |non=>cases rx;exact SeqAt.EqAt.same _
  |bl b=>cases rx;exact SeqAt.EqAt.none_bool b
  |int b=>let(t,rfl):=rx;exact SeqAt.EqAt.none_int b t
  |str b=>let(t,rfl):=rx;exact SeqAt.EqAt.none_str b t
  |_=>exact absurd (show false=true from fx) bj
 |bl a=>
  cases ry;cases x with
  |non=>cases rx;exact SeqAt.EqAt.bool_none a
  |bl b=>cases rx;exact SeqAt.EqAt.bool_bool a b
  |int b=>let(t,rfl):=rx;exact SeqAt.EqAt.bool_int a b t
  |str b=>let(t,rfl):=rx;exact SeqAt.EqAt.bool_str a b t
  |_=>exact absurd (show false=true from fx) bj
 |int a=>
  let(t',rfl):=ry;cases x with
  |non=>cases rx;exact SeqAt.EqAt.int_none a t'
  |bl b=>cases rx;exact SeqAt.EqAt.int_bool a t' b
  |int b=>let(t,rfl):=rx;exact SeqAt.EqAt.int_int a t' b t
  |str b=>let(t,rfl):=rx;exact SeqAt.EqAt.int_str a t' b t
  |_=>exact absurd (show false=true from fx) bj
 |str a=>
  let(t',rfl):=ry;cases x with
  |non=>cases rx;exact SeqAt.EqAt.str_none a t'
  |bl b=>cases rx;exact SeqAt.EqAt.str_bool a t' b
  |int b=>let(t,rfl):=rx;exact SeqAt.EqAt.str_int a t' b t
  |str b=>let(t,rfl):=rx;exact SeqAt.EqAt.str_str a t' b t
  |_=>exact absurd (show false=true from fx) bj
 |_=>exact absurd (show false=true from fy) bj
noncomputable def Oc (x:V)(u:Value):Bool:=match u with
 |.none=>Ua .non x
 |.bool b=>Ua (.bl b) x
 |.int i _=>Ua (.int i) x
 |.str z _=>Ua (.str z) x
 |_=>false
def afA (r:RelV y u)(f:uG y=true):Oc x u=Ua y x:=by
 cases y with
 |non=>cases r;rfl
 |bl b=>cases r;rfl
 |int i=>let(t,rfl):=r;rfl
 |str z=>let(t,rfl):=r;rfl
 |_=>exact absurd (show false=true from f) bj
def abI (h:Vals xs us)(f:xs.all uG=true):us.any (Oc x)=xs.any λy=>Ua y x:=by
 induction h with
 |nil=>rfl
 |cons r t ih=>rw[List.all_cons,bS] at f;rw[kn,kn,afA r f.1,ih f.2]
def Yn (rx:RelV x v)(fx:uG x=true)(h:Vals xs us)(f:xs.all uG=true):∀u∈us,SeqAt.EqAt A s u v (Oc x u):=by
 induction h with
 |nil=>intro u hu;cases hu
 |cons r t ih=>
  intro u' hu;rw[List.all_cons,bS] at f;rcases aI.mp hu with rfl|hu
  .rw[afA r f.1];exact anF r rx f.1 fx
  .exact ih f.2 u' hu
noncomputable def inV (x:V)(xs:List V):Bool:=xs.any λy=>Ua y x
def rIn (K:Frag)(neg:Bool):R2:=λx y H Q=>∃p xs,y=.ref p/\(aZ K H p xs\/bV K H p xs)/\uG x=true/\xs.all uG=true/\Q (.bl<|if neg then !inV x xs else inV x xs) H
def xT:dh X (compareOp .NotIn) (rIn X.K true):=by
 fin2;let(p,xs,rfl,hq,fx,fs,q):=h;cases ry;rcases hq with hq|hq
 .let(aW,r,pl,hz):=I.list hq;refine SeqAt.notIn_listAt (Oc x) pl.isList (λw hw=>Yn rx fx r fs w<|by simpa using hw) (.bl _,H,I,rfl,?_);rw[show aW.toArray.any (Oc x)=aW.any (Oc x) by simp,abI r fs];exact q
 .let(aW,r,pl,hz):=I.tuple hq;refine SeqAt.notIn_tupleAt (Oc x) pl (λw hw=>Yn rx fx r fs w<|by simpa using hw) (.bl _,H,I,rfl,?_);rw[show aW.toArray.any (Oc x)=aW.any (Oc x) by simp,abI r fs];exact q
def Yo:iu X (.builtin "len") (λxs H Q=>∃p ys,xs=[.ref p]/\(aZ X.K H p ys\/bV X.K H p ys)/\Q (.int ys.length) H):=by
 room;let(p,ys,rfl,hq,q):=h;let(u,rfl,rx):=vals1 r;cases rx;have hn:=uZ;rcases hq with hq|hq
 .let(aW,r',pl,hz):=I.list hq;have cZ:=r'.length;exact Calls.call_len_list pl.isList (by simp only[bm]<;>lk) ⟨.int ys.length,H,I.tok _,⟨s.toks+1,by rw[bm,cZ]⟩,q⟩
 .let(aW,r',pl,hz):=I.tuple hq;have cZ:=r'.length;exact len_tuple pl (by simp only[bm]<;>lk) ⟨.int ys.length,H,I.tok _,⟨s.toks+1,by rw[bm,cZ]⟩,q⟩
def Yp:iu X (.builtin "len") (λxs H Q=>∃z,xs=[.str z]/\z.length<=sizeLine/\Q (.int z.length) H):=by intro aj s σ H xs us Q I r h;let(z,rfl,hz,q):=h;let(u,rfl,t,rfl):=vals1 r;have hn:=uZ;exact len_str ∅ ⟨.int z.length,H,I.tok _,⟨_,rfl⟩,q⟩
def Yq:iu X (.type "list") (λxs H Q=>∃p ys,xs=[.ref p]/\(aZ X.K H p ys\/bV X.K H p ys)/\∀l,H l=none->Q (.ref l) (upd H l<|.lst ys)):=by
 room;let(p,ys,rfl,hq,q):=h;let(u,rfl,rx):=vals1 r;cases rx;have fin:∀(aW:List Value),Vals ys aW->ys.length<=sizeLine->∀(h':Heap) (c':Nat),(∀b o',s.heap.get? b=some o'->h'.get? b=some o')->
   h'.get? s.heap.objs.size=some {cls:=.type "list",dict:=none,data:=.seq aW.toArray c',slots:=#[]}->EP X aj σ Q (.ref s.heap.objs.size) {s with heap:=h'}:=λaW r' hz h' c' kp e=>
  (.ref s.heap.objs.size,_,I.laid (t':=s.toks) kp (ax _)<|show jw X.prog X.w _ h' _ (.lst ys) from(hz,aW,c',r',e),rfl,q _<|I.hok.fresh<|ax _)
 rcases hq with hq|hq
 .let(aW,r',pl,hz):=I.list hq;have cZ:=r'.length;let(o,ho,hc,n,hd):=pl.isList;exact call_list_seq p (.inl rfl) ho hc hd (λh' c' kp e=>fin aW r' hz h' c' kp e) (by simp only[bm]<;>lk)
 .let(aW,r',pl,hz):=I.tuple hq;have cZ:=r'.length;let(o,ho,hc,n,hd):=pl;exact call_list_seq p (.inr rfl) ho hc hd (λh' c' kp e=>fin aW r' hz h' c' kp e) (by simp only[bm]<;>lk)
def tyV (K:Frag)(T:String)(x:V)(H:Hp):Prop:=match x with
 |.str _=>T="str"
 |.int _=>T="int"
 |.ref p=>(T="list"/\∃xs,aZ K H p xs)\/(T="tuple"/\∃o,K.lookup p=some o/\o.cls=.type "tuple"/\o.dict=none)\/
  (T="dict"/\∃aO,H p=some (.dK aO))
 |_=>False
def afC (I:Inv X aj σ H s)(r:RelV x v)(ty:tyV X.K T x H):
  s.TypeIs v T/\∀a,v=.ref a->∃ob,s.heap.get? a=some ob/\ob.dict=none:=by
 cases x with
 |str z=>
  let(t,rfl):=r;cases(show T="str" from ty);exact⟨typeIs_str s z t,λ_ e=>nomatch e⟩
 |int i=>
  let(t,rfl):=r;cases(show T="int" from ty);exact⟨typeIs_int s i t,λ_ e=>nomatch e⟩
 |ref p=>
  cases r;rcases ty with⟨rfl,xs,hq⟩|⟨rfl,o,hk,hc,hd⟩|⟨rfl,aO,hk⟩
  .let(aW,_,pl,_):=I.list hq;refine⟨pl.isList.typeIs,λa e=>?_⟩;cases e;let(o,n,e,c,hd,_):=pl;exact⟨o,e,hd⟩
  .refine⟨⟨o,I.qP p o hk,hc⟩,λa e=>?_⟩;cases e;exact⟨o,I.qP _ o hk,hd⟩
  .let(_,_,_,_,o,_,_,e,ex,_):=I.hok p _ hk;refine⟨⟨o,e,ex.1⟩,λa e2=>?_⟩;cases e2;exact⟨o,e,ex.2.1⟩
 |_=>exact False.elim ty
def CW (K:Frag)(T:String)(r:V->List V->Hp->VK->Prop)(to:TE):TE:=λσ H Q=>to σ H λx H1=>tyV K T x H1/\r x [] H1 Q
def FP (K:Frag)(T:String)(r:V->List V->Hp->VK->Prop)(to:TE)(t:TA):TE:=λσ H Q=>to σ H λx H1=>tyV K T x H1/\t σ H1 λxs H2=>r x xs H2 Q
variable {T id:String}
def Yr (pa:PlainAttrs T)(slot:Slot T name id)(hty:typeOf (.builtin id)=pure (.type "method_descriptor"))(hm:Ob X id r)(ho:PE X o to)
  (mX:attributeBase o name X.env (eval o X.env)=eval o X.env:=by rfl)(mY:(iQ.endLine==eV.line)=true:=by rfl):PE X (.Call (.Attribute o name iQ) [] [] eV) (CW X.K T r to):=by
 kl_no;refine wpAny_Call_method0_late mX mY<|bK (ho aj s σ H _ I h) ?_;rintro v s1 ⟨x,H1,I1,r1,ty,q1⟩;let(h1,h2):=afC I1 r1 ty;exact(T,id,pa,slot,hty,h1,h2,kc rfl<|PySem.evalArgs_none<|hm aj s1 σ H1 x [] v [] Q I1 r1 .nil q1)
def adD (pa:PlainAttrs T)(slot:Slot T name id)(hty:typeOf (.builtin id)=pure (.type "method_descriptor"))(hm:Ob X id r)(ho:PE X o to)(ha:PA X (e::es) t)
  (mX:attributeBase o name X.env (eval o X.env)=eval o X.env:=by rfl)
  (LK:((backTo eV (starEach (e::es) X.env)).all (λx=>!x.1) && (backToKw eV (keywordEach [] X.env)).all (λx=>x.1.isSome)
   && decide ((e::es).length+([]:List Keyword).length+(if([]:List Keyword).isEmpty then 0 else 1)<30))=true:=by rfl)
  (mY:(iQ.endLine==eV.line)=true:=by rfl)(hs:starEach (e::es) X.env=(false,eval e X.env)::starEach es X.env:=by rfl)(xU:(backTo eV<|starEach es X.env).any (·.1)=false:=by rfl):
  PE X (.Call (.Attribute o name iQ) (e::es) [] eV) (FP X.K T r to t):=by
 kl_no;refine wpAny_Call_method_late mX LK mY rfl<|bK (ho aj s σ H _ I h) ?_;rintro v s1 ⟨x,H1,I1,r1,ty,q1⟩;let(h1,h2):=afC I1 r1 ty;refine(T,id,pa,slot,hty,h1,h2,?_);have hA:=ha eV aj s1 σ H1 _ I1 q1;rw[hs] at hA ⊢;refine kc (by show(false||(backTo eV<|starEach es X.env).any (·.1))=false;rw[xU]<;>rfl) (Calls.evalArgs_plain ?_);refine bK hA ?_;rintro us s2 ⟨vs,H2,I2,r2,q2⟩;exact hm aj s2 σ H2 x vs v us Q I2 r1 r2 q2
end
def MtM (X:Cx)(id:String)(r:V->List V->Hp->VK->Prop):Prop:=
 ∀(aj:List (Addr×Obj)) (s:Shared) (σ:St) (H:Hp) (x:V) (xs:List V) (v:Value) (us:List Value) (Q:VK),Inv X aj σ H s->RelV x v->Vals xs us->r x xs H Q->
  wpAny (model X.prog X.w) X.A (call (.builtin id) (v::us)) (EP X aj σ Q) X.xe s
def Vals.one (h:Vals [x] us):∃u,us=[u]/\RelV x u:=by
 cases h with
 |cons r t=>cases t;exact(_,rfl,r)
def Vals.zero (h:Vals [] us):us=[]:=by cases h;rfl
theorem Vals.eraseIdx:∀{xs:List V}{us:List Value} (i:Nat),Vals xs us->Vals (xs.eraseIdx i) (us.eraseIdx i)
 |_,_,_,.nil=>.nil
 |_,_,0,.cons _ t=>t
 |_,_,i+1,.cons r t=>.cons r<|Vals.eraseIdx i t
theorem Vals.rep (h:Vals xs us):∀k:Nat,Vals (replicate k xs).flatten (replicate k us).flatten
 |0=>.nil
 |k+1=>by rw[ii,ii,kU,kU];exact Vals.append h<|Vals.rep h k
theorem Ub:∀(l:List α) (i:Nat),(l.eraseIdx i).length<=l.length
 |[],_=>ax _
 |_::_,0=>oq _
 |_::r,i+1=>Nat.succ_le_succ<|Ub r i
theorem foldl_rep (aW:List Value):∀(k:Nat) (acc:List Value),
  foldl (λx1 x2=>x1++x2) acc.toArray (replicate k aW.toArray)=(acc++(replicate k aW).flatten).toArray
 |0,acc=>by simp
 |k+1,acc=>by
  have e:acc.toArray++aW.toArray=(acc++aW).toArray:=by simp
  have e2:(acc++aW)++(replicate k aW).flatten=acc++(replicate (k+1) aW).flatten:=by grind
  rw[<-e2,←foldl_rep aW k (acc++aW),←e,ii,iP]
section
variable {xs ys zs:List V}
def Inv.ah7 {aW its':List Value}{n:Nat}{f:Array Value->Array Value}{t':Nat}(I:Inv X aj σ H s)(hH:H l=some (.lst xs))
  (e:s.heap.get? l=some {cls:=.type "list",data:=.seq aW.toArray n})(hf:f aW.toArray=its'.toArray)(hv:Vals ys its')(hz:ys.length<=sizeLine):
  Inv X aj σ (upd H l<|.lst ys) {s with heap:=s.heap.update l<|Obj.mapSeq f,toks:=t'}:=by
 have q:=PySem.IsL.update e f;rw[hf] at q;refine I.write (x:=l) (e:=l) (by rw[hH];exact trivial) (.inl rfl) (λb' u hb hu=>(cv s.heap (Obj.mapSeq f)<|cp hb).trans hu) ⟨_,q⟩ ?_;exact⟨hz,its',_,hv,q⟩
def Inv.adE (I:Inv X aj σ H s)(hv:Vals ys aW)(hz:ys.length<=sizeLine):
  Inv X aj σ (upd H s.heap.objs.size<|.lst ys) {s with heap:=s.heap.push {cls:=.type "list",data:=.seq aW.toArray},toks:=t'}:=
 I.laid (λ_ _ q=>aT _ q) (ax _) (hz,aW,0,hv,da _ rfl)
theorem Inv.fresh (I:Inv X aj σ H s):H s.heap.objs.size=none:=I.hok.fresh<|ax _
def Inv.LQ (I:Inv X aj σ H s)(hH:H l=some (.lst xs)):xs.length<=sizeLine/\∃(aW:List Value) (n:Nat),Vals xs aW/\xs.length=aW.length/\s.heap.get? l=some {cls:=.type "list",data:=.seq aW.toArray n}:=by let(z,aW,n,r,e):=I.hok l _ hH;exact(z,aW,n,r,r.length,e)
def ah8 (h:n<=sizeLine):Builtin.List.listTooLong n=false:=by unfold Builtin.List.listTooLong;lk
end
section
def al3:V->List V->Hp->VK->Prop:=λx vs H Q=>∃l xs y,x=.ref l/\vs=[y]/\H l=some (.lst xs)/\xs.length<sizeLine/\Q .non (upd H l<|.lst<|xs++[y])
def Uc:MtM X "list.append" al3:=by intro aj s σ H x vs v us Q I rx rv h;let(l,xs,y,rfl,rfl,hH,hz,q):=h;cases rx;let(u,rfl,ru):=rv.one;let(z,aW,n,r,hl,e):=I.LQ hH;refine j3 F.slot_list_append ⟨_,e,rfl⟩ F.entry_list_append (F.args_list_append_2 _ _) (PySem.list_append l aW.toArray n u (by rw[bm];lk)) ⟨e,?_⟩;refine⟨.non,_,I.ah7 (its':=aW++[u]) hH e (by simp) (r.append<|.cons ru .nil) ?_,rfl,q⟩;grind
def anJ:V->List V->Hp->VK->Prop:=λx vs H Q=>∃l xs,x=.ref l/\vs=[]/\H l=some (.lst xs)/\Q .non (upd H l<|.lst [])
def ah9:MtM X "list.clear" anJ:=by intro aj s σ H x vs v us Q I rx rv h;let(l,xs,rfl,rfl,hH,q):=h;cases rx;have hus:=rv.zero;subst hus;let(z,aW,n,r,hl,e):=I.LQ hH;refine j3 F.slot_list_clear ⟨_,e,rfl⟩ F.entry_list_clear (F.args_list_clear_1 _) (AutoSeq1.list_clear_list_0 l aW.toArray n (by rw[bm];lk)) ⟨e,?_⟩;exact⟨.non,_,I.ah7 (its':=[]) (ys:=[]) hH e rfl .nil<|dE _,rfl,q⟩
def auR:R2:=λx y H Q=>∃l b xs zs,x=.ref l/\y=.ref b/\H l=some (.lst xs)/\H b=some (.lst zs)/\xs.length+zs.length<=sizeLine/\∀p,H p=none->Q (.ref p) (upd H p<|.lst<|xs++zs)
def afE:dh X (binaryOp .Add) auR:=by
 fin2;let(l,b,xs,zs,rfl,rfl,hH,hB,hz,q):=h;cases rx;cases ry;let(z,aW,n,r,hl,e):=I.LQ hH;let(z2,vU,n2,r2,qd,e2):=I.LQ hB;refine PySem.P.add_list e e2 ?_ (by rw[bm,bm];lk);have ea:aW.toArray++vU.toArray=(aW++vU).toArray:=by simp
 rw[ea];exact(.ref _,_,I.adE (t':=s.toks) (r.append r2) (by rw[aw];lk),rfl,q _ I.fresh)
def auS:R2:=λx y H Q=>∃l k xs,x=.ref l/\y=.int k/\H l=some (.lst xs)∧-(2^63)<=k/\k<2^63/\xs.length*k.toNat<=sizeLine/\
 ∀p,H p=none->Q (.ref p) (upd H p<|.lst (replicate k.toNat xs).flatten)
def len_rep (xs:List α)(k:Nat):(replicate k xs).flatten.length=k*xs.length:=by simp
def anK:dh X (binaryOp .Mult) auS:=by
 fin2;let(l,k,xs,rfl,rfl,hH,h1,h2,hz,q):=h;cases rx;let(t,rfl):=ry;let(z,aW,n,r,hl,e):=I.LQ hH;have cZ:aW.toArray.size*k.toNat<=sizeLine:=by rw[bm,←hl];exact hz
 have auT:¬aW.toArray.size*k.toNat>(2^63 - 1)/8:=by
  have:(sizeLine:Nat)<=(2^63 - 1)/8:=by decide
  lk
 have auU:¬(!Builtin.List.listFitsIndex k)=true:=by rw[fitsIndex_both h1 h2];simp
 have aq7:¬Builtin.List.listTooLong (aW.toArray.size*k.toNat)=true:=by rw[ah8 cZ];simp
 have uc:foldl (λx1 x2=>x1++x2) #[] (replicate (if aW.toArray.isEmpty=true then 0 else k.toNat) aW.toArray)=(replicate k.toNat aW).flatten.toArray:=by
  have f0:∀m:Nat,foldl (λx1 x2=>x1++x2) #[] (replicate m aW.toArray)=(replicate m aW).flatten.toArray:=λm=>by have:=foldl_rep aW m [];grind
  rw[f0];cases aW with
  |nil=>simp
  |cons a r'=>rfl
 refine wpAny_binaryOp_repeat_ref (T:="list") (U:="int") ⋯ ⟨_,e,rfl⟩ (λs'=>typeIs_int s' k t) noFill_list_mul F.fills_int_mul F.slot_int_rmul repeat_list F.slot_int_index.lookup
  (j3 F.slot_int_rmul (typeIs_int s k t) F.entry_int_rmul (F.args_int_rmul_2 _ _) (int___rmul___int_list k t l aW.toArray n)
   ⟨e,rfl,⟨_,e,rfl⟩,j3 F.slot_list_mul ⟨_,e,rfl⟩ F.entry_list_mul (F.args_list_mul_2 _ _) (AutoListH.list___mul___list_int_3 l aW.toArray n k t auU auT aq7) ⟨e,?_⟩⟩)
 rw[uc];exact⟨.ref _,_,I.adE (t':=s.toks) (r.rep k.toNat) (by rw[len_rep,Nat.mul_comm];exact hz),rfl,q _ I.fresh⟩
end
section
variable {s:Shared}
end
section
end
end L2
namespace Att
open PySem.W PySem.Calls PyProof.Rows
def Od {P:Params}{h:Heap}:∀(ns:List Int) (vs:List Value),WellAll P h vs (ns.map WData.int)->IntsAre vs ns:=by
 intro ns;induction ns with
 |nil=>
  intro vs w;rw[eQ] at w;cases w;exact .nil
 |cons n ns ih=>
  intro vs w;rw[az] at w;cases w with
  |cons a b=>cases a;exact .cons _ _<|ih _ b
def afF {l:OpenLaw}{n:Nat}(hn:l.most=some n){P:Params}{h:Heap}{args:List WData}{vals:List Value}
  (RD:l.row.toRowW.claim.pre args=true)(wu:WellAll P h vals args):
  ∃a vs ns,vals=[Value.ref a]/\args=[WData.list<|ns.map WData.int]/\h.get? a=some {cls:=.type "list",data:=.seq vs.toArray}/\IntsAre vs ns/\ns.length<=n:=by
 have hsh:WShape.hasAll [] args [.list .int]=true:=(pre_splitW RD).1;have hc:l.pre.holds [] {args:=args}=true:=(pre_splitW RD).2;let(d,r,rfl,h1,h2):=hasAllW_cons hsh;obtain rfl:=hasAllW_nil h2;let(xs,rfl,h3):=hasW_list h1;let(ns,rfl):=items_int h3;have cZ:ns.length<=n:=by
  unfold OpenLaw.pre at hc;have h4:(WTm.not<|.lt (.lit<|.int (n:Int))<|.len<|.arg 0).holds [] {args:=[.list<|ns.map .int]}=true:=by have h4:=(holds_andW hc).1;lk
  have h5:=condW_of h4<|w_not<|w_lt w_lit<|w_len_list<|w_arg rfl;grind
 cases wu with
 |cons w1 w2=>
  cases w2;cases w1 with
  |list ho hall=>exact(_,_,ns,rfl,rfl,ho,Od ns _ hall,cZ)
def afG (l:OpenLaw)(args:List WData):l.row.toRowW.claim.post args (.bool true) args=true:=
 postW_of (r:=l.row.toRowW) (X:=(true==true))
  (show WShape.has [] (.bool true) .bool=true by first|rfl|decide|simp[WShape.has,WShape.arms,WShape.armsAll])
  (show(WTm.eq .res<|.lit<|.bool true).value [] {args:=args,res:=some<|.bool true,after:=args}=some (.bool<|true==true) from w_eq_bool (w_res rfl) w_lit) rfl
def abf {l:OpenLaw}{n:Nat}{q:Program}{Oe:List Str}{XP:(Str->Option Value)->Heap->Prop}{YP:World->Heap->Prop}{d:DefRec}
  (hn:l.most=some n)(hdf:d.params.defaults=[])
  (call:∀(w:World) (s₀ cJ:Shared) (mg mb:Str->Option Value) (fa:Addr) (o:Obj) (pm cd qR:Value) (a:Addr) (vs:List Value) (ns:List Int),
   Ground q Oe [] XP w s₀ mg mb cJ.heap->YP w cJ.heap->
   cJ.heap.get? fa=some o->o.data=.func (docDef d.name d.params d.body d.scope pm cd qR)->cJ.heap.CodeRec cd d.name->mg d.name=some (.ref fa)->
   cJ.heap.get? a=some {cls:=.type "list",data:=.seq vs.toArray}->IntsAre vs ns->ns.length<=n->cJ.gens= #[]->
   codeAny (model l.prog w) callerA (.call (.ref fa) ⟨[.ref a],[]⟩) (λr s'=>r=.ok (.ret (.bool true))/\OldK cJ.heap s'.heap/\s'.os=cJ.os/\AllBare s'.gens) cJ):
  WalkO q Oe XP YP l.row.toRowW d [] (λf vs=>PySem.call f vs):=by
 intro w s₀ cJ mg mb G Y fa o pm cd qR dV kV ho hd Nz hD hmg hg args vals as RD hlay hrd wu hlo;obtain rfl:dV=.none:=Dflts.none hD hdf;obtain rfl:kV=.none:=Dflts.noKw hD;let(a,vs,ns,rfl,rfl,aia,adF,cZ):=afF hn RD wu;refine enter_call<|li (call w s₀ cJ mg mb fa o pm cd qR a vs ns G Y ho (fd_plain hd) Nz hmg aia adF cZ hg) λr s' hq=>?_;let(rfl,h2,h3,h4):=hq;exact⟨.inl ⟨.bool true,.bool true,[],rfl,λ_=>rfl,.bool true,afG l _,λ_=>⟨List.Pairwise.nil,λ_ hm=>(nomatch hm)⟩⟩,h2,h3,h4⟩
section
variable {K:Frag}
end
end Att
namespace L2
open PyProof.Rows
def afJ (h:IntsAre vs ns):Vals (ns.map V.int) vs:=by
 induction h with
 |nil=>exact .nil
 |cons n t _ ih=>exact .cons ⟨t,rfl⟩ ih
def Only (H:Hp):Prop:=∀b,H b=none\/∃o xs,H b=some (.jZ o<|.lst xs)
def aib {P:Program}{w:World}{K:Frag}{mg mb:Str->Option Value}{CX:N6}{k:Nat}{fa a:Addr}{fd:FuncData}{x:Str}{sp:Sp}{cJ:Shared}{vs:List Value}{ns:List Int}
  (KX:K.In cJ.heap)(Ud:cJ.heap.Ns mainGlobals mg)(hb:cJ.heap.Ns builtinsNs mb)(hbb:∀x:Str,x≠"__name__"->mb x=bootBuiltins x)(aic:cJ.heap.NoLimit)(hg:cJ.gens= #[])
  (ha:cJ.heap.get? a=some {cls:=.type "list",data:=.seq vs.toArray})(hi:IntsAre vs ns)(hl:ns.length<=sizeLine)(hr:gD k callerA)
  (F:∀base:Heap,K.In base->base.Ns mainGlobals mg->bJ P w K mg base CX k fa fd [x] sp)(aq8:∀(s:Shared) (u:Value),BindsTo s fd ⟨[u],[]⟩ [(x,u)])
  (fQ:∀H:Hp,Only H->aZ K H a (ns.map V.int)->sp [.ref a] H (λv _=>v=.bl true) λ_ _ _=>False)
  (hCX:∀H e s',CX [] H cJ (λ_ _ _=>False) e s'->False):
  codeAny (model P w) callerA (.call (.ref fa) ⟨[.ref a],[]⟩) (λr s'=>r=.ok (.ret<|.bool true)/\OldK cJ.heap s'.heap/\s'.os=cJ.os/\AllBare s'.gens) cJ:=by
 have rv:=afJ hi;have auV:=hi.length;have anM:∀H:Hp,Only H->aZ K H a (ns.map V.int)->mz P w H cJ.heap->(∀b,H b≠none->b=a)->(H a≠none->K.lookup a=none)->
   codeAny (model P w) callerA (.call (.ref fa) ⟨[.ref a],[]⟩) (λr s'=>r=.ok (.ret<|.bool true)/\OldK cJ.heap s'.heap/\s'.os=cJ.os/\AllBare s'.gens) cJ:=by
  intro H hO hS hok hA hK;have abJ:∀{b:Addr}{o:Obj},cJ.heap.get? b=some o->H b=none->(CQ cJ.heap H).get? b=some o:=λe n=>ahP e n;have noA:∀{b:Addr}{o:Obj} {es:Array DictEntry} {ep:Nat},cJ.heap.get? b=some o->o.data=.dict es ep->H b=none:=λ{b o es ep} e d=>by grind
  have nsK:∀{b:Addr}{m:Str->Option Value},cJ.heap.Ns b m->(CQ cJ.heap H).Ns b m:=λ{b m} ⟨o,es,ep,e,d,r⟩=>⟨o,es,ep,abJ e (noA e d),d,r⟩;have hKb:K.In (CQ cJ.heap H):=λb o e=>abJ (KX b o e) (by
   grind)
  have hM:Mod K mg (CQ cJ.heap H):=⟨hKb,nsK Ud,⟨mb,nsK hb,hbb⟩,let⟨mc,h1,h2⟩:=aic;⟨mc,nsK h1,h2⟩⟩;have e0:Ly P w K mg (CQ cJ.heap H) callerA [] cJ H:=⟨rfl,hM,λb o e=>alR e,Nat.le_of_eq<|ae7 _ _,trivial,λb hb=>absurd (show b∈([]:List Addr) from hb) (by simp),hok,.of_eq hg⟩;refine li ((F _ hKb<|nsK Ud).run callerA [] cJ H ⟨[.ref a],[]⟩ [.ref a] [.ref a] _ _ hr e0 (aq8 cJ<|.ref a) (.cons rfl .nil)<|fQ H hO hS) λr s' h=>?_;cases r with
  |error e=>exact(hCX H e s' h).elim
  |ok fl=>
   cases fl with
   |next=>exact False.elim h
   |brk=>exact False.elim h
   |cont=>exact False.elim h
   |ret u=>
    let(v,H',os,bare,un,auW,r',q):=h;have q':v=.bl true:=q;subst q';obtain rfl:u=Value.bool true:=r';refine⟨rfl,OldK.of_keep λb o e=>?_,os,bare⟩;cases q:H b with
    |none=>exact un.keep b o e q (by intro z;exact absurd (show b∈([]:List Addr) from z) (by simp)) (by simp)
    |some u=>
     rcases hO b with z|⟨ob,xs,z⟩
     .rw[q] at z;cases z
     .have z2:=un.vO b ob _ z;let(e1,_):=hok b _ z;let(e2,_):=auW b _ z2;rw[e] at e1;cases e1;exact e2
 cases hk:K.lookup a with
 |some o=>
  have e:=KX a o hk;rw[ha] at e;cases e;refine anM (λ_=>none) (λ_=>.inl rfl) (.inr ⟨_,vs.toArray,_,hk,rfl,rfl,rfl,by rw[bm,auV];exact hl,by simpa using rv⟩) (λb u z=>by have z':(none:Option HO)=some u:=z;cases z') (λb z=>absurd rfl z) λz=>absurd rfl z
 |none=>
  refine anM (λb=>if b=a then some (.jZ {cls:=.type "list",data:=.seq vs.toArray}<|.lst<|ns.map V.int) else none) (λb=>?_) (.inl<|.inr ⟨{cls:=.type "list",data:=.seq vs.toArray},ar rfl⟩) (λb u z=>?_) (λb z=>?_) λ_=>hk
  .grind
  .by_cases hb:b=a
   .have z':=(ar hb).symm.trans z;cases z';subst hb;exact⟨ha,by rw[af];exact hl,vs,_,rv,ha⟩
   .omega
  .omega
def al4 {l:PySem.W.OpenLaw}{n k:Nat}{q:Program}{Oe:List Str}{XP:(Str->Option Value)->Heap->Prop}{YP:World->Heap->Prop}{d:DefRec}{K:Params->Frag}{CX:World->N6}{sp:World->Sp}{x:Str}
  (hn:l.most=some n)(Ke:n<=sizeLine)(hdf:d.params.defaults=[])(hr:gD k callerA)
  (hY:∀(w:World) (h:Heap),YP w h->(K w.params).In h)
  (F:∀(w:World) (mg:Str->Option Value) (fa:Addr) (h:Heap),(K w.params).In h->h.Ns mainGlobals mg->mg d.name=some (.ref fa)->
   ∃fd:FuncData,(∀(s:Shared) (u:Value),BindsTo s fd ⟨[u],[]⟩ [(x,u)])/\
    ∀base:Heap,(K w.params).In base->base.Ns mainGlobals mg->bJ l.prog w (K w.params) mg base (CX w) k fa fd [x] (sp w))
  (fQ:∀(w:World) (H:Hp) (a:Addr) (ns:List Int),ns.length<=n->Only H->aZ (K w.params) H a (ns.map V.int)->sp w [.ref a] H (λv _=>v=.bl true) λ_ _ _=>False)
  (hCX:∀(w:World) (H:Hp) (s:Shared) (e:Value) (s':Shared),CX w [] H s (λ_ _ _=>False) e s'->False):
  PySem.W.WalkO q Oe XP YP l.row.toRowW d [] (λf vs=>PySem.call f vs):=by
 refine Att.abf hn hdf λw s₀ cJ mg mb fa o pm cd qR a vs ns G Y ho hd Nz hmg aia adF cZ hg=>?_;have KX:=hY w _ Y;let(fd,hb,hF):=F w mg fa _ KX G.T.g hmg;exact aib KX G.T.g G.T.b G.T.builtins G.T.nolimit hg aia adF (dL cZ Ke) hr hF hb (λH hO hS=>fQ w H a ns cZ hO hS) λH e s'=>hCX w H cJ e s'
noncomputable def inClass (s:Stmt)(j:Nat):Stmt:=match s with
 |.ClassDef _ _ _ body _ _ _ _ _ _ _=>body.getD j<|.Pass (0,0,0,0)
 |_=>.Pass (0,0,0,0)
noncomputable def pC (s:Stmt):Arguments:=match s with
 |.FunctionDef _ a _ _ _ _ _ _ _ _=>a
 |_=>{posonlyargs:=[],args:=[],vararg:=none,kwonlyargs:=[],kw_defaults:=[],kwarg:=none,defaults:=[]}
noncomputable def gY (s:Stmt):List Stmt:=match s with
 |.FunctionDef _ _ b _ _ _ _ _ _ _=>b
 |_=>[]
noncomputable def aN (s:Stmt):Scope:=match s with
 |.FunctionDef _ _ _ _ _ _ sc _ _ _=>sc
 |_=>{kind:=.function,names:=[],isGenerator:=false,isCoroutine:=false}
abbrev cA:N6:=λ_ _ _ _ _ _=>False
abbrev E0:XK:=λ_ _ _=>False
def dB:Passes cA X E0:=λ_ _ _ _ _ _ _ h=>h.elim
structure bY (K:Frag)(x qual:Str)(st:Stmt)(f:Addr)(fd:FuncData):Prop where
 ex:∃(oc:Value) (od:Option Addr) (kV qR pm:Value) (an:Option Addr) (cX ct:Value) (T7:Array (Option Value)),
  fd=fnOf x qual (pC st) (gY st) (aN st) .none kV qR pm an cX ct/\K.lookup f=some (oc,od,.func fd,T7)/\codeIn K cX qual=true
 kp:keepIn K (.ref f)=true
section
variable {K:Frag}
def bY.ok {x qual:Str}{st:Stmt}{f:Addr}{fd:FuncData}{N ps:List Str}{k:Nat}{sp:Sp}(F:bY K x qual st f fd)(S:cB N ps (aN st))(len:∀vs H Q E,sp vs H Q E->vs.length=ps.length)
  (adx:∀(cX:Value) (A:Around) (outer:List Env) (s:Shared) (H:Hp) (vs:List V) (Q:VK) (E:XK),gD k (A.deeper (envOfC qual (aN st) s.heap.objs.size f cX))->sp vs H Q E->
   ∃t,kj (jP cA P w K mg base N qual (aN st) f cX A outer s H E).TQ (gY st) t/\t {nx:=λ_ H'=>Q .non H',rt:=Q} (start N vs) H):bJ P w K mg base cA (k+1) f fd ps sp:=by
 let(oc,od,kV,qR,pm,an,cX,ct,T7,rfl,lk,Nz):=F.ex;refine aq4 lk Nz S len λA outer s H vs Q E hr fQ=>?_;let(t,h,q):=adx cX A outer s H vs Q E hr fQ;exact(t,h.TQ,q)
def bY.binds {x qual:Str}{st:Stmt}{f:Addr}{fd:FuncData}{ps:List Str}(F:bY K x qual st f fd)
  (h:∀(kV qR pm:Value) (an:Option Addr) (cX ct:Value) (us:List Value),us.length=ps.length->bindArgs (fnOf x qual (pC st) (gY st) (aN st) .none kV qR pm an cX ct) ⟨us,[]⟩=pure (ps.zip us)):Binds K fd ps []:=by
 let(oc,od,kV,qR,pm,an,cX,ct,T7,rfl,lk,Nz):=F.ex;exact .all<|h kV qR pm an cX ct
def afK {x qual:Str}{st:Stmt}{f:Addr}{oc:Value}{od an:Option Addr}{T7:Array (Option Value)}{kV qR pm cX ct:Value}(l:K.lookup f=some ⟨oc,od,.func<|fnOf x qual (pC st) (gY st) (aN st) .none kV qR pm an cX ct,T7⟩)
  (c:codeIn K cX qual=true)(k:keepIn K (.ref f)=true):bY K x qual st f (fnOf x qual (pC st) (gY st) (aN st) .none kV qR pm an cX ct):=⟨⟨oc,od,kV,qR,pm,an,cX,ct,T7,rfl,l,c⟩,k⟩
end
def pF (hr:gD k A):A.units+1<cLine:=iq (Nat.add_le_add_left (by decide:1<=64) _) hr.units
def Ue (h:n<=1000):n<sizeLine:=iq h<|by decide
section
end
def Same (H H':Hp):Prop:=∀b o,H b=some o->H' b=some o
def Same.refl (H:Hp):Same H H:=λ_ _ h=>h
def Same.trans (a:Same H H1)(b:Same H1 H2):Same H H2:=λc o h=>b c o<|a c o h
def Same.free (e:Same H H')(h:H' l=Option.none):H l=Option.none:=by
 cases q:H l with
 |none=>rfl
 |some o=>rw[e l o q] at h;cases h
def Same.seq {K:Frag}{H H':Hp}{a:Addr}{xs:List V}(e:Same H H')(h:aZ K H a xs):aZ K H' a xs:=by
 rcases h with(h|⟨o,h⟩)|h
 .exact .inl<|.inl<|e _ _ h
 .exact .inl<|.inr ⟨o,e _ _ h⟩
 .exact .inr h
def PE.imp (h:PE X e t)(ht:∀σ H Q,t' σ H Q->t σ H Q):PE X e t':=λaj s σ H Q I q=>h aj s σ H Q I<|ht σ H Q q
section
variable {h':Heap}
def Inv.turns {fp:List Addr}{t':Nat}(I:Inv X aj σ H s)(k:∀b o,b∉fp->s.heap.get? b=some o->h'.get? b=some o)(hf:∀b∈fp,tZ X aj H b):Inv X aj σ H {s with heap:=h',toks:=t'}:=by
 have nit:∀b u,H b=some u->b∉fp:=λb u e z=>by rw[(hf b z).1] at e;cases e
 refine I.step (λb hb=>⟨(hf b hb).2.2.2.1,(hf b hb).2.1,(hf b hb).2.2.2.2.1,(hf b hb).2.2.2.2.2⟩) (λb o _ _ hc e _=>k b o hc e) (λb o _ _ hc e _=>⟨o.slots,k b o hc e⟩) (λ_ _ _ _ n=>n)
  (λb o hc e=>⟨o,k b o hc e⟩) (λ_ _ e=>e) (λ_ _ _ e=>e) (λb ps e=>⟨#[],by rw[e];simp⟩) (λm hm=>?_) (λb u e=>?_) I.bare
 .let(o,es,ep,ho,r):=hm;exact⟨o,es,ep,k _ o (λz=>(hf _ z).2.1 rfl) ho,r⟩
 .refine(I.hok b u e).stay (λc v hc q=>k c v ?_ q) (λ_ q=>q) λ_ _ q=>q;grind
def Inv.abK {fp:List Addr}{T:Addr}{o:HO}{t':Nat}(I:Inv X aj σ H s)(k:∀b o,b∉fp->s.heap.get? b=some o->h'.get? b=some o)(hf:∀b∈fp,tZ X aj H b)(hT:s.heap.objs.size<=T)
  (new:jw X.prog X.w (upd H T o) h' T o):Inv X aj σ (upd H T o) {s with heap:=h',toks:=t'}:=by
 have hn:=I.hok.fresh hT;have nit:∀b u,H b=some u->b∉fp:=λb u e z=>by rw[(hf b z).1] at e;cases e
 have neT:∀{b:Addr}{u:Obj},s.heap.get? b=some u->b≠T:=λe=>dq<|b8 (cq e) hT;refine I.step (λb hb=>⟨(hf b hb).2.2.2.1,(hf b hb).2.1,(hf b hb).2.2.2.2.1,(hf b hb).2.2.2.2.2⟩) (λb o _ _ hc e _=>k b o hc e) (λb o _ _ hc e _=>⟨o.slots,k b o hc e⟩)
  (λb o _ e n=>by rw[aJ<|neT e];exact n)
  (λb o hc e=>⟨o,k b o hc e⟩) (λb xs e=>by rw[aJ<|bF e hn];exact e) (λb _ _ e=>by rw[aJ<|bF e hn];exact e) (λb ps e=>⟨#[],by rw[aJ<|bF e hn,e];simp⟩) (λm hm=>?_) (λb u e=>?_) I.bare
 .let(o,es,ep,ho,r):=hm;exact⟨o,es,ep,k _ o (λz=>(hf _ z).2.1 rfl) ho,r⟩
 .by_cases hb:b=T
  .subst hb;rw[au] at e;cases e;exact new
  .rw[aJ hb] at e;refine(I.hok b u e).stay (λc v hc q=>k c v ?_ q) (λc q=>by rw[aJ<|bF q hn];exact q) λc xs q=>by rw[aJ<|bF q hn];exact q
   grind
end
def Ite (K:Frag)(a:Addr):It:=
  (λi H=>∃xs x,aZ K H a xs/\xs[i]? =some x,
   λi H v H'=>∃p x,H p=none/\v=.ref p/\(∀xs,aZ K H a xs->xs[i]? =some x)/\H'=upd H p (.tup [.int (i:Int),x]),
   λi H=>∃xs,aZ K H a xs/\xs.length<=i)
def afL {P:Program}{w:World}{K:Frag}{Ys:List Expr}{k:Nat}{pos:Pos}(a e it:Addr)(hei:e≠it):
  Turn P w K (.Tuple Ys k pos) (Ite K a) [e,it] e (λi h=>(∃old,IsEnum h e it (i:Nat) old)/\h.IsListIter it a i) where
 mem:=by simp
 obj:=λi h st b hb=>by
  let((old,he),(o,e1,c,d)):=st;rcases aI.mp hb with rfl|hb
  .exact⟨_,he,λv z=>by have z':Data.fields _=Data.cell v:=z;cases z'⟩
  .rw[aE.mp hb];exact⟨o,e1,λv z=>by rw[d] at z;cases z⟩
 keep:=λi h h' st k=>by let((old,he),st):=st;exact⟨⟨old,k e (by simp) _ he⟩,st.at λo e=>k it (by simp) o e⟩
 item:=by
  intro X hP hw hK hc i aj s σ H E I hf st hg;subst hP hw hK;let((old,he),wz):=st;let(xs,x,hq,hx):=hg;let(aW,rv,p,hz):=I.list hq;let(u,hu,ru):=rv.get hx;refine wpAny_pyNext_enum_item he wz p.isList (x:=u) (by simpa using hu) hei λh' ho auX hT hsz hk=>?_;refine⟨_,rfl,wpAny_letOwnedTupleGo_enum ho λh2 he2 lX=>?_⟩;have dZ:e<s.heap.objs.size:=cq he;have hT2:h2.get? s.heap.objs.size=some {cls:=.type "tuple",data:=.seq #[.int i s.toks,u]}:=(lX.2 _<|mB dZ).trans hT;refine⟨.ref s.heap.objs.size,upd H s.heap.objs.size<|.tup [.int (i:Int),x],?_,rfl,⟨_,x,I.hok.fresh<|ax _,rfl,λys hy=>by rw[I.CT hy hq];exact hx,rfl⟩,⟨⟨u,by simpa using he2⟩,auX.at λo y=>(lX.2 it hei.symm).trans y⟩,λb hb=>?_⟩
  .refine I.abK (fp:=[e,it]) (λb o hb q=>?_) hf (ax _) ⟨by show 2<=sizeLine;decide,[.int i s.toks,u],.cons ⟨_,rfl⟩<|.cons ru .nil,⟨_,hT2,rfl,_,rfl⟩⟩;have h1:b≠e:=λz=>hb (by simp[z]);have Ug:b≠it:=λz=>hb (by simp[z]);exact(lX.2 b h1).trans<|hk b o h1 Ug q
  .have bA:b≠s.heap.objs.size:=by
    rcases aI.mp hb with rfl|hb
    .exact dq dZ
    .rw[aE.mp hb];let(_,y,_):=wz;exact dq<|cq y
   rw[aJ bA];exact(hf b hb).1
 done:=by w_up;subst hP hw hK;let((old,he),wz):=st;let(xs,hq,hx):=hg;let(aW,rv,p,hz):=I.list hq;have hl:=rv.length;refine wpAny_pyNext_enum_end (I.ok.hd hc) he wz p.isList (by simp;lk) λh' eb=>⟨rfl,I.turns (t':=s.toks) (fp:=[e,it]) (λb o hb q=>eb b o (λz=>hb<|by simp[z]) q) hf⟩
 self:=λ_ _ _ _ _ st h=>by let((old,he),_):=st;exact wpAny_pyIter_enum he h
section
inductive afM (K:Frag)(R:(It->Hp->Prop))(vs:List V)(H1:Hp):Prop
 |mk:∀a,vs=[.ref a]->((∃xs,aZ K H1 a xs))->R (Ite K a) H1->afM K R vs H1
def Wg (K:Frag)(ta:TA):TI:=λσ H R=>ta σ H λvs H1=>afM K R vs H1
def RG {X6:Pos}(hg:Gl X "enumerate")(hm:X.mg "enumerate"=none)(ha:PA X [l] ta)(hs:starEach [l] X.env=[(false,eval l X.env)]:=by rfl):
  PI X (.Tuple Ys k X6) (.Call (.Name "enumerate" p) [l] [] pos) (Wg X.K ta):=by
 intro aj s σ H R I h;refine Call_<|uW I hg hm boot_enumerate<|dn (bK (ha pos aj s σ H _ I h) ?_) hs rfl;rintro us s1 ⟨vs,H1,I1,r1,q1⟩;let(a,e,(xs,hq),q):=q1;subst e;cases r1 with
 |cons r rr=>
  cases rr;cases r;let(aW,rv,pl,hz):=I1.list hq;refine call_enumerate_list pl.isList λh' hE hI hsz hk=>?_;refine wpAny_pyIter_enum hE ?_;have bA:s1.heap.objs.size+1≠s1.heap.objs.size:=Nat.succ_ne_self _;refine⟨_,[s1.heap.objs.size+1,s1.heap.objs.size],_,_,H1,rfl,I1.kept hk,afL a _ s1.heap.objs.size bA,⟨⟨.none,hE⟩,hI⟩,λb hb=>?_,q⟩;have xV:s1.heap.objs.size<=b:=by
   rcases aI.mp hb with rfl|hb
   .exact oq _
   .rw[aE.mp hb];exact ax _
  exact I1.Lq xV<|I1.hok.fresh xV
end
def Itz (K:Frag)(a b:Addr):It:=
  (λi H=>∃xs x ys y,aZ K H a xs/\xs[i]? =some x/\aZ K H b ys/\ys[i]? =some y,
   λi H v H'=>∃p x y,H p=none/\v=.ref p/\(∀xs,aZ K H a xs->xs[i]? =some x)/\(∀ys,aZ K H b ys->ys[i]? =some y)/\H'=upd H p (.tup [x,y]),
   λi H=>∃xs ys,aZ K H a xs/\aZ K H b ys/\(xs.length<=i\/ys.length<=i))
structure Yt (z TI TO i1 i2:Addr):Prop where
 TIz:TI≠z
 TOz:TO≠z
 i1z:i1≠z
 i2z:i2≠z
 TITO:TI≠TO
 TIi1:TI≠i1
 TIi2:TI≠i2
 TOi1:TO≠i1
 TOi2:TO≠i2
 i12:i1≠i2
def akx (z TI TO i1 i2 a b:Addr)(i:Nat)(h:Heap):Prop:=
 IsZip h z TI TO .none/\IsPair h TI (.ref i1) (.ref i2)/\(∃c d,IsPair h TO c d)/\h.IsListIter i1 a i/\h.IsListIter i2 b i
def Uh {h:Heap}{z TI TO i1 i2 a b:Addr}{i:Nat}{xs ys:Array Value}(D:Yt z TI TO i1 i2)(st:akx z TI TO i1 i2 a b i h)(ha:h.IsList a xs)(hb:h.IsList b ys):ZipApart z TI TO i1 i2 a b:=by
 let(hz,FQ,(c,d,hTO),(o1,e1,c1,_),(o2,e2,c2,_)):=st;let(oa,ea,ca,_):=ha;let(ob,eb,cb,_):=hb;have nz:∀{l:Addr}{o:Obj},h.get? l=some o->o.cls=.type "list"->l≠z:=λe c q=>by lk
 have nT:∀{l:Addr}{o:Obj},h.get? l=some o->o.cls=.type "list"->l≠TO:=λe c q=>by lk
 have n1:∀{l:Addr}{o:Obj},h.get? l=some o->o.cls=.type "list"->l≠i1:=λe c q=>by lk
 have n2:∀{l:Addr}{o:Obj},h.get? l=some o->o.cls=.type "list"->l≠i2:=λe c q=>by lk
 exact(D.TIz,D.TOz,D.i1z,D.i2z,D.TITO,D.TIi1,D.TIi2,D.TOi1,D.TOi2,D.i12,nz ea ca,nT ea ca,n1 ea ca,n2 ea ca,nz eb cb,nT eb cb,n1 eb cb,n2 eb cb)
def aie {P:Program}{w:World}{K:Frag}{Ys:List Expr}{k:Nat}{pos:Pos}(a b z TI TO i1 i2:Addr)(D:Yt z TI TO i1 i2):
  Turn P w K (.Tuple Ys k pos) (Itz K a b) [z,TI,TO,i1,i2] z (akx z TI TO i1 i2 a b) where
 mem:=by simp
 obj:=λi h st c hc=>by
  let(hz,FQ,(c1,d1,hTO),(o1,e1,_,g1),(o2,e2,_,g2)):=st;simp only[aI,l4,nK] at hc;rcases hc with rfl|rfl|rfl|rfl|rfl
  .exact⟨_,hz,λv q=>by have q':Data.fields _=Data.cell v:=q;cases q'⟩
  .exact⟨_,FQ,λv q=>by have q':Data.seq _ _=Data.cell v:=q;cases q'⟩
  .exact⟨_,hTO,λv q=>by have q':Data.seq _ _=Data.cell v:=q;cases q'⟩
  .exact⟨o1,e1,λv q=>by rw[g1] at q;cases q⟩
  .exact⟨o2,e2,λv q=>by rw[g2] at q;cases q⟩
 keep:=λi h h' st k=>by let(hz,FQ,(c1,d1,hTO),h1,h2):=st;exact⟨k z (by simp) _ hz,k TI (by simp) _ FQ,⟨c1,d1,k TO (by simp) _ hTO⟩,h1.at λo e=>k i1 (by simp) o e,h2.at λo e=>k i2 (by simp) o e⟩
 item:=by
  w_up;subst hP hw hK;let(xs,x,ys,y,hq,hx,u5,hy):=hg;let(aW,rv,p,hz):=I.list hq;let(u,hu,ru):=rv.get hx;let(vU,Yu,p2,FT):=I.list u5;let(u2,hu2,ru2):=Yu.get hy;have DA:=Uh D st p.isList p2.isList;let(sz,sTI,(c1,d1,sTO),s1,s2):=st;refine p5 DA sz sTI sTO s1 s2 p.isList p2.isList (x:=u) (y:=u2) (by simpa using hu) (by simpa using hu2) λh' a1 a2 a3 a4 a5 a6 hk=>?_;refine⟨_,rfl,wpAny_letOwnedTupleGo_zip a1 λh2 he2 lX=>?_⟩;have lt:∀{c:Addr}{o:Obj},s.heap.get? c=some o->c≠s.heap.objs.size:=λe=>dq (cq e);have hT2:IsPair h2 s.heap.objs.size u u2:=(lX.2 _ (lt sz).symm).trans a5;have auY:=hk _ _ DA.TIz DA.TITO DA.TIi1 DA.TIi2 sTI;refine⟨.ref s.heap.objs.size,upd H s.heap.objs.size (.tup [x,y]),?_,rfl,⟨_,x,y,I.hok.fresh (ax _),rfl,λzs hz=>by rw[I.CT hz hq];exact hx,λzs hz=>by rw[I.CT hz u5];exact hy,rfl⟩,
   ⟨he2,(lX.2 _ DA.TIz).trans auY,⟨u,u2,(lX.2 _ DA.TOz).trans a2⟩,a3.at λo q=>(lX.2 i1 DA.i1z).trans q,a4.at λo q=>(lX.2 i2 DA.i2z).trans q⟩,λc hc=>?_⟩
  .refine I.abK (fp:=[z,TI,TO,i1,i2]) (t':=s.toks) (λc o hc q=>?_) hf (ax _) ⟨by show 2<=sizeLine;decide,[u,u2],.cons ru<|.cons ru2 .nil,⟨_,hT2,rfl,_,rfl⟩⟩;simp only[aI,l4,nK,not_or] at hc;let(n1,n2,n3,n4,n5):=hc;exact(lX.2 c n1).trans<|hk c o n1 n3 n4 n5 q
  .have bA:c≠s.heap.objs.size:=by
    simp only[aI,l4,nK] at hc;let(_,e1,_):=s1;let(_,e2,_):=s2;rcases hc with rfl|rfl|rfl|rfl|rfl
    .exact lt sz
    .exact lt sTI
    .exact lt sTO
    .exact lt e1
    .exact lt e2
   rw[aJ bA];exact(hf c hc).1
 done:=by w_up;subst hP hw hK;let(xs,ys,hq,u5,hx):=hg;let(aW,rv,p,hz):=I.list hq;let(vU,Yu,p2,FT):=I.list u5;have hl:=rv.length;have qd:=Yu.length;have DA:=Uh D st p.isList p2.isList;let(sz,sTI,(c1,d1,sTO),s1,s2):=st;refine wpAny_pyNext_zip_end (I.ok.hd hc) DA sz sTI sTO s1 s2 p.isList p2.isList (by rcases hx with q|q;exact .inl (by simp;lk);exact .inr (by simp;lk)) λh' hk=>⟨rfl,I.turns (t':=s.toks) (fp:=[z,TI,TO,i1,i2]) (λc o hc q=>?_) hf⟩;simp only[aI,l4,nK,not_or] at hc;let(n1,n2,n3,n4,n5):=hc;exact hk c o n1 n3 n4 n5 q
 self:=λ_ _ _ _ _ st h=>lS st.1 h
section
inductive akA (K:Frag)(R:(It->Hp->Prop))(vs:List V)(H1:Hp):Prop
 |mk:∀a b,vs=[.ref a,.ref b]->((∃xs,aZ K H1 a xs))->((∃ys,aZ K H1 b ys))->R (Itz K a b) H1->akA K R vs H1
def anP (K:Frag)(ta:TA):TI:=λσ H R=>ta σ H λvs H1=>akA K R vs H1
def anQ {X6:Pos}(hg:Gl X "zip")(hm:X.mg "zip"=none)(ha:PA X [l,l2] ta)(hs:starEach [l,l2] X.env=[(false,eval l X.env),(false,eval l2 X.env)]:=by rfl)(lX:starEach [l2] X.env=[(false,eval l2 X.env)]:=by rfl):
  PI X (.Tuple Ys k X6) (.Call (.Name "zip" p) [l,l2] [] pos) (anP X.K ta):=by
 intro aj s σ H R I h;refine Call_ (uW I hg hm boot_zip (dn (bK (ha pos aj s σ H _ I h) ?_) (by rw[hs,lX]) (by rw[lX];rfl)));rintro us s1 ⟨vs,H1,I1,r1,q1⟩;let(a,b,e,(xs,hq),(ys,u5),q):=q1;subst e;cases r1 with
 |cons r rr=>
  cases rr with
  |cons r2 rr=>
   cases rr;cases r;cases r2;let(aW,rv,pl,hz):=I1.list hq;let(vU,Yu,Yv,FT):=I1.list u5;refine call_zip_2 pl.isList Yv.isList λh' g1 g2 g3 g4 g5 hsz hk=>?_;refine lS g1 ?_;have D:Yt (s1.heap.objs.size+4) (s1.heap.objs.size+2) (s1.heap.objs.size+3) s1.heap.objs.size (s1.heap.objs.size+1):=by constructor<;>(intro z;have z':=dT (λx:Nat=>x) z;simp at z')
   refine(_,[s1.heap.objs.size+4,s1.heap.objs.size+2,s1.heap.objs.size+3,s1.heap.objs.size,s1.heap.objs.size+1],_,_,H1,rfl,I1.kept hk,aie a b _ _ _ _ _ D,(g1,g2,(_,_,g3),g4,g5),λc hc=>?_,q);have xV:s1.heap.objs.size<=c:=by grind
   exact I1.Lq xV<|I1.hok.fresh xV
end
theorem CZ:∀(names:List (Str×NameKind)) (acc:List (Str×Addr)),(∀y∈names,y.2=.free->∃c,env.cells.lookup y.1=some c)->(∀x c,acc.lookup x=some c->env.cells.lookup x=some c)->
  ∃cl:List (Str×Addr),(forIn names acc λ(x:Str×NameKind) (r:List (Str×Addr))=>(match x with|(name,kind)=>if(kind==NameKind.free)=true then do let c<-cellOf env name;pure (ForInStep.yield ((name,c)::r)) else pure (ForInStep.yield r):Sem (ForInStep<|List<|Str×Addr)):Sem (List<|Str×Addr))=pure cl/\
   (∀x c,cl.lookup x=some c->env.cells.lookup x=some c)/\(∀x,(x,NameKind.free)∈names->∃c,cl.lookup x=some c)/\∀x c,acc.lookup x=some c->∃c',cl.lookup x=some c'
 |[],acc,_,ha=>⟨acc,rfl,ha,λ_ h=>(nomatch h),λx c h=>⟨c,h⟩⟩
 |(n,k)::r,acc,hf,ha=>by
  by_cases hk:k=.free
  .subst hk;let(c,hc):=hf (n,.free) ae rfl;have ha':∀x c',((n,c)::acc).lookup x=some c'->env.cells.lookup x=some c':=λx c' h=>by grind
   let(cl,e,h1,h2,h3):=CZ r ((n,c)::acc) (λy hy=>hf y<|aa _ hy) ha';refine⟨cl,?_,h1,λx hx=>?_,λx c' hx=>?_⟩
   .rw[nh];have ec:cellOf env n=pure c:=by unfold cellOf;rw[hc]
    grind
   .grind
   .grind
  .let(cl,e,h1,h2,h3):=CZ r acc (λy hy=>hf y<|aa _ hy) ha;grind
def VN (hf:∀y∈scope.names,y.2=.free->∃c,env.cells.lookup y.1=some c):
  ∃cl:List (Str×Addr),closureFor scope env=pure cl/\(∀x c,cl.lookup x=some c->env.cells.lookup x=some c)/\∀x,(x,NameKind.free)∈scope.names->∃c,cl.lookup x=some c:=by
 let(cl,e,h1,h2,_):=CZ scope.names [] hf (λx c h=>by simp at h);refine(cl,?_,h1,h2);refine Eq.trans (dT (λq=>q>>= λc=>pure c) e) ?_;rfl
theorem xW {scope:Scope}{env:Env}:∀{names:List (Str×NameKind)},(names.map λ(n,k)=>if(k==NameKind.free && env.scope.kind==.function && env.kindOf n==some .cell) then(n,NameKind.cell) else(n,k)).lookup x=some k->
  ∃k',(x,k')∈names/\(k=k'\/(k'=.free/\k=.cell))
 |[],h=>by simp at h
 |(n,j)::r,h=>by
  have h':List.lookup x ((if(j==NameKind.free && env.scope.kind==.function && env.kindOf n==some .cell)=true then(n,NameKind.cell) else(n,j))::(r.map λ(n,k)=>if(k==NameKind.free && env.scope.kind==.function && env.kindOf n==some .cell) then(n,NameKind.cell) else(n,k)))=some k:=h;by_cases hc:(j==NameKind.free && env.scope.kind==.function && env.kindOf n==some .cell)=true
  .rw[ar hc,pE] at h';cases hx:x==n with
   |true=>
    rw[hx] at h';cases h';have ej:j=.free:=by simp only[bS] at hc;exact iA hc.1.1
    rw[iA hx];exact⟨.free,by rw[ej];exact ae,.inr ⟨rfl,rfl⟩⟩
   |false=>rw[hx] at h';let(k',hm,q):=xW (scope:=scope) (env:=env) (names:=r) h';exact⟨k',aa _ hm,q⟩
  .rw[ap hc,pE] at h';cases hx:x==n with
   |true=>
    rw[hx] at h';cases h';rw[iA hx];exact⟨_,ae,.inl rfl⟩
   |false=>rw[hx] at h';let(k',hm,q):=xW (scope:=scope) (env:=env) (names:=r) h';exact⟨k',aa _ hm,q⟩
theorem xX {env:Env}{x:Str}:∀{names:List (Str×NameKind)},names.lookup x=some .free->
  (names.map λ(n,k)=>if(k==NameKind.free && env.scope.kind==.function && env.kindOf n==some .cell) then(n,NameKind.cell) else(n,k)).lookup x=some .cell\/
  (names.map λ(n,k)=>if(k==NameKind.free && env.scope.kind==.function && env.kindOf n==some .cell) then(n,NameKind.cell) else(n,k)).lookup x=some .free
 |[],h=>by simp at h
 |(n,j)::r,h=>by have ih:=@xX env x r;grind
noncomputable def vV (N:List Str)(sc scope:Scope):List Str->List (Option Nat)->Bool
 |[],[]=>true
 |_::xs,none::cs=>vV N sc scope xs cs
 |x::xs,some j::cs=>(match N[j]? with|some y=>y==x|none=>false) && (match sc.names.lookup x with|some .cell=>true|some .free=>true|_=>false) &&
  (match scope.names.lookup x with|some .free=>true|_=>false) && vV N sc scope xs cs
 |_,_=>false
theorem Dc:∀{xs:List Str}{cs:List (Option Nat)},vV N sc scope xs cs=true->cs.length=xs.length
 |[],[],_=>rfl
 |_::xs,none::cs,h=>dT (· +1)<|Dc (xs:=xs) (cs:=cs) h
 |x::xs,some j::cs,h=>by simp only[vV,bS] at h;exact dT (· +1)<|Dc (xs:=xs) (cs:=cs) h.2
 |[],_::_,h=>by simp[vV] at h
 |_::_,[],h=>by simp[vV] at h
theorem RJ:∀{xs:List Str}{cs:List (Option Nat)},vV N sc scope xs cs=true->∀(i:Nat) (x:Str) (j:Nat),xs[i]? =some x->cs[i]? =some (some j)->
  N[j]? =some x/\(sc.names.lookup x=some .cell\/sc.names.lookup x=some .free)/\scope.names.lookup x=some .free
 |[],[],_,i,x,j,h,_=>by simp at h
 |_::xs,none::cs,h,0,x,j,_,h2=>by simp at h2
 |_::xs,none::cs,h,i+1,x,j,h1,h2=>RJ (xs:=xs) (cs:=cs) h i x j (by simpa using h1) (by simpa using h2)
 |y::xs,some k::cs,h,0,x,j,h1,h2=>by
  simp only[vV,bS] at h;let(((a,b),c),_):=h;have e1:y=x:=by simpa using h1
  have e2:k=j:=by simpa using h2
  subst e1 e2;refine(?_,?_,?_)
  .cases q:N[k]? with
   |none=>rw[q] at a;simp at a
   |some z=>rw[q] at a;rw[iA a]
  .cases q:sc.names.lookup y with
   |none=>rw[q] at b;simp at b
   |some z=>rw[q] at b;cases z<;>first|exact .inl rfl|exact .inr rfl|simp at b
  .cases q:scope.names.lookup y with
   |none=>rw[q] at c;simp at c
   |some z=>rw[q] at c;cases z<;>first|rfl|simp at c
 |y::xs,some k::cs,h,i+1,x,j,h1,h2=>by simp only[vV,bS] at h;exact RJ (xs:=xs) (cs:=cs) h.2 i x j (by simpa using h1) (by simpa using h2)
 |[],_::_,h,_,_,_,_,_=>by simp[vV] at h
 |_::_,[],h,_,_,_,_,_=>by simp[vV] at h
def wC (N:List Str)(sc scope:Scope)(N':List Str)(cap:List (Option Nat)):Bool:=
 vV N sc scope N' cap && (scope.kind==.function) && (scope.names.all λy=>y.2 !=.cell) &&
 (scope.names.all λy=>y.2 !=.local||scope.names.lookup y.1==some .local) &&
 (scope.names.all λy=>y.2 !=.free||sc.names.lookup y.1==some .cell||sc.names.lookup y.1==some .free)
noncomputable def d8 (cap:List (Option Nat))(σ:St):St:=cap.map λo=>match o with
 |none=>none
 |some j=>match σ[j]? with
  |some v=>v
  |none=>none
noncomputable def jk (X:Cx)(scope:Scope)(N':List Str)(cl:List (Str×Addr))(C:Addr)(s:Shared)(H:Hp)(ex:List Addr):Cx:=
 {X with N:=N',s₀:=s,ao:=H,env:=compEnvC scope cl C X.env,outer:=X.stack,ex:=ex,fn:=λ_=>false,pn:=[],xe:=λ_ _=>False}
section
variable {s:Shared}
def anS {scope:Scope}(hB:wC X.N X.env.scope scope N' cap=true)(I:Inv X aj σ H s)
  (c1:∀x c,cl.lookup x=some c->X.env.cells.lookup x=some c)(c2:∀x,(x,NameKind.free)∈scope.names->∃c,cl.lookup x=some c)(hf:∀b∈ex,tZ X aj H b)(hex:∀b∈ex,b<s.heap.objs.size)
  (hn:h₁.Ns s.heap.objs.size m)(hk:∀b o,s.heap.get? b=some o->h₁.get? b=some o):
  Inv (jk X scope N' cl s.heap.objs.size s H ex) [] (d8 cap σ) H {s with heap:=h₁,toks:=t'}:=by
 simp only[wC,bS] at hB;let((((b1,b2),b3),b4),b5):=hB;have kind:=iA b2;have Yw:∀y∈scope.names,y.2≠ .cell:=λy hy=>by have:=fE.mp b3 y hy;simpa using this
 have ok:(jk X scope N' cl s.heap.objs.size s H ex).Ok:=by
  refine⟨I.ok.mod,kind,I.ok.glob,I.ok.blt,ax _,λx y c e1 e2=>I.ok.inj x y c (c1 x c e1) (c1 y c e2),λx hx=>?_,λx c e _=>(by cases e),I.ok.hd,I.ok.frames,.inl rfl,λb hb=>⟨dq (hex b hb),λx c e=>(hf b hb).2.2.2.2.1 x c (c1 x c e)⟩,
   I.bs,dL I.ok.Ka I.sz,λb o e hb=>?_,λb hb hb2=>?_,I.stack,I.aby⟩
  .have xY:∃k,(relabel scope X.env).names.lookup x=some k/\(k=.cell\/k=.free):=by
    rcases hx with z|z
    .exact⟨.cell,z,.inl rfl⟩
    .exact⟨.free,z,.inr rfl⟩
   let(k,e,hkk):=xY;let(k',hm,q):=xW (scope:=scope) e;have ek:k'=.free:=by
    rcases q with q|q
    .rw[<-q];rcases hkk with z|z
     .exact absurd (q.symm.trans z)<|Yw _ hm
     .exact z
    .exact q.1
   rw[ek] at hm;exact c2 x hm
  .rcases(hf b hb).2.2.2.1 with z|z
   .exact I.ok.XQ b o e z
   .exact absurd (b8 (b8 (cq e) I.ok.Ka) z)<|ik _
  .rcases aI.mp (I.Ny b hb2) with z|z
   .exact(hf b hb).2.1 z
   .exact(hf b hb).2.2.1 z
 refine⟨ok,rfl,I.bare,Un.kept hk,⟨m,hn,λi x v e1 e2 e3=>?_⟩,λx c e=>?_,I.hok.fresh<|ax _,λx c e=>I.rG x c<|c1 x c e,λp hp=>absurd (show p∈([]:List (Addr×Obj)) from hp) (by simp),I.hok.kept hk,?_⟩
 .have zc:=e2;unfold d8 at zc;rw[av] at zc;cases ec:cap[i]? with
  |none=>rw[ec] at zc;simp at zc
  |some o=>
   rw[ec] at zc;cases o with
   |none=>simp at zc
   |some j=>
    simp only[map_some,dS] at zc;have ej:σ[j]? =some (some v):=by
     cases q:σ[j]? with
     |none=>rw[q] at zc;simp at zc
     |some z=>rw[q] at zc;simp only at zc;rw[zc]
    let(q1,q2,q3):=RJ b1 i x j e1 ec;let(m0,hn0,hl0):=I.loc;let(u,r,l):=hl0 j x v q1 ej (by rcases q2 with z|z;exact .inr<|.inl z;exact .inr<|.inr z);refine⟨u,r,?_⟩;rcases l with⟨kl,_⟩|⟨_,c,hc,z⟩
    .have kl':X.env.scope.names.lookup x=some .local:=kl;rcases q2 with q2|q2<;>(rw[q2] at kl';cases kl')
    .let(o,ho,hd):=z;let(c',yX):=c2 x (fF q3)
     have:c'=c:=by have:=c1 x c' yX;rw[hc] at this;exact(be this).symm
     subst this;exact .inr ⟨xX q3,c',yX,o,hk _ _ ho,hd⟩
 .let(v,o,ho,hd):=I.cell x c<|c1 x c e;exact⟨v,o,hk _ _ ho,hd⟩
 .unfold d8;rw[af];exact Dc b1
end
def akB:TT:=λ_ H Q=>Q true H
def rO (X:Cx)(rP:List Expr)(t:TT):Prop:=
 ∀(aj:List (Addr×Obj)) (s:Shared) (σ:St) (H:Hp) (Q:Bool->Hp->Prop),Inv X aj σ H s->t σ H Q->
  wpAny (model X.prog X.w) X.A (forIn rP true λc r=>if r=true then do let ok<-isTrue c X.env (eval c X.env);pure (ForInStep.yield ok) else pure<|ForInStep.yield r) (TP X aj σ Q) X.xe s
def Bo:rO X [] akB:=λ_ _ _ H _ I h=>wpAny_tests_nil (H,I,h)
def abN (h:PT X c t):rO X [c] t:=λaj s σ H Q I q=>wpAny_tests_one<|h aj s σ H Q I q
section
variable {s:Shared}
def abg (I:Nat->Shared->Prop)
  (Lp:∀n s,I n s->wpAny (model prog w) A (pyNext it) (λr cJ=>match r with
   |none=>R (.ok .next) cJ
   |some v=>wpAny (model prog w) A (letOwnedTupleGo NP it v) (λ_ akC=>wpAny (model prog w) A (assign NP env v) (λ_ tY=>
    wpAny (model prog w) A (forIn rP true λc r=>if r=true then do let ok<-isTrue c env (eval c env);pure (ForInStep.yield ok) else pure (ForInStep.yield r)) (λok rH=>
     if ok=true then wpAny (model prog w) A (eval xZ env) (λx adG=>
      wpAny (model prog w) A (call (.builtin "list.append") [acc,x]) (λ_ anT=>∃m,m<n/\I m anT) (λ_ _=>False) adG) (λ_ _=>False) rH
     else ∃m,m<n/\I m rH) (λ_ _=>False) tY) (λ_ _=>False) akC) (λ_ _=>False) cJ) (λ_ _=>False) s)
  (n:Nat)(h:I n s):
  codeAny (model prog w) A (.compLoop (.ListComp xZ [⟨NP,kI,rP,0⟩] scope pos) 0 it acc env) R s:=by
 refine codeAny_loop rfl I (λn s hI=>?_) n h;refine wpAny_noted ?_;rw[compTurn_list];refine ai<|oj<|ai<|fq (Lp n s hI) (λr cJ h₁=>?_) λ_ _ h'=>h'.elim;cases r with
 |none=>exact aS h₁
 |some v=>
  refine ai<|fq h₁ (λ_ akC aq9=>ai<|fq aq9 (λ_ tY Gx=>ai<|fq Gx (λok rH Ai=>?_) λ_ _ h'=>h'.elim) λ_ _ h'=>h'.elim) λ_ _ h'=>h'.elim;cases ok with
  |false=>exact aS ⟨rfl,Ai⟩
  |true=>exact ai<|ai<|fq Ai (λx adG auZ=>ai<|fq auZ (λ_ anT au0=>aS<|aS ⟨rfl,au0⟩) λ_ _ h'=>h'.elim) λ_ _ h'=>h'.elim
end
def iR (a b:St):Prop:=∀(j:Nat) v,a[j]? =some (some v)->b[j]? =some (some v)
def iR.refl:iR a a:=λ_ _ h=>h
theorem iR.set (h:iR a b)(hi:a[i]? =some none):iR a (b.set i v):=λj u e=>by
 by_cases hj:j=i
 .omega
 .rw[bv<|cp hj];exact h j u e
def RK (J:It)(cap:List (Option Nat))(g:TG)(tc:TT)(te:TE)(σ:St)(H1:Hp)(Q:VK):Prop:=
 ∀D,H1 D=none->∃W:Nat->Nat->Hp->Prop,(∃m,W 0 m (upd H1 D<|.lst []))/\∀i m H,W i m H->
  (J.stop i H/\Q (.ref D) H)\/(J.go i H/\∀x H',J.Yb i H x H'->g x (d8 cap σ) H' λiY H2=>iR (d8 cap σ) iY/\tc iY H2 λb H3=>
   if b=true then te iY H3 λy H4=>∃xs,H4 D=some (.lst xs)/\xs.length<sizeLine/\∃m',m'<m/\W (i+1) m' (upd H4 D<|.lst<|xs++[y])
   else ∃m',m'<m/\W (i+1) m' H3)
def zf (wi:TI)(cap:List (Option Nat))(g:TG)(tc:TT)(te:TE):TE:=λσ H Q=>wi σ H λJ H1=>RK J cap g tc te σ H1 Q
section
variable {X:Cx}
def Yx {RR:Value->Addr->Result->Shared->Prop}(hc:X.calm=true)(hB:wC X.N X.env.scope scope N' cap=true)
  (hg:∀cl C s₀ ao ex,PG (jk X scope N' cl C s₀ ao ex) tg g)(hi:∀cl C s₀ ao ex,rO (jk X scope N' cl C s₀ ao ex) rP tc)(he:∀cl C s₀ ao ex,PE (jk X scope N' cl C s₀ ao ex) xZ te)
  (c1:∀x c,cl.lookup x=some c->X.env.cells.lookup x=some c)(c2:∀x,(x,NameKind.free)∈scope.names->∃c,cl.lookup x=some c)
  (I:Inv X aj σ H s)(T:Turn X.prog X.w X.K tg J fp it tn)(st:tn 0 s.heap)(hf:∀b∈fp,tZ X aj H b)(rd:RK J cap g tc te σ H Q)
  (hRR:∀D C s' m H',Inv X aj σ H' s'->s'.heap.Ns C m->tZ X aj H' C->Q (.ref D) H'->RR (.ref D) C (.ok .next) s'):
  wpAny (model X.prog X.w) X.A (newList []) (λacc rH=>wpAny (model X.prog X.w) X.A (newFunctionEnv scope X.env.globals cl [] X.env.qual none .none (some X.env)) (λanU adG=>
   codeAny (model X.prog X.w) X.A (.compStart (.ListComp xZ [⟨tg,kI,rP,0⟩] scope pos) 0 (.ref it) acc {anU with scope:=relabel scope X.env}) (RR acc anU.locals) adG) E rH) E s:=by
 have hB':=hB;simp only[wC,bS] at hB';let((((b1,b2),b3),b4),b5):=hB';have kind:=iA b2;have Yw:∀y∈scope.names,y.2≠ .cell:=λy hy=>by grind
 have hfp:∀b∈fp,b<s.heap.objs.size:=λb hb=>let⟨o,e,_⟩:=T.obj 0 _ st b hb;cq e;refine ij (wpAny_newFunctionEnv Yw (by intro y hy;simp at hy) (λh₁ afP afQ=>?_) kind);dsimp only at afP afQ ⊢;have I3:Inv X aj σ (upd H s.heap.objs.size<|.lst []) {s with heap:=s.heap.push {cls:=.type "list",data:=.seq ([]:List Value).toArray},toks:=s.toks}:=I.adE .nil<|dE _;generalize Yy:({s with heap:=s.heap.push {cls:=.type "list",data:=.seq ([]).toArray},toks:=s.toks})=s3 at I3;have eh:s3.heap=s.heap.push {cls:=.type "list",data:=.seq ([]).toArray}:=by rw[<-Yy]
 have sz3:s3.heap.objs.size=s.heap.objs.size+1:=by rw[eh,Heap.size_push]
 let(W,(m0,w0),Lp):=rd s.heap.objs.size<|I.hok.fresh<|ax _;have hf3:∀b∈fp,tZ X aj (upd H s.heap.objs.size<|.lst []) b:=λb hb=>⟨by rw[aJ<|dq<|hfp b hb];exact(hf b hb).1,(hf b hb).2⟩;have anV:∀b∈fp,b<s3.heap.objs.size:=λb hb=>by rw[sz3];exact Nat.lt_succ_of_lt<|hfp b hb
 have al5:h₁.Ns s3.heap.objs.size (λx=>([]).reverse.lookup x):=by rw[eh];exact afP
 have old:∀b o,s3.heap.get? b=some o->h₁.get? b=some o:=λb o e=>by refine afQ.extBut b o ?_ (aT _ (by rw[<-eh];exact e));rw[<-eh];exact dq<|cq e
 have I4:=anS (t':=s.toks) hB I3 c1 c2 hf3 anV al5 old;have au1:∀b o,s.heap.get? b=some o->h₁.get? b=some o:=λb o e=>old b o (by rw[eh];exact aT _ e);have st4:=T.keep _ _ _ st λb _ o e=>au1 b o e;have eC:(s.heap.push {cls:=.type "list",data:=.seq ([]).toArray}).objs.size=s3.heap.objs.size:=by rw[eh]
 have Lr:∀{H':Hp},(∀b∈fp,H' b=none)->∀b∈fp,tZ (jk X scope N' cl s3.heap.objs.size s3 (upd H s.heap.objs.size<|.lst []) fp) [] H' b:=λhn b hb=>
  ⟨hn b hb,dq (anV b hb),λz=>by
   rcases aI.mp (I3.Ny b z) with q|q
   .exact(hf b hb).2.1 q
   .exact(hf b hb).2.2.1 q,.inl hb,λx c e=>(hf b hb).2.2.2.2.1 x c (c1 x c e),λp hp=>absurd (show p∈([]:List (Addr×Obj)) from hp) (by simp)⟩
 have loop:∀rH:Shared,rH={s with heap:=h₁,toks:=s.toks+([]:List (Str×Value)).length}->
   codeAny (model X.prog X.w) X.A (.compLoop (.ListComp xZ [⟨tg,kI,rP,0⟩] scope pos) 0 (.ref it) (.ref s.heap.objs.size)<|compEnvC scope cl s3.heap.objs.size X.env) (RR (.ref s.heap.objs.size) s3.heap.objs.size) rH:=by
  rintro rH rfl;refine abg (λn s'=>∃i aX H',Inv (jk X scope N' cl s3.heap.objs.size s3 (upd H s.heap.objs.size<|.lst []) fp) [] aX H' s'/\(∀(j:Nat) v,(d8 cap σ)[j]? =some (some v)->aX[j]? =some (some v))/\tn i s'.heap/\(∀b∈fp,H' b=none)/\W i n H') ?_ m0 ?_
  .rintro n s' ⟨i,aX,H',I',wk,yZ,fr',w'⟩;have I'':=I'.weak (by rw[I'.len];show(d8 cap σ).length=N'.length;unfold d8;rw[af];exact Dc b1) wk;rcases Lp i n H' w' with⟨stop,q⟩|⟨go,step⟩
   .refine bK (T.done (jk X scope N' cl s3.heap.objs.size s3 (upd H s.heap.objs.size<|.lst []) fp) rfl rfl rfl hc i [] s' (d8 cap σ) H' _ I'' (Lr fr') yZ stop) ?_;rintro r s4 ⟨hr,I4'⟩;subst hr;have u:=(Un.laid (λb o e=>by show s3.heap.get? b=some o;rw[eh];exact aT _ e) (ax _) (I.hok.fresh<|ax _)).trans I4'.base;have IX:=I.call' (I4'.os.trans (by show s3.os=s.os;rw[<-Yy])) u I4'.hok I4'.bare λb hb=>⟨(hf b hb).2.2.2.1,(hf b hb).2.1,(hf b hb).2.2.2.2.1,(hf b hb).2.2.2.2.2⟩;let(m',hm',_):=I4'.loc;exact hRR _ _ s4 m' H' IX hm' (I.Lq (by rw[sz3];exact oq _) I4'.free) q
   .refine bK (T.item (jk X scope N' cl s3.heap.objs.size s3 (upd H s.heap.objs.size<|.lst []) fp) rfl rfl rfl hc i [] s' (d8 cap σ) H' _ I'' (Lr fr') yZ go) ?_;rintro r s4 ⟨v,hr,h4⟩;subst hr;refine bK h4 ?_;rintro _ s5 ⟨x,H5,I5,r5,y5,za,fr5⟩;have I5':=I5.pinned (Lr fr5)<|T.obj _ _ za;refine bK (hg _ _ _ _ _ _ s5 (d8 cap σ) H5 x v _ I5' r5<|step x H5 y5) ?_;rintro _ s6 ⟨Yd,H6,I6,kc6,q6⟩;refine bK (hi _ _ _ _ _ _ s6 Yd H6 _ I6 q6) ?_;rintro ok s7 ⟨H7,I7,q7⟩;have ara:∀{s8:Shared}{σ8:St} {H8:Hp},Inv (jk X scope N' cl s3.heap.objs.size s3 (upd H s.heap.objs.size<|.lst []) fp) ([]++Bg fp s5.heap) σ8 H8 s8->tn (i+1) s8.heap/\∀b∈fp,H8 b=none:=λ{s8 σ8 H8} I8=>
     ⟨T.keep _ _ _ za λb hb o e=>(I8.pin (b,o) (ci _ (ci _ (wJ hb e)))).1,λb hb=>by
      let(o,e,d):=T.obj _ _ za b hb;exact(I8.pin (b,o) (ci _ (ci _ (wJ hb e)))).2.1⟩
    have again:∀{s8:Shared}{H8:Hp} {m':Nat},Inv (jk X scope N' cl s3.heap.objs.size s3 (upd H s.heap.objs.size<|.lst []) fp) ([]++Bg fp s5.heap) Yd H8 s8->m'<n->W (i+1) m' H8->
      ∃m,m<n/\∃i aX H',Inv (jk X scope N' cl s3.heap.objs.size s3 (upd H s.heap.objs.size<|.lst []) fp) [] aX H' s8/\(∀j v,(d8 cap σ)[j]? =some (some v)->aX[j]? =some (some v))/\tn i s8.heap/\(∀b∈fp,H' b=none)/\W i m H':=λ{s8 H8 m'} I8 lt w8=>by
     let(k1,k2):=ara I8;exact⟨m',lt,i+1,Yd,H8,I8.CV,kc6,k1,k2,w8⟩
    cases ok with
    |false=>rw[ap bj] at q7 ⊢;let(m',lt,w8):=q7;exact again I7 lt w8
    |true=>rw[ar rfl] at q7 ⊢;refine bK (he _ _ _ _ _ _ s7 Yd H7 _ I7 q7) ?_;rintro y s8 ⟨vy,H8,I8,ry,xs,hD,hz,m',lt,w8⟩;refine bK (Uc _ s8 Yd H8 (.ref s.heap.objs.size) [vy] _ _ (λ_ H'=>H'=upd H8 s.heap.objs.size (.lst<|xs++[vy])) I8 rfl (.cons ry .nil) ⟨_,xs,vy,rfl,rfl,hD,hz,rfl⟩) ?_;rintro _ s9 ⟨_,H9,I9,_,e9⟩;subst e9;exact again I9 lt w8
  .have eS:({s3 with heap:=h₁,toks:=s.toks})={s with heap:=h₁,toks:=s.toks+([]:List (Str×Value)).length}:=by rw[<-Yy];rfl
   exact⟨0,d8 cap σ,upd H s.heap.objs.size<|.lst [],eS▸I4,λ_ _ h=>h,st4,λb hb=>(hf3 b hb).1,w0⟩
 rw[eC];exact codeAny_compStart_list (loop _ rfl)<|T.self _ 0 _ _ _ st4<|loop _ rfl
def Ui (hB:wC X.N X.env.scope scope N' cap=true):∀x∈scope.names,x.2=.local->scope.names.lookup x.1=some .local:=λy hy e=>by simp only[wC,bS] at hB;have:=fE.mp hB.1.2 y hy;rw[e] at this;simpa using this
def Yz (hB:wC X.N X.env.scope scope N' cap=true)(ok:X.Ok):∃cl:List (Str×Addr),closureFor scope X.env=pure cl/\(∀x c,cl.lookup x=some c->X.env.cells.lookup x=some c)/\∀x,(x,NameKind.free)∈scope.names->∃c,cl.lookup x=some c:=by
 refine VN λy hy e=>ok.has y.1 ?_;simp only[wC,bS] at hB;have:=fE.mp hB.2 y hy;rw[e] at this;simp only[bne_self_eq_false,Bool.false_or,kL] at this;rcases this with z|z
 .exact .inl<|iA z
 .exact .inr<|iA z
def Wh (N:List Str)(sc:Scope)(hc:X.calm=true)(wD:wC N sc scope N' cap=true)(hNN:X.N=N)(u6:X.env.scope=sc)(wz:PI X tg kI wi)
  (hg:∀cl C s₀ ao ex,PG (jk X scope N' cl C s₀ ao ex) tg g)(hi:∀cl C s₀ ao ex,rO (jk X scope N' cl C s₀ ao ex) rP tc)(he:∀cl C s₀ ao ex,PE (jk X scope N' cl C s₀ ao ex) xZ te)
  (hs:∀x,foldedSetIterable kI X.env x=pure x:=by intro _;rfl):PE X (.ListComp xZ [(tg,kI,rP,0)] scope pos) (zf wi cap g tc te):=by
 kl_no;have hB:wC X.N X.env.scope scope N' cap=true:=by rw[hNN,u6];exact wD
 have kind:scope.kind=.function:=by simp only[wC,bS] at hB;exact iA hB.1.1.1.2
 let(cl,ecl,c1,c2):=Yz hB I.ok;rw[eval_ListComp];refine ol rfl hs ecl kind (Ui hB)<|bK (wz aj s σ H _ I h) λv s1 h1=>bK h1 λitv s2 h2=>?_;let(it,fp,tn,J,H2,e,I2,T,st2,f2,rd):=h2;subst e;refine Yx hc hB hg hi he c1 c2 I2 T st2 f2 rd λD C s' m H' I' hm fC q=>?_;exact(m,hm,λh' wF=>(.ref D,H',I'.turned (λb o hb e=>(wF.2 b hb).trans e) fC.1 fC.2.1 fC.2.2.2.1 fC.2.2.2.2.1 fC.2.2.2.2.2,rfl,q))
def yc (hN:X.N.Nodup)(hiy:X.N[i]? =some y)(hy:Loc X.env.scope y)(N:List Str)(sc:Scope)(hc:X.calm=true)(wD:wC N sc scope N' cap=true)(hNN:X.N=N)(u6:X.env.scope=sc)(wz:PI X tg kI wi)
  (hg:∀cl C s₀ ao ex,PG (jk X scope N' cl C s₀ ao ex) tg g)(hi:∀cl C s₀ ao ex,rO (jk X scope N' cl C s₀ ao ex) rP tc)(he:∀cl C s₀ ao ex,PE (jk X scope N' cl C s₀ ao ex) xZ te)
  (hsw:swapsWith (.ListComp xZ [(tg,kI,rP,0)] scope pos) (some<|.Name y adH) adI.line X.env=pure true:=by rfl)
  (hs:∀x,foldedSetIterable kI X.env x=pure x:=by intro _;rfl)(hf:X.fn y=true\/X.env.scope.names.lookup y=some .local:=by first|exact .inl rfl|exact .inr rfl|assumption):
  PS X (.Assign [.Name y adH] (.ListComp xZ [(tg,kI,rP,0)] scope pos) adI) (fG (zf wi cap g tc te)<|cH i):=by
 k_sub;have hB:wC X.N X.env.scope scope N' cap=true:=by rw[hNN,u6];exact wD
 have kind:scope.kind=.function:=by simp only[wC,bS] at hB;lk
 let(cl,ecl,c1,c2):=Yz hB I.ok;rw[exec_Assign_Name_used _ _ _ _ hsw];refine ai (oj (ai ?_));refine ai (fq (ol rfl hs ecl kind (Ui hB)
  (bK (wz aj s σ H _ I h) λv s1 h1=>bK h1 λitv s2 h2=>?_)) (λ_ s' hq=>aS (aS hq)) λ_ _ e=>e)
 let(it,fp,tn,J,H2,e,I2,T,st2,f2,rd):=h2;subst e;refine Yx hc hB hg hi he c1 c2 I2 T st2 f2 rd λDa C s' m H' I' hm fC q=>?_;refine wpAny_assign_Name<|TF (v:=.ref Da) I' hN hiy hy rfl ?_ hf;rintro s'' I'' ⟨a,hsa,hav⟩;have haC:C≠a:=by
  rcases hav with z|z
  .rw[z];exact fC.2.1
  .exact(fC.2.2.2.2.1 y a z).symm
 refine(m,hm.sameBut hsa haC,λh' wF=>(σ.set i<|some<|.ref Da,H',I''.turned (λb o hb e=>(wF.2 b hb).trans e) fC.1 fC.2.1 fC.2.2.2.1 fC.2.2.2.2.1 fC.2.2.2.2.2,q))
end
def Dd (_ j:Int):Prop:=0<j/\j.natAbs.log2<9000
def Wi (i j:Int):Prop:=i.natAbs<2^8000/\j.natAbs<2^8000
def bits_le (h:i.natAbs<2^8000):Builtin.Int.intBits i<=2^20:=by
 unfold Builtin.Int.intBits;split
 .simp
 .rename_i h0;have hz:i.natAbs≠0:=by lk
  have:=(Nat.log2_lt hz).mpr h;lk
section
def aif:dh X (binaryOp .FloorDiv) (rI Dd λi j=>.int<|i/j):=opI λi j _ _ _ _ _ hc q=>by
 have e:i.fdiv j=i/j:=by rw[Int.fdiv_eq_ediv_of_nonneg _<|i5 hc.1]
 exact floordiv_int (Int.ne_of_gt hc.1) (by rw[e];exact q) (.inl<|PyProof.noPylong_of_log2 hc.2)
def al6:dh X (binaryOp .Mult) (rI Wi λi j=>.int<|i*j):=opI λ_ _ _ _ _ _ _ hc q=>mul_int q<|IntMulOk.of_bits (bits_le hc.1)<|bits_le hc.2
end
theorem Gy:∀{ns:List Int}{vs:List Value},Vals (ns.map V.int) vs->IntsAre vs ns
 |[],_,.nil=>.nil
 |n::ns,_,.cons r t=>by let(k,rfl):=r;exact .cons n k<|Gy t
section
def afS (hc:X.calm=true):iu X (.builtin "sum") (λxs H Q=>∃(p:Addr) (ns:List Int),xs=[.ref p]/\aZ X.K H p (ns.map V.int)/\Q (.int ns.sum) H):=by
 intro aj s σ H xs us Q I r q;let(p,ns,rfl,hq,q):=q;let(u,rfl,ru):=r.one;cases ru;let(aW,rv,pl,hz):=I.list hq;have hi:=Gy rv;let(zs,e):=hi.allInts.items;have Ud:ns=zs.toList.map (·.1):=by rw[<-hi.numsOf,←nums_intItems,←e]
 have hl:=pl.isList;rw[e] at hl;refine sum_intListG (I.ok.hd hc) hl λh' tk t' hk=>?_;have e2:preSum (numAt zs) zs.size=ns.sum:=by rw[preSum_eq,c9<|by simp,←Ud]
 rw[e2];exact⟨.int ns.sum,H,I.kept hk,⟨_,rfl⟩,q⟩
def afT (hc:X.calm=true):iu X (.builtin "min") (λxs H Q=>∃(p:Addr) (ns:List Int),xs=[.ref p]/\aZ X.K H p (ns.map V.int)/\0<ns.length/\∀M,M∈ns->(∀a,a∈ns->M<=a)->Q (.int M) H):=by
 intro aj s σ H xs us Q I r q;let(p,ns,rfl,hq,bA,q):=q;let(u,rfl,ru):=r.one;cases ru;let(aW,rv,pl,hz):=I.list hq;have hi:=Gy rv;let(zs,e):=hi.allInts.items;have Ud:ns=zs.toList.map (·.1):=by rw[<-hi.numsOf,←nums_intItems,←e]
 have hl:=pl.isList;rw[e] at hl;have hsz:0<zs.size:=by grind
 refine min_intList (I.ok.hd hc) hl hsz λv h' tk hv hk=>?_;let(t,rfl):=intItems_at hv;let(h1,h2):=argBest_lt (numAt zs)<|zs.size - 1;refine⟨.int _,H,I.kept hk,⟨t,rfl⟩,q _ ?_ λa ha=>?_⟩
 .rw[Ud,numAt_eq];exact getD_mem (by rw[af,i9];lk)
 .rw[Ud] at ha;let(j,hj,rfl):=mem_getD ha;rw[af,i9] at hj;rw[<-numAt_eq];exact h2 j ∅
end
section
variable {j:Nat}
end
mutual
def Has (K:Frag)(H:Hp):PyData->V->Prop
 |.none,v=>v=.non
 |.bool b,v=>v=.bl b
 |.int i,v=>v=.int i
 |.str x,v=>v=.str x/\(PyData.str x).canLay0=true
 |.list ds,v=>∃a xs,v=.ref a/\aZ K H a xs/\aR K H ds xs
 |.tuple ds,v=>∃a xs,v=.ref a/\bV K H a xs/\aR K H ds xs
 |.dict _,_=>False
def aR (K:Frag)(H:Hp):List PyData->List V->Prop
 |[],vs=>vs=[]
 |d::ds,vs=>∃v r,vs=v::r/\Has K H d v/\aR K H ds r
end
def Same.vW {K:Frag}(e:Same H H')(h:bV K H a xs):bV K H' a xs:=by
 rcases h with(h|⟨o,h⟩)|h
 .exact .inl<|.inl<|e _ _ h
 .exact .inl<|.inr ⟨o,e _ _ h⟩
 .exact .inr h
mutual
theorem Has.same {K:Frag}(e:Same H H'):∀{d:PyData}{v:V},Has K H d v->Has K H' d v
 |.none,_,h=>h
 |.bool _,_,h=>h
 |.int _,_,h=>h
 |.str _,_,h=>h
 |.list _,_,⟨a,xs,h1,h2,h3⟩=>(a,xs,h1,e.seq h2,aR.same e h3)
 |.tuple _,_,⟨a,xs,h1,h2,h3⟩=>(a,xs,h1,e.vW h2,aR.same e h3)
theorem aR.same {K:Frag}(e:Same H H'):∀{ds:List PyData}{vs:List V},aR K H ds vs->aR K H' ds vs
 |[],_,h=>h
 |_::_,_,⟨v,r,h1,h2,h3⟩=>(v,r,h1,Has.same e h2,aR.same e h3)
end
theorem aR.length {K:Frag}:∀{ds:List PyData}{vs:List V},aR K H ds vs->ds.length=vs.length
 |[],vs,h=>by have h':vs=[]:=h;rw[h'];rfl
 |_::_,_,⟨v,r,h1,_,h3⟩=>by rw[h1];exact dT (· +1)<|aR.length h3
theorem aR.get {K:Frag}:∀{ds:List PyData}{vs:List V} {i:Nat} {v:V},aR K H ds vs->vs[i]? =some v->∃d,ds[i]? =some d/\Has K H d v
 |[],vs,i,v,h,e=>by have h':vs=[]:=h;rw[h'] at e;simp at e
 |d::_,_,0,v,⟨u,r,h1,h2,h3⟩,e=>by
  rw[h1] at e
  have:u=v:=by simpa using e
  subst this;exact(d,rfl,h2)
 |_::ds,_,i+1,v,⟨u,r,h1,h2,h3⟩,e=>by rw[h1] at e;let(d,q1,q2):=aR.get (i:=i) (v:=v) h3 (by simpa using e);exact(d,by simpa using q1,q2)
theorem aR.at {K:Frag}:∀{ds:List PyData}{vs:List V} {i:Nat} {d:PyData},aR K H ds vs->ds[i]? =some d->∃v,vs[i]? =some v/\Has K H d v
 |[],_,i,d,_,e=>by simp at e
 |d'::_,_,0,d,⟨u,r,h1,h2,h3⟩,e=>by
  have:d'=d:=by simpa using e
  subst this;rw[h1];exact(u,rfl,h2)
 |_::ds,_,i+1,d,⟨u,r,h1,h2,h3⟩,e=>by let(v,q1,q2):=aR.at (i:=i) (d:=d) h3 (by simpa using e);rw[h1];exact(v,by simpa using q1,q2)
theorem aR.snoc {K:Frag}(hv:Has K H d v):∀{ds:List PyData}{vs:List V},aR K H ds vs->aR K H (ds++[d]) (vs++[v])
 |[],vs,h=>by have h':vs=[]:=h;rw[h'];exact(v,[],rfl,hv,rfl)
 |_::_,_,⟨u,r,h1,h2,h3⟩=>by rw[h1];exact(u,r++[v],rfl,h2,aR.snoc hv h3)
theorem aR.append {K:Frag}(h2:aR K H es us):∀{ds:List PyData}{vs:List V},aR K H ds vs->aR K H (ds++es) (vs++us)
 |[],vs,h=>by have h':vs=[]:=h;rw[h'];exact h2
 |_::_,_,⟨u,r,g1,g2,g3⟩=>by rw[g1];exact(u,r++us,rfl,g2,aR.append h2 g3)
theorem aR.set {K:Frag}(hv:Has K H d v):∀{ds:List PyData}{vs:List V} (i:Nat),aR K H ds vs->aR K H (ds.set i d) (vs.set i v)
 |[],vs,_,h=>by have h':vs=[]:=h;rw[h'];rfl
 |_::_,_,0,⟨u,r,g1,g2,g3⟩=>by rw[g1];exact(v,r,rfl,hv,g3)
 |_::_,_,i+1,⟨u,r,g1,g2,g3⟩=>by rw[g1];exact(u,r.set i v,rfl,g2,aR.set hv i g3)
theorem aR.ints {K:Frag}:∀{ns:List Int}{vs:List V},aR K H (ns.map PyData.int) vs↔vs=ns.map V.int
 |[],_=>Iff.rfl
 |n::ns,vs=>by
  constructor
  .rintro⟨v,r,h1,h2,h3⟩;have Ug:v=.int n:=h2;rw[h1,Ug,aR.ints.mp h3];rfl
  .rintro rfl;exact(.int n,ns.map V.int,rfl,rfl,aR.ints.mpr rfl)
section
variable {s:Shared}
mutual
theorem Has.reads (I:Inv X aj σ H s):∀{d:PyData}{v:V} {u:Value},Has X.K H d v->RelV v u->∃as,Reads s.heap u d as
 |.none,v,u,h,r=>by
  have h':v=.non:=h;subst h';cases r;exact⟨_,.none⟩
 |.bool b,v,u,h,r=>by
  have h':v=.bl b:=h;subst h';cases r;exact⟨_,.bool b⟩
 |.int i,v,u,h,r=>by have h':v=.int i:=h;subst h';let(t,rfl):=r;exact⟨_,.int i t⟩
 |.str x,v,u,h,r=>by have h':v=.str x:=h.1;subst h';let(t,rfl):=r;exact⟨_,.str x t⟩
 |.list ds,v,u,h,r=>by
  let(a,xs,rfl,hq,hl):=h;cases r;let(aW,rv,(o,n,e,c,_,d),hz):=I.list hq;let(as,ra):=aR.reads I hl rv;exact⟨_,.list e c d<|by simpa using ra⟩
 |.tuple ds,v,u,h,r=>by
  let(a,xs,rfl,hq,hl):=h;cases r;let(aW,rv,(o,e,c,n,d),hz):=I.tuple hq;let(as,ra):=aR.reads I hl rv;exact⟨_,.tuple e c d<|by simpa using ra⟩
 |.dict _,_,_,h,_=>False.elim h
theorem aR.reads (I:Inv X aj σ H s):∀{ds:List PyData}{vs:List V} {us:List Value},aR X.K H ds vs->Vals vs us->∃as,ReadsAll s.heap us ds as
 |[],vs,us,h,r=>by
  have h':vs=[]:=h;subst h';cases r;exact⟨_,.nil⟩
 |d::ds,vs,us,h,r=>by
  let(v,rr,rfl,h1,h2):=h;cases r with
  |cons r1 r2=>let(as,a1):=Has.reads I h1 r1;let(bs,a2):=aR.reads I h2 r2;exact⟨_,.cons a1 a2⟩
end
end
mutual
theorem Has.can {K:Frag}:∀{d:PyData}{v:V},Has K H d v->d.canLay0=true
 |.none,_,_=>rfl
 |.bool _,_,_=>rfl
 |.int _,_,_=>rfl
 |.str _,_,h=>h.2
 |.list ds,_,⟨_,_,_,_,h⟩=>by simp only[canLay0];exact aR.can h
 |.tuple ds,_,⟨_,_,_,_,h⟩=>by simp only[canLay0];exact aR.can h
theorem aR.can {K:Frag}:∀{ds:List PyData}{vs:List V},aR K H ds vs->canLayAll0 ds=true
 |[],_,_=>rfl
 |d::ds,_,⟨_,_,_,h1,h2⟩=>by simp only[canLayAll0,bS];exact⟨Has.can h1,aR.can h2⟩
end
inductive aii (K:Frag)(x:V)(y:V)(H:Hp)(Q:VK):Prop
 |mk:∀d e,Has K H d x->Has K H e y->d.depth<=60->Q (.bl<|eqv d e) H->aii K x y H Q
inductive aij (K:Frag)(x:V)(y:V)(H:Hp)(Q:VK):Prop
 |mk:∀d e,Has K H d x->Has K H e y->d.depth<=60->Q (.bl<|!PyData.eqv d e) H->aij K x y H Q
section
def Bp (hu:X.A.units+64<cLine):dh X (compareOp .Eq) (aii X.K):=by fin2;let(d,e,hd,he,hk,q):=h;let(as,ra):=hd.reads I rx;let(bs,rb):=he.reads I ry;exact SeqAt.compareEq_reads ra rb hd.can he.can (by have:=qf d.depth e.depth;lk) (.bl _,H,I,rfl,q)
def Bq (hu:X.A.units+64<cLine):dh X (compareOp .NotEq) (aij X.K):=by fin2;let(d,e,hd,he,hk,q):=h;let(as,ra):=hd.reads I rx;let(bs,rb):=he.reads I ry;exact SeqAt.compareNe_reads ra rb hd.can he.can (by have:=qf d.depth e.depth;lk) (.bl _,H,I,rfl,q)
end
end L2
namespace L2
open PyProof.Rows
def vR (i:Nat):TE:=λσ H Q=>match σ[i]? with
 |some (some v)=>Q v H
 |_=>False
noncomputable def ud (sc:Scope)(x:Str):Bool:=match sc.names.lookup x with
 |some .local=>true
 |some .cell=>true
 |some .free=>true
 |_=>false
noncomputable def aik (sc:Scope)(x:Str):Bool:=match sc.names.lookup x with
 |some .local=>true
 |some .cell=>true
 |_=>false
noncomputable def glB (sc:Scope)(x:Str):Bool:=match sc.names.lookup x with
 |some .globalImplicit=>true
 |_=>false
noncomputable def LR (sc:Scope)(x:Str):Bool:=match sc.names.lookup x with
 |some .local=>true
 |some .free=>true
 |_=>false
noncomputable def plain (x:Str):Bool:=!(x==("__debug__":Str)) && !(x==("__classdict__":Str))
def an1 (h:ud sc x=true):Vis sc x:=by
 unfold ud at h;split at h
 .rename_i e;exact .inl e
 .rename_i e;exact .inr<|.inl e
 .rename_i e;exact .inr<|.inr e
 .cases h
def lo (h:aik sc x=true):Loc sc x:=by
 unfold aik at h;split at h
 .rename_i e;exact .inl e
 .rename_i e;exact .inr e
 .cases h
def al7 (h:LR sc x=true):Vis (relabel sc env) x:=by
 unfold LR at h;split at h
 .rename_i e;exact .inl<|lookup_relabel_local e
 .rename_i e;exact .inr<|xX e
 .cases h
noncomputable def ail (sc:Scope)(x:Str):Bool:=match sc.names.lookup x with
 |some .local=>true
 |_=>false
def loC (h:ail sc x=true):(relabel sc env).names.lookup x=some .local:=by
 unfold ail at h;split at h
 .rename_i e;exact lookup_relabel_local e
 .cases h
theorem Gz {env:Env}{x:Str}:∀{names:List (Str×NameKind)},names.lookup x=some .globalImplicit->
  (names.map λ(n,k)=>if(k==NameKind.free && env.scope.kind==.function && env.kindOf n==some .cell) then(n,NameKind.cell) else(n,k)).lookup x=some .globalImplicit
 |[],h=>by simp at h
 |(n,j)::r,h=>by have ih:=@Gz env x r;grind
section
def gl (h:glB sc x=true)(hs:X.env.scope=sc:=by rfl):Gl X x:=by
 unfold glB at h;split at h
 .rename_i e;show X.env.scope.names.lookup x=_;rw[hs];exact e
 .cases h
def akE (h:PE X e (anc i)):PE X e (vR i):=h.imp λσ H Q h=>by
 unfold vR at h;split at h
 .rename_i v e;exact(v,e,h)
 .exact h.elim
def Df (h:plain x=true):(x==("__debug__":Str))=false/\(x==("__classdict__":Str))=false:=by unfold plain at h;simpa using h
def pV (vt:N.all (λx=>ud sc x && plain x)=true)(i:Nat)(hN:X.N[i]? =some x:=by rfl)(hXN:X.N=N:=by rfl)(hXs:X.env.scope=sc:=by rfl):PE X (.Name x pos) (vR i):=by have h:=fE.mp vt x (by rw[<-hXN];exact ah hN);rw[bS] at h;exact akE<|afb hN (by rw[hXs];exact an1 h.1) (Df h.2).1 (Df h.2).2
end
section
variable {pos:Pos}
def tL (vt:N'.all (λx=>LR scope x && plain x)=true)(i:Nat)(hN:N'[i]? =some x:=by rfl):PE (jk X scope N' cl C s₀ ao ex) (.Name x pos) (vR i):=by have h:=fE.mp vt x<|ah hN;rw[bS] at h;exact akE<|afb hN (al7 h.1) (Df h.2).1 (Df h.2).2
def FW (hN:N'.Nodup)(h:ail scope x=true)(hi:N'[i]? =some x:=by rfl):PG (jk X scope N' cl C s₀ ao ex) (.Name x pos) (cH i):=
 dM hN hi (.inl<|loC h) (.inr<|loC h)
def glC (h:glB scope x=true):Gl (jk X scope N' cl C s₀ ao ex) x:=by
 unfold glB at h;split at h
 .rename_i e;show(relabel scope X.env).names.lookup x=_;exact Gz e
 .cases h
end
section
def dh.imp (h:dh X f r)(hi:∀x y H Q,r' x y H Q->r x y H Q):dh X f r':=λaj s σ H x y v u Q I rx ry q=>h aj s σ H x y v u Q I rx ry<|hi x y H Q q
def wj.imp (h:wj X r)(hi:∀x y H Q,r' x y H Q->r x y H Q):wj X r':=λa b aj s σ H x y v u Q I rx ry q=>h a b aj s σ H x y v u Q I rx ry<|hi x y H Q q
def TY.imp (h:TY X f r)(hi:∀x H Q,r' x H Q->r x H Q):TY X f r':=λaj s σ H x v Q I rx q=>h aj s σ H x v Q I rx<|hi x H Q q
def iu.imp (h:iu X f r)(hi:∀xs H Q,r' xs H Q->r xs H Q):iu X f r':=λaj s σ H xs us Q I rx q=>h aj s σ H xs us Q I rx<|hi xs H Q q
def Gs.imp (h:Gs X op r)(hi:∀x y H Q,r' x y H Q->r x y H Q):Gs X op r':=λaj s σ H x y v u Q I rx ry q=>h aj s σ H x y v u Q I rx ry<|hi x y H Q q
def Gq.imp (h:Gq X r)(hi:∀x y z H Q,r' x y z H Q->r x y z H Q):Gq X r':=λaj s σ H x y z v u w Q I rx ry rz q=>h aj s σ H x y z v u w Q I rx ry rz<|hi x y z H Q q
end
def rM (g:Int->Int->V):R2:=λx y H Q=>match x,y with
 |.int i,.int j=>Q (g i j) H
 |_,_=>False
def GC (C:Int->Int->Prop)(g:Int->Int->V):R2:=λx y H Q=>match x,y with
 |.int i,.int j=>C i j/\Q (g i j) H
 |_,_=>False
noncomputable def zj:V->Bool
 |.non=>true
 |_=>false
def YB (x:V):decide (x=.non)=zj x:=by cases x<;>simp[zj]
section
def YC (h:dh X f (Kd g)):dh X f (rM g):=h.imp λx y H Q q=>by cases x<;>first|exact False.elim q|(cases y<;>first|exact False.elim q|exact(_,_,rfl,rfl,q))
def adJ (h:dh X f (rI C g)):dh X f (GC C g):=h.imp λx y H Q q=>by cases x<;>first|exact False.elim q|(cases y<;>first|exact False.elim q|exact(_,_,rfl,rfl,q.1,q.2))
def uf:dh X (binaryOp .Add) (rM λi j=>.int<|i+j):=YC anp
def Dg:dh X (binaryOp .Sub) (rM λi j=>.int<|i - j):=YC anq
def adK:dh X (binaryOp .Mult) (GC Wi λi j=>.int<|i*j):=adJ al6
def oDiv:dh X (binaryOp .FloorDiv) (GC Dd λi j=>.int<|i/j):=adJ aif
def oMod:dh X (binaryOp .Mod) (GC (λ_ j=>0<j) λi j=>.int<|i % j):=adJ anr
def an2:dh X (binaryOp .Pow) (GC adn λi j=>.int<|i^j.toNat):=adJ ant
def an3:dh X (binaryOp .BitXor) (rM λi j=>.int<|Builtin.bitXor i j):=YC anu
def oLt:dh X (compareOp .Lt) (rM λi j=>.bl<|decide<|i<j):=YC aq0
def oLe:dh X (compareOp .LtE) (rM λi j=>.bl<|decide<|i<=j):=YC aq1
def oGt:dh X (compareOp .Gt) (rM λi j=>.bl<|decide<|j<i):=YC aq2
def oGe:dh X (compareOp .GtE) (rM λi j=>.bl<|decide<|j<=i):=YC aq3
def ain:R2:=λx y H Q=>match y with
 |.non=>Q (.bl<|zj x) H
 |_=>False
def adL:R2:=λx y H Q=>match y with
 |.non=>Q (.bl<|!zj x) H
 |_=>False
def an5:dh X (compareOp .Is) ain:=anw.imp λx y H Q q=>by cases y<;>first|exact False.elim q|(refine⟨rfl,?_⟩;rw[YB];exact q)
def akF:dh X (compareOp .IsNot) adL:=alV.imp λx y H Q q=>by cases y<;>first|exact False.elim q|(refine⟨rfl,?_⟩;rw[YB];exact q)
def rUM (g:Int->V):V->Hp->VK->Prop:=λx H Q=>match x with
 |.int i=>Q (g i) H
 |_=>False
def an6:TY X (unaryOp .USub) (rUM λi=>.int<|-i):=afo.imp λx H Q q=>by cases x<;>first|exact False.elim q|exact(_,rfl,q)
end
def oH (t:TE):TT:=λσ H Q=>t σ H λx H'=>match x with
 |.bl k=>Q k H'
 |_=>False
def akG (ta tb:TE):TE:=λσ H Q=>ta σ H λx H1=>match x with
 |.bl c=>if c=true then tb σ H1 Q else Q (.bl false) H1
 |_=>False
def akH (ta:TE):TE:=λσ H Q=>ta σ H λx H1=>match x with
 |.bl c=>Q (.bl<|!c) H1
 |_=>False
def adM (r r':R2)(ta tb tc:TE):TE:=λσ H Q=>ta σ H λx H1=>tb σ H1 λy H2=>r x y H2 λz H3=>match z with
 |.bl k=>if k=true then tc σ H3 λw' H4=>r' y w' H4 Q else Q (.bl false) H3
 |_=>False
section
variable {rest:List Expr}
def lY (ho:dh X (compareOp op) r)(ha:PE X a ta)(hb:PE X b tb)(hm:behindInMarks op b=false:=by first|exact NT _|rfl):PT X (.Compare a [op] [b] pos) (oH<|jt r ta tb):=by kl_no;refine p6 (bK (ha aj s σ H _ I h) ?_) hm;rintro v s1 ⟨x,H1,I1,r1,q1⟩;refine bK (hb aj s1 σ H1 _ I1 q1) ?_;rintro u s2 ⟨y,H2,I2,r2,q2⟩;refine bK (ho aj s2 σ H2 x y v u _ I2 r1 r2 q2) ?_;rintro c s3 ⟨z,H3,I3,r3,q3⟩;cases z<;>first|exact False.elim q3|(cases r3;exact db (H3,I3,q3))
def peC (ho:dh X (compareOp op) r)(ha:PE X a ta)(hb:PE X b tb)(hm:behindInMarks op b=false:=by first|exact NT _|rfl):PE X (.Compare a [op] [b] pos) (jt r ta tb):=alW ho ha hb hm
def ptV (h:PE X e t)(he:∀o9,isTrue e X.env o9=(do let v<-o9;standAt e.pos;holding [v]<|truthy v):=by intro _;rfl):PT X e (oH t):=by intro aj s σ H Q I hw;refine isTrue_plain (bK (h aj s σ H _ I hw) ?_)<|he _;rintro v s1 ⟨x,H1,I1,r1,q1⟩;cases x<;>first|exact False.elim q1|(cases r1;exact db (H1,I1,q1))
def arb (ha:PE X a ta)(hb:PE X (.BoolOp .And (b::rest) pos) tb):PE X (.BoolOp .And (a::b::rest) pos) (akG ta tb):=by
 kl_no;refine BoolOp_and<|bK (ha aj s σ H _ I h) ?_;rintro v s1 ⟨x,H1,I1,r1,q1⟩;cases x with
 |bl c=>
  cases r1;refine db ?_;cases c with
  |true=>exact hb aj s1 σ H1 Q I1 q1
  |false=>exact(.bl false,H1,I1,rfl,q1)
 |_=>exact False.elim q1
def ard (ha:PE X a ta):PE X (.UnaryOp .Not a pos) (akH ta):=by
 kl_no;refine UnaryOp_<|bK (ha aj s σ H _ I h) ?_;rintro v s1 ⟨x,H1,I1,r1,q1⟩;cases x with
 |bl c=>cases r1;exact not_of<|db (.bl<|!c,H1,I1,rfl,q1)
 |_=>exact False.elim q1
def au2 (ho:dh X (compareOp op) r)(yW:dh X (compareOp GD) r')(ha:PE X a ta)(hb:PE X b tb)(hc:PE X c tc)
  (hm:lastMarks [op,GD] [b,c]=false:=by with_unfolding_all rfl):PE X (.Compare a [op,GD] [b,c] pos) (adM r r' ta tb tc):=by
 kl_no;refine Compare_chain (bK (ha aj s σ H _ I h) ?_) hm;rintro v s1 ⟨x,H1,I1,r1,q1⟩;refine chain_link<|bK (hb aj s1 σ H1 _ I1 q1) ?_;rintro u s2 ⟨y,H2,I2,r2,q2⟩;refine bK (ho aj s2 σ H2 x y v u _ I2 r1 r2 q2) ?_;rintro d s3 ⟨z,H3,I3,r3,q3⟩;cases z with
 |bl k=>
  cases r3;refine db ?_;cases k with
  |false=>exact ite_ff (.bl false,H3,I3,rfl,q3)
  |true=>exact ite_tt<|chain_last<|bK (hc aj s3 σ H3 _ I3 q3) λw' s4 ⟨z',H4,I4,r4,q4⟩=>yW aj s4 σ H4 y z' u w' Q I4 r2 r4 q4
 |_=>exact False.elim q3
end
def zm (K:Frag):R2:=λx y H Q=>match x,y with
 |.ref p,.int i=>∃xs v,aZ K H p xs/\dI xs i=some v/\Q v H
 |_,_=>False
def uH (K:Frag):R2:=λx y H Q=>match x,y with
 |.ref p,.int i=>∃xs v,bV K H p xs/\dI xs i=some v/\Q v H
 |_,_=>False
def an7 (K:Frag):R2:=λx y H Q=>match y with
 |.int i=>∃ds n,(Has K H (.list ds) x\/Has K H (.tuple ds) x)/\dI ds i=some (.int n)/\Q (.int n) H
 |_=>False
section
variable {pos iQ eV:Pos}
def jG:wj X (zm X.K):=Rz.imp λx y H Q q=>by cases x<;>first|exact False.elim q|(cases y<;>first|exact False.elim q|(let(xs,v,h1,h2,h3):=q;exact(_,xs,_,v,rfl,rfl,h1,h2,h3)))
def dR:wj X (uH X.K):=Yl.imp λx y H Q q=>by cases x<;>first|exact False.elim q|(cases y<;>first|exact False.elim q|(let(xs,v,h1,h2,h3):=q;exact(_,xs,_,v,rfl,rfl,h1,h2,h3)))
def abQ (h:n=m):rN n i=rN m i:=by rw[h]
set_option tactic.hygienic true in
def ixD:wj X (an7 X.K):=(Rz.or Yl).imp λx y H Q q=>by
 cases y<;>first|exact False.elim q|skip
 rename_i i;let(ds,n,hh,h2,h3):=q;have go:∀xs,aR X.K H ds xs->dI xs i=some (.int n):=λxs hl=>by
  unfold dI at h2 ⊢;rw[abQ hl.length.symm];cases e:rN ds.length i with
  |none=>grind
  |some j=>rw[e] at h2;let(v,q1,q2):=hl.at h2;have q2':=q2;rw[<-q2'];exact q1
 rcases hh with⟨p,xs,rfl,hq,hl⟩|⟨p,xs,rfl,hq,hl⟩
 .exact .inl (p,xs,i,_,rfl,rfl,hq,go xs hl,h3)
 .exact .inr (p,xs,i,_,rfl,rfl,hq,go xs hl,h3)
def bB (hr:wj X r)(ha:PE X a ta)(hb:PE X b tb)(hs:Jp b:=by intro _ _;rfl):PE X (.Subscript a b pos) (jt r ta tb):=adB hr ha hb hs
def Jr:ade:=λo i v H Q=>match o,i with
 |.ref p,.int k=>∃xs j,H p=some (.lst xs)/\rN xs.length k=some j/\Q (upd H p<|.lst<|xs.set j v)
 |_,_=>False
def GF:Gq X Jr:=set_list.imp λx y z H Q q=>by cases x<;>first|exact False.elim q|(cases y<;>first|exact False.elim q|(let(xs,j,h1,h2,h3):=q;exact(_,xs,_,j,rfl,rfl,h1,h2,h3)))
inductive Wj (K:Frag):List V->Hp->VK->Prop
 |mk ys:(aZ K H p ys\/bV K H p ys)->Q (.int ys.length) H->Wj K [.ref p] H Q
def YD:iu X (.builtin "len") (Wj X.K):=Yo.imp λxs H Q q=>by let(ys,h1,h2):=q;exact(_,ys,rfl,h1,h2)
inductive Wm:List V->Hp->VK->Prop
 |mk:Q (.int<|if i<0 then -i else i) H->Wm [.int i] H Q
def cAbs:iu X (.builtin "abs") Wm:=ah1.imp λxs H Q q=>by obtain⟨q⟩:=q;exact(_,rfl,q)
inductive Br (K:Frag):List V->Hp->VK->Prop
 |mk ys:(aZ K H p ys\/bV K H p ys)->(∀l,H l=none->Q (.ref l) (upd H l<|.lst ys))->Br K [.ref p] H Q
def Og:iu X (.type "list") (Br X.K):=Yq.imp λxs H Q q=>by let(ys,h1,h2):=q;exact(_,ys,rfl,h1,h2)
inductive adN (K:Frag):List V->Hp->VK->Prop
 |mk (ns:List Int):aZ K H p (ns.map V.int)->Q (.int ns.sum) H->adN K [.ref p] H Q
def au3 (hc:X.calm=true):iu X (.builtin "sum") (adN X.K):=(afS hc).imp λxs H Q q=>by let(ys,h1,h2):=q;exact(_,ys,rfl,h1,h2)
inductive adO (K:Frag):List V->Hp->VK->Prop
 |mk (ns:List Int):aZ K H p (ns.map V.int)->0<ns.length->(∀M,M∈ns->(∀a,a∈ns->M<=a)->Q (.int M) H)->adO K [.ref p] H Q
def aoa (hc:X.calm=true):iu X (.builtin "min") (adO X.K):=(afT hc).imp λxs H Q q=>by let(ys,h1,h2,h3):=q;exact(_,ys,rfl,h1,h2,h3)
inductive Js:V->List V->Hp->VK->Prop
 |mk ys:H l=some (.lst ys)->ys.length<sizeLine->Q .non (upd H l<|.lst<|ys++[y])->Js (.ref l) [y] H Q
def au4:Ob X "list.append" Js:=λaj s σ H x xs v us Q I rx rv q=>Uc aj s σ H x xs v us Q I rx rv (by
 let(ys,h1,h2,h3):=q;exact(_,ys,_,rfl,rfl,h1,h2,h3))
def Jt (ho:PE X o to)(ha:PA X [e] t)
  (mX:attributeBase o "append" X.env (eval o X.env)=eval o X.env:=by rfl)
  (LK:((backTo eV (starEach [e] X.env)).all (λx=>!x.1) && (backToKw eV (keywordEach [] X.env)).all (λx=>x.1.isSome)
   && decide (([e]:List Expr).length+([]:List Keyword).length+(if([]:List Keyword).isEmpty then 0 else 1)<30))=true:=by rfl)
  (mY:(iQ.endLine==eV.line)=true:=by rfl)(hs:starEach [e] X.env=(false,eval e X.env)::starEach [] X.env:=by rfl)(xU:(backTo eV<|starEach [] X.env).any (·.1)=false:=by rfl):
  PE X (.Call (.Attribute o "append" iQ) [e] [] eV) (FP X.K "list" Js to t):=adD gS PySem.F.slot_list_append PySem.F.type_list_append au4 ho ha mX LK mY hs xU
structure cW (P:Program)(w:World)(K:Frag)(mg:Str->Option Value)(base:Heap)(k:Nat)(x:Str)(ps:List Str)(sp:Sp):Prop where
 ex:∃f fd,bJ P w K mg base cA k f fd ps sp/\mg x=some (.ref f)/\keepIn K (.ref f)=true/\Binds K fd ps []
def dG (C:cW X.prog X.w X.K X.mg X.base k x ps sp)(hr:gD k X.A)(hg:Gl X x)(ha:PA X (e::es) t)
  (N7:(x==("__debug__":Str))=false:=by decide)(he:starEach (e::es) X.env=(false,eval e X.env)::starEach es X.env:=by rfl)(xR:(backTo pos<|starEach es X.env).any (·.1)=false:=by rfl):
  PE X (.Call (.Name x p) (e::es) [] pos) (iM sp [] E0 t):=by
 let(f,fd,F,hm,hk,hb):=C.ex;exact alZ F hr hg hm hk hb .nil dB ha N7 he xR
def Ju:TGs:=λvs σ H Q=>match vs with
 |[]=>Q σ H
 |_=>False
def qe (t:TG)(u:TGs):TGs:=λvs σ H Q=>match vs with
 |v::r=>t v σ H λaX H'=>u r aX H' Q
 |[]=>False
def Wn (K:Frag)(n:Nat)(t:TGs):TG:=λv σ H Q=>match v with
 |.ref a=>∃xs,bV K H a xs/\xs.length=n/\t xs σ H Q
 |_=>False
def yd:wg X [] Ju:=by
 intro aj s σ H vs us Q I r h;cases vs with
 |nil=>cases r;exact assignInOrder_nil (σ,H,I,h)
 |cons _ _=>exact False.elim h
def jl (h1:PG X e t)(h2:wg X es u)
  (hs:(assignEach (e::es) X.env).map (·.2)=assign e X.env::(assignEach es X.env).map (·.2):=by rfl):wg X (e::es) (qe t u):=by
 intro aj s σ H vs us Q I r h;cases vs with
 |nil=>exact False.elim h
 |cons v vr=>
  cases r with
  |cons r rr=>rw[hs];refine assignInOrder_cons<|bK (h1 aj s σ H _ _ _ I r h) ?_;rintro _ s1 ⟨X8,H1,I1,q1⟩;exact h2 aj s1 X8 H1 _ _ Q I1 rr q1
def Dh (hc:X.calm=true)(h:wg X es t)
  (hn:(assignEach es X.env).length=n:=by rfl)(bh:(assignEach es X.env).findIdx? (·.1)=none:=by rfl):PG X (.Tuple es k pos) (Wn X.K n t):=by
 intro aj s σ H v u Q I r hw;cases v with
 |ref a=>let(xs,hq,hl,hw):=hw;exact ang hc h hn bh aj s σ H (.ref a) u Q I r (a,xs,rfl,hq,hl,hw)
 |_=>exact False.elim hw
def Wo (i:Nat)(te:TE)(ti:TIp):TS:=λD σ H=>match σ[i]? with
 |some (some x)=>te σ H λy H1=>ti x y H1 λz H2=>D.nx (σ.set i<|some z) H2
 |_=>False
set_option tactic.hygienic true in
def akJ (hN:X.N.Nodup)(hi:X.N[i]? =some x)(hx:Loc X.env.scope x)(he:PE X e te)(ho:Gs X op ti)(hf:X.fn x=true\/X.env.scope.names.lookup x=some .local:=by first|exact .inl rfl|exact .inr rfl|assumption):
  PS X (.AugAssign (.Name x xP) op e pos) (Wo i te ti):=λaj s σ H D I h=>anh hN hi hx he ho hf aj s σ H D I (by
 unfold Wo at h;split at h
 .rename_i v e;exact(v,e,h)
 .exact h.elim)
def aio:Gs X .Add (rM λi j=>.int<|i+j):=ank.imp λx y H Q q=>by cases x<;>first|exact False.elim q|(cases y<;>first|exact False.elim q|exact(_,_,rfl,rfl,q))
def aip:Gs X .Sub (rM λi j=>.int<|i - j):=anl.imp λx y H Q q=>by cases x<;>first|exact False.elim q|(cases y<;>first|exact False.elim q|exact(_,_,rfl,rfl,q))
end
def Jv (J:It)(g:TG)(tb:TS)(D:Ends)(σ:St)(H1:Hp):Prop:=∃W:Nat->Nat->St->Hp->Prop,(∃m,W 0 m σ H1)/\∀i m σ H,W i m σ H->
 (J.stop i H/\D.nx σ H)\/(J.go i H/\∃N:St->Hp->Prop,(∀aX H',N aX H'->∃m',m'<m/\W (i+1) m' aX H')/\∀x H',J.Yb i H x H'->g x σ H' λiY H2=>tb {D with nx:=N,ct:=N,bk:=D.nx} iY H2)
def nO:adi wi g tb D σ H=wi σ H λJ H1=>Jv J g tb D σ H1:=rfl
def forL {K:Frag}(Pv:Nat->St->Hp->Prop)(h0:Pv 0 σ H)(hl:∀i σ H,i<=xs.length->Pv i σ H->aZ K H a xs)
  (hs:∀i x σ H,xs[i]? =some x->Pv i σ H->g x σ H λiY H2=>tb {D with nx:=Pv<|i+1,ct:=Pv<|i+1,bk:=D.nx} iY H2)(hd:∀σ H,Pv xs.length σ H->D.nx σ H):Jv (Gu K a) g tb D σ H:=ahX Pv h0 hl hs hd
def aob {K:Frag}(Pv:Nat->St->Hp->Prop)(h0:Pv 0 σ H)(hl:∀i σ H,i<=xs.length->Pv i σ H->aZ K H a xs)
  (hs:∀i x σ H p,xs[i]? =some x->Pv i σ H->H p=none->g (.ref p) σ (upd H p<|.tup [.int (i:Int),x]) λiY H2=>tb {D with nx:=Pv<|i+1,ct:=Pv<|i+1,bk:=D.nx} iY H2)(hd:∀σ H,Pv xs.length σ H->D.nx σ H):
  Jv (Ite K a) g tb D σ H:=by
 refine⟨λi m σ H=>m=xs.length - i/\i<=xs.length/\Pv i σ H,⟨xs.length,by simp,dE _,h0⟩,?_⟩;rintro i m σ H ⟨rfl,hi,p⟩;have q:=hl i σ H hi p;by_cases dZ:i<xs.length
 .refine .inr ⟨⟨xs,xs[i],q,by simp[dZ]⟩,Pv<|i+1,λaX H' p'=>⟨xs.length - (i+1),by lk,rfl,dZ,p'⟩,λx H' y=>?_⟩;let(pp,z,hn,e1,hz,e2):=y;subst e1 e2;exact hs i z σ _ pp (hz xs q) p hn
 .have e:i=xs.length:=by lk
  subst e;exact .inl ⟨⟨xs,q,ax _⟩,hd σ H p⟩
def iR.nil:iR [] []:=iR.refl
def iR.skip (h:iR a b):iR (none::a) (x::b):=λj v e=>by
 cases j with
 |zero=>simp at e
 |succ j=>exact h j v<|by simpa using e
def YF (h:0<n):rN n (-1)=some (n - 1):=by unfold rN;grind
noncomputable def hide (D:Addr)(H:Hp):Hp:=λb=>if b=D then none else H b
def qT:Same (hide D H) H:=λb o e=>by unfold hide at e;lk
def Jw:hide D H D=none:=by unfold hide;rw[ar rfl]
def hide_ne (h:b≠D):hide D H b=H b:=by unfold hide;rw[ap h]
def Di:hide D (upd H D o)=hide D H:=by funext b;unfold hide upd;lk
def YG (h:H D=none):hide D H=H:=by funext b;unfold hide;lk
def afX (h:H D=none)(s:Same H G):Same H (hide D G):=λb o e=>by rw[hide_ne<|bF e h];exact s b o e
def Bs (s:Same H G):Same (hide D H) (hide D G):=λb o e=>by
 unfold hide at e ⊢;split at e
 .cases e
 .rename_i hb;rw[ap hb];exact s b o e
def aH (h:H p=none):Same H (upd H p o):=λb u e=>by rw[aJ<|bF e h];exact e
def lcR {lo:Int}(hz:n<sizeLine)(I:Nat->List V->Hp->Prop)(h0:I 0 [] H1)
  (hs:∀D i ys H (N:VK),i<n->H D=some (.lst ys)->H1 D=none->ys.length=i->Same H1 (hide D H)->I i ys (hide D H)->
   (∀y H4,H4 D=some (.lst ys)->Same (hide D H) (hide D H4)->I (i+1) (ys++[y]) (hide D H4)->N y H4)->g (.int (lo+i)) (d8 cap σ) H λiY H2=>iR (d8 cap σ) iY/\te iY H2 N)
  (hQ:∀D ys H,H D=some (.lst ys)->H1 D=none->ys.length=n->Same H1 (hide D H)->I n ys (hide D H)->Q (.ref D) H):RK (Itr lo n) cap g akB te σ H1 Q:=by
 intro D hD;refine⟨λi m H=>m=n - i/\i<=n/\∃ys,H D=some (.lst ys)/\ys.length=i/\Same H1 (hide D H)/\I i ys (hide D H),⟨_,rfl,dE _,[],au,rfl,by rw[Di,YG hD];exact Same.refl _,by rw[Di,YG hD];exact h0⟩,?_⟩;rintro i m H ⟨rfl,hi,ys,YH,cZ,wK,hI⟩;by_cases dZ:i<n
 .refine .inr ⟨dZ,λx H' y=>?_⟩;let(e,e2):=y;subst e e2;refine hs D i ys _ _ dZ YH hD cZ wK hI λv H4 q1 q2 q3=>?_;refine⟨ys,q1,by lk,n - (i+1),by lk,rfl,dZ,ys++[v],au,by simp[cZ],?_,?_⟩
  .rw[Di];exact wK.trans q2
  .rw[Di];exact q3
 .have e:i=n:=by lk
  subst e;exact .inl ⟨ax _,hQ D ys H YH hD cZ wK hI⟩
end L2
namespace L2
def PT.imp (h:PT X e t)(ht:∀σ H Q,t' σ H Q->t σ H Q):PT X e t':=λaj s σ H Q I q=>h aj s σ H Q I<|ht σ H Q q
def PW.imp (h:PW X e t)(ht:∀σ H Q,t' σ H Q->t σ H Q):PW X e t':=λwh aj s σ H Q I q=>h wh aj s σ H Q I<|ht σ H Q q
def PS.imp (h:PS X e t)(ht:∀D σ H,t' D σ H->t D σ H):PS X e t':=λaj s σ H Q I q=>h aj s σ H Q I<|ht Q σ H q
def kj.imp (h:kj X e t)(ht:∀D σ H,t' D σ H->t D σ H):kj X e t':=λaj s σ H Q I q=>h aj s σ H Q I<|ht Q σ H q
def PA.imp (h:PA X e t)(ht:∀σ H Q,t' σ H Q->t σ H Q):PA X e t':=λpos aj s σ H Q I q=>h pos aj s σ H Q I<|ht σ H Q q
def PG.imp (h:PG X e t)(ht:∀v σ H Q,t' v σ H Q->t v σ H Q):PG X e t':=λaj s σ H v u Q I r q=>h aj s σ H v u Q I r<|ht v σ H Q q
def PI.imp (h:PI X tg e t)(ht:∀σ H Q,t' σ H Q->t σ H Q):PI X tg e t':=λaj s σ H Q I q=>h aj s σ H Q I<|ht σ H Q q
def PO.imp (h:PO X e t)(ht:∀σ H Q,t' σ H Q->t σ H Q):PO X e t':=λaj s σ H Q I q=>h aj s σ H Q I<|ht σ H Q q
end L2
namespace VM
open L2
abbrev St:=L2.St
inductive Tg where
 |fr|ow|io
 deriving DecidableEq
noncomputable def Tg.dat:Tg->Bool
 |_=>true
noncomputable def Tg.own:Tg->Bool
 |.fr=>false
 |_=>true
abbrev GS:=List<|Option<|Tg×PyData
abbrev VE:=GS->Option PyData
noncomputable def zp:HO->Bool
 |.tup _=>true
 |.jZ _ (.tup _)=>true
 |_=>false
structure cg (F H F' H':Hp):Prop where
 hh:Same H H'
 ff:Same F F'
 fh:Same F' H'
 new:∀a o,F' a=some o->F a=some o\/H a=none\/zp o=true
 pl:∀a o u,F' a=some (.jZ o<|.lst u)->F a=some (.jZ o<|.lst u)
theorem cg.refl (h:Same F H):cg F H F H:=(Same.refl _,Same.refl _,h,λ_ _ e=>.inl e,λ_ _ _ e=>e)
theorem cg.trans (a:cg F H F1 H1)(b:cg F1 H1 F2 H2):cg F H F2 H2:=(a.hh.trans b.hh,a.ff.trans b.ff,b.fh,λp o e=>by
 rcases b.new p o e with h|h|h
 .exact a.new p o h
 .exact .inr<|.inl<|a.hh.free h
 .exact .inr (.inr h),λp o u e=>a.pl p o u (b.pl p o u e))
def cg.alloc (h:Same F H)(hp:H p=none):cg F H F (upd H p o):=
 (aH hp,Same.refl _,h.trans<|aH hp,λ_ _ e=>.inl e,λ_ _ _ e=>e)
def cg.Oh (h:Same F H)(hp:H p=none)(ho:∀x u,o≠ .jZ x u:=by intros;intro z;cases z):cg F H (upd F p o) (upd H p o):=by
 have hF:=h.free hp;refine(aH hp,aH hF,λb u e=>?_,λb u e=>?_,λb x u e=>?_)
 .by_cases hb:b=p
  .subst hb;rw[au] at e ⊢;exact e
  .rw[aJ hb] at e ⊢;exact h b u e
 .by_cases hb:b=p
  .subst hb;exact .inr<|.inl hp
  .rw[aJ hb] at e;exact .inl e
 .by_cases hb:b=p
  .subst hb;rw[au] at e;exact absurd (be e)<|ho _ _
  .rw[aJ hb] at e;exact e
mutual
noncomputable def u9:PyData->Bool
 |.none=>true
 |.bool _=>true
 |.int _=>true
 |.str _=>true
 |.tuple ds=>oJ ds
 |_=>false
noncomputable def oJ:List PyData->Bool
 |[]=>true
 |d::ds=>u9 d && oJ ds
end
def wide (F H:Hp):Hp:=λa=>match H a with
 |some o=>if zp o=true then some o else F a
 |none=>none
def YJ (h:H a=some o)(hi:zp o=true):wide F H a=some o:=by unfold wide;rw[h];simp only[hi,fA]
def Uj (g:cg F H F1 H'):cg F H (wide F1 H') H':=by
 have dw:∀a o,F1 a=some o->wide F1 H' a=some o:=λa o e=>by have e2:=g.fh a o e;unfold wide;rw[e2];lk
 refine(g.hh,λa o e=>dw a o<|g.ff a o e,λa o e=>?_,λa o e=>?_,λa x u e=>?_)
 .unfold wide at e;cases q:H' a with
  |none=>lk
  |some u=>
   rw[q] at e;by_cases hi:zp u=true
   .omega
   .simp only[hi] at e;rw[<-q];exact g.fh a o e
 .unfold wide at e;cases q:H' a with
  |none=>lk
  |some u=>
   rw[q] at e;by_cases hi:zp u=true
   .omega
   .simp only[hi] at e;exact g.new a o e
 .unfold wide at e;cases q:H' a with
  |none=>lk
  |some w=>
   rw[q] at e;by_cases hi:zp w=true
   .simp only[hi,fA] at e;cases e;cases hi
   .simp only[hi] at e;exact g.pl a x u e
def afY (h:H a=some (.lst xs))(hf:F a=none):wide F H a=none:=by unfold wide;rw[h];simpa [zp] using hf
def aiq (h:bV K H a xs):bV K (wide F H) a xs:=by
 rcases h with(h|⟨o,h⟩)|h
 .exact .inl<|.inl<|YJ h rfl
 .exact .inl<|.inr ⟨o,YJ h rfl⟩
 .exact .inr h
mutual
theorem Ma:∀{d:PyData}{v:V},u9 d=true->Has K H d v->Has K (wide F H) d v
 |.none,_,_,h=>h
 |.bool _,_,_,h=>h
 |.int _,_,_,h=>h
 |.str _,_,_,h=>h
 |.list _,_,f,_=>by simp[u9] at f
 |.tuple ds,_,f,⟨a,xs,e,hq,hl⟩=>(a,xs,e,aiq hq,GJ (by simpa [u9] using f) hl)
 |.dict _,_,f,_=>by simp[u9] at f
theorem GJ:∀{ds:List PyData}{vs:List V},oJ ds=true->aR K H ds vs->aR K (wide F H) ds vs
 |[],_,_,h=>h
 |d::ds,_,f,⟨v,r,h1,h2,h3⟩=>by simp only[oJ,bS] at f;exact(v,r,h1,Ma f.1 h2,GJ f.2 h3)
end
inductive iT (K:Frag)(ao F H:Hp)(d:PyData)(v:V):Prop
 |mk:∀a ds xs,d=.list ds->v=.ref a->H a=some (.lst xs)->F a=none->ao a=none->aR K F ds xs->iT K ao F H d v
noncomputable def afZ (K:Frag)(aL:Nat->Option Addr)(ao F H:Hp)(i:Nat):Tg->PyData->V->Prop
 |.fr,d,v=>Has K F d v
 |.ow,d,v=>iT K ao F H d v
 |.io,d,v=>iT K ao F H d v/\∃a,v=.ref a/\aL i=some a
structure VI (K:Frag)(aL:Nat->Option Addr)(G ao:Hp)(S:GS)(F:Hp)(σ:St)(H:Hp):Prop where
 len:S.length=σ.length
 same:Same ao H
 gf:Same G F
 new:∀a o,F a=some o->G a=some o\/ao a=none\/zp o=true
 sub:Same F H
 slot:∀(i:Nat) t d,S[i]? =some (some (t,d))->∃v,σ[i]? =some (some v)/\afZ K aL ao F H i t d v
 inj:∀(i j:Nat) t t' d d' v,S[i]? =some (some (t,d))->S[j]? =some (some (t',d'))->t.own=true->t'.own=true->σ[i]? =some (some v)->σ[j]? =some (some v)->i=j
 pl:∀a o u,F a=some (.jZ o<|.lst u)->G a=some (.jZ o<|.lst u)
section
variable {σ:St}
def iT.grow (g:cg F H F' H')(h:iT K ao F H d v):iT K ao F' H' d v:=by
 let(a,ds,xs,e1,e2,e3,e4,e5,e6):=h;refine(a,ds,xs,e1,e2,g.hh _ _ e3,?_,e5,e6.same g.ff);cases q:F' a with
 |none=>rfl
 |some o=>
  rcases g.new a o q with z|z|z
  .omega
  .omega
  .have:=g.fh a o q;rw[g.hh _ _ e3] at this;cases this;simp[zp] at z
theorem VI.grow (I:VI K aL G ao S F σ H)(g:cg F H F' H'):VI K aL G ao S F' σ H' where
 len:=I.len
 same:=I.same.trans g.hh
 gf:=I.gf.trans g.ff
 new:=λa o e=>by
  rcases g.new a o e with z|z|z
  .exact I.new a o z
  .exact .inr<|.inl<|I.same.free z
  .exact .inr<|.inr z
 sub:=g.fh
 slot:=λi t d e=>by
  let(v,e1,h):=I.slot i t d e;refine⟨v,e1,?_⟩;cases t with
  |fr=>exact Has.same g.ff h
  |ow=>exact iT.grow g h
  |io=>exact⟨iT.grow g h.1,h.2⟩
 inj:=I.inj
 pl:=λa o u e=>I.pl a o u<|g.pl a o u e
end
noncomputable abbrev Rel:=Frag->Hp->Hp->Hp->Hp->PyData->V->Prop
noncomputable def RW:Rel:=λK _ _ _ H' d v=>Has K H' d v
noncomputable def RS:Rel:=λK _ _ F' _ d v=>Has K F' d v
noncomputable def RM:Rel:=λK _ _ F' H' d v=>Has K F' d v\/∃ds a xs,d=.list ds/\v=.ref a/\aZ K H' a xs/\aR K F' ds xs
inductive RNP (K:Frag)(H:Hp)(F':Hp)(H':Hp)(d:PyData)(v:V):Prop
 |mk:∀ds a xs,d=.list ds->v=.ref a->H a=none->F' a=none->H' a=some (.lst xs)->aR K F' ds xs->RNP K H F' H' d v
noncomputable def RN:Rel:=λK _ H F' H' d v=>RNP K H F' H' d v
inductive tV (K:Frag)(R:Rel)(f:VE)(σ:St)(H:Hp)(Q:VK):Prop
 |mk:∀aL G ao S F,VI K aL G ao S F σ H->∀d,f S=some d->(∀v F' H',cg F H F' H'->R K F H F' H' d v->Q v H')->tV K R f σ H Q
def tV.imp (hf:∀S d,f S=some d->f' S=some d)
  (hR:∀(F F' H':Hp) S d v,f S=some d->cg F H F' H'->R' K F H F' H' d v->∃F'',cg F H F'' H'/\R K F H F'' H' d v)(h:tV K R f σ H Q):tV K R' f' σ H Q:=by
 let(aL,G,ao,S,F,I,d,e,q):=h;refine(aL,G,ao,S,F,I,d,hf S d e,λv F' H' g r=>?_);let(F'',g2,r2):=hR F F' H' S d v e g r;exact q v F'' H' g2 r2
section
variable {f:VE}
def sw (h:PE X e (tV X.K RS f)):PE X e (tV X.K RW f):=h.imp λ_ _ _ q=>tV.imp (λ_ _ h=>h) (λF F' H' S d v _ g r=>(F',g,Has.same g.fh r)) q
def sm (h:PE X e (tV X.K RS f)):PE X e (tV X.K RM f):=h.imp λ_ _ _ q=>tV.imp (λ_ _ h=>h) (λF F' H' S d v _ g r=>(F',g,.inl r)) q
def mw (h:PE X e (tV X.K RM f)):PE X e (tV X.K RW f):=h.imp λ_ _ _ q=>tV.imp (λ_ _ h=>h) (λF F' H' S d v _ g r=>(F',g,by
 rcases r with r|⟨ds,a,xs,rfl,rfl,h1,h2⟩
 .exact Has.same g.fh r
 .exact(a,xs,rfl,h1,h2.same g.fh))) q
def nm (h:PE X e (tV X.K RN f)):PE X e (tV X.K RM f):=h.imp λ_ _ _ q=>tV.imp (λ_ _ h=>h) (λF F' H' S d v _ g r=>(F',g,by
 let(ds,a,xs,h1,h2,h3,h4,h5,h6):=r;exact .inr (ds,a,xs,h1,h2,aZ.of h5,h6))) q
def RN.jZ (g:cg F H F' H')(r:RN K F H F' H' d v):∃F'',cg F H F'' H'/\RS K F H F'' H' d v:=by
 let(ds,a,xs,h1,h2,h3,h4,h5,h6):=r;refine(upd F' a<|.lst xs,(g.hh,g.ff.trans<|aH h4,λb o e=>?_,λb o e=>?_,λb x u e=>?_),?_)
 .by_cases hb:b=a
  .subst hb;rw[au] at e;cases e;exact h5
  .rw[aJ hb] at e;exact g.fh b o e
 .by_cases hb:b=a
  .omega
  .rw[aJ hb] at e;exact g.new b o e
 .by_cases hb:b=a
  .subst hb;rw[au] at e;cases e
  .rw[aJ hb] at e;exact g.pl b x u e
 .rw[h1];exact(a,xs,h2,aZ.of au,h6.same<|aH h4)
def ns (h:PE X e (tV X.K RN f)):PE X e (tV X.K RS f):=h.imp λ_ _ _ q=>tV.imp (λ_ _ h=>h) (λF F' H' S d v _ g r=>RN.jZ g r) q
def nw (h:PE X e (tV X.K RN f)):PE X e (tV X.K RW f):=mw<|nm h
noncomputable def Mf (f:VE):VE:=λS=>match f S with
 |some d=>if u9 d=true then some d else none
 |none=>none
def Uk (h:Mf f S=some d):f S=some d/\u9 d=true:=by unfold Mf at h;lk
end
noncomputable def vN (i:Nat):VE:=λS=>match S[i]? with
 |some (some (.fr,d))=>some d
 |some (some (.ow,d))=>some d
 |some (some (.io,d))=>some d
 |_=>none
noncomputable def vF (i:Nat):VE:=λS=>match S[i]? with
 |some (some (.fr,d))=>some d
 |_=>none
noncomputable def vC (d:PyData):VE:=λ_=>some d
section
variable {pos:Pos}
def dN (h:PE X e (vR i)):PE X e (tV X.K RM<|vN i):=h.imp λσ H Q q=>by
 let(aL,G,ao,S,F,I,d,e,q):=q;unfold vN at e;split at e
 .rename_i d' hS;cases e;let(v,hv,hs):=I.slot i .fr d hS;unfold vR;rw[hv];exact q v F H (cg.refl I.sub)<|.inl hs
 .rename_i d' hS;cases e;let(v,hv,hs):=I.slot i .ow d hS;unfold vR;rw[hv];let(a,ds,xs,e1,e2,e3,e4,e5,e6):=hs;exact q v F H (cg.refl I.sub)<|.inr (ds,a,xs,e1,e2,aZ.of e3,e6)
 .rename_i d' hS;cases e;let(v,hv,hs):=I.slot i .io d hS;unfold vR;rw[hv];let(a,ds,xs,e1,e2,e3,e4,e5,e6):=hs.1;exact q v F H (cg.refl I.sub)<|.inr (ds,a,xs,e1,e2,aZ.of e3,e6)
 .cases e
def dF (h:PE X e (vR i)):PE X e (tV X.K RS<|vF i):=h.imp λσ H Q q=>by
 let(aL,G,ao,S,F,I,d,e,q):=q;unfold vF at e;split at e
 .rename_i d' hS;cases e;let(v,hv,hs):=I.slot i .fr d hS;unfold vR;rw[hv];exact q v F H (cg.refl I.sub) hs
 .cases e
def dC (h:PE X e (tC v))(hv:∀H,Has X.K H d v):PE X e (tV X.K RS<|vC d):=h.imp λσ H Q q=>by let(aL,G,ao,S,F,I,d',e,q):=q;cases e;exact q v F H (cg.refl I.sub)<|hv F
def jd {i j}:PE X (.Constant (.int i) j pos) (tV X.K RS<|vC<|.int i):=dC aF λ_=>rfl
def akK {b j}:PE X (.Constant (.bool b) j pos) (tV X.K RS<|vC<|.bool b):=dC pq λ_=>rfl
def adP {j}:PE X (.Constant .none j pos) (tV X.K RS<|vC .none):=dC afc λ_=>rfl
def au5 {x j}(hx:(PyData.str x).canLay0=true:=by rfl):PE X (.Constant (.str x) j pos) (tV X.K RS<|vC<|.str x):=dC nC λ_=>⟨rfl,hx⟩
end
noncomputable def v2 (h:PyData->PyData->Option PyData)(fa fb:VE):VE:=λS=>match fa S with
 |some x=>match fb S with
  |some y=>h x y
  |none=>none
 |none=>none
def Bt (e:v2 h fa fb S=some d):∃x y,fa S=some x/\fb S=some y/\h x y=some d:=by unfold v2 at e;grind
noncomputable def jN (K:Frag)(h:PyData->PyData->Option PyData)(r:R2):Prop:=∀H x y dx dy d Q,h dx dy=some d->Has K H dx x->Has K H dy y->(∀v,(∀H',Has K H' d v)->Q v H)->r x y H Q
def rd2 (hd:jN K h r)(q:tV K RS (v2 h fa fb) σ H Q):jt r (tV K RW fa) (tV K RW fb) σ H Q:=by let(aL,G,ao,S,F,I,d,e,q):=q;let(x,y,ex,ey,e):=Bt e;refine(aL,G,ao,S,F,I,x,ex,λv F1 H1 g1 hx=>(aL,G,ao,S,F1,I.grow g1,y,ey,λu F2 H2 g2 hy=>?_));exact hd H2 v u x y d Q e (Has.same g2.hh hx) hy λw hw=>q w F2 H2 (g1.trans g2)<|hw F2
section
variable {r:R2}
def FZ (ho:dh X (binaryOp op) r)(hd:jN X.K h r)(ha:PE X a (tV X.K RW fa))(hb:PE X b (tV X.K RW fb)):PE X (.BinOp a op b pos) (tV X.K RS<|v2 h fa fb):=
 (dj ho ha hb).imp λ_ _ _ q=>rd2 hd q
def adQ (ho:dh X (compareOp op) r)(hd:jN X.K h r)(ha:PE X a (tV X.K RW fa))(hb:PE X b (tV X.K RW fb))(hm:behindInMarks op b=false:=by first|exact NT _|rfl):PE X (.Compare a [op] [b] pos) (tV X.K RS<|v2 h fa fb):=
 (peC ho ha hb hm).imp λ_ _ _ q=>rd2 hd q
end
noncomputable def Ga (g:Int->Int->PyData):PyData->PyData->Option PyData
 |.int a,.int b=>some<|g a b
 |_,_=>none
noncomputable def Dj (C:Int->Int->Prop)[∀a b,Decidable (C a b)](g:Int->Int->PyData):PyData->PyData->Option PyData
 |.int a,.int b=>if C a b then some (g a b) else none
 |_,_=>none
noncomputable def akL (d:PyData)(v:V):Prop:=∀(K:Frag) (H:Hp),Has K H d v
def xq (hg:∀a b,akL (g a b) (gv a b)):jN K (Ga g) (rM gv):=by
 k_in;cases dx<;>first|(simp[Ga] at e;done)|skip
 cases dy<;>first|(simp[Ga] at e;done)|skip
 simp only[Ga,dS] at e;subst e;have ex:=hx;have ey:=hy;subst ex ey;exact q _ λH'=>hg _ _ K H'
def Dl [∀a b,Decidable (C a b)](hc:∀a b,C a b->C' a b)(hg:∀a b,akL (g a b) (gv a b)):jN K (Dj C g) (GC C' gv):=by
 k_in;cases dx<;>first|(simp[Dj] at e;done)|skip
 cases dy<;>first|(simp[Dj] at e;done)|skip
 simp only[Dj] at e;split at e
 .rename_i hC;cases e;have ex:=hx;have ey:=hy;subst ex ey;exact⟨hc _ _ hC,q _ λH'=>hg _ _ K H'⟩
 .cases e
set_option exponentiation.threshold 9000
noncomputable def BMul (i j:Int):Prop:=i.natAbs<2^2000/\j.natAbs<2^2000
noncomputable instance (i j:Int):Decidable (BMul i j):=inferInstanceAs<|Decidable<|_/\_
noncomputable def adR (_ j:Int):Prop:=0<j/\j.natAbs<2^2000
noncomputable instance (i j:Int):Decidable (adR i j):=inferInstanceAs<|Decidable<|_/\_
noncomputable def BMod (_ j:Int):Prop:=0<j
noncomputable instance (i j:Int):Decidable (BMod i j):=inferInstanceAs<|Decidable<|_<_
noncomputable def adS (i j:Int):Prop:=0<=j/\j<=1000/\i.natAbs<2^60
noncomputable instance (i j:Int):Decidable (adS i j):=inferInstanceAs<|Decidable<|_/\_/\_
def BMul.ok (h:BMul i j):Wi i j:=by have e:(2:Nat)^2000<=2^8000:=nS ⋯ ⋯;exact⟨b8 h.1 e,b8 h.2 e⟩
def adR.ok (h:adR i j):Dd i j:=⟨h.1,by
 have hz:j.natAbs≠0:=by have:=h.1;lk
 have:=(Nat.log2_lt hz).mpr h.2;lk⟩
def adS.ok (h:adS i j):adn i j:=(h.1,by have:=h.2.1;lk,Nat.lt_trans h.2.2<|by decide)
noncomputable abbrev cu:=Ga λa b=>.int<|a+b
noncomputable abbrev jm:=Ga λa b=>.int<|a - b
noncomputable abbrev rQ:=Dj BMul λa b=>.int<|a*b
noncomputable abbrev j4:=Dj adR λa b=>.int<|a/b
noncomputable abbrev fH:=Dj BMod λa b=>.int<|a % b
noncomputable abbrev Aj:=Dj adS λa b=>.int<|a^b.toNat
noncomputable abbrev mQ:=Ga λa b=>.bool<|decide<|a<b
noncomputable abbrev wG:=Ga λa b=>.bool<|decide<|a<=b
noncomputable abbrev tM:=Ga λa b=>.bool<|decide<|b<a
noncomputable abbrev geD:=Ga λa b=>.bool<|decide<|b<=a
section
def YK:jN K cu (rM λi j=>.int<|i+j):=xq λ_ _ _ _=>rfl
def hSub:jN K jm (rM λi j=>.int<|i - j):=xq λ_ _ _ _=>rfl
def hMul:jN K rQ (GC Wi λi j=>.int<|i*j):=Dl (λ_ _ h=>h.ok) λ_ _ _ _=>rfl
def hDiv:jN K j4 (GC Dd λi j=>.int<|i/j):=Dl (λ_ _ h=>h.ok) λ_ _ _ _=>rfl
def hMod:jN K fH (GC (λ_ j=>0<j) λi j=>.int<|i % j):=Dl (λ_ _ h=>h) λ_ _ _ _=>rfl
def hPow:jN K Aj (GC adn λi j=>.int<|i^j.toNat):=Dl (λ_ _ h=>h.ok) λ_ _ _ _=>rfl
def hLt:jN K mQ (rM λi j=>.bl<|decide<|i<j):=xq λ_ _ _ _=>rfl
def hLe:jN K wG (rM λi j=>.bl<|decide<|i<=j):=xq λ_ _ _ _=>rfl
def hGt:jN K tM (rM λi j=>.bl<|decide<|j<i):=xq λ_ _ _ _=>rfl
end
noncomputable def gU:PyData->PyData->Option PyData:=λx y=>if x.depth<=60 then some (.bool<|eqv x y) else none
noncomputable def jO:PyData->PyData->Option PyData:=λx y=>if x.depth<=60 then some (.bool<|!PyData.eqv x y) else none
def hEq:jN K gU (aii K):=by
 k_in;unfold gU at e;split at e
 .cases e;exact(dx,dy,hx,hy,by assumption,q _ λ_=>rfl)
 .cases e
def hNe:jN K jO (aij K):=by
 k_in;unfold jO at e;split at e
 .cases e;exact(dx,dy,hx,hy,by assumption,q _ λ_=>rfl)
 .cases e
noncomputable def jX:PyData->Bool
 |.none=>true
 |_=>false
def isD:PyData->PyData->Option PyData:=λx y=>if jX y then some (.bool<|jX x) else none
def RL:PyData->PyData->Option PyData:=λx y=>if jX y then some (.bool<|!jX x) else none
def Ul (h:Has K H d x):zj x=jX d:=by
 cases d with
 |none=>have e:=h;rw[e];rfl
 |bool b=>have e:=h;rw[e];rfl
 |int i=>have e:=h;rw[e];rfl
 |str y=>have e:=h.1;rw[e];rfl
 |list ds=>let(a,xs,rfl,_):=h;rfl
 |tuple ds=>let(a,xs,rfl,_):=h;rfl
 |dict k=>exact h.elim
def none_of (h:Has K H d x)(e:jX d=true):x=.non:=by cases d<;>first|exact h|(simp[jX] at e)
def hIs:jN K isD ain:=by
 k_in;unfold isD at e;split at e
 .rename_i hn;cases e;have:=none_of hy hn;subst this;show Q (.bl<|zj x) H;rw[Ul hx];exact q _ λ_=>rfl
 .cases e
def aoe:jN K RL adL:=by
 k_in;unfold RL at e;split at e
 .rename_i hn;cases e;have:=none_of hy hn;subst this;show Q (.bl<|!zj x) H;rw[Ul hx];exact q _ λ_=>rfl
 .cases e
noncomputable abbrev VT:=GS->Option Bool
inductive kE (K:Frag)(f:VT)(σ:St)(H:Hp)(Q:(Bool->Hp->Prop)):Prop
 |mk:∀aL G ao S F,VI K aL G ao S F σ H->∀b,f S=some b->(∀F' H',cg F H F' H'->Q b H')->kE K f σ H Q
noncomputable def vB (f:VE):VT:=λS=>match f S with
 |some (.bool b)=>some b
 |_=>none
def al8 (h:vB f S=some b):f S=some (.bool b):=by unfold vB at h;lk
noncomputable def fP (f g:VT):VT:=λS=>match f S with
 |some true=>g S
 |some false=>some false
 |none=>none
noncomputable def gG (f g:VT):VT:=λS=>match f S with
 |some true=>some true
 |some false=>g S
 |none=>none
noncomputable def dU (f:VT):VT:=λS=>match f S with
 |some b=>some !b
 |none=>none
noncomputable def YL:PyData->Option Bool
 |.none=>some false
 |.bool b=>some b
 |.int i=>some<|i !=0
 |.list ds=>some<|!ds.isEmpty
 |.tuple ds=>some<|!ds.isEmpty
 |_=>none
def ug (f:VE):VT:=λS=>match f S with
 |some d=>YL d
 |none=>none
theorem aR.isEmpty (h:aR K H ds vs):vs.isEmpty=ds.isEmpty:=by have:=h.length;cases ds<;>cases vs<;>simp_all
section
variable {rest:List Expr}
def air (ht:∀Q',tV K RS f σ H Q'->t σ H Q')(q:kE K (vB f) σ H Q):oH t σ H Q:=by let(aL,G,ao,S,F,I,b,e,q):=q;refine ht _ (aL,G,ao,S,F,I,.bool b,al8 e,λv F' H' g hv=>?_);have ev:=hv;subst ev;exact q F' H' g
def mD (ho:dh X (compareOp op) r)(hd:jN X.K h r)(ha:PE X a (tV X.K RW fa))(hb:PE X b (tV X.K RW fb))(hm:behindInMarks op b=false:=by first|exact NT _|rfl):PT X (.Compare a [op] [b] pos) (kE X.K<|vB<|v2 h fa fb):=
 PT.imp (lY ho ha hb hm) λ_ _ _ q=>air (λ_ q=>rd2 hd q) q
def cVal (he:PE X e (tV X.K RS f))(hp:∀o9,isTrue e X.env o9=(do let v<-o9;standAt e.pos;holding [v]<|truthy v):=by intro _;rfl):PT X e (kE X.K<|vB f):=
 PT.imp (ptV he hp) λ_ _ _ q=>air (λ_ q=>q) q
def RP (ha:PT X a (kE X.K ta)):PT X (.UnaryOp .Not a pos) (kE X.K<|dU ta):=PT.imp (Gp ha) λ_ _ _ q=>by
 let(aL,G,ao,S,F,I,b,e,q):=q;unfold dU at e;cases q2:ta S with
 |none=>lk
 |some c=>rw[q2] at e;cases e;exact(aL,G,ao,S,F,I,c,q2,λF' H' g=>q F' H' g)
def adT (ha:PT X a (kE X.K ta)):PW X (.BoolOp .And [a] pos) (kE X.K ta):=Bc ha
def ais (ha:PT X a (kE X.K ta)):PW X (.BoolOp .Or [a] pos) (kE X.K ta):=uX ha
def ait (ha:PT X a (kE X.K ta))(hb:PW X (.BoolOp .And (b::rest) pos) (kE X.K tb)):PW X (.BoolOp .And (a::b::rest) pos) (kE X.K<|fP ta tb):=PW.imp (Bf ha hb) λ_ _ _ q=>by
 let(aL,G,ao,S,F,I,b,e,q):=q;unfold fP at e;cases q2:ta S with
 |none=>lk
 |some c=>
  rw[q2] at e;refine(aL,G,ao,S,F,I,c,q2,λF' H' g=>?_);cases c with
  |true=>rw[ar rfl];exact(aL,G,ao,S,F',I.grow g,b,e,λF2 H2 g2=>q F2 H2<|g.trans g2)
  |false=>grind
def wOr (ha:PT X a (kE X.K ta))(hb:PW X (.BoolOp .Or (b::rest) pos) (kE X.K tb)):PW X (.BoolOp .Or (a::b::rest) pos) (kE X.K<|gG ta tb):=PW.imp (uE ha hb) λ_ _ _ q=>by
 let(aL,G,ao,S,F,I,b,e,q):=q;unfold gG at e;cases q2:ta S with
 |none=>lk
 |some c=>
  rw[q2] at e;refine(aL,G,ao,S,F,I,c,q2,λF' H' g=>?_);cases c with
  |false=>rw[ap bj];exact(aL,G,ao,S,F',I.grow g,b,e,λF2 H2 g2=>q F2 H2<|g.trans g2)
  |true=>grind
def aof (he:PE X e (tV X.K RW f))(hp:∀o9,isTrue e X.env o9=(do let v<-o9;standAt e.pos;holding [v]<|truthy v):=by intro _;rfl):PT X e (kE X.K<|ug f):=
 PT.imp (ah0 he hp) λ_ _ _ q=>by
  let(aL,G,ao,S,F,I,b,e,q):=q;unfold ug at e;cases q2:f S with
  |none=>rw[q2] at e;cases e
  |some d=>
   rw[q2] at e;refine(aL,G,ao,S,F,I,d,q2,λv F' H' g hv=>(b,?_,q F' H' g));cases d with
   |none=>cases e;have ev:=hv;rw[ev];rfl
   |bool c=>cases e;have ev:=hv;rw[ev];rfl
   |int i=>cases e;have ev:=hv;rw[ev];rfl
   |list ds=>cases e;let(p,xs,rfl,h1,h2):=hv;exact .inl (xs,h1,by rw[aR.isEmpty h2])
   |tuple ds=>cases e;let(p,xs,rfl,h1,h2):=hv;exact .inr<|.inl (xs,h1,by rw[aR.isEmpty h2])
   |str y=>cases e
   |dict k=>cases e
end
noncomputable def Mg (f g:VE):VE:=λS=>match f S with
 |some (.bool true)=>g S
 |some (.bool false)=>some<|.bool false
 |_=>none
noncomputable def vOr (f g:VE):VE:=λS=>match f S with
 |some (.bool true)=>some<|.bool true
 |some (.bool false)=>g S
 |_=>none
noncomputable def Mh (f:VE):VE:=λS=>match f S with
 |some (.bool b)=>some<|.bool !b
 |_=>none
noncomputable def yg (h h':PyData->PyData->Option PyData)(fa fb fc:VE):VE:=λS=>match fa S with
 |some x=>match fb S with
  |some y=>match h x y with
   |some (.bool true)=>(match fc S with
    |some z=>h' y z
    |none=>none)
   |some (.bool false)=>some<|.bool false
   |_=>none
  |none=>none
 |none=>none
noncomputable def vIf (c:VT)(f g:VE):VE:=λS=>match c S with
 |some true=>f S
 |some false=>g S
 |none=>none
section
variable {rest:List Expr}
def au6 (ha:PE X a (tV X.K RS fa))(hb:PE X (.BoolOp .And (b::rest) pos) (tV X.K RS fb)):PE X (.BoolOp .And (a::b::rest) pos) (tV X.K RS<|Mg fa fb):=(arb ha hb).imp λ_ _ _ q=>by
 let(aL,G,ao,S,F,I,d,e,q):=q;unfold Mg at e;split at e
 .rename_i q2;refine(aL,G,ao,S,F,I,_,q2,λv F' H' g hv=>?_);have ev:=hv;subst ev;simp only[fA];exact(aL,G,ao,S,F',I.grow g,d,e,λw F2 H2 g2 hw=>q w F2 H2 (g.trans g2) hw)
 .rename_i q2;cases e;refine(aL,G,ao,S,F,I,_,q2,λv F' H' g hv=>?_);have ev:=hv;subst ev;grind
 .cases e
def au7 (ha:PE X a (tV X.K RS fa)):PE X (.UnaryOp .Not a pos) (tV X.K RS<|Mh fa):=(ard ha).imp λ_ _ _ q=>by
 let(aL,G,ao,S,F,I,d,e,q):=q;unfold Mh at e;split at e
 .rename_i b q2;cases e;refine(aL,G,ao,S,F,I,_,q2,λv F' H' g hv=>?_);have ev:=hv;subst ev;exact q _ F' H' g rfl
 .cases e
def au8 {op}(h:PE X a (tV X.K R f)):PE X (.BoolOp op [a] pos) (tV X.K R f):=X5 h
def aog (hd:jN K h r)(Bb:jN K h' r')(q:tV K RS (yg h h' fa fb fc) σ H Q):adM r r' (tV K RW fa) (tV K RW fb) (tV K RW fc) σ H Q:=by
 let(aL,G,ao,S,F,I,d,e,q):=q;unfold yg at e;cases qa:fa S with
 |none=>lk
 |some x=>
  rw[qa] at e;cases qb:fb S with
  |none=>lk
  |some y=>
   rw[qb] at e;simp only at e;refine(aL,G,ao,S,F,I,x,qa,λv F1 H1 g1 hx=>(aL,G,ao,S,F1,I.grow g1,y,qb,λu F2 H2 g2 hy=>?_));split at e
   .rename_i q3;cases qc:fc S with
    |none=>lk
    |some z=>rw[qc] at e;refine hd H2 v u x y _ _ q3 (Has.same g2.hh hx) hy λk hk=>?_;have ek:=hk H2;subst ek;simp only[fA];refine(aL,G,ao,S,F2,(I.grow g1).grow g2,z,qc,λw F3 H3 g3 hw=>?_);exact Bb H3 u w y z d Q e (Has.same g3.hh hy) hw λk hk=>q k F3 H3 ((g1.trans g2).trans g3)<|hk F3
   .rename_i q3;cases e;refine hd H2 v u x y _ _ q3 (Has.same g2.hh hx) hy λk hk=>?_;have ek:=hk H2;subst ek;simp only[fI,eI];exact q _ F2 H2 (g1.trans g2) rfl
   .cases e
def dCh (ho:dh X (compareOp op) r)(hd:jN X.K h r)(yW:dh X (compareOp GD) r')(Bb:jN X.K h' r')(ha:PE X a (tV X.K RW fa))(hb:PE X b (tV X.K RW fb))(hc:PE X c (tV X.K RW fc))
  (hm:lastMarks [op,GD] [b,c]=false:=by with_unfolding_all rfl):PE X (.Compare a [op,GD] [b,c] pos) (tV X.K RS<|yg h h' fa fb fc):=(au2 ho yW ha hb hc hm).imp λ_ _ _ q=>aog hd Bb q
def dIf (hc:PT X c (kE X.K tc))(ha:PE X a (tV X.K RS fa))(hb:PE X b (tV X.K RS fb)):PE X (.IfExp c a b pos) (tV X.K RS<|vIf tc fa fb):=(ahS hc ha hb).imp λ_ _ _ q=>by
 let(aL,G,ao,S,F,I,d,e,q):=q;unfold vIf at e;split at e
 .rename_i q2;refine(aL,G,ao,S,F,I,_,q2,λF' H' g=>?_);simp only[fA];exact(aL,G,ao,S,F',I.grow g,d,e,λw F2 H2 g2 hw=>q w F2 H2 (g.trans g2) hw)
 .rename_i q2;refine(aL,G,ao,S,F,I,_,q2,λF' H' g=>?_);simp only[fI,eI];exact(aL,G,ao,S,F',I.grow g,d,e,λw F2 H2 g2 hw=>q w F2 H2 (g.trans g2) hw)
 .cases e
end
end VM
namespace VM
open L2
section
variable {F H F' H':Hp}
theorem aR.dI (h:aR K H ds xs)(e:L2.dI ds i=some d):∃v,L2.dI xs i=some v/\Has K H d v:=by
 unfold L2.dI at e ⊢;rw[abQ h.length.symm];cases q:rN ds.length i with
 |none=>rw[q] at e;cases e
 |some j=>rw[q] at e;exact h.at e
theorem aR.drop:∀{ds:List PyData}{vs:List V} (n:Nat),aR K H ds vs->aR K H (ds.drop n) (vs.drop n)
 |_,_,0,h=>h
 |[],vs,n+1,h=>by have h':vs=[]:=h;rw[h'];rfl
 |_::_,_,n+1,⟨_,_,g1,_,g3⟩=>by rw[g1];exact aR.drop n g3
theorem aR.take:∀{ds:List PyData}{vs:List V} (n:Nat),aR K H ds vs->aR K H (ds.take n) (vs.take n)
 |_,_,0,_=>by simp only[List.take_zero];rfl
 |[],vs,n+1,h=>by have h':vs=[]:=h;rw[h'];rfl
 |_::_,_,n+1,⟨u,r,g1,g2,g3⟩=>by rw[g1];exact(u,r.take n,rfl,g2,aR.take n g3)
theorem RM.list (fh:Same F' H')(r:RM K F H F' H' (.list ds) v):∃a xs,v=.ref a/\aZ K H' a xs/\aR K F' ds xs:=by
 rcases r with⟨a,xs,rfl,h1,h2⟩|⟨Bu,a,xs,e,rfl,h1,h2⟩
 .exact(a,xs,rfl,fh.seq h1,h2)
 .cases e;exact(a,xs,rfl,h1,h2)
theorem RM.tuple (fh:Same F' H')(r:RM K F H F' H' (.tuple ds) v):∃a xs,v=.ref a/\bV K H' a xs/\aR K F' ds xs:=by
 rcases r with⟨a,xs,rfl,h1,h2⟩|⟨Bu,a,xs,e,rfl,h1,h2⟩
 .exact(a,xs,rfl,fh.vW h1,h2)
 .cases e
def RM.grow (g:cg F' H' F2 H2)(r:RM K F H F' H' d v):RM K F H F2 H2 d v:=by
 rcases r with r|⟨ds,a,xs,e,e2,h1,h2⟩
 .exact .inl<|Has.same g.ff r
 .exact .inr (ds,a,xs,e,e2,g.hh.seq h1,h2.same g.ff)
end
def aM:PyData->PyData->Option PyData
 |.list ds,.int i=>dI ds i
 |.tuple ds,.int i=>dI ds i
 |_,_=>none
section
variable {pos p2:Pos}
def rR (ha:PE X a (tV X.K RM fa))(hb:PE X b (tV X.K RW fb))(hs:Jp b:=by intro _ _;rfl):PE X (.Subscript a b pos) (tV X.K RS<|v2 aM fa fb):=
 (adB (Rz.or Yl) ha hb hs).imp λ_ _ Q q=>by
  let(aL,G,ao,S,F,I,d,e,q):=q;let(x,y,ex,ey,e):=Bt e;refine(aL,G,ao,S,F,I,x,ex,λv F1 H1 g1 hx=>(aL,G,ao,S,F1,I.grow g1,y,ey,λu F2 H2 g2 hy=>?_));have Um:=RM.grow g2 hx;unfold aM at e;split at e
  .rename_i ds i;have eu:=hy;let(p,xs,rfl,h1,h2):=RM.list g2.fh Um;let(w,hw,YM):=aR.dI h2 e;exact .inl (p,xs,i,w,rfl,eu,h1,hw,q w F2 H2 (g1.trans g2) YM)
  .rename_i ds i;have eu:=hy;let(p,xs,rfl,h1,h2):=RM.tuple g2.fh Um;let(w,hw,YM):=aR.dI h2 e;exact .inr (p,xs,i,w,rfl,eu,h1,hw,q w F2 H2 (g1.trans g2) YM)
  .cases e
inductive YQ (K:Frag)(f:GS->Option (Option Int))(σ:St)(H:Hp)(Q:(Option Int->Hp->Prop)):Prop
 |mk:∀aL G ao S F,VI K aL G ao S F σ H->∀o,f S=some o->(∀F' H',cg F H F' H'->Q o H')->YQ K f σ H Q
noncomputable def oN:GS->Option (Option Int):=λ_=>some none
noncomputable def oI (f:VE):GS->Option (Option Int):=λS=>match f S with
 |some (.int i)=>some<|some i
 |_=>none
def poN:PO X none (YQ X.K oN):=PO.imp Bj λ_ H Q q=>by let(aL,G,ao,S,F,I,o,e,q):=q;cases e;exact q F H<|cg.refl I.sub
def poI (h:PE X e (tV X.K RW f)):PO X (some e) (YQ X.K<|oI f):=PO.imp (pB h) λ_ H Q q=>by
 let(aL,G,ao,S,F,I,o,e,q):=q;unfold oI at e;split at e
 .rename_i i q2;cases e;refine(aL,G,ao,S,F,I,_,q2,λv F' H' g hv=>(i,hv,q F' H' g))
 .cases e
noncomputable def cutD (xs:List PyData)(lo hi:Option Int):List PyData:=(xs.drop<|HT.cI xs.length 0 lo).take<|HT.cI xs.length xs.length hi - HT.cI xs.length 0 lo
def aR.cut {lo hi:Option Int}(h:aR K H ds vs):aR K H (cutD ds lo hi) (lQ vs lo hi):=by unfold cutD lQ;rw[h.length];exact aR.take _<|aR.drop _ h
noncomputable def adU (f:VE)(l u:GS->Option (Option Int)):VE:=λS=>match f S,l S,u S with
 |some (.list ds),some lo,some hi=>some<|.list<|cutD ds lo hi
 |_,_,_=>none
noncomputable def GK (f:VE)(l u:GS->Option (Option Int)):VE:=λS=>match f S,l S,u S with
 |some (.tuple ds),some lo,some hi=>if HT.cI ds.length 0 lo=0/\HT.cI ds.length ds.length hi=ds.length then none else some (.tuple<|cutD ds lo hi)
 |_,_,_=>none
variable {lo hi:Option Expr}
set_option tactic.hygienic true in
def au9 (he:PE X e (tV X.K RM f))(hl:PO X lo (YQ X.K fl))(hu:PO X hi (YQ X.K fu)):PE X (.Subscript e (.Slice lo hi none p2) pos) (tV X.K RS<|GK f fl fu):=
 (oG Yk he hl hu).imp λ_ H Q q=>by
  let(aL,G,ao,S,F,I,d,e,q):=q;unfold GK at e;split at e
  .rename_i ds l u q1 q2 q3;split at e
   .cases e
   .rename_i hw;cases e;refine(aL,G,ao,S,F,I,_,q1,λv F1 H1 g1 hx=>(aL,G,ao,S,F1,I.grow g1,l,q2,λF2 H2 g2=>(aL,G,ao,S,F2,(I.grow g1).grow g2,u,q3,λF3 H3 g3=>?_)));let(p,xs,rfl,h1,h2):=RM.tuple g3.fh<|RM.grow (g2.trans g3) hx;have g:=(g1.trans g2).trans g3;refine(p,xs,rfl,h1,by rw[<-h2.length];exact hw,λz hz=>q _ _ _ (g.trans<|cg.Oh g3.fh hz) (z,_,rfl,bV.of au,aR.same (aH<|g3.fh.free hz)<|aR.cut h2))
  .cases e
noncomputable def adV (f:VE):VE:=λS=>match f S with
 |some (.list ds)=>some<|.list ds.reverse
 |_=>none
noncomputable def nW:PyData->Option PyData
 |.int i=>some<|.int<|-i
 |_=>none
noncomputable def v1 (h:PyData->Option PyData)(f:VE):VE:=λS=>match f S with
 |some x=>h x
 |none=>none
def adW (ha:PE X a (tV X.K RW f)):PE X (.UnaryOp .USub a pos) (tV X.K RS<|v1 nW f):=(adk an6 ha).imp λ_ H Q q=>by
 let(aL,G,ao,S,F,I,d,e,q):=q;unfold v1 at e;split at e
 .rename_i x q1;unfold nW at e;split at e
  .rename_i i;cases e;refine(aL,G,ao,S,F,I,_,q1,λv F1 H1 g1 hx=>?_);have ev:=hx;subst ev;exact q _ F1 H1 g1 rfl
  .cases e
 .cases e
end
abbrev VA:=GS->Option (List PyData)
inductive Gb (K:Frag)(f:VA)(σ:St)(H:Hp)(Q:(List V->Hp->Prop)):Prop
 |mk:∀aL G ao S F,VI K aL G ao S F σ H->∀ds,f S=some ds->(∀vs F' H',cg F H F' H'->aR K F' ds vs->Q vs H')->Gb K f σ H Q
inductive Mi (K:Frag)(f:VA)(σ:St)(H:Hp)(Q:(List V->Hp->Prop)):Prop
 |mk:∀aL G ao S F,VI K aL G ao S F σ H->∀ds,f S=some ds->(∀vs F' H',cg F H F' H'->aR K H' ds vs->Q vs H')->Mi K f σ H Q
noncomputable def a0:VA:=λ_=>some []
noncomputable def aC (f:VE)(fs:VA):VA:=λS=>match f S with
 |some d=>match fs S with
  |some ds=>some (d::ds)
  |none=>none
 |none=>none
def abR (h:aC f fs S=some ds):∃d r,f S=some d/\fs S=some r/\ds=d::r:=by unfold aC at h;grind
section
variable {pos:Pos}
def oK:PA X [] (Gb X.K a0):=PA.imp aP λ_ H Q q=>by let(aL,G,ao,S,F,I,d,e,q):=q;cases e;exact q [] F H (cg.refl I.sub) rfl
def pw0:PA X [] (Mi X.K a0):=PA.imp aP λ_ H Q q=>by let(aL,G,ao,S,F,I,d,e,q):=q;cases e;exact q [] F H (cg.refl I.sub) rfl
def iU (he:PE X e (tV X.K RS f))(hr:PA X es (Gb X.K fs))(hs:starEach (e::es) X.env=(false,eval e X.env)::starEach es X.env:=by rfl):PA X (e::es) (Gb X.K<|aC f fs):=PA.imp (ak he hr hs) λ_ H Q q=>by let(aL,G,ao,S,F,I,ds,e,q):=q;let(d,r,e1,e2,rfl):=abR e;exact(aL,G,ao,S,F,I,d,e1,λv F1 H1 g1 hx=>(aL,G,ao,S,F1,I.grow g1,r,e2,λvs F2 H2 g2 hy=>q _ F2 H2 (g1.trans g2) (v,vs,rfl,Has.same g2.ff hx,hy)))
def pwC (he:PE X e (tV X.K RW f))(hr:PA X es (Mi X.K fs))(hs:starEach (e::es) X.env=(false,eval e X.env)::starEach es X.env:=by rfl):PA X (e::es) (Mi X.K<|aC f fs):=PA.imp (ak he hr hs) λ_ H Q q=>by let(aL,G,ao,S,F,I,ds,e,q):=q;let(d,r,e1,e2,rfl):=abR e;exact(aL,G,ao,S,F,I,d,e1,λv F1 H1 g1 hx=>(aL,G,ao,S,F1,I.grow g1,r,e2,λvs F2 H2 g2 hy=>q _ F2 H2 (g1.trans g2) (v,vs,rfl,Has.same g2.hh hx,hy)))
noncomputable def fJ (fs:VA):VE:=λS=>match fs S with
 |some ds=>if ds.length<=1000 then some (.tuple ds) else none
 |none=>none
noncomputable def fK (fs:VA):VE:=λS=>match fs S with
 |some ds=>if ds.length<=1000 then some (.list ds) else none
 |none=>none
def af2 (h:fJ fs S=some d):∃ds,fs S=some ds/\ds.length<=1000/\d=.tuple ds:=by unfold fJ at h;grind
def af3 (h:fK fs S=some d):∃ds,fs S=some ds/\ds.length<=1000/\d=.list ds:=by unfold fK at h;grind
def dTup {x1}(h:PA X es (Gb X.K fs)):PE X (.Tuple es x1 pos) (tV X.K RS<|fJ fs):=(jM h).imp λ_ H Q q=>by let(aL,G,ao,S,F,I,d,e,q):=q;let(ds,e1,hl,rfl):=af2 e;refine⟨aL,G,ao,S,F,I,ds,e1,λvs F1 H1 g1 hx=>⟨by rw[<-hx.length];exact kQ<|Ue hl,λp hp=>?_⟩⟩;exact q _ _ _ (g1.trans<|cg.Oh g1.fh hp) ⟨p,vs,rfl,bV.of au,aR.same (aH<|g1.fh.free hp) hx⟩
def YS (h:PA X es (Gb X.K fs)):PE X (.List es pos) (tV X.K RN<|fK fs):=(xQ h).imp λ_ H Q q=>by let(aL,G,ao,S,F,I,d,e,q):=q;let(ds,e1,hl,rfl):=af3 e;refine⟨aL,G,ao,S,F,I,ds,e1,λvs F1 H1 g1 hx=>⟨by rw[<-hx.length];exact kQ<|Ue hl,λp hp=>?_⟩⟩;exact q _ _ _ (g1.trans<|cg.alloc g1.fh hp) ⟨ds,p,vs,rfl,rfl,g1.hh.free hp,g1.fh.free hp,au,hx⟩
end
def CallD (K:Frag)(h:List PyData->Option PyData)(r:List V->Hp->VK->Prop):Prop:=∀H vs ds d Q,h ds=some d->aR K H ds vs->(∀v,(∀H',Has K H' d v)->Q v H)->r vs H Q
noncomputable def dW (h:List PyData->Option PyData)(fs:VA):VE:=λS=>match fs S with
 |some ds=>h ds
 |none=>none
def Oj (he:PE X e (rK r<|Mi X.K fs))(hd:CallD X.K h r):PE X e (tV X.K RS<|dW h fs):=he.imp λ_ H Q q=>by
 let(aL,G,ao,S,F,I,d,e,q):=q;unfold dW at e;split at e
 .rename_i ds q1;exact(aL,G,ao,S,F,I,ds,q1,λvs F1 H1 g1 hx=>hd H1 vs ds d Q e hx λv hv=>q v F1 H1 g1<|hv F1)
 .cases e
noncomputable def fV:List PyData->Option PyData
 |[.list ds]=>some<|.int ds.length
 |[.tuple ds]=>some<|.int ds.length
 |_=>none
noncomputable def Mj:List PyData->Option PyData
 |[.int i]=>some<|.int<|if i<0 then -i else i
 |_=>none
noncomputable def intsOf:List PyData->Option (List Int)
 |[]=>some []
 |.int i::r=>match intsOf r with
  |some ns=>some (i::ns)
  |none=>none
 |_=>none
theorem Ak:∀{ds:List PyData}{ns:List Int},intsOf ds=some ns->ds=ns.map PyData.int
 |[],_,h=>by cases h;rfl
 |.int i::r,ns,h=>by
  unfold intsOf at h;cases q:intsOf r with
  |none=>lk
  |some ms=>rw[q] at h;cases h;rw[Ak q];rfl
 |.none::_,_,h=>by cases h
 |.bool _::_,_,h=>by cases h
 |.str _::_,_,h=>by cases h
 |.list _::_,_,h=>by cases h
 |.tuple _::_,_,h=>by cases h
 |.dict _::_,_,h=>by cases h
def lE (ns:List Int):intsOf (ns.map PyData.int)=some ns:=by
 induction ns with
 |nil=>rfl
 |cons n ns ih=>simp only[az,intsOf,ih]
def Dm:List PyData->Option PyData
 |[.list ds]=>match intsOf ds with
  |some ns=>some<|.int ns.sum
  |none=>none
 |_=>none
noncomputable def jH:List Int->Int
 |[]=>0
 |[n]=>n
 |n::r=>min n<|jH r
theorem mF:∀{ns:List Int},ns≠[]->jH ns∈ns/\∀a∈ns,jH ns<=a
 |[n],_=>by simp[jH]
 |n::m::r,_=>by
  let(h1,h2):=mF (ns:=m::r) (by simp);have e:jH (n::m::r)=min n (jH (m::r)):=rfl;rw[e];refine⟨?_,λa ha=>?_⟩
  .by_cases Km:n<=jH (m::r)
   .rw[Int.min_eq_left Km];exact ae
   .rw[Int.min_eq_right ∅];exact aa _ h1
  .rcases aI.mp ha with rfl|ha
   .exact qi ..
   .exact fv (pT ..)<|h2 a ha
def minD:List PyData->Option PyData
 |[.list ds]=>match intsOf ds with
  |some (n::r)=>some<|.int<|jH (n::r)
  |_=>none
 |_=>none
noncomputable def rT:List PyData->Option PyData
 |[.int i,.int j]=>some<|.int<|if j<i then j else i
 |_=>none
noncomputable def Wq:List PyData->Option PyData
 |[.int i,.int j]=>some<|.int<|if j>i then j else i
 |_=>none
noncomputable def Wr:List PyData->Option PyData
 |[.int i]=>some<|.int i
 |[.bool k]=>some<|.int<|if k then 1 else 0
 |_=>none
section
def aR.one (h:aR K H [d] vs):∃v,vs=[v]/\Has K H d v:=by let(v,r,rfl,h1,h2):=h;have Ug:=h2;rw[Ug];exact(v,rfl,h1)
def aR.two (h:aR K H [d,e] vs):∃v u,vs=[v,u]/\Has K H d v/\Has K H e u:=by let(v,r,rfl,h1,h2):=h;let(u,rfl,h3):=aR.one h2;exact(v,u,rfl,h1,h3)
def hLen:CallD K fV (Wj K):=by
 intro H vs ds d Q e hx q;unfold fV at e;split at e
 .let(v,rfl,a,xs,rfl,h1,h2):=aR.one hx;cases e;exact(xs,.inl h1,by rw[<-h2.length];exact q _ λ_=>rfl)
 .let(v,rfl,a,xs,rfl,h1,h2):=aR.one hx;cases e;exact(xs,.inr h1,by rw[<-h2.length];exact q _ λ_=>rfl)
 .cases e
def ava:CallD K Mj Wm:=by
 intro H vs ds d Q e hx q;unfold Mj at e;split at e
 .let(v,rfl,h1):=aR.one hx;have ev:=h1;subst ev;cases e;exact⟨q _ λ_=>rfl⟩
 .cases e
set_option tactic.hygienic true in
def avb:CallD K Dm (adN K):=by
 intro H vs ds d Q e hx q;unfold Dm at e;split at e
 .split at e
  .rename_i ns hn;let(v,rfl,a,xs,rfl,h1,h2):=aR.one hx;cases e;rw[Ak hn] at h2;rw[aR.ints.mp h2] at h1;exact(ns,h1,q _ λ_=>rfl)
  .cases e
 .cases e
set_option tactic.hygienic true in
def aoh:CallD K minD (adO K):=by
 intro H vs ds d Q e hx q;unfold minD at e;split at e
 .split at e
  .rename_i n r hn;let(v,rfl,a,xs,rfl,h1,h2):=aR.one hx;cases e;rw[Ak hn] at h2;rw[aR.ints.mp h2] at h1;refine(n::r,h1,by simp,λM hM hA=>?_);let(g1,g2):=mF (ns:=n::r) (by simp);have:=qo (hA _ g1)<|g2 _ hM;rw[this];exact q _ λ_=>rfl
  .cases e
 .cases e
set_option tactic.hygienic true in
def arf:CallD K rT (λxs H Q=>∃i j,xs=[.int i,.int j]/\Q (.int<|if j<i then j else i) H):=by
 intro H vs ds d Q e hx q;unfold rT at e;split at e
 .rename_i i j;let(v,u,rfl,h1,h2):=aR.two hx;have ev:=h1;have eu:=h2;subst ev eu;cases e;exact(i,j,rfl,q _ λ_=>rfl)
 .cases e
end
noncomputable def Uo:PyData->String
 |.none=>"NoneType"
 |.bool _=>"bool"
 |.int _=>"int"
 |.str _=>"str"
 |.list _=>"list"
 |.tuple _=>"tuple"
 |.dict _=>"dict"
def uh (T:String)(d:PyData):Option PyData:=match d with
 |.dict _=>none
 |_=>some<|.bool<|Uo d==T||(Uo d=="bool" && T=="int")
inductive aiu (K:Frag)(T:String)(xs:List V)(H:Hp)(Q:VK):Prop
 |mk:∀x d b,xs=[x,.ty T]->Has K H d x->kitOne K (.type<|Uo d) (.type T)=some b->Q (.bl b) H->aiu K T xs H Q
set_option tactic.hygienic true in
def aiv:iu X (.builtin "isinstance") (aiu X.K T):=by
 room;let(x,d,b,rfl,hd,e,q):=h;cases r with
 |cons rx rr=>
  cases rr with
  |cons r2 rr=>
   cases rr;rename_i u u2;cases(r2);have fin:∀tk,EP X aj σ Q (.bool b) {s with toks:=tk}:=λtk=>(.bl b,H,I.kept λ_ _ h=>h,rfl,q);cases d with
   |none=>cases(hd);cases(rx);exact oe PySem.W.kitx_none I.qP fN e (λz=>nomatch z) fin
   |bool y=>cases(hd);cases(rx);exact oe PySem.W.kitx_bool I.qP fN e (λz=>nomatch z) fin
   |int i=>cases(hd);let(t,q):=(rx);cases q;exact oe PySem.W.kitx_int I.qP fN e (λz=>nomatch z) fin
   |str y=>cases(hd.1);let(t,q):=(rx);cases q;exact oe PySem.W.kitx_str I.qP fN e (λz=>nomatch z) fin
   |list ds=>
    let(a,ys,rfl,h1,_):=hd;cases(rx);let(aW,rv,(o,n,e1,c,_,_),hz):=I.list h1;exact oe PySem.W.kitx_list I.qP (o,e1,c) e (λz=>nomatch z) fin
   |tuple ds=>
    let(a,ys,rfl,h1,_):=hd;cases(rx);let(aW,rv,(o,e1,c,_),hz):=I.tuple h1;exact oe PySem.W.kitx_tuple I.qP (o,e1,c) e (λz=>nomatch z) fin
   |dict k=>exact hd.elim
structure Dp (K:Frag)(T:String):Prop where
 ok:∀d d',uh T d=some (.bool d')->kitOne K (.type<|Uo d) (.type T)=some d'
def p7 (T:String)(f:VE):VE:=v1 (uh T) f
def af4 (h:uh T d=some x):∃b,x=.bool b:=by cases d<;>first|(simp[uh] at h;done)|(simp only[uh,dS] at h;exact⟨_,h.symm⟩)
set_option tactic.hygienic true in
def RQ (kt:Dp X.K T)(he:PE X e (rK (aiu X.K T)<|bR (tV X.K RW f)<|bR (tC<|.ty T) c7)):PE X e (tV X.K RS<|p7 T f):=he.imp λ_ H Q q=>by
 let(aL,G,ao,S,F,I,d,e,q):=q;unfold p7 v1 at e;split at e
 .rename_i x q1;let(b,rfl):=af4 e;exact(aL,G,ao,S,F,I,x,q1,λv F1 H1 g1 hx=>(v,x,b,rfl,hx,kt.ok x b e,q _ F1 H1 g1 rfl))
 .cases e
noncomputable def pG (f:VE):VE:=λS=>match f S with
 |some (.list ds)=>some<|.list ds
 |some (.tuple ds)=>some<|.list ds
 |_=>none
def al9 (he:PE X e (rK (Br X.K)<|bR (tV X.K RM f) c7)):PE X e (tV X.K RN<|pG f):=he.imp λ_ H Q q=>by
 let(aL,G,ao,S,F,I,d,e,q):=q;unfold pG at e;split at e
 .rename_i ds q1;cases e;refine(aL,G,ao,S,F,I,_,q1,λv F1 H1 g1 hx=>?_);let(p,xs,rfl,h1,h2):=RM.list g1.fh hx;exact(xs,.inl h1,λz hz=>q _ F1 _ (g1.trans<|cg.alloc g1.fh hz) (_,z,_,rfl,rfl,g1.hh.free hz,g1.fh.free hz,au,h2))
 .rename_i ds q1;cases e;refine(aL,G,ao,S,F,I,_,q1,λv F1 H1 g1 hx=>?_);let(p,xs,rfl,h1,h2):=RM.tuple g1.fh hx;exact(xs,.inr h1,λz hz=>q _ F1 _ (g1.trans<|cg.alloc g1.fh hz) (_,z,_,rfl,rfl,g1.hh.free hz,g1.fh.free hz,au,h2))
 .cases e
abbrev g8:=List PyData->Option (Bool×PyData)
def RB:Bool->Rel
 |true=>RN
 |false=>RS
inductive aoi (K:Frag)(m:g8)(vs:List V)(H:Hp)(Q:VK):Prop
 |mk:∀G ds,Same G H->aR K G ds vs->∀b d,m ds=some (b,d)->(∀v F' H',cg G H F' H'->RB b K G H F' H' d v->Q v H')->aoi K m vs H Q
def bO (K:Frag)(m:g8):Sp:=λvs H Q _=>aoi K m vs H Q
noncomputable def bH (m:g8)(fs:VA):VE:=λS=>match fs S with
 |some ds=>match m ds with
  |some (_,d)=>some d
  |none=>none
 |none=>none
noncomputable def Bv (m:g8)(fs:VA):VE:=λS=>match fs S with
 |some ds=>match m ds with
  |some (true,d)=>some d
  |_=>none
 |none=>none
def Mp:Bool->PyData->Bool
 |true,.list ds=>oJ ds
 |true,_=>false
 |false,d=>u9 d
def vf (m:g8)(fs:VA):VE:=λS=>match fs S with
 |some ds=>match m ds with
  |some (b,d)=>if Mp b d=true then some d else none
  |none=>none
 |none=>none
def abT (m:g8)(fs:VA):VE:=λS=>match fs S with
 |some ds=>match m ds with
  |some (true,.list es)=>if oJ es=true then some (.list es) else none
  |_=>none
 |none=>none
section
variable {fs:VA}
set_option tactic.hygienic true in
def oM (he:PE X e (iM (bO X.K m) [] E0<|Gb X.K fs)):PE X e (tV X.K RS<|bH m fs):=he.imp λ_ H Q q=>by
 let(aL,G,ao,S,F,I,d,e,q):=q;unfold bH at e;split at e
 .rename_i ds q1;split at e
  .rename_i b d' q2;cases e;refine(aL,G,ao,S,F,I,ds,q1,λvs F1 H1 g1 hx=>?_);show bO X.K m (vs++[]) H1 Q E0;rw[df];refine(F1,ds,g1.fh,hx,b,_,q2,λv F' H' g hv=>?_);cases b with
   |false=>exact q v F' H' (g1.trans g) hv
   |true=>let(F'',g2,r2):=RN.jZ g hv;exact q v F'' H' (g1.trans g2) r2
  .cases e
 .cases e
def arh (he:PE X e (iM (bO X.K m) [] E0<|Gb X.K fs)):PE X e (tV X.K RN<|Bv m fs):=he.imp λ_ H Q q=>by
 let(aL,G,ao,S,F,I,d,e,q):=q;unfold Bv at e;split at e
 .rename_i ds q1;split at e
  .rename_i d' q2;cases e;refine(aL,G,ao,S,F,I,ds,q1,λvs F1 H1 g1 hx=>?_);show bO X.K m (vs++[]) H1 Q E0;rw[df];refine(F1,ds,g1.fh,hx,true,_,q2,λv F' H' g hv=>?_);let(es,a,xs,h1,h2,h3,h4,h5,h6):=hv;exact q v F' H' (g1.trans g) (es,a,xs,h1,h2,g1.hh.free h3,h4,h5,h6)
  .cases e
 .cases e
set_option tactic.hygienic true in
def akO (he:PE X e (iM (bO X.K m) [] E0<|Mi X.K fs)):PE X e (tV X.K RS<|vf m fs):=he.imp λ_ H Q q=>by
 let(aL,G,ao,S,F,I,d,e,q):=q;unfold vf at e;split at e
 .rename_i ds q1;split at e
  .rename_i b d' q2;split at e
   .rename_i hi;cases e;refine(aL,G,ao,S,F,I,ds,q1,λvs F1 H1 g1 hx=>?_);show bO X.K m (vs++[]) H1 Q E0;rw[df];refine(H1,ds,Same.refl _,hx,b,_,q2,λv F' H' g hv=>?_);have gw:=Uj (g.hh,Same.refl _,g1.fh.trans g.hh,λ_ _ e=>.inl e,λ_ _ _ e=>e);cases b with
    |false=>exact q v _ H' (g1.trans gw)<|Ma hi<|Has.same g.fh hv
    |true=>let(es,a,xs,rfl,h2,h3,h4,h5,h6):=hv;have hF1:=g1.fh.free h3;let(F'',g2,r2):=RN.jZ gw (es,a,xs,rfl,h2,h3,afY h5 hF1,h5,GJ hi<|h6.same g.fh);exact q v F'' H' (g1.trans g2) r2
   .cases e
  .cases e
 .cases e
end
structure RT (K:Frag)(F:Hp)(J:It)(ds:List PyData):Prop where
 go:∀(i:Nat) d F' H',ds[i]? =some d->Same F F'->Same F' H'->J.go i H'/\∀x GP,J.Yb i H' x GP->∃F'',cg F' H' F'' GP/\Has K F'' d x
 stop:∀(i:Nat) F' H',ds.length<=i->Same F F'->Same F' H'->J.stop i H'
inductive zq (K:Frag)(f:VA)(σ:St)(H:Hp)(R:(It->Hp->Prop)):Prop
 |mk:∀aL G ao S F,VI K aL G ao S F σ H->∀ds,f S=some ds->(∀J F' H',cg F H F' H'->RT K F' J ds->R J H')->zq K f σ H R
noncomputable def bZ (f:VE):VA:=λS=>match f S with
 |some (.list ds)=>some ds
 |_=>none
noncomputable def qU (f:VE):VA:=λS=>match f S with
 |some (.tuple ds)=>some ds
 |_=>none
noncomputable def lF (lo:Int)(n:Nat):List PyData:=(List.range n).map λ(i:Nat)=>PyData.int<|lo+i
def wL (fs:VA):VA:=λS=>match fs S with
 |some [.int j]=>@ite _ (-(2^62)<=j/\j<2^62) (Classical.propDecidable _) (some<|lF 0 j.toNat) none
 |_=>none
def Ws (fs:VA):VA:=λS=>match fs S with
 |some [.int i,.int j]=>@ite _ ((-(2^62)<=i/\i<2^62)∧-(2^62)<=j/\j<2^62) (Classical.propDecidable _) (some<|lF i (j - i).toNat) none
 |_=>none
noncomputable def qx:Nat->List PyData->List PyData
 |_,[]=>[]
 |i,d::r=>.tuple [.int i,d]::qx (i+1) r
theorem Uq:∀(k:Nat) (ds:List PyData) (i:Nat),(qx k ds)[i]? =ds[i]?.map λd=>.tuple [.int ((k+i:Nat):Int),d]
 |_,[],_=>by simp[qx]
 |k,d::r,0=>by simp[qx]
 |k,d::r,i+1=>by simp only[qx,kM];rw[Uq (k+1) r i];lk
def YT (k:Nat)(ds:List PyData):(qx k ds).length=ds.length:=by
 induction ds generalizing k with
 |nil=>rfl
 |cons d r ih=>simp[qx,ih]
noncomputable def Dq (ds es:List PyData):List PyData:=List.zipWith (λa b=>PyData.tuple [a,b]) ds es
def Dr (fs:VA):VA:=λS=>match fs S with
 |some [.list ds]=>some<|qx 0 ds
 |_=>none
def Mq (fs:VA):VA:=λS=>match fs S with
 |some [.list ds,.list es]=>some<|Dq ds es
 |_=>none
section
variable {k:Nat}
def af5 (h1:aZ K F a xs)(h2:aR K F ds xs):RT K F (Gu K a) ds where
 go:=λi d F' H' e f1 f2=>by let(v,ev,hv):=h2.at e;have hq:=(f1.trans f2).seq h1;refine⟨⟨xs,v,hq,ev⟩,λx GP y=>?_⟩;let(e1,y):=y;subst e1;have:=y xs hq;rw[ev] at this;cases this;exact⟨F',cg.refl f2,Has.same f1 hv⟩
 stop:=λi F' H' e f1 f2=>⟨xs,(f1.trans f2).seq h1,by rw[<-h2.length];exact e⟩
def aiw (h1:bV K F a xs)(h2:aR K F ds xs):RT K F (TV K a) ds where
 go:=λi d F' H' e f1 f2=>by let(v,ev,hv):=h2.at e;have hq:=(f1.trans f2).vW h1;refine⟨⟨xs,v,hq,ev⟩,λx GP y=>?_⟩;let(e1,y):=y;subst e1;have:=y xs hq;rw[ev] at this;cases this;exact⟨F',cg.refl f2,Has.same f1 hv⟩
 stop:=λi F' H' e f1 f2=>⟨xs,(f1.trans f2).vW h1,by rw[<-h2.length];exact e⟩
def aix {lo:Int}:RT K F (Itr lo n) (lF lo n) where
 go:=λi d F' H' e f1 f2=>by
  unfold lF at e;rw[av] at e;by_cases hi:i<n
  .rw[iO hi] at e;cases e;refine⟨hi,λx GP y=>?_⟩;let(e1,e2):=y;subst e1 e2;exact⟨F',cg.refl f2,rfl⟩
  .rw[bu (by simp;lk)] at e;cases e
 stop:=λi F' H' e f1 f2=>by unfold lF at e;show n<=i;simpa using e
def af6 (h1:aZ K F a xs)(h2:aR K F ds xs):RT K F (Ite K a) (qx 0 ds) where
 go:=λi d F' H' e f1 f2=>by
  rw[Uq] at e;cases q:ds[i]? with
  |none=>rw[q] at e;cases e
  |some d0=>rw[q] at e;cases e;let(v,ev,hv):=h2.at q;have hq:=(f1.trans f2).seq h1;refine⟨⟨xs,v,hq,ev⟩,λx GP y=>?_⟩;let(pp,z,hn,e1,hz,e2):=y;subst e1 e2;have:=hz xs hq;rw[ev] at this;cases this;have gr:cg F' H' (upd F' pp<|.tup [.int (i:Int),v]) (upd H' pp<|.tup [.int (i:Int),v]):=cg.Oh f2 hn;refine⟨_,gr,pp,_,rfl,bV.of au,_,_,rfl,?_,_,_,rfl,Has.same (f1.trans gr.ff) hv,rfl⟩;show V.int (i:Int)=V.int ((0+i:Nat):Int);rw[i8]
 stop:=λi F' H' e f1 f2=>⟨xs,(f1.trans f2).seq h1,by rw[<-h2.length];rw[YT] at e;exact e⟩
def aiy (h1:aZ K F a xs)(h2:aR K F ds xs)(h3:aZ K F b ys)(h4:aR K F es ys):RT K F (Itz K a b) (Dq ds es) where
 go:=λi d F' H' e f1 f2=>by
  unfold Dq at e;rw[List.getElem?_zipWith] at e;cases q:ds[i]? with
  |none=>lk
  |some d0=>
   cases q2:es[i]? with
   |none=>lk
   |some e0=>rw[q,q2] at e;cases e;let(v,ev,hv):=h2.at q;let(u,eu,hu):=h4.at q2;have hq:=(f1.trans f2).seq h1;have u5:=(f1.trans f2).seq h3;refine⟨⟨xs,v,ys,u,hq,ev,u5,eu⟩,λx GP y=>?_⟩;let(pp,z,w,hn,e1,hz,hw,e2):=y;subst e1 e2;have t1:=hz xs hq;have t2:=hw ys u5;rw[ev] at t1;rw[eu] at t2;cases t1;cases t2;have gr:cg F' H' (upd F' pp<|.tup [v,u]) (upd H' pp<|.tup [v,u]):=cg.Oh f2 hn;exact⟨_,gr,pp,_,rfl,bV.of au,_,_,rfl,Has.same (f1.trans gr.ff) hv,_,_,rfl,Has.same (f1.trans gr.ff) hu,rfl⟩
 stop:=λi F' H' e f1 f2=>by unfold Dq at e;rw[List.length_zipWith] at e;exact⟨xs,ys,(f1.trans f2).seq h1,(f1.trans f2).seq h3,by rw[<-h2.length,←h4.length];lk⟩
def itL (hl:PE X l (tV X.K RS f)):PI X tg l (zq X.K<|bZ f):=PI.imp (mC hl) λ_ H Q q=>by
 let(aL,G,ao,S,F,I,ds,e,q):=q;unfold bZ at e;split at e
 .rename_i q1;cases e;refine⟨aL,G,ao,S,F,I,_,q1,λv F' H' g hv=>?_⟩;let(a,xs,rfl,h1,h2):=hv;exact⟨a,rfl,⟨xs,g.fh.seq h1⟩,q _ F' H' g<|af5 h1 h2⟩
 .cases e
def itT (hl:PE X l (tV X.K RS f)):PI X tg l (zq X.K<|qU f):=PI.imp (Yc hl) λ_ H Q q=>by
 let(aL,G,ao,S,F,I,ds,e,q):=q;unfold qU at e;split at e
 .rename_i q1;cases e;refine⟨aL,G,ao,S,F,I,_,q1,λv F' H' g hv=>?_⟩;let(a,xs,rfl,h1,h2):=hv;exact⟨a,rfl,⟨xs,g.fh.vW h1⟩,q _ F' H' g<|aiw h1 h2⟩
 .cases e
def avc (h:PI X tg l (adh<|Mi X.K fs)):PI X tg l (zq X.K<|wL fs):=PI.imp h λ_ H Q q=>by
 let(aL,G,ao,S,F,I,ds,e,q):=q;unfold wL at e;split at e
 .rename_i j q1;split at e
  .rename_i hj;cases e;refine(aL,G,ao,S,F,I,_,q1,λvs F' H' g hv=>?_);let(v,rfl,jF):=aR.one hv;have ev:=jF;exact(j,by rw[ev],hj.1,hj.2,q _ F' H' g aix)
  .cases e
 .cases e
def itE (h:PI X tg l (Wg X.K<|Gb X.K fs)):PI X tg l (zq X.K<|Dr fs):=PI.imp h λ_ H Q q=>by
 let(aL,G,ao,S,F,I,ds,e,q):=q;unfold Dr at e;split at e
 .rename_i es q1;cases e;refine⟨aL,G,ao,S,F,I,_,q1,λvs F' H' g hv=>?_⟩;let(v,rfl,a,xs,rfl,h1,h2):=aR.one hv;exact⟨a,rfl,⟨xs,g.fh.seq h1⟩,q _ F' H' g<|af6 h1 h2⟩
 .cases e
set_option tactic.hygienic true in
def itZ (h:PI X tg l (anP X.K<|Gb X.K fs)):PI X tg l (zq X.K<|Mq fs):=PI.imp h λ_ H Q q=>by
 let(aL,G,ao,S,F,I,ds,e,q):=q;unfold Mq at e;split at e
 .rename_i es es2 q1;cases e;refine⟨aL,G,ao,S,F,I,_,q1,λvs F' H' g hv=>?_⟩;let(v,u,rfl,(a,xs,rfl,h1,h2),b,ys,rfl,h3,h4):=aR.two hv;exact⟨a,b,rfl,⟨xs,g.fh.seq h1⟩,⟨ys,g.fh.seq h3⟩,q _ F' H' g<|aiy h1 h2 h3 h4⟩
 .cases e
end
section
variable {σ:St}
theorem VI.set (I:VI K aL G ao S F σ H)(hd:Has K F d v):VI K aL G ao (S.set i<|some (.fr,d)) F (σ.set i<|some v) H where
 pl:=I.pl
 len:=by rw[ce,ce];exact I.len
 same:=I.same
 gf:=I.gf
 new:=I.new
 sub:=I.sub
 slot:=λj t d' e=>by
  by_cases hj:j=i
  .subst hj;by_cases hl:j<S.length
   .rw[bq hl] at e;cases e;exact(v,bq (by rw[<-I.len];exact hl),hd)
   .rw[bu (by rw[ce];lk)] at e;cases e
  .rw[bv<|cp hj] at e ⊢;exact I.slot j t d' e
 inj:=λj k t t' d1 d2 u e1 e2 n1 n2 v1 v2=>by
  have h1:j≠i:=λz=>by
   subst z;by_cases hl:j<S.length
   .rw[bq hl] at e1;cases e1;exact(bj n1)
   .rw[bu (by rw[ce];lk)] at e1;cases e1
  have h2:k≠i:=λz=>by
   subst z;by_cases hl:k<S.length
   .rw[bq hl] at e2;cases e2;exact(bj n2)
   .rw[bu (by rw[ce];lk)] at e2;cases e2
  rw[bv<|cp h1] at e1 v1;rw[bv<|cp h2] at e2 v2;exact I.inj j k t t' d1 d2 u e1 e2 n1 n2 v1 v2
end
abbrev VG:=PyData->GS->Option GS
abbrev VGs:=List PyData->GS->Option GS
noncomputable def Mu (S:GS)(i:Nat):Bool:=match S[i]? with
 |some (some (.io,_))=>false
 |_=>true
def gN (i:Nat):VG:=λd S=>if Mu S i=true then some (S.set i<|some (.fr,d)) else none
noncomputable def g0:VGs:=λds S=>match ds with
 |[]=>some S
 |_=>none
noncomputable def gC (t:VG)(u:VGs):VGs:=λds S=>match ds with
 |d::r=>match t d S with
  |some S1=>u r S1
  |none=>none
 |[]=>none
noncomputable def gT (n:Nat)(u:VGs):VG:=λd S=>match d with
 |.tuple ds=>if ds.length=n then u ds S else none
 |_=>none
inductive Bw (K:Frag)(t:VG)(js:List Nat)(v:V)(σ:St)(H:Hp)(Q:(St->Hp->Prop)):Prop
 |mk:∀aL G ao S F,VI K aL G ao S F σ H->∀d S',Has K F d v->t d S=some S'->(∀aX,(∀(j:Nat),j∉js->aX[j]? =σ[j]?)->VI K aL G ao S' F aX H->Q aX H)->Bw K t js v σ H Q
inductive YW (K:Frag)(t:VGs)(js:List Nat)(vs:List V)(σ:St)(H:Hp)(Q:(St->Hp->Prop)):Prop
 |mk:∀aL G ao S F,VI K aL G ao S F σ H->∀ds S',aR K F ds vs->t ds S=some S'->(∀aX,(∀(j:Nat),j∉js->aX[j]? =σ[j]?)->VI K aL G ao S' F aX H->Q aX H)->YW K t js vs σ H Q
section
variable {pos:Pos}
def YX (h:PG X e (cH i)):PG X e (Bw X.K (gN i) [i]):=PG.imp h λv σ H Q q=>by
 let(aL,G,ao,S,F,I,d,S',hd,e,q):=q;unfold gN at e;split at e
 .cases e;exact q _ (λj hj=>bv<|λz=>hj<|by simp[z]) (I.set hd)
 .cases e
def wg.imp (h:wg X es t)(ht:∀v σ H Q,t' v σ H Q->t v σ H Q):wg X es t':=λaj s σ H v u Q I r q=>h aj s σ H v u Q I r<|ht v σ H Q q
def tg0:wg X [] (YW X.K g0 []):=wg.imp yd λvs σ H Q q=>by
 let(aL,G,ao,S,F,I,ds,S',hd,e,q):=q;unfold g0 at e;split at e
 .cases e;have Bb:=hd;rw[Bb];exact q σ (λ_ _=>rfl) I
 .cases e
set_option tactic.hygienic true in
def tgC (h1:PG X e (Bw X.K t js))(h2:wg X es (YW X.K u ks))(hs:(assignEach (e::es) X.env).map (·.2)=assign e X.env::(assignEach es X.env).map (·.2):=by rfl):wg X (e::es) (YW X.K (gC t u)<|js++ks):=wg.imp (jl h1 h2 hs) λvs σ H Q q=>by
 let(aL,G,ao,S,F,I,ds,S',hd,e,q):=q;unfold gC at e;split at e
 .rename_i d r;split at e
  .rename_i S1 q1;let(v,rr,rfl,hv,hr):=hd;refine(aL,G,ao,S,F,I,d,S1,hv,q1,λX8 k1 I1=>(aL,G,ao,S1,F,I1,r,S',hr,e,λiY k2 I2=>q iY (λj hj=>?_) I2));grind
  .cases e
 .cases e
set_option tactic.hygienic true in
def tgT (hc:X.calm=true)(h:wg X es (YW X.K u js))(hn:(assignEach es X.env).length=n:=by rfl)(bh:(assignEach es X.env).findIdx? (·.1)=none:=by rfl):PG X (.Tuple es k pos) (Bw X.K (gT n u) js):=PG.imp (Dh hc h hn bh) λv σ H Q q=>by
 let(aL,G,ao,S,F,I,d,S',hd,e,q):=q;unfold gT at e;split at e
 .rename_i ds;split at e
  .rename_i hl;let(a,xs,rfl,h1,h2):=hd;exact(xs,I.sub.vW h1,by rw[<-h2.length];exact hl,aL,G,ao,S,F,I,ds,S',h2,e,q)
  .cases e
 .cases e
end
noncomputable def yh (S:GS):Option Nat->Option (Tg×PyData)
 |none=>none
 |some j=>match S[j]? with
  |some (some (.fr,d))=>some (.fr,d)
  |some (some (.ow,d))=>some (.fr,d)
  |some (some (.io,d))=>some (.fr,d)
  |_=>none
noncomputable def pH (S:GS):List (Option Nat)->Bool
 |[]=>true
 |none::r=>pH S r
 |some j::r=>(match S[j]? with
  |some (some (.fr,_))=>true
  |some (some _)=>false
  |_=>true) && pH S r
def kJ (cap:List (Option Nat))(S:GS):GS:=cap.map<|yh S
noncomputable def vg (t:VG)(fc:VT)(fe:VE)(S:GS):List PyData->Option (List PyData)
 |[]=>some []
 |d::r=>match t d S with
  |none=>none
  |some S2=>match fc S2 with
   |none=>none
   |some false=>vg t fc fe S r
   |some true=>match fe S2 with
    |none=>none
    |some e=>match vg t fc fe S r with
     |none=>none
     |some es=>some (e::es)
def lZ (fi:VA)(cap:List (Option Nat))(t:VG)(fc:VT)(fe:VE):VE:=λS=>match fi S with
 |some ds=>@ite _ (pH S cap=true/\ds.length<sizeLine) (Classical.propDecidable _) (match vg t fc fe (kJ cap S) ds with
  |some es=>some<|.list es
  |none=>none) none
 |none=>none
def Ds (fi:VA)(cap:List (Option Nat))(t:VG)(fc:VT)(fe:VE):VE:=λS=>match fi S with
 |some ds=>@ite _ (ds.length<sizeLine) (Classical.propDecidable _) (match vg t fc (Mf fe) (kJ cap S) ds with
  |some es=>some<|.list es
  |none=>none) none
 |none=>none
set_option tactic.hygienic true in
def YZ {i:Nat}(h:(kJ cap S)[i]? =some (some (t,d))):∃j t',cap[i]? =some (some j)/\S[j]? =some (some (t',d))/\t'.dat=true/\t=.fr:=by
 unfold kJ at h;rw[av] at h;cases q:cap[i]? with
 |none=>rw[q] at h;cases h
 |some o=>
  rw[q] at h;cases o with
  |none=>simp[yh] at h
  |some j=>
   simp only[map_some,yh,dS] at h;split at h
   .rename_i d' hS;cases h;exact(j,.fr,rfl,hS,rfl,rfl)
   .rename_i d' hS;cases h;exact(j,.ow,rfl,hS,rfl,rfl)
   .rename_i d' hS;cases h;exact(j,.io,rfl,hS,rfl,rfl)
   .cases h
theorem GQ:∀{cap:List (Option Nat)}{i j:Nat} {t:Tg} {d:PyData},pH S cap=true->cap[i]? =some (some j)->S[j]? =some (some (t,d))->t=.fr
 |[],i,j,t,d,_,h,_=>by simp at h
 |none::r,0,j,t,d,_,h,_=>by simp at h
 |none::r,i+1,j,t,d,hc,h,hs=>GQ (cap:=r) (i:=i) hc (by simpa using h) hs
 |some k::r,0,j,t,d,hc,h,hs=>by
  have e:k=j:=by simpa using h
  subst e;unfold pH at hc;lk
 |some k::r,i+1,j,t,d,hc,h,hs=>by unfold pH at hc;rw[bS] at hc;exact GQ (cap:=r) (i:=i) hc.2 (by simpa using h) hs
def af8 {i j:Nat}(h:cap[i]? =some (some j))(hs:σ[j]? =some (some v)):(d8 cap σ)[i]? =some (some v):=by unfold d8;rw[av,h];simp only[map_some,hs]
section
variable {cap:List (Option Nat)}
def VI.block (I:VI K aL G ao S F σ H){R:Hp}(hR:Same R H)(hv:∀(i j:Nat) t d v,cap[i]? =some (some j)->S[j]? =some (some (t,d))->σ[j]? =some (some v)->t.dat=true->afZ K aL ao F H j t d v->Has K R d v):
  VI K (λ_=>none) R H (kJ cap S) R (d8 cap σ) H where
 pl:=λ_ _ _ e=>e
 len:=by unfold kJ d8;rw[af,af]
 same:=Same.refl _
 gf:=Same.refl _
 new:=λ_ _ e=>.inl e
 sub:=hR
 slot:=λi t d e=>by let(j,t',h1,h2,h3,rfl):=YZ e;let(v,hv1,hs):=I.slot j t' d h2;exact(v,af8 h1 hv1,hv i j t' d v h1 h2 hv1 h3 hs)
 inj:=λi j t t' d d' v e1 _ n1=>by let(_,_,_,_,_,rfl):=YZ e1;exact absurd n1 bj
def VI.aiz (I:VI K aL G ao S F σ H)(hc:pH S cap=true):VI K (λ_=>none) F H (kJ cap S) F (d8 cap σ) H:=
 I.block I.sub λi j t d v h1 h2 _ _ hs=>by have:=GQ hc h1 h2;subst this;exact hs
def VI.af9 (I:VI K aL G ao S F σ H):VI K (λ_=>none) H H (kJ cap S) H (d8 cap σ) H:=
 I.block (Same.refl _) λi j t d v h1 h2 _ hd hs=>by
  have own:iT K ao F H d v->Has K H d v:=λ⟨a,ds,xs,e1,e2,e3,_,_,e6⟩=>by rw[e1];exact(a,xs,e2,aZ.of e3,e6.same I.sub)
  cases t with
  |fr=>exact Has.same I.sub hs
  |ow=>exact own hs
  |io=>exact own hs.1
end
def ama {js:List Nat}(GR:(js.all λj=>cap[j]? ==some none)=true)(k:∀(j:Nat),j∉js->aX[j]? =(d8 cap σ)[j]?):iR (d8 cap σ) aX:=λj v e=>by
 by_cases hj:j∈js
 .have:=fE.mp GR j hj;have hc:cap[j]? =some none:=by simpa using this
  unfold d8 at e;rw[av,hc] at e;simp at e
 .rw[k j hj];exact e
def akR (GR:(js.all λj=>cap[j]? ==some none)=true)
  (I:VI K aL G ao S F σ H)(e1:fi S=some ds)(cZ:ds.length<sizeLine)(e2:vg t fc fe (kJ cap S) ds=some es)
  (Rf:Hp->Hp->Hp)(hb:∀F' H',cg F H F' H'->VI K (λ_=>none) (Rf F' H') H' (kJ cap S) (Rf F' H') (d8 cap σ) H'/\Same F' (Rf F' H'))
  (hr:∀(F' H' F2 H2:Hp) S2 d v,fe S2=some d->Same F' H'->cg (Rf F' H') H' F2 H2->Has K F2 d v->∃F3,cg F' H' F3 H2/\Has K F3 d v)(hfe:∀S d,fe S=some d->fe' S=some d)
  (q:∀v F' H',cg F H F' H'->RN K F H F' H' (.list es) v->Q v H'):zf (zq K fi) cap (Bw K t js) (kE K fc) (tV K RS fe') σ H Q:=by
 refine⟨aL,G,ao,S,F,I,ds,e1,λJ F1 H1 g1 it D hD=>?_⟩;refine⟨λi m H'=>∃F' es1 es2 ys,m=ds.length - i/\i<=ds.length/\H' D=some (.lst ys)/\F' D=none/\aR K F' es1 ys/\cg F1 H1 F' H'/\es1.length<=i/\vg t fc fe (kJ cap S) (ds.drop i)=some es2/\es1++es2=es,?_,?_⟩
 .exact⟨_,F1,[],es,[],rfl,dE _,au,g1.fh.free hD,rfl,cg.alloc g1.fh hD,dE _,e2,rfl⟩
 .rintro i m H' ⟨F',es1,es2,ys,rfl,hi,YH,hFD,hh,g,Km,qg,adX⟩;by_cases dZ:i<ds.length
  .have hd:ds[i]? =some ds[i]:=by simp[dZ]
   rw[fg dZ] at qg;let(go,yl):=it.go i ds[i] F' H' hd g.ff g.fh;refine .inr ⟨go,λx H2 y=>?_⟩;let(F2,g2,hx):=yl x H2 y;let(IB,hR):=hb F2 H2<|(g1.trans g).trans g2;have Y0:=hr F2 H2;generalize Rf F2 H2=R at*
   generalize ds[i]=d0 at*
   unfold vg at qg;cases q1:t d0 (kJ cap S) with
   |none=>rw[q1] at qg;cases qg
   |some S2=>
    rw[q1] at qg;simp only at qg;refine⟨λ_=>none,R,H2,kJ cap S,R,IB,d0,S2,Has.same hR hx,q1,λiY k2 I2=>⟨ama GR k2,?_⟩⟩;have D2:=g2.hh _ _ YH;cases q2:fc S2 with
    |none=>rw[q2] at qg;cases qg
    |some b=>
     rw[q2] at qg;refine⟨λ_=>none,R,H2,S2,R,I2,b,q2,λF3 H3 g3=>?_⟩;cases b with
     |false=>
      simp only[fI,eI];have gg:cg F' H' F2 H3:=⟨g2.hh.trans g3.hh,g2.ff,hR.trans<|g3.ff.trans g3.fh,g2.new,g2.pl⟩;have hF2:F2 D=none:=by
       cases z:F2 D with
       |none=>rfl
       |some o=>
        rcases g2.new D o z with w|w|w
        .rw[hFD] at w;cases w
        .rw[YH] at w;cases w
        .have:=g2.fh D o z;rw[D2] at this;cases this;simp[zp] at w
      exact⟨ds.length - (i+1),by lk,F2,es1,es2,ys,rfl,dZ,g3.hh _ _ D2,hF2,hh.same g2.ff,g.trans gg,by lk,qg,adX⟩
     |true=>
      simp only[fA] at qg ⊢;cases q3:fe S2 with
      |none=>rw[q3] at qg;cases qg
      |some e0=>
       rw[q3] at qg;simp only at qg;cases q4:vg t fc fe (kJ cap S) (ds.drop<|i+1) with
       |none=>rw[q4] at qg;cases qg
       |some Y4=>
        rw[q4] at qg;cases qg;refine⟨λ_=>none,R,H2,S2,F3,I2.grow g3,e0,hfe _ _ q3,λv F4 H4 g4 hv=>?_⟩;let(F5,g5,hv5):=Y0 F4 H4 S2 e0 v q3 g2.fh (g3.trans g4) hv;have D4:=g5.hh _ _ D2;have g25:=g2.trans g5;have hF5:F5 D=none:=by
         cases z:F5 D with
         |none=>rfl
         |some o=>
          rcases g25.new D o z with w|w|w
          .rw[hFD] at w;cases w
          .rw[YH] at w;cases w
          .have:=g25.fh D o z;rw[D4] at this;cases this;simp[zp] at w
        have hly:=hh.length;refine⟨ys,D4,by lk,ds.length - (i+1),by lk,F5,es1++[e0],Y4,ys++[v],rfl,dZ,au,hF5,aR.snoc hv5<|hh.same g25.ff,?_,by simp;lk,rfl,by simpa using adX⟩;have g15:=g.trans g25;refine⟨λb o e=>?_,g15.ff,λb o e=>?_,g15.new,g15.pl⟩
        .rw[aJ<|bF e hD];exact g15.hh b o e
        .rw[aJ<|bF e hF5];exact g15.fh b o e
  .have hie:i=ds.length:=by lk
   subst hie;rw[mI<|ax _] at qg;cases qg;rw[df] at adX;subst adX;refine .inl ⟨it.stop _ F' H' (ax _) g.ff g.fh,q _ F' H' (g1.trans g) ⟨_,D,ys,rfl,rfl,g1.hh.free hD,hFD,YH,hh⟩⟩
set_option tactic.hygienic true in
def aol (GR:(js.all λj=>cap[j]? ==some none)=true)(q:tV K RN (lZ fi cap t fc fe) σ H Q):
  zf (zq K fi) cap (Bw K t js) (kE K fc) (tV K RS fe) σ H Q:=by
 let(aL,G,ao,S,F,I,d,e,q):=q;unfold lZ at e;split at e
 .rename_i ds e1;split at e
  .rename_i hc;split at e
   .rename_i es e2;cases e;exact akR GR I e1 hc.2 e2 (λF' _=>F') (λF' H' g=>⟨(I.grow g).aiz hc.1,Same.refl _⟩) (λF' H' F2 H2 S2 d v _ _ g2 hv=>⟨F2,g2,hv⟩) (λ_ _ h=>h) q
   .cases e
  .cases e
 .cases e
set_option tactic.hygienic true in
def ari (GR:(js.all λj=>cap[j]? ==some none)=true)(q:tV K RN (Ds fi cap t fc fe) σ H Q):
  zf (zq K fi) cap (Bw K t js) (kE K fc) (tV K RS fe) σ H Q:=by
 let(aL,G,ao,S,F,I,d,e,q):=q;unfold Ds at e;split at e
 .rename_i ds e1;split at e
  .rename_i hc;split at e
   .rename_i es e2;cases e;refine akR GR I e1 hc e2 (λ_ H'=>H') (λF' H' g=>⟨(I.grow g).af9,g.fh⟩) (λF' H' F2 H2 S2 d v he fh g2 hv=>?_) (λ_ _ h=>(Uk h).1) q;exact⟨wide F' H2,Uj ⟨g2.hh,Same.refl _,fh.trans g2.hh,λ_ _ e=>.inl e,λ_ _ _ e=>e⟩,Ma (Uk he).2<|Has.same g2.fh hv⟩
   .cases e
  .cases e
 .cases e
noncomputable def jf:VT:=λ_=>some true
def rO.imp (h:rO X rP t)(ht:∀σ H Q,t' σ H Q->t σ H Q):rO X rP t':=λaj s σ H Q I q=>h aj s σ H Q I<|ht σ H Q q
def ifN:rO X [] (kE X.K jf):=rO.imp Bo λ_ H Q q=>by let(aL,G,ao,S,F,I,b,e,q):=q;cases e;exact q F H<|cg.refl I.sub
def dLC (he:PE X e (zf (zq X.K fi) cap (Bw X.K t js) (kE X.K fc)<|tV X.K RS fe))(GR:(js.all λj=>cap[j]? ==some none)=true:=by rfl):PE X e (tV X.K RN<|lZ fi cap t fc fe):=
 he.imp λ_ _ _ q=>aol GR q
def aon (he:PE X e (zf (zq X.K fi) cap (Bw X.K t js) (kE X.K fc)<|tV X.K RS fe))(GR:(js.all λj=>cap[j]? ==some none)=true:=by rfl):PE X e (tV X.K RN<|Ds fi cap t fc fe):=
 he.imp λ_ _ _ q=>ari GR q
inductive Out where
 |fail
 |nxt (S:GS)
 |ret (S:GS) (b:Bool) (d:PyData)
 |brk (S:GS)
 |cnt (S:GS)
abbrev VS:=GS->Out
def RR (K:Frag)(ao:Hp)(S:GS)(σ:St)(F H:Hp):Bool->PyData->V->Prop
 |false,d,v=>Has K F d v
 |true,d,v=>iT K ao F H d v/\∀(i:Nat) t d',S[i]? =some (some (t,d'))->t.own=true->σ[i]? ≠some (some v)
def d9 (K:Frag)(aL:Nat->Option Addr)(G ao:Hp)(D:Ends):Out->Prop
 |.fail=>False
 |.nxt S=>∀F σ H,VI K aL G ao S F σ H->D.nx σ H
 |.brk S=>∀F σ H,VI K aL G ao S F σ H->D.bk σ H
 |.cnt S=>∀F σ H,VI K aL G ao S F σ H->D.ct σ H
 |.ret S b d=>∀v F σ H,VI K aL G ao S F σ H->RR K ao S σ F H b d v->D.rt v H
inductive jz (K:Frag)(g:VS)(D:Ends)(σ:St)(H:Hp):Prop
 |mk:∀aL G ao S F,VI K aL G ao S F σ H->d9 K aL G ao D (g S)->jz K g D σ H
section
variable {D:Ends}
def VI.self (I:VI K aL G ao S F σ H):VI K aL F ao S F σ H:=(I.len,I.same,Same.refl _,λ_ _ e=>.inl e,I.sub,I.slot,I.inj,λ_ _ _ e=>e)
def VI.rebase (I:VI K aL G ao S F σ H)(J:VI K aL F ao S' F' aX H'):VI K aL G ao S' F' aX H':=(J.len,J.same,I.gf.trans J.gf,λa o e=>by
 rcases J.new a o e with z|z|z
 .exact I.new a o z
 .exact .inr<|.inl z
 .exact .inr (.inr z),J.sub,J.slot,J.inj,λa o u e=>I.pl a o u (J.pl a o u e))
end
noncomputable def cC:VS:=λS=>.nxt S
noncomputable def aD (g1 g2:VS):VS:=λS=>match g1 S with
 |.nxt S1=>g2 S1
 |o=>o
noncomputable def dJ (c:VT)(g1 g2:VS):VS:=λS=>match c S with
 |some true=>g1 S
 |some false=>g2 S
 |none=>.fail
section
variable {rest a b:List Stmt}
def aiA:kj X [] (jz X.K cC):=kj.imp cT λD σ H q=>by let(aL,G,ao,S,F,I,q):=q;exact q F σ H I
def Dt (h:PS X s (jz X.K g)):kj X [s] (jz X.K g):=bf h
def Al (h1:PS X s (jz X.K g1))(h2:kj X rest (jz X.K g2)):kj X (s::rest) (jz X.K<|aD g1 g2):=kj.imp (aK h1 h2) λD σ H q=>by
 let(aL,G,ao,S,F,I,q):=q;refine(aL,G,ao,S,F,I,?_);unfold aD at q;cases e:g1 S with
 |fail=>rw[e] at q;exact q
 |brk S1=>rw[e] at q;exact q
 |cnt S1=>rw[e] at q;exact q
 |ret S1 b d=>rw[e] at q;exact q
 |nxt S1=>rw[e] at q;exact λF' aX H' I'=>(aL,G,ao,S1,F',I',q)
def sIf (hc:PT X c (kE X.K tc))(ha:kj X a (jz X.K g1))(hb:kj X b (jz X.K g2)):PS X (.If c a b pos) (jz X.K<|dJ tc g1 g2):=PS.imp (fW hc ha hb) λD σ H q=>by
 let(aL,G,ao,S,F,I,q):=q;unfold dJ at q;cases e:tc S with
 |none=>rw[e] at q;exact q.elim
 |some k=>
  rw[e] at q;refine(aL,G,ao,S,F,I,k,e,λF' H' g=>?_);cases k with
  |true=>simp only[fA];exact(aL,G,ao,S,F',I.grow g,q)
  |false=>simp only[fI,eI];exact(aL,G,ao,S,F',I.grow g,q)
noncomputable def Du:VS:=λ_=>.fail
def aoo:PS X s (jz X.K Du):=PS.imp oF λD σ H q=>by let(_,_,_,_,_,_,q):=q;exact q
end
noncomputable def cN (f:VE):VS:=λS=>match f S with
 |some d=>.ret S false d
 |none=>.fail
noncomputable def rW (f:VE):VS:=λS=>match f S with
 |some d=>.ret S true d
 |none=>.fail
noncomputable def fX (i:Nat):VS:=λS=>match S[i]? with
 |some (some (.ow,d))=>.ret (S.set i none) true d
 |some (some (.fr,d))=>.ret S false d
 |_=>.fail
section
variable {σ:St}
def rY {S:GS}(h:(S.set i none)[j]? =some (some x)):j≠i/\S[j]? =some (some x):=by
 by_cases hj:j=i
 .subst hj;by_cases hl:j<S.length
  .rw[bq hl] at h;cases h
  .rw[bu (by rw[ce];lk)] at h;cases h
 .rw[bv<|cp hj] at h;exact⟨hj,h⟩
def VI.drop (I:VI K aL G ao S F σ H)(i:Nat):VI K aL G ao (S.set i none) F σ H where
 pl:=I.pl
 len:=by rw[ce];exact I.len
 same:=I.same
 gf:=I.gf
 new:=I.new
 sub:=I.sub
 slot:=λj t d e=>I.slot j t d (rY e).2
 inj:=λj k t t' d d' v e1 e2=>I.inj j k t t' d d' v (rY e1).2 (rY e2).2
def Ur (I:VI K aL G ao S F σ H){i:Nat}(e:S[i]? =some (some (t,d)))(ht:t.own=true)(hv:σ[i]? =some (some<|.ref a)):∃xs,H a=some xs:=by
 let(v,jF,hs):=I.slot i t d e;rw[hv] at jF;cases jF;cases t with
 |fr=>cases ht
 |ow=>let(a',ds,xs,_,e2,e3,_):=hs;cases e2;exact⟨_,e3⟩
 |io=>let(a',ds,xs,_,e2,e3,_):=hs.1;cases e2;exact⟨_,e3⟩
theorem RN.own {d:PyData}{v:V}(I:VI K aL G ao S F σ H)(r:RN K F H F' H' d v):iT K ao F' H' d v/\∀(i:Nat) t d',S[i]? =some (some (t,d'))->t.own=true->σ[i]? ≠some (some v):=by let(ds,a,xs,h1,h2,h3,h4,h5,h6):=r;refine⟨⟨a,ds,xs,h1,h2,h5,h4,I.same.free h3,h6⟩,λi t d' e ht hv=>?_⟩;rw[h2] at hv;let(ys,hy):=Ur I e ht hv;lk
end
section
variable {s:Stmt}
def avd (he:PE X e (tV X.K RS f)):PS X (.Return (some e) pos) (jz X.K<|cN f):=PS.imp (cU he) λD σ H q=>by
 let(aL,G,ao,S,F,I,q):=q;unfold cN at q;cases e:f S with
 |none=>rw[e] at q;exact q.elim
 |some d=>rw[e] at q;exact(aL,G,ao,S,F,I,d,e,λv F' H' g hv=>q v F' σ H' (I.grow g) hv)
def arj (he:PE X e (tV X.K RN f)):PS X (.Return (some e) pos) (jz X.K<|rW f):=PS.imp (cU he) λD σ H q=>by
 let(aL,G,ao,S,F,I,q):=q;unfold rW at q;cases e:f S with
 |none=>rw[e] at q;exact q.elim
 |some d=>rw[e] at q;exact(aL,G,ao,S,F,I,d,e,λv F' H' g hv=>q v F' σ H' (I.grow g)<|RN.own I hv)
set_option tactic.hygienic true in
def Wu {i:Nat}(he:PE X e (vR i)):PS X (.Return (some e) pos) (jz X.K<|fX i):=PS.imp (cU he) λD σ H q=>by
 let(aL,G,ao,S,F,I,q):=q;unfold fX at q;split at q
 .rename_i d hS;let(v,hv,hs):=I.slot i .ow d hS;show vR i σ H D.rt;unfold vR;rw[hv];refine q v F σ H (I.drop i) ⟨hs,λj t d' e ht jF=>?_⟩;let(hj,e):=rY e;exact hj<|I.inj j i t .ow d' d v e hS ht rfl jF hv
 .rename_i d hS;let(v,hv,hs):=I.slot i .fr d hS;show vR i σ H D.rt;unfold vR;rw[hv];exact q v F σ H I hs
 .exact q.elim
noncomputable def gEx (f:VE):VS:=λS=>match f S with
 |some _=>.nxt S
 |none=>.fail
noncomputable def bN (f:VE)(t:VG):VS:=λS=>match f S with
 |some d=>match t d S with
  |some S'=>.nxt S'
  |none=>.fail
 |none=>.fail
def sAs (h:PS X s (fG (tV X.K RS f)<|Bw X.K t js)):PS X s (jz X.K<|bN f t):=PS.imp h λD σ H q=>by
 let(aL,G,ao,S,F,I,q):=q;unfold bN at q;cases e:f S with
 |none=>rw[e] at q;exact q.elim
 |some d=>
  rw[e] at q;simp only at q;cases e2:t d S with
  |none=>rw[e2] at q;exact q.elim
  |some S'=>rw[e2] at q;exact(aL,G,ao,S,F,I,d,e,λv F' H' g hv=>(aL,G,ao,S,F',I.grow g,d,S',hv,e2,λaX _ I'=>q F' aX H' I'))
noncomputable def pX (i:Nat)(f:VE):VS:=λS=>match f S with
 |some d=>if Mu S i=true then .nxt (S.set i<|some (.ow,d)) else .fail
 |none=>.fail
def VI.aop (I:VI K aL G ao S F σ H)(ho:iT K ao F H d v)(hn:∀(i:Nat) t d',S[i]? =some (some (t,d'))->t.own=true->σ[i]? ≠some (some v)):
  VI K aL G ao (S.set i<|some (.ow,d)) F (σ.set i<|some v) H where
 pl:=I.pl
 len:=by rw[ce,ce];exact I.len
 same:=I.same
 gf:=I.gf
 new:=I.new
 sub:=I.sub
 slot:=λj t d' e=>by
  by_cases hj:j=i
  .subst hj;by_cases hl:j<S.length
   .rw[bq hl] at e;cases e;exact(v,bq (by rw[<-I.len];exact hl),ho)
   .rw[bu (by rw[ce];lk)] at e;cases e
  .rw[bv<|cp hj] at e ⊢;exact I.slot j t d' e
 inj:=λj k t t' d1 d2 u e1 e2 n1 n2 v1 v2=>by
  have aoq:∀{j:Nat}{t:Tg} {d1:PyData} {u:V},(S.set i<|some (.ow,d))[j]? =some (some (t,d1))->(σ.set i<|some v)[j]? =some (some u)->j=i->u=v:=λ{j t d1 u} e1 v1 z=>by
   subst z;by_cases hl:j<S.length
   .rw[bq (by rw[<-I.len];exact hl)] at v1;exact(be<|be v1).symm
   .rw[bu (by rw[ce];lk)] at e1;cases e1
  by_cases hj:j=i
  .by_cases hk:k=i
   .rw[hj,hk]
   .have:=aoq e1 v1 hj;subst this;rw[bv<|cp hk] at e2 v2;exact absurd v2<|hn k t' d2 e2 n2
  .by_cases hk:k=i
   .have:=aoq e2 v2 hk;subst this;rw[bv<|cp hj] at e1 v1;exact absurd v1<|hn j t d1 e1 n1
   .rw[bv<|cp hj] at e1 v1;rw[bv<|cp hk] at e2 v2;exact I.inj j k t t' d1 d2 u e1 e2 n1 n2 v1 v2
def sOw (h:PS X s (fG (tV X.K RN f)<|cH i)):PS X s (jz X.K<|pX i f):=PS.imp h λD σ H q=>by
 let(aL,G,ao,S,F,I,q):=q;unfold pX at q;cases e:f S with
 |none=>rw[e] at q;exact q.elim
 |some d=>
  rw[e] at q;simp only at q;split at q
  .refine(aL,G,ao,S,F,I,d,e,λv F' H' g hv=>?_);let(h1,h2):=RN.own I hv;exact q F' _ H'<|(I.grow g).aop h1 h2
  .exact q.elim
def aiB (h:PS X s (fG te g))(hi:∀σ H Q,te' σ H Q->te σ H Q):PS X s (fG te' g):=PS.imp h λD σ H q=>hi σ H _ q
noncomputable def jZ (i:Nat)(S:GS):GS:=match S[i]? with
 |some (some (.ow,d))=>S.set i<|some (.fr,d)
 |_=>S
noncomputable def Ko (i:Nat)(g:VS):VS:=λS=>g<|jZ i S
set_option tactic.hygienic true in
theorem VI.jZ (I:VI K aL G ao S F σ H)(i:Nat):∃F',VI K aL G ao (jZ i S) F' σ H:=by
 unfold VM.jZ;split
 .rename_i d hS;let(v,hv,a,ds,xs,rfl,rfl,e3,e4,e5,e6):=I.slot i .ow d hS;have hl:i<S.length:=by
   by_cases h:i<S.length
   .exact h
   .rw[bu ∅] at hS;cases hS
  have s1:Same F (upd F a<|.lst xs):=aH e4;have s2:Same (upd F a<|.lst xs) H:=λb o e=>by
   by_cases hb:b=a
   .subst hb;rw[au] at e;cases e;exact e3
   .rw[aJ hb] at e;exact I.sub b o e
  refine⟨upd F a (.lst xs),⟨by rw[ce];exact I.len,I.same,I.gf.trans s1,λb o e=>?_,s2,λj t d' e=>?_,λj k t t' d1 d2 u g1 g2 n1 n2 v1 v2=>?_,λb x u e=>by
   by_cases hb:b=a
   .subst hb;rw[au] at e;cases e
   .rw[aJ hb] at e;exact I.pl b x u e⟩⟩
  .by_cases hb:b=a
   .subst hb;exact .inr<|.inl e5
   .rw[aJ hb] at e;exact I.new b o e
  .by_cases hj:j=i
   .subst hj;rw[bq hl] at e;cases e;exact⟨_,hv,a,xs,rfl,aZ.of au,e6.same s1⟩
   .rw[bv<|cp hj] at e;let(u,hu,hs):=I.slot j t d' e;have ow:t.own=true->iT K ao F H d' u->iT K ao (upd F a<|.lst xs) H d' u:=λht ⟨b,Bu,ys,h1,h2,h3,h4,h5,h6⟩=>by
     refine⟨b,Bu,ys,h1,h2,h3,?_,h5,h6.same s1⟩
     have:b≠a:=λz=>by subst z;exact hj<|I.inj j i t .ow d' _ _ e hS ht rfl hu (by rw[h2];exact hv)
     rw[aJ this];exact h4
    refine⟨u,hu,?_⟩;cases t with
    |fr=>exact Has.same s1 hs
    |ow=>exact ow rfl hs
    |io=>exact⟨ow rfl hs.1,hs.2⟩
  .have nj:∀{j:Nat}{t:Tg} {d1:PyData},(S.set i<|some (.fr,.list ds))[j]? =some (some (t,d1))->t.own=true->S[j]? =some (some (t,d1)):=λ{j t d1} g1 n1=>by
    by_cases hj:j=i
    .subst hj;rw[bq hl] at g1;cases g1;exact absurd n1 bj
    .rw[bv<|cp hj] at g1;exact g1
   exact I.inj j k t t' d1 d2 u (nj g1 n1) (nj g2 n2) n1 n2 v1 v2
 .exact⟨F,I⟩
def sFz (h:PS X s (jz X.K g)):PS X s (jz X.K<|Ko i g):=PS.imp h λD σ H q=>by let(aL,G,ao,S,F,I,q):=q;let(F',I'):=I.jZ i;exact(aL,G,ao,_,F',I',q)
end
section
variable {σ:St}
noncomputable def kO (S:GS)(i:Nat):Option (Tg×List PyData):=match S[i]? with
 |some (some (.ow,.list ds))=>some (.ow,ds)
 |some (some (.io,.list ds))=>some (.io,ds)
 |_=>none
def Us (h:kO S i=some (t,ds)):S[i]? =some (some (t,.list ds))/\t.own=true:=by
 unfold kO at h;split at h
 .cases h;exact⟨by assumption,rfl⟩
 .cases h;exact⟨by assumption,rfl⟩
 .cases h
def Y5 (h:kO S i=some (t,ds)):t=.ow\/t=.io:=by unfold kO at h;lk
theorem VI.own (I:VI K aL G ao S F σ H)(h:kO S i=some (t,ds)):∃a xs,σ[i]? =some (some<|.ref a)/\H a=some (.lst xs)/\aR K F ds xs/\
  ∀(Bu:List PyData) (tO:List V) (F' H':Hp),cg F H F' H'->aR K F' Bu tO->VI K aL G ao (S.set i<|some (t,.list Bu)) F' σ (upd H' a<|.lst tO):=by
 let(hS,ht):=Us h;let(v,hv,hs):=I.slot i t _ hS;have ho:iT K ao F H (.list ds) v:=by
  rcases Y5 h with rfl|rfl
  .exact hs
  .exact hs.1
 let(a,ds0,xs,e1,rfl,e3,e4,e5,e6):=ho;cases e1;have hl:i<S.length:=by grind
 refine⟨a,xs,hv,e3,e6,λBu tO F' H' g hx=>?_⟩;have J:=I.grow g;have hF':F' a=none:=by
  cases q:F' a with
  |none=>rfl
  |some o=>
   rcases g.new a o q with z|z|z
   .omega
   .omega
   .have:=g.fh a o q;rw[g.hh _ _ e3] at this;cases this;simp[zp] at z
 refine⟨by rw[ce];exact I.len,λb o e=>?_,J.gf,J.new,λb o e=>?_,λj t' d' e=>?_,λj k t1 t2 d1 d2 u g1 g2 n1 n2 v1 v2=>?_,J.pl⟩
 .rw[aJ<|bF e e5];exact J.same b o e
 .rw[aJ<|bF e hF'];exact J.sub b o e
 .by_cases hj:j=i
  .subst hj;rw[bq hl] at e;cases e;refine⟨_,hv,?_⟩;have o:iT K ao F' (upd H' a<|.lst tO) (.list Bu) (.ref a):=⟨a,Bu,tO,rfl,rfl,au,hF',e5,hx⟩;rcases Y5 h with rfl|rfl
   .exact o
   .exact⟨o,hs.2⟩
  .rw[bv<|cp hj] at e;let(u,hu,wF):=J.slot j t' d' e;have ow:t'.own=true->iT K ao F' H' d' u->iT K ao F' (upd H' a<|.lst tO) d' u:=λGX ⟨b,ds1,ys,h1,h2,h3,h4,h5,h6⟩=>by
    refine⟨b,ds1,ys,h1,h2,?_,h4,h5,h6⟩
    have:b≠a:=λz=>by subst z;exact hj<|I.inj j i t' t d' _ _ e hS GX ht hu (by rw[h2];exact hv)
    rw[aJ this];exact h3
   refine⟨u,hu,?_⟩;cases t' with
   |fr=>exact wF
   |ow=>exact ow rfl wF
   |io=>exact⟨ow rfl wF.1,wF.2⟩
 .have nj:∀{j:Nat}{t1:Tg} {d1:PyData},(S.set i<|some (t,.list Bu))[j]? =some (some (t1,d1))->t1.own=true->∃d2,S[j]? =some (some (t1,d2)):=λ{j t1 d1} g1 n1=>by grind
  let(d3,q1):=nj g1 n1;let(d4,q2):=nj g2 n2;exact I.inj j k t1 t2 d3 d4 u q1 q2 n1 n2 v1 v2
end
def gH (i:Nat)(fs:VA):VS:=λS=>match kO S i,fs S with
 |some (t,ds),some [d]=>@ite _ (ds.length<sizeLine) (Classical.propDecidable _) (.nxt<|S.set i<|some (t,.list<|ds++[d])) .fail
 |_,_=>.fail
def oO (i:Nat)(fk f:VE):VS:=λS=>match f S,fk S,kO S i with
 |some d,some (.int k),some (t,ds)=>(match rN ds.length k with
  |some j=>.nxt<|S.set i<|some (t,.list<|ds.set j d)
  |none=>.fail)
 |_,_,_=>.fail
def pI (h:PyData->PyData->Option PyData)(i:Nat)(fk f:VE):VS:=λS=>match kO S i,fk S,f S with
 |some (t,ds),some (.int k),some y=>(match rN ds.length k with
  |some j=>(match ds[j]? with
   |some x=>(match h x y with
    |some z=>.nxt<|S.set i<|some (t,.list<|ds.set j z)
    |none=>.fail)
   |none=>.fail)
  |none=>.fail)
 |_,_,_=>.fail
noncomputable def rZ (h:PyData->PyData->Option PyData)(i:Nat)(f:VE):VS:=λS=>match S[i]?,f S with
 |some (some (.fr,x)),some y=>(match h x y with
  |some z=>.nxt<|S.set i<|some (.fr,z)
  |none=>.fail)
 |_,_=>.fail
section
variable {h:PyData->PyData->Option PyData}
set_option tactic.hygienic true in
def aor (hp:PS X s (gk<|FP X.K "list" Js (vR i)<|Gb X.K fs)):PS X s (jz X.K<|gH i fs):=PS.imp hp λD σ H q=>by
 let(aL,G,ao,S,F,I,q):=q;unfold gH at q;split at q
 .rename_i t ds d q1 q2;split at q
  .rename_i hz;let(a,xs,hv,hH,hx,nx):=I.own q1;unfold gk FP vR;simp only[hv];refine(.inl (rfl,xs,aZ.of hH),aL,G,ao,S,F,I,[d],q2,λvs F' H' g hvs=>?_);let(v,rfl,hv2):=aR.one hvs;refine(xs,g.hh _ _ hH,by rw[<-hx.length];exact hz,q F' σ _<|nx _ _ F' H' g<|aR.snoc hv2<|hx.same g.ff)
  .exact q.elim
 .exact q.elim
set_option tactic.hygienic true in
def aot (hp:PS X s (fG (tV X.K RS f)<|Ln (vR i) (tV X.K RW fk) Jr)):PS X s (jz X.K<|oO i fk f):=PS.imp hp λD σ H q=>by
 let(aL,G,ao,S,F,I,q):=q;unfold oO at q;split at q
 .rename_i d k t ds q1 q2 q3;split at q
  .rename_i j q4;refine(aL,G,ao,S,F,I,d,q1,λv F1 H1 g1 hv=>?_);let(a,xs,jF,hH,hx,nx):=(I.grow g1).own q3;show vR i σ H1 _;unfold vR;rw[jF];refine(aL,G,ao,S,F1,I.grow g1,_,q2,λu F2 H2 g2 hu=>?_);have eu:=hu;subst eu;refine(xs,j,g2.hh _ _ hH,by rw[<-hx.length];exact q4,q F2 σ _<|nx _ _ F2 H2 g2<|aR.set (Has.same g2.ff hv) j<|hx.same g2.ff)
  .exact q.elim
 .exact q.elim
def getL:anj X (ah6 X.K):=by
 fin2;let(p,xs,i,z,rfl,rfl,hq,he,q):=h;cases rx;let(t,rfl):=ry;let(aW,r,pl,hz):=I.list hq;let(j,h1,h2,h3,h4,h5):=Bk he;let(w,ew,Bm):=r.get h2;have hl:=r.length;have hn:=uZ;have fin:EP X aj σ Q w s:=(z,H,I,Bm,q);by_cases h0:0<=i
 .have hj:i.toNat=j:=by rw[l8 h0 h5] at h1;exact be h1
  exact wpAny_getItem_list pl.isList h0 ∅ (by rw[hj];simpa using ew) fin
 .have hj:(i+(aW.toArray.size)).toNat=j:=by rw[lh ∅ h4] at h1;rw[bm,←hl];exact be h1
  exact ph pl.isList ∅ (by rw[bm]<;>lk) ∅ (by rw[hj];simpa using ew) fin
set_option tactic.hygienic true in
def Wv (hd:jN X.K h r)(hp:PS X s (akk (vR i) (tV X.K RW fk) (tV X.K RS f) (ah6 X.K) r Jr)):PS X s (jz X.K<|pI h i fk f):=PS.imp hp λD σ H q=>by
 let(aL,G,ao,S,F,I,q):=q;unfold pI at q;split at q
 .rename_i t ds k y q1 q2 q3;split at q
  .rename_i j q4;split at q
   .rename_i x q5;split at q
    .rename_i z q6;let(a,xs,jF,hH,hx,nx):=I.own q1;show vR i σ H _;unfold vR;rw[jF];refine(aL,G,ao,S,F,I,_,q2,λu F1 H1 g1 hu=>?_);have eu:=hu;subst eu;let(w,hw1,YM):=hx.at q5;have q4':rN xs.length k=some j:=by rw[<-hx.length];exact q4
     refine(a,xs,k,w,rfl,rfl,aZ.of (g1.hh _ _ hH),by unfold dI;rw[q4'];exact hw1,?_);refine(aL,G,ao,S,F1,I.grow g1,y,q3,λv F2 H2 g2 hv=>?_);have g:=g1.trans g2;refine hd H2 w v x y z _ q6 (Has.same g2.fh<|Has.same g.ff YM) (Has.same g2.fh hv) λv2 hv2=>?_;exact(xs,j,g.hh _ _ hH,q4',q F2 σ _<|nx _ _ F2 H2 g<|aR.set (hv2 F2) j<|hx.same g.ff)
    .exact q.elim
   .exact q.elim
  .exact q.elim
 .exact q.elim
set_option tactic.hygienic true in
def aov (hd:jN X.K h r)(hp:PS X s (Wo i (tV X.K RS f) r)):PS X s (jz X.K<|rZ h i f):=PS.imp hp λD σ H q=>by
 let(aL,G,ao,S,F,I,q):=q;unfold rZ at q;split at q
 .rename_i x y q1 q2;split at q
  .rename_i z q3;let(v,hv,hs):=I.slot i .fr x q1;unfold Wo;rw[hv];refine(aL,G,ao,S,F,I,y,q2,λu F1 H1 g1 hu=>?_);refine hd H1 v u x y z _ q3 (Has.same g1.fh<|Has.same g1.ff hs) (Has.same g1.fh hu) λw hw=>?_;exact q F1 _ H1<|(I.grow g1).set (hw F1)
  .exact q.elim
 .exact q.elim
end
noncomputable def eE (t:VG)(g:VS):List PyData->GS->Out
 |[],S=>.nxt S
 |d::r,S=>match t d S with
  |none=>.fail
  |some S1=>match g S1 with
   |.nxt S2=>eE t g r S2
   |.cnt S2=>eE t g r S2
   |.brk S2=>.nxt S2
   |.ret S2 b e=>.ret S2 b e
   |.fail=>.fail
def jA (fi:VA)(t:VG)(g:VS):VS:=λS=>match fi S with
 |some ds=>eE t g ds S
 |none=>.fail
noncomputable def cD (c:VT)(g:VS):Nat->GS->Out
 |0,_=>.fail
 |n+1,S=>match c S with
  |none=>.fail
  |some false=>.nxt S
  |some true=>match g S with
   |.nxt S2=>cD c g n S2
   |.cnt S2=>cD c g n S2
   |.brk S2=>.nxt S2
   |.ret S2 b e=>.ret S2 b e
   |.fail=>.fail
open Classical in
def GZ (c:VT)(g:VS):VS:=λS=>if h:∃n,cD c g n S≠ .fail then cD c g h.choose S else .fail
theorem Am:∀{n:Nat}{S:GS},cD c g n S≠ .fail->cD c g (n+1) S=cD c g n S
 |0,_,h=>absurd rfl h
 |n+1,S,h=>by
  rw[cD];conv=>rhs;rw[cD]
  rw[cD] at h;cases q:c S with
  |none=>rfl
  |some b=>
   rw[q] at h;cases b with
   |false=>rfl
   |true=>
    simp only at h ⊢;cases q2:g S with
    |nxt S2=>rw[q2] at h;exact Am h
    |cnt S2=>rw[q2] at h;exact Am h
    |brk _=>rfl
    |ret _ _ _=>rfl
    |fail=>rfl
def Ut (h:cD c g n S≠ .fail)(hm:n<=m):cD c g m S=cD c g n S:=by
 induction hm with
 |refl=>rfl
 |step hm ih=>rw[Am (by rw[ih];exact h),ih]
def yj (h:cD c g n S=o)(ho:o≠ .fail):GZ c g S=o:=by
 have hx:∃n,cD c g n S≠ .fail:=⟨n,by rw[h];exact ho⟩;unfold GZ;rw[dif_pos hx];rcases Nat.le_total n hx.choose with l|l
 .rw[Ut (by rw[h];exact ho) l,h]
 .rw[<-Ut hx.choose_spec l,h]
section
variable {tc:VT}
set_option tactic.hygienic true in
def aow (hp:PS X s (adi (zq X.K fi) (Bw X.K t js)<|jz X.K g)):PS X s (jz X.K<|jA fi t g):=PS.imp hp λD σ H q=>by
 let(aL,G,ao,S,F,I,q):=q;unfold jA at q;split at q
 .rename_i ds q1;refine⟨aL,G,ao,S,F,I,ds,q1,λJ F1 H1 g1 it=>?_⟩;have I1:=I.grow g1;refine⟨λi m aX H'=>∃S' F',m=ds.length - i/\i<=ds.length/\VI X.K aL F1 ao S' F' aX H'/\d9 X.K aL G ao D (eE t g (ds.drop i) S'),⟨_,S,F1,rfl,dE _,I1.self,q⟩,?_⟩;rintro i m aX H' ⟨S',F',rfl,hi,I',q'⟩;by_cases dZ:i<ds.length
  .have hd:ds[i]? =some ds[i]:=by simp[dZ]
   rw[fg dZ] at q';let(go,yl):=it.go i ds[i] F' H' hd I'.gf I'.sub;generalize ds[i]=d0 at*
   unfold eE at q';cases q2:t d0 S' with
   |none=>rw[q2] at q';exact q'.elim
   |some S1=>
    rw[q2] at q';simp only at q';refine .inr ⟨go,λiY H2=>∃m',m'<ds.length - i/\∃S2 F2,m'=ds.length - (i+1)/\i+1<=ds.length/\VI X.K aL F1 ao S2 F2 iY H2/\d9 X.K aL G ao D (eE t g (ds.drop<|i+1) S2),λ_ _ h=>h,λx H2 y=>?_⟩;let(F2,g2,hx):=yl x H2 y;refine⟨aL,F1,ao,S',F2,I'.grow g2,d0,S1,hx,q2,λFJ _ I3=>⟨aL,F1,ao,S1,F2,I3,?_⟩⟩;cases q3:g S1 with
    |fail=>rw[q3] at q';exact q'.elim
    |nxt S2=>rw[q3] at q';exact λF4 G3 H4 I4=>⟨_,by lk,S2,F4,rfl,dZ,I4,q'⟩
    |cnt S2=>rw[q3] at q';exact λF4 G3 H4 I4=>⟨_,by lk,S2,F4,rfl,dZ,I4,q'⟩
    |brk S2=>rw[q3] at q';exact λF4 G3 H4 I4=>q' F4 G3 H4<|I1.rebase I4
    |ret S2 b e=>rw[q3] at q';exact λv F4 G3 H4 I4 r=>q' v F4 G3 H4 (I1.rebase I4) r
  .have e:i=ds.length:=by lk
   subst e;rw[mI<|ax _] at q';exact .inl ⟨it.stop _ F' H' (ax _) I'.gf I'.sub,q' F' aX H'<|I1.rebase I'⟩
 .exact q.elim
def sWh (hp:PS X s (afj (kE X.K tc)<|jz X.K g)):PS X s (jz X.K<|GZ tc g):=PS.imp hp λD σ H q=>by
 let(aL,G,ao,S,F,I,q):=q;unfold GZ at q;split at q
 .rename_i hx;refine(λm aX H'=>∃S' F',VI X.K aL G ao S' F' aX H'/\d9 X.K aL G ao D (cD tc g m S'),(hx.choose,S,F,I,q),?_);rintro m aX H' ⟨S',F',I',q'⟩;cases m with
  |zero=>exact q'.elim
  |succ n=>
   rw[cD] at q';cases q2:tc S' with
   |none=>rw[q2] at q';exact q'.elim
   |some b=>
    rw[q2] at q';refine(aL,G,ao,S',F',I',b,q2,λF2 H2 g2=>?_);cases b with
    |false=>simp only[fI,eI];exact q' F2 aX H2<|I'.grow g2
    |true=>
     simp only[fA];simp only at q';refine(λiY H2=>∃m',m'<n+1/\∃S' F',VI X.K aL G ao S' F' iY H2/\d9 X.K aL G ao D (cD tc g m' S'),λ_ _ h=>h,aL,G,ao,S',F2,I'.grow g2,?_);cases q3:g S' with
     |fail=>rw[q3] at q';exact q'.elim
     |nxt S2=>rw[q3] at q';exact λF4 G3 H4 I4=>(n,by lk,S2,F4,I4,q')
     |cnt S2=>rw[q3] at q';exact λF4 G3 H4 I4=>(n,by lk,S2,F4,I4,q')
     |brk S2=>rw[q3] at q';exact λF4 G3 H4 I4=>q' F4 G3 H4 I4
     |ret S2 b e=>rw[q3] at q';exact λv F4 G3 H4 I4 r=>q' v F4 G3 H4 I4 r
 .exact q.elim
end
noncomputable def G4 (nN:Nat)(ds:List PyData):GS:=ds.map (λd=>some (.fr,d))++replicate (nN - ds.length) none
def jc (n nN:Nat)(g:VS):g8:=λds=>if ds.length=n then(match g (G4 nN ds) with
 |.ret _ b d=>some (b,d)
 |.nxt _=>some (false,.none)
 |_=>none) else none
def abX {i:Nat}(h:(G4 nN ds)[i]? =some (some (t,d))):ds[i]? =some d/\t=.fr:=by unfold G4 at h;grind
section
variable {base:Heap}
def aox {ds:List PyData}(hs:Same G H)(h:aR K G ds vs):VI K (λ_=>none) G H (G4 N.length ds) G (L2.start N vs) H where
 pl:=λ_ _ _ e=>e
 len:=by unfold G4 L2.start;simp[h.length]
 same:=Same.refl _
 gf:=Same.refl _
 new:=λ_ _ e=>.inl e
 sub:=hs
 slot:=λi t d e=>by
  let(e1,rfl):=abX e;let(v,hv,hh):=h.at e1;refine(v,?_,hh);have hl:i<vs.length:=by
   by_cases z:i<vs.length
   .exact z
   .rw[bu ∅] at hv;cases hv
  unfold L2.start;rw[bP<|by simpa using hl,av,hv];rfl
 inj:=λi j t t' d d' v e1 _ n1=>by rw[(abX e1).2] at n1;exact absurd n1 bj
set_option tactic.hygienic true in
def ave (F:bY K x qual st f fd)(S:cB N ps (aN st))
  (hb:∀(cX:Value) (A:Around) (outer:List Env) (s:Shared) (H:Hp) (E:XK),gD k (A.deeper<|PyProof.Rows.envOfC qual (aN st) s.heap.objs.size f cX)->kj (jP cA P w K mg base N qual (aN st) f cX A outer s H E).TQ (gY st) (jz K g)):
  bJ P w K mg base cA (k+1) f fd ps (bO K<|jc ps.length N.length g):=by
 refine F.ok S (λvs H Q E h=>?_)<|λcX A outer s H vs Q E hr h=>(_,hb cX A outer s H E hr,?_)
 .let(G,ds,_,hx,b,d,e,_):=h;unfold jc at e;split at e
  .rename_i hl;rw[<-hx.length];exact hl
  .cases e
 .let(G,ds,hs,hx,b,d,e,q):=h;unfold jc at e;split at e
  .refine(λ_=>none,G,H,G4 N.length ds,G,aox hs hx,?_);split at e
   .rename_i S' b' d' e2;cases e;rw[e2];intro v F' aX H' I r;refine q v F' H' (I.same,I.gf,I.sub,I.new,I.pl) ?_;cases b with
    |false=>exact r
    |true=>let((a,es,xs,h1,h2,h3,h4,h5,h6),_):=r;exact(es,a,xs,h1,h2,h5,h4,h3,h6)
   .rename_i S' e2;cases e;rw[e2];intro F' aX H' I;exact q .non F' H' (I.same,I.gf,I.sub,I.new,I.pl) rfl
   .cases e
  .cases e
def fnV (F:bY K x qual st f fd)(S:cB N ps (aN st))(hn:ps.length=n)(hN:N.length=nN)
  (hb:∀(cX:Value) (A:Around) (outer:List Env) (s:Shared) (H:Hp) (E:XK),gD k (A.deeper<|PyProof.Rows.envOfC qual (aN st) s.heap.objs.size f cX)->kj (jP cA P w K mg base N qual (aN st) f cX A outer s H E).TQ (gY st) (jz K g)):
  bJ P w K mg base cA (k+1) f fd ps (bO K<|jc n nN g):=by
 subst hn hN;exact ave F S hb
end
open PyProof.Rows (list_addW)
inductive akX (K:Frag)(x:V)(y:V)(H:Hp)(Q:VK):Prop
 |mk:∀l b xs zs,x=.ref l->y=.ref b->aZ K H l xs->aZ K H b zs->xs.length+zs.length<=sizeLine->(∀p,H p=none->Q (.ref p) (upd H p<|.lst<|xs++zs))->akX K x y H Q
def amb:dh X (binaryOp .Add) (akX X.K):=by
 fin2;let(l,b,xs,zs,rfl,rfl,hH,hB,hz,q):=h;cases rx;cases ry;let(aW,r,pl,z):=I.list hH;let(vU,r2,Yv,z2):=I.list hB;have hl:=r.length;have qd:=r2.length;let((cls,dd,data,sl),n,ho,hc,hdd,hd):=pl;let((auO,dd2,data2,sl2),n2,Yh,hc2,azb,N8):=Yv;simp only at hc hd hc2 N8;subst hc hd hc2 N8;have e:aW.toArray++vU.toArray=(aW++vU).toArray:=by simp
 refine pj (_,ho,rfl) (_,Yh,rfl) noFill_list_add seq_list_add PySem.F.slot_list_add PySem.F.entry_list_add (PySem.F.args_list_add_2 _ _) (list_addW l b aW.toArray vU.toArray n n2 dd dd2 sl sl2 (by rw[bm,bm];lk)) (ho,Yh,?_);rw[e];exact(.ref _,_,I.adE (r.append r2) (by rw[aw];lk),rfl,q _ I.fresh)
noncomputable def G5:PyData->PyData->Option PyData
 |.list xs,.list ys=>@ite _ (xs.length+ys.length<=sizeLine) (Classical.propDecidable _) (some<|.list<|xs++ys) none
 |_,_=>none
noncomputable def Dv:PyData->PyData->Option PyData
 |.list xs,.int k=>@ite _ (k<2^63∧-(2^63)<=k/\xs.length*k.toNat<=sizeLine) (Classical.propDecidable _) (some<|.list (replicate k.toNat xs).flatten) none
 |_,_=>none
theorem aR.rep (h:aR K H ds vs):∀k:Nat,aR K H (replicate k ds).flatten (replicate k vs).flatten
 |0=>rfl
 |k+1=>by rw[ii,ii,kU,kU];exact aR.append (aR.rep h k) h
section
variable {fs:VA}
def dCat (ha:PE X a (tV X.K RM fa))(hb:PE X b (tV X.K RM fb)):PE X (.BinOp a .Add b pos) (tV X.K RN<|v2 G5 fa fb):=(dj amb ha hb).imp λ_ H Q q=>by
 let(aL,G,ao,S,F,I,d,e,q):=q;let(x,y,ex,ey,e):=Bt e;refine(aL,G,ao,S,F,I,x,ex,λv F1 H1 g1 hx=>(aL,G,ao,S,F1,I.grow g1,y,ey,λu F2 H2 g2 hy=>?_));unfold G5 at e;split at e
 .split at e
  .rename_i hz;cases e;let(p,xs,rfl,h1,h2):=RM.list g2.fh<|RM.grow g2 hx;let(p',ys,rfl,h3,h4):=RM.list g2.fh hy;have g:=g1.trans g2;refine(p,p',xs,ys,rfl,rfl,h1,h3,by rw[<-h2.length,←h4.length];exact hz,λz hz=>q _ F2 _ (g.trans<|cg.alloc g2.fh hz) (_,z,_,rfl,rfl,g.hh.free hz,g2.fh.free hz,au,aR.append h4 h2))
  .cases e
 .cases e
def avf (ha:PE X a (tV X.K RN fa))(hb:PE X b (tV X.K RW fb)):PE X (.BinOp a .Mult b pos) (tV X.K RN<|v2 Dv fa fb):=(dj anK ha hb).imp λ_ H Q q=>by
 let(aL,G,ao,S,F,I,d,e,q):=q;let(x,y,ex,ey,e):=Bt e;refine(aL,G,ao,S,F,I,x,ex,λv F1 H1 g1 hx=>(aL,G,ao,S,F1,I.grow g1,y,ey,λu F2 H2 g2 hy=>?_));unfold Dv at e;split at e
 .split at e
  .rename_i hz;cases e;let(es,p,xs,e1,rfl,h3,h4,h5,h6):=hx;cases e1;have eu:=hy;subst eu;have g:=g1.trans g2;refine(p,_,xs,rfl,rfl,g2.hh _ _ h5,hz.2.1,hz.1,by rw[<-h6.length];exact hz.2.2,λz hz=>q _ F2 _ (g.trans<|cg.alloc g2.fh hz) (_,z,_,rfl,rfl,g.hh.free hz,g2.fh.free hz,au,aR.rep (h6.same g2.ff) _))
  .cases e
 .cases e
end
noncomputable abbrev adY:=Ga λa b=>.int<|Builtin.bitXor a b
def hXor:jN K adY (rM λi j=>.int<|Builtin.bitXor i j):=xq λ_ _ _ _=>rfl
def Mx (i:Nat)(f:VE):VS:=λS=>match f S with
 |some d=>if Mu S i=true then .nxt (S.set i<|some (.fr,d)) else .fail
 |none=>.fail
section
variable {s:Stmt}
def avh (h:PS X s (fG (tV X.K RN f)<|cH i)):PS X s (jz X.K<|Mx i f):=PS.imp h λD σ H q=>by
 let(aL,G,ao,S,F,I,q):=q;unfold Mx at q;cases e:f S with
 |none=>rw[e] at q;exact q.elim
 |some d=>
  rw[e] at q;simp only at q;split at q
  .refine(aL,G,ao,S,F,I,d,e,λv F' H' g hv=>?_);let(F'',g2,r2):=RN.jZ g hv;exact q F'' _ H'<|(I.grow g2).set r2
  .exact q.elim
inductive adZ:V->List V->Hp->VK->Prop
 |mk ys:H l=some (.lst ys)->Q .non (upd H l<|.lst [])->adZ (.ref l) [] H Q
def avi:Ob X "list.clear" adZ:=λaj s σ H x xs v us Q I rx rv q=>ah9 aj s σ H x xs v us Q I rx rv (by
 let(ys,h1,h2):=q;exact(_,ys,rfl,rfl,h1,h2))
noncomputable def ad0 (i:Nat):VS:=λS=>match kO S i with
 |some (t,_)=>.nxt<|S.set i<|some (t,.list [])
 |none=>.fail
noncomputable def ad1 (i:Nat):VS:=λS=>match kO S i with
 |some (t,ds)=>if ds=[] then .fail else .nxt (S.set i<|some (t,.list ds.dropLast))
 |none=>.fail
end
structure Bl (mg:Str->Option Value):Prop where
 len:mg "len"=none
 list:mg "list"=none
 range:mg "range"=none
 enumerate:mg "enumerate"=none
 zip:mg "zip"=none
 abs:mg "abs"=none
 sum:mg "sum"=none
 min:mg "min"=none
 max:mg "max"=none
 int:mg "int"=none
 bool:mg "bool"=none
 tuple:mg "tuple"=none
 str:mg "str"=none
 sorted:mg "sorted"=none
 set:mg "set"=none
 isinstance:mg "isinstance"=none
structure eX (K:Frag):Prop where
 int:Dp K "int"
 bool:Dp K "bool"
 list:Dp K "list"
 tuple:Dp K "tuple"
def amc:Dp K "int":=⟨λd d' h=>by
 cases d with
 |none=>cases h;kernel_rfl
 |bool _=>cases h;kernel_rfl
 |int _=>cases h;kernel_rfl
 |str _=>cases h;kernel_rfl
 |list _=>cases h;kernel_rfl
 |tuple _=>cases h;kernel_rfl
 |dict _=>cases h⟩
def aiC:Dp K "bool":=⟨λd d' h=>by
 cases d with
 |none=>cases h;kernel_rfl
 |bool _=>cases h;kernel_rfl
 |int _=>cases h;kernel_rfl
 |str _=>cases h;kernel_rfl
 |list _=>cases h;kernel_rfl
 |tuple _=>cases h;kernel_rfl
 |dict _=>cases h⟩
def aiD:Dp K "list":=⟨λd d' h=>by
 cases d with
 |none=>cases h;kernel_rfl
 |bool _=>cases h;kernel_rfl
 |int _=>cases h;kernel_rfl
 |str _=>cases h;kernel_rfl
 |list _=>cases h;kernel_rfl
 |tuple _=>cases h;kernel_rfl
 |dict _=>cases h⟩
def kit_tuple:Dp K "tuple":=⟨λd d' h=>by
 cases d with
 |none=>cases h;kernel_rfl
 |bool _=>cases h;kernel_rfl
 |int _=>cases h;kernel_rfl
 |str _=>cases h;kernel_rfl
 |list _=>cases h;kernel_rfl
 |tuple _=>cases h;kernel_rfl
 |dict _=>cases h⟩
def fj (K:Frag):eX K:=(amc,aiC,aiD,kit_tuple)
inductive agb (K:Frag)(vs:List V)(H:Hp)(Q:VK):Prop
 |mk:∀(a:Addr) (ns:List Int),vs=[.ref a]->aZ K H a (ns.map V.int)->ns.length<=63->(∀H',Q (.bl true) H')->agb K vs H Q
def ad2 (K:Frag):Sp:=λvs H Q _=>agb K vs H Q
def walk {l:PySem.W.OpenLaw}{K:Params->Frag}(hn:l.most=some 63)(hdf:d.params.defaults=[])(hr:gD k callerA)
  (hY:∀(w:World) (h:Heap),YP w h->(K w.params).In h)
  (F:∀(w:World) (mg:Str->Option Value) (fa:Addr) (h:Heap),(K w.params).In h->h.Ns mainGlobals mg->mg d.name=some (.ref fa)->
   ∃fd:FuncData,(∀(s:Shared) (u:Value),BindsTo s fd ⟨[u],[]⟩ [(x,u)])/\∀base:Heap,(K w.params).In base->base.Ns mainGlobals mg->bJ l.prog w (K w.params) mg base cA k fa fd [x] (ad2 (K w.params))):
  PySem.W.WalkO q Oe XP YP l.row.toRowW d [] (λf vs=>PySem.call f vs):=
 L2.al4 hn ⋯ hdf hr hY F (λ_ _ a ns hl _ hS=>⟨a,ns,rfl,hS,hl,λ_=>rfl⟩) λ_ _ _ _ _ z=>z
def pJ (K:Frag)(F:Hp)(v0:V):List (Option PyData)->List V->Prop
 |[],vs=>vs=[]
 |some d::r,vs=>∃v us,vs=v::us/\Has K F d v/\pJ K F v0 r us
 |none::r,vs=>∃us,vs=v0::us/\pJ K F v0 r us
theorem pJ.length:∀{os:List (Option PyData)}{vs:List V},pJ K F v0 os vs->os.length=vs.length
 |[],vs,h=>by have h':vs=[]:=h;rw[h'];rfl
 |some _::_,_,⟨v,us,h1,_,h3⟩=>by rw[h1];exact dT (· +1)<|pJ.length h3
 |none::_,_,⟨us,h1,h3⟩=>by rw[h1];exact dT (· +1)<|pJ.length h3
theorem pJ.at:∀{os:List (Option PyData)}{vs:List V} {i:Nat} {o:Option PyData},pJ K F v0 os vs->os[i]? =some o->∃v,vs[i]? =some v/\match o with|some d=>Has K F d v|none=>v=v0
 |[],_,i,o,_,e=>by simp at e
 |some d::_,_,0,o,⟨v,us,h1,h2,h3⟩,e=>by
  have e':some d=o:=by simpa using e
  subst e';rw[h1];exact(v,rfl,h2)
 |none::_,_,0,o,⟨us,h1,h3⟩,e=>by
  have e':none=o:=by simpa using e
  subst e';rw[h1];exact(v0,rfl,rfl)
 |some _::r,_,i+1,o,⟨v,us,h1,h2,h3⟩,e=>by let(u,q1,q2):=pJ.at (i:=i) (o:=o) h3 (by simpa using e);rw[h1];exact(u,by simpa using q1,q2)
 |none::r,_,i+1,o,⟨us,h1,h3⟩,e=>by let(u,q1,q2):=pJ.at (i:=i) (o:=o) h3 (by simpa using e);rw[h1];exact(u,by simpa using q1,q2)
abbrev Kp:=GS->Option (List<|Option PyData)
inductive Kq (K:Frag)(j:Nat)(fs:Kp)(σ:St)(H:Hp)(Q:(List V->Hp->Prop)):Prop
 |mk:∀aL G ao S F,VI K aL G ao S F σ H->∀v0,σ[j]? =some (some v0)->∀os,fs S=some os->(∀vs F' H',cg F H F' H'->pJ K F' v0 os vs->Q vs H')->Kq K j fs σ H Q
noncomputable def Ol:Kp:=λ_=>some []
noncomputable def wH (f:VE)(fs:Kp):Kp:=λS=>match f S with
 |some d=>match fs S with
  |some os=>some (some d::os)
  |none=>none
 |none=>none
noncomputable def Kr (fs:Kp):Kp:=λS=>match fs S with
 |some os=>some (none::os)
 |none=>none
section
variable {j:Nat}
def io0:PA X [] (Kq X.K j Ol):=PA.imp aP λ_ H Q q=>by let(aL,G,ao,S,F,I,v0,hv,os,e,q):=q;cases e;exact q [] F H (cg.refl I.sub) rfl
set_option tactic.hygienic true in
def ioS (he:PE X e (tV X.K RS f))(hr:PA X es (Kq X.K j fs))(hs:starEach (e::es) X.env=(false,eval e X.env)::starEach es X.env:=by rfl):PA X (e::es) (Kq X.K j<|wH f fs):=PA.imp (ak he hr hs) λ_ H Q q=>by
 let(aL,G,ao,S,F,I,v0,hv,os,e,q):=q;unfold wH at e;split at e
 .rename_i d q1;split at e
  .rename_i os' q2;cases e;exact(aL,G,ao,S,F,I,d,q1,λv F1 H1 g1 hx=>(aL,G,ao,S,F1,I.grow g1,v0,hv,os',q2,λvs F2 H2 g2 hy=>q _ F2 H2 (g1.trans g2) (v,vs,rfl,Has.same g2.ff hx,hy)))
  .cases e
 .cases e
set_option tactic.hygienic true in
def ioJ (he:PE X e (vR j))(hr:PA X es (Kq X.K j fs))(hs:starEach (e::es) X.env=(false,eval e X.env)::starEach es X.env:=by rfl):PA X (e::es) (Kq X.K j<|Kr fs):=PA.imp (ak he hr hs) λσ H Q q=>by
 let(aL,G,ao,S,F,I,v0,hv,os,e,q):=q;unfold Kr at e;split at e
 .rename_i os' q2;cases e;show vR j σ H _;unfold vR;simp only[hv];exact(aL,G,ao,S,F,I,v0,hv,os',q2,λvs F2 H2 g2 hy=>q _ F2 H2 g2 (vs,rfl,hy))
 .cases e
end
abbrev G6:=List (Option PyData)->List PyData->Option (Bool×PyData×List PyData)
inductive akY (K:Frag)(m:G6)(vs:List V)(H:Hp)(Q:VK):Prop
 |mk:∀G os a ls xs,Same G H->G a=none->H a=some (.lst xs)->aR K G ls xs->pJ K G (.ref a) os vs->∀b d dX,m os ls=some (b,d,dX)->(∀v F' H' tO,cg G (hide a H) F' (hide a H')->F' a=none->H' a=some (.lst tO)->aR K F' dX tO->RB b K G (hide a H) F' (hide a H') d v->Q v H')->akY K m vs H Q
def yp (K:Frag)(m:G6):Sp:=λvs H Q _=>akY K m vs H Q
def aiE (h:H a=some o)(p:HO):upd (upd H a p) a o=H:=by
 funext b;by_cases hb:b=a
 .subst hb;rw[au,h]
 .rw[aJ hb,aJ hb]
def amd (g:cg F1 (hide a H1) F' (hide a H'))(hF:F' a=none)(h1:H1 a=some o):cg F1 H1 F' (upd H' a o):=by
 refine(λb u e=>?_,g.ff,λb u e=>?_,λb u e=>?_,g.pl)
 .by_cases hb:b=a
  .subst hb;rw[au];rw[h1] at e;exact e
  .rw[aJ hb];have:=g.hh b u (by rw[hide_ne hb];exact e);rw[hide_ne hb] at this;exact this
 .have hb:=bF e hF;rw[aJ hb];have:=g.fh b u e;rw[hide_ne hb] at this;exact this
 .have hb:=bF e hF;rcases g.new b u e with z|z|z
  .exact .inl z
  .rw[hide_ne hb] at z;exact .inr<|.inl z
  .exact .inr<|.inr z
def VI.bound (I:VI K aL G ao S F σ H)(h:kO S i=some (t,ds)):∃a,σ[i]? =some (some<|.ref a)/\F a=none/\ao a=none:=by
 let(hS,ht):=Us h;let(v,hv,hs):=I.slot i t _ hS;cases t with
 |fr=>cases ht
 |ow=>let(a,_,_,_,rfl,_,h4,h5,_):=hs;exact(a,hv,h4,h5)
 |io=>let(a,_,_,_,rfl,_,h4,h5,_):=hs.1;exact(a,hv,h4,h5)
def RV {os:List (Option PyData)}(I:VI K aL G ao S F σ H)(ho:kO S j=some (t,ls))(hf:fs S=some os)(hm:m os ls=some (b,d,dX))
  (q:∀v F' H',VI K aL G ao (S.set j<|some (t,.list dX)) F' σ H'->RR K ao (S.set j<|some (t,.list dX)) σ F' H' b d v->Q v H'):iM (yp K m) [] E0 (Kq K j fs) σ H Q:=by
 let(a,hv,hFa,hH0):=I.bound ho;refine⟨aL,G,ao,S,F,I,_,hv,os,hf,λvs F1 H1 g1 hvs=>?_⟩;show yp K m (vs++[]) H1 Q E0;rw[df];have I1:=I.grow g1;let(a',xs,jF,hH,hx,nx):=I1.own ho;rw[hv] at jF;cases jF;let(a2,hv2,hF1,_):=I1.bound ho;rw[hv] at hv2;cases hv2;refine⟨F1,os,a,ls,xs,g1.fh,hF1,hH,hx,hvs,b,d,dX,hm,λv F' H' tO g avj avk xY hr=>?_⟩;have g2:=amd g avj hH;have I2:=nx dX tO F' _ g2 xY;rw[aiE avk] at I2;refine q v F' H' I2 ?_;cases b with
 |false=>exact hr
 |true=>
  let(es,p,ys,e1,e2,e3,e4,e5,e6):=hr;have hpa:p≠a:=λz=>by subst z;unfold hide at e5;lk
  rw[hide_ne hpa] at e3 e5;refine⟨⟨p,es,ys,e1,e2,e5,e4,I1.same.free e3,e6⟩,λi t' d' e ht jF=>?_⟩;rw[e2] at jF;by_cases Ks:i=j
  .omega
  .rw[bv<|cp Ks] at e;let(zs,hz):=Ur I1 e ht jF;lk
def Jx (m:G6)(j:Nat)(fs:Kp)(i:Nat):VS:=λS=>match kO S j,fs S with
 |some (t,ls),some os=>(match m os ls with
  |some (_,d,dX)=>if Mu (S.set j<|some (t,.list dX)) i=true/\i≠j then .nxt ((S.set j<|some (t,.list dX)).set i<|some (.fr,d)) else .fail
  |none=>.fail)
 |_,_=>.fail
def Ww (m:G6)(j:Nat)(fs:Kp):VS:=λS=>match kO S j,fs S with
 |some (t,ls),some os=>(match m os ls with
  |some (_,_,dX)=>.nxt<|S.set j<|some (t,.list dX)
  |none=>.fail)
 |_,_=>.fail
def Om (m:G6)(j:Nat)(fs:Kp):VS:=λS=>match kO S j,fs S with
 |some (t,ls),some os=>(match m os ls with
  |some (b,d,dX)=>.ret (S.set j<|some (t,.list dX)) b d
  |none=>.fail)
 |_,_=>.fail
def iT.ark (I:VI K aL G ao S F σ H)(ho:iT K ao F H d v)(hn:∀(i:Nat) t d',S[i]? =some (some (t,d'))->t.own=true->σ[i]? ≠some (some v)):∃F',VI K aL G ao S F' σ H/\Has K F' d v:=by
 let(a,ds,xs,rfl,rfl,h3,h4,h5,h6):=ho;have s1:Same F (upd F a (.lst xs)):=aH h4;refine⟨upd F a (.lst xs),⟨I.len,I.same,I.gf.trans s1,λb o e=>?_,λb o e=>?_,λi t d' e=>?_,I.inj,λb x u e=>by
  by_cases hb:b=a
  .subst hb;rw[au] at e;cases e
  .rw[aJ hb] at e;exact I.pl b x u e⟩,a,xs,rfl,aZ.of au,h6.same s1⟩
 .by_cases hb:b=a
  .omega
  .rw[aJ hb] at e;exact I.new b o e
 .by_cases hb:b=a
  .subst hb;rw[au] at e;cases e;exact h3
  .rw[aJ hb] at e;exact I.sub b o e
 .let(u,hu,hs):=I.slot i t d' e;have ow:t.own=true->iT K ao F H d' u->iT K ao (upd F a<|.lst xs) H d' u:=λht ⟨b,Bu,ys,g1,g2,g3,g4,g5,g6⟩=>by
   refine⟨b,Bu,ys,g1,g2,g3,?_,g5,g6.same s1⟩
   have:b≠a:=λz=>by grind
   rw[aJ this];exact g4
  refine⟨u,hu,?_⟩;cases t with
  |fr=>exact Has.same s1 hs
  |ow=>exact ow rfl hs
  |io=>exact⟨ow rfl hs.1,hs.2⟩
section
variable {fs:Kp}
set_option tactic.hygienic true in
def akZ {i:Nat}(hp:PS X s (fG (iM (yp X.K m) [] E0<|Kq X.K j fs)<|cH i)):PS X s (jz X.K<|Jx m j fs i):=PS.imp hp λD σ H q=>by
 let(aL,G,ao,S,F,I,q):=q;unfold Jx at q;split at q
 .rename_i t ls os q1 q2;split at q
  .rename_i b d dX q3;split at q
   .refine RV I q1 q2 q3 λv F' H' I' r=>?_;cases b with
    |false=>exact q F' _ H'<|I'.set r
    |true=>let(F'',I'',hd):=iT.ark I' r.1 r.2;exact q F'' _ H'<|I''.set hd
   .exact q.elim
  .exact q.elim
 .exact q.elim
set_option tactic.hygienic true in
def arl (hp:PS X s (gk<|iM (yp X.K m) [] E0<|Kq X.K j fs)):PS X s (jz X.K<|Ww m j fs):=PS.imp hp λD σ H q=>by
 let(aL,G,ao,S,F,I,q):=q;unfold Ww at q;split at q
 .rename_i t ls os q1 q2;split at q
  .rename_i b d dX q3;exact RV I q1 q2 q3 λv F' H' I' _=>q F' σ H' I'
  .exact q.elim
 .exact q.elim
set_option tactic.hygienic true in
def aoz (hp:PS X s (mW<|iM (yp X.K m) [] E0<|Kq X.K j fs)):PS X s (jz X.K<|Om m j fs):=PS.imp hp λD σ H q=>by
 let(aL,G,ao,S,F,I,q):=q;unfold Om at q;split at q
 .rename_i t ls os q1 q2;split at q
  .rename_i b d dX q3;exact RV I q1 q2 q3 λv F' H' I' r=>q v F' σ H' I' r
  .exact q.elim
 .exact q.elim
end
noncomputable def zu (nN:Nat)(os:List (Option PyData))(ls:List PyData):GS:=os.map (λo=>match o with|some d=>some (.fr,d)|none=>some (.io,.list ls))++replicate (nN - os.length) none
noncomputable def Wx:Nat->List (Option PyData)->Bool
 |_,[]=>false
 |0,none::r=>r.all isSome
 |0,some _::_=>false
 |k+1,some _::r=>Wx k r
 |_+1,none::_=>false
noncomputable def Oo (S:GS)(k:Nat):Option (List PyData):=match S[k]? with
 |some (some (.io,.list ls))=>some ls
 |_=>none
def Mz (n nN k:Nat)(g:VS):G6:=λos ls=>if os.length=n/\Wx k os=true then(match g (zu nN os ls) with
 |.ret S b d=>(match Oo S k with
  |some dX=>some (b,d,dX)
  |none=>none)
 |.nxt S=>(match Oo S k with
  |some dX=>some (false,.none,dX)
  |none=>none)
 |_=>none) else none
theorem Dw:∀{k:Nat}{os:List (Option PyData)},Wx k os=true->∀{i:Nat},os[i]? =some none->i=k
 |_,[],h,i,e=>by simp at e
 |0,none::r,h,0,e=>rfl
 |0,none::r,h,i+1,e=>by
  have:=fE.mp (show r.all isSome=true from h) none (ah (by simpa using e));cases this
 |0,some _::_,h,i,e=>by cases h
 |k+1,some _::r,h,0,e=>by simp at e
 |k+1,some _::r,h,i+1,e=>dT (· +1)<|Dw (k:=k) (os:=r) h<|by simpa using e
 |k+1,none::_,h,i,e=>by cases h
def G7 {os:List (Option PyData)}{i:Nat}(h:(zu nN os ls)[i]? =some (some (t,d))):(os[i]? =some (some d)/\t=.fr)\/(os[i]? =some none/\t=.io/\d=.list ls):=by
 unfold zu at h;by_cases hi:i<os.length
 .rw[bP<|by simpa using hi,av] at h;cases q:os[i]? with
  |none=>rw[q] at h;cases h
  |some o=>
   rw[q] at h;cases o with
   |some d'=>simp at h;exact .inl ⟨by rw[h.2],h.1.symm⟩
   |none=>simp at h;exact .inr ⟨rfl,h.1.symm,h.2.symm⟩
 .rw[cr<|by simpa using hi,g7] at h;split at h<;>cases h
section
variable {base:Heap}
def aiF {N:List Str}{os:List (Option PyData)}(hs:Same G H)(hG:G a=none)(hH:H a=some (.lst xs))(hx:aR K G ls xs)(h:pJ K G (.ref a) os vs)(ho:Wx k os=true):
  VI K (λi=>if i=k then some a else none) G (hide a H) (zu N.length os ls) G (L2.start N vs) H:=by
 have sv:∀{i:Nat}{v:V},vs[i]? =some v->(L2.start N vs)[i]? =some (some v):=λ{i v} hv=>by
  have hl:i<vs.length:=by
   by_cases z:i<vs.length
   .exact z
   .rw[bu ∅] at hv;cases hv
  unfold L2.start;rw[bP<|by simpa using hl,av,hv];rfl
 refine(by unfold zu L2.start;simp[h.length],qT,Same.refl _,λ_ _ e=>.inl e,hs,λi t d e=>?_,λi j t t' d d' v e1 e2 n1 n2 _ _=>?_,λ_ _ _ e=>e)
 .rcases G7 e with⟨e1,rfl⟩|⟨e1,rfl,rfl⟩
  .let(v,hv,hh):=h.at e1;exact(v,sv hv,hh)
  .let(v,hv,hh):=h.at e1;have hh':=hh;subst hh';exact(_,sv hv,(a,ls,xs,rfl,rfl,hH,hG,Jw,hx),a,rfl,by rw[Dw ho e1];exact ar rfl)
 .rcases G7 e1 with⟨_,rfl⟩|⟨q1,_,_⟩
  .exact absurd n1 bj
  .rcases G7 e2 with⟨_,rfl⟩|⟨q2,_,_⟩
   .exact absurd n2 bj
   .rw[Dw ho q1,Dw ho q2]
set_option tactic.hygienic true in
def ak0 (F:bY K x qual st f fd)(S:cB N ps (aN st))(hn:ps.length=n)(hN:N.length=nN)
  (hb:∀(cX:Value) (A:Around) (outer:List Env) (s:Shared) (H:Hp) (E:XK),gD lv (A.deeper<|PyProof.Rows.envOfC qual (aN st) s.heap.objs.size f cX)->kj (jP cA P w K mg base N qual (aN st) f cX A outer s H E).TQ (gY st) (jz K g)):
  bJ P w K mg base cA (lv+1) f fd ps (yp K<|Mz n nN k g):=by
 subst hn hN;refine F.ok S (λvs H Q E h=>?_)<|λcX A outer s H vs Q E hr h=>(_,hb cX A outer s H E hr,?_)
 .let(G,os,a,ls,xs,_,_,_,_,hv,b,d,dX,e,_):=h;unfold Mz at e;split at e
  .rename_i hl;rw[<-hv.length];exact hl.1
  .cases e
 .let(G,os,a,ls,xs,hs,hG,hH,hx,hv,b,d,dX,e,q):=h;unfold Mz at e;split at e
  .rename_i hl;refine(_,G,hide a H,zu N.length os ls,G,aiF hs hG hH hx hv hl.2,?_);have back:∀{S':GS}{F':Hp} {aX:St} {H':Hp} {l2:List PyData},VI K (λi=>if i=k then some a else none) G (hide a H) S' F' aX H'->Oo S' k=some l2->
     ∃tO,cg G (hide a H) F' (hide a H')/\F' a=none/\H' a=some (.lst tO)/\aR K F' l2 tO/\aX[k]? =some (some<|.ref a):=λ{S' F' aX H' l2} I qd=>by
    unfold Oo at qd;split at qd
    .rename_i l3 hS;cases qd;let(v,hv1,(p,ds,ys,e1,e2,e3,e4,e5,e6),p2,e7,e8):=I.slot k .io _ hS;cases e1;rw[e7] at e2;cases e2;have e9:(if k=k then some a else none)=some p:=e8;rw[ar rfl] at e9;cases e9;refine(ys,(afX Jw I.same,I.gf,λb o e=>?_,I.new,I.pl),e4,e3,e6,by rw[hv1,e7]);have hb:=bF e e4;rw[hide_ne hb];exact I.sub b o e
    .cases qd
   split at e
   .rename_i S' b' d' e2;split at e
    .rename_i l2 e3;cases e;rw[e2];intro v F' aX H' I r;let(tO,g1,h1,h2,h3,h4):=back I e3;refine q v F' H' tO g1 h1 h2 h3 ?_;cases b with
     |false=>exact r
     |true=>
      let((p,es,ys,r1,r2,r3,r4,r5,r6),r7):=r;have hS:∃d2,S'[k]? =some (some (.io,d2)):=by unfold Oo at e3;grind
      let(d2,hS):=hS;have hpa:p≠a:=λz=>by subst z;exact r7 k .io d2 hS rfl<|by rw[h4,r2]
      exact(es,p,ys,r1,r2,r5,r4,by rw[hide_ne hpa];exact r3,r6)
    .cases e
   .rename_i S' e2;split at e
    .rename_i l2 e3;cases e;rw[e2];intro F' aX H' I;let(tO,g1,h1,h2,h3,h4):=back I e3;exact q .non F' H' tO g1 h1 h2 h3 rfl
    .cases e
   .cases e
  .cases e
end
section
variable {iQ eV:Pos}
def ad3 (ho:PE X o to)(mX:attributeBase o "clear" X.env (eval o X.env)=eval o X.env:=by rfl)(mY:(iQ.endLine==eV.line)=true:=by rfl):PE X (.Call (.Attribute o "clear" iQ) [] [] eV) (CW X.K "list" adZ to):=Yr gS PySem.F.slot_list_clear PySem.F.type_list_clear avi ho mX mY
noncomputable def gRv (i:Nat):VS:=λS=>match kO S i with
 |some (t,ds)=>.nxt<|S.set i<|some (t,.list ds.reverse)
 |none=>.fail
noncomputable def arn (k:Nat)(y:α)(xs:List α):List α:=xs.take k++y::xs.drop k
noncomputable def aoA (i:Nat)(fs:VA):VS:=λS=>match kO S i,fs S with
 |some (t,ds),some [.int k,d]=>@ite _ (ds.length<sizeLine/\0<=k/\k<2^62) (Classical.propDecidable _) (.nxt<|S.set i<|some (t,.list<|arn k.toNat d ds)) .fail
 |_,_=>.fail
noncomputable def agc (i:Nat)(fs:VA):VS:=λS=>match kO S i,fs S with
 |some (t,ds),some [.int k]=>@ite _ (k.toNat<ds.length/\0<=k/\k<2^62) (Classical.propDecidable _) (.nxt<|S.set i<|some (t,.list<|ds.eraseIdx k.toNat)) .fail
 |_,_=>.fail
end
noncomputable def aoB (ns:List Int):List Int:=PyProof.Rows.firstMet (λi=>ns.getD i 0) ns.length
section
noncomputable def ame:PyData->Option PyData
 |.list ds=>match intsOf ds with
  |some ns=>@ite _ (ns.length<=4000) (Classical.propDecidable _) (some<|.int (aoB ns).length) none
  |none=>none
 |_=>none
noncomputable def abY (f:VE):VE:=v1 ame f
end
open PyProof PyProof.Rows
section
variable {r r':R2}
def avl (ho:dh X (compareOp op) r)(yW:dh X (compareOp GD) r')(ha:PE X a ta)(hb:PE X b tb)(hc:PE X c tc)
  (hm:lastMarks [op,GD] [b,c]=false:=by with_unfolding_all rfl):PT X (.Compare a [op,GD] [b,c] pos) (oH<|adM r r' ta tb tc):=by
 intro aj s σ H Q I q;refine isTrue_chain (bK (ha aj s σ H _ I q) ?_) hm;rintro v s1 ⟨x,H1,I1,r1,q1⟩;refine test_link<|bK (hb aj s1 σ H1 _ I1 q1) ?_;rintro u s2 ⟨y,H2,I2,r2,q2⟩;refine bK (ho aj s2 σ H2 x y v u _ I2 r1 r2 q2) ?_;rintro d s3 ⟨z,H3,I3,r3,q3⟩;cases z with
 |bl k=>
  cases r3;refine db ?_;cases k with
  |false=>exact ite_ff (H3,I3,q3)
  |true=>
   refine ite_tt<|test_last<|bK (hc aj s3 σ H3 _ I3 q3) ?_;rintro w' s4 ⟨z',H4,I4,r4,q4⟩;refine bK (yW aj s4 σ H4 y z' u w' _ I4 r2 r4 q4) ?_;rintro d' s5 ⟨z2,H5,I5,r5,q5⟩;cases z2 with
   |bl k2=>cases r5;exact db (H5,I5,q5)
   |_=>exact False.elim q5
 |_=>exact False.elim q3
def cCh (ho:dh X (compareOp op) r)(hd:jN X.K h r)(yW:dh X (compareOp GD) r')(Bb:jN X.K h' r')(ha:PE X a (tV X.K RW fa))(hb:PE X b (tV X.K RW fb))(hc:PE X c (tV X.K RW fc))
  (hm:lastMarks [op,GD] [b,c]=false:=by with_unfolding_all rfl):PT X (.Compare a [op,GD] [b,c] pos) (kE X.K<|vB<|yg h h' fa fb fc):=
 PT.imp (avl ho yW ha hb hc hm) λ_ _ _ q=>air (λ_ q=>aog hd Bb q) q
end
end VM
namespace VM
open PyProof.Rows L2
section
variable {tg:Expr}
end
end VM
namespace VM
open L2
set_option exponentiation.threshold 3000
def G8 (h1: -1e100<j)(h2:j<1e100):j.natAbs<2^2000:=by lk
def su (h1: -1e100<a)(h2:a<1e100)(h3: -1e100<b)(h4:b<1e100):rQ (.int a) (.int b)=some (.int<|a*b):=ar ⟨G8 h1 h2,G8 h3 h4⟩
def oR (h0:0<b)(h1:b<1e100):j4 (.int a) (.int b)=some (.int<|a/b):=ar ⟨h0,G8 ∅ h1⟩
def jh (h0:0<b):fH (.int a) (.int b)=some (.int<|a % b):=ar h0
def Oq (h0:0<=b)(h1:b<=1000)(h2:0<=a)(h3:a<1152921504606846976):Aj (.int a) (.int b)=some (.int<|a^b.toNat):=ar (h0,h1,by lk)
def Wy (a b:Int):gU (.int a) (.int b)=some (.bool<|decide<|a=b):=by rfl
def Wz (a b:Int):jO (.int a) (.int b)=some (.bool<|!decide (a=b)):=by rfl
def WD (x:PyData):isD x .none=some (.bool<|jX x):=rfl
def Ot (x:PyData):RL x .none=some (.bool<|!jX x):=rfl
theorem abZ (P:Nat->GS->Prop):∀(ds:List PyData) (i:Nat) (S:GS),P i S->
    (∀(j:Nat) d S,ds[j]? =some d->P (i+j) S->∃S1,t d S=some S1/\∃S2,(g S1=.nxt S2\/g S1=.cnt S2)/\P (i+j+1) S2)->∃S',eE t g ds S=.nxt S'/\P (i+ds.length) S'
  |[],i,S,h,_=>(S,rfl,h)
  |d::r,i,S,h,st=>by
   let(S1,e1,S2,e2,p2):=st 0 d S rfl h;let(S',e3,p3):=abZ P r (i+1) S2 p2 λj d' S' e p=>by
     have e':i+1+j=i+(j+1):=by lk
     rw[e'] at p ⊢;exact st (j+1) d' S' (by simpa using e) p
   refine(S', ?_,by rw[ay];have e':i+1+r.length=i+(r.length+1):=by lk
                    rw[<-e'];exact p3)
   simp only[eE,e1];rcases e2 with e2|e2<;>(rw[e2];exact e3)
theorem Y6 (f:Nat->GS):∀(ds:List PyData) (i:Nat),
  (∀(j:Nat) d,ds[j]? =some d->∃S1,t d (f<|i+j)=some S1/\g S1=.nxt (f<|i+j+1))->eE t g ds (f i)=.nxt (f<|i+ds.length)
 |[],i,_=>rfl
 |d::r,i,st=>by
  let(S1,e1,e2):=st 0 d rfl;have e3:=Y6 f r (i+1) λj d' e=>by
   have e':i+1+j=i+(j+1):=by lk
   rw[e'];exact st (j+1) d'<|by simpa using e
  simp only[eE];grind
theorem kZ:∀{ds:List PyData},(∀d∈ds,∃S2,t d S=some S2/\fc S2=some true/\fe S2=some (f d))->vg t fc fe S ds=some (ds.map f)
 |[],_=>rfl
 |d::r,h=>by let(S2,e1,e2,e3):=h d ae;have ih:=kZ (ds:=r) (f:=f) λx hx=>h x<|aa _ hx;simp only[vg,e1,e2,e3,ih,az]
theorem sy:∀{ds:List PyData},(∀d∈ds,∃S2,t d S=some S2/\fc S2=some (p d)/\(p d=true->fe S2=some (f d)))->vg t fc fe S ds=some ((ds.filter p).map f)
 |[],_=>rfl
 |d::r,h=>by
  let(S2,e1,e2,e3):=h d ae;have ih:=sy (ds:=r) (f:=f) (p:=p) λx hx=>h x<|aa _ hx;cases q:p d with
  |true=>simp only[vg,e1,e2,q,e3 q,ih,eR,fA,az]
  |false=>simp only[vg,e1,e2,q,ih,eR,fI,eI]
def Dy {lo:Int}(h:(lF lo n)[j]? =some d):j<n/\d=.int (lo+j):=by
 unfold lF at h;rw[av] at h;by_cases hj:j<n
 .rw[iO hj] at h;cases h;exact⟨hj,rfl⟩
 .rw[bu (by simp;lk)] at h;cases h
def qy (lo:Int)(n:Nat):(lF lo n).length=n:=by simp[lF]
noncomputable def RZ (o:Out)(g:VS):Out:=match o with
 |.nxt S=>g S
 |o=>o
noncomputable def bIf (o:Option Bool)(g1 g2:VS)(S:GS):Out:=match o with
 |some true=>g1 S
 |some false=>g2 S
 |none=>.fail
noncomputable def aiG (o:Option Bool)(g:VT)(S:GS):Option Bool:=match o with
 |some true=>g S
 |some false=>some false
 |none=>none
noncomputable def bOr (o:Option Bool)(g:VT)(S:GS):Option Bool:=match o with
 |some true=>some true
 |some false=>g S
 |none=>none
noncomputable def ad4 (o:Option PyData)(g:VE)(S:GS):Option PyData:=match o with
 |some (.bool true)=>g S
 |some (.bool false)=>some<|.bool false
 |_=>none
noncomputable def aiH (o:Option PyData)(g:VE)(S:GS):Option PyData:=match o with
 |some (.bool true)=>some<|.bool true
 |some (.bool false)=>g S
 |_=>none
noncomputable def aiI (o:Option Bool)(f g:VE)(S:GS):Option PyData:=match o with
 |some true=>f S
 |some false=>g S
 |none=>none
noncomputable def b2 (h:PyData->PyData->Option PyData)(o:Option PyData)(fb:VE)(S:GS):Option PyData:=match o with
 |some x=>(match fb S with
  |some y=>h x y
  |none=>none)
 |none=>none
noncomputable def b1 (h:PyData->Option PyData)(o:Option PyData):Option PyData:=match o with
 |some y=>h y
 |none=>none
noncomputable def bC (o:Option PyData)(fs:VA)(S:GS):Option (List PyData):=match o with
 |some d=>(match fs S with
  |some ds=>some (d::ds)
  |none=>none)
 |none=>none
noncomputable def bC1 (d:PyData)(o:Option (List PyData)):Option (List PyData):=match o with
 |some ds=>some (d::ds)
 |none=>none
noncomputable def bAs (o:Option PyData)(t:VG)(S:GS):Out:=match o with
 |some d=>(match t d S with
  |some S'=>.nxt S'
  |none=>.fail)
 |none=>.fail
noncomputable def bNx (o:Option GS):Out:=match o with
 |some S'=>.nxt S'
 |none=>.fail
noncomputable def bG (o:Option GS)(u:VGs)(r:List PyData):Option GS:=match o with
 |some S1=>u r S1
 |none=>none
noncomputable def ad5 (o:Option (Bool×PyData)):Option PyData:=match o with
 |some (_,d)=>some d
 |none=>none
noncomputable def WK (o:Option (Bool×PyData)):Option PyData:=match o with
 |some (true,d)=>some d
 |_=>none
noncomputable def Uu:Bool->PyData->Option PyData
 |true,d=>some d
 |false,_=>none
def Y7 (b:Bool)(d:PyData):Uu b d=if b=true then some d else none:=by cases b<;>rfl
def WL (d:PyData):Uu true d=some d:=rfl
def WM (o:Option (Bool×PyData)):Option PyData:=match o with
 |some (b,d)=>Uu (Mp b d) d
 |none=>none
def Ou (o:Option (Bool×PyData)):Option PyData:=match o with
 |some (true,.list es)=>Uu (oJ es)<|.list es
 |_=>none
def ad6 (m:g8)(o:Option (List PyData)):Option PyData:=match o with
 |some ds=>ad5<|m ds
 |none=>none
def Y8 (m:g8)(o:Option (List PyData)):Option PyData:=match o with
 |some ds=>WK<|m ds
 |none=>none
def Y9 (m:g8)(o:Option (List PyData)):Option PyData:=match o with
 |some ds=>WM<|m ds
 |none=>none
def R0 (m:g8)(o:Option (List PyData)):Option PyData:=match o with
 |some ds=>Ou<|m ds
 |none=>none
def aoE (o:Option (List PyData))(t:VG)(g:VS)(S:GS):Out:=match o with
 |some ds=>eE t g ds S
 |none=>.fail
noncomputable def bFn (o:Out):Option (Bool×PyData):=match o with
 |.ret _ b d=>some (b,d)
 |.nxt _=>some (false,.none)
 |_=>none
noncomputable def bCh (h':PyData->PyData->Option PyData)(y:PyData)(o:Option PyData)(fc:VE)(S:GS):Option PyData:=match o with
 |some (.bool true)=>(match fc S with
  |some z=>h' y z
  |none=>none)
 |some (.bool false)=>some<|.bool false
 |_=>none
section
variable {b:Bool}
def xr:aD g1 g2 S=RZ (g1 S) g2:=rfl
def Ov:RZ (.nxt S) g=g S:=rfl
def Ow:RZ (.ret S b d) g=.ret S b d:=rfl
def Ox:RZ (.brk S) g=.brk S:=rfl
def Oz:RZ (.cnt S) g=.cnt S:=rfl
def G9:dJ c g1 g2 S=bIf (c S) g1 g2 S:=rfl
def WQ:bIf (some true) g1 g2 S=g1 S:=rfl
def OJ:bIf (some false) g1 g2 S=g2 S:=rfl
def Jy:fP c c2 S=aiG (c S) c2 S:=rfl
def O8:aiG (some true) c S=c S:=rfl
def O9:aiG (some false) c S=some false:=rfl
def Hi:gG c c2 S=bOr (c S) c2 S:=rfl
def WR:bOr (some true) c S=some true:=rfl
def Pa:bOr (some false) c S=c S:=rfl
def Jz:Mg fa fb S=ad4 (fa S) fb S:=rfl
def JB:ad4 (some<|.bool true) f S=f S:=rfl
def JC:ad4 (some<|.bool false) f S=some (.bool false):=rfl
def Pb:vOr fa fb S=aiH (fa S) fb S:=rfl
def Ph:aiH (some<|.bool true) f S=some (.bool true):=rfl
def Pj:aiH (some<|.bool false) f S=f S:=rfl
def Pk:vIf c fa fb S=aiI (c S) fa fb S:=rfl
def Pr:aiI (some true) fa fb S=fa S:=rfl
def Pu:aiI (some false) fa fb S=fb S:=rfl
def JD:v2 h fa fb S=b2 h (fa S) fb S:=rfl
def R3:b2 h (some x) fb S=b1 (h x) (fb S):=rfl
def R4:b1 k (some y)=k y:=rfl
def WT:v1 k f S=b1 k (f S):=rfl
def Px:aC f fs S=bC (f S) fs S:=rfl
def ad7:bC (some d) fs S=bC1 d (fs S):=rfl
def WW:bC1 d (some r)=some (d::r):=rfl
def Py:bN f t S=bAs (f S) t S:=rfl
def WX:bAs (some d) t S=bNx (t d S):=rfl
def WY:bNx (some S)=.nxt S:=rfl
def W8:gC t u (d::r) S=bG (t d S) u r:=rfl
def ad8:bG (some S) u r=u r S:=rfl
def Dz:bH m fs S=ad6 m (fs S):=by unfold bH ad6 ad5;rfl
def JF:ad6 m (some ds)=ad5 (m ds):=rfl
def zx:Bv m fs S=Y8 m (fs S):=by unfold Bv Y8 WK;rfl
def DG:Y8 m (some ds)=WK (m ds):=rfl
def zy:vf m fs S=Y9 m (fs S):=by unfold vf Y9 WM;simp only[Y7]<;>rfl
def DK:Y9 m (some ds)=WM (m ds):=rfl
def JG:WM (some (b,d))=Uu (Mp b d) d:=rfl
def wM:abT m fs S=R0 m (fs S):=by unfold abT R0 Ou;simp only[Y7]<;>rfl
def zB:R0 m (some ds)=Ou (m ds):=rfl
def DN:Ou (some (true,.list r))=Uu (oJ r) (.list r):=rfl
def Pz:ad5 (some (b,d))=some d:=rfl
def JH:WK (some (true,d))=some d:=rfl
def Bx (e:ds.length=n):jc n nN g ds=bFn (g<|G4 nN ds):=by unfold jc;rw[ar e];rfl
def W9:bFn (.ret S b d)=some (b,d):=rfl
def Xa:bFn (.nxt S)=some (false,.none):=rfl
def PB:yg h h' fa fb fc S=(match fa S with
 |some x=>(match fb S with
  |some y=>bCh h' y (h x y) fc S
  |none=>none)
 |none=>none):=rfl
def Xb:bCh h' y (some<|.bool true) fc S=b1 (h' y) (fc S):=rfl
def Xc:bCh h' y (some<|.bool false) fc S=some (.bool false):=rfl
def mq (x:α)(r:List α):dI (x::r) 0=some x:=iC rfl
def JK (x y:α)(r:List α):dI (x::y::r) 1=some y:=iC rfl
def Xd (x y z:α)(r:List α):dI (x::y::z::r) 2=some z:=iC rfl
def Xe (x y z w:α)(r:List α):dI (x::y::z::w::r) 3=some w:=iC rfl
def JL:jA fi t g S=aoE (fi S) t g S:=rfl
def PJ:aoE (some ds) t g S=eE t g ds S:=rfl
end
noncomputable def bL (o:Option (List PyData)):Option PyData:=match o with
 |some es=>some<|.list es
 |none=>none
def bLC (o:Option (List PyData))(cap:List (Option Nat))(t:VG)(fc:VT)(fe:VE)(S:GS):Option PyData:=match o with
 |some ds=>@ite _ (pH S cap=true/\ds.length<sizeLine) (Classical.propDecidable _) (bL<|vg t fc fe (kJ cap S) ds) none
 |none=>none
def aiJ (o:Option (List PyData))(cap:List (Option Nat))(t:VG)(fc:VT)(fe:VE)(S:GS):Option PyData:=match o with
 |some ds=>@ite _ (ds.length<sizeLine) (Classical.propDecidable _) (bL<|vg t fc (Mf fe) (kJ cap S) ds) none
 |none=>none
noncomputable def bOw (o:Option PyData)(b:Bool)(i:Nat)(t:Tg)(S:GS):Out:=match o with
 |some d=>if b=true then .nxt (S.set i<|some (t,d)) else .fail
 |none=>.fail
section
variable {b:Bool}
def Hj:lZ fi cap t fc fe S=bLC (fi S) cap t fc fe S:=by unfold lZ bLC bL;rfl
def qz (h1:pH S cap=true)(h2:ds.length<sizeLine):bLC (some ds) cap t fc fe S=bL (vg t fc fe (kJ cap S) ds):=ar ⟨h1,h2⟩
def JM:Ds fi cap t fc fe S=aiJ (fi S) cap t fc fe S:=by unfold Ds aiJ bL;rfl
def Za (h2:ds.length<sizeLine):aiJ (some ds) cap t fc fe S=bL (vg t fc (Mf fe) (kJ cap S) ds):=ar h2
def ad9:bL (some es)=some (.list es):=rfl
def PK:pX i f S=bOw (f S) (Mu S i) i .ow S:=rfl
def xu:Mx i f S=bOw (f S) (Mu S i) i .fr S:=rfl
def Xf:bOw (some d) true i T S=.nxt (S.set i<|some (T,d)):=rfl
noncomputable def aiK (o:Option PyData):Option PyData:=match o with
 |some d=>Uu (u9 d) d
 |none=>none
def JN:Mf f S=aiK (f S):=by unfold Mf aiK;simp only[Y7]<;>rfl
def PL:aiK (some d)=Uu (u9 d) d:=rfl
def bT (h:n<=16000000):n<sizeLine:=by have e:sizeLine=16777216:=rfl;lk
end
noncomputable def ob (v:Option PyData):Option (Tg×PyData):=v.map λd=>(Tg.fr,d)
def qW (d:PyData):ob (some d)=some (Tg.fr,d):=rfl
def iD:ob none=none:=rfl
def lG (f:α->PyData){xs:List α}{i:Nat}(h:xs[i]? =some x):dI (xs.map f) (i:Int)=some (f x):=iC (by rw[av,h];rfl)
def yq (h:i<n):rN n (i:Int)=some i:=by unfold rN;rw[ar ∅,ar ∅];simp
def PX (a b:Int):cu (.int a) (.int b)=some (.int<|a+b):=rfl
def P0 (a b:Int):jm (.int a) (.int b)=some (.int<|a - b):=rfl
def Xg (a b:Int):mQ (.int a) (.int b)=some (.bool<|decide<|a<b):=rfl
def Xh (a b:Int):wG (.int a) (.int b)=some (.bool<|decide<|a<=b):=rfl
def Xi (a b:Int):tM (.int a) (.int b)=some (.bool<|decide<|b<a):=rfl
def Xj (a b:Int):geD (.int a) (.int b)=some (.bool<|decide<|b<=a):=rfl
def Qa (a b:Int):adY (.int a) (.int b)=some (.int<|Builtin.bitXor a b):=rfl
noncomputable def nio:Option (Option<|Tg×PyData)->Bool
 |some (some (.io,_))=>false
 |_=>true
def JQ (S:GS)(i:Nat):Mu S i=nio (S[i]?):=rfl
def Qc (o:Option PyData):nio (some<|ob o)=true:=by cases o<;>rfl
def Xk:nio (some none)=true:=rfl
def Qd (d:PyData):nio (some<|some (.fr,d))=true:=rfl
def Qe (d:PyData):nio (some<|some (.ow,d))=true:=rfl
def amf (x:α)(n:Nat):(replicate n [x]).flatten=replicate n x:=by simp
def DP (x:PyData){n:Nat}(h:n<=16000000):Dv (.list [x]) (.int (n:Int))=some (.list<|replicate n x):=by unfold Dv;have e:sizeLine=16777216:=rfl;simp only[ay,eD,fS];rw[ar (by lk,by lk,by lk),amf]
def DQ (ds:List PyData):uh "list" (.list ds)=some (.bool true):=by simp[uh,Uo]
def JR (i:Int):uh "int" (.int i)=some (.bool true):=by simp[uh,Uo]
def wN (i:Int):uh "bool" (.int i)=some (.bool false):=by simp[uh,Uo]
def zE (ds:List PyData):uh "tuple" (.tuple ds)=some (.bool true):=by simp[uh,Uo]
end VM
namespace L2
open PyProof.Rows
section
variable [DecidableEq κ]
noncomputable def qI (aO:List (κ×V))(k:κ):Option V:=(aO.find? λkv=>decide<|kv.1=k).map (·.2)
noncomputable def putK (aO:List (κ×V))(k:κ)(v:V):List (κ×V):=
 if(aO.any λkv=>decide<|kv.1=k)=true then aO.map (λkv=>if kv.1=k then(kv.1,v) else kv) else aO++[(k,v)]
noncomputable def sE (aO:List (κ×V))(k:κ):List (κ×V):=aO.filter λkv=>decide<|kv.1≠k
def DR {k:κ}(e:p.1=k):qI (p::r) k=some p.2:=by simp[qI,j1,e]
def DW {k:κ}(e:¬p.1=k):qI (p::r) k=qI r k:=by simp[qI,j1,e]
theorem aiL (k:κ):∀aO:List (κ×V),(aO.any λkv=>decide<|kv.1=k)=(qI aO k).isSome
 |[]=>rfl
 |p::r=>by
  rw[kn];by_cases e:p.1=k
  .simp only[DR e,cf e,Bool.true_or,Option.isSome_some]
  .rw[DW e,cE e,Bool.false_or];exact aiL k r
def Ku (aO:List (κ×V))(k:κ)(v:V):(putK aO k v).length<=aO.length+1:=by
 unfold putK;split
 .rw[af];lk
 .rw[aw,ay,eD];lk
def rF.Uv (r:rF o u):o.isSome=u.isSome:=by
 cases o with
 |none=>cases u with
  |none=>rfl
  |some _=>exact(show False from r).elim
 |some _=>cases u with
  |none=>exact(show False from r).elim
  |some _=>rfl
def KV.val {vs:List (κ×Value)}(r:KV aO vs)(k:κ):rF (qI aO k) (valueAt vs k):=by
 unfold KV at r;induction r with
 |nil=>exact fN
 | @cons p q ps qs h t ih=>
  let(h1,h2):=h;by_cases e:p.1=k
  .have e':q.1=k:=h1.symm.trans e;have b:valueAt (q::qs) k=some q.2:=by simp[valueAt,j1,e']
   rw[DR e,b];exact h2
  .have e':¬q.1=k:=λz=>e<|h1.trans z;have b:valueAt (q::qs) k=valueAt qs k:=by simp[valueAt,j1,e']
   rw[DW e,b];exact ih
theorem KV.any (r:KV aO vs)(k:κ):(aO.any λkv=>decide<|kv.1=k)=vs.any λkv=>decide (kv.1=k):=by
 unfold KV at r;induction r with
 |nil=>rfl
 |cons h t ih=>rw[kn,kn,ih,h.1]
def KV.repl (r:KV aO vs)(k:κ)(ry:RelV y u):
  KV (aO.map λkv=>if kv.1=k then(kv.1,y) else kv) (vs.map λkv=>if kv.1=k then(kv.1,u) else kv):=by
 unfold KV at r ⊢;induction r with
 |nil=>exact .nil
 | @cons p q ps qs h t ih=>rw[az,az];refine .cons ?_ ih;lk
def KV.put (r:KV aO vs)(k:κ)(ry:RelV y u):KV (putK aO k y) (stored vs k u):=by
 unfold putK stored;rw[r.any k];by_cases e:(vs.any λkv=>decide<|kv.1=k)=true
 .rw[ar e,ar e];exact r.repl k ry
 .rw[ap e,ap e];exact Paired.snoc r ⟨rfl,ry⟩
def KV.drop (r:KV aO vs)(k:κ):KV (sE aO k) (without vs k):=by
 unfold KV at r ⊢;unfold sE without;induction r with
 |nil=>exact .nil
 | @cons p q ps qs h t ih=>
  let(h1,h2):=h;rw[eR,eR];by_cases e:p.1=k
  .omega
  .have e':¬q.1=k:=λz=>e<|h1.trans z;have a:decide (p.1≠k)=true:=by simp[e]
   have b:decide (q.1≠k)=true:=by simp[e']
   rw[ar a,ar b];exact .cons ⟨h1,h2⟩ ih
theorem KV.length (r:KV aO vs):aO.length=vs.length:=ox r
def aiM (aO:List (κ×V))(k:κ):(sE aO k).length<=aO.length:=ic _ _
end
def DX (r:RelV (kV k) u):(iB P w).is k u=true:=by
 cases k with
 |inl i=>let(t,e):=(show ∃t,u=Value.int i t from r);subst e;exact abd P w i t
 |inr x=>let(t,e):=(show ∃t,u=Value.str x t from r);subst e;exact abe P w x t
theorem agd:∀{ks:List Key}{us:List Value},Vals (ks.map kV) us->ItemsAre (iB P w) ks us
 |[],_,r=>by rw[eQ] at r;cases r;exact .nil
 |k::ks,_,r=>by
  rw[az] at r;cases r with
  |cons h t=>exact .cons (DX h)<|agd t
section
variable {a:Addr}
def aro (ok:mz P w H h)(e:Rd H a u):jw P w H h a u:=e.ok ok
def DY (ok:mz P w H h)(e:Rd H a (.dK aO)):aO.length<=sizeLine/\(a==sysModules)=false/\∃vs,KV aO vs/\h.DictOf (iB P w) a vs:=
 show jw P w H h a (.dK aO) from aro ok e
def Ea (ok:mz P w H h)(e:H a=some (.dK aO)):aO.length<=sizeLine/\(a==sysModules)=false/\∃vs,KV aO vs/\h.DictOf (iB P w) a vs:=DY ok<|.inl e
end
def nY (H:Hp)(a:Addr)(y:V)(r:Option V):Prop:=
 ∃aO k,Rd H a (.dK aO)/\y=kV k/\r=qI aO k
def Hl (H:Hp)(a:Addr)(y v:V)(H':Hp):Prop:=
 ∃aO k,H a=some (.dK aO)/\y=kV k/\aO.length<sizeLine/\H'=upd H a (.dK<|putK aO k v)
theorem nY.k {k:Key}(e:H a=some (.dK aO)):nY H a (kV k) (qI aO k):=(aO,k,.inl e,rfl,rfl)
theorem Hl.k {k:Key}(e:H a=some (.dK aO))(hl:aO.length<sizeLine):Hl H a (kV k) v (upd H a<|.dK<|putK aO k v):=(aO,k,e,rfl,hl,rfl)
section
variable {E:Value->Shared->Prop}
def Inv.big (I:Inv X aj σ H s):sysModules<s.heap.objs.size:=by have h:mainGlobals<s.heap.objs.size:=(I.mod.glob.keeps I.bk).lt;exact Nat.lt_trans ⋯ h
def agf (hu:A.units+1<cLine)(I:Inv X aj σ H s)(g:nY H a y (some v))(ry:RelV y u)(h:∀w' s',Inv X aj σ H s'->RelV v w'->Q w' s'):
  wpAny (model X.prog X.w) A (getItem (.ref a) u) Q E s:=by
 let(aO,k,e,ey,l):=g;subst ey;let(z,hd,vs,rel,dd):=DY I.hok e;let(w',hw,Bm):=rF.some_of (v:=v) (o:=valueAt vs k) (by rw[l];exact rel.val k);exact wpAny_getItem_of (DX ry) dd.mapOf hw<|h w' _ (I.tok _) Bm
def avm (hu:A.units+1<cLine)(I:Inv X aj σ H s)(g:nY H a y o)(ry:RelV y u)(h:∀s',Inv X aj σ H s'->Q (.bool o.isSome) s'):
  wpAny (model X.prog X.w) A (compareOp .In u<|.ref a) Q E s:=by
 let(aO,k,e,ey,l):=g;subst ey;let(z,hd,vs,rel,dd):=DY I.hok e;refine wpAny_in_of (DX ry) hd dd.mapOf ?_;rw[<-(rel.val k).Uv,←l];exact h _<|I.tok _
def amg (hu:A.units+1<cLine)(I:Inv X aj σ H s)(g:nY H a y o)(ry:RelV y u)(h:∀s',Inv X aj σ H s'->Q (.bool<|!o.isSome) s'):
  wpAny (model X.prog X.w) A (compareOp .NotIn u<|.ref a) Q E s:=by
 let(aO,k,e,ey,l):=g;subst ey;let(z,hd,vs,rel,dd):=DY I.hok e;refine wpAny_notIn_of (DX ry) hd dd.mapOf ?_;rw[<-(rel.val k).Uv,←l];exact h _<|I.tok _
def R5 (I:Inv X aj σ H s)(mu:Mut (H a))(hs:Heap.SameBut a s.heap h')(he:∃q,h'.get? a=some q)(new:jw X.prog X.w (upd H a ob) h' a ob):
  Inv X aj σ (upd H a ob) {s with heap:=h',toks:=t'}:=
 I.write (x:=a) (e:=a) mu (.inl rfl) (λb q hb z=>(hs.2 b hb).trans z) he new
def Qf (z:aO.length<=sizeLine)(hd:(a==sysModules)=false)(rel:KV aO vs)(dd:h'.DictOf (iB P w) a vs):
  jw P w H' h' a (.dK aO):=(z,hd,vs,rel,dd)
def agg (hu:A.units+1<cLine)(I:Inv X aj σ H s)(g:Hl H a y v H')(ry:RelV y u)(rv:RelV v r)(h:∀s',Inv X aj σ H' s'->Q () s'):
  wpAny (model X.prog X.w) A (setItem (.ref a) u r) Q E s:=by
 let(aO,k,e,ey,l,eH):=g;subst ey eH;let(z,hd,vs,rel,dd):=Ea I.hok e;have hz:vs.length<=sizeLine:=by rw[<-rel.length];exact z
 have hl:(putK aO k v).length<=sizeLine:=by have:=Ku aO k v;lk
 refine wpAny_setItem_pairs (hsz:=hz) (DX ry) dd λh' Uw hs=>h _ ?_;have he:∃q,h'.get? a=some q:=let⟨q,_,_,hq,_⟩:=Uw;⟨q,hq⟩;exact R5 I (by rw[e];exact fN) hs he (Qf hl hd (rel.put k rv) Uw)
end
section
variable {E:Value->Shared->Prop}
def arp (I:Inv X aj σ H s)(e:H a=some (.dK aO))(ry:RelV (kV k) u)(l:qI aO k=some v)(hm:more=[]\/∃x,more=[x])
  (h:∀w' s',Inv X aj σ (upd H a<|.dK<|sE aO k) s'->RelV v w'->Q w' s'):wpAny (model X.prog X.w) A (call (.builtin "dict.pop") (.ref a::u::more)) Q E s:=by
 let(z,hd,vs,rel,dd):=Ea I.hok e;let(w',hw,Bm):=rF.some_of (v:=v) (o:=valueAt vs k) (by rw[<-l];exact rel.val k);have hp:(keyPart u).isSome=true:=by
  cases k with
  |inl i=>let(t,q):=(show ∃t,u=Value.int i t from ry);subst q;rfl
  |inr x=>let(t,q):=(show ∃t,u=Value.str x t from ry);subst q;rfl
 have ha:argsOk "dict.pop" ⟨.ref a::u::more,[]⟩:=by
  rcases hm with q|⟨x,q⟩
  .subst q;exact PySem.F.args_dict_pop_2 _ _
  .subst q;exact PySem.F.args_dict_pop_3 _ _ _
 refine pk np dd.typeIs PySem.F.entry_dict_pop ha (meets_dict_pop_there (iB X.prog X.w) a (DX ry) more hm hp)
  ⟨vs,w',dd,by rw[<-rel.length];exact z,hw,λh' Uw hs=>h w' _ ?_ Bm⟩
 have he:∃q,h'.get? a=some q:=let⟨q,_,_,hq,_⟩:=Uw;⟨q,hq⟩;exact R5 I (by rw[e];exact fN) hs he (Qf (dL (aiM aO k) z) hd (rel.drop k) Uw)
def arq (I:Inv X aj σ H s)(e:Rd H a (.dK aO))(h:∀t s',Inv X aj σ H s'->Q (.int aO.length t) s'):wpAny (model X.prog X.w) A (call (.builtin "len") [.ref a]) Q E s:=by let(z,hd,vs,rel,dd):=DY I.hok e;refine call_len_dict hd dd (by rw[<-rel.length];rw[kr] at z;lk) ?_;rw[<-rel.length];exact h _ _<|I.tok _
end
def aoI (i:Expr):Prop:=∀ov iv,subscripted i false ov iv=operate [ov,iv] (getItem ov iv)
def amh {T id:String}
  (hl:typeLookup (.type T) "__getitem__"=pure (some<|.builtin id))(hs:aoI qu)
  (h:wpAny (model prog w) A (eval value env) (λo cJ=>wpAny (model prog w) A (eval qu env) (λi tY=>tY.TypeIs o T/\wpAny (model prog w) A (getItem o i) Q E tY) E cJ) E s):
  wpAny (model prog w) A (eval (.Subscript value qu pos) env) Q E s:=by
 refine Subscript_<|fq h (λo cJ h₁=>fq h₁ (λi tY Gx=>?_) λ_ _ x=>x) λ_ _ x=>x;let(hT,Gx):=Gx;unfold subscriptTail;refine ai ?_;rw[getitemInPython_of_ne hT.not_modules];refine ai<|md hT hl ?_;have fin:wpAny (model prog w) A (subscripted qu false o i) (λr rH=>wpAny (model prog w) A (letTemporaryGo value o r>>= λ_=>pure r) Q E rH) E tY:=by rw[hs o i];exact wpAny_operating<|fq Gx (λr rH Ai=>ai<|wpAny_letTemporaryGo<|aS Ai) λ_ _ x=>x
 first
  |exact aS (ai fin)
  |exact ai (aS<|ai fin)
  |exact ai fin
def abh (I:Inv X aj σ H s)(g:nY H a y o):s.TypeIs (.ref a) "dict":=by let(aO,k,e,_,_):=g;let(_,_,vs,_,dd):=DY I.hok e;exact dd.typeIs
def Xl (td ty:TE):TE:=λσ H Q=>td σ H λx H1=>ty σ H1 λy H2=>∃a v,x=.ref a/\nY H2 a y (some v)/\Q v H2
def aoJ (ty td:TE):TE:=λσ H Q=>ty σ H λy H1=>td σ H1 λx H2=>∃a o,x=.ref a/\nY H2 a y o/\Q (.bl o.isSome) H2
def R6 (ty td:TE):TE:=λσ H Q=>ty σ H λy H1=>td σ H1 λx H2=>∃a o,x=.ref a/\nY H2 a y o/\Q (.bl<|!o.isSome) H2
def Qg (td ty tv:TE):TS:=λD σ H=>tv σ H λv H1=>td σ H1 λx H2=>ty σ H2 λy H3=>∃a H4,x=.ref a/\Hl H3 a y v H4/\D.nx σ H4
section
variable {td ty tv:TE}
def xG (hu:X.A.units+1<cLine)(ho:PE X o td)(hi:PE X i ty)(hs:aoI i):PE X (.Subscript o i pos) (Xl td ty):=by kl_no;refine amh PySem.F.slot_dict_getitem.lookup hs<|bK (ho aj s σ H _ I h) ?_;rintro u s1 ⟨x,H1,I1,rx,q1⟩;refine bK (hi aj s1 σ H1 _ I1 q1) ?_;rintro iv s2 ⟨y,H2,I2,ry,a,v,ex,g,q2⟩;subst ex;obtain rfl:u=Value.ref a:=rx;exact⟨abh I2 g,agf hu I2 g ry λw' s3 I3 Bm=>⟨v,H2,I3,Bm,q2⟩⟩
def aoK (hu:X.A.units+1<cLine)(hi:PE X i ty)(ho:PE X o td):PC X .In i o (aoJ ty td):=by kl_no;refine bK (hi aj s σ H _ I h) ?_;rintro iv s1 ⟨y,H1,I1,ry,q1⟩;refine bK (ho aj s1 σ H1 _ I1 q1) ?_;rintro u s2 ⟨x,H2,I2,rx,a,ov,ex,g,q2⟩;subst ex;obtain rfl:u=Value.ref a:=rx;exact avm hu I2 g ry λs3 I3=>(.bl ov.isSome,H2,I3,rfl,q2)
def Ux (hu:X.A.units+1<cLine)(hi:PE X i ty)(ho:PE X o td):PC X .NotIn i o (R6 ty td):=by kl_no;refine bK (hi aj s σ H _ I h) ?_;rintro iv s1 ⟨y,H1,I1,ry,q1⟩;refine bK (ho aj s1 σ H1 _ I1 q1) ?_;rintro u s2 ⟨x,H2,I2,rx,a,ov,ex,g,q2⟩;subst ex;obtain rfl:u=Value.ref a:=rx;exact amg hu I2 g ry λs3 I3=>(.bl<|!ov.isSome,H2,I3,rfl,q2)
def JT (hu:X.A.units+1<cLine)(ho:PE X o td)(hi:PE X i ty)(hv:PE X value tv)(hs:swapsWith value (some<|.Subscript o i xP) pos.line X.env=pure false):
  PS X (.Assign [.Subscript o i xP] value pos) (Qg td ty tv):=by
 k_sub;refine wpAny_Assign_Subscript (bK (hv aj s σ H _ I h) ?_) hs;rintro r s1 ⟨v,H1,I1,rv,q1⟩;refine bK (ho aj s1 σ H1 _ I1 q1) ?_;rintro u s2 ⟨x,H2,I2,rx,q2⟩;refine bK (hi aj s2 σ H2 _ I2 q2) ?_;rintro iv s3 ⟨y,H3,I3,ry,a,H4,ex,g,q3⟩;subst ex;obtain rfl:u=Value.ref a:=rx;exact agg hu I3 g ry rv λs4 I4=>(σ,H4,I4,q3)
end
def Zb (h:Heap)(hb:sysModules<h.objs.size):jw P w H (h.push {cls:=.type "dict",data:=.dict #[]}) h.objs.size (.dK []):=
 (dE _,og.mpr<|cp (dq hb),[],.nil,Heap.DictOf.new h)
def aoL:TE:=λ_ H Q=>∀p,H p=none->Q (.ref p) (upd H p<|.dK [])
section
variable {pos:Pos}
def Zc:PE X (.Dict [] [] pos) aoL:=λaj s σ H Q I h=>
 wpAny_Dict_empty (.ref s.heap.objs.size,_,I.laid (a:=s.heap.objs.size) (o:=.dK []) (t':=s.toks) (λ_ _ q=>aT _ q) (ax _)<|Zb s.heap I.big,rfl,h _<|I.hok.fresh<|ax _)
end
def BJ:List (TE×TE)->St->Hp->(List (V×V)->Hp->Prop)->Prop
 |[],_,H,Q=>Q [] H
 |(tk,tv)::r,σ,H,Q=>tk σ H λx H1=>tv σ H1 λy H2=>BJ r σ H2 λps H3=>Q ((x,y)::ps) H3
abbrev VV:List (V×V)->List (Value×Value)->Prop:=Paired λp q=>RelV p.1 q.1/\RelV p.2 q.2
def PPs (X:Cx)(pos:Pos)(MF:List (Option Expr))(Qh:List Expr)(Zd:List (TE×TE)):Prop:=
 ∀(aj:List (Addr×Obj)) (s:Shared) (σ:St) (H:Hp) (Q:List (V×V)->Hp->Prop),Inv X aj σ H s->BJ Zd σ H Q->
  wpAny (model X.prog X.w) X.A (evalPairs<|pairTrees MF Qh X.env pos) (λvs s'=>∃ps H',Inv X aj σ H' s'/\VV ps vs/\Q ps H') X.xe s
def ami:PPs X pos [] [] []:=λaj s σ H Q I h=>pairTrees_nil_walk ([],H,I,.nil,h)
def Ze (hk:PE X k tk)(hv:PE X v tv)(hr:PPs X pos ks vs Zd):
  PPs X pos (some k::ks) (v::vs) ((tk,tv)::Zd):=λaj s σ H Q I h=>
 pairTrees_cons_walk (bK (hk aj s σ H _ I h) λu s1 ⟨x,H1,I1,rx,q1⟩=>bK (hv aj s1 σ H1 _ I1 q1) λw2 s2 ⟨y,H2,I2,ry,q2⟩=>
  bK (hr aj s2 σ H2 _ I2 q2) λws s3 ⟨ps,H3,I3,rel,q3⟩=>⟨(x,y)::ps,H3,I3,.cons ⟨rx,ry⟩ rel,q3⟩)
def yr (aO more:List (Key×V)):List (Key×V):=more.foldl (λacc kv=>putK acc kv.1 kv.2) aO
def KV.merge:∀{more:List (Key×V)}{rs:List (Key×Value)} {aO:List (Key×V)} {vs:List (Key×Value)},KV more rs->KV aO vs->KV (yr aO more) (merged vs rs):=by
 intro more rs aO vs r;unfold KV at r;induction r generalizing aO vs with
 |nil=>intro q;exact q
 | @cons p q ps qs h t ih=>
  intro r0;have e:KV (putK aO p.1 p.2) (stored vs q.1 q.2):=by have:=r0.put p.1 h.2;rw[<-h.1];exact this
  exact ih e
theorem Gd:∀(more aO:List (Key×V)),(yr aO more).length<=aO.length+more.length
 |[],aO=>by show aO.length<=aO.length+0;lk
 |p::r,aO=>by have h1:=Gd r<|putK aO p.1 p.2;have h2:=Ku aO p.1 p.2;show(yr (putK aO p.1 p.2) r).length<=_;grind
theorem Qi:∀{aO:List (Key×V)}{ws:List (Value×Value)},VV (aO.map λkv=>(kV kv.1,kv.2)) ws->∃rs,Carries (iB P w) ws rs/\KV aO rs
 |[],_,r=>by rw[eQ] at r;cases r;exact⟨[],fN,.nil⟩
 |p::aO,_,r=>by
  rw[az] at r;cases r with
  | @cons a b as bs h t=>let(rs,c,q):=Qi (P:=P) (w:=w) t;let(b1,b2):=b;exact⟨(p.1,b2)::rs,⟨DX h.1,rfl,c⟩,.cons ⟨rfl,h.2⟩ q⟩
def ars (Zd:List (TE×TE)):TE:=λσ H Q=>∀p,H p=none->BJ Zd σ (upd H p<|.dK []) λps H2=>H2 p=some (.dK [])/\∃aO:List (Key×V),ps=aO.map (λkv=>(kV kv.1,kv.2))/\aO.length<=15/\Q (.ref p) (upd H2 p<|.dK<|yr [] aO)
def amj (h:PPs X pos MF Qh Zd)(hall:MF.all (·.isSome)=true)(hl:MF.length=Qh.length)(h0:MF≠[])
  (h15:MF.length<=15):PE X (.Dict MF Qh pos) (ars Zd):=by
 intro aj s σ H Q I q;have hn:=I.hok.fresh<|ax s.heap.objs.size;have I1:=I.laid (a:=s.heap.objs.size) (o:=.dK []) (h':=s.heap.push {cls:=.type "dict",data:=.dict #[]}) (t':=s.toks) (λ_ _ q=>aT _ q) (ax _)<|Zb s.heap I.big;refine wpAny_Dict_walk (knd:=iB X.prog X.w) hall hl h0 h15<|bK (h aj _ σ _ _ I1<|q _ hn) ?_;rintro ws s2 ⟨ps,H2,I2,rel,e,aO,ep,lk,q2⟩;subst ep;let(rs,c,rk):=Qi (P:=X.prog) (w:=X.w) rel;let(z,hd,vs0,r0,dd):=Ea I2.hok e;cases r0;refine⟨rs,c,dd,λh' Uw hs=>⟨.ref s.heap.objs.size,_,?_,rfl,q2⟩⟩;have hz:(yr [] aO).length<=sizeLine:=by have h1:=Gd aO [];rw[eD] at h1;rw[kr];lk
 have he:∃q,h'.get? s.heap.objs.size=some q:=let⟨q,_,_,hq,_⟩:=Uw;⟨q,hq⟩;exact R5 I2 (by rw[e];exact fN) hs he (Qf hz hd (rk.merge .nil) Uw)
structure M1 (X:Cx)(o:Expr)(m:Str)(iQ:Pos)(e:Expr)(eV:Pos):Prop where
 base:attributeBase o m X.env (eval o X.env)=eval o X.env
 few:((backTo eV (starEach [e] X.env)).all (λx=>!x.1) && (backToKw eV (keywordEach [] X.env)).all (λx=>x.1.isSome)
  && decide (([e]:List Expr).length+([]:List Keyword).length+(if([]:List Keyword).isEmpty then 0 else 1)<30))=true
 line:(iQ.endLine==eV.line)=true
 trees:backTo eV (starEach [e] X.env)=[(false,eval e X.env)]
def IsD (H:Hp)(a:Addr):Prop:=∃aO,Rd H a (.dK aO)
def aoN (I:Inv X aj σ H s)(d:IsD H a):
  s.TypeIs (.ref a) "dict"/\(∀b,Value.ref a=.ref b->∃ob,s.heap.get? b=some ob/\ob.dict=none)/\(a==sysModules)=false:=by
 let(aO,e):=d;let(_,hd,vs,_,dd):=DY I.hok e;refine(dd.typeIs,λb q=>?_,hd);cases q;let(ob,_,_,h1,h2,_):=dd;exact(ob,h1,h2.2.1)
section
variable {E:Value->Shared->Prop}
end
def agh (td ty:TE):TE:=λσ H Q=>td σ H λx H1=>∃a,x=.ref a/\IsD H1 a/\ty σ H1 λy H2=>∃aO k v,H2 a=some (.dK aO)/\y=kV k/\qI aO k=some v/\Q v (upd H2 a<|.dK<|sE aO k)
section
variable {td ty tx:TE}
def Zf (ho:PE X o td)(he:PE X e ty)(m:M1 X o "pop" iQ e eV):PE X (.Call (.Attribute o "pop" iQ) [e] [] eV) (agh td ty):=by intro aj s σ H Q I h;refine wpAny_Call_method m.base m.few m.line iS np PySem.F.type_dict_pop<|bK (ho aj s σ H _ I h) ?_;rintro u s1 ⟨x,H1,I1,rx,a,ex,d,q1⟩;subst ex;obtain rfl:u=Value.ref a:=rx;let(t1,t2,_):=aoN I1 d;refine(t1,t2,?_);rw[m.trees];refine kc rfl<|Calls.evalArgs_plain<|kT<|bK (he aj s1 σ H1 _ I1 q1) ?_;rintro iv s2 ⟨y,H2,I2,ry,aO,k,v,ea,ey,l,q2⟩;refine lI ?_;subst ey;exact arp I2 ea ry l (.inl rfl) λw' s3 I3 Bm=>(v,_,I3,Bm,q2)
end
section
variable {E:Value->Shared->Prop}
end
section
variable {E:Value->Shared->Prop}
end
end L2
namespace VM
noncomputable def aea:Nat->(List α->Prop)->Prop
 |0,p=>p []
 |n+1,p=>∀x,aea n λl=>p (x::l)
def aea.go {us:List α}:∀{p},aea us.length p->p us:=by
 induction us with
 |nil=>exact λh=>h
 |cons x l ih=>exact λh=>ih<|h x
open L2 PySem.W PySem.Calls PyProof.Rows
section
variable {X:Cx}
end
end VM
namespace Sp
noncomputable def tot (f:Nat->α->Nat):Nat->List α->Nat
 |_,[]=>0
 |i,x::xs=>f i x+tot f (i+1) xs
theorem JV (f:Nat->α->Nat)(x:α):∀(xs:List α) (i j:Nat) (y:α),xs[j]? =some y->tot f i (xs.set j x)+f (i+j) y=tot f i xs+f (i+j) x
 |[],i,j,y,h=>by simp at h
 |z::xs,i,0,y,h=>by
  have e:z=y:=by simpa using h
  subst e;simp only[kA,tot,pv];lk
 |z::xs,i,j+1,y,h=>by have ih:=JV f x xs (i+1) j y (by simpa using h);simp only[kB,tot];lk
structure Lb where
 d:Int
 c:Nat
 fr:Option (Nat×Nat)
noncomputable def near (d:Int)(c:Nat):Option Lb->Bool
 |none=>true
 |some l=>decide (d<l.d)||(decide (d=l.d) && decide (c<l.c))
def mj (l:Lb)(d:Int)(c:Nat):Prop:=l.d<d\/(l.d=d/\l.c<=c)
def aeb (h:near d c o=false):∃l,o=some l/\mj l d c:=by
 cases o with
 |none=>simp[near] at h
 |some l=>refine(l,rfl,?_);simp only[near,Bool.or_eq_false_iff,gL,Bool.and_eq_false_iff] at h;unfold mj;lk
structure RS where
 aG:List (Option Lb)
 wait:List Bool
 queue:List Nat
 place:Nat
abbrev Mv:=Nat×Nat×Int
def relax (left:Nat->Int)(u:Nat)(d:Int)(c:Nat)(s:RS)(m:Mv):RS:=
  if 0<left m.1/\near (d+m.2.2) c (s.aG[m.2.1]?.getD none)=true then
    {s with aG:=s.aG.set m.2.1 (some ⟨d+m.2.2,c,some (m.1,u)⟩),
            wait:=if s.wait[m.2.1]?.getD false=true then s.wait else s.wait.set m.2.1 true,
            queue:=if s.wait[m.2.1]?.getD false=true then s.queue else s.queue++[m.2.1]}
  else s
noncomputable def RS.room (s:RS):Nat:=s.queue[s.place]?.getD 0
def RS.at (s:RS):Lb:=((s.aG[s.room]?.getD none).getD (0,0,none))
def jg (left:Nat->Int)(out:Nat->List Mv)(s:RS):RS:=
 (out s.room).foldl (relax left s.room s.at.d<|s.at.c+1) {s with place:=s.place+1,wait:=s.wait.set s.room false}
def RS.done (s:RS):Prop:=s.queue.length<=s.place
inductive Ends (left:Nat->Int)(out:Nat->List Mv):Nat->RS->RS->Prop
 |stop {s}:s.done->Ends left out 0 s s
 |go {m s t}:¬s.done->Ends left out m (jg left out s) t->Ends left out (m+1) s t
structure cY (n:Nat)(left:Nat->Int)(out:Nat->List Mv)(π:Nat->Int):Prop where
 room:∀u m,m∈out u->m.2.1<n
 ne:∀u m,m∈out u->m.2.1≠u
 pay:∀u m,u<n->m∈out u->0<left m.1->π m.2.1<=π u+m.2.2
variable {st:Nat}
structure sG (n:Nat)(left:Nat->Int)(out:Nat->List Mv)(π:Nat->Int)(st:Nat)(s:RS):Prop where
 pl:s.place<=s.queue.length
 ll:s.aG.length=n
 wl:s.wait.length=n
 ql:∀v∈s.queue,v<n
 st0:s.aG[st]? =some (some (0,0,none))
 lo:∀v l,s.aG[v]? =some (some l)->π v - π st<=l.d
 fr:∀v l,s.aG[v]? =some (some l)->v≠st->∃mv u x lu,l.fr=some (mv,u)/\u<n/\(mv,v,x)∈out u/\0<left mv/\s.aG[u]? =some (some lu)/\mj (lu.d+x,lu.c+1,none) l.d l.c
 wq:∀v,s.wait[v]? =some true->v∈s.queue.drop s.place
 lq:∀v∈s.queue,∃l,s.aG[v]? =some (some l)
def ak2 (left:Nat->Int)(s:RS)(l:Lb)(ms:List Mv):Prop:=
 ∀m∈ms,0<left m.1->∃lv,s.aG[m.2.1]? =some (some lv)/\mj lv (l.d+m.2.2) (l.c+1)
structure qJ (n:Nat)(left:Nat->Int)(out:Nat->List Mv)(π:Nat->Int)(st:Nat)(s:RS):Prop extends sG n left out π st s where
 rel:∀u l,s.aG[u]? =some (some l)->u∉s.queue.drop s.place->ak2 left s l (out u)
noncomputable def un (o:Option Lb):Nat:=if o.isNone then 1 else 0
noncomputable def far (π:Nat->Int)(st v:Nat)(o:Option Lb):Nat:=match o with
 |none=>0
 |some l=>(l.d - (π v - π st)).toNat
noncomputable def cnt (o:Option Lb):Nat:=match o with
 |none=>0
 |some l=>l.c
def mu (π:Nat->Int)(st:Nat)(s:RS):Nat×Nat×Nat:=(tot (λ_ o=>un o) 0 s.aG,tot (far π st) 0 s.aG,2*tot (λ_ o=>cnt o) 0 s.aG+(s.queue.length - s.place))
def L3 (a b:Nat×Nat×Nat):Prop:=a.1<b.1\/(a.1=b.1/\(a.2.1<b.2.1\/(a.2.1=b.2.1/\a.2.2<b.2.2)))
def L3.trans (h:L3 a b)(g:L3 b c):L3 a c:=by unfold L3 at*;lk
def L3.wf:WellFounded L3:=by
 constructor;intro⟨a,b,c⟩;induction a using Nat.strongRecOn generalizing b c with
 |ind a iha=>
  induction b using Nat.strongRecOn generalizing c with
  |ind b ihb=>
   induction c using Nat.strongRecOn with
   |ind c ihc=>constructor;rintro⟨a',b',c'⟩ h;simp only[L3] at h;grind
def mj.trans (h:mj a b.d b.c)(g:mj b d c):mj a d c:=by unfold mj at*;lk
def mj.refl (a:Lb):mj a a.d a.c:=by unfold mj;lk
def nP {xs:List α}(h:(xs.set i x)[j]? =some y):(j=i/\y=x/\i<xs.length)\/(j≠i/\xs[j]? =some y):=by
 by_cases e:j=i
 .subst e;have hl:=(ab.mp h).1;rw[ce] at hl;rw[bq hl] at h;exact .inl ⟨rfl,(be h).symm,hl⟩
 .rw[bv<|cp e] at h;exact .inr ⟨e,h⟩
structure qj (n:Nat)(left:Nat->Int)(out:Nat->List Mv)(π:Nat->Int)(st:Nat)(s t:RS):Prop where
 ok:sG n left out π st t
 pl:t.place=s.place
 low:∀(v:Nat) (l:Lb),s.aG[v]? =some (some l)->∃l':Lb,t.aG[v]? =some (some l')/\mj l' l.d l.c
 same:∀v:Nat,v∈t.queue.drop t.place\/t.aG[v]? =s.aG[v]?
 sub:∀v,v∈s.queue.drop s.place->v∈t.queue.drop t.place
 ms:mu π st t=mu π st s\/L3 (mu π st t) (mu π st s)
theorem qj.refl (h:sG n left out π st s):qj n left out π st s s:=(h,rfl,λv l e=>(l,e,mj.refl l),λ_=>.inr rfl,λ_ h=>h,.inl rfl)
theorem qj.trans (a:qj n left out π st s t)(b:qj n left out π st t r):qj n left out π st s r:=by
 refine(b.ok,b.pl.trans a.pl,λv l e=>?_,λv=>?_,λv h=>b.sub v<|a.sub v h,?_)
 .let(l1,e1,q1):=a.low v l e;let(l2,e2,q2):=b.low v l1 e1;exact(l2,e2,q2.trans q1)
 .rcases b.same v with h|h
  .exact .inl h
  .rcases a.same v with g|g
   .exact .inl<|b.sub v g
   .exact .inr<|h.trans g
 .rcases a.ms with h|h
  .rw[<-h];exact b.ms
  .rcases b.ms with g|g
   .rw[g];exact .inr h
   .exact .inr<|g.trans h
def Eb {u:Nat}(F:cY n left out π)(I:sG n left out π st s)(hu:u<n)(hl:s.aG[u]? =some (some lu))(hm:m∈out u):
  qj n left out π st s (relax left u lu.d (lu.c+1) s m)/\(relax left u lu.d (lu.c+1) s m).aG[u]? =some (some lu)/\
   (0<left m.1->∃lv,(relax left u lu.d (lu.c+1) s m).aG[m.2.1]? =some (some lv)/\mj lv (lu.d+m.2.2) (lu.c+1)):=by
 let(mv,v,x):=m;have Kv:=F.room u _ hm;have hvu:=F.ne u _ hm;have hvl:v<s.aG.length:=by rw[I.ll];exact Kv
 obtain⟨ov,Qj⟩:∃o,s.aG[v]? =some o:=⟨_,ag hvl⟩;obtain⟨wv,Uy⟩:∃o,s.wait[v]? =some o:=⟨_,ag (by rw[I.wl];exact Kv)⟩;unfold relax;simp only[Qj,Uy,getD_some];by_cases hc:0<left mv/\near (lu.d+x) (lu.c+1) ov=true
 .rw[ar hc];let(ak4,Ec):=hc;have aiN:=F.pay u (mv,v,x) hu hm ak4;have hlo:=I.lo u lu hl;have avn:v≠st:=by intro e;subst e;rw[I.st0] at Qj;have e2:=(be Qj).symm;subst e2;simp only[near,kL,dQ,bS] at Ec;lk
  have hq:∀z,z∈s.queue.drop s.place->z∈(if wv=true then s.queue else s.queue++[v]).drop s.place:=λz hz=>by
   split
   .exact hz
   .rw[kN I.pl];exact dA _ hz
  have hvq:v∈(if wv=true then s.queue else s.queue++[v]).drop s.place:=by
   by_cases hw:wv=true
   .rw[ar hw];exact I.wq v<|by rw[Uy,hw]
   .rw[ap hw,kN I.pl];exact ci _<|by simp
  have new:(s.aG.set v<|some ⟨lu.d+x,lu.c+1,some (mv,u)⟩)[v]? =some (some ⟨lu.d+x,lu.c+1,some (mv,u)⟩):=bq hvl;have Qk:∀z:Nat,z≠v->(s.aG.set v<|some ⟨lu.d+x,lu.c+1,some (mv,u)⟩)[z]? =s.aG[z]?:=λz hz=>bv<|cp hz;have low:∀z (l:Lb),s.aG[z]? =some (some l)->∃l',(s.aG.set v<|some ⟨lu.d+x,lu.c+1,some (mv,u)⟩)[z]? =some (some l')/\mj l' l.d l.c:=λz l e=>by
   by_cases hz:z=v
   .subst hz;rw[Qj] at e;have e2:=be e;subst e2;refine⟨_,new,?_⟩;simp only[near,kL,dQ,bS] at Ec;unfold mj;lk
   .exact⟨l,by rw[Qk z hz];exact e,mj.refl l⟩
  refine⟨⟨⟨?_,?_,?_,?_,?_,?_,?_,?_,?_⟩,rfl,low,λz=>?_,hq,?_⟩,?_,λ_=>⟨_,new,?_⟩⟩
  .split
   .exact I.pl
   .rw[aw];exact dL I.pl<|iX _ _
  .rw[ce];exact I.ll
  .split
   .exact I.wl
   .rw[ce];exact I.wl
  .intro z hz;have BK:=hz;split at BK
   .exact I.ql z BK
   .rcases bc.mp BK with h|h
    .exact I.ql z h
    .rw[aE.mp h];exact Kv
  .rw[Qk st<|cp avn];exact I.st0
  .intro z l e;rcases nP (e) with⟨rfl,e2,_⟩|⟨hz,e2⟩
   .cases e2;lk
   .exact I.lo z l e2
  .intro z l e hzs;rcases nP (e) with⟨rfl,e2,_⟩|⟨hz,e2⟩
   .cases e2;exact⟨mv,u,x,lu,rfl,hu,hm,ak4,by show(s.aG.set z _)[u]? =_;rw[Qk u<|cp hvu];exact hl,by unfold mj;k_ne;lk⟩
   .let(mv',u',x',lu',h1,h2,h3,h4,h5,h6):=I.fr z l e2 hzs;let(l2,g1,g2):=low u' lu' h5;refine⟨mv',u',x',l2,h1,h2,h3,h4,g1,?_⟩;unfold mj at*
    lk
  .intro z hz;have BK:=hz;split at BK
   .exact hq z<|I.wq z BK
   .rcases nP BK with⟨rfl,_,_⟩|⟨_,e2⟩
    .exact hvq
    .exact hq z<|I.wq z e2
  .intro z hz;have BK:=hz;have old:∀z:Nat,z∈s.queue->∃l,(s.aG.set v<|some ⟨lu.d+x,lu.c+1,some (mv,u)⟩)[z]? =some (some l):=λz hz=>by let(l,e):=I.lq z hz;let(l',e',_):=low z l e;exact⟨l',e'⟩
   split at BK
   .exact old z BK
   .rcases bc.mp BK with h|h
    .exact old z h
    .rw[aE.mp h];exact⟨_,new⟩
  .by_cases hz:z=v
   .rw[hz];exact .inl hvq
   .exact .inr<|Qk z hz
  .
   have t1:=JV (λ_ o=>un o) (some ⟨lu.d+x,lu.c+1,some (mv,u)⟩) s.aG 0 v ov Qj;have t2:=JV (far π st) (some ⟨lu.d+x,lu.c+1,some (mv,u)⟩) s.aG 0 v ov Qj;have t3:=JV (λ_ o=>cnt o) (some ⟨lu.d+x,lu.c+1,some (mv,u)⟩) s.aG 0 v ov Qj;have lq:(if wv=true then s.queue else s.queue++[v]).length<=s.queue.length+1:=by
    split
    .exact oq _
    .rw[aw];exact ax _
   right;simp only[mu,L3];simp only[i8] at t1 t2 t3;have z1:un (some ⟨lu.d+x,lu.c+1,some (mv,u)⟩)=0:=rfl;have z3:cnt (some ⟨lu.d+x,lu.c+1,some (mv,u)⟩)=lu.c+1:=rfl;have z2:far π st v (some ⟨lu.d+x,lu.c+1,some (mv,u)⟩)=(lu.d+x - (π v - π st)).toNat:=rfl;rw[z1] at t1;rw[z2] at t2;rw[z3] at t3;cases ov with
   |none=>left;have y1:un none=1:=rfl;rw[y1] at t1;lk
   |some l=>
    have l0:=I.lo v l Qj;simp only[near,kL,dQ,bS] at Ec;right;have y1:un (some l)=0:=rfl;have y2:far π st v (some l)=(l.d - (π v - π st)).toNat:=rfl;have y3:cnt (some l)=l.c:=rfl;rw[y1] at t1;rw[y2] at t2;rw[y3] at t3;refine⟨by lk,?_⟩;rcases Ec with h|⟨h,h'⟩
    .left;have e1:(lu.d+x - (π v - π st)).toNat<(l.d - (π v - π st)).toNat:=by lk
     lk
    .right;have e1:(lu.d+x - (π v - π st)).toNat=(l.d - (π v - π st)).toNat:=by rw[h]
     refine⟨by lk,?_⟩;have:=I.pl;lk
  .rw[Qk u<|cp hvu];exact hl
  .unfold mj;k_ne;lk
 .rw[ap hc];refine⟨qj.refl I,hl,λh=>?_⟩;have hn:near (lu.d+x) (lu.c+1) ov=false:=by
   cases e:near (lu.d+x) (lu.c+1) ov with
   |false=>rfl
   |true=>exact absurd ⟨h,e⟩ hc
  let(l,e,q):=aeb hn;subst e;exact⟨l,Qj,q⟩
theorem Zg (F:cY n left out π)(hu:u<n):∀(ms:List Mv) (s:RS),sG n left out π st s->s.aG[u]? =some (some lu)->(∀m∈ms,m∈out u)->
  qj n left out π st s (ms.foldl (relax left u lu.d<|lu.c+1) s)/\(ms.foldl (relax left u lu.d<|lu.c+1) s).aG[u]? =some (some lu)/\ak2 left (ms.foldl (relax left u lu.d<|lu.c+1) s) lu ms
 |[],s,I,hl,_=>(qj.refl I,hl,λ_ h=>nomatch h)
 |m::ms,s,I,hl,hm=>by
  let(a1,a2,a3):=Eb F I hu hl<|hm m ae;let(b1,b2,b3):=Zg (lu:=lu) F hu ms _ a1.ok a2 λm' h'=>hm m'<|aa _ h';refine(a1.trans b1,b2,λm' h' hp=>?_);rcases aI.mp h' with rfl|h'
  .let(lv,e,q):=a3 hp;let(l2,e2,q2):=b1.low _ lv e;exact(l2,e2,q2.trans q)
  .exact b3 m' h' hp
def drop_cons {xs:List α}(h:xs[i]? =some x):xs.drop i=x::xs.drop (i+1):=by let(hl,e):=ab.mp h;rw[fg hl,e]
def Zh {s:RS}(F:cY n left out π)(I:qJ n left out π st s)(hd:¬s.done):qJ n left out π st (jg left out s)/\L3 (mu π st<|jg left out s) (mu π st s):=by
 have dZ:s.place<s.queue.length:=by unfold RS.done at hd;lk
 have hq:s.queue[s.place]? =some s.room:=by unfold RS.room;rw[ag dZ];rfl
 have Ho:=ah hq;have hu:=I.ql _ Ho;let(lu,hl):=I.lq _ Ho;have tQ:s.at=lu:=by unfold RS.at;rw[hl];rfl
 have dc:=drop_cons hq;have I0:sG n left out π st {s with place:=s.place+1,wait:=s.wait.set s.room false}:=by
  refine⟨dZ,I.ll,by show(s.wait.set s.room false).length=n;rw[ce];exact I.wl,I.ql,I.st0,I.lo,I.fr,λv hv=>?_,I.lq⟩;rcases nP (hv) with⟨_,e,_⟩|⟨bA,e⟩
  .cases e
  .have:=I.wq v e;rw[dc] at this;rcases aI.mp this with z|z
   .exact absurd z bA
   .exact z
 have e0:jg left out s=(out s.room).foldl (relax left s.room lu.d<|lu.c+1) {s with place:=s.place+1,wait:=s.wait.set s.room false}:=by unfold jg;rw[tQ]
 let(b1,b2,b3):=Zg F hu (out s.room) _ I0 hl λm h=>h;rw[<-e0] at b1 b2 b3;refine⟨{b1.ok with rel:=λv l e hv=>?_},?_⟩
 .by_cases hvr:v=s.room
  .subst hvr;rw[b2] at e;cases e;exact b3
  .have e1:(jg left out s).aG[v]? =s.aG[v]?:=by
    rcases b1.same v with z|z
    .exact absurd z hv
    .exact z
   rw[e1] at e;have hvq:v∉s.queue.drop s.place:=λz=>by
    rw[dc] at z;rcases aI.mp z with z|z
    .exact hvr z
    .exact hv<|b1.sub v z
   intro m hm hp;let(lv,e2,q):=I.rel v l e hvq m hm hp;let(l2,e3,q2):=b1.low _ lv e2;exact⟨l2,e3,q2.trans q⟩
 .have m0:L3 (mu π st {s with place:=s.place+1,wait:=s.wait.set s.room false}) (mu π st s):=by refine .inr ⟨rfl,.inr ⟨rfl,?_⟩⟩;show 2*tot (λ_ o=>cnt o) 0 s.aG+(s.queue.length - (s.place+1))<2*tot (λ_ o=>cnt o) 0 s.aG+(s.queue.length - s.place);lk
  rcases b1.ms with z|z
  .rw[z];exact m0
  .exact z.trans m0
def ends (F:cY n left out π)(I:qJ n left out π st s):∃m t,Ends left out m s t/\qJ n left out π st t/\t.done:=by
 have dw:∀a:Nat×Nat×Nat,∀s:RS,mu π st s=a->qJ n left out π st s->∃m t,Ends left out m s t/\qJ n left out π st t/\t.done:=λa=>by
  refine L3.wf.induction a (C:=λa=>∀s:RS,mu π st s=a->qJ n left out π st s->∃m t,Ends left out m s t/\qJ n left out π st t/\t.done) λa ih s e I=>?_;by_cases hd:s.done
  .exact(0,s,.stop hd,I,hd)
  .let(I',lt):=Zh F I hd;let(m,t,h,q):=ih _ (e▸lt) _ rfl I';exact(m+1,t,.go hd h,q)
 exact dw _ s rfl I
noncomputable def nG (n st:Nat):RS:={aG:=(replicate n none).set st<|some (0,0,none),wait:=replicate n false,queue:=[st],place:=0}
def Hq (bh:st<n):qJ n left out π st (nG n st):=by
 have hn:∀v (l:Lb),((replicate n<|none).set st<|some ⟨0,0,none⟩)[v]? =some (some l)->v=st/\l=⟨0,0,none⟩:=λv l e=>by
  rcases nP e with⟨rfl,e2,_⟩|⟨_,e2⟩
  .cases e2;exact⟨rfl,rfl⟩
  .rw[g7] at e2;split at e2<;>simp at e2
 have h0:((replicate n (none:Option Lb)).set st<|some ⟨0,0,none⟩)[st]? =some (some ⟨0,0,none⟩):=bq (by simpa using bh);refine⟨⟨dE _,by simp[nG],by simp[nG],λv hv=>?_,h0,λv l e=>?_,λv l e hv=>?_,λv hv=>?_,λv hv=>?_⟩,λv l e hv=>?_⟩
 .have:v=st:=by simpa [nG] using hv
  rw[this];exact bh
 .let(rfl,rfl):=hn v l e;lk
 .exact absurd (hn v l e).1 hv
 .have jF:(replicate n false)[v]? =some true:=hv;rw[g7] at jF;split at jF<;>simp at jF
 .have:v=st:=by simpa [nG] using hv
  rw[this];exact⟨_,h0⟩
 .let(rfl,rfl):=hn v l e;exact absurd (show v∈[v].drop 0 by simp) hv
structure Tree (n:Nat)(left:Nat->Int)(out:Nat->List Mv)(π:Nat->Int)(st:Nat)(aG:List (Option Lb)):Prop where
 ll:aG.length=n
 st0:aG[st]? =some (some (0,0,none))
 fr:∀(v:Nat) (l:Lb),aG[v]? =some (some l)->v≠st->∃(mv u:Nat) (x:Int) (lu:Lb),l.fr=some (mv,u)/\u<n/\(mv,v,x)∈out u/\0<left mv/\aG[u]? =some (some lu)/\l.d=lu.d+x/\l.c=lu.c+1
 rel:∀(u:Nat) (l:Lb) (m:Mv),aG[u]? =some (some l)->m∈out u->0<left m.1->∃lv:Lb,aG[m.2.1]? =some (some lv)/\lv.d<=l.d+m.2.2
 lo:∀(v:Nat) (l:Lb),aG[v]? =some (some l)->π v - π st<=l.d
def amk (I:qJ n left out π st s)(hd:s.done):Tree n left out π st s.aG:=by
 have hq:=mE hd;have rel:∀u (l:Lb) (m:Mv),s.aG[u]? =some (some l)->m∈out u->0<left m.1->∃lv,s.aG[m.2.1]? =some (some lv)/\mj lv (l.d+m.2.2) (l.c+1):=λu l m e hm hp=>I.rel u l e (by rw[hq];simp) m hm hp;refine(I.ll,I.st0,λv l e hv=>?_,λu l m e hm hp=>?_,I.lo)
 .let(mv,u,x,lu,h1,h2,h3,h4,h5,h6):=I.fr v l e hv;let(lv,e2,q):=rel u lu (mv,v,x) h5 h3 h4;have e3:=e2;rw[e] at e3;cases e3;refine(mv,u,x,lu,h1,h2,h3,h4,h5,?_);unfold mj at*
  lk
 .let(lv,e2,q):=rel u l m e hm hp;refine(lv,e2,?_);unfold mj at q;lk
end Sp
namespace Sp
structure aU where
 a:Nat
 b:Nat
 w:Int
 l:Int
structure bx (n:Nat)(ps:List aU):Prop where
 ra:∀q∈ps,q.a<n
 rb:∀q∈ps,q.b<n
 ne:∀q∈ps,q.a≠q.b
 w1:∀q∈ps,1<=q.w
 l1:∀q∈ps,1<=q.l
noncomputable def um:Nat->List aU->Nat->List Mv
 |_,[],_=>[]
 |k,q::ps,u=>(if q.a=u then [(2*k,q.b,q.l)] else [])++((if q.b=u then [(2*k+1,q.a,-q.l)] else [])++um (k+1) ps u)
def bW (ps:List aU)(u:Nat):List Mv:=um 0 ps u
theorem Kw:∀{ps:List aU}{k:Nat},m∈um k ps u↔∃i q,ps[i]? =some q/\((q.a=u/\m=(2*(k+i),q.b,q.l))\/(q.b=u/\m=(2*(k+i)+1,q.a,-q.l)))
 |[],k=>by simp[um]
 |q::ps,k=>by
  have ih:=@Kw u m ps (k+1);simp only[um,bc];constructor
  .rintro(h|h|h)
   .split at h
    .rename_i e;exact⟨0,q,rfl,.inl ⟨e,by simpa using h⟩⟩
    .cases h
   .split at h
    .rename_i e;exact⟨0,q,rfl,.inr ⟨e,by simpa using h⟩⟩
    .cases h
   .let(i,q',e,r):=ih.mp h;have e2:k+1+i=k+(i+1):=by lk
    rw[e2] at r;exact⟨i+1,q',by simpa using e,r⟩
  .rintro⟨i,q',e,r⟩;cases i with
   |zero=>
    have e':q=q':=by simpa using e
    subst e';rcases r with⟨h1,h2⟩|⟨h1,h2⟩
    .left;rw[ar h1];simpa using h2
    .right;left;rw[ar h1];simpa using h2
   |succ i=>
    right;right;have e2:k+(i+1)=k+1+i:=by lk
    rw[e2] at r;exact ih.mpr ⟨i,q',by simpa using e,r⟩
def fU:m∈bW ps u↔∃i q,ps[i]? =some q/\((q.a=u/\m=(2*i,q.b,q.l))\/(q.b=u/\m=(2*i+1,q.a,-q.l))):=by unfold bW;rw[Kw];simp
abbrev Lf:=Nat->Int
structure Laid (ps:List aU)(left:Lf):Prop where
 nn:∀i,0<=left i
 sum:∀i q,ps[i]? =some q->left (2*i)+left (2*i+1)=q.w
noncomputable def gJ (f:Nat->aU->Int):Nat->List aU->Int
 |_,[]=>0
 |k,q::ps=>f k q+gJ f (k+1) ps
theorem yt (f g:Nat->aU->Int):∀(ps:List aU) (k:Nat),gJ (λi q=>f i q+g i q) k ps=gJ f k ps+gJ g k ps
 |[],_=>rfl
 |q::ps,k=>by simp only[gJ,yt f g ps<|k+1];lk
theorem jQ:∀(ps:List aU) (k:Nat),(∀i q,ps[i]? =some q->f (k+i) q=g (k+i) q)->gJ f k ps=gJ g k ps
 |[],_,_=>rfl
 |q::ps,k,h=>by
  simp only[gJ];have h2:=jQ (f:=f) (g:=g) ps (k+1) λi q' e=>by have:=h (i+1) q' (by simpa using e);rwa [show k+(i+1)=k+1+i by lk] at this
  have:=h 0 q rfl;simp only[pv] at this;lk
theorem R7:∀(ps:List aU) (k:Nat),(∀i q,ps[i]? =some q->f (k+i) q<=g (k+i) q)->gJ f k ps<=gJ g k ps
 |[],_,_=>bX _
 |q::ps,k,h=>by
  simp only[gJ];have h2:=R7 ps (k+1) λi q' e=>by have:=h (i+1) q' (by simpa using e);rwa [show k+(i+1)=k+1+i by lk] at this
  have:=h 0 q rfl;lk
theorem qX:∀(ps:List aU) (k:Nat),gJ (λ_ _=>0) k ps=0
 |[],_=>rfl
 |q::ps,k=>by have:=qX ps<|k+1;simp only[gJ];lk
theorem Ed:∀(ps:List aU) (k j:Nat) (q:aU),ps[j]? =some q->(∀i q',ps[i]? =some q'->i≠j->f (k+i) q'=0)->gJ f k ps=f (k+j) q
 |[],_,j,q,h,_=>by simp at h
 |p::ps,k,0,q,h,hz=>by
  have e:p=q:=by simpa using h
  subst e;simp only[gJ,pv]
  have:gJ f (k+1) ps=0:=by rw[jQ (g:=λ_ _=>0) ps (k+1) λi q' e=>by have:=hz (i+1) q' (by simpa using e) ∅;rwa [show k+(i+1)=k+1+i by lk] at this];exact qX ps<|k+1
  lk
 |p::ps,k,j+1,q,h,hz=>by
  simp only[gJ];have h0:=hz 0 p rfl ∅;simp only[pv] at h0;have:=Ed ps (k+1) j q (by simpa using h) λi q' e hi=>by have:=hz (i+1) q' (by simpa using e) ∅;rwa [show k+(i+1)=k+1+i by lk] at this
  lk
noncomputable def b2 (p:Prop)[Decidable p]:Int:=if p then 1 else 0
def net (ps:List aU)(left:Lf)(v:Nat):Int:=gJ (λi q=>left (2*i+1)*(b2 (q.b=v) - b2 (q.a=v))) 0 ps
def cost (ps:List aU)(left:Lf):Int:=gJ (λi q=>left (2*i+1)*q.l) 0 ps
noncomputable def gZ (m:Nat):Nat:=if m % 2=0 then m+1 else m - 1
def move (p:Int)(left:Lf)(m:Nat):Lf:=λi=>if i=m then left i - p else if i=gZ m then left i+p else left i
def lH (ps:List aU)(m u v:Nat)(x:Int):Prop:=(m,v,x)∈bW ps u
def lH.cases (h:lH ps m u v x):∃i q,ps[i]? =some q/\((q.a=u/\q.b=v/\m=2*i/\x=q.l)\/(q.b=u/\q.a=v/\m=2*i+1/\x= -q.l)):=by
 let(i,q,e,h):=fU.mp h;refine(i,q,e,?_);rcases h with⟨h1,h2⟩|⟨h1,h2⟩
 .injection h2 with a b;injection b with b c;exact .inl (h1,b.symm,a,c)
 .injection h2 with a b;injection b with b c;exact .inr (h1,b.symm,a,c)
def mG (i:Nat):gZ (2*i)=2*i+1:=by unfold gZ;rw[ar ∅]
def uI (i:Nat):gZ (2*i+1)=2*i:=by unfold gZ;rw[ap ∅];lk
def aiO (h:lH ps m u v x):net ps (move p left m) z=net ps left z+p*(b2 (v=z) - b2 (u=z)):=by
 let(i,q,e,h):=h.cases;have dw:net ps (move p left m) z - net ps left z=gJ (λj q=>(move p left m (2*j+1) - left (2*j+1))*(b2 (q.b=z) - b2 (q.a=z))) 0 ps:=by unfold net;have:=yt (λj q=>(move p left m (2*j+1) - left (2*j+1))*(b2 (q.b=z) - b2 (q.a=z))) (λj q=>left (2*j+1)*(b2 (q.b=z) - b2 (q.a=z))) ps 0;rw[jQ (g:=λj q=>(move p left m (2*j+1) - left (2*j+1))*(b2 (q.b=z) - b2 (q.a=z))+left (2*j+1)*(b2 (q.b=z) - b2 (q.a=z))) ps 0 λj q _=>by rw[<-il];congr 1;lk];rw[this];lk
 have one:=Ed (f:=λj q=>(move p left m (2*j+1) - left (2*j+1))*(b2 (q.b=z) - b2 (q.a=z))) ps 0 i q e λj q' _ hj=>by
  have:move p left m (2*(0+j)+1)=left (2*(0+j)+1):=by
   unfold move;rcases h with⟨_,_,rfl,_⟩|⟨_,_,rfl,_⟩
   .rw[ap ∅,mG,ap ∅]
   .rw[ap ∅,uI,ap ∅]
  rw[this,Int.sub_self,mM]
 rw[one] at dw;simp only[i8] at dw;rcases h with⟨h1,h2,rfl,_⟩|⟨h1,h2,rfl,_⟩
 .have e1:move p left (2*i) (2*i+1)=left (2*i+1)+p:=by unfold move;rw[ap ∅,mG,ar rfl]
  rw[e1,h1,h2] at dw;rw[show left (2*i+1)+p - left (2*i+1)=p by lk] at dw;lk
 .have e1:move p left (2*i+1) (2*i+1)=left (2*i+1) - p:=by unfold move;rw[ar rfl]
  rw[e1,h1,h2] at dw;rw[show left (2*i+1) - p - left (2*i+1)= -p by lk] at dw;lk
def agi (h:lH ps m u v x):cost ps (move p left m)=cost ps left+p*x:=by
 let(i,q,e,h):=h.cases;have dw:cost ps (move p left m) - cost ps left=gJ (λj q=>(move p left m (2*j+1) - left (2*j+1))*q.l) 0 ps:=by unfold cost;have:=yt (λj q=>(move p left m (2*j+1) - left (2*j+1))*q.l) (λj q=>left (2*j+1)*q.l) ps 0;rw[jQ (g:=λj q=>(move p left m (2*j+1) - left (2*j+1))*q.l+left (2*j+1)*q.l) ps 0 λj q _=>by rw[<-il];congr 1;lk];rw[this];lk
 have one:=Ed (f:=λj q=>(move p left m (2*j+1) - left (2*j+1))*q.l) ps 0 i q e λj q' _ hj=>by
  have:move p left m (2*(0+j)+1)=left (2*(0+j)+1):=by
   unfold move;rcases h with⟨_,_,rfl,_⟩|⟨_,_,rfl,_⟩
   .rw[ap ∅,mG,ap ∅]
   .rw[ap ∅,uI,ap ∅]
  rw[this,Int.sub_self,mM]
 rw[one] at dw;simp only[i8] at dw;rcases h with⟨h1,h2,rfl,h4⟩|⟨h1,h2,rfl,h4⟩
 .have e1:move p left (2*i) (2*i+1)=left (2*i+1)+p:=by unfold move;rw[ap ∅,mG,ar rfl]
  rw[e1,show left (2*i+1)+p - left (2*i+1)=p by lk] at dw;rw[h4];lk
 .have e1:move p left (2*i+1) (2*i+1)=left (2*i+1) - p:=by unfold move;rw[ar rfl]
  rw[e1,show left (2*i+1) - p - left (2*i+1)= -p by lk] at dw;rw[h4,Int.mul_neg,←Int.neg_mul];lk
def aiP (h:lH ps m u v x)(hs:∀i q,ps[i]? =some q->left (2*i)+left (2*i+1)=q.w):∀i q,ps[i]? =some q->move p left m (2*i)+move p left m (2*i+1)=q.w:=by
 intro i q e;have:=hs i q e;let(j,_,_,hj):=h.cases;have hm:m=2*j\/m=2*j+1:=by rcases hj with⟨_,_,h,_⟩|⟨_,_,h,_⟩;exact .inl h;exact .inr h
 unfold move;rcases hm with rfl|rfl
 .rw[mG];lk
 .rw[uI];lk
noncomputable def gn (aG:List (Option Lb)):Nat->Nat->List Nat
 |0,_=>[]
 |c+1,v=>match aG[v]? with
  |some (some l)=>(match l.fr with
   |some (mv,u)=>mv::gn aG c u
   |none=>[])
  |_=>[]
variable {aG:List (Option Lb)}
def lH.uniq (h:lH ps m u v x)(g:lH ps m u' v' x'):u=u'/\v=v'/\x=x':=by
 let(i,q,e,h):=h.cases;let(j,q',e',g):=g.cases;have Ks:i=j:=by rcases h with⟨_,_,h,_⟩|⟨_,_,h,_⟩<;>rcases g with⟨_,_,g,_⟩|⟨_,_,g,_⟩<;>lk
 subst Ks;rw[e] at e';cases e';rcases h with⟨h1,h2,h3,h4⟩|⟨h1,h2,h3,h4⟩<;>rcases g with⟨g1,g2,g3,g4⟩|⟨g1,g2,g3,g4⟩
 .exact(h1.symm.trans g1,h2.symm.trans g2,h4.trans g4.symm)
 .omega
 .omega
 .exact(h1.symm.trans g1,h2.symm.trans g2,h4.trans g4.symm)
def lH.back (h:lH ps m u v x):lH ps (gZ m) v u (-x):=by
 let(i,q,e,h):=h.cases;refine fU.mpr ⟨i,q,e,?_⟩;rcases h with⟨h1,h2,rfl,rfl⟩|⟨h1,h2,rfl,rfl⟩
 .rw[mG];exact .inr ⟨h2,by rw[h1]⟩
 .rw[uI];exact .inl ⟨h2,by rw[h1,Int.neg_neg]⟩
def MJ (T:Tree n left (bW ps) π st aG)(h:aG[v]? =some (some l))(hv:v≠st):
  ∃(mv u:Nat) (x:Int) (lu:Lb),l.fr=some (mv,u)/\u<n/\lH ps mv u v x/\0<left mv/\aG[u]? =some (some lu)/\l.d=lu.d+x/\l.c=lu.c+1/\gn aG l.c v=mv::gn aG lu.c u:=by
 let(mv,u,x,lu,h1,h2,h3,h4,h5,h6,h7):=T.fr v l h hv;refine(mv,u,x,lu,h1,h2,h3,h4,h5,h6,h7,?_);rw[h7];simp only[gn,h,h1]
def uo (T:Tree n left (bW ps) π st aG){P:Nat->Lb->List Nat->Prop}(h0:P st (0,0,none) [])
  (hs:∀(v:Nat) (l:Lb) (mv u:Nat) (x:Int) (lu:Lb) (ms:List Nat),aG[v]? =some (some l)->v≠st->l.fr=some (mv,u)->lH ps mv u v x->0<left mv->aG[u]? =some (some lu)->l.d=lu.d+x->l.c=lu.c+1->ms=gn aG lu.c u->P u lu ms->P v l (mv::ms)):
  ∀(v:Nat) (l:Lb),aG[v]? =some (some l)->P v l (gn aG l.c v):=by
 have dw:∀c v (l:Lb),l.c=c->aG[v]? =some (some l)->P v l (gn aG l.c v):=λc=>by
  induction c with
  |zero=>
   intro v l hc h;by_cases hv:v=st
   .subst hv;rw[T.st0] at h;cases h;exact h0
   .let(mv,u,x,lu,_,_,_,_,_,_,h7,_):=MJ T h hv;lk
  |succ c ih=>
   intro v l hc h;by_cases hv:v=st
   .subst hv;rw[T.st0] at h;cases h;exact h0
   .let(mv,u,x,lu,h1,h2,h3,h4,h5,h6,h7,h8):=MJ T h hv;rw[h8];exact hs v l mv u x lu _ h hv h1 h3 h4 h5 h6 h7 rfl<|ih u lu ∅ h5
 exact λv l h=>dw l.c v l rfl h
def iG (p:Int)(left:Lf)(ms:List Nat):Lf:=ms.foldl (move p) left
def aml (T:Tree n left (bW ps) π st aG)(h:aG[v]? =some (some l)):∀L:Lf,net ps (iG p L<|gn aG l.c v) z=net ps L z+p*(b2 (v=z) - b2 (st=z)):=by
 refine uo T (P:=λv _ ms=>∀L:Lf,net ps (iG p L ms) z=net ps L z+p*(b2 (v=z) - b2 (st=z))) (λL=>?_) (λv l mv u x lu ms _ _ _ hL _ _ _ _ _ ih L=>?_) v l h
 .show net ps L z=_;simp
 .show net ps (iG p (move p L mv) ms) z=_;rw[ih,aiO hL,ko,←kg];grind
def aiQ (T:Tree n left (bW ps) π st aG)(h:aG[v]? =some (some l)):∀L:Lf,cost ps (iG p L<|gn aG l.c v)=cost ps L+p*l.d:=by
 refine uo T (P:=λ_ l ms=>∀L:Lf,cost ps (iG p L ms)=cost ps L+p*l.d) (λL=>?_) (λv l mv u x lu ms _ _ _ hL _ _ hd _ _ ih L=>?_) v l h
 .show cost ps L=_;simp
 .show cost ps (iG p (move p L mv) ms)=_;rw[ih,agi hL,ko,←kg,hd];grind
def amm (T:Tree n left (bW ps) π st aG)(h:aG[v]? =some (some l)):∀L:Lf,(∀i q,ps[i]? =some q->L (2*i)+L (2*i+1)=q.w)->∀i q,ps[i]? =some q->iG p L (gn aG l.c v) (2*i)+iG p L (gn aG l.c v) (2*i+1)=q.w:=by refine uo T (P:=λ_ _ ms=>∀L:Lf,(∀i q,ps[i]? =some q->L (2*i)+L (2*i+1)=q.w)->∀i q,ps[i]? =some q->iG p L ms (2*i)+iG p L ms (2*i+1)=q.w) (λL hs=>hs) (λv l mv u x lu ms _ _ _ hL _ _ _ _ _ ih L hs=>?_) v l h;exact ih _<|aiP hL hs
def JW (T:Tree n left (bW ps) π st aG)(h:aG[v]? =some (some l)):∀m∈gn aG l.c v,∃(u w:Nat) (x:Int) (lu lw:Lb),lH ps m u w x/\0<left m/\aG[u]? =some (some lu)/\aG[w]? =some (some lw)/\lw.d=lu.d+x/\1<=lw.c/\lw.c<=l.c:=by
 refine uo T (P:=λ_ l ms=>∀m∈ms,∃(u w:Nat) (x:Int) (lu lw:Lb),lH ps m u w x/\0<left m/\aG[u]? =some (some lu)/\aG[w]? =some (some lw)/\lw.d=lu.d+x/\1<=lw.c/\lw.c<=l.c) (λ_ hm=>nomatch hm) (λv l mv u x lu ms hv _ _ hL hp hu hd hc _ ih m hm=>?_) v l h;rcases aI.mp hm with rfl|hm
 .exact(u,v,x,lu,l,hL,hp,hu,hv,hd,by lk,ax _)
 .let(u',w,x',lu',lw,a,b,c,d,e,f,g):=ih m hm;exact(u',w,x',lu',lw,a,b,c,d,e,f,by lk)
def Hr (T:Tree n left (bW ps) π st aG)(h:aG[v]? =some (some l)):(gn aG l.c v).Nodup:=by refine uo T (P:=λ_ _ ms=>ms.Nodup) lP (λv l mv u x lu ms hv _ _ hL _ hu _ hc e ih=>?_) v l h;refine bg.mpr ⟨λhm=>?_,ih⟩;subst e;let(u',w,x',lu',lw,a,_,_,d,_,_,g):=JW T hu mv hm;let(_,rfl,_):=hL.uniq a;lk
theorem ab1 (hp:0<=p):∀(ms:List Nat) (L:Lf) (i:Nat),ms.Nodup->L i - (if i∈ms then p else 0)<=iG p L ms i
 |[],L,i,_=>by show L i - (if i∈([]:List Nat) then p else 0)<=L i;simp
 |m::ms,L,i,nd=>by have ih:=ab1 hp ms (move p L m) i (bg.mp nd).2;have hm:=(bg.mp nd).1;show _<=iG p (move p L m) ms i;refine fv ?_ ih;unfold move;grind
theorem Zi (hp:0<=p):∀(ms:List Nat) (L:Lf) (i:Nat),0<iG p L ms i->0<L i\/∃m∈ms,i=gZ m
 |[],L,i,h=>.inl h
 |m::ms,L,i,h=>by
  rcases Zi hp ms (move p L m) i h with h|⟨m',hm,e⟩
  .unfold move at h;by_cases e:i=m
   .rw[ar e] at h;left;lk
   .rw[ap e] at h;by_cases e2:i=gZ m
    .exact .inr (m,ae,e2)
    .rw[ap e2] at h;exact .inl h
  .exact .inr (m',aa _ hm,e)
theorem above (f:Nat->Option Int):∀(n:Nat) (K:Int),∃C:Int,K<=C/\∀v y,v<n->f v=some y->y<=C
 |0,K=>(K,bX _,λ_ _ h=>absurd h<|kS _)
 |n+1,K=>by
  let(C,h1,h2):=above f n K;cases e:f n with
  |none=>exact(C,h1,λv y hv hy=>by
   by_cases z:v=n
   .omega
   .exact h2 v y ∅ hy)
  |some z=>exact(max C z,by lk,λv y hv hy=>by
   by_cases q:v=n
   .omega
   .have:=h2 v y ∅ hy;lk)
def pays (Hh:bx n ps)(F:cY n left (bW ps) π)(T:Tree n left (bW ps) π st aG)(hL:∀m,0<L m->0<left m\/∃(m0 u w:Nat) (x:Int) (lu lw:Lb),m=gZ m0/\lH ps m0 u w x/\aG[u]? =some (some lu)/\aG[w]? =some (some lw)/\lw.d=lu.d+x)(K:Int):
  ∃lJ:Nat->Int,cY n L (bW ps) lJ/\lJ st=0/\(∀v l,aG[v]? =some (some l)->lJ v=l.d)/\∀v,v<n->aG[v]? =some none->K<=lJ v:=by
 let(C1,hK,hC):=above (λv=>match aG[v]? with|some (some l)=>some (l.d - π v)|_=>none) n 0;let(C,hC1,hC2):=above (λv=>some<|K - π v) n C1;refine⟨λv=>match aG[v]? with|some (some l)=>l.d|_=>π v+C,⟨F.room,F.ne,λu m hu hm hp=>?_⟩,by simp only[T.st0],λv l h=>by simp only[h],λv hv h=>?_⟩
 .let(mv,v,x):=m;have hv:=F.room u _ hm;have lu:∃o,aG[u]? =some o:=⟨_,ag (by rw[T.ll];exact hu)⟩;have lv:∃o,aG[v]? =some o:=⟨_,ag (by rw[T.ll];exact hv)⟩;let(ou,eu):=lu;let(ov,ev):=lv;rcases hL mv hp with hp|⟨m0,u0,w0,x0,l0,l1,e,h1,h2,h3,h4⟩
  .have pay:=F.pay u (mv,v,x) hu hm hp;cases ou with
   |some l=>let(lv,e2,q):=T.rel u l (mv,v,x) eu hm hp;simp only[eu];have zc:=e2;simp only[zc];exact q
   |none=>
    simp only[eu];cases ov with
    |none=>simp only[ev];lk
    |some l=>simp only[ev];have:=hC v (l.d - π v) hv (by simp only[ev]);lk
  .have b:=h1.back;rw[<-e] at b;let(rfl,rfl,rfl):=b.uniq<|hm;simp only[h2,h3];lk
 .simp only[h];have:=hC2 v (K - π v) hv rfl;lk
end Sp
namespace Sp
variable {aG:List (Option Lb)}
def Ends.uniq (h:Ends left out m s t)(g:Ends left out m' s t'):t=t'/\m=m':=by
 induction h generalizing m' with
 |stop h=>
  cases g with
  |stop _=>exact⟨rfl,rfl⟩
  |go h' _=>exact absurd h h'
 |go h _ ih=>
  cases g with
  |stop h'=>exact absurd h' h
  |go _ b=>let(h1,h2):=ih b;exact⟨h1,by rw[h2]⟩
inductive Found (n:Nat)(ps:List aU)(st:Nat)(left:Lf)(aG:List (Option Lb)):Prop
 |mk:∀m t,Ends left (bW ps) m (nG n st) t->t.aG=aG->Found n ps st left aG
theorem Found.uniq (h:Found n ps st left aG)(g:Found n ps st left MK):aG=MK:=by let(_,_,a,rfl):=h;let(_,_,b,rfl):=g;rw[(a.uniq b).1]
def bx.room (Hh:bx n ps):∀u m,m∈bW ps u->m.2.1<n:=λu m hm=>by
 let(i,q,e,h):=fU.mp hm;have:=ah e;rcases h with⟨_,rfl⟩|⟨_,rfl⟩
 .exact Hh.rb q this
 .exact Hh.ra q this
def bx.ab2 (Hh:bx n ps):∀u m,m∈bW ps u->m.2.1≠u:=λu m hm=>by
 let(i,q,e,h):=fU.mp hm;have:=Hh.ne q<|ah e;rcases h with⟨h1,rfl⟩|⟨h1,rfl⟩
 .rw[<-h1];exact λz=>this z.symm
 .rw[<-h1];exact this
def jR (F:cY n left (bW ps) π)(bh:st<n)(h:Found n ps st left aG):Tree n left (bW ps) π st aG:=by let(m,t,h,rfl):=h;let(m',t',h',I,hd):=ends F<|Hq bh;let(rfl,rfl):=h.uniq h';exact amk I hd
def finds (F:cY n left (bW ps) π)(bh:st<n):∃aG,Found n ps st left aG:=by let(m',t',h',I,hd):=ends F<|Hq bh;exact(_,m',t',h',rfl)
structure Pushed (n:Nat)(ps:List aU)(st g:Nat)(left:Lf)(len p:Int)(jT:Lf):Prop where
 ex:∃aG l,Found n ps st left aG/\aG[g]? =some (some l)/\len=l.d/\(∃m∈gn aG l.c g,p=left m)/\(∀m∈gn aG l.c g,p<=left m)/\jT=iG p left (gn aG l.c g)
structure St (n:Nat)(ps:List aU)(st:Nat)(left:Lf)(π:Nat->Int):Prop where
 laid:Laid ps left
 fit:cY n left (bW ps) π
 z:π st=0
def amn (T:Tree n left (bW ps) π st aG)(hl:aG[g]? =some (some l))(hp:∃m∈gn aG l.c g,p=left m):0<p:=by let(m,hm,rfl):=hp;let(_,_,_,_,_,_,h,_):=JW T hl m hm;exact h
def oU (Hh:bx n ps)(S:St n ps st left π)(bh:st<n)(P:Pushed n ps st g left len p jT):
  0<p/\π g<=len/\(∃lJ,St n ps st jT lJ/\lJ g=len)/\(∀z,net ps jT z=net ps left z+p*(b2 (g=z) - b2 (st=z)))/\cost ps jT=cost ps left+p*len:=by
 let(aG,l,hF,hl,rfl,hp,avo,rfl):=P.ex;have T:=jR S.fit bh hF;have MN:=amn T hl hp;have lo:=T.lo g l hl;rw[S.z] at lo;let(lJ,f1,f2,f3,_):=pays Hh S.fit T (λm hm=>by
  rcases Zi (i5 MN) _ left m hm with h|⟨m0,hm0,e⟩
  .exact .inl h
  .let(u,w,x,lu,lw,a,_,c,d,e2,_,_):=JW T hl m0 hm0;exact .inr ⟨m0,u,w,x,lu,lw,e,a,c,d,e2⟩) 0
 refine⟨MN,by lk,⟨lJ,⟨⟨λi=>?_,amm T hl left S.laid.sum⟩,f1,f2⟩,f3 g l hl⟩,λz=>aml T hl left,aiQ T hl left⟩;have h:=ab1 (i5 MN) (gn aG l.c g) left i<|Hr T hl;have h2:=S.laid.nn i;by_cases hi:i∈gn aG l.c g
 .rw[ar hi] at h;have:=avo i hi;lk
 .rw[ap hi] at h;lk
inductive Runs (n:Nat)(ps:List aU)(st g:Nat)(iZ:Option Int):Lf->List (Int×Int)->Lf->Prop
 |none {left:Lf} {aG:List (Option Lb)}:Found n ps st left aG->aG[g]? =some none->Runs n ps st g iZ left [] left
 |far {left:Lf} {aG:List (Option Lb)} {l:Lb} {T:Int}:Found n ps st left aG->aG[g]? =some (some l)->iZ=some T->T<l.d->Runs n ps st g iZ left [] left
 |go {left jT cj:Lf} {len p:Int} {r:List (Int×Int)}:Pushed n ps st g left len p jT->(∀T,iZ=some T->len<=T)->Runs n ps st g iZ jT r cj->Runs n ps st g iZ left ((len,p)::r) cj
noncomputable def many (r:List (Int×Int)):Int:=(r.map (·.2)).sum
noncomputable def spent (r:List (Int×Int)):Int:=(r.map λx=>x.2*x.1).sum
def JX (Hh:bx n ps)(bh:st<n)(R:Runs n ps st g iZ left r cj)(S:St n ps st left π):
  (∃lJ,St n ps st cj lJ)/\(∀z,net ps cj z=net ps left z+many r*(b2 (g=z) - b2 (st=z)))/\cost ps cj=cost ps left+spent r/\(∀x∈r,0<x.2/\π g<=x.1/\∀T,iZ=some T->x.1<=T)/\r.Pairwise (λx y=>x.1<=y.1):=by
 induction R generalizing π with
 |none _ _=>exact⟨⟨π,S⟩,λz=>by simp[many],by simp[spent],λ_ h=>(nomatch h),.nil⟩
 |far _ _ _ _=>exact⟨⟨π,S⟩,λz=>by simp[many],by simp[spent],λ_ h=>(nomatch h),.nil⟩
 | @go left jT cj len p r P hl R ih=>
  let(p0,lo,(Ge,S1,e1),n1,c1):=oU Hh S bh P;let(a,b,c,d,e):=ih S1;refine⟨a,λz=>?_,?_,λx hx=>?_,List.Pairwise.cons (λx hx=>?_) e⟩
  .rw[b z,n1 z,ko,←il];simp[many]
  .rw[c,c1,ko];simp[spent]
  .rcases aI.mp hx with rfl|hx
   .exact⟨p0,lo,hl⟩
   .let(q1,q2,q3):=d x hx;rw[e1] at q2;exact⟨q1,by lk,q3⟩
  .have:=(d x hx).2.1;rw[e1] at this;exact this
theorem cY.min (hp:cY n L out p)(hq:cY n L out q):cY n L out λv=>min (p v) (q v):=
 (hp.room,hp.ne,λu m hu hm h=>by have:=hp.pay u m hu hm h;have:=hq.pay u m hu hm h;lk)
def cY.shift (k:Int)(hp:cY n L out p):cY n L out λv=>p v+k:=
 (hp.room,hp.ne,λu m hu hm h=>by have:=hp.pay u m hu hm h;lk)
def aec (Hh:bx n ps)(bh:st<n)(hg:g<n)(R:Runs n ps st g (some T) left r cj)(S:St n ps st left π):
  ∃lJ,cY n cj (bW ps) lJ/\lJ st=0/\T+1<=lJ g/\((r≠[]\/π g<=T)->lJ g=T+1):=by
 induction R generalizing π with
 | @none left aG hF hn=>
  have Tr:=jR S.fit bh hF;let(lJ,f1,f2,f3,f4):=pays Hh S.fit Tr (λm hm=>.inl hm)<|T+1;have hK:=f4 g hg hn;by_cases Zj:π g<=T
  .refine(λv=>min (lJ v)<|π v+(T+1 - π g),f1.min<|S.fit.shift _,?_,?_,λ_=>?_)
   .simp only[f2,S.z];lk
   .simp only;lk
   .simp only;lk
  .refine(lJ,f1,f2,hK,λh=>?_);rcases h with h|h
   .exact absurd rfl h
   .exact absurd h Zj
 | @far left aG l T2 hF hl hT dZ=>
  cases hT;have Tr:=jR S.fit bh hF;let(lJ,f1,f2,f3,f4):=pays Hh S.fit Tr (λm hm=>.inl hm) 0;have hK:=f3 g l hl;by_cases Zj:π g<=T
  .refine(λv=>min (lJ v)<|π v+(T+1 - π g),f1.min<|S.fit.shift _,?_,?_,λ_=>?_)
   .simp only[f2,S.z];lk
   .simp only;lk
   .simp only;lk
  .refine(lJ,f1,f2,by lk,λh=>?_);rcases h with h|h
   .exact absurd rfl h
   .exact absurd h Zj
 |go P hl R ih=>
  let(p0,lo,(Ge,S1,e1),n1,c1):=oU Hh S bh P;let(lJ,a,b,c,d):=ih S1
  have:Ge g<=T:=by rw[e1];exact hl T rfl
  exact(lJ,a,b,c,λ_=>d<|.inr this)
def Zk (R:Runs n ps st g none left r cj):∃jT,Runs n ps st g (some T) left (r.takeWhile λx=>decide<|x.1<=T) jT:=by
 induction R with
 |none hF hn=>exact⟨_,.none hF hn⟩
 |far _ _ e9 _=>lk
 | @go left jT cj len p r P hl R ih=>
  by_cases h:len<=T
  .let(l',R'):=ih;refine⟨l',?_⟩;rw[lj<|by simpa using h];exact .go P (λT' e=>by cases e;exact h) R'
  .let(aG,l,hF,tK,e,_):=P.ex;refine⟨left,?_⟩;rw[lp<|by simpa using h];exact .far hF tK rfl ∅
noncomputable def gK (ps:List aU):Lf:=λi=>if i % 2=0 then(match ps[i/2]? with|some q=>q.w|none=>0) else 0
def aed (ps:List aU)(i:Nat)(h:ps[i]? =some q):gK ps (2*i)=q.w:=by unfold gK;rw[ar ∅,show 2*i/2=i by lk,h]
def vh (ps:List aU)(i:Nat):gK ps (2*i+1)=0:=by unfold gK;rw[ap ∅]
def vo (Hh:bx n ps):St n ps st (gK ps) (λv=>if v=st then 0 else 1):=by
 refine⟨⟨λi=>?_,λi q e=>by rw[aed ps i e,vh];lk⟩,⟨Hh.room,Hh.ab2,λu m hu hm hp=>?_⟩,by simp⟩
 .unfold gK;split
  .split
   .rename_i q e;have:=Hh.w1 q<|ah e;lk
   .simp
  .simp
 .let(i,q,e,h):=fU.mp hm;have hq:=ah e;have h1:=Hh.l1 q hq;rcases h with⟨_,rfl⟩|⟨_,rfl⟩
  .omega
  .exfalso;have:=vh ps i;lk
def wide (ps:List aU):Int:=gJ (λ_ q=>q.w) 0 ps
def amo (L:Laid ps left)(z:Nat): - wide ps<=net ps left z/\net ps left z<=wide ps:=by
 have hb:∀p [Decidable p],b2 p=0\/b2 p=1:=λp _=>by unfold b2;split;exact .inr rfl;exact .inl rfl
 have dw:∀i q,ps[i]? =some q→-q.w<=left (2*i+1)*(b2 (q.b=z) - b2 (q.a=z))/\left (2*i+1)*(b2 (q.b=z) - b2 (q.a=z))<=q.w:=λi q e=>by have h1:=L.sum i q e;have h2:=L.nn<|2*i;have h3:=L.nn<|2*i+1;rcases hb (q.b=z) with e1|e1<;>rcases hb (q.a=z) with e2|e2<;>rw[e1,e2]<;>lk
 constructor
 .have h:=R7 ps 0 λi q e=>by simpa using(dw i q e).1
  have e:gJ (λ_ q=>-q.w) 0 ps= - wide ps:=by have:=yt (λ_ q=>-q.w) (λ_ q=>q.w) ps 0;rw[jQ (g:=λ_ _=>0) ps 0 λi q _=>by lk,qX] at this;unfold wide;lk
  unfold net;lk
 .exact R7 ps 0 λi q e=>by simpa using(dw i q e).2
def rest (ps:List aU)(g:Nat)(left:Lf):Nat:=(wide ps - net ps left g).toNat
def agj (Hh:bx n ps)(S:St n ps st left π)(bh:st<n)(bA:st≠g)(P:Pushed n ps st g left len p jT):rest ps g jT<rest ps g left:=by
 let(p0,_,(Ge,S1,_),n1,_):=oU Hh S bh P;have h1:=n1 g;have h2:=(amo S1.laid g).2;have e1:b2 (g=g)=1:=by simp[b2]
 have e2:b2 (st=g)=0:=by simp[b2,bA]
 rw[e1,e2] at h1;unfold rest;lk
end Sp
namespace Sp
noncomputable def f9 (s:List (Int×Int))(x:Int×Int):List (Int×Int):=match s.getLast? with
 |some y=>if y.1=x.1 then s.dropLast++[(x.1,y.2+x.2)] else s++[x]
 |none=>s++[x]
def grouped (r:List (Int×Int)):List (Int×Int):=r.foldl f9 []
noncomputable def wsum (φ:Int->Int)(r:List (Int×Int)):Int:=(r.map λx=>x.2*φ x.1).sum
def uJ (φ:Int->Int)(a b:List (Int×Int)):wsum φ (a++b)=wsum φ a+wsum φ b:=by simp[wsum]
def Ef (φ:Int->Int)(x:Int×Int):wsum φ [x]=x.2*φ x.1:=by simp[wsum]
def mR (φ:Int->Int)(x:Int×Int)(r:List (Int×Int)):wsum φ (x::r)=x.2*φ x.1+wsum φ r:=by simp[wsum]
theorem wO:∀{s:List α}{y:α},s.getLast? =some y->s=s.dropLast++[y]
 |[],_,h=>by simp at h
 |[a],y,h=>by
  have:a=y:=by simpa using h
  rw[this];rfl
 |a::b::r,y,h=>by have ih:=wO (s:=b::r) (y:=y) (by simpa using h);show a::b::r=a::((b::r).dropLast++[y]);rw[<-ih]
def abj (φ:Int->Int)(s:List (Int×Int))(x:Int×Int):wsum φ (f9 s x)=wsum φ s+x.2*φ x.1:=by
 unfold f9;cases e:s.getLast? with
 |none=>simp only;rw[uJ,Ef]
 |some y=>
  simp only;split
  .rename_i h;have e2:=wO e;have e3:wsum φ s=wsum φ s.dropLast+y.2*φ y.1:=by rw[<-Ef,←uJ,←e2]
   rw[uJ,Ef,e3,h,il];lk
  .rw[uJ,Ef]
def uK (φ:Int->Int)(r:List (Int×Int)):wsum φ (grouped r)=wsum φ r:=by
 have dw:∀r s,wsum φ (r.foldl f9 s)=wsum φ s+wsum φ r:=λr=>by
  induction r with
  |nil=>intro s;simp[wsum]
  |cons x r ih=>intro s;rw[iP,ih,abj,mR];lk
 unfold grouped;rw[dw];simp[wsum]
structure R8 (s:List (Int×Int)):Prop where
 up:s.Pairwise λx y=>x.1<y.1
 pos:∀x∈s,1<=x.1/\1<=x.2
def Zm (R:R8 s)(hx:1<=x.1/\1<=x.2)(hl:∀y∈s,y.1<=x.1):R8 (f9 s x)/\∀y∈f9 s x,y.1<=x.1:=by
 unfold f9;cases e:s.getLast? with
 |none=>
  have:s=[]:=by simpa using e
  subst this;have one:∀y,y∈([])++[x]->y=x:=λy hy=>by simpa using hy
  refine⟨⟨by simp,λy hy=>?_⟩,λy hy=>?_⟩
  .rw[one y hy];exact hx
  .rw[one y hy];exact bX _
 |some y=>
  have e2:=wO e;have hy:y∈s:=by rw[e2];simp
  have up:=R.up;rw[e2,jI] at up;let(u1,_,u3):=up;simp only;split
  .rename_i h;refine⟨⟨jI.mpr ⟨u1,by simp,λa ha b hb=>?_⟩,λa ha=>?_⟩,λa ha=>?_⟩
   .have:b=(x.1,y.2+x.2):=by simpa using hb
    rw[this,←h];exact u3 a ha y<|by simp
   .rcases bc.mp ha with ha|ha
    .exact R.pos a (by rw[e2];exact dA _ ha)
    .have:a=(x.1,y.2+x.2):=by simpa using ha
     have:=R.pos y hy;subst a;simp only;lk
   .rcases bc.mp ha with ha|ha
    .exact hl a (by rw[e2];exact dA _ ha)
    .have:a=(x.1,y.2+x.2):=by simpa using ha
     rw[this];exact bX _
  .rename_i h;refine⟨⟨jI.mpr ⟨R.up,by simp,λa ha b hb=>?_⟩,λa ha=>?_⟩,λa ha=>?_⟩
   .have:b=x:=by simpa using hb
    rw[this];have h1:=hl a ha;have h2:=hl y hy;rw[e2] at ha;rcases bc.mp ha with ha|ha
    .have:=u3 a ha y (by simp);lk
    .have:a=y:=by simpa using ha
     rw[this];lk
   .rcases bc.mp ha with ha|ha
    .exact R.pos a ha
    .have:a=x:=by simpa using ha
     rw[this];exact hx
   .rcases bc.mp ha with ha|ha
    .exact hl a ha
    .have:a=x:=by simpa using ha
     rw[this];exact bX _
theorem yu:∀(r s:List (Int×Int)),r.Pairwise (λx y=>x.1<=y.1)->(∀x∈r,1<=x.1/\1<=x.2)->R8 s->(∀x∈r,∀y∈s,y.1<=x.1)->R8 (r.foldl f9 s)
 |[],_,_,_,R,_=>R
 |x::r,s,hp,hx,R,hl=>by let(h1,h2):=Zm R (hx x ae)<|hl x ae;let(p1,p2):=kD.mp hp;refine yu r _ p2 (λy hy=>hx y<|aa _ hy) h1 λy hy z hz=>?_;have:=h2 z hz;have:=p1 y hy;lk
theorem MP:∀(r:List (Int×Int)),r.Pairwise (λx y=>x.1<=y.1)->wsum (λl=>if l<=T then T+1 - l else 0) r=wsum (λl=>T+1 - l) (r.takeWhile λx=>decide<|x.1<=T)
 |[],_=>rfl
 |x::r,hp=>by
  let(p1,p2):=kD.mp hp;by_cases h:x.1<=T
  .rw[lj<|by simpa using h,mR,mR,ar h,MP r p2]
  .rw[lp<|by simpa using h]
   have:∀(r:List (Int×Int)),(∀y∈r,¬y.1<=T)->wsum (λl=>if l<=T then T+1 - l else 0) r=0:=λr=>by
    induction r with
    |nil=>intro _;rfl
    |cons y r ih=>intro hy;rw[mR,ap<|hy y ae,ih λz hz=>hy z<|aa _ hz];lk
   rw[this (x::r) λy hy=>by
    grind]
   rfl
theorem zF [DecidableEq α]:∀{l m:List α},l.Nodup->(∀x∈l,x∈m)->l.length<=m.length
 |[],_,_,_=>dE _
 |x::l,m,h,s=>by
  have hx:x∈m:=s x ae;have h1:l.length<=(m.erase x).length:=zF (bg.mp h).2 λy hy=>by grind
  grind
def lR {l:List Nat}(h:l.Nodup)(hl:∀x∈l,x<n):l.length<=n:=by have:=zF h λx hx=>ja.mpr<|hl x hx;rwa [ky] at this
def abk {l:List (Nat×Nat)}(h:l.Nodup)(hl:∀x∈l,x.1<n/\x.2<n):l.length<=n*n:=by
 have h2:(l.map λx=>x.1*n+x.2).Nodup:=by
  rw[List.Nodup,kx];refine l7 (λ{a b} ha hb bA e=>bA ?_) h;let(a1,a2):=hl a ha;let(b1,b2):=hl b hb;have q1:a.1=b.1:=by
   rcases Nat.lt_trichotomy a.1 b.1 with z|z|z
   .have:(a.1+1)*n<=b.1*n:=jv n z
    lk
   .exact z
   .have:(b.1+1)*n<=a.1*n:=jv n z
    lk
  grind
 have:=lR (n:=n*n) h2 λx hx=>by
  let(a,ha,rfl):=bp.mp hx;let(a1,a2):=hl a ha
  have:(a.1+1)*n<=n*n:=jv n a1
  lk
 grind
variable {st:Nat}
def sI (n:Nat)(π:Nat->Int)(aG:List (Option Lb))(v:Nat)(l:Lb):Prop:=
 ∃Uz:List Nat,Uz.Nodup/\Uz.length=l.c+1/\∀y∈Uz,y<n/\∃(dy:Int) (cy:Nat) (ly:Lb),aG[y]? =some (some ly)/\mj ly dy cy/\π v<=π y+(l.d - dy)/\cy<=l.c
def Paths (n:Nat)(π:Nat->Int)(aG:List (Option Lb)):Prop:=∀v l,aG[v]? =some (some l)->sI n π aG v l
def sI.lt {aG:List (Option Lb)}(h:sI n π aG v l):l.c<n:=by let(Uz,nd,hl,h):=h;have:=lR nd λy hy=>(h y hy).1;lk
def sI.low (aiR:∀(v:Nat) (l:Lb),aG[v]? =some (some l)->∃l':Lb,MK[v]? =some (some l')/\mj l' l.d l.c)(h:sI n π aG v l):sI n π MK v l:=by let(Uz,nd,hl,h):=h;refine(Uz,nd,hl,λy hy=>?_);let(h1,dy,cy,ly,h2,h3,h4,h5):=h y hy;let(ly',e,q):=aiR y ly h2;exact(h1,dy,cy,ly',e,q.trans h3,h4,h5)
def sI.more (h:sI n π aG u lu)(hv:v<n)(aiN:π v<=π u+x)(Ec:near (lu.d+x) (lu.c+1) (aG[v]?.getD none)=true)
  (aiR:∀(v:Nat) (l:Lb),aG[v]? =some (some l)->∃l':Lb,MK[v]? =some (some l')/\mj l' l.d l.c)(uc:MK[v]? =some (some ⟨lu.d+x,lu.c+1,fr⟩)):sI n π MK v ⟨lu.d+x,lu.c+1,fr⟩:=by
 let(Uz,nd,hl,h):=h;refine⟨v::Uz,bg.mpr ⟨λhm=>?_,nd⟩,by rw[ay,hl],λy hy=>?_⟩
 .let(_,dy,cy,ly,h2,h3,h4,h5):=h v hm;rw[h2] at Ec;simp only[getD_some,near,kL,dQ,bS] at Ec;unfold mj at h3;lk
 .rcases aI.mp hy with rfl|hy
  .refine⟨hv,lu.d+x,lu.c+1,_,uc,.inr ⟨rfl,ax _⟩,?_,ax _⟩;lk
  .let(h1,dy,cy,ly,h2,h3,h4,h5):=h y hy;let(ly',e,q):=aiR y ly h2;refine⟨h1,dy,cy,ly',e,q.trans h3,?_,?_⟩
   .omega
   .omega
structure QP (n:Nat)(p:Nat)(b:Nat)(s:RS)(ju:List Nat):Prop where
 len:ju.length=s.queue.length
 lt:∀x∈ju,x<n
 nd:(s.queue.zip ju).Nodup
 old:∀(j:Nat) x,j<s.place->ju[j]? =some x->x<=p
 Zn:∀(j:Nat) x,s.place<=j->ju[j]? =some x->p<=x/\x<=p+1
 srt:∀(i j:Nat) x y,s.place<=i->i<=j->ju[i]? =some x->ju[j]? =some y->x<=y
 cnt:∀(j:Nat) x v l,s.place<=j->ju[j]? =some x->s.queue[j]? =some v->s.aG[v]? =some (some l)->x<=l.c
 wt:∀(j:Nat) v,b<=j->s.queue[j]? =some v->s.wait[v]? =some true
 one:∀(i j:Nat) v,s.place<=i->s.place<=j->s.queue[i]? =some v->s.queue[j]? =some v->i=j
def QP.bound {p b:Nat}(h:QP n p b s ju)(hq:∀v∈s.queue,v<n):s.queue.length<=n*n:=by have:=abk h.nd λx hx=>⟨hq _ (jS hx).1,h.lt _ (jS hx).2⟩;rw[ng,h.len,Nat.min_self] at this;exact this
def lA (h:(xs++[a])[j]? =some x):(j<xs.length/\xs[j]? =some x)\/(j=xs.length/\x=a):=by
 by_cases hj:j<xs.length
 .rw[bP hj] at h;exact .inl ⟨hj,h⟩
 .rw[cr ∅] at h
  have:j - xs.length=0:=by
   by_cases z:j - xs.length=0
   .exact z
   .rw[bu (by simp;lk)] at h;cases h
  rw[this] at h;exact .inr ⟨by lk,by simpa using h.symm⟩
def Zo (F:cY n left out π)(I:sG n left out π st s)(Q:QP n p s.place s ju)(hP:Paths n π s.aG)(hu:u<n)(hl:s.aG[u]? =some (some lu))(hm:m∈out u)(hp:p<=lu.c):
  ∃Eh,QP n p (relax left u lu.d (lu.c+1) s m).place (relax left u lu.d (lu.c+1) s m) Eh/\Paths n π (relax left u lu.d (lu.c+1) s m).aG:=by
 let(a1,_,_):=Eb F I hu hl hm;let(mv,v,x):=m;have Kv:=F.room u _ hm;have hvl:v<s.aG.length:=by rw[I.ll];exact Kv
 have hvw:v<s.wait.length:=by rw[I.wl];exact Kv
 by_cases hc:0<left mv/\near (lu.d+x) (lu.c+1) (s.aG[v]?.getD none)=true
 .have low:=a1.low;have e:relax left u lu.d (lu.c+1) s (mv,v,x)={s with aG:=s.aG.set v<|some ⟨lu.d+x,lu.c+1,some (mv,u)⟩,wait:=if s.wait[v]?.getD false=true then s.wait else s.wait.set v true,queue:=if s.wait[v]?.getD false=true then s.queue else s.queue++[v]}:=by unfold relax;rw[ar hc]
  rw[e] at low ⊢;have aiN:=F.pay u _ hu hm hc.1;have uc:(s.aG.set v<|some (lu.d+x,lu.c+1,some (mv,u)))[v]? =some (some (lu.d+x,lu.c+1,some (mv,u))):=bq hvl;have PN:=(hP u lu hl).more Kv aiN hc.2 low uc;have Ql:Paths n π (s.aG.set v<|some (lu.d+x,lu.c+1,some (mv,u))):=λw l ew=>by
   rcases nP ew with⟨rfl,e2,_⟩|⟨bA,e2⟩
   .cases e2;exact PN
   .exact(hP w l e2).low low
  have cn:=PN.lt;have aoP:∀j y w l,s.place<=j->ju[j]? =some y->s.queue[j]? =some w->(s.aG.set v<|some (lu.d+x,lu.c+1,some (mv,u)))[w]? =some (some l)->y<=l.c:=λj y w l hj e1 e2 e3=>by
   rcases nP e3 with⟨rfl,e4,_⟩|⟨bA,e4⟩
   .cases e4;have:=(Q.Zn j y hj e1).2;lk
   .exact Q.cnt j y w l hj e1 e2 e4
  by_cases hw:s.wait[v]?.getD false=true
  .simp only[hw,fA];exact(ju,(Q.len,Q.lt,Q.nd,Q.old,Q.Zn,Q.srt,aoP,Q.wt,Q.one),Ql)
  .simp only[hw];have Zq:∀j,s.place<=j->s.queue[j]? ≠some v:=λj hj e2=>by have:=Q.wt j v hj e2;rw[this] at hw;exact hw rfl
   refine(ju++[p+1],(?_,?_,?_,?_,?_,?_,?_,?_,?_),Ql)
   .show(ju++[p+1]).length=(s.queue++[v]).length;rw[aw,aw,Q.len];rfl
   .intro y hy;rcases bc.mp hy with hy|hy
    .exact Q.lt y hy
    .have:y=p+1:=by simpa using hy
     lk
   .show((s.queue++[v]).zip<|ju++[p+1]).Nodup;rw[List.zip_append Q.len.symm,fz];refine(Q.nd,by simp,λa ha b hb vp=>?_);have xV:b=(v,p+1):=by simpa using hb
    subst xV;subst vp;let(j,hj):=gI.mp ha;rw[gh] at hj;by_cases hjp:s.place<=j
    .exact Zq j hjp hj.1
    .have:=Q.old j _ ∅ hj.2;simp at this;lk
   .intro j y hj e2;rcases lA e2 with⟨_,e2⟩|⟨e2,_⟩
    .exact Q.old j y hj e2
    .have h1:=I.pl;have h2:=Q.len;have Ky:=hj;lk
   .intro j y hj e2;rcases lA e2 with⟨_,e2⟩|⟨_,e2⟩
    .exact Q.Zn j y hj e2
    .omega
   .intro i j y z hi Ks e1 e2;rcases lA e1 with⟨h1,e1⟩|⟨h1,e1⟩
    .rcases lA e2 with⟨_,e2⟩|⟨_,e2⟩
     .exact Q.srt i j y z hi Ks e1 e2
     .have:=(Q.Zn i y hi e1).2;lk
    .rcases lA e2 with⟨h2,e2⟩|⟨_,e2⟩
     .omega
     .omega
   .intro j y w l hj e1 e2 e3;rcases lA e1 with⟨h1,e1⟩|⟨h1,e1⟩
    .rcases lA (e2) with⟨_,e2⟩|⟨h2,_⟩
     .exact aoP j y w l hj e1 e2 e3
     .have:=Q.len;lk
    .rcases lA (e2) with⟨h2,_⟩|⟨_,e2⟩
     .have:=Q.len;lk
     .subst e2;have e3':=e3;rw[uc] at e3';cases e3';lk
   .intro j w hj e2;show(s.wait.set v true)[w]? =some true;rcases lA (e2) with⟨_,e2⟩|⟨_,e2⟩
    .by_cases Uy:w=v
     .subst Uy;exact bq hvw
     .rw[bv<|cp Uy];exact Q.wt j w hj e2
    .subst e2;exact bq hvw
   .intro i j w hi hj e1 e2;rcases lA (e1) with⟨h1,g1⟩|⟨h1,g1⟩
    .rcases lA (e2) with⟨_,g2⟩|⟨_,g2⟩
     .exact Q.one i j w hi hj g1 g2
     .rw[g2] at g1;exact absurd g1<|Zq i hi
    .rcases lA (e2) with⟨_,g2⟩|⟨h2,_⟩
     .rw[g1] at g2;exact absurd g2<|Zq j hj
     .omega
 .have e:relax left u lu.d (lu.c+1) s (mv,v,x)=s:=by unfold relax;rw[ap hc]
  rw[e];exact(ju,Q,hP)
theorem Zr (F:cY n left out π)(hu:u<n)(hp:p<=lu.c):∀(ms:List Mv) (s:RS) (ju:List Nat),sG n left out π st s->QP n p s.place s ju->Paths n π s.aG->s.aG[u]? =some (some lu)->(∀m∈ms,m∈out u)->
  ∃Eh,QP n p (ms.foldl (relax left u lu.d<|lu.c+1) s).place (ms.foldl (relax left u lu.d<|lu.c+1) s) Eh/\Paths n π (ms.foldl (relax left u lu.d<|lu.c+1) s).aG
 |[],s,ju,_,Q,hP,_,_=>(ju,Q,hP)
 |m::ms,s,ju,I,Q,hP,hl,hm=>by let(a1,a2,_):=Eb F I hu hl<|hm m ae;let(Eh,Q',Ql):=Zo F I Q hP hu hl (hm m ae) hp;exact Zr F hu hp ms _ Eh a1.ok Q' Ql a2 λm' h'=>hm m'<|aa _ h'
def QI (n:Nat)(π:Nat->Int)(s:RS):Prop:=(∃p ju,QP n p (s.place+1) s ju)/\Paths n π s.aG
def QP.next (Q:QP n p (s.place+1) s ju)(I:qJ n left out π st s)(hq:s.queue[s.place]? =some s.room)(Hs:ju[s.place]? =some p'):QP n p' (s.place+1) {s with place:=s.place+1,wait:=s.wait.set s.room false} ju:=by
 have hpp:=Q.Zn s.place p' (ax _) Hs;refine⟨Q.len,Q.lt,Q.nd,λj x hj e=>?_,λj x hj e=>?_,λi j x y hi Ks e1 e2=>Q.srt i j x y (by have:s.place+1<=i:=hi;lk) Ks e1 e2,λj x v l hj e1 e2 e3=>Q.cnt j x v l (by have:s.place+1<=j:=hj;lk) e1 e2 e3,λj v hj e=>?_,λi j v hi hj e1 e2=>Q.one i j v (by have:s.place+1<=i:=hi;lk) (by have:=hj;lk) e1 e2⟩
 .have Ky:=hj;by_cases z:j=s.place
  .omega
  .have:=Q.old j x ∅ e;lk
 .have Ky:=hj;refine⟨Q.srt s.place j p' x (ax _) ∅ Hs e,?_⟩;have:=(Q.Zn j x ∅ e).2;lk
 .have Ky:=hj;have bA:v≠s.room:=λz=>by subst z;have:=Q.one j s.place s.room ∅ (ax _) e hq;lk
  rw[bv<|cp bA];exact Q.wt j v Ky e
def amq (F:cY n left out π)(I:qJ n left out π st s)(hQ:QI n π s)(hd:¬s.done):QI n π (jg left out s):=by
 let((p,ju,Q),hP):=hQ;have dZ:s.place<s.queue.length:=by unfold RS.done at hd;lk
 have hq:s.queue[s.place]? =some s.room:=by unfold RS.room;rw[ag dZ];rfl
 have Ho:=ah hq;have hu:=I.ql _ Ho;let(lu,hl):=I.lq _ Ho;have tQ:s.at=lu:=by unfold RS.at;rw[hl];rfl
 have dc:=drop_cons hq;have I0:sG n left out π st {s with place:=s.place+1,wait:=s.wait.set s.room false}:=by
  refine⟨dZ,I.ll,by show(s.wait.set s.room false).length=n;rw[ce];exact I.wl,I.ql,I.st0,I.lo,I.fr,λv hv=>?_,I.lq⟩;rcases nP (hv) with⟨_,e,_⟩|⟨bA,e⟩
  .cases e
  .have:=I.wq v e;rw[dc] at this;rcases aI.mp this with z|z
   .exact absurd z bA
   .exact z
 have e0:jg left out s=(out s.room).foldl (relax left s.room lu.d<|lu.c+1) {s with place:=s.place+1,wait:=s.wait.set s.room false}:=by unfold jg;rw[tQ]
 obtain⟨p',Hs⟩:∃p',ju[s.place]? =some p':=⟨_,ag (by rw[Q.len];exact dZ)⟩;have Q0:=Q.next I hq Hs
 let(Eh,Q',Ql):=Zr F hu (Q.cnt s.place p' s.room lu (ax _) Hs hq hl) (out s.room) _ ju I0 Q0 hP hl λm h=>h;rw[<-e0] at Q' Ql;exact⟨⟨p',Eh,⟨Q'.len,Q'.lt,Q'.nd,Q'.old,Q'.Zn,Q'.srt,Q'.cnt,λj v hj e=>Q'.wt j v ∅ e,Q'.one⟩⟩,Ql⟩
def aiS (bh:st<n):QI n π (nG n st):=by
 have h0:((replicate n (none:Option Lb)).set st<|some ⟨0,0,none⟩)[st]? =some (some ⟨0,0,none⟩):=bq (by simpa using bh);have hn:∀v (l:Lb),((replicate n<|none).set st<|some ⟨0,0,none⟩)[v]? =some (some l)->v=st/\l=⟨0,0,none⟩:=λv l e=>by
  rcases nP e with⟨rfl,e2,_⟩|⟨_,e2⟩
  .cases e2;exact⟨rfl,rfl⟩
  .rw[g7] at e2;split at e2<;>simp at e2
 refine⟨⟨0,[0],⟨rfl,λx hx=>?_,by simp[nG],λj x hj e=>?_,λj x hj e=>?_,λi j x y _ Ks e1 e2=>?_,λj x v l _ e1 e2 e3=>?_,λj v hj e=>?_,λi j v _ _ e1 e2=>?_⟩⟩,λv l e=>?_⟩
 .have:x=0:=by simpa using hx
  lk
 .exact absurd hj<|kS _
 .have:x=0:=by
   cases j with
   |zero=>simpa using e.symm
   |succ j=>simp at e
  lk
 .have:x=0:=by
   cases i with
   |zero=>simpa using e1.symm
   |succ i=>simp at e1
  lk
 .have:x=0:=by
   cases j with
   |zero=>simpa using e1.symm
   |succ j=>simp at e1
  lk
 .have Ky:=hj;have e':([st]:List Nat)[j]? =some v:=e;rw[bu (by simp;lk)] at e';cases e'
 .have z:∀{k:Nat},([st])[k]? =some v->k=0:=λ{k} e=>by
   cases k with
   |zero=>rfl
   |succ k=>simp at e
  rw[z e1,z e2]
 .let(rfl,rfl):=hn v l e;refine⟨[v],by simp,rfl,λy hy=>?_⟩
  have:y=v:=by simpa using hy
  subst this;exact⟨bh,0,0,_,h0,.inr ⟨rfl,ax _⟩,by show π y<=π y+(0 - 0);lk,ax _⟩
end Sp
namespace Sp
variable {aG:List (Option Lb)}
def agl (T:Tree n left (bW ps) π st aG)(bA:st≠g)(h:aG[g]? =some (some l)):gn aG l.c g≠[]:=by let(mv,u,x,lu,_,_,_,_,_,_,_,h8):=MJ T h<|cp bA;lk
theorem Zt (f:α->Int):∀(xs:List α),xs≠[]->∃p,(∃m∈xs,p=f m)/\∀m∈xs,p<=f m
 |[x],_=>(f x,(x,by simp,rfl),λm hm=>by rw[aE.mp hm];exact bX _)
 |x::y::r,_=>by let(p,(m,hm,e),h):=Zt f (y::r) (by simp);grind
def ab3 (Hh:bx n ps)(bh:st<n)(hg:g<n)(bA:st≠g)(S:St n ps st left π):∃r cj,Runs n ps st g iZ left r cj:=by
 have dw:∀k (left:Lf) (π:Nat->Int),rest ps g left=k->St n ps st left π->∃r cj,Runs n ps st g iZ left r cj:=λk=>by
  induction k using Nat.strongRecOn with
  |_ k ih=>
   intro left π hk S;let(aG,hF):=finds S.fit bh;have T:=jR S.fit bh hF;obtain⟨o,ho⟩:∃o,aG[g]? =some o:=⟨_,ag (by rw[T.ll];exact hg)⟩;cases o with
   |none=>exact⟨_,_,.none hF ho⟩
   |some l=>
    have go:(∀T',iZ=some T'->l.d<=T')->∃r cj,Runs n ps st g iZ left r cj:=λhl=>by let(p,h1,h2):=Zt left (gn aG l.c g)<|agl T bA ho;have P:Pushed n ps st g left l.d p (iG p left<|gn aG l.c g):=⟨aG,l,hF,ho,rfl,h1,h2,rfl⟩;let(_,_,(Ge,S1,_),_,_):=oU Hh S bh P;let(r,cj,R):=ih _ (by rw[<-hk];exact agj Hh S bh bA P) _ Ge rfl S1;exact⟨_,_,.go P hl R⟩
    cases iZ with
    |none=>exact go λ_ e=>by cases e
    |some T'=>
     by_cases hT:T'<l.d
     .exact⟨_,_,.far hF ho rfl hT⟩
     .exact go λ_ e=>by cases e;lk
 exact dw _ left π rfl S
noncomputable def vals:List aU->List Int
 |[]=>[0]
 |q::r=>(vals r).map (λx=>x - q.l)++(vals r++(vals r).map (λx=>x+q.l))
def aiT (ps:List aU):(vals ps).length=3^ps.length:=by
 induction ps with
 |nil=>rfl
 |cons q r ih=>rw[vals,aw,aw,af,af,ih,ay,Nat.pow_succ];lk
def uq (ms:List Nat)(i:Nat):Int:=b2 (2*i∈ms) - b2 (2*i+1∈ms)
def Zu (p:Prop)[Decidable p]:b2 p=0\/b2 p=1:=by unfold b2;split;exact .inr rfl;exact .inl rfl
theorem Zv (ms:List Nat):∀(ps:List aU) (k:Nat),gJ (λi q=>uq ms i*q.l) k ps∈vals ps
 |[],_=>by simp[gJ,vals]
 |q::r,k=>by
  have ih:=Zv ms r<|k+1;rw[gJ,vals]
  have:uq ms k= -1\/uq ms k=0\/uq ms k=1:=by unfold uq;rcases Zu (2*k∈ms) with a|a<;>rcases Zu (2*k+1∈ms) with b|b<;>rw[a,b]<;>lk
  rcases this with e|e|e<;>rw[e]
  .refine dA _<|bp.mpr (_,ih,?_);lk
  .refine ci _<|dA _ ?_;simpa using ih
  .refine ci _<|ci _<|bp.mpr (_,ih,?_);lk
def agm (h:m∉ms)(i:Nat):uq (m::ms) i=uq ms i+(b2 (2*i=m) - b2 (2*i+1=m)):=by
 unfold uq;have e1:b2 (2*i∈m::ms)=b2 (2*i∈ms)+b2 (2*i=m):=by
  unfold b2;by_cases a:2*i=m
  .subst a;simp[h]
  .simp[a]
 have e2:b2 (2*i+1∈m::ms)=b2 (2*i+1∈ms)+b2 (2*i+1=m):=by
  unfold b2;by_cases a:2*i+1=m
  .subst a;simp[h]
  .simp[a]
 rw[e1,e2];lk
def amr (T:Tree n left (bW ps) π st aG)(h:aG[v]? =some (some l)):l.d=gJ (λi q=>uq (gn aG l.c v) i*q.l) 0 ps:=by
 have:=uo T (P:=λv l ms=>ms.Nodup->l.d=gJ (λi q=>uq ms i*q.l) 0 ps) (λ_=>?_) (λv l mv u x lu ms hv bA hfr hL hp hu hd hc Zw ih nd=>?_) v l h
 .exact this<|Hr T h
 .rw[jQ (g:=λ_ _=>0) ps 0 λi q _=>by simp[uq,b2],qX]
 .let(h1,h2):=bg.mp nd;have es:gJ (λi q=>uq (mv::ms) i*q.l) 0 ps=gJ (λi q=>uq ms i*q.l) 0 ps+gJ (λi q=>(b2 (2*i=mv) - b2 (2*i+1=mv))*q.l) 0 ps:=by rw[<-yt];exact jQ ps 0 λi q _=>by rw[agm h1,il]
  rw[es,hd,ih h2];congr 1;let(i,q,e,r):=hL.cases;rw[Ed ps 0 i q e<|λj q' e' hj=>?_]
  .rcases r with⟨_,_,rfl,rfl⟩|⟨_,_,rfl,rfl⟩
   .have:¬2*(0+i)+1=2*i:=by lk
    simp[b2,this]
   .have:¬2*(0+i)=2*i+1:=by lk
    simp[b2,this]
  .have a:¬2*(0+j)=mv:=by rcases r with⟨_,_,rfl,_⟩|⟨_,_,rfl,_⟩<;>lk
   have b:¬2*(0+j)+1=mv:=by rcases r with⟨_,_,rfl,_⟩|⟨_,_,rfl,_⟩<;>lk
   simp only[b2,a,b,eI];simp
def UG (Hh:bx n ps)(bh:st<n)(R:Runs n ps st g iZ left r cj)(S:St n ps st left π):∀x∈r,x.1∈vals ps:=by
 induction R generalizing π with
 |none _ _=>simp
 |far _ _ _ _=>simp
 | @go left jT cj len p r P hl R ih=>
  intro x hx;rcases aI.mp hx with rfl|hx
  .let(aG,l,hF,hl,e,_):=P.ex;have T:=jR S.fit bh hF;rw[e,amr T hl];exact Zv _ ps 0
  .let(_,_,(Ge,S1,_),_,_):=oU Hh S bh P;grind
set_option tactic.hygienic true in
def abl (h:y∈f9 s x):y.1=x.1\/y∈s:=by
 unfold f9 at h;split at h
 .rename_i z e;split at h
  .rcases bc.mp h with h|h
   .exact .inr<|(List.dropLast_sublist s).subset h
   .grind
  .grind
 .grind
theorem M4:∀(r s:List (Int×Int)) (y:Int×Int),y∈r.foldl f9 s->(∃x∈r,y.1=x.1)\/y∈s
 |[],_,_,h=>.inr h
 |x::r,s,y,h=>by
  rcases M4 r _ y h with⟨z,hz,e⟩|h
  .exact .inl (z,aa _ hz,e)
  .rcases abl h with e|e
   .exact .inl (x,ae,e)
   .exact .inr e
def grouped_len {vs:List Int}(hp:r.Pairwise λx y=>x.1<=y.1)(h1:∀x∈r,1<=x.1/\1<=x.2)(hv:∀x∈r,x.1∈vs):(grouped r).length<=vs.length:=by
 have R:=yu r [] hp h1 ⟨.nil,λ_ h=>nomatch h⟩ (λ_ _ _ h=>nomatch h);have nd:((grouped r).map (·.1)).Nodup:=by rw[List.Nodup,kx];exact R.up.imp λh=>by lk
 have:=zF nd λx hx=>by
  let(y,hy,rfl):=bp.mp hx;rcases M4 r [] y hy with⟨z,hz,e⟩|h
  .rw[e];exact hv z hz
  .cases h
 rwa [af] at this
end Sp
namespace Sp
variable {φ:Nat->Int}
end Sp
namespace VM
open L2
abbrev Pq:=Int×Int×Int×Int
noncomputable def pD (q:Pq):PyData:=.tuple [.int q.1,.int q.2.1,.int q.2.2.1,.int q.2.2.2]
def BL (ps:List Pq):PyData:=.list<|ps.map pD
noncomputable def pOf:PyData->Option Pq
 |.tuple [.int a,.int b,.int w,.int l]=>some (a,b,w,l)
 |_=>none
noncomputable def bI:List PyData->Option (List Pq)
 |[]=>some []
 |d::r=>match pOf d with
  |some q=>(match bI r with
   |some qs=>some (q::qs)
   |none=>none)
  |none=>none
def aoQ (q:Pq):pOf (pD q)=some q:=rfl
def aiU (ps:List Pq):bI (ps.map pD)=some ps:=by
 induction ps with
 |nil=>rfl
 |cons q r ih=>simp only[az,bI,aoQ,ih]
def aiV (h:pOf d=some q):d=pD q:=by
 unfold pOf at h;split at h
 .cases h;rfl
 .cases h
set_option tactic.hygienic true in
theorem UJ:∀{ds:List PyData}{ps:List Pq},bI ds=some ps->ds=ps.map pD
 |[],_,h=>by cases h;rfl
 |d::r,ps,h=>by
  unfold bI at h;split at h
  .rename_i q e;split at h
   .rename_i qs e2;cases h;rw[aiV e,UJ e2];rfl
   .cases h
  .cases h
noncomputable def zH (m e:Int)(x:Int):PyData:=.tuple [.int m,.int e,.int x]
noncomputable def p8:Nat->List Pq->Int->List PyData
 |_,[],_=>[]
 |k,q::r,u=>(if q.1=u then [zH (2*k) q.2.1 q.2.2.2] else [])++((if q.2.1=u then [zH (2*k+1) q.1<|-q.2.2.2] else [])++p8 (k+1) r u)
theorem UL (q:Pq)(u:Int):∀(r:List Pq) (k:Nat),p8 k (r++[q]) u=p8 k r u++((if q.1=u then [zH (2*((k+r.length:Nat):Int)) q.2.1 q.2.2.2] else [])++(if q.2.1=u then [zH (2*((k+r.length:Nat):Int)+1) q.1<|-q.2.2.2] else []))
 |[],k=>by simp[p8]
 |p::r,k=>by
  rw[i4,p8,p8,UL q u r<|k+1];have e:k+1+r.length=k+(p::r).length:=by simp;lk
  rw[e];simp only[dm]
theorem M5 (u:Int):∀(r:List Pq) (k:Nat),(p8 k r u).length<=2*r.length
 |[],_=>dE _
 |q::r,k=>by
  have ih:=M5 u r<|k+1;have a:(if q.1=u then [zH (2*k) q.2.1 q.2.2.2] else []).length<=1:=by split<;>simp
  have b:(if q.2.1=u then [zH (2*k+1) q.1<|-q.2.2.2] else []).length<=1:=by split<;>simp
  rw[p8,aw,aw,ay];lk
def fM (ps:List Pq)(n:Nat):PyData:=.list<|(List.range n).map λ(u:Nat)=>.list<|p8 0 ps (u:Int)
def iw:g8:=λds=>match ds with
 |[.int m,.list pds]=>(match bI pds with
  |some ps=>if 0<=m/\m<=1000/\ps.length<=1000/\(∀q∈ps,(0<=q.1/\q.1<m)/\0<=q.2.1/\q.2.1<m) then some (false,fM ps m.toNat) else none
  |none=>none)
 |_=>none
def Qm (h0:0<=m)(h1:m<=1000)(h2:ps.length<=1000)(h3:∀q∈ps,(0<=q.1/\q.1<m)/\0<=q.2.1/\q.2.1<m):iw [.int m,BL ps]=some (false,fM ps m.toNat):=by unfold iw BL;simp only[aiU];rw[ar (h0,h1,h2,h3)]
structure MI (K:Frag)(G ao:Hp)(D:Addr)(bs:List Addr)(f:Nat->List PyData)(H:Hp):Prop where
 ex:∃F,Same ao H/\Same G F/\Same F H/\(∀a o,F a=some o->G a=some o\/zp o=true)/\F D=none/\ao D=none/\H D=some (.lst<|bs.map V.ref)/\D∉bs/\bs.Nodup/\
  (∀b∈bs,F b=none/\ao b=none)/\∀(u:Nat) b,bs[u]? =some b->∃ys,H b=some (.lst ys)/\aR K F (f u) ys
section
variable {f f':Nat->List PyData}
def MI.congr (I:MI K G ao D bs f H)(h:∀u,u<bs.length->f u=f' u):MI K G ao D bs f' H:=by let(F,h1,h2,h3,h4,h5,h6,h7,h8,h9,BP,Ht):=I.ex;refine(F,h1,h2,h3,h4,h5,h6,h7,h8,h9,BP,λu b e=>?_);grind
def MI.put (I:MI K G ao D bs f H)(hb:bs[u]? =some b)(hp:H p=none)(hf:∀w,f' w=if w=u then f w++[zH m e x] else f w):
  ∃ys,H b=some (.lst ys)/\(upd H p<|.tup [.int m,.int e,.int x]) b=some (.lst ys)/\ys.length=(f u).length/\MI K G ao D bs f' (upd (upd H p<|.tup [.int m,.int e,.int x]) b<|.lst<|ys++[.ref p]):=by
 let(F,h1,h2,h3,h4,h5,h6,h7,h8,h9,BP,Ht):=I.ex;let(ys,q1,q2):=Ht u b hb;have hbm:=ah hb;have hbp:=bF q1 hp;have Zx:=bF h7 hp;have hDb:D≠b:=λz=>h8<|z▸hbm;have hFp:=h3.free hp;refine(ys,q1,by rw[aJ hbp];exact q1,q2.length.symm,upd F p<|.tup [.int m,.int e,.int x],?_,h2.trans<|aH hFp,?_,?_,?_,h6,?_,h8,h9,?_,?_)
 .intro a o e;have ha:=bF e (BP b hbm).2;rw[aJ ha];exact aH hp a o<|h1 a o e
 .intro a o e;by_cases ha:a=p
  .subst ha;rw[au] at e;rw[aJ<|cp hbp,au];exact e
  .rw[aJ ha] at e;have vp:=bF e (BP b hbm).1;rw[aJ vp,aJ ha];exact h3 a o e
 .intro a o e;by_cases ha:a=p
  .subst ha;rw[au] at e;cases e;exact .inr rfl
  .rw[aJ ha] at e;exact h4 a o e
 .rw[aJ Zx];exact h5
 .rw[aJ hDb,aJ Zx];exact h7
 .intro b' xV
  have:b'≠p:=λz=>by subst z;let(u',e'):=gI.mp xV;grind
  rw[aJ this];exact BP b' xV
 .intro w b' hw;let(zs,z1,z2):=Ht w b' hw;have avp:=bF z1 hp;by_cases hwu:w=u
  .subst hwu;rw[hb] at hw;cases hw;rw[q1] at z1;cases z1;refine(ys++[.ref p],au,?_);rw[hf,ar rfl];have hv:Has K (upd F p<|.tup [.int m,.int e,.int x]) (zH m e x) (.ref p):=(p,_,rfl,bV.of au,_,_,rfl,rfl,_,_,rfl,rfl,_,_,rfl,rfl,rfl);exact aR.snoc hv<|aR.same (aH hFp) z2
  .have bA:b'≠b:=λz=>by
    subst z;exact hwu ((o3 (by
     grind) h9).mp (by rw[hw,hb]))
   refine(zs,by rw[aJ bA,aJ avp];exact z1,?_);rw[hf,ap hwu];exact aR.same (aH hFp) z2
def MI.fin (I:MI K G ao D bs f H):∃F,cg G ao F H/\Has K F (.list<|(List.range bs.length).map λu=>.list<|f u) (.ref D):=by
 let(F,h1,h2,h3,h4,h5,h6,h7,h8,h9,BP,Ht):=I.ex;let F':Hp:=λa=>if a=D\/a∈bs then H a else F a
 have eF:∀a,F' a=if a=D\/a∈bs then H a else F a:=λ_=>rfl
 have FF:Same F F':=λa o e=>by grind
 refine(F',(h1,h2.trans FF,λa o e=>?_,λa o e=>?_,λa x u e=>?_),?_)
 .rw[eF] at e;split at e
  .exact e
  .exact h3 a o e
 .grind
 .rw[eF] at e;split at e
  .rename_i z;rcases z with z|z
   .omega
   .let(i,hi):=gI.mp z;grind
  .rcases h4 a _ e with z|z
   .exact z
   .cases z
 .refine(D,bs.map V.ref,rfl,aZ.of (by rw[eF,ar<|.inl rfl];exact h7),?_);have dw:∀(cs:List Addr) (k:Nat),(∀i b,cs[i]? =some b->bs[k+i]? =some b)->aR K F' ((List.range' k cs.length).map λu=>PyData.list<|f u) (cs.map V.ref):=λcs=>by
   induction cs with
   |nil=>intro k _;rfl
   |cons b r ih=>intro k hk;have hb:=hk 0 b rfl;let(ys,q1,q2):=Ht k b hb;rw[ay,py];refine(_,_,rfl,(b,ys,rfl,aZ.of (by rw[eF,ar<|.inr<|ah hb];exact q1),aR.same FF q2),ih (k+1) λi c hc=>?_);have:=hk (i+1) c (by simpa using hc);lk
  have:=dw bs 0 λi b hb=>by rw[i8];exact hb
  rw[nV];lk
end
open PyProof.Rows
section
variable {K:Frag}
end
def aq (e:σ[i]? =some (some v))(q:Q v H):vR i σ H Q:=by unfold vR;rw[e];exact q
section
variable {X:Cx}{rest:List Stmt}
end
end VM
namespace Pg
open L2 VM
def Gf:VS:=
 (aD (pX 2 (fK a0))
 (aD (jA (Mq (aC (vF 0) (aC (vF 1) a0))) (gT 2 (gC (gN 3) (gC (gN 4) g0)))
 (aD (gH 2 (aC (v2 jm (v2 aM (vN 3) (vC (.int 2))) (vN 4)) a0))
 (gH 2 (aC (vF 4) a0))))
 (fX 2)))
def gA:g8:=jc 2 5 Gf
def Kz:VS:=
 (aD (dJ (gG (vB (v2 isD (vN 2) (vC .none))) (vB (v2 mQ (vN 0) (v2 aM (vN 2) (vC (.int 0))))))
 (cN<|vC<|.bool true)
 cC)
 (cN (Mg (v2 gU (vN 0) (v2 aM (vN 2) (vC (.int 0)))) (v2 mQ (vN 1) (v2 aM (vN 2) (vC (.int 1)))))))
def nQ:g8:=jc 3 3 Kz
def ab5:VS:=
 (aD (pX 3 (v2 Dv (fK (aC (vC .none) a0)) (dW fV (aC (vN 0) a0))))
 (aD (oO 3 (vN 2) (fJ (aC (vC (.int 0)) (aC (vC (.int 0)) (aC (vC .none) (aC (vC .none) a0))))))
 (aD (pX 4 (v2 Dv (fK (aC (vC (.bool false)) a0)) (dW fV (aC (vN 0) a0))))
 (aD (pX 5 (fK (aC (vF 2) a0)))
 (aD (bN (vC (.int 0)) (gN 6))
 (aD (GZ (vB (v2 mQ (vN 6) (dW fV (aC (vN 5) a0))))
 (aD (bN (v2 aM (vN 5) (vN 6)) (gN 7))
 (aD (rZ cu 6 (vC (.int 1)))
 (aD (oO 4 (vN 7) (vC (.bool false)))
 (aD (bN (v2 aM (v2 aM (vN 3) (vN 7)) (vC (.int 0))) (gN 8))
 (aD (bN (v2 cu (v2 aM (v2 aM (vN 3) (vN 7)) (vC (.int 1))) (vC (.int 1))) (gN 9))
 (jA (bZ (v2 aM (vN 0) (vN 7))) (gT 3 (gC (gN 10) (gC (gN 11) (gC (gN 12) g0))))
 (dJ (fP (vB (v2 tM (v2 aM (vN 1) (vN 10)) (vC (.int 0)))) (vB (bH nQ (aC (v2 cu (vN 8) (vN 12)) (aC (vF 9) (aC (v2 aM (vN 3) (vN 11)) a0))))))
 (aD (oO 3 (vN 11) (fJ (aC (v2 cu (vN 8) (vN 12)) (aC (vF 9) (aC (vF 10) (aC (vF 7) a0))))))
 (dJ (dU (vB (v2 aM (vN 4) (vN 11))))
 (aD (oO 4 (vN 11) (vC (.bool true)))
 (gH 5 (aC (vF 11) a0)))
 cC))
 cC))))))))
 (fX 3)))))))
def qY:g8:=jc 3 13 ab5
def Zy:VS:=
 (aD (bN (dW minD (aC (Ds (bZ (vF 1)) [none,some 0] (gN 0) jf (v2 aM (vN 1) (vN 0))) a0)) (gN 2))
 (aD (jA (bZ (vF 1)) (gN 3)
 (aD (pI jm 0 (vN 3) (vF 2))
 (pI cu 0 (v2 adY (vN 3) (vC (.int 1))) (vF 2))))
 (fX 2)))
def yw:G6:=Mz 2 4 0 Zy
def Zz:VS:=
 (aD (pX 3 (fK a0))
 (aD (bN (vF 2) (gN 4))
 (aD (GZ (vB (v2 jO (vN 4) (vN 1)))
 (aD (gH 3 (aC (v2 aM (v2 aM (vN 0) (vN 4)) (vC (.int 2))) a0))
 (bN (v2 aM (v2 aM (vN 0) (vN 4)) (vC (.int 3))) (gN 4))))
 (fX 3))))
def qK:g8:=jc 3 5 Zz
def Ei:VS:=
 (aD (pX 5 (fK a0))
 (GZ (vB (vC (.bool true)))
 (aD (bN (vf qY (aC (vN 0) (aC (vN 1) (aC (vN 2) a0)))) (gN 6))
 (aD (dJ (vB (v2 isD (v2 aM (vN 6) (vN 3)) (vC .none)))
 (fX 5)
 cC)
 (aD (bN (v2 aM (v2 aM (vN 6) (vN 3)) (vC (.int 0))) (gN 7))
 (aD (dJ (fP (vB (v2 RL (vN 4) (vC .none))) (vB (v2 tM (vN 7) (vN 4))))
 (fX 5)
 cC)
 (aD (Jx yw 1 (Kr (wH (bH qK (aC (vF 6) (aC (vF 2) (aC (vF 3) a0)))) Ol)) 8)
 (dJ (fP (ug (vN 5)) (vB (v2 gU (v2 aM (v2 aM (vN 5) (v1 nW (vC (.int 1)))) (vC (.int 0))) (vN 7))))
 (oO 5 (v1 nW<|vC<|.int 1)<|fJ<|aC (vF 7)<|aC (v2 cu (v2 aM (v2 aM (vN 5)<|v1 nW<|vC<|.int 1)<|vC<|.int 1)<|vN 8) a0)
 (gH 5 (aC (fJ (aC (vF 7) (aC (vF 8) a0))) a0))))))))))
def mZ:G6:=Mz 5 9 1 Ei
def Qn:VS:=
 (aD (pX 4 (Bv gA (aC (vF 1) (aC (v2 Dv (fK (aC (vC (.int 0)) a0)) (dW fV (aC (vN 1) a0))) a0))))
 (Om mZ 4 (wH (bH VM.iw (aC (vF 0) (aC (vF 1) a0))) (Kr (wH (vF 2) (wH (vF 3) (wH (vC .none) Ol)))))))
def pK:g8:=jc 4 5 Qn
def KC:VS:=
 (aD (pX 5 (Bv gA (aC (vF 1) (aC (v2 Dv (fK (aC (vC (.int 0)) a0)) (dW fV (aC (vN 1) a0))) a0))))
 (aD (Ww mZ 5 (wH (bH VM.iw (aC (vF 0) (aC (vF 1) a0))) (Kr (wH (vF 2) (wH (vF 3) (wH (vF 4) Ol))))))
 (rW (Ds (wL (aC (dW fV (aC (vN 1) a0)) a0)) [none,some 5] (gN 0) jf (v2 aM (vN 1) (v2 cu (v2 rQ (vC (.int 2)) (vN 0)) (vC (.int 1))))))))
def gB:g8:=jc 5 6 KC
def KD:VS:=
 (cN<|dW Dm<|aC (lZ (bZ<|vF 1) [none,some 0] (gN 0) jf<|v2 aM (v2 aM (vN 1)<|vN 0)<|vC<|.int 3) a0)
def jV:g8:=jc 2 2 KD
def Hu:VS:=
 (aD (jA (Dr (aC (vF 0) a0)) (gT 2 (gC (gN 3) (gC (gN 4) g0)))
 (dJ (fP (vB (v2 gU (v2 aM (vN 4) (vC (.int 0))) (vN 1))) (vB (v2 tM (v2 aM (vN 2) (vN 3)) (vC (.int 0)))))
 (fX 3)
 cC))
 (cN (vC .none)))
def jB:g8:=jc 3 5 Hu
def yx:VS:=
 (aD (pX 4 (fK a0))
 (aD (bN (vF 1) (gN 5))
 (aD (GZ (vB (v2 jO (vN 5) (vN 2)))
 (aD (bN (bH jB (aC (vF 0) (aC (vF 5) (aC (vF 3) a0)))) (gN 6))
 (aD (dJ (vB (v2 isD (vN 6) (vC .none)))
 (rW<|fK a0)
 cC)
 (aD (gH 4 (aC (vF 6) a0))
 (bN (v2 aM (v2 aM (vN 0) (vN 6)) (vC (.int 1))) (gN 5))))))
 (fX 4))))
def iV:g8:=jc 4 7 yx
def Qo:VS:=
 (aD (pX 4 (pG (vN 3)))
 (aD (pX 5 (fK a0))
 (GZ (vB (vC (.bool true)))
 (aD (bN (vf iV (aC (vN 0) (aC (vN 1) (aC (vN 2) (aC (vN 4) a0))))) (gN 6))
 (aD (dJ (dU (ug (vN 6)))
 (fX 5)
 cC)
 (aD (bN (dW minD (aC (Ds (bZ (vF 6)) [none,some 4] (gN 0) jf (v2 aM (vN 1) (vN 0))) a0)) (gN 7))
 (aD (jA (bZ (vF 6)) (gN 8)
 (pI jm 4 (vN 8) (vF 7)))
 (gH 5 (aC (fJ (aC (vF 6) (aC (vF 7) a0))) a0)))))))))
def m9:g8:=jc 4 9 Qo
def Hv:VS:=
 (aD (bN (v2 cu (vN 4) (vC (.int 1))) (gN 6))
 (aD (bN (v2 G5 (vN 1) (fK (aC (fJ (aC (vF 2) (aC (vF 3) (aC (vC (.int 1)) (aC (vF 6) a0))))) a0))) (gN 7))
 (aD (bN (bH gA (aC (vF 7) (aC (v2 G5 (vN 5) (fK (aC (vC (.int 0)) a0))) a0))) (gN 8))
 (aD (bN (bH qY (aC (bH VM.iw (aC (vF 0) (aC (vF 7) a0))) (aC (vF 8) (aC (vF 2) a0)))) (gN 9))
 (rW (lZ (bZ (vF 9)) [none,some 6] (gN 0) jf (vIf (vB (v2 isD (vN 0) (vC .none))) (vF 1) (dW rT (aC (v2 aM (vN 0) (vC (.int 0))) (aC (vN 1) a0))))))))))
def j5:g8:=jc 6 10 Hv
def Hw:VS:=
 (aD (bN (bH gB (aC (vF 0) (aC (vF 1) (aC (vF 2) (aC (vF 3) (aC (vF 4) a0)))))) (gN 5))
 (aD (bN (bH m9 (aC (vF 1) (aC (vF 2) (aC (vF 3) (aC (vF 5) a0))))) (gN 6))
 (aD (bN (dW Dm (aC (lZ (bZ (vF 6)) [none,none,some 4,some 1] (gT 2 (gC (gN 0) (gC (gN 1) g0))) jf (v2 rQ (vN 1) (v2 cu (v2 jm (vN 2) (bH jV (aC (vF 3) (aC (vF 0) a0)))) (vC (.int 1))))) a0)) (gN 7))
 (cN (fJ (aC (vF 7) (aC (vF 6) (aC (bH j5 (aC (vF 0) (aC (vF 1) (aC (vF 2) (aC (vF 3) (aC (vF 4) (aC (vF 5) a0))))))) a0))))))))
def iW:g8:=jc 5 8 Hw
def Qp:VS:=
 (aD (bN (vC (.int 0)) (gN 2))
 (aD (bN (vC (.int 0)) (gN 3))
 (aD (pX 4 (fK a0))
 (aD (jA (bZ (vF 0)) (gT 2 (gC (gN 5) (gC (gN 6) g0)))
 (aD (rZ cu 2 (vF 6))
 (aD (rZ cu 3 (v2 rQ (vN 6) (vN 5)))
 (gH 4 (aC (v2 j4 (v2 jm (v2 cu (vN 1) (vN 3)) (vC (.int 1))) (vN 2)) a0)))))
 (cN (dW minD (aC (vN 4) a0)))))))
def sJ:g8:=jc 2 7 Qp
def Qq:VS:=
 (aD (pX 4 (fK a0))
 (aD (bN (vF 3) (gN 5))
 (aD (jA (bZ (vF 1)) (gT 2 (gC (gN 6) (gC (gN 7) g0)))
 (aD (bN (v2 cu (v2 jm (vN 2) (bH jV (aC (vF 0) (aC (vF 6) a0)))) (vC (.int 1))) (gN 8))
 (aD (bN (dW rT (aC (vN 8) (aC (v2 j4 (vN 5) (vN 7)) a0))) (gN 9))
 (aD (dJ (vB (v2 tM (vN 9) (vC (.int 0))))
 (aD (gH 4 (aC (fJ (aC (vF 6) (aC (vF 7) (aC (vC (.int 0)) (aC (v2 jm (vN 9) (vC (.int 1))) a0))))) a0))
 (rZ jm 5 (v2 rQ (vN 7) (vN 9))))
 cC)
 (dJ (fP (vB (v2 mQ (vN 9) (vN 8))) (vB (v2 tM (vN 5) (vC (.int 0)))))
 (aD (gH 4 (aC (fJ (aC (pG (vN 6)) (aC (vF 5) (aC (vF 9) (aC (vF 9) a0))))) a0))
 (bN (vC (.int 0)) (gN 5)))
 cC)))))
 (fX 4))))
def sO:g8:=jc 4 10 Qq
def ur:VS:=
 (aD (bN (bH pK (aC (vF 0) (aC (vF 1) (aC (vF 2) (aC (vF 3) a0))))) (gN 5))
 (aD (dJ (dU (ug (vN 5)))
 (cN<|vC .none)
 cC)
 (aD (bN (bH sJ (aC (vF 5) (aC (vF 4) a0))) (gN 6))
 (aD (bN (bH gB (aC (vF 0) (aC (vF 1) (aC (vF 2) (aC (vF 3) (aC (vF 6) a0)))))) (gN 7))
 (aD (bN (bH sO (aC (vF 1) (aC (bH m9 (aC (vF 1) (aC (vF 2) (aC (vF 3) (aC (vF 7) a0))))) (aC (vF 6) (aC (vF 4) a0))))) (gN 8))
 (cN (fJ (aC (vF 6) (aC (vF 8) (aC (bH j5 (aC (vF 0) (aC (vF 1) (aC (vF 2) (aC (vF 3) (aC (v2 jm (vN 6) (vC (.int 1))) (aC (vF 7) a0))))))) a0))))))))))
def gM:g8:=jc 5 9 ur
end Pg
def mpQ {α β:Type}(f:α→Lean.MacroM β):List α→Lean.MacroM (List β)
 |[]=>pure []
 |a::l=>do return (←f a)::(←mpQ f l)
def lsQ (s:String):Lean.MacroM (Array (Lean.TSyntax `Lean.Parser.Tactic.simpLemma)):=do return (←mpQ (λs=>`(Lean.Parser.Tactic.simpLemma|$(Lean.mkIdent s.toName):ident)) (s.splitOn " ")).toArray
def evS:="Bx qW iD W9 Xa G4 xr Ov Ow Ox Oz G9 WQ OJ Jy O8 O9 Hi WR Pa dU Jz JB JC Pb Ph Pj Pk Pr Pu JD R3 R4 WT Px ad7 WW a0 Py WX WY W8 ad8 g0 Dz JF zx DG zy DK JG wM zB DN WL JN PL Pz JH PB Xb Xc mq JK Xd Xe JL PJ cN rW fX gEx gN gT PK xu Xf Hj JM ad9 Ko jZ gH oO rZ pI cC Du ad0 ad1 kO JQ Qc Xk Qd Qe vN vF vC vB ug YL Mh u9 oJ aM oN oI adU GK adV nW fJ fK dW fV Mj rT Wq Wr p7 DQ JR wN zE pG Mp bZ qU wL Ws Dr Mq pH kJ yh jf PX P0 Xg Xh Xi Xj Qa Wy Wz Int.reduceToNat reducePow WD Ot jX length_cons length_nil map_cons map_nil replicate cons_append nil_append append_nil getElem?_cons_zero getElem?_cons_succ set_cons_zero set_cons_succ reduceAdd reduceSub Nat.reduceLeDiff Nat.reduceEqDiff Bool.and_true Bool.true_and Bool.not_true Bool.not_false false_eq_true if_true if_false"
local macro_rules | `(tactic| walk_at "e0")=>do
 let a<-lsQ evS
 `(tactic| try simp only[$a,*,↓reduceIte])
set_option hygiene false in
local macro_rules | `(tactic| walk_at "e1")=>do
 let a<-lsQ (evS++" jh oR su Oq decide_eq_true decide_eq_false if_pos if_neg length_map")
 `(tactic| try simp (disch:=first | with_unfolding_all exact rfl | omega | assumption | (refine bT ?_; omega)) only[$a,*,↓reduceIte])
namespace PM
open L2 VM Sp
noncomputable def toPq (p:aU):Pq:=((p.a:Int),(p.b:Int),p.w,p.l)
def hD (ps:List aU):PyData:=BL<|ps.map toPq
noncomputable def eU (v:Nat):PyData:=.int v
noncomputable def ZC:Option (Nat×Nat)->PyData
 |none=>.none
 |some (m,_)=>.int m
noncomputable def frB:Option (Nat×Nat)->PyData
 |none=>.none
 |some (_,u)=>.int u
def jJ:Option Lb->PyData
 |none=>.none
 |some l=>.tuple [.int l.d,.int l.c,ZC l.fr,frB l.fr]
def lU (l:Lb):jJ (some l)=.tuple [.int l.d,.int l.c,ZC l.fr,frB l.fr]:=rfl
def KH (m:Mv):PyData:=zH m.1 m.2.1 m.2.2
noncomputable def lf (L:List Int):Lf:=λi=>L.getD i 0
def ams (ps:List aU)(u:Nat):∀k,p8 k (ps.map toPq) (u:Int)=(um k ps u).map KH:=by
 induction ps with
 |nil=>intro k;rfl
 |cons q r ih=>
  intro k;rw[az,p8,um,bz,bz,ih<|k+1];have ea:((toPq q).1=(u))↔(q.a=u):=by show((q.a)=(u:Int))↔_;lk
  have eb:((toPq q).2.1=(u))↔(q.b=u):=by show((q.b)=(u:Int))↔_;lk
  congr 1
  .by_cases h:q.a=u
   .rw[ar<|ea.mpr h,ar h];rfl
   .grind
  .congr 1;by_cases h:q.b=u
   .rw[ar<|eb.mpr h,ar h];rfl
   .grind
def ZD (ps:List aU)(h:u<n):fM (ps.map toPq) n=.list ((List.range n).map λ(u:Nat)=>.list<|(bW ps u).map KH)/\dI ((List.range n).map λ(u:Nat)=>PyData.list<|(bW ps u).map KH) (u:Int)=some (.list<|(bW ps u).map KH):=by
 constructor
 .unfold fM;congr 1;exact dv λu _=>by rw[ams];rfl
 .exact lG _<|iO h
def aoT (d:Int)(c:Nat)(o:Option Lb):Pg.nQ [.int d,.int c,jJ o]=some (false,.bool<|near d c o):=by
 unfold Pg.nQ Pg.Kz;cases o with
 |none=>rfl
 |some l=>
  unfold jJ;x_go;by_cases h:d<l.d
  .simp only[h,dP];x_go;simp[near,h]
  .walk_at "e1";by_cases h2:d=l.d
   .simp only[h2,dP];x_go;simp[near]
   .simp only[h2,de];x_go;simp[near,h,h2]
def SR (mv lv:PyData)(st:Nat)(s:RS)(a b c d e f:Option PyData):GS:=
 [some (.fr,mv),some (.fr,lv),some (.fr,.int st),some (.ow,.list<|s.aG.map jJ),some (.ow,.list<|s.wait.map .bool),some (.ow,.list<|s.queue.map eU),some (.fr,.int s.place),ob a,ob b,ob c,ob d,ob e,ob f]
def uL:VS:=(dJ (fP (vB (v2 tM (v2 aM (vN 1) (vN 10)) (vC (.int 0)))) (vB (bH Pg.nQ (aC (v2 cu (vN 8) (vN 12)) (aC (vF 9) (aC (v2 aM (vN 3) (vN 11)) a0))))))
 (aD (oO 3 (vN 11) (fJ (aC (v2 cu (vN 8) (vN 12)) (aC (vF 9) (aC (vF 10) (aC (vF 7) a0))))))
 (dJ (dU (vB (v2 aM (vN 4) (vN 11))))
 (aD (oO 4 (vN 11) (vC (.bool true)))
 (gH 5 (aC (vF 11) a0)))
 cC))
 cC)
variable {π:Nat->Int}
def aee {u:Nat}{c:Nat}(hm:m.1<L.length)(hl:m.2.1<s.aG.length)(hw:m.2.1<s.wait.length)(hq:s.queue.length<sizeLine):
  uL (SR mv (.list<|L.map .int) st s (some<|.int u) (some<|.int d) (some<|.int c) (some<|.int m.1) (some<|.int m.2.1)<|some<|.int m.2.2)=
   .nxt (SR mv (.list<|L.map .int) st (relax (lf L) u d c s m) (some<|.int u) (some<|.int d) (some<|.int c) (some<|.int m.1) (some<|.int m.2.1)<|some<|.int m.2.2):=by
 let(mi,v,x):=m;obtain⟨o,ho⟩:∃o,s.aG[v]? =some o:=⟨_,ag hl⟩;obtain⟨wv,Uy⟩:∃o,s.wait[v]? =some o:=⟨_,ag hw⟩;have e1:dI (L.map PyData.int) (mi:Int)=some (.int<|lf L mi):=by refine lG _ ?_;unfold lf;grind
 have e2:dI (s.aG.map jJ) (v:Int)=some (jJ o):=lG _ ho;have e3:dI (s.wait.map PyData.bool) (v:Int)=some (.bool wv):=lG _ Uy;unfold uL SR relax;simp only[ho,Uy,getD_some];x_go;rw[e1];x_go;by_cases h:0<lf L mi
 .simp only[h,dP,kX];x_go;rw[e2];x_go;rw[aoT];x_go;cases hn:near (d+x) c o
  .rfl
  .x_go;rw[af,yq hl];x_go;rw[e3];x_go;cases wv
   .x_go;rw[af,yq hw];walk_at "e1";rw[ku,ku,bz];rfl
   .x_go;rw[ku];rfl
 .simp only[h,de,false_and];rfl
theorem Qs (hn:n<=1000)(F:cY n (lf L) (bW ps) π)(hu:u<n)(hp:p<=lu.c)(hL:∀m∈bW ps u,m.1<L.length):
  ∀(ms:List Mv) (s:RS) (ju:List Nat) (x y z:Option PyData),sG n (lf L) (bW ps) π st s->QP n p s.place s ju->Paths n π s.aG->s.aG[u]? =some (some lu)->(∀m∈ms,m∈bW ps u)->
  ∃x' y' z',eE (gT 3<|gC (gN 10)<|gC (gN 11)<|gC (gN 12) g0) uL (ms.map KH) (SR mv (.list<|L.map .int) st s (some<|.int u) (some<|.int lu.d) (some<|.int ((lu.c+1:Nat):Int)) x y z)=
   .nxt (SR mv (.list<|L.map .int) st (ms.foldl (relax (lf L) u lu.d<|lu.c+1) s) (some<|.int u) (some<|.int lu.d) (some<|.int ((lu.c+1:Nat):Int)) x' y' z')
 |[],s,ju,x,y,z,_,_,_,_,_=>(x,y,z,rfl)
 |m::ms,s,ju,x,y,z,I,Q,hP,hl,hm=>by
  have hmo:=hm m ae;have Kv:m.2.1<n:=F.room u _ hmo;have hq:s.queue.length<sizeLine:=by have h1:=Q.bound I.ql;have h2:n*n<=1000*1000:=Nat.mul_le_mul hn hn;exact bT ∅
  let(a1,a2,_):=Eb F I hu hl hmo;let(Eh,Q',Ql):=Zo F I Q hP hu hl hmo hp;let(x',y',z',ih):=Qs (mv:=mv) hn F hu hp hL ms _ Eh (some<|.int m.1) (some<|.int m.2.1) (some<|.int m.2.2) a1.ok Q' Ql a2 λm' h'=>hm m'<|aa _ h';refine(x',y',z',?_);rw[az,eE,iP];have e1:gT 3 (gC (gN 10)<|gC (gN 11)<|gC (gN 12) g0) (KH m) (SR mv (.list<|L.map .int) st s (some<|.int u) (some<|.int lu.d) (some<|.int ((lu.c+1:Nat):Int)) x y z)=
    some (SR mv (.list<|L.map .int) st s (some<|.int u) (some<|.int lu.d) (some<|.int ((lu.c+1:Nat):Int)) (some<|.int m.1) (some<|.int m.2.1)<|some<|.int m.2.2):=by
   unfold KH zH SR;x_go
  rw[e1];simp only;rw[aee (hL m hmo) (by rw[I.ll];exact Kv) (by rw[I.wl];exact Kv) hq];exact ih
def wQ:VS:=(aD (bN (v2 aM (vN 5) (vN 6)) (gN 7))
 (aD (rZ cu 6 (vC (.int 1)))
 (aD (oO 4 (vN 7) (vC (.bool false)))
 (aD (bN (v2 aM (v2 aM (vN 3) (vN 7)) (vC (.int 0))) (gN 8))
 (aD (bN (v2 cu (v2 aM (v2 aM (vN 3) (vN 7)) (vC (.int 1))) (vC (.int 1))) (gN 9))
 (jA (bZ (v2 aM (vN 0) (vN 7))) (gT 3 (gC (gN 10) (gC (gN 11) (gC (gN 12) g0))))
 uL))))))
def ago (hn:n<=1000)(F:cY n (lf L) (bW ps) π)(hL:∀u m,m∈bW ps u->m.1<L.length)(I:qJ n (lf L) (bW ps) π st s)(hQ:QI n π s)(hd:¬s.done)(a b c d e f:Option PyData):
  ∃a' b' c' d' e' f',wQ (SR (fM (ps.map toPq) n) (.list<|L.map .int) st s a b c d e f)=.nxt (SR (fM (ps.map toPq) n) (.list<|L.map .int) st (jg (lf L) (bW ps) s) a' b' c' d' e' f'):=by
 let((p,ju,Q),hP):=hQ;have dZ:s.place<s.queue.length:=by unfold RS.done at hd;lk
 have hq:s.queue[s.place]? =some s.room:=by unfold RS.room;rw[ag dZ];rfl
 have Ho:=ah hq;have hu:=I.ql _ Ho;let(lu,hl):=I.lq _ Ho;have tQ:s.at=lu:=by unfold RS.at;rw[hl];rfl
 have dc:=drop_cons hq;have I0:sG n (lf L) (bW ps) π st {s with place:=s.place+1,wait:=s.wait.set s.room false}:=by
  refine⟨dZ,I.ll,by show(s.wait.set s.room false).length=n;rw[ce];exact I.wl,I.ql,I.st0,I.lo,I.fr,λv hv=>?_,I.lq⟩;rcases nP (hv) with⟨_,e,_⟩|⟨bA,e⟩
  .cases e
  .have:=I.wq v e;rw[dc] at this;rcases aI.mp this with z|z
   .exact absurd z bA
   .exact z
 obtain⟨p',Hs⟩:∃p',ju[s.place]? =some p':=⟨_,ag (by rw[Q.len];exact dZ)⟩;have Q0:=Q.next I hq Hs
 let(x',y',z',dw):=Qs hn F hu (Q.cnt s.place p' s.room lu (ax _) Hs hq hl) (hL s.room) (bW ps s.room) _ ju d e f I0 Q0 hP hl λm h=>h;have e0:jg (lf L) (bW ps) s=(bW ps s.room).foldl (relax (lf L) s.room lu.d<|lu.c+1) {s with place:=s.place+1,wait:=s.wait.set s.room false}:=by unfold jg;rw[tQ]
 refine⟨some<|.int s.room,some<|.int lu.d,some<|.int<|(lu.c+1:Nat),x',y',z',?_⟩;rw[e0,←dw];have e1:dI (s.queue.map eU) (s.place:Int)=some (.int s.room):=lG _ hq;have e2:dI (s.aG.map jJ) (s.room:Int)=some (jJ<|some lu):=lG _ hl;let(em,e3):=ZD ps hu;have hw:s.room<s.wait.length:=by rw[I.wl];exact hu
 rw[em];unfold wQ SR;x_go;rw[e1];x_go;rw[af,yq hw];x_go;rw[e2,lU];x_go;rw[e2,lU];x_go;rw[e3];x_go;rw[ku];rfl
set_option tactic.hygienic true in
def aef (hn:n<=1000)(F:cY n (lf L) (bW ps) π)(hL:∀u m,m∈bW ps u->m.1<L.length)(h:Ends (lf L) (bW ps) k s t):qJ n (lf L) (bW ps) π st s->QI n π s->∀(a b c d e f:Option PyData),
  ∃a' b' c' d' e' f',cD (vB<|v2 mQ (vN 6)<|dW fV<|aC (vN 5) a0) wQ (k+1) (SR (fM (ps.map toPq) n) (.list<|L.map .int) st s a b c d e f)=.nxt (SR (fM (ps.map toPq) n) (.list<|L.map .int) st t a' b' c' d' e' f'):=by
 induction h with
 |stop hd=>
  rename_i s;intro I hQ a b c d e f;refine(a,b,c,d,e,f,?_);rw[cD]
  have:¬(s.place)<((s.queue.map eU).length:Int):=by unfold RS.done at hd;rw[af];lk
  have et:(vB<|v2 mQ (vN 6)<|dW fV<|aC (vN 5) a0) (SR (fM (ps.map toPq) n) (.list<|L.map .int) st s a b c d e f)=some false:=by unfold SR;x_go;simp only[this,de]
  rw[et]
 | @go k s t hd _ ih=>
  intro I hQ a b c d e f;let(a1,b1,c1,d1,e1,f1,h1):=ago hn F hL I hQ hd a b c d e f;let(a2,b2,c2,d2,e2,f2,h2):=ih (Zh F I hd).1 (amq F I hQ hd) a1 b1 c1 d1 e1 f1;refine(a2,b2,c2,d2,e2,f2,?_);rw[cD]
  have:(s.place)<((s.queue.map eU).length:Int):=by unfold RS.done at hd;rw[af];lk
  have et:(vB<|v2 mQ (vN 6)<|dW fV<|aC (vN 5) a0) (SR (fM (ps.map toPq) n) (.list<|L.map .int) st s a b c d e f)=some true:=by unfold SR;x_go;simp only[this,dP]
  rw[et];simp only;rw[h1];exact h2
def ab6 (hn:n<=1000)(bh:st<n)(F:cY n (lf L) (bW ps) π)(hL:∀u m,m∈bW ps u->m.1<L.length):∃aG,Found n ps st (lf L) aG/\Pg.qY [fM (ps.map toPq) n,.list<|L.map .int,.int st]=some (true,.list<|aG.map jJ):=by
 have I0:qJ n (lf L) (bW ps) π st (nG n st):=Hq bh;have Q0:QI n π (nG n st):=aiS bh;let(k,t,hE,It,hd):=ends F I0;refine(t.aG,(k,t,hE,rfl),?_);let(a,b,c,d,e,f,hW):=aef hn F hL hE I0 Q0 none none none none none none;have hW2:=yj hW (by intro z;cases z);unfold Pg.qY Pg.ab5;have em:=(ZD ps bh).1;have cZ:(((List.range n).map λu=>PyData.list<|(bW ps u).map KH).length)=(n):=by simp
 rw[em] at hW2 ⊢;x_go;rw[cZ];rw[DP _ ∅];x_go;rw[nv,yq bh];x_go;rw[cZ,DP _ ∅];x_go;unfold wQ uL at hW2;have eS:SR (.list<|(List.range n).map λu=>.list<|(bW ps u).map KH) (.list<|L.map .int) st (nG n st) none none none none none none=
  [some (Tg.fr,.list<|(List.range n).map λu=>.list<|(bW ps u).map KH),some (Tg.fr,.list<|L.map .int),some (Tg.fr,.int st),some (Tg.ow,.list<|(replicate n PyData.none).set st<|.tuple [.int 0,.int 0,.none,.none]),some (Tg.ow,.list<|replicate n<|.bool false),some (Tg.ow,.list [.int st]),some (Tg.fr,.int 0),none,none,none,none,none,none]:=by
  unfold SR nG;simp only[ku,oz,jJ,ZC,frB,iD];rfl
 rw[eS] at hW2;rw[hW2];rfl
end PM
namespace PM
open L2 VM Sp
variable {st g:Nat}
def aiW (h:lH ps m u v x):m<2*ps.length:=by let(i,q,e,r):=h.cases;grind
def ZF (T:Tree n left (bW ps) π st aG)(h:aG[v]? =some (some l)):∀m∈gn aG l.c v,m<2*ps.length:=λm hm=>by let(_,_,_,_,_,a,_):=JW T h m hm;exact aiW a
def ab7 (T:Tree n left (bW ps) π st aG)(h:aG[v]? =some (some l)):(gn aG l.c v).length<=2*ps.length:=lR (Hr T h)<|ZF T h
def Xm:VS:=(aD (gH 3 (aC (v2 aM (v2 aM (vN 0) (vN 4)) (vC (.int 2))) a0))
 (bN (v2 aM (v2 aM (vN 0) (vN 4)) (vC (.int 3))) (gN 4)))
def aeg (hp:ps.length<=1000000)(T:Tree n left (bW ps) π st aG)(h:aG[g]? =some (some l)):
  Pg.qK [.list<|aG.map jJ,.int st,.int g]=some (true,.list<|(gn aG l.c g).map eU):=by
 have dw:∀v (l:Lb),aG[v]? =some (some l)->∀acc:List Nat,acc.length+(gn aG l.c v).length<=16000000->
   cD (vB<|v2 jO (vN 4)<|vN 1) Xm ((gn aG l.c v).length+1) [some (.fr,.list<|aG.map jJ),some (.fr,.int st),some (.fr,.int g),some (.ow,.list<|acc.map eU),some (.fr,.int v)]=
    .nxt [some (.fr,.list<|aG.map jJ),some (.fr,.int st),some (.fr,.int g),some (.ow,.list<|(acc++gn aG l.c v).map eU),some (.fr,.int st)]:=by
  refine uo T (P:=λv _ ms=>∀acc:List Nat,acc.length+ms.length<=16000000->
   cD (vB<|v2 jO (vN 4)<|vN 1) Xm (ms.length+1) [some (.fr,.list<|aG.map jJ),some (.fr,.int st),some (.fr,.int g),some (.ow,.list<|acc.map eU),some (.fr,.int v)]=
    .nxt [some (.fr,.list (aG.map jJ)),some (.fr,.int st),some (.fr,.int g),some (.ow,.list ((acc++ms).map eU)),some (.fr,.int st)]) (λacc _=>?_) (λv l mv u x lu ms hv bA hfr hL MN hu hd hc Zw ih acc hb=>?_)
  .rw[cD];x_go;simp
  .rw[cD];have e0:dI (aG.map jJ) (v:Int)=some (jJ<|some l):=lG _ hv;have ne:¬(v)=(st:Int):=by lk
   walk_at "e1";unfold Xm;x_go;rw[e0,lU,hfr];walk_at "e1";rw[e0,lU,hfr];x_go;have:=ih (acc++[mv]) (by rw[aw,nr];rw[ay] at hb;lk);rw[bz,dm] at this;exact this
 have k2:=dw g l h [] (by have:=ab7 T h;rw[eD];lk);have k3:=yj k2 (by intro z;cases z);unfold Xm at k3;unfold Pg.qK Pg.Zz;x_go;simp only[eQ,fm] at k3;rw[k3];rfl
def abm (m:Nat):Builtin.bitXor (m:Int) 1=(gZ m:Int):=by
 rw[PyProof.Rows.bitXor_and]
 have:Builtin.bitAnd (m) 1=((m % 2)):=by unfold Builtin.bitAnd;simp
 rw[this];unfold gZ;lk
def zJ (p:Int)(L:List Int)(m:Nat):List Int:=(L.set m<|lf L m - p).set (gZ m)<|lf (L.set m<|lf L m - p) (gZ m)+p
def ZG (h:i<L.length)(x:Int)(j:Nat):lf (L.set i x) j=if j=i then x else lf L j:=by unfold lf;grind
def aeh (m:Nat):gZ m≠m:=by unfold gZ;split<;>lk
def HF (p:Int)(L:List Int)(m:Nat):(zJ p L m).length=L.length:=by unfold zJ;rw[ce,ce]
def aiX (h1:m<L.length)(h2:gZ m<L.length):lf (zJ p L m)=move p (lf L) m:=by funext i;unfold zJ move;rw[ZG (by rw[ce];exact h2),ZG h1,ZG h1];have:=aeh m;lk
def uM (p:Int)(L:List Int)(ms:List Nat):List Int:=ms.foldl (zJ p) L
theorem UW (p:Int):∀(ms:List Nat) (L:List Int),(uM p L ms).length=L.length
 |[],_=>rfl
 |m::ms,L=>by show(uM p (zJ p L m) ms).length=_;rw[UW p ms,HF]
def Qt (h:m<2*k):gZ m<2*k:=by unfold gZ;split<;>lk
theorem ZJ (p:Int):∀(ms:List Nat) (L:List Int),L.length=2*k->(∀m∈ms,m<2*k)->lf (uM p L ms)=iG p (lf L) ms
 |[],_,_,_=>rfl
 |m::ms,L,hL,hm=>by have h1:=hm m ae;show lf (uM p (zJ p L m) ms)=iG p (move p (lf L) m) ms;rw[ZJ p ms _ (by rw[HF];exact hL) λx hx=>hm x<|aa _ hx,aiX ∅ (by have:=Qt h1;lk)]
def Qu {L:List Int}(h:m<L.length):dI (L.map PyData.int) (m:Int)=some (.int<|lf L m):=by refine lG _ ?_;unfold lf;grind
def ZK {L:List Int}(h:m<L.length):(L.map PyData.int)[m]? =some (.int<|lf L m):=by unfold lf;rw[av,bE,ag h];rfl
def aoU {k:Nat}(hL:L.length=2*k)(hm:∀m∈ms,m<2*k)(bA:ms≠[])(hl:ms.length<=16000000):
  ∃p,(∃m∈ms,p=lf L m)/\(∀m∈ms,p<=lf L m)/\Pg.yw [none,some<|.list<|ms.map eU] (L.map .int)=some (false,.int p,(uM p L ms).map .int):=by
 refine⟨jH<|ms.map<|lf L,?_,?_,?_⟩
 .let(h1,_):=mF (ns:=ms.map<|lf L) (by simpa using bA);grind
 .intro m h;exact(mF<|by simpa using bA).2 _ (bp.mpr ⟨m,h,rfl⟩)
 .generalize hp:jH (ms.map (lf L))=p;unfold Pg.yw Pg.Zy Mz;rw[ar ⟨rfl,rfl⟩];unfold zu;x_go;rw[Za (by rw[af];exact bT hl)];rw[kZ (f:=λd=>match d with|.int m=>.int (lf L m.toNat)|_=>.none) (by
   intro d hd;let(m,h,rfl):=bp.mp hd;refine⟨[some (Tg.fr,.int m),some (Tg.fr,.list<|L.map .int)],?_,rfl,?_⟩
   .rfl
   .have:=hm m h;x_go;rw[Qu ∅];rfl)]
  rw[cm];have em:ms.map ((λd=>match d with|.int m=>PyData.int (lf L m.toNat)|_=>.none) ∘ eU)=(ms.map<|lf L).map PyData.int:=by rw[cm];rfl
  rw[em];x_go;have eM:minD [.list<|(ms.map<|lf L).map PyData.int]=some (.int p):=by
   simp only[minD,lE];cases ms with
   |nil=>lk
   |cons m r=>lk
  rw[eM];x_go;have loop:∀rs (M:List Int) (x:Option PyData),M.length=2*k->(∀m∈rs,m<2*k)->∃x',
    eE (gN 3) (aD (pI jm 0 (vN 3)<|vF 2)<|pI cu 0 (v2 adY (vN 3)<|vC<|.int 1)<|vF 2) (rs.map eU) [some (Tg.io,.list<|M.map .int),some (Tg.fr,.list<|ms.map eU),some (Tg.fr,.int p),ob x]=
     .nxt [some (Tg.io,.list<|(uM p M rs).map .int),some (Tg.fr,.list<|ms.map eU),some (Tg.fr,.int p),ob x']:=λrs=>by
   induction rs with
   |nil=>intro M x _ _;exact⟨x,rfl⟩
   |cons m rs ih=>intro M x hM hmm;have h1:=hmm m ae;have h2:=Qt h1;let(x',hx):=ih (zJ p M m) (some<|.int m) (by rw[HF];exact hM) λy hy=>hmm y<|aa _ hy;refine⟨x',?_⟩;rw[az,eE];unfold eU;x_go;rw[af,yq ∅];x_go;rw[ZK ∅];x_go;rw[abm,ce,af,yq ∅];x_go;rw[<-ku,ZK (by rw[ce];lk)];x_go;rw[<-ku];exact hx
  let(x',hx):=loop ms L none hL hm;rw[iD] at hx;rw[hx];rfl
end PM
namespace PM
open L2 VM Sp
variable {left:Lf}
noncomputable def M6:Option Int->PyData
 |none=>.none
 |some T=>.int T
noncomputable def jx (x:Int×Int):PyData:=.tuple [.int x.1,.int x.2]
theorem vq:∀aG:List (Option Lb),oJ (aG.map jJ)=true
 |[]=>rfl
 |none::r=>by simp only[az,jJ,oJ,u9,vq r,Bool.and_self]
 |some l::r=>by
  have:u9 (jJ<|some l)=true:=by
   rw[lU];cases h:l.fr with
   |none=>rfl
   |some x=>rfl
  simp only[az,oJ,this,vq r,Bool.and_self]
def pN:VS:=(aD (bN (vf Pg.qY (aC (vN 0) (aC (vN 1) (aC (vN 2) a0)))) (gN 6))
 (aD (dJ (vB (v2 isD (v2 aM (vN 6) (vN 3)) (vC .none)))
 (fX 5)
 cC)
 (aD (bN (v2 aM (v2 aM (vN 6) (vN 3)) (vC (.int 0))) (gN 7))
 (aD (dJ (fP (vB (v2 RL (vN 4) (vC .none))) (vB (v2 tM (vN 7) (vN 4))))
 (fX 5)
 cC)
 (aD (Jx Pg.yw 1 (Kr (wH (bH Pg.qK (aC (vF 6) (aC (vF 2) (aC (vF 3) a0)))) Ol)) 8)
 (dJ (fP (ug (vN 5)) (vB (v2 gU (v2 aM (v2 aM (vN 5) (v1 nW (vC (.int 1)))) (vC (.int 0))) (vN 7))))
 (oO 5 (v1 nW<|vC<|.int 1)<|fJ<|aC (vF 7)<|aC (v2 cu (v2 aM (v2 aM (vN 5)<|v1 nW<|vC<|.int 1)<|vC<|.int 1)<|vN 8) a0)
 (gH 5 (aC (fJ (aC (vF 7) (aC (vF 8) a0))) a0))))))))
def yC (mv:PyData)(L:List Int)(st g:Nat)(iZ:Option Int)(s:List (Int×Int))(a b c:Option PyData):GS:=
 [some (.fr,mv),some (.io,.list<|L.map .int),some (.fr,.int st),some (.fr,.int g),some (.fr,M6 iZ),some (.ow,.list<|s.map jx),ob a,ob b,ob c]
def aiY (h:xs.getLast? =some y):dI xs (-1)=some y:=by
 have bA:xs≠[]:=by intro z;rw[z] at h;cases h
 unfold dI;rw[YF<|iN.mpr bA];grind
def getLast_map (f:α->β)(xs:List α):(xs.map f).getLast? =xs.getLast?.map f:=by simp
def agp (hs:(f9 s (len,p)).length<=16000000):
    (dJ (fP (ug (vN 5)) (vB (v2 gU (v2 aM (v2 aM (vN 5) (v1 nW (vC (.int 1)))) (vC (.int 0))) (vN 7))))
     (oO 5 (v1 nW<|vC<|.int 1)<|fJ<|aC (vF 7)<|aC (v2 cu (v2 aM (v2 aM (vN 5)<|v1 nW<|vC<|.int 1)<|vC<|.int 1)<|vN 8) a0)
     (gH 5 (aC (fJ (aC (vF 7) (aC (vF 8) a0))) a0))) (yC mv L st g iZ s a (some (.int len)) (some (.int p)))=.nxt (yC mv L st g iZ (f9 s (len,p)) a (some (.int len)) (some (.int p))):=by
  unfold yC;x_go;unfold f9 at hs ⊢;cases e:s.getLast? with
  |none=>
   have:s=[]:=by simpa using e
   subst this;x_go;simp only[pM,Bool.not_true];walk_at "e1";rfl
  |some y=>
   rw[e] at hs;have bA:s≠[]:=by intro z;rw[z] at e;cases e
   have em:(s.map jx).isEmpty=false:=by cases s<;>simp_all
   have al:dI (s.map jx) (-1)=some (jx y):=aiY (by rw[getLast_map,e];rfl);simp only[em,Bool.not_false];x_go;rw[al];unfold jx;x_go;by_cases hy:y.1=len
   . walk_at "e1"
     have al2:dI (s.map<|λx=>PyData.tuple [.int x.1,.int x.2]) (-1)=some (.tuple [.int y.1,.int y.2]):=al;rw[al2];x_go;rw[YF (by rw[af];exact iN.mpr bA)];x_go;have e2:=wO e;have es:(s.map<|λx=>PyData.tuple [.int x.1,.int x.2]).set ((s.map<|λx=>PyData.tuple [.int x.1,.int x.2]).length - 1) (.tuple [.int len,.int<|y.2+p])=(s.dropLast++[(len,y.2+p)]).map (λx=>PyData.tuple [.int x.1,.int x.2]):=by rw[e2];simp
     rw[es]
   . simp only[hy,de]
     x_go;simp only[hy,eI] at hs;rw[ar (by rw[af];rw[aw,nr] at hs;exact bT ∅)];rw[bz];rfl
def Ej (h1:c S=some true)(h2:b S=.ret S2 o d):cD c b (k+1) S=.ret S2 o d:=by rw[cD,h1];simp only;rw[h2]
def HJ (h1:c S=some true)(h2:b S=.nxt S2)(h3:cD c b k S2=o):cD c b (k+1) S=o:=by rw[cD,h1];simp only;rw[h2];exact h3
def HN (hn:n<=1000)(hp:ps.length<=1000000)(bh:st<n)(hg:g<n)(bA:st≠g)(hLl:L.length=2*ps.length)(S:St n ps st (lf L) π)(a b c:Option PyData)(hF:Found n ps st (lf L) aG):
    (aG[g]? =some none->∃a',pN (yC (fM (ps.map toPq) n) L st g iZ s a b c)=.ret ((yC (fM (ps.map toPq) n) L st g iZ s a' b c).set 5 none) true (.list<|s.map jx))/\
    (∀l T,aG[g]? =some (some l)->iZ=some T->T<l.d->∃a' b',pN (yC (fM (ps.map toPq) n) L st g iZ s a b c)=.ret ((yC (fM (ps.map toPq) n) L st g iZ s a' b' c).set 5 none) true (.list<|s.map jx))/\
    (∀l,aG[g]? =some (some l)->(∀T,iZ=some T->l.d<=T)->∃p,(∃m∈gn aG l.c g,p=lf L m)/\(∀m∈gn aG l.c g,p<=lf L m)/\((f9 s (l.d,p)).length<=16000000->
      ∃a' b' c',pN (yC (fM (ps.map toPq) n) L st g iZ s a b c)=.nxt (yC (fM (ps.map toPq) n) (uM p L (gn aG l.c g)) st g iZ (f9 s (l.d,p)) a' b' c'))):=by
  let(MK,hF',er):=ab6 hn bh S.fit (λu m hm=>by
    let(i,q,e,r):=fU.mp hm;grind)
  have:=hF.uniq hF';subst this;have T:=jR S.fit bh hF;refine⟨λh=> ?_, λl T' h hl hT=> ?_, λl h hl=> ?_⟩
  . have e1:dI (aG.map jJ) (g:Int)=some (jJ none):=lG _ h
    refine⟨some<|.list<|aG.map jJ, ?_⟩;unfold pN yC;x_go;rw[er];x_go;rw[vq aG];x_go;rw[e1];rfl
  . have e1:dI (aG.map jJ) (g:Int)=some (jJ<|some l):=lG _ h
    refine⟨some<|.list<|aG.map jJ,some<|.int l.d, ?_⟩;subst hl;unfold pN yC;x_go;rw[er];x_go;rw[vq aG];x_go;rw[e1,lU];x_go;rw[e1,lU];x_go;unfold M6;x_go;simp only[hT,dP];rfl
  . have e1:dI (aG.map jJ) (g:Int)=some (jJ<|some l):=lG _ h
    have wl:=ab7 T h;let(p,p1,p2,ep):=aoU hLl (ZF T h) (agl T bA h) ∅;refine⟨p,p1,p2, λhs=>⟨some (.list (aG.map jJ)),some (.int l.d),some (.int p), ?_⟩⟩;rw[<-agp hs];unfold pN;generalize hk:(dJ (fP (ug (vN 5)) (vB (v2 gU (v2 aM (v2 aM (vN 5) (v1 nW (vC (.int 1)))) (vC (.int 0))) (vN 7))))
     (oO 5 (v1 nW<|vC<|.int 1)<|fJ<|aC (vF 7)<|aC (v2 cu (v2 aM (v2 aM (vN 5)<|v1 nW<|vC<|.int 1)<|vC<|.int 1)<|vN 8) a0)
     (gH 5 (aC (fJ (aC (vF 7) (aC (vF 8) a0))) a0)))=kk
    unfold yC;x_go;rw[er];x_go;rw[vq aG];x_go;rw[e1,lU];x_go;rw[e1,lU];x_go;have fin:∀o,RZ (Jx Pg.yw 1 (Kr (wH (bH Pg.qK (aC (vF 6) (aC (vF 2) (aC (vF 3) a0)))) Ol)) 8
        [some (Tg.fr,fM (ps.map toPq) n),some (Tg.io,.list (L.map .int)),some (Tg.fr,.int st),some (Tg.fr,.int g),some (Tg.fr,o),some (Tg.ow,.list (s.map jx)),some (Tg.fr,.list (aG.map jJ)),some (Tg.fr,.int l.d),ob c]) kk=
        kk [some (Tg.fr,fM (ps.map toPq) n),some (Tg.io,.list<|(uM p L<|gn aG l.c g).map .int),some (Tg.fr,.int st),some (Tg.fr,.int g),some (Tg.fr,o),some (Tg.ow,.list<|s.map jx),some (Tg.fr,.list<|aG.map jJ),some (Tg.fr,.int l.d),some (Tg.fr,.int p)]:= λo=>by
      simp only[Jx,Kr,wH,Ol];x_go;rw[aeg hp T h];x_go;rw[ep];simp only;x_go;simp;x_go
    cases aic:iZ with
    |none=>x_go;exact fin _
    |some T'=>
     have:=hl T' aic;have nT:¬T'<l.d:=by lk
     unfold M6;walk_at "e1";grind
def agq (Hh:bx n ps)(hn:n<=1000)(hp:ps.length<=1000000)(bh:st<n)(hg:g<n)(bA:st≠g)(R:Runs n ps st g iZ left r cj):
  ∀(L:List Int) (π:Nat->Int) (s:List (Int×Int)) (a b c:Option PyData),lf L=left->L.length=2*ps.length->St n ps st (lf L) π->(∀k,((r.take k).foldl f9 s).length<=16000000)->
  ∃k mU a' b' c',lf mU=cj/\mU.length=2*ps.length/\cD (vB<|vC<|.bool true) pN k (yC (fM (ps.map toPq) n) L st g iZ s a b c)=.ret ((yC (fM (ps.map toPq) n) mU st g iZ (r.foldl f9 s) a' b' c').set 5 none) true (.list<|(r.foldl f9 s).map jx):=by
 induction R with
 |none hF h=>intro L π s a b c hL hl S hs;subst hL;let(a',e):=(HN hn hp bh hg bA hl S a b c hF).1 h;exact(1,L,a',b,c,rfl,hl,Ej rfl e)
 | @far left aG l T hF h hT dZ=>intro L π s a b c hL hl S hs;subst hL;let(a',b',e):=(HN hn hp bh hg bA hl S a b c hF).2.1 l T h hT dZ;exact(1,L,a',b',c,rfl,hl,Ej rfl e)
 | @go left jT cj len p r P hl R ih=>
  intro L π s a b c hL hll S hs;subst hL;let(_,_,(Ge,S1,_),_,_):=oU Hh S bh P;let(aG,l,hF,h,rfl,hp1,hp2,e):=P.ex;have T:=jR S.fit bh hF;let(p',q1,q2,hgo):=(HN hn hp bh hg bA hll S a b c hF).2.2 l h hl;have epp:p'=p:=by grind
  subst epp;let(a',b',c',e1):=hgo (by have:=hs 1;simpa using this);have el:lf (uM p' L<|gn aG l.c g)=jT:=by rw[ZJ p' _ L hll<|ZF T h,e]
  let(k,mU,a2,b2,c2,f1,f2,f3):=ih (uM p' L<|gn aG l.c g) Ge (f9 s (l.d,p')) a' b' c' el (by rw[UW];exact hll) (by rw[el];exact S1) (λk=>by have:=hs<|k+1;simpa using this);exact(k+1,mU,a2,b2,c2,f1,f2,HJ rfl e1 f3)
def Qv (Hh:bx n ps)(hn:n<=1000)(hp:ps.length<=1000000)(bh:st<n)(hg:g<n)(bA:st≠g)(R:Runs n ps st g iZ (lf L) r cj)(hl:L.length=2*ps.length)(S:St n ps st (lf L) π)(hs:∀k,(grouped<|r.take k).length<=16000000):
  ∃mU,lf mU=cj/\mU.length=2*ps.length/\Pg.mZ [some<|fM (ps.map toPq) n,none,some<|.int st,some<|.int g,some<|M6 iZ] (L.map .int)=some (true,.list<|(grouped r).map jx,mU.map .int):=by
 let(k,mU,a,b,c,h1,h2,h3):=agq Hh hn hp bh hg bA R L π [] none none none rfl hl S hs;have h4:=yj h3 (by intro z;cases z);refine⟨mU,h1,h2,?_⟩;unfold Pg.mZ Pg.Ei Mz;rw[ar ⟨rfl,rfl⟩];unfold zu;x_go;unfold pN at h4;have eS:yC (fM (ps.map toPq) n) L st g iZ [] none none none=[some (Tg.fr,fM (ps.map toPq) n),some (Tg.io,.list<|L.map .int),some (Tg.fr,.int st),some (Tg.fr,.int g),some (Tg.fr,M6 iZ),some (Tg.ow,.list []),none,none,none]:=rfl;rw[eS] at h4;rw[h4];rfl
noncomputable def uN:List aU->List Int
 |[]=>[]
 |q::r=>q.w::0::uN r
theorem HS:∀ps:List aU,(uN ps).length=2*ps.length
 |[]=>rfl
 |_::r=>by simp only[uN,ay,HS r];lk
theorem Ek:∀ps:List aU,lf (uN ps)=gK ps
 |[]=>by funext i;unfold lf gK uN;simp
 |q::r=>by
  have ih:=Ek r;funext i
  match i with
  |0=>rfl
  |1=>rfl
  |i+2=>
   have e1:lf (uN (q::r)) (i+2)=lf (uN r) i:=rfl;have e2:gK (q::r) (i+2)=gK r i:=by unfold gK;simp
   simp_all
noncomputable def oh:List aU->List Int->List Int
 |q::r,f::fl=>(q.w - f)::f::oh r fl
 |_,_=>[]
theorem Qw:∀ps:List aU,oh ps (replicate ps.length 0)=uN ps
 |[]=>rfl
 |q::r=>by rw[ay,ii,oh,uN,Qw r,me]
def ab8 (hp:ps.length<=1000000):Pg.gA [hD ps,.list<|fl.map .int]=some (true,.list<|(oh ps fl).map .int):=by
 unfold Pg.gA Pg.Gf hD BL;x_go;have dw:∀all (r:List aU) (fs acc:List Int) (x y:Option PyData),acc.length+2*r.length<=16000000->∃x' y',eE (gT 2<|gC (gN 3)<|gC (gN 4) g0) (aD (gH 2<|aC (v2 jm (v2 aM (vN 3)<|vC<|.int 2)<|vN 4) a0)<|gH 2<|aC (vF 4) a0) (Dq ((r.map toPq).map pD)<|fs.map .int)
   [some (Tg.fr,.list<|(ps.map toPq).map pD),some (Tg.fr,all),some (Tg.ow,.list<|acc.map .int),ob x,ob y]=.nxt [some (Tg.fr,.list<|(ps.map toPq).map pD),some (Tg.fr,all),some (Tg.ow,.list<|(acc++oh r fs).map .int),ob x',ob y']:=λall r=>by
  induction r with
  |nil=>intro fs acc x y _;exact(x,y,by simp[eE,oh,Dq])
  |cons q r ih=>
   intro fs acc x y hb;cases fs with
   |nil=>exact(x,y,by simp[eE,oh,Dq])
   |cons f fs=>
    let(x',y',hx):=ih fs (acc++[q.w - f,f]) (some<|pD<|toPq q) (some<|.int f) (by rw[aw];simp only[ay,eD] at hb ⊢;lk);refine(x',y',?_);have ez:Dq (((q::r).map toPq).map pD) ((f::fs).map .int)=.tuple [pD<|toPq q,.int f]::Dq ((r.map toPq).map pD) (fs.map .int):=rfl;rw[ez,eE];simp only[ay] at hb;unfold pD at hx ⊢;walk_at "e1";rw[ar (by rw[aw,af];exact bT (by simp;lk))];x_go
    have:(acc++[q.w - f,f]).map PyData.int=acc.map .int++[.int<|q.w - f]++[.int f]:=by simp
    rw[this] at hx;rw[oh];simp only[dm,i4,fm,qW] at hx ⊢;exact hx
 let(x',y',hx):=dw (.list<|fl.map .int) ps fl [] none none (by simp;lk);simp only[eQ,fm,iD] at hx;rw[hx];rfl
def agt (hp:ps.length<=1000000):Pg.gA [hD ps,.list<|replicate ps.length<|.int 0]=some (true,.list<|(uN ps).map .int):=by have:=ab8 (fl:=replicate ps.length 0) hp;rw[oz,Qw] at this;exact this
end PM
namespace PM
open L2 VM Sp
variable {left:Lf}
structure Small (n:Nat)(ps:List aU):Prop where
 n1:n<=1000
 p1:ps.length<=1000
 vs:∃vs:List Int,vs.length<=16000000/\∀v∈vals ps,v∈vs
def Qx (Hh:bx n ps):∀q∈ps.map toPq,(0<=q.1/\q.1<(n:Int))/\0<=q.2.1/\q.2.1<(n:Int):=λq hq=>by let(p,hp,rfl):=bp.mp hq;have:=Hh.ra p hp;have:=Hh.rb p hp;show(0<=(p.a:Int)/\(p.a:Int)<n)/\0<=(p.b:Int)/\(p.b:Int)<n;lk
def HW (Hh:bx n ps)(bh:st<n)(bA:st≠g)(hs:∃vs:List Int,vs.length<=16000000/\∀v∈vals ps,v∈vs)(R:Runs n ps st g iZ (gK ps) r cj):
  (∀x∈r,1<=x.1/\1<=x.2)/\∀k,(grouped<|r.take k).length<=16000000:=by
 have S0:St n ps st (gK ps) (λv=>if v=st then 0 else 1):=vo Hh;let(_,_,_,h4,h5):=JX Hh bh R S0;have h1:∀x∈r,1<=x.1/\1<=x.2:=λx hx=>by let(a,b,_):=h4 x hx;simp only[cp bA,eI] at b;lk
 refine⟨h1,λk=>?_⟩;let(vs,hv,hm):=hs;have:=grouped_len (h5.sublist<|oS k r) (λx hx=>h1 x<|fT hx) λx hx=>hm _<|UG Hh bh R S0 x<|fT hx;lk
def ab9 (Hh:bx n ps)(sm:Small n ps):VM.iw [.int n,hD ps]=some (false,fM (ps.map toPq) n):=by have:=Qm ∅ (by have:=sm.n1;lk) (by rw[af];exact sm.p1) (Qx Hh);assumption
def acd (Hh:bx n ps)(sm:Small n ps)(bh:st<n)(hg:g<n)(bA:st≠g):∃r cj,Runs n ps st g none (gK ps) r cj/\Pg.pK [.int n,hD ps,.int st,.int g]=some (true,.list<|(grouped r).map jx):=by
 have S0:St n ps st (gK ps) (λv=>if v=st then 0 else 1):=vo Hh;let(r,cj,R):=ab3 Hh bh hg bA S0;refine(r,cj,R,?_);have hp:ps.length<=1000000:=by have:=sm.p1;lk
 rw[<-Ek] at R S0;let(mU,h1,h2,h3):=Qv Hh sm.n1 hp bh hg bA R (HS ps) S0 (HW Hh bh bA sm.vs (by rw[<-Ek];exact R)).2;unfold Pg.pK Pg.Qn;x_go;unfold hD BL;x_go;rw[af,af,DP _ ∅];have el:=agt hp;have em:=ab9 Hh sm;unfold hD BL at el em;x_go;rw[el];x_go;simp only[Om,Kr,wH,Ol];x_go;rw[em];x_go;simp only[M6] at h3;rw[h3];rfl
def oA (L:List Int)(k:Nat):List Int:=(List.range k).map λi=>lf L<|2*i+1
def zK (Hh:bx n ps)(sm:Small n ps)(bh:st<n)(hg:g<n)(bA:st≠g)(R:Runs n ps st g (some T) (gK ps) r cj):∃mU,lf mU=cj/\mU.length=2*ps.length/\Pg.gB [.int n,hD ps,.int st,.int g,.int T]=some (true,.list<|(oA mU ps.length).map .int):=by
 have S0:St n ps st (gK ps) (λv=>if v=st then 0 else 1):=vo Hh;have hp:ps.length<=1000000:=by have:=sm.p1;lk
 have hp1:=sm.p1;have R':=R;rw[<-Ek] at R' S0;let(mU,h1,h2,h3):=Qv Hh sm.n1 hp bh hg bA R' (HS ps) S0 (HW Hh bh bA sm.vs R).2;refine(mU,h1,h2,?_);unfold Pg.gB Pg.KC;x_go;unfold hD BL;x_go;rw[af,af,DP _ ∅];have el:=agt hp;have em:=ab9 Hh sm;unfold hD BL at el em;x_go;rw[el];x_go;simp only[Ww,Kr,wH,Ol];x_go;rw[em];x_go;simp only[M6] at h3;rw[h3];walk_at "e1";rw[Za (by rw[qy];exact bT ∅)];rw[kZ (f:=λd=>match d with|.int i=>.int (lf mU (2*i.toNat+1))|_=>.none) (by
  intro d hd;let(j,hj):=gI.mp hd;let(hj,rfl):=Dy hj;rw[fS] at hj;refine([some (Tg.fr,.int<|0+j),some (Tg.fr,.list<|mU.map .int)],?_,rfl,?_)
  .rfl
  .walk_at "e1";have e:(2)*(0+j)+1=((2*j+1:Nat):Int):=by lk
   rw[e,Qu ∅];have e2:(0+(j:Int)).toNat=j:=by lk
   simp only[e2];rfl)]
 x_go;congr 3;unfold lF oA;simp
def aoW (Hh:bx n ps)(sm:Small n ps)(bh:st<n)(hg:g<n)(bA:st≠g):∃r mU,Runs n ps st g (some T) (gK ps) r (lf mU)/\mU.length=2*ps.length/\Pg.gB [.int n,hD ps,.int st,.int g,.int T]=some (true,.list<|(oA mU ps.length).map .int):=by have S0:St n ps st (gK ps) (λv=>if v=st then 0 else 1):=vo Hh;let(r,cj,R):=ab3 Hh bh hg bA S0;let(mU,rfl,h2,h3):=zK Hh sm bh hg bA R;exact(r,mU,R,h2,h3)
end PM
namespace LH
open L2 VM Sp PM
noncomputable def zs (F:aU->Int->Int):List aU->List Int->Int
 |q::r,f::fs=>F q f+zs F r fs
 |_,_=>0
theorem ace (F:aU->Int->Int)(L:List Int):∀(ps:List aU) (k:Nat),zs F ps ((List.range' k ps.length).map λi=>lf L<|2*i+1)=gJ (λi q=>F q<|lf L<|2*i+1) k ps
 |[],_=>rfl
 |q::r,k=>by rw[ay,py,az,zs,gJ,ace F L r<|k+1]
def ZL (F:aU->Int->Int)(L:List Int)(ps:List aU):zs F ps (oA L ps.length)=gJ (λi q=>F q<|lf L<|2*i+1) 0 ps:=by unfold oA;rw[nV];exact ace F L ps 0
structure ji (n:Nat)(ps:List aU)(st g:Nat)(T:Int)(fl:List Int)(M C:Int):Prop where
 len:fl.length=ps.length
 lo:∀(i:Nat) q f,ps[i]? =some q->fl[i]? =some f->0<=f/\f<=q.w
 net:∀z:Nat,zs (λq f=>f*(Sp.b2 (q.b=z) - Sp.b2 (q.a=z))) ps fl=M*(Sp.b2 (g=z) - Sp.b2 (st=z))
 cost:zs (λq f=>f*q.l) ps fl=C
 M0:0<=M
 W0:0<=M*(T+1) - C
 price:∃π:Nat->Int,π st=0/\T+1<=π g/\(0<M->π g=T+1)/\∀(i:Nat) q f,ps[i]? =some q->fl[i]? =some f->(f<q.w->π q.b<=π q.a+q.l)/\(0<f->π q.a<=π q.b - q.l)
theorem El:∀{r:List (Int×Int)},(∀x∈r,0<x.2)->0<=many r
 |[],_=>by simp[many]
 |x::r,h=>by
  have a:=h x ae;have b:=El (r:=r) λy hy=>h y<|aa _ hy;have e:many (x::r)=x.2+many r:=by simp[many]
  lk
theorem U0:∀{r:List (Int×Int)},(∀x∈r,0<x.2/\x.1<=T)->0<=many r*(T+1) - spent r
 |[],_=>by simp[many,spent]
 |x::r,h=>by
  have a:=h x ae;have b:=U0 (T:=T) (r:=r) λy hy=>h y<|aa _ hy;have e:many (x::r)=x.2+many r:=by simp[many]
  have e2:spent (x::r)=x.2*x.1+spent r:=by simp[spent]
  have:0<=x.2*(T+1 - x.1):=gs ∅ ∅
  rw[e,e2,il];lk
def BR (h:(oA L k)[i]? =some f):i<k/\f=lf L (2*i+1):=by
 unfold oA at h;rw[av] at h;by_cases hi:i<k
 .rw[iO hi] at h;exact⟨hi,by simpa using h.symm⟩
 .rw[bu (by simp;lk)] at h;cases h
variable {T:Int}
def avq (ps:List aU)(z:Nat):net ps (gK ps) z=0:=by unfold net;rw[jQ (g:=λ_ _=>0) ps 0 λi q _=>by rw[vh];simp,qX]
def aru (ps:List aU):cost ps (gK ps)=0:=by unfold cost;rw[jQ (g:=λ_ _=>0) ps 0 λi q _=>by rw[vh];simp,qX]
def sS (Hh:bx n ps)(bh:st<n)(hg:g<n)(bA:st≠g)(R:Runs n ps st g (some T) (gK ps) r (lf L)):ji n ps st g T (oA L ps.length) (many r) (spent r):=by
 have S0:St n ps st (gK ps) (λv=>if v=st then 0 else 1):=vo Hh;let((Ge,S1),avr,alb,hr,_):=JX Hh bh R S0;let(lJ,f1,f2,f3,f4):=aec Hh bh hg R S0;have pos:∀x∈r,0<x.2/\x.1<=T:=λx hx=>⟨(hr x hx).1,(hr x hx).2.2 T rfl⟩;refine⟨by simp[oA],λi q f e1 e2=>?_,λz=>?_,?_,El λx hx=>(pos x hx).1,U0 pos,lJ,f2,f3,λhM=>f4<|.inl ?_,λi q f e1 e2=>?_⟩
 .let(_,rfl):=BR e2;have h1:=S1.laid.sum i q e1;have h2:=S1.laid.nn<|2*i;have h3:=S1.laid.nn<|2*i+1;lk
 .rw[ZL];have:=avr z;rw[avq,im] at this;exact this
 .rw[ZL];rw[aru,im] at alb;exact alb
 .intro z;rw[z] at hM;simp[many] at hM
 .let(_,rfl):=BR e2;have h1:=S1.laid.sum i q e1;refine⟨λh=>?_,λh=>?_⟩
  .have:=f1.pay q.a (2*i,q.b,q.l) (Hh.ra q<|ah e1) (fU.mpr ⟨i,q,e1,.inl ⟨rfl,rfl⟩⟩) (by show 0<lf L (2*i);lk);exact this
  .have:=f1.pay q.b (2*i+1,q.a,-q.l) (Hh.rb q<|ah e1) (fU.mpr ⟨i,q,e1,.inr ⟨rfl,rfl⟩⟩) h;have ay5:=this;lk
def ZM (hn:n<=1000)(hp:ps.length<=15):Small n ps:=(hn,by lk,vals ps,by rw[aiT];exact dL (nS ⋯ hp)<|by decide,λ_ h=>h)
theorem agu (s:Nat):∀(ps:List aU) (fl:List Int),zs (λq f=>f*(Sp.b2 (q.a=s) - Sp.b2 (q.b=s))) ps fl= - zs (λq f=>f*(Sp.b2 (q.b=s) - Sp.b2 (q.a=s))) ps fl
 |[],_=>by simp[zs]
 |_::_,[]=>by simp[zs]
 |q::r,f::fs=>by rw[zs,zs,agu s r fs,Int.neg_add,←Int.mul_neg];lk
theorem agv (hB:0<=B):∀(ps:List aU) (fl:List Int),(∀q∈ps,∀f∈fl,-B<=F q f/\F q f<=B)→-(B*ps.length)<=zs F ps fl/\zs F ps fl<=B*ps.length
 |[],_,_=>by simp[zs]
 |q::r,[],_=>by
  have:0<=B*((q::r).length:Int):=gs hB ∅
  simp only[zs];lk
 |q::r,f::fs,h=>by have ih:=agv hB r fs λq' hq f' hf=>h q' (aa _ hq) f'<|aa _ hf;have h1:=h q ae f ae;rw[zs,ay];lk
end LH
namespace LH
open L2 VM Sp PM
variable {T:Int}
def aiZ (R:Runs n ps st g none left r cj):∃aG,Found n ps st cj aG/\aG[g]? =some none:=by
 induction R with
 |none hF hn=>exact(_,hF,hn)
 |far _ _ e9 _=>cases e9
 |go _ _ _ ih=>exact ih
def ai0 (R:Runs n ps st g none left r cj)(h:∀x∈r,x.1<=T):Runs n ps st g (some T) left r cj:=by
 induction R with
 |none hF hn=>exact .none hF hn
 |far _ _ e9 _=>lk
 |go P _ _ ih=>exact .go P (λT' e=>by cases e;exact h _ ae) (ih λx hx=>h x<|aa _ hx)
theorem acf:∀{ps:List aU},(∀q∈ps,0<=q.l)->∀v∈vals ps,v<=(ps.map aU.l).sum
 |[],_,v,hv=>by
  have:v=0:=by simpa [vals] using hv
  simp[this]
 |q::r,h,v,hv=>by
  have h0:=h q ae;have ih:=acf (ps:=r) λq' hq=>h q'<|aa _ hq;rw[vals,bc,bc,bp,bp] at hv;rw[az,dk];rcases hv with⟨x,hx,rfl⟩|hx|⟨x,hx,rfl⟩
  .have:=ih x hx;lk
  .have:=ih v hx;lk
  .have:=ih x hx;lk
theorem wR (T:Int):∀r:List (Int×Int),many r*(T+1) - spent r=wsum (λl=>T+1 - l) r
 |[]=>by simp[many,spent,wsum]
 |x::r=>by
  have ih:=wR T r;have e:many (x::r)=x.2+many r:=by simp[many]
  have e2:spent (x::r)=x.2*x.1+spent r:=by simp[spent]
  rw[e,e2,mR,←ih,il,om];lk
def U3 (r:List (Int×Int)):many r=wsum (λ_=>1) r:=by simp[many,wsum]
def arv (bA:st≠g)(F:ji n ps st g T fl M C):zs (λq f=>f*(Sp.b2 (q.a=st) - Sp.b2 (q.b=st))) ps fl=M:=by rw[agu,F.net st];unfold Sp.b2;rw[ar rfl,ap<|λz=>bA z.symm];lk
theorem agw (Z:List Nat)(c:Nat->aU->Int):∀(ps:List aU) (fl:List Int),zs (λq f=>f*(Z.map λz=>c z q).sum) ps fl=(Z.map λz=>zs (λq f=>f*c z q) ps fl).sum
 |[],_=>by
  simp only[zs];induction Z with
  |nil=>rfl
  |cons z Z ih=>rw[az,dk,←ih];rfl
 |_::_,[]=>by
  simp only[zs];induction Z with
  |nil=>rfl
  |cons z Z ih=>rw[az,dk,←ih];rfl
 |q::r,f::fs=>by
  simp only[zs];rw[agw Z c r fs];induction Z with
  |nil=>simp
  |cons z Z ih=>rw[az,az,az,dk,dk,dk,←ih,kg];lk
theorem acg (F G:α->Int):∀Z:List α,(Z.map λz=>F z - G z).sum=(Z.map F).sum - (Z.map G).sum
 |[]=>rfl
 |z::Z=>by rw[az,az,az,dk,dk,dk,acg F G Z];lk
theorem ach (M:Int)(F:Nat->Int):∀Z:List Nat,(Z.map λz=>M*F z).sum=M*(Z.map F).sum
 |[]=>by simp
 |z::Z=>by rw[az,az,dk,dk,ach M F Z,kg]
end LH
namespace LH
open L2 VM Sp PM
variable {ps:List aU}
structure BW (n:Nat)(ps:List aU)(st g:Nat)(G:List (Int×Int)):Prop where
 e:Pg.pK [.int n,hD ps,.int st,.int g]=some (true,.list<|G.map jx)
 rise:R8 G
 len:G.length<=16000000
 low:∀x∈G,x.1<=(ps.map aU.l).sum
 flow:∀T:Int,∃fl M C,ji n ps st g T fl M C/\Pg.gB [.int n,hD ps,.int st,.int g,.int T]=some (true,.list<|fl.map .int)/\M*(T+1) - C=wsum (λl=>if l<=T then T+1 - l else 0) G
 last:∀T:Int,(ps.map aU.l).sum<=T->∃fl C,∃P:Nat->Prop,ji n ps st g T fl (many G) C/\Pg.gB [.int n,hD ps,.int st,.int g,.int T]=some (true,.list<|fl.map .int)/\P st/\¬P g/\∀(i:Nat) q f,ps[i]? =some q->fl[i]? =some f->(P q.a->f<q.w->P q.b)/\(P q.b->0<f->P q.a)
def ai1 (Hh:bx n ps)(sm:Small n ps)(bh:st<n)(hg:g<n)(bA:st≠g):∃G,BW n ps st g G:=by
 let(r,cj,R,es):=acd Hh sm bh hg bA;have S0:St n ps st (gK ps) (λv=>if v=st then 0 else 1):=vo Hh;let((Ge,S1),_,_,_,pw):=JX Hh bh R S0;let(pos,gl):=HW Hh bh bA sm.vs R;have low:∀x∈r,x.1<=(ps.map aU.l).sum:=λx hx=>acf (λq h=>by have:=Hh.l1 q h;lk) x.1 (UG Hh bh R S0 x hx);refine⟨grouped r,es,yu r [] pw pos ⟨.nil,λ_ h=>nomatch h⟩ (λ_ _ _ h=>nomatch h),?_,λx hx=>?_,λT=>?_,λT hT=>?_⟩
 .have:=gl r.length;rwa [List.take_length] at this
 .rcases M4 r [] x hx with⟨z,hz,e⟩|h
  .rw[e];exact low z hz
  .cases h
 .let(jT,R'):=Zk (T:=T) R;let(L,rfl,_,e):=zK Hh sm bh hg bA R';refine⟨_,_,_,sS Hh bh hg bA R',e,?_⟩;rw[wR,←MP r pw,uK]
 .have R':=ai0 (T:=T) R λx hx=>fv (low x hx) hT;let(L,rfl,_,e):=zK Hh sm bh hg bA R';let(aG,hF,hn):=aiZ R;have Tr:=jR S1.fit bh hF;have eM:many (grouped r)=many r:=by rw[U3,U3,uK]
  have F:=sS Hh bh hg bA R';rw[<-eM] at F;refine⟨_,_,λv=>∃l,aG[v]? =some (some l),F,e,⟨_,Tr.st0⟩,λ⟨l,h⟩=>?_,λi q f e1 e2=>⟨λ⟨l,h⟩ hf=>?_,λ⟨l,h⟩ hf=>?_⟩⟩
  .rw[hn] at h;cases h
  .let(_,rfl):=BR e2;have h1:=S1.laid.sum i q e1;let(lv,h2,_):=Tr.rel q.a l (2*i,q.b,q.l) h (fU.mpr ⟨i,q,e1,.inl ⟨rfl,rfl⟩⟩) (by show 0<lf L (2*i);lk);exact⟨lv,h2⟩
  .let(_,rfl):=BR e2;let(lv,h2,_):=Tr.rel q.b l (2*i+1,q.a,-q.l) h (fU.mpr ⟨i,q,e1,.inr ⟨rfl,rfl⟩⟩) hf;exact⟨lv,h2⟩
def ai2 {fl:List Int}(hl:fl.length=ps.length)(hw:∀q∈ps,q.w<=B)(h:∀(i:Nat) q f,ps[i]? =some q->fl[i]? =some f->0<=f/\f<=q.w):∀f∈fl,0<=f/\f<=B:=λf hf=>by
 let(i,hi):=gI.mp hf;have nH:i<ps.length:=by grind
 have h1:=h i _ f (ag nH) hi;grind
def arw {fl:List Int}(bA:st≠g)(F:ji n ps st g T fl M C)(hB:0<=B)(hw:∀q∈ps,q.w<=B):M<=B*ps.length:=by
 have hf:=ai2 F.len hw F.lo;have h:=agv hB ps fl (F:=λq f=>f*(Sp.b2 (q.a=st) - Sp.b2 (q.b=st))) (λq _ f h=>by
  have:=hf f h;unfold Sp.b2;split<;>split<;>lk)
 rw[arv bA F] at h;exact h.2
def agx (h:xs.length+ys.length<=16000000):G5 (.list xs) (.list ys)=some (.list<|xs++ys):=ar<|kQ<|bT h
end LH
namespace LH
open L2 VM Sp PM
variable {M C:Int}
theorem ZP (m:Int)(F:aU->Int):∀(ps:List aU) (fl:List Int),zs (λq f=>f*(m*F q)) ps fl=m*zs (λq f=>f*F q) ps fl
 |[],_=>by simp[zs]
 |_::_,[]=>by simp[zs]
 |q::r,f::fs=>by rw[zs,zs,ZP m F r fs,kg,←n9,mS f m,n9]
theorem ZQ (μ:Nat->Int)(a:Nat):∀{Z:List Nat},Z.Nodup->(Z.map λz=>μ z*Sp.b2 (a=z)).sum=if a∈Z then μ a else 0
 |[],_=>by simp
 |z::Z,nd=>by
  let(h1,h2):=bg.mp nd;rw[az,dk,ZQ μ a h2];unfold Sp.b2;by_cases e:a=z
  .subst e;simp[h1]
  .simp[e]
def U4 (μ:Nat->Int)(h:a<n):((List.range n).map λz=>μ z*Sp.b2 (a=z)).sum=μ a:=by rw[ZQ μ a pz,ar<|ja.mpr h]
def ZR (μ:Nat->Int)(ha:a<n)(hb:b<n):((List.range n).map λz=>μ z*(Sp.b2 (b=z) - Sp.b2 (a=z))).sum=μ b - μ a:=by
 have e:((List.range n).map λz=>μ z*(Sp.b2 (b=z) - Sp.b2 (a=z)))=(List.range n).map λz=>μ z*Sp.b2 (b=z) - μ z*Sp.b2 (a=z):=dv λz _=>by rw[om]
 rw[e,acg,U4 μ hb,U4 μ ha]
theorem Ao:∀{ps:List aU}{fl:List Int},(∀q∈ps,∀f,F q f=G q f)->zs F ps fl=zs G ps fl
 |[],_,_=>by simp[zs]
 |_::_,[],_=>by simp[zs]
 |q::r,f::fs,h=>by rw[zs,zs,h q ae,Ao λq' hq f'=>h q' (aa _ hq) f']
def agy (Hh:bx n ps)(bh:st<n)(hg:g<n)(net:∀z:Nat,zs (λq f=>f*(Sp.b2 (q.b=z) - Sp.b2 (q.a=z))) ps fl=M*(Sp.b2 (g=z) - Sp.b2 (st=z)))(μ:Nat->Int):zs (λq f=>f*(μ q.b - μ q.a)) ps fl=M*(μ g - μ st):=by
 have e1:zs (λq f=>f*(μ q.b - μ q.a)) ps fl=zs (λq f=>f*((List.range n).map λz=>μ z*(Sp.b2 (q.b=z) - Sp.b2 (q.a=z))).sum) ps fl:=Ao λq hq f=>by rw[ZR μ (Hh.ra q hq)<|Hh.rb q hq]
 rw[e1,agw (List.range n)<|λz q=>μ z*(Sp.b2 (q.b=z) - Sp.b2 (q.a=z))];have e2:((List.range n).map λz=>zs (λq f=>f*(μ z*(Sp.b2 (q.b=z) - Sp.b2 (q.a=z)))) ps fl)=(List.range n).map λz=>M*(μ z*(Sp.b2 (g=z) - Sp.b2 (st=z))):=dv λz _=>by rw[ZP (μ z)<|λq=>Sp.b2 (q.b=z) - Sp.b2 (q.a=z),net z,←n9,mS (μ z) M,n9]
 rw[e2,ach M,ZR μ bh hg]
theorem R9 (F G:aU->Int->Int):∀(ps:List aU) (fl:List Int),zs (λq f=>F q f - G q f) ps fl=zs F ps fl - zs G ps fl
 |[],_=>by simp[zs]
 |_::_,[]=>by simp[zs]
 |q::r,f::fs=>by rw[zs,zs,zs,R9 F G r fs];lk
theorem Sd:∀{ps:List aU}{fl:List Int},(∀(i:Nat) q f,ps[i]? =some q->fl[i]? =some f->F q f<=G q f)->zs F ps fl<=zs G ps fl
 |[],_,_=>by simp[zs]
 |_::_,[],_=>by simp[zs]
 |q::r,f::fs,h=>by have h0:=h 0 q f rfl rfl;have:=Sd (F:=F) (G:=G) (ps:=r) (fl:=fs) λi q' f' a b=>h (i+1) q' f' (by simpa using a) (by simpa using b);rw[zs,zs];lk
theorem alc:∀{ps:List aU}{fl:List Int},(∀(i:Nat) q f,ps[i]? =some q->fl[i]? =some f->F q f=G q f)->zs F ps fl=zs G ps fl
 |[],_,_=>by simp[zs]
 |_::_,[],_=>by simp[zs]
 |q::r,f::fs,h=>by rw[zs,zs,h 0 q f rfl rfl,alc λi q' f' a b=>h (i+1) q' f' (by simpa using a) (by simpa using b)]
noncomputable def over (μ:Nat->Int)(q:aU):Int:=if q.l<μ q.b - μ q.a then q.w*(μ q.b - μ q.a - q.l) else 0
def vA (Hh:bx n ps)(bh:st<n)(hg:g<n)(net:∀z:Nat,zs (λq f=>f*(Sp.b2 (q.b=z) - Sp.b2 (q.a=z))) ps fl=M*(Sp.b2 (g=z) - Sp.b2 (st=z)))(cost:zs (λq f=>f*q.l) ps fl=C){μ:Nat->Int}(m0:μ st=0)(m1:μ g=T+1):M*(T+1) - C=zs (λq f=>f*(μ q.b - μ q.a - q.l)) ps fl:=by have e:=agy Hh bh hg net μ;rw[m0,m1,me] at e;rw[<-e,←cost,←R9];exact Ao λq _ f=>by rw[om f (μ q.b - μ q.a) q.l]
def HX (Hh:bx n ps)(bh:st<n)(hg:g<n)(lo:∀(i:Nat) q f,ps[i]? =some q->fl[i]? =some f->0<=f/\f<=q.w)(net:∀z:Nat,zs (λq f=>f*(Sp.b2 (q.b=z) - Sp.b2 (q.a=z))) ps fl=M*(Sp.b2 (g=z) - Sp.b2 (st=z)))(cost:zs (λq f=>f*q.l) ps fl=C){μ:Nat->Int}(m0:μ st=0)(m1:μ g=T+1):M*(T+1) - C<=zs (λq _=>over μ q) ps fl:=by
 rw[vA Hh bh hg net cost m0 m1];refine Sd λi q f a b=>?_;have h:=lo i q f a b;unfold over;split
 .simp_all
 .exact eK h.1 ∅
def Aq (Hh:bx n ps)(bh:st<n)(hg:g<n)(lo:∀(i:Nat) q f,ps[i]? =some q->fl[i]? =some f->0<=f/\f<=q.w)(net:∀z:Nat,zs (λq f=>f*(Sp.b2 (q.b=z) - Sp.b2 (q.a=z))) ps fl=M*(Sp.b2 (g=z) - Sp.b2 (st=z)))(cost:zs (λq f=>f*q.l) ps fl=C){μ:Nat->Int}(m0:μ st=0)(m1:μ g=T+1)(fit:∀(i:Nat) q f,ps[i]? =some q->fl[i]? =some f->(f<q.w->μ q.b - μ q.a<=q.l)/\(0<f->q.l<=μ q.b - μ q.a)):M*(T+1) - C=zs (λq _=>over μ q) ps fl:=by
 rw[vA Hh bh hg net cost m0 m1];refine alc λi q f a b=>?_;have h:=lo i q f a b;have k:=fit i q f a b;unfold over;split
 .grind
 .rename_i z;by_cases p:0<f
  .have:=k.2 p
   have:μ q.b - μ q.a - q.l=0:=by lk
   grind
  .omega
theorem ni (F:aU->Int):∀{ps:List aU}{fl:List Int},fl.length=ps.length->zs (λq _=>F q) ps fl=(ps.map F).sum
 |[],_,_=>by simp[zs]
 |_::_,[],h=>by simp at h
 |q::r,f::fs,h=>by rw[zs,az,dk,ni F<|by simpa using h]
end LH
namespace LH
open L2 VM Sp PM
variable {M:Int}
def inF (z:Nat):aU->Int->Int:=λq f=>f*Sp.b2 (q.b=z)
def outF (z:Nat):aU->Int->Int:=λq f=>f*Sp.b2 (q.a=z)
theorem yD (z:Nat):∀(ps:List aU) (fl:List Int),zs (λq f=>f*(Sp.b2 (q.b=z) - Sp.b2 (q.a=z))) ps fl=zs (inF z) ps fl - zs (outF z) ps fl
 |[],_=>by simp[zs]
 |_::_,[]=>by simp[zs]
 |q::r,f::fs=>by rw[zs,zs,zs,yD z r fs,om];unfold inF outF;lk
def Xn (p:Prop)[Decidable p]:0<=Sp.b2 p:=by unfold Sp.b2;split<;>decide
theorem aei:∀{ps:List aU}{fl:List Int},(∀(i:Nat) q f,ps[i]? =some q->fl[i]? =some f->0<=F q f)->0<=zs F ps fl
 |[],_,_=>by simp[zs]
 |_::_,[],_=>by simp[zs]
 |q::r,f::fs,h=>by have h0:=h 0 q f rfl rfl;have:=aei (F:=F) (ps:=r) (fl:=fs) λi q' f' a b=>h (i+1) q' f' (by simpa using a) (by simpa using b);rw[zs];lk
theorem BX:∀{ps:List aU}{fl:List Int},(∀(i:Nat) q f,ps[i]? =some q->fl[i]? =some f->0<=F q f)->∀(i:Nat) q f,ps[i]? =some q->fl[i]? =some f->F q f<=zs F ps fl
 |[],_,_,i,q,f,a,_=>by simp at a
 |_::_,[],_,i,q,f,_,b=>by simp at b
 |p::r,f0::fs,h,0,q,f,a,b=>by
  cases a;cases b;have:=aei (F:=F) (ps:=r) (fl:=fs) λi q' f' a b=>h (i+1) q' f' (by simpa using a) (by simpa using b);rw[zs];lk
 |p::r,f0::fs,h,i+1,q,f,a,b=>by have h0:=h 0 p f0 rfl rfl;have:=BX (F:=F) (ps:=r) (fl:=fs) (λi q' f' a b=>h (i+1) q' f' (by simpa using a) (by simpa using b)) i q f (by simpa using a) (by simpa using b);rw[zs];lk
theorem Sg:∀{ps:List aU}{fl:List Int},0<zs F ps fl->∃(i:Nat) (q:aU) (f:Int),ps[i]? =some q/\fl[i]? =some f/\0<F q f
 |[],_,h=>by simp[zs] at h
 |_::_,[],h=>by simp[zs] at h
 |q::r,f::fs,h=>by
  rw[zs] at h;by_cases h0:0<F q f
  .exact(0,q,f,rfl,rfl,h0)
  .let(i,q',f',a,b,c):=Sg (F:=F) (ps:=r) (fl:=fs) ∅;exact(i+1,q',f',by simpa using a,by simpa using b,c)
def agz [Decidable p](h:0<f*Sp.b2 p):0<f/\p:=by
 unfold Sp.b2 at h;split at h
 .rename_i hp;exact⟨by lk,hp⟩
 .omega
structure Cons (ps:List aU)(st g:Nat)(fl:List Int)(M:Int):Prop where
 nn:∀(i:Nat) q f,ps[i]? =some q->fl[i]? =some f->0<=f
 net:∀z:Nat,zs (λq f=>f*(Sp.b2 (q.b=z) - Sp.b2 (q.a=z))) ps fl=M*(Sp.b2 (g=z) - Sp.b2 (st=z))
def Cons.aoX (K:Cons ps st g fl M)(z:Nat):∀(i:Nat) q f,ps[i]? =some q->fl[i]? =some f->0<=inF z q f:=λi q f a b=>gs (K.nn i q f a b)<|Xn _
def Cons.ald (K:Cons ps st g fl M)(z:Nat):∀(i:Nat) q f,ps[i]? =some q->fl[i]? =some f->0<=outF z q f:=λi q f a b=>gs (K.nn i q f a b)<|Xn _
def ZV (h:0<zs (outF z) ps fl):∃(i:Nat) (q:aU) (f:Int),ps[i]? =some q/\fl[i]? =some f/\0<f/\q.a=z:=by let(i,q,f,a,b,c):=Sg h;have:=agz c;exact(i,q,f,a,b,this.1,this.2)
def Cons.start (K:Cons ps st g fl M)(bA:st≠g)(hM:0<M):∃(i:Nat) (q:aU) (f:Int),ps[i]? =some q/\fl[i]? =some f/\0<f/\q.a=st:=by
 have e:=K.net st;rw[yD] at e;have h1:=aei<|K.aoX st;have e2:Sp.b2 (g=st) - Sp.b2 (st=st)= -1:=by unfold Sp.b2;rw[ap<|λz=>bA z.symm,ar rfl];rfl
 rw[e2] at e;exact ZV ∅
def Cons.on (K:Cons ps st g fl M)(hM:0<=M){i:Nat}(a:ps[i]? =some q)(b:fl[i]? =some f)(hf:0<f)(hg:q.b≠g\/M=0):∃(j:Nat) (p:aU) (h:Int),ps[j]? =some p/\fl[j]? =some h/\0<h/\p.a=q.b:=by
 have e:=K.net q.b;rw[yD] at e;have h1:=BX (K.aoX q.b) i q f a b;have h2:inF q.b q f=f:=by unfold inF Sp.b2;rw[ar rfl];lk
 rw[h2] at h1;have h3:M*(Sp.b2 (g=q.b) - Sp.b2 (st=q.b))<=0:=by
  rcases hg with hg|hg
  .have:Sp.b2 (g=q.b)=0:=by unfold Sp.b2;rw[ap<|λz=>hg z.symm]
   rw[this];have:=Xn<|st=q.b;exact eK hM ∅
  .rw[hg];lk
 exact ZV ∅
def Cons.none (K:Cons ps st g fl 0){ρ:Nat->Int}(up:∀(i:Nat) q f,ps[i]? =some q->fl[i]? =some f->0<f->ρ q.a<ρ q.b):∀(i:Nat) q f,ps[i]? =some q->fl[i]? =some f->f=0:=by
 obtain⟨R,hR⟩:∃R,∀q∈ps,ρ q.b<=R:=by
  clear K up;induction ps with
  |nil=>exact⟨0,by simp⟩
  |cons p r ih=>
   let(R,h):=ih;refine⟨max R<|ρ p.b,λq hq=>?_⟩;rcases aI.mp hq with rfl|hq
   .exact p4 ..
   .exact fv (h q hq)<|qk ..
 have dw:∀(k:Nat) (i:Nat) q f,ps[i]? =some q->fl[i]? =some f->0<f->R - ρ q.b<k->False:=λk=>by
  induction k with
  |zero=>intro i q f a b hf hk;have:=hR q<|ah a;lk
  |succ k ih=>intro i q f a b hf hk;let(j,p,h,a',b',hh,e):=K.on (bX _) a b hf<|.inr rfl;have u:=up j p h a' b' hh;rw[e] at u;exact ih j p h a' b' hh ∅
 intro i q f a b;have h0:=K.nn i q f a b;by_cases hf:0<f
 .exact(dw ((R - ρ q.b).toNat+1) i q f a b hf ∅).elim
 .omega
def aci (h:0<zs (inF z) ps fl):∃(i:Nat) (q:aU) (f:Int),ps[i]? =some q/\fl[i]? =some f/\0<f/\q.b=z:=by let(i,q,f,a,b,c):=Sg h;have:=agz c;exact(i,q,f,a,b,this.1,this.2)
def Cons.back (K:Cons ps st g fl M)(hM:0<=M){i:Nat}(a:ps[i]? =some q)(b:fl[i]? =some f)(hf:0<f)(hs:q.a≠st):∃(j:Nat) (p:aU) (h:Int),ps[j]? =some p/\fl[j]? =some h/\0<h/\p.b=q.a:=by
 have e:=K.net q.a;rw[yD] at e;have h1:=BX (K.ald q.a) i q f a b;have h2:outF q.a q f=f:=by unfold outF Sp.b2;rw[ar rfl];lk
 rw[h2] at h1;have h3:0<=M*(Sp.b2 (g=q.a) - Sp.b2 (st=q.a)):=by
  have:Sp.b2 (st=q.a)=0:=by unfold Sp.b2;rw[ap<|λz=>hs z.symm]
  rw[this];have:=Xn<|g=q.a;exact gs hM ∅
 exact aci ∅
def Cons.high (K:Cons ps st g fl M)(hM:0<=M){ρ:Nat->Int}(up:∀(i:Nat) q f,ps[i]? =some q->fl[i]? =some f->0<f->ρ q.a<ρ q.b):∀(i:Nat) q f,ps[i]? =some q->fl[i]? =some f->0<f->ρ q.b<=ρ g:=by
 obtain⟨R,hR⟩:∃R,∀q∈ps,ρ q.b<=R:=by
  clear K up;induction ps with
  |nil=>exact⟨0,by simp⟩
  |cons p r ih=>
   let(R,h):=ih;refine⟨max R<|ρ p.b,λq hq=>?_⟩;rcases aI.mp hq with rfl|hq
   .exact p4 ..
   .exact fv (h q hq)<|qk ..
 have dw:∀(k:Nat) (i:Nat) q f,ps[i]? =some q->fl[i]? =some f->0<f->R - ρ q.b<k->ρ q.b<=ρ g:=λk=>by
  induction k with
  |zero=>intro i q f a b hf hk;have:=hR q<|ah a;lk
  |succ k ih=>
   intro i q f a b hf hk;by_cases e:q.b=g
   .rw[e];exact bX _
   .let(j,p,h,a',b',hh,e2):=K.on hM a b hf<|.inl e;have u:=up j p h a' b' hh;rw[e2] at u;have:=ih j p h a' b' hh ∅;lk
 intro i q f a b hf;exact dw ((R - ρ q.b).toNat+1) i q f a b hf ∅
def Cons.low (K:Cons ps st g fl M)(hM:0<=M){ρ:Nat->Int}(up:∀(i:Nat) q f,ps[i]? =some q->fl[i]? =some f->0<f->ρ q.a<ρ q.b):∀(i:Nat) q f,ps[i]? =some q->fl[i]? =some f->0<f->ρ st<=ρ q.a:=by
 obtain⟨R,hR⟩:∃R,∀q∈ps,R<=ρ q.a:=by
  clear K up;induction ps with
  |nil=>exact⟨0,by simp⟩
  |cons p r ih=>
   let(R,h):=ih;refine⟨min R<|ρ p.a,λq hq=>?_⟩;rcases aI.mp hq with rfl|hq
   .exact pT ..
   .exact fv (qi ..)<|h q hq
 have dw:∀(k:Nat) (i:Nat) q f,ps[i]? =some q->fl[i]? =some f->0<f->ρ q.a - R<k->ρ st<=ρ q.a:=λk=>by
  induction k with
  |zero=>intro i q f a b hf hk;have:=hR q<|ah a;lk
  |succ k ih=>
   intro i q f a b hf hk;by_cases e:q.a=st
   .rw[e];exact bX _
   .let(j,p,h,a',b',hh,e2):=K.back hM a b hf e;have u:=up j p h a' b' hh;rw[e2] at u;have:=ih j p h a' b' hh ∅;lk
 intro i q f a b hf;exact dw ((ρ q.a - R).toNat+1) i q f a b hf ∅
def ji.cons (F:ji n ps st g T fl M C):Cons ps st g fl M:=⟨λi q f a b=>(F.lo i q f a b).1,F.net⟩
def ji.Sh {T C:Int}(Hh:bx n ps)(F:ji n ps st g T fl M C)(hT:0<=T):∃μ:Nat->Int,μ st=0/\μ g=T+1/\(∀v,0<=μ v/\μ v<=T+1)/\∀(i:Nat) q f,ps[i]? =some q->fl[i]? =some f->(f<q.w->μ q.b - μ q.a<=q.l)/\(0<f->q.l<=μ q.b - μ q.a):=by
 let(π,p0,p1,p2,p3):=F.price;have up:∀(i:Nat) q f,ps[i]? =some q->fl[i]? =some f->0<f->π q.a<π q.b:=λi q f a b hf=>by have:=(p3 i q f a b).2 hf;have:=Hh.l1 q<|ah a;lk
 refine⟨λv=>min (max (π v) 0)<|T+1,?_,?_,λv=>?_,λi q f a b=>⟨λh=>?_,λh=>?_⟩⟩
 .omega
 .omega
 .omega
 .have:=(p3 i q f a b).1 h;have:=Hh.l1 q<|ah a;lk
 .have h1:=(p3 i q f a b).2 h;have h2:=F.cons.low F.M0 up i q f a b h;have h3:=F.cons.high F.M0 up i q f a b h;have hM:0<M:=by
   have m0:=F.M0;by_cases z:M=0
   .have K:=F.cons;rw[z] at K;have:=K.none up i q f a b;lk
   .omega
  lk
end LH
namespace LH
open L2 VM Sp PM
variable {M:Int}
noncomputable def goes (ps:List aU):Nat->List Nat->Option Nat
 |u,[]=>some u
 |u,j::w=>match ps[j]? with
  |some q=>if q.a=u then goes ps q.b w else none
  |none=>none
theorem U5 (hq:ps[j]? =some q):∀{w:List Nat}{u:Nat},goes ps u w=some q.a->goes ps u (w++[j])=some q.b
 |[],u,h=>by simp only[goes,dS] at h;simp only[fm,goes,hq,h,↓reduceIte]
 |i::w,u,h=>by
  rw[i4,goes];rw[goes] at h;cases e:ps[i]? with
  |none=>lk
  |some p=>
   rw[e] at h;simp only at h ⊢;by_cases ha:p.a=u
   .rw[ar ha] at h ⊢;exact U5 hq h
   .omega
noncomputable def wI (F:aU->Int)(ps:List aU)(j:Nat):Int:=match ps[j]? with
 |some q=>F q
 |none=>0
def nq (h:ps[j]? =some q):wI F ps j=F q:=by unfold wI;rw[h]
def bM (F:aU->Int)(ps:List aU)(w:List Nat):Int:=(w.map<|wI F ps).sum
def Em (F:aU->Int):bM F ps []=0:=rfl
def jW (F:aU->Int)(j:Nat)(w:List Nat):bM F ps (j::w)=wI F ps j+bM F ps w:=by simp[bM]
theorem En (μ:Nat->Int):∀{w:List Nat}{u v:Nat},goes ps u w=some v->bM (λq=>μ q.b - μ q.a) ps w=μ v - μ u
 |[],u,v,h=>by simp only[goes,dS] at h;rw[Em,h];lk
 |j::w,u,v,h=>by
  rw[goes] at h;cases e:ps[j]? with
  |none=>rw[e] at h;cases h
  |some p=>
   rw[e] at h;simp only at h;by_cases ha:p.a=u
   .rw[ar ha] at h;rw[jW,En μ h,nq e,ha];lk
   .rw[ap ha] at h;cases h
theorem Eo (F G:aU->Int):∀w:List Nat,(∀j∈w,j<ps.length)->bM (λq=>F q - G q) ps w=bM F ps w - bM G ps w
 |[],_=>rfl
 |j::w,h=>by have e:=ag<|h j ae;rw[jW,jW,jW,Eo F G w λi hi=>h i<|aa _ hi,nq e,nq e,nq e];lk
theorem U6:∀{w:List Nat},(∀j∈w,0<=wI F ps j)->0<=bM F ps w
 |[],_=>bX _
 |j::w,h=>by have:=U6 (w:=w) λi hi=>h i<|aa _ hi;have:=h j ae;rw[jW];lk
def BZ (h:L[i]? =some f):lf L i=f:=by unfold lf;rw[bE,h];rfl
def oV (h:i<L.length):L[i]? =some (lf L i):=by unfold lf;rw[bE,ag h];rfl
def uO (m:Int)(fl:List Int)(j:Nat):List Int:=fl.set j<|lf fl j - m
def lK (m:Int)(fl:List Int)(w:List Nat):List Int:=w.foldl (uO m) fl
def vD (m:Int)(fl:List Int)(j:Nat):(uO m fl j).length=fl.length:=ce ..
theorem qZ (m:Int):∀(w:List Nat) (fl:List Int),(lK m fl w).length=fl.length
 |[],_=>rfl
 |j::w,fl=>by show(lK m (uO m fl j) w).length=_;rw[qZ m w,vD]
def ai3 (h:j<fl.length)(i:Nat):lf (uO m fl j) i=lf fl i - if i=j then m else 0:=by
 by_cases e:i=j
 .subst e;rw[ar rfl];exact BZ (by unfold uO;rw[bq h])
 .rw[ap e,me];unfold uO lf;simp only[bE,bv<|λz=>e z.symm]
theorem uw:∀{w:List Nat}{fl:List Int},w.Nodup->(∀j∈w,j<fl.length)->∀i,lf (lK m fl w) i=lf fl i - if i∈w then m else 0
 |[],_,_,_,i=>by simp[lK]
 |j::w,fl,nd,h,i=>by let(n1,n2):=bg.mp nd;show lf (lK m (uO m fl j) w) i=_;rw[uw n2 (λi hi=>by rw[vD];exact h i<|aa _ hi),ai3<|h j ae];grind
theorem agA (F:aU->Int)(x:Int):∀(ps:List aU) (fl:List Int) (j:Nat),fl.length=ps.length->j<fl.length->zs (λq f=>f*F q) ps (fl.set j<|lf fl j - x)=zs (λq f=>f*F q) ps fl - x*wI F ps j
 |[],[],j,_,h=>by simp at h
 |[],_::_,_,e,_=>by simp at e
 |_::_,[],_,e,_=>by simp at e
 |q::r,f::fs,0,e,_=>by have e1:lf (f::fs) 0=f:=rfl;have e2:wI F (q::r) 0=F q:=rfl;rw[kA,zs,zs,e1,e2,Int.sub_mul];lk
 |q::r,f::fs,j+1,e,h=>by have e1:lf (f::fs) (j+1)=lf fs j:=rfl;have e2:wI F (q::r) (j+1)=wI F r j:=rfl;rw[kB,zs,zs,e1,e2,agA F x r fs j (by simpa using e) (by simpa using h)];lk
theorem Sq (F:aU->Int)(m:Int):∀{w:List Nat}{fl:List Int},fl.length=ps.length->(∀j∈w,j<fl.length)->zs (λq f=>f*F q) ps (lK m fl w)=zs (λq f=>f*F q) ps fl - m*bM F ps w
 |[],fl,_,_=>by rw[Em,mP,me];rfl
 |j::w,fl,e,h=>by show zs _ ps (lK m (uO m fl j) w)=_;rw[Sq F m (by rw[vD];exact e) (λi hi=>by rw[vD];exact h i<|aa _ hi)];unfold uO;rw[agA F m ps fl j e<|h j ae,jW,kg];lk
noncomputable def nZ:List Int->Nat
 |[]=>0
 |f::r=>(if 0<f then 1 else 0)+nZ r
theorem acj:∀{a b:List Int},a.length=b.length->(∀i:Nat,0<lf a i->0<lf b i)->nZ a<=nZ b
 |[],[],_,_=>ax _
 |[],_::_,e,_=>by simp at e
 |_::_,[],e,_=>by simp at e
 |x::a,y::b,e,h=>by
  have ih:=acj (a:=a) (b:=b) (by simpa using e) λi hi=>h (i+1) hi;have h0:0<x->0<y:=h 0;rw[nZ,nZ];by_cases hx:0<x
  .rw[ar hx,ar<|h0 hx];lk
  .rw[ap hx];lk
theorem Ss:∀{a b:List Int},a.length=b.length->(∀i:Nat,0<lf a i->0<lf b i)->(∃i:Nat,lf a i<=0/\0<lf b i)->nZ a<nZ b
 |[],[],_,_,⟨i,h1,h2⟩=>by simp[lf] at h2
 |[],_::_,e,_,_=>by simp at e
 |_::_,[],e,_,_=>by simp at e
 |x::a,y::b,e,h,⟨i,h1,h2⟩=>by
  have e':a.length=b.length:=by simpa using e
  have hh:∀i:Nat,0<lf a i->0<lf b i:=λi hi=>h (i+1) hi;rw[nZ,nZ];cases i with
  |zero=>have h1':x<=0:=h1;have Ug:0<y:=h2;have:=acj e' hh;lk
  |succ i=>have:=Ss e' hh (i,h1,h2);have h0:0<x->0<y:=h 0;lk
theorem yE:∀a:List Int,nZ a<=a.length
 |[]=>ax _
 |x::a=>by have:=yE a;rw[nZ,ay];split<;>lk
noncomputable def share (i:Nat):List (List Nat×Int)->Int
 |[]=>0
 |x::ws=>(if i∈x.1 then x.2 else 0)+share i ws
noncomputable def HY (F:aU->Int)(ps:List aU):List (List Nat×Int)->Int
 |[]=>0
 |x::ws=>x.2*bM F ps x.1+HY F ps ws
structure yF (ps:List aU)(st g:Nat)(x:List Nat×Int):Prop where
 go:goes ps st x.1=some g
 nd:x.1.Nodup
 ix:∀j∈x.1,j<ps.length
 ne:x.1≠[]
 m1:1<=x.2
structure oW (ps:List aU)(st g:Nat)(fl:List Int)(ws:List (List Nat×Int)):Prop where
 walk:∀x∈ws,yF ps st g x
 sum:∀i:Nat,i<ps.length->share i ws=lf fl i
 few:ws.length<=nZ fl
 tot:∀F:aU->Int,HY F ps ws=zs (λq f=>f*F q) ps fl
def Up (ps:List aU)(fl:List Int)(ρ:Nat->Int):Prop:=∀(i:Nat) q f,ps[i]? =some q->fl[i]? =some f->0<f->ρ q.a<ρ q.b
theorem acn (F:aU->Int):∀{ps:List aU}{fl:List Int},(∀i:Nat,i<ps.length->lf fl i=0)->zs (λq f=>f*F q) ps fl=0
 |[],_,_=>by simp[zs]
 |_::_,[],_=>by simp[zs]
 |q::r,f::fs,h=>by have h0:f=0:=h 0 (by simp);rw[zs,h0,mM,acn F (ps:=r) (fl:=fs) λi hi=>h (i+1)<|by simpa using hi];rfl
def oW.nil (h:∀i:Nat,i<ps.length->lf fl i=0):oW ps st g fl []:=
 (λ_ h=>(nomatch h),λi hi=>(h i hi).symm,dE _,λF=>(acn F h).symm)
def Cons.take (K:Cons ps st g fl M)(hl:fl.length=ps.length)(hw:goes ps st w=some g)(nd:w.Nodup)(hi:∀j∈w,j<ps.length)(hm:∀j∈w,m<=lf fl j):Cons ps st g (lK m fl w) (M - m):=by
 have zL:∀j∈w,j<fl.length:=λj hj=>by rw[hl];exact hi j hj
 refine⟨λi q f a b=>?_,λz=>?_⟩
 .have e:=uw (m:=m) nd zL i;rw[BZ b] at e;have nH:i<fl.length:=by have:=(ab.mp b).1;rwa [qZ] at this
  have:=K.nn i q _ a<|oV nH;rw[e];by_cases hiw:i∈w
  .rw[ar hiw];have:=hm i hiw;lk
  .rw[ap hiw];lk
 .have:=Sq (λq=>Sp.b2 (q.b=z) - Sp.b2 (q.a=z)) m hl zL;rw[this,K.net z,En (λv=>Sp.b2<|v=z) hw,Int.sub_mul]
def M7 (hm:0<=m)(nd:w.Nodup)(hi:∀j∈w,j<fl.length)(h:0<lf (lK m fl w) i):0<lf fl i:=by rw[uw nd hi i] at h;lk
def Up.take (U:Up ps fl ρ)(hm:0<=m)(nd:w.Nodup)(hi:∀j∈w,j<fl.length):Up ps (lK m fl w) ρ:=λi q f a b h=>by
 have nH:i<fl.length:=by have:=(ab.mp b).1;rwa [qZ] at this
 rw[<-BZ b] at h;exact U i q _ a (oV nH)<|M7 hm nd hi h
def oW.more {ws:List (List Nat×Int)}(hl:fl.length=ps.length)(W:yF ps st g (w,m))(hm:∀j∈w,m<=lf fl j)(tQ:∃j∈w,lf fl j=m)(P:oW ps st g (lK m fl w) ws):oW ps st g fl ((w,m)::ws):=by
 have zL:∀j∈w,j<fl.length:=λj hj=>by rw[hl];exact W.ix j hj
 have m1:=W.m1;simp only at m1;refine(λx hx=>?_,λi hi=>?_,?_,λF=>?_)
 .rcases aI.mp hx with rfl|hx
  .exact W
  .exact P.walk x hx
 .have:=P.sum i hi;rw[uw W.nd zL i] at this;rw[share,this];lk
 .have h1:=P.few;let(j,hj,e):=tQ;have h2:nZ (lK m fl w)<nZ fl:=Ss (qZ ..) (λi h=>M7 ∅ W.nd zL h) (j,by rw[uw W.nd zL j,ar hj];lk,by lk);grind
 .rw[HY,P.tot F,Sq F m hl zL];lk
def Cons.most (K:Cons ps st g fl M)(hl:fl.length=ps.length)(bA:st≠g)(U:Up ps fl ρ)(hM:0<=M)(hw:goes ps st w=some g)(hi:∀j∈w,j<ps.length)(hm:∀j∈w,m<=lf fl j)(wn:w≠[]):0<=M - m:=by
 cases w with
 |nil=>lk
 |cons j w=>
  have hj:=hi j ae;have hmj:=hm j ae;have e:=ag hj;rw[goes,e] at hw;simp only at hw;by_cases ha:ps[j].a=st
  .have ef:=oV (by rw[hl];exact hj);have part:=BX (K.ald st) j _ _ e ef;have hn:=K.net st;rw[yD] at hn;have e2:Sp.b2 (g=st) - Sp.b2 (st=st)= -1:=by unfold Sp.b2;rw[ap<|λz=>bA z.symm,ar rfl];rfl
   rw[e2] at hn;have hin:zs (inF st) ps fl<=0:=by
    by_cases z:0<zs (inF st) ps fl
    .let(i,q,f,a,b,c,d):=aci z;have h1:=K.low hM U i q f a b c;have h2:=U i q f a b c;lk
    .omega
   have e3:outF st ps[j] (lf fl j)=lf fl j:=by unfold outF Sp.b2;rw[ar ha,oo]
   lk
  .omega
def ai4 {ws:List (List Nat×Int)}(h:∀x∈ws,1<=x.2)(i:Nat):0<=share i ws:=by
 induction ws with
 |nil=>exact bX _
 |cons x ws ih=>have:=ih λy hy=>h y<|aa _ hy;have:=h x ae;rw[share];lk
def ai5 {ws:List (List Nat×Int)}(h:∀x∈ws,1<=x.2):∀x∈ws,i∈x.1->x.2<=share i ws:=by
 induction ws with
 |nil=>simp
 |cons y ws ih=>intro x hx hi;have h0:=ai4 (λy hy=>h y<|aa _ hy) i;have h1:=h y ae;rw[share];grind
def oW.has {ws:List (List Nat×Int)}(P:oW ps st g fl ws)(hx:x∈ws):∀j∈x.1,x.2<=lf fl j/\0<lf fl j:=λj hj=>by have m1:=(P.walk x hx).m1;have:=ai5 (λy hy=>(P.walk y hy).m1) x hx hj;rw[P.sum j<|(P.walk x hx).ix j hj] at this;lk
end LH
local macro_rules | `(tactic| walk_at "e2")=>do
 let a<-lsQ (evS++" gRv aoA agc abY")
 `(tactic| try simp only[$a,*,↓reduceIte])
set_option hygiene false in
local macro_rules | `(tactic| walk_at "e3")=>do
 let a<-lsQ (evS++" gRv aoA agc abY jh oR su Oq decide_eq_true decide_eq_false if_pos if_neg length_map")
 `(tactic| try simp (disch:=first | with_unfolding_all exact rfl | omega | assumption | (refine bT ?_; omega)) only[$a,*,↓reduceIte])
namespace LH
open L2 VM Sp PM
variable {st g:Nat}
def Xo (ps:List aU)(fl:List Int)(u k:Nat)(o:Out):Prop:=
 (∃(i:Nat) (q:aU) (S':GS),ps[i]? =some q/\q.a=u/\0<lf fl i/\o=Out.ret S' false (.int (i:Int)))\/
 ((∀(i:Nat) (q:aU),k<=i->ps[i]? =some q->q.a=u->lf fl i<=0)/\∃x3' KJ,o=Out.nxt [some (Tg.fr,.list<|(ps.map toPq).map pD),some (Tg.fr,.int (u:Int)),some (Tg.fr,.list<|fl.map .int),ob x3',ob KJ])
def Xo.step (h:Xo ps fl u (k+1) o)(h0:∀q:aU,ps[k]? =some q->q.a=u->lf fl k<=0):Xo ps fl u k o:=by
 rcases h with h|⟨h1,h2⟩
 .exact .inl h
 .refine .inr ⟨λi q hi e ha=>?_,h2⟩;by_cases z:i=k
  .subst z;exact h0 q e ha
  .exact h1 i q ∅ e ha
theorem acp (hl:fl.length=ps.length):∀(r:List aU) (k:Nat) (x3 x4:Option PyData),(∀j:Nat,r[j]? =ps[k+j]?)->
  Xo ps fl u k (eE (gT 2 (gC (gN 3) (gC (gN 4) g0)))
   (dJ (fP (vB<|v2 gU (v2 aM (vN 4)<|vC<|.int 0)<|vN 1)<|vB<|v2 tM (v2 aM (vN 2)<|vN 3)<|vC<|.int 0) (fX 3) cC)
   (qx k ((r.map toPq).map pD)) [some (Tg.fr,.list ((ps.map toPq).map pD)),some (Tg.fr,.int (u:Int)),some (Tg.fr,.list (fl.map .int)),ob x3,ob x4])
 |[],k,x3,x4,h=>.inr (λi q hi e=>by
  have:=h (i - k);rw[show k+(i - k)=i by lk,e] at this;simp at this,x3,x4,rfl)
 |q::r,k,x3,x4,h=>by
  have hk:ps[k]? =some q:=(h 0).symm;have hkl:k<fl.length:=by rw[hl];exact(ab.mp hk).1
  have hr:∀j:Nat,r[j]? =ps[k+1+j]?:=λj=>by have:=h<|j+1;rw[kM] at this;rw[this];congr 1;lk
  have ih:=acp (u:=u) hl r (k+1) (some<|.int (k:Int)) (some<|pD<|toPq q) hr;have e0:qx k (((q::r).map toPq).map pD)=.tuple [.int (k:Int),pD<|toPq q]::qx (k+1) ((r.map toPq).map pD):=rfl;have e1:pD (toPq q)=.tuple [.int (q.a:Int),.int (q.b:Int),.int q.w,.int q.l]:=rfl;rw[e0];simp only[eE];rw[e1] at ih ⊢;simp only[qW] at ih;by_cases ha:q.a=u
  .have e2:((q.a:Int)=(u:Int)):=by rw[ha]
   by_cases hf:0<lf fl k
   .kt_k;rw[Qu hkl];kt_k;exact .inl (k,q,_,hk,ha,hf,rfl)
   .z_go;simp only[e2,dP];z_go;rw[Qu hkl];kt_k;simp only[e2] at ih;exact ih.step λ_ _ _=>by lk
  .have e2:¬((q.a:Int)=(u:Int)):=by lk
   kt_k;exact ih.step λq' e' ha'=>by rw[hk] at e';cases e';exact absurd ha' ha
def aoZ (hl:fl.length=ps.length):(∃(i:Nat) (q:aU),ps[i]? =some q/\q.a=u/\0<lf fl i/\Pg.jB [hD ps,.int (u:Int),.list<|fl.map .int]=some (false,.int (i:Int)))\/
  ((∀(i:Nat) q,ps[i]? =some q->q.a=u->lf fl i<=0)/\Pg.jB [hD ps,.int (u:Int),.list<|fl.map .int]=some (false,.none)):=by
 unfold Pg.jB Pg.Hu hD BL;z_go;rcases acp hl ps 0 none none (λj=>by rw[i8]) with⟨i,q,S',h1,h2,h3,h4⟩|⟨h1,x3,x4,h2⟩
 .simp only[iD] at h4;refine .inl ⟨i,q,h1,h2,h3,?_⟩;rw[h4];rfl
 .simp only[iD] at h2;refine .inr ⟨λi q=>h1 i q<|dE _,?_⟩;rw[h2];rfl
def zM:VS:=(aD (bN (bH Pg.jB (aC (vF 0) (aC (vF 5) (aC (vF 3) a0)))) (gN 6))
 (aD (dJ (vB (v2 isD (vN 6) (vC .none)))
 (rW<|fK a0)
 cC)
 (aD (gH 4 (aC (vF 6) a0))
 (bN (v2 aM (v2 aM (vN 0) (vN 6)) (vC (.int 1))) (gN 5)))))
def SA (ps:List aU)(st g:Nat)(fl:List Int)(w:List Nat)(v:Nat)(x6:Option PyData):GS:=[some (Tg.fr,hD ps),some (Tg.fr,.int (st:Int)),some (Tg.fr,.int (g:Int)),some (Tg.fr,.list<|fl.map .int),some (Tg.ow,.list<|w.map eU),some (Tg.fr,.int (v:Int)),ob x6]
def ai6 {v i:Nat}(hq:ps[i]? =some q)(e:Pg.jB [hD ps,.int (v:Int),.list<|fl.map .int]=some (false,.int (i:Int)))(hw:w.length<=1000000):zM (SA ps st g fl w v x6)=.nxt (SA ps st g fl (w++[i]) q.b<|some<|.int (i:Int)):=by unfold zM SA;z_go;rw[e];kt_k;unfold hD BL;z_go;rw[lG pD (by rw[av,hq];rfl)];z_go;rw[bz];rfl
def ai7 {ρ:Nat->Int}(hl:fl.length=ps.length)(hp:ps.length<=1000)(K:Cons ps st g fl M)(hM:0<M)(bA:st≠g)(U:Up ps fl ρ):∀(k:Nat) (w:List Nat) (v:Nat) (x6:Option PyData),(ρ g - ρ v).toNat<k->goes ps st w=some v->
  (∀j∈w,j<ps.length/\0<lf fl j/\∀q:aU,ps[j]? =some q->ρ q.a<ρ v)->w.Nodup->(v=st/\w=[]\/w≠[]/\∃(i:Nat) (q:aU) (f:Int),ps[i]? =some q/\fl[i]? =some f/\0<f/\q.b=v)->
  ∃w',goes ps st w'=some g/\w'.Nodup/\(∀j∈w',j<ps.length/\0<lf fl j)/\w'≠[]/\∃Ep zN,cD (vB<|v2 jO (vN 5)<|vN 2) zM Ep (SA ps st g fl w v x6)=.nxt (SA ps st g fl w' g zN):=λk=>by
 induction k with
 |zero=>intro w v x6 h;lk
 |succ k ih=>
  intro w v x6 hk hw hj nd hv;have cond:vB (v2 jO (vN 5)<|vN 2) (SA ps st g fl w v x6)=some (!decide ((v)=(g:Int))):=by unfold SA;z_go
  by_cases hg:v=g
  .subst hg;refine⟨w,hw,nd,λj h=>⟨(hj j h).1,(hj j h).2.1⟩,?_,1,x6,?_⟩
   .rcases hv with⟨z,_⟩|⟨h,_⟩
    .exact absurd z.symm bA
    .exact h
   .rw[cD,cond];simp
  .have nx:∃(i:Nat) (q:aU) (f:Int),ps[i]? =some q/\fl[i]? =some f/\0<f/\q.a=v:=by
    rcases hv with⟨z,_⟩|⟨_,i,q,f,a,b,c,d⟩
    .rw[z];exact K.start bA hM
    .rw[<-d];exact K.on (i5 hM) a b c<|.inl (by rw[d];exact hg)
   rcases aoZ (u:=v) hl with⟨i,q,h1,h2,h3,h4⟩|⟨h1,_⟩
   .have nH:=(ab.mp h1).1;have hfi:=oV (by rw[hl];exact nH);have up:=U i q _ h1 hfi h3;have hi:=K.high (i5 hM) U i q _ h1 hfi h3;have wu:=lR nd λj h=>(hj j h).1;let(w',a1,a2,a3,a4,Ep,zN,a5):=ih (w++[i]) q.b (some (.int (i))) (by rw[<-h2] at hk;lk) (U5 h1 (by rw[h2];exact hw)) (λj h=>by
     rcases bc.mp h with h|h
     .let(b1,b2,b3):=hj j h;exact⟨b1,b2,λq' e'=>by have:=b3 q' e';rw[h2] at up;lk⟩
     .rw[aE.mp h];exact⟨nH,h3,λq' e'=>by rw[h1] at e';cases e';exact up⟩) (by
     refine fz.mpr ⟨nd,by simp,?_⟩;intro x hx y hy;rw[aE.mp hy];intro z;have:=(hj x hx).2.2 q (by rw[z];exact h1);rw[h2] at this;lk) (.inr ⟨by simp,i,q,_,h1,hfi,h3,rfl⟩)
    refine⟨w',a1,a2,a3,a4,Ep+1,zN,?_⟩;refine HJ ?_ (ai6 h1 h4 ∅) a5;rw[cond]
    have:¬((v)=(g:Int)):=by lk
    simp only[this,de];rfl
   .let(i,q,f,a,b,c,d):=nx;have:=h1 i q a d;rw[BZ b] at this;lk
def amt (hl:fl.length=ps.length)(hp:ps.length<=1000)(K:Cons ps st g fl M)(hM:0<M)(bA:st≠g)(U:Up ps fl ρ):∃w:List Nat,goes ps st w=some g/\w.Nodup/\(∀j∈w,j<ps.length/\0<lf fl j)/\w≠[]/\Pg.iV [hD ps,.int (st:Int),.int (g:Int),.list<|fl.map .int]=some (true,.list<|w.map eU):=by let(w,h1,h2,h3,h4,Ep,x6,h5):=ai7 hl hp K hM bA U _ [] st none (jp _) rfl (by simp) .nil (.inl ⟨rfl,rfl⟩);refine⟨w,h1,h2,h3,h4,?_⟩;have h6:=yj h5 (by intro z;cases z);unfold SA at h6;unfold zM at h6;unfold Pg.iV Pg.yx;z_go;simp only[iD,eQ] at h6;rw[h6];rfl
def ai8 (hl:fl.length=ps.length)(K:Cons ps st g fl 0)(bA:st≠g)(U:Up ps fl ρ):(∀i:Nat,i<ps.length->lf fl i=0)/\Pg.iV [hD ps,.int (st:Int),.int (g:Int),.list<|fl.map .int]=some (true,.list []):=by
 have z:∀i:Nat,i<ps.length->lf fl i=0:=λi hi=>K.none U i _ _ (ag hi) (oV (by rw[hl];exact hi));refine⟨z,?_⟩;rcases aoZ hl with⟨i,q,h1,h2,h3,h4⟩|⟨_,h1⟩
 .have:=z i (ab.mp h1).1;lk
 .unfold Pg.iV Pg.yx;z_go;have hw:∀S x6,cD (vB<|v2 jO (vN 5)<|vN 2) zM 1 (SA ps st g fl [] st x6)=S->S=.ret ((SA ps st g fl [] st<|some .none)) true (.list []):=λS x6 h=>by
   rw[<-h,cD];have cond:vB (v2 jO (vN 5)<|vN 2) (SA ps st g fl [] st x6)=some true:=by
    unfold SA;z_go
    have:¬((st)=(g:Int)):=by lk
    simp only[this,de];rfl
   rw[cond];simp only;have eb:zM (SA ps st g fl [] st x6)=.ret (SA ps st g fl [] st<|some .none) true (.list []):=by unfold zM SA;z_go;rw[h1];z_go
   rw[eb]
  have h6:=yj (hw _ none rfl) (by intro z;cases z);unfold SA zM at h6;simp only[iD,eQ] at h6;rw[h6];z_go
def vG (x:List Nat×Int):PyData:=.tuple [.list<|x.1.map eU,.int x.2]
theorem ZW:∀w:List Nat,oJ (w.map eU)=true
 |[]=>rfl
 |j::w=>by simp only[az,eU,oJ,u9,Bool.true_and];exact ZW w
def Qy:VS:=(aD (bN (vf Pg.iV (aC (vN 0) (aC (vN 1) (aC (vN 2) (aC (vN 4) a0))))) (gN 6))
 (aD (dJ (dU (ug (vN 6)))
 (fX 5)
 cC)
 (aD (bN (dW minD (aC (Ds (bZ (vF 6)) [none,some 4] (gN 0) jf (v2 aM (vN 1) (vN 0))) a0)) (gN 7))
 (aD (jA (bZ (vF 6)) (gN 8)
 (pI jm 4 (vN 8) (vF 7)))
 (gH 5 (aC (fJ (aC (vF 6) (aC (vF 7) a0))) a0))))))
def SK (ps:List aU)(st g:Nat)(ZX:List Int)(fl:List Int)(ws:List (List Nat×Int))(x6 x7 x8:Option PyData):GS:=[some (Tg.fr,hD ps),some (Tg.fr,.int (st:Int)),some (Tg.fr,.int (g:Int)),some (Tg.fr,.list<|ZX.map .int),some (Tg.ow,.list<|fl.map .int),some (Tg.ow,.list<|ws.map vG),ob x6,ob x7,ob x8]
def ai9 (hl:fl.length=ps.length)(hp:ps.length<=1000)(ha:acc.length<=1000000)(nd:w.Nodup)(hw:∀j∈w,j<ps.length/\0<lf fl j)(wn:w≠[])(e:Pg.iV [hD ps,.int (st:Int),.int (g:Int),.list<|fl.map .int]=some (true,.list<|w.map eU)):
  ∃m y6 y7 y8,1<=m/\(∀j∈w,m<=lf fl j)/\(∃j∈w,lf fl j=m)/\Qy (SK ps st g ZX fl acc x6 x7 x8)=.nxt (SK ps st g ZX (lK m fl w) (acc++[(w,m)]) y6 y7 y8):=by
 have wu:=lR nd λj h=>(hw j h).1;let(l1,l2):=mF (ns:=w.map<|lf fl) (by simpa using wn);generalize hm:jH (w.map<|lf fl)=m at*
 let(j0,tR,ej0):=bp.mp l1;have dw:∀rs (L:List Int) (A B:PyData) (x:Option PyData),L.length=ps.length->(∀j∈rs,j<ps.length)->∃x',
   eE (gN 8) (pI jm 4 (vN 8)<|vF 7) (rs.map eU) [some (Tg.fr,hD ps),some (Tg.fr,.int<|st),some (Tg.fr,.int<|g),some (Tg.fr,.list<|ZX.map .int),some (Tg.ow,.list<|L.map .int),some (Tg.ow,A),some (Tg.fr,B),some (Tg.fr,.int m),ob x]
    =.nxt [some (Tg.fr,hD ps),some (Tg.fr,.int<|st),some (Tg.fr,.int<|g),some (Tg.fr,.list<|ZX.map .int),some (Tg.ow,.list<|(lK m L rs).map .int),some (Tg.ow,A),some (Tg.fr,B),some (Tg.fr,.int m),ob x']:=λrs=>by
  induction rs with
  |nil=>intro L A B x _ _;exact⟨x,rfl⟩
  |cons j rs ih=>intro L A B x hL hj;have h1:=hj j ae;let(x',hx):=ih (uO m L j) A B (some<|.int<|j) (by rw[vD];exact hL) λi hi=>hj i<|aa _ hi;refine⟨x',?_⟩;rw[az,eE];unfold eU;z_go;rw[af,yq ∅];z_go;rw[ZK ∅];z_go;rw[<-ku];simp only[qW] at hx;exact hx
 let(x',hx):=dw w fl (.list<|acc.map vG) (.list<|w.map eU) x8 hl λj h=>(hw j h).1;refine⟨m,some<|.list<|w.map eU,some<|.int m,x',?_,λj h=>l2 _<|bp.mpr ⟨j,h,rfl⟩,⟨j0,tR,ej0⟩,?_⟩
 .grind
 unfold Qy SK;z_go;rw[e];z_go;rw[ZW];z_go;have et:(w.map eU).isEmpty=false:=by cases w with|nil=>exact absurd rfl wn|cons a r=>rfl
 simp only[et];z_go;rw[Za (by rw[af];exact bT ∅)];rw[kZ (f:=λd=>match d with|.int m=>.int (lf fl m.toNat)|_=>.none) (by
  intro d hd;let(j,h,rfl):=bp.mp hd;refine⟨[some (Tg.fr,.int<|j),some (Tg.fr,.list<|fl.map .int)],?_,rfl,?_⟩
  .rfl
  .have:=(hw j h).1;z_go;rw[Qu ∅];rfl)]
 rw[cm];have em:w.map ((λd=>match d with|.int m=>PyData.int (lf fl m.toNat)|_=>.none) ∘ eU)=(w.map<|lf fl).map PyData.int:=by rw[cm];rfl
 rw[em];z_go;have eM:minD [.list<|(w.map<|lf fl).map PyData.int]=some (.int m):=by
  simp only[minD,lE];cases w with
  |nil=>lk
  |cons a r=>lk
 rw[eM];z_go;rw[hx];kt_k;rw[bz];rfl
def aja (hp:ps.length<=1000)(bA:st≠g):∀(k:Nat) (fl:List Int) (M:Int) (acc:List (List Nat×Int)) (x6 x7 x8:Option PyData),nZ fl<k->fl.length=ps.length->Cons ps st g fl M->0<=M->Up ps fl ρ->acc.length+nZ fl<=1000000->
  ∃ws Ep S',oW ps st g fl ws/\cD (vB<|vC<|.bool true) Qy Ep (SK ps st g ZX fl acc x6 x7 x8)=.ret S' true (.list<|(acc++ws).map vG):=λk=>by
 induction k with
 |zero=>intro fl M acc x6 x7 x8 h;lk
 |succ k ih=>
  intro fl M acc x6 x7 x8 hk hl K hM U Ar;by_cases hz:M=0
  .subst hz;let(z,e):=ai8 hl K bA U;refine([],1,(SK ps st g ZX fl acc (some<|.list []) x7 x8).set 5 none,oW.nil z,?_);refine Ej rfl ?_;unfold Qy SK;z_go;rw[e];z_go;simp only[pM];z_go
  .let(w,h1,h2,h3,h4,h5):=amt hl hp K ∅ bA U;let(m,y6,y7,y8,m1,m2,m3,eb):=ai9 (acc:=acc) hl hp ∅ h2 h3 h4 h5;have zL:∀j∈w,j<fl.length:=λj hj=>by rw[hl];exact(h3 j hj).1
   have K':=K.take hl h1 h2 (λj hj=>(h3 j hj).1) m2;have U':Up ps (lK m fl w) ρ:=U.take ∅ h2 zL;let(j0,tR,ej0):=m3;have dZ:nZ (lK m fl w)<nZ fl:=Ss (qZ ..) (λi h=>M7 ∅ h2 zL h) (j0,by rw[uw h2 zL j0,ar tR];lk,by lk);have hM':0<=M - m:=by
    by_cases z:0<=M - m
    .exact z
    .
     exact K.most hl bA U hM h1 (λj hj=>(h3 j hj).1) m2 h4
   let(ws,Ep,S',P,e):=ih (lK m fl w) (M - m) (acc++[(w,m)]) y6 y7 y8 ∅ (by rw[qZ];exact hl) K' hM' U' (by rw[aw];simp only[ay,eD];lk);refine((w,m)::ws,Ep+1,S',P.more hl (h1,h2,λj hj=>(h3 j hj).1,h4,m1) m2 (j0,tR,ej0),?_);refine HJ rfl eb ?_;rw[e,dm];rfl
def acq (hl:fl.length=ps.length)(hp:ps.length<=1000)(bA:st≠g)(K:Cons ps st g fl M)(hM:0<=M)(U:Up ps fl ρ):∃ws,oW ps st g fl ws/\Pg.m9 [hD ps,.int (st:Int),.int (g:Int),.list<|fl.map .int]=some (true,.list<|ws.map vG):=by let(ws,Ep,S',P,e):=aja hp bA _ fl M [] none none none (jp _) hl K hM U (by have:=yE fl;simp;lk);refine(ws,P,?_);have e2:=yj e (by intro z;cases z);unfold SK Qy at e2;simp only[iD,eQ,fm] at e2;unfold Pg.m9 Pg.Qo;z_go;rw[e2];rfl
end LH
namespace LH
open L2 VM Sp PM
variable {M T C:Int}
def agB (Hh:bx n ps)(bh:st<n)(R:Runs n ps st g (some T) left r cj)(S:St n ps st left π)(h:r≠[]\/π g<=T):∃lJ,St n ps st cj lJ/\lJ g<=T:=by
 induction R generalizing π with
 |none _ _=>exact(π,S,by rcases h with h|h;exact absurd rfl h;exact h)
 |far _ _ _ _=>exact(π,S,by rcases h with h|h;exact absurd rfl h;exact h)
 |go P hl R ih=>let(_,_,(Ge,S1,e1),_,_):=oU Hh S bh P;exact ih S1<|.inr (by rw[e1];exact hl T rfl)
def ajb (R:Runs n ps st g iZ left [] cj):cj=left:=by cases R<;>rfl
def ajc (ps:List aU)(st g:Nat)(T:Int)(fl:List Int):Prop:=∀i0:Nat,0<lf fl i0->∃π:Nat->Int,π st=0/\π g<=T/\∀(i:Nat) q,ps[i]? =some q->0<lf fl i->q.l<=π q.b - π q.a
def Ia (Hh:bx n ps)(bh:st<n)(R:Runs n ps st g (some T) (gK ps) r (lf L)):ajc ps st g T (oA L ps.length):=λi0 h0=>by
 have S0:St n ps st (gK ps) (λv=>if v=st then 0 else 1):=vo Hh;have at_:∀i:Nat,0<lf (oA L ps.length) i->i<ps.length/\lf (oA L ps.length) i=lf L (2*i+1):=λi hi=>by
  have nH:i<(oA L ps.length).length:=by
   by_cases z:i<(oA L ps.length).length
   .exact z
   .unfold lf at hi;grind
  have e:=oV nH;let(a,b):=BR e;lk
 have hr:r≠[]:=by intro z;subst z;let(_,e):=at_ i0 h0;have:=ajb R;rw[this,vh] at e;lk
 let(π,S,hπ):=agB Hh bh R S0<|.inl hr;refine⟨π,S.z,hπ,λi q e1 hf=>?_⟩;let(_,e):=at_ i hf;have:=S.fit.pay q.b (2*i+1,q.a,-q.l) (Hh.rb q<|ah e1) (fU.mpr ⟨i,q,e1,.inr ⟨rfl,rfl⟩⟩) (by show 0<lf L (2*i+1);lk);lk
def agC (Hh:bx n ps)(sm:Small n ps)(bh:st<n)(hg:g<n)(bA:st≠g)(T:Int):∃fl M C,ji n ps st g T fl M C/\ajc ps st g T fl/\Pg.gB [.int n,hD ps,.int st,.int g,.int T]=some (true,.list<|fl.map .int):=by let(r,L,R,_,e):=aoW Hh sm bh hg bA;exact(_,_,_,sS Hh bh hg bA R,Ia Hh bh R,e)
def Qz {π:Nat->Int}(hi:∀j∈w,j<ps.length)(hw:goes ps st w=some g)(h:∀(i:Nat) q,ps[i]? =some q->i∈w->q.l<=π q.b - π q.a):bM aU.l ps w<=π g - π st:=by
 have e:=En π hw;have s:=Eo (λq=>π q.b - π q.a) aU.l w hi;have nn:0<=bM (λq=>π q.b - π q.a - q.l) ps w:=U6 λj hj=>by have e1:=ag<|hi j hj;rw[nq e1];have:=h j _ e1 hj;lk
 rw[s,e] at nn;lk
theorem Ib (Hh:bx n ps):∀{w:List Nat},(∀j∈w,j<ps.length)->(w.length:Int)<=bM aU.l ps w
 |[],_=>by simp[bM]
 |j::w,h=>by have e1:=ag<|h j ae;have:=Hh.l1 _<|ah e1;have:=Ib Hh (w:=w) λi hi=>h i<|aa _ hi;rw[jW,nq e1,ay];lk
theorem U7:∀{ps:List aU}{fl:List Int},fl.length=ps.length->(oh ps fl).length=2*ps.length
 |[],[],_=>rfl
 |[],_::_,e=>by simp at e
 |_::_,[],e=>by simp at e
 |q::r,f::fs,e=>by rw[oh,ay,ay,U7 (ps:=r) (fl:=fs)<|by simpa using e,ay];lk
theorem vH:∀{ps:List aU}{fl:List Int} {i:Nat} {q:aU} {f:Int},ps[i]? =some q->fl[i]? =some f->lf (oh ps fl) (2*i)=q.w - f/\lf (oh ps fl) (2*i+1)=f
 |[],_,i,q,f,h,_=>by simp at h
 |_::_,[],i,q,f,_,h=>by simp at h
 |p::r,x::fs,0,q,f,h1,h2=>by simp only[g9,dS] at h1 h2;subst h1;subst h2;exact⟨rfl,rfl⟩
 |p::r,x::fs,i+1,q,f,h1,h2=>by rw[kM] at h1 h2;have:=vH (ps:=r) (fl:=fs) h1 h2;assumption
noncomputable def pO (st g:Nat)(T:Int):aU:=(st,g,1,T+1)
def U8 (Hh:bx n ps)(bh:st<n)(hg:g<n)(bA:st≠g)(hT:0<=T):bx n (ps++[pO st g T]):=by
 refine(?_,?_,?_,?_,?_)<;>(intro q hq;rcases bc.mp hq with h|h)
 .exact Hh.ra q h
 .rw[aE.mp h];exact bh
 .exact Hh.rb q h
 .rw[aE.mp h];exact hg
 .exact Hh.ne q h
 .rw[aE.mp h];exact bA
 .exact Hh.w1 q h
 .rw[aE.mp h];exact bX _
 .exact Hh.l1 q h
 .rw[aE.mp h];show 1<=T+1;lk
noncomputable def kW (T:Int):Option Lb->Int
 |none=>T+1
 |some l=>if T+1<l.d then T+1 else l.d
def ajd (Hh:bx n ps)(bh:st<n)(hg:g<n)(bA:st≠g)(hT:0<=T)(hl:fl.length=ps.length)(m0:μ st=0)(m1:μ g=T+1)(fit:∀(i:Nat) q f,ps[i]? =some q->fl[i]? =some f->(f<q.w->μ q.b - μ q.a<=q.l)/\(0<f->q.l<=μ q.b - μ q.a)):
  cY n (lf<|oh (ps++[pO st g T])<|fl++[0]) (bW<|ps++[pO st g T]) μ:=by
 have H2:=U8 Hh bh hg bA hT;refine(H2.room,H2.ab2,λu m hu hm hp=>?_);let(i,q,e,h):=fU.mp hm;have nH:i<ps.length+1:=by have:=(ab.mp e).1;rw[aw] at this;exact this
 by_cases z:i<ps.length
 .have e1:ps[i]? =some q:=by rw[bP z] at e;exact e
  have f1:fl[i]? =some (lf fl i):=oV ∅;have f2:(fl++[0])[i]? =some (lf fl i):=by rw[bP ∅];exact f1
  let(l1,l2):=vH e f2;let(k1,k2):=fit i q _ e1 f1;rcases h with⟨rfl,rfl⟩|⟨rfl,rfl⟩
  .simp only at hp ⊢;rw[l1] at hp;lk
  .simp only at hp ⊢;rw[l2] at hp;lk
 .have hi:i=ps.length:=by lk
  subst hi;have e1:q=pO st g T:=by rw[cr<|ax _,kP,g9] at e;exact(be e).symm
  have f2:(fl++[0])[ps.length]? =some 0:=by rw[cr ∅,hl,kP,g9]
  let(l1,l2):=vH e f2;subst e1;rcases h with⟨rfl,rfl⟩|⟨rfl,rfl⟩
  .simp only[pO];lk
  .simp only at hp;rw[l2] at hp;exact absurd hp<|by decide
def Z1 (Hh:bx n ps)(bh:st<n)(hg:g<n)(bA:st≠g)(hT:0<=T)(F:ji n ps st g T fl M C)(m0:μ st=0)(m1:μ g=T+1)(mb:∀v,0<=μ v/\μ v<=T+1)(fit:∀(i:Nat) q f,ps[i]? =some q->fl[i]? =some f->(f<q.w->μ q.b - μ q.a<=q.l)/\(0<f->q.l<=μ q.b - μ q.a))
  (Tr:Tree n (lf<|oh (ps++[pO st g T])<|fl++[0]) (bW<|ps++[pO st g T]) μ st aG):
  lf (aG.map<|kW T) st=0/\lf (aG.map<|kW T) g=T+1/\(∀v,v<n->0<=lf (aG.map<|kW T) v/\lf (aG.map<|kW T) v<=T+1)/\
  ∀(i:Nat) q f,ps[i]? =some q->fl[i]? =some f->(f<q.w->lf (aG.map<|kW T) q.b - lf (aG.map<|kW T) q.a<=q.l)/\(0<f->q.l<=lf (aG.map<|kW T) q.b - lf (aG.map<|kW T) q.a):=by
 have at_:∀{v:Nat}{o:Option Lb},aG[v]? =some o->lf (aG.map<|kW T) v=kW T o:=λ{v o} h=>BZ (by rw[av,h];rfl);have JZ:∀v,v<n->∃o,aG[v]? =some o:=λv hv=>⟨_,ag (by rw[Tr.ll];exact hv)⟩;have lo:∀v (l:Lb),aG[v]? =some (some l)->μ v<=l.d:=λv l h=>by have:=Tr.lo v l h;lk
 have hlg:∃lg,aG[g]? =some (some lg)/\lg.d=T+1:=by
  have e:(ps++[pO st g T])[ps.length]? =some (pO st g T):=by rw[cr<|ax _,kP,g9]
  have f2:(fl++[0])[ps.length]? =some 0:=by rw[cr (by have:=F.len;lk),F.len,kP,g9]
  let(l1,_):=vH e f2;let(lv,h1,h2):=Tr.rel st _ (2*ps.length,g,T+1) Tr.st0 (fU.mpr ⟨ps.length,_,e,.inl ⟨rfl,rfl⟩⟩) (by simp only;rw[l1];show(0)<1 - 0;decide);have h3:=lo g lv h1;refine⟨lv,h1,?_⟩;simp only at h2;lk
 let(lg,eg,hgd):=hlg;have step:∀i (q:aU) (f:Int),ps[i]? =some q->fl[i]? =some f->(f<q.w->∀l:Lb,aG[q.a]? =some (some l)->∃l':Lb,aG[q.b]? =some (some l')/\l'.d<=l.d+q.l)/\(0<f->∀l:Lb,aG[q.b]? =some (some l)->∃l':Lb,aG[q.a]? =some (some l')/\l'.d<=l.d - q.l):=λi q f a b=>by
  have nH:=(ab.mp a).1;have e:(ps++[pO st g T])[i]? =some q:=by rw[bP nH];exact a
  have f2:(fl++[0])[i]? =some f:=by rw[bP (by have:=F.len;lk)];exact b
  let(l1,l2):=vH e f2;refine⟨λh l hl=>?_,λh l hl=>?_⟩
  .exact Tr.rel q.a l (2*i,q.b,q.l) hl (fU.mpr ⟨i,q,e,.inl ⟨rfl,rfl⟩⟩) (by simp only;rw[l1];lk)
  .let(l',h1,h2):=Tr.rel q.b l (2*i+1,q.a,-q.l) hl (fU.mpr ⟨i,q,e,.inr ⟨rfl,rfl⟩⟩) (by simp only;rw[l2];exact h);exact⟨l',h1,by simp only at h2;lk⟩
 let(B,wD,hB):=above (λv=>match aG[v]? with|some (some l)=>some l.d|_=>none) n (T+2);have hB':∀v (l:Lb),v<n->aG[v]? =some (some l)->l.d<=B:=λv l hv h=>hB v l.d hv (by rw[h]);have up:∀(i:Nat) q f,ps[i]? =some q->fl[i]? =some f->0<f->(λv=>match aG[v]? with|some (some l)=>l.d|_=>B+1+μ v) q.a<(λv=>match aG[v]? with|some (some l)=>l.d|_=>B+1+μ v) q.b:=λi q f a b hf=>by
  have zO:=Hh.l1 q<|ah a;let(ob',eb):=JZ q.b<|Hh.rb q<|ah a;let(oa,ea):=JZ q.a<|Hh.ra q<|ah a;simp only[ea,eb];cases ob' with
  |some lb=>
   let(l',h1,h2):=(step i q f a b).2 hf lb eb;rw[ea] at h1;cases h1;simp only;lk
  |none=>
   cases oa with
   |some la=>have:=hB' q.a la (Hh.ra q<|ah a) ea;have:=(mb q.b).1;simp only;lk
   |none=>have:=(fit i q f a b).2 hf;simp only;lk
 have high:∀(i:Nat) q f,ps[i]? =some q->fl[i]? =some f->0<f->∃l,aG[q.b]? =some (some l)/\l.d<=T+1:=λi q f a b hf=>by
  have h:=F.cons.high (ρ:=λv=>match aG[v]? with|some (some l)=>l.d|_=>B+1+μ v) F.M0 up i q f a b hf;let(ob',eb):=JZ q.b<|Hh.rb q<|ah a;simp only[eb,eg] at h;cases ob' with
  |some lb=>exact⟨lb,eb,by simp only at h;lk⟩
  |none=>simp only at h;have:=(mb q.b).1;lk
 refine⟨?_,?_,λv hv=>?_,λi q f a b=>⟨λh=>?_,λh=>?_⟩⟩
 .rw[at_ Tr.st0];simp only[kW];rw[ap ∅]
 .rw[at_ eg];simp only[kW];split<;>lk
 .let(o,e):=JZ v hv;rw[at_ e];cases o with
  |none=>simp only[kW];lk
  |some l=>have h1:=lo v l e;have h2:=(mb v).1;simp only[kW];split<;>lk
 .have zO:=Hh.l1 q<|ah a;let(ob',eb):=JZ q.b<|Hh.rb q<|ah a;let(oa,ea):=JZ q.a<|Hh.ra q<|ah a;rw[at_ ea,at_ eb];have top:kW T ob'<=T+1:=by
   cases ob' with
   |none=>simp only[kW];lk
   |some l=>simp only[kW];split<;>lk
  cases oa with
  |none=>
   have:kW T none=T+1:=rfl
   rw[this];lk
  |some la=>let(l',h1,h2):=(step i q f a b).1 h la ea;rw[eb] at h1;cases h1;simp only[kW] at top ⊢;split at top<;>split<;>lk
 .let(lb,eb,hb):=high i q f a b h;let(la,ea,h2):=(step i q f a b).2 h lb eb;have zO:=Hh.l1 q<|ah a;rw[at_ ea,at_ eb];simp only[kW];rw[ap ∅,ap ∅];lk
def zP (Hh:bx n ps)(hn:n<=900)(hp:ps.length<=900)(bh:st<n)(hg:g<n)(bA:st≠g)(hT:0<=T)(F:ji n ps st g T fl M C):∃aV:List Int,Pg.j5 [.int (n:Int),hD ps,.int (st:Int),.int (g:Int),.int T,.list<|fl.map .int]=some (true,.list<|aV.map .int)/\aV.length=n/\
  lf aV st=0/\lf aV g=T+1/\(∀v,v<n->0<=lf aV v/\lf aV v<=T+1)/\∀(i:Nat) q f,ps[i]? =some q->fl[i]? =some f->(f<q.w->lf aV q.b - lf aV q.a<=q.l)/\(0<f->q.l<=lf aV q.b - lf aV q.a):=by
 let(μ,m0,m1,mb,fit):=F.Sh Hh hT;have H2:=U8 Hh bh hg bA hT;have Ft:=ajd Hh bh hg bA hT F.len m0 m1 fit;have arx:(fl++[0]).length=(ps++[pO st g T]).length:=by rw[aw,aw,F.len];rfl
 have hlL:=U7 arx;let(aG,hF,er):=ab6 ∅ bh Ft (λu m hm=>by
  let(i,q,e,h):=fU.mp hm;have:=(ab.mp e).1;rw[hlL];rcases h with⟨_,rfl⟩|⟨_,rfl⟩<;>simp only<;>lk)
 have Tr:=jR Ft bh hF;let(a1,a2,a3,a4):=Z1 Hh bh hg bA hT F m0 m1 mb fit Tr;refine(aG.map<|kW T,?_,by rw[af];exact Tr.ll,a1,a2,a3,a4);have em:=Qm ∅ ∅ (by rw[af,aw];simp only[ay,eD];lk) (Qx H2);rw[fS] at em;have el:=ab8 (ps:=ps++[pO st g T]) (fl:=fl++[0]) (by rw[aw];simp only[ay,eD];lk);unfold Pg.j5 Pg.Hv;unfold hD BL at*
 z_go;have ec:G5 (.list<|(ps.map toPq).map pD) (.list [.tuple [.int<|st,.int<|g,.int 1,.int<|T+1]])=some (.list<|((ps++[pO st g T]).map toPq).map pD):=by rw[agx (by rw[af,af];simp only[ay,eD];lk),bz,bz];rfl
 rw[ec];z_go;have ef:G5 (.list<|fl.map PyData.int) (.list [.int 0])=some (.list<|(fl++[0]).map .int):=by rw[agx (by rw[af];have:=F.len;simp only[ay,eD];lk),bz];rfl
 rw[ef];z_go;rw[el];z_go;rw[em];z_go;rw[er];z_go;rw[qz rfl (by rw[af,Tr.ll];exact bT ∅)];rw[kZ (f:=λd=>match d with|.tuple (.int d::_)=>.int (if T+1<d then T+1 else d)|_=>.int (T+1)) (by
  intro d hd;let(o,ho,rfl):=bp.mp hd;refine([some (Tg.fr,jJ o),some (Tg.fr,.int<|T+1)],?_,rfl,?_)
  .z_go
  .cases o with
   |none=>
    have:jJ none=.none:=rfl
    rw[this];z_go
   |some l=>
    rw[lU];z_go)]
 z_go;rw[cm,cm]
 have:(λd=>match d with|PyData.tuple (.int d::_)=>PyData.int (if T+1<d then T+1 else d)|_=>.int<|T+1) ∘ jJ=PyData.int ∘ kW T:=by funext o;cases o<;>rfl
 rw[this]
def U9 (hw:∀j∈w,j<ps.length)(hl:w.length<=1000):Pg.jV [hD ps,.list<|w.map eU]=some (false,.int<|bM aU.l ps w):=by
 unfold Pg.jV Pg.KD hD BL;z_go;rw[qz rfl (by rw[af];exact bT ∅)];rw[kZ (f:=λd=>match d with|.int j=>.int (wI aU.l ps j.toNat)|_=>.none) (by
  intro d hd;let(j,hj,rfl):=bp.mp hd;have e:=ag<|hw j hj;refine([some (Tg.fr,.int<|j),some (Tg.fr,.list<|(ps.map toPq).map pD)],?_,rfl,?_)
  .rfl
  .z_go;rw[lG pD (by rw[av,e];rfl)];unfold pD toPq eU;z_go;simp only[fS,nq e])]
 z_go;rw[cm];have e:(w.map<|(λd=>match d with|.int j=>PyData.int (wI aU.l ps j.toNat)|_=>.none) ∘ eU)=(w.map<|wI aU.l ps).map .int:=by rw[cm];rfl
 rw[e];simp only[Dm,lE];rfl
structure d9 (n:Nat)(ps:List aU)(st g:Nat)(T W:Int)(ws:List (List Nat×Int))(aV:List Int):Prop where
 flow:∃fl M C,ji n ps st g T fl M C/\W=M*(T+1) - C/\oW ps st g fl ws
 short:∀x∈ws,bM aU.l ps x.1<=T
 Z2:W=(ws.map λx=>x.2*(T - bM aU.l ps x.1+1)).sum
 ml:aV.length=n
 m0:lf aV st=0
 m1:lf aV g=T+1
 mb:∀v,v<n->0<=lf aV v/\lf aV v<=T+1
 yG:W=(ps.map<|over<|lf aV).sum
def d9.weak {ws:List (List Nat×Int)}(Hh:bx n ps)(bh:st<n)(hg:g<n)(O:d9 n ps st g T W ws aV)(m0:μ st=0)(m1:μ g=T+1):W<=(ps.map<|over μ).sum:=by let(fl,M,C,F,e,_):=O.flow;have:=HX Hh bh hg F.lo F.net F.cost m0 m1;rw[ni _ F.len] at this;lk
theorem Ie {μ:Nat->Int}(m0:μ st=0)(m1:μ g=T+1):∀{ws:List (List Nat×Int)},(∀x∈ws,yF ps st g x)->HY (λq=>μ q.b - μ q.a - q.l) ps ws=(ws.map λx=>x.2*(T - bM aU.l ps x.1+1)).sum
 |[],_=>rfl
 |x::ws,h=>by have W:=h x ae;have e:=En μ W.go;have s:=Eo (ps:=ps) (λq=>μ q.b - μ q.a) aU.l x.1 W.ix;rw[HY,Ie m0 m1 λy hy=>h y<|aa _ hy,az,dk,s,e,m0,m1];lk
def arz (Hh:bx n ps)(sm:Small n ps)(hn:n<=900)(hp:ps.length<=900)(bh:st<n)(hg:g<n)(bA:st≠g)(hT:0<=T)(hB:T+1<1e100)(hw:∀q∈ps,q.w<1e100):
  ∃W ws aV,d9 n ps st g T W ws aV/\Pg.iW [.int (n:Int),hD ps,.int (st:Int),.int (g:Int),.int T]=some (false,.tuple [.int W,.list<|ws.map vG,.list<|aV.map .int]):=by
 let(fl,M,C,F,N,eb):=agC Hh sm bh hg bA T;let(aV,em,ml,m0,m1,mb,fit):=zP Hh hn hp bh hg bA hT F;have U:Up ps fl (lf aV):=λi q f a b hf=>by have:=(fit i q f a b).2 hf;have:=Hh.l1 q<|ah a;lk
 let(ws,P,ew):=acq F.len ∅ bA F.cons F.M0 U;have pos:∀x∈ws,∀i q,ps[i]? =some q->i∈x.1->0<lf fl i:=λx hx i q e hi=>((P.has hx) i hi).2;have short:∀x∈ws,bM aU.l ps x.1<=T:=λx hx=>by have Wk:=P.walk x hx;let(j0,tR):=gi _ Wk.ne;let(π,p0,p1,p2):=N j0 ((P.has hx) j0 tR).2;have:=Qz Wk.ix Wk.go λi q e hi=>p2 i q e<|pos x hx i q e hi;lk
 have Z2:M*(T+1) - C=(ws.map λx=>x.2*(T - bM aU.l ps x.1+1)).sum:=by rw[vA Hh bh hg F.net F.cost m0 m1,←Ie m0 m1 P.walk];exact(P.tot _).symm
 have yG:M*(T+1) - C=(ps.map<|over<|lf aV).sum:=by rw[Aq Hh bh hg F.lo F.net F.cost m0 m1 fit,ni _ F.len]
 refine(M*(T+1) - C,ws,aV,((fl,M,C,F,rfl,P),short,Z2,ml,m0,m1,mb,yG),?_);have wu:ws.length<=ps.length:=by have:=P.few;have:=yE fl;have:=F.len;lk
 unfold Pg.iW Pg.Hw;z_go;rw[eb];z_go;rw[ew];z_go;rw[qz rfl (by rw[af];exact bT ∅)];rw[kZ (f:=λd=>match d with|.tuple [.list w,.int m]=>(match intsOf w with|some v=>.int (m*(T - bM aU.l ps (v.map toNat)+1))|none=>.none)|_=>.none) (by
  intro d hd;let(x,hx,rfl):=bp.mp hd;have Wk:=P.walk x hx;have hs:=short x hx;have hl0:=Ib Hh Wk.ix;have hxl:=lR Wk.nd Wk.ix;let(j0,tR):=gi _ Wk.ne;have h1:=((P.has hx) j0 tR).1;have e0:=ag<|Wk.ix j0 tR;have h2:=(F.lo j0 _ _ e0<|oV (by rw[F.len];exact Wk.ix j0 tR)).2;have h3:=hw _<|ah e0;have h4:=Wk.m1;let(w,m):=x;simp only at*
  refine([some (Tg.fr,.list<|w.map eU),some (Tg.fr,.int m),some (Tg.fr,.int T),some (Tg.fr,hD ps)],?_,rfl,?_)
  .unfold vG;z_go
  .z_go;rw[U9 Wk.ix (by simp only;lk)];z_go;rw[su ∅ ∅ ∅ ∅];have ei:intsOf (w.map eU)=some (w.map λj:Nat=>(j:Int)):=by
    have:w.map eU=(w.map λj:Nat=>(j:Int)).map .int:=by rw[cm];rfl
    rw[this,lE]
   have e2:(w.map λj:Nat=>(j:Int)).map toNat=w:=by rw[cm];exact(dv λj _=>by simp).trans (map_id w)
   simp only[vG,ei,e2])]
 z_go;rw[cm];have e3:ws.map ((λd=>match d with|.tuple [.list w,.int m]=>(match intsOf w with|some v=>PyData.int (m*(T - bM aU.l ps (v.map toNat)+1))|none=>.none)|_=>.none) ∘ vG)=(ws.map λx=>x.2*(T - bM aU.l ps x.1+1)).map .int:=by
  rw[cm];refine dv λx _=>?_;let(w,m):=x;have ei:intsOf (w.map eU)=some (w.map λj:Nat=>(j:Int)):=by
   have:w.map eU=(w.map λj:Nat=>(j:Int)).map .int:=by rw[cm];rfl
   rw[this,lE]
  have e2:(w.map λj:Nat=>(j:Int)).map toNat=w:=by rw[cm];exact(dv λj _=>by simp).trans (map_id w)
  simp only[Function.comp,vG,ei,e2]
 rw[e3];simp only[Dm,lE];rw[<-Z2];z_go;rw[em];z_go
end LH
namespace LH
open L2 VM Sp PM
variable {T W W':Int}
inductive Er (n:Nat)(ps:List aU)(st g:Nat)(T W:Int):Prop
 |mk:∀ws aV,d9 n ps st g T W ws aV->Er n ps st g T W
theorem Er.yG (O:Er n ps st g T W):∃μ:Nat->Int,μ st=0/\μ g=T+1/\W=(ps.map<|over μ).sum:=by let(ws,aV,O):=O;exact(lf aV,O.m0,O.m1,O.yG)
def Er.later (Hh:bx n ps)(bh:st<n)(hg:g<n)(O:Er n ps st g T W)(O':Er n ps st g (T+1) W'):W<=W':=by let(ws,aV,O):=O;let(fl,M,C,F,e,_):=O.flow;let(μ,m0,m1,d):=O'.yG;have:=HX Hh bh hg F.lo F.net F.cost m0 m1;rw[ni _ F.len] at this;have h0:=F.M0;lk
end LH
namespace LH
open L2 VM Sp PM
variable {T W:Int}
end LH
namespace LH
open L2 VM Sp PM
variable {ps:List aU}{M T C p:Int}
def mH (T:Int)(G:List (Int×Int)):Int:=wsum (λl=>if l<=T then T+1 - l else 0) G
def uP (T:Int)(x:Int×Int)(G:List (Int×Int)):mH T (x::G)=x.2*(if x.1<=T then T+1 - x.1 else 0)+mH T G:=mR _ _ _
theorem Va (T:Int):∀{G:List (Int×Int)},(∀x∈G,1<=x.2)->0<=mH T G
 |[],_=>by simp[mH,wsum]
 |x::G,h=>by
  have a:=h x ae;have b:=Va T (G:=G) λy hy=>h y<|aa _ hy;rw[uP]
  have:0<=x.2*(if x.1<=T then T+1 - x.1 else 0):=gs ∅ (by split<;>lk)
  lk
theorem wU (T:Int):∀{G:List (Int×Int)},(∀x∈G,T<x.1)->mH T G=0
 |[],_=>by simp[mH,wsum]
 |x::G,h=>by have a:=h x ae;rw[uP,wU T λy hy=>h y<|aa _ hy,ap ∅];simp
noncomputable def j9 (p:Int):Int->Int->List (Int×Int)->List Int
 |_,_,[]=>[]
 |am,co,x::G=>((p+(co+x.2*x.1) - 1)/(am+x.2))::j9 p (am+x.2) (co+x.2*x.1) G
def agD (a:Int)(h:0<b):a<b*(a/b+1):=by have:=nB a b;have:=oC a h;lk
def agE (a:Int)(h:0<b):b*(a/b)<=a:=by have:=nB a b;have:=qr a (show b≠0 by lk);lk
theorem acs:∀{G:List (Int×Int)}{am co t:Int},0<=am->(∀x∈G,1<=x.2)->t∈j9 p am co G->p<=am*(t+1) - co+mH t G
 |[],_,_,_,_,_,h=>by simp[j9] at h
 |x::G,am,co,t,ha,hp,h=>by
  have x1:=hp x ae;have Hs:∀y∈G,1<=y.2:=λy hy=>hp y<|aa _ hy;have dw:(am+x.2)*(t+1) - (co+x.2*x.1)<=am*(t+1) - co+x.2*(if x.1<=t then t+1 - x.1 else 0):=by
   rw[il];have e:x.2*(t+1) - x.2*x.1=x.2*(t+1 - x.1):=by rw[om]
   have:x.2*(t+1 - x.1)<=x.2*(if x.1<=t then t+1 - x.1 else 0):=cS (by split<;>lk) ∅
   lk
  rw[uP];rw[j9,aI] at h;rcases h with h|h
  .have:=agD (p+(co+x.2*x.1) - 1) (show 0<am+x.2 by lk);rw[<-h] at this;have:=Va t Hs;lk
  .have:=acs ∅ Hs h;lk
theorem acu:∀{G:List (Int×Int)}{am co T:Int},0<=am->R8 G->(∀t∈j9 p am co G,T<t)->am*(T+1) - co<p->am*(T+1) - co+mH T G<p
 |[],am,co,T,_,_,_,h=>by simpa [mH,wsum] using h
 |x::G,am,co,T,ha,R,hn,h=>by
  have x1:=(R.pos x ae).2;have up:=kD.mp R.up;by_cases z:x.1<=T
  .have h0:=hn _ (by rw[j9];exact ae);have h1:=agE (p+(co+x.2*x.1) - 1) (show 0<am+x.2 by lk);have h2:(am+x.2)*(T+1)<=(am+x.2)*((p+(co+x.2*x.1) - 1)/(am+x.2)):=cS ∅ ∅;have:=acu (G:=G) (am:=am+x.2) (co:=co+x.2*x.1) (T:=T) ∅ ⟨up.2,λy hy=>R.pos y<|aa _ hy⟩ (λt ht=>hn t (by rw[j9];exact aa _ ht)) ∅;rw[uP,ar z];lk
  .rw[wU T (G:=x::G) λy hy=>by
    grind]
   lk
theorem Vb (p:Int):∀(G:List (Int×Int)) (am co:Int),(j9 p am co G).length=G.length
 |[],_,_=>rfl
 |x::G,am,co=>by rw[j9,ay,Vb p G,ay]
def Vc (x:Int×Int)(G:List (Int×Int)):many (x::G)=x.2+many G:=by simp[many]
def aej (bA:G≠[])(hl:G.length<=16000000)(pos:∀x∈G,1<=x.1/\1<=x.2)(hL:∀x∈G,x.1<1e100)(hM:many G<1e100):
  Pg.sJ [.list<|G.map jx,.int p]=some (false,.int<|jH<|j9 p 0 0 G):=by
 have loop:∀A G (am co:Int) (acc:List Int) (x5 x6:Option PyData),0<=am->acc.length+G.length<=16000000->(∀x∈G,1<=x.1/\1<=x.2)->(∀x∈G,x.1<1e100)->am+many G<1e100->∃am' co' x5' zN,eE (gT 2<|gC (gN 5)<|gC (gN 6) g0) (aD (rZ cu 2<|vF 6)<|aD (rZ cu 3<|v2 rQ (vN 6)<|vN 5)<|gH 4<|aC (v2 j4 (v2 jm (v2 cu (vN 1)<|vN 3)<|vC<|.int 1)<|vN 2) a0) (G.map jx)
   [some (Tg.fr,.list A),some (Tg.fr,.int p),some (Tg.fr,.int am),some (Tg.fr,.int co),some (Tg.ow,.list<|acc.map .int),ob x5,ob x6]=.nxt [some (Tg.fr,.list A),some (Tg.fr,.int p),some (Tg.fr,.int am'),some (Tg.fr,.int co'),some (Tg.ow,.list<|(acc++j9 p am co G).map .int),ob x5',ob zN]:=λA G=>by
  induction G with
  |nil=>intro am co acc x5 x6 _ _ _ _ _;exact(am,co,x5,x6,by simp[eE,j9])
  |cons x G ih=>
   intro am co acc x5 x6 ha cZ pos hL hM;have p0:=pos x ae;have l0:=hL x ae;have hMn:=El λy hy=>by have:=(pos y<|aa _ hy).2;lk
   rw[Vc] at hM;rw[ay] at cZ;let(am',co',y5,y6,hx):=ih (am+x.2) (co+x.2*x.1) (acc++[(p+(co+x.2*x.1) - 1)/(am+x.2)]) (some<|.int x.1) (some<|.int x.2) ∅ (by rw[aw];simp only[ay,eD];lk) (λy hy=>pos y<|aa _ hy) (λy hy=>hL y<|aa _ hy) ∅;refine(am',co',y5,y6,?_);have e:jx x=.tuple [.int x.1,.int x.2]:=rfl;rw[az,eE,e,j9];rw[dm] at hx;rw[List.singleton_append] at hx;rw[<-hx];z_go;rw[su ∅ ∅ ∅ ∅];z_go;rw[oR ∅ ∅];z_go;rw[ar (by rw[af];exact bT ∅),bz];rfl
 unfold Pg.sJ Pg.Qp;z_go;let(am',co',y5,y6,hx):=loop (G.map jx) G 0 0 [] none none ∅ (by simpa using hl) pos hL ∅;simp only[iD,eQ,fm] at hx;rw[hx];z_go;have eM:minD [.list<|(j9 p 0 0 G).map PyData.int]=some (.int<|jH<|j9 p 0 0 G):=by
  simp only[minD,lE];cases G with
  |nil=>lk
  |cons m r=>rfl
 rw[eM];rfl
def ji.pred (Hh:bx n ps)(bh:st<n)(hg:g<n)(hT:1<=T)(F:ji n ps st g T fl M C)(F':ji n ps st g (T - 1) fl' M' C')(e:M*(T - 1+1) - C=M'*(T - 1+1) - C'):ji n ps st g (T - 1) fl M C:=by
 let(μ,m0,m1,mb,fit):=F'.Sh Hh ∅;have d1:=Aq Hh bh hg F'.lo F'.net F'.cost m0 m1 fit;rw[ni _ F'.len] at d1;have d2:=vA Hh bh hg F.net F.cost m0 m1;have w0:=F'.W0;have le:∀i q f,ps[i]? =some q->fl[i]? =some f->0<=over μ q - f*(μ q.b - μ q.a - q.l):=λi q f a b=>by
  have:=F.lo i q f a b;unfold over;split
  .simp_all
  .have:f*(μ q.b - μ q.a - q.l)<=0:=eK ∅ ∅
   lk
 have tot:zs (λq f=>over μ q - f*(μ q.b - μ q.a - q.l)) ps fl=0:=by rw[R9 (λq _=>over μ q)<|λq f=>f*(μ q.b - μ q.a - q.l),ni _ F.len,←d2,←d1];lk
 have eq:∀i q f,ps[i]? =some q->fl[i]? =some f->over μ q=f*(μ q.b - μ q.a - q.l):=λi q f a b=>by have h1:=BX le i q f a b;have h2:=le i q f a b;lk
 refine⟨F.len,F.lo,F.net,F.cost,F.M0,by lk,μ,m0,by lk,λ_=>by lk,λi q f a b=>?_⟩;have h:=eq i q f a b;have hf:=F.lo i q f a b;unfold over at h;split at h
 .rename_i z;refine⟨λdZ=>?_,λ_=>by lk⟩;have h4:0<(q.w - f)*(μ q.b - μ q.a - q.l):=Int.mul_pos ∅ ∅;lk
 .rename_i z;refine⟨λ_=>by lk,λhf0=>?_⟩;by_cases z2:μ q.b - μ q.a - q.l=0
  .omega
  .have:f*(μ q.b - μ q.a - q.l)<0:=Int.mul_neg_of_pos_of_neg hf0 ∅
   lk
structure jU where
 w:List Nat
 m:Int
 s:Int
 e:Int
def bD (r:jU):PyData:=.tuple [.list<|r.w.map eU,.int r.m,.int r.s,.int r.e]
def dY (ps:List aU)(T:Int)(w:List Nat):Int:=T - bM aU.l ps w+1
def cM (ps:List aU)(T wt:Int)(x:List Nat×Int):Int:=if wt/x.2<dY ps T x.1 then wt/x.2 else dY ps T x.1
def kh (ps:List aU)(T wt:Int)(x:List Nat×Int):List jU:=if 0<cM ps T wt x then [(x.1,x.2,0,cM ps T wt x - 1)] else []
def lM (ps:List aU)(T wt:Int)(x:List Nat×Int):Int:=if 0<cM ps T wt x then wt - x.2*cM ps T wt x else wt
def gW (ps:List aU)(T wt:Int)(x:List Nat×Int):List jU:=if cM ps T wt x<dY ps T x.1/\0<lM ps T wt x then [(x.1,lM ps T wt x,cM ps T wt x,cM ps T wt x)] else []
def iy (ps:List aU)(T wt:Int)(x:List Nat×Int):Int:=if cM ps T wt x<dY ps T x.1/\0<lM ps T wt x then 0 else lM ps T wt x
noncomputable def jC (ps:List aU)(T:Int):Int->List (List Nat×Int)->List jU
 |_,[]=>[]
 |wt,x::ws=>(kh ps T wt x++gW ps T wt x)++jC ps T (iy ps T wt x) ws
noncomputable def Ca (ps:List aU)(T:Int):Int->List (List Nat×Int)->Int
 |wt,[]=>wt
 |wt,x::ws=>Ca ps T (iy ps T wt x) ws
section
variable {x:List Nat×Int}
def xH (h0:0<=wt)(m1:1<=x.2)(hs:bM aU.l ps x.1<=T):0<=cM ps T wt x/\cM ps T wt x<=dY ps T x.1/\x.2*cM ps T wt x<=wt/\(cM ps T wt x<dY ps T x.1->wt<x.2*(cM ps T wt x+1)):=by
 have a:=agE wt (show 0<x.2 by lk);have b:=agD wt (show 0<x.2 by lk);have c:0<=wt/x.2:=Int.ediv_nonneg h0 ∅;unfold cM;split
 .exact(c,by lk,a,λ_=>b)
 .rename_i z
  have:x.2*dY ps T x.1<=x.2*(wt/x.2):=cS ∅ ∅
  exact(by unfold dY;lk,bX _,by lk,λh=>absurd h ∅)
def Es (h0:0<=wt)(m1:1<=x.2)(hs:bM aU.l ps x.1<=T):lM ps T wt x=wt - x.2*cM ps T wt x:=by
 unfold lM;split
 .rfl
 .have:=xH h0 m1 hs;lk
def Z4 (h0:0<=wt)(m1:1<=x.2)(hs:bM aU.l ps x.1<=T):iy ps T wt x=if wt<x.2*dY ps T x.1 then 0 else wt - x.2*dY ps T x.1:=by
 let(f0,f1,f2,f3):=xH h0 m1 hs;have ea:=Es h0 m1 hs;unfold iy;by_cases z:cM ps T wt x<dY ps T x.1
 .have h3:=f3 z;have h4:x.2*(cM ps T wt x+1)<=x.2*dY ps T x.1:=cS ∅ ∅;rw[ar<|show wt<x.2*dY ps T x.1 by lk];split
  .rfl
  .rename_i hn
   have:¬0<lM ps T wt x:=λh=>hn ⟨z,h⟩
   lk
 .have e:cM ps T wt x=dY ps T x.1:=by lk
  rw[ap<|λh=>z h.1,ea,e];rw[e] at f2;rw[ap ∅]
def amu (h0:0<=wt)(m1:1<=x.2)(hs:bM aU.l ps x.1<=T):((kh ps T wt x++gW ps T wt x).map λr=>r.m*(r.e - r.s+1)).sum=wt - iy ps T wt x:=by
 let(f0,f1,f2,f3):=xH h0 m1 hs;have ea:=Es h0 m1 hs;have hA:((kh ps T wt x).map λr=>r.m*(r.e - r.s+1)).sum=x.2*cM ps T wt x:=by unfold kh;grind
 have hB:((gW ps T wt x).map λr=>r.m*(r.e - r.s+1)).sum=lM ps T wt x - iy ps T wt x:=by unfold gW iy;grind
 grind
def yH (h0:0<=wt)(m1:1<=x.2)(hs:bM aU.l ps x.1<=T):0<=iy ps T wt x:=by rw[Z4 h0 m1 hs];lk
structure alj (ps:List aU)(T:Int)(x:List Nat×Int)(r:jU):Prop where
 w:r.w=x.1
 m1:1<=r.m
 mx:r.m<=x.2
 s0:0<=r.s
 se:r.s<=r.e
 eT:r.e+bM aU.l ps r.w<=T
def ao2 (h0:0<=wt)(m1:1<=x.2)(hs:bM aU.l ps x.1<=T):∀r∈kh ps T wt x++gW ps T wt x,alj ps T x r:=by
 let(f0,f1,f2,f3):=xH h0 m1 hs;have ea:=Es h0 m1 hs;intro r hr;rcases bc.mp hr with h|h
 .unfold kh at h;split at h
  .rw[aE] at h;subst h;exact(rfl,m1,bX _,bX _,by simp only;lk,by simp only;unfold dY at f1;lk)
  .cases h
 .unfold gW at h;split at h
  .rename_i hc;rw[aE] at h;subst h;have h3:=f3 hc.1;rw[kg,oo] at h3;have h4:=hc.1;unfold dY at h4;exact(rfl,by simp only;lk,by simp only;lk,f0,bX _,by simp only;lk)
  .cases h
end
abbrev Ex:=Nat×Int×Int×Int
noncomputable def n6 (ps:List aU):Int->List Nat->Int->Int->Int->List Ex
 |_,[],_,_,_=>[]
 |at',j::w,m,s,e=>(j,m,s+at',e+at')::n6 ps (at'+wI aU.l ps j) w m s e
noncomputable def cov (k:Nat)(t:Int):List Ex->Int
 |[]=>0
 |o::r=>(if o.1=k/\o.2.2.1<=t/\t<=o.2.2.2 then o.2.1 else 0)+cov k t r
theorem Sv (k:Nat)(t:Int):∀a b:List Ex,cov k t (a++b)=cov k t a+cov k t b
 |[],b=>by simp[cov]
 |o::a,b=>by rw[i4,cov,cov,Sv k t a b];lk
noncomputable def offs (ps:List aU):Int->List Nat->Nat->Int
 |at',[],_=>at'
 |at',j::w,k=>if j=k then at' else offs ps (at'+wI aU.l ps j) w k
theorem Z5:∀{w:List Nat}{at':Int},k∉w->cov k t (n6 ps at' w m s e)=0
 |[],_,_=>rfl
 |j::w,at',h=>by rw[n6,cov,ap<|λz=>h (by simp only at z;rw[<-z.1];exact ae),Z5 λz=>h<|aa _ z];rfl
theorem Sw:∀{w:List Nat}{at':Int},w.Nodup->cov k t (n6 ps at' w m s e)=if k∈w/\s+offs ps at' w k<=t/\t<=e+offs ps at' w k then m else 0
 |[],_,_=>by simp[n6,cov]
 |j::w,at',nd=>by
  have yI:=bg.mp nd;rw[n6,cov];by_cases z:j=k
  .subst z;rw[Z5 yI.1];simp only[offs,fA,aI,true_or,kX];split<;>lk
  .rw[Sw yI.2,ap<|λh=>z h.1];simp only[offs,ap z,aI]
   have:(k=j\/k∈w)↔k∈w:=⟨λh=>by rcases h with h|h;exact absurd h.symm z;exact h,.inr⟩
   simp only[this];lk
def mJ (ps:List aU)(rs:List jU):List Ex:=(rs.map λr=>n6 ps 0 r.w r.m r.s r.e).flatten
def Z6 (a b:List jU):mJ ps (a++b)=mJ ps a++mJ ps b:=by simp[mJ]
def vI (r:jU)(b:List jU):mJ ps (r::b)=n6 ps 0 r.w r.m r.s r.e++mJ ps b:=by simp[mJ]
def qL:mJ ps []=[]:=rfl
def amv (h0:0<=wt)(nd:x.1.Nodup)(m1:1<=x.2)(hs:bM aU.l ps x.1<=T)(k:Nat)(t:Int):cov k t (mJ ps<|kh ps T wt x++gW ps T wt x)<=if k∈x.1 then x.2 else 0:=by
 let(f0,f1,f2,f3):=xH h0 m1 hs;have ea:=Es h0 m1 hs;rw[Z6,Sv];have hA:cov k t (mJ ps<|kh ps T wt x)=if 0<cM ps T wt x/\k∈x.1/\offs ps 0 x.1 k<=t/\t<=cM ps T wt x - 1+offs ps 0 x.1 k then x.2 else 0:=by
  unfold kh;by_cases z:0<cM ps T wt x
  .rw[ar z,vI,qL,df,Sw nd];simp only[z,kX,im]
  .rw[ap z,qL,ap<|λh=>z h.1];rfl
 have hB:cov k t (mJ ps<|gW ps T wt x)<=if k∈x.1/\cM ps T wt x+offs ps 0 x.1 k<=t then x.2 else 0:=by
  unfold gW;by_cases z:cM ps T wt x<dY ps T x.1/\0<lM ps T wt x
  .rw[ar z,vI,qL,df,Sw nd];have h3:=f3 z.1;rw[kg,oo] at h3;by_cases y:k∈x.1/\cM ps T wt x+offs ps 0 x.1 k<=t
   .rw[ar y];simp only;split<;>lk
   .rw[ap y,ap<|λh=>y ⟨h.1,h.2.1⟩];lk
  .rw[ap z,qL];show 0<=_;split<;>lk
 rw[hA];by_cases y:k∈x.1
 .rw[ar y];simp only[y,kX] at hB ⊢;split
  .rename_i h;rw[ap ∅] at hB;lk
  .split at hB<;>lk
 .rw[ap y];rw[ap<|λh=>y h.1] at hB;rw[ap<|λh=>y h.2.1];lk
theorem Z7:∀{ws:List (List Nat×Int)}{wt:Int},0<=wt->(∀x∈ws,x.1.Nodup/\1<=x.2/\bM aU.l ps x.1<=T)->∀(k:Nat) (t:Int),cov k t (mJ ps<|jC ps T wt ws)<=share k ws
 |[],_,_,_,_,_=>by simp[jC,qL,cov,share]
 |x::ws,wt,h0,h,k,t=>by have hx:=h x ae;have a:=amv h0 hx.1 hx.2.1 hx.2.2 k t;have b:=Z7 (wt:=iy ps T wt x) (yH h0 hx.2.1 hx.2.2) (λy hy=>h y<|aa _ hy) k t;rw[jC,Z6,Sv,share];lk
theorem Sx:∀{ws:List (List Nat×Int)}{wt:Int},0<=wt->(∀x∈ws,1<=x.2/\bM aU.l ps x.1<=T)->∀r∈jC ps T wt ws,∃x∈ws,alj ps T x r
 |[],_,_,_,r,hr=>by cases hr
 |x::ws,wt,h0,h,r,hr=>by
  have hx:=h x ae;rw[jC] at hr;rcases bc.mp hr with z|z
  .exact(x,ae,ao2 h0 hx.1 hx.2 r z)
  .let(y,hy,q):=Sx (wt:=iy ps T wt x) (yH h0 hx.1 hx.2) (λy hy=>h y<|aa _ hy) r z;exact(y,aa _ hy,q)
theorem Z8:∀{ws:List (List Nat×Int)}{wt:Int},0<=wt->(∀x∈ws,1<=x.2/\bM aU.l ps x.1<=T)->((jC ps T wt ws).map λr=>r.m*(r.e - r.s+1)).sum=wt - Ca ps T wt ws
 |[],_,_,_=>by simp[jC,Ca]
 |x::ws,wt,h0,h=>by have hx:=h x ae;rw[jC,Ca,bz,qh,amu h0 hx.1 hx.2,Z8 (wt:=iy ps T wt x) (yH h0 hx.1 hx.2)<|λy hy=>h y<|aa _ hy];lk
theorem Vd:∀{ws:List (List Nat×Int)}{wt:Int},0<=wt->(∀x∈ws,1<=x.2/\bM aU.l ps x.1<=T)->wt<=(ws.map λx=>x.2*dY ps T x.1).sum->Ca ps T wt ws=0
 |[],wt,h0,_,hs=>by simp only[eQ,sum_nil] at hs;show wt=0;lk
 |x::ws,wt,h0,h,hs=>by
  have hx:=h x ae;rw[az,dk] at hs;have e:=Z4 h0 hx.1 hx.2;rw[Ca];refine Vd (yH h0 hx.1 hx.2) (λy hy=>h y<|aa _ hy) ?_;have nn:0<=(ws.map λx=>x.2*dY ps T x.1).sum:=by
   have:∀vs:List (List Nat×Int),(∀y∈vs,1<=y.2/\bM aU.l ps y.1<=T)->0<=(vs.map λx=>x.2*dY ps T x.1).sum:=λvs=>by
    induction vs with
    |nil=>intro _;simp
    |cons y vs ih=>intro hv;have hy:=hv y ae;have:=ih λz hz=>hv z<|aa _ hz;have h2:0<=y.2*dY ps T y.1:=gs ∅ (by unfold dY;lk);rw[az,dk];lk
   exact this ws λy hy=>h y<|aa _ hy
  rw[e];split<;>lk
theorem Z9:∀(ws:List (List Nat×Int)) (wt:Int),(jC ps T wt ws).length<=2*ws.length
 |[],_=>by simp[jC]
 |x::ws,wt=>by
  have:=Z9 ws<|iy ps T wt x;have a:(kh ps T wt x).length<=1:=by unfold kh;split<;>simp
  have b:(gW ps T wt x).length<=1:=by unfold gW;split<;>simp
  rw[jC,aw,aw,ay];lk
def aek {ws:List (List Nat×Int)}(hp:ps.length<=900)(wu:ws.length<=900)(hpp:0<=p)(h:∀x∈ws,1<=x.2/\bM aU.l ps x.1<=T)(hx0:∀x∈ws,(∀j∈x.1,j<ps.length)/\x.1.length<=900)(hb:∀x∈ws,x.2<1e100/\0<=bM aU.l ps x.1)(hT:T+1<1e100):
  Pg.sO [hD ps,.list<|ws.map vG,.int T,.int p]=some (true,.list<|(jC ps T p ws).map bD):=by
 have loop:∀A vs (wt:Int) (acc:List jU) (x6 x7 x8 x9:Option PyData),0<=wt->(∀x∈vs,x∈ws)->acc.length+2*vs.length<=2000->∃wt' zN KN x8' x9',eE (gT 2<|gC (gN 6)<|gC (gN 7) g0)
   (aD (bN (v2 cu (v2 jm (vN 2)<|bH Pg.jV<|aC (vF 0)<|aC (vF 6) a0)<|vC<|.int 1)<|gN 8)<|aD (bN (dW rT<|aC (vN 8)<|aC (v2 j4 (vN 5)<|vN 7) a0)<|gN 9)<|aD (dJ (vB<|v2 tM (vN 9)<|vC<|.int 0) (aD (gH 4<|aC (fJ<|aC (vF 6)<|aC (vF 7)<|aC (vC<|.int 0)<|aC (v2 jm (vN 9)<|vC<|.int 1) a0) a0)<|rZ jm 5<|v2 rQ (vN 7)<|vN 9) cC)<|dJ (fP (vB<|v2 mQ (vN 9)<|vN 8)<|vB<|v2 tM (vN 5)<|vC<|.int 0) (aD (gH 4<|aC (fJ<|aC (pG<|vN 6)<|aC (vF 5)<|aC (vF 9)<|aC (vF 9) a0) a0)<|bN (vC<|.int 0)<|gN 5) cC)
   (vs.map vG) [some (Tg.fr,hD ps),some (Tg.fr,A),some (Tg.fr,.int T),some (Tg.fr,.int p),some (Tg.ow,.list<|acc.map bD),some (Tg.fr,.int wt),ob x6,ob x7,ob x8,ob x9]=
   .nxt [some (Tg.fr,hD ps),some (Tg.fr,A),some (Tg.fr,.int T),some (Tg.fr,.int p),some (Tg.ow,.list<|(acc++jC ps T wt vs).map bD),some (Tg.fr,.int wt'),ob zN,ob KN,ob x8',ob x9']:=λA vs=>by
  induction vs with
  |nil=>intro wt acc x6 x7 x8 x9 _ _ _;exact⟨wt,x6,x7,x8,x9,by simp[eE,jC]⟩
  |cons x vs ih=>
   intro wt acc x6 x7 x8 x9 h0 hm cZ;have hx:=h x<|hm x ae;have hx1:=hx0 x<|hm x ae;have Um:=hb x<|hm x ae;let(f0,f1,f2,f3):=xH h0 hx.1 hx.2;rw[ay] at cZ;have la:(kh ps T wt x).length<=1:=by unfold kh;split<;>simp
   have lb:(gW ps T wt x).length<=1:=by unfold gW;split<;>simp
   let(wt',y6,y7,y8,y9,hy):=ih (iy ps T wt x) (acc++(kh ps T wt x++gW ps T wt x)) (some<|.list<|x.1.map eU) (some<|.int x.2) (some<|.int<|dY ps T x.1) (some<|.int<|cM ps T wt x) (yH h0 hx.1 hx.2) (λy hy=>hm y<|aa _ hy) (by rw[aw,aw];lk);refine⟨wt',y6,y7,y8,y9,?_⟩;have ew:vG x=.tuple [.list<|x.1.map eU,.int x.2]:=rfl;rw[dm] at hy;rw[az,eE,ew,jC,←hy];have el:=U9 hx1.1 ∅;have e8:T - bM aU.l ps x.1+1=dY ps T x.1:=rfl;z_go;rw[el];z_go;rw[e8,oR ∅ ∅];z_go;have e9:(if wt/x.2<dY ps T x.1 then wt/x.2 else dY ps T x.1)=cM ps T wt x:=rfl;rw[e9];by_cases zA:0<cM ps T wt x
   .have eA:kh ps T wt x=[⟨x.1,x.2,0,cM ps T wt x - 1⟩]:=by unfold kh;rw[ar zA]
    have wA:lM ps T wt x=wt - x.2*cM ps T wt x:=by unfold lM;rw[ar zA]
    kt_k;rw[<-wA];by_cases z1:cM ps T wt x<dY ps T x.1
    .kt_k;by_cases z2:0<lM ps T wt x
     .have eB:gW ps T wt x=[⟨x.1,lM ps T wt x,cM ps T wt x,cM ps T wt x⟩]:=by unfold gW;rw[ar ⟨z1,z2⟩]
      have wB:iy ps T wt x=0:=by unfold iy;rw[ar ⟨z1,z2⟩]
      kt_k;rw[ar (by rw[aw,af];simp only[ay,eD];exact bT ∅)];z_go;rw[eA,eB,wB,bz,bz,dm];rfl
     .have eB:gW ps T wt x=[]:=by unfold gW;rw[ap<|λh=>z2 h.2]
      have wB:iy ps T wt x=lM ps T wt x:=by unfold iy;rw[ap<|λh=>z2 h.2]
      kt_k;rw[eA,eB,wB,df,bz];rfl
    .have eB:gW ps T wt x=[]:=by unfold gW;rw[ap<|λh=>z1 h.1]
     have wB:iy ps T wt x=lM ps T wt x:=by unfold iy;rw[ap<|λh=>z1 h.1]
     kt_k;rw[eA,eB,wB,df,bz];rfl
   .have eA:kh ps T wt x=[]:=by unfold kh;rw[ap zA]
    have wA:lM ps T wt x=wt:=by unfold lM;rw[ap zA]
    simp only[zA,de];z_go;by_cases z1:cM ps T wt x<dY ps T x.1
    .kt_k;by_cases z2:0<wt
     .have eB:gW ps T wt x=[⟨x.1,wt,cM ps T wt x,cM ps T wt x⟩]:=by unfold gW;rw[wA,ar ⟨z1,z2⟩]
      have wB:iy ps T wt x=0:=by unfold iy;rw[wA,ar ⟨z1,z2⟩]
      kt_k;rw[eA,eB,wB,fm,bz];rfl
     .have eB:gW ps T wt x=[]:=by unfold gW;rw[wA,ap<|λh=>z2 h.2]
      have wB:iy ps T wt x=wt:=by unfold iy;rw[wA,ap<|λh=>z2 h.2]
      kt_k;rw[eA,eB,wB,df,df]
    .have eB:gW ps T wt x=[]:=by unfold gW;rw[ap<|λh=>z1 h.1]
     have wB:iy ps T wt x=wt:=by unfold iy;rw[ap<|λh=>z1 h.1,wA]
     simp only[z1,de];z_go;rw[eA,eB,wB,df,df]
 unfold Pg.sO Pg.Qq;z_go;let(wt',y6,y7,y8,y9,hy):=loop (.list<|ws.map vG) ws p [] none none none none hpp (λx hx=>hx) (by simp only[eD];lk);simp only[iD,eQ,fm] at hy;rw[hy];rfl
theorem Ve {T:Int}:∀(r:List (Int×Int)),r.Pairwise (λx y=>x.1<=y.1)->wsum (λl=>if l<=T - 1 then T - 1+1 - l else 0) r=wsum (λl=>T - 1+1 - l) (r.takeWhile λx=>decide<|x.1<=T)
 |[],_=>rfl
 |x::r,hp=>by
  let(p1,p2):=kD.mp hp;have ih:=Ve (T:=T) r p2;by_cases z:x.1<=T
  .rw[oi,ar<|by simpa using z,mR,mR,ih];lk
  .rw[oi,ap<|by simpa using z]
   have:wsum (λl=>if l<=T - 1 then T - 1+1 - l else 0) (x::r)=0:=wU (T - 1) λy hy=>by grind
   assumption
theorem Vf:∀{a b:List (Int×Int)},a.map jx=b.map jx->a=b
 |[],[],_=>rfl
 |[],_::_,h=>by simp at h
 |_::_,[],h=>by simp at h
 |x::a,y::b,h=>by let(x1,x2):=x;let(y1,y2):=y;simp only[az,List.cons.injEq,jx,PyData.tuple.injEq,PyData.int.injEq,and_true] at h;rw[h.1.1,h.1.2,Vf h.2]
def ael (Hh:bx n ps)(sm:Small n ps)(bh:st<n)(hg:g<n)(bA:st≠g):∃G,BW n ps st g G/\∀T:Int,∃fl M C,ji n ps st g T fl M C/\ajc ps st g T fl/\Pg.gB [.int n,hD ps,.int st,.int g,.int T]=some (true,.list<|fl.map .int)/\M*(T+1) - C=mH T G/\M*(T - 1+1) - C=mH (T - 1) G:=by
 let(G,S):=ai1 Hh sm bh hg bA;let(r,cj,R,es):=acd Hh sm bh hg bA;have eG:G=grouped r:=by have e:=S.e;rw[es] at e;simp only[dS,Prod.mk.injEq,PyData.list.injEq,kX] at e;exact(Vf e).symm
 subst eG;have S0:St n ps st (gK ps) (λv=>if v=st then 0 else 1):=vo Hh;let((Ge,S1),_,_,_,pw):=JX Hh bh R S0;refine(_,S,λT=>?_);let(jT,R'):=Zk R;let(L,rfl,_,e):=zK Hh sm bh hg bA R';refine(_,_,_,sS Hh bh hg bA R',Ia Hh bh R',e,?_,?_)
 .rw[wR,←MP r pw];exact(uK _ r).symm
 .rw[wR,←Ve r pw];exact(uK _ r).symm
structure Xp (n:Nat)(ps:List aU)(st g:Nat)(p T:Int)(plan:List jU)(aV:List Int):Prop where
 T1:1<=T
 Tb:T<=p+(ps.map aU.l).sum
 row:∀r∈plan,yF ps st g (r.w,r.m)/\0<=r.s/\r.s<=r.e/\r.e+bM aU.l ps r.w<=T
 mw:∀r∈plan,∃q∈ps,r.m<=q.w
 Z2:(plan.map λr=>r.m*(r.e - r.s+1)).sum=p
 fits:∀(k:Nat) q t,ps[k]? =some q->cov k t (mJ ps plan)<=q.w
 len:plan.length<=2*ps.length
 ml:aV.length=n
 m0:lf aV st=0
 m1:lf aV g=T
 mb:∀v,v<n->0<=lf aV v/\lf aV v<=T
 low:(ps.map<|over<|lf aV).sum<p
 most:∀W ws μ,d9 n ps st g T W ws μ->p<=W
def aje {B:Int}(Hh:bx n ps)(sm:Small n ps)(hn:n<=900)(hp:ps.length<=900)(bh:st<n)(hg:g<n)(bA:st≠g)(p1:1<=p)(hpb:p+(ps.map aU.l).sum+1<1e100)(wD:0<=B)(hw:∀q∈ps,q.w<=B)(hBl:B*ps.length<1e100):
  ∃G,BW n ps st g G/\((G=[]/\Pg.gM [.int (n:Int),hD ps,.int (st:Int),.int (g:Int),.int p]=some (false,.none))\/(G≠[]/\∃T plan aV,Xp n ps st g p T plan aV/\Pg.gM [.int (n:Int),hD ps,.int (st:Int),.int (g:Int),.int p]=some (false,.tuple [.int T,.list<|plan.map bD,.list<|aV.map .int]))):=by
 let(G,S,more):=ael Hh sm bh hg bA;refine⟨G,S,?_⟩;by_cases zG:G=[]
 .refine .inl ⟨zG,?_⟩;have e:=S.e;rw[zG] at e;unfold Pg.gM Pg.ur;z_go;rw[e];rfl
 .refine .inr ⟨zG,?_⟩;have pos:=S.rise.pos;let(tIn,tLe):=mF (ns:=j9 p 0 0 G) (by intro z;have:=Vb p G 0 0;rw[z] at this;exact zG<|List.length_eq_zero_iff.mp this.symm);generalize hT:jH (j9 p 0 0 G)=T at*
  have ao4:p<=mH T G:=by have:=acs (bX 0) (λx hx=>(pos x hx).2) tIn;lk
  have T1:1<=T:=by
   by_cases z:1<=T
   .exact z
   .have:=wU T λx hx=>by have:=(pos x hx).1;lk
    lk
  have few:mH (T - 1) G<p:=by have:=acu (T:=T - 1) (bX 0) S.rise (λt ht=>by have:=tLe t ht;lk) ∅;lk
  have Tb:T<=p+(ps.map aU.l).sum:=by
   cases G with
   |nil=>lk
   |cons x G=>
    have h1:=tLe _ (by rw[j9];exact ae);have h2:=pos x ae;have h3:=S.low x ae;have h4:(p+(0+x.2*x.1) - 1)/(0+x.2)<p+x.1+1:=by
     refine Int.ediv_lt_of_lt_mul ∅ ?_;rw[im,im,il,il,mS x.1]
     have:p*1<=p*x.2:=cS ∅ ∅
     lk
    lk
  let(fl,M,C,F,N,eb,eW,eW1):=more T;let(fl',M',C',F',_,_,eW',_):=more<|T - 1;have F1:=F.pred Hh bh hg T1 F' (by rw[eW1,eW']);have arA:many G<1e100:=by let(fl2,C2,_,F2,_):=S.last (ps.map aU.l).sum<|bX _;have:=arw bA F2 wD hw;lk
  have et:=aej (p:=p) zG S.len pos (λx hx=>by have:=S.low x hx;lk) arA;rw[hT] at et;let(aV,em,ml,m0,m1,mb,fit):=zP Hh hn hp bh hg bA ∅ F1;have m1':lf aV g=T:=by lk
  have U:Up ps fl (lf aV):=λi q f a b hf=>by have:=(fit i q f a b).2 hf;have:=Hh.l1 q<|ah a;lk
  let(ws,P,ew):=acq F.len ∅ bA F.cons F.M0 U;have xP:∀x∈ws,∀i q,ps[i]? =some q->i∈x.1->0<lf fl i:=λx hx i q e hi=>((P.has hx) i hi).2;have short:∀x∈ws,bM aU.l ps x.1<=T:=λx hx=>by have Wk:=P.walk x hx;let(j0,tR):=gi _ Wk.ne;let(π,p0,p1,p2):=N j0 ((P.has hx) j0 tR).2;have:=Qz Wk.ix Wk.go λi q e hi=>p2 i q e<|xP x hx i q e hi;lk
  have Z2:M*(T+1) - C=(ws.map λx=>x.2*dY ps T x.1).sum:=by let(μ3,n0,n1,_,_):=F.Sh Hh ∅;rw[vA Hh bh hg F.net F.cost n0 n1];exact((Ie n0 n1 P.walk).symm.trans<|P.tot _).symm
  have yG:M*(T - 1+1) - C=(ps.map<|over<|lf aV).sum:=by rw[Aq Hh bh hg F1.lo F1.net F1.cost m0 m1 fit,ni _ F1.len]
  have wu:ws.length<=ps.length:=by have:=P.few;have:=yE fl;have:=F.len;lk
  have wk:∀x∈ws,1<=x.2/\bM aU.l ps x.1<=T:=λx hx=>⟨(P.walk x hx).m1,short x hx⟩;have wide:∀x∈ws,∃q∈ps,x.2<=q.w:=λx hx=>by have Wk:=P.walk x hx;let(j0,tR):=gi _ Wk.ne;have h1:=((P.has hx) j0 tR).1;have e0:=ag<|Wk.ix j0 tR;have h2:=(F.lo j0 _ _ e0<|oV (by rw[F.len];exact Wk.ix j0 tR)).2;exact⟨_,ah e0,by lk⟩
  have ps1:ws≠[]->1<=ps.length:=λh=>by
   cases ws with
   |nil=>exact absurd rfl h
   |cons x ws=>rw[ay] at wu;lk
  have epl:=aek (p:=p) hp ∅ ∅ wk (λx hx=>⟨(P.walk x hx).ix,by have:=lR (P.walk x hx).nd (P.walk x hx).ix;lk⟩) (λx hx=>by
   let(q,hq,hxq):=wide x hx;have h3:=hw q hq;have h4:B*1<=B*ps.length:=cS (by have:=ps1 (List.ne_nil_of_mem hx);lk) wD;have h5:=Ib Hh (P.walk x hx).ix;exact⟨by lk,by lk⟩) ∅
  refine⟨T,jC ps T p ws,aV,⟨T1,Tb,λr hr=>?_,λr hr=>?_,?_,λk q t hk=>?_,?_,ml,m0,m1',λv hv=>by have:=mb v hv;lk,?_,λW vJ μ' O=>?_⟩,?_⟩
  .let(x,hx,R):=Sx ∅ wk r hr;have Wk:=P.walk x hx;exact⟨⟨by rw[R.w];exact Wk.go,by rw[R.w];exact Wk.nd,by rw[R.w];exact Wk.ix,by rw[R.w];exact Wk.ne,R.m1⟩,R.s0,R.se,R.eT⟩
  .let(x,hx,R):=Sx ∅ wk r hr;let(q,hq,hxq):=wide x hx;exact⟨q,hq,by have:=R.mx;lk⟩
  .rw[Z8 ∅ wk,Vd ∅ wk (by rw[<-Z2,eW];exact ao4)];lk
  .have h1:=Z7 (wt:=p) ∅ (λx hx=>⟨(P.walk x hx).nd,wk x hx⟩) k t;have nH:=(ab.mp hk).1;rw[P.sum k nH] at h1;have:=(F.lo k q _ hk<|oV (by rw[F.len];exact nH)).2;lk
  .have:=Z9 (ps:=ps) (T:=T) ws p;lk
  .omega
  .have hO:=O.yG;have:=HX Hh bh hg F.lo F.net F.cost O.m0 O.m1;rw[ni _ F.len] at this;lk
  .unfold Pg.gM Pg.ur;z_go;rw[S.e];z_go;have avs:(G.map jx).isEmpty=false:=by cases G with|nil=>exact absurd rfl zG|cons x G=>rfl
   simp only[avs];z_go;rw[et];z_go;rw[eb];z_go;rw[ew];z_go;rw[epl];z_go;rw[em];z_go
theorem Vg:∀ps:List aU,(ps.map λ_=>(0:Int)).sum=0
 |[]=>rfl
 |q::r=>by rw[az,dk,Vg r];rfl
def aem (Hh:bx n ps)(bh:st<n)(hg:g<n)(S:BW n ps st g G)[DecidablePred P](h0:P st)(h1:¬P g)(h:∀q∈ps,P q.a->P q.b):G=[]:=by
 let(fl,C,_,F,_):=S.last _<|bX _;have e:=agy Hh bh hg F.net<|λv=>if P v then 0 else 1;simp only[h0,h1,fA,eI,me,oo] at e;have le:zs (λq f=>f*((if P q.b then(0:Int) else 1) - (if P q.a then 0 else 1))) ps fl<=zs (λ_ _=>0) ps fl:=Sd λi q f a b=>by
  have:=(F.lo i q f a b).1;have hq:=h q<|ah a;refine eK this ?_;by_cases z:P q.a
  .simp[z,hq z]
  .simp only[z,eI];split<;>lk
 have z0:zs (λ_ _=>(0)) ps fl=0:=by rw[ni (λ_=>0) F.len];exact Vg ps
 have hM:many G<=0:=by lk
 cases G with
 |nil=>rfl
 |cons x G=>
  have:=(S.rise.pos x ae).2;have:=El λy hy=>by have:=(S.rise.pos y<|aa _ hy).2;lk
  rw[Vc] at hM;lk
def aen (Hh:bx n ps)(S:BW n ps st g G)(zG:G=[]):∃P:Nat->Prop,P st/\¬P g/\∀q∈ps,P q.a->P q.b:=by
 let(fl,C,P,F,_,h0,h1,h2):=S.last _<|bX _;refine(P,h0,h1,λq hq ha=>?_);let(i,hi):=gI.mp hq;have nH:=(ab.mp hi).1;have hf:=oV (by rw[F.len];exact nH);have hM:many G=0:=by rw[zG];rfl
 rw[hM] at F;let(π,_,_,_,pr):=F.price;have z:=F.cons.none (ρ:=π) (λi q f a b hf=>by have:=(pr i q f a b).2 hf;have:=Hh.l1 q<|ah a;lk) i q _ hi hf;have:=Hh.w1 q hq;exact(h2 i q _ hi hf).1 ha ∅
end LH
namespace L2
open PyProof.Rows
def yJ (l:List Nat)(lo hi:Option Int):List Nat:=(l.drop<|HT.cI l.length 0 lo).take<|HT.cI l.length l.length hi - HT.cI l.length 0 lo
def jK (z:Str)(lo hi:Option Int):Str:=⟨(yJ z.cps.toList lo hi).toArray⟩
def alm (o:Option Int)(n d:Nat)(hd:d<=n):(match o with
  |none=>(d:Int)
  |some i=>max 0 (min (if i<0 then i+(n:Int) else i) (n:Int)))=((HT.cI n d o:Nat):Int):=by
 cases o with
 |none=>rfl
 |some v=>show max (0:Int) (min (if v<0 then v+(n:Int) else v) (n:Int))=(((if v<0 then(v+(n:Int)).toNat else min v.toNat n:Nat)):Int);split<;>lk
open PySem.Builtin.Str in
def amw (lo hi:Option Int)(n:Nat):strSliceIndices lo hi 1 n=(List.range<|HT.cI n n hi - HT.cI n 0 lo).map λk=>HT.cI n 0 lo+k:=by
 have e1:=alm lo n 0<|dE _;have e2:=alm hi n n<|ax _;have dw:strSliceIndices lo hi 1 n=sliceRange ((HT.cI n 0 lo)) ((HT.cI n n hi):Int) 1:=by rw[<-e1,←e2];cases lo<;>cases hi<;>rfl
 rw[dw];generalize HT.cI n 0 lo=a;generalize HT.cI n n hi=b;unfold sliceRange;simp only[show((1:Int)>0)=True by simp,fA];have e3:(if(a)<(b:Int) then((b) - (a:Int)+1 - 1)/1 else 0).toNat=b - a:=by
  by_cases h:(a:Int)<b
  .rw[ar h,Int.ediv_one];lk
  .rw[ap h];lk
 rw[e3];exact dv λk _=>by lk
open PySem.Builtin.Str in
def ajf (z:Str)(t:Tok)(l u:Option (Int×Tok))(hz:z.length<=sizeLine)(q:∀t' k,Q (.str (jK z (l.map (·.1))<|u.map (·.1)) t') {s with toks:=k}):
  (sliceMade z t l u none).post Q s:=by
 unfold sliceMade slicePicked;have hl:z.cps.toList.length=z.length:=by simp[Str.length]
 have a1:=HT.Yj z.length 0 (dE _)<|l.map (·.1);have a2:=HT.Yj z.length z.length (ax _)<|u.map (·.1);have ei:strSliceIndices (l.map (·.1)) (u.map (·.1)) (((none:Option (Int×Tok)).map (·.1)).getD 1) z.length=_:=amw (l.map (·.1)) (u.map (·.1)) z.length;have ep:(strSliceIndices (l.map (·.1)) (u.map (·.1)) (((none:Option (Int×Tok)).map (·.1)).getD 1) z.length).filterMap (z.cps[·]?)=yJ z.cps.toList (l.map (·.1)) (u.map (·.1)):=by
  rw[ei];unfold yJ;rw[hl];generalize hA:HT.cI z.length 0 (l.map (·.1))=a at*
  generalize hB:HT.cI z.length z.length (u.map (·.1))=b at*
  by_cases c:a<=b
  .have:=StrLaws.picks z.cps.toList (b - a) a ∅;simpa using this
  .rw[show b - a=0 by lk];simp
 split
 .rename_i c;have c':(strSliceIndices (l.map (·.1)) (u.map (·.1)) (((none:Option (Int×Tok)).map (·.1)).getD 1) z.length).length=z.length:=by simp only[bS,ot] at c;exact c.2
  rw[ei,af,ky] at c'
  have:jK z (l.map (·.1)) (u.map (·.1))=z:=by unfold jK yJ;rw[hl,show HT.cI z.length 0 (l.map (·.1))=0 by lk,List.drop_zero,c9 (by rw[hl];lk)]
  have q':=q t s.toks;rw[this] at q';exact q'
 .rw[ep];refine⟨?_,q _ _⟩;show(yJ z.cps.toList (l.map (·.1))<|u.map (·.1)).toArray.size<=sizeLine;rw[bm];unfold yJ;rw[dt,hV,hl];lk
section
inductive ao5 (x:V)(lo:Option Int)(hi:Option Int)(H:Hp)(Q:VK):Prop
 |mk:∀z,x=.str z->z.length<=sizeLine->Q (.str<|jK z lo hi) H->ao5 x lo hi H Q
def ao6:SlR X ao5:=by
 intro aj s σ H x v vl vu lo hi sl Q I rx hs pl pu h;let(z,rfl,hz,q):=h;let(t,rfl):=rx;refine⟨"str",_,F.slot_str_getitem.lookup,typeIs_str s z t,?_⟩;let(o,ho,hc,hd):=hs;have part:∀{v:Value}{o:Option Int},IsPart v o->∃p,v=partValue p/\p.map (·.1)=o:=λh=>by
  cases h with
  |none=>exact⟨none,rfl,rfl⟩
  |int i t=>exact⟨some (i,t),rfl,rfl⟩
 let(pl',rfl,rfl):=part pl;let(pu',rfl,rfl):=part pu;refine wpAny_getItem_str_slice ⟨o,ho,hc,hd⟩ rfl<|ajf z t pl' pu' hz λt' k=>?_;exact⟨.str _,H,I.kept λ_ _ e=>e,⟨t',rfl⟩,q⟩
def Vh:dh X (compareOp .LtE) (λx y H Q=>∃i j,x=.str i/\y=.str j/\Q (.bl<|!decide (j.cps.toList<i.cps.toList)) H):=by fin2;let(i,j,rfl,rfl,q):=h;let(t,rfl):=rx;let(t',rfl):=ry;exact PySem.P.le_str<|jy I q rfl
end
end L2
namespace VM
open PyProof.Rows L2
def Cd:(PyData.str x).canLay0=true↔∀c∈x.cps.toList,c<0x110000:=by show x.cps.all (· <0x110000)=true↔_;rw[oQ];simp
def amx {lo hi:Option Int}(h:(PyData.str x).canLay0=true):(PyData.str<|jK x lo hi).canLay0=true:=by rw[Cd] at h ⊢;intro c hc;exact h c<|ir<|fT hc
def J0 (x y:Str):(x++y).cps.toList=x.cps.toList++y.cps.toList:=by show(x.cps++y.cps).toList=_;simp
def amy (h:(PyData.str x).canLay0=true)(g:(PyData.str y).canLay0=true):(PyData.str<|x++y).canLay0=true:=by
 rw[Cd] at h g ⊢;intro c hc;rw[J0] at hc;rcases bc.mp hc with z|z
 .exact h c z
 .exact g c z
noncomputable def J1:PyData->PyData->Option PyData
 |.str x,.str y=>if x.length+y.length<=1000 then some (.str<|x++y) else none
 |_,_=>none
set_option tactic.hygienic true in
def arB {K:Frag}:jN K J1 (λx y H Q=>∃i j,x=.str i/\y=.str j/\i.length+j.length<=sizeLine/\Q (.str<|i++j) H):=by
 k_in;unfold J1 at e;split at e
 .split at e
  .rename_i i j hz;cases e;let(rfl,c1):=hx;let(rfl,c2):=hy;exact⟨_,_,rfl,rfl,dL hz<|by decide,q _ λ_=>⟨rfl,amy c1 c2⟩⟩
  .cases e
 .cases e
noncomputable def sU:PyData->PyData->Option PyData
 |.str x,.str y=>some<|.bool<|!decide (y.cps.toList<x.cps.toList)
 |_,_=>none
def ao7 {K:Frag}:jN K sU (λx y H Q=>∃i j,x=.str i/\y=.str j/\Q (.bl<|!decide (j.cps.toList<i.cps.toList)) H):=by
 k_in;unfold sU at e;split at e
 .cases e;let(rfl,c1):=hx;let(rfl,c2):=hy;exact(_,_,rfl,rfl,q _ λ_=>rfl)
 .cases e
noncomputable def zQ:List PyData->Option PyData
 |[.str x]=>if x.length<=1000 then some (.int x.length) else none
 |_=>none
set_option tactic.hygienic true in
def arC {K:Frag}:CallD K zQ (λxs H Q=>∃z,xs=[.str z]/\z.length<=sizeLine/\Q (.int z.length) H):=by
 intro H vs ds d Q e hx q;unfold zQ at e;split at e
 .split at e
  .rename_i x hz;cases e;let(v,rfl,rfl,_):=aR.one hx;exact(_,rfl,dL hz<|by decide,q _ λ_=>rfl)
  .cases e
 .cases e
def aae:PyData->PyData->Option PyData
 |.str x,.int i=>if x.length<=1000 then(dI x.cps.toList i).map λc=>.str ⟨#[c]⟩ else none
 |_,_=>none
noncomputable def strsOf:List PyData->Option (List Str)
 |[]=>some []
 |.str x::r=>(strsOf r).map λl=>x::l
 |_=>none
set_option tactic.hygienic true in
theorem KQ:∀{ds:List PyData}{xs:List Str},strsOf ds=some xs->ds=xs.map PyData.str
 |[],xs,h=>by cases h;rfl
 |d::r,xs,h=>by
  unfold strsOf at h;split at h
  .rename_i e;cases e
  .rename_i x r' e;cases e;cases q:strsOf r with
   |none=>rw[q] at h;cases h
   |some l=>rw[q] at h;cases h;rw[KQ q];rfl
  .cases h
theorem QB:∀(xs:List Str),strsOf (xs.map PyData.str)=some xs
 |[]=>rfl
 |x::r=>by show(strsOf<|r.map PyData.str).map _=_;rw[QB r];rfl
theorem xJ {K:Frag}:∀{xs:List Str}{vs:List V},aR K H (xs.map PyData.str) vs->vs=xs.map V.str
 |[],vs,h=>h
 |x::xs,vs,h=>by let(v,r,rfl,(rfl,_),h3):=h;rw[xJ h3];rfl
def Ig (neg:Bool):PyData->PyData->Option PyData
 |.str x,.list ds=>match strsOf ds with
  |some xs=>some<|.bool<|if neg then !(xs.any λy=>y==x) else xs.any λy=>y==x
  |none=>none
 |_,_=>none
set_option tactic.hygienic true in
def ao8 {K:Frag}:jN K (Ig neg) (rIn K neg):=by
 k_in;unfold Ig at e;split at e
 .split at e
  .rename_i xs hn;cases e;let(rfl,_):=hx;let(p,vs,rfl,h1,h2):=hy;rw[KQ hn] at h2;rw[xJ h2] at h1;have e1:∀x:Str,inV (.str x) (xs.map V.str)=xs.any λy=>y==x:=λx=>by unfold inV;rw[any_map];rfl
   refine(p,_,rfl,.inl h1,rfl,by rw[List.all_map];simp[uG],?_);rw[e1];exact q _ λ_=>rfl
  .cases e
 .cases e
section
variable {lo hi:Option Expr}
set_option tactic.hygienic true in
def avt (ha:PE X a (tV X.K RW fa))(hb:PE X b (tV X.K RW fb))(hs:Jp b:=by intro _ _;rfl):PE X (.Subscript a b pos) (tV X.K RS<|v2 aae fa fb):=
 (adB anC ha hb hs).imp λ_ _ Q q=>by
  let(aL,G,ao,S,F,I,d,e,q):=q;let(x,y,ex,ey,e):=Bt e;refine⟨aL,G,ao,S,F,I,x,ex,λv F1 H1 g1 hx=>⟨aL,G,ao,S,F1,I.grow g1,y,ey,λu F2 H2 g2 hy=>?_⟩⟩;unfold aae at e;split at e
  .rename_i z i;split at e
   .rename_i hz;cases ec:dI z.cps.toList i with
    |none=>rw[ec] at e;cases e
    |some c=>
     rw[ec] at e;cases e;let(rfl,cz):=hx;have eu:=hy;refine⟨z,i,c,rfl,eu,dL hz<|by decide,ec,q _ F2 H2 (g1.trans g2) ⟨rfl,?_⟩⟩;rw[Cd] at cz ⊢;intro c' yX
     have:c'=c:=by simpa using yX
     subst this;let(j,_,h2,_):=Bk ec;exact cz c'<|ah h2
   .cases e
  .cases e
noncomputable def Av (f:VE)(l u:GS->Option (Option Int)):VE:=λS=>match f S,l S,u S with
 |some (.str x),some lo,some hi=>if x.length<=1000 then some (.str<|jK x lo hi) else none
 |_,_,_=>none
set_option tactic.hygienic true in
def avu (he:PE X e (tV X.K RW f))(hl:PO X lo (YQ X.K fl))(hu:PO X hi (YQ X.K fu)):PE X (.Subscript e (.Slice lo hi none p2) pos) (tV X.K RS<|Av f fl fu):=
 (oG ao6 he hl hu).imp λ_ H Q q=>by
  let(aL,G,ao,S,F,I,d,e,q):=q;unfold Av at e;split at e
  .rename_i x l u q1 q2 q3;split at e
   .rename_i hz;cases e;refine⟨aL,G,ao,S,F,I,_,q1,λv F1 H1 g1 hx=>⟨aL,G,ao,S,F1,I.grow g1,l,q2,λF2 H2 g2=>⟨aL,G,ao,S,F2,(I.grow g1).grow g2,u,q3,λF3 H3 g3=>?_⟩⟩⟩;let(rfl,cx):=hx;exact⟨x,rfl,dL hz<|by decide,q _ F3 H3 ((g1.trans g2).trans g3) ⟨rfl,amx cx⟩⟩
   .cases e
  .cases e
end
end VM
namespace L2
open PyProof.Rows
noncomputable def sgn (z:Str)(i:Nat):Option Str:=(z.cps[i]?).map λc=>⟨#[c]⟩
def Its (z:Str):It:=(λi _=>i<z.length,λi H x H'=>H'=H/\∃y,sgn z i=some y/\x=.str y,λi _=>z.length<=i)
def aeo {K:Frag}(z:Str)(t:Tok)(it:Addr):Turn P w K tg (Its z) [it] it (λi h=>h.IsStrIter it "str_ascii_iterator" z t i) where
 mem:=by simp
 obj:=λi h st b hb=>by
  obtain rfl:b=it:=by simpa using hb
  let(o,e,c,d):=st;exact⟨o,e,λv y=>by rw[d] at y;cases y⟩
 keep:=λi h h' st k=>let⟨o,e,r⟩:=st;⟨o,k it (by simp) o e,r⟩
 item:=by
  w_up;subst hP hw hK;let(f0,f1,f2,f3,f4,f5):=hf it (by simp);have hi:i<z.cps.size:=hg;have ec:z.cps[i]? =some z.cps[i]:=by simp[hi]
  refine wpAny_pyNext_ascii_item st ec λh' yZ sb=>?_;have I1:Inv X aj σ H {s with heap:=h',toks:=s.toks+1}:=I.turned (λb o hb e=>(sb.2 b hb).trans e) f0 f1 f3 f4 f5;let(o,e,c,d):=id yZ;exact⟨_,rfl,Wd (s:={s with heap:=h',toks:=s.toks+1}) e c d ⋯ ⟨.str ⟨#[z.cps[i]]⟩,H,I1,⟨_,rfl⟩,⟨rfl,_,by unfold sgn;rw[ec];rfl,rfl⟩,yZ,λb hb=>(hf b hb).1⟩⟩
 done:=by w_up;subst hP hw hK;let(f0,f1,f2,f3,f4,f5):=hf it (by simp);have hi:z.cps.size<=i:=hg;exact wpAny_pyNext_ascii_end (I.ok.hd hc) st (by simp[hi]) λh' eb=>⟨rfl,I.turned (t':=s.toks) (λb o hb e=>eb b o hb e) f0 f1 f3 f4 f5⟩
 self:=λ_ _ _ _ _ st h=>wpAny_pyIter_striter_ascii st h
section
variable {tg:Expr}
noncomputable def ascii (z:Str):Bool:=z.cps.all (· <128)
inductive aln (R:(It->Hp->Prop))(x:V)(H1:Hp):Prop
 |mk:∀z,x=.str z->ascii z=true->R (Its z) H1->aln R x H1
def avv (tl:TE):TI:=λσ H R=>tl σ H λx H1=>aln R x H1
def ao9 {tl:TE}(hl:PE X l tl):PI X tg l (avv tl):=by
 intro aj s σ H R I h;refine bK (hl aj s σ H _ I h) ?_;rintro v s1 ⟨x,H1,I1,r1,q1⟩;let(z,e,ha,q):=q1;subst e;let(t,rfl):=r1;refine wpAny_pyIter_ascii ha ?_;refine(s1.heap.objs.size,[s1.heap.objs.size],_,_,H1,rfl,I1.kept λb o e=>aT _ e,aeo z t _,(_,da _ rfl,rfl,rfl),λb hb=>?_,q);obtain rfl:b=s1.heap.objs.size:=by simpa using hb
 exact I1.Lq (ax _)<|I1.hok.fresh<|ax _
inductive aep (K:Frag)(xs:List V)(H:Hp)(Q:VK):Prop
 |mk:∀(p:Addr) (bs:List Bool),xs=[.ref p]->aZ K H p (bs.map V.bl)->Q (.bl<|bs.all id) H->aep K xs H Q
def avw (hc:X.calm=true):iu X (.builtin "all") (aep X.K):=by
 room;let(p,bs,rfl,hq,q):=h;let(u,rfl,rx):=vals1 r;cases rx;let(aW,rv,pl,hz):=I.list hq;have hl:=rv.length;rw[af] at hl;have hb:∀(i:Nat) v,aW[i]? =some v->v=.bool (bs.getD i true):=λi v e=>by
  have hi:i<bs.length:=by grind
  let(u,e2,r2):=rv.get (i:=i) (x:=.bl bs[i]) (by simp[hi]);rw[e] at e2;cases e2;have r2':=r2;rw[r2'];simp[List.getD,hi]
 refine call_all_walk<|wpAny_pyIter_list pl.isList ?_;have bA:p≠s.heap.objs.size:=by let(o,n,e,_):=pl;exact dq<|cq e
 refine⟨s.heap.objs.size,_,_,_,_,_,λi=>bs.getD i true,rfl,Walks.list (show X.A.in1.handled=none from I.ok.hd hc) s.heap.objs.size p bA aW.toArray,⟨⟨_,da _ rfl,rfl,rfl⟩,?_⟩,?_,λh' tk hk=>?_⟩
 .let(o,n,e,c1,c2,c3):=pl;exact⟨o,aT _ e,c1,n,c3⟩
 .intro i v s Q E hv hQ;rw[hb i v<|by simpa using hv];exact db hQ
 .have e:(List.range aW.toArray.size).all (λi=>bs.getD i true)=bs.all id:=by
   rw[bm,←hl];rw[i7,fE,fE];constructor
   .intro h b hb;let(i,hi,rfl):=ki hb;have:=h i<|ja.mpr hi;grind
   .intro h i hi;have hi:=ja.mp hi;have:=h bs[i]<|fR hi;grind
  rw[e];refine⟨.bl _,H,I.kept λb o eb=>hk b o ?_<|aT _ eb,rfl,q⟩;intro z;have z':b=s.heap.objs.size:=by simpa using z
  exact absurd (cq eb) (by rw[z'];exact ik _)
end
end L2
namespace VM
open PyProof.Rows L2
noncomputable def QC (z:Str):List PyData:=z.cps.toList.map λc=>.str ⟨#[c]⟩
def ux (f:VE):VA:=λS=>match f S with
 |some (.str z)=>if ascii z=true then some (QC z) else none
 |_=>none
section
variable {fs:VA}
def itS (he:PE X l (tV X.K RW f)):PI X tg l (zq X.K<|ux f):=PI.imp (ao9 he) λ_ H R q=>by
 let(aL,G,ao,S,F,I,ds,e,q):=q;unfold ux at e;split at e
 .rename_i z q1;split at e
  .rename_i ha;cases e;refine⟨aL,G,ao,S,F,I,_,q1,λv F1 H1 g1 hx=>?_⟩;let(rfl,cz):=hx;refine⟨z,rfl,ha,q _ F1 H1 g1 ⟨λi d F' H' hd s1 s2=>⟨?_,λx GP hy=>?_⟩,λi F' H' hi _ _=>?_⟩⟩
   .have:=(ab.mp hd).1;rw[QC,af] at this;assumption
   .let(rfl,y,hy,rfl):=hy;refine⟨F',cg.refl s2,?_⟩;rw[QC,av] at hd;let(c,ec,rfl):=cc.mp hd;have ec':z.cps[i]? =some c:=by simpa using ec
    unfold sgn at hy;rw[ec'] at hy;cases hy;refine⟨rfl,?_⟩;rw[Cd] at cz ⊢;intro c' yX
    have:c'=c:=by simpa using yX
    subst this;exact cz c'<|ah ec
   .rw[QC,af] at hi;assumption
  .cases e
 .cases e
noncomputable def boolsOf:List PyData->Option (List Bool)
 |[]=>some []
 |.bool b::r=>(boolsOf r).map λl=>b::l
 |_=>none
set_option tactic.hygienic true in
theorem Ih:∀{ds:List PyData}{xs:List Bool},boolsOf ds=some xs->ds=xs.map PyData.bool
 |[],xs,h=>by cases h;rfl
 |d::r,xs,h=>by
  unfold boolsOf at h;split at h
  .omega
  .rename_i x r' e;cases e;cases q:boolsOf r with
   |none=>grind
   |some l=>rw[q] at h;cases h;rw[Ih q];rfl
  .cases h
theorem KR:∀(xs:List Bool),boolsOf (xs.map PyData.bool)=some xs
 |[]=>rfl
 |x::r=>by show(boolsOf<|r.map PyData.bool).map _=_;rw[KR r];rfl
theorem aaf {K:Frag}:∀{xs:List Bool}{vs:List V},aR K H (xs.map PyData.bool) vs->vs=xs.map V.bl
 |[],vs,h=>h
 |x::xs,vs,h=>by let(v,r,rfl,h2,h3):=h;have Ug:v=.bl x:=h2;rw[Ug,aaf h3];rfl
noncomputable def M8:List PyData->Option PyData
 |[.list ds]=>(boolsOf ds).map λbs=>.bool<|bs.all id
 |_=>none
set_option tactic.hygienic true in
def avx {K:Frag}:CallD K M8 (aep K):=by
 intro H vs ds d Q e hx q;unfold M8 at e;split at e
 .rename_i ds;cases eb:boolsOf ds with
  |none=>grind
  |some bs=>rw[eb] at e;cases e;let(v,rfl,a,xs,rfl,h1,h2):=aR.one hx;rw[Ih eb] at h2;rw[aaf h2] at h1;exact(a,bs,rfl,h1,q _ λ_=>rfl)
 .cases e
end
end VM
namespace L2
open PyProof.Rows
section
variable {o:Obj}
end
def amA (h:(iB P w).is k v=true):RelV (kV k) v:=by
 rw[ac8] at h;rcases iJ h with⟨j,t,e,e2⟩|⟨x,t,e,e2⟩
 .subst e;exact⟨t,e2⟩
 .subst e;exact⟨t,e2⟩
section
variable {X6:Pos}
def agF (hc:X.calm=true):iu X (.type "list") (λxs H Q=>∃a aO,xs=[.ref a]/\H a=some (.dK aO)/\∀z,H z=none->Q (.ref z) (upd H z<|.lst<|aO.map λkv=>kV kv.1)):=by
 room;let(a,aO,rfl,ha,q):=h;let(u,rfl,rx):=vals1 r;cases rx;let(hz,hS,ws,rel,dd):=Ea I.hok ha;let(ep,dat):=dd.dictAt;have hl:=rel.length;refine kdl_call (PySem.W.kdl_dict hS) (I.ok.hd hc) dat ∅ λh' tk acc c hk hD Ar=>?_;have hv:Vals (aO.map λkv=>kV kv.1) acc.toList:=by
  have dw:∀{l:List (Key×V)}{r:List (Key×Value)} {us:List Value},KV l r->us.length=r.length->(∀j v,us[j]? =some v->∃k x,r[j]? =some (k,x)/\(iB X.prog X.w).is k v=true)->Vals (l.map λkv=>kV kv.1) us:=λ{l r us} h=>by
   induction h generalizing us with
   |nil=>intro hl _;cases us with
    |nil=>exact .nil
    |cons _ _=>cases hl
   | @cons x y l r h _ ih=>
    intro hl hv;cases us with
    |nil=>cases hl
    |cons u us=>
     refine .cons ?_ (ih (by simpa using hl) λj v e=>hv (j+1) v e);let(k,x',e,hk):=hv 0 u rfl;have e':y=(k,x'):=by simpa using e
     show RelV (kV x.1) u;rw[h.1,e'];exact amA hk
  refine dw rel (by rw[i9];exact Ar.1) λj v e=>Ar.2 j v (by rw[<-nE];exact e)
 exact(.ref s.heap.objs.size,_,I.laid (o:=.lst<|aO.map λkv=>kV kv.1) hk (ax _) (by rw[af];exact hz,acc.toList,c,hv,by rw[hD]),rfl,q _<|I.hok.fresh<|ax _)
end
open PySem.SeqAt
open PySem.MeetsSeq (size_erased plain_remove_loop entry_remove_loop)
open PySem.AutoSeq1 (wpAny_loadPart')
def VP (l:Addr)(items:Array Value)(n:Nat)(x:Value)(j:Nat)(hj:j<items.size)(k:Nat)(Ii:items.size<=sizeLine):
  ∀i:Nat,j - i=k->i<=j->Meets (Builtin.«list.remove.loop» ⟨[.ref l,x,rawInt i],[]⟩)
   (λA R s=>s.heap.get? l=some {cls:=.type "list",dict:=none,data:=.seq items n,slots:=#[]}/\(∀m (hm:m<items.size),m<=j->EqAt A.in1 s items[m] x (decide<|m=j))/\R (.ok<|.ret .none) {s with heap:=s.heap.update l<|Obj.mapSeq λxs=>xs.eraseIdxIfInBounds j}):=by
 induction k with
 |zero=>
  intro i hk Ks prog w A R s h;let(hp,g,d,tk,os):=s;let(hl,he,h):=h;have avy:i=j:=by lk
  subst avy
  wp_walk using kd hl
  have hi:items[((i):Int).toNat]? =some items[i]:=by simp[hj]
  rw[hi];refine ai<|he i hj (ax _) prog w _ _ ?_;rw[cf rfl];have BK:(items.eraseIdxIfInBounds i).size<=sizeLine+1:=dL (size_erased items _)<|Nat.le_succ_of_le Ii
  wp_walk using(gX hl rfl (_hz':=BK)),kd hl
  simpa using h
 |succ k ih=>
  intro i hk Ks prog w A R s h;let(hp,g,d,tk,os):=s;let(hl,he,h):=h;have dZ:i<items.size:=by lk
  wp_walk using kd hl
  have hi:items[((i):Int).toNat]? =some items[i]:=by simp[dZ]
  have hc:((i)+1)=((i+1):Int):=by push_cast;rfl
  rw[hi];refine ai (he i dZ ∅ prog w _ _ ?_);rw[cE ∅]
  wp_walk
  rw[hc];exact⟨ip plain_remove_loop _,iE entry_remove_loop (by
   rw[gE plain_remove_loop _];exact ih (i+1) ∅ ∅ prog w A R _ ⟨hl,he,h⟩)⟩
def VR (l:Addr)(items:Array Value)(n:Nat)(x:Value)(j:Nat)(hj:j<items.size)(Ii:items.size<=sizeLine):
  Meets (Builtin.«list.remove» ⟨[.ref l,x],[]⟩)
   (λA R s=>s.heap.get? l=some {cls:=.type "list",dict:=none,data:=.seq items n,slots:=#[]}/\(∀m (hm:m<items.size),m<=j->EqAt A.in1 s items[m] x (decide<|m=j))/\R (.ok<|.ret .none) {s with heap:=s.heap.update l<|Obj.mapSeq λxs=>xs.eraseIdxIfInBounds j}):=by
 intro prog w A R s h;let(hp,g,d,tk,os):=s;let(hl,he,h):=h
 wp_walk using kd hl
 exact⟨ip plain_remove_loop _,iE entry_remove_loop (by
  rw[gE plain_remove_loop _];exact VP l items n x j hj _ Ii 0 rfl (dE _) prog w A R _ ⟨hl,he,h⟩)⟩
section
inductive Xq (K:Frag)(x:V)(vs:List V)(H:Hp)(Q:VK):Prop
 |mk:∀l y xs ds dy j,x=.ref l->vs=[y]->H l=some (.lst xs)->aR K H ds xs->Has K H dy y->dy.depth<=60->j<xs.length->((∀m d,m<=j->ds[m]? =some d->eqv d dy=decide (m=j)))->Q .non (upd H l<|.lst<|xs.eraseIdx j)->Xq K x vs H Q
def avz (hu:X.A.units+64<cLine):Ob X "list.remove" (Xq X.K):=by
 intro aj s σ H x vs v us Q I rx rv h;let(l,y,xs,ds,dy,j,rfl,rfl,hH,hd,hy,apa,hj,heq,q):=h;cases rx;let(u,rfl,ru):=rv.one;let(z,aW,n,r,hl,e):=I.LQ hH;let(bs,rb):=hy.reads I ru;refine j3 F.slot_list_remove ⟨_,e,rfl⟩ F.entry_list_remove (F.args_list_remove_2 _ _) (VR l aW.toArray n u j (by rw[bm];lk) (by rw[bm];lk)) ⟨e,λm hm hmj=>?_,?_⟩
 .have hm':m<xs.length:=by rw[bm] at hm;lk
  have ex:xs[m]? =some xs[m]:=by simp[hm']
  let(d,ed,Vi):=hd.get ex;let(u',eu,ru'):=r.get ex;have e2:aW.toArray[m]=u':=by
   have:aW[m]? =some aW.toArray[m]:=by simp
   rw[eu] at this;exact(be this).symm
  rw[e2,←heq m d hmj ed];let(as,ra):=Vi.reads I ru';refine eqAt_reads d dy _ s u' u as bs ra rb Vi.can hy.can ?_;have:=jn d.depth dy.depth;lk
 .refine⟨.non,_,I.ah7 hH e ?_ (r.eraseIdx j) ?_,rfl,q⟩
  .rw[List.eraseIdxIfInBounds_toArray]
  .have:=Ub xs j;lk
def arD (hu:X.A.units+64<cLine)(ho:PE X o to)(ha:PA X [e] t)
  (mX:attributeBase o "remove" X.env (eval o X.env)=eval o X.env:=by rfl)
  (LK:((backTo eV (starEach [e] X.env)).all (λx=>!x.1) && (backToKw eV (keywordEach [] X.env)).all (λx=>x.1.isSome)
   && decide (([e]:List Expr).length+([]:List Keyword).length+(if([]:List Keyword).isEmpty then 0 else 1)<30))=true:=by rfl)
  (mY:(iQ.endLine==eV.line)=true:=by rfl)(hs:starEach [e] X.env=(false,eval e X.env)::starEach [] X.env:=by rfl)(xU:(backTo eV<|starEach [] X.env).any (·.1)=false:=by rfl):
  PE X (.Call (.Attribute o "remove" iQ) [e] [] eV) (FP X.K "list" (Xq X.K) to t):=adD gS PySem.F.slot_list_remove PySem.F.type_list_remove (avz hu) ho ha mX LK mY hs xU
end
end L2
namespace L2
open PyProof.Rows
inductive ajg (K:Frag)(x:V)(y:V)(H:Hp)(Q:VK):Prop
 |mk:∀p xs ds dx,y=.ref p->aZ K H p xs->aR K H ds xs->Has K H dx x->dx.depth<=60->((∀d∈ds,eqv d dx=false))->Q (.bl false) H->ajg K x y H Q
def apd (hu:X.A.units+64<cLine):dh X (compareOp .In) (ajg X.K):=by
 fin2;let(p,xs,ds,dx,rfl,hq,hd,hx,apa,bA,q):=h;cases ry;let(aW,r,pl,hz):=I.list hq;let(bs,rb):=hx.reads I rx;refine SeqAt.in_listAt (λ_=>false) pl.isList (λw hw=>?_) (.bl _,H,I,rfl,?_)
 .have hw':w∈aW:=by simpa using hw
  let(j,ej):=cw hw';have hj:j<xs.length:=by have:=(ab.mp ej).1;have:=r.length;lk
  have ex:xs[j]? =some xs[j]:=by simp[hj]
  let(d,ed,Vi):=hd.get ex;let(u',eu,ru'):=r.get ex;rw[ej] at eu;cases eu;have hf:=bA d<|ah ed;let(as,ra):=Vi.reads I ru';rw[<-hf];refine SeqAt.eqAt_reads d dx _ s w v as bs ra rb Vi.can hx.can ?_;have:=jn d.depth dx.depth;lk
 .rw[show aW.toArray.any (λ_=>false)=false by simp];exact q
end L2
namespace VM
open PyProof.Rows L2
noncomputable def inE:PyData->PyData->Option PyData
 |dx,.list ds=>if dx.depth<=60/\(ds.all λd=>!PyData.eqv d dx)=true then some (.bool false) else none
 |_,_=>none
set_option tactic.hygienic true in
def avA {K:Frag}:jN K inE (ajg K):=by
 k_in;unfold inE at e;split at e
 .rename_i ds;split at e
  .rename_i c;cases e;let(p,xs,rfl,h1,h2):=hy;exact(p,xs,ds,dx,rfl,h1,h2,hx,c.1,λd hd=>by have:=fE.mp c.2 d hd;simpa using this,q _ λ_=>rfl)
  .cases e
 .cases e
end VM
namespace VZ
open PySem.W PyProof.Rows
section
variable {s:Shared}
def alive (h:Q (s.heap.get? a) s):wpAny M A (loadIfAlive a) Q E s:=λΓ p _=>by assumption
abbrev sV (h:Heap)(z TI TO T:Addr)(b:Bool):Prop:=h.get? z=some {cls:=.type "zip",dict:=none,data:=.fields #[rawInt T,.bool b,.bool false,.ref TI,.ref TO],slots:=#[]}
def aag (hz:sV s.heap z TI TO T b)(hT:s.heap.get? T=some oT)
  (hQ:∀h',sV h' z TI TO T true->h'.objs.size=s.heap.objs.size->(∀c o,c≠z->s.heap.get? c=some o->h'.get? c=some o)->Q false {s with heap:=h'}):
  wpAny (model prog w) A (Builtin.SmallTypes.ownedTupleIsFree<|.ref z) Q E s:=by
 refine ai<|gu hz rfl rfl ?_;refine ai<|alive ?_;rw[fS,hT];refine ai<|gu hz rfl rfl ?_;cases b with
 |true=>exact aS<|hQ s.heap hz rfl λc o _ e=>e
 |false=>refine ai<|wpAny_setField_rec hz (by simp) λh₁ Xr qC=>aS<|hQ h₁ Xr qC.1 λc o hc e=>qC.extBut _ _ hc e
def agH {Q:Value->Shared->Prop}(D:ZipApart z TI TO i1 i2 l1 l2)
  (hz:sV s.heap z TI TO T b)(hT:s.heap.get? T=some oT)(FQ:IsPair s.heap TI (.ref i1) (.ref i2))(h1:s.heap.IsListIter i1 l1 k)(h2:s.heap.IsListIter i2 l2 k)(zO:s.heap.IsList l1 xs)(qd:s.heap.IsList l2 ys)(hx:xs[k]? =some x)(hy:ys[k]? =some y)
  (hQ:∀h',sV h' z TI TO T true->h'.IsListIter i1 l1 (k+1)->h'.IsListIter i2 l2 (k+1)->IsPair h' s.heap.objs.size x y->(∀c o,c≠z->c≠i1->c≠i2->s.heap.get? c=some o->h'.get? c=some o)->Q (.ref s.heap.objs.size) {s with heap:=h'}):
  wpAny (model prog w) A (Builtin.«zip.__next__» ⟨[.ref z],[]⟩) (λfin s'=>∃v,fin=.done (.ret v)/\Q v s') E s:=by
 show wpAny _ _ (field (.ref z) 2>>=_) _ _ _;refine ai<|gu hz rfl rfl ?_;refine ai<|gu hz rfl rfl ?_;refine ai<|nI FQ rfl ?_;refine ai<|aag hz hT λh₁ Xr alo qC=>?_;simp only[fI,eI];rw[oB,nh];refine ai<|ai<|ai<|gc ?_;have g1:=h1.at λo e=>qC _ o D.i1z e;have g2:=h2.at λo e=>qC _ o D.i2z e;have gl1:=zO.at λo e=>qC _ o D.l1z e;have gl2:=qd.at λo e=>qC _ o D.l2z e;refine ai<|pf g1 gl1 hx λGx arE Et=>aS ?_;refine aS ?_;k_ne;rw[nh];refine ai<|ai<|gc ?_;refine ai<|pf (g2.extBut Et.extBut D.i12.symm) (gl2.extBut Et.extBut D.l2i1) hy λAi arF Xu=>aS ?_;refine aS ?_;k_ne;rw[List.forIn_nil];refine aS ?_;refine ai (wpAny_newTuple (hsz:=by show(2:Nat)<=sizeLine;decide) ?_);have hsz:Ai.objs.size=s.heap.objs.size:=by rw[Xu.1,Et.1,alo]
 refine aS ⟨_,rfl,?_⟩;have arG:=Xu.extBut _ _ D.i2z.symm (Et.extBut _ _ D.i1z.symm Xr);have up:∀c o,Ai.get? c=some o->(Ai.push {cls:=.type "tuple",data:=.seq #[x,y]}).get? c=some o:=λc o e=>aT _ e;have Vj:IsPair (Ai.push {cls:=.type "tuple",data:=.seq #[x,y]}) Ai.objs.size x y:=da _ rfl;rw[hsz] at Vj ⊢;exact hQ _ (up _ _ arG) ((arE.extBut Xu.extBut D.i12).at λo e=>up _ o e) (arF.at λo e=>up _ o e) Vj λc o c1 c2 c3 e=>up _ _<|Xu.extBut _ _ c3<|Et.extBut _ _ c2<|qC _ _ c1 e
def agI (hh:A.handled=none)(D:ZipApart z TI TO i1 i2 l1 l2)
  (hz:sV s.heap z TI TO T b)(hT:s.heap.get? T=some oT)(FQ:IsPair s.heap TI (.ref i1) (.ref i2))(h1:s.heap.IsListIter i1 l1 k)(zO:s.heap.IsList l1 xs)(hx:xs[k]? =none)
  (hE:∀h' e,(∀c o,c≠z->c≠i1->s.heap.get? c=some o->h'.get? c=some o)->(∃o,h'.get? e=some o/\o.cls=.type "StopIteration")->E (.ref e) {s with heap:=h'}):
  wpAny (model prog w) A (Builtin.«zip.__next__» ⟨[.ref z],[]⟩) Q E s:=by
 show wpAny _ _ (field (.ref z) 2>>=_) _ _ _;refine ai<|gu hz rfl rfl ?_;refine ai<|gu hz rfl rfl ?_;refine ai<|nI FQ rfl ?_;refine ai<|aag hz hT λh₁ Xr alo qC=>?_;simp only[fI,eI];rw[oB,nh];refine ai<|ai<|ai<|gc ?_;refine ai<|wpAny_nextOf_list_end hh (h1.at λo e=>qC _ o D.i1z e) (zO.at λo e=>qC _ o D.l1z e) hx λGx e Et he=>?_;exact hE Gx e (λc o c1 c2 x=>Et _ _ c2<|qC _ _ c1 x) he
end
section
variable {z TI TO T i1 i2 l1 l2:Addr}
def aer (D:ZipApart z TI TO i1 i2 l1 l2)
  (hz:sV s.heap z TI TO T b)(hT:s.heap.get? T=some oT)(FQ:IsPair s.heap TI (.ref i1) (.ref i2))(h1:s.heap.IsListIter i1 l1 k)(h2:s.heap.IsListIter i2 l2 k)(zO:s.heap.IsList l1 xs)(qd:s.heap.IsList l2 ys)(hx:xs[k]? =some x)(hy:ys[k]? =some y)
  (hQ:∀h',sV h' z TI TO T true->h'.IsListIter i1 l1 (k+1)->h'.IsListIter i2 l2 (k+1)->IsPair h' s.heap.objs.size x y->(∀c o,c≠z->c≠i1->c≠i2->s.heap.get? c=some o->h'.get? c=some o)->Q (some<|.ref s.heap.objs.size) {s with heap:=h'}):
  wpAny (model prog w) A (pyNext<|.ref z) Q E s:=by
 have Vj:s.TypeIs (.ref z) "zip":=(_,hz,rfl);exact ai (wpAny_attempt (jb Vj kf
  (lT kf Vj F.entry_zip_next
   (agH D hz hT FQ h1 h2 zO qd hx hy λh' a1 a2 a3 a4 a5=>aS (hQ h' a1 a2 a3 a4 a5)) (F.args_zip_next_1 _))))
def aes (hh:A.handled=none)(D:ZipApart z TI TO i1 i2 l1 l2)
  (hz:sV s.heap z TI TO T b)(hT:s.heap.get? T=some oT)(FQ:IsPair s.heap TI (.ref i1) (.ref i2))(h1:s.heap.IsListIter i1 l1 k)(zO:s.heap.IsList l1 xs)(hx:xs[k]? =none)
  (hQ:∀h',(∀c o,c≠z->c≠i1->s.heap.get? c=some o->h'.get? c=some o)->Q none {s with heap:=h'}):wpAny (model prog w) A (pyNext<|.ref z) Q E s:=by
 have Vj:s.TypeIs (.ref z) "zip":=(_,hz,rfl);refine ai (wpAny_attempt (jb Vj kf
  (lT kf Vj F.entry_zip_next (agI hh D hz hT FQ h1 zO hx λh' e hk he=>?_) (F.args_zip_next_1 _))))
 let(o,ho,hc):=he;refine ai<|wpAny_isInstance (o,ho,hc) isSubtype_stop ?_;exact aS<|hQ _ hk
structure ZS (z TI TO T i1 i2 l1 l2:Addr)(xs ys:Array Value)(i:Nat)(h:Heap):Prop where
 z:∃b,sV h z TI TO T b
 t:∃o,h.get? T=some o
 ti:IsPair h TI (.ref i1) (.ref i2)
 a:h.IsListIter i1 l1 i
 b:h.IsListIter i2 l2 i
 la:h.IsList l1 xs
 lb:h.IsList l2 ys
theorem ZS.at (x:ZS z TI TO T i1 i2 l1 l2 xs ys i h)(k:∀c o,c=z\/c=T\/c=TI\/c=i1\/c=i2\/c=l1\/c=l2->h.get? c=some o->h'.get? c=some o):ZS z TI TO T i1 i2 l1 l2 xs ys i h':=by let((b,x1),(o,x2),x3,x4,x5,x6,x7):=x;exact⟨⟨b,k _ _ (by simp) x1⟩,⟨o,k _ _ (by simp) x2⟩,k _ _ (by simp) x3,x4.at λo e=>k _ o (by simp) e,x5.at λo e=>k _ o (by simp) e,x6.at λo e=>k _ o (by simp) e,x7.at λo e=>k _ o (by simp) e⟩
structure Laid (n0:Nat)(xs ys:Array Value)(ts:List Addr)(h:Heap):Prop where
 nd:ts.Nodup
 lo:∀t∈ts,n0<=t/\t<h.objs.size
 it:∀(j:Nat) t,ts[j]? =some t->∃x y,xs[j]? =some x/\ys[j]? =some y/\IsPair h t x y
def Laid.at (x:Laid n0 xs ys ts h)(k:∀c o,n0<=c->h.get? c=some o->h'.get? c=some o):Laid n0 xs ys ts h':=by
 have dw:∀t∈ts,∃j,ts[j]? =some t:=λt ht=>cw ht;have up:∀j t,ts[j]? =some t->∃x y,xs[j]? =some x/\ys[j]? =some y/\IsPair h' t x y:=λj t e=>by let(a,b,c,d,p):=x.it j t e;exact⟨a,b,c,d,k _ _ (x.lo t<|ah e).1 p⟩
 refine⟨x.nd,λt ht=>⟨(x.lo t ht).1,?_⟩,up⟩;let(j,e):=dw t ht;let(_,_,_,_,p):=up j t e;exact cq p
def Laid.more (l:Laid n0 xs ys ts h)(hn:t∉ts)(h0:n0<=t)(hx:xs[ts.length]? =some x)(hy:ys[ts.length]? =some y)(hp:IsPair h t x y):Laid n0 xs ys (ts++[t]) h:=by
 refine⟨?_,λu hu=>?_,λj u e=>?_⟩
 .rw[fz];exact⟨l.nd,by simp,λa ha b hb z=>by rw[aE.mp hb] at z;exact hn<|z▸ha⟩
 .rcases bc.mp hu with g|g
  .exact l.lo u g
  .rw[aE.mp g];exact⟨h0,cq hp⟩
 .by_cases hj:j<ts.length
  .rw[bP hj] at e;exact l.it j u e
  .rw[cr ∅] at e;have tR:j - ts.length=0:=by have:=(ab.mp e).1;simp at this;lk
   rw[tR] at e;have eu:t=u:=by simpa using e
   have ej:j=ts.length:=by lk
   rw[ej,←eu];exact⟨x,y,hx,hy,hp⟩
abbrev LstAt (h:Heap)(S:Addr)(ts:List Addr)(c:Nat):Prop:=h.get? S=some {cls:=.type "list",dict:=none,data:=.seq (ts.map Value.ref).toArray c,slots:=#[]}
def acv (hS:LstAt h S ts c):∃c',LstAt (h.update S<|Obj.mapSeq (·.push (Value.ref n))) S (ts++[n]) c':=by
 have e:=iF (Obj.mapSeq (·.push (Value.ref n))) hS rfl;have avB:((ts++[n]).map Value.ref).toArray=((ts.map Value.ref).toArray).push (.ref n):=by simp
 have dw:∀d:Data,(Obj.mapSeq (·.push (Value.ref n)) {cls:=.type "list",dict:=none,data:=.seq (ts.map Value.ref).toArray c,slots:=#[]}).data=d->∃c',d=.seq (((ts.map Value.ref).toArray).push<|.ref n) c':=λd hd=>⟨_,hd.symm.trans rfl⟩;let(c',hc):=dw _ rfl;refine⟨c',?_⟩;rw[LstAt,avB,←hc];exact e
def ajh (hh:A.handled=none)(D:ZipApart z TI TO i1 i2 l1 l2)(h0:z<n0/\i1<n0/\i2<n0/\S<n0/\T=n0)
  (hS:S≠z/\S≠TI/\S≠i1/\S≠i2/\S≠l1/\S≠l2)(Km:xs.size=ys.size)(hn:xs.size<=sizeLine):∀(k i:Nat) (s:Shared) (ts:List Addr) (c:Nat),xs.size - i=k->i<=xs.size->ts.length=i->ZS z TI TO T i1 i2 l1 l2 xs ys i s.heap->LstAt s.heap S ts c->Laid n0 xs ys ts s.heap->
  (∀h' tk oX c',(∀b o,b≠S->b≠z->b≠i1->b≠i2->s.heap.get? b=some o->h'.get? b=some o)->LstAt h' S oX c'->Laid n0 xs ys oX h'->oX.length=xs.size->R (.ok<|.ret res) {s with heap:=h',toks:=tk})->
  codeAny (model prog w) A (.builtin "list.extend.loop" ⟨[.ref S,.ref z,res],[]⟩) R s:=by
 let(hz0,aji,ape,hS0,Ij):=h0;let(hSz,azc,hS1,hS2,azd,aze):=hS;have ne:∀{a c:Nat},a<n0->n0<=c->c≠a:=λh1 h2 z=>by lk
 intro k;induction k with
 |zero=>
  intro i s ts c hk hi Vk st hL la hR;have hin:i=xs.size:=by lk
  let((b,x1),(o,x2),x3,x4,x5,x6,x7):=st;refine iE kK ?_;rw[gE eP _];refine ai (aes hh D x1 x2 x3 x4 x6 (by rw[hin];exact m4<|ax _) λh' Ik=>?_);refine aS<|hR h' s.toks ts c (λb o _ c1 c2 _ e=>Ik b o c1 c2 e) (Ik _ _ hSz hS1 hL) (la.at λc o hc e=>Ik c o (ne hz0 hc) (ne aji hc) e) ∅
 |succ k ih=>
  intro i s ts c hk hi Vk st hL la hR;have dZ:i<xs.size:=by lk
  let((b,x1),(o,x2),x3,x4,x5,x6,x7):=st;have hx:=gp dZ;have hy:ys[i]? =some ys[i]:=gp ∅;refine iE kK ?_;rw[gE eP _];refine ai<|aer D x1 x2 x3 x4 x5 x6 x7 hx hy λh₁ g1 g2 g3 g4 pP=>?_;have hS':=pP _ _ hSz hS1 hS2 hL;have hTn:T≠z/\T≠i1/\T≠i2:=by rw[Ij];exact⟨ne hz0<|ax _,ne aji<|ax _,ne ape<|ax _⟩
  have QD:ZS z TI TO T i1 i2 l1 l2 xs ys (i+1) h₁:=⟨⟨_,g1⟩,⟨o,pP _ _ hTn.1 hTn.2.1 hTn.2.2 x2⟩,pP _ _ D.TIz D.TIi1 D.TIi2 x3,g2,g3,x6.at λo e=>pP _ o D.l1z D.l1i1 D.l1i2 e,x7.at λo e=>pP _ o D.l2z D.l2i1 D.l2i2 e⟩;have hfr:s.heap.objs.size∉ts:=λhm=>ik _ (la.lo _ hm).2;have hsn:n0<=s.heap.objs.size:=by have:=cq x2;lk
  have aeu:=(la.at λc o hc e=>pP c o (ne hz0 hc) (ne aji hc) (ne ape hc) e).more hfr hsn (by rw[Vk];exact hx) (by rw[Vk];exact hy) g4;let(c2,aev):=acv hS';refine ai ?_;refine gX hS' rfl (aS ⟨ip eP _,ih (i+1) _ (ts++[s.heap.objs.size]) c2 ∅ dZ (by rw[aw,Vk];rfl) (QD.at λc o hc e=>?_) aev (aeu.at λc o hc e=>?_) λh' tk oX c' Ik QF la' tK=>?_⟩)
   (by simp[Vk];lk) (by simp[Vk];lk)
  .refine(cv _ _ ?_).trans e;lk
  .exact(cv _ _ (ne hS0 hc).symm).trans e
  .refine hR h' tk oX c' (λb o c0 c1 c2 c3 e=>Ik b o c0 c1 c2 c3<|(cv _ _<|cp c0).trans<|pP b o c1 c2 c3 e) QF la' tK
end
def aew:typeLookup (.type "zip") "__len__"=pure none:=by rw[typeLookup_type,p9];kernel_rfl
def abn:typeLookup (.type "zip") "__length_hint__"=pure none:=by rw[typeLookup_type,p9];kernel_rfl
section
variable {z TI TO i1 i2 l1 l2:Addr}
structure Z0 (z TI TO i1 i2 l1 l2:Addr)(xs ys:Array Value)(h:Heap):Prop where
 z:IsZip h z TI TO .none
 ti:IsPair h TI (.ref i1) (.ref i2)
 to:∃a b,IsPair h TO a b
 a:h.IsListIter i1 l1 0
 b:h.IsListIter i2 l2 0
 la:h.IsList l1 xs
 lb:h.IsList l2 ys
theorem Z0.at (x:Z0 z TI TO i1 i2 l1 l2 xs ys h)(k:∀c o,c=z\/c=TO\/c=TI\/c=i1\/c=i2\/c=l1\/c=l2->h.get? c=some o->h'.get? c=some o):Z0 z TI TO i1 i2 l1 l2 xs ys h':=by let(x1,x3,(a,b,x2),x4,x5,x6,x7):=x;exact(k _ _ (by simp) x1,k _ _ (by simp) x3,(a,b,k _ _ (by simp) x2),x4.at λo e=>k _ o (by simp) e,x5.at λo e=>k _ o (by simp) e,x6.at λo e=>k _ o (by simp) e,x7.at λo e=>k _ o (by simp) e)
structure Off (S z TI TO i1 i2 l1 l2:Addr):Prop where
 z:S≠z
 ti:S≠TI
 to:S≠TO
 a:S≠i1
 b:S≠i2
 la:S≠l1
 lb:S≠l2
def Off.ne (o:Off S z TI TO i1 i2 l1 l2)(h:c=z\/c=TO\/c=TI\/c=i1\/c=i2\/c=l1\/c=l2):S≠c:=by
 rcases h with rfl|rfl|rfl|rfl|rfl|rfl|rfl
 .exact o.z
 .exact o.to
 .exact o.ti
 .exact o.a
 .exact o.b
 .exact o.la
 .exact o.lb
def Vl (hh:A.handled=none)(D:ZipApart z TI TO i1 i2 l1 l2)(hS:Off S z TI TO i1 i2 l1 l2)(Km:xs.size=ys.size)(hn:xs.size<=sizeLine)
  (st:Z0 z TI TO i1 i2 l1 l2 xs ys s.heap)(hL:LstAt s.heap S [] c)
  (hR:∀h' tk oX c',(∀b o,b≠S->b≠z->b≠TO->b≠i1->b≠i2->s.heap.get? b=some o->h'.get? b=some o)->LstAt h' S oX c'->Laid s.heap.objs.size xs ys oX h'->oX.length=xs.size->R (.ok<|.ret res) {s with heap:=h',toks:=tk}):
  codeAny (model prog w) A (.builtin "list.extend.loop" ⟨[.ref S,.ref z,res],[]⟩) R s:=by
 let(x1,x3,(a,b,x2),x4,x5,x6,x7):=st;have hS0:=cq hL;have hz0:=cq x1;have BP:i1<s.heap.objs.size:=by let(_,e,_):=x4;exact cq e
 have h20:i2<s.heap.objs.size:=by let(_,e,_):=x5;exact cq e
 refine iE kK ?_;rw[gE eP _];by_cases h0:xs.size=0
 .refine ai (wpAny_pyNext_zip_end hh D x1 x3 x2 x4 x5 x6 x7 (.inl<|m4 ∅) λh' hk=>?_);exact aS<|hR h' s.toks [] c (λb o _ c1 c2 c3 c4 e=>hk b o c1 c2 c3 c4 e) (hk _ _ hS.z hS.to hS.a hS.b hL) ⟨lP,λt ht=>(by cases ht),λj t e=>(by simp at e)⟩ h0.symm
 .have hx:xs[0]? =some xs[0]:=gp ∅;have hy:ys[0]? =some ys[0]:=gp ∅;refine ai<|p5 D x1 x3 x2 x4 x5 x6 x7 hx hy λh₁ g1 g2 g3 g4 g5 g6 pP=>?_;have ne:∀{a:Nat},a<s.heap.objs.size->s.heap.objs.size≠a:=λh1 z=>by lk
  have hS':=pP _ _ hS.z hS.to hS.a hS.b hL;let(c2,aev):=acv hS';rw[fm] at aev;have QD:ZS z TI TO s.heap.objs.size i1 i2 l1 l2 xs ys 1 h₁:=⟨⟨_,g1⟩,⟨_,g5⟩,pP _ _ D.TIz D.TITO D.TIi1 D.TIi2 x3,g3,g4,x6.at λo e=>pP _ o D.l1z D.l1TO D.l1i1 D.l1i2 e,x7.at λo e=>pP _ o D.l2z D.l2TO D.l2i1 D.l2i2 e⟩;have aeu:=Laid.more ⟨lP,λt ht=>(by cases ht),λj t e=>(by simp at e)⟩ (by simp) (ax _) hx hy g5;refine ai ?_;refine gX hS' rfl (aS ⟨ip eP _,ajh hh D ⟨hz0,BP,h20,hS0,rfl⟩ ⟨hS.z,hS.ti,hS.a,hS.b,hS.la,hS.lb⟩ Km hn _ 1 _ [s.heap.objs.size] c2 rfl ∅ rfl (QD.at λc o hc e=>?_) aev (aeu.at λc o hc e=>?_) λh' tk oX c' Ik QF la' tK=>?_⟩)
   (by simp) (by simp)
  .refine(cv _ _ ?_).trans e;rcases hc with rfl|rfl|rfl|rfl|rfl|rfl|rfl
   .exact hS.z
   .exact(ne hS0).symm
   .exact hS.ti
   .exact hS.a
   .exact hS.b
   .exact hS.la
   .exact hS.lb
  .refine(cv _ _ λy=>?_).trans e;subst y;exact absurd hS0<|not_lt.mpr hc
  .exact hR h' tk oX c' (λb o c0 c1 c2 c3 c4 e=>Ik b o c0 c1 c3 c4<|(cv _ _<|cp c0).trans<|pP b o c1 c2 c3 c4 e) QF la' tK
def ajj (hT:s.TypeIs (.ref z) "zip")(h:Q true s):wpAny (model prog w) A (Builtin.List.listLengthHint<|.ref z) Q E s:=by refine ai<|md hT aew ?_;exact ai<|md hT abn<|aS h
def aex (hh:A.handled=none)(D:ZipApart z TI TO i1 i2 l1 l2)(hS:Off S z TI TO i1 i2 l1 l2)(Km:xs.size=ys.size)(hn:xs.size<=sizeLine)
  (st:Z0 z TI TO i1 i2 l1 l2 xs ys s.heap)(hL:s.heap.get? S=some {cls:=.type "list",data:=.seq #[] c})
  (hR:∀h' tk oX c',(∀b o,b≠S->b≠z->b≠TO->b≠i1->b≠i2->s.heap.get? b=some o->h'.get? b=some o)->LstAt h' S oX c'->Laid s.heap.objs.size xs ys oX h'->oX.length=xs.size->R (.ok<|.ret res) {s with heap:=h',toks:=tk}):
  wpAny (model prog w) A.in1 (Builtin.List.listExtendWith (.ref S) (.ref z) res)
   (λfin s'=>match fin with|.done f=>R (.ok f) s'|.again c'=>c'.quiet=true/\codeAny (model prog w) A c' R s') (λe s'=>R (.error e) s') s:=by
 have hT:s.TypeIs (.ref z) "zip":=⟨_,st.z,rfl⟩;refine ai<|wpAny_typeOf hT ?_;have h1:Builtin.List.listSameRef (.ref S) (.ref z)=false:=by simp[Builtin.List.listSameRef,hS.z]
 have h2:(type "zip"==type "list")=false:=by decide
 have h3:(type "zip"==type "tuple")=false:=by decide
 simp only[h1,h2,h3,Bool.or_false,fI,eI];refine ai<|lS st.z ?_;refine ai<|gc<|ajj hT ?_;refine wpAny_ite_split (λ_=>?_)<|λ_=>aS ⟨ip eP _,Vl hh D hS Km hn st hL hR⟩;refine ai<|wpAny_rule ?_;refine ai ?_;refine ai<|gX hL rfl ?_;have Xv:=iF (Obj.mapSeq (·.push Value.none)) hL rfl;refine gX Xv rfl ?_;have arH:=iF (Obj.mapSeq (·.pop)) Xv rfl;refine aS ⟨ip eP _,Vl hh D hS Km hn (st.at λc o hc e=>?_) arH λh' tk oX c' Ik QF la' tK=>?_⟩
 .have hbS:c≠S:=λy=>hS.ne hc y.symm;exact(cv _ _<|cp hbS).trans<|(cv _ _<|cp hbS).trans e
 .refine hR h' tk oX c' (λb o c0 c1 c2 c3 c4 e=>Ik b o c0 c1 c2 c3 c4<|(cv _ _<|cp c0).trans<|(cv _ _<|cp c0).trans e) QF ?_ tK;simp_all
def V0 (hh:A.handled=none)(D:ZipApart z TI TO i1 i2 l1 l2)(Km:xs.size=ys.size)(hn:xs.size<=sizeLine)(st:Z0 z TI TO i1 i2 l1 l2 xs ys s.heap)
  (hQ:∀h' tk oX c',(∀b o,b≠z->b≠TO->b≠i1->b≠i2->s.heap.get? b=some o->h'.get? b=some o)->LstAt h' s.heap.objs.size oX c'->Laid (s.heap.objs.size+1) xs ys oX h'->oX.length=xs.size->Q (.ref s.heap.objs.size) {s with heap:=h',toks:=tk}):
  wpAny (model prog w) A (call (.type "list") [.ref z]) Q E s:=by
 refine callType_codes (Q₁:=λobj cJ=>obj=.ref s.heap.objs.size/\cJ={s with heap:=s.heap.push {cls:=.type "list",data:=.seq #[]}}) PySem.F.called_list (PySem.F.typeCall_list_1 _) PySem.F.entry_list_init
  (code_list_new _ ⟨rfl,rfl⟩) λobj cJ h₁=>?_
 let(rfl,rfl):=h₁;have hS:(s.heap.push {cls:=.type "list",data:=.seq #[]}).get? s.heap.objs.size=some {cls:=.type "list",data:=.seq #[]}:=da _ rfl;have lt:∀{b o},s.heap.get? b=some o->s.heap.objs.size≠b:=λe=>mB<|cq e;let(a,b,x2):=st.to;have off:Off s.heap.objs.size z TI TO i1 i2 l1 l2:=⟨lt st.z,lt st.ti,lt x2,(by let(_,e,_):=st.a;exact lt e),(by let(_,e,_):=st.b;exact lt e),(by let(_,e,_):=st.la;exact lt e),(by let(_,e,_):=st.lb;exact lt e)⟩;have QD:Z0 z TI TO i1 i2 l1 l2 xs ys (s.heap.push {cls:=.type "list",data:=.seq #[]}):=st.at λc o _ e=>aT _ e;refine⟨⟨_,hS,rfl⟩,PySem.F.args_list_init_2 _ _,?_⟩;refine ai ?_;refine ai<|nI hS rfl<|aS ?_;refine ai<|gX hS rfl ?_;have Xv:=iF (Obj.mapSeq<|λ_=>(#[])) hS rfl;refine ai<|wpAny_letGo ?_;refine aex hh D off Km hn (QD.at λc o hc e=>(cv _ _<|off.ne hc).trans e) Xv λh' tk oX c' Ik QF la' tK=>?_;refine⟨rfl,hQ h' tk oX c' (λb o c1 c2 c3 c4 e=>Ik b o (λy=>lt e y.symm) c1 c2 c3 c4<|(cv _ _<|lt e).trans<|aT _ e) QF ?_ tK⟩;simp_all
end
end VZ
namespace L2
open PyProof.Rows
noncomputable def putAll (H:Hp):List (Addr×HO)->Hp
 |[]=>H
 |p::r=>upd (putAll H r) p.1 p.2
def Eu (h:b∉ps.map (·.1)):putAll H ps b=H b:=by
 induction ps with
 |nil=>rfl
 |cons p r ih=>rw[az,aI,not_or] at h;show upd (putAll H r) p.1 p.2 b=_;rw[aJ h.1,ih h.2]
def zR (nd:(ps.map (·.1)).Nodup)(h:p∈ps):putAll H ps p.1=some p.2:=by
 induction ps with
 |nil=>cases h
 |cons q r ih=>
  rw[az,bg] at nd;show upd (putAll H r) q.1 q.2 p.1=_;rcases aI.mp h with g|g
  .rw[g,au]
  .rw[aJ λz=>nd.1 (by rw[<-z];exact b9 g)];exact ih nd.2 g
def Inv.lays (I:Inv X aj σ H s)(k:∀b u,s.heap.get? b=some u->h'.get? b=some u)(sm:Same H H')(lo:∀b,b<s.heap.objs.size->H' b=H b)
  (new:∀b o,s.heap.objs.size<=b->H' b=some o->jw X.prog X.w H' h' b o):Inv X aj σ H' {s with heap:=h',toks:=t'}:=by
 refine I.un ⟨λb u q _ _ _=>k b u q,λb u q _ _ _=>⟨u.slots,k b u q⟩,λb u q n _=>by rw[lo b<|cq q];exact n,λb u q _=>⟨u,k b u q⟩,λb xs q=>sm _ _ q,λb u xs q=>sm _ _ q,λb ps q=>⟨#[],by rw[sm _ _ q];simp⟩⟩ λb u e=>?_;by_cases hb:b<s.heap.objs.size
 .rw[lo b hb] at e;exact(I.hok b u e).stay (λc v _ q=>k c v q) (λc q=>sm _ _ q) λc xs q=>sm _ _ q
 .exact new b u (not_lt.mp hb) e
theorem Vm:∀ts:List Addr,Vals (ts.map V.ref) (ts.map Value.ref)
 |[]=>.nil
 |t::r=>.cons rfl<|Vm r
theorem Vals.at (r:Vals xs us):∀{j:Nat}{u:Value},us[j]? =some u->∃x,xs[j]? =some x/\RelV x u:=by
 induction r with
 |nil=>intro j u e;simp at e
 | @cons a b l r h _ ih=>
  intro j u e;cases j with
  |zero=>exact(a,rfl,by simpa using(by simpa using e)▸h)
  |succ j=>exact ih<|by simpa using e
def aph (n l1 l2:Nat)(h1:l1<n)(h2:l2<n):ZipApart (n+4) (n+2) (n+3) n (n+1) l1 l2:=by constructor<;>(show(_)≠_)<;>lk
inductive apj (K:Frag)(Q:VK)(vs:List V)(H1:Hp):Prop
 |mk:∀a b xs ys,vs=[.ref a,.ref b]->aZ K H1 a xs->aZ K H1 b ys->xs.length=ys.length->(∀(z:Addr) (ts:List Addr) (H2:Hp),Same H1 H2->H1 z=none->(∀t∈ts,H1 t=none)->ts.Nodup->z∉ts->H2 z=some (.lst<|ts.map V.ref)->ts.length=xs.length->(∀(j:Nat) t x y,ts[j]? =some t->xs[j]? =some x->ys[j]? =some y->H2 t=some (.tup [x,y]))->Q (.ref z) H2)->apj K Q vs H1
def tLZ (K:Frag)(ta:TA):TE:=λσ H Q=>ta σ H λvs H1=>apj K Q vs H1
def aey (hc:X.calm=true)(hgl:Gl X "list")(zT:X.mg "list"=none)(hg:Gl X "zip")(hm:X.mg "zip"=none)(ha:PA X [l,l2] ta)
  (hs:starEach [l,l2] X.env=[(false,eval l X.env),(false,eval l2 X.env)]:=by rfl)(lX:starEach [l2] X.env=[(false,eval l2 X.env)]:=by rfl)
  (he:starEach [.Call (.Name "zip" p2) [l,l2] [] ajk] X.env=[(false,eval (.Call (.Name "zip" p2) [l,l2] [] ajk) X.env)]:=by rfl):
  PE X (.Call (.Name "list" p) [.Call (.Name "zip" p2) [l,l2] [] ajk] [] pos) (tLZ X.K ta):=by
 kl_no;refine hJ<|uW I hgl zT boot_list ?_;refine dn ?_;rw[he];refine kT ?_;refine Call_ (uW I hg hm boot_zip (dn (bK (ha ajk aj s σ H _ I h) ?_) (by rw[hs,lX]) (by rw[lX];rfl)));rintro us s1 ⟨vs,H1,I1,r1,q1⟩;let(a,b,xs,ys,e,hq,u5,cZ,q):=q1;subst e;cases r1 with
 |cons r rr=>
  cases rr with
  |cons r2 rr=>
   cases rr;cases r;cases r2;let(aW,rv,pl,hz):=I1.list hq;let(vU,Yu,Yv,FT):=I1.list u5;have zO:=rv.length;have qd:=Yu.length;have la:a<s1.heap.objs.size:=by let(_,e,_):=pl.isList;exact cq e
   have lb:b<s1.heap.objs.size:=by let(_,e,_):=Yv.isList;exact cq e
   refine call_zip_2 pl.isList Yv.isList λh' g1 g2 g3 g4 g5 hsz hk=>?_;refine lI ?_;have D:=aph s1.heap.objs.size a b la lb;have st:VZ.Z0 (s1.heap.objs.size+4) (s1.heap.objs.size+2) (s1.heap.objs.size+3) s1.heap.objs.size (s1.heap.objs.size+1) a b aW.toArray vU.toArray h':=⟨g1,g2,⟨_,_,g3⟩,g4,g5,pl.isList.at λo e=>hk _ o e,Yv.isList.at λo e=>hk _ o e⟩;refine VZ.V0 (I1.ok.hd hc) D (by simp;lk) (by simp;lk) st λh2 tk ts c hk2 hL la2 Vk=>?_;have hs5:=hsz;have ne5:∀{b:Addr}{o:Obj},s1.heap.get? b=some o->∀j:Nat,b≠s1.heap.objs.size+j:=λ{b o} e j y=>by rw[y] at e;exact absurd (cq e)<|not_lt.mpr<|iX _ _
   have hk3:∀b o,s1.heap.get? b=some o->h2.get? b=some o:=λb o e=>hk2 b o (ne5 e 4) (ne5 e 3) (ne5 e 0) (ne5 e 1)<|hk b o e;have htx:ts.length=xs.length:=by rw[Vk];simp;lk
   let os:List HO:=(xs.zip ys).map λp=>HO.tup [p.1,p.2];have hos:os.length=ts.length:=by simp[os];lk
   have e1:(ts.zip os).map (·.1)=ts:=kH ∅;have hnz:h'.objs.size∉ts:=λhm=>by have:=(la2.lo _ hm).1;exact Nat.not_succ_le_self _ this
   have new:∀t,t∈h'.objs.size::ts->s1.heap.objs.size<=t:=λt ht=>by
    rcases aI.mp ht with g|g
    .rw[g,hs5];exact iX _ _
    .have h3:=(la2.lo t g).1;rw[hs5] at h3;exact dL (iX _ 6) h3
   let ps:List (Addr×HO):=(h'.objs.size,HO.lst<|ts.map V.ref)::ts.zip os;have e2:ps.map (·.1)=h'.objs.size::ts:=by simp only[ps,az,e1]
   have nd:(ps.map (·.1)).Nodup:=by rw[e2];exact bg.mpr ⟨hnz,la2.nd⟩
   have fr:∀t,t∈h'.objs.size::ts->H1 t=none:=λt ht=>I1.hok.fresh<|new t ht;have sm:Same H1 (putAll H1 ps):=λb o e=>by rw[Eu];exact e;rw[e2];exact λhm=>by rw[fr b hm] at e;cases e
   have lo:∀b,b<s1.heap.objs.size->putAll H1 ps b=H1 b:=λb hb=>Eu (by rw[e2];exact λhm=>absurd hb<|not_lt.mpr<|new b hm);have tup:∀j t x y,ts[j]? =some t->xs[j]? =some x->ys[j]? =some y->(t,HO.tup [x,y])∈ps:=λj t x y a b c=>by refine aa _<|ah (i:=j) ?_;rw[gh];refine⟨a,?_⟩;simp only[os,av,cc];exact⟨(x,y),gh.mpr ⟨b,c⟩,rfl⟩
   refine⟨.ref h'.objs.size,putAll H1 ps,I1.lays hk3 sm lo λb o hb e=>?_,rfl,q _ ts _ sm (fr _<|ae ..) (λt ht=>fr t<|aa _ ht) la2.nd hnz (zR nd<|ae ..) htx λj t x y a b c=>zR nd<|tup j t x y a b c⟩;by_cases hm:b∈h'.objs.size::ts
   .rcases aI.mp hm with g|g
    .rw[g,zR nd<|ae ..] at e;cases e;rw[g];refine⟨by rw[af];lk,ts.map Value.ref,c,Vm ts,hL⟩
    .let(j,ej):=cw g;let(u,v,eu,ev,hp):=la2.it j b ej;let(x,ex,rx):=rv.at (by simpa using eu);let(y,ey,ry):=Yu.at (by simpa using ev);rw[zR nd<|tup j b x y ej ex ey] at e;cases e;exact⟨by show 2<=sizeLine;decide,[u,v],.cons rx<|.cons ry .nil,⟨_,hp,rfl,_,rfl⟩⟩
   .rw[Eu (by rw[e2];exact hm),I1.hok.fresh hb] at e;cases e
open PySem.W PySem.Calls
noncomputable def Sy (d:Addr):Obj:={cls:=.type "dict_values",data:=.fields #[.ref d]}
def Ew (z d:Addr):HO:=HO.ext λh=>h.get? z=some (Sy d)
section
inductive aai:V->List V->Hp->VK->Prop
 |mk aO:H d=some (.dK aO)->(∀z,H z=none->Q (.ref z) (upd H z<|Ew z d))->aai (.ref d) [] H Q
set_option tactic.hygienic true in
def arI:Ob X "dict.values" aai:=by intro aj s σ H x vs v us Q I rx rv q;let(aO,hH,q):=q;rename_i d;cases rx;have hus:=rv.zero;subst hus;let(z,hS,ws,rel,dd):=Ea I.hok hH;refine pk l5 dd.typeIs PySem.F.entry_dict_values (PySem.F.args_dict_values_1 _) (meets_dict_values (iB X.prog X.w) _ hS) ⟨⟨ws,dd⟩,?_⟩;have e:(s.heap.push<|Sy d).get? s.heap.objs.size=some (Sy d):=da _ rfl;exact⟨.ref _,_,I.laid (o:=Ew s.heap.objs.size d) (λ_ _ q=>aT _ q) (ax _) ⟨e,⟨_,e⟩,λh1 h2 a b=>b _ a⟩,rfl,q _ I.fresh⟩
def agN (ho:PE X o to)(mX:attributeBase o "values" X.env (eval o X.env)=eval o X.env:=by rfl)(mY:(iQ.endLine==eV.line)=true:=by rfl):PE X (.Call (.Attribute o "values" iQ) [] [] eV) (CW X.K "dict" aai to):=Yr iS l5 PySem.F.type_dict_values arI ho mX mY
inductive agO (xs:List V)(H:Hp)(Q:VK):Prop
 |mk:∀z a aO,xs=[.ref z]->H z=some (Ew z a)->H a=some (.dK aO)->(∀l,H l=none->Q (.ref l) (upd H l<|.lst<|aO.map λkv=>kv.2))->agO xs H Q
def agP (hc:X.calm=true):iu X (.type "list") agO:=by
 room;let(z,a,aO,rfl,hv,ha,q):=h;let(u,rfl,rx):=vals1 r;cases rx;let(hz,hS,ws,rel,dd):=Ea I.hok ha;let(ep,dat):=dd.dictAt;have hl:=rel.length;have hvv:=(I.hok z _ hv).1;refine kdl_call (PySem.W.kdl_values) (I.ok.hd hc) ⟨⟨_,hvv,rfl,rfl⟩,dat⟩ ∅ λh' tk acc c hk hD Ar=>?_;have hv:Vals (aO.map λkv=>kv.2) acc.toList:=by
  have dw:∀{l:List (Key×V)}{r:List (Key×Value)} {us:List Value},KV l r->us.length=r.length->(∀j v,us[j]? =some v->∃k,r[j]? =some (k,v))->Vals (l.map λkv=>kv.2) us:=λ{l r us} h=>by
   induction h generalizing us with
   |nil=>intro hl _;cases us with
    |nil=>exact .nil
    |cons _ _=>cases hl
   | @cons x y l r h _ ih=>
    intro hl hv;cases us with
    |nil=>grind
    |cons u us=>refine .cons ?_ (ih (by simpa using hl) λj v e=>hv (j+1) v e);let(k,e):=hv 0 u rfl;grind
  refine dw rel (by rw[i9];exact Ar.1) λj v e=>Ar.2 j v (by rw[<-nE];exact e)
 exact⟨.ref s.heap.objs.size,_,I.laid (o:=.lst<|aO.map λkv=>kv.2) hk (ax _) ⟨by rw[af];exact hz,acc.toList,c,hv,by rw[hD]⟩,rfl,q _<|I.hok.fresh<|ax _⟩
end
section
variable {iQ eV:Pos}
inductive aaj:V->List V->Hp->VK->Prop
 |mk aO:H d=some (.dK aO)->(∀z,H z=none->Q (.ref z) (upd H z<|.dK aO))->aaj (.ref d) [] H Q
def arJ:Ob X "dict.copy" aaj:=by intro aj s σ H x vs v us Q I rx rv q;let(aO,hH,q):=q;cases rx;have hus:=rv.zero;subst hus;let(z,hS,ws,rel,dd):=Ea I.hok hH;refine pk my dd.typeIs PySem.F.entry_dict_copy (PySem.F.args_dict_copy_1 _) (meets_dict_copy (iB X.prog X.w) _ hS) (ws,dd,by rw[<-rel.length];exact z,λh' d1 _ hk=>?_);exact(.ref _,_,I.laid hk (ax _)<|Qf z (og.mpr<|cp (dq I.big)) rel d1,rfl,q _ I.fresh)
def apl (ho:PE X o to)(mX:attributeBase o "copy" X.env (eval o X.env)=eval o X.env:=by rfl)(mY:(iQ.endLine==eV.line)=true:=by rfl):PE X (.Call (.Attribute o "copy" iQ) [] [] eV) (CW X.K "dict" aaj to):=Yr iS my PySem.F.type_dict_copy arJ ho mX mY
end
end L2
namespace L2
open PyProof.Rows PySem.SeqAt
section
variable {iQ eV:Pos}
inductive aez (K:Frag)(x:V)(vs:List V)(H:Hp)(Q:VK):Prop
 |mk:∀(l:Addr) (y:V) (as:List Addr) (ds:List PyData) (dy:PyData) (j:Nat),x=.ref l->vs=[y]->H l=some (.lst<|as.map V.ref)->as.Nodup->aR K H ds (as.map V.ref)->Has K H dy y->dy.depth<=60->j<as.length->((∀(m:Nat) d,ds[m]? =some d->eqv d dy=decide (m=j)))->Q (.int (j:Int)) H->aez K x vs H Q
def aeA:∀{as:List Addr}{us:List Value},Vals (as.map V.ref) us->us=as.map Value.ref:=by
 intro as;induction as with
 |nil=>intro us h;cases h;rfl
 |cons a as ih=>
  intro us h;cases h with
  |cons h1 h2=>rw[az,ih h2,show _=Value.ref a from h1]
def mIdx (hu:X.A.units+64<cLine):Ob X "list.index" (aez X.K):=by
 intro aj s σ H x vs v us Q I rx rv h;let(l,y,as,ds,dy,j,rfl,rfl,hH,nd,hd,hy,apa,hj,heq,q):=h;cases rx;let(u,rfl,ru):=rv.one;let(z,aW,n,r,hl,e):=I.LQ hH;let(bs,rb):=hy.reads I ru;have ei:=aeA r;subst ei;rw[af] at z;have inj:∀m hm,Value.ref as[m]=Value.ref as[j]->m=j:=λm hm h=>(hX nd).mp (by injection h);have hjb:(j:Int)<2^63 - 1:=by
  have:sizeLine<2^62:=by decide
  lk
 refine j3 F.slot_list_index ⟨_,e,rfl⟩ F.entry_list_index (F.args_list_index_2 _ _) (list_indexAt l (as.map Value.ref).toArray n none #[] u (λy=>decide<|y=Value.ref as[j]) j (by simpa using hj) hjb (by simp) λm hm hmj=>?_) ⟨e,λy hy'=>?_,?_⟩
 .have hm':m<as.length:=by simpa using hm
  simp only[List.getElem_toArray,km,gL];intro h;exact absurd (inj m hm' h) ∅
 .let(a,ha,rfl):=bp.mp<|List.mem_toArray.mp hy';let(m,hm,rfl):=ki ha;have ex:(as.map V.ref)[m]? =some (.ref as[m]):=by simp[hm]
  let(d,ed,Vi):=hd.get ex
  have:decide (Value.ref as[m]=Value.ref as[j])=eqv d dy:=by rw[heq m d ed];exact kG.mpr ⟨inj m hm,λh=>by subst h;rfl⟩
  rw[this];let(cs,ra):=Vi.reads I<|rfl;refine eqAt_reads d dy _ s _ u cs bs ra rb Vi.can hy.can ?_;have:=jn d.depth dy.depth;lk
 .exact⟨.int j,H,I.tok _,⟨_,rfl⟩,q⟩
def arK (hu:X.A.units+64<cLine)(ho:PE X o to)(ha:PA X [e] t)
  (mX:attributeBase o "index" X.env (eval o X.env)=eval o X.env:=by rfl)
  (LK:((backTo eV (starEach [e] X.env)).all (λx=>!x.1) && (backToKw eV (keywordEach [] X.env)).all (λx=>x.1.isSome)
   && decide (([e]:List Expr).length+([]:List Keyword).length+(if([]:List Keyword).isEmpty then 0 else 1)<30))=true:=by rfl)
  (mY:(iQ.endLine==eV.line)=true:=by rfl)(hs:starEach [e] X.env=(false,eval e X.env)::starEach [] X.env:=by rfl)(xU:(backTo eV<|starEach [] X.env).any (·.1)=false:=by rfl):
  PE X (.Call (.Attribute o "index" iQ) [e] [] eV) (FP X.K "list" (aez X.K) to t):=adD gS PySem.F.slot_list_index PySem.F.type_list_index (mIdx hu) ho ha mX LK mY hs xU
end
end L2
namespace L2
section
variable {X:Cx}
def gx (h:glB X.env.scope x=true:=by kernel_rfl):Gl X x:=gl h
def lx (h:aik X.env.scope x=true:=by kernel_rfl):Loc X.env.scope x:=lo h
def gD.mo (r:gD k A)(h:j<=k:=by decide):gD j A:=r.mono h
end
section
variable {sc:Scope}
def fs (a:sc.kind=.function:=by rfl)(b:sc.isCoroutine=false:=by rfl)(c:sc.isGenerator=false:=by rfl)(d:N.Nodup:=by decide +kernel)(e:N.take P.length=P:=by rfl)(f:∀x∈P,sc.names.lookup x=some .local\/sc.names.lookup x=some .cell:=by decide +kernel)(g:∀y∈sc.names,y.2≠ .free:=by decide +kernel):cB N P sc:=(a,b,c,d,e,f,g)
def cB.vt (_:cB N P sc)(h:N.all (λx=>ud sc x && plain x)=true:=by decide +kernel):N.all (λx=>ud sc x && plain x)=true:=h
end
end L2
namespace qm
open PyProof.Rows L2 VM
noncomputable def top (i:Nat):Stmt:=PySem.Challenge.pw_leavehall_k64_whole_turns_and_worth.main.body.getD i<|.Pass (0,0,0,0)
noncomputable abbrev fY (j:Nat):Stmt:=inClass (top 36) j
abbrev Q4:=Int×Int×Int×Int
noncomputable def kY (x:Str×Int):Key×V:=(.inr x.1,.int x.2)
def yK (H:Hp)(kv:Key×V)(x:Str×Q4):Prop:=kv.1=.inr x.1/\∃t,kv.2=.ref t/\H t=some (.tup [.int x.2.1,.int x.2.2.1,.int x.2.2.2.1,.int x.2.2.2.2])
structure bx (H:Hp)(C p dx nn ll:Addr)(nums:List (Str×Int))(ls:List (Str×Q4)):Prop where
 ins:H p=some (.ins C dx [("numbers",.ref nn),("laid",.ref ll)])
 num:H nn=some (.dK<|nums.map kY)
 laid:∃aO,H ll=some (.dK aO)/\Paired (yK H) aO ls
 ne:nn≠ll
def yK.same (k:∀t xs,H t=some (.tup xs)->H' t=some (.tup xs))(h:yK H kv x):yK H' kv x:=let⟨a,t,b,c⟩:=h;(a,t,b,k t _ c)
def bx.grow (h:bx H C p dx nn ll nums ls)(k:Same H H'):bx H' C p dx nn ll nums ls:=by let(a,b,(aO,c,d),n):=h;exact(k _ _ a,k _ _ b,(aO,k _ _ c,d.mono λ_ _ z=>z.same λt xs e=>k _ _ e),n)
noncomputable def gq (nm:Str):List (Str×α)->Option α
 |[]=>none
 |x::r=>if x.1=nm then some x.2 else gq nm r
noncomputable def lV (nm:Str)(v:α)(l:List (Str×α)):List (Str×α):=if(l.any λx=>decide<|x.1=nm)=true then l.map (λx=>if x.1=nm then(x.1,v) else x) else l++[(nm,v)]
noncomputable def wV (nm:Str)(l:List (Str×α)):List (Str×α):=l.filter λx=>!decide (x.1=nm)
def aak:((Sum.inr a:Key)=Sum.inr b)↔a=b:=⟨λh=>iL h,λh=>by rw[h]⟩
theorem Ce (nm:Str):∀nums:List (Str×Int),qI (nums.map kY) (.inr nm)=(gq nm nums).map V.int
 |[]=>rfl
 |x::r=>by
  rw[az,gq];by_cases e:x.1=nm
  .rw[ar e,DR (by show Sum.inr x.1=_;rw[e])];rfl
  .rw[ap e,DW (by intro z;exact e<|iL z),Ce nm r]
def Cg (nm:Str)(r:Paired (yK H) aO ls):match gq nm ls with
  |none=>qI aO (.inr nm)=none
  |some q=>∃t,qI aO (.inr nm)=some (.ref t)/\H t=some (.tup [.int q.1,.int q.2.1,.int q.2.2.1,.int q.2.2.2]):=by
 induction r with
 |nil=>rfl
 | @cons kv x _ _ h _ ih=>
  let(h1,t,h2,h3):=h;rw[gq];by_cases e:x.1=nm
  .rw[ar e];exact(t,by rw[DR<|by rw[h1,e],h2],h3)
  .rw[ap e];rw[DW (by intro z;rw[h1] at z;exact e<|iL z)];exact ih
def apm (nm:Str)(h:Paired (yK H) aO ls):(aO.any λkv=>decide<|kv.1=.inr nm)=ls.any λx=>decide (x.1=nm):=by
 induction h with
 |nil=>rfl
 |cons h _ ih=>rw[kn,kn,ih,h.1];simp
def agQ {nm:Str}(ht:H t=some (.tup [.int q.1,.int q.2.1,.int q.2.2.1,.int q.2.2.2]))(h:Paired (yK H) aO ls):
  Paired (yK H) (putK aO (.inr nm)<|.ref t) (lV nm q ls):=by
 unfold putK lV;rw[apm nm h];split
 .rename_i c;clear c;induction h with
  |nil=>exact .nil
  | @cons a b _ _ h _ ih=>
   rw[az,az];refine .cons ?_ ih;by_cases e:b.1=nm
   .rw[ar<|by rw[h.1,e],ar e];exact(h.1,t,rfl,ht)
   .rw[ap (by intro z;rw[h.1] at z;exact e<|iL z),ap e];exact h
 .rename_i c;clear c;induction h with
  |nil=>exact .cons (rfl,t,rfl,ht) .nil
  |cons h _ ih=>exact .cons h ih
def acy {nm:Str}(h:Paired (yK H) aO ls):Paired (yK H) (sE aO<|.inr nm) (wV nm ls):=by
 unfold sE wV;induction h with
 |nil=>exact .nil
 | @cons a b _ _ h _ ih=>
  rw[eR,eR];by_cases e:b.1=nm
  .rw[ap (by rw[h.1,e];simp),ap<|by simp[e]];exact ih
  .have ne:a.1≠Sum.inr nm:=λz=>by rw[h.1] at z;exact e (iL z)
   rw[ar<|cf ne,ar<|by simp[e]];exact .cons h ih
def acz (nm:Str)(v:Int)(nums:List (Str×Int)):putK (nums.map kY) (.inr nm) (.int v)=(lV nm v nums).map kY:=by
 unfold putK lV;have ea:((nums.map kY).any λkv=>decide<|kv.1=.inr nm)=nums.any λx=>decide (x.1=nm):=by rw[any_map];congr 1;funext x;exact kG.mpr aak
 rw[ea];split
 .rw[cm,cm];refine dv λx _=>?_;by_cases e:x.1=nm
  .show(if(kY x).1=Sum.inr nm then((kY x).1,V.int v) else kY x)=kY (if x.1=nm then(x.1,v) else x);rw[ar<|show(kY x).1=Sum.inr nm from aak.mpr e,ar e];rfl
  .show(if(kY x).1=Sum.inr nm then((kY x).1,V.int v) else kY x)=kY (if x.1=nm then(x.1,v) else x);rw[ap<|show ¬(kY x).1=Sum.inr nm from λz=>e<|aak.mp z,ap e]
 .rw[bz];rfl
def fB (nn ll:Addr)(H H':Hp):Prop:=∀b o,b≠nn->b≠ll->H b=some o->H' b=some o
def fB.same (h:Same H H'):fB nn ll H H':=λb o _ _ e=>h b o e
def fB.trans (a:fB nn ll H H')(b:fB nn ll H' GP):fB nn ll H GP:=λc o h1 h2 e=>b c o h1 h2<|a c o h1 h2 e
section
variable {aO aal:List (Key×V)}
def aam (h:H a=some (.dK ks)):∀t xs,H t=some (.tup xs)->upd H a o t=some (.tup xs):=λt xs e=>by rw[aJ λz=>by subst z;rw[h] at e;cases e];exact e
def bx.put (h:bx H C p dx nn ll nums ls)(hk:H ll=some (.dK aO))(hl:Paired (yK H) aal dX):bx (upd H ll<|.dK aal) C p dx nn ll nums dX:=by
 refine(?_,?_,(aal,au,hl.mono λ_ _ z=>z.same<|aam hk),h.ne)
 .rw[aJ λz=>by have:=h.ins;rw[z,hk] at this;cases this];exact h.ins
 .rw[aJ h.ne];exact h.num
def fB.put (hk:H ll=some (.dK aO)):fB nn ll H (upd H ll<|.dK aal):=λb o _ h2 e=>by rw[aJ h2];exact e
def bx.avC (h:bx H C p dx nn ll nums ls):bx (upd H nn<|.dK<|dH.map kY) C p dx nn ll dH ls:=by
 let(aO,hk,hl):=h.laid;refine(?_,au,(aO,?_,hl.mono λ_ _ z=>z.same<|aam h.num),h.ne)
 .rw[aJ λz=>by have:=h.ins;rw[z,h.num] at this;cases this];exact h.ins
 .rw[aJ h.ne.symm];exact hk
def fB.num:fB nn ll H (upd H nn<|.dK ks):=λb o h1 _ e=>by rw[aJ h1];exact e
end
structure Cl (K:Frag)(C:Addr):Prop where
 cl:Cls K C
 n1:rJ K C "numbers"
 n2:rJ K C "laid"
def gP {K:Frag}{fs:List (Str×V)}(e:σ[i]? =some (some<|.ref p))(h:H p=some (.ins C dx fs))(c:Cls K C)(n:rJ K C f)(l:fs.lookup f=some v)(q:Q v H):
  adu K (vR i) f σ H Q:=aq e (p,C,dx,fs,v,rfl,h,c,n,l,q)
def Xw {K:Frag}(e:σ[i]? =some (some<|.ref t))(h:H t=some (.tup xs))(a:dI xs j=some v)(q:Q v H):jt (uH K) (vR i) (tC<|.int j) σ H Q:=
 aq e (xs,v,bV.of h,a,q)
def op1:jt (rM g) ta (tC<|.int j) σ H Q=ta σ H λx H1=>rM g x (.int j) H1 Q:=rfl
def alq (h:∀R:VK,R (.int x) H->ta σ H R)(e:σ[i]? =some (some<|.int y))(q:Q (g x y) H):jt (rM g) ta (vR i) σ H Q:=h _<|aq e q
section
variable {K:Frag}
inductive acA (C:Addr)(vs:List V)(H:Hp)(Q:VK):Prop
 |mk:∀p dx nn ll nums ls nm q,vs=[.ref p,.str nm]->bx H C p dx nn ll nums ls->gq nm ls=some q->Q .non H->acA C vs H Q
def Il (C:Addr):Sp:=λvs H Q _=>acA C vs H Q
def acB:cB ["self","name"] ["self","name"] (aN<|fY 5):=fs
def amB {f:Addr}{fd:FuncData}(F:bY K "look_for" "NamedHall.look_for" (fY 5) f fd)(c:Cl K C):bJ P w K mg base cA 1 f fd ["self","name"] (Il C):=by have vt:=acB.vt;refine bY.ok F acB (λvs H Q E h=>by let(_,_,_,_,_,_,_,_,rfl,_):=h;rfl) λcX A outer s H vs Q E hr fQ=>?_;let(p,dx,nn,ll,nums,ls,nm,q,rfl,hh,hg,hq):=fQ;refine(_,bf<|fW (NK<|Ux (pF hr) (pV vt 1)<|gO (pV vt 0) rfl) (bf oF) cT,?_);let(aO,hk,hl):=hh.laid;have g:=Cg nm hl;rw[hg] at g;let(t,gv,gt):=g;unfold jj tB R6;refine aq rfl<|gP rfl hh.ins c.cl c.n2 rfl (ll,_,rfl,nY.k (k:=.inr nm) hk,_,rfl,?_);rw[gv];exact hq
inductive agR (C:Addr)(vs:List V)(H:Hp)(Q:VK):Prop
 |mk:∀p dx nn ll nums ls nm q ch,vs=[.ref p,.str nm,.int ch]->bx H C p dx nn ll nums ls->gq nm ls=some q->ls.length<100->(∀H',bx H' C p dx nn ll nums (lV nm (q.1,q.2.1,q.2.2.1+ch,q.2.2.2) ls)->fB nn ll H H'->Q .non H')->agR C vs H Q
def aeB (C:Addr):Sp:=λvs H Q _=>agR C vs H Q
def aan:cB ["self","name","change","passage"] ["self","name","change"] (aN<|fY 6):=fs
def apn {f:Addr}{fd:FuncData}(F:bY K "change_width" "NamedHall.change_width" (fY 6) f fd)(c:Cl K C):bJ P w K mg base cA 1 f fd ["self","name","change"] (aeB C):=by
 have nd:=aan.nd;have vt:=aan.vt;refine bY.ok F aan (λvs H Q E h=>by let(_,_,_,_,_,_,_,_,_,rfl,_):=h;rfl) λcX A outer s H vs Q E hr fQ=>?_;let(p,dx,nn,ll,nums,ls,nm,q,ch,rfl,hh,hg,hn,hq):=fQ;refine⟨_,aK (dO (i:=3) nd rfl lx (xG (pF hr) (gO (pV vt 0) rfl) (pV vt 1) (λ_ _=>rfl)))
  (bf (JT (pF hr) (gO (pV vt 0) rfl) (pV vt 1) (jM (ak (bB dR (pV vt 3) aF) (ak (bB dR (pV vt 3) aF) (ak (dj uf (bB dR (pV vt 3) aF) (pV vt 2)) (ak (bB dR (pV vt 3) aF) aP))))) rfl)),?_⟩
 let(aO,hk,hl):=hh.laid;have g:=Cg nm hl;rw[hg] at g;let(t,gv,gt):=g;have hkl:=hl.length;unfold mV fG Xl cH Qg vQ bR;refine gP rfl hh.ins c.cl c.n2 rfl (aq rfl ⟨ll,.ref t,rfl,by rw[<-gv];exact nY.k (k:=.inr nm) hk,?_⟩);k_ne;refine Xw rfl gt rfl (Xw rfl gt rfl (alq (λR r=>Xw rfl gt rfl r) rfl (Xw rfl gt rfl ⟨by show 4<=sizeLine;decide,λt' GX=>?_⟩)));have same:=aH (o:=.tup [.int q.1,.int q.2.1,.int<|q.2.2.1+ch,.int q.2.2.2]) GX;have Im:=hh.grow same;have hk1:=same _ _ hk;refine gP rfl Im.ins c.cl c.n2 rfl (aq rfl ⟨ll,_,rfl,Hl.k (k:=.inr nm) hk1<|bT ∅,?_⟩);refine hq _ (Im.put hk1<|agQ au<|hl.mono λ_ _ z=>z.same λu xs e=>same _ _ e)<|(fB.same same).trans<|fB.put hk1
inductive acC (C:Addr)(vs:List V)(H:Hp)(Q:VK):Prop
 |mk:∀p dx nn ll nums ls nm q,vs=[.ref p,.str nm]->bx H C p dx nn ll nums ls->gq nm ls=some q->(∀H',bx H' C p dx nn ll nums (wV nm ls)->fB nn ll H H'->Q .non H')->acC C vs H Q
def aao (C:Addr):Sp:=λvs H Q _=>acC C vs H Q
def acD:cB ["self","name"] ["self","name"] (aN<|fY 2):=fs
def amC {f:Addr}{fd:FuncData}(F:bY K "shut" "NamedHall.shut" (fY 2) f fd)(c:Cl K C)(F5:bJ P w K mg base cA 1 f5 fd5 ["self","name"] (Il C))(m5:Meth K C "look_for" f5)(b5:Binds K fd5 ["self","name"] []):
  bJ P w K mg base cA 2 f fd ["self","name"] (aao C):=by
 have vt:=acD.vt;refine bY.ok F acD (λvs H Q E h=>by let(_,_,_,_,_,_,_,_,rfl,_):=h;rfl) λcX A outer s H vs Q E hr fQ=>?_;let(p,dx,nn,ll,nums,ls,nm,q,rfl,hh,hg,hq):=fQ;refine⟨_,aK (cP<|cL (pV vt 0) c.cl m5 F5 hr b5 .nil dB<|ak (pV vt 1) aP)<|bf<|cP<|Zf (gO (pV vt 0) rfl) (pV vt 1) ⟨rfl,rfl,rfl,rfl⟩,?_⟩;let(aO,hk,hl):=hh.laid;have g:=Cg nm hl;rw[hg] at g;let(t,gv,gt):=g;unfold mV gk gF agh bR c7;refine aq rfl ⟨p,dx,_,rfl,hh.ins,rfl,aq rfl ⟨p,dx,nn,ll,nums,ls,nm,q,rfl,hh,hg,?_⟩⟩;k_ne;refine gP rfl hh.ins c.cl c.n2 rfl ⟨ll,rfl,⟨_,.inl hk⟩,aq rfl ⟨aO,.inr nm,.ref t,hk,rfl,gv,?_⟩⟩;exact hq _ (hh.put hk<|acy hl)<|fB.put hk
inductive aaq (C:Addr)(vs:List V)(H:Hp)(Q:VK):Prop
 |mk:∀p dx nn ll nums ls nm q ch,vs=[.ref p,.str nm,.int ch]->bx H C p dx nn ll nums ls->gq nm ls=some q->1<=ch->ls.length<100->(∀H',bx H' C p dx nn ll nums (lV nm (q.1,q.2.1,q.2.2.1+ch,q.2.2.2) ls)->fB nn ll H H'->Q .non H')->aaq C vs H Q
def Ci (C:Addr):Sp:=λvs H Q _=>aaq C vs H Q
def aar:cB ["self","name","more"] ["self","name","more"] (aN<|fY 3):=fs
def ajl (F:bY K "widen" "NamedHall.widen" (fY 3) f fd)(c:Cl K C)(F5:bJ P w K mg base cA 1 f5 fd5 ["self","name"] (Il C))(m5:Meth K C "look_for" f5)(b5:Binds K fd5 ["self","name"] [])
  (F6:bJ P w K mg base cA 1 f6 fd6 ["self","name","change"] (aeB C))(m6:Meth K C "change_width" f6)(b6:Binds K fd6 ["self","name","change"] []):
  bJ P w K mg base cA 2 f fd ["self","name","more"] (Ci C):=by
 have vt:=aar.vt;refine bY.ok F aar (λvs H Q E h=>by let(_,_,_,_,_,_,_,_,_,rfl,_):=h;rfl) λcX A outer s H vs Q E hr fQ=>?_;let(p,dx,nn,ll,nums,ls,nm,q,ch,rfl,hh,hg,h1,hn,hq):=fQ;refine(_,aK (cP (cL (pV vt 0) c.cl m5 F5 hr b5 .nil dB (ak (pV vt 1) aP))) (aK (fW (lY oLt (pV vt 2) aF) (bf oF) cT)
  (bf (cP (cL (pV vt 0) c.cl m6 F6 hr b6 .nil dB (ak (pV vt 1) (ak (pV vt 2) aP)))))),?_)
 unfold mV gk gF bR c7;refine aq rfl (p,dx,_,rfl,hh.ins,rfl,aq rfl (p,dx,nn,ll,nums,ls,nm,q,rfl,hh,hg,?_));k_ne;unfold jj oH;rw[op1];refine aq rfl ?_;show(if decide (ch<1)=true then _ else _);rw[ap (by simp;lk)];unfold iH;k_ne;refine aq rfl (p,dx,_,rfl,hh.ins,rfl,aq rfl<|aq rfl (p,dx,nn,ll,nums,ls,nm,q,ch,rfl,hh,hg,hn,λH' h1 h2=>?_));exact hq H' h1 h2
end
end qm
local macro_rules | `(tactic| walk_at "e4")=>do
 let a<-lsQ "L2.start map_cons map_nil length_cons length_nil replicate cons_append nil_append reduceAdd reduceSub append_nil mV iH fG cH vR tC jt tUn rM GC rUM oH jj ada TJ Rv akG akH adM mW gk bR c7 vQ Rx rK Wj Wm Br iM afh ain adL zj an7 zm uH getElem?_cons_zero getElem?_cons_succ set_cons_zero set_cons_succ nO Wg adh uF Wn qe Ju Ln Jr zf tSl Jo Bh anE d8 false_eq_true FP Js"
 `(tactic| try simp only[$a,*,↓reduceIte])
namespace qm
open L2 VM
seal L2.PE L2.PT L2.PW L2.PA L2.PS L2.kj L2.PG L2.wg L2.PI L2.rO L2.PO L2.dh L2.TY L2.iu L2.wj L2.Ob L2.Gq L2.Gs VM.jN VM.CallD PySem.binaryOp PySem.compareOp VM.J1 VM.Ga VM.Dj VM.G5 VM.gU VM.jO VM.isD VM.RL VM.Dv VM.Ko
variable {tkF tkL:Tok}
def mN {X:Cx}{e:Expr}{i:Nat}(h:PE X e (vR i)):PE X e (tV X.K RW<|vN i):=mw<|dN h
def nL {X:Cx}{es:List Expr}{fs:VA}{pos:Pos}(h:PA X es (Gb X.K fs)):PE X (.List es pos) (tV X.K RW<|fK fs):=nw<|YS h
section
variable {X:Cx}{tg kI xZ:Expr}{rP:List Expr}{scope sc:Scope}{N:List Str}{pos:Pos}{cap:List (Option Nat)}
noncomputable def tgF (N:List Str):Expr->Bool|.Name x _=>N.head? ==some x|.Tuple (e::_) _ _=>tgF N e|_=>false
def Cj {wi:TI}{g:TG}{tc:TT}{te:TE}(_:N.all (λx=>ud sc x && plain x)=true)(N':List Str)(wz:PI X tg kI wi)(hg:∀cl C s₀ ao ex,PG (jk X scope N' cl C s₀ ao ex) tg g)(hi:∀cl C s₀ ao ex,rO (jk X scope N' cl C s₀ ao ex) rP tc)(he:∀cl C s₀ ao ex,PE (jk X scope N' cl C s₀ ao ex) xZ te)
  (hB:wC N sc scope N' cap=true:=by decide +kernel)(hN:X.N=N:=by rfl)(hc:X.env.scope=sc:=by rfl)(hm:X.calm=true:=by rfl)(hs:∀x,foldedSetIterable kI X.env x=pure x:=by intro _;rfl)(_:tgF N' tg=true:=by rfl):PE X (.ListComp xZ [(tg,kI,rP,0)] scope pos) (zf wi cap g tc te):=Wh _ _ hm hB hN hc wz hg hi he hs
def sLC {adH adI:Pos}{fi:VA}{i k:Nat}{y:Str}{fc:VT}{fe:VE}(_:N.all (λx=>ud sc x && plain x)=true)(hd:X.N.Nodup)(hiy:X.N[i]? =some y)(hy:Loc X.env.scope y)(N':List Str)(wz:PI X tg kI (zq X.K fi))(hg:∀cl C s₀ ao ex,PG (jk X scope N' cl C s₀ ao ex) tg (Bw X.K (gN k) [k]))(hi:∀cl C s₀ ao ex,rO (jk X scope N' cl C s₀ ao ex) rP (kE X.K fc))(he:∀cl C s₀ ao ex,PE (jk X scope N' cl C s₀ ao ex) xZ (tV X.K RS fe))
  (hB:wC N sc scope N' cap=true:=by decide +kernel)(hN:X.N=N:=by rfl)(hc:X.env.scope=sc:=by rfl)(hm:X.calm=true:=by rfl)(hk:([k].all λj=>cap[j]? ==some none)=true:=by rfl)(hsw:swapsWith (.ListComp xZ [(tg,kI,rP,0)] scope pos) (some<|.Name y adH) adI.line X.env=pure true:=by rfl)
  (hs:∀x,foldedSetIterable kI X.env x=pure x:=by intro _;rfl)(hf:X.fn y=true\/X.env.scope.names.lookup y=some .local:=by first|exact .inl rfl|exact .inr rfl):PS X (.Assign [.Name y adH] (.ListComp xZ [(tg,kI,rP,0)] scope pos) adI) (jz X.K<|Mx i<|lZ fi cap (gN k) fc fe):=avh<|aiB (yc hd hiy hy _ _ hm hB hN hc wz hg hi he hsw hs hf) λ_ _ _ q=>aol hk q
def dGl {x:Str}{n:Int}{tk:Tok}(h:X.mg x=some (.int n tk))(hg:Gl X x)(hd:(x==("__debug__":Str))=false:=by decide):PE X (.Name x pos) (tV X.K RS<|vC<|.int n):=dC (pA (v:=.int n) hg h ⟨_,rfl⟩ hd) λ_=>rfl
end
section
variable {P:Program}{w:World}{K:Frag}{mg:Str->Option Value}{base:Heap}
def j6 (N:List Str)(F:bY K x qual st f fd)(hb:∀(cX:Value) (A:Around) (outer:List Env) (s:Shared) (H:Hp) (E:XK),N.Nodup->N.all (λx=>ud (aN st) x && plain x)=true->gD k (A.deeper<|PyProof.Rows.envOfC qual (aN st) s.heap.objs.size f cX)->kj (jP cA P w K mg base N qual (aN st) f cX A outer s H E).TQ (gY st) (jz K g))
  (S:cB N ps (aN st):=by exact fs)(vt:N.all (λx=>ud (aN st) x && plain x)=true:=by decide +kernel)(hn:ps.length=n:=by rfl)(hN:N.length=nN:=by rfl):bJ P w K mg base cA (k+1) f fd ps (bO K<|jc n nN g):=fnV F S hn hN λa b c d e i=>hb a b c d e i S.nd vt
end
open PyProof.Rows (boot_isinstance boot_abs boot_min boot_sum boot_all boot_int boot_bool boot_list boot_tuple boot_str)
def frQ:List (Lean.TSyntax `tactic)→Lean.TSyntax `tactic→Lean.MacroM (Lean.TSyntax `tactic)
 |[],z=>pure z
 |x::l,z=>do
  let y←frQ l z
  `(tactic|first|$x:tactic|$y:tactic)
local macro_rules | `(tactic| walk_at "d")=>do
 let g ← mpQ (λq=>do
  let p:=q.splitOn ":";let a ← mpQ (λs=>do
   let w:=s.splitOn " ";let x ← mpQ (λy=>if y == "?" then `(?_) else if y == "_" then `(_) else if y == "!" then `((by assumption)) else if y.startsWith "[" then let z : Array (Lean.TSyntax `term):=(((y.drop 1).dropEnd 1).toString.splitOn ";").toArray.map Lean.quote; `([$z,*]) else pure (Lean.mkIdent y.toName)) w.tail!;let x:=x.toArray
   if s.startsWith "'" then `(tactic| apply $(Lean.mkIdent (w.head!.drop 1).toString.toName)) else `(tactic| refine $(Lean.mkIdent w.head!.toName) $x*)) (p[1]!.splitOn ",")
  let h:=p[0]!.splitOn ".";let r ← frQ a (← `(tactic| fail))
  if (p[0]!.splitOn "=").length == 2 then `(tactic| (show PE _ _ (vR _); $r:tactic)) else if h.length == 2 then `(tactic| (show $(Lean.mkIdent h[0]!.toName) _ ($(Lean.mkIdent ("PySem.Expr." ++ h[1]!).toName) ..) _; $r:tactic)) else `(tactic| (show $(Lean.mkIdent h[0]!.toName) ..; $r:tactic))) ("PE=vR:pV vt _,tL ? _|PE:mN ?,nL ?,sw ?,dN ?,sm ?,dF ?|PE.Constant:jd,au5 ?,akK,adP|PE.BinOp:FZ adp arB ? ?,FZ uf YK ? ?,FZ oMod hMod ? ?,FZ oDiv hDiv ? ?,FZ adK hMul ? ?,FZ Dg hSub ? ?,FZ an2 hPow ? ?,FZ an3 hXor ? ?,dCat ? ?,avf ? ?|PE.Subscript:rR ? ?,avt ? ?,avu ? ? ?,au9 ? ? ?|PE.Call:oM ?,dG ! hr.mo ? ?,Oj ? hLen,Oj ? arC,eZ ? ? B.len PySem.boot_len ?,RQ KT.int ?,RQ KT.bool ?,RQ KT.list ?,RQ KT.tuple ?,eZ aiv ? B.isinstance boot_isinstance ?,Oj ? ava,eZ cAbs ? B.abs boot_abs ?,Oj ? arf,Oj ? aoh,eZ ? ? B.min boot_min ?,Oj ? avb,eZ ? ? B.sum boot_sum ?,Oj ? avx,eZ ? ? avD boot_all ?,al9 ?,lD Og ? B.list boot_list ?,akO ?,arh ?,Jt ? ?|PE.Name:xg ? B.int boot_int rfl,xg ? B.bool boot_bool rfl,xg ? B.list boot_list rfl,xg ? B.tuple boot_tuple rfl,dGl ! gx|PE:dTup ?,YS ?,adW ?,au8 ?,au6 ? ?,adQ ? hEq ? ?,adQ ? hNe ? ?,adQ oLt hLt ? ?,adQ oGt hGt ? ?,au7 ?,'dLC,'aon,dIf ? ? ?,dCh Vh ao7 Vh ao7 ? ? ?,Cj vt [move;left] ? ? ? ?,Cj vt [room] ? ? ? ?,Cj vt [number;left] ? ? ? ?,Cj vt [number;passages] ? ? ? ?,Cj vt [known;late] ? ? ? ?,Cj vt [walk;number;turns;passages] ? ? ? ?,Cj vt [sign] ? ? ? ?,Cj vt [_law_j;_law_base;_law_letters;_law_at] ? ? ? ?,Cj vt [_law_row] ? ? ? ?,Cj vt [_law_row;_law_name] ? ? ? ?,Cj vt [_law_moment] ? ? ? ?,Cj vt [_law_x] ? ? ? ?,Cj vt [_law_one;_law_name;_law_first] ? ? ? ?,ns ?,nm ?,nw ?|PT:mD ? hEq ? ?,mD ? hNe ? ?,mD oLt hLt ? ?,mD oGt hGt ? ?,mD oLe hLe ? ?,mD an5 hIs ? ?,mD akF aoe ? ?,mD xT ao8 ? ?,mD ? avA ? ?,cCh oLe hLe oLe hLe ? ? ?,RP ?,aof ?,cVal ?,PW.pt ?|PW:adT ?,ait ? ?,ais ?,wOr ? ?|PA:oK,iU ? ?,pw0,pwC ? ?,aP,ak ? ?,io0,ioS ? ?,ioJ ? ?|kj:Dt ?,Al ? ?,aiA|PS:'sAs,nD ? ?,sIf ? ? ?,sFz ?,avd ?,Wu ?,arj ?,sOw ?,dO nd rfl lx ?,cP ?,aor ?,aot ?,nF PassesOwn.never rfl ? ? ?,'aow,X7 PassesOwn.never ? ?,sWh ?,akJ nd rfl lx ? aio,akJ nd rfl lx ? aip,aov YK ?,aov hSub ?,aoz ?,cU ?,akZ ?,arl ?,aoo,Wv hSub ?,Wv YK ?,Jm ? ? getL ? aip GF,Jm ? ? getL ? aio GF,sLC vt nd rfl lx [_law_row] ? ? ? ?,sLC vt nd rfl lx [_law_row;_law_name] ? ? ? ?|PG:dM nd rfl lx,YX ?,FW ? ?,NQ ? ? GF,'tgT|wg:tg0,'tgC|PI:itL ?,itT ?,itS ?,anQ ? B.zip ?,itZ ?,RG ? B.enumerate ?,itE ?,TX ? B.range ?,avc ?|rO:ifN,abN ?|PO:poN,poI ?|dh:Bp hr.units,Bq hr.units,apd hr.units|iu:YD,Yp,afr rfl,aoa rfl,au3 rfl,avw rfl|Gl:gx,glC ?".splitOn "|")
 `(tactic| repeat' $(← frQ g (← `(tactic| first | rfl | decide +kernel | intro _))):tactic)
def SJ (F:bY K "left_behind" "left_behind" (top 11) f fd)(B:Bl mg)(KT:eX K) :bJ P w K mg base cA 1 f fd ["passages","flow"] (bO K Pg.gA):=j6 ["passages","flow","left","passage","number"] F λ_ _ _ _ _ _ nd vt hr=>by walk_at "d"
def aas (F:bY K "is_nearer" "is_nearer" (top 15) f fd)(B:Bl mg)(KT:eX K) :bJ P w K mg base cA 1 f fd ["length","count","known"] (bO K Pg.nQ):=j6 ["length","count","known"] F λ_ _ _ _ _ _ nd vt hr=>by walk_at "d"
def ajm (F:bY K "reach" "reach" (top 14) f fd)(B:Bl mg)(KT:eX K)(QG:cW P w K mg base 1 "is_nearer" ["length","count","known"] (bO K Pg.nQ)):bJ P w K mg base cA 2 f fd ["moves","left","start"] (bO K Pg.qY):=j6 ["moves","left","start","reached","waiting","queue","place","room","length","count","move","end","added"] F λ_ _ _ _ _ _ nd vt hr=>by walk_at "d"
def acE:cB ["left","way","pushed","move"] ["left","way"] (aN<|top 17):=(rfl,rfl,rfl,by decide +kernel,rfl,by decide +kernel,by decide +kernel)
def amD {P:Program}{w:World}{K:Frag}{mg:Str->Option Value}{base:Heap}{f:Addr}{fd:FuncData}(F:bY K "push" "push" (top 17) f fd)(B:Bl mg)(KT:eX K) :bJ P w K mg base cA 1 f fd ["left","way"] (yp K Pg.yw):=by have nd:=acE.nd;have vt:=(show(["left","way","pushed","move"]:List Str).all (λx=>ud (aN<|top 17) x && plain x)=true by decide +kernel);refine ak0 (lv:=0) (n:=2) (nN:=4) (k:=0) (g:=Pg.Zy) F acE rfl rfl λcX A outer s H E hr=>?_;exact(Al (sAs<|nD (Oj (eZ (aoa rfl) (gl (sc:=(aN<|top 17))<|by decide +kernel) B.min PyProof.Rows.boot_min<|pwC (nw<|aon<|Wh (te:=tV K RS _) (tc:=kE K _) (g:=Bw K _ _) (N':=["move","left"]) (cap:=[none,some 0]) ["left","way","pushed","move"] (aN<|top 17) rfl (by decide +kernel) rfl rfl (itL<|dF<|pV vt 1) (λ_ _ _ _ _=>(YX<|FW (i:=0) (show(["move","left"]:List Str).Nodup by decide +kernel) (by decide +kernel))) (λ_ _ _ _ _=>ifN) (λ_ _ _ _ _=>(rR (dN<|tL (by decide +kernel) 1)<|mw<|dN<|tL (by decide +kernel) 0))) pw0) aoh) (YX<|dM (i:=2) nd rfl<|lo (sc:=(aN<|top 17))<|by decide +kernel)) (Al (aow<|nF di rfl (itL<|dF<|pV vt 1) (YX<|dM (i:=3) nd rfl<|lo (sc:=(aN<|top 17))<|by decide +kernel)<|Al (Wv hSub (i:=0)<|Jm (pV vt 0) (mw<|dN<|pV vt 3) getL (dF<|pV vt 2) aip GF)<|Dt<|Wv YK (i:=0)<|Jm (pV vt 0) (sw<|FZ an3 hXor (mw<|dN<|pV vt 3)<|sw jd) getL (dF<|pV vt 2) aio GF)<|Dt<|Wu<|pV vt 2))
def agT (F:bY K "way_to" "way_to" (top 16) f fd)(B:Bl mg)(KT:eX K) :bJ P w K mg base cA 1 f fd ["reached","start","goal"] (bO K Pg.qK):=j6 ["reached","start","goal","way","room"] F λ_ _ _ _ _ _ nd vt hr=>by walk_at "d"
def KY:cB ["moves","left","start","goal","longest","steps","reached","length","pushed"] ["moves","left","start","goal","longest"] (aN<|top 13):=(rfl,rfl,rfl,by decide +kernel,rfl,by decide +kernel,by decide +kernel)
def abo {P:Program}{w:World}{K:Frag}{mg:Str->Option Value}{base:Heap}{f:Addr}{fd:FuncData}(F:bY K "push_all" "push_all" (top 13) f fd)(B:Bl mg)(KT:eX K)(Io:cW P w K mg base 2 "reach" ["moves","left","start"] (bO K Pg.qY))(aeC:cW P w K mg base 1 "push" ["left","way"] (yp K Pg.yw))(SM:cW P w K mg base 1 "way_to" ["reached","start","goal"] (bO K Pg.qK)):bJ P w K mg base cA 3 f fd ["moves","left","start","goal","longest"] (yp K Pg.mZ):=by have nd:=KY.nd;have vt:=(show(["moves","left","start","goal","longest","steps","reached","length","pushed"]:List Str).all (λx=>ud (aN<|top 13) x && plain x)=true by decide +kernel);refine ak0 (lv:=2) (n:=5) (nN:=9) (k:=1) (g:=Pg.Ei) F KY rfl rfl λcX A outer s H E hr=>?_;exact(Al (sOw (i:=5)<|dO nd rfl (lo (sc:=(aN<|top 13))<|by decide +kernel)<|YS oK)<|Dt<|sWh<|X7 di (cVal akK)<|Al (sAs<|nD (akO<|dG Io (hr.mono<|by decide) (gl (sc:=(aN<|top 13))<|by decide +kernel)<|pwC (mw<|dN<|pV vt 0)<|pwC (mw<|dN<|pV vt 1)<|pwC (mw<|dN<|pV vt 2) pw0)<|YX<|dM (i:=6) nd rfl<|lo (sc:=(aN<|top 13))<|by decide +kernel)<|Al (sIf (mD an5 hIs (sw<|rR (dN<|pV vt 6)<|mw<|dN<|pV vt 3)<|sw adP) (Dt<|Wu<|pV vt 5) aiA)<|Al (sAs<|nD (rR (sm<|rR (dN<|pV vt 6)<|mw<|dN<|pV vt 3)<|sw jd)<|YX<|dM (i:=7) nd rfl<|lo (sc:=(aN<|top 13))<|by decide +kernel)<|Al (sIf (PW.pt<|ait (mD akF aoe (mw<|dN<|pV vt 4)<|sw adP)<|adT<|mD oGt hGt (mw<|dN<|pV vt 7)<|mw<|dN<|pV vt 4) (Dt<|Wu<|pV vt 5) aiA)<|Al (akZ (j:=1)<|dO (i:=8) nd rfl (lo (sc:=(aN<|top 13))<|by decide +kernel)<|dG aeC (hr.mono<|by decide) (gl (sc:=(aN<|top 13))<|by decide +kernel)<|ioJ (pV vt 1)<|ioS (oM<|dG SM (hr.mono<|by decide) (gl (sc:=(aN<|top 13))<|by decide +kernel)<|iU (dF<|pV vt 6)<|iU (dF<|pV vt 2)<|iU (dF<|pV vt 3) oK) io0)<|Dt<|sIf (PW.pt<|ait (aof<|mw<|dN<|pV vt 5)<|adT<|mD (Bp hr.units) hEq (sw<|rR (sm<|rR (dN<|pV vt 5)<|sw<|adW<|sw jd)<|sw jd)<|mw<|dN<|pV vt 7) (Dt<|aot (i:=5)<|nD (dTup<|iU (dF<|pV vt 7)<|iU (FZ uf YK (sw<|rR (sm<|rR (dN<|pV vt 5)<|sw<|adW<|sw jd)<|sw jd)<|mw<|dN<|pV vt 8) oK)<|NQ (pV vt 5) (sw<|adW<|sw jd) GF)<|Dt<|aor (i:=5)<|cP<|Jt (pV vt 5)<|iU (dTup<|iU (dF<|pV vt 7)<|iU (dF<|pV vt 8) oK) oK)
def KZ:cB ["many","passages","moves","number","passage","a","b","length"] ["many","passages"] (aN<|top 12):=(rfl,rfl,rfl,by decide +kernel,rfl,by decide +kernel,by decide +kernel)
set_option tactic.hygienic true in
def abp {P:Program}{w:World}{K:Frag}{mg:Str->Option Value}{base:Heap}{f:Addr}{fd:FuncData}(F:bY K "moves_of" "moves_of" (top 12) f fd)(B:Bl mg)(KT:eX K):bJ P w K mg base cA 1 f fd ["many","passages"] (bO K iw):=by
 have nd:=KZ.nd;have vt:=(show(["many","passages","moves","number","passage","a","b","length"]:List Str).all (λx=>ud (aN<|top 12) x && plain x)=true by decide +kernel);refine F.ok KZ (λvs H Q E h=>?_)<|λcX A outer s H vs Q E hr h=>?_
 .let(G,ds,_,hx,b,d,e,_):=h;unfold iw at e;split at e
  .exact hx.length.symm
  .cases e
 .let(G,ds,hGH,hx,b,d,e,q):=h;unfold iw at e;split at e
  .rename_i m pds;split at e
   .rename_i ps eps;split at e
    .rename_i hc;let(m0,m1,pl,hr3):=hc;cases e;have epd:=UJ eps;subst epd;let(v,u,rfl,hv,pa,xs,rfl,hq,hl):=aR.two hx;have ev:v=.int m:=hv;subst ev;refine⟨_,(aK (yc (i:=2) nd rfl (lo (sc:=(aN<|top 12))<|by decide +kernel) (N':=["room"]) (cap:=[none]) ["many","passages","moves","number","passage","a","b","length"] (aN<|top 12) rfl (by decide +kernel) rfl rfl (TX (gl (sc:=(aN<|top 12))<|by decide +kernel) B.range<|ak (pV vt 0) aP) (λ_ _ _ _ _=>(FW (i:=0) (show(["room"]:List Str).Nodup by decide +kernel) (by decide +kernel))) (λ_ _ _ _ _=>Bo) (λ_ _ _ _ _=>(xQ aP))) (aK (nF di rfl (RG (gl (sc:=(aN<|top 12))<|by decide +kernel) B.enumerate<|ak (pV vt 1) aP) (Dh (n:=2) rfl<|jl (dM (i:=3) nd rfl<|lo (sc:=(aN<|top 12))<|by decide +kernel)<|jl (dM (i:=4) nd rfl<|lo (sc:=(aN<|top 12))<|by decide +kernel) yd)<|aK (dO (i:=5) nd rfl (lo (sc:=(aN<|top 12))<|by decide +kernel)<|bB ixD (pV vt 4) aF)<|aK (dO (i:=6) nd rfl (lo (sc:=(aN<|top 12))<|by decide +kernel)<|bB ixD (pV vt 4) aF)<|aK (dO (i:=7) nd rfl (lo (sc:=(aN<|top 12))<|by decide +kernel)<|bB ixD (pV vt 4) aF)<|aK (cP<|Jt (bB jG (pV vt 2)<|pV vt 5)<|ak (jM<|ak (dj adK aF<|pV vt 3)<|ak (pV vt 6)<|ak (pV vt 7) aP) aP)<|bf<|cP<|Jt (bB jG (pV vt 2)<|pV vt 6)<|ak (jM<|ak (dj uf (dj adK aF<|pV vt 3) aF)<|ak (pV vt 5)<|ak (adk an6<|pV vt 7) aP) aP)<|bf<|cU<|pV vt 2)),?_⟩;walk_at "e4";refine⟨m,rfl,by lk,by lk,?_⟩;refine lcR (n:=m.toNat) (bT ∅) (λi ys G'=>∃bs:List Addr,ys=bs.map V.ref/\bs.Nodup/\bs.length=i/\(∀b∈bs,H b=none/\G' b=some (.lst []))/\∀a o,G' a=some o->H a=some o\/a∈bs) ⟨[],rfl,lP,rfl,by simp,λ_ _ h=>.inl h⟩ ?_ ?_
     .rintro D i ys H' N hi hD Vn cZ wK ⟨bs,rfl,lN,hbl,Vo,apr⟩ hN;walk_at "e4";refine⟨.skip .nil,by decide,λp hp=>?_⟩;have hpD:p≠D:=(bF hD hp).symm;refine hN _ _ (by rw[aJ hpD.symm];exact hD) (Bs<|aH hp) ⟨bs++[p],by simp,?_,by simp[hbl],λb hb=>?_,λa o ha=>?_⟩
      .rw[fz];refine⟨lN,by simp,λa ha c hc=>?_⟩;have yX:c=p:=by simpa using hc
       subst yX;intro z;subst z;have:=(Vo a ha).2;rw[hide_ne hpD] at this;rw[hp] at this;cases this
      .rcases bc.mp hb with hb|hb
       .refine⟨(Vo b hb).1,Bs (aH hp) _ _ (Vo b hb).2⟩
       .have xV:b=p:=by simpa using hb
        subst xV;refine⟨?_,by rw[hide_ne hpD,au]⟩
        have:Same H H':=wK.trans qT
        exact this.free hp
      .by_cases hap:a=p
       .subst hap;exact .inr<|by simp
       .by_cases haD:a=D
        .subst haD;rw[Jw] at ha;cases ha
        .rw[hide_ne haD,aJ hap] at ha;rcases apr a o (by rw[hide_ne haD];exact ha) with z|z
         .exact .inl z
         .exact .inr<|dA _ z
     .rintro D ys H1 hD Vn cZ wK ⟨bs,rfl,lN,hbl,Vo,apr⟩;have avE:D∉bs:=λz=>by have:=(Vo D z).2;rw[Jw] at this;cases this
      have I0:MI K G H D bs (λ_=>[]) H1:=⟨G,wK.trans qT,Same.refl _,hGH.trans (wK.trans qT),λ_ _ e=>.inl e,hGH.free Vn,Vn,hD,avE,lN,λb hb=>⟨hGH.free (Vo b hb).1,(Vo b hb).1⟩,λu b hb=>⟨[],by
       have:=(Vo b (ah hb)).2;exact qT _ _ this,rfl⟩⟩
      walk_at "e4";have QH:aZ K H1 pa xs:=(wK.trans qT).seq<|hGH.seq hq;refine⟨pa,rfl,⟨xs,QH⟩,?_⟩;have xR:ps.length=xs.length:=by rw[<-hl.length,af]
      refine aob (xs:=xs) (λi aX H'=>MI K G H D bs (λu=>p8 0 (ps.take i) (u:Int)) H'/\∃v3 v4 v5 v6 v7,aX=[some<|.int m,some<|.ref pa,some<|.ref D,v3,v4,v5,v6,v7]) ⟨I0.congr λu _=>by simp[p8],none,none,none,none,none,rfl⟩ ?_ ?_ ?_
      .rintro i aX H' _ ⟨I,_⟩;let(F',h1,_):=I.ex;exact h1.seq<|hGH.seq hq
      .rintro i x aX H' p hxi ⟨I,v3,v4,v5,v6,v7,rfl⟩ hp;walk_at "e4";let(dd,hd,hxv):=hl.get hxi;rw[av] at hd;cases eq:ps[i]? with
       |none=>rw[eq] at hd;cases hd
       |some qq=>
        rw[eq] at hd;cases hd;let(qa,qb,qw,ql):=qq;let((a0,a1),b0,b1):=hr3 _<|ah eq;dsimp only at a0 a1 b0 b1;have hi:i<ps.length:=by
         by_cases z:i<ps.length
         .exact z
         .rw[bu ∅] at eq;cases eq
        have I1:MI K G H D bs (λu=>p8 0 (ps.take i) (u:Int)) (upd H' p<|.tup [.int (i:Int),x]):=by
         let(F',h1,h2,h3,h4,h5,h6,h7,h8,h9,BP,Ht):=I.ex;exact⟨F',h1.trans (aH hp),h2,h3.trans (aH hp),h4,h5,h6,aH hp _ _ h7,h8,h9,BP,λu b hb=>by
          let(ys,q1,q2):=Ht u b hb;exact⟨ys,aH hp _ _ q1,q2⟩⟩
        let(F',h1,h2,h3,h4,h5,h6,h7,h8,h9,BP,Ht):=I1.ex;have hxH:Has K (upd H' p<|.tup [.int (i:Int),x]) (pD (qa,qb,qw,ql)) x:=Has.same (h2.trans h3) hxv;refine⟨_,bV.of au,rfl,?_⟩;walk_at "e4";refine⟨_,qa,.inr hxH,rfl,_,qb,.inr hxH,rfl,_,ql,.inr hxH,rfl,?_⟩;have ea:bs[qa.toNat]? =some (bs[qa.toNat]'∅):=ag _;have eb:bs[qb.toNat]? =some (bs[qb.toNat]'∅):=ag _;generalize bs[qa.toNat]'∅=ba at ea;generalize bs[qb.toNat]'∅=bb at eb;have aA:dI (bs.map V.ref) qa=some (.ref ba):=by
         have:qa=((qa.toNat:Nat):Int):=by lk
         rw[this];exact iC (by rw[av,ea];rfl)
        have aB:dI (bs.map V.ref) qb=some (.ref bb):=by
         have:qb=((qb.toNat:Nat):Int):=by lk
         rw[this];exact iC (by rw[av,eb];rfl)
        let(zs,z1,_):=Ht _ _ ea;refine⟨_,_,aZ.of h7,aA,.inl ⟨rfl,_,aZ.of z1⟩,(BMul.ok ⟨by decide +kernel,by exact G8 ∅ ∅⟩),by decide,λp1 hp1=>?_⟩;let(ys,y1,y2,y3,I2):=I1.put (f':=λu=>p8 0 (ps.take i) (u:Int)++(if u=qa.toNat then [zH (2*i) qb ql] else [])) ea hp1 (m:=2*i) (e:=qb) (x:=ql) (by
         intro w;by_cases hw:w=qa.toNat<;>simp[hw])
        have tl:=M5 (qa.toNat:Int) (ps.take i) 0;have tl2:=M5 (qb.toNat:Int) (ps.take i) 0;rw[dt] at tl tl2;refine⟨ys,y2,bT ∅,?_⟩;let(F2,k1,k2,k3,k4,k5,k6,k7,k8,k9,k10,k11):=I2.ex;let(ws,w1,_):=k11 _ _ eb;refine⟨_,_,aZ.of k7,aB,.inl ⟨rfl,_,aZ.of w1⟩,(BMul.ok ⟨by decide +kernel,by exact G8 ∅ ∅⟩),by decide,λp2 hp2=>?_⟩;let(ys2,_,y22,y23,I3):=I2.put (f':=λu=>(p8 0 (ps.take i) (u:Int)++(if u=qa.toNat then [zH (2*i) qb ql] else []))++(if u=qb.toNat then [zH (2*i+1) qa (-ql)] else [])) eb hp2 (m:=2*i+1) (e:=qa) (x:=-ql) (by
         intro w;by_cases hw:w=qb.toNat<;>simp[hw])
        refine⟨ys2,y22,bT ?_,I3.congr λu hu=>?_,_,_,_,_,_,rfl⟩
        .rw[y23,aw]
         have:(if qb.toNat=qa.toNat then [zH (2*i) qb ql] else []).length<=1:=by split<;>simp
         lk
        .have et:ps.take (i+1)=ps.take i++[(qa,qb,qw,ql)]:=by rw[o0,eq];rfl
         have ea':(u=qa.toNat)↔(qa=(u:Int)):=by lk
         have eb':(u=qb.toNat)↔(qb=(u:Int)):=by lk
         have el:(List.take i ps).length=i:=by rw[dt];lk
         rw[et,UL,el,i8];simp only[ea',eb',dm]
      .rintro aX H' ⟨I,v3,v4,v5,v6,v7,rfl⟩;walk_at "e4";rw[c9 ∅] at I;let(F',g,hh):=I.fin;refine q _ F' H' g ?_;rw[hbl] at hh;exact hh
    .cases e
   .cases e
  .cases e
def abq (F:bY K "steps_of" "steps_of" (top 9) f fd)(B:Bl mg)(KT:eX K)(mK:cW P w K mg base 1 "left_behind" ["passages","flow"] (bO K Pg.gA))(zU:cW P w K mg base 3 "push_all" ["moves","left","start","goal","longest"] (yp K Pg.mZ))(rA:cW P w K mg base 1 "moves_of" ["many","passages"] (bO K VM.iw)):bJ P w K mg base cA 4 f fd ["many","passages","start","goal"] (bO K Pg.pK):=j6 ["many","passages","start","goal","left"] F λ_ _ _ _ _ _ nd vt hr=>by walk_at "d"
def aat (F:bY K "best_flow" "best_flow" (top 10) f fd)(B:Bl mg)(KT:eX K)(mK:cW P w K mg base 1 "left_behind" ["passages","flow"] (bO K Pg.gA))(zU:cW P w K mg base 3 "push_all" ["moves","left","start","goal","longest"] (yp K Pg.mZ))(rA:cW P w K mg base 1 "moves_of" ["many","passages"] (bO K VM.iw)):bJ P w K mg base cA 4 f fd ["many","passages","start","goal","turns"] (bO K Pg.gB):=j6 ["many","passages","start","goal","turns","left"] F λ_ _ _ _ _ _ nd vt hr=>by walk_at "d"
def aau (F:bY K "length_of" "length_of" (top 19) f fd)(B:Bl mg)(KT:eX K) :bJ P w K mg base cA 1 f fd ["passages","walk"] (bO K Pg.jV):=j6 ["passages","walk"] F λ_ _ _ _ _ _ nd vt hr=>by walk_at "d"
def V1 (F:bY K "passage_on" "passage_on" (top 22) f fd)(B:Bl mg)(KT:eX K) :bJ P w K mg base cA 1 f fd ["passages","room","left"] (bO K Pg.jB):=j6 ["passages","room","left","number","passage"] F λ_ _ _ _ _ _ nd vt hr=>by walk_at "d"
def V2 (F:bY K "walk_along" "walk_along" (top 21) f fd)(B:Bl mg)(KT:eX K)(K1:cW P w K mg base 1 "passage_on" ["passages","room","left"] (bO K Pg.jB)):bJ P w K mg base cA 2 f fd ["passages","start","goal","left"] (bO K Pg.iV):=j6 ["passages","start","goal","left","walk","room","number"] F λ_ _ _ _ _ _ nd vt hr=>by walk_at "d"
def abr (F:bY K "walks_of" "walks_of" (top 20) f fd)(B:Bl mg)(KT:eX K)(K3:cW P w K mg base 2 "walk_along" ["passages","start","goal","left"] (bO K Pg.iV)):bJ P w K mg base cA 3 f fd ["passages","start","goal","flow"] (bO K Pg.m9):=j6 ["passages","start","goal","flow","left","walks","walk","many","number"] F λ_ _ _ _ _ _ nd vt hr=>by walk_at "d"
def V3 (F:bY K "moments_of" "moments_of" (top 25) f fd)(B:Bl mg)(KT:eX K)(mK:cW P w K mg base 1 "left_behind" ["passages","flow"] (bO K Pg.gA))(Io:cW P w K mg base 2 "reach" ["moves","left","start"] (bO K Pg.qY))(rA:cW P w K mg base 1 "moves_of" ["many","passages"] (bO K VM.iw)):bJ P w K mg base cA 3 f fd ["many","passages","start","goal","turns","flow"] (bO K Pg.j5):=j6 ["many","passages","start","goal","turns","flow","late","with_late","left","reached"] F λ_ _ _ _ _ _ nd vt hr=>by walk_at "d"
def V4 (F:bY K "out_within" "out_within" (top 24) f fd)(B:Bl mg)(KT:eX K)(wW:cW P w K mg base 4 "best_flow" ["many","passages","start","goal","turns"] (bO K Pg.gB))(zV:cW P w K mg base 3 "walks_of" ["passages","start","goal","flow"] (bO K Pg.m9))(uQ:cW P w K mg base 3 "moments_of" ["many","passages","start","goal","turns","flow"] (bO K Pg.j5))(wX:cW P w K mg base 1 "length_of" ["passages","walk"] (bO K Pg.jV)):bJ P w K mg base cA 5 f fd ["many","passages","start","goal","turns"] (bO K Pg.iW):=j6 ["many","passages","start","goal","turns","flow","walks","people"] F λ_ _ _ _ _ _ nd vt hr=>by walk_at "d"
def abt (F:bY K "turns_by" "turns_by" (top 28) f fd)(B:Bl mg)(KT:eX K) :bJ P w K mg base cA 1 f fd ["steps","people"] (bO K Pg.sJ):=j6 ["steps","people","amount","cost","needed","length","many"] F λ_ _ _ _ _ _ nd vt hr=>by walk_at "d"
def abu (F:bY K "plan_for" "plan_for" (top 29) f fd)(B:Bl mg)(KT:eX K)(wX:cW P w K mg base 1 "length_of" ["passages","walk"] (bO K Pg.jV)):bJ P w K mg base cA 2 f fd ["passages","walks","turns","people"] (bO K Pg.sO):=j6 ["passages","walks","turns","people","plan","waiting","walk","number","moments","full"] F λ_ _ _ _ _ _ nd vt hr=>by walk_at "d"
def QJ (F:bY K "fewest_turns" "fewest_turns" (top 27) f fd)(B:Bl mg)(KT:eX K)(Vp:cW P w K mg base 4 "steps_of" ["many","passages","start","goal"] (bO K Pg.pK))(Vq:cW P w K mg base 1 "turns_by" ["steps","people"] (bO K Pg.sJ))(wW:cW P w K mg base 4 "best_flow" ["many","passages","start","goal","turns"] (bO K Pg.gB))(Vr:cW P w K mg base 2 "plan_for" ["passages","walks","turns","people"] (bO K Pg.sO))(zV:cW P w K mg base 3 "walks_of" ["passages","start","goal","flow"] (bO K Pg.m9))(uQ:cW P w K mg base 3 "moments_of" ["many","passages","start","goal","turns","flow"] (bO K Pg.j5)):bJ P w K mg base cA 5 f fd ["many","passages","start","goal","people"] (bO K Pg.gM):=j6 ["many","passages","start","goal","people","steps","turns","flow","plan"] F λ_ _ _ _ _ _ nd vt hr=>by walk_at "d"
def Ck:VS:=(dJ (gG (dU<|vB<|yg wG wG (vC<|.int 1) (dW zQ<|aC (vN 0) a0)<|vC<|.int 12)<|dU<|vB<|dW M8<|aC (lZ (ux<|vN 0) [none] (gN 0) jf<|yg sU sU (vC<|.str "a") (vN 0)<|vC<|.str "z") a0) Du cC)
def jY:g8:=jc 1 1 Ck
def QK (F:bY K "look_at_name" "look_at_name" (top 37) f fd)(B:Bl mg)(KT:eX K)(avD:mg "all"=none)(am2:mg "LONGEST_NAME"=some (.int 12 tkL)) :bJ P w K mg base cA 1 f fd ["name"] (bO K jY):=j6 ["name"] F λ_ _ _ _ _ _ nd vt hr=>by walk_at "d"
def Cm:VS:=(aD (dJ (vB<|v2 mQ (vN 1)<|dW fV<|aC (vN 0) a0) (cN<|v2 aM (vN 0)<|vN 1) cC)<|cN<|vC<|.int 0)
def cV:g8:=jc 2 2 Cm
def QL (F:bY K "_law_cell_at" "_law_cell_at" (top 39) f fd)(B:Bl mg)(KT:eX K) :bJ P w K mg base cA 1 f fd ["_law_script","_law_k"] (bO K cV):=j6 ["_law_script","_law_k"] F λ_ _ _ _ _ _ nd vt hr=>by walk_at "d"
def Ip:VS:=(aD (dJ (vB<|v2 gU (v2 fH (vN 0)<|vC<|.int 2)<|vC<|.int 0) (aD (bN (v2 j4 (dW Mj<|aC (vN 0) a0)<|vC<|.int 2)<|gN 2)<|aD (jA (wL<|aC (vN 1) a0) (gN 3)<|bN (v2 j4 (vN 2)<|v2 Aj (vC<|.int 10)<|vC<|.int 12)<|gN 2)<|fX 2) cC)<|aD (bN (v2 fH (v2 cu (vN 0)<|v2 rQ (vC<|.int 7919)<|vN 1)<|vC<|.int 2147483629)<|gN 2)<|aD (bN (v2 fH (v2 cu (v2 cu (v2 rQ (vN 2)<|vN 2)<|v2 rQ (vC<|.int 16807)<|vN 2)<|vN 1)<|vC<|.int 2147483629)<|gN 2)<|cN<|v2 fH (v2 rQ (vN 2)<|vN 2)<|vC<|.int 2147483587)
def bQ:g8:=jc 2 4 Ip
def V5 (F:bY K "_law_mixed" "_law_mixed" (top 40) f fd)(B:Bl mg)(KT:eX K) :bJ P w K mg base cA 1 f fd ["_law_cell","_law_k"] (bO K bQ):=j6 ["_law_cell","_law_k","_law_number","_law_time"] F λ_ _ _ _ _ _ nd vt hr=>by walk_at "d"
def aav:VS:=(cN<|Mg (p7 "int" (vN 0))<|Mh<|p7 "bool" (vN 0))
def fO:g8:=jc 1 1 aav
def V6 (F:bY K "_law_whole" "_law_whole" (top 41) f fd)(B:Bl mg)(KT:eX K) :bJ P w K mg base cA 1 f fd ["_law_found"] (bO K fO):=j6 ["_law_found"] F λ_ _ _ _ _ _ nd vt hr=>by walk_at "d"
def Ir:VS:=(aD (bN (vC<|.str "abcdefghijklmnopqrstuvwxyz")<|gN 3)<|aD (bN (bH bQ<|aC (vF 0)<|aC (vF 2) a0)<|gN 4)<|aD (bN (Av (vN 3) (oI<|v2 fH (vN 4)<|vC<|.int 26)<|oI<|v2 cu (v2 fH (vN 4)<|vC<|.int 26)<|v2 fH (v2 j4 (vN 4)<|vC<|.int 26)<|vC<|.int 12)<|gN 5)<|aD (bN (Av (vN 5) oN<|oI<|vC<|.int 11)<|gN 5)<|aD (bN (v2 fH (v2 j4 (vN 4)<|vC<|.int 312)<|v2 cu (dW zQ<|aC (vN 5) a0)<|vC<|.int 1)<|gN 6)<|rW<|lZ (wL<|aC (vN 1) a0) [none,some 5,some 3,some 6] (gN 0) jf<|v2 J1 (v2 J1 (Av (vN 1) oN<|oI<|vN 3)<|v2 aae (vN 2)<|vN 0)<|Av (vN 1) (oI<|vN 3) oN)
def j7:g8:=jc 3 7 Ir
def V7 (F:bY K "_law_words" "_law_words" (top 42) f fd)(B:Bl mg)(KT:eX K)(cO:cW P w K mg base 1 "_law_mixed" ["_law_cell","_law_k"] (bO K bQ)):bJ P w K mg base cA 2 f fd ["_law_cell","_law_many","_law_k"] (bO K j7):=j6 ["_law_cell","_law_many","_law_k","_law_letters","_law_number","_law_base","_law_at"] F λ_ _ _ _ _ _ nd vt hr=>by walk_at "d"
def Gg:VS:=(aD (bN (bH bQ<|aC (vF 0)<|aC (vC<|.int 2) a0)<|gN 1)<|aD (dJ (vB<|v2 gU (v2 fH (vN 1)<|vC<|.int 6)<|vC<|.int 0) (cN<|v2 cu (vC<|.int 1)<|v2 fH (vN 0)<|v2 Aj (vC<|.int 10)<|vC<|.int 58) cC)<|cN<|v2 cu (vC<|.int 1)<|v2 fH (v2 j4 (vN 1)<|vC<|.int 6)<|vC<|.int 5)
def lB:g8:=jc 1 2 Gg
def SN (F:bY K "_law_length" "_law_length" (top 43) f fd)(B:Bl mg)(KT:eX K)(cO:cW P w K mg base 1 "_law_mixed" ["_law_cell","_law_k"] (bO K bQ)):bJ P w K mg base cA 2 f fd ["_law_cell"] (bO K lB):=j6 ["_law_cell","_law_number"] F λ_ _ _ _ _ _ nd vt hr=>by walk_at "d"
def Iu:VS:=(aD (bN (bH bQ<|aC (vF 0)<|aC (vC<|.int 1) a0)<|gN 1)<|aD (dJ (vB<|v2 gU (v2 fH (vN 1)<|vC<|.int 4)<|vC<|.int 0) (cN<|v2 cu (vC<|.int 1)<|v2 fH (vN 0)<|v2 Aj (vC<|.int 10)<|vC<|.int 58) cC)<|cN<|v2 cu (vC<|.int 1)<|v2 fH (v2 j4 (vN 1)<|vC<|.int 4)<|vC<|.int 6)
def jD:g8:=jc 1 2 Iu
def V8 (F:bY K "_law_width" "_law_width" (top 44) f fd)(B:Bl mg)(KT:eX K)(cO:cW P w K mg base 1 "_law_mixed" ["_law_cell","_law_k"] (bO K bQ)):bJ P w K mg base cA 2 f fd ["_law_cell"] (bO K jD):=j6 ["_law_cell","_law_number"] F λ_ _ _ _ _ _ nd vt hr=>by walk_at "d"
def Iv:VS:=(aD (Mx 2<|lZ (bZ<|vF 1) [none] (gN 0) jf<|v2 aM (vN 0)<|vC<|.int 0)<|aD (jA (bZ<|vF 0) (gN 3)<|dJ (vB<|v2 (Ig true) (vN 3)<|vN 2) (fX 3) cC)<|cN<|vC .none)
def mL:g8:=jc 2 4 Iv
def V9 (F:bY K "_law_fresh" "_law_fresh" (top 45) f fd)(B:Bl mg)(KT:eX K) :bJ P w K mg base cA 1 f fd ["_law_words_here","_law_held"] (bO K mL):=j6 ["_law_words_here","_law_held","_law_names","_law_word"] F λ_ _ _ _ _ _ nd vt hr=>by walk_at "d"
def K4:VS:=(aD (bN (bH bQ<|aC (vF 0)<|aC (vC<|.int 0) a0)<|gN 4)<|aD (bN (v2 fH (vN 4)<|vC<|.int 9)<|gN 5)<|aD (dJ (gG (vB<|v2 gU (vN 1)<|fK a0)<|fP (vB<|v2 mQ (vN 5)<|vC<|.int 5)<|vB<|v2 mQ (dW fV<|aC (vN 1) a0)<|dW fV<|aC (vN 3) a0) (aD (bN (v2 fH (v2 j4 (vN 4)<|vC<|.int 9)<|dW fV<|aC (vN 2) a0)<|gN 6)<|aD (bN (v2 fH (v2 cu (v2 cu (vN 6)<|vC<|.int 1)<|v2 fH (v2 j4 (vN 4)<|vC<|.int 90)<|v2 jm (dW fV<|aC (vN 2) a0)<|vC<|.int 1)<|dW fV<|aC (vN 2) a0)<|gN 7)<|cN<|fJ<|aC (vC<|.str "lay")<|aC (bH mL<|aC (vF 3)<|aC (vF 1) a0)<|aC (v2 aM (vN 2)<|vN 6)<|aC (v2 aM (vN 2)<|vN 7)<|aC (bH jD<|aC (vF 0) a0)<|aC (bH lB<|aC (vF 0) a0) a0) cC)<|aD (bN (v2 aM (vN 1)<|v2 fH (v2 j4 (vN 4)<|vC<|.int 9)<|dW fV<|aC (vN 1) a0)<|gN 8)<|aD (dJ (vB<|v2 gU (vN 5)<|vC<|.int 5) (cN<|fJ<|aC (vC<|.str "shut")<|aC (v2 aM (vN 8)<|vC<|.int 0) a0) cC)<|aD (dJ (fP (vB<|v2 gU (vN 5)<|vC<|.int 6)<|vB<|v2 tM (v2 aM (vN 8)<|vC<|.int 3)<|vC<|.int 1) (cN<|fJ<|aC (vC<|.str "narrow")<|aC (v2 aM (vN 8)<|vC<|.int 0)<|aC (v2 cu (vC<|.int 1)<|v2 fH (v2 j4 (vN 4)<|vC<|.int 90)<|dW rT<|aC (v2 jm (v2 aM (vN 8)<|vC<|.int 3)<|vC<|.int 1)<|aC (vC<|.int 3) a0) a0) cC)<|cN<|fJ<|aC (vC<|.str "widen")<|aC (v2 aM (vN 8)<|vC<|.int 0)<|aC (bH jD<|aC (vF 0) a0) a0)
def nR:g8:=jc 4 9 K4
def aaw (F:bY K "_law_deed" "_law_deed" (top 46) f fd)(B:Bl mg)(KT:eX K)(cO:cW P w K mg base 1 "_law_mixed" ["_law_cell","_law_k"] (bO K bQ))(K5:cW P w K mg base 2 "_law_width" ["_law_cell"] (bO K jD))(K6:cW P w K mg base 1 "_law_fresh" ["_law_words_here","_law_held"] (bO K mL))(Iw:cW P w K mg base 2 "_law_length" ["_law_cell"] (bO K lB)):bJ P w K mg base cA 3 f fd ["_law_cell","_law_held","_law_rooms","_law_names"] (bO K nR):=j6 ["_law_cell","_law_held","_law_rooms","_law_names","_law_number","_law_way_here","_law_a","_law_b","_law_row"] F λ_ _ _ _ _ _ nd vt hr=>by walk_at "d"
def K7:VS:=(aD (bN (bH j7<|aC (bH cV<|aC (vF 0)<|aC (vC<|.int 0) a0)<|aC (v2 cu (vC<|.int 2)<|v2 fH (bH bQ<|aC (bH cV<|aC (vF 0)<|aC (vC<|.int 0) a0)<|aC (vC<|.int 2) a0)<|vC<|.int 4)<|aC (vC<|.int 0) a0)<|gN 1)<|aD (bN (bH j7<|aC (bH cV<|aC (vF 0)<|aC (vC<|.int 1) a0)<|aC (vC<|.int 8)<|aC (v2 fH (bH bQ<|aC (bH cV<|aC (vF 0)<|aC (vC<|.int 1) a0)<|aC (vC<|.int 2) a0)<|vC<|.int 2) a0)<|gN 2)<|aD (dJ (vB<|v2 gU (v2 fH (bH bQ<|aC (bH cV<|aC (vF 0)<|aC (vC<|.int 1) a0)<|aC (vC<|.int 3) a0)<|vC<|.int 4)<|vC<|.int 0) (bN (bH j7<|aC (bH cV<|aC (vF 0)<|aC (vC<|.int 0) a0)<|aC (vC<|.int 8)<|aC (vC<|.int 0) a0)<|gN 2) cC)<|cN<|fJ<|aC (vF 1)<|aC (vF 2) a0)
def qp:g8:=jc 1 3 K7
def aax (F:bY K "_law_sets" "_law_sets" (top 49) f fd)(B:Bl mg)(KT:eX K)(K8:cW P w K mg base 2 "_law_words" ["_law_cell","_law_many","_law_k"] (bO K j7))(jL:cW P w K mg base 1 "_law_cell_at" ["_law_script","_law_k"] (bO K cV))(cO:cW P w K mg base 1 "_law_mixed" ["_law_cell","_law_k"] (bO K bQ)):bJ P w K mg base cA 3 f fd ["_law_script"] (bO K qp):=j6 ["_law_script","_law_rooms","_law_names"] F λ_ _ _ _ _ _ nd vt hr=>by walk_at "d"
def Iz:VS:=(aD (bN (bH bQ<|aC (vF 0)<|aC (vC<|.int 4) a0)<|gN 1)<|aD (dJ (vB<|v2 gU (v2 fH (vN 1)<|vC<|.int 4)<|vC<|.int 0) (cN<|v2 fH (vN 0)<|v2 Aj (vC<|.int 10)<|vC<|.int 59) cC)<|cN<|v2 fH (v2 j4 (vN 1)<|vC<|.int 4)<|vC<|.int 25)
def oY:g8:=jc 1 2 Iz
def Wa (F:bY K "_law_turns" "_law_turns" (top 50) f fd)(B:Bl mg)(KT:eX K)(cO:cW P w K mg base 1 "_law_mixed" ["_law_cell","_law_k"] (bO K bQ)):bJ P w K mg base cA 2 f fd ["_law_cell"] (bO K oY):=j6 ["_law_cell","_law_number"] F λ_ _ _ _ _ _ nd vt hr=>by walk_at "d"
def QM:VS:=(aD (pX 4<|fK a0)<|aD (bN (vF 2)<|gN 5)<|aD (jA (bZ<|vF 1) (gN 6)<|aD (Mx 7<|lZ (bZ<|vF 0) [none,some 6] (gN 0) (vB<|v2 gU (v2 aM (vN 0)<|vC<|.int 0)<|vN 1)<|vF 0)<|aD (dJ (gG (vB<|v2 gU (vN 7)<|fK a0)<|gG (vB<|v2 inE (v2 aM (vN 7)<|vC<|.int 0)<|vN 4)<|vB<|v2 jO (v2 aM (v2 aM (vN 7)<|vC<|.int 0)<|vC<|.int 1)<|vN 5) (cN<|vC .none) cC)<|aD (gH 4<|aC (v2 aM (vN 7)<|vC<|.int 0) a0)<|bN (v2 aM (v2 aM (vN 7)<|vC<|.int 0)<|vC<|.int 2)<|gN 5)<|aD (dJ (vB<|v2 jO (vN 5)<|vN 3) (cN<|vC .none) cC)<|fX 4)
def pQ:g8:=jc 4 8 QM
def abv (F:bY K "_law_way" "_law_way" (top 51) f fd)(B:Bl mg)(KT:eX K) :bJ P w K mg base cA 1 f fd ["_law_held","_law_names","_law_start","_law_goal"] (bO K pQ):=j6 ["_law_held","_law_names","_law_start","_law_goal","_law_rows","_law_room","_law_name","_law_found"] F λ_ _ _ _ _ _ nd vt hr=>by walk_at "d"
def Cp:VS:=(aD (dJ (gG (dU<|vB<|p7 "list" (vN 0))<|vB<|v2 jO (lZ (bZ<|vF 0) [none] (gN 0) jf<|v2 aM (vN 0)<|vC<|.int 0)<|vN 1) (cN<|vC<|.bool false) cC)<|aD (jA (bZ<|vF 0) (gN 3)<|dJ (gG (dU<|vB<|p7 "tuple" (vN 3))<|gG (vB<|v2 jO (dW fV<|aC (vN 3) a0)<|vC<|.int 2)<|gG (dU<|vB<|bH fO<|aC (v2 aM (vN 3)<|vC<|.int 1) a0)<|dU<|vB<|yg wG wG (vC<|.int 0) (v2 aM (vN 3)<|vC<|.int 1)<|v2 cu (vN 2)<|vC<|.int 1) (cN<|vC<|.bool false) cC)<|cN<|Mg (v2 gU (v2 aM (v2 aM (vN 0)<|vC<|.int 0)<|vC<|.int 1)<|vC<|.int 0)<|v2 gU (v2 aM (v2 aM (vN 0)<|vC<|.int 1)<|vC<|.int 1)<|v2 cu (vN 2)<|vC<|.int 1)
def jo:g8:=jc 3 4 Cp
def QS (F:bY K "_law_moments" "_law_moments" (top 53) f fd)(B:Bl mg)(KT:eX K)(iK:cW P w K mg base 1 "_law_whole" ["_law_found"] (bO K fO)):bJ P w K mg base cA 2 f fd ["_law_moments_here","_law_seen","_law_turns_here"] (bO K jo):=j6 ["_law_moments_here","_law_seen","_law_turns_here","_law_one"] F λ_ _ _ _ _ _ nd vt hr=>by walk_at "d"
def Cq:VS:=(aD (pX 2<|fK<|aC (vF 1) a0)<|aD (bN (vC<|.int 0)<|gN 3)<|aD (GZ (vB<|v2 mQ (vN 3)<|dW fV<|aC (vN 2) a0)<|aD (jA (bZ<|vF 0) (gN 4)<|dJ (fP (vB<|v2 gU (v2 aM (vN 4)<|vC<|.int 1)<|v2 aM (vN 2)<|vN 3)<|vB<|v2 (Ig true) (v2 aM (vN 4)<|vC<|.int 2)<|vN 2) (gH 2<|aC (v2 aM (vN 4)<|vC<|.int 2) a0) cC)<|bN (v2 cu (vN 3)<|vC<|.int 1)<|gN 3)<|fX 2)
def jq:g8:=jc 2 5 Cq
def QT (F:bY K "_law_reached" "_law_reached" (top 54) f fd)(B:Bl mg)(KT:eX K) :bJ P w K mg base cA 1 f fd ["_law_held","_law_start"] (bO K jq):=j6 ["_law_held","_law_start","_law_found","_law_at","_law_row"] F λ_ _ _ _ _ _ nd vt hr=>by walk_at "d"
def Cr:VS:=(aD (bN (vC<|.int 0)<|gN 4)<|aD (pX 5<|fK a0)<|aD (jA (bZ<|vF 0) (gN 6)<|aD (dJ (gG (dU<|vB<|p7 "tuple" (vN 6))<|gG (vB<|v2 jO (dW fV<|aC (vN 6) a0)<|vC<|.int 4)<|vB<|v2 jO (lZ (qU<|GK (vN 6) (oI<|vC<|.int 1) oN) [none] (gN 0) (dU<|vB<|bH fO<|aC (vF 0) a0)<|vF 0)<|fK a0) (cN<|vC .none) cC)<|aD (bN (vF 6)<|gT 4<|gC (gN 7)<|gC (gN 8)<|gC (gN 9)<|gC (gN 10) g0)<|aD (bN (bH pQ<|aC (vF 1)<|aC (vF 7)<|aC (v2 aM (vN 2)<|vC<|.int 0)<|aC (v2 aM (vN 2)<|vC<|.int 1) a0)<|gN 11)<|aD (dJ (gG (vB<|v2 isD (vN 11)<|vC .none)<|gG (vB<|v2 mQ (vN 8)<|vC<|.int 1)<|gG (vB<|v2 mQ (vN 9)<|vC<|.int 0)<|vB<|v2 mQ (vN 10)<|vN 9) (cN<|vC .none) cC)<|aD (bN (vC<|.int 0)<|gN 12)<|aD (jA (bZ<|vF 11) (gN 13)<|aD (gH 5<|aC (fJ<|aC (v2 aM (vN 13)<|vC<|.int 0)<|aC (v2 cu (vN 9)<|vN 12)<|aC (v2 cu (vN 10)<|vN 12)<|aC (vF 8) a0) a0)<|bN (v2 cu (vN 12)<|v2 aM (vN 13)<|vC<|.int 4)<|gN 12)<|aD (dJ (vB<|v2 tM (v2 cu (vN 10)<|vN 12)<|vN 3) (cN<|vC .none) cC)<|bN (v2 cu (vN 4)<|v2 rQ (vN 8)<|v2 cu (v2 jm (vN 10)<|vN 9)<|vC<|.int 1)<|gN 4)<|aD (Ko 5<|jA (bZ<|vF 5) (gT 4<|gC (gN 14)<|gC (gN 9)<|gC (gN 10)<|gC (gN 8) g0)<|aD (Ko 5<|bN (dW Dm<|aC (lZ (bZ<|vF 5) [none,some 14,some 9] (gN 0) (fP (vB<|v2 gU (v2 aM (vN 0)<|vC<|.int 0)<|vN 1)<|fP (vB<|v2 wG (v2 aM (vN 0)<|vC<|.int 1)<|vN 2)<|vB<|v2 wG (vN 2)<|v2 aM (vN 0)<|vC<|.int 2)<|v2 aM (vN 0)<|vC<|.int 3) a0)<|gN 15)<|dJ (vB<|v2 tM (vN 15)<|v2 aM (lZ (bZ<|vF 1) [none,some 14] (gN 0) (vB<|v2 gU (v2 aM (vN 0)<|vC<|.int 0)<|vN 1)<|v2 aM (vN 0)<|vC<|.int 3)<|vC<|.int 0) (cN<|vC .none) cC)<|fX 4)
def jr:g8:=jc 4 16 Cr
def QV (F:bY K "_law_planned" "_law_planned" (top 55) f fd)(B:Bl mg)(KT:eX K)(Vs:cW P w K mg base 1 "_law_way" ["_law_held","_law_names","_law_start","_law_goal"] (bO K pQ))(iK:cW P w K mg base 1 "_law_whole" ["_law_found"] (bO K fO)):bJ P w K mg base cA 2 f fd ["_law_plan","_law_held","_law_seen","_law_turns_here"] (bO K jr):=j6 ["_law_plan","_law_held","_law_seen","_law_turns_here","_law_found","_law_legs","_law_one","_law_names","_law_number","_law_first","_law_last","_law_rows","_law_later","_law_row","_law_name","_law_now"] F λ_ _ _ _ _ _ nd vt hr=>by walk_at "d"
def Gh:VS:=(aD (bN (bH bQ<|aC (vF 0)<|aC (vC<|.int 3) a0)<|gN 1)<|aD (dJ (vB<|v2 gU (v2 fH (vN 1)<|vC<|.int 4)<|vC<|.int 0) (cN<|v2 cu (vC<|.int 1)<|v2 fH (vN 0)<|v2 jm (v2 Aj (vC<|.int 10)<|vC<|.int 59)<|vC<|.int 1) cC)<|cN<|v2 cu (vC<|.int 1)<|v2 fH (v2 j4 (vN 1)<|vC<|.int 4)<|vC<|.int 40)
def nJ:g8:=jc 1 2 Gh
def SQ (F:bY K "_law_people" "_law_people" (top 58) f fd)(B:Bl mg)(KT:eX K)(cO:cW P w K mg base 1 "_law_mixed" ["_law_cell","_law_k"] (bO K bQ)):bJ P w K mg base cA 2 f fd ["_law_cell"] (bO K nJ):=j6 ["_law_cell","_law_number"] F λ_ _ _ _ _ _ nd vt hr=>by walk_at "d"
end qm
namespace qm
open PyProof.Rows L2 VM
def QW:iu X (.builtin "len") (λxs H Q=>∃a aO,xs=[.ref a]/\H a=some (.dK aO)/\Q (.int aO.length) H):=by intro aj s σ H xs us Q I r h;let(a,aO,rfl,ha,q):=h;let(u,rfl,rx):=vals1 r;cases rx;exact arq I (.inl ha) λt s' I'=>⟨.int _,H,I',⟨t,rfl⟩,q⟩
abbrev Row:=Str×Str×Str×Int×Int
noncomputable def gQ (r:Row):List V:=[.str r.1,.str r.2.1,.str r.2.2.1,.int r.2.2.2.1,.int r.2.2.2.2]
noncomputable def seenOf (nums:List (Str×Int)):List Str:=nums.map (·.1)
def QX {l:List α}(h:Paired R l r):∀{i:Nat}{a:α},l[i]? =some a->∃b,r[i]? =some b/\R a b:=by
 induction h with
 |nil=>intro i a e;cases e
 |cons h _ ih=>
  intro i a e;cases i with
  |zero=>cases e;exact(_,rfl,h)
  |succ i=>exact ih e
theorem K9:∀{l:List α}{r:List β} {a:α} {b:β},Paired R l r->R a b->Paired R (l++[a]) (r++[b])
 |_,_,_,_,.nil,h=>.cons h .nil
 |_,_,_,_,.cons x r,h=>.cons x<|K9 r h
section
variable {K:Frag}
inductive Vt (C:Addr)(vs:List V)(H:Hp)(Q:VK):Prop
 |mk:∀p dx nn ll nums ls nm q ch,vs=[.ref p,.str nm,.int ch]->bx H C p dx nn ll nums ls->gq nm ls=some q->1<=ch->ch<q.2.2.1->ls.length<100->(∀H',bx H' C p dx nn ll nums (lV nm (q.1,q.2.1,q.2.2.1+ -ch,q.2.2.2) ls)->fB nn ll H H'->Q .non H')->Vt C vs H Q
def yL (C:Addr):Sp:=λvs H Q _=>Vt C vs H Q
def Vu:cB ["self","name","less"] ["self","name","less"] (aN<|fY 4):=fs
def agW (F:bY K "narrow" "NamedHall.narrow" (fY 4) f fd)(c:Cl K C)(F5:bJ P w K mg base cA 1 f5 fd5 ["self","name"] (Il C))(m5:Meth K C "look_for" f5)(b5:Binds K fd5 ["self","name"] [])
  (F6:bJ P w K mg base cA 1 f6 fd6 ["self","name","change"] (aeB C))(m6:Meth K C "change_width" f6)(b6:Binds K fd6 ["self","name","change"] []):
  bJ P w K mg base cA 2 f fd ["self","name","less"] (yL C):=by
 have vt:=Vu.vt;refine bY.ok F Vu (λvs H Q E h=>by let(_,_,_,_,_,_,_,_,_,rfl,_):=h;rfl) λcX A outer s H vs Q E hr fQ=>?_;let(p,dx,nn,ll,nums,ls,nm,q,ch,rfl,hh,hg,h1,h2,hn,hq):=fQ;refine(_,aK (cP (cL (pV vt 0) c.cl m5 F5 hr b5 .nil dB (ak (pV vt 1) aP)))
  (aK (fW (PW.pt (uE (lY oLt (pV vt 2) aF) (uX (lY oLt (dj Dg (bB dR (xG (pF hr) (gO (pV vt 0) rfl) (pV vt 1) (λ_ _=>rfl)) aF) (pV vt 2)) aF)))) (bf oF) cT)
  (bf (cP (cL (pV vt 0) c.cl m6 F6 hr b6 .nil dB (ak (pV vt 1) (ak (adk afo (pV vt 2)) aP)))))),?_)
 let(aO,hk,hl):=hh.laid;have g:=Cg nm hl;rw[hg] at g;let(t,gv,gt):=g;dsimp only[jP];unfold mV gk gF bR c7;refine aq rfl (p,dx,_,rfl,hh.ins,rfl,aq rfl (p,dx,nn,ll,nums,ls,nm,q,rfl,hh,hg,?_));k_ne;unfold jj TJ oH;rw[op1];refine aq rfl ?_;show(if decide (ch<1)=true then _ else _);rw[ap (by simp;lk)];rw[op1];refine alq (x:=q.2.2.1) (λR r=>?_) rfl ?_
 .unfold jt Xl;exact gP rfl hh.ins c.cl c.n2 rfl<|aq rfl (ll,.ref t,rfl,by rw[<-gv];exact nY.k (k:=.inr nm) hk,(_,_,bV.of gt,rfl,r))
 show(if decide (q.2.2.1 - ch<1)=true then _ else _);rw[ap (by simp;lk)];unfold iH;k_ne;refine aq rfl (p,dx,_,rfl,hh.ins,rfl,aq rfl ?_);refine aq rfl (ch,rfl,p,dx,nn,ll,nums,ls,nm,q,-ch,rfl,hh,hg,hn,λH' h1 h2=>?_);exact hq H' h1 h2
inductive aay (C:Addr)(vs:List V)(H:Hp)(Q:VK):Prop
 |mk:∀p dx nn ll nums ls,vs=[.ref p]->bx H C p dx nn ll nums ls->(∀z,H z=none->Q (.ref z) (upd H z<|.lst<|(seenOf nums).map V.str))->aay C vs H Q
def SX (C:Addr):Sp:=λvs H Q _=>aay C vs H Q
def aaz:cB ["self"] ["self"] (aN<|fY 7):=fs
def aaA (F:bY K "rooms" "NamedHall.rooms" (fY 7) f fd)(B:Bl mg)(c:Cl K C):bJ P w K mg base cA 1 f fd ["self"] (SX C):=by
 have vt:=aaz.vt;refine bY.ok F aaz (λvs H Q E h=>by let(_,_,_,_,_,_,rfl,_):=h;rfl) λcX A outer s H vs Q E hr fQ=>?_;let(p,dx,nn,ll,nums,ls,rfl,hh,hq):=fQ;refine(_,bf<|cU<|lD (agF rfl) gx B.list cK<|ak (gO (pV vt 0) rfl) aP,?_);unfold mW rK bR c7;refine gP rfl hh.ins c.cl c.n1 rfl (nn,_,rfl,hh.num,λz hz=>?_);have e:(nums.map kY).map (λkv=>kV kv.1)=(seenOf nums).map V.str:=by unfold seenOf;rw[cm,cm];rfl
 rw[e];exact hq z hz
def aaB (e:σ[i]? =some (some<|.ref t))(h:H t=some (.lst xs))(hj:∀R:VK,R (.int j) H->tj σ H R)(a:dI xs j=some v)(q:Q v H):jt (zm K) (vR i) tj σ H Q:=
 aq e (hj _ (xs,v,aZ.of h,a,q))
end
def ajn:Stmt->Scope
 |.Assign _ (.ListComp _ _ sc _) _=>sc
 |_=>aN<|.Pass (0,0,0,0)
def eY (nm:Str):Prop:=jY [.str nm]=some (false,.none)/\(PyData.str nm).canLay0=true
def oZ (nums:List (Str×Int))(rs:List Str):List (Str×Int):=rs.foldl (λn r=>lV r (n.length:Int) n) nums
def newOf (nums:List (Str×Int))(rs:List Str):List Str:=rs.filter λr=>(gq r nums).isNone
def ajo (nm:Str)(v:α)(l:List (Str×α)):(lV nm v l).length<=l.length+1:=by
 unfold lV;split
 .rw[af];lk
 .rw[aw];simp
def ajp (rs:List Str):∀nums,(oZ nums rs).length<=nums.length+rs.length:=by
 induction rs with
 |nil=>intro nums;exact ax _
 |cons r rs ih=>intro nums;have h1:=ih<|lV r (nums.length) nums;have h2:=ajo r (nums.length:Int) nums;show(oZ (lV r (nums.length:Int) nums) rs).length<=_;grind
def lcF {K:Frag}(keep:V->Bool)(hq:bV K H1 a xs)(hz:xs.length<sizeLine)
  (hc:∀x∈xs,∀D ys (R:Bool->Hp->Prop),H1 D=none->R (keep x) (upd H1 D<|.lst ys)->tc ((d8 cap σ).set 0<|some x) (upd H1 D<|.lst ys) R)
  (hk:∀x,iR (d8 cap σ) ((d8 cap σ).set 0<|some x))(he:∀(x:V) (H:Hp) (R:VK),R x H->te ((d8 cap σ).set 0<|some x) H R)
  (hQ:∀D,H1 D=none->Q (.ref D) (upd H1 D<|.lst<|xs.filter keep)):RK (TV K a) cap (cH 0) tc te σ H1 Q:=by
 intro D hD;refine⟨λi m H=>m=xs.length - i/\i<=xs.length/\H=upd H1 D (.lst<|(xs.take i).filter keep),⟨_,rfl,dE _,rfl⟩,?_⟩;rintro i m H ⟨rfl,hi,rfl⟩;have QH:bV K (upd H1 D<|.lst<|(xs.take i).filter keep) a xs:=(aH hD).vW hq;by_cases dZ:i<xs.length
 .refine .inr ⟨⟨xs,xs[i],QH,by simp[dZ]⟩,λx H' y=>?_⟩;let(e,y):=y;subst e;have ex:=y xs QH;have etk:xs.take (i+1)=xs.take i++[x]:=by rw[kq,ex];rfl
  refine⟨hk x,hc x (ah ex) D _ _ hD ?_⟩;by_cases hx:keep x=true
  .rw[ar hx];refine he x _ _ ⟨_,au,?_,xs.length - (i+1),by lk,rfl,dZ,?_⟩
   .have:=ic keep<|xs.take i;rw[dt] at this;lk
   .rw[Rt,etk,kF];simp[hx]
  .rw[ap hx];refine⟨xs.length - (i+1),by lk,rfl,dZ,?_⟩;rw[etk,kF];simp[hx]
 .have e:i=xs.length:=by lk
  subst e;refine .inl ⟨⟨xs,QH,ax _⟩,?_⟩;rw[c9<|ax _];exact hQ D hD
section
variable {K:Frag}
def Cu {nm:Str}(e:σ[i]? =some (some<|.str nm))(h:eY nm)(q:∀v H',Same H H'->Q v H'):iM (bO K jY) [] E (bR (vR i) c7) σ H Q:=
 aq e ⟨H,[.str nm],Same.refl _,⟨.str nm,[],rfl,⟨rfl,h.2⟩,rfl⟩,false,.none,h.1,λv F' H' g _=>q v H' g.hh⟩
inductive agX (C:Addr)(vs:List V)(H:Hp)(Q:VK):Prop
 |mk:∀p dx nn ll nums ls nm a b wd len ia ib,vs=[.ref p,.str nm,.str a,.str b,.int wd,.int len]->bx H C p dx nn ll nums ls->eY nm->eY a->eY b->gq nm ls=none->a≠b->1<=wd->1<=len->ls.length<50->nums.length<30->gq a (oZ nums<|newOf nums [a,b])=some ia->gq b (oZ nums<|newOf nums [a,b])=some ib->(∀H',bx H' C p dx nn ll (oZ nums<|newOf nums [a,b]) (lV nm (ia,ib,wd,len) ls)->fB nn ll H H'->Q .non H')->agX C vs H Q
def QZ (C:Addr):Sp:=λvs H Q _=>agX C vs H Q
def aaC:cB ["self","name","a","b","width","length","added","room"] ["self","name","a","b","width","length"] (aN<|fY 1):=fs
def apu (F:bY K "lay" "NamedHall.lay" (fY 1) f fd)(B:Bl mg)(c:Cl K C)(Cl0:cW P w K mg base 1 "look_at_name" ["name"] (bO K jY))(g60:mg "MOST_PASSAGES"=some (.int 60 t60))(g40:mg "MOST_ROOMS"=some (.int 40 t40)):
  bJ P w K mg base cA 2 f fd ["self","name","a","b","width","length"] (QZ C):=by
 have nd:=aaC.nd;have vt:=aaC.vt;refine bY.ok F aaC (λvs H Q E h=>by let(_,_,_,_,_,_,_,_,_,_,_,_,_,rfl,_):=h;rfl) λcX A outer s H vs Q E hr fQ=>?_;let(p,dx,nn,ll,nums,ls,nm,a,b,wd,len,ia,ib,rfl,hh,n1,n2,n3,hg,vp,hw,zO,hn1,Ke,ga,gb,hq):=fQ;have vc:=(show(["room","self"]:List Str).all (λx=>LR (ajn ((gY (fY 1)).getD 5 (.Pass ⟨0,0,0,0⟩))) x && plain x)=true by decide +kernel);refine⟨_,aK (cP (dG Cl0 hr gx (ak (pV vt 1) aP)))
  (aK (cP (dG Cl0 hr gx (ak (pV vt 2) aP)))
  (aK (cP (dG Cl0 hr gx (ak (pV vt 3) aP)))
  (aK (fW (NK (aoK (pF hr) (pV vt 1) (gO (pV vt 0) rfl))) (bf oF) cT)
  (aK (fW (PW.pt (uE (lY qt (pV vt 2) (pV vt 3)) (uE (lY oLt (pV vt 4) aF) (uX (lY oLt (pV vt 5) aF))))) (bf oF) cT)
  (aK (yc (tc:=tB (R6 (vR 0) (adu K (vR 1) "numbers"))) (i:=6) nd rfl lx (cap:=[none,some 0]) ["self","name","a","b","width","length","added","room"] (aN (fY 1)) rfl (by decide +kernel) rfl rfl
   (Yc (jM (ak (pV vt 2) (ak (pV vt 3) aP)))) (λ_ _ _ _ _=>FW (i:=0) (by decide +kernel) (by decide +kernel)) (λ_ _ _ _ _=>abN (NK (Ux (pF hr) (tL vc 0) (gO (tL vc 1) (by rfl))))) (λ_ _ _ _ _=>tL vc 0))
  (aK (fW (PW.pt (uE (lY oGt (dj uf (eZ QW gx B.len eJ (ak (gO (pV vt 0) rfl) aP)) aF) (pA (v:=.int 60) gx g60 ⟨_,rfl⟩))
   (uX (lY oGt (dj uf (eZ QW gx B.len eJ (ak (gO (pV vt 0) rfl) aP)) (eZ YD gx B.len eJ (ak (pV vt 6) aP))) (pA (v:=.int 40) gx g40 ⟨_,rfl⟩))))) (bf oF) cT)
  (aK (nF di rfl (mC (pV vt 6)) (dM (i:=7) nd rfl lx) (bf (JT (pF hr) (gO (pV vt 0) rfl) (pV vt 7) (eZ QW gx B.len eJ (ak (gO (pV vt 0) rfl) aP)) rfl)))
  (bf (JT (pF hr) (gO (pV vt 0) rfl) (pV vt 1) (jM (ak (xG (pF hr) (gO (pV vt 0) rfl) (pV vt 2) (λ_ _=>rfl)) (ak (xG (pF hr) (gO (pV vt 0) rfl) (pV vt 3) (λ_ _=>rfl)) (ak (pV vt 4) (ak (pV vt 5) aP))))) rfl))))))))),?_⟩
 dsimp only[jP];unfold mV gk;refine Cu rfl n1 λ_ H1 s1=>?_;try k_ne
 refine Cu rfl n2 λ_ H2 s2=>?_;refine Cu rfl n3 λ_ H3 s3=>?_;have apv:=(s1.trans s2).trans s3;have Gi:=hh.grow apv;let(aO,hk,hl):=Gi.laid;have g:=Cg nm hl;rw[hg] at g;have hkl:=hl.length;unfold jj tB aoJ;refine aq rfl<|gP rfl Gi.ins c.cl c.n2 rfl ⟨ll,_,rfl,nY.k (k:=.inr nm) hk,_,rfl,?_⟩;rw[g];show(if(none:Option V).isSome=true then _ else _);rw[ap<|by simp];unfold iH TJ oH;try k_ne
 refine aq rfl<|aq rfl ⟨rfl,?_⟩;show(if decide (V.str a=V.str b)=true then _ else _);rw[ap<|by simp[vp]];rw[qm.op1];refine aq (v:=.int wd) rfl ?_;show(if decide (wd<1)=true then _ else _);rw[ap (by simp;lk)];rw[qm.op1];refine aq (v:=.int len) rfl ?_;show(if decide (len<1)=true then _ else _);rw[ap (by simp;lk)];unfold fG zf ahV vQ bR;try k_ne
 refine aq (v:=.str a) rfl (aq (v:=.str b) rfl ⟨by show 2<=sizeLine;decide,λt ht=>⟨t,rfl,⟨_,bV.of au⟩,?_⟩⟩);have s4:=aH (o:=.tup [.str a,.str b]) ht;have hh4:=Gi.grow s4;refine lcF (λx=>match x with|.str r=>(gq r nums).isNone|_=>false) (bV.of au) (by show 2<sizeLine;decide) ?_ (λx=>iR.set iR.refl rfl) (λx Hx R r=>aq rfl r) ?_
 .intro x hx D ys R hD r;have sD:=aH (o:=.lst ys) hD;obtain⟨rm,rfl⟩:∃rm,x=.str rm:=by
   rcases aI.mp hx with rfl|hx
   .exact⟨_,rfl⟩
   .rw[aE.mp hx];exact⟨_,rfl⟩
  refine aq (v:=.str rm) rfl<|gP (p:=p) rfl ((hh4.grow sD).ins) c.cl c.n1 rfl ⟨nn,_,rfl,nY.k (k:=.inr rm)<|(hh4.grow sD).num,_,rfl,?_⟩;rw[Ce];have e:(!(Option.map V.int<|gq rm nums).isSome)=(gq rm nums).isNone:=by cases gq rm nums<;>rfl
  rw[e];exact r
 intro D hD;have eN:List.filter (λx=>match x with|.str r=>(gq r nums).isNone|_=>false) [V.str a,V.str b]=(newOf nums [a,b]).map V.str:=by unfold newOf;rw[show [V.str a,V.str b]=[a,b].map V.str from rfl,nk];rfl
 rw[eN];have s5:=aH (o:=.lst<|(newOf nums [a,b]).map V.str) hD;have Q5:=hh4.grow s5;have hk5:=s5 _ _<|s4 _ _ hk;have hD5:upd (upd H3 t<|.tup [.str a,.str b]) D (.lst<|(newOf nums [a,b]).map V.str) D=some (.lst<|(newOf nums [a,b]).map V.str):=au;have hl5:Paired (yK<|upd (upd H3 t<|.tup [.str a,.str b]) D<|.lst<|(newOf nums [a,b]).map V.str) aO ls:=hl.mono λ_ _ z=>z.same λu xs e=>s5 _ _<|s4 _ _ e;have s35:=s4.trans s5;generalize upd (upd H3 t<|.tup [.str a,.str b]) D (.lst<|(newOf nums [a,b]).map V.str)=H5 at Q5 hk5 hD5 hl5 s35 ⊢;have nl:(newOf nums [a,b]).length<=2:=ic _ _;generalize hN:newOf nums [a,b]=nw at*
 dsimp only[cH];rw[qm.op1,qm.op1];unfold rK;refine gP (p:=p) rfl Q5.ins c.cl c.n2 rfl ⟨ll,aO,rfl,hk5,?_⟩;show(if decide ((60:Int)<(aO.length:Int)+1)=true then _ else _);rw[ap (by simp;lk)];rw[qm.op1];unfold jt;refine gP (p:=p) rfl Q5.ins c.cl c.n1 rfl ⟨nn,_,rfl,Q5.num,aq (v:=.ref D) rfl ⟨nw.map V.str,.inl<|aZ.of hD5,?_⟩⟩;show(if decide ((40:Int)<((nums.map kY).length:Int)+((nw.map V.str).length:Int))=true then _ else _);rw[ap (by rw[af,af];simp;lk)];try k_ne
 rw[nO];unfold uF;refine aq (v:=.ref D) rfl ⟨D,rfl,⟨_,aZ.of hD5⟩,?_⟩;refine forL (xs:=nw.map V.str) (λi aX H'=>(∃y,aX=[some<|.ref p,some<|.str nm,some<|.str a,some<|.str b,some<|.int wd,some<|.int len,some<|.ref D,y])/\bx H' C p dx nn ll (oZ nums<|nw.take i) ls/\H' D=some (.lst<|nw.map V.str)/\fB nn ll H5 H') ⟨⟨_,rfl⟩,Q5,hD5,fB.same<|Same.refl _⟩ (λ_ _ _ _ h=>aZ.of h.2.2.1) ?_ ?_
 .rintro i x aX H' hx ⟨⟨y,rfl⟩,i1,i2,i3⟩;rw[av] at hx;let(rm,er,rfl):=cc.mp hx;unfold cH Qg;show adu K (vR 0) "numbers" [some<|.ref p,some<|.str nm,some<|.str a,some<|.str b,some<|.int wd,some<|.int len,some<|.ref D,some<|.str rm] H' _;refine gP (p:=p) rfl i1.ins c.cl c.n1 rfl ⟨nn,_,rfl,i1.num,gP (p:=p) rfl i1.ins c.cl c.n1 rfl<|aq (v:=.str rm) rfl ⟨nn,_,rfl,Hl.k (k:=.inr rm) i1.num<|bT ?_,?_⟩⟩
  .have:=ajp (nw.take i) nums
   have:(nw.take i).length<=nw.length:=by rw[dt];lk
   rw[af];lk
  rw[af,acz];have e:lV rm ((oZ nums<|nw.take i).length:Int) (oZ nums<|nw.take i)=oZ nums (nw.take<|i+1):=by rw[kq,er];unfold oZ;rw[o4];rfl
  rw[e];refine⟨⟨_,rfl⟩,i1.avC,?_,i3.trans fB.num⟩;rw[aJ λz=>by have:=i1.num;rw[<-z,i2] at this;cases this];exact i2
 .rintro aX H' ⟨⟨y,rfl⟩,i1,i2,i3⟩;rw[af,c9<|ax _] at i1;let(kv2,hk2,qd):=i1.laid;have azf:=qd.length;k_ne;unfold Qg Xl;refine gP (p:=p) rfl i1.ins c.cl c.n1 rfl (aq (v:=.str a) rfl ⟨nn,.int ia,rfl,?_,?_⟩)
  .have:=nY.k (k:=.inr a) i1.num;rw[Ce,ga] at this;exact this
  refine gP (p:=p) rfl i1.ins c.cl c.n1 rfl<|aq (v:=.str b) rfl ⟨nn,.int ib,rfl,?_,?_⟩
  .have:=nY.k (k:=.inr b) i1.num;rw[Ce,gb] at this;exact this
  refine aq (v:=.int wd) rfl (aq (v:=.int len) rfl ⟨by show 4<=sizeLine;decide,λt' GX=>?_⟩);have s6:=aH (o:=.tup [.int ia,.int ib,.int wd,.int len]) GX;have hh6:=i1.grow s6;have hk6:=s6 _ _ hk2;refine gP (p:=p) rfl hh6.ins c.cl c.n2 rfl (aq (v:=.str nm) rfl ⟨ll,_,rfl,Hl.k (k:=.inr nm) hk6<|bT ∅,?_⟩);refine hq _ (hh6.put hk6<|agQ (q:=(ia,ib,wd,len)) au<|qd.mono λ_ _ z=>z.same λu xs e=>s6 _ _ e) ?_;exact((((fB.same apv).trans<|fB.same s35).trans i3).trans<|fB.same s6).trans<|fB.put hk6
end
section
variable {K:Frag}
inductive acH (C:Addr)(vs:List V)(H:Hp)(Q:VK):Prop
 |mk:∀x dx a b,vs=[.ref x,.str a,.str b]->H x=some (.ins C dx [])->eY a->eY b->a≠b->(∀H' nn ll,bx H' C x dx nn ll [(a,0),(b,1)] []->(∀c o,c≠x->H c=some o->H' c=some o)->H nn=none->H ll=none->Q .non H')->acH C vs H Q
def Q6 (C:Addr):Sp:=λvs H Q _=>acH C vs H Q
def acI:cB ["self","start","goal"] ["self","start","goal"] (aN<|fY 0):=fs
def amE (F:bY K "__init__" "NamedHall.__init__" (fY 0) f fd)(c:Cl K C)(Cl0:cW P w K mg base 1 "look_at_name" ["name"] (bO K jY))(g0:mg "START"=some (.int 0 t0))(g1:mg "GOAL"=some (.int 1 t1)):
  bJ P w K mg base cA 2 f fd ["self","start","goal"] (Q6 C):=by
 have vt:=acI.vt;refine bY.ok F acI (λvs H Q E h=>by let(_,_,_,_,rfl,_):=h;rfl) λcX A outer s H vs Q E hr fQ=>?_;let(x,dx,a,b,rfl,hx,n1,n2,vp,hq):=fQ;refine⟨_,aK (cP (dG Cl0 hr gx (ak (pV vt 1) aP)))
  (aK (cP (dG Cl0 hr gx (ak (pV vt 2) aP)))
  (aK (fW (lY qt (pV vt 1) (pV vt 2)) (bf oF) cT)
  (aK (afu (pV vt 0) (amj (Ze (pV vt 1) (pA (v:=.int 0) gx g0 ⟨_,rfl⟩) (Ze (pV vt 2) (pA (v:=.int 1) gx g1 ⟨_,rfl⟩) ami)) rfl rfl (by simp) ⋯) rfl)
  (bf (afu (pV vt 0) Zc rfl))))),?_⟩
 dsimp only[jP];unfold mV gk;refine Cu rfl n1 λ_ H1 s1=>?_;try k_ne
 refine Cu rfl n2 λ_ H2 s2=>?_;have Gj:=s1.trans s2;have Um:=Gj _ _ hx;unfold jj oH;refine aq rfl<|aq rfl ⟨rfl,?_⟩;show(if decide (V.str a=V.str b)=true then _ else _);rw[ap<|by simp[vp]];intro d hd;have La:=bF Um hd;unfold BJ BJ BJ tC;refine aq rfl (aq rfl ⟨au,[(.inr a,.int 0),(.inr b,.int 1)],rfl,by simp,?_⟩);rw[Rt];have eM:yr [] [((Sum.inr a),V.int 0),(.inr b,.int 1)]=([(a,0),(b,1)]).map kY:=by
  have:¬(Sum.inr a:Key)=Sum.inr b:=λz=>vp<|iL z
  unfold yr;rw[iP,iP,List.foldl_nil];unfold putK;simp[this,kY]
 rw[eM];refine aq rfl ⟨x,C,dx,[],rfl,by rw[aJ La];exact Um,c.cl,c.n1,by decide,?_⟩;intro e he;have hxe:x≠e:=λz=>by subst z;rw[au] at he;cases he
 have hde:d≠e:=λz=>by subst z;rw[aJ La.symm,au] at he;cases he
 refine aq rfl ⟨x,C,dx,_,rfl,by rw[aJ hxe,au],c.cl,c.n2,by show 1<1000;decide,?_⟩;have he2:H2 e=none:=by rw[aJ hxe.symm,aJ hde.symm] at he;exact he
 refine hq _ d e ⟨?_,?_,⟨[],?_,.nil⟩,hde⟩ (λc o hc e1=>?_) (Gj.free hd)<|Gj.free he2
 .rw[au];rfl
 .rw[aJ La.symm,aJ hde,aJ La.symm,au]
 .rw[aJ hxe.symm,au]
 .have e2:=Gj _ _ e1;have z1:c≠e:=λz=>by subst z;rw[he2] at e2;cases e2
  have z2:c≠d:=λz=>by subst z;rw[hd] at e2;cases e2
  rw[aJ hc,aJ z1,aJ hc,aJ z2];exact e2
end
inductive cG where
 |lay (nm a b:Str) (w l:Int)
 |shut (nm:Str)
 |widen (nm:Str) (k:Int)
 |narrow (nm:Str) (k:Int)
noncomputable def cG.vals:cG->List V
 |.lay nm a b w l=>[.str "lay",.str nm,.str a,.str b,.int w,.int l]
 |.shut nm=>[.str "shut",.str nm]
 |.widen nm k=>[.str "widen",.str nm,.int k]
 |.narrow nm k=>[.str "narrow",.str nm,.int k]
noncomputable def cG.nm:cG->Str
 |.lay nm _ _ _ _=>nm
 |.shut nm=>nm
 |.widen nm _=>nm
 |.narrow nm _=>nm
noncomputable def cG.word:cG->Str
 |.lay _ _ _ _ _=>"lay"
 |.shut _=>"shut"
 |.widen _ _=>"widen"
 |.narrow _ _=>"narrow"
def cG.at0 (d:cG):dI d.vals 0=some (.str d.word):=by cases d<;>rfl
def cG.at1 (d:cG):dI d.vals 1=some (.str d.nm):=by cases d<;>rfl
def cF {K:Frag}{i:Nat}{j:Int}{σ:L2.St}{H:Hp}{Q:VK}{t:Addr}{xs:List V}{v:V}(e:σ[i]? =some (some<|.ref t))(h:bV K H t xs)(a:dI xs j=some v)(q:Q v H):jt (uH K) (vR i) (tC<|.int j) σ H Q:=
 aq e (xs,v,h,a,q)
def Xx {K:Frag}{ta tb:TE}{σ:L2.St}{H:Hp}{Q:Bool->Hp->Prop}{x y:Str}(ha:∀R:VK,R (.str x) H->ta σ H R)(hb:∀R:VK,R (.str y) H->tb σ H R)(q:Q (decide<|x=y) H):oH (jt rEq ta tb) σ H Q:=by refine ha _<|hb _ ⟨rfl,?_⟩;simp_all
section
variable {K:Frag}
def cG.sp (C:Addr)(p:Addr):cG->Hp->VK->XK->Prop
 |.lay nm a b w l,H,Q,E=>QZ C [.ref p,.str nm,.str a,.str b,.int w,.int l] H Q E
 |.shut nm,H,Q,E=>aao C [.ref p,.str nm] H Q E
 |.widen nm k,H,Q,E=>Ci C [.ref p,.str nm,.int k] H Q E
 |.narrow nm k,H,Q,E=>yL C [.ref p,.str nm,.int k] H Q E
inductive aeD (K:Frag)(C:Addr)(vs:List V)(H:Hp)(Q:VK)(E:XK):Prop
 |mk:∀p dx nn ll t d,vs=[.ref p,.ref t]->H p=some (.ins C dx [("numbers",.ref nn),("laid",.ref ll)])->bV K H t (cG.vals d)->d.sp C p H Q E->aeD K C vs H Q E
def als:cB ["_law_hall","_law_deed_here"] ["_law_hall","_law_deed_here"] (aN<|top 47):=fs
structure Ms (P:Program)(w:World)(K:Frag)(mg:Str->Option Value)(base:Heap)(C:Addr)(lv:Nat)(m:Str)(ps:List Str)(sp:Sp):Prop where
 ex:∃f fd,bJ P w K mg base cA lv f fd ps sp/\Meth K C m f/\Binds K fd ps []
def arL {f:Addr}{fd:FuncData}(F:bY K "_law_do" "_law_do" (top 47) f fd)(c:Cl K C)(Ml:Ms P w K mg base C 2 "lay" ["self","name","a","b","width","length"] (QZ C))(Msh:Ms P w K mg base C 2 "shut" ["self","name"] (aao C))
  (Mw:Ms P w K mg base C 2 "widen" ["self","name","more"] (Ci C))(Mn:Ms P w K mg base C 2 "narrow" ["self","name","less"] (yL C)):bJ P w K mg base cA 3 f fd ["_law_hall","_law_deed_here"] (aeD K C):=by
 have vt:=als.vt;let(fl,fdl,Fl,ml,bl):=Ml.ex;let(fs,fds,Fs,ms,bs):=Msh.ex;let(fw,fdw,Fw,mw,bw):=Mw.ex;let(fn,fdn,Fn',mn,bn):=Mn.ex;refine bY.ok F als (λvs H Q E h=>by let(_,_,_,_,_,_,rfl,_):=h;rfl) λcX A outer s H vs Q E hr fQ=>?_;let(p,dx,nn,ll,t,d,rfl,hp,ht,hd):=fQ;refine(_,aK (fW (lY qt (bB dR (pV vt 1) aF) nC) (bf (cU (cL (pV vt 0) c.cl ml Fl hr bl .nil dB (ak (bB dR (pV vt 1) aF) (ak (bB dR (pV vt 1) aF) (ak (bB dR (pV vt 1) aF) (ak (bB dR (pV vt 1) aF) (ak (bB dR (pV vt 1) aF) aP)))))))) cT)
  (aK (fW (lY qt (bB dR (pV vt 1) aF) nC) (bf (cU (cL (pV vt 0) c.cl ms Fs hr bs .nil dB (ak (bB dR (pV vt 1) aF) aP)))) cT)
  (aK (fW (lY qt (bB dR (pV vt 1) aF) nC) (bf (cU (cL (pV vt 0) c.cl mw Fw hr bw .nil dB (ak (bB dR (pV vt 1) aF) (ak (bB dR (pV vt 1) aF) aP))))) cT)
  (bf (cU (cL (pV vt 0) c.cl mn Fn' hr bn .nil dB (ak (bB dR (pV vt 1) aF) (ak (bB dR (pV vt 1) aF) aP))))))),?_)
 have word:∀y (R:Bool->Hp->Prop),R (decide<|d.word=y) H->oH (jt rEq (jt (uH K) (vR 1)<|tC<|.int 0)<|tC<|.str y) (L2.start ["_law_hall","_law_deed_here"] [.ref p,.ref t]) H R:=λy R r=>Xx (K:=K) (λR r=>cF rfl ht d.at0 r) (λR r=>r) r;dsimp only[jP];unfold mV jj;refine word _ _ ?_;cases d with
 |lay nm a b w l=>rw[ar<|show decide ((cG.lay nm a b w l).word="lay")=true from(by decide +kernel:decide (("lay":Str)="lay")=true)];unfold mW gF bR;exact aq rfl (p,dx,_,rfl,hp,rfl,cF rfl ht rfl<|cF rfl ht rfl<|cF rfl ht rfl<|cF rfl ht rfl<|cF rfl ht rfl hd)
 |shut nm=>rw[ap<|show ¬decide ((cG.shut nm).word="lay")=true from(by decide +kernel:¬decide (("shut":Str)="lay")=true)];refine word _ _ ?_;rw[ar<|show decide ((cG.shut nm).word="shut")=true from(by decide +kernel:decide (("shut":Str)="shut")=true)];unfold mW gF bR;exact aq rfl (p,dx,_,rfl,hp,rfl,cF rfl ht rfl hd)
 |widen nm k=>rw[ap<|show ¬decide ((cG.widen nm k).word="lay")=true from(by decide +kernel:¬decide (("widen":Str)="lay")=true)];refine word _ _ ?_;rw[ap<|show ¬decide ((cG.widen nm k).word="shut")=true from(by decide +kernel:¬decide (("widen":Str)="shut")=true)];refine word _ _ ?_;rw[ar<|show decide ((cG.widen nm k).word="widen")=true from(by decide +kernel:decide (("widen":Str)="widen")=true)];unfold mW gF bR;exact aq rfl (p,dx,_,rfl,hp,rfl,cF rfl ht rfl<|cF rfl ht rfl hd)
 |narrow nm k=>rw[ap<|show ¬decide ((cG.narrow nm k).word="lay")=true from(by decide +kernel:¬decide (("narrow":Str)="lay")=true)];unfold iH;k_ne;refine word _ _ ?_;rw[ap<|show ¬decide ((cG.narrow nm k).word="shut")=true from(by decide +kernel:¬decide (("narrow":Str)="shut")=true)];refine word _ _ ?_;rw[ap<|show ¬decide ((cG.narrow nm k).word="widen")=true from(by decide +kernel:¬decide (("narrow":Str)="widen")=true)];unfold mW gF bR;exact aq rfl (p,dx,_,rfl,hp,rfl,cF rfl ht rfl<|cF rfl ht rfl hd)
end
noncomputable def bD (r:Row):PyData:=.list [.str r.1,.str r.2.1,.str r.2.2.1,.int r.2.2.2.1,.int r.2.2.2.2]
abbrev PR:=Addr×Row
structure Held (H:Hp)(D:Addr)(aQ:List PR):Prop where
 top:H D=some (.lst<|aQ.map λx=>.ref x.1)
 row:∀x∈aQ,H x.1=some (.lst<|gQ x.2)
 can:∀x∈aQ,(bD x.2).canLay0=true
def Held.grow (h:Held H D aQ)(k:Same H H'):Held H' D aQ:=(k _ _ h.top,λx hx=>k _ _<|h.row x hx,h.can)
noncomputable def o7 (seen:List Str)(rs:List Str):List Str:=rs.foldl (λs r=>if(s.any λy=>y==r)=true then s else s++[r]) seen
noncomputable def dg (nm:Str)(k:Int)(r:Row):Row:=if r.1=nm then(r.1,r.2.1,r.2.2.1,r.2.2.2.1+k,r.2.2.2.2) else r
def Ey:cG->List Row->List Row
 |.lay nm a b w l,rows=>rows++[(nm,a,b,w,l)]
 |.shut nm,rows=>rows.filter λr=>!decide (r.1=nm)
 |.widen nm k,rows=>rows.map<|dg nm k
 |.narrow nm k,rows=>rows.map<|dg nm<|-k
def aeE:cG->List Str->List Str
 |.lay _ a b _ _,seen=>o7 seen [a,b]
 |_,seen=>seen
def ajq (rs:List Str):∀seen,(o7 seen rs).length<=seen.length+rs.length:=by
 induction rs with
 |nil=>intro seen;exact ax _
 |cons r rs ih=>intro seen;have h1:=ih<|if(seen.any λy=>y==r)=true then seen else seen++[r];show(o7 (if(seen.any λy=>y==r)=true then seen else seen++[r]) rs).length<=_;grind
def ajr (x:Str)(xs:List Str):inV (.str x) (xs.map V.str)=xs.any λy=>y==x:=by unfold inV;rw[any_map];rfl
def S5 {K:Frag}(h:H a=some (.lst<|gQ r))(c:(bD r).canLay0=true):Has K H (bD r) (.ref a):=by simp only[bD,canLay0,canLayAll0,bS] at c;let(c1,c2,c3,_):=c;refine⟨a,gQ r,rfl,aZ.of h,?_⟩;refine⟨_,_,rfl,⟨rfl,by simp only[canLay0];exact c1⟩,_,_,rfl,⟨rfl,by simp only[canLay0];exact c2⟩,_,_,rfl,⟨rfl,by simp only[canLay0];exact c3⟩,_,_,rfl,rfl,_,_,rfl,rfl,rfl⟩
theorem zW {K:Frag}:∀{aQ:List PR},(∀x∈aQ,H x.1=some (.lst<|gQ x.2))->(∀x∈aQ,(bD x.2).canLay0=true)->aR K H (aQ.map λx=>bD x.2) (aQ.map λx=>V.ref x.1)
 |[],_,_=>rfl
 |x::r,h,c=>(_,_,rfl,S5 (h x<|ae ..)<|c x<|ae ..,zW (λy hy=>h y<|aa _ hy)<|λy hy=>c y<|aa _ hy)
def Ez (h:r.1≠s.1):eqv (bD r) (bD s)=false:=by simp only[bD,eqv,PyData.eqvAll];simp[h]
section
variable {K:Frag}{base:Heap}
inductive aaD (K:Frag)(vs:List V)(H:Hp)(Q:VK):Prop
 |mk:∀D sA t aQ seen d,vs=[.ref D,.ref sA,.ref t]->Held H D aQ->H sA=some (.lst<|seen.map V.str)->(D::sA::aQ.map (·.1)).Nodup->bV K H t (cG.vals d)->aQ.length<100->seen.length<100->((∀nm a b w l,d=.lay nm a b w l->(bD (nm,a,b,w,l)).canLay0=true))->(∀H' je,Held H' D je->je.map (·.2)=Ey d (aQ.map (·.2))->H' sA=some (.lst<|(aeE d seen).map V.str)->(D::sA::je.map (·.1)).Nodup->(∀b o,b∉D::sA::aQ.map (·.1)->H b=some o->H' b=some o)->(∀b∈je.map (·.1),b∈aQ.map (·.1)\/H b=none)->Q .non H')->aaD K vs H Q
def S6 (K:Frag):Sp:=λvs H Q _=>aaD K vs H Q
def aaE:cB ["_law_held","_law_seen","_law_deed_here","_law_room","_law_row"] ["_law_held","_law_seen","_law_deed_here"] (aN<|top 48):=fs
def fP (K:Frag)(y:Str):TT:=ada (oH<|jt rEq (jt (zm K) (vR 4)<|tC<|.int 0)<|jt (uH K) (vR 2)<|tC<|.int 1)<|oH<|jt rEq (jt (uH K) (vR 2)<|tC<|.int 0)<|tC<|.str y
def vX {d:cG}(e4:σ[4]? =some (some<|.ref a))(e2:σ[2]? =some (some<|.ref t))(ha:H a=some (.lst<|gQ r))(ht:bV K H t d.vals)
  (q:Q (decide (r.1=d.nm) && decide (d.word=y)) H):fP K y σ H Q:=by
 refine Xx (K:=K) (λR h=>aaB e4 ha (λR h=>h) rfl h) (λR h=>cF e2 ht d.at1 h) ?_;by_cases e:r.1=d.nm
 .rw[cf e,Bool.true_and] at q;rw[ar<|cf e];exact Xx (K:=K) (λR h=>cF e2 ht d.at0 h) (λR h=>h) q
 .omega
def zX (K:Frag):TS:=mV (jj (fP K "shut") (gk<|FP K "list" (Xq K) (vR 0)<|bR (vR 4) c7) iH)
 (mV (jj (fP K "widen") (fG (jt (rM λi j=>.int (i+j)) (jt (zm K) (vR 4) (tC (.int 3))) (jt (uH K) (vR 2) (tC (.int 2)))) (Ln (vR 4) (tC (.int 3)) Jr)) iH)
  (jj (fP K "narrow") (fG (jt (rM λi j=>.int (i - j)) (jt (zm K) (vR 4) (tC (.int 3))) (jt (uH K) (vR 2) (tC (.int 2)))) (Ln (vR 4) (tC (.int 3)) Jr)) iH))
def op2:jt r ta tb σ H Q=ta σ H λx H1=>tb σ H1 λy H2=>r x y H2 Q:=rfl
def xK {d:cG}(h:decide (d.word=y)=false):¬(x && decide (d.word=y))=true:=by rw[h,Bool.and_false];simp
def M9 {r:Row}{d:cG}(h:decide (d.word=y)=true)(e:r.1=d.nm):(decide (r.1=d.nm) && decide (d.word=y))=true:=by rw[h,Bool.and_true];exact cf e
def awl {r:Row}{d:cG}(e:r.1≠d.nm):¬(decide (r.1=d.nm) && decide (d.word=y))=true:=by rw[cE e,Bool.false_and];simp
section
variable {a t D:Addr}{d:cG}
def S7 (e4:σ[4]? =some (some<|.ref a))(e2:σ[2]? =some (some<|.ref t))(ha:H a=some (.lst<|gQ r))(ht:bV K H t d.vals)(h:r.1≠d.nm\/d.word="lay")(q:Dn.nx σ H):zX K Dn σ H:=by
 have z:∀y:Str,decide (("lay")=y)=false->¬(decide (r.1=d.nm) && decide (d.word=y))=true:=λy hy=>by lk
 refine vX e4 e2 ha ht ?_;rw[ap<|z _<|by decide +kernel];refine vX e4 e2 ha ht ?_;rw[ap<|z _<|by decide +kernel];refine vX e4 e2 ha ht ?_;rw[ap<|z _<|by decide +kernel];exact q
def acJ {nm:Str}(e:r.1=nm):(gQ r).set 3 (.int<|r.2.2.2.1+k)=gQ (dg nm k r):=by unfold dg;rw[ar e];rfl
def aeF {nm:Str}{k:Int}(e4:σ[4]? =some (some<|.ref a))(e2:σ[2]? =some (some<|.ref t))(ha:H a=some (.lst<|gQ r))(ht:bV K H t (cG.vals<|.widen nm k))(e:r.1=nm)(q:Dn.nx σ (upd H a<|.lst<|gQ<|dg nm k r)):zX K Dn σ H:=by
 have hn:∀xs,H a≠some (.tup xs):=λxs z=>by rw[ha] at z;cases z
 have ht2:bV K (upd H a<|.lst<|gQ<|dg nm k r) t (cG.vals<|.widen nm k):=by
  rcases ht with(h|⟨o,h⟩)|h
  .exact .inl<|.inl (by rw[aJ λz=>by subst z;rw[ha] at h;cases h];exact h)
  .exact .inl<|.inr ⟨o,by rw[aJ λz=>by subst z;rw[ha] at h;cases h];exact h⟩
  .exact .inr h
 refine vX e4 e2 ha ht ?_;rw[ap<|xK<|show decide ((cG.widen nm k).word="shut")=false from(by decide +kernel:decide (("widen":Str)="shut")=false)];unfold iH;refine vX e4 e2 ha ht ?_;rw[ar<|M9 (show decide ((cG.widen nm k).word="widen")=true from(by decide +kernel:decide (("widen":Str)="widen")=true)) e];unfold fG Ln;rw[op2];refine aaB e4 ha (λR h=>h) rfl ?_;refine cF e2 ht rfl ?_;unfold rM;refine aq e4 ⟨_,3,ha,rfl,?_⟩;rw[acJ e];refine vX e4 e2 au ht2 ?_;rw[ap<|xK<|show decide ((cG.widen nm k).word="narrow")=false from(by decide +kernel:decide (("widen":Str)="narrow")=false)];exact q
def abw {nm:Str}{k:Int}(e4:σ[4]? =some (some<|.ref a))(e2:σ[2]? =some (some<|.ref t))(ha:H a=some (.lst<|gQ r))(ht:bV K H t (cG.vals<|.narrow nm k))(e:r.1=nm)(q:Dn.nx σ (upd H a<|.lst<|gQ<|dg nm (-k) r)):zX K Dn σ H:=by refine vX e4 e2 ha ht ?_;rw[ap<|xK<|show decide ((cG.narrow nm k).word="shut")=false from(by decide +kernel:decide (("narrow":Str)="shut")=false)];unfold iH;refine vX e4 e2 ha ht ?_;rw[ap<|xK<|show decide ((cG.narrow nm k).word="widen")=false from(by decide +kernel:decide (("narrow":Str)="widen")=false)];refine vX e4 e2 ha ht ?_;rw[ar<|M9 (show decide ((cG.narrow nm k).word="narrow")=true from(by decide +kernel:decide (("narrow":Str)="narrow")=true)) e];unfold fG Ln;rw[op2];refine aaB e4 ha (λR h=>h) rfl ?_;refine cF e2 ht rfl ?_;unfold rM;k_ne;refine aq e4 (_,3,ha,rfl,?_);rw[Int.sub_eq_add_neg,acJ e];exact q
def ag0 {nm:Str}{pre post:List PR}(e0:σ[0]? =some (some<|.ref D))(e4:σ[4]? =some (some<|.ref a))(e2:σ[2]? =some (some<|.ref t))(hD:H D=some (.lst<|(pre++(a,r)::post).map λx=>.ref x.1))(yM:∀x∈pre++(a,r)::post,H x.1=some (.lst<|gQ x.2))
  (sW:∀x∈pre++(a,r)::post,(bD x.2).canLay0=true)(haD:a≠D)(RD:∀x∈pre,x.2.1≠nm)(ht:bV K H t (cG.vals<|.shut nm))(e:r.1=nm)(q:Dn.nx σ (upd H D<|.lst<|(pre++post).map λx=>.ref x.1)):zX K Dn σ H:=by
 have ha:=yM (a,r) (by simp);have ht2:bV K (upd H D<|.lst<|(pre++post).map λx=>.ref x.1) t (cG.vals<|.shut nm):=by
  rcases ht with(h|⟨o,h⟩)|h
  .exact .inl<|.inl (by rw[aJ λz=>by subst z;rw[hD] at h;cases h];exact h)
  .exact .inl<|.inr ⟨o,by rw[aJ λz=>by subst z;rw[hD] at h;cases h];exact h⟩
  .exact .inr h
 have ha2:upd H D (.lst<|(pre++post).map λx=>.ref x.1) a=some (.lst<|gQ r):=by rw[aJ haD];exact ha
 refine vX e4 e2 ha ht ?_;rw[ar<|M9 (show decide ((cG.shut nm).word="shut")=true from(by decide +kernel:decide (("shut":Str)="shut")=true)) e];unfold gk FP bR c7;refine aq e0 ⟨.inl ⟨rfl,_,aZ.of hD⟩,aq e4 ⟨D,.ref a,_,_,bD r,pre.length,rfl,rfl,hD,zW yM sW,S5 ha<|sW (a,r)<|by simp,?_,?_,?_,?_⟩⟩
 .simp[bD,PyData.depth,depthAll]
 .simp
 .intro m d' hm Bb;rw[av] at Bb;let(x,ex,rfl):=cc.mp Bb;by_cases hmj:m=pre.length
  .subst hmj;rw[cr<|ax _,kP] at ex;have ex':(a,r)=x:=by simpa using ex
   subst ex';rw[cf rfl,gy _<|sW (a,r)<|by simp]
  .rw[bP ∅] at ex;rw[cE hmj,Ez];rw[e];exact RD x<|ah ex
 .have ee:((pre++(a,r)::post).map λx=>V.ref x.1).eraseIdx pre.length=(pre++post).map λx=>V.ref x.1:=by rw[bz,az,List.eraseIdx_append_of_length_le (by rw[af];exact ax _),af,kP,bz];rfl
  rw[ee];refine vX e4 e2 ha2 ht2 ?_;rw[ap<|xK<|show decide ((cG.shut nm).word="widen")=false from(by decide +kernel:decide (("shut":Str)="widen")=false)];refine vX e4 e2 ha2 ht2 ?_;rw[ap<|xK<|show decide ((cG.shut nm).word="narrow")=false from(by decide +kernel:decide (("shut":Str)="narrow")=false)];exact q
end
end
section
variable {K:Frag}
noncomputable def ag1:cG->List Row->List Row
 |.lay _ _ _ _ _,rows=>rows
 |.shut nm,rows=>rows.filter λr=>!decide (r.1=nm)
 |.widen nm k,rows=>rows.map<|dg nm k
 |.narrow nm k,rows=>rows.map<|dg nm<|-k
def bV.off (h:bV K H t xs)(k:∀o,zp o=true->H t=some o->H' t=some o):bV K H' t xs:=by
 rcases h with(h|⟨o,h⟩)|h
 .exact .inl<|.inl<|k _ rfl h
 .exact .inl<|.inr ⟨o,k _ rfl h⟩
 .exact .inr h
def amF {nm:Str}(h:(bD r).canLay0=true):(bD<|dg nm k r).canLay0=true:=by
 unfold dg;split
 .assumption
 .exact h
variable {d:cG}
def aaF {nm:Str}(hb:∀{Dn:Ends}{σ:L2.St} {H:Hp} {a:Addr} {r:Row},σ[4]? =some (some<|.ref a)->σ[2]? =some (some<|.ref t)->H a=some (.lst<|gQ r)->bV K H t d.vals->r.1=nm->Dn.nx σ (upd H a<|.lst<|gQ<|dg nm k r)->zX K Dn σ H)(hnm:d.nm=nm)
  (hH:Held H D aQ)(lN:(D::aQ.map (·.1)).Nodup)(zY:H lz=some (.lst<|aQ.map λx=>.ref x.1))(hz:lz∉D::aQ.map (·.1))(ht:bV K H t d.vals)
  (q:∀H' je x4,Held H' D je->je.map (·.2)=(aQ.map (·.2)).map (dg nm k)->(je.map (·.1)).Sublist (aQ.map (·.1))->(∀b o,b∉D::aQ.map (·.1)->H b=some o->H' b=some o)->Dn.nx [some<|.ref D,some<|.ref sA,some<|.ref t,x3,x4] H'):
  Jv (Gu K lz) (cH 4) (zX K) Dn [some<|.ref D,some<|.ref sA,some<|.ref t,x3,x4] H:=by
 have Aw:=(bg.mp lN).2;have Vn:=(bg.mp lN).1;have FT:lz∉aQ.map (·.1):=λz=>hz<|aa _ z;refine forL (λi aX H'=>(∃y,aX=[some<|.ref D,some<|.ref sA,some<|.ref t,x3,y])/\(∀j (x:PR),aQ[j]? =some x->H' x.1=some (.lst<|gQ<|if j<i then dg nm k x.2 else x.2))/\∀b o,b∉aQ.map (·.1)->H b=some o->H' b=some o)
  ⟨⟨_,rfl⟩,λj x e=>by rw[ap<|kS _];exact hH.row x<|ah e,λ_ _ _ e=>e⟩ (λi aX H' _ h=>aZ.of (h.2.2 _ _ FT zY)) ?_ ?_
 .rintro i v aX H' hv ⟨⟨y,rfl⟩,i1,i2⟩;rw[av] at hv;let(x,ex,rfl):=cc.mp hv;have hx:=i1 i x ex;rw[ap (ik _)] at hx;have GX:=bV.off ht λo ho e=>i2 _ _ (λz=>by
   let(p,hp,e2):=bp.mp z;rw[<-e2,hH.row p hp] at e;cases e;cases ho) e
  by_cases e:x.2.1=nm
  .refine hb rfl rfl hx GX e ⟨⟨_,rfl⟩,λj z ez=>?_,λb o hbn eo=>?_⟩
   .by_cases hj:z.1=x.1
    .have:j=i:=(o3 (by
      rcases Nat.lt_or_ge j (aQ.map (·.1)).length with g|g
      .exact g
      .rw[bu (by rw[af] at g;exact g)] at ez;cases ez) Aw).mp (by rw[av,av,ez,ex];exact dT some hj)
     subst this;rw[ex] at ez;cases ez;rw[au,ar<|jp _]
    .rw[aJ hj,i1 j z ez]
     have:j≠i:=λg=>by subst g;rw[ex] at ez;cases ez;exact hj rfl
     by_cases g:j<i
     .rw[ar g,ar ∅]
     .rw[ap g,ap ∅]
   .rw[aJ λg=>hbn (by rw[g];exact b9<|ah ex)];exact i2 b o hbn eo
  .refine S7 rfl rfl hx GX (.inl (by rw[hnm];exact e)) ⟨⟨_,rfl⟩,λj z ez=>?_,i2⟩;rw[i1 j z ez];by_cases g:j<i
   .rw[ar g,ar ∅]
   .by_cases g2:j=i
    .subst g2;rw[ex] at ez;cases ez;rw[ap g,ar ∅];unfold dg;rw[ap e]
    .rw[ap g,ap ∅]
 .rintro aX H' ⟨⟨y,rfl⟩,i1,i2⟩;refine q H' (aQ.map λx=>(x.1,dg nm k x.2)) y ⟨?_,λx hx=>?_,λx hx=>?_⟩ ?_ ?_ λb o hb e=>i2 b o (λz=>hb<|aa _ z) e
  .rw[cm];exact i2 D _ Vn hH.top
  .let(z,hz,rfl):=bp.mp hx;let(j,hj,rfl):=ki hz;rw[i1 j aQ[j]<|by simp[hj],ar (by rw[af];exact hj)]
  .let(z,hz,rfl):=bp.mp hx;exact amF<|hH.can z hz
  .rw[cm,cm];rfl
  .rw[cm];exact o6 _
def ag3 (hH:Held H D aQ)(lN:(D::aQ.map (·.1)).Nodup)(zY:H lz=some (.lst<|aQ.map λx=>.ref x.1))(hz:lz∉D::aQ.map (·.1))(ht:bV K H t d.vals)
  (q:∀H' je x4,Held H' D je->je.map (·.2)=ag1 d (aQ.map (·.2))->(je.map (·.1)).Sublist (aQ.map (·.1))->(∀b o,b∉D::aQ.map (·.1)->H b=some o->H' b=some o)->Dn.nx [some<|.ref D,some<|.ref sA,some<|.ref t,x3,x4] H'):
  Jv (Gu K lz) (cH 4) (zX K) Dn [some<|.ref D,some<|.ref sA,some<|.ref t,x3,x4] H:=by
 have Vn:=(bg.mp lN).1;have hlD:lz≠D:=λz=>hz (by rw[z];exact ae ..);cases d with
 |lay nm a b w l=>
  refine forL (λi aX H'=>(∃y,aX=[some<|.ref D,some<|.ref sA,some<|.ref t,x3,y])/\H'=H) ⟨⟨_,rfl⟩,rfl⟩ (λi aX H' _ h=>by rw[h.2];exact aZ.of zY) ?_ ?_
  .rintro i v aX H' hv ⟨⟨y,rfl⟩,rfl⟩;rw[av] at hv;let(x,ex,rfl):=cc.mp hv;exact S7 rfl rfl (hH.row x<|ah ex) ht (.inr rfl) ⟨⟨_,rfl⟩,rfl⟩
  .rintro aX H' ⟨⟨y,rfl⟩,rfl⟩;exact q _ aQ y hH rfl (o6 _) λ_ _ _ e=>e
 |shut nm=>
  refine forL (λi aX H'=>(∃y,aX=[some<|.ref D,some<|.ref sA,some<|.ref t,x3,y])/\H' D=some (.lst<|((aQ.take i).filter (λx=>!decide (x.2.1=nm))++aQ.drop i).map λx=>.ref x.1)/\∀b o,b≠D->H b=some o->H' b=some o)
   ⟨⟨_,rfl⟩,hH.top,λ_ _ _ e=>e⟩ (λi aX H' _ h=>aZ.of (h.2.2 _ _ hlD zY)) ?_ ?_
  .rintro i v aX H' hv ⟨⟨y,rfl⟩,i1,i2⟩;rw[av] at hv;let(x,ex,rfl):=cc.mp hv;have hi:=(ab.mp ex).1;have exi:=(ab.mp ex).2;have ed:aQ.drop i=x::aQ.drop (i+1):=by rw[fg hi,exi]
   have et:aQ.take (i+1)=aQ.take i++[x]:=by rw[kq,ex];rfl
   have apz:∀z∈aQ,z.1≠D:=λz hz g=>Vn (by rw[<-g];exact b9 hz);have yM:∀z∈aQ,H' z.1=some (.lst<|gQ z.2):=λz hz=>i2 _ _ (apz z hz)<|hH.row z hz;have hx:=yM x<|ah ex;have GX:=bV.off ht λo ho e=>i2 _ _ (λz=>by rw[z,hH.top] at e;cases e;cases ho) e;have S8:∀z∈(aQ.take i).filter (λx=>!decide (x.2.1=nm))++x::aQ.drop (i+1),z∈aQ:=λz hz=>by
    rcases bc.mp hz with g|g
    .exact fT<|(du.mp g).1
    .rw[<-ed] at g;exact ir g
   by_cases e:x.2.1=nm
   .rw[ed] at i1;refine ag0 rfl rfl rfl i1 (λz hz=>yM z<|S8 z hz) (λz hz=>hH.can z<|S8 z hz) (apz x<|ah ex) (λz hz=>?_) GX e ⟨⟨_,rfl⟩,?_,λb o hb eo=>?_⟩
    .have:=(du.mp hz).2;simpa using this
    .rw[au,et,kF];simp[e]
    .rw[aJ hb];exact i2 b o hb eo
   .refine S7 rfl rfl hx GX (.inl e) ⟨⟨_,rfl⟩,?_,i2⟩;rw[i1,ed,et,kF];simp[e]
  .rintro aX H' ⟨⟨y,rfl⟩,i1,i2⟩;rw[af,c9<|ax _,mE<|ax _,df] at i1;have hm:∀z∈aQ.filter (λx=>!decide (x.2.1=nm)),z∈aQ:=λz hz=>(du.mp hz).1;refine q H' (aQ.filter λx=>!decide (x.2.1=nm)) y ⟨i1,λz hz=>i2 _ _ (λg=>Vn (by rw[<-g];exact b9<|hm z hz)) (hH.row z<|hm z hz),λz hz=>hH.can z<|hm z hz⟩ ?_ ((ka).map _) λb o hb e=>i2 b o (λz=>hb (by rw[z];exact ae ..)) e;show _=(aQ.map (·.2)).filter _;rw[nk];rfl
 |widen nm k=>exact aaF (λe4 e2 ha ht e q=>aeF e4 e2 ha ht e q) rfl hH lN zY hz ht q
 |narrow nm k=>exact aaF (λe4 e2 ha ht e q=>abw e4 e2 ha ht e q) rfl hH lN zY hz ht q
end
section
variable {K:Frag}
variable {seen:List Str}
def ag5 (hH:Held H D aQ)(lN:(D::aQ.map (·.1)).Nodup)(ht:bV K H t d.vals)
  (q:∀H' je x4,Held H' D je->je.map (·.2)=ag1 d (aQ.map (·.2))->(je.map (·.1)).Sublist (aQ.map (·.1))->(∀b o,b∉D::aQ.map (·.1)->H b=some o->H' b=some o)->Dn.nx [some<|.ref D,some<|.ref sA,some<|.ref t,x3,x4] H'):
  adi (uF K<|rK (Br K)<|bR (vR 0) c7) (cH 4) (zX K) Dn [some<|.ref D,some<|.ref sA,some<|.ref t,x3,x4] H:=by
 rw[nO];unfold uF rK bR c7;refine aq rfl ⟨_,.inl<|aZ.of hH.top,λlz zY=>⟨lz,rfl,⟨_,aZ.of au⟩,?_⟩⟩;have sm:=aH (o:=.lst<|aQ.map λx=>.ref x.1) zY;refine ag3 (hH.grow sm) lN au (λz=>?_) (sm.vW ht) λH' je y a1 a2 a3 a4=>q H' je y a1 a2 a3 λb o hb e=>a4 b o hb<|sm _ _ e;rcases aI.mp z with g|g
 .rw[g,hH.top] at zY;cases zY
 .let(p,hp,e):=bp.mp g;rw[<-e,hH.row p hp] at zY;cases zY
def aaG (K:Frag):TS:=jj (oH<|jt (rIn K true) (vR 3)<|vR 1) (gk<|FP K "list" Js (vR 1)<|bR (vR 3) c7) iH
def ag6 {seen rs:List Str}(e:rs[i]? =some r):o7 seen (rs.take<|i+1)=if((o7 seen<|rs.take i).any λy=>y==r)=true then o7 seen (rs.take i) else o7 seen (rs.take i)++[r]:=by rw[kq,e];unfold o7;rw[o4];rfl
def ag7 {a b:Str}(Cv:bV K H tt [.str a,.str b])(hs:H sA=some (.lst<|seen.map V.str))(hl:seen.length<1000)
  (q:∀H' x3,H' sA=some (.lst<|(o7 seen [a,b]).map V.str)->(∀c o,c≠sA->H c=some o->H' c=some o)->Dn.nx [some<|.ref D,some<|.ref sA,some<|.ref t,x3,x4] H'):
  Jv (TV K tt) (cH 3) (aaG K) Dn [some<|.ref D,some<|.ref sA,some<|.ref t,x3,x4] H:=by
 refine alS (xs:=[a,b].map V.str) (λi aX H'=>(∃y,aX=[some<|.ref D,some<|.ref sA,some<|.ref t,y,x4])/\H' sA=some (.lst<|(o7 seen<|[a,b].take i).map V.str)/\∀c o,c≠sA->H c=some o->H' c=some o) ⟨⟨_,rfl⟩,hs,λ_ _ _ e=>e⟩
  (λi aX H' _ h=>bV.off Cv λo ho e=>h.2.2 _ _ (λz=>by rw[z,hs] at e;cases e;cases ho) e) ?_ ?_
 .rintro i v aX H' hv ⟨⟨y,rfl⟩,i1,i2⟩;rw[av] at hv;let(r,er,rfl):=cc.mp hv;show aaG K _ [some<|.ref D,some<|.ref sA,some<|.ref t,some<|.str r,x4] H';unfold aaG jj oH;rw[op2];refine aq rfl (aq rfl ⟨sA,_,rfl,.inl<|aZ.of i1,rfl,by rw[List.all_map];simp[uG],?_⟩);rw[ajr];have st:=ag6 (seen:=seen) er;show(if(!(o7 seen<|[a,b].take i).any λy=>y==r)=true then _ else _);have cZ:(o7 seen<|[a,b].take i).length<2000:=by
   have:=ajq ([a,b].take i) seen
   have:([a,b].take i).length<=2:=by rw[dt];exact jn _ _
   lk
  by_cases c:((o7 seen<|[a,b].take i).any λy=>y==r)=true
  .rw[ap (by rw[c];simp)];rw[ar c] at st;exact⟨⟨_,rfl⟩,by rw[st];exact i1,i2⟩
  .rw[ar (by rw[j2.mpr c];rfl)];rw[ap c] at st;unfold gk FP bR c7;refine aq rfl ⟨.inl ⟨rfl,_,aZ.of i1⟩,aq rfl ⟨_,i1,bT (by rw[af];lk),⟨_,rfl⟩,?_,λc o hc e=>?_⟩⟩
   .rw[au,st,bz];rfl
   .rw[aJ hc];exact i2 c o hc e
 .rintro aX H' ⟨⟨y,rfl⟩,i1,i2⟩;exact q H' y i1 i2
def ajs (F:bY K "_law_noted" "_law_noted" (top 48) f fd)(B:Bl mg):bJ P w K mg base cA 1 f fd ["_law_held","_law_seen","_law_deed_here"] (S6 K):=by
 have nd:=aaE.nd;have vt:=(show(["_law_held","_law_seen","_law_deed_here","_law_room","_law_row"]:List Str).all (λx=>ud (aN (top 48)) x && plain x)=true by decide +kernel);refine bY.ok F aaE (λvs H Q E h=>by let(_,_,_,_,_,_,rfl,_):=h;rfl) λcX A outer s H vs Q E hr fQ=>?_;let(D,sA,t,aQ,seen,d,rfl,hH,hs,lN,ht,zO,qd,sW,hq):=fQ;refine⟨_,aK (fW (lY qt (bB dR (pV vt 2) aF) nC)
   (aK (cP (Jt (pV vt 0) (ak (xQ (ak (bB dR (pV vt 2) aF) (ak (bB dR (pV vt 2) aF) (ak (bB dR (pV vt 2) aF) (ak (bB dR (pV vt 2) aF) (ak (bB dR (pV vt 2) aF) aP)))))) aP)))
   (bf (nF di rfl (Yc (oG Yk (pV vt 2) (pB aF) (pB aF))) (dM (i:=3) nd rfl lx)
    (bf (fW (lY xT (pV vt 3) (pV vt 1)) (bf (cP (Jt (pV vt 1) (ak (pV vt 3) aP)))) cT))))) cT)
  (bf (nF di rfl (mC (lD Og gx B.list cK (ak (pV vt 0) aP))) (dM (i:=4) nd rfl lx)
   (aK (fW (PW.pt (Bf (lY qt (bB jG (pV vt 4) aF) (bB dR (pV vt 2) aF)) (Bc (lY qt (bB dR (pV vt 2) aF) nC)))) (bf (cP (arD hr.units (pV vt 0) (ak (pV vt 4) aP)))) cT)
   (aK (fW (PW.pt (Bf (lY qt (bB jG (pV vt 4) aF) (bB dR (pV vt 2) aF)) (Bc (lY qt (bB dR (pV vt 2) aF) nC)))) (bf (nD (dj uf (bB jG (pV vt 4) aF) (bB dR (pV vt 2) aF)) (NQ (pV vt 4) aF GF))) cT)
   (bf (fW (PW.pt (Bf (lY qt (bB jG (pV vt 4) aF) (bB dR (pV vt 2) aF)) (Bc (lY qt (bB dR (pV vt 2) aF) nC)))) (bf (nD (dj Dg (bB jG (pV vt 4) aF) (bB dR (pV vt 2) aF)) (NQ (pV vt 4) aF GF))) cT)))))),?_⟩
 let(hD1,aeG):=bg.mp lN;let(Ii,Aw):=bg.mp aeG;have Q7:D≠sA:=λz=>hD1 (by rw[z];exact ae ..);have Zx:D∉aQ.map (·.1):=λz=>hD1<|aa _ z;dsimp only[jP];unfold mV jj;refine Xx (K:=K) (λR h=>cF rfl ht d.at0 h) (λR h=>h) ?_;cases d with
 |lay nm a b w l=>
  rw[ar<|show decide ((cG.lay nm a b w l).word="lay")=true from(by decide +kernel:decide (("lay":Str)="lay")=true)];unfold gk FP bR Rx;refine aq rfl ⟨.inl ⟨rfl,_,aZ.of hH.top⟩,cF rfl ht rfl<|cF rfl ht rfl<|cF rfl ht rfl<|cF rfl ht rfl<|cF rfl ht rfl ⟨by show 5<=sizeLine;decide,λra rC=>?_⟩⟩;have s1:=aH (o:=.lst<|gQ (nm,a,b,w,l)) rC;have apA:=bF hH.top rC;have avF:=bF hs rC;refine⟨_,s1 _ _ hH.top,bT (by rw[af];lk),?_⟩;have hrp:∀x∈aQ,x.1≠ra:=λx hx=>bF (hH.row x hx) rC;have hxD:∀x∈aQ,x.1≠D:=λx hx g=>Zx (by rw[<-g];exact b9 hx);have zZ:Held (upd (upd H ra<|.lst<|gQ (nm,a,b,w,l)) D<|.lst<|(aQ.map λx=>.ref x.1)++[.ref ra]) D (aQ++[(ra,(nm,a,b,w,l))]):=by
   refine⟨by rw[au,bz];rfl,λx hx=>?_,λx hx=>?_⟩
   .rcases bc.mp hx with g|g
    .rw[aJ<|hxD x g];exact s1 _ _<|hH.row x g
    .rw[aE.mp g,aJ apA.symm,au]
   .rcases bc.mp hx with g|g
    .exact hH.can x g
    .rw[aE.mp g];exact sW _ _ _ _ _ rfl
  have lX:upd (upd H ra<|.lst<|gQ (nm,a,b,w,l)) D (.lst<|(aQ.map λx=>.ref x.1)++[.ref ra]) sA=some (.lst<|seen.map V.str):=by rw[aJ Q7.symm];exact s1 _ _ hs
  have fr1:∀c o,c≠D->H c=some o->upd (upd H ra<|.lst<|gQ (nm,a,b,w,l)) D (.lst<|(aQ.map λx=>.ref x.1)++[.ref ra]) c=some o:=λc o hc e=>by rw[aJ hc];exact s1 _ _ e
  have ht1:=bV.off ht λo ho e=>fr1 _ _ (λz=>by rw[z,hH.top] at e;cases e;cases ho) e;have eM:(aQ++[Prod.mk ra<|Prod.mk nm<|Prod.mk a<|Prod.mk b<|Prod.mk w l]).map (·.1)=aQ.map (·.1)++[ra]:=by rw[bz];rfl
  have aeH:(D::sA::(aQ++[Prod.mk ra<|Prod.mk nm<|Prod.mk a<|Prod.mk b<|Prod.mk w l]).map (·.1)).Nodup:=by
   rw[eM];have aaH:ra∉aQ.map (·.1):=λz=>by let(x,hx,e):=bp.mp z;exact hrp x hx e
   refine bg.mpr ⟨λz=>?_,bg.mpr ⟨λz=>?_,fz.mpr ⟨Aw,by simp,λx hx y hy g=>?_⟩⟩⟩
   .rcases aI.mp z with g|g
    .exact Q7 g
    .rcases bc.mp g with g|g
     .exact Zx g
     .exact apA<|aE.mp g
   .rcases bc.mp z with g|g
    .exact Ii g
    .exact avF<|aE.mp g
   .rw[aE.mp hy] at g;exact aaH<|g▸hx
  rw[show([V.str nm,V.str a,V.str b,V.int w,V.int l])=gQ (nm,a,b,w,l) from rfl];generalize upd (upd H ra<|.lst<|gQ (nm,a,b,w,l)) D (.lst<|(aQ.map λx=>.ref x.1)++[.ref ra])=H1 at zZ lX fr1 ht1 ⊢;k_ne;rw[nO];unfold ahV tSl Jo;refine aq rfl ⟨2,rfl,4,rfl,t,_,rfl,ht1,by show ¬(HT.cI 6 0 (some 2)=0/\HT.cI 6 6 (some 4)=6);decide,λtt Cv=>⟨tt,rfl,⟨_,bV.of au⟩,?_⟩⟩;have s2:=aH (o:=.tup [.str a,.str b]) Cv;refine ag7 (bV.of au) (s2 _ _ lX) ∅ λH2 x3 g1 g2=>?_;have arM:Held H2 D (aQ++[(ra,(nm,a,b,w,l))]):=by refine⟨g2 _ _ Q7<|s2 _ _ zZ.top,λx hx=>g2 _ _ (λz=>?_)<|s2 _ _<|zZ.row x hx,zZ.can⟩;have:=(bg.mp (bg.mp aeH).2).1;exact this (by rw[<-z];exact b9 hx)
  have ht2:=bV.off (s2.vW ht1) λo ho e=>g2 _ _ (λz=>by rw[z,s2 _ _ lX] at e;cases e;cases ho) e;have ajt:=bg.mpr ⟨λz=>(bg.mp aeH).1<|aa _ z,(bg.mp (bg.mp aeH).2).2⟩;refine ag5 arM ajt ht2 λH3 aju x4 a1 a2 a3 a4=>?_;have hsN:sA∉D::(aQ++[Prod.mk ra<|Prod.mk nm<|Prod.mk a<|Prod.mk b<|Prod.mk w l]).map (·.1):=λz=>by
   rcases aI.mp z with g|g
   .exact Q7 g.symm
   .exact(bg.mp (bg.mp aeH).2).1 g
  refine hq H3 aju a1 ?_ (a4 _ _ hsN g1) ?_ (λc o hc e=>?_) λc hc=>?_
  .rw[a2,bz];rfl
  .refine bg.mpr ⟨λz=>?_,bg.mpr ⟨λz=>?_,a3.nodup (bg.mp ajt).2⟩⟩
   .rcases aI.mp z with g|g
    .exact Q7 g
    .exact(bg.mp ajt).1<|a3.subset g
   .exact hsN<|aa _<|a3.subset z
  .have hcD:c≠D:=λz=>hc (by rw[z];exact ae ..);have hcs:c≠sA:=λz=>hc (by rw[z];exact aa _<|ae ..);refine a4 _ _ (λz=>?_)<|g2 _ _ hcs<|s2 _ _<|fr1 _ _ hcD e;rcases aI.mp z with g|g
   .exact hcD g
   .rw[eM] at g;rcases bc.mp g with g|g
    .exact hc<|aa _<|aa _ g
    .rw[aE.mp g,rC] at e;cases e
  .have:=a3.subset hc;rw[eM] at this;rcases bc.mp this with g|g
   .exact .inl g
   .rw[aE.mp g];exact .inr rC
 |_=>
  rw[ap<|by first|exact(by decide +kernel)|exact(by decide +kernel)|exact(by decide +kernel:¬decide (("narrow":Str)="lay")=true)];refine ag5 hH (bg.mpr ⟨Zx,Aw⟩) ht λH3 aju x4 a1 a2 a3 a4=>?_;refine hq H3 aju a1 a2 (a4 _ _ (λz=>?_) hs) ?_ (λc o hc e=>?_) λc hc=>.inl<|a3.subset hc
  .rcases aI.mp z with g|g
   .exact Q7 g.symm
   .exact Ii g
  .refine bg.mpr ⟨λz=>?_,bg.mpr ⟨λz=>Ii<|a3.subset z,a3.nodup Aw⟩⟩;rcases aI.mp z with g|g
   .exact Q7 g
   .exact Zx<|a3.subset g
  .refine a4 _ _ (λz=>?_) e;rcases aI.mp z with g|g
   .exact hc (by rw[g];exact ae ..)
   .exact hc<|aa _<|aa _ g
end
end qm
namespace VM
open PyProof.Rows L2
section
variable {K:Frag}
def sX (K:Frag)(H:Hp):GS->St->Prop
 |[],σ=>σ=[]
 |none::S,σ=>∃x r,σ=x::r/\sX K H S r
 |some (t,d)::S,σ=>∃v r,σ=some v::r/\t=.fr/\Has K H d v/\sX K H S r
theorem sX.len:∀{S:GS}{σ:St},sX K H S σ->S.length=σ.length
 |[],σ,h=>by rw[show σ=[] from h];rfl
 |none::S,σ,⟨x,r,e,h⟩=>by rw[e,ay,ay,sX.len h]
 |some (t,d)::S,σ,⟨v,r,e,_,_,h⟩=>by rw[e,ay,ay,sX.len h]
theorem sX.slot:∀{S:GS}{σ:St},sX K H S σ->∀(i:Nat) t d,S[i]? =some (some (t,d))->t=.fr/\∃v,σ[i]? =some (some v)/\Has K H d v
 |[],σ,_,i,t,d,e=>by simp at e
 |none::S,σ,⟨x,r,e,h⟩,i,t,d,e2=>by
  subst e;cases i with
  |zero=>cases e2
  |succ i=>exact sX.slot h i t d e2
 |some (t0,d0)::S,σ,⟨v,r,e,h1,h2,h⟩,i,t,d,e2=>by
  subst e;cases i with
  |zero=>cases e2;exact(h1,v,rfl,h2)
  |succ i=>exact sX.slot h i t d e2
def VI.at (h:sX K H S σ):VI K (λ_=>none) H H S H σ H where
 len:=h.len
 same:=Same.refl _
 gf:=Same.refl _
 new:=λ_ _ e=>.inl e
 sub:=Same.refl _
 slot:=λi t d e=>by let(rfl,v,e1,e2):=h.slot i t d e;exact(v,e1,e2)
 inj:=λi j t t' d d' v e1 _ o1 _ _ _=>by let(rfl,_):=h.slot i t d e1;cases o1
 pl:=λ_ _ _ e=>e
def Aa (h:sX K H S σ)(e:f S=some d)(q:∀v H',Same H H'->Has K H' d v->Q v H'):tV K RS f σ H Q:=
 (_,_,_,S,H,VI.at h,d,e,λv _ H' g hv=>q v H' g.hh<|Has.same g.fh hv)
def apD (h:sX K H S σ)(e:f S=some (.list ds))(q:∀a xs H',Same H H'->H a=none->H' a=some (.lst xs)->aR K H' ds xs->Q (.ref a) H'):tV K RN f σ H Q:=
 (_,_,_,S,H,VI.at h,_,e,λv F' H' g hv=>by
  let(Bu,a,xs,e1,rfl,h1,_,h3,h4):=hv;cases e1;exact q a xs H' g.hh h1 h3 (aR.same g.fh h4))
def sZ (h:sX K H S σ)(e:f S=some b)(q:∀H',Same H H'->Q b H'):kE K f σ H Q:=
 (_,_,_,S,H,VI.at h,b,e,λ_ H' g=>q H' g.hh)
end
end VM
namespace qm
open PyProof.Rows L2 VM
def cQ (rows:List Row):PyData:=.list<|rows.map bD
noncomputable def bU (xs:List Str):PyData:=.list<|xs.map .str
def EY (h:d.depth<=60)(c:d.canLay0=true):jO d d=some (.bool false):=by unfold jO;rw[ar h,gy _ c];rfl
theorem o8:∀(ds:List PyData) (n:Nat),(∀d∈ds,d.depth<=n)->depthAll ds<=n+1
 |[],_,_=>by simp[depthAll]
 |d::r,n,h=>by have h1:=h d<|ae ..;have h2:=o8 r n λx hx=>h x<|aa _ hx;simp only[depthAll];lk
theorem acL:∀(ds:List PyData),(∀d∈ds,d.canLay0=true)->canLayAll0 ds=true
 |[],_=>rfl
 |d::r,h=>by simp only[canLayAll0,bS];exact⟨h d<|ae ..,acL r λx hx=>h x<|aa _ hx⟩
def aeI (xs:List Str):(bU xs).depth<=60:=by have:=o8 (xs.map PyData.str) 5 (λd hd=>by let(x,_,rfl):=bp.mp hd;simp[PyData.depth]);simp only[bU,PyData.depth];lk
def ajv (h:∀x∈xs,(PyData.str x).canLay0=true):(bU xs).canLay0=true:=by simp only[bU,canLay0];exact acL _ λd hd=>by let(x,hx,rfl):=bp.mp hd;exact h x hx
section
variable {K:Frag}
theorem IK:∀{xs:List Str},(∀x∈xs,(PyData.str x).canLay0=true)->aR K H (xs.map .str) (xs.map V.str)
 |[],_=>rfl
 |x::r,h=>⟨_,_,rfl,⟨rfl,h x<|ae ..⟩,IK λy hy=>h y<|aa _ hy⟩
def Nb (h:H a=some (.lst<|xs.map V.str))(c:∀x∈xs,(PyData.str x).canLay0=true):Has K H (bU xs) (.ref a):=(a,_,rfl,aZ.of h,IK c)
def Held.avG (h:Held H D aQ):∀r∈aQ.map (·.2),(bD r).canLay0=true:=λr hr=>by let(x,hx,rfl):=bp.mp hr;exact h.can x hx
def Held.has (h:Held H D aQ):Has K H (cQ<|aQ.map (·.2)) (.ref D):=(D,_,rfl,aZ.of h.top,by rw[cm];exact zW h.row h.can)
end
noncomputable def fD (ns:List Int)(k:Int):Int:=ns.getD k.toNat 0
def ajw {ns:List Int}{k:Int}(h0:0<=k)(h1:k<ns.length):dI (ns.map PyData.int) k=some (.int<|fD ns k):=by
 obtain⟨j,rfl⟩:∃j:Nat,k=j:=⟨k.toNat,by lk⟩;have hj:j<ns.length:=by lk
 refine iC ?_;simp[hj,fD]
noncomputable def S9 (n:Int):Nat->Int
 |0=>n
 |k+1=>S9 n k/1e12
noncomputable def apE (x k:Int):Int:=((x*x+16807*x+k) % 2147483629)*((x*x+16807*x+k) % 2147483629) % 2147483587
def gR (c k:Int):Int:=if c % 2=0 then S9 ((if c<0 then -c else c)/2) k.toNat else apE ((c+7919*k) % 2147483629) k
def fZ (a:Int)(h:0<b):0<=a % b/\a % b<b:=⟨qr a ∅,oC a h⟩
def IV {ns:List Int}{k:Int}(h0:0<=k):cV [.list<|ns.map .int,.int k]=some (false,.int<|fD ns k):=by
 unfold cV Cm;kt_k;by_cases h:k<ns.length
 .kt_k;rw[ajw h0 h];rfl
 .kt_k;have e:fD ns k=0:=by unfold fD;grind
  rw[e]
def wY (h0:0<=k)(h1:k<=100):bQ [.int c,.int k]=some (false,.int<|gR c k):=by
 unfold bQ Ip gR;kt_k;by_cases h:c % 2=0
 .kt_k;have dw:=Y6 (t:=gN 3) (g:=bN (v2 j4 (vN 2)<|v2 Aj (vC<|.int 10)<|vC<|.int 12)<|gN 2)
   (λi=>[some (Tg.fr,.int c),some (Tg.fr,.int k),some (Tg.fr,.int<|S9 ((if c<0 then -c else c)/2) i),if i=0 then none else some (Tg.fr,.int<|(i - 1))]) (lF 0 k.toNat) 0 ?_
  .simp only[S9,↓reduceIte,i8,qy] at dw;rw[dw];rfl
  .intro j d hj;let(hj,rfl):=Dy hj;refine([some (Tg.fr,.int c),some (Tg.fr,.int k),some (Tg.fr,.int<|S9 ((if c<0 then -c else c)/2) j),some (Tg.fr,.int<|j)],?_,?_)
   .cases j<;>(z_go;simp[nio])
   .kt_k;simp[S9]
 .simp only[h,de];z_go;rw[su ⋯ ⋯ ∅ ∅];z_go;simp only[jh<|show(0:Int)<2147483629 by decide];z_go;have b:=fZ (c+7919*k) (show(0:Int)<2147483629 by decide);generalize (c+7919*k) % 2147483629=x at*
  rw[su ∅ ∅ ∅ ∅];z_go;rw[su ∅ ∅ ∅ ∅];z_go;simp only[jh<|show(0:Int)<2147483629 by decide];z_go;have b:=fZ (x*x+16807*x+k) (show(0:Int)<2147483629 by decide);unfold apE;generalize (x*x+16807*x+k) % 2147483629=y at*
  rw[su ∅ ∅ ∅ ∅];rfl
noncomputable def ig:Int:=1e58
def alu (c:Int):∃w,jD [.int c]=some (false,.int w)/\1<=w/\w<=ig:=by
 unfold jD Iu;z_go;simp only[wY (k:=1) ⋯<|by decide];kt_k;by_cases h:gR c 1 % 4=0
 .kt_k;exact(_,rfl,by unfold ig;have:=fZ c (show(0:Int)<1e58 by decide);lk)
 .kt_k;exact(_,rfl,by unfold ig;have:=fZ (gR c 1/4) (show(0:Int)<6 by decide);lk)
def arN (c:Int):∃w,lB [.int c]=some (false,.int w)/\1<=w/\w<=ig:=by
 unfold lB Gg;z_go;simp only[wY (k:=2) ⋯<|by decide];kt_k;by_cases h:gR c 2 % 6=0
 .kt_k;exact(_,rfl,by unfold ig;have:=fZ c (show(0:Int)<1e58 by decide);lk)
 .kt_k;exact(_,rfl,by unfold ig;have:=fZ (gR c 2/6) (show(0:Int)<5 by decide);lk)
noncomputable def abc:Str:="abcdefghijklmnopqrstuvwxyz"
def acM:abc.cps.toList=(List.range 26).map (· +97):=by decide +kernel
def Tc:abc.length=26:=by decide +kernel
def AZ (x:Str):Prop:=∀c∈x.cps.toList,97<=c/\c<=122
def apF:AZ abc:=λc hc=>by rw[acM] at hc;let(i,hi,rfl):=bp.mp hc;have:=ja.mp hi;lk
def Cw (z:Str)(lo hi:Option Int):(jK z lo hi).cps.toList=yJ z.cps.toList lo hi:=by unfold jK;simp
def AZ.cut (h:AZ z)(lo hi:Option Int):AZ (jK z lo hi):=λc hc=>by rw[Cw] at hc;exact h c<|ir<|fT hc
def lC (z:Str):z.length=z.cps.toList.length:=by simp[Str.length]
def Fd (z:Str)(lo hi:Option Int):(jK z lo hi).length<=z.length:=by rw[lC,Cw,lC z];unfold yJ;rw[dt,hV];lk
def Te (i:Int)(h:0<=i):HT.cI n d (some i)=min i.toNat n:=by show(if i<0 then _ else _)=_;rw[ap ∅]
def ag8 (z:Str):(jK z none<|some 11).length<=11:=by rw[lC,Cw];unfold yJ;rw[Te 11<|by decide,dt];lk
def amG (z:Str)(i:Nat)(h:i<=z.length):(jK z none<|some (i:Int)).cps.toList=z.cps.toList.take i:=by rw[Cw];unfold yJ;rw[Te (i) ∅,fS,←lC];show(z.cps.toList.drop 0).take (min i z.length - 0)=_;grind
def amH (z:Str)(i:Nat)(h:i<=z.length):(jK z (some (i:Int)) none).cps.toList=z.cps.toList.drop i:=by rw[Cw];unfold yJ;rw[Te (i) ∅,fS,←lC,i6 h];rw[c9];rw[hV,←lC];exact ax _
def wordOf (base:Str)(i j:Nat):Str:=(jK base none (some (i:Int))++⟨#[j+97]⟩)++jK base (some (i:Int)) none
def aaI (j:Nat)(h:i<=base.length):(wordOf base i j).cps.toList=base.cps.toList.take i++(j+97)::base.cps.toList.drop i:=by unfold wordOf;rw[J0,J0,amG base i h,amH base i h];simp
def ajx (h:i<=base.length)(e:wordOf base i j=wordOf base i k):j=k:=by have:=dT (λz:Str=>z.cps.toList) e;simp only[aaI _ h] at this;simp_all
theorem AZ.ascii (h:AZ z):ascii z=true:=by unfold L2.ascii;rw[oQ];intro c hc;have:=h c (by simpa using hc);lk
def AZ.can (h:AZ z):(PyData.str z).canLay0=true:=by rw[Cd];intro c hc;have:=h c hc;lk
def apG (h:97<=c/\c<=122):(yg sU sU (vC<|.str "a") (vN 0)<|vC<|.str "z") [some (.fr,.str ⟨#[c]⟩)]=some (.bool true):=by
 have e1:sU (.str "a") (.str ⟨#[c]⟩)=some (.bool true):=by
  show some (PyData.bool<|!decide ([c]<("a":Str).cps.toList))=_
  have:(("a":Str).cps.toList)=[97]:=by decide +kernel
  rw[this,cE (λz=>by rcases ny.mp z with g|⟨_,g⟩;lk;exact absurd g<|by simp)];rfl
 have e2:sU (.str ⟨#[c]⟩) (.str "z")=some (.bool true):=by
  show some (PyData.bool<|!decide (("z":Str).cps.toList<[c]))=_
  have:(("z":Str).cps.toList)=[122]:=by decide +kernel
  rw[this,cE (λz=>by rcases ny.mp z with g|⟨_,g⟩;lk;exact absurd g<|by simp)];rfl
 z_go;rw[e1];assumption
def amI (h:AZ z)(h1:1<=z.length)(h2:z.length<=12):eY z:=by
 refine⟨?_,h.can⟩;have el:zQ [.str z]=some (.int<|z.length):=by show(if z.length<=1000 then _ else _)=_;rw[ar ∅]
 have es:(lZ (ux<|vN 0) [none] (gN 0) jf<|yg sU sU (vC<|.str "a") (vN 0)<|vC<|.str "z") [some (.fr,.str z)]=some (.list<|z.cps.toList.map λ_=>.bool true):=by
  rw[Hj];unfold ux;have en:vN 0 [some (.fr,.str z)]=some (.str z):=by z_go
  rw[en];simp only[h.ascii,fA];unfold QC;rw[qz rfl (by rw[af,←lC];exact bT ∅)];rw[kZ (f:=λ_=>.bool true)]
  .z_go;rw[cm];rfl
  .intro d hd;let(c,hc,rfl):=bp.mp hd;exact⟨[some (.fr,.str ⟨#[c]⟩)],by z_go,rfl,apG<|h c hc⟩
 have ea:M8 [.list<|z.cps.toList.map λ_=>.bool true]=some (.bool true):=by show(boolsOf _).map _=_;rw[show(z.cps.toList.map λ_=>PyData.bool true)=(z.cps.toList.map λ_=>true).map PyData.bool by rw[cm];rfl,KR];simp
 have eB:(dU<|vB<|dW M8<|aC (lZ (ux<|vN 0) [none] (gN 0) jf<|yg sU sU (vC<|.str "a") (vN 0)<|vC<|.str "z") a0) [some (.fr,.str z)]=some false:=by unfold dU vB dW;rw[Px,es];show(match(match M8 [.list<|z.cps.toList.map λ_=>.bool true] with|some (.bool b)=>some b|_=>none) with|some b=>some !b|none=>none)=_;rw[ea];rfl
 have eA:(dU<|vB<|yg wG wG (vC<|.int 1) (dW zQ<|aC (vN 0) a0)<|vC<|.int 12) [some (.fr,.str z)]=some false:=by z_go;rw[el];z_go;have g1:decide ((1:Int)<=(z.length:Int))=true:=cf ∅;have g2:decide ((z.length:Int)<=12)=true:=cf ∅;kt_k
 have eT:(gG (dU<|vB<|yg wG wG (vC<|.int 1) (dW zQ<|aC (vN 0) a0)<|vC<|.int 12)<|dU<|vB<|dW M8<|aC (lZ (ux<|vN 0) [none] (gN 0) jf<|yg sU sU (vC<|.str "a") (vN 0)<|vC<|.str "z") a0) [some (.fr,.str z)]=some false:=by rw[Hi,eA,Pa,eB]
 unfold jY Ck;rw[Bx<|by rfl];show bFn (dJ _ Du cC [some (.fr,.str z)])=_;rw[G9,eT,OJ];rfl
def baseOf (n:Int):Str:=jK (jK abc (some<|n % 26)<|some<|n % 26+n/26 % 12) none<|some 11
def qM (n:Int):Nat:=(n/312 % ((baseOf n).length+1:Int)).toNat
def wordsOf (n:Int)(many:Nat):List Str:=(List.range many).map λj=>wordOf (baseOf n) (qM n) j
def Xy (n:Int):qM n<=(baseOf n).length:=by unfold qM;have:=fZ (n/312) (show(0:Int)<((baseOf n).length+1:Int) by lk);lk
def acN (n:Int):AZ (baseOf n):=(apF.cut _ _).cut _ _
def amJ (n:Int)(hj:j<26):eY (wordOf (baseOf n) (qM n) j):=by
 have ec:=aaI j<|Xy n;have hb:=ag8<|jK abc (some<|n % 26)<|some<|n % 26+n/26 % 12;have xV:(baseOf n).length<=11:=hb;have hl:(wordOf (baseOf n) (qM n) j).length=(baseOf n).length+1:=by rw[lC,ec,aw,ay,dt,hV,←lC,i6<|Xy n];have:=Xy n;lk
 refine amI (λc hc=>?_) ∅ ∅;rw[ec] at hc;rcases bc.mp hc with g|g
 .exact acN n c<|fT g
 .rcases aI.mp g with g|g
  .omega
  .exact acN n c<|ir g
def Nf (n:Int)(hm:many<=8):∀x∈wordsOf n many,eY x:=λx hx=>by let(j,hj,rfl):=bp.mp hx;have:=ja.mp hj;exact amJ n ∅
def Ng (n:Int)(many:Nat):(wordsOf n many).Nodup:=by refine List.Pairwise.map _ (λa b h=>?_) pz;exact λe=>h<|ajx (Xy n) e
def IW (n:Int)(many:Nat):(wordsOf n many).length=many:=by unfold wordsOf;rw[af,ky]
def J2 {lo hi:Option Int}(h1:f S=some (.str x))(h2:l S=some lo)(h3:u S=some hi)(h:x.length<=1000):Av f l u S=some (.str<|jK x lo hi):=by unfold Av;lk
def aaJ (h:x.length+y.length<=1000):J1 (.str x) (.str y)=some (.str<|x++y):=ar h
def amK {j c:Nat}(h:x.length<=1000)(e:x.cps.toList[j]? =some c):aae (.str x) (.int (j:Int))=some (.str ⟨#[c]⟩):=by show(if x.length<=1000 then _ else _)=_;rw[ar h,iC e];rfl
def ajy (h:x.length<=1000):zQ [.str x]=some (.int (x.length:Int)):=ar h
def amL (x y:Str):(x++y).length=x.length+y.length:=by rw[lC,J0,aw,←lC,←lC]
def Tf (h0:0<=k)(h1:k<=100){many:Nat}(hm:many<=8):j7 [.int c,.int (many:Int),.int k]=some (true,bU<|wordsOf (gR c k) many):=by
 unfold j7 Ir;z_go;simp only[wY h0 h1];z_go;generalize gR c k=n;have hb1:(jK abc (some<|n % 26)<|some<|n % 26+n/26 % 12).length<=26:=by rw[<-Tc];exact Fd _ _ _
 have hb2:(baseOf n).length<=11:=ag8 _;rw[J2 (x:=abc) (lo:=some (n % 26)) (hi:=some (n % 26+n/26 % 12)) (by z_go;rfl) (by z_go;simp only[jh (show(0:Int)<26 by decide)])
  (by z_go;simp only[jh (show(0:Int)<26 by decide)];z_go;simp only[oR (show(0:Int)<26 by decide) ⋯];z_go;simp only[jh (show(0:Int)<12 by decide)];z_go) (by rw[Tc];decide)]
 z_go;rw[J2 (x:=jK abc (some<|n % 26)<|some<|n % 26+n/26 % 12) (lo:=none) (hi:=some 11) (by z_go) (by z_go) (by z_go) ∅];z_go;rw[show jK (jK abc (some<|n % 26)<|some<|n % 26+n/26 % 12) none (some 11)=baseOf n from rfl];kt_k;rw[ajy ∅];z_go;rw[jh ∅];z_go;have ea:n/312 % (((baseOf n).length)+1)=(qM n):=by unfold qM;have:=fZ (n/312) (show(0:Int)<((baseOf n).length+1:Int) by lk);lk
 rw[ea];kt_k;rw[qz rfl (by rw[qy];exact bT ∅)];rw[kZ (f:=λd=>match d with|.int j=>.str (wordOf (baseOf n) (qM n) j.toNat)|d=>d)]
 .z_go;unfold bU wordsOf lF;simp
 .intro d hd;let(j,hj,rfl):=ki hd;have Ky:j<many:=by rw[qy,fS] at hj;exact hj
  have ed:(lF 0 (many:Int).toNat)[j]=.int (j):=by have:=(Dy (lo:=0) (n:=(many:Int).toNat) (j:=j) (d:=(lF 0 (many:Int).toNat)[j])<|by simp[hj]).2;lk
  rw[ed];refine([some (.fr,.int<|j),some (.fr,.str<|baseOf n),some (.fr,.str abc),some (.fr,.int<|qM n)],by z_go;rfl,rfl,?_);have e1:(Av (vN 1) oN<|oI<|vN 3) [some (.fr,.int (j:Int)),some (.fr,.str<|baseOf n),some (.fr,.str abc),some (.fr,.int (qM n:Int))]=some (.str<|jK (baseOf n) none<|some (qM n:Int)):=
   J2 (by z_go) (by z_go) (by z_go) ∅
  have e2:(Av (vN 1) (oI<|vN 3) oN) [some (.fr,.int (j:Int)),some (.fr,.str<|baseOf n),some (.fr,.str abc),some (.fr,.int (qM n:Int))]=some (.str<|jK (baseOf n) (some (qM n:Int)) none):=
   J2 (by z_go) (by z_go) (by z_go) ∅
  have e3:aae (.str abc) (.int (j:Int))=some (.str ⟨#[j+97]⟩):=amK (by rw[Tc];decide) (by rw[acM,av,iO ∅];rfl);have l1:=Fd (baseOf n) none<|some<|qM n;have l2:=Fd (baseOf n) (some<|qM n) none;have l3:(⟨#[j+97]⟩:Str).length=1:=rfl;rw[JD,JD,e1,R3];z_go;rw[e3,R4,aaJ (by rw[l3];lk),R3,e2,R4,aaJ (by rw[amL,l3];lk)];rfl
def J3 (x:Str)(xs:List Str):Ig true (.str x) (.list<|xs.map .str)=some (.bool<|!(xs.any λy=>y==x)):=by show(match strsOf (xs.map .str) with|some xs=>some (PyData.bool<|if true=true then !(xs.any λy=>y==x) else xs.any λy=>y==x)|none=>none)=_;rw[QB];rfl
noncomputable def pR (uR:List Str)(nms:List Str):Option Str:=uR.find? λx=>!(nms.any λy=>y==x)
theorem Q8 (nms:List Str):∀(uR:List Str) (x3:Option (Tg×PyData)),(x3=none\/∃z,x3=some (.fr,.str z))->
  (∃w,pR uR nms=some w/\eE (gN 3) (dJ (vB<|v2 (Ig true) (vN 3)<|vN 2) (fX 3) cC) (uR.map .str) [some (.fr,L1),some (.fr,L2),some (.fr,.list<|nms.map .str),x3]=.ret [some (.fr,L1),some (.fr,L2),some (.fr,.list<|nms.map .str),some (.fr,.str w)] false (.str w))
 \/pR uR nms=none
 |[],_,_=>.inr rfl
 |w::ws,x3,hx=>by
  by_cases h:(nms.any λy=>y==w)=true
  .have ih:=Q8 (L1:=L1) (L2:=L2) nms ws (some (.fr,.str w))<|.inr ⟨w,rfl⟩;have e:pR (w::ws) nms=pR ws nms:=by unfold pR;rw[j1,h];rfl
   rw[e];rcases ih with⟨v,g1,g2⟩|g
   .refine .inl ⟨v,g1,?_⟩;rw[az,eE];rcases hx with rfl|⟨z,rfl⟩<;>(z_go;rw[J3,h];z_go;exact g2)
   .exact .inr g
  .have h':(nms.any λy=>y==w)=false:=j2.mpr h;refine .inl ⟨w,?_,?_⟩
   .unfold pR;rw[j1,h'];rfl
   .rw[az,eE];rcases hx with rfl|⟨z,rfl⟩<;>(z_go;rw[J3,h'];z_go)
def amM (hl:rows.length<1000)(h:pR uR (rows.map (·.1))=some w):mL [bU uR,cQ rows]=some (false,.str w):=by
 have eL:(lZ (bZ<|vF 1) [none] (gN 0) jf<|v2 aM (vN 0)<|vC<|.int 0) [some (.fr,bU uR),some (.fr,cQ rows),none,none]=some (.list<|(rows.map (·.1)).map .str):=by
  unfold cQ;z_go;rw[qz rfl (by rw[af];exact bT ∅)];rw[kZ (f:=λd=>match d with|.list (x::_)=>x|d=>d)]
  .z_go;rw[cm,cm];rfl
  .intro d hd;let(r,_,rfl):=bp.mp hd;exact(_,rfl,rfl,rfl)
 rcases Q8 (rows.map (·.1)) uR none (.inl rfl) with⟨v,g1,g2⟩|g
 .rw[h] at g1;cases g1;unfold mL Iv;rw[Bx<|by rfl];show bFn (aD _ _ [some (.fr,bU uR),some (.fr,cQ rows),none,none])=_;rw[xr,xu,eL];unfold bU at g2 ⊢;z_go;rw[g2];rfl
 .omega
noncomputable def cG.dat:cG->PyData
 |.lay nm a b w l=>.tuple [.str "lay",.str nm,.str a,.str b,.int w,.int l]
 |.shut nm=>.tuple [.str "shut",.str nm]
 |.widen nm k=>.tuple [.str "widen",.str nm,.int k]
 |.narrow nm k=>.tuple [.str "narrow",.str nm,.int k]
structure Ti (aY names:List Str)(rows:List Row):Prop where
 r2:2<=aY.length
 r5:aY.length<=5
 rn:aY.Nodup
 n8:names.length=8
 nn:(rows.map (·.1)).Nodup
 sub:∀r∈rows,r.1∈names
 wd:∀r∈rows,1<=r.2.2.2.1
def tu (Wt:Int)(aY names:List Str)(rows:List Row):cG->Prop
 |.lay nm a b w l=>nm∈names/\nm∉rows.map (·.1)/\a∈aY/\b∈aY/\a≠b/\1<=w/\1<=l/\w<=Wt/\l<=Wt
 |.shut nm=>nm∈rows.map (·.1)
 |.widen nm k=>nm∈rows.map (·.1)/\1<=k/\k<=Wt
 |.narrow nm k=>∃r∈rows,r.1=nm/\1<=k/\k<r.2.2.2.1
def Fe {xs ys:List Str}(h:xs.Nodup)(s:∀x∈xs,x∈ys):xs.length<=ys.length:=by
 induction xs generalizing ys with
 |nil=>simp
 |cons x xs ih=>let(h1,h2):=bg.mp h;have hx:=s x<|ae ..;have:=ih h2 λy hy=>(List.mem_erase_of_ne (λz:y=x=>h1 (by rw[<-z];exact hy))).mpr (s y<|aa _ hy);grind
def Ti.len (h:Ti aY names rows):rows.length<=8:=by
 have:=Fe h.nn λx hx=>by let(r,hr,rfl):=bp.mp hx;exact h.sub r hr
 rw[af,h.n8] at this;exact this
def aeJ {names nms:List Str}(hn:names.Nodup)(h:nms.length<names.length):∃w,pR names nms=some w/\w∈names/\w∉nms:=by
 cases e:pR names nms with
 |some w=>
  refine(w,rfl,List.mem_of_find?_eq_some e,λhw=>?_);have:=List.find?_some e;have h2:(nms.any λy=>y==w)=true:=List.any_eq_true.mpr (w,hw,by simp);rw[h2] at this;cases this
 |none=>
  have:=List.find?_eq_none.mp e;have:=Fe hn λx hx=>by have:=this x hx;simpa using this
  lk
def aaK {xs:List Str}(h:i<xs.length):aM (.list<|xs.map .str) (.int (i:Int))=some (.str xs[i]):=by exact iC<|by simp[h]
def ajz {xs:List Row}(h:i<xs.length):aM (.list<|xs.map bD) (.int (i:Int))=some (bD xs[i]):=by exact iC<|by simp[h]
def eq_nil (rows:List Row):gU (.list<|rows.map bD) (.list [])=some (.bool<|decide<|rows=[]):=by
 unfold gU;have hd:(PyData.list<|rows.map bD).depth<=60:=by have:=o8 (rows.map bD) 10 (λd hd=>by let(x,_,rfl):=bp.mp hd;simp[bD,PyData.depth,depthAll]);simp only[PyData.depth];lk
 rw[ar hd];cases rows with
 |nil=>rfl
 |cons r rs=>rfl
def aeK:VS:=(aD (bN (v2 fH (v2 j4 (vN 4) (vC (.int 9))) (dW fV (aC (vN 2) a0))) (gN 6))
 (aD (bN (v2 fH (v2 cu (v2 cu (vN 6) (vC (.int 1))) (v2 fH (v2 j4 (vN 4) (vC (.int 90))) (v2 jm (dW fV (aC (vN 2) a0)) (vC (.int 1))))) (dW fV (aC (vN 2) a0))) (gN 7))
 (cN (fJ (aC (vC (.str "lay")) (aC (bH mL (aC (vF 3) (aC (vF 1) a0))) (aC (v2 aM (vN 2) (vN 6)) (aC (v2 aM (vN 2) (vN 7)) (aC (bH jD (aC (vF 0) a0)) (aC (bH lB (aC (vF 0) a0)) a0))))))))))
def Cy:VS:=(aD (bN (v2 aM (vN 1) (v2 fH (v2 j4 (vN 4) (vC (.int 9))) (dW fV (aC (vN 1) a0)))) (gN 8))
 (aD (dJ (vB (v2 gU (vN 5) (vC (.int 5))))
 (cN<|fJ<|aC (vC<|.str "shut")<|aC (v2 aM (vN 8)<|vC<|.int 0) a0)
 cC)
 (aD (dJ (VM.fP (vB (v2 gU (vN 5) (vC (.int 6)))) (vB (v2 tM (v2 aM (vN 8) (vC (.int 3))) (vC (.int 1)))))
 (cN<|fJ<|aC (vC<|.str "narrow")<|aC (v2 aM (vN 8)<|vC<|.int 0)<|aC (v2 cu (vC<|.int 1)<|v2 fH (v2 j4 (vN 4)<|vC<|.int 90)<|dW rT<|aC (v2 jm (v2 aM (vN 8)<|vC<|.int 3)<|vC<|.int 1)<|aC (vC<|.int 3) a0) a0)
 cC)
 (cN (fJ (aC (vC (.str "widen")) (aC (v2 aM (vN 8) (vC (.int 0))) (aC (bH jD (aC (vF 0) a0)) a0))))))))
def amN:K4=(aD (bN (bH bQ (aC (vF 0) (aC (vC (.int 0)) a0))) (gN 4))
 (aD (bN (v2 fH (vN 4) (vC (.int 9))) (gN 5))
 (aD (dJ (gG (vB (v2 gU (vN 1) (fK a0))) (VM.fP (vB (v2 mQ (vN 5) (vC (.int 5)))) (vB (v2 mQ (dW fV (aC (vN 1) a0)) (dW fV (aC (vN 3) a0))))))
 aeK cC) Cy))):=rfl
def slot (c n:Int)(rows:List Row)(aY names:List Str):GS:=[some (.fr,.int c),some (.fr,.list<|rows.map bD),some (.fr,.list<|aY.map .str),some (.fr,.list<|names.map .str),some (.fr,.int n),some (.fr,.int<|n % 9),none,none,none]
def layB {c n:Int}(h:Ti aY names rows)(Q9:names.Nodup)(dZ:rows.length<names.length):∃d S',aeK (slot c n rows aY names)=.ret S' false d.dat/\tu ig aY names rows d:=by
 have r2:=h.r2;have n8:=h.n8;let(w,hw1,YM,hw3):=aeJ (nms:=rows.map (·.1)) Q9 (by rw[af];exact dZ);have hf:=amM ∅ hw1;unfold cQ bU at hf;let(wd,e1,e2):=alu c;let(ln,e3,e4):=arN c;have ma:=fZ (n/9) (show(0:Int)<(aY.length:Int) by lk);have ms:=fZ (n/90) (show(0:Int)<(aY.length:Int) - 1 by lk);obtain⟨ia,hia⟩:∃ia:Nat,n/9 % (aY.length)=ia:=⟨(n/9 % (aY.length)).toNat,by lk⟩;have apH:ia<aY.length:=by lk
 obtain⟨st,bh⟩:∃st,n/90 % ((aY.length) - 1)=st:=⟨(n/90 % ((aY.length) - 1)).toNat,by lk⟩;have mb:=fZ ((ia)+1+st) (show(0:Int)<(aY.length:Int) by lk);obtain⟨ib,hib⟩:∃ib:Nat,((ia)+1+st) % (aY.length)=ib:=⟨(((ia)+1+st) % (aY.length)).toNat,by lk⟩;have apI:ib<aY.length:=by lk
 have bA:ia≠ib:=λg=>by
  subst g;have h1:((ia)+1+st)<(aY.length)\/(aY.length)<=((ia)+1+st):=by lk
  rcases h1 with h1|h1
  .rw[pb ∅ h1] at hib;lk
  .have e:((ia)+1+st) % (aY.length)=((ia)+1+st) - (aY.length):=by rw[<-Int.sub_emod_right,pb ∅ ∅]
   lk
 refine⟨.lay w aY[ia] aY[ib] wd ln,[some (.fr,.int c),some (.fr,.list<|rows.map bD),some (.fr,.list<|aY.map .str),some (.fr,.list<|names.map .str),some (.fr,.int n),some (.fr,.int<|n % 9),some (.fr,.int<|ia),some (.fr,.int<|ib),none],?_,YM,hw3,fR apH,fR apI,λg=>bA<|(hX h.rn).mp g,e2.1,e4.1,e2.2,e4.2⟩;unfold aeK slot;z_go;simp only[oR (show(0:Int)<9 by decide) ⋯];z_go;simp only[af];rw[jh ∅,hia];z_go;simp only[oR (show(0:Int)<90 by decide) ⋯];z_go;simp only[af];rw[jh ∅,bh];z_go;simp only[af];rw[jh ∅,hib];z_go;rw[hf];z_go;rw[show dI (aY.map PyData.str) (ia:Int)=some (.str aY[ia]) from aaK apH];z_go;rw[show dI (aY.map PyData.str) (ib:Int)=some (.str aY[ib]) from aaK apI];z_go;rw[e1];z_go;rw[e3];rfl
def arO {c n:Int}(h:Ti aY names rows)(bA:rows≠[]):∃d S',Cy (slot c n rows aY names)=.ret S' false d.dat/\tu ig aY names rows d:=by
 have MN:=iN.mpr bA;have ma:=fZ (n/9) (show(0:Int)<(rows.length:Int) by lk);obtain⟨i,hi⟩:∃i:Nat,n/9 % (rows.length)=i:=⟨(n/9 % (rows.length)).toNat,by lk⟩;have zL:i<rows.length:=by lk
 have hm:=fR zL;have hwd:=h.wd _ hm;have tQ:dI (rows.map bD) (i:Int)=some (bD rows[i]):=ajz zL;generalize rows[i]=r at hm hwd tQ;have hmn:=b9 (f:=λx:Row=>x.1) hm;by_cases c5:n % 9=5
 .refine⟨.shut r.1,[some (.fr,.int c),some (.fr,.list<|rows.map bD),some (.fr,.list<|aY.map .str),some (.fr,.list<|names.map .str),some (.fr,.int n),some (.fr,.int<|n % 9),none,none,some (.fr,bD r)],?_,hmn⟩;unfold Cy slot;z_go;simp only[oR (show(0:Int)<9 by decide) ⋯];z_go;simp only[af];rw[jh ∅,hi];z_go;rw[tQ];z_go;simp only[c5,dP];rfl
 .by_cases c6:n % 9=6/\1<r.2.2.2.1
  .have mm:=fZ (n/90) (show(0:Int)<min (r.2.2.2.1 - 1) 3 by lk);refine⟨.narrow r.1<|1+n/90 % min (r.2.2.2.1 - 1) 3,[some (.fr,.int c),some (.fr,.list<|rows.map bD),some (.fr,.list<|aY.map .str),some (.fr,.list<|names.map .str),some (.fr,.int n),some (.fr,.int<|n % 9),none,none,some (.fr,bD r)],?_,r,hm,rfl,by lk,by lk⟩;unfold Cy slot;z_go;simp only[oR (show(0:Int)<9 by decide) ⋯];z_go;simp only[af];rw[jh ∅,hi];z_go;rw[tQ];z_go;have d5:=cE c5;have d6:=cf c6.1;have d1:=cf c6.2;simp only[d5];z_go;simp only[d6];unfold bD;z_go;simp only[d1];z_go;simp only[oR (show(0:Int)<90 by decide) ⋯];z_go;rw[show(if 3<r.2.2.2.1 - 1 then(3) else r.2.2.2.1 - 1)=min (r.2.2.2.1 - 1) 3 by split<;>lk];rw[jh ∅];rfl
  .let(wd,e1,e2):=alu c;refine⟨.widen r.1 wd,[some (.fr,.int c),some (.fr,.list<|rows.map bD),some (.fr,.list<|aY.map .str),some (.fr,.list<|names.map .str),some (.fr,.int n),some (.fr,.int<|n % 9),none,none,some (.fr,bD r)],?_,hmn,e2⟩;unfold Cy slot;z_go;simp only[oR (show(0:Int)<9 by decide) ⋯];z_go;simp only[af];rw[jh ∅,hi];z_go;rw[tQ];z_go;have d5:=cE c5;simp only[d5];unfold bD;z_go;by_cases g6:n % 9=6
   .have d6:=cf g6;simp only[d6];z_go;have:=cE<|λz=>c6 ⟨g6,z⟩;simp only[this];z_go;rw[e1];rfl
   .have d6:=cE g6;simp only[d6];z_go;rw[e1];rfl
def apJ (h:Ti aY names rows)(Q9:names.Nodup):∃d,nR [.int c,cQ rows,bU aY,bU names]=some (false,d.dat)/\tu ig aY names rows d:=by
 have h8:=h.len;have n8:=h.n8;unfold nR;rw[amN];unfold cQ bU;z_go;simp only[wY (k:=0) ⋯<|by decide];z_go;simp only[jh<|show(0:Int)<9 by decide];z_go;generalize gR c 0=n;rw[eq_nil];z_go;by_cases Tj:rows=[]
 .simp only[Tj,dP];z_go;let(d,S',g1,g2):=layB h Q9 (by rw[Tj,n8];decide);rw[Tj] at g1;refine(d,?_,by rw[<-Tj];exact g2);unfold slot at g1;rw[eQ] at g1;rw[g1];rfl
 .simp only[Tj,de];z_go;have fin:∃d,bFn (Cy<|slot c n rows aY names)=some (false,d.dat)/\tu ig aY names rows d:=by let(d,S',g1,g2):=arO h Tj;exact(d,by rw[g1];z_go,g2)
  by_cases c5:n % 9<5
  .simp only[c5,dP];z_go;simp only[af];by_cases dZ:rows.length<names.length
   .have e:decide ((rows.length:Int)<(names.length:Int))=true:=cf ∅;simp only[e];z_go;let(d,S',g1,g2):=layB h Q9 dZ;refine(d,?_,g2);unfold slot at g1;rw[g1];rfl
   .have e:decide ((rows.length:Int)<(names.length:Int))=false:=cE ∅;simp only[e];assumption
  .simp only[c5,de];assumption
def LN (seen:List Str)(x:Str×Q4)(r:Row):Prop:=x.1=r.1/\(∃i:Nat,x.2.1=i/\seen[i]? =some r.2.1)/\(∃j:Nat,x.2.2.1=j/\seen[j]? =some r.2.2.1)/\x.2.2.2.1=r.2.2.2.1/\x.2.2.2.2=r.2.2.2.2
def Fg {seen more:List Str}{i:Nat}(h:seen[i]? =some x):(seen++more)[i]? =some x:=by rw[bP (ab.mp h).1];exact h
def LN.grow {seen more:List Str}{x:Str×Q4}(h:LN seen x r):LN (seen++more) x r:=by let(h1,(i,h2,h3),(j,h4,h5),h6,h7):=h;exact(h1,(i,h2,Fg h3),(j,h4,Fg h5),h6,h7)
structure Ok (aY names:List Str)(rows:List Row)(nums:List (Str×Int))(ls:List (Str×Q4)):Prop where
 dr:Ti aY names rows
 num:∀(i:Nat) x,nums[i]? =some x->x.2=(i:Int)
 nd:(seenOf nums).Nodup
 sub:∀x∈seenOf nums,x∈aY
 lr:Paired (LN<|seenOf nums) ls rows
def jE {seen:List Str}(h:Paired (LN seen) ls rows):ls.map (·.1)=rows.map (·.1):=by
 induction h with
 |nil=>rfl
 |cons h _ ih=>rw[az,az,ih,h.1]
theorem Ja {nm:Str}:∀{l:List (Str×α)},nm∉l.map (·.1)->gq nm l=none
 |[],_=>rfl
 |x::r,h=>by rw[gq,ap λe=>h (by rw[az,e];exact ae ..)];exact Ja λz=>h (by rw[az];exact aa _ z)
theorem xM {nm:Str}:∀{l:List (Str×α)},nm∈l.map (·.1)->∃v,gq nm l=some v
 |[],h=>by cases h
 |x::r,h=>by
  rw[gq];by_cases e:x.1=nm
  .simp_all
  .rw[ap e];refine xM ?_;grind
theorem aaL {nm:Str}:∀{l:List (Str×α)},gq nm l=some v->∃i:Nat,l[i]? =some (nm,v)
 |[],h=>by cases h
 |x::r,h=>by
  rw[gq] at h;by_cases e:x.1=nm
  .rw[ar e] at h;cases h;exact⟨0,by rw[<-e];rfl⟩
  .rw[ap e] at h;let(i,hi):=aaL h;exact⟨i+1,hi⟩
theorem Jb {nm:Str}:∀{l:List (Str×α)}{x:Str×α},(l.map (·.1)).Nodup->x∈l->x.1=nm->gq nm l=some x.2
 |[],x,_,h,_=>by cases h
 |y::r,x,hn,h,e=>by
  rw[az] at hn;let(h1,h2):=bg.mp hn;rw[gq];rcases aI.mp h with g|g
  .rw[ar (by rw[<-g];exact e),g]
  .rw[ap λz=>h1 (by rw[z,←e];exact b9 (f:=λx:Str×α=>x.1) g)];exact Jb h2 g e
def Nh {nm:Str}{l:List (Str×α)}(h:nm∉l.map (·.1)):lV nm v l=l++[(nm,v)]:=by unfold lV;grind
def ajA {nm:Str}{l:List (Str×α)}(h:nm∈l.map (·.1)):lV nm v l=l.map λx=>if x.1=nm then(x.1,v) else x:=by unfold lV;grind
theorem Vv:∀{rs:List Str}{nums:List (Str×Int)},rs.Nodup->(∀r∈rs,r∉seenOf nums)->(∀(i:Nat) x,nums[i]? =some x->x.2=(i:Int))->seenOf (oZ nums rs)=seenOf nums++rs/\∀(i:Nat) x,(oZ nums rs)[i]? =some x->x.2=(i:Int)
 |[],nums,_,_,hn=>⟨by rw[df];rfl,hn⟩
 |r::rs,nums,h1,h2,hn=>by
  let(a1,a2):=bg.mp h1;have e:oZ nums (r::rs)=oZ (nums++[(r,(nums.length:Int))]) rs:=by show oZ (lV r (nums.length:Int) nums) rs=_;rw[Nh<|h2 r<|ae ..]
  have es:seenOf (nums++[(r,(nums.length:Int))])=seenOf nums++[r]:=by unfold seenOf;rw[bz];rfl
  rw[e];let(b1,b2):=Vv (rs:=rs) (nums:=nums++[(r,(nums.length:Int))]) a2 (λx hx=>by
   rw[es];intro z;rcases bc.mp z with g|g
   .exact h2 x (aa _ hx) g
   .exact a1 (by rw[<-aE.mp g];exact hx)) (λi x ex=>by
   rcases Nat.lt_or_ge i nums.length with g|g
   .rw[bP g] at ex;exact hn i x ex
   .rw[cr g] at ex
    have:i - nums.length=0:=by
     rcases Nat.eq_zero_or_pos (i - nums.length) with z|z
     .exact z
     .rw[bu (by simp;lk)] at ex;cases ex
    rw[this] at ex;cases ex;show(nums.length:Int)=i;lk)
  exact⟨by rw[b1,es,dm];rfl,b2⟩
def vK {r:Str}:(gq r nums).isNone=true↔r∉seenOf nums:=by
 constructor
 .intro h z;let(v,e):=xM z;grind
 .intro h;rw[Ja h];rfl
def acO {s:List Str}:(s.any λy=>y==r)=true↔r∈s:=by simp
def acP {nums:List (Str×Int)}(vp:a≠b):o7 (seenOf nums) [a,b]=seenOf nums++newOf nums [a,b]:=by
 have step:∀s (r:Str),(if(s.any λy=>y==r)=true then s else s++[r])=if r∈s then s else s++[r]:=λs r=>by simp
 show(if((if((seenOf nums).any λy=>y==a)=true then seenOf nums else seenOf nums++[a]).any λy=>y==b)=true then(if((seenOf nums).any λy=>y==a)=true then seenOf nums else seenOf nums++[a]) else(if((seenOf nums).any λy=>y==a)=true then seenOf nums else seenOf nums++[a])++[b])=_;rw[step,step];unfold newOf;by_cases ha:a∈seenOf nums
 .rw[ar ha];have na:=j2.mpr λz=>vK.mp z ha;by_cases hb:b∈seenOf nums
  .rw[ar hb];have nb:=j2.mpr λz=>vK.mp z hb;grind
  .rw[ap hb];have nb:=vK.mpr hb;grind
 .rw[ap ha];have na:=vK.mpr ha;by_cases hb:b∈seenOf nums
  .rw[ar<|bc.mpr<|.inl hb];have nb:=j2.mpr λz=>vK.mp z hb;grind
  .have nb:=vK.mpr hb;grind
def ag9 {r:Str}(hn:∀(i:Nat) x,nums[i]? =some x->x.2=(i:Int))(h:r∈seenOf nums):∃i:Nat,gq r nums=some (i:Int)/\(seenOf nums)[i]? =some r:=by let(v,e):=xM h;let(i,hi):=aaL e;have:=hn i _ hi;exact(i,by rw[e,←this],by unfold seenOf;rw[av,hi];rfl)
def Gk (h:Paired R l r)(hpq:∀x y,R x y->p x=q y):Paired R (l.filter p) (r.filter q):=by
 induction h with
 |nil=>exact .nil
 | @cons a b _ _ h _ ih=>
  rw[eR,eR,hpq a b h];split
  .exact .cons h ih
  .exact ih
def aeL (h:Paired R l r):(∀x∈l,∀y,R x y->R (f x) (g y))->Paired R (l.map f) (r.map g):=by
 induction h with
 |nil=>intro _;exact .nil
 | @cons a b _ _ h _ ih=>intro k;exact .cons (k a (ae ..) b h)<|ih λx hx=>k x<|aa _ hx
def Ld (h:Paired R l r):∀{y:Row},y∈r->∃x∈l,R x y:=by
 induction h with
 |nil=>intro y hy;cases hy
 | @cons a b _ _ h _ ih=>
  intro y hy;rcases aI.mp hy with g|g
  .rw[g];exact(a,ae ..,h)
  .let(x,hx,e):=ih g;exact(x,aa _ hx,e)
def aha (nm:Str)(k:Int)(rows:List Row):(rows.map<|dg nm k).map (·.1)=rows.map (·.1):=by rw[cm];refine dv λr _=>?_;show(dg nm k r).1=r.1;unfold dg;split<;>rfl
def ajB {rows:List Row}(h:(rows.map (·.1)).Nodup)(hr:r∈rows)(hs:s∈rows)(e:r.1=s.1):r=s:=by
 induction rows with
 |nil=>grind
 |cons x xs ih=>grind
section
variable {ls:List (Str×Q4)}
theorem Ok.len (h:Ok aY names rows nums ls):ls.length<=8/\nums.length<=5:=by
 have h1:=h.lr.length;have h2:=h.dr.len;have h3:=Fe h.nd h.sub;have h4:=h.dr.r5;have h5:(seenOf nums).length=nums.length:=by unfold seenOf;rw[af]
 lk
def Ok.chg (h:Ok aY names rows nums ls){nm:Str}{k:Int}(hm:nm∈rows.map (·.1))(hw:∀r∈rows,r.1=nm->1<=r.2.2.2.1+k):
  ∃q,gq nm ls=some q/\(∀r∈rows,r.1=nm->q.2.2.1=r.2.2.2.1)/\Ok aY names (rows.map<|dg nm k) nums (lV nm (q.1,q.2.1,q.2.2.1+k,q.2.2.2) ls):=by
 have en:=jE h.lr;have zT:nm∈ls.map (·.1):=by rw[en];exact hm
 have hnl:(ls.map (·.1)).Nodup:=by rw[en];exact h.dr.nn
 let(q,hq):=xM zT;refine(q,hq,λr hr e=>?_,(h.dr.r2,h.dr.r5,h.dr.rn,h.dr.n8,by rw[aha];exact h.dr.nn,λr hr=>?_,λr hr=>?_),h.num,h.nd,h.sub,?_)
 .let(x,hx,hxr):=Ld h.lr hr;have:=Jb hnl hx<|hxr.1.trans e;rw[hq] at this;cases this;exact hxr.2.2.2.1
 .let(s,hs,rfl):=bp.mp hr
  have:(dg nm k s).1=s.1:=by unfold dg;split<;>rfl
  rw[this];exact h.dr.sub s hs
 .let(s,hs,rfl):=bp.mp hr;unfold dg;split
  .rename_i e;exact hw s hs e
  .exact h.dr.wd s hs
 .rw[ajA zT];refine aeL h.lr λx hx y hxy=>?_;unfold dg;by_cases e:x.1=nm
  .have:=Jb hnl hx e;rw[hq] at this;cases this;rw[ar e,ar<|hxy.1.symm.trans e];let(h1,h2,h3,h4,h5):=hxy;exact(h1,h2,h3,by show x.2.2.2.1+k=y.2.2.2.1+k;rw[h4],h5)
  .rw[ap e,ap λz=>e<|hxy.1.trans z];exact hxy
def step {C p dx nn ll:Addr}{H:Hp}{d:cG}(h:Ok aY names rows nums ls)(hR:∀x∈aY,eY x)(hN:∀x∈names,eY x)(hd:tu Wt aY names rows d)(hh:bx H C p dx nn ll nums ls):
  ∃dH dX,Ok aY names (Ey d rows) dH dX/\seenOf dH=aeE d (seenOf nums)/\∀(Q:VK) (E:XK),(∀H',bx H' C p dx nn ll dH dX->fB nn ll H H'->Q .non H')->d.sp C p H Q E:=by
 let(hl,hnl):=h.len;have en:=jE h.lr;cases d with
 |lay nm a b w l=>
  let(d1,d2,d3,d4,d5,d6,d7):=hd;have fnd:(newOf nums [a,b]).Nodup:=List.Pairwise.filter _ (by simp[d5]);have apK:∀r∈newOf nums [a,b],r∉seenOf nums:=λr hr=>vK.mp (du.mp hr).2;have fin:∀r∈newOf nums [a,b],r=a\/r=b:=λr hr=>by have:=(du.mp hr).1;simpa using this
  let(s1,s2):=Vv fnd apK h.num;have mem:∀r,r∈[a,b]->r∈seenOf (oZ nums<|newOf nums [a,b]):=λr hr=>by
   rw[s1];by_cases g:r∈seenOf nums
   .exact bc.mpr<|.inl g
   .exact bc.mpr<|.inr<|du.mpr ⟨hr,vK.mpr g⟩
  let(ia,ga,ga2):=ag9 s2 (mem a (by simp));let(ib,gb,gb2):=ag9 s2 (mem b (by simp));have hnm:nm∉ls.map (·.1):=by rw[en];exact d2
  refine⟨oZ nums<|newOf nums [a,b],lV nm ((ia),(ib),w,l) ls,⟨⟨h.dr.r2,h.dr.r5,h.dr.rn,h.dr.n8,?_,?_,?_⟩,s2,?_,?_,?_⟩,?_,?_⟩
  .show((rows++[Prod.mk nm<|Prod.mk a<|Prod.mk b<|Prod.mk w l]).map (·.1)).Nodup;rw[bz];refine fz.mpr ⟨h.dr.nn,by simp,λx hx y hy z=>?_⟩
   have:y=nm:=by simpa using hy
   exact d2 (by rw[<-this,←z];exact hx)
  .intro r hr;rcases bc.mp hr with g|g
   .exact h.dr.sub r g
   .rw[aE.mp g];exact d1
  .intro r hr;rcases bc.mp hr with g|g
   .exact h.dr.wd r g
   .rw[aE.mp g];exact d6
  .rw[s1];exact fz.mpr ⟨h.nd,fnd,λx hx y hy z=>apK y hy<|z▸hx⟩
  .intro x hx;rw[s1] at hx;rcases bc.mp hx with g|g
   .exact h.sub x g
   .rcases fin x g with e|e
    .rw[e];exact d3
    .rw[e];exact d4
  .rw[Nh hnm];refine K9 ?_ ⟨rfl,⟨ia,rfl,ga2⟩,⟨ib,rfl,gb2⟩,rfl,rfl⟩;rw[s1];exact h.lr.mono λx y z=>z.grow
  .rw[s1];exact(acP d5).symm
  .intro Q E q;exact⟨p,dx,nn,ll,nums,ls,nm,a,b,w,l,ia,ib,rfl,hh,hN nm d1,hR a d3,hR b d4,Ja hnm,d5,d6,d7.1,by lk,by lk,ga,gb,q⟩
 |shut nm=>
  let(q,hq):=xM (by rw[en];exact hd);refine⟨nums,wV nm ls,⟨⟨h.dr.r2,h.dr.r5,h.dr.rn,h.dr.n8,?_,?_,?_⟩,h.num,h.nd,h.sub,?_⟩,rfl,λQ E k=>⟨p,dx,nn,ll,nums,ls,nm,q,rfl,hh,hq,k⟩⟩
  .exact(pS _ ka).nodup h.dr.nn
  .exact λr hr=>h.dr.sub r (du.mp hr).1
  .exact λr hr=>h.dr.wd r (du.mp hr).1
  .exact Gk h.lr λx y z=>by rw[z.1]
 |widen nm k=>
  let(d1,d2):=hd;let(q,g1,g2,g3):=h.chg (k:=k) d1 λr hr e=>by have:=h.dr.wd r hr;lk
  exact⟨nums,_,g3,rfl,λQ E kk=>⟨p,dx,nn,ll,nums,ls,nm,q,k,rfl,hh,g1,d2.1,by lk,kk⟩⟩
 |narrow nm k=>
  let(r,hr,e,d2,d3):=hd;have hm:nm∈rows.map (·.1):=by rw[<-e];exact b9 hr
  let(q,g1,g2,g3):=h.chg (k:=-k) hm λs hs es=>by have:=ajB h.dr.nn hs hr<|es.trans e.symm;rw[this];lk
  exact⟨nums,_,g3,rfl,λQ E kk=>⟨p,dx,nn,ll,nums,ls,nm,q,k,rfl,hh,g1,d2,by rw[g2 r hr e];exact d3,by lk,kk⟩⟩
end
def uy (ns:List Int):List Str:=wordsOf (gR (fD ns 0) 0) (2+gR (fD ns 0) 2 % 4).toNat
def namesOf (ns:List Int):List Str:=wordsOf (gR (fD ns 1)<|gR (fD ns 1) 2 % 2) 8
section
variable {ns:List Int}
end
def ahb (ns:List Int):∃r0 r1 rest,uy ns=r0::r1::rest/\rest.length<=3/\(r0::r1::rest).Nodup/\∀x∈r0::r1::rest,eY x:=by
 have m:=fZ (gR (fD ns 0) 2) (show(0:Int)<4 by decide);have hl:(uy ns).length=(2+gR (fD ns 0) 2 % 4).toNat:=IW _ _;have hn:(uy ns).Nodup:=Ng _ _;have hk:∀x∈uy ns,eY x:=Nf _ ∅
 match e:uy ns with
 |[]=>grind
 |[_]=>grind
 |r0::r1::rest=>grind
def ajC (ns:List Int):(namesOf ns).length=8/\(namesOf ns).Nodup/\∀x∈namesOf ns,eY x:=(IW _ _,Ng _ _,Nf _<|by decide)
section
variable {K:Frag}
def bx.off (h:bx H C p dx nn ll nums ls)(k:∀b o,(∀ys,o≠ .lst ys)->H b=some o->H' b=some o):bx H' C p dx nn ll nums ls:=by let(a,b,(aO,c,d),n):=h;exact(k _ _ (by intro ys z;cases z) a,k _ _ (by intro ys z;cases z) b,(aO,k _ _ (by intro ys z;cases z) c,d.mono λ_ _ z=>z.same λt xs e=>k _ _ (by intro ys z;cases z) e),n)
def lW (h:bx H C p dx nn ll nums ls)(s:fB nn ll H H')(e:H a=some (.lst xs)):H' a=some (.lst xs):=by let(aO,c,_):=h.laid;exact s _ _ (λz=>by rw[z,h.num] at e;cases e) (λz=>by rw[z,c] at e;cases e) e
def ajD (h:bx H C p dx nn ll nums ls)(s:fB nn ll H H')(e:bV K H a xs):bV K H' a xs:=by
 let(aO,c,_):=h.laid;refine bV.off e λo ho e=>s _ _ (λz=>?_) (λz=>?_) e
 .rw[z,h.num] at e;cases e;cases ho
 .rw[z,c] at e;cases e;cases ho
def avH (r0 r1:Str)(rest:List Str):lQ ((r0::r1::rest).map V.str) none (some 2)=[r0,r1].map V.str:=by rfl
def ajE {d:cG}(h:Has K H d.dat v):∃t,v=.ref t/\bV K H t d.vals:=by
 cases d with
 |lay nm a b w l=>let(t,xs,rfl,hq,y1,r1,rfl,(rfl,_),y2,r2,rfl,(rfl,_),y3,r3,rfl,(rfl,_),y4,r4,rfl,(rfl,_),y5,r5,rfl,h5,y6,r6,rfl,h6,hr):=h;have e5:=h5;have e6:=h6;have er:=hr;subst e5 e6 er;exact(t,rfl,hq)
 |shut nm=>let(t,xs,rfl,hq,y1,r1,rfl,(rfl,_),y2,r2,rfl,(rfl,_),hr):=h;have er:=hr;subst er;exact(t,rfl,hq)
 |widen nm k=>let(t,xs,rfl,hq,y1,r1,rfl,(rfl,_),y2,r2,rfl,(rfl,_),y5,r5,rfl,h5,hr):=h;have e5:=h5;have er:=hr;subst e5 er;exact(t,rfl,hq)
 |narrow nm k=>let(t,xs,rfl,hq,y1,r1,rfl,(rfl,_),y2,r2,rfl,(rfl,_),y5,r5,rfl,h5,hr):=h;have e5:=h5;have er:=hr;subst e5 er;exact(t,rfl,hq)
def aaM {nm a b:Str}(hR:∀x∈aY,eY x)(hN:∀x∈names,eY x)(h:tu Wt aY names rows (.lay nm a b w l)):(bD (nm,a,b,w,l)).canLay0=true:=by let(h1,_,h3,h4,_):=h;have c1:=(hN _ h1).2;have c2:=(hR _ h3).2;have c3:=(hR _ h4).2;simp only[bD,canLay0,canLayAll0,bS] at c1 c2 c3 ⊢;exact(c1,c2,c3,trivial,trivial,trivial)
end
def lcL {K:Frag}(Pv:Addr->Nat->List V->Hp->Prop)(hz:xs.length<sizeLine)
  (h0:∀D,H1 D=none->Pv D 0 [] (upd H1 D<|.lst []))(hl:∀D i ys H,Pv D i ys H->aZ K H a xs)(htc:∀σ H (R:Bool->Hp->Prop),R true H->tc σ H R)
  (hs:∀D i x ys H,H1 D=none->xs[i]? =some x->Pv D i ys H->H D=some (.lst ys)->∀(R:VK) (Kt:L2.St->Hp->Prop),(∀y H4,H4 D=some (.lst ys)->Pv D (i+1) (ys++[y]) (upd H4 D<|.lst<|ys++[y])->R y H4)->(∀iY H2,iR (d8 cap σ) iY->te iY H2 R->Kt iY H2)->g x (d8 cap σ) H Kt)
  (hQ:∀D ys H,H1 D=none->Pv D xs.length ys H->ys.length=xs.length->H D=some (.lst ys)->Q (.ref D) H):RK (Gu K a) cap g tc te σ H1 Q:=by
 intro D hD;refine⟨λi m H=>m=xs.length - i/\i<=xs.length/\∃ys,ys.length=i/\H D=some (.lst ys)/\Pv D i ys H,⟨_,rfl,dE _,[],rfl,au,h0 D hD⟩,?_⟩;rintro i m H ⟨rfl,hi,ys,hyl,tU,p⟩;have QH:=hl D i ys H p;by_cases dZ:i<xs.length
 .refine .inr ⟨⟨xs,xs[i],QH,by simp[dZ]⟩,λx H' y=>?_⟩;let(e,y):=y;subst e;have ex:=y xs QH;refine hs D i x ys _ hD ex p tU (λy H4=>∃zs,H4 D=some (.lst zs)/\zs.length<sizeLine/\∃m',m'<xs.length - i/\(m'=xs.length - (i+1)/\i+1<=xs.length/\∃ys',ys'.length=i+1/\upd H4 D (.lst<|zs++[y]) D=some (.lst ys')/\Pv D (i+1) ys' (upd H4 D<|.lst<|zs++[y]))) _ (λv H4 h1 h2=>?_) λiY H2 ck h=>⟨ck,htc _ _ _ (by rw[ar rfl];exact h)⟩;exact⟨ys,h1,by lk,xs.length - (i+1),by lk,rfl,dZ,ys++[v],by rw[aw,hyl];rfl,au,h2⟩
 .have e:i=xs.length:=by lk
  subst e;exact .inl ⟨⟨xs,QH,ax _⟩,hQ D ys _ hD p hyl tU⟩
section
variable {K:Frag}
noncomputable def Ab (x:Str×Q4):PyData:=.tuple [.int x.2.1,.int x.2.2.1,.int x.2.2.2.1,.int x.2.2.2.2]
def acR (h:Paired (yK H) aO ls):aR K H (ls.map Ab) (aO.map λkv=>kv.2):=by
 induction h with
 |nil=>rfl
 |cons h r ih=>let(_,t,e,ht):=h;exact(_,_,rfl,(t,_,e,bV.of ht,_,_,rfl,rfl,_,_,rfl,rfl,_,_,rfl,rfl,_,_,rfl,rfl,rfl),ih)
inductive aaN (K:Frag)(C:Addr)(vs:List V)(H:Hp)(Q:VK):Prop
 |mk:∀p dx nn ll q nums ls T d aO dX,vs=[.ref p,.ref q,.int T]->bx H C p dx nn ll nums ls->H q=some (.dK aO)->Paired (yK H) aO dX->dX.length<100->Pg.iW [.int (nums.length:Int),.list<|dX.map Ab,.int 0,.int 1,.int T]=some (false,d)->(∀v H',Same H H'->Has K H' d v->Q v H')->aaN K C vs H Q
def Tn (K:Frag)(C:Addr):Sp:=λvs H Q _=>aaN K C vs H Q
def aaO:cB ["self","laid","turns"] ["self","laid","turns"] (aN<|fY 12):=fs
def ajF (F:bY K "out_by" "NamedHall.out_by" (fY 12) f fd)(B:Bl mg)(c:Cl K C)(Ax:cW P w K mg base 5 "out_within" ["many","passages","start","goal","turns"] (bO K Pg.iW))(g0:mg "START"=some (.int 0 t0))(g1:mg "GOAL"=some (.int 1 t1)):
  bJ P w K mg base cA 6 f fd ["self","laid","turns"] (Tn K C):=by
 have vt:=aaO.vt;refine bY.ok F aaO (λvs H Q E h=>by let(_,_,_,_,_,_,_,_,_,_,_,rfl,_):=h;rfl) λcX A outer s H vs Q E hr fQ=>?_;refine⟨_,bf<|cU<|dG Ax hr gx<|ak (eZ QW gx B.len eJ<|ak (gO (pV vt 0) rfl) aP)<|ak (lD (agP rfl) gx B.list cK<|ak (agN<|pV vt 1) aP)<|ak (pA (v:=.int 0) gx g0 ⟨_,rfl⟩)<|ak (pA (v:=.int 1) gx g1 ⟨_,rfl⟩)<|ak (pV vt 2) aP,?_⟩;let(p,dx,nn,ll,q,nums,ls,T,d,aO,dX,rfl,hh,Jc,hpr,hl,ed,hq):=fQ;unfold mW iM bR c7 rK;refine gP rfl hh.ins c.cl c.n1 rfl ⟨nn,_,rfl,hh.num,?_⟩;refine aq rfl ⟨.inr<|.inr ⟨rfl,aO,Jc⟩,aO,Jc,λz hz=>?_⟩;have s1:=aH (o:=Ew z q) hz;refine⟨z,q,aO,rfl,au,s1 _ _ Jc,λl tK=>?_⟩;have s2:=aH (o:=.lst<|aO.map λkv=>kv.2) tK;have Gj:=s1.trans s2;unfold tC;refine aq rfl ?_;refine⟨_,[.int<|nums.length,.list<|dX.map Ab,.int 0,.int 1,.int T],Same.refl _,?_,false,d,ed,λv F' H' g hv=>hq v H' (Gj.trans g.hh) ?_⟩
 .refine⟨_,_,rfl,?_,_,_,rfl,⟨l,_,rfl,aZ.of au,acR<|hpr.mono λ_ _ z=>z.same λt xs e=>Gj _ _ e⟩,_,_,rfl,rfl,_,_,rfl,rfl,_,_,rfl,rfl,rfl⟩;show V.int _=V.int _;simp
 .exact Has.same g.fh hv
noncomputable def iI (ls:List (Str×Q4)):List Str:=ls.map (·.1)
noncomputable def lO (ls:List (Str×Q4))(w:List Nat):List Str:=w.map λj=>(iI ls).getD j ""
inductive aaP (K:Frag)(C:Addr)(vs:List V)(H:Hp)(Q:VK):Prop
 |mk:∀p dx nn ll nums ls v w,vs=[.ref p,v]->bx H C p dx nn ll nums ls->Has K H (.list<|w.map PM.eU) v->((∀j∈w,j<ls.length))->((∀x∈iI ls,(PyData.str x).canLay0=true))->w.length<1000->(∀a H',Same H H'->H a=none->H' a=some (.lst<|(lO ls w).map V.str)->Q (.ref a) H')->aaP K C vs H Q
def Tp (K:Frag)(C:Addr):Sp:=λvs H Q _=>aaP K C vs H Q
def ajG (h:Paired (yK H) aO ls):(aO.map λkv=>kV kv.1)=(iI ls).map V.str:=by
 induction h with
 |nil=>rfl
 |cons h _ ih=>rw[az,ih,h.1];rfl
def Ni:cB ["self","walk","names"] ["self","walk"] (aN<|fY 13):=fs
def amO {w:List Nat}(hw:∀j∈w,j<nms.length)(hl:w.length<1000):(lZ (bZ<|vF 1) [none,some 2] (gN 0) jf<|v2 aM (vN 1)<|vN 0) [x0,some (.fr,.list<|w.map PM.eU),some (.fr,bU nms)]=some (.list<|(w.map λj=>nms.getD j "").map .str):=by
 z_go;rw[qz rfl (by rw[af];exact bT ∅)];rw[kZ (f:=λd=>match d with|.int j=>.str (nms.getD j.toNat "")|d=>d)]
 .z_go;rw[cm,cm];rfl
 .intro d hd;let(j,hj,rfl):=bp.mp hd;refine([some (.fr,.int<|j),some (.fr,.list<|nms.map .str)],by z_go;rfl,rfl,?_);have Ky:=hw j hj;z_go;rw[show dI (nms.map PyData.str) (j:Int)=some (.str<|nms.getD j "") from iC (by simp[Ky,bE])];rfl
def ajH {fd:FuncData}(F:bY K "names_on" "NamedHall.names_on" (fY 13) f fd)(B:Bl mg)(KT:eX K)(c:Cl K C):bJ P w K mg base cA 1 f fd ["self","walk"] (Tp K C):=by have nd:=Ni.nd;have vt:=Ni.vt;refine bY.ok F Ni (λvs H Q E h=>by let(_,_,_,_,_,_,_,_,rfl,_):=h;rfl) λcX A outer s H vs Q E hr fQ=>?_;refine(_,aK (dO (i:=2) nd rfl lx<|lD (agF rfl) gx B.list cK<|ak (gO (pV vt 0) rfl) aP)<|bf<|cU<|dLC<|Wh (cap:=[none,some 2]) ["self","walk","names"] (aN<|fY 13) rfl (by decide +kernel) rfl rfl (itL<|dF<|pV vt 1) (λ_ _ _ _ _=>(YX<|FW (i:=0) (show(["number","names"]:List Str).Nodup by decide +kernel) (by decide +kernel))) (λ_ _ _ _ _=>ifN) (λ_ _ _ _ _=>(rR (dN<|tL (by decide +kernel) 1)<|mw<|dN<|tL (by decide +kernel) 0)),?_);let(p,dx,nn,ll,nums,ls,v,wk,rfl,hh,hv,hw,sW,hl,hq):=fQ;let(aO,hk,hp):=hh.laid;dsimp only[jP];unfold mV fG rK bR c7 cH mW;refine gP rfl hh.ins c.cl c.n2 rfl (ll,aO,rfl,hk,λz hz=>?_);rw[ajG hp];have s1:=aH (o:=.lst<|(iI ls).map V.str) hz;have Ra:upd H z (.lst<|(iI ls).map V.str) z=some (.lst<|(iI ls).map V.str):=au;generalize upd H z (.lst<|(iI ls).map V.str)=H1 at s1 Ra ⊢;refine VM.apD (S:=[none,some (.fr,.list<|wk.map PM.eU),some (.fr,bU<|iI ls)]) (_,_,rfl,_,_,rfl,rfl,Has.same s1 hv,_,_,rfl,rfl,Nb Ra sW,rfl) (amO (λj hj=>by unfold iI;rw[af];exact hw j hj) hl) λa xs H2 s2 hn hx hy=>?_;rw[xJ hy] at hx;exact hq a H2 (s1.trans s2) (s1.free hn) hx
inductive Vw (K:Frag)(C:Addr)(vs:List V)(H:Hp)(Q:VK):Prop
 |mk:∀p dx nn ll nums ls v,∀aV:List Int,vs=[.ref p,v]->bx H C p dx nn ll nums ls->Has K H (.list<|aV.map .int) v->aV.length=nums.length->(∀(z:Addr) (ts:List Addr) (H':Hp),Same H H'->H z=none->(∀t∈ts,H t=none)->H' z=some (.lst<|ts.map V.ref)->ts.length=nums.length->(∀(j:Nat) t x μ,ts[j]? =some t->(seenOf nums)[j]? =some x->aV[j]? =some μ->H' t=some (.tup [.str x,.int μ]))->Q (.ref z) H')->Vw K C vs H Q
def Nj (K:Frag)(C:Addr):Sp:=λvs H Q _=>Vw K C vs H Q
def Vx:cB ["self","moments"] ["self","moments"] (aN<|fY 14):=fs
def ahd (F:bY K "by_room" "NamedHall.by_room" (fY 14) f fd)(B:Bl mg)(c:Cl K C)(F7:bJ P w K mg base cA 1 f7 fd7 ["self"] (SX C))(m7:Meth K C "rooms" f7)(b7:Binds K fd7 ["self"] []):bJ P w K mg base cA 2 f fd ["self","moments"] (Nj K C):=by have vt:=Vx.vt;refine bY.ok F Vx (λvs H Q E h=>by let(_,_,_,_,_,_,_,_,rfl,_):=h;rfl) λcX A outer s H vs Q E hr fQ=>?_;refine(_,bf<|cU<|aey rfl gx B.list gx B.zip<|ak (Lz (pV vt 0) c.cl m7 F7 hr b7 .nil dB)<|ak (pV vt 1) aP,?_);let(p,dx,nn,ll,nums,ls,v,aV,rfl,hh,hv,hl,hq):=fQ;let(vm,xs,rfl,Rb,Le):=hv;have exs:=aR.ints.mp Le;subst exs;unfold mW tLZ bR c7 gF;refine aq rfl (p,dx,_,rfl,hh.ins,rfl,p,dx,nn,ll,nums,ls,rfl,hh,λrz hrz=>?_);have s1:=aH (o:=.lst<|(seenOf nums).map V.str) hrz;refine aq rfl (rz,vm,_,_,rfl,aZ.of au,s1.seq Rb,by rw[af,af];unfold seenOf;rw[af,hl],λz ts H2 s2 hz hts lN hzt avI cZ avJ=>?_);refine hq z ts H2 (s1.trans s2) (s1.free hz) (λt ht=>s1.free<|hts t ht) avI (by rw[cZ,af];unfold seenOf;rw[af]) λj t x μ e1 e2 e3=>?_;exact avJ j t (.str x) (.int μ) e1 (by rw[av,e2];rfl) (by rw[av,e3];rfl)
end
section
variable {K:Frag}
structure Walks {α:Type}(wk:α->List Nat)(tl:α->List V)(H H':Hp)(ls:List (Str×Q4))(ws:List α)(D:Addr)(us Ls:List Addr):Prop where
 lu:us.length=ws.length
 lL:Ls.length=ws.length
 nu:∀u∈us,H u=none
 nL:∀L∈Ls,H L=none/\L≠D
 it:∀(j:Nat) u L x,us[j]? =some u->Ls[j]? =some L->ws[j]? =some x->H' u=some (.tup (.ref L::tl x))/\H' L=some (.lst<|(lO ls<|wk x).map V.str)
structure Told {α:Type}(wk:α->List Nat)(tl:α->List V)(H H':Hp)(ls:List (Str×Q4))(seen:List Str)(W:Int)(ws:List α)(aV:List Int)(t A M:Addr)(us Ls ms:List Addr):Prop where
 nt:H t=none
 nA:H A=none
 nM:H M=none
 MA:M≠A
 ML:M∉Ls
 tp:H' t=some (.tup [.int W,.ref A,.ref M])
 ta:H' A=some (.lst<|us.map V.ref)
 tm:H' M=some (.lst<|ms.map V.ref)
 wk:Walks wk tl H H' ls ws A us Ls
 lm:ms.length=seen.length
 nm:∀m∈ms,H m=none
 mo:∀(j:Nat) m r μ,ms[j]? =some m->seen[j]? =some r->aV[j]? =some μ->H' m=some (.tup [.str r,.int μ])
theorem J4:∀{ds:List PyData}{vs:List V},aR K H ds vs->ds.length=vs.length/\∀(j:Nat) d v,ds[j]? =some d->vs[j]? =some v->Has K H d v
 |[],vs,h=>by
  have:vs=[]:=h
  subst this;exact⟨rfl,λj d v e=>by simp at e⟩
 |d::ds,vs,h=>by
  let(v,r,rfl,h1,h2):=h;have ih:=J4 h2;refine⟨by rw[ay,ay,ih.1],λj d' v' e1 e2=>?_⟩;cases j with
  |zero=>cases e1;cases e2;exact h1
  |succ j=>exact ih.2 j d' v' e1 e2
def Nk (h:(xs++[y])[j]? =some z):xs[j]? =some z\/(j=xs.length/\z=y):=by
 by_cases hj:j<xs.length
 .rw[bP hj] at h;exact .inl h
 .rw[cr ∅] at h;have hl:=(ab.mp h).1;have h0:j - xs.length=0:=by simp at hl;lk
  rw[h0] at h;exact .inr ⟨by lk,by simpa using h.symm⟩
def Nm {ws:List α}(Rb:aZ K H1 a xs)(Le:aR K H1 (ws.map dD) xs)(wu:ws.length<1000)(htc:∀σ H (R:Bool->Hp->Prop),R true H->tc σ H R)
  (step:∀x wi H',wi∈ws->Same H1 H'->Has K H' (dD wi) x->∀(R:VK) (Kt:L2.St->Hp->Prop),(∀L u H2,Same H' H2->H' L=none->H2 L=some (.lst<|(lO ls<|wk wi).map V.str)->H2 u=none->R (.ref u) (upd H2 u<|.tup (.ref L::tl wi)))->(∀iY H2,iR (d8 cap σ) iY->te iY H2 R->Kt iY H2)->g x (d8 cap σ) H' Kt)
  (hQ:∀D us Ls H2,Same H1 H2->H1 D=none->H2 D=some (.lst<|us.map V.ref)->Walks wk tl H1 H2 ls ws D us Ls->Q (.ref D) H2):RK (Gu K a) cap g tc te σ H1 Q:=by
 let(hxl,avK):=J4 Le;rw[af] at hxl;refine lcL (xs:=xs) (λD i ys H'=>∃us Ls,us.length=i/\Ls.length=i/\ys=us.map V.ref/\Same H1 H'/\(∀u∈us,H1 u=none/\u≠D)/\(∀L∈Ls,H1 L=none/\L≠D)/\∀(j:Nat) u L x,us[j]? =some u->Ls[j]? =some L->ws[j]? =some x->H' u=some (.tup (.ref L::tl x))/\H' L=some (.lst<|(lO ls<|wk x).map V.str))
  (bT ∅) (λD hD=>⟨[],[],rfl,rfl,rfl,aH hD,λu hu=>by(cases hu),λu hu=>by(cases hu),λj u L x e=>by simp at e⟩) (λD i ys H' h=>by let(_,_,_,_,_,sm,_):=h;exact sm.seq Rb) htc ?_ ?_
 .rintro D i x ys H' hD hx ⟨us,Ls,hul,hLl,rfl,sm,hun,hLn,wz⟩ tU R Kt hR hK;have hi:i<ws.length:=by have:=(ab.mp hx).1;lk
  have hwi:=ag hi;have hwm:=fR hi;have hv:=Has.same sm (avK i (dD ws[i]) x (by rw[av,hwi];rfl) hx);generalize ws[i]=wi at hwi hwm hv;refine step x wi H' hwm sm hv R Kt (λL u H2 s2 hL hLv hu=>?_) hK;have s3:=aH (o:=.tup (.ref L::tl wi)) hu;have s23:=s2.trans s3;have hD3:=s23 _ _ tU;have hLD:L≠D:=λz=>by rw[z] at hL;rw[hL] at tU;cases tU
  have huD:u≠D:=λz=>by rw[z] at hu;rw[s2 _ _ tU] at hu;cases hu
  have hu3:upd H2 u (.tup (.ref L::tl wi)) u=some (.tup (.ref L::tl wi)):=au;have hL3:=s3 _ _ hLv;generalize upd H2 u (.tup (.ref L::tl wi))=H3 at s3 s23 hD3 hu3 hL3 ⊢;refine hR _ _ hD3 ⟨us++[u],Ls++[L],by rw[aw,hul];rfl,by rw[aw,hLl];rfl,by rw[bz];rfl,λb o e=>?_,λv hv=>?_,λv hv=>?_,λj v M x e1 e2 e3=>?_⟩
  .rw[aJ λz=>by rw[z,hD] at e;cases e];exact s23 _ _<|sm _ _ e
  .rcases bc.mp hv with g|g
   .exact hun v g
   .rw[aE.mp g];exact⟨sm.free<|s2.free hu,huD⟩
  .rcases bc.mp hv with g|g
   .exact hLn v g
   .rw[aE.mp g];exact⟨sm.free hL,hLD⟩
  .rcases Nk e1 with g1|⟨gj,gv⟩
   .have hji:=(ab.mp g1).1;rcases Nk e2 with g2|⟨gj,_⟩
    .let(c1,c2):=wz j v M x g1 g2 e3;rw[aJ (hun v<|ah g1).2,aJ (hLn M<|ah g2).2];exact⟨s23 _ _ c1,s23 _ _ c2⟩
    .omega
   .rcases Nk e2 with g2|⟨_,gm⟩
    .have:=(ab.mp g2).1;lk
    .rw[gj,hul] at e3;rw[hwi] at e3;cases e3;rw[gv,gm,aJ huD,aJ hLD];exact⟨hu3,hL3⟩
 .rintro D ys H2 hD ⟨us,Ls,hul,hLl,rfl,sm,hun,hLn,wz⟩ hyl tU;exact hQ D us Ls H2 sm hD tU ⟨by lk,by lk,λu hu=>(hun u hu).1,hLn,wz⟩
def acU {ws:List α}{seen:List Str}(s1:Same H H1)(sm:Same H1 H2)(hD:H1 D=none)(tU:H2 D=some (.lst<|us.map V.ref))(w:Walks wk tl H1 H2 ls ws D us Ls)(s3:Same H2 H3)(hM:H2 M=none)(Zw:∀t∈ms,H2 t=none)(hMl:H3 M=some (.lst<|ms.map V.ref))(hlm:ms.length=seen.length)
  (hmt:∀(j:Nat) t x μ,ms[j]? =some t->seen[j]? =some x->aV[j]? =some μ->H3 t=some (.tup [.str x,.int μ]))(ht:H3 t=none):Same H (upd H3 t<|.tup [.int W,.ref D,.ref M])/\Told wk tl H (upd H3 t<|.tup [.int W,.ref D,.ref M]) ls seen W ws aV t D M us Ls ms:=by
 have s4:=aH (o:=.tup [.int W,.ref D,.ref M]) ht;have s34:=s3.trans s4;have f2:∀{b:Addr},H2 b=none->H b=none:=λh=>s1.free<|sm.free h;refine⟨s1.trans<|sm.trans s34,f2<|s3.free ht,s1.free hD,f2 hM,λz=>(by rw[z,tU] at hM;cases hM),λhm=>?_,au,s34 _ _ tU,s4 _ _ hMl,⟨w.lu,w.lL,λu hu=>s1.free<|w.nu u hu,λL hL=>⟨s1.free (w.nL L hL).1,(w.nL L hL).2⟩,λj u L x e1 e2 e3=>?_⟩,hlm,λm hm=>f2<|Zw m hm,λj m r μ e1 e2 e3=>s4 _ _<|hmt j m r μ e1 e2 e3⟩
 .let(j,ej):=cw hm;have h1:=w.lu;have h2:=w.lL;have hj:j<us.length:=by have:=(ab.mp ej).1;lk
  have hjw:j<ws.length:=by lk
  have:=(w.it j us[j] M ws[j] (ag hj) ej<|ag hjw).2;lk
 .let(c1,c2):=w.it j u L x e1 e2 e3;exact⟨s34 _ _ c1,s34 _ _ c2⟩
noncomputable abbrev tlO (x:List Nat×Int):List V:=[.int x.2]
noncomputable abbrev Gm (r:LH.jU):List V:=[.int r.m,.int r.s,.int r.e]
inductive ahk (C:Addr)(vs:List V)(H:Hp)(Q:VK):Prop
 |mk:∀p dx nn ll nums ls T W ws,∀aV:List Int,vs=[.ref p,.int T]->bx H C p dx nn ll nums ls->ls.length<100->Pg.iW [.int (nums.length:Int),.list<|ls.map Ab,.int 0,.int 1,.int T]=some (false,.tuple [.int W,.list<|ws.map LH.vG,.list<|aV.map .int])->((∀x∈ws,(∀j∈x.1,j<ls.length)/\x.1.length<1000))->ws.length<1000->aV.length=nums.length->((∀x∈iI ls,(PyData.str x).canLay0=true))->(∀H' t A M us Ls ms,Same H H'->Told fst tlO H H' ls (seenOf nums) W ws aV t A M us Ls ms->Q (.ref t) H')->ahk C vs H Q
def Xz (K:Frag)(C:Addr):Sp:=λvs H Q _=>ahk C vs H Q
def aaR:cB ["self","turns","told","walks"] ["self","turns"] (aN<|fY 9):=fs
def apQ (F:bY K "out" "NamedHall.out" (fY 9) f fd)(B:Bl mg)(c:Cl K C)(Mo:Ms P w K mg base C 6 "out_by" ["self","laid","turns"] (Tn K C))(Mn:Ms P w K mg base C 1 "names_on" ["self","walk"] (Tp K C))(Mb:Ms P w K mg base C 2 "by_room" ["self","moments"] (Nj K C)):
  bJ P w K mg base cA 7 f fd ["self","turns"] (Xz K C):=by
 have nd:=aaR.nd;have vt:=aaR.vt;have vc:=(show(["walk","number","self"]:List Str).all (λx=>LR (ajn ((gY (fY 9)).getD 1 (.Pass ⟨0,0,0,0⟩))) x && plain x)=true by decide +kernel);let(fo,fdo,Fo,mo,bo):=Mo.ex;let(fn,fdn,Fn',mn,bn):=Mn.ex;let(fb,fdb,Fb,mb,bb):=Mb.ex;refine bY.ok F aaR (λvs H Q E h=>by let(_,_,_,_,_,_,_,_,_,_,rfl,_):=h;rfl) λcX A outer s H vs Q E hr fQ=>?_;refine⟨_,aK (dO (i:=2) nd rfl lx (cL (pV vt 0) c.cl mo Fo hr bo .nil dB (ak (gO (pV vt 0) rfl) (ak (pV vt 1) aP))))
  (aK (yc (g:=Wn K 2 (qe (cH 0) (qe (cH 1) Ju))) (i:=3) nd rfl lx (cap:=[none,none,some 0]) ["self","turns","told","walks"] (aN (fY 9)) rfl (by decide +kernel) rfl rfl (mC (bB dR (pV vt 2) aF))
   (λ_ _ _ _ _=>(Dh rfl<|jl (FW (by decide +kernel)<|by decide +kernel)<|jl (FW (by decide +kernel)<|by decide +kernel) yd))
   (λ_ _ _ _ _=>Bo) (λ_ _ _ _ _=>(jM (ak (cL (tL vc 2) c.cl mn Fn' hr.mo bn .nil dB (ak (tL vc 0) aP)) (ak (tL vc 1) aP)))))
  (bf (cU (jM (ak (bB dR (pV vt 2) aF) (ak (pV vt 3) (ak (cL (pV vt 0) c.cl mb Fb hr.mo bb .nil dB (ak (bB dR (pV vt 2) aF) aP)) aP))))))),?_⟩
 let(p,dx,nn,ll,nums,ls,T,W,ws,aV,rfl,hh,hl,em,hws,wu,zT,sW,hq):=fQ;let(aO,hk,hp):=hh.laid;dsimp only[jP];unfold mV fG;unfold gF bR c7 cH;refine aq rfl ⟨p,dx,_,rfl,hh.ins,rfl,?_⟩;refine gP rfl hh.ins c.cl c.n2 rfl<|aq rfl ⟨p,dx,nn,ll,ll,nums,ls,T,_,aO,ls,rfl,hh,hk,hp,hl,em,λv H1 s1 hv=>?_⟩;let(t0,xs0,rfl,Jc,z1,q1,rfl,g1,z2,q2,rfl,g2,z3,q3,rfl,g3,g4):=hv;have e1:=g1;have e4:=g4;subst e1 e4;let(a,xs,rfl,Rb,Le):=g2;have Im:=hh.grow s1;try k_ne
 unfold zf uF;refine cF rfl Jc rfl ⟨a,rfl,⟨xs,Rb⟩,?_⟩;refine Nm (wk:=fst) (tl:=tlO) (ls:=ls) Rb Le wu (λaX H' R r=>r) ?_ ?_
 .rintro x wi H' hwm sm hv R Kt hR hK;let(tt,ys',rfl,Cv,y1,r1,rfl,k1,y2,r2,rfl,k2,k3):=hv;have e2:=k2;have e3:=k3;subst e2 e3;refine⟨_,Cv,rfl,?_⟩;refine hK _ _ (iR.skip<|iR.skip iR.refl) ?_;have hhH:=Im.grow sm;let(Ac,ajI):=hws wi hwm;unfold vQ;exact aq rfl ⟨p,dx,_,rfl,hhH.ins,rfl,aq rfl ⟨p,dx,nn,ll,nums,ls,y1,wi.1,rfl,hhH,k1,Ac,sW,ajI,λL H2 s2 hL hLv=>aq rfl ⟨by show 2<=sizeLine;decide,λu hu=>hR L u H2 s2 hL hLv hu⟩⟩⟩
 .rintro D us Ls H2 sm hD tU w;have vL:=Im.grow sm;unfold mW vQ;have u5:=sm.vW Jc;refine cF rfl u5 rfl<|aq rfl<|aq rfl ⟨p,dx,_,rfl,vL.ins,rfl,cF rfl u5 rfl ⟨p,dx,nn,ll,nums,ls,z3,aV,rfl,vL,Has.same sm g3,zT,λM ms H3 s3 hM Zw hMl hlm hmt=>?_⟩⟩;refine⟨by show 3<=sizeLine;decide,λt ht=>?_⟩;let(s14,to):=acU s1 sm hD tU w s3 hM Zw hMl (by rw[hlm];unfold seenOf;rw[af]) hmt ht;exact hq _ t D M us Ls ms s14 to
inductive aaT (C:Addr)(vs:List V)(H:Hp)(Q:VK):Prop
 |mk:∀p dx nn ll nums ls n d,vs=[.ref p,.int n]->bx H C p dx nn ll nums ls->ls.length<100->Pg.gM [.int (nums.length:Int),.list<|ls.map Ab,.int 0,.int 1,.int n]=some (false,d)->((∀x∈iI ls,(PyData.str x).canLay0=true))->(((d=.none/\∀H',Same H H'->Q .non H')\/∃T plan,∃aV:List Int,d=.tuple [.int T,.list<|plan.map LH.bD,.list<|aV.map .int]/\(∀r∈plan,(∀j∈r.w,j<ls.length)/\r.w.length<1000)/\plan.length<1000/\aV.length=nums.length/\∀H' t A M us Ls ms,Same H H'->Told LH.jU.w Gm H H' ls (seenOf nums) T plan aV t A M us Ls ms->Q (.ref t) H'))->aaT C vs H Q
def acV (K:Frag)(C:Addr):Sp:=λvs H Q _=>aaT C vs H Q
def Np:cB ["self","people","laid","told","plan"] ["self","people"] (aN<|fY 10):=fs
def ajJ (F:bY K "turns_for" "NamedHall.turns_for" (fY 10) f fd)(B:Bl mg)(c:Cl K C)(Cf:cW P w K mg base 5 "fewest_turns" ["many","passages","start","goal","people"] (bO K Pg.gM)){t0 t1:Tok}(g0:mg "START"=some (.int 0 t0))(g1:mg "GOAL"=some (.int 1 t1))(Mn:Ms P w K mg base C 1 "names_on" ["self","walk"] (Tp K C))(Mb:Ms P w K mg base C 2 "by_room" ["self","moments"] (Nj K C)):
  bJ P w K mg base cA 6 f fd ["self","people"] (acV K C):=by
 have nd:=Np.nd;have vt:=Np.vt;have vc:=(show(["walk","number","first","last","self"]:List Str).all (λx=>LR (ajn ((gY (fY 10)).getD 3 (.Pass ⟨0,0,0,0⟩))) x && plain x)=true by decide +kernel);let(fn,fdn,Fn',mn,bn):=Mn.ex;let(fb,fdb,Fb,mb,bb):=Mb.ex;refine bY.ok F Np (λvs H Q E h=>by let(_,_,_,_,_,_,_,_,rfl,_):=h;rfl) λcX A outer s H vs Q E hr fQ=>?_;refine⟨_,aK (dO (i:=2) nd rfl lx (lD (agP rfl) gx B.list cK (ak (agN (gO (pV vt 0) rfl)) aP)))
  (aK (dO (i:=3) nd rfl lx (dG Cf hr gx (ak (eZ QW gx B.len eJ (ak (gO (pV vt 0) rfl) aP)) (ak (pV vt 2) (ak (pA (v:=.int 0) gx g0 ⟨_,rfl⟩) (ak (pA (v:=.int 1) gx g1 ⟨_,rfl⟩) (ak (pV vt 1) aP)))))))
  (aK (fW (NK (afd (pV vt 3))) (bf (cU afc)) cT)
  (aK (yc (g:=Wn K 4 (qe (cH 0) (qe (cH 1) (qe (cH 2) (qe (cH 3) Ju))))) (i:=4) nd rfl lx (cap:=[none,none,none,none,some 0]) ["self","people","laid","told","plan"] (aN (fY 10)) rfl (by decide +kernel) rfl rfl (mC (bB dR (pV vt 3) aF))
   (λ_ _ _ _ _=>(Dh rfl<|jl (FW (by decide +kernel)<|by decide +kernel)<|jl (FW (by decide +kernel)<|by decide +kernel)<|jl (FW (by decide +kernel)<|by decide +kernel)<|jl (FW (by decide +kernel)<|by decide +kernel) yd))
   (λ_ _ _ _ _=>Bo) (λ_ _ _ _ _=>(jM (ak (cL (tL vc 4) c.cl mn Fn' hr.mo bn .nil dB (ak (tL vc 0) aP)) (ak (tL vc 1) (ak (tL vc 2) (ak (tL vc 3) aP)))))))
  (bf (cU (jM (ak (bB dR (pV vt 3) aF) (ak (pV vt 4) (ak (cL (pV vt 0) c.cl mb Fb hr.mo bb .nil dB (ak (bB dR (pV vt 3) aF) aP)) aP))))))))),?_⟩
 let(p,dx,nn,ll,nums,ls,n,d,rfl,hh,hl,em,sW,hd):=fQ;let(aO,hk,hp):=hh.laid;dsimp only[jP];unfold mV fG;unfold rK CW bR c7 cH;refine gP rfl hh.ins c.cl c.n2 rfl ⟨.inr<|.inr ⟨rfl,aO,hk⟩,aO,hk,λz hz=>?_⟩;have s1:=aH (o:=Ew z ll) hz;refine⟨z,ll,aO,rfl,au,s1 _ _ hk,λl tK=>?_⟩;have s2:=aH (o:=.lst<|aO.map λkv=>kv.2) tK;have Gj:=s1.trans s2;have hlv:upd (upd H z<|Ew z ll) l (.lst<|aO.map λkv=>kv.2) l=some (.lst<|aO.map λkv=>kv.2):=au;generalize upd (upd H z<|Ew z ll) l (.lst<|aO.map λkv=>kv.2)=H1 at s2 Gj hlv ⊢;have Im:=hh.grow Gj;try k_ne
 unfold iM tC;refine gP rfl Im.ins c.cl c.n1 rfl ⟨nn,_,rfl,Im.num,aq rfl<|aq rfl ?_⟩;refine⟨_,[.int<|nums.length,.list<|ls.map Ab,.int 0,.int 1,.int n],Same.refl _,?_,false,d,em,λv F' H2 g hv=>?_⟩
 .refine⟨_,_,rfl,?_,_,_,rfl,⟨l,_,rfl,aZ.of hlv,acR<|hp.mono λ_ _ z=>z.same λt xs e=>Gj _ _ e⟩,_,_,rfl,rfl,_,_,rfl,rfl,_,_,rfl,rfl,rfl⟩;show V.int _=V.int _;simp
 have sH:=Gj.trans g.hh;have hv:=Has.same g.fh hv;have vL:=hh.grow sH;unfold jj tB ahQ;rcases hd with⟨rfl,hq⟩|⟨T,plan,aV,rfl,hws,wu,zT,hq⟩
 .have hv:=hv;subst hv;refine aq rfl ⟨true,by simp,?_⟩;try k_ne
  rw[ar rfl];exact hq _ sH
 let(t0,xs0,rfl,Jc,z1,q1,rfl,g1,z2,q2,rfl,g2,z3,q3,rfl,g3,g4):=hv;have e1:=g1;have e4:=g4;subst e1 e4;let(a,xs,rfl,Rb,Le):=g2;refine aq rfl ⟨false,by simp,?_⟩;try k_ne
 rw[ap<|by decide];unfold iH;try k_ne
 unfold zf uF;refine cF rfl Jc rfl ⟨a,rfl,⟨xs,Rb⟩,?_⟩;refine Nm (wk:=LH.jU.w) (tl:=Gm) (ls:=ls) Rb Le wu (λaX H' R r=>r) ?_ ?_
 .rintro x wi H' hwm sm hv R Kt hR hK;let(tt,ys',rfl,Cv,y1,r1,rfl,k1,y2,r2,rfl,k2,y3,r3,rfl,k3,y4,r4,rfl,k4,k5):=hv;have e2:=k2;have e3:=k3;have e4:=k4;have e5:=k5;subst e2 e3 e4 e5;refine⟨_,Cv,rfl,?_⟩;refine hK _ _ (iR.skip<|iR.skip<|iR.skip<|iR.skip iR.refl) ?_;have hhH:=vL.grow sm;let(Ac,ajI):=hws wi hwm;unfold vQ gF;exact aq rfl ⟨p,dx,_,rfl,hhH.ins,rfl,aq rfl ⟨p,dx,nn,ll,nums,ls,y1,wi.w,rfl,hhH,k1,Ac,sW,ajI,λL H2 s2 hL hLv=>aq rfl<|aq rfl<|aq rfl ⟨by show 4<=sizeLine;decide,λu hu=>hR L u H2 s2 hL hLv hu⟩⟩⟩
 .rintro D us Ls H3 sm hD tU w;have Gi:=vL.grow sm;unfold mW vQ gF;have u5:=sm.vW Jc;refine cF rfl u5 rfl<|aq rfl<|aq rfl ⟨p,dx,_,rfl,Gi.ins,rfl,cF rfl u5 rfl ⟨p,dx,nn,ll,nums,ls,z3,aV,rfl,Gi,Has.same sm g3,zT,λM ms H4 s3 hM Zw hMl hlm hmt=>?_⟩⟩;refine⟨by show 3<=sizeLine;decide,λt ht=>?_⟩;let(s14,to):=acU sH sm hD tU w s3 hM Zw hMl (by rw[hlm];unfold seenOf;rw[af]) hmt ht;exact hq _ t D M us Ls ms s14 to
inductive aaU (C:Addr)(vs:List V)(H:Hp)(Q:VK):Prop
 |mk:∀p dx nn ll nums ls nm q T W W' r r',vs=[.ref p,.str nm,.int T]->bx H C p dx nn ll nums ls->gq nm ls=some q->ls.length<100->Pg.iW [.int (nums.length:Int),.list<|ls.map Ab,.int 0,.int 1,.int T]=some (false,.tuple (.int W::r))->Pg.iW [.int (nums.length:Int),.list<|(wV nm ls).map Ab,.int 0,.int 1,.int T]=some (false,.tuple (.int W'::r'))->(∀H',Same H H'->Q (.int<|W - W') H')->aaU C vs H Q
def Tq (K:Frag)(C:Addr):Sp:=λvs H Q _=>aaU C vs H Q
def Nq:cB ["self","name","turns","without"] ["self","name","turns"] (aN<|fY 11):=fs
def ajK (F:bY K "worth" "NamedHall.worth" (fY 11) f fd)(c:Cl K C)(F5:bJ P w K mg base cA 1 f5 fd5 ["self","name"] (Il C))(m5:Meth K C "look_for" f5)(b5:Binds K fd5 ["self","name"] [])(Mo:Ms P w K mg base C 6 "out_by" ["self","laid","turns"] (Tn K C)):
  bJ P w K mg base cA 7 f fd ["self","name","turns"] (Tq K C):=by
 have nd:=Nq.nd;have vt:=Nq.vt;let(fo,fdo,Fo,mo,bo):=Mo.ex;refine bY.ok F Nq (λvs H Q E h=>by let(_,_,_,_,_,_,_,_,_,_,_,_,_,rfl,_):=h;rfl) λcX A outer s H vs Q E hr fQ=>?_;refine⟨_,aK (cP (cL (pV vt 0) c.cl m5 F5 hr.mo b5 .nil dB (ak (pV vt 1) aP)))
  (aK (dO (i:=3) nd rfl lx (apl (gO (pV vt 0) rfl)))
  (aK (cP (Zf (pV vt 3) (pV vt 1) ⟨rfl,rfl,rfl,rfl⟩))
  (bf (cU (dj Dg (bB dR (cL (pV vt 0) c.cl mo Fo hr bo .nil dB (ak (gO (pV vt 0) rfl) (ak (pV vt 2) aP))) aF) (bB dR (cL (pV vt 0) c.cl mo Fo hr bo .nil dB (ak (pV vt 3) (ak (pV vt 2) aP))) aF)))))),?_⟩
 let(p,dx,nn,ll,nums,ls,nm,q,T,W,W',r,r',rfl,hh,hg,hl,e1,e2,hq):=fQ;let(aO,hk,hp):=hh.laid;have g:=Cg nm hp;rw[hg] at g;let(t,gv,gt):=g;dsimp only[jP];unfold mV gk fG;unfold gF CW bR c7 cH;refine aq rfl ⟨p,dx,_,rfl,hh.ins,rfl,aq rfl ⟨p,dx,nn,ll,nums,ls,nm,q,rfl,hh,hg,?_⟩⟩;try k_ne
 refine gP rfl hh.ins c.cl c.n2 rfl ⟨.inr<|.inr ⟨rfl,aO,hk⟩,aO,hk,λz hz=>?_⟩;refine aq rfl ⟨z,rfl,⟨_,.inl au⟩,aq rfl ⟨aO,.inr nm,.ref t,au,rfl,gv,?_⟩⟩;rw[Rt];have s2:=aH (o:=.dK<|sE aO<|.inr nm) hz;have FT:upd H z (.dK<|sE aO<|.inr nm) z=some (.dK<|sE aO<|.inr nm):=au;generalize upd H z (.dK<|sE aO<|.inr nm)=H2 at s2 FT ⊢;have vL:=hh.grow s2;have hp2:=hp.mono λ_ _ z=>z.same λu xs e=>s2 _ _ e;unfold mW jt;refine aq rfl ⟨p,dx,_,rfl,vL.ins,rfl,gP rfl vL.ins c.cl c.n2 rfl<|aq rfl ⟨p,dx,nn,ll,ll,nums,ls,T,_,aO,ls,rfl,vL,s2 _ _ hk,hp2,hl,e1,λv H3 s3 hv=>?_⟩⟩;let(t3,xs3,rfl,hq3,z3,q3,rfl,g3,_):=hv;have e3:=g3;subst e3;have hp3:=hp2.mono λ_ _ z=>z.same λu xs e=>s3 _ _ e;have Gi:=vL.grow s3;refine⟨_,_,hq3,mq _ _,?_⟩;refine aq rfl ⟨p,dx,_,rfl,Gi.ins,rfl,aq rfl<|aq rfl ⟨p,dx,nn,ll,z,nums,ls,T,_,_,wV nm ls,rfl,Gi,s3 _ _ FT,acy hp3,iq (ic _ _) hl,e2,λv H4 s4 hv=>?_⟩⟩;let(t4,xs4,rfl,hq4,z4,q4,rfl,g4,_):=hv;have e4:=g4;subst e4;exact⟨_,_,hq4,mq _ _,hq H4<|s2.trans<|s3.trans s4⟩
end
end qm
namespace qm
open L2 VM
noncomputable def tE (x:Str×Q4):Sp.aU:=(x.2.1.toNat,x.2.2.1.toNat,x.2.2.2.1,x.2.2.2.2)
def bI (ls:List (Str×Q4)):List Sp.aU:=ls.map tE
structure cY (seen:List Str)(ls:List (Str×Q4))(rows:List Row)(B:Int):Prop where
 lr:Paired (LN seen) ls rows
 nn:(rows.map (·.1)).Nodup
 ne:∀r∈rows,r.2.1≠r.2.2.1
 w1:∀r∈rows,1<=r.2.2.2.1/\r.2.2.2.1<=B
 l1:∀r∈rows,1<=r.2.2.2.2
noncomputable def rowAt (rows:List Row)(j:Nat):Row:=rows.getD j ("","","",0,0)
section
variable {B:Int}
def cY.len (F:cY seen ls rows B):ls.length=rows.length:=F.lr.length
structure At (seen:List Str)(ls:List (Str×Q4))(rows:List Row)(j:Nat)(x:Str×Q4):Prop where
 l:ls[j]? =some x
 r:rows[j]? =some (rowAt rows j)
 m:rowAt rows j∈rows
 ln:LN seen x (rowAt rows j)
 p:(bI ls)[j]? =some (tE x)
 n:(iI ls).getD j ""=(rowAt rows j).1
 a:∃i:Nat,(tE x).a=i/\seen[i]? =some (rowAt rows j).2.1
 b:∃i:Nat,(tE x).b=i/\seen[i]? =some (rowAt rows j).2.2.1
 w:(tE x).w=(rowAt rows j).2.2.2.1
 e:(tE x).l=(rowAt rows j).2.2.2.2
def cY.at (F:cY seen ls rows B)(h:j<ls.length):∃x,At seen ls rows j x:=by
 have e:=ag h;let(r,er,hr):=QX F.lr e;have rC:rowAt rows j=r:=by unfold rowAt;rw[bE,er];rfl
 let(h1,(i,h2,h3),(k,h4,h5),h6,h7):=hr;refine(ls[j],e,by rw[rC];exact er,by rw[rC];exact ah er,by rw[rC];exact(h1,(i,h2,h3),(k,h4,h5),h6,h7),by unfold bI;rw[av,e];rfl,?_,(i,by unfold tE;k_ne;rw[h2];rfl,by rw[rC];exact h3),(k,by unfold tE;k_ne;rw[h4];rfl,by rw[rC];exact h5),by rw[rC];exact h6,by rw[rC];exact h7);unfold iI;rw[bE,av,e,rC];exact h1
def cY.mem (F:cY seen ls rows B)(hq:q∈bI ls):∃j x,j<ls.length/\At seen ls rows j x/\q=tE x:=by
 let(j,ej):=cw hq;have hj:j<ls.length:=by have:=(ab.mp ej).1;unfold bI at this;rw[af] at this;exact this
 let(x,hx):=F.at hj;rw[hx.p] at ej;exact(j,x,hj,hx,(be ej).symm)
def cY.hall (F:cY seen ls rows B):Sp.bx seen.length (bI ls):=by
 refine(λq hq=>?_,λq hq=>?_,λq hq=>?_,λq hq=>?_,λq hq=>?_)<;>let(j,x,hj,hx,rfl):=F.mem hq
 .let(i,e,h):=hx.a;rw[e];exact(ab.mp h).1
 .let(i,e,h):=hx.b;rw[e];exact(ab.mp h).1
 .let(i,e,h):=hx.a;let(k,e',h'):=hx.b;rw[e,e'];intro z;rw[z,h'] at h;exact F.ne _ hx.m (be h).symm
 .rw[hx.w];exact(F.w1 _ hx.m).1
 .rw[hx.e];exact F.l1 _ hx.m
theorem cY.hD (F:cY seen ls rows B):PM.hD (bI ls)=.list (ls.map Ab):=by unfold PM.hD BL bI;rw[cm,cm];congr 1;refine dv λx hx=>?_;let(j,ej):=cw hx;let(r,_,hr):=QX F.lr ej;let(_,(i,h2,_),(k,h4,_),_,_):=hr;show pD (((x.2.1.toNat:Nat):Int),((x.2.2.1.toNat:Nat):Int),x.2.2.2.1,x.2.2.2.2)=Ab x;unfold pD Ab;rw[h2,h4];rfl
def cY.out (F:cY seen ls rows B)(hB:B<1e69)(hs:2<=seen.length/\seen.length<=100)(hl:ls.length<=12)(h0:0<=T)(h1:T<1e72):
  ∃W ws aV,LH.d9 seen.length (bI ls) 0 1 T W ws aV/\Pg.iW [.int (seen.length:Int),.list<|ls.map Ab,.int 0,.int 1,.int T]=some (false,.tuple [.int W,.list<|ws.map LH.vG,.list<|aV.map .int]):=by
 have hp:(bI ls).length=ls.length:=by unfold bI;rw[af]
 have e:=LH.arz (st:=0) (g:=1) F.hall (LH.ZM ∅ ∅) ∅ ∅ ∅ ∅ ⋯ h0 ∅ (λq hq=>by
  let(j,x,hj,hx,rfl):=F.mem hq;have:=F.w1 _ hx.m;rw[hx.w];lk)
 rw[F.hD] at e;exact e
theorem Fj:∀{rows:List Row},(rows.map (·.1)).Nodup->r∈rows->rows.filter (λs=>decide<|s.1=r.1)=[r]
 |[],_,h=>by cases h
 |s::rows,nd,h=>by
  rw[az,bg] at nd;rw[eR];rcases aI.mp h with g|g
  .subst g;rw[ar (by simp)];rw[List.filter_eq_nil_iff.mpr λt ht=>by
    grind]
  .rw[ap (by simp only[dQ];exact λz=>nd.1 (by rw[z];exact b9 (f:=λx:Row=>x.1) g))];exact Fj nd.2 g
noncomputable def wQ:VS:=(aD (Mx 7 (lZ (bZ (vF 0)) [none,some 6] (gN 0) (vB (v2 gU (v2 aM (vN 0) (vC (.int 0))) (vN 1))) (vF 0)))
 (aD (dJ (gG (vB (v2 gU (vN 7) (fK a0))) (gG (vB (v2 inE (v2 aM (vN 7) (vC (.int 0))) (vN 4))) (vB (v2 jO (v2 aM (v2 aM (vN 7) (vC (.int 0))) (vC (.int 1))) (vN 5)))))
 (cN<|vC .none)
 cC)
 (aD (gH 4 (aC (v2 aM (vN 7) (vC (.int 0))) a0))
 (bN (v2 aM (v2 aM (vN 7) (vC (.int 0))) (vC (.int 2))) (gN 5)))))
def apS:QM=(aD (pX 4 (fK a0))
 (aD (bN (vF 2) (gN 5))
 (aD (jA (bZ (vF 1)) (gN 6) wQ)
 (aD (dJ (vB (v2 jO (vN 5) (vN 3)))
 (cN<|vC .none)
 cC)
 (fX 4))))):=rfl
noncomputable def SW (rows:List Row)(nms:PyData)(s0 s1:Str)(acc:List Nat)(room:Str)(x6 x7:Option PyData):GS:=[some (Tg.fr,.list<|rows.map bD),some (Tg.fr,nms),some (Tg.fr,.str s0),some (Tg.fr,.str s1),some (Tg.ow,.list<|acc.map λj=>bD<|rowAt rows j),some (Tg.fr,.str room),ob x6,ob x7]
def Vy (r:Row):(bD r).depth<=60:=by unfold bD;simp[PyData.depth,depthAll]
def amP {s0 s1 nm:Str}(nd:(rows.map (·.1)).Nodup)(hr:r∈rows)(hl:rows.length<1000)(hc:∀r∈rows,(bD r).canLay0=true)(hn:r.1=nm):
  (lZ (bZ<|vF 0) [none,some 6] (gN 0) (vB<|v2 gU (v2 aM (vN 0)<|vC<|.int 0)<|vN 1)<|vF 0) (SW rows nms s0 s1 acc room (some<|.str nm) x7)=some (.list [bD r]):=by
 unfold SW;z_go;rw[qz rfl (by rw[af];exact bT ∅)];rw[sy (f:=λd=>d)]
 .z_go;rw[nk,cm];have e:(rows.filter<|(λd=>match d with|.list (.str n::_)=>decide (n=nm)|_=>false) ∘ bD)=[r]:=by rw[<-Fj nd hr,hn];rfl
  rw[e];rfl
 .intro d hd;let(s,hs,rfl):=bp.mp hd;refine([some (.fr,bD s),some (.fr,.str nm)],by z_go,?_,λ_=>by z_go);rfl
def ajL {s0 s1 nm:Str}(nd:(rows.map (·.1)).Nodup)(hm:rowAt rows j∈rows)(hl:rows.length<1000)(hc:∀r∈rows,(bD r).canLay0=true)(hn:(rowAt rows j).1=nm)(aeM:(rowAt rows j).2.1=room)
  (Ar:∀i∈acc,(rowAt rows i).1≠nm)(ha:acc.length<=1000):wQ (SW rows nms s0 s1 acc room (some<|.str nm) x7)=.nxt (SW rows nms s0 s1 (acc++[j]) (rowAt rows j).2.2.1 (some<|.str nm)<|some<|.list [bD<|rowAt rows j]):=by
 have ef:=amP (nms:=nms) (s0:=s0) (s1:=s1) (acc:=acc) (room:=room) (x7:=x7) nd hm hl hc hn;have hcr:=hc _ hm;unfold wQ;rw[xr,xu,ef];unfold SW;z_go;have e0:gU (.list [bD<|rowAt rows j]) (.list [])=some (.bool false):=eq_nil [rowAt rows j];rw[e0];z_go;have e1:inE (bD<|rowAt rows j) (.list<|acc.map λj=>bD<|rowAt rows j)=some (.bool false):=by
  have hall:((acc.map λj=>bD<|rowAt rows j).all λd=>!PyData.eqv d (bD<|rowAt rows j))=true:=fE.mpr λd hd=>by let(i,hi,rfl):=bp.mp hd;rw[Ez λz=>Ar i hi<|by rw[z,hn]];rfl
  exact ar ⟨Vy _,hall⟩
 rw[e1];generalize hrr:rowAt rows j=r at*
 have c1:(PyData.str r.2.1).canLay0=true:=by simp only[bD,canLay0,canLayAll0,bS] at hcr ⊢;exact hcr.2.1
 have e2:jO (.str r.2.1) (.str room)=some (.bool false):=by rw[<-aeM];exact EY (by simp[PyData.depth]) c1
 rw[show bD r=.list [.str r.1,.str r.2.1,.str r.2.2.1,.int r.2.2.2.1,.int r.2.2.2.2] from rfl];z_go;rw[e2];z_go;rw[ar (by rw[af];exact bT ∅)];z_go;rw[bz,az,eQ,hrr];rfl
def ajM (F:cY seen ls rows B)(hl:rows.length<1000)(hc:∀r∈rows,(bD r).canLay0=true):∀(w acc:List Nat) (v:Nat) (room:Str) (x6 x7:Option PyData),LH.goes (bI ls) v w=some g->seen[v]? =some room->(acc++w).Nodup->(∀j∈acc++w,j<ls.length)->
  ∃J5 zN KN,eE (gN 6) wQ ((lO ls w).map .str) (SW rows nms s0 s1 acc room x6 x7)=.nxt (SW rows nms s0 s1 (acc++w) J5 zN KN)/\seen[g]? =some J5:=by
 intro w;induction w with
 |nil=>
  intro acc v room x6 x7 hg hs _ _;cases hg;exact(room,x6,x7,by rw[df];rfl,hs)
 |cons j w ih=>
  intro acc v room x6 x7 hg hs nd hi;have hj:=hi j<|bc.mpr<|.inr<|ae ..;let(x,hx):=F.at hj;rw[LH.goes,hx.p] at hg;dsimp only at hg;split at hg
  .rename_i hq;let(ia,e1,e2):=hx.a;let(ib,e3,e4):=hx.b;have aeM:(rowAt rows j).2.1=room:=by rw[<-e1,hq,hs] at e2;exact(be e2).symm
   have yI:=(fz.mp nd);have Ar:∀i∈acc,(rowAt rows i).1≠(rowAt rows j).1:=λi hia z=>by
    have nH:=hi i<|bc.mpr<|.inl hia;let(y,hy):=F.at nH;have bA:i≠j:=λz=>yI.2.2 i hia j (ae ..) z;have n1:(rows.map (·.1))[i]? =some (rowAt rows i).1:=by rw[av,hy.r];rfl
    have n2:(rows.map (·.1))[j]? =some (rowAt rows i).1:=by rw[av,hx.r,z];rfl
    let(b1,c1):=ab.mp n1;let(b2,c2):=ab.mp n2;exact bA<|(hX F.nn).mp<|c1.trans c2.symm
   have hal:acc.length<=1000:=by
    have h1:(acc++j::w).length<=ls.length:=by have:=Sp.lR nd hi;exact this
    rw[aw] at h1;have:=F.len;lk
   have hb:=ajL (nms:=nms) (s0:=s0) (s1:=s1) (x7:=x7) F.nn hx.m hl hc rfl aeM Ar hal;let(J5,zN,KN,h1,h2):=ih (acc++[j]) (tE x).b (rowAt rows j).2.2.1 (some<|.str (rowAt rows j).1) (some<|.list [bD<|rowAt rows j]) hg (by rw[e3];exact e4) (by rw[dm];exact nd) (by rw[dm];exact hi);refine(J5,zN,KN,?_,h2);rw[dm] at h1;unfold lO at h1 ⊢;rw[az,az,eE];have ht:gN 6 (.str<|(iI ls).getD j "") (SW rows nms s0 s1 acc room x6 x7)=some (SW rows nms s0 s1 acc room (some<|.str (rowAt rows j).1) x7):=by rw[hx.n];unfold SW;z_go
   rw[ht];k_ne;rw[hb];exact h1
  .cases hg
def aeg (F:cY seen ls rows B)(hl:rows.length<1000)(hc:∀r∈rows,(bD r).canLay0=true){rest:List Str}(hs:seen=s0::s1::rest)(h1c:(PyData.str s1).canLay0=true)(Wk:LH.yF (bI ls) 0 1 x):
  pQ [cQ rows,bU<|lO ls x.1,.str s0,.str s1]=some (true,.list<|x.1.map λj=>bD<|rowAt rows j):=by
 have hp:(bI ls).length=ls.length:=by unfold bI;rw[af]
 let(J5,zN,KN,e,h):=ajM F hl hc x.1 [] 0 s0 none none Wk.go (by rw[hs];rfl) Wk.nd (λj hj=>by have:=Wk.ix j hj;lk);have hr:J5=s1:=by rw[hs] at h;exact(be h).symm
 subst hr;unfold pQ cQ bU at*
 rw[apS];z_go;unfold SW at e;simp only[iD,eQ,fm] at e;rw[e];z_go;have e2:=EY (by simp[PyData.depth]) h1c;rw[e2];z_go
end
noncomputable def qN (p:Str×Int):PyData:=.tuple [.str p.1,.int p.2]
def Jd (seen:List Str)(aV:List Int):PyData:=.list<|(seen.zip aV).map qN
def amQ (x:Int):fO [.int x]=some (false,.bool true):=by rfl
def aeN:VS:=dJ (gG (dU<|vB<|p7 "tuple" (vN 3))<|gG (vB<|v2 jO (dW fV<|aC (vN 3) a0)<|vC<|.int 2)<|gG (dU<|vB<|bH fO<|aC (v2 aM (vN 3)<|vC<|.int 1) a0)<|dU<|vB<|yg wG wG (vC<|.int 0) (v2 aM (vN 3)<|vC<|.int 1)<|v2 cu (vN 2)<|vC<|.int 1)
      (cN<|vC<|.bool false) cC
def aeO:Cp=(aD (dJ (gG (dU (vB (p7 "list" (vN 0)))) (vB (v2 jO (lZ (bZ (vF 0)) [none] (gN 0) jf (v2 aM (vN 0) (vC (.int 0)))) (vN 1))))
 (cN<|vC<|.bool false)
 cC)
 (aD (jA (bZ (vF 0)) (gN 3) aeN)
 (cN (Mg (v2 gU (v2 aM (v2 aM (vN 0) (vC (.int 0))) (vC (.int 1))) (vC (.int 0))) (v2 gU (v2 aM (v2 aM (vN 0) (vC (.int 1))) (vC (.int 1))) (v2 cu (vN 2) (vC (.int 1)))))))):=rfl
def zP {rest:List Str}(hl:aV.length=(s0::s1::rest).length)(hs:(s0::s1::rest).length<1000)(hc:∀x∈s0::s1::rest,(PyData.str x).canLay0=true)(hb:∀μ∈aV,0<=μ/\μ<=T+1)(h0:PM.lf aV 0=0)(h1:PM.lf aV 1=T+1):
  jo [Jd (s0::s1::rest) aV,bU (s0::s1::rest),.int T]=some (false,.bool true):=by
 obtain⟨m0,m1,mr,rfl⟩:∃m0 m1 mr,aV=m0::m1::mr:=by
  match aV,hl with
  |m0::m1::mr,_=>exact⟨m0,m1,mr,rfl⟩
 have e0:m0=0:=h0;have e1:m1=T+1:=h1;have bA:=EY (aeI (s0::s1::rest))<|ajv hc;unfold jo Jd bU at*
 rw[aeO];generalize hS:s0::s1::rest=seen at*
 generalize hM:m0::m1::mr=ms at*
 z_go;rw[qz rfl (by rw[af,ng];exact bT ∅)];rw[kZ]
 .z_go;have e2:((seen.zip ms).map qN).map (λd=>match d with|.tuple (x::_)=>x|d=>d)=seen.map .str:=by
   rw[cm]
   have:(seen.zip ms).map ((λd=>match d with|.tuple (x::_)=>x|d=>d) ∘ qN)=((seen.zip ms).map (·.1)).map .str:=by rw[cm];rfl
   rw[this,kH ∅]
  rw[e2,bA];z_go;let(S',eS,x3,hS'):=abZ (t:=gN 3) (g:=aeN) (λ_ S=>∃x3,S=[some (Tg.fr,.list<|(seen.zip ms).map qN),some (Tg.fr,.list<|seen.map .str),some (Tg.fr,.int T),ob x3]) ((seen.zip ms).map qN) 0 [some (Tg.fr,.list<|(seen.zip ms).map qN),some (Tg.fr,.list<|seen.map .str),some (Tg.fr,.int T),none] ⟨none,rfl⟩ λj d S hd hS=>by
    let(x3,rfl):=hS;let(p,hp,rfl):=bp.mp<|ah hd;have hpm:=(jS hp).2;let(b0,b1):=hb _ hpm;refine⟨[some (Tg.fr,.list<|(seen.zip ms).map qN),some (Tg.fr,.list<|seen.map .str),some (Tg.fr,.int T),ob<|some<|qN p],by z_go,[some (Tg.fr,.list<|(seen.zip ms).map qN),some (Tg.fr,.list<|seen.map .str),some (Tg.fr,.int T),ob<|some<|qN p],.inl ?_,⟨_,rfl⟩⟩;unfold aeN qN;z_go;have d2:decide (((2:Nat):Int)=2)=true:=by decide
    kt_k;rw[amQ];kt_k
  rw[eS];subst hS';rw[<-hS,←hM];z_go;rw[kz,kz];z_go;unfold qN;z_go;rw[e0];z_go;simp only[dP];z_go;rw[e1];kt_k
 .intro d hd;let(p,_,rfl):=bp.mp hd;refine⟨_,rfl,rfl,rfl⟩
open PyProof.Rows
def pY (seen:List Str)(aV:List Int)(x:Str):Int:=(gq x<|seen.zip aV).getD 0
theorem yN:∀{seen:List Str}{aV:List Int} {i:Nat} {x:Str} {μ:Int},seen.Nodup->seen[i]? =some x->aV[i]? =some μ->gq x (seen.zip aV)=some μ
 |s::seen,m::aV,0,x,μ,_,h1,h2=>by cases h1;cases h2;rw[kz,gq,ar rfl]
 |s::seen,m::aV,i+1,x,μ,nd,h1,h2=>by
  rw[bg] at nd;rw[kz,gq,ap λz=>nd.1 (by
   have hz:s=x:=z;rw[hz];exact ah (show seen[i]? =some x from h1))]
  exact yN nd.2 (show seen[i]? =some x from h1) (show aV[i]? =some μ from h2)
 |[],_,i,x,μ,_,h1,_=>by simp at h1
 |_::_,[],i,x,μ,_,_,h2=>by simp at h2
def wZ (seen:List Str)(aV:List Int)(r:Row):Int:=r.2.2.2.1*(if pY seen aV r.2.2.1 - pY seen aV r.2.1 - r.2.2.2.2>0 then pY seen aV r.2.2.1 - pY seen aV r.2.1 - r.2.2.2.2 else 0)
section
variable {K:Frag}
def J6 (e:σ[i]? =some (some<|.ref t))(h:aZ K H t xs)(a:dI xs j=some v)(q:Q v H):jt (zm K) (vR i) (tC<|.int j) σ H Q:=aq e (xs,v,h,a,q)
def row_has (h:Has K H (bD r) v):∃a,v=.ref a/\aZ K H a (gQ r):=by let(t,xs,rfl,hq,y1,r1,rfl,(rfl,_),y2,r2,rfl,(rfl,_),y3,r3,rfl,(rfl,_),y4,r4,rfl,h4,y5,r5,rfl,h5,hr):=h;have e4:=h4;have e5:=h5;have er:=hr;subst e4 e5 er;exact(t,rfl,hq)
def amR (h:Has K H (qN p) v):∃a,v=.ref a/\bV K H a [.str p.1,.int p.2]:=by let(t,xs,rfl,hq,y1,r1,rfl,(rfl,_),y4,r4,rfl,h4,hr):=h;have e4:=h4;have er:=hr;subst e4 er;exact(t,rfl,hq)
inductive aaW (K:Frag)(vs:List V)(H:Hp)(Q:VK):Prop
 |mk:∀vd vm rows seen,∀aV:List Int,vs=[vd,vm]->Has K H (cQ rows) vd->Has K H (Jd seen aV) vm->seen.Nodup->aV.length=seen.length->seen.length<1000->((∀r∈rows,r.2.1∈seen/\r.2.2.1∈seen/\r.2.2.2.1.natAbs<2^8000/\(pY seen aV r.2.2.1 - pY seen aV r.2.1 - r.2.2.2.2).natAbs<2^8000))->(∀H',Same H H'->Q (.int (rows.map<|wZ seen aV).sum) H')->aaW K vs H Q
def acW (K:Frag):Sp:=λvs H Q _=>aaW K vs H Q
def Nr:cB ["_law_held","_law_moments_here","_law_at","_law_room","_law_moment","_law_found","_law_row"] ["_law_held","_law_moments_here"] (aN<|top 52):=fs
def ajN (F:bY K "_law_bound" "_law_bound" (top 52) f fd)(B:Bl mg):bJ P w K mg base cA 1 f fd ["_law_held","_law_moments_here"] (acW K):=by
 have nd:=Nr.nd;have vt:=Nr.vt;refine bY.ok F Nr (λvs H Q E h=>by let(_,_,_,_,_,rfl,_):=h;rfl) λcX A outer s H vs Q E hr fQ=>?_;refine⟨_,aK (dO (i:=2) nd rfl lx Zc)
  (aK (nF di rfl (mC (pV vt 1)) (Dh rfl (jl (dM (i:=3) nd rfl lx) (jl (dM (i:=4) nd rfl lx) yd))) (bf (JT (pF hr) (pV vt 2) (pV vt 3) (pV vt 4) rfl)))
  (aK (dO (i:=5) nd rfl lx aF)
  (aK (nF di rfl (mC (pV vt 0)) (dM (i:=6) nd rfl lx) (bf (dO (i:=5) nd rfl lx (dj uf (pV vt 5) (dj adK (bB jG (pV vt 6) aF) (eZ (afq rfl) gx B.max PyProof.Rows.boot_max (ak aF (ak (dj Dg (dj Dg (xG (pF hr) (pV vt 2) (bB jG (pV vt 6) aF) (λ_ _=>rfl)) (xG (pF hr) (pV vt 2) (bB jG (pV vt 6) aF) (λ_ _=>rfl))) (bB jG (pV vt 6) aF)) aP))))))))
  (bf (cU (pV vt 5)))))),?_⟩
 let(vd,vm,rows,seen,aV,rfl,hvd,hvm,lN,zT,Vz,hin,hq):=fQ;let(am,xm,rfl,hsm,hxm):=hvm;let(ad,xd,rfl,hsd,La):=hvd;let(lm,avL):=J4 hxm;let(ld,avM):=J4 La;rw[af] at lm ld;have hzl:(seen.zip aV).length=seen.length:=by rw[ng];lk
 dsimp only[jP];unfold mV fG cH;intro d hd;have s1:=aH (o:=.dK []) hd;have hd1:upd H d (.dK []) d=some (.dK []):=au;generalize upd H d (.dK [])=H1 at s1 hd1 ⊢;try k_ne
 rw[nO];refine aq rfl ⟨am,rfl,⟨xm,s1.seq hsm⟩,?_⟩;refine forL (λi aX H'=>(∃y3 y4,aX=[some<|.ref ad,some<|.ref am,some<|.ref d,y3,y4,none,none])/\H' d=some (.dK<|((seen.zip aV).take i).map kY)/\Same H H') ⟨⟨_,_,rfl⟩,hd1,s1⟩ (λi aX H' _ h=>h.2.2.seq hsm) ?_ ?_
 .rintro i v aX H' hv ⟨⟨y3,y4,rfl⟩,hdi,sm⟩;have hi:i<(seen.zip aV).length:=by have:=(ab.mp hv).1;lk
  have Zj:=ag hi;let(t,rfl,bh):=amR (Has.same sm (avL i _ v (by rw[av,Zj];rfl) hv));have htk:(seen.zip aV).take (i+1)=(seen.zip aV).take i++[(seen.zip aV)[i]]:=by rw[kq,Zj];rfl
  have apT:((seen.zip aV).map (·.1))=seen:=kH ∅;have uc:(seen.zip aV)[i].1∉((seen.zip aV).take i).map (·.1):=λhm=>by
   rw[nc,apT] at hm;have h1:seen[i]? =some (seen.zip aV)[i].1:=by have h2:=dT (λl=>l[i]?) apT;simp only[av,Zj] at h2;exact h2.symm
   let(k,ek):=cw hm;have hk:k<i:=by have:=(ab.mp ek).1;rw[dt] at this;lk
   rw[List.getElem?_take,ar hk] at ek;let(b1,c1):=ab.mp ek;let(b2,c2):=ab.mp h1;have:=(hX lN).mp<|c1.trans c2.symm;lk
  generalize (seen.zip aV)[i]=p at bh htk uc;refine⟨_,bh,rfl,?_⟩;show Qg (vR 2) (vR 3) (vR 4) _ [some<|.ref ad,some<|.ref am,some<|.ref d,some<|.str p.1,some<|.int p.2,none,none] H';refine aq rfl<|aq rfl<|aq rfl ⟨d,_,rfl,Hl.k (k:=.inr p.1) hdi (by rw[af,dt];exact bT ∅),⟨_,_,rfl⟩,?_,λb o e=>?_⟩
  .rw[au,acz,Nh uc,htk]
  .rw[aJ λz=>by rw[z,hd] at e;cases e];exact sm _ _ e
 rintro aX H2 ⟨⟨y3,y4,rfl⟩,N8,s2⟩;rw[<-lm,c9 ∅] at N8;have get:∀x∈seen,qI ((seen.zip aV).map kY) (.inr x)=some (.int<|pY seen aV x):=λx hx=>by
  let(i,ei):=cw hx;have hi:i<aV.length:=by have:=(ab.mp ei).1;lk
  rw[Ce];unfold pY;rw[yN lN ei<|ag hi];rfl
 unfold tC;try k_ne
 rw[nO];refine aq rfl ⟨ad,rfl,⟨xd,s2.seq hsd⟩,?_⟩;refine forL (λi aX H'=>(∃y6,aX=[some<|.ref ad,some<|.ref am,some<|.ref d,y3,y4,some<|.int ((rows.take i).map<|wZ seen aV).sum,y6])/\H'=H2) ⟨⟨_,rfl⟩,rfl⟩ (λi aX H' _ h=>by rw[h.2];exact s2.seq hsd) ?_ ?_
 .rintro i v aX H' hv ⟨⟨y6,rfl⟩,rfl⟩;have hi:i<rows.length:=by have:=(ab.mp hv).1;lk
  have hri:=ag hi;have Je:=fR hi;let(t,rfl,bh):=row_has (Has.same s2 (avM i _ v (by rw[av,hri];rfl) hv));have htk:rows.take (i+1)=rows.take i++[rows[i]]:=by rw[kq,hri];rfl
  generalize rows[i]=r at bh htk Je;let(ha,hb,hbw,hbm):=hin r Je;have hbi:(if pY seen aV r.2.2.1 - pY seen aV r.2.1 - r.2.2.2.2>0 then pY seen aV r.2.2.1 - pY seen aV r.2.1 - r.2.2.2.2 else 0).natAbs<2^8000:=by
   split
   .exact hbm
   .exact iq (dE _) hbm
  rw[op2];refine aq rfl ?_;rw[op2];refine J6 rfl bh rfl ?_;unfold rK bR c7;k_ne;rw[op2,op2];refine aq rfl (J6 rfl bh rfl ⟨d,_,rfl,by rw[<-get _ hb];exact nY.k (k:=.inr r.2.2.1) N8,?_⟩);refine aq rfl (J6 rfl bh rfl ⟨d,_,rfl,by rw[<-get _ ha];exact nY.k (k:=.inr r.2.1) N8,?_⟩);refine J6 rfl bh rfl ⟨0,_,rfl,?_⟩;have es:((rows.take<|i+1).map<|wZ seen aV).sum=((rows.take i).map<|wZ seen aV).sum+wZ seen aV r:=by rw[htk,bz,az,eQ,qh,dk,sum_nil,mT]
  rw[es];exact⟨⟨hbw,hbi⟩,⟨_,rfl⟩,rfl⟩
 rintro aX H3 ⟨⟨y6,rfl⟩,rfl⟩;rw[<-ld,c9 ∅];try k_ne
 unfold mW;exact aq (v:=.int _) rfl<|hq _ s2
end
def Cz (ls:List (Str×Q4))(r:LH.jU):PyData:=.tuple [bU<|lO ls r.w,.int r.m,.int r.s,.int r.e]
def qO (rows:List Row)(o:LH.Ex):PyData:=.tuple [.str (rowAt rows o.1).1,.int o.2.2.1,.int o.2.2.2,.int o.2.1]
def XC:VS:=(aD (gH 5 (aC (fJ (aC (v2 aM (vN 13) (vC (.int 0))) (aC (v2 cu (vN 9) (vN 12)) (aC (v2 cu (vN 10) (vN 12)) (aC (vF 8) a0))))) a0))
 (bN (v2 cu (vN 12) (v2 aM (vN 13) (vC (.int 4)))) (gN 12)))
def pN:VS:=(aD (dJ (gG (dU (vB (p7 "tuple" (vN 6)))) (gG (vB (v2 jO (dW fV (aC (vN 6) a0)) (vC (.int 4)))) (vB (v2 jO (lZ (qU (GK (vN 6) (oI (vC (.int 1))) oN)) [none] (gN 0) (dU (vB (bH fO (aC (vF 0) a0)))) (vF 0)) (fK a0)))))
 (cN<|vC .none)
 cC)
 (aD (bN (vF 6) (gT 4 (gC (gN 7) (gC (gN 8) (gC (gN 9) (gC (gN 10) g0))))))
 (aD (bN (bH pQ (aC (vF 1) (aC (vF 7) (aC (v2 aM (vN 2) (vC (.int 0))) (aC (v2 aM (vN 2) (vC (.int 1))) a0))))) (gN 11))
 (aD (dJ (gG (vB (v2 isD (vN 11) (vC .none))) (gG (vB (v2 mQ (vN 8) (vC (.int 1)))) (gG (vB (v2 mQ (vN 9) (vC (.int 0)))) (vB (v2 mQ (vN 10) (vN 9))))))
 (cN<|vC .none)
 cC)
 (aD (bN (vC (.int 0)) (gN 12))
 (aD (jA (bZ (vF 11)) (gN 13) XC)
 (aD (dJ (vB (v2 tM (v2 cu (vN 10) (vN 12)) (vN 3)))
 (cN<|vC .none)
 cC)
 (bN (v2 cu (vN 4) (v2 rQ (vN 8) (v2 cu (v2 jm (vN 10) (vN 9)) (vC (.int 1))))) (gN 4)))))))))
def XD:VS:=(aD (Ko 5 (bN (dW Dm (aC (lZ (bZ (vF 5)) [none,some 14,some 9] (gN 0) (VM.fP (vB (v2 gU (v2 aM (vN 0) (vC (.int 0))) (vN 1))) (VM.fP (vB (v2 wG (v2 aM (vN 0) (vC (.int 1))) (vN 2))) (vB (v2 wG (vN 2) (v2 aM (vN 0) (vC (.int 2))))))) (v2 aM (vN 0) (vC (.int 3)))) a0)) (gN 15)))
 (dJ (vB (v2 tM (vN 15) (v2 aM (lZ (bZ (vF 1)) [none,some 14] (gN 0) (vB (v2 gU (v2 aM (vN 0) (vC (.int 0))) (vN 1))) (v2 aM (vN 0) (vC (.int 3)))) (vC (.int 0)))))
 (cN<|vC .none)
 cC))
def aeP:Cr=(aD (bN (vC (.int 0)) (gN 4))
 (aD (pX 5 (fK a0))
 (aD (jA (bZ (vF 0)) (gN 6) pN)
 (aD (Ko 5 (jA (bZ (vF 5)) (gT 4 (gC (gN 14) (gC (gN 9) (gC (gN 10) (gC (gN 8) g0))))) XD))
 (fX 4))))):=rfl
def SP (plan held seen:PyData)(T found:Int)(tg:Tg)(avN:List PyData)(x6 x7 x8 x9 x10 x11 x12 oE tW rE:Option PyData):GS:=[some (.fr,plan),some (.fr,held),some (.fr,seen),some (.fr,.int T),some (.fr,.int found),some (tg,.list avN),ob x6,ob x7,ob x8,ob x9,ob x10,ob x11,ob x12,ob oE,ob tW,ob rE]
section
variable {seen:List Str}
def Nt (ps:List Sp.aU)(m s e:Int):∀(w:List Nat) (a:Int),(LH.n6 ps a w m s e).length=w.length:=by
 intro w;induction w with
 |nil=>intro a;rfl
 |cons j w ih=>intro a;rw[LH.n6,ay,ay,ih]
def Ad (h1:t d S=some S1)(h2:g S1=.nxt S2):eE t g (d::r) S=eE t g r S2:=by rw[eE,h1];k_ne;rw[h2]
def at4 (x y z u v:PyData)(r:List PyData):dI (x::y::z::u::v::r) 4=some v:=iC rfl
def ajO (r:Row)(hl:acc.length<1000):XC (SP plan held sn T found .ow acc x6 x7 (some<|.int m) (some<|.int s) (some<|.int e) x11 (some<|.int a) (some<|bD r) tW rE)
  =.nxt (SP plan held sn T found .ow (acc++[.tuple [.str r.1,.int<|s+a,.int<|e+a,.int m]]) x6 x7 (some<|.int m) (some<|.int s) (some<|.int e) x11 (some<|.int<|a+r.2.2.2.2) (some<|bD r) tW rE):=by
 unfold SP XC bD;kt_k;rfl
def ahp (F:cY seen ls rows B):∀(w:List Nat) (a:Int) (acc:List PyData) (oE:Option PyData),(∀j∈w,j<ls.length)->acc.length+w.length<=1000->
  ∃Fp,eE (gN 13) XC (w.map λj=>bD<|rowAt rows j) (SP plan held sn T found .ow acc x6 x7 (some<|.int m) (some<|.int s) (some<|.int e) x11 (some<|.int a) oE tW rE)
   =.nxt (SP plan held sn T found .ow (acc++(LH.n6 (bI ls) a w m s e).map (qO rows)) x6 x7 (some<|.int m) (some<|.int s) (some<|.int e) x11 (some<|.int<|a+LH.bM Sp.aU.l (bI ls) w) Fp tW rE):=by
 intro w;induction w with
 |nil=>intro a acc oE _ _;refine⟨oE,?_⟩;rw[eQ,LH.Em,mT,show LH.n6 (bI ls) a [] m s e=[] from rfl,eQ,df];rfl
 |cons j w ih=>
  intro a acc oE hj hl;rw[ay] at hl;let(x,hx):=F.at (hj j<|ae ..);have tQ:LH.wI Sp.aU.l (bI ls) j=(rowAt rows j).2.2.2.2:=by rw[LH.nq hx.p,hx.e]
  let(Fp,e2):=ih (a+(rowAt rows j).2.2.2.2) (acc++[qO rows (j,m,s+a,e+a)]) (some<|bD<|rowAt rows j) (λk hk=>hj k<|aa _ hk) (by rw[aw];simp only[ay,eD];lk);refine⟨Fp,?_⟩;rw[LH.jW,tQ,←ko,show LH.n6 (bI ls) a (j::w) m s e=(j,m,s+a,e+a)::LH.n6 (bI ls) (a+LH.wI Sp.aU.l (bI ls) j) w m s e from rfl,tQ,az];rw[dm] at e2;rw[az];refine(Ad ?_<|ajO _ ∅).trans e2;unfold SP;cases oE<;>z_go
def ajP (F:cY seen ls rows B)(hl:rows.length<1000)(hc:∀r∈rows,(bD r).canLay0=true){rest:List Str}(hs:seen=s0::s1::rest)(h1c:(PyData.str s1).canLay0=true)(Wk:LH.yF (bI ls) 0 1 (r.w,r.m))(h0:0<=r.s)(h1:r.s<=r.e)(h2:r.e+LH.bM Sp.aU.l (bI ls) r.w<=T)
  (hm:r.m<1e100)(hT:r.e+1<1e100)(ha:acc.length+r.w.length<=1000)(oE:Option PyData):
  ∃KN x8' x9' aaX ajQ ajR Fp,pN (SP plan (cQ rows) (bU seen) T found .ow acc (some<|Cz ls r) x7 x8 x9 x10 x11 x12 oE tW rE)
   =.nxt (SP plan (cQ rows) (bU seen) T (found+r.m*(r.e - r.s+1)) .ow (acc++(LH.n6 (bI ls) 0 r.w r.m r.s r.e).map (qO rows)) (some<|Cz ls r) KN x8' x9' aaX ajQ ajR Fp tW rE):=by
 have hw:=aeg F hl hc hs h1c Wk;have hp:(bI ls).length=ls.length:=by unfold bI;rw[af]
 let(Fp,hL):=ahp (plan:=plan) (held:=cQ rows) (sn:=bU seen) (T:=T) (found:=found) (x6:=some<|Cz ls r) (x7:=some<|bU<|lO ls r.w) (x11:=some<|.list<|r.w.map λj=>bD<|rowAt rows j) (tW:=tW) (rE:=rE) (m:=r.m) (s:=r.s) (e:=r.e) F r.w 0 acc oE (λj hj=>by have:=Wk.ix j hj;lk) ha;refine(some<|bU<|lO ls r.w,some<|.int r.m,some<|.int r.s,some<|.int r.e,some<|.list<|r.w.map λj=>bD<|rowAt rows j,some<|.int<|0+LH.bM Sp.aU.l (bI ls) r.w,Fp,?_);have m1:=Wk.m1;subst hs;unfold pN;unfold SP Cz at hL ⊢;kt_k;rw[ap<|by decide,show VM.cutD [bU<|lO ls r.w,.int r.m,.int r.s,.int r.e] (some 1) none=[.int r.m,.int r.s,.int r.e] from rfl];rw[qz rfl (by show 3<sizeLine;decide),sy (p:=λ_=>false) (f:=λd=>d)]
 rotate_left
 .intro d hd;have hi:∃i,d=.int i:=by grind
  let(i,rfl):=hi;refine([some (.fr,.int i)],by z_go,?_,λz=>by cases z);rfl
 rw[show([PyData.int r.m,.int r.s,.int r.e].filter λ_=>false).map (λd=>d)=[] from rfl];z_go;rw[show jO (.list []) (.list [])=some (.bool false) from EY (by simp[PyData.depth,depthAll]) (by simp[canLay0,canLayAll0])];z_go;rw[show bU (s0::s1::rest)=.list (.str s0:: .str s1::rest.map .str) from rfl];z_go;rw[hw];z_go;have hLs:bU (s0::s1::rest)=.list (.str s0:: .str s1::rest.map .str):=rfl;rw[hLs] at hL;simp only[qW] at hL;kt_k;rw[hL];z_go;simp only[show ¬T<r.e+(0+LH.bM Sp.aU.l (bI ls) r.w) by lk,de];z_go;rw[su ∅ ∅ ∅ ∅];rfl
structure apU (ps:List Sp.aU)(T:Int)(r:LH.jU):Prop where
 wk:LH.yF ps 0 1 (r.w,r.m)
 s0:0<=r.s
 se:r.s<=r.e
 eT:r.e+LH.bM Sp.aU.l ps r.w<=T
 mb:r.m<1e100
 eb:r.e+1<1e100
def ahq (F:cY seen ls rows B)(hl:rows.length<1000)(hc:∀r∈rows,(bD r).canLay0=true){rest:List Str}(hs:seen=s0::s1::rest)(h1c:(PyData.str s1).canLay0=true):∀(pl:List LH.jU) (found:Int) (acc:List PyData) (x6 x7 x8 x9 x10 x11 x12 oE:Option PyData),(∀r∈pl,apU (bI ls) T r)->acc.length+(LH.mJ (bI ls) pl).length<=1000->
  ∃zN KN x8' x9' aaX ajQ ajR Fp,eE (gN 6) pN (pl.map<|Cz ls) (SP plan (cQ rows) (bU seen) T found .ow acc x6 x7 x8 x9 x10 x11 x12 oE tW rE)
   =.nxt (SP plan (cQ rows) (bU seen) T (found+(pl.map λr=>r.m*(r.e - r.s+1)).sum) .ow (acc++(LH.mJ (bI ls) pl).map (qO rows)) zN KN x8' x9' aaX ajQ ajR Fp tW rE):=by
 intro pl;induction pl with
 |nil=>intro found acc x6 x7 x8 x9 x10 x11 x12 oE _ _;refine(x6,x7,x8,x9,x10,x11,x12,oE,?_);rw[LH.qL,eQ,eQ,eQ,df,sum_nil,mT];rfl
 |cons r pl ih=>intro found acc x6 x7 x8 x9 x10 x11 x12 oE h ha;have hr:=h r<|ae ..;rw[LH.vI,aw,Nt] at ha;let(y7,y8,y9,Rc,y11,y12,y13,e1):=ajP (x7:=x7) (x8:=x8) (x9:=x9) (x10:=x10) (x11:=x11) (x12:=x12) F hl hc hs h1c hr.wk hr.s0 hr.se hr.eT hr.mb hr.eb (acc:=acc) ∅ oE;let(z6,z7,z8,z9,z10,z11,z12,z13,e2):=ih (found+r.m*(r.e - r.s+1)) (acc++(LH.n6 (bI ls) 0 r.w r.m r.s r.e).map (qO rows)) (some<|Cz ls r) y7 y8 y9 Rc y11 y12 y13 (λx hx=>h x<|aa _ hx) (by rw[aw,af,Nt];lk);refine(z6,z7,z8,z9,z10,z11,z12,z13,?_);rw[az,az,dk,←ko,LH.vI,bz,←dm];refine(Ad ?_ e1).trans e2;unfold SP;cases x6<;>z_go
def alC (a b:Str):gU (.str a) (.str b)=some (.bool<|decide<|a=b):=by rfl
noncomputable def pL (nm:Str)(t:Int):PyData->Bool
 |.tuple [.str n,.int a,.int b,_]=>decide (n=nm) && (decide (a<=t) && decide (t<=b))
 |_=>false
noncomputable def fL:PyData->PyData
 |.tuple [_,_,_,x]=>x
 |d=>d
def ajS (nd:(rows.map (·.1)).Nodup)(hj:j<rows.length)(hk:k<rows.length)(h:(rowAt rows j).1=(rowAt rows k).1):j=k:=by
 have ej:rowAt rows j=rows[j]:=by unfold rowAt;rw[bE,ag hj];rfl
 have ek:rowAt rows k=rows[k]:=by unfold rowAt;rw[bE,ag hk];rfl
 rw[ej,ek] at h;have:=(hX (h₀:=by rw[af];exact hj) (h₁:=by rw[af];exact hk) nd).mp (by rw[km,km];exact h);exact this
def ajT (nd:(rows.map (·.1)).Nodup)(hk:k<rows.length):∀E:List LH.Ex,(∀o∈E,o.1<rows.length)->∃ns:List Int,((E.map<|qO rows).filter<|pL (rowAt rows k).1 t).map fL=ns.map .int/\ns.sum=LH.cov k t E:=by
 intro E;induction E with
 |nil=>intro _;exact⟨[],rfl,rfl⟩
 |cons o E ih=>
  intro h;let(ns,e1,e2):=ih λx hx=>h x<|aa _ hx;have ho:=h o<|ae ..;rw[az,eR,LH.cov];have hp:pL (rowAt rows k).1 t (qO rows o)=decide (o.1=k/\o.2.2.1<=t/\t<=o.2.2.2):=by show(decide ((rowAt rows o.1).1=(rowAt rows k).1) && (decide (o.2.2.1<=t) && decide (t<=o.2.2.2)))=_;rw[show decide ((rowAt rows o.1).1=(rowAt rows k).1)=decide (o.1=k) from kG.mpr ⟨ajS nd ho hk,λz=>by rw[z]⟩];simp
  rw[hp];by_cases z:o.1=k/\o.2.2.1<=t/\t<=o.2.2.2
  .rw[ar z,ar<|cf z];refine⟨o.2.1::ns,?_,by rw[dk,e2]⟩;rw[az,e1];rfl
  .rw[ap z,ap<|by simpa using z,im];exact⟨ns,e1,e2⟩
def ajU (F:cY seen ls rows B)(hl:rows.length<1000)(hE:∀o∈E,o.1<rows.length)(hEl:E.length<=1000)(hk:k<rows.length)(hv:LH.cov k t E<=(rowAt rows k).2.2.2.1):
  XD (SP plan (cQ rows) sn T found .fr (E.map<|qO rows) x6 x7 x8 (some<|.int t) x10 x11 x12 oE (some<|.str (rowAt rows k).1) rE)
   =.nxt (SP plan (cQ rows) sn T found .fr (E.map<|qO rows) x6 x7 x8 (some<|.int t) x10 x11 x12 oE (some<|.str (rowAt rows k).1)<|some<|.int<|LH.cov k t E):=by
 let(ns,e1,e2):=ajT F.nn hk E hE;unfold XD SP;z_go;rw[qz rfl (by rw[af];exact bT ∅),sy (p:=pL (rowAt rows k).1 t) (f:=fL)]
 rotate_left
 .intro d hd;let(o,ho,rfl):=bp.mp hd;refine([some (.fr,qO rows o),some (.fr,.str (rowAt rows k).1),some (.fr,.int t)],by z_go,?_,λ_=>?_)
  .show _=some (decide ((rowAt rows o.1).1=(rowAt rows k).1) && (decide (o.2.2.1<=t) && decide (t<=o.2.2.2)));unfold qO;z_go;rw[alC];z_go;cases decide ((rowAt rows o.1).1=(rowAt rows k).1)
   .rfl
   .z_go;cases decide (o.2.2.1<=t)
    .rfl
    .rfl
  .rfl
 rw[e1];z_go;rw[show Dm [.list<|ns.map .int]=some (.int<|LH.cov k t E) by show(match intsOf (ns.map .int) with|some ns=>some (PyData.int ns.sum)|none=>none)=_;rw[lE];show some (PyData.int ns.sum)=_;rw[e2]];z_go;unfold cQ;z_go;rw[qz rfl (by rw[af];exact bT ∅),sy (p:=λd=>match d with|.list (.str n::_)=>decide (n=(rowAt rows k).1)|_=>false) (f:=λd=>match d with|.list [_,_,_,x,_]=>x|d=>d)]
 rotate_left
 .intro d hd;let(r,hr,rfl):=bp.mp hd;refine([some (.fr,bD r),some (.fr,.str (rowAt rows k).1)],by z_go,?_,λ_=>?_)
  .rfl
  .rfl
 have hm:rowAt rows k∈rows:=by unfold rowAt;rw[bE,ag hk];exact fR hk
 rw[nk,show(rows.filter<|(λd=>match d with|.list (.str n::_)=>decide (n=(rowAt rows k).1)|_=>false) ∘ bD)=[rowAt rows k] from Fj F.nn hm];unfold bD;z_go;simp only[show ¬(rowAt rows k).2.2.2.1<LH.cov k t E by lk,de];rfl
def aeQ (F:cY seen ls rows B)(hl:rows.length<1000)(hE:∀o∈E,o.1<rows.length)(hEl:E.length<=1000)(hv:∀(k:Nat) (t:Int),k<rows.length->LH.cov k t E<=(rowAt rows k).2.2.2.1):∀(E':List LH.Ex) (x8 x9 x10 oE tW rE:Option PyData),(∀o∈E',o.1<rows.length)->
  ∃x8' x9' aaX avO avP,eE (gT 4<|gC (gN 14)<|gC (gN 9)<|gC (gN 10)<|gC (gN 8) g0) XD (E'.map<|qO rows) (SP plan (cQ rows) sn T found .fr (E.map<|qO rows) x6 x7 x8 x9 x10 x11 x12 oE tW rE)
   =.nxt (SP plan (cQ rows) sn T found .fr (E.map<|qO rows) x6 x7 x8' x9' aaX x11 x12 oE avO avP):=by
 intro E';induction E' with
 |nil=>intro x8 x9 x10 oE tW rE _;exact(x8,x9,x10,tW,rE,rfl)
 |cons o E' ih=>intro x8 x9 x10 oE tW rE h;have ho:=h o<|ae ..;let(y8,y9,Rc,y14,y15,e):=ih (some<|.int o.2.1) (some<|.int o.2.2.1) (some<|.int o.2.2.2) oE (some<|.str (rowAt rows o.1).1) (some<|.int<|LH.cov o.1 o.2.2.1 E) λx hx=>h x<|aa _ hx;refine(y8,y9,Rc,y14,y15,?_);rw[az];refine(Ad ?_<|ajU (rE:=rE) F hl hE hEl ho<|hv _ _ ho).trans e;unfold SP qO;cases x8<;>cases x9<;>cases x10<;>cases tW<;>z_go
def ahr (F:cY seen ls rows B)(hl:rows.length<1000)(hc:∀r∈rows,(bD r).canLay0=true){rest:List Str}(hs:seen=s0::s1::rest)(h1c:(PyData.str s1).canLay0=true)(h:∀r∈pl,apU (bI ls) T r)(hn:(LH.mJ (bI ls) pl).length<=1000)
  (hv:∀(k:Nat) (t:Int),k<rows.length->LH.cov k t (LH.mJ (bI ls) pl)<=(rowAt rows k).2.2.2.1)(hE:∀o∈LH.mJ (bI ls) pl,o.1<rows.length):
  jr [.list<|pl.map<|Cz ls,cQ rows,bU seen,.int T]=some (false,.int<|(pl.map λr=>r.m*(r.e - r.s+1)).sum):=by
 let(y6,y7,y8,y9,Rc,y11,y12,y13,e1):=ahq (tW:=none) (rE:=none) F hl hc hs h1c pl 0 [] none none none none none none none none h (by simpa using hn);let(z8,z9,z10,z14,z15,e2):=aeQ F hl hE hn hv _ y8 y9 Rc y13 none none hE;rw[fm] at e1;unfold jr;rw[aeP];unfold SP at e1 e2;simp only[iD] at e1 e2;z_go;rw[e1];z_go;rw[e2];z_go;simp
end
def XF:VS:=(dJ (VM.fP (vB (v2 gU (v2 aM (vN 4) (vC (.int 1))) (v2 aM (vN 2) (vN 3)))) (vB (v2 (Ig true) (v2 aM (vN 4) (vC (.int 2))) (vN 2))))
 (gH 2<|aC (v2 aM (vN 4)<|vC<|.int 2) a0)
 cC)
def uL:VS:=(aD (jA (bZ<|vF 0) (gN 4) XF)<|bN (v2 cu (vN 3)<|vC<|.int 1)<|gN 3)
def aeR:Cq=(aD (pX 2 (fK (aC (vF 1) a0)))
 (aD (bN (vC (.int 0)) (gN 3))
 (aD (GZ (vB (v2 mQ (vN 3) (dW fV (aC (vN 2) a0)))) uL)
 (fX 2)))):=rfl
def SR (rows:List Row)(s0:Str)(R:List Str)(i:Nat)(x4:Option PyData):GS:=[some (.fr,cQ rows),some (.fr,.str s0),some (.ow,.list<|R.map .str),some (.fr,.int (i:Int)),ob x4]
noncomputable def jg (tX:Str)(R:List Str)(r:Row):List Str:=if r.2.1=tX/\r.2.2.1∉R then R++[r.2.2.1] else R
section
variable {s0:Str}
def ajV (h:R[i]? =some tX)(hl:R.length<1000):XF (SR rows s0 R i<|some<|bD r)=.nxt (SR rows s0 (jg tX R r) i<|some<|bD r):=by
 unfold XF SR bD jg;z_go;rw[show dI (R.map PyData.str) (i:Int)=some (.str tX) from lG _ h];z_go;rw[alC];z_go;by_cases e:r.2.1=tX
 .simp only[e,dP];z_go;rw[J3];z_go;by_cases z:r.2.2.1∈R
  .rw[ap<|λy=>y.2 z,show(R.any λy=>y==r.2.2.1)=true from acO.mpr z];rfl
  .rw[ar ⟨trivial,z⟩,show(R.any λy=>y==r.2.2.1)=false from by cases q:(R.any λy=>y==r.2.2.1) with|false=>rfl|true=>exact absurd (acO.mp q) z];z_go;rw[ar (by rw[af];exact bT ∅),bz];rfl
 .rw[ap<|λy=>e y.1];simp only[e,de];rfl
structure Rg (rows:List Row)(s0:Str)(R:List Str):Prop where
 nd:R.Nodup
 s:s0∈R
 u:∀x∈R,x∈s0::rows.map (·.2.2.1)
 p:∀P:Str->Prop,P s0->(∀r∈rows,P r.2.1->P r.2.2.1)->∀x∈R,P x
def Rg.len (h:Rg rows s0 R):R.length<=rows.length+1:=by have:=Sp.zF h.nd h.u;rw[ay,af] at this;exact this
def amS {i:Nat}(h:Rg rows s0 R)(hi:R[i]? =some tX)(hr:r∈rows):Rg rows s0 (jg tX R r)/\(jg tX R r)[i]? =some tX/\(∀x∈R,x∈jg tX R r)/\(∀(j:Nat) x,R[j]? =some x->(jg tX R r)[j]? =some x)/\(r.2.1=tX->r.2.2.1∈jg tX R r):=by
 unfold jg;by_cases z:r.2.1=tX/\r.2.2.1∉R
 .rw[ar z];refine⟨⟨?_,dA _ h.s,λx hx=>?_,λP h0 hc x hx=>?_⟩,Fg hi,λx hx=>dA _ hx,λj x e=>Fg e,λ_=>ci _<|aE.mpr rfl⟩
  .rw[fz];exact⟨h.nd,by simp,λa ha b hb=>by rw[aE.mp hb];exact λy=>z.2 (by rw[<-y];exact ha)⟩
  .rcases bc.mp hx with g|g
   .exact h.u x g
   .rw[aE.mp g];exact aa _<|b9 hr
  .rcases bc.mp hx with g|g
   .exact h.p P h0 hc x g
   .rw[aE.mp g];exact hc r hr (by rw[z.1];exact h.p P h0 hc tX<|ah hi)
 .rw[ap z];exact⟨h,hi,λx hx=>hx,λj x e=>e,λe=>Classical.byContradiction λy=>z ⟨e,y⟩⟩
def aeS {i:Nat}(hn:rows.length<900):∀(rs:List Row) (R:List Str) (x4:Option PyData),(∀r∈rs,r∈rows)->Rg rows s0 R->R[i]? =some tX->
  ∃R' KJ,eE (gN 4) XF (rs.map bD) (SR rows s0 R i x4)=.nxt (SR rows s0 R' i KJ)/\Rg rows s0 R'/\(∀x∈R,x∈R')/\(∀(j:Nat) x,R[j]? =some x->R'[j]? =some x)/\∀r∈rs,r.2.1=tX->r.2.2.1∈R':=by
 intro rs;induction rs with
 |nil=>intro R x4 _ h _;exact(R,x4,rfl,h,λx hx=>hx,λj x e=>e,λr hr=>by cases hr)
 |cons r rs ih=>
  intro R x4 hrs h hi;let(a1,a2,a3,a4,a5):=amS h hi<|hrs r<|ae ..;let(R',KJ,e,b1,b2,b3,b4):=ih (jg tX R r) (some<|bD r) (λx hx=>hrs x<|aa _ hx) a1 a2;have hl:=h.len;refine(R',KJ,?_,b1,λx hx=>b2 x<|a3 x hx,λj x e=>b3 j x<|a4 j x e,λq hq hc=>?_)
  .rw[az];refine(Ad ?_<|ajV hi ∅).trans e;unfold SR;cases x4<;>z_go
  .rcases aI.mp hq with rfl|g
   .exact b2 _<|a5 hc
   .exact b4 q g hc
def amT (hn:rows.length<900):∀(n i:Nat) (R:List Str) (x4:Option PyData),n+i=rows.length+2->Rg rows s0 R->i<=R.length->(∀(j:Nat) x,j<i->R[j]? =some x->∀r∈rows,r.2.1=x->r.2.2.1∈R)->
  ∃R' i' KJ,cD (vB<|v2 mQ (vN 3)<|dW fV<|aC (vN 2) a0) uL n (SR rows s0 R i x4)=.nxt (SR rows s0 R' i' KJ)/\Rg rows s0 R'/\∀x∈R',∀r∈rows,r.2.1=x->r.2.2.1∈R':=by
 intro n;induction n with
 |zero=>intro i R x4 hi h hl _;have:=h.len;lk
 |succ n ih=>
  intro i R x4 hi h hl hp;have ec:vB (v2 mQ (vN 3)<|dW fV<|aC (vN 2) a0) (SR rows s0 R i x4)=some (decide<|(i)<(R.length:Int)):=by unfold SR;z_go;rw[af]
  by_cases z:i<R.length
  .have hg:=ag z;let(R',KJ,e,b1,b2,b3,b4):=aeS hn rows R x4 (λr hr=>hr) h hg;have tK:i+1<=R'.length:=by have:=(ab.mp<|b3 i _ hg).1;lk
   let(R2,i2,y4,e2,c1,c2):=ih (i+1) R' KJ ∅ b1 tK λj x hj ex r hr hx=>by
    by_cases y:j=i
    .subst y;rw[b3 _ _ hg] at ex;exact b4 r hr (by rw[hx];exact(be ex).symm)
    .have hjR:j<R.length:=by lk
     have:=b3 j _<|ag hjR;rw[this] at ex;exact b2 _<|hp j x ∅ (by rw[ag hjR];exact ex) r hr hx
   refine(R2,i2,y4,?_,c1,c2);rw[cD,ec];have eb:uL (SR rows s0 R i x4)=.nxt (SR rows s0 R' (i+1) KJ):=by unfold uL;unfold SR cQ at e ⊢;z_go;rw[e];z_go;rfl
   rw[show decide ((i)<(R.length:Int))=true by simp;exact z];rw[eb];exact e2
  .refine(R,i,x4,?_,h,λx hx r hr he=>?_)
   .rw[cD,ec,show decide ((i)<(R.length:Int))=false by simp;lk]
   .let(j,ej):=cw hx;have:=(ab.mp ej).1;exact hp j x ∅ ej r hr he
def ahs (hn:rows.length<900):∃R:List Str,jq [cQ rows,.str s0]=some (true,.list<|R.map .str)/\Rg rows s0 R/\∀x∈R,∀r∈rows,r.2.1=x->r.2.2.1∈R:=by let(R,i,x4,e,h1,h2):=amT (s0:=s0) hn (rows.length+2) 0 [s0] none ∅ (by simp,by simp,λx hx=>by rw[aE.mp hx];simp,λP h0 _ x hx=>by rw[aE.mp hx];exact h0) (dE _) (λj x hj=>by lk);refine(R,?_,h1,h2);have e2:=yj e (by intro z;cases z);unfold jq;rw[aeR];unfold SR at e2;z_go;simp only[az,eQ,iD,Int.natCast_zero] at e2;rw[e2];rfl
end
section
variable {seen:List Str}
def aht {f:Sp.aU->Int}:∀{ps:List Sp.aU},(∀q∈ps,f q<=B)->(ps.map f).sum<=B*ps.length:=by
 intro ps;induction ps with
 |nil=>simp
 |cons q ps ih=>intro h;have h1:=h q<|ae ..;have h2:=ih λx hx=>h x<|aa _ hx;rw[az,dk,ay];lk
def get_inj (nd:seen.Nodup){i j:Nat}{x:Str}(h1:seen[i]? =some x)(h2:seen[j]? =some x):i=j:=by let(a1,b1):=ab.mp h1;let(a2,b2):=ab.mp h2;exact(hX nd).mp<|by rw[b1,b2]
def arP (F:cY seen ls rows B)(nd:seen.Nodup)(wD:0<=B)(hB:B<1e69)(hlB:∀r∈rows,r.2.2.2.2<=B)(hs:seen.length<=100)(hl:ls.length<=12){s0 s1:Str}{rest:List Str}(hse:seen=s0::s1::rest){p:Int}(p1:1<=p)(hp:p<1e69):
  ∃R:List Str,jq [cQ rows,.str s0]=some (true,.list<|R.map .str)/\R.length<=100/\((s1∉R/\Pg.gM [.int (seen.length:Int),.list<|ls.map Ab,.int 0,.int 1,.int p]=some (false,.none))\/(s1∈R/\∃T plan aV,LH.Xp seen.length (bI ls) 0 1 p T plan aV/\Pg.gM [.int (seen.length:Int),.list<|ls.map Ab,.int 0,.int 1,.int p]=some (false,.tuple [.int T,.list<|plan.map LH.bD,.list<|aV.map .int]))):=by
 have cZ:=F.len;have xR:(bI ls).length=ls.length:=by unfold bI;rw[af]
 have h2:2<=seen.length:=by rw[hse];simp only[ay];lk
 let(R,er,IR,cR):=ahs (rows:=rows) ∅;refine⟨R,er,by have:=IR.len;lk,?_⟩;have avQ:((bI ls).map Sp.aU.l).sum<=B*(bI ls).length:=aht λq hq=>by let(j,x,hj,hx,rfl):=F.mem hq;rw[hx.e];exact hlB _ hx.m
 have avR:B*(bI ls).length<=B*12:=cS ∅ wD;let(G,S,e):=LH.aje (st:=0) (g:=1) F.hall (LH.ZM ∅ ∅) ∅ ∅ ∅ ∅ ⋯ p1 ∅ wD (λq hq=>by
  let(j,x,hj,hx,rfl):=F.mem hq;rw[hx.w];exact(F.w1 _ hx.m).2) ∅
 rw[F.hD] at e;have e0:seen[0]? =some s0:=by rw[hse];rfl
 have e1:seen[1]? =some s1:=by rw[hse];rfl
 by_cases hR:s1∈R
 .rcases e with⟨zG,_⟩|⟨_,h⟩
  .exfalso;let(Pn,a0,a1,ac):=LH.aen F.hall S zG;have:=IR.p (λx=>∃i,seen[i]? =some x/\Pn i) ⟨0,e0,a0⟩ (λr hr ⟨i,hi,hp⟩=>by
    let(j,ej):=cw hr;have hj:j<ls.length:=by have:=(ab.mp ej).1;lk
    let(x,hx):=F.at hj;have er:rowAt rows j=r:=by rw[hx.r] at ej;exact be ej
    let(ia,c1,c2):=hx.a;let(ib,c3,c4):=hx.b;rw[er] at c2 c4;have:=get_inj nd hi c2;exact⟨ib,c4,by rw[<-c3];exact ac _ (ah hx.p) (by rw[c1,←this];exact hp)⟩) s1 hR
   let(i,hi,hp):=this;rw[get_inj nd hi e1] at hp;exact a1 hp
  .exact .inr ⟨hR,h⟩
 .refine .inl ⟨hR,?_⟩;have hG:G=[]:=by
   classical
   refine LH.aem F.hall ∅ ∅ S (P:=λi=>∃x,seen[i]? =some x/\x∈R) ⟨s0,e0,IR.s⟩ (λ⟨x,hx,hr⟩=>?_) λq hq ⟨x,hx,hr⟩=>?_
   .rw[e1] at hx;exact hR (by rw[be hx];exact hr)
   .let(j,y,hj,hy,rfl):=F.mem hq;let(ia,c1,c2):=hy.a;let(ib,c3,c4):=hy.b;rw[c1,c2] at hx;rw[c3];exact⟨_,c4,cR x hr _ hy.m<|be hx⟩
  rcases e with⟨_,h⟩|⟨h,_⟩
  .exact h
  .exact absurd hG h
end
section
variable {seen:List Str}
def cY.yG (F:cY seen ls rows B)(nd:seen.Nodup)(hl:aV.length=seen.length):((bI ls).map<|LH.over<|PM.lf aV).sum=(rows.map<|wZ seen aV).sum:=by
 congr 1;refine o5 λj=>?_;by_cases hj:j<ls.length
 .let(x,hx):=F.at hj;rw[av,av,hx.p,hx.r];show some _=some _;congr 1;let(ia,e1,e2):=hx.a;let(ib,e3,e4):=hx.b;have at':∀{i:Nat}{z:Str},seen[i]? =some z->pY seen aV z=PM.lf aV i:=λ{i z} h=>by
   have hi:i<aV.length:=by have:=(ab.mp h).1;lk
   unfold pY PM.lf;rw[yN nd h<|ag hi,bE,ag hi]
  unfold LH.over wZ;rw[hx.w,hx.e,e1,e3,at' e2,at' e4];by_cases c:(rowAt rows j).2.2.2.2<PM.lf aV ib - PM.lf aV ia
  .rw[ar c,ar ∅]
  .rw[ap c,ap ∅,mP]
 .have h1:(bI ls).length<=j:=by unfold bI;rw[af];lk
  have h2:rows.length<=j:=by have:=F.len;lk
  rw[av,av,bu h1,bu h2];rfl
def ap0:∀{l:List Int},(∀x∈l,0<=x)->0<=l.sum:=by
 intro l;induction l with
 |nil=>intro _;exact bX _
 |cons x l ih=>intro h;have:=h x<|ae ..;have:=ih λy hy=>h y<|aa _ hy;rw[dk];lk
def ajW:∀(w:List Nat) (a:Int) (o:LH.Ex),o∈LH.n6 ps a w m s e->o.1∈w:=by
 intro w;induction w with
 |nil=>intro a o h;cases h
 |cons j w ih=>intro a o h;rw[LH.n6] at h;grind
def amU:∀{pl:List LH.jU},(∀r∈pl,r.w.length<=n)->(LH.mJ ps pl).length<=pl.length*n/\∀o∈LH.mJ ps pl,∃r∈pl,o.1∈r.w:=by
 intro pl;induction pl with
 |nil=>intro _;exact⟨by simp[LH.qL],λo h=>by cases h⟩
 |cons r pl ih=>
  intro h;let(h1,h2):=ih λx hx=>h x<|aa _ hx;have h3:=h r<|ae ..;rw[LH.vI];refine⟨?_,λo ho=>?_⟩
  .rw[aw,Nt,ay,Nat.add_mul,Nat.one_mul];lk
  .rcases bc.mp ho with g|g
   .exact⟨r,ae ..,ajW _ _ _ g⟩
   .let(x,hx,hm):=h2 o g;exact⟨x,aa _ hx,hm⟩
structure avS (ls:List (Str×Q4))(seen:List Str)(rows:List Row)(p T:Int)(plan:List LH.jU)(aV:List Int):Prop where
 T1:1<=T
 Tb:T<1e71
 ix:∀r∈plan,(∀j∈r.w,j<ls.length)/\r.w.length<1000
 pl:plan.length<1000
 ml:aV.length=seen.length
 mb:∀μ∈aV,0<=μ/\μ<=T
 pd:jr [.list<|plan.map<|Cz ls,cQ rows,bU seen,.int T]=some (false,.int p)
 mo:jo [Jd seen aV,bU seen,.int<|T - 1]=some (false,.bool true)
 bd:(rows.map<|wZ seen aV).sum<p
def arQ (F:cY seen ls rows B)(nd:seen.Nodup)(hB:B<1e69)(wD:0<=B)(hlB:∀r∈rows,r.2.2.2.2<=B)(hc:∀r∈rows,(bD r).canLay0=true)(hs:seen.length<=100)(hl:ls.length<=12){rest:List Str}(hse:seen=s0::s1::rest)(u6:∀x∈seen,(PyData.str x).canLay0=true)(hp:p<1e69)
  (K:LH.Xp seen.length (bI ls) 0 1 p T plan aV):avS ls seen rows p T plan aV:=by
 have cZ:=F.len;have xR:(bI ls).length=ls.length:=by unfold bI;rw[af]
 have avQ:((bI ls).map Sp.aU.l).sum<=B*(bI ls).length:=aht λq hq=>by let(j,x,hj,hx,rfl):=F.mem hq;rw[hx.e];exact hlB _ hx.m
 have avR:B*(bI ls).length<=B*12:=cS ∅ wD;have hTb:=K.Tb;have Ac:∀r∈plan,(∀j∈r.w,j<ls.length)/\r.w.length<=12:=λr hr=>by have W:=(K.row r hr).1;exact⟨λj hj=>by have:=W.ix j hj;lk,by have:=Sp.lR W.nd W.ix;have e:(r.w,r.m).1.length=r.w.length:=rfl;lk⟩
 have hpn:=K.len;let(x1,x2):=amU (ps:=bI ls) λr hr=>(Ac r hr).2;have zT:=K.ml;have hmb:∀μ∈aV,0<=μ/\μ<=T:=λμ hμ=>by let(v,ev):=cw hμ;have hv:=(ab.mp ev).1;have:=K.mb v ∅;rw[LH.BZ ev] at this;exact this
 refine⟨K.T1,by lk,λr hr=>⟨(Ac r hr).1,by have:=(Ac r hr).2;lk⟩,by lk,zT,hmb,?_,?_,?_⟩
 .rw[<-K.Z2];refine ahr F ∅ hc hse (u6 s1 (by rw[hse];simp)) (λr hr=>?_) ∅ (λk t hk=>?_) λo ho=>?_
  .let(W,h0,h1,h2):=K.row r hr;let(q,hq,hm):=K.mw r hr;let(j,x,hj,hx,rfl):=F.mem hq;have:=(F.w1 _ hx.m).2;rw[hx.w] at hm;have hal:0<=LH.bM Sp.aU.l (bI ls) r.w:=by refine ap0 λz hz=>?_;let(i,hi,rfl):=bp.mp hz;let(y,hy):=F.at ((Ac r hr).1 i hi);rw[LH.nq hy.p,hy.e];have:=F.l1 _ hy.m;lk
   exact⟨W,h0,h1,h2,by lk,by lk⟩
  .let(x,hx):=F.at (j:=k) ∅;have:=K.fits k _ t hx.p;rw[hx.w] at this;exact this
  .let(r,hr,hm):=x2 o ho;have:=(Ac r hr).1 _ hm;lk
 .subst hse;exact zP ∅ ∅ u6 (λμ hμ=>by have:=hmb μ hμ;lk) K.m0 (by rw[K.m1];lk)
 .rw[<-F.yG nd zT];exact K.low
def amV (F:cY seen ls rows B)(h2:2<=seen.length)(K:LH.Xp seen.length (bI ls) 0 1 p T plan aV){ws vJ:List (List Nat×Int)}(O:LH.d9 seen.length (bI ls) 0 1 T W ws νs)(O':LH.d9 seen.length (bI ls) 0 1 (T - 1) W' vJ avT):p<=W/\W'<p:=by refine⟨K.most _ _ _ O,?_⟩;have:=O'.weak F.hall ∅ ∅ K.m0 (by rw[K.m1];lk);have:=K.low;lk
end
def eO {t u:TS}(h:∀u',u'=u->t {D with nx:=u' D} σ H):mV t u D σ H:=h u rfl
def w5 (ls:List (Str×Q4))(seen:List Str)(T:Int)(plan:List LH.jU)(aV:List Int):PyData:=.tuple [.int T,.list<|plan.map<|Cz ls,Jd seen aV]
section
variable {K:Frag}{seen:List Str}{us Ls ms:List Addr}
def ajX (hc:∀x∈iI ls,(PyData.str x).canLay0=true)(hw:∀j∈w,j<ls.length):∀x∈lO ls w,(PyData.str x).canLay0=true:=λx hx=>by let(j,hj,rfl):=bp.mp hx;have Ky:=hw j hj;refine hc _ ?_;unfold iI;rw[bE,ag (by rw[af];exact Ky)];exact fR _
theorem Tt:∀{ds:List PyData}{vs:List V},ds.length=vs.length->(∀(j:Nat) d v,ds[j]? =some d->vs[j]? =some v->Has K H d v)->aR K H ds vs
 |[],[],_,_=>rfl
 |d::ds,v::vs,hl,h=>(v,vs,rfl,h 0 d v rfl rfl,Tt (by simpa using hl) λj d' v' e1 e2=>h (j+1) d' v' e1 e2)
def Walks.has (wk:Walks LH.jU.w Gm H H' ls plan A us Ls)(ta:H' A=some (.lst<|us.map V.ref))(hc:∀x∈iI ls,(PyData.str x).canLay0=true)(hw:∀r∈plan,∀j∈r.w,j<ls.length):Has K H' (.list<|plan.map<|Cz ls) (.ref A):=by
 refine(A,_,rfl,aZ.of ta,Tt (by rw[af,af,wk.lu]) λj d v e1 e2=>?_);rw[av] at e1 e2;let(x,ex,rfl):=cc.mp e1;let(u,eu,rfl):=cc.mp e2;have hj:j<Ls.length:=by have:=(ab.mp ex).1;have:=wk.lL;lk
 let(h1,h2):=wk.it j u Ls[j] x eu (ag hj) ex;exact(u,_,rfl,bV.of h1,_,_,rfl,Nb h2<|ajX hc<|hw x<|ah ex,_,_,rfl,rfl,_,_,rfl,rfl,_,_,rfl,rfl,rfl)
def Nu (tm:H' M=some (.lst<|ms.map V.ref))(lm:ms.length=seen.length)(hl:aV.length=seen.length)(mo:∀(j:Nat) m r μ,ms[j]? =some m->seen[j]? =some r->aV[j]? =some μ->H' m=some (.tup [.str r,.int μ]))(hc:∀x∈seen,(PyData.str x).canLay0=true):Has K H' (Jd seen aV) (.ref M):=by refine⟨M,_,rfl,aZ.of tm,Tt (by rw[af,af,ng];lk) λj d v e1 e2=>?_⟩;rw[av] at e1 e2;let(p,ep,rfl):=cc.mp e1;let(m,em,rfl):=cc.mp e2;let(h1,h2):=gh.mp ep;exact⟨m,_,rfl,bV.of (mo j m p.1 p.2 em h1 h2),_,_,rfl,⟨rfl,hc _<|ah h1⟩,_,_,rfl,rfl,rfl⟩
def aeT:(w5 ls seen T plan aV).depth<=60:=by
 have h1:∀xs:List Str,(bU xs).depth<=5:=λxs=>by have:=o8 (xs.map .str) 1 (λd hd=>by let(x,_,rfl):=bp.mp hd;simp[PyData.depth]);simp only[bU,PyData.depth];lk
 have h2:=o8 (plan.map (Cz ls)) 15 (λd hd=>by
  let(x,_,rfl):=bp.mp hd;have:=h1 (lO ls x.w);simp only[Cz,PyData.depth,depthAll];lk)
 have h3:=o8 ((seen.zip aV).map qN) 15 (λd hd=>by
  let(x,_,rfl):=bp.mp hd;simp[qN,PyData.depth,depthAll])
 simp only[w5,Jd,PyData.depth,depthAll];lk
theorem Told.has (T':Told LH.jU.w Gm H H' ls seen T plan aV t A M us Ls ms)(hl:aV.length=seen.length)(hs:∀x∈seen,(PyData.str x).canLay0=true)(hc:∀x∈iI ls,(PyData.str x).canLay0=true)(hw:∀r∈plan,∀j∈r.w,j<ls.length):Has K H' (w5 ls seen T plan aV) (.ref t):=
 (t,_,rfl,bV.of T'.tp,_,_,rfl,rfl,_,_,rfl,T'.wk.has T'.ta hc hw,_,_,rfl,Nu T'.tm T'.lm hl T'.mo hs,rfl)
end
section
variable {x0 x1 x2 x3 x4 x5 x6:Option (Tg×PyData)}
def ap2 {rest R:List Str}(er:jq [cQ rows,.str s0]=some (true,.list<|R.map .str)):(vB<|v2 (Ig true) (v2 aM (vN 2)<|vC<|.int 1)<|bH jq<|aC (vF 1)<|aC (v2 aM (vN 2)<|vC<|.int 0) a0) [x0,some (.fr,cQ rows),some (.fr,bU (s0::s1::rest)),x3,x4,x5,x6]=some (!(R.any λy=>y==s1)):=by unfold bU;z_go;rw[er];z_go;rw[J3];z_go
def avU:(gG (dU<|vB<|p7 "tuple" (vN 4))<|gG (vB<|v2 jO (dW fV<|aC (vN 4) a0)<|vC<|.int 3)<|gG (dU<|vB<|bH fO<|aC (v2 aM (vN 4)<|vC<|.int 0) a0)<|dU<|vB<|p7 "list" (v2 aM (vN 4)<|vC<|.int 1)) [x0,x1,x2,x3,some (.fr,.tuple [.int T,.list d1,d2]),x5,x6]=some false:=by rfl
def avV (h1:1<=T)(h:jr [.list d1,hD,sD,.int T]=some (false,.int p)):(gG (vB<|v2 mQ (v2 aM (vN 4)<|vC<|.int 0)<|vC<|.int 1)<|vB<|v2 jO (bH jr<|aC (v2 aM (vN 4)<|vC<|.int 1)<|aC (vF 1)<|aC (vF 2)<|aC (v2 aM (vN 4)<|vC<|.int 0) a0)<|vN 3) [x0,some (.fr,hD),some (.fr,sD),some (.fr,.int p),some (.fr,.tuple [.int T,.list d1,d2]),x5,x6]=some false:=by z_go;simp only[show ¬T<1 by lk,de];z_go;rw[h];z_go;rfl
def avW (h:jo [d2,sD,.int<|T - 1]=some (false,.bool true)):(dU<|vB<|bH jo<|aC (v2 aM (vN 4)<|vC<|.int 2)<|aC (vF 2)<|aC (v2 jm (v2 aM (vN 4)<|vC<|.int 0)<|vC<|.int 1) a0) [x0,x1,some (.fr,sD),x3,some (.fr,.tuple [.int T,d1,d2]),x5,x6]=some false:=by z_go;rw[h];rfl
end
def ap3 {seen:List Str}{ws:List (List Nat×Int)}(hl:ls.length<=12)(O:LH.d9 seen.length (bI ls) 0 1 T W ws aV):(∀x∈ws,(∀j∈x.1,j<ls.length)/\x.1.length<1000)/\ws.length<1000:=by
 let(fl,Mm,Cc,Fl,_,Pt):=O.flow;have hp:(bI ls).length=ls.length:=by unfold bI;rw[af]
 refine⟨λx hx=>⟨λj hj=>by have:=(Pt.walk x hx).ix j hj;lk,by have:=Sp.lR (Pt.walk x hx).nd (Pt.walk x hx).ix;lk⟩,?_⟩;have:=Pt.few;have:=LH.yE fl;have:=Fl.len;lk
def vM {K:Frag}{rows:List Row}(hh:bx H C p dx nn ll nums ls)(Ft:cY (seenOf nums) ls rows Bd)(hBd:Bd<1e69)(lX:2<=nums.length)(hn:nums.length<=100)(hl:ls.length<=12)(yO:∀x∈iI ls,(PyData.str x).canLay0=true)(h0:0<=T)(h1:T<1e72)
  (q:∀W ws aV H' t r,Same H H'->LH.d9 (seenOf nums).length (bI ls) 0 1 T W ws aV->bV K H' t (.int W::r)->Q (.ref t) H'):Xz K C [.ref p,.int T] H Q E:=by
 have Vz:(seenOf nums).length=nums.length:=af ..;let(W,ws,aV,O,em):=Ft.out hBd ⟨by lk,by lk⟩ hl h0 h1;let(hws,wu):=ap3 hl O;have zT:=O.ml;rw[Vz] at em;exact⟨p,dx,nn,ll,nums,ls,T,W,ws,aV,rfl,hh,by lk,em,hws,wu,by lk,yO,λH' t A M us Ls ms s to=>q W ws aV H' t _ s O<|bV.of to.tp⟩
inductive VB (C:Addr)(vs:List V)(H:Hp)(Q:VK):Prop
 |mk:∀p dx nn ll nums ls D aQ sA n s0 s1 rest Bd,vs=[.ref p,.ref D,.ref sA,.int n]->bx H C p dx nn ll nums ls->Held H D aQ->H sA=some (.lst<|(seenOf nums).map V.str)->seenOf nums=s0::s1::rest->(seenOf nums).Nodup->cY (seenOf nums) ls (aQ.map (·.2)) Bd->(0<=Bd/\Bd<1e69)->((∀r∈aQ.map (·.2),r.2.2.2.2<=Bd))->ls.length<=12->nums.length<=100->(1<=n/\n<1e69)->((∀x∈seenOf nums,(PyData.str x).canLay0=true))->(∀H',Same H H'->Q (.bl true) H')->VB C vs H Q
def Fq (C:Addr):Sp:=λvs H Q _=>VB C vs H Q
def Jf:cB ["_law_hall","_law_held","_law_seen","_law_people_here","_law_told","_law_kept","_law_one"] ["_law_hall","_law_held","_law_seen","_law_people_here"] (aN<|top 56):=fs
def arR:Stmt->Scope
 |.Assign _ (.Tuple (_:: .ListComp _ _ sc _::_) _ _) _=>sc
 |_=>aN<|.Pass (0,0,0,0)
section
variable {K:Frag}
def ahu {fd:FuncData}(F:bY K "_law_fewest" "_law_fewest" (top 56) f fd)(B:Bl mg)(KT:eX K)(c:Cl K C)(Mt:Ms P w K mg base C 6 "turns_for" ["self","people"] (acV K C))(Mo:Ms P w K mg base C 7 "out" ["self","turns"] (Xz K C))
  (iK:cW P w K mg base 1 "_law_whole" ["_law_found"] (bO K fO))(vY:cW P w K mg base 1 "_law_reached" ["_law_held","_law_start"] (bO K jq))(vZ:cW P w K mg base 2 "_law_planned" ["_law_plan","_law_held","_law_seen","_law_turns_here"] (bO K jr))
  (v8:cW P w K mg base 2 "_law_moments" ["_law_moments_here","_law_seen","_law_turns_here"] (bO K jo))(Ay:cW P w K mg base 1 "_law_bound" ["_law_held","_law_moments_here"] (acW K)):
  bJ P w K mg base cA 8 f fd ["_law_hall","_law_held","_law_seen","_law_people_here"] (Fq C):=by
 have nd:=Jf.nd;have vt:=Jf.vt;have vc:=(show(["_law_one"]:List Str).all (λx=>LR (arR ((gY (top 56)).getD 6 (.Pass ⟨0,0,0,0⟩))) x && plain x)=true by decide +kernel);let(ft,fdt,Ft',mt,bt):=Mt.ex;let(fo,fdo,Fo,mo,bo):=Mo.ex;refine bY.ok F Jf (λvs H Q E h=>by let(_,_,_,_,_,_,_,_,_,_,_,_,_,_,rfl,_):=h;rfl) λcX A outer s H vs Q E hr fQ=>?_;refine⟨_,(aK (dO (i:=4) nd rfl lx (cL (pV vt 0) c.cl mt Ft' hr.mo bt .nil dB (ak (pV vt 3) aP)))
  (aK (fW (mD xT ao8 (sw (rR (dN (pV vt 2)) (sw jd))) (sw (oM (dG vY hr.mo gx (iU (dF (pV vt 1)) (iU (rR (dN (pV vt 2)) (sw jd)) oK)))))) (bf (cU (ane (afd (pV vt 4))))) cT)
  (aK (fW (PW.pt (wOr (RP (cVal (RQ KT.tuple (eZ aiv gx B.isinstance kR (ak (mw (dN (pV vt 4))) (ak (xg gx B.tuple PyProof.Rows.boot_tuple rfl) aP)))))) (wOr (mD (Bq hr.units) hNe (sw (Oj (eZ YD gx B.len eJ (pwC (mw (dN (pV vt 4))) pw0)) hLen)) (sw jd)) (wOr (RP (cVal (oM (dG iK hr.mo gx (iU (rR (dN (pV vt 4)) (sw jd)) oK))))) (ais (RP (cVal (RQ KT.list (eZ aiv gx B.isinstance kR (ak (sw (rR (dN (pV vt 4)) (sw jd))) (ak (xg gx B.list cK rfl) aP))))))))))) (bf (cU pq)) cT)
  (aK (fW (PW.pt (wOr (mD oLt hLt (sw (rR (dN (pV vt 4)) (sw jd))) (sw jd)) (ais (mD (Bq hr.units) hNe (sw (oM (dG vZ hr.mo gx (iU (rR (dN (pV vt 4)) (sw jd)) (iU (dF (pV vt 1)) (iU (dF (pV vt 2)) (iU (rR (dN (pV vt 4)) (sw jd)) oK))))))) (mw (dN (pV vt 3))))))) (bf (cU pq)) cT)
  (aK (fW (PW.pt (uE (RP (cVal (oM (dG v8 hr.mo gx (iU (rR (dN (pV vt 4)) (sw jd)) (iU (dF (pV vt 2)) (iU (FZ Dg hSub (sw (rR (dN (pV vt 4)) (sw jd))) (sw jd)) oK))))))) (uX (lY oGe (dG Ay hr.mo gx (ak (pV vt 1) (ak (bB dR (pV vt 4) aF) aP))) (pV vt 3))))) (bf (cU pq)) cT)
  (aK (fW (PW.pt (uE (lY oLt (bB dR (cL (pV vt 0) c.cl mo Fo hr bo .nil dB (ak (bB dR (pV vt 4) aF) aP)) aF) (pV vt 3)) (uX (lY oGe (bB dR (cL (pV vt 0) c.cl mo Fo hr bo .nil dB (ak (dj Dg (bB dR (pV vt 4) aF) aF) aP)) aF) (pV vt 3))))) (bf (cU pq)) cT)
  (aK (dO (i:=5) nd rfl lx (jM (ak (bB dR (pV vt 4) aF) (ak (Wh (g:=cH 0) (te:=jt (adA K) (vQ (bR (rK (Br K) (bR (jt (uH K) (vR 0) (tC (.int 0))) c7)) c7)) (tSl (anB K) (vR 0) (Jo (tC (.int 1))) Bh)) (cap:=[none]) ["_law_hall","_law_held","_law_seen","_law_people_here","_law_told","_law_kept","_law_one"] (aN (top 56)) rfl (by decide +kernel) rfl rfl (mC (bB dR (pV vt 4) aF)) (λ_ _ _ _ _=>(FW (by decide +kernel) (by decide +kernel))) (λ_ _ _ _ _=>Bo) (λ_ _ _ _ _=>(dj al1 (jM (ak (lD Og (glC (by decide +kernel)) (by exact B.list) cK (ak (bB dR (tL vc 0) aF) aP)) aP)) (oG Yk (tL vc 0) (pB aF) Bj)))) (ak (lD Og gx B.list cK (ak (bB dR (pV vt 4) aF) aP)) aP)))))
  (aK (nF di rfl (mC (bB dR (pV vt 4) aF)) (dM (i:=6) nd rfl lx) (bf (cP (ad3 (bB dR (pV vt 6) aF)))))
  (aK (cP (ad3 (bB dR (pV vt 4) aF)))
  (aK (cP (ad3 (bB dR (pV vt 4) aF)))
  (bf (cU (peC (Bp hr.units) (cL (pV vt 0) c.cl mt Ft' hr.mo bt .nil dB (ak (pV vt 3) aP)) (pV vt 5)))))))))))))),?_⟩
 let(p,dx,nn,ll,nums,ls,D,aQ,sA,n,s0,s1,rest,Bd,rfl,hh,hH,hs,qG,lN,Ft,(wD,hBd),hlB,aeU,alD,(hn1,hnb),u6,hq):=fQ;have Vz:(seenOf nums).length=nums.length:=af ..;have lX:2<=(seenOf nums).length:=by rw[qG];simp only[ay];lk
 have cZ:=Ft.len;have yX:=hH.avG;have yO:∀x∈iI ls,(PyData.str x).canLay0=true:=λx hx=>by
  have xY:x∈(aQ.map (·.2)).map (·.1):=by rw[<-jE Ft.lr];exact hx
  let(r,hr,rfl):=bp.mp xY;have:=yX r hr;simp only[bD,canLay0,canLayAll0,bS] at this ⊢;lk
 have held:∀{H':Hp},Same H H'->Has K H' (cQ<|aQ.map (·.2)) (.ref D):=λk=>(hH.grow k).has;have Rh:∀{H':Hp},Same H H'->Has K H' (bU<|seenOf nums) (.ref sA):=λk=>Nb (k _ _ hs) u6;let(R,er,hRl,hfw):=arP Ft lN wD hBd hlB ∅ aeU qG hn1 hnb;dsimp only[jP];ksr_p;unfold fG gF bR c7 cH;refine aq rfl ⟨p,dx,_,rfl,hh.ins,rfl,aq rfl ?_⟩;rcases hfw with⟨hR,em⟩|⟨hR,T,plan,aV,Kf,em⟩
 .rw[Vz] at em;refine⟨p,dx,nn,ll,nums,ls,n,_,rfl,hh,by lk,em,yO,.inl ⟨rfl,λH1 q1=>?_⟩⟩
  ksr_p;refine VM.sZ (S:=[none,some (.fr,cQ (aQ.map λx:PR=>x.2)),some (.fr,bU<|seenOf nums),none,none,none,none]) ⟨_,_,rfl,_,_,rfl,rfl,held q1,_,_,rfl,rfl,Rh q1,_,_,rfl,_,_,rfl,_,_,rfl,_,_,rfl,rfl⟩ (by rw[qG];exact ap2 er) λH2 q2=>?_;rw[ar<|by simpa using λx hx=>λz=>hR (by rw[<-z];exact hx)];unfold mW ahQ;refine aq rfl ?_;rw[cf rfl];exact hq H2<|q1.trans q2
 have L:=arQ Ft lN hBd wD hlB yX ∅ aeU qG u6 hnb Kf;have Ac:∀r∈plan,∀j∈r.w,j<ls.length:=λr hr=>(L.ix r hr).1;have zT:=L.ml;rw[Vz] at em;refine⟨p,dx,nn,ll,nums,ls,n,_,rfl,hh,by lk,em,yO,.inr ⟨T,plan,aV,rfl,L.ix,L.pl,by lk,λH1 t A M us Ls ms q1 Td=>?_⟩⟩;have hTd:∀{H':Hp},Same H1 H'->Has K H' (w5 ls (seenOf nums) T plan aV) (.ref t):=λk=>Has.same k (Td.has ∅ u6 yO Ac);have hsT:∀{H':Hp},Same H1 H'->bV K H' t [.int T,.ref A,.ref M]:=λk=>bV.of (k _ _ Td.tp);have hMo:∀{H':Hp},Same H1 H'->Has K H' (Jd (seenOf nums) aV) (.ref M):=λk=>Has.same k<|Nu Td.tm Td.lm ∅ Td.mo u6
 ksr_p;unfold jj;refine VM.sZ (S:=[none,some (.fr,cQ (aQ.map λx:PR=>x.2)),some (.fr,bU<|seenOf nums),none,none,none,none]) ⟨_,_,rfl,_,_,rfl,rfl,held q1,_,_,rfl,rfl,Rh q1,_,_,rfl,_,_,rfl,_,_,rfl,_,_,rfl,rfl⟩ (by rw[qG];exact ap2 er) λH2 s2=>?_;rw[ap<|by simpa using hR];unfold iH
 ksr_p;unfold jj;refine VM.sZ (S:=[none,none,none,none,some (.fr,w5 ls (seenOf nums) T plan aV),none,none]) ⟨_,_,rfl,_,_,rfl,_,_,rfl,_,_,rfl,_,_,rfl,rfl,hTd s2,_,_,rfl,_,_,rfl,rfl⟩ avU λH3 s3'=>?_;have s3:=s2.trans s3';rw[ap<|by simp];unfold iH
 ksr_p;unfold jj;refine VM.sZ (S:=[none,some (.fr,cQ (aQ.map λx:PR=>x.2)),some (.fr,bU<|seenOf nums),some (.fr,.int n),some (.fr,w5 ls (seenOf nums) T plan aV),none,none]) ⟨_,_,rfl,_,_,rfl,rfl,held<|q1.trans s3,_,_,rfl,rfl,Rh<|q1.trans s3,_,_,rfl,rfl,rfl,_,_,rfl,rfl,hTd s3,_,_,rfl,_,_,rfl,rfl⟩ (avV L.T1 L.pd) λH4 s4'=>?_;have s4:=s3.trans s4';rw[ap<|by simp];unfold iH
 ksr_p;unfold jj TJ;refine VM.sZ (S:=[none,none,some (.fr,bU<|seenOf nums),none,some (.fr,w5 ls (seenOf nums) T plan aV),none,none]) ⟨_,_,rfl,_,_,rfl,_,_,rfl,rfl,Rh<|q1.trans s4,_,_,rfl,_,_,rfl,rfl,hTd s4,_,_,rfl,_,_,rfl,rfl⟩ (avW L.mo) λH5 s5'=>?_;have s5:=s4.trans s5';rw[ap<|by simp];have avX:∀r∈aQ.map (·.2),r.2.1∈seenOf nums/\r.2.2.1∈seenOf nums:=λr hr=>by
  let(j,ej):=cw hr;have hj:j<ls.length:=by have:=(ab.mp ej).1;lk
  let(x,hx):=Ft.at hj;rw[hx.r] at ej;let(_,_,e2):=hx.a;let(_,_,e4):=hx.b;grind
 have hTb:=L.Tb;have hT1:=L.T1;have tQ:∀x∈seenOf nums,0<=pY (seenOf nums) aV x/\pY (seenOf nums) aV x<=T:=λx hx=>by
  let(i,ei):=cw hx;have hi:i<aV.length:=by have:=(ab.mp ei).1;lk
  unfold pY;rw[yN lN ei<|ag hi];exact L.mb _<|fR hi
 have hbd:∀r∈aQ.map (·.2),r.2.1∈seenOf nums/\r.2.2.1∈seenOf nums/\r.2.2.2.1.natAbs<2^8000/\(pY (seenOf nums) aV r.2.2.1 - pY (seenOf nums) aV r.2.1 - r.2.2.2.2).natAbs<2^8000:=λr hr=>by let(ha,hb):=avX r hr;have a1:=tQ _ ha;have b1:=tQ _ hb;have w1:=Ft.w1 r hr;have l1:=Ft.l1 r hr;grind
 unfold oH;rw[op2];unfold iM;refine aq (v:=.ref D) rfl (cF (t:=t) rfl (hsT s5) rfl ⟨.ref D,.ref M,aQ.map (·.2),seenOf nums,aV,rfl,held<|q1.trans s5,hMo s5,lN,by lk,by lk,hbd,λH6 s6'=>?_⟩);have s6:=s5.trans s6';have lbd:=L.bd;refine aq (v:=.int n) rfl ?_;show(if decide (n<=((aQ.map (·.2)).map<|wZ (seenOf nums) aV).sum)=true then _ else _);rw[ap (by rw[dQ,Int.not_le];exact lbd)];unfold iH
 ksr_p;unfold jj TJ oH gF bR c7;rw[op2];have hh6:=hh.grow<|q1.trans s6;rw[op2];refine aq (v:=.ref p) rfl ⟨p,dx,_,rfl,hh6.ins,rfl,cF (t:=t) rfl (hsT s6) rfl<|vM (E:=E) hh6 Ft hBd ∅ alD aeU yO ∅ ∅ λW ws νs H7 t7 r7 s7' O hq7=>⟨_,_,hq7,mq _ _,?_⟩⟩;have s7:=s6.trans s7';have hh7:=hh.grow<|q1.trans s7;refine aq (v:=.int n) rfl ?_;show(if decide (W<n)=true then _ else _);rw[ap (by simp;exact Kf.most _ _ _ O)];rw[op2];rw[op2];refine aq (v:=.ref p) rfl ⟨p,dx,_,rfl,hh7.ins,rfl,cF (t:=t) rfl (hsT s7) rfl ?_⟩;unfold tC rM;dsimp only[i4,fm];refine vM (T:=T - 1) hh7 Ft hBd ∅ alD aeU yO ∅ ∅ λW' vJ avT H8 t8 r8 s8' O' hq8=>⟨_,_,hq8,mq _ _,?_⟩;have s8:=s7.trans s8';refine aq (v:=.int n) rfl ?_;show(if decide (n<=W')=true then _ else _);rw[ap (by simp;exact(amV Ft ∅ Kf O O').2)];unfold iH
 ksr_p;unfold fG vQ bR c7 cH;refine cF (t:=t) rfl (hsT s8) rfl ?_;show zf _ _ _ _ _ _ _ _;unfold zf uF;let(A',xsA,eA,ap7,avY):=Has.same s8<|Td.wk.has (K:=K) Td.ta yO Ac;cases eA;refine cF (t:=t) rfl (hsT s8) rfl ⟨A,rfl,⟨_,ap7⟩,?_⟩;refine Nm (wk:=LH.jU.w) (tl:=Gm) (dD:=Cz ls) (ls:=ls) ap7 avY L.pl (λaX H' R r=>r) ?_ ?_
 .rintro x wi H' hwm sm hv R Kt hR hK;let(tt,ys',rfl,Cv,y1,r1,rfl,k1,y2,r2,rfl,k2,y3,r3,rfl,k3,y4,r4,rfl,k4,k5):=hv;have e2:=k2;have e3:=k3;have e4:=k4;have e5:=k5;subst e2 e3 e4 e5;let(la,xl,rfl,hla,hxl):=k1;have exl:=xJ hxl;subst exl;show Kt [some<|.ref tt] H';refine hK _ _ (iR.skip iR.nil) ?_;rw[op2];unfold rK;refine cF (t:=tt) rfl Cv rfl ⟨_,.inl hla,λLx hLx=>⟨by show 1<=sizeLine;decide,λu1 Ri=>?_⟩⟩;have r1:=aH (o:=.lst<|(lO ls wi.w).map V.str) hLx;have hL1:upd H' Lx (.lst<|(lO ls wi.w).map V.str) Lx=some (.lst<|(lO ls wi.w).map V.str):=au;generalize upd H' Lx (.lst<|(lO ls wi.w).map V.str)=Ha at r1 hL1 Ri ⊢;have r2:=aH (o:=.tup [.ref Lx]) Ri;have hu2:upd Ha u1 (.tup [.ref Lx]) u1=some (.tup [.ref Lx]):=au;generalize upd Ha u1 (.tup [.ref Lx])=Hb at r2 hu2 ⊢;have r12:=r1.trans r2;unfold tSl Jo Bh;refine aq (v:=.ref tt) rfl ⟨1,rfl,tt,_,rfl,r12.vW Cv,by show ¬(HT.cI 4 0 (some 1)=0/\HT.cI 4 4 none=4);decide,λu3 hu3=>?_⟩;have r3:=aH (o:=.tup<|Gm wi) hu3;have hu4:upd Hb u3 (.tup<|Gm wi) u3=some (.tup<|Gm wi):=au;change adA K (.ref u1) (.ref u3) (upd Hb u3<|.tup<|Gm wi) _;generalize upd Hb u3 (.tup<|Gm wi)=Hc at r3 hu4 ⊢;refine⟨u1,u3,[.ref Lx],Gm wi,rfl,rfl,bV.of (r3 _ _ hu2),bV.of hu4,by simp,by show 4<=sizeLine;decide,λz=>absurd z<|by simp,λ_ u hu=>?_⟩;exact hR Lx u Hc (r12.trans r3) hLx (r3 _ _<|r2 _ _ hL1) hu
 rintro Dk us' Ls' H9 sm9 hD tU wk9;have s9:=s8.trans sm9;try k_ne
 unfold rK;have tM9:=s9 _ _ Td.tm;refine cF (t:=t) rfl (hsT s9) rfl ⟨_,.inl<|aZ.of tM9,λMk hMk=>⟨by show 3<=sizeLine;decide,λkt hkt=>?_⟩⟩;have r7:=aH (o:=.lst<|ms.map V.ref) hMk;have ap8:upd H9 Mk (.lst<|ms.map V.ref) Mk=some (.lst<|ms.map V.ref):=au;generalize upd H9 Mk (.lst<|ms.map V.ref)=Hx at r7 ap8 hkt ⊢;have r8:=aH (o:=.tup [.int T,.ref Dk,.ref Mk]) hkt;have ajY:upd Hx kt (.tup [.int T,.ref Dk,.ref Mk]) kt=some (.tup [.int T,.ref Dk,.ref Mk]):=au;have ap9:=r8 _ _ ap8;generalize upd Hx kt (.tup [.int T,.ref Dk,.ref Mk])=Hy at r8 ajY ap9 ⊢;have r68:=r7.trans r8;have sY:=s9.trans r68;have tAY:=sY _ _ Td.ta;have tMY:=sY _ _ Td.tm;have aqa:∀L∈Ls,∃xs,Hy L=some (.lst xs):=λL' hL=>by
  let(j,ej):=cw hL;have hjl:=(ab.mp ej).1;have hju:j<us.length:=by have:=Td.wk.lu;have:=Td.wk.lL;lk
  have hjw:j<plan.length:=by have:=Td.wk.lL;lk
  exact⟨_,sY _ _ (Td.wk.it j us[j] L' plan[j] (ag hju) ej<|ag hjw).2⟩
 have hAL:A∉Ls:=λhm=>(Td.wk.nL A hm).2 rfl;have Lj:∀{b:Addr}{xs:List V},Hy b=some (.tup xs)->b∉A::M::Ls:=λ{b xs} e hm=>by
  rcases aI.mp hm with g|g
  .rw[g,tAY] at e;cases e
  .rcases aI.mp g with g|g
   .rw[g,tMY] at e;cases e
   .let(ys,ey):=aqa b g;rw[ey] at e;cases e
 have nLs:∀{b:Addr},b∉A::M::Ls->b≠A/\b≠M/\b∉Ls:=λh=>⟨λz=>h (by rw[z];exact ae ..),λz=>h (by rw[z];exact aa _<|ae ..),λz=>h<|aa _<|aa _ z⟩;have ttY:Hy t=some (.tup [.int T,.ref A,.ref M]):=sY _ _ Td.tp
 ksr_p;rw[nO];refine cF (t:=t) rfl (hsT sY) rfl ⟨A,rfl,⟨_,aZ.of tAY⟩,?_⟩;refine forL (xs:=us.map V.ref) (λi aX H'=>(∃y6,aX=[some<|.ref p,some<|.ref D,some<|.ref sA,some<|.int n,some<|.ref t,some<|.ref kt,y6])/\(∀b o,b∉Ls->Hy b=some o->H' b=some o)/\∀L∈Ls,∃xs,H' L=some (.lst xs)) ⟨⟨_,rfl⟩,λb o _ e=>e,aqa⟩ (λi aX H' _ h=>aZ.of (h.2.1 _ _ hAL tAY)) ?_ ?_
 .rintro i v aX H' hv ⟨⟨y6,rfl⟩,fr,hLx⟩;rw[av] at hv;let(ui,hui,rfl):=cc.mp hv;have hi:i<plan.length:=by have:=(ab.mp hui).1;have:=Td.wk.lu;lk
  have nH:i<Ls.length:=by have:=Td.wk.lL;lk
  have hLi:Ls[i]? =some Ls[i]:=ag nH;have hLm:Ls[i]∈Ls:=fR nH;have c1:=(Td.wk.it i ui Ls[i] plan[i] hui hLi<|ag hi).1;generalize plan[i]=wi at c1;generalize Ls[i]=Li at c1 hLm;have c8:=sY _ _ c1;have c1':=fr _ _ (nLs<|Lj c8).2.2 c8;let(xs,Le):=hLx Li hLm;show gk _ _ [some<|.ref p,some<|.ref D,some<|.ref sA,some<|.int n,some<|.ref t,some<|.ref kt,some<|.ref ui] H';unfold gk CW;refine cF (t:=ui) rfl (bV.of c1') rfl ⟨.inl ⟨rfl,_,aZ.of Le⟩,_,Le,⟨_,rfl⟩,λb o hb e=>?_,λL' QF=>?_⟩
  .rw[aJ λz=>hb (by rw[z];exact hLm)];exact fr b o hb e
  .by_cases z:L'=Li
   .exact⟨[],by rw[z,au]⟩
   .rw[aJ z];exact hLx L' QF
 rintro aX HA ⟨⟨y6,rfl⟩,ZC,-⟩;have tAA:=ZC _ _ hAL tAY;have ttA:=ZC _ _ (nLs<|Lj ttY).2.2 ttY
 ksr_p;unfold gk CW;refine cF (t:=t) rfl (bV.of ttA) rfl ⟨.inl ⟨rfl,_,aZ.of tAA⟩,_,tAA,?_⟩;have frB:∀b o,b∉A::Ls->Hy b=some o->upd HA A (.lst []) b=some o:=λb o hb e=>by rw[aJ λz=>hb (by rw[z];exact ae ..)];exact ZC b o (λz=>hb<|aa _ z) e
 generalize upd HA A (.lst [])=HB at frB ⊢;have nA2:∀{b:Addr},b∉A::M::Ls->b∉A::Ls:=λh z=>by
  rcases aI.mp z with g|g
  .exact(nLs h).1 g
  .exact(nLs h).2.2 g
 have ttB:=frB _ _ (nA2 (Lj ttY)) ttY;have tMB:=frB M _ (λz=>by
  rcases aI.mp z with g|g
  .exact Td.MA g
  .exact Td.ML g) tMY
 ksr_p;unfold gk CW;refine cF (t:=t) rfl (bV.of ttB) rfl ⟨.inl ⟨rfl,_,aZ.of tMB⟩,_,tMB,?_⟩;have frC:∀b o,b∉A::M::Ls->Hy b=some o->upd HB M (.lst []) b=some o:=λb o hb e=>by rw[aJ (nLs hb).2.1];exact frB b o (nA2 hb) e
 generalize upd HB M (.lst [])=HC at frC ⊢;have qF:Same H HC:=λb o e=>frC b o (λhm=>by
  rcases aI.mp hm with g|g
  .rw[g,Td.nA] at e;cases e
  .rcases aI.mp g with g|g
   .rw[g,Td.nM] at e;cases e
   .rw[(Td.wk.nL b g).1] at e;cases e) (sY _ _ (q1 _ _ e))
 have hhC:=hh.grow qF
 (subst hu;try k_ne)
 unfold mW gF bR c7;rw[op2];refine aq (v:=.ref p) rfl ⟨p,dx,_,rfl,hhC.ins,rfl,aq (v:=.int n) rfl ⟨p,dx,nn,ll,nums,ls,n,_,rfl,hhC,by lk,em,yO,.inr ⟨T,plan,aV,rfl,L.ix,L.pl,by lk,λHD t2 A2 M2 us2 Ls2 ms2 q12 Td2=>?_⟩⟩⟩;have keep:∀{b:Addr}{o:HO},b∉A::M::Ls->Hy b=some o->HD b=some o:=λh e=>q12 _ _ (frC _ _ h e);have aeV:∀{b:Addr}{o:HO},H8 b=none->Hy b=some o->HD b=some o:=λ{b o} h e=>keep (λhm=>by
  rcases aI.mp hm with g|g
  .rw[g,s8 _ _ Td.ta] at h;cases h
  .rcases aI.mp g with g|g
   .rw[g,s8 _ _ Td.tm] at h;cases h
   .let(j,ej):=cw g;have hjl:=(ab.mp ej).1;have hju:j<us.length:=by have:=Td.wk.lu;have:=Td.wk.lL;lk
    have hjw:j<plan.length:=by have:=Td.wk.lL;lk
    have:=s8 _ _ (Td.wk.it j us[j] b plan[j] (ag hju) ej (ag hjw)).2;rw[h] at this;cases this) e
 have vG:Walks LH.jU.w Gm H8 HD ls plan Dk us' Ls':=⟨wk9.lu,wk9.lL,wk9.nu,wk9.nL,λj u L' x e1 e2 e3=>by
  let(c1,c2):=wk9.it j u L' x e1 e2 e3;exact⟨aeV (wk9.nu u (ah e1)) (r68 _ _ c1),aeV (wk9.nL L' (ah e2)).1 (r68 _ _ c2)⟩⟩
 have avZ:=aeV hD<|r68 _ _ tU;have av0:=aeV (sm9.free hMk) ap9;have av1:=keep (Lj ajY) ajY;have av2:∀(j:Nat) m r μ,ms[j]? =some m->(seenOf nums)[j]? =some r->aV[j]? =some μ->HD m=some (.tup [.str r,.int μ]):=λj m r μ e1 e2 e3=>by have:=sY _ _<|Td.mo j m r μ e1 e2 e3;exact keep (Lj this) this
 refine aq (v:=.ref kt) rfl ?_;have hA:Has K HD (w5 ls (seenOf nums) T plan aV) (.ref t2):=Td2.has ∅ u6 yO Ac;have hB:Has K HD (w5 ls (seenOf nums) T plan aV) (.ref kt):=⟨kt,_,rfl,bV.of av1,_,_,rfl,rfl,_,_,rfl,vG.has avZ yO Ac,_,_,rfl,Nu av0 Td.lm ∅ av2 u6,rfl⟩;refine⟨_,_,hA,hB,aeT,?_⟩;rw[gy _<|Has.can hA];exact hq _<|qF.trans q12
end
section
variable {seen ay6:List Str}{ws vJ:List (List Nat×Int)}
noncomputable def qH (ν:Str->Int)(r:Row):Int:=r.2.2.2.1*(if 0<ν r.2.2.1 - ν r.2.1 - r.2.2.2.2 then ν r.2.2.1 - ν r.2.1 - r.2.2.2.2 else 0)
theorem cY.over (F:cY seen ls rows B)(ν:Str->Int):((bI ls).map<|LH.over λi=>ν<|seen.getD i "").sum=(rows.map<|qH ν).sum:=by
 congr 1;refine o5 λj=>?_;by_cases hj:j<ls.length
 .let(x,hx):=F.at hj;rw[av,av,hx.p,hx.r];show some _=some _;congr 1;let(ia,e1,e2):=hx.a;let(ib,e3,e4):=hx.b;have at':∀{i:Nat}{z:Str},seen[i]? =some z->seen.getD i ""=z:=λh=>by rw[bE,h];rfl
  have dw:∀μ:Nat->Int,μ ia=ν (rowAt rows j).2.1->μ ib=ν (rowAt rows j).2.2.1->LH.over μ (tE x)=qH ν (rowAt rows j):=λμ ha hb=>by
   unfold LH.over qH;rw[hx.w,hx.e,e1,e3,ha,hb];by_cases c:(rowAt rows j).2.2.2.2<ν (rowAt rows j).2.2.1 - ν (rowAt rows j).2.1
   .rw[ar c,ar ∅]
   .rw[ap c,ap ∅,mP]
  exact dw _ (dT ν<|at' e2)<|dT ν<|at' e4
 .have h1:(bI ls).length<=j:=by unfold bI;rw[af];lk
  have h2:rows.length<=j:=by have:=F.len;lk
  rw[av,av,bu h1,bu h2];rfl
theorem cY.weak {rest:List Str}(F:cY (s0::s1::rest) ls rows B)(O:LH.d9 (s0::s1::rest).length (bI ls) 0 1 T W ws aV)(h0:ν s0=0)(h1:ν s1=T+1):W<=(rows.map<|qH ν).sum:=by rw[<-F.over ν];exact O.weak F.hall (by simp) (by simp) h0 h1
def cY.top {rest:List Str}(F:cY (s0::s1::rest) ls rows B)(nd:(s0::s1::rest).Nodup)(O:LH.d9 (s0::s1::rest).length (bI ls) 0 1 T W ws aV):∃ν:Str->Int,ν s0=0/\ν s1=T+1/\W=(rows.map<|qH ν).sum:=by
 have hl:=O.ml;have at':∀{i:Nat}{z:Str},(s0::s1::rest)[i]? =some z->pY (s0::s1::rest) aV z=PM.lf aV i:=λ{i z} h=>by
  have hi:i<aV.length:=by have:=(ab.mp h).1;lk
  unfold pY PM.lf;rw[yN nd h<|ag hi,bE,ag hi]
 refine(pY (s0::s1::rest) aV,(at' rfl).trans O.m0,(at' rfl).trans O.m1,?_);rw[O.yG,F.yG nd hl];rfl
def ajZ (h:1<=r.2.2.2.1):0<=qH ν r:=by
 unfold qH;split
 .exact gs ∅ ∅
 .simp
def cY.le {rest pU:List Str}(F:cY (s0::s1::rest) ls rows B)(F':cY (s0::s1::pU) dX arS B')(nd:(s0::s1::pU).Nodup)(O:LH.d9 (s0::s1::rest).length (bI ls) 0 1 T W ws aV)(O':LH.d9 (s0::s1::pU).length (bI dX) 0 1 T W' vJ Az)(h:∀ν:Str->Int,(rows.map<|qH ν).sum<=(arS.map<|qH ν).sum):W<=W':=by let(ν,h0,h1,e):=F'.top nd O';rw[e];exact fv (F.weak O h0 h1)<|h ν
def sum_filter {f:Row->Int}:∀{rows:List Row},(∀r∈rows,0<=f r)->((rows.filter p).map f).sum<=(rows.map f).sum:=by
 intro rows;induction rows with
 |nil=>simp
 |cons r rows ih=>grind
def aj0 {f:Row->Int}:∀{rows:List Row},(∀r∈rows,f r<=f (g r))->(rows.map f).sum<=((rows.map g).map f).sum:=by
 intro rows;induction rows with
 |nil=>intro _;exact bX _
 |cons r rows ih=>intro h;have h1:=h r<|ae ..;have h2:=ih λx hx=>h x<|aa _ hx;rw[az,az,az,dk,dk];lk
def abx (h:0<=k):qH ν r<=qH ν (r.1,r.2.1,r.2.2.1,r.2.2.2.1+k,r.2.2.2.2):=by
 unfold qH;rw[il];split
 .have:=gs h (show 0<=ν r.2.2.1 - ν r.2.1 - r.2.2.2.2 by lk);lk
 .simp
end
def RB (B:Int)(r:Row):Prop:=r.2.1≠r.2.2.1/\r.2.2.2.1<=B/\1<=r.2.2.2.2
section
variable {rows:List Row}{ws vJ:List (List Nat×Int)}
def mO (ok:Ok aY names rows nums ls)(h:∀r∈rows,RB B r):cY (seenOf nums) ls rows B:=⟨ok.lr,ok.dr.nn,λr hr=>(h r hr).1,λr hr=>⟨ok.dr.wd r hr,(h r hr).2.1⟩,λr hr=>(h r hr).2.2⟩
def cY.eq {rest pU:List Str}(F:cY (s0::s1::rest) ls rows B)(F':cY (s0::s1::pU) dX rows B')(nd:(s0::s1::rest).Nodup)(yI:(s0::s1::pU).Nodup)(O:LH.d9 (s0::s1::rest).length (bI ls) 0 1 T W ws aV)(O':LH.d9 (s0::s1::pU).length (bI dX) 0 1 T W' vJ Az):W=W':=
 qo (F.le F' yI O O' λ_=>bX _) (F'.le F nd O' O λ_=>bX _)
theorem Rj:∀{rows:List Row}{j:Nat} {r:Row},(rows.map (·.1)).Nodup->rows[j]? =some r->rows.take j++rows.drop (j+1)=rows.filter λs=>!decide (s.1=r.1)
 |[],j,r,_,h=>by simp at h
 |s::rows,0,r,nd,h=>by
  cases h;rw[az,bg] at nd;rw[eR,ap<|by simp];refine(List.filter_eq_self.mpr λt ht=>?_).symm;simp only[pc,gL];exact λz=>nd.1 (by rw[<-z];exact b9 (f:=λx:Row=>x.1) ht)
 |s::rows,j+1,r,nd,h=>by
  have h':rows[j]? =some r:=h;rw[az,bg] at nd;have:=Rj nd.2 h';rw[eR,ar (by
   simp only[pc,gL];exact λz=>nd.1 (by rw[z];exact b9 (f:=λx:Row=>x.1) (ah h')))]
  rw[<-this];rfl
def amW (nd:(rows.map (·.1)).Nodup){j m:Nat}(hc:(bD r).canLay0=true)(hj:rows[j]? =some r)(hm:(rows.map bD)[m]? =some d):eqv d (bD r)=decide (m=j):=by
 rw[av] at hm;let(s,hs,rfl):=cc.mp hm;by_cases z:m=j
 .subst z;rw[hj] at hs;cases hs;rw[cf rfl];exact gy _ hc
 .rw[cE z];refine Ez λe=>z ?_;have h1:=(ab.mp hs);have h2:=(ab.mp hj);refine(hX (h₀:=by rw[af];exact h1.1) (h₁:=by rw[af];exact h2.1) nd).mp ?_;rw[km,km,h1.2,h2.2,e]
def ahy (h:Held H D aQ)(nd:((aQ.map (·.2)).map (·.1)).Nodup):(aQ.map (·.1)).Nodup:=by
 rw[cm] at nd;unfold List.Nodup at nd ⊢;rw[kx] at nd ⊢;refine l7 (λ{a b} ha hb hn e=>hn ?_) nd;have h1:=h.row a ha;have h2:=h.row b hb;rw[e,h2] at h1
 have:gQ b.2=gQ a.2:=by injection (be h1)
 have:=dT List.head? this;simp only[gQ,List.head?_cons] at this;lk
def aa2 (nm:Str)(k:Int)(rows:List Row):(rows.map<|dg nm k).map (dg nm<|-k)=rows:=by
 rw[cm];refine(dv λr _=>?_).trans<|map_id _;show dg nm (-k) (dg nm k r)=r;unfold dg;by_cases e:r.1=nm
 .rw[ar e,ar e];rw[show r.2.2.2.1+k+ -k=r.2.2.2.1 by lk]
 .rw[ap e,ap e]
end
section
variable {rows:List Row}{ws vJ:List (List Nat×Int)}{nm s0 s1:Str}{rest:List Str}
noncomputable def Tv (nm:Str)(rows:List Row):List Row:=rows.filter λs=>!decide (s.1=nm)
def Tw (h:Ok aY names rows nums ls):Ok aY names (Tv nm rows) nums (wV nm ls):=by
 refine((h.dr.r2,h.dr.r5,h.dr.rn,h.dr.n8,?_,?_,?_),h.num,h.nd,h.sub,?_)
 .exact(pS _ ka).nodup h.dr.nn
 .exact λr hr=>h.dr.sub r (du.mp hr).1
 .exact λr hr=>h.dr.wd r (du.mp hr).1
 .exact Gk h.lr λx y z=>by rw[z.1]
def ahz (h:∀r∈rows,RB B r):∀r∈Tv nm rows,RB B r:=λr hr=>h r (du.mp hr).1
def Ok.two (h:Ok aY names rows nums ls)(hs:seenOf nums=s0::s1::rest):2<=nums.length:=by have:=dT List.length hs;unfold seenOf at this;grind
def aj1 {K:Frag}(hh:bx H C p dx nn ll nums ls)(ok:Ok aY names rows nums ls)(hs:seenOf nums=s0::s1::rest)(hb:∀r∈rows,RB B r)(hB:B<1e69)(hm:nm∈rows.map (·.1))(h0:0<=T)(h1:T<1e72)
  (q:∀W ws aV W' vJ Az H',Same H H'->LH.d9 (seenOf nums).length (bI ls) 0 1 T W ws aV->LH.d9 (seenOf nums).length (bI<|wV nm ls) 0 1 T W' vJ Az->Q (.int<|W - W') H'):Tq K C [.ref p,.str nm,.int T] H Q E:=by
 have Vz:(seenOf nums).length=nums.length:=af ..;have h2:=ok.two hs;let(hl,hnl):=ok.len;have Lg:=Tw (nm:=nm) ok;let(tK,_):=Lg.len;let(W,ws,aV,O,em):=(mO ok hb).out hB ⟨by lk,by lk⟩ ∅ h0 h1;let(W',vJ,Az,O',em'):=(mO Lg<|ahz hb).out hB ⟨by lk,by lk⟩ ∅ h0 h1;rw[Vz] at em em';let(x,hx):=xM (by rw[jE ok.lr];exact hm);exact⟨p,dx,nn,ll,nums,ls,nm,x,T,W,W',_,_,rfl,hh,hx,by lk,em,em',λH' s=>q W ws aV W' vJ Az H' s O O'⟩
def aj2 (ok:Ok aY names rows nums ls)(hs:seenOf nums=s0::s1::rest)(hb:∀r∈rows,RB B r)(O:LH.d9 (seenOf nums).length (bI ls) 0 1 T W ws aV)(O':LH.d9 (seenOf nums).length (bI<|wV nm ls) 0 1 T W' vJ Az):W'<=W:=by have F:=mO ok hb;have F':=mO (Tw (nm:=nm) ok)<|ahz hb;have nd:=ok.nd;rw[hs] at F F' O O' nd;exact F'.le F nd O' O λν=>sum_filter λr hr=>ajZ<|ok.dr.wd r hr
def Nv (ok:Ok aY names rows nums ls)(hs:seenOf nums=s0::s1::rest)(Lg:Ok aY names rows dH dX)(wF:seenOf dH=s0::s1::pU)(hb:∀r∈rows,RB B r)(O:LH.d9 (seenOf nums).length (bI ls) 0 1 T W ws aV)(O':LH.d9 (seenOf dH).length (bI dX) 0 1 T W' vJ Az):W=W':=by have F:=mO ok hb;have F':=mO Lg hb;have nd:=ok.nd;have yI:=Lg.nd;rw[hs] at F O nd;rw[wF] at F' O' yI;exact F.eq F' nd yI O O'
def ac0 (ok:Ok aY names rows nums ls)(hs:seenOf nums=s0::s1::rest)(hb:∀r∈rows,RB B r)(O:LH.d9 (seenOf nums).length (bI ls) 0 1 T W ws aV)(O':LH.d9 (seenOf nums).length (bI ls) 0 1 T W' vJ Az):W=W':=Nv ok hs ok hs hb O O'
def ahA (ok:Ok aY names rows nums ls)(hs:seenOf nums=s0::s1::rest)(hb:∀r∈rows,RB B r)(O:LH.d9 (seenOf nums).length (bI ls) 0 1 T W ws aV)(O':LH.d9 (seenOf nums).length (bI ls) 0 1 (T+1) W' vJ Az):W<=W':=
 LH.Er.later (mO ok hb).hall (by rw[hs];simp) (by rw[hs];simp) (_,_,O) (_,_,O')
def ahB (hk:0<=k)(ok:Ok aY names rows nums ls)(hs:seenOf nums=s0::s1::rest)(Lg:Ok aY names (rows.map<|dg nm k) dH dX)(wF:seenOf dH=s0::s1::pU)(hb:∀r∈rows,RB B r)(xV:∀r∈rows.map (dg nm k),RB B' r)(O:LH.d9 (seenOf nums).length (bI ls) 0 1 T W ws aV)(O':LH.d9 (seenOf dH).length (bI dX) 0 1 T W' vJ Az):W<=W':=by
 have F:=mO ok hb;have F':=mO Lg xV;have yI:=Lg.nd;rw[hs] at F O;rw[wF] at F' O' yI;refine F.le F' yI O O' λν=>aj0 λr hr=>?_;unfold dg;by_cases e:r.1=nm
 .rw[ar e];exact abx hk
 .rw[ap e];exact bX _
def aqe (hk:0<=k)(hb:∀r∈rows,RB B r):∀r∈rows.map (dg nm k),RB (B+k) r:=λr hr=>by
 let(s,hs,rfl):=bp.mp hr;let(a,b,c):=hb s hs;unfold dg;by_cases e:s.1=nm
 .rw[ar e];refine(a,?_,c);lk
 .rw[ap e];exact(a,by lk,c)
end
section
def av3:(dU<|vB<|bH fO<|aC (vF 7) a0) [x0,x1,x2,x3,x4,x5,x6,some (.fr,.int x),x8,x9,x10]=some false:=by rfl
end
def Jg:cB ["_law_hall","_law_held","_law_number","_law_turns_here","_law_row","_law_place","_law_whole_out","_law_found","_law_without","_law_one","_law_wider"] ["_law_hall","_law_held","_law_number","_law_turns_here"] (aN<|top 57):=fs
section
variable {K:Frag}
inductive VD (C:Addr)(vs:List V)(H:Hp)(Q:VK):Prop
 |mk:∀p dx nn ll nums ls D aQ n T s0 s1 rest Bd aY names,vs=[.ref p,.ref D,.int n,.int T]->bx H C p dx nn ll nums ls->Held H D aQ->aQ≠[]->Ok aY names (aQ.map (·.2)) nums ls->((∀x∈aY,eY x))->((∀x∈names,eY x))->seenOf nums=s0::s1::rest->((∀r∈aQ.map (·.2),RB Bd r/\r.2.1∈aY/\r.2.2.1∈aY))->(0<=Bd/\Bd<1e68)->(0<=T/\T<1e69)->(∀H' dH dX,Ok aY names (aQ.map (·.2)) dH dX->seenOf dH=seenOf nums->bx H' C p dx nn ll dH dX->fB nn ll H H'->Q (.bl true) H')->VD C vs H Q
def Nx (C:Addr):Sp:=λvs H Q _=>VD C vs H Q
def ac1 (ha:∀R:List V->Hp->Prop,(∀H',Same H H'->R [.str a,.str b] H')->t σ H R)(n1:eY a)(n2:eY b)(vp:a≠b)
  (q:∀x dx nn ll H',bx H' C x dx nn ll [(a,0),(b,1)] []->Same H H'->H nn=none->H ll=none->Q (.ref x) H'):ako C (Q6 C) [] E t σ H Q:=by
 refine ha _ λH1 s1 x dx hx hdx bA=>?_;have dw:∀c o,H c=some o->c≠x/\c≠dx/\H1 c=some o:=λc o e=>by have e:=s1 c o e;lk
 refine⟨x,dx,a,b,rfl,au,n1,n2,vp,λH' nn ll hall fr Q9 hll=>⟨rfl,q x dx nn ll H' hall (λc o e=>?_) ?_ ?_⟩⟩
 .let(z1,z2,e):=dw c o e;exact fr c o z1 (by rw[aJ z1,aJ z2];exact e)
 .cases e:H nn with
  |none=>rfl
  |some o=>let(z1,z2,e):=dw _ _ e;rw[aJ z1,aJ z2,e] at Q9;lk
 .cases e:H ll with
  |none=>rfl
  |some o=>let(z1,z2,e):=dw _ _ e;rw[aJ z1,aJ z2,e] at hll;lk
def aqf {j:Nat}(h:j<=xs.length):lQ xs none (some (j:Int))=xs.take j:=by unfold lQ;rw[HT.abD,HT.Yi,i6 h];rfl
def aqg {j:Nat}(h:j<=xs.length):lQ xs (some (j:Int)) none=xs.drop j:=by unfold lQ;rw[HT.abD,HT.Yi,i6 h];exact c9 (by rw[hV];lk)
def of_lay {nm a b:Str}(h:cG.sp C p (.lay nm a b w l) H Q E):QZ C [.ref p,.str nm,.str a,.str b,.int w,.int l] H Q E:=h
def aj3 {nm:Str}(h:cG.sp C p (.widen nm k) H Q E):Ci C [.ref p,.str nm,.int k] H Q E:=h
def ahC {nm:Str}(h:cG.sp C p (.narrow nm k) H Q E):yL C [.ref p,.str nm,.int k] H Q E:=h
def aj4 {xs:List Str}(nd:xs.Nodup)(h:xs[i]? =some a):a∉xs.take i:=λz=>by let(hi,e):=ab.mp h;have yI:=nd;rw[<-List.take_append_drop i xs] at yI;exact(fz.mp yI).2.2 a z a (by rw[fg hi,e];exact ae ..) rfl
def bx.amX (h:bx H C p dx nn ll nums ls)(g:bx H C p' dx' nn' ll' dH dX)(h1:nn≠nn')(h2:nn≠ll')(h3:ll≠nn')(h4:ll≠ll')(s:fB nn' ll' H H'):bx H' C p dx nn ll nums ls:=by let(a,b,(aO,c,d),n):=h;let(aal,c',_):=g.laid;have hp:∀{o:HO}{b:Addr},(∀ks,o≠ .dK ks)->H b=some o->H' b=some o:=λ{o b} ho e=>s _ _ (λz=>by rw[z,g.num] at e;exact ho _ (be e).symm) (λz=>by rw[z,c'] at e;exact ho _ (be e).symm) e;exact(hp (λ_ z=>by cases z) a,s _ _ h1 h2 b,(aO,s _ _ h3 h4 c,d.mono λ_ _ z=>z.same λt xs e=>hp (λ_ z=>by cases z) e),n)
def Held.stay (h:Held H D aQ)(g:bx H C p dx nn ll nums ls)(s:fB nn ll H H'):Held H' D aQ:=(lW g s h.top,λx hx=>lW g s<|h.row x hx,h.can)
def ahD {fd:FuncData}(F:bY K "_law_worth" "_law_worth" (top 57) f fd)(B:Bl mg)(KT:eX K)(c:Cl K C)(Mo:Ms P w K mg base C 7 "out" ["self","turns"] (Xz K C))(Mw:Ms P w K mg base C 7 "worth" ["self","name","turns"] (Tq K C))(Mr:Ms P w K mg base C 1 "rooms" ["self"] (SX C))
  (Ml:Ms P w K mg base C 2 "lay" ["self","name","a","b","width","length"] (QZ C))(Mwi:Ms P w K mg base C 2 "widen" ["self","name","more"] (Ci C))(Mna:Ms P w K mg base C 2 "narrow" ["self","name","less"] (yL C))(M:Mk K C fi)(Fi:bJ P w K mg base cA 2 fi fdi ["self","start","goal"] (Q6 C))(bi:Binds K fdi ["self","start","goal"] [])(hC:mg "NamedHall"=some (.ref C))(iK:cW P w K mg base 1 "_law_whole" ["_law_found"] (bO K fO)):
  bJ P w K mg base cA 8 f fd ["_law_hall","_law_held","_law_number","_law_turns_here"] (Nx C):=by
 have nd:=Jg.nd;have vt:=Jg.vt;let(fo,fdo,Fo,mo,bo):=Mo.ex;let(fw,fdw,Fw,mw',bw):=Mw.ex;let(fr,fdr,Fr',mr,br):=Mr.ex;let(fl,fdl,Fl,ml,bl):=Ml.ex;let(fwi,azg,Fwi,mwi,bwi):=Mwi.ex;let(fna,azh,Fna,mna,bna):=Mna.ex;refine bY.ok F Jg (λvs H Q E h=>by let(_,_,_,_,_,_,_,_,_,_,_,_,_,_,_,_,rfl,_):=h;rfl) λcX A outer s H vs Q E hr fQ=>?_;refine⟨_,(aK (dO (i:=4) nd rfl lx (bB jG (pV vt 1) (dj oMod (pV vt 2) (eZ YD gx B.len eJ (ak (pV vt 1) aP)))))
  (aK (dO (i:=5) nd rfl lx (arK hr.units (pV vt 1) (ak (pV vt 4) aP)))
  (aK (dO (i:=6) nd rfl lx (bB dR (cL (pV vt 0) c.cl mo Fo hr bo .nil dB (ak (pV vt 3) aP)) aF))
  (aK (dO (i:=7) nd rfl lx (cL (pV vt 0) c.cl mw' Fw hr bw .nil dB (ak (bB jG (pV vt 4) aF) (ak (pV vt 3) aP))))
  (aK (dO (i:=8) nd rfl lx (abC M Fi hr.mo gx hC bi .nil dB (ak (bB jG (Lz (pV vt 0) c.cl mr Fr' hr.mo br .nil dB) aF) (ak (bB jG (Lz (pV vt 0) c.cl mr Fr' hr.mo br .nil dB) aF) aP))))
  (aK (nF di rfl (mC (dj afE (oG Jq (pV vt 1) Bj (pB (pV vt 5))) (oG Jq (pV vt 1) (pB (dj uf (pV vt 5) aF)) Bj))) (dM (i:=9) nd rfl lx) (bf (cP (cL (pV vt 8) c.cl ml Fl hr.mo bl .nil dB (ak (bB jG (pV vt 9) aF) (ak (bB jG (pV vt 9) aF) (ak (bB jG (pV vt 9) aF) (ak (bB jG (pV vt 9) aF) (ak (bB jG (pV vt 9) aF) aP)))))))))
  (aK (fW (PW.pt (uE (RP (cVal (oM (dG iK hr.mo gx (iU (dF (pV vt 7)) oK))))) (uE (lY oLt (pV vt 7) aF) (uX (lY (Bq hr.units) (pV vt 7) (dj Dg (pV vt 6) (bB dR (cL (pV vt 8) c.cl mo Fo hr bo .nil dB (ak (pV vt 3) aP)) aF))))))) (bf (cU pq)) cT)
  (aK (fW (PW.pt (uE (lY oLt (bB dR (cL (pV vt 0) c.cl mo Fo hr bo .nil dB (ak (dj uf (pV vt 3) aF) aP)) aF) (pV vt 6)) (uX (lY (Bq hr.units) (bB dR (cL (pV vt 0) c.cl mo Fo hr bo .nil dB (ak (pV vt 3) aP)) aF) (pV vt 6))))) (bf (cU pq)) cT)
  (aK (cP (cL (pV vt 0) c.cl mwi Fwi hr.mo bwi .nil dB (ak (bB jG (pV vt 4) aF) (ak (dj uf aF (dj oMod (dj oDiv (pV vt 2) aF) aF)) aP))))
  (aK (dO (i:=10) nd rfl lx (bB dR (cL (pV vt 0) c.cl mo Fo hr bo .nil dB (ak (pV vt 3) aP)) aF))
  (aK (cP (cL (pV vt 0) c.cl mna Fna hr.mo bna .nil dB (ak (bB jG (pV vt 4) aF) (ak (dj uf aF (dj oMod (dj oDiv (pV vt 2) aF) aF)) aP))))
  (bf (cU (afe (peC oGe (pV vt 10) (pV vt 6)) (X5 (peC (Bp hr.units) (bB dR (cL (pV vt 0) c.cl mo Fo hr bo .nil dB (ak (pV vt 3) aP)) aF) (pV vt 6))))))))))))))))),?_⟩
 let(p,dx,nn,ll,nums,ls,D,aQ,n,T,s0,s1,rest,Bd,aY,names,rfl,hh,hH,bA,ok,hR,hN,hs,hrb,(wD,hBd),(Ij,hT1),hq):=fQ;have hl:=ok.len;have h2:=ok.two hs;have hb:∀r∈aQ.map (·.2),RB Bd r:=λr hr=>(hrb r hr).1;have cZ:ls.length=aQ.length:=by rw[ok.lr.length,af]
 have MN:=iN.mpr bA;have m:=fZ n (show(0:Int)<(aQ.length:Int) by lk);obtain⟨j,hj⟩:∃j:Nat,n % (aQ.length)=(j):=⟨(n % (aQ.length)).toNat,by lk⟩;have hjl:j<aQ.length:=by lk
 obtain⟨⟨ra,r⟩,Rk⟩:∃x,aQ[j]? =some x:=⟨_,ag hjl⟩;dsimp only[jP];ksr_p;unfold fG;rw[op2];unfold cH;refine aq rfl ?_;rw[op2];refine aq rfl ?_;unfold rK bR c7;refine aq rfl ?_;have hlD:(aQ.map λx=>V.ref x.1).length=aQ.length:=af ..;refine⟨_,.inl<|aZ.of hH.top,?_⟩;rw[hlD];have ejr:(aQ.map λx=>V.ref x.1)[j]? =some (.ref ra):=by rw[av,Rk];rfl
 have yM:=hH.row _<|ah Rk;have sW:=hH.can _<|ah Rk;have Je:r∈aQ.map (·.2):=bp.mpr ⟨_,ah Rk,rfl⟩;have aql:(aQ.map (·.2))[j]? =some r:=by rw[av,Rk];rfl
 refine⟨by lk,_,.ref ra,aZ.of hH.top,by rw[hj];exact iC ejr,?_⟩
 ksr_p;unfold fG cH;refine aq rfl ⟨.inl ⟨rfl,_,aZ.of hH.top⟩,aq rfl ?_⟩;refine⟨D,.ref ra,aQ.map (·.1),aQ.map λx=>bD x.2,bD r,j,rfl,rfl,by rw[hH.top,cm];rfl,ahy hH ok.dr.nn,by have:=zW (K:=K) hH.row hH.can;rw[cm];exact this,S5 yM sW,?_,by rw[af];exact hjl,λm d hm=>amW ok.dr.nn sW aql (by rw[cm];exact hm),?_⟩
 .exact Vy r
 ksr_p;have yO:∀x∈iI ls,(PyData.str x).canLay0=true:=λx hx=>(hN x (by
  have xY:x∈(aQ.map (·.2)).map (·.1):=by rw[<-jE ok.lr];exact hx
  let(r,hr,rfl):=bp.mp xY;exact ok.dr.sub r hr)).2
 have Ft:=mO ok hb;unfold fG cH;rw[op2];unfold gF bR c7;refine aq rfl ⟨p,dx,_,rfl,hh.ins,rfl,aq rfl<|vM (E:=E) hh Ft ∅ ∅ ∅ ∅ yO Ij ∅ λW ws aV H1 t1 r1 q1 O1 hq1=>⟨_,_,hq1,mq _ _,?_⟩⟩
 ksr_p;unfold fG cH gF bR c7;have Im:=hh.grow q1;refine aq rfl ⟨p,dx,_,rfl,Im.ins,rfl,?_⟩;rw[op2];refine aq rfl ⟨_,.str r.1,aZ.of (q1 _ _ yM),rfl,aq rfl<|aj1 Im ok hs hb ∅ (b9 Je) Ij ∅ λW1 ws1 azi W2 ws2 azj H2 q2' O2 O3=>?_⟩;have q2:=q1.trans q2';have vL:=hh.grow q2;let(kv2,hk2,_):=vL.laid;have eW:=ac0 ok hs hb O1 O2;subst eW;have vp:s0≠s1:=λz=>by have:=ok.nd;rw[hs,z] at this;simp at this
 have k0:=hR s0 (ok.sub s0 (by rw[hs];simp));have k1:=hR s1<|ok.sub s1 (by rw[hs];simp)
 ksr_p;refine ac1 (λZ z=>?_) k0 k1 vp λx dxx n2 l2 H3 J7 q3' Ke qd=>?_
 .unfold gF bR c7;rw[op2];refine aq rfl ⟨p,dx,_,rfl,vL.ins,rfl,⟨p,dx,nn,ll,nums,ls,rfl,vL,λz1 Ra=>⟨_,.str s0,aZ.of au,by rw[hs];exact mq _ _,?_⟩⟩⟩;have sa:=aH (o:=.lst<|(seenOf nums).map V.str) Ra;have hha:=vL.grow sa;k_ne;rw[op2];refine aq rfl ⟨p,dx,_,rfl,hha.ins,rfl,⟨p,dx,nn,ll,nums,ls,rfl,hha,λz2 FT=>⟨_,.str s1,aZ.of au,by rw[hs];exact JK _ _ _,z _<|sa.trans<|aH FT⟩⟩⟩
 have q3:=q2.trans q3';have Gi:=hh.grow q3;have hH3:=hH.grow q3
 ksr_p;rw[nO];unfold uF;rw[op2];unfold tSl Bh Jo;refine aq (v:=.ref D) rfl<|aq (v:=.int (j:Int)) rfl ⟨_,rfl,D,_,rfl,aZ.of hH3.top,λz1 Ra=>?_⟩;have sa:=aH (o:=.lst<|lQ (aQ.map λx=>.ref x.1) none<|some (j:Int)) Ra;refine aq (v:=.ref D) rfl ?_;rw[op2];refine aq (v:=.int (j:Int)) rfl ⟨(j:Int)+1,rfl,D,_,rfl,aZ.of (sa _ _ hH3.top),λz2 FT=>?_⟩;have sb:=aH (o:=.lst<|lQ (aQ.map λx=>.ref x.1) (some<|(j:Int)+1) none) FT;have e1:lQ (aQ.map λx=>V.ref x.1) none (some (j:Int))=(aQ.take j).map λx=>V.ref x.1:=by rw[aqf ∅,nc]
 have e2:lQ (aQ.map λx=>V.ref x.1) (some<|(j:Int)+1) none=(aQ.drop<|j+1).map λx=>V.ref x.1:=by rw[show(j:Int)+1=((j+1:Nat):Int) by lk,aqg ∅,map_drop]
 refine⟨z1,z2,_,_,rfl,rfl,sb _ _ au,au,?_,λz3 hz3=>⟨z3,rfl,⟨_,aZ.of au⟩,?_⟩⟩
 .have:100<=sizeLine:=by decide
  rw[e1,e2,af,af,dt,hV];lk
 have s4:=(sa.trans sb).trans<|aH (o:=.lst<|lQ (aQ.map λx=>V.ref x.1) none (some (j:Int))++lQ (aQ.map λx=>V.ref x.1) (some<|(j:Int)+1) none) hz3;rw[e1,e2,←bz] at s4 ⊢;generalize hH4:upd _ z3 _=H4 at s4 ⊢;have hz4:H4 z3=some (.lst<|(aQ.take j++aQ.drop (j+1)).map λx=>V.ref x.1):=by rw[<-hH4];exact au
 clear hH4;have er:(aQ.take j++aQ.drop (j+1)).map (·.2)=Tv r.1 (aQ.map (·.2)):=by rw[bz,nc,map_drop];exact Rj ok.dr.nn aql
 have S8:∀x∈aQ.take j++aQ.drop (j+1),x∈aQ:=λx hx=>(bc.mp hx).elim fT ir;generalize aQ.take j++aQ.drop (j+1)=p2 at hz4 er S8;have Rm:=Tw (nm:=r.1) ok;rw[<-er] at Rm;have uT:=J7.grow s4;have hh4:=Gi.grow s4;have hH4:=hH3.grow s4;have ok0:Ok aY names [] [(s0,0),(s1,1)] []:=by
  refine⟨⟨ok.dr.r2,ok.dr.r5,ok.dr.rn,ok.dr.n8,lP,λr h=>(by cases h),λr h=>(by cases h)⟩,λi x h=>?_,?_,?_,.nil⟩
  .match i,h with
   |0,h=>cases h;rfl
   |1,h=>cases h;rfl
  .simp[seenOf,vp]
  .intro y hy;exact ok.sub y (by rw[hs];simp[seenOf] at hy;rcases hy with rfl|rfl<;>simp)
 refine forL (xs:=p2.map λx=>V.ref x.1) (λi aX H'=>(∃y9,aX=[some<|.ref p,some<|.ref D,some<|.int n,some<|.int T,some<|.ref ra,some<|.int (j:Int),some<|.int W,some<|.int<|W - W2,some<|.ref x,y9,none])/\fB n2 l2 H4 H'/\∃dH dX pU,Ok aY names ((p2.map (·.2)).take i) dH dX/\seenOf dH=s0::s1::pU/\bx H' C x dxx n2 l2 dH dX) ⟨⟨_,rfl⟩,fB.same<|λ_ _ e=>e,_,_,[],ok0,rfl,uT⟩ (λi aX H' _ h=>aZ.of (lW uT h.2.1 hz4)) ?_ ?_
 .rintro i v aX H' hv ⟨⟨y9,rfl⟩,st,dH,dX,pU,Lg,wF,alJ⟩;rw[av] at hv;let((ri,rr),hri,rfl):=cc.mp hv;have aqp:=S8 _<|ah hri;have aj5:rr∈aQ.map (·.2):=bp.mpr ⟨_,aqp,rfl⟩;have aqq:(p2.map (·.2))[i]? =some rr:=by rw[av,hri];rfl
  have aa3:=lW uT st<|hH4.row _ aqp;let((b1,b2,b3),b4,b5):=hrb rr aj5;have w1:=ok.dr.wd rr aj5;have hd:tu (rr.2.2.2.1+rr.2.2.2.2) aY names ((p2.map (·.2)).take i) (.lay rr.1 rr.2.1 rr.2.2.1 rr.2.2.2.1 rr.2.2.2.2):=by refine⟨ok.dr.sub rr aj5,?_,b4,b5,b1,w1,b3,by lk,by lk⟩;rw[nc];exact aj4 Rm.dr.nn (by rw[av,aqq];rfl)
  let(Ae,ls3,CG,Yy,hk):=step Lg hR hN hd alJ;show gk _ _ [some<|.ref p,some<|.ref D,some<|.int n,some<|.int T,some<|.ref ra,some<|.int (j:Int),some<|.int W,some<|.int<|W - W2,some<|.ref x,some<|.ref ri,none] H';unfold gk gF bR c7;refine aq (v:=.ref x) rfl ⟨x,dxx,_,rfl,alJ.ins,rfl,?_⟩;rw[op2];refine aq (v:=.ref ri) rfl ⟨_,.str rr.1,aZ.of aa3,rfl,?_⟩;k_ne;rw[op2];refine aq (v:=.ref ri) rfl ⟨_,.str rr.2.1,aZ.of aa3,rfl,?_⟩;k_ne;rw[op2];refine aq (v:=.ref ri) rfl ⟨_,.str rr.2.2.1,aZ.of aa3,rfl,?_⟩;k_ne;rw[op2];refine aq (v:=.ref ri) rfl ⟨_,.int rr.2.2.2.1,aZ.of aa3,rfl,?_⟩;k_ne;rw[op2];refine aq (v:=.ref ri) rfl ⟨_,.int rr.2.2.2.2,aZ.of aa3,rfl,?_⟩;refine of_lay<|hk _ _ λH5 aeW za=>⟨⟨_,rfl⟩,st.trans za,Ae,ls3,pU++newOf dH [rr.2.1,rr.2.2.1],?_,?_,aeW⟩
  .have e:(p2.map (·.2)).take (i+1)=(p2.map (·.2)).take i++[rr]:=by rw[o0,aqq];rfl
   rw[e];exact CG
  .rw[Yy];show o7 (seenOf dH) [rr.2.1,rr.2.2.1]=_;rw[acP b1,wF];rfl
 rintro aX H5 ⟨⟨y9,rfl⟩,za,uU,Rn,ay7,Jh,lX,aeW⟩;rw[af,c9 (by rw[af];exact ax _)] at Jh;have Q5:=hh4.amX uT (bF vL.num Ke) (bF vL.num qd) (bF hk2 Ke) (bF hk2 qd) za;have arT:=lW uT za (s4 _ _ (q3 _ _ yM));have sH5:fB nn ll H H5:=λb o h1 h2 e=>za _ _ (λz=>by rw[z] at e;rw[q2 _ _ e] at Ke;cases Ke) (λz=>by rw[z] at e;rw[q2 _ _ e] at qd;cases qd) (s4 _ _ (q3 _ _ e));have hb2:∀r∈p2.map (·.2),RB Bd r:=λr hr=>hb r (by
  let(y,hy,rfl):=bp.mp hr;exact b9 (S8 _ hy))
 have av4:∀x∈iI Rn,(PyData.str x).canLay0=true:=λx hx=>(hN x (by
  have xY:x∈(p2.map (·.2)).map (·.1):=by rw[<-jE Jh.lr];exact hx
  let(r,hr,rfl):=bp.mp xY;exact Jh.dr.sub r hr)).2
 have azk:=Jh.len;have h22:=Jh.two lX;clear uT J7 Gi hh4 hH3 hH4 hz4 s4 q3 q3' za;have wnn:=aj2 ok hs hb O1 O3
 ksr_p;unfold jj TJ;refine VM.sZ (S:=[none,none,none,none,none,none,none,some (.fr,.int<|W - W2),none,none,none]) ⟨_,_,rfl,_,_,rfl,_,_,rfl,_,_,rfl,_,_,rfl,_,_,rfl,_,_,rfl,_,_,rfl,rfl,rfl,_,_,rfl,_,_,rfl,_,_,rfl,rfl⟩ av3 λH6 q6=>?_;rw[ap<|by simp];try k_ne
 unfold oH gF bR c7;rw[op2];refine aq (v:=.int<|W - W2) rfl ?_;show(if decide (W - W2<0)=true then _ else _);rw[ap (by rw[dQ];lk)];rw[op2];refine aq (v:=.int<|W - W2) rfl ?_;rw[op2];refine aq (v:=.int W) rfl ?_;rw[op2];have alK:=aeW.grow q6;refine aq (v:=.ref x) rfl ⟨x,dxx,_,rfl,alK.ins,rfl,aq (v:=.int T) rfl<|vM alK (mO Jh hb2) ∅ ∅ ∅ ∅ av4 Ij ∅ λW3 ws3 azl H7 t7 r7 q7' O4 hq7=>⟨_,_,hq7,mq _ _,?_⟩⟩;have q7:=q6.trans q7';have hh7:=Q5.grow q7;have eW:=Nv Rm hs Jh lX hb2 O3 O4;subst eW;refine⟨.int<|W - W2,.int<|W - W2,rfl,rfl,by simp[PyData.depth],?_⟩;show(if(!PyData.eqv _ _)=true then _ else _);rw[gy _ rfl,ap<|by simp];unfold iH
 ksr_p;unfold jj TJ oH gF bR c7;rw[op2];rw[op2];refine aq (v:=.ref p) rfl ⟨p,dx,_,rfl,hh7.ins,rfl,?_⟩;rw[op2];refine aq (v:=.int T) rfl ?_;unfold tC rM;dsimp only[i4,fm];refine vM (T:=T+1) hh7 Ft ∅ ∅ ∅ ∅ yO ∅ ∅ λW4 ws4 azm H8 t8 r8 q8' O5 hq8=>⟨_,_,hq8,mq _ _,?_⟩;have q8:=q7.trans q8';have hh8:=Q5.grow q8;have wl:=ahA ok hs hb O1 O5;refine aq (v:=.int W) rfl ?_;show(if decide (W4<W)=true then _ else _);rw[ap (by rw[dQ];lk)];rw[op2];rw[op2];refine aq (v:=.ref p) rfl ⟨p,dx,_,rfl,hh8.ins,rfl,aq (v:=.int T) rfl<|vM (E:=E) hh8 Ft ∅ ∅ ∅ ∅ yO Ij ∅ λW5 ws5 azn H9 t9 r9 q9' O6 hq9=>⟨_,_,hq9,mq _ _,?_⟩⟩;have q9:=q8.trans q9';have hh9:=Q5.grow q9;have eW:=ac0 ok hs hb O1 O6;subst eW;refine aq (v:=.int W) rfl ⟨.int W,.int W,rfl,rfl,by simp[PyData.depth],?_⟩;show(if(!PyData.eqv _ _)=true then _ else _);rw[gy _ rfl,ap<|by simp];unfold iH
 ksr_p;have m8:=fZ (n/8) (show(0:Int)<3 by decide);have w1:=ok.dr.wd r Je;let(Ae,ls3,CG,Yy,hk3):=step (Wt:=3) (d:=.widen r.1<|1+n/8 % 3) ok hR hN ⟨b9 Je,by lk,by lk⟩ hh9;have aj6:seenOf Ae=s0::s1::rest:=Yy.trans hs;have alL:=q9 _ _ arT;have cd8:Dd n 8:=⟨by decide,by decide +kernel⟩;unfold gk gF bR c7 tC rM;refine aq (v:=.ref p) rfl ⟨p,dx,_,rfl,hh9.ins,rfl,?_⟩;rw[op2];refine aq (v:=.ref ra) rfl ⟨_,.str r.1,aZ.of alL,rfl,?_⟩;try k_ne
 rw[op2];try k_ne
 rw[op2];rw[op2];refine aq (v:=.int n) rfl ⟨cd8,⟨show(0:Int)<3 by decide,?_⟩⟩;refine aj3<|hk3 _ _ λHA hhA stA=>?_;have arU:=lW hh9 stA alL
 ksr_p;unfold fG cH gF bR c7;have av5:∀x∈iI ls3,(PyData.str x).canLay0=true:=λx hx=>(hN x (by
  have xY:x∈((aQ.map (·.2)).map<|dg r.1<|1+n/8 % 3).map (·.1):=by have:=jE CG.lr;rw[show Ey (.widen r.1<|1+n/8 % 3) (aQ.map (·.2))=(aQ.map (·.2)).map (dg r.1<|1+n/8 % 3) from rfl] at this;rw[<-this];exact hx
  let(s,hs,rfl):=bp.mp xY;exact CG.dr.sub s hs)).2
 have hb3:=aqe (nm:=r.1) (k:=1+n/8 % 3) ∅ hb;have hl3:=CG.len;have h23:=CG.two aj6;rw[op2];refine aq (v:=.ref p) rfl ⟨p,dx,_,rfl,hhA.ins,rfl,aq (v:=.int T) rfl<|vM (E:=E) hhA (mO CG hb3) ∅ ∅ ∅ ∅ av5 Ij ∅ λW6 ws6 azo HB tB rB qB OB hqB=>⟨_,_,hqB,mq _ _,?_⟩⟩;have hhB:=hhA.grow qB;have ww:=ahB ∅ ok hs CG aj6 hb hb3 O1 OB;let(aeX,ls4,Lh,hs4,hk4):=step (Wt:=3) (d:=.narrow r.1<|1+n/8 % 3) CG hR hN ⟨dg r.1 (1+n/8 % 3) r,b9 Je,by unfold dg;rw[ar rfl],by lk,by unfold dg;rw[ar rfl];show _<r.2.2.2.1+_;lk⟩ hhB;have aj7:seenOf aeX=s0::s1::rest:=hs4.trans aj6;rw[show Ey (.narrow r.1<|1+n/8 % 3) (Ey (.widen r.1<|1+n/8 % 3)<|aQ.map (·.2))=((aQ.map (·.2)).map<|dg r.1<|1+n/8 % 3).map (dg r.1<|-(1+n/8 % 3)) from rfl,aa2] at Lh;have arV:=qB _ _ arU
 ksr_p;unfold gk gF bR c7 tC rM;refine aq (v:=.ref p) rfl ⟨p,dx,_,rfl,hhB.ins,rfl,?_⟩;rw[op2];refine aq (v:=.ref ra) rfl ⟨_,.str r.1,aZ.of arV,rfl,?_⟩;try k_ne
 rw[op2];try k_ne
 rw[op2];rw[op2];refine aq (v:=.int n) rfl ⟨cd8,⟨show(0:Int)<3 by decide,?_⟩⟩;refine ahC<|hk4 _ _ λHC hhC stC=>?_
 (subst hu;try k_ne)
 have av6:∀x∈iI ls4,(PyData.str x).canLay0=true:=λx hx=>(hN x (by
  have xY:x∈(aQ.map (·.2)).map (·.1):=by rw[<-jE Lh.lr];exact hx
  let(s,hs,rfl):=bp.mp xY;exact Lh.dr.sub s hs)).2
 have hl4:=Lh.len;have h24:=Lh.two aj7;unfold mW adb gF bR c7;rw[op2];refine aq (v:=.int W6) rfl<|aq (v:=.int W) rfl ⟨true,?_,?_⟩
 .show V.bl (decide<|W<=W6)=_;rw[cf ww]
 rw[ar rfl,op2];rw[op2];refine aq (v:=.ref p) rfl ⟨p,dx,_,rfl,hhC.ins,rfl,aq (v:=.int T) rfl<|vM (E:=E) hhC (mO Lh hb) ∅ ∅ ∅ ∅ av6 Ij ∅ λW7 ws7 azp HD tD rD qD OD hqD=>⟨_,_,hqD,mq _ _,?_⟩⟩;have eW:=Nv ok hs Lh aj7 hb O1 OD;subst eW;refine aq (v:=.int W) rfl ⟨.int W,.int W,rfl,rfl,by simp[PyData.depth],?_⟩;rw[gy _ rfl];exact hq HD aeX ls4 Lh (aj7.trans hs.symm) (hhC.grow qD)<|((((sH5.trans<|fB.same q9).trans stA).trans<|fB.same qB).trans stC).trans<|fB.same qD
end
def Af (ns:List Int):List Str:=if gR (fD ns 1) 3 % 4=0 then wordsOf (gR (fD ns 0) 0) 8 else namesOf ns
def aqu (ns:List Int):(Af ns).length=8/\(Af ns).Nodup/\∀x∈Af ns,eY x:=by
 unfold Af;split
 .exact(IW _ _,Ng _ _,Nf _<|by decide)
 .exact ajC ns
def aqv (ns:List Int):qp [.list<|ns.map .int]=some (false,.tuple [bU<|uy ns,bU<|Af ns]):=by
 have m:=fZ (gR (fD ns 0) 2) (show(0:Int)<4 by decide);have m2:=fZ (gR (fD ns 1) 2) (show(0:Int)<2 by decide);have e:=Tf (c:=fD ns 0) (k:=0) ⋯ ⋯ (many:=(2+gR (fD ns 0) 2 % 4).toNat) ∅;rw[show(((2+gR (fD ns 0) 2 % 4).toNat))=2+gR (fD ns 0) 2 % 4 by lk] at e;have e2:=Tf (c:=fD ns 1) (k:=gR (fD ns 1) 2 % 2) ∅ ∅ (many:=8) ⋯;rw[show((8:Nat):Int)=8 from rfl] at e2;have e3:=Tf (c:=fD ns 0) (k:=0) ⋯ ⋯ (many:=8) ⋯;rw[show((8:Nat):Int)=8 from rfl] at e3;unfold qp K7;z_go;repeat (first|rw[IV<|by decide]|rw[wY ⋯<|by decide]|simp only[jh<|show(0:Int)<4 by decide,jh<|show(0:Int)<2 by decide]|rw[e]|rw[e2]);z_go
 unfold Af;by_cases h:gR (fD ns 1) 3 % 4=0
 .kt_k;rw[IV<|by decide];z_go;rw[e3];rfl
 .kt_k;rfl
noncomputable def yP:Int:=1e59
def amY (c:Int):∃T,oY [.int c]=some (false,.int T)/\0<=T/\T<yP:=by
 have p:Aj (.int 10) (.int 59)=some (.int yP):=by rw[Oq ⋯ ⋯ ⋯<|by decide];rfl
 have m:=fZ c (show(0:Int)<yP by decide);have m2:=fZ (gR c 4/4) (show(0:Int)<25 by decide);unfold oY Iz;z_go;rw[wY ⋯<|by decide];kt_k;by_cases h:gR c 4 % 4=0
 .simp only[h,dP];z_go;rw[p];kt_k;exact(_,rfl,m.1,m.2)
 .kt_k;exact(_,rfl,m2.1,pi m2.2<|by decide)
def aj8 (c:Int):∃N,nJ [.int c]=some (false,.int N)/\1<=N/\N<yP:=by
 have p:Aj (.int 10) (.int 59)=some (.int yP):=by rw[Oq ⋯ ⋯ ⋯<|by decide];rfl
 have m:=fZ c (show(0:Int)<yP - 1 by decide);have m2:=fZ (gR c 3/4) (show(0:Int)<40 by decide);unfold nJ Gh;z_go;rw[wY ⋯<|by decide];kt_k;by_cases h:gR c 3 % 4=0
 .simp only[h,dP];z_go;rw[p];kt_k;exact(_,rfl,by lk,by lk)
 .kt_k;exact(_,rfl,by lk,pi (show _<(100:Int) by lk) ⋯)
def Ok.aa5 (ok:Ok aY names rows nums ls)(hr:r∈rows):r.2.1∈aY/\r.2.2.1∈aY:=by let(x,_,_,(i,_,e1),(j,_,e2),_):=Ld ok.lr hr;exact⟨ok.sub _<|ah e1,ok.sub _<|ah e2⟩
def RX (B:Int)(r:Row):Prop:=r.2.1≠r.2.2.1/\r.2.2.2.1<=B/\1<=r.2.2.2.2/\r.2.2.2.2<=ig
def wB (i:Nat):Int:=(i:Int)*ig
def CJ (i:Nat):wB (i+1)=wB i+ig:=by unfold wB;rw[Int.natCast_add,il];show _+1*ig=_;rw[Int.one_mul]
def amZ (hd:tu ig aY names rows d)(hw:∀r∈rows,RX (wB i) r):∀r∈Ey d rows,RX (wB<|i+1) r:=by
 have h0:0<=ig:=by decide
 have hi:0<=wB i:=gs ∅ h0;have up:∀{r:Row}{nm:Str} {k:Int},r∈rows->k<=ig->RX (wB<|i+1) (dg nm k r):=λ{r nm k} hr hk=>by
  let(a,b,c,d):=hw r hr;rw[CJ];unfold dg;split
  .exact(a,by show r.2.2.2.1+k<=_;lk,c,d)
  .exact(a,by lk,c,d)
 have st:∀r∈rows,RX (wB<|i+1) r:=λr hr=>by let(a,b,c,d):=hw r hr;rw[CJ];exact(a,by lk,c,d)
 cases d with
 |lay nm a b w l=>
  let(_,_,_,_,h5,_,h7,h8,h9):=hd;intro r hr;have Y0:=hr;rcases bc.mp Y0 with g|g
  .exact st r g
  .rw[aE.mp g,CJ];exact(h5,by show w<=_;lk,h7,h9)
 |shut nm=>intro r hr;exact st r (du.mp hr).1
 |widen nm k=>let(_,_,h3):=hd;intro r hr;let(r',Y0,rfl):=bp.mp hr;exact up Y0 h3
 |narrow nm k=>let(_,_,_,h3,_):=hd;intro r hr;let(r',Y0,rfl):=bp.mp hr;exact up Y0 ∅
def VF (d:cG)(r0 r1:Str)(more:List Str):∃m2,aeE d (r0::r1::more)=r0::r1::m2:=by
 have one:∀m r,∃m2,(if((r0::r1::m).any λy=>y==r)=true then r0::r1::m else(r0::r1::m)++[r])=r0::r1::m2:=λm r=>by
  split
  .exact⟨m,rfl⟩
  .exact⟨m++[r],rfl⟩
 cases d with
 |lay nm a b w l=>show ∃m2,o7 (r0::r1::more) [a,b]=r0::r1::m2;unfold o7;rw[iP,iP,List.foldl_nil];let(m1,e1):=one more a;rw[e1];exact one m1 b
 |shut nm=>exact⟨more,rfl⟩
 |widen nm k=>exact⟨more,rfl⟩
 |narrow nm k=>exact⟨more,rfl⟩
section
variable {K:Frag}
def SL (K:Frag)(yQ:List Addr)(H:Hp)(t:Addr)(xs:List V):Prop:=(∃o,H t=some o/\(∀ks,o≠ .dK ks)/\t∉yQ/\∀H':Hp,H' t=some o->aZ K H' t xs)\/∀H',aZ K H' t xs
def SL.mk0 (h:aZ K H t xs):SL K [] H t xs:=by
 rcases h with(h|⟨o,h⟩)|h
 .exact .inl ⟨_,h,λ_ z=>(by cases z),λz=>(by cases z),λ_ e=>.inl<|.inl e⟩
 .exact .inl ⟨_,h,λ_ z=>(by cases z),λz=>(by cases z),λ_ e=>.inl<|.inr ⟨o,e⟩⟩
 .exact .inr λ_=>.inr h
def SL.sq (h:SL K yQ H t xs):aZ K H t xs:=by
 rcases h with⟨o,e,_,_,f⟩|h
 .exact f _ e
 .exact h _
def SL.new (h:SL K yQ H t xs)(n:H b=none):SL K (b::yQ) H t xs:=by
 rcases h with⟨o,e,d,m,f⟩|h
 .refine .inl (o,e,d,λz=>?_,f);grind
 .exact .inr h
def SL.grow (h:SL K yQ H t xs)(s:Same H H'):SL K yQ H' t xs:=by
 rcases h with⟨o,e,d,m,f⟩|h
 .exact .inl (o,s _ _ e,d,m,f)
 .exact .inr h
def SL.stay (h:SL K yQ H t xs)(hh:bx H C p dx nn ll nums ls)(s:fB nn ll H H'):SL K yQ H' t xs:=by
 let(aO,c,_):=hh.laid;rcases h with⟨o,e,d,m,f⟩|h
 .refine .inl (o,s _ _ (λz=>?_) (λz=>?_) e,d,m,f)
  .rw[z,hh.num] at e;cases e;exact d _ rfl
  .grind
 .exact .inr h
def SL.frame (h:SL K yQ H t xs)(fr:∀b o,b∉yQ->H b=some o->H' b=some o)(hn:∀x∈av7,x∈yQ\/H x=none):SL K av7 H' t xs:=by
 rcases h with⟨o,e,d,m,f⟩|h
 .refine .inl (o,fr _ _ m e,d,λz=>?_,f);grind
 .exact .inr h
def ahG (e:σ[i]? =some (some<|.ref t))(h:aZ K H t xs)(hj:∀R:VK,R (.int j) H->tj σ H R)(a:dI xs j=some v)(q:Q v H):jt (zm K) (vR i) tj σ H Q:=
 aq e (hj _ (xs,v,h,a,q))
def ac2 (h:aZ K H t (ss.map V.str))(c:∀x∈ss,(PyData.str x).canLay0=true):Has K H (bU ss) (.ref t):=(t,_,rfl,h,IK c)
end
noncomputable def CK (r:Row)(k:Int):List cG:=[.widen r.1 k,.narrow r.1 k,.shut r.1,.lay r.1 r.2.1 r.2.2.1 r.2.2.2.1 r.2.2.2.2]
def J8 (rows:List Row)(r:Row)(k:Int):Nat->List Row
 |0=>rows
 |1=>rows.map<|dg r.1 k
 |2=>rows
 |3=>Tv r.1 rows
 |_=>Tv r.1 rows++[r]
def aqx (h:(CK r k)[i]? =some d):Ey d (J8 rows r k i)=J8 rows r k (i+1):=by
 match i,h with
 |0,h=>cases h;rfl
 |1,h=>
  cases h;exact aa2 _ _ _
 |2,h=>cases h;rfl
 |3,h=>cases h;rfl
def am0 (ok:Ok aY names rows nums ls)(hr:r∈rows)(hx:∀r∈rows,RX (wB i0) r)(hi:i0<=90)(hk:1<=k/\k<=ig)(h:(CK r k)[i]? =some d):tu (100*ig) aY names (J8 rows r k i) d:=by
 have w1:=ok.dr.wd r hr;have hm:=b9 (f:=λx:Row=>x.1) hr;have hB:wB i0<=100*ig:=ie ∅ ⋯
 match i,h with
 |0,h=>cases h;exact(hm,hk.1,by lk)
 |1,h=>
  cases h;refine(dg r.1 k r,b9 hr,?_,hk.1,?_)
  .unfold dg;rw[ar rfl]
  .unfold dg;rw[ar rfl];show k<r.2.2.2.1+k;lk
 |2,h=>cases h;exact hm
 |3,h=>cases h;let(a,b,c,d):=hx r hr;let(e,f):=ok.aa5 hr;refine(ok.dr.sub r hr,λz=>?_,e,f,a,w1,c,by lk,by lk);let(s,hs,es):=bp.mp z;have:=(du.mp hs).2;lk
def ac3 (hr:r∈rows)(hx:∀r∈rows,RX (wB i0) r)(hk:1<=k/\k<=ig)(i:Nat):∀s∈J8 rows r k i,RX (wB<|i0+1) s:=by
 have st:∀s∈rows,RX (wB<|i0+1) s:=λs hs=>by let(a,b,c,d):=hx s hs;rw[CJ];exact(a,by lk,c,d)
 have so:∀s∈Tv r.1 rows,RX (wB<|i0+1) s:=λs hs=>st s (du.mp hs).1
 match i with
 |0=>exact st
 |1=>
  intro s hs;let(s',wF,rfl):=bp.mp hs;let(a,b,c,d):=hx s' wF;rw[CJ];unfold dg;split
  .exact(a,by show s'.2.2.2.1+k<=_;lk,c,d)
  .exact(a,by lk,c,d)
 |2=>exact st
 |3=>exact so
 |_+4=>
  intro s hs;rcases bc.mp hs with g|g
  .exact so s g
  .rw[aE.mp g];exact st r hr
def Ji:cB ["_law_hall","_law_held","_law_seen","_law_number","_law_people_here","_law_row","_law_more","_law_deeds","_law_deed_here"] ["_law_hall","_law_held","_law_seen","_law_number","_law_people_here"] (aN<|top 59):=fs
section
variable {K:Frag}
def Jj (ok:Ok rs nms (aQ.map (·.2)) nums ls)(hall:bx H C p dx nn ll nums ls)(held:Held H D aQ)(qG:H sA=some (.lst<|(seenOf nums).map V.str))
  (hx:∀r∈aQ.map (·.2),RX (wB i) r)(hi:i<=100)(hm:seenOf nums=r0::r1::more)(Ag:∀x∈rs,eY x)(h0:1<=N)(h1:N<yP)(q:∀H',Same H H'->Q (.bl true) H'):Fq C [.ref p,.ref D,.ref sA,.int N] H Q E:=by
 have hB:wB i<=100*ig:=ie ∅ ⋯;have hl:=ok.len;exact⟨p,dx,nn,ll,nums,ls,D,aQ,sA,N,r0,r1,more,100*ig,rfl,hall,held,qG,hm,ok.nd,⟨ok.lr,ok.dr.nn,λr hr=>(hx r hr).1,λr hr=>⟨ok.dr.wd r hr,fv (hx r hr).2.1 hB⟩,λr hr=>(hx r hr).2.2.1⟩,by decide,λr hr=>fv (hx r hr).2.2.2<|by decide,by lk,by lk,⟨h0,pi h1<|by decide⟩,λx hx=>(Ag x<|ok.sub x hx).2,q⟩
inductive VH (C:Addr)(vs:List V)(H:Hp)(Q:VK):Prop
 |mk:∀p dx nn ll nums ls D aQ sA n N s0 s1 rest aY names,∀i:Nat,vs=[.ref p,.ref D,.ref sA,.int n,.int N]->bx H C p dx nn ll nums ls->Held H D aQ->H sA=some (.lst<|(seenOf nums).map V.str)->(D::sA::aQ.map (·.1)).Nodup->aQ≠[]->Ok aY names (aQ.map (·.2)) nums ls->((∀x∈aY,eY x))->((∀x∈names,eY x))->seenOf nums=s0::s1::rest->((∀r∈aQ.map (·.2),RX (wB i) r))->i<=90->(1<=N/\N<yP)->(∀H' dH dX je more,Ok aY names (je.map (·.2)) dH dX->bx H' C p dx nn ll dH dX->Held H' D je->H' sA=some (.lst<|(seenOf dH).map V.str)->seenOf dH=s0::s1::more->(∀r∈je.map (·.2),RX (wB<|i+1) r)->Q (.bl true) H')->VH C vs H Q
def aa6 (C:Addr):Sp:=λvs H Q _=>VH C vs H Q
def ahH (F:bY K "_law_turned" "_law_turned" (top 59) f fd)(B:Bl mg)(KT:eX K)(c:Cl K C)(uz:cW P w K mg base 3 "_law_do" ["_law_hall","_law_deed_here"] (aeD K C))(nU:cW P w K mg base 1 "_law_noted" ["_law_held","_law_seen","_law_deed_here"] (S6 K))
  (j8:cW P w K mg base 8 "_law_fewest" ["_law_hall","_law_held","_law_seen","_law_people_here"] (Fq C)):
  bJ P w K mg base cA 9 f fd ["_law_hall","_law_held","_law_seen","_law_number","_law_people_here"] (aa6 C):=by
 have nd:=Ji.nd;have vt:=Ji.vt;refine bY.ok F Ji (λvs H Q E h=>by let(_,_,_,_,_,_,_,_,_,_,_,_,_,_,_,_,_,rfl,_):=h;rfl) λcX A outer s H vs Q E hr fQ=>?_;refine⟨_,(aK (dO (i:=5) nd rfl lx (lD Og gx B.list cK (ak (bB jG (pV vt 1) (dj oMod (pV vt 3) (eZ YD gx B.len eJ (ak (pV vt 1) aP)))) aP)))
  (aK (dO (i:=6) nd rfl lx (bB jG (xQ (ak (dj an2 aF aF) (ak (dj uf aF (dj oMod (dj oDiv (pV vt 3) aF) aF)) aP))) (dj oMod (dj oDiv (pV vt 3) aF) aF)))
  (aK (dO (i:=7) nd rfl lx (xQ (ak (jM (ak nC (ak (bB jG (pV vt 5) aF) (ak (pV vt 6) aP)))) (ak (jM (ak nC (ak (bB jG (pV vt 5) aF) (ak (pV vt 6) aP)))) (ak (jM (ak nC (ak (bB jG (pV vt 5) aF) aP))) aP)))))
  (aK (nF di rfl (mC (dj afE (pV vt 7) (xQ (ak (jM (ak nC (ak (bB jG (pV vt 5) aF) (ak (bB jG (pV vt 5) aF) (ak (bB jG (pV vt 5) aF) (ak (bB jG (pV vt 5) aF) (ak (bB jG (pV vt 5) aF) aP))))))) aP)))) (dM (i:=8) nd rfl lx)
   (aK (cP (dG uz (hr.mono ⋯) gx (ak (pV vt 0) (ak (pV vt 8) aP))))
   (aK (cP (dG nU (hr.mono ⋯) gx (ak (pV vt 1) (ak (pV vt 2) (ak (pV vt 8) aP)))))
   (bf (fW (Gp (ptV (dG j8 hr gx (ak (pV vt 0) (ak (pV vt 1) (ak (pV vt 2) (ak (pV vt 4) aP))))))) (bf (cU pq)) cT)))))
  (bf (cU pq)))))),?_⟩
 let(p,dx,nn,ll,nums,ls,D,aQ,sA,n,N,s0,s1,rest,aY,names,i0,rfl,hh,hH,hsA,lN,bA,ok,hR,hN,hs,hrx,hi,(hN0,hN1),hq):=fQ;have cZ:ls.length=aQ.length:=by rw[ok.lr.length,af]
 have MN:0<aQ.length:=iN.mpr bA;have m:=fZ n (show(0:Int)<(aQ.length:Int) by lk);obtain⟨j,hj⟩:∃j:Nat,n % (aQ.length:Int)=(j:Int):=⟨(n % (aQ.length:Int)).toNat,by lk⟩;have hjl:j<aQ.length:=by lk
 obtain⟨⟨ra,r⟩,Rk⟩:∃x,aQ[j]? =some x:=⟨_,ag hjl⟩;have hlD:(aQ.map λx=>V.ref x.1).length=aQ.length:=af ..;have ejr:(aQ.map λx=>V.ref x.1)[j]? =some (.ref ra):=by rw[av,Rk];rfl
 have yM:=hH.row _<|ah Rk;have Je:r∈aQ.map (·.2):=bp.mpr ⟨_,ah Rk,rfl⟩;dsimp only[jP];ksr_p;unfold fG rK bR c7;rw[op2];unfold cH;refine aq (v:=.ref D) rfl ?_;rw[op2];refine aq (v:=.int n) rfl<|aq (v:=.ref D) rfl ⟨_,.inl<|aZ.of hH.top,?_⟩;rw[hlD];refine⟨by lk,_,.ref ra,aZ.of hH.top,by rw[hj];exact iC ejr,?_⟩;refine⟨_,.inl<|aZ.of yM,λrz hrz=>?_⟩;have t1:=aH (o:=.lst<|gQ r) hrz;have aqz:upd H rz (.lst<|gQ r) rz=some (.lst<|gQ r):=au;generalize upd H rz (.lst<|gQ r)=H1 at t1 aqz ⊢
 ksr_p;unfold fG cH;rw[op2];unfold Rx bR c7;k_ne;rw[op2];refine⟨⟨by decide,by decide,by decide⟩,?_⟩;try k_ne
 rw[op2];unfold tC;try k_ne
 rw[op2];rw[op2];have cd8:Dd n 8:=⟨by decide,by decide +kernel⟩;have av8:Dd n 72:=⟨by decide,by decide +kernel⟩;refine aq (v:=.int n) rfl ⟨cd8,⟨show(0:Int)<9 by decide,by show 2<=sizeLine;decide,λlz zY=>?_⟩⟩;have e58:(10:Int)^(58:Int).toNat=ig:=by decide +kernel
 try k_ne
 rw[e58];have t2:=aH (o:=.lst [V.int ig,V.int<|1+n/8 % 9]) zY;have aqA:upd H1 lz (.lst [V.int ig,V.int<|1+n/8 % 9]) lz=some (.lst [V.int ig,V.int<|1+n/8 % 9]):=au;generalize upd H1 lz (.lst [V.int ig,V.int<|1+n/8 % 9])=H2 at t2 aqA ⊢;rw[op2];rw[op2];refine aq (v:=.int n) rfl ⟨av8,⟨show(0:Int)<2 by decide,?_⟩⟩;obtain⟨k,ek,hk⟩:∃k,dI [V.int ig,V.int<|1+n/8 % 9] (n/72 % 2)=some (.int k)/\1<=k/\k<=ig:=by
  have m2:=fZ (n/72) (show(0:Int)<2 by decide);rcases(show n/72 % 2=0\/n/72 % 2=1 by lk) with e|e
  .rw[e];exact⟨_,mq _ _,by lk,by lk⟩
  .rw[e];exact⟨_,JK _ _ _,by lk,by lk⟩
 refine⟨_,_,aZ.of aqA,ek,?_⟩;have aeY:=t2 _ _ aqz
 ksr_p;unfold fG cH Rx bR c7 tC vQ;try k_ne
 rw[op2];refine aq (v:=.ref rz) rfl ⟨_,.str r.1,aZ.of aeY,rfl,aq (v:=.int k) rfl ⟨by show 3<=sizeLine;decide,λu0 hu0=>?_⟩⟩;have t3:=aH (o:=.tup [V.str "widen",V.str r.1,V.int k]) hu0;have g0:upd H2 u0 (.tup [V.str "widen",V.str r.1,V.int k]) u0=some (.tup [V.str "widen",V.str r.1,V.int k]):=au;generalize upd H2 u0 (.tup [V.str "widen",V.str r.1,V.int k])=H3 at t3 g0 ⊢;rw[op2];refine aq (v:=.ref rz) rfl ⟨_,.str r.1,aZ.of (t3 _ _ aeY),rfl,aq (v:=.int k) rfl ⟨by show 3<=sizeLine;decide,λu1 Ri=>?_⟩⟩;have t4:=aH (o:=.tup [V.str "narrow",V.str r.1,V.int k]) Ri;have g1:upd H3 u1 (.tup [V.str "narrow",V.str r.1,V.int k]) u1=some (.tup [V.str "narrow",V.str r.1,V.int k]):=au;generalize upd H3 u1 (.tup [V.str "narrow",V.str r.1,V.int k])=H4 at t4 g1 ⊢;rw[op2];refine aq (v:=.ref rz) rfl ⟨_,.str r.1,aZ.of ((t3.trans t4) _ _ aeY),rfl,⟨by show 2<=sizeLine;decide,λu2 hu2=>?_⟩⟩;have t5:=aH (o:=.tup [V.str "shut",V.str r.1]) hu2;have g2:upd H4 u2 (.tup [V.str "shut",V.str r.1]) u2=some (.tup [V.str "shut",V.str r.1]):=au;generalize upd H4 u2 (.tup [V.str "shut",V.str r.1])=H5 at t5 g2 ⊢;refine⟨by show 3<=sizeLine;decide,λdz hdz=>?_⟩;have t6:=aH (o:=.lst [V.ref u0,V.ref u1,V.ref u2]) hdz;have gd:upd H5 dz (.lst [V.ref u0,V.ref u1,V.ref u2]) dz=some (.lst [V.ref u0,V.ref u1,V.ref u2]):=au;generalize upd H5 dz (.lst [V.ref u0,V.ref u1,V.ref u2])=H6 at t6 gd ⊢
 ksr_p;have aa7:=((t3.trans t4).trans<|t5.trans t6) _ _ aeY;rw[nO];unfold uF Rx vQ bR c7 tC;rw[op2];refine aq (v:=.ref dz) rfl ?_;try k_ne
 rw[op2];refine aq (v:=.ref rz) rfl ⟨_,.str r.1,aZ.of aa7,rfl,?_⟩;try k_ne
 rw[op2];refine aq (v:=.ref rz) rfl ⟨_,.str r.2.1,aZ.of aa7,rfl,?_⟩;try k_ne
 rw[op2];refine aq (v:=.ref rz) rfl ⟨_,.str r.2.2.1,aZ.of aa7,rfl,?_⟩;try k_ne
 rw[op2];refine aq (v:=.ref rz) rfl ⟨_,.int r.2.2.2.1,aZ.of aa7,rfl,?_⟩;try k_ne
 rw[op2];refine aq (v:=.ref rz) rfl ⟨_,.int r.2.2.2.2,aZ.of aa7,rfl,⟨by show 6<=sizeLine;decide,λu3 hu3=>?_⟩⟩;have t7:=aH (o:=.tup [V.str "lay",V.str r.1,V.str r.2.1,V.str r.2.2.1,V.int r.2.2.2.1,V.int r.2.2.2.2]) hu3;have g3:upd H6 u3 (.tup [V.str "lay",V.str r.1,V.str r.2.1,V.str r.2.2.1,V.int r.2.2.2.1,V.int r.2.2.2.2]) u3=some (.tup [V.str "lay",V.str r.1,V.str r.2.1,V.str r.2.2.1,V.int r.2.2.2.1,V.int r.2.2.2.2]):=au;generalize upd H6 u3 (.tup [V.str "lay",V.str r.1,V.str r.2.1,V.str r.2.2.1,V.int r.2.2.2.1,V.int r.2.2.2.2])=H7 at t7 g3 ⊢;refine⟨by show 1<=sizeLine;decide,λez hez=>?_⟩;have t8:=aH (o:=.lst [V.ref u3]) hez;have ge:upd H7 ez (.lst [V.ref u3]) ez=some (.lst [V.ref u3]):=au;generalize upd H7 ez (.lst [V.ref u3])=H8 at t8 ge ⊢;refine⟨dz,ez,_,_,rfl,rfl,(t7.trans t8) _ _ gd,ge,by show 4<=sizeLine;decide,λzz hzz=>⟨zz,rfl,⟨_,aZ.of au⟩,?_⟩⟩;have t9:=aH (o:=.lst<|[V.ref u0,V.ref u1,V.ref u2]++[V.ref u3]) hzz;have gz:upd H8 zz (.lst<|[V.ref u0,V.ref u1,V.ref u2]++[V.ref u3]) zz=some (.lst<|[u0,u1,u2,u3].map V.ref):=au;generalize upd H8 zz (.lst<|[V.ref u0,V.ref u1,V.ref u2]++[V.ref u3])=H9 at t9 gz ⊢;have T8:Same H H8:=t1.trans<|t2.trans<|t3.trans<|t4.trans<|t5.trans<|t6.trans<|t7.trans t8;have T9:Same H H9:=T8.trans t9;have hzb:zz∉D::sA::aQ.map (·.1):=λz=>by
  have dw:∀{b:Addr}{o:HO},H b=some o->zz≠b:=λ{b o} e=>(bF (T8 _ _ e) hzz).symm;rcases aI.mp z with g|g
  .exact dw hH.top g
  .rcases aI.mp g with g|g
   .exact dw hsA g
   .let(x,hx,ex):=bp.mp g;exact dw (hH.row x hx) ex.symm
 have hU:∀(m:Nat) u d,[u0,u1,u2,u3][m]? =some u->(CK r k)[m]? =some d->H9 u=some (.tup d.vals):=λm u d h1 h2=>by
  match m,h1,h2 with
  |0,h1,h2=>cases h1;cases h2;exact(t4.trans<|t5.trans<|t6.trans<|t7.trans<|t8.trans t9) _ _ g0
  |1,h1,h2=>cases h1;cases h2;exact(t5.trans<|t6.trans<|t7.trans<|t8.trans t9) _ _ g1
  |2,h1,h2=>cases h1;cases h2;exact(t6.trans<|t7.trans<|t8.trans t9) _ _ g2
  |3,h1,h2=>cases h1;cases h2;exact(t8.trans t9) _ _ g3
 refine forL (xs:=[u0,u1,u2,u3].map V.ref) (λi aX H'=>(∃y8,aX=[some (.ref p),some (.ref D),some (.ref sA),some (.int n),some (.int N),some (.ref rz),some (.int k),some (.ref dz),y8])/\∃dH dX je more,Ok aY names (je.map (·.2)) dH dX/\je.map (·.2)=J8 (aQ.map (·.2)) r k i/\bx H' C p dx nn ll dH dX/\Held H' D je/\H' sA=some (.lst ((seenOf dH).map V.str))/\(D::sA::je.map (·.1)).Nodup/\seenOf dH=s0::s1::more/\SL K (D::sA::je.map (·.1)) H' zz ([u0,u1,u2,u3].map V.ref)/\
   ∀(m:Nat) u d,[u0,u1,u2,u3][m]? =some u->(CK r k)[m]? =some d->H' u=some (.tup d.vals))
  ⟨⟨_,rfl⟩,nums,ls,aQ,rest,ok,rfl,hh.grow T9,hH.grow T9,T9 _ _ hsA,lN,hs,.inl ⟨_,gz,λ_ z=>(by cases z),hzb,λ_ e=>aZ.of e⟩,hU⟩ (λi aX H' _ h=>?_) ?_ ?_
 .let(_,_,_,_,_,_,_,_,_,_,_,_,h,_):=h;exact h.sq
 .rintro i v aX Ha hv ⟨⟨y8,rfl⟩,aeZ,ls1,Tz,ae0,ok1,er1,w6,zZ,aa8,aeG,Ii,Ra,Ri⟩;rw[av] at hv;let(tg,htg,rfl):=cc.mp hv;obtain⟨d,hd⟩:∃d,(CK r k)[i]? =some d:=⟨_,ag<|show i<(CK r k).length from(ab.mp htg).1⟩;have dok:=am0 ok Je hrx hi hk hd;have av9:=ac3 Je hrx hk<|i+1;have arW:=aqx (rows:=aQ.map (·.2)) hd;rw[<-er1] at dok;have Cv:=Ri i tg d htg hd;have ay8:=ok1.len;have zO:ls1.length=Tz.length:=by rw[ok1.lr.length,af]
  let(uU,Rn,Jh,Ro,run):=step (C:=C) (H:=Ha) ok1 hR hN dok w6;show mV _ _ _ [some<|.ref p,some<|.ref D,some<|.ref sA,some<|.int n,some<|.int N,some<|.ref rz,some<|.int k,some<|.ref dz,some<|.ref tg] Ha;ksr_p;unfold gk iM;refine aq (v:=.ref p) rfl<|aq (v:=.ref tg) rfl ⟨p,dx,nn,ll,tg,d,rfl,w6.ins,bV.of Cv,run _ _ λHc ae1 stay=>?_⟩;have Fv:=zZ.stay w6 stay;have Jk:=lW w6 stay aa8;let(azq,hk1,_):=w6.laid;have tups:∀{b:Addr}{xs:List V},Ha b=some (.tup xs)->Hc b=some (.tup xs):=λ{b xs} e=>stay _ _ (λz=>by rw[z,w6.num] at e;cases e) (λz=>by rw[z,hk1] at e;cases e) e;have hzc:=Ra.stay w6 stay
  ksr_p;unfold gk iM;refine aq (v:=.ref D) rfl<|aq (v:=.ref sA) rfl<|aq (v:=.ref tg) rfl ⟨D,sA,tg,Tz,seenOf aeZ,d,rfl,Fv,Jk,aeG,bV.of (tups Cv),by lk,by unfold seenOf;rw[af];lk,λnm a b w l e=>?_,λHd v9 Fx Rp yR Aw frame uc=>?_⟩
  .subst e;exact aaM hR hN dok
  have XH:∀b o,(∀ys,o≠ .lst ys)->Hc b=some o->b∉D::sA::Tz.map (·.1):=λb o ho e z=>by
   rcases aI.mp z with g|g
   .rw[g,Fv.top] at e;cases e;exact ho _ rfl
   .rcases aI.mp g with g|g
    .rw[g,Jk] at e;cases e;exact ho _ rfl
    .let(x,hx,ex):=bp.mp g;rw[<-ex,Fv.row x hx] at e;cases e;exact ho _ rfl
  have tG:bx Hd C p dx nn ll uU Rn:=ae1.off λb o ho e=>frame b o (XH b o ho e) e;have out:∀x∈D::sA::v9.map (·.1),x∈D::sA::Tz.map (·.1)\/Hc x=none:=λx z=>by
   rcases aI.mp z with g|g
   .exact .inl (by rw[g];exact ae ..)
   .rcases aI.mp g with g|g
    .exact .inl (by rw[g];exact aa _<|ae ..)
    .rcases uc x g with g|g
     .exact .inl<|aa _<|aa _ g
     .exact .inr g
  rw[<-Ro] at yR;have Rm:Ok aY names (v9.map (·.2)) uU Rn:=by rw[Rp];exact Jh
  have er2:v9.map (·.2)=J8 (aQ.map (·.2)) r k (i+1):=by rw[Rp,er1,arW]
  obtain⟨m2,em2⟩:∃m2,seenOf uU=s0::s1::m2:=by rw[Ro,Ii];exact VF d s0 s1 ae0
  (subst hu;try k_ne)
  unfold jj Rv oH iM;refine aq (v:=.ref p) rfl (aq (v:=.ref D) rfl (aq (v:=.ref sA) rfl (aq (v:=.int N) rfl (Jj (E:=E) (i:=i0+1) Rm tG Fx yR (by rw[er2];exact av9) ∅ em2 hR hN0 hN1 λHe se=>?_))));show(if(!true)=true then _ else _);rw[ap<|by simp];exact⟨⟨_,rfl⟩,uU,Rn,v9,m2,Rm,er2,tG.grow se,Fx.grow se,se _ _ yR,Aw,em2,(hzc.frame frame out).grow se,λm u d h1 h2=>se _ _<|frame _ _ (XH _ _ (by intro ys z;cases z) (tups<|Ri m u d h1 h2)) (tups<|Ri m u d h1 h2)⟩
 rintro aX Hz ⟨⟨y8,rfl⟩,aeZ,ls1,Tz,ae0,ok1,er1,w6,zZ,aa8,aeG,Ii,Ra,Ri⟩;have awa:=ac3 Je hrx hk 4;subst hu;exact hq Hz aeZ ls1 Tz ae0 ok1 w6 zZ aa8 Ii (by rw[er1];exact awa)
end
section
variable {ns:List Int}
def am1:(bH qp<|aC (vF 0) a0) [some (.fr,.list<|ns.map .int),x1,x2,x3,x4,x5,x6,x7,x8,x9,x10]=some (.tuple [bU<|uy ns,bU<|Af ns]):=by have e:=aqv ns;z_go;rw[e];rfl
def arX:∃N,(bH nJ<|aC (bH cV<|aC (vF 0)<|aC (vC<|.int 14) a0) a0) [some (.fr,.list<|ns.map .int),x1,x2,x3,x4,x5,x6,x7,x8,x9,x10]=some (.int N)/\1<=N/\N<yP:=by let(T,e,h):=aj8<|fD ns 14;refine(T,?_,h);z_go;rw[IV<|by decide];z_go;rw[e];rfl
def arY:∃T,(bH oY<|aC (bH cV<|aC (vF 0)<|aC (vC<|.int 15) a0) a0) [some (.fr,.list<|ns.map .int),x1,x2,x3,x4,x5,x6,x7,x8,x9,x10]=some (.int T)/\0<=T/\T<yP:=by let(T,e,h):=amY<|fD ns 15;refine(T,?_,h);z_go;rw[IV<|by decide];z_go;rw[e];rfl
def arZ:(bH cV<|aC (vF 0)<|aC (vC<|.int 16) a0) [some (.fr,.list<|ns.map .int),x1,x2,x3,x4,x5,x6,x7,x8,x9,x10]=some (.int<|fD ns 16):=by z_go;rw[IV<|by decide];rfl
def aqC:(bH bQ<|aC (vF 9)<|aC (vC<|.int 3) a0) [x0,x1,x2,x3,x4,x5,x6,x7,x8,some (.fr,.int c),x10]=some (.int<|gR c 3):=by z_go;rw[wY ⋯<|by decide];rfl
def awb:(bH bQ<|aC (vF 9)<|aC (vC<|.int 5) a0) [x0,x1,x2,x3,x4,x5,x6,x7,x8,some (.fr,.int c),x10]=some (.int<|gR c 5):=by z_go;rw[wY ⋯<|by decide];rfl
def aj9 (h:nR [.int c,cQ rows,bU rs,bU nms]=some (false,d)):
  (bH nR<|aC (vF 9)<|aC (vF 4)<|aC (vF 1)<|aC (vF 2) a0) [x0,some (.fr,bU rs),some (.fr,bU nms),x3,some (.fr,cQ rows),x5,x6,x7,x8,some (.fr,.int c),x10]=some d:=by
 z_go;rw[h];rfl
def awc:(vB<|v2 gU (v2 fH (vN 8)<|vC<|.int 4)<|vC<|.int 3) [x0,x1,x2,x3,x4,x5,x6,x7,some (.fr,.int i),x9,x10]=some (decide<|i % 4=3):=by rfl
def ar0:(vB<|v2 gU (vN 4)<|fK a0) [x0,x1,x2,x3,some (.fr,cQ rows),x5,x6,x7,x8,x9,x10]=some (decide<|rows=[]):=by have e:=eq_nil rows;unfold cQ;z_go;rw[e];z_go
def ar3:(vB<|v2 jO (vN 4)<|fK a0) [x0,x1,x2,x3,some (.fr,cQ rows),x5,x6,x7,x8,x9,x10]=some (!decide (rows=[])):=by
 have hd:(PyData.list<|rows.map bD).depth<=60:=by have:=o8 (rows.map bD) 10 (λd hd=>by let(x,_,rfl):=bp.mp hd;simp[bD,PyData.depth,depthAll]);simp only[PyData.depth];lk
 have e:jO (.list<|rows.map bD) (.list [])=some (.bool<|!decide (rows=[])):=by unfold jO;rw[ar hd];cases rows<;>rfl
 unfold cQ;z_go;lk
end
section
variable {K:Frag}
def VJ (ok:Ok rs nms (aQ.map (·.2)) nums ls)(hall:bx H C p dx nn ll nums ls)(held:Held H D aQ)(bA:aQ≠[])
  (hx:∀r∈aQ.map (·.2),RX (wB i) r)(hi:i<=100)(hm:seenOf nums=r0::r1::more)(Ag:∀x∈rs,eY x)(Rq:∀x∈nms,eY x)(h0:0<=T)(h1:T<yP)(q:∀H' dH dX,Ok rs nms (aQ.map (·.2)) dH dX->seenOf dH=seenOf nums->bx H' C p dx nn ll dH dX->fB nn ll H H'->Q (.bl true) H'):Nx C [.ref p,.ref D,.int n,.int T] H Q E:=by
 have hB:wB i<=100*ig:=ie ∅ ⋯;exact⟨p,dx,nn,ll,nums,ls,D,aQ,n,T,r0,r1,more,100*ig,rs,nms,rfl,hall,held,bA,ok,Ag,Rq,hm,λr hr=>⟨⟨(hx r hr).1,fv (hx r hr).2.1 hB,(hx r hr).2.2.1⟩,ok.aa5 hr⟩,by decide,⟨h0,pi h1<|by decide⟩,q⟩
structure Stand (K:Frag)(C:Addr)(ns:List Int)(sc:Addr)(rs nms:List Str)(r0 r1:Str)(cells:List Int)(ra na p dx nn ll D sA cz:Addr)(i:Nat)(H:Hp):Prop where
 ex:∃nums ls aQ more,Ok rs nms (aQ.map (·.2)) nums ls/\bx H C p dx nn ll nums ls/\Held H D aQ/\H sA=some (.lst<|(seenOf nums).map V.str)/\(D::sA::aQ.map (·.1)).Nodup/\(∀r∈aQ.map (·.2),RX (wB i) r)/\seenOf nums=r0::r1::more/\
  SL K (D::sA::aQ.map (·.1)) H ra (rs.map V.str)/\SL K (D::sA::aQ.map (·.1)) H na (nms.map V.str)/\SL K (D::sA::aQ.map (·.1)) H cz (cells.map V.int)/\SL K (D::sA::aQ.map (·.1)) H sc (ns.map V.int)
theorem Stand.grow {ns:List Int}(h:Stand K C ns sc rs nms r0 r1 cells ra na p dx nn ll D sA cz i H)(k:Same H H'):Stand K C ns sc rs nms r0 r1 cells ra na p dx nn ll D sA cz i H':=by let(nums,ls,aQ,more,a1,a2,a3,a4,a5,a6,a7,a8,a9,a10,a11):=h;exact(nums,ls,aQ,more,a1,a2.grow k,a3.grow k,k _ _ a4,a5,a6,a7,a8.grow k,a9.grow k,a10.grow k,a11.grow k)
theorem Stand.cz {ns:List Int}{ra na p dx nn ll D sA cz:Addr}(h:Stand K C ns sc rs nms r0 r1 cells ra na p dx nn ll D sA cz i H):aZ K H cz (cells.map V.int):=by let(nums,ls,aQ,more,a1,a2,a3,a4,a5,a6,a7,a8,a9,a10,a11):=h;exact a10.sq
def akb (ns:List Int)(lo hi:Option Int):∃cs:List Int,lQ (ns.map V.int) lo hi=cs.map V.int/\cs.length<=ns.length:=by
 refine((ns.drop<|HT.cI ns.length 0 lo).take<|HT.cI ns.length ns.length hi - HT.cI ns.length 0 lo,?_,?_)
 .unfold lQ;rw[af,←map_drop,←nc]
 .rw[dt,hV];lk
end
section
variable {K:Frag}
def abb:cB ["_law_script","_law_rooms","_law_names","_law_hall","_law_held","_law_seen","_law_people_here","_law_turns_here","_law_k","_law_cell","_law_deed_here"] ["_law_script"] (aN<|top 60):=fs
def aqE (F:bY K "law" "law" (top 60) f fd)(B:Bl mg)(KT:eX K)(c:Cl K C)(M:Mk K C fi)(Fi:bJ P w K mg base cA 2 fi fdi ["self","start","goal"] (Q6 C))(bi:Binds K fdi ["self","start","goal"] [])(hC:mg "NamedHall"=some (.ref C))
  (Fy:cW P w K mg base 3 "_law_sets" ["_law_script"] (bO K qp))(Ba:cW P w K mg base 2 "_law_turns" ["_law_cell"] (bO K oY))(yS:cW P w K mg base 2 "_law_people" ["_law_cell"] (bO K nJ))(jL:cW P w K mg base 1 "_law_cell_at" ["_law_script","_law_k"] (bO K cV))(cO:cW P w K mg base 1 "_law_mixed" ["_law_cell","_law_k"] (bO K bQ))
  (Fz:cW P w K mg base 3 "_law_deed" ["_law_cell","_law_held","_law_rooms","_law_names"] (bO K nR))(uz:cW P w K mg base 3 "_law_do" ["_law_hall","_law_deed_here"] (aeD K C))(nU:cW P w K mg base 1 "_law_noted" ["_law_held","_law_seen","_law_deed_here"] (S6 K))
  (j8:cW P w K mg base 8 "_law_fewest" ["_law_hall","_law_held","_law_seen","_law_people_here"] (Fq C))(uV:cW P w K mg base 8 "_law_worth" ["_law_hall","_law_held","_law_number","_law_turns_here"] (Nx C))(yU:cW P w K mg base 9 "_law_turned" ["_law_hall","_law_held","_law_seen","_law_number","_law_people_here"] (aa6 C)):bJ P w K mg base cA 10 f fd ["_law_script"] (ad2 K):=by
 have nd:=abb.nd;have vt:=abb.vt;refine bY.ok F abb (λvs H Q E h=>by let(_,_,rfl,_):=h;rfl) λcX A outer s H vs Q E hr fQ=>?_;refine⟨_,(aK (nD (oM (dG Fy (hr.mono ⋯) gx (iU (dF (pV vt 0)) oK))) (Dh rfl (jl (dM (i:=1) nd rfl lx) (jl (dM (i:=2) nd rfl lx) yd))))
  (aK (dO (i:=3) nd rfl lx (abC M Fi (hr.mono ⋯) gx hC bi .nil dB (ak (bB jG (pV vt 1) aF) (ak (bB jG (pV vt 1) aF) aP))))
  (aK (dO (i:=4) nd rfl lx (xQ aP))
  (aK (dO (i:=5) nd rfl lx (oG Jq (pV vt 1) Bj (pB aF)))
  (aK (nD (oM (dG yS (hr.mono ⋯) gx (iU (oM (dG jL (hr.mono ⋯) gx (iU (dF (pV vt 0)) (iU jd oK)))) oK))) (dM (i:=6) nd rfl lx))
  (aK (nD (oM (dG Ba (hr.mono ⋯) gx (iU (oM (dG jL (hr.mono ⋯) gx (iU (dF (pV vt 0)) (iU jd oK)))) oK))) (dM (i:=7) nd rfl lx))
  (aK (nF di rfl (RG gx B.enumerate (ak (oG Jq (pV vt 0) (pB aF) (pB aF)) aP)) (Dh rfl (jl (dM (i:=8) nd rfl lx) (jl (dM (i:=9) nd rfl lx) yd)))
   (aK (nD (oM (dG Fz (hr.mono ⋯) gx (iU (dF (pV vt 9)) (iU (dF (pV vt 4)) (iU (dF (pV vt 1)) (iU (dF (pV vt 2)) oK)))))) (dM (i:=10) nd rfl lx))
   (aK (cP (dG uz (hr.mono ⋯) gx (ak (pV vt 3) (ak (pV vt 10) aP))))
   (aK (cP (dG nU (hr.mono ⋯) gx (ak (pV vt 4) (ak (pV vt 5) (ak (pV vt 10) aP)))))
   (bf (fW (PW.pt (Bf (mD (Bp hr.units) hEq (sw (FZ oMod hMod (mw (dN (pV vt 8))) (sw jd))) (sw jd)) (Bf (mD (Bq hr.units) hNe (mw (dN (pV vt 4))) (nw (YS oK))) (Bc (Gp (ptV (dG uV (hr.mono ⋯) gx (ak (pV vt 3) (ak (pV vt 4) (ak (oM (dG cO (hr.mono ⋯) gx (iU (dF (pV vt 9)) (iU jd oK)))) (ak (pV vt 7) aP)))))))))))  (bf (cU pq)) cT))))))
  (aK (fW (Gp (ptV (dG j8 (hr.mono ⋯) gx (ak (pV vt 3) (ak (pV vt 4) (ak (pV vt 5) (ak (pV vt 6) aP))))))) (bf (cU pq)) cT)
  (aK (nD (oM (dG jL (hr.mono ⋯) gx (iU (dF (pV vt 0)) (iU jd oK)))) (dM (i:=9) nd rfl lx))
  (aK (fW (mD (Bp hr.units) hEq (mw (dN (pV vt 4))) (nw (YS oK))) (bf (cU pq)) cT)
  (aK (fW (Gp (ptV (dG uV (hr.mono ⋯) gx (ak (pV vt 3) (ak (pV vt 4) (ak (oM (dG cO (hr.mono ⋯) gx (iU (dF (pV vt 9)) (iU jd oK)))) (ak (pV vt 7) aP))))))) (bf (cU pq)) cT)
  (bf (cU (afe (dG yU hr gx (ak (pV vt 3) (ak (pV vt 4) (ak (pV vt 5) (ak (oM (dG cO (hr.mono ⋯) gx (iU (dF (pV vt 9)) (iU jd oK)))) (ak (pV vt 6) aP)))))) (X5 (dG j8 (hr.mono ⋯) gx (ak (pV vt 3) (ak (pV vt 4) (ak (pV vt 5) (ak aF aP)))))))))))))))))))),?_⟩
 let(sc,ns,rfl,u6,Ud,hq):=fQ;let(r0,r1,rest,ers,hrest,hrn,Ag):=ahb ns;let(hn8,Q9,Rq):=aqu ns;have akc:∀{H':Hp},Same H H'->Has K H' (.list<|ns.map .int) (.ref sc):=λk=>⟨sc,_,rfl,k.seq u6,aR.ints.mpr rfl⟩;have awd:=SL.mk0 u6;dsimp only[jP];ksr_p;unfold fG cH;refine Aa (S:=[some (.fr,.list<|ns.map .int),none,none,none,none,none,none,none,none,none,none]) ⟨_,_,rfl,rfl,akc<|Same.refl _,_,_,rfl,_,_,rfl,_,_,rfl,_,_,rfl,_,_,rfl,_,_,rfl,_,_,rfl,_,_,rfl,_,_,rfl,_,_,rfl,rfl⟩ am1 λv H1 s1 hv=>?_;rw[ers] at hv;generalize hnm:Af ns=nms at hv hn8 Q9 Rq;let(t0,xs0,rfl,Jc,z1,q1,rfl,g1,z2,q2,rfl,g2,g3):=hv;have e3:=g3;subst e3;let(ra,xs1,rfl,rC,hx1):=g1;let(na,xs2,rfl,hna,Um):=g2;rw[xJ hx1] at rC;rw[xJ Um] at hna;refine⟨_,Jc,rfl,?_⟩;simp only[qe,Ju,kA,kB];have awe:=SL.mk0 rC;have awf:=SL.mk0 hna;have vp:r0≠r1:=λz=>(bg.mp hrn).1 (by rw[z];exact ae ..);have k0:=Ag r0<|ae ..;have k1:=Ag r1<|aa _<|ae ..;have at0:dI ((r0::r1::rest).map V.str) 0=some (.str r0):=iC rfl;have at1:dI ((r0::r1::rest).map V.str) 1=some (.str r1):=iC rfl
 ksr_p;refine ac1 (λZ z=>?_) k0 k1 vp λp dx nn ll H2 ar4 s2 _ _=>?_
 .exact ahG rfl rC (λZ z=>z) at0<|ahG rfl rC (λZ z=>z) at1<|z _<|Same.refl _
 have awg:=awe.grow s2;have awh:=awf.grow s2
 ksr_p;refine⟨dE _,λD hD=>?_⟩;have s3:=aH (o:=.lst []) hD;have akd:=(awg.new hD).grow s3;have aqF:=(awh.new hD).grow s3;have aqG:=((awd.grow<|s1.trans s2).new hD).grow s3;have hD3:upd H2 D (.lst []) D=some (.lst []):=au;generalize upd H2 D (.lst [])=H3 at s3 hD3 akd aqF aqG ⊢
 ksr_p;unfold fG cH;refine aq rfl ⟨2,rfl,ra,_,rfl,akd.sq,λsA hsA=>?_⟩;rw[avH];have s4:=aH (o:=.lst ([r0,r1].map V.str)) hsA;have sw:∀{yQ:List Addr}{t:Addr} {xs:List V},SL K (D::yQ) H3 t xs->SL K (D::sA::yQ) H3 t xs:=λ{yQ t xs} h=>SL.frame (h.new hsA) (λ_ _ _ e=>e) λx hx=>.inl (by
  rcases aI.mp hx with g|g
  .rw[g];exact aa _<|ae ..
  .rcases aI.mp g with g|g
   .rw[g];exact ae ..
   .exact aa _ (aa _ g))
 have aqH:=(sw akd).grow s4;have aqI:=(sw aqF).grow s4;have aqJ:=(sw aqG).grow s4;have hs4:upd H3 sA (.lst<|[r0,r1].map V.str) sA=some (.lst<|[r0,r1].map V.str):=au;generalize upd H3 sA (.lst<|[r0,r1].map V.str)=H4 at s4 hs4 aqH aqI aqJ ⊢;have Q7:=bF hD3 hsA;have uT:=(ar4.grow s3).grow s4;have hD4:=s4 _ _ hD3;have awi:∀x∈r0::r1::rest,(PyData.str x).canLay0=true:=λx hx=>(Ag x hx).2;have awj:∀x∈nms,(PyData.str x).canLay0=true:=λx hx=>(Rq x hx).2;have ok0:Ok (r0::r1::rest) nms (([]:List PR).map (·.2)) [(r0,0),(r1,1)] []:=by
  refine⟨⟨by simp,by simp only[ay];lk,hrn,hn8,.nil,λ_ h=>by(cases h),λ_ h=>by(cases h)⟩,λi x e=>?_,?_,?_,.nil⟩
  .match i,e with
   |0,e=>cases e;rfl
   |1,e=>cases e;rfl
  .show [r0,r1].Nodup;simp[vp]
  .intro x hx;have xY:=hx;rcases aI.mp xY with g|g
   .rw[g];exact ae ..
   .rw[aE.mp g];exact aa _<|ae ..
 have ae2:Held H4 D []:=⟨hD4,λ_ h=>by(cases h),λ_ h=>by(cases h)⟩;let(N,eN,hN0,hN1):=arX;let(T,eT,Ij,hT1):=arY;have s14:=s1.trans<|s2.trans<|s3.trans s4
 ksr_p;unfold fG cH;refine Aa (S:=[some (.fr,.list<|ns.map .int),none,none,none,none,none,none,none,none,none,none]) ⟨_,_,rfl,rfl,akc s14,_,_,rfl,_,_,rfl,_,_,rfl,_,_,rfl,_,_,rfl,_,_,rfl,_,_,rfl,_,_,rfl,_,_,rfl,_,_,rfl,rfl⟩ eN λv H5 s5 hv=>?_;have jF:=hv;subst jF
 ksr_p;unfold fG cH;refine Aa (S:=[some (.fr,.list<|ns.map .int),none,none,none,none,none,none,none,none,none,none]) ⟨_,_,rfl,rfl,akc<|s14.trans s5,_,_,rfl,_,_,rfl,_,_,rfl,_,_,rfl,_,_,rfl,_,_,rfl,_,_,rfl,_,_,rfl,_,_,rfl,_,_,rfl,rfl⟩ eT λv H6 s6 hv=>?_;have jF:=hv;subst jF;have s46:=s5.trans s6;have s16:=s14.trans s46;have awk:=aqJ.grow s46
 ksr_p;rw[nO];unfold Wg bR c7;refine aq rfl ⟨2,rfl,14,rfl,sc,_,rfl,s16.seq u6,λcz hcz=>⟨cz,rfl,⟨_,aZ.of au⟩,?_⟩⟩;let(cs,ecs,hcl):=akb ns (some 2)<|some 14;rw[ecs];have hD6:=s46 _ _ hD4;have hs6:=s46 _ _ hs4;have s7:=aH (o:=.lst<|cs.map V.int) hcz;have aqL:upd H6 cz (.lst<|cs.map V.int) cz=some (.lst<|cs.map V.int):=au;generalize upd H6 cz (.lst<|cs.map V.int)=H7 at s7 aqL ⊢;have s47:=s46.trans s7;have st7:Stand K C ns sc (r0::r1::rest) nms r0 r1 cs ra na p dx nn ll D sA cz 0 H7:=by
  refine⟨[(r0,0),(r1,1)],[],[],[],ok0,uT.grow s47,ae2.grow s47,s47 _ _ hs4,?_,λ_ h=>by(cases h),rfl,aqH.grow s47,aqI.grow s47,.inl ⟨_,aqL,λ_ z=>(by cases z),λz=>?_,λ_ e=>aZ.of e⟩,awk.grow s7⟩
  .simp[Q7]
  .rcases aI.mp z with g|g
   .exact(bF hD6 hcz).symm g
   .rcases aI.mp g with g|g
    .exact(bF hs6 hcz).symm g
    .cases g
 refine aob (xs:=cs.map V.int) (λi aX H'=>(∃y8 y9 Rc,aX=[some<|.ref sc,some<|.ref ra,some<|.ref na,some<|.ref p,some<|.ref D,some<|.ref sA,some<|.int N,some<|.int T,y8,y9,Rc])/\Stand K C ns sc (r0::r1::rest) nms r0 r1 cs ra na p dx nn ll D sA cz i H')
  ⟨⟨_,_,_,rfl⟩,st7⟩ (λi aX H' _ h=>h.2.cz) ?_ ?_
 .rintro i v aX H0 pe hv ⟨⟨y8,y9,Rc,rfl⟩,st⟩ hpe;have azr:i<63:=by have:=(ab.mp hv).1;rw[af] at this;lk
  rw[av] at hv;let(cell,_,rfl):=cc.mp hv;have st:=st.grow<|aH (o:=.tup [.int (i:Int),.int cell]) hpe;refine⟨_,bV.of au,rfl,?_⟩;generalize upd H0 pe (.tup [.int (i:Int),.int cell])=Ha at st ⊢;simp only[qe,Ju,kA,kB];let(nums,ls,aQ,more,ok,hall,held,qG,lN,hx,Rr,aaH,ake,aqM,akf):=st;let(d,ed,dok):=apJ (c:=cell) ok.dr Q9;have cZ:=ok.dr.len;rw[af] at cZ;ksr_p;unfold fG cH;refine Aa (S:=[none,some (.fr,bU (r0::r1::rest)),some (.fr,bU nms),none,some (.fr,cQ<|aQ.map (·.2)),none,none,none,none,some (.fr,.int cell),none])
   ⟨_,_,rfl,_,_,rfl,rfl,ac2 aaH.sq awi,_,_,rfl,rfl,ac2 ake.sq awj,_,_,rfl,_,_,rfl,rfl,held.has,_,_,rfl,_,_,rfl,_,_,rfl,_,_,rfl,_,_,rfl,rfl,rfl,_,_,rfl,rfl⟩ (aj9 ed) λv Hb sb hv=>?_
  let(tg,rfl,htg):=ajE hv;have pW:=hall.grow sb;have XJ:=held.grow sb;let(uU,Rn,Jh,Ro,run):=step (C:=C) (H:=Hb) ok Ag Rq dok pW
  ksr_p;unfold gk iM;refine aq (v:=.ref p) rfl<|aq (v:=.ref tg) rfl ⟨p,dx,nn,ll,tg,d,rfl,pW.ins,htg,run _ _ λHc ae1 stay=>?_⟩;have Fv:Held Hc D aQ:=XJ.stay pW stay;have Jk:=lW pW stay<|sb _ _ qG;have htc:bV K Hc tg d.vals:=ajD pW stay htg;have aqN:=(aaH.grow sb).stay pW stay;have aqO:=(ake.grow sb).stay pW stay;have aqP:=(akf.grow sb).stay pW stay;have aqQ:=(aqM.grow sb).stay pW stay;have Vz:(seenOf nums).length<=5:=by have:=Fe ok.nd ok.sub;have:=ok.dr.r5;lk
  ksr_p;unfold gk iM;refine aq (v:=.ref D) rfl<|aq (v:=.ref sA) rfl<|aq (v:=.ref tg) rfl ⟨D,sA,tg,aQ,seenOf nums,d,rfl,Fv,Jk,lN,htc,by lk,by lk,λnm a b w l e=>?_,λHd v9 Fx Rp yR Aw frame uc=>?_⟩
  .subst e;exact aaM Ag Rq dok
  have XH:∀b o,(∀ys,o≠ .lst ys)->Hc b=some o->b∉D::sA::aQ.map (·.1):=λb o ho e z=>by
   rcases aI.mp z with g|g
   .rw[g,Fv.top] at e;cases e;exact ho _ rfl
   .rcases aI.mp g with g|g
    .rw[g,Jk] at e;cases e;exact ho _ rfl
    .let(x,hx,ex):=bp.mp g;rw[<-ex,Fv.row x hx] at e;cases e;exact ho _ rfl
  have tG:bx Hd C p dx nn ll uU Rn:=ae1.off λb o ho e=>frame b o (XH b o ho e) e;have out:∀x∈D::sA::v9.map (·.1),x∈D::sA::aQ.map (·.1)\/Hc x=none:=λx z=>by
   rcases aI.mp z with g|g
   .exact .inl (by rw[g];exact ae ..)
   .rcases aI.mp g with g|g
    .exact .inl (by rw[g];exact aa _<|ae ..)
    .rcases uc x g with g|g
     .exact .inl<|aa _<|aa _ g
     .exact .inr g
  rw[<-Ro] at yR;have Rm:Ok (r0::r1::rest) nms (v9.map (·.2)) uU Rn:=by rw[Rp];exact Jh
  have La:∀r∈v9.map (·.2),RX (wB<|i+1) r:=by rw[Rp];exact amZ dok hx
  obtain⟨m2,em2⟩:∃m2,seenOf uU=r0::r1::m2:=by rw[Ro,Rr];exact VF d r0 r1 more
  have std:Stand K C ns sc (r0::r1::rest) nms r0 r1 cs ra na p dx nn ll D sA cz (i+1) Hd:=⟨uU,Rn,v9,m2,Rm,tG,Fx,yR,Aw,La,em2,aqN.frame frame out,aqO.frame frame out,aqQ.frame frame out,aqP.frame frame out⟩
  (subst hu;try k_ne)
  unfold jj ada iH;refine VM.sZ (S:=[none,none,none,none,none,none,none,none,some (.fr,.int (i:Int)),none,none]) ⟨_,_,rfl,_,_,rfl,_,_,rfl,_,_,rfl,_,_,rfl,_,_,rfl,_,_,rfl,_,_,rfl,_,_,rfl,rfl,rfl,_,_,rfl,_,_,rfl,rfl⟩ awc λHe se=>?_;have rad:=aqN.frame frame out;have nad:=aqO.frame frame out;have czd:=aqQ.frame frame out;have scd:=aqP.frame frame out;by_cases ck:(i:Int) % 4=3
  .rw[ar<|by simpa using ck];refine VM.sZ (S:=[none,none,none,none,some (.fr,cQ (v9.map λx:PR=>x.2)),none,none,none,none,none,none]) ⟨_,_,rfl,_,_,rfl,_,_,rfl,_,_,rfl,_,_,rfl,rfl,(Fx.grow se).has,_,_,rfl,_,_,rfl,_,_,rfl,_,_,rfl,_,_,rfl,_,_,rfl,rfl⟩ ar3 λHf sf=>?_;have sdf:=se.trans sf;by_cases cn:v9.map (λx:PR=>x.2)=[]
   .rw[ap<|by simp[cn]];try k_ne
    rw[ap<|by simp];exact⟨⟨_,_,_,rfl⟩,std.grow sdf⟩
   .rw[ar<|by simpa using cn];unfold Rv oH iM;refine aq (v:=.ref p) rfl<|aq (v:=.ref D) rfl<|Aa (S:=[none,none,none,none,none,none,none,none,none,some (.fr,.int cell),none]) ⟨_,_,rfl,_,_,rfl,_,_,rfl,_,_,rfl,_,_,rfl,_,_,rfl,_,_,rfl,_,_,rfl,_,_,rfl,_,_,rfl,rfl,rfl,_,_,rfl,rfl⟩ aqC λv Hg sg hv=>?_;have jF:v=.int (gR cell 3):=hv;subst jF;have Ah:=sdf.trans sg;refine aq (v:=.int T) rfl (VJ (i:=i+1) Rm (tG.grow Ah) (Fx.grow Ah) (λz=>cn (by rw[z];rfl)) La ∅ em2 Ag Rq Ij hT1 λHh Ae ls3 CG Y4 J7 FN=>?_);show(if(!true)=true then _ else _);rw[ap<|by simp];exact⟨⟨_,_,_,rfl⟩,Ae,ls3,v9,m2,CG,J7,(Fx.grow Ah).stay (tG.grow Ah) FN,(by rw[Y4];exact lW (tG.grow Ah) FN<|Ah _ _ yR),Aw,La,Y4.trans em2,(rad.grow Ah).stay (tG.grow Ah) FN,(nad.grow Ah).stay (tG.grow Ah) FN,(czd.grow Ah).stay (tG.grow Ah) FN,(scd.grow Ah).stay (tG.grow Ah) FN⟩
  .rw[ap<|by simpa using ck];try k_ne
   rw[ap<|by simp];exact⟨⟨_,_,_,rfl⟩,std.grow se⟩
 .rintro aX Hz ⟨⟨y8,y9,Rc,rfl⟩,st⟩;let(nums,ls,aQ,more,ok,hall,held,qG,lN,hx,Rr,aaH,ake,aqM,akf):=st;have nH:(cs.map V.int).length<=63:=by rw[af];lk
  generalize (cs.map V.int).length=iz at hx nH
  ksr_p;unfold jj Rv oH iM iH bR c7;try k_ne
  refine aq (v:=.ref p) rfl (aq (v:=.ref D) rfl (aq (v:=.ref sA) rfl (aq (v:=.int N) rfl (Jj (i:=iz) ok hall held qG hx ∅ Rr Ag hN0 hN1 λH8 s8=>?_))));show(if(!true)=true then _ else _);rw[ap<|by simp]
  ksr_p;unfold fG cH;refine Aa (S:=[some (.fr,.list<|ns.map .int),none,none,none,none,none,none,none,none,none,none]) ⟨_,_,rfl,rfl,⟨sc,_,rfl,(akf.grow s8).sq,aR.ints.mpr rfl⟩,_,_,rfl,_,_,rfl,_,_,rfl,_,_,rfl,_,_,rfl,_,_,rfl,_,_,rfl,_,_,rfl,_,_,rfl,_,_,rfl,rfl⟩ arZ λv H9 s9 hv=>?_;have jF:v=.int (fD ns 16):=hv;subst jF;have s89:=s8.trans s9
  ksr_p;unfold jj iH;refine VM.sZ (S:=[none,none,none,none,some (.fr,cQ (aQ.map λx:PR=>x.2)),none,none,none,none,none,none]) ⟨_,_,rfl,_,_,rfl,_,_,rfl,_,_,rfl,_,_,rfl,rfl,(held.grow s89).has,_,_,rfl,_,_,rfl,_,_,rfl,_,_,rfl,_,_,rfl,_,_,rfl,rfl⟩ ar0 λHa sa=>?_;have s8a:=s89.trans sa;by_cases cn:aQ.map (λx:PR=>x.2)=[]
  .rw[ar<|by simpa using cn];exact hq _
  rw[ap<|by simpa using cn];have bA:aQ≠[]:=λz=>cn (by rw[z];rfl)
  ksr_p;unfold jj Rv oH iM iH bR c7;refine aq (v:=.ref p) rfl<|aq (v:=.ref D) rfl<|Aa (S:=[none,none,none,none,none,none,none,none,none,some (.fr,.int<|fD ns 16),none]) ⟨_,_,rfl,_,_,rfl,_,_,rfl,_,_,rfl,_,_,rfl,_,_,rfl,_,_,rfl,_,_,rfl,_,_,rfl,_,_,rfl,rfl,rfl,_,_,rfl,rfl⟩ aqC λv Hb sb hv=>?_;have jF:v=.int (gR (fD ns 16) 3):=hv;subst jF;have s8b:=s8a.trans sb;have pW:=hall.grow s8b;have XJ:=held.grow s8b;refine aq (v:=.int T) rfl (VJ (i:=iz) ok pW XJ bA hx ∅ Rr Ag Rq Ij hT1 λHc Ae ls3 CG Y4 J7 FN=>?_);show(if(!true)=true then _ else _);rw[ap<|by simp];have ar5:=XJ.stay pW FN;have aqS:Hc sA=some (.lst<|(seenOf Ae).map V.str):=by rw[Y4];exact lW pW FN<|s8b _ _ qG
  (subst hu;try k_ne)
  unfold mW adb iM bR c7;refine aq (v:=.ref p) rfl<|aq (v:=.ref D) rfl<|aq (v:=.ref sA) rfl<|Aa (S:=[none,none,none,none,none,none,none,none,none,some (.fr,.int<|fD ns 16),none]) ⟨_,_,rfl,_,_,rfl,_,_,rfl,_,_,rfl,_,_,rfl,_,_,rfl,_,_,rfl,_,_,rfl,_,_,rfl,_,_,rfl,rfl,rfl,_,_,rfl,rfl⟩ awb λv Hd sd hv=>?_;have jF:v=.int (gR (fD ns 16) 5):=hv;subst jF;refine aq (v:=.int N) rfl ⟨p,dx,nn,ll,Ae,ls3,D,aQ,sA,_,N,r0,r1,more,r0::r1::rest,nms,iz,rfl,J7.grow sd,ar5.grow sd,sd _ _ aqS,lN,bA,CG,Ag,Rq,Y4.trans Rr,hx,by lk,⟨hN0,hN1⟩,λH' aeX ls4 azs ay9 Lh uT ae2 aqT hm4 hx4=>⟨true,rfl,?_⟩⟩;rw[ar rfl];refine aq (v:=.ref p) rfl<|aq (v:=.ref D) rfl<|aq (v:=.ref sA) rfl<|Jj (i:=iz+1) (N:=6) (E:=E0) Lh uT ae2 aqT hx4 ∅ hm4 Ag ⋯ ⋯ λGP _=>hq _
end
end qm
namespace qm
open L2 VM
structure FH (K:Frag)(x q:Str)(st:Stmt)(f:Addr):Prop where
 ex:∃oc od kV dc pm an cd ct sl,K.lookup f=some (oc,od,.func<|fnOf x q (pC st) (gY st) (aN st) .none kV dc pm an cd ct,sl)/\codeIn K cd q=true/\keepIn K (.ref f)=true
abbrev GH (K:Frag)(x:Str)(st:Stmt):Prop:=∃f,nsIn K mainGlobals x=some (some<|.ref f)/\FH K x x st f
abbrev MH (K:Frag)(C:Addr)(x q:Str)(st:Stmt):Prop:=∃f,findIn K (.ref C) x=some (some<|.ref f)/\isFn K (.ref f)=true/\FH K x q st f
section
variable {lv:Nat}
inductive XG (P:α)(w:β)(b:γ)(K:Frag)(mg:Str->Option Value):Prop
 |mk (X:K.In h0) (G:h0.Ns mainGlobals mg)
def FH.fn (h:FH K x q st f):∃fd,bY K x q st f fd:=let⟨_,_,_,_,_,_,_,_,_,l,c,k⟩:=h.ex;⟨_,afK l c k⟩
noncomputable def BD (x q:Str)(st:Stmt)(ps:List Str):Prop:=aea ps.length λus=>∀kV qR pm an cX ct,bindArgs (fnOf x q (pC st) (gY st) (aN st) .none kV qR pm an cX ct) ⟨us,[]⟩=pure (ps.zip us)
def BD.b (h:BD x q st ps)(F:bY K x q st f fd):Binds K fd ps []:=F.binds λ_ _ _ _ _ _ us hl=>by unfold BD at h;rw[<-hl] at h;exact h.go _ _ _ _ _ _
def GH.cal (h:GH K x st)(y:XG P w base K mg)(o:∀{f fd},bY K x x st f fd->bJ P w K mg base cA lv f fd ps sp)
    (hb:BD x x st ps:=by repeat intro _
                         rfl):cW P w K mg base lv x ps sp:=
  by
  let(_,a,b):=h;let(fd,F):=b.fn;let(X,G):=y;exact⟨_,fd,o F,mg_of X G a,F.kp,hb.b F⟩
def MH.ms (h:MH K C x q st)(_:XG P w base K mg)(o:∀{f fd},bY K x q st f fd->bJ P w K mg base cA lv f fd ps sp)
    (hb:BD x q st ps:=by repeat intro _
                         rfl):Ms P w K mg base C lv x ps sp:=
  let⟨_,a,n,b⟩:=h;let⟨fd,F⟩:=b.fn;⟨_,fd,o F,⟨a,n,F.kp⟩,hb.b F⟩
def GH.mk' {kV dc pm cd ct:Value}(a:nsIn K mainGlobals x=some (some<|.ref f))(l:K.lookup f=some (oc,od,.func<|fnOf x x (pC st) (gY st) (aN st) .none kV dc pm an cd ct,sl))(c:codeIn K cd x=true)(k:keepIn K (.ref f)=true):GH K x st:=(f,a,oc,od,kV,dc,pm,an,cd,ct,sl,l,c,k)
def MH.mk' {kV dc pm cd ct:Value}(a:findIn K (.ref C) x=some (some<|.ref f))(l:K.lookup f=some (oc,od,.func<|fnOf x q (pC st) (gY st) (aN st) .none kV dc pm an cd ct,sl))(c:codeIn K cd q=true)(k:keepIn K (.ref f)=true)(n:isFn K (.ref f)=true):MH K C x q st:=(f,a,n,oc,od,kV,dc,pm,an,cd,ct,sl,l,c,k)
def alQ {p:α->Prop}(h:p a):∃x,p x:=⟨a,h⟩
end
def all_mk {l:PySem.W.OpenLaw}(X:K.In h)(G:h.Ns mainGlobals mg)(hfa:mg "law"=some (.ref fa))
  (h0:GH K "left_behind" (top 11))
  (h1:GH K "is_nearer" (top 15))
  (h2:GH K "reach" (top 14))
  (h3:GH K "push" (top 17))
  (h4:GH K "way_to" (top 16))
  (h5:GH K "push_all" (top 13))
  (h6:GH K "moves_of" (top 12))
  (h7:GH K "steps_of" (top 9))
  (h8:GH K "best_flow" (top 10))
  (h9:GH K "length_of" (top 19))
  (BP:GH K "passage_on" (top 22))
  (Ht:GH K "walk_along" (top 21))
  (h12:GH K "walks_of" (top 20))
  (h13:GH K "moments_of" (top 25))
  (h14:GH K "out_within" (top 24))
  (h15:GH K "turns_by" (top 28))
  (h16:GH K "plan_for" (top 29))
  (h17:GH K "fewest_turns" (top 27))
  (h18:GH K "look_at_name" (top 37))
  (h19:GH K "_law_cell_at" (top 39))
  (h20:GH K "_law_mixed" (top 40))
  (h21:GH K "_law_whole" (top 41))
  (h22:GH K "_law_words" (top 42))
  (h23:GH K "_law_length" (top 43))
  (h24:GH K "_law_width" (top 44))
  (h25:GH K "_law_fresh" (top 45))
  (h26:GH K "_law_deed" (top 46))
  (h27:GH K "_law_sets" (top 49))
  (h28:GH K "_law_turns" (top 50))
  (h29:GH K "_law_way" (top 51))
  (h30:GH K "_law_moments" (top 53))
  (h31:GH K "_law_reached" (top 54))
  (h32:GH K "_law_planned" (top 55))
  (h33:GH K "_law_people" (top 58))
  (h34:GH K "_law_do" (top 47))
  (h35:GH K "_law_noted" (top 48))
  (h36:GH K "_law_bound" (top 52))
  (h37:GH K "_law_fewest" (top 56))
  (h38:GH K "_law_worth" (top 57))
  (h39:GH K "_law_turned" (top 59))
  (h40:GH K "law" (top 60))
  (hC:∃C,nsIn K mainGlobals "NamedHall"=some (some<|.ref C)/\plainGet K C Str.empty=true/\hasDictIn K C=true/\plainOver K C=true/\findIn K (.ref C) "__setattr__"=some (some<|.builtin "object.__setattr__")/\findIn K (.ref C) "numbers"=some none/\findIn K (.ref C) "laid"=some none/\makesIn K C=true/\keepIn K (.ref C)=true/\MH K C "__init__" "NamedHall.__init__" (fY 0)/\MH K C "lay" "NamedHall.lay" (fY 1)/\MH K C "shut" "NamedHall.shut" (fY 2)/\MH K C "widen" "NamedHall.widen" (fY 3)/\MH K C "narrow" "NamedHall.narrow" (fY 4)/\MH K C "look_for" "NamedHall.look_for" (fY 5)/\MH K C "change_width" "NamedHall.change_width" (fY 6)/\MH K C "rooms" "NamedHall.rooms" (fY 7)/\MH K C "out" "NamedHall.out" (fY 9)/\MH K C "turns_for" "NamedHall.turns_for" (fY 10)/\MH K C "worth" "NamedHall.worth" (fY 11)/\MH K C "out_by" "NamedHall.out_by" (fY 12)/\MH K C "names_on" "NamedHall.names_on" (fY 13)/\MH K C "by_room" "NamedHall.by_room" (fY 14))
  (uD:∃t,nsIn K mainGlobals "LONGEST_NAME"=some (some<|.int 12 t))
  (tH:∃t,nsIn K mainGlobals "MOST_PASSAGES"=some (some<|.int 60 t))
  (yV:∃t,nsIn K mainGlobals "MOST_ROOMS"=some (some<|.int 40 t))
  (CN:∃t,nsIn K mainGlobals "START"=some (some<|.int 0 t))
  (Jl:∃t,nsIn K mainGlobals "GOAL"=some (some<|.int 1 t))
  (z:nsIn K mainGlobals "len"=some none/\nsIn K mainGlobals "list"=some none/\nsIn K mainGlobals "range"=some none/\nsIn K mainGlobals "enumerate"=some none/\nsIn K mainGlobals "zip"=some none/\nsIn K mainGlobals "abs"=some none/\nsIn K mainGlobals "sum"=some none/\nsIn K mainGlobals "min"=some none/\nsIn K mainGlobals "max"=some none/\nsIn K mainGlobals "int"=some none/\nsIn K mainGlobals "bool"=some none/\nsIn K mainGlobals "tuple"=some none/\nsIn K mainGlobals "str"=some none/\nsIn K mainGlobals "sorted"=some none/\nsIn K mainGlobals "set"=some none/\nsIn K mainGlobals "isinstance"=some none/\nsIn K mainGlobals "all"=some none):
  ∃fd:FuncData,(∀(s:Shared) (v:Value),BindsTo s fd ⟨[v],[]⟩ [("_law_script",v)])/\∀base:Heap,K.In base->base.Ns mainGlobals mg->bJ l.prog w K mg base cA 10 fa fd ["_law_script"] (ad2 K):=by
 let(fl,al,oc,od,kV,dc,pm,an,cd,ct,sl,ll,lc,lk):=h40;have e:=hfa.symm.trans<|mg_of X G al;cases e;let(_,uD):=uD;let(_,tH):=tH;let(_,yV):=yV;let(_,CN):=CN;let(_,Jl):=Jl;have Z:=λ{x} (e:nsIn K mainGlobals x=some none)=>PySem.W.mg_none_of X G e;let(z0,z1,z2,z3,z4,z5,z6,z7,z8,z9,z10,z11,z12,z13,z14,z15,z16):=z;have B:Bl mg:=⟨Z z0,Z z1,Z z2,Z z3,Z z4,Z z5,Z z6,Z z7,Z z8,Z z9,Z z10,Z z11,Z z12,Z z13,Z z14,Z z15⟩;let(C,aC,pg,hd,po,sa,no1,no2,mk,kC,h41,h42,h43,h44,h45,h46,h47,h48,h50,h51,h52,h53,h54,h55):=hC;have cl:Cl K C:=⟨⟨pg,hd,po,sa⟩,no1,no2⟩;refine⟨fnOf "law" "law" (pC<|top 60) (gY<|top 60) (aN<|top 60) .none kV dc pm an cd ct,λs v=>.of_eq rfl,λbase _ _=>?_⟩;have W:=λ{x v} (e:nsIn K mainGlobals x=some (some v))=>mg_of X G e;have y:XG l.prog w base K mg:=⟨X,G⟩;have mK:=h0.cal y λF=>SJ F B<|fj K;have QG:=h1.cal y λF=>aas F B<|fj K;have Io:=h2.cal y λF=>ajm F B (fj K) QG;have aeC:=h3.cal y λF=>amD F B<|fj K;have SM:=h4.cal y λF=>agT F B<|fj K;have zU:=h5.cal y λF=>abo F B (fj K) Io aeC SM;have rA:=h6.cal y λF=>abp F B<|fj K;have Vp:=h7.cal y λF=>abq F B (fj K) mK zU rA;have wW:=h8.cal y λF=>aat F B (fj K) mK zU rA;have wX:=h9.cal y λF=>aau F B<|fj K;have K1:=BP.cal y λF=>V1 F B<|fj K;have K3:=Ht.cal y λF=>V2 F B (fj K) K1;have zV:=h12.cal y λF=>abr F B (fj K) K3;have uQ:=h13.cal y λF=>V3 F B (fj K) mK Io rA;have Ax:=h14.cal y λF=>V4 F B (fj K) wW zV uQ wX;have Vq:=h15.cal y λF=>abt F B<|fj K;have Vr:=h16.cal y λF=>abu F B (fj K) wX;have Wb:=h17.cal y λF=>QJ F B (fj K) Vp Vq wW Vr zV uQ;have Gn:=h18.cal y λF=>QK F B (fj K) (Z z16)<|W uD;have jL:=h19.cal y λF=>QL F B<|fj K;have cO:=h20.cal y λF=>V5 F B<|fj K;have iK:=h21.cal y λF=>V6 F B<|fj K;have K8:=h22.cal y λF=>V7 F B (fj K) cO;have Iw:=h23.cal y λF=>SN F B (fj K) cO;have K5:=h24.cal y λF=>V8 F B (fj K) cO;have K6:=h25.cal y λF=>V9 F B<|fj K;have Fz:=h26.cal y λF=>aaw F B (fj K) cO K5 K6 Iw;have Fy:=h27.cal y λF=>aax F B (fj K) K8 jL cO;have Ba:=h28.cal y λF=>Wa F B (fj K) cO;have Vs:=h29.cal y λF=>abv F B<|fj K;have v8:=h30.cal y λF=>QS F B (fj K) iK;have vY:=h31.cal y λF=>QT F B<|fj K;have vZ:=h32.cal y λF=>QV F B (fj K) Vs iK;have yS:=h33.cal y λF=>SQ F B (fj K) cO;let(_,_,O5,m5,b5):=(h46.ms y λF=>amB F cl).ex;let(_,_,O6,m6,b6):=(h47.ms y λF=>apn F cl).ex;have ar6:=h43.ms y λF=>amC F cl O5 m5 b5;have ahM:=h44.ms y λF=>ajl F cl O5 m5 b5 O6 m6 b6;have ac6:=h45.ms y λF=>agW F cl O5 m5 b5 O6 m6 b6;have aqU:=h42.ms y λF=>apu F B cl Gn (W tH)<|W yV;let(_,_,O7,m7,b7):=(h48.ms y λF=>aaA F B cl).ex;have ahN:=h53.ms y λF=>ajF F B cl Ax (W CN)<|W Jl;have ahO:=h54.ms y λF=>ajH F B (fj K) cl;have ac7:=h55.ms y λF=>ahd F B cl O7 m7 b7;have aqV:=h50.ms y λF=>apQ F B cl ahN ahO ac7;let(_,_,Oi,mi,bi):=(h41.ms y λF=>amE F cl Gn (W CN)<|W Jl).ex;have uz:=h34.cal y λF=>arL F cl aqU ar6 ahM ac6;have nU:=h35.cal y λF=>ajs F B;have Ay:=h36.cal y λF=>ajN F B;have aqW:=h51.ms y λF=>ajJ F B cl Wb (W CN) (W Jl) ahO ac7;have aqX:=h52.ms y λF=>ajK F cl O5 m5 b5 ahN;have aqY:=h48.ms y λF=>aaA F B cl;have j8:=h37.cal y λF=>ahu F B (fj K) cl aqW aqV iK vY vZ v8 Ay;have uV:=h38.cal y λF=>ahD F B (fj K) cl aqV aqX aqY aqU ahM ac6 ⟨mk,mi.at_,mi.fn,kC⟩ Oi bi (W aC) iK;have yU:=h39.cal y λF=>ahH F B (fj K) cl uz nU j8;exact aqE (afK (st:=top 60) ll lc lk) B (fj K) cl ⟨mk,mi.at_,mi.fn,kC⟩ Oi bi (W aC) Fy Ba yS jL cO Fz uz nU j8 uV yU
end qm
end Lake
open Lake
open PySem.W PyProof.Rows
local macro_rules | `(universe $x*)=>return Lean.mkNullNode (←mpQ (λx=>return (←`(def $x:ident:=True)).raw) x.toList).toArray
namespace PySem.W.Fast
universe tw15212390404375991356 tw16687289016467282688 tw1751391007124672810 tw13749027054822256017 tw15098725664749510021 tw17471306283487298441 tw15031802612303620059 tw14073464715438695311 tw8553981173447680014 tw15030018573842413443 tw12934172807839219464 tw16146987304733278534 tw11922462260417447948 tw8971013820754999082 tw10836013577702466333 tw2218930184167612692 tw13463516022099099812 tw11127886620343547864 tw18086441076680650409 tw3024620640998947487 tw8264199120650334345 tw7282432527566369914 tw15420732074453321928 tw16203976765353217463 tw6034818824948295510 tw457235367561426589 tw11836472855096316551 tw8282586320755661429 tw17003932258919505258 tw1695725644034538634 tw18270972291128630187 tw7940574548123291097 tw9949367284953627194 tw6353509415264178683 tw9328747300457049131 tw9977106440776089557 tw15162519990371079569 tw1697029656556160450 tw17265549572097572493 tw18304528310712433104 tw14912661200034833544 tw2889656027535267291 tw3512436687576807898 tw8018749446869587507 tw9512451019232252856 tw1867434318943559298 tw13175868434033844296 tw6941846498869337316 tw7931675722682972597 tw11091507629009289846 tw6692209268173541429 tw7753030182142059570 tw4329023329062041968 tw17664269022225924636 tw11632202179038080574 tw15043769035796326903 tw11651648194201034687 tw16155776988952487916 tw14589264393733079429 tw14320402429661217816 tw842953732574062603 tw3492085668397658329 tw9938050198269501343 tw17026969681590908346 tw14772395451207634067 tw1891529090531062960 tw3177753468953762437 tw6649733077910137521 tw15990584204831155433 tw2546900101962688078 tw3048671352679738422 tw3055288727094435753 tw14177884549750222406 tw455710688918517537 tw2643155590196205348 tw3745582231347851758 tw17440404344336849132 tw16528308112385344083 tw3776165777693594284 tw16310088404782058760 tw2773326730734198096 tw6863962842195167253 tw16704373052425033639 tw6857668944374697076 tw6163578595459806777 tw807270579941932193 tw3145625972388405741 tw9196835386760070790 tw15690996530326095073 tw4502360417115197771 tw4810673628430919068 tw8884627538540193786 tw14877997706972230767 tw6434354554068571784 tw16215774459821028754 tw9229278377800272668 tw11430205596355437492 tw17840364726574270533 tw4094655681999253244 tw17070933406115497774 tw18401068456831179825 tw978305368636371593 tw6738969334405485512 tw2220431237085257901 tw18248192199353133477 tw9784875108496833015 tw652041174450910538 tw13596709387589804756 tw16284321329909129346 tw8336351017124388677 tw2089054056863200480 tw9431796101486271011 tw13005641229512435668 tw12333388340635379120 tw6625627024510254741 tw2595556468947852075 tw10565961184183355263 tw2075507479201043437 tw2754551474853328802 tw13154422866716961443 tw10263681356671508587 tw5829482433486386272 tw188794575945567268 tw5400912176823252596 tw14656478696330569336 tw3369646907138855092 tw8460461014382717303 tw15504976712544824327 tw1358093117011575114 tw11039109634133102184 tw16948646227267563338 tw365006795784619908 tw1103473480655054614 tw17344834401290214925 tw12550156906896945706 tw7320716862417451386 tw6699977713042308566 tw1640404931372237055 tw10369890083318896611 tw17963940232607871017 tw9970264755547557980 tw6702294751272353693 tw18006566958426156571 tw8335700761571172628 tw7691296762334121609 tw7082603678180800705 tw4984907806238866076 tw4885510068128428226 tw1962957195443740134 tw10032216912889567973 tw8322316859065299194 tw6566024506528574925 tw7752386102631223868 tw17134423899210511421 tw13638779250682567390 tw2821908220504292728 tw2825783795634953400 tw15317698051674540028 tw3080242306192575168 tw1032233357324477527 tw15818735719193332649 tw2247557105752974898 tw6429330754838179659 tw7215384538409436258 tw10527233679168075917 tw2023297902018256337 tw12820137897346600233 tw8838194418854273166 tw5383801797556668053 tw9944983601961428459 tw2282464011041144673 tw1778035046821617615 tw627738653382854746 tw13245551001464837422 tw17201656226983088512 tw4613301997741394278 tw17056313884588818203 tw1603943917180552045 tw2729544549295339332 tw13008355934496279545 tw6419022402413139528 tw5605433705061410486 tw10595818834192007399 tw16426376349052157985 tw3110058152095824206 tw7333395136424561260 tw9470005901381048640 tw3688358001692316567 tw2391357071480417261 tw2345516681796041320 tw2502767683600641086 tw5972770598180531685 tw9321742183435890480 tw8024547879710214177 tw5353296041612764361 tw376788359548260022 tw1345271769449737662 tw10605803633536703928 tw8788478993675786206 tw17623847981076062510 tw3944477301260174630 tw2476884224930244093 tw15658902929199868909 tw16690492788176290004 tw7488257812438772750 tw5808969034050794444 tw6400809894257324994 tw3599511519477735761 tw8550740479420787640 tw7641957726639150781 tw16546769814230504157 tw4081227550516595122 tw3793995717634828341 tw14518651971550416979 tw6039181008057441763 tw10421972579441069203 tw8041177993345354144 tw7009706076976027188 tw16862141956114588281 tw2938191980092054356 tw16790816931342102181 tw2761818987154656111 tw9452084869825467715 tw5736724993524324802 tw13876521207930735401 tw6983924380489596247 tw10902498107537063612 tw9395612065178773351 tw5050563859889330084 tw14071757430835492171 tw3568597234359641021 tw8847172482007739215 tw4680218859208218240 tw18212383727307706036 tw382639809317490853 tw11572503964921217606 tw6767520463010381880 tw8243714730062748137 tw10149008779635368601 tw670980629358787039 tw4339864733825735546 tw4999176171188788875 tw11016904982702750549 tw8372918832253226283 tw8604776424139570903 tw12200225748750641951 tw2033983875191875875 tw10022011554090902911 tw6769978012050315501 tw464366515807227733
end PySem.W.Fast
set_option maxRecDepth 100000 in
set_option maxHeartbeats 0 in
theorem PySem.Challenge.cw_leavehall_k64_whole_turns_and_worth_holds : PySem.Challenge.rw_leavehall_k64_whole_turns_and_worth.Holds := by
 w_on;o_law;k_head;(case hw=>w_witness2)
 k_fill
 refine VM.walk (l:=PySem.Challenge.rw_leavehall_k64_whole_turns_and_worth) (k:=10) (x:="_law_script") rfl rfl ⟨rfl,by decide,by decide⟩ (λw h Y=>PySem.W.kIn_of Y) ?F;case F=>intro w mg fa h KX G hmg;refine' qm.all_mk KX G hmg ?_ ?_ ?_ ?_ ?_ ?_ ?_ ?_ ?_ ?_ ?_ ?_ ?_ ?_ ?_ ?_ ?_ ?_ ?_ ?_ ?_ ?_ ?_ ?_ ?_ ?_ ?_ ?_ ?_ ?_ ?_ ?_ ?_ ?_ ?_ ?_ ?_ ?_ ?_ ?_ ?_ ?_ ?_ ?_ ?_ ?_ ?_ ?_;all_goals first|k_is|(refine' qm.alQ ⟨?_,?_,?_,?_,?_,?_,?_,?_,?_,?_,?_,?_,?_,?_,?_,?_,?_,?_,?_,?_,?_,?_,?_⟩<;>first|k_is|(refine' qm.MH.mk' ?a ?l ?c ?k ?n;(case a=>k_is);(case l=>k_is);(case c=>k_is);(case k=>k_is);(case n=>k_is))|skip)|(refine⟨?_,?_,?_,?_,?_,?_,?_,?_,?_,?_,?_,?_,?_,?_,?_,?_,?_⟩<;>k_is)|(refine' qm.GH.mk' ?a ?l ?c ?k;(case a=>k_is);(case l=>k_is);(case c=>k_is);(case k=>k_is))|(refine' qm.alQ ?a;(case a=>k_is))
