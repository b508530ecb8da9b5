import PyProof.Rows.All
import Wide.All
import OpenK.AllK
import Wide.FinOn
import Lean
import PyProof.EqAt
import PyProof.EqKinds
import PyProof.TupleCall
import PyProof.ZipIter
import PyProof.ListNew
import PyProof.TupleIter
import PyProof.WalksMore
import PyProof.AttrMissHeap
import PyProof.NeKinds
import PyProof.EnumStmt
import PyProof.Rows.ZipGen
import PyProof.EnumFor
import PyProof.ConsumeWalk
import PyProof.StrWalks
import PyProof.FString5
import PyProof.TupleKey
import PyProof.DictRoadsH
import PyProof.Rows.TupTab
import PyProof.ReprStr
import PyProof.StrLawsRepr
import PyProof.ListMulRoad
import PyProof.StrOps2
import PySem.Challenge.RW_scoreflow_k10_sums_are_trees
set_option compiler.extract_closed false
set_option Elab.async false
set_option linter.all false
set_option maxRecDepth 100000
abbrev Yg:=@Bool.and_eq_true
abbrev Qn:=@Bool.eq_false_iff
abbrev Yk:=@Bool.eq_iff_iff
abbrev YI:=@Bool.false_eq_true
abbrev yE:=@Bool.false_ne_true
abbrev Yz:=@Int.eq_ofNat_of_zero_le
abbrev yT:=@Int.fdiv_eq_ediv_of_nonneg
abbrev Qm:=@Int.fmod_eq_emod_of_nonneg
abbrev yx:=@Int.le_of_lt
abbrev Qz:=@Int.mul_ediv_cancel_left
abbrev Qa:=@Int.mul_nonneg
abbrev jg:=@Int.mul_pos
abbrev qm:=@Int.natAbs_natCast
abbrev qQ:=@Int.natCast_ediv
abbrev QB:=@Int.natCast_mul
abbrev QA:=@List.all_eq_true
abbrev jL:=@List.any_cons
abbrev Yl:=@List.append_nil
abbrev qp:=@List.cons_append
abbrev al_ext_getElem?:=@List.ext_getElem?
abbrev YS:=@List.filter_append
abbrev y3:=@List.filter_cons_of_neg
abbrev y4:=@List.filter_cons_of_pos
abbrev al_find?_cons:=@List.find?_cons
abbrev Y6:=@List.flatMap_append
abbrev Ym:=@List.foldl_append
abbrev Yp:=@List.foldl_cons
abbrev ju:=@List.forIn_cons
abbrev al_getD_eq_getElem?_getD:=@List.getD_eq_getElem?_getD
abbrev al_getElem?_append_left:=@List.getElem?_append_left
abbrev al_getElem?_append_right:=@List.getElem?_append_right
abbrev al_getElem?_eq_getElem:=@List.getElem?_eq_getElem
abbrev al_getElem?_eq_none_iff:=@List.getElem?_eq_none_iff
abbrev al_getElem?_eq_some_iff:=@List.getElem?_eq_some_iff
abbrev al_getElem?_map:=@List.getElem?_map
abbrev al_getElem?_range:=@List.getElem?_range
abbrev al_getElem?_replicate:=@List.getElem?_replicate
abbrev al_getElem?_set:=@List.getElem?_set
abbrev al_getElem?_set_ne:=@List.getElem?_set_ne
abbrev al_getElem?_zip_eq_some:=@List.getElem?_zip_eq_some
abbrev qy:=@List.getElem_idxOf
abbrev Yy:=@List.idxOf_lt_length_iff
abbrev yy:=@List.length_append
abbrev ym:=@List.length_cons
abbrev jd:=@List.length_drop
abbrev Q0:=@List.length_eq_zero_iff
abbrev y9:=@List.length_filter_le
abbrev ye:=@List.length_map
abbrev Yq:=@List.length_nil
abbrev YU:=@List.length_pos_iff
abbrev qX:=@List.length_replicate
abbrev yS:=@List.length_take
abbrev YA:=@List.length_zip
abbrev Yb:=@List.lookup_cons
abbrev yr:=@List.map_append
abbrev qr:=@List.map_congr_left
abbrev yn:=@List.map_cons
abbrev Yu:=@List.map_map
abbrev QU:=@List.map_nil
abbrev yY:=@List.mem_append
abbrev y8:=@List.mem_append_left
abbrev yN:=@List.mem_append_right
abbrev yA:=@List.mem_cons
abbrev yf:=@List.mem_cons_of_mem
abbrev yp:=@List.mem_cons_self
abbrev yU:=@List.mem_filter
abbrev Qf:=@List.mem_flatMap
abbrev yo:=@List.mem_map
abbrev al_mem_of_find?_eq_some:=@List.mem_of_find?_eq_some
abbrev al_mem_of_getElem?:=@List.mem_of_getElem?
abbrev QV:=@List.mem_of_mem_take
abbrev YE:=@List.mem_range
abbrev yu:=@List.mem_singleton
abbrev Qw:=@List.nil_append
abbrev Yd:=@List.nodup_append
abbrev yK:=@List.nodup_cons
abbrev qD:=@List.nodup_nil
abbrev YW:=@List.not_mem_nil
abbrev Qd:=@List.of_mem_zip
abbrev YF:=@List.perm_append_comm
abbrev Y9:=@List.range_succ
abbrev yD:=@List.size_toArray
abbrev Yn:=@List.sum_cons
abbrev yG:=@List.take_length
abbrev Qo:=@List.take_sublist
abbrev yM:=@List.zip_cons_cons
abbrev QP:=@Nat.add_mul
abbrev QT:=@Nat.add_sub_cancel_left
abbrev qR:=@Nat.le_add_right
abbrev qS:=@Nat.le_of_lt
abbrev yg:=@Nat.le_refl
abbrev yQ:=@Nat.le_trans
abbrev jG:=@Nat.le_zero
abbrev Qp:=@Nat.lt_irrefl
abbrev Qq:=@Nat.lt_of_le_of_lt
abbrev yH:=@Nat.lt_of_lt_of_le
abbrev QI:=@Nat.lt_or_ge
abbrev Q7:=@Nat.mul_comm
abbrev YN:=@Nat.mul_div_cancel_left
abbrev Y1:=@Nat.mul_le_mul
abbrev qt:=@Nat.mul_le_mul_right
abbrev qH:=@Nat.ne_of_gt
abbrev yR:=@Nat.ne_of_lt
abbrev jF:=@Nat.one_mul
abbrev YC:=@Nat.pow_le_pow_right
abbrev QK:=@Nat.pow_succ
abbrev qN:=@Nat.succ_le_succ
abbrev QE:=@Nat.zero_add
abbrev qo:=@Nat.zero_le
abbrev je:=@Option.isSome_iff_exists
abbrev QD:=@Option.isSome_some
abbrev y7:=@Option.map_eq_some_iff
abbrev Qb:=@Rat.add_zero
abbrev qJ:=@Rat.divInt_add_divInt
abbrev YG:=@Rat.le_of_lt
abbrev ql:=@Rat.le_refl
abbrev YK:=@Rat.num_divInt_den
section
open PySem PySem.Spec PyProof.Rows
abbrev yk:=@Heap.get?_push_of_some
abbrev yC:=@Heap.get?_push_size
abbrev yi:=@Heap.lt_size
abbrev yv:=@decide_eq_false
abbrev yI:=@decide_eq_true
abbrev Yh:=@decide_eq_true_eq
abbrev yb:=@if_neg
abbrev yc:=@if_pos
abbrev ya:=@wpAny_bind
abbrev Ys:=@wpAny_field
abbrev Yw:=@wpAny_holding
abbrev YJ:=@wpAny_mono
abbrev YM:=@wpAny_nextOf_list_item
abbrev yh:=@wpAny_pure
abbrev YT:=@wpAny_setField_rec
abbrev Y0:=@wpAny_truthy_bool
end
namespace L2
open PySem
def jl (s:Stmt)(j:Nat):Stmt:=match s with
 |.ClassDef _ _ _ body _ _ _ _ _ _ _=>body.getD j (.Pass ⟨0,0,0,0⟩)
 |_=>.Pass ⟨0,0,0,0⟩
def Q4 (s:Stmt):Arguments:=match s with
 |.FunctionDef _ a _ _ _ _ _ _ _ _=>a
 |_=>{posonlyargs:=[],args:=[],vararg:=none,kwonlyargs:=[],kw_defaults:=[],kwarg:=none,defaults:=[]}
def YR (s:Stmt):List Stmt:=match s with
 |.FunctionDef _ _ b _ _ _ _ _ _ _=>b
 |_=>[]
def yj (s:Stmt):Scope:=match s with
 |.FunctionDef _ _ _ _ _ _ sc _ _ _=>sc
 |_=>{kind:=.function,names:=[],isGenerator:=false,isCoroutine:=false}
end L2
namespace Law
open PySem L2
def top (i:Nat):Stmt:=PySem.Challenge.pw_scoreflow_k10_sums_are_trees.main.body.getD i (.Pass ⟨0,0,0,0⟩)
abbrev qB:Stmt:=top 8
abbrev J5:Stmt:=top 9
abbrev J9:Stmt:=top 10
abbrev jI:Stmt:=top 11
abbrev zM:Stmt:=top 12
abbrev JV:Stmt:=top 13
abbrev Y5:Stmt:=top 14
abbrev Jm:Stmt:=top 15
abbrev qc:Stmt:=jl (top 20) 0
abbrev qO:Stmt:=jl (top 20) 1
abbrev qP:Stmt:=jl (top 20) 2
abbrev qV:Stmt:=jl (top 20) 3
abbrev Qi:Stmt:=jl (top 20) 4
abbrev Qv:Stmt:=top 21
abbrev QW:Stmt:=top 22
abbrev Qj:Stmt:=top 23
abbrev QF:Stmt:=top 24
abbrev jh:Stmt:=top 25
abbrev Qu:Stmt:=top 26
abbrev QR:Stmt:=top 27
abbrev jC:Stmt:=top 28
abbrev jK:Stmt:=top 29
abbrev qv:Stmt:=top 30
abbrev qI:Stmt:=top 31
abbrev QH:Stmt:=top 33
abbrev qk:Stmt:=top 35
abbrev qe:Stmt:=top 36
abbrev zp:Stmt:=top 37
abbrev zy:Stmt:=top 38
abbrev qU:Stmt:=jl (top 40) 0
abbrev jw:Stmt:=jl (top 40) 1
abbrev jU:Stmt:=jl (top 40) 2
abbrev QY:Stmt:=jl (top 40) 3
abbrev ja:Stmt:=jl (top 40) 4
abbrev j9:Stmt:=jl (top 40) 5
abbrev qG:Stmt:=jl (top 40) 6
abbrev Y2:Stmt:=jl (top 40) 7
abbrev jk:Stmt:=top 41
abbrev zx:Stmt:=top 42
abbrev Q5:Stmt:=top 43
abbrev jq:Stmt:=top 45
abbrev JP:Stmt:=top 46
abbrev JJ:Stmt:=top 47
abbrev QZ:Stmt:=top 49
abbrev jM:Stmt:=top 50
abbrev Jw:Stmt:=top 51
abbrev Ju:Stmt:=top 52
abbrev Jb:Stmt:=top 53
abbrev jS:Stmt:=top 54
abbrev JQ:Stmt:=top 55
abbrev JG:Stmt:=top 56
abbrev jH:Stmt:=top 57
abbrev Q8:Stmt:=top 58
abbrev Qs:Stmt:=top 59
abbrev wR:Stmt:=top 60
abbrev fO (n q:Str)(s:Stmt)(m:Value)(a:Addr):Obj:={cls:=.type "function", dict:=.none,data:=.func (W.fnOf n q (L2.Q4 s) (L2.YR s) (L2.yj s) .none .none .none m .none (.ref a) .none),slots:=#[]}
abbrev tO (a:Array Value):Obj:={cls:=.type "tuple", data:=.seq a}
abbrev cO (x y:Str)(a b c:Nat)(l i j k m:Int)(r:Addr)(t:Bool)(g:Int)(u:Addr)(v v1 v2 v3:Value)(h:Int)(d:Nat):Obj:={cls:=.type "code", data:=.fields #[.str x a,.str y b,.str "/claim/cut.py" c,.int l 0,.int i 0,.int j 0,.int k 0,.int m 0,.ref r,.bool t,.int g 0,.ref u,v,v1,v2,v3,.int h 0,.int l 0,.str "/claim/cut.py" d]}
def en (P:Params)(x:Str)(t:Nat)(v:Value):DictEntry:={hash:=PyData.keyHash P x,key:=.str x t,val:=v}
def KP:Params->W.Frag:=fun P=>
 (nat_lit 2,{cls:=.none,data:=.dict #[]})::
 (nat_lit 3,{cls:=.type "dict", data:=.dict #[en P "__name__" 165 (.str "law_scoreflow_k10_sums_are_trees" 650),en P "__doc__" 166 (.none),en P "__package__" 167 (.none),en P "__loader__" 168 (.builtin "__main__.__loader__#opaque"),en P "__spec__" 169 (.none),en P "__annotations__" 170 (.ref 6),en P "__builtins__" 171 (.ref 4),en P "__file__" 173 (.str "/claim/cut.py" 172),en P "__cached__" 174 (.none),en P "ScoreError" 206 (.ref 24),en P "NoShare" 222 (.ref 37),en P "NoEnd" 238 (.ref 49),en P "NoGrammar" 254 (.ref 61),en P "NOUGHT" 259 (.ref 64),en P "ONE" 262 (.ref 65),en P "common_divisor" 271 (.ref 72),en P "share" 280 (.ref 79),en P "added" 291 (.ref 86),en P "lessened" 299 (.ref 93),en P "timed" 309 (.ref 100),en P "parted" 317 (.ref 107),en P "sum_of_products" 330 (.ref 114),en P "is_less" 338 (.ref 121),en P "MOST_RULES" 342 (.int 30 341),en P "MOST_SYMBOLS" 344 (.int 4 343),en P "MOST_LETTERS" 346 (.int 8 345),en P "Grammar" 407 (.ref 166),en P "check_rules" 416 (.ref 177),en P "check_rule" 424 (.ref 184),en P "check_symbol" 431 (.ref 191),en P "is_symbol" 437 (.ref 196),en P "is_letter" 444 (.ref 203),en P "check_start" 452 (.ref 210),en P "check_sums" 463 (.ref 217),en P "heads_of" 472 (.ref 224),en P "live_of" 478 (.ref 229),en P "has_live_body" 484 (.ref 234),en P "is_live_body" 490 (.ref 239),en P "stretches" 498 (.ref 244),en P "solved_rows" 506 (.ref 249),en P "without_itself" 512 (.ref 254),en P "put_in" 518 (.ref 259),en P "cleared" 526 (.ref 266),en P "Sums" 629 (.ref 328),en P "live_rules" 635 (.ref 337),en P "is_step" 643 (.ref 344),en P "chains_of" 649 (.ref 349),en P "_law_cell_at" 659 (.ref 356),en P "_law_dice" 666 (.ref 363),en P "_law_roll" 674 (.ref 370),en P "_law_whole" 681 (.ref 377),en P "_law_symbols" 697 (.ref 384),en P "_law_share" 708 (.ref 391),en P "_law_added" 716 (.ref 398),en P "_law_timed" 724 (.ref 405),en P "_law_bodies" 739 (.ref 412),en P "_law_rules" 745 (.ref 417),en P "_law_made" 758 (.ref 424),en P "_law_row" 764 (.ref 429),en P "_law_flat" 770 (.ref 434),en P "_law_rests" 784 (.ref 441),en P "_law_trees" 790 (.ref 446),en P "law" 804 (.ref 453)] 63})::
 (nat_lit 23,{cls:=.type "dict", data:=.dict #[en P "__module__" 196 (.str "scoreflow.errors" 187),en P "__firstlineno__" 200 (.int 2 199),en P "__static_attributes__" 201 (.ref 22),en P "__weakref__" 203 (.ref 25),en P "__doc__" 204 (.none)] 3})::
 (nat_lit 24,{cls:=.type "type", data:=.cls {name:="ScoreError", bases:=[.type "ValueError"],mro:=[.ref 24,.type "ValueError", .type "Exception", .type "BaseException", .type "object"],ns:=23,qualname:="ScoreError", subclasses:=[.ref 37,.ref 49,.ref 61]},slots:=#[.some (.ref 15),.none,.some (.str "ScoreError" 189),.some (.str "ScoreError" 197),.some (.builtin "ValueError.__new__"),.some (.bool Bool.true)]})::
 (nat_lit 25,{cls:=.type "getset_descriptor", data:=.fields #[.str "__weakref__" 202,.ref 24,.builtin "ExceptionGroup.__weakref__", .none]})::
 (nat_lit 36,{cls:=.type "dict", data:=.dict #[en P "__module__" 214 (.str "scoreflow.errors" 187),en P "__firstlineno__" 218 (.int 4 217),en P "__static_attributes__" 219 (.ref 35),en P "__doc__" 220 (.none)] 2})::
 (nat_lit 37,{cls:=.type "type", data:=.cls {name:="NoShare", bases:=[.ref 24],mro:=[.ref 37,.ref 24,.type "ValueError", .type "Exception", .type "BaseException", .type "object"],ns:=36,qualname:="NoShare" },slots:=#[.some (.ref 28),.none,.some (.str "NoShare" 207),.some (.str "NoShare" 215),.some (.builtin "ValueError.__new__"),.some (.bool Bool.true)]})::
 (nat_lit 48,{cls:=.type "dict", data:=.dict #[en P "__module__" 230 (.str "scoreflow.errors" 187),en P "__firstlineno__" 234 (.int 6 233),en P "__static_attributes__" 235 (.ref 47),en P "__doc__" 236 (.none)] 2})::
 (nat_lit 49,{cls:=.type "type", data:=.cls {name:="NoEnd", bases:=[.ref 24],mro:=[.ref 49,.ref 24,.type "ValueError", .type "Exception", .type "BaseException", .type "object"],ns:=48,qualname:="NoEnd" },slots:=#[.some (.ref 40),.none,.some (.str "NoEnd" 223),.some (.str "NoEnd" 231),.some (.builtin "ValueError.__new__"),.some (.bool Bool.true)]})::
 (nat_lit 60,{cls:=.type "dict", data:=.dict #[en P "__module__" 246 (.str "scoreflow.errors" 187),en P "__firstlineno__" 250 (.int 8 249),en P "__static_attributes__" 251 (.ref 59),en P "__doc__" 252 (.none)] 2})::
 (nat_lit 61,{cls:=.type "type", data:=.cls {name:="NoGrammar", bases:=[.ref 24],mro:=[.ref 61,.ref 24,.type "ValueError", .type "Exception", .type "BaseException", .type "object"],ns:=60,qualname:="NoGrammar" },slots:=#[.some (.ref 52),.none,.some (.str "NoGrammar" 239),.some (.str "NoGrammar" 247),.some (.builtin "ValueError.__new__"),.some (.bool Bool.true)]})::
 (nat_lit 64,tO #[.int 0 257,.int 1 258])::
 (nat_lit 65,tO #[.int 1 260,.int 1 261])::
 (nat_lit 71,cO "common_divisor" "common_divisor" 263 264 265 13 2 0 0 3 66 true 181 67 .none (.ref 68) (.ref 69) (.ref 70) 269 270 )::
 (nat_lit 72,fO "common_divisor" "common_divisor" qB (.str "scoreflow.shares" 255) 71)::
 (nat_lit 78,cO "share" "share" 272 273 274 19 2 0 0 3 73 true 181 74 .none (.ref 75) (.ref 76) (.ref 77) 278 279 )::
 (nat_lit 79,fO "share" "share" J5 (.str "scoreflow.shares" 255) 78)::
 (nat_lit 85,cO "added" "added" 281 282 283 26 2 0 0 3 80 true 181 81 .none (.ref 82) (.ref 83) (.ref 84) 289 290 )::
 (nat_lit 86,fO "added" "added" J9 (.str "scoreflow.shares" 255) 85)::
 (nat_lit 92,cO "lessened" "lessened" 292 293 294 31 2 0 0 3 87 true 181 88 .none (.ref 89) (.ref 90) (.ref 91) 297 298 )::
 (nat_lit 93,fO "lessened" "lessened" jI (.str "scoreflow.shares" 255) 92)::
 (nat_lit 99,cO "timed" "timed" 300 301 302 35 2 0 0 3 94 true 181 95 .none (.ref 96) (.ref 97) (.ref 98) 307 308 )::
 (nat_lit 100,fO "timed" "timed" zM (.str "scoreflow.shares" 255) 99)::
 (nat_lit 106,cO "parted" "parted" 310 311 312 39 2 0 0 3 101 true 181 102 .none (.ref 103) (.ref 104) (.ref 105) 315 316 )::
 (nat_lit 107,fO "parted" "parted" JV (.str "scoreflow.shares" 255) 106)::
 (nat_lit 113,cO "sum_of_products" "sum_of_products" 318 319 320 43 1 0 0 3 108 true 181 109 .none (.ref 110) (.ref 111) (.ref 112) 328 329 )::
 (nat_lit 114,fO "sum_of_products" "sum_of_products" Y5 (.str "scoreflow.shares" 255) 113)::
 (nat_lit 120,cO "is_less" "is_less" 331 332 333 53 2 0 0 3 115 true 181 116 .none (.ref 117) (.ref 118) (.ref 119) 336 337 )::
 (nat_lit 121,fO "is_less" "is_less" Jm (.str "scoreflow.shares" 255) 120)::
 (nat_lit 134,cO "__init__" "Grammar.__init__" 359 360 361 61 3 0 0 3 129 true 181 130 .none (.ref 131) (.ref 132) (.ref 133) 365 366 )::
 (nat_lit 135,fO "__init__" "Grammar.__init__" qc (.str "scoreflow.grammar" 339) 134)::
 (nat_lit 141,cO "start" "Grammar.start" 368 369 370 70 1 0 0 3 136 true 181 137 .none (.ref 138) (.ref 139) (.ref 140) 372 373 )::
 (nat_lit 142,fO "start" "Grammar.start" qO (.str "scoreflow.grammar" 339) 141)::
 (nat_lit 148,cO "rules" "Grammar.rules" 375 376 377 73 1 0 0 3 143 true 181 144 .none (.ref 145) (.ref 146) (.ref 147) 379 380 )::
 (nat_lit 149,fO "rules" "Grammar.rules" qP (.str "scoreflow.grammar" 339) 148)::
 (nat_lit 155,cO "heads" "Grammar.heads" 382 383 384 76 1 0 0 3 150 true 181 151 .none (.ref 152) (.ref 153) (.ref 154) 386 387 )::
 (nat_lit 156,fO "heads" "Grammar.heads" qV (.str "scoreflow.grammar" 339) 155)::
 (nat_lit 162,cO "live" "Grammar.live" 389 390 391 79 1 0 0 3 157 true 181 158 .none (.ref 159) (.ref 160) (.ref 161) 393 394 )::
 (nat_lit 163,fO "live" "Grammar.live" Qi (.str "scoreflow.grammar" 339) 162)::
 (nat_lit 165,{cls:=.type "dict", data:=.dict #[en P "__module__" 354 (.str "scoreflow.grammar" 339),en P "__firstlineno__" 358 (.int 59 357),en P "__init__" 367 (.ref 135),en P "start" 374 (.ref 142),en P "rules" 381 (.ref 149),en P "heads" 388 (.ref 156),en P "live" 395 (.ref 163),en P "__static_attributes__" 400 (.ref 164),en P "__dict__" 402 (.ref 167),en P "__weakref__" 404 (.ref 168),en P "__doc__" 405 (.none)] 4})::
 (nat_lit 166,{cls:=.type "type", data:=.cls {name:="Grammar", bases:=[.type "object"],mro:=[.ref 166,.type "object"],ns:=165,qualname:="Grammar" },slots:=#[.none,.none,.some (.str "Grammar" 347),.some (.str "Grammar" 355),.some (.builtin "object.__new__"),.some (.bool Bool.true)]})::
 (nat_lit 167,{cls:=.type "getset_descriptor", data:=.fields #[.str "__dict__" 401,.ref 166,.builtin "function.__dict__", .builtin "function.__dict__#set"]})::
 (nat_lit 168,{cls:=.type "getset_descriptor", data:=.fields #[.str "__weakref__" 403,.ref 166,.builtin "ExceptionGroup.__weakref__", .none]})::
 (nat_lit 176,cO "check_rules" "check_rules" 408 409 410 81 1 0 0 3 171 true 181 172 .none (.ref 173) (.ref 174) (.ref 175) 414 415 )::
 (nat_lit 177,fO "check_rules" "check_rules" Qv (.str "scoreflow.grammar" 339) 176)::
 (nat_lit 183,cO "check_rule" "check_rule" 417 418 419 90 1 0 0 3 178 true 181 179 .none (.ref 180) (.ref 181) (.ref 182) 422 423 )::
 (nat_lit 184,fO "check_rule" "check_rule" QW (.str "scoreflow.grammar" 339) 183)::
 (nat_lit 190,cO "check_symbol" "check_symbol" 425 426 427 98 1 0 0 3 185 true 181 186 .none (.ref 187) (.ref 188) (.ref 189) 429 430 )::
 (nat_lit 191,fO "check_symbol" "check_symbol" Qj (.str "scoreflow.grammar" 339) 190)::
 (nat_lit 195,cO "is_symbol" "is_symbol" 432 433 434 101 1 0 0 3 192 true 181 193 .none .none .none (.ref 194) 435 436 )::
 (nat_lit 196,fO "is_symbol" "is_symbol" QF (.str "scoreflow.grammar" 339) 195)::
 (nat_lit 202,cO "is_letter" "is_letter" 438 439 440 103 1 0 0 3 197 true 181 198 .none (.ref 199) (.ref 200) (.ref 201) 442 443 )::
 (nat_lit 203,fO "is_letter" "is_letter" jh (.str "scoreflow.grammar" 339) 202)::
 (nat_lit 209,cO "check_start" "check_start" 445 446 447 105 2 0 0 3 204 true 181 205 .none (.ref 206) (.ref 207) (.ref 208) 450 451 )::
 (nat_lit 210,fO "check_start" "check_start" Qu (.str "scoreflow.grammar" 339) 209)::
 (nat_lit 216,cO "check_sums" "check_sums" 453 454 455 108 2 0 0 3 211 true 181 212 .none (.ref 213) (.ref 214) (.ref 215) 461 462 )::
 (nat_lit 217,fO "check_sums" "check_sums" QR (.str "scoreflow.grammar" 339) 216)::
 (nat_lit 223,cO "heads_of" "heads_of" 464 465 466 116 1 0 0 3 218 true 181 219 .none (.ref 220) (.ref 221) (.ref 222) 470 471 )::
 (nat_lit 224,fO "heads_of" "heads_of" jC (.str "scoreflow.grammar" 339) 223)::
 (nat_lit 228,cO "live_of" "live_of" 473 474 475 122 2 0 0 3 225 true 181 226 .none .none .none (.ref 227) 476 477 )::
 (nat_lit 229,fO "live_of" "live_of" jK (.str "scoreflow.grammar" 339) 228)::
 (nat_lit 233,cO "has_live_body" "has_live_body" 479 480 481 130 4 0 0 3 230 true 181 231 .none .none .none (.ref 232) 482 483 )::
 (nat_lit 234,fO "has_live_body" "has_live_body" qv (.str "scoreflow.grammar" 339) 233)::
 (nat_lit 238,cO "is_live_body" "is_live_body" 485 486 487 132 3 0 0 3 235 true 181 236 .none .none .none (.ref 237) 488 489 )::
 (nat_lit 239,fO "is_live_body" "is_live_body" qI (.str "scoreflow.grammar" 339) 238)::
 (nat_lit 243,cO "stretches" "stretches" 493 494 495 135 1 0 0 3 240 true 181 241 .none .none .none (.ref 242) 496 497 )::
 (nat_lit 244,fO "stretches" "stretches" QH (.str "scoreflow.rows" 491) 243)::
 (nat_lit 248,cO "solved_rows" "solved_rows" 501 502 503 141 2 0 0 3 245 true 181 246 .none .none .none (.ref 247) 504 505 )::
 (nat_lit 249,fO "solved_rows" "solved_rows" qk (.str "scoreflow.solving" 499) 248)::
 (nat_lit 253,cO "without_itself" "without_itself" 507 508 509 147 2 0 0 3 250 true 181 251 .none .none .none (.ref 252) 510 511 )::
 (nat_lit 254,fO "without_itself" "without_itself" qe (.str "scoreflow.solving" 499) 253)::
 (nat_lit 258,cO "put_in" "put_in" 513 514 515 154 3 0 0 3 255 true 181 256 .none .none .none (.ref 257) 516 517 )::
 (nat_lit 259,fO "put_in" "put_in" zp (.str "scoreflow.solving" 499) 258)::
 (nat_lit 265,cO "cleared" "cleared" 519 520 521 159 2 0 0 3 260 true 181 261 .none (.ref 262) (.ref 263) (.ref 264) 524 525 )::
 (nat_lit 266,fO "cleared" "cleared" zy (.str "scoreflow.solving" 499) 265)::
 (nat_lit 277,cO "__init__" "Sums.__init__" 541 542 543 164 3 0 0 3 274 true 181 275 .none .none .none (.ref 276) 544 545 )::
 (nat_lit 278,fO "__init__" "Sums.__init__" qU (.str "scoreflow.sums" 527) 277)::
 (nat_lit 284,cO "within" "Sums.within" 547 548 549 177 4 0 0 3 279 true 181 280 .none (.ref 281) (.ref 282) (.ref 283) 554 555 )::
 (nat_lit 285,fO "within" "Sums.within" jw (.str "scoreflow.sums" 527) 284)::
 (nat_lit 291,cO "whole" "Sums.whole" 557 558 559 180 1 0 0 3 286 true 181 287 .none (.ref 288) (.ref 289) (.ref 290) 561 562 )::
 (nat_lit 292,fO "whole" "Sums.whole" jU (.str "scoreflow.sums" 527) 291)::
 (nat_lit 296,cO "settle" "Sums.settle" 564 565 566 183 3 0 0 3 293 true 181 294 .none .none .none (.ref 295) 567 568 )::
 (nat_lit 297,fO "settle" "Sums.settle" QY (.str "scoreflow.sums" 527) 296)::
 (nat_lit 303,cO "ends_at" "Sums.ends_at" 570 571 572 190 3 0 0 3 298 true 181 299 .none (.ref 300) (.ref 301) (.ref 302) 579 580 )::
 (nat_lit 304,fO "ends_at" "Sums.ends_at" ja (.str "scoreflow.sums" 527) 303)::
 (nat_lit 310,cO "worth" "Sums.worth" 582 583 584 198 4 0 0 3 305 true 181 306 .none (.ref 307) (.ref 308) (.ref 309) 589 590 )::
 (nat_lit 311,fO "worth" "Sums.worth" j9 (.str "scoreflow.sums" 527) 310)::
 (nat_lit 317,cO "worth_of_body" "Sums.worth_of_body" 592 593 594 203 4 0 0 3 312 true 181 313 .none (.ref 314) (.ref 315) (.ref 316) 599 600 )::
 (nat_lit 318,fO "worth_of_body" "Sums.worth_of_body" qG (.str "scoreflow.sums" 527) 317)::
 (nat_lit 324,cO "sum_of_partings" "Sums.sum_of_partings" 602 603 604 210 4 0 0 3 319 true 181 320 .none (.ref 321) (.ref 322) (.ref 323) 612 613 )::
 (nat_lit 325,fO "sum_of_partings" "Sums.sum_of_partings" Y2 (.str "scoreflow.sums" 527) 324)::
 (nat_lit 327,{cls:=.type "dict", data:=.dict #[en P "__module__" 536 (.str "scoreflow.sums" 527),en P "__firstlineno__" 540 (.int 162 539),en P "__init__" 546 (.ref 278),en P "within" 556 (.ref 285),en P "whole" 563 (.ref 292),en P "settle" 569 (.ref 297),en P "ends_at" 581 (.ref 304),en P "worth" 591 (.ref 311),en P "worth_of_body" 601 (.ref 318),en P "sum_of_partings" 614 (.ref 325),en P "__static_attributes__" 622 (.ref 326),en P "__dict__" 624 (.ref 329),en P "__weakref__" 626 (.ref 330),en P "__doc__" 627 (.none)] 4})::
 (nat_lit 328,{cls:=.type "type", data:=.cls {name:="Sums", bases:=[.type "object"],mro:=[.ref 328,.type "object"],ns:=327,qualname:="Sums" },slots:=#[.none,.none,.some (.str "Sums" 529),.some (.str "Sums" 537),.some (.builtin "object.__new__"),.some (.bool Bool.true)]})::
 (nat_lit 329,{cls:=.type "getset_descriptor", data:=.fields #[.str "__dict__" 623,.ref 328,.builtin "function.__dict__", .builtin "function.__dict__#set"]})::
 (nat_lit 330,{cls:=.type "getset_descriptor", data:=.fields #[.str "__weakref__" 625,.ref 328,.builtin "ExceptionGroup.__weakref__", .none]})::
 (nat_lit 336,cO "live_rules" "live_rules" 630 631 632 217 1 0 0 3 333 true 181 334 .none .none .none (.ref 335) 633 634 )::
 (nat_lit 337,fO "live_rules" "live_rules" jk (.str "scoreflow.sums" 527) 336)::
 (nat_lit 343,cO "is_step" "is_step" 636 637 638 221 2 0 0 3 338 true 181 339 .none (.ref 340) (.ref 341) (.ref 342) 641 642 )::
 (nat_lit 344,fO "is_step" "is_step" zx (.str "scoreflow.sums" 527) 343)::
 (nat_lit 348,cO "chains_of" "chains_of" 644 645 646 223 2 0 0 3 345 true 181 346 .none .none .none (.ref 347) 647 648 )::
 (nat_lit 349,fO "chains_of" "chains_of" Q5 (.str "scoreflow.sums" 527) 348)::
 (nat_lit 355,cO "_law_cell_at" "_law_cell_at" 652 653 654 237 2 0 0 3 350 true 181 351 .none (.ref 352) (.ref 353) (.ref 354) 657 658 )::
 (nat_lit 356,fO "_law_cell_at" "_law_cell_at" jq (.str "law_scoreflow_k10_sums_are_trees" 650) 355)::
 (nat_lit 362,cO "_law_dice" "_law_dice" 660 661 662 241 1 0 0 3 357 true 181 358 .none (.ref 359) (.ref 360) (.ref 361) 664 665 )::
 (nat_lit 363,fO "_law_dice" "_law_dice" JP (.str "law_scoreflow_k10_sums_are_trees" 650) 362)::
 (nat_lit 369,cO "_law_roll" "_law_roll" 667 668 669 243 2 0 0 3 364 true 181 365 .none (.ref 366) (.ref 367) (.ref 368) 672 673 )::
 (nat_lit 370,fO "_law_roll" "_law_roll" JJ (.str "law_scoreflow_k10_sums_are_trees" 650) 369)::
 (nat_lit 383,cO "_law_symbols" "_law_symbols" 682 683 684 248 2 0 0 3 378 true 181 379 .none (.ref 380) (.ref 381) (.ref 382) 695 696 )::
 (nat_lit 384,fO "_law_symbols" "_law_symbols" QZ (.str "law_scoreflow_k10_sums_are_trees" 650) 383)::
 (nat_lit 390,cO "_law_share" "_law_share" 698 699 700 262 2 0 0 3 385 true 181 386 .none (.ref 387) (.ref 388) (.ref 389) 706 707 )::
 (nat_lit 391,fO "_law_share" "_law_share" jM (.str "law_scoreflow_k10_sums_are_trees" 650) 390)::
 (nat_lit 397,cO "_law_added" "_law_added" 709 710 711 270 2 0 0 3 392 true 181 393 .none (.ref 394) (.ref 395) (.ref 396) 714 715 )::
 (nat_lit 398,fO "_law_added" "_law_added" Jw (.str "law_scoreflow_k10_sums_are_trees" 650) 397)::
 (nat_lit 404,cO "_law_timed" "_law_timed" 717 718 719 272 2 0 0 3 399 true 181 400 .none (.ref 401) (.ref 402) (.ref 403) 722 723 )::
 (nat_lit 405,fO "_law_timed" "_law_timed" Ju (.str "law_scoreflow_k10_sums_are_trees" 650) 404)::
 (nat_lit 411,cO "_law_bodies" "_law_bodies" 725 726 727 274 4 0 0 3 406 true 181 407 .none (.ref 408) (.ref 409) (.ref 410) 737 738 )::
 (nat_lit 412,fO "_law_bodies" "_law_bodies" Jb (.str "law_scoreflow_k10_sums_are_trees" 650) 411)::
 (nat_lit 416,cO "_law_rules" "_law_rules" 740 741 742 286 3 0 0 3 413 true 181 414 .none .none .none (.ref 415) 743 744 )::
 (nat_lit 417,fO "_law_rules" "_law_rules" jS (.str "law_scoreflow_k10_sums_are_trees" 650) 416)::
 (nat_lit 423,cO "_law_made" "_law_made" 746 747 748 294 3 0 0 3 418 true 181 419 .none (.ref 420) (.ref 421) (.ref 422) 756 757 )::
 (nat_lit 424,fO "_law_made" "_law_made" JQ (.str "law_scoreflow_k10_sums_are_trees" 650) 423)::
 (nat_lit 428,cO "_law_row" "_law_row" 759 760 761 300 3 0 0 3 425 true 181 426 .none .none .none (.ref 427) 762 763 )::
 (nat_lit 429,fO "_law_row" "_law_row" JG (.str "law_scoreflow_k10_sums_are_trees" 650) 428)::
 (nat_lit 433,cO "_law_flat" "_law_flat" 765 766 767 303 3 0 0 3 430 true 181 431 .none .none .none (.ref 432) 768 769 )::
 (nat_lit 434,fO "_law_flat" "_law_flat" jH (.str "law_scoreflow_k10_sums_are_trees" 650) 433)::
 (nat_lit 440,cO "_law_rests" "_law_rests" 771 772 773 311 4 0 0 3 435 true 181 436 .none (.ref 437) (.ref 438) (.ref 439) 782 783 )::
 (nat_lit 441,fO "_law_rests" "_law_rests" Q8 (.str "law_scoreflow_k10_sums_are_trees" 650) 440)::
 (nat_lit 445,cO "_law_trees" "_law_trees" 785 786 787 323 4 0 0 3 442 true 181 443 .none .none .none (.ref 444) 788 789 )::
 (nat_lit 446,fO "_law_trees" "_law_trees" Qs (.str "law_scoreflow_k10_sums_are_trees" 650) 445)::
 (nat_lit 452,cO "law" "law" 791 792 793 334 1 0 0 3 447 true 181 448 .none (.ref 449) (.ref 450) (.ref 451) 802 803 )::
 (nat_lit 453,fO "law" "law" wR (.str "law_scoreflow_k10_sums_are_trees" 650) 452)::[]
def KA:List Addr:=nat_lit 2::nat_lit 3::nat_lit 23::nat_lit 24::nat_lit 25::nat_lit 36::nat_lit 37::nat_lit 48::nat_lit 49::nat_lit 60::nat_lit 61::nat_lit 64::nat_lit 65::nat_lit 71::nat_lit 72::nat_lit 78::nat_lit 79::nat_lit 85::nat_lit 86::nat_lit 92::nat_lit 93::nat_lit 99::nat_lit 100::nat_lit 106::nat_lit 107::nat_lit 113::nat_lit 114::nat_lit 120::nat_lit 121::nat_lit 134::nat_lit 135::nat_lit 141::nat_lit 142::nat_lit 148::nat_lit 149::nat_lit 155::nat_lit 156::nat_lit 162::nat_lit 163::nat_lit 165::nat_lit 166::nat_lit 167::nat_lit 168::nat_lit 176::nat_lit 177::nat_lit 183::nat_lit 184::nat_lit 190::nat_lit 191::nat_lit 195::nat_lit 196::nat_lit 202::nat_lit 203::nat_lit 209::nat_lit 210::nat_lit 216::nat_lit 217::nat_lit 223::nat_lit 224::nat_lit 228::nat_lit 229::nat_lit 233::nat_lit 234::nat_lit 238::nat_lit 239::nat_lit 243::nat_lit 244::nat_lit 248::nat_lit 249::nat_lit 253::nat_lit 254::nat_lit 258::nat_lit 259::nat_lit 265::nat_lit 266::nat_lit 277::nat_lit 278::nat_lit 284::nat_lit 285::nat_lit 291::nat_lit 292::nat_lit 296::nat_lit 297::nat_lit 303::nat_lit 304::nat_lit 310::nat_lit 311::nat_lit 317::nat_lit 318::nat_lit 324::nat_lit 325::nat_lit 327::nat_lit 328::nat_lit 329::nat_lit 330::nat_lit 336::nat_lit 337::nat_lit 343::nat_lit 344::nat_lit 348::nat_lit 349::nat_lit 355::nat_lit 356::nat_lit 362::nat_lit 363::nat_lit 369::nat_lit 370::nat_lit 383::nat_lit 384::nat_lit 390::nat_lit 391::nat_lit 397::nat_lit 398::nat_lit 404::nat_lit 405::nat_lit 411::nat_lit 412::nat_lit 416::nat_lit 417::nat_lit 423::nat_lit 424::nat_lit 428::nat_lit 429::nat_lit 433::nat_lit 434::nat_lit 440::nat_lit 441::nat_lit 445::nat_lit 446::nat_lit 452::nat_lit 453::[]
theorem KE:∀ P,KA=(KP P).map (·.1):=fun _=>by kernel_rfl
def Xb:Program:={PySem.Challenge.pw_scoreflow_k10_sums_are_trees with main:={PySem.Challenge.pw_scoreflow_k10_sums_are_trees.main with body:=[top 1,top 2,top 3,top 4,top 6,top 7,top 8,top 9,top 10,top 11,top 12,top 13,top 14,top 15,top 17,top 18,top 19,top 20,top 21,top 22,top 23,top 24,top 25,top 26,top 27,top 28,top 29,top 30,top 31,top 33,top 35,top 36,top 37,top 38,top 40,top 41,top 42,top 43,top 45,top 46,top 47,top 48,top 49,top 50,top 51,top 52,top 53,top 54,top 55,top 56,top 57,top 58,top 59,top 60]}}
abbrev pr:Program:=PySem.Challenge.pw_scoreflow_k10_sums_are_trees
def tp:List Stmt:=W.behindTheImports pr
def ev:Env:={scope:=pr.main.scope,locals:=mainNs,globals:=mainNs,cells:=[],code:=.ref 13,frame:=some 14}
def fr0 (n q:Str)(s:Stmt):Obj:={cls:=.none,data:=.func {name:=n,qualname:=q,params:=L2.Q4 s,body:=.stmts (L2.YR s),scope:=L2.yj s,globals:=0,closure:=[],defaults:=.none,kwdefaults:=.none}}
noncomputable def hA (P:Params):Heap:={objs:=⟨W.boot_o_0 P::
 W.boot_o_1 P::
 W.boot_o_2 P::
 W.boot_o_3 P::
 W.boot_o_4 P::
 W.boot_o_5 P::
 W.boot_o_6 P::
 W.boot_o_7 P::
 W.boot_o_8 P::
 W.boot_o_9 P::
 W.boot_o_10 P::
 tO #[]::
 {cls:=.none,data:=.fields #[]}::
 cO "<module>" "<module>" 182 183 184 1 0 0 0 0 11 false 181 12 .none .none .none .none 185 186  ::
 {cls:=.type "frame", slots:=#[.some (.ref 13),.some (.ref 3),.some (.ref 3),.none,.some (.str "__main__" 164),.none,.some (.ref 0)]}::[]⟩}
noncomputable def hM (P:Params):Heap:={objs:=⟨W.boot_o_0 P::
 W.boot_o_1 P::
 W.boot_o_2 P::
 {cls:=.type "dict", data:=.dict #[en P "__name__" 165 (.str "scoreflow.solving" 499),en P "__doc__" 166 (.none),en P "__package__" 167 (.none),en P "__loader__" 168 (.builtin "__main__.__loader__#opaque"),en P "__spec__" 169 (.none),en P "__annotations__" 170 (.ref 6),en P "__builtins__" 171 (.ref 4),en P "__file__" 173 (.str "/claim/cut.py" 172),en P "__cached__" 174 (.none),en P "ScoreError" 206 (.ref 24),en P "NoShare" 222 (.ref 37),en P "NoEnd" 238 (.ref 49),en P "NoGrammar" 254 (.ref 61),en P "NOUGHT" 259 (.ref 64),en P "ONE" 262 (.ref 65),en P "common_divisor" 271 (.ref 72),en P "share" 280 (.ref 79),en P "added" 291 (.ref 86),en P "lessened" 299 (.ref 93),en P "timed" 309 (.ref 100),en P "parted" 317 (.ref 107),en P "sum_of_products" 330 (.ref 114),en P "is_less" 338 (.ref 121),en P "MOST_RULES" 342 (.int 30 341),en P "MOST_SYMBOLS" 344 (.int 4 343),en P "MOST_LETTERS" 346 (.int 8 345),en P "Grammar" 407 (.ref 166),en P "check_rules" 416 (.ref 177),en P "check_rule" 424 (.ref 184),en P "check_symbol" 431 (.ref 191),en P "is_symbol" 437 (.ref 196),en P "is_letter" 444 (.ref 203),en P "check_start" 452 (.ref 210),en P "check_sums" 463 (.ref 217),en P "heads_of" 472 (.ref 224),en P "live_of" 478 (.ref 229),en P "has_live_body" 484 (.ref 234),en P "is_live_body" 490 (.ref 239),en P "stretches" 498 (.ref 244),en P "solved_rows" 506 (.ref 249),en P "without_itself" 512 (.ref 254)] 41}::
 W.boot_o_4 P::
 W.boot_o_5 P::
 W.boot_o_6 P::
 W.boot_o_7 P::
 W.boot_o_8 P::
 W.boot_o_9 P::
 W.boot_o_10 P::
 tO #[]::
 {cls:=.none,data:=.fields #[.int 2 0,.int 0 0,.ref 20,.int 4 0,.int 0 0,.ref 33,.int 6 0,.int 0 0,.ref 45,.int 8 0,.int 0 0,.ref 57,.int 13 0,.int 0 0,.ref 71,.int 19 0,.int 0 0,.ref 78,.int 26 0,.int 0 0,.ref 85,.int 31 0,.int 0 0,.ref 92,.int 35 0,.int 0 0,.ref 99,.int 39 0,.int 0 0,.ref 106,.int 43 0,.int 0 0,.ref 113,.int 53 0,.int 0 0,.ref 120,.int 59 0,.int 0 0,.ref 127,.int 81 0,.int 0 0,.ref 176,.int 90 0,.int 0 0,.ref 183,.int 98 0,.int 0 0,.ref 190,.int 101 0,.int 0 0,.ref 195,.int 103 0,.int 0 0,.ref 202,.int 105 0,.int 0 0,.ref 209,.int 108 0,.int 0 0,.ref 216,.int 116 0,.int 0 0,.ref 223,.int 122 0,.int 0 0,.ref 228,.int 130 0,.int 0 0,.ref 233,.int 132 0,.int 0 0,.ref 238,.int 135 0,.int 0 0,.ref 243,.int 141 0,.int 0 0,.ref 248,.int 147 0,.int 0 0,.ref 253]}::
 cO "<module>" "<module>" 182 183 184 1 0 0 0 0 11 false 181 12 .none .none .none .none 185 186  ::
 {cls:=.type "frame", slots:=#[.some (.ref 13),.some (.ref 3),.some (.ref 3),.none,.some (.str "__main__" 164),.none,.some (.ref 0)]}::
 tO #[.type "ValueError"]::
 {cls:=.type "builtin_function_or_method", data:=.fields #[.builtin "type.__prepare__", .type "type"]}::
 {cls:=.type "dict", data:=.dict #[en P "__module__" 196 (.str "scoreflow.errors" 187),en P "__qualname__" 198 (.str "ScoreError" 197),en P "__firstlineno__" 200 (.int 2 199),en P "__static_attributes__" 201 (.ref 22)] 4}::
 tO #[]::
 {cls:=.none,data:=.fields #[]}::
 cO "ScoreError" "ScoreError" 191 192 193 2 0 0 0 0 18 false 181 19 .none .none .none .none 194 195  ::
 {cls:=.type "frame", slots:=#[.some (.ref 20),.some (.ref 3),.some (.ref 17),.none,.some (.str "scoreflow.errors" 187),.none,.some (.ref 0)]}::
 tO #[]::
 {cls:=.type "dict", data:=.dict #[en P "__module__" 196 (.str "scoreflow.errors" 187),en P "__firstlineno__" 200 (.int 2 199),en P "__static_attributes__" 201 (.ref 22),en P "__weakref__" 203 (.ref 25),en P "__doc__" 204 (.none)] 3}::
 {cls:=.type "type", data:=.cls {name:="ScoreError", bases:=[.type "ValueError"],mro:=[.ref 24,.type "ValueError", .type "Exception", .type "BaseException", .type "object"],ns:=23,qualname:="ScoreError", subclasses:=[.ref 37,.ref 49,.ref 61]},slots:=#[.some (.ref 15),.none,.some (.str "ScoreError" 189),.some (.str "ScoreError" 197),.some (.builtin "ValueError.__new__"),.some (.bool Bool.true)]}::
 {cls:=.type "getset_descriptor", data:=.fields #[.str "__weakref__" 202,.ref 24,.builtin "ExceptionGroup.__weakref__", .none]}::
 {cls:=.type "super", data:=.fields #[.ref 24,.ref 24,.ref 24]}::
 {cls:=.type "builtin_function_or_method", data:=.fields #[.builtin "object.__init_subclass__", .ref 24]}::
 tO #[.ref 24]::
 {cls:=.type "builtin_function_or_method", data:=.fields #[.builtin "type.__prepare__", .type "type"]}::
 {cls:=.type "dict", data:=.dict #[en P "__module__" 214 (.str "scoreflow.errors" 187),en P "__qualname__" 216 (.str "NoShare" 215),en P "__firstlineno__" 218 (.int 4 217),en P "__static_attributes__" 219 (.ref 35)] 4}::
 tO #[]::
 {cls:=.none,data:=.fields #[]}::
 cO "NoShare" "NoShare" 209 210 211 4 0 0 0 0 31 false 181 32 .none .none .none .none 212 213  ::
 {cls:=.type "frame", slots:=#[.some (.ref 33),.some (.ref 3),.some (.ref 30),.none,.some (.str "scoreflow.errors" 187),.none,.some (.ref 0)]}::
 tO #[]::
 {cls:=.type "dict", data:=.dict #[en P "__module__" 214 (.str "scoreflow.errors" 187),en P "__firstlineno__" 218 (.int 4 217),en P "__static_attributes__" 219 (.ref 35),en P "__doc__" 220 (.none)] 2}::
 {cls:=.type "type", data:=.cls {name:="NoShare", bases:=[.ref 24],mro:=[.ref 37,.ref 24,.type "ValueError", .type "Exception", .type "BaseException", .type "object"],ns:=36,qualname:="NoShare" },slots:=#[.some (.ref 28),.none,.some (.str "NoShare" 207),.some (.str "NoShare" 215),.some (.builtin "ValueError.__new__"),.some (.bool Bool.true)]}::
 {cls:=.type "super", data:=.fields #[.ref 37,.ref 37,.ref 37]}::
 {cls:=.type "builtin_function_or_method", data:=.fields #[.builtin "object.__init_subclass__", .ref 37]}::
 tO #[.ref 24]::
 {cls:=.type "builtin_function_or_method", data:=.fields #[.builtin "type.__prepare__", .type "type"]}::
 {cls:=.type "dict", data:=.dict #[en P "__module__" 230 (.str "scoreflow.errors" 187),en P "__qualname__" 232 (.str "NoEnd" 231),en P "__firstlineno__" 234 (.int 6 233),en P "__static_attributes__" 235 (.ref 47)] 4}::
 tO #[]::
 {cls:=.none,data:=.fields #[]}::
 cO "NoEnd" "NoEnd" 225 226 227 6 0 0 0 0 43 false 181 44 .none .none .none .none 228 229  ::
 {cls:=.type "frame", slots:=#[.some (.ref 45),.some (.ref 3),.some (.ref 42),.none,.some (.str "scoreflow.errors" 187),.none,.some (.ref 0)]}::
 tO #[]::
 {cls:=.type "dict", data:=.dict #[en P "__module__" 230 (.str "scoreflow.errors" 187),en P "__firstlineno__" 234 (.int 6 233),en P "__static_attributes__" 235 (.ref 47),en P "__doc__" 236 (.none)] 2}::
 {cls:=.type "type", data:=.cls {name:="NoEnd", bases:=[.ref 24],mro:=[.ref 49,.ref 24,.type "ValueError", .type "Exception", .type "BaseException", .type "object"],ns:=48,qualname:="NoEnd" },slots:=#[.some (.ref 40),.none,.some (.str "NoEnd" 223),.some (.str "NoEnd" 231),.some (.builtin "ValueError.__new__"),.some (.bool Bool.true)]}::
 {cls:=.type "super", data:=.fields #[.ref 49,.ref 49,.ref 49]}::
 {cls:=.type "builtin_function_or_method", data:=.fields #[.builtin "object.__init_subclass__", .ref 49]}::
 tO #[.ref 24]::
 {cls:=.type "builtin_function_or_method", data:=.fields #[.builtin "type.__prepare__", .type "type"]}::
 {cls:=.type "dict", data:=.dict #[en P "__module__" 246 (.str "scoreflow.errors" 187),en P "__qualname__" 248 (.str "NoGrammar" 247),en P "__firstlineno__" 250 (.int 8 249),en P "__static_attributes__" 251 (.ref 59)] 4}::
 tO #[]::
 {cls:=.none,data:=.fields #[]}::
 cO "NoGrammar" "NoGrammar" 241 242 243 8 0 0 0 0 55 false 181 56 .none .none .none .none 244 245  ::
 {cls:=.type "frame", slots:=#[.some (.ref 57),.some (.ref 3),.some (.ref 54),.none,.some (.str "scoreflow.errors" 187),.none,.some (.ref 0)]}::
 tO #[]::
 {cls:=.type "dict", data:=.dict #[en P "__module__" 246 (.str "scoreflow.errors" 187),en P "__firstlineno__" 250 (.int 8 249),en P "__static_attributes__" 251 (.ref 59),en P "__doc__" 252 (.none)] 2}::
 {cls:=.type "type", data:=.cls {name:="NoGrammar", bases:=[.ref 24],mro:=[.ref 61,.ref 24,.type "ValueError", .type "Exception", .type "BaseException", .type "object"],ns:=60,qualname:="NoGrammar" },slots:=#[.some (.ref 52),.none,.some (.str "NoGrammar" 239),.some (.str "NoGrammar" 247),.some (.builtin "ValueError.__new__"),.some (.bool Bool.true)]}::
 {cls:=.type "super", data:=.fields #[.ref 61,.ref 61,.ref 61]}::
 {cls:=.type "builtin_function_or_method", data:=.fields #[.builtin "object.__init_subclass__", .ref 61]}::
 tO #[.int 0 257,.int 1 258]::
 tO #[.int 1 260,.int 1 261]::
 tO #[]::
 {cls:=.none,data:=.fields #[]}::
 tO #[.str "one" 266,.str "other" 267,.str "rest" 268]::
 tO #[]::
 fr0 ("common_divisor") ("common_divisor") qB::
 cO "common_divisor" "common_divisor" 263 264 265 13 2 0 0 3 66 true 181 67 .none (.ref 68) (.ref 69) (.ref 70) 269 270  ::
 fO "common_divisor" "common_divisor" qB (.str "scoreflow.shares" 255) 71::
 tO #[]::
 {cls:=.none,data:=.fields #[]}::
 tO #[.str "top" 275,.str "bottom" 276,.str "divisor" 277]::
 tO #[]::
 fr0 ("share") ("share") J5::
 cO "share" "share" 272 273 274 19 2 0 0 3 73 true 181 74 .none (.ref 75) (.ref 76) (.ref 77) 278 279  ::
 fO "share" "share" J5 (.str "scoreflow.shares" 255) 78::
 tO #[]::
 {cls:=.none,data:=.fields #[]}::
 tO #[.str "one" 284,.str "other" 285,.str "divisor" 286,.str "top" 287,.str "left" 288]::
 tO #[]::
 fr0 ("added") ("added") J9::
 cO "added" "added" 281 282 283 26 2 0 0 3 80 true 181 81 .none (.ref 82) (.ref 83) (.ref 84) 289 290  ::
 fO "added" "added" J9 (.str "scoreflow.shares" 255) 85::
 tO #[]::
 {cls:=.none,data:=.fields #[]}::
 tO #[.str "one" 295,.str "other" 296]::
 tO #[]::
 fr0 ("lessened") ("lessened") jI::
 cO "lessened" "lessened" 292 293 294 31 2 0 0 3 87 true 181 88 .none (.ref 89) (.ref 90) (.ref 91) 297 298  ::
 fO "lessened" "lessened" jI (.str "scoreflow.shares" 255) 92::
 tO #[]::
 {cls:=.none,data:=.fields #[]}::
 tO #[.str "one" 303,.str "other" 304,.str "first" 305,.str "second" 306]::
 tO #[]::
 fr0 ("timed") ("timed") zM::
 cO "timed" "timed" 300 301 302 35 2 0 0 3 94 true 181 95 .none (.ref 96) (.ref 97) (.ref 98) 307 308  ::
 fO "timed" "timed" zM (.str "scoreflow.shares" 255) 99::
 tO #[]::
 {cls:=.none,data:=.fields #[]}::
 tO #[.str "one" 313,.str "other" 314]::
 tO #[]::
 fr0 ("parted") ("parted") JV::
 cO "parted" "parted" 310 311 312 39 2 0 0 3 101 true 181 102 .none (.ref 103) (.ref 104) (.ref 105) 315 316  ::
 fO "parted" "parted" JV (.str "scoreflow.shares" 255) 106::
 tO #[]::
 {cls:=.none,data:=.fields #[]}::
 tO #[.str "pairs" 321,.str "top" 322,.str "bottom" 323,.str "one" 324,.str "other" 325,.str "below" 326,.str "divisor" 327]::
 tO #[]::
 fr0 ("sum_of_products") ("sum_of_products") Y5::
 cO "sum_of_products" "sum_of_products" 318 319 320 43 1 0 0 3 108 true 181 109 .none (.ref 110) (.ref 111) (.ref 112) 328 329  ::
 fO "sum_of_products" "sum_of_products" Y5 (.str "scoreflow.shares" 255) 113::
 tO #[]::
 {cls:=.none,data:=.fields #[]}::
 tO #[.str "one" 334,.str "other" 335]::
 tO #[]::
 fr0 ("is_less") ("is_less") Jm::
 cO "is_less" "is_less" 331 332 333 53 2 0 0 3 115 true 181 116 .none (.ref 117) (.ref 118) (.ref 119) 336 337  ::
 fO "is_less" "is_less" Jm (.str "scoreflow.shares" 255) 120::
 tO #[]::
 {cls:=.type "builtin_function_or_method", data:=.fields #[.builtin "type.__prepare__", .type "type"]}::
 {cls:=.type "dict", data:=.dict #[en P "__module__" 354 (.str "scoreflow.grammar" 339),en P "__qualname__" 356 (.str "Grammar" 355),en P "__firstlineno__" 358 (.int 59 357),en P "__init__" 367 (.ref 135),en P "start" 374 (.ref 142),en P "rules" 381 (.ref 149),en P "heads" 388 (.ref 156),en P "live" 395 (.ref 163),en P "__static_attributes__" 400 (.ref 164)] 9}::
 tO #[]::
 {cls:=.none,data:=.fields #[.int 61 0,.int 4 0,.ref 134,.int 70 0,.int 4 0,.ref 141,.int 73 0,.int 4 0,.ref 148,.int 76 0,.int 4 0,.ref 155,.int 79 0,.int 4 0,.ref 162]}::
 cO "Grammar" "Grammar" 349 350 351 59 0 0 0 0 125 false 181 126 .none .none .none .none 352 353  ::
 {cls:=.type "frame", slots:=#[.some (.ref 127),.some (.ref 3),.some (.ref 124),.none,.some (.str "scoreflow.grammar" 339),.none,.some (.ref 0)]}::
 tO #[]::
 {cls:=.none,data:=.fields #[]}::
 tO #[.str "self" 362,.str "start" 363,.str "rules" 364]::
 tO #[]::
 fr0 ("__init__") ("Grammar.__init__") qc::
 cO "__init__" "Grammar.__init__" 359 360 361 61 3 0 0 3 129 true 181 130 .none (.ref 131) (.ref 132) (.ref 133) 365 366  ::
 fO "__init__" "Grammar.__init__" qc (.str "scoreflow.grammar" 339) 134::
 tO #[]::
 {cls:=.none,data:=.fields #[]}::
 tO #[.str "self" 371]::
 tO #[]::
 fr0 ("start") ("Grammar.start") qO::
 cO "start" "Grammar.start" 368 369 370 70 1 0 0 3 136 true 181 137 .none (.ref 138) (.ref 139) (.ref 140) 372 373  ::
 fO "start" "Grammar.start" qO (.str "scoreflow.grammar" 339) 141::
 tO #[]::
 {cls:=.none,data:=.fields #[]}::
 tO #[.str "self" 378]::
 tO #[]::
 fr0 ("rules") ("Grammar.rules") qP::
 cO "rules" "Grammar.rules" 375 376 377 73 1 0 0 3 143 true 181 144 .none (.ref 145) (.ref 146) (.ref 147) 379 380  ::
 fO "rules" "Grammar.rules" qP (.str "scoreflow.grammar" 339) 148::
 tO #[]::
 {cls:=.none,data:=.fields #[]}::
 tO #[.str "self" 385]::
 tO #[]::
 fr0 ("heads") ("Grammar.heads") qV::
 cO "heads" "Grammar.heads" 382 383 384 76 1 0 0 3 150 true 181 151 .none (.ref 152) (.ref 153) (.ref 154) 386 387  ::
 fO "heads" "Grammar.heads" qV (.str "scoreflow.grammar" 339) 155::
 tO #[]::
 {cls:=.none,data:=.fields #[]}::
 tO #[.str "self" 392]::
 tO #[]::
 fr0 ("live") ("Grammar.live") Qi::
 cO "live" "Grammar.live" 389 390 391 79 1 0 0 3 157 true 181 158 .none (.ref 159) (.ref 160) (.ref 161) 393 394  ::
 fO "live" "Grammar.live" Qi (.str "scoreflow.grammar" 339) 162::
 tO #[.str "first" 396,.str "kept_heads" 397,.str "kept_live" 398,.str "kept_rules" 399]::
 {cls:=.type "dict", data:=.dict #[en P "__module__" 354 (.str "scoreflow.grammar" 339),en P "__firstlineno__" 358 (.int 59 357),en P "__init__" 367 (.ref 135),en P "start" 374 (.ref 142),en P "rules" 381 (.ref 149),en P "heads" 388 (.ref 156),en P "live" 395 (.ref 163),en P "__static_attributes__" 400 (.ref 164),en P "__dict__" 402 (.ref 167),en P "__weakref__" 404 (.ref 168),en P "__doc__" 405 (.none)] 4}::
 {cls:=.type "type", data:=.cls {name:="Grammar", bases:=[.type "object"],mro:=[.ref 166,.type "object"],ns:=165,qualname:="Grammar" },slots:=#[.none,.none,.some (.str "Grammar" 347),.some (.str "Grammar" 355),.some (.builtin "object.__new__"),.some (.bool Bool.true)]}::
 {cls:=.type "getset_descriptor", data:=.fields #[.str "__dict__" 401,.ref 166,.builtin "function.__dict__", .builtin "function.__dict__#set"]}::
 {cls:=.type "getset_descriptor", data:=.fields #[.str "__weakref__" 403,.ref 166,.builtin "ExceptionGroup.__weakref__", .none]}::
 {cls:=.type "super", data:=.fields #[.ref 166,.ref 166,.ref 166]}::
 {cls:=.type "builtin_function_or_method", data:=.fields #[.builtin "object.__init_subclass__", .ref 166]}::
 tO #[]::
 {cls:=.none,data:=.fields #[]}::
 tO #[.str "rules" 411,.str "seen" 412,.str "rule" 413]::
 tO #[]::
 fr0 ("check_rules") ("check_rules") Qv::
 cO "check_rules" "check_rules" 408 409 410 81 1 0 0 3 171 true 181 172 .none (.ref 173) (.ref 174) (.ref 175) 414 415  ::
 fO "check_rules" "check_rules" Qv (.str "scoreflow.grammar" 339) 176::
 tO #[]::
 {cls:=.none,data:=.fields #[]}::
 tO #[.str "rule" 420,.str "symbol" 421]::
 tO #[]::
 fr0 ("check_rule") ("check_rule") QW::
 cO "check_rule" "check_rule" 417 418 419 90 1 0 0 3 178 true 181 179 .none (.ref 180) (.ref 181) (.ref 182) 422 423  ::
 fO "check_rule" "check_rule" QW (.str "scoreflow.grammar" 339) 183::
 tO #[]::
 {cls:=.none,data:=.fields #[]}::
 tO #[.str "text" 428]::
 tO #[]::
 fr0 ("check_symbol") ("check_symbol") Qj::
 cO "check_symbol" "check_symbol" 425 426 427 98 1 0 0 3 185 true 181 186 .none (.ref 187) (.ref 188) (.ref 189) 429 430  ::
 fO "check_symbol" "check_symbol" Qj (.str "scoreflow.grammar" 339) 190::
 tO #[]::
 {cls:=.none,data:=.fields #[]}::
 fr0 ("is_symbol") ("is_symbol") QF::
 cO "is_symbol" "is_symbol" 432 433 434 101 1 0 0 3 192 true 181 193 .none .none .none (.ref 194) 435 436  ::
 fO "is_symbol" "is_symbol" QF (.str "scoreflow.grammar" 339) 195::
 tO #[]::
 {cls:=.none,data:=.fields #[]}::
 tO #[.str "sign" 441]::
 tO #[]::
 fr0 ("is_letter") ("is_letter") jh::
 cO "is_letter" "is_letter" 438 439 440 103 1 0 0 3 197 true 181 198 .none (.ref 199) (.ref 200) (.ref 201) 442 443  ::
 fO "is_letter" "is_letter" jh (.str "scoreflow.grammar" 339) 202::
 tO #[]::
 {cls:=.none,data:=.fields #[]}::
 tO #[.str "start" 448,.str "heads" 449]::
 tO #[]::
 fr0 ("check_start") ("check_start") Qu::
 cO "check_start" "check_start" 445 446 447 105 2 0 0 3 204 true 181 205 .none (.ref 206) (.ref 207) (.ref 208) 450 451  ::
 fO "check_start" "check_start" Qu (.str "scoreflow.grammar" 339) 209::
 tO #[]::
 {cls:=.none,data:=.fields #[]}::
 tO #[.str "heads" 456,.str "rules" 457,.str "head" 458,.str "total" 459,.str "rule" 460]::
 tO #[]::
 fr0 ("check_sums") ("check_sums") QR::
 cO "check_sums" "check_sums" 453 454 455 108 2 0 0 3 211 true 181 212 .none (.ref 213) (.ref 214) (.ref 215) 461 462  ::
 fO "check_sums" "check_sums" QR (.str "scoreflow.grammar" 339) 216::
 tO #[]::
 {cls:=.none,data:=.fields #[]}::
 tO #[.str "rules" 467,.str "heads" 468,.str "rule" 469]::
 tO #[]::
 fr0 ("heads_of") ("heads_of") jC::
 cO "heads_of" "heads_of" 464 465 466 116 1 0 0 3 218 true 181 219 .none (.ref 220) (.ref 221) (.ref 222) 470 471  ::
 fO "heads_of" "heads_of" jC (.str "scoreflow.grammar" 339) 223::
 tO #[]::
 {cls:=.none,data:=.fields #[]}::
 fr0 ("live_of") ("live_of") jK::
 cO "live_of" "live_of" 473 474 475 122 2 0 0 3 225 true 181 226 .none .none .none (.ref 227) 476 477  ::
 fO "live_of" "live_of" jK (.str "scoreflow.grammar" 339) 228::
 tO #[]::
 {cls:=.none,data:=.fields #[]}::
 fr0 ("has_live_body") ("has_live_body") qv::
 cO "has_live_body" "has_live_body" 479 480 481 130 4 0 0 3 230 true 181 231 .none .none .none (.ref 232) 482 483  ::
 fO "has_live_body" "has_live_body" qv (.str "scoreflow.grammar" 339) 233::
 tO #[]::
 {cls:=.none,data:=.fields #[]}::
 fr0 ("is_live_body") ("is_live_body") qI::
 cO "is_live_body" "is_live_body" 485 486 487 132 3 0 0 3 235 true 181 236 .none .none .none (.ref 237) 488 489  ::
 fO "is_live_body" "is_live_body" qI (.str "scoreflow.grammar" 339) 238::
 tO #[]::
 {cls:=.none,data:=.fields #[]}::
 fr0 ("stretches") ("stretches") QH::
 cO "stretches" "stretches" 493 494 495 135 1 0 0 3 240 true 181 241 .none .none .none (.ref 242) 496 497  ::
 fO "stretches" "stretches" QH (.str "scoreflow.rows" 491) 243::
 tO #[]::
 {cls:=.none,data:=.fields #[]}::
 fr0 ("solved_rows") ("solved_rows") qk::
 cO "solved_rows" "solved_rows" 501 502 503 141 2 0 0 3 245 true 181 246 .none .none .none (.ref 247) 504 505  ::
 fO "solved_rows" "solved_rows" qk (.str "scoreflow.solving" 499) 248::
 tO #[]::
 {cls:=.none,data:=.fields #[]}::
 fr0 ("without_itself") ("without_itself") qe::
 cO "without_itself" "without_itself" 507 508 509 147 2 0 0 3 250 true 181 251 .none .none .none (.ref 252) 510 511  ::
 fO "without_itself" "without_itself" qe (.str "scoreflow.solving" 499) 253::[]⟩}
noncomputable def sA (w:World)(os:OsState):Shared:={heap:=hA w.params,toks:=187,os:=os}
noncomputable def sM (w:World)(os:OsState):Shared:={heap:=hM w.params,toks:=513,os:=os}
noncomputable def s0 (w:World)(os:OsState):Shared:={heap:=W.boot_heap w.params,gens:=#[],drawn:=W.boot_drawn,toks:=W.boot_toks,os:=os}
noncomputable def chk (w:World)(s:Shared):Option Shared:=match W.staticsOk (importedModules pr.main.body) (W.boot_heap w.params) s.heap&&W.namesBound pr s.heap&&W.gensDone s&&W.laidKept (W.boot_heap w.params) s.heap with
 |true=>some s
 |false=>none
abbrev xt (s:Shared):Bool:=W.xlAt Xb [] s&&W.recOk [] s
theorem g1 (w:World)(os:OsState):W.topGo treeTable pr w 11 (some (.ref 6)) 12 (s0 w os) (W.topStub pr)=some (sA w os,{cur:=denote treeTable (.body tp ev),code:=.body tp ev,pos:=⟨0,0,0,0⟩,stack:=[W.topFrame ⟨0,0,0,0⟩]}):=by kernel_rfl
theorem g2 (w:World)(os:OsState):W.segRun treeTable pr w 11 (some (.ref 6)) 1 1 (sA w os) (W.blockOf tp ev (.body tp ev) ⟨0,0,0,0⟩ [W.topFrame ⟨0,0,0,0⟩])=some (.next,sA w os,.body tp ev,⟨0,0,0,0⟩):=by kernel_rfl
set_option maxHeartbeats 0 in
theorem g3 (w:World)(os:OsState):W.segRun treeTable pr w 11 (some (.ref 6)) 1 2100 (sA w os) (W.piecesOf (tp.take 37) ev (.body tp ev) ⟨0,0,0,0⟩ [W.topFrame ⟨0,0,0,0⟩])=some (.next,sM w os,.body tp ev,⟨147,0,153,57⟩):=by kernel_rfl
noncomputable def mid (w:World)(os:OsState):Option Shared:=(W.topRun treeTable pr w 11 (some (.ref 6)) 4000 (sM w os) (W.restOf (tp.drop 37) ev (.body tp ev) ⟨147,0,153,57⟩ [W.topFrame ⟨0,0,0,0⟩])).bind (chk w)
abbrev see (s:Shared):=W.openSeen Xb [] (importedModules pr.main.body) xt true s
abbrev goo:=W.openGood Xb []
set_option maxHeartbeats 0 in
theorem g4 (w:World)(os:OsState):(mid w os).map (fun s=>(W.kHook KP KA KE).obs s)=some ((W.kHook KP KA KE).val w):=by kernel_rfl
set_option maxHeartbeats 0 in
theorem g5 (w:World)(os:OsState):(mid w os).map (fun s=>(see s).1)=some goo.1:=by kernel_rfl
set_option maxHeartbeats 0 in
theorem g8 (w:World)(os:OsState):(mid w os).map (fun s=>(see s).2.1)=some goo.2.1:=by kernel_rfl
set_option maxHeartbeats 0 in
theorem g7 (w:World)(os:OsState):(mid w os).map (fun s=>((see s).2.2.1,(see s).2.2.2.1))=some (goo.2.2.1,goo.2.2.2.1):=by kernel_rfl
set_option maxHeartbeats 0 in
theorem g6 (w:World)(os:OsState):(mid w os).map (fun s=>(see s).2.2.2.2)=some goo.2.2.2.2:=by kernel_rfl
theorem hl:W.LeftO pr Xb [] xt (W.kHook KP KA KE).obs (W.kHook KP KA KE).val (12+(1+(2100+4000))):=by
 intro w;have b:=W.boot_open (p:=pr) (N:=12+(1+(2100+4000))) (by kernel_rfl) (by kernel_rfl) (fun s=>by rfl) w;obtain⟨s,h0,e0⟩:=y7.mp b;obtain⟨hp,g,d,tk,os⟩:=s;simp only[Prod.mk.injEq] at e0;obtain⟨rfl,rfl,rfl,rfl⟩:=e0;unfold W.openEnds;rw[h0];have e:W.topFrom treeTable pr w (12+(1+(2100+4000))) (s0 w os)=(W.topRun treeTable pr w 11 (some (.ref 6)) (12+(1+(2100+4000))) (s0 w os) (W.topStub pr)).bind (chk w):=by kernel_rfl
 show Option.map _ (W.topFrom treeTable pr w (12+(1+(2100+4000))) (s0 w os))=_;rw[e];have q:=g4 w os;have q5:=g5 w os;have q6:=g6 w os;have q7:=g7 w os;have q8:=g8 w os;unfold mid at q q5 q6 q7 q8;cases hr:W.topRun treeTable pr w 11 (some (.ref 6)) 4000 (sM w os) (W.restOf (tp.drop 37) ev (.body tp ev) ⟨147,0,153,57⟩ [W.topFrame ⟨0,0,0,0⟩]) with
 |none=>rw[hr] at q;cases q
 |some r=>
  have c:=W.piece_app (g3 w os) hr;rw[List.take_append_drop] at c;rw[W.go_top (g1 w os) (W.piece_block (g2 w os) c)];rw[hr] at q q5 q6 q7 q8;obtain⟨s,hs,eo⟩:=y7.mp q;rw[hs] at q5 q6 q7 q8;rw[hs];have a:=Option.some.inj q5;have z:=Option.some.inj q6;have y:=Option.some.inj q7;have x8:=Option.some.inj q8;simp only[Prod.mk.injEq] at y;exact congrArg some (Prod.ext (Prod.ext a (Prod.ext x8 (Prod.ext y.1 (Prod.ext y.2 z)))) eo)
end Law
namespace L2
open PySem PySem.Spec PyProof.Rows
abbrev Key:=Sum Int Str
def yg9:Key->Value->Bool
 |.inl k,v=>Value.isInt k v
 |.inr x,v=>Value.isStrOf x v
def ykd (w:World):Key->Int
 |.inl k=>hashInt k
 |.inr x=>hashStr w x
theorem Qr:∀ {k:Key} {v:Value},yg9 k v=true->(∃ i t,k=Sum.inl i/\v=Value.int i t)∨(∃ x t,k=Sum.inr x/\v=Value.str x t)
 |.inl i,v,h=>by
  obtain⟨t,e⟩:=Value.isInt_shape (k:=i) (v:=v) h;exact .inl ⟨i,t,rfl,e⟩
 |.inr x,v,h=>by
  obtain⟨t,e⟩:=Value.isStrOf_shape (x:=x) (v:=v) h;exact .inr ⟨x,t,rfl,e⟩
theorem yhS (a b:Int):decide ((Sum.inl a:Key)=Sum.inl b)=(a==b):=by
 by_cases e:a=b
 ·subst e;simp
 ·have h:¬ (Sum.inl a:Key)=Sum.inl b:=fun q=>e (Sum.inl.inj q);rw[yv h];exact(beq_eq_false_iff_ne.mpr e).symm
theorem yiV (a b:Str):decide ((Sum.inr a:Key)=Sum.inr b)=decide (a=b):=by
 by_cases e:a=b
 ·subst e;simp
 ·have h:¬ (Sum.inr a:Key)=Sum.inr b:=fun q=>e (Sum.inr.inj q);rw[yv h,yv e]
theorem yim (a:Int)(b:Str):decide ((Sum.inl a:Key)=Sum.inr b)=false:=yv (fun q=>nomatch q)
theorem yhG (a:Str)(b:Int):decide ((Sum.inr a:Key)=Sum.inl b)=false:=yv (fun q=>nomatch q)
def qw (prog:Program)(w:World):PySem.KeyKind prog w Key where
 is:=yg9
 hash:=ykd w
 inj:=fun v a b ha hb=>by
  rcases Qr ha with ⟨i,t,rfl,rfl⟩|⟨x,t,rfl,rfl⟩
  ·rcases Qr hb with ⟨j,u,rfl,e⟩|⟨y,u,rfl,e⟩
   ·injection e with e1 _;rw[e1]
   ·exact nomatch e
  ·rcases Qr hb with ⟨j,u,rfl,e⟩|⟨y,u,rfl,e⟩
   ·exact nomatch e
   ·injection e with e1 _;rw[e1]
 byValue:=fun k v h=>by
  rcases Qr h with ⟨i,t,rfl,rfl⟩|⟨x,t,rfl,rfl⟩ <;> rfl
 pyHash:=fun hv h=>by
  rcases Qr hv with ⟨i,t,rfl,rfl⟩|⟨x,t,rfl,rfl⟩
  ·exact wpAny_pyHash_int h
  ·exact wpAny_pyHash_str h
 eqBool:=fun hu hv h=>by
  rcases Qr hu with ⟨i,t,rfl,rfl⟩|⟨x,t,rfl,rfl⟩
  ·rcases Qr hv with ⟨j,u,rfl,rfl⟩|⟨y,u,rfl,rfl⟩
   ·rw[yhS] at h;exact wpAny_eqBool_int h
   ·rw[yim] at h;exact SeqAt.EqAt.int_str i t y u _ _ _ _ h
  ·rcases Qr hv with ⟨j,u,rfl,rfl⟩|⟨y,u,rfl,rfl⟩
   ·rw[yhG] at h;exact SeqAt.EqAt.str_int x t j u _ _ _ _ h
   ·rw[yiV] at h;exact wpAny_eqBool_str h
 «strs»:=fun k x t v h=>by
  rcases Qr h with ⟨i,u,rfl,e⟩|⟨y,u,rfl,e⟩
  ·exact nomatch e
  ·injection e with e1 _;subst e1;cases v <;> rfl
inductive V where
 |non|bl (b:Bool)|int (i:Int)|str (x:Str)|byt (b:Array UInt8)|flt (b:UInt64)|ref (a:Addr)|ty (n:String)
 deriving DecidableEq
def Yx:V->Value->Prop
 |.non,u=>u=Value.none
 |.bl b,u=>u=Value.bool b
 |.int i,u=>∃ t,u=Value.int i t
 |.str x,u=>∃ t,u=Value.str x t
 |.byt b,u=>∃ t,u=Value.bytes b t
 |.flt b,u=>∃ t,u=Value.float b t
 |.ref a,u=>u=Value.ref a
 |.ty n,u=>u=Value.type n
abbrev YQ:List V->List Value->Prop:=Paired Yx
theorem YQ.length {xs:List V}{us:List Value}(r:YQ xs us):xs.length=us.length:=Paired.length r
theorem YQ.get:∀ {xs:List V} {us:List Value} {i:Nat} {x:V},YQ xs us->xs[i]?=some x->∃ u,us[i]?=some u/\Yx x u
 |_,_,_,_,.nil,e=>by simp at e
 |_,_,0,_,.cons r _,e=>by simp at e;subst e;exact⟨_,rfl,r⟩
 |_,_,i+1,x,.cons _ t,e=>by
  obtain⟨u,h1,h2⟩:=YQ.get (i:=i) (x:=x) t (by simpa using e);exact⟨u,by simpa using h1,h2⟩
theorem YQ.set {x:V}{u:Value}(r:Yx x u):∀ {xs:List V} {us:List Value} (i:Nat),YQ xs us->YQ (xs.set i x) (us.set i u)
 |_,_,_,.nil=>.nil
 |_,_,0,.cons _ t=>.cons r t
 |_,_,i+1,.cons q t=>.cons q (YQ.set r i t)
theorem YQ.append:∀ {xs ys:List V} {us ws:List Value},YQ xs us->YQ ys ws->YQ (xs++ys) (us++ws)
 |_,_,_,_,.nil,s=>s
 |_,_,_,_,.cons r t,s=>.cons r (YQ.append t s)
theorem YQ.take:∀ {xs:List V} {us:List Value} (n:Nat),YQ xs us->YQ (xs.take n) (us.take n)
 |_,_,0,_=>.nil
 |_,_,_+1,.nil=>.nil
 |_,_,n+1,.cons r t=>.cons r (YQ.take n t)
theorem YQ.drop:∀ {xs:List V} {us:List Value} (n:Nat),YQ xs us->YQ (xs.drop n) (us.drop n)
 |_,_,0,r=>r
 |_,_,_+1,.nil=>.nil
 |_,_,n+1,.cons _ t=>YQ.drop n t
def Zd:Option V->Option Value->Prop
 |some v,some u=>Yx v u
 |none,none=>True
 |_,_=>False
def KV {κ:Type}:List (κ×V)->List (κ×Value)->Prop:=Paired fun (p:κ×V) (q:κ×Value)=>p.1=q.1/\Yx p.2 q.2
def kV:Key->V
 |.inl i=>.int i
 |.inr x=>.str x
inductive HO where
 |lst (xs:List V)
 |tup (xs:List V)
 |dK (kvs:List (Key×V))|dT (kvs:List (List Key×V))
 |set (S:Int->Bool) (n:Nat)
 |ins (C dx:Addr) (fs:List (Str×V))
 |own (x:Addr)
 |xd (fs:List (Str×V))
 |met (f x:Addr)
 |rng (lo hi:Int)
 |frz (o:Obj) (u:HO)
 |tbl (ps:Array Value)
 |ext (φ:Heap->Prop)
abbrev Hp:=Addr->Option HO
def upd (H:Hp)(a:Addr)(o:HO):Hp:=fun b=>if b=a then some o else H b
theorem yL {H:Hp}{a:Addr}{o:HO}:upd H a o a=some o:=by unfold upd;rw[yc rfl]
theorem yO {H:Hp}{a b:Addr}{o:HO}(h:b≠a):upd H a o b=H b:=by unfold upd;rw[yb h]
theorem yjd {H:Hp}{a b:Addr}{o u:HO}(h:H a=some o)(h':H b=some u)(d:o≠u):a≠b:=by
 intro e;subst e;rw[h] at h';exact d (Option.some.inj h')
theorem y6 {H:Hp}{a b:Addr}{o:HO}(h:H a=some o)(h':H b=none):a≠b:=by
 intro e;subst e;rw[h] at h';cases h'
section
variable (P:Program)(w:World)
def Qh (H:Hp)(h:Heap)(a:Addr):HO->Prop
 |.lst xs=>xs.length<=sizeLine/\∃ (its:List Value) (n:Nat),YQ xs its/\h.get? a=some {cls:=.type "list", data:=.seq its.toArray n}
 |.tup xs=>xs.length<=sizeLine/\∃ its:List Value,YQ xs its/\IsTup h a its.toArray
 |.dK kvs=>kvs.length<=sizeLine/\(a==sysModules)=false/\∃ vs,KV kvs vs/\h.DictOf (qw P w) a vs
 |.dT kvs=>kvs.length<=sizeLine/\(a==sysModules)=false/\∃ xs:List (List Key×Addr×Value),
   Paired (fun (p:List Key×V) (q:List Key×Addr×Value)=>p.1=q.1/\H q.2.1=some (.tup (p.1.map kV))/\Yx p.2 q.2.2) kvs xs/\
   ∃ o es ep,h.get? a=some o/\o.ExactDict/\o.data=.dict es ep/\es.toList=xs.map (entryOfKey (tupleKind (qw P w)))/\(xs.map (·.1)).Nodup
 |.set S n=>h.SetOf (intKind P w) a S n
 |.ins C dx fs=>H dx=some (.own a)/\fs.length<=1000/\dx≠a/\h.get? a=some (W.instObj C dx)/\
   ∃ mA,h.Ns1 dx mA/\(∀ f,Zd (fs.lookup f) (mA f))/\PySem.Within mA (fs.map (·.1))
 |.own _=>∃ o,h.get? a=some o
 |.xd fs=>∃ mA,h.Ns1 a mA/\∀ f,Zd (fs.lookup f) (mA f)
 |.rng lo hi=>∃ t u v,h.get? a=some {cls:=.type "range", data:=.fields #[.int lo t,.int hi u,.int 1 v]}
 |.frz o u=>h.get? a=some o/\Qh H h a u
 |.tbl ps=>h.get? a=some {cls:=.none,data:=.fields ps}
 |.met f x=>h.get? a=some (W.methodObj (.ref f) (.ref x))
 |.ext φ=>φ h/\(∃ o,h.get? a=some o)/\∀ h1 h2:Heap,φ h1->(∀ o,h1.get? a=some o->h2.get? a=some o)->φ h2
def HOk (H:Hp)(h:Heap):Prop:=∀ a o,H a=some o->Qh P w H h a o
end
section
variable {P:Program}{w:World}{H H':Hp}{h h':Heap}{a:Addr}{o:HO}
theorem Qh.lt (x:Qh P w H h a o):a<h.objs.size:=by
 cases o with
 |lst xs=>obtain⟨_,_,_,_,e⟩:=x;exact yi e
 |tup xs=>obtain⟨_,_,_,p⟩:=x;exact p.lt
 |dK kvs=>obtain⟨_,_,_,_,o,_,_,e,_⟩:=x;exact yi e
 |dT kvs=>obtain⟨_,_,_,_,o,_,_,e,_⟩:=x;exact yi e
 |set S n=>obtain⟨o,_,_,_,e,_⟩:=x;exact yi e
 |ins C dx fs=>obtain⟨_,_,_,e,_⟩:=x;exact yi e
 |own y=>obtain⟨_,e⟩:=x;exact yi e
 |xd fs=>obtain⟨_,⟨_,_,_,e,_⟩,_⟩:=x;exact yi e
 |rng lo hi=>obtain⟨_,_,_,e⟩:=x;exact yi e
 |frz ob u=>obtain⟨e,_⟩:=x;exact yi e
 |tbl ps=>exact yi (show h.get? a=some _ from x)
 |met f y=>exact yi (show h.get? a=some _ from x)
 |ext φ=>obtain⟨_,⟨_,e⟩,_⟩:=x;exact yi e
theorem Paired.mapP {α β:Type}{F G:α->β->Prop}:∀ {l₁:List α} {l₂:List β},Paired F l₁ l₂->(∀ a b,F a b->G a b)->Paired G l₁ l₂
 |_,_,.nil,_=>.nil
 |_,_,.cons r t,f=>.cons (f _ _ r) (Paired.mapP t f)
theorem Qh.stay (x:Qh P w H h a o)(k:∀ b u,(b=a∨H b=some (.own a))->h.get? b=some u->h'.get? b=some u)
  (ho:∀ b,H b=some (.own a)->H' b=some (.own a)) (ht:∀ b xs,H b=some (.tup xs)->H' b=some (.tup xs)):Qh P w H' h' a o:=by
 induction o with
 |lst xs=>obtain⟨z,its,n,r,e⟩:=x;exact⟨z,its,n,r,k _ _ (.inl rfl) e⟩
 |tup xs=>obtain⟨z,its,r,ob,e,c⟩:=x;exact⟨z,its,r,ob,k _ _ (.inl rfl) e,c⟩
 |dK kvs=>obtain⟨z,y,vs,r,ob,es,ep,e,c⟩:=x;exact⟨z,y,vs,r,ob,es,ep,k _ _ (.inl rfl) e,c⟩
 |dT kvs=>
  obtain⟨z,y,xs,r,ob,es,ep,e,c⟩:=x;exact⟨z,y,xs,Paired.mapP r fun p q z=>⟨z.1,ht _ _ z.2.1,z.2.2⟩,ob,es,ep,k _ _ (.inl rfl) e,c⟩
 |set S n=>obtain⟨ob,es,ep,t,e,c⟩:=x;exact⟨ob,es,ep,t,k _ _ (.inl rfl) e,c⟩
 |ins C dx fs=>
  obtain⟨d,z,ne,e,mA,⟨od,es,ep,e2,c⟩,r⟩:=x;exact⟨ho _ d,z,ne,k _ _ (.inl rfl) e,mA,⟨od,es,ep,k _ _ (.inr d) e2,c⟩,r⟩
 |own y=>obtain⟨ob,e⟩:=x;exact⟨ob,k _ _ (.inl rfl) e⟩
 |xd fs=>obtain⟨mA,⟨od,es,ep,e,c⟩,r⟩:=x;exact⟨mA,⟨od,es,ep,k _ _ (.inl rfl) e,c⟩,r⟩
 |rng lo hi=>obtain⟨t,u,v,e⟩:=x;exact⟨t,u,v,k _ _ (.inl rfl) e⟩
 |frz ob u ih=>obtain⟨e,q⟩:=x;exact⟨k _ _ (.inl rfl) e,ih q⟩
 |tbl ps=>
  have e:h.get? a=some {cls:=.none,data:=.fields ps}:=x;show h'.get? a=some {cls:=.none,data:=.fields ps};exact k a _ (.inl rfl) e
 |met f y=>
  have e:h.get? a=some (W.methodObj (.ref f) (.ref y)):=x;show h'.get? a=some (W.methodObj (.ref f) (.ref y));exact k a _ (.inl rfl) e
 |ext φ=>obtain⟨p,⟨o,e⟩,st⟩:=x;exact⟨st _ _ p fun o q=>k _ _ (.inl rfl) q,⟨o,k _ _ (.inl rfl) e⟩,st⟩
theorem HOk.lt (x:HOk P w H h)(e:H a=some o):a<h.objs.size:=(x a o e).lt
theorem HOk.fresh (x:HOk P w H h)(e:h.objs.size<=a):H a=none:=by
 cases q:H a with
 |none=>rfl
 |some u=>exact absurd (yH (x.lt q) e) (Qp _)
theorem HOk.kept (x:HOk P w H h)(k:∀ b u,h.get? b=some u->h'.get? b=some u):HOk P w H h':=fun a o e=>
 (x a o e).stay (fun b u _ q=>k b u q) (fun _ q=>q) fun _ _ q=>q
theorem HOk.laid (x:HOk P w H h)(k:∀ b u,h.get? b=some u->h'.get? b=some u)(hp:h.objs.size<=a)(new:Qh P w (upd H a o) h' a o):HOk P w (upd H a o) h':=fun b u e=>by
 have hn:=x.fresh hp;by_cases hb:b=a
 ·subst hb;rw[yL] at e;cases e;exact new
 ·rw[yO hb] at e;exact(x b u e).stay (fun c v _ q=>k c v q) (fun c q=>by rw[yO (y6 q hn)];exact q) fun c xs q=>by rw[yO (y6 q hn)];exact q
end
def Rd (H:Hp)(a:Addr)(u:HO):Prop:=H a=some u∨∃ o,H a=some (.frz o u)
theorem Rd.ok {P:Program}{w:World}{H:Hp}{h:Heap}{a:Addr}{u:HO}(r:Rd H a u)(x:HOk P w H h):Qh P w H h a u:=by
 rcases r with r|⟨o,r⟩
 ·exact x a u r
 ·obtain⟨_,q⟩:=x a _ r;exact q
def Mut:Option HO->Prop
 |some (.lst _)=>True
 |some (.dK _)=>True
 |some (.dT _)=>True
 |some (.set _ _)=>True
 |some (.ins _ _ _)=>True
 |some (.ext _)=>True
 |_=>False
section
variable {P:Program}{w:World}{H:Hp}{h h':Heap}{x e:Addr}{o':HO}
theorem HOk.write (ok:HOk P w H h)(mu:Mut (H x))(he:e=x∨H e=some (.own x))(k:∀ b u,b≠e->h.get? b=some u->h'.get? b=some u)(heo:∃ u,h'.get? e=some u)
  (new:Qh P w (upd H x o') h' x o'):HOk P w (upd H x o') h':=fun b u q=>by
 have nown:∀ c y,H c=some (.own y)->c≠x:=fun c y r z=>by subst z;rw[r] at mu;exact mu
 have ntup:∀ c xs,H c=some (.tup xs)->c≠x:=fun c xs r z=>by subst z;rw[r] at mu;exact mu
 by_cases hb:b=x
 ·subst hb;rw[yL] at q;cases q;exact new
 ·rw[yO hb] at q;by_cases hbe:b=e
  ·have q':H b=some (.own x):=by
    rcases he with z|z
    ·exact absurd (hbe.trans z) hb
    ·rw[hbe];exact z
   rw[q] at q';cases q';obtain⟨v,hv⟩:=heo;exact⟨v,by rw[hbe];exact hv⟩
  ·refine(ok b u q).stay (fun c v hc r=>k c v ?_ r) (fun c r=>by rw[yO (nown c b r)];exact r) fun c xs r=>by rw[yO (ntup c xs r)];exact r
   rcases hc with rfl|hc
   ·exact hbe
   ·rintro rfl;rcases he with z|z
    ·exact nown c b hc z
    ·rw[hc] at z;cases z;exact hb rfl
end
structure Un (fs ex:List Addr)(H H':Hp)(h h':Heap):Prop where
 keep:∀ b o,h.get? b=some o->H b=none->b∉fs->b∉ex->h'.get? b=some o
 slot:∀ b o,h.get? b=some o->H b=none->b∈fs->b∉ex->∃ sl,h'.get? b=some {o with slots:=sl}
 free:∀ b o,h.get? b=some o->H b=none->b∉ex->H' b=none
 there:∀ b o,h.get? b=some o->b∉ex->∃ o',h'.get? b=some o'
 tups:∀ b xs,H b=some (.tup xs)->H' b=some (.tup xs)
 frzs:∀ b o u,H b=some (.frz o u)->H' b=some (.frz o u)
 tbls:∀ b ps,H b=some (.tbl ps)->∃ more,H' b=some (.tbl (ps++more))
section
variable {fs fs' ex ex':List Addr}{H H1 H2:Hp}{h h1 h2 h':Heap}{a x e:Addr}{o:HO}
theorem Un.any (u:Un fs ex H H1 h h1){b:Addr}{ob:Obj}(q:h.get? b=some ob)(n:H b=none)(hx:b∉ex):∃ sl,h1.get? b=some {ob with slots:=sl}:=by
 by_cases hb:b∈fs
 ·exact u.slot b ob q n hb hx
 ·exact⟨ob.slots,u.keep b ob q n hb hx⟩
theorem Un.kept (k:∀ b u,h.get? b=some u->h'.get? b=some u):Un fs ex H H h h':=
 ⟨fun b ob q _ _ _=>k b ob q,fun b ob q _ _ _=>⟨ob.slots,k b ob q⟩,fun _ _ _ n _=>n,fun b ob q _=>⟨ob,k b ob q⟩,fun _ _ q=>q,fun _ _ _ q=>q,fun _ ps q=>⟨#[],by rw[q];simp⟩⟩
theorem Un.refl:Un fs ex H H h h:=Un.kept fun _ _ q=>q
theorem Un.laid (k:∀ b u,h.get? b=some u->h'.get? b=some u)(hp:h.objs.size<=a)(hn:H a=none):Un fs ex H (upd H a o) h h' where
 keep:=fun b u q _ _ _=>k b u q
 slot:=fun b u q _ _ _=>⟨u.slots,k b u q⟩
 free:=fun b u q n _=>by rw[yO (yR (yH (yi q) hp))];exact n
 there:=fun b u q _=>⟨u,k b u q⟩
 tups:=fun b xs q=>by rw[yO (y6 q hn)];exact q
 frzs:=fun b u xs q=>by rw[yO (y6 q hn)];exact q
 tbls:=fun b ps q=>⟨#[],by rw[yO (y6 q hn),q];simp⟩
theorem Un.write (mu:Mut (H x))(he:e=x∨H e=some (.own x))(k:∀ b u,b≠e->h.get? b=some u->h'.get? b=some u)(heo:∃ u,h'.get? e=some u):Un fs ex H (upd H x o) h h':=by
 have hx:∀ b,H b=none->b≠x:=fun b n z=>by subst z;rw[n] at mu;exact mu
 have hb:∀ b,H b=none->b≠e:=fun b n z=>by
  subst z;rcases he with r|r
  ·exact hx b n r
  ·rw[n] at r;cases r
 have hm:∀ b u,H b=some u->¬ Mut (some u)->b≠x:=fun b u q nm z=>by subst z;rw[q] at mu;exact nm mu
 refine⟨fun b u q n _ _=>k b u (hb b n) q,fun b u q n _ _=>⟨u.slots,k b u (hb b n) q⟩,fun b u q n _=>by rw[yO (hx b n)];exact n,fun b u q _=>?_,
  fun b xs q=>by rw[yO (hm b _ q fun z=>z)];exact q,fun b u xs q=>by rw[yO (hm b _ q fun z=>z)];exact q,fun b ps q=>⟨#[],by rw[yO (hm b _ q fun z=>z),q];simp⟩⟩
 by_cases hbe:b=e
 ·subst hbe;exact heo
 ·exact⟨u,k b u hbe q⟩
end
def trk (h:Heap)(H:Hp):List Addr:=(List.range h.objs.size).filter fun a=>(H a).isSome
def U8 (h:Heap)(H:Hp):Heap:=W.hideAll h (trk h H)
theorem yb3 (h:Heap)(H:Hp):(U8 h H).objs.size=h.objs.size:=W.hideAll_size _ _
theorem ydq {h:Heap}{H:Hp}{b:Addr}{o:Obj}(e:h.get? b=some o)(n:H b=none):(U8 h H).get? b=some o:=
 W.hideAll_get _ e fun hm=>by
  have q:(H b).isSome=true:=(yU.mp hm).2;rw[n] at q;simp at q
theorem ygE {h:Heap}{H:Hp}{b:Addr}{o:Obj}(e:(U8 h H).get? b=some o):h.get? b=some o/\H b=none:=by
 have e':h.get? b=some o:=W.of_hideAll (trk h H) e;refine⟨e',?_⟩;cases q:H b with
 |none=>rfl
 |some x=>
  have hm:b∈trk h H:=yU.mpr ⟨YE.mpr (yi e'),by simp[q]⟩;have z:(U8 h H).get? b=none:=W.hideAll_none (trk h H) hm;rw[z] at e;cases e
structure Mod (K:W.Frag)(mg:Str->Option Value)(base:Heap):Prop where
 kin:K.In base
 glob:base.Ns mainGlobals mg
 blt:∃ mb,base.Ns builtinsNs mb/\∀ x:Str,x ≠ "__name__" -> mb x=bootBuiltins x
 nolimit:base.NoLimit
 seer:base.NoSeer
structure Cx where
 prog:Program
 w:World
 K:W.Frag
 mg:Str->Option Value
 base:Heap
 A:Around
 N:List Str
 s₀:Shared
 H₀:Hp
 env:Env
 outer:List Env
 stack:List Env
 ex:List Addr
 fn:Str->Bool
 calm:Bool
 pn:List (Addr×Obj)
 xe:Value->Shared->Prop
def frs (l:List Env):List Addr:=l.filterMap (·.frame)
abbrev Cx.fs (X:Cx):List Addr:=frs X.outer
def Vis (sc:Scope)(x:Str):Prop:=sc.names.lookup x=some .local∨sc.names.lookup x=some .cell∨sc.names.lookup x=some .free
def Loc (sc:Scope)(x:Str):Prop:=sc.names.lookup x=some .local∨sc.names.lookup x=some .cell
def yj3 (env:Env)(h:Heap)(m:Str->Option Value)(x:Str)(u:Value):Prop:=
 (env.kindOf x=some .local/\m x=some u)∨((env.kindOf x=some .cell∨env.kindOf x=some .free)/\∃ c,env.cells.lookup x=some c/\h.IsCell c (some u))
structure Cx.Ok (X:Cx):Prop where
 mod:Mod X.K X.mg X.base
 kind:X.env.scope.kind=.function
 glob:X.env.globals=mainGlobals
 blt:X.env.builtins=builtinsNs
 above:X.s₀.heap.objs.size<=X.env.locals
 inj:∀ x y c,X.env.cells.lookup x=some c->X.env.cells.lookup y=some c->x=y
 has:∀ x,(X.env.kindOf x=some .cell∨X.env.kindOf x=some .free)->∃ c,X.env.cells.lookup x=some c
 cab:∀ x c,X.fn x=true->X.env.cells.lookup x=some c->X.s₀.heap.objs.size<=c
 hd:X.calm=true->X.A.handled=none
 frames:X.A.frames=some X.stack
 stk:X.stack=X.outer∨(X.stack=X.env::X.outer/\X.env.frame=some X.env.locals)
 exf:∀ b∈X.ex,b≠X.env.locals/\∀ x c,X.env.cells.lookup x=some c->c≠b
 bs:∀ b o,X.base.get? b=some o->X.s₀.heap.get? b=some o/\X.H₀ b=none
 bsz:X.base.objs.size<=X.s₀.heap.objs.size
 noex:∀ b o,X.base.get? b=some o->b∉X.ex
 exfs:∀ b∈X.ex,b∉X.fs
 funs:X.s₀.heap.FunFrames X.base X.outer
 frf:∀ b∈X.fs,X.H₀ b=none
structure Inv (X:Cx)(pins:List (Addr×Obj))(σ:List (Option V))(H:Hp)(s:Shared):Prop where
 ok:X.Ok
 os:s.os=X.s₀.os
 bare:AllBare s.gens
 base:Un X.fs X.ex X.H₀ H X.s₀.heap s.heap
 loc:∃ m,s.heap.Ns X.env.locals m/\∀ (i:Nat) (x:Str) (v:V),X.N[i]?=some x->σ[i]?=some (some v)->Vis X.env.scope x->∃ u,Yx v u/\yj3 X.env s.heap m x u
 cell:∀ x c,X.env.cells.lookup x=some c->∃ v,s.heap.IsCell c v
 free:H X.env.locals=none
 freeC:∀ x c,X.env.cells.lookup x=some c->H c=none
 pin:∀ p∈X.pn++pins,s.heap.get? p.1=some p.2/\H p.1=none/\p.1≠X.env.locals/\p.1∉X.fs/\∀ v,p.2.data≠.cell v
 hok:HOk X.prog X.w H s.heap
 len:σ.length=X.N.length
section
variable {X:Cx}{pins:List (Addr×Obj)}{σ:List (Option V)}{H H':Hp}{s:Shared}{h':Heap}
theorem Cx.Ok.nofr (ok:X.Ok){b:Addr}{o:Obj}(e:X.base.get? b=some o):b∉X.fs:=fun hb=>by
 have:=(ok.funs.mem hb).1;rw[e] at this;cases this
theorem Inv.bs (I:Inv X pins σ H s):∀ b o,X.base.get? b=some o->s.heap.get? b=some o/\H b=none:=fun b o e=>
 ⟨I.base.keep b o (I.ok.bs b o e).1 (I.ok.bs b o e).2 (I.ok.nofr e) (I.ok.noex b o e),I.base.free b o (I.ok.bs b o e).1 (I.ok.bs b o e).2 (I.ok.noex b o e)⟩
theorem Inv.bk (I:Inv X pins σ H s):∀ b o,X.base.get? b=some o->s.heap.get? b=some o:=fun b o e=>(I.bs b o e).1
theorem Inv.mod (I:Inv X pins σ H s):Mod X.K X.mg X.base:=I.ok.mod
theorem Inv.kIn (I:Inv X pins σ H s):X.K.In s.heap:=I.ok.mod.kin.keeps I.bk
theorem Inv.nolimit (I:Inv X pins σ H s):s.heap.NoLimit:=I.ok.mod.nolimit.keeps I.bk
theorem Inv.lt (I:Inv X pins σ H s):X.env.locals<s.heap.objs.size:=let ⟨_,hn,_⟩:=I.loc;hn.lt
theorem Inv.sz (I:Inv X pins σ H s):X.s₀.heap.objs.size<=s.heap.objs.size:=yQ I.ok.above (qS I.lt)
theorem Inv.nofs (I:Inv X pins σ H s){a:Addr}(h:s.heap.objs.size<=a):a∉X.fs:=fun hb=>by
 obtain⟨_,o,ho,_⟩:=I.ok.funs.mem hb;exact absurd (yH (yi ho) (yQ I.sz h)) (Qp _)
theorem Inv.cne (I:Inv X pins σ H s):∀ x c,X.env.cells.lookup x=some c->c≠X.env.locals:=fun x c e z=>by
 obtain⟨v,o,ho,hd⟩:=I.cell x c e;obtain⟨m,⟨o',es,ep,ho',hd',_⟩,_⟩:=I.loc;rw[z,ho'] at ho;cases ho;rw[hd'] at hd;cases hd
theorem Inv.funs (I:Inv X pins σ H s):s.heap.FunFrames X.base X.outer:=by
 have all:∀ (l:List Env),(∀ b∈frs l,b∈X.fs)->X.s₀.heap.FunFrames X.base l->s.heap.FunFrames X.base l:=by
  intro l
  induction l with
  |nil=>intro _ _;trivial
  |cons env r ih=>
   intro hs hl;obtain⟨hk,⟨L,o,hf,hn,ho,hd⟩,hr⟩:=hl;have hL:L∈X.fs:=hs L (by unfold frs;rw[List.filterMap_cons,hf];exact yp);obtain⟨sl,e⟩:=I.base.slot L o ho (I.ok.frf L hL) hL fun z=>I.ok.exfs L z hL;exact⟨hk,⟨L,_,hf,hn,e,hd⟩,ih (fun b hb=>hs b (by unfold frs;rw[List.filterMap_cons,hf];exact yf _ hb)) hr⟩
 exact all X.outer (fun _ hb=>hb) I.ok.funs
theorem Inv.stack (I:Inv X pins σ H s):s.heap.FunFrames X.base X.stack:=by
 rcases I.ok.stk with e|⟨e,hf⟩
 ·rw[e];exact I.funs
 ·rw[e];obtain⟨m,hn,_⟩:=I.loc;refine .cons (by rw[I.ok.kind];decide) hf hn ?_ I.funs;exact Heap.get?_none_of_le (yQ I.ok.bsz I.ok.above)
theorem Inv.stkSub (I:Inv X pins σ H s):∀ b∈frs X.stack,b∈X.env.locals::X.fs:=fun b hb=>by
 rcases I.ok.stk with e|⟨e,hf⟩
 ·rw[e] at hb;exact yf _ hb
 ·rw[e] at hb;unfold frs at hb;rw[List.filterMap_cons,hf] at hb;exact hb
theorem Inv.stkFree (I:Inv X pins σ H s):∀ b∈frs X.stack,H b=none:=fun b hb=>by
 rcases yA.mp (I.stkSub b hb) with e|hb
 ·rw[e];exact I.free
 ·obtain⟨_,o,ho,_⟩:=I.ok.funs.mem hb;exact I.base.free b o ho (I.ok.frf b hb) fun z=>I.ok.exfs b z hb
theorem Inv.step {g':Array GenState}{t':Nat}{d':Drawn}{ch:List Addr}(I:Inv X pins σ H s)
  (hch:∀ b∈ch,(b∈X.ex∨X.s₀.heap.objs.size<=b)/\b≠X.env.locals/\(∀ x c,X.env.cells.lookup x=some c->c≠b)/\∀ p∈X.pn++pins,p.1≠b)
  (keep:∀ b o,b≠X.env.locals->b∉X.fs->b∉ch->s.heap.get? b=some o->H b=none->h'.get? b=some o)
  (slot:∀ b o,b≠X.env.locals->b∈X.fs->b∉ch->s.heap.get? b=some o->H b=none->∃ sl,h'.get? b=some {o with slots:=sl}) (free:∀ b o,b∉ch->s.heap.get? b=some o->H b=none->H' b=none)
  (there:∀ b o,b∉ch->s.heap.get? b=some o->∃ o',h'.get? b=some o')
  (tups:∀ b xs,H b=some (.tup xs)->H' b=some (.tup xs)) (frzs:∀ b o u,H b=some (.frz o u)->H' b=some (.frz o u)) (tbls:∀ b ps,H b=some (.tbl ps)->∃ more,H' b=some (.tbl (ps++more)))
  (ns:∀ m,s.heap.Ns X.env.locals m->h'.Ns X.env.locals m) (hok:HOk X.prog X.w H' h') (hg:AllBare g') :
  Inv X pins σ H' {s with heap:=h',gens:=g',drawn:=d',toks:=t'}:=by
 have neL:∀ b o,X.s₀.heap.get? b=some o->b≠X.env.locals:=fun b o e=>yR (yH (yi e) I.ok.above);have neC:∀ b o,X.s₀.heap.get? b=some o->b∉X.ex->b∉ch:=fun b o e hx hb=>by
  rcases (hch b hb).1 with z|z
  ·exact hx z
  ·exact absurd (yH (yi e) z) (Qp _)
 have cellK:∀ x c,X.env.cells.lookup x=some c->∀ v,s.heap.IsCell c v->h'.IsCell c v:=fun x c e v ⟨o,ho,hd⟩=>by
  have nch:c∉ch:=fun z=>(hch c z).2.2.1 x c e rfl;by_cases hc:c∈X.fs
  ·obtain⟨sl,q⟩:=slot c o (I.cne x c e) hc nch ho (I.freeC x c e);exact⟨_,q,hd⟩
  ·exact⟨o,keep c o (I.cne x c e) hc nch ho (I.freeC x c e),hd⟩
 refine⟨I.ok,I.os,hg,⟨fun b o e n hb hx=>?_,fun b o e n hb hx=>?_,fun b o e n hx=>?_,fun b o e hx=>?_,fun b xs e=>tups b xs (I.base.tups b xs e),fun b o xs e=>frzs b o xs (I.base.frzs b o xs e),fun b ps e=>?_⟩,?_,fun x c e=>?_,?_,fun x c e=>?_,fun p hp=>?_,hok,I.len⟩
 ·exact keep b o (neL b o e) hb (neC b o e hx) (I.base.keep b o e n hb hx) (I.base.free b o e n hx)
 ·obtain⟨sl,e1⟩:=I.base.slot b o e n hb hx;obtain⟨sl',e2⟩:=slot b _ (neL b o e) hb (neC b o e hx) e1 (I.base.free b o e n hx);exact⟨sl',e2⟩
 ·obtain⟨o',e1⟩:=I.base.there b o e hx;exact free b o' (neC b o e hx) e1 (I.base.free b o e n hx)
 ·obtain⟨o',e1⟩:=I.base.there b o e hx;exact there b o' (neC b o e hx) e1
 ·obtain⟨m1,e1⟩:=I.base.tbls b ps e;obtain⟨m2,e2⟩:=tbls b _ e1;exact⟨m1++m2,by rw[e2,Array.append_assoc]⟩
 ·obtain⟨m,hn,hl⟩:=I.loc;refine⟨m,ns m hn,fun i x v e1 e2 e3=>?_⟩;obtain⟨u,r,l⟩:=hl i x v e1 e2 e3;refine⟨u,r,?_⟩;rcases l with l|⟨k,c,e,z⟩
  ·exact .inl l
  ·exact .inr ⟨k,c,e,cellK x c e _ z⟩
 ·obtain⟨v,z⟩:=I.cell x c e;exact⟨v,cellK x c e v z⟩
 ·obtain⟨m,⟨o,_,_,ho,_⟩,_⟩:=I.loc;exact free _ o (fun z=>(hch _ z).2.1 rfl) ho I.free
 ·obtain⟨v,o,ho,hd⟩:=I.cell x c e;exact free c o (fun z=>(hch c z).2.2.1 x c e rfl) ho (I.freeC x c e)
 ·obtain⟨e,n,ne,nf,d⟩:=I.pin p hp;have nch:p.1∉ch:=fun z=>(hch p.1 z).2.2.2 p hp rfl;exact⟨keep p.1 p.2 ne nf nch e n,free p.1 p.2 nch e n,ne,nf,d⟩
theorem Inv.un {t':Nat}(I:Inv X pins σ H s)(u:Un X.fs [] H H' s.heap h')(hok:HOk X.prog X.w H' h'):Inv X pins σ H' {s with heap:=h',toks:=t'}:=by
 obtain⟨m,⟨o,es,ep,ho,r⟩,_⟩:=id I.loc;obtain⟨sl,hL⟩:=u.any ho I.free (by simp);exact I.step (g':=s.gens) (d':=s.drawn) (ch:=[]) (fun _ z=>nomatch z) (fun b o _ hb _ e n=>u.keep b o e n hb (by simp)) (fun b o _ hb _ e n=>u.slot b o e n hb (by simp)) (fun b o _ e n=>u.free b o e n (by simp)) (fun b o _ e=>u.there b o e (by simp)) u.tups u.frzs u.tbls (fun m' hm=>by
  obtain⟨o',es',ep',ho',r'⟩:=hm;rw[ho] at ho';cases ho';exact⟨_,es',ep',hL,r'⟩) hok I.bare
theorem Inv.call {g':Array GenState}{t':Nat}{d':Drawn}{ch:List Addr}(I:Inv X pins σ H s)(u:Un (frs X.stack) ch H H' s.heap h')(hok:HOk X.prog X.w H' h')(hg:AllBare g')
  (hch:∀ b∈ch,(b∈X.ex∨X.s₀.heap.objs.size<=b)/\b≠X.env.locals/\(∀ x c,X.env.cells.lookup x=some c->c≠b)/\∀ p∈X.pn++pins,p.1≠b) :
  Inv X pins σ H' {s with heap:=h',gens:=g',drawn:=d',toks:=t'}:=by
 obtain⟨m,⟨o,es,ep,ho,r⟩,_⟩:=id I.loc;obtain⟨sl,hL⟩:=u.any ho I.free fun z=>(hch _ z).2.1 rfl;exact I.step (ch:=ch) hch (fun b o hL hb hc e n=>u.keep b o e n (fun z=>(yA.mp (I.stkSub b z)).elim hL hb) hc) (fun b o _ _ hc e n=>u.any e n hc) (fun b o hc e n=>u.free b o e n hc) (fun b o hc e=>u.there b o e hc) u.tups u.frzs u.tbls (fun m' hm=>by
  obtain⟨o',es',ep',ho',r'⟩:=hm;rw[ho] at ho';cases ho';exact⟨_,es',ep',hL,r'⟩) hok hg
theorem Inv.turned {t':Nat}{it:Addr}(I:Inv X pins σ H s)(k:∀ b o,b≠it->s.heap.get? b=some o->h'.get? b=some o)(hn:H it=none)(hL:it≠X.env.locals)
  (h1:it∈X.ex∨X.s₀.heap.objs.size<=it) (h2:∀ x c,X.env.cells.lookup x=some c->c≠it) (h3:∀ p∈X.pn++pins,p.1≠it):Inv X pins σ H {s with heap:=h',toks:=t'}:=by
 have nit:∀ b u,H b=some u->b≠it:=fun b u e z=>by rw[z,hn] at e;cases e
 refine I.step (g':=s.gens) (d':=s.drawn) (ch:=[it]) (fun b hb=>?_) (fun b o _ _ hc e _=>k b o (fun z=>hc (by simp[z])) e) (fun b o _ _ hc e _=>⟨o.slots,k b o (fun z=>hc (by simp[z])) e⟩) (fun _ _ _ _ n=>n)
  (fun b o hc e=>⟨o,k b o (fun z=>hc (by simp[z])) e⟩) (fun _ _ e=>e) (fun _ _ _ e=>e) (fun b ps e=>⟨#[],by rw[e];simp⟩) (fun m hm=>?_) (fun b u e=>?_) I.bare
 ·have e:b=it:=by simpa using hb
  subst e;exact⟨h1,hL,h2,h3⟩
 ·obtain⟨o,es,ep,ho,r⟩:=hm;exact⟨o,es,ep,k _ o (Ne.symm hL) ho,r⟩
 ·refine(I.hok b u e).stay (fun c v hc q=>k c v ?_ q) (fun _ q=>q) fun _ _ q=>q;rcases hc with z|z
  ·rw[z];exact nit b u e
  ·exact nit c _ z
theorem Inv.tok (I:Inv X pins σ H s)(t:Nat):Inv X pins σ H {s with toks:=t}:=I.un (h':=s.heap) (t':=t) Un.refl I.hok
theorem Inv.kept {t':Nat}(I:Inv X pins σ H s)(k:∀ b u,s.heap.get? b=some u->h'.get? b=some u):Inv X pins σ H {s with heap:=h',toks:=t'}:=I.un (Un.kept k) (I.hok.kept k)
theorem Inv.laid {a:Addr}{o:HO}{t':Nat}(I:Inv X pins σ H s)(k:∀ b u,s.heap.get? b=some u->h'.get? b=some u)(hp:s.heap.objs.size<=a)(new:Qh X.prog X.w (upd H a o) h' a o) :
  Inv X pins σ (upd H a o) {s with heap:=h',toks:=t'}:=I.un (Un.laid k hp (I.hok.fresh hp)) (I.hok.laid k hp new)
theorem Inv.write {x e:Addr}{o:HO}{t':Nat}(I:Inv X pins σ H s)(mu:Mut (H x))(he:e=x∨H e=some (.own x))(k:∀ b u,b≠e->s.heap.get? b=some u->h'.get? b=some u)(heo:∃ u,h'.get? e=some u)
  (new:Qh X.prog X.w (upd H x o) h' x o):Inv X pins σ (upd H x o) {s with heap:=h',toks:=t'}:=I.un (Un.write mu he k heo) (I.hok.write mu he k heo new)
theorem Inv.pins_of {pins':List (Addr×Obj)}(I:Inv X pins σ H s)(h:∀ p∈pins',s.heap.get? p.1=some p.2/\H p.1=none/\p.1≠X.env.locals/\p.1∉X.fs/\∀ v,p.2.data≠.cell v):Inv X pins' σ H s:=
 ⟨I.ok,I.os,I.bare,I.base,I.loc,I.cell,I.free,I.freeC,fun p hp=>(yY.mp hp).elim (fun z=>I.pin p (y8 _ z)) (h p),I.hok,I.len⟩
theorem WD {N:List Str}(hN:N.Nodup){i j:Nat}{x:Str}(a:N[i]?=some x)(b:N[j]?=some x):i=j:=by
 obtain⟨h1,e1⟩:=al_getElem?_eq_some_iff.mp a;obtain⟨h2,e2⟩:=al_getElem?_eq_some_iff.mp b;exact(List.getElem_inj hN).mp (e1.trans e2.symm)
theorem uR {M:Model}{A:Around}{E:Value->Shared->Prop}{i:Nat}{x:Str}{v:V}{u:Value}{Q:Unit->Shared->Prop}(I:Inv X pins σ H s)(hN:X.N.Nodup)(hi:X.N[i]?=some x)(hx:Loc X.env.scope x)(r:Yx v u)
  (h:∀ s',Inv X pins (σ.set i (some v)) H s'->(∃ a,Heap.SameBut a s.heap s'.heap/\(a=X.env.locals∨X.env.cells.lookup x=some a))->Q () s') (hf:X.fn x=true∨X.env.scope.names.lookup x=some .local:=by first|exact .inl rfl|exact .inr rfl|assumption):wpAny M A (storeName X.env x u) Q E s:=by
 obtain⟨m,hn,hl⟩:=id I.loc;have hcls:(X.env.scope.kind==.class||(X.env.scope.kind==.module&&X.env.locals != X.env.globals))=false:=by rw[I.ok.kind];rfl
 have hiσ:i<σ.length:=by rw[I.len];exact(al_getElem?_eq_some_iff.mp hi).1
 have cne:=I.cne;have tracked:∀ {a:Addr} {h':Heap},(∃ o,s.heap.get? a=some o/\H a=none)->Heap.SameBut a s.heap h'->HOk X.prog X.w H h':=fun {a h'} ha hs b ob e=>by
  obtain⟨_,_,hfree⟩:=ha;refine(I.hok b ob e).stay (fun c w' hc q=>(hs.2 c ?_).trans q) (fun _ q=>q) fun _ _ q=>q;rintro rfl;rcases hc with rfl|hc
  ·rw[hfree] at e;cases e
  ·rw[hfree] at hc;cases hc
 rcases hx with hk|hk
 ·refine wpAny_storeName_local hk hn (fun h' hn' hs=>?_) hcls;obtain⟨oL,_,_,hoL,_⟩:=id hn;refine h _ ⟨I.ok,I.os,I.bare,⟨fun b o e n hb hx=>?_,fun b o e n hb hx=>?_,I.base.free,fun b o e hx=>?_,I.base.tups,I.base.frzs,I.base.tbls⟩,⟨_,hn',fun j y v' e1 e2 e3=>?_⟩,fun y c e=>?_,I.free,I.freeC,fun p hp=>?_,tracked ⟨oL,hoL,I.free⟩ hs,by simpa using I.len⟩ ⟨_,hs,.inl rfl⟩
  ·exact(hs.2 b (yR (yH (yi e) I.ok.above))).trans (I.base.keep b o e n hb hx)
  ·obtain⟨sl,e1⟩:=I.base.slot b o e n hb hx;exact⟨sl,(hs.2 b (yR (yH (yi e) I.ok.above))).trans e1⟩
  ·obtain⟨o',e1⟩:=I.base.there b o e hx;exact⟨o',(hs.2 b (yR (yH (yi e) I.ok.above))).trans e1⟩
  ·by_cases hj:j=i
   ·subst hj;rw[hi] at e1;cases e1;rw[List.getElem?_set_self hiσ] at e2;cases e2;exact⟨u,r,.inl ⟨hk,by simp⟩⟩
   ·rw[al_getElem?_set_ne (Ne.symm hj)] at e2;obtain⟨u',r',q⟩:=hl j y v' e1 e2 e3;refine⟨u',r',?_⟩;rcases q with ⟨k,e⟩|⟨k,c,e,z⟩
    ·refine .inl ⟨k,?_⟩;have:y≠x:=fun e=>hj (WD hN e1 (e▸hi));simp[this,e]
    ·exact .inr ⟨k,c,e,z.sameBut hs (cne y c e)⟩
  ·obtain⟨w',z⟩:=I.cell y c e;exact⟨w',z.sameBut hs (cne y c e)⟩
  ·obtain⟨e,n,ne,nf,d⟩:=I.pin p hp;exact⟨(hs.2 p.1 ne).trans e,n,ne,nf,d⟩
 ·have hfn:X.fn x=true:=by
   rcases hf with z|z
   ·exact z
   ·rw[z] at hk;cases hk
  obtain⟨c,hc⟩:=I.ok.has x (.inl hk);obtain⟨w',z⟩:=I.cell x c hc;refine wpAny_storeName_cell I.ok.kind hk hc z (fun h' hc' hs=>?_);obtain⟨oc,hoc,hocd⟩:=id z;refine h {s with heap:=h'} ⟨I.ok,I.os,I.bare,⟨fun b o e n hb hx=>?_,fun b o e n hb hx=>?_,I.base.free,fun b o e hx=>?_,I.base.tups,I.base.frzs,I.base.tbls⟩,⟨m,hn.sameBut hs (Ne.symm (cne x c hc)),fun j y v' e1 e2 e3=>?_⟩,fun y c' e=>?_,I.free,I.freeC,fun p hp=>?_,tracked ⟨oc,hoc,I.freeC x c hc⟩ hs,by simpa using I.len⟩ ⟨c,hs,.inr hc⟩
  ·exact(hs.2 b (yR (yH (yi e) (I.ok.cab x c hfn hc)))).trans (I.base.keep b o e n hb hx)
  ·obtain⟨sl,e1⟩:=I.base.slot b o e n hb hx;exact⟨sl,(hs.2 b (yR (yH (yi e) (I.ok.cab x c hfn hc)))).trans e1⟩
  ·obtain⟨o',e1⟩:=I.base.there b o e hx;exact⟨o',(hs.2 b (yR (yH (yi e) (I.ok.cab x c hfn hc)))).trans e1⟩
  ·by_cases hj:j=i
   ·subst hj;rw[hi] at e1;cases e1;rw[List.getElem?_set_self hiσ] at e2;cases e2;exact⟨u,r,.inr ⟨.inl hk,c,hc,hc'⟩⟩
   ·rw[al_getElem?_set_ne (Ne.symm hj)] at e2;obtain⟨u',r',q⟩:=hl j y v' e1 e2 e3;refine⟨u',r',?_⟩;rcases q with q|⟨k,c',e,z'⟩
    ·exact .inl q
    ·refine .inr ⟨k,c',e,z'.sameBut hs ?_⟩;rintro rfl;exact hj (WD hN e1 (I.ok.inj _ _ _ e hc▸hi))
  ·by_cases hcc:c'=c
   ·subst hcc;exact⟨_,hc'⟩
   ·obtain⟨w2,z2⟩:=I.cell y c' e;exact⟨w2,z2.sameBut hs hcc⟩
  ·obtain⟨e,n,ne,nf,d⟩:=I.pin p hp;refine⟨(hs.2 p.1 ?_).trans e,n,ne,nf,d⟩;intro q;rw[q,hoc] at e;have q':oc=p.2:=Option.some.inj e;exact d w' (by rw[←q'];exact hocd)
theorem Wf {M:Model}{A:Around}{E:Value->Shared->Prop}{i:Nat}{x:Str}{v:V}{u:Value}{Q:Unit->Shared->Prop}(I:Inv X pins σ H s)(hN:X.N.Nodup)(hi:X.N[i]?=some x)(hx:Loc X.env.scope x)(r:Yx v u)
  (h:∀ s',Inv X pins (σ.set i (some v)) H s'->Q () s') (hf:X.fn x=true∨X.env.scope.names.lookup x=some .local:=by first|exact .inl rfl|exact .inr rfl|assumption):wpAny M A (storeName X.env x u) Q E s:=
 uR I hN hi hx r (fun s' I' _=>h s' I') hf
theorem Inv.call' {s':Shared}{ch:List Addr}(I:Inv X pins σ H s)(ho:s'.os=s.os)(u:Un (frs X.stack) ch H H' s.heap s'.heap)(hok:HOk X.prog X.w H' s'.heap)(hg:AllBare s'.gens)
  (hch:∀ b∈ch,(b∈X.ex∨X.s₀.heap.objs.size<=b)/\b≠X.env.locals/\(∀ x c,X.env.cells.lookup x=some c->c≠b)/\∀ p∈X.pn++pins,p.1≠b):Inv X pins σ H' s':=by
 obtain⟨h',g',d',t',o'⟩:=s';have e:o'=s.os:=ho;subst e;exact I.call (g':=g') (t':=t') (d':=d') u hok hg hch
end
abbrev XK:=Value->Option Addr->Hp->Prop
abbrev St:=List (Option V)
abbrev VK:=V->Hp->Prop
abbrev TE:=St->Hp->VK->Prop
abbrev TT:=St->Hp->(Bool->Hp->Prop)->Prop
abbrev TA:=St->Hp->(List V->Hp->Prop)->Prop
structure Ends where
 nx:St->Hp->Prop
 rt:VK
 bk:St->Hp->Prop:=fun _ _=>False
 ct:St->Hp->Prop:=fun _ _=>False
abbrev TS:=Ends->St->Hp->Prop
def EP (X:Cx)(pins:List (Addr×Obj))(σ:St)(Q:VK)(u:Value)(s':Shared):Prop:=∃ v H',Inv X pins σ H' s'/\Yx v u/\Q v H'
def TP (X:Cx)(pins:List (Addr×Obj))(σ:St)(Q:Bool->Hp->Prop)(b:Bool)(s':Shared):Prop:=∃ H',Inv X pins σ H' s'/\Q b H'
def AP (X:Cx)(pins:List (Addr×Obj))(σ:St)(Q:List V->Hp->Prop)(us:List Value)(s':Shared):Prop:=∃ vs H',Inv X pins σ H' s'/\YQ vs us/\Q vs H'
def SP (X:Cx)(pins:List (Addr×Obj))(D:Ends)(f:Flow)(s':Shared):Prop:=
 match f with
 |.next=>∃ σ' H',Inv X pins σ' H' s'/\D.nx σ' H'
 |.brk=>∃ σ' H',Inv X pins σ' H' s'/\D.bk σ' H'
 |.cont=>∃ σ' H',Inv X pins σ' H' s'/\D.ct σ' H'
 |.ret u=>∃ v σ' H',Inv X pins σ' H' s'/\Yx v u/\D.rt v H'
def PE (X:Cx)(e:Expr)(t:TE):Prop:=
 ∀ (pins:List (Addr×Obj)) (s:Shared) (σ:St) (H:Hp) (Q:VK),Inv X pins σ H s->t σ H Q->wpAny (model X.prog X.w) X.A (eval e X.env) (EP X pins σ Q) X.xe s
def PT (X:Cx)(e:Expr)(t:TT):Prop:=
 ∀ (pins:List (Addr×Obj)) (s:Shared) (σ:St) (H:Hp) (Q:Bool->Hp->Prop),Inv X pins σ H s->t σ H Q->wpAny (model X.prog X.w) X.A (isTrue e X.env (eval e X.env)) (TP X pins σ Q) X.xe s
def PW (X:Cx)(e:Expr)(t:TT):Prop:=
 ∀ (whole:Sem Value) (pins:List (Addr×Obj)) (s:Shared) (σ:St) (H:Hp) (Q:Bool->Hp->Prop),Inv X pins σ H s->t σ H Q->wpAny (model X.prog X.w) X.A (isTrue e X.env whole) (TP X pins σ Q) X.xe s
theorem PW.pt {X:Cx}{e:Expr}{t:TT}(h:PW X e t):PT X e t:=h _
def PA (X:Cx)(es:List Expr)(t:TA):Prop:=
 ∀ (pos:Pos) (pins:List (Addr×Obj)) (s:Shared) (σ:St) (H:Hp) (Q:List V->Hp->Prop),Inv X pins σ H s->t σ H Q->wpAny (model X.prog X.w) X.A (spliced (backTo pos (starEach es X.env))) (AP X pins σ Q) X.xe s
def PS (X:Cx)(st:Stmt)(t:TS):Prop:=
 ∀ (pins:List (Addr×Obj)) (s:Shared) (σ:St) (H:Hp) (D:Ends),Inv X pins σ H s->t D σ H->wpAny (model X.prog X.w) X.A (exec st X.env) (SP X pins D) X.xe s
def PSs (X:Cx)(st:List Stmt)(t:TS):Prop:=
 ∀ (pins:List (Addr×Obj)) (s:Shared) (σ:St) (H:Hp) (D:Ends),Inv X pins σ H s->t D σ H->wpAny (model X.prog X.w) X.A (execs st X.env) (SP X pins D) X.xe s
theorem thn {α:Type}{t:Sem α}{Q Q':α->Shared->Prop}{M:Model}{A:Around}{E:Value->Shared->Prop}{s:Shared}(h:wpAny M A t Q E s)(hQ:∀ a s,Q a s->Q' a s):wpAny M A t Q' E s:=YJ h hQ fun _ _ x=>x
section
variable {X:Cx}
def yjR (i:Nat):TE:=fun σ H Q=>∃ v,σ[i]?=some (some v)/\Q v H
def tC (v:V):TE:=fun _ H Q=>Q v H
theorem k8 {i:Nat}{x:Str}{pos:Pos}(hN:X.N[i]?=some x)(hv:Vis X.env.scope x)(hd:(x==("__debug__" : Str))=false:=by decide)(hcd:(x==("__classdict__" : Str))=false:=by decide):PE X (.Name x pos) (yjR i):=by
 intro pins s σ H Q I h;obtain⟨v,e,h⟩:=h;obtain⟨m,hn,hl⟩:=I.loc;obtain⟨u,r,l⟩:=hl i x v hN e hv;have fin:EP X pins σ Q u s:=⟨v,H,I,r,h⟩
 rcases l with ⟨hk,hm⟩|⟨hk,c,hc,hcell⟩
 ·exact wpAny_Name (wpAny_loadName_local I.ok.kind hk hn hm fin) hd
 ·rcases hk with hk|hk
  ·exact wpAny_Name (wpAny_loadName_cell I.ok.kind hk hc hcell fin) hd
  ·exact wpAny_Name (wpAny_loadName_free I.ok.kind hk hc hcell fin hcd) hd
theorem zH {i j pos}:PE X (.Constant (.int i) j pos) (tC (.int i)):=fun _ _ _ H _ I h=>wpAny_Constant_int ⟨.int i,H,I.tok _,⟨_,rfl⟩,h⟩
theorem yjs {b j pos}:PE X (.Constant (.bool b) j pos) (tC (.bl b)):=fun _ _ _ H _ I h=>Constant_bool ⟨.bl b,H,I,rfl,h⟩
theorem yh8 {x j pos}:PE X (.Constant (.str x) j pos) (tC (.str x)):=fun _ _ _ H _ I h=>Calls.Constant_str ⟨.str x,H,I.tok _,⟨_,rfl⟩,h⟩
def Gl (X:Cx)(x:Str):Prop:=X.env.kindOf x=some .globalImplicit
theorem UF {E:Value->Shared->Prop}{pins:List (Addr×Obj)}{s:Shared}{σ:St}{H:Hp}{x:Str}{u:Value}{pos:Pos}{Q:Value->Shared->Prop}(I:Inv X pins σ H s)(hg:Gl X x)(hm:X.mg x=some u)(h:Q u s)
  (hd:(x==("__debug__" : Str))=false:=by decide):wpAny (model X.prog X.w) X.A (eval (.Name x pos) X.env) Q E s:=
 Calls.Name_function_global I.ok.kind hg (Calls.loadGlobal_global (by rw[I.ok.glob];exact I.mod.glob.keeps I.bk) hm h) hd
theorem Zl {E:Value->Shared->Prop}{pins:List (Addr×Obj)}{s:Shared}{σ:St}{H:Hp}{x:Str}{u:Value}{pos:Pos}{Q:Value->Shared->Prop}(I:Inv X pins σ H s)(hg:Gl X x)(hm:X.mg x=none)(hv:bootBuiltins x=some u)(h:Q u s)
  (hn:x ≠ "__name__" :=by decide) (hd:(x==("__debug__" : Str))=false:=by decide):wpAny (model X.prog X.w) X.A (eval (.Name x pos) X.env) Q E s:=by
 obtain⟨mb,h1,h2⟩:=I.mod.blt;exact Calls.Name_function_global I.ok.kind hg (Calls.loadGlobal_builtin (by rw[I.ok.glob];exact I.mod.glob.keeps I.bk) hm (by rw[I.ok.blt];exact h1.keeps I.bk) ((h2 x hn).trans hv) h) hd
theorem ygJ {x:Str}{v:V}{u:Value}{pos:Pos}(hg:Gl X x)(hm:X.mg x=some u)(r:Yx v u)(hd:(x==("__debug__" : Str))=false:=by decide):PE X (.Name x pos) (tC v):=
 fun _ _ _ H _ I h=>UF I hg hm ⟨v,H,I,r,h⟩ hd
variable {a b:Expr}{ta tb:TE}{pos:Pos}
def tB (t:TE):TT:=fun σ H Q=>t σ H fun x H1=>∃ c,x=.bl c/\Q c H1
theorem ycu {e:Expr}{t:TE}(h:PE X e t)(he:∀ whole,isTrue e X.env whole=(do let v ←whole;standAt e.pos;holding [v] (truthy v)):=by intro _;rfl):PT X e (tB t):=by
 intro pins s σ H Q I hw;refine isTrue_plain (thn (h pins s σ H _ I hw) fun v s1 ⟨x,H1,I1,r1,q1⟩=>?_) (he _);obtain⟨d,rfl,q⟩:=q1;cases r1;exact Y0 ⟨H1,I1,q⟩
variable {tA tB':TT}{rest:List Expr}
def ykn (t u:TT):TT:=fun σ H Q=>t σ H fun c H1=>if c=true then u σ H1 Q else Q false H1
def tOr (t u:TT):TT:=fun σ H Q=>t σ H fun c H1=>if c=true then Q true H1 else u σ H1 Q
def yka (t:TT):TT:=fun σ H Q=>t σ H fun c H1=>Q (!c) H1
theorem yfM (ha:PT X a tA):PW X (.BoolOp .And [a] pos) tA:=by
 intro wh pins s σ H Q I h;refine isTrue_and (thn (ha pins s σ H Q I h) fun c s1 e=>?_);cases c with
 |true=>exact isTrue_and_nil e
 |false=>exact e
theorem yhu (ha:PT X a tA):PW X (.BoolOp .Or [a] pos) tA:=by
 intro wh pins s σ H Q I h;refine isTrue_or (thn (ha pins s σ H Q I h) fun c s1 e=>?_);cases c with
 |false=>exact isTrue_or_nil e
 |true=>exact e
theorem ydn (ha:PT X a tA)(hb:PW X (.BoolOp .And (b::rest) pos) tB'):PW X (.BoolOp .And (a::b::rest) pos) (ykn tA tB'):=by
 intro wh pins s σ H Q I h;refine isTrue_and (thn (ha pins s σ H _ I h) fun c s1 ⟨H1,I1,q1⟩=>?_);cases c with
 |true=>exact hb wh pins s1 σ H1 Q I1 q1
 |false=>exact⟨H1,I1,q1⟩
theorem ygM (ha:PT X a tA)(hb:PW X (.BoolOp .Or (b::rest) pos) tB'):PW X (.BoolOp .Or (a::b::rest) pos) (tOr tA tB'):=by
 intro wh pins s σ H Q I h;refine isTrue_or (thn (ha pins s σ H _ I h) fun c s1 ⟨H1,I1,q1⟩=>?_);cases c with
 |true=>exact⟨H1,I1,q1⟩
 |false=>exact hb wh pins s1 σ H1 Q I1 q1
theorem yh2 (ha:PT X a tA):PT X (.UnaryOp .Not a pos) (yka tA):=by
 intro pins s σ H Q I h;exact isTrue_not (ha pins s σ H (fun c H1=>Q (!c) H1) I h)
def yjh (ta tb:TE):TE:=fun σ H Q=>ta σ H fun x H1=>∃ c,x=.bl c/\if c=true then tb σ H1 Q else Q (.bl false) H1
def yjZ (ta tb:TE):TE:=fun σ H Q=>ta σ H fun x H1=>∃ c,x=.bl c/\if c=true then Q (.bl true) H1 else tb σ H1 Q
theorem ycy {op}{t:TE}(h:PE X a t):PE X (.BoolOp op [a] pos) t:=fun pins s σ H Q I hw=>BoolOp_one (h pins s σ H Q I hw)
theorem Xp (ha:PE X a ta)(hb:PE X (.BoolOp .And (b::rest) pos) tb):PE X (.BoolOp .And (a::b::rest) pos) (yjh ta tb):=by
 intro pins s σ H Q I h;refine BoolOp_and (thn (ha pins s σ H _ I h) fun v s1 ⟨x,H1,I1,r1,q1⟩=>?_);obtain⟨c,rfl,q1⟩:=q1;cases r1;refine Y0 ?_;cases c with
 |true=>exact hb pins s1 σ H1 Q I1 q1
 |false=>exact⟨.bl false,H1,I1,rfl,q1⟩
theorem ygU (ha:PE X a ta)(hb:PE X (.BoolOp .Or (b::rest) pos) tb):PE X (.BoolOp .Or (a::b::rest) pos) (yjZ ta tb):=by
 intro pins s σ H Q I h;refine BoolOp_or (thn (ha pins s σ H _ I h) fun v s1 ⟨x,H1,I1,r1,q1⟩=>?_);obtain⟨c,rfl,q1⟩:=q1;cases r1;refine Y0 ?_;cases c with
 |false=>exact hb pins s1 σ H1 Q I1 q1
 |true=>exact⟨.bl true,H1,I1,rfl,q1⟩
def tIf (t:TT)(ta tb:TE):TE:=fun σ H Q=>t σ H fun c H1=>if c=true then ta σ H1 Q else tb σ H1 Q
theorem wO {c:Expr}(hc:PT X c tA)(ha:PE X a ta)(hb:PE X b tb):PE X (.IfExp c a b pos) (tIf tA ta tb):=by
 intro pins s σ H Q I h;refine wpAny_IfExp (thn (hc pins s σ H _ I h) fun d s1 ⟨H1,I1,q1⟩=>?_);cases d with
 |true=>exact ha pins s1 σ H1 Q I1 q1
 |false=>exact hb pins s1 σ H1 Q I1 q1
end
def SqL (K:W.Frag)(H:Hp)(a:Addr)(xs:List V):Prop:=
 Rd H a (.lst xs) ∨
  ∃ (o:Obj) (its:Array Value) (n:Nat),K.lookup a=some o/\o.cls=.type "list" /\ o.dict=none/\o.data=.seq its n/\its.size<=sizeLine/\YQ xs its.toList
def SqT (K:W.Frag)(H:Hp)(a:Addr)(xs:List V):Prop:=
 Rd H a (.tup xs) ∨
  ∃ (o:Obj) (its:Array Value) (n:Nat),K.lookup a=some o/\o.cls=.type "tuple" /\ o.data=.seq its n/\its.size<=sizeLine/\YQ xs its.toList
def ykf:Value->Option V
 |.none=>some .non
 |.bool b=>some (.bl b)
 |.int i _=>some (.int i)
 |.str x _=>some (.str x)
 |.bytes b _=>some (.byt b)
 |.float b _=>some (.flt b)
 |.ref a=>some (.ref a)
 |.type n=>some (.ty n)
 |_=>none
theorem Yx.abs {x:V}{u:Value}(r:Yx x u):ykf u=some x:=by
 cases x with
 |non=>cases r;rfl
 |bl _=>cases r;rfl
 |int _=>obtain⟨t,rfl⟩:=r;rfl
 |str _=>obtain⟨t,rfl⟩:=r;rfl
 |byt _=>obtain⟨t,rfl⟩:=r;rfl
 |flt _=>obtain⟨t,rfl⟩:=r;rfl
 |ref _=>cases r;rfl
 |ty _=>cases r;rfl
theorem Yx.inj {x y:V}{u:Value}(r:Yx x u)(q:Yx y u):x=y:=Option.some.inj (r.abs.symm.trans q.abs)
theorem YQ.inj:∀ {xs ys:List V} {us:List Value},YQ xs us->YQ ys us->xs=ys
 |_,_,_,.nil,.nil=>rfl
 |_,_,_,.cons r t,.cons r' t'=>by rw[r.inj r',YQ.inj t t']
section
variable {X:Cx}{pins:List (Addr×Obj)}{σ:St}{H:Hp}{s:Shared}{a:Addr}{xs ys:List V}
theorem SqL.of {K:W.Frag}(h:H a=some (.lst xs)):SqL K H a xs:=.inl (.inl h)
theorem Inv.list (I:Inv X pins σ H s)(h:SqL X.K H a xs):∃ its:List Value,YQ xs its/\PlainL s.heap a its.toArray/\xs.length<=sizeLine:=by
 rcases h with h|⟨o,its,n,hk,hc,hd,hs,hz,r⟩
 ·obtain⟨z,its,n,r,e⟩:=h.ok I.hok;exact⟨its,r,⟨_,n,e,rfl,rfl,rfl⟩,z⟩
 ·refine⟨its.toList,r,⟨o,n,I.kIn a o hk,hc,hd,by simpa using hs⟩,?_⟩;have e:=r.length;simp only[Array.length_toList] at e;omega
theorem Inv.tuple (I:Inv X pins σ H s)(h:SqT X.K H a xs):∃ its:List Value,YQ xs its/\IsTup s.heap a its.toArray/\xs.length<=sizeLine:=by
 rcases h with h|⟨o,its,n,hk,hc,hs,hz,r⟩
 ·obtain⟨z,its,r,p⟩:=h.ok I.hok;exact⟨its,r,p,z⟩
 ·refine⟨its.toList,r,⟨o,I.kIn a o hk,hc,n,by simpa using hs⟩,?_⟩;have e:=r.length;simp only[Array.length_toList] at e;omega
theorem Inv.list_inj (I:Inv X pins σ H s)(h:SqL X.K H a xs)(h':SqL X.K H a ys):xs=ys:=by
 obtain⟨its,r,⟨o,n,e,_,_,d⟩,_⟩:=I.list h;obtain⟨its',r',⟨o',n',e',_,_,d'⟩,_⟩:=I.list h';rw[e] at e';cases e';rw[d] at d';injection d' with d1 _;have:its=its':=by simpa using congrArg Array.toList d1
 subst this;exact r.inj r'
theorem Inv.tuple_inj (I:Inv X pins σ H s)(h:SqT X.K H a xs)(h':SqT X.K H a ys):xs=ys:=by
 obtain⟨its,r,⟨o,e,_,n,d⟩,_⟩:=I.tuple h;obtain⟨its',r',⟨o',e',_,n',d'⟩,_⟩:=I.tuple h';rw[e] at e';cases e';rw[d] at d';injection d' with d1 _;have:its=its':=by simpa using congrArg Array.toList d1
 subst this;exact r.inj r'
end
abbrev Cx.wish (X:Cx)(E:Value->Shared->Prop):Cx:={X with xe:=E}
abbrev Cx.nox (X:Cx):Cx:=X.wish fun _ _=>False
theorem Cx.Ok.wish {X:Cx}(ok:X.Ok)(E:Value->Shared->Prop):(X.wish E).Ok:=
 ⟨ok.mod,ok.kind,ok.glob,ok.blt,ok.above,ok.inj,ok.has,ok.cab,ok.hd,ok.frames,ok.stk,ok.exf,ok.bs,ok.bsz,ok.noex,ok.exfs,ok.funs,ok.frf⟩
theorem Cx.Ok.unwish {X:Cx}{E:Value->Shared->Prop}(ok:(X.wish E).Ok):X.Ok:=
 ⟨ok.mod,ok.kind,ok.glob,ok.blt,ok.above,ok.inj,ok.has,ok.cab,ok.hd,ok.frames,ok.stk,ok.exf,ok.bs,ok.bsz,ok.noex,ok.exfs,ok.funs,ok.frf⟩
section
variable {X:Cx}{pins:List (Addr×Obj)}{σ:St}{H:Hp}{s:Shared}{E:Value->Shared->Prop}
theorem Inv.wish (I:Inv X pins σ H s)(E:Value->Shared->Prop):Inv (X.wish E) pins σ H s:=⟨I.ok.wish E,I.os,I.bare,I.base,I.loc,I.cell,I.free,I.freeC,I.pin,I.hok,I.len⟩
theorem Inv.unwish (I:Inv (X.wish E) pins σ H s):Inv X pins σ H s:=⟨I.ok.unwish,I.os,I.bare,I.base,I.loc,I.cell,I.free,I.freeC,I.pin,I.hok,I.len⟩
theorem SP.unwish {D:Ends}{f:Flow}{s':Shared}(h:SP (X.wish E) pins D f s'):SP X pins D f s':=by
 cases f with
 |next=>obtain⟨σ',H',I,q⟩:=h;exact⟨σ',H',I.unwish,q⟩
 |brk=>obtain⟨σ',H',I,q⟩:=h;exact⟨σ',H',I.unwish,q⟩
 |cont=>obtain⟨σ',H',I,q⟩:=h;exact⟨σ',H',I.unwish,q⟩
 |ret u=>obtain⟨v,σ',H',I,r,q⟩:=h;exact⟨v,σ',H',I.unwish,r,q⟩
theorem PSs.nox {st:List Stmt}{t:TS}(h:PSs X.nox st t):PSs X st t:=fun pins s σ H D I hw=>
 YJ (h pins s σ H D (I.wish _) hw) (fun _ _ q=>q.unwish) fun _ _ z=>False.elim z
end
section
variable {X:Cx}{st:Stmt}{rest:List Stmt}{t u:TS}{e:Expr}{te:TE}{pos:Pos}
def yjM:TS:=fun D σ H=>D.nx σ H
def ykg (t u:TS):TS:=fun D σ H=>t {D with nx:=u D} σ H
theorem ygv:PSs X [] yjM:=fun _ _ σ H _ I h=>wpAny_execs_nil ⟨σ,H,I,h⟩
theorem YX (h1:PS X st t)(h2:PSs X rest u):PSs X (st::rest) (ykg t u):=by
 intro pins s σ H D I h;refine wpAny_execs_cons (thn (h1 pins s σ H {D with nx:=u D} I h) fun f s1 q=>?_);cases f with
 |next=>
  obtain⟨σ',H',I',q⟩:=q;exact h2 pins s1 σ' H' D I' q
 |ret v=>exact q
 |brk=>exact q
 |cont=>exact q
theorem yau (h1:PS X st t):PSs X [st] t:=by
 intro pins s σ H D I h;refine wpAny_execs_cons (thn (h1 pins s σ H D I h) fun f s1 q=>?_);cases f with
 |next=>exact wpAny_execs_nil q
 |ret v=>exact q
 |brk=>exact q
 |cont=>exact q
theorem Inv.quiet {pins:List (Addr×Obj)}{σ:St}{H:Hp}{s:Shared}(I:Inv X pins σ H s):interactive X.env=false:=by simp[interactive,I.ok.kind]
def yaG (te:TE):TS:=fun D σ H=>te σ H fun _ H1=>D.nx σ H1
theorem vL (he:PE X e te)(hs:swapsWith e none pos.line X.env=pure false:=by rfl):PS X (.Expr e pos) (yaG te):=by
 intro pins s σ H D I h;exact wpAny_Expr_any (thn (he pins s σ H _ I h) fun v s1 ⟨x,H1,I1,r1,q1⟩=>⟨σ,H1,I1,q1⟩) I.quiet hs
def yke (te:TE):TS:=fun D σ H=>te σ H D.rt
theorem Uq (he:PE X e te):PS X (.Return (some e) pos) (yke te):=by
 intro pins s σ H D I h;exact wpAny_Return_some (thn (he pins s σ H _ I h) fun v s1 ⟨x,H1,I1,r1,q1⟩=>⟨x,σ,H1,I1,r1,q1⟩)
def yj4 (c:TT)(t u:TS):TS:=fun D σ H=>c σ H fun b H1=>if b=true then t D σ H1 else u D σ H1
theorem ycI {c:Expr}{a b:List Stmt}{tc:TT}(hc:PT X c tc)(ha:PSs X a t)(hb:PSs X b u):PS X (.If c a b pos) (yj4 tc t u):=by
 intro pins s σ H D I h;refine wpAny_If (thn (hc pins s σ H _ I h) fun d s1 ⟨H1,I1,q1⟩=>?_);cases d with
 |true=>exact ha pins s1 σ H1 D I1 q1
 |false=>exact hb pins s1 σ H1 D I1 q1
def yhv:TS:=fun _ _ _=>False
theorem ZL {sts:List Stmt}:PSs X sts yhv:=fun _ _ _ _ _ _ h=>h.elim
end
abbrev TG:=V->St->Hp->(St->Hp->Prop)->Prop
abbrev TGs:=List V->St->Hp->(St->Hp->Prop)->Prop
def PG (X:Cx)(target:Expr)(t:TG):Prop:=
 ∀ (pins:List (Addr×Obj)) (s:Shared) (σ:St) (H:Hp) (v:V) (u:Value) (Q:St->Hp->Prop),Inv X pins σ H s->Yx v u->t v σ H Q->
  wpAny (model X.prog X.w) X.A (assign target X.env u) (fun _ s'=>∃ σ' H',Inv X pins σ' H' s'/\Q σ' H') X.xe s
def PGs (X:Cx)(ts:List Expr)(t:TGs):Prop:=
 ∀ (pins:List (Addr×Obj)) (s:Shared) (σ:St) (H:Hp) (vs:List V) (us:List Value) (Q:St->Hp->Prop),Inv X pins σ H s->YQ vs us->t vs σ H Q->
  wpAny (model X.prog X.w) X.A (assignInOrder ((assignEach ts X.env).map (·.2)) us) (fun _ s'=>∃ σ' H',Inv X pins σ' H' s'/\Q σ' H') X.xe s
abbrev yfJ:=V->V->V->Hp->(Hp->Prop)->Prop
def yi0 (X:Cx)(t:yfJ):Prop:=
 ∀ (pins:List (Addr×Obj)) (s:Shared) (σ:St) (H:Hp) (o i v:V) (ov iv u:Value) (Q:Hp->Prop),Inv X pins σ H s->Yx o ov->Yx i iv->Yx v u->t o i v H Q->
  wpAny (model X.prog X.w) X.A (setItem ov iv u) (fun _ s'=>∃ H',Inv X pins σ H' s'/\Q H') X.xe s
section
variable {X:Cx}{pos:Pos}
def ux (i:Nat):TG:=fun v σ H Q=>Q (σ.set i (some v)) H
theorem ygc {i:Nat}{x:Str}(hN:X.N.Nodup)(hi:X.N[i]?=some x)(hx:Loc X.env.scope x)(hf:X.fn x=true∨X.env.scope.names.lookup x=some .local:=by first|exact .inl rfl|exact .inr rfl|assumption):PG X (.Name x pos) (ux i):=by
 intro pins s σ H v u Q I r h;exact wpAny_assign_Name (Wf I hN hi hx r (fun s' I'=>⟨_,H,I',h⟩) hf)
def yj0:TGs:=fun vs σ H Q=>vs=[]/\Q σ H
def ygN (t:TG)(u:TGs):TGs:=fun vs σ H Q=>∃ v r,vs=v::r/\t v σ H fun σ' H'=>u r σ' H' Q
theorem ygI:PGs X [] yj0:=by
 intro pins s σ H vs us Q I r h;obtain⟨e,h⟩:=h;subst e;cases r;exact assignInOrder_nil ⟨σ,H,I,h⟩
theorem yc3 {e:Expr}{es:List Expr}{t:TG}{u:TGs}(h1:PG X e t)(h2:PGs X es u)
  (hs:(assignEach (e::es) X.env).map (·.2)=assign e X.env::(assignEach es X.env).map (·.2):=by rfl):PGs X (e::es) (ygN t u):=by
 intro pins s σ H vs us Q I r h;obtain⟨v,vr,e1,h⟩:=h;subst e1;cases r with
 |cons r rr=>
  rw[hs];refine assignInOrder_cons (thn (h1 pins s σ H _ _ _ I r h) fun _ s1 ⟨σ1,H1,I1,q1⟩=>?_);exact h2 pins s1 σ1 H1 _ _ Q I1 rr q1
def yj2 (K:W.Frag)(n:Nat)(t:TGs):TG:=fun v σ H Q=>∃ a xs,v=.ref a/\SqT K H a xs/\xs.length=n/\t xs σ H Q
theorem yiQ {es:List Expr}{k:Nat}{t:TGs}{n:Nat}(hc:X.calm=true)(h:PGs X es t)
  (hn:(assignEach es X.env).length=n:=by rfl) (hst:(assignEach es X.env).findIdx? (·.1)=none:=by rfl):PG X (.Tuple es k pos) (yj2 X.K n t):=by
 intro pins s σ H v u Q I r hw;obtain⟨a,xs,e1,hq,hl,hw⟩:=hw;subst e1;cases r;obtain⟨its,rv,ht,hz⟩:=I.tuple hq;refine assign_Tuple_tuple (I.ok.hd hc) ht (by simp[hn,←hl,rv.length]) hst fun h' hx=>?_;have I1:Inv X pins σ H {s with heap:=h'}:=I.kept (t':=s.toks) fun b o e=>hx b o (yR (yi e)) e;exact h pins _ σ H xs _ Q I1 (by simpa using rv) hw
def yj8 (to ti:TE)(t:yfJ):TG:=fun v σ H Q=>to σ H fun o H1=>ti σ H1 fun i H2=>t o i v H2 fun H3=>Q σ H3
theorem ydp {o i:Expr}{to ti:TE}{t:yfJ}(ho:PE X o to)(hi:PE X i ti)(hs:yi0 X t)
  (ha:∀ v,assign (.Subscript o i pos) X.env v=(do
   let ov ←holding [v] (eval o X.env)
   let iv ←holding [v,ov] (eval i X.env)
   standAt pos
   holding [v,ov,iv] (setItem ov iv v)
   release [v,ov,iv] []):=by intro _;rfl):PG X (.Subscript o i pos) (yj8 to ti t):=by
 intro pins s σ H v u Q I r h;rw[ha];refine ya (Yw (thn (ho pins s σ H _ I h) fun ov s1 ⟨x,H1,I1,r1,q1⟩=>?_));refine ya (Yw (thn (hi pins s1 σ H1 _ I1 q1) fun iv s2 ⟨y,H2,I2,r2,q2⟩=>?_));refine ya (wpAny_standAt (ya (Yw (thn (hs pins s2 σ H2 x y v ov iv u _ I2 r1 r2 r q2) fun _ s3 ⟨H3,I3,q3⟩=>?_))));exact wpAny_release ⟨σ,H3,I3,q3⟩
def yhV (te:TE)(g:TG):TS:=fun D σ H=>te σ H fun x H1=>g x σ H1 D.nx
theorem ydW {tg e:Expr}{te:TE}{g:TG}(he:PE X e te)(hg:PG X tg g)(hs:swapsWithSole [tg] e pos.line X.env=pure false:=by rfl)(hw:swappedStores [tg] e X.env=pure none:=by rfl)
  (h1:(assignEach [tg] X.env).map (·.2)=[assign tg X.env]:=by rfl):PS X (.Assign [tg] e pos) (yhV te g):=by
 intro pins s σ H D I h;refine wpAny_Assign_stores (thn (he pins s σ H _ I h) fun v s1 ⟨x,H1,I1,r1,q1⟩=>?_) hs hw;rw[h1];exact thn (hg pins s1 σ H1 x v _ I1 r1 q1) fun _ s2 q=>q
theorem XQ {i:Nat}{x:Str}{e:Expr}{te:TE}{pos':Pos}(hN:X.N.Nodup)(hi:X.N[i]?=some x)(hx:Loc X.env.scope x)(he:PE X e te)(hs:swapsWith e (some (.Name x pos')) pos.line X.env=pure false:=by rfl)(hf:X.fn x=true∨X.env.scope.names.lookup x=some .local:=by first|exact .inl rfl|exact .inr rfl|assumption) :
  PS X (.Assign [.Name x pos'] e pos) (yhV te (ux i)):=by
 intro pins s σ H D I h;refine wpAny_Assign_Name (thn (he pins s σ H _ I h) fun v s1 ⟨y,H1,I1,r1,q1⟩=>?_) hs;exact Wf I1 hN hi hx r1 (fun s2 I2=>⟨_,H1,I2,q1⟩) hf
end
section
variable {X:Cx}{pos:Pos}
def yhr (c:TT)(tb:TS):TS:=fun D σ H=>∃ W:Nat->St->Hp->Prop,(∃ m,W m σ H)/\∀ m σ H,W m σ H->
 c σ H fun b H1=>if b=true then ∃ N:St->Hp->Prop,(∀ σ' H',N σ' H'->∃ m',m'<m/\W m' σ' H')/\tb {D with nx:=N,ct:=N,bk:=D.nx} σ H1 else D.nx σ H1
theorem yc2 {c:Expr}{body:List Stmt}{tc:TT}{tb:TS}(hp:PassesOwn (model X.prog X.w) X.A X.env X.xe)(hc:PT X c tc)(hb:PSs X body tb):PS X (.While c body [] pos) (yhr tc tb):=by
 intro pins s σ H D I h;obtain⟨W,⟨m0,w0⟩,turn⟩:=h;refine wpAny_While (codeAny_whileLoop (fun n s'=>∃ σ' H',Inv X pins σ' H' s'/\W n σ' H') ?_ m0 ⟨σ,H,I,w0⟩);rintro n s1 ⟨σ1,H1,I1,w1⟩;refine wpAny_passesOwn hp (thn (hc pins s1 σ1 H1 _ I1 (turn n σ1 H1 w1)) fun b s2 ⟨H2,I2,q2⟩=>?_);cases b with
 |true=>
  obtain⟨N,hN,q2⟩:=q2;rw[yc rfl];refine wpAny_passesOwn hp (thn (hb pins s2 σ1 H2 _ I2 q2) fun f s3 q3=>?_);cases f with
  |next=>
   obtain⟨σ3,H3,I3,n3⟩:=q3;obtain⟨m',hm,w3⟩:=hN σ3 H3 n3;exact⟨m',hm,σ3,H3,I3,w3⟩
  |cont=>
   obtain⟨σ3,H3,I3,n3⟩:=q3;obtain⟨m',hm,w3⟩:=hN σ3 H3 n3;exact⟨m',hm,σ3,H3,I3,w3⟩
  |brk=>exact q3
  |ret v=>exact q3
 |false=>
  rw[yb yE];exact wpAny_execs_nil ⟨σ1,H2,I2,q2⟩
end
structure It where
 go:Nat->Hp->Prop
 yld:Nat->Hp->V->Hp->Prop
 stop:Nat->Hp->Prop
def VW (X:Cx)(pins:List (Addr×Obj))(H:Hp)(b:Addr):Prop:=
 H b=none/\b≠X.env.locals/\b∉X.fs/\(b∈X.ex∨X.s₀.heap.objs.size<=b)/\(∀ x c,X.env.cells.lookup x=some c->c≠b)/\∀ p∈X.pn++pins,p.1≠b
theorem Inv.fpOk {X:Cx}{pins:List (Addr×Obj)}{σ:St}{H H':Hp}{s:Shared}{b:Addr}(I:Inv X pins σ H s)(hb:s.heap.objs.size<=b)(hn:H' b=none):VW X pins H' b:=by
 refine⟨hn,qH (yH I.lt hb),I.nofs hb,.inr (yQ I.sz hb),fun x c e z=>?_,fun p hp z=>?_⟩
 ·obtain⟨v,q⟩:=I.cell x c e;exact absurd (yH q.lt (by rw[z];exact hb)) (Qp _)
 ·exact absurd (yH (yi (I.pin p hp).1) (by rw[z];exact hb)) (Qp _)
structure Turn (P:Program)(w:World)(K:W.Frag)(tg:Expr)(J:It)(fp:List Addr)(it:Addr)(tn:Nat->Heap->Prop):Prop where
 mem:it∈fp
 obj:∀ i h,tn i h->∀ b∈fp,∃ o,h.get? b=some o/\∀ v,o.data≠.cell v
 keep:∀ i h h',tn i h->(∀ b∈fp,∀ o,h.get? b=some o->h'.get? b=some o)->tn i h'
 item:∀ (X:Cx),X.prog=P->X.w=w->X.K=K->X.calm=true->∀ (i:Nat) (pins:List (Addr×Obj)) (s:Shared) (σ:St) (H:Hp) (E:Value->Shared->Prop),Inv X pins σ H s->(∀ b∈fp,VW X pins H b)->tn i s.heap->J.go i H->
  wpAny (model P w) X.A (pyNext (.ref it)) (fun r s1=>∃ u,r=some u/\
   wpAny (model P w) X.A (letOwnedTupleGo tg (.ref it) u) (fun _ s2=>∃ x H',Inv X pins σ H' s2/\Yx x u/\J.yld i H x H'/\tn (i+1) s2.heap/\∀ b∈fp,H' b=none) E s1) E s
 done:∀ (X:Cx),X.prog=P->X.w=w->X.K=K->X.calm=true->∀ (i:Nat) (pins:List (Addr×Obj)) (s:Shared) (σ:St) (H:Hp) (E:Value->Shared->Prop),Inv X pins σ H s->(∀ b∈fp,VW X pins H b)->tn i s.heap->J.stop i H->
  wpAny (model P w) X.A (pyNext (.ref it)) (fun r s1=>r=none/\Inv X pins σ H s1) E s
 self:∀ (A:Around) (i:Nat) (s:Shared) (Q:Value->Shared->Prop) (E:Value->Shared->Prop),tn i s.heap->Q (.ref it) s->wpAny (model P w) A (pyIter (.ref it)) Q E s
abbrev TI:=St->Hp->(It->Hp->Prop)->Prop
def PIE (X:Cx)(pins:List (Addr×Obj))(σ:St)(tg:Expr)(R:It->Hp->Prop)(itv:Value)(s2:Shared):Prop:=
 ∃ (it:Addr) (fp:List Addr) (tn:Nat->Heap->Prop) (J:It) (H':Hp),itv=.ref it/\Inv X pins σ H' s2/\Turn X.prog X.w X.K tg J fp it tn/\tn 0 s2.heap/\(∀ b∈fp,VW X pins H' b)/\R J H'
def PI (X:Cx)(tg iter:Expr)(wi:TI):Prop:=
 ∀ (pins:List (Addr×Obj)) (s:Shared) (σ:St) (H:Hp) (R:It->Hp->Prop),Inv X pins σ H s->wi σ H R->
  wpAny (model X.prog X.w) X.A (eval iter X.env) (fun v s1=>wpAny (model X.prog X.w) X.A (pyIter v) (PIE X pins σ tg R) X.xe s1) X.xe s
theorem ybg {M:Model}{A:Around}{E:Value->Shared->Prop}{s:Shared}{tg:Expr}{it:Addr}{u:Value}{o:Obj}{n:String}{vs:Array Value}{Q:Unit->Shared->Prop}(ho:s.heap.get? it=some o)(hc:o.cls=.type n)(hd:o.data=.fields vs)
    (hn:["enumerate", "zip", "dict_itemiterator", "dict_reverseitemiterator", "odict_iterator", "itertools.zip_longest", "itertools.pairwise"].contains n=false) (hQ:Q () s):wpAny M A (letOwnedTupleGo tg (.ref it) u) Q E s:=by
  unfold letOwnedTupleGo;cases tg <;> first
    |exact yh hQ
    | (cases u <;> first
        |exact yh hQ
        | (refine ya (wpAny_load ho ?_)
           rw[hc,hd];show wpAny M A (if (["enumerate", "zip", "dict_itemiterator", "dict_reverseitemiterator", "odict_iterator", "itertools.zip_longest", "itertools.pairwise"].contains n&&vs[0]?==some (rawInt _))=true then _ else _) Q E s;rw[yb (by intro h;rw[hn,Bool.false_and] at h;cases h)];exact yh hQ))
def Itl (K:W.Frag)(a:Addr):It:=
 ⟨fun i H=>∃ xs x,SqL K H a xs/\xs[i]?=some x,fun i H x H'=>H'=H/\∀ xs,SqL K H a xs->xs[i]?=some x,fun i H=>∃ xs,SqL K H a xs/\xs.length<=i⟩
def Itt (K:W.Frag)(a:Addr):It:=
 ⟨fun i H=>∃ xs x,SqT K H a xs/\xs[i]?=some x,fun i H x H'=>H'=H/\∀ xs,SqT K H a xs->xs[i]?=some x,fun i H=>∃ xs,SqT K H a xs/\xs.length<=i⟩
def Itr (lo:Int)(n:Nat):It:=⟨fun i _=>i<n,fun i H x H'=>H'=H/\x=.int (lo+i),fun i _=>n<=i⟩
theorem ybZ {P:Program}{w:World}{K:W.Frag}{tg:Expr}(a it:Addr):Turn P w K tg (Itl K a) [it] it (fun i h=>h.IsListIter it a i) where
 mem:=by simp
 obj:=fun i h st b hb=>by
  have e:b=it:=by simpa using hb
  subst e;obtain⟨o,e,c,d⟩:=st;exact⟨o,e,fun v z=>by rw[d] at z;cases z⟩
 keep:=fun i h h' st k=>st.at fun o e=>k it (by simp) o e
 item:=by
  intro X hP hw hK hc i pins s σ H E I hf st hg;subst hP hw hK;obtain⟨xs,x,hq,hx⟩:=hg;obtain⟨its,rv,p,hz⟩:=I.list hq;obtain⟨u,hu,ru⟩:=rv.get hx;obtain⟨f0,f1,f2,f3,f4,f5⟩:=hf it (by simp);refine wpAny_pyNext_list_item st p.isList (x:=u) (by simpa using hu) fun h' st' sb=>?_;have I1:Inv X pins σ H {s with heap:=h'}:=I.turned (t':=s.toks) (fun b o hb e=>(sb.2 b hb).trans e) f0 f1 f3 f4 f5;obtain⟨o,e,c,d⟩:=id st';exact⟨u,rfl,ybg (s:={s with heap:=h'}) e c d (by decide) ⟨x,H,I1,ru,⟨rfl,fun ys hy=>by rw[I.list_inj hy hq];exact hx⟩,st',fun b hb=>(hf b hb).1⟩⟩
 done:=by
  intro X hP hw hK hc i pins s σ H E I hf st hg;subst hP hw hK;obtain⟨xs,hq,hx⟩:=hg;obtain⟨its,rv,p,hz⟩:=I.list hq;obtain⟨f0,f1,f2,f3,f4,f5⟩:=hf it (by simp);have hl:=rv.length;exact wpAny_pyNext_list_end (I.ok.hd hc) st p.isList (by simp;omega) fun h' eb=>⟨rfl,I.turned (t':=s.toks) (fun b o hb e=>eb b o hb e) f0 f1 f3 f4 f5⟩
 self:=fun _ _ _ _ _ st h=>wpAny_pyIter_listiter st h
theorem xP {P:Program}{w:World}{K:W.Frag}{tg:Expr}(a it:Addr):Turn P w K tg (Itt K a) [it] it (fun i h=>h.IsTupleIter it a i) where
 mem:=by simp
 obj:=fun i h st b hb=>by
  have e:b=it:=by simpa using hb
  subst e;obtain⟨o,e,c,d⟩:=st;exact⟨o,e,fun v z=>by rw[d] at z;cases z⟩
 keep:=fun i h h' st k=>st.at fun o e=>k it (by simp) o e
 item:=by
  intro X hP hw hK hc i pins s σ H E I hf st hg;subst hP hw hK;obtain⟨xs,x,hq,hx⟩:=hg;obtain⟨its,rv,p,hz⟩:=I.tuple hq;obtain⟨u,hu,ru⟩:=rv.get hx;obtain⟨f0,f1,f2,f3,f4,f5⟩:=hf it (by simp);refine wpAny_pyNext_tuple_item st (show s.heap.IsTuple a its.toArray from p) (x:=u) (by simpa using hu) fun h' st' sb=>?_;have I1:Inv X pins σ H {s with heap:=h'}:=I.turned (t':=s.toks) (fun b o hb e=>(sb.2 b hb).trans e) f0 f1 f3 f4 f5;obtain⟨o,e,c,d⟩:=id st';exact⟨u,rfl,ybg (s:={s with heap:=h'}) e c d (by decide) ⟨x,H,I1,ru,⟨rfl,fun ys hy=>by rw[I.tuple_inj hy hq];exact hx⟩,st',fun b hb=>(hf b hb).1⟩⟩
 done:=by
  intro X hP hw hK hc i pins s σ H E I hf st hg;subst hP hw hK;obtain⟨xs,hq,hx⟩:=hg;obtain⟨its,rv,p,hz⟩:=I.tuple hq;obtain⟨f0,f1,f2,f3,f4,f5⟩:=hf it (by simp);have hl:=rv.length;exact wpAny_pyNext_tuple_end (I.ok.hd hc) st (show s.heap.IsTuple a its.toArray from p) (by simp;omega) fun h' eb=>⟨rfl,I.turned (t':=s.toks) (fun b o hb e=>eb b o hb e) f0 f1 f3 f4 f5⟩
 self:=fun _ _ _ _ _ st h=>wpAny_pyIter_tupleiter st h
theorem XB {P:Program}{w:World}{K:W.Frag}{tg:Expr}(it:Addr)(lo:Int)(n:Nat):Turn P w K tg (Itr lo n) [it] it (fun i h=>IsRangeIter h it (lo+(i:Nat)*1) ((n:Int) - (i:Nat)) 1) where
 mem:=by simp
 obj:=fun i h st b hb=>by
  have e:b=it:=by simpa using hb
  subst e;exact⟨_,st,fun v z=>by
   have z':Data.fields _=Data.cell v:=z;cases z'⟩
 keep:=fun i h h' st k=>k it (by simp) _ st
 item:=by
  intro X hP hw hK hc i pins s σ H E I hf st hg;subst hP hw hK;obtain⟨f0,f1,f2,f3,f4,f5⟩:=hf it (by simp);have W:=Walks.range (prog:=X.prog) (w:=X.w) (I.ok.hd hc) it lo 1 n;refine W.item i s _ _ hg st fun v h' tk hv st' kk=>?_;obtain⟨t,rfl⟩:=hv;have I1:Inv X pins σ H {s with heap:=h',toks:=tk}:=I.turned (fun b o hb e=>kk b o (by simpa using hb) e) f0 f1 f3 f4 f5;refine⟨_,rfl,ybg (s:={s with heap:=h',toks:=tk}) (n:="range_iterator") st' rfl rfl (by decide) ⟨.int (lo+i),H,I1,⟨t,?_⟩,⟨rfl,rfl⟩,st',fun b hb=>(hf b hb).1⟩⟩;rw[Int.mul_one]
 done:=by
  intro X hP hw hK hc i pins s σ H E I hf st hg;subst hP hw hK;obtain⟨f0,f1,f2,f3,f4,f5⟩:=hf it (by simp);exact wpAny_pyNext_range_end (I.ok.hd hc) st (by have:n<=i:=hg;omega) fun h' eb=>⟨rfl,I.turned (t':=s.toks) (fun b o hb e=>eb b o hb e) f0 f1 f3 f4 f5⟩
 self:=fun _ _ _ _ _ st h=>wpAny_pyIter_rangeiter st h
section
variable {X:Cx}{tg:Expr}
def yjm (K:W.Frag)(tl:TE):TI:=fun σ H R=>tl σ H fun x H1=>∃ a,x=.ref a/\(∃ xs,SqL K H1 a xs)/\R (Itl K a) H1
def ykc (K:W.Frag)(tl:TE):TI:=fun σ H R=>tl σ H fun x H1=>∃ a,x=.ref a/\(∃ xs,SqT K H1 a xs)/\R (Itt K a) H1
theorem ya6 {l:Expr}{tl:TE}(hl:PE X l tl):PI X tg l (yjm X.K tl):=by
 intro pins s σ H R I h;refine thn (hl pins s σ H _ I h) fun v s1 ⟨x,H1,I1,r1,q1⟩=>?_;obtain⟨a,e,⟨xs,hq⟩,q⟩:=q1;subst e;cases r1;obtain⟨its,rv,p,hz⟩:=I1.list hq;refine wpAny_pyIter_list p.isList ?_;refine⟨s1.heap.objs.size,[s1.heap.objs.size],_,_,H1,rfl,I1.kept (t':=s1.toks) fun b o e=>yk _ e,ybZ a _,⟨_,yC _ rfl,rfl,rfl⟩,fun b hb=>?_,q⟩;have e:b=s1.heap.objs.size:=by simpa using hb
 subst e;exact I1.fpOk (yg _) (I1.hok.fresh (yg _))
theorem yhI {l:Expr}{tl:TE}(hl:PE X l tl):PI X tg l (ykc X.K tl):=by
 intro pins s σ H R I h;refine thn (hl pins s σ H _ I h) fun v s1 ⟨x,H1,I1,r1,q1⟩=>?_;obtain⟨a,e,⟨xs,hq⟩,q⟩:=q1;subst e;cases r1;obtain⟨its,rv,p,hz⟩:=I1.tuple hq;refine wpAny_pyIter_tuple (show s1.heap.IsTuple a its.toArray from p) ?_;refine⟨s1.heap.objs.size,[s1.heap.objs.size],_,_,H1,rfl,I1.kept (t':=s1.toks) fun b o e=>yk _ e,xP a _,⟨_,yC _ rfl,rfl,rfl⟩,fun b hb=>?_,q⟩;have e:b=s1.heap.objs.size:=by simpa using hb
 subst e;exact I1.fpOk (yg _) (I1.hok.fresh (yg _))
theorem wS {pins:List (Addr×Obj)}{σ:St}{H:Hp}{s:Shared}{R:It->Hp->Prop}{E:Value->Shared->Prop}{lo hi:Int}{t u v:Tok}{tk:Nat}(I:Inv X pins σ H s)(h1:-(2 ^ 62)<=lo)(h2:lo<2 ^ 62)(h3:-(2 ^ 62)<=hi)(h4:hi<2 ^ 62)
  (q:R (Itr lo (hi - lo).toNat) H):wpAny (model X.prog X.w) X.A (pyIter (.ref s.heap.objs.size)) (PIE X pins σ tg R) E {s with heap:=s.heap.push {cls:=.type "range", data:=.fields #[.int lo t,.int hi u,.int 1 v]},toks:=tk}:=by
 refine wpAny_pyIter_range (IsRange.new ..) (small_one h1 h2 h3 h4) ?_;have I1:Inv X pins σ H {s with heap:=s.heap.push {cls:=.type "range", data:=.fields #[.int lo t,.int hi u,.int 1 v]},toks:=tk}:=I.kept fun b o e=>yk _ e;refine⟨(s.heap.push {cls:=.type "range", data:=.fields #[.int lo t,.int hi u,.int 1 v]}).objs.size,[(s.heap.push {cls:=.type "range", data:=.fields #[.int lo t,.int hi u,.int 1 v]}).objs.size],_,_,H,rfl,
  I1.kept (t':=tk) fun b o e=>yk _ e,XB _ lo (hi - lo).toNat,?_,fun b hb=>?_,q⟩
 ·have e1:lo+((0:Nat):Int)*1=lo:=by simp
  have e2:(((hi - lo).toNat:Nat):Int) - ((0:Nat):Int)=Builtin.Range.rangeSize lo hi 1:=by rw[rangeSize_one];split <;> omega
  show IsRangeIter _ _ (lo+((0:Nat):Int)*1) ((((hi - lo).toNat:Nat):Int) - ((0:Nat):Int)) 1;rw[e1,e2];exact yC _ rfl
 ·have e:b=(s.heap.push {cls:=.type "range", data:=.fields #[.int lo t,.int hi u,.int 1 v]}).objs.size:=by simpa using hb
  subst e;exact I1.fpOk (yg _) (I1.hok.fresh (yg _))
def yi3 (ta:TA):TI:=fun σ H R=>ta σ H fun vs H1=>∃ j:Int,vs=[.int j]/\-(2 ^ 62)<=j/\j<2 ^ 62/\R (Itr 0 j.toNat) H1
def yjr (ta:TA):TI:=fun σ H R=>ta σ H fun vs H1=>∃ i j:Int,vs=[.int i,.int j]/\(-(2 ^ 62)<=i/\i<2 ^ 62/\-(2 ^ 62)<=j/\j<2 ^ 62)/\R (Itr i (j - i).toNat) H1
theorem uY {a:Expr}{ta:TA}{p pos:Pos}(hg:Gl X "range")(hm:X.mg "range" = none)(ha:PA X [a] ta)(hs:starEach [a] X.env=[(false,eval a X.env)]:=by rfl):PI X tg (.Call (.Name "range" p) [a] [] pos) (yi3 ta):=by
 intro pins s σ H R I h;refine Call_ (Zl I hg hm boot_range (PyProof.Rows.callWith_type1 (thn (ha pos pins s σ H _ I h) fun us s1 ⟨vs,H1,I1,r1,q1⟩=>?_) hs rfl));obtain⟨j,e,q1,q2,q⟩:=q1;subst e;cases r1 with
 |cons r rr=>
  cases rr;obtain⟨t,rfl⟩:=r;exact call_range_1 (wS I1 (by omega) (by omega) q1 q2 (by simpa using q))
theorem yb8 {a b:Expr}{ta:TA}{p pos:Pos}(hg:Gl X "range")(hm:X.mg "range" = none)(ha:PA X [a,b] ta)(hs:starEach [a,b] X.env=[(false,eval a X.env),(false,eval b X.env)]:=by rfl)(hs2:starEach [b] X.env=[(false,eval b X.env)]:=by rfl) :
  PI X tg (.Call (.Name "range" p) [a,b] [] pos) (yjr ta):=by
 intro pins s σ H R I h;refine Call_ (Zl I hg hm boot_range (PyProof.Rows.callWith_type1 (thn (ha pos pins s σ H _ I h) fun us s1 ⟨vs,H1,I1,r1,q1⟩=>?_) (by rw[hs,hs2]) (by rw[hs2];rfl)));obtain⟨i,j,e,⟨q1,q2,q3,q4⟩,q⟩:=q1;subst e;cases r1 with
 |cons r rr=>
  cases rr with
  |cons r' rr=>
   cases rr;obtain⟨t,rfl⟩:=r;obtain⟨t',rfl⟩:=r';exact call_range_2 (wS I1 q1 q2 q3 q4 q)
def ykj (wi:TI)(g:TG)(tb:TS):TS:=fun D σ H=>wi σ H fun J H1=>∃ W:Nat->Nat->St->Hp->Prop,(∃ m,W 0 m σ H1)/\∀ i m σ H,W i m σ H->
 (J.stop i H/\D.nx σ H)∨(J.go i H/\∃ N:St->Hp->Prop,(∀ σ' H',N σ' H'->∃ m',m'<m/\W (i+1) m' σ' H')/\∀ x H',J.yld i H x H'->g x σ H' fun σ2 H2=>tb {D with nx:=N,ct:=N,bk:=D.nx} σ2 H2)
def KZ (fp:List Addr)(h:Heap):List (Addr×Obj):=fp.filterMap fun b=>(h.get? b).map fun o=>(b,o)
theorem zP {fp:List Addr}{h:Heap}{b:Addr}{o:Obj}(hb:b∈fp)(e:h.get? b=some o):(b,o)∈KZ fp h:=List.mem_filterMap.mpr ⟨b,hb,by rw[e];rfl⟩
theorem ycg {fp:List Addr}{h:Heap}{p:Addr×Obj}(hp:p∈KZ fp h):p.1∈fp/\h.get? p.1=some p.2:=by
 obtain⟨b,hb,e⟩:=List.mem_filterMap.mp hp;cases q:h.get? b with
 |none=>rw[q] at e;cases e
 |some o=>
  rw[q] at e;have e':(b,o)=p:=Option.some.inj e;subst e';exact⟨hb,q⟩
theorem Inv.pinned {pins:List (Addr×Obj)}{σ:St}{H:Hp}{s:Shared}{fp:List Addr}(I:Inv X pins σ H s)(hf:∀ b∈fp,VW X pins H b)(ho:∀ b∈fp,∃ o,s.heap.get? b=some o/\∀ v,o.data≠.cell v):Inv X (pins++KZ fp s.heap) σ H s:=
 I.pins_of fun p hp=>(yY.mp hp).elim (fun z=>I.pin p (yN _ z)) fun z=>by
  obtain⟨hb,e⟩:=ycg z;obtain⟨f0,f1,f2,_⟩:=hf p.1 hb;obtain⟨o,e',d⟩:=ho p.1 hb;rw[e] at e';cases e';exact⟨e,f0,f1,f2,d⟩
theorem Inv.unpinned {pins pl:List (Addr×Obj)}{σ:St}{H:Hp}{s:Shared}(I:Inv X (pins++pl) σ H s):Inv X pins σ H s:=I.pins_of fun p hp=>I.pin p (yN _ (y8 _ hp))
theorem ycW {iter:Expr}{body:List Stmt}{wi:TI}{g:TG}{tb:TS}{pos:Pos}(hp:PassesOwn (model X.prog X.w) X.A X.env X.xe)(hc:X.calm=true)(hi:PI X tg iter wi)(hg:PG X tg g)(hb:PSs X body tb)
  (hs:∀ x,foldedSetIterable iter X.env x=pure x:=by intro _;rfl):PS X (.For tg iter body [] pos) (ykj wi g tb):=by
 intro pins s σ H D I h;refine wpAny_For (thn (hi pins s σ H _ I h) fun v s1 h1=>thn h1 fun itv s2 h2=>?_) hs;obtain⟨it,fp,tn,J,H2,e,I2,T,st2,f2,W,⟨m0,w0⟩,turn⟩:=h2;subst e
 -- what stays true of the iterator's objects through the loop
 have stat:∀ {H':Hp},(∀ b∈fp,H' b=none)->∀ b∈fp,VW X pins H' b:=fun hn b hb=>⟨hn b hb,(f2 b hb).2⟩
 refine codeAny_forLoop_any (fun n s'=>∃ i σ' H',Inv X pins σ' H' s'/\tn i s'.heap/\(∀ b∈fp,H' b=none)/\W i n σ' H') ?_ m0 ⟨0,σ,H2,I2,st2,fun b hb=>(f2 b hb).1,w0⟩;rintro n s3 ⟨i,σ3,H3,I3,st3,fr3,w3⟩;rcases turn i n σ3 H3 w3 with ⟨stop,qn⟩|⟨go,N,hN,step⟩
 ·refine wpAny_passesOwn hp (thn (T.done X rfl rfl rfl hc i pins s3 σ3 H3 X.xe I3 (stat fr3) st3 stop) fun r s4 ⟨hr,I4⟩=>?_);subst hr;exact wpAny_execs_nil ⟨σ3,H3,I4,qn⟩
 ·refine wpAny_passesOwn hp (thn (T.item X rfl rfl rfl hc i pins s3 σ3 H3 X.xe I3 (stat fr3) st3 go) fun r s4 ⟨u,hr,h4⟩=>?_);subst hr;refine wpAny_passesOwn hp (thn h4 fun _ s5 ⟨x,H5,I5,r5,y5,st5,fr5⟩=>?_);have I5':=I5.pinned (stat fr5) (T.obj _ _ st5);refine wpAny_passesOwn hp (thn (hg _ s5 σ3 H5 x u _ I5' r5 (step x H5 y5)) fun _ s6 ⟨σ6,H6,I6,q6⟩=>?_);refine wpAny_passesOwn hp (thn (hb _ s6 σ6 H6 _ I6 q6) fun f s7 q7=>?_);have again:∀ {σ7:St} {H7:Hp},Inv X (pins++KZ fp s5.heap) σ7 H7 s7->N σ7 H7->∃ m,m<n/\∃ i σ' H',Inv X pins σ' H' s7/\tn i s7.heap/\(∀ b∈fp,H' b=none)/\W i m σ' H':=fun {σ7 H7} I7 n7=>by
   obtain⟨m',hm,w7⟩:=hN σ7 H7 n7;refine⟨m',hm,i+1,σ7,H7,I7.unpinned,T.keep _ _ _ st5 fun b hb o e=>(I7.pin (b,o) (yN _ (yN _ (zP hb e)))).1,fun b hb=>?_,w7⟩;obtain⟨o,e,d⟩:=T.obj _ _ st5 b hb;exact(I7.pin (b,o) (yN _ (yN _ (zP hb e)))).2.1
  cases f with
  |next=>obtain⟨σ7,H7,I7,n7⟩:=q7;exact again I7 n7
  |cont=>obtain⟨σ7,H7,I7,n7⟩:=q7;exact again I7 n7
  |brk=>obtain⟨σ7,H7,I7,q7⟩:=q7;exact⟨σ7,H7,I7.unpinned,q7⟩
  |ret v=>obtain⟨x7,σ7,H7,I7,r7,q7⟩:=q7;exact⟨x7,σ7,H7,I7.unpinned,r7,q7⟩
end
abbrev R2:=V->V->Hp->VK->Prop
def OpR (X:Cx)(f:Value->Value->Sem Value)(r:R2):Prop:=
 ∀ (pins:List (Addr×Obj)) (s:Shared) (σ:St) (H:Hp) (x y:V) (v u:Value) (Q:VK),Inv X pins σ H s->Yx x v->Yx y u->r x y H Q->
  wpAny (model X.prog X.w) X.A (f v u) (EP X pins σ Q) X.xe s
def z9 (X:Cx)(f:Value)(r:List V->Hp->VK->Prop):Prop:=
 ∀ (pins:List (Addr×Obj)) (s:Shared) (σ:St) (H:Hp) (xs:List V) (us:List Value) (Q:VK),Inv X pins σ H s->YQ xs us->r xs H Q->
  wpAny (model X.prog X.w) X.A (call f us) (EP X pins σ Q) X.xe s
def tOp (r:R2)(ta tb:TE):TE:=fun σ H Q=>ta σ H fun x H1=>tb σ H1 fun y H2=>r x y H2 Q
def rI (C:Int->Int->Prop)(g:Int->Int->V):R2:=fun x y H Q=>∃ i j,x=.int i/\y=.int j/\C i j/\Q (g i j) H
def rI0 (g:Int->Int->V):R2:=fun x y H Q=>∃ i j,x=.int i/\y=.int j/\Q (g i j) H
section
variable {X:Cx}{a b c:Expr}{ta tb tc:TE}{pos:Pos}
theorem yhy (ha:PE X a ta)(hb:PE X b tb){pins:List (Addr×Obj)}{s:Shared}{σ:St}{H:Hp}{R:V->V->Hp->Prop}(I:Inv X pins σ H s)
  (h:ta σ H fun x H1=>tb σ H1 fun y H2=>R x y H2) {Q:Value->Shared->Prop} {f:Value->Value->Sem Value}
  (hf:∀ v u s2 x y H2,Inv X pins σ H2 s2->Yx x v->Yx y u->R x y H2->wpAny (model X.prog X.w) X.A (f v u) Q X.xe s2) :
  wpAny (model X.prog X.w) X.A (eval a X.env) (fun v s₁=>wpAny (model X.prog X.w) X.A (eval b X.env) (fun u s₂=>wpAny (model X.prog X.w) X.A (f v u) Q X.xe s₂) X.xe s₁) X.xe s:=by
 refine thn (ha pins s σ H _ I h) fun v s1 ⟨x,H1,I1,r1,q1⟩=>?_;refine thn (hb pins s1 σ H1 _ I1 q1) fun u s2 ⟨y,H2,I2,r2,q2⟩=>?_;exact hf v u s2 x y H2 I2 r1 r2 q2
theorem vR {op:Operator}{r:R2}(ho:OpR X (binaryOp op) r)(ha:PE X a ta)(hb:PE X b tb):PE X (.BinOp a op b pos) (tOp r ta tb):=by
 intro pins s σ H Q I h;exact wpAny_BinOp (yhy ha hb I h fun v u s2 x y H2 I2 rx ry q=>ho pins s2 σ H2 x y v u Q I2 rx ry q)
theorem opI {f:Value->Value->Sem Value}{C:Int->Int->Prop}{g:Int->Int->Int}
  (rule:∀ (i j:Int) (t u:Tok) (s:Shared) (Q:Value->Shared->Prop) (E:Value->Shared->Prop),C i j->Q (.int (g i j) s.toks) {s with toks:=s.toks+1}->wpAny (model X.prog X.w) X.A (f (.int i t) (.int j u)) Q E s) :
  OpR X f (rI C fun i j=>.int (g i j)):=by
 intro pins s σ H x y v u Q I rx ry h;obtain⟨i,j,rfl,rfl,hc,q⟩:=h;obtain⟨t,rfl⟩:=rx;obtain⟨t',rfl⟩:=ry;exact rule i j t t' s _ _ hc ⟨.int (g i j),H,I.tok _,⟨_,rfl⟩,q⟩
theorem yi4 {f:Value->Value->Sem Value}{g:Int->Int->Int}
  (rule:∀ (i j:Int) (t u:Tok) (s:Shared) (Q:Value->Shared->Prop) (E:Value->Shared->Prop),Q (.int (g i j) s.toks) {s with toks:=s.toks+1}->wpAny (model X.prog X.w) X.A (f (.int i t) (.int j u)) Q E s) :
  OpR X f (rI0 fun i j=>.int (g i j)):=by
 intro pins s σ H x y v u Q I rx ry h;obtain⟨i,j,rfl,rfl,q⟩:=h;obtain⟨t,rfl⟩:=rx;obtain⟨t',rfl⟩:=ry;exact rule i j t t' s _ _ ⟨.int (g i j),H,I.tok _,⟨_,rfl⟩,q⟩
theorem yhT {f:Value->Value->Sem Value}{g:Int->Int->Bool}
  (rule:∀ (i j:Int) (t u:Tok) (s:Shared) (Q:Value->Shared->Prop) (E:Value->Shared->Prop),Q (.bool (g i j)) s->wpAny (model X.prog X.w) X.A (f (.int i t) (.int j u)) Q E s) :
  OpR X f (rI0 fun i j=>.bl (g i j)):=by
 intro pins s σ H x y v u Q I rx ry h;obtain⟨i,j,rfl,rfl,q⟩:=h;obtain⟨t,rfl⟩:=rx;obtain⟨t',rfl⟩:=ry;exact rule i j t t' s _ _ ⟨.bl (g i j),H,I,rfl,q⟩
def yjV (i j:Int):Prop:=0<j/\j<1073741824
theorem xh:OpR X (binaryOp .Add) (rI0 fun i j=>.int (i+j)):=yi4 fun _ _ _ _ _ _ _ q=>add_int q
theorem yhM:OpR X (binaryOp .Sub) (rI0 fun i j=>.int (i - j)):=yi4 fun _ _ _ _ _ _ _ q=>sub_int q
theorem yfo:OpR X (binaryOp .FloorDiv) (rI yjV fun i j=>.int (i / j)):=opI fun i j _ _ _ _ _ hc q=>by
 have h1:(0:Int)<j:=hc.1;have h2:j<1073741824:=hc.2;exact floordiv_int (by omega) (by rw[yT i (by omega)];exact q) (.inl (PyProof.noPylong_small (by omega)))
theorem UT:OpR X (binaryOp .Mod) (rI (fun _ j=>0<j) fun i j=>.int (i % j)):=opI fun i j _ _ _ _ _ hc q=>by
 have h1:(0:Int)<j:=hc;exact mod_int' (by omega) (by rw[Qm i (by omega)];exact q)
end
def yfr:V->V->Bool
 |.non,.non=>true|.non,.int _=>true|.int _,.non=>true|.non,.bl _=>true|.bl _,.non=>true|.non,.str _=>true|.str _,.non=>true
 |.int _,.int _=>true|.bl _,.bl _=>true|.str _,.str _=>true|.byt _,.byt _=>true
 |.int _,.str _=>true|.str _,.int _=>true|.bl _,.str _=>true|.str _,.bl _=>true
 |_,_=>false
def rEq:R2:=fun x y H Q=>yfr x y=true/\Q (.bl (decide (x=y))) H
def rNe:R2:=fun x y H Q=>yfr x y=true/\Q (.bl (!decide (x=y))) H
theorem yad {i j:Int}:decide (V.int i=V.int j)=(i==j):=by
 rw[Yk];simp
theorem ydD {i j:Bool}:decide (V.bl i=V.bl j)=(i==j):=by
 rw[Yk];simp
theorem yaP {i j:Str}:decide (V.str i=V.str j)=(i==j):=by
 rw[Yk];simp
theorem X8 {i j:Array UInt8}:decide (V.byt i=V.byt j)=(i.toList==j.toList):=by
 rw[Yk];cases i;cases j;simp
section
variable {X:Cx}{a b c:Expr}{ta tb tc:TE}{pos:Pos}
theorem qd {pins:List (Addr×Obj)}{σ:St}{H:Hp}{s:Shared}{Q:VK}{k k':Bool}(I:Inv X pins σ H s)(q:Q (.bl k) H)(e:k=k'):EP X pins σ Q (.bool k') s:=by
 subst e;exact⟨.bl k,H,I,rfl,q⟩
theorem ybb:OpR X (compareOp .Eq) rEq:=by
 intro pins s σ H x y v u Q I rx ry h;obtain⟨hs,q⟩:=h;cases x with
 |non=>
  cases rx;cases y with
  |non=>cases ry;exact PySem.EqNone.eq_none_none (qd I q (by simp))
  |bl j=>cases ry;exact PySem.EqNone.eq_none_bool (qd I q (by simp))
  |int j=>obtain⟨t',rfl⟩:=ry;exact PySem.EqNone.eq_none_int (qd I q (by simp))
  |str j=>obtain⟨t',rfl⟩:=ry;exact PySem.EqNone.eq_none_str (qd I q (by simp))
  |_=>exact absurd (show false=true from hs) yE
 |bl i=>
  cases rx;cases y with
  |non=>cases ry;exact PySem.EqNone.eq_bool_none (qd I q (by simp))
  |bl j=>cases ry;exact eq_bool (qd I q ydD)
  |str j=>obtain⟨t',rfl⟩:=ry;exact PySem.EqMixed.eq_bool_str (qd I q (by simp))
  |_=>exact absurd (show false=true from hs) yE
 |int i=>
  obtain⟨t,rfl⟩:=rx;cases y with
  |non=>cases ry;exact PySem.EqNone.eq_int_none (qd I q (by simp))
  |int j=>obtain⟨t',rfl⟩:=ry;exact eq_int (qd I q yad)
  |str j=>obtain⟨t',rfl⟩:=ry;exact PySem.EqMixed.eq_int_str (qd I q (by simp))
  |_=>exact absurd (show false=true from hs) yE
 |str i=>
  obtain⟨t,rfl⟩:=rx;cases y with
  |non=>cases ry;exact PySem.EqNone.eq_str_none (qd I q (by simp))
  |bl j=>cases ry;exact PySem.EqMixed.eq_str_bool (qd I q (by simp))
  |int j=>obtain⟨t',rfl⟩:=ry;exact PySem.EqMixed.eq_str_int (qd I q (by simp))
  |str j=>obtain⟨t',rfl⟩:=ry;exact eq_str (qd I q yaP)
  |_=>exact absurd (show false=true from hs) yE
 |byt i=>
  obtain⟨t,rfl⟩:=rx;cases y with
  |byt j=>obtain⟨t',rfl⟩:=ry;exact W.eq_bytes (qd I q X8)
  |_=>exact absurd (show false=true from hs) yE
 |_=>cases y <;> exact absurd (show false=true from hs) yE
theorem yjG:OpR X (compareOp .NotEq) rNe:=by
 intro pins s σ H x y v u Q I rx ry h;obtain⟨hs,q⟩:=h;cases x with
 |non=>
  cases rx;cases y with
  |non=>cases ry;exact PySem.EqNone.ne_none_none (qd I q (by simp))
  |bl j=>cases ry;exact PySem.EqNone.ne_none_bool (qd I q (by simp))
  |int j=>obtain⟨t',rfl⟩:=ry;exact PySem.EqNone.ne_none_int (qd I q (by simp))
  |str j=>obtain⟨t',rfl⟩:=ry;exact PySem.EqNone.ne_none_str (qd I q (by simp))
  |_=>exact absurd (show false=true from hs) yE
 |bl i=>
  cases rx;cases y with
  |non=>cases ry;exact PySem.EqNone.ne_bool_none (qd I q (by simp))
  |bl j=>cases ry;exact ne_bool (qd I q (congrArg not ydD))
  |str j=>obtain⟨t',rfl⟩:=ry;exact PySem.EqMixed.ne_bool_str (qd I q (by simp))
  |_=>exact absurd (show false=true from hs) yE
 |int i=>
  obtain⟨t,rfl⟩:=rx;cases y with
  |non=>cases ry;exact PySem.EqNone.ne_int_none (qd I q (by simp))
  |int j=>obtain⟨t',rfl⟩:=ry;exact ne_int (qd I q (congrArg not yad))
  |str j=>obtain⟨t',rfl⟩:=ry;exact PySem.EqMixed.ne_int_str (qd I q (by simp))
  |_=>exact absurd (show false=true from hs) yE
 |str i=>
  obtain⟨t,rfl⟩:=rx;cases y with
  |non=>cases ry;exact PySem.EqNone.ne_str_none (qd I q (by simp))
  |bl j=>cases ry;exact PySem.EqMixed.ne_str_bool (qd I q (by simp))
  |int j=>obtain⟨t',rfl⟩:=ry;exact PySem.EqMixed.ne_str_int (qd I q (by simp))
  |str j=>obtain⟨t',rfl⟩:=ry;exact ne_str (qd I q (congrArg not yaP))
  |_=>exact absurd (show false=true from hs) yE
 |byt i=>
  obtain⟨t,rfl⟩:=rx;cases y with
  |byt j=>obtain⟨t',rfl⟩:=ry;exact W.ne_bytes (qd I q (congrArg not X8))
  |_=>exact absurd (show false=true from hs) yE
 |_=>cases y <;> exact absurd (show false=true from hs) yE
theorem yjB:OpR X (compareOp .Lt) (rI0 fun i j=>.bl (decide (i<j))):=yhT fun _ _ _ _ _ _ _ q=>lt_int q
theorem yfc:OpR X (compareOp .LtE) (rI0 fun i j=>.bl (decide (i<=j))):=yhT fun _ _ _ _ _ _ _ q=>le_int q
theorem yeL:OpR X (compareOp .Gt) (rI0 fun i j=>.bl (decide (j<i))):=yhT fun _ _ _ _ _ _ _ q=>gt_int q
theorem v9 (b:Expr){op:CmpOp}(h:op≠.In:=by decide)(h2:op≠.NotIn:=by decide):behindInMarks op b=false:=by
 have e1:(op==CmpOp.In)=false:=by cases op <;> first|rfl|exact absurd rfl h
 have e2:(op==CmpOp.NotIn)=false:=by cases op <;> first|rfl|exact absurd rfl h2
 cases b <;> simp[behindInMarks,e1,e2]
theorem ybn {op:CmpOp}{r:R2}(ho:OpR X (compareOp op) r)(ha:PE X a ta)(hb:PE X b tb)(hm:behindInMarks op b=false):PE X (.Compare a [op] [b] pos) (tOp r ta tb):=by
 intro pins s σ H Q I h;exact wpAny_Compare1 (yhy ha hb I h fun v u s2 x y H2 I2 rx ry q=>ho pins s2 σ H2 x y v u Q I2 rx ry q) hm
def yjg (t:TE):TT:=fun σ H Q=>t σ H fun x H'=>∃ k,x=.bl k/\Q k H'
theorem kj {op:CmpOp}{r:R2}(ho:OpR X (compareOp op) r)(ha:PE X a ta)(hb:PE X b tb)(hm:behindInMarks op b=false):PT X (.Compare a [op] [b] pos) (yjg (tOp r ta tb)):=by
 intro pins s σ H Q I h;refine wpAny_isTrue_Compare1 (thn (ha pins s σ H _ I h) fun v s1 ⟨x,H1,I1,r1,q1⟩=>thn (hb pins s1 σ H1 _ I1 q1) fun u s2 ⟨y,H2,I2,r2,q2⟩=>
  thn (ho pins s2 σ H2 x y v u _ I2 r1 r2 q2) fun c s3 ⟨z,H3,I3,r3,k,e,q3⟩=>?_) hm
 subst e;cases r3;exact Y0 ⟨H3,I3,q3⟩
def yiM (r r':R2)(ta tb tc:TE):TE:=fun σ H Q=>ta σ H fun x H1=>tb σ H1 fun y H2=>r x y H2 fun z H3=>∃ k,z=.bl k/\
 (if k=true then tc σ H3 fun w' H4=>r' y w' H4 Q else Q (.bl false) H3)
theorem w6 {op op':CmpOp}{r r':R2}(ho:OpR X (compareOp op) r)(ho':OpR X (compareOp op') r')(ha:PE X a ta)(hb:PE X b tb)(hc:PE X c tc)
  (hm:lastMarks [op,op'] [b,c]=false:=by with_unfolding_all rfl):PE X (.Compare a [op,op'] [b,c] pos) (yiM r r' ta tb tc):=by
 intro pins s σ H Q I h;refine Compare_chain (thn (ha pins s σ H _ I h) fun v s1 ⟨x,H1,I1,r1,q1⟩=>chain_link (thn (hb pins s1 σ H1 _ I1 q1) fun u s2 ⟨y,H2,I2,r2,q2⟩=>
  thn (ho pins s2 σ H2 x y v u _ I2 r1 r2 q2) fun d s3 ⟨z,H3,I3,r3,k,e,q3⟩=>?_)) hm
 subst e;cases r3;refine Y0 ?_;cases k with
 |false=>exact ite_ff ⟨.bl false,H3,I3,rfl,q3⟩
 |true=>exact ite_tt (chain_last (thn (hc pins s3 σ H3 _ I3 q3) fun w' s4 ⟨z',H4,I4,r4,q4⟩=>ho' pins s4 σ H4 y z' u w' Q I4 r2 r4 q4))
theorem VF:(sizeLine:Nat)<2 ^ 63:=by rw[sizeLine_eq];decide
theorem Xo:OpR X (binaryOp .Add) (fun x y H Q=>∃ i j,x=.str i/\y=.str j/\i.length+j.length<=sizeLine/\Q (.str (i++j)) H):=by
 intro pins s σ H x y v u Q I rx ry h;obtain⟨i,j,rfl,rfl,hz,q⟩:=h;obtain⟨t,rfl⟩:=rx;obtain⟨t',rfl⟩:=ry;exact add_str (fun t' tk=>⟨.str (i++j),H,I.tok _,⟨_,rfl⟩,q⟩) hz
theorem vh {x:V}{us:List Value}(r:YQ [x] us):∃ u,us=[u]/\Yx x u:=by
 cases r with
 |cons r1 r2=>cases r2;exact⟨_,rfl,r1⟩
theorem uz:z9 X (.type "int") (fun xs H Q=>(∃ i,xs=[.int i]/\Q (.int i) H)∨∃ k,xs=[.bl k]/\Q (.int (if k then 1 else 0)) H):=by
 intro pins s σ H xs us Q I r h;rcases h with ⟨i,rfl,q⟩|⟨k,rfl,q⟩
 ·obtain⟨u,rfl,t,rfl⟩:=vh r;exact call_int_int ⟨.int i,H,I,⟨_,rfl⟩,q⟩
 ·obtain⟨u,rfl,r1⟩:=vh r;cases r1;exact call_int_bool ⟨.int (if k then 1 else 0),H,I.tok _,⟨_,rfl⟩,q⟩
end
structure ObjM (h:Heap)(x dx C:Addr)(mA:Str->Option Value):Prop where
 obj:h.get? x=some (W.instObj C dx)
 ns:h.Ns1 dx mA
 ne:dx≠x
theorem ybS {h:Heap}{dx:Addr}{mA:Str->Option Value}(n:h.Ns1 dx mA):∃ od,h.get? dx=some od/\∀ name,W.lookIn name od=some (mA name):=by
 obtain⟨o,es,ep,ho,hd,hk,_,hm⟩:=n;refine⟨o,ho,fun name=>?_⟩;have e:=hm name;unfold nsFind findBy at e;rw[←Array.find?_toList] at e;unfold W.lookIn;rw[hd];dsimp only;split
 ·rename_i y q;rw[q] at e;exact congrArg some e
 ·rename_i q;rw[q] at e;have a:es.toList.any (·.refKey)=false:=by
   rw[List.any_eq_false];intro y hy;obtain⟨z,t,hkey⟩:=hk y (Array.mem_toList_iff.mp hy);simp[DictEntry.refKey,hkey]
  have a':¬ es.toList.any (·.refKey)=true:=by rw[a];exact yE
  rw[yb a'];exact congrArg some e
theorem ObjM.look {h:Heap}{x dx C:Addr}{mA:Str->Option Value}(I:ObjM h x dx C mA):∃ od,W.InstAt h x (W.instObj C dx) C (some od)/\∀ name,W.lookIn name od=some (mA name):=
 let ⟨od,ho,hl⟩:=ybS I.ns
 ⟨od,⟨I.obj,rfl,rfl,ho⟩,hl⟩
section
variable {prog:Program}{w:World}{A:Around}{E:Value->Shared->Prop}{s:Shared}{K:W.Frag}{x dx C f:Addr}{mA:Str->Option Value}{name:Str}{v:Value}
theorem yfx {expr:Bool}{Q:Value->Shared->Prop}(X:K.In s.heap)(I:ObjM s.heap x dx C mA)(hg:W.plainGet K C name=true)(hh:W.hasDictIn K C=true)
  (ha:W.findIn K (.ref C) name=some none) (hv:mA name=some v) (hv':W.handedIn v=true) (h:Q v {s with toks:=s.toks+1}) :
  wpAny (model prog w) A (getAttr (.ref x) name expr) Q E s:=by
 obtain⟨od,J,hl⟩:=I.look;exact W.get_value X J (W.plainGet_of hg).1 (W.findObj_own hh ha rfl (by rw[hl,hv])) hv' h
theorem ycF {pl:Sem Bool}{Q:Value×List Value->Shared->Prop}(X:K.In s.heap)(I:ObjM s.heap x dx C mA)(hg:W.plainGet K C name=true)
  (hf:W.findIn K (.ref C) name=some (some (.ref f))) (ht:W.isFn K (.ref f)=true) (hv:mA name=none) (h:Q (.ref f,[.ref x]) s) :
  wpAny (model prog w) A (getMethod (.ref x) name pl) Q E s:=by
 obtain⟨od,J,hl⟩:=I.look;exact W.method_fn X J (W.plainGet_of hg).1 (W.plainGet_of hg).2 hf (beq_iff_eq.mp ht) (by show(W.lookIn name od).map (·.isSome)=some false;rw[hl,hv];rfl) h
theorem ygt {ns:List Str}{Q:Unit->Shared->Prop}(X:K.In s.heap)(I:ObjM s.heap x dx C mA)
  (hs:W.findIn K (.ref C) "__setattr__" = some (some (.builtin "object.__setattr__"))) (hp:W.plainOver K C=true) (ht:W.takerIn K C name=some none) (hh:W.hasDictIn K C=true)
  (hw:PySem.Within mA ns) (hsz:ns.length<=sizeLine)
  (h:∀ h',ObjM h' x dx C (fun y=>if y=name then some v else mA y)->Heap.SameBut dx s.heap h'->Q () {s with heap:=h',toks:=s.toks+2}) :
  wpAny (model prog w) A (setAttr (.ref x) name v) Q E s:=by
 obtain⟨od,J,hl⟩:=I.look;refine W.set_plain X J hs (W.osa_open (s:={s with toks:=s.toks+1}) (r:=none) X J hp ht fun b=>?_);obtain⟨cd,hc,hd'⟩:=W.any_some hh;have hx:s.heap.get? x=some ⟨.ref C,some dx,.plain,#[]⟩:=I.obj;refine ya (yh (ya (ya (wpAny_loadPart hx (ya (W.Looks.here (s:={s with toks:=s.toks+1}) (W.looks_clsIn X hc) ?_))))));rw[hd'];refine yh (a:=some dx) (ya (yh (ya ?_)));refine wpAny_nsSet1 (s:={s with toks:=s.toks+1}) I.ns fun h' hn2 hs2=>?_;obtain⟨oD,esD,epD,hoD,hdD,hcD⟩:=hn2.count (PySem.Within.cons name v hw);refine ya (wpAny_lookBehind hoD (by rw[hdD];exact pastItsLine_dict (yQ hcD (by rw[ym];omega))) ?_);exact yh (h _ ⟨(hs2.2 _ (Ne.symm I.ne)).trans I.obj,hn2,I.ne⟩ hs2)
theorem yel {R:Result->Shared->Prop}{vs:List Value}{kw:List (Str×Value)}(X:K.In s.heap)(hm:W.makesIn K C=true)
  (hi:W.findIn K (.ref C) "__init__" = some (some (.ref f))) (hf:W.typeIn K (.ref f)=some (.type "function"))
  (h:codeAny (model prog w) (A.under (.builtin "type.__call__" ⟨.ref C::vs,kw⟩)) (.call (.ref f) ⟨.ref (s.heap.objs.size+1)::vs,kw⟩) (W.InitBack (s.heap.objs.size+1) R)
   {s with heap:=(s.heap.push W.emptyDict).push (W.instObj C s.heap.objs.size)}) :
  codeAny (model prog w) A (.call (.ref C) ⟨vs,kw⟩) R s:=by
 obtain⟨hh,g,d,t,os⟩:=s;exact W.make_core (W.makes_of X hm) (W.looks_findIn X hi) (fun self=>W.bind_fn X self hf) (.inl rfl) h
end
def Zb (f:Str)(v:V):List (Str×V)->List (Str×V)
 |[]=>[(f,v)]
 | (g,x)::r=>if g=f then (g,v)::r else (g,x)::Zb f v r
theorem VH (f g:Str)(v:V):∀ fs:List (Str×V),(Zb f v fs).lookup g=if g=f then some v else fs.lookup g
 |[]=>by
  show List.lookup g [(f,v)]=_;by_cases h:g=f
  ·have hb:(g==f)=true:=beq_iff_eq.mpr h;simp only[List.lookup,hb,yc h]
  ·have hb:(g==f)=false:=beq_eq_false_iff_ne.mpr h;simp only[List.lookup,hb,yb h]
 | (k,x)::r=>by
  have ih:=VH f g v r;rw[show Zb f v ((k,x)::r)=(if k=f then (k,v)::r else (k,x)::Zb f v r) from rfl];by_cases hk:k=f
  ·rw[yc hk];by_cases h:g=k
   ·have hb:(g==k)=true:=beq_iff_eq.mpr h;simp only[List.lookup,hb,yc (h.trans hk)]
   ·have hb:(g==k)=false:=beq_eq_false_iff_ne.mpr h;simp only[List.lookup,hb,yb (fun e:g=f=>h (e.trans hk.symm))]
  ·rw[yb hk];by_cases h:g=k
   ·have hb:(g==k)=true:=beq_iff_eq.mpr h;simp only[List.lookup,hb,yb (fun e:g=f=>hk (h.symm.trans e))]
   ·have hb:(g==k)=false:=beq_eq_false_iff_ne.mpr h;simp only[List.lookup,hb];exact ih
theorem Vw (f:Str)(v:V):∀ fs:List (Str×V),f∈(Zb f v fs).map (·.1)/\∀ g,g∈fs.map (·.1)->g∈(Zb f v fs).map (·.1)
 |[]=>⟨by simp[Zb],fun g h=>by simp at h⟩
 | (k,x)::r=>by
  obtain⟨i1,i2⟩:=Vw f v r;rw[show Zb f v ((k,x)::r)=(if k=f then (k,v)::r else (k,x)::Zb f v r) from rfl];by_cases hk:k=f
  ·rw[yc hk];subst hk;exact⟨by simp,fun g h=>by simpa using h⟩
  ·rw[yb hk];refine⟨?_,fun g h=>?_⟩
   ·rw[yn];exact yf _ i1
   ·rw[yn] at h ⊢;rcases yA.mp h with e|e
    ·exact yA.mpr (.inl e)
    ·exact yf _ (i2 g e)
theorem VI (f:Str)(v:V):∀ fs:List (Str×V),(Zb f v fs).length<=fs.length+1
 |[]=>by simp[Zb]
 | (k,x)::r=>by
  have ih:=VI f v r;rw[show Zb f v ((k,x)::r)=(if k=f then (k,v)::r else (k,x)::Zb f v r) from rfl];by_cases hk:k=f
  ·rw[yc hk,ym,ym];omega
  ·rw[yb hk,ym,ym];omega
theorem Zd.some_of {v:V}{o:Option Value}(r:Zd (some v) o):∃ u,o=some u/\Yx v u:=by
 cases o with
 |none=>exact(show False from r).elim
 |some u=>exact⟨u,rfl,r⟩
theorem Zd.none_of {o:Option Value}(r:Zd none o):o=none:=by
 cases o with
 |none=>rfl
 |some u=>exact(show False from r).elim
theorem yby {v:V}{u:Value}(r:Yx v u):W.handedIn u=true:=by
 cases v with
 |non=>cases (show u=Value.none from r);rfl
 |bl b=>cases (show u=Value.bool b from r);rfl
 |int i=>obtain⟨t,e⟩:=(show ∃ t,u=Value.int i t from r);cases e;rfl
 |str x=>obtain⟨t,e⟩:=(show ∃ t,u=Value.str x t from r);cases e;rfl
 |byt b=>obtain⟨t,e⟩:=(show ∃ t,u=Value.bytes b t from r);cases e;rfl
 |flt b=>obtain⟨t,e⟩:=(show ∃ t,u=Value.float b t from r);cases e;rfl
 |ref a=>cases (show u=Value.ref a from r);rfl
 |ty n=>cases (show u=Value.type n from r);rfl
section
variable {P:Program}{w:World}{H H':Hp}{h h':Heap}{a C dx:Addr}{fs fs':List (Str×V)}
theorem UQ (hok:HOk P w H h)(e:H a=some (.ins C dx fs)):∃ mA,ObjM h a dx C mA/\(∀ f,Zd (fs.lookup f) (mA f))/\PySem.Within mA (fs.map (·.1))/\fs.length<=1000/\H dx=some (.own a):=by
 obtain⟨d,z,ne,ob,mA,n,r,q⟩:=(show Qh P w H h a (.ins C dx fs) from hok a _ e)
 exact⟨mA,⟨ob,n,ne⟩,r,q,z,d⟩
end
structure Cls (K:W.Frag)(C:Addr):Prop where
 pg:W.plainGet K C Str.empty=true
 hd:W.hasDictIn K C=true
 po:W.plainOver K C=true
 sa:W.findIn K (.ref C) "__setattr__" = some (some (.builtin "object.__setattr__"))
theorem Cls.get {K:W.Frag}{C:Addr}(c:Cls K C)(f:Str):W.plainGet K C f=true:=c.pg
def QC (K:W.Frag)(C:Addr)(f:Str):Prop:=W.findIn K (.ref C) f=some none
theorem QC.taker {K:W.Frag}{C:Addr}{f:Str}(n:QC K C f):W.takerIn K C f=some none:=by
 unfold W.takerIn;rw[show W.findIn K (.ref C) f=some none from n];rfl
structure Meth (K:W.Frag)(C:Addr)(m:Str)(f:Addr):Prop where
 at_:W.findIn K (.ref C) m=some (some (.ref f))
 fn:W.isFn K (.ref f)=true
 kp:W.keepIn K (.ref f)=true
section
variable {X:Cx}{pins:List (Addr×Obj)}{σ:St}{H:Hp}{s:Shared}{a C dx:Addr}{fs:List (Str×V)}{f:Str}{v:V}{A:Around}{E:Value->Shared->Prop}
theorem XJ {b:Bool}{Q:Value->Shared->Prop}(I:Inv X pins σ H s)(e:H a=some (.ins C dx fs))(c:Cls X.K C)(n:QC X.K C f)(l:fs.lookup f=some v)
  (h:∀ u s',Inv X pins σ H s'->Yx v u->Q u s'):wpAny (model X.prog X.w) A (getAttr (.ref a) f b) Q E s:=by
 obtain⟨mA,O,r,_,_,_⟩:=UQ I.hok e;obtain⟨u,hu,ru⟩:=Zd.some_of (v:=v) (o:=mA f) (by rw[←l];exact r f);exact yfx I.kIn O (c.get f) c.hd n hu (yby ru) (h u _ (I.tok _) ru)
theorem k7 {m:Str}{g:Addr}{pl:Sem Bool}{Q:Value×List Value->Shared->Prop}(I:Inv X pins σ H s)(e:H a=some (.ins C dx fs))(c:Cls X.K C)(k:Meth X.K C m g)(l:fs.lookup m=none)
  (h:Q (.ref g,[.ref a]) s):wpAny (model X.prog X.w) A (getMethod (.ref a) m pl) Q E s:=by
 obtain⟨mA,O,r,_,_,_⟩:=UQ I.hok e;have hn:mA m=none:=Zd.none_of (by rw[←l];exact r m);exact ycF I.kIn O (c.get m) k.at_ k.fn hn h
theorem xG {y:V}{u:Value}{Q:Unit->Shared->Prop}(I:Inv X pins σ H s)(e:H a=some (.ins C dx fs))(c:Cls X.K C)(n:QC X.K C f)(hl:fs.length<1000)(ry:Yx y u)
  (h:∀ s',Inv X pins σ (upd H a (.ins C dx (Zb f y fs))) s'->Q () s'):wpAny (model X.prog X.w) A (setAttr (.ref a) f u) Q E s:=by
 obtain⟨mA,O,r,wi,_,ho⟩:=UQ I.hok e;have hz:(fs.map (·.1)).length<=sizeLine:=by rw[ye,sizeLine_eq];omega
 refine ygt I.kIn O c.sa c.po n.taker c.hd wi hz fun h' O' sb=>h _ ?_;have hd:∃ o,h'.get? dx=some o:=let ⟨o,_,_,e',_⟩:=O'.ns;⟨o,e'⟩
 refine I.write (x:=a) (e:=dx) (by rw[e];exact True.intro) (.inr ho) (fun b q hb z=>(sb.2 b hb).trans z) hd ?_;refine⟨by rw[yO O.ne];exact ho,?_,O.ne,O'.obj,_,O'.ns,fun g=>?_,fun g hg=>?_⟩
 ·have:=VI f y fs;omega
 ·show Zd ((Zb f y fs).lookup g) (if g=f then some u else mA g);rw[VH];by_cases q:g=f
  ·rw[yc q,yc q];exact ry
  ·rw[yb q,yb q];exact r g
 ·by_cases q:g=f
  ·rw[q];exact(Vw f y fs).1
  ·refine(Vw f y fs).2 g (wi g fun z=>hg ?_);show(if g=f then some u else mA g)=none;rw[yb q];exact z
theorem Inv.made (I:Inv X pins σ H s):Inv X pins σ (upd (upd H s.heap.objs.size (.own (s.heap.objs.size+1))) (s.heap.objs.size+1) (.ins C s.heap.objs.size []))
  {s with heap:=(s.heap.push W.emptyDict).push (W.instObj C s.heap.objs.size)}:=by
 have e1:(s.heap.push W.emptyDict).get? s.heap.objs.size=some W.emptyDict:=yC s.heap rfl;have e2:((s.heap.push W.emptyDict).push (W.instObj C s.heap.objs.size)).get? (s.heap.objs.size+1)=some (W.instObj C s.heap.objs.size):=by
  have:=yC (s.heap.push W.emptyDict) (o:=W.instObj C s.heap.objs.size) rfl
  rwa [Heap.size_push] at this
 have e3:(s.heap.push W.emptyDict).Ns s.heap.objs.size (fun _=>none):=⟨W.emptyDict,#[],_,e1,rfl,(fun e he=>absurd he (by simp)),fun _=>rfl⟩
 have I1:=I.laid (a:=s.heap.objs.size) (o:=.own (s.heap.objs.size+1)) (h':=s.heap.push W.emptyDict) (t':=s.toks) (fun b u q=>yk _ q) (yg _) ⟨_,e1⟩;refine I1.laid (a:=s.heap.objs.size+1) (o:=.ins C s.heap.objs.size []) (t':=s.toks) (fun b u q=>yk _ q) (Nat.le_of_eq (Heap.size_push _ _)) ?_;have ne:s.heap.objs.size≠s.heap.objs.size+1:=yR (Nat.lt_succ_self _);refine⟨by rw[yO ne,yL],qo _,ne,e2,fun _=>none,(Heap.Ns1.of_empty e3).at fun o q=>yk _ q,fun _=>True.intro,fun y hy=>absurd rfl hy⟩
theorem yfn {prog:Program}{w:World}{env:Env}{e:Expr}{f:Str}{pos:Pos}{s:Shared}{Q:Value->Shared->Prop}(hb:attributeBase e f env (eval e env)=eval e env)
  (h:wpAny (model prog w) A (eval e env) (fun o s₁=>wpAny (model prog w) A (getAttr o f true) Q E s₁) E s):wpAny (model prog w) A (eval (.Attribute e f pos) env) Q E s:=
 Attribute_any_ h (by rw[arm_eval_Attribute,hb])
end
def yjU (K:W.Frag)(ta:TE)(f:Str):TE:=fun σ H Q=>ta σ H fun x H1=>∃ a C dx fs v,x=.ref a/\H1 a=some (.ins C dx fs)/\Cls K C/\QC K C f/\fs.lookup f=some v/\Q v H1
def yki (K:W.Frag)(ta tv:TE)(f:Str):TS:=fun D σ H=>tv σ H fun y H1=>ta σ H1 fun x H2=>∃ a C dx fs,x=.ref a/\H2 a=some (.ins C dx fs)/\Cls K C/\QC K C f/\fs.length<1000/\
 D.nx σ (upd H2 a (.ins C dx (Zb f y fs)))
section
variable {X:Cx}{o e value:Expr}{f:Str}{pos pos' tpos:Pos}{ta tv:TE}
theorem yc6 (he:PE X e ta)(hb:attributeBase e f X.env (eval e X.env)=eval e X.env):PE X (.Attribute e f pos) (yjU X.K ta f):=by
 intro pins s σ H Q I h;refine yfn hb (thn (he pins s σ H _ I h) fun u s1 ⟨x,H1,I1,rx,a,C,dx,fs,v,ex,ea,c,n,l,q⟩=>?_);subst ex;obtain rfl:u=Value.ref a:=rx;exact XJ I1 ea c n l fun u' s2 I2 ru=>⟨v,H1,I2,ru,q⟩
theorem yiw (ha:PE X o ta)(hv:PE X value tv)(hs:swapsWith value (some (.Attribute o f pos')) pos.line X.env=pure false):PS X (.Assign [.Attribute o f pos'] value pos) (yki X.K ta tv f):=by
 intro pins s σ H D I h;refine plainObj_wpAny_Assign_Attribute (thn (hv pins s σ H _ I h) fun u s1 ⟨y,H1,I1,ry,q⟩=>thn (ha pins s1 σ H1 _ I1 q) fun ov s2 ⟨x,H2,I2,rx,a,C,dx,fs,ex,ea,c,n,l,q2⟩=>?_) hs;subst ex;obtain rfl:ov=Value.ref a:=rx;exact xG I2 ea c n l ry fun s3 I3=>⟨σ,_,I3,q2⟩
end
section
variable {X:Cx}{pins:List (Addr×Obj)}{σ:St}{H:Hp}{s:Shared}{A:Around}{E:Value->Shared->Prop}{Q:Value->Shared->Prop}{c:Value}{b:Bool}
end
structure Room (k:Nat)(A:Around):Prop where
 hd:A.handled=none
 dp:A.depth+3*k+5<recursionLimit
 un:A.units+16*k+200<cLine
theorem Room.mono {j k:Nat}{A:Around}(r:Room k A)(h:j<=k):Room j A:=⟨r.hd,by have:=r.dp;omega,by have:=r.un;omega⟩
theorem Room.deeper {k:Nat}{A:Around}(r:Room (k+1) A)(env:Env):Room k (A.deeper env):=
 ⟨r.hd,by have:=r.dp;show A.depth+1+3*k+5<_;omega,by have:=r.un;show A.units+3+16*k+200<_;omega⟩
theorem XC {A:Around}{C:Addr}{us:List Value}{kw:List (Str×Value)}:(A.under (.builtin "type.__call__" ⟨.ref C::us,kw⟩)).depth=A.depth+1:=by
 first|rfl|simp[Around.under,Code.weight,Code.isCreation,Code.isGuard,Code.isCaller,Code.frames,Code.isFrame,guardIds]
theorem Xw {A:Around}{C:Addr}{us:List Value}{kw:List (Str×Value)}:(A.under (.builtin "type.__call__" ⟨.ref C::us,kw⟩)).units=A.units+1:=by
 first|rfl|simp[Around.under,Code.cUnits,Code.frames,Code.isFrame]
theorem Room.make {k:Nat}{A:Around}(r:Room (k+1) A)(C:Addr)(us:List Value)(kw:List (Str×Value)):Room k (A.under (.builtin "type.__call__" ⟨.ref C::us,kw⟩)):=
 ⟨r.hd,by have:=r.dp;rw[XC];omega,by have:=r.un;rw[Xw];omega⟩
theorem Room.depth {k:Nat}{A:Around}(r:Room k A):A.depth<recursionLimit:=by have:=r.dp;omega
theorem Room.units {k:Nat}{A:Around}(r:Room k A):A.units+64<cLine:=by have:=r.un;omega
def yjS:TA:=fun _ H Q=>Q [] H
def yi2 (ta:TE)(tr:TA):TA:=fun σ H Q=>ta σ H fun x H1=>tr σ H1 fun xs H2=>Q (x::xs) H2
section
variable {X:Cx}{e:Expr}{es:List Expr}{te:TE}{t:TA}{pos:Pos}
theorem Zx:PA X [] yjS:=fun _ _ _ _ H Q I h=>Calls.spliced_nil ⟨[],H,I,.nil,h⟩
theorem Jo (ha:PE X e te)(hr:PA X es t)(hs:starEach (e::es) X.env=(false,eval e X.env)::starEach es X.env:=by rfl):PA X (e::es) (yi2 te t):=by
 intro pos pins s σ H Q I h;rw[hs];show wpAny _ _ (spliced ((false,eval e X.env)::backTo pos (starEach es X.env))) _ _ s;refine Calls.spliced_cons (thn (ha pins s σ H _ I h) fun u s1 ⟨x,H1,I1,r1,q1⟩=>?_);exact thn (hr pos pins s1 σ H1 _ I1 q1) fun us s2 ⟨xs,H2,I2,r2,q2⟩=>⟨x::xs,H2,I2,.cons r1 r2,q2⟩
def yjW (t:TA):TE:=fun σ H Q=>t σ H fun xs H1=>xs.length<=sizeLine/\∀ p,H1 p=none->Q (.ref p) (upd H1 p (.tup xs))
def ykl (t:TA):TE:=fun σ H Q=>t σ H fun xs H1=>xs.length<=sizeLine/\∀ p,H1 p=none->Q (.ref p) (upd H1 p (.lst xs))
theorem UN {x1}(h:PA X es t):PE X (.Tuple es x1 pos) (yjW t):=by
 intro pins s σ H Q I hq;refine wpAny_Tuple_spliced (thn (h pos pins s σ H _ I hq) fun us s1 ⟨xs,H1,I1,r,z,q⟩=>⟨by rw[←r.length];exact z,?_⟩);have hf:H1 s1.heap.objs.size=none:=I1.hok.fresh (yg _);refine⟨.ref s1.heap.objs.size,upd H1 s1.heap.objs.size (.tup xs),I1.laid (t':=s1.toks) (fun b u e=>yk _ e) (yg _) ?_,rfl,q _ hf⟩;exact⟨z,us,r,⟨_,yC _ rfl,rfl,_,rfl⟩⟩
theorem ycz (h:PA X es t):PE X (.List es pos) (ykl t):=by
 intro pins s σ H Q I hq;refine wpAny_List_spliced (thn (h pos pins s σ H _ I hq) fun us s1 ⟨xs,H1,I1,r,z,q⟩=>⟨by rw[←r.length];exact z,?_⟩);have hf:H1 s1.heap.objs.size=none:=I1.hok.fresh (yg _);refine⟨.ref s1.heap.objs.size,upd H1 s1.heap.objs.size (.lst xs),I1.laid (t':=s1.toks) (fun b u e=>yk _ e) (yg _) ?_,rfl,q _ hf⟩;exact⟨z,us,0,r,yC _ rfl⟩
end
abbrev Sp:=List V->Hp->VK->XK->Prop
abbrev CXT:=List Env->Hp->Shared->XK->Value->Shared->Prop
structure Env0 (P:Program)(w:World)(K:W.Frag)(mg:Str->Option Value)(base:Heap)(A:Around)(outer:List Env)(s:Shared)(H:Hp):Prop where
 frames:A.frames=some outer
 mod:Mod K mg base
 bs:∀ b o,base.get? b=some o->s.heap.get? b=some o/\H b=none
 bsz:base.objs.size<=s.heap.objs.size
 funs:s.heap.FunFrames base outer
 frf:∀ b∈frs outer,H b=none
 hok:HOk P w H s.heap
 bare:AllBare s.gens
def CE (outer:List Env)(P:Program)(w:World)(H:Hp)(s:Shared)(Q:VK)(u:Value)(s':Shared):Prop:=
 ∃ v H',s'.os=s.os/\AllBare s'.gens/\Un (frs outer) [] H H' s.heap s'.heap/\HOk P w H' s'.heap/\Yx v u/\Q v H'
def CR (CX:CXT)(outer:List Env)(P:Program)(w:World)(H:Hp)(s:Shared)(Q:VK)(E:XK)(r:Result)(s':Shared):Prop:=
 match r with
 |.ok (.ret u)=>CE outer P w H s Q u s'
 |.ok _=>False
 |.error e=>CX outer H s E e s'
structure FnOk (P:Program)(w:World)(K:W.Frag)(mg:Str->Option Value)(base:Heap)(CX:CXT)(k:Nat)(f:Addr)(fd:FuncData)(ps:List Str)(sp:Sp):Prop where
 len:∀ vs H Q E,sp vs H Q E->vs.length=ps.length
 run:∀ (A:Around) (outer:List Env) (s:Shared) (H:Hp) (args:Args) (us:List Value) (vs:List V) (Q:VK) (E:XK),Room k A->Env0 P w K mg base A outer s H->BindsTo s fd args (ps.zip us)->YQ vs us->sp vs H Q E->
  codeAny (model P w) A (.call (.ref f) args) (CR CX outer P w H s Q E) s
theorem Env0.make {P:Program}{w:World}{K:W.Frag}{mg:Str->Option Value}{base:Heap}{A:Around}{outer:List Env}{s:Shared}{H:Hp}(e:Env0 P w K mg base A outer s H)(C:Addr)(us:List Value)(kw:List (Str×Value)) :
  Env0 P w K mg base (A.under (.builtin "type.__call__" ⟨.ref C::us,kw⟩)) outer s H:=⟨by first|exact e.frames|(simpa [Around.under,Code.envs,Code.isFrame,pushEnvs] using e.frames),e.mod,e.bs,e.bsz,e.funs,e.frf,e.hok,e.bare⟩
section
variable {X:Cx}{pins:List (Addr×Obj)}{σ:St}{H:Hp}{s s':Shared}
theorem Inv.env0 (I:Inv X pins σ H s):Env0 X.prog X.w X.K X.mg X.base X.A X.stack s H:=
 ⟨I.ok.frames,I.ok.mod,I.bs,yQ I.ok.bsz I.sz,I.stack,I.stkFree,I.hok,I.bare⟩
theorem Inv.after {Q:VK}{u:Value}(I:Inv X pins σ H s)(h:CE X.stack X.prog X.w H s Q u s'):EP X pins σ Q u s':=by
 obtain⟨v,H',os,bare,un,hok,r,q⟩:=h;obtain⟨hh,g,d,t,os'⟩:=s';obtain rfl:os'=s.os:=os;exact⟨v,H',I.call (h':=hh) (g':=g) (d':=d) (t':=t) (ch:=[]) un hok bare (fun b z=>absurd z (by simp)),r,q⟩
end
def ygR (sp:Sp)(dvs:List V)(E:XK)(t:TA):TE:=fun σ H Q=>t σ H fun vs H1=>sp (vs++dvs) H1 Q E
def yhb (C:Addr)(m:Str)(sp:Sp)(dvs:List V)(E:XK)(ta:TE)(t:TA):TE:=fun σ H Q=>ta σ H fun x H1=>∃ a dx fs,x=.ref a/\H1 a=some (.ins C dx fs)/\fs.lookup m=none/\
 t σ H1 fun vs H2=>sp (x::(vs++dvs)) H2 Q E
def yi9 (C:Addr)(sp:Sp)(dvs:List V)(E:XK)(t:TA):TE:=fun σ H Q=>t σ H fun vs H1=>∀ x dx,H1 x=none->H1 dx=none->dx≠x->
 sp (.ref x::(vs++dvs)) (upd (upd H1 dx (.own x)) x (.ins C dx [])) (fun v H2=>v=.non/\Q (.ref x) H2) E
def JT (K:W.Frag)(fd:FuncData)(ps:List Str)(ds:List Value):Prop:=
 ∀ (s:Shared) (us:List Value),K.In s.heap->(us++ds).length=ps.length->BindsTo s fd ⟨us,[]⟩ (ps.zip (us++ds))
theorem JT.all {K:W.Frag}{fd:FuncData}{ps:List Str}(h:∀ us:List Value,us.length=ps.length->bindArgs fd ⟨us,[]⟩=pure (ps.zip us)):JT K fd ps []:=fun s us _ hl=>by
 rw[Yl] at hl ⊢;exact .of_eq (h us hl)
def Z8 (CX:CXT)(X:Cx)(E:XK):Prop:=∀ (pins:List (Addr×Obj)) (σ:St) (H:Hp) (s:Shared) (e:Value) (s':Shared),Inv X pins σ H s->CX X.stack H s E e s'->X.xe e s'
section
variable {X:Cx}{CX:CXT}{k:Nat}{f C:Addr}{fd:FuncData}{ps:List Str}{sp:Sp}{dvs:List V}{ds:List Value}{E:XK}{x m:Str}{p pos apos:Pos}{e o:Expr}{es:List Expr}{ta:TE}{t:TA}
theorem XA {pins:List (Addr×Obj)}{σ:St}{H:Hp}{s:Shared}{Q:VK}{us:List Value}{vs:List V}(F:FnOk X.prog X.w X.K X.mg X.base CX k f fd ps sp)(hr:Room k X.A)(hb:JT X.K fd ps ds)(hd:YQ dvs ds)(hx:Z8 CX X E)
  (I:Inv X pins σ H s) (r:YQ vs us) (h:sp (vs++dvs) H Q E):wpAny (model X.prog X.w) X.A (call (.ref f) us) (EP X pins σ Q) X.xe s:=by
 have r2:YQ (vs++dvs) (us++ds):=r.append hd;have hl:(us++ds).length=ps.length:=by rw[←r2.length];exact F.len _ _ _ _ h
 refine wpAny_call (codeAny_mono (F.run X.A X.stack s H ⟨us,[]⟩ (us++ds) (vs++dvs) Q E hr I.env0 (hb s us I.kIn hl) r2 h) fun r s' hq=>?_);cases r with
 |error e=>exact hx pins σ H s e s' I hq
 |ok fl=>
  cases fl with
  |ret u=>exact I.after hq
  |next=>exact False.elim hq
  |brk=>exact False.elim hq
  |cont=>exact False.elim hq
theorem ygb (F:FnOk X.prog X.w X.K X.mg X.base CX k f fd ps sp)(hr:Room k X.A)(hg:Gl X x)(hm:X.mg x=some (.ref f))(hk:W.keepIn X.K (.ref f)=true)(hb:JT X.K fd ps ds)(hd:YQ dvs ds)(hx:Z8 CX X E)
  (ha:PA X (e::es) t) (hdb:(x==("__debug__" : Str))=false:=by decide) (he:starEach (e::es) X.env=(false,eval e X.env)::starEach es X.env:=by rfl) (hpl:(backTo pos (starEach es X.env)).any (·.1)=false:=by rfl) :
  PE X (.Call (.Name x p) (e::es) [] pos) (ygR sp dvs E t):=by
 intro pins s σ H Q I h;refine wpAny_Call_Name_kw (UF I hg hm ?_ hdb);refine W.callWith_K (h₀:=X.base) I.ok.mod.kin hk (thn (ha pos pins s σ H _ I h) fun us s1 ⟨vs,H1,I1,r,q⟩=>⟨I1.kIn,?_⟩) he hpl;exact XA F hr hb hd hx I1 r q
theorem yaV {pl:Sem Bool}(he:PE X o ta)(c:Cls X.K C)(hm:Meth X.K C m f)(F:FnOk X.prog X.w X.K X.mg X.base CX k f fd ps sp)(hr:Room k X.A)(hb:JT X.K fd ps ds)(hd:YQ dvs ds)(hx:Z8 CX X E)(ha:PA X (e::es) t)
  (hst:starEach (e::es) X.env=(false,eval e X.env)::starEach es X.env:=by rfl) (hpl:(backTo pos (starEach es X.env)).any (·.1)=false:=by rfl)
  (ht:eval (.Call (.Attribute o m apos) (e::es) [] pos) X.env=(do
   let ov ←eval o X.env
   standAt apos.atName
   let (f,first) ←holding [ov] (getMethod ov m pl)
   callWith pos f first (backTo pos (starEach (e::es) X.env)) (backToKw pos (keywordEach [] X.env))):=by rfl) :
  PE X (.Call (.Attribute o m apos) (e::es) [] pos) (yhb C m sp dvs E ta t):=by
 intro pins s σ H Q I h;refine W.methodCall_KW (pl:=pl) (thn (he pins s σ H _ I h) fun u s1 ⟨x,H1,I1,rx,a,dx,fs,ex,ea,l,q⟩=>?_) ht;subst ex;obtain rfl:u=Value.ref a:=rx;refine k7 I1 ea c hm l ?_;refine W.callWith_K (first:=[.ref a]) (h₀:=X.base) I.ok.mod.kin hm.kp (thn (ha pos pins s1 σ H1 _ I1 q) fun us s2 ⟨vs,H2,I2,r,q2⟩=>⟨I2.kIn,?_⟩) hst hpl;exact XA (us:=.ref a::us) (vs:=.ref a::vs) F hr hb hd hx I2 (.cons rfl r) q2
theorem kA {pl:Sem Bool}(he:PE X o ta)(c:Cls X.K C)(hm:Meth X.K C m f)(F:FnOk X.prog X.w X.K X.mg X.base CX k f fd ps sp)(hr:Room k X.A)(hb:JT X.K fd ps ds)(hd:YQ dvs ds)(hx:Z8 CX X E)
  (ht:eval (.Call (.Attribute o m apos) [] [] pos) X.env=(do
   let ov ←eval o X.env
   standAt apos.atName
   let (f,first) ←holding [ov] (getMethod ov m pl)
   callWith pos f first (backTo pos (starEach [] X.env)) (backToKw pos (keywordEach [] X.env))):=by rfl) :
  PE X (.Call (.Attribute o m apos) [] [] pos) (yhb C m sp dvs E ta yjS):=by
 intro pins s σ H Q I h;refine W.methodCall_KW (pl:=pl) (thn (he pins s σ H _ I h) fun u s1 ⟨x,H1,I1,rx,a,dx,fs,ex,ea,l,q⟩=>?_) ht;subst ex;obtain rfl:u=Value.ref a:=rx;refine k7 I1 ea c hm l ?_;exact W.callWith_K0 (first:=[.ref a]) I1.kIn hm.kp (XA (us:=[.ref a]) (vs:=[.ref a]) F hr hb hd hx I1 (.cons rfl .nil) q)
structure Mk (K:W.Frag)(C f:Addr):Prop where
 makes:W.makesIn K C=true
 init:W.findIn K (.ref C) "__init__" = some (some (.ref f))
 fn:W.isFn K (.ref f)=true
 kp:W.keepIn K (.ref C)=true
theorem yff {pins:List (Addr×Obj)}{σ:St}{H:Hp}{s:Shared}{Q:VK}{us:List Value}{vs:List V}(M:Mk X.K C f)(F:FnOk X.prog X.w X.K X.mg X.base CX k f fd ps sp)(hr:Room (k+1) X.A)(hb:JT X.K fd ps ds)(hd:YQ dvs ds)
  (hx:Z8 CX X E) (I:Inv X pins σ H s) (r:YQ vs us)
  (h:∀ x dx,H x=none->H dx=none->dx≠x->sp (.ref x::(vs++dvs)) (upd (upd H dx (.own x)) x (.ins C dx [])) (fun v H2=>v=.non/\Q (.ref x) H2) E) :
  wpAny (model X.prog X.w) X.A (call (.ref C) us) (EP X pins σ Q) X.xe s:=by
 have hq:=h (s.heap.objs.size+1) s.heap.objs.size (I.hok.fresh (Nat.le_succ _)) (I.hok.fresh (yg _)) (yR (Nat.lt_succ_self _));have I2:=Inv.made (C:=C) I;have r2:YQ (V.ref (s.heap.objs.size+1)::(vs++dvs)) (Value.ref (s.heap.objs.size+1)::(us++ds)):=.cons rfl (r.append hd);have hl:(Value.ref (s.heap.objs.size+1)::us++ds).length=ps.length:=by
  have e:=r2.length;rw[F.len _ _ _ _ hq] at e;exact e.symm
 refine wpAny_call (yel (f:=f) I.kIn M.makes M.init (beq_iff_eq.mp M.fn) (codeAny_mono (F.run _ X.stack _ _ ⟨Value.ref (s.heap.objs.size+1)::us,[]⟩ (Value.ref (s.heap.objs.size+1)::(us++ds)) _ _ E (hr.make C us [])
  (I2.env0.make C us []) (hb _ (Value.ref (s.heap.objs.size+1)::us) I2.kIn hl) r2 hq) fun r s' hq'=>?_))
 cases r with
 |error e=>exact hx pins σ _ _ e s' I2 hq'
 |ok fl=>
  cases fl with
  |ret u=>
   obtain⟨v,H',I3,rv,ev,q3⟩:=I2.after hq';subst ev;exact⟨rv,⟨V.ref (s.heap.objs.size+1),H',I3,rfl,q3⟩⟩
  |next=>exact False.elim hq'
  |brk=>exact False.elim hq'
  |cont=>exact False.elim hq'
theorem yaj (M:Mk X.K C f)(F:FnOk X.prog X.w X.K X.mg X.base CX k f fd ps sp)(hr:Room (k+1) X.A)(hg:Gl X x)(hm:X.mg x=some (.ref C))(hb:JT X.K fd ps ds)(hd:YQ dvs ds)(hx:Z8 CX X E)
  (ha:PA X (e::es) t) (hdb:(x==("__debug__" : Str))=false:=by decide) (he:starEach (e::es) X.env=(false,eval e X.env)::starEach es X.env:=by rfl) (hpl:(backTo pos (starEach es X.env)).any (·.1)=false:=by rfl) :
  PE X (.Call (.Name x p) (e::es) [] pos) (yi9 C sp dvs E t):=by
 intro pins s σ H Q I h;refine wpAny_Call_Name_kw (UF I hg hm ?_ hdb);refine W.callWith_K (h₀:=X.base) I.ok.mod.kin M.kp (thn (ha pos pins s σ H _ I h) fun us s1 ⟨vs,H1,I1,r,q⟩=>⟨I1.kIn,?_⟩) he hpl;exact yff M F hr hb hd hx I1 r q
end
section
variable {X:Cx}{CX:CXT}{k:Nat}{f C:Addr}{fd:FuncData}{ps ks:List Str}{sp:Sp}{E:XK}{x m:Str}{p pos apos kpos:Pos}{e o:Expr}{es:List Expr}{kws:List Keyword}{te ta:TE}{t tk:TA}{nm:Option Str}
variable {g:List Value->List Value->List Value}{gV:List V->List V->List V}
end
structure FnScope (N P:List Str)(sc:Scope):Prop where
 kind:sc.kind=.function
 co:sc.isCoroutine=false
 gen:sc.isGenerator=false
 nd:N.Nodup
 pre:N.take P.length=P
 par:∀ x∈P,sc.names.lookup x=some .local∨sc.names.lookup x=some .cell
 nofree:∀ y∈sc.names,y.2≠.free
theorem qC {N P:List Str}{sc:Scope}(kind:sc.kind=.function:=by rfl)(co:sc.isCoroutine=false:=by rfl)(gen:sc.isGenerator=false:=by rfl)(nd:N.Nodup:=by decide +kernel)(pre:N.take P.length=P:=by rfl)(par:∀ x∈P,sc.names.lookup x=some .local∨sc.names.lookup x=some .cell:=by decide +kernel)(nofree:∀ y∈sc.names,y.2≠.free:=by decide +kernel):FnScope N P sc:=⟨kind,co,gen,nd,pre,par,nofree⟩
theorem Ub {kindOf:Str->Option NameKind}{x:Str}:∀ {binds:List (Str×Value)} {m:Str->Option Value},(∀ v,(x,v)∉binds)->bindL kindOf binds m x=m x
 |[],_,_=>rfl
 | (n,v)::r,m,h=>by
  unfold bindL;rw[Ub fun w hw=>h w (yf _ hw)];split
  ·have:x≠n:=by rintro rfl;exact h v yp
   simp[this]
  ·rfl
theorem uS {kindOf:Str->Option NameKind}{x:Str}:∀ {binds:List (Str×Value)} {m:Str->Option Value},(∀ v,(x,v)∉binds)->bindC kindOf binds m x=m x
 |[],_,_=>rfl
 | (n,v)::r,m,h=>by
  unfold bindC;rw[uS fun w hw=>h w (yf _ hw)];split
  ·rfl
  ·have:x≠n:=by rintro rfl;exact h v yp
   simp[this]
theorem Ug {kindOf:Str->Option NameKind}{x:Str}{v:Value}:∀ {P:List Str} {vs:List Value} {i:Nat} {m:Str->Option Value},P.Nodup->P[i]?=some x->vs[i]?=some v->kindOf x=some .local->
  bindL kindOf (P.zip vs) m x=some v
 |[],_,_,_,_,h,_,_=>by simp at h
 |_::_,[],_,_,_,_,h,_=>by simp at h
 |p::P,w::vs,0,m,nd,h1,h2,hk=>by
  simp at h1 h2;subst h1;subst h2;show bindL kindOf ((p,w)::P.zip vs) m p=_;unfold bindL;rw[Ub fun v hv=>(yK.mp nd).1 (Qd hv).1,yc hk];simp
 |p::P,w::vs,i+1,m,nd,h1,h2,hk=>by
  show bindL kindOf ((p,w)::P.zip vs) m x=_;unfold bindL;exact Ug (i:=i) (yK.mp nd).2 (by simpa using h1) (by simpa using h2) hk
theorem uK {kindOf:Str->Option NameKind}{x:Str}{v:Value}:∀ {P:List Str} {vs:List Value} {i:Nat} {m:Str->Option Value},P.Nodup->P[i]?=some x->vs[i]?=some v->kindOf x≠some .local->
  bindC kindOf (P.zip vs) m x=some v
 |[],_,_,_,_,h,_,_=>by simp at h
 |_::_,[],_,_,_,_,h,_=>by simp at h
 |p::P,w::vs,0,m,nd,h1,h2,hk=>by
  simp at h1 h2;subst h1;subst h2;show bindC kindOf ((p,w)::P.zip vs) m p=_;unfold bindC;rw[uS fun v hv=>(yK.mp nd).1 (Qd hv).1,yb hk];simp
 |p::P,w::vs,i+1,m,nd,h1,h2,hk=>by
  show bindC kindOf ((p,w)::P.zip vs) m x=_;unfold bindC;exact uK (i:=i) (yK.mp nd).2 (by simpa using h1) (by simpa using h2) hk
def start (N:List Str)(vs:List V):St:=vs.map some++List.replicate (N.length - vs.length) none
def kX (CX:CXT)(P:Program)(w:World)(K:W.Frag)(mg:Str->Option Value)(base:Heap)(N:List Str)(qual:Str)(scope:Scope)(f:Addr)(cd:Value)(A:Around)(outer:List Env)(s:Shared)(H:Hp)(E:XK):Cx where
 prog:=P
 w:=w
 K:=K
 mg:=mg
 base:=base
 A:=A.deeper (envOfC qual scope s.heap.objs.size f cd)
 N:=N
 s₀:=s
 H₀:=H
 env:=envOfC qual scope s.heap.objs.size f cd
 outer:=outer
 stack:=envOfC qual scope s.heap.objs.size f cd::outer
 ex:=[]
 calm:=true
 fn:=fun _=>true
 pn:=[]
 xe:=fun e s'=>wpAny (model P w) (A.deeper (envOfC qual scope s.heap.objs.size f cd)) (leaving (envOfC qual scope s.heap.objs.size f cd) e) (fun _ s''=>CX outer H s E e s'') (fun e' s''=>CX outer H s E e' s'') s'
theorem WZ {sc:Scope}{n:Nat}{x:Str}(h:sc.names.lookup x=some .cell):∃ c,(cellsFrom n sc.names []).lookup x=some c:=by
 have q:=W.cellsFrom_some sc.names n [] (.inl h);exact je.mp q
theorem ybV {CX:CXT}{P:Program}{w:World}{K:W.Frag}{mg:Str->Option Value}{base:Heap}{N ps:List Str}{qual:Str}{scope:Scope}{f:Addr}{cd:Value}{A:Around}{outer:List Env}{s s1:Shared}{H:Hp}{E:XK}{us:List Value}{vs:List V}
  (S:FnScope N ps scope) (hd:A.handled=none) (e0:Env0 P w K mg base A outer s H) (hl:vs.length=ps.length) (r:YQ vs us)
  (x:InCallC s s.heap.objs.size (bindL (envOfC qual scope s.heap.objs.size f cd).kindOf (ps.zip us) fun _=>none) (cellsFrom (s.heap.objs.size+1) scope.names []) (bindC (envOfC qual scope s.heap.objs.size f cd).kindOf (ps.zip us) fun _=>none) s1) :
  Inv (kX CX P w K mg base N qual scope f cd A outer s H E) [] (start N vs) H s1:=by
 have hpl:ps.length<=N.length:=by have:=congrArg List.length S.pre;rw[yS] at this;omega
 obtain⟨h1,tk,rfl,hk⟩:=x.done;have noA:∀ b:Addr,b∉(kX CX P w K mg base N qual scope f cd A outer s H E).ex:=fun b z=>absurd (show b∈([]:List Addr) from z) (by simp);refine⟨⟨e0.mod,S.kind,rfl,rfl,yg _,fun y z c h1 h2=>?_,fun y hy=>?_,fun y c _ h=>?_,fun _=>hd,Around.frames_deeper e0.frames,.inr ⟨rfl,rfl⟩,fun b z=>absurd z (noA b),e0.bs,e0.bsz,fun b _ _=>noA b,fun b z=>absurd z (noA b),e0.funs,e0.frf⟩,
  rfl,e0.bare,Un.kept hk,⟨_,x.toInCall.ns,fun i y v h1 h2 h3=>?_⟩,fun y c h=>⟨_,x.cell y c h⟩,e0.hok.fresh (yg _),fun y c h=>?_,fun p hp=>absurd (show p∈([]:List (Addr×Obj)) from hp) (by simp),e0.hok.kept hk,?_⟩
 ·exact name_of_addr x.apart (PySem.mem_of_lookup h1) (PySem.mem_of_lookup h2)
 ·have hy:scope.names.lookup y=some .cell∨scope.names.lookup y=some .free:=hy;rcases hy with hy|hy
  ·exact WZ hy
  ·exact absurd rfl (S.nofree _ (PySem.mem_of_lookup hy))
 ·exact qS (x.above y c (PySem.mem_of_lookup h))
 ·have hi:i<vs.length:=by
   unfold start at h2;by_cases hi:i<vs.length
   ·exact hi
   ·rw[al_getElem?_append_right (by simpa using hi)] at h2;rw[al_getElem?_replicate] at h2;split at h2 <;> cases h2
  have ha:vs[i]?=some v:=by
   unfold start at h2;rw[al_getElem?_append_left (by simpa using hi),al_getElem?_map] at h2;cases e:vs[i]? with
   |none=>rw[e] at h2;cases h2
   |some a=>rw[e] at h2;cases h2;rfl
  obtain⟨u,hu,rv⟩:=r.get ha;have hp:ps[i]?=some y:=by
   rw[←S.pre,List.getElem?_take_of_lt (by omega)];exact h1
  have ndP:ps.Nodup:=by rw[←S.pre];exact S.nd.sublist (Qo _ _)
  refine⟨u,rv,?_⟩;rcases S.par y (al_mem_of_getElem? hp) with k|k
  ·exact .inl ⟨k,Ug ndP hp hu k⟩
  ·obtain⟨c,e⟩:=WZ (n:=s.heap.objs.size+1) k;refine .inr ⟨.inl k,c,e,?_⟩;have q:=x.cell y c e;rw[uK ndP hp hu (by show scope.names.lookup y≠_;rw[k];decide)] at q;exact q
 ·exact e0.hok.fresh (qS (x.above y c (PySem.mem_of_lookup h)))
 ·unfold start;show _=N.length;rw[yy,ye,qX];omega
theorem yja {CX:CXT}{P:Program}{w:World}{K:W.Frag}{mg:Str->Option Value}{base:Heap}{k:Nat}{f:Addr}{name qual:Str}{params:Arguments}{body:List Stmt}{scope:Scope}{dV kV doc pm cdv ct oc:Value}{an od:Option Addr}
  {osl:Array (Option Value)} {N ps:List Str} {sp:Sp} (lk:K.lookup f=some ⟨oc,od,.func (W.fnOf name qual params body scope dV kV doc pm an cdv ct),osl⟩) (hcd:W.codeIn K cdv qual=true) (S:FnScope N ps scope)
  (len:∀ vs H Q E,sp vs H Q E->vs.length=ps.length)
  (hbody:∀ (A:Around) (outer:List Env) (s:Shared) (H:Hp) (vs:List V) (Q:VK) (E:XK),Room k (A.deeper (envOfC qual scope s.heap.objs.size f cdv))->sp vs H Q E->
   ∃ t,PSs (kX CX P w K mg base N qual scope f cdv A outer s H E) body t/\t {nx:=fun _ H'=>Q .non H',rt:=Q} (start N vs) H) :
  FnOk P w K mg base CX (k+1) f (W.fnOf name qual params body scope dV kV doc pm an cdv ct) ps sp:=by
 refine⟨len,fun A outer s H args us vs Q E hr e0 hb r hsp=>?_⟩;have hl:=len _ _ _ _ hsp;have KX:K.In s.heap:=e0.mod.kin.keeps fun b o e=>(e0.bs b o e).1;have lim:s.heap.NoLimit:=e0.mod.nolimit.keeps fun b o e=>(e0.bs b o e).1;have hkind:∀ y∈ps.zip us,scope.names.lookup y.1=some .local∨(scope.names.lookup y.1=some .cell/\((cellsFrom (s.heap.objs.size+1) scope.names []).lookup y.1).isSome=true):=fun⟨n,v⟩ hy=>by
  rcases S.par n (Qd hy).1 with q|q
  ·exact .inl q
  ·exact .inr ⟨q,W.cellsFrom_some _ _ _ (.inl q)⟩
 refine codeAny_call_function hr.depth (KX _ _ lk) rfl S.co S.gen rfl (W.codeRec_of KX hcd) (hb _ _ _ _ ?_);refine wpAny_newFunctionEnv_cells S.kind hkind fun env he s1 x=>?_;subst he;refine⟨lim.keeps x.toInCall.keep,codeAny_func ?_⟩;obtain⟨t,ht,hq⟩:=hbody A outer s H vs Q E (hr.deeper _) hsp;have I:Inv (kX CX P w K mg base N qual scope f cdv A outer s H E) [] (start N vs) H s1:=ybV S hr.hd e0 hl r x;refine YJ (ht [] s1 (start N vs) H _ I hq) (fun fl s' hs=>?_) fun e s' hs=>hs;have fin:∀ {σ':St} {H':Hp} {v:V} {u:Value},Inv (kX CX P w K mg base N qual scope f cdv A outer s H E) [] σ' H' s'->Yx v u->Q v H'->CE outer P w H s Q u s':=
  fun {σ' H' v u} J rv q=>⟨v,H',J.os,J.bare,J.base,J.hok,rv,q⟩
 cases fl with
 |ret u=>
  obtain⟨v,σ',H',J,rv,q⟩:=hs;exact fin J rv q
 |next=>
  obtain⟨σ',H',J,q⟩:=hs;exact fin (v:=V.non) (u:=Value.none) J rfl q
 |brk=>
  obtain⟨_,_,_,q⟩:=hs;exact False.elim q
 |cont=>
  obtain⟨_,_,_,q⟩:=hs;exact False.elim q
section
variable {X:Cx}{x:Str}{p pos:Pos}{e:Expr}{es:List Expr}{t:TA}{id T:String}{r:List V->Hp->VK->Prop}
def tCB (r:List V->Hp->VK->Prop)(t:TA):TE:=fun σ H Q=>t σ H fun vs H1=>r vs H1 Q
theorem wV (hc:z9 X (.builtin id) r)(hg:Gl X x)(hm:X.mg x=none)(hv:bootBuiltins x=some (.builtin id))(ha:PA X (e::es) t)(hn:x ≠ "__name__" :=by decide)(hdb:(x==("__debug__" : Str))=false:=by decide)
  (he:starEach (e::es) X.env=(false,eval e X.env)::starEach es X.env:=by rfl) (hpl:(backTo pos (starEach es X.env)).any (·.1)=false:=by rfl):PE X (.Call (.Name x p) (e::es) [] pos) (tCB r t):=by
 intro pins s σ H Q I h;refine wpAny_Call_Name_kw (Zl I hg hm hv ?_ hn hdb);exact PyProof.Rows.callWith_builtin1 (thn (ha pos pins s σ H _ I h) fun us s1 ⟨vs,H1,I1,r1,q1⟩=>hc pins s1 σ H1 vs us Q I1 r1 q1) he hpl
theorem ZH (hc:z9 X (.type T) r)(hg:Gl X x)(hm:X.mg x=none)(hv:bootBuiltins x=some (.type T))(ha:PA X (e::es) t)(hn:x ≠ "__name__" :=by decide)(hdb:(x==("__debug__" : Str))=false:=by decide)
  (he:starEach (e::es) X.env=(false,eval e X.env)::starEach es X.env:=by rfl) (hpl:(backTo pos (starEach es X.env)).any (·.1)=false:=by rfl):PE X (.Call (.Name x p) (e::es) [] pos) (tCB r t):=by
 intro pins s σ H Q I h;refine wpAny_Call_Name_kw (Zl I hg hm hv ?_ hn hdb);exact PyProof.Rows.callWith_type1 (thn (ha pos pins s σ H _ I h) fun us s1 ⟨vs,H1,I1,r1,q1⟩=>hc pins s1 σ H1 vs us Q I1 r1 q1) he hpl
end
end L2
namespace HT
open PySem PyProof.Rows
section
open PySem.SeqAt
open PySem.AutoSeq1 (wpAny_loadPart')
open PySem.MeetsSeq PySem.MeetsSeq2 PySem.MeetsSeq3
end
section
variable {prog:Program}{w:World}{A:Around}{E:Value->Shared->Prop}{s:Shared}
theorem ygq {t b:Addr}{vs ws:List Value}{Q:Value->Shared->Prop}(ht:IsTup s.heap t vs.toArray)(hb:IsTup s.heap b ws.toArray)(hv:vs≠[])
  (h1:ws=[]->Q (.ref t) s) (h2:ws≠[]->Q (.ref s.heap.objs.size) {s with heap:=s.heap.push {cls:=.type "tuple", data:=.seq (vs++ws).toArray}})
  (hsz:vs.length+ws.length<=sizeLine):wpAny (model prog w) A (binaryOp .Add (.ref t) (.ref b)) Q E s:=by
 obtain⟨⟨cls,dd,data,sl⟩,ho,hc,n,hd⟩:=id ht;obtain⟨⟨cls2,dd2,data2,sl2⟩,ho2,hc2,n2,hd2⟩:=id hb;simp only at hc hd hc2 hd2;subst hc hd hc2 hd2;have e:vs.toArray++ws.toArray=(vs++ws).toArray:=by simp
 by_cases hw:ws=[]
 ·exact concat_meets ⟨_,ho,rfl⟩ ⟨_,ho2,rfl⟩ noFill_tuple_add seq_tuple_add PySem.F.slot_tuple_add PySem.F.entry_tuple_add (PySem.F.args_tuple_add_2 _ _)
   (tuple_addW1 t b vs.toArray ws.toArray n n2 dd dd2 sl sl2 (by simpa using hv) (by simp[hw])) ⟨ho,ho2,h1 hw⟩
 ·refine concat_meets ⟨_,ho,rfl⟩ ⟨_,ho2,rfl⟩ noFill_tuple_add seq_tuple_add PySem.F.slot_tuple_add PySem.F.entry_tuple_add (PySem.F.args_tuple_add_2 _ _)
   (tuple_addW2 t b vs.toArray ws.toArray n n2 dd dd2 sl sl2 (by simpa using hv) (by simpa using hw) (by rw[yD,yD];exact hsz)) ⟨ho,ho2,?_⟩
  rw[e];exact h2 hw
def sIx (n d:Nat):Option Int->Nat
 |none=>d
 |some v=>if v<0 then (v+(n:Int)).toNat else min v.toNat n
theorem Wh (n d:Nat):sIx n d none=d:=rfl
theorem ygG (n d k:Nat):sIx n d (some (k:Int))=min k n:=by
 show(if (k:Int)<0 then ((k:Int)+(n:Int)).toNat else min (k:Int).toNat n)=min k n;rw[yb (by omega),Int.toNat_natCast]
theorem yhH (n d:Nat)(hd:d<=n)(o:Option Int):sIx n d o<=n:=by
 cases o with
 |none=>exact hd
 |some v=>
  show(if v<0 then (v+(n:Int)).toNat else min v.toNat n)<=n;by_cases hv:v<0
  ·rw[yc hv];omega
  ·rw[yb hv];exact Nat.min_le_right _ _
theorem wr (v:Int)(n d:Nat):(if v<0 then max (v+(n:Int)) 0 else min v (n:Int))=((sIx n d (some v):Nat):Int):=by
 show(if v<0 then max (v+(n:Int)) 0 else min v (n:Int))=(((if v<0 then (v+(n:Int)).toNat else min v.toNat n):Nat):Int)
 by_cases hv:v<0
 ·simp only[yc hv];omega
 ·simp only[yb hv];omega
theorem xl (lo hi:Option Int)(n:Nat):Builtin.Slice.sliceAdjust lo hi 1 (n:Int)=(((sIx n 0 lo:Nat):Int),((sIx n n hi:Nat):Int)):=by
 have h1:¬ ((1:Int)<0):=by omega
 unfold Builtin.Slice.sliceAdjust;simp only[h1,if_false];refine Prod.ext ?_ ?_
 ·cases lo with
  |none=>rfl
  |some v=>exact wr v n 0
 ·cases hi with
  |none=>rfl
  |some v=>exact wr v n n
theorem Xx (i j:Nat):Builtin.Slice.slicePlaces (i:Int) (j:Int) 1=j - i:=by
 unfold Builtin.Slice.slicePlaces;have h1:(1:Int) > 0:=by omega
 simp only[h1,if_true,Int.ediv_one];split <;> omega
theorem Ko {v:Value}{o:Option Int}{Q:Option Int->Shared->Prop}(p:IsPart v o)(h:Q o s):wpAny (model prog w) A (Builtin.Slice.slicePartIndex v) Q E s:=by
 cases p with
 |none=>exact slicePart_none h
 |int i t=>exact slicePart_int h
theorem Vm {sl:Addr}{vl vu:Value}{lo hi:Option Int}{n:Nat}{Q:Int×Int×Nat->Shared->Prop}(hs:s.heap.IsSliceOf sl vl vu .none)(pl:IsPart vl lo)(pu:IsPart vu hi)
  (h:Q (((sIx n 0 lo:Nat):Int),1,sIx n n hi - sIx n 0 lo) s):wpAny (model prog w) A (Builtin.Slice.sliceApplied (.ref sl) (pure (n:Int))) Q E s:=by
 obtain⟨os,hos,hcs,hds⟩:=id hs;unfold Builtin.Slice.sliceApplied Builtin.Slice.sliceFields;refine ya (ya (Ys hos hds (x:=vl) rfl (ya (Ys hos hds (x:=vu) rfl (ya (Ys hos hds (x:=.none) rfl (yh ?_)))))));refine ya (slicePart_none ?_);show wpAny _ _ (if ((1:Int)==0)=true then _ else _) _ _ s;rw[yb (by decide)];refine ya (Ko pl (ya (Ko pu (ya (yh ?_)))));show wpAny _ _ (match Builtin.Slice.sliceAdjust lo hi 1 (n:Int) with|(lo,hi)=>pure (lo,(1:Int),Builtin.Slice.slicePlaces lo hi 1)) _ _ s;rw[xl lo hi n];show wpAny _ _ (pure (((sIx n 0 lo:Nat):Int),(1:Int),Builtin.Slice.slicePlaces ((sIx n 0 lo:Nat):Int) ((sIx n n hi:Nat):Int) 1)) _ _ s;rw[Xx];exact yh h
theorem ycV (xs:Array Value)(i k:Nat):((List.range k).filterMap fun (m:Nat)=>xs[((i:Int)+(m:Int)*1).toNat]?).toArray=((xs.toList.drop i).take k).toArray:=by
 have e:(fun (m:Nat)=>xs[((i:Int)+(m:Int)*1).toNat]?)=fun m=>xs[i+m]?:=by
  funext m;have:((i:Int)+(m:Int)*1).toNat=i+m:=by omega
  rw[this]
 rw[e];have:=pick_run xs i k;rw[List.filterMap_map] at this;have e2:((fun x=>xs[x]?) ∘ fun x=>i+x)=fun m=>xs[i+m]?:=rfl;rw[e2] at this;rw[this]
theorem vE {t sl:Addr}{items:Array Value}{vl vu:Value}{lo hi:Option Int}{Q:Value->Shared->Prop}(ht:IsTup s.heap t items)(hs:s.heap.IsSliceOf sl vl vu .none)(pl:IsPart vl lo)(pu:IsPart vu hi)
  (hw:¬ (sIx items.size 0 lo=0/\sIx items.size items.size hi=items.size))
  (h:Q (.ref s.heap.objs.size) {s with heap:=s.heap.push {cls:=.type "tuple", data:=.seq ((items.toList.drop (sIx items.size 0 lo)).take (sIx items.size items.size hi - sIx items.size 0 lo)).toArray}})
  (hsz:items.size<=sizeLine):wpAny (model prog w) A (getItem (.ref t) (.ref sl)) Q E s:=by
 have htake:sizeOk (.seq ((items.toList.drop (sIx items.size 0 lo)).take (sIx items.size items.size hi - sIx items.size 0 lo)).toArray):=by
  show((items.toList.drop (sIx items.size 0 lo)).take (sIx items.size items.size hi - sIx items.size 0 lo)).toArray.size<=sizeLine;rw[yD,yS,jd,Array.length_toList];omega
 have hj:sIx items.size items.size hi<=items.size:=yhH _ _ (yg _) hi;obtain⟨os,hos,hcs,hds⟩:=id hs;have hTs:s.TypeIs (.ref sl) "slice" := ⟨os,hos,hcs⟩
 unfold getItem
 try with_reducible refine Yw ?_
 first|refine ya (yh ?_)|skip
 refine ya (wpAny_sequenceKey ht.typeIs (by decide) ?_);refine ya (wpAny_callSpecial?_slot (name:=Str.ofString "__getitem__") ht.typeIs PyProof.Rows.slot_tuple_getitem
  (wpAny_call_entry PyProof.Rows.slot_tuple_getitem ht.typeIs entry_tuple_getitem ?_ (args_tuple_getitem _ _)))
 show wpAny _ _ (Builtin.Tuple.tupleItemsOf (.ref t) >>= _) _ _ s;refine ya (tupleItemsOf_ ht ?_);refine ya (wpAny_typeOf hTs ?_);rw[yc (by decide)];refine ya (Vm hs pl pu ?_);have hno:¬ ((((sIx items.size 0 lo:Nat):Int)==0&&(1:Int)==1&&(sIx items.size items.size hi - sIx items.size 0 lo)==items.size)=true):=by
  intro q;rw[Yg,Yg] at q;have q1:((sIx items.size 0 lo:Nat):Int)=0:=eq_of_beq q.1.1;have q2:sIx items.size items.size hi - sIx items.size 0 lo=items.size:=eq_of_beq q.2;exact hw ⟨by omega,by omega⟩
 show wpAny _ _ (if (((sIx items.size 0 lo:Nat):Int)==0&&(1:Int)==1&&(sIx items.size items.size hi - sIx items.size 0 lo)==items.size)=true then _ else _) _ _ s;rw[yb hno,ycV]
 first
  |exact ya (m:=Builtin.Tuple.tupleExact _) (wpAny_newObj_type (yh ⟨_,rfl,yh h⟩) htake)
  |exact ya (m:=Builtin.Tuple.tupleExact _) (wpAny_newObj_type (ya (yh (yh ⟨_,rfl,yh h⟩))) htake)
  |exact ya (ya (m:=Builtin.Tuple.tupleExact _) (wpAny_newObj_type (yh (yh ⟨_,rfl,yh h⟩)) htake))
  |exact ya (ya (m:=Builtin.Tuple.tupleExact _) (wpAny_newObj_type (yh ⟨_,rfl,yh h⟩) htake))
end
end HT
namespace L2
open PySem PySem.Spec PyProof.Rows
abbrev TO:=St->Hp->(Option Int->Hp->Prop)->Prop
def PO (X:Cx)(e:Option Expr)(t:TO):Prop:=
 ∀ (pins:List (Addr×Obj)) (s:Shared) (σ:St) (H:Hp) (Q:Option Int->Hp->Prop),Inv X pins σ H s->t σ H Q->
  wpAny (model X.prog X.w) X.A (evalPart e X.env) (fun u s'=>∃ o H',Inv X pins σ H' s'/\IsPart u o/\Q o H') X.xe s
def yfv:TO:=fun _ H Q=>Q none H
def yi8 (t:TE):TO:=fun σ H Q=>t σ H fun x H1=>∃ i,x=.int i/\Q (some i) H1
theorem Xa {ns:List Int}:∀ {us:List Value},YQ (ns.map V.int) us->IntsAre us ns:=by
 induction ns with
 |nil=>intro us r;rw[QU] at r;cases r;exact .nil
 |cons n ns ih=>
  intro us r;rw[yn] at r;cases r with
  |cons r1 r2=>
   obtain⟨t,e⟩:=r1;subst e;exact .cons n t (ih r2)
section
variable {X:Cx}{e:Expr}{te:TE}{lo hi:Option Expr}{tl th:TO}{pos p2:Pos}
theorem X9:PO X none yfv:=by
 intro pins s σ H Q I h;rw[evalPart_none];exact yh ⟨none,H,I,.none,h⟩
theorem kg (h:PE X e te):PO X (some e) (yi8 te):=by
 intro pins s σ H Q I hw;rw[evalPart_some];refine thn (h pins s σ H _ I hw) fun u s1 ⟨x,H1,I1,r1,q1⟩=>?_;obtain⟨i,rfl,q⟩:=q1;obtain⟨t,rfl⟩:=r1;exact⟨some i,H1,I1,.int i t,q⟩
def SlR (X:Cx)(r:V->Option Int->Option Int->Hp->VK->Prop):Prop:=
 ∀ (pins:List (Addr×Obj)) (s:Shared) (σ:St) (H:Hp) (x:V) (v vl vu:Value) (lo hi:Option Int) (sl:Addr) (Q:VK),Inv X pins σ H s->Yx x v->s.heap.IsSliceOf sl vl vu .none->IsPart vl lo->IsPart vu hi->r x lo hi H Q->
  ∃ T id,typeLookup (.type T) "__getitem__" = pure (some (.builtin id))/\s.TypeIs v T/\wpAny (model X.prog X.w) X.A (getItem v (.ref sl)) (EP X pins σ Q) X.xe s
def tSl (r:V->Option Int->Option Int->Hp->VK->Prop)(te:TE)(tl th:TO):TE:=fun σ H Q=>te σ H fun x H1=>tl σ H1 fun l H2=>th σ H2 fun u H3=>r x l u H3 Q
theorem vD {r:V->Option Int->Option Int->Hp->VK->Prop}(hr:SlR X r)(he:PE X e te)(hl:PO X lo tl)(hu:PO X hi th):PE X (.Subscript e (.Slice lo hi none p2) pos) (tSl r te tl th):=by
 intro pins s σ H Q I h;refine Subscript_ (thn (he pins s σ H _ I h) fun v s1 ⟨x,H1,I1,r1,q1⟩=>?_);refine wpAny_Slice (thn (hl pins s1 σ H1 _ I1 q1) fun vl s2 ⟨l,H2,I2,pl,q2⟩=>thn (hu pins s2 σ H2 _ I2 q2) fun vu s3 ⟨u,H3,I3,pu,q3⟩=>?_);rw[evalPart_none];refine yh ?_;have I4:Inv X pins σ H3 {s3 with heap:=s3.heap.push {cls:=.type "slice", data:=.fields #[vl,vu,.none]}}:=I3.kept (t':=s3.toks) fun b ob q=>yk _ q;obtain⟨T,id,hT,ht,hg⟩:=hr pins {s3 with heap:=s3.heap.push {cls:=.type "slice", data:=.fields #[vl,vu,.none]}} σ H3 x v vl vu l u s3.heap.objs.size Q I4 r1 (Heap.IsSliceOf.new ..) pl pu q3;show wpAny (model X.prog X.w) X.A (subscriptTail e (.Slice lo hi none p2) v (.ref s3.heap.objs.size)) (EP X pins σ Q) X.xe {s3 with heap:=s3.heap.push {cls:=.type "slice", data:=.fields #[vl,vu,.none]}};exact tail_any (ops:=[.ref s3.heap.objs.size,v]) ht hT hg (by with_unfolding_all rfl)
def Wj (xs:List V)(lo hi:Option Int):List V:=(xs.drop (HT.sIx xs.length 0 lo)).take (HT.sIx xs.length xs.length hi - HT.sIx xs.length 0 lo)
theorem VL (xs:List V)(lo hi:Option Int):(Wj xs lo hi).length<=xs.length:=by
 unfold Wj;rw[yS,jd];omega
def yj9 (K:W.Frag):V->Option Int->Option Int->Hp->VK->Prop:=fun x lo hi H Q=>∃ a xs,x=.ref a/\SqT K H a xs/\
 ¬ (HT.sIx xs.length 0 lo=0/\HT.sIx xs.length xs.length hi=xs.length)/\∀ p,H p=none->Q (.ref p) (upd H p (.tup (Wj xs lo hi)))
theorem yiL:SlR X (yj9 X.K):=by
 intro pins s σ H x v vl vu lo hi sl Q I rx hs pl pu h;obtain⟨a,xs,rfl,hx,hw,q⟩:=h;cases rx;obtain⟨its,r,ht,hz⟩:=I.tuple hx;have hlen:its.toArray.size=xs.length:=by rw[yD];exact r.length.symm
 refine⟨"tuple", _,PyProof.Rows.slot_tuple_getitem.lookup,ht.typeIs,?_⟩;refine HT.vE ht hs pl pu (by rw[hlen];exact hw) ?_ (by rw[hlen];exact hz);rw[hlen];refine⟨.ref s.heap.objs.size,_,I.laid (t':=s.toks) (o:=.tup (Wj xs lo hi)) (fun b ob q=>yk _ q) (yg _) ?_,rfl,q _ (I.hok.fresh (yg _))⟩;exact⟨yQ (VL xs lo hi) hz,_,(r.drop (HT.sIx xs.length 0 lo)).take (HT.sIx xs.length xs.length hi - HT.sIx xs.length 0 lo),IsTup.new _ _⟩
def yjf (K:W.Frag):R2:=fun x y H Q=>∃ a b xs ys,x=.ref a/\y=.ref b/\SqT K H a xs/\SqT K H b ys/\xs≠[]/\xs.length+ys.length<=sizeLine/\
 (ys=[]->Q (.ref a) H)/\(ys≠[]->∀ p,H p=none->Q (.ref p) (upd H p (.tup (xs++ys))))
theorem YQ.nil_iff {xs:List V}{us:List Value}(r:YQ xs us):us=[] ↔ xs=[]:=by
 cases r with
 |nil=>simp
 |cons _ _=>simp
theorem yfQ:OpR X (binaryOp .Add) (yjf X.K):=by
 intro pins s σ H x y v u Q I rx ry h;obtain⟨a,b,xs,ys,rfl,rfl,ha,hb,hx,hz,q1,q2⟩:=h;cases rx;cases ry;obtain⟨its,r1,p1,_⟩:=I.tuple ha;obtain⟨its2,r2,p2,_⟩:=I.tuple hb;refine HT.ygq p1 p2 (fun z=>hx (r1.nil_iff.mp z)) (fun z=>⟨.ref a,H,I,rfl,q1 (r2.nil_iff.mp z)⟩) (fun z=>?_) (by rw[←r1.length,←r2.length];exact hz);refine⟨.ref s.heap.objs.size,_,I.laid (t':=s.toks) (o:=.tup (xs++ys)) (fun b ob q=>yk _ q) (yg _) ?_,rfl,q2 (fun w=>z (r2.nil_iff.mpr w)) _ (I.hok.fresh (yg _))⟩;exact⟨by rw[yy];exact hz,_,r1.append r2,IsTup.new _ _⟩
end
def ixN (n:Nat)(i:Int):Option Nat:=if 0<=i then (if i<n then some i.toNat else none) else if -(n:Int)<=i then some (i+n).toNat else none
def atI {α:Type}(xs:List α)(i:Int):Option α:=(ixN xs.length i).bind fun j=>xs[j]?
theorem yan {n:Nat}{i:Int}{j:Nat}(h:ixN n i=some j):seqIndex? i n=some j/\j<n/\-(n:Int)<=i/\i<n:=by
 unfold ixN at h;by_cases h0:0<=i
 ·rw[yc h0] at h;by_cases h1:i<n
  ·rw[yc h1] at h;have e:i.toNat=j:=Option.some.inj h;exact⟨by rw[seqIndex_of h0 h1,e],by omega,by omega,h1⟩
  ·rw[yb h1] at h;cases h
 ·rw[yb h0] at h;by_cases h1:-(n:Int)<=i
  ·rw[yc h1] at h;have e:(i+n).toNat=j:=Option.some.inj h;exact⟨by rw[seqIndex_neg (by omega) h1,e],by omega,h1,by omega⟩
  ·rw[yb h1] at h;cases h
theorem Uy {α:Type}{xs:List α}{i:Int}{v:α}(h:atI xs i=some v):∃ j,seqIndex? i xs.length=some j/\xs[j]?=some v/\j<xs.length/\-(xs.length:Int)<=i/\i<xs.length:=by
 unfold atI at h;cases e:ixN xs.length i with
 |none=>rw[e] at h;cases h
 |some j=>
  rw[e] at h;obtain⟨h1,h2,h3,h4⟩:=yan e;exact⟨j,h1,h,h2,h3,h4⟩
theorem j7 {α:Type}{xs:List α}{j:Nat}{v:α}(h:xs[j]?=some v):atI xs (j:Int)=some v:=by
 have hj:j<xs.length:=(al_getElem?_eq_some_iff.mp h).1;have e:ixN xs.length (j:Int)=some j:=by
  unfold ixN;rw[yc (by omega),yc (by omega)];simp
 unfold atI;rw[e];exact h
def J8 (b:Expr):Prop:=∀ o i,subscripted b false o i=operate [o,i] (getItem o i)
def IxR (X:Cx)(r:R2):Prop:=
 ∀ (value slice:Expr) (pins:List (Addr×Obj)) (s:Shared) (σ:St) (H:Hp) (x y:V) (v u:Value) (Q:VK),Inv X pins σ H s->Yx x v->Yx y u->r x y H Q->
  subscripted slice false v u=operate [v,u] (getItem v u)->wpAny (model X.prog X.w) X.A (subscriptTail value slice v u) (EP X pins σ Q) X.xe s
def MtR (X:Cx)(id:String)(r:V->List V->Hp->VK->Prop):Prop:=
 ∀ (pins:List (Addr×Obj)) (s:Shared) (σ:St) (H:Hp) (x:V) (xs:List V) (v:Value) (us:List Value) (Q:VK),Inv X pins σ H s->Yx x v->YQ xs us->r x xs H Q->
  wpAny (model X.prog X.w) X.A (call (.builtin id) (v::us)) (EP X pins σ Q) X.xe s
section
variable {X:Cx}{a b:Expr}{ta tb:TE}{pos:Pos}
theorem wU {r:R2}(hr:IxR X r)(ha:PE X a ta)(hb:PE X b tb)(hs:J8 b):PE X (.Subscript a b pos) (tOp r ta tb):=by
 intro pins s σ H Q I h;exact Subscript_ (yhy ha hb I h fun v u s2 x y H2 I2 rx ry q=>hr a b pins s2 σ H2 x y v u Q I2 rx ry q (hs _ _))
def yjX (K:W.Frag):R2:=fun x y H Q=>∃ p xs i v,x=.ref p/\y=.int i/\SqL K H p xs/\atI xs i=some v/\Q v H
def ykk (K:W.Frag):R2:=fun x y H Q=>∃ p xs i v,x=.ref p/\y=.int i/\SqT K H p xs/\atI xs i=some v/\Q v H
def yj1:R2:=fun x y H Q=>∃ z i c,x=.str z/\y=.int i/\z.length<=sizeLine/\atI z.cps.toList i=some c/\Q (.str ⟨#[c]⟩) H
theorem vn:IxR X (yjX X.K):=by
 intro value slice pins s σ H x y v u Q I rx ry h hs;obtain⟨p,xs,i,z,rfl,rfl,hq,he,q⟩:=h;cases rx;obtain⟨t,rfl⟩:=ry;obtain⟨its,r,pl,hz⟩:=I.list hq;obtain⟨j,h1,h2,h3,h4,h5⟩:=Uy he;obtain⟨w,ew,rw'⟩:=r.get h2;have hl:=r.length;have hn:=VF;have fin:EP X pins σ Q w s:=⟨z,H,I,rw',q⟩
 by_cases h0:0<=i
 ·have hj:i.toNat=j:=by
   rw[seqIndex_of h0 h5] at h1;exact Option.some.inj h1
  exact item_listR pl.isList h0 (by omega) (by rw[hj];simpa using ew) fin hs
 ·have hj:(i+(its.toArray.size:Int)).toNat=j:=by
   rw[seqIndex_neg (by omega) h4] at h1;rw[yD,←hl];exact Option.some.inj h1
  exact subscriptTail_builtinR (x:=w) pl.isList.typeIs slot_list_getitem.lookup
   (wpAny_getItem_list_neg (Q:=fun r s'=>r=w/\EP X pins σ Q r s') pl.isList (by omega) (by rw[yD] <;> omega) (by omega) (by rw[hj];simpa using ew) ⟨rfl,fin⟩) hs
theorem yeG:IxR X (ykk X.K):=by
 intro value slice pins s σ H x y v u Q I rx ry h hs;obtain⟨p,xs,i,z,rfl,rfl,hq,he,q⟩:=h;cases rx;obtain⟨t,rfl⟩:=ry;obtain⟨its,r,pl,hz⟩:=I.tuple hq;obtain⟨j,h1,h2,h3,h4,h5⟩:=Uy he;obtain⟨w,ew,rw'⟩:=r.get h2;have hl:=r.length;have hn:=VF;have fin:EP X pins σ Q w s:=⟨z,H,I,rw',q⟩
 exact subscriptTail_builtinR (x:=w) pl.typeIs slot_tuple_getitem.lookup
  (getItem_tuple (j:=j) (Q:=fun r s'=>r=w/\EP X pins σ Q r s') pl (by omega) (by omega) (by rw[yD,←hl];exact h1) (by simpa using ew) ⟨rfl,fin⟩) hs
theorem yiW:IxR X yj1:=by
 intro value slice pins s σ H x y v u Q I rx ry h hs;obtain⟨z,i,c,rfl,rfl,hz,he,q⟩:=h;obtain⟨t,rfl⟩:=rx;obtain⟨t',rfl⟩:=ry;obtain⟨j,h1,h2,h3,h4,h5⟩:=Uy he;have hl:z.cps.toList.length=z.length:=by simp[Str.length]
 rw[hl] at h1 h4 h5;have hn:=VF;exact tail_any (typeIs_str s z t) slot_str_getitem.lookup (getItem_str (c:=c) (by
  have e1:decide (i < -(2 ^ 63:Int))=false:=yv (by omega);have e2:decide (i ≥ 2 ^ 63)=false:=yv (by omega);rw[e1,e2,Bool.or_false]) (by rw[h1];simpa using h2) ⟨.str ⟨#[c]⟩,H,I.tok _,⟨_,rfl⟩,q⟩) hs
theorem xW (its:List Value)(n j:Nat)(u:Value):Obj.mapSeq (·.setIfInBounds j u) {cls:=.type "list", data:=.seq its.toArray n}={cls:=.type "list", data:=.seq (its.set j u).toArray n}:=by
 simp[Obj.mapSeq]
theorem Inv.lst {pins:List (Addr×Obj)}{σ:St}{H:Hp}{s:Shared}{p:Addr}{xs:List V}(I:Inv X pins σ H s)(h:H p=some (.lst xs)) :
  ∃ (its:List Value) (n:Nat),YQ xs its/\s.heap.get? p=some {cls:=.type "list", data:=.seq its.toArray n}/\xs.length<=sizeLine:=by
 obtain⟨z,its,n,r,e⟩:=I.hok p _ h;exact⟨its,n,r,e,z⟩
theorem Inv.lstUpd {pins:List (Addr×Obj)}{σ:St}{H:Hp}{s:Shared}{p:Addr}{xs ys:List V}{its its':List Value}{n n':Nat}{f:Obj->Obj}(I:Inv X pins σ H s)(h:H p=some (.lst xs))
  (ho:s.heap.get? p=some {cls:=.type "list", data:=.seq its.toArray n}) (hf:f {cls:=.type "list", data:=.seq its.toArray n}={cls:=.type "list", data:=.seq its'.toArray n'}) (r:YQ ys its') (hz:ys.length<=sizeLine) (t:Nat) :
  Inv X pins σ (upd H p (.lst ys)) {s with heap:=s.heap.update p f,toks:=t}:=by
 have e:(s.heap.update p f).get? p=some {cls:=.type "list", data:=.seq its'.toArray n'}:=by
  rw[Heap.get?_update_self f ho (by rw[hf] <;> rfl),hf]
 refine I.write (x:=p) (e:=p) (by rw[h];trivial) (.inl rfl) (fun b u hb q=>(Heap.get?_update_other _ _ (Ne.symm hb)).trans q) ⟨_,e⟩ ?_;exact⟨hz,its',n',r,e⟩
def yji:V->V->V->Hp->(Hp->Prop)->Prop:=fun o i v H Q=>∃ p xs k j,o=.ref p/\i=.int k/\H p=some (.lst xs)/\ixN xs.length k=some j/\Q (upd H p (.lst (xs.set j v)))
theorem yeh:yi0 X yji:=by
 intro pins s σ H o i v ov iv u Q I ro ri rv h;obtain⟨p,xs,k,j,rfl,rfl,hp,hj,q⟩:=h;cases ro;obtain⟨t,rfl⟩:=ri;obtain⟨its,n,r,ho,hz⟩:=I.lst hp;obtain⟨h1,h2,h3,h4⟩:=yan hj;have hl:=r.length;have hn:=VF;have I':Inv X pins σ (upd H p (.lst (xs.set j v))) {s with heap:=s.heap.update p (Obj.mapSeq (·.setIfInBounds j u))}:=
  I.lstUpd hp ho (xW its n j u) (r.set rv j) (by rw[List.length_set];exact hz) s.toks
 by_cases h0:0<=k
 ·have hk:k.toNat=j:=by
   rw[seqIndex_of h0 h4] at h1;exact Option.some.inj h1
  exact W.ki_setAt ho h0 (by omega) (by rw[yD,←hl];exact h4) (by rw[hk];exact⟨_,I',q⟩)
 ·have hk:(k+(its.toArray.size:Int)).toNat=j:=by
   rw[seqIndex_neg (by omega) h3] at h1;rw[yD,←hl];exact Option.some.inj h1
  exact W.ki_setBack ho (by omega) (by rw[yD,←hl];exact h3) (by omega) (by rw[hk];exact⟨_,I',q⟩)
theorem ya5 (i:Int)(n d:Nat):max 0 (min (if i<0 then i+(n:Int) else i) (n:Int))=((HT.sIx n d (some i):Nat):Int):=by
 rw[←HT.wr];by_cases h:i<0
 ·rw[yc h,yc h,Int.max_comm,Int.min_eq_left (Int.add_le_of_le_sub_right (by rw[Int.sub_self];exact yx h))]
 ·rw[yb h,yb h];exact Int.max_eq_right (Int.le_min.mpr ⟨Int.not_lt.mp h,Int.natCast_nonneg n⟩)
theorem wd (lo hi:Option Int)(n:Nat):(sliceBounds lo hi none n).1=((HT.sIx n 0 lo:Nat):Int)/\(sliceBounds lo hi none n).2.1=((HT.sIx n n hi:Nat):Int)/\(sliceBounds lo hi none n).2.2=1:=by
 refine⟨?_,?_,rfl⟩
 ·cases lo with
  |none=>rfl
  |some i=>exact ya5 i n 0
 ·cases hi with
  |none=>rfl
  |some i=>exact ya5 i n n
theorem ub (its:List Value)(lo hi:Option Int):slicePick its.toArray lo hi none=((its.drop (HT.sIx its.length 0 lo)).take (HT.sIx its.length its.length hi - HT.sIx its.length 0 lo)).toArray:=by
 obtain⟨h1,h2,h3⟩:=wd lo hi its.toArray.size;unfold slicePick;rw[h1,h2,h3];simp only[sliceRange_one,pick_run,yD] <;> rfl
def yjc (K:W.Frag):V->Option Int->Option Int->Hp->VK->Prop:=fun x lo hi H Q=>∃ a xs,x=.ref a/\SqL K H a xs/\∀ p,H p=none->Q (.ref p) (upd H p (.lst (Wj xs lo hi)))
theorem wz:SlR X (yjc X.K):=by
 intro pins s σ H x v vl vu lo hi sl Q I rx hs pl pu h;obtain⟨a,xs,rfl,hx,q⟩:=h;cases rx;obtain⟨its,r,ht,hz⟩:=I.list hx;have hlen:=r.length;refine⟨"list", _,slot_list_getitem.lookup,ht.isList.typeIs,?_⟩;refine wpAny_getItem_list_slice ht.isList hs pl pu .none (by simp) ?_ (by rw[yD] <;> omega);rw[ub,←hlen];refine⟨.ref s.heap.objs.size,_,I.laid (t':=s.toks) (o:=.lst (Wj xs lo hi)) (fun b ob q=>yk _ q) (yg _) ?_,rfl,q _ (I.hok.fresh (yg _))⟩;exact⟨yQ (VL xs lo hi) hz,_,0,(r.drop (HT.sIx xs.length 0 lo)).take (HT.sIx xs.length xs.length hi - HT.sIx xs.length 0 lo),yC _ rfl⟩
theorem JB:z9 X (.builtin "len") (fun xs H Q=>∃ p ys,xs=[.ref p]/\(SqL X.K H p ys∨SqT X.K H p ys)/\Q (.int ys.length) H):=by
 intro pins s σ H xs us Q I r h;obtain⟨p,ys,rfl,hq,q⟩:=h;obtain⟨u,rfl,rx⟩:=vh r;cases rx;have hn:=VF;rcases hq with hq|hq
 ·obtain⟨its,r',pl,hz⟩:=I.list hq;have hlen:=r'.length;exact Calls.call_len_list pl.isList (by simp only[yD] <;> omega) ⟨.int ys.length,H,I.tok _,⟨s.toks+1,by rw[yD,hlen]⟩,q⟩
 ·obtain⟨its,r',pl,hz⟩:=I.tuple hq;have hlen:=r'.length;exact len_tuple pl (by simp only[yD] <;> omega) ⟨.int ys.length,H,I.tok _,⟨s.toks+1,by rw[yD,hlen]⟩,q⟩
theorem Uv:z9 X (.builtin "len") (fun xs H Q=>∃ z,xs=[.str z]/\z.length<=sizeLine/\Q (.int z.length) H):=by
 intro pins s σ H xs us Q I r h;obtain⟨z,rfl,hz,q⟩:=h;obtain⟨u,rfl,t,rfl⟩:=vh r;have hn:=VF;exact len_str (by omega) ⟨.int z.length,H,I.tok _,⟨_,rfl⟩,q⟩
theorem wy:z9 X (.type "list") (fun xs H Q=>∃ p ys,xs=[.ref p]/\(SqL X.K H p ys∨SqT X.K H p ys)/\∀ l,H l=none->Q (.ref l) (upd H l (.lst ys))):=by
 intro pins s σ H xs us Q I r h;obtain⟨p,ys,rfl,hq,q⟩:=h;obtain⟨u,rfl,rx⟩:=vh r;cases rx;have fin:∀ (its:List Value),YQ ys its->ys.length<=sizeLine->∀ (h':Heap) (c':Nat),(∀ b o',s.heap.get? b=some o'->h'.get? b=some o')->
   h'.get? s.heap.objs.size=some {cls:=.type "list", dict:=none,data:=.seq its.toArray c',slots:=#[]}->EP X pins σ Q (.ref s.heap.objs.size) {s with heap:=h'}:=fun its r' hz h' c' kp e=>
  ⟨.ref s.heap.objs.size,_,I.laid (t':=s.toks) kp (yg _) (show Qh X.prog X.w _ h' _ (.lst ys) from ⟨hz,its,c',r',e⟩),rfl,q _ (I.hok.fresh (yg _))⟩
 rcases hq with hq|hq
 ·obtain⟨its,r',pl,hz⟩:=I.list hq;have hlen:=r'.length;obtain⟨o,ho,hc,n,hd⟩:=pl.isList;exact call_list_seq p (.inl rfl) ho hc hd (fun h' c' kp e=>fin its r' hz h' c' kp e) (by simp only[yD] <;> omega)
 ·obtain⟨its,r',pl,hz⟩:=I.tuple hq;have hlen:=r'.length;obtain⟨o,ho,hc,n,hd⟩:=pl;exact call_list_seq p (.inr rfl) ho hc hd (fun h' c' kp e=>fin its r' hz h' c' kp e) (by simp only[yD] <;> omega)
theorem ug:z9 X (.type "tuple") (fun xs H Q=>∃ p ys,xs=[.ref p]/\((SqL X.K H p ys/\∀ l,H l=none->Q (.ref l) (upd H l (.tup ys)))∨(SqT X.K H p ys/\Q (.ref p) H))):=by
 intro pins s σ H xs us Q I r h;obtain⟨p,ys,rfl,h⟩:=h;obtain⟨u,rfl,rx⟩:=vh r;cases rx;rcases h with ⟨hq,q⟩|⟨hq,q⟩
 ·obtain⟨its,r',pl,hz⟩:=I.list hq;have hlen:=r'.length;refine call_tuple_list pl.isList (fun h' kp=>?_) (by simp only[yD] <;> omega);have I1:Inv X pins σ H {s with heap:=h'}:=I.kept (t':=s.toks) kp;have I2:Inv X pins σ (upd H h'.objs.size (.tup ys)) {s with heap:=h'.push {cls:=.type "tuple", data:=.seq its.toArray}}:=
   I1.laid (t':=s.toks) (fun b o e=>yk _ e) (yg _) (show Qh X.prog X.w _ _ _ (.tup ys) from ⟨hz,its,r',IsTup.new _ _⟩)
  exact⟨.ref h'.objs.size,_,I2,rfl,q _ (I1.hok.fresh (yg _))⟩
 ·obtain⟨its,r',pl,hz⟩:=I.tuple hq;exact call_tuple_same pl ⟨.ref p,H,I,rfl,q⟩
def tyV (K:W.Frag)(T:String)(x:V)(H:Hp):Prop:=match x with
 |.str _=>T = "str"
 |.int _=>T = "int"
 |.ref p=>(T = "list" /\ ∃ xs,SqL K H p xs)∨(T = "tuple" /\ ∃ o,K.lookup p=some o/\o.cls=.type "tuple" /\ o.dict=none) ∨
   (T = "dict" /\ ((∃ kvs,H p=some (.dK kvs))∨∃ kvs,H p=some (.dT kvs)))∨(T = "set" /\ ∃ S n,H p=some (.set S n))
 |_=>False
theorem yiU {pins:List (Addr×Obj)}{σ:St}{H:Hp}{s:Shared}{T:String}{x:V}{v:Value}(I:Inv X pins σ H s)(r:Yx x v)(ty:tyV X.K T x H) :
  s.TypeIs v T/\∀ a,v=.ref a->∃ ob,s.heap.get? a=some ob/\ob.dict=none:=by
 cases x with
 |str z=>
  obtain⟨t,rfl⟩:=r;cases (show T = "str" from ty);exact⟨typeIs_str s z t,fun _ e=>nomatch e⟩
 |int i=>
  obtain⟨t,rfl⟩:=r;cases (show T = "int" from ty);exact⟨typeIs_int s i t,fun _ e=>nomatch e⟩
 |ref p=>
  cases r;rcases ty with ⟨rfl,xs,hq⟩|⟨rfl,o,hk,hc,hd⟩|⟨rfl,hk⟩|⟨rfl,S,n,hk⟩
  ·obtain⟨its,_,pl,_⟩:=I.list hq;refine⟨pl.isList.typeIs,fun a e=>?_⟩;cases e;obtain⟨o,n,e,c,hd,_⟩:=pl;exact⟨o,e,hd⟩
  ·refine⟨⟨o,I.kIn p o hk,hc⟩,fun a e=>?_⟩;cases e;exact⟨o,I.kIn _ o hk,hd⟩
  ·have z:∃ o,s.heap.get? p=some o/\o.ExactDict:=by
    rcases hk with ⟨kvs,hk⟩|⟨kvs,hk⟩
    ·obtain⟨_,_,_,_,o,_,_,e,ex,_⟩:=I.hok p _ hk;exact⟨o,e,ex⟩
    ·obtain⟨_,_,_,_,o,_,_,e,ex,_⟩:=I.hok p _ hk;exact⟨o,e,ex⟩
   obtain⟨o,e,ex⟩:=z;refine⟨⟨o,e,ex.1⟩,fun a e2=>?_⟩;cases e2;exact⟨o,e,ex.2.1⟩
  ·obtain⟨o,_,_,_,e,ex,_⟩:=I.hok p _ hk;refine⟨⟨o,e,ex.1⟩,fun a e2=>?_⟩;cases e2;exact⟨o,e,ex.2.1⟩
 |_=>exact False.elim ty
def tBM (K:W.Frag)(T:String)(r:V->List V->Hp->VK->Prop)(to:TE)(t:TA):TE:=fun σ H Q=>to σ H fun x H1=>tyV K T x H1/\t σ H1 fun xs H2=>r x xs H2 Q
variable {o e:Expr}{es:List Expr}{to:TE}{t:TA}{name:Str}{apos cpos:Pos}{T id:String}{r:V->List V->Hp->VK->Prop}
theorem yfd (pa:PlainAttrs T)(slot:Slot T name id)(hty:typeOf (.builtin id)=pure (.type "method_descriptor"))(hm:MtR X id r)(ho:PE X o to)(ha:PA X (e::es) t)
  (hbase:attributeBase o name X.env (eval o X.env)=eval o X.env:=by rfl)
  (hfew:((backTo cpos (starEach (e::es) X.env)).all (fun x=>!x.1)&&(backToKw cpos (keywordEach [] X.env)).all (fun x=>x.1.isSome)
   && decide ((e::es).length+([]:List Keyword).length+(if ([]:List Keyword).isEmpty then 0 else 1)<30))=true:=by rfl)
  (hline:(apos.endLine==cpos.line)=true:=by rfl) (hs:starEach (e::es) X.env=(false,eval e X.env)::starEach es X.env:=by rfl) (hplain:(backTo cpos (starEach es X.env)).any (·.1)=false:=by rfl) :
  PE X (.Call (.Attribute o name apos) (e::es) [] cpos) (tBM X.K T r to t):=by
 intro pins s σ H Q I h;refine wpAny_Call_method_late hbase hfew hline rfl (thn (ho pins s σ H _ I h) fun v s1 ⟨x,H1,I1,r1,ty,q1⟩=>?_);obtain⟨h1,h2⟩:=yiU I1 r1 ty;refine⟨T,id,pa,slot,hty,h1,h2,?_⟩;have hA:=ha cpos pins s1 σ H1 _ I1 q1;rw[hs] at hA ⊢;refine Calls.callWith_builtin (by show(false||(backTo cpos (starEach es X.env)).any (·.1))=false;rw[hplain] <;> rfl) (Calls.evalArgs_plain ?_);exact thn hA fun us s2 ⟨vs,H2,I2,r2,q2⟩=>hm pins s2 σ H2 x vs v us Q I2 r1 r2 q2
/- xs.append(e),list.index on a module's tuple .. are MtR facts of 06m -/
end
def MtM (X:Cx)(id:String)(r:V->List V->Hp->VK->Prop):Prop:=
 ∀ (pins:List (Addr×Obj)) (s:Shared) (σ:St) (H:Hp) (x:V) (xs:List V) (v:Value) (us:List Value) (Q:VK),Inv X pins σ H s->Yx x v->YQ xs us->r x xs H Q->
  wpAny (model X.prog X.w) X.A (call (.builtin id) (v::us)) (EP X pins σ Q) X.xe s
theorem YQ.one:∀ {x:V} {us:List Value},YQ [x] us->∃ u,us=[u]/\Yx x u
 |_,_,.cons r .nil=>⟨_,rfl,r⟩
section
variable {X:Cx}{pins:List (Addr×Obj)}{σ:St}{H:Hp}{s:Shared}{l b:Addr}{xs ys zs:List V}
theorem Inv.lset {its its':List Value}{n:Nat}{f:Array Value->Array Value}{t':Nat}(I:Inv X pins σ H s)(hH:H l=some (.lst xs))
  (e:s.heap.get? l=some {cls:=.type "list", data:=.seq its.toArray n}) (hf:f its.toArray=its'.toArray) (hv:YQ ys its') (hz:ys.length<=sizeLine) :
  Inv X pins σ (upd H l (.lst ys)) {s with heap:=s.heap.update l (Obj.mapSeq f),toks:=t'}:=by
 have q:=PySem.IsL.update e f;rw[hf] at q;refine I.write (x:=l) (e:=l) (by rw[hH];exact trivial) (.inl rfl) (fun b' u hb hu=>(Heap.get?_update_other s.heap (Obj.mapSeq f) (Ne.symm hb)).trans hu) ⟨_,q⟩ ?_;exact⟨hz,its',_,hv,q⟩
theorem Inv.lnew {its:List Value}{t':Nat}(I:Inv X pins σ H s)(hv:YQ ys its)(hz:ys.length<=sizeLine) :
  Inv X pins σ (upd H s.heap.objs.size (.lst ys)) {s with heap:=s.heap.push {cls:=.type "list", data:=.seq its.toArray},toks:=t'}:=
 I.laid (fun _ _ q=>yk _ q) (yg _) ⟨hz,its,0,hv,yC _ rfl⟩
theorem Inv.fresh (I:Inv X pins σ H s):H s.heap.objs.size=none:=I.hok.fresh (yg _)
theorem Inv.lstM (I:Inv X pins σ H s)(hH:H l=some (.lst xs)):xs.length<=sizeLine/\∃ (its:List Value) (n:Nat),YQ xs its/\xs.length=its.length/\s.heap.get? l=some {cls:=.type "list", data:=.seq its.toArray n}:=by
 obtain⟨z,its,n,r,e⟩:=I.hok l _ hH;exact⟨z,its,n,r,r.length,e⟩
theorem ydc {n:Nat}(h:n<=sizeLine):Builtin.List.listTooLong n=false:=by
 unfold Builtin.List.listTooLong;exact yv (by omega)
end
section
variable {X:Cx}
def U7:V->List V->Hp->VK->Prop:=fun x vs H Q=>∃ l xs y,x=.ref l/\vs=[y]/\H l=some (.lst xs)/\xs.length<sizeLine/\Q .non (upd H l (.lst (xs++[y])))
theorem Vb:MtM X "list.append" U7:=by
 intro pins s σ H x vs v us Q I rx rv h;obtain⟨l,xs,y,rfl,rfl,hH,hz,q⟩:=h;cases rx;obtain⟨u,rfl,ru⟩:=rv.one;obtain⟨z,its,n,r,hl,e⟩:=I.lstM hH;refine call_meets F.slot_list_append ⟨_,e,rfl⟩ F.entry_list_append (F.args_list_append_2 _ _) (PySem.list_append l its.toArray n u (by rw[yD];omega)) ⟨e,?_⟩;refine⟨.non,_,I.lset (its':=its++[u]) hH e (by simp) (r.append (.cons ru .nil)) ?_,rfl,q⟩;rw[yy,List.length_singleton];omega
def ybf:V->List V->Hp->VK->Prop:=fun x vs H Q=>∃ l b xs zs,x=.ref l/\vs=[.ref b]/\H l=some (.lst xs)/\H b=some (.lst zs)/\xs.length+zs.length<=sizeLine/\Q .non (upd H l (.lst (xs++zs)))
theorem ybB:MtM X "list.extend" ybf:=by
 intro pins s σ H x vs v us Q I rx rv h;obtain⟨l,b,xs,zs,rfl,rfl,hH,hB,hz,q⟩:=h;cases rx;obtain⟨u,rfl,ru⟩:=rv.one;cases ru;obtain⟨z,its,n,r,hl,e⟩:=I.lstM hH;obtain⟨z2,its2,n2,r2,hl2,e2⟩:=I.lstM hB;have hsz:its.toArray.size+its2.toArray.size<=sizeLine:=by rw[yD,yD];omega
 have hlong:¬ (!its.toArray.isEmpty&&Builtin.List.listTooLong (its.toArray.size+its2.toArray.size))=true:=by
  rw[ydc hsz,Bool.and_false];exact yE
 refine call_meets F.slot_list_extend ⟨_,e,rfl⟩ F.entry_list_extend (F.args_list_extend_2 _ _)
  (AutoSeq1.list_extend_list_list_0 l its.toArray n b its2.toArray n2 hlong (by rw[yD];omega) (by omega)) ⟨e,e2,?_⟩
 refine⟨.non,_,I.lset (its':=its++its2) hH e (by simp) (r.append r2) ?_,rfl,q⟩;rw[yy];omega
end
section
variable {prog:Program}{w:World}{A:Around}{E:Value->Shared->Prop}{s:Shared}
end
section
variable {X:Cx}
end
end L2
namespace Att
open PySem PySem.W PySem.Calls PyProof.Rows
theorem VU {P:Params}{h:Heap}:∀ (ns:List Int) (vs:List Value),WellAll P h vs (ns.map WData.int)->IntsAre vs ns:=by
 intro ns
 induction ns with
 |nil=>
  intro vs w;rw[QU] at w;cases w;exact .nil
 |cons n ns ih=>
  intro vs w;rw[yn] at w;cases w with
  |cons a b=>
   cases a;exact .cons _ _ (ih _ b)
theorem yce {l:OpenLaw}{n:Nat}(hn:l.most=some n){P:Params}{h:Heap}{args:List WData}{vals:List Value}
  (hpre:l.row.toRowW.claim.pre args=true) (hwl:WellAll P h vals args) :
  ∃ a vs ns,vals=[Value.ref a]/\args=[WData.list (ns.map WData.int)]/\h.get? a=some {cls:=.type "list", data:=.seq vs.toArray}/\IntsAre vs ns/\ns.length<=n:=by
 have hsh:WShape.hasAll [] args [.list .int]=true:=(pre_splitW hpre).1;have hc:l.pre.holds [] {args:=args}=true:=(pre_splitW hpre).2;obtain⟨d,r,rfl,h1,h2⟩:=hasAllW_cons hsh;obtain rfl:=hasAllW_nil h2;obtain⟨xs,rfl,h3⟩:=hasW_list h1;obtain⟨ns,rfl⟩:=items_int h3;have hlen:ns.length<=n:=by
  unfold OpenLaw.pre at hc;have h4:(WTm.not (.lt (.lit (.int (n:Int))) (.len (.arg 0)))).holds [] {args:=[.list (ns.map .int)]}=true:=by
   have h4:=(holds_andW hc).1;rw[hn] at h4;exact h4
  have h5:=condW_of h4 (w_not (w_lt w_lit (w_len_list (w_arg rfl))));rw[ye] at h5;refine Nat.le_of_not_lt fun q=>?_;have q':(n:Int)<((ns.length:Nat):Int):=by omega
  first
   | (rw[yI q'] at h5;exact absurd h5 (by decide))
   | (simp at h5;omega)
 cases hwl with
 |cons w1 w2=>
  cases w2;cases w1 with
  |list ho hall=>exact⟨_,_,ns,rfl,rfl,ho,VU ns _ hall,hlen⟩
theorem ybW (l:OpenLaw)(args:List WData):l.row.toRowW.claim.post args (.bool true) args=true:=
 postW_of (r:=l.row.toRowW) (X:=(true==true))
  (show WShape.has [] (.bool true) .bool=true by first|rfl|decide|simp[WShape.has,WShape.arms,WShape.armsAll])
  (show(WTm.eq .res (.lit (.bool true))).value [] {args:=args,res:=some (.bool true),after:=args}=some (.bool (true==true)) from w_eq_bool (w_res rfl) w_lit) rfl
theorem attach_call {l:OpenLaw}{n:Nat}{q:Program}{loose:List Str}{XP:(Str->Option Value)->Heap->Prop}{YP:World->Heap->Prop}{d:DefRec}
  (hn:l.most=some n) (hdf:d.params.defaults=[])
  (call:∀ (w:World) (s₀ s₁:Shared) (mg mb:Str->Option Value) (fa:Addr) (o:Obj) (pm cd doc:Value) (a:Addr) (vs:List Value) (ns:List Int),
   Ground q loose [] XP w s₀ mg mb s₁.heap->YP w s₁.heap->
   s₁.heap.get? fa=some o->o.data=.func (docDef d.name d.params d.body d.scope pm cd doc)->s₁.heap.CodeRec cd d.name->mg d.name=some (.ref fa)->
   s₁.heap.get? a=some {cls:=.type "list", data:=.seq vs.toArray}->IntsAre vs ns->ns.length<=n->s₁.gens=#[]->
   codeAny (model l.prog w) callerA (.call (.ref fa) ⟨[.ref a],[]⟩) (fun r s'=>r=.ok (.ret (.bool true))/\OldK s₁.heap s'.heap/\s'.os=s₁.os/\AllBare s'.gens) s₁) :
  WalkO q loose XP YP l.row.toRowW d [] (fun f vs=>PySem.call f vs):=by
 intro w s₀ s₁ mg mb G Y fa o pm cd doc dV kV ho hd hcd hD hmg hg args vals as hpre hlay hrd hwl hlo;obtain rfl:dV=.none:=Dflts.none hD hdf;obtain rfl:kV=.none:=Dflts.noKw hD;obtain⟨a,vs,ns,rfl,rfl,hobj,hints,hlen⟩:=yce hn hpre hwl;refine enter_call (codeAny_mono (call w s₀ s₁ mg mb fa o pm cd doc a vs ns G Y ho (fd_plain hd) hcd hmg hobj hints hlen hg) fun r s' hq=>?_);obtain⟨rfl,h2,h3,h4⟩:=hq;exact⟨.inl ⟨.bool true,.bool true,[],rfl,fun _=>rfl,.bool true,ybW l _,fun _=>⟨List.Pairwise.nil,fun _ hm=>(nomatch hm)⟩⟩,h2,h3,h4⟩
section
variable {prog:Program}{w:World}{A:Around}{E:Value->Shared->Prop}{s:Shared}{K:Frag}
end
end Att
namespace L2
open PySem PySem.Spec PyProof.Rows
theorem Up:∀ {vs:List Value} {ns:List Int},IntsAre vs ns->YQ (ns.map V.int) vs
 |_,_,.nil=>.nil
 |_,_,.cons n t h=>.cons ⟨t,rfl⟩ (Up h)
def yis (H:Hp):Prop:=∀ b,H b=none∨∃ o xs,H b=some (.frz o (.lst xs))
theorem ye4 {P:Program}{w:World}{K:W.Frag}{mg mb:Str->Option Value}{CX:CXT}{k:Nat}{fa a:Addr}{fd:FuncData}{x:Str}{sp:Sp}{s₁:Shared}{vs:List Value}{ns:List Int}
  (KX:K.In s₁.heap) (hns:s₁.heap.Ns mainGlobals mg) (hb:s₁.heap.Ns builtinsNs mb) (hbb:∀ x:Str,x ≠ "__name__" -> mb x=bootBuiltins x) (hlim:s₁.heap.NoLimit) (hsee:s₁.heap.NoSeer) (hg:s₁.gens=#[])
  (ha:s₁.heap.get? a=some {cls:=.type "list", data:=.seq vs.toArray}) (hi:IntsAre vs ns) (hl:ns.length<=sizeLine) (hr:Room k callerA)
  (F:∀ base:Heap,K.In base->base.Ns mainGlobals mg->FnOk P w K mg base CX k fa fd [x] sp) (hbind:∀ (s:Shared) (u:Value),BindsTo s fd ⟨[u],[]⟩ [(x,u)])
  (hsp:∀ H:Hp,yis H->SqL K H a (ns.map V.int)->sp [.ref a] H (fun v _=>v=.bl true) fun _ _ _=>False)
  (hCX:∀ H e s',CX [] H s₁ (fun _ _ _=>False) e s'->False) :
  codeAny (model P w) callerA (.call (.ref fa) ⟨[.ref a],[]⟩) (fun r s'=>r=.ok (.ret (.bool true))/\OldK s₁.heap s'.heap/\s'.os=s₁.os/\AllBare s'.gens) s₁:=by
 have rv:=Up hi;have lenV:=hi.length
 -- from an abstract heap in which nothing but the script may be tracked
 have core:∀ H:Hp,yis H->SqL K H a (ns.map V.int)->HOk P w H s₁.heap->(∀ b,H b≠none->b=a)->(H a≠none->K.lookup a=none)->
   codeAny (model P w) callerA (.call (.ref fa) ⟨[.ref a],[]⟩) (fun r s'=>r=.ok (.ret (.bool true))/\OldK s₁.heap s'.heap/\s'.os=s₁.os/\AllBare s'.gens) s₁:=by
  intro H hO hS hok hA hK;have base_of:∀ {b:Addr} {o:Obj},s₁.heap.get? b=some o->H b=none->(U8 s₁.heap H).get? b=some o:=fun e n=>ydq e n;have noA:∀ {b:Addr} {o:Obj} {es:Array DictEntry} {ep:Nat},s₁.heap.get? b=some o->o.data=.dict es ep->H b=none:=fun {b o es ep} e d=>by
   cases q:H b with
   |none=>rfl
   |some u=>
    have e':b=a:=hA b (by rw[q];simp);subst e';rw[ha] at e;cases e;have d':Data.seq vs.toArray _=Data.dict es ep:=d;cases d'
  have noM:∀ {b:Addr} {o:Obj},s₁.heap.get? b=some o->o.cls=.type "module" -> H b=none:=fun {b o} e d=>by
   cases q:H b with
   |none=>rfl
   |some u=>
    have e':b=a:=hA b (by rw[q];simp);subst e';rw[ha] at e;cases e;have d':Value.type "list" = Value.type "module" := d;injection d' with z;exact absurd z (by decide)
  have nsK:∀ {b:Addr} {m:Str->Option Value},s₁.heap.Ns b m->(U8 s₁.heap H).Ns b m:=fun {b m} ⟨o,es,ep,e,d,r⟩=>⟨o,es,ep,base_of e (noA e d),d,r⟩
  have hKb:K.In (U8 s₁.heap H):=fun b o e=>base_of (KX b o e) (by
   cases q:H b with
   |none=>rfl
   |some u=>
    have e':b=a:=hA b (by rw[q];simp);subst e';rw[hK (by rw[q];simp)] at e;cases e)
  have hM:Mod K mg (U8 s₁.heap H):=⟨hKb,nsK hns,⟨mb,nsK hb,hbb⟩,(let ⟨mc,h1,h2⟩:=hlim;⟨mc,nsK h1,h2⟩),⟨(let ⟨mc,a1,b1⟩:=hsee.statics;⟨mc,nsK a1,b1⟩),(let ⟨mc,a1,b1⟩:=hsee.mods;⟨mc,nsK a1,b1⟩),(let ⟨mc,a1,b1⟩:=hsee.imp;⟨mc,nsK a1,b1⟩),(let ⟨mg',bm,ob,a1,b1,c1,d1,f1⟩:=hsee.main;⟨mg',bm,ob,nsK a1,b1,base_of c1 (noM c1 d1),d1,f1⟩)⟩⟩
  have e0:Env0 P w K mg (U8 s₁.heap H) callerA [] s₁ H:=⟨rfl,hM,fun b o e=>ygE e,Nat.le_of_eq (yb3 _ _),trivial,fun b hb=>absurd (show b∈([]:List Addr) from hb) (by simp),hok,.of_eq hg⟩
  refine codeAny_mono ((F _ hKb (nsK hns)).run callerA [] s₁ H ⟨[.ref a],[]⟩ [.ref a] [.ref a] _ _ hr e0 (hbind s₁ (.ref a)) (.cons rfl .nil) (hsp H hO hS)) fun r s' h=>?_;cases r with
  |error e=>exact(hCX H e s' h).elim
  |ok fl=>
   cases fl with
   |next=>exact False.elim h
   |brk=>exact False.elim h
   |cont=>exact False.elim h
   |ret u=>
    obtain⟨v,H',os,bare,un,hok',r',q⟩:=h;have q':v=.bl true:=q;subst q';obtain rfl:u=Value.bool true:=r';refine⟨rfl,OldK.of_keep fun b o e=>?_,os,bare⟩;cases q:H b with
    |none=>exact un.keep b o e q (by intro z;exact absurd (show b∈([]:List Addr) from z) (by simp)) (by simp)
    |some u=>
     rcases hO b with z|⟨ob,xs,z⟩
     ·rw[q] at z;cases z
     ·have z2:=un.frzs b ob _ z;obtain⟨e1,_⟩:=hok b _ z;obtain⟨e2,_⟩:=hok' b _ z2;rw[e] at e1;cases e1;exact e2
 cases hk:K.lookup a with
 |some o=>
  -- the script is one of the module's own objects
  have e:=KX a o hk;rw[ha] at e;cases e;refine core (fun _=>none) (fun _=>.inl rfl) (.inr ⟨_,vs.toArray,_,hk,rfl,rfl,rfl,by rw[yD,lenV];exact hl,by simpa using rv⟩) (fun b u z=>by have z':(none:Option HO)=some u:=z;cases z') (fun b z=>absurd rfl z) fun z=>absurd rfl z
 |none=>
  refine core (fun b=>if b=a then some (.frz {cls:=.type "list", data:=.seq vs.toArray} (.lst (ns.map V.int))) else none) (fun b=>?_) (.inl (.inr ⟨{cls:=.type "list", data:=.seq vs.toArray},yc rfl⟩)) (fun b u z=>?_) (fun b z=>?_) fun _=>hk
  ·by_cases hb:b=a
   ·exact .inr ⟨_,_,yc hb⟩
   ·exact .inl (yb hb)
  ·by_cases hb:b=a
   ·have z':=(yc hb).symm.trans z;cases z';subst hb;exact⟨ha,by rw[ye];exact hl,vs,_,rv,ha⟩
   ·have z':=(yb hb).symm.trans z;cases z'
  ·by_cases hb:b=a
   ·exact hb
   ·exact absurd (yb hb) z
abbrev KOf {K:W.Frag}{h:Heap}(_:K.In h):W.Frag:=K
theorem yf6 {l:W.OpenLaw}{n k:Nat}{q:Program}{loose:List Str}{XP:(Str->Option Value)->Heap->Prop}{YP:World->Heap->Prop}{d:DefRec}{K:Params->W.Frag}{CX:World->CXT}{sp:World->Sp}{x:Str}
  (hn:l.most=some n) (hn2:n<=sizeLine) (hi:importsNone q=true) (hdf:d.params.defaults=[]) (hr:Room k callerA)
  (hY:∀ (w:World) (h:Heap),YP w h->(K w.params).In h)
  (F:∀ (w:World) (mg:Str->Option Value) (fa:Addr) (h:Heap),(K w.params).In h->h.Ns mainGlobals mg->mg d.name=some (.ref fa)->
   ∃ fd:FuncData,(∀ (s:Shared) (u:Value),BindsTo s fd ⟨[u],[]⟩ [(x,u)])/\
    ∀ base:Heap,(K w.params).In base->base.Ns mainGlobals mg->FnOk l.prog w (K w.params) mg base (CX w) k fa fd [x] (sp w))
  (hsp:∀ (w:World) (H:Hp) (a:Addr) (ns:List Int),ns.length<=n->yis H->SqL (K w.params) H a (ns.map V.int)->sp w [.ref a] H (fun v _=>v=.bl true) fun _ _ _=>False)
  (hCX:∀ (w:World) (H:Hp) (s:Shared) (e:Value) (s':Shared),CX w [] H s (fun _ _ _=>False) e s'->False) :
  W.WalkO q loose XP YP l.row.toRowW d [] (fun f vs=>PySem.call f vs):=by
 refine Att.attach_call hn hdf fun w s₀ s₁ mg mb fa o pm cd doc a vs ns G Y ho hd hcd hmg hobj hints hlen hg=>?_;have KX:=hY w _ Y;obtain⟨fd,hb,hF⟩:=F w mg fa _ KX G.T.g hmg;exact ye4 KX G.T.g G.T.b G.T.builtins G.T.nolimit (G.T.seer hi) hg hobj hints (yQ hlen hn2) hr hF hb (fun H hO hS=>hsp w H a ns hlen hO hS) fun H e s'=>hCX w H s₁ e s'
abbrev CX0:CXT:=fun _ _ _ _ _ _=>False
abbrev E0:XK:=fun _ _ _=>False
theorem VO {X:Cx}:Z8 CX0 X E0:=fun _ _ _ _ _ _ _ h=>h.elim
structure Fun (K:W.Frag)(x qual:Str)(st:Stmt)(f:Addr)(fd:FuncData):Prop where
 ex:∃ (oc:Value) (od:Option Addr) (kV doc pm:Value) (an:Option Addr) (cdv ct:Value) (osl:Array (Option Value)),
  fd=W.fnOf x qual (Q4 st) (YR st) (yj st) .none kV doc pm an cdv ct/\K.lookup f=some ⟨oc,od,.func fd,osl⟩/\W.codeIn K cdv qual=true
 kp:W.keepIn K (.ref f)=true
section
variable {P:Program}{w:World}{K:W.Frag}{mg:Str->Option Value}{base:Heap}
theorem Fun.ok {x qual:Str}{st:Stmt}{f:Addr}{fd:FuncData}{N ps:List Str}{k:Nat}{sp:Sp}(F:Fun K x qual st f fd)(S:FnScope N ps (yj st))(len:∀ vs H Q E,sp vs H Q E->vs.length=ps.length)
  (hbody:∀ (cdv:Value) (A:Around) (outer:List Env) (s:Shared) (H:Hp) (vs:List V) (Q:VK) (E:XK),Room k (A.deeper (envOfC qual (yj st) s.heap.objs.size f cdv))->sp vs H Q E->
   ∃ t,PSs (kX CX0 P w K mg base N qual (yj st) f cdv A outer s H E).nox (YR st) t/\t {nx:=fun _ H'=>Q .non H',rt:=Q} (start N vs) H):FnOk P w K mg base CX0 (k+1) f fd ps sp:=by
 obtain⟨oc,od,kV,doc,pm,an,cdv,ct,osl,rfl,lk,hcd⟩:=F.ex;refine yja lk hcd S len fun A outer s H vs Q E hr hsp=>?_;obtain⟨t,h,q⟩:=hbody cdv A outer s H vs Q E hr hsp;exact⟨t,h.nox,q⟩
theorem Fun.binds {x qual:Str}{st:Stmt}{f:Addr}{fd:FuncData}{ps:List Str}(F:Fun K x qual st f fd)
  (h:∀ (kV doc pm:Value) (an:Option Addr) (cdv ct:Value) (us:List Value),us.length=ps.length->bindArgs (W.fnOf x qual (Q4 st) (YR st) (yj st) .none kV doc pm an cdv ct) ⟨us,[]⟩=pure (ps.zip us)):JT K fd ps []:=by
 obtain⟨oc,od,kV,doc,pm,an,cdv,ct,osl,rfl,lk,hcd⟩:=F.ex;exact .all (h kV doc pm an cdv ct)
theorem UY {x qual:Str}{st:Stmt}{f:Addr}{oc:Value}{od an:Option Addr}{osl:Array (Option Value)}{kV doc pm cdv ct:Value}(l:K.lookup f=some ⟨oc,od,.func (W.fnOf x qual (Q4 st) (YR st) (yj st) .none kV doc pm an cdv ct),osl⟩)
  (c:W.codeIn K cdv qual=true) (k:W.keepIn K (.ref f)=true):Fun K x qual st f (W.fnOf x qual (Q4 st) (YR st) (yj st) .none kV doc pm an cdv ct):=⟨⟨oc,od,kV,doc,pm,an,cdv,ct,osl,rfl,l,c⟩,k⟩
end
section
variable {X:Cx}
theorem pv (i:Nat){x:Str}{pos:Pos}(hN:X.N[i]?=some x:=by rfl)(hv:Vis X.env.scope x:=by first|exact Or.inl rfl|exact Or.inr (Or.inl rfl)|exact Or.inr (Or.inr rfl))(hd:(x==("__debug__" : Str))=false:=by decide)
  (hcd:(x==("__classdict__" : Str))=false:=by decide):PE X (.Name x pos) (yjR i):=k8 hN hv hd hcd
end
theorem yfV {A B:Prop}(h:B):if false=true then A else B:=by
 rw[yb yE];exact h
theorem ygD {A B:Prop}(h:A):if true=true then A else B:=by
 rw[yc rfl];exact h
def yP (H H':Hp):Prop:=∀ b o,H b=some o->H' b=some o
theorem yP.refl (H:Hp):yP H H:=fun _ _ h=>h
theorem yP.trans {H H1 H2:Hp}(a:yP H H1)(b:yP H1 H2):yP H H2:=fun c o h=>b c o (a c o h)
theorem yP.free {H H':Hp}(e:yP H H'){l:Addr}(h:H' l=Option.none):H l=Option.none:=by
 cases q:H l with
 |none=>rfl
 |some o=>
  rw[e l o q] at h;cases h
theorem yP.seq {K:W.Frag}{H H':Hp}{a:Addr}{xs:List V}(e:yP H H')(h:SqL K H a xs):SqL K H' a xs:=by
 rcases h with (h|⟨o,h⟩)|h
 ·exact .inl (.inl (e _ _ h))
 ·exact .inl (.inr ⟨o,e _ _ h⟩)
 ·exact .inr h
end L2
set_option maxHeartbeats 4000000
namespace PySem
open Sem (wp)
section
variable {prog:Program}{w:World}{A:Around}{E:Value->Shared->Prop}{s:Shared}
abbrev zB (h:Heap)(z TI TO:Addr)(f0:Value)(f1:Bool):Prop:=h.get? z=some {cls:=.type "zip", dict:=none,data:=.fields #[f0,.bool f1,.bool false,.ref TI,.ref TO],slots:=#[]}
structure ZipL (h:Heap)(TI i1 i2 t1 t2:Addr)(xs ys:Array Value)(k:Nat):Prop where
 pr:IsPair h TI (.ref i1) (.ref i2)
 a1:h.IsListIter i1 t1 k
 a2:h.IsListIter i2 t2 k
 b1:h.IsList t1 xs
 b2:h.IsList t2 ys
theorem ZipL.put {h g:Heap}{z TI TO i1 i2 t1 t2:Addr}{xs ys:Array Value}{k:Nat}(c:ZipL h TI i1 i2 t1 t2 xs ys k)(e:∀ b,b=TI∨b=i1∨b=i2∨b=t1∨b=t2->∀ o,h.get? b=some o->g.get? b=some o):ZipL g TI i1 i2 t1 t2 xs ys k:=
 ⟨e _ (.inl rfl) _ c.pr,c.a1.at (e _ (.inr (.inl rfl))),c.a2.at (e _ (.inr (.inr (.inl rfl)))),(let ⟨o,q,r⟩:=c.b1;⟨o,e _ (.inr (.inr (.inr (.inl rfl)))) _ q,r⟩),(let ⟨o,q,r⟩:=c.b2;⟨o,e _ (.inr (.inr (.inr (.inr rfl)))) _ q,r⟩)⟩
theorem yb1 {z TI TO i1 i2 t1 t2:Addr}{k:Nat}{xs ys:Array Value}{x y a b:Value}{Q:Value->Shared->Prop}(D:ZipApart z TI TO i1 i2 t1 t2)(hz:zB s.heap z TI TO .none false)(c:ZipL s.heap TI i1 i2 t1 t2 xs ys k)(ho:IsPair s.heap TO a b)(hx:xs[k]?=some x)(hy:ys[k]?=some y)
  (K:∀ g,zB g z TI TO (rawInt s.heap.objs.size) false->IsPair g TO x y->ZipL g TI i1 i2 t1 t2 xs ys (k+1)->IsPair g s.heap.objs.size x y->g.objs.size=s.heap.objs.size+1->(∀ b o,b≠z->b≠TO->b≠i1->b≠i2->s.heap.get? b=some o->g.get? b=some o)->Q (.ref s.heap.objs.size) {s with heap:=g}) :
  wpAny (model prog w) A (Builtin.«zip.__next__» ⟨[.ref z],[]⟩) (fun fin s'=>∃ v,fin=.done (.ret v)/\Q v s') E s:=by
 show wpAny _ _ (field (.ref z) 2 >>= _) _ _ _;refine ya (Ys (s:=s) hz rfl (x:=.bool false) rfl ?_);show wpAny _ _ (field (.ref z) 3 >>= _) _ _ _;refine ya (Ys (s:=s) hz rfl (x:=.ref TI) rfl ?_);refine ya (wpAny_seqItems (s:=s) c.pr rfl ?_);show wpAny _ _ (Builtin.SmallTypes.ownedTupleIsFree (.ref z) >>= _) _ _ _;refine ya ?_;unfold Builtin.SmallTypes.ownedTupleIsFree;refine ya (Ys (s:=s) hz rfl (x:=.none) rfl (yh ?_));simp only[if_true];refine ya (wpAny_rule (ya (Ys (s:=s) hz rfl (x:=.ref TO) rfl (ya (YT hz (by simp) fun g1 z1 s1=>ya ?_)))));have z1:zB g1 z TI TO .ellipsis false:=z1;simp only[List.zipIdx_cons,List.zipIdx_nil,ju,List.forIn_nil];refine ya (ya (wpAny_onRaise ?_));show wpAny _ _ (Builtin.SmallTypes.nextOf (.ref i1) >>= _) _ _ _;refine ya (YM (c.a1.extBut s1.extBut D.i1z) (c.b1.extBut s1.extBut D.l1z) hx fun g2 j1 s2=>yh ?_);have o2:IsPair g2 TO a b:=s2.extBut _ _ D.TOi1 (s1.extBut _ _ D.TOz ho);refine ya (wpAny_seqItems o2 rfl (ya (wpAny_updateSeq_pair o2 fun g3 o3 s3=>ya (wpAny_letGo (yh ?_)))));have o3:IsPair g3 TO x b:=o3;refine ya (ya (wpAny_onRaise ?_));show wpAny _ _ (Builtin.SmallTypes.nextOf (.ref i2) >>= _) _ _ _;refine ya (YM (((c.a2.extBut s1.extBut D.i2z).extBut s2.extBut D.i12.symm).extBut s3.extBut D.TOi2.symm) (((c.b2.extBut s1.extBut D.l2z).extBut s2.extBut D.l2i1).extBut s3.extBut D.l2TO) hy fun g4 j2 s4=>yh ?_);have o4:IsPair g4 TO x b:=s4.extBut _ _ D.TOi2 o3;refine ya (wpAny_seqItems o4 rfl (ya (wpAny_updateSeq_pair o4 fun g5 o5 s5=>ya (wpAny_letGo (yh (yh ?_))))));have o5:IsPair g5 TO x y:=o5;refine ya (wpAny_seqItems o5 rfl (ya (wpAny_newTuple ?_)));have sz:g5.objs.size=s.heap.objs.size:=by rw[s5.1,s4.1,s3.1,s2.1,s1.1]
 have z5:zB g5 z TI TO .ellipsis false:=s5.extBut _ _ D.TOz.symm (s4.extBut _ _ D.i2z.symm (s3.extBut _ _ D.TOz.symm (s2.extBut _ _ D.i1z.symm z1)));have k5:∀ b o,b≠z->b≠TO->b≠i1->b≠i2->s.heap.get? b=some o->g5.get? b=some o:=fun b o c1 c2 c3 c4 e=>
  s5.extBut _ _ c2 (s4.extBut _ _ c4 (s3.extBut _ _ c2 (s2.extBut _ _ c3 (s1.extBut _ _ c1 e))))
 have j1':g5.IsListIter i1 t1 (k+1):=((j1.extBut s3.extBut D.TOi1.symm).extBut s4.extBut D.i12).extBut s5.extBut D.TOi1.symm;have j2':g5.IsListIter i2 t2 (k+1):=j2.extBut s5.extBut D.TOi2.symm;have lz:z<g5.objs.size:=yi z5;show wpAny _ _ (Builtin.SmallTypes.ownedTupleHandOut (.ref z) (.ref g5.objs.size) >>= _) _ _ _;refine ya ?_;unfold Builtin.SmallTypes.ownedTupleHandOut;have z6:zB (g5.push {cls:=.type "tuple", data:=.seq #[x,y]}) z TI TO .ellipsis false:=yk _ z5;refine ya (YT z6 (by simp) fun g7 z7 s7=>?_);have z7:zB g7 z TI TO (rawInt g5.objs.size) false:=z7;refine YT z7 (by simp) fun g8 z8 s8=>?_;have z8:zB g8 z TI TO (rawInt g5.objs.size) false:=z8;have up:∀ b o,b≠z->g5.get? b=some o->g8.get? b=some o:=fun b o c1 e=>s8.extBut _ _ c1 (s7.extBut _ _ c1 (yk _ e));have nw:IsPair g8 g5.objs.size x y:=s8.extBut _ _ (qH lz) (s7.extBut _ _ (qH lz) (yC _ rfl));have sz8:g8.objs.size=g5.objs.size+1:=by rw[s8.1,s7.1,Heap.size_push]
 rw[sz] at z8 nw sz8;refine yh ⟨_,rfl,?_⟩;show Q (.ref g5.objs.size) _;rw[sz];have w5:∀ b o,b≠z->b≠TO->b≠i1->b≠i2->s.heap.get? b=some o->g8.get? b=some o:=fun b o c1 c2 c3 c4 e=>up b o c1 (k5 b o c1 c2 c3 c4 e);exact K g8 z8 (up _ _ D.TOz o5) ⟨w5 _ _ D.TIz D.TITO D.TIi1 D.TIi2 c.pr,j1'.at fun o e=>up _ o D.i1z e,j2'.at fun o e=>up _ o D.i2z e,(let ⟨o,q,r⟩:=c.b1;⟨o,w5 _ _ D.l1z D.l1TO D.l1i1 D.l1i2 q,r⟩),(let ⟨o,q,r⟩:=c.b2;⟨o,w5 _ _ D.l2z D.l2TO D.l2i1 D.l2i2 q,r⟩)⟩ nw sz8 w5
theorem U2 {a:Addr}{o:Obj}{Q:Option Obj->Shared->Prop}(ho:s.heap.get? a=some o)(h:Q (some o) s):wpAny (model prog w) A (loadIfAlive a) Q E s:=fun Γ p _=>by
 unfold loadIfAlive;rw[Sem.wp_loadIfAlive,ho];exact(Sem.wp_pure ..).mpr h
theorem uJ {z TI TO T:Addr}{f1:Bool}{oT:Obj}{Q:Bool->Shared->Prop}(hz:zB s.heap z TI TO (rawInt T) f1)(hT:s.heap.get? T=some oT)(K:∀ g,zB g z TI TO (rawInt T) true->Heap.SameBut z s.heap g->Q false {s with heap:=g}) :
  wpAny (model prog w) A (Builtin.SmallTypes.ownedTupleIsFree (.ref z)) Q E s:=by
 unfold Builtin.SmallTypes.ownedTupleIsFree;refine ya (Ys (s:=s) hz rfl (x:=rawInt T) rfl ?_);show wpAny _ _ (loadIfAlive T >>= _) _ _ _;refine ya (U2 hT ?_);simp only[Option.isNone_some,YI,if_false];refine ya (Ys (s:=s) hz rfl (x:=.bool f1) rfl ?_);cases f1 with
 |true=>exact yh (K s.heap hz (Heap.SameBut.refl ..))
 |false=>exact ya (YT hz (by simp) fun g z1 s1=>yh (K g z1 s1))
theorem ybI {z TI TO i1 i2 t1 t2 T:Addr}{k:Nat}{xs ys:Array Value}{x y:Value}{f1:Bool}{oT:Obj}{Q:Value->Shared->Prop}(D:ZipApart z TI TO i1 i2 t1 t2)(hz:zB s.heap z TI TO (rawInt T) f1)(c:ZipL s.heap TI i1 i2 t1 t2 xs ys k)(hT:s.heap.get? T=some oT)(hx:xs[k]?=some x)(hy:ys[k]?=some y)
  (K:∀ g,zB g z TI TO (rawInt T) true->ZipL g TI i1 i2 t1 t2 xs ys (k+1)->IsPair g s.heap.objs.size x y->g.objs.size=s.heap.objs.size+1->(∀ b o,b≠z->b≠i1->b≠i2->s.heap.get? b=some o->g.get? b=some o)->Q (.ref s.heap.objs.size) {s with heap:=g}) :
  wpAny (model prog w) A (Builtin.«zip.__next__» ⟨[.ref z],[]⟩) (fun fin s'=>∃ v,fin=.done (.ret v)/\Q v s') E s:=by
 show wpAny _ _ (field (.ref z) 2 >>= _) _ _ _;refine ya (Ys (s:=s) hz rfl (x:=.bool false) rfl ?_);show wpAny _ _ (field (.ref z) 3 >>= _) _ _ _;refine ya (Ys (s:=s) hz rfl (x:=.ref TI) rfl ?_);refine ya (wpAny_seqItems (s:=s) c.pr rfl ?_);show wpAny _ _ (Builtin.SmallTypes.ownedTupleIsFree (.ref z) >>= _) _ _ _;refine ya ?_;refine uJ hz hT fun g1 z1 s1=>?_;simp only[YI,if_false,←Array.forIn_toList,ju,List.forIn_nil];refine ya (ya (ya (Yw ?_)));show wpAny _ _ (Builtin.SmallTypes.nextOf (.ref i1) >>= _) _ _ _;refine ya (YM (c.a1.extBut s1.extBut D.i1z) (c.b1.extBut s1.extBut D.l1z) hx fun g2 j1 s2=>yh (yh ?_));refine ya (ya (Yw ?_));show wpAny _ _ (Builtin.SmallTypes.nextOf (.ref i2) >>= _) _ _ _;refine ya (YM ((c.a2.extBut s1.extBut D.i2z).extBut s2.extBut D.i12.symm) ((c.b2.extBut s1.extBut D.l2z).extBut s2.extBut D.l2i1) hy fun g3 j2 s3=>yh (yh (yh ?_)));refine ya (wpAny_newTuple (yh ⟨_,rfl,?_⟩) (by show(2:Nat)<=sizeLine;decide));have sz:g3.objs.size=s.heap.objs.size:=by rw[s3.1,s2.1,s1.1]
 have k3:∀ b o,b≠z->b≠i1->b≠i2->s.heap.get? b=some o->g3.get? b=some o:=fun b o c1 c3 c4 e=>s3.extBut _ _ c4 (s2.extBut _ _ c3 (s1.extBut _ _ c1 e));have z3:zB g3 z TI TO (rawInt T) true:=s3.extBut _ _ D.i2z.symm (s2.extBut _ _ D.i1z.symm z1);have j1':g3.IsListIter i1 t1 (k+1):=j1.extBut s3.extBut D.i12;show Q (.ref g3.objs.size) _;have nw:IsPair (g3.push {cls:=.type "tuple", data:=.seq #[x,y]}) g3.objs.size x y:=yC _ rfl;rw[sz] at nw ⊢;have up:∀ b o,g3.get? b=some o->(g3.push {cls:=.type "tuple", data:=.seq #[x,y]}).get? b=some o:=fun b o e=>yk _ e;exact K _ (up _ _ z3) ⟨up _ _ (k3 _ _ D.TIz D.TIi1 D.TIi2 c.pr),j1'.at fun o e=>up _ o e,j2.at fun o e=>up _ o e,(let ⟨o,q,r⟩:=c.b1;⟨o,up _ _ (k3 _ _ D.l1z D.l1i1 D.l1i2 q),r⟩),(let ⟨o,q,r⟩:=c.b2;⟨o,up _ _ (k3 _ _ D.l2z D.l2i1 D.l2i2 q),r⟩)⟩ nw (by rw[Heap.size_push,sz]) fun b o c1 c2 c3 e=>up _ _ (k3 b o c1 c2 c3 e)
theorem yep {z TI TO i1 i2 t1 t2:Addr}{k:Nat}{xs ys:Array Value}{a b f0:Value}{f1:Bool}{Q:Fin->Shared->Prop}(hh:A.handled=none)(D:ZipApart z TI TO i1 i2 t1 t2)(hz:zB s.heap z TI TO f0 f1)(hf:(f0=.none/\f1=false)∨∃ T o,f0=rawInt (T:Nat)/\s.heap.get? T=some o)(c:ZipL s.heap TI i1 i2 t1 t2 xs ys k)(ho:IsPair s.heap TO a b)(hend:xs[k]?=none∨ys[k]?=none)
  (K:∀ g e,(∀ b o,b≠z->b≠TO->b≠i1->b≠i2->s.heap.get? b=some o->g.get? b=some o)->(∃ o,g.get? e=some o/\o.cls=.type "StopIteration")->E (.ref e) {s with heap:=g}) :
  wpAny (model prog w) A (Builtin.«zip.__next__» ⟨[.ref z],[]⟩) Q E s:=by
 show wpAny _ _ (field (.ref z) 2 >>= _) _ _ _;refine ya (Ys (s:=s) hz rfl (x:=.bool false) rfl ?_);show wpAny _ _ (field (.ref z) 3 >>= _) _ _ _;refine ya (Ys (s:=s) hz rfl (x:=.ref TI) rfl ?_);refine ya (wpAny_seqItems (s:=s) c.pr rfl ?_);show wpAny _ _ (Builtin.SmallTypes.ownedTupleIsFree (.ref z) >>= _) _ _ _;refine ya ?_;rcases hf with ⟨rfl,rfl⟩|⟨T,oT,rfl,hT⟩
 ·unfold Builtin.SmallTypes.ownedTupleIsFree;refine ya (Ys (s:=s) hz rfl (x:=.none) rfl (yh ?_));simp only[if_true];refine ya (wpAny_rule (ya (Ys (s:=s) hz rfl (x:=.ref TO) rfl (ya (YT hz (by simp) fun g1 z1 s1=>ya ?_)))));have z1:zB g1 z TI TO .ellipsis false:=z1;simp only[List.zipIdx_cons,List.zipIdx_nil,ju,List.forIn_nil];refine ya (ya (wpAny_onRaise ?_));show wpAny _ _ (Builtin.SmallTypes.nextOf (.ref i1) >>= _) _ _ _;cases hx:xs[k]? with
  |none=>
   refine ya (wpAny_nextOf_list_end hh (c.a1.extBut s1.extBut D.i1z) (c.b1.extBut s1.extBut D.l1z) hx fun g2 e s2 he=>?_);obtain⟨oe,h1,h2⟩:=he;have z2:zB g2 z TI TO .ellipsis false:=s2 _ _ D.i1z.symm z1;have ne:e≠z:=fun q=>by subst q;rw[z2] at h1;cases h1;simp at h2
   exact YT z2 (by simp) fun g3 _ s3=>K g3 e (fun b o c1 _ c3 _ q=>s3.extBut _ _ c1 (s2 _ _ c3 (s1.extBut _ _ c1 q))) ⟨oe,s3.extBut _ _ ne h1,h2⟩
  |some x=>
   have hy:ys[k]?=none:=hend.resolve_left (by rw[hx];exact fun q=>nomatch q);refine ya (YM (c.a1.extBut s1.extBut D.i1z) (c.b1.extBut s1.extBut D.l1z) hx fun g2 j1 s2=>yh ?_);have o2:IsPair g2 TO a b:=s2.extBut _ _ D.TOi1 (s1.extBut _ _ D.TOz ho);refine ya (wpAny_seqItems o2 rfl (ya (wpAny_updateSeq_pair o2 fun g3 o3 s3=>ya (wpAny_letGo (yh (ya (ya (wpAny_onRaise ?_))))))));show wpAny _ _ (Builtin.SmallTypes.nextOf (.ref i2) >>= _) _ _ _;refine ya (wpAny_nextOf_list_end hh (((c.a2.extBut s1.extBut D.i2z).extBut s2.extBut D.i12.symm).extBut s3.extBut D.TOi2.symm) (((c.b2.extBut s1.extBut D.l2z).extBut s2.extBut D.l2i1).extBut s3.extBut D.l2TO) hy fun g4 e s4 he=>?_);obtain⟨oe,h1,h2⟩:=he;have z4:zB g4 z TI TO .ellipsis false:=s4 _ _ D.i2z.symm (s3.extBut _ _ D.TOz.symm (s2.extBut _ _ D.i1z.symm z1));have ne:e≠z:=fun q=>by subst q;rw[z4] at h1;cases h1;simp at h2
   exact YT z4 (by simp) fun g5 _ s5=>K g5 e (fun b o c1 c2 c3 c4 q=>s5.extBut _ _ c1 (s4 _ _ c4 (s3.extBut _ _ c2 (s2.extBut _ _ c3 (s1.extBut _ _ c1 q))))) ⟨oe,s5.extBut _ _ ne h1,h2⟩
 ·refine uJ hz hT fun g1 z1 s1=>?_;simp only[YI,if_false,←Array.forIn_toList,ju,List.forIn_nil];refine ya (ya (ya (Yw ?_)));show wpAny _ _ (Builtin.SmallTypes.nextOf (.ref i1) >>= _) _ _ _;cases hx:xs[k]? with
  |none=>exact ya (wpAny_nextOf_list_end hh (c.a1.extBut s1.extBut D.i1z) (c.b1.extBut s1.extBut D.l1z) hx fun g2 e s2 he=>K g2 e (fun b o c1 _ c3 _ q=>s2 _ _ c3 (s1.extBut _ _ c1 q)) he)
  |some x=>
   have hy:ys[k]?=none:=hend.resolve_left (by rw[hx];exact fun q=>nomatch q);refine ya (YM (c.a1.extBut s1.extBut D.i1z) (c.b1.extBut s1.extBut D.l1z) hx fun g2 j1 s2=>yh (yh ?_));refine ya (ya (Yw ?_));show wpAny _ _ (Builtin.SmallTypes.nextOf (.ref i2) >>= _) _ _ _;exact ya (wpAny_nextOf_list_end hh ((c.a2.extBut s1.extBut D.i2z).extBut s2.extBut D.i12.symm) ((c.b2.extBut s1.extBut D.l2z).extBut s2.extBut D.l2i1) hy fun g4 e s4 he=>K g4 e (fun b o c1 c2 c3 c4 q=>s4 _ _ c4 (s2.extBut _ _ c3 (s1.extBut _ _ c1 q))) he)
theorem Zk {z:Addr}{TI TO:Addr}{f0:Value}{f1:Bool}{Q:Option Value->Shared->Prop}(hz:zB s.heap z TI TO f0 f1)(h:∀ A' E',wpAny (model prog w) A' (Builtin.«zip.__next__» ⟨[.ref z],[]⟩) (fun fin s'=>∃ v,fin=.done (.ret v)/\Q (some v) s') E' s) :
  wpAny (model prog w) A (pyNext (.ref z)) Q E s:=by
 have hT:s.TypeIs (.ref z) "zip" := ⟨_,hz,rfl⟩
 unfold pyNext;refine ya (wpAny_attempt (wpAny_callSpecial?_slot (name:=Str.ofString "__next__") hT F.slot_zip_next (wpAny_call_entry F.slot_zip_next hT F.entry_zip_next (YJ (h _ _) (fun fin s' q=>?_) fun _ _ e=>e) (F.args_zip_next_1 _))));obtain⟨v,rfl,q⟩:=q;exact⟨v,rfl,yh q⟩
theorem ua {z TI TO:Addr}{f0:Value}{f1:Bool}{Q:Option Value->Shared->Prop}(hz:zB s.heap z TI TO f0 f1)(hh:A.handled=none)
  (h:∀ A' (Q':Fin->Shared->Prop) (E':Value->Shared->Prop),A'.handled=none->(∀ e s',(∃ o,s'.heap.get? e=some o/\o.cls=.type "StopIteration")->Q none s'->E' (.ref e) s')->wpAny (model prog w) A' (Builtin.«zip.__next__» ⟨[.ref z],[]⟩) Q' E' s) :
  wpAny (model prog w) A (pyNext (.ref z)) Q E s:=by
 have hT:s.TypeIs (.ref z) "zip" := ⟨_,hz,rfl⟩
 unfold pyNext;refine ya (wpAny_attempt (wpAny_callSpecial?_slot (name:=Str.ofString "__next__") hT F.slot_zip_next (wpAny_call_entry F.slot_zip_next hT F.entry_zip_next (h _ _ _ hh fun e s' ho q=>?_) (F.args_zip_next_1 _))));obtain⟨o,ho,hc⟩:=ho;exact ya (wpAny_isInstance (T:="StopIteration") (b:=true) ⟨o,ho,hc⟩ isSubtype_stop (yh q))
theorem ybF {z TI TO:Addr}{f0:Value}{f1:Bool}{Q:Value->Shared->Prop}(hz:zB s.heap z TI TO f0 f1)(h:Q (.ref z) s):wpAny (model prog w) A (pyIter (.ref z)) Q E s:=by
 have hT:s.TypeIs (.ref z) "zip" := ⟨_,hz,rfl⟩
 refine wpAny_pyIter_slot hT F.slot_zip_iter (wpAny_call_entry F.slot_zip_iter hT F.entry_zip_iter ?_ (F.args_zip_iter_1 _));show wpAny _ _ (ret (.ref z)) _ _ s;exact yh ⟨_,rfl,"zip", _,hT,F.slot_zip_next.lookup,h⟩
end
namespace ZK
theorem entry_ga:entryFor table "zip.__getattribute__" = some Builtin.«object.__getattribute__»:=
 entryFor_alias (id':="object.__getattribute__") (by kernel_rfl) (by first|rfl|decide +kernel|(unfold String.splitOn;simp +decide [String.splitOnAux])) (by decide +kernel) (by kernel_rfl)
theorem ga_none:typeLookup (.type "zip") "__getattr__" = pure none:=am_miss_of_fast (by kernel_rfl)
theorem keys_none:typeLookup (.type "zip") "keys" = pure none:=am_miss_of_fast (by kernel_rfl)
end ZK
theorem Ke (z:Addr)(fs:Array Value)(u:Tok):Meets (Builtin.«object.__getattribute__» ⟨[.ref z,.str "keys" u],[]⟩) fun A R s=>s.heap.get? z=some {cls:=.type "zip", dict:=none,data:=.fields fs,slots:=#[]}/\raisesAttr (.ref z) "keys" A R s:=
 .of_wp fun prog w A R s h=>by
  obtain⟨hp,g,d,tk,os⟩:=s;obtain⟨q,hh,h⟩:=h;have hz:Heap.get? (Shared.heap ⟨hp,g,d,tk,os⟩) z=some {cls:=.type "zip", dict:=none,data:=.fields fs,slots:=#[]}:=q;have f1:=ZK.keys_none;have hT:Shared.TypeIs ⟨hp,g,d,tk,os⟩ (.ref z) "zip" := ⟨_,hz,rfl⟩
  wp_walk
  exact wpAny_raiseAttrError (show A.in1.handled=none from hh) (fun h' tk' e x=>h h' tk' e x) (by decide +kernel)
section
variable {prog:Program}{w:World}{A:Around}{E:Value->Shared->Prop}{s:Shared}
theorem xC {z:Addr}{fs:Array Value}{Q:Option Value->Shared->Prop}(hh:A.handled=none)(hz:s.heap.get? z=some {cls:=.type "zip", dict:=none,data:=.fields fs,slots:=#[]})
  (K:∀ g tk,(∀ b o,s.heap.get? b=some o->g.get? b=some o)->Q none {s with heap:=g,toks:=tk}):wpAny (model prog w) A (getAttr? (.ref z) "keys") Q E s:=by
 obtain⟨hp,g,d,tk,os⟩:=s;have q:Heap.get? (Shared.heap ⟨hp,g,d,tk+1,os⟩) z=some {cls:=.type "zip", dict:=none,data:=.fields fs,slots:=#[]}:=hz;have hT:Shared.TypeIs ⟨hp,g,d,tk+1,os⟩ (.ref z) "zip" := ⟨_,q,rfl⟩
 have f1:=sub_AttributeError;have f3:=F.slot_zip_getattribute.lookup;have f4:=F.slot_zip_getattribute.bind (.ref z);have f5:=ZK.ga_none;have C:∀ {A':Around} {E':Value->Shared->Prop} {Q':Value->Shared->Prop},A'.handled=none->(∀ h' tk' e,Heap.NewAttrErr hp h' e (.ref z) "keys" -> E' (.ref e) ⟨h',g,d,tk',os⟩)->wpAny (model prog w) A' (call (.builtin "zip.__getattribute__") [.ref z,.str "keys" tk]) Q' E' ⟨hp,g,d,tk+1,os⟩:=fun h1 h2=>
  call_meets F.slot_zip_getattribute hT ZK.entry_ga (F.args_zip_getattribute_2 _ _) (Ke z fs tk) ⟨q,h1,h2⟩
 unfold getAttr? getAttrBy?;refine ya (wpAny_mkText (ya (wpAny_attempt ?_)));unfold getAttrBy;refine Yw (ya (wpAny_typeOf hT (ya (wpAny_of_eq f3 ?_))));show wpAny _ _ (if (onTheHeap (Value.type "zip")&&Value.builtin "zip.__getattribute__" == Value.builtin "object.__getattribute__")=true then _ else _) _ _ _;rw[yb (by decide)];unfold getAttrByItsOwn;refine ya (m:=hookBefore _) (yh (ya (wpAny_attempt (Yw ?_))));refine ya (m:=bindSpecial _ _) (wpAny_of_eq f4 (C hh fun h' tk' e x=>?_));obtain⟨t',u',he⟩:=x.there;have hE:Shared.TypeIs ⟨h',g,d,tk',os⟩ (.ref e) "AttributeError" := ⟨_,he,rfl⟩
 dsimp only;unfold getattributeRaised;refine ya (wpAny_isInstance hE f1 ?_);rw[yc rfl];refine ya (m:=hookBehind _ _) (wpAny_of_eq f5 ?_);unfold hookOrError;dsimp only
 wp_walk
 exact K _ _ x.keeps
end
namespace ZK
theorem entry_loop:entryFor table "dict.update.loop" = some Builtin.«dict.update.loop»:=entryFor_of_tree (by kernel_rfl)
theorem plain_loop:plainId "dict.update.loop" = true:=by decide +kernel
end ZK
section
variable {prog:Program}{w:World}{A:Around}{E:Value->Shared->Prop}{s:Shared}
theorem XE {T:Addr}{x y:Value}{Q:List Value->Shared->Prop}(h:IsPair s.heap T x y)(q:Q [x,y] s):wpAny (model prog w) A (Builtin.Dict.pairItems (.ref T)) Q E s:=by
 have hT:s.TypeIs (.ref T) "tuple" := ⟨_,h,rfl⟩
 unfold Builtin.Dict.pairItems;refine ya (wpAny_typeOf hT ?_);rw[yc (by decide)];obtain⟨hp,g,d,tk,os⟩:=s
 wp_walk
 exact q
def J0 (h:Heap)(z TI TO i1 i2 l1 l2:Addr)(xs ys:Array Value)(k:Nat):Prop:=
 ∃ f0 f1,zB h z TI TO f0 f1/\((f0=.none/\f1=false)∨∃ (T:Addr) (o:Obj),f0=rawInt T/\h.get? T=some o)/\ZipL h TI i1 i2 l1 l2 xs ys k/\∃ a b,IsPair h TO a b
theorem J0.next {z TI TO i1 i2 l1 l2:Addr}{xs ys:Array Value}{k:Nat}{x y:Value}{Q:Option Value->Shared->Prop}(D:ZipApart z TI TO i1 i2 l1 l2)(S:J0 s.heap z TI TO i1 i2 l1 l2 xs ys k)(hx:xs[k]?=some x)(hy:ys[k]?=some y)
  (K:∀ g,J0 g z TI TO i1 i2 l1 l2 xs ys (k+1)->IsPair g s.heap.objs.size x y->g.objs.size=s.heap.objs.size+1->(∀ b o,b≠z->b≠TO->b≠i1->b≠i2->s.heap.get? b=some o->g.get? b=some o)->Q (some (.ref s.heap.objs.size)) {s with heap:=g}) :
  wpAny (model prog w) A (pyNext (.ref z)) Q E s:=by
 obtain⟨f0,f1,hz,hf,c,a,b,ho⟩:=S;rcases hf with ⟨rfl,rfl⟩|⟨T,oT,rfl,hT⟩
 ·exact Zk hz fun A' E'=>yb1 D hz c ho hx hy fun g z1 o1 c1 n1 sz fr=>K g ⟨_,_,z1,.inr ⟨_,_,rfl,n1⟩,c1,_,_,o1⟩ n1 sz fr
 ·refine Zk hz fun A' E'=>ybI D hz c hT hx hy fun g z1 c1 n1 sz fr=>K g ⟨_,_,z1,.inr ⟨T,?_⟩,c1,a,b,fr _ _ D.TOz D.TOi1 D.TOi2 ho⟩ n1 sz fun b o c1 _ c3 c4 e=>fr b o c1 c3 c4 e;by_cases e1:T=z
  ·subst e1;exact⟨_,rfl,z1⟩
  ·by_cases e2:T=i1
   ·obtain⟨o,h1,_⟩:=c1.a1;exact⟨o,rfl,e2▸h1⟩
   ·by_cases e3:T=i2
    ·obtain⟨o,h1,_⟩:=c1.a2;exact⟨o,rfl,e3▸h1⟩
    ·exact⟨oT,rfl,fr _ _ e1 e2 e3 hT⟩
theorem J0.fin {z TI TO i1 i2 l1 l2:Addr}{xs ys:Array Value}{k:Nat}{Q:Option Value->Shared->Prop}(hh:A.handled=none)(D:ZipApart z TI TO i1 i2 l1 l2)(S:J0 s.heap z TI TO i1 i2 l1 l2 xs ys k)(hend:xs[k]?=none∨ys[k]?=none)
  (K:∀ g,(∀ b o,b≠z->b≠TO->b≠i1->b≠i2->s.heap.get? b=some o->g.get? b=some o)->Q none {s with heap:=g}) :
  wpAny (model prog w) A (pyNext (.ref z)) Q E s:=by
 obtain⟨f0,f1,hz,hf,c,a,b,ho⟩:=S;exact ua hz hh fun A' Q' E' h1 h2=>yep h1 D hz hf c ho hend fun g e fr he=>h2 e _ he (K g fr)
theorem J0.put {h g:Heap}{d z TI TO i1 i2 l1 l2:Addr}{xs ys:Array Value}{k:Nat}(S:J0 h z TI TO i1 i2 l1 l2 xs ys k)(hd:d∉[z,TI,TO,i1,i2,l1,l2])(e:∀ b o,b≠d->h.get? b=some o->g.get? b=some o)(hg:∃ o,g.get? d=some o):J0 g z TI TO i1 i2 l1 l2 xs ys k:=by
 obtain⟨f0,f1,hz,hf,c,a,b,ho⟩:=S;simp only[yA,YW,or_false,not_or] at hd;obtain⟨d1,d2,d3,d4,d5,d6,d7⟩:=hd;refine⟨f0,f1,e _ _ (Ne.symm d1) hz,hf.imp id ?_,c.put (z:=z) (TO:=TO) fun b hb o=>e b o ?_,a,b,e _ _ (Ne.symm d3) ho⟩
 ·rintro⟨T,o,h1,h2⟩;by_cases hT:T=d
  ·subst hT;obtain⟨o',h3⟩:=hg;exact⟨T,o',h1,h3⟩
  ·exact⟨T,o,h1,e _ _ hT h2⟩
 ·rcases hb with rfl|rfl|rfl|rfl|rfl
  ·exact Ne.symm d2
  ·exact Ne.symm d4
  ·exact Ne.symm d5
  ·exact Ne.symm d6
  ·exact Ne.symm d7
def Wy {K:Type}[DecidableEq K]:List (K×Value)->List K->List Value->List (K×Value)
 |kvs,k::ks,y::ys=>Wy (stored kvs k y) ks ys
 |kvs,_,_=>kvs
theorem XI {K:Type}[DecidableEq K]{kvs:List (K×Value)}{k:K}{v:Value}:(stored kvs k v).length<=kvs.length+1:=by
 unfold stored;split
 ·simp
 ·simp
theorem Um {K:Type}[DecidableEq K]{knd:KeyKind prog w K}{d z TI TO i1 i2 l1 l2:Addr}{xs ys:Array Value}{h0:Heap}{R:Result->Shared->Prop}(D:ZipApart z TI TO i1 i2 l1 l2)(hd:d∉[z,TI,TO,i1,i2,l1,l2])(hh:A.handled=none)(hz:xs.size=ys.size):∀ (ks:List K) (i:Nat) (kvs:List (K×Value)) (s:Shared),
  ks.length+i=xs.size->(∀ j k,ks[j]?=some k->∃ x,xs[i+j]?=some x/\knd.is k x=true)->kvs.length+ks.length<=sizeLine->s.heap.DictOf knd d kvs->J0 s.heap z TI TO i1 i2 l1 l2 xs ys i->(∀ b o,b≠d->b≠z->b≠TO->b≠i1->b≠i2->h0.get? b=some o->s.heap.get? b=some o)->
  (∀ g tk,g.DictOf knd d (Wy kvs ks (ys.toList.drop i))->(∀ b o,b≠d->b≠z->b≠TO->b≠i1->b≠i2->h0.get? b=some o->g.get? b=some o)->R (.ok (.ret .none)) {s with heap:=g,toks:=tk})->
  codeAny (model prog w) A (.builtin "dict.update.loop" ⟨[.ref d,.ref z,rawInt i,.none],[]⟩) R s
 |[],i,kvs,s,hl,hk,hs,dd,S,fr,fin=>by
  refine codeAny_builtin ZK.entry_loop ?_;rw[Around.under_plainId ZK.plain_loop _];have hi:i=xs.size:=by simpa using hl
  refine ya (J0.fin (A:=A.in1) hh D S (.inl (Array.getElem?_eq_none_iff.mpr (by omega))) fun g fr2=>?_);refine ya (m:=Builtin.Dict.addKeywords d []) (yh (yh ?_));have e1:d≠z:=fun e=>hd (by simp[e]);have e2:d≠TO:=fun e=>hd (by simp[e]);have e3:d≠i1:=fun e=>hd (by simp[e]);have e4:d≠i2:=fun e=>hd (by simp[e]);exact fin g _ (dd.at fun o e=>fr2 d o e1 e2 e3 e4 e) fun b o a1 a2 a3 a4 a5 e=>fr2 b o a2 a3 a4 a5 (fr b o a1 a2 a3 a4 a5 e)
 |k::ks,i,kvs,s,hl,hk,hs,dd,S,fr,fin=>by
  refine codeAny_builtin ZK.entry_loop ?_;rw[Around.under_plainId ZK.plain_loop _];obtain⟨x,hx,kx⟩:=hk 0 k rfl;rw[Nat.add_zero] at hx;have hi:i<xs.size:=by rw[ym] at hl;omega
  have hy:ys[i]?=some ys[i]:=Array.getElem?_eq_getElem (by omega);have e1:d≠z:=fun e=>hd (by simp[e]);have e2:d≠TO:=fun e=>hd (by simp[e]);have e3:d≠i1:=fun e=>hd (by simp[e]);have e4:d≠i2:=fun e=>hd (by simp[e]);refine ya (J0.next (A:=A.in1) D S hx hy fun g S1 n1 sz fr1=>?_);refine ya (Yw (ya (wpAny_tryCatch (XE n1 ?_))));refine Yw (wpAny_dictSet_pairs kx (dd.at fun o e=>fr1 d o e1 e2 e3 e4 e) (fun g2 d2 s2=>?_) (by rw[ym] at hs;omega));refine yh ⟨plainId_quiet ZK.plain_loop _,?_⟩;have ei:rawInt ((i:Int)+1)=rawInt ((i+1:Nat):Int):=by simp
  show codeAny _ _ (.builtin "dict.update.loop" ⟨[.ref d,.ref z,rawInt ((i:Int)+1),.none],[]⟩) _ _;rw[ei];refine Um D hd hh hz ks (i+1) (stored kvs k ys[i]) _ (by rw[ym] at hl;omega) (fun j k' e=>?_) ?_ d2 (S1.put hd (fun b o hb e=>s2.extBut _ _ hb e) (let ⟨o,_,_,e,_⟩:=d2;⟨o,e⟩)) (fun b o a1 a2 a3 a4 a5 e=>s2.extBut _ _ a1 (fr1 b o a2 a3 a4 a5 (fr b o a1 a2 a3 a4 a5 e))) fun g3 tk3 d3 f3=>?_
  ·obtain⟨x',h1,h2⟩:=hk (j+1) k' (by simpa using e);exact⟨x',by rw[show i+1+j=i+(j+1) by omega];exact h1,h2⟩
  ·have:=XI (kvs:=kvs) (k:=k) (v:=ys[i]);rw[ym] at hs;omega
  ·refine fin g3 tk3 ?_ f3;rw[List.drop_eq_getElem_cons (by rw[Array.length_toList];omega)];exact d3
end
section
variable {prog:Program}{w:World}{A:Around}{E:Value->Shared->Prop}{s:Shared}
theorem uI {K:Type}[DecidableEq K]:∀ {ks:List K} {us:List Value} {kvs:List (K×Value)},ks.length=us.length->(kvs.map (·.1)++ks).Nodup->Wy kvs ks us=kvs++ks.zip us
 |[],us,kvs,h,_=>by simp[Wy]
 |k::ks,[],kvs,h,_=>by simp at h
 |k::ks,u::us,kvs,h,n=>by
  have hk:(kvs.any fun kv=>decide (kv.1=k))=false:=by
   rw[List.any_eq_false];intro p hp;have:p.1≠k:=fun e=>by
    have:=(Yd.mp n).2.2 p.1 (yo.mpr ⟨p,hp,rfl⟩) k (by simp);exact this e
   simpa using this
  have e:stored kvs k u=kvs++[(k,u)]:=by unfold stored;rw[yb (by rw[hk];exact yE)]
  rw[Wy,e,uI (by simpa using h) (by simpa using n)];simp
theorem UW {K:Type}[DecidableEq K]{knd:KeyKind prog w K}{z TI TO i1 i2 l1 l2:Addr}{xs ys:Array Value}{ks:List K}{Q:Value->Shared->Prop}(D:ZipApart z TI TO i1 i2 l1 l2)(hh:A.handled=none)(hz:xs.size=ys.size)(hl:ks.length=xs.size)(hn:ks.Nodup)(hs:ks.length<=sizeLine)(hk:∀ (j:Nat) (k:K),ks[j]?=some k->∃ x,xs[j]?=some x/\knd.is k x=true)
  (S:J0 s.heap z TI TO i1 i2 l1 l2 xs ys 0)
  (fin:∀ g tk,g.DictOf knd s.heap.objs.size (ks.zip ys.toList)->(∀ b o,b≠z->b≠TO->b≠i1->b≠i2->s.heap.get? b=some o->g.get? b=some o)->Q (.ref s.heap.objs.size) {s with heap:=g,toks:=tk}) :
  wpAny (model prog w) A (call (.type "dict") [.ref z]) Q E s:=by
 have hzz:z<s.heap.objs.size:=by obtain⟨_,_,h,_⟩:=S;exact yi h
 have hd:s.heap.objs.size∉[z,TI,TO,i1,i2,l1,l2]:=by
  obtain⟨_,_,h,_,c,_,_,ho⟩:=S;have a1:=yi h;have a2:=yi c.pr;have a3:=yi ho;obtain⟨_,b1,_⟩:=c.a1;obtain⟨_,b2,_⟩:=c.a2;obtain⟨_,b3,_⟩:=c.b1;obtain⟨_,b4,_⟩:=c.b2;have a4:=yi b1;have a5:=yi b2;have a6:=yi b3;have a7:=yi b4;intro e;simp only[yA,YW,or_false] at e;rcases e with e|e|e|e|e|e|e
  all_goals first|exact qH a1 e|exact qH a2 e|exact qH a3 e|exact qH a4 e|exact qH a5 e|exact qH a6 e|exact qH a7 e
 refine callType_codes (Q₁:=fun obj s₁=>obj=.ref s.heap.objs.size/\s₁={s with heap:=s.heap.push {cls:=.type "dict", data:=.dict #[]}}) F.kt_called_dict (F.kt_typeCall_dict_1 _) F.entry_dict_init (kt_code_dict_new _ ⟨rfl,rfl⟩) fun obj s₁ h₁=>?_;obtain⟨rfl,rfl⟩:=h₁;have hT:Shared.TypeIs {s with heap:=s.heap.push {cls:=.type "dict", data:=.dict #[]}} (.ref s.heap.objs.size) "dict" := ⟨_,yC _ rfl,rfl⟩
 refine⟨hT,F.args_dict_init_2 _ _,?_⟩;have S1:J0 (s.heap.push {cls:=.type "dict", data:=.dict #[]}) z TI TO i1 i2 l1 l2 xs ys 0:=S.put hd (fun b o _ e=>yk _ e) ⟨_,yC _ rfl⟩;obtain⟨f0,f1,hzz1,_⟩:=id S1;have tz:Shared.TypeIs {s with heap:=s.heap.push {cls:=.type "dict", data:=.dict #[]}} (.ref z) "zip" := ⟨_,hzz1,rfl⟩
 unfold Builtin.«dict.__init__»;refine ya (m:=Builtin.Dict.selfAndRest "__init__" _) ?_;unfold Builtin.Dict.selfAndRest;refine ya (m:=Builtin.Dict.notOrdered "__init__" _) ?_;unfold Builtin.Dict.notOrdered;rw[yc (by decide +kernel)];refine ya (wpAny_typeOf hT ?_);rw[yb (by decide)];refine yh ?_;refine ya (m:=Builtin.Dict.addrOf (.ref s.heap.objs.size)) (yh (yh ?_));show wpAny _ _ (Builtin.Dict.updateFrom "dict.__init__" s.heap.objs.size (.ref z) [] .none) _ _ _;unfold Builtin.Dict.updateFrom;refine ya (wpAny_typeOf tz ?_);rw[yc (by decide)];refine ya (xC (show A.in1.in1.handled=none from hh) hzz1 fun g tk kp=>?_);rw[yc (show(none:Option Value).isNone=true from rfl)];have S2:J0 g z TI TO i1 i2 l1 l2 xs ys 0:=S1.put hd (fun b o _ e=>kp b o e) ⟨_,kp _ _ (yC _ rfl)⟩;obtain⟨f0',f1',hzz2,_⟩:=id S2;refine ya (wpAny_rule (ya (ybF hzz2 (yh ⟨plainId_quiet ZK.plain_loop _,?_⟩))));have d0:Heap.DictOf knd g s.heap.objs.size []:=Heap.DictOf.at (Heap.DictOf.new ..) fun o e=>kp _ o e;refine Um (A:=A.in1) (knd:=knd) (h0:=s.heap) D hd hh hz ks 0 [] _ (by simpa using hl) (fun j k e=>by rw[QE];exact hk j k e) (by simpa using hs) d0 S2 (fun b o _ _ _ _ _ e=>kp _ _ (yk _ e)) fun g3 tk3 d3 f3=>?_;refine⟨rfl,fin g3 tk3 ?_ fun b o a1 a2 a3 a4 e=>f3 b o (yR (yi e)) a1 a2 a3 a4 e⟩;rw[List.drop_zero,uI (by rw[hl,hz,Array.length_toList]) (by simpa using hn),Qw] at d3;exact d3
end
end PySem
namespace L2
open PySem PySem.Spec PyProof.Rows
section
variable {P:Program}{w:World}{H:Hp}{h:Heap}{a:Addr}{o:HO}
theorem Qh.there (x:Qh P w H h a o):∃ ob,h.get? a=some ob:=by
 cases o with
 |lst xs=>obtain⟨_,_,_,_,e⟩:=x;exact⟨_,e⟩
 |tup xs=>obtain⟨_,_,_,ob,e,_⟩:=x;exact⟨ob,e⟩
 |dK kvs=>obtain⟨_,_,_,_,o,_,_,e,_⟩:=x;exact⟨o,e⟩
 |dT kvs=>obtain⟨_,_,_,_,o,_,_,e,_⟩:=x;exact⟨o,e⟩
 |set S n=>obtain⟨o,_,_,_,e,_⟩:=x;exact⟨o,e⟩
 |ins C dx fs=>obtain⟨_,_,_,e,_⟩:=x;exact⟨_,e⟩
 |own y=>obtain⟨u,e⟩:=x;exact⟨u,e⟩
 |xd fs=>obtain⟨_,⟨u,_,_,e,_⟩,_⟩:=x;exact⟨u,e⟩
 |rng lo hi=>obtain⟨_,_,_,e⟩:=x;exact⟨_,e⟩
 |frz ob u=>obtain⟨e,_⟩:=x;exact⟨_,e⟩
 |tbl ps=>
  have e:h.get? a=some _:=x;exact⟨_,e⟩
 |met f y=>
  have e:h.get? a=some _:=x;exact⟨_,e⟩
 |ext φ=>obtain⟨_,⟨u,e⟩,_⟩:=x;exact⟨u,e⟩
end
section
variable {P:Program}{w:World}{outer:List Env}{H H':Hp}{s s':Shared}{ea:Addr}{cls:Value}{B:Heap}
end
section
variable {X:Cx}{pins:List (Addr×Obj)}{σ:St}{H:Hp}{s:Shared}
end
section
variable {P:Program}{w:World}{K:W.Frag}{mg:Str->Option Value}{base:Heap}{N:List Str}{qual:Str}{scope:Scope}{f:Addr}{cd:Value}{A:Around}{outer:List Env}{s:Shared}{H:Hp}{E:XK}{CX:CXT}
end
section
variable {X:Cx}
end
section
variable {X:Cx}
end
def ykh (a:Addr)(cls:Value):HO:=.ext fun h=>∃ o vs,h.get? a=some o/\o.cls=cls/\o.data=.fields vs
section
variable {X:Cx}{pins:List (Addr×Obj)}{σ:St}{H:Hp}{s:Shared}
end
section
variable {X:Cx}{pins:List (Addr×Obj)}{σ:St}{H:Hp}{s:Shared}
end
section
variable {X:Cx}
end
open PySem.Calls PySem.W PySem.Builtin PySem.Builtin.ObjectAttr PySem.Builtin.Getset_descriptor
section
variable {prog:Program}{w:World}{A:Around}{E:Value->Shared->Prop}{K:W.Frag}{x C:Addr}{h:Heap}{g:Array GenState}{d:Drawn}{t:Nat}{os:OsState}
end
section
variable {X:Cx}
theorem ya9:OpR X (binaryOp .Mult) (rI IntMulOk fun i j=>.int (i*j)):=opI fun _ _ _ _ _ _ _ hc q=>mul_int q hc
end
structure Pyl (X:Cx):Prop where
 tree:X.prog.given.tree=none
 fr:∃ env l,X.stack=env::l/\env.scope.isGenerator=false/\env.scope.isCoroutine=false/\env.builtins=builtinsNs/\env.globals=mainGlobals
 dp:X.A.depth+Builtin.pylongFrames<recursionLimit
theorem Pyl.room {X:Cx}(p:Pyl X){pins:List (Addr×Obj)}{σ:St}{H:Hp}{s:Shared}(I:Inv X pins σ H s):PylongRoom (model X.prog X.w) X.A s:=by
 obtain⟨env,l,h1,h2,h3,h4,h5⟩:=p.fr;exact PylongRoom.of I.nolimit p.dp (SeerAt.of (I.ok.mod.seer.keeps I.bk) p.tree (I.ok.frames.trans (congrArg some h1)) h2 h3 h4 h5)
section
variable {X:Cx}
theorem yex (p:Pyl X):OpR X (binaryOp .FloorDiv) (rI (fun _ j=>j≠0) fun i j=>.int (i.fdiv j)):=by
 intro pins s σ H x y v u Q I rx ry h;obtain⟨i,j,rfl,rfl,hc,q⟩:=h;obtain⟨t,rfl⟩:=rx;obtain⟨t',rfl⟩:=ry;exact floordiv_int hc ⟨.int (i.fdiv j),H,I.tok _,⟨_,rfl⟩,q⟩ (Or.inr (p.room I))
end
def yZ (K:W.Frag)(mg:Str->Option Value)(x:Str)(st:Stmt)(ps:List Str):Prop:=∃ f fd,Fun K x x st f fd/\mg x=some (.ref f)/\JT K fd ps []
def OkF (P:Program)(w:World)(K:W.Frag)(mg:Str->Option Value)(base:Heap)(CX:CXT)(k:Nat)(x:Str)(ps:List Str)(sp:Sp):Prop:=
 ∃ f fd,FnOk P w K mg base CX k f fd ps sp/\mg x=some (.ref f)/\W.keepIn K (.ref f)=true/\JT K fd ps []
theorem YH {K:W.Frag}{h:Heap}{mg:Str->Option Value}(X:K.In h)(G:h.Ns mainGlobals mg){x:Str}{st:Stmt}(ps:List Str){f:Addr}{oc:Value}{od an:Option Addr}{osl:Array (Option Value)}{kV doc pm cdv ct:Value}
  (a:W.nsIn K mainGlobals x=some (some (.ref f))) (l:K.lookup f=some ⟨oc,od,.func (W.fnOf x x (Q4 st) (YR st) (yj st) .none kV doc pm an cdv ct),osl⟩)
  (c:W.codeIn K cdv x=true) (k:W.keepIn K (.ref f)=true)
  (hb:∀ (kV doc pm:Value) (an:Option Addr) (cdv ct:Value) (us:List Value),us.length=ps.length->bindArgs (W.fnOf x x (Q4 st) (YR st) (yj st) .none kV doc pm an cdv ct) ⟨us,[]⟩=pure (ps.zip us)):yZ K mg x st ps:=
 have F:=UY (st:=st) l c k
 ⟨f,_,F,W.mg_of X G a,F.binds hb⟩
section
variable {P:Program}{w:World}{K:W.Frag}{mg:Str->Option Value}{base:Heap}
theorem yZ.ok {x:Str}{st:Stmt}{N ps:List Str}{k:Nat}{sp:Sp}(d:yZ K mg x st ps)(S:FnScope N ps (yj st))(len:∀ vs H Q E,sp vs H Q E->vs.length=ps.length)
  (hbody:∀ (f:Addr) (cdv:Value) (A:Around) (outer:List Env) (s:Shared) (H:Hp) (vs:List V) (Q:VK) (E:XK),Room k (A.deeper (envOfC x (yj st) s.heap.objs.size f cdv))->sp vs H Q E->
   ∃ t,PSs (kX CX0 P w K mg base N x (yj st) f cdv A outer s H E).nox (YR st) t/\t {nx:=fun _ H'=>Q .non H',rt:=Q} (start N vs) H):OkF P w K mg base CX0 (k+1) x ps sp:=by
 obtain⟨f,fd,F,m,b⟩:=d;exact⟨f,fd,F.ok S len fun cdv A outer s H vs Q E hr h=>hbody f cdv A outer s H vs Q E hr h,m,F.kp,b⟩
end
section
variable {X:Cx}{x:Str}{ps:List Str}{sp:Sp}{k:Nat}{p pos:Pos}{e:Expr}{es:List Expr}{t:TA}
theorem VJ (o:OkF X.prog X.w X.K X.mg X.base CX0 k x ps sp)(hr:Room k X.A)(hg:Gl X x)(ha:PA X (e::es) t)(hdb:(x==("__debug__" : Str))=false:=by decide)
  (he:starEach (e::es) X.env=(false,eval e X.env)::starEach es X.env:=by rfl) (hpl:(backTo pos (starEach es X.env)).any (·.1)=false:=by rfl):PE X (.Call (.Name x p) (e::es) [] pos) (ygR sp [] E0 t):=by
 obtain⟨f,fd,F,m,kp,b⟩:=o;exact ygb F hr hg m kp b .nil VO ha hdb he hpl
end
theorem kP {CX:CXT}{P:Program}{w:World}{K:W.Frag}{mg:Str->Option Value}{base:Heap}{N:List Str}{qual:Str}{scope:Scope}{f:Addr}{cd:Value}{A:Around}{outer:List Env}{s:Shared}{H:Hp}{E:XK}{k:Nat}
  (ht:P.given.tree=none) (hg:scope.isGenerator=false) (hc:scope.isCoroutine=false) (hr:Room k (A.deeper (envOfC qual scope s.heap.objs.size f cd))) (hk:32<=k) :
  Pyl (kX CX P w K mg base N qual scope f cd A outer s H E):=
 ⟨ht,⟨_,_,rfl,hg,hc,rfl,rfl⟩,by have:=hr.dp;show(A.deeper _).depth+100<_;omega⟩
theorem Pyl.nox {X:Cx}(p:Pyl X):Pyl X.nox:=⟨p.tree,p.fr,p.dp⟩
theorem yio {P:Program}{w:World}{K:W.Frag}{h:Heap}{mg:Str->Option Value}{n:Nat}{sp:Sp}(X:K.In h)(G:h.Ns mainGlobals mg){x y:Str}{st:Stmt}{fa f:Addr}{oc:Value}{od an:Option Addr}{osl:Array (Option Value)}{kV doc pm cdv ct:Value}(hfa:mg x=some (.ref fa))
  (a:W.nsIn K mainGlobals x=some (some (.ref f))) (l:K.lookup f=some ⟨oc,od,.func (W.fnOf x x (Q4 st) (YR st) (yj st) .none kV doc pm an cdv ct),osl⟩)
  (c:W.codeIn K cdv x=true) (k:W.keepIn K (.ref f)=true)
  (hb:∀ v:Value,bindArgs (W.fnOf x x (Q4 st) (YR st) (yj st) .none kV doc pm an cdv ct) ⟨[v],[]⟩=pure [(y,v)])
  (ok:∀ (fd:FuncData) (base:Heap),K.In base->base.Ns mainGlobals mg->Fun K x x st fa fd->FnOk P w K mg base CX0 n fa fd [y] sp) :
  ∃ fd:FuncData,(∀ (s:Shared) (u:Value),BindsTo s fd ⟨[u],[]⟩ [(y,u)])/\∀ base:Heap,K.In base->base.Ns mainGlobals mg->FnOk P w K mg base CX0 n fa fd [y] sp:=by
 have e:=hfa.symm.trans (W.mg_of X G a);cases e;exact⟨_,fun s u=>.of_eq (hb u),fun base kb nb=>ok _ base kb nb (UY (st:=st) l c k)⟩
def Q6:List (Str×NameKind)->List (Str×Addr)->List (Str×Addr)->List (Str×Addr)
 |[],_,acc=>acc
 | (n,k)::r,cells,acc=>if k==.free then Q6 r cells ((n,(cells.lookup n).getD 0)::acc) else Q6 r cells acc
theorem zI {cells:List (Str×Addr)}{x:Str}{c:Addr}:∀ {names:List (Str×NameKind)} {acc:List (Str×Addr)},(∀ y∈names,y.2=.free->(cells.lookup y.1).isSome=true)->(Q6 names cells acc).lookup x=some c->
  acc.lookup x=some c∨cells.lookup x=some c
 |[],_,_,h=>.inl h
 | (n,k)::r,acc,hf,h=>by
  have hr:∀ y∈r,y.2=.free->(cells.lookup y.1).isSome=true:=fun y hy=>hf y (yf _ hy);unfold Q6 at h;by_cases hk:(k==NameKind.free)=true
  ·rw[yc hk] at h;rcases zI hr h with q|q
   ·by_cases hx:(x==n)=true
    ·rw[Yb,hx] at q;have e:x=n:=beq_iff_eq.mp hx;subst e;have z:=hf (x,k) (by simp) (beq_iff_eq.mp hk);obtain⟨a,ha⟩:=je.mp z;have ha':cells.lookup x=some a:=ha;rw[ha'] at q
     right
     rw[ha'];exact q
    ·rw[Yb,Qn.mpr hx] at q;exact .inl q
   ·exact .inr q
  ·rw[yb hk] at h;exact zI hr h
theorem vc {cells:List (Str×Addr)}{x:Str}:∀ {names:List (Str×NameKind)} {acc:List (Str×Addr)},(∃ c,acc.lookup x=some c)->∃ c,(Q6 names cells acc).lookup x=some c
 |[],_,h=>h
 | (n,k)::r,acc,⟨c,h⟩=>by
  unfold Q6;by_cases hk:(k==NameKind.free)=true
  ·rw[yc hk];refine vc ?_;by_cases hx:(x==n)=true
   ·exact⟨_,by rw[Yb,hx]⟩
   ·exact⟨c,by rw[Yb,Qn.mpr hx];exact h⟩
  ·rw[yb hk];exact vc ⟨c,h⟩
theorem zS {cells:List (Str×Addr)}{x:Str}:∀ {names:List (Str×NameKind)} {acc:List (Str×Addr)},(x,NameKind.free)∈names->∃ c,(Q6 names cells acc).lookup x=some c
 | (n,k)::r,acc,h=>by
  unfold Q6;rcases yA.mp h with e|h
  ·cases e;rw[yc (by decide)];exact vc ⟨_,by rw[Yb,beq_self_eq_true]⟩
  ·by_cases hk:(k==NameKind.free)=true
   ·rw[yc hk];exact zS h
   ·rw[yb hk];exact zS h
theorem zQ {env:Env}:∀ (names:List (Str×NameKind)) (acc:List (Str×Addr)),(∀ y∈names,y.2=.free->(env.cells.lookup y.1).isSome=true)->
  (forIn names acc fun (y:Str×NameKind) (r:List (Str×Addr))=>if (y.2==NameKind.free)=true then (do let a ←cellOf env y.1;pure (ForInStep.yield ((y.1,a)::r))) else (pure (ForInStep.yield r):Sem (ForInStep (List (Str×Addr)))))=pure (Q6 names env.cells acc)
 |[],acc,_=>rfl
 | (n,k)::r,acc,hf=>by
  have hr:∀ y∈r,y.2=.free->(env.cells.lookup y.1).isSome=true:=fun y hy=>hf y (yf _ hy);rw[ju];unfold Q6;by_cases hk:(k==NameKind.free)=true
  ·obtain⟨a,ha⟩:=je.mp (hf (n,k) (by simp) (beq_iff_eq.mp hk));have ha':env.cells.lookup n=some a:=ha;rw[yc hk];dsimp only;rw[yc hk,ha'];have e:cellOf env n=pure a:=by unfold cellOf;rw[ha']
   rw[e];exact zQ r _ hr
  ·rw[yb hk,yb hk];exact zQ r _ hr
theorem vp {sc:Scope}{env:Env}(hf:∀ y∈sc.names,y.2=.free->(env.cells.lookup y.1).isSome=true):closureFor sc env=pure (Q6 sc.names env.cells []):=by
 unfold closureFor;have h:=zQ (env:=env) sc.names [] hf;dsimp only;have e:=congrArg (fun t:Sem (List (Str×Addr))=>t >>= fun r=>pure r) h;exact e
structure CArg where
 C:Addr
 s₀:Shared
 H₀:Hp
 fp:List Addr
def Cx.comp (X:Cx)(sc:Scope)(N:List Str)(c:CArg):Cx:=
 {X with N:=N,s₀:=c.s₀,H₀:=c.H₀,env:=compEnvC sc (Q6 sc.names X.env.cells []) c.C X.env,outer:=X.stack,stack:=X.stack,ex:=c.fp,fn:=fun _=>false,pn:=[],xe:=fun _ _=>False}
structure CompOk (SX sc:Scope)(XN N:List Str)(nt:Nat)(caps:List Nat):Prop where
 kind:sc.kind=.function
 nocell:∀ y∈sc.names,y.2≠.cell
 loc:∀ y∈sc.names,y.2=.local->sc.names.lookup y.1=some .local
 free:∀ y∈sc.names,y.2=.free->SX.names.lookup y.1=some .cell∨SX.names.lookup y.1=some .free
 len:N.length=nt+caps.length
 cap:((List.range caps.length).all fun j=>match N[nt+j]?,XN[caps.getD j 0]? with
  |some x,some y=>x==y&&sc.names.lookup x==some .free
  |_,_=>false)=true
theorem zJ {names:List (Str×NameKind)}{x:Str}{k:NameKind}(h:names.lookup x=some k):(x,k)∈names:=PySem.mem_of_lookup h
theorem JN {env:Env}:∀ {names:List (Str×NameKind)} {x:Str} {k:NameKind},
  (names.map fun (n,k)=>if (k==NameKind.free&&env.scope.kind==.function&&env.kindOf n==some .cell)=true then (n,NameKind.cell) else (n,k)).lookup x=some k->names.lookup x=some k∨(k=.cell/\names.lookup x=some .free)
 |[],_,_,h=>by simp at h
 | (n,k0)::r,x,k,h=>by
  rw[yn] at h;by_cases hx:(x==n)=true
  ·by_cases hc:(k0==NameKind.free&&env.scope.kind==.function&&env.kindOf n==some .cell)=true
   ·dsimp only at h;rw[yc hc,Yb,hx] at h;cases h
    right
    refine⟨rfl,?_⟩;rw[Yb,hx];simp only[Yg,beq_iff_eq] at hc;rw[hc.1.1]
   ·dsimp only at h;rw[yb hc,Yb,hx] at h
    left
    rw[Yb,hx];exact h
  ·have hx':=Qn.mpr hx;have e:∀ q:Str×NameKind,q.1=n->List.lookup x (q::(r.map fun (n,k)=>if (k==NameKind.free&&env.scope.kind==.function&&env.kindOf n==some .cell)=true then (n,NameKind.cell) else (n,k)))=List.lookup x (r.map fun (n,k)=>if (k==NameKind.free&&env.scope.kind==.function&&env.kindOf n==some .cell)=true then (n,NameKind.cell) else (n,k)):=by
    intro q hq;obtain⟨a,b⟩:=q;dsimp only at hq;subst hq;rw[Yb,hx']
   rw[e _ (by dsimp only;split <;> rfl)] at h;rcases JN h with z|z
   ·left;rw[Yb,hx'];exact z
   ·right;refine⟨z.1,?_⟩;rw[Yb,hx'];exact z.2
theorem zW {env:Env}:∀ {names:List (Str×NameKind)} {x:Str},names.lookup x=some .free->
  (names.map fun (n,k)=>if (k==NameKind.free&&env.scope.kind==.function&&env.kindOf n==some .cell)=true then (n,NameKind.cell) else (n,k)).lookup x=some .cell ∨
  (names.map fun (n,k)=>if (k==NameKind.free&&env.scope.kind==.function&&env.kindOf n==some .cell)=true then (n,NameKind.cell) else (n,k)).lookup x=some .free
 |[],_,h=>by simp at h
 | (n,k0)::r,x,h=>by
  rw[yn];by_cases hx:(x==n)=true
  ·rw[Yb,hx] at h;cases h;dsimp only;by_cases hc:(NameKind.free==NameKind.free&&env.scope.kind==.function&&env.kindOf n==some .cell)=true
   ·left;rw[yc hc,Yb,hx]
   ·right;rw[yb hc,Yb,hx]
  ·have hx':=Qn.mpr hx;rw[Yb,hx'] at h;dsimp only;split
   ·rw[Yb,hx'];exact zW h
   ·rw[Yb,hx'];exact zW h
theorem ybP {prog:Program}{w:World}{A:Around}{R:Result->Shared->Prop}{s:Shared}{elt target iter:Expr}{ifs:List Expr}{scope:Scope}{pos:Pos}{it acc:Value}{env:Env}(J:Nat->Shared->Prop)
  (turn:∀ n s,J n s->wpAny (model prog w) A (pyNext it) (fun r s₁=>match r with
   |none=>R (.ok .next) s₁
   |some v=>wpAny (model prog w) A (letOwnedTupleGo target it v) (fun _ s1'=>wpAny (model prog w) A (assign target env v) (fun _ s₂=>
     wpAny (model prog w) A (forIn ifs true fun c r=>if r=true then do let ok ←isTrue c env (eval c env);pure (ForInStep.yield ok) else pure (ForInStep.yield r)) (fun ok s₃=>
      if ok=true then wpAny (model prog w) A (eval elt env) (fun x s₄=>wpAny (model prog w) A (call (.builtin "list.append") [acc,x]) (fun _ s₅=>∃ m,m<n/\J m s₅) (fun _ _=>False) s₄) (fun _ _=>False) s₃
      else ∃ m,m<n/\J m s₃) (fun _ _=>False) s₂) (fun _ _=>False) s1') (fun _ _=>False) s₁) (fun _ _=>False) s)
  (n:Nat) (h:J n s):codeAny (model prog w) A (.compLoop (.ListComp elt [⟨target,iter,ifs,0⟩] scope pos) 0 it acc env) R s:=by
 refine codeAny_loop rfl J (fun n s hJ=>?_) n h;show wpAny _ A ((compTurn (.ListComp elt [⟨target,iter,ifs,0⟩] scope pos) 0 it acc env).onRaise (fun x=>do noteFrame x env;theTreesLotGoes x)) _ _ s;refine wpAny_noted ?_;rw[compTurn_list];refine ya (wpAny_standAt (ya (YJ (turn n s hJ) (fun r s₁ h₁=>?_) fun _ _ z=>z.elim)));cases r with
 |none=>exact yh h₁
 |some v=>
  refine ya (YJ h₁ (fun _ s1' h1'=>?_) fun _ _ z=>z.elim);refine ya (YJ h1' (fun _ s₂ h₂=>?_) fun _ _ z=>z.elim);refine ya (YJ h₂ (fun ok s₃ h₃=>?_) fun _ _ z=>z.elim);cases ok with
  |false=>exact yh ⟨rfl,h₃⟩
  |true=>
   refine ya (ya (YJ h₃ (fun x s₄ h₄=>?_) fun _ _ z=>z.elim));refine ya (YJ h₄ (fun _ s₅ h₅=>?_) fun _ _ z=>z.elim);exact yh (yh ⟨rfl,h₅⟩)
section
variable {X:Cx}{pins:List (Addr×Obj)}{σ:St}{H:Hp}{s:Shared}{sc:Scope}{N XN:List Str}{nt:Nat}{caps:List Nat}{SX:Scope}
def K5 (nt:Nat)(caps:List Nat)(σ:St):St:=List.replicate nt none++caps.map fun i=>σ.getD i none
theorem CompOk.hf (S:CompOk SX sc XN N nt caps)(I:Inv X pins σ H s)(hX:X.env.scope=SX):∀ y∈sc.names,y.2=.free->(X.env.cells.lookup y.1).isSome=true:=fun y hy hk=>by
 have q:=S.free y hy hk;rw[←hX] at q;obtain⟨c,e⟩:=I.ok.has y.1 q;rw[e];rfl
theorem Inv.enter (S:CompOk SX sc XN N nt caps)(hX:X.env.scope=SX)(hN:X.N=XN)(I:Inv X pins σ H s){fp:List Addr}(hf:∀ b∈fp,VW X pins H b)(hlt:∀ b∈fp,b<s.heap.objs.size){h':Heap}{t':Nat}{m':Str->Option Value}
  (hn:h'.Ns s.heap.objs.size m') (hk:∀ b o,s.heap.get? b=some o->h'.get? b=some o):Inv (X.comp sc N ⟨s.heap.objs.size,s,H,fp⟩) pins (K5 nt caps σ) H {s with heap:=h',toks:=t'}:=by
 have hfr:=S.hf I hX;have sub:∀ x c,(Q6 sc.names X.env.cells []).lookup x=some c->X.env.cells.lookup x=some c:=fun x c e=>by
  rcases zI hfr e with q|q
  ·cases q
  ·exact q
 have frs_lt:∀ b∈frs X.stack,b<s.heap.objs.size:=fun b hb=>by
  obtain⟨_,o,e,_⟩:=I.stack.mem hb;exact yi e
 have cells_lt:∀ x c,X.env.cells.lookup x=some c->c<s.heap.objs.size:=fun x c e=>by
  obtain⟨v,z⟩:=I.cell x c e;exact z.lt
 have offS:∀ b,b≠X.env.locals->b∉X.fs->b∉frs X.stack:=fun b h1 h2 z=>by
  rcases yA.mp (I.stkSub b z) with q|q
  ·exact h1 q
  ·exact h2 q
 have hex:∀ x,((relabel sc X.env).names.lookup x=some .cell∨(relabel sc X.env).names.lookup x=some .free)->∃ c,(Q6 sc.names X.env.cells []).lookup x=some c:=fun x hx=>by
  have fr:sc.names.lookup x=some .free:=by
   rcases hx with hx|hx
   ·rcases JN (names:=sc.names) hx with z|z
    ·exact absurd rfl (S.nocell _ (zJ z))
    ·exact z.2
   ·rcases JN (names:=sc.names) hx with z|z
    ·exact z
    ·cases z.1
  exact zS (zJ fr)
 refine⟨⟨I.ok.mod,S.kind,I.ok.glob,I.ok.blt,yg _,fun x y c e1 e2=>I.ok.inj x y c (sub x c e1) (sub y c e2),hex,fun x c e=>(by cases e),I.ok.hd,I.ok.frames,.inl rfl,fun b hb=>?_,fun b o e=>I.bs b o e,yQ I.ok.bsz I.sz,fun b o e hb=>?_,fun b hb=>?_,I.stack,I.stkFree⟩,
  rfl,I.bare,Un.kept hk,⟨m',hn,fun i x v e1 e2 e3=>?_⟩,fun x c e=>?_,I.hok.fresh (yg _),fun x c e=>I.freeC x c (sub x c e),fun p hp=>?_,I.hok.kept hk,?_⟩
 ·obtain⟨f0,f1,f2,f3,f4,f5⟩:=hf b hb;refine⟨?_,fun x c e=>f4 x c (sub x c e)⟩;exact yR (hlt b hb)
 ·obtain⟨f0,f1,f2,f3,f4,f5⟩:=hf b hb;rcases f3 with z|z
  ·exact I.ok.noex b o e z
  ·exact absurd (yH (yi e) (yQ I.ok.bsz z)) (Qp _)
 ·obtain⟨f0,f1,f2,f3,f4,f5⟩:=hf b hb;exact offS b f1 f2
 ·-- a name that is taken over
  unfold K5 at e2;by_cases hi:i<nt
  ·rw[al_getElem?_append_left (by simpa using hi),al_getElem?_replicate] at e2;split at e2 <;> cases e2
  ·rw[al_getElem?_append_right (by simpa using hi),qX,al_getElem?_map] at e2;obtain⟨j,rfl⟩:∃ j,i=nt+j:=⟨i - nt,by omega⟩
   rw[QT] at e2;cases ec:caps[j]? with
   |none=>rw[ec] at e2;cases e2
   |some ci=>
    rw[ec] at e2;have e2':σ.getD ci none=some v:=by simpa using e2
    have hj:j<caps.length:=(al_getElem?_eq_some_iff.mp ec).1;have q:=QA.mp S.cap j (YE.mpr hj);have ed:caps.getD j 0=ci:=by rw[al_getD_eq_getElem?_getD,ec];rfl
    have e1':N[nt+j]?=some x:=e1;rw[e1',ed] at q;cases ex:XN[ci]? with
    |none=>rw[ex] at q;cases q
    |some y=>
     rw[ex] at q;simp only[Yg,beq_iff_eq] at q;obtain⟨rfl,qf⟩:=q;have eσ:σ[ci]?=some (some v):=by
      rw[al_getD_eq_getElem?_getD] at e2';cases z:σ[ci]? with
      |none=>rw[z] at e2';cases e2'
      |some w'=>rw[z] at e2';exact congrArg some e2'
     obtain⟨m,hm,hl⟩:=I.loc;have vis:=S.free _ (zJ qf) rfl;rw[←hX] at vis;obtain⟨u,r,lk⟩:=hl ci x v (by rw[hN];exact ex) eσ (.inr vis);refine⟨u,r,.inr ⟨zW qf,?_⟩⟩;obtain⟨c,hc⟩:=zS (cells:=X.env.cells) (acc:=[]) (zJ qf);have hc':=sub x c hc;rcases lk with ⟨k,_⟩|⟨k,c2,ec2,z⟩
     ·exfalso;have k':X.env.scope.names.lookup x=some .local:=k;dsimp only at vis;rcases vis with v1|v1
      ·rw[k'] at v1;cases v1
      ·rw[k'] at v1;cases v1
     ·rw[hc'] at ec2;cases ec2;obtain⟨o,ho,hd⟩:=z;exact⟨c,hc,o,hk c o ho,hd⟩
 ·obtain⟨v,o,ho,hd⟩:=I.cell x c (sub x c e);exact⟨v,o,hk c o ho,hd⟩
 ·obtain⟨e,n,ne,nf,d⟩:=I.pin p (yN _ (show p∈pins from (yY.mp hp).elim (fun z=>absurd (show p∈([]:List (Addr×Obj)) from z) (by simp)) id));exact⟨hk _ _ e,n,yR (yi e),offS _ ne nf,d⟩
 ·unfold K5;rw[yy,qX,ye];exact S.len.symm
end
def yaQ (nt:Nat)(caps:List Nat)(wi:TI)(g:CArg->TG)(tc:CArg->TT)(te:CArg->TE):TE:=fun σ H Q=>wi σ H fun J H1=>∀ D,H1 D=none->∀ c:CArg,∃ W:Nat->Nat->St->List V->Hp->Prop,
 (∃ m,W 0 m (K5 nt caps σ) [] (upd H1 D (.lst [])))/\∀ i m σ' ys H',W i m σ' ys H'->H' D=some (.lst ys)/\ys.length<sizeLine/\
  ((J.stop i H'/\Q (.ref D) H')∨(J.go i H'/\∀ x H2,J.yld i H' x H2->g c x σ' H2 fun σ3 H3=>tc c σ3 H3 fun b H4=>if b=true then te c σ3 H4 fun y H5=>∃ ys',H5 D=some (.lst ys')/\ys'.length<sizeLine/\∃ m',m'<m/\W (i+1) m' σ3 (ys'++[y]) (upd H5 D (.lst (ys'++[y])))
   else ∃ ys' m',m'<m/\W (i+1) m' σ3 ys' H4))
def yaK:CArg->TT:=fun _ _ H Q=>Q true H
section
variable {X:Cx}{tg iter elt:Expr}{ifs:List Expr}{sc SX:Scope}{N XN:List Str}{nt:Nat}{caps:List Nat}{wi:TI}{g:CArg->TG}{tc:CArg->TT}{te:CArg->TE}{pos:Pos}
def PTs (X:Cx)(ifs:List Expr)(t:TT):Prop:=∀ (pins:List (Addr×Obj)) (s:Shared) (σ:St) (H:Hp) (Q:Bool->Hp->Prop),Inv X pins σ H s->t σ H Q->
 wpAny (model X.prog X.w) X.A (forIn ifs true fun c r=>if r=true then do let ok ←isTrue c X.env (eval c X.env);pure (ForInStep.yield ok) else pure (ForInStep.yield r)) (TP X pins σ Q) X.xe s
theorem wg {c:CArg}:PTs X [] (yaK c):=fun pins s σ H Q I h=>wpAny_tests_nil ⟨H,I,h⟩
theorem yfW {c:Expr}{t:TT}(h:PT X c t):PTs X [c] t:=fun pins s σ H Q I hq=>wpAny_tests_one (h pins s σ H Q I hq)
theorem Kq {pins:List (Addr×Obj)}{σ:St}{H2:Hp}{s2:Shared}{it:Addr}{fp:List Addr}{tn:Nat->Heap->Prop}{J:It}{Q:VK}{RR:Value->Addr->Result->Shared->Prop}{E:Value->Shared->Prop}
  (S:CompOk SX sc XN N nt caps) (hX:X.env.scope=SX) (hN:X.N=XN) (hc:X.calm=true) (hg:∀ c,PG (X.comp sc N c) tg (g c)) (ht:∀ c,PTs (X.comp sc N c) ifs (tc c)) (he:∀ c,PE (X.comp sc N c) elt (te c))
  (I2:Inv X pins σ H2 s2) (T:Turn X.prog X.w X.K tg J fp it tn) (st2:tn 0 s2.heap) (f2:∀ b∈fp,VW X pins H2 b)
  (h:∀ D,H2 D=none->∀ c:CArg,∃ W:Nat->Nat->St->List V->Hp->Prop,
   (∃ m,W 0 m (K5 nt caps σ) [] (upd H2 D (.lst [])))/\∀ i m σ' ys H',W i m σ' ys H'->H' D=some (.lst ys)/\ys.length<sizeLine/\
   ((J.stop i H'/\Q (.ref D) H')∨(J.go i H'/\∀ x H2,J.yld i H' x H2->g c x σ' H2 fun σ3 H3=>tc c σ3 H3 fun b H4=>if b=true then te c σ3 H4 fun y H5=>∃ ys',H5 D=some (.lst ys')/\ys'.length<sizeLine/\∃ m',m'<m/\W (i+1) m' σ3 (ys'++[y]) (upd H5 D (.lst (ys'++[y])))
    else ∃ ys' m',m'<m/\W (i+1) m' σ3 ys' H4)))
  (hR:∀ D C s' m H',s'.heap.Ns C m->s2.heap.objs.size<C->Inv X pins σ H' s'->H' C=none->C≠X.env.locals->(∀ x c,X.env.cells.lookup x=some c->c≠C)->(∀ p∈X.pn++pins,p.1≠C)->X.s₀.heap.objs.size<=C->Q (.ref D) H'->RR (.ref D) C (.ok .next) s') :
  wpAny (model X.prog X.w) X.A (newList []) (fun acc s₃=>wpAny (model X.prog X.w) X.A (newFunctionEnv sc X.env.globals (Q6 sc.names X.env.cells []) [] X.env.qual none .none (some X.env)) (fun cenv s₄=>
   codeAny (model X.prog X.w) X.A (.compStart (.ListComp elt [⟨tg,iter,ifs,0⟩] sc pos) 0 (.ref it) acc {cenv with scope:=relabel sc X.env}) (RR acc cenv.locals) s₄) E s₃) E s2:=by
 have lt2:∀ b∈fp,b<s2.heap.objs.size:=fun b hb=>by
  obtain⟨o,e,_⟩:=T.obj _ _ st2 b hb;exact yi e
 have hD0:H2 s2.heap.objs.size=none:=I2.hok.fresh (yg _);have I3:Inv X pins σ (upd H2 s2.heap.objs.size (.lst [])) {s2 with heap:=s2.heap.push {cls:=.type "list", dict:=none,data:=.seq ([]:List Value).toArray}}:=
  I2.laid (t':=s2.toks) (fun b u e=>yk _ e) (yg _) ⟨qo _,[],0,.nil,yC _ rfl⟩
 have f3:∀ b∈fp,VW X pins (upd H2 s2.heap.objs.size (.lst [])) b:=fun b hb=>⟨by rw[yO (yR (lt2 b hb))];exact(f2 b hb).1,(f2 b hb).2⟩
 refine wpAny_newObj_type (wpAny_newFunctionEnv S.nocell (by intro y hy;simp at hy) (fun h1 hn1 hs1=>?_) S.kind);dsimp only at hn1 hs1 ⊢;generalize hg3:({s2 with heap:=s2.heap.push {cls:=.type "list", dict:=none,data:=.seq ([]:List Value).toArray}}:Shared)=s3 at I3;have e3:s2.heap.push {cls:=.type "list", dict:=none,data:=.seq ([]:List Value).toArray}=s3.heap:=by rw[←hg3]
 rw[e3] at hn1 hs1 ⊢;have lt3:∀ b∈fp,b<s3.heap.objs.size:=fun b hb=>by
  rw[←e3,Heap.size_push];exact Nat.lt_succ_of_lt (lt2 b hb)
 have hC2:s2.heap.objs.size<s3.heap.objs.size:=by rw[←e3,Heap.size_push];exact Nat.lt_succ_self _
 have hk:∀ b o,s3.heap.get? b=some o->h1.get? b=some o:=fun b o e=>hs1.extBut b o (yR (yi e)) (yk _ e);have I4:=I3.enter S hX hN f3 lt3 (t':=s2.toks+([]:List (Str×Value)).length) hn1 hk;have fin:∀ {s':Shared} {σ':St} {H':Hp},Inv (X.comp sc N ⟨s3.heap.objs.size,s3,upd H2 s2.heap.objs.size (.lst []),fp⟩) pins σ' H' s'->Q (.ref s2.heap.objs.size) H'->RR (.ref s2.heap.objs.size) s3.heap.objs.size (.ok .next) s':=fun {s' σ' H'} I' q=>by
  obtain⟨m,hm,_⟩:=I'.loc;refine hR _ _ s' m H' hm hC2 (I3.call' (ch:=fp) I'.os I'.base I'.hok I'.bare fun b hb=>?_) I'.free (qH I3.lt) (fun x c e=>?_) (fun p hp=>?_) I3.sz q
  ·obtain⟨g0,g1,g2,g3,g4,g5⟩:=f3 b hb;exact⟨g3,g1,g4,g5⟩
  ·obtain⟨v,z⟩:=I3.cell x c e;exact yR z.lt
  ·exact yR (yi (I3.pin p hp).1)
 have subc:∀ x c,(Q6 sc.names X.env.cells []).lookup x=some c->X.env.cells.lookup x=some c:=fun x c e=>by
  rcases zI (S.hf I3 hX) e with q|q
  ·cases q
  ·exact q
 obtain⟨W,⟨m0,w0⟩,step⟩:=h _ hD0 ⟨s3.heap.objs.size,s3,upd H2 s2.heap.objs.size (.lst []),fp⟩;have stat:∀ {H':Hp},(∀ b∈fp,H' b=none)->∀ b∈fp,VW (X.comp sc N ⟨s3.heap.objs.size,s3,upd H2 s2.heap.objs.size (.lst []),fp⟩) pins H' b:=fun {H'} hn b hb=>by
  obtain⟨g0,g1,g2,g3,g4,g5⟩:=f3 b hb;refine⟨hn b hb,yR (lt3 b hb),fun z=>?_,.inl hb,fun x c e=>g4 x c (subc x c e),fun p hp=>g5 p (yN _ ((yY.mp hp).elim (fun z=>absurd (show p∈([]:List (Addr×Obj)) from z) (by simp)) id))⟩;rcases yA.mp (I3.stkSub b z) with q|q
  ·exact g1 q
  ·exact g2 q
 have st4:tn 0 h1:=T.keep _ _ _ st2 fun b hb o e=>hk b o (by rw[←e3];exact yk _ e);have fr4:∀ b∈fp,upd H2 s2.heap.objs.size (.lst []) b=none:=fun b hb=>(f3 b hb).1;have hs4:({s2 with heap:=h1,toks:=s2.toks+([]:List (Str×Value)).length}:Shared)={s3 with heap:=h1,toks:=s2.toks+([]:List (Str×Value)).length}:=by rw[←hg3]
 rw[hs4];have loop:codeAny (model X.prog X.w) X.A (.compLoop (.ListComp elt [⟨tg,iter,ifs,0⟩] sc pos) 0 (.ref it) (.ref s2.heap.objs.size) (compEnvC sc (Q6 sc.names X.env.cells []) s3.heap.objs.size X.env)) (RR (.ref s2.heap.objs.size) s3.heap.objs.size)
   {s3 with heap:=h1,toks:=s2.toks+([]:List (Str×Value)).length}:=by
  refine ybP (fun n s'=>∃ i σ' ys H',Inv (X.comp sc N ⟨s3.heap.objs.size,s3,upd H2 s2.heap.objs.size (.lst []),fp⟩) pins σ' H' s'/\tn i s'.heap/\(∀ b∈fp,H' b=none)/\W i n σ' ys H') ?_ m0 ⟨0,_,[],_,I4,st4,fr4,w0⟩;rintro n s' ⟨i,σ',ys,H',I',st',fr',w'⟩;obtain⟨hD,hz,alt⟩:=step i n σ' ys H' w';rcases alt with ⟨stop,qn⟩|⟨go,turn⟩
  ·refine thn (T.done (X.comp sc N ⟨s3.heap.objs.size,s3,upd H2 s2.heap.objs.size (.lst []),fp⟩) rfl rfl rfl hc i pins s' σ' H' _ I' (stat fr') st' stop) fun r s4 ⟨hr,J4⟩=>?_;subst hr;exact fin J4 qn
  ·refine thn (T.item (X.comp sc N ⟨s3.heap.objs.size,s3,upd H2 s2.heap.objs.size (.lst []),fp⟩) rfl rfl rfl hc i pins s' σ' H' _ I' (stat fr') st' go) fun r s4 ⟨u,hr,h4⟩=>?_;subst hr;refine thn h4 fun _ s5 ⟨x,H5,I5,r5,y5,st5,fr5⟩=>?_;have I5':=I5.pinned (stat fr5) (T.obj _ _ st5);refine thn (hg _ _ s5 σ' H5 x u _ I5' r5 (turn x H5 y5)) fun _ s6 ⟨σ6,H6,I6,q6⟩=>?_;refine thn (ht _ _ s6 σ6 H6 _ I6 q6) fun ok s7 ⟨H7,I7,q7⟩=>?_;have again:∀ {s8:Shared} {H8:Hp} {ys8:List V} {m8:Nat},Inv (X.comp sc N ⟨s3.heap.objs.size,s3,upd H2 s2.heap.objs.size (.lst []),fp⟩) (pins++KZ fp s5.heap) σ6 H8 s8->m8<n->W (i+1) m8 σ6 ys8 H8->
     ∃ m,m<n/\∃ i σ' ys H',Inv (X.comp sc N ⟨s3.heap.objs.size,s3,upd H2 s2.heap.objs.size (.lst []),fp⟩) pins σ' H' s8/\tn i s8.heap/\(∀ b∈fp,H' b=none)/\W i m σ' ys H':=fun {s8 H8 ys8 m8} I8 hm w8=>by
    refine⟨m8,hm,i+1,σ6,ys8,H8,I8.unpinned,T.keep _ _ _ st5 fun b hb o e=>(I8.pin (b,o) (yN _ (yN _ (zP hb e)))).1,fun b hb=>?_,w8⟩;obtain⟨o,e,d⟩:=T.obj _ _ st5 b hb;exact(I8.pin (b,o) (yN _ (yN _ (zP hb e)))).2.1
   cases ok with
   |false=>
    obtain⟨ys8,m8,hm,w8⟩:=q7;exact again I7 hm w8
   |true=>
    refine thn (he _ _ s7 σ6 H7 _ I7 q7) fun y s8 ⟨v,H8,I8,r8,ys8,e8,z8,m8,hm,w8⟩=>?_;refine thn (Vb (X:=X.comp sc N ⟨s3.heap.objs.size,s3,upd H2 s2.heap.objs.size (.lst []),fp⟩) _ s8 σ6 H8 (.ref s2.heap.objs.size) [v] _ [y] (fun _ H9=>H9=upd H8 s2.heap.objs.size (.lst (ys8++[v]))) I8 rfl (.cons r8 .nil) ⟨_,ys8,v,rfl,rfl,e8,z8,rfl⟩)
     fun _ s9 ⟨_,H9,I9,_,e9⟩=>?_
    subst e9;exact again I9 hm w8
 exact codeAny_compStart_list loop (T.self X.A 0 _ _ _ st4 loop)
theorem ybd (S:CompOk SX sc XN N nt caps)(hi:PI X tg iter wi)(hg:∀ c,PG (X.comp sc N c) tg (g c))(ht:∀ c,PTs (X.comp sc N c) ifs (tc c))(he:∀ c,PE (X.comp sc N c) elt (te c))(hc:X.calm=true:=by rfl)(hX:X.env.scope=SX:=by rfl)(hN:X.N=XN:=by rfl)
  (hs:∀ x,foldedSetIterable iter X.env x=pure x:=by intro _;rfl):PE X (.ListComp elt [⟨tg,iter,ifs,0⟩] sc pos) (yaQ nt caps wi g tc te):=by
 intro pins s σ H Q I h;rw[eval_ListComp];refine wpAny_comprehension_free (use:=none) rfl hs (vp (S.hf I hX)) S.kind S.loc (thn (hi pins s σ H _ I h) fun v s1 h1=>thn h1 fun itv s2 h2=>?_);obtain⟨it,fp,tn,J,H2,rfl,I2,T,st2,f2,h2⟩:=h2;refine Kq (RR:=fun acc C=>compPost (model X.prog X.w) X.A X.xe none (EP X pins σ Q) acc C) S hX hN hc hg ht he I2 T st2 f2 h2 fun D C s' m H' hm hC I' hf hL hcl hpn hs0 q=>?_;refine⟨m,hm,fun h'' hs''=>⟨.ref D,H',I'.turned (it:=C) (t':=s'.toks) (fun b o hb e=>hs''.extBut b o hb e) hf hL (.inr hs0) hcl hpn,rfl,q⟩⟩
theorem ybl {y:Str}{py:Pos}{i:Nat}{spos:Pos}(S:CompOk SX sc XN N nt caps)(hnd:X.N.Nodup)(hix:X.N[i]?=some y)(hy:Loc X.env.scope y)(hi:PI X tg iter wi)(hg:∀ c,PG (X.comp sc N c) tg (g c))(ht:∀ c,PTs (X.comp sc N c) ifs (tc c))(he:∀ c,PE (X.comp sc N c) elt (te c))
  (hsw:swapsWith (.ListComp elt [⟨tg,iter,ifs,0⟩] sc pos) (some (.Name y py)) spos.line X.env=pure true:=by rfl) (hc:X.calm=true:=by rfl) (hX:X.env.scope=SX:=by rfl) (hN:X.N=XN:=by rfl)
  (hs:∀ x,foldedSetIterable iter X.env x=pure x:=by intro _;rfl) (hf:X.fn y=true∨X.env.scope.names.lookup y=some .local:=by first|exact .inl rfl|exact .inr rfl):PS X (.Assign [.Name y py] (.ListComp elt [⟨tg,iter,ifs,0⟩] sc pos) spos) (yhV (yaQ nt caps wi g tc te) (ux i)):=by
 intro pins s σ H D I h;rw[exec_Assign_Name_used _ _ _ _ hsw];refine ya (wpAny_standAt (ya ?_));show wpAny _ X.A (do let _ ←comprehension (.ListComp elt [⟨tg,iter,ifs,0⟩] sc pos) sc X.env _ (newList []) false (eval iter X.env) (some (assign (.Name y py) X.env))) _ _ s;refine ya (YJ (wpAny_comprehension_free (use:=some (assign (.Name y py) X.env)) (Q:=fun _ s'=>SP X pins D .next s') rfl hs (vp (S.hf I hX)) S.kind S.loc (thn (hi pins s σ H _ I h) fun v s1 h1=>thn h1 fun itv s2 h2=>?_)) (fun _ s' hq=>yh (yh hq)) fun _ _ e=>e);obtain⟨it,fp,tn,J,H2,rfl,I2,T,st2,f2,h2⟩:=h2;refine Kq (Q:=fun x H1=>ux i x σ H1 D.nx) (RR:=fun acc C=>compPost (model X.prog X.w) X.A X.xe (some (assign (.Name y py) X.env)) (fun _ s'=>SP X pins D .next s') acc C) S hX hN hc hg ht he I2 T st2 f2 h2 fun D' C s' m H' hm hC I' hfC hL hcl hpn hs0 q=>?_;show wpAny _ X.A (assign (.Name y py) X.env (.ref D')) _ _ s';refine wpAny_assign_Name (uR (v:=.ref D') I' hnd hix hy rfl (fun s5 I5 hch=>?_) hf);obtain⟨a,sb,ha⟩:=hch;have hCa:C≠a:=by
  rcases ha with z|z
  ·rw[z];exact hL
  ·exact(hcl _ _ z).symm
 refine⟨m,hm.sameBut sb hCa,fun h'' hs''=>⟨σ.set i (some (.ref D')),H',I5.turned (it:=C) (t':=s5.toks) (fun b o hb e=>hs''.extBut b o hb e) hfC hL (.inr hs0) hcl hpn,q⟩⟩
end
section
variable {X:Cx}{pins:List (Addr×Obj)}{σ:St}{H:Hp}{s:Shared}
theorem Inv.drawn {fp:List Addr}{h':Heap}{t':Nat}{ds:List V}{us:List Value}{n:Nat}(I:Inv X pins σ H s)(hf:∀ b∈fp,VW X pins H b)(kp:∀ b o,b∉fp->s.heap.get? b=some o->h'.get? b=some o)
  (new:h'.get? s.heap.objs.size=some {cls:=.type "tuple", data:=.seq us.toArray n}) (r:YQ ds us) (hz:ds.length<=sizeLine):Inv X pins σ (upd H s.heap.objs.size (.tup ds)) {s with heap:=h',toks:=t'}:=by
 have hT:H s.heap.objs.size=none:=I.hok.fresh (yg _);have nf:∀ b u,H b=some u->b∉fp:=fun b u e hb=>by rw[(hf b hb).1] at e;cases e
 refine I.call (g':=s.gens) (d':=s.drawn) (ch:=fp) ⟨fun b o e n hb hx=>kp b o hx e,fun b o e n hb hx=>⟨o.slots,kp b o hx e⟩,fun b o e n hx=>?_,fun b o e hx=>⟨o,kp b o hx e⟩,fun b xs q=>?_,fun b o u q=>?_,fun b ps q=>?_⟩ ?_ I.bare (fun b hb=>?_)
 ·rw[yO (yR (yi e))];exact n
 ·rw[yO (y6 q hT)];exact q
 ·rw[yO (y6 q hT)];exact q
 ·exact⟨#[],by rw[yO (y6 q hT),q];simp⟩
 ·intro b u e;by_cases hb:b=s.heap.objs.size
  ·subst hb;rw[yL] at e;cases e;exact⟨hz,us,r,_,new,rfl,n,rfl⟩
  ·rw[yO hb] at e;refine(I.hok b u e).stay (fun c v hc q=>kp c v (fun z=>?_) q) (fun c q=>?_) fun c xs q=>?_
   ·rcases hc with w' | w'
    ·subst w';exact nf _ _ e z
    ·exact nf _ _ w' z
   ·rw[yO (y6 q hT)];exact q
   ·rw[yO (y6 q hT)];exact q
 ·obtain⟨f0,f1,f2,f3,f4,f5⟩:=hf b hb;exact⟨f3,f1,f4,f5⟩
theorem Inv.turnedL {fp:List Addr}{h':Heap}{t':Nat}(I:Inv X pins σ H s)(hf:∀ b∈fp,VW X pins H b)(kp:∀ b o,b∉fp->s.heap.get? b=some o->h'.get? b=some o):Inv X pins σ H {s with heap:=h',toks:=t'}:=by
 have nf:∀ b u,H b=some u->b∉fp:=fun b u e hb=>by rw[(hf b hb).1] at e;cases e
 refine I.call (g':=s.gens) (d':=s.drawn) (ch:=fp) ⟨fun b o e n hb hx=>kp b o hx e,fun b o e n hb hx=>⟨o.slots,kp b o hx e⟩,fun b o e n hx=>n,fun b o e hx=>⟨o,kp b o hx e⟩,fun b xs q=>q,fun b o u q=>q,fun b ps q=>⟨#[],by rw[q];simp⟩⟩ ?_ I.bare (fun b hb=>?_)
 ·intro b u e;refine(I.hok b u e).stay (fun c v hc q=>kp c v (fun z=>?_) q) (fun c q=>q) fun c xs q=>q;rcases hc with w' | w'
  ·subst w';exact nf _ _ e z
  ·exact nf _ _ w' z
 ·obtain⟨f0,f1,f2,f3,f4,f5⟩:=hf b hb;exact⟨f3,f1,f4,f5⟩
end
def Ite (K:W.Frag)(a:Addr):It:=
 ⟨fun i H=>∃ xs x,SqL K H a xs/\xs[i]?=some x,fun i H x H'=>∃ T y,H T=none/\x=.ref T/\(∀ xs,SqL K H a xs->xs[i]?=some y)/\H'=upd H T (.tup [.int (i:Int),y]),fun i H=>∃ xs,SqL K H a xs/\xs.length<=i⟩
theorem ycb {P:Program}{w:World}{K:W.Frag}{es:List Expr}{x1:Nat}{pos:Pos}(a e it:Addr)(hne:e≠it):Turn P w K (.Tuple es x1 pos) (Ite K a) [e,it] e (fun i h=>(∃ old,IsEnum h e it (i:Int) old)/\h.IsListIter it a i) where
 mem:=by simp
 obj:=fun i h st b hb=>by
  obtain⟨⟨old,h1⟩,o,h2,c,d⟩:=st;rcases yA.mp hb with z|z
  ·subst z;exact⟨_,h1,fun v z=>by
    have z':Data.fields _=Data.cell v:=z;cases z'⟩
  ·rw[yu.mp z];exact⟨o,h2,fun v z=>by rw[d] at z;cases z⟩
 keep:=fun i h h' st k=>by
  obtain⟨⟨old,h1⟩,h2⟩:=st;exact⟨⟨old,k e (by simp) _ h1⟩,h2.at fun o z=>k it (by simp) o z⟩
 item:=by
  intro X hP hw hK hc i pins s σ H E I hf st hg;subst hP hw hK;obtain⟨xs,x,hq,hx⟩:=hg;obtain⟨its,rv,p,hz⟩:=I.list hq;obtain⟨u,hu,ru⟩:=rv.get hx;obtain⟨⟨old,he⟩,hit⟩:=st;refine wpAny_pyNext_enum_item he hit p.isList (x:=u) (by simpa using hu) hne fun h' out it' tup sz kp=>?_;refine⟨_,rfl,wpAny_letOwnedTupleGo_enum out fun h2 he2 sb=>?_⟩;have heT:e≠s.heap.objs.size:=yR (yi he);have kp2:∀ b o,b∉[e,it]->s.heap.get? b=some o->h2.get? b=some o:=fun b o hb q=>by
   have b1:b≠e:=fun z=>hb (by simp[z]);have b2:b≠it:=fun z=>hb (by simp[z]);exact(sb.2 b b1).trans (kp b o b1 b2 q)
  refine⟨.ref s.heap.objs.size,upd H s.heap.objs.size (.tup [.int (i:Int),x]),?_,rfl,⟨s.heap.objs.size,x,I.hok.fresh (yg _),rfl,fun ys hy=>by rw[I.list_inj hy hq];exact hx,rfl⟩,⟨⟨u,by simpa using he2⟩,it'.at fun o z=>(sb.2 it (Ne.symm hne)).trans z⟩,fun b hb=>?_⟩
  ·exact I.drawn (t':=s.toks+1) (us:=[.int (i:Int) s.toks,u]) (n:=0) hf kp2 ((sb.2 _ (Ne.symm heT)).trans tup) (.cons ⟨_,rfl⟩ (.cons ru .nil)) (by show 2<=sizeLine;decide)
  ·have hl:b<s.heap.objs.size:=by
    rcases yA.mp hb with z|z
    ·subst z;exact yi he
    ·rw[yu.mp z];obtain⟨o,q,_⟩:=hit;exact yi q
   rw[yO (yR hl)];exact(hf b hb).1
 done:=by
  intro X hP hw hK hc i pins s σ H E I hf st hg;subst hP hw hK;obtain⟨xs,hq,hx⟩:=hg;obtain⟨its,rv,p,hz⟩:=I.list hq;obtain⟨⟨old,he⟩,hit⟩:=st;have hl:=rv.length;refine wpAny_pyNext_enum_end (I.ok.hd hc) he hit p.isList (by simp;omega) fun h' eb=>⟨rfl,I.turnedL (t':=s.toks) hf fun b o hb q=>eb b o (fun z=>hb (by simp[z])) q⟩
 self:=fun _ _ _ _ _ st h=>by
  obtain⟨⟨old,he⟩,_⟩:=st;exact wpAny_pyIter_enum he h
def Itz (K:W.Frag)(a b:Addr):It:=
 ⟨fun i H=>∃ xs ys x y,SqL K H a xs/\SqL K H b ys/\xs[i]?=some x/\ys[i]?=some y,fun i H v H'=>∃ T x y,H T=none/\v=.ref T/\(∀ xs,SqL K H a xs->xs[i]?=some x)/\(∀ ys,SqL K H b ys->ys[i]?=some y)/\H'=upd H T (.tup [x,y]),
  fun i H=>∃ xs ys,SqL K H a xs/\SqL K H b ys/\(xs.length<=i∨ys.length<=i)⟩
theorem ycJ {P:Program}{w:World}{K:W.Frag}{es:List Expr}{x1:Nat}{pos:Pos}(l1 l2 z TI TO i1 i2:Addr)(D:ZipApart z TI TO i1 i2 l1 l2) :
  Turn P w K (.Tuple es x1 pos) (Itz K l1 l2) [z,TO,i1,i2,TI] z (fun i h=>IsZip h z TI TO .none/\IsPair h TI (.ref i1) (.ref i2)/\(∃ a b,IsPair h TO a b)/\h.IsListIter i1 l1 i/\h.IsListIter i2 l2 i) where
 mem:=by simp
 obj:=fun i h st b hb=>by
  obtain⟨h1,h2,⟨a,c,h3⟩,⟨o4,e4,c4,d4⟩,⟨o5,e5,c5,d5⟩⟩:=st;have nf:∀ {vs:Array Value} {v:Option Value},Data.fields vs≠Data.cell v:=fun z=>by cases z
  have ns:∀ {vs:Array Value} {n:Nat} {v:Option Value},Data.seq vs n≠Data.cell v:=fun z=>by cases z
  simp only[yA,YW,or_false] at hb;rcases hb with rfl|rfl|rfl|rfl|rfl
  ·exact⟨_,h1,fun v z=>nf z⟩
  ·exact⟨_,h3,fun v z=>ns z⟩
  ·exact⟨_,e4,fun v z=>by rw[d4] at z;cases z⟩
  ·exact⟨_,e5,fun v z=>by rw[d5] at z;cases z⟩
  ·exact⟨_,h2,fun v z=>ns z⟩
 keep:=fun i h h' st k=>by
  obtain⟨h1,h2,⟨a,c,h3⟩,h4,h5⟩:=st;exact⟨k z (by simp) _ h1,k TI (by simp) _ h2,⟨a,c,k TO (by simp) _ h3⟩,h4.at fun o q=>k i1 (by simp) o q,h5.at fun o q=>k i2 (by simp) o q⟩
 item:=by
  intro X hP hw hK hc i pins s σ H E I hf st hg;subst hP hw hK;obtain⟨xs,ys,x,y,hq1,hq2,hx,hy⟩:=hg;obtain⟨its1,rv1,p1,_⟩:=I.list hq1;obtain⟨its2,rv2,p2,_⟩:=I.list hq2;obtain⟨u,hu,ru⟩:=rv1.get hx;obtain⟨v,hv,rv⟩:=rv2.get hy;obtain⟨h1,h2,⟨a,c,h3⟩,h4,h5⟩:=st;have lts:∀ b∈[z,TO,i1,i2,TI],b<s.heap.objs.size:=fun b hb=>by
   obtain⟨_,e4,_⟩:=h4;obtain⟨_,e5,_⟩:=h5;simp only[yA,YW,or_false] at hb;rcases hb with rfl|rfl|rfl|rfl|rfl
   ·exact yi h1
   ·exact yi h3
   ·exact yi e4
   ·exact yi e5
   ·exact yi h2
  refine wpAny_pyNext_zip_item D h1 h2 h3 h4 h5 p1.isList p2.isList (x:=u) (y:=v) (by simpa using hu) (by simpa using hv) fun h' g1 g2 g3 g4 g5 sz kp=>?_;refine⟨_,rfl,wpAny_letOwnedTupleGo_zip g1 fun hh gz sb=>?_⟩;have zT:z≠s.heap.objs.size:=yR (lts z (by simp));have kp2:∀ b o,b∉[z,TO,i1,i2,TI]->s.heap.get? b=some o->hh.get? b=some o:=fun b o hb q=>by
   simp only[yA,YW,or_false,not_or] at hb;exact(sb.2 b hb.1).trans (kp b o hb.1 hb.2.1 hb.2.2.1 hb.2.2.2.1 q)
  refine⟨.ref s.heap.objs.size,upd H s.heap.objs.size (.tup [x,y]),?_,rfl,⟨s.heap.objs.size,x,y,I.hok.fresh (yg _),rfl,fun ws hw=>by rw[I.list_inj hw hq1];exact hx,fun ws hw=>by rw[I.list_inj hw hq2];exact hy,rfl⟩,
   ⟨gz,(sb.2 TI D.TIz).trans (kp TI _ D.TIz D.TITO D.TIi1 D.TIi2 h2),⟨u,v,(sb.2 TO D.TOz).trans g2⟩,g3.at fun o q=>(sb.2 i1 D.i1z).trans q,g4.at fun o q=>(sb.2 i2 D.i2z).trans q⟩,fun b hb=>?_⟩
  ·exact I.drawn (t':=s.toks) (us:=[u,v]) (n:=0) hf kp2 ((sb.2 _ (Ne.symm zT)).trans g5) (.cons ru (.cons rv .nil)) (by show 2<=sizeLine;decide)
  ·rw[yO (yR (lts b hb))];exact(hf b hb).1
 done:=by
  intro X hP hw hK hc i pins s σ H E I hf st hg;subst hP hw hK;obtain⟨xs,ys,hq1,hq2,hx⟩:=hg;obtain⟨its1,rv1,p1,_⟩:=I.list hq1;obtain⟨its2,rv2,p2,_⟩:=I.list hq2;obtain⟨h1,h2,⟨a,c,h3⟩,h4,h5⟩:=st;have e1:=rv1.length;have e2:=rv2.length;refine wpAny_pyNext_zip_end (I.ok.hd hc) D h1 h2 h3 h4 h5 p1.isList p2.isList (hx.elim (fun q=>.inl (by simp;omega)) fun q=>.inr (by simp;omega)) fun h' kp=>⟨rfl,I.turnedL (t':=s.toks) hf fun b o hb q=>?_⟩
  simp only[yA,YW,or_false,not_or] at hb;exact kp b o hb.1 hb.2.1 hb.2.2.1 hb.2.2.2.1 q
 self:=fun _ _ _ _ _ st h=>wpAny_pyIter_zip st.1 h
def yjO (ta:TA):TI:=fun σ H R=>ta σ H fun vs H1=>∃ a xs,vs=[.ref a]/\Rd H1 a (.lst xs)/\∀ K,R (Ite K a) H1
def yko (K:W.Frag)(ta:TA):TI:=fun σ H R=>ta σ H fun vs H1=>∃ a b xs ys,vs=[.ref a,.ref b]/\SqL K H1 a xs/\SqL K H1 b ys/\R (Itz K a b) H1
section
variable {X:Cx}{es:List Expr}{x1:Nat}{tpos:Pos}
theorem yfp {a:Expr}{ta:TA}{p pos:Pos}(hg:Gl X "enumerate")(hm:X.mg "enumerate" = none)(ha:PA X [a] ta)(hs:starEach [a] X.env=[(false,eval a X.env)]:=by rfl):PI X (.Tuple es x1 tpos) (.Call (.Name "enumerate" p) [a] [] pos) (yjO ta):=by
 intro pins s σ H R I h;refine Call_ (Zl I hg hm boot_enumerate (PyProof.Rows.callWith_type1 (thn (ha pos pins s σ H _ I h) fun us s1 ⟨vs,H1,I1,r1,q1⟩=>?_) hs rfl));obtain⟨l,xs,e,hl,q⟩:=q1;subst e;cases r1 with
 |cons r rr=>
  cases rr;cases r;obtain⟨hz,its,n,rv,eo⟩:=hl.ok I1.hok;refine call_enumerate_1 eo fun h' he hit sz kp=>?_;refine wpAny_pyIter_enum he ?_;have hne:s1.heap.objs.size+1≠s1.heap.objs.size:=Nat.succ_ne_self _;refine⟨_,[s1.heap.objs.size+1,s1.heap.objs.size],_,_,H1,rfl,I1.kept (t':=s1.toks) kp,ycb l _ _ hne,⟨⟨.none,he⟩,hit⟩,fun b hb=>?_,q X.K⟩;have hb':s1.heap.objs.size<=b:=by
   simp only[yA,YW,or_false] at hb;rcases hb with rfl|rfl
   ·exact Nat.le_succ _
   ·exact yg _
  exact I1.fpOk hb' (I1.hok.fresh hb')
theorem yhj {a b:Expr}{ta:TA}{p pos:Pos}(hg:Gl X "zip")(hm:X.mg "zip" = none)(ha:PA X [a,b] ta)(hs:starEach [a,b] X.env=[(false,eval a X.env),(false,eval b X.env)]:=by rfl)(hs2:starEach [b] X.env=[(false,eval b X.env)]:=by rfl) :
  PI X (.Tuple es x1 tpos) (.Call (.Name "zip" p) [a,b] [] pos) (yko X.K ta):=by
 intro pins s σ H R I h;refine Call_ (Zl I hg hm boot_zip (PyProof.Rows.callWith_type1 (thn (ha pos pins s σ H _ I h) fun us s1 ⟨vs,H1,I1,r1,q1⟩=>?_) (by rw[hs,hs2]) (by rw[hs2];rfl)));obtain⟨l1,l2,xs,ys,e,hl1,hl2,q⟩:=q1;subst e;cases r1 with
 |cons r rr=>
  cases rr with
  |cons r' rr=>
   cases rr;cases r;cases r';obtain⟨its1,rv1,p1,_⟩:=I1.list hl1;obtain⟨its2,rv2,p2,_⟩:=I1.list hl2;have lt1:l1<s1.heap.objs.size:=by obtain⟨_,e,_⟩:=p1.isList;exact yi e
   have lt2:l2<s1.heap.objs.size:=by obtain⟨_,e,_⟩:=p2.isList;exact yi e
   refine call_zip_2 p1.isList p2.isList fun h' g1 g2 g3 g4 g5 sz kp=>?_;refine wpAny_pyIter_zip g1 ?_;refine⟨_,[s1.heap.objs.size+4,s1.heap.objs.size+3,s1.heap.objs.size,s1.heap.objs.size+1,s1.heap.objs.size+2],_,_,H1,rfl,I1.kept (t':=s1.toks) kp,ycJ l1 l2 _ _ _ _ _ (zipApart_new lt1 lt2),⟨g1,g2,⟨.none,.none,g3⟩,g4,g5⟩,fun b hb=>?_,q⟩;have hb':s1.heap.objs.size<=b:=by
    simp only[yA,YW,or_false] at hb;rcases hb with rfl|rfl|rfl|rfl|rfl
    ·exact qR _ _
    ·exact qR _ _
    ·exact yg _
    ·exact qR _ _
    ·exact qR _ _
   exact I1.fpOk hb' (I1.hok.fresh hb')
end
end L2
namespace My
def G (a b:Int):Int:=((Int.gcd a b:Nat):Int)
theorem G_end {a:Int}(ha:0<=a):G a 0=a:=by
 show((Int.gcd a 0:Nat):Int)=a;rw[Int.gcd_zero_right];omega
theorem G_turn {a b:Int}(ha:0<=a)(hb:0<b):G b (Int.fmod a b)=G a b:=by
 unfold G;rw[Qm a (yx hb)];obtain⟨m,rfl⟩:=Yz ha;obtain⟨n,rfl⟩:=Yz (yx hb);show((Nat.gcd (n:Int).natAbs ((m:Int) % (n:Int)).natAbs:Nat):Int)=((Nat.gcd (m:Int).natAbs (n:Int).natAbs:Nat):Int)
 have e:((m:Int) % (n:Int)).natAbs=m % n:=by omega
 rw[e,qm,qm,Nat.gcd_comm m n,Nat.gcd_comm n (m % n),←Nat.gcd_rec]
theorem G_pos {a b:Int}(hb:0<b):0<G a b:=by
 have:0<Int.gcd a b:=Int.gcd_pos_of_ne_zero_right a (by omega);unfold G;omega
theorem num_share {t b:Int}(hb:0<b):Int.fdiv t (G t b)=(Rat.divInt t b).num:=by
 rw[yT _ (yx (G_pos hb)),Rat.num_divInt,Int.sign_eq_one_of_pos hb,Int.one_mul];unfold G;rw[Int.gcd_comm]
theorem den_share {t b:Int}(hb:0<b):Int.fdiv b (G t b)=((Rat.divInt t b).den:Int):=by
 rw[yT _ (yx (G_pos hb)),Rat.den_divInt,yb (show ¬ b=0 by omega),qQ,Int.natAbs_of_nonneg (yx hb)];unfold G;rw[Int.gcd_comm]
theorem Kt (q:Rat):(q.den:Int)≠0:=by have:=q.den_pos;omega
theorem den_pos' (q:Rat):(0:Int)<q.den:=by have:=q.den_pos;omega
theorem q_add (p q:Rat):Rat.divInt (p.num*q.den+q.num*p.den) (p.den*q.den)=p+q:=by
 rw[←qJ _ _ (Kt p) (Kt q),YK,YK]
theorem q_sub (p q:Rat):Rat.divInt (p.num*q.den - q.num*p.den) (p.den*q.den)=p - q:=by
 rw[←Rat.divInt_sub_divInt _ _ (Kt p) (Kt q),YK,YK]
theorem q_mul (p q:Rat):Rat.divInt (p.num*q.num) (p.den*q.den)=p*q:=by
 rw[←Rat.divInt_mul_divInt,YK,YK]
theorem q_div (p q:Rat):Rat.divInt (p.num*q.den) (p.den*q.num)=p / q:=by
 rw[←Rat.divInt_mul_divInt,YK,Rat.div_def,Rat.inv_def]
theorem q_lt (p q:Rat):p.num*q.den<q.num*p.den ↔ p<q:=(Rat.lt_iff p q).symm
theorem q_cross {t b:Int}(hb:0<b):(Rat.divInt t b).num*b=t*(Rat.divInt t b).den:=by
 have h:=YK (Rat.divInt t b);exact(Rat.divInt_eq_divInt_iff (Kt _) (by omega)).mp h
theorem q_num_pos {q:Rat}(h:0<q):0<q.num:=by
 have h2:=(Rat.lt_iff 0 q).mp h;have e1:(0:Rat).num=0:=rfl;have e2:(0:Rat).den=1:=rfl;rw[e1,e2,Int.zero_mul] at h2;omega
theorem q_num_nn {q:Rat}(h:0<=q):0<=q.num:=Rat.num_nonneg.mpr h
theorem q_inj {p q:Rat}(h1:p.num=q.num)(h2:(p.den:Int)=q.den):p=q:=Rat.ext h1 (by omega)
end My
namespace L3
open PySem PySem.Spec PySem.Calls PyProof.Rows L2
inductive D where
 |non|bl (b:Bool)|int (i:Int)|str (x:Str)|raw (v:V)
 |tup (ds:List D)|lst (ds:List D)
 |dk (ks:List Key) (ds:List D)|dt (ks:List (List Key)) (ds:List D)
 |obj (C:Addr) (fs:List Str) (ds:List D)
 |exc (C:Addr)
 |scr (ns:List Int)
mutual
def Is (K:W.Frag)(H:Hp):D->V->Prop
 |.non,v=>v=.non
 |.bl b,v=>v=.bl b
 |.int i,v=>v=.int i
 |.str x,v=>v=.str x
 |.raw u,v=>v=u
 |.tup ds,v=>∃ a xs,v=.ref a/\SqT K H a xs/\IsL K H ds xs
 |.lst ds,v=>∃ a xs,v=.ref a/\Rd H a (.lst xs)/\IsL K H ds xs
 |.dk ks ds,v=>∃ a xs o,v=.ref a/\H a=some (.frz o (.dK (ks.zip xs)))/\ks.length=xs.length/\IsL K H ds xs
 |.dt ks ds,v=>∃ a xs,v=.ref a/\Rd H a (.dT (ks.zip xs))/\ks.length=xs.length/\IsL K H ds xs
 |.obj C fs ds,v=>∃ a dx xs,v=.ref a/\H a=some (.ins C dx (fs.zip xs))/\fs.length=xs.length/\IsL K H ds xs
 |.exc C,v=>∃ a,v=.ref a/\H a=some (ykh a (.ref C))
 |.scr ns,v=>∃ a,v=.ref a/\SqL K H a (ns.map V.int)
def IsL (K:W.Frag)(H:Hp):List D->List V->Prop
 |[],xs=>xs=[]
 |d::ds,xs=>∃ x r,xs=x::r/\Is K H d x/\IsL K H ds r
end
section
variable {K:W.Frag}{H H':Hp}
theorem JD {a:Addr}{u:HO}(e:yP H H')(h:Rd H a u):Rd H' a u:=by
 rcases h with h|⟨o,h⟩
 ·exact .inl (e _ _ h)
 ·exact .inr ⟨o,e _ _ h⟩
theorem Qe {a:Addr}{xs:List V}(e:yP H H')(h:SqT K H a xs):SqT K H' a xs:=by
 rcases h with (h|⟨o,h⟩)|h
 ·exact .inl (.inl (e _ _ h))
 ·exact .inl (.inr ⟨o,e _ _ h⟩)
 ·exact .inr h
mutual
theorem Is.mono (e:yP H H'):∀ {d:D} {v:V},Is K H d v->Is K H' d v
 |.non,_,h=>by simp only[Is] at h ⊢;exact h
 |.bl _,_,h=>by simp only[Is] at h ⊢;exact h
 |.int _,_,h=>by simp only[Is] at h ⊢;exact h
 |.str _,_,h=>by simp only[Is] at h ⊢;exact h
 |.raw _,_,h=>by simp only[Is] at h ⊢;exact h
 |.tup ds,_,h=>by simp only[Is] at h ⊢;obtain⟨a,xs,e1,e2,e3⟩:=h;exact⟨a,xs,e1,Qe e e2,IsL.mono e e3⟩
 |.lst ds,_,h=>by simp only[Is] at h ⊢;obtain⟨a,xs,e1,e2,e3⟩:=h;exact⟨a,xs,e1,JD e e2,IsL.mono e e3⟩
 |.dk ks ds,_,h=>by simp only[Is] at h ⊢;obtain⟨a,xs,o,e1,e2,e4,e3⟩:=h;exact⟨a,xs,o,e1,e _ _ e2,e4,IsL.mono e e3⟩
 |.dt ks ds,_,h=>by simp only[Is] at h ⊢;obtain⟨a,xs,e1,e2,e4,e3⟩:=h;exact⟨a,xs,e1,JD e e2,e4,IsL.mono e e3⟩
 |.obj C fs ds,_,h=>by simp only[Is] at h ⊢;obtain⟨a,dx,xs,e1,e2,e4,e3⟩:=h;exact⟨a,dx,xs,e1,e _ _ e2,e4,IsL.mono e e3⟩
 |.exc C,_,h=>by simp only[Is] at h ⊢;obtain⟨a,e1,e2⟩:=h;exact⟨a,e1,e _ _ e2⟩
 |.scr ns,_,h=>by simp only[Is] at h ⊢;obtain⟨a,e1,e2⟩:=h;exact⟨a,e1,e.seq e2⟩
theorem IsL.mono (e:yP H H'):∀ {ds:List D} {xs:List V},IsL K H ds xs->IsL K H' ds xs
 |[],_,h=>by simp only[IsL] at h ⊢;exact h
 |d::ds,_,h=>by
  simp only[IsL] at h ⊢;obtain⟨x,r,e1,e2,e3⟩:=h;exact⟨x,r,e1,Is.mono e e2,IsL.mono e e3⟩
end
theorem IsL.nil:IsL K H [] []:=by simp only[IsL]
theorem IsL.cons {d:D}{ds:List D}{x:V}{xs:List V}(h:Is K H d x)(t:IsL K H ds xs):IsL K H (d::ds) (x::xs):=by
 simp only[IsL];exact⟨x,xs,rfl,h,t⟩
theorem IsL.len:∀ {ds:List D} {xs:List V},IsL K H ds xs->xs.length=ds.length
 |[],_,h=>by simp only[IsL] at h;subst h;rfl
 |d::ds,_,h=>by
  simp only[IsL] at h;obtain⟨x,r,rfl,_,t⟩:=h;simp[IsL.len t]
theorem IsL.get:∀ {ds:List D} {xs:List V} {i:Nat} {d:D},IsL K H ds xs->ds[i]?=some d->∃ x,xs[i]?=some x/\Is K H d x
 |[],_,_,_,_,e=>by simp at e
 |d::ds,_,0,d',h,e=>by
  simp only[IsL] at h;obtain⟨x,r,rfl,h1,_⟩:=h;simp at e;subst e;exact⟨x,rfl,h1⟩
 |d::ds,_,i+1,d',h,e=>by
  simp only[IsL] at h;obtain⟨x,r,rfl,_,t⟩:=h;exact IsL.get (i:=i) t (by simpa using e)
theorem IsL.append:∀ {ds es:List D} {xs ys:List V},IsL K H ds xs->IsL K H es ys->IsL K H (ds++es) (xs++ys)
 |[],_,_,_,h,t=>by simp only[IsL] at h;subst h;exact t
 |d::ds,es,_,ys,h,t=>by
  simp only[IsL] at h;obtain⟨x,r,rfl,h1,h2⟩:=h;exact IsL.cons h1 (IsL.append h2 t)
theorem IsL.take:∀ {ds:List D} {xs:List V} (n:Nat),IsL K H ds xs->IsL K H (ds.take n) (xs.take n)
 |_,_,0,_=>by simpa using IsL.nil
 |[],_,n+1,h=>by simp only[IsL] at h;subst h;simpa using IsL.nil
 |d::ds,_,n+1,h=>by
  simp only[IsL] at h;obtain⟨x,r,rfl,h1,h2⟩:=h;exact IsL.cons h1 (IsL.take n h2)
theorem IsL.drop:∀ {ds:List D} {xs:List V} (n:Nat),IsL K H ds xs->IsL K H (ds.drop n) (xs.drop n)
 |_,_,0,h=>by simpa using h
 |[],_,n+1,h=>by simp only[IsL] at h;subst h;simpa using IsL.nil
 |d::ds,_,n+1,h=>by
  simp only[IsL] at h;obtain⟨x,r,rfl,h1,h2⟩:=h;exact IsL.drop n h2
theorem IsL.set:∀ {ds:List D} {xs:List V} (i:Nat) {d:D} {x:V},IsL K H ds xs->Is K H d x->IsL K H (ds.set i d) (xs.set i x)
 |[],_,_,_,_,h,_=>by simp only[IsL] at h;subst h;simpa using IsL.nil
 |d::ds,_,0,_,_,h,hx=>by
  simp only[IsL] at h;obtain⟨x,r,rfl,h1,h2⟩:=h;exact IsL.cons hx h2
 |d::ds,_,i+1,_,_,h,hx=>by
  simp only[IsL] at h;obtain⟨x,r,rfl,h1,h2⟩:=h;exact IsL.cons h1 (IsL.set i h2 hx)
theorem IsL.get_none {ds:List D}{xs:List V}{i:Nat}(h:IsL K H ds xs)(e:ds[i]?=none):xs[i]?=none:=by
 have:=h.len;rw[al_getElem?_eq_none_iff] at e ⊢;omega
theorem IsL.get' {ds:List D}{xs:List V}{i:Nat}{x:V}(h:IsL K H ds xs)(e:xs[i]?=some x):∃ d,ds[i]?=some d/\Is K H d x:=by
 cases q:ds[i]? with
 |none=>rw[h.get_none q] at e;cases e
 |some d=>
  obtain⟨y,e1,e2⟩:=h.get q;rw[e] at e1;cases e1;exact⟨d,rfl,e2⟩
theorem IsL.of_ints:∀ {ns:List Int} {xs:List V},IsL K H (ns.map D.int) xs->xs=ns.map V.int
 |[],_,h=>by simp only[QU,IsL] at h;subst h;rfl
 |n::ns,_,h=>by
  simp only[yn,IsL] at h;obtain⟨x,r,rfl,h1,h2⟩:=h;simp only[Is] at h1;rw[h1,IsL.of_ints h2];rfl
end
structure Pur (F H F' H':Hp):Prop where
 ff:yP F F'
 fh:yP F' H'
 hh:yP H H'
 new:∀ b,F' b≠none->F b≠none∨H b=none
theorem Pur.refl {F H:Hp}(h:yP F H):Pur F H F H:=⟨yP.refl _,h,yP.refl _,fun _ q=>.inl q⟩
theorem Pur.trans {F H F1 H1 F2 H2:Hp}(a:Pur F H F1 H1)(b:Pur F1 H1 F2 H2):Pur F H F2 H2:=
 ⟨a.ff.trans b.ff,b.fh,a.hh.trans b.hh,fun c q=>(b.new c q).elim (fun z=>a.new c z) fun z=>.inr (a.hh.free z)⟩
theorem Pur.lay {F H:Hp}(h:yP F H){p:Addr}{o:HO}(hp:H p=none):Pur F H (upd F p o) (upd H p o):=by
 have fp:F p=none:=h.free hp;refine⟨fun b u e=>?_,fun b u e=>?_,fun b u e=>?_,fun b q=>?_⟩
 ·rw[yO (y6 e fp)];exact e
 ·by_cases hb:b=p
  ·subst hb;rw[yL] at e ⊢;exact e
  ·rw[yO hb] at e ⊢;exact h _ _ e
 ·rw[yO (y6 e hp)];exact e
 ·by_cases hb:b=p
  ·subst hb;exact .inr hp
  ·rw[yO hb] at q;exact .inl q
theorem Pur.layOwn {F H:Hp}(h:yP F H){p:Addr}{o:HO}(hp:H p=none):Pur F H F (upd H p o):=by
 refine⟨yP.refl _,fun b u e=>?_,fun b u e=>?_,fun b q=>.inl q⟩
 ·rw[yO (y6 (h _ _ e) hp)];exact h _ _ e
 ·rw[yO (y6 e hp)];exact e
def Sl (K:W.Frag)(F:Hp)(Γ:List (Option D))(σ:L2.St):Prop:=∀ (i:Nat) (d:D),Γ[i]?=some (some d)->∃ v,σ[i]?=some (some v)/\Is K F d v
theorem Sl.mono {K:W.Frag}{F F':Hp}{Γ:List (Option D)}{σ:L2.St}(h:Sl K F Γ σ)(e:yP F F'):Sl K F' Γ σ:=fun i d q=>by
 obtain⟨v,h1,h2⟩:=h i d q;exact⟨v,h1,h2.mono e⟩
def tP (K:W.Frag)(Γ:List (Option D))(d:D):TE:=fun σ H Q=>∃ F,yP F H/\Sl K F Γ σ/\∀ v H' F',Pur F H F' H'->Is K F' d v->Q v H'
def tPT (K:W.Frag)(Γ:List (Option D))(b:Bool):TT:=fun σ H Q=>∃ F,yP F H/\Sl K F Γ σ/\∀ H' F',Pur F H F' H'->Q b H'
def tPL (K:W.Frag)(Γ:List (Option D))(ds:List D):TA:=fun σ H Q=>∃ F,yP F H/\Sl K F Γ σ/\∀ vs H' F',Pur F H F' H'->IsL K F' ds vs->Q vs H'
def P3 (X:Cx)(Γ:List (Option D))(e:Expr)(d:D):Prop:=PE X e (tP X.K Γ d)
def PT3 (X:Cx)(Γ:List (Option D))(e:Expr)(b:Bool):Prop:=PT X e (tPT X.K Γ b)
def PL3 (X:Cx)(Γ:List (Option D))(es:List Expr)(ds:List D):Prop:=PA X es (tPL X.K Γ ds)
def PF3 (X:Cx)(Γ:List (Option D))(e:Expr)(ds:List D):Prop:=PE X e fun σ H Q=>∃ F,yP F H/\Sl X.K F Γ σ/\∀ p xs H' F',Pur F H F' H'->H p=none->F' p=none->H' p=some (.lst xs)->IsL X.K F' ds xs->Q (.ref p) H'
theorem PE.of {X:Cx}{e:Expr}{t u:TE}(h:PE X e t)(i:∀ σ H Q,u σ H Q->t σ H Q):PE X e u:=fun pins s σ H Q I hq=>h pins s σ H Q I (i _ _ _ hq)
theorem PT.of {X:Cx}{e:Expr}{t u:TT}(h:PT X e t)(i:∀ σ H Q,u σ H Q->t σ H Q):PT X e u:=fun pins s σ H Q I hq=>h pins s σ H Q I (i _ _ _ hq)
theorem PA.of {X:Cx}{e:List Expr}{t u:TA}(h:PA X e t)(i:∀ σ H Q,u σ H Q->t σ H Q):PA X e u:=fun p pins s σ H Q I hq=>h p pins s σ H Q I (i _ _ _ hq)
section
variable {X:Cx}{Γ:List (Option D)}{a b c:Expr}{d d':D}{pos:Pos}
theorem ygQ {i:Nat}{x:Str}(hN:X.N[i]?=some x)(hv:Vis X.env.scope x)(hΓ:Γ[i]?=some (some d))(hd:(x==("__debug__" : Str))=false:=by decide)(hcd:(x==("__classdict__" : Str))=false:=by decide):P3 X Γ (.Name x pos) d:=
 PE.of (k8 hN hv hd hcd) fun σ H Q ⟨F,fh,sl,k⟩=>by
  obtain⟨v,e,h⟩:=sl i d hΓ;exact⟨v,e,k v H F (Pur.refl fh) h⟩
theorem pq (i:Nat){x:Str}(h3:Γ[i]? =some (some d))(h1:X.N[i]? =some x:=by rfl)(h2:X.env.scope.names.lookup x=some .local:=by rfl)(hd:(x==("__debug__":Str))=false:=by decide)(hc:(x==("__classdict__":Str))=false:=by decide):P3 X Γ (.Name x pos) d:=ygQ h1 (.inl h2) h3 hd hc
theorem pqc (i:Nat){x:Str}(h3:Γ[i]? =some (some d))(h1:X.N[i]? =some x:=by rfl)(h2:X.env.scope.names.lookup x=some .cell:=by rfl)(hd:(x==("__debug__":Str))=false:=by decide)(hc:(x==("__classdict__":Str))=false:=by decide):P3 X Γ (.Name x pos) d:=ygQ h1 (.inr (.inl h2)) h3 hd hc
theorem yw {i j}:P3 X Γ (.Constant (.int i) j pos) (.int i):=PE.of zH fun σ H Q ⟨F,fh,sl,k⟩=>k _ H F (Pur.refl fh) (by simp only[Is])
theorem ydH {i j}:P3 X Γ (.Constant (.bool i) j pos) (.bl i):=PE.of yjs fun σ H Q ⟨F,fh,sl,k⟩=>k _ H F (Pur.refl fh) (by simp only[Is])
theorem jR {i j}:P3 X Γ (.Constant (.str i) j pos) (.str i):=PE.of yh8 fun σ H Q ⟨F,fh,sl,k⟩=>k _ H F (Pur.refl fh) (by simp only[Is])
theorem yhn {x:Str}{v:V}{u:Value}(hg:Gl X x)(hm:X.mg x=some u)(r:Yx v u)(hi:∀ F,Is X.K F d v)(hd:(x==("__debug__" : Str))=false:=by decide):P3 X Γ (.Name x pos) d:=
 PE.of (ygJ hg hm r hd) fun σ H Q ⟨F,fh,sl,k⟩=>k _ H F (Pur.refl fh) (hi F)
theorem tP2 {K:W.Frag}{σ:L2.St}{H:Hp}{R:V->V->Hp->Prop}(h:∃ F,yP F H/\Sl K F Γ σ/\∀ x y H2 F2,Pur F H F2 H2->Is K F2 d x->Is K F2 d' y->R x y H2) :
  tP K Γ d σ H fun x H1=>tP K Γ d' σ H1 fun y H2=>R x y H2:=by
 obtain⟨F,fh,sl,k⟩:=h;exact⟨F,fh,sl,fun x H1 F1 p1 i1=>⟨F1,p1.fh,sl.mono p1.ff,fun y H2 F2 p2 i2=>k x y H2 F2 (p1.trans p2) (i1.mono p2.ff) i2⟩⟩
theorem yeW {op:Operator}{r:R2}{d3:D}(ho:OpR X (binaryOp op) r)(ha:P3 X Γ a d)(hb:P3 X Γ b d')(hr:∀ x y H F Q,yP F H->Is X.K F d x->Is X.K F d' y->(∀ v H' F',Pur F H F' H'->Is X.K F' d3 v->Q v H')->r x y H Q):P3 X Γ (.BinOp a op b pos) d3:=
 PE.of (vR ho ha hb) fun σ H Q ⟨F,fh,sl,k⟩=>tP2 ⟨F,fh,sl,fun x y H2 F2 p i1 i2=>hr x y H2 F2 Q p.fh i1 i2 fun v H' F' p' i=>k v H' F' (p.trans p') i⟩
theorem isI {K:W.Frag}{F:Hp}{i:Int}{v:V}(h:Is K F (.int i) v):v=.int i:=by simp only[Is] at h;exact h
theorem isS {K:W.Frag}{F:Hp}{i:Str}{v:V}(h:Is K F (.str i) v):v=.str i:=by simp only[Is] at h;exact h
theorem isB {K:W.Frag}{F:Hp}{i:Bool}{v:V}(h:Is K F (.bl i) v):v=.bl i:=by simp only[Is] at h;exact h
theorem isR {K:W.Frag}{F:Hp}{i v:V}(h:Is K F (.raw i) v):v=i:=by simp only[Is] at h;exact h
theorem ye3 {op:Operator}{C:Int->Int->Prop}{g:Int->Int->V}{i j:Int}{d3:D}(ho:OpR X (binaryOp op) (rI C g))(ha:P3 X Γ a (.int i))(hb:P3 X Γ b (.int j))(hc:C i j)(h3:∀ F,Is X.K F d3 (g i j)):P3 X Γ (.BinOp a op b pos) d3:=
 yeW ho ha hb fun x y H F Q fh i1 i2 k=>⟨i,j,isI i1,isI i2,hc,k _ H F (Pur.refl fh) (h3 F)⟩
theorem yek {op:Operator}{g:Int->Int->V}{i j:Int}{d3:D}(ho:OpR X (binaryOp op) (rI0 g))(ha:P3 X Γ a (.int i))(hb:P3 X Γ b (.int j))(h3:∀ F,Is X.K F d3 (g i j)):P3 X Γ (.BinOp a op b pos) d3:=
 yeW ho ha hb fun x y H F Q fh i1 i2 k=>⟨i,j,isI i1,isI i2,k _ H F (Pur.refl fh) (h3 F)⟩
theorem QG {K:W.Frag}{i:Int}:∀ F,Is K F (.int i) (.int i):=fun _=>by simp only[Is]
theorem Kb {K:W.Frag}{i:Bool}:∀ F,Is K F (.bl i) (.bl i):=fun _=>by simp only[Is]
theorem Wg {K:W.Frag}{i:Str}:∀ F,Is K F (.str i) (.str i):=fun _=>by simp only[Is]
theorem zl {K:W.Frag}{i:V}:∀ F,Is K F (.raw i) i:=fun _=>by simp only[Is]
theorem yax {K:W.Frag}:∀ F,Is K F .non .non:=fun _=>by simp only[Is]
variable {i j:Int}
theorem Jg (ha:P3 X Γ a (.int i))(hb:P3 X Γ b (.int j)):P3 X Γ (.BinOp a .Add b pos) (.int (i+j)):=yek xh ha hb QG
theorem WY (ha:P3 X Γ a (.int i))(hb:P3 X Γ b (.int j)):P3 X Γ (.BinOp a .Sub b pos) (.int (i - j)):=yek yhM ha hb QG
theorem jr (ha:P3 X Γ a (.int i))(hb:P3 X Γ b (.int j))(h:IntMulOk i j):P3 X Γ (.BinOp a .Mult b pos) (.int (i*j)):=ye3 ya9 ha hb h QG
theorem uW (ha:P3 X Γ a (.int i))(hb:P3 X Γ b (.int j))(h:0<j):P3 X Γ (.BinOp a .Mod b pos) (.int (i % j)):=ye3 UT ha hb h QG
theorem Q1 (py:Pyl X)(ha:P3 X Γ a (.int i))(hb:P3 X Γ b (.int j))(h:0<j):P3 X Γ (.BinOp a .FloorDiv b pos) (.int (i / j)):=
 ye3 (yex py) ha hb (by omega) (fun F=>by rw[yT _ (yx h)];exact QG F)
end
theorem wa {K:W.Frag}{F:Hp}{ds:List D}{xs:List V}{i:Int}{d:D}(h:IsL K F ds xs)(e:atI ds i=some d):∃ x,atI xs i=some x/\Is K F d x:=by
 unfold atI at e ⊢;rw[h.len];cases q:ixN ds.length i with
 |none=>rw[q] at e;cases e
 |some j=>
  rw[q] at e;exact h.get (i:=j) e
section
variable {X:Cx}{Γ:List (Option D)}{a b c:Expr}{d d':D}{pos:Pos}{i:Int}{ds:List D}
theorem yaW {r:R2}{d3:D}(ho:IxR X r)(ha:P3 X Γ a d)(hb:P3 X Γ b d')(hr:∀ x y H F Q,yP F H->Is X.K F d x->Is X.K F d' y->(∀ v H' F',Pur F H F' H'->Is X.K F' d3 v->Q v H')->r x y H Q)(hs:J8 b):P3 X Γ (.Subscript a b pos) d3:=
 PE.of (wU ho ha hb hs) fun σ H Q ⟨F,fh,sl,k⟩=>tP2 ⟨F,fh,sl,fun x y H2 F2 p i1 i2=>hr x y H2 F2 Q p.fh i1 i2 fun v H' F' p' i=>k v H' F' (p.trans p') i⟩
theorem yX (ha:P3 X Γ a (.tup ds))(hb:P3 X Γ b (.int i))(he:atI ds i=some d)(hs:J8 b:=by exact fun _ _=>rfl):P3 X Γ (.Subscript a b pos) d:=
 yaW yeG ha hb (fun x y H F Q fh i1 i2 k=>by
  simp only[Is] at i1 i2;obtain⟨p,xs,rfl,h1,h2⟩:=i1;obtain⟨v,e1,e2⟩:=wa h2 he;exact⟨p,xs,i,v,rfl,i2,Qe fh h1,e1,k v H F (Pur.refl fh) e2⟩) hs
theorem ZE (ha:P3 X Γ a (.lst ds))(hb:P3 X Γ b (.int i))(he:atI ds i=some d)(hs:J8 b:=by exact fun _ _=>rfl):P3 X Γ (.Subscript a b pos) d:=
 yaW vn ha hb (fun x y H F Q fh i1 i2 k=>by
  simp only[Is] at i1 i2;obtain⟨p,xs,rfl,h1,h2⟩:=i1;obtain⟨v,e1,e2⟩:=wa h2 he;exact⟨p,xs,i,v,rfl,i2,.inl (JD fh h1),e1,k v H F (Pur.refl fh) e2⟩) hs
theorem yjj {x:Str}{c:Nat}(ha:P3 X Γ a (.str x))(hb:P3 X Γ b (.int i))(hz:x.length<=sizeLine)(he:atI x.cps.toList i=some c)(hs:J8 b:=by exact fun _ _=>rfl):P3 X Γ (.Subscript a b pos) (.str ⟨#[c]⟩):=
 yaW yiW ha hb (fun x' y H F Q fh i1 i2 k=>by
  simp only[Is] at i1 i2;exact⟨x,i,c,i1,i2,hz,he,k _ H F (Pur.refl fh) (Wg F)⟩) hs
variable {e:Expr}{es:List Expr}
theorem yt:PL3 X Γ [] []:=PA.of Zx fun σ H Q ⟨F,fh,sl,k⟩=>k [] H F (Pur.refl fh) IsL.nil
theorem yd (ha:P3 X Γ e d)(hr:PL3 X Γ es ds)(hs:starEach (e::es) X.env=(false,eval e X.env)::starEach es X.env:=by rfl):PL3 X Γ (e::es) (d::ds):=
 PA.of (Jo ha hr hs) fun σ H Q ⟨F,fh,sl,k⟩=>⟨F,fh,sl,fun x H1 F1 p1 i1=>⟨F1,p1.fh,sl.mono p1.ff,fun xs H2 F2 p2 i2=>k (x::xs) H2 F2 (p1.trans p2) (IsL.cons (i1.mono p2.ff) i2)⟩⟩
theorem QJ {x1}(h:PL3 X Γ es ds)(hz:ds.length<=sizeLine:=by (simp only[ym,Yq];decide)):P3 X Γ (.Tuple es x1 pos) (.tup ds):=
 PE.of (UN h) fun σ H Q ⟨F,fh,sl,k⟩=>⟨F,fh,sl,fun xs H1 F1 p1 i1=>⟨by rw[i1.len];exact hz,fun p hp=>k _ _ _ (p1.trans (Pur.lay p1.fh hp)) (by
  simp only[Is];exact⟨p,xs,rfl,.inl (.inl yL),i1.mono (Pur.lay p1.fh hp).ff⟩)⟩⟩
theorem zg (h:PL3 X Γ es ds)(hz:ds.length<=sizeLine:=by (simp only[ym,Yq];decide)):PF3 X Γ (.List es pos) ds:=
 PE.of (ycz h) fun σ H Q ⟨F,fh,sl,k⟩=>⟨F,fh,sl,fun xs H1 F1 p1 i1=>⟨by rw[i1.len];exact hz,fun p hp=>k p xs _ F1 (p1.trans (Pur.layOwn p1.fh hp)) (p1.hh.free hp) (p1.fh.free hp) yL i1⟩⟩
theorem PF3.p (h:PF3 X Γ e ds):P3 X Γ e (.lst ds):=PE.of h fun σ H Q ⟨F,fh,sl,k⟩=>⟨F,fh,sl,fun p xs H' F' pu hp fp e i=>by
 have w:yP F' (upd F' p (.lst xs)):=fun b u q=>by rw[yO (y6 q fp)];exact q
 have wf:yP (upd F' p (.lst xs)) H':=fun b u q=>by
  by_cases hb:b=p
  ·subst hb;rw[yL] at q;cases q;exact e
  ·rw[yO hb] at q;exact pu.fh _ _ q
 have w2:Pur F H (upd F' p (.lst xs)) H':=by
  refine⟨pu.ff.trans w,wf,pu.hh,fun b q=>?_⟩;by_cases hb:b=p
  ·subst hb;exact .inr hp
  ·rw[yO hb] at q;exact pu.new b q
 exact k _ _ _ w2 (by simp only[Is];exact⟨p,xs,rfl,.inl yL,i.mono w⟩)⟩
theorem zw (h:PL3 X Γ es ds)(hz:ds.length<=sizeLine:=by (simp only[ym,Yq];decide)):P3 X Γ (.List es pos) (.lst ds):=(zg h hz).p
end
mutual
def YV:D->D->Bool
 |.non,.non=>true
 |.bl a,.bl b=>a==b
 |.int a,.int b=>a==b
 |.str a,.str b=>a==b
 |.tup a,.tup b=>JC a b
 |.lst a,.lst b=>JC a b
 |_,_=>false
def JC:List D->List D->Bool
 |[],[]=>true
 |a::as,b::bs=>YV a b&&JC as bs
 |_,_=>false
end
mutual
def pln:D->Bool
 |.non=>true
 |.bl _=>true
 |.int _=>true
 |.str _=>true
 |.tup a=>VS a
 |.lst a=>VS a
 |_=>false
def VS:List D->Bool
 |[]=>true
 |a::as=>pln a&&VS as
end
mutual
def kin:D->D->Bool
 |.non,.non=>true
 |.bl _,.bl _=>true
 |.int _,.int _=>true
 |.str _,.str _=>true
 |.tup a,.tup b=>Jk a b
 |.lst a,.lst b=>Jk a b
 |_,_=>false
def Jk:List D->List D->Bool
 |a::as,b::bs=>kin a b&&Jk as bs
 |_,_=>true
end
mutual
def dep:D->Nat
 |.tup a=>zv a+1
 |.lst a=>zv a+1
 |_=>0
def zv:List D->Nat
 |[]=>0
 |a::as=>max (dep a) (zv as)
end
theorem J1 {d e:D}(h:kin d e=true):(d=.non/\e=.non)∨(∃ a b,d=.bl a/\e=.bl b)∨(∃ a b,d=.int a/\e=.int b)∨(∃ a b,d=.str a/\e=.str b)∨(∃ a b,d=.tup a/\e=.tup b/\Jk a b=true)∨(∃ a b,d=.lst a/\e=.lst b/\Jk a b=true):=by
 rw[kin.eq_def] at h;split at h
 ·exact .inl ⟨rfl,rfl⟩
 ·exact .inr (.inl ⟨_,_,rfl,rfl⟩)
 ·exact .inr (.inr (.inl ⟨_,_,rfl,rfl⟩))
 ·exact .inr (.inr (.inr (.inl ⟨_,_,rfl,rfl⟩)))
 ·exact .inr (.inr (.inr (.inr (.inl ⟨_,_,rfl,rfl,h⟩))))
 ·exact .inr (.inr (.inr (.inr (.inr ⟨_,_,rfl,rfl,h⟩))))
 ·exact absurd h (by decide)
mutual
theorem zk:∀ {d:D},pln d=true->YV d d=true
 |.non,_=>by simp[YV]
 |.bl _,_=>by simp[YV]
 |.int _,_=>by simp[YV]
 |.str _,_=>by simp[YV]
 |.tup a,h=>by rw[YV];rw[pln] at h;exact Vo h
 |.lst a,h=>by rw[YV];rw[pln] at h;exact Vo h
 |.raw _,h=>by simp[pln] at h
 |.dk _ _,h=>by simp[pln] at h
 |.dt _ _,h=>by simp[pln] at h
 |.obj _ _ _,h=>by simp[pln] at h
 |.exc _,h=>by simp[pln] at h
 |.scr _,h=>by simp[pln] at h
theorem Vo:∀ {d:List D},VS d=true->JC d d=true
 |[],_=>by simp[JC]
 |a::as,h=>by
  rw[VS,Yg] at h;rw[JC,zk h.1,Vo h.2];rfl
end
mutual
theorem V9:∀ {d e:D},YV d e=true->d=e
 |.non,e,h=>by cases e <;> simp[YV] at h ⊢
 |.bl _,e,h=>by cases e <;> simp[YV] at h ⊢;exact h
 |.int _,e,h=>by cases e <;> simp[YV] at h ⊢;exact h
 |.str _,e,h=>by cases e <;> simp[YV] at h ⊢;exact h
 |.tup a,e,h=>by cases e <;> simp only[YV,YI] at h;rw[U1 h]
 |.lst a,e,h=>by cases e <;> simp only[YV,YI] at h;rw[U1 h]
 |.raw _,e,h=>by cases e <;> simp[YV] at h
 |.dk _ _,e,h=>by cases e <;> simp[YV] at h
 |.dt _ _,e,h=>by cases e <;> simp[YV] at h
 |.obj _ _ _,e,h=>by cases e <;> simp[YV] at h
 |.exc _,e,h=>by cases e <;> simp[YV] at h
 |.scr _,e,h=>by cases e <;> simp[YV] at h
theorem U1:∀ {d e:List D},JC d e=true->d=e
 |[],e,h=>by cases e <;> simp[JC] at h ⊢
 |a::as,e,h=>by
  cases e with
  |nil=>simp[JC] at h
  |cons b bs=>
   rw[JC,Yg] at h;rw[V9 h.1,U1 h.2]
end
theorem U9 {d e:D}(h:d≠e):YV d e=false:=by
 cases q:YV d e with
 |false=>rfl
 |true=>exact absurd (V9 q) h
theorem vx:∀ (ds es:List D),ds.length=es.length->((List.range ds.length).all fun j=>YV (ds.getD j .non) (es.getD j .non))=JC ds es
 |[],[],_=>by simp[JC]
 |[],_::_,h=>by simp at h
 |_::_,[],h=>by simp at h
 |a::as,b::bs,h=>by
  have ih:=vx as bs (by simpa using h);rw[JC,←ih,ym,List.range_succ_eq_map,List.all_cons,List.all_map];rfl
theorem vk:∀ {ds es:List D},ds.length≠es.length->JC ds es=false
 |[],[],h=>absurd rfl h
 |[],_::_,_=>by simp[JC]
 |_::_,[],_=>by simp[JC]
 |a::as,b::bs,h=>by
  rw[JC,vk (ds:=as) (es:=bs) (fun z=>h (by simp[z])),Bool.and_false]
theorem K8:∀ {ds es:List D} {i:Nat} {d e:D},Jk ds es=true->ds[i]?=some d->es[i]?=some e->kin d e=true
 |[],_,_,_,_,_,h,_=>by simp at h
 |_::_,[],_,_,_,_,_,h=>by simp at h
 |a::as,b::bs,0,d,e,h,h1,h2=>by
  simp at h1 h2;subst h1 h2;rw[Jk,Yg] at h;exact h.1
 |a::as,b::bs,i+1,d,e,h,h1,h2=>by
  rw[Jk,Yg] at h;exact K8 (i:=i) h.2 (by simpa using h1) (by simpa using h2)
theorem Ux:∀ {ds:List D} {i:Nat} {d:D},ds[i]?=some d->dep d<=zv ds
 |[],_,_,h=>by simp at h
 |a::as,0,d,h=>by simp at h;subst h;rw[zv];exact Nat.le_max_left _ _
 |a::as,i+1,d,h=>by
  rw[zv];exact yQ (Ux (i:=i) (by simpa using h)) (Nat.le_max_right _ _)
section
variable {X:Cx}{pins:List (Addr×Obj)}{σ:L2.St}{H:Hp}{s:Shared}
theorem Is.same (I:Inv X pins σ H s):∀ (n:Nat) {v:V} {d e:D},dep d<=n->kin d e=true->Is X.K H d v->Is X.K H e v->d=e:=by
  intro n
  induction n with
  |zero=>
    intro v d e hn hk h h';rcases J1 hk with ⟨rfl,rfl⟩|⟨_,_,rfl,rfl⟩|⟨_,_,rfl,rfl⟩|⟨_,_,rfl,rfl⟩|⟨_,_,rfl,rfl,hk⟩|⟨_,_,rfl,rfl,hk⟩ <;> simp only[Is] at h h' <;> first
      |rfl
      | (rw[h] at h';injection h' with z;rw[z];done)
      | (rw[dep] at hn;omega)
  |succ n ih=>
    intro v d e hn hk h h';have go:∀ {ds es:List D} {xs:List V},zv ds<=n->Jk ds es=true->IsL X.K H ds xs->IsL X.K H es xs->ds=es:=by
      intro ds es xs hd hks h1 h2;have l1:=h1.len;have l2:=h2.len;refine al_ext_getElem? fun i=>?_;cases q:xs[i]? with
      |none=>
        have z:xs.length<=i:=al_getElem?_eq_none_iff.mp q;rw[al_getElem?_eq_none_iff.mpr (by omega),al_getElem?_eq_none_iff.mpr (by omega)]
      |some v=>
        obtain⟨d,e1,i1⟩:=h1.get' q;obtain⟨e,e2,i2⟩:=h2.get' q;rw[e1,e2,ih (yQ (Ux e1) hd) (K8 hks e1 e2) i1 i2]
    rcases J1 hk with ⟨rfl,rfl⟩|⟨_,_,rfl,rfl⟩|⟨_,_,rfl,rfl⟩|⟨_,_,rfl,rfl⟩|⟨_,_,rfl,rfl,hk⟩|⟨_,_,rfl,rfl,hk⟩ <;> simp only[Is] at h h' <;> first
      |rfl
      | (rw[h] at h';injection h' with z;rw[z];done)
      | (rw[dep] at hn
         obtain⟨a,xs,rfl,s1,i1⟩:=h;obtain⟨a',ys,e',s2,i2⟩:=h';cases e'
         first
         | (cases I.tuple_inj s1 s2;rw[go (by omega) hk i1 i2];done)
         | (cases I.list_inj (.inl s1) (.inl s2);rw[go (by omega) hk i1 i2];done))
def vU (ds es:List D)(j:Nat):Bool:=YV (ds.getD j .non) (es.getD j .non)
theorem vN {xs ys:List V}{ds es:List D}{us vs:List Value}{A:Around}(r1:YQ xs us)(r2:YQ ys vs)(h1:IsL X.K H ds xs)(h2:IsL X.K H es ys)
  (hk:Jk ds es=true) {n:Nat} (hn:zv ds<=n)
  (ih:∀ (x y:V) (d e:D) (u v:Value),dep d<=n->Is X.K H d x->Is X.K H e y->kin d e=true->Yx x u->Yx y v->SeqAt.EqAt A s u v (YV d e)) :
  ∀ j (q1:j<us.toArray.size) (q2:j<vs.toArray.size),SeqAt.EqAt A s us.toArray[j] vs.toArray[j] (vU ds es j):=by
 intro j q1 q2;have e1:=r1.length;have e2:=r2.length;have l1:=h1.len;have l2:=h2.len;have p1:j<us.length:=by simpa using q1
 have p2:j<vs.length:=by simpa using q2
 have x1:xs[j]?=some (xs[j]'(by omega)):=al_getElem?_eq_getElem _;have y1:ys[j]?=some (ys[j]'(by omega)):=al_getElem?_eq_getElem _;obtain⟨d,d1,i1⟩:=h1.get' x1;obtain⟨e,c1,i2⟩:=h2.get' y1;obtain⟨u,hu,ru⟩:=r1.get x1;obtain⟨v,hv,rv⟩:=r2.get y1;have z1:us.toArray[j]=u:=by
  have:us[j]?=some (us[j]'p1):=al_getElem?_eq_getElem _;rw[hu] at this;simpa using (Option.some.inj this).symm
 have z2:vs.toArray[j]=v:=by
  have:vs[j]?=some (vs[j]'p2):=al_getElem?_eq_getElem _;rw[hv] at this;simpa using (Option.some.inj this).symm
 rw[z1,z2];unfold vU;rw[al_getD_eq_getElem?_getD,al_getD_eq_getElem?_getD,d1,c1];exact ih _ _ _ _ u v (yQ (Ux d1) hn) i1 i2 (K8 hk d1 c1) ru rv
theorem yeC {xs ys:List V}{ds es:List D}{us vs:List Value}(r1:YQ xs us)(r2:YQ ys vs)(h1:IsL X.K H ds xs)(h2:IsL X.K H es ys) :
  ((List.range (min us.toArray.size vs.toArray.size)).all (vU ds es)&&us.toArray.size==vs.toArray.size)=JC ds es:=by
 have e1:=r1.length;have e2:=r2.length;have l1:=h1.len;have l2:=h2.len;simp only[yD];by_cases hl:us.length=vs.length
 ·rw[←hl,Nat.min_self,beq_self_eq_true,Bool.and_true,←e1,l1];exact vx ds es (by omega)
 ·rw[vk (by omega),show(us.length==vs.length)=false by simpa using hl,Bool.and_false]
theorem ya8 {a b:Addr}{xs ys:List V}{ds es:List D}{A:Around}(I:Inv X pins σ H s)(hx:SqT X.K H a xs)(hy:SqT X.K H b ys)(h1:IsL X.K H ds xs)(h2:IsL X.K H es ys)(hu:A.units<cLine)
  (hk:Jk ds es=true) {n:Nat} (hn:zv ds<=n)
  (ih:∀ (x y:V) (d e:D) (u v:Value),dep d<=n->Is X.K H d x->Is X.K H e y->kin d e=true->Yx x u->Yx y v->SeqAt.EqAt A.in1 s u v (YV d e)):SeqAt.RcAt A s (.ref a) (.ref b) (JC ds es):=by
 obtain⟨us,r1,t1,_⟩:=I.tuple hx;obtain⟨vs,r2,t2,_⟩:=I.tuple hy;have z:=SeqAt.RcAt.tuples (show s.heap.IsTuple a us.toArray from t1) (show s.heap.IsTuple b vs.toArray from t2) hu (vN r1 r2 h1 h2 hk hn ih);rw[yeC r1 r2 h1 h2] at z;exact z
theorem yaH {a b:Addr}{xs ys:List V}{ds es:List D}{A:Around}(I:Inv X pins σ H s)(hx:SqL X.K H a xs)(hy:SqL X.K H b ys)(h1:IsL X.K H ds xs)(h2:IsL X.K H es ys)(hu:A.units<cLine)
  (hk:Jk ds es=true) {n:Nat} (hn:zv ds<=n)
  (ih:∀ (x y:V) (d e:D) (u v:Value),dep d<=n->Is X.K H d x->Is X.K H e y->kin d e=true->Yx x u->Yx y v->SeqAt.EqAt A.in1 s u v (YV d e)):SeqAt.RcAt A s (.ref a) (.ref b) (JC ds es):=by
 obtain⟨us,r1,t1,_⟩:=I.list hx;obtain⟨vs,r2,t2,_⟩:=I.list hy;have e1:=r1.length;have e2:=r2.length;have l1:=h1.len;have l2:=h2.len;by_cases hl:us.length=vs.length
 ·have z:=SeqAt.RcAt.lists t1.isList t2.isList (by simpa using hl) hu (vN r1 r2 h1 h2 hk hn ih);have q:(List.range us.toArray.size).all (vU ds es)=JC ds es:=by
   simp only[yD];rw[←e1,l1];exact vx ds es (by omega)
  rw[q] at z;exact z
 ·rw[vk (by omega)];exact SeqAt.RcAt.lists_lengths t1.isList t2.isList (by simpa using hl) hu
theorem yf4 {a b:Addr}{xs ys:List V}{ds es:List D}{A:Around}(I:Inv X pins σ H s)(hx:SqT X.K H a xs)(hy:SqT X.K H b ys)(h1:IsL X.K H ds xs)(h2:IsL X.K H es ys)(hu:A.units<cLine)
  (hk:Jk ds es=true) {n:Nat} (hn:zv ds<=n)
  (ih:∀ (x y:V) (d e:D) (u v:Value),dep d<=n->Is X.K H d x->Is X.K H e y->kin d e=true->Yx x u->Yx y v->SeqAt.EqAt A.in1 s u v (YV d e)):SeqAt.RcNeAt A s (.ref a) (.ref b) (!JC ds es):=by
 obtain⟨us,r1,t1,_⟩:=I.tuple hx;obtain⟨vs,r2,t2,_⟩:=I.tuple hy;have z:=SeqAt.RcNeAt.tuples (show s.heap.IsTuple a us.toArray from t1) (show s.heap.IsTuple b vs.toArray from t2) hu (vN r1 r2 h1 h2 hk hn ih);rw[yeC r1 r2 h1 h2] at z;exact z
theorem ygo {a b:Addr}{xs ys:List V}{ds es:List D}{A:Around}(I:Inv X pins σ H s)(hx:SqL X.K H a xs)(hy:SqL X.K H b ys)(h1:IsL X.K H ds xs)(h2:IsL X.K H es ys)(hu:A.units<cLine)
  (hk:Jk ds es=true) {n:Nat} (hn:zv ds<=n)
  (ih:∀ (x y:V) (d e:D) (u v:Value),dep d<=n->Is X.K H d x->Is X.K H e y->kin d e=true->Yx x u->Yx y v->SeqAt.EqAt A.in1 s u v (YV d e)):SeqAt.RcNeAt A s (.ref a) (.ref b) (!JC ds es):=by
 obtain⟨us,r1,t1,_⟩:=I.list hx;obtain⟨vs,r2,t2,_⟩:=I.list hy;have e1:=r1.length;have e2:=r2.length;have l1:=h1.len;have l2:=h2.len;by_cases hl:us.length=vs.length
 ·have z:=SeqAt.RcNeAt.lists t1.isList t2.isList (by simpa using hl) hu (vN r1 r2 h1 h2 hk hn ih);have q:(List.range us.toArray.size).all (vU ds es)=JC ds es:=by
   simp only[yD];rw[←e1,l1];exact vx ds es (by omega)
  rw[q] at z;exact z
 ·rw[vk (by omega)];exact SeqAt.RcNeAt.lists_lengths t1.isList t2.isList (by simpa using hl) hu
theorem xS:∀ (n:Nat) {d e:D},dep d<=n->kin d e=true->d=e->pln d=true:=by
 intro n
 induction n with
 |zero=>intro d e hn hk he;subst he;cases d <;> simp[kin] at hk <;> first|(simp[pln];done)|(rw[dep] at hn;omega)
 |succ n ih=>
  intro d e hn hk he;subst he;have go:∀ {ds:List D},zv ds<=n->Jk ds ds=true->VS ds=true:=by
   intro ds
   induction ds with
   |nil=>intro _ _;simp[VS]
   |cons a as ih2=>
    intro hd hks;rw[zv] at hd;rw[Jk,Yg] at hks;rw[VS,ih (by omega) hks.1 rfl,ih2 (by omega) hks.2];rfl
  cases d <;> simp[kin] at hk <;> first
   | (simp[pln];done)
   | (rw[dep] at hn;rw[pln];exact go (by omega) hk)
theorem xv (I:Inv X pins σ H s):∀ (n:Nat) (A:Around),A.units+n<cLine->∀ (x y:V) (d e:D) (u v:Value),dep d<=n->Is X.K H d x->Is X.K H e y->kin d e=true->Yx x u->Yx y v->SeqAt.EqAt A s u v (YV d e):=by
  intro n
  induction n with
  |zero=>
    intro A hA x y d e u v hn hx hy hk rx ry;rcases J1 hk with ⟨rfl,rfl⟩|⟨_,_,rfl,rfl⟩|⟨_,_,rfl,rfl⟩|⟨_,_,rfl,rfl⟩|⟨_,_,rfl,rfl,hk⟩|⟨_,_,rfl,rfl,hk⟩ <;> simp only[Is] at hx hy <;> first
      | (subst hx hy;cases rx;cases ry;rw[YV];exact SeqAt.EqAt.same _)
      | (subst hx hy;cases rx;cases ry;rw[YV];exact SeqAt.EqAt.bool_bool _ _)
      | (subst hx hy;obtain⟨t,rfl⟩:=rx;obtain⟨t',rfl⟩:=ry;rw[YV];exact SeqAt.EqAt.int_int _ _ _ _)
      | (subst hx hy;obtain⟨t,rfl⟩:=rx;obtain⟨t',rfl⟩:=ry;rw[YV];exact SeqAt.EqAt.str_str _ _ _ _)
      | (rw[dep] at hn;omega)
  |succ n ih=>
    intro A hA x y d e u v hn hx hy hk rx ry;have hu:A.units<cLine:=by omega
    have hA':A.in1.units+n<cLine:=by
      show A.units+1+n<cLine;omega
    by_cases hxy:d=e/\x=y
    · obtain⟨rfl,rfl⟩:=hxy;have hp:=xS (n+1) hn hk rfl;rw[zk hp];cases d <;> simp[kin] at hk <;> simp only[Is] at hx <;> first
        | (subst hx;cases rx;cases ry;exact SeqAt.EqAt.same _)
        | (subst hx;obtain⟨t,rfl⟩:=rx;obtain⟨t',rfl⟩:=ry;have z:=SeqAt.EqAt.int_int (A:=A) (s:=s) (by assumption) t (by assumption) t';simpa using z)
        | (subst hx;rename_i i;obtain⟨t,rfl⟩:=rx;obtain⟨t',rfl⟩:=ry;have z:=SeqAt.EqAt.int_int (A:=A) (s:=s) i t i t';simpa using z)
        | (subst hx;rename_i i;obtain⟨t,rfl⟩:=rx;obtain⟨t',rfl⟩:=ry;have z:=SeqAt.EqAt.str_str (A:=A) (s:=s) i t i t';simpa using z)
        | (obtain⟨a,xs,rfl,_,_⟩:=hx;cases rx;cases ry;exact SeqAt.EqAt.same _)
    · have key:=fun (x y:V) (d e:D) (u v:Value) p q r s' t w=>ih A.in1 hA' x y d e u v p q r s' t w;have sm:=fun (h:x=y)=>Is.same I (n+1) hn hk hx (h▸hy);rcases J1 hk with ⟨rfl,rfl⟩|⟨_,_,rfl,rfl⟩|⟨_,_,rfl,rfl⟩|⟨_,_,rfl,rfl⟩|⟨_,_,rfl,rfl,hk⟩|⟨_,_,rfl,rfl,hk⟩ <;> simp only[Is] at hx hy <;> first
        | (subst hx hy;cases rx;cases ry;rw[YV];exact SeqAt.EqAt.same _)
        | (subst hx hy;cases rx;cases ry;rw[YV];exact SeqAt.EqAt.bool_bool _ _)
        | (subst hx hy;obtain⟨t,rfl⟩:=rx;obtain⟨t',rfl⟩:=ry;rw[YV];exact SeqAt.EqAt.int_int _ _ _ _)
        | (subst hx hy;obtain⟨t,rfl⟩:=rx;obtain⟨t',rfl⟩:=ry;rw[YV];exact SeqAt.EqAt.str_str _ _ _ _)
        | (rw[dep] at hn
           obtain⟨a,xs,rfl,s1,i1⟩:=hx;obtain⟨b,ys,rfl,s2,i2⟩:=hy;cases rx;cases ry;have hab:a≠b:=fun z=>hxy ⟨sm (by rw[z]),by rw[z]⟩;rw[YV]
           first
           |exact SeqAt.EqAt.of_refs hab (ya8 I s1 s2 i1 i2 hu hk (by omega) key)
           |exact SeqAt.EqAt.of_refs hab (yaH I (.inl s1) (.inl s2) i1 i2 hu hk (by omega) key))
end
def yjt (K:W.Frag)(neg:Bool):R2:=fun x y H Q=>∃ d e,Is K H d x/\Is K H e y/\kin d e=true/\dep d<=60/\Q (.bl (if neg then !YV d e else YV d e)) H
section
variable {X:Cx}
theorem yiy (hu:X.A.units+64<cLine):OpR X (compareOp .Eq) (yjt X.K false):=by
  intro pins s σ H x y v u Q I rx ry h;obtain⟨d,e,h1,h2,hk,hn,q⟩:=h;have hu0:X.A.units<cLine:=by omega
  have key:=fun (x y:V) (d e:D) (u v:Value) p q r s' t w=>xv (s:=s) I 60 X.A.in1 (by show X.A.units+1+60<cLine;omega) x y d e u v p q r s' t w;have sc:yfr x y=true->(decide (x=y))=YV d e->wpAny (model X.prog X.w) X.A (compareOp .Eq v u) (EP X pins σ Q) X.xe s:=fun hs hb=>
    ybb pins s σ H x y v u Q I rx ry ⟨hs,by rw[hb];exact q⟩
  rcases J1 hk with ⟨rfl,rfl⟩|⟨_,_,rfl,rfl⟩|⟨_,_,rfl,rfl⟩|⟨_,_,rfl,rfl⟩|⟨_,_,rfl,rfl,hk⟩|⟨_,_,rfl,rfl,hk⟩ <;> simp only[Is] at h1 h2 <;> first
    | (subst h1 h2;exact sc rfl (by first|(simp[YV];done)|(rw[YV,Yk];simp)))
    | (rw[dep] at hn
       obtain⟨a,xs,rfl,s1,i1⟩:=h1;obtain⟨b,ys,rfl,s2,i2⟩:=h2;cases rx;cases ry;simp only[YV,YI,if_false] at q
       first
       |exact ya8 (A:=X.A) I s1 s2 i1 i2 hu0 hk (by omega) key X.prog X.w X.xe _ ⟨.bl _,H,I,rfl,q⟩
       |exact yaH (A:=X.A) I (.inl s1) (.inl s2) i1 i2 hu0 hk (by omega) key X.prog X.w X.xe _ ⟨.bl _,H,I,rfl,q⟩)
theorem yiJ (hu:X.A.units+64<cLine):OpR X (compareOp .NotEq) (yjt X.K true):=by
  intro pins s σ H x y v u Q I rx ry h;obtain⟨d,e,h1,h2,hk,hn,q⟩:=h;have hu0:X.A.units<cLine:=by omega
  have key:=fun (x y:V) (d e:D) (u v:Value) p q r s' t w=>xv (s:=s) I 60 X.A.in1 (by show X.A.units+1+60<cLine;omega) x y d e u v p q r s' t w;have sc:yfr x y=true->(decide (x=y))=YV d e->wpAny (model X.prog X.w) X.A (compareOp .NotEq v u) (EP X pins σ Q) X.xe s:=fun hs hb=>
    yjG pins s σ H x y v u Q I rx ry ⟨hs,by rw[hb];exact q⟩
  rcases J1 hk with ⟨rfl,rfl⟩|⟨_,_,rfl,rfl⟩|⟨_,_,rfl,rfl⟩|⟨_,_,rfl,rfl⟩|⟨_,_,rfl,rfl,hk⟩|⟨_,_,rfl,rfl,hk⟩ <;> simp only[Is] at h1 h2 <;> first
    | (subst h1 h2;exact sc rfl (by first|(simp[YV];done)|(rw[YV,Yk];simp)))
    | (rw[dep] at hn
       obtain⟨a,xs,rfl,s1,i1⟩:=h1;obtain⟨b,ys,rfl,s2,i2⟩:=h2;cases rx;cases ry;simp only[YV,if_true] at q
       first
       |exact yf4 (A:=X.A) I s1 s2 i1 i2 hu0 hk (by omega) key X.prog X.w X.xe _ ⟨.bl _,H,I,rfl,q⟩
       |exact ygo (A:=X.A) I (.inl s1) (.inl s2) i1 i2 hu0 hk (by omega) key X.prog X.w X.xe _ ⟨.bl _,H,I,rfl,q⟩)
end
def C3 (X:Cx)(Γ:List (Option D))(a:Expr)(op:CmpOp)(b:Expr)(k:Bool):Prop:=∃ (r:R2) (ta tb:TE),OpR X (compareOp op) r/\PE X a ta/\PE X b tb/\
 ∀ (σ:L2.St) (H:Hp) (Q:VK),(∃ F,yP F H/\Sl X.K F Γ σ/\∀ H' F',Pur F H F' H'->Q (.bl k) H')->tOp r ta tb σ H Q
section
variable {X:Cx}{Γ:List (Option D)}{a b c:Expr}{d d':D}{pos:Pos}{op:CmpOp}{k:Bool}
theorem Zt (h:C3 X Γ a op b k)(hm:behindInMarks op b=false:=by first|exact v9 _|with_unfolding_all rfl):P3 X Γ (.Compare a [op] [b] pos) (.bl k):=by
 obtain⟨r,ta,tb,ho,ha,hb,q⟩:=h;exact PE.of (ybn ho ha hb hm) fun σ H Q ⟨F,fh,sl,kk⟩=>q σ H Q ⟨F,fh,sl,fun H' F' p=>kk _ H' F' p (Kb _)⟩
theorem Y8 (h:C3 X Γ a op b k)(hm:behindInMarks op b=false:=by first|exact v9 _|with_unfolding_all rfl):PT3 X Γ (.Compare a [op] [b] pos) k:=by
 obtain⟨r,ta,tb,ho,ha,hb,q⟩:=h;exact PT.of (kj ho ha hb hm) fun σ H Q ⟨F,fh,sl,kk⟩=>q σ H _ ⟨F,fh,sl,fun H' F' p=>⟨k,rfl,kk H' F' p⟩⟩
theorem c_R {r:R2}(ho:OpR X (compareOp op) r)(ha:P3 X Γ a d)(hb:P3 X Γ b d')(hr:∀ x y H F Q,yP F H->Is X.K F d x->Is X.K F d' y->Q (.bl k) H->r x y H Q):C3 X Γ a op b k:=
 ⟨r,_,_,ho,ha,hb,fun σ H Q ⟨F,fh,sl,q⟩=>tP2 ⟨F,fh,sl,fun x y H2 F2 p i1 i2=>hr x y H2 F2 Q p.fh i1 i2 (q H2 F2 p)⟩⟩
variable {i j:Int}
theorem c_I {g:Int->Int->Bool}(ho:OpR X (compareOp op) (rI0 fun i j=>.bl (g i j)))(ha:P3 X Γ a (.int i))(hb:P3 X Γ b (.int j)):C3 X Γ a op b (g i j):=
 c_R ho ha hb fun x y H F Q fh i1 i2 q=>⟨i,j,isI i1,isI i2,q⟩
theorem xT (ha:P3 X Γ a (.int i))(hb:P3 X Γ b (.int j)):C3 X Γ a .Lt b (decide (i<j)):=c_I yjB ha hb
theorem ykb (ha:P3 X Γ a (.int i))(hb:P3 X Γ b (.int j)):C3 X Γ a .LtE b (decide (i<=j)):=c_I yfc ha hb
theorem Xi (ha:P3 X Γ a (.int i))(hb:P3 X Γ b (.int j)):C3 X Γ a .Gt b (decide (j<i)):=c_I yeL ha hb
theorem vK (ha:P3 X Γ a (.int i))(hb:P3 X Γ b (.int j)):C3 X Γ a .Eq b (decide (i=j)):=
 c_R ybb ha hb fun x y H F Q fh i1 i2 q=>by
  cases isI i1;cases isI i2;exact⟨rfl,by simpa only[V.int.injEq] using q⟩
theorem Kj {i j:Str}(ha:P3 X Γ a (.str i))(hb:P3 X Γ b (.str j)):C3 X Γ a .Eq b (decide (i=j)):=
 c_R ybb ha hb fun x y H F Q fh i1 i2 q=>by
  cases isS i1;cases isS i2;exact⟨rfl,by simpa only[V.str.injEq] using q⟩
theorem WM (hu:X.A.units+64<cLine)(ha:P3 X Γ a d)(hb:P3 X Γ b d')(hk:kin d d'=true)(hd:dep d<=60):C3 X Γ a .Eq b (YV d d'):=
 c_R (yiy hu) ha hb fun x y H F Q fh i1 i2 q=>⟨d,d',i1.mono fh,i2.mono fh,hk,hd,q⟩
theorem ybU (hu:X.A.units+64<cLine)(ha:P3 X Γ a d)(hb:P3 X Γ b d')(hk:kin d d'=true)(hd:dep d<=60):C3 X Γ a .NotEq b (!YV d d'):=
 c_R (yiJ hu) ha hb fun x y H F Q fh i1 i2 q=>⟨d,d',i1.mono fh,i2.mono fh,hk,hd,q⟩
theorem zh {e:Expr}(h:P3 X Γ e (.bl k))(he:∀ whole,isTrue e X.env whole=(do let v ←whole;standAt e.pos;holding [v] (truthy v)):=by intro _;rfl):PT3 X Γ e k:=
 PT.of (ycu h he) fun σ H Q ⟨F,fh,sl,q⟩=>⟨F,fh,sl,fun v H' F' p i=>⟨k,isB i,q H' F' p⟩⟩
theorem XV (h:PT3 X Γ a k):PT3 X Γ (.UnaryOp .Not a pos) (!k):=PT.of (yh2 h) fun σ H Q ⟨F,fh,sl,q⟩=>⟨F,fh,sl,q⟩
def PW3 (X:Cx)(Γ:List (Option D))(e:Expr)(k:Bool):Prop:=PW X e (tPT X.K Γ k)
theorem PW.of {X:Cx}{e:Expr}{t u:TT}(h:PW X e t)(i:∀ σ H Q,u σ H Q->t σ H Q):PW X e u:=fun w pins s σ H Q I hq=>h w pins s σ H Q I (i _ _ _ hq)
theorem PW3.t {e:Expr}(h:PW3 X Γ e k):PT3 X Γ e k:=PW.pt h
theorem ZG (h:PT3 X Γ a k):PW3 X Γ (.BoolOp .And [a] pos) k:=yfM h
theorem UL (h:PT3 X Γ a k):PW3 X Γ (.BoolOp .Or [a] pos) k:=yhu h
theorem yg1 {e:Expr}:PW X e fun _ _ _=>False:=fun _ _ _ _ _ _ _ h=>h.elim
theorem X6 {e:Expr}:PE X e fun _ _ _=>False:=fun _ _ _ _ _ _ h=>h.elim
variable {k':Bool}{rest:List Expr}
theorem Vd (ha:PT3 X Γ a k)(hb:k=true->PW3 X Γ (.BoolOp .And (b::rest) pos) k'):PW3 X Γ (.BoolOp .And (a::b::rest) pos) (k&&k'):=by
 cases k with
 |true=>exact PW.of (ydn ha (hb rfl)) fun σ H Q ⟨F,fh,sl,q⟩=>⟨F,fh,sl,fun H' F' p=>by dsimp only;rw[yc rfl];exact⟨F',p.fh,sl.mono p.ff,fun H2 F2 p2=>q H2 F2 (p.trans p2)⟩⟩
 |false=>exact PW.of (ydn ha yg1) fun σ H Q ⟨F,fh,sl,q⟩=>⟨F,fh,sl,fun H' F' p=>by dsimp only;rw[yb yE];exact q H' F' p⟩
theorem ybm (ha:PT3 X Γ a k)(hb:k=false->PW3 X Γ (.BoolOp .Or (b::rest) pos) k'):PW3 X Γ (.BoolOp .Or (a::b::rest) pos) (k||k'):=by
 cases k with
 |false=>exact PW.of (ygM ha (hb rfl)) fun σ H Q ⟨F,fh,sl,q⟩=>⟨F,fh,sl,fun H' F' p=>by dsimp only;rw[yb yE];exact⟨F',p.fh,sl.mono p.ff,fun H2 F2 p2=>q H2 F2 (p.trans p2)⟩⟩
 |true=>exact PW.of (ygM ha yg1) fun σ H Q ⟨F,fh,sl,q⟩=>⟨F,fh,sl,fun H' F' p=>by dsimp only;rw[yc rfl];exact q H' F' p⟩
theorem WX {op:BoolOp}(h:P3 X Γ a d):P3 X Γ (.BoolOp op [a] pos) d:=ycy h
theorem yao (ha:P3 X Γ a (.bl k))(hb:k=true->P3 X Γ (.BoolOp .And (b::rest) pos) (.bl k')):P3 X Γ (.BoolOp .And (a::b::rest) pos) (.bl (k&&k')):=by
 cases k with
 |true=>exact PE.of (Xp ha (hb rfl)) fun σ H Q ⟨F,fh,sl,q⟩=>⟨F,fh,sl,fun v H' F' p i=>⟨true,isB i,by rw[yc rfl];exact⟨F',p.fh,sl.mono p.ff,fun v2 H2 F2 p2 i2=>q v2 H2 F2 (p.trans p2) i2⟩⟩⟩
 |false=>exact PE.of (Xp ha X6) fun σ H Q ⟨F,fh,sl,q⟩=>⟨F,fh,sl,fun v H' F' p i=>⟨false,isB i,by dsimp only;rw[yb yE];exact q _ H' F' p (Kb F')⟩⟩
theorem yjn (ha:P3 X Γ a (.bl k))(hb:k=false->P3 X Γ (.BoolOp .Or (b::rest) pos) (.bl k')):P3 X Γ (.BoolOp .Or (a::b::rest) pos) (.bl (k||k')):=by
 cases k with
 |false=>exact PE.of (ygU ha (hb rfl)) fun σ H Q ⟨F,fh,sl,q⟩=>⟨F,fh,sl,fun v H' F' p i=>⟨false,isB i,by rw[yb yE];exact⟨F',p.fh,sl.mono p.ff,fun v2 H2 F2 p2 i2=>q v2 H2 F2 (p.trans p2) i2⟩⟩⟩
 |true=>exact PE.of (ygU ha X6) fun σ H Q ⟨F,fh,sl,q⟩=>⟨F,fh,sl,fun v H' F' p i=>⟨true,isB i,by dsimp only;rw[yc rfl];exact q _ H' F' p (Kb F')⟩⟩
theorem yaw (hc:PT3 X Γ c k)(ha:k=true->P3 X Γ a d)(hb:k=false->P3 X Γ b d):P3 X Γ (.IfExp c a b pos) d:=by
 cases k with
 |true=>exact PE.of (wO hc (ha rfl) X6) fun σ H Q ⟨F,fh,sl,q⟩=>⟨F,fh,sl,fun H' F' p=>by dsimp only;rw[yc rfl];exact⟨F',p.fh,sl.mono p.ff,fun v2 H2 F2 p2 i2=>q v2 H2 F2 (p.trans p2) i2⟩⟩
 |false=>exact PE.of (wO hc X6 (hb rfl)) fun σ H Q ⟨F,fh,sl,q⟩=>⟨F,fh,sl,fun H' F' p=>by dsimp only;rw[yb yE];exact⟨F',p.fh,sl.mono p.ff,fun v2 H2 F2 p2 i2=>q v2 H2 F2 (p.trans p2) i2⟩⟩
end
def spP (K:W.Frag)(n:Nat)(C:List D->D->Prop):Sp:=fun vs H Q _=>∃ ds d F,C ds d/\ds.length=n/\yP F H/\IsL K F ds vs/\∀ v H' F',Pur F H F' H'->Is K F' d v->Q v H'
theorem spP.len {K:W.Frag}{n:Nat}{C:List D->D->Prop}{vs:List V}{H:Hp}{Q:VK}{E:XK}(h:spP K n C vs H Q E):vs.length=n:=by
 obtain⟨ds,d,F,_,l,_,i,_⟩:=h;rw[i.len,l]
section
variable {X:Cx}{Γ:List (Option D)}{d:D}{ds:List D}{n k:Nat}{C:List D->D->Prop}{x:Str}{ps:List Str}{e:Expr}{es:List Expr}{p pos:Pos}
theorem Yi (o:OkF X.prog X.w X.K X.mg X.base CX0 k x ps (spP X.K n C))(hr:Room k X.A)(hg:Gl X x)(ha:PL3 X Γ (e::es) ds)(hC:C ds d)(hn:ds.length=n:=by rfl)(hdb:(x==("__debug__" : Str))=false:=by decide)
  (he:starEach (e::es) X.env=(false,eval e X.env)::starEach es X.env:=by rfl) (hpl:(backTo pos (starEach es X.env)).any (·.1)=false:=by rfl):P3 X Γ (.Call (.Name x p) (e::es) [] pos) d:=
 PE.of (VJ o hr hg ha hdb he hpl) fun σ H Q ⟨F,fh,sl,q⟩=>⟨F,fh,sl,fun vs H' F' pu i=>by
  dsimp only;rw[Yl];exact⟨ds,d,F',hC,hn,pu.fh,i,fun v H2 F2 p2 i2=>q v H2 F2 (pu.trans p2) i2⟩⟩
theorem zO {id:String}{r:List V->Hp->VK->Prop}(hc:z9 X (.builtin id) r)(hg:Gl X x)(hm:X.mg x=none)(hv:bootBuiltins x=some (.builtin id))(ha:PL3 X Γ (e::es) ds)
  (hr:∀ vs H F Q,yP F H->IsL X.K F ds vs->(∀ v H' F',Pur F H F' H'->Is X.K F' d v->Q v H')->r vs H Q) (hn:x ≠ "__name__" :=by decide) (hdb:(x==("__debug__" : Str))=false:=by decide)
  (he:starEach (e::es) X.env=(false,eval e X.env)::starEach es X.env:=by rfl) (hpl:(backTo pos (starEach es X.env)).any (·.1)=false:=by rfl):P3 X Γ (.Call (.Name x p) (e::es) [] pos) d:=
 PE.of (wV hc hg hm hv ha hn hdb he hpl) fun σ H Q ⟨F,fh,sl,q⟩=>⟨F,fh,sl,fun vs H' F' pu i=>hr vs H' F' Q pu.fh i fun v H2 F2 p2 i2=>q v H2 F2 (pu.trans p2) i2⟩
end
theorem yeV {X:Cx}{Γ:List (Option D)}{d:D}{ds:List D}{x:Str}{e:Expr}{es:List Expr}{p pos:Pos}{T:String}{r:List V->Hp->VK->Prop}(hc:z9 X (.type T) r)(hg:Gl X x)(hm:X.mg x=none)(hv:bootBuiltins x=some (.type T))(ha:PL3 X Γ (e::es) ds)
  (hr:∀ vs H F Q,yP F H->IsL X.K F ds vs->(∀ v H' F',Pur F H F' H'->Is X.K F' d v->Q v H')->r vs H Q) (hn:x ≠ "__name__" :=by decide) (hdb:(x==("__debug__" : Str))=false:=by decide)
  (he:starEach (e::es) X.env=(false,eval e X.env)::starEach es X.env:=by rfl) (hpl:(backTo pos (starEach es X.env)).any (·.1)=false:=by rfl):P3 X Γ (.Call (.Name x p) (e::es) [] pos) d:=
 PE.of (ZH hc hg hm hv ha hn hdb he hpl) fun σ H Q ⟨F,fh,sl,q⟩=>⟨F,fh,sl,fun vs H' F' pu i=>hr vs H' F' Q pu.fh i fun v H2 F2 p2 i2=>q v H2 F2 (pu.trans p2) i2⟩
theorem Va {K:W.Frag}{F:Hp}{d:D}{vs:List V}(h:IsL K F [d] vs):∃ x,vs=[x]/\Is K F d x:=by
 simp only[IsL] at h;obtain⟨x,r,rfl,i,rfl⟩:=h;exact⟨x,rfl,i⟩
theorem yfY {K:W.Frag}{F:Hp}{d e:D}{vs:List V}(h:IsL K F [d,e] vs):∃ x y,vs=[x,y]/\Is K F d x/\Is K F e y:=by
 simp only[IsL] at h;obtain⟨x,r,rfl,i,y,r2,rfl,i2,rfl⟩:=h;exact⟨x,y,rfl,i,i2⟩
theorem ycv:∀ (n:Nat) {d e:D},dep d<=n->kin d e=true->kin e d=true:=by
 intro n
 induction n with
 |zero=>intro d e hn hk;rcases J1 hk with ⟨rfl,rfl⟩|⟨_,_,rfl,rfl⟩|⟨_,_,rfl,rfl⟩|⟨_,_,rfl,rfl⟩|⟨_,_,rfl,rfl,hk⟩|⟨_,_,rfl,rfl,hk⟩ <;> rw[kin] <;> (rw[dep] at hn;omega)
 |succ n ih=>
  intro d e hn hk;have go:∀ {ds es:List D},zv ds<=n->Jk ds es=true->Jk es ds=true:=by
   intro ds
   induction ds with
   |nil=>intro es _ _;cases es <;> simp[Jk]
   |cons a as ih2=>
    intro es hd hks;cases es with
    |nil=>simp[Jk]
    |cons b bs=>
     rw[zv] at hd;rw[Jk,Yg] at hks;rw[Jk,ih (by omega) hks.1,ih2 (by omega) hks.2];rfl
  rcases J1 hk with ⟨rfl,rfl⟩|⟨_,_,rfl,rfl⟩|⟨_,_,rfl,rfl⟩|⟨_,_,rfl,rfl⟩|⟨_,_,rfl,rfl,hk⟩|⟨_,_,rfl,rfl,hk⟩ <;> rw[kin] <;> (rw[dep] at hn;exact go (by omega) hk)
def ygP (K:W.Frag):R2:=fun x y H Q=>∃ l b xs zs,x=.ref l/\y=.ref b/\SqL K H l xs/\SqL K H b zs/\xs.length+zs.length<=sizeLine/\∀ p,H p=none->Q (.ref p) (upd H p (.lst (xs++zs)))
section
variable {X:Cx}
theorem ya7:OpR X (binaryOp .Add) (ygP X.K):=by
 intro pins s σ H x y v u Q I rx ry h;obtain⟨l,b,xs,zs,rfl,rfl,hH,hB,hz,q⟩:=h;cases rx;cases ry;obtain⟨its,r,⟨o,n,e,c,dd,d⟩,z⟩:=I.list hH;obtain⟨its2,r2,⟨o2,n2,e2,c2,dd2,d2⟩,z2⟩:=I.list hB;obtain⟨oc,od,odt,osl⟩:=o;obtain⟨oc2,od2,odt2,osl2⟩:=o2;dsimp only at c dd d c2 dd2 d2;subst c dd d c2 dd2 d2;have hl:=r.length;have hl2:=r2.length;have ea:its.toArray++its2.toArray=(its++its2).toArray:=by simp
 refine concat_meets ⟨_,e,rfl⟩ ⟨_,e2,rfl⟩ noFill_list_add seq_list_add PySem.F.slot_list_add PySem.F.entry_list_add (PySem.F.args_list_add_2 _ _) (list_addW l b its.toArray its2.toArray n n2 none none osl osl2 (by rw[yD,yD];omega)) ⟨e,e2,?_⟩;rw[ea];exact⟨.ref _,_,I.lnew (t':=s.toks) (r.append r2) (by rw[yy];omega),rfl,q _ I.fresh⟩
theorem ycd (hc:X.calm=true):z9 X (.builtin "sum") (fun xs H Q=>∃ (a:Addr) (ns:List Int),xs=[.ref a]/\SqL X.K H a (ns.map V.int)/\Q (.int ns.sum) H):=by
 intro pins s σ H xs us Q I r h;obtain⟨a,ns,rfl,hl,q⟩:=h;obtain⟨u,rfl,rx⟩:=vh r;cases rx;obtain⟨its,rv,p,_⟩:=I.list hl;have hi:IntsAre its ns:=Xa rv;obtain⟨ys,hx⟩:=hi.allInts.items;have hl':s.heap.IsList a (intItems ys):=hx▸p.isList;refine sum_intListG (I.ok.hd hc) hl' fun h' tk t' hk=>?_;have e1:ns=ys.toList.map (·.1):=by
  rw[←nums_intItems,←hx];exact(show numsOf its.toArray.toList=ns from hi.numsOf).symm
 have e2:preSum (numAt ys) ys.size=ns.sum:=by
  rw[preSum_eq,List.take_of_length_le (by simp),e1]
 rw[e2];exact⟨.int ns.sum,H,I.kept hk,⟨_,rfl⟩,q⟩
def inD (x:D)(ds:List D):Bool:=ds.any fun y=>YV y x
def yiY (K:W.Frag)(neg:Bool):R2:=fun x y H Q=>∃ p xs d ds,y=.ref p/\(SqL K H p xs∨SqT K H p xs)/\IsL K H ds xs/\Is K H d x/\(∀ e∈ds,kin e d=true/\dep e<=60)/\Q (.bl (if neg then !inD d ds else inD d ds)) H
open Classical in
noncomputable def zZ (K:W.Frag)(H:Hp)(d:D)(ds:List D)(u:Value):Bool:=decide (∃ (e:D) (x:V),e∈ds/\Yx x u/\Is K H e x/\YV e d=true)
open Classical in
theorem yat {K:W.Frag}{H:Hp}{d:D}{ds:List D}{u:Value}:zZ K H d ds u=true ↔ ∃ (e:D) (x:V),e∈ds/\Yx x u/\Is K H e x/\YV e d=true:=by
 unfold zZ;exact decide_eq_true_iff
theorem yas {K:W.Frag}{H:Hp}{d:D}{es:List D}:∀ {ds:List D} {xs:List V} {us:List Value},(∀ e∈ds,e∈es)->IsL K H ds xs->YQ xs us->(∀ e e' x,e∈es->e'∈es->Is K H e x->Is K H e' x->YV e d=YV e' d)->
  us.any (zZ K H d es)=ds.any fun y=>YV y d
 |[],_,_,_,h,r,_=>by simp only[IsL] at h;subst h;cases r;rfl
 |e::ds,_,_,hm,h,r,hs=>by
  simp only[IsL] at h;obtain⟨x,xs,rfl,i,h⟩:=h;cases r with
  |cons r1 r=>
   rename_i u us;rw[jL,jL,yas (fun e' q=>hm e' (yf _ q)) h r hs];congr 1;rw[Yk,yat];constructor
   ·rintro⟨e',x',m,r2,i2,b⟩;cases r2.inj r1;rw[←b];exact hs _ _ _ (hm e (by simp)) m i i2
   ·intro b;exact⟨e,x,hm e (by simp),r1,i,b⟩
theorem ku {pins:List (Addr×Obj)}{s:Shared}{σ:L2.St}{H:Hp}{x:V}{v:Value}{xs:List V}{d:D}{ds:List D}{its:List Value}(hu:X.A.units+64<cLine)(I:Inv X pins σ H s)(rx:Yx x v)(hi:IsL X.K H ds xs)(hd:Is X.K H d x)
  (hk:∀ e∈ds,kin e d=true/\dep e<=60) (r:YQ xs its):(∀ w∈its,SeqAt.EqAt X.A.in1 s w v (zZ X.K H d ds w))/\its.toArray.any (zZ X.K H d ds)=inD d ds:=by
 have key:=fun (x y:V) (d e:D) (u v:Value) p q r s' t w=>xv (s:=s) I 60 X.A.in1 (by show X.A.units+1+60<cLine;omega) x y d e u v p q r s' t w;have one:∀ e e' x',e∈ds->e'∈ds->Is X.K H e x'->Is X.K H e' x'->YV e d=YV e' d:=fun e e' x' m m' i i'=>by
  obtain⟨k1,n1⟩:=hk e m;obtain⟨k2,n2⟩:=hk e' m';by_cases b:YV e d=true
  ·have ee:=V9 b;subst ee;have k3:kin e e'=true:=ycv 60 n2 k2;rw[Is.same I 60 n1 k3 i i']
  ·by_cases b':YV e' d=true
   ·have ee:=V9 b';subst ee;rw[Is.same I 60 n1 k1 i i']
   ·rw[Qn.mpr b,Qn.mpr b']
 refine⟨fun w hw=>?_,?_⟩
 ·obtain⟨i,hl,rfl⟩:=List.getElem_of_mem hw;have hx:i<xs.length:=by rw[r.length];exact hl
  have x1:xs[i]?=some xs[i]:=al_getElem?_eq_getElem hx;obtain⟨w',e1,r1⟩:=r.get x1;rw[al_getElem?_eq_getElem hl] at e1;cases e1;obtain⟨e,e2,i2⟩:=hi.get' x1;have m:=al_mem_of_getElem? e2;have z:=key _ _ _ _ _ _ (hk e m).2 i2 hd (hk e m).1 r1 rx;have:zZ X.K H d ds its[i]=YV e d:=by
   rw[Yk,yat];constructor
   ·rintro⟨e',x',m',r2,i3,b⟩;cases r2.inj r1;rw[←b];exact one _ _ _ m m' i2 i3
   ·intro b;exact⟨e,_,m,r1,i2,b⟩
  rw[this];exact z
 ·rw[show its.toArray.any (zZ X.K H d ds)=its.any (zZ X.K H d ds) by simp,yas (fun _ z=>z) hi r one];rfl
theorem yhE (hu:X.A.units+64<cLine):OpR X (compareOp .In) (yiY X.K false):=by
 intro pins s σ H x y v u Q I rx ry h;obtain⟨p,xs,d,ds,rfl,hq,hi,hd,hk,q⟩:=h;cases ry;rcases hq with hq|hq
 ·obtain⟨its,r,pl,hz⟩:=I.list hq;obtain⟨c1,c2⟩:=ku hu I rx hi hd hk r;refine SeqAt.in_listAt (zZ X.K H d ds) pl.isList (fun w hw=>c1 w (by simpa using hw)) ⟨.bl _,H,I,rfl,?_⟩;rw[c2];exact q
 ·obtain⟨its,r,pl,hz⟩:=I.tuple hq;obtain⟨c1,c2⟩:=ku hu I rx hi hd hk r;refine SeqAt.in_tupleAt (zZ X.K H d ds) pl (fun w hw=>c1 w (by simpa using hw)) ⟨.bl _,H,I,rfl,?_⟩;rw[c2];exact q
theorem Uj (hu:X.A.units+64<cLine):OpR X (compareOp .NotIn) (yiY X.K true):=by
 intro pins s σ H x y v u Q I rx ry h;obtain⟨p,xs,d,ds,rfl,hq,hi,hd,hk,q⟩:=h;cases ry;rcases hq with hq|hq
 ·obtain⟨its,r,pl,hz⟩:=I.list hq;obtain⟨c1,c2⟩:=ku hu I rx hi hd hk r;refine SeqAt.notIn_listAt (zZ X.K H d ds) pl.isList (fun w hw=>c1 w (by simpa using hw)) ⟨.bl _,H,I,rfl,?_⟩;rw[c2];exact q
 ·obtain⟨its,r,pl,hz⟩:=I.tuple hq;obtain⟨c1,c2⟩:=ku hu I rx hi hd hk r;refine SeqAt.notIn_tupleAt (zZ X.K H d ds) pl (fun w hw=>c1 w (by simpa using hw)) ⟨.bl _,H,I,rfl,?_⟩;rw[c2];exact q
def ycH (K:W.Frag):R2:=fun x y H Q=>∃ a b xs ys,x=.ref a/\y=.ref b/\SqT K H a xs/\SqT K H b ys/\xs.length+ys.length<=sizeLine/\
 (xs=[]->Q (.ref b) H)/\(ys=[]->Q (.ref a) H)/\∀ p,H p=none->Q (.ref p) (upd H p (.tup (xs++ys)))
theorem ydT:OpR X (binaryOp .Add) (ycH X.K):=by
 intro pins s σ H x y v u Q I rx ry h;obtain⟨a,b,xs,ys,rfl,rfl,ha,hb,hz,q0,q1,q2⟩:=h;by_cases hx:xs=[]
 ·cases rx;cases ry;obtain⟨its,r1,p1,_⟩:=I.tuple ha;obtain⟨its2,r2,p2,_⟩:=I.tuple hb;obtain⟨⟨cls,dd,data,sl⟩,ho,hc,n,hd⟩:=id p1;obtain⟨⟨cls2,dd2,data2,sl2⟩,ho2,hc2,n2,hd2⟩:=id p2;simp only at hc hd hc2 hd2;subst hc hd hc2 hd2;exact concat_meets ⟨_,ho,rfl⟩ ⟨_,ho2,rfl⟩ noFill_tuple_add seq_tuple_add PySem.F.slot_tuple_add PySem.F.entry_tuple_add (PySem.F.args_tuple_add_2 _ _)
   (tuple_addW0 a b its.toArray its2.toArray n n2 dd dd2 sl sl2 (by simp[r1.nil_iff.mpr hx])) ⟨ho,ho2,⟨.ref b,H,I,rfl,q0 hx⟩⟩
 ·exact yfQ pins s σ H _ _ v u Q I rx ry ⟨a,b,xs,ys,rfl,rfl,ha,hb,hx,hz,q1,fun _=>q2⟩
end
section
variable {X:Cx}{Γ:List (Option D)}{a b c:Expr}{d d':D}{pos p:Pos}{ds es:List D}
theorem isT {K:W.Frag}{F:Hp}{v:V}(h:Is K F (.tup ds) v):∃ a xs,v=.ref a/\SqT K F a xs/\IsL K F ds xs:=by simpa only[Is] using h
theorem Xz {K:W.Frag}{F:Hp}{v:V}(h:Is K F (.lst ds) v):∃ a xs,v=.ref a/\Rd F a (.lst xs)/\IsL K F ds xs:=by simpa only[Is] using h
theorem jn {K:W.Frag}{F:Hp}{v:V}(h:Is K F (.lst ds) v):∃ a xs,v=.ref a/\SqL K F a xs/\IsL K F ds xs:=by
 obtain⟨a,xs,e,r,i⟩:=Xz h;exact⟨a,xs,e,.inl r,i⟩
theorem Is.tupI {K:W.Frag}{F:Hp}{a:Addr}{xs:List V}(h:SqT K F a xs)(i:IsL K F ds xs):Is K F (.tup ds) (.ref a):=by simp only[Is];exact⟨a,xs,rfl,h,i⟩
theorem Is.lstI {K:W.Frag}{F:Hp}{a:Addr}{xs:List V}(h:Rd F a (.lst xs))(i:IsL K F ds xs):Is K F (.lst ds) (.ref a):=by simp only[Is];exact⟨a,xs,rfl,h,i⟩
theorem yh6 (ha:P3 X Γ a (.lst ds))(hb:P3 X Γ b (.lst es))(hz:ds.length+es.length<=sizeLine):PF3 X Γ (.BinOp a .Add b pos) (ds++es):=
 PE.of (vR ya7 ha hb) fun σ H Q ⟨F,fh,sl,k⟩=>tP2 ⟨F,fh,sl,fun x y H2 F2 p i1 i2=>by
  obtain⟨l,xs,rfl,s1,j1⟩:=jn i1;obtain⟨l2,ys,rfl,s2,j2⟩:=jn i2;exact⟨l,l2,xs,ys,rfl,rfl,p.fh.seq s1,p.fh.seq s2,by rw[j1.len,j2.len];exact hz,fun q hq=>k q _ _ F2 (p.trans (Pur.layOwn p.fh hq)) (p.hh.free hq) (p.fh.free hq) yL (j1.append j2)⟩⟩
theorem WV (ha:P3 X Γ a (.lst ds))(hb:P3 X Γ b (.lst es))(hz:ds.length+es.length<=sizeLine):P3 X Γ (.BinOp a .Add b pos) (.lst (ds++es)):=(yh6 ha hb hz).p
theorem yh7 {x y:Str}(ha:P3 X Γ a (.str x))(hb:P3 X Γ b (.str y))(hz:x.length+y.length<=sizeLine):P3 X Γ (.BinOp a .Add b pos) (.str (x++y)):=
 yeW Xo ha hb fun v w H F Q fh i1 i2 k=>⟨x,y,isS i1,isS i2,hz,k _ _ _ (Pur.refl fh) (Wg F)⟩
theorem ze (hm:X.mg "len" = none)(hg:Gl X "len")(ha:P3 X Γ a (.lst ds))(he:starEach [a] X.env=(false,eval a X.env)::starEach [] X.env:=by rfl):P3 X Γ (.Call (.Name "len" p) [a] [] pos) (.int ds.length):=
 zO JB hg hm PySem.boot_len (yd ha yt he) (fun vs H F Q fh i k=>by
  obtain⟨x,rfl,j0⟩:=Va i;obtain⟨l,xs,rfl,s1,j1⟩:=jn j0;exact⟨l,xs,rfl,.inl (fh.seq s1),k _ _ _ (Pur.refl fh) (by rw[j1.len];exact QG F)⟩) (by decide) (by decide) he
theorem jD (hm:X.mg "len" = none)(hg:Gl X "len")(ha:P3 X Γ a (.tup ds))(he:starEach [a] X.env=(false,eval a X.env)::starEach [] X.env:=by rfl):P3 X Γ (.Call (.Name "len" p) [a] [] pos) (.int ds.length):=
 zO JB hg hm PySem.boot_len (yd ha yt he) (fun vs H F Q fh i k=>by
  obtain⟨x,rfl,j0⟩:=Va i;obtain⟨l,xs,rfl,s1,j1⟩:=isT j0;exact⟨l,xs,rfl,.inr (Qe fh s1),k _ _ _ (Pur.refl fh) (by rw[j1.len];exact QG F)⟩) (by decide) (by decide) he
theorem yih {ns:List Int}(hm:X.mg "len" = none)(hg:Gl X "len")(ha:P3 X Γ a (.scr ns))(he:starEach [a] X.env=(false,eval a X.env)::starEach [] X.env:=by rfl):P3 X Γ (.Call (.Name "len" p) [a] [] pos) (.int ns.length):=
 zO JB hg hm PySem.boot_len (yd ha yt he) (fun vs H F Q fh i k=>by
  obtain⟨x,rfl,j0⟩:=Va i;simp only[Is] at j0;obtain⟨l,rfl,s1⟩:=j0;exact⟨l,_,rfl,.inl (fh.seq s1),k _ _ _ (Pur.refl fh) (by rw[ye];exact QG F)⟩) (by decide) (by decide) he
theorem yjC {ns:List Int}{i n:Int}(ha:P3 X Γ a (.scr ns))(hb:P3 X Γ b (.int i))(he:atI ns i=some n)(hs:J8 b:=by exact fun _ _=>rfl):P3 X Γ (.Subscript a b pos) (.int n):=
 yaW vn ha hb (fun x y H F Q fh i1 i2 k=>by
  simp only[Is] at i1 i2;obtain⟨l,rfl,h1⟩:=i1;refine⟨l,_,i,.int n,rfl,i2,fh.seq h1,?_,k _ H F (Pur.refl fh) (QG F)⟩;unfold atI at he ⊢;rw[ye];cases q:ixN ns.length i with
  |none=>rw[q] at he;cases he
  |some j=>
   rw[q] at he;have he':ns[j]?=some n:=he;show(ns.map V.int)[j]?=_;rw[al_getElem?_map,he'];rfl) hs
theorem yic {x:Str}(hm:X.mg "len" = none)(hg:Gl X "len")(ha:P3 X Γ a (.str x))(hz:x.length<=sizeLine)(he:starEach [a] X.env=(false,eval a X.env)::starEach [] X.env:=by rfl):P3 X Γ (.Call (.Name "len" p) [a] [] pos) (.int x.length):=
 zO Uv hg hm PySem.boot_len (yd ha yt he) (fun vs H F Q fh i k=>by
  obtain⟨v,rfl,j0⟩:=Va i;exact⟨x,by rw[isS j0],hz,k _ _ _ (Pur.refl fh) (QG F)⟩) (by decide) (by decide) he
theorem yeJ:bootBuiltins "int" = some (.type "int"):=by decide +kernel
theorem yfE:bootBuiltins "dict" = some (.type "dict"):=by decide +kernel
theorem yd1:bootBuiltins "tuple" = some (.type "tuple"):=by decide +kernel
theorem ygF:bootBuiltins "list" = some (.type "list"):=by decide +kernel
theorem yiZ:bootBuiltins "sum" = some (.builtin "sum"):=by decide +kernel
theorem ZO (hm:X.mg "list" = none)(hg:Gl X "list")(ha:P3 X Γ a d)(hd:d=.lst ds∨d=.tup ds)(he:starEach [a] X.env=(false,eval a X.env)::starEach [] X.env:=by rfl):PF3 X Γ (.Call (.Name "list" p) [a] [] pos) ds:=
 PE.of (ZH wy hg hm ygF (yd ha yt he) (by decide) (by decide) he) fun σ H Q ⟨F,fh,sl,q⟩=>⟨F,fh,sl,fun vs H' F' pu i=>by
  obtain⟨x,rfl,j0⟩:=Va i;rcases hd with rfl|rfl
  ·obtain⟨l,xs,rfl,s1,j1⟩:=jn j0;exact⟨l,xs,rfl,.inl (pu.fh.seq s1),fun l' hl=>q l' _ _ F' (pu.trans (Pur.layOwn pu.fh hl)) (pu.hh.free hl) (pu.fh.free hl) yL j1⟩
  ·obtain⟨l,xs,rfl,s1,j1⟩:=isT j0;exact⟨l,xs,rfl,.inr (Qe pu.fh s1),fun l' hl=>q l' _ _ F' (pu.trans (Pur.layOwn pu.fh hl)) (pu.hh.free hl) (pu.fh.free hl) yL j1⟩⟩
theorem yjP {ns:List Int}(hc:X.calm=true)(hm:X.mg "sum" = none)(hg:Gl X "sum")(ha:P3 X Γ a (.lst (ns.map D.int)))(he:starEach [a] X.env=(false,eval a X.env)::starEach [] X.env:=by rfl):P3 X Γ (.Call (.Name "sum" p) [a] [] pos) (.int ns.sum):=
 zO (ycd hc) hg hm yiZ (yd ha yt he) (fun vs H F Q fh i k=>by
  obtain⟨x,rfl,j0⟩:=Va i;obtain⟨l,xs,rfl,s1,j1⟩:=jn j0;have e:=IsL.of_ints j1;subst e;exact⟨l,ns,rfl,fh.seq s1,k _ _ _ (Pur.refl fh) (QG F)⟩) (by decide) (by decide) he
theorem yhZ (hu:X.A.units+64<cLine)(ha:P3 X Γ a d)(hb:P3 X Γ b d')(hd:d'=.lst ds∨d'=.tup ds)(hk:∀ e∈ds,kin e d=true/\dep e<=60):C3 X Γ a .In b (inD d ds):=
 c_R (yhE hu) ha hb fun x y H F Q fh i1 i2 q=>by
  rcases hd with rfl|rfl
  ·obtain⟨l,xs,rfl,s1,j1⟩:=jn i2;exact⟨l,xs,d,ds,rfl,.inl (fh.seq s1),j1.mono fh,i1.mono fh,hk,q⟩
  ·obtain⟨l,xs,rfl,s1,j1⟩:=isT i2;exact⟨l,xs,d,ds,rfl,.inr (Qe fh s1),j1.mono fh,i1.mono fh,hk,q⟩
theorem ZI (hu:X.A.units+64<cLine)(ha:P3 X Γ a d)(hb:P3 X Γ b d')(hd:d'=.lst ds∨d'=.tup ds)(hk:∀ e∈ds,kin e d=true/\dep e<=60):C3 X Γ a .NotIn b (!inD d ds):=
 c_R (Uj hu) ha hb fun x y H F Q fh i1 i2 q=>by
  rcases hd with rfl|rfl
  ·obtain⟨l,xs,rfl,s1,j1⟩:=jn i2;exact⟨l,xs,d,ds,rfl,.inl (fh.seq s1),j1.mono fh,i1.mono fh,hk,q⟩
  ·obtain⟨l,xs,rfl,s1,j1⟩:=isT i2;exact⟨l,xs,d,ds,rfl,.inr (Qe fh s1),j1.mono fh,i1.mono fh,hk,q⟩
end
structure Bs where
 M:List Addr
 F:Hp
 H:Hp
abbrev Ow:=Hp->HO->Prop
abbrev Om:=List (Addr×Ow)
abbrev Ga:=List (Option D)
def qg (K:W.Frag)(ds:List D):Ow:=fun F o=>∃ xs,o=.lst xs/\IsL K F ds xs
structure Sat (K:W.Frag)(B:Bs)(Γ:Ga)(Ω:Om)(F:Hp)(σ:L2.St)(H:Hp):Prop where
 f0:yP B.F F
 fh:yP F H
 fr:∀ b,F b≠none->B.F b≠none∨B.H b=none∨b∈B.M
 kp:∀ b o,b∉B.M->B.H b=some o->H b=some o
 nd:(Ω.map (·.1)).Nodup
 od:∀ p∈Ω,p.1∈B.M∨B.H p.1=none
 own:∀ p∈Ω,F p.1=none/\∃ o,H p.1=some o/\∀ F',yP F F'->p.2 F' o
 sl:Sl K F Γ σ
section
variable {K:W.Frag}{B:Bs}{Γ Γ':Ga}{Ω:Om}{F F':Hp}{σ σ':L2.St}{H H':Hp}
theorem Sat.freeB (S:Sat K B Γ Ω F σ H){b:Addr}(h:H b=none):B.H b=none∨b∈B.M:=by
 by_cases hb:b∈B.M
 ·exact .inr hb
 ·refine .inl ?_;cases q:B.H b with
  |none=>rfl
  |some o=>rw[S.kp b o hb q] at h;cases h
theorem Sat.pur (S:Sat K B Γ Ω F σ H)(p:Pur F H F' H'):Sat K B Γ Ω F' σ H' where
 f0:=S.f0.trans p.ff
 fh:=p.fh
 fr:=fun b q=>(p.new b q).elim (fun z=>S.fr b z) fun z=>(S.freeB z).elim (fun w=>.inr (.inl w)) fun w=>.inr (.inr w)
 kp:=fun b o hb e=>p.hh _ _ (S.kp b o hb e)
 nd:=S.nd
 od:=S.od
 own:=fun q hq=>by
  obtain⟨h1,o,h2,h3⟩:=S.own q hq;refine⟨?_,o,p.hh _ _ h2,fun F2 e=>h3 F2 (p.ff.trans e)⟩;cases z:F' q.1 with
  |none=>rfl
  |some u=>
   rcases p.new q.1 (by rw[z];simp) with w|w
   ·exact absurd h1 w
   ·rw[h2] at w;cases w
 sl:=S.sl.mono p.ff
theorem Sat.slots (S:Sat K B Γ Ω F σ H)(h:Sl K F Γ' σ'):Sat K B Γ' Ω F σ' H:=⟨S.f0,S.fh,S.fr,S.kp,S.nd,S.od,S.own,h⟩
theorem Sl.set {i:Nat}{d:D}{v:V}(h:Sl K F Γ σ)(hi:i<σ.length)(hv:Is K F d v):Sl K F (Γ.set i (some d)) (σ.set i (some v)):=fun j e q=>by
 by_cases hj:i=j
 ·subst hj;rw[al_getElem?_set] at q;split at q
  ·split at q
   ·cases q;exact⟨v,by rw[al_getElem?_set];simp[hi],hv⟩
   ·cases q
  ·contradiction
 ·rw[al_getElem?_set_ne hj] at q;obtain⟨u,h1,h2⟩:=h j e q;exact⟨u,by rw[al_getElem?_set_ne hj];exact h1,h2⟩
theorem Sl.nil:Sl K F [] σ:=fun j e q=>by simp at q
theorem Sat.toPur (S:Sat K B Γ Ω F σ H)(hM:B.M=[]):Pur B.F B.H F H:=⟨S.f0,S.fh,fun b o e=>S.kp b o (by rw[hM];simp) e,fun b q=>(S.fr b q).elim .inl fun z=>z.elim .inr fun w=>by rw[hM] at w;cases w⟩
end
structure E3 where
 nx:Ga->Om->Prop
 rt:D->Om->Prop
 bk:Ga->Om->Prop:=fun _ _=>False
 ct:Ga->Om->Prop:=fun _ _=>False
def nX (K:W.Frag)(B:Bs)(F0:Hp)(N:Ga->Om->Prop):L2.St->Hp->Prop:=fun σ H=>∃ Γ Ω F,Sat K B Γ Ω F σ H/\yP F0 F/\N Γ Ω
def E3.to (K:W.Frag)(B:Bs)(F0:Hp)(E:E3):Ends:=⟨nX K B F0 E.nx,fun v H=>∃ d Ω F,(∃ σ,Sat K B [] Ω F σ H)/\yP F0 F/\Is K F d v/\E.rt d Ω,nX K B F0 E.bk,nX K B F0 E.ct⟩
theorem nX.mono {K:W.Frag}{B:Bs}{F0 F1:Hp}{N:Ga->Om->Prop}{σ:L2.St}{H:Hp}(e:yP F0 F1)(h:nX K B F1 N σ H):nX K B F0 N σ H:=by
 obtain⟨Γ,Ω,F,S,f,n⟩:=h;exact⟨Γ,Ω,F,S,e.trans f,n⟩
def WS (X:Cx)(sts:List Stmt):TS:=fun D σ H=>∀ (pins:List (Addr×Obj)) (s:Shared),Inv X pins σ H s->wpAny (model X.prog X.w) X.A (execs sts X.env) (SP X pins D) X.xe s
def WE (X:Cx)(e:Expr):TE:=fun σ H Q=>∀ (pins:List (Addr×Obj)) (s:Shared),Inv X pins σ H s->wpAny (model X.prog X.w) X.A (eval e X.env) (EP X pins σ Q) X.xe s
def WT (X:Cx)(e:Expr):TT:=fun σ H Q=>∀ (pins:List (Addr×Obj)) (s:Shared),Inv X pins σ H s->wpAny (model X.prog X.w) X.A (isTrue e X.env (eval e X.env)) (TP X pins σ Q) X.xe s
theorem qu {X:Cx}{sts:List Stmt}:PSs X sts (WS X sts):=fun pins s σ H D I h=>h pins s I
theorem Qt {X:Cx}{e:Expr}:PE X e (WE X e):=fun pins s σ H Q I h=>h pins s I
theorem yjI {X:Cx}{e:Expr}:PT X e (WT X e):=fun pins s σ H Q I h=>h pins s I
theorem PT3.wt {X:Cx}{Γ:Ga}{e:Expr}{k:Bool}(h:PT3 X Γ e k){σ:L2.St}{H:Hp}{Q:Bool->Hp->Prop}(q:tPT X.K Γ k σ H Q):WT X e σ H Q:=fun pins s I=>h pins s σ H Q I q
theorem P3.we {X:Cx}{Γ:Ga}{e:Expr}{d:D}(h:P3 X Γ e d){σ:L2.St}{H:Hp}{Q:VK}(q:tP X.K Γ d σ H Q):WE X e σ H Q:=fun pins s I=>h pins s σ H Q I q
def W3 (X:Cx)(B:Bs)(sts:List Stmt)(Γ:Ga)(Ω:Om)(E:E3):Prop:=∀ F σ H,Sat X.K B Γ Ω F σ H->WS X sts (E.to X.K B F) σ H
section
variable {X:Cx}{B:Bs}{Γ:Ga}{Ω:Om}{E:E3}{rest body:List Stmt}{e c:Expr}{d:D}{pos pos':Pos}{k:Bool}
theorem qh {D D':Ends}(hn:∀ σ H,D.nx σ H->D'.nx σ H)(hr:∀ v H,D.rt v H->D'.rt v H)(hb:∀ σ H,D.bk σ H->D'.bk σ H)(hc:∀ σ H,D.ct σ H->D'.ct σ H){σ:L2.St}{H:Hp}(h:WS X body D σ H):WS X body D' σ H:=fun pins s I=>
 thn (h pins s I) fun f s' q=>by
  cases f with
  |next=>obtain⟨σ',H',I',q⟩:=q;exact⟨σ',H',I',hn _ _ q⟩
  |brk=>obtain⟨σ',H',I',q⟩:=q;exact⟨σ',H',I',hb _ _ q⟩
  |cont=>obtain⟨σ',H',I',q⟩:=q;exact⟨σ',H',I',hc _ _ q⟩
  |ret u=>obtain⟨v,σ',H',I',r,q⟩:=q;exact⟨v,σ',H',I',r,hr _ _ q⟩
theorem Y3 {F0 F1:Hp}(e:yP F0 F1){σ:L2.St}{H:Hp}(h:WS X body (E.to X.K B F1) σ H):WS X body (E.to X.K B F0) σ H:=
 qh (D:=E.to X.K B F1) (D':=E.to X.K B F0) (fun _ _ q=>q.mono e) (fun v H ⟨d,Ω,F,S,f,i,r⟩=>⟨d,Ω,F,S,e.trans f,i,r⟩) (fun _ _ q=>q.mono e) (fun _ _ q=>q.mono e) h
theorem yV (h:E.nx Γ Ω):W3 X B [] Γ Ω E:=fun F σ H S pins s I=>ygv pins s σ H _ I ⟨Γ,Ω,F,S,yP.refl _,h⟩
theorem YL {i:Nat}{x:Str}(hN:X.N.Nodup)(hi:X.N[i]?=some x)(hx:Loc X.env.scope x)(he:P3 X Γ e d)(h:W3 X B rest (Γ.set i (some d)) Ω E)(hs:swapsWith e (some (.Name x pos')) pos.line X.env=pure false:=by rfl)
  (hf:X.fn x=true∨X.env.scope.names.lookup x=some .local:=by first|exact .inl rfl|exact .inr rfl|assumption):W3 X B (.Assign [.Name x pos'] e pos::rest) Γ Ω E:=fun F σ H S pins s I=>
 YX (XQ hN hi hx he hs hf) qu pins s σ H _ I ⟨F,S.fh,S.sl,fun v H' F' p i'=>Y3 p.ff (h F' _ H' ((S.pur p).slots (Sl.set (S.sl.mono p.ff) (by rw[I.len];exact(al_getElem?_eq_some_iff.mp hi).1) i')))⟩
theorem Y4 (he:P3 X Γ e d)(h:E.rt d Ω):W3 X B (.Return (some e) pos::rest) Γ Ω E:=fun F σ H S pins s I=>
 YX (Uq he) ZL pins s σ H _ I ⟨F,S.fh,S.sl,fun v H' F' p i'=>⟨d,Ω,F',⟨σ,(S.pur p).slots Sl.nil⟩,p.ff,i',h⟩⟩
theorem wn (he:P3 X Γ e d)(h:W3 X B rest Γ Ω E)(hs:swapsWith e none pos.line X.env=pure false:=by rfl):W3 X B (.Expr e pos::rest) Γ Ω E:=fun F σ H S pins s I=>
 YX (vL he hs) qu pins s σ H _ I ⟨F,S.fh,S.sl,fun v H' F' p i'=>Y3 p.ff (h F' _ H' (S.pur p))⟩
abbrev E3.then (E:E3)(X:Cx)(B:Bs)(rest:List Stmt):E3:={E with nx:=fun Γ' Ω'=>W3 X B rest Γ' Ω' E}
theorem kq {F:Hp}{σ:L2.St}{H:Hp}(h:nX X.K B F (fun Γ' Ω'=>W3 X B rest Γ' Ω' E) σ H):WS X rest (E.to X.K B F) σ H:=by
 obtain⟨Γ',Ω',F',S,f,w⟩:=h;exact Y3 f (w F' σ H S)
theorem vy {F:Hp}{σ:L2.St}{H:Hp}(h:WS X body ((E.then X B rest).to X.K B F) σ H):WS X body {(E.to X.K B F) with nx:=WS X rest (E.to X.K B F)} σ H:=
 qh (D:=(E.then X B rest).to X.K B F) (D':={(E.to X.K B F) with nx:=WS X rest (E.to X.K B F)}) (fun _ _ q=>kq q) (fun _ _ q=>q) (fun _ _ q=>q) (fun _ _ q=>q) h
theorem JA {a b:List Stmt}(hc:PT3 X Γ c k)(ht:k=true->W3 X B a Γ Ω (E.then X B rest))(hf:k=false->W3 X B b Γ Ω (E.then X B rest)):W3 X B (.If c a b pos::rest) Γ Ω E:=fun F σ H S pins s I=>by
 cases k with
 |true=>exact YX (ycI hc qu ZL) qu pins s σ H _ I ⟨F,S.fh,S.sl,fun H' F' p=>ygD (vy (Y3 p.ff (ht rfl F' σ H' (S.pur p))))⟩
 |false=>exact YX (ycI hc ZL qu) qu pins s σ H _ I ⟨F,S.fh,S.sl,fun H' F' p=>yfV (vy (Y3 p.ff (hf rfl F' σ H' (S.pur p))))⟩
theorem UX (hp:PassesOwn (model X.prog X.w) X.A X.env X.xe)(J:Ga->Om->Prop)(μ:Ga->Om->Nat)(h0:J Γ Ω)
  (step:∀ Γ Ω,J Γ Ω->∃ k,PT3 X Γ c k/\(k=true->W3 X B body Γ Ω {E with nx:=fun Γ' Ω'=>J Γ' Ω'/\μ Γ' Ω'<μ Γ Ω,ct:=fun Γ' Ω'=>J Γ' Ω'/\μ Γ' Ω'<μ Γ Ω,bk:=fun Γ' Ω'=>W3 X B rest Γ' Ω' E})/\(k=false->W3 X B rest Γ Ω E)) :
  W3 X B (.While c body [] pos::rest) Γ Ω E:=fun F σ H S pins s I=>by
 refine YX (yc2 hp yjI qu) qu pins s σ H _ I ⟨fun m σ H=>∃ Γ Ω F1,Sat X.K B Γ Ω F1 σ H/\yP F F1/\J Γ Ω/\μ Γ Ω=m,⟨_,Γ,Ω,F,S,yP.refl _,h0,rfl⟩,?_⟩;rintro m σ H ⟨Γ,Ω,F1,S,f1,j,rfl⟩;obtain⟨k,hc,ht,hf⟩:=step Γ Ω j;refine hc.wt ⟨F1,S.fh,S.sl,fun H' F' p=>?_⟩;cases k with
 |true=>
  refine ygD ⟨nX X.K B F fun Γ' Ω'=>J Γ' Ω'/\μ Γ' Ω'<μ Γ Ω,?_,qh (D:=E3.to X.K B F {E with nx:=fun Γ' Ω'=>J Γ' Ω'/\μ Γ' Ω'<μ Γ Ω,ct:=fun Γ' Ω'=>J Γ' Ω'/\μ Γ' Ω'<μ Γ Ω,bk:=fun Γ' Ω'=>W3 X B rest Γ' Ω' E})
   (D':={nx:=nX X.K B F fun Γ' Ω'=>J Γ' Ω'/\μ Γ' Ω'<μ Γ Ω,rt:=(E.to X.K B F).rt,bk:=WS X rest (E.to X.K B F),ct:=nX X.K B F fun Γ' Ω'=>J Γ' Ω'/\μ Γ' Ω'<μ Γ Ω}) (fun _ _ q=>q) (fun _ _ q=>q) (fun _ _ q=>kq q) (fun _ _ q=>q) (Y3 (f1.trans p.ff) (ht rfl F' σ H' (S.pur p)))⟩
  rintro σ' H' ⟨Γ',Ω',F',S',f',j',l⟩;exact⟨_,l,Γ',Ω',F',S',f',j',rfl⟩
 |false=>exact yfV (Y3 (f1.trans p.ff) (hf rfl F' σ H' (S.pur p)))
end
def G3 (X:Cx)(tg:Expr)(Γ:Ga)(d:D)(Γ':Ga):Prop:=∃ g,PG X tg g/\∀ (F:Hp) (σ:L2.St) (H:Hp) (v:V) (Q:L2.St->Hp->Prop),yP F H->Is X.K F d v->Sl X.K F Γ σ->σ.length=X.N.length->(∀ σ',Sl X.K F Γ' σ'->σ'.length=X.N.length->Q σ' H)->g v σ H Q
def GL3 (X:Cx)(tg:List Expr)(Γ:Ga)(ds:List D)(Γ':Ga):Prop:=∃ g,PGs X tg g/\∀ (F:Hp) (σ:L2.St) (H:Hp) (vs:List V) (Q:L2.St->Hp->Prop),yP F H->IsL X.K F ds vs->Sl X.K F Γ σ->σ.length=X.N.length->(∀ σ',Sl X.K F Γ' σ'->σ'.length=X.N.length->Q σ' H)->g vs σ H Q
section
variable {X:Cx}{Γ Γ1 Γ2:Ga}{d:D}{ds:List D}{pos:Pos}{tg:Expr}{tgs:List Expr}
theorem Yc {i:Nat}{x:Str}(hN:X.N.Nodup)(hi:X.N[i]?=some x)(hx:Loc X.env.scope x)(hf:X.fn x=true∨X.env.scope.names.lookup x=some .local:=by first|exact .inl rfl|exact .inr rfl|assumption):G3 X (.Name x pos) Γ d (Γ.set i (some d)):=
 ⟨_,ygc hN hi hx hf,fun F σ H v Q fh iv sl hl q=>q _ (sl.set (by rw[hl];exact(al_getElem?_eq_some_iff.mp hi).1) iv) (by rw[List.length_set];exact hl)⟩
theorem Z9:GL3 X [] Γ [] Γ:=⟨_,ygI,fun F σ H vs Q fh iv sl hl q=>by
 simp only[IsL] at iv;exact⟨iv,q σ sl hl⟩⟩
theorem QL (h1:G3 X tg Γ d Γ1)(h2:GL3 X tgs Γ1 ds Γ2)(hs:∀ {g:TG} {u:TGs},PG X tg g->PGs X tgs u->PGs X (tg::tgs) (ygN g u):=by exact fun a b=>yc3 a b):GL3 X (tg::tgs) Γ (d::ds) Γ2:=by
 obtain⟨g,p1,q1⟩:=h1;obtain⟨u,p2,q2⟩:=h2;refine⟨_,hs p1 p2,fun F σ H vs Q fh iv sl hl q=>?_⟩;simp only[IsL] at iv;obtain⟨x,r,rfl,i1,i2⟩:=iv;exact⟨x,r,rfl,q1 F σ H x _ fh i1 sl hl fun σ' sl' hl'=>q2 F σ' H r _ fh i2 sl' hl' q⟩
theorem kI {k:Nat}(hc:X.calm=true)(h:GL3 X tgs Γ ds Γ1)(hn:(assignEach tgs X.env).length=ds.length:=by rfl)(hst:(assignEach tgs X.env).findIdx? (·.1)=none:=by rfl):G3 X (.Tuple tgs k pos) Γ (.tup ds) Γ1:=by
 obtain⟨g,p,q⟩:=h;refine⟨_,yiQ hc p hn hst,fun F σ H v Q fh iv sl hl k=>?_⟩;obtain⟨a,xs,rfl,h1,h2⟩:=isT iv;exact⟨a,xs,rfl,Qe fh h1,h2.len,q F σ H xs Q fh h2 sl hl k⟩
end
def ya4 (K:W.Frag)(F0:Hp)(J:It)(ds:List D):Prop:=∀ (i:Nat) (F H:Hp),yP F0 F->yP F H->
 (∀ d,ds[i]?=some d->J.go i H/\∀ x H',J.yld i H x H'->∃ F',Pur F H F' H'/\Is K F' d x)/\(ds.length<=i->J.stop i H)
def I3 (X:Cx)(Γ:Ga)(tg iter:Expr)(ds:List D):Prop:=PI X tg iter fun σ H R=>∃ F,yP F H/\Sl X.K F Γ σ/\∀ J H' F',Pur F H F' H'->ya4 X.K F' J ds->R J H'
theorem PI.of {X:Cx}{tg e:Expr}{t u:TI}(h:PI X tg e t)(i:∀ σ H R,u σ H R->t σ H R):PI X tg e u:=fun pins s σ H Q I hq=>h pins s σ H Q I (i _ _ _ hq)
section
variable {X:Cx}{Γ Γ1:Ga}{d:D}{ds es:List D}{pos p:Pos}{tg a b:Expr}
theorem Qk (hl:P3 X Γ a (.lst ds)):I3 X Γ tg a ds:=PI.of (ya6 hl) fun σ H R ⟨F,fh,sl,q⟩=>⟨F,fh,sl,fun v H' F' p i=>by
 obtain⟨l,xs,rfl,s1,j1⟩:=jn i;refine⟨l,rfl,⟨xs,p.fh.seq s1⟩,q _ H' F' p fun n F2 H2 e1 e2=>⟨fun d w=>?_,fun w=>⟨xs,(e1.trans e2).seq s1,by rw[j1.len];exact w⟩⟩⟩;obtain⟨x,hx,ix⟩:=j1.get w;refine⟨⟨xs,x,(e1.trans e2).seq s1,hx⟩,fun y H3 ⟨z,w'⟩=>?_⟩;subst z;have:=w' xs ((e1.trans e2).seq s1);rw[hx] at this;cases this;exact⟨F2,Pur.refl e2,ix.mono e1⟩⟩
theorem yhg (hl:P3 X Γ a (.tup ds)):I3 X Γ tg a ds:=PI.of (yhI hl) fun σ H R ⟨F,fh,sl,q⟩=>⟨F,fh,sl,fun v H' F' p i=>by
 obtain⟨l,xs,rfl,s1,j1⟩:=isT i;refine⟨l,rfl,⟨xs,Qe p.fh s1⟩,q _ H' F' p fun n F2 H2 e1 e2=>⟨fun d w=>?_,fun w=>⟨xs,Qe (e1.trans e2) s1,by rw[j1.len];exact w⟩⟩⟩;obtain⟨x,hx,ix⟩:=j1.get w;refine⟨⟨xs,x,Qe (e1.trans e2) s1,hx⟩,fun y H3 ⟨z,w'⟩=>?_⟩;subst z;have:=w' xs (Qe (e1.trans e2) s1);rw[hx] at this;cases this;exact⟨F2,Pur.refl e2,ix.mono e1⟩⟩
def V2 (lo:Int)(n:Nat):List D:=(List.range n).map fun (j:Nat)=>.int (lo+(j:Int))
theorem kJ {K:W.Frag}{F0:Hp}{lo:Int}{n:Nat}:ya4 K F0 (Itr lo n) (V2 lo n):=fun i F H e1 e2=>
 ⟨fun d q=>by
  unfold V2 at q;rw[al_getElem?_map] at q;have hi:i<n:=by
   by_cases h:i<n
   ·exact h
   ·rw[al_getElem?_eq_none_iff.mpr (by simpa using h)] at q;cases q
  rw[al_getElem?_range hi] at q;cases q;refine⟨hi,fun x H' ⟨z,w⟩=>?_⟩;subst z w;exact⟨F,Pur.refl e2,QG F⟩,fun q=>by
  unfold V2 at q;have q':n<=i:=by simpa using q
  exact q'⟩
theorem yef {j:Int}(hm:X.mg "range" = none)(hg:Gl X "range")(ha:P3 X Γ a (.int j))(h1:-(2 ^ 62)<=j)(h2:j<2 ^ 62)(hs:starEach [a] X.env=[(false,eval a X.env)]:=by rfl):I3 X Γ tg (.Call (.Name "range" p) [a] [] pos) (V2 0 j.toNat):=
 PI.of (uY hg hm (yd ha yt hs) hs) fun σ H R ⟨F,fh,sl,q⟩=>⟨F,fh,sl,fun vs H' F' pu i=>by
  obtain⟨x,rfl,j0⟩:=Va i;exact⟨j,by rw[isI j0],h1,h2,q _ H' F' pu kJ⟩⟩
theorem ycn {i j:Int}(hm:X.mg "range" = none)(hg:Gl X "range")(ha:P3 X Γ a (.int i))(hb:P3 X Γ b (.int j))(h1:-(2 ^ 62)<=i/\i<2 ^ 62/\-(2 ^ 62)<=j/\j<2 ^ 62)(hs:starEach [a,b] X.env=[(false,eval a X.env),(false,eval b X.env)]:=by rfl)(hs2:starEach [b] X.env=[(false,eval b X.env)]:=by rfl) :
  I3 X Γ tg (.Call (.Name "range" p) [a,b] [] pos) (V2 i (j - i).toNat):=
 PI.of (yb8 hg hm (yd ha (yd hb yt hs2) (hs.trans (by rw[hs2]))) hs hs2) fun σ H R ⟨F,fh,sl,q⟩=>⟨F,fh,sl,fun vs H' F' pu iv=>by
  obtain⟨x,y,rfl,j0,j1⟩:=yfY iv;exact⟨i,j,by rw[isI j0,isI j1],h1,q _ H' F' pu kJ⟩⟩
def uZ (ds:List D):List D:=ds.mapIdx fun i d=>.tup [.int (i:Int),d]
theorem yhU {es':List Expr}{x1:Nat}{tpos:Pos}(hm:X.mg "enumerate" = none)(hg:Gl X "enumerate")(ha:P3 X Γ a (.lst ds))(hs:starEach [a] X.env=[(false,eval a X.env)]:=by rfl) :
  I3 X Γ (.Tuple es' x1 tpos) (.Call (.Name "enumerate" p) [a] [] pos) (uZ ds):=
 PI.of (yfp hg hm (yd ha yt hs) hs) fun σ H R ⟨F,fh,sl,q⟩=>⟨F,fh,sl,fun vs H' F' pu iv=>by
  obtain⟨x,rfl,j0⟩:=Va iv;obtain⟨l,xs,rfl,s1,j1⟩:=Xz j0;refine⟨l,xs,rfl,JD pu.fh s1,fun K=>q _ H' F' pu fun n F2 H2 e1 e2=>⟨fun d w=>?_,fun w=>?_⟩⟩
  ·unfold uZ at w;rw[List.getElem?_mapIdx] at w;cases z:ds[n]? with
   |none=>rw[z] at w;cases w
   |some d0=>
    rw[z] at w;cases w;obtain⟨y,hy,iy⟩:=j1.get z;have hl:SqL K H2 l xs:=.inl (JD (e1.trans e2) s1);refine⟨⟨xs,y,hl,hy⟩,fun v H3 ⟨T,y',hT,hv,hy',e3⟩=>?_⟩;subst hv e3;have:=hy' xs hl;rw[hy] at this;cases this;refine⟨_,Pur.lay e2 hT,Is.tupI (.inl (.inl yL)) (IsL.cons (QG _) (IsL.cons (iy.mono (e1.trans (Pur.lay e2 hT).ff)) IsL.nil))⟩
  ·unfold uZ at w;rw[List.length_mapIdx] at w;exact⟨xs,.inl (JD (e1.trans e2) s1),by rw[j1.len];exact w⟩⟩
def vt (ds es:List D):List D:=(ds.zip es).map fun p=>.tup [p.1,p.2]
theorem yeR {es':List Expr}{x1:Nat}{tpos:Pos}(hm:X.mg "zip" = none)(hg:Gl X "zip")(ha:P3 X Γ a (.lst ds))(hb:P3 X Γ b (.lst es))(hs:starEach [a,b] X.env=[(false,eval a X.env),(false,eval b X.env)]:=by rfl)(hs2:starEach [b] X.env=[(false,eval b X.env)]:=by rfl) :
  I3 X Γ (.Tuple es' x1 tpos) (.Call (.Name "zip" p) [a,b] [] pos) (vt ds es):=
 PI.of (yhj hg hm (yd ha (yd hb yt hs2) (hs.trans (by rw[hs2]))) hs hs2) fun σ H R ⟨F,fh,sl,q⟩=>⟨F,fh,sl,fun vs H' F' pu iv=>by
  obtain⟨x,y,rfl,j0,j00⟩:=yfY iv;obtain⟨l,xs,rfl,s1,j1⟩:=jn j0;obtain⟨l2,ys,rfl,s2,j2⟩:=jn j00;refine⟨l,l2,xs,ys,rfl,pu.fh.seq s1,pu.fh.seq s2,q _ H' F' pu fun n F2 H2 e1 e2=>⟨fun d w=>?_,fun w=>?_⟩⟩
  ·unfold vt at w;rw[al_getElem?_map] at w;cases z:(ds.zip es)[n]? with
   |none=>rw[z] at w;cases w
   |some d0=>
    rw[z] at w;cases w;obtain⟨z1,z2⟩:=al_getElem?_zip_eq_some.mp z;obtain⟨x,hx,ix⟩:=j1.get z1;obtain⟨y,hy,iy⟩:=j2.get z2;have h1:=(e1.trans e2).seq s1;have h2:=(e1.trans e2).seq s2;refine⟨⟨xs,ys,x,y,h1,h2,hx,hy⟩,fun v H3 ⟨T,x',y',hT,hv,hx',hy',e3⟩=>?_⟩;subst hv e3;have t1:=hx' xs h1;have t2:=hy' ys h2;rw[hx] at t1;rw[hy] at t2;cases t1;cases t2;refine⟨_,Pur.lay e2 hT,Is.tupI (.inl (.inl yL)) (IsL.cons (ix.mono (e1.trans (Pur.lay e2 hT).ff)) (IsL.cons (iy.mono (e1.trans (Pur.lay e2 hT).ff)) IsL.nil))⟩
  ·unfold vt at w;rw[ye,YA] at w;refine⟨xs,ys,(e1.trans e2).seq s1,(e1.trans e2).seq s2,?_⟩;rw[j1.len,j2.len];omega⟩
theorem j8 {B:Bs}{Ω:Om}{E:E3}{rest body:List Stmt}{iter:Expr}(hp:PassesOwn (model X.prog X.w) X.A X.env X.xe)(hc:X.calm=true)(hi:I3 X Γ tg iter ds)(J:Nat->Ga->Om->Prop)(h0:J 0 Γ Ω)
  (step:∀ i d Γ Ω,ds[i]?=some d->J i Γ Ω->∃ Γ1,G3 X tg Γ d Γ1/\W3 X B body Γ1 Ω {E with nx:=J (i+1),ct:=J (i+1),bk:=fun Γ' Ω'=>W3 X B rest Γ' Ω' E})
  (hd:∀ Γ Ω,J ds.length Γ Ω->W3 X B rest Γ Ω E) (hs:∀ x,foldedSetIterable iter X.env x=pure x:=by intro _;rfl):W3 X B (.For tg iter body [] pos::rest) Γ Ω E:=fun F σ H S pins s I=>by
 have hgw:PG X tg (fun v σ H Q=>∀ (pins:List (Addr×Obj)) (s:Shared) (u:Value),Inv X pins σ H s->Yx v u->wpAny (model X.prog X.w) X.A (assign tg X.env u) (fun _ s'=>∃ σ' H',Inv X pins σ' H' s'/\Q σ' H') X.xe s):=fun pins s σ H v u Q I r h=>h pins s u I r;refine YX (ycW hp hc hi hgw qu hs) qu pins s σ H _ I ⟨F,S.fh,S.sl,fun Jt H1 F1 p w=>⟨fun i m σ H=>i+m=ds.length/\nX X.K B F1 (J i) σ H,⟨ds.length,by omega,Γ,Ω,F1,S.pur p,yP.refl _,h0⟩,?_⟩⟩;rintro i m σ H ⟨hm,Γ,Ω,F2,S,f1,j⟩;obtain⟨w1,w2⟩:=w i F2 H f1 S.fh;cases z:ds[i]? with
 |none=>
  have hl:ds.length<=i:=al_getElem?_eq_none_iff.mp z;have e:i=ds.length:=by omega
  subst e;exact .inl ⟨w2 hl,Y3 (p.ff.trans f1) (hd Γ Ω j F2 σ H S)⟩
 |some d=>
  have hl:i<ds.length:=(al_getElem?_eq_some_iff.mp z).1;obtain⟨go,y⟩:=w1 d z;obtain⟨Γ1,⟨g,pg,gq⟩,wb⟩:=step i d Γ Ω z j;refine .inr ⟨go,nX X.K B F1 (J (i+1)),?_,fun x H' hy pins s u I2 r=>?_⟩
  ·rintro σ' H' n;exact⟨m - 1,by omega,by omega,n⟩
  ·obtain⟨F3,p2,ix⟩:=y x H' hy;refine pg pins s σ H' x u _ I2 r (gq F3 σ H' x _ p2.fh ix (S.sl.mono p2.ff) I2.len fun σ' sl' _=>?_);have f3:yP F1 F3:=f1.trans p2.ff;exact qh (D:=E3.to X.K B F3 {E with nx:=J (i+1),ct:=J (i+1),bk:=fun Γ' Ω'=>W3 X B rest Γ' Ω' E}) (D':={nx:=nX X.K B F1 (J (i+1)),rt:=(E.to X.K B F).rt,bk:=WS X rest (E.to X.K B F),ct:=nX X.K B F1 (J (i+1))})
    (fun _ _ q=>q.mono f3) (fun v H ⟨d,Ω,F,S,f,i,r⟩=>⟨d,Ω,F,S,(p.ff.trans f3).trans f,i,r⟩) (fun _ _ q=>kq (q.mono (p.ff.trans f3))) (fun _ _ q=>q.mono f3) (wb F3 σ' H' ((S.pur p2).slots sl'))
end
def vw (nt:Nat)(caps:List Nat)(Γ:Ga):Ga:=List.replicate nt none++caps.map fun i=>Γ.getD i none
def Sub (Γ Γ1:Ga):Prop:=∀ (i:Nat) (e:D),Γ[i]?=some (some e)->Γ1[i]?=some (some e)
theorem Sub.set {Γ:Ga}{i:Nat}{d:Option D}(h:Γ[i]?=some none):Sub Γ (Γ.set i d):=fun j e q=>by
 have:i≠j:=fun z=>by subst z;rw[h] at q;cases q
 rw[al_getElem?_set_ne this];exact q
theorem Sub.trans {Γ Γ1 Γ2:Ga}(a:Sub Γ Γ1)(b:Sub Γ1 Γ2):Sub Γ Γ2:=fun i e q=>b i e (a i e q)
theorem Sl.sub {K:W.Frag}{F:Hp}{Γ Γ1:Ga}{σ:L2.St}(h:Sl K F Γ1 σ)(s:Sub Γ Γ1):Sl K F Γ σ:=fun i d q=>h i d (s i d q)
theorem Sl.cap {K:W.Frag}{F:Hp}{Γ:Ga}{σ:L2.St}{nt:Nat}{caps:List Nat}(h:Sl K F Γ σ):Sl K F (vw nt caps Γ) (K5 nt caps σ):=fun j d q=>by
 unfold vw at q;unfold K5;by_cases hj:j<nt
 ·rw[al_getElem?_append_left (by simpa using hj),al_getElem?_replicate] at q;split at q <;> cases q
 ·rw[al_getElem?_append_right (by simpa using hj),qX,al_getElem?_map] at q;rw[al_getElem?_append_right (by simpa using hj),qX,al_getElem?_map];cases ec:caps[j - nt]? with
  |none=>rw[ec] at q;cases q
  |some ci=>
   rw[ec] at q;have q':Γ.getD ci none=some d:=by simpa using q
   rw[al_getD_eq_getElem?_getD] at q';have e:Γ[ci]?=some (some d):=by
    cases z:Γ[ci]? with
    |none=>rw[z] at q';cases q'
    |some w=>rw[z] at q';exact congrArg some q'
   obtain⟨v,h1,h2⟩:=h ci d e;refine⟨v,?_,h2⟩;simp[al_getD_eq_getElem?_getD,h1]
def ydr (X:Cx)(Γ:Ga)(ifs:List Expr)(k:Bool):Prop:=PTs X ifs (tPT X.K Γ k)
theorem Ji {X:Cx}{Γ:Ga}:ydr X Γ [] true:=fun pins s σ H Q I ⟨F,fh,sl,q⟩=>wg (c:=⟨0,s,H,[]⟩) pins s σ H Q I (q H F (Pur.refl fh))
theorem Z0 {X:Cx}{Γ:Ga}{c:Expr}{k:Bool}(h:PT3 X Γ c k):ydr X Γ [c] k:=yfW h
def gW (X:Cx)(tg:Expr):TG:=fun v σ H Q=>∀ (pins:List (Addr×Obj)) (s:Shared) (u:Value),Inv X pins σ H s->Yx v u->wpAny (model X.prog X.w) X.A (assign tg X.env u) (fun _ s'=>∃ σ' H',Inv X pins σ' H' s'/\Q σ' H') X.xe s
def WTs (X:Cx)(ifs:List Expr):TT:=fun σ H Q=>∀ (pins:List (Addr×Obj)) (s:Shared),Inv X pins σ H s->
 wpAny (model X.prog X.w) X.A (forIn ifs true fun c r=>if r=true then do let ok ←isTrue c X.env (eval c X.env);pure (ForInStep.yield ok) else pure (ForInStep.yield r)) (TP X pins σ Q) X.xe s
theorem ye6 {X:Cx}{tg:Expr}:PG X tg (gW X tg):=fun pins s σ H v u Q I r h=>h pins s u I r
theorem ygX {X:Cx}{ifs:List Expr}:PTs X ifs (WTs X ifs):=fun pins s σ H Q I h=>h pins s I
def yeI (X:Cx)(sc:Scope)(N:List Str)(tg elt:Expr)(ifs:List Expr)(G:Ga)(ds:List D)(pre:Nat->List D):Prop:=∀ (c:CArg) (i:Nat) (d:D),ds[i]?=some d->∃ Γ1,G3 (X.comp sc N c) tg G d Γ1/\Sub G Γ1/\
 ((∃ e,ydr (X.comp sc N c) Γ1 ifs true/\P3 (X.comp sc N c) Γ1 elt e/\pre (i+1)=pre i++[e])∨(ydr (X.comp sc N c) Γ1 ifs false/\pre (i+1)=pre i))
section
variable {X:Cx}{Γ:Ga}{tg iter elt:Expr}{ifs:List Expr}{sc SX:Scope}{N XN:List Str}{nt:Nat}{caps:List Nat}{pos:Pos}{ds:List D}{pre:Nat->List D}
theorem Uk (hz:∀ i,i<=ds.length->(pre i).length<sizeLine)(h0:pre 0=[])(step:yeI X sc N tg elt ifs (vw nt caps Γ) ds pre){σ:L2.St}{H:Hp}{Q:VK}
  (h:∃ F,yP F H/\Sl X.K F Γ σ/\∀ p xs H' F',Pur F H F' H'->H p=none->F' p=none->H' p=some (.lst xs)->IsL X.K F' (pre ds.length) xs->Q (.ref p) H') :
  yaQ nt caps (fun σ H R=>∃ F,yP F H/\Sl X.K F Γ σ/\∀ J H' F',Pur F H F' H'->ya4 X.K F' J ds->R J H') (fun c=>gW (X.comp sc N c) tg) (fun c=>WTs (X.comp sc N c) ifs) (fun c=>WE (X.comp sc N c) elt) σ H Q:=by
 obtain⟨F,fh,sl,q⟩:=h;refine⟨F,fh,sl,fun J H1 F1 p1 wk D hD c=>⟨fun i m σ' ys H'=>i+m=ds.length/\∃ F',Pur F1 H1 F' H'/\F' D=none/\H' D=some (.lst ys)/\IsL X.K F' (pre i) ys/\Sl X.K F' (vw nt caps Γ) σ',?_,?_⟩⟩
 ·exact⟨ds.length,by omega,F1,Pur.layOwn p1.fh hD,p1.fh.free hD,yL,by rw[h0];exact IsL.nil,Sl.cap (sl.mono p1.ff)⟩
 ·rintro i m σ' ys H' ⟨hm,F',pu,fD,hH,il,sl'⟩;refine⟨hH,by rw[il.len];exact hz i (by omega),?_⟩;obtain⟨w1,w2⟩:=wk i F' H' pu.ff pu.fh;cases z:ds[i]? with
  |none=>
   have hl:ds.length<=i:=al_getElem?_eq_none_iff.mp z;have e:i=ds.length:=by omega
   subst e;exact .inl ⟨w2 hl,q D ys H' F' (p1.trans pu) (p1.hh.free hD) fD hH il⟩
  |some d=>
   have hl:i<ds.length:=(al_getElem?_eq_some_iff.mp z).1;obtain⟨go,y⟩:=w1 d z;obtain⟨Γ1,⟨g,pg,gq⟩,sub,alt⟩:=step c i d z;refine .inr ⟨go,fun x H2 hy pins s u I2 r=>?_⟩;obtain⟨F2,p2,ix⟩:=y x H2 hy;have keepD:∀ {F3 H3 F4 H4:Hp},Pur F3 H3 F4 H4->F3 D=none->(∃ o,H3 D=some o)->F4 D=none:=fun {F3 H3 F4 H4} pp f3 h3=>by
    cases zz:F4 D with
    |none=>rfl
    |some o=>
     rcases pp.new D (by rw[zz];simp) with w|w
     ·exact absurd f3 w
     ·obtain⟨o',h3⟩:=h3;rw[h3] at w;cases w
   have fD2:=keepD p2 fD ⟨_,hH⟩;have hH2:=p2.hh _ _ hH;refine pg pins s σ' H2 x u _ I2 r (gq F2 σ' H2 x _ p2.fh ix (sl'.mono p2.ff) I2.len fun σ3 sl3 _=>?_);rcases alt with ⟨e,ht,he,hpre⟩|⟨ht,hpre⟩
   ·refine fun pins s I3=>ht pins s σ3 H2 _ I3 ⟨F2,p2.fh,sl3,fun H4 F4 p4=>ygD ?_⟩;refine fun pins s I4=>he pins s σ3 H4 _ I4 ⟨F4,p4.fh,sl3.mono p4.ff,fun v H5 F5 p5 iv=>?_⟩;have fD5:=keepD p5 (keepD p4 fD2 ⟨_,hH2⟩) ⟨_,p4.hh _ _ hH2⟩;have hH5:=p5.hh _ _ (p4.hh _ _ hH2);have P5:=((pu.trans p2).trans p4).trans p5;refine⟨ys,hH5,by rw[il.len];exact hz i (by omega),m - 1,by omega,by omega,F5,⟨P5.ff,fun b o w=>?_,fun b o w=>?_,P5.new⟩,fD5,yL,?_,(sl3.mono (p4.ff.trans p5.ff)).sub sub⟩
    ·rw[yO (y6 w fD5)];exact P5.fh _ _ w
    ·rw[yO (y6 w hD)];exact P5.hh _ _ w
    ·rw[hpre];exact(il.mono ((p2.ff.trans p4.ff).trans p5.ff)).append (IsL.cons iv IsL.nil)
   ·refine fun pins s I3=>ht pins s σ3 H2 _ I3 ⟨F2,p2.fh,sl3,fun H4 F4 p4=>yfV ?_⟩;have P4:=(pu.trans p2).trans p4;refine⟨ys,m - 1,by omega,by omega,F4,P4,keepD p4 fD2 ⟨_,hH2⟩,p4.hh _ _ hH2,?_,(sl3.mono p4.ff).sub sub⟩;rw[hpre];exact il.mono (p2.ff.trans p4.ff)
theorem QO (S:CompOk SX sc XN N nt caps)(hi:I3 X Γ tg iter ds)(hz:∀ i,i<=ds.length->(pre i).length<sizeLine)(h0:pre 0=[])(step:yeI X sc N tg elt ifs (vw nt caps Γ) ds pre)(hc:X.calm=true:=by rfl)(hX:X.env.scope=SX:=by rfl)(hN:X.N=XN:=by rfl)
  (hs:∀ x,foldedSetIterable iter X.env x=pure x:=by intro _;rfl):PF3 X Γ (.ListComp elt [⟨tg,iter,ifs,0⟩] sc pos) (pre ds.length):=
 PE.of (ybd S hi (fun c=>ye6) (fun c=>ygX) (fun c=>Qt) hc hX hN hs) fun σ H Q h=>Uk hz h0 step h
theorem Xk {B:Bs}{Ω:Om}{E:E3}{rest:List Stmt}{y:Str}{py:Pos}{i:Nat}{spos:Pos}(S:CompOk SX sc XN N nt caps)(hnd:X.N.Nodup)(hix:X.N[i]?=some y)(hy:Loc X.env.scope y)(hi:I3 X Γ tg iter ds)(hz:∀ i,i<=ds.length->(pre i).length<sizeLine)(h0:pre 0=[])
  (step:yeI X sc N tg elt ifs (vw nt caps Γ) ds pre) (h:W3 X B rest (Γ.set i (some (.lst (pre ds.length)))) Ω E)
  (hsw:swapsWith (.ListComp elt [⟨tg,iter,ifs,0⟩] sc pos) (some (.Name y py)) spos.line X.env=pure true:=by rfl) (hc:X.calm=true:=by rfl) (hX:X.env.scope=SX:=by rfl) (hN:X.N=XN:=by rfl)
  (hs:∀ x,foldedSetIterable iter X.env x=pure x:=by intro _;rfl) (hf:X.fn y=true∨X.env.scope.names.lookup y=some .local:=by first|exact .inl rfl|exact .inr rfl):W3 X B (.Assign [.Name y py] (.ListComp elt [⟨tg,iter,ifs,0⟩] sc pos) spos::rest) Γ Ω E:=fun F σ H S' pins s I=>by
 refine YX (ybl S hnd hix hy hi (fun c=>ye6) (fun c=>ygX) (fun c=>Qt) hsw hc hX hN hs hf) qu pins s σ H _ I (Uk (Q:=fun x H1=>ux i x σ H1 (WS X rest (E.to X.K B F))) hz h0 step ⟨F,S'.fh,S'.sl,fun p xs H' F' pu hp fp e il=>?_⟩);have w:yP F' (upd F' p (.lst xs)):=fun b u q=>by rw[yO (y6 q fp)];exact q
 have wf:yP (upd F' p (.lst xs)) H':=fun b u q=>by
  by_cases hb:b=p
  ·subst hb;rw[yL] at q;cases q;exact e
  ·rw[yO hb] at q;exact pu.fh _ _ q
 have w2:Pur F H (upd F' p (.lst xs)) H':=by
  refine⟨pu.ff.trans w,wf,pu.hh,fun b q=>?_⟩;by_cases hb:b=p
  ·subst hb;exact .inr hp
  ·rw[yO hb] at q;exact pu.new b q
 exact Y3 w2.ff (h _ _ H' ((S'.pur w2).slots (Sl.set (S'.sl.mono w2.ff) (by rw[I.len];exact(al_getElem?_eq_some_iff.mp hix).1) (Is.lstI (.inl yL) (il.mono w)))))
end
def Zo (ds:List D)(lo hi:Option Int):List D:=(ds.drop (HT.sIx ds.length 0 lo)).take (HT.sIx ds.length ds.length hi - HT.sIx ds.length 0 lo)
theorem xO {K:W.Frag}{F:Hp}{ds:List D}{xs:List V}{lo hi:Option Int}(h:IsL K F ds xs):IsL K F (Zo ds lo hi) (Wj xs lo hi):=by
 unfold Zo Wj;rw[h.len];exact(h.drop _).take _
def PO3 (X:Cx)(Γ:Ga)(e:Option Expr)(i:Option Int):Prop:=PO X e fun σ H Q=>∃ F,yP F H/\Sl X.K F Γ σ/\∀ H' F',Pur F H F' H'->Q i H'
section
variable {X:Cx}{Γ:Ga}{a e:Expr}{lo hi:Option Expr}{i j:Option Int}{d:D}{ds:List D}{pos p2:Pos}
theorem PO.of {e:Option Expr}{t u:TO}(h:PO X e t)(i:∀ σ H Q,u σ H Q->t σ H Q):PO X e u:=fun pins s σ H Q I hq=>h pins s σ H Q I (i _ _ _ hq)
theorem Vs:PO3 X Γ none none:=PO.of X9 fun σ H Q ⟨F,fh,sl,q⟩=>q H F (Pur.refl fh)
theorem Vh {n:Int}(h:P3 X Γ e (.int n)):PO3 X Γ (some e) (some n):=PO.of (kg h) fun σ H Q ⟨F,fh,sl,q⟩=>⟨F,fh,sl,fun v H' F' p i=>⟨n,isI i,q H' F' p⟩⟩
theorem yju {K:W.Frag}{σ:L2.St}{H:Hp}{R:V->Option Int->Option Int->Hp->VK->Prop}{Q:VK}(h:∃ F,yP F H/\Sl K F Γ σ/\∀ x H2 F2,Pur F H F2 H2->Is K F2 d x->R x i j H2 Q) :
  tSl R (tP K Γ d) (fun σ H Q=>∃ F,yP F H/\Sl K F Γ σ/\∀ H' F',Pur F H F' H'->Q i H') (fun σ H Q=>∃ F,yP F H/\Sl K F Γ σ/\∀ H' F',Pur F H F' H'->Q j H') σ H Q:=by
 obtain⟨F,fh,sl,q⟩:=h;exact⟨F,fh,sl,fun x H1 F1 p1 i1=>⟨F1,p1.fh,sl.mono p1.ff,fun H2 F2 p2=>⟨F2,p2.fh,sl.mono (p1.ff.trans p2.ff),fun H3 F3 p3=>q x H3 F3 ((p1.trans p2).trans p3) (i1.mono (p2.ff.trans p3.ff))⟩⟩⟩
theorem vi (ha:P3 X Γ a (.lst ds))(hl:PO3 X Γ lo i)(hh:PO3 X Γ hi j):PF3 X Γ (.Subscript a (.Slice lo hi none p2) pos) (Zo ds i j):=
 PE.of (vD wz ha hl hh) fun σ H Q ⟨F,fh,sl,q⟩=>yju ⟨F,fh,sl,fun x H2 F2 p i1=>by
  obtain⟨l,xs,rfl,s1,j1⟩:=jn i1;exact⟨l,xs,rfl,p.fh.seq s1,fun b hb=>q b _ _ F2 (p.trans (Pur.layOwn p.fh hb)) (p.hh.free hb) (p.fh.free hb) yL (xO j1)⟩⟩
theorem wN (ha:P3 X Γ a (.tup ds))(hl:PO3 X Γ lo i)(hh:PO3 X Γ hi j)(hw:¬ (HT.sIx ds.length 0 i=0/\HT.sIx ds.length ds.length j=ds.length)):P3 X Γ (.Subscript a (.Slice lo hi none p2) pos) (.tup (Zo ds i j)):=
 PE.of (vD yiL ha hl hh) fun σ H Q ⟨F,fh,sl,q⟩=>yju ⟨F,fh,sl,fun x H2 F2 p i1=>by
  obtain⟨l,xs,rfl,s1,j1⟩:=isT i1;exact⟨l,xs,rfl,Qe p.fh s1,by rw[j1.len];exact hw,fun b hb=>q _ _ _ (p.trans (Pur.lay p.fh hb)) (Is.tupI (.inl (.inl yL)) ((xO j1).mono (Pur.lay p.fh hb).ff))⟩⟩
end
def Ql (N:List Str)(ds:List D):Ga:=ds.map some++List.replicate (N.length - ds.length) none
theorem Sl.start {K:W.Frag}{F:Hp}{N:List Str}{ds:List D}{vs:List V}(h:IsL K F ds vs):Sl K F (Ql N ds) (L2.start N vs):=fun i d q=>by
 unfold Ql at q;unfold L2.start;have hl:=h.len;by_cases hi:i<ds.length
 ·rw[al_getElem?_append_left (by simpa using hi),al_getElem?_map] at q;rw[al_getElem?_append_left (by rw[ye,hl];exact hi),al_getElem?_map];cases e:ds[i]? with
  |none=>rw[e] at q;cases q
  |some d'=>
   rw[e] at q;cases q;obtain⟨v,h1,h2⟩:=h.get e;exact⟨v,by rw[h1];rfl,h2⟩
 ·rw[al_getElem?_append_right (by simpa using hi),al_getElem?_replicate] at q;split at q <;> cases q
theorem Sat.entry {K:W.Frag}{F H:Hp}{N:List Str}{ds:List D}{vs:List V}(fh:yP F H)(h:IsL K F ds vs):Sat K ⟨[],F,H⟩ (Ql N ds) [] F (L2.start N vs) H:=
 ⟨yP.refl _,fh,fun _ q=>.inl q,fun _ _ _ e=>e,qD,(fun _ q=>absurd q (by simp)),(fun _ q=>absurd q (by simp)),Sl.start h⟩
abbrev cx0 (P:Program)(w:World)(K:W.Frag)(mg:Str->Option Value)(base:Heap)(N:List Str)(x:Str)(st:Stmt)(f:Addr)(cdv:Value)(A:Around)(outer:List Env)(s:Shared)(H:Hp)(E:XK):Cx:=(kX CX0 P w K mg base N x (yj st) f cdv A outer s H E).nox
section
variable {P:Program}{w:World}{K:W.Frag}{mg:Str->Option Value}{base:Heap}{x:Str}{st:Stmt}{N ps:List Str}{k n:Nat}
theorem YD {C:List D->D->Prop}(d:yZ K mg x st ps)(S:FnScope N ps (yj st))(hn:ps.length=n)
  (body:∀ (f:Addr) (cdv:Value) (A:Around) (outer:List Env) (s:Shared) (H:Hp) (E:XK),Room k (A.deeper (envOfC x (yj st) s.heap.objs.size f cdv))->∀ (ds:List D) (r:D),C ds r->∀ B:Bs,B.M=[]->
   W3 (cx0 P w K mg base N x st f cdv A outer s H E) B (YR st) (Ql N ds) [] ⟨fun _ _=>r=.non,fun r' _=>r'=r,fun _ _=>False,fun _ _=>False⟩):OkF P w K mg base CX0 (k+1) x ps (spP K n C):=by
 refine d.ok S (fun vs H Q E h=>h.len.trans hn.symm) fun f cdv A outer s H vs Q E hr h=>⟨_,qu,?_⟩
 obtain⟨ds,r,F,hC,hl,fh,il,q⟩:=h;refine qh (D:=E3.to K ⟨[],F,H⟩ F ⟨fun _ _=>r=.non,fun r' _=>r'=r,fun _ _=>False,fun _ _=>False⟩) (D':={nx:=fun _ H'=>Q .non H',rt:=Q}) ?_ ?_ ?_ ?_ (body f cdv A outer s H E hr ds r hC ⟨[],F,H⟩ rfl F (L2.start N vs) H (Sat.entry fh il))
 ·rintro σ' H' ⟨Γ',Ω',F',S',f',e⟩;subst e;exact q _ _ _ (S'.toPur rfl) (yax F')
 ·rintro v H' ⟨d',Ω',F',⟨σ',S'⟩,f',i',e⟩;subst e;exact q _ _ _ (S'.toPur rfl) i'
 ·rintro σ' H' ⟨_,_,_,_,_,z⟩;exact z.elim
 ·rintro σ' H' ⟨_,_,_,_,_,z⟩;exact z.elim
end
section
variable {X:Cx}{B:Bs}{Γ:Ga}{Ω:Om}{E:E3}{rest:List Stmt}{e:Expr}{es:List Expr}{ds:List D}{pos np cpos p:Pos}{Ex:XK}{C:Addr}{x:Str}
end
section
variable {X:Cx}{B:Bs}{Γ:Ga}{Ω:Om}{E:E3}{rest:List Stmt}{e:Expr}{ds:List D}{pos pos':Pos}{x:Str}
theorem vM {i:Nat}(hN:X.N.Nodup)(hi:X.N[i]?=some x)(hx:Loc X.env.scope x)(he:PF3 X Γ e ds)(h:∀ a,W3 X B rest (Γ.set i (some (.raw (.ref a)))) ((a,qg X.K ds)::Ω) E)(hs:swapsWith e (some (.Name x pos')) pos.line X.env=pure false:=by rfl)
  (hf:X.fn x=true∨X.env.scope.names.lookup x=some .local:=by first|exact .inl rfl|exact .inr rfl|assumption):W3 X B (.Assign [.Name x pos'] e pos::rest) Γ Ω E:=fun F σ H S pins s I=>
 YX (XQ hN hi hx he hs hf) qu pins s σ H _ I ⟨F,S.fh,S.sl,fun a xs H' F' pu ha fa hH il=>by
  have S1:=S.pur pu;have nin:a∉Ω.map (·.1):=fun z=>by
   obtain⟨q,hq,e⟩:=yo.mp z;obtain⟨_,o,h2,_⟩:=S.own q hq;rw[e,ha] at h2;cases h2
  refine Y3 pu.ff (h a F' _ H' ⟨S1.f0,S1.fh,S1.fr,S1.kp,yK.mpr ⟨nin,S1.nd⟩,fun q hq=>?_,fun q hq=>?_,Sl.set (S.sl.mono pu.ff) (by rw[I.len];exact(al_getElem?_eq_some_iff.mp hi).1) (zl F')⟩)
  ·rcases yA.mp hq with z|z
   ·subst z;exact(S.freeB ha).symm
   ·exact S1.od q z
  ·rcases yA.mp hq with z|z
   ·subst z;exact⟨fa,_,hH,fun F2 e=>⟨xs,rfl,il.mono e⟩⟩
   ·exact S1.own q z⟩
theorem Sat.perm {K:W.Frag}{Ω':Om}{F:Hp}{σ:L2.St}{H:Hp}(S:Sat K B Γ Ω F σ H)(p:Ω'.Perm Ω):Sat K B Γ Ω' F σ H:=
 ⟨S.f0,S.fh,S.fr,S.kp,(p.map _).nodup_iff.mpr S.nd,fun q hq=>S.od q (p.mem_iff.mp hq),fun q hq=>S.own q (p.mem_iff.mp hq),S.sl⟩
theorem za {Ω':Om}{sts:List Stmt}(p:Ω'.Perm Ω)(h:W3 X B sts Γ Ω' E):W3 X B sts Γ Ω E:=fun F σ H S=>h F σ H (S.perm p)
theorem Sat.turn {K:W.Frag}{F:Hp}{σ:L2.St}{H:Hp}{a:Addr}{w w':Ow}{o:HO}(S:Sat K B Γ ((a,w)::Ω) F σ H)(h:∀ F',yP F F'->w' F' o):Sat K B Γ ((a,w')::Ω) F σ (upd H a o):=by
 obtain⟨fa,o0,ha,_⟩:=S.own (a,w) (by simp);have nin:=(yK.mp S.nd).1;refine⟨S.f0,fun b u e=>?_,S.fr,fun b u hb e=>?_,S.nd,fun q hq=>?_,fun q hq=>?_,S.sl⟩
 ·rw[yO (y6 e fa)];exact S.fh _ _ e
 ·by_cases z:b=a
  ·subst z;rcases S.od (b,w) (by simp) with y|y
   ·exact absurd y hb
   ·have y':B.H b=none:=y;rw[y'] at e;cases e
  ·rw[yO z];exact S.kp b u hb e
 ·rcases yA.mp hq with z|z
  ·subst z;exact S.od (a,w) (by simp)
  ·exact S.od q (yf _ z)
 ·rcases yA.mp hq with z|z
  ·subst z;exact⟨fa,o,yL,h⟩
  ·obtain⟨h1,o',h2,h3⟩:=S.own q (yf _ z);have ne:q.1≠a:=fun e=>nin (yo.mpr ⟨q,z,e⟩);exact⟨h1,o',by rw[yO ne];exact h2,h3⟩
theorem JL {i:Nat}{a:Addr}{d:D}{apos np ppos:Pos}(hi:X.N[i]?=some x)(hv:Vis X.env.scope x)(hΓ:Γ[i]?=some (some (.raw (.ref a))))(he:P3 X Γ e d)(hz:ds.length<sizeLine)(h:W3 X B rest Γ ((a,qg X.K (ds++[d]))::Ω) E)
  (hs:∀ {t:TE},PE X (.Call (.Attribute (.Name x np) "append" apos) [e] [] ppos) t->PS X (.Expr (.Call (.Attribute (.Name x np) "append" apos) [e] [] ppos) pos) (yaG t):=by exact fun h=>vL h)
  (hd:(x==("__debug__" : Str))=false:=by decide) (hcd:(x==("__classdict__" : Str))=false:=by decide) (hst:starEach [e] X.env=(false,eval e X.env)::starEach [] X.env:=by rfl)
  (hp:∀ {to:TE} {ta:TA},PE X (.Name x np) to->PA X [e] ta->PE X (.Call (.Attribute (.Name x np) "append" apos) [e] [] ppos) (tBM X.K "list" U7 to ta):=by exact fun a b=>yfd PySem.F.plainAttrs_list PySem.F.slot_list_append PySem.F.type_list_append Vb a b) :
  W3 X B (.Expr (.Call (.Attribute (.Name x np) "append" apos) [e] [] ppos) pos::rest) Γ ((a,qg X.K ds)::Ω) E:=fun F σ H S pins s I=>by
 obtain⟨v,e1,e2⟩:=S.sl i _ hΓ;cases isR e2;obtain⟨fa,o0,ha,ho⟩:=S.own (a,qg X.K ds) (by simp);obtain⟨xs,rfl,il⟩:=ho F (yP.refl _);refine YX (hs (hp (k8 hi hv hd hcd) (yd he yt hst))) qu pins s σ H _ I ⟨_,e1,.inl ⟨rfl,_,SqL.of ha⟩,F,S.fh,S.sl,fun vs H' F' pu iv=>?_⟩;obtain⟨y,rfl,iy⟩:=Va iv;have S1:=S.pur pu;refine⟨a,xs,y,rfl,rfl,pu.hh _ _ ha,by rw[il.len];exact hz,Y3 pu.ff (h F' σ _ (S1.turn fun F2 e2=>⟨_,rfl,(il.mono (pu.ff.trans e2)).append (IsL.cons (iy.mono e2) IsL.nil)⟩))⟩
theorem jv {sts:List Stmt}{i:Nat}{a:Addr}(hΓ:Γ[i]?=some (some (.raw (.ref a))))(h:W3 X B sts (Γ.set i (some (.lst ds))) Ω E):W3 X B sts Γ ((a,qg X.K ds)::Ω) E:=fun F σ H S=>by
 obtain⟨v,e1,e2⟩:=S.sl i _ hΓ;cases isR e2;obtain⟨fa,o0,ha,ho⟩:=S.own (a,qg X.K ds) (by simp);obtain⟨xs,rfl,il⟩:=ho F (yP.refl _);have nin:=(yK.mp S.nd).1;have w:yP F (upd F a (.lst xs)):=fun b u q=>by rw[yO (y6 q fa)];exact q
 refine Y3 w (h (upd F a (.lst xs)) σ H ⟨S.f0.trans w,fun b u q=>?_,fun b q=>?_,S.kp,(yK.mp S.nd).2,fun q hq=>S.od q (yf _ hq),fun q hq=>?_,fun j d q=>?_⟩)
 ·by_cases hb:b=a
  ·subst hb;rw[yL] at q;cases q;exact ha
  ·rw[yO hb] at q;exact S.fh _ _ q
 ·by_cases hb:b=a
  ·subst hb;exact(S.od (b,qg X.K ds) (by simp)).elim (fun z=>.inr (.inr z)) fun z=>.inr (.inl z)
  ·rw[yO hb] at q;exact S.fr b q
 ·obtain⟨h1,o',h2,h3⟩:=S.own q (yf _ hq);have ne:q.1≠a:=fun e=>nin (yo.mpr ⟨q,hq,e⟩);exact⟨by rw[yO ne];exact h1,o',h2,fun F2 e=>h3 F2 (w.trans e)⟩
 ·by_cases hj:i=j
  ·subst hj;rw[al_getElem?_set] at q;split at q
   ·split at q
    ·cases q;exact⟨_,e1,Is.lstI (.inl yL) (il.mono w)⟩
    ·cases q
   ·contradiction
  ·rw[al_getElem?_set_ne hj] at q;obtain⟨u,h1,h2⟩:=S.sl j d q;exact⟨u,h1,h2.mono w⟩
end
def V3 (X:Cx)(B:Bs)(e:Expr)(Γ:Ga)(Ω:Om)(R:D->Om->Prop):Prop:=∀ F σ H,Sat X.K B Γ Ω F σ H->WE X e σ H fun v H'=>∃ d Ω' F',Sat X.K B Γ Ω' F' σ H'/\yP F F'/\Is X.K F' d v/\R d Ω'
def VT3 (X:Cx)(B:Bs)(e:Expr)(Γ:Ga)(Ω:Om)(R:Bool->Om->Prop):Prop:=∀ F σ H,Sat X.K B Γ Ω F σ H->WT X e σ H fun k H'=>∃ Ω' F',Sat X.K B Γ Ω' F' σ H'/\yP F F'/\R k Ω'
def WL (X:Cx)(es:List Expr):TA:=fun σ H Q=>∀ (pos:Pos) (pins:List (Addr×Obj)) (s:Shared),Inv X pins σ H s->wpAny (model X.prog X.w) X.A (spliced (backTo pos (starEach es X.env))) (AP X pins σ Q) X.xe s
theorem yfX {X:Cx}{es:List Expr}:PA X es (WL X es):=fun pos pins s σ H Q I h=>h pos pins s I
def VL3 (X:Cx)(B:Bs)(es:List Expr)(Γ:Ga)(Ω:Om)(R:List D->Om->Prop):Prop:=∀ F σ H,Sat X.K B Γ Ω F σ H->WL X es σ H fun vs H'=>∃ ds Ω' F',Sat X.K B Γ Ω' F' σ H'/\yP F F'/\IsL X.K F' ds vs/\R ds Ω'
theorem WE.mono {X:Cx}{e:Expr}{σ:L2.St}{H:Hp}{Q Q':VK}(h:WE X e σ H Q)(i:∀ v H,Q v H->Q' v H):WE X e σ H Q':=fun pins s I=>thn (h pins s I) fun u s' ⟨v,H',I',r,q⟩=>⟨v,H',I',r,i _ _ q⟩
theorem WT.mono {X:Cx}{e:Expr}{σ:L2.St}{H:Hp}{Q Q':Bool->Hp->Prop}(h:WT X e σ H Q)(i:∀ v H,Q v H->Q' v H):WT X e σ H Q':=fun pins s I=>thn (h pins s I) fun u s' ⟨H',I',q⟩=>⟨H',I',i _ _ q⟩
theorem WL.mono {X:Cx}{e:List Expr}{σ:L2.St}{H:Hp}{Q Q':List V->Hp->Prop}(h:WL X e σ H Q)(i:∀ v H,Q v H->Q' v H):WL X e σ H Q':=fun p pins s I=>thn (h p pins s I) fun u s' ⟨v,H',I',r,q⟩=>⟨v,H',I',r,i _ _ q⟩
theorem Sat.turnIn {K:W.Frag}{B:Bs}{Γ:Ga}{Ω:Om}{F:Hp}{σ:L2.St}{H:Hp}{a:Addr}{w:Ow}{o:HO}(S:Sat K B Γ Ω F σ H)(m:(a,w)∈Ω)(h:∀ F',yP F F'->w F' o):Sat K B Γ Ω F σ (upd H a o):=by
 obtain⟨fa,o0,ha,_⟩:=S.own (a,w) m;refine⟨S.f0,fun b u e=>?_,S.fr,fun b u hb e=>?_,S.nd,S.od,fun q hq=>?_,S.sl⟩
 ·rw[yO (y6 e fa)];exact S.fh _ _ e
 ·by_cases z:b=a
  ·subst z;rcases S.od (b,w) m with y|y
   ·exact absurd y hb
   ·have y':B.H b=none:=y;rw[y'] at e;cases e
  ·rw[yO z];exact S.kp b u hb e
 ·obtain⟨h1,o',h2,h3⟩:=S.own q hq;by_cases z:q.1=a
  ·have e:q=(a,w):=by
    have nd:=S.nd
    clear h1 h2 h3 ha fa h
    induction Ω with
    |nil=>cases hq
    |cons r Ω ih=>
     rw[yn,yK] at nd;rcases yA.mp hq with y|y
     ·rcases yA.mp m with y2|y2
      ·rw[y,y2]
      ·exact absurd (yo.mpr ⟨(a,w),y2,by rw[←y,z]⟩) nd.1
     ·rcases yA.mp m with y2|y2
      ·exact absurd (yo.mpr ⟨q,y,by rw[z,←y2]⟩) nd.1
      ·exact ih ⟨S.f0,S.fh,S.fr,S.kp,nd.2,fun q hq=>S.od q (yf _ hq),fun q hq=>S.own q (yf _ hq),S.sl⟩ y2 y nd.2
   subst e;exact⟨fa,o,yL,h⟩
  ·exact⟨h1,o',by rw[yO z];exact h2,h3⟩
section
variable {X:Cx}{B:Bs}{Γ:Ga}{Ω:Om}{E:E3}{rest body:List Stmt}{a b c e:Expr}{es:List Expr}{d:D}{ds:List D}{pos pos' p:Pos}{R:D->Om->Prop}{RL:List D->Om->Prop}{RT:Bool->Om->Prop}{k:Bool}
theorem Yj (h:P3 X Γ e d)(r:R d Ω):V3 X B e Γ Ω R:=fun F σ H S=>h.we ⟨F,S.fh,S.sl,fun v H' F' p i=>⟨d,Ω,F',S.pur p,p.ff,i,r⟩⟩
theorem V3.imp {R':D->Om->Prop}(h:V3 X B e Γ Ω R)(i:∀ d Ω',R d Ω'->R' d Ω'):V3 X B e Γ Ω R':=fun F σ H S=>(h F σ H S).mono fun v H' ⟨d,Ω',F',S',f,iv,r⟩=>⟨d,Ω',F',S',f,iv,i _ _ r⟩
theorem yhO {op:Operator}{r:R2}(ho:OpR X (binaryOp op) r)(h:V3 X B a Γ Ω fun d Ω1=>V3 X B b Γ Ω1 fun d' Ω2=>∃ d3,(∀ x y H F Q,yP F H->Is X.K F d x->Is X.K F d' y->(∀ v H' F',Pur F H F' H'->Is X.K F' d3 v->Q v H')->r x y H Q)/\R d3 Ω2):V3 X B (.BinOp a op b pos) Γ Ω R:=fun F σ H S pins s I=>
 vR ho Qt Qt pins s σ H _ I ((h F σ H S).mono fun x H1 ⟨d,Ω1,F1,S1,f1,i1,h1⟩=>(h1 F1 σ H1 S1).mono fun y H2 ⟨d',Ω2,F2,S2,f2,i2,d3,hr,q⟩=>
  hr x y H2 F2 _ S2.fh (i1.mono f2) i2 fun v H' F' p i=>⟨d3,Ω2,F',S2.pur p,(f1.trans f2).trans p.ff,i,q⟩)
theorem uM (h:V3 X B a Γ Ω fun d Ω1=>∃ i,d=.int i/\V3 X B b Γ Ω1 fun d' Ω2=>∃ j,d'=.int j/\R (.int (i+j)) Ω2):V3 X B (.BinOp a .Add b pos) Γ Ω R:=
 yhO xh (h.imp fun d Ω1 ⟨i,e,h⟩=>h.imp fun d' Ω2 ⟨j,e',r⟩=>⟨_,fun x y H F Q fh i1 i2 k=>by subst e e';exact⟨i,j,isI i1,isI i2,k _ _ _ (Pur.refl fh) (QG F)⟩,r⟩)
theorem ZF (h:PL3 X Γ es ds)(r:RL ds Ω):VL3 X B es Γ Ω RL:=fun F σ H S pos pins s I=>h pos pins s σ H _ I ⟨F,S.fh,S.sl,fun v H' F' p i=>⟨ds,Ω,F',S.pur p,p.ff,i,r⟩⟩
theorem jY (h:V3 X B e Γ Ω fun d Ω1=>VL3 X B es Γ Ω1 fun ds Ω2=>RL (d::ds) Ω2)(hs:starEach (e::es) X.env=(false,eval e X.env)::starEach es X.env:=by rfl):VL3 X B (e::es) Γ Ω RL:=fun F σ H S pos pins s I=>
 Jo Qt yfX hs pos pins s σ H _ I ((h F σ H S).mono fun x H1 ⟨d,Ω1,F1,S1,f1,i1,h1⟩=>(h1 F1 σ H1 S1).mono fun xs H2 ⟨ds,Ω2,F2,S2,f2,i2,r⟩=>⟨d::ds,Ω2,F2,S2,f1.trans f2,IsL.cons (i1.mono f2) i2,r⟩)
theorem yfe {x1}(h:VL3 X B es Γ Ω fun ds Ω1=>ds.length<=sizeLine/\R (.tup ds) Ω1):V3 X B (.Tuple es x1 pos) Γ Ω R:=fun F σ H S pins s I=>
 UN yfX pins s σ H _ I ((h F σ H S).mono fun xs H1 ⟨ds,Ω1,F1,S1,f1,i1,hz,r⟩=>⟨by rw[i1.len];exact hz,fun q hq=>⟨.tup ds,Ω1,_,S1.pur (Pur.lay S1.fh hq),f1.trans (Pur.lay S1.fh hq).ff,Is.tupI (.inl (.inl yL)) (i1.mono (Pur.lay S1.fh hq).ff),r⟩⟩)
theorem yhQ {n k:Nat}{C:List D->D->Prop}{x:Str}{ps:List Str}(o:OkF X.prog X.w X.K X.mg X.base CX0 k x ps (spP X.K n C))(hr:Room k X.A)(hg:Gl X x)(h:VL3 X B (e::es) Γ Ω fun ds Ω1=>∃ d,C ds d/\ds.length=n/\R d Ω1)(hdb:(x==("__debug__" : Str))=false:=by decide)
  (he:starEach (e::es) X.env=(false,eval e X.env)::starEach es X.env:=by rfl) (hpl:(backTo pos (starEach es X.env)).any (·.1)=false:=by rfl):V3 X B (.Call (.Name x p) (e::es) [] pos) Γ Ω R:=fun F σ H S pins s I=>
 VJ o hr hg yfX hdb he hpl pins s σ H _ I ((h F σ H S).mono fun vs H1 ⟨ds,Ω1,F1,S1,f1,i1,d,hC,hn,r⟩=>by
  rw[Yl];exact⟨ds,d,F1,hC,hn,S1.fh,i1,fun v H2 F2 p2 i2=>⟨d,Ω1,F2,S1.pur p2,f1.trans p2.ff,i2,r⟩⟩)
theorem yaq (h:V3 X B a Γ Ω fun d Ω1=>∃ ds,d=.lst ds/\V3 X B b Γ Ω1 fun d' Ω2=>∃ i e,d'=.int i/\atI ds i=some e/\R e Ω2)(hs:J8 b:=by exact fun _ _=>rfl):V3 X B (.Subscript a b pos) Γ Ω R:=fun F σ H S pins s I=>
 wU vn Qt Qt hs pins s σ H _ I ((h F σ H S).mono fun x H1 ⟨d,Ω1,F1,S1,f1,i1,ds,e1,h1⟩=>(h1 F1 σ H1 S1).mono fun y H2 ⟨d',Ω2,F2,S2,f2,i2,j,e,e2,e3,q⟩=>by
  subst e1 e2;obtain⟨l,xs,rfl,s1,j1⟩:=jn (i1.mono f2);obtain⟨v,v1,v2⟩:=wa j1 e3;exact⟨l,xs,j,v,rfl,isI i2,S2.fh.seq s1,v1,e,Ω2,F2,S2,f1.trans f2,v2,q⟩)
theorem yei {op:CmpOp}{r:R2}(ho:OpR X (compareOp op) r)(h:V3 X B a Γ Ω fun d Ω1=>V3 X B b Γ Ω1 fun d' Ω2=>∃ k,(∀ x y H F Q,yP F H->Is X.K F d x->Is X.K F d' y->Q (.bl k) H->r x y H Q)/\RT k Ω2)
  (hm:behindInMarks op b=false:=by first|exact v9 _|with_unfolding_all rfl):VT3 X B (.Compare a [op] [b] pos) Γ Ω RT:=fun F σ H S pins s I=>
 kj ho Qt Qt hm pins s σ H _ I ((h F σ H S).mono fun x H1 ⟨d,Ω1,F1,S1,f1,i1,h1⟩=>(h1 F1 σ H1 S1).mono fun y H2 ⟨d',Ω2,F2,S2,f2,i2,k,hr,q⟩=>hr x y H2 F2 _ S2.fh (i1.mono f2) i2 ⟨k,rfl,Ω2,F2,S2,f1.trans f2,q⟩)
theorem yg5 {op:CmpOp}{r:R2}(ho:OpR X (compareOp op) r)(h:V3 X B a Γ Ω fun d Ω1=>V3 X B b Γ Ω1 fun d' Ω2=>∃ k,(∀ x y H F Q,yP F H->Is X.K F d x->Is X.K F d' y->Q (.bl k) H->r x y H Q)/\R (.bl k) Ω2)
  (hm:behindInMarks op b=false:=by first|exact v9 _|with_unfolding_all rfl):V3 X B (.Compare a [op] [b] pos) Γ Ω R:=fun F σ H S pins s I=>
 ybn ho Qt Qt hm pins s σ H _ I ((h F σ H S).mono fun x H1 ⟨d,Ω1,F1,S1,f1,i1,h1⟩=>(h1 F1 σ H1 S1).mono fun y H2 ⟨d',Ω2,F2,S2,f2,i2,k,hr,q⟩=>hr x y H2 F2 _ S2.fh (i1.mono f2) i2 ⟨.bl k,Ω2,F2,S2,f1.trans f2,Kb F2,q⟩)
theorem uy {g:Int->Int->Bool}{i j:Int}:∀ (x y:V) (H F:Hp) (Q:VK),yP F H->Is X.K F (.int i) x->Is X.K F (.int j) y->Q (.bl (g i j)) H->rI0 (fun i j=>.bl (g i j)) x y H Q:=fun x y H F Q fh i1 i2 q=>⟨i,j,isI i1,isI i2,q⟩
theorem QM {i:Nat}{x:Str}(hN:X.N.Nodup)(hi:X.N[i]?=some x)(hx:Loc X.env.scope x)(h:V3 X B e Γ Ω fun d Ω1=>W3 X B rest (Γ.set i (some d)) Ω1 E)(hs:swapsWith e (some (.Name x pos')) pos.line X.env=pure false:=by rfl)
  (hf:X.fn x=true∨X.env.scope.names.lookup x=some .local:=by first|exact .inl rfl|exact .inr rfl|assumption):W3 X B (.Assign [.Name x pos'] e pos::rest) Γ Ω E:=fun F σ H S pins s I=>
 YX (XQ hN hi hx Qt hs hf) qu pins s σ H _ I ((h F σ H S).mono fun v H1 ⟨d,Ω1,F1,S1,f1,i1,h1⟩=>Y3 f1 (h1 F1 _ H1 (S1.slots (Sl.set S1.sl (by rw[I.len];exact(al_getElem?_eq_some_iff.mp hi).1) i1))))
theorem JX (h:V3 X B e Γ Ω E.rt):W3 X B (.Return (some e) pos::rest) Γ Ω E:=fun F σ H S pins s I=>
 YX (Uq Qt) ZL pins s σ H _ I ((h F σ H S).mono fun v H1 ⟨d,Ω1,F1,S1,f1,i1,h1⟩=>⟨d,Ω1,F1,⟨σ,S1.slots Sl.nil⟩,f1,i1,h1⟩)
theorem ZW {a b:List Stmt}(h:VT3 X B c Γ Ω fun k Ω1=>(k=true->W3 X B a Γ Ω1 (E.then X B rest))/\(k=false->W3 X B b Γ Ω1 (E.then X B rest))):W3 X B (.If c a b pos::rest) Γ Ω E:=fun F σ H S pins s I=>
 YX (ycI yjI qu qu) qu pins s σ H _ I ((h F σ H S).mono fun k H1 ⟨Ω1,F1,S1,f1,h1,h2⟩=>by
  cases k with
  |true=>exact ygD (vy (Y3 f1 (h1 rfl F1 σ H1 S1)))
  |false=>exact yfV (vy (Y3 f1 (h2 rfl F1 σ H1 S1))))
end
theorem Sat.freeze {K:W.Frag}{B:Bs}{Γ:Ga}{Ω:Om}{F:Hp}{σ:L2.St}{H:Hp}{a:Addr}{ds:List D}(S:Sat K B Γ ((a,qg K ds)::Ω) F σ H):∃ F',Sat K B Γ Ω F' σ H/\yP F F'/\Is K F' (.lst ds) (.ref a):=by
 obtain⟨fa,o0,ha,ho⟩:=S.own (a,qg K ds) (by simp);obtain⟨xs,rfl,il⟩:=ho F (yP.refl _);have nin:=(yK.mp S.nd).1;have w:yP F (upd F a (.lst xs)):=fun b u q=>by rw[yO (y6 q fa)];exact q
 refine⟨upd F a (.lst xs),⟨S.f0.trans w,fun b u q=>?_,fun b q=>?_,S.kp,(yK.mp S.nd).2,fun q hq=>S.od q (yf _ hq),fun q hq=>?_,S.sl.mono w⟩,w,Is.lstI (.inl yL) (il.mono w)⟩
 ·by_cases hb:b=a
  ·subst hb;rw[yL] at q;cases q;exact ha
  ·rw[yO hb] at q;exact S.fh _ _ q
 ·by_cases hb:b=a
  ·subst hb;exact(S.od (b,qg K ds) (by simp)).elim (fun z=>.inr (.inr z)) fun z=>.inr (.inl z)
  ·rw[yO hb] at q;exact S.fr b q
 ·obtain⟨h1,o',h2,h3⟩:=S.own q (yf _ hq);have ne:q.1≠a:=fun e=>nin (yo.mpr ⟨q,hq,e⟩);exact⟨by rw[yO ne];exact h1,o',h2,fun F2 e=>h3 F2 (w.trans e)⟩
theorem Sat.new {K:W.Frag}{B:Bs}{Γ:Ga}{Ω:Om}{F F':Hp}{σ:L2.St}{H H':Hp}{a:Addr}{w:Ow}{o:HO}(S:Sat K B Γ Ω F σ H)(pu:Pur F H F' H')(ha:H a=none)(fa:F' a=none)(hH:H' a=some o)(h:∀ F2,yP F' F2->w F2 o):Sat K B Γ ((a,w)::Ω) F' σ H':=by
 have S1:=S.pur pu;have nin:a∉Ω.map (·.1):=fun z=>by
  obtain⟨q,hq,e⟩:=yo.mp z;obtain⟨_,o,h2,_⟩:=S.own q hq;rw[e,ha] at h2;cases h2
 refine⟨S1.f0,S1.fh,S1.fr,S1.kp,yK.mpr ⟨nin,S1.nd⟩,fun q hq=>?_,fun q hq=>?_,S1.sl⟩
 ·rcases yA.mp hq with z|z
  ·subst z;exact(S.freeB ha).symm
  ·exact S1.od q z
 ·rcases yA.mp hq with z|z
  ·subst z;exact⟨fa,_,hH,h⟩
  ·exact S1.own q z
def WI (X:Cx)(tg iter:Expr):TI:=fun σ H R=>∀ (pins:List (Addr×Obj)) (s:Shared),Inv X pins σ H s->wpAny (model X.prog X.w) X.A (eval iter X.env) (fun v s1=>wpAny (model X.prog X.w) X.A (pyIter v) (PIE X pins σ tg R) X.xe s1) X.xe s
theorem yhJ {X:Cx}{tg iter:Expr}:PI X tg iter (WI X tg iter):=fun pins s σ H R I h=>h pins s I
theorem WI.mono {X:Cx}{tg iter:Expr}{σ:L2.St}{H:Hp}{R R':It->Hp->Prop}(h:WI X tg iter σ H R)(i:∀ J H,R J H->R' J H):WI X tg iter σ H R':=fun pins s I=>thn (h pins s I) fun v s1 h1=>thn h1 fun itv s2 ⟨it,fp,tn,J,H',e,I',T,t0,f,r⟩=>⟨it,fp,tn,J,H',e,I',T,t0,f,i _ _ r⟩
def IV3 (X:Cx)(B:Bs)(tg iter:Expr)(Γ:Ga)(Ω:Om)(R:List D->Om->Prop):Prop:=∀ F σ H,Sat X.K B Γ Ω F σ H->WI X tg iter σ H fun J H'=>∃ ds Ω' F',Sat X.K B Γ Ω' F' σ H'/\yP F F'/\ya4 X.K F' J ds/\R ds Ω'
section
variable {X:Cx}{B:Bs}{Γ:Ga}{Ω:Om}{E:E3}{rest body:List Stmt}{tg iter a b e:Expr}{es:List Expr}{d:D}{ds:List D}{pos pos' p:Pos}{R:D->Om->Prop}{RL:List D->Om->Prop}
theorem ygj (h:I3 X Γ tg iter ds)(r:RL ds Ω):IV3 X B tg iter Γ Ω RL:=fun F σ H S pins s I=>h pins s σ H _ I ⟨F,S.fh,S.sl,fun J H' F' p w=>⟨ds,Ω,F',S.pur p,p.ff,w,r⟩⟩
theorem VB (hm:X.mg "range" = none)(hg:Gl X "range")(h:V3 X B a Γ Ω fun d Ω1=>∃ j:Int,d=.int j/\-(2 ^ 62)<=j/\j<2 ^ 62/\RL (V2 0 j.toNat) Ω1)(hs:starEach [a] X.env=[(false,eval a X.env)]:=by rfl):IV3 X B tg (.Call (.Name "range" p) [a] [] pos) Γ Ω RL:=fun F σ H S pins s I=>
 uY hg hm (Jo Qt Zx hs) hs pins s σ H _ I ((h F σ H S).mono fun v H1 ⟨d,Ω1,F1,S1,f1,i1,j,e,b1,b2,r⟩=>by
  subst e;exact⟨j,by rw[isI i1],b1,b2,_,Ω1,F1,S1,f1,kJ,r⟩)
theorem Zy (hp:PassesOwn (model X.prog X.w) X.A X.env X.xe)(hc:X.calm=true)
  (h:IV3 X B tg iter Γ Ω fun ds Ω1=>∃ J:Nat->Ga->Om->Prop,J 0 Γ Ω1/\(∀ i d Γ Ω,ds[i]?=some d->J i Γ Ω->∃ Γ1,G3 X tg Γ d Γ1/\W3 X B body Γ1 Ω {E with nx:=J (i+1),ct:=J (i+1),bk:=fun Γ' Ω'=>W3 X B rest Γ' Ω' E})/\∀ Γ Ω,J ds.length Γ Ω->W3 X B rest Γ Ω E)
  (hs:∀ x,foldedSetIterable iter X.env x=pure x:=by intro _;rfl):W3 X B (.For tg iter body [] pos::rest) Γ Ω E:=fun F σ H S pins s I=>by
 refine YX (ycW hp hc yhJ ye6 qu hs) qu pins s σ H _ I ((h F σ H S).mono fun Jt H1 ⟨ds,Ω1,F1,S1,p1,w,J,h0,step,hd⟩=>⟨fun i m σ H=>i+m=ds.length/\nX X.K B F1 (J i) σ H,⟨ds.length,by omega,Γ,Ω1,F1,S1,yP.refl _,h0⟩,?_⟩);rintro i m σ H ⟨hm,Γ,Ω,F2,S,f1,j⟩;obtain⟨w1,w2⟩:=w i F2 H f1 S.fh;cases z:ds[i]? with
 |none=>
  have hl:ds.length<=i:=al_getElem?_eq_none_iff.mp z;have e:i=ds.length:=by omega
  subst e;exact .inl ⟨w2 hl,Y3 (p1.trans f1) (hd Γ Ω j F2 σ H S)⟩
 |some d=>
  have hl:i<ds.length:=(al_getElem?_eq_some_iff.mp z).1;obtain⟨go,y⟩:=w1 d z;obtain⟨Γ1,⟨g,pg,gq⟩,wb⟩:=step i d Γ Ω z j;refine .inr ⟨go,nX X.K B F1 (J (i+1)),?_,fun x H' hy pins s u I2 r=>?_⟩
  ·rintro σ' H' n;exact⟨m - 1,by omega,by omega,n⟩
  ·obtain⟨F3,p2,ix⟩:=y x H' hy;refine pg pins s σ H' x u _ I2 r (gq F3 σ H' x _ p2.fh ix (S.sl.mono p2.ff) I2.len fun σ' sl' _=>?_);have f3:yP F1 F3:=f1.trans p2.ff;exact qh (D:=E3.to X.K B F3 {E with nx:=J (i+1),ct:=J (i+1),bk:=fun Γ' Ω'=>W3 X B rest Γ' Ω' E}) (D':={nx:=nX X.K B F1 (J (i+1)),rt:=(E.to X.K B F).rt,bk:=WS X rest (E.to X.K B F),ct:=nX X.K B F1 (J (i+1))})
    (fun _ _ q=>q.mono f3) (fun v H ⟨d,Ω,F,S,f,i,r⟩=>⟨d,Ω,F,S,(p1.trans f3).trans f,i,r⟩) (fun _ _ q=>kq (q.mono (p1.trans f3))) (fun _ _ q=>q.mono f3) (wb F3 σ' H' ((S.pur p2).slots sl'))
theorem UJ (h:PF3 X Γ e ds)(r:∀ a,R (.raw (.ref a)) ((a,qg X.K ds)::Ω)):V3 X B e Γ Ω R:=fun F σ H S pins s I=>h pins s σ H _ I ⟨F,S.fh,S.sl,fun a xs H' F' pu ha fa hH il=>⟨_,_,F',S.new pu ha fa hH (fun F2 e=>⟨xs,rfl,il.mono e⟩),pu.ff,zl F',r a⟩⟩
theorem yem {elt:Expr}{sc SX:Scope}{N XN:List Str}{nt:Nat}{caps:List Nat}(S:CompOk SX sc XN N nt caps)
  (h:IV3 X B tg iter Γ Ω fun ds Ω1=>∃ J:Nat->List D->Om->Prop,J 0 [] Ω1/\(∀ i gs Ω',J i gs Ω'->gs.length<sizeLine)/\
   (∀ c i d gs Ω',ds[i]?=some d->J i gs Ω'->∃ Γ1,G3 (X.comp sc N c) tg (vw nt caps Γ) d Γ1/\Sub (vw nt caps Γ) Γ1/\∀ q:Addr×Ow,V3 (X.comp sc N c) B elt Γ1 (q::Ω') fun e Ω2=>∃ Ω3,Ω2.Perm (q::Ω3)/\J (i+1) (gs++[e]) Ω3)/\
   ∀ a gs Ω',J ds.length gs Ω'->R (.raw (.ref a)) ((a,qg X.K gs)::Ω'))
  (hc:X.calm=true:=by rfl) (hX:X.env.scope=SX:=by rfl) (hN:X.N=XN:=by rfl) (hs:∀ x,foldedSetIterable iter X.env x=pure x:=by intro _;rfl):V3 X B (.ListComp elt [⟨tg,iter,[],0⟩] sc pos) Γ Ω R:=fun F σ H S0 pins s I=>by
 refine ybd S yhJ (fun c=>ye6) (fun c=>wg (c:=c)) (fun c=>Qt) hc hX hN hs pins s σ H _ I ((h F σ H S0).mono fun Jt H1 ⟨ds,Ω1,F1,S1,p1,w,J,h0,hz,step,hd⟩ D hD c=>
  ⟨fun i m σ' ys H'=>i+m=ds.length/\∃ gs Ω' F',yP F1 F'/\Sat X.K B (vw nt caps Γ) ((D,qg X.K gs)::Ω') F' σ' H'/\H' D=some (.lst ys)/\IsL X.K F' gs ys/\J i gs Ω',?_,?_⟩)
 ·refine⟨ds.length,by omega,[],Ω1,F1,yP.refl _,?_,yL,IsL.nil,h0⟩;exact(S1.new (Pur.layOwn S1.fh hD) hD (S1.fh.free hD) yL fun F2 e=>⟨[],rfl,IsL.nil⟩).slots (Sl.cap S1.sl)
 ·rintro i m σ' ys H' ⟨hm,gs,Ω',F',f',S',hH,il,j⟩;refine⟨hH,by rw[il.len];exact hz i gs Ω' j,?_⟩;obtain⟨w1,w2⟩:=w i F' H' f' S'.fh;cases z:ds[i]? with
  |none=>
   have hl:ds.length<=i:=al_getElem?_eq_none_iff.mp z;have e:i=ds.length:=by omega
   subst e;exact .inl ⟨w2 hl,.raw (.ref D),_,F',S'.slots (S1.sl.mono f'),p1.trans f',zl F',hd D gs Ω' j⟩
  |some d=>
   have hl:i<ds.length:=(al_getElem?_eq_some_iff.mp z).1;obtain⟨go,y⟩:=w1 d z;obtain⟨Γ1,⟨g,pg,gq⟩,sub,he⟩:=step c i d gs Ω' z j;refine .inr ⟨go,fun x H2 hy pins s u I2 r=>?_⟩;obtain⟨F2,p2,ix⟩:=y x H2 hy;refine pg pins s σ' H2 x u _ I2 r (gq F2 σ' H2 x _ p2.fh ix (S'.sl.mono p2.ff) I2.len fun σ3 sl3 _=>?_);unfold yaK;dsimp only;rw[yc rfl];refine WE.mono (he (D,qg X.K gs) F2 σ3 H2 ((S'.pur p2).slots sl3)) fun v H5 ⟨e,Ω2,F5,S5,f5,iv,Ω3,pm,j5⟩=>?_;have S5':=S5.perm pm.symm;obtain⟨fD,o,hD5,ho⟩:=S5'.own (D,qg X.K gs) (by simp);obtain⟨ys',rfl,il'⟩:=ho F5 (yP.refl _);refine⟨ys',hD5,by rw[il'.len];exact hz i gs Ω' j,m - 1,by omega,by omega,gs++[e],Ω3,F5,f'.trans (p2.ff.trans f5),?_,yL,il'.append (IsL.cons iv IsL.nil),j5⟩;exact(S5'.turn fun F6 e6=>⟨_,rfl,(il'.mono e6).append (IsL.cons (iv.mono e6) IsL.nil)⟩).slots (S5'.sl.sub sub)
theorem V3.frozen (h:V3 X B e Γ Ω fun d Ω'=>∃ a gs Ω2,d=.raw (.ref a)/\Ω'=(a,qg X.K gs)::Ω2/\R (.lst gs) Ω2):V3 X B e Γ Ω R:=fun F σ H S=>(h F σ H S).mono fun v H' ⟨d,Ω',F',S',f,iv,a,gs,Ω2,e1,e2,r⟩=>by
 subst e1 e2;obtain⟨F2,S2,f2,i2⟩:=S'.freeze;cases isR iv;exact⟨_,Ω2,F2,S2,f.trans f2,i2,r⟩
theorem yhm (hm:X.mg "len" = none)(hg:Gl X "len")(h:V3 X B a Γ Ω fun d Ω1=>∃ l ds,d=.raw (.ref l)/\(l,qg X.K ds)∈Ω1/\R (.int ds.length) Ω1)(he:starEach [a] X.env=(false,eval a X.env)::starEach [] X.env:=by rfl):V3 X B (.Call (.Name "len" p) [a] [] pos) Γ Ω R:=fun F σ H S pins s I=>
 wV JB hg hm PySem.boot_len (Jo Qt Zx he) (by decide) (by decide) he (by rfl) pins s σ H _ I ((h F σ H S).mono fun x H1 ⟨d,Ω1,F1,S1,f1,i1,l,ds,e1,m,r⟩=>by
  subst e1;cases isR i1;obtain⟨fa,o,ha,ho⟩:=S1.own _ m;obtain⟨xs,rfl,il⟩:=ho F1 (yP.refl _);exact⟨l,xs,rfl,.inl (SqL.of ha),.int ds.length,Ω1,F1,S1,f1,by rw[il.len];exact QG F1,r⟩)
theorem ybX {i:Nat}{x:Str}{l:Addr}{w:Ow}{apos np ppos:Pos}(hi:X.N[i]?=some x)(hv:Vis X.env.scope x)(hΓ:Γ[i]?=some (some (.raw (.ref l))))(hm:(l,w)∈Ω)(hw:∀ F o,w F o->∃ xs,o=.lst xs)
  (h:V3 X B e Γ Ω fun d Ω1=>∃ ds Ω2,Ω1.Perm ((l,qg X.K ds)::Ω2)/\ds.length<sizeLine/\W3 X B rest Γ ((l,qg X.K (ds++[d]))::Ω2) E)
  (hs:∀ {t:TE},PE X (.Call (.Attribute (.Name x np) "append" apos) [e] [] ppos) t->PS X (.Expr (.Call (.Attribute (.Name x np) "append" apos) [e] [] ppos) pos) (yaG t):=by exact fun h=>vL h)
  (hd:(x==("__debug__" : Str))=false:=by decide) (hcd:(x==("__classdict__" : Str))=false:=by decide) (hst:starEach [e] X.env=(false,eval e X.env)::starEach [] X.env:=by rfl)
  (hp:∀ {to:TE} {ta:TA},PE X (.Name x np) to->PA X [e] ta->PE X (.Call (.Attribute (.Name x np) "append" apos) [e] [] ppos) (tBM X.K "list" U7 to ta):=by exact fun a b=>yfd PySem.F.plainAttrs_list PySem.F.slot_list_append PySem.F.type_list_append Vb a b) :
  W3 X B (.Expr (.Call (.Attribute (.Name x np) "append" apos) [e] [] ppos) pos::rest) Γ Ω E:=fun F σ H S pins s I=>by
 obtain⟨v,e1,e2⟩:=S.sl i _ hΓ;cases isR e2;obtain⟨fa,o0,ha,ho⟩:=S.own _ hm;obtain⟨xs0,rfl⟩:=hw F o0 (ho F (yP.refl _));refine YX (hs (hp (k8 hi hv hd hcd) (Jo Qt Zx hst))) qu pins s σ H _ I ⟨_,e1,.inl ⟨rfl,_,SqL.of ha⟩,(h F σ H S).mono fun y H1 ⟨d,Ω1,F1,S1,f1,i1,ds,Ω2,pm,hz,h1⟩=>?_⟩;have S2:=S1.perm pm.symm;obtain⟨fa',o',ha',ho'⟩:=S2.own (l,qg X.K ds) (by simp);obtain⟨xs,rfl,il⟩:=ho' F1 (yP.refl _);exact⟨l,xs,y,rfl,rfl,ha',by rw[il.len];exact hz,Y3 f1 (h1 F1 σ _ (S2.turn fun F2 e2=>⟨_,rfl,(il.mono e2).append (IsL.cons (i1.mono e2) IsL.nil)⟩))⟩
end
def sh (q:Rat):D:=.tup [.int q.num,.int (q.den:Int)]
def Sz (n:Nat)(q:Rat):Prop:=q.num.natAbs<2 ^ n/\q.den<2 ^ n
theorem Sz.mono {m n:Nat}{q:Rat}(h:Sz m q)(l:m<=n):Sz n q:=
 ⟨yH h.1 (YC (by decide) l),yH h.2 (YC (by decide) l)⟩
theorem K6 {x:Int}{n:Nat}(h:x.natAbs<2 ^ n):Builtin.Int.intBits x<=n:=PySem.intBits_le_iff.mpr h
theorem jX {a b:Int}{m n:Nat}(ha:a.natAbs<2 ^ m)(hb:b.natAbs<2 ^ n)(h:m+n<=134217728):IntMulOk a b:=PySem.IntMulOk.of_le (K6 ha) (K6 hb) h
theorem yes (m n:Nat):2 ^ (m+n)=2 ^ m*2 ^ n:=Nat.pow_add 2 m n
theorem YZ {a b:Int}{m n:Nat}(ha:a.natAbs<2 ^ m)(hb:b.natAbs<2 ^ n):(a*b).natAbs<2 ^ (m+n):=by
 rw[Int.natAbs_mul,yes];exact Nat.mul_lt_mul'' ha hb
theorem jP {t b:Int}{n:Nat}(hb:0<b)(h1:t.natAbs<2 ^ n)(h2:b.natAbs<2 ^ n):Sz n (Rat.divInt t b):=by
 constructor
 ·rw[Rat.num_divInt,Int.sign_eq_one_of_pos hb,Int.one_mul];refine Qq ?_ h1;rw[Int.natAbs_ediv_of_dvd (Int.gcd_dvd_right _ _)];exact Nat.div_le_self _ _
 ·rw[Rat.den_divInt,yb (by omega)];exact Qq (Nat.div_le_self _ _) h2
theorem xy {m n:Nat}{p q:Rat}(hp:Sz m p)(hq:Sz n q):Sz (m+n+1) (p+q):=by
 rw[←My.q_add];have a1:=YZ hp.1 (show(q.den:Int).natAbs<2 ^ n from hq.2);have a2:=YZ hq.1 (show(p.den:Int).natAbs<2 ^ m from hp.2);have a3:=YZ (show(p.den:Int).natAbs<2 ^ m from hp.2) (show(q.den:Int).natAbs<2 ^ n from hq.2);rw[Nat.add_comm n m] at a2;have e:2 ^ (m+n+1)=2 ^ (m+n)+2 ^ (m+n):=by rw[QK];omega
 refine jP (jg (My.den_pos' p) (My.den_pos' q)) ?_ ?_
 ·rw[e];refine Qq (Int.natAbs_add_le _ _) ?_;omega
 ·rw[e];omega
theorem Xc {m n:Nat}{p q:Rat}(hp:Sz m p)(hq:Sz n q):Sz (m+n+1) (p - q):=by
 rw[←My.q_sub];have a1:=YZ hp.1 (show(q.den:Int).natAbs<2 ^ n from hq.2);have a2:=YZ hq.1 (show(p.den:Int).natAbs<2 ^ m from hp.2);have a3:=YZ (show(p.den:Int).natAbs<2 ^ m from hp.2) (show(q.den:Int).natAbs<2 ^ n from hq.2);rw[Nat.add_comm n m] at a2;have e:2 ^ (m+n+1)=2 ^ (m+n)+2 ^ (m+n):=by rw[QK];omega
 refine jP (jg (My.den_pos' p) (My.den_pos' q)) ?_ ?_
 ·rw[e];refine Qq (Int.natAbs_sub_le _ _) ?_;omega
 ·rw[e];omega
theorem UP {m n:Nat}{p q:Rat}(hp:Sz m p)(hq:Sz n q):Sz (m+n) (p*q):=by
 rw[←My.q_mul];exact jP (jg (My.den_pos' p) (My.den_pos' q)) (YZ hp.1 hq.1) (YZ (show(p.den:Int).natAbs<2 ^ m from hp.2) (show(q.den:Int).natAbs<2 ^ n from hq.2))
theorem yd8 {m n:Nat}{p q:Rat}(hp:Sz m p)(hq:Sz n q)(h0:0<q):Sz (m+n) (p / q):=by
 rw[←My.q_div];exact jP (jg (My.den_pos' p) (My.q_num_pos h0)) (YZ hp.1 (show(q.den:Int).natAbs<2 ^ n from hq.2)) (YZ (show(p.den:Int).natAbs<2 ^ m from hp.2) hq.1)
theorem wA:Sz 1 0:=by constructor <;> decide
theorem wj:Sz 1 1:=by constructor <;> decide
theorem vW {p q:Rat}(a:0<=p)(b:0<=q):0<=p+q:=by grind
theorem Zm {p q:Rat}(a:0<=p)(b:0<=q):0<=p*q:=Rat.mul_nonneg a b
theorem Kr {p q:Rat}(a:0<=p)(b:0<q):0<=p / q:=by
 rw[Rat.div_def];exact Rat.mul_nonneg a (YG (Rat.inv_pos.mpr b))
abbrev big:Nat:=67108864
def yjQ:List D->D->Prop:=fun ds d=>∃ a b:Int,ds=[.int a,.int b]/\d=.int (My.G a b)/\0<=a/\0<=b
def yba:List D->D->Prop:=fun ds d=>∃ t b:Int,ds=[.int t,.int b]/\d=sh (Rat.divInt t b)/\0<=t/\0<b
def yfK (f:Rat->Rat->Rat)(C:Rat->Rat->Prop):List D->D->Prop:=fun ds d=>∃ (p q:Rat) (m n:Nat),ds=[sh p,sh q]/\d=sh (f p q)/\0<=p/\0<=q/\Sz m p/\Sz n q/\m<=big/\n<=big/\C p q
abbrev yai:=yfK (fun p q=>p+q) fun _ _=>True
abbrev ya2:=yfK (fun p q=>p*q) fun _ _=>True
abbrev xB:=yfK (fun p q=>p - q) fun p q=>q<=p
abbrev ycj:=yfK (fun p q=>p / q) fun _ q=>0<q
def yiT:List D->D->Prop:=fun ds d=>∃ (p q:Rat) (m n:Nat),ds=[sh p,sh q]/\d=.bl (decide (p<q))/\Sz m p/\Sz n q/\m<=big/\n<=big
theorem QQ {q:Rat}{n:Nat}(h:Sz n q):((q.den:Int)).natAbs<2 ^ n:=h.2
theorem Vf {p q:Rat}{m n:Nat}(hp:Sz m p)(hq:Sz n q)(h1:m<=big)(h2:n<=big):IntMulOk p.num q.den:=jX hp.1 (QQ hq) (by have:big=67108864:=rfl;omega)
theorem yc1 {p q:Rat}{m n:Nat}(hp:Sz m p)(hq:Sz n q)(h1:m<=big)(h2:n<=big):IntMulOk p.num q.num:=jX hp.1 hq.1 (by have:big=67108864:=rfl;omega)
theorem UR {p q:Rat}{m n:Nat}(hp:Sz m p)(hq:Sz n q)(h1:m<=big)(h2:n<=big):IntMulOk p.den q.den:=jX (QQ hp) (QQ hq) (by have:big=67108864:=rfl;omega)
theorem ydL {p q:Rat}(h:sh p=sh q):p=q:=by
 unfold sh at h;simp only[D.tup.injEq,List.cons.injEq,D.int.injEq,and_true] at h;exact My.q_inj h.1 h.2
theorem jE {p q:Rat}:YV (sh p) (sh q)=decide (p=q):=by
 by_cases h:p=q
 ·subst h;rw[zk (by rfl)];simp
 ·rw[U9 (fun z=>h (ydL z)),yv h]
theorem Jz {p q:Rat}:kin (sh p) (sh q)=true:=by rfl
theorem Jy {p:Rat}:dep (sh p)<=60:=by
 show max 0 (max 0 0)+1<=60;decide
def Jr:Ow:=fun _ o=>∃ x:Int,o=.lst [.int x]/\0<=x/\x<2147483647
def yeB:Sp:=fun vs H Q _=>∃ (a:Addr) (m x:Int),vs=[.ref a,.int m]/\0<m/\m<1073741824/\H a=some (.lst [.int x])/\0<=x/\x<2147483647/\∀ x' r:Int,0<=x'->x'<2147483647->0<=r->r<m->Q (.int r) (upd H a (.lst [.int x']))
theorem zV {X:Cx}{B:Bs}{Γ:Ga}{Ω:Om}{x:Str}{ps:List Str}{k:Nat}{a b:Expr}{p pos:Pos}{l:Addr}{m:Int}{R:D->Om->Prop}(o:OkF X.prog X.w X.K X.mg X.base CX0 k x ps yeB)(hr:Room k X.A)(hg:Gl X x)(ha:P3 X Γ a (.raw (.ref l)))(hm:(l,Jr)∈Ω)(hb:P3 X Γ b (.int m))(h1:0<m)(h2:m<1073741824)
  (h:∀ r:Int,0<=r->r<m->R (.int r) Ω) (hdb:(x==("__debug__" : Str))=false:=by decide)
  (he:starEach [a,b] X.env=(false,eval a X.env)::starEach [b] X.env:=by rfl) (he2:starEach [b] X.env=(false,eval b X.env)::starEach [] X.env:=by rfl) (hpl:(backTo pos (starEach [b] X.env)).any (·.1)=false:=by rfl):V3 X B (.Call (.Name x p) [a,b] [] pos) Γ Ω R:=fun F σ H S pins s I=>
 VJ o hr hg (yd ha (yd hb yt he2) he) hdb he hpl pins s σ H _ I ⟨F,S.fh,S.sl,fun vs H' F' pu i=>by
  dsimp only;rw[Yl];obtain⟨x,y,rfl,i1,i2⟩:=yfY i;cases isR i1;cases isI i2;have S1:=S.pur pu;obtain⟨fa,o',ha',ho⟩:=S1.own _ hm;obtain⟨x0,rfl,b1,b2⟩:=ho F' (yP.refl _);exact⟨l,m,x0,rfl,h1,h2,ha',b1,b2,fun x' r c1 c2 c3 c4=>⟨.int r,Ω,F',S1.turnIn hm (fun F2 _=>⟨x',rfl,c1,c2⟩),pu.ff,QG F',h r c3 c4⟩⟩⟩
def qF (K:W.Frag)(mg:Str->Option Value)(x:Str)(d:D):Prop:=∃ (v:V) (u:Value),mg x=some u/\Yx v u/\∀ F,Is K F d v
theorem qa {X:Cx}{Γ:Ga}{x:Str}{d:D}{pos:Pos}(h:qF X.K X.mg x d)(hg:Gl X x)(hd:(x==("__debug__" : Str))=false:=by decide):P3 X Γ (.Name x pos) d:=by
 obtain⟨v,u,hm,r,i⟩:=h;exact yhn hg hm r i hd
structure Zs (mg:Str->Option Value):Prop where
 len:mg "len" = none
 range:mg "range" = none
 list:mg "list" = none
 tuple:mg "tuple" = none
 int:mg "int" = none
 bool:mg "bool" = none
 str:mg "str" = none
 dict:mg "dict" = none
 isinstance:mg "isinstance" = none
 sum:mg "sum" = none
 enumerate:mg "enumerate" = none
 zip:mg "zip" = none
 ValueError:mg "ValueError" = none
 all:mg "all" = none
 any:mg "any" = none
 reversed:mg "reversed" = none
theorem zX {a b:Int}(p:0<b):0<=a % b/\a % b<b:=⟨Int.emod_nonneg a (by omega),Int.emod_lt_of_pos a p⟩
theorem ybj {a b:Int}(ha:0<=a)(hb:0<b):My.G b (a % b)=My.G a b:=by
 rw[←Qm a (yx hb)];exact My.G_turn ha hb
theorem xr {p q:Rat}:(0:Int)<p.den*q.den:=jg (My.den_pos' p) (My.den_pos' q)
theorem yhF {p q:Rat}(hp:0<=p)(hq:0<=q):0<=p.num*q.den+q.num*p.den:=
 Int.add_nonneg (Qa (My.q_num_nn hp) (yx (My.den_pos' q))) (Qa (My.q_num_nn hq) (yx (My.den_pos' p)))
theorem yhR {p q:Rat}(h:q<=p):0<=p.num*q.den - q.num*p.den:=by
 have:=(Rat.le_iff q p).mp h;omega
theorem jZ {X:Cx}{Γ:Ga}{e:Expr}{d d':D}(h:P3 X Γ e d')(q:d'=d):P3 X Γ e d:=q▸h
def yij:List D->D->Prop:=fun ds d=>∃ (ns:List Int) (k:Nat),ds=[.scr ns,.int (k:Int)]/\d=.int (ns.getD k 0)
def yeT:Sp:=fun vs H Q _=>∃ c:Int,vs=[.int c]/\∀ (p:Addr) (x:Int),H p=none->0<=x->x<2147483647->Q (.ref p) (upd H p (.lst [.int x]))
theorem Uc {a b:Int}(h:b.natAbs<2 ^ 64):IntMulOk a b:=IntMulOk.of_right (K6 h)
theorem ydC {X:Cx}{B:Bs}{Γ:Ga}{Ω:Om}{x:Str}{ps:List Str}{k:Nat}{a:Expr}{p pos:Pos}{c:Int}{R:D->Om->Prop}(o:OkF X.prog X.w X.K X.mg X.base CX0 k x ps yeT)(hr:Room k X.A)(hg:Gl X x)(ha:P3 X Γ a (.int c))(h:∀ l,R (.raw (.ref l)) ((l,Jr)::Ω))(hdb:(x==("__debug__" : Str))=false:=by decide)
  (he:starEach [a] X.env=(false,eval a X.env)::starEach [] X.env:=by rfl):V3 X B (.Call (.Name x p) [a] [] pos) Γ Ω R:=fun F σ H S pins s I=>
 VJ o hr hg (yd ha yt he) hdb he (by rfl) pins s σ H _ I ⟨F,S.fh,S.sl,fun vs H' F' pu i=>by
  dsimp only;rw[Yl];obtain⟨y,rfl,i1⟩:=Va i;cases isI i1;refine⟨c,rfl,fun l x0 hl b1 b2=>⟨.raw (.ref l),(l,Jr)::Ω,F',?_,pu.ff,zl F',h l⟩⟩;exact S.new (pu.trans (Pur.layOwn pu.fh hl)) (pu.hh.free hl) (pu.fh.free hl) yL fun F2 _=>⟨x0,rfl,b1,b2⟩⟩
def Yr:Nat->(Nat->Rat)->Rat
 |0,_=>0
 |n+1,f=>Yr n f+f n
theorem YB {n:Nat}{f g:Nat->Rat}(h:∀ j,j<n->f j=g j):Yr n f=Yr n g:=by
 induction n with
 |zero=>rfl
 |succ n ih=>rw[Yr,Yr,ih (fun j hj=>h j (by omega)),h n (by omega)]
theorem Jx {n:Nat}{f g:Nat->Rat}:Yr n (fun j=>f j+g j)=Yr n f+Yr n g:=by
 induction n with
 |zero=>simp only[Yr];grind
 |succ n ih=>rw[Yr,Yr,Yr,ih];grind
theorem zu {n:Nat}{c:Rat}{f:Nat->Rat}:Yr n (fun j=>c*f j)=c*Yr n f:=by
 induction n with
 |zero=>simp only[Yr];grind
 |succ n ih=>rw[Yr,Yr,ih];grind
theorem ji {n:Nat}{f:Nat->Rat}(h:∀ j,j<n->f j=0):Yr n f=0:=by
 induction n with
 |zero=>rfl
 |succ n ih=>rw[Yr,ih (fun j hj=>h j (by omega)),h n (by omega)];grind
theorem vF {n k:Nat}{f:Nat->Rat}(hk:k<n):Yr n (fun j=>if j=k then 0 else f j)=Yr n f - f k:=by
 induction n with
 |zero=>omega
 |succ n ih=>
  rw[Yr,Yr];by_cases h:k=n
  ·subst h;rw[yc rfl,YB (g:=f) fun j hj=>yb (by omega)];grind
  ·rw[yb (fun z=>h z.symm),ih (by omega)];grind
def tb {α:Type}(n:Nat)(f:Nat->α):List α:=(List.range n).map f
theorem jo {α:Type}{n k:Nat}{f:Nat->α}(h:k<n):(tb n f)[k]?=some (f k):=by
 unfold tb;rw[al_getElem?_map,al_getElem?_range h];rfl
theorem Yv {α:Type}{n:Nat}{f:Nat->α}:(tb n f).length=n:=by unfold tb;simp
theorem ZB {α:Type}{n:Nat}{f g:Nat->α}(h:∀ j,j<n->f j=g j):tb n f=tb n g:=qr fun j hj=>h j (YE.mp hj)
theorem yaC {α:Type}{n k:Nat}{f:Nat->α}(h:k<=n):(tb n f).take k=tb k f:=by
 unfold tb;rw[←List.map_take,List.take_range,Nat.min_eq_left h]
theorem jy {α:Type}{n:Nat}{f:Nat->α}:tb (n+1) f=tb n f++[f n]:=by
 unfold tb;rw[Y9,yr];rfl
theorem yhN {α:Type}{n k:Nat}{f:Nat->α}{x:α}:(tb n f).set k x=tb n fun j=>if j=k then x else f j:=by
 refine al_ext_getElem? fun i=>?_;by_cases h:i<n
 ·rw[jo h,al_getElem?_set];by_cases hk:k=i
  ·subst hk;rw[yc rfl,yc rfl,yc (by rw[Yv];exact h)]
  ·rw[yb hk,jo h,yb (fun z=>hk z.symm)]
 ·rw[al_getElem?_eq_none_iff.mpr (by rw[List.length_set,Yv];omega),al_getElem?_eq_none_iff.mpr (by rw[Yv];omega)]
theorem ybK {α β:Type}{n:Nat}{f:Nat->α}{g:Nat->α->β}:(tb n f).mapIdx g=tb n fun j=>g j (f j):=by
 refine al_ext_getElem? fun i=>?_;rw[List.getElem?_mapIdx];by_cases h:i<n
 ·rw[jo h,jo h];rfl
 ·rw[al_getElem?_eq_none_iff.mpr (by rw[Yv];omega),al_getElem?_eq_none_iff.mpr (by rw[Yv];omega)];rfl
theorem xu {α β:Type}{n:Nat}{f:Nat->α}{g:Nat->β}:(tb n f).zip (tb n g)=tb n fun j=>(f j,g j):=by
 refine al_ext_getElem? fun i=>?_;by_cases h:i<n
 ·rw[jo h];exact al_getElem?_zip_eq_some.mpr ⟨jo h,jo h⟩
 ·rw[al_getElem?_eq_none_iff.mpr (by rw[YA,Yv,Yv];omega),al_getElem?_eq_none_iff.mpr (by rw[Yv];omega)]
theorem Z2 {α:Type}{n k:Nat}{f:Nat->α}(h:k<n):atI (tb n f) (k:Int)=some (f k):=by
 unfold atI ixN;rw[Yv,yc (by omega),yc (by omega)];show(tb n f)[((k:Int)).toNat]?=_;rw[Int.toNat_natCast];exact jo h
def shR (m:Nat)(f:Nat->Rat):D:=.lst (tb m fun j=>sh (f j))
def shM (n m:Nat)(E:Nat->Nat->Rat):D:=.lst (tb n fun i=>shR m (E i))
theorem ZM {m:Nat}{f g:Nat->Rat}(h:∀ j,j<m->f j=g j):shR m f=shR m g:=by
 unfold shR;rw[ZB fun j hj=>by rw[h j hj]]
def Jn (E:Nat->Nat->Rat)(k:Nat):Nat->Nat->Rat:=fun i j=>
 if i=k then (if j=k then 0 else E k j / (1 - E k k)) else (if j=k then 0 else E i j+E i k*(E k j / (1 - E k k)))
def EK (E:Nat->Nat->Rat):Nat->Nat->Nat->Rat
 |0=>E
 |k+1=>Jn (EK E k) k
def ZC (n m s:Nat)(E:Nat->Nat->Rat):Prop:=∀ i j,i<n->j<m->0<=E i j/\Sz s (E i j)
theorem zi {q:Rat}(h:q<1):0<1 - q:=by grind
theorem ZC.step {n m s k:Nat}{E:Nat->Nat->Rat}(h:ZC n m s E)(hk:k<n)(hm:k<m)(h1:E k k<1):ZC n m (4*s+3) (Jn E k):=fun i j hi hj=>by
 have a:=h k k hk hm;have b:=h k j hk hj;have c:=h i j hi hj;have e:=h i k hi hm;have p:=zi h1;have z:Sz (4*s+3) (0:Rat):=wA.mono (by omega);have g0:0<=E k j / (1 - E k k):=Kr b.1 p;have gs:Sz (s+(1+s+1)) (E k j / (1 - E k k)):=yd8 b.2 (Xc wj a.2) p;unfold Jn;by_cases h1:i=k
 ·rw[yc h1];by_cases h2:j=k
  ·rw[yc h2];exact⟨by decide,z⟩
  ·rw[yb h2];exact⟨g0,gs.mono (by omega)⟩
 ·rw[yb h1];by_cases h2:j=k
  ·rw[yc h2];exact⟨by decide,z⟩
  ·rw[yb h2];exact⟨vW c.1 (Zm e.1 g0),(xy c.2 (UP e.2 gs)).mono (by omega)⟩
def Piv (n:Nat)(E:Nat->Nat->Rat):Prop:=∀ k,k<n->EK E k k k<1
def sK (s:Nat):Nat->Nat
 |0=>s
 |k+1=>4*sK s k+3
theorem yaX {s j k:Nat}(h:j<=k):sK s j<=sK s k:=by
 induction k with
 |zero=>rw[jG.mp h];exact yg _
 |succ k ih=>
  rcases QI j (k+1) with h1|h1
  ·have:=ih (by omega);rw[sK];omega
  ·rw[show j=k+1 by omega];exact yg _
theorem ZC.at {n m s:Nat}{E:Nat->Nat->Rat}(h:ZC n m s E)(hm:n<=m):∀ k,k<=n->(∀ j,j<k->EK E j j j<1)->ZC n m (sK s k) (EK E k)
 |0,_,_=>h
 |k+1,hk,hp=>(ZC.at h hm k (by omega) fun j hj=>hp j (by omega)).step (by omega) (by omega) (hp k (by omega))
theorem UK {E:Nat->Nat->Rat}:∀ k i j,j<k->EK E k i j=0
 |0,_,_,h=>by omega
 |k+1,i,j,h=>by
  rw[EK];unfold Jn;by_cases h2:j=k
  ·rw[yc h2,yc h2];simp
  ·rw[yb h2,yb h2,UK k k j (by omega),UK k i j (by omega)];split <;> grind
def Slv (n:Nat)(E:Nat->Nat->Rat)(x:Nat->Rat):Prop:=∀ i,i<n->x i=Yr n (fun j=>E i j*x j)+E i n
theorem Slv.back {n k:Nat}{E:Nat->Nat->Rat}{x:Nat->Rat}(hk:k<n)(h1:E k k<1)(h:Slv n (Jn E k) x):Slv n E x:=by
 have p:=zi h1;have ne:1 - E k k≠0:=by grind
 have hn:¬ n=k:=by omega
 have row:∀ c:Nat->Rat,Yr n (fun j=>(if j=k then 0 else c j)*x j)=Yr n (fun j=>c j*x j) - c k*x k:=fun c=>by
  rw[←vF (f:=fun j=>c j*x j) hk];refine YB fun j _=>?_;by_cases hj:j=k
  ·rw[yc hj,yc hj];grind
  ·rw[yb hj,yb hj]
 have g:Yr n (fun j=>E k j / (1 - E k k)*x j)=Yr n (fun j=>E k j*x j) / (1 - E k k):=by
  have:Yr n (fun j=>E k j / (1 - E k k)*x j)=Yr n (fun j=>(1 / (1 - E k k))*(E k j*x j)):=YB fun j _=>by grind
  rw[this,zu];grind
 have hx:x k=Yr n (fun j=>E k j*x j)+E k n:=by
  have e:=h k hk;have e1:(fun j=>Jn E k k j*x j)=fun j=>(if j=k then 0 else E k j / (1 - E k k))*x j:=by
   funext j;unfold Jn;rw[yc rfl]
  have e2:Jn E k k n=E k n / (1 - E k k):=by unfold Jn;rw[yc rfl,yb hn]
  rw[e1,e2,row (fun j=>E k j / (1 - E k k)),g] at e;grind
 intro i hi;by_cases hik:i=k
 ·subst hik;exact hx
 ·have e:=h i hi;have e1:(fun j=>Jn E k i j*x j)=fun j=>(if j=k then 0 else E i j+E i k*(E k j / (1 - E k k)))*x j:=by
   funext j;unfold Jn;rw[yb hik]
  have e2:Jn E k i n=E i n+E i k*(E k n / (1 - E k k)):=by unfold Jn;rw[yb hik,yb hn]
  have e3:Yr n (fun j=>(E i j+E i k*(E k j / (1 - E k k)))*x j)=Yr n (fun j=>E i j*x j)+E i k*(Yr n (fun j=>E k j*x j) / (1 - E k k)):=by
   rw[←g,←zu,←Jx];exact YB fun j _=>by grind
  rw[e1,e2,row (fun j=>E i j+E i k*(E k j / (1 - E k k))),e3] at e;grind
theorem Slv.all {n:Nat}{E:Nat->Nat->Rat}(hp:Piv n E):Slv n E fun i=>EK E n i n:=by
 have last:Slv n (EK E n) fun i=>EK E n i n:=fun i hi=>by
  rw[ji fun j hj=>by rw[UK n i j hj];grind];grind
 have go:∀ k,k<=n->Slv n (EK E (n - k)) fun i=>EK E n i n:=fun k=>by
  induction k with
  |zero=>intro _;exact last
  |succ k ih=>
   intro hk;have e:=ih (by omega);rw[show n - k=(n - (k+1))+1 by omega,EK] at e;exact Slv.back (by omega) (hp _ (by omega)) e
 have:=go n (yg _)
 rwa [Nat.sub_self] at this
theorem UB {n:Nat}{E E':Nat->Nat->Rat}(h:∀ i j,i<n->j<n->E i j=E' i j):∀ k,k<=n->∀ i j,i<n->j<n->EK E k i j=EK E' k i j
 |0,_,i,j,hi,hj=>h i j hi hj
 |k+1,hk,i,j,hi,hj=>by
  have ih:=UB h k (by omega);rw[EK,EK];unfold Jn;rw[ih k j (by omega) hj,ih k k (by omega) (by omega),ih i j hi hj,ih i k hi (by omega)]
def nnR (m s:Nat)(f:Nat->Rat):Prop:=∀ j,j<m->0<=f j/\Sz s (f j)
def yb0:List D->D->Prop:=fun ds d=>∃ (m k:Nat) (f:Nat->Rat),ds=[shR m f,.int k]/\d=shR m (fun j=>if j=k then 0 else f j)/\k<m/\m<=10000
def ybE:List D->D->Prop:=fun ds d=>∃ (m k s:Nat) (f:Nat->Rat),ds=[shR m f,.int k]/\d=shR m (fun j=>if j=k then 0 else f j / (1 - f k))/\k<m/\m<=10000/\nnR m s f/\4*s+3<=big/\f k<1
def yjJ:List D->D->Prop:=fun ds d=>∃ (m k s:Nat) (f g:Nat->Rat),ds=[shR m f,.int k,shR m g]/\d=shR m (fun j=>if j=k then 0 else f j+f k*g j)/\k<m/\m<=10000/\nnR m s f/\nnR m (2*s+2) g/\4*s+3<=big/\g k=0
theorem vQ {n d k:Nat}(h:k<=n):HT.sIx n d (some (k:Int))=k:=by rw[HT.ygG];omega
theorem kH {ds:List D}{k:Nat}(h:k<=ds.length):Zo ds none (some (k:Int))=ds.take k:=by
 unfold Zo;rw[HT.Wh,vQ h];simp
theorem Wr {ds:List D}{k:Nat}(h:k<=ds.length):Zo ds (some (k:Int)) none=ds.drop k:=by
 unfold Zo;rw[HT.Wh,vQ h,List.take_of_length_le (by rw[jd];omega)]
theorem yhD {α:Type}{m k:Nat}{f:Nat->α}{x:α}(h:k<m):(tb m f).take k++[x]++(tb m f).drop (k+1)=tb m fun j=>if j=k then x else f j:=by
 rw[←yhN,List.set_eq_take_append_cons_drop,yc (by rw[Yv];exact h)];simp
theorem UU {m k:Nat}{f:Nat->D}(h:k<=m):Zo (tb m f) none (some (k:Int))=(tb m f).take k:=kH (by rw[Yv];exact h)
theorem yag {m k:Nat}{f:Nat->D}(h:k+1<=m):Zo (tb m f) (some ((k:Int)+1)) none=(tb m f).drop (k+1):=by
 rw[show((k:Int)+1)=((k+1:Nat):Int) by omega,Wr (by rw[Yv];exact h)]
theorem yhL {m k:Nat}{f:Nat->Rat}{x:Rat}:(tb m fun j=>if j=k then sh x else sh (f j))=tb m fun j=>sh (if j=k then x else f j):=ZB fun j _=>by
 by_cases h:j=k
 ·rw[yc h,yc h]
 ·rw[yb h,yb h]
def xE (lo n:Nat):List D:=tb n fun j=>.int ((lo+j:Nat):Int)
theorem QX {lo n:Nat}:(xE lo n).length=n:=Yv
theorem J3 {lo n i:Nat}{d:D}(h:(xE lo n)[i]?=some d):i<n/\d=.int ((lo+i:Nat):Int):=by
 have hi:=(al_getElem?_eq_some_iff.mp h).1;rw[QX] at hi;unfold xE at h;rw[jo hi] at h;cases h;exact⟨hi,rfl⟩
theorem uV {lo n:Nat}:V2 (lo:Int) n=xE lo n:=by
 unfold V2 xE;refine ZB fun j _=>?_;congr 1
theorem Zi {X:Cx}{Γ:Ga}{tg a:Expr}{p pos:Pos}{j:Int}{n:Nat}(hm:X.mg "range" = none)(hg:Gl X "range")(ha:P3 X Γ a (.int j))(hj:j=(n:Int))(hn:n<2 ^ 62)(hs:starEach [a] X.env=[(false,eval a X.env)]:=by rfl):I3 X Γ tg (.Call (.Name "range" p) [a] [] pos) (xE 0 n):=by
 subst hj;have h:=yef (tg:=tg) (p:=p) (pos:=pos) hm hg ha (by omega) (by omega) hs;rw[Int.toNat_natCast,show(0:Int)=((0:Nat):Int) from rfl,uV] at h;exact h
theorem KN {X:Cx}{Γ:Ga}{tg a b:Expr}{p pos:Pos}{i j:Int}{lo n:Nat}(hm:X.mg "range" = none)(hg:Gl X "range")(ha:P3 X Γ a (.int i))(hb:P3 X Γ b (.int j))(hi:i=(lo:Int))(hj:(j - i).toNat=n)(hn:lo<2 ^ 61/\-(2 ^ 61)<=j/\j<2 ^ 61)
  (hs:starEach [a,b] X.env=[(false,eval a X.env),(false,eval b X.env)]:=by rfl) (hs2:starEach [b] X.env=[(false,eval b X.env)]:=by rfl):I3 X Γ tg (.Call (.Name "range" p) [a,b] [] pos) (xE lo n):=by
 subst hi hj;have h:=ycn (tg:=tg) (p:=p) (pos:=pos) hm hg ha hb ⟨by omega,by omega,by omega,by omega⟩ hs hs2;rw[uV] at h;exact h
section
variable {X:Cx}{B:Bs}{Γ:Ga}{Ω:Om}{E:E3}{rest body:List Stmt}{tg iter a b e:Expr}{es:List Expr}{d:D}{ds:List D}{pos pos' p:Pos}{RL:List D->Om->Prop}{RT:Bool->Om->Prop}
theorem xR {elt:Expr}{sc:Scope}{N:List Str}{nt:Nat}{caps:List Nat}{R:D->Om->Prop}{F:Hp}{σ:L2.St}{H:Hp}{Q:VK}
  (h:IV3 X B tg iter Γ Ω fun ds Ω1=>∃ J:Nat->List D->Om->Prop,J 0 [] Ω1/\(∀ i gs Ω',J i gs Ω'->gs.length<sizeLine)/\
   (∀ c i d gs Ω',ds[i]?=some d->J i gs Ω'->∃ Γ1,G3 (X.comp sc N c) tg (vw nt caps Γ) d Γ1/\Sub (vw nt caps Γ) Γ1/\∀ q:Addr×Ow,V3 (X.comp sc N c) B elt Γ1 (q::Ω') fun e Ω2=>∃ Ω3,Ω2.Perm (q::Ω3)/\J (i+1) (gs++[e]) Ω3)/\
   ∀ a gs Ω',J ds.length gs Ω'->R (.raw (.ref a)) ((a,qg X.K gs)::Ω'))
  (S0:Sat X.K B Γ Ω F σ H) (hQ:∀ v H',(∃ d Ω' F',Sat X.K B Γ Ω' F' σ H'/\yP F F'/\Is X.K F' d v/\R d Ω')->Q v H') :
  yaQ nt caps (WI X tg iter) (fun c=>gW (X.comp sc N c) tg) yaK (fun c=>WE (X.comp sc N c) elt) σ H Q:=by
 refine(h F σ H S0).mono fun Jt H1 ⟨ds,Ω1,F1,S1,p1,w,J,h0,hz,step,hd⟩ D hD c=>
  ⟨fun i m σ' ys H'=>i+m=ds.length/\∃ gs Ω' F',yP F1 F'/\Sat X.K B (vw nt caps Γ) ((D,qg X.K gs)::Ω') F' σ' H'/\H' D=some (.lst ys)/\IsL X.K F' gs ys/\J i gs Ω',?_,?_⟩
 ·refine⟨ds.length,by omega,[],Ω1,F1,yP.refl _,?_,yL,IsL.nil,h0⟩;exact(S1.new (Pur.layOwn S1.fh hD) hD (S1.fh.free hD) yL fun F2 e=>⟨[],rfl,IsL.nil⟩).slots (Sl.cap S1.sl)
 ·rintro i m σ' ys H' ⟨hm,gs,Ω',F',f',S',hH,il,j⟩;refine⟨hH,by rw[il.len];exact hz i gs Ω' j,?_⟩;obtain⟨w1,w2⟩:=w i F' H' f' S'.fh;cases z:ds[i]? with
  |none=>
   have hl:ds.length<=i:=al_getElem?_eq_none_iff.mp z;have e:i=ds.length:=by omega
   subst e;exact .inl ⟨w2 hl,hQ _ _ ⟨.raw (.ref D),_,F',S'.slots (S1.sl.mono f'),p1.trans f',zl F',hd D gs Ω' j⟩⟩
  |some d=>
   have hl:i<ds.length:=(al_getElem?_eq_some_iff.mp z).1;obtain⟨go,y⟩:=w1 d z;obtain⟨Γ1,⟨g,pg,gq⟩,sub,he⟩:=step c i d gs Ω' z j;refine .inr ⟨go,fun x H2 hy pins s u I2 r=>?_⟩;obtain⟨F2,p2,ix⟩:=y x H2 hy;refine pg pins s σ' H2 x u _ I2 r (gq F2 σ' H2 x _ p2.fh ix (S'.sl.mono p2.ff) I2.len fun σ3 sl3 _=>?_);unfold yaK;dsimp only;rw[yc rfl];refine WE.mono (he (D,qg X.K gs) F2 σ3 H2 ((S'.pur p2).slots sl3)) fun v H5 ⟨e,Ω2,F5,S5,f5,iv,Ω3,pm,j5⟩=>?_;have S5':=S5.perm pm.symm;obtain⟨fD,o,hD5,ho⟩:=S5'.own (D,qg X.K gs) (by simp);obtain⟨ys',rfl,il'⟩:=ho F5 (yP.refl _);refine⟨ys',hD5,by rw[il'.len];exact hz i gs Ω' j,m - 1,by omega,by omega,gs++[e],Ω3,F5,f'.trans (p2.ff.trans f5),?_,yL,il'.append (IsL.cons iv IsL.nil),j5⟩;exact(S5'.turn fun F6 e6=>⟨_,rfl,(il'.mono e6).append (IsL.cons (iv.mono e6) IsL.nil)⟩).slots (S5'.sl.sub sub)
theorem yfO {elt:Expr}{sc SX:Scope}{N XN:List Str}{nt:Nat}{caps:List Nat}{y:Str}{py:Pos}{i:Nat}{spos:Pos}(S:CompOk SX sc XN N nt caps)(hnd:X.N.Nodup)(hix:X.N[i]?=some y)(hy:Loc X.env.scope y)
  (h:IV3 X B tg iter Γ Ω fun ds Ω1=>∃ J:Nat->List D->Om->Prop,J 0 [] Ω1/\(∀ i gs Ω',J i gs Ω'->gs.length<sizeLine)/\
   (∀ c i d gs Ω',ds[i]?=some d->J i gs Ω'->∃ Γ1,G3 (X.comp sc N c) tg (vw nt caps Γ) d Γ1/\Sub (vw nt caps Γ) Γ1/\∀ q:Addr×Ow,V3 (X.comp sc N c) B elt Γ1 (q::Ω') fun e Ω2=>∃ Ω3,Ω2.Perm (q::Ω3)/\J (i+1) (gs++[e]) Ω3)/\
   ∀ a gs Ω',J ds.length gs Ω'->W3 X B rest (Γ.set i (some (.raw (.ref a)))) ((a,qg X.K gs)::Ω') E)
  (hsw:swapsWith (.ListComp elt [⟨tg,iter,[],0⟩] sc pos) (some (.Name y py)) spos.line X.env=pure true:=by rfl) (hc:X.calm=true:=by rfl) (hX:X.env.scope=SX:=by rfl) (hN:X.N=XN:=by rfl)
  (hs:∀ x,foldedSetIterable iter X.env x=pure x:=by intro _;rfl) (hf:X.fn y=true∨X.env.scope.names.lookup y=some .local:=by first|exact .inl rfl|exact .inr rfl):W3 X B (.Assign [.Name y py] (.ListComp elt [⟨tg,iter,[],0⟩] sc pos) spos::rest) Γ Ω E:=fun F σ H S' pins s I=>by
 refine YX (ybl S hnd hix hy yhJ (fun c=>ye6) (fun c=>wg (c:=c)) (fun c=>Qt) hsw hc hX hN hs hf) qu pins s σ H _ I (xR (R:=fun d Ω'=>W3 X B rest (Γ.set i (some d)) Ω' E) (Q:=fun x H1=>ux i x σ H1 (WS X rest (E.to X.K B F))) h S' ?_);rintro v H' ⟨d,Ω',F',S1,f1,iv,w⟩;exact Y3 f1 (w F' _ H' (S1.slots (Sl.set S1.sl (by rw[I.len];exact(al_getElem?_eq_some_iff.mp hix).1) iv)))
end
theorem yeN {α:Type}{n:Nat}{f:Nat->α}:tb (n+1) f=f 0::tb n fun i=>f (i+1):=by
 unfold tb;rw[List.range_succ_eq_map,yn,Yu];rfl
theorem yeE {Ω:Om}(nd:(Ω.map (·.1)).Nodup):∀ {a:Addr} {w w':Ow},(a,w)∈Ω->(a,w')∈Ω->w=w':=by
 induction Ω with
 |nil=>intro a w w' h;cases h
 |cons r Ω ih=>
  intro a w w' h h';rw[yn,yK] at nd;rcases yA.mp h with z|z
  ·rcases yA.mp h' with z' | z'
   ·rw[←z] at z';injection z' with _ e;exact e.symm
   ·exact absurd (yo.mpr ⟨(a,w'),z',by rw[←z]⟩) nd.1
  ·rcases yA.mp h' with z' | z'
   ·exact absurd (yo.mpr ⟨(a,w),z,by rw[←z']⟩) nd.1
   ·exact ih nd.2 z z'
def spD (K:W.Frag)(n:Nat)(C0:List D->Prop)(C:List D->D->Prop):Sp:=fun vs H Q _=>∃ (a:Addr) (us:List V) (ds:List D) (F:Hp) (x:Int),vs=.ref a::us/\ds.length+1=n/\yP F H/\F a=none/\H a=some (.lst [.int x])/\0<=x/\x<2147483647/\IsL K F ds us/\C0 ds/\
 ∀ d,C ds d->∀ (v:V) (H' F':Hp) (x':Int),yP F F'->yP F' H'->(∀ b o,b≠a->H b=some o->H' b=some o)->(∀ b,F' b≠none->F b≠none∨H b=none)->F' a=none->H' a=some (.lst [.int x'])->0<=x'->x'<2147483647->Is K F' d v->Q v H'
theorem spD.len {K:W.Frag}{n:Nat}{C0:List D->Prop}{C:List D->D->Prop}{vs:List V}{H:Hp}{Q:VK}{E:XK}(h:spD K n C0 C vs H Q E):vs.length=n:=by
 obtain⟨a,us,ds,F,x,rfl,l,_,_,_,_,_,i,_⟩:=h;rw[ym,i.len,l]
section
variable {P:Program}{w:World}{K:W.Frag}{mg:Str->Option Value}{base:Heap}{x:Str}{st:Stmt}{N ps:List Str}{k n:Nat}
theorem W9 {C0:List D->Prop}{C:List D->D->Prop}(d:yZ K mg x st ps)(S:FnScope N ps (yj st))(hn:ps.length=n)
  (body:∀ (f:Addr) (cdv:Value) (A:Around) (outer:List Env) (s:Shared) (H:Hp) (E:XK),Room k (A.deeper (envOfC x (yj st) s.heap.objs.size f cdv))->∀ (a:Addr) (ds:List D),C0 ds->∀ B:Bs,
   W3 (cx0 P w K mg base N x st f cdv A outer s H E) B (YR st) (Ql N (.raw (.ref a)::ds)) [(a,Jr)] ⟨fun _ _=>False,fun r Ω=>C ds r/\Ω=[(a,Jr)],fun _ _=>False,fun _ _=>False⟩) :
  OkF P w K mg base CX0 (k+1) x ps (spD K n C0 C):=by
 refine d.ok S (fun vs H Q E h=>(spD.len h).trans hn.symm) fun f cdv A outer s H vs Q E hr h=>⟨_,qu,?_⟩
 obtain⟨a,us,ds,F,x0,rfl,hl,fh,fa,ha,b1,b2,il,c0,q⟩:=h;have il':IsL K F (.raw (.ref a)::ds) (.ref a::us):=IsL.cons (zl F) il;have S0:Sat K ⟨[a],F,H⟩ (Ql N (.raw (.ref a)::ds)) [(a,Jr)] F (L2.start N (.ref a::us)) H:=by
  refine⟨yP.refl _,fh,fun _ q=>.inl q,fun _ _ _ e=>e,by simp,fun p hp=>?_,fun p hp=>?_,Sl.start il'⟩
  ·rw[yu.mp hp];exact .inl (by simp)
  ·rw[yu.mp hp];exact⟨fa,_,ha,fun _ _=>⟨x0,rfl,b1,b2⟩⟩
 refine qh (D:=E3.to K ⟨[a],F,H⟩ F ⟨fun _ _=>False,fun r Ω=>C ds r/\Ω=[(a,Jr)],fun _ _=>False,fun _ _=>False⟩) (D':={nx:=fun _ H'=>Q .non H',rt:=Q}) ?_ ?_ ?_ ?_ (body f cdv A outer s H E hr a ds c0 ⟨[a],F,H⟩ F _ H S0)
 ·rintro σ' H' ⟨_,_,_,_,_,z⟩;exact z.elim
 ·rintro v H' ⟨r,Ω',F',⟨σ',S'⟩,f',iv,hC,rfl⟩;obtain⟨fa',o',ha',ho⟩:=S'.own (a,Jr) (by simp);obtain⟨x',rfl,c1,c2⟩:=ho F' (yP.refl _);refine q r hC v H' F' x' S'.f0 S'.fh (fun b o hb e=>S'.kp b o (by simpa using hb) e) (fun b hb=>?_) fa' ha' c1 c2 iv;rcases S'.fr b hb with z|z|z
  ·exact .inl z
  ·exact .inr z
  ·have e:b=a:=by simpa using z
   subst e;exact absurd fa' hb
 ·rintro σ' H' ⟨_,_,_,_,_,z⟩;exact z.elim
 ·rintro σ' H' ⟨_,_,_,_,_,z⟩;exact z.elim
end
theorem XU {X:Cx}{B:Bs}{Γ:Ga}{Ω:Om}{x:Str}{ps:List Str}{k n:Nat}{C0:List D->Prop}{C:List D->D->Prop}{a:Expr}{es:List Expr}{p pos:Pos}{l:Addr}{R:D->Om->Prop}(o:OkF X.prog X.w X.K X.mg X.base CX0 k x ps (spD X.K n C0 C))(hr:Room k X.A)(hg:Gl X x)(ha:P3 X Γ a (.raw (.ref l)))(hm:(l,Jr)∈Ω)
  (h:VL3 X B es Γ Ω fun ds Ω1=>Ω1=Ω/\ds.length+1=n/\C0 ds/\∀ d,C ds d->R d Ω) (hdb:(x==("__debug__" : Str))=false:=by decide)
  (he:starEach (a::es) X.env=(false,eval a X.env)::starEach es X.env:=by rfl) (hpl:(backTo pos (starEach es X.env)).any (·.1)=false:=by rfl):V3 X B (.Call (.Name x p) (a::es) [] pos) Γ Ω R:=fun F σ H S pins s I=>
 VJ o hr hg (Jo ha yfX he) hdb he hpl pins s σ H _ I ⟨F,S.fh,S.sl,fun v H1 F1 p1 i1=>(h F1 σ H1 (S.pur p1)).mono fun us H2 ⟨ds,Ω2,F2,S2,f2,il,e2,hn,c0,q⟩=>by
  dsimp only;rw[Yl];subst e2;cases isR i1;obtain⟨fa,o',ha',ho⟩:=S2.own _ hm;obtain⟨x0,rfl,b1,b2⟩:=ho F2 (yP.refl _);refine⟨l,us,ds,F2,x0,rfl,hn,S2.fh,fa,ha',b1,b2,il,c0,fun d hd v H' F' x' g1 g2 g3 g4 g5 g6 g7 g8 iv=>⟨d,Ω2,F',?_,p1.ff.trans (f2.trans g1),iv,q d hd⟩⟩;have od:=S2.od _ hm;refine⟨S2.f0.trans g1,g2,fun b hb=>?_,fun b o hb e=>?_,S2.nd,S2.od,fun r hr=>?_,S2.sl.mono g1⟩
  ·rcases g4 b hb with z|z
   ·exact S2.fr b z
   ·exact(S2.freeB z).elim (fun w=>.inr (.inl w)) fun w=>.inr (.inr w)
  ·by_cases hbl:b=l
   ·subst hbl;rcases od with z|z
    ·exact absurd z hb
    ·have z':B.H b=none:=z;rw[z'] at e;cases e
   ·exact g3 b o hbl (S2.kp b o hb e)
  ·obtain⟨h1,o2,h2,h3⟩:=S2.own r hr;by_cases hrl:r.1=l
   ·have er:r=(l,Jr):=by
     obtain⟨r1,r2⟩:=r;dsimp only at hrl;subst hrl;have:=yeE S2.nd hr hm;rw[this]
    subst er;exact⟨g5,_,g6,fun _ _=>⟨x',rfl,g7,g8⟩⟩
   ·refine⟨?_,o2,g3 _ _ hrl h2,fun F3 e3=>h3 F3 (g1.trans e3)⟩;cases zz:F' r.1 with
    |none=>rfl
    |some u=>
     rcases g4 r.1 (by rw[zz];simp) with z|z
     ·exact absurd h1 z
     ·rw[h2] at z;cases z⟩
end L3
namespace L2
open PySem PySem.Spec PySem.Calls PyProof.Rows
section
variable {X:Cx}
theorem uP:OpR X (compareOp .LtE) (fun x y H Q=>∃ i j,x=.str i/\y=.str j/\Q (.bl (!decide (j.cps.toList<i.cps.toList))) H):=by
 rintro pins s σ H x y v u Q I rx ry ⟨i,j,rfl,rfl,q⟩;obtain⟨t1,rfl⟩:=rx;obtain⟨t2,rfl⟩:=ry;exact PySem.P.le_str (qd I q rfl)
def Its (x:Str):It:=⟨fun i _=>i<x.cps.size,fun i H v H'=>H'=H/\∃ c,x.cps[i]?=some c/\v=.str ⟨#[c]⟩,fun i _=>x.cps.size<=i⟩
theorem ye5 {P:Program}{w:World}{K:W.Frag}{tg:Expr}(x:Str)(tk:Tok)(it:Addr):Turn P w K tg (Its x) [it] it (fun i h=>h.IsStrIter it "str_ascii_iterator" x tk i) where
 mem:=by simp
 obj:=fun i h st b hb=>by
  obtain⟨o,e1,c1,d1⟩:=st;rw[yu.mp hb];exact⟨o,e1,fun v z=>by rw[d1] at z;cases z⟩
 keep:=fun i h h' ⟨o,e1,r1⟩ k=>⟨o,k it (by simp) o e1,r1⟩
 item:=by
  intro X hP hw hK hc i pins s σ H E I hf st hg;subst hP hw hK;obtain⟨f0,f1,f2,f3,f4,f5⟩:=hf it (by simp);have hi:i<x.cps.size:=hg;have hx:x.cps[i]?=some x.cps[i]:=Array.getElem?_eq_getElem hi;refine wpAny_pyNext_ascii_item st hx fun h' st' sb=>?_;have I1:Inv X pins σ H {s with heap:=h',toks:=s.toks+1}:=I.turned (fun b o hb e=>(sb.2 b hb).trans e) f0 f1 f3 f4 f5;obtain⟨o,e1,c1,d1⟩:=id st';exact⟨_,rfl,ybg (s:={s with heap:=h',toks:=s.toks+1}) e1 c1 d1 (by decide) ⟨.str ⟨#[x.cps[i]]⟩,H,I1,⟨_,rfl⟩,⟨rfl,_,hx,rfl⟩,st',fun b hb=>(hf b hb).1⟩⟩
 done:=by
  intro X hP hw hK hc i pins s σ H E I hf st hg;subst hP hw hK;obtain⟨f0,f1,f2,f3,f4,f5⟩:=hf it (by simp);have hi:x.cps.size<=i:=hg;exact wpAny_pyNext_ascii_end (I.ok.hd hc) st (Array.getElem?_eq_none_iff.mpr hi) fun h' eb=>⟨rfl,I.turned (t':=s.toks) (fun b o hb e=>eb b o hb e) f0 f1 f3 f4 f5⟩
 self:=fun _ _ _ _ _ st h=>wpAny_pyIter_striter_ascii st h
def yj6 (tl:TE):TI:=fun σ H R=>tl σ H fun v H1=>∃ x:Str,v=.str x/\x.cps.all (·<128)=true/\R (Its x) H1
theorem yh4 {tg l:Expr}{tl:TE}(hl:PE X l tl):PI X tg l (yj6 tl):=by
 intro pins s σ H R I h;refine thn (hl pins s σ H _ I h) fun v s1 ⟨y,H1,I1,r1,x,e1,ha,q⟩=>?_;subst e1;obtain⟨tk,rfl⟩:=r1;refine wpAny_pyIter_ascii ha ⟨s1.heap.objs.size,[s1.heap.objs.size],_,_,H1,rfl,I1.kept (t':=s1.toks) fun b o e=>yk _ e,ye5 x tk _,⟨_,yC _ rfl,rfl,rfl⟩,fun b hb=>?_,q⟩;rw[yu.mp hb];exact I1.fpOk (yg _) (I1.hok.fresh (yg _))
theorem yav {bs:List Bool}{us:List Value}(r:YQ (bs.map V.bl) us)(i:Nat)(v:Value)(h:us.toArray[i]?=some v):v=.bool (bs.getD i false):=by
 have hl:=r.length;rw[ye] at hl;have h':us[i]?=some v:=by simpa using h
 have hi:i<bs.length:=by rw[hl];exact(al_getElem?_eq_some_iff.mp h').1
 have e1:(bs.map V.bl)[i]?=some (V.bl bs[i]):=by rw[al_getElem?_map,al_getElem?_eq_getElem hi];rfl
 obtain⟨u,hu,ru⟩:=r.get e1;rw[h'] at hu;cases hu;rw[al_getD_eq_getElem?_getD,al_getElem?_eq_getElem hi];exact ru
theorem uD (bs:List Bool):(List.range bs.length).map (fun i=>bs.getD i false)=bs:=by
 refine al_ext_getElem? fun i=>?_;rw[al_getElem?_map];by_cases hi:i<bs.length
 ·rw[al_getElem?_range hi,al_getElem?_eq_getElem hi];simp[al_getD_eq_getElem?_getD,al_getElem?_eq_getElem hi]
 ·rw[al_getElem?_eq_none_iff.mpr (by simpa using hi),al_getElem?_eq_none_iff.mpr (by omega)];rfl
theorem ybO (hc:X.calm=true):z9 X (.builtin "all") (fun xs H Q=>∃ (a:Addr) (bs:List Bool),xs=[.ref a]/\SqL X.K H a (bs.map V.bl)/\Q (.bl (bs.all id)) H):=by
 rintro pins s σ H xs us Q I r ⟨a,bs,rfl,hl,q⟩;obtain⟨u,rfl,rx⟩:=vh r;cases rx;obtain⟨its,rv,p,_⟩:=I.list hl;have hz:its.toArray.size=bs.length:=by have:=rv.length;rw[ye] at this;simpa using this.symm
 refine call_all_walk (wpAny_pyIter_list p.isList ⟨s.heap.objs.size,_,_,_,_,_,fun i=>bs.getD i false,rfl,Walks.list (show X.A.in1.handled=none from I.ok.hd hc) s.heap.objs.size a (yR (let ⟨_,e,_⟩:=p.isList;yi e)) its.toArray,⟨⟨_,yC _ rfl,rfl,rfl⟩,p.isList.at fun o e=>yk _ e⟩,?_,?_⟩)
 ·intro i v s' Q' E' hv hq;rw[yav rv i v hv];exact Y0 hq
 ·intro h' tk hk;refine⟨.bl (bs.all id),H,I.kept fun b o e=>hk b o (fun z=>absurd (yi e) (by rw[yu.mp z];exact Qp _)) (yk _ e),?_,q⟩;show Value.bool _=Value.bool _;rw[hz,show(List.range bs.length).all (fun i=>bs.getD i false)=((List.range bs.length).map fun i=>bs.getD i false).all id by rw[List.all_map];rfl,uD]
theorem yb4 (hc:X.calm=true):z9 X (.builtin "any") (fun xs H Q=>∃ (a:Addr) (bs:List Bool),xs=[.ref a]/\SqL X.K H a (bs.map V.bl)/\Q (.bl (bs.any id)) H):=by
 rintro pins s σ H xs us Q I r ⟨a,bs,rfl,hl,q⟩;obtain⟨u,rfl,rx⟩:=vh r;cases rx;obtain⟨its,rv,p,_⟩:=I.list hl;have hz:its.toArray.size=bs.length:=by have:=rv.length;rw[ye] at this;simpa using this.symm
 refine call_any_walk (wpAny_pyIter_list p.isList ⟨s.heap.objs.size,_,_,_,_,_,fun i=>bs.getD i false,rfl,Walks.list (show X.A.in1.handled=none from I.ok.hd hc) s.heap.objs.size a (yR (let ⟨_,e,_⟩:=p.isList;yi e)) its.toArray,⟨⟨_,yC _ rfl,rfl,rfl⟩,p.isList.at fun o e=>yk _ e⟩,?_,?_⟩)
 ·intro i v s' Q' E' hv hq;rw[yav rv i v hv];exact Y0 hq
 ·intro h' tk hk;refine⟨.bl (bs.any id),H,I.kept fun b o e=>hk b o (fun z=>absurd (yi e) (by rw[yu.mp z];exact Qp _)) (yk _ e),?_,q⟩;show Value.bool _=Value.bool _;rw[hz,show(List.range bs.length).any (fun i=>bs.getD i false)=((List.range bs.length).map fun i=>bs.getD i false).any id by rw[List.any_map];rfl,uD]
end
end L2
namespace L3
open PySem PySem.Spec PySem.Calls PyProof.Rows L2
theorem IsL.of_bls {K:W.Frag}{H:Hp}:∀ {bs:List Bool} {xs:List V},IsL K H (bs.map D.bl) xs->xs=bs.map V.bl
 |[],_,h=>by simp only[QU,IsL] at h;subst h;rfl
 |n::ns,_,h=>by
  simp only[yn,IsL] at h;obtain⟨x,r,rfl,h1,h2⟩:=h;simp only[Is] at h1;rw[h1,IsL.of_bls h2];rfl
def Km (x:Str):List D:=x.cps.toList.map fun c=>D.str ⟨#[c]⟩
def leS (i j:Str):Bool:=!decide (j.cps.toList<i.cps.toList)
theorem yid:bootBuiltins "all" = some (.builtin "all"):=by decide +kernel
theorem yig:bootBuiltins "any" = some (.builtin "any"):=by decide +kernel
section
variable {X:Cx}{Γ:Ga}{tg a b c:Expr}{pos p:Pos}{x y z:Str}{bs:List Bool}
theorem yia (h:P3 X Γ a (.str x))(ha:x.cps.all (·<128)=true):I3 X Γ tg a (Km x):=PI.of (yh4 h) fun σ H R ⟨F,fh,sl,q⟩=>⟨F,fh,sl,fun v H' F' p i=>by
 refine⟨x,isS i,ha,q _ H' F' p fun n F2 H2 e1 e2=>⟨fun d w=>?_,fun w=>?_⟩⟩
 ·unfold Km at w;rw[al_getElem?_map] at w;obtain⟨c,hc,rfl⟩:=y7.mp w;rw[Array.getElem?_toList] at hc;have hi:n<x.cps.size:=(Array.getElem?_eq_some_iff.mp hc).1;refine⟨hi,?_⟩;rintro v' H3 ⟨rfl,c',hc',rfl⟩;rw[hc] at hc';cases hc';exact⟨F2,Pur.refl e2,Wg F2⟩
 ·unfold Km at w;rw[ye,Array.length_toList] at w;exact w⟩
theorem wJ (ha:P3 X Γ a (.str x))(hb:P3 X Γ b (.str y))(hc:P3 X Γ c (.str z))(hm:lastMarks [.LtE,.LtE] [b,c]=false:=by with_unfolding_all rfl):P3 X Γ (.Compare a [.LtE,.LtE] [b,c] pos) (.bl (leS x y&&leS y z)):=
 PE.of (w6 uP uP ha hb hc hm) fun σ H Q ⟨F,fh,sl,k⟩=>⟨F,fh,sl,fun v1 H1 F1 p1 i1=>⟨F1,p1.fh,sl.mono p1.ff,fun v2 H2 F2 p2 i2=>⟨x,y,isS i1,isS i2,leS x y,rfl,by
  cases q:leS x y with
  |true=>
   rw[yc rfl];exact⟨F2,p2.fh,sl.mono (p1.ff.trans p2.ff),fun v3 H3 F3 p3 i3=>⟨y,z,isS i2,isS i3,k _ _ _ ((p1.trans p2).trans p3) (by rw[q];exact Kb F3)⟩⟩
  |false=>
   rw[yb yE];exact k _ _ _ (p1.trans p2) (by rw[q];exact Kb F2)⟩⟩⟩
theorem ygZ (hk:X.calm=true)(hm:X.mg "all" = none)(hg:Gl X "all")(ha:P3 X Γ a (.lst (bs.map D.bl)))(he:starEach [a] X.env=(false,eval a X.env)::starEach [] X.env:=by rfl):P3 X Γ (.Call (.Name "all" p) [a] [] pos) (.bl (bs.all id)):=
 zO (ybO hk) hg hm yid (yd ha yt he) (fun vs H F Q fh i k=>by
  obtain⟨v,rfl,j0⟩:=Va i;obtain⟨l,xs,rfl,s1,j1⟩:=jn j0;cases IsL.of_bls j1;exact⟨l,bs,rfl,fh.seq s1,k _ _ _ (Pur.refl fh) (Kb F)⟩) (by decide) (by decide) he
theorem yjy (hk:X.calm=true)(hm:X.mg "any" = none)(hg:Gl X "any")(ha:P3 X Γ a (.lst (bs.map D.bl)))(he:starEach [a] X.env=(false,eval a X.env)::starEach [] X.env:=by rfl):P3 X Γ (.Call (.Name "any" p) [a] [] pos) (.bl (bs.any id)):=
 zO (yb4 hk) hg hm yig (yd ha yt he) (fun vs H F Q fh i k=>by
  obtain⟨v,rfl,j0⟩:=Va i;obtain⟨l,xs,rfl,s1,j1⟩:=jn j0;cases IsL.of_bls j1;exact⟨l,bs,rfl,fh.seq s1,k _ _ _ (Pur.refl fh) (Kb F)⟩) (by decide) (by decide) he
end
def JM (L:Bool):HO->Bool
 |.lst _=>!L
 |.ins _ _ _=>true
 |.ext _=>true
 |.dK _=>true
 |.dT _=>true
 |_=>false
def Xe (L:Bool)(Ω:Om):Prop:=∀ q∈Ω,∀ F o,q.2 F o->JM L o=true
theorem vV {L:Bool}:Xe L []:=fun q hq=>absurd hq (by simp)
theorem jQ {L:Bool}{a:Addr}{w:Ow}{Ω:Om}(h:∀ F o,w F o->JM L o=true)(t:Xe L Ω):Xe L ((a,w)::Ω):=fun q hq=>by
 rcases yA.mp hq with z|z
 ·subst z;exact h
 ·exact t q z
theorem Wi {K:W.Frag}{ds:List D}:∀ F o,qg K ds F o->JM false o=true:=fun F o ⟨xs,e,_⟩=>by subst e;rfl
def yaY (K:W.Frag)(w:Ow)(d:D):Prop:=∀ (F F':Hp) (a:Addr) (o:HO),yP F F'->F' a=some o->w F o->Is K F' d (.ref a)
theorem v7 {K:W.Frag}{ds:List D}:yaY K (qg K ds) (.lst ds):=fun F F' a o e ha ⟨xs,ho,il⟩=>by
 subst ho;exact Is.lstI (.inl ha) (il.mono e)
def Xq (K:W.Frag)(Ω:Om)(Γ Γ':Ga):Prop:=∀ (i:Nat) (d:D),Γ'[i]?=some (some d)->Γ[i]?=some (some d)∨∃ a w,Γ[i]?=some (some (.raw (.ref a)))/\(a,w)∈Ω/\yaY K w d
theorem jm {K:W.Frag}{Ω:Om}{Γ:Ga}:Xq K Ω Γ Γ:=fun i d h=>.inl h
theorem JS {K:W.Frag}{Ω:Om}{Γ Γ':Ga}{i:Nat}{a:Addr}{w:Ow}{d:D}(h:Xq K Ω Γ Γ')(hi:Γ[i]?=some (some (.raw (.ref a))))(hm:(a,w)∈Ω)(hl:yaY K w d):Xq K Ω Γ (Γ'.set i (some d)):=fun j e q=>by
 rw[al_getElem?_set] at q;by_cases hj:i=j
 ·rw[yc hj] at q;split at q
  ·cases q;exact .inr ⟨a,w,hj▸hi,hm,hl⟩
  ·cases q
 ·rw[yb hj] at q;exact h j e q
def Ze (Ω:Om)(F H:Hp):Hp:=fun b=>if b∈Ω.map (·.1) then H b else F b
def vB (Ω:Om)(F:Hp):Hp:=fun b=>if b∈Ω.map (·.1) then none else F b
mutual
def JI (L:Bool):D->Bool
 |.non=>true
 |.bl _=>true
 |.int _=>true
 |.str _=>true
 |.tup ds=>Zz L ds
 |.lst ds=>L&&Zz L ds
 |.dk _ ds=>Zz L ds
 |_=>false
def Zz (L:Bool):List D->Bool
 |[]=>true
 |d::ds=>JI L d&&Zz L ds
end
section
variable {L:Bool}{K:W.Frag}{B:Bs}{Γ Γ':Ga}{Ω:Om}{F F1:Hp}{σ:L2.St}{H H1:Hp}
theorem Sat.notin (S:Sat K B Γ Ω F σ H){b:Addr}{u:HO}(e:F b=some u):b∉Ω.map (·.1):=fun z=>by
 obtain⟨q,hq,rfl⟩:=yo.mp z;rw[(S.own q hq).1] at e;cases e
theorem Sat.addSame (S:Sat K B Γ Ω F σ H):yP F (Ze Ω F H):=fun b u e=>by
 unfold Ze;rw[yb (S.notin e)];exact e
theorem Sat.addSub (S:Sat K B Γ Ω F σ H):yP (Ze Ω F H) H:=fun b u e=>by
 unfold Ze at e;split at e
 ·exact e
 ·exact S.fh _ _ e
theorem Sat.lent (S:Sat K B Γ Ω F σ H)(h:Xq K Ω Γ Γ'):Sl K (Ze Ω F H) Γ' σ:=fun i d q=>by
 rcases h i d q with z|⟨a,w,z,m,l⟩
 ·obtain⟨v,h1,h2⟩:=S.sl i d z;exact⟨v,h1,h2.mono S.addSame⟩
 ·obtain⟨v,h1,h2⟩:=S.sl i _ z;cases isR h2;obtain⟨fa,o,ha,ho⟩:=S.own (a,w) m;refine⟨_,h1,l F _ a o S.addSame ?_ (ho F (yP.refl _))⟩;unfold Ze;rw[yc (yo.mpr ⟨(a,w),m,rfl⟩)];exact ha
theorem Sat.back (S:Sat K B Γ Ω F σ H)(p:Pur (Ze Ω F H) H F1 H1):Pur F H (vB Ω F1) H1:=by
 refine⟨fun b u e=>?_,fun b u e=>?_,p.hh,fun b q=>?_⟩
 ·unfold vB;rw[yb (S.notin e)];exact p.ff _ _ (S.addSame _ _ e)
 ·unfold vB at e;split at e
  ·cases e
  ·exact p.fh _ _ e
 ·unfold vB at q;split at q
  ·exact absurd rfl q
  ·rename_i hn;rcases p.new b q with z|z
   ·unfold Ze at z;rw[yb hn] at z;exact .inl z
   ·exact .inr z
mutual
theorem XG (hh:∀ b∈Ω.map (·.1),∀ o,F1 b=some o->JM L o=true):∀ {d:D} {v:V},JI L d=true->Is K F1 d v->Is K (vB Ω F1) d v
 |.non,v,_,h=>by simp only[Is] at h ⊢;exact h
 |.bl _,v,_,h=>by simp only[Is] at h ⊢;exact h
 |.int _,v,_,h=>by simp only[Is] at h ⊢;exact h
 |.str _,v,_,h=>by simp only[Is] at h ⊢;exact h
 |.tup ds,v,hs,h=>by
  rw[JI] at hs;obtain⟨a,xs,rfl,h1,h2⟩:=isT h;refine Is.tupI ?_ (kr hh hs h2);have keep:∀ o,F1 a=some o->JM L o=false->vB Ω F1 a=some o:=fun o e n=>by
   unfold vB;rw[yb fun z=>by rw[hh a z o e] at n;cases n];exact e
  rcases h1 with (h1|⟨o,h1⟩)|h1
  ·exact .inl (.inl (keep _ h1 rfl))
  ·exact .inl (.inr ⟨o,keep _ h1 rfl⟩)
  ·exact .inr h1
 |.raw _,_,h,_=>by simp[JI] at h
 |.lst ds,v,hs,h=>by
  rw[JI,Yg] at hs;obtain⟨a,xs,rfl,h1,h2⟩:=Xz h;refine Is.lstI ?_ (kr hh hs.2 h2);have keep:∀ o,F1 a=some o->JM L o=false->vB Ω F1 a=some o:=fun o e n=>by
   unfold vB;rw[yb fun z=>by rw[hh a z o e] at n;cases n];exact e
  rcases h1 with h1|⟨o,h1⟩
  ·exact .inl (keep _ h1 (by rw[hs.1];rfl))
  ·exact .inr ⟨o,keep _ h1 rfl⟩
 |.dk ks ds,v,hs,h=>by
  rw[JI] at hs;simp only[Is] at h ⊢;obtain⟨a,xs,o,e1,e2,e3,e4⟩:=h;refine⟨a,xs,o,e1,?_,e3,kr hh hs e4⟩;unfold vB;rw[yb fun z=>by have:=hh a z _ e2;cases this];exact e2
 |.dt _ _,_,h,_=>by simp[JI] at h
 |.obj _ _ _,_,h,_=>by simp[JI] at h
 |.exc _,_,h,_=>by simp[JI] at h
 |.scr _,_,h,_=>by simp[JI] at h
theorem kr (hh:∀ b∈Ω.map (·.1),∀ o,F1 b=some o->JM L o=true):∀ {ds:List D} {xs:List V},Zz L ds=true->IsL K F1 ds xs->IsL K (vB Ω F1) ds xs
 |[],xs,_,h=>by simp only[IsL] at h ⊢;exact h
 |d::ds,xs,hs,h=>by
  rw[Zz,Yg] at hs;simp only[IsL] at h ⊢;obtain⟨x,r,e,h1,h2⟩:=h;exact⟨x,r,e,XG hh hs.1 h1,kr hh hs.2 h2⟩
end
theorem Sat.hard (S:Sat K B Γ Ω F σ H)(hd:Xe L Ω)(p:Pur (Ze Ω F H) H F1 H1):∀ b∈Ω.map (·.1),∀ o,F1 b=some o->JM L o=true:=fun b hb o e=>by
 obtain⟨q,hq,rfl⟩:=yo.mp hb;obtain⟨_,o',h1,h2⟩:=S.own q hq;have e1:=p.fh _ _ e;rw[p.hh _ _ h1] at e1;cases e1;exact hd q hq F _ (h2 F (yP.refl _))
end
section
variable {X:Cx}{B:Bs}{Γ Γ':Ga}{Ω:Om}{E:E3}{rest:List Stmt}{e:Expr}{d:D}{ds:List D}{k:Bool}{R:D->Om->Prop}{RT:Bool->Om->Prop}{L:Bool}
theorem Kz (h:P3 X Γ' e d)(hl:Xq X.K Ω Γ Γ')(hd:Xe L Ω)(hs:JI L d=true)(r:R d Ω):V3 X B e Γ Ω R:=fun F σ H S=>
 h.we ⟨Ze Ω F H,S.addSub,S.lent hl,fun v H' F' p i=>⟨d,Ω,vB Ω F',S.pur (S.back p),(S.back p).ff,XG (S.hard hd p) hs i,r⟩⟩
theorem yaB (h:PT3 X Γ' e k)(hl:Xq X.K Ω Γ Γ')(r:RT k Ω):VT3 X B e Γ Ω RT:=fun F σ H S=>
 h.wt ⟨Ze Ω F H,S.addSub,S.lent hl,fun H' F' p=>⟨Ω,vB Ω F',S.pur (S.back p),(S.back p).ff,r⟩⟩
end
end L3
namespace L2
open PySem PySem.Spec PySem.Calls PyProof.Rows
def qi (K:W.Frag)(C:Addr)(m q:Str)(st:Stmt)(ps:List Str):Prop:=∃ f fd,Fun K m q st f fd/\Meth K C m f/\JT K fd ps []
def OkM (P:Program)(w:World)(K:W.Frag)(mg:Str->Option Value)(base:Heap)(CX:CXT)(k:Nat)(C:Addr)(m:Str)(ps:List Str)(sp:Sp):Prop:=∃ f fd,FnOk P w K mg base CX k f fd ps sp/\Meth K C m f/\JT K fd ps []
def Zu (K:W.Frag)(mg:Str->Option Value)(x:Str)(C:Addr)(q:Str)(st:Stmt)(ps:List Str):Prop:=∃ f fd,Fun K "__init__" q st f fd/\Mk K C f/\mg x=some (.ref C)/\JT K fd ps []
def OkI (P:Program)(w:World)(K:W.Frag)(mg:Str->Option Value)(base:Heap)(CX:CXT)(k:Nat)(x:Str)(C:Addr)(ps:List Str)(sp:Sp):Prop:=∃ f fd,FnOk P w K mg base CX k f fd ps sp/\Mk K C f/\mg x=some (.ref C)/\JT K fd ps []
theorem j4 {K:W.Frag}{C:Addr}{m q:Str}{st:Stmt}(ps:List Str){f:Addr}{oc:Value}{od an:Option Addr}{osl:Array (Option Value)}{kV doc pm cdv ct:Value}
  (a:W.findIn K (.ref C) m=some (some (.ref f))) (i:W.isFn K (.ref f)=true) (l:K.lookup f=some ⟨oc,od,.func (W.fnOf m q (Q4 st) (YR st) (yj st) .none kV doc pm an cdv ct),osl⟩)
  (c:W.codeIn K cdv q=true) (k:W.keepIn K (.ref f)=true)
  (hb:∀ (kV doc pm:Value) (an:Option Addr) (cdv ct:Value) (us:List Value),us.length=ps.length->bindArgs (W.fnOf m q (Q4 st) (YR st) (yj st) .none kV doc pm an cdv ct) ⟨us,[]⟩=pure (ps.zip us)):qi K C m q st ps:=
 have F:=UY (st:=st) l c k
 ⟨f,_,F,⟨a,i,k⟩,F.binds hb⟩
theorem ya1 {K:W.Frag}{h:Heap}{mg:Str->Option Value}(X:K.In h)(G:h.Ns mainGlobals mg){x:Str}{C:Addr}{q:Str}{st:Stmt}(ps:List Str){f:Addr}{oc:Value}{od an:Option Addr}{osl:Array (Option Value)}{kV doc pm cdv ct:Value}
  (g:W.nsIn K mainGlobals x=some (some (.ref C))) (a:W.findIn K (.ref C) "__init__" = some (some (.ref f))) (mk:W.makesIn K C=true) (i:W.isFn K (.ref f)=true) (kc:W.keepIn K (.ref C)=true)
  (l:K.lookup f=some ⟨oc,od,.func (W.fnOf "__init__" q (Q4 st) (YR st) (yj st) .none kV doc pm an cdv ct),osl⟩)
  (c:W.codeIn K cdv q=true) (k:W.keepIn K (.ref f)=true)
  (hb:∀ (kV doc pm:Value) (an:Option Addr) (cdv ct:Value) (us:List Value),us.length=ps.length->bindArgs (W.fnOf "__init__" q (Q4 st) (YR st) (yj st) .none kV doc pm an cdv ct) ⟨us,[]⟩=pure (ps.zip us)):Zu K mg x C q st ps:=
 have F:=UY (st:=st) l c k
 ⟨f,_,F,⟨mk,a,i,kc⟩,W.mg_of X G g,F.binds hb⟩
section
variable {P:Program}{w:World}{K:W.Frag}{mg:Str->Option Value}{base:Heap}{C:Addr}{m q x:Str}{st:Stmt}{N ps:List Str}{k:Nat}{sp:Sp}
theorem qi.ok (d:qi K C m q st ps)(S:FnScope N ps (yj st))(len:∀ vs H Q E,sp vs H Q E->vs.length=ps.length)
  (hbody:∀ (f:Addr) (cdv:Value) (A:Around) (outer:List Env) (s:Shared) (H:Hp) (vs:List V) (Q:VK) (E:XK),Room k (A.deeper (envOfC q (yj st) s.heap.objs.size f cdv))->sp vs H Q E->
   ∃ t,PSs (kX CX0 P w K mg base N q (yj st) f cdv A outer s H E).nox (YR st) t/\t {nx:=fun _ H'=>Q .non H',rt:=Q} (start N vs) H):OkM P w K mg base CX0 (k+1) C m ps sp:=by
 obtain⟨f,fd,F,hm,b⟩:=d;exact⟨f,fd,F.ok S len fun cdv A outer s H vs Q E hr h=>hbody f cdv A outer s H vs Q E hr h,hm,b⟩
theorem Zu.ok (d:Zu K mg x C q st ps)(S:FnScope N ps (yj st))(len:∀ vs H Q E,sp vs H Q E->vs.length=ps.length)
  (hbody:∀ (f:Addr) (cdv:Value) (A:Around) (outer:List Env) (s:Shared) (H:Hp) (vs:List V) (Q:VK) (E:XK),Room k (A.deeper (envOfC q (yj st) s.heap.objs.size f cdv))->sp vs H Q E->
   ∃ t,PSs (kX CX0 P w K mg base N q (yj st) f cdv A outer s H E).nox (YR st) t/\t {nx:=fun _ H'=>Q .non H',rt:=Q} (start N vs) H):OkI P w K mg base CX0 (k+1) x C ps sp:=by
 obtain⟨f,fd,F,hm,g,b⟩:=d;exact⟨f,fd,F.ok S len fun cdv A outer s H vs Q E hr h=>hbody f cdv A outer s H vs Q E hr h,hm,g,b⟩
end
theorem wG {f:Str}{v:V}:∀ {fs:List (Str×V)},(∀ p∈fs,p.1≠f)->Zb f v fs=fs++[(f,v)]
 |[],_=>rfl
 | (g,x)::r,h=>by
  rw[Zb,yb (h (g,x) (by simp)),wG fun p hp=>h p (yf _ hp)];rfl
end L2
namespace L3
open PySem PySem.Spec PySem.Calls PyProof.Rows L2
def jT (K:W.Frag)(C:Addr)(fs:List Str)(ds:List D):Ow:=fun F o=>∃ dx xs,o=.ins C dx (fs.zip xs)/\fs.length=xs.length/\IsL K F ds xs
theorem vj {K:W.Frag}{C:Addr}{fs:List Str}{ds:List D}{L:Bool}:∀ F o,jT K C fs ds F o->JM L o=true:=fun F o ⟨dx,xs,e,_⟩=>by subst e;rfl
theorem ZP {K:W.Frag}{C:Addr}{fs:List Str}{ds:List D}:yaY K (jT K C fs ds) (.obj C fs ds):=fun F F' a o e ha ⟨dx,xs,ho,hl,il⟩=>by
 subst ho;simp only[Is];exact⟨a,dx,xs,rfl,ha,hl,il.mono e⟩
theorem isO {K:W.Frag}{F:Hp}{C:Addr}{fs:List Str}{ds:List D}{v:V}(h:Is K F (.obj C fs ds) v):∃ a dx xs,v=.ref a/\F a=some (.ins C dx (fs.zip xs))/\fs.length=xs.length/\IsL K F ds xs:=by simpa only[Is] using h
theorem xQ {K:W.Frag}{F:Hp}{f:Str}{d:D}:∀ {fs:List Str} {ds:List D} {xs:List V},IsL K F ds xs->(fs.zip ds).lookup f=some d->∃ x,(fs.zip xs).lookup f=some x/\Is K F d x
 |[],_,_,_,h=>by simp at h
 |g::fs,[],_,_,h=>by simp at h
 |g::fs,e::ds,xs,il,h=>by
  simp only[IsL] at il;obtain⟨x,r,rfl,i1,i2⟩:=il;rw[yM,Yb] at h ⊢;cases q:f==g with
  |true=>rw[q] at h;cases h;exact⟨x,rfl,i1⟩
  |false=>rw[q] at h;exact xQ i2 h
theorem zD {f:Str}:∀ {fs:List Str} {xs:List V},f∉fs->(fs.zip xs).lookup f=none
 |[],_,_=>by simp
 |g::fs,[],_=>by simp
 |g::fs,x::xs,h=>by
  rw[yM,Yb];have hg:f≠g:=fun z=>h (by simp[z]);rw[show(f==g)=false from beq_eq_false_iff_ne.mpr hg];exact zD fun z=>h (yf _ z)
theorem Wq {f:Str}{x:V}:∀ {fs:List Str} {xs:List V},fs.length=xs.length->fs.zip xs++[(f,x)]=(fs++[f]).zip (xs++[x])
 |[],[],_=>rfl
 |g::fs,y::xs,h=>by
  rw[yM,qp,qp,qp,yM,Wq (by simpa using h)]
section
variable {X:Cx}{B:Bs}{Γ:Ga}{Ω:Om}{E:E3}{rest:List Stmt}{e o:Expr}{es:List Expr}{d:D}{ds:List D}{C:Addr}{fs:List Str}{f:Str}{pos pos' p apos:Pos}{R:D->Om->Prop}
theorem zA (he:P3 X Γ e (.obj C fs ds))(c:Cls X.K C)(n:QC X.K C f)(l:(fs.zip ds).lookup f=some d)(hb:attributeBase e f X.env (eval e X.env)=eval e X.env:=by rfl):P3 X Γ (.Attribute e f pos) d:=
 PE.of (yc6 he hb) fun σ H Q ⟨F,fh,sl,k⟩=>⟨F,fh,sl,fun v H' F' p i=>by
  obtain⟨a,dx,xs,rfl,ha,hl,il⟩:=isO i;obtain⟨x,h1,h2⟩:=xQ il l;exact⟨a,C,dx,_,x,rfl,p.fh _ _ ha,c,n,h1,k _ _ _ p h2⟩⟩
theorem Zp {a:Addr}(he:P3 X Γ e (.raw (.ref a)))(hm:(a,jT X.K C fs ds)∈Ω)(c:Cls X.K C)(n:QC X.K C f)(l:(fs.zip ds).lookup f=some d)(r:R d Ω)(hb:attributeBase e f X.env (eval e X.env)=eval e X.env:=by rfl):V3 X B (.Attribute e f pos) Γ Ω R:=fun F σ H S pins s I=>
 yc6 he hb pins s σ H _ I ⟨F,S.fh,S.sl,fun v H' F' pu i=>by
  cases isR i;have S1:=S.pur pu;obtain⟨fa,o',ha,ho⟩:=S1.own _ hm;obtain⟨dx,xs,rfl,hl,il⟩:=ho F' (yP.refl _);obtain⟨x,h1,h2⟩:=xQ il l;exact⟨a,C,dx,_,x,rfl,ha,c,n,h1,d,Ω,F',S1,pu.ff,h2,r⟩⟩
theorem JK {a:Addr}(ho:P3 X Γ o (.raw (.ref a)))(c:Cls X.K C)(n:QC X.K C f)
  (h:V3 X B e Γ Ω fun d Ω1=>∃ fs ds Ω2,Ω1.Perm ((a,jT X.K C fs ds)::Ω2)/\f∉fs/\fs.length<1000/\W3 X B rest Γ ((a,jT X.K C (fs++[f]) (ds++[d]))::Ω2) E)
  (hs:swapsWith e (some (.Attribute o f pos')) pos.line X.env=pure false:=by rfl):W3 X B (.Assign [.Attribute o f pos'] e pos::rest) Γ Ω E:=fun F σ H S pins s I=>
 YX (yiw ho Qt hs) qu pins s σ H _ I ((h F σ H S).mono fun v H1 ⟨d,Ω1,F1,S1,f1,i1,fs,ds,Ω2,pm,hf,hz,h1⟩=>⟨F1,S1.fh,S1.sl,fun y H2 F2 p2 i2=>by
  cases isR i2;have S2:=(S1.pur p2).perm pm.symm;obtain⟨fa,o',ha,ho'⟩:=S2.own (a,jT X.K C fs ds) (by simp);obtain⟨dx,xs,rfl,hl,il⟩:=ho' F2 (yP.refl _);refine⟨a,C,dx,_,rfl,ha,c,n,by rw[YA,←hl];omega,?_⟩;rw[wG (f:=f) (v:=v) (fs:=fs.zip xs) (fun q hq z=>hf (by rw[←z];exact(Qd hq).1)),Wq hl];exact Y3 (f1.trans p2.ff) (h1 F2 σ _ (S2.turn fun F3 e3=>⟨dx,xs++[v],rfl,by rw[yy,yy,hl];rfl,(il.mono e3).append (IsL.cons (i1.mono (p2.ff.trans e3)) IsL.nil)⟩))⟩)
end
def spF (K:W.Frag)(n:Nat)(C:List D->List D->Prop):Sp:=fun vs H Q _=>∃ ds gs F,C ds gs/\ds.length=n/\yP F H/\IsL K F ds vs/\∀ p xs H' F',Pur F H F' H'->H p=none->F' p=none->H' p=some (.lst xs)->IsL K F' gs xs->Q (.ref p) H'
def spI (K:W.Frag)(n:Nat)(Cc:Addr)(C:List D->List Str×List D->Prop):Sp:=fun vs H Q _=>∃ (a:Addr) (us:List V) (ds:List D) (r:List Str×List D) (F:Hp) (dx:Addr),vs=.ref a::us/\ds.length+1=n/\yP F H/\F a=none/\H a=some (.ins Cc dx [])/\IsL K F ds us/\C ds r/\
 ∀ (H' F':Hp) (dx':Addr) (xs:List V),yP F F'->yP F' H'->(∀ b o,b≠a->H b=some o->H' b=some o)->(∀ b,F' b≠none->F b≠none∨H b=none)->F' a=none->H' a=some (.ins Cc dx' (r.1.zip xs))->r.1.length=xs.length->IsL K F' r.2 xs->Q .non H'
theorem spF.len {K:W.Frag}{n:Nat}{C:List D->List D->Prop}{vs:List V}{H:Hp}{Q:VK}{E:XK}(h:spF K n C vs H Q E):vs.length=n:=by
 obtain⟨ds,d,F,_,l,_,i,_⟩:=h;rw[i.len,l]
theorem spI.len {K:W.Frag}{n:Nat}{Cc:Addr}{C:List D->List Str×List D->Prop}{vs:List V}{H:Hp}{Q:VK}{E:XK}(h:spI K n Cc C vs H Q E):vs.length=n:=by
 obtain⟨a,us,ds,r,F,dx,rfl,l,_,_,_,i,_⟩:=h;rw[ym,i.len,l]
section
variable {X:Cx}{sts:List Stmt}{N:List Str}{n:Nat}{vs:List V}{H:Hp}{Q:VK}{E:XK}
theorem XH {C:List D->D->Prop}(h:spP X.K n C vs H Q E)
  (body:∀ (ds:List D) (r:D),C ds r->∀ B:Bs,B.M=[]->W3 X B sts (Ql N ds) [] ⟨fun _ _=>r=.non,fun r' _=>r'=r,fun _ _=>False,fun _ _=>False⟩):∃ t,PSs X sts t/\t {nx:=fun _ H'=>Q .non H',rt:=Q} (L2.start N vs) H:=by
 refine⟨_,qu,?_⟩;obtain⟨ds,r,F,hC,hl,fh,il,q⟩:=h;refine qh (D:=E3.to X.K ⟨[],F,H⟩ F ⟨fun _ _=>r=.non,fun r' _=>r'=r,fun _ _=>False,fun _ _=>False⟩) (D':={nx:=fun _ H'=>Q .non H',rt:=Q}) ?_ ?_ ?_ ?_ (body ds r hC ⟨[],F,H⟩ rfl F (L2.start N vs) H (Sat.entry fh il))
 ·rintro σ' H' ⟨Γ',Ω',F',S',f',e⟩;subst e;exact q _ _ _ (S'.toPur rfl) (yax F')
 ·rintro v H' ⟨d',Ω',F',⟨σ',S'⟩,f',i',e⟩;subst e;exact q _ _ _ (S'.toPur rfl) i'
 ·rintro σ' H' ⟨_,_,_,_,_,z⟩;exact z.elim
 ·rintro σ' H' ⟨_,_,_,_,_,z⟩;exact z.elim
theorem wW {C:List D->List D->Prop}(h:spF X.K n C vs H Q E)
  (body:∀ (ds gs:List D),C ds gs->∀ B:Bs,B.M=[]->W3 X B sts (Ql N ds) [] ⟨fun _ _=>False,fun r Ω=>∃ p,r=.raw (.ref p)/\Ω=[(p,qg X.K gs)],fun _ _=>False,fun _ _=>False⟩):∃ t,PSs X sts t/\t {nx:=fun _ H'=>Q .non H',rt:=Q} (L2.start N vs) H:=by
 refine⟨_,qu,?_⟩;obtain⟨ds,gs,F,hC,hl,fh,il,q⟩:=h;refine qh (D:=E3.to X.K ⟨[],F,H⟩ F ⟨fun _ _=>False,fun r Ω=>∃ p,r=.raw (.ref p)/\Ω=[(p,qg X.K gs)],fun _ _=>False,fun _ _=>False⟩) (D':={nx:=fun _ H'=>Q .non H',rt:=Q}) ?_ ?_ ?_ ?_ (body ds gs hC ⟨[],F,H⟩ rfl F (L2.start N vs) H (Sat.entry fh il))
 ·rintro σ' H' ⟨_,_,_,_,_,z⟩;exact z.elim
 ·rintro v H' ⟨d',Ω',F',⟨σ',S'⟩,f',i',p,rfl,rfl⟩;cases isR i';obtain⟨fa,o,ha,ho⟩:=S'.own (p,qg X.K gs) (by simp);obtain⟨xs,rfl,il'⟩:=ho F' (yP.refl _);refine q p xs H' F' (S'.toPur rfl) ?_ fa ha il';rcases S'.od (p,qg X.K gs) (by simp) with z|z
  ·cases z
  ·exact z
 ·rintro σ' H' ⟨_,_,_,_,_,z⟩;exact z.elim
 ·rintro σ' H' ⟨_,_,_,_,_,z⟩;exact z.elim
theorem Xm {Cc:Addr}{C:List D->List Str×List D->Prop}(h:spI X.K n Cc C vs H Q E)
  (body:∀ (a:Addr) (ds:List D) (r:List Str×List D),C ds r->∀ B:Bs,B.M=[a]->W3 X B sts (Ql N (.raw (.ref a)::ds)) [(a,jT X.K Cc [] [])] ⟨fun _ Ω=>Ω=[(a,jT X.K Cc r.1 r.2)],fun _ _=>False,fun _ _=>False,fun _ _=>False⟩):∃ t,PSs X sts t/\t {nx:=fun _ H'=>Q .non H',rt:=Q} (L2.start N vs) H:=by
 refine⟨_,qu,?_⟩;obtain⟨a,us,ds,r,F,dx,rfl,hl,fh,fa,ha,il,hC,q⟩:=h;have il':IsL X.K F (.raw (.ref a)::ds) (.ref a::us):=IsL.cons (zl F) il;have S0:Sat X.K ⟨[a],F,H⟩ (Ql N (.raw (.ref a)::ds)) [(a,jT X.K Cc [] [])] F (L2.start N (.ref a::us)) H:=by
  refine⟨yP.refl _,fh,fun _ q=>.inl q,fun _ _ _ e=>e,by simp,fun p hp=>?_,fun p hp=>?_,Sl.start il'⟩
  ·rw[yu.mp hp];exact .inl (by simp)
  ·rw[yu.mp hp];exact⟨fa,_,ha,fun _ _=>⟨dx,[],rfl,rfl,IsL.nil⟩⟩
 refine qh (D:=E3.to X.K ⟨[a],F,H⟩ F ⟨fun _ Ω=>Ω=[(a,jT X.K Cc r.1 r.2)],fun _ _=>False,fun _ _=>False,fun _ _=>False⟩) (D':={nx:=fun _ H'=>Q .non H',rt:=Q}) ?_ ?_ ?_ ?_ (body a ds r hC ⟨[a],F,H⟩ rfl F _ H S0)
 ·rintro σ' H' ⟨Γ',Ω',F',S',f',rfl⟩;obtain⟨fa',o,ha',ho⟩:=S'.own (a,jT X.K Cc r.1 r.2) (by simp);obtain⟨dx',xs,rfl,hl',il2⟩:=ho F' (yP.refl _);refine q H' F' dx' xs S'.f0 S'.fh (fun b o hb e=>S'.kp b o (by simpa using hb) e) (fun b hb=>?_) fa' ha' hl' il2;rcases S'.fr b hb with z|z|z
  ·exact .inl z
  ·exact .inr z
  ·have e:b=a:=by simpa using z
   subst e;exact absurd fa' hb
 ·rintro v H' ⟨_,_,_,_,_,_,z⟩;exact z.elim
 ·rintro σ' H' ⟨_,_,_,_,_,z⟩;exact z.elim
 ·rintro σ' H' ⟨_,_,_,_,_,z⟩;exact z.elim
end
section
variable {P:Program}{w:World}{K:W.Frag}{mg:Str->Option Value}{base:Heap}{x m q:Str}{st:Stmt}{N ps:List Str}{k n:Nat}{Cc:Addr}
theorem ky {C:List D->D->Prop}(d:qi K Cc m q st ps)(S:FnScope N ps (yj st))(hn:ps.length=n)
  (body:∀ (f:Addr) (cdv:Value) (A:Around) (outer:List Env) (s:Shared) (H:Hp) (E:XK),Room k (A.deeper (envOfC q (yj st) s.heap.objs.size f cdv))->∀ (ds:List D) (r:D),C ds r->∀ B:Bs,B.M=[]->
   W3 (cx0 P w K mg base N q st f cdv A outer s H E) B (YR st) (Ql N ds) [] ⟨fun _ _=>r=.non,fun r' _=>r'=r,fun _ _=>False,fun _ _=>False⟩):OkM P w K mg base CX0 (k+1) Cc m ps (spP K n C):=
 d.ok S (fun vs H Q E h=>h.len.trans hn.symm) fun f cdv A outer s H vs Q E hr h=>XH (X:=cx0 P w K mg base N q st f cdv A outer s H E) h (body f cdv A outer s H E hr)
theorem Kk {C:List D->List D->Prop}(d:qi K Cc m q st ps)(S:FnScope N ps (yj st))(hn:ps.length=n)
  (body:∀ (f:Addr) (cdv:Value) (A:Around) (outer:List Env) (s:Shared) (H:Hp) (E:XK),Room k (A.deeper (envOfC q (yj st) s.heap.objs.size f cdv))->∀ (ds gs:List D),C ds gs->∀ B:Bs,B.M=[]->
   W3 (cx0 P w K mg base N q st f cdv A outer s H E) B (YR st) (Ql N ds) [] ⟨fun _ _=>False,fun r Ω=>∃ p,r=.raw (.ref p)/\Ω=[(p,qg K gs)],fun _ _=>False,fun _ _=>False⟩):OkM P w K mg base CX0 (k+1) Cc m ps (spF K n C):=
 d.ok S (fun vs H Q E h=>(spF.len h).trans hn.symm) fun f cdv A outer s H vs Q E hr h=>wW (X:=cx0 P w K mg base N q st f cdv A outer s H E) h (body f cdv A outer s H E hr)
theorem yfy {C:List D->List Str×List D->Prop}(d:Zu K mg x Cc q st ps)(S:FnScope N ps (yj st))(hn:ps.length=n)
  (body:∀ (f:Addr) (cdv:Value) (A:Around) (outer:List Env) (s:Shared) (H:Hp) (E:XK),Room k (A.deeper (envOfC q (yj st) s.heap.objs.size f cdv))->∀ (a:Addr) (ds:List D) (r:List Str×List D),C ds r->∀ B:Bs,B.M=[a]->
   W3 (cx0 P w K mg base N q st f cdv A outer s H E) B (YR st) (Ql N (.raw (.ref a)::ds)) [(a,jT K Cc [] [])] ⟨fun _ Ω=>Ω=[(a,jT K Cc r.1 r.2)],fun _ _=>False,fun _ _=>False,fun _ _=>False⟩):OkI P w K mg base CX0 (k+1) x Cc ps (spI K n Cc C):=
 d.ok S (fun vs H Q E h=>(spI.len h).trans hn.symm) fun f cdv A outer s H vs Q E hr h=>Xm (X:=cx0 P w K mg base N q st f cdv A outer s H E) h (body f cdv A outer s H E hr)
end
section
variable {X:Cx}{Γ:Ga}{d:D}{ds gs:List D}{n k:Nat}{Cc:Addr}{fs:List Str}{x m:Str}{ps:List Str}{e o:Expr}{es:List Expr}{p pos apos:Pos}
theorem Kp {F H F' H':Hp}{p:Addr}{u:HO}(pu:Pur F H F' H')(hp:H p=none)(fp:F' p=none)(e:H' p=some u):Pur F H (upd F' p u) H'/\yP F' (upd F' p u):=by
 have w:yP F' (upd F' p u):=fun b y q=>by rw[yO (y6 q fp)];exact q
 refine⟨⟨pu.ff.trans w,fun b y q=>?_,pu.hh,fun b q=>?_⟩,w⟩
 ·by_cases hb:b=p
  ·subst hb;rw[yL] at q;cases q;exact e
  ·rw[yO hb] at q;exact pu.fh _ _ q
 ·by_cases hb:b=p
  ·subst hb;exact .inr hp
  ·rw[yO hb] at q;exact pu.new b q
theorem wc {C:List D->D->Prop}{pl:Sem Bool}(ok:OkM X.prog X.w X.K X.mg X.base CX0 k Cc m ps (spP X.K n C))(c:Cls X.K Cc)(hr:Room k X.A)(ho:P3 X Γ o (.obj Cc fs gs))(hm:m∉fs)(ha:PL3 X Γ (e::es) ds)(hC:C (.obj Cc fs gs::ds) d)(hn:ds.length+1=n:=by rfl)
  (hst:starEach (e::es) X.env=(false,eval e X.env)::starEach es X.env:=by rfl) (hpl:(backTo pos (starEach es X.env)).any (·.1)=false:=by rfl)
  (ht:eval (.Call (.Attribute o m apos) (e::es) [] pos) X.env=(do
   let ov ←eval o X.env
   standAt apos.atName
   let (f,first) ←holding [ov] (getMethod ov m pl)
   callWith pos f first (backTo pos (starEach (e::es) X.env)) (backToKw pos (keywordEach [] X.env))):=by rfl):P3 X Γ (.Call (.Attribute o m apos) (e::es) [] pos) d:=by
 obtain⟨f,fd,F,hM,hb⟩:=ok;exact PE.of (yaV (pl:=pl) ho c hM F hr hb .nil VO ha hst hpl ht) fun σ H Q ⟨F0,fh,sl,q⟩=>⟨F0,fh,sl,fun v H1 F1 p1 i1=>by
  obtain⟨a,dx,xs,rfl,h1,hl,il⟩:=isO i1;refine⟨a,dx,_,rfl,p1.fh _ _ h1,zD hm,F1,p1.fh,sl.mono p1.ff,fun vs H2 F2 p2 i2=>?_⟩;dsimp only;rw[Yl];exact⟨_,d,F2,hC,hn,p2.fh,IsL.cons (i1.mono p2.ff) i2,fun v' H3 F3 p3 i3=>q v' H3 F3 ((p1.trans p2).trans p3) i3⟩⟩
theorem yfP {C:List D->D->Prop}{pl:Sem Bool}(ok:OkM X.prog X.w X.K X.mg X.base CX0 k Cc m ps (spP X.K 1 C))(c:Cls X.K Cc)(hr:Room k X.A)(ho:P3 X Γ o (.obj Cc fs gs))(hm:m∉fs)(hC:C [.obj Cc fs gs] d)
  (ht:eval (.Call (.Attribute o m apos) [] [] pos) X.env=(do
   let ov ←eval o X.env
   standAt apos.atName
   let (f,first) ←holding [ov] (getMethod ov m pl)
   callWith pos f first (backTo pos (starEach [] X.env)) (backToKw pos (keywordEach [] X.env))):=by rfl):P3 X Γ (.Call (.Attribute o m apos) [] [] pos) d:=by
 obtain⟨f,fd,F,hM,hb⟩:=ok;exact PE.of (kA (pl:=pl) ho c hM F hr hb .nil VO ht) fun σ H Q ⟨F0,fh,sl,q⟩=>⟨F0,fh,sl,fun v H1 F1 p1 i1=>by
  obtain⟨a,dx,xs,rfl,h1,hl,il⟩:=isO i1;refine⟨a,dx,_,rfl,p1.fh _ _ h1,zD hm,?_⟩;exact⟨_,d,F1,hC,rfl,p1.fh,IsL.cons i1 IsL.nil,fun v' H3 F3 p3 i3=>q v' H3 F3 (p1.trans p3) i3⟩⟩
theorem Zw {C:List D->List D->Prop}{pl:Sem Bool}(ok:OkM X.prog X.w X.K X.mg X.base CX0 k Cc m ps (spF X.K 1 C))(c:Cls X.K Cc)(hr:Room k X.A)(ho:P3 X Γ o (.obj Cc fs gs))(hm:m∉fs)(hC:C [.obj Cc fs gs] ds)
  (ht:eval (.Call (.Attribute o m apos) [] [] pos) X.env=(do
   let ov ←eval o X.env
   standAt apos.atName
   let (f,first) ←holding [ov] (getMethod ov m pl)
   callWith pos f first (backTo pos (starEach [] X.env)) (backToKw pos (keywordEach [] X.env))):=by rfl):PF3 X Γ (.Call (.Attribute o m apos) [] [] pos) ds:=by
 obtain⟨f,fd,F,hM,hb⟩:=ok;exact PE.of (kA (pl:=pl) ho c hM F hr hb .nil VO ht) fun σ H Q ⟨F0,fh,sl,q⟩=>⟨F0,fh,sl,fun v H1 F1 p1 i1=>by
  obtain⟨a,dx,xs,rfl,h1,hl,il⟩:=isO i1;refine⟨a,dx,_,rfl,p1.fh _ _ h1,zD hm,?_⟩;exact⟨_,ds,F1,hC,rfl,p1.fh,IsL.cons i1 IsL.nil,fun b xs H2 F2 p2 hb fb e2 il2=>q b xs H2 F2 (p1.trans p2) (p1.hh.free hb) fb e2 il2⟩⟩
theorem yip {C:List D->List Str×List D->Prop}{r:List Str×List D}(ok:OkI X.prog X.w X.K X.mg X.base CX0 k x Cc ps (spI X.K n Cc C))(hr:Room (k+1) X.A)(hg:Gl X x)(ha:PL3 X Γ (e::es) ds)(hC:C ds r)(hn:ds.length+1=n:=by rfl)(hdb:(x==("__debug__" : Str))=false:=by decide)
  (he:starEach (e::es) X.env=(false,eval e X.env)::starEach es X.env:=by rfl) (hpl:(backTo pos (starEach es X.env)).any (·.1)=false:=by rfl):P3 X Γ (.Call (.Name x p) (e::es) [] pos) (.obj Cc r.1 r.2):=by
 obtain⟨f,fd,F,M,hm,hb⟩:=ok;exact PE.of (yaj M F hr hg hm hb .nil VO ha hdb he hpl) fun σ H Q ⟨F0,fh,sl,q⟩=>⟨F0,fh,sl,fun vs H1 F1 p1 i1 a dx ha' hdx hne=>by
  rw[Yl];have f1:F1 a=none:=p1.fh.free ha';have sm:yP H1 (upd (upd H1 dx (.own a)) a (.ins Cc dx [])):=fun b u e1=>by
   rw[yO (y6 e1 ha'),yO (y6 e1 hdx)];exact e1
  refine⟨a,vs,ds,r,F1,dx,rfl,hn,p1.fh.trans sm,f1,yL,i1,hC,fun H' F' dx' xs g1 g2 g3 g4 g5 g6 g7 g8=>⟨rfl,?_⟩⟩;have pu:Pur F1 H1 F' H':=by
   refine⟨g1,g2,fun b u e1=>g3 b u (y6 e1 ha') (sm b u e1),fun b e1=>?_⟩;rcases g4 b e1 with z|z
   ·exact .inl z
   ·exact .inr (sm.free z)
  obtain⟨pf,w⟩:=Kp pu ha' g5 g6;refine q _ _ _ (p1.trans pf) ?_;simp only[Is];exact⟨a,dx',xs,rfl,yL,g7,g8.mono w⟩⟩
end
end L3
namespace L2
open PySem PySem.Spec PySem.Calls PyProof.Rows
abbrev K2:=Sum Key (List Key)
theorem KG {P:Program}{w:World}{k:Key}{u:Value}(r:Yx (kV k) u):(qw P w).is k u=true:=by
 cases k with
 |inl i=>obtain⟨t,q⟩:=(show ∃ t,u=Value.int i t from r);subst q;exact beq_self_eq_true i
 |inr x=>obtain⟨t,q⟩:=(show ∃ t,u=Value.str x t from r);subst q;exact beq_self_eq_true x
theorem Vy {P:Program}{w:World}:∀ {ks:List Key} {us:List Value},YQ (ks.map kV) us->ItemsAre (qw P w) ks us
 |[],_,h=>by cases h;exact .nil
 |k::ks,_,h=>by
  cases h with
  |cons r t=>exact .cons (KG r) (Vy t)
def zj (h:Heap)(ks:List Key)(a:Addr):Prop:=∃ us:List Value,h.IsTuple a us.toArray/\YQ (ks.map kV) us
def Z7 (h:Heap):K2->Value->Prop
 |.inl k,v=>Yx (kV k) v
 |.inr ks,v=>∃ a,v=.ref a/\zj h ks a
def ZZ (h:Heap)(ks:List K2)(a:Addr):Prop:=∃ us:List Value,h.IsTuple a us.toArray/\Paired (Z7 h) ks us
theorem zj.key {P:Program}{w:World}{h:Heap}{ks:List Key}{a:Addr}(x:zj h ks a):IsTupleKey (qw P w) h ks a:=by
 obtain⟨us,⟨o,e1,c1,n,d1⟩,r⟩:=x;exact⟨o,us.toArray,n,e1,c1,d1,by simpa using Vy r⟩
theorem IsTuple.one {h:Heap}{a:Addr}{us vs:List Value}(x:h.IsTuple a us.toArray)(y:h.IsTuple a vs.toArray):us=vs:=by
 obtain⟨o,e1,c1,n,d1⟩:=x;obtain⟨o',e2,c2,n',d2⟩:=y;rw[e1] at e2;cases e2;rw[d1] at d2;injection d2 with z _;injection z
theorem ydR {k k':Key}{v:Value}(x:Yx (kV k) v)(y:Yx (kV k') v):k=k':=by
 cases k <;> cases k' <;> obtain⟨t1,e1⟩:=x <;> obtain⟨t2,e2⟩:=y <;> rw[e1] at e2 <;> cases e2 <;> rfl
theorem YQ.keys_inj:∀ {x y:List Key} {us:List Value},YQ (x.map kV) us->YQ (y.map kV) us->x=y
 |[],[],_,_,_=>rfl
 |[],_::_,_,h1,h2=>by cases h1;cases h2
 |_::_,[],_,h1,h2=>by cases h2;cases h1
 |k::ks,k'::ks',_,h1,h2=>by
  cases h1 with
  |cons r1 t1=>
   cases h2 with
   |cons r2 t2=>rw[ydR r1 r2,YQ.keys_inj t1 t2]
theorem zj.inj {h:Heap}{a:Addr}{x y:List Key}(p:zj h x a)(q:zj h y a):x=y:=by
 obtain⟨us,t1,r1⟩:=p;obtain⟨vs,t2,r2⟩:=q;cases IsTuple.one t1 t2;exact r1.keys_inj r2
theorem Z7.inj {h:Heap}{x y:K2}{v:Value}(p:Z7 h x v)(q:Z7 h y v):x=y:=by
 cases x with
 |inl k=>
  cases y with
  |inl k'=>rw[ydR p q]
  |inr ks=>
   obtain⟨a,rfl,_⟩:=q;cases k <;> (obtain⟨t,z⟩:=p;cases z)
 |inr ks=>
  cases y with
  |inl k=>
   obtain⟨a,rfl,_⟩:=p;cases k <;> (obtain⟨t,z⟩:=q;cases z)
  |inr ks'=>
   obtain⟨a,rfl,t1⟩:=p;obtain⟨b,z,t2⟩:=q;cases z;rw[t1.inj t2]
theorem Its2.inj {h:Heap}:∀ {x y:List K2} {us:List Value},Paired (Z7 h) x us->Paired (Z7 h) y us->x=y
 |[],[],_,_,_=>rfl
 |[],_::_,_,h1,h2=>by cases h1;cases h2
 |_::_,[],_,h1,h2=>by cases h2;cases h1
 |k::ks,k'::ks',_,h1,h2=>by
  cases h1 with
  |cons r1 t1=>
   cases h2 with
   |cons r2 t2=>rw[Z7.inj r1 r2,Its2.inj t1 t2]
theorem ZZ.inj {h:Heap}{a:Addr}{x y:List K2}(p:ZZ h x a)(q:ZZ h y a):x=y:=by
 obtain⟨us,t1,r1⟩:=p;obtain⟨vs,t2,r2⟩:=q;cases IsTuple.one t1 t2;exact Its2.inj r1 r2
theorem Uf {h h':Heap}{a d:Addr}{us:Array Value}{o:Obj}{es ep}(x:h.IsTuple a us)(e:h.get? d=some o)(hd:o.data=.dict es ep)(sb:Heap.SameBut d h h'):h'.IsTuple a us:=by
 obtain⟨o',e1,c1,n,d1⟩:=x;have ne:a≠d:=fun z=>by
  subst z;rw[e] at e1;cases e1;rw[hd] at d1;cases d1
 exact⟨o',(sb.2 a ne).trans e1,c1,n,d1⟩
theorem zj.keeps {h h':Heap}{ks:List Key}{a d:Addr}{o:Obj}{es ep}(x:zj h ks a)(e:h.get? d=some o)(hd:o.data=.dict es ep)(sb:Heap.SameBut d h h'):zj h' ks a:=by
 obtain⟨us,t1,r1⟩:=x;exact⟨us,Uf t1 e hd sb,r1⟩
theorem ZZ.keeps {h h':Heap}{ks:List K2}{a d:Addr}{o:Obj}{es ep}(x:ZZ h ks a)(e:h.get? d=some o)(hd:o.data=.dict es ep)(sb:Heap.SameBut d h h'):ZZ h' ks a:=by
 obtain⟨us,t1,r1⟩:=x;refine⟨us,Uf t1 e hd sb,Paired.mapP r1 fun k v q=>?_⟩;cases k with
 |inl k=>exact q
 |inr ks=>
  obtain⟨b,e1,t2⟩:=q;exact⟨b,e1,t2.keeps e hd sb⟩
section
variable {P:Program}{w:World}{A:Around}{E:Value->Shared->Prop}{s:Shared}
def h2 (P:Program)(w:World):K2->Int
 |.inl k=>(qw P w).hash k
 |.inr ks=>tupleKeyHash (qw P w) ks
def n2:K2->Nat
 |.inl _=>1
 |.inr ks=>ks.length+1
def ydP (P:Program)(w:World)(ks:List K2):Int:=reduceHash (Builtin.Tuple.tupleHashOf (ks.map (h2 P w)))
def Xr (ks:List K2):Nat:=(ks.map n2).sum+1
theorem ygi {k:K2}{v:Value}{Q:Int->Shared->Prop}(hu:A.units<cLine)(x:Z7 s.heap k v)(q:Q (h2 P w k) {s with toks:=s.toks+n2 k}):wpAny (model P w) A (pyHash v) Q E s:=by
 cases k with
 |inl k=>exact(qw P w).pyHash (KG x) q
 |inr ks=>
  obtain⟨a,rfl,t⟩:=x;exact wpAny_pyHash_tuple hu (t.key (P:=P) (w:=w)) q
theorem yhB {ks:List K2}{a:Addr}{Q:Int->Shared->Prop}(hu:A.units+1<cLine)(x:ZZ s.heap ks a)(q:Q (ydP P w ks) {s with toks:=s.toks+Xr ks}):wpAny (model P w) A (pyHash (.ref a)) Q E s:=by
 obtain⟨us,⟨o,ho,hc,n,hd⟩,hi⟩:=x;have hT:s.TypeIs (.ref a) "tuple" := ⟨o,ho,hc⟩
 have hu0:A.units<cLine:=by omega
 unfold pyHash
 first|unfold pyHashByItsType|skip
 first|refine ya (wpAny_cRoomFor_or (.inr hu0) ?_)|skip
 refine ya (wpAny_specialOf hT F.slot_tuple_hash.lookup ?_);show wpAny _ _ (if (some (Value.builtin "tuple.__hash__")==some Value.none)=true then _ else _) Q E s;refine wpAny_ite_split (fun z=>absurd z (by rw[beq_builtin_none];exact yE)) fun _=>?_;refine ya (wpAny_specialOf hT F.slot_tuple_hash.lookup ?_);show wpAny _ _ (callSpecialIfBoundUnlessNone? (.ref a) "__hash__" _ >>= _) Q E s;refine ya (wpAny_callSpecialIfBoundUnlessNone?_slot hT F.slot_tuple_hash (wpAny_call_entry F.slot_tuple_hash hT F.entry_tuple_hash ?_ (F.args_tuple_hash_1 _)));show wpAny _ _ (Builtin.Tuple.tupleItemsOf (.ref a) >>= _) _ _ s;refine ya (wpAny_tupleItemsOf ho hd (ya ?_));rw[←Array.forIn_toList];refine wpAny_forIn_list _ (fun r (b:Array Int) t=>∃ ps qs,ks=ps++qs/\Paired (Z7 s.heap) qs r/\b.toList=ps.map (h2 P w)/\t={s with toks:=s.toks+(ps.map n2).sum}) _ ?_ ?_ _ _ ⟨[],ks,rfl,by simpa using hi,rfl,rfl⟩
 ·rintro v r b t ⟨ps,qs,rfl,hl,hb,rfl⟩;cases hl with
  |@cons k _ qs' _ h1 hl'=>
   refine ya (ygi (P:=P) (w:=w) (s:={s with toks:=s.toks+(ps.map n2).sum}) (by first|exact hu|exact hu0) h1 ?_)
   first
    |exact yh ⟨ps++[k],qs',by simp,hl',by simp[hb],by simp[Nat.add_assoc]⟩
    |exact ya (yh (yh ⟨ps++[k],qs',by simp,hl',by simp[hb],by simp[Nat.add_assoc]⟩))
 ·rintro b t ⟨ps,qs,rfl,hl,hb,rfl⟩;cases hl;rw[Yl] at q;show wpAny _ _ (retInt (Builtin.Tuple.tupleHashOf b.toList)) _ _ _;rw[hb];refine wpAny_ret_mkInt ?_;unfold ydP reduceHash Xr at q;show wpAny _ _ (if (decide (-(2:Int) ^ 63<=Builtin.Tuple.tupleHashOf (ps.map (h2 P w)))&&decide (Builtin.Tuple.tupleHashOf (ps.map (h2 P w))<2 ^ 63))=true then _ else _) Q E _;split
  ·rename_i hr;rw[yc hr] at q;exact yh (by simpa [Nat.add_assoc] using q)
  ·rename_i hr;rw[yb hr] at q;exact ya (wpAny_rule (yh (by simpa [Nat.add_assoc] using q)))
theorem yc0 {k k':Key}{u v:Value}(x:Yx (kV k) u)(y:Yx (kV k') v):SeqAt.EqAt A s u v (decide (k=k')):=by
 cases k with
 |inl i=>
  obtain⟨t,rfl⟩:=x;cases k' with
  |inl j=>
   obtain⟨t',rfl⟩:=y;have z:=SeqAt.EqAt.int_int (A:=A) (s:=s) i t j t'
   rwa [show(i==j)=decide ((Sum.inl i:Key)=.inl j) by rw[Yk];simp] at z
  |inr j=>
   obtain⟨t',rfl⟩:=y;have z:=SeqAt.EqAt.int_str (A:=A) (s:=s) i t j t'
   rwa [show false=decide ((Sum.inl i:Key)=.inr j) by simp] at z
 |inr i=>
  obtain⟨t,rfl⟩:=x;cases k' with
  |inl j=>
   obtain⟨t',rfl⟩:=y;have z:=SeqAt.EqAt.str_int (A:=A) (s:=s) i t j t'
   rwa [show false=decide ((Sum.inr i:Key)=.inl j) by simp] at z
  |inr j=>
   obtain⟨t',rfl⟩:=y;have z:=SeqAt.EqAt.str_str (A:=A) (s:=s) i t j t'
   rwa [show(i==j)=decide ((Sum.inr i:Key)=.inr j) by rw[Yk];simp] at z
theorem yar {α:Type}[DecidableEq α]{a b:Addr}{us vs:List Value}{xs ys:List α}(h1:s.heap.IsTuple a us.toArray)(h2:s.heap.IsTuple b vs.toArray)(l1:xs.length=us.length)(l2:ys.length=vs.length)(hu:A.units<cLine)
  (he:∀ (j:Nat) (x y:α) (u v:Value),xs[j]?=some x->ys[j]?=some y->us[j]?=some u->vs[j]?=some v->SeqAt.EqAt A.in1 s u v (decide (x=y))):SeqAt.RcAt A s (.ref a) (.ref b) (decide (xs=ys)):=by
 have z:=SeqAt.RcAt.tuples (e:=fun j=>decide (xs[j]?=ys[j]?)) h1 h2 hu (fun j q1 q2=>by
  have p1:j<us.length:=by simpa using q1
  have p2:j<vs.length:=by simpa using q2
  have x1:xs[j]?=some (xs[j]'(by omega)):=al_getElem?_eq_getElem _;have y1:ys[j]?=some (ys[j]'(by omega)):=al_getElem?_eq_getElem _;have:=he j _ _ us[j] vs[j] x1 y1 (al_getElem?_eq_getElem _) (al_getElem?_eq_getElem _);simpa [x1,y1] using this)
 rwa [show((List.range (min us.toArray.size vs.toArray.size)).all (fun j=>decide (xs[j]?=ys[j]?))&&us.toArray.size==vs.toArray.size)=decide (xs=ys) by
  rw[Yk];simp only[yD,Yg,QA,YE,Yh,beq_iff_eq];constructor
  ·rintro⟨e1,e2⟩;refine al_ext_getElem? fun j=>?_;by_cases hj:j<us.length
   ·exact e1 j (by omega)
   ·rw[al_getElem?_eq_none_iff.mpr (by omega),al_getElem?_eq_none_iff.mpr (by omega)]
  ·intro e;subst e;exact⟨fun _ _=>rfl,by omega⟩] at z
theorem zj.eq {x y:List Key}{a b:Addr}(p:zj s.heap x a)(q:zj s.heap y b)(hu:A.units<cLine):SeqAt.EqAt A s (.ref a) (.ref b) (decide (x=y)):=by
 by_cases hab:a=b
 ·subst hab;cases p.inj q;rw[yI rfl];exact SeqAt.EqAt.same _
 ·obtain⟨us,t1,r1⟩:=p;obtain⟨vs,t2,r2⟩:=q;have l1:=r1.length;have l2:=r2.length;rw[ye] at l1 l2;refine SeqAt.EqAt.of_refs hab (yar t1 t2 l1 l2 hu fun j k k' u v e1 e2 e3 e4=>?_);obtain⟨u',z1,z2⟩:=r1.get (i:=j) (by rw[al_getElem?_map,e1];rfl);obtain⟨v',z3,z4⟩:=r2.get (i:=j) (by rw[al_getElem?_map,e2];rfl);rw[e3] at z1;cases z1;rw[e4] at z3;cases z3;exact yc0 z2 z4
theorem Z7.eq {x y:K2}{u v:Value}(p:Z7 s.heap x u)(q:Z7 s.heap y v)(hu:A.units<cLine):SeqAt.EqAt A s u v (decide (x=y)):=by
 cases x with
 |inl k=>
  cases y with
  |inl k'=>
   have z:=yc0 (A:=A) (s:=s) p q
   rwa [show decide (k=k')=decide ((Sum.inl k:K2)=.inl k') by rw[Yk];simp] at z
  |inr ks=>
   obtain⟨b,rfl,vs,t2,r2⟩:=q;rw[show decide ((Sum.inl k:K2)=.inr ks)=false by simp];cases k with
   |inl i=>obtain⟨t,rfl⟩:=p;exact SeqAt.EqAt.int_tuple i t t2 hu
   |inr i=>obtain⟨t,rfl⟩:=p;exact SeqAt.EqAt.str_tuple i t t2 hu
 |inr ks=>
  cases y with
  |inl k=>
   obtain⟨b,rfl,vs,t2,r2⟩:=p;rw[show decide ((Sum.inr ks:K2)=.inl k)=false by simp];cases k with
   |inl i=>obtain⟨t,rfl⟩:=q;exact SeqAt.EqAt.tuple_int i t t2 hu
   |inr i=>obtain⟨t,rfl⟩:=q;exact SeqAt.EqAt.tuple_str i t t2 hu
  |inr ks'=>
   obtain⟨a,rfl,t1⟩:=p;obtain⟨b,rfl,t2⟩:=q;have z:=zj.eq (A:=A) t1 t2 hu
   rwa [show decide (ks=ks')=decide ((Sum.inr ks:K2)=.inr ks') by rw[Yk];simp] at z
theorem v8 {α β:Type}{F:α->β->Prop}:∀ {l:List α} {m:List β} {i:Nat} {x:α} {y:β},Paired F l m->l[i]?=some x->m[i]?=some y->F x y
 |_,_,0,_,_,.cons r t,h1,h2=>by simp at h1 h2;subst h1 h2;exact r
 |_,_,i+1,_,_,.cons r t,h1,h2=>v8 (i:=i) t (by simpa using h1) (by simpa using h2)
 |_,_,_,_,_,.nil,h1,_=>by simp at h1
theorem ZZ.eq {x y:List K2}{a b:Addr}(p:ZZ s.heap x a)(q:ZZ s.heap y b)(hu:A.units+1<cLine):SeqAt.EqAt A s (.ref a) (.ref b) (decide (x=y)):=by
 by_cases hab:a=b
 ·subst hab;cases p.inj q;rw[yI rfl];exact SeqAt.EqAt.same _
 ·obtain⟨us,t1,r1⟩:=p;obtain⟨vs,t2,r2⟩:=q;exact SeqAt.EqAt.of_refs hab (yar t1 t2 (Paired.length r1) (Paired.length r2) (by omega) fun j k k' u v e1 e2 e3 e4=>Z7.eq (v8 r1 e1 e3) (v8 r2 e2 e4) (show A.units+1<cLine from hu))
theorem ut {n:Nat}{a:Addr}{us:List Value}{Q:Bool->Shared->Prop}(t:s.heap.IsTuple a us.toArray)(hi:∀ v∈us,∀ Q':Bool->Shared->Prop,Q' true s->wpAny (model P w) A (eqIsQuiet n v) Q' E s)(q:Q true s):wpAny (model P w) A (eqIsQuiet (n+1) (.ref a)) Q E s:=by
 obtain⟨o,ho,hc,m,hd⟩:=t;have hT:s.TypeIs (.ref a) "tuple" := ⟨o,ho,hc⟩
 unfold eqIsQuiet;refine ya (wpAny_specialOf hT F.slot_tuple_eq.lookup ?_);show wpAny _ _ (isInstance (.ref a) (.type "tuple") >>= _) _ _ s;refine ya (wpAny_isInstance hT isSubtype_tuple_tuple ?_);simp only[Bool.not_true,YI,if_false];refine ya (wpAny_seqItems ho hd (ya ?_));show wpAny _ _ (forIn us.toArray _ _) _ _ s;rw[←Array.forIn_toList];refine wpAny_forIn_list _ (fun r b t=>b.1=none/\t=s/\∀ v∈r,v∈us) _ ?_ ?_ _ _ ⟨rfl,rfl,fun v hv=>by simpa using hv⟩
 ·rintro v r b t ⟨hb,rfl,hall⟩;refine ya (hi v (hall v (by simp)) _ ?_);simp only[Bool.not_true,YI,if_false];exact yh ⟨rfl,rfl,fun u hu'=>hall u (yf _ hu')⟩
 ·rintro⟨r1,r2⟩ t ⟨hr,rfl,_⟩;simp only at hr;subst hr;exact yh q
theorem zK {α β:Type}{F:α->β->Prop}:∀ {l:List α} {m:List β} {y:β},Paired F l m->y∈m->∃ x∈l,F x y
 |_,_,_,.nil,h=>by simp at h
 |_,_,_,.cons r t,h=>by
  rcases yA.mp h with z|z
  ·subst z;exact⟨_,by simp,r⟩
  ·obtain⟨x,hx,hf⟩:=zK t z;exact⟨x,yf _ hx,hf⟩
theorem VQ {k:Key}{v:Value}(r:Yx (kV k) v):carriedByValue v=true:=by
 cases k <;> (obtain⟨t,rfl⟩:=r;rfl)
theorem ZZ.quiet {ks:List K2}{a:Addr}{Q:Bool->Shared->Prop}(x:ZZ s.heap ks a)(q:Q true s):wpAny (model P w) A (eqIsQuiet 8 (.ref a)) Q E s:=by
 obtain⟨us,t1,r1⟩:=x;refine ut t1 (fun v hv Q' q'=>?_) q;obtain⟨k,_,hk⟩:=zK r1 hv;cases k with
 |inl k=>rw[eqIsQuiet_byValue _ (VQ hk)];exact yh q'
 |inr ks'=>
  obtain⟨b,rfl,vs,t2,r2⟩:=hk;refine ut t2 (fun u hu Q2 q2=>?_) q';obtain⟨k',_,hk'⟩:=zK r2 hu;have:∃ c:Key,Yx (kV c) u:=by
   obtain⟨i,hl,rfl⟩:=List.getElem_of_mem hu;have hl':i<ks'.length:=by have:=r2.length;rw[ye] at this;omega
   obtain⟨u',z1,z2⟩:=r2.get (i:=i) (x:=kV ks'[i]) (by rw[al_getElem?_map,al_getElem?_eq_getElem hl'];rfl);rw[al_getElem?_eq_getElem hl] at z1;cases z1;exact⟨_,z2⟩
  obtain⟨c,hc⟩:=this;rw[eqIsQuiet_byValue _ (VQ hc)];exact yh q2
end
def yez (P:Program)(w:World):HeapKind P w (List K2) where
 is:=ZZ
 hash:=ydP P w
 draws:=Xr
 room:=fun A=>A.units+1<cLine
 inj:=fun p q=>p.inj q
 keeps:=fun x e hd sb=>x.keeps e hd sb
 pyHash:=fun hu x q=>yhB hu x q
 eqBool:=fun hu x y q=>(ZZ.eq x y hu) _ _ _ _ q
 quiet:=fun x q=>x.quiet q
def U6 (P:Program)(w:World)(a:Addr)(xs:List (List K2×Addr×Value)):HO:=.ext fun h=>(a==sysModules)=false/\∃ o es ep,h.get? a=some o/\o.ExactDict/\o.data=.dict es ep/\es.toList=xs.map (entryOfKey (yez P w))/\(xs.map (·.1)).Nodup
theorem ybh {P:Program}{w:World}{H:Hp}{h:Heap}{a:Addr}{xs:List (List K2×Addr×Value)}(x:(a==sysModules)=false/\∃ o es ep,h.get? a=some o/\o.ExactDict/\o.data=.dict es ep/\es.toList=xs.map (entryOfKey (yez P w))/\(xs.map (·.1)).Nodup):Qh P w H h a (U6 P w a xs):=by
 refine⟨x,?_,fun h1 h2 ⟨e0,o,es,ep,e,r⟩ k=>⟨e0,o,es,ep,k o e,r⟩⟩;obtain⟨_,o,_,_,e,_⟩:=x;exact⟨o,e⟩
theorem Xj {X:Cx}{pins:List (Addr×Obj)}{σ:St}{H:Hp}{s:Shared}(I:Inv X pins σ H s):sysModules<s.heap.objs.size:=by
 have h:mainGlobals<s.heap.objs.size:=(I.mod.glob.keeps I.bk).lt;exact Nat.lt_trans (by decide) h
section
variable {κ:Type}[DecidableEq κ]
def KY (kvs:List (κ×V))(k:κ):Option V:=(kvs.find? fun kv=>decide (kv.1=k)).map (·.2)
def zf (kvs:List (κ×V))(k:κ)(v:V):List (κ×V):=
 if (kvs.any fun kv=>decide (kv.1=k))=true then kvs.map (fun kv=>if kv.1=k then (kv.1,v) else kv) else kvs++[(k,v)]
theorem KC {p:κ×V}{r:List (κ×V)}{k:κ}(e:p.1=k):KY (p::r) k=some p.2:=by simp[KY,al_find?_cons,e]
theorem kR {p:κ×V}{r:List (κ×V)}{k:κ}(e:¬ p.1=k):KY (p::r) k=KY r k:=by simp[KY,al_find?_cons,e]
theorem Ws (k:κ):∀ kvs:List (κ×V),(kvs.any fun kv=>decide (kv.1=k))=(KY kvs k).isSome
 |[]=>rfl
 |p::r=>by
  rw[jL];by_cases e:p.1=k
  ·simp only[KC e,yI e,Bool.true_or,QD]
  ·rw[kR e,yv e,Bool.false_or];exact Ws k r
theorem ZD (kvs:List (κ×V))(k:κ)(v:V):(zf kvs k v).length<=kvs.length+1:=by
 unfold zf;split
 ·rw[ye];omega
 ·rw[yy,ym,Yq];omega
theorem Zd.isSome_eq {o:Option V}{u:Option Value}(r:Zd o u):o.isSome=u.isSome:=by
 cases o with
 |none=>cases u with
  |none=>rfl
  |some _=>exact(show False from r).elim
 |some _=>cases u with
  |none=>exact(show False from r).elim
  |some _=>rfl
theorem Zd.getD {o:Option V}{u:Option Value}{d:V}{d':Value}(r:Zd o u)(rd:Yx d d'):Yx (o.getD d) (u.getD d'):=by
 cases o with
 |none=>cases u with
  |none=>exact rd
  |some _=>exact(show False from r).elim
 |some _=>cases u with
  |none=>exact(show False from r).elim
  |some _=>exact r
theorem KV.val {kvs:List (κ×V)}{vs:List (κ×Value)}(r:KV kvs vs)(k:κ):Zd (KY kvs k) (valueAt vs k):=by
 unfold KV at r
 induction r with
 |nil=>exact True.intro
 |@cons p q ps qs h t ih=>
  obtain⟨h1,h2⟩:=h;by_cases e:p.1=k
  ·have e':q.1=k:=h1.symm.trans e;have b:valueAt (q::qs) k=some q.2:=by simp[valueAt,al_find?_cons,e']
   rw[KC e,b];exact h2
  ·have e':¬ q.1=k:=fun z=>e (h1.trans z);have b:valueAt (q::qs) k=valueAt qs k:=by simp[valueAt,al_find?_cons,e']
   rw[kR e,b];exact ih
theorem KV.any {kvs:List (κ×V)}{vs:List (κ×Value)}(r:KV kvs vs)(k:κ):(kvs.any fun kv=>decide (kv.1=k))=vs.any fun kv=>decide (kv.1=k):=by
 unfold KV at r
 induction r with
 |nil=>rfl
 |cons h t ih=>rw[jL,jL,ih,h.1]
theorem KV.repl {kvs:List (κ×V)}{vs:List (κ×Value)}(r:KV kvs vs)(k:κ){y:V}{u:Value}(ry:Yx y u) :
  KV (kvs.map fun kv=>if kv.1=k then (kv.1,y) else kv) (vs.map fun kv=>if kv.1=k then (kv.1,u) else kv):=by
 unfold KV at r ⊢
 induction r with
 |nil=>exact .nil
 |@cons p q ps qs h t ih=>
  rw[yn,yn];refine .cons ?_ ih;obtain⟨h1,h2⟩:=h;by_cases e:p.1=k
  ·rw[yc e,yc (h1.symm.trans e)];exact⟨h1,ry⟩
  ·rw[yb e,yb (fun z=>e (h1.trans z))];exact⟨h1,h2⟩
theorem KV.put {kvs:List (κ×V)}{vs:List (κ×Value)}(r:KV kvs vs)(k:κ){y:V}{u:Value}(ry:Yx y u):KV (zf kvs k y) (stored vs k u):=by
 unfold zf stored;rw[r.any k];by_cases e:(vs.any fun kv=>decide (kv.1=k))=true
 ·rw[yc e,yc e];exact r.repl k ry
 ·rw[yb e,yb e];exact Paired.snoc r ⟨rfl,ry⟩
theorem KV.keys {kvs:List (κ×V)}{vs:List (κ×Value)}(r:KV kvs vs):kvs.map (·.1)=vs.map (·.1):=by
 unfold KV at r
 induction r with
 |nil=>rfl
 |cons h t ih=>rw[yn,yn,ih,h.1]
theorem KV.length {kvs:List (κ×V)}{vs:List (κ×Value)}(r:KV kvs vs):kvs.length=vs.length:=Paired.length r
end
abbrev KT (H:Hp):List (List Key×V)->List (List Key×Addr×Value)->Prop:=Paired fun p q=>p.1=q.1/\H q.2.1=some (.tup (p.1.map kV))/\Yx p.2 q.2.2
theorem KT.val {H:Hp}{kvs:List (List Key×V)}{xs:List (List Key×Addr×Value)}(r:KT H kvs xs)(k:List Key):Zd (KY kvs k) ((atKey xs k).map (·.2)):=by
 induction r with
 |nil=>exact True.intro
 |@cons p q ps qs h t ih=>
  obtain⟨h1,_,h2⟩:=h;by_cases e:p.1=k
  ·have e':q.1=k:=h1.symm.trans e;have b:atKey (q::qs) k=some q.2:=by simp[atKey,al_find?_cons,e']
   rw[KC e,b];exact h2
  ·have e':¬ q.1=k:=fun z=>e (h1.trans z);have b:atKey (q::qs) k=atKey qs k:=by simp[atKey,al_find?_cons,e']
   rw[kR e,b];exact ih
theorem KT.repl {H:Hp}{kvs:List (List Key×V)}{xs:List (List Key×Addr×Value)}(r:KT H kvs xs)(k:List Key){y:V}{u:Value}(ry:Yx y u) :
  KT H (kvs.map fun kv=>if kv.1=k then (kv.1,y) else kv) (xs.map (putAt k u)):=by
 induction r with
 |nil=>exact .nil
 |@cons p q ps qs h t ih=>
  rw[yn,yn];refine .cons ?_ ih;obtain⟨h1,h2,h3⟩:=h;unfold putAt;by_cases e:p.1=k
  ·rw[yc e,yc (h1.symm.trans e)];exact⟨h1,h2,ry⟩
  ·rw[yb e,yb (fun z=>e (h1.trans z))];exact⟨h1,h2,h3⟩
theorem KT.put {H:Hp}{kvs:List (List Key×V)}{xs:List (List Key×Addr×Value)}(r:KT H kvs xs)(k:List Key){b:Addr}{y:V}{u:Value}(hb:H b=some (.tup (k.map kV)))(ry:Yx y u) :
  KT H (zf kvs k y) (storedH xs k b u):=by
 have e:(kvs.any fun kv=>decide (kv.1=k))=(atKey xs k).isSome:=by
  rw[Ws,(r.val k).isSome_eq,Option.isSome_map]
 unfold zf storedH;rw[e];by_cases q:(atKey xs k).isSome=true
 ·rw[yc q,yc q];exact r.repl k ry
 ·rw[yb q,yb q];exact Paired.snoc r ⟨rfl,hb,ry⟩
theorem KT.keeps {H H':Hp}{kvs:List (List Key×V)}{xs:List (List Key×Addr×Value)}(r:KT H kvs xs)(ht:∀ b ys,H b=some (.tup ys)->H' b=some (.tup ys)):KT H' kvs xs:=
 Paired.mapP r fun _ _ z=>⟨z.1,ht _ _ z.2.1,z.2.2⟩
section
variable {P:Program}{w:World}{H:Hp}{h:Heap}{a:Addr}
theorem yha {u:HO}(ok:HOk P w H h)(e:Rd H a u):Qh P w H h a u:=e.ok ok
theorem WP {kvs:List (Key×V)}(ok:HOk P w H h)(e:Rd H a (.dK kvs)):kvs.length<=sizeLine/\(a==sysModules)=false/\∃ vs,KV kvs vs/\h.DictOf (qw P w) a vs:=
 show Qh P w H h a (.dK kvs) from yha ok e
theorem yg7 {kvs:List (Key×V)}(ok:HOk P w H h)(e:H a=some (.dK kvs)):kvs.length<=sizeLine/\(a==sysModules)=false/\∃ vs,KV kvs vs/\h.DictOf (qw P w) a vs:=WP ok (.inl e)
theorem U0 {ks:List Key}(ok:HOk P w H h)(e:H a=some (.tup (ks.map kV))):(tupleKind (qw P w)).is h ks a:=by
 obtain⟨_,its,r,o,h1,h2,n,h3⟩:=(show Qh P w H h a (.tup (ks.map kV)) from ok a _ e)
 exact⟨o,its.toArray,n,h1,h2,h3,by simpa using Vy r⟩
theorem Wp {kvs:List (List Key×V)}(ok:HOk P w H h)(e:Rd H a (.dT kvs)):kvs.length<=sizeLine/\(a==sysModules)=false/\
  ∃ xs,KT H kvs xs/\h.DictOfH (tupleKind (qw P w)) a xs:=by
 obtain⟨z,y,xs,r,o,es,ep,h1,h2,h3,h4,h5⟩:=(show Qh P w H h a (.dT kvs) from yha ok e)
 refine⟨z,y,xs,r,o,es,ep,h1,h2,h3,h4,fun x hx=>?_,h5⟩;have all:∀ {l:List (List Key×V)} {m:List (List Key×Addr×Value)},KT H l m->∀ x∈m,(tupleKind (qw P w)).is h x.1 x.2.1:=by
  intro l m q
  induction q with
  |nil=>intro x hx;exact nomatch hx
  |@cons p q ps qs hq t ih=>
   intro x hx;rcases yA.mp hx with e|hx
   ·subst e;exact U0 ok (by rw[←hq.1];exact hq.2.1)
   ·exact ih x hx
 exact all r x hx
theorem yjH {kvs:List (List Key×V)}(ok:HOk P w H h)(e:H a=some (.dT kvs)):kvs.length<=sizeLine/\(a==sysModules)=false/\
  ∃ xs,KT H kvs xs/\h.DictOfH (tupleKind (qw P w)) a xs:=Wp ok (.inl e)
end
def yeu (H:Hp)(a:Addr)(y:V)(r:Option V):Prop:=
 (∃ kvs k,Rd H a (.dK kvs)/\y=kV k/\r=KY kvs k)∨∃ kvs k b,Rd H a (.dT kvs)/\y=.ref b/\H b=some (.tup (k.map kV))/\r=KY kvs k
def WA (H:Hp)(a:Addr)(y v:V)(H':Hp):Prop:=
 (∃ kvs k,H a=some (.dK kvs)/\y=kV k/\kvs.length<sizeLine/\H'=upd H a (.dK (zf kvs k v))) ∨
 ∃ kvs k b,H a=some (.dT kvs)/\y=.ref b/\H b=some (.tup (k.map kV))/\kvs.length<sizeLine/\H'=upd H a (.dT (zf kvs k v))
theorem WA.k {H:Hp}{a:Addr}{kvs:List (Key×V)}{k:Key}{v:V}(e:H a=some (.dK kvs))(hl:kvs.length<sizeLine):WA H a (kV k) v (upd H a (.dK (zf kvs k v))):=.inl ⟨kvs,k,e,rfl,hl,rfl⟩
theorem WA.t {H:Hp}{a b:Addr}{kvs:List (List Key×V)}{k:List Key}{v:V}(e:H a=some (.dT kvs))(eb:H b=some (.tup (k.map kV)))(hl:kvs.length<sizeLine) :
  WA H a (.ref b) v (upd H a (.dT (zf kvs k v))):=.inr ⟨kvs,k,b,e,rfl,eb,hl,rfl⟩
section
variable {X:Cx}{pins:List (Addr×Obj)}{σ:St}{H:Hp}{s:Shared}{a:Addr}{y v:V}{u r:Value}{o:Option V}{A:Around}{E:Value->Shared->Prop}
theorem Inv.big (I:Inv X pins σ H s):sysModules<s.heap.objs.size:=by
 have h:mainGlobals<s.heap.objs.size:=(I.mod.glob.keeps I.bk).lt;exact Nat.lt_trans (by decide) h
theorem ybD {Q:Value->Shared->Prop}(hu:A.units+1<cLine)(I:Inv X pins σ H s)(g:yeu H a y (some v))(ry:Yx y u)(h:∀ w' s',Inv X pins σ H s'->Yx v w'->Q w' s') :
  wpAny (model X.prog X.w) A (getItem (.ref a) u) Q E s:=by
 rcases g with ⟨kvs,k,e,ey,l⟩|⟨kvs,k,b,e,ey,eb,l⟩
 ·subst ey;obtain⟨z,hd,vs,rel,dd⟩:=WP I.hok e;obtain⟨w',hw,rw'⟩:=Zd.some_of (v:=v) (o:=valueAt vs k) (by rw[l];exact rel.val k);exact wpAny_getItem_of (KG ry) dd.mapOf hw (h w' _ (I.tok _) rw')
 ·subst ey;cases (show u=Value.ref b from ry);obtain⟨z,hd,xs,rel,dd⟩:=Wp I.hok e;obtain⟨w',hw,rw'⟩:=Zd.some_of (v:=v) (o:=(atKey xs k).map (·.2)) (by rw[l];exact rel.val k);obtain⟨p,hp,hp2⟩:=y7.mp hw;refine wpAny_getItem_heap (tupleKind_room_in1 hu) (U0 I.hok eb) dd hp ?_;rw[hp2];exact h w' _ (I.tok _) rw'
theorem UI {h':Heap}{t':Nat}{ob:HO}(I:Inv X pins σ H s)(mu:Mut (H a))(hs:Heap.SameBut a s.heap h')(he:∃ q,h'.get? a=some q)(new:Qh X.prog X.w (upd H a ob) h' a ob) :
  Inv X pins σ (upd H a ob) {s with heap:=h',toks:=t'}:=
 I.write (x:=a) (e:=a) mu (.inl rfl) (fun b q hb z=>(hs.2 b hb).trans z) he new
theorem ydE {P:Program}{w:World}{H':Hp}{h':Heap}{kvs:List (Key×V)}{vs:List (Key×Value)}(z:kvs.length<=sizeLine)(hd:(a==sysModules)=false)(rel:KV kvs vs)(dd:h'.DictOf (qw P w) a vs) :
  Qh P w H' h' a (.dK kvs):=⟨z,hd,vs,rel,dd⟩
theorem ycc {H':Hp}{Q:Unit->Shared->Prop}(hu:A.units+1<cLine)(I:Inv X pins σ H s)(g:WA H a y v H')(ry:Yx y u)(rv:Yx v r)(h:∀ s',Inv X pins σ H' s'->Q () s') :
  wpAny (model X.prog X.w) A (setItem (.ref a) u r) Q E s:=by
 rcases g with ⟨kvs,k,e,ey,l,eH⟩|⟨kvs,k,b,e,ey,eb,l,eH⟩
 ·subst ey eH;obtain⟨z,hd,vs,rel,dd⟩:=yg7 I.hok e;have hz:vs.length<=sizeLine:=by rw[←rel.length];exact z
  have hl:(zf kvs k v).length<=sizeLine:=by have:=ZD kvs k v;omega
  refine wpAny_setItem_pairs (hsz:=hz) (KG ry) dd fun h' dd' hs=>h _ ?_;have he:∃ q,h'.get? a=some q:=let ⟨q,_,_,hq,_⟩:=dd';⟨q,hq⟩
  exact UI I (by rw[e];exact True.intro) hs he (ydE hl hd (rel.put k rv) dd')
 ·subst ey eH;cases (show u=Value.ref b from ry);obtain⟨z,hd,xs,rel,dd⟩:=yjH I.hok e;have hz:xs.length<=sizeLine:=by rw[←Paired.length rel];exact z
  have hl:(zf kvs k v).length<=sizeLine:=by have:=ZD kvs k v;omega
  refine wpAny_setItem_heap (hsz:=hz) (tupleKind_room_in1 hu) (U0 I.hok eb) dd fun h' dd' hs=>h _ ?_;obtain⟨q,es,ep,hq,h2,h3,h4,_,h5⟩:=dd';refine UI I (by rw[e];exact True.intro) hs ⟨q,hq⟩ ⟨hl,hd,_,(rel.put k eb rv).keeps fun c ys ec=>?_,q,es,ep,hq,h2,h3,h4,h5⟩;rw[yO (yjd ec e (fun z=>nomatch z))];exact ec
end
section
variable {X:Cx}{pins:List (Addr×Obj)}{σ:St}{H:Hp}{s:Shared}{a:Addr}{kvs:List (Key×V)}{k:Key}{u:Value}{A:Around}{E:Value->Shared->Prop}
end
def ycw (i:Expr):Prop:=∀ ov iv,subscripted i false ov iv=operate [ov,iv] (getItem ov iv)
theorem X1 {prog:Program}{w:World}{A:Around}{E:Value->Shared->Prop}{s:Shared}{env:Env}{value slice:Expr}{pos:Pos}{T id:String}{Q:Value->Shared->Prop}
  (hl:typeLookup (.type T) "__getitem__" = pure (some (.builtin id))) (hs:ycw slice)
  (h:wpAny (model prog w) A (eval value env) (fun o s₁=>wpAny (model prog w) A (eval slice env) (fun i s₂=>s₂.TypeIs o T/\wpAny (model prog w) A (getItem o i) Q E s₂) E s₁) E s) :
  wpAny (model prog w) A (eval (.Subscript value slice pos) env) Q E s:=by
 refine Subscript_ (YJ h (fun o s₁ h₁=>YJ h₁ (fun i s₂ h₂=>?_) fun _ _ x=>x) fun _ _ x=>x);obtain⟨hT,h₂⟩:=h₂;unfold subscriptTail;refine ya ?_;rw[getitemInPython_of_ne hT.not_modules];refine ya (wpAny_specialOf hT hl ?_);have fin:wpAny (model prog w) A (subscripted slice false o i) (fun r s₃=>wpAny (model prog w) A (letTemporaryGo value o r >>= fun _=>pure r) Q E s₃) E s₂:=by
  rw[hs o i];exact wpAny_operating (YJ h₂ (fun r s₃ h₃=>ya (wpAny_letTemporaryGo (yh h₃))) fun _ _ x=>x)
 first
  |exact yh (ya fin)
  |exact ya (yh (ya fin))
  |exact ya fin
theorem Wl {X:Cx}{pins:List (Addr×Obj)}{σ:St}{H:Hp}{s:Shared}{a:Addr}{y:V}{o:Option V}(I:Inv X pins σ H s)(g:yeu H a y o):s.TypeIs (.ref a) "dict" :=by
 rcases g with ⟨kvs,k,e,_,_⟩|⟨kvs,k,b,e,_,_,_⟩
 ·obtain⟨_,_,vs,_,dd⟩:=WP I.hok e;exact dd.typeIs
 ·obtain⟨_,_,xs,_,dd⟩:=Wp I.hok e;exact dd.typeIs
def yjv (td ty:TE):TE:=fun σ H Q=>td σ H fun x H1=>ty σ H1 fun y H2=>∃ a v,x=.ref a/\yeu H2 a y (some v)/\Q v H2
def yi7 (td ty tv:TE):TS:=fun D σ H=>tv σ H fun v H1=>td σ H1 fun x H2=>ty σ H2 fun y H3=>∃ a H4,x=.ref a/\WA H3 a y v H4/\D.nx σ H4
section
variable {X:Cx}{o i e value:Expr}{pos pos' tpos:Pos}{td ty tv:TE}
theorem ybk (hu:X.A.units+1<cLine)(ho:PE X o td)(hi:PE X i ty)(hs:ycw i):PE X (.Subscript o i pos) (yjv td ty):=by
 intro pins s σ H Q I h;refine X1 PySem.F.slot_dict_getitem.lookup hs (thn (ho pins s σ H _ I h) fun u s1 ⟨x,H1,I1,rx,q1⟩=>thn (hi pins s1 σ H1 _ I1 q1) fun iv s2 ⟨y,H2,I2,ry,a,v,ex,g,q2⟩=>?_);subst ex;obtain rfl:u=Value.ref a:=rx;exact⟨Wl I2 g,ybD hu I2 g ry fun w' s3 I3 rw'=>⟨v,H2,I3,rw',q2⟩⟩
theorem yaI (hu:X.A.units+1<cLine)(ho:PE X o td)(hi:PE X i ty)(hv:PE X value tv)(hs:swapsWith value (some (.Subscript o i pos')) pos.line X.env=pure false) :
  PS X (.Assign [.Subscript o i pos'] value pos) (yi7 td ty tv):=by
 intro pins s σ H D I h;refine wpAny_Assign_Subscript (thn (hv pins s σ H _ I h) fun r s1 ⟨v,H1,I1,rv,q1⟩=>thn (ho pins s1 σ H1 _ I1 q1) fun u s2 ⟨x,H2,I2,rx,q2⟩=>thn (hi pins s2 σ H2 _ I2 q2) fun iv s3 ⟨y,H3,I3,ry,a,H4,ex,g,q3⟩=>?_) hs;subst ex;obtain rfl:u=Value.ref a:=rx;exact ycc hu I3 g ry rv fun s4 I4=>⟨σ,H4,I4,q3⟩
end
theorem WN {P:Program}{w:World}{H:Hp}(h:Heap)(hb:sysModules<h.objs.size):Qh P w H (h.push {cls:=.type "dict", data:=.dict #[]}) h.objs.size (.dK []):=
 ⟨qo _,beq_eq_false_iff_ne.mpr (Ne.symm (yR hb)),[],.nil,Heap.DictOf.new h⟩
theorem ydQ {P:Program}{w:World}{H:Hp}(h:Heap)(hb:sysModules<h.objs.size):Qh P w H (h.push {cls:=.type "dict", data:=.dict #[]}) h.objs.size (.dT []):=
 ⟨qo _,beq_eq_false_iff_ne.mpr (Ne.symm (yR hb)),[],.nil,_,#[],0,yC _ rfl,⟨rfl,rfl,rfl⟩,rfl,rfl,qD⟩
def yiO:TE:=fun _ H Q=>∀ p,H p=none->Q (.ref p) (upd H p (.dK []))
def yiu:TE:=fun _ H Q=>∀ p,H p=none->Q (.ref p) (upd H p (.dT []))
section
variable {X:Cx}{pos:Pos}
theorem ydI:PE X (.Dict [] [] pos) yiO:=fun pins s σ H Q I h=>
 wpAny_Dict_empty ⟨.ref s.heap.objs.size,_,I.laid (a:=s.heap.objs.size) (o:=.dK []) (t':=s.toks) (fun _ _ q=>yk _ q) (yg _) (WN s.heap I.big),rfl,h _ (I.hok.fresh (yg _))⟩
theorem yeg:PE X (.Dict [] [] pos) yiu:=fun pins s σ H Q I h=>
 wpAny_Dict_empty ⟨.ref s.heap.objs.size,_,I.laid (a:=s.heap.objs.size) (o:=.dT []) (t':=s.toks) (fun _ _ q=>yk _ q) (yg _) (ydQ s.heap I.big),rfl,h _ (I.hok.fresh (yg _))⟩
end
def UM:List (TE×TE)->St->Hp->(List (V×V)->Hp->Prop)->Prop
 |[],_,H,Q=>Q [] H
 | (tk,tv)::r,σ,H,Q=>tk σ H fun x H1=>tv σ H1 fun y H2=>UM r σ H2 fun ps H3=>Q ((x,y)::ps) H3
abbrev VV:List (V×V)->List (Value×Value)->Prop:=Paired fun p q=>Yx p.1 q.1/\Yx p.2 q.2
def PPs (X:Cx)(pos:Pos)(keys:List (Option Expr))(values:List Expr)(trs:List (TE×TE)):Prop:=
 ∀ (pins:List (Addr×Obj)) (s:Shared) (σ:St) (H:Hp) (Q:List (V×V)->Hp->Prop),Inv X pins σ H s->UM trs σ H Q->
  wpAny (model X.prog X.w) X.A (evalPairs (pairTrees keys values X.env pos)) (fun vs s'=>∃ ps H',Inv X pins σ H' s'/\VV ps vs/\Q ps H') X.xe s
theorem ygp {X:Cx}{pos:Pos}:PPs X pos [] [] []:=fun pins s σ H Q I h=>pairTrees_nil_walk ⟨[],H,I,.nil,h⟩
theorem ycs {X:Cx}{pos:Pos}{k v:Expr}{ks:List (Option Expr)}{vs:List Expr}{tk tv:TE}{trs:List (TE×TE)}(hk:PE X k tk)(hv:PE X v tv)(hr:PPs X pos ks vs trs) :
  PPs X pos (some k::ks) (v::vs) ((tk,tv)::trs):=fun pins s σ H Q I h=>
 pairTrees_cons_walk (thn (hk pins s σ H _ I h) fun u s1 ⟨x,H1,I1,rx,q1⟩=>thn (hv pins s1 σ H1 _ I1 q1) fun w2 s2 ⟨y,H2,I2,ry,q2⟩=>
  thn (hr pins s2 σ H2 _ I2 q2) fun ws s3 ⟨ps,H3,I3,rel,q3⟩=>⟨(x,y)::ps,H3,I3,.cons ⟨rx,ry⟩ rel,q3⟩)
def zU (kvs more:List (Key×V)):List (Key×V):=more.foldl (fun acc kv=>zf acc kv.1 kv.2) kvs
theorem KV.merge:∀ {more:List (Key×V)} {rs:List (Key×Value)} {kvs:List (Key×V)} {vs:List (Key×Value)},KV more rs->KV kvs vs->KV (zU kvs more) (merged vs rs):=by
 intro more rs kvs vs r;unfold KV at r
 induction r generalizing kvs vs with
 |nil=>intro q;exact q
 |@cons p q ps qs h t ih=>
  intro r0;have e:KV (zf kvs p.1 p.2) (stored vs q.1 q.2):=by
   have:=r0.put p.1 h.2;rw[←h.1];exact this
  exact ih e
theorem ZU:∀ (more kvs:List (Key×V)),(zU kvs more).length<=kvs.length+more.length
 |[],kvs=>by show kvs.length<=kvs.length+0;omega
 |p::r,kvs=>by
  have h1:=ZU r (zf kvs p.1 p.2);have h2:=ZD kvs p.1 p.2;show(zU (zf kvs p.1 p.2) r).length<=_;rw[ym];omega
theorem kF {P:Program}{w:World}:∀ {kvs:List (Key×V)} {ws:List (Value×Value)},VV (kvs.map fun kv=>(kV kv.1,kv.2)) ws->∃ rs,Carries (qw P w) ws rs/\KV kvs rs
 |[],_,r=>by rw[QU] at r;cases r;exact⟨[],True.intro,.nil⟩
 |p::kvs,_,r=>by
  rw[yn] at r;cases r with
  |@cons a b as bs h t=>
   obtain⟨rs,c,q⟩:=kF (P:=P) (w:=w) t;obtain⟨b1,b2⟩:=b;exact⟨(p.1,b2)::rs,⟨KG h.1,rfl,c⟩,.cons ⟨rfl,h.2⟩ q⟩
def yjp (trs:List (TE×TE)):TE:=fun σ H Q=>∀ p,H p=none->UM trs σ (upd H p (.dK [])) fun ps H2=>H2 p=some (.dK [])/\∃ kvs:List (Key×V),ps=kvs.map (fun kv=>(kV kv.1,kv.2))/\kvs.length<=15/\Q (.ref p) (upd H2 p (.dK (zU [] kvs)))
theorem yge {X:Cx}{pos:Pos}{keys:List (Option Expr)}{values:List Expr}{trs:List (TE×TE)}(h:PPs X pos keys values trs)(hall:keys.all (·.isSome)=true)(hl:keys.length=values.length)(h0:keys≠[])
  (h15:keys.length<=15):PE X (.Dict keys values pos) (yjp trs):=by
 intro pins s σ H Q I q;have hn:=I.hok.fresh (yg s.heap.objs.size);have I1:=I.laid (a:=s.heap.objs.size) (o:=.dK []) (h':=s.heap.push {cls:=.type "dict", data:=.dict #[]}) (t':=s.toks) (fun _ _ q=>yk _ q) (yg _) (WN s.heap I.big);refine wpAny_Dict_walk (knd:=qw X.prog X.w) hall hl h0 h15 (thn (h pins _ σ _ _ I1 (q _ hn)) fun ws s2 ⟨ps,H2,I2,rel,e,kvs,ep,lk,q2⟩=>?_);subst ep;obtain⟨rs,c,rk⟩:=kF (P:=X.prog) (w:=X.w) rel;obtain⟨z,hd,vs0,r0,dd⟩:=yg7 I2.hok e;cases r0;refine⟨rs,c,dd,fun h' dd' hs=>⟨.ref s.heap.objs.size,_,?_,rfl,q2⟩⟩;have hz:(zU [] kvs).length<=sizeLine:=by
  have h1:=ZU kvs [];rw[Yq] at h1;rw[sizeLine_eq];omega
 have he:∃ q,h'.get? s.heap.objs.size=some q:=let ⟨q,_,_,hq,_⟩:=dd';⟨q,hq⟩
 exact UI I2 (by rw[e];exact True.intro) hs he (ydE hz hd (rk.merge .nil) dd')
structure M2 (X:Cx)(o:Expr)(m:Str)(apos:Pos)(e f:Expr)(cpos:Pos):Prop where
 base:attributeBase o m X.env (eval o X.env)=eval o X.env
 few:((backTo cpos (starEach [e,f] X.env)).all (fun x=>!x.1)&&(backToKw cpos (keywordEach [] X.env)).all (fun x=>x.1.isSome)
  && decide (([e,f]:List Expr).length+([]:List Keyword).length+(if ([]:List Keyword).isEmpty then 0 else 1)<30))=true
 line:(apos.endLine==cpos.line)=true
 trees:backTo cpos (starEach [e,f] X.env)=[(false,eval e X.env),(false,eval f X.env)]
def IsD (H:Hp)(a:Addr):Prop:=(∃ kvs,Rd H a (.dK kvs))∨∃ kvs,Rd H a (.dT kvs)
theorem yiv {X:Cx}{pins:List (Addr×Obj)}{σ:St}{H:Hp}{s:Shared}{a:Addr}(I:Inv X pins σ H s)(d:IsD H a) :
  s.TypeIs (.ref a) "dict" /\ (∀ b,Value.ref a=.ref b->∃ ob,s.heap.get? b=some ob/\ob.dict=none)/\(a==sysModules)=false:=by
 rcases d with ⟨kvs,e⟩|⟨kvs,e⟩
 ·obtain⟨_,hd,vs,_,dd⟩:=WP I.hok e;refine⟨dd.typeIs,fun b q=>?_,hd⟩;cases q;obtain⟨ob,_,_,h1,h2,_⟩:=dd;exact⟨ob,h1,h2.2.1⟩
 ·obtain⟨_,hd,xs,_,dd⟩:=Wp I.hok e;refine⟨dd.typeIs,fun b q=>?_,hd⟩;cases q;obtain⟨ob,_,_,h1,h2,_⟩:=dd;exact⟨ob,h1,h2.2.1⟩
section
variable {X:Cx}{pins:List (Addr×Obj)}{σ:St}{H:Hp}{s:Shared}{a:Addr}{y d:V}{u r:Value}{o:Option V}{A:Around}{E:Value->Shared->Prop}
theorem yib {Q:Value->Shared->Prop}(hu:A.units+1<cLine)(I:Inv X pins σ H s)(g:yeu H a y o)(ry:Yx y u)(rd:Yx d r)(h:∀ w' s',Inv X pins σ H s'->Yx (o.getD d) w'->Q w' s') :
  wpAny (model X.prog X.w) A (call (.builtin "dict.get") [.ref a,u,r]) Q E s:=by
 rcases g with ⟨kvs,k,e,ey,l⟩|⟨kvs,k,b,e,ey,eb,l⟩
 ·subst ey;obtain⟨z,hd,vs,rel,dd⟩:=WP I.hok e;refine call_meetsIn PySem.F.slot_dict_get dd.typeIs PySem.F.entry_dict_get (PySem.F.args_dict_get_3 _ _ _) (meets_dict_get_default (qw X.prog X.w) a (KG ry) hd r) ⟨_,dd.mapOf,h _ _ (I.tok _) ?_⟩;rw[l];exact(rel.val k).getD rd
 ·subst ey;cases (show u=Value.ref b from ry);obtain⟨z,hd,xs,rel,dd⟩:=Wp I.hok e;refine call_meetsIn PySem.F.slot_dict_get dd.typeIs PySem.F.entry_dict_get (PySem.F.args_dict_get_3 _ _ _) (meetsH_dict_get_default (tupleKind (qw X.prog X.w)) a b hd r) ⟨tupleKind_room_in1 hu,k,xs,U0 I.hok eb,dd,h _ _ (I.tok _) ?_⟩;rw[l];exact(rel.val k).getD rd
end
def yif (td ty tx:TE):TE:=fun σ H Q=>td σ H fun x H1=>∃ a,x=.ref a/\IsD H1 a/\ty σ H1 fun y H2=>tx σ H2 fun z H3=>∃ o,yeu H3 a y o/\Q (o.getD z) H3
section
variable {X:Cx}{o e f:Expr}{apos cpos:Pos}{td ty tx:TE}
theorem Ww (hu:X.A.units+1<cLine)(ho:PE X o td)(he:PE X e ty)(hf:PE X f tx)(m:M2 X o "get" apos e f cpos):PE X (.Call (.Attribute o "get" apos) [e,f] [] cpos) (yif td ty tx):=by
 intro pins s σ H Q I h;refine wpAny_Call_method m.base m.few m.line PySem.F.plainAttrs_dict PySem.F.slot_dict_get PySem.F.type_dict_get (thn (ho pins s σ H _ I h) fun u s1 ⟨x,H1,I1,rx,a,ex,d,q1⟩=>?_);subst ex;obtain rfl:u=Value.ref a:=rx;obtain⟨t1,t2,_⟩:=yiv I1 d;refine⟨t1,t2,?_⟩;rw[m.trees];refine Calls.callWith_builtin rfl (Calls.evalArgs_plain (Calls.spliced_cons (thn (he pins s1 σ H1 _ I1 q1) fun iv s2 ⟨y,H2,I2,ry,q2⟩=>
  Calls.spliced_cons (thn (hf pins s2 σ H2 _ I2 q2) fun fv s3 ⟨z,H3,I3,rz,ov,g,q3⟩=>Calls.spliced_nil ?_))))
 exact yib hu I3 g ry rz fun w' s4 I4 rw'=>⟨_,H3,I4,rw',q3⟩
end
section
variable {X:Cx}{pins:List (Addr×Obj)}{σ:St}{H:Hp}{s:Shared}{a:Addr}{kvs:List (Key×V)}{A:Around}{E:Value->Shared->Prop}
end
section
variable {X:Cx}{pins:List (Addr×Obj)}{σ:St}{H:Hp}{s:Shared}{a:Addr}{y:V}{u:Value}{A:Around}{E:Value->Shared->Prop}
end
section
variable {X:Cx}{pins:List (Addr×Obj)}{σ:St}{H:Hp}{s:Shared}{a:Addr}
def yg0:HO->Bool
 |.dK _=>true
 |.dT _=>true
 |_=>false
theorem HOk.known {P:Program}{w:World}{h:Heap}{u:HO}{o:Obj}(ok:HOk P w H h)(e:H a=some u)(d:yg0 u=true)(ho:h.get? a=some o):HOk P w (upd H a (.frz o u)) h:=fun b v q=>by
 have nown:∀ c y,H c=some (.own y)->c≠a:=fun c y r z=>by subst z;rw[e] at r;cases r;cases d
 have ntup:∀ c xs,H c=some (.tup xs)->c≠a:=fun c xs r z=>by subst z;rw[e] at r;cases r;cases d
 have st:∀ {b:Addr} {v:HO},Qh P w H h b v->Qh P w (upd H a (.frz o u)) h b v:=fun {b v} x=>x.stay (fun _ _ _ z=>z) (fun c z=>by rw[yO (nown c _ z)];exact z) fun c xs z=>by rw[yO (ntup c _ z)];exact z
 by_cases hb:b=a
 ·subst hb;rw[yL] at q;cases q;exact⟨ho,st (ok _ _ e)⟩
 ·rw[yO hb] at q;exact st (ok _ _ q)
theorem Inv.known {u:HO}{o:Obj}(I:Inv X pins σ H s)(e:H a=some u)(d:yg0 u=true)(ho:s.heap.get? a=some o):Inv X pins σ (upd H a (.frz o u)) s:=by
 have nn:∀ b,H b=none->upd H a (.frz o u) b=none:=fun b z=>by
  rw[yO (fun y=>by subst y;rw[e] at z;cases z)];exact z
 refine⟨I.ok,I.os,I.bare,⟨I.base.keep,I.base.slot,fun b o' q n hx=>nn b (I.base.free b o' q n hx),I.base.there,fun b xs q=>?_,fun b o' v q=>?_,fun b ps q=>?_⟩,I.loc,I.cell,nn _ I.free,fun x c q=>nn _ (I.freeC x c q),fun p hp=>?_,I.hok.known e d ho,I.len⟩
 ·have z:=I.base.tups b xs q;rw[yO (fun y=>by subst y;rw[e] at z;cases z;cases d)];exact z
 ·have z:=I.base.frzs b o' v q;rw[yO (fun y=>by subst y;rw[e] at z;cases z;cases d)];exact z
 ·obtain⟨m,z⟩:=I.base.tbls b ps q;exact⟨m,by rw[yO (fun y=>by subst y;rw[e] at z;cases z;cases d)];exact z⟩
 ·obtain⟨q1,q2,q3⟩:=I.pin p hp;exact⟨q1,nn _ q2,q3⟩
end
def Itk (a:Addr)(o:Obj)(kvs:List (Key×V)):It:=
 ⟨fun i H=>H a=some (.frz o (.dK kvs))/\i<kvs.length,fun i H x H'=>H'=H/\∃ k v,kvs[i]?=some (k,v)/\x=kV k,fun i H=>H a=some (.frz o (.dK kvs))/\kvs.length<=i⟩
theorem yi1 {P:Program}{w:World}{k:Key}{u:Value}(h:(qw P w).is k u=true):Yx (kV k) u:=by
 cases k with
 |inl i=>obtain⟨t,e⟩:=Value.isInt_shape (k:=i) (v:=u) h;exact⟨t,e⟩
 |inr x=>obtain⟨t,e⟩:=Value.isStrOf_shape (x:=x) (v:=u) h;exact⟨t,e⟩
theorem xm {P:Program}{w:World}{H:Hp}{h:Heap}{a:Addr}{o:Obj}{kvs:List (Key×V)}{es:Array DictEntry}{ep:Nat}(ok:HOk P w H h)(e:H a=some (.frz o (.dK kvs)))(hd:o.data=.dict es ep):∃ vs,KV kvs vs/\Heap.DictAt (qw P w) h a vs ep/\(a==sysModules)=false:=by
 obtain⟨h1,z,y,vs,r,o',es',ep',q1,q2,q3,q4⟩:=(show Qh P w H h a (.frz o (.dK kvs)) from ok a _ e)
 rw[h1] at q1;cases q1;rw[hd] at q3;cases q3;exact⟨vs,r,⟨o,es,h1,q2,hd,q4⟩,y⟩
theorem ybG {P:Program}{w:World}{K:W.Frag}{tg:Expr}{a it:Addr}{o:Obj}{kvs:List (Key×V)}{es:Array DictEntry}{ep:Nat}(hd:o.data=.dict es ep):Turn P w K tg (Itk a o kvs) [it] it (fun i h=>h.IsKeyIter it a i kvs.length ep) where
 mem:=by simp
 obj:=fun i h st b hb=>by
  have e:b=it:=by simpa using hb
  subst e;obtain⟨o,e,c,d⟩:=st;exact⟨o,e,fun v z=>by rw[d] at z;cases z⟩
 keep:=fun i h h' st k=>st.at fun o e=>k it (by simp) o e
 item:=by
  intro X hP hw hK hc i pins s σ H E I hf st hg;subst hP hw hK;obtain⟨ha,hi⟩:=hg;obtain⟨f0,f1,f2,f3,f4,f5⟩:=hf it (by simp);obtain⟨vs,r,da,_⟩:=xm I.hok ha hd;have hl:=r.length;obtain⟨p,hp⟩:∃ p,vs[i]?=some p:=⟨_,al_getElem?_eq_getElem (by omega)⟩
  obtain⟨q,hq⟩:∃ q,kvs[i]?=some q:=⟨_,al_getElem?_eq_getElem hi⟩
  have ek:q.1=p.1:=by
   have:=congrArg (·[i]?) r.keys;simp only[al_getElem?_map,hp,hq,Option.map_some,Option.some.injEq] at this;exact this
  rw[hl] at st;refine wpAny_pyNext_dict_item st da (k:=p.1) (v:=p.2) hp fun key h' hk st' sb=>?_;have I1:Inv X pins σ H {s with heap:=h'}:=I.turned (t':=s.toks) (fun b o hb e=>(sb.2 b hb).trans e) f0 f1 f3 f4 f5;refine⟨key,rfl,letGo_keyiter st' ⟨kV q.1,H,I1,?_,⟨rfl,q.1,q.2,hq,rfl⟩,?_,fun b hb=>(hf b hb).1⟩⟩
  ·rw[ek];exact yi1 hk
  ·rw[hl];exact st'
 done:=by
  intro X hP hw hK hc i pins s σ H E I hf st hg;subst hP hw hK;obtain⟨ha,hi⟩:=hg;obtain⟨f0,f1,f2,f3,f4,f5⟩:=hf it (by simp);obtain⟨vs,r,da,_⟩:=xm I.hok ha hd;have hl:=r.length;rw[hl] at st;exact wpAny_pyNext_dict_end (I.ok.hd hc) st da (al_getElem?_eq_none_iff.mpr (by omega)) fun h' eb=>⟨rfl,I.turned (t':=s.toks) (fun b o hb e=>eb b o hb e) f0 f1 f3 f4 f5⟩
 self:=fun _ _ _ _ _ st h=>wpAny_pyIter_keyiter st h
def yj5 (tl:TE):TI:=fun σ H R=>tl σ H fun x H1=>∃ a o kvs,x=.ref a/\H1 a=some (.frz o (.dK kvs))/\R (Itk a o kvs) H1
theorem yaF {X:Cx}{tg l:Expr}{tl:TE}(hl:PE X l tl):PI X tg l (yj5 tl):=by
 intro pins s σ H R I h;refine thn (hl pins s σ H _ I h) fun v s1 ⟨x,H1,I1,r1,q1⟩=>?_;obtain⟨a,o,kvs,e,ha,q⟩:=q1;subst e;cases r1;obtain⟨h1,z,y,vs0,r0,o',es,ep,p1,p2,p3,p4⟩:=(show Qh X.prog X.w H1 s1.heap a (.frz o (.dK kvs)) from I1.hok a _ ha)
 rw[h1] at p1;cases p1;obtain⟨vs,r,da,hy⟩:=xm I1.hok ha p3;refine wpAny_pyIter_dict hy da ?_;refine⟨s1.heap.objs.size,[s1.heap.objs.size],_,_,H1,rfl,I1.kept (t':=s1.toks) fun b o e=>yk _ e,ybG (a:=a) (kvs:=kvs) p3,?_,fun b hb=>?_,q⟩
 ·rw[r.length];exact⟨_,yC _ rfl,rfl,rfl⟩
 ·have e:b=s1.heap.objs.size:=by simpa using hb
  subst e;exact I1.fpOk (yg _) (I1.hok.fresh (yg _))
end L2
namespace L3
open PySem PySem.Spec PySem.Calls PyProof.Rows L2
def Zq:Key->D
 |.inl i=>.int i
 |.inr x=>.str x
def k2D:K2->D
 |.inl k=>Zq k
 |.inr ks=>.tup (ks.map Zq)
def kD (ks:List K2):D:=.tup (ks.map k2D)
theorem Z3 {K:W.Frag}{F:Hp}{k:Key}{v:V}(h:Is K F (Zq k) v):v=kV k:=by
 cases k with
 |inl i=>exact isI h
 |inr x=>exact isS h
theorem vP {K:W.Frag}{F:Hp}:∀ {ks:List Key} {xs:List V},IsL K F (ks.map Zq) xs->xs=ks.map kV
 |[],_,h=>by simp only[QU,IsL] at h;subst h;rfl
 |k::ks,_,h=>by
  simp only[yn,IsL] at h;obtain⟨x,r,rfl,h1,h2⟩:=h;rw[Z3 h1,vP h2];rfl
section
variable {X:Cx}{pins:List (Addr×Obj)}{σ:L2.St}{H:Hp}{s:Shared}
theorem yjw (I:Inv X pins σ H s){k:K2}{x:V}{u:Value}(h:Is X.K H (k2D k) x)(r:Yx x u):Z7 s.heap k u:=by
 cases k with
 |inl k=>
  rw[Z3 h] at r;exact r
 |inr ks=>
  obtain⟨a,xs,rfl,s1,il⟩:=isT h;obtain⟨us,rv,t1,_⟩:=I.tuple s1;rw[vP il] at rv;exact⟨a,r,us,t1,rv⟩
theorem yd5 (I:Inv X pins σ H s):∀ {ks:List K2} {xs:List V} {us:List Value},IsL X.K H (ks.map k2D) xs->YQ xs us->Paired (Z7 s.heap) ks us
 |[],_,_,h,r=>by
  simp only[QU,IsL] at h;subst h;cases r;exact .nil
 |k::ks,_,_,h,r=>by
  simp only[yn,IsL] at h;obtain⟨x,r',rfl,h1,h2⟩:=h;cases r with
  |cons a b=>exact .cons (yjw I h1 a) (yd5 I h2 b)
theorem kz (I:Inv X pins σ H s){ks:List K2}{a:Addr}(h:Is X.K H (kD ks) (.ref a)):ZZ s.heap ks a:=by
 obtain⟨a',xs,e,s1,il⟩:=isT h;cases e;obtain⟨us,rv,t1,_⟩:=I.tuple s1;exact⟨us,t1,yd5 I il rv⟩
end
abbrev DP (K:W.Frag)(F:Hp):List (List K2×D)->List (List K2×Addr×Value)->Prop:=Paired fun p q=>p.1=q.1/\Is K F (kD q.1) (.ref q.2.1)/\∃ v,Yx v q.2.2/\Is K F p.2 v
def atD (kvs:List (List K2×D))(k:List K2):Option D:=(kvs.find? fun p=>decide (p.1=k)).map (·.2)
def uo (kvs:List (List K2×D))(k:List K2)(d:D):List (List K2×D):=if (atD kvs k).isSome=true then kvs.map fun p=>if p.1=k then (p.1,d) else p else kvs++[(k,d)]
theorem DP.mono {K:W.Frag}{F F':Hp}{kvs:List (List K2×D)}{xs:List (List K2×Addr×Value)}(h:DP K F kvs xs)(e:yP F F'):DP K F' kvs xs:=Paired.mapP h fun p q ⟨h1,h2,v,r,i⟩=>⟨h1,h2.mono e,v,r,i.mono e⟩
theorem DP.at {K:W.Frag}{F:Hp}{k:List K2}:∀ {kvs:List (List K2×D)} {xs:List (List K2×Addr×Value)},DP K F kvs xs->(atKey xs k=none/\atD kvs k=none)∨∃ p d v,atKey xs k=some p/\atD kvs k=some d/\Yx v p.2/\Is K F d v
 |_,_,.nil=>.inl ⟨rfl,rfl⟩
 |_,_,@Paired.cons _ _ _ p q ps qs ⟨h1,h2,v,r,i⟩ t=>by
  by_cases e:p.1=k
  ·have e':q.1=k:=h1.symm.trans e;exact .inr ⟨q.2,p.2,v,by simp[atKey,al_find?_cons,e'],by simp[atD,al_find?_cons,e],r,i⟩
  ·have e':¬ q.1=k:=fun z=>e (h1.trans z);have ih:=DP.at (k:=k) t
   rwa [show atKey qs k=atKey (q::qs) k by simp[atKey,al_find?_cons,e'],show atD ps k=atD (p::ps) k by simp[atD,al_find?_cons,e]] at ih
theorem DP.some_eq {K:W.Frag}{F:Hp}{k:List K2}{kvs:List (List K2×D)}{xs:List (List K2×Addr×Value)}(h:DP K F kvs xs):(atKey xs k).isSome=(atD kvs k).isSome:=by
 rcases h.at (k:=k) with ⟨e1,e2⟩|⟨p,d,v,e1,e2,_⟩
 ·rw[e1,e2];rfl
 ·rw[e1,e2];rfl
theorem DP.put {K:W.Frag}{F:Hp}{k:List K2}{kvs:List (List K2×D)}{xs:List (List K2×Addr×Value)}{a:Addr}{d:D}{v:V}{u:Value}(h:DP K F kvs xs)(hk:Is K F (kD k) (.ref a))(r:Yx v u)(i:Is K F d v):DP K F (uo kvs k d) (storedH xs k a u):=by
 unfold uo storedH;rw[h.some_eq];split
 ·have go:∀ {ps:List (List K2×D)} {qs:List (List K2×Addr×Value)},DP K F ps qs->DP K F (ps.map fun p=>if p.1=k then (p.1,d) else p) (qs.map (putAt k u)):=by
   intro ps qs t
   induction t with
   |nil=>exact .nil
   |@cons p q ps qs hh t ih=>
    obtain⟨h1,h2,v',r',i'⟩:=hh;rw[yn,yn];refine .cons ?_ ih;unfold putAt;by_cases e:p.1=k
    ·rw[yc e,yc (h1.symm.trans e)];exact⟨h1,h2,v,r,i⟩
    ·rw[yb e,yb fun z=>e (h1.trans z)];exact⟨h1,h2,v',r',i'⟩
  exact go h
 ·exact Paired.snoc h ⟨rfl,hk,v,r,i⟩
def ZR (P:Program)(w:World)(K:W.Frag)(a:Addr)(kvs:List (List K2×D)):Ow:=fun F o=>∃ xs,o=U6 P w a xs/\DP K F kvs xs
theorem yen {P:Program}{w:World}{K:W.Frag}{a:Addr}{kvs:List (List K2×D)}{L:Bool}:∀ F o,ZR P w K a kvs F o->JM L o=true:=fun F o ⟨xs,e,_⟩=>by subst e;rfl
section
variable {X:Cx}{pins:List (Addr×Obj)}{σ:L2.St}{H:Hp}{s:Shared}{l:Addr}{xs:List (List K2×Addr×Value)}{kvs:List (List K2×D)}
theorem Us (I:Inv X pins σ H s)(e:H l=some (U6 X.prog X.w l xs))(h:DP X.K H kvs xs):(l==sysModules)=false/\s.heap.DictOfH (yez X.prog X.w) l xs:=by
 obtain⟨⟨h0,o,es,ep,h1,h2,h3,h4,h5⟩,_⟩:=(show Qh X.prog X.w H s.heap l (U6 X.prog X.w l xs) from I.hok l _ e)
 refine⟨h0,o,es,ep,h1,h2,h3,h4,fun x hx=>?_,h5⟩;obtain⟨p,_,hp⟩:=zK h hx;exact kz I hp.2.1
end
def yhW (X:Cx)(neg:Bool):R2:=fun x y H Q=>∃ b l ks kvs xs,x=.ref b/\Is X.K H (kD ks) x/\y=.ref l/\H l=some (U6 X.prog X.w l xs)/\DP X.K H kvs xs/\Q (.bl (if neg then !(atD kvs ks).isSome else (atD kvs ks).isSome)) H
def yjF (X:Cx):yfJ:=fun o i v H Q=>∃ l b ks kvs xs d,o=.ref l/\i=.ref b/\Is X.K H (kD ks) i/\H l=some (U6 X.prog X.w l xs)/\DP X.K H kvs xs/\kvs.length<sizeLine/\Is X.K H d v/\∀ u,Yx v u->Q (upd H l (U6 X.prog X.w l (storedH xs ks b u)))
section
variable {X:Cx}
theorem yh1 (hu:X.A.units+64<cLine):OpR X (compareOp .In) (yhW X false):=by
 rintro pins s σ H x y v u Q I rx ry ⟨b,l,ks,kvs,xs,rfl,hk,rfl,hl,dp,q⟩;cases rx;cases ry;obtain⟨h0,dd⟩:=Us I hl dp;refine wpAny_in_heap (show X.A.units+1+1<cLine by omega) (kz I hk) h0 dd ?_;rw[dp.some_eq];exact⟨.bl _,H,I.tok _,rfl,q⟩
theorem ybC (hu:X.A.units+64<cLine):OpR X (compareOp .NotIn) (yhW X true):=by
 rintro pins s σ H x y v u Q I rx ry ⟨b,l,ks,kvs,xs,rfl,hk,rfl,hl,dp,q⟩;cases rx;cases ry;obtain⟨h0,dd⟩:=Us I hl dp;refine wpAny_notIn_heap (show X.A.units+1+1<cLine by omega) (kz I hk) h0 dd ?_;rw[dp.some_eq];exact⟨.bl _,H,I.tok _,rfl,q⟩
theorem ygm (hu:X.A.units+64<cLine):yi0 X (yjF X):=by
 rintro pins s σ H o i v ov iv u Q I ro ri rv ⟨l,b,ks,kvs,xs,d,rfl,rfl,hk,hl,dp,hz,hd,q⟩;cases ro;cases ri;obtain⟨h0,dd⟩:=Us I hl dp;have hx:xs.length<=sizeLine:=by rw[←Paired.length dp];omega
 refine wpAny_setItem_heap (hsz:=hx) (show X.A.units+1+1<cLine by omega) (kz I hk) dd fun h' dd' hs=>⟨_,?_,q u rv⟩
 obtain⟨o',es,ep,z1,z2,z3,z4,_,z5⟩:=dd';exact I.write (x:=l) (e:=l) (by rw[hl];exact True.intro) (.inl rfl) (fun c q hb z=>(hs.2 c hb).trans z) ⟨o',z1⟩ (ybh ⟨h0,o',es,ep,z1,z2,z3,z4,z5⟩)
theorem ye9 {pos:Pos}:PE X (.Dict [] [] pos) (fun _ H Q=>∀ p,H p=none->Q (.ref p) (upd H p (U6 X.prog X.w p []))):=fun pins s σ H Q I h=>
 wpAny_Dict_empty ⟨.ref s.heap.objs.size,_,I.laid (a:=s.heap.objs.size) (o:=U6 X.prog X.w s.heap.objs.size []) (t':=s.toks) (fun _ _ q=>yk _ q) (yg _)
  (ybh ⟨beq_eq_false_iff_ne.mpr (Ne.symm (yR (Xj I))),_,#[],0,yC _ rfl,⟨rfl,rfl,rfl⟩,rfl,rfl,qD⟩),rfl,h _ (I.hok.fresh (yg _))⟩
end
section
variable {X:Cx}{B:Bs}{Γ:Ga}{Ω:Om}{E:E3}{rest:List Stmt}{a b e o i:Expr}{pos pos' spos tpos:Pos}{R:D->Om->Prop}{RT:Bool->Om->Prop}{x:Str}
theorem xA (r:∀ l,R (.raw (.ref l)) ((l,ZR X.prog X.w X.K l [])::Ω)):V3 X B (.Dict [] [] pos) Γ Ω R:=fun F σ H S pins s I=>
 ye9 pins s σ H _ I fun l hl=>⟨.raw (.ref l),_,F,S.new (Pur.layOwn S.fh hl) hl (S.fh.free hl) yL (fun F2 _=>⟨[],rfl,.nil⟩),yP.refl _,zl F,r l⟩
theorem yac {neg:Bool}{F:Hp}{σ:L2.St}{H:Hp}{ks:List K2}{l:Addr}{kvs:List (List K2×D)}{x y:V}{Q:VK}(S:Sat X.K B Γ Ω F σ H)(i1:Is X.K F (kD ks) x)(i2:Is X.K F (.raw (.ref l)) y)(m:(l,ZR X.prog X.w X.K l kvs)∈Ω)
  (q:Q (.bl (if neg then !(atD kvs ks).isSome else (atD kvs ks).isSome)) H):yhW X neg x y H Q:=by
 cases isR i2;obtain⟨fa,o',ha,ho⟩:=S.own _ m;obtain⟨xs,rfl,dp⟩:=ho F (yP.refl _);obtain⟨c,_,rfl,_⟩:=isT i1;exact⟨c,l,ks,kvs,xs,rfl,i1.mono S.fh,rfl,ha,dp.mono S.fh,q⟩
theorem yiR (hu:X.A.units+64<cLine)(h:V3 X B a Γ Ω fun d Ω1=>∃ ks,d=kD ks/\V3 X B b Γ Ω1 fun d' Ω2=>∃ l kvs,d'=.raw (.ref l)/\(l,ZR X.prog X.w X.K l kvs)∈Ω2/\RT (atD kvs ks).isSome Ω2)
  (hm:behindInMarks .In b=false:=by first|exact v9 _|with_unfolding_all rfl):VT3 X B (.Compare a [.In] [b] pos) Γ Ω RT:=fun F σ H S pins s I=>
 kj (yh1 hu) Qt Qt hm pins s σ H _ I ((h F σ H S).mono fun x H1 ⟨d,Ω1,F1,S1,f1,i1,ks,e1,h1⟩=>(h1 F1 σ H1 S1).mono fun y H2 ⟨d',Ω2,F2,S2,f2,i2,l,kvs,e2,m,q⟩=>by
  subst e1 e2;exact yac S2 (i1.mono f2) i2 m ⟨_,rfl,Ω2,F2,S2,f1.trans f2,q⟩)
theorem ZN (hu:X.A.units+64<cLine)(h:V3 X B a Γ Ω fun d Ω1=>∃ ks,d=kD ks/\V3 X B b Γ Ω1 fun d' Ω2=>∃ l kvs,d'=.raw (.ref l)/\(l,ZR X.prog X.w X.K l kvs)∈Ω2/\RT (!(atD kvs ks).isSome) Ω2)
  (hm:behindInMarks .NotIn b=false:=by first|exact v9 _|with_unfolding_all rfl):VT3 X B (.Compare a [.NotIn] [b] pos) Γ Ω RT:=fun F σ H S pins s I=>
 kj (ybC hu) Qt Qt hm pins s σ H _ I ((h F σ H S).mono fun x H1 ⟨d,Ω1,F1,S1,f1,i1,ks,e1,h1⟩=>(h1 F1 σ H1 S1).mono fun y H2 ⟨d',Ω2,F2,S2,f2,i2,l,kvs,e2,m,q⟩=>by
  subst e1 e2;exact yac S2 (i1.mono f2) i2 m ⟨_,rfl,Ω2,F2,S2,f1.trans f2,q⟩)
theorem xo (hu:X.A.units+64<cLine)(h:V3 X B e Γ Ω fun d Ω1=>V3 X B o Γ Ω1 fun dq Ω2=>∃ l,dq=.raw (.ref l)/\V3 X B i Γ Ω2 fun di Ω3=>∃ ks kvs Ω4,di=kD ks/\Ω3.Perm ((l,ZR X.prog X.w X.K l kvs)::Ω4)/\kvs.length<sizeLine/\W3 X B rest Γ ((l,ZR X.prog X.w X.K l (uo kvs ks d))::Ω4) E)
  (hs:swapsWithSole [.Subscript o i tpos] e spos.line X.env=pure false:=by rfl) (hw:swappedStores [.Subscript o i tpos] e X.env=pure none:=by rfl) (h1:(assignEach [.Subscript o i tpos] X.env).map (·.2)=[assign (.Subscript o i tpos) X.env]:=by rfl)
  (ha:∀ v,assign (.Subscript o i tpos) X.env v=(do
   let ov ←holding [v] (eval o X.env)
   let iv ←holding [v,ov] (eval i X.env)
   standAt tpos
   holding [v,ov,iv] (setItem ov iv v)
   release [v,ov,iv] []):=by intro _;rfl):W3 X B (.Assign [.Subscript o i tpos] e spos::rest) Γ Ω E:=fun F σ H S pins s I=>
 YX (ydW Qt (ydp Qt Qt (ygm hu) ha) hs hw h1) qu pins s σ H _ I ((h F σ H S).mono fun v H1 ⟨d,Ω1,F1,S1,f1,i1,h1⟩=>(h1 F1 σ H1 S1).mono fun y H2 ⟨dq,Ω2,F2,S2,f2,i2,l,e2,h2⟩=>(h2 F2 σ H2 S2).mono fun z H3 ⟨di,Ω3,F3,S3,f3,i3,ks,kvs,Ω4,e3,pm,hz,h3⟩=>by
  subst e2 e3;cases isR i2;have S4:=S3.perm pm.symm;obtain⟨fa,o',ha',ho⟩:=S4.own (l,ZR X.prog X.w X.K l kvs) (by simp);obtain⟨xs,rfl,dp⟩:=ho F3 (yP.refl _);obtain⟨c,_,rfl,_⟩:=isT i3;refine⟨l,c,ks,kvs,xs,d,rfl,rfl,i3.mono S3.fh,ha',dp.mono S3.fh,hz,(i1.mono (f2.trans f3)).mono S3.fh,fun u ru=>?_⟩;exact Y3 (f1.trans (f2.trans f3)) (h3 F3 σ _ (S4.turn fun F5 e5=>⟨_,rfl,DP.put (dp.mono e5) (i3.mono e5) ru (i1.mono (f2.trans (f3.trans e5)))⟩)))
end
section
variable {X:Cx}{Γ:Ga}{a b c:Expr}{pos:Pos}{x y z:Str}
end
section
variable {P:Program}{w:World}{K:W.Frag}{mg:Str->Option Value}{base:Heap}{x q:Str}{st:Stmt}{N ps:List Str}{k n:Nat}{Cc:Addr}
end
end L3
namespace L2
open PySem PySem.Spec PySem.Calls PyProof.Rows
end L2
namespace L3
open PySem PySem.Spec PySem.Calls PyProof.Rows L2
section
variable {X:Cx}{B:Bs}{Γ:Ga}{Ω:Om}{E:E3}{rest:List Stmt}{a b e:Expr}{es:List Expr}{pos p:Pos}{ds gs:List D}{x:Str}{k n:Nat}{R:D->Om->Prop}
theorem yhs {Ω':Om}{sts:List Stmt}(h1:∀ q∈Ω',q∈Ω)(h2:(Ω'.map (·.1)).Nodup)(h:W3 X B sts Γ Ω' E):W3 X B sts Γ Ω E:=fun F σ H S=>
 h F σ H ⟨S.f0,S.fh,S.fr,S.kp,h2,fun q hq=>S.od q (h1 q hq),fun q hq=>S.own q (h1 q hq),S.sl⟩
def spR (K:W.Frag)(n:Nat)(C0:List D->Prop)(C:List D->D->Prop):Sp:=fun vs H Q _=>∃ ds F,ds.length=n/\yP F H/\IsL K F ds vs/\C0 ds/\∀ d,C ds d->∀ v H' F',Pur F H F' H'->Is K F' d v->Q v H'
theorem yf3 {C0:List D->Prop}{C:List D->D->Prop}{ps:List Str}(o:OkF X.prog X.w X.K X.mg X.base CX0 k x ps (spR X.K n C0 C))(hr:Room k X.A)(hg:Gl X x)(ha:PL3 X Γ (e::es) ds)(h0:C0 ds)(h:∀ d,C ds d->R d Ω)(hn:ds.length=n:=by rfl)(hdb:(x==("__debug__" : Str))=false:=by decide)
  (he:starEach (e::es) X.env=(false,eval e X.env)::starEach es X.env:=by rfl) (hpl:(backTo pos (starEach es X.env)).any (·.1)=false:=by rfl):V3 X B (.Call (.Name x p) (e::es) [] pos) Γ Ω R:=fun F σ H S pins s I=>
 VJ o hr hg ha hdb he hpl pins s σ H _ I ⟨F,S.fh,S.sl,fun vs H' F' pu i=>by
  dsimp only;rw[Yl];exact⟨ds,F',hn,pu.fh,i,h0,fun d hd v H2 F2 p2 i2=>⟨d,Ω,F2,S.pur (pu.trans p2),pu.ff.trans p2.ff,i2,h d hd⟩⟩⟩
end
theorem yii {P:Program}{w:World}{K:W.Frag}{mg:Str->Option Value}{base:Heap}{x:Str}{st:Stmt}{N ps:List Str}{k n:Nat}{C0:List D->Prop}{C:List D->D->Prop}(d:yZ K mg x st ps)(S:FnScope N ps (yj st))(hn:ps.length=n)
  (body:∀ (f:Addr) (cdv:Value) (A:Around) (outer:List Env) (s:Shared) (H:Hp) (E:XK),Room k (A.deeper (envOfC x (yj st) s.heap.objs.size f cdv))->∀ (ds:List D),C0 ds->∀ B:Bs,B.M=[]->
   W3 (cx0 P w K mg base N x st f cdv A outer s H E) B (YR st) (Ql N ds) [] ⟨fun _ _=>False,fun r _=>C ds r,fun _ _=>False,fun _ _=>False⟩):OkF P w K mg base CX0 (k+1) x ps (spR K n C0 C):=by
 refine d.ok S (fun vs H Q E h=>?_) fun f cdv A outer s H vs Q E hr h=>⟨_,qu,?_⟩
 ·obtain⟨ds,F,l,_,i,_⟩:=h;rw[i.len,l,hn]
 ·obtain⟨ds,F,hl,fh,il,c0,q⟩:=h;refine qh (D:=E3.to K ⟨[],F,H⟩ F ⟨fun _ _=>False,fun r _=>C ds r,fun _ _=>False,fun _ _=>False⟩) (D':={nx:=fun _ H'=>Q .non H',rt:=Q}) ?_ ?_ ?_ ?_ (body f cdv A outer s H E hr ds c0 ⟨[],F,H⟩ rfl F _ H (Sat.entry fh il))
  ·rintro σ' H' ⟨_,_,_,_,_,z⟩;exact z.elim
  ·rintro v H' ⟨r,Ω',F',⟨σ',S'⟩,f',iv,hC⟩;exact q r hC v H' F' (S'.toPur rfl) iv
  ·rintro σ' H' ⟨_,_,_,_,_,z⟩;exact z.elim
  ·rintro σ' H' ⟨_,_,_,_,_,z⟩;exact z.elim
section
variable {κ:Type}[DecidableEq κ]{α:Type}
def vA (ks:List κ)(xs:List α)(k:κ):Option α:=((ks.zip xs).find? fun p=>decide (p.1=k)).map (·.2)
def pK (ks:List κ)(k:κ):List κ:=if k∈ks then ks else ks++[k]
def pA (ks:List κ)(xs:List α)(k:κ)(v:α):List α:=if k∈ks then (ks.zip xs).map fun p=>if p.1=k then v else p.2 else xs++[v]
theorem kf {ks:List κ}{xs:List V}{k:κ}:KY (ks.zip xs) k=vA ks xs k:=rfl
theorem X2 {k:κ}:∀ {ks:List κ} {xs:List α},ks.length=xs.length->((ks.zip xs).any fun kv=>decide (kv.1=k))=decide (k∈ks)
 |[],_,_=>by simp
 |q::ks,[],h=>by simp at h
 |q::ks,x::xs,h=>by
  rw[yM,jL,X2 (by simpa using h)];by_cases e:q=k
  ·subst e;simp
  ·have e':¬ k=q:=fun z=>e z.symm;simp[e,e']
theorem zip_map {k:κ}{v:α}:∀ {ks:List κ} {xs:List α},ks.length=xs.length->(ks.zip xs).map (fun kv=>if kv.1=k then (kv.1,v) else kv)=ks.zip ((ks.zip xs).map fun p=>if p.1=k then v else p.2)
 |[],_,_=>by simp
 |q::ks,[],h=>by simp at h
 |q::ks,x::xs,h=>by
  rw[yM,yn,yn,yM,zip_map (by simpa using h)];split <;> rfl
theorem VC {k:κ}{v:α}:∀ {ks:List κ} {xs:List α},ks.length=xs.length->ks.zip xs++[(k,v)]=(ks++[k]).zip (xs++[v])
 |[],[],_=>rfl
 |[],_::_,h=>by simp at h
 |_::_,[],h=>by simp at h
 |q::ks,x::xs,h=>by rw[yM,qp,qp,qp,yM,VC (by simpa using h)]
theorem Wv {ks:List κ}{xs:List V}{k:κ}{v:V}(h:ks.length=xs.length):zf (ks.zip xs) k v=(pK ks k).zip (pA ks xs k v):=by
 unfold zf pK pA;rw[X2 h];by_cases q:k∈ks
 ·rw[yc (yI q),yc q,yc q,zip_map h]
 ·rw[yb (by simpa using q),yb q,yb q,VC h]
theorem Vn {ks:List κ}{xs:List α}{k:κ}{v:α}(h:ks.length=xs.length):(pK ks k).length=(pA ks xs k v).length:=by
 unfold pK pA;split
 ·rw[ye,YA];omega
 ·rw[yy,yy,h];rfl
theorem xf {K:W.Frag}{F:Hp}{k:κ}:∀ {ks:List κ} {ds:List D} {xs:List V},IsL K F ds xs->(vA ks ds k=none/\vA ks xs k=none)∨∃ d v,vA ks ds k=some d/\vA ks xs k=some v/\Is K F d v
 |[],_,_,_=>.inl ⟨rfl,rfl⟩
 |q::ks,[],_,h=>by
  simp only[IsL] at h;subst h;exact .inl ⟨rfl,rfl⟩
 |q::ks,d::ds,_,h=>by
  simp only[IsL] at h;obtain⟨x,r,rfl,h1,h2⟩:=h;unfold vA;rw[yM,yM,al_find?_cons,al_find?_cons];by_cases e:q=k
  ·rw[yI e];exact .inr ⟨d,x,rfl,rfl,h1⟩
  ·rw[yv e];exact xf (k:=k) (ks:=ks) h2
theorem ydh {K:W.Frag}{F:Hp}{k:κ}{d:D}{v:V}(iv:Is K F d v):∀ {ks:List κ} {ds:List D} {xs:List V},IsL K F ds xs->IsL K F ((ks.zip ds).map fun p=>if p.1=k then d else p.2) ((ks.zip xs).map fun p=>if p.1=k then v else p.2)
 |[],_,_,_=>IsL.nil
 |q::ks,[],_,h=>by
  simp only[IsL] at h;subst h;exact IsL.nil
 |q::ks,e::ds,_,h=>by
  simp only[IsL] at h;obtain⟨x,r,rfl,h1,h2⟩:=h;rw[yM,yM,yn,yn];refine IsL.cons ?_ (ydh iv h2);by_cases z:q=k
  ·rw[yc z,yc z];exact iv
  ·rw[yb z,yb z];exact h1
theorem yg3 {K:W.Frag}{F:Hp}{ks:List κ}{ds:List D}{xs:List V}{k:κ}{d:D}{v:V}(h:IsL K F ds xs)(iv:Is K F d v):IsL K F (pA ks ds k d) (pA ks xs k v):=by
 unfold pA;split
 ·exact ydh iv h
 ·exact h.append (IsL.cons iv IsL.nil)
end
def oDk (K:W.Frag)(ks:List Key)(ds:List D):Ow:=fun F o=>∃ xs,o=.dK (ks.zip xs)/\ks.length=xs.length/\IsL K F ds xs
def oDt (K:W.Frag)(ks:List (List Key))(ds:List D):Ow:=fun F o=>∃ xs,o=.dT (ks.zip xs)/\ks.length=xs.length/\IsL K F ds xs
theorem yhw {K:W.Frag}{F:Hp}{ks:List Key}{ds:List D}{v:V}(h:Is K F (.dk ks ds) v):∃ a xs o,v=.ref a/\F a=some (.frz o (.dK (ks.zip xs)))/\ks.length=xs.length/\IsL K F ds xs:=by simpa only[Is] using h
theorem yjY {K:W.Frag}{F:Hp}{ks:List (List Key)}{ds:List D}{v:V}(h:Is K F (.dt ks ds) v):∃ a xs,v=.ref a/\Rd F a (.dT (ks.zip xs))/\ks.length=xs.length/\IsL K F ds xs:=by simpa only[Is] using h
def kT (k:List Key):List D:=k.map Zq
section
variable {X:Cx}{B:Bs}{Γ:Ga}{Ω:Om}{E:E3}{rest:List Stmt}{a b o e f i tg:Expr}{es:List Expr}{d d':D}{ds:List D}{ks:List Key}{kt:List (List Key)}{pos apos cpos:Pos}{R:D->Om->Prop}
theorem vX (hu:X.A.units+64<cLine):X.A.units+1<cLine:=by omega
theorem ycC {k:Key}(hu:X.A.units+64<cLine)(ho:P3 X Γ o (.dk ks ds))(hi:P3 X Γ i (Zq k))(hv:vA ks ds k=some d)(hs:ycw i:=by exact fun _ _=>rfl):P3 X Γ (.Subscript o i pos) d:=
 PE.of (ybk (vX hu) ho hi hs) fun σ H Q ⟨F,fh,sl,q⟩=>⟨F,fh,sl,fun x H1 F1 p1 i1=>⟨F1,p1.fh,sl.mono p1.ff,fun y H2 F2 p2 i2=>by
  obtain⟨l,xs,ob,rfl,hl,hz,il⟩:=yhw (i1.mono p2.ff);rw[Z3 i2];rcases xf (k:=k) (ks:=ks) il with ⟨z,_⟩|⟨d1,v,z1,z2,z3⟩
  ·rw[z] at hv;cases hv
  ·rw[hv] at z1;cases z1;exact⟨l,v,rfl,.inl ⟨_,k,.inr ⟨ob,p2.fh _ _ hl⟩,rfl,by rw[kf,z2]⟩,q v H2 F2 (p1.trans p2) z3⟩⟩⟩
theorem yds {k:List Key}{x1}{tpos:Pos}(hu:X.A.units+64<cLine)(ho:P3 X Γ o (.dt kt ds))(he:PL3 X Γ es (kT k))(hf:P3 X Γ f d')(hz:(kT k).length<=sizeLine:=by first|exact Nat.le_of_ble_eq_true rfl|(simp only[kT,ye,ym,Yq];decide))(m:M2 X o "get" apos (.Tuple es x1 tpos) f cpos:=by exact⟨rfl,rfl,rfl,rfl⟩):P3 X Γ (.Call (.Attribute o "get" apos) [.Tuple es x1 tpos,f] [] cpos) ((vA kt ds k).getD d'):=
 PE.of (Ww (vX hu) ho (UN he) hf m) fun σ H Q ⟨F,fh,sl,q⟩=>⟨F,fh,sl,fun x H1 F1 p1 i1=>by
  obtain⟨l,xs,rfl,hl,hz',il⟩:=yjY i1;have hl1:Rd H1 l (.dT (kt.zip xs)):=JD p1.fh hl;refine⟨l,rfl,.inr ⟨_,hl1⟩,F1,p1.fh,sl.mono p1.ff,fun ys H2 F2 p2 i2=>⟨by rw[i2.len];exact hz,fun t ht=>?_⟩⟩;have pt:=p2.trans (Pur.lay (o:=.tup ys) p2.fh ht);refine⟨_,(Pur.lay p2.fh ht).fh,sl.mono (p1.ff.trans pt.ff),fun u H3 F3 p3 i3=>?_⟩;have et:H3 t=some (.tup (k.map kV)):=by
   have:=vP (ks:=k) i2;rw[←this];exact p3.hh _ _ yL
  refine⟨_,.inr ⟨_,k,t,JD p3.hh (JD pt.hh hl1),rfl,et,rfl⟩,q _ H3 F3 ((p1.trans pt).trans p3) ?_⟩;rw[kf];rcases xf (k:=k) (ks:=kt) (il.mono (pt.ff.trans p3.ff)) with ⟨z1,z2⟩|⟨d1,v,z1,z2,z3⟩
  ·rw[z1,z2];exact i3
  ·rw[z1,z2];exact z3⟩
theorem yiK (h:P3 X Γ a (.dk ks ds)):I3 X Γ tg a (ks.map Zq):=PI.of (yaF h) fun σ H Q ⟨F,fh,sl,q⟩=>⟨F,fh,sl,fun v H' F' p i=>by
 obtain⟨l,xs,ob,rfl,hl,hz,il⟩:=yhw i;refine⟨l,ob,_,rfl,p.fh _ _ hl,q _ H' F' p fun n F2 H2 e1 e2=>⟨fun d w=>?_,fun w=>⟨e2 _ _ (e1 _ _ hl),by rw[YA];rw[ye] at w;omega⟩⟩⟩;rw[al_getElem?_map] at w;obtain⟨k,hk,rfl⟩:=y7.mp w;have hn:n<ks.length:=(al_getElem?_eq_some_iff.mp hk).1;refine⟨⟨e2 _ _ (e1 _ _ hl),by rw[YA];omega⟩,fun x H3 ⟨z,k',v',hkv,ex⟩=>?_⟩;subst z ex;have:k'=k:=by
  rw[al_getElem?_zip_eq_some] at hkv;rw[hk] at hkv;exact(Option.some.inj hkv.1).symm
 subst this;refine⟨F2,Pur.refl e2,?_⟩;cases k' with
 |inl j=>exact QG F2
 |inr y=>exact Wg F2⟩
theorem yd9 (r:∀ l,R (.raw (.ref l)) ((l,oDk X.K [] [])::Ω)):V3 X B (.Dict [] [] pos) Γ Ω R:=fun F σ H S pins s I=>
 ydI pins s σ H _ I fun l hl=>⟨.raw (.ref l),_,F,S.new (Pur.layOwn S.fh hl) hl (S.fh.free hl) yL (fun F2 _=>⟨[],rfl,rfl,IsL.nil⟩),yP.refl _,zl F,r l⟩
theorem yer (r:∀ l,R (.raw (.ref l)) ((l,oDt X.K [] [])::Ω)):V3 X B (.Dict [] [] pos) Γ Ω R:=fun F σ H S pins s I=>
 yeg pins s σ H _ I fun l hl=>⟨.raw (.ref l),_,F,S.new (Pur.layOwn S.fh hl) hl (S.fh.free hl) yL (fun F2 _=>⟨[],rfl,rfl,IsL.nil⟩),yP.refl _,zl F,r l⟩
theorem yiX {k:Key}{l:Addr}(hu:X.A.units+64<cLine)(ho:P3 X Γ o (.raw (.ref l)))(hm:(l,oDk X.K ks ds)∈Ω)(he:P3 X Γ e (Zq k))(hf:P3 X Γ f d')(r:R ((vA ks ds k).getD d') Ω)(m:M2 X o "get" apos e f cpos:=by exact⟨rfl,rfl,rfl,rfl⟩):V3 X B (.Call (.Attribute o "get" apos) [e,f] [] cpos) Γ Ω R:=fun F σ H S pins s I=>
 Ww (vX hu) ho he hf m pins s σ H _ I ⟨F,S.fh,S.sl,fun x H1 F1 p1 i1=>by
  cases isR i1;have S1:=S.pur p1;obtain⟨fa,ob,ha,hob⟩:=S1.own _ hm;obtain⟨xs,rfl,hz,il⟩:=hob F1 (yP.refl _);refine⟨l,rfl,.inl ⟨_,.inl ha⟩,F1,p1.fh,S1.sl,fun y H2 F2 p2 i2=>⟨F2,p2.fh,S1.sl.mono p2.ff,fun u H3 F3 p3 i3=>?_⟩⟩;rw[Z3 i2];have S3:=(S1.pur p2).pur p3;refine⟨_,.inl ⟨_,k,.inl (p3.hh _ _ (p2.hh _ _ ha)),rfl,rfl⟩,_,Ω,F3,S3,p1.ff.trans (p2.ff.trans p3.ff),?_,r⟩;rw[kf];rcases xf (k:=k) (ks:=ks) (il.mono (p2.ff.trans p3.ff)) with ⟨z1,z2⟩|⟨d1,v,z1,z2,z3⟩
  ·rw[z1,z2];exact i3
  ·rw[z1,z2];exact z3⟩
theorem xg {spos tpos:Pos}{l:Addr}{k:Key}(hu:X.A.units+64<cLine)(ho:P3 X Γ o (.raw (.ref l)))(hi:P3 X Γ i (Zq k))
  (h:V3 X B e Γ Ω fun d Ω1=>∃ ks ds Ω4,Ω1.Perm ((l,oDk X.K ks ds)::Ω4)/\ks.length<sizeLine/\W3 X B rest Γ ((l,oDk X.K (pK ks k) (pA ks ds k d))::Ω4) E)
  (hs:swapsWith e (some (.Subscript o i tpos)) spos.line X.env=pure false:=by rfl):W3 X B (.Assign [.Subscript o i tpos] e spos::rest) Γ Ω E:=fun F σ H S pins s I=>
 YX (yaI (vX hu) ho hi Qt hs) qu pins s σ H _ I ((h F σ H S).mono fun v H1 ⟨d,Ω1,F1,S1,f1,i1,ks,ds,Ω4,pm,hz,h1⟩=>⟨F1,S1.fh,S1.sl,fun x H2 F2 p2 i2=>⟨F2,p2.fh,S1.sl.mono p2.ff,fun y H3 F3 p3 i3=>by
  cases isR i2;rw[Z3 i3];have S3:=((S1.pur p2).pur p3).perm pm.symm;obtain⟨fa,ob,ha,hob⟩:=S3.own (l,oDk X.K ks ds) (by simp);obtain⟨xs,rfl,hl,il⟩:=hob F3 (yP.refl _);refine⟨l,_,rfl,WA.k ha (by rw[YA];omega),Y3 (f1.trans (p2.ff.trans p3.ff)) (h1 F3 σ _ ?_)⟩;rw[Wv hl];exact S3.turn fun F5 e5=>⟨_,rfl,Vn hl,yg3 (il.mono e5) (i1.mono (p2.ff.trans (p3.ff.trans e5)))⟩⟩⟩)
theorem ycA {spos tpos kpos:Pos}{x1}{l:Addr}{k:List Key}(hu:X.A.units+64<cLine)(ho:V3 X B o Γ Ω fun dq Ω1=>dq=.raw (.ref l)/\Ω1=Ω)(hi:PL3 X Γ es (kT k))
  (h:P3 X Γ e d) {kt:List (List Key)} {ds:List D} {Ω4:Om} (pm:Ω.Perm ((l,oDt X.K kt ds)::Ω4)) (hz:kt.length<sizeLine) (hw:W3 X B rest Γ ((l,oDt X.K (pK kt k) (pA kt ds k d))::Ω4) E) (hk:(kT k).length<=sizeLine:=by first|exact Nat.le_of_ble_eq_true rfl|(simp only[kT,ye,ym,Yq];decide))
  (hs:swapsWith e (some (.Subscript o (.Tuple es x1 kpos) tpos)) spos.line X.env=pure false:=by rfl):W3 X B (.Assign [.Subscript o (.Tuple es x1 kpos) tpos] e spos::rest) Γ Ω E:=fun F σ H S pins s I=>
 YX (yaI (vX hu) Qt (UN hi) h hs) qu pins s σ H _ I ⟨F,S.fh,S.sl,fun v H1 F1 p1 i1=>(ho F1 σ H1 (S.pur p1)).mono fun x H2 ⟨dq,Ω1,F2,S2,f2,i2,e2,e3⟩=>by
  subst e2 e3;cases isR i2;refine⟨F2,S2.fh,S2.sl,fun ys H3 F3 p3 i3=>⟨by rw[i3.len];exact hk,fun t ht=>?_⟩⟩;have pt:=p3.trans (Pur.lay (o:=.tup ys) p3.fh ht);have S3:=(S2.pur pt).perm pm.symm;obtain⟨fa,ob,ha,hob⟩:=S3.own (l,oDt X.K kt ds) (by simp);obtain⟨xs,rfl,hl,il⟩:=hob _ (yP.refl _);have et:upd H3 t (.tup ys) t=some (.tup (k.map kV)):=by
   rw[←vP (ks:=k) i3];exact yL
  refine⟨l,_,rfl,WA.t ha et (by rw[YA];omega),Y3 (p1.ff.trans (f2.trans pt.ff)) (hw _ σ _ ?_)⟩;rw[Wv hl];exact S3.turn fun F5 e5=>⟨_,rfl,Vn hl,yg3 (il.mono e5) (i1.mono (f2.trans (pt.ff.trans e5)))⟩⟩
theorem yd4 {sts:List Stmt}{i:Nat}{l:Addr}(hΓ:Γ[i]?=some (some (.raw (.ref l))))(h:W3 X B sts (Γ.set i (some (.dk ks ds))) Ω E):W3 X B sts Γ ((l,oDk X.K ks ds)::Ω) E:=fun F σ H S pins s I=>by
 obtain⟨v,e1,e2⟩:=S.sl i _ hΓ;cases isR e2;obtain⟨fa,o0,ha,ho⟩:=S.own (l,oDk X.K ks ds) (by simp);obtain⟨xs,rfl,hl,il⟩:=ho F (yP.refl _);have nin:=(yK.mp S.nd).1;obtain⟨ob,hob⟩:=(I.hok l _ ha).there;have w:yP F (upd F l (.frz ob (.dK (ks.zip xs)))):=fun b u q=>by rw[yO (y6 q fa)];exact q
 refine Y3 w (h (upd F l (.frz ob (.dK (ks.zip xs)))) σ (upd H l (.frz ob (.dK (ks.zip xs)))) ⟨S.f0.trans w,fun b u q=>?_,fun b q=>?_,fun b u hb q=>?_,(yK.mp S.nd).2,fun q hq=>S.od q (yf _ hq),fun q hq=>?_,fun j d q=>?_⟩) pins s (I.known ha rfl hob)
 ·by_cases hb:b=l
  ·subst hb;rw[yL] at q ⊢;exact q
  ·rw[yO hb] at q ⊢;exact S.fh _ _ q
 ·by_cases hb:b=l
  ·subst hb;exact(S.od (b,oDk X.K ks ds) (by simp)).elim (fun z=>.inr (.inr z)) fun z=>.inr (.inl z)
  ·rw[yO hb] at q;exact S.fr b q
 ·by_cases z:b=l
  ·subst z;rcases S.od (b,oDk X.K ks ds) (by simp) with y|y
   ·exact absurd y hb
   ·have y':B.H b=none:=y;rw[y'] at q;cases q
  ·rw[yO z];exact S.kp b u hb q
 ·obtain⟨h1,o',h2,h3⟩:=S.own q (yf _ hq);have ne:q.1≠l:=fun e=>nin (yo.mpr ⟨q,hq,e⟩);exact⟨by rw[yO ne];exact h1,o',by rw[yO ne];exact h2,fun F2 e=>h3 F2 (w.trans e)⟩
 ·by_cases hj:i=j
  ·subst hj;rw[al_getElem?_set] at q;split at q
   ·split at q
    ·cases q;exact⟨_,e1,by simp only[Is];exact⟨l,xs,ob,rfl,yL,hl,il.mono w⟩⟩
    ·cases q
   ·contradiction
  ·rw[al_getElem?_set_ne hj] at q;obtain⟨u,h1,h2⟩:=S.sl j d q;exact⟨u,h1,h2.mono w⟩
theorem yhq {sts:List Stmt}{i:Nat}{l:Addr}(hΓ:Γ[i]?=some (some (.raw (.ref l))))(h:W3 X B sts (Γ.set i (some (.dt kt ds))) Ω E):W3 X B sts Γ ((l,oDt X.K kt ds)::Ω) E:=fun F σ H S=>by
 obtain⟨v,e1,e2⟩:=S.sl i _ hΓ;cases isR e2;obtain⟨fa,o0,ha,ho⟩:=S.own (l,oDt X.K kt ds) (by simp);obtain⟨xs,rfl,hl,il⟩:=ho F (yP.refl _);have nin:=(yK.mp S.nd).1;have w:yP F (upd F l (.dT (kt.zip xs))):=fun b u q=>by rw[yO (y6 q fa)];exact q
 refine Y3 w (h (upd F l (.dT (kt.zip xs))) σ H ⟨S.f0.trans w,fun b u q=>?_,fun b q=>?_,S.kp,(yK.mp S.nd).2,fun q hq=>S.od q (yf _ hq),fun q hq=>?_,fun j d q=>?_⟩)
 ·by_cases hb:b=l
  ·subst hb;rw[yL] at q;cases q;exact ha
  ·rw[yO hb] at q;exact S.fh _ _ q
 ·by_cases hb:b=l
  ·subst hb;exact(S.od (b,oDt X.K kt ds) (by simp)).elim (fun z=>.inr (.inr z)) fun z=>.inr (.inl z)
  ·rw[yO hb] at q;exact S.fr b q
 ·obtain⟨h1,o',h2,h3⟩:=S.own q (yf _ hq);have ne:q.1≠l:=fun e=>nin (yo.mpr ⟨q,hq,e⟩);exact⟨by rw[yO ne];exact h1,o',h2,fun F2 e=>h3 F2 (w.trans e)⟩
 ·by_cases hj:i=j
  ·subst hj;rw[al_getElem?_set] at q;split at q
   ·split at q
    ·cases q;exact⟨_,e1,by simp only[Is];exact⟨l,xs,rfl,.inl yL,hl,il.mono w⟩⟩
    ·cases q
   ·contradiction
  ·rw[al_getElem?_set_ne hj] at q;obtain⟨u,h1,h2⟩:=S.sl j d q;exact⟨u,h1,h2.mono w⟩
end
theorem yd2:∀ {ks:List Key} {xs:List V} {us:List Value},YQ xs us->KV (ks.zip xs) (ks.zip us)
 |[],_,_,_=>.nil
 |k::ks,_,_,.nil=>.nil
 |k::ks,_,_,.cons r t=>by
  rw[yM,yM];exact .cons ⟨rfl,r⟩ (yd2 t)
section
variable {X:Cx}{Γ:Ga}{ds:List D}{ks:List Key}{pos p pos' p':Pos}{a b:Expr}
theorem yb2 (hc:X.calm=true)(hm:X.mg "dict" = none)(hg:Gl X "dict")(hm2:X.mg "zip" = none)(hg2:Gl X "zip")(ha:P3 X Γ a (.lst (ks.map Zq)))(hb:P3 X Γ b (.lst ds))(hn:ks.Nodup)(hl:ks.length=ds.length)(hz:ks.length<=sizeLine)(hs:starEach [a,b] X.env=[(false,eval a X.env),(false,eval b X.env)]:=by rfl)(hs2:starEach [b] X.env=[(false,eval b X.env)]:=by rfl)
  (he:starEach [.Call (.Name "zip" p') [a,b] [] pos'] X.env=(false,eval (.Call (.Name "zip" p') [a,b] [] pos') X.env)::starEach [] X.env:=by rfl):P3 X Γ (.Call (.Name "dict" p) [.Call (.Name "zip" p') [a,b] [] pos'] [] pos) (.dk ks ds):=by
 intro pins s σ H Q I ⟨F,fh,sl,q⟩;have pl:=yd ha (yd hb yt hs2) (hs.trans (by rw[hs2]));refine wpAny_Call_Name_kw (Zl I hg hm yfE (PyProof.Rows.callWith_type1 ?_ he));rw[he];show wpAny _ _ (spliced ((false,eval (.Call (.Name "zip" p') [a,b] [] pos') X.env)::backTo pos (starEach [] X.env))) _ _ s;refine Calls.spliced_cons (Call_ (Zl I hg2 hm2 boot_zip (PyProof.Rows.callWith_type1 (thn (pl pos' pins s σ H (fun vs H'=>∃ F',Pur F H F' H'/\IsL X.K F' [.lst (ks.map Zq),.lst ds] vs) I ⟨F,fh,sl,fun vs H' F' pu iv=>⟨F',pu,iv⟩⟩) fun us s1 ⟨vs,H1,I1,r1,q1⟩=>?_) (by rw[hs,hs2]) (by rw[hs2];rfl))));obtain⟨F1,pu,iv⟩:=q1;obtain⟨x,y,rfl,j0,j00⟩:=yfY iv;obtain⟨l1,xs,rfl,s1',j1⟩:=jn j0;obtain⟨l2,ys,rfl,s2',j2⟩:=jn j00;have ek:=vP j1;subst ek;cases r1 with
 |cons r rr=>
  cases rr with
  |cons r' rr=>
   cases rr;cases r;cases r';obtain⟨its1,rv1,p1,z1⟩:=I1.list (pu.fh.seq s1');obtain⟨its2,rv2,p2,z2⟩:=I1.list (pu.fh.seq s2');have lt1:l1<s1.heap.objs.size:=by obtain⟨_,e,_⟩:=p1.isList;exact yi e
   have lt2:l2<s1.heap.objs.size:=by obtain⟨_,e,_⟩:=p2.isList;exact yi e
   have L1:=rv1.length;rw[ye] at L1;have L2:=rv2.length;have L3:=j2.len;refine call_zip_2 p1.isList p2.isList fun g g1 g2 g3 g4 g5 sz kp=>?_;have e5:({s1 with heap:=g}:Shared).heap.objs.size=s1.heap.objs.size+5:=sz;have ge:s1.heap.objs.size<=g.objs.size:=by rw[sz];omega
   refine Calls.spliced_nil (UW (knd:=qw X.prog X.w) (xs:=its1.toArray) (ys:=its2.toArray) (ks:=ks) (zipApart_new lt1 lt2) (I1.ok.hd hc) (by simp;omega) (by simp;omega) hn hz (fun j k e=>?_) ⟨_,_,g1,.inl ⟨rfl,rfl⟩,⟨g2,g4,g5,p1.isList.at fun o e=>kp _ o e,p2.isList.at fun o e=>kp _ o e⟩,_,_,g3⟩ fun g' tk d' f'=>?_)
   ·obtain⟨u,e1,e2⟩:=rv1.get (i:=j) (x:=kV k) (by rw[al_getElem?_map,e];rfl);exact⟨u,by simpa using e1,KG e2⟩
   ·have fresh:H1 g.objs.size=none:=I1.hok.fresh ge;have kp':∀ b o,s1.heap.get? b=some o->g'.get? b=some o:=fun b o e=>by
     have:=yi e;exact f' b o (yR (Nat.lt_add_right 4 this)) (yR (Nat.lt_add_right 3 this)) (yR this) (yR (Nat.lt_add_right 1 this)) (kp b o e)
    have hsm:(g.objs.size==sysModules)=false:=beq_eq_false_iff_ne.mpr (Ne.symm (yR (yH I1.big ge)));have I2:Inv X pins σ (upd H1 g.objs.size (.dK (ks.zip ys))) {s1 with heap:=g',toks:=tk}:=I1.laid (t':=tk) kp' ge ⟨by rw[YA];omega,hsm,_,yd2 rv2,d'⟩;obtain⟨ob,_,_,hob,_⟩:=id d';have I3:=I2.known yL rfl hob;have eu:upd (upd H1 g.objs.size (.dK (ks.zip ys))) g.objs.size (.frz ob (.dK (ks.zip ys)))=upd H1 g.objs.size (.frz ob (.dK (ks.zip ys))):=by
     funext c;by_cases hcc:c=g.objs.size
     ·subst hcc;rw[yL,yL]
     ·rw[yO hcc,yO hcc,yO hcc]
    rw[eu] at I3;refine⟨.ref g.objs.size,_,I3,rfl,q _ _ _ (pu.trans (Pur.lay pu.fh fresh)) ?_⟩;simp only[Is];exact⟨_,ys,ob,rfl,yL,by omega,j2.mono (Pur.lay pu.fh fresh).ff⟩
end
theorem yfZ {K:W.Frag}{kt:List (List Key)}{ds:List D}{L:Bool}:∀ F o,oDt K kt ds F o->JM L o=true:=fun F o ⟨xs,e,_⟩=>by subst e;rfl
def yaM (K:W.Frag)(B:Bs)(Ω:Om)(Γ Γ':Ga):Prop:=∀ F σ H,Sat K B Γ Ω F σ H->Sl K (Ze Ω F H) Γ' σ
theorem IsL.same {K:W.Frag}{F:Hp}{ds:List D}{xs:List V}{j:Nat}{b:Addr}(il:IsL K F ds xs)(hj:ds[j]?=some (.raw (.ref b))):xs.set j (V.ref b)=xs:=by
 obtain⟨x,hx,ix⟩:=il.get hj;rw[isR ix] at hx;refine al_ext_getElem? fun i=>?_;rw[al_getElem?_set];split
 ·rename_i e;subst e;rw[yc (al_getElem?_eq_some_iff.mp hx).1,hx]
 ·rfl
section
variable {K:W.Frag}{B:Bs}{Γ Γ':Ga}{Ω:Om}{C:Addr}{fs:List Str}{ds vs:List D}{kt:List (List Key)}{a b:Addr}{i j:Nat}
theorem WQ (h:Xq K Ω Γ Γ'):yaM K B Ω Γ Γ':=fun F σ H S=>S.lent h
theorem uv (h:yaM K B Ω Γ Γ')(hi:Γ[i]?=some (some (.raw (.ref a))))(ha:(a,jT K C fs ds)∈Ω)(hj:ds[j]?=some (.raw (.ref b)))(hb:(b,oDt K kt vs)∈Ω):yaM K B Ω Γ (Γ'.set i (some (.obj C fs (ds.set j (.dt kt vs))))):=fun F σ H S n d q=>by
 rw[al_getElem?_set] at q;by_cases hn:i=n
 ·rw[yc hn] at q;split at q
  ·cases q;subst hn;obtain⟨v,e1,e2⟩:=S.sl i _ hi;cases isR e2;obtain⟨fa,o,h1,h2⟩:=S.own _ ha;obtain⟨dx,xs,rfl,hl,il⟩:=h2 F (yP.refl _);obtain⟨fb,o',h3,h4⟩:=S.own _ hb;obtain⟨ys,rfl,hl',il'⟩:=h4 F (yP.refl _);refine⟨_,e1,?_⟩;have ea:Ze Ω F H a=some (.ins C dx (fs.zip xs)):=by unfold Ze;rw[yc (yo.mpr ⟨_,ha,rfl⟩)];exact h1
   have eb:Ze Ω F H b=some (.dT (kt.zip ys)):=by unfold Ze;rw[yc (yo.mpr ⟨_,hb,rfl⟩)];exact h3
   have ib:Is K (Ze Ω F H) (.dt kt vs) (.ref b):=by
    simp only[Is];exact⟨b,ys,rfl,.inl eb,hl',il'.mono S.addSame⟩
   have:=(il.mono S.addSame).set j ib;rw[il.same hj] at this;simp only[Is];exact⟨a,dx,xs,rfl,ea,hl,this⟩
  ·cases q
 ·rw[yb hn] at q;exact h F σ H S n d q
theorem Sat.freezeF {F:Hp}{σ:L2.St}{H:Hp}(hj:ds[j]?=some (.raw (.ref b)))(S:Sat K B Γ ((a,jT K C fs ds)::(b,oDt K kt vs)::Ω) F σ H):∃ F',Sat K B Γ ((a,jT K C fs (ds.set j (.dt kt vs)))::Ω) F' σ H/\yP F F':=by
 have S1:Sat K B Γ ((b,oDt K kt vs)::(a,jT K C fs ds)::Ω) F σ H:=S.perm (List.Perm.swap ..);obtain⟨fa,o0,ha,ho⟩:=S1.own (b,oDt K kt vs) (by simp);obtain⟨xs,rfl,hl,il⟩:=ho F (yP.refl _);have nin:=(yK.mp S1.nd).1;have w:yP F (upd F b (.dT (kt.zip xs))):=fun c u q=>by rw[yO (y6 q fa)];exact q
 have ib:Is K (upd F b (.dT (kt.zip xs))) (.dt kt vs) (.ref b):=by
  simp only[Is];exact⟨b,xs,rfl,.inl yL,hl,il.mono w⟩
 refine⟨upd F b (.dT (kt.zip xs)),⟨S1.f0.trans w,fun c u q=>?_,fun c q=>?_,S1.kp,(yK.mp S1.nd).2,fun q hq=>?_,fun q hq=>?_,S1.sl.mono w⟩,w⟩
 ·by_cases hb:c=b
  ·subst hb;rw[yL] at q;cases q;exact ha
  ·rw[yO hb] at q;exact S1.fh _ _ q
 ·by_cases hb:c=b
  ·subst hb;exact(S1.od (c,oDt K kt vs) (by simp)).elim (fun z=>.inr (.inr z)) fun z=>.inr (.inl z)
  ·rw[yO hb] at q;exact S1.fr c q
 ·rcases yA.mp hq with z|z
  ·subst z;exact S1.od (a,jT K C fs ds) (by simp)
  ·exact S1.od q (yf _ (yf _ z))
 ·rcases yA.mp hq with z|z
  ·subst z;obtain⟨h1,o',h2,h3⟩:=S1.own (a,jT K C fs ds) (by simp);have ne:a≠b:=fun e=>nin (by simp[e]);refine⟨by rw[yO ne];exact h1,o',h2,fun F2 e=>?_⟩;obtain⟨dx,ys,rfl,hl',il'⟩:=h3 F2 (w.trans e);refine⟨dx,ys,rfl,hl',?_⟩;have:=il'.set j (ib.mono e)
   rwa [il'.same hj] at this
  ·obtain⟨h1,o',h2,h3⟩:=S1.own q (yf _ (yf _ z));have ne:q.1≠b:=fun e=>nin (yo.mpr ⟨q,yf _ z,e⟩);exact⟨by rw[yO ne];exact h1,o',h2,fun F2 e=>h3 F2 (w.trans e)⟩
end
section
variable {X:Cx}{B:Bs}{Γ Γ':Ga}{Ω:Om}{E:E3}{sts:List Stmt}{e tg:Expr}{d:D}{k:Bool}{R:D->Om->Prop}{RT:Bool->Om->Prop}{RL:List D->Om->Prop}{L:Bool}{C:Addr}{fs:List Str}{ds vs:List D}{kt:List (List Key)}{a b:Addr}{j:Nat}{pos:Pos}
theorem yaf (h:P3 X Γ' e d)(hl:yaM X.K B Ω Γ Γ')(hd:Xe L Ω)(hs:JI L d=true)(r:R d Ω):V3 X B e Γ Ω R:=fun F σ H S=>
 h.we ⟨Ze Ω F H,S.addSub,hl F σ H S,fun v H' F' p i=>⟨d,Ω,vB Ω F',S.pur (S.back p),(S.back p).ff,XG (S.hard hd p) hs i,r⟩⟩
theorem yir (hj:ds[j]?=some (.raw (.ref b)))(h:W3 X B sts Γ ((a,jT X.K C fs (ds.set j (.dt kt vs)))::Ω) E):W3 X B sts Γ ((a,jT X.K C fs ds)::(b,oDt X.K kt vs)::Ω) E:=fun F σ H S=>by
 obtain⟨F',S',f⟩:=S.freezeF hj;exact Y3 f (h F' σ H S')
theorem yfw (h:V3 X B e Γ Ω fun d Ω1=>∃ ks ds,d=.dk ks ds/\RL (ks.map Zq) Ω1):IV3 X B tg e Γ Ω RL:=fun F σ H S pins s I=>
 yaF Qt pins s σ H _ I ((h F σ H S).mono fun v H1 ⟨d,Ω1,F1,S1,f1,i1,ks,ds,ed,r⟩=>by
  subst ed;obtain⟨l,xs,ob,rfl,hl,hz,il⟩:=yhw i1;refine⟨l,ob,_,rfl,S1.fh _ _ hl,_,Ω1,F1,S1,f1,fun n F2 H2 e1 e2=>⟨fun d w=>?_,fun w=>⟨e2 _ _ (e1 _ _ hl),by rw[YA];rw[ye] at w;omega⟩⟩,r⟩;rw[al_getElem?_map] at w;obtain⟨k,hk,rfl⟩:=y7.mp w;have hn:n<ks.length:=(al_getElem?_eq_some_iff.mp hk).1;refine⟨⟨e2 _ _ (e1 _ _ hl),by rw[YA];omega⟩,fun x H3 ⟨z,k',v',hkv,ex⟩=>?_⟩;subst z ex;have:k'=k:=by
   rw[al_getElem?_zip_eq_some] at hkv;rw[hk] at hkv;exact(Option.some.inj hkv.1).symm
  subst this;refine⟨F2,Pur.refl e2,?_⟩;cases k' with
  |inl j=>exact QG F2
  |inr y=>exact Wg F2)
end
def spS {τ:Type}(K:W.Frag)(n:Nat)(om:τ->Om)(C:τ->List D->τ->D->Prop):Sp:=fun vs H Q _=>∃ t ds t' d F,C t ds t' d/\ds.length=n/\yP F H/\IsL K F ds vs/\((om t).map (·.1)).Nodup/\(∀ p∈om t,F p.1=none/\∃ o,H p.1=some o/\∀ F',yP F F'->p.2 F' o)/\
 ∀ v H' F',yP F F'->yP F' H'->(∀ b o,b∉(om t).map (·.1)->H b=some o->H' b=some o)->(∀ b,F' b≠none->F b≠none∨H b=none)->(∀ p∈om t',F' p.1=none/\∃ o,H' p.1=some o/\∀ F2,yP F' F2->p.2 F2 o)->Is K F' d v->Q v H'
theorem spS.len {τ:Type}{K:W.Frag}{n:Nat}{om:τ->Om}{C:τ->List D->τ->D->Prop}{vs:List V}{H:Hp}{Q:VK}{E:XK}(h:spS K n om C vs H Q E):vs.length=n:=by
 obtain⟨t,ds,t',d,F,_,l,_,i,_⟩:=h;rw[i.len,l]
section
variable {τ:Type}{om:τ->Om}{C:τ->List D->τ->D->Prop}
variable {X:Cx}{B:Bs}{Γ:Ga}{Ω Ω4:Om}{e o:Expr}{es:List Expr}{d:D}{ds gs:List D}{n k:Nat}{Cc a:Addr}{fs:List Str}{m:Str}{ps:List Str}{pos apos:Pos}{R:D->Om->Prop}{t t':τ}
theorem vf {pl:Sem Bool}(ok:OkM X.prog X.w X.K X.mg X.base CX0 k Cc m ps (spS X.K n om C))(c:Cls X.K Cc)(hr:Room k X.A)(ho:P3 X Γ o (.raw (.ref a)))(hin:(a,jT X.K Cc fs gs)∈Ω)(hf:m∉fs)(ha:PL3 X Γ (e::es) ds)(hm:(om t').map (·.1)=(om t).map (·.1))(pm:Ω.Perm (om t++Ω4))(hC:C t (.raw (.ref a)::ds) t' d)(r:R d (om t'++Ω4))(hn:ds.length+1=n:=by rfl)
  (hst:starEach (e::es) X.env=(false,eval e X.env)::starEach es X.env:=by rfl) (hpl:(backTo pos (starEach es X.env)).any (·.1)=false:=by rfl)
  (ht:eval (.Call (.Attribute o m apos) (e::es) [] pos) X.env=(do
   let ov ←eval o X.env
   standAt apos.atName
   let (f,first) ←holding [ov] (getMethod ov m pl)
   callWith pos f first (backTo pos (starEach (e::es) X.env)) (backToKw pos (keywordEach [] X.env))):=by rfl):V3 X B (.Call (.Attribute o m apos) (e::es) [] pos) Γ Ω R:=fun F σ H S pins s I=>by
 obtain⟨f,fd,Fn,hM,hb⟩:=ok;refine yaV (pl:=pl) ho c hM Fn hr hb .nil VO ha hst hpl ht pins s σ H _ I ⟨F,S.fh,S.sl,fun v H1 F1 p1 i1=>?_⟩;cases isR i1;have S1:=S.pur p1;obtain⟨fa,o1,ha1,ho1⟩:=S1.own _ hin;obtain⟨dx,xs,rfl,hl,il⟩:=ho1 F1 (yP.refl _);refine⟨a,dx,_,rfl,ha1,zD hf,F1,p1.fh,S1.sl,fun us H2 F2 p2 i2=>?_⟩;dsimp only;rw[Yl];have S2:=(S1.pur p2).perm pm.symm;have nd2:=S2.nd;rw[yr] at nd2;have nds:=Yd.mp nd2;refine⟨t,.raw (.ref a)::ds,t',d,F2,hC,by rw[ym];exact hn,S2.fh,IsL.cons (zl F2) i2,nds.1,fun p hp=>S2.own p (y8 _ hp),fun v H' F' g1 g2 g3 g4 g5 iv=>⟨d,om t'++Ω4,F',?_,p1.ff.trans (p2.ff.trans g1),iv,r⟩⟩;refine⟨S2.f0.trans g1,g2,fun b hb=>?_,fun b o hb e=>?_,?_,fun p hp=>?_,fun p hp=>?_,S2.sl.mono g1⟩
 ·rcases g4 b hb with z|z
  ·exact S2.fr b z
  ·exact(S2.freeB z).elim (fun w=>.inr (.inl w)) fun w=>.inr (.inr w)
 ·refine g3 b o (fun z=>?_) (S2.kp b o hb e);obtain⟨p,hp,rfl⟩:=yo.mp z;rcases S2.od p (y8 _ hp) with z|z
  ·exact hb z
  ·have z':B.H p.1=none:=z;rw[z'] at e;cases e
 ·rw[yr,hm,←yr];exact S2.nd
 ·rcases yY.mp hp with z|z
  ·have:p.1∈(om t).map (·.1):=by rw[←hm];exact yo.mpr ⟨p,z,rfl⟩
   obtain⟨p',hp',e⟩:=yo.mp this;rw[←e];exact S2.od p' (y8 _ hp')
  ·exact S2.od p (yN _ z)
 ·rcases yY.mp hp with z|z
  ·exact g5 p z
  ·obtain⟨h1,o2,h2,h3⟩:=S2.own p (yN _ z);have nin:p.1∉(om t).map (·.1):=fun y=>nds.2.2 _ y _ (yo.mpr ⟨p,z,rfl⟩) rfl;refine⟨?_,o2,g3 _ _ nin h2,fun F3 e3=>h3 F3 (g1.trans e3)⟩;cases zz:F' p.1 with
   |none=>rfl
   |some u=>
    rcases g4 p.1 (by rw[zz];simp) with y|y
    ·exact absurd h1 y
    ·rw[h2] at y;cases y
end
end L3
namespace My
theorem mul_num (p q:Rat):(p*q).num=p.num / ((p.num.natAbs.gcd q.den:Nat):Int)*(q.num / ((q.num.natAbs.gcd p.den:Nat):Int)):=by
 show(Rat.mul p q).num=_;unfold Rat.mul;simp only[Int.divExact_eq_ediv]
theorem mul_den (p q:Rat):(p*q).den=q.den / p.num.natAbs.gcd q.den*(p.den / q.num.natAbs.gcd p.den):=by
 show(Rat.mul p q).den=_;unfold Rat.mul;simp only[Nat.divExact_eq_div,Q7]
theorem ygz {n1 d1 n2 d2:Nat}(h1:Nat.Coprime n1 d1)(h2:Nat.Coprime n2 d2)(p1:0<d1)(p2:0<d2) :
  Nat.gcd (n1*d2+n2*d1) (d1*d2)=Nat.gcd d1 d2*Nat.gcd (n1*(d2 / Nat.gcd d1 d2)+n2*(d1 / Nat.gcd d1 d2)) (Nat.gcd d1 d2):=by
 have g0:0<Nat.gcd d1 d2:=Nat.gcd_pos_of_pos_left _ p1;generalize hg:Nat.gcd d1 d2=g at *;obtain⟨e1,rfl⟩:g ∣ d1:=hg▸Nat.gcd_dvd_left _ _;obtain⟨e2,rfl⟩:g ∣ d2:=hg▸Nat.gcd_dvd_right _ _;have ce:Nat.Coprime e1 e2:=by
  rw[Nat.gcd_mul_left] at hg;exact Nat.eq_of_mul_eq_mul_left g0 (by rw[hg,Nat.mul_one])
 rw[YN _ g0,YN _ g0];have a1:Nat.Coprime e1 (n1*e2+n2*e1):=by
  show Nat.gcd e1 (n1*e2+n2*e1)=1;rw[Q7 n2 e1,Nat.gcd_add_mul_left_right];exact Nat.Coprime.mul_right ((h1.coprime_dvd_right ⟨g,Q7 _ _⟩).symm) ce
 have a2:Nat.Coprime e2 (n1*e2+n2*e1):=by
  show Nat.gcd e2 (n1*e2+n2*e1)=1;rw[Nat.add_comm,Q7 n1 e2,Nat.gcd_add_mul_left_right];exact Nat.Coprime.mul_right ((h2.coprime_dvd_right ⟨g,Q7 _ _⟩).symm) ce.symm
 rw[show n1*(g*e2)+n2*(g*e1)=g*(n1*e2+n2*e1) by grind,show g*e1*(g*e2)=g*(e1*(e2*g)) by grind,Nat.gcd_mul_left,a1.gcd_mul_left_cancel_right,a2.gcd_mul_left_cancel_right]
theorem add_num {p q:Rat}(hp:0<=p.num)(hq:0<=q.num):(p+q).num=(p.num*(q.den / G p.den q.den)+q.num*(p.den / G p.den q.den)) / G (p.num*(q.den / G p.den q.den)+q.num*(p.den / G p.den q.den)) (G p.den q.den)/\
  ((p+q).den:Int)=p.den / G p.den q.den*(q.den / G (p.num*(q.den / G p.den q.den)+q.num*(p.den / G p.den q.den)) (G p.den q.den)):=by
 obtain⟨n1,e1⟩:=Yz hp;obtain⟨n2,e2⟩:=Yz hq;have c1:Nat.Coprime n1 p.den:=by have:=p.reduced;rw[e1] at this;exact this
 have c2:Nat.Coprime n2 q.den:=by have:=q.reduced;rw[e2] at this;exact this
 have d1:=p.den_pos;have d2:=q.den_pos;rw[Rat.num_add,Rat.den_add,e1,e2];generalize p.den=b1 at *;generalize q.den=b2 at *;have gg:=ygz c1 c2 d1 d2;have g0:0<Nat.gcd b1 b2:=Nat.gcd_pos_of_pos_left _ d1;have hG:G (b1:Int) b2=((Nat.gcd b1 b2:Nat):Int):=rfl;have hN:((n1:Int)*b2+n2*b1)=((n1*b2+n2*b1:Nat):Int):=by push_cast;rfl
 have ht:(n1:Int)*((b2:Int) / G b1 b2)+n2*((b1:Int) / G b1 b2)=((n1*(b2 / Nat.gcd b1 b2)+n2*(b1 / Nat.gcd b1 b2):Nat):Int):=by rw[hG];push_cast;rfl
 rw[ht,hG];rw[hN,qm,gg];generalize hgv:Nat.gcd b1 b2=g at *;obtain⟨e1',rfl⟩:g ∣ b1:=hgv▸Nat.gcd_dvd_left _ _;obtain⟨e2',rfl⟩:g ∣ b2:=hgv▸Nat.gcd_dvd_right _ _;rw[YN _ g0,YN _ g0];generalize hl:Nat.gcd (n1*e2'+n2*e1') g=l;have l0:0<l:=hl▸Nat.gcd_pos_of_pos_right _ g0;have hGl:G ((n1*e2'+n2*e1':Nat):Int) (g:Int)=(l:Int):=by rw[←hl];rfl
 obtain⟨m,hm⟩:l ∣ g:=hl▸Nat.gcd_dvd_right _ _;rw[hGl];constructor
 ·rw[show n1*(g*e2')+n2*(g*e1')=g*(n1*e2'+n2*e1') by grind,←qQ,←qQ,Nat.mul_div_mul_left _ _ g0]
 ·subst hm;rw[←qQ,←qQ,←QB];congr 1;rw[YN _ g0,show l*m*e1'*(l*m*e2')=(l*m*l)*(e1'*(m*e2')) by grind,YN _ (Nat.mul_pos g0 l0),show l*m*e2'=l*(m*e2') by grind,YN _ l0]
end My
namespace L3
open PySem PySem.Spec PySem.Calls PyProof.Rows L2
theorem Kh {a g:Int}(h:0<=a)(hg:0<g):0<=a / g/\a / g<=a:=⟨Int.ediv_nonneg h (yx hg),Int.ediv_le_self _ h⟩
theorem Zh {a b:Int}{n:Nat}(h:0<=b/\b<=a)(ha:a.natAbs<2 ^ n):b.natAbs<2 ^ n:=by omega
theorem vH {m n:Nat}(h:m<=n):2 ^ m<=2 ^ n:=YC (by decide) h
theorem yhz (p q:Rat):sh (p*q)=D.tup [D.int ((Rat.divInt p.num q.den).num*(Rat.divInt q.num p.den).num),D.int (((Rat.divInt p.num q.den).den:Int)*((Rat.divInt q.num p.den).den:Int))]:=by
 unfold sh;rw[My.mul_num,My.mul_den,←My.num_share (My.den_pos' q),←My.num_share (My.den_pos' p),←My.den_share (My.den_pos' q),←My.den_share (My.den_pos' p),QB,qQ,qQ,
  yT _ (yx (My.G_pos (My.den_pos' q))),yT _ (yx (My.G_pos (My.den_pos' p))),yT _ (yx (My.G_pos (My.den_pos' q))),yT _ (yx (My.G_pos (My.den_pos' p)))]
 rfl
theorem Vq {q:Rat}(h:0<q):q⁻¹.num=(q.den:Int)/\(q⁻¹.den:Int)=q.num:=by
 have hp:=My.q_num_pos h;rw[Rat.num_inv,Rat.den_inv];constructor
 ·rw[Int.sign_eq_one_of_pos hp,Int.one_mul]
 ·rw[yb (by omega)];omega
theorem yiH {q:Rat}(h:0<q):sh q⁻¹=D.tup [D.int (q.den:Int),D.int q.num]:=by
 unfold sh;rw[(Vq h).1,(Vq h).2]
theorem yiB {q:Rat}{n:Nat}(h:0<q)(s:Sz n q):Sz n q⁻¹:=by
 have e:=Vq h;have hp:=My.q_num_pos h;obtain⟨s1,s2⟩:=s;refine⟨?_,?_⟩
 ·rw[e.1];exact s2
 ·have:=e.2;omega
def v5 (K:W.Frag):Sp:=fun vs H Q _=>∃ (a:Addr) (ns:List Int),vs=[.ref a]/\SqL K H a (ns.map V.int)/\ns.length<=63/\∀ H',Q (.bl true) H'
theorem yf8 {P:Program}{w:World}{K:W.Frag}{mg:Str->Option Value}{base:Heap}{f:Addr}{fd:FuncData}{st:Stmt}{N:List Str}{k:Nat}{x:Str}(F:Fun K "law" "law" st f fd)(S:FnScope N [x] (yj st))
  (body:∀ (cdv:Value) (A:Around) (outer:List Env) (s:Shared) (H:Hp) (E:XK),Room k (A.deeper (envOfC "law" (yj st) s.heap.objs.size f cdv))->∀ (ns:List Int),ns.length<=63->∀ B:Bs,B.M=[]->
   W3 (cx0 P w K mg base N "law" st f cdv A outer s H E) B (YR st) (Ql N [.scr ns]) [] ⟨fun _ _=>False,fun r _=>r=.bl true,fun _ _=>False,fun _ _=>False⟩):FnOk P w K mg base CX0 (k+1) f fd [x] (v5 K):=by
 refine F.ok S (fun vs H Q E h=>?_) fun cdv A outer s H vs Q E hr h=>⟨_,qu,?_⟩
 ·obtain⟨a,ns,rfl,_⟩:=h;rfl
 ·obtain⟨a,ns,rfl,hS,hlen,q⟩:=h;have il:IsL K H [.scr ns] [.ref a]:=IsL.cons (by simp only[Is];exact⟨a,rfl,hS⟩) IsL.nil;refine qh (D:=E3.to K ⟨[],H,H⟩ H ⟨fun _ _=>False,fun r _=>r=.bl true,fun _ _=>False,fun _ _=>False⟩) (D':={nx:=fun _ H'=>Q .non H',rt:=Q}) ?_ ?_ ?_ ?_ (body cdv A outer s H E hr ns hlen ⟨[],H,H⟩ rfl H _ H (Sat.entry (yP.refl _) il))
  ·rintro σ' H' ⟨_,_,_,_,_,z⟩;exact z.elim
  ·rintro v H' ⟨r,Ω',F',⟨σ',S'⟩,f',iv,rfl⟩;rw[isB iv];exact q H'
  ·rintro σ' H' ⟨_,_,_,_,_,z⟩;exact z.elim
  ·rintro σ' H' ⟨_,_,_,_,_,z⟩;exact z.elim
theorem ygC {K:W.Frag}{H:Hp}{a:Addr}{ns:List Int}(h:ns.length<=63)(hS:SqL K H a (ns.map V.int)):v5 K [.ref a] H (fun v _=>v=.bl true) fun _ _ _=>False:=⟨a,ns,rfl,hS,h,fun _=>rfl⟩
theorem Wu:∀ {ds:List D},(∀ d∈ds,pln d=true)->VS ds=true
 |[],_=>by rw[VS]
 |d::ds,h=>by rw[VS,h d (by simp),Wu fun e he=>h e (yf _ he)];rfl
theorem ke {k:Nat}:∀ {ds:List D},(∀ d∈ds,dep d<=k)->zv ds<=k
 |[],_=>by rw[zv];exact qo _
 |d::ds,h=>by
  rw[zv];exact Nat.max_le.mpr ⟨h d (by simp),ke fun e he=>h e (yf _ he)⟩
theorem yf2 {q:Rat}:dep (sh q)<=1:=by
 show max 0 (max 0 0)+1<=1;decide
theorem Wc {K:W.Frag}{h:Heap}{mg:Str->Option Value}(X:K.In h)(G:h.Ns mainGlobals mg){x:Str}{l:Addr}{od:Option Addr}{i j:Int}{t u:Tok}{n:Nat}{sl:Array (Option Value)}(a:W.nsIn K mainGlobals x=some (some (.ref l)))
  (lk:K.lookup l=some ⟨.type "tuple", od,.seq #[.int i t,.int j u] n,sl⟩):qF K mg x (.tup [.int i,.int j]):=
 ⟨.ref l,.ref l,W.mg_of X G a,rfl,fun F=>Is.tupI (xs:=[.int i,.int j]) (.inr ⟨_,_,_,lk,rfl,rfl,by show 2<=sizeLine;decide,.cons ⟨_,rfl⟩ (.cons ⟨_,rfl⟩ .nil)⟩) (IsL.cons (QG F) (IsL.cons (QG F) IsL.nil))⟩
def lt (i:Nat):Nat:=if i<26 then 97+i else 65+(i - 26)
def yde:Str:="abcdefghijklmnopqrstuvwxyzABCDEFGHIJKLMNOPQRSTUVWXYZ"
theorem ydd:∀ i:Fin 52,yde.cps.toList[i.val]?=some (lt i.val):=by decide +kernel
def ZX (n:Nat):Bool:=(decide (97<=n)&&decide (n<=122))||(decide (65<=n)&&decide (n<=90))
theorem yik {i:Nat}(h:i<52):ZX (lt i)=true:=by
 unfold lt ZX;split <;> simp <;> omega
theorem yiC {i j:Nat}(hi:i<52)(hj:j<52)(h:lt i=lt j):i=j:=by
 unfold lt at h;split at h <;> split at h <;> omega
def Za (x:Str):Prop:=1<=x.cps.size/\x.cps.size<=8/\∀ c∈x.cps.toList,ZX c=true
def szC (c:Int):Nat:=(1+c % 8).toNat
def atC (c:Int):Nat:=(c / 8 % (1+c % 8)).toNat
def bsC (c:Int):Nat:=(c / 64 % 52).toNat
def stp (c:Int)(k p:Nat):Nat:=bsC c+7*p+if p=atC c then k else 0
def Z5 (c:Int)(k n:Nat):List Nat:=(List.range n).map fun p=>lt (stp c k p % 52)
def ZS (c:Int)(k:Nat):Str:=⟨(Z5 c k (szC c)).toArray⟩
theorem Xd (c:Int):1<=szC c/\szC c<=8:=by unfold szC;omega
theorem yho (c:Int):((szC c:Nat):Int)=1+c % 8:=by unfold szC;omega
theorem yhY (c:Int):atC c<szC c:=by
 have h:0<1+c % 8:=by omega
 have h1:=Int.emod_lt_of_pos (c / 8) h;have h2:=Int.emod_nonneg (c / 8) (show 1+c % 8≠0 by omega);unfold atC szC;omega
theorem yc7 (c:Int):((atC c:Nat):Int)=c / 8 % (1+c % 8):=by
 have h2:=Int.emod_nonneg (c / 8) (show 1+c % 8≠0 by omega);unfold atC;omega
theorem yed (c:Int):((bsC c:Nat):Int)=c / 64 % 52:=by unfold bsC;omega
theorem KD {c:Int}{k n:Nat}:(Z5 c k n).length=n:=by unfold Z5;simp
theorem ybx {c:Int}{k n:Nat}:Z5 c k (n+1)=Z5 c k n++[lt (stp c k n % 52)]:=by unfold Z5;rw[Y9,yr];rfl
theorem yh3 (c:Int)(k:Nat):Za (ZS c k):=by
 have:=Xd c;refine⟨?_,?_,fun x hx=>?_⟩
 ·unfold ZS;simp[KD];omega
 ·unfold ZS;simp[KD];omega
 ·unfold ZS Z5 at hx;simp only[yo,YE] at hx;obtain⟨p,_,rfl⟩:=hx;exact yik (Nat.mod_lt _ (by decide))
theorem ygd {c:Int}{j k:Nat}(hj:j<52)(hk:k<52)(h:ZS c j=ZS c k):j=k:=by
 have e:Z5 c j (szC c)=Z5 c k (szC c):=by
  unfold ZS at h;injection h with h;simpa using h
 have ha:=yhY c;have e2:(Z5 c j (szC c))[atC c]?=(Z5 c k (szC c))[atC c]?:=by rw[e]
 unfold Z5 at e2;rw[al_getElem?_map,al_getElem?_map,al_getElem?_range ha] at e2;simp only[Option.map_some,Option.some.injEq] at e2;have e3:=yiC (Nat.mod_lt _ (by decide)) (Nat.mod_lt _ (by decide)) e2;unfold stp at e3;rw[yc rfl,yc rfl] at e3;omega
theorem uN {α β:Type}{f:α->β}{l:List α}(h:∀ x∈l,∀ y∈l,f x=f y->x=y)(hn:l.Nodup):(l.map f).Nodup:=by
 unfold List.Nodup at hn ⊢;rw[List.pairwise_map];exact List.Pairwise.imp_of_mem (fun ha hb hab z=>hab (h _ ha _ hb z)) hn
theorem XF {c:Int}:∀ {n:Nat},n<=52->((List.range n).map (ZS c)).Nodup:=fun {n} hn=>by
 refine uN (fun x hx y hy e=>?_) List.nodup_range;rw[YE] at hx hy;exact ygd (by omega) (by omega) e
abbrev yF:=Str×List Str×Rat
def Y7 (acc:List Str)(r:yF):List Str:=if r.1∈acc then acc else acc++[r.1]
def yz (rs:List yF):List Str:=rs.foldl Y7 []
def Jh (h:Str)(t:Rat)(r:yF):Rat:=if r.1=h then t+r.2.2 else t
def Q9 (h:Str)(rs:List yF):Rat:=rs.foldl (Jh h) 0
structure GOk (hs ws:List Str)(rs:List yF):Prop where
 nd:(hs++ws).Nodup
 sym:∀ x∈hs++ws,Za x
 h0:hs≠[]
 w0:ws≠[]
 hl:hs.length<=4
 wl:ws.length<=3
 r0:rs≠[]
 rl:rs.length<=12
 fst:yz rs=hs
 one:∀ h∈hs,Q9 h rs=1
 body:∀ r∈rs,1<=r.2.1.length/\r.2.1.length<=4/\∀ x∈r.2.1,x∈hs++ws
 pos:∀ r∈rs,0<r.2.2/\r.2.2.num.natAbs<2 ^ 5/\r.2.2.den<2 ^ 5
 prs:(rs.map fun r=>(r.1,r.2.1)).Nodup
abbrev Grp:=List (List Str×Rat)
def grp (h:Str)(g:Grp):List yF:=g.map fun p=>(h,p.1,p.2)
def jW (ps:List (Str×Grp)):List yF:=ps.flatMap fun p=>grp p.1 p.2
structure GrpOk (sy:List Str)(g:Grp):Prop where
 ne:g≠[]
 le:g.length<=3
 nd:(g.map (·.1)).Nodup
 one:(g.map (·.2)).sum=1
 body:∀ p∈g,1<=p.1.length/\p.1.length<=4/\∀ x∈p.1,x∈sy
 pos:∀ p∈g,0<p.2/\p.2.num.natAbs<2 ^ 5/\p.2.den<2 ^ 5
theorem Kf {h:Str}{acc:List Str}(hm:h∈acc):∀ g:Grp,(grp h g).foldl Y7 acc=acc
 |[]=>rfl
 |p::g=>by
  show(grp h g).foldl Y7 (Y7 acc (h,p.1,p.2))=acc;rw[show Y7 acc (h,p.1,p.2)=acc from yc hm];exact Kf hm g
theorem ybY {h:Str}{acc:List Str}(hm:h∉acc):∀ {g:Grp},g≠[]->(grp h g).foldl Y7 acc=acc++[h]
 |[],hg=>absurd rfl hg
 |p::g,_=>by
  show(grp h g).foldl Y7 (Y7 acc (h,p.1,p.2))=acc++[h]
  rw[show Y7 acc (h,p.1,p.2)=acc++[h] from yb hm];exact Kf (by simp) g
theorem vb:∀ {ps:List (Str×Grp)} {acc:List Str},(acc++ps.map (·.1)).Nodup->(∀ p∈ps,p.2≠[])->(jW ps).foldl Y7 acc=acc++ps.map (·.1)
 |[],acc,_,_=>by simp[jW]
 |p::ps,acc,hn,hg=>by
  have nm:p.1∉acc:=fun z=>by
   rw[Yd] at hn;exact hn.2.2 _ z _ (by simp) rfl
  show(grp p.1 p.2++jW ps).foldl Y7 acc=_;rw[Ym,ybY nm (hg p (by simp)),vb (by simpa using hn) fun q hq=>hg q (yf _ hq)];simp
theorem Vg {h h':Str}(hn:h'≠h):∀ (g:Grp) (t:Rat),(grp h' g).foldl (Jh h) t=t
 |[],t=>rfl
 |p::g,t=>by
  show(grp h' g).foldl (Jh h) (Jh h t (h',p.1,p.2))=t;rw[show Jh h t (h',p.1,p.2)=t from yb hn];exact Vg hn g t
theorem yaa {h:Str}:∀ (g:Grp) (t:Rat),(grp h g).foldl (Jh h) t=t+(g.map (·.2)).sum
 |[],t=>by simp[grp,Qb]
 |p::g,t=>by
  show(grp h g).foldl (Jh h) (Jh h t (h,p.1,p.2))=_;rw[show Jh h t (h,p.1,p.2)=t+p.2 from yc rfl,yaa g,yn,Yn];grind
theorem Uo {h:Str}:∀ {ps:List (Str×Grp)} {t:Rat},(∀ p∈ps,p.1≠h)->(jW ps).foldl (Jh h) t=t
 |[],t,_=>rfl
 |p::ps,t,hn=>by
  show(grp p.1 p.2++jW ps).foldl (Jh h) t=t;rw[Ym,Vg (hn p (by simp)),Uo fun q hq=>hn q (yf _ hq)]
theorem KF {h:Str}:∀ {ps:List (Str×Grp)} {t:Rat},(ps.map (·.1)).Nodup->(∀ p∈ps,(p.2.map (·.2)).sum=1)->h∈ps.map (·.1)->(jW ps).foldl (Jh h) t=t+1
 |[],t,_,_,hm=>by simp at hm
 |p::ps,t,hn,ho,hm=>by
  rw[yn,yK] at hn;show(grp p.1 p.2++jW ps).foldl (Jh h) t=t+1;rw[Ym];by_cases e:p.1=h
  ·subst e;rw[yaa,ho p (by simp),Uo fun q hq z=>hn.1 (yo.mpr ⟨q,hq,z⟩)]
  ·rw[Vg e,KF hn.2 (fun q hq=>ho q (yf _ hq))];rw[yn,yA] at hm;rcases hm with z|z
   ·exact absurd z.symm e
   ·exact z
theorem zm {ps:List (Str×Grp)}{r:yF}(h:r∈jW ps):∃ p∈ps,r.1=p.1/\(r.2.1,r.2.2)∈p.2:=by
 unfold jW grp at h;simp only[Qf,yo] at h;obtain⟨p,hp,q,hq,rfl⟩:=h;exact⟨p,hp,rfl,hq⟩
theorem K4:∀ {ps:List (Str×Grp)},(∀ p∈ps,p.2.length<=3)->(jW ps).length<=3*ps.length
 |[],_=>by simp[jW]
 |p::ps,h=>by
  have a:=K4 (ps:=ps) fun q hq=>h q (yf _ hq);have b:=h p (by simp);show(grp p.1 p.2++jW ps).length<=_;rw[yy,ym];have:(grp p.1 p.2).length=p.2.length:=by unfold grp;simp
  omega
theorem kG:∀ {ps:List (Str×Grp)},(ps.map (·.1)).Nodup->(∀ p∈ps,(p.2.map (·.1)).Nodup)->((jW ps).map fun r=>(r.1,r.2.1)).Nodup
 |[],_,_=>by simp[jW]
 |p::ps,hn,hg=>by
  rw[yn,yK] at hn;show((grp p.1 p.2++jW ps).map fun r=>(r.1,r.2.1)).Nodup;rw[yr,Yd];refine⟨?_,kG hn.2 fun q hq=>hg q (yf _ hq),fun x hx y hy e=>?_⟩
  ·have h1:=hg p (by simp);unfold grp;rw[Yu];have:((fun r:yF=>(r.1,r.2.1)) ∘ fun q:List Str×Rat=>(p.1,q.1,q.2))=(fun b=>(p.1,b)) ∘ fun q:List Str×Rat=>q.1:=rfl;rw[this,←Yu];exact uN (fun a _ b _ e=>by injection e) h1
  ·obtain⟨r,hr,rfl⟩:=yo.mp hx;obtain⟨r',hr',rfl⟩:=yo.mp hy;injection e with e1 e2;have a1:r.1=p.1:=by
    unfold grp at hr;obtain⟨q,_,rfl⟩:=yo.mp hr;rfl
   obtain⟨q,hq,b1,_⟩:=zm hr';exact hn.1 (yo.mpr ⟨q,hq,by rw[←b1,←e1,a1]⟩)
theorem yfI {hs ws:List Str}{ps:List (Str×Grp)}(nd:(hs++ws).Nodup)(sym:∀ x∈hs++ws,Za x)(h0:hs≠[])(w0:ws≠[])(hl:hs.length<=4)(wl:ws.length<=3)(hp:ps.map (·.1)=hs)(hg:∀ p∈ps,GrpOk (hs++ws) p.2):GOk hs ws (jW ps):=by
 have hn:hs.Nodup:=(Yd.mp nd).1;have len:ps.length=hs.length:=by rw[←hp,ye]
 refine⟨nd,sym,h0,w0,hl,wl,?_,?_,?_,fun h hh=>?_,fun r hr=>?_,fun r hr=>?_,?_⟩
 ·intro z;cases ps with
  |nil=>rw[←hp] at h0;exact h0 rfl
  |cons p ps=>
   have z':grp p.1 p.2++jW ps=[]:=z;have:=(List.append_eq_nil_iff.mp z').1;unfold grp at this;exact(hg p (by simp)).ne (List.map_eq_nil_iff.mp this)
 ·have:=K4 (ps:=ps) fun p hp=>(hg p hp).le;omega
 ·have:=vb (ps:=ps) (acc:=[]) (by rw[Qw,hp];exact hn) fun p hp=>(hg p hp).ne;rw[Qw,hp] at this;exact this
 ·have:=KF (h:=h) (t:=0) (ps:=ps) (by rw[hp];exact hn) (fun p hp=>(hg p hp).one) (by rw[hp];exact hh)
  rw[show(0:Rat)+1=1 by grind] at this;exact this
 ·obtain⟨p,hp',_,hm⟩:=zm hr;exact(hg p hp').body _ hm
 ·obtain⟨p,hp',_,hm⟩:=zm hr;exact(hg p hp').pos _ hm
 ·exact kG (by rw[hp];exact hn) fun p hp=>(hg p hp).nd
inductive Live (hs:List Str)(rs:List yF):Str->Prop
 |mk (r:yF) (hr:r∈rs) (hb:∀ x∈r.2.1,x∈hs->Live hs rs x):Live hs rs r.1
def qA (hs L b:List Str):Bool:=b.all fun x=>decide (x∈L)||!decide (x∈hs)
def jB (rs:List yF)(hs L:List Str)(h:Str):Bool:=rs.any fun r=>decide (r.1=h)&&qA hs L r.2.1
def jJ (hs:List Str)(rs:List yF)(L:List Str):List Str:=hs.filter (jB rs hs L)
open Classical in
noncomputable def jN (hs:List Str)(rs:List yF):List Str:=hs.filter fun h=>decide (Live hs rs h)
theorem Z4 {hs L b:List Str}:qA hs L b=true ↔ ∀ x∈b,x∈hs->x∈L:=by
 unfold qA;rw[QA];refine forall_congr' fun x=>forall_congr' fun _=>?_;by_cases h1:x∈L <;> by_cases h2:x∈hs <;> simp[h1,h2]
theorem Zf {rs:List yF}{hs L:List Str}{h:Str}:jB rs hs L h=true ↔ ∃ r∈rs,r.1=h/\∀ x∈r.2.1,x∈hs->x∈L:=by
 unfold jB;simp only[List.any_eq_true,Yg,Yh,Z4]
theorem Xs {hs:List Str}{rs:List yF}{L L':List Str}(h:∀ x∈L,x∈L'):∀ x∈jJ hs rs L,x∈jJ hs rs L':=fun x hx=>by
 unfold jJ at hx ⊢;rw[yU,Zf] at hx ⊢;obtain⟨h1,r,hr,e,hb⟩:=hx;exact⟨h1,r,hr,e,fun y hy hh=>h y (hb y hy hh)⟩
def KW (hs:List Str)(rs:List yF)(L:List Str):Prop:=(∃ p:Str->Bool,L=hs.filter p)/\(∀ x∈L,x∈jJ hs rs L)/\∀ x∈L,Live hs rs x
theorem ybM {hs:List Str}{rs:List yF}:KW hs rs []:=⟨⟨fun _=>false,by simp⟩,fun x hx=>by simp at hx,fun x hx=>by simp at hx⟩
theorem xn {hs:List Str}{rs:List yF}{L:List Str}(h:KW hs rs L):KW hs rs (jJ hs rs L):=by
 refine⟨⟨_,rfl⟩,Xs h.2.1,fun x hx=>?_⟩;unfold jJ at hx;rw[yU,Zf] at hx;obtain⟨h1,r,hr,e,hb⟩:=hx;subst e;exact .mk r hr fun y hy hh=>h.2.2 y (hb y hy hh)
theorem v4 {α:Type}{p q:α->Bool}:∀ {l:List α},(∀ x∈l,p x=true->q x=true)->(l.filter p).length<=(l.filter q).length/\((l.filter q).length<=(l.filter p).length->l.filter p=l.filter q)
 |[],_=>by simp
 |a::l,h=>by
  have ih:=v4 (p:=p) (q:=q) (l:=l) fun x hx=>h x (yf _ hx);have ha:=h a (by simp);cases hp:p a with
  |true=>
   rw[y4 hp,y4 (ha hp),ym,ym];exact⟨by omega,fun z=>by rw[ih.2 (by omega)]⟩
  |false=>
   rw[y3 (by simp[hp])];cases hq:q a with
   |true=>
    rw[y4 hq,ym];exact⟨by omega,fun z=>by omega⟩
   |false=>
    rw[y3 (by simp[hq])];exact ih
theorem wX {hs:List Str}{rs:List yF}{L:List Str}(h:KW hs rs L):L.length<=(jJ hs rs L).length/\((jJ hs rs L).length<=L.length->L=jJ hs rs L):=by
 obtain⟨⟨p,rfl⟩,h2,_⟩:=h;refine v4 fun x hx hp=>?_;have:=h2 x (yU.mpr ⟨hx,hp⟩);unfold jJ at this;exact(yU.mp this).2
open Classical in
theorem yb5 {hs:List Str}{rs:List yF}{L:List Str}(h:KW hs rs L)(e:(jJ hs rs L).length<=L.length)(hh:∀ r∈rs,r.1∈hs):jJ hs rs L=jN hs rs:=by
 have e':=(wX h).2 e;have all:∀ x,Live hs rs x->x∈L:=fun x hx=>by
  induction hx with
  |mk r hr _ ih=>
   rw[e'];unfold jJ;rw[yU,Zf];exact⟨hh r hr,r,hr,rfl,ih⟩
 unfold jN;rw[←e'];obtain⟨⟨p,hp⟩,_,h3⟩:=h;rw[hp] at all h3 ⊢;refine List.filter_congr fun x hx=>?_;rw[Yk,Yh];exact⟨fun q=>h3 x (yU.mpr ⟨hx,q⟩),fun q=>(yU.mp (all x q)).2⟩
theorem W6 {acc:List Str}{r:yF}{x:Str}:x∈Y7 acc r ↔ x∈acc∨x=r.1:=by
 unfold Y7;split
 ·rename_i h;exact⟨.inl,fun z=>z.elim id fun e=>e▸h⟩
 ·simp
theorem uU:∀ {rs:List yF} {acc:List Str} {x:Str},x∈rs.foldl Y7 acc ↔ x∈acc∨∃ r∈rs,x=r.1
 |[],acc,x=>by simp
 |r::rs,acc,x=>by
  rw[Yp,uU,W6];simp only[yA,exists_eq_or_imp,or_assoc]
theorem Z1 {rs:List yF}{x:Str}:x∈yz rs ↔ x∈rs.map (·.1):=by
 unfold yz;rw[uU];simp only[YW,false_or,yo];exact⟨fun⟨r,h1,h2⟩=>⟨r,h1,h2.symm⟩,fun⟨r,h1,h2⟩=>⟨r,h1,h2.symm⟩⟩
section
variable {X:Cx}{B:Bs}{Γ:Ga}{Ω:Om}{a l e:Expr}{pos p2:Pos}{R:D->Om->Prop}
theorem ybi {F:Hp}{σ:L2.St}{H:Hp}{ds:List D}{x:V}{lo hi:Option Int}{Q:VK}(S:Sat X.K B Γ Ω F σ H)(i1:Is X.K F (.lst ds) x)(q:∀ v H' F',Pur F H F' H'->Is X.K F' (.lst (Zo ds lo hi)) v->Q v H'):yjc X.K x lo hi H Q:=by
 obtain⟨b,xs,rfl,s1,j1⟩:=jn i1;exact⟨b,xs,rfl,S.fh.seq s1,fun c hc=>q _ _ _ (Pur.lay S.fh hc) (Is.lstI (.inl yL) ((xO j1).mono (Pur.lay S.fh hc).ff))⟩
theorem ygL {ds:List D}(ha:P3 X Γ a (.lst ds))(h:V3 X B e Γ Ω fun d Ω1=>∃ n:Int,d=.int n/\R (.lst (Zo ds none (some n))) Ω1):V3 X B (.Subscript a (.Slice none (some e) none p2) pos) Γ Ω R:=fun F σ H S pins s I=>
 vD wz ha X9 (kg Qt) pins s σ H _ I ⟨F,S.fh,S.sl,fun x H1 F1 p1 i1=>(h F1 σ H1 (S.pur p1)).mono fun v H2 ⟨d,Ω1,F2,S2,f2,i2,n,e2,r⟩=>by
  subst e2;refine⟨n,isI i2,?_⟩;exact ybi (lo:=none) (hi:=some n) S2 (i1.mono f2) fun v' H' F' p' i'=>⟨_,Ω1,F',S2.pur p',p1.ff.trans (f2.trans p'.ff),i',r⟩⟩
theorem WJ {ds:List D}{m:Int}(ha:P3 X Γ a (.lst ds))(hl:P3 X Γ l (.int m))(h:V3 X B e Γ Ω fun d Ω1=>∃ n:Int,d=.int n/\R (.lst (Zo ds (some m) (some n))) Ω1):V3 X B (.Subscript a (.Slice (some l) (some e) none p2) pos) Γ Ω R:=fun F σ H S pins s I=>
 vD wz ha (kg hl) (kg Qt) pins s σ H _ I ⟨F,S.fh,S.sl,fun x H1 F1 p1 i1=>⟨F1,p1.fh,S.sl.mono p1.ff,fun y H3 F3 p3 i3=>⟨m,isI i3,(h F3 σ H3 (S.pur (p1.trans p3))).mono fun v H2 ⟨d,Ω1,F2,S2,f2,i2,n,e2,r⟩=>by
  subst e2;refine⟨n,isI i2,?_⟩;exact ybi (lo:=some m) (hi:=some n) S2 (i1.mono (p3.ff.trans f2)) fun v' H' F' p' i'=>⟨_,Ω1,F',S2.pur p',(p1.trans p3).ff.trans (f2.trans p'.ff),i',r⟩⟩⟩⟩
end
section
variable {X:Cx}{B:Bs}{Γ:Ga}{Ω:Om}{E:E3}{rest body:List Stmt}{e c:Expr}{pos:Pos}
theorem ww (h:V3 X B e Γ Ω fun _ Ω1=>W3 X B rest Γ Ω1 E)(hs:swapsWith e none pos.line X.env=pure false:=by rfl):W3 X B (.Expr e pos::rest) Γ Ω E:=fun F σ H S pins s I=>
 YX (vL Qt hs) qu pins s σ H _ I ((h F σ H S).mono fun v H1 ⟨d,Ω1,F1,S1,f1,i1,h1⟩=>Y3 f1 (h1 F1 σ H1 S1))
theorem W3.nx {J N:Ga->Om->Prop}{sts:List Stmt}(h:W3 X B sts Γ Ω {E with nx:=J})(i:∀ Γ Ω,J Γ Ω->N Γ Ω):W3 X B sts Γ Ω {E with nx:=N}:=fun F σ H S=>
 qh (D:=E3.to X.K B F {E with nx:=J}) (D':=E3.to X.K B F {E with nx:=N}) (fun _ _ ⟨Γ',Ω',F',S',f',n⟩=>⟨Γ',Ω',F',S',f',i _ _ n⟩) (fun _ _ q=>q) (fun _ _ q=>q) (fun _ _ q=>q) (h F σ H S)
theorem ydl {k:Bool}{a b:List Stmt}(J:Ga->Om->Prop)(hc:PT3 X Γ c k)(ht:k=true->W3 X B a Γ Ω {E with nx:=J})(hf:k=false->W3 X B b Γ Ω {E with nx:=J})(hr:∀ Γ Ω,J Γ Ω->W3 X B rest Γ Ω E):W3 X B (.If c a b pos::rest) Γ Ω E:=
 JA hc (fun h=>(ht h).nx hr) fun h=>(hf h).nx hr
theorem yam {k k':Bool}(h:PT3 X Γ c k)(q:k=k'):ydr X Γ [c] k':=q▸Z0 h
end
def Ye (b:List Str):D:=.tup (b.map D.str)
def Jf (r:yF):D:=.tup [.str r.1,Ye r.2.1,sh r.2.2]
def yB (xs:List Str):List D:=xs.map D.str
def yJ (rs:List yF):List D:=rs.map Jf
theorem Yo {xs:List Str}:(yB xs).length=xs.length:=ye _
theorem Yt {rs:List yF}:(yJ rs).length=rs.length:=ye _
theorem Qx {xs:List Str}{i:Nat}{d:D}(h:(yB xs)[i]?=some d):∃ x,xs[i]?=some x/\d=.str x:=by
 unfold yB at h;rw[al_getElem?_map] at h;obtain⟨x,h1,h2⟩:=y7.mp h;exact⟨x,h1,h2.symm⟩
theorem qT {rs:List yF}{i:Nat}{d:D}(h:(yJ rs)[i]?=some d):∃ r,rs[i]?=some r/\d=Jf r:=by
 unfold yJ at h;rw[al_getElem?_map] at h;obtain⟨x,h1,h2⟩:=y7.mp h;exact⟨x,h1,h2.symm⟩
theorem yW {α:Type}{l:List α}{i:Nat}{x:α}(h:l[i]?=some x):l.take (i+1)=l.take i++[x]:=by
 rw[List.take_succ,h];rfl
theorem yfq {x y:Str}(h:D.str x=D.str y):x=y:=by injection h
theorem yae {x y:Str}:YV (.str x) (.str y)=decide (x=y):=by
 by_cases h:x=y
 ·subst h;rw[zk (by rfl)];simp
 ·rw[U9 (fun z=>h (yfq z)),yv h]
theorem jA {x:Str}{L:List Str}:inD (.str x) (yB L)=decide (x∈L):=by
 unfold inD yB;rw[List.any_map,Yk,List.any_eq_true,Yh];constructor
 ·rintro⟨y,hy,e⟩;have e':YV (.str y) (.str x)=true:=e;rw[yae,Yh] at e';exact e'▸hy
 ·intro h;exact⟨x,h,by show YV (.str x) (.str x)=true;rw[yae];simp⟩
theorem j3 {x:Str}{L:List Str}:∀ e∈yB L,kin e (.str x)=true/\dep e<=60:=fun e he=>by
 unfold yB at he;obtain⟨y,_,rfl⟩:=yo.mp he;exact⟨rfl,qo _⟩
theorem jb:∀ {a b:List Str},a.map D.str=b.map D.str->a=b
 |[],[],_=>rfl
 |[],_::_,h=>by simp at h
 |_::_,[],h=>by simp at h
 |x::a,y::b,h=>by
  simp only[yn,List.cons.injEq,D.str.injEq] at h;rw[h.1,jb h.2]
theorem ydJ {a b:List Str}(h:Ye a=Ye b):a=b:=by
 unfold Ye at h;injection h with h;exact jb h
theorem yfa {L:List Str}:VS (L.map D.str)=true:=Wu fun d hd=>by
 obtain⟨y,_,rfl⟩:=yo.mp hd;rfl
theorem ycO {b:List Str}:pln (Ye b)=true:=by unfold Ye;rw[pln];exact yfa
theorem KI {a b:List Str}:YV (Ye a) (Ye b)=decide (a=b):=by
 by_cases h:a=b
 ·subst h;rw[zk ycO];simp
 ·rw[U9 (fun z=>h (ydJ z)),yv h]
theorem uB:∀ {a b:List Str},Jk (a.map D.str) (b.map D.str)=true
 |[],_=>by simp[Jk]
 |_::_,[]=>by simp[Jk]
 |x::a,y::b=>by
  rw[yn,yn,Jk,uB];rfl
theorem WH {a b:List Str}:kin (Ye a) (Ye b)=true:=by unfold Ye;rw[kin];exact uB
theorem ycE {b:List Str}:zv (b.map D.str)=0:=jG.mp (ke fun d hd=>by
 obtain⟨y,_,rfl⟩:=yo.mp hd;exact yg 0)
theorem KM {b:List Str}:dep (Ye b)<=1:=by unfold Ye;rw[dep,ycE];exact yg _
theorem uT {b:List Str}{bs:List (List Str)}:inD (Ye b) (bs.map Ye)=decide (b∈bs):=by
 unfold inD;rw[List.any_map,Yk,List.any_eq_true,Yh];constructor
 ·rintro⟨y,hy,e⟩;have e':YV (Ye y) (Ye b)=true:=e;rw[KI,Yh] at e';exact e'▸hy
 ·intro h;exact⟨b,h,by show YV (Ye b) (Ye b)=true;rw[KI];simp⟩
theorem xF {b:List Str}{bs:List (List Str)}:∀ e∈bs.map Ye,kin e (Ye b)=true/\dep e<=60:=fun e he=>by
 obtain⟨y,_,rfl⟩:=yo.mp he;have:=KM (b:=y);exact⟨WH,by omega⟩
theorem kU {L:Bool}:∀ {xs:List Str},Zz L (yB xs)=true
 |[]=>rfl
 |x::xs=>by
  show(JI L (D.str x)&&Zz L (yB xs))=true;rw[kU];rfl
def ui (r:yF):List K2:=[.inl (.inr r.1),.inr (r.2.1.map Sum.inr)]
theorem yaR (r:yF):D.tup [.str r.1,Ye r.2.1]=kD (ui r):=by
 unfold kD ui Ye;simp only[yn,QU,k2D,Zq,Yu];rfl
theorem yaT:∀ {a b:List Str},a.map (Sum.inr:Str->Key)=b.map Sum.inr->a=b
 |[],[],_=>rfl
 |[],_::_,h=>by simp at h
 |_::_,[],h=>by simp at h
 |x::a,y::b,h=>by
  simp only[yn,List.cons.injEq,Sum.inr.injEq] at h;rw[h.1,yaT h.2]
theorem ydm {r s:yF}(h:ui r=ui s):(r.1,r.2.1)=(s.1,s.2.1):=by
 unfold ui at h;simp only[List.cons.injEq,Sum.inl.injEq,Sum.inr.injEq,and_true] at h;rw[h.1,yaT h.2]
def K7 (rs:List yF):List (List K2×D):=rs.map fun r=>(ui r,.bl true)
theorem WK {rs:List yF}{r:yF}(h:(r.1,r.2.1)∉rs.map fun r=>(r.1,r.2.1)):atD (K7 rs) (ui r)=none:=by
 unfold atD K7;rw[Option.map_eq_none_iff,List.find?_eq_none];intro p hp;obtain⟨q,hq,rfl⟩:=yo.mp hp;simp only[Yh];intro z;exact h (yo.mpr ⟨q,hq,ydm z⟩)
theorem yey {rs:List yF}{r:yF}(h:(r.1,r.2.1)∉rs.map fun r=>(r.1,r.2.1)):uo (K7 rs) (ui r) (.bl true)=K7 (rs++[r]):=by
 unfold uo;rw[WK h];unfold K7;rw[yr];rfl
theorem va {α β:Type}{f:α->β}{l:List α}{i:Nat}{x:α}(hn:(l.map f).Nodup)(h:l[i]?=some x):f x∉(l.take i).map f:=fun z=>by
 obtain⟨y,hy,e⟩:=yo.mp z;obtain⟨j,hj,rfl⟩:=List.getElem_of_mem hy;rw[yS] at hj;have hj1:j<l.length:=by omega
 have hi:i<l.length:=(al_getElem?_eq_some_iff.mp h).1;rw[List.getElem_take] at e;have e1:(l.map f)[j]?=(l.map f)[i]?:=by
  rw[al_getElem?_map,al_getElem?_map,h,al_getElem?_eq_getElem hj1];simp[e]
 have:=(List.getElem?_inj (by rw[ye];exact hj1) hn).mp e1;omega
theorem ybr {X:Cx}{Γ:Ga}{a b c:Expr}{pos:Pos}{i j k:Int}(ha:P3 X Γ a (.int i))(hb:P3 X Γ b (.int j))(hc:P3 X Γ c (.int k))(hm:lastMarks [.LtE,.LtE] [b,c]=false:=by with_unfolding_all rfl):P3 X Γ (.Compare a [.LtE,.LtE] [b,c] pos) (.bl (decide (i<=j)&&decide (j<=k))):=
 PE.of (w6 yfc yfc ha hb hc hm) fun σ H Q zq=>by
  obtain⟨F,fh,sl,q⟩:=zq;refine⟨F,fh,sl,fun v1 H1 F1 p1 i1=>⟨F1,p1.fh,sl.mono p1.ff,fun v2 H2 F2 p2 i2=>⟨i,j,isI i1,isI i2,decide (i<=j),rfl,?_⟩⟩⟩;cases e:decide (i<=j) with
  |true=>
   rw[yc rfl];exact⟨F2,p2.fh,sl.mono (p1.ff.trans p2.ff),fun v3 H3 F3 p3 i3=>⟨j,k,isI i2,isI i3,q _ _ _ ((p1.trans p2).trans p3) (by rw[e];exact Kb F3)⟩⟩
  |false=>
   rw[yb yE];exact q _ _ _ (p1.trans p2) (by rw[e];exact Kb F2)
open Classical in
noncomputable def wv (x:Str):Bool:=decide (Za x)
theorem Ku {x:Str}:wv x=true ↔ Za x:=@decide_eq_true_iff _ (Classical.propDecidable _)
noncomputable def yfz:List D->D->Prop:=fun ds d=>∃ x:Str,ds=[.str x]/\d=.bl (wv x)/\x.cps.size<=100/\x.cps.all (·<128)=true
def ydZ:List D->D->Prop:=fun ds d=>∃ c:Nat,ds=[.str ⟨#[c]⟩]/\d=.bl (ZX c)
def ydt:List D->D->Prop:=fun ds d=>∃ x:Str,ds=[.str x]/\d=.non/\Za x
def xX (r:yF):Prop:=Za r.1/\1<=r.2.1.length/\r.2.1.length<=4/\(∀ x∈r.2.1,Za x)/\0<r.2.2
def yiI:List D->D->Prop:=fun ds d=>∃ r:yF,ds=[Jf r]/\d=.non/\xX r
def yf1:List D->D->Prop:=fun ds d=>∃ rs:List yF,ds=[.lst (yJ rs)]/\d=.non/\1<=rs.length/\rs.length<=30/\(∀ r∈rs,xX r)/\(rs.map fun r=>(r.1,r.2.1)).Nodup
def yga:List D->D->Prop:=fun ds d=>∃ (x:Str) (hs:List Str),ds=[.str x,.lst (yB hs)]/\d=.non/\x∈hs
def yhC:List D->D->Prop:=fun ds d=>∃ (hs:List Str) (rs:List yF),ds=[.lst (yB hs),.lst (yJ rs)]/\d=.non/\rs.length<=30/\(∀ h∈hs,Q9 h rs=1)/\∀ r∈rs,0<=r.2.2/\Sz 1000 r.2.2
def yfC:List D->D->Prop:=fun ds d=>∃ rs:List yF,ds=[.lst (yJ rs)]/\d=.lst (yB (yz rs))/\rs.length<=30
def yev:List D->D->Prop:=fun ds d=>∃ (hs:List Str) (rs:List yF),ds=[.lst (yB hs),.lst (yJ rs)]/\d=.lst (yB (jN hs rs))/\rs.length<=30/\hs.length<=30/\(∀ r∈rs,r.1∈hs)/\∀ r∈rs,r.2.1.length<=4
def ybt:List D->D->Prop:=fun ds d=>∃ (h:Str) (rs:List yF) (hs L:List Str),ds=[.str h,.lst (yJ rs),.lst (yB hs),.lst (yB L)]/\d=.bl (jB rs hs L h)/\rs.length<=30/\∀ r∈rs,r.2.1.length<=4
def xK:List D->D->Prop:=fun ds d=>∃ b hs L:List Str,ds=[Ye b,.lst (yB hs),.lst (yB L)]/\d=.bl (qA hs L b)/\b.length<=4
def gF:List Str:=["first", "kept_rules", "kept_heads", "kept_live"]
noncomputable def gDs (st:Str)(rs:List yF):List D:=[.str st,.lst (yJ rs),.lst (yB (yz rs)),.lst (yB (jN (yz rs) rs))]
noncomputable def gD (C:Addr)(st:Str)(rs:List yF):D:=.obj C gF (gDs st rs)
structure GV (st:Str)(rs:List yF):Prop where
 l1:1<=rs.length
 l2:rs.length<=30
 ok:∀ r∈rs,xX r
 nd:(rs.map fun r=>(r.1,r.2.1)).Nodup
 st:st∈yz rs
 one:∀ h∈yz rs,Q9 h rs=1
 sz:∀ r∈rs,Sz 1000 r.2.2
def yf0:List D->List Str×List D->Prop:=fun ds r=>∃ (st:Str) (rs:List yF),ds=[.str st,.lst (yJ rs)]/\r=(gF,gDs st rs)/\GV st rs
def yeP (C:Addr):List D->D->Prop:=fun ds d=>∃ (st:Str) (rs:List yF),ds=[gD C st rs]/\d=.str st
def yeY (C:Addr):List D->List D->Prop:=fun ds d=>∃ (st:Str) (rs:List yF),ds=[gD C st rs]/\d=yJ rs
def ydB (C:Addr):List D->List D->Prop:=fun ds d=>∃ (st:Str) (rs:List yF),ds=[gD C st rs]/\d=yB (yz rs)
def yfH (C:Addr):List D->List D->Prop:=fun ds d=>∃ (st:Str) (rs:List yF),ds=[gD C st rs]/\d=yB (jN (yz rs) rs)
theorem vZ:("start" : Str)∉gF:=by decide +kernel
theorem Vx:("rules" : Str)∉gF:=by decide +kernel
theorem zE:("heads" : Str)∉gF:=by decide +kernel
theorem zY:("live" : Str)∉gF:=by decide +kernel
structure ClsG (K:W.Frag)(C:Addr):Prop where
 c:Cls K C
 n_first:QC K C "first"
 n_kept_rules:QC K C "kept_rules"
 n_kept_heads:QC K C "kept_heads"
 n_kept_live:QC K C "kept_live"
theorem uC:∀ {rs:List yF} {acc:List Str},(rs.foldl Y7 acc).length<=acc.length+rs.length
 |[],acc=>by simp
 |r::rs,acc=>by
  have:=uC (rs:=rs) (acc:=Y7 acc r);rw[Yp,ym];have:(Y7 acc r).length<=acc.length+1:=by
   unfold Y7;split
   ·omega
   ·rw[yy];exact yg _
  omega
theorem Xl {rs:List yF}:(yz rs).length<=rs.length:=by
 have:=uC (rs:=rs) (acc:=[]);unfold yz;simpa using this
theorem wI {xs:List Str}:JI true (.lst (yB xs))=true:=by
 rw[JI,kU];rfl
theorem yet {ds:List D}:Jk ds []=true:=by cases ds <;> rfl
theorem GOk.gv {hs ws:List Str}{rs:List yF}(g:GOk hs ws rs){st:Str}(h:st∈hs):GV st rs where
 l1:=YU.mpr g.r0
 l2:=by have:=g.rl;omega
 ok:=fun r hr=>⟨g.sym _ (y8 _ (by rw[←g.fst,Z1];exact yo.mpr ⟨r,hr,rfl⟩)),(g.body r hr).1,(g.body r hr).2.1,fun x hx=>g.sym x ((g.body r hr).2.2 x hx),(g.pos r hr).1⟩
 nd:=g.prs
 st:=by rw[g.fst];exact h
 one:=fun h hh=>g.one h (by rw[←g.fst];exact hh)
 sz:=fun r hr=>Sz.mono (m:=5) ⟨(g.pos r hr).2.1,(g.pos r hr).2.2⟩ (by omega)
theorem yhf {c n:Nat}{x:Str}(h:x.cps.toList=[n]):leS x ⟨#[c]⟩=decide (n<=c):=by
 unfold leS;rw[h,Yk];simp[List.cons_lt_cons_iff]
theorem ygV {c n:Nat}{x:Str}(h:x.cps.toList=[n]):leS ⟨#[c]⟩ x=decide (c<=n):=by
 unfold leS;rw[h,Yk];simp[List.cons_lt_cons_iff]
theorem ybL {c:Nat}(h:ZX c=true):c<128:=by
 unfold ZX at h;simp at h;omega
theorem yb9 {x:Str}(h:Za x):x.cps.all (·<128)=true:=by
 rw[Array.all_eq_true_iff_forall_mem];intro c hc;simpa using ybL (h.2.2 c (by simpa using hc))
theorem ybQ {x:Str}{i:Nat}{d:D}(h:(Km x)[i]?=some d):∃ c,x.cps.toList[i]?=some c/\d=.str ⟨#[c]⟩:=by
 unfold Km at h;rw[al_getElem?_map] at h;obtain⟨c,h1,h2⟩:=y7.mp h;exact⟨c,h1,h2.symm⟩
theorem ybJ {x:Str}:(Km x).length=x.cps.size:=by unfold Km;simp
theorem ygs {t q:Rat}{i:Nat}(ht:0<=t/\Sz (1+i*1001) t)(hq:0<=q/\Sz 1000 q):0<=t+q/\Sz (1+(i+1)*1001) (t+q):=⟨vW ht.1 hq.1,(xy ht.2 hq.2).mono (by omega)⟩
theorem ygk {K:W.Frag}{C:Addr}(pg:W.plainGet K C Str.empty=true)(hd:W.hasDictIn K C=true)(po:W.plainOver K C=true)(sa:W.findIn K (.ref C) "__setattr__" = some (some (.builtin "object.__setattr__")))
  (n1:W.findIn K (.ref C) "first" = some none) (n2:W.findIn K (.ref C) "kept_rules" = some none) (n3:W.findIn K (.ref C) "kept_heads" = some none) (n4:W.findIn K (.ref C) "kept_live" = some none):ClsG K C:=⟨⟨pg,hd,po,sa⟩,n1,n2,n3,n4⟩
theorem UG {K:W.Frag}{h:Heap}{mg:Str->Option Value}(X:K.In h)(G:h.Ns mainGlobals mg){x:Str}{i:Int}{t:Tok}(a:W.nsIn K mainGlobals x=some (some (.int i t))):qF K mg x (.int i):=
 ⟨.int i,.int i t,W.mg_of X G a,⟨t,rfl⟩,fun F=>QG F⟩
def wM (n:Nat)(W B:Nat->Nat->Rat):Nat->Nat->Rat:=fun i j=>if j<n then W i j else B i (j - n)
theorem yaE {n m s:Nat}{W B:Nat->Nat->Rat}(h:ZC n n s W)(hb:ZC n m s B):ZC n (n+m) s (wM n W B):=fun i j hi hj=>by
 unfold wM;by_cases q:j<n
 ·rw[yc q];exact h i j hi q
 ·rw[yb q];exact hb i (j - n) hi (by omega)
theorem V7 {n:Nat}{W B:Nat->Nat->Rat}:∀ i j,i<n->j<n->wM n W B i j=W i j:=fun i j _ hj=>by
 unfold wM;rw[yc hj]
theorem xj {n:Nat}{W B:Nat->Nat->Rat}(h:Piv n W):Piv n (wM n W B):=fun k hk=>by
 rw[UB V7 k (by omega) k k hk hk];exact h k hk
theorem Ud {α:Type}{n:Nat}{f:Nat->α}:∀ {m:Nat} {g:Nat->α},tb n f++tb m g=tb (n+m) fun j=>if j<n then f j else g (j - n)
 |0,g=>by
  show tb n f++[]=tb n _;rw[Yl];exact ZB fun j hj=>by rw[yc hj]
 |m+1,g=>by
  rw[show n+(m+1)=(n+m)+1 from rfl,jy,jy,←List.append_assoc,Ud,yb (by omega),QT]
theorem yhP {n m i:Nat}{W B:Nat->Nat->Rat}:(tb n fun j=>sh (W i j))++(tb m fun j=>sh (B i j))=tb (n+m) fun j=>sh (wM n W B i j):=by
 rw[Ud];refine ZB fun j _=>?_;unfold wM;by_cases q:j<n
 ·rw[yc q,yc q]
 ·rw[yb q,yb q]
theorem yft {α:Type}{n m:Nat}{f:Nat->α}:(tb (n+m) f).drop n=tb m fun j=>f (n+j):=by
 refine al_ext_getElem? fun i=>?_;rw[List.getElem?_drop];by_cases h:i<m
 ·rw[jo h,jo (by omega)]
 ·rw[al_getElem?_eq_none_iff.mpr (by rw[Yv];omega),al_getElem?_eq_none_iff.mpr (by rw[Yv];omega)]
def ykm (n m s:Nat)(W B:Nat->Nat->Rat):Prop:=n<=1000/\m<=1000/\ZC n n s W/\ZC n m s B/\sK s n<=big
def yil:List D->D->Prop:=fun ds d=>∃ (n m s:Nat) (W B:Nat->Nat->Rat),ds=[shM n n W,shM n m B]/\d=shM n m (fun i j=>EK (wM n W B) n i (n+j))/\ykm n m s W B/\Piv n W
section
variable {κ κ' α β:Type}[DecidableEq κ][DecidableEq κ']{f:κ->κ'}{g:α->β}
theorem Kg (hf:∀ x y,f x=f y->x=y){k:κ}:∀ {ks:List κ} {xs:List α},vA (ks.map f) (xs.map g) (f k)=(vA ks xs k).map g
 |[],_=>rfl
 |_::_,[]=>rfl
 |q::ks,x::xs=>by
  have ih:=Kg hf (k:=k) (ks:=ks) (xs:=xs);unfold vA at ih ⊢;rw[yn,yn,yM,yM,al_find?_cons,al_find?_cons];by_cases e:q=k
  ·rw[yI e,yI (show f q=f k by rw[e])];rfl
  ·rw[yv e,yv (show ¬ f q=f k from fun z=>e (hf _ _ z))];exact ih
theorem Zr (hf:∀ x y,f x=f y->x=y){k:κ}{ks:List κ}:f k∈ks.map f ↔ k∈ks:=by
 rw[yo];exact⟨fun⟨x,h,e⟩=>hf _ _ e▸h,fun h=>⟨k,h,rfl⟩⟩
theorem xI (hf:∀ x y,f x=f y->x=y){k:κ}{ks:List κ}:pK (ks.map f) (f k)=(pK ks k).map f:=by
 unfold pK;by_cases h:k∈ks
 ·rw[yc h,yc ((Zr hf).mpr h)]
 ·rw[yb h,yb fun z=>h ((Zr hf).mp z),yr];rfl
theorem XD (hf:∀ x y,f x=f y->x=y){k:κ}{ks:List κ}{xs:List α}{v:α}:pA (ks.map f) (xs.map g) (f k) (g v)=(pA ks xs k v).map g:=by
 unfold pA;by_cases h:k∈ks
 ·rw[yc h,yc ((Zr hf).mpr h),List.zip_map,Yu,Yu];refine qr fun p _=>?_;show(if f p.1=f k then g v else g p.2)=g (if p.1=k then v else p.2);by_cases e:p.1=k
  ·rw[yc e,yc (by rw[e])]
  ·rw[yb e,yb fun z=>e (hf _ _ z)]
 ·rw[yb h,yb fun z=>h ((Zr hf).mp z),yr];rfl
theorem wD {k:κ}{v:α}:∀ {ks:List κ} {xs:List α},vA ks xs k=some v->v∈xs
 |[],_,h=>by simp[vA] at h
 |_::_,[],h=>by simp[vA] at h
 |q::ks,x::xs,h=>by
  unfold vA at h;rw[yM,al_find?_cons] at h;by_cases e:q=k
  ·rw[yI e] at h;cases h;exact yp
  ·rw[yv e] at h;exact yf _ (wD h)
theorem yhl {k:κ}{v x:α}{ks:List κ}{xs:List α}(h:x∈pA ks xs k v):x=v∨x∈xs:=by
 unfold pA at h;split at h
 ·obtain⟨p,hp,e⟩:=yo.mp h;split at e
  ·exact .inl e.symm
  ·exact .inr (e▸(Qd hp).2)
 ·rcases yY.mp h with z|z
  ·exact .inr z
  ·exact .inl (yu.mp z)
theorem xi {k:κ}{ks:List κ}:(pK ks k).length<=ks.length+1:=by
 unfold pK;split
 ·omega
 ·rw[yy];exact yg _
theorem yeA {k x:κ}{ks:List κ}(h:x∈pK ks k):x=k∨x∈ks:=by
 unfold pK at h;split at h
 ·exact .inr h
 ·rcases yY.mp h with z|z
  ·exact .inr z
  ·exact .inl (yu.mp z)
theorem yi5 {ks:List κ}{F:Nat->α}{k:κ}:∀ {i:Nat},ks.Nodup->ks[i]?=some k->vA ks (tb ks.length F) k=some (F i):=by
 induction ks generalizing F with
 |nil=>intro i _ h;simp at h
 |cons q ks ih=>
  intro i nd h;rw[ym,yeN];unfold vA;rw[yM,al_find?_cons];cases i with
  |zero=>
   rw[yI (show q=k by simpa using h)];rfl
  |succ i=>
   have hk:ks[i]?=some k:=by simpa using h
   have ne:¬ q=k:=fun e=>(yK.mp nd).1 (e▸al_mem_of_getElem? hk);rw[yv ne];exact ih (F:=fun i=>F (i+1)) (yK.mp nd).2 hk
end
def js (hs L:List Str)(rs:List yF):List yF:=rs.filter fun r=>qA hs L r.2.1
def qE (L:List Str)(r:yF):Bool:=match r.2.1 with|[x]=>decide (x∈L)|_=>false
def b0 (r:yF):Str:=r.2.1.headD ""
def kW (p:Str×Str):List Key:=[.inr p.1,.inr p.2]
def kS (p:Str×Nat×Nat):List Key:=[.inr p.1,.inl (p.2.1:Int),.inl (p.2.2:Int)]
theorem Xn:∀ x y,kW x=kW y->x=y:=fun⟨a,b⟩ ⟨c,d⟩ h=>by
 unfold kW at h;simp only[List.cons.injEq,Sum.inr.injEq,and_true] at h;rw[h.1,h.2]
theorem xV:∀ x y,kS x=kS y->x=y:=fun⟨a,b,c⟩ ⟨d,e,f⟩ h=>by
 unfold kS at h;simp only[List.cons.injEq,Sum.inr.injEq,Sum.inl.injEq,and_true,Int.ofNat_inj] at h;rw[h.1,h.2.1,h.2.2]
def qj:Str->Key:=Sum.inr
theorem zo:∀ x y,qj x=qj y->x=y:=fun x y h=>Sum.inr.inj h
def JY (ss:List yF)(h o:Str):Rat:=(vA (ss.map fun r=>(r.1,b0 r)) (ss.map (·.2.2)) (h,o)).getD 0
abbrev Kn:=List (Str×Nat×Nat)×List Rat
def knK (kn:Kn):List (List Key):=kn.1.map kS
def knV (kn:Kn):List D:=kn.2.map sh
def knD (kn:Kn):D:=.dt (knK kn) (knV kn)
def zb (kn:Kn)(h:Str)(i j:Nat):Rat:=(vA kn.1 kn.2 (h,i,j)).getD 0
def Wa (kn:Kn)(h:Str)(i j:Nat)(t:Rat):Kn:=(pK kn.1 (h,i,j),pA kn.1 kn.2 (h,i,j) t)
def woS (hs row:List Str)(kn:Kn)(i j:Nat)(x:Str):Rat:=if x∈hs then zb kn x i j else if j=i+1/\row[i]?=some x then 1 else 0
abbrev En:=List Str×List Rat
def enD (e:En):D:=.dk (e.1.map qj) (e.2.map sh)
def chS (L:List Str)(ch:Nat->Nat->Rat)(h o:Str):Rat:=ch (L.idxOf h) (L.idxOf o)
def chD (L:List Str)(ch:Nat->Nat->Rat):D:=.dk (L.map qj) (tb L.length fun i=>.dk (L.map qj) (tb L.length fun j=>sh (ch i j)))
def Jq (ps:List (Rat×Rat)):Rat:=ps.foldl (fun a p=>a+p.1*p.2) 0
def vY (L:List Str)(ch:Nat->Nat->Rat)(e:En)(h:Str):List (Rat×Rat):=e.1.map fun o=>(chS L ch h o,(vA e.1 e.2 o).getD 0)
def Z6 (L:List Str)(ch:Nat->Nat->Rat)(e:En)(h:Str):Rat:=Jq (vY L ch e h)
def qL (L:List Str)(ch:Nat->Nat->Rat)(e:En)(i j:Nat)(kn:Kn)(h:Str):Kn:=if Z6 L ch e h=0 then kn else Wa kn h i j (Z6 L ch e h)
def qK (n:Nat):List (Nat×Nat):=(List.range n).flatMap fun l=>(List.range (n - l)).map fun i=>(i,i+l+1)
def uL (p:Nat×Nat):D:=.tup [.int (p.1:Int),.int (p.2:Int)]
def Zj (p:Rat×Rat):D:=.tup [sh p.1,sh p.2]
def sF:List Str:=["grammar", "row", "known_heads", "branches", "chains", "known_sums", "known_worths"]
def yiP (n s:Nat):Nat:=n*(4*s+2)+2
def yjE:List D->D->Prop:=fun ds d=>∃ (ps:List (Rat×Rat)) (s:Nat),ds=[.lst (ps.map Zj)]/\d=sh (Jq ps)/\(∀ p∈ps,(0<=p.1/\Sz s p.1)/\0<=p.2/\Sz s p.2)/\yiP ps.length s<=big/\s<=10000000
def yh0:List D->D->Prop:=fun ds d=>∃ row:List Str,ds=[Ye row]/\d=.lst ((qK row.length).map uL)/\row.length<=10
noncomputable def ygf (C:Addr):List D->D->Prop:=fun ds d=>∃ (st:Str) (rs:List yF),ds=[gD C st rs]/\d=.lst (yJ (js (yz rs) (jN (yz rs) rs) rs))/\rs.length<=30/\∀ r∈rs,r.2.1.length<=4
def ygg:List D->D->Prop:=fun ds d=>∃ (r:yF) (L:List Str),ds=[Jf r,.lst (yB L)]/\d=.bl (qE L r)
def wM2 (L:List Str)(ss:List yF):Nat->Nat->Rat:=fun i j=>JY ss (L.getD i "") (L.getD j "")
def idM (L:List Str):Nat->Nat->Rat:=fun i j=>if L.getD i "" = L.getD j "" then 1 else 0
def chF (L:List Str)(ss:List yF):Nat->Nat->Rat:=fun i j=>EK (wM L.length (wM2 L ss) (idM L)) L.length i (L.length+j)
def ydF:List D->D->Prop:=fun ds d=>∃ (L:List Str) (ss:List yF) (s:Nat),ds=[.lst (yB L),.lst (yJ ss)]/\d=chD L (chF L ss)/\L.Nodup/\L.length<=30/\ss.length<=30/\(∀ r∈ss,∃ x,r.2.1=[x])/\(ss.map fun r=>(r.1,b0 r)).Nodup/\(∀ r∈ss,0<=r.2.2/\Sz s r.2.2)/\1<=s/\sK s L.length<=big/\Piv L.length (wM2 L ss)
def sO (Cs:Addr)(g row hs br ch kn kw:D):D:=.obj Cs sF [g,row,hs,br,ch,kn,kw]
def ycU (Cs:Addr):List D->D->Prop:=fun ds d=>∃ (g row hs br ch kw:D) (kn:Kn) (h:Str) (i j:Nat),ds=[sO Cs g row hs br ch (knD kn) kw,.str h,.int (i:Int),.int (j:Int)]/\d=sh (zb kn h i j)
noncomputable def ycm (Cs Cg:Addr):List D->D->Prop:=fun ds d=>∃ (st:Str) (rs:List yF) (row:List Str) (hs br ch kw:D) (kn:Kn),ds=[sO Cs (gD Cg st rs) (Ye row) hs br ch (knD kn) kw]/\d=sh (zb kn st 0 row.length)
def ygK (Cs:Addr):List D->D->Prop:=fun ds d=>∃ (g br ch kw:D) (row hs:List Str) (kn:Kn) (x:Str) (i j:Nat),ds=[sO Cs g (Ye row) (.lst (yB hs)) br ch (knD kn) kw,.str x,.int (i:Int),.int (j:Int)]/\d=sh (woS hs row kn i j x)/\i<row.length
def ybw:List D->D->Prop:=fun ds d=>∃ (c:Int) (m:Nat),ds=[.int c,.int (m:Int)]/\d=.lst (yB ((List.range m).map (ZS c)))/\m<=20
def XR (sy b:List Str):Prop:=1<=b.length/\b.length<=4/\∀ x∈b,x∈sy
def Wk (sy:List Str)(bs:List (List Str)):Prop:=bs≠[]/\bs.length<=3/\bs.Nodup/\∀ b∈bs,XR sy b
def ybz:List D->Prop:=fun ds=>∃ (hs ws:List Str) (f:Bool),ds=[.lst (yB hs),.lst (yB ws),.bl f]/\ws≠[]/\hs.length<=4/\ws.length<=3
def yeU:List D->D->Prop:=fun ds d=>∃ (hs ws:List Str) (f:Bool) (bs:List (List Str)),ds=[.lst (yB hs),.lst (yB ws),.bl f]/\d=.lst (bs.map Ye)/\Wk (hs++ws) bs
def ybq:List D->Prop:=fun ds=>∃ hs ws:List Str,ds=[.lst (yB hs),.lst (yB ws)]/\ws≠[]/\hs.length<=4/\ws.length<=3
def yew:List D->D->Prop:=fun ds d=>∃ (hs ws:List Str) (ps:List (Str×Grp)),ds=[.lst (yB hs),.lst (yB ws)]/\d=.lst (yJ (jW ps))/\ps.map (·.1)=hs/\∀ p∈ps,GrpOk (hs++ws) p.2
def v0 (K:W.Frag):Sp:=fun vs H Q _=>∃ (c o:Int) (m:Nat) (F:Hp),vs=[.int c,.int o,.int (m:Int)]/\1<=m/\m<=4/\yP F H/\
 ∀ (hs ws:List Str) (rs:List yF),GOk hs ws rs->hs.length<=m->∀ (v:V) (H' F':Hp),Pur F H F' H'->Is K F' (.tup [.lst (yB hs),.lst (yB ws),.lst (yJ rs)]) v->Q v H'
theorem v0.len {K:W.Frag}{vs:List V}{H:Hp}{Q:VK}{E:XK}(h:v0 K vs H Q E):vs.length=3:=by
 obtain⟨c,o,m,F,rfl,_⟩:=h;rfl
theorem yix {X:Cx}{B:Bs}{Γ:Ga}{Ω:Om}{x:Str}{ps:List Str}{k:Nat}{a b c:Expr}{p pos:Pos}{i j:Int}{m:Nat}{R:D->Om->Prop}(o:OkF X.prog X.w X.K X.mg X.base CX0 k x ps (v0 X.K))(hr:Room k X.A)(hg:Gl X x)(ha:P3 X Γ a (.int i))(hb:P3 X Γ b (.int j))(hc:P3 X Γ c (.int (m:Int)))(h1:1<=m)(h2:m<=4)
  (h:∀ hs ws rs,GOk hs ws rs->hs.length<=m->R (.tup [.lst (yB hs),.lst (yB ws),.lst (yJ rs)]) Ω) (hdb:(x==("__debug__" : Str))=false:=by decide)
  (he:starEach [a,b,c] X.env=(false,eval a X.env)::starEach [b,c] X.env:=by rfl) (he2:starEach [b,c] X.env=(false,eval b X.env)::starEach [c] X.env:=by rfl) (he3:starEach [c] X.env=(false,eval c X.env)::starEach [] X.env:=by rfl) (hpl:(backTo pos (starEach [b,c] X.env)).any (·.1)=false:=by rfl):V3 X B (.Call (.Name x p) [a,b,c] [] pos) Γ Ω R:=fun F σ H S pins s I=>
 VJ o hr hg (yd ha (yd hb (yd hc yt he3) he2) he) hdb he hpl pins s σ H _ I ⟨F,S.fh,S.sl,fun vs H' F' pu i=>by
  dsimp only;rw[Yl];simp only[IsL] at i;obtain⟨x1,r1,rfl,i1,x2,r2,rfl,i2,x3,r3,rfl,i3,rfl⟩:=i;cases isI i1;cases isI i2;cases isI i3;exact⟨_,_,m,F',rfl,h1,h2,pu.fh,fun hs ws rs g hl v H2 F2 p2 iv=>⟨_,Ω,F2,S.pur (pu.trans p2),pu.ff.trans p2.ff,iv,h hs ws rs g hl⟩⟩⟩
theorem yfF {P:Program}{w:World}{K:W.Frag}{mg:Str->Option Value}{base:Heap}{x:Str}{st:Stmt}{N ps:List Str}{k:Nat}(d:yZ K mg x st ps)(S:FnScope N ps (yj st))(hn:ps.length=3)
  (body:∀ (f:Addr) (cdv:Value) (A:Around) (outer:List Env) (s:Shared) (H:Hp) (E:XK),Room k (A.deeper (envOfC x (yj st) s.heap.objs.size f cdv))->∀ (c o:Int) (m:Nat),1<=m->m<=4->∀ B:Bs,B.M=[]->
   W3 (cx0 P w K mg base N x st f cdv A outer s H E) B (YR st) (Ql N [.int c,.int o,.int (m:Int)]) [] ⟨fun _ _=>False,fun r _=>∃ hs ws rs,GOk hs ws rs/\hs.length<=m/\r=.tup [.lst (yB hs),.lst (yB ws),.lst (yJ rs)],fun _ _=>False,fun _ _=>False⟩):OkF P w K mg base CX0 (k+1) x ps (v0 K):=by
 refine d.ok S (fun vs H Q E h=>(v0.len h).trans hn.symm) fun f cdv A outer s H vs Q E hr h=>⟨_,qu,?_⟩
 obtain⟨c,o,m,F,rfl,h1,h2,fh,q⟩:=h;have il:IsL K F [.int c,.int o,.int (m:Int)] [.int c,.int o,.int (m:Int)]:=IsL.cons (QG F) (IsL.cons (QG F) (IsL.cons (QG F) IsL.nil));refine qh (D:=E3.to K ⟨[],F,H⟩ F ⟨fun _ _=>False,fun r _=>∃ hs ws rs,GOk hs ws rs/\hs.length<=m/\r=.tup [.lst (yB hs),.lst (yB ws),.lst (yJ rs)],fun _ _=>False,fun _ _=>False⟩) (D':={nx:=fun _ H'=>Q .non H',rt:=Q}) ?_ ?_ ?_ ?_ (body f cdv A outer s H E hr c o m h1 h2 ⟨[],F,H⟩ rfl F _ H (Sat.entry fh il))
 ·rintro σ' H' ⟨_,_,_,_,_,z⟩;exact z.elim
 ·rintro v H' ⟨r,Ω',F',⟨σ',S'⟩,f',iv,hs,ws,rs,g,hl,rfl⟩;exact q hs ws rs g hl v H' F' (S'.toPur rfl) iv
 ·rintro σ' H' ⟨_,_,_,_,_,z⟩;exact z.elim
 ·rintro σ' H' ⟨_,_,_,_,_,z⟩;exact z.elim
theorem yfB {ds:List D}{m n:Nat}(h:n<=ds.length)(hm:m<=ds.length):Zo ds (some (m:Int)) (some (n:Int))=(ds.drop m).take (n - m):=by
 unfold Zo;rw[show HT.sIx ds.length 0 (some (m:Int))=m from vQ hm,show HT.sIx ds.length ds.length (some (n:Int))=n from vQ h]
theorem u0 {xs:List Str}{n:Nat}:(yB xs).take n=yB (xs.take n):=by unfold yB;rw[List.map_take]
theorem ybH {xs:List Str}{n:Nat}:(yB xs).drop n=yB (xs.drop n):=by unfold yB;rw[List.map_drop]
theorem yiz {sy:List Str}{bs:List (List Str)}{ns:List Int}(hb:Wk sy bs)(hl:ns.length=bs.length)(hn:∀ x∈ns,1<=x/\x<=5):GrpOk sy ((bs.zip ns).map fun p=>(p.1,Rat.divInt p.2 ns.sum)):=by
 obtain⟨h1,h2,h3,h4⟩:=hb;have hs:∀ {l:List Int},(∀ x∈l,1<=x/\x<=5)->(l.length:Int)<=l.sum/\l.sum<=5*l.length:=by
  intro l
  induction l with
  |nil=>intro _;simp
  |cons a l ih=>
   intro h;have a1:=h a (by simp);have a2:=ih fun x hx=>h x (yf _ hx);rw[Yn,ym];omega
 have b0:0<bs.length:=YU.mpr h1;have hw:=hs hn;have w0:0<ns.sum:=by omega
 refine⟨?_,?_,?_,?_,fun p hp=>?_,fun p hp=>?_⟩
 ·intro z;have:=congrArg List.length z;rw[ye,YA,Yq] at this;omega
 ·rw[ye,YA];omega
 ·rw[Yu,show((fun x:List Str×Rat=>x.1) ∘ fun p:List Str×Int=>(p.1,Rat.divInt p.2 ns.sum))=Prod.fst from rfl,List.map_fst_zip (by omega)];exact h3
 ·rw[Yu,show((fun x:List Str×Rat=>x.2) ∘ fun p:List Str×Int=>(p.1,Rat.divInt p.2 ns.sum))=(fun n=>Rat.divInt n ns.sum) ∘ Prod.snd from rfl,←Yu,List.map_snd_zip (by omega)];have go:∀ {l:List Int},(l.map fun n=>Rat.divInt n ns.sum).sum=Rat.divInt l.sum ns.sum:=by
   intro l
   induction l with
   |nil=>simp[Rat.zero_divInt]
   |cons a l ih=>
    rw[yn,Yn,Yn,ih,qJ _ _ (by omega) (by omega),←Int.add_mul,Rat.divInt_mul_right (by omega)]
  rw[go];exact Rat.divInt_self' (by omega)
 ·obtain⟨q,hq,rfl⟩:=yo.mp hp;exact h4 q.1 (Qd hq).1
 ·obtain⟨q,hq,rfl⟩:=yo.mp hp;have a:=hn q.2 (Qd hq).2;have z:=jP (n:=5) w0 (show q.2.natAbs<2 ^ 5 by omega) (show ns.sum.natAbs<2 ^ 5 by omega);refine⟨?_,z.1,z.2⟩;refine Rat.lt_of_le_of_ne (Rat.divInt_nonneg (by omega) (by omega)) fun z=>?_;have z:0=Rat.divInt q.2 ns.sum:=z;have e:=My.q_cross (t:=q.2) w0;rw[←z,show(0:Rat).num=0 from rfl,show(0:Rat).den=1 from rfl] at e;omega
theorem ych {X:Cx}{ds es:List D}(hz:ds.length+es.length<=sizeLine):∀ (x y:V) (H F:Hp) (Q:VK),yP F H->Is X.K F (.tup ds) x->Is X.K F (.tup es) y->(∀ v H' F',Pur F H F' H'->Is X.K F' (.tup (ds++es)) v->Q v H')->ycH X.K x y H Q:=fun x y H F Q fh i1 i2 k=>by
 obtain⟨l,xs,rfl,s1,j1⟩:=isT i1;obtain⟨l2,ys,rfl,s2,j2⟩:=isT i2;have e1:=j1.len;have e2:=j2.len;refine⟨l,l2,xs,ys,rfl,rfl,Qe fh s1,Qe fh s2,by rw[e1,e2];exact hz,fun z=>?_,fun z=>?_,fun q hq=>k _ _ _ (Pur.lay fh hq) (Is.tupI (.inl (.inl yL)) ((j1.append j2).mono (Pur.lay fh hq).ff))⟩
 ·have:ds=[]:=Q0.mp (by rw[←e1,z];rfl);subst this;exact k _ _ _ (Pur.refl fh) (Is.tupI s2 j2)
 ·have:es=[]:=Q0.mp (by rw[←e2,z];rfl);subst this;rw[Yl] at k;exact k _ _ _ (Pur.refl fh) (Is.tupI s1 j1)
theorem xD {n i:Nat}{d:D}(h:(V2 0 n)[i]?=some d):i<n/\d=.int (i:Int):=by
 unfold V2 at h;have hi:i<n:=by
  have:=(al_getElem?_eq_some_iff.mp h).1;simpa using this
 rw[al_getElem?_map,al_getElem?_range hi] at h;refine⟨hi,?_⟩;have h':D.int (0+(i:Int))=d:=by simpa using h
 rw[←h',Int.zero_add]
theorem wu {n:Nat}:(V2 0 n).length=n:=by unfold V2;simp
theorem yh5 {r:Int}(h1:0<=r)(h2:r<6):∃ w:Int,0<=w/\w<=3/\atI [D.int 0,.int 1,.int 1,.int 2,.int 0,.int 3] r=some (.int w):=by
 have:r=0∨r=1∨r=2∨r=3∨r=4∨r=5:=by omega
 rcases this with rfl|rfl|rfl|rfl|rfl|rfl <;> exact⟨_,by decide,by decide,rfl⟩
theorem yfT {so:List Str}{r:Int}(h1:0<=r)(h2:r<so.length):∃ x∈so,atI (yB so) r=some (.str x):=by
 obtain⟨k,rfl⟩:=Yz h1;have hk:k<so.length:=by omega
 refine⟨so[k],List.getElem_mem hk,j7 ?_⟩;unfold yB;rw[al_getElem?_map,al_getElem?_eq_getElem hk];rfl
theorem yf9 {c:Int}{k p:Nat}(q:Int)(h:q=(stp c k p:Nat)):atI yde.cps.toList (q % 52)=some (lt (stp c k p % 52)):=by
 have e:q % 52=((stp c k p % 52:Nat):Int):=by omega
 rw[e];exact j7 (ydd ⟨stp c k p % 52,Nat.mod_lt _ (by decide)⟩)
theorem yb6 {bs:List (List Str)}{ns:List Int}{j:Nat}{d:D}(h:(vt (bs.map Ye) (ns.map D.int))[j]?=some d):∃ b n,(bs.zip ns)[j]?=some (b,n)/\d=.tup [Ye b,.int n]:=by
 unfold vt at h;rw[List.zip_map,Yu,al_getElem?_map] at h;obtain⟨p,h1,h2⟩:=y7.mp h;exact⟨p.1,p.2,h1,h2.symm⟩
theorem ybN {bs:List (List Str)}{ns:List Int}:(vt (bs.map Ye) (ns.map D.int)).length=(bs.zip ns).length:=by
 unfold vt;rw[List.zip_map,Yu,ye]
theorem yeb:∀ {l:List Int},(∀ x∈l,1<=x/\x<=5)->(l.length:Int)<=l.sum
 |[],_=>by simp
 |a::l,h=>by
  have a1:=h a (by simp);have a2:=yeb (l:=l) fun x hx=>h x (yf _ hx);rw[Yn,ym];omega
theorem yeD {l:List Nat}{c:Nat}:(⟨l.toArray⟩:Str)++⟨#[c]⟩=⟨(l++[c]).toArray⟩:=by
 show Str.mk (l.toArray++#[c])=_;simp
theorem xp {rs:List yF}{h:Str}{g:Grp}{p:List Str×Rat}:yJ (rs++grp h (g++[p]))=yJ (rs++grp h g)++[Jf (h,p.1,p.2)]:=by
 unfold yJ grp;simp
section
variable {X:Cx}{B:Bs}{Γ:Ga}{Ω:Om}{E:E3}{rest body:List Stmt}{e c:Expr}{pos:Pos}{x:Str}{ds es:List D}{d:D}
theorem yeF {i:Nat}{a:Addr}{apos np ppos:Pos}(hi:X.N[i]?=some x)(hv:Vis X.env.scope x)(hΓ:Γ[i]?=some (some (.raw (.ref a))))(he:PF3 X Γ e es)(hz:ds.length+es.length<=sizeLine)(h:W3 X B rest Γ ((a,qg X.K (ds++es))::Ω) E)
  (hs:∀ {t:TE},PE X (.Call (.Attribute (.Name x np) "extend" apos) [e] [] ppos) t->PS X (.Expr (.Call (.Attribute (.Name x np) "extend" apos) [e] [] ppos) pos) (yaG t):=by exact fun h=>vL h)
  (hd:(x==("__debug__" : Str))=false:=by decide) (hcd:(x==("__classdict__" : Str))=false:=by decide) (hst:starEach [e] X.env=(false,eval e X.env)::starEach [] X.env:=by rfl)
  (hp:∀ {to:TE} {ta:TA},PE X (.Name x np) to->PA X [e] ta->PE X (.Call (.Attribute (.Name x np) "extend" apos) [e] [] ppos) (tBM X.K "list" ybf to ta):=by exact fun a b=>yfd PySem.F.plainAttrs_list PySem.F.slot_list_extend PySem.F.type_list_extend ybB a b) :
  W3 X B (.Expr (.Call (.Attribute (.Name x np) "extend" apos) [e] [] ppos) pos::rest) Γ ((a,qg X.K ds)::Ω) E:=fun F σ H S pins s I=>by
 obtain⟨v,e1,e2⟩:=S.sl i _ hΓ;cases isR e2;obtain⟨fa,o0,ha,ho⟩:=S.own (a,qg X.K ds) (by simp);obtain⟨xs,rfl,il⟩:=ho F (yP.refl _);refine YX (hs (hp (k8 hi hv hd hcd) (Jo he Zx hst))) qu pins s σ H _ I ⟨_,e1,.inl ⟨rfl,_,SqL.of ha⟩,F,S.fh,S.sl,fun p ys H' F' pu hp fp e' iv=>?_⟩;have S1:=S.pur pu;exact⟨a,p,xs,ys,rfl,rfl,pu.hh _ _ ha,e',by rw[il.len,iv.len];exact hz,Y3 pu.ff (h F' σ _ (S1.turn fun F2 e2=>⟨_,rfl,(il.mono (pu.ff.trans e2)).append (iv.mono e2)⟩))⟩
end
structure SopOk (s:Nat)(ps:List (Rat×Rat))(n:Nat)(t b:Int):Prop where
 t0:0<=t
 b0:0<b
 tb:t.natAbs<2 ^ (n*(2*s+1)+1)
 bb:b.natAbs<2 ^ (n*(2*s+1)+1)
 e:Rat.divInt t b=Jq ps
theorem yjq {s:Nat}{ps:List (Rat×Rat)}:SopOk s (ps.take 0) 0 0 1:=⟨Int.le_refl _,by decide,by rw[Nat.zero_mul];decide,by rw[Nat.zero_mul];decide,by simp[Jq]⟩
theorem v6 {ps:List (Rat×Rat)}{p:Rat×Rat}:Jq (ps++[p])=Jq ps+p.1*p.2:=by
 unfold Jq;rw[Ym];rfl
theorem SopOk.skip {s n:Nat}{ps:List (Rat×Rat)}{p:Rat×Rat}{t b:Int}(h:SopOk s ps n t b)(hp:p.1=0∨p.2=0):SopOk s (ps++[p]) (n+1) t b:=by
 have hm:2 ^ (n*(2*s+1)+1)<=2 ^ ((n+1)*(2*s+1)+1):=YC (by decide) (by rw[QP n 1,jF];omega);refine⟨h.t0,h.b0,yH h.tb hm,yH h.bb hm,?_⟩;rw[v6,h.e];rcases hp with z|z
 ·rw[z,Rat.zero_mul,Qb]
 ·rw[z,Rat.mul_zero,Qb]
theorem ZJ {x y g:Int}(h:0<g):Rat.divInt (x*g) (y*g)=Rat.divInt x y:=Rat.divInt_mul_right (by omega)
theorem yie {t b n e:Int}(hb:0<b)(he:0<e):Rat.divInt (t*(e / My.G b e)+n*(b / My.G b e)) (b / My.G b e*e)=Rat.divInt t b+Rat.divInt n e:=by
 have g0:0<My.G b e:=My.G_pos he;obtain⟨b',eb⟩:My.G b e ∣ b:=by have:=Int.gcd_dvd_left b e;exact this
 obtain⟨e',ee⟩:My.G b e ∣ e:=by have:=Int.gcd_dvd_right b e;exact this
 generalize hg:My.G b e=g at *;have d1:b / g=b':=by rw[eb,Qz _ (by omega)]
 have d2:e / g=e':=by rw[ee,Qz _ (by omega)]
 rw[d1,d2,qJ _ _ (by omega) (by omega),←ZJ (x:=t*e'+n*b') (y:=b'*e) g0];congr 1
 ·rw[ee,eb];grind
 ·rw[eb];grind
theorem SopOk.more {s n:Nat}{ps:List (Rat×Rat)}{p:Rat×Rat}{t b:Int}(h:SopOk s ps n t b)(h1:0<=p.1/\Sz s p.1)(h2:0<=p.2/\Sz s p.2) :
  SopOk s (ps++[p]) (n+1) (t*((p.1.den:Int)*(p.2.den:Int) / My.G b ((p.1.den:Int)*(p.2.den:Int)))+p.1.num*p.2.num*(b / My.G b ((p.1.den:Int)*(p.2.den:Int)))) (b / My.G b ((p.1.den:Int)*(p.2.den:Int))*((p.1.den:Int)*(p.2.den:Int))):=by
 have he:0<(p.1.den:Int)*(p.2.den:Int):=jg (My.den_pos' _) (My.den_pos' _);have g0:0<My.G b ((p.1.den:Int)*(p.2.den:Int)):=My.G_pos he;have n1:=My.q_num_nn h1.1;have n2:=My.q_num_nn h2.1;have eb:((p.1.den:Int)*(p.2.den:Int)).natAbs<2 ^ (s+s):=YZ (QQ h1.2) (QQ h2.2);have c1:=Kh (a:=b) (g:=My.G b ((p.1.den:Int)*(p.2.den:Int))) (yx h.b0) g0;have c2:=Kh (a:=(p.1.den:Int)*(p.2.den:Int)) (g:=My.G b ((p.1.den:Int)*(p.2.den:Int))) (yx he) g0;have b1:=Zh c1 h.bb;have b2:=Zh c2 eb;have bn:(p.1.num*p.2.num).natAbs<2 ^ (s+s):=YZ h1.2.1 h2.2.1;have x1:=YZ h.tb b2;have x2:=YZ bn b1;have x3:=YZ b1 eb;have eX:n*(2*s+1)+1+(s+s)+1=(n+1)*(2*s+1)+1:=by rw[QP n 1,jF];omega
 have e2:2 ^ ((n+1)*(2*s+1)+1)=2 ^ (n*(2*s+1)+1+(s+s))+2 ^ (n*(2*s+1)+1+(s+s)):=by rw[←eX,QK];omega
 rw[Nat.add_comm (s+s)] at x2;refine⟨Int.add_nonneg (Qa h.t0 c2.1) (Qa (Qa n1 n2) c1.1),jg ?_ he,?_,?_,?_⟩
 ·obtain⟨q,hq⟩:My.G b ((p.1.den:Int)*(p.2.den:Int)) ∣ b:=by have:=Int.gcd_dvd_left b ((p.1.den:Int)*(p.2.den:Int));exact this
  have hb:=h.b0;generalize My.G b ((p.1.den:Int)*(p.2.den:Int))=g at *;subst hq;rw[Qz _ (by omega)];exact Int.pos_of_mul_pos_right hb g0
 ·rw[e2];exact Qq (Int.natAbs_add_le _ _) (by omega)
 ·rw[e2];omega
 ·rw[yie h.b0 he,v6,h.e];congr 1;exact My.q_mul p.1 p.2
theorem kd {α:Type}{f:α->D}{xs:List α}{i:Nat}{d:D}(h:(xs.map f)[i]?=some d):∃ x,xs[i]?=some x/\d=f x:=by
 rw[al_getElem?_map] at h;obtain⟨x,h1,h2⟩:=y7.mp h;exact⟨x,h1,h2.symm⟩
def uQ (n i:Nat):List (Nat×Nat):=(List.range i).flatMap fun l=>(List.range (n - l)).map fun j=>(j,j+l+1)
theorem KU {n i:Nat}:uQ n (i+1)=uQ n i++(List.range (n - i)).map fun j=>(j,j+i+1):=by
 unfold uQ;rw[Y9,Y6];simp
theorem yb7 {n i:Nat}:(uQ n i).length<=n*i:=by
 induction i with
 |zero=>simp[uQ]
 |succ i ih=>
  rw[KU,yy,ye,List.length_range,Nat.mul_succ];omega
theorem Ua {L:List Str}:yB L=(L.map qj).map Zq:=by unfold yB;rw[Yu];rfl
theorem KB {L:List Str}(h:L.Nodup):(L.map qj).Nodup:=by
 rw[List.nodup_iff_pairwise_ne,List.pairwise_map];exact(List.nodup_iff_pairwise_ne.mp h).imp fun a b=>a (zo _ _ b)
theorem yaJ {ss:List yF}{s:Nat}{h o:Str}(hs:∀ r∈ss,0<=r.2.2/\Sz s r.2.2)(h1:1<=s):0<=JY ss h o/\Sz s (JY ss h o):=by
 unfold JY;cases q:vA (ss.map fun r=>(r.1,b0 r)) (ss.map (·.2.2)) (h,o) with
 |none=>exact⟨by decide,wA.mono h1⟩
 |some v=>
  obtain⟨r,hr,e⟩:=yo.mp (wD q);rw[←e];exact hs r hr
theorem ydS {L:List Str}{F:Nat->Nat->Rat}{i:Nat}{d:D}(h:(vt (yB L) (tb L.length fun i=>shR L.length (F i)))[i]?=some d):∃ x,i<L.length/\L[i]?=some x/\d=.tup [.str x,shR L.length (F i)]:=by
 unfold vt at h;rw[al_getElem?_map] at h;obtain⟨p,h1,h2⟩:=y7.mp h;obtain⟨a,b⟩:=al_getElem?_zip_eq_some.mp h1;obtain⟨x,hx,ex⟩:=Qx a;have hi:i<L.length:=(al_getElem?_eq_some_iff.mp hx).1;rw[jo hi] at b;refine⟨x,hi,hx,?_⟩;rw[←h2,ex,←Option.some.inj b]
theorem ydA {L:List Str}{F:Nat->Nat->Rat}:(vt (yB L) (tb L.length fun i=>shR L.length (F i))).length=L.length:=by
 unfold vt;rw[ye,YA,Yo,Yv];omega
end L3
namespace Law
open PySem L2 L3
theorem Q3:FnScope ["one", "other", "rest"] ["one", "other"] (yj qB):=qC
theorem W4:FnScope ["top", "bottom", "divisor"] ["top", "bottom"] (yj J5):=qC
theorem vO:FnScope ["one", "other", "divisor", "top", "left"] ["one", "other"] (yj J9):=qC
theorem WW:FnScope ["one", "other"] ["one", "other"] (yj jI):=qC
theorem Ky:FnScope ["one", "other", "first", "second"] ["one", "other"] (yj zM):=qC
theorem ybv:FnScope ["one", "other"] ["one", "other"] (yj JV):=qC
theorem YO:FnScope ["pairs", "top", "bottom", "one", "other", "below", "divisor"] ["pairs"] (yj Y5):=qC
theorem xL:FnScope ["one", "other"] ["one", "other"] (yj Jm):=qC
theorem ZQ:FnScope ["self", "start", "rules"] ["self", "start", "rules"] (yj qc):=qC
theorem VA:FnScope ["self"] ["self"] (yj qO):=qC
theorem Ve:FnScope ["self"] ["self"] (yj qP):=qC
theorem Vi:FnScope ["self"] ["self"] (yj qV):=qC
theorem V1:FnScope ["self"] ["self"] (yj Qi):=qC
theorem JU:FnScope ["rules", "seen", "rule"] ["rules"] (yj Qv):=qC
theorem ZY:FnScope ["rule", "symbol"] ["rule"] (yj QW):=qC
theorem V4:FnScope ["text"] ["text"] (yj Qj):=qC
theorem wm:FnScope ["text"] ["text"] (yj QF):=qC
theorem UV:FnScope ["sign"] ["sign"] (yj jh):=qC
theorem Kx:FnScope ["start", "heads"] ["start", "heads"] (yj Qu):=qC
theorem jx:FnScope ["heads", "rules", "head", "total", "rule"] ["heads", "rules"] (yj QR):=qC
theorem Zn:FnScope ["rules", "heads", "rule"] ["rules"] (yj jC):=qC
theorem Jl:FnScope ["heads", "rules", "live", "grown", "found"] ["heads", "rules"] (yj jK):=qC
theorem Vr:FnScope ["head", "rules", "heads", "live"] ["head", "rules", "heads", "live"] (yj qv):=qC
theorem V5:FnScope ["body", "heads", "live"] ["body", "heads", "live"] (yj qI):=qC
theorem zL:FnScope ["row", "found", "length"] ["row"] (yj QH):=qC
theorem jc:FnScope ["ways", "ends", "rows", "k", "found"] ["ways", "ends"] (yj qk):=qC
theorem J7:FnScope ["row", "k", "left"] ["row", "k"] (yj qe):=qC
theorem Ue:FnScope ["row", "k", "found", "way"] ["row", "k", "found"] (yj zp):=qC
theorem Xv:FnScope ["row", "k"] ["row", "k"] (yj zy):=qC
theorem Qy:FnScope ["self", "grammar", "row", "live", "rules", "i", "j"] ["self", "grammar", "row"] (yj qU):=qC
theorem KH:FnScope ["self", "head", "i", "j"] ["self", "head", "i", "j"] (yj jw):=qC
theorem ue:FnScope ["self"] ["self"] (yj jU):=qC
theorem j6:FnScope ["self", "i", "j", "ends", "head", "total"] ["self", "i", "j"] (yj QY):=qC
theorem jz:FnScope ["self", "i", "j", "ends", "rule", "worth"] ["self", "i", "j"] (yj ja):=qC
theorem ul:FnScope ["self", "symbol", "i", "j"] ["self", "symbol", "i", "j"] (yj j9):=qC
theorem Je:FnScope ["self", "body", "i", "j"] ["self", "body", "i", "j"] (yj qG):=qC
theorem qM:FnScope ["self", "body", "i", "j", "pairs", "middle", "worth"] ["self", "body", "i", "j"] (yj Y2):=qC
theorem zd:FnScope ["grammar", "heads", "live"] ["grammar"] (yj jk):=qC
theorem XS:FnScope ["rule", "heads"] ["rule", "heads"] (yj zx):=qC
theorem qZ:FnScope ["heads", "steps", "straight", "rule", "ways", "ends", "head", "chains", "found"] ["heads", "steps"] (yj Q5):=qC
theorem k9:FnScope ["_law_script", "_law_k"] ["_law_script", "_law_k"] (yj jq):=qC
theorem xc:FnScope ["_law_cell"] ["_law_cell"] (yj JP):=qC
theorem Wx:FnScope ["_law_dice_here", "_law_most"] ["_law_dice_here", "_law_most"] (yj JJ):=qC
theorem YY:FnScope ["_law_cell", "_law_many", "_law_letters", "_law_size", "_law_at", "_law_out", "_law_k", "_law_name", "_law_place", "_law_step"] ["_law_cell", "_law_many"] (yj QZ):=qC
theorem jj:FnScope ["_law_top", "_law_bottom", "_law_one", "_law_other", "_law_rest"] ["_law_top", "_law_bottom"] (yj jM):=qC
theorem wq:FnScope ["_law_one", "_law_other"] ["_law_one", "_law_other"] (yj Jw):=qC
theorem Ut:FnScope ["_law_one", "_law_other"] ["_law_one", "_law_other"] (yj Ju):=qC
theorem Qc:FnScope ["_law_dice_here", "_law_heads", "_law_words", "_law_first", "_law_out", "_law_k", "_law_body", "_law_place", "_law_some"] ["_law_dice_here", "_law_heads", "_law_words", "_law_first"] (yj Jb):=qC
theorem QS:FnScope ["_law_dice_here", "_law_heads", "_law_words", "_law_out", "_law_head", "_law_bodies_here", "_law_weights", "_law_body", "_law_weight"] ["_law_dice_here", "_law_heads", "_law_words"] (yj jS):=qC
theorem Js:FnScope ["_law_cell", "_law_other", "_law_most", "_law_symbols_here", "_law_dice_here", "_law_heads", "_law_words"] ["_law_cell", "_law_other", "_law_most"] (yj JQ):=qC
theorem kM:FnScope ["_law_cell", "_law_words", "_law_most", "_law_dice_here"] ["_law_cell", "_law_words", "_law_most"] (yj JG):=qC
theorem jO:FnScope ["_law_rules_here", "_law_heads", "_law_words", "_law_out", "_law_head", "_law_some"] ["_law_rules_here", "_law_heads", "_law_words"] (yj jH):=qC
theorem Ja:FnScope ["_law_box", "_law_body", "_law_i", "_law_j", "_law_out", "_law_cut", "_law_one", "_law_rest"] ["_law_box", "_law_body", "_law_i", "_law_j"] (yj Q8):=qC
theorem QN:FnScope ["_law_box", "_law_symbol", "_law_i", "_law_j", "_law_key", "_law_out", "_law_head", "_law_body", "_law_own"] ["_law_box", "_law_symbol", "_law_i", "_law_j"] (yj Qs):=qC
theorem zR:FnScope ["_law_script", "_law_made_here", "_law_rules_here", "_law_row_here", "_law_box", "_law_due", "_law_one", "_law_found"] ["_law_script"] (yj wR):=qC
section
variable {P:Program}{w:World}{K:W.Frag}{mg:Str->Option Value}{base:Heap}{C_Grammar C_Sums:Addr}
variable (P w K mg base) in
abbrev yaS:Prop:=OkF P w K mg base CX0 2 "common_divisor" ["one", "other"] (spP K 2 yjQ)
theorem vS  (d:yZ K mg "common_divisor" qB ["one", "other"])  : yaS P w K mg base:=by
 refine YD d Q3 rfl fun f cdv A outer s H E hr ds r hC B hB=>?_;obtain⟨a,b,rfl,rfl,ha,hb⟩:=hC;refine UX PassesOwn.never (fun Γ _=>∃ (x y:Int) (z:Option D),Γ=[some (.int x),some (.int y),z]/\0<=x/\0<=y/\My.G x y=My.G a b) (fun Γ _=>match Γ with|[_,some (.int y),_]=>y.toNat|_=>0) ⟨a,b,none,rfl,ha,hb,rfl⟩ ?_;rintro Γ Ω ⟨x,y,z,rfl,hx,hy,hg⟩;refine⟨_,(Y8 (Xi (pq 1 rfl) yw)),fun hk=>?_,fun hk=>?_⟩
 ·have hk:=of_decide_eq_true hk;refine YL (i:=2) Q3.nd rfl (.inl rfl) (uW (pq 0 rfl) (pq 1 rfl) ?_) ?_
  ·exact hk
  refine YL (i:=0) Q3.nd rfl (.inl rfl) (pq 1 rfl) ?_;refine YL (i:=1) Q3.nd rfl (.inl rfl) (pq 2 rfl) ?_;refine yV ⟨⟨y,x % y,_,rfl,hy,(zX hk).1,(ybj hx hk).trans hg⟩,?_⟩;have:=zX (a:=x) hk;show(x % y).toNat<y.toNat
  omega
 ·have hk:=of_decide_eq_false hk;refine Y4 (pq 0 rfl) ?_;have y0:y=0:=by omega
  subst y0;rw[My.G_end hx] at hg;show D.int x=D.int (My.G a b);rw[hg]
variable (P w K mg base) in
abbrev yaO:Prop:=OkF P w K mg base CX0 33 "share" ["top", "bottom"] (spP K 2 yba)
theorem ycx (ht:P.given.tree=none)(d:yZ K mg "share" J5 ["top", "bottom"])(o_common_divisor:yaS P w K mg base):yaO P w K mg base:=by
 refine YD d W4 rfl fun f cdv A outer s H E hr ds r hC B hB=>?_;obtain⟨t,b,rfl,rfl,h1,h2⟩:=hC;have py:Pyl (cx0 P w K mg base ["top", "bottom", "divisor"] "share" J5 f cdv A outer s H E):=(kP ht rfl rfl hr (yg _)).nox;have g0:=My.G_pos (a:=t) h2;refine JA (Y8 (xT (pq 0 rfl) yw)) ?_ ?_
 ·intro hk;have hk:=of_decide_eq_true hk;omega
 ·intro hk;refine yV ?_;refine JA (Y8 (xT (pq 1 rfl) yw)) ?_ ?_
  ·intro hk;have hk:=of_decide_eq_true hk;omega
  ·intro hk;refine yV ?_;refine YL (i:=2) W4.nd rfl (.inl rfl) (Yi (d:=.int (My.G t b)) o_common_divisor (hr.mono (by decide)) rfl (yd (pq 0 rfl) (yd (pq 1 rfl) yt)) ?_) ?_
   ·exact⟨t,b,rfl,rfl,h1,yx h2⟩
   refine Y4 (QJ (yd (Q1 py (pq 0 rfl) (pq 2 rfl) ?_) (yd (Q1 py (pq 1 rfl) (pq 2 rfl) ?_) yt))) ?_
   ·exact g0
   ·exact g0
   show D.tup [D.int (t / My.G t b),D.int (b / My.G t b)]=sh (Rat.divInt t b);unfold sh;rw[←My.num_share h2,←My.den_share h2,yT _ (yx g0),yT _ (yx g0)]
variable (P w K mg base) in
abbrev yaZ:Prop:=OkF P w K mg base CX0 33 "added" ["one", "other"] (spP K 2 yai)
theorem ye1 (ht:P.given.tree=none)(d:yZ K mg "added" J9 ["one", "other"])(o_common_divisor:yaS P w K mg base):yaZ P w K mg base:=by
 refine YD d vO rfl fun f cdv A outer s H E hr ds r hC B hB=>?_;obtain⟨p,q,m,n,rfl,rfl,hp,hq,s1,s2,l1,l2,-⟩:=hC;have py:Pyl (cx0 P w K mg base ["one", "other", "divisor", "top", "left"] "added" J9 f cdv A outer s H E):=(kP ht rfl rfl hr (by decide)).nox;have g0:0<My.G p.den q.den:=My.G_pos (My.den_pos' q);have n1:=My.q_num_nn hp;have n2:=My.q_num_nn hq;have c1:=Kh (a:=(p.den:Int)) (g:=My.G p.den q.den) (yx (My.den_pos' p)) g0;have c2:=Kh (a:=(q.den:Int)) (g:=My.G p.den q.den) (yx (My.den_pos' q)) g0;refine YL (i:=2) vO.nd rfl (.inl rfl) (Yi (d:=.int (My.G p.den q.den)) o_common_divisor (hr.mono (by decide)) rfl (yd (yX (pq 0 rfl) yw rfl) (yd (yX (pq 1 rfl) yw rfl) yt)) ?_) ?_
 ·exact⟨_,_,rfl,rfl,yx (My.den_pos' p),yx (My.den_pos' q)⟩
 refine YL (i:=3) vO.nd rfl (.inl rfl) (Jg (jr (yX (pq 0 rfl) yw rfl) (Q1 py (yX (pq 1 rfl) yw rfl) (pq 2 rfl) ?_) ?_) (jr (yX (pq 1 rfl) yw rfl) (Q1 py (yX (pq 0 rfl) yw rfl) (pq 2 rfl) ?_) ?_)) ?_
 ·exact g0
 ·exact jX s1.1 (Zh c2 (QQ s2)) (by have:big=67108864:=rfl;omega)
 ·exact g0
 ·exact jX s2.1 (Zh c1 (QQ s1)) (by have:big=67108864:=rfl;omega)
 have t0:0<=p.num*((q.den:Int) / My.G p.den q.den)+q.num*((p.den:Int) / My.G p.den q.den):=Int.add_nonneg (Qa n1 c2.1) (Qa n2 c1.1);have e:=My.add_num n1 n2;generalize hT:p.num*((q.den:Int) / My.G p.den q.den)+q.num*((p.den:Int) / My.G p.den q.den)=T at *;have h0:0<My.G T (My.G p.den q.den):=My.G_pos g0;have c3:=Kh (a:=(q.den:Int)) (g:=My.G T (My.G p.den q.den)) (yx (My.den_pos' q)) h0;refine YL (i:=4) vO.nd rfl (.inl rfl) (Yi (d:=.int (My.G T (My.G p.den q.den))) o_common_divisor (hr.mono (by decide)) rfl (yd (pq 3 rfl) (yd (pq 2 rfl) yt)) ?_) ?_
 ·exact⟨_,_,rfl,rfl,t0,yx g0⟩
 refine Y4 (QJ (yd (Q1 py (pq 3 rfl) (pq 4 rfl) ?_) (yd (jr (Q1 py (yX (pq 0 rfl) yw rfl) (pq 2 rfl) ?_) (Q1 py (yX (pq 1 rfl) yw rfl) (pq 4 rfl) ?_) ?_) yt))) ?_
 ·exact h0
 ·exact g0
 ·exact h0
 ·exact jX (Zh c1 (QQ s1)) (Zh c3 (QQ s2)) (by have:big=67108864:=rfl;omega)
 show D.tup [D.int (T / My.G T (My.G p.den q.den)),D.int ((p.den:Int) / My.G p.den q.den*((q.den:Int) / My.G T (My.G p.den q.den)))]=sh (p+q);unfold sh;rw[e.1,e.2]
variable (P w K mg base) in
abbrev ycY:Prop:=OkF P w K mg base CX0 2 "is_less" ["one", "other"] (spP K 2 yiT)
theorem xZ  (d:yZ K mg "is_less" Jm ["one", "other"])  : ycY P w K mg base:=by
 refine YD d xL rfl fun f cdv A outer s H E hr ds r hC B hB=>?_;obtain⟨p,q,m,n,rfl,rfl,s1,s2,l1,l2⟩:=hC;refine Y4 (Zt (xT (jr (yX (pq 0 rfl) yw rfl) (yX (pq 1 rfl) yw rfl) ?_) (jr (yX (pq 1 rfl) yw rfl) (yX (pq 0 rfl) yw rfl) ?_))) ?_
 ·exact Vf s1 s2 l1 l2
 ·exact Vf s2 s1 l2 l1
 ·show D.bl (decide (p.num*q.den<q.num*p.den))=D.bl (decide (p<q));rw[decide_eq_decide.mpr (My.q_lt p q)]
variable (P w K mg base) in
abbrev yg6:Prop:=OkF P w K mg base CX0 34 "lessened" ["one", "other"] (spP K 2 xB)
theorem Wm  (d:yZ K mg "lessened" jI ["one", "other"])(o_share:yaO P w K mg base)(o_is_less:ycY P w K mg base):yg6 P w K mg base:=by
 refine YD d WW rfl fun f cdv A outer s H E hr ds r hC B hB=>?_;obtain⟨p,q,m,n,rfl,rfl,hp,hq,s1,s2,l1,l2,hle⟩:=hC;refine JA (zh (Yi (d:=.bl (decide (p<q))) o_is_less (hr.mono (by decide)) rfl (yd (pq 0 rfl) (yd (pq 1 rfl) yt)) ?_)) ?_ ?_
 ·exact⟨p,q,m,n,rfl,rfl,s1,s2,l1,l2⟩
 ·intro hk;have hk:=of_decide_eq_true hk;exact absurd hk (Rat.not_lt.mpr hle)
 ·intro hk;refine yV ?_;refine Y4 (Yi (d:=sh (p - q)) o_share (hr.mono (by decide)) rfl (yd (WY (jr (yX (pq 0 rfl) yw rfl) (yX (pq 1 rfl) yw rfl) ?_) (jr (yX (pq 1 rfl) yw rfl) (yX (pq 0 rfl) yw rfl) ?_)) (yd (jr (yX (pq 0 rfl) yw rfl) (yX (pq 1 rfl) yw rfl) ?_) yt)) ?_) ?_
  ·exact Vf s1 s2 l1 l2
  ·exact Vf s2 s1 l2 l1
  ·exact UR s1 s2 l1 l2
  ·exact⟨_,_,rfl,by rw[My.q_sub],yhR hle,xr⟩
  ·rfl
variable (P w K mg base) in
abbrev XZ:Prop:=OkF P w K mg base CX0 34 "timed" ["one", "other"] (spP K 2 ya2)
theorem ydw  (d:yZ K mg "timed" zM ["one", "other"])(o_share:yaO P w K mg base):XZ P w K mg base:=by
 refine YD d Ky rfl fun f cdv A outer s H E hr ds r hC B hB=>?_;obtain⟨p,q,m,n,rfl,rfl,hp,hq,s1,s2,l1,l2,-⟩:=hC;have n1:=My.q_num_nn hp;have n2:=My.q_num_nn hq;have z1:=jP (n:=max m n) (My.den_pos' q) (yH s1.1 (vH (Nat.le_max_left m n))) (yH (QQ s2) (vH (Nat.le_max_right m n)));have z2:=jP (n:=max m n) (My.den_pos' p) (yH s2.1 (vH (Nat.le_max_right m n))) (yH (QQ s1) (vH (Nat.le_max_left m n)));refine YL (i:=2) Ky.nd rfl (.inl rfl) (Yi (d:=sh (Rat.divInt p.num q.den)) o_share (hr.mono (by decide)) rfl (yd (yX (pq 0 rfl) yw rfl) (yd (yX (pq 1 rfl) yw rfl) yt)) ?_) ?_
 ·exact⟨_,_,rfl,rfl,n1,My.den_pos' q⟩
 refine YL (i:=3) Ky.nd rfl (.inl rfl) (Yi (d:=sh (Rat.divInt q.num p.den)) o_share (hr.mono (by decide)) rfl (yd (yX (pq 1 rfl) yw rfl) (yd (yX (pq 0 rfl) yw rfl) yt)) ?_) ?_
 ·exact⟨_,_,rfl,rfl,n2,My.den_pos' p⟩
 refine Y4 (QJ (yd (jr (yX (pq 2 rfl) yw rfl) (yX (pq 3 rfl) yw rfl) ?_) (yd (jr (yX (pq 2 rfl) yw rfl) (yX (pq 3 rfl) yw rfl) ?_) yt))) ?_
 ·exact yc1 z1 z2 (by omega) (by omega)
 ·exact UR z1 z2 (by omega) (by omega)
 show D.tup [D.int ((Rat.divInt p.num q.den).num*(Rat.divInt q.num p.den).num),D.int (((Rat.divInt p.num q.den).den:Int)*((Rat.divInt q.num p.den).den:Int))]=sh (p*q);exact(yhz p q).symm
variable (P w K mg base) in
abbrev yhh:Prop:=OkF P w K mg base CX0 35 "parted" ["one", "other"] (spP K 2 ycj)
theorem yca (g_NOUGHT:qF K mg "NOUGHT" (sh 0))(d:yZ K mg "parted" JV ["one", "other"])(o_timed:XZ P w K mg base):yhh P w K mg base:=by
 refine YD d ybv rfl fun f cdv A outer s H E hr ds r hC B hB=>?_;obtain⟨p,q,m,n,rfl,rfl,hp,hq,s1,s2,l1,l2,h0⟩:=hC;have hu:=hr.units;refine JA (Y8 (WM hr.units (pq 1 rfl) (qa g_NOUGHT rfl) Jz Jy)) ?_ ?_
 ·intro hk;rw[jE] at hk;have hk:=of_decide_eq_true hk;rw[hk] at h0;exact absurd h0 (by decide)
 ·intro hk;refine yV ?_;refine Y4 (Yi (d:=sh (p / q)) o_timed (hr.mono (by decide)) rfl (yd (pq 0 rfl) (yd (QJ (yd (yX (pq 1 rfl) yw rfl) (yd (yX (pq 1 rfl) yw rfl) yt))) yt)) ?_) ?_
  ·refine⟨p,q⁻¹,m,n,by rw[yiH h0],by rw[Rat.div_def],hp,YG (Rat.inv_pos.mpr h0),s1,yiB h0 s2,l1,l2,trivial⟩
  ·rfl
end
end Law
namespace L3
open PySem PySem.Spec PySem.Calls PyProof.Rows L2
structure ClsS (K:W.Frag)(C:Addr):Prop where
 c:Cls K C
 n_grammar:QC K C "grammar"
 n_row:QC K C "row"
 n_known_heads:QC K C "known_heads"
 n_branches:QC K C "branches"
 n_chains:QC K C "chains"
 n_known_sums:QC K C "known_sums"
 n_known_worths:QC K C "known_worths"
theorem ygu {K:W.Frag}{C:Addr}(pg:W.plainGet K C Str.empty=true)(hd:W.hasDictIn K C=true)(po:W.plainOver K C=true)(sa:W.findIn K (.ref C) "__setattr__" = some (some (.builtin "object.__setattr__")))
  (n1:W.findIn K (.ref C) "grammar" = some none) (n2:W.findIn K (.ref C) "row" = some none) (n3:W.findIn K (.ref C) "known_heads" = some none) (n4:W.findIn K (.ref C) "branches" = some none) (n5:W.findIn K (.ref C) "chains" = some none) (n6:W.findIn K (.ref C) "known_sums" = some none) (n7:W.findIn K (.ref C) "known_worths" = some none):ClsS K C:=⟨⟨pg,hd,po,sa⟩,n1,n2,n3,n4,n5,n6,n7⟩
theorem Zg:("within" : Str)∉sF:=by decide +kernel
theorem uc:("whole" : Str)∉sF:=by decide +kernel
theorem kY:("settle" : Str)∉sF:=by decide +kernel
theorem VX:("ends_at" : Str)∉sF:=by decide +kernel
theorem ZV:("worth" : Str)∉sF:=by decide +kernel
theorem Jd:("worth_of_body" : Str)∉sF:=by decide +kernel
theorem yay {κ α:Type}[DecidableEq κ]{k:κ}:∀ {ks:List κ} {xs:List α},k∈ks->ks.length=xs.length->∃ v,vA ks xs k=some v
 |[],_,h,_=>by cases h
 |_::_,[],_,h=>by simp at h
 |q::ks,x::xs,h,hl=>by
  unfold vA;rw[yM,al_find?_cons];by_cases e:q=k
  ·rw[yI e];exact⟨x,rfl⟩
  ·rw[yv e];exact yay ((yA.mp h).resolve_left fun z=>e z.symm) (by simpa using hl)
theorem UA {L:List Str}{x:Str}(h:x∈L):L[L.idxOf x]?=some x:=by
 have hl:L.idxOf x<L.length:=Yy.mpr h;rw[al_getElem?_eq_getElem hl,qy]
theorem K0 {L:List Str}{ch:Nat->Nat->Rat}{e:En}{h:Str}:(vY L ch e h).length=e.1.length:=by unfold vY;rw[ye]
theorem yeS {L:List Str}{F:Nat->D}{h:Str}(nd:L.Nodup)(hh:h∈L):vA (L.map qj) (tb L.length F) (qj h)=some (F (L.idxOf h)):=by
 have:=yi5 (ks:=L.map qj) (F:=F) (k:=qj h) (i:=L.idxOf h) (KB nd) (by rw[al_getElem?_map,UA hh];rfl)
 rw[ye] at this;exact this
theorem yiG {e:En}{o:Str}(hl:e.1.length=e.2.length)(ho:o∈e.1):vA (e.1.map qj) (e.2.map sh) (qj o)=some (sh ((vA e.1 e.2 o).getD 0)):=by
 rw[Kg zo];obtain⟨v,hv⟩:=yay ho hl;rw[hv];rfl
theorem ycQ {L:List Str}{ch:Nat->Nat->Rat}{e:En}{i j:Nat}:∀ {hs:List Str} {kn:Kn},(hs.foldl (qL L ch e i j) kn).1.length<=kn.1.length+hs.length
 |[],kn=>yg _
 |h::hs,kn=>by
  rw[Yp,ym];have:=ycQ (L:=L) (ch:=ch) (e:=e) (i:=i) (j:=j) (hs:=hs) (kn:=qL L ch e i j kn h);have:(qL L ch e i j kn h).1.length<=kn.1.length+1:=by
   unfold qL Wa;split
   ·omega
   ·exact xi
  omega
noncomputable def yq (rs:List yF):List Str:=jN (yz rs) rs
noncomputable def JW (rs:List yF):List yF:=(js (yz rs) (yq rs) rs).filter fun r=>!qE (yq rs) r
noncomputable def Jc (rs:List yF):List yF:=(js (yz rs) (yq rs) rs).filter (qE (yq rs))
noncomputable def zc (rs:List yF):Nat->Nat->Rat:=chF (yq rs) (Jc rs)
theorem ydi {L:List Str}{ss:List yF}{s:Nat}(hs:∀ r∈ss,0<=r.2.2/\Sz s r.2.2)(h1:1<=s)(hp:Piv L.length (wM2 L ss)):ZC L.length L.length (sK s L.length) (chF L ss):=by
 have gI:ZC L.length L.length s (idM L):=fun i j _ _=>by
  unfold idM;split
  ·exact⟨by decide,wj.mono h1⟩
  ·exact⟨by decide,wA.mono h1⟩
 have gW:ZC L.length L.length s (wM2 L ss):=fun i j _ _=>yaJ hs h1;have G:=(yaE gW gI).at (qR _ _) L.length (yg _) fun k hk=>xj hp k hk;intro i j hi hj;exact G i (L.length+j) hi (by omega)
section
variable {X:Cx}{B:Bs}{Γ:Ga}{Ω:Om}{E:E3}{sts:List Stmt}{o i:Expr}{pos:Pos}{R:D->Om->Prop}
theorem yfg (hu:X.A.units+64<cLine)(h:V3 X B o Γ Ω fun d Ω1=>∃ l,d=.raw (.ref l)/\V3 X B i Γ Ω1 fun di Ω2=>∃ ks kvs e,di=kD ks/\(l,ZR X.prog X.w X.K l kvs)∈Ω2/\atD kvs ks=some e/\R e Ω2)(hs:ycw i:=by exact fun _ _=>rfl):V3 X B (.Subscript o i pos) Γ Ω R:=fun F σ H S pins s I=>by
 refine X1 PySem.F.slot_dict_getitem.lookup hs (thn (h F σ H S pins s I) fun u s1 ⟨x,H1,I1,rx,d,Ω1,F1,S1,f1,i1,l,e1,h1⟩=>thn (h1 F1 σ H1 S1 pins s1 I1) fun iv s2 ⟨y,H2,I2,ry,di,Ω2,F2,S2,f2,i2,ks,kvs,e,e2,m,e3,q⟩=>?_);subst e1 e2;cases isR i1;cases rx;obtain⟨fa,o',ha,ho⟩:=S2.own _ m;obtain⟨xs,rfl,dp⟩:=ho F2 (yP.refl _);obtain⟨c,_,rfl,_⟩:=isT i2;cases ry;obtain⟨h0,dd⟩:=Us I2 ha (dp.mono S2.fh);rcases dp.at (k:=ks) with ⟨_,z⟩|⟨p,d',v,z1,z2,r,iv⟩
 ·rw[e3] at z;cases z
 ·rw[e3] at z2;cases z2;refine⟨?_,wpAny_getItem_heap (show X.A.units+1+1<cLine by omega) (kz I2 (i2.mono S2.fh)) dd z1 ⟨v,H2,I2.tok _,r,e,Ω2,F2,S2,f1.trans f2,iv,q⟩⟩;obtain⟨ob,_,_,g1,g2,_⟩:=dd;exact⟨ob,g1,g2.1⟩
end
def ybT (K:W.Frag)(n:Nat)(Cc:Addr)(C0:List D->Prop)(C:List D->List Str×List D->Prop):Sp:=fun vs H Q _=>∃ (a:Addr) (us:List V) (ds:List D) (F:Hp) (dx:Addr),vs=.ref a::us/\ds.length+1=n/\yP F H/\F a=none/\H a=some (.ins Cc dx [])/\IsL K F ds us/\C0 ds/\
 ∀ r,C ds r->∀ (H' F':Hp) (dx':Addr) (xs:List V),yP F F'->yP F' H'->(∀ b o,b≠a->H b=some o->H' b=some o)->(∀ b,F' b≠none->F b≠none∨H b=none)->F' a=none->H' a=some (.ins Cc dx' (r.1.zip xs))->r.1.length=xs.length->IsL K F' r.2 xs->Q .non H'
theorem ybT.len {K:W.Frag}{n:Nat}{Cc:Addr}{C0:List D->Prop}{C:List D->List Str×List D->Prop}{vs:List V}{H:Hp}{Q:VK}{E:XK}(h:ybT K n Cc C0 C vs H Q E):vs.length=n:=by
 obtain⟨a,us,ds,F,dx,rfl,l,_,_,_,i,_⟩:=h;rw[ym,i.len,l]
theorem yeX {P:Program}{w:World}{K:W.Frag}{mg:Str->Option Value}{base:Heap}{x q:Str}{st:Stmt}{N ps:List Str}{k n:Nat}{Cc:Addr}{C0:List D->Prop}{C:List D->List Str×List D->Prop}(d:Zu K mg x Cc q st ps)(S:FnScope N ps (yj st))(hn:ps.length=n)
  (body:∀ (f:Addr) (cdv:Value) (A:Around) (outer:List Env) (s:Shared) (H:Hp) (E:XK),Room k (A.deeper (envOfC q (yj st) s.heap.objs.size f cdv))->∀ (a:Addr) (ds:List D),C0 ds->∀ B:Bs,B.M=[a]->
   W3 (cx0 P w K mg base N q st f cdv A outer s H E) B (YR st) (Ql N (.raw (.ref a)::ds)) [(a,jT K Cc [] [])] ⟨fun _ Ω=>∃ r,C ds r/\Ω=[(a,jT K Cc r.1 r.2)],fun _ _=>False,fun _ _=>False,fun _ _=>False⟩):OkI P w K mg base CX0 (k+1) x Cc ps (ybT K n Cc C0 C):=
 d.ok S (fun vs H Q E h=>(ybT.len h).trans hn.symm) fun f cdv A outer s H vs Q E hr h=>⟨_,qu,by
  obtain⟨a,us,ds,F,dx,rfl,hl,fh,fa,ha,il,hC,q⟩:=h;have il':IsL K F (.raw (.ref a)::ds) (.ref a::us):=IsL.cons (zl F) il;have S0:Sat K ⟨[a],F,H⟩ (Ql N (.raw (.ref a)::ds)) [(a,jT K Cc [] [])] F (L2.start N (.ref a::us)) H:=by
   refine⟨yP.refl _,fh,fun _ q=>.inl q,fun _ _ _ e=>e,by simp,fun p hp=>?_,fun p hp=>?_,Sl.start il'⟩
   ·rw[yu.mp hp];exact .inl (by simp)
   ·rw[yu.mp hp];exact⟨fa,_,ha,fun _ _=>⟨dx,[],rfl,rfl,IsL.nil⟩⟩
  refine qh (D:=E3.to K ⟨[a],F,H⟩ F ⟨fun _ Ω=>∃ r,C ds r/\Ω=[(a,jT K Cc r.1 r.2)],fun _ _=>False,fun _ _=>False,fun _ _=>False⟩) (D':={nx:=fun _ H'=>Q .non H',rt:=Q}) ?_ ?_ ?_ ?_ (body f cdv A outer s H E hr a ds hC ⟨[a],F,H⟩ rfl F _ H S0)
  ·rintro σ' H' ⟨Γ',Ω',F',S',f',r,hr',rfl⟩;obtain⟨fa',o,ha',ho⟩:=S'.own (a,jT K Cc r.1 r.2) (by simp);obtain⟨dx',xs,rfl,hl',il2⟩:=ho F' (yP.refl _);refine q r hr' H' F' dx' xs S'.f0 S'.fh (fun b o hb e=>S'.kp b o (by simpa using hb) e) (fun b hb=>?_) fa' ha' hl' il2;rcases S'.fr b hb with z|z|z
   ·exact .inl z
   ·exact .inr z
   ·have e:b=a:=by simpa using z
    subst e;exact absurd fa' hb
  ·rintro v H' ⟨_,_,_,_,_,_,z⟩;exact z.elim
  ·rintro σ' H' ⟨_,_,_,_,_,z⟩;exact z.elim
  ·rintro σ' H' ⟨_,_,_,_,_,z⟩;exact z.elim⟩
section
variable {X:Cx}{B:Bs}{Γ:Ga}{Ω:Om}{ds:List D}{n k:Nat}{Cc:Addr}{x:Str}{ps:List Str}{e:Expr}{es:List Expr}{p pos:Pos}{R:D->Om->Prop}
theorem ygr {C0:List D->Prop}{C:List D->List Str×List D->Prop}(ok:OkI X.prog X.w X.K X.mg X.base CX0 k x Cc ps (ybT X.K n Cc C0 C))(hr:Room (k+1) X.A)(hg:Gl X x)(ha:PL3 X Γ (e::es) ds)(h0:C0 ds)(h:∀ r,C ds r->R (.obj Cc r.1 r.2) Ω)(hn:ds.length+1=n:=by rfl)(hdb:(x==("__debug__" : Str))=false:=by decide)
  (he:starEach (e::es) X.env=(false,eval e X.env)::starEach es X.env:=by rfl) (hpl:(backTo pos (starEach es X.env)).any (·.1)=false:=by rfl):V3 X B (.Call (.Name x p) (e::es) [] pos) Γ Ω R:=fun F σ H S pins s I=>by
 obtain⟨f,fd,Fn,M,hm,hb⟩:=ok;refine yaj M Fn hr hg hm hb .nil VO ha hdb he hpl pins s σ H _ I ⟨F,S.fh,S.sl,fun vs H1 F1 p1 i1 a dx ha' hdx hne=>?_⟩;rw[Yl];have f1:F1 a=none:=p1.fh.free ha';have sm:yP H1 (upd (upd H1 dx (.own a)) a (.ins Cc dx [])):=fun b u e1=>by
  rw[yO (y6 e1 ha'),yO (y6 e1 hdx)];exact e1
 refine⟨a,vs,ds,F1,dx,rfl,hn,p1.fh.trans sm,f1,yL,i1,h0,fun r hC H' F' dx' xs g1 g2 g3 g4 g5 g6 g7 g8=>⟨rfl,?_⟩⟩;have pu:Pur F1 H1 F' H':=by
  refine⟨g1,g2,fun b u e1=>g3 b u (y6 e1 ha') (sm b u e1),fun b e1=>?_⟩;rcases g4 b e1 with z|z
  ·exact .inl z
  ·exact .inr (sm.free z)
 obtain⟨pf,w⟩:=Kp pu ha' g5 g6;refine⟨.obj Cc r.1 r.2,Ω,_,S.pur (p1.trans pf),(p1.trans pf).ff,?_,h r hC⟩;simp only[Is];exact⟨a,dx',xs,rfl,yL,g7,g8.mono w⟩
end
def OkN (D n e:Nat)(q:Rat):Prop:=∃ z:Nat,q=Rat.divInt (z:Int) ((D ^ e:Nat):Int)/\z<=n*D ^ (2*e)
abbrev OkD (D e:Nat)(q:Rat):Prop:=OkN D 1 e q
section
variable {D n m e f:Nat}{p q:Rat}
theorem KL (h:0<D):(0:Int)<((D ^ e:Nat):Int):=by have:=Nat.pow_pos (n:=e) h;omega
theorem OkN.nn (hD:0<D)(h:OkN D n e q):0<=q:=by
 obtain⟨z,rfl,_⟩:=h;exact Rat.divInt_nonneg (by omega) (yx (KL hD))
theorem OkN.sz {b:Nat}(hD:0<D)(hb:D<2 ^ b)(h:OkD D e q):Sz (2*e*b+1) q:=by
 obtain⟨z,rfl,hz⟩:=h;rw[jF] at hz;have h1:D ^ (2*e)<=2 ^ (b*(2*e)):=by have:=Nat.pow_le_pow_left (qS hb) (2*e);rwa [←Nat.pow_mul] at this
 have h2:D ^ e<=D ^ (2*e):=YC hD (by omega);have h3:2 ^ (2*e*b+1)=2 ^ (b*(2*e))+2 ^ (b*(2*e)):=by rw[QK,Q7 (2*e) b];omega
 have h4:0<2 ^ (b*(2*e)):=Nat.pow_pos (by decide);refine jP (KL hD) ?_ ?_
 ·rw[qm];omega
 ·rw[qm];omega
theorem OkN.more (h:OkN D n e q)(l:n<=m):OkN D m e q:=by
 obtain⟨z,e1,e2⟩:=h;exact⟨z,e1,yQ e2 (qt _ l)⟩
theorem OkN.up (hD:0<D)(h:OkN D n e q)(l:n<=D):OkD D (e+1) q:=by
 obtain⟨z,e1,e2⟩:=h;refine⟨z*D,?_,?_⟩
 ·rw[e1,QK,QB,QB,ZJ (by omega)]
 ·rw[jF,show 2*(e+1)=2*e+1+1 by omega,QK,QK];have:=qt D (yQ e2 (qt (D ^ (2*e)) l));rw[Q7 D (D ^ (2*e))] at this;exact this
theorem OkD.mono (hD:0<D)(h:OkD D e q)(l:e<=f):OkD D f q:=by
 induction f with
 |zero=>rw[jG.mp l] at h;exact h
 |succ f ih=>
  rcases QI e (f+1) with h1|h1
  ·exact OkN.up hD (ih (by omega)) hD
  ·rw[show f+1=e by omega];exact h
theorem ybp:OkN D n e 0:=⟨0,by simp,qo _⟩
theorem yjT:OkD D 0 1:=⟨1,by simp;decide,by simp⟩
theorem OkN.mul (hD:0<D)(h:OkN D n e p)(g:OkN D m f q):OkN D (n*m) (e+f) (p*q):=by
 obtain⟨z,e1,e2⟩:=h;obtain⟨y,f1,f2⟩:=g;refine⟨z*y,?_,?_⟩
 ·rw[e1,f1,Rat.divInt_mul_divInt,Nat.pow_add];push_cast;rfl
 ·have:=Y1 e2 f2;rw[show n*D ^ (2*e)*(m*D ^ (2*f))=n*m*(D ^ (2*e)*D ^ (2*f)) by grind,←Nat.pow_add,←Nat.mul_add] at this;exact this
theorem OkD.mul (hD:0<D)(h:OkD D e p)(g:OkD D f q):OkD D (e+f) (p*q):=OkN.mul hD h g
theorem OkN.add (hD:0<D)(h:OkN D n e p)(g:OkN D m e q):OkN D (n+m) e (p+q):=by
 obtain⟨z,e1,e2⟩:=h;obtain⟨y,f1,f2⟩:=g;refine⟨z+y,?_,?_⟩
 ·have:=KL (D:=D) (e:=e) hD;rw[e1,f1,qJ _ _ (by omega) (by omega),←Int.add_mul,ZJ this];push_cast;rfl
 ·rw[QP];omega
theorem WU (hD:0<D):∀ {ps:List (Rat×Rat)},(∀ p∈ps,OkD D e (p.1*p.2))->OkN D ps.length e (Jq ps):=by
 intro ps;have go:∀ (ps:List (Rat×Rat)) (a:Rat) (n:Nat),OkN D n e a->(∀ p∈ps,OkD D e (p.1*p.2))->OkN D (n+ps.length) e (ps.foldl (fun a p=>a+p.1*p.2) a):=by
  intro ps
  induction ps with
  |nil=>intro a n h _;exact h
  |cons p ps ih=>
   intro a n h hp;rw[Yp,ym,show n+(ps.length+1)=(n+1)+ps.length by omega];exact ih _ _ (h.add hD (hp p (by simp))) fun x hx=>hp x (yf _ hx)
 intro h;have:=go ps 0 0 ybp h;rw[QE] at this;exact this
end
abbrev BK:=List Str×Nat×Nat
abbrev Kw:=List (BK×Rat)
def kB (p:BK):List K2:=[.inr (p.1.map Sum.inr),.inl (.inl (p.2.1:Int)),.inl (.inl (p.2.2:Int))]
theorem VM:∀ {a b:List Str},a.map (Sum.inr (α:=Int))=b.map Sum.inr->a=b
 |[],[],_=>rfl
 |[],_::_,h=>by simp at h
 |_::_,[],h=>by simp at h
 |x::a,y::b,h=>by
  rw[yn,yn,List.cons.injEq] at h;rw[Sum.inr.inj h.1,VM h.2]
theorem ydU {x y:BK}(h:kB x=kB y):x=y:=by
 obtain⟨a,b,c⟩:=x;obtain⟨d,e,f⟩:=y;unfold kB at h;simp only[List.cons.injEq,Sum.inr.injEq,Sum.inl.injEq,and_true,Int.ofNat_inj] at h;rw[VM h.1,h.2.1,h.2.2]
def kwV (kw:Kw):List (List K2×D):=kw.map fun p=>(kB p.1,sh p.2)
def Zv (kw:Kw)(k:BK):Option Rat:=(kw.find? fun p=>decide (p.1=k)).map (·.2)
def K9 (kw:Kw)(k:BK)(v:Rat):Kw:=if (Zv kw k).isSome=true then kw.map fun p=>if p.1=k then (p.1,v) else p else kw++[(k,v)]
theorem Vv {k:BK}:∀ {kw:Kw},atD (kwV kw) (kB k)=(Zv kw k).map sh
 |[]=>rfl
 |p::kw=>by
  have ih:=Vv (k:=k) (kw:=kw);unfold atD Zv kwV at ih ⊢;rw[yn,al_find?_cons,al_find?_cons];by_cases e:p.1=k
  ·rw[yI e,yI (show kB p.1=kB k by rw[e])];rfl
  ·rw[yv e,yv (show ¬ kB p.1=kB k from fun z=>e (ydU z))];exact ih
theorem yf7 {kw:Kw}{k:BK}{v:Rat}:uo (kwV kw) (kB k) (sh v)=kwV (K9 kw k v):=by
 unfold uo K9;rw[Vv];cases q:Zv kw k with
 |none=>
  simp[kwV]
 |some u=>
  simp only[Option.map_some,QD,if_true];unfold kwV;rw[Yu,Yu];refine qr fun p _=>?_;show(if kB p.1=kB k then (kB p.1,sh v) else (kB p.1,sh p.2))=(kB (if p.1=k then (p.1,v) else p).1,sh (if p.1=k then (p.1,v) else p).2)
  by_cases e:p.1=k
  ·rw[yc (by rw[e]),yc e]
  ·rw[yb (fun z=>e (ydU z)),yb e]
theorem yco {k:BK}{v:Rat}:∀ {kw:Kw},Zv (K9 kw k v) k=some v:=by
 intro kw;unfold K9;cases q:Zv kw k with
 |none=>
  simp only[Option.isSome_none,YI,if_false];unfold Zv at q ⊢;rw[List.find?_append];have:kw.find? (fun p=>decide (p.1=k))=none:=by simpa using q
  rw[this];simp
 |some u=>
  simp only[QD,if_true];have go:∀ {kw:Kw} {u:Rat},Zv kw k=some u->Zv (kw.map fun p=>if p.1=k then (p.1,v) else p) k=some v:=by
   intro kw
   induction kw with
   |nil=>intro u h;simp[Zv] at h
   |cons p kw ih=>
    intro u h;unfold Zv at h ⊢;rw[yn,al_find?_cons];rw[al_find?_cons] at h;by_cases e:p.1=k
    ·rw[yc e,yI e];rfl
    ·rw[yb e,yv e];rw[yv e] at h;exact ih h
  exact go q
theorem wH {kw:Kw}{k:BK}{v:Rat}{p:BK×Rat}(h:p∈K9 kw k v):p=(k,v)∨p∈kw:=by
 unfold K9 at h;split at h
 ·obtain⟨q,hq,e⟩:=yo.mp h;split at e
  ·rename_i e2;exact .inl (by rw[←e,e2])
  ·exact .inr (e▸hq)
 ·rcases yY.mp h with z|z
  ·exact .inr z
  ·exact .inl (yu.mp z)
theorem yda {kw:Kw}{k:BK}{v:Rat}:(K9 kw k v).length<=kw.length+1:=by
 unfold K9;split
 ·rw[ye];omega
 ·rw[yy];exact yg _
theorem wZ {kw:Kw}{k:BK}{v:Rat}(h:Zv kw k=some v):(k,v)∈kw:=by
 unfold Zv at h;obtain⟨p,h1,h2⟩:=y7.mp h;have a:=al_mem_of_find?_eq_some h1;have b:=List.find?_some h1;have b:p.1=k:=by simpa using b
 rw[←b,←h2];exact a
theorem yi6 {b:List Str}{i j:Nat}:kD (kB (b,i,j))=.tup [Ye b,.int (i:Int),.int (j:Int)]:=by
 unfold kD kB;simp only[yn,QU,k2D,Zq,Yu];rfl
abbrev Ac:=List (Rat×Rat)×Kw
def qY (wo:Nat->Rat)(f:Nat->Kw->Rat×Kw)(i:Nat)(acc:Ac)(t:Nat):Ac:=if wo (i+1+t)=0 then acc else (acc.1++[(wo (i+1+t),(f (i+1+t) acc.2).1)],(f (i+1+t) acc.2).2)
def nP (n i j:Nat):Nat:=(j+1) - (n+i)
def wBm (hs row:List Str)(kn:Kn):List Str->Nat->Nat->Kw->Rat×Kw
  |[],_,_,kw=>(0,kw)
  |[x],i,j,kw=>(woS hs row kn i j x,kw)
  |x::y::rest,i,j,kw=>
    match Zv kw (x::y::rest,i,j) with
    |some v=>(v,kw)
    |none=>
      (Jq ((List.range (nP (rest.length+2) i j)).foldl (qY (fun m=>woS hs row kn i m x) (fun m=>wBm hs row kn (y::rest) m j) i) ([],kw)).1,
       K9 ((List.range (nP (rest.length+2) i j)).foldl (qY (fun m=>woS hs row kn i m x) (fun m=>wBm hs row kn (y::rest) m j) i) ([],kw)).2 (x::y::rest,i,j) (Jq ((List.range (nP (rest.length+2) i j)).foldl (qY (fun m=>woS hs row kn i m x) (fun m=>wBm hs row kn (y::rest) m j) i) ([],kw)).1))
def KnD (D:Nat)(kn:Kn):Prop:=∀ p∈kn.1.zip kn.2,OkD D (9*(p.1.2.2 - p.1.2.1) - 5) p.2
def KwD (D:Nat)(kw:Kw):Prop:=∀ p∈kw,OkD D (9*(p.1.2.2 - p.1.2.1) - 9) p.2
theorem yin {κ α:Type}[DecidableEq κ]{k:κ}{v:α}{ks:List κ}{xs:List α}(h:vA ks xs k=some v):(k,v)∈ks.zip xs:=by
 unfold vA at h;obtain⟨p,h1,h2⟩:=y7.mp h;have b:=List.find?_some h1;have b:p.1=k:=by simpa using b
 rw[←b,←h2];exact al_mem_of_find?_eq_some h1
section
variable {D:Nat}{hs row:List Str}{kn:Kn}{kw:Kw}
theorem yiq (hD:0<D)(h:KnD D kn){x:Str}{i j:Nat}:OkD D (9*(j - i) - 5) (zb kn x i j):=by
 unfold zb;cases q:vA kn.1 kn.2 (x,i,j) with
 |none=>exact ybp
 |some v=>exact h _ (yin q)
theorem yg2 (hD:0<D)(h:KnD D kn){x:Str}{i j:Nat}:OkD D (9*(j - i) - 5) (woS hs row kn i j x):=by
 unfold woS;split
 ·exact yiq hD h
 ·split
  ·exact OkD.mono hD yjT (qo _)
  ·exact ybp
theorem yjN (hD:0<D){x:Str}{i j e:Nat}(hx:x∉hs):OkD D e (woS hs row kn i j x):=by
 unfold woS;rw[yb hx];split
 ·exact OkD.mono hD yjT (qo _)
 ·exact ybp
structure AcOk (D e n m:Nat)(acc:Ac):Prop where
 len:acc.1.length<=n
 prs:∀ p∈acc.1,OkD D e (p.1*p.2)/\OkD D (e+5) p.1/\OkD D (e+5) p.2
 kw:KwD D acc.2
 kl:acc.2.length<=m
theorem KwD.put {k:BK}{v:Rat}(h:KwD D kw)(hv:OkD D (9*(k.2.2 - k.2.1) - 9) v):KwD D (K9 kw k v):=fun p hp=>by
 rcases wH hp with z|z
 ·subst z;exact hv
 ·exact h p z
def WB (D:Nat)(hs row:List Str)(kn:Kn)(b:List Str):Prop:=∀ i j kw,i<j->j - i<=10->KwD D kw->OkD D (9*(j - i) - 5) (wBm hs row kn b i j kw).1/\(2<=b.length->OkD D (9*(j - i) - 9) (wBm hs row kn b i j kw).1)/\KwD D (wBm hs row kn b i j kw).2/\(wBm hs row kn b i j kw).2.length<=kw.length+11 ^ b.length
theorem yaz (hD:0<D)(hk:KnD D kn){x y:Str}{rest:List Str}{i j:Nat}(ih:WB D hs row kn (y::rest))(hij:j - i<=10)(hw:KwD D kw):∀ t,t<=nP (rest.length+2) i j->
  AcOk D (9*(j - i) - 10) t (kw.length+t*11 ^ (rest.length+1)) ((List.range t).foldl (qY (fun m=>woS hs row kn i m x) (fun m=>wBm hs row kn (y::rest) m j) i) ([],kw))
 |0,_=>⟨yg _,(fun p hp=>by cases hp),hw,by simp⟩
 |t+1,ht=>by
  have a:=yaz hD hk (x:=x) (y:=y) (rest:=rest) (i:=i) (j:=j) ih hij hw t (by omega);rw[Y9,Ym];generalize (List.range t).foldl (qY (fun m=>woS hs row kn i m x) (fun m=>wBm hs row kn (y::rest) m j) i) ([],kw)=acc at *;have hn:i+1+t+1<=j:=by unfold nP at ht;omega
  obtain⟨w1,w2,w3,w4⟩:=ih (i+1+t) j acc.2 (by omega) (by omega) a.kw;have wx:=yg2 (hs:=hs) (row:=row) (x:=x) (i:=i) (j:=i+1+t) hD hk;rw[Yp,List.foldl_nil];unfold qY;split
  ·exact⟨Nat.le_succ_of_le a.len,a.prs,a.kw,yQ a.kl (by rw[QP];omega)⟩
  ·refine⟨by rw[yy];exact qN a.len,fun p hp=>?_,w3,?_⟩
   ·rcases yY.mp hp with z|z
    ·exact a.prs p z
    ·rw[yu.mp z];exact⟨(wx.mul hD w1).mono hD (by omega),wx.mono hD (by omega),w1.mono hD (by omega)⟩
   ·have:=a.kl;rw[ym] at w4;rw[QP,jF];show(wBm hs row kn (y::rest) (i+1+t) j acc.2).2.length<=_;omega
theorem Wz (hD:32<=D)(hk:KnD D kn):∀ b:List Str,b≠[]->WB D hs row kn b
 |[],h=>absurd rfl h
 |[x],_=>fun i j kw hi hj hw=>by
  rw[wBm];exact⟨yg2 (by omega) hk,fun h=>by simp at h,hw,by simp⟩
 |x::y::rest,_=>fun i j kw hi hj hw=>by
  have ih:=Wz hD hk (y::rest) (by simp);have hD0:0<D:=by omega
  rw[wBm];cases q:Zv kw (x::y::rest,i,j) with
  |some v=>
   have:=hw _ (wZ q);exact⟨OkD.mono hD0 this (by simp only;omega),fun _=>this,hw,by simp⟩
  |none=>
   have a:=yaz hD0 hk (x:=x) (y:=y) (rest:=rest) (i:=i) (j:=j) ih hj hw _ (yg _);have np:nP (rest.length+2) i j<=9:=by unfold nP;omega
   dsimp only;generalize (List.range (nP (rest.length+2) i j)).foldl (qY (fun m=>woS hs row kn i m x) (fun m=>wBm hs row kn (y::rest) m j) i) ([],kw)=acc at *;have v:OkD D (9*(j - i) - 9) (Jq acc.1):=by
    by_cases h2:2<=j - i
    ·have:=OkN.up hD0 (WU hD0 fun p hp=>(a.prs p hp).1) (by have:=a.len;omega);exact OkD.mono hD0 this (by omega)
    ·have z:nP (rest.length+2) i j=0:=by unfold nP;omega
     have:acc.1=[]:=Q0.mp (by have:=a.len;omega);rw[this];exact ybp
   refine⟨OkD.mono hD0 v (by omega),fun _=>v,a.kw.put v,yQ yda ?_⟩;have h1:=a.kl;have h2:nP (rest.length+2) i j*11 ^ (rest.length+1)<=9*11 ^ (rest.length+1):=qt _ np;have h3:0<11 ^ (rest.length+1):=Nat.pow_pos (by decide);rw[show(x::y::rest).length=(rest.length+1)+1 from rfl,QK];omega
end
theorem zt {τ:Type}{om:τ->Om}{C:τ->List D->τ->D->Prop}{P:Program}{w:World}{K:W.Frag}{mg:Str->Option Value}{base:Heap}{m q:Str}{st:Stmt}{N ps:List Str}{k n:Nat}{Cc:Addr}(d:qi K Cc m q st ps)(S:FnScope N ps (yj st))(hn:ps.length=n)(hm:∀ t ds t' d,C t ds t' d->(om t').map (·.1)=(om t).map (·.1))
  (body:∀ (f:Addr) (cdv:Value) (A:Around) (outer:List Env) (s:Shared) (H:Hp) (E:XK),Room k (A.deeper (envOfC q (yj st) s.heap.objs.size f cdv))->∀ (t:τ) (ds:List D) (t':τ) (r:D),C t ds t' r->∀ B:Bs,
   W3 (cx0 P w K mg base N q st f cdv A outer s H E) B (YR st) (Ql N ds) (om t) ⟨fun _ Ω=>r=.non/\∀ p∈om t',p∈Ω,fun r' Ω=>r'=r/\∀ p∈om t',p∈Ω,fun _ _=>False,fun _ _=>False⟩):OkM P w K mg base CX0 (k+1) Cc m ps (spS K n om C):=
 d.ok S (fun vs H Q E h=>(spS.len h).trans hn.symm) fun f cdv A outer s H vs Q E hr h=>⟨_,qu,by
  obtain⟨t,ds,t',r,F,hC,hl,fh,il,nd,own,q⟩:=h;have S0:Sat K (⟨(om t).map (fun p:Addr×Ow=>p.1),F,H⟩:Bs) (Ql N ds) (om t) F (L2.start N vs) H:=
   ⟨yP.refl _,fh,fun _ q=>.inl q,fun _ _ _ e=>e,nd,fun p hp=>.inl (yo.mpr ⟨p,hp,rfl⟩),own,Sl.start il⟩
  have fin:∀ {Ω':Om} {F' H':Hp} {σ':L2.St} {Γ':Ga} {v:V},(∀ p∈om t',p∈Ω')->Sat K (⟨(om t).map (fun p:Addr×Ow=>p.1),F,H⟩:Bs) Γ' Ω' F' σ' H'->Is K F' r v->Q v H':=by
   intro Ω' F' H' σ' Γ' v e S' iv;refine q v H' F' S'.f0 S'.fh (fun b o hb e=>S'.kp b o hb e) (fun b hb=>?_) (fun p hp=>S'.own p (e p hp)) iv;rcases S'.fr b hb with z|z|z
   ·exact .inl z
   ·exact .inr z
   ·have z':b∈(om t).map (·.1):=z;rw[←hm _ _ _ _ hC] at z';obtain⟨p,hp,rfl⟩:=yo.mp z';exact absurd (S'.own p (e p hp)).1 hb
  refine qh (D:=E3.to K (⟨(om t).map (fun p:Addr×Ow=>p.1),F,H⟩:Bs) F ⟨fun _ Ω=>r=.non/\∀ p∈om t',p∈Ω,fun r' Ω=>r'=r/\∀ p∈om t',p∈Ω,fun _ _=>False,fun _ _=>False⟩) (D':={nx:=fun _ H'=>Q .non H',rt:=Q}) ?_ ?_ ?_ ?_ (body f cdv A outer s H E hr t ds t' r hC (⟨(om t).map (fun p:Addr×Ow=>p.1),F,H⟩:Bs) F _ H S0)
  ·rintro σ' H' ⟨Γ',Ω',F',S',f',e1,e2⟩;exact fin e2 S' (by rw[e1];exact yax F')
  ·rintro v H' ⟨d',Ω',F',⟨σ',S'⟩,f',i',e1,e2⟩;subst e1;exact fin e2 S' i'
  ·rintro σ' H' ⟨_,_,_,_,_,z⟩;exact z.elim
  ·rintro σ' H' ⟨_,_,_,_,_,z⟩;exact z.elim⟩
theorem yjl {d:D}{ds:List D}:Zo (d::ds) (some 1) none=ds:=by
 unfold Zo;simp[HT.sIx]
structure GSt where
 a:Addr
 b:Addr
 c:Addr
 g:D
 row:List Str
 hs:List Str
 br:List yF
 L:List Str
 ch:Nat->Nat->Rat
 kn:Kn
 kw:Kw
def omG (P:Program)(w:World)(K:W.Frag)(Cs:Addr)(t:GSt):Om:=[(t.a,jT K Cs sF [t.g,Ye t.row,.lst (yB t.hs),.lst (yJ t.br),chD t.L t.ch,.raw (.ref t.b),.raw (.ref t.c)]),(t.b,oDt K (knK t.kn) (knV t.kn)),(t.c,ZR P w K t.c (kwV t.kw))]
structure GsOk (t:GSt)(D b:Nat):Prop where
 d:32<=D
 db:D<2 ^ b
 bl:b<=16500
 rl:t.row.length<=5
 kn:KnD D t.kn
 kw:KwD D t.kw
theorem GsOk.sz {t:GSt}{D b e:Nat}{q:Rat}(g:GsOk t D b)(h:OkD D e q)(he:e<=50):0<=q/\Sz 1650001 q:=by
 have d:=g.d;refine⟨h.nn (by omega),(h.sz (by omega) g.db).mono ?_⟩;have:2*e*b<=100*16500:=Y1 (by omega) g.bl;omega
def JE (t:GSt)(x y:Str)(rest:List Str)(i j n:Nat):Ac:=(List.range n).foldl (qY (fun m=>woS t.hs t.row t.kn i m x) (fun m=>wBm t.hs t.row t.kn (y::rest) m j) i) ([],t.kw)
def yjA (n:Nat):GSt->List D->GSt->D->Prop:=fun t ds t' d=>∃ (x y:Str) (rest:List Str) (i j D b:Nat),ds=[.raw (.ref t.a),Ye (x::y::rest),.int (i:Int),.int (j:Int)]/\t'={t with kw:=(JE t x y rest i j (nP (rest.length+2) i j)).2}/\d=sh (Jq (JE t x y rest i j (nP (rest.length+2) i j)).1)/\rest.length+2<=n/\n<=4/\i<j/\j<=t.row.length/\GsOk t D b/\t.kw.length+n*20000<=16000000
def ygH (n:Nat):GSt->List D->GSt->D->Prop:=fun t ds t' d=>∃ (body:List Str) (i j D b:Nat),ds=[.raw (.ref t.a),Ye body,.int (i:Int),.int (j:Int)]/\t'={t with kw:=(wBm t.hs t.row t.kn body i j t.kw).2}/\d=sh (wBm t.hs t.row t.kn body i j t.kw).1/\1<=body.length/\body.length<=n/\n<=4/\i<j/\j<=t.row.length/\GsOk t D b/\t.kw.length+n*20000<=16000000
theorem yjk {P:Program}{w:World}{K:W.Frag}{Cs:Addr}{n:Nat}:∀ t ds t' d,yjA n t ds t' d->(omG P w K Cs t').map (·.1)=(omG P w K Cs t).map (·.1):=fun t ds t' d ⟨_,_,_,_,_,_,_,_,e,_⟩=>by subst e;rfl
theorem ygS {P:Program}{w:World}{K:W.Frag}{Cs:Addr}{n:Nat}:∀ t ds t' d,ygH n t ds t' d->(omG P w K Cs t').map (·.1)=(omG P w K Cs t).map (·.1):=fun t ds t' d ⟨_,_,_,_,_,_,e,_⟩=>by subst e;rfl
theorem Uw {P:Program}{w:World}{K:W.Frag}{Cs:Addr}{t:GSt}{L:Bool}:Xe L (omG P w K Cs t):=jQ vj (jQ yfZ (jQ yen vV))
theorem zC:("sum_of_partings" : Str)∉sF:=by decide +kernel
theorem ybc {n:Nat}(h:n<=9):yiP n 1650001<=big:=by
 show n*6600006+2<=67108864;omega
theorem X4:1650001<=10000000:=by decide
theorem ydx {P:Program}{w:World}{K:W.Frag}{Cs:Addr}{t:GSt}:(omG P w K Cs t++[]).Perm ((t.c,ZR P w K t.c (kwV t.kw))::[(t.a,jT K Cs sF [t.g,Ye t.row,.lst (yB t.hs),.lst (yJ t.br),chD t.L t.ch,.raw (.ref t.b),.raw (.ref t.c)]),(t.b,oDt K (knK t.kn) (knV t.kn))]):=YF (l₁:=[_,_]) (l₂:=[_])
def qW (hs row:List Str)(kn:Kn)(i j:Nat)(acc:En×Kw)(r:yF):En×Kw:=
 if (wBm hs row kn r.2.1 i j acc.2).1=0 then (acc.1,(wBm hs row kn r.2.1 i j acc.2).2)
 else ((pK acc.1.1 r.1,pA acc.1.1 acc.1.2 r.1 ((vA acc.1.1 acc.1.2 r.1).getD 0+r.2.2*(wBm hs row kn r.2.1 i j acc.2).1)),(wBm hs row kn r.2.1 i j acc.2).2)
def Jv (hs row:List Str)(kn:Kn)(br:List yF)(i j:Nat)(kw:Kw):En×Kw:=br.foldl (qW hs row kn i j) (([],[]),kw)
structure BrG (M:Nat)(hs L:List Str)(br:List yF):Prop where
 len:br.length<=30
 hd:∀ r∈br,r.1∈L
 body:∀ r∈br,1<=r.2.1.length/\r.2.1.length<=4/\∀ x,r.2.1=[x]->x∉hs
 sz:∀ r∈br,OkD M 1 r.2.2
structure EnG (M e n m:Nat)(L:List Str)(a:En×Kw):Prop where
 len:a.1.1.length<=n
 nd:a.1.1.Nodup
 eq:a.1.1.length=a.1.2.length
 keys:∀ x∈a.1.1,x∈L
 vals:∀ q∈a.1.2,OkN M n e q
 kw:KwD M a.2
 kl:a.2.length<=m
theorem Wt {κ:Type}[DecidableEq κ]{k:κ}{ks:List κ}(h:ks.Nodup):(pK ks k).Nodup:=by
 unfold pK;split
 ·exact h
 ·rename_i hk;rw[Yd];exact⟨h,by simp,fun a ha b hb e=>hk (by rw[yu.mp hb] at e;exact e▸ha)⟩
theorem U5 {α:Type}[DecidableEq α]:∀ {xs ys:List α},xs.Nodup->(∀ x∈xs,x∈ys)->xs.length<=ys.length
 |[],_,_,_=>qo _
 |x::xs,ys,h,hs=>by
  have hx:=hs x (by simp);have:=U5 (xs:=xs) (ys:=ys.erase x) (yK.mp h).2 fun z hz=>(List.mem_erase_of_ne (a:=z) (b:=x) (fun e=>by subst e;exact(yK.mp h).1 hz)).mpr (hs z (yf _ hz));rw[List.length_erase_of_mem hx] at this;have:0<ys.length:=List.length_pos_of_mem hx;rw[ym];omega
section
variable {M:Nat}{hs row L:List Str}{kn:Kn}{br:List yF}{i j:Nat}{kw:Kw}
theorem yjD (hM:32<=M)(hk:KnD M kn)(hij:i<j)(hj:j - i<=10)(hw:KwD M kw){b:List Str}(h1:1<=b.length)(hx:∀ x,b=[x]->x∉hs):OkD M (9*(j - i) - 9) (wBm hs row kn b i j kw).1:=by
 obtain⟨_,w2,_,_⟩:=Wz (hs:=hs) (row:=row) hM hk b (by intro z;rw[z] at h1;simp at h1) i j kw hij hj hw;by_cases h:2<=b.length
 ·exact w2 h
 ·obtain⟨x,rfl⟩:∃ x,b=[x]:=List.length_eq_one_iff.mp (by omega);rw[wBm];exact yjN (by omega) (hx x rfl)
theorem UO (hM:0<M){e n:Nat}{a:En}(h:∀ q∈a.2,OkN M n e q){x:Str}:OkN M n e ((vA a.1 a.2 x).getD 0):=by
 cases q:vA a.1 a.2 x with
 |none=>exact ybp
 |some v=>exact h v (wD q)
theorem vT (hM:32<=M)(hk:KnD M kn)(hb:BrG M hs L br)(hij:i<j)(hj:j - i<=10)(hw:KwD M kw):∀ n,n<=br.length->EnG M (9*(j - i) - 8) n (kw.length+n*20000) L ((br.take n).foldl (qW hs row kn i j) (([],[]),kw))
 |0,_=>⟨yg _,qD,rfl,(fun x hx=>by cases hx),(fun q hq=>by cases hq),hw,by simp⟩
 |n+1,hn=>by
  have hr:br[n]?=some br[n]:=al_getElem?_eq_getElem (by omega);have a:=vT hM hk hb hij hj hw n (by omega);rw[yW hr,Ym];generalize (br.take n).foldl (qW hs row kn i j) (([],[]),kw)=acc at *;have hm:=al_mem_of_getElem? hr;generalize br[n]=r at *;obtain⟨b1,b2,b3⟩:=hb.body r hm;have w9:=yjD (hs:=hs) (row:=row) hM hk hij hj a.kw b1 b3;obtain⟨_,_,w3,w4⟩:=Wz (hs:=hs) (row:=row) hM hk r.2.1 (by intro z;rw[z] at b1;simp at b1) i j acc.2 hij hj a.kw;have h11:11 ^ r.2.1.length<=11 ^ 4:=YC (by decide) b2;have kl:=a.kl;rw[Yp,List.foldl_nil];unfold qW;split
  ·exact⟨Nat.le_succ_of_le a.len,a.nd,a.eq,a.keys,fun q hq=>(a.vals q hq).more (by omega),w3,by dsimp only;omega⟩
  ·refine⟨yQ xi (qN a.len),Wt a.nd,Vn a.eq,fun x hx=>?_,fun q hq=>?_,w3,by dsimp only;omega⟩
   ·rcases yeA hx with z|z
    ·rw[z];exact hb.hd r hm
    ·exact a.keys x z
   ·rcases yhl hq with z|z
    ·rw[z];have t:=OkD.mul (by omega) (hb.sz r hm) w9;exact OkN.add (by omega) (UO (by omega) a.vals) (OkD.mono (by omega) t (by omega))
    ·exact(a.vals q z).more (by omega)
def ChD (M:Nat)(L:List Str)(ch:Nat->Nat->Rat):Prop:=∀ i j,i<L.length->j<L.length->OkD M 1 (ch i j)
theorem ycR (hM:32<=M){ch:Nat->Nat->Rat}{e n m:Nat}{a:En×Kw}{h:Str}(c:ChD M L ch)(he:EnG M e n m L a)(hn:n<=30)(hh:h∈L):∀ p∈vY L ch a.1 h,OkD M (e+2) (p.1*p.2)/\OkD M 1 p.1/\OkD M (e+1) p.2:=fun p hp=>by
 obtain⟨o,ho,rfl⟩:=yo.mp hp;have a1:=c _ _ (Yy.mpr hh) (Yy.mpr (he.keys o ho));have a2:=OkN.up (by omega) (UO (by omega) he.vals (x:=o)) (by omega);exact⟨OkD.mono (by omega) (OkD.mul (by omega) a1 a2) (by omega),a1,a2⟩
theorem yj7 (hM:32<=M){ch:Nat->Nat->Rat}{e n m:Nat}{a:En×Kw}{h:Str}(c:ChD M L ch)(he:EnG M e n m L a)(hn:n<=30)(hh:h∈L):OkD M (e+3) (Z6 L ch a.1 h):=by
 have:=OkN.up (by omega) (WU (by omega) fun p hp=>(ycR hM c he hn hh p hp).1) (by rw[K0];have:=he.len;omega);exact this
end
abbrev KS:=Kn×Kw
def J2 (hs row L:List Str)(br:List yF)(ch:Nat->Nat->Rat)(k:KS)(p:Nat×Nat):KS:=(L.foldl (qL L ch (Jv hs row k.1 br p.1 p.2 k.2).1 p.1 p.2) k.1,(Jv hs row k.1 br p.1 p.2 k.2).2)
theorem yiA {κ α:Type}[DecidableEq κ]{k:κ}{v:α}{p:κ×α}:∀ {ks:List κ} {xs:List α},ks.length=xs.length->p∈(pK ks k).zip (pA ks xs k v)->p=(k,v)∨p∈ks.zip xs:=by
 intro ks xs hl h;unfold pK pA at h;by_cases hk:k∈ks
 ·rw[yc hk,yc hk,←zip_map hl] at h;obtain⟨q,hq,e⟩:=yo.mp h;split at e
  ·rename_i e2;exact .inl (by rw[←e,e2])
  ·exact .inr (e▸hq)
 ·rw[yb hk,yb hk,←VC hl] at h;rcases yY.mp h with z|z
  ·exact .inr z
  ·exact .inl (yu.mp z)
structure KnG (M m:Nat)(kn:Kn):Prop where
 d:KnD M kn
 eq:kn.1.length=kn.2.length
 len:kn.1.length<=m
theorem KnG.put {M m:Nat}{kn:Kn}{h:Str}{i j:Nat}{t:Rat}(k:KnG M m kn)(ht:OkD M (9*(j - i) - 5) t):KnG M (m+1) (Wa kn h i j t):=by
 refine⟨fun p hp=>?_,Vn k.eq,yQ xi (qN k.len)⟩;rcases yiA k.eq hp with z|z
 ·subst z;exact ht
 ·exact k.d p z
theorem W5 {M:Nat}{L:List Str}{ch:Nat->Nat->Rat}{e:En}{i j:Nat}:∀ {hs:List Str} {m:Nat} {kn:Kn},KnG M m kn->(∀ h∈hs,OkD M (9*(j - i) - 5) (Z6 L ch e h))->KnG M (m+hs.length) (hs.foldl (qL L ch e i j) kn)
 |[],m,kn,k,_=>k
 |h::hs,m,kn,k,ht=>by
  rw[Yp,ym,show m+(hs.length+1)=(m+1)+hs.length by omega];refine W5 ?_ fun x hx=>ht x (yf _ hx);unfold qL;split
  ·exact⟨k.d,k.eq,by have:=k.len;omega⟩
  ·exact k.put (ht h (by simp))
structure GPar (M b:Nat)(hs row L:List Str)(br:List yF)(ch:Nat->Nat->Rat):Prop where
 d:32<=M
 db:M<2 ^ b
 bl:b<=16500
 rl:row.length<=5
 br:BrG M hs L br
 ch:ChD M L ch
 nd:L.Nodup
 ll:L.length<=9
def Wo (M m:Nat)(k:KS):Prop:=KnG M (m*30) k.1/\KwD M k.2/\k.2.length<=m*600000
theorem Wo.settle {M b m:Nat}{hs row L:List Str}{br:List yF}{ch:Nat->Nat->Rat}(g:GPar M b hs row L br ch){k:KS}(h:Wo M m k){p:Nat×Nat}(hp:p.1<p.2/\p.2<=row.length):Wo M (m+1) (J2 hs row L br ch k p):=by
 obtain⟨h1,h2,h3⟩:=h;have rl:=g.rl;have bl:=g.br.len;have ll:=g.ll;have eo:=vT (row:=row) g.d h1.d g.br hp.1 (by omega) h2 br.length (yg _);rw[yG] at eo;refine⟨?_,eo.kw,?_⟩
 ·have:=W5 (L:=L) (ch:=ch) (e:=(Jv hs row k.1 br p.1 p.2 k.2).1) (i:=p.1) (j:=p.2) (hs:=L) h1 fun x hx=>OkD.mono (by have:=g.d;omega) (yj7 g.d g.ch eo g.br.len hx) (by omega);refine⟨this.d,this.eq,?_⟩;have:=this.len;show(L.foldl (qL L ch (Jv hs row k.1 br p.1 p.2 k.2).1 p.1 p.2) k.1).1.length<=_;omega
 ·have:=eo.kl;show(Jv hs row k.1 br p.1 p.2 k.2).2.length<=_;unfold Jv;omega
theorem Wo.gs {M b m:Nat}{hs row L:List Str}{br:List yF}{ch:Nat->Nat->Rat}(g:GPar M b hs row L br ch){k:KS}(h:Wo M m k){a b' c:Addr}{gd:D}:GsOk ⟨a,b',c,gd,row,hs,br,L,ch,k.1,k.2⟩ M b:=⟨g.d,g.db,g.bl,g.rl,h.1.d,h.2.1⟩
theorem ygy {M b e n m:Nat}{hs row L:List Str}{br:List yF}{ch:Nat->Nat->Rat}(g:GPar M b hs row L br ch){a:En×Kw}(h:EnG M e n m L a):a.1.1.length<=9:=yQ (U5 h.nd h.keys) g.ll
def yjo:GSt->List D->GSt->D->Prop:=fun t ds t' d=>∃ (i j M b m:Nat),ds=[.raw (.ref t.a),.int (i:Int),.int (j:Int)]/\t'={t with kw:=(Jv t.hs t.row t.kn t.br i j t.kw).2}/\d=enD (Jv t.hs t.row t.kn t.br i j t.kw).1/\i<j/\j<=t.row.length/\GPar M b t.hs t.row t.L t.br t.ch/\Wo M m (t.kn,t.kw)/\m<=20
def yjz:GSt->List D->GSt->D->Prop:=fun t ds t' d=>∃ (i j M b m:Nat),ds=[.raw (.ref t.a),.int (i:Int),.int (j:Int)]/\t'={t with kn:=(J2 t.hs t.row t.L t.br t.ch (t.kn,t.kw) (i,j)).1,kw:=(J2 t.hs t.row t.L t.br t.ch (t.kn,t.kw) (i,j)).2}/\d=.non/\i<j/\j<=t.row.length/\GPar M b t.hs t.row t.L t.br t.ch/\Wo M m (t.kn,t.kw)/\m<=20
theorem yjL {P:Program}{w:World}{K:W.Frag}{Cs:Addr}:∀ t ds t' d,yjo t ds t' d->(omG P w K Cs t').map (·.1)=(omG P w K Cs t).map (·.1):=fun t ds t' d ⟨_,_,_,_,_,_,e,_⟩=>by subst e;rfl
theorem yjK {P:Program}{w:World}{K:W.Frag}{Cs:Addr}:∀ t ds t' d,yjz t ds t' d->(omG P w K Cs t').map (·.1)=(omG P w K Cs t).map (·.1):=fun t ds t' d ⟨_,_,_,_,_,_,e,_⟩=>by subst e;rfl
section
variable {X:Cx}{B:Bs}{Γ:Ga}{Ω:Om}{e tg:Expr}{RL:List D->Om->Prop}
theorem zG (h:V3 X B e Γ Ω fun d Ω1=>∃ ds,d=.lst ds/\RL ds Ω1):IV3 X B tg e Γ Ω RL:=fun F σ H S pins s I=>
 ya6 Qt pins s σ H _ I ((h F σ H S).mono fun v H1 ⟨d,Ω1,F1,S1,f1,i1,ds,ed,r⟩=>by
  subst ed;obtain⟨l,xs,rfl,s1,j1⟩:=jn i1;refine⟨l,rfl,⟨xs,S1.fh.seq s1⟩,ds,Ω1,F1,S1,f1,fun n F2 H2 e1 e2=>⟨fun d w=>?_,fun w=>⟨xs,(e1.trans e2).seq s1,by rw[j1.len];exact w⟩⟩,r⟩;obtain⟨x,hx,ix⟩:=j1.get w;refine⟨⟨xs,x,(e1.trans e2).seq s1,hx⟩,fun y H3 ⟨z,w'⟩=>?_⟩;subst z;have:=w' xs ((e1.trans e2).seq s1);rw[hx] at this;cases this;exact⟨F2,Pur.refl e2,ix.mono e1⟩)
end
theorem kK:∀ {a b:List Str},a.map D.str=b.map D.str->a=b
 |[],[],_=>rfl
 |[],_::_,h=>by simp at h
 |_::_,[],h=>by simp at h
 |x::a,y::b,h=>by
  rw[yn,yn,List.cons.injEq] at h;rw[D.str.inj h.1,kK h.2]
theorem Ul {a b:List Str}(h:Ye a=Ye b):a=b:=kK (D.tup.inj h)
theorem yci {r q:yF}(h:Jf r=Jf q):r=q:=by
 obtain⟨a,b,c⟩:=r;obtain⟨d,e,f⟩:=q;unfold Jf at h;simp only[D.tup.injEq,List.cons.injEq,D.str.injEq,and_true] at h;rw[h.1,Ul h.2.1,ydL h.2.2]
theorem kE:∀ {a b:List yF},yJ a=yJ b->a=b
 |[],[],_=>rfl
 |[],_::_,h=>by simp[yJ] at h
 |_::_,[],h=>by simp[yJ] at h
 |x::a,y::b,h=>by
  unfold yJ at h;rw[yn,yn,List.cons.injEq] at h;rw[yci h.1,kE (a:=a) (b:=b) h.2]
theorem yiS {C:Addr}{st st':Str}{rs rs':List yF}(h:gD C st rs=gD C st' rs'):st=st'/\rs=rs':=by
 unfold gD gDs at h;simp only[D.obj.injEq,List.cons.injEq,D.str.injEq,D.lst.injEq,true_and] at h;exact⟨h.1,kE h.2.1⟩
noncomputable def Jj (rs:List yF)(row:List Str)(k:Nat):KS:=((qK row.length).take k).foldl (J2 (yz rs) row (yq rs) (JW rs) (zc rs)) (([],[]),[])
noncomputable def knG (rs:List yF)(row:List Str):Kn:=(Jj rs row (qK row.length).length).1
theorem zr {rs:List yF}{row:List Str}{k:Nat}{p:Nat×Nat}(h:(qK row.length)[k]?=some p):Jj rs row (k+1)=J2 (yz rs) row (yq rs) (JW rs) (zc rs) (Jj rs row k) (p.1,p.2):=by
 unfold Jj;rw[yW h,Ym];rfl
theorem V8 {n:Nat}{p:Nat×Nat}(h:p∈qK n):p.1<p.2/\p.2<=n:=by
 unfold qK at h;obtain⟨l,hl,hp⟩:=Qf.mp h;obtain⟨i,hi,rfl⟩:=yo.mp hp;rw[YE] at hl hi;show i<i+l+1/\i+l+1<=n;omega
theorem yfu {n:Nat}(h:n<=5):(qK n).length<=15:=by
 rcases (show n=0∨n=1∨n=2∨n=3∨n=4∨n=5 by omega) with rfl|rfl|rfl|rfl|rfl|rfl <;> decide
structure SumG (rs:List yF)(row:List Str)(M b s:Nat):Prop where
 rl:rs.length<=30
 body:∀ r∈rs,r.2.1.length<=4
 keys:((Jc rs).map fun r=>(r.1,b0 r)).Nodup
 sz:∀ r∈rs,0<=r.2.2/\Sz s r.2.2
 s1:1<=s
 sk:sK s (yq rs).length<=big
 piv:Piv (yq rs).length (wM2 (yq rs) (Jc rs))
 par:GPar M b (yz rs) row (yq rs) (JW rs) (zc rs)
theorem ka {rs:List yF}{row:List Str}{M b s:Nat}(g:SumG rs row M b s):∀ k,k<=(qK row.length).length->Wo M k (Jj rs row k)
 |0,_=>⟨⟨(fun p hp=>by cases hp),rfl,qo _⟩,(fun p hp=>by cases hp),qo _⟩
 |k+1,hk=>by
  have hp:(qK row.length)[k]?=some (qK row.length)[k]:=al_getElem?_eq_getElem (by omega);rw[zr hp];exact(ka g k (by omega)).settle g.par (V8 (al_mem_of_getElem? hp))
noncomputable def sGs (Cg:Addr)(st:Str)(rs:List yF)(row:List Str)(c:Addr):List D:=[gD Cg st rs,Ye row,.lst (yB (yz rs)),.lst (yJ (JW rs)),chD (yq rs) (zc rs),knD (knG rs row),.raw (.ref c)]
def yct (Cg:Addr):List D->Prop:=fun ds=>∃ (st:Str) (rs:List yF) (row:List Str) (M b s:Nat),ds=[gD Cg st rs,Ye row]/\SumG rs row M b s
def XY (Cg:Addr):List D->List Str×List D->Prop:=fun ds r=>∀ (st:Str) (rs:List yF) (row:List Str),ds=[gD Cg st rs,Ye row]->∃ c,r=(sF,sGs Cg st rs row c)
theorem ydX {Cg:Addr}{st:Str}{rs:List yF}{row:List Str}{c:Addr}:XY Cg [gD Cg st rs,Ye row] (sF,sGs Cg st rs row c):=fun st' rs' row' h=>by
 simp only[List.cons.injEq,and_true] at h;obtain⟨e1,e2⟩:=yiS h.1;rw[←e1,←e2,←Ul h.2];exact⟨c,rfl⟩
theorem ygw {n:Nat}{f g:Nat->Rat}(h:∀ j,j<n->f j<=g j):Yr n f<=Yr n g:=by
 induction n with
 |zero=>exact ql
 |succ n ih=>rw[Yr,Yr];have:=ih (fun j hj=>h j (by omega));have:=h n (by omega);grind
theorem yaD {n:Nat}{f:Nat->Rat}(h:∀ j,j<n->0<=f j):0<=Yr n f:=by
 have:=ygw (f:=fun _=>0) (g:=f) (n:=n) h
 rwa [ji (f:=fun _=>0) fun _ _=>rfl] at this
theorem W1 {n k:Nat}{f:Nat->Rat}(h:∀ j,j<n->0<=f j)(hk:k<n):f k<=Yr n f:=by
 have e:=vF (f:=f) hk;have:0<=Yr n (fun j=>if j=k then 0 else f j):=yaD fun j hj=>by
  split
  ·exact ql
  ·exact h j hj
 grind
theorem Ks {a b c:Rat}(h:a<b)(hc:0<c):a*c<b*c:=Rat.mul_lt_mul_of_pos_right h hc
theorem WO {a b c:Rat}(h:a<=b)(hc:0<=c):a*c<=b*c:=Rat.mul_le_mul_of_nonneg_right h hc
structure PvI (n:Nat)(v:Nat->Rat)(E:Nat->Nat->Rat):Prop where
 nn:∀ i j,i<n->j<n->0<=E i j
 lt:∀ i,i<n->Yr n (fun j=>E i j*v j)<v i
theorem PvI.piv {n k:Nat}{v:Nat->Rat}{E:Nat->Nat->Rat}(hv:∀ i,i<n->0<v i)(h:PvI n v E)(hk:k<n):E k k<1:=by
 have a:=W1 (f:=fun j=>E k j*v j) (fun j hj=>Rat.mul_nonneg (h.nn k j hk hj) (YG (hv j hj))) hk;have b:=h.lt k hk;have c:E k k*v k<1*v k:=by grind
 exact Rat.lt_of_mul_lt_mul_right c (YG (hv k hk))
theorem yiF {a b c:Rat}(hc:0<c)(h:a<b*c):a / c<b:=by
 have:a*c⁻¹<b*c*c⁻¹:=Ks h (Rat.inv_pos.mpr hc);rw[Rat.mul_assoc,Rat.mul_inv_cancel _ (by grind),Rat.mul_one] at this;rw[Rat.div_def];exact this
theorem PvI.step {n k:Nat}{v:Nat->Rat}{E:Nat->Nat->Rat}(hv:∀ i,i<n->0<v i)(h:PvI n v E)(hk:k<n):PvI n v (Jn E k):=by
 have p:=h.piv hv hk;have p1:=zi p;have ne:1 - E k k≠0:=by grind
 have row:∀ c:Nat->Rat,Yr n (fun j=>(if j=k then 0 else c j)*v j)=Yr n (fun j=>c j*v j) - c k*v k:=fun c=>by
  rw[←vF (f:=fun j=>c j*v j) hk];refine YB fun j _=>?_;by_cases hj:j=k
  ·rw[yc hj,yc hj];grind
  ·rw[yb hj,yb hj]
 have g:Yr n (fun j=>E k j / (1 - E k k)*v j)=Yr n (fun j=>E k j*v j) / (1 - E k k):=by
  have:Yr n (fun j=>E k j / (1 - E k k)*v j)=Yr n (fun j=>(1 / (1 - E k k))*(E k j*v j)):=YB fun j _=>by grind
  rw[this,zu];grind
 have lk:=h.lt k hk;have q:(Yr n (fun j=>E k j*v j) - E k k*v k) / (1 - E k k)<v k:=yiF p1 (by grind);have dn:∀ j,j<n->0<=E k j / (1 - E k k):=fun j hj=>Kr (h.nn k j hk hj) p1;constructor
 ·intro i j hi hj;unfold Jn;split
  ·split
   ·exact ql
   ·exact dn j hj
  ·split
   ·exact ql
   ·exact vW (h.nn i j hi hj) (Zm (h.nn i k hi hk) (dn j hj))
 ·intro i hi;by_cases hik:i=k
  ·subst hik;have e1:(fun j=>Jn E i i j*v j)=fun j=>(if j=i then 0 else E i j / (1 - E i i))*v j:=by
    funext j;unfold Jn;rw[yc rfl]
   rw[e1,row (fun j=>E i j / (1 - E i i)),g];grind
  ·have e1:(fun j=>Jn E k i j*v j)=fun j=>(if j=k then 0 else E i j+E i k*(E k j / (1 - E k k)))*v j:=by
    funext j;unfold Jn;rw[yb hik]
   have e3:Yr n (fun j=>(E i j+E i k*(E k j / (1 - E k k)))*v j)=Yr n (fun j=>E i j*v j)+E i k*(Yr n (fun j=>E k j*v j) / (1 - E k k)):=by
    rw[←g,←zu,←Jx];exact YB fun j _=>by grind
   rw[e1,row (fun j=>E i j+E i k*(E k j / (1 - E k k))),e3];have li:=h.lt i hi;have m:=WO (YG q) (h.nn i k hi hk);grind
theorem yhX {n:Nat}{W:Nat->Nat->Rat}{v:Nat->Rat}(hv:∀ i,i<n->0<v i)(h:PvI n v W):Piv n W:=by
 have go:∀ k,k<=n->PvI n v (EK W k):=fun k=>by
  induction k with
  |zero=>intro _;exact h
  |succ k ih=>intro hk;exact(ih (by omega)).step hv (by omega)
 intro k hk;exact(go k (by omega)).piv hv hk
def pw (e:Rat):Nat->Rat
 |0=>1
 |k+1=>e*pw e k
theorem U3 {e:Rat}(h:0<e):∀ k,0<pw e k
 |0=>by show(0:Rat)<1;decide
 |k+1=>Rat.mul_pos h (U3 h k)
theorem yap {e:Rat}(h:0<e)(h1:e<1){k:Nat}:pw e (k+1)<pw e k:=by
 have:=Ks h1 (U3 h k);rw[pw];grind
theorem ybe {e:Rat}(h:0<e)(h1:e<1):∀ {m k:Nat},k<=m->pw e m<=pw e k
 |0,k,hk=>by rw[jG.mp hk];exact ql
 |m+1,k,hk=>by
  rcases QI k (m+1) with h2|h2
  ·have a:=ybe h h1 (m:=m) (k:=k) (by omega);have b:=yap h h1 (k:=m);grind
  ·rw[show k=m+1 by omega];exact ql
theorem yeo {n:Nat}{W:Nat->Nat->Rat}{ρ:Nat->Nat}(hW:∀ i j,i<n->j<n->0<=W i j)(hs:∀ i,i<n->Yr n (W i)<=1)(h:∀ i,i<n->Yr n (W i)<1∨∃ j,j<n/\0<W i j/\ρ j<ρ i):Piv n W:=by
 have eps:∃ e:Rat,0<e/\e<1/\∀ i,i<n->e<1 - Yr n (W i)∨∃ j,j<n/\e<W i j/\ρ j<ρ i:=by
  have go:∀ m,m<=n->∃ e:Rat,0<e/\e<1/\∀ i,i<m->e<1 - Yr n (W i)∨∃ j,j<n/\e<W i j/\ρ j<ρ i:=fun m=>by
   induction m with
   |zero=>intro _;exact⟨1 / 2,by decide +kernel,by decide +kernel,fun i hi=>by omega⟩
   |succ m ih=>
    intro hm;obtain⟨e,e0,e1,he⟩:=ih (by omega);have yfT:∃ d:Rat,0<d/\(d<1 - Yr n (W m)∨∃ j,j<n/\d<W m j/\ρ j<ρ m):=by
     rcases h m (by omega) with z|⟨j,hj,hp,hr⟩
     ·exact⟨(1 - Yr n (W m)) / 2,by grind,.inl (by grind)⟩
     ·exact⟨W m j / 2,by grind,.inr ⟨j,hj,by grind,hr⟩⟩
    obtain⟨d,d0,hd⟩:=yfT;by_cases hed:e<=d
    ·refine⟨e,e0,e1,fun i hi=>?_⟩;rcases QI i m with hlt|hge
     ·exact he i hlt
     ·have:i=m:=by omega
      subst this;rcases hd with z|⟨j,hj,hp,hr⟩
      ·exact .inl (by grind)
      ·exact .inr ⟨j,hj,by grind,hr⟩
    ·refine⟨d,d0,by grind,fun i hi=>?_⟩;rcases QI i m with hlt|hge
     ·rcases he i hlt with z|⟨j,hj,hp,hr⟩
      ·exact .inl (by grind)
      ·exact .inr ⟨j,hj,by grind,hr⟩
     ·have:i=m:=by omega
      subst this;exact hd
  exact go n (yg _)
 obtain⟨e,e0,e1,he⟩:=eps;have ple:∀ k,pw e (k+1)<1:=fun k=>by
  have a:=yap e0 e1 (k:=k);have b:=ybe e0 e1 (m:=k) (k:=0) (by omega);rw[show pw e 0=1 from rfl] at b;grind
 refine yhX (v:=fun i=>1 - pw e (ρ i+1)) (fun i hi=>by have:=ple (ρ i);grind) ⟨hW,fun i hi=>?_⟩;have split:Yr n (fun j=>W i j*(1 - pw e (ρ j+1)))=Yr n (W i) - Yr n (fun j=>W i j*pw e (ρ j+1)):=by
  have:Yr n (W i)=Yr n (fun j=>W i j*(1 - pw e (ρ j+1)))+Yr n (fun j=>W i j*pw e (ρ j+1)):=by
   rw[←Jx];exact YB fun j _=>by grind
  grind
 rw[split];have nn:∀ j,j<n->0<=W i j*pw e (ρ j+1):=fun j hj=>Rat.mul_nonneg (hW i j hi hj) (YG (U3 e0 _));rcases he i hi with z|⟨j,hj,hp,hr⟩
 ·have a:=yaD nn;have b:pw e (ρ i+1)<=e:=by
   have:=ybe e0 e1 (m:=ρ i+1) (k:=1) (by omega);rw[show pw e 1=e*1 from rfl] at this;grind
  grind
 ·have a:=W1 nn hj;have b:=hs i hi;have c:pw e (ρ i)<=pw e (ρ j+1):=ybe e0 e1 (by omega);have d:=Ks hp (U3 e0 (ρ i));have f:W i j*pw e (ρ i)<=W i j*pw e (ρ j+1):=by
   have:=WO c (hW i j hi hj);grind
  have g:pw e (ρ i+1)=e*pw e (ρ i):=rfl;grind
def Rk (hs:List Str)(rs:List yF):Nat->Str->Prop
 |0,_=>False
 |n+1,h=>∃ r∈rs,r.1=h/\∀ x∈r.2.1,x∈hs->Rk hs rs n x
theorem Rk.succ {hs:List Str}{rs:List yF}:∀ {n:Nat} {h:Str},Rk hs rs n h->Rk hs rs (n+1) h
 |0,_,k=>k.elim
 |n+1,h,k=>by
  obtain⟨r,hr,e,hb⟩:=k;exact⟨r,hr,e,fun x hx hh=>Rk.succ (hb x hx hh)⟩
theorem Rk.mono {hs:List Str}{rs:List yF}{n m:Nat}{h:Str}(k:Rk hs rs n h)(l:n<=m):Rk hs rs m h:=by
 induction m with
 |zero=>rw[jG.mp l] at k;exact k
 |succ m ih=>
  rcases QI n (m+1) with z|z
  ·exact(ih (by omega)).succ
  ·rw[show m+1=n by omega];exact k
theorem Rk.live {hs:List Str}{rs:List yF}:∀ {n:Nat} {h:Str},Rk hs rs n h->Live hs rs h
 |0,_,k=>k.elim
 |n+1,h,k=>by
  obtain⟨r,hr,e,hb⟩:=k;rw[←e];exact .mk r hr fun x hx hh=>Rk.live (hb x hx hh)
theorem ycS {hs:List Str}{rs:List yF}:∀ {b:List Str},(∀ x∈b,x∈hs->∃ n,Rk hs rs n x)->∃ n,∀ x∈b,x∈hs->Rk hs rs n x
 |[],_=>⟨0,fun x hx=>by cases hx⟩
 |y::b,h=>by
  obtain⟨n,hn⟩:=ycS (b:=b) fun x hx=>h x (yf _ hx);by_cases hy:y∈hs
  ·obtain⟨k,hk⟩:=h y (by simp) hy;refine⟨max n k,fun x hx qx=>?_⟩;rcases yA.mp hx with z|z
   ·exact z▸hk.mono (Nat.le_max_right ..)
   ·exact(hn x z qx).mono (Nat.le_max_left ..)
  ·refine⟨n,fun x hx qx=>?_⟩;rcases yA.mp hx with z|z
   ·exact absurd (z▸qx) hy
   ·exact hn x z qx
theorem yjb {hs:List Str}{rs:List yF}{h:Str}(l:Live hs rs h):∃ n,Rk hs rs n h:=by
 induction l with
 |mk r hr hb ih=>
  obtain⟨n,hn⟩:=ycS (b:=r.2.1) fun x hx hh=>ih x hx hh;exact⟨n+1,r,hr,rfl,hn⟩
theorem yd3 {p:Nat->Prop}(h:∃ n,p n):∃ n,p n/\∀ m,p m->n<=m:=by
 obtain⟨n,hn⟩:=h
 induction n using Nat.strongRecOn with
 |ind n ih=>
  by_cases q:∃ m,m<n/\p m
  ·obtain⟨m,h1,h2⟩:=q;exact ih m h1 h2
  ·exact⟨n,hn,fun m hm=>Nat.le_of_not_lt fun z=>q ⟨m,z,hm⟩⟩
open Classical in
noncomputable def Wd (hs:List Str)(rs:List yF)(h:Str):Nat:=if e:∃ n,Rk hs rs n h then (yd3 e).choose else 0
theorem X3 {hs:List Str}{rs:List yF}{h:Str}(e:∃ n,Rk hs rs n h):Rk hs rs (Wd hs rs h) h/\∀ m,Rk hs rs m h->Wd hs rs h<=m:=by
 unfold Wd;rw[dif_pos e];exact(yd3 e).choose_spec
theorem ybA {hs:List Str}{rs:List yF}{h:Str}(l:Live hs rs h):∃ r∈rs,r.1=h/\∀ x∈r.2.1,x∈hs->Live hs rs x/\Wd hs rs x<Wd hs rs h:=by
 have k:=(X3 (yjb l)).1;generalize hn:Wd hs rs h=n at k;cases n with
 |zero=>exact k.elim
 |succ n=>
  obtain⟨r,hr,e,hb⟩:=k;refine⟨r,hr,e,fun x hx hh=>⟨(hb x hx hh).live,Nat.lt_succ_of_le ((X3 ⟨n,hb x hx hh⟩).2 n (hb x hx hh))⟩⟩
theorem jf {h:Str}{r:yF}{rs:List yF}:Q9 h (r::rs)=(if r.1=h then r.2.2 else 0)+Q9 h rs:=by
 have go:∀ (rs:List yF) (a:Rat),rs.foldl (Jh h) a=a+Q9 h rs:=by
  intro rs
  induction rs with
  |nil=>intro a;simp[Q9];grind
  |cons r rs ih=>
   intro a;unfold Q9;rw[Yp,Yp,ih,ih (Jh h 0 r)];unfold Jh;split <;> grind
 unfold Q9;rw[Yp,go];unfold Jh;split
 ·show 0+r.2.2+Q9 h rs=r.2.2+Q9 h rs;grind
 ·rfl
theorem JF {h:Str}{p:yF->Bool}:∀ {rs:List yF},(∀ r∈rs,0<=r.2.2)->Q9 h (rs.filter p)<=Q9 h rs
 |[],_=>ql
 |r::rs,hn=>by
  have ih:=JF (h:=h) (p:=p) (rs:=rs) fun x hx=>hn x (yf _ hx);have h0:=hn r (by simp);cases q:p r with
  |true=>
   rw[y4 (by exact q),jf,jf];grind
  |false=>
   rw[y3 (by rw[q];decide),jf];split <;> grind
theorem KJ {h:Str}{p:yF->Bool}{r:yF}:∀ {rs:List yF},(∀ r∈rs,0<=r.2.2)->r∈rs->r.1=h->p r=false->0<r.2.2->Q9 h (rs.filter p)<Q9 h rs
 |[],_,hr,_,_,_=>by cases hr
 |x::rs,hn,hr,e,hp,h0=>by
  have hn':∀ r∈rs,0<=r.2.2:=fun y hy=>hn y (yf _ hy);have le:=JF (h:=h) (p:=p) (rs:=rs) hn';have hx:=hn x (by simp);rcases yA.mp hr with z|z
  ·subst z;rw[y3 (by rw[hp];decide),jf,yc e];grind
  ·have ih:=KJ (rs:=rs) hn' z e hp h0;cases q:p x with
   |true=>
    rw[y4 (by exact q),jf,jf];grind
   |false=>
    rw[y3 (by rw[q];decide),jf];split <;> grind
theorem JH {r:yF}{ss:List yF}{h o:Str}:JY (r::ss) h o=if r.1=h/\b0 r=o then r.2.2 else JY ss h o:=by
 unfold JY vA;rw[yn,yn,yM,al_find?_cons];by_cases e:r.1=h/\b0 r=o
 ·rw[yc e,yI (by rw[e.1,e.2])];rfl
 ·rw[yb e,yv (fun z=>e (by simpa using z))]
theorem WF {ss:List yF}{h o:Str}(hn:(h,o)∉ss.map fun r=>(r.1,b0 r)):JY ss h o=0:=by
 induction ss with
 |nil=>rfl
 |cons r ss ih=>
  rw[JH,yb (fun z=>hn (by rw[yn,z.1,z.2];exact yp)),ih fun z=>hn (by rw[yn];exact yf _ z)]
theorem ve {n k:Nat}{c:Rat}(hk:k<n):Yr n (fun j=>if j=k then c else 0)=c:=by
 have e:=vF (f:=fun j=>if j=k then c else 0) hk;rw[ji fun j _=>by by_cases h:j=k <;> simp[h]] at e;simp at e;grind
theorem Wb {L:List Str}{h:Str}(nd:L.Nodup):∀ {ss:List yF},(ss.map fun r=>(r.1,b0 r)).Nodup->(∀ r∈ss,b0 r∈L)->Yr L.length (fun j=>JY ss h (L.getD j ""))=Q9 h ss
 |[],_,_=>ji fun j _=>rfl
 |r::ss,hk,hL=>by
  rw[yn,yK] at hk;have ih:=Wb nd (h:=h) (ss:=ss) hk.2 fun x hx=>hL x (yf _ hx);rw[jf,←ih];have hb:=hL r (by simp);by_cases e:r.1=h
  ·rw[yc e];have hi:=Yy.mpr hb;have:Yr L.length (fun j=>JY (r::ss) h (L.getD j ""))=Yr L.length (fun j=>(if j=L.idxOf (b0 r) then r.2.2 else 0)+JY ss h (L.getD j "")):=YB fun j hj=>by
    have gj:L.getD j "" = L[j]:=by rw[al_getD_eq_getElem?_getD,al_getElem?_eq_getElem hj];rfl
    rw[JH,gj];by_cases ej:j=L.idxOf (b0 r)
    ·have e2:b0 r=L[j]:=by subst ej;exact(qy hi).symm
     rw[yc ⟨e,e2⟩,yc ej,WF (by rw[←e2,←e];exact hk.1)];grind
    ·have e2:¬ b0 r=L[j]:=fun z=>ej (by
      have h1:=qy hi;have:L[L.idxOf (b0 r)]=L[j]:=h1.trans z;exact((List.getElem_inj nd).mp this).symm)
     rw[yb (fun z=>e2 z.2),yb ej];grind
   rw[this,Jx,ve hi]
  ·rw[yb e,YB (g:=fun j=>JY ss h (L.getD j "")) fun j _=>by rw[JH,yb (fun z=>e z.1)]];grind
theorem wE:∀ {rs:List yF} {acc:List Str},acc.Nodup->(rs.foldl Y7 acc).Nodup
 |[],acc,h=>h
 |r::rs,acc,h=>by
  rw[Yp];refine wE ?_;unfold Y7;split
  ·exact h
  ·rename_i hn;rw[Yd];exact⟨h,by simp,fun a ha b hb e=>hn (by rw[yu.mp hb] at e;exact e▸ha)⟩
theorem jV {hs:List Str}{rs:List yF}{h:Str}:h∈jN hs rs ↔ h∈hs/\Live hs rs h:=by
 unfold jN;rw[yU];simp
section
variable {rs:List yF}
theorem yaU:(yq rs).Nodup:=List.Pairwise.filter _ (wE qD)
theorem ko {r:yF}:qA (yz rs) (yq rs) r.2.1=true ↔ ∀ x∈r.2.1,x∈yz rs->Live (yz rs) rs x:=by
 rw[Z4];refine forall_congr' fun x=>forall_congr' fun _=>⟨fun h hh=>(jV.mp (h hh)).2,fun h hh=>jV.mpr ⟨hh,h hh⟩⟩
theorem Vk {r:yF}:r∈Jc rs ↔ r∈rs/\qA (yz rs) (yq rs) r.2.1=true/\qE (yq rs) r=true:=by
 unfold Jc js;rw[yU,yU];exact⟨fun h=>⟨h.1.1,h.1.2,h.2⟩,fun h=>⟨⟨h.1,h.2.1⟩,h.2.2⟩⟩
theorem xJ {r:yF}:r∈JW rs ↔ r∈rs/\qA (yz rs) (yq rs) r.2.1=true/\qE (yq rs) r=false:=by
 unfold JW js;rw[yU,yU];simp only[Bool.not_eq_true'];exact⟨fun h=>⟨h.1.1,h.1.2,h.2⟩,fun h=>⟨⟨h.1,h.2.1⟩,h.2.2⟩⟩
theorem vz {L:List Str}{r:yF}(h:qE L r=true):r.2.1=[b0 r]/\b0 r∈L:=by
 unfold qE at h;split at h
 ·rename_i x hx;have:b0 r=x:=by unfold b0;rw[hx];rfl
  rw[this];exact⟨hx,of_decide_eq_true h⟩
 ·cases h
theorem VD {α β:Type}{f:α->β}{p:α->Bool}:∀ {l:List α},(l.map f).Nodup->((l.filter p).map f).Nodup
 |[],_=>qD
 |a::l,h=>by
  rw[yn,yK] at h;have ih:=VD (p:=p) h.2;cases q:p a with
  |true=>
   rw[y4 (by exact q),yn,yK];refine⟨fun z=>h.1 ?_,ih⟩;obtain⟨b,hb,e⟩:=yo.mp z;exact yo.mpr ⟨b,(yU.mp hb).1,e⟩
  |false=>rw[y3 (by rw[q];decide)];exact ih
theorem yaA (h:(rs.map fun r=>(r.1,r.2.1)).Nodup):((Jc rs).map fun r=>(r.1,b0 r)).Nodup:=by
 have a:((Jc rs).map fun r=>(r.1,r.2.1)).Nodup:=VD (VD h);have go:∀ {l:List yF},(∀ r∈l,r.2.1=[b0 r])->(l.map fun r=>(r.1,r.2.1)).Nodup->(l.map fun r=>(r.1,b0 r)).Nodup:=by
  intro l
  induction l with
  |nil=>intro _ _;exact qD
  |cons r l ih=>
   intro h1 h2;rw[yn,yK] at h2 ⊢;refine⟨fun z=>h2.1 ?_,ih (fun x hx=>h1 x (yf _ hx)) h2.2⟩;obtain⟨q,hq,e⟩:=yo.mp z;simp only[Prod.mk.injEq] at e;refine yo.mpr ⟨q,hq,?_⟩;rw[h1 q (yf _ hq),h1 r (by simp),e.1,e.2]
 exact go (fun r hr=>(vz (Vk.mp hr).2.2).1) a
theorem yej {r:yF}:∀ {ss:List yF},(ss.map fun r=>(r.1,b0 r)).Nodup->r∈ss->JY ss r.1 (b0 r)=r.2.2
 |[],_,h=>by cases h
 |q::ss,hn,h=>by
  rw[yn,yK] at hn;rw[JH];rcases yA.mp h with z|z
  ·subst z;rw[yc ⟨rfl,rfl⟩]
  ·rw[yb fun e=>hn.1 (by rw[e.1,e.2];exact yo.mpr ⟨r,z,rfl⟩)];exact yej hn.2 z
theorem ycM (hp:(rs.map fun r=>(r.1,r.2.1)).Nodup)(h0:∀ r∈rs,0<r.2.2)(h1:∀ h∈yz rs,Q9 h rs=1):Piv (yq rs).length (wM2 (yq rs) (Jc rs)):=by
 have nn:∀ r∈rs,0<=r.2.2:=fun r hr=>YG (h0 r hr)
 have ks:=yaA hp;have hd:∀ i,i<(yq rs).length->(yq rs).getD i "" ∈ yq rs:=fun i hi=>by
  rw[al_getD_eq_getElem?_getD,al_getElem?_eq_getElem hi];exact List.getElem_mem hi
 have row:∀ i,Yr (yq rs).length (wM2 (yq rs) (Jc rs) i)=Q9 ((yq rs).getD i "") (Jc rs):=fun i=>Wb yaU ks fun r hr=>(vz (Vk.mp hr).2.2).2;have lr:∀ h,Q9 h (js (yz rs) (yq rs) rs)<=Q9 h rs:=fun h=>JF nn;have lrn:∀ r∈js (yz rs) (yq rs) rs,0<=r.2.2:=fun r hr=>nn r (yU.mp hr).1;refine yeo (ρ:=fun i=>Wd (yz rs) rs ((yq rs).getD i "")) (fun i j _ _=>?_) (fun i hi=>?_) fun i hi=>?_
 ·show 0<=JY _ _ _;unfold JY;cases q:vA ((Jc rs).map fun r=>(r.1,b0 r)) ((Jc rs).map (·.2.2)) ((yq rs).getD i "", (yq rs).getD j "") with
  |none=>exact ql
  |some v=>
   obtain⟨r,hr,e⟩:=yo.mp (wD q);rw[←e];exact nn r (Vk.mp hr).1
 ·rw[row,←h1 _ (jV.mp (hd i hi)).1];have a:=JF (h:=(yq rs).getD i "") (p:=qE (yq rs)) lrn;exact Rat.le_trans a (lr _)
 ·obtain⟨lh,ll⟩:=jV.mp (hd i hi);obtain⟨r,hr,e,hb⟩:=ybA ll;have ok:qA (yz rs) (yq rs) r.2.1=true:=ko.mpr fun x hx hh=>(hb x hx hh).1;cases q:qE (yq rs) r with
  |true=>
   obtain⟨o1,o2⟩:=vz q;have hx:b0 r∈yz rs:=(jV.mp o2).1;refine .inr ⟨(yq rs).idxOf (b0 r),Yy.mpr o2,?_,?_⟩
   ·have ei:(yq rs).getD ((yq rs).idxOf (b0 r)) "" = b0 r:=by rw[al_getD_eq_getElem?_getD,UA o2];rfl
    show 0<JY _ _ _;rw[ei,←e,yej ks (Vk.mpr ⟨hr,ok,q⟩)];exact h0 r hr
   ·show Wd _ _ ((yq rs).getD ((yq rs).idxOf (b0 r)) "")<_;rw[al_getD_eq_getElem?_getD,UA o2];exact(hb (b0 r) (by rw[o1];simp) hx).2
  |false=>
   refine .inl ?_;rw[row,←h1 _ lh];have a:=KJ (h:=(yq rs).getD i "") (p:=qE (yq rs)) lrn (yU.mpr ⟨hr,ok⟩) e q (h0 r hr);have b:=lr ((yq rs).getD i "");unfold Jc;grind
theorem OkD.times {M k:Nat}{q:Rat}(h:OkD M 1 q)(hk:0<k):OkD (M*k) 1 q:=by
 obtain⟨z,e1,e2⟩:=h;refine⟨z*k,?_,?_⟩
 ·rw[e1,Nat.pow_one,Nat.pow_one,QB,QB,ZJ (by omega)]
 ·rw[jF] at e2 ⊢;have a:=qt k e2;have b:M ^ (2*1)*k<=(M*k) ^ (2*1):=by
   rw[show 2*1=2 from rfl,Nat.mul_pow];refine Nat.mul_le_mul_left _ ?_;rw[Nat.pow_two];exact Nat.le_mul_of_pos_left k hk
  exact yQ a b
theorem OkD.self {M:Nat}{q:Rat}(hq:0<=q)(hM:0<M):OkD (M*(q.den*(q.num.natAbs+1))) 1 q:=by
 have dp:=q.den_pos;obtain⟨n,hn⟩:=Yz (My.q_num_nn hq);refine⟨n*(M*(n+1)),?_,?_⟩
 ·rw[Nat.pow_one,hn,qm];have e:q=Rat.divInt q.num q.den:=(YK q).symm;have z:(0:Int)<((M*(n+1):Nat):Int):=Int.natCast_pos.mpr (Nat.mul_pos hM (Nat.succ_pos n));rw[show((n*(M*(n+1)):Nat):Int)=(n:Int)*((M*(n+1):Nat):Int) by push_cast;rfl,show((M*(q.den*(n+1)):Nat):Int)=(q.den:Int)*((M*(n+1):Nat):Int) by push_cast;grind,ZJ z,←hn];exact e
 ·rw[jF,hn,qm,show 2*1=2 from rfl,Nat.pow_two];have a:n<=M*(q.den*(n+1)):=by
   have:n+1<=M*q.den*(n+1):=Nat.le_mul_of_pos_left _ (Nat.mul_pos hM dp);rw[Nat.mul_assoc] at this;omega
  have b:M*(n+1)<=M*(q.den*(n+1)):=Nat.mul_le_mul_left M (Nat.le_mul_of_pos_left _ dp);exact Y1 a b
theorem yjx {t:Nat}:∀ {qs:List Rat},(∀ q∈qs,0<=q/\Sz t q)->∃ M,32<=M/\M<2 ^ (6+qs.length*(2*t))/\∀ q∈qs,OkD M 1 q
 |[],_=>⟨32,yg _,by simp,fun q hq=>by cases hq⟩
 |q::qs,h=>by
  obtain⟨M,h1,h2,h3⟩:=yjx (qs:=qs) fun x hx=>h x (yf _ hx);obtain⟨q0,s1,s2⟩:=h q (by simp);have kp:0<q.den*(q.num.natAbs+1):=Nat.mul_pos q.den_pos (Nat.succ_pos _);refine⟨M*(q.den*(q.num.natAbs+1)),yQ h1 (Nat.le_mul_of_pos_right _ kp),?_,fun x hx=>?_⟩
  ·rw[ym,show 6+(qs.length+1)*(2*t)=6+qs.length*(2*t)+(t+t) by rw[QP];omega];generalize 6+qs.length*(2*t)=A at h2 ⊢;rw[Nat.pow_add 2 A,Nat.pow_add 2 t];exact Nat.mul_lt_mul_of_lt_of_le h2 (Y1 (qS s2) (by omega)) (Nat.mul_pos (Nat.pow_pos (by decide)) (Nat.pow_pos (by decide)))
  ·rcases yA.mp hx with z|z
   ·subst z;exact OkD.self q0 (by omega)
   ·exact(h3 x z).times kp
end
theorem yf5 {hs ws:List Str}{rs:List yF}(g:GOk hs ws rs)(h3:hs.length<=3){row:List Str}(hr:row.length<=5):∃ M b,SumG rs row M b 5:=by
 have sz:∀ r∈rs,0<=r.2.2/\Sz 5 r.2.2:=fun r hr=>⟨YG (g.pos r hr).1,(g.pos r hr).2⟩
 have rl:=g.rl;have ll:(yq rs).length<=3:=yQ (y9 _ _) (by rw[g.fst];exact h3);have pv:=ycM g.prs (fun r hr=>(g.pos r hr).1) fun h hh=>g.one h (by rw[←g.fst];exact hh);have cg:=ydi (L:=yq rs) (ss:=Jc rs) (s:=5) (fun r hr=>sz r (Vk.mp hr).1) (by decide) pv;have s3:sK 5 (yq rs).length<=383:=yQ (yaX ll) (by decide);obtain⟨M,m1,m2,m3⟩:=yjx (t:=383) (qs:=rs.map (·.2.2)++(List.range (yq rs).length).flatMap fun i=>(List.range (yq rs).length).map fun j=>zc rs i j) fun q hq=>by
  rcases yY.mp hq with z|z
  ·obtain⟨r,h1,rfl⟩:=yo.mp z;exact⟨(sz r h1).1,(sz r h1).2.mono (by decide)⟩
  ·obtain⟨i,hi,z⟩:=Qf.mp z;obtain⟨j,hj,rfl⟩:=yo.mp z;rw[YE] at hi hj;exact⟨(cg i j hi hj).1,(cg i j hi hj).2.mono s3⟩
 refine⟨M,16500,by omega,fun r hr=>(g.body r hr).2.1,yaA g.prs,sz,by decide,yQ s3 (by decide),pv,m1,yH m2 (YC (by decide) ?_),yg _,hr,⟨?_,fun r hr=>?_,fun r hr=>?_,fun r hr=>?_⟩,fun i j hi hj=>?_,yaU,by omega⟩
 ·have:((List.range (yq rs).length).flatMap fun i=>(List.range (yq rs).length).map fun j=>zc rs i j).length<=9:=by
   have e:∀ n k:Nat,((List.range n).flatMap fun i=>(List.range k).map fun j=>zc rs i j).length=n*k:=fun n k=>by
    induction n with
    |zero=>simp
    |succ n ih=>rw[Y9,Y6,yy,ih,QP];simp
   rw[e];exact Y1 ll ll
  rw[yy,ye];omega
 ·have a:(JW rs).length<=_:=y9 _ _;have b:(js (yz rs) (yq rs) rs).length<=rs.length:=y9 _ _;omega
 ·obtain⟨h1,h2,_⟩:=xJ.mp hr;exact jV.mpr ⟨Z1.mpr (yo.mpr ⟨r,h1,rfl⟩),.mk r h1 (ko.mp h2)⟩
 ·obtain⟨h1,h2,h3⟩:=xJ.mp hr;obtain⟨b1,b2,_⟩:=g.body r h1;refine⟨b1,b2,fun x hx hh=>?_⟩;unfold qE at h3;rw[hx] at h3;have hl:x∉yq rs:=of_decide_eq_false h3;exact hl (jV.mpr ⟨hh,ko.mp h2 x (by rw[hx];simp) hh⟩)
 ·exact m3 _ (y8 _ (yo.mpr ⟨r,(xJ.mp hr).1,rfl⟩))
 ·exact m3 _ (yN _ (Qf.mpr ⟨i,YE.mpr hi,yo.mpr ⟨j,YE.mpr hj,rfl⟩⟩))
section
variable {A B x y:Str}{p0 p1 p2 p3:Rat}
end
section
variable {κ α:Type}[DecidableEq κ]
theorem ya0 {k k':κ}{v:α}:∀ {ks:List κ} {xs:List α},ks.length=xs.length->vA ks ((ks.zip xs).map fun p=>if p.1=k then v else p.2) k'=if k'=k then (if k∈ks then some v else none) else vA ks xs k'
 |[],[],_=>by by_cases h:k'=k <;> simp[vA,h]
 |[],_::_,h=>by simp at h
 |_::_,[],h=>by simp at h
 |q::ks,x::xs,h=>by
  have ih:=ya0 (k:=k) (k':=k') (v:=v) (ks:=ks) (xs:=xs) (by simpa using h);unfold vA at ih ⊢;rw[yM,yn,yM,al_find?_cons,al_find?_cons];by_cases e:q=k'
  ·subst e;by_cases e2:q=k
   ·subst e2;simp
   ·simp[e2]
  ·rw[yv e];dsimp only;rw[ih];by_cases e2:k'=k
   ·subst e2;have:¬ k'=q:=fun z=>e z.symm;simp[this]
   ·simp[e2]
theorem yab {k k':κ}{v:α}:∀ {ks:List κ} {xs:List α},ks.length=xs.length->k∉ks->vA (ks++[k]) (xs++[v]) k'=if k'=k then some v else vA ks xs k'
 |[],[],_,_=>by
  by_cases h:k'=k
  ·subst h;simp[vA]
  ·have:¬ k=k':=fun z=>h z.symm;simp[vA,h,this]
 |[],_::_,h,_=>by simp at h
 |_::_,[],h,_=>by simp at h
 |q::ks,x::xs,h,hk=>by
  have ih:=yab (k:=k) (k':=k') (v:=v) (ks:=ks) (xs:=xs) (by simpa using h) fun z=>hk (yf _ z);unfold vA at ih ⊢;rw[qp,qp,yM,yM,al_find?_cons,al_find?_cons];by_cases e:q=k'
  ·subst e;have:¬ q=k:=fun z=>hk (by simp[z]);simp[this]
  ·rw[yv e];exact ih
theorem ycq {ks:List κ}{xs:List α}{k k':κ}{v:α}(h:ks.length=xs.length):vA (pK ks k) (pA ks xs k v) k'=if k'=k then some v else vA ks xs k':=by
 unfold pK pA;by_cases hk:k∈ks
 ·rw[yc hk,yc hk,ya0 h,yc hk]
 ·rw[yb hk,yb hk,yab h hk]
end
theorem yd6 {kn:Kn}{h h':Str}{i j i' j':Nat}{t:Rat}(hl:kn.1.length=kn.2.length):zb (Wa kn h i j t) h' i' j'=if h'=h/\i'=i/\j'=j then t else zb kn h' i' j':=by
 unfold zb Wa;dsimp only;rw[ycq hl];by_cases e:h'=h/\i'=i/\j'=j
 ·rw[yc e,yc (by rw[e.1,e.2.1,e.2.2])];rfl
 ·rw[yb e,yb (fun z=>e (by simpa using z))]
theorem yfi {kn:Kn}{h:Str}{i j:Nat}{t:Rat}(hl:kn.1.length=kn.2.length):(Wa kn h i j t).1.length=(Wa kn h i j t).2.length:=Vn hl
section
variable {A B x y:Str}{p0 p1 p2 p3:Rat}
end
section
variable (hs row:List Str)(T:Str->Nat->Nat->Rat)
def wT (x:Str)(i j:Nat):Rat:=if x∈hs then T x i j else if j=i+1/\row[i]?=some x then 1 else 0
def wP:List Str->Nat->Nat->Rat
 |[],i,j=>if i=j then 1 else 0
 |x::xs,i,j=>Yr (j - i) fun t=>wT hs row T x i (i+1+t)*wP xs (i+1+t) j
end
section
variable {hs row:List Str}{T:Str->Nat->Nat->Rat}{kn:Kn}{kw:Kw}
theorem vJ:∀ {b:List Str} {i j:Nat},j<i+b.length->wP hs row T b i j=0
 |[],i,j,h=>by
  rw[Yq] at h;rw[wP,yb (by omega)]
 |x::xs,i,j,h=>by
  rw[wP];refine ji fun t ht=>?_;rw[ym] at h;rw[vJ (b:=xs) (by omega)];grind
theorem Vc {f:Nat->Rat}{n:Nat}:∀ {m:Nat},n<=m->(∀ t,n<=t->t<m->f t=0)->Yr m f=Yr n f
 |0,h,_=>by rw[jG.mp h]
 |m+1,h,z=>by
  rcases QI n (m+1) with q|q
  ·rw[Yr,Vc (m:=m) (by omega) fun t a b=>z t a (by omega),z m (by omega) (by omega)];grind
  ·rw[show n=m+1 by omega]
theorem ydY {x:Str}{i j:Nat}(h:i<j):wP hs row T [x] i j=wT hs row T x i j:=by
 rw[wP,←ve (n:=j - i) (k:=j - i - 1) (c:=wT hs row T x i j) (by omega)];refine YB fun t ht=>?_;rw[wP];by_cases e:t=j - i - 1
 ·rw[yc e,yc (by omega),show i+1+t=j by omega];grind
 ·rw[yb e,yb (by omega)];grind
theorem yaN {x:Str}(hx:x∈hs)(hz:∀ i j,T x i j=0):∀ {b:List Str} {i j:Nat},x∈b->wP hs row T b i j=0
 |[],_,_,h=>absurd h (by simp)
 |y::ys,i,j,h=>by
  rw[wP];refine ji fun t ht=>?_;by_cases e:y=x
  ·have:wT hs row T y i (i+1+t)=0:=by unfold wT;rw[e,yc hx,hz]
   rw[this];grind
  ·rw[yaN hx hz (b:=ys) ((yA.mp h).resolve_left fun z=>e z.symm)];grind
def Agr (row:List Str)(T:Str->Nat->Nat->Rat)(kn:Kn)(n:Nat):Prop:=∀ h i j,i<j->j<=row.length->j - i<n->zb kn h i j=T h i j
def KwE (hs row:List Str)(T:Str->Nat->Nat->Rat)(kw:Kw):Prop:=∀ p∈kw,p.2=wP hs row T p.1.1 p.1.2.1 p.1.2.2
theorem yg8 {n i j:Nat}{x:Str}(a:Agr row T kn n)(hij:i<j)(hj:j<=row.length)(h:x∉hs∨j - i<n):woS hs row kn i j x=wT hs row T x i j:=by
 unfold woS wT;by_cases hx:x∈hs
 ·rw[yc hx,yc hx];exact a x i j hij hj (h.resolve_left fun z=>z hx)
 ·rw[yb hx,yb hx]
theorem ygO {n:Nat}(a:Agr row T kn n):∀ (b:List Str) (i j:Nat) (kw:Kw),b≠[]->i<j->j<=row.length->j - i<=n->(∀ x,b=[x]->x∉hs∨j - i<n)->KwE hs row T kw->(wBm hs row kn b i j kw).1=wP hs row T b i j/\KwE hs row T (wBm hs row kn b i j kw).2
 |[],_,_,_,h,_,_,_,_,_=>absurd rfl h
 |[x],i,j,kw,_,hij,hj,hn,h1,hk=>by
  rw[wBm];exact⟨by rw[ydY hij];exact yg8 a hij hj (h1 x rfl),hk⟩
 |x::y::rest,i,j,kw,_,hij,hj,hn,_,hk=>by
  rw[wBm];cases q:Zv kw (x::y::rest,i,j) with
  |some v=>exact⟨hk _ (wZ q),hk⟩
  |none=>
   have go:∀ t,t<=nP (rest.length+2) i j->Jq ((List.range t).foldl (qY (fun m=>woS hs row kn i m x) (fun m=>wBm hs row kn (y::rest) m j) i) ([],kw)).1=Yr t (fun t=>wT hs row T x i (i+1+t)*wP hs row T (y::rest) (i+1+t) j)/\KwE hs row T ((List.range t).foldl (qY (fun m=>woS hs row kn i m x) (fun m=>wBm hs row kn (y::rest) m j) i) ([],kw)).2:=by
    intro t
    induction t with
    |zero=>intro _;exact⟨rfl,hk⟩
    |succ t ih=>
     intro ht;obtain⟨e1,e2⟩:=ih (by omega);rw[Y9,Ym];generalize (List.range t).foldl (qY (fun m=>woS hs row kn i m x) (fun m=>wBm hs row kn (y::rest) m j) i) ([],kw)=acc at *;have hm:i+1+t+1<=j:=by unfold nP at ht;omega
     have wx:woS hs row kn i (i+1+t) x=wT hs row T x i (i+1+t):=yg8 a (by omega) (by omega) (.inr (by omega));obtain⟨f1,f2⟩:=ygO a (y::rest) (i+1+t) j acc.2 (by simp) (by omega) hj (by omega) (fun _ _=>.inr (by omega)) e2;rw[Yp,List.foldl_nil,Yr];unfold qY;dsimp only;by_cases z:woS hs row kn i (i+1+t) x=0
     ·rw[yc z];refine⟨?_,e2⟩;rw[e1,←wx,z];grind
     ·rw[yb z];refine⟨?_,f2⟩;dsimp only;rw[v6,e1,f1,wx]
   obtain⟨e1,e2⟩:=go _ (yg _);dsimp only;generalize (List.range (nP (rest.length+2) i j)).foldl (qY (fun m=>woS hs row kn i m x) (fun m=>wBm hs row kn (y::rest) m j) i) ([],kw)=acc at *;have v:Jq acc.1=wP hs row T (x::y::rest) i j:=by
    rw[e1,wP];refine(Vc (by unfold nP;omega) fun t h1 h2=>?_).symm;rw[vJ (b:=y::rest) (by rw[ym];unfold nP at h1;omega)];grind
   refine⟨v,fun p hp=>?_⟩;rcases wH hp with z|z
   ·subst z;exact v
   ·exact e2 p z
end
theorem yec {n c c':Nat}{E E':Nat->Nat->Rat}(hc:n<=c)(hc':n<=c')(h:∀ i j,i<n->j<n->E i j=E' i j)(g:∀ i,i<n->E i c=E' i c'):∀ k,k<=n->∀ i,i<n->EK E k i c=EK E' k i c'
 |0,_,i,hi=>g i hi
 |k+1,hk,i,hi=>by
  have ih:=yec hc hc' h g k (by omega);have cols:=UB h k (by omega);rw[EK,EK];unfold Jn;rw[yb (show ¬ c=k by omega),yb (show ¬ c=k by omega),yb (show ¬ c'=k by omega),yb (show ¬ c'=k by omega),ih k (by omega),cols k k (by omega) (by omega),ih i hi,cols i k hi (by omega)]
theorem yiN {L:List Str}{ss:List yF}(hp:Piv L.length (wM2 L ss)){i j:Nat}(hi:i<L.length)(hj:j<L.length):chF L ss i j=Yr L.length (fun k=>wM2 L ss i k*chF L ss k j)+idM L i j:=by
 have e:∀ k,k<L.length->chF L ss k j=EK (wM L.length (wM2 L ss) fun r _=>idM L r j) L.length k L.length:=fun k hk=>by
  unfold chF;refine yec (qR _ _) (yg _) (fun a b ha hb=>by rw[V7 a b ha hb,V7 a b ha hb]) (fun a ha=>?_) _ (yg _) k hk;unfold wM;rw[yb (by omega),yb (by omega),QT]
 have s:=Slv.all (xj (B:=fun r _=>idM L r j) hp) i hi;dsimp only at s;rw[e i hi,s];congr 1
 ·refine YB fun k hk=>?_;rw[V7 i k hi hk,e k hk]
 ·unfold wM;rw[yb (by omega)]
def jp (f:yF->Rat):List yF->Rat
 |[]=>0
 |r::rs=>f r+jp f rs
theorem JO {f g:yF->Rat}:∀ {rs:List yF},(∀ r∈rs,f r=g r)->jp f rs=jp g rs
 |[],_=>rfl
 |r::rs,h=>by rw[jp,jp,h r (by simp),JO fun x hx=>h x (yf _ hx)]
theorem W2 {f g:yF->Rat}:∀ {rs:List yF},jp (fun r=>f r+g r) rs=jp f rs+jp g rs
 |[]=>by simp[jp];grind
 |r::rs=>by rw[jp,jp,jp,W2];grind
theorem Jp {f:yF->Rat}{p:yF->Bool}:∀ {rs:List yF},jp f (rs.filter p)=jp (fun r=>if p r=true then f r else 0) rs
 |[]=>rfl
 |r::rs=>by
  rw[jp,←Jp];cases q:p r with
  |true=>rw[y4 (by exact q),jp,yc rfl]
  |false=>rw[y3 (by rw[q];decide),yb yE];grind
theorem uO {f:yF->Rat}:∀ {rs:List yF},(∀ r∈rs,f r=0)->jp f rs=0
 |[],_=>rfl
 |r::rs,h=>by rw[jp,h r (by simp),uO fun x hx=>h x (yf _ hx)];grind
theorem yaL {L:List Str}{h:Str}{T:Str->Rat}(nd:L.Nodup):∀ {ss:List yF},(ss.map fun r=>(r.1,b0 r)).Nodup->(∀ r∈ss,b0 r∈L)->Yr L.length (fun j=>JY ss h (L.getD j "")*T (L.getD j ""))=jp (fun r=>if r.1=h then r.2.2*T (b0 r) else 0) ss
 |[],_,_=>ji fun j _=>by show 0*_=(0:Rat);grind
 |r::ss,hk,hL=>by
  rw[yn,yK] at hk;have ih:=yaL nd (h:=h) (T:=T) (ss:=ss) hk.2 fun x hx=>hL x (yf _ hx);rw[jp,←ih];have hb:=hL r (by simp);by_cases e:r.1=h
  ·rw[yc e];have hi:=Yy.mpr hb;have:Yr L.length (fun j=>JY (r::ss) h (L.getD j "")*T (L.getD j ""))=Yr L.length (fun j=>(if j=L.idxOf (b0 r) then r.2.2*T (b0 r) else 0)+JY ss h (L.getD j "")*T (L.getD j "")):=YB fun j hj=>by
    have gj:L.getD j "" = L[j]:=by rw[al_getD_eq_getElem?_getD,al_getElem?_eq_getElem hj];rfl
    rw[JH,gj];by_cases ej:j=L.idxOf (b0 r)
    ·have e2:b0 r=L[j]:=by subst ej;exact(qy hi).symm
     rw[yc ⟨e,e2⟩,yc ej,WF (by rw[←e2,←e];exact hk.1),e2];grind
    ·have e2:¬ b0 r=L[j]:=fun z=>ej (by
      have h1:=qy hi;have:L[L.idxOf (b0 r)]=L[j]:=h1.trans z;exact((List.getElem_inj nd).mp this).symm)
     rw[yb (fun z=>e2 z.2),yb ej];grind
   rw[this,Jx,ve hi]
  ·rw[yb e,YB (g:=fun j=>JY ss h (L.getD j "")*T (L.getD j "")) fun j _=>by rw[JH,yb (fun z=>e z.1)]];grind
section
variable {M:Nat}{hs L:List Str}{br:List yF}{w:Str}
theorem uH {f:yF->Rat}{r:yF}:∀ {rs:List yF},jp f (rs++[r])=jp f rs+f r
 |[]=>by simp[jp];grind
 |x::rs=>by rw[qp,jp,jp,uH];grind
theorem yc8 {ch:Nat->Nat->Rat}{i:Nat}{f:Str->Rat}(nd:L.Nodup):∀ {ks:List Str},ks.Nodup->(∀ x∈ks,x∈L)->Jq (ks.map fun o=>(ch i (L.idxOf o),f o))=Yr L.length (fun j=>if L.getD j "" ∈ ks then ch i j*f (L.getD j "") else 0):=by
 have go:∀ (ks:List Str) (a:Rat),(ks.map fun o=>(ch i (L.idxOf o),f o)).foldl (fun a p=>a+p.1*p.2) a=a+Jq (ks.map fun o=>(ch i (L.idxOf o),f o)):=by
  intro ks
  induction ks with
  |nil=>intro a;simp[Jq];grind
  |cons o ks ih=>
   intro a;unfold Jq;rw[yn,Yp,Yp,ih,ih (0+_)];grind
 intro ks
 induction ks with
 |nil=>intro _ _;rw[ji fun j _=>by simp];rfl
 |cons o ks ih=>
  intro hn hL;have hn':=yK.mp hn;have hi:=Yy.mpr (hL o (by simp));have e:Jq ((o::ks).map fun o=>(ch i (L.idxOf o),f o))=ch i (L.idxOf o)*f o+Jq (ks.map fun o=>(ch i (L.idxOf o),f o)):=by
   unfold Jq;rw[yn,Yp,go];unfold Jq;grind
  rw[e,ih hn'.2 fun x hx=>hL x (yf _ hx),←ve (c:=ch i (L.idxOf o)*f o) hi,←Jx];refine YB fun j hj=>?_;have gj:L.getD j "" = L[j]:=by rw[al_getD_eq_getElem?_getD,al_getElem?_eq_getElem hj];rfl
  rw[gj];by_cases ej:j=L.idxOf o
  ·have e2:L[j]=o:=by subst ej;exact qy hi
   rw[yc ej,yb (by rw[e2];exact hn'.1),yc (by rw[e2];exact yp),e2,ej];grind
  ·have e2:¬ L[j]=o:=fun z=>ej (by
    have h1:=qy hi;have:L[L.idxOf o]=L[j]:=h1.trans z.symm;exact((List.getElem_inj nd).mp this).symm)
   rw[yb ej];by_cases q:L[j]∈ks
   ·rw[yc q,yc (yf _ q)];grind
   ·rw[yb q,yb (fun z=>(yA.mp z).elim e2 q)];grind
end
theorem uE {m:Nat}{f:Nat->Nat->Rat}:∀ {n:Nat},Yr n (fun j=>Yr m (fun k=>f j k))=Yr m (fun k=>Yr n (fun j=>f j k))
 |0=>(ji fun _ _=>rfl).symm
 |n+1=>by
  rw[Yr,uE,←Jx];rfl
section
variable {rs:List yF}{M b s:Nat}{w:Str}
end
section
variable {M n i j:Nat}{hs row L:List Str}{T:Str->Nat->Nat->Rat}{br:List yF}{kn:Kn}{kw:Kw}
def eW (hs row:List Str)(T:Str->Nat->Nat->Rat)(br:List yF)(i j:Nat)(h:Str):Rat:=jp (fun r=>if r.1=h then r.2.2*wP hs row T r.2.1 i j else 0) br
structure EW (hs row L:List Str)(T:Str->Nat->Nat->Rat)(br:List yF)(i j:Nat)(a:En×Kw):Prop where
 nd:a.1.1.Nodup
 eq:a.1.1.length=a.1.2.length
 keys:∀ x∈a.1.1,x∈L
 val:∀ h,(vA a.1.1 a.1.2 h).getD 0=eW hs row T br i j h
 out:∀ h,h∉a.1.1->eW hs row T br i j h=0
 kw:KwE hs row T a.2
theorem ycG (a:Agr row T kn (j - i))(hij:i<j)(hj:j<=row.length)(hb:BrG M hs L br)(hk:KwE hs row T kw):∀ n,n<=br.length->EW hs row L T (br.take n) i j ((br.take n).foldl (qW hs row kn i j) (([],[]),kw))
 |0,_=>⟨qD,rfl,(fun x hx=>by cases hx),(fun h=>rfl),(fun h _=>rfl),hk⟩
 |n+1,hn=>by
  have hr:br[n]?=some br[n]:=al_getElem?_eq_getElem (by omega);have c:=ycG a hij hj hb hk n (by omega);rw[yW hr,Ym];have hm:=al_mem_of_getElem? hr;generalize br.take n=b0' at *;generalize b0'.foldl (qW hs row kn i j) (([],[]),kw)=acc at *;generalize br[n]=r at *;obtain⟨b1,b2,b3⟩:=hb.body r hm;obtain⟨w1,w2⟩:=ygO (hs:=hs) a r.2.1 i j acc.2 (fun e=>by rw[e] at b1;simp at b1) hij hj (yg _) (fun x e=>.inl (b3 x e)) c.kw;rw[Yp,List.foldl_nil];unfold qW;have ev:∀ h,eW hs row T (b0'++[r]) i j h=eW hs row T b0' i j h+if r.1=h then r.2.2*wP hs row T r.2.1 i j else 0:=fun h=>uH
  rw[w1];by_cases e:wP hs row T r.2.1 i j=0
  ·rw[yc e];have ev':∀ h,eW hs row T (b0'++[r]) i j h=eW hs row T b0' i j h:=fun h=>by rw[ev,e];split <;> grind
   exact⟨c.nd,c.eq,c.keys,fun h=>by rw[ev'];exact c.val h,fun h hh=>by rw[ev'];exact c.out h hh,w2⟩
  ·rw[yb e];refine⟨Wt c.nd,Vn c.eq,fun x hx=>?_,fun h=>?_,fun h hh=>?_,w2⟩
   ·rcases yeA hx with z|z
    ·rw[z];exact hb.hd r hm
    ·exact c.keys x z
   ·show(vA (pK acc.1.1 r.1) (pA acc.1.1 acc.1.2 r.1 _) h).getD 0=_;rw[ycq c.eq,ev,←c.val h];by_cases eh:h=r.1
    ·subst eh;rw[yc rfl,yc rfl];rfl
    ·rw[yb eh,yb (fun z=>eh z.symm)];grind
   ·have h1:¬ r.1=h:=fun z=>hh (by
     show h∈pK acc.1.1 r.1;unfold pK;split
     ·rename_i q;exact z▸q
     ·rw[←z];simp)
    have h2:h∉acc.1.1:=fun z=>hh (by
     show h∈pK acc.1.1 r.1;unfold pK;split
     ·exact z
     ·exact y8 _ z)
    rw[ev,c.out h h2,yb h1];grind
theorem Vj {ch:Nat->Nat->Rat}{e:En}(hl:kn.1.length=kn.2.length)(hz:∀ h,zb kn h i j=0):∀ n,n<=L.length->((L.take n).foldl (qL L ch e i j) kn).1.length=((L.take n).foldl (qL L ch e i j) kn).2.length/\∀ h i' j',zb ((L.take n).foldl (qL L ch e i j) kn) h i' j'=if i'=i/\j'=j then (if h∈L.take n then Z6 L ch e h else 0) else zb kn h i' j'
 |0,_=>⟨hl,fun h i' j'=>by
  by_cases q:i'=i/\j'=j
  ·rw[yc q,q.1,q.2];exact hz h
  ·rw[yb q];rfl⟩
 |n+1,hn=>by
  have hr:L[n]?=some L[n]:=al_getElem?_eq_getElem (by omega);obtain⟨a1,a2⟩:=Vj (ch:=ch) (e:=e) hl hz n (by omega);rw[yW hr,Ym,Yp,List.foldl_nil];generalize (L.take n).foldl (qL L ch e i j) kn=k' at *;generalize L[n]=x at *;unfold qL;by_cases z:Z6 L ch e x=0
  ·rw[yc z];refine⟨a1,fun h i' j'=>?_⟩;rw[a2 h];by_cases q:i'=i/\j'=j
   ·rw[yc q,yc q];by_cases m:h∈L.take n
    ·rw[yc m,yc (y8 _ m)]
    ·rw[yb m];by_cases e2:h=x
     ·rw[yc (by rw[e2];simp),e2,z]
     ·rw[yb (by simp[m,e2])]
   ·rw[yb q,yb q]
  ·rw[yb z];refine⟨yfi a1,fun h i' j'=>?_⟩;rw[yd6 a1,a2 h];by_cases q:i'=i/\j'=j
   ·rw[yc q,yc q];by_cases e2:h=x
    ·rw[yc ⟨e2,q⟩,yc (by rw[e2];simp),e2]
    ·rw[yb (fun z=>e2 z.1)];by_cases m:h∈L.take n
     ·rw[yc m,yc (y8 _ m)]
     ·rw[yb m,yb (by simp[m,e2])]
   ·rw[yb q,yb q,yb (fun z=>q z.2)]
end
theorem UC {n:Nat}(h:n<=5):(qK n).Nodup:=by
 rcases (show n=0∨n=1∨n=2∨n=3∨n=4∨n=5 by omega) with rfl|rfl|rfl|rfl|rfl|rfl <;> decide +kernel
theorem ydv {n:Nat}(h:n<=5):((List.range (qK n).length).all fun k=>(qK n).all fun p=>!decide (p.2 - p.1<((qK n).getD k (0,0)).2 - ((qK n).getD k (0,0)).1)||decide (p∈(qK n).take k))=true:=by
 rcases (show n=0∨n=1∨n=2∨n=3∨n=4∨n=5 by omega) with rfl|rfl|rfl|rfl|rfl|rfl <;> decide +kernel
theorem wY {n i j:Nat}(h:i<j)(hj:j<=n):(i,j)∈qK n:=by
 unfold qK;refine Qf.mpr ⟨j - i - 1,YE.mpr (by omega),yo.mpr ⟨i,YE.mpr (by omega),?_⟩⟩;rw[show i+(j - i - 1)+1=j by omega]
theorem yfA {n:Nat}(h:n<=5){k:Nat}(hk:k<(qK n).length){i j:Nat}(hij:i<j)(hj:j<=n)(hl:j - i<((qK n).getD k (0,0)).2 - ((qK n).getD k (0,0)).1):(i,j)∈(qK n).take k:=by
 have a:=QA.mp (ydv h) k (YE.mpr hk);have b:=QA.mp a (i,j) (wY hij hj);rw[yI (show(i,j).2 - (i,j).1<_ from hl)] at b;simpa using b
noncomputable def TW (rs:List yF)(row:List Str)(h:Str)(i j:Nat):Rat:=zb (knG rs row) h i j
section
variable {rs:List yF}{row:List Str}{M b s:Nat}
theorem vg (g:SumG rs row M b s)(h:Str):∀ k,k<=(qK row.length).length->∀ i j,(i,j)∉(qK row.length).take k->zb (Jj rs row k).1 h i j=0
 |0,_,i,j,_=>rfl
 |k+1,hk,i,j,hn=>by
  have hp:(qK row.length)[k]?=some (qK row.length)[k]:=al_getElem?_eq_getElem (by omega);rw[yW hp] at hn;have n1:(i,j)∉(qK row.length).take k:=fun z=>hn (y8 _ z);have n2:¬ (i=(qK row.length)[k].1/\j=(qK row.length)[k].2):=fun z=>hn (by rw[z.1,z.2];exact yN _ (yu.mpr rfl));have ih:=vg g h k (by omega) i j n1;have kk:=(ka g k (by omega)).1.eq;have nk:((qK row.length)[k].1,(qK row.length)[k].2)∉(qK row.length).take k:=fun z=>by
   have nd:=(UC g.par.rl).sublist (Qo (k+1) _);rw[yW hp,Yd] at nd;exact nd.2.2 _ z _ (by simp) rfl
  rw[zr hp];unfold J2;dsimp only;have f:=(Vj (L:=yq rs) (ch:=zc rs) (e:=(Jv (yz rs) row (Jj rs row k).1 (JW rs) (qK row.length)[k].1 (qK row.length)[k].2 (Jj rs row k).2).1) kk (fun x=>vg g x k (by omega) _ _ nk) _ (yg _)).2 h i j;rw[yG] at f;rw[f,yb n2];exact ih
theorem We (g:SumG rs row M b s){k:Nat}{p:Nat×Nat}(hp:(qK row.length)[k]?=some p)(h:Str)(i j:Nat):zb (Jj rs row (k+1)).1 h i j=if i=p.1/\j=p.2 then (if h∈yq rs then Z6 (yq rs) (zc rs) (Jv (yz rs) row (Jj rs row k).1 (JW rs) p.1 p.2 (Jj rs row k).2).1 h else 0) else zb (Jj rs row k).1 h i j:=by
 have hk:=(al_getElem?_eq_some_iff.mp hp).1;have kk:=(ka g k (by omega)).1.eq;have nk:(p.1,p.2)∉(qK row.length).take k:=fun z=>by
  have nd:=(UC g.par.rl).sublist (Qo (k+1) _);rw[yW hp,Yd] at nd;exact nd.2.2 _ z p (by simp) rfl
 rw[zr hp];unfold J2;dsimp only;have f:=(Vj (L:=yq rs) (ch:=zc rs) (e:=(Jv (yz rs) row (Jj rs row k).1 (JW rs) p.1 p.2 (Jj rs row k).2).1) kk (fun x=>vg g x k (by omega) _ _ nk) _ (yg _)).2 h i j;rw[yG] at f;exact f
theorem kC (g:SumG rs row M b s)(h:Str){i j:Nat}:∀ d k,k+d=(qK row.length).length->(i,j)∈(qK row.length).take k->zb (Jj rs row k).1 h i j=TW rs row h i j
 |0,k,hd,_=>by
  unfold TW knG;rw[show k=(qK row.length).length by omega]
 |d+1,k,hd,hm=>by
  have hp:(qK row.length)[k]?=some (qK row.length)[k]:=al_getElem?_eq_getElem (by omega);have ih:=kC g h d (k+1) (by omega) (by rw[yW hp];exact y8 _ hm);rw[←ih,We g hp,yb];intro z;have nd:=(UC g.par.rl).sublist (Qo (k+1) _);rw[yW hp,Yd] at nd;exact nd.2.2 _ hm _ (by simp) (Prod.ext z.1 z.2)
theorem XW (g:SumG rs row M b s){k:Nat}{p:Nat×Nat}(hp:(qK row.length)[k]?=some p):Agr row (TW rs row) (Jj rs row k).1 (p.2 - p.1):=fun h i j hij hj hl=>by
 have hk:=(al_getElem?_eq_some_iff.mp hp).1;have e:(qK row.length).getD k (0,0)=p:=by rw[al_getD_eq_getElem?_getD,hp];rfl
 exact kC g h ((qK row.length).length - k) k (by omega) (yfA g.par.rl hk hij hj (by rw[e];exact hl))
theorem XT (g:SumG rs row M b s):∀ k,k<=(qK row.length).length->KwE (yz rs) row (TW rs row) (Jj rs row k).2
 |0,_=>fun p hp=>by cases hp
 |k+1,hk=>by
  have hp:(qK row.length)[k]?=some (qK row.length)[k]:=al_getElem?_eq_getElem (by omega);have hi:=V8 (al_mem_of_getElem? hp);have e:=ycG (XW g hp) hi.1 hi.2 g.par.br (XT g k (by omega)) _ (yg _);rw[yG] at e;rw[zr hp];exact e.kw
theorem yg4 (g:SumG rs row M b s){i j:Nat}(hij:i<j)(hj:j<=row.length)(h:Str):TW rs row h i j=if h∈yq rs then Yr (yq rs).length (fun o=>zc rs ((yq rs).idxOf h) o*eW (yz rs) row (TW rs row) (JW rs) i j ((yq rs).getD o "")) else 0:=by
 obtain⟨k,hk,hp⟩:=List.mem_iff_getElem.mp (wY hij hj);have hp:(qK row.length)[k]?=some (i,j):=by rw[al_getElem?_eq_getElem hk,hp]
 rw[←kC g h ((qK row.length).length - (k+1)) (k+1) (by omega) (by rw[yW hp];simp),We g hp,yc ⟨rfl,rfl⟩];have a:=ycG (XW g hp) hij hj g.par.br (XT g k (by omega)) _ (yg _);rw[yG] at a;change EW _ _ _ _ _ _ _ (Jv (yz rs) row (Jj rs row k).1 (JW rs) i j (Jj rs row k).2) at a;generalize Jv (yz rs) row (Jj rs row k).1 (JW rs) i j (Jj rs row k).2=e at *;by_cases m:h∈yq rs
 ·rw[yc m,yc m];unfold Z6 vY;have:(e.1.1.map fun o=>(chS (yq rs) (zc rs) h o,(vA e.1.1 e.1.2 o).getD 0))=e.1.1.map fun o=>(zc rs ((yq rs).idxOf h) ((yq rs).idxOf o),eW (yz rs) row (TW rs row) (JW rs) i j o):=qr fun o _=>by rw[a.val];rfl
  rw[this,yc8 g.par.nd a.nd a.keys];refine YB fun o _=>?_;by_cases q:(yq rs).getD o "" ∈ e.1.1
  ·rw[yc q]
  ·rw[yb q,a.out _ q];grind
 ·rw[yb m,yb m]
theorem yeq (g:SumG rs row M b s){h:Str}(m:h∉yq rs)(i j:Nat):TW rs row h i j=0:=by
 by_cases q:(i,j)∈qK row.length
 ·have:=V8 q;rw[yg4 g this.1 this.2,yb m]
 ·exact vg g h _ (yg _) i j (by rw[yG];exact q)
end
section
variable {rs:List yF}{row:List Str}{M b s:Nat}
theorem yiE (g:SumG rs row M b s){Tf ev:Str->Rat}(he:∀ h,Tf h=if h∈yq rs then Yr (yq rs).length (fun j=>zc rs ((yq rs).idxOf h) j*ev ((yq rs).getD j "")) else 0){h:Str}(hh:h∈yq rs):Tf h=jp (fun r=>if r.1=h then r.2.2*Tf (b0 r) else 0) (Jc rs)+ev h:=by
 have hi:=Yy.mpr hh;have nd:=g.par.nd;have gh:(yq rs).getD ((yq rs).idxOf h) "" = h:=by rw[al_getD_eq_getElem?_getD,UA hh];rfl
 rw[he h,yc hh];have e1:Yr (yq rs).length (fun j=>zc rs ((yq rs).idxOf h) j*ev ((yq rs).getD j ""))=Yr (yq rs).length (fun j=>Yr (yq rs).length (fun k=>wM2 (yq rs) (Jc rs) ((yq rs).idxOf h) k*(zc rs k j*ev ((yq rs).getD j "")))+idM (yq rs) ((yq rs).idxOf h) j*ev ((yq rs).getD j "")):=YB fun j hj=>by
  show chF (yq rs) (Jc rs) _ _*_=_;rw[yiN g.piv hi hj];have:Yr (yq rs).length (fun k=>wM2 (yq rs) (Jc rs) ((yq rs).idxOf h) k*(zc rs k j*ev ((yq rs).getD j "")))=ev ((yq rs).getD j "")*Yr (yq rs).length (fun k=>wM2 (yq rs) (Jc rs) ((yq rs).idxOf h) k*chF (yq rs) (Jc rs) k j):=by
   rw[←zu];exact YB fun k _=>by show _*(chF (yq rs) (Jc rs) k j*_)=_;grind
  rw[this];grind
 rw[e1,Jx,uE];congr 1
 ·rw[←yaL nd (h:=h) (T:=Tf) g.keys fun r hr=>(vz (Vk.mp hr).2.2).2];refine YB fun k hk=>?_;rw[zu];have mk:(yq rs).getD k "" ∈ yq rs:=by
   rw[al_getD_eq_getElem?_getD,al_getElem?_eq_getElem hk];exact List.getElem_mem hk
  have ik:(yq rs).idxOf ((yq rs).getD k "")=k:=by
   rw[al_getD_eq_getElem?_getD,al_getElem?_eq_getElem hk];exact List.Nodup.idxOf_getElem nd k hk
  rw[he ((yq rs).getD k ""),yc mk,ik];show JY (Jc rs) ((yq rs).getD ((yq rs).idxOf h) "") _*_=_;rw[gh]
 ·have:Yr (yq rs).length (fun j=>idM (yq rs) ((yq rs).idxOf h) j*ev ((yq rs).getD j ""))=Yr (yq rs).length (fun j=>if j=(yq rs).idxOf h then ev h else 0):=YB fun j hj=>by
   unfold idM;rw[gh];by_cases q:j=(yq rs).idxOf h
   ·rw[yc q,q,gh,yc rfl];grind
   ·have:¬ h=(yq rs).getD j "" := fun z=>q (by
     rw[z,al_getD_eq_getElem?_getD,al_getElem?_eq_getElem hj];exact(List.Nodup.idxOf_getElem nd j hj).symm)
    rw[yb q,yb this];grind
  rw[this,ve hi]
noncomputable def ygA (rs:List yF)(row:List Str)(h:Str)(i j:Nat)(r:yF):Rat:=if r.1=h then r.2.2*wP (yz rs) row (TW rs row) r.2.1 i j else 0
theorem yfL (g:SumG rs row M b s){h:Str}(hh:h∈yz rs){i j:Nat}(hij:i<j)(hj:j<=row.length):jp (ygA rs row h i j) rs=TW rs row h i j:=by
 have bad:∀ {r:yF},¬ qA (yz rs) (yq rs) r.2.1=true->wP (yz rs) row (TW rs row) r.2.1 i j=0:=fun {r} q=>by
  rw[Z4] at q;have:∃ x,x∈r.2.1/\x∈yz rs/\x∉yq rs:=Classical.byContradiction fun z=>q fun x hx hf=>Classical.byContradiction fun y=>z ⟨x,hx,hf,y⟩;obtain⟨x,h1,h2,h3⟩:=this;exact yaN h2 (fun a c=>yeq g h3 a c) h1
 by_cases m:h∈yq rs
 ·rw[yiE g (Tf:=fun h=>TW rs row h i j) (ev:=eW (yz rs) row (TW rs row) (JW rs) i j) (fun h=>yg4 g hij hj h) m];have s1:jp (fun r=>if r.1=h then r.2.2*TW rs row (b0 r) i j else 0) (Jc rs)=jp (fun r=>if qA (yz rs) (yq rs) r.2.1=true/\qE (yq rs) r=true then (if r.1=h then r.2.2*TW rs row (b0 r) i j else 0) else 0) rs:=by
   unfold Jc js;rw[Jp,Jp];refine JO fun r _=>?_;by_cases q1:qA (yz rs) (yq rs) r.2.1=true <;> by_cases q2:qE (yq rs) r=true <;> simp[q1,q2]
  have s2:eW (yz rs) row (TW rs row) (JW rs) i j h=jp (fun r=>if qA (yz rs) (yq rs) r.2.1=true/\qE (yq rs) r=false then (if r.1=h then r.2.2*wP (yz rs) row (TW rs row) r.2.1 i j else 0) else 0) rs:=by
   unfold eW JW js;rw[Jp,Jp];refine JO fun r _=>?_;by_cases q1:qA (yz rs) (yq rs) r.2.1=true <;> cases q2:qE (yq rs) r <;> simp[q1,q2]
  rw[s1,s2,←W2];refine JO fun r hr=>?_;unfold ygA;by_cases q1:qA (yz rs) (yq rs) r.2.1=true
  ·cases q2:qE (yq rs) r with
   |true=>
    obtain⟨o1,o2⟩:=vz q2;have e:wP (yz rs) row (TW rs row) r.2.1 i j=TW rs row (b0 r) i j:=by
     rw[o1,ydY hij];unfold wT;rw[yc (jV.mp o2).1]
    rw[e];simp[q1,Qb]
   |false=>
    simp[q1,Rat.zero_add]
  ·rw[bad q1];simp[q1,Qb,Rat.mul_zero]
 ·rw[yeq g m];refine uO fun r hr=>?_;unfold ygA;by_cases e:r.1=h
  ·rw[yc e,bad]
   ·grind
   ·intro q;exact m (jV.mpr ⟨hh,e▸.mk r hr (ko.mp q)⟩)
  ·rw[yb e]
end
section
variable {X:Cx}{B:Bs}{Γ:Ga}{Ω:Om}{o i:Expr}{d:D}{ds:List D}{ks:List Key}{pos:Pos}{R:D->Om->Prop}
theorem ZA {k:Key}{l:Addr}(hu:X.A.units+64<cLine)(ho:P3 X Γ o (.raw (.ref l)))(hm:(l,oDk X.K ks ds)∈Ω)(hi:P3 X Γ i (Zq k))(hv:vA ks ds k=some d)(r:R d Ω)(hs:ycw i:=by exact fun _ _=>rfl):V3 X B (.Subscript o i pos) Γ Ω R:=fun F σ H S pins s I=>
 ybk (vX hu) ho hi hs pins s σ H _ I ⟨F,S.fh,S.sl,fun x H1 F1 p1 i1=>by
  cases isR i1;have S1:=S.pur p1;obtain⟨fa,ob,ha,hob⟩:=S1.own _ hm;obtain⟨xs,rfl,hz,il⟩:=hob F1 (yP.refl _);refine⟨F1,p1.fh,S1.sl,fun y H2 F2 p2 i2=>?_⟩;rw[Z3 i2];rcases xf (k:=k) (ks:=ks) (il.mono p2.ff) with ⟨z,_⟩|⟨d1,v,z1,z2,z3⟩
  ·rw[z] at hv;cases hv
  ·rw[hv] at z1;cases z1;exact⟨l,v,rfl,.inl ⟨_,k,.inl (p2.hh _ _ ha),rfl,by rw[kf,z2]⟩,d,Ω,F2,S1.pur p2,p1.ff.trans p2.ff,z3,r⟩⟩
theorem ygh {e:Expr}{RT:Bool->Om->Prop}(h:V3 X B e Γ Ω fun d Ω1=>∃ k,d=.bl k/\RT k Ω1)(he:∀ whole,isTrue e X.env whole=(do let v ←whole;standAt e.pos;holding [v] (truthy v)):=by intro _;rfl):VT3 X B e Γ Ω RT:=fun F σ H S pins s I=>
 ycu Qt he pins s σ H _ I ((h F σ H S).mono fun v H1 ⟨d,Ω1,F1,S1,f1,i1,k,e1,r⟩=>by subst e1;exact⟨k,isB i1,Ω1,F1,S1,f1,r⟩)
end
section
variable {X:Cx}{B:Bs}{Γ:Ga}{Ω:Om}{o a:Expr}{es:List Expr}{k:Nat}{Cc:Addr}{m:Str}{ps:List Str}{pos apos p:Pos}{R:D->Om->Prop}
theorem ycX {C:List D->D->Prop}{pl:Sem Bool}(ok:OkM X.prog X.w X.K X.mg X.base CX0 k Cc m ps (spP X.K 1 C))(c:Cls X.K Cc)(hr:Room k X.A)(ho:V3 X B o Γ Ω fun q Ω1=>∃ fs gs d,q=.obj Cc fs gs/\m∉fs/\C [.obj Cc fs gs] d/\R d Ω1)
  (ht:eval (.Call (.Attribute o m apos) [] [] pos) X.env=(do
   let ov ←eval o X.env
   standAt apos.atName
   let (f,first) ←holding [ov] (getMethod ov m pl)
   callWith pos f first (backTo pos (starEach [] X.env)) (backToKw pos (keywordEach [] X.env))):=by rfl):V3 X B (.Call (.Attribute o m apos) [] [] pos) Γ Ω R:=fun F σ H S pins s I=>by
 obtain⟨f,fd,Fn,hM,hb⟩:=ok;refine kA (pl:=pl) Qt c hM Fn hr hb .nil VO ht pins s σ H _ I ((ho F σ H S).mono fun v H1 ⟨q,Ω1,F1,S1,f1,i1,fs,gs,d,e1,hm,hC,r⟩=>?_);subst e1;obtain⟨a,dx,xs,rfl,h1,hl,il⟩:=isO i1;refine⟨a,dx,_,rfl,S1.fh _ _ h1,zD hm,?_⟩;exact⟨_,d,F1,hC,rfl,S1.fh,IsL.cons i1 IsL.nil,fun v' H3 F3 p3 i3=>⟨d,Ω1,F3,S1.pur p3,f1.trans p3.ff,i3,r⟩⟩
theorem ycp (hm:X.mg "tuple" = none)(hg:Gl X "tuple")(h:V3 X B a Γ Ω fun q Ω1=>∃ ds,q=.lst ds/\R (.tup ds) Ω1)(he:starEach [a] X.env=(false,eval a X.env)::starEach [] X.env:=by rfl):V3 X B (.Call (.Name "tuple" p) [a] [] pos) Γ Ω R:=fun F σ H S pins s I=>
 ZH ug hg hm yd1 (Jo Qt Zx he) (by decide) (by decide) he (by rfl) pins s σ H _ I ((h F σ H S).mono fun x H1 ⟨q,Ω1,F1,S1,f1,i1,ds,e1,r⟩=>by
  subst e1;obtain⟨l,xs,rfl,s1,j1⟩:=jn i1;exact⟨l,xs,rfl,.inl ⟨S1.fh.seq s1,fun q hq=>⟨.tup ds,Ω1,_,S1.pur (Pur.lay S1.fh hq),f1.trans (Pur.lay S1.fh hq).ff,Is.tupI (.inl (.inl yL)) (j1.mono (Pur.lay S1.fh hq).ff),r⟩⟩⟩)
end
section
variable {X:Cx}{B:Bs}{Γ:Ga}{Ω:Om}{o a:Expr}{es:List Expr}{d:D}{ds:List D}{kt:List (List Key)}{ks:List Key}{pos tpos p:Pos}{R:D->Om->Prop}
theorem yfR {k:Bool}(hm:X.mg "int" = none)(hg:Gl X "int")(ha:P3 X Γ a (.bl k))(he:starEach [a] X.env=(false,eval a X.env)::starEach [] X.env:=by rfl):P3 X Γ (.Call (.Name "int" p) [a] [] pos) (.int (if k then 1 else 0)):=
 yeV uz hg hm yeJ (yd ha yt he) (fun vs H F Q fh i q=>by
  obtain⟨v,rfl,j0⟩:=Va i;simp only[Is] at j0;subst j0;exact .inr ⟨k,rfl,q _ _ _ (Pur.refl fh) (QG F)⟩) (by decide) (by decide) he
end
def vI {τ:Type}(K:W.Frag)(n:Nat)(om:τ->Om)(C0:τ->List D->Prop)(C:τ->List D->τ->D->Prop):Sp:=fun vs H Q _=>∃ t ds F,C0 t ds/\ds.length=n/\yP F H/\IsL K F ds vs/\((om t).map (·.1)).Nodup/\(∀ p∈om t,F p.1=none/\∃ o,H p.1=some o/\∀ F',yP F F'->p.2 F' o)/\
 ∀ t' d,C t ds t' d->∀ v H' F',yP F F'->yP F' H'->(∀ b o,b∉(om t).map (·.1)->H b=some o->H' b=some o)->(∀ b,F' b≠none->F b≠none∨H b=none)->(∀ p∈om t',F' p.1=none/\∃ o,H' p.1=some o/\∀ F2,yP F' F2->p.2 F2 o)->Is K F' d v->Q v H'
theorem vI.len {τ:Type}{K:W.Frag}{n:Nat}{om:τ->Om}{C0:τ->List D->Prop}{C:τ->List D->τ->D->Prop}{vs:List V}{H:Hp}{Q:VK}{E:XK}(h:vI K n om C0 C vs H Q E):vs.length=n:=by
 obtain⟨t,ds,F,_,l,_,i,_⟩:=h;rw[i.len,l]
section
variable {τ:Type}{om:τ->Om}{C0:τ->List D->Prop}{C:τ->List D->τ->D->Prop}
theorem uu {P:Program}{w:World}{K:W.Frag}{mg:Str->Option Value}{base:Heap}{x:Str}{st:Stmt}{N ps:List Str}{k n:Nat}(d:yZ K mg x st ps)(S:FnScope N ps (yj st))(hn:ps.length=n)(hm:∀ t ds t' d,C t ds t' d->(om t').map (·.1)=(om t).map (·.1))
  (body:∀ (f:Addr) (cdv:Value) (A:Around) (outer:List Env) (s:Shared) (H:Hp) (E:XK),Room k (A.deeper (envOfC x (yj st) s.heap.objs.size f cdv))->∀ (t:τ) (ds:List D),C0 t ds->∀ B:Bs,
   W3 (cx0 P w K mg base N x st f cdv A outer s H E) B (YR st) (Ql N ds) (om t) ⟨fun _ Ω=>∃ t',C t ds t' .non/\∀ p∈om t',p∈Ω,fun r Ω=>∃ t',C t ds t' r/\∀ p∈om t',p∈Ω,fun _ _=>False,fun _ _=>False⟩):OkF P w K mg base CX0 (k+1) x ps (vI K n om C0 C):=
 d.ok S (fun vs H Q E h=>(vI.len h).trans hn.symm) fun f cdv A outer s H vs Q E hr h=>⟨_,qu,by
  obtain⟨t,ds,F,hC,hl,fh,il,nd,own,q⟩:=h;have S0:Sat K (⟨(om t).map (fun p:Addr×Ow=>p.1),F,H⟩:Bs) (Ql N ds) (om t) F (L2.start N vs) H:=
   ⟨yP.refl _,fh,fun _ q=>.inl q,fun _ _ _ e=>e,nd,fun p hp=>.inl (yo.mpr ⟨p,hp,rfl⟩),own,Sl.start il⟩
  have fin:∀ {t':τ} {r:D} {Ω':Om} {F' H':Hp} {σ':L2.St} {Γ':Ga} {v:V},C t ds t' r->(∀ p∈om t',p∈Ω')->Sat K (⟨(om t).map (fun p:Addr×Ow=>p.1),F,H⟩:Bs) Γ' Ω' F' σ' H'->Is K F' r v->Q v H':=by
   intro t' r Ω' F' H' σ' Γ' v hc e S' iv;refine q t' r hc v H' F' S'.f0 S'.fh (fun b o hb e=>S'.kp b o hb e) (fun b hb=>?_) (fun p hp=>S'.own p (e p hp)) iv;rcases S'.fr b hb with z|z|z
   ·exact .inl z
   ·exact .inr z
   ·have z':b∈(om t).map (·.1):=z;rw[←hm _ _ _ _ hc] at z';obtain⟨p,hp,rfl⟩:=yo.mp z';exact absurd (S'.own p (e p hp)).1 hb
  refine qh (D:=E3.to K (⟨(om t).map (fun p:Addr×Ow=>p.1),F,H⟩:Bs) F ⟨fun _ Ω=>∃ t',C t ds t' .non/\∀ p∈om t',p∈Ω,fun r Ω=>∃ t',C t ds t' r/\∀ p∈om t',p∈Ω,fun _ _=>False,fun _ _=>False⟩) (D':={nx:=fun _ H'=>Q .non H',rt:=Q}) ?_ ?_ ?_ ?_ (body f cdv A outer s H E hr t ds hC (⟨(om t).map (fun p:Addr×Ow=>p.1),F,H⟩:Bs) F _ H S0)
  ·rintro σ' H' ⟨Γ',Ω',F',S',f',t',e1,e2⟩;exact fin e1 e2 S' (yax F')
  ·rintro v H' ⟨d',Ω',F',⟨σ',S'⟩,f',i',t',e1,e2⟩;exact fin e1 e2 S' i'
  ·rintro σ' H' ⟨_,_,_,_,_,z⟩;exact z.elim
  ·rintro σ' H' ⟨_,_,_,_,_,z⟩;exact z.elim⟩
variable {X:Cx}{B:Bs}{Γ:Ga}{Ω Ω4:Om}{e:Expr}{es:List Expr}{ds:List D}{n k:Nat}{x:Str}{ps:List Str}{p pos:Pos}{R:D->Om->Prop}{t:τ}
theorem vm (ok:OkF X.prog X.w X.K X.mg X.base CX0 k x ps (vI X.K n om C0 C))(hr:Room k X.A)(hg:Gl X x)(ha:PL3 X Γ (e::es) ds)(hm:∀ t ds t' d,C t ds t' d->(om t').map (·.1)=(om t).map (·.1))(pm:Ω.Perm (om t++Ω4))(h0:C0 t ds)(r:∀ t' d,C t ds t' d->R d (om t'++Ω4))(hn:ds.length=n:=by rfl)(hdb:(x==("__debug__" : Str))=false:=by decide)
  (hst:starEach (e::es) X.env=(false,eval e X.env)::starEach es X.env:=by rfl) (hpl:(backTo pos (starEach es X.env)).any (·.1)=false:=by rfl):V3 X B (.Call (.Name x p) (e::es) [] pos) Γ Ω R:=fun F σ H S pins s I=>
 VJ ok hr hg ha hdb hst hpl pins s σ H _ I ⟨F,S.fh,S.sl,fun us H2 F2 p2 i2=>by
  dsimp only;rw[Yl];have S2:=(S.pur p2).perm pm.symm;have nd2:=S2.nd;rw[yr] at nd2;have nds:=Yd.mp nd2;refine⟨t,ds,F2,h0,hn,S2.fh,i2,nds.1,fun p hp=>S2.own p (y8 _ hp),fun t' d hC v H' F' g1 g2 g3 g4 g5 iv=>⟨d,om t'++Ω4,F',?_,p2.ff.trans g1,iv,r t' d hC⟩⟩;have hm:=hm _ _ _ _ hC;refine⟨S2.f0.trans g1,g2,fun b hb=>?_,fun b o hb e=>?_,?_,fun p hp=>?_,fun p hp=>?_,S2.sl.mono g1⟩
  ·rcases g4 b hb with z|z
   ·exact S2.fr b z
   ·exact(S2.freeB z).elim (fun w=>.inr (.inl w)) fun w=>.inr (.inr w)
  ·refine g3 b o (fun z=>?_) (S2.kp b o hb e);obtain⟨p,hp,rfl⟩:=yo.mp z;rcases S2.od p (y8 _ hp) with z|z
   ·exact hb z
   ·have z':B.H p.1=none:=z;rw[z'] at e;cases e
  ·rw[yr,hm,←yr];exact S2.nd
  ·rcases yY.mp hp with z|z
   ·have:p.1∈(om t).map (·.1):=by rw[←hm];exact yo.mpr ⟨p,z,rfl⟩
    obtain⟨p',hp',e⟩:=yo.mp this;rw[←e];exact S2.od p' (y8 _ hp')
   ·exact S2.od p (yN _ z)
  ·rcases yY.mp hp with z|z
   ·exact g5 p z
   ·obtain⟨h1,o2,h2,h3⟩:=S2.own p (yN _ z);have nin:p.1∉(om t).map (·.1):=fun y=>nds.2.2 _ y _ (yo.mpr ⟨p,z,rfl⟩) rfl;refine⟨?_,o2,g3 _ _ nin h2,fun F3 e3=>h3 F3 (g1.trans e3)⟩;cases zz:F' p.1 with
    |none=>rfl
    |some u=>
     rcases g4 p.1 (by rw[zz];simp) with y|y
     ·exact absurd h1 y
     ·rw[h2] at y;cases y⟩
end
section
variable {X:Cx}{B:Bs}{Γ:Ga}{Ω:Om}{a b:Expr}{d:D}{ds:List D}{pos p:Pos}{R:D->Om->Prop}
theorem yh9 (h:V3 X B a Γ Ω fun d Ω1=>∃ k,d=.bl k/\if k=true then V3 X B b Γ Ω1 R else R (.bl false) Ω1):V3 X B (.BoolOp .And [a,b] pos) Γ Ω R:=fun F σ H S pins s I=>
 Xp Qt (ycy Qt) pins s σ H _ I ((h F σ H S).mono fun v H1 ⟨d,Ω1,F1,S1,f1,i1,k,e1,r⟩=>by
  subst e1;refine⟨k,isB i1,?_⟩;cases k with
  |true=>
   rw[yc rfl] at r ⊢;exact(r F1 σ H1 S1).mono fun v2 H2 ⟨d2,Ω2,F2,S2,f2,i2,r2⟩=>⟨d2,Ω2,F2,S2,f1.trans f2,i2,r2⟩
  |false=>
   rw[yb yE] at r ⊢;exact⟨.bl false,Ω1,F1,S1,f1,Kb F1,r⟩)
theorem yht (h:V3 X B a Γ Ω fun d Ω1=>∃ ds,d=.tup ds/\V3 X B b Γ Ω1 fun d' Ω2=>∃ i e,d'=.int i/\atI ds i=some e/\R e Ω2)(hs:J8 b:=by exact fun _ _=>rfl):V3 X B (.Subscript a b pos) Γ Ω R:=fun F σ H S pins s I=>
 wU yeG Qt Qt hs pins s σ H _ I ((h F σ H S).mono fun x H1 ⟨d,Ω1,F1,S1,f1,i1,ds,e1,h1⟩=>(h1 F1 σ H1 S1).mono fun y H2 ⟨d',Ω2,F2,S2,f2,i2,j,e,e2,e3,q⟩=>by
  subst e1 e2;obtain⟨l,xs,rfl,s1,j1⟩:=isT (i1.mono f2);obtain⟨v,v1,v2⟩:=wa j1 e3;exact⟨l,xs,j,v,rfl,isI i2,Qe S2.fh s1,v1,e,Ω2,F2,S2,f1.trans f2,v2,q⟩)
theorem yhp (hm:X.mg "int" = none)(hg:Gl X "int")(h:V3 X B a Γ Ω fun d Ω1=>∃ k,d=.bl k/\R (.int (if k then 1 else 0)) Ω1)(he:starEach [a] X.env=(false,eval a X.env)::starEach [] X.env:=by rfl):V3 X B (.Call (.Name "int" p) [a] [] pos) Γ Ω R:=fun F σ H S pins s I=>
 ZH uz hg hm yeJ (Jo Qt Zx he) (by decide) (by decide) he (by rfl) pins s σ H _ I ((h F σ H S).mono fun x H1 ⟨d,Ω1,F1,S1,f1,i1,k,e1,r⟩=>by
  subst e1;rw[isB i1];exact .inr ⟨k,rfl,_,Ω1,F1,S1,f1,QG F1,r⟩)
theorem ydO {ds es:List D}(hz:ds.length+es.length<=sizeLine):∀ (x y:V) (H F:Hp) (Q:VK),yP F H->Is X.K F (.lst ds) x->Is X.K F (.lst es) y->(∀ v H' F',Pur F H F' H'->Is X.K F' (.lst (ds++es)) v->Q v H')->ygP X.K x y H Q:=fun x y H F Q fh i1 i2 k=>by
 obtain⟨l,xs,rfl,s1,j1⟩:=jn i1;obtain⟨l2,ys,rfl,s2,j2⟩:=jn i2;exact⟨l,l2,xs,ys,rfl,rfl,fh.seq s1,fh.seq s2,by rw[j1.len,j2.len];exact hz,fun q hq=>k _ _ _ (Pur.lay fh hq) (Is.lstI (.inl yL) ((j1.append j2).mono (Pur.lay fh hq).ff))⟩
theorem xY {ds:List D}(hk:∀ e∈ds,kin e d=true/\dep e<=60):∀ (x y:V) (H F:Hp) (Q:VK),yP F H->Is X.K F d x->Is X.K F (.lst ds) y->Q (.bl (!inD d ds)) H->yiY X.K true x y H Q:=fun x y H F Q fh i1 i2 q=>by
 obtain⟨l,xs,rfl,s1,j1⟩:=jn i2;exact⟨l,xs,d,ds,rfl,.inl (fh.seq s1),j1.mono fh,i1.mono fh,hk,q⟩
def VP (X:Cx)(B:Bs)(Γ:Ga):List (Option Expr)->List Expr->Om->(List (Key×D)->Om->Prop)->Prop
 |[],[],Ω,R=>R [] Ω
 |some k::ks,v::vs,Ω,R=>∃ key,P3 X Γ k (Zq key)/\V3 X B v Γ Ω fun d Ω1=>VP X B Γ ks vs Ω1 fun kvs Ω2=>R ((key,d)::kvs) Ω2
 |_,_,_,_=>False
def trW (X:Cx):List (Option Expr)->List Expr->List (TE×TE)
 |some k::ks,v::vs=>(WE X k,WE X v)::trW X ks vs
 |_,_=>[]
theorem yhc:∀ {ks:List (Option Expr)} {vs:List Expr},ks.all (·.isSome)=true->ks.length=vs.length->PPs X pos ks vs (trW X ks vs)
 |[],[],_,_=>ygp
 |some k::ks,v::vs,h,hl=>ycs Qt Qt (yhc (by simpa using h) (by simpa using hl))
 |none::ks,_,h,_=>by simp at h
 |[],_::_,_,hl=>by simp at hl
 |some _::_,[],_,hl=>by simp at hl
theorem ya3:∀ {ks:List (Option Expr)} {vs:List Expr} {Ω:Om} {R:List (Key×D)->Om->Prop} {F:Hp} {σ:L2.St} {H:Hp} {Q:List (V×V)->Hp->Prop},VP X B Γ ks vs Ω R->Sat X.K B Γ Ω F σ H->(∀ (kvs:List (Key×D)) (Ω2:Om) (F2 H2:Hp) (ys:List V),R kvs Ω2->kvs.length=ks.length->Sat X.K B Γ Ω2 F2 σ H2->yP F F2->IsL X.K F2 (kvs.map (·.2)) ys->Q (((kvs.map (·.1)).zip ys).map fun kv=>(kV kv.1,kv.2)) H2)->UM (trW X ks vs) σ H Q
 |[],[],Ω,R,F,σ,H,Q,h,S,q=>q [] Ω F H [] h rfl S (yP.refl _) IsL.nil
 |some k::ks,v::vs,Ω,R,F,σ,H,Q,⟨key,hk,h⟩,S,q=>by
  refine hk.we ⟨F,S.fh,S.sl,fun x H1 F1 p1 i1=>?_⟩;refine(h F1 σ H1 (S.pur p1)).mono fun y H2 ⟨d,Ω1,F2,S2,f2,i2,h2⟩=>?_;refine ya3 h2 S2 fun kvs Ω3 F3 H3 ys r hl S3 f3 il=>?_;have:=q ((key,d)::kvs) Ω3 F3 H3 (y::ys) r (by simp[hl]) S3 (p1.ff.trans (f2.trans f3)) (IsL.cons (i2.mono f3) il);rw[Z3 i1];exact this
 |[],_::_,_,_,_,_,_,_,h,_,_=>by simp[VP] at h
 |none::_,_,_,_,_,_,_,_,h,_,_=>by simp[VP] at h
 |some _::_,[],_,_,_,_,_,_,h,_,_=>by simp[VP] at h
theorem ye7 {kvs:List (Key×V)}{k:Key}{v:V}(h:k∉kvs.map (·.1)):zf kvs k v=kvs++[(k,v)]:=by
 unfold zf;rw[yb];intro z;rw[List.any_eq_true] at z;obtain⟨q,hq,e⟩:=z;exact h (yo.mpr ⟨q,hq,by simpa using e⟩)
theorem kN:∀ {more kvs:List (Key×V)},((kvs++more).map (·.1)).Nodup->zU kvs more=kvs++more
 |[],kvs,_=>by simp[zU]
 |p::more,kvs,h=>by
  have e:zU kvs (p::more)=zU (zf kvs p.1 p.2) more:=rfl;have np:p.1∉kvs.map (·.1):=fun z=>by
   rw[yr,Yd] at h;exact h.2.2 _ z _ (by simp) rfl
  rw[e,ye7 np,kN (by simpa using h)];simp
theorem ygl {ks:List (Option Expr)}{vs:List Expr}(h:∀ q:Addr×Ow,VP X B Γ ks vs (q::Ω) fun kvs Ω2=>∃ Ω3,Ω2.Perm (q::Ω3)/\(kvs.map (·.1)).Nodup/\∀ l,R (.raw (.ref l)) ((l,oDk X.K (kvs.map (·.1)) (kvs.map (·.2)))::Ω3))(h0:ks≠[]:=by simp)(h15:ks.length<=15:=by decide)(ha:ks.all (·.isSome)=true:=by rfl)(hl:ks.length=vs.length:=by rfl):V3 X B (.Dict ks vs pos) Γ Ω R:=fun F σ H S pins s I=>
 yge (yhc ha hl) ha hl h0 h15 pins s σ H _ I fun p hp=>by
  have S0:Sat X.K B Γ ((p,oDk X.K [] [])::Ω) F σ (upd H p (.dK [])):=S.new (Pur.layOwn S.fh hp) hp (S.fh.free hp) yL fun F2 e=>⟨[],rfl,rfl,IsL.nil⟩
  refine ya3 (h (p,oDk X.K [] [])) S0 fun kvs Ω2 F2 H2 ys ⟨Ω3,pm,nd,r⟩ hk S2 f2 il=>?_;have S3:=S2.perm pm.symm;obtain⟨fa,ob,h6,ho⟩:=S3.own (p,oDk X.K [] []) (by simp);obtain⟨xs,rfl,_,_⟩:=ho F2 (yP.refl _);have yl:(kvs.map (·.1)).length=ys.length:=by rw[il.len,ye,ye]
  refine⟨h6,(kvs.map (·.1)).zip ys,rfl,by rw[YA,←yl,ye];omega,?_⟩;rw[kN (by rw[Qw,List.map_fst_zip (by omega)];exact nd),Qw];exact⟨_,_,F2,S3.turn fun F7 e7=>⟨_,rfl,yl,il.mono e7⟩,f2,zl F2,r p⟩
end
def z0 (hs:List Str)(rs:List yF)(h:Str):List yF:=rs.filter fun r=>decide (r.1=h)&&(decide (1<r.2.1.length)||!decide (b0 r∈hs))
def Qg (hs:List Str)(w0:Str)(rs:List yF)(h:Str):List yF:=if z0 hs rs h=[] then [(h,[w0],1)] else z0 hs rs h
def jt (hs:List Str)(w0:Str)(rs:List yF)(h:Str):Grp:=(Qg hs w0 rs h).map fun r=>(r.2.1,Rat.divInt 1 ((Qg hs w0 rs h).length:Int))
def JR (hs:List Str)(w0:Str)(rs:List yF)(ks:List Str):List yF:=jW (ks.map fun h=>(h,jt hs w0 rs h))
theorem Ur {n:Nat}(h:0<n):(Rat.divInt 1 (n:Int)).num=1/\(Rat.divInt 1 (n:Int)).den=n:=by
 have e:=YK (⟨1,n,by omega,by simp⟩:Rat);dsimp only at e;rw[e];exact⟨rfl,rfl⟩
theorem ygx {n:Nat}(h:0<n):sh (Rat.divInt 1 (n:Int))=.tup [.int 1,.int (n:Int)]:=by
 unfold sh;rw[(Ur h).1,(Ur h).2]
theorem uX {α:Type}{n:Int}(hn:0<n):∀ {l:List α},(l.map fun _=>Rat.divInt 1 n).sum=Rat.divInt (l.length:Int) n
 |[]=>by simp
 |a::l=>by
  rw[yn,Yn,uX hn,qJ _ _ (by omega) (by omega),←Int.add_mul,ZJ hn,ym];congr 1;push_cast;omega
theorem X5 {α:Type}[DecidableEq α]{x:α}:∀ {hs:List α},hs.Nodup->(hs.map fun h=>if x=h then 1 else 0).sum<=1
 |[],_=>by simp
 |h::hs,nd=>by
  have nd':=yK.mp nd;rw[yn,Yn];by_cases e:x=h
  ·have z:(hs.map fun h=>if x=h then 1 else 0).sum=0:=by
    have:∀ {ks:List α},x∉ks->(ks.map fun h=>if x=h then 1 else 0).sum=0:=by
     intro ks
     induction ks with
     |nil=>intro _;rfl
     |cons k ks ih=>
      intro hk;rw[yn,Yn,yb (fun q=>hk (by simp[q])),ih fun q=>hk (yf _ q)]
    exact this (e▸nd'.1)
   rw[yc e,z];exact yg _
  ·rw[yb e];have:=X5 (x:=x) nd'.2;omega
theorem ycK {hs:List Str}(nd:hs.Nodup):∀ {rs:List yF},(hs.map fun h=>(rs.filter fun r=>decide (r.1=h)).length).sum<=rs.length
 |[]=>by
  have:∀ {ks:List Str},(ks.map fun h=>(([]:List yF).filter fun r=>decide (r.1=h)).length).sum=0:=by
   intro ks
   induction ks with
   |nil=>rfl
   |cons k ks ih=>rw[yn,Yn,ih];rfl
  rw[this];exact yg _
 |r::rs=>by
  have e:∀ {ks:List Str},(ks.map fun h=>((r::rs).filter fun r=>decide (r.1=h)).length).sum=(ks.map fun h=>if r.1=h then 1 else 0).sum+(ks.map fun h=>(rs.filter fun r=>decide (r.1=h)).length).sum:=by
   intro ks
   induction ks with
   |nil=>rfl
   |cons k ks ih=>
    rw[yn,Yn,yn,Yn,yn,Yn,ih];by_cases q:r.1=k
    ·rw[y4 (by simpa using q),ym,yc q];omega
    ·rw[y3 (by simpa using q),yb q];omega
  have a:=X5 (x:=r.1) nd;have b:=ycK nd (rs:=rs);rw[e,ym];omega
theorem uF {h:Str}:∀ {rs:List yF} {acc:List Str},h∈rs.foldl Y7 acc->h∈acc∨∃ r∈rs,r.1=h
 |[],acc,q=>.inl q
 |r::rs,acc,q=>by
  rcases uF (rs:=rs) (acc:=Y7 acc r) q with z|⟨x,hx,e⟩
  ·unfold Y7 at z;split at z
   ·exact .inl z
   ·rcases yY.mp z with y|y
    ·exact .inl y
    ·exact .inr ⟨r,by simp,(yu.mp y).symm⟩
  ·exact .inr ⟨x,yf _ hx,e⟩
section
variable {hs ws:List Str}{rs:List yF}{w0 h:Str}
theorem KR:Qg hs w0 rs h≠[]:=by
 unfold Qg;split
 ·simp
 ·assumption
theorem uA (g:GOk hs ws rs)(hh:h∈hs):(Qg hs w0 rs h).length<=(rs.filter fun r=>decide (r.1=h)).length:=by
 unfold Qg;split
 ·obtain⟨r,hr,e⟩:=(uF (rs:=rs) (acc:=[]) (h:=h) (by have:=g.fst;unfold yz at this;rw[this];exact hh)).resolve_left (by simp);have:r∈rs.filter fun r=>decide (r.1=h):=yU.mpr ⟨hr,by simpa using e⟩;have:=List.length_pos_of_mem this;simp only[ym,Yq];omega
 ·exact(v4 (p:=fun r:yF=>decide (r.1=h)&&(decide (1<r.2.1.length)||!decide (b0 r∈hs))) fun x _ q=>(Bool.and_eq_true_iff.mp q).1).1
theorem Uh {r:yF}(q:r∈Qg hs w0 rs h):r=(h,[w0],1)∨(r∈rs/\r.1=h/\(1<r.2.1.length∨b0 r∉hs)):=by
 unfold Qg at q;split at q
 ·exact .inl (yu.mp q)
 ·obtain⟨h1,h2⟩:=yU.mp q;simp only[Yg,Yh,Bool.or_eq_true,Bool.not_eq_true',decide_eq_false_iff_not] at h2;exact .inr ⟨h1,h2⟩
theorem yck (g:GOk hs ws rs):((Qg hs w0 rs h).map (·.2.1)).Nodup:=by
 unfold Qg;split
 ·simp
 ·have nd:(((z0 hs rs h).map fun r=>(r.1,r.2.1))).Nodup:=by
   unfold z0;exact List.Nodup.sublist (List.Sublist.map _ (List.filter_sublist ..)) g.prs
  have e:∀ r∈z0 hs rs h,r.1=h:=fun r q=>by
   have:=(yU.mp q).2;simp only[Yg,Yh] at this;exact this.1
  generalize z0 hs rs h=l at *;unfold List.Nodup at nd ⊢;rw[List.pairwise_map] at nd ⊢;exact List.Pairwise.imp_of_mem (fun {a b} ha hb q z=>q (by rw[e a ha,e b hb,z])) nd
theorem VE:∀ {ps:List (Str×Grp)},(jW ps).length=(ps.map fun p=>p.2.length).sum
 |[]=>rfl
 |p::ps=>by
  show(grp p.1 p.2++jW ps).length=_;rw[yy,VE,yn,Yn];unfold grp;rw[ye]
theorem yah {α:Type}{f g:α->Nat}:∀ {l:List α},(∀ x∈l,f x<=g x)->(l.map f).sum<=(l.map g).sum
 |[],_=>yg _
 |x::l,h=>by
  rw[yn,Yn,yn,Yn];exact Nat.add_le_add (h x (by simp)) (yah fun y hy=>h y (yf _ hy))
theorem yfs (g:GOk hs ws rs)(hw:w0∈ws):GOk hs ws (JR hs w0 rs hs):=by
 have hn:hs.Nodup:=(Yd.mp g.nd).1;have hp:(hs.map fun h=>(h,jt hs w0 rs h)).map (·.1)=hs:=by rw[Yu];exact List.map_id' hs
 have gl:∀ h,(jt hs w0 rs h).length=(Qg hs w0 rs h).length:=fun h=>by unfold jt;rw[ye]
 have ne:∀ h,jt hs w0 rs h≠[]:=fun h z=>KR (hs:=hs) (w0:=w0) (rs:=rs) (h:=h) (List.map_eq_nil_iff.mp z);have tl:∀ h,h∈hs->(Qg hs w0 rs h).length<=12:=fun h hh=>yQ (uA g hh) (yQ (y9 _ _) g.rl);have tp:∀ h,0<(Qg hs w0 rs h).length:=fun h=>YU.mpr KR;have mem:∀ p∈hs.map (fun h=>(h,jt hs w0 rs h)),∃ h∈hs,p=(h,jt hs w0 rs h):=fun p q=>by
  obtain⟨h,h1,h2⟩:=yo.mp q;exact⟨h,h1,h2.symm⟩
 unfold JR;refine⟨g.nd,g.sym,g.h0,g.w0,g.hl,g.wl,?_,?_,?_,fun h hh=>?_,fun r hr=>?_,fun r hr=>?_,?_⟩
 ·intro z;obtain⟨h,ks,e⟩:=List.exists_cons_of_ne_nil g.h0;rw[e] at z;have z':grp h (jt (h::ks) w0 rs h)++jW (ks.map fun k=>(k,jt (h::ks) w0 rs k))=[]:=z;have:=(List.append_eq_nil_iff.mp z').1;unfold grp at this;rw[←e] at this;exact ne h (List.map_eq_nil_iff.mp this)
 ·rw[VE,Yu];refine yQ (yah (g:=fun h=>(rs.filter fun r=>decide (r.1=h)).length) fun h hh=>?_) (yQ (ycK hn) g.rl);show(jt hs w0 rs h).length<=_;rw[gl];exact uA g hh
 ·have:=vb (ps:=hs.map fun h=>(h,jt hs w0 rs h)) (acc:=[]) (by rw[Qw,hp];exact hn) fun p q=>by
   obtain⟨h,_,rfl⟩:=mem p q;exact ne h
  rw[Qw,hp] at this;exact this
 ·have:=KF (h:=h) (t:=0) (ps:=hs.map fun h=>(h,jt hs w0 rs h)) (by rw[hp];exact hn) (fun p q=>by
   obtain⟨k,_,rfl⟩:=mem p q;show((jt hs w0 rs k).map (·.2)).sum=1;unfold jt;rw[Yu];have e:=uX (l:=Qg hs w0 rs k) (n:=((Qg hs w0 rs k).length:Int)) (by have:=tp k;omega);have o:Rat.divInt ((Qg hs w0 rs k).length:Int) ((Qg hs w0 rs k).length:Int)=1:=Rat.divInt_self' (by have:=tp k;omega);rw[o] at e;exact e) (by rw[hp];exact hh)
  rw[show(0:Rat)+1=1 by grind] at this;exact this
 ·obtain⟨p,q,e,hm⟩:=zm hr;obtain⟨h,hh,rfl⟩:=mem p q;obtain⟨r',h1,h2⟩:=yo.mp hm;have h3:r'.2.1=r.2.1:=congrArg (·.1) h2;rw[←h3];rcases Uh h1 with z|z
  ·rw[z];exact⟨yg _,by show 1<=4;decide,fun x hx=>by rw[yu.mp hx];exact yN _ hw⟩
  ·exact g.body _ z.1
 ·obtain⟨p,q,e,hm⟩:=zm hr;obtain⟨h,hh,rfl⟩:=mem p q;obtain⟨r',h1,h2⟩:=yo.mp hm;have h3:Rat.divInt 1 ((Qg hs w0 rs h).length:Int)=r.2.2:=congrArg (·.2) h2;have t1:=tp h;have t2:=tl h hh;rw[←h3];have d:=Ur t1;refine⟨?_,by rw[d.1];decide,by rw[d.2];omega⟩;refine(My.q_lt 0 _).mp ?_;rw[d.1,d.2];show(0:Int)*_<1*1;omega
 ·refine kG (by rw[hp];exact hn) fun p q=>?_;obtain⟨h,hh,rfl⟩:=mem p q;show((jt hs w0 rs h).map (·.1)).Nodup;unfold jt;rw[Yu];exact yck g
theorem ybu (g:GOk hs ws rs)(hw:w0∈ws){r:yF}(hr:r∈JR hs w0 rs hs){x:Str}(e:r.2.1=[x]):x∉hs:=by
 obtain⟨p,q,_,hm⟩:=zm hr;obtain⟨h,hh,rfl⟩:=yo.mp q;obtain⟨r',h1,h2⟩:=yo.mp hm;have h3:r'.2.1=r.2.1:=congrArg (·.1) h2;rcases Uh h1 with z|⟨_,_,z⟩
 ·rw[z,e] at h3;have h3:w0=x:=by simpa using h3
  subst h3;intro y;exact(Yd.mp g.nd).2.2 _ y _ hw rfl
 ·rw[h3,e] at z;unfold b0 at z;rw[h3,e] at z;simpa using z
end
theorem vC {α β:Type}{f g:α->List β}{l:List α}(h:∀ x∈l,f x=g x):l.flatMap f=l.flatMap g:=by
 unfold List.flatMap;rw[qr h]
def wrd (row:List Str)(x:Str)(i j:Nat):List Rat:=if j=i+1/\row[i]?=some x then [1] else []
def tR (tr:Str->Nat->Nat->List Rat):List Str->Nat->Nat->List Rat
 |[],i,j=>if i<j then [] else [1]
 |x::xs,i,j=>(List.range (nP (xs.length+1) i j)).flatMap fun t=>(tr x i (i+1+t)).flatMap fun a=>(tR tr xs (i+1+t) j).map fun b=>a*b
def tT (hs row:List Str)(rs:List yF):Nat->Str->Nat->Nat->List Rat
 |0,x,i,j=>if x∈hs then [] else wrd row x i j
 |n+1,x,i,j=>if x∈hs then rs.flatMap fun r=>if r.1=x/\r.2.1.length<=j - i then (tR (tT hs row rs n) r.2.1 i j).map fun a=>r.2.2*a else [] else wrd row x i j
def xz (hs:List Str)(rs:List yF):Prop:=∀ r∈rs,1<=r.2.1.length/\∀ x,r.2.1=[x]->x∉hs
theorem KO {f g:Str->Nat->Nat->List Rat}{hs:List Str}{n:Nat}:∀ {b:List Str} {i j:Nat},(∀ x i' j',i<=i'->j'<=j->i'<j'->(x∈hs->j' - i'<=n)->f x i' j'=g x i' j')->(∀ x,b=[x]->x∉hs∨j - i<=n)->(2<=b.length->j - i<=n+1)->tR f b i j=tR g b i j
 |[],i,j,_,_,_=>rfl
 |x::xs,i,j,h,h1,h2=>by
  rw[tR,tR];refine vC fun t ht=>?_;rw[YE] at ht;unfold nP at ht;rw[h x i (i+1+t) (yg _) (by omega) (by omega) fun hx=>?_]
  ·refine vC fun a _=>?_;rw[KO (n:=n) (b:=xs) (fun y i' j' q1 q2 q3 q4=>h y i' j' (by omega) q2 q3 q4) (fun y e=>.inr ?_) fun e=>?_]
   ·subst e;have:=h2 (by simp);omega
   ·have:=h2 (by rw[ym];omega);omega
  ·cases xs with
   |nil=>
    rcases h1 x rfl with z|z
    ·exact absurd hx z
    ·rw[Yq] at ht;omega
   |cons y ys=>
    have:=h2 (by simp);rw[ym] at ht;omega
theorem X7 {hs row:List Str}{rs:List yF}(fl:xz hs rs):∀ {n:Nat} {x:Str} {i j:Nat},i<j->(x∈hs->j - i<=n)->tT hs row rs n x i j=tT hs row rs (n+1) x i j
 |0,x,i,j,hij,h=>by
  by_cases hx:x∈hs
  ·have:=h hx;omega
  ·rw[tT,tT,yb hx,yb hx]
 |n+1,x,i,j,hij,h=>by
  rw[tT,tT];by_cases hx:x∈hs
  ·rw[yc hx,yc hx];refine vC fun r hr=>?_;split
   ·rw[KO (hs:=hs) (n:=n) (fun y i' j' _ _ q3 q4=>X7 fl q3 q4) (fun y e=>.inl ((fl r hr).2 y e)) fun _=>h hx]
   ·rfl
  ·rw[yb hx,yb hx]
theorem ki {hs row:List Str}{rs:List yF}(fl:xz hs rs){n:Nat}{x:Str}{i j:Nat}(hij:i<j)(h:x∈hs->j - i<=n):∀ m,tT hs row rs (n+m) x i j=tT hs row rs n x i j
 |0=>rfl
 |m+1=>(X7 (n:=n+m) fl hij fun hx=>by have:=h hx;omega).symm.trans (ki fl hij h m)
def tA (hs row:List Str)(rs:List yF)(x:Str)(i j:Nat):List Rat:=tT hs row rs (j - i) x i j
theorem yfN {hs row:List Str}{rs:List yF}(fl:xz hs rs){x:Str}{i j:Nat}(hij:i<j)(hx:x∈hs):tA hs row rs x i j=rs.flatMap fun r=>if r.1=x/\r.2.1.length<=j - i then (tR (tA hs row rs) r.2.1 i j).map fun a=>r.2.2*a else []:=by
 unfold tA;obtain⟨n,hn⟩:∃ n,j - i=n+1:=⟨j - i - 1,by omega⟩
 rw[hn,tT,yc hx];refine vC fun r hr=>?_;rw[←hn];split
 ·rw[KO (hs:=hs) (n:=n) (g:=fun x i j=>tT hs row rs (j - i) x i j) (fun y i' j' _ _ q3 q4=>?_) (fun y e=>.inl ((fl r hr).2 y e)) fun _=>by omega];by_cases hy:y∈hs
  ·have q:=q4 hy;have:=ki (row:=row) fl (n:=j' - i') (x:=y) q3 (fun _=>yg _) (n - (j' - i'));rw[show j' - i'+(n - (j' - i'))=n by omega] at this;exact this
  ·have a:=ki (row:=row) fl (n:=0) (x:=y) q3 (fun z=>absurd z hy) n;have b:=ki (row:=row) fl (n:=0) (x:=y) q3 (fun z=>absurd z hy) (j' - i');rw[QE] at a b;rw[a,b]
 ·rfl
theorem yfD {hs row:List Str}{rs:List yF}{x:Str}{i j:Nat}(hx:x∉hs):tA hs row rs x i j=wrd row x i j:=by
 unfold tA;cases j - i with
 |zero=>rw[tT,yb hx]
 |succ n=>rw[tT,yb hx]
theorem J6 {α:Type}{f:α->List Rat}:∀ {l:List α},(l.flatMap f).sum=(l.map fun x=>(f x).sum).sum
 |[]=>rfl
 |x::l=>by rw[List.flatMap_cons,List.sum_append,yn,Yn,J6]
theorem Ki {c:Rat}:∀ {l:List Rat},(l.map fun a=>c*a).sum=c*l.sum
 |[]=>by simp[Rat.mul_zero]
 |x::l=>by rw[yn,Yn,Yn,Ki];grind
theorem wQ {c:Rat}:∀ {l:List Rat},(l.map fun a=>a*c).sum=l.sum*c
 |[]=>by simp[Rat.zero_mul]
 |x::l=>by rw[yn,Yn,Yn,wQ];grind
theorem Ui {f:Nat->Rat}:∀ {n:Nat},((List.range n).map f).sum=Yr n f
 |0=>rfl
 |n+1=>by rw[Y9,yr,List.sum_append,Ui,Yr];simp[Qb]
theorem uG {f:yF->Rat}:∀ {rs:List yF},(rs.map f).sum=jp f rs
 |[]=>rfl
 |r::rs=>by rw[yn,Yn,jp,uG]
theorem yeQ {hs row:List Str}{T:Str->Nat->Nat->Rat}{tr:Str->Nat->Nat->List Rat}{n:Nat}:∀ {b:List Str} {i j:Nat},i<=j->(∀ x i' j',i<=i'->j'<=j->i'<j'->(x∈hs->j' - i'<=n)->(tr x i' j').sum=wT hs row T x i' j')->(∀ x,b=[x]->x∉hs∨j - i<=n)->(2<=b.length->j - i<=n+1)->(tR tr b i j).sum=wP hs row T b i j
 |[],i,j,hij,_,_,_=>by
  rw[tR,wP];by_cases e:i=j
  ·rw[yc e,yb (by omega)];simp[Qb]
  ·rw[yb e,yc (by omega)];rfl
 |x::xs,i,j,hij,h,h1,h2=>by
  rw[tR,wP,J6,Ui,Vc (n:=nP (xs.length+1) i j) (m:=j - i) (by unfold nP;omega) fun t q1 q2=>by
   rw[vJ (by unfold nP at q1;omega)];grind]
  refine YB fun t ht=>?_;unfold nP at ht;rw[J6];have e:∀ a:Rat,((tR tr xs (i+1+t) j).map fun b=>a*b).sum=a*wP hs row T xs (i+1+t) j:=fun a=>by
   rw[Ki,yeQ (n:=n) (b:=xs) (by omega) (fun y i' j' q1 q2 q3 q4=>h y i' j' (by omega) q2 q3 q4) (fun y e=>.inr ?_) fun e=>?_]
   ·subst e;have:=h2 (by simp);omega
   ·have:=h2 (by rw[ym];omega);omega
  rw[qr (g:=fun a=>a*wP hs row T xs (i+1+t) j) fun a _=>e a,wQ,h x i (i+1+t) (yg _) (by omega) (by omega) fun hx=>?_];cases xs with
  |nil=>
   rcases h1 x rfl with z|z
   ·exact absurd hx z
   ·rw[Yq] at ht;omega
  |cons y ys=>
   have:=h2 (by simp);rw[ym] at ht;omega
theorem yak {hs row:List Str}{T:Str->Nat->Nat->Rat}{x:Str}{i j:Nat}(hx:x∉hs):(wrd row x i j).sum=wT hs row T x i j:=by
 unfold wrd wT;rw[yb hx];split
 ·simp[Qb]
 ·rfl
theorem yeO {rs:List yF}{row:List Str}{M b s:Nat}(g:SumG rs row M b s)(fl:xz (yz rs) rs):∀ {n:Nat} {x:Str} {i j:Nat},i<j->j<=row.length->(x∈yz rs->j - i<=n)->(tT (yz rs) row rs n x i j).sum=wT (yz rs) row (TW rs row) x i j
 |0,x,i,j,hij,hj,h=>by
  by_cases hx:x∈yz rs
  ·have:=h hx;omega
  ·rw[tT,yb hx,yak hx]
 |n+1,x,i,j,hij,hj,h=>by
  by_cases hx:x∈yz rs
  ·rw[tT,yc hx,J6,uG];unfold wT;rw[yc hx,←yfL g hx hij hj];refine JO fun r hr=>?_;unfold ygA;by_cases e:r.1=x
   ·rw[yc e];by_cases e2:r.2.1.length<=j - i
    ·rw[yc ⟨e,e2⟩,Ki,yeQ (n:=n) (qS hij) (fun y i' j' _ q2 q3 q4=>yeO g fl q3 (by omega) q4) (fun y e=>.inl ((fl r hr).2 y e)) fun _=>h hx]
    ·rw[yb (fun z=>e2 z.2),vJ (by omega)];simp[Rat.mul_zero]
   ·rw[yb (fun z=>e z.1),yb e];rfl
  ·rw[tT,yb hx,yak hx]
theorem yhx {rs:List yF}{row:List Str}{M b s:Nat}(g:SumG rs row M b s)(fl:xz (yz rs) rs){h:Str}(hh:h∈yz rs){i j:Nat}(hij:i<j)(hj:j<=row.length):(tA (yz rs) row rs h i j).sum=TW rs row h i j:=by
 unfold tA;rw[yeO g fl hij hj fun _=>yg _];unfold wT;rw[yc hh]
abbrev Q3k:=Str×Nat×Nat
abbrev Sn:=List (Q3k×List Rat)
def kQ (k:Q3k):List K2:=[.inl (.inr k.1),.inl (.inl (k.2.1:Int)),.inl (.inl (k.2.2:Int))]
theorem yd7 {x y:Q3k}(h:kQ x=kQ y):x=y:=by
 obtain⟨a,b,c⟩:=x;obtain⟨d,e,f⟩:=y;unfold kQ at h;simp only[List.cons.injEq,Sum.inr.injEq,Sum.inl.injEq,and_true,Int.ofNat_inj] at h;rw[h.1,h.2.1,h.2.2]
def shL (l:List Rat):D:=.lst (l.map sh)
def snV (sn:Sn):List (List K2×D):=sn.map fun p=>(kQ p.1,shL p.2)
def Zc (sn:Sn)(k:Q3k):Option (List Rat):=(sn.find? fun p=>decide (p.1=k)).map (·.2)
theorem KK {k:Q3k}:∀ {sn:Sn},atD (snV sn) (kQ k)=(Zc sn k).map shL
 |[]=>rfl
 |p::sn=>by
  have ih:=KK (k:=k) (sn:=sn);unfold atD Zc snV at ih ⊢;rw[yn,al_find?_cons,al_find?_cons];by_cases e:p.1=k
  ·rw[yI e,yI (show kQ p.1=kQ k by rw[e])];rfl
  ·rw[yv e,yv (show ¬ kQ p.1=kQ k from fun z=>e (yd7 z))];exact ih
theorem yc5 {sn:Sn}{k:Q3k}{l:List Rat}(h:Zc sn k=some l):(k,l)∈sn:=by
 unfold Zc at h;obtain⟨p,h1,h2⟩:=y7.mp h;have b:=List.find?_some h1;have b:p.1=k:=by simpa using b
 rw[←b,←h2];exact al_mem_of_find?_eq_some h1
theorem ybR {sn:Sn}{k:Q3k}(h:Zc sn k=none):k∉sn.map (·.1):=fun z=>by
 unfold Zc at h;obtain⟨p,hp,e⟩:=yo.mp z;have:sn.find? (fun p=>decide (p.1=k))=none:=by simpa using h
 rw[List.find?_eq_none] at this;exact this p hp (by simpa using e)
def KQ (sn:Sn)(k:Q3k)(l:List Rat):Sn:=if (Zc sn k).isSome=true then sn.map fun p=>if p.1=k then (p.1,l) else p else sn++[(k,l)]
theorem yfS {sn:Sn}{k:Q3k}{l:List Rat}:uo (snV sn) (kQ k) (shL l)=snV (KQ sn k l):=by
 unfold uo KQ;rw[KK];cases q:Zc sn k with
 |none=>simp[snV]
 |some u=>
  simp only[Option.map_some,QD,if_true];unfold snV;rw[Yu,Yu];refine qr fun p _=>?_;show(if kQ p.1=kQ k then (kQ p.1,shL l) else (kQ p.1,shL p.2))=(kQ (if p.1=k then (p.1,l) else p).1,shL (if p.1=k then (p.1,l) else p).2)
  by_cases e:p.1=k
  ·rw[yc (by rw[e]),yc e]
  ·rw[yb (fun z=>e (yd7 z)),yb e]
theorem ycr {sn:Sn}{k:Q3k}{l:List Rat}:Zc (KQ sn k l) k=some l:=by
 unfold KQ;cases q:Zc sn k with
 |none=>
  simp only[Option.isSome_none,YI,if_false];unfold Zc at q ⊢;rw[List.find?_append];have:sn.find? (fun p=>decide (p.1=k))=none:=by simpa using q
  rw[this];simp
 |some u=>
  simp only[QD,if_true];have go:∀ {sn:Sn} {u:List Rat},Zc sn k=some u->Zc (sn.map fun p=>if p.1=k then (p.1,l) else p) k=some l:=by
   intro sn
   induction sn with
   |nil=>intro u h;simp[Zc] at h
   |cons p sn ih=>
    intro u h;unfold Zc at h ⊢;rw[yn,al_find?_cons];rw[al_find?_cons] at h;by_cases e:p.1=k
    ·rw[yc e,yI e];rfl
    ·rw[yb e,yv e];rw[yv e] at h;exact ih h
  exact go q
theorem Kc {sn:Sn}{k:Q3k}{l:List Rat}{p:Q3k×List Rat}(h:p∈KQ sn k l):p=(k,l)∨p∈sn:=by
 unfold KQ at h;split at h
 ·obtain⟨q,hq,e⟩:=yo.mp h;split at e
  ·rename_i e2;exact .inl (by rw[←e,e2])
  ·exact .inr (e▸hq)
 ·rcases yY.mp h with z|z
  ·exact .inr z
  ·exact .inl (yu.mp z)
theorem ygB {sn:Sn}{k:Q3k}{l:List Rat}(h:(sn.map (·.1)).Nodup):((KQ sn k l).map (·.1)).Nodup:=by
 unfold KQ;cases q:Zc sn k with
 |some u=>
  simp only[QD,if_true];rw[Yu];have:((fun x:Q3k×List Rat=>x.1) ∘ fun p=>if p.1=k then (p.1,l) else p)=fun p=>p.1:=by
   funext p;show(if p.1=k then (p.1,l) else p).1=p.1;split <;> rfl
  rw[this];exact h
 |none=>
  simp only[Option.isSome_none,YI,if_false];rw[yr,Yd];refine⟨h,by simp,fun a ha b hb e=>ybR q ?_⟩;have:b=k:=by simpa using hb
  rw[←this,←e];exact ha
def GG:Nat->Nat
 |0=>1
 |n+1=>4*GG n+6
theorem km:∀ {m n:Nat},m<=n->GG m<=GG n
 |m,0,h=>Nat.le_of_eq (by rw[jG.mp h])
 |m,n+1,h=>by
  rcases QI m (n+1) with q|q
  ·have:=km (m:=m) (n:=n) (by omega);rw[GG];omega
  ·exact Nat.le_of_eq (by rw[show m=n+1 by omega])
theorem yit {n:Nat}(h:n<=4):GG n<=766:=yQ (km h) (by decide)
theorem yje {n:Nat}:1<=GG n:=km (m:=0) (qo n)
def yd0 (hs:List Str):List Q3k:=hs.flatMap fun h=>(List.range 5).flatMap fun i=>(List.range 6).map fun j=>(h,i,j)
theorem W8:∀ {hs:List Str},(yd0 hs).length=30*hs.length
 |[]=>rfl
 |h::hs=>by
  unfold yd0;rw[List.flatMap_cons,yy];have:=W8 (hs:=hs);unfold yd0 at this;rw[this,ym];have:((List.range 5).flatMap fun i=>(List.range 6).map fun j=>(h,i,j)).length=30:=by simp[List.length_flatMap];rfl
  omega
theorem yfU {hs:List Str}{h:Str}{i j:Nat}(hh:h∈hs)(hi:i<5)(hj:j<6):(h,i,j)∈yd0 hs:=
 Qf.mpr ⟨h,hh,Qf.mpr ⟨i,YE.mpr hi,yo.mpr ⟨j,YE.mpr hj,rfl⟩⟩⟩
structure QSt where
 b:Addr
 s:Addr
 hs:List Str
 rs:List yF
 row:List Str
 sn:Sn
 mn:Bool
def VT:List Key:=[qj "heads", qj "rules", qj "row", qj "seen", qj "many"]
def uq (t:QSt):List D:=[.lst (yB t.hs),.lst (yJ t.rs),Ye t.row,.raw (.ref t.s),.bl t.mn]
def omQ (P:Program)(w:World)(K:W.Frag)(t:QSt):Om:=[(t.b,oDk K VT (uq t)),(t.s,ZR P w K t.s (snV t.sn))]
theorem ycf {t:QSt}:vA VT (uq t) (qj "heads")=some (.lst (yB t.hs)):=rfl
theorem ybs {t:QSt}:vA VT (uq t) (qj "rules")=some (.lst (yJ t.rs)):=rfl
theorem ygn {t:QSt}:vA VT (uq t) (qj "row")=some (Ye t.row):=rfl
theorem vq {t:QSt}:vA VT (uq t) (qj "seen")=some (.raw (.ref t.s)):=rfl
theorem ydy {t:QSt}:vA VT (uq t) (qj "many")=some (.bl t.mn):=rfl
theorem ydM:pK VT (qj "many")=VT:=rfl
theorem yfb {t:QSt}:pA VT (uq t) (qj "many") (.bl true)=uq {t with mn:=true}:=rfl
structure QOk (t:QSt):Prop where
 rl:t.row.length<=4
 hl:t.hs.length<=4
 kl:t.rs.length<=12
 body:∀ r∈t.rs,r.2.1.length<=4
 fl:xz t.hs t.rs
 sz:∀ r∈t.rs,0<=r.2.2/\Sz 5 r.2.2
 nd:(t.sn.map (·.1)).Nodup
 ks:∀ p∈t.sn,p.1∈yd0 t.hs
 vl:∀ p∈t.sn,p.2.length<=720/\∀ q∈p.2,0<=q/\Sz (GG (p.1.2.2 - p.1.2.1)) q
 ex:t.mn=false->∀ p∈t.sn,p.2=tA t.hs t.row t.rs p.1.1 p.1.2.1 p.1.2.2
theorem QOk.len {t:QSt}(q:QOk t):t.sn.length<=120:=by
 have:=U5 q.nd fun k hk=>by
  obtain⟨p,hp,rfl⟩:=yo.mp hk;exact q.ks p hp
 rw[ye,W8] at this;have:=q.hl;omega
theorem QOk.many {t:QSt}(q:QOk t):QOk {t with mn:=true}:=⟨q.rl,q.hl,q.kl,q.body,q.fl,q.sz,q.nd,q.ks,q.vl,fun z=>by cases z⟩
def QTo (t t':QSt):Prop:=∃ sn mn,t'={t with sn:=sn,mn:=mn}/\QOk t'/\(mn=false->t.mn=false)
theorem QTo.refl {t:QSt}(q:QOk t):QTo t t:=⟨t.sn,t.mn,rfl,q,id⟩
theorem QTo.trans {t t1 t2:QSt}(a:QTo t t1)(b:QTo t1 t2):QTo t t2:=by
 obtain⟨sn,mn,rfl,_,h⟩:=a;obtain⟨sn2,mn2,rfl,q2,h2⟩:=b;exact⟨sn2,mn2,rfl,q2,fun z=>h (h2 z)⟩
theorem QTo.many {t t':QSt}(a:QTo t t'):QTo t {t' with mn:=true}:=by
 obtain⟨sn,mn,rfl,q,h⟩:=a;exact⟨sn,true,rfl,q.many,fun z=>by cases z⟩
theorem QTo.om {P:Program}{w:World}{K:W.Frag}{t t':QSt}(h:QTo t t'):(omQ P w K t').map (·.1)=(omQ P w K t).map (·.1):=by
 obtain⟨sn,mn,rfl,_⟩:=h;rfl
theorem QTo.false {t t':QSt}(h:QTo t t')(z:t'.mn=false):t.mn=false:=by
 obtain⟨sn,mn,rfl,_,q⟩:=h;exact q z
theorem QTo.ok {t t':QSt}(h:QTo t t'):QOk t':=by
 obtain⟨sn,mn,rfl,q,_⟩:=h;exact q
structure QEq (t t':QSt):Prop where
 b:t'.b=t.b
 s:t'.s=t.s
 hs:t'.hs=t.hs
 rs:t'.rs=t.rs
 row:t'.row=t.row
theorem QTo.eq {t t':QSt}(h:QTo t t'):QEq t t':=by
 obtain⟨sn,mn,rfl,_⟩:=h;exact⟨rfl,rfl,rfl,rfl,rfl⟩
theorem QOk.put {t:QSt}{x:Str}{i j:Nat}{l:List Rat}(q:QOk t)(hx:x∈t.hs)(hij:i<j)(hj:j<=t.row.length)(hl:l.length<=720)(hz:∀ q∈l,0<=q/\Sz (GG (j - i)) q)(he:t.mn=false->l=tA t.hs t.row t.rs x i j):QOk {t with sn:=KQ t.sn (x,i,j) l} where
 rl:=q.rl
 hl:=q.hl
 kl:=q.kl
 body:=q.body
 fl:=q.fl
 sz:=q.sz
 nd:=ygB q.nd
 ks:=fun p hp=>by
  have rl:=q.rl;rcases Kc hp with z|z
  ·rw[z];exact yfU hx (by omega) (by omega)
  ·exact q.ks p z
 vl:=fun p hp=>by
  rcases Kc hp with z|z
  ·rw[z];exact⟨hl,hz⟩
  ·exact q.vl p z
 ex:=fun m p hp=>by
  rcases Kc hp with z|z
  ·rw[z];exact he m
  ·exact q.ex m p z
def TB (hs:List Str)(x:Str)(i j:Nat):Nat:=if x∈hs then GG (j - i) else 1
def RC (hs b:List Str)(i j m:Nat):Prop:=(∀ x,b=[x]->x∉hs∨j - i<=m)/\(2<=b.length->j - i<=m+1)
section
variable {hs xs:List Str}{x:Str}{i j m c:Nat}
theorem XX (h:RC hs (x::xs) i j m)(hc:i+1+c+xs.length<=j)(hx:x∈hs):i+1+c - i<=m:=by
 cases xs with
 |nil=>
  rcases h.1 x rfl with z|z
  ·exact absurd hx z
  ·rw[Yq] at hc;omega
 |cons y ys=>
  have:=h.2 (by simp);rw[ym] at hc;omega
theorem UZ (h:RC hs (x::xs) i j m)(hc:i+1+c+xs.length<=j):RC hs xs (i+1+c) j m:=by
 refine⟨fun y e=>.inr ?_,fun e=>?_⟩
 ·subst e;have:=h.2 (by simp);omega
 ·have:=h.2 (by rw[ym];omega);omega
theorem yhi (h:RC hs (x::xs) i j m)(hc:i+1+c+xs.length<=j):TB hs x i (i+1+c)<=GG m:=by
 unfold TB;split
 ·rename_i hx;exact km (XX h hc hx)
 ·exact yje
end
def Wn (n:Nat):QSt->List D->Prop:=fun t ds=>∃ (x:Str) (i j:Nat),ds=[.raw (.ref t.b),.str x,.int (i:Int),.int (j:Int)]/\i<j/\j<=t.row.length/\(x∈t.hs->j - i<=n)/\QOk t
def uj:QSt->List D->QSt->D->Prop:=fun t ds t' d=>QTo t t'/\∀ (x:Str) (i j:Nat),ds=[.raw (.ref t.b),.str x,.int (i:Int),.int (j:Int)]->∃ l:List Rat,d=shL l/\l.length<=720/\(∀ q∈l,0<=q/\Sz (TB t.hs x i j) q)/\(t'.mn=false->l=tA t.hs t.row t.rs x i j)
def yal (n k:Nat):QSt->List D->Prop:=fun t ds=>∃ (b:List Str) (i j:Nat),ds=[.raw (.ref t.b),Ye b,.int (i:Int),.int (j:Int)]/\i<=j/\j<=t.row.length/\b.length<=k/\k<=4/\n<=4/\RC t.hs b i j n/\QOk t
def xw:QSt->List D->QSt->D->Prop:=fun t ds t' d=>QTo t t'/\∀ (b:List Str) (i j:Nat),ds=[.raw (.ref t.b),Ye b,.int (i:Int),.int (j:Int)]->∃ l:List Rat,d=shL l/\l.length<=60/\(∀ q∈l,0<=q/\∀ m,RC t.hs b i j m->Sz (b.length*GG m+1) q)/\(t'.mn=false->l=tR (tA t.hs t.row t.rs) b i j)
theorem ydu {P:Program}{w:World}{K:W.Frag}:∀ t ds t' d,uj t ds t' d->(omQ P w K t').map (·.1)=(omQ P w K t).map (·.1):=fun _ _ _ _ h=>h.1.om
theorem yc4 {P:Program}{w:World}{K:W.Frag}:∀ t ds t' d,xw t ds t' d->(omQ P w K t').map (·.1)=(omQ P w K t).map (·.1):=fun _ _ _ _ h=>h.1.om
theorem V6 {i j:Nat}(h:D.int (i:Int)=.int (j:Int)):i=j:=by
 have:=D.int.inj h;omega
theorem yhd {t t':QSt}{x:Str}{i j:Nat}{l:List Rat}(q:QTo t t')(hl:l.length<=720)(hs:∀ q∈l,0<=q/\Sz (TB t.hs x i j) q)(he:t'.mn=false->l=tA t.hs t.row t.rs x i j):uj t [.raw (.ref t.b),.str x,.int (i:Int),.int (j:Int)] t' (shL l):=⟨q,fun x' i' j' e=>by
 simp only[List.cons.injEq,and_true,true_and] at e;obtain⟨e1,e2,e3⟩:=e;cases D.str.inj e1;cases V6 e2;cases V6 e3;exact⟨l,rfl,hl,hs,he⟩⟩
theorem Xf {a b:List Str}(h:Ye a=Ye b):a=b:=jb (D.tup.inj h)
theorem ygT {t t':QSt}{b:List Str}{i j:Nat}{l:List Rat}(q:QTo t t')(hl:l.length<=60)(hs:∀ q∈l,0<=q/\∀ m,RC t.hs b i j m->Sz (b.length*GG m+1) q)(he:t'.mn=false->l=tR (tA t.hs t.row t.rs) b i j):xw t [.raw (.ref t.b),Ye b,.int (i:Int),.int (j:Int)] t' (shL l):=⟨q,fun x' i' j' e=>by
 simp only[List.cons.injEq,and_true,true_and] at e;obtain⟨e1,e2,e3⟩:=e;cases Xf e1;cases V6 e2;cases V6 e3;exact⟨l,rfl,hl,hs,he⟩⟩
theorem kh {l:List Rat}{i:Nat}{d:D}(h:(l.map sh)[i]?=some d):∃ q,l[i]?=some q/\d=sh q:=kd h
def yhA:List D->D->Prop:=fun ds d=>∃ (hs ws:List Str) (rs:List yF) (w0:Str),ds=[.lst (yJ rs),.lst (yB hs),.lst (yB ws)]/\d=.lst (yJ (JR hs w0 rs hs))/\ws[0]?=some w0/\hs.length<=4/\rs.length<=12/\∀ r∈rs,1<=r.2.1.length
theorem wL {hs:List Str}{w0 h:Str}{rs:List yF}:(Qg hs w0 rs h).length<=rs.length+1:=by
 unfold Qg;split
 ·simp
 ·exact Nat.le_succ_of_le (y9 _ _)
theorem uw {hs:List Str}{w0:Str}{rs:List yF}:∀ {ks:List Str},(JR hs w0 rs ks).length<=ks.length*(rs.length+1)
 |[]=>by simp[JR,jW]
 |k::ks=>by
  have ih:=uw (hs:=hs) (w0:=w0) (rs:=rs) (ks:=ks);have a:=wL (hs:=hs) (w0:=w0) (rs:=rs) (h:=k);unfold JR at ih ⊢;rw[VE] at ih ⊢;rw[yn,yn,Yn,ym,QP];have:(jt hs w0 rs k).length=(Qg hs w0 rs k).length:=by unfold jt;rw[ye]
  show(jt hs w0 rs k).length+_<=_;omega
theorem W7 {l:List yF}:YV (.lst (yJ l)) (.lst [])=decide (l=[]):=by
 cases l with
 |nil=>rfl
 |cons r l=>rfl
theorem ydg {X:Cx}{i j:Str}:∀ (x y:V) (H F:Hp) (Q:VK),yP F H->Is X.K F (.str i) x->Is X.K F (.str j) y->Q (.bl (decide (i=j))) H->rEq x y H Q:=fun x y H F Q fh i1 i2 q=>by
 cases isS i1;cases isS i2;exact⟨rfl,by simpa using q⟩
theorem ye8 {l:List Rat}(h:∀ q∈l,0<=q/\Sz 766 q):∀ n,n<=l.length->0<=(l.take n).sum/\Sz (1+n*767) (l.take n).sum
 |0,_=>⟨ql,wA.mono (by decide)⟩
 |n+1,hn=>by
  obtain⟨q,hq⟩:∃ q,l[n]?=some q:=⟨_,al_getElem?_eq_getElem (by omega)⟩
  have a:=ye8 h n (by omega);have b:=h q (al_mem_of_getElem? hq);rw[yW hq,List.sum_append];have e:([q]:List Rat).sum=q:=by simp[Qb]
  rw[e];exact⟨vW a.1 b.1,(xy a.2 b.2).mono (by omega)⟩
def yhK:List D->Prop:=fun ds=>∃ (c:Int) (ws:List Str) (m:Nat),ds=[.int c,.lst (yB ws),.int (m:Int)]/\ws≠[]/\ws.length<=3/\1<=m/\m<=5
def ygY:List D->D->Prop:=fun ds d=>∀ (c:Int) (ws:List Str) (m:Nat),ds=[.int c,.lst (yB ws),.int (m:Int)]->∃ row:List Str,d=Ye row/\1<=row.length/\row.length<=m/\∀ x∈row,x∈ws
theorem yhk {c:Int}{ws row:List Str}{m:Nat}(h1:1<=row.length)(h2:row.length<=m)(h3:∀ x∈row,x∈ws):ygY [.int c,.lst (yB ws),.int (m:Int)] (Ye row):=fun c' ws' m' e=>by
 simp only[List.cons.injEq,D.lst.injEq,D.int.injEq,and_true] at e;obtain⟨_,e1,e2⟩:=e;have e1:=kK e1;subst e1;have e2:m=m':=by omega
 subst e2;exact⟨row,rfl,h1,h2,h3⟩
theorem W0 {b:List Str}:YV (Ye b) (.tup [])=decide (b=[]):=KI (b:=[])
section
variable {hs ws:List Str}{rs:List yF}{st:Str}
end
theorem yfm {r:yF}:dep (Jf r)<=2:=by
 unfold Jf;rw[dep];refine qN (ke fun d hd=>?_);simp only[yA,YW,or_false] at hd;rcases hd with rfl|rfl|rfl
 ·exact qo _
 ·exact KM
 ·exact yf2
theorem XO {rs:List yF}:dep (.lst (yJ rs))<=60:=by
 rw[dep];refine qN (ke fun d hd=>?_);unfold yJ at hd;obtain⟨r,_,rfl⟩:=yo.mp hd;have:=yfm (r:=r);omega
end L3
namespace Law
open PySem L2 L3
section
variable {P:Program}{w:World}{K:W.Frag}{mg:Str->Option Value}{base:Heap}{C_Grammar C_Sums:Addr}
variable (P w K mg base) in
abbrev yhe:Prop:=OkF P w K mg base CX0 2 "_law_cell_at" ["_law_script", "_law_k"] (spP K 2 yij)
theorem kO (z:Zs mg)(d:yZ K mg "_law_cell_at" jq ["_law_script", "_law_k"])  : yhe P w K mg base:=by
 refine YD d k9 rfl fun f cdv A outer s H E hr ds r hC B hB=>?_;obtain⟨ns,k,rfl,rfl⟩:=hC;refine JA (Y8 (xT (pq 1 rfl) (yih z.len rfl (pq 0 rfl)))) ?_ ?_
 ·intro hk;have hk:=of_decide_eq_true hk;refine Y4 (yjC (n:=ns.getD k 0) (pq 0 rfl) (pq 1 rfl) ?_) ?_
  ·have hk':k<ns.length:=by omega
   show atI ns (k:Int)=some (ns.getD k 0);unfold atI ixN;rw[yc (by omega),yc (by omega)];show ns[((k:Int)).toNat]?=_;rw[Int.toNat_natCast,al_getD_eq_getElem?_getD,al_getElem?_eq_getElem hk'];rfl
  ·rfl
 ·intro hk;have hk:=of_decide_eq_false hk;refine yV ?_;refine Y4 yw ?_;show D.int 0=D.int (ns.getD k 0);rw[al_getD_eq_getElem?_getD,al_getElem?_eq_none_iff.mpr (by omega)];rfl
variable (P w K mg base) in
abbrev X0:Prop:=OkF P w K mg base CX0 33 "_law_share" ["_law_top", "_law_bottom"] (spP K 2 yba)
theorem UD (ht:P.given.tree=none)(d:yZ K mg "_law_share" jM ["_law_top", "_law_bottom"])  : X0 P w K mg base:=by
 refine YD d jj rfl fun f cdv A outer s H E hr ds r hC B hB=>?_;obtain⟨t,b,rfl,rfl,h1,h2⟩:=hC;have py:Pyl (cx0 P w K mg base ["_law_top", "_law_bottom", "_law_one", "_law_other", "_law_rest"] "_law_share" jM f cdv A outer s H E):=(kP ht rfl rfl hr (yg _)).nox;have g0:=My.G_pos (a:=t) h2;refine YL (i:=2) jj.nd rfl (.inl rfl) (pq 0 rfl) ?_;refine YL (i:=3) jj.nd rfl (.inl rfl) (pq 1 rfl) ?_;refine UX PassesOwn.never (fun Γ _=>∃ (x y:Int) (z:Option D),Γ=[some (.int t),some (.int b),some (.int x),some (.int y),z]/\0<=x/\0<=y/\My.G x y=My.G t b) (fun Γ _=>match Γ with|[_,_,_,some (.int y),_]=>y.toNat|_=>0) ⟨t,b,none,rfl,h1,yx h2,rfl⟩ ?_;rintro Γ Ω ⟨x,y,z,rfl,hx,hy,hg⟩;refine⟨_,(Y8 (Xi (pq 3 rfl) yw)),fun hk=>?_,fun hk=>?_⟩
 ·have hk:=of_decide_eq_true hk;refine YL (i:=4) jj.nd rfl (.inl rfl) (uW (pq 2 rfl) (pq 3 rfl) ?_) ?_
  ·exact hk
  refine YL (i:=2) jj.nd rfl (.inl rfl) (pq 3 rfl) ?_;refine YL (i:=3) jj.nd rfl (.inl rfl) (pq 4 rfl) ?_;refine yV ⟨⟨y,x % y,_,rfl,hy,(zX hk).1,(ybj hx hk).trans hg⟩,?_⟩;have:=zX (a:=x) hk;show(x % y).toNat<y.toNat
  omega
 ·have hk:=of_decide_eq_false hk;have y0:y=0:=by omega
  subst y0;rw[My.G_end hx] at hg;subst hg;refine Y4 (QJ (yd (Q1 py (pq 0 rfl) (pq 2 rfl) ?_) (yd (Q1 py (pq 1 rfl) (pq 2 rfl) ?_) yt))) ?_
  ·exact g0
  ·exact g0
  show D.tup [D.int (t / My.G t b),D.int (b / My.G t b)]=sh (Rat.divInt t b);unfold sh;rw[←My.num_share h2,←My.den_share h2,yT _ (yx g0),yT _ (yx g0)]
variable (P w K mg base) in
abbrev ygW:Prop:=OkF P w K mg base CX0 34 "_law_added" ["_law_one", "_law_other"] (spP K 2 yai)
theorem wC  (d:yZ K mg "_law_added" Jw ["_law_one", "_law_other"])(o_law_share:X0 P w K mg base):ygW P w K mg base:=by
 refine YD d wq rfl fun f cdv A outer s H E hr ds r hC B hB=>?_;obtain⟨p,q,m,n,rfl,rfl,hp,hq,s1,s2,l1,l2,-⟩:=hC;refine Y4 (Yi (d:=sh (p+q)) o_law_share (hr.mono (by decide)) rfl (yd (Jg (jr (yX (pq 0 rfl) yw rfl) (yX (pq 1 rfl) yw rfl) ?_) (jr (yX (pq 1 rfl) yw rfl) (yX (pq 0 rfl) yw rfl) ?_)) (yd (jr (yX (pq 0 rfl) yw rfl) (yX (pq 1 rfl) yw rfl) ?_) yt)) ?_) ?_
 ·exact Vf s1 s2 l1 l2
 ·exact Vf s2 s1 l2 l1
 ·exact UR s1 s2 l1 l2
 ·exact⟨_,_,rfl,by rw[My.q_add],yhF hp hq,xr⟩
 ·rfl
variable (P w K mg base) in
abbrev kZ:Prop:=OkF P w K mg base CX0 34 "_law_timed" ["_law_one", "_law_other"] (spP K 2 ya2)
theorem wB  (d:yZ K mg "_law_timed" Ju ["_law_one", "_law_other"])(o_law_share:X0 P w K mg base):kZ P w K mg base:=by
 refine YD d Ut rfl fun f cdv A outer s H E hr ds r hC B hB=>?_;obtain⟨p,q,m,n,rfl,rfl,hp,hq,s1,s2,l1,l2,-⟩:=hC;refine Y4 (Yi (d:=sh (p*q)) o_law_share (hr.mono (by decide)) rfl (yd (jr (yX (pq 0 rfl) yw rfl) (yX (pq 1 rfl) yw rfl) ?_) (yd (jr (yX (pq 0 rfl) yw rfl) (yX (pq 1 rfl) yw rfl) ?_) yt)) ?_) ?_
 ·exact yc1 s1 s2 l1 l2
 ·exact UR s1 s2 l1 l2
 ·exact⟨_,_,rfl,by rw[My.q_mul],Qa (My.q_num_nn hp) (My.q_num_nn hq),xr⟩
 ·rfl
variable (P w K mg base) in
abbrev xN:Prop:=OkF P w K mg base CX0 2 "_law_dice" ["_law_cell"] yeT
theorem WG (d:yZ K mg "_law_dice" JP ["_law_cell"]):xN P w K mg base:=by
 refine d.ok (k:=1) xc (fun vs H Q E h=>?_) (fun f cdv A outer s H vs Q E hr h=>⟨_,yau (Uq (ycz (Jo (vR UT (pv 0) zH) Zx))),?_⟩)
 ·obtain⟨c,rfl,_⟩:=h;rfl
 ·obtain⟨c,rfl,q⟩:=h;have m:=zX (a:=c) (show(0:Int)<2147483647 by decide);exact⟨_,rfl,_,_,rfl,rfl,(by show(0:Int)<2147483647;decide),(by show 1<=sizeLine;decide),fun p hp=>q p _ hp m.1 m.2⟩
variable (P w K mg base) in
abbrev kL:Prop:=OkF P w K mg base CX0 2 "_law_roll" ["_law_dice_here", "_law_most"] yeB
theorem wK (d:yZ K mg "_law_roll" JJ ["_law_dice_here", "_law_most"]):kL P w K mg base:=by
 refine d.ok (k:=1) Wx (fun vs H Q E h=>?_) (fun f cdv A outer s H vs Q E hr h=>⟨_,YX (ydW (vR UT (vR xh (vR ya9 (wU vn (pv 0) zH (fun _ _=>rfl)) zH) zH) zH) (ydp (pv 0) zH yeh)) (yau (Uq (vR UT (vR yfo (wU vn (pv 0) zH (fun _ _=>rfl)) zH) (pv 1)))),?_⟩)
 ·obtain⟨a,m,x,rfl,_⟩:=h;rfl
 ·obtain⟨a,m,x,rfl,h1,h2,hH,x0,x1,q⟩:=h;have mm:=zX (a:=x*48271+11) (show(0:Int)<2147483647 by decide);have mr:=zX (a:=(x*48271+11) % 2147483647 / 7) h1;refine⟨_,rfl,a,_,_,_,rfl,rfl,SqL.of hH,j7 (j:=0) rfl,_,_,rfl,rfl,Uc (by decide),_,_,rfl,rfl,_,_,rfl,rfl,(by show(0:Int)<2147483647;decide),?_⟩;refine⟨_,rfl,a,_,_,0,rfl,rfl,hH,rfl,?_⟩;refine⟨_,rfl,a,_,_,_,rfl,rfl,SqL.of yL,j7 (j:=0) rfl,_,_,rfl,rfl,(by constructor <;> decide),_,rfl,_,_,rfl,rfl,h1,?_⟩;exact q _ _ mm.1 mm.2 mr.1 mr.2
variable (P w K mg base) in
abbrev yeM:Prop:=OkF P w K mg base CX0 33 "_law_symbols" ["_law_cell", "_law_many"] (spP K 2 ybw)
theorem K3 (ht:P.given.tree=none)(z:Zs mg)(d:yZ K mg "_law_symbols" QZ ["_law_cell", "_law_many"])  : yeM P w K mg base:=by
 refine YD d YY rfl fun f cdv A outer s H E hr ds r hC B hB=>?_;obtain⟨c,m,rfl,rfl,hm⟩:=hC;have py:Pyl (cx0 P w K mg base ["_law_cell", "_law_many", "_law_letters", "_law_size", "_law_at", "_law_out", "_law_k", "_law_name", "_law_place", "_law_step"] "_law_symbols" QZ f cdv A outer s H E):=(kP ht rfl rfl hr (yg _)).nox;refine YL (i:=2) YY.nd rfl (.inl rfl) jR ?_;refine YL (i:=3) YY.nd rfl (.inl rfl) (Jg yw (uW (pq 0 rfl) yw ?_)) ?_
 ·decide
 have p8:0<1+c % 8:=by omega
 refine YL (i:=4) YY.nd rfl (.inl rfl) (uW (Q1 py (pq 0 rfl) yw ?_) (pq 3 rfl) ?_) ?_
 ·decide
 ·exact p8
 refine vM (i:=5) YY.nd rfl (.inl rfl) (zg yt) fun l=>?_;refine j8 PassesOwn.never rfl (Zi (n:=m) z.range rfl (pq 1 rfl) ?_ ?_) (fun k Γ Ω=>∃ x6 x7 x8 x9,Γ=[some (.int c),some (.int (m:Int)),some (.str yde),some (.int (1+c % 8)),some (.int (c / 8 % (1+c % 8))),some (.raw (.ref l)),x6,x7,x8,x9]/\Ω=[(l,qg K (yB ((List.range k).map (ZS c))))]) ?_ ?_ ?_
 ·rfl
 ·omega
 ·exact⟨_,_,_,_,rfl,rfl⟩
 ·rintro k d Γ Ω hd ⟨x6,x7,x8,x9,rfl,rfl⟩;obtain⟨hk,rfl⟩:=J3 hd;rw[QE];refine⟨_,(Yc (i:=6) YY.nd rfl (.inl rfl)),?_⟩;refine YL (i:=7) YY.nd rfl (.inl rfl) jR ?_;refine j8 PassesOwn.never rfl (Zi (n:=szC c) z.range rfl (pq 3 rfl) ?_ ?_) (fun p Γ Ω=>∃ x8 x9,Γ=[some (.int c),some (.int (m:Int)),some (.str yde),some (.int (1+c % 8)),some (.int (c / 8 % (1+c % 8))),some (.raw (.ref l)),some (.int (k:Int)),some (.str ⟨(Z5 c k p).toArray⟩),x8,x9]/\Ω=[(l,qg K (yB ((List.range k).map (ZS c))))]) ?_ ?_ ?_
  ·exact(yho c).symm
  ·have:=Xd c;omega
  ·exact⟨_,_,rfl,rfl⟩
  ·rintro p d Γ Ω hd ⟨x8,x9,rfl,rfl⟩;obtain⟨hp,rfl⟩:=J3 hd;rw[QE];have hz:=Xd c;refine⟨_,(Yc (i:=8) YY.nd rfl (.inl rfl)),?_⟩;refine YL (i:=9) YY.nd rfl (.inl rfl) (Jg (uW (Q1 py (pq 0 rfl) yw ?_) yw ?_) (jr yw (pq 8 rfl) ?_)) ?_
   ·decide
   ·decide
   ·exact Uc (by omega)
   refine ydl (fun Γ Ω=>∃ q:Int,q=(stp c k p:Nat)/\Γ=[some (.int c),some (.int (m:Int)),some (.str yde),some (.int (1+c % 8)),some (.int (c / 8 % (1+c % 8))),some (.raw (.ref l)),some (.int (k:Int)),some (.str ⟨(Z5 c k p).toArray⟩),some (.int (p:Int)),some (.int q)]/\Ω=[(l,qg K (yB ((List.range k).map (ZS c))))]) (Y8 (vK (pq 8 rfl) (pq 4 rfl))) ?_ ?_ ?_
   ·intro hk2;have hk2:=of_decide_eq_true hk2;refine YL (i:=9) YY.nd rfl (.inl rfl) (Jg (pq 9 rfl) (pq 6 rfl)) ?_;refine yV ⟨_,?_,rfl,rfl⟩;unfold stp;rw[yc (by have:=yc7 c;omega)];have:=yed c;push_cast;omega
   ·intro hk2;have hk2:=of_decide_eq_false hk2;refine yV ⟨_,?_,rfl,rfl⟩;unfold stp;rw[yb (by have:=yc7 c;omega)];have:=yed c;push_cast;omega
   ·rintro Γ Ω ⟨q,hq,rfl,rfl⟩;refine YL (i:=7) YY.nd rfl (.inl rfl) (yh7 (pq 7 rfl) (yjj (c:=lt (stp c k p % 52)) (pq 2 rfl) (uW (pq 9 rfl) yw ?_) ?_ ?_) ?_) ?_
    ·decide
    ·decide +kernel
    ·exact yf9 q hq
    ·rw[sizeLine_eq];show(Z5 c k p).toArray.size+1<=_;rw[yD,KD];omega
    exact yV ⟨_,_,by rw[ybx,←yeD];rfl,rfl⟩
  ·rintro Γ Ω ⟨x8,x9,rfl,rfl⟩;rw[QX];refine JL (i:=5) rfl (.inl rfl) rfl (pq 7 rfl) (by rw[Yo,ye,List.length_range,sizeLine_eq];omega) ?_;refine yV ⟨_,_,_,_,rfl,?_⟩;rw[Y9,yr];unfold yB;rw[yr];rfl
 ·rintro Γ Ω ⟨x6,x7,x8,x9,rfl,rfl⟩;rw[QX];refine jv (i:=5) rfl ?_;refine Y4 (pq 5 rfl) ?_;rfl
variable (P w K mg base) in
abbrev ydG:Prop:=OkF P w K mg base CX0 3 "_law_bodies" ["_law_dice_here", "_law_heads", "_law_words", "_law_first"] (spD K 4 ybz yeU)
theorem ud (z:Zs mg)(d:yZ K mg "_law_bodies" Jb ["_law_dice_here", "_law_heads", "_law_words", "_law_first"])(o_law_roll:kL P w K mg base) :
  ydG P w K mg base:=by
 refine W9 d Qc rfl fun f cdv A outer s H E hr a ds hC B=>?_;obtain⟨hs,ws,fb,rfl,hw,hl,wl⟩:=hC;refine vM (i:=4) Qc.nd rfl (.inl rfl) (zg yt) fun lo=>?_;refine Zy PassesOwn.never rfl (VB z.range rfl (uM (Yj yw ⟨_,rfl,zV o_law_roll (hr.mono (by decide)) rfl (pq 0 rfl) (by simp) yw (by decide) (by decide) fun r h1 h2=>⟨r,rfl,⟨_,rfl,by omega,by omega,?_⟩⟩⟩)));refine⟨fun i Γ Ω=>∃ (bs:List (List Str)) (x5 x6 x7 x8:Option D),bs.length<=i/\(0<i->bs≠[])/\bs.Nodup/\(∀ b∈bs,XR (hs++ws) b)/\Γ=[some (.raw (.ref a)),some (.lst (yB hs)),some (.lst (yB ws)),some (.bl fb),some (.raw (.ref lo)),x5,x6,x7,x8]/\Ω=[(lo,qg K (bs.map Ye)),(a,Jr)],⟨[],_,_,_,_,yg _,fun h=>absurd h (by omega),qD,fun b hb=>absurd hb (by simp),rfl,rfl⟩,?_,?_⟩
 ·rintro i d Γ Ω hd ⟨bs,x5,x6,x7,x8,hbl,hb0,hbn,hbo,rfl,rfl⟩;obtain⟨hi,rfl⟩:=xD hd;refine⟨_,(Yc (i:=5) Qc.nd rfl (.inl rfl)),?_⟩;refine YL (i:=6) Qc.nd rfl (.inl rfl) (QJ yt) ?_;refine Zy PassesOwn.never rfl (VB z.range rfl (uM (Yj yw ⟨_,rfl,yaq (Yj (zw (yd yw (yd yw (yd yw (yd yw (yd yw (yd yw yt))))))) ⟨_,rfl,zV o_law_roll (hr.mono (by decide)) rfl (pq 0 rfl) (by simp) yw (by decide) (by decide) fun r2 g1 g2=>?_⟩)⟩)));obtain⟨w2,w0,w3,hw2⟩:=yh5 g1 g2;refine⟨r2,_,rfl,hw2,w2,rfl,⟨_,rfl,by omega,by omega,?_⟩⟩;refine⟨fun j Γ Ω=>∃ (b:List Str) (x7 x8:Option D),b.length=j/\(∀ x∈b,x∈hs++ws)/\Γ=[some (.raw (.ref a)),some (.lst (yB hs)),some (.lst (yB ws)),some (.bl fb),some (.raw (.ref lo)),some (.int (i:Int)),some (Ye b),x7,x8]/\Ω=[(lo,qg K (bs.map Ye)),(a,Jr)],⟨[],_,_,rfl,fun x hx=>absurd hx (by simp),rfl,rfl⟩,?_,?_⟩
  ·rintro j d Γ Ω hd ⟨b,x7,x8,hbj,hbx,rfl,rfl⟩;obtain⟨hj,rfl⟩:=xD hd;refine⟨_,(Yc (i:=7) Qc.nd rfl (.inl rfl)),?_⟩;refine YL (i:=8) Qc.nd rfl (.inl rfl) (WV (pq 1 rfl) (pq 2 rfl) ?_) ?_
   ·rw[Yo,Yo,sizeLine_eq];omega
   refine ydl (fun Γ Ω=>∃ so:List Str,so≠[]/\so.length<=7/\(∀ x∈so,x∈hs++ws)/\Γ=[some (.raw (.ref a)),some (.lst (yB hs)),some (.lst (yB ws)),some (.bl fb),some (.raw (.ref lo)),some (.int (i:Int)),some (Ye b),some (.int (j:Int)),some (.lst (yB so))]/\Ω=[(lo,qg K (bs.map Ye)),(a,Jr)]) (PW3.t (Vd (Y8 (vK (pq 5 rfl) yw)) fun _=>(ZG (zh (pq 3 rfl))))) ?_ ?_ ?_
   ·intro _;refine YL (i:=8) Qc.nd rfl (.inl rfl) (pq 2 rfl) ?_;exact yV ⟨ws,hw,by omega,fun x hx=>yN _ hx,rfl,rfl⟩
   ·intro _;refine yV ⟨hs++ws,by simp[hw],by rw[yy];omega,fun x hx=>hx,?_,rfl⟩;rw[show yB (hs++ws)=yB hs++yB ws by unfold yB;rw[yr]];rfl
   ·rintro Γ Ω ⟨so,s0,s1,s2,rfl,rfl⟩;have sp:0<so.length:=YU.mpr s0;refine QM (i:=6) Qc.nd rfl (.inl rfl) (yhO ydT (Yj (pq 6 rfl) (yfe (jY (yaq (Yj (pq 8 rfl) ⟨_,rfl,zV o_law_roll (hr.mono (by decide)) rfl (pq 0 rfl) (by simp) (ze z.len rfl (pq 8 rfl)) (by rw[Yo];omega) (by rw[Yo];omega) fun r3 c1 c2=>?_⟩))))));rw[Yo] at c2;obtain⟨x,hx,ex⟩:=yfT c1 c2;refine⟨r3,_,rfl,ex,ZF yt ⟨by (simp only[ym,Yq];decide),_,ych (by rw[ye,hbj,sizeLine_eq];simp;omega),?_⟩⟩;refine yV ⟨b++[x],some (.int (j:Int)),some (.lst (yB so)),by rw[yy,hbj];rfl,fun y hy=>?_,?_,rfl⟩
    ·rcases yY.mp hy with q|q
     ·exact hbx y q
     ·rw[yu.mp q];exact s2 x hx
    ·unfold Ye;rw[yr];rfl
  ·rintro Γ Ω ⟨b,x7,x8,hbj,hbx,rfl,rfl⟩;rw[wu] at hbj;have bo:XR (hs++ws) b:=⟨by omega,by omega,hbx⟩
   refine ZW (yaB (Γ':=[some (.raw (.ref a)),some (.lst (yB hs)),some (.lst (yB ws)),some (.bl fb),some (.lst (bs.map Ye)),some (.int (i:Int)),some (Ye b),x7,x8]) (Y8 (ZI hr.units (pq 6 rfl) (pq 4 rfl) (.inl rfl) ?_)) (JS (i:=4) jm rfl (yp ..) v7) ⟨fun hk=>?_,fun hk=>?_⟩)
   ·exact xF
   ·rw[uT] at hk;have hn:b∉bs:=by simpa using hk
    refine JL (i:=4) rfl (.inl rfl) rfl (pq 6 rfl) (by rw[ye,sizeLine_eq];omega) ?_;refine yV (yV ⟨bs++[b],_,_,_,_,by rw[yy];exact qN hbl,fun _=>by simp,?_,fun c hc=>?_,rfl,?_⟩)
    ·rw[Yd];exact⟨hbn,by simp,fun x hx y hy e=>hn (by rw[←yu.mp hy,←e];exact hx)⟩
    ·rcases yY.mp hc with q|q
     ·exact hbo c q
     ·rw[yu.mp q];exact bo
    ·rw[yr];rfl
   ·rw[uT] at hk;have hn:b∈bs:=by simpa using hk
    exact yV (yV ⟨bs,_,_,_,_,by omega,fun _=>List.ne_nil_of_mem hn,hbn,hbo,rfl,rfl⟩)
 ·rintro Γ Ω ⟨bs,x5,x6,x7,x8,hbl,hb0,hbn,hbo,rfl,rfl⟩;rw[wu] at hbl hb0;refine jv (i:=4) rfl ?_;exact Y4 (pq 4 rfl) ⟨⟨hs,ws,fb,bs,rfl,rfl,hb0 (by omega),by omega,hbn,hbo⟩,rfl⟩
variable (P w K mg base) in
abbrev ycZ:Prop:=OkF P w K mg base CX0 34 "_law_rules" ["_law_dice_here", "_law_heads", "_law_words"] (spD K 3 ybq yew)
theorem US (z:Zs mg)(d:yZ K mg "_law_rules" jS ["_law_dice_here", "_law_heads", "_law_words"])(o_law_roll:kL P w K mg base)(o_law_bodies:ydG P w K mg base)
  (o_law_share:X0 P w K mg base):ycZ P w K mg base:=by
 refine W9 d QS rfl fun f cdv A outer s H E hr a ds hC B=>?_;obtain⟨hs,ws,rfl,hw,hl,wl⟩:=hC;refine vM (i:=3) QS.nd rfl (.inl rfl) (zg yt) fun lo=>?_;refine j8 PassesOwn.never rfl (Qk (pq 1 rfl)) (fun i Γ Ω=>∃ (ps:List (Str×Grp)) (x4 x5 x6 x7 x8:Option D),ps.map (·.1)=hs.take i/\(∀ p∈ps,GrpOk (hs++ws) p.2)/\Γ=[some (.raw (.ref a)),some (.lst (yB hs)),some (.lst (yB ws)),some (.raw (.ref lo)),x4,x5,x6,x7,x8]/\Ω=[(lo,qg K (yJ (jW ps))),(a,Jr)]) ⟨[],_,_,_,_,_,rfl,fun p hp=>absurd hp (by simp),rfl,rfl⟩ ?_ ?_
 ·rintro i d Γ Ω hd ⟨ps,x4,x5,x6,x7,x8,hp,hg,rfl,rfl⟩;obtain⟨h,hh,rfl⟩:=Qx hd;have hi:i<hs.length:=(al_getElem?_eq_some_iff.mp hh).1;have pl:ps.length<=4:=by have:=congrArg List.length hp;rw[ye,yS] at this;omega
  have fl:=K4 (ps:=ps) fun p hp=>(hg p hp).le;refine⟨_,(Yc (i:=4) QS.nd rfl (.inl rfl)),?_⟩;refine QM (i:=5) QS.nd rfl (.inl rfl) (XU o_law_bodies (hr.mono (by decide)) rfl (pqc 0 rfl) (by simp) (jY (Yj (pq 1 rfl) (jY (Yj (pq 2 rfl) (jY (yg5 yeL (zV o_law_roll (hr.mono (by decide)) rfl (pqc 0 rfl) (by simp) yw (by decide) (by decide) fun r h1 h2=>Yj yw ⟨decide (0<r),uy (g:=fun i j=>decide (j<i)),ZF yt ⟨rfl,rfl,⟨hs,ws,_,rfl,hw,hl,wl⟩,fun d hd=>?_⟩⟩))))))));obtain⟨hs',ws',fb',bs,e1,rfl,hb⟩:=hd;simp only[List.cons.injEq,D.lst.injEq,and_true] at e1;obtain⟨e1,e2,-⟩:=e1;cases jb e1;cases jb e2;refine yfO (i:=6) (SX:=yj jS) (XN:=["_law_dice_here", "_law_heads", "_law_words", "_law_out", "_law_head", "_law_bodies_here", "_law_weights", "_law_body", "_law_weight"]) (N:=["_law_body", "_law_dice_here"]) (nt:=1) (caps:=[0]) ⟨rfl,by decide +kernel,by decide +kernel,by decide +kernel,rfl,by decide +kernel⟩ QS.nd rfl (.inl rfl) (ygj (Qk (pq 5 rfl)) ?_);refine⟨fun m gs Ω'=>m<=3/\∃ ns:List Int,ns.length=m/\gs=ns.map D.int/\(∀ x∈ns,1<=x/\x<=5)/\Ω'=[(lo,qg K (yJ (jW ps))),(a,Jr)],⟨by omega,[],rfl,rfl,fun x hx=>absurd hx (by simp),rfl⟩,?_,?_,?_⟩
  ·rintro m gs Ω' ⟨hm,ns,hn,rfl,_⟩;rw[ye,hn,sizeLine_eq];omega
  ·rintro c m d gs Ω' hd ⟨hm,ns,hn,rfl,hx,rfl⟩;have hm':m<bs.length:=by have:=(al_getElem?_eq_some_iff.mp hd).1;rwa [ye] at this
   have hb3:=hb.2.1;refine⟨_,(Yc (i:=0) (show List.Nodup (α:=Str) ["_law_body", "_law_dice_here"] by decide +kernel) rfl (.inl rfl)),(Sub.set rfl),fun q=>uM (Yj yw ⟨_,rfl,zV o_law_roll (hr.mono (by decide)) rfl (pqc 1 rfl) (by simp) yw (by decide) (by decide) fun r h1 h2=>⟨r,rfl,_,List.Perm.refl _,by omega,ns++[1+r],by rw[yy,hn];rfl,by rw[yr];rfl,fun x hx'=>?_,rfl⟩⟩)⟩;rcases yY.mp hx' with y|y
   ·exact hx x y
   ·rw[yu.mp y];omega
  ·rintro lp gs Ω' ⟨-,ns,hn,rfl,hx,rfl⟩;rw[ye] at hn;refine jv (i:=6) rfl ?_;have gk:=yiz hb hn hx;refine j8 PassesOwn.never rfl (yeR z.zip rfl (pq 5 rfl) (pq 6 rfl)) (fun j Γ Ω=>∃ x7 x8:Option D,Γ=[some (.raw (.ref a)),some (.lst (yB hs)),some (.lst (yB ws)),some (.raw (.ref lo)),some (.str h),some (.lst (bs.map Ye)),some (.lst (ns.map D.int)),x7,x8]/\Ω=[(lo,qg K (yJ (jW ps++grp h (((bs.zip ns).map fun p=>(p.1,Rat.divInt p.2 ns.sum)).take j)))),(a,Jr)]) ⟨_,_,rfl,by simp[grp]⟩ ?_ ?_
   ·rintro j d Γ Ω hd ⟨x7,x8,rfl,rfl⟩;obtain⟨b,n,hbn,rfl⟩:=yb6 hd;have hj:j<(bs.zip ns).length:=(al_getElem?_eq_some_iff.mp hbn).1;have hnm:=hx n (Qd (al_mem_of_getElem? hbn)).2;have hw0:0<ns.sum:=by
     have:=yeb hx;have b0:0<bs.length:=YU.mpr hb.1;omega
    have gl:=gk.le;refine⟨_,(kI rfl (QL (Yc (i:=7) QS.nd rfl (.inl rfl)) (QL (Yc (i:=8) QS.nd rfl (.inl rfl)) Z9))),?_⟩;refine JL (i:=3) rfl (.inl rfl) rfl (QJ (yd (pq 4 rfl) (yd (pq 7 rfl) (yd (Yi (d:=sh (Rat.divInt n ns.sum)) o_law_share (hr.mono (by decide)) rfl (yd (pq 8 rfl) (yd (yjP rfl z.sum rfl (pq 6 rfl)) yt)) ⟨n,ns.sum,rfl,rfl,by omega,hw0⟩) yt)))) ?_ ?_
    ·rw[Yt,yy,sizeLine_eq];unfold grp;rw[ye,yS];omega
    ·refine yV ⟨_,_,rfl,?_⟩;rw[yW (l:=(bs.zip ns).map fun p=>(p.1,Rat.divInt p.2 ns.sum)) (x:=(b,Rat.divInt n ns.sum)) (by rw[al_getElem?_map,hbn];rfl),xp];rfl
   ·rintro Γ Ω ⟨x7,x8,rfl,rfl⟩;refine yV ⟨ps++[(h,(bs.zip ns).map fun p=>(p.1,Rat.divInt p.2 ns.sum))],_,_,_,_,_,?_,fun p hp'=>?_,rfl,?_⟩
    ·rw[yr,hp,yW hh];rfl
    ·rcases yY.mp hp' with q|q
     ·exact hg p q
     ·rw[yu.mp q];exact gk
    ·rw[ybN,List.take_of_length_le (by rw[ye];exact yg _)];unfold jW
     rw[Y6];simp
 ·rintro Γ Ω ⟨ps,x4,x5,x6,x7,x8,hp,hg,rfl,rfl⟩;rw[Yo,yG] at hp;refine jv (i:=3) rfl ?_;exact Y4 (pq 3 rfl) ⟨⟨hs,ws,ps,rfl,rfl,hp,hg⟩,rfl⟩
variable (P w K mg base) in
abbrev yeH:Prop:=OkF P w K mg base CX0 35 "_law_made" ["_law_cell", "_law_other", "_law_most"] (v0 K)
theorem WC (z:Zs mg)(d:yZ K mg "_law_made" JQ ["_law_cell", "_law_other", "_law_most"])(o_law_symbols:yeM P w K mg base)(o_law_dice:xN P w K mg base)(o_law_roll:kL P w K mg base)
  (o_law_rules:ycZ P w K mg base):yeH P w K mg base:=by
 refine yfF d Js rfl fun f cdv A outer s H E hr c o m h1 h2 B hB=>?_;refine YL (i:=3) Js.nd rfl (.inl rfl) (Yi (d:=.lst (yB ((List.range (m+3)).map (ZS o)))) o_law_symbols (hr.mono (by decide)) rfl (yd (pq 1 rfl) (yd (Jg (pq 2 rfl) yw) yt)) ?_) ?_
 ·exact⟨o,m+3,by push_cast;rfl,rfl,by omega⟩
 have sl:((List.range (m+3)).map (ZS o)).length=m+3:=by simp
 have nd:=XF (c:=o) (n:=m+3) (by omega);have sy:∀ x∈(List.range (m+3)).map (ZS o),Za x:=fun x hx=>by
  obtain⟨k,_,rfl⟩:=yo.mp hx;exact yh3 o k
 generalize (List.range (m+3)).map (ZS o)=ss at sl nd sy;refine QM (i:=4) Js.nd rfl (.inl rfl) (ydC o_law_dice (hr.mono (by decide)) rfl (pq 0 rfl) fun l=>?_);refine QM (i:=5) Js.nd rfl (.inl rfl) (ygL (pq 3 rfl) (uM (Yj yw ⟨_,rfl,zV o_law_roll (hr.mono (by decide)) rfl (pq 4 rfl) (by simp) (pq 2 rfl) (by omega) (by omega) fun r g1 g2=>⟨r,rfl,_,rfl,?_⟩⟩)));obtain⟨n,rfl⟩:=Yz g1;rw[show(1:Int)+((n:Nat):Int)=((1+n:Nat):Int) by push_cast;rfl,kH (by rw[Yo];omega),u0];refine QM (i:=6) Js.nd rfl (.inl rfl) (WJ (pq 3 rfl) (pq 2 rfl) (uM (Yj (Jg (pq 2 rfl) yw) ⟨_,rfl,zV o_law_roll (hr.mono (by decide)) rfl (pq 4 rfl) (by simp) yw (by decide) (by decide) fun r2 g3 g4=>⟨r2,rfl,_,rfl,?_⟩⟩)));obtain⟨n2,rfl⟩:=Yz g3;rw[show(m:Int)+1+((n2:Nat):Int)=((m+1+n2:Nat):Int) by push_cast;rfl,yfB (by rw[Yo];omega) (by rw[Yo];omega),ybH,u0,show m+1+n2 - m=1+n2 by omega];have nd2:(ss.take (1+n)++(ss.drop m).take (1+n2)).Nodup:=by
  rw[Yd];refine⟨nd.sublist (Qo _ _),nd.sublist ((Qo _ _).trans (List.drop_sublist _ _)),fun x hx y hy e=>?_⟩;subst e;have hy':=QV hy;have hx':x∈ss.take m:=(List.take_subset_take_left ss (by omega)) hx;have nd':=nd;rw[←List.take_append_drop m ss,Yd] at nd';exact nd'.2.2 x hx' x hy' rfl
 have sy2:∀ x∈ss.take (1+n)++(ss.drop m).take (1+n2),Za x:=fun x hx=>by
  rcases yY.mp hx with q|q
  ·exact sy x (QV q)
  ·exact sy x (List.mem_of_mem_drop (QV q))
 have l1:(ss.take (1+n)).length=1+n:=by rw[yS,sl];omega
 have l2:((ss.drop m).take (1+n2)).length=1+n2:=by rw[yS,jd,sl];omega
 generalize ss.take (1+n)=hs at nd2 sy2 l1;generalize (ss.drop m).take (1+n2)=ws at nd2 sy2 l2;have h0:hs≠[]:=fun e=>by rw[e,Yq] at l1;omega
 have w0:ws≠[]:=fun e=>by rw[e,Yq] at l2;omega
 refine JX (yfe (jY (Yj (pq 5 rfl) (jY (Yj (pq 6 rfl) (jY (XU o_law_rules (hr.mono (by decide)) rfl (pq 4 rfl) (by simp) (ZF (yd (pq 5 rfl) (yd (pq 6 rfl) yt)) ⟨rfl,rfl,⟨hs,ws,rfl,w0,by omega,by omega⟩,fun d hd=>ZF yt ⟨by (simp only[ym,Yq];decide),?_⟩⟩))))))));obtain⟨hs',ws',ps,e1,rfl,hp,hg⟩:=hd;simp only[List.cons.injEq,D.lst.injEq,and_true] at e1;cases jb e1.1;cases jb e1.2;exact⟨hs,ws,jW ps,yfI nd2 sy2 h0 w0 (by omega) (by omega) hp hg,by omega,rfl⟩
variable (P w K mg base) in
abbrev yc9:Prop:=OkF P w K mg base CX0 3 "_law_row" ["_law_cell", "_law_words", "_law_most"] (spR K 3 yhK ygY)
theorem Xy (z:Zs mg)(d:yZ K mg "_law_row" JG ["_law_cell", "_law_words", "_law_most"])(o_law_dice:xN P w K mg base)(o_law_roll:kL P w K mg base):yc9 P w K mg base:=by
 refine yii d kM rfl fun f cdv A outer s H E hr ds hC B hB=>?_;obtain⟨c,ws,m,rfl,w0,wl,m1,m5⟩:=hC;have wp:0<ws.length:=YU.mpr w0;refine QM (i:=3) kM.nd rfl (.inr rfl) (ydC o_law_dice (hr.mono (by decide)) rfl (pq 0 rfl) fun l=>?_);refine JX (ycp z.tuple rfl (V3.frozen (yem (SX:=yj JG) (XN:=["_law_cell", "_law_words", "_law_most", "_law_dice_here"]) (N:=["_law_k", "_law_words", "_law_dice_here"]) (nt:=1) (caps:=[1,3]) ⟨rfl,by decide +kernel,by decide +kernel,by decide +kernel,rfl,by decide +kernel⟩ (VB z.range rfl (uM (Yj yw ⟨_,rfl,zV o_law_roll (hr.mono (by decide)) rfl (pqc 3 rfl) (by simp) (pq 2 rfl) (by omega) (by omega) fun r h1 h2=>⟨r,rfl,⟨_,rfl,by omega,by omega,?_⟩⟩⟩))))));refine⟨fun j gs Ω'=>j<=5/\∃ row:List Str,row.length=j/\gs=row.map D.str/\(∀ x∈row,x∈ws)/\Ω'=[(l,Jr)],⟨by omega,[],rfl,rfl,fun x hx=>absurd hx (by simp),rfl⟩,?_,?_,?_⟩
 ·rintro j gs Ω' ⟨hj,row,hl,rfl,_⟩;rw[ye,hl,sizeLine_eq];omega
 ·rintro cc j d gs Ω' hd ⟨hj,row,hl,rfl,hx,rfl⟩;obtain⟨hi,rfl⟩:=xD hd;refine⟨_,(Yc (i:=0) (show List.Nodup (α:=Str) ["_law_k", "_law_words", "_law_dice_here"] by decide +kernel) rfl (.inl rfl)),(Sub.set rfl),fun q=>yaq (Yj (pqc 1 rfl) ⟨_,rfl,zV o_law_roll (hr.mono (by decide)) rfl (pqc 2 rfl) (by simp) (ze z.len rfl (pqc 1 rfl)) (by rw[Yo];omega) (by rw[Yo];omega) fun r3 c1 c2=>?_⟩)⟩;rw[Yo] at c2;obtain⟨x,hx',ex⟩:=yfT c1 c2;refine⟨r3,_,rfl,ex,_,List.Perm.refl _,by omega,row++[x],by rw[yy,hl];rfl,by rw[yr];rfl,fun y hy=>?_,rfl⟩;rcases yY.mp hy with q|q
  ·exact hx y q
  ·rw[yu.mp q];exact hx'
 ·rintro a gs Ω' ⟨-,row,hl,rfl,hx,rfl⟩;rw[wu] at hl;exact⟨a,_,_,rfl,rfl,_,rfl,yhk (by omega) (by omega) hx⟩
end
section
variable {P:Program}{w:World}{K:W.Frag}{mg:Str->Option Value}{base:Heap}{C_Grammar C_Sums:Addr}
variable (P w K mg base) in
abbrev ycN:Prop:=OkF P w K mg base CX0 2 "_law_flat" ["_law_rules_here", "_law_heads", "_law_words"] (spP K 3 yhA)
theorem WR (z:Zs mg)(d:yZ K mg "_law_flat" jH ["_law_rules_here", "_law_heads", "_law_words"])  : ycN P w K mg base:=by
 refine YD d jO rfl fun f cdv A outer s H E hr ds r hC B hB=>?_;obtain⟨hs,ws,rs,w0,rfl,rfl,hw,hl,rl,hb⟩:=hC;have aw:atI (yB ws) 0=some (.str w0):=by
  refine j7 (j:=0) ?_;unfold yB;rw[al_getElem?_map,hw];rfl
 refine YL (i:=3) jO.nd rfl (.inl rfl) (zw yt) ?_;refine j8 PassesOwn.never rfl (Qk (pqc 1 rfl)) (fun i Γ Ω=>∃ x4 x5,Γ=[some (.lst (yJ rs)),some (.lst (yB hs)),some (.lst (yB ws)),some (.lst (yJ (JR hs w0 rs (hs.take i)))),x4,x5]/\Ω=[]) ⟨_,_,rfl,rfl⟩ ?_ ?_
 ·rintro i d Γ Ω hd ⟨x4,x5,rfl,rfl⟩;obtain⟨h,hh,rfl⟩:=Qx hd;have hi:i<hs.length:=(al_getElem?_eq_some_iff.mp hh).1;refine⟨_,(Yc (i:=4) jO.nd rfl (.inr rfl)),?_⟩;refine YL (i:=5) jO.nd rfl (.inr rfl) (PF3.p (QO (SX:=yj jH) (XN:=["_law_rules_here", "_law_heads", "_law_words", "_law_out", "_law_head", "_law_some"]) (N:=["_law_rule", "_law_heads", "_law_head"]) (nt:=1) (caps:=[1,4]) (pre:=(fun i=>yJ (z0 hs (rs.take i) h))) ⟨rfl,by decide +kernel,by decide +kernel,by decide +kernel,rfl,by decide +kernel⟩ (Qk (pq 0 rfl)) ?_ ?_ ?_)) ?_
  ·intro i hi;rw[Yt,sizeLine_eq];have:(z0 hs (rs.take i) h).length<=(rs.take i).length:=y9 _ _;rw[yS] at this;omega
  ·rfl
  ·intro c i d hd;obtain⟨r,hr',rfl⟩:=qT hd;have rb:=hb r (al_mem_of_getElem? hr');have ab:atI (r.2.1.map D.str) 0=some (.str (b0 r)):=by
    unfold b0
    match q:r.2.1 with
    |[]=>rw[q] at rb;simp at rb
    |x::xs=>exact j7 (j:=0) rfl
   have gl:decide ((1:Int)<((r.2.1.map D.str).length:Nat))=decide (1<r.2.1.length):=by rw[ye];exact decide_eq_decide.mpr (by omega)
   cases q:(decide (r.1=h)&&(decide (1<r.2.1.length)||!decide (b0 r∈hs))) with
   |true=>
    refine⟨_,(Yc (i:=0) (show List.Nodup (α:=Str) ["_law_rule", "_law_heads", "_law_head"] by decide +kernel) rfl (.inl rfl)),(Sub.set rfl),.inl ⟨Jf r,(yam (PW3.t (Vd (Y8 (Kj (yX (pq 0 rfl) yw rfl) (pqc 2 rfl))) fun _=>(ZG (PW3.t (ybm (Y8 (Xi (jD z.len rfl (yX (pq 0 rfl) yw rfl)) yw)) fun _=>(UL (Y8 (ZI hr.units (yX (d:=.str (b0 r)) (yX (pq 0 rfl) yw rfl) yw ?_) (pqc 1 rfl) (.inl rfl) ?_)))))))) ?_),(pq 0 rfl),?_⟩⟩
    ·exact ab
    ·exact j3
    ·rw[jA,gl];exact q
    ·show yJ (z0 hs (rs.take (i+1)) h)=_;unfold z0 yJ;rw[yW hr',YS,y4 (p:=fun r:yF=>decide (r.1=h)&&(decide (1<r.2.1.length)||!decide (b0 r∈hs))) q,yr];rfl
   |false=>
    refine⟨_,(Yc (i:=0) (show List.Nodup (α:=Str) ["_law_rule", "_law_heads", "_law_head"] by decide +kernel) rfl (.inl rfl)),(Sub.set rfl),.inr ⟨(yam (PW3.t (Vd (Y8 (Kj (yX (pq 0 rfl) yw rfl) (pqc 2 rfl))) fun _=>(ZG (PW3.t (ybm (Y8 (Xi (jD z.len rfl (yX (pq 0 rfl) yw rfl)) yw)) fun _=>(UL (Y8 (ZI hr.units (yX (d:=.str (b0 r)) (yX (pq 0 rfl) yw rfl) yw ?_) (pqc 1 rfl) (.inl rfl) ?_)))))))) ?_),?_⟩⟩
    ·exact ab
    ·exact j3
    ·rw[jA,gl];exact q
    ·show yJ (z0 hs (rs.take (i+1)) h)=_;unfold z0 yJ;rw[yW hr',YS,y3 (p:=fun r:yF=>decide (r.1=h)&&(decide (1<r.2.1.length)||!decide (b0 r∈hs))) (by rw[q];decide)];simp
  rw[Yt,yG];refine ydl (fun Γ Ω=>Γ=[some (.lst (yJ rs)),some (.lst (yB hs)),some (.lst (yB ws)),some (.lst (yJ (JR hs w0 rs (hs.take i)))),some (.str h),some (.lst (yJ (Qg hs w0 rs h)))]/\Ω=[]) (Y8 (WM hr.units (pqc 5 rfl) (zw yt) ?_ ?_)) ?_ ?_ ?_
  ·rw[kin];exact yet
  ·exact XO
  ·intro hk;rw[W7] at hk;have hk:=of_decide_eq_true hk;refine YL (i:=5) jO.nd rfl (.inr rfl) (zw (yd (QJ (yd (pqc 4 rfl) (yd (QJ (yd (ZE (d:=.str w0) (pq 2 rfl) yw ?_) yt)) (yd (jZ (d:=sh 1) (QJ (yd yw (yd yw yt))) rfl) yt)))) yt)) ?_
   ·exact aw
   refine yV ⟨?_,rfl⟩;unfold Qg;rw[yc hk];rfl
  ·intro hk;rw[W7] at hk;have hk:=of_decide_eq_false hk;refine yV ⟨?_,rfl⟩;unfold Qg;rw[yb hk];rfl
  ·rintro Γ Ω ⟨rfl,rfl⟩;have tl:=wL (hs:=hs) (w0:=w0) (rs:=rs) (h:=h);have tp:0<(Qg hs w0 rs h).length:=YU.mpr KR;have fl:=uw (hs:=hs) (w0:=w0) (rs:=rs) (ks:=hs.take i);rw[yS] at fl;have e1:JR hs w0 rs (hs.take (i+1))=JR hs w0 rs (hs.take i)++grp h (jt hs w0 rs h):=by
    unfold JR jW
    rw[yW hh,yr,Y6];simp
   have fm:min i hs.length*(rs.length+1)<=4*13:=Y1 (by omega) (by omega);refine YL (i:=3) jO.nd rfl (.inl rfl) (WV (pq 3 rfl) (PF3.p (QO (SX:=yj jH) (XN:=["_law_rules_here", "_law_heads", "_law_words", "_law_out", "_law_head", "_law_some"]) (N:=["_law_rule", "_law_head", "_law_some"]) (nt:=1) (caps:=[4,5]) (pre:=(fun i=>yJ (grp h (((Qg hs w0 rs h).take i).map fun r=>(r.2.1,Rat.divInt 1 ((Qg hs w0 rs h).length:Int)))))) ⟨rfl,by decide +kernel,by decide +kernel,by decide +kernel,rfl,by decide +kernel⟩ (Qk (pqc 5 rfl)) ?_ ?_ ?_)) ?_) ?_
   ·intro i hi;rw[Yt,sizeLine_eq];unfold grp;rw[ye,ye,yS];omega
   ·rfl
   ·intro c i d hd;obtain⟨r,hr',rfl⟩:=qT hd;refine⟨_,(Yc (i:=0) (show List.Nodup (α:=Str) ["_law_rule", "_law_head", "_law_some"] by decide +kernel) rfl (.inl rfl)),(Sub.set rfl),.inl ⟨Jf (h,r.2.1,Rat.divInt 1 ((Qg hs w0 rs h).length:Int)),Ji,(jZ (QJ (yd (pqc 1 rfl) (yd (yX (pq 0 rfl) yw rfl) (yd (QJ (yd yw (yd (ze z.len rfl (pqc 2 rfl)) yt))) yt)))) ?_),?_⟩⟩
    ·unfold Jf;rw[ygx tp,Yt]
    ·show yJ (grp h (((Qg hs w0 rs h).take (i+1)).map fun r=>(r.2.1,Rat.divInt 1 ((Qg hs w0 rs h).length:Int))))=_;unfold grp yJ;rw[yW hr',yr,yr,yr];rfl
   ·rw[Yt,Yt,sizeLine_eq,Yt,yG];unfold grp;rw[ye,ye];omega
   ·rw[Yt,yG];refine yV ⟨some (.str h),some (.lst (yJ (Qg hs w0 rs h))),?_,rfl⟩;rw[e1];unfold yJ jt;rw[yr];rfl
 ·rintro Γ Ω ⟨x4,x5,rfl,rfl⟩;rw[Yo,yG];exact Y4 (pq 3 rfl) rfl
theorem VN (z:Zs mg)(d:yZ K mg "_law_rests" Q8 ["_law_box", "_law_body", "_law_i", "_law_j"])(o_law_timed:kZ P w K mg base){n k:Nat}(ot:OkF P w K mg base CX0 (40+6*n) "_law_trees" ["_law_box", "_law_symbol", "_law_i", "_law_j"] (vI K 4 (omQ P w K) (Wn n) uj))(ih:∀ m,k=m+1->OkF P w K mg base CX0 (41+6*n+m) "_law_rests" ["_law_box", "_law_body", "_law_i", "_law_j"] (vI K 4 (omQ P w K) (yal n m) xw)):OkF P w K mg base CX0 (40+6*n+k+1) "_law_rests" ["_law_box", "_law_body", "_law_i", "_law_j"] (vI K 4 (omQ P w K) (yal n k) xw):=by
 refine uu (k:=40+6*n+k) d Ja rfl yc4 fun f cdv A outer s H E hr t ds hC B=>?_;obtain⟨b,i,j,rfl,hij,hj,hbk,hk4,hn4,rc,ok⟩:=hC;refine JA (Y8 (WM hr.units (pq 1 rfl) (QJ yt) ?_ ?_)) ?_ ?_
 ·exact WH (b:=[])
 ·exact yQ KM (by decide)
 ·intro hk;rw[W0] at hk;have b0':b=[]:=of_decide_eq_true hk;subst b0';refine Y4 (ZE (d:=shL (if i<j then [] else [1])) (zw (yd (zw (yd (jZ (d:=sh 1) (QJ (yd yw (yd yw yt))) rfl) yt)) (yd (zw yt) yt))) (yfR z.int rfl (Zt (xT (pq 2 rfl) (pq 3 rfl)))) ?_) ⟨t,ygT (QTo.refl ok) ?_ ?_ ?_,fun p hp=>hp⟩
  ·by_cases e:i<j
   ·have e':(i:Int)<(j:Int):=by omega
    simp[e,e'];rfl
   ·have e':¬ (i:Int)<(j:Int):=by omega
    simp[e,e'];rfl
  ·split <;> simp
  ·intro q hq;split at hq
   ·cases hq
   ·rw[yu.mp hq];exact⟨by decide,fun m _=>wj.mono (by omega)⟩
  ·intro _;rfl
 ·intro hk;rw[W0] at hk;have b1:b≠[]:=of_decide_eq_false hk;obtain⟨x,xs,rfl⟩:=List.exists_cons_of_ne_nil b1;rw[ym] at hbk;obtain⟨k,rfl⟩:∃ k',k=k'+1:=⟨k - 1,by omega⟩
  have ir:=ih k rfl;have rl:=ok.rl;have g1:=yje (n:=n);have g4:=yit hn4;refine yV ?_;refine vM (i:=4) Ja.nd rfl (.inl rfl) (zg yt) fun lo=>?_;have fin:∀ (o:List Rat) (t':QSt),QTo t t'->o.length<=60->(∀ q∈o,0<=q/\∀ m,RC t.hs (x::xs) i j m->Sz ((x::xs).length*GG m+1) q)->(t'.mn=false->o=tR (tA t.hs t.row t.rs) (x::xs) i j)->xw t [.raw (.ref t.b),Ye (x::xs),.int (i:Int),.int (j:Int)] t' (shL o):=fun o t' a1 a2 a3 a4=>ygT a1 a2 a3 a4;refine za (YF (l₁:=omQ P w K t) (l₂:=[(lo,qg K [])])) ?_;refine j8 PassesOwn.never rfl (KN (n:=nP (xs.length+1) i j) (lo:=i+1) z.range rfl (Jg (pq 2 rfl) yw) (Jg (WY (pq 3 rfl) (jD z.len rfl (pq 1 rfl))) yw) ?_ ?_ ?_) (fun c Γ Ω=>∃ (o:List Rat) (t1:QSt) (x5 x6 x7:Option D),QTo t t1/\o.length<=60/\(∀ q∈o,0<=q/\∀ m,RC t.hs (x::xs) i j m->Sz ((x::xs).length*GG m+1) q)/\(t1.mn=false->o=(List.range c).flatMap fun c=>(tA t.hs t.row t.rs x i (i+1+c)).flatMap fun a=>(tR (tA t.hs t.row t.rs) xs (i+1+c) j).map fun b=>a*b)/\Γ=[some (.raw (.ref t.b)),some (Ye (x::xs)),some (.int (i:Int)),some (.int (j:Int)),some (.raw (.ref lo)),x5,x6,x7]/\Ω=omQ P w K t1++[(lo,qg K (o.map sh))]) ?_ ?_ ?_
  ·push_cast;omega
  ·rw[ye];unfold nP;simp only[ym];omega
  ·rw[ye];simp only[ym];omega
  ·exact⟨[],t,_,_,_,QTo.refl ok,by simp,(fun q hq=>by cases hq),(fun _=>rfl),rfl,rfl⟩
  ·rintro c d Γ Ω hd ⟨o,t1,x5,x6,x7,to1,ol,oz,oe,rfl,rfl⟩;obtain⟨hc,rfl⟩:=J3 hd;have hcj:i+1+c+xs.length<=j:=by unfold nP at hc;omega
   have e1:=to1.eq;have ok1:=to1.ok;refine⟨_,(Yc (i:=5) Ja.nd rfl (.inl rfl)),?_⟩;refine Zy PassesOwn.never rfl (zG (vm (t:=t1) (Ω4:=[(lo,qg K (o.map sh))]) ot (hr.mono (by omega)) rfl (yd (pq 0 rfl) (yd (yX (d:=.str x) (pq 1 rfl) yw (j7 (j:=0) rfl)) (yd (pq 2 rfl) (yd (pq 5 rfl) yt)))) ydu (List.Perm.refl _) ?_ fun t2 d hC=>?_))
   ·exact⟨x,i,i+1+c,by rw[e1.b],by omega,by rw[e1.row];omega,fun hx=>XX rc hcj (e1.hs▸hx),ok1⟩
   obtain⟨to2,hC⟩:=hC;obtain⟨L1,rfl,l1l,l1z,l1e⟩:=hC x i (i+1+c) (by rw[e1.b]);rw[e1.hs,e1.row,e1.rs] at l1e;rw[e1.hs] at l1z;refine⟨_,rfl,fun m Γ Ω=>∃ (o:List Rat) (t3:QSt) (x6 x7:Option D),QTo t2 t3/\o.length<=60/\(∀ q∈o,0<=q/\∀ m,RC t.hs (x::xs) i j m->Sz ((x::xs).length*GG m+1) q)/\(t3.mn=false->o=((List.range c).flatMap fun c=>(tA t.hs t.row t.rs x i (i+1+c)).flatMap fun a=>(tR (tA t.hs t.row t.rs) xs (i+1+c) j).map fun b=>a*b)++(L1.take m).flatMap fun a=>(tR (tA t.hs t.row t.rs) xs (i+1+c) j).map fun b=>a*b)/\Γ=[some (.raw (.ref t.b)),some (Ye (x::xs)),some (.int (i:Int)),some (.int (j:Int)),some (.raw (.ref lo)),some (.int ((i+1+c:Nat):Int)),x6,x7]/\Ω=omQ P w K t3++[(lo,qg K (o.map sh))],?_,?_,?_⟩
   ·refine⟨o,t2,_,_,QTo.refl to2.ok,ol,oz,fun z2=>?_,rfl,rfl⟩;rw[oe (to2.false z2)];simp
   ·rintro m d Γ Ω hd ⟨o,t3,x6,x7,to3,ol,oz,oe,rfl,rfl⟩;obtain⟨a,ha,rfl⟩:=kh hd;have az:=l1z a (al_mem_of_getElem? ha);have to23:=to1.trans (to2.trans to3);have e3:=to23.eq;refine⟨_,(Yc (i:=6) Ja.nd rfl (.inl rfl)),?_⟩;refine Zy PassesOwn.never rfl (zG (vm (t:=t3) (Ω4:=[(lo,qg K (o.map sh))]) ir (hr.mono (by omega)) rfl (yd (pq 0 rfl) (yd (jZ (d:=Ye xs) (wN (pq 1 rfl) (Vh yw) Vs ?_) ?_) (yd (pq 5 rfl) (yd (pq 3 rfl) yt)))) yc4 (List.Perm.refl _) ?_ fun t4 d hC=>?_))
    ·rintro⟨h1,_⟩;simp[HT.sIx] at h1
    ·exact congrArg D.tup yjl
    ·exact⟨xs,i+1+c,j,by rw[e3.b],by omega,by rw[e3.row];omega,by omega,by omega,hn4,by rw[e3.hs];exact UZ rc hcj,to23.ok⟩
    obtain⟨to4,hC⟩:=hC;obtain⟨L2,rfl,l2l,l2z,l2e⟩:=hC xs (i+1+c) j (by rw[e3.b]);rw[e3.hs,e3.row,e3.rs] at l2e;rw[e3.hs] at l2z;have to14:=to23.trans to4;obtain⟨sn4,mn4,e4,_⟩:=id to14;subst e4;refine⟨_,rfl,fun k' Γ Ω=>∃ (o':List Rat) (x7:Option D),o'.length<=60/\(∀ q∈o',0<=q/\∀ m,RC t.hs (x::xs) i j m->Sz ((x::xs).length*GG m+1) q)/\o'=o++(L2.take k').map (fun b=>a*b)/\Γ=[some (.raw (.ref t.b)),some (Ye (x::xs)),some (.int (i:Int)),some (.int (j:Int)),some (.raw (.ref lo)),some (.int ((i+1+c:Nat):Int)),some (sh a),x7]/\Ω=omQ P w K {t with sn:=sn4,mn:=mn4}++[(lo,qg K (o'.map sh))],?_,?_,?_⟩
    ·exact⟨o,_,ol,oz,by simp,rfl,rfl⟩
    ·rintro k' d Γ Ω hd ⟨o',x7,ol',oz',oe',rfl,rfl⟩;obtain⟨b,hb,rfl⟩:=kh hd;have bz:=l2z b (al_mem_of_getElem? hb);have abz:0<=a*b/\∀ m,RC t.hs (x::xs) i j m->Sz ((x::xs).length*GG m+1) (a*b):=⟨Zm az.1 bz.1,fun m hm=>(UP (az.2.mono (yhi hm hcj)) (bz.2 m (UZ hm hcj))).mono (by rw[ym,QP];omega)⟩
     have az2:=az.2.mono (yhi rc hcj);have bz2:=bz.2 n (UZ rc hcj);have xb:xs.length*GG n<=4*766:=Y1 (by omega) g4;refine⟨_,(Yc (i:=7) Ja.nd rfl (.inl rfl)),?_⟩;refine za (YF (l₁:=[(lo,qg K (o'.map sh))]) (l₂:=omQ P w K {t with sn:=sn4,mn:=mn4})) ?_;refine JL (i:=4) (d:=sh (a*b)) rfl (.inl rfl) rfl (Yi o_law_timed (hr.mono (by omega)) rfl (yd (pq 6 rfl) (yd (pq 7 rfl) yt)) ⟨a,b,_,_,rfl,rfl,az.1,bz.1,az2,bz2,by show _<=67108864;omega,by show _<=67108864;omega,trivial⟩) (by rw[ye,sizeLine_eq];omega) ?_;have em:o'.map sh++[sh (a*b)]=(o'++[a*b]).map sh:=by rw[yr];rfl
     rw[em];have oz2:∀ q∈o'++[a*b],0<=q/\∀ m,RC t.hs (x::xs) i j m->Sz ((x::xs).length*GG m+1) q:=fun q hq=>by
      rcases yY.mp hq with y|y
      ·exact oz' q y
      ·rw[yu.mp y];exact abz
     refine ZW (yei yeL (yhm z.len rfl (Yj (pq 4 rfl) ⟨lo,_,rfl,yp,Yj yw ⟨_,uy (g:=fun i j=>decide (j<i)),fun hk=>?_,fun hk=>?_⟩⟩)))
     ·have hk:=of_decide_eq_true hk;rw[ye] at hk;refine xg (k:=qj "many") hr.units (pq 0 rfl) jR (Yj ydH ⟨VT,uq {t with sn:=sn4,mn:=mn4},[(lo,qg K ((o'++[a*b]).map sh)),(t.s,ZR P w K t.s (snV sn4))],?_,by rw[sizeLine_eq];decide,?_⟩)
      ·exact List.Perm.swap ..
      rw[ydM,yfb];refine za (Ω':=(lo,qg K ((o'++[a*b]).map sh))::omQ P w K {t with sn:=sn4,mn:=true}) (List.Perm.swap ..) ?_;refine jv (i:=4) rfl ?_;refine Y4 (jZ (d:=shL ((o'++[a*b]).take 60)) (PF3.p (vi (pq 4 rfl) Vs (Vh yw))) ?_) ⟨{t with sn:=sn4,mn:=true},fin _ _ to14.many ?_ (fun q hq=>oz2 q (QV hq)) (fun y=>by cases y),fun p hp=>hp⟩
      ·unfold shL;rw[show(60:Int)=((60:Nat):Int) from rfl,kH (by rw[ye];omega),List.map_take]
      ·rw[yS];exact Nat.min_le_left _ _
     ·have hk:=of_decide_eq_false hk;rw[ye] at hk;refine yV (za (YF (l₁:=omQ P w K {t with sn:=sn4,mn:=mn4}) (l₂:=[(lo,qg K ((o'++[a*b]).map sh))])) (yV ⟨o'++[a*b],_,by omega,oz2,?_,rfl,rfl⟩));rw[yW hb,yr,oe',List.append_assoc];rfl
    ·rintro Γ Ω ⟨o',x7,ol',oz',oe',rfl,rfl⟩;rw[ye,yG] at oe';refine yV ⟨o',{t with sn:=sn4,mn:=mn4},_,_,to3.trans to4,ol',oz',fun z4=>?_,rfl,rfl⟩;rw[oe',oe (to4.false z4),l2e z4,yW ha,Y6,List.append_assoc];simp
   ·rintro Γ Ω ⟨o,t3,x6,x7,to3,ol,oz,oe,rfl,rfl⟩;rw[ye,yG] at oe;refine yV ⟨o,t3,_,_,_,to1.trans (to2.trans to3),ol,oz,fun z3=>?_,rfl,rfl⟩;rw[oe z3,Y9,Y6,l1e (to3.false z3)];simp
  ·rintro Γ Ω ⟨o,t1,x5,x6,x7,to1,ol,oz,oe,rfl,rfl⟩;rw[QX] at oe;refine za (YF (l₁:=[(lo,qg K (o.map sh))]) (l₂:=omQ P w K t1)) ?_;refine jv (i:=4) rfl ?_;exact Y4 (pq 4 rfl) ⟨t1,fin _ _ to1 ol oz fun z1=>(by rw[oe z1,tR]),fun p hp=>hp⟩
theorem vG (z:Zs mg)(d:yZ K mg "_law_rests" Q8 ["_law_box", "_law_body", "_law_i", "_law_j"])(o_law_timed:kZ P w K mg base){n:Nat}(ot:OkF P w K mg base CX0 (40+6*n) "_law_trees" ["_law_box", "_law_symbol", "_law_i", "_law_j"] (vI K 4 (omQ P w K) (Wn n) uj)):∀ k,OkF P w K mg base CX0 (41+6*n+k) "_law_rests" ["_law_box", "_law_body", "_law_i", "_law_j"] (vI K 4 (omQ P w K) (yal n k) xw)
 |0=>by
  have:=VN (k:=0) z d o_law_timed ot fun m h=>by omega
  rw[show 40+6*n+0+1=41+6*n+0 by omega] at this;exact this
 |k+1=>by
  have ih:=vG z d o_law_timed ot k;have:=VN (k:=k+1) z d o_law_timed ot fun m h=>by
   have e:m=k:=by omega
   subst e;exact ih
  rw[show 40+6*n+(k+1)+1=41+6*n+(k+1) by omega] at this;exact this
theorem VG (z:Zs mg)(d:yZ K mg "_law_trees" Qs ["_law_box", "_law_symbol", "_law_i", "_law_j"])(o_law_timed:kZ P w K mg base){n:Nat}(hn5:n<=5)(ih:∀ m,n=m+1->OkF P w K mg base CX0 (41+6*m+4) "_law_rests" ["_law_box", "_law_body", "_law_i", "_law_j"] (vI K 4 (omQ P w K) (yal m 4) xw)):OkF P w K mg base CX0 (39+6*n+1) "_law_trees" ["_law_box", "_law_symbol", "_law_i", "_law_j"] (vI K 4 (omQ P w K) (Wn n) uj):=by
 refine uu (k:=39+6*n) d QN rfl ydu fun f cdv A outer s H E hr t ds hC B=>?_;obtain⟨x,i,j,rfl,hij,hj,hxn,ok⟩:=hC;have rl:=ok.rl;refine ZW (yei (Uj hr.units) (Yj (pq 1 rfl) (ZA (k:=qj "heads") hr.units (pq 0 rfl) yp jR ycf ⟨_,xY j3,fun hk=>?_,fun hk=>?_⟩)))
 ·rw[jA] at hk;have hx:x∉t.hs:=by simpa using hk
  obtain⟨y,hy⟩:∃ y,t.row[i]?=some y:=⟨_,al_getElem?_eq_getElem (by omega)⟩
  have ay:atI (t.row.map D.str) (i:Int)=some (.str y):=j7 (by rw[al_getElem?_map,hy];rfl)
  have fin:uj t [.raw (.ref t.b),.str x,.int (i:Int),.int (j:Int)] t (shL (wrd t.row x i j)):=yhd (QTo.refl ok) (by unfold wrd;split <;> simp) (fun q hq=>by
   unfold wrd at hq;split at hq
   ·rw[yu.mp hq];exact⟨by decide,wj.mono (by unfold TB;rw[yb hx];exact yg _)⟩
   ·cases hq) fun _=>(yfD hx).symm
  refine JX (yaq (Yj (zw (yd (zw yt) (yd (zw (yd (jZ (d:=sh 1) (QJ (yd yw (yd yw yt))) rfl) yt)) yt))) ⟨_,rfl,yhp z.int rfl (yh9 (Yj (Zt (vK (pq 3 rfl) (Jg (pq 2 rfl) yw))) ⟨_,rfl,?_⟩))⟩));by_cases e:j=i+1
  ·have e':(j:Int)=(i:Int)+1:=by omega
   rw[yc (yI e')];refine yg5 ybb (yht (ZA (k:=qj "row") (d:=Ye t.row) hr.units (pq 0 rfl) yp jR ygn ⟨_,rfl,Yj (pq 2 rfl) ⟨_,_,rfl,ay,Yj (pq 1 rfl) ⟨decide (y=x),ydg,_,rfl,_,_,rfl,?_,t,fin,fun p hp=>hp⟩⟩⟩));unfold wrd;rw[hy];by_cases e2:y=x
   ·simp[e,e2];rfl
   ·simp[e,e2];rfl
  ·have e':¬ (j:Int)=(i:Int)+1:=by omega
   rw[yb (by simpa using e')];refine⟨_,rfl,_,_,rfl,?_,t,fin,fun p hp=>hp⟩;unfold wrd;simp[e];rfl
 ·rw[jA] at hk;have hx:x∈t.hs:=by simpa using hk
  have hjn:=hxn hx;obtain⟨n,rfl⟩:∃ n',n=n'+1:=⟨n - 1,by omega⟩
  have ir:=ih n rfl;have g4:=yit (n:=n) (by omega);refine yV ?_;refine YL (i:=4) (d:=kD (kQ (x,i,j))) QN.nd rfl (.inl rfl) (jZ (QJ (yd (pq 1 rfl) (yd (pq 2 rfl) (yd (pq 3 rfl) yt)))) rfl) ?_;have rd:∀ (t1:QSt) (l:List Rat) (x5 x6 x7 x8:Option D),QTo t t1->Zc t1.sn (x,i,j)=some l->W3 (cx0 P w K mg base ["_law_box", "_law_symbol", "_law_i", "_law_j", "_law_key", "_law_out", "_law_head", "_law_body", "_law_own"] "_law_trees" Qs f cdv A outer s H E) B [(YR Qs).getD 3 (.Pass ⟨0,0,0,0⟩)] [some (.raw (.ref t.b)),some (.str x),some (.int (i:Int)),some (.int (j:Int)),some (kD (kQ (x,i,j))),x5,x6,x7,x8] (omQ P w K t1) ⟨fun _ Ω=>∃ t',uj t [.raw (.ref t.b),.str x,.int (i:Int),.int (j:Int)] t' .non/\∀ p∈omQ P w K t',p∈Ω,fun r Ω=>∃ t',uj t [.raw (.ref t.b),.str x,.int (i:Int),.int (j:Int)] t' r/\∀ p∈omQ P w K t',p∈Ω,fun _ _=>False,fun _ _=>False⟩:=fun t1 l x5 x6 x7 x8 to1 hg=>by
   have m:=yc5 hg;have e1:=to1.eq;have vl:=to1.ok.vl _ m;refine JX (yfg hr.units (ZA (k:=qj "seen") (l:=t.b) hr.units (pq 0 rfl) (by rw[←e1.b];exact yp) jR vq ⟨_,rfl,Yj (pq 4 rfl) ⟨kQ (x,i,j),snV t1.sn,_,rfl,yf _ yp,by rw[KK,hg];rfl,t1,yhd to1 vl.1 (fun q hq=>⟨(vl.2 q hq).1,(vl.2 q hq).2.mono (by unfold TB;rw[yc hx];exact yg _)⟩) (fun z1=>?_),fun p hp=>hp⟩⟩));rw[to1.ok.ex z1 _ m,e1.hs,e1.row,e1.rs]
  cases hq:Zc t.sn (x,i,j) with
  |some l=>
   refine ZW (ZN hr.units (Yj (pq 4 rfl) ⟨kQ (x,i,j),rfl,ZA (k:=qj "seen") (l:=t.b) hr.units (pq 0 rfl) yp jR vq ⟨t.s,snV t.sn,rfl,yf _ yp,fun hk=>?_,fun _=>?_⟩⟩))
   ·rw[KK,hq] at hk;cases hk
   ·exact yV (rd t l _ _ _ _ (QTo.refl ok) hq)
  |none=>
   refine ZW (ZN hr.units (Yj (pq 4 rfl) ⟨kQ (x,i,j),rfl,ZA (k:=qj "seen") (l:=t.b) hr.units (pq 0 rfl) yp jR vq ⟨t.s,snV t.sn,rfl,yf _ yp,fun _=>?_,fun hk=>?_⟩⟩))
   ·refine YL (i:=5) (d:=shL []) QN.nd rfl (.inl rfl) (jZ (zw yt) rfl) ?_;refine Zy PassesOwn.never rfl (zG (ZA (k:=qj "rules") (l:=t.b) hr.units (pq 0 rfl) yp jR ybs ⟨_,rfl,fun m Γ Ω=>∃ (o:List Rat) (t1:QSt) (x6 x7 x8:Option D),QTo t t1/\o.length<=60*m/\(∀ q∈o,0<=q/\Sz (GG (j - i)) q)/\(t1.mn=false->o=(t.rs.take m).flatMap fun r=>if r.1=x/\r.2.1.length<=j - i then (tR (tA t.hs t.row t.rs) r.2.1 i j).map fun a=>r.2.2*a else [])/\Γ=[some (.raw (.ref t.b)),some (.str x),some (.int (i:Int)),some (.int (j:Int)),some (kD (kQ (x,i,j))),some (shL o),x6,x7,x8]/\Ω=omQ P w K t1,⟨[],t,_,_,_,QTo.refl ok,by simp,(fun q hq=>by cases hq),(fun _=>rfl),rfl,rfl⟩,?_,?_⟩))
    ·rintro m d Γ Ω hd ⟨o,t1,x6,x7,x8,to1,ol,oz,oe,rfl,rfl⟩;obtain⟨r,hr',rfl⟩:=qT hd;have hm:m<t.rs.length:=(al_getElem?_eq_some_iff.mp hr').1;have rm:=al_mem_of_getElem? hr';have kl:=ok.kl;have r4:=ok.body r rm;have rs5:=ok.sz r rm;have e1:=to1.eq;have rc:RC t.hs r.2.1 i j (j - i - 1):=⟨fun y e=>.inl ((ok.fl r rm).2 y e),fun _=>by omega⟩
     have rcn:RC t.hs r.2.1 i j n:=⟨fun y e=>.inl ((ok.fl r rm).2 y e),fun _=>by omega⟩
     have gj:GG (j - i)=4*GG (j - i - 1)+6:=by rw[show j - i=(j - i - 1)+1 by omega,GG];rfl
     have gl:decide (((r.2.1.map D.str).length:Int)<=(j:Int) - (i:Int))=decide (r.2.1.length<=j - i):=by rw[ye];exact decide_eq_decide.mpr (by omega)
     refine⟨_,(kI rfl (QL (Yc (i:=6) QN.nd rfl (.inl rfl)) (QL (Yc (i:=7) QN.nd rfl (.inl rfl)) (QL (Yc (i:=8) QN.nd rfl (.inr rfl)) Z9)))),?_⟩;refine JA (PW3.t (Vd (Y8 (Kj (pq 6 rfl) (pq 1 rfl))) fun _=>(ZG (Y8 (ykb (jD z.len rfl (pq 7 rfl)) (WY (pq 3 rfl) (pq 2 rfl))))))) ?_ ?_
     ·intro hk;rw[gl] at hk;simp only[Yg,Yh] at hk;refine QM (i:=5) QN.nd rfl (.inl rfl) (yhO ya7 (Yj (pq 5 rfl) (V3.frozen (yem (SX:=yj Qs) (XN:=["_law_box", "_law_symbol", "_law_i", "_law_j", "_law_key", "_law_out", "_law_head", "_law_body", "_law_own"]) (N:=["_law_one", "_law_own"]) (nt:=1) (caps:=[8]) ⟨rfl,by decide +kernel,by decide +kernel,by decide +kernel,rfl,by decide +kernel⟩ (zG (vm (t:=t1) (Ω4:=[]) ir (hr.mono (by omega)) rfl (yd (pq 0 rfl) (yd (pq 7 rfl) (yd (pq 2 rfl) (yd (pq 3 rfl) yt)))) yc4 (by rw[Yl]) ?_ fun t2 d hC=>?_))))))
      ·exact⟨r.2.1,i,j,by rw[e1.b],by omega,by rw[e1.row];omega,r4,yg _,by omega,by rw[e1.hs];exact rcn,to1.ok⟩
      obtain⟨to2,hC⟩:=hC;obtain⟨L,rfl,ll,lz,le⟩:=hC r.2.1 i j (by rw[e1.b]);rw[e1.hs,e1.row,e1.rs] at le;rw[e1.hs] at lz;have lz2:∀ q∈L,0<=r.2.2*q/\Sz (GG (j - i)) (r.2.2*q):=fun q hq=>⟨Zm rs5.1 (lz q hq).1,(UP rs5.2 ((lz q hq).2 _ rc)).mono (by
       have:r.2.1.length*GG (j - i - 1)<=4*GG (j - i - 1):=qt _ r4;omega)⟩
      refine⟨_,rfl,fun m' gs Ω'=>m'<=60/\gs=((L.take m').map fun b=>r.2.2*b).map sh/\Ω'=omQ P w K t2++[],⟨by omega,rfl,rfl⟩,?_,?_,?_⟩
      ·rintro m' gs Ω' ⟨hm',rfl,_⟩;rw[ye,ye,yS,sizeLine_eq];omega
      ·rintro cc m' d gs Ω' hd ⟨hm',rfl,rfl⟩;obtain⟨q,hq,rfl⟩:=kh hd;have hml:m'<L.length:=(al_getElem?_eq_some_iff.mp hq).1;have qz:=lz q (al_mem_of_getElem? hq);have qb:r.2.1.length*GG n<=4*766:=Y1 r4 g4;refine⟨_,(Yc (i:=0) (show List.Nodup (α:=Str) ["_law_one", "_law_own"] by decide +kernel) rfl (.inl rfl)),(Sub.set rfl),fun qq=>Yj (Yi (d:=sh (r.2.2*q)) o_law_timed (hr.mono (by omega)) rfl (yd (pqc 1 rfl) (yd (pq 0 rfl) yt)) ⟨r.2.2,q,_,_,rfl,rfl,rs5.1,qz.1,rs5.2,qz.2 n rcn,by decide,by show _<=67108864;omega,trivial⟩) ⟨_,List.Perm.refl _,by omega,?_,rfl⟩⟩;rw[yW hq,yr,yr];rfl
      ·rintro a gs Ω' ⟨-,rfl,rfl⟩;rw[ye,yG];refine⟨a,_,_,rfl,rfl,_,ydO ?_,?_⟩
       ·rw[ye,ye,ye,sizeLine_eq];omega
       ·rw[Yl];refine yV (yV ⟨o++L.map (fun b=>r.2.2*b),t2,some (.str r.1),some (Ye r.2.1),some (sh r.2.2),to1.trans to2,?_,fun q hq=>?_,fun z2=>?_,?_,rfl⟩)
        ·rw[yy,ye];omega
        ·rcases yY.mp hq with y|y
         ·exact oz q y
         ·obtain⟨b,hb,rfl⟩:=yo.mp y;exact lz2 b hb
        ·rw[oe (to2.false z2),yW hr',Y6,le z2];simp[hk]
        ·unfold shL;rw[yr];rfl
     ·intro hk;rw[gl] at hk;refine yV (yV ⟨o,t1,_,_,_,to1,by omega,oz,fun z1=>?_,rfl,rfl⟩);rw[oe z1,yW hr',Y6];have:¬ (r.1=x/\r.2.1.length<=j - i):=fun q=>by simp[q] at hk
      simp[this]
    ·rintro Γ Ω ⟨o,t1,x6,x7,x8,to1,ol,oz,oe,rfl,rfl⟩;rw[Yt] at ol;rw[Yt,yG] at oe;have kl:=ok.kl;have e1:=to1.eq;have hl:=to1.ok.len;refine xo hr.units (Yj (pq 5 rfl) (ZA (k:=qj "seen") (l:=t.b) hr.units (pq 0 rfl) (by rw[←e1.b];exact yp) jR vq ⟨t1.s,rfl,Yj (pq 4 rfl) ⟨kQ (x,i,j),snV t1.sn,[(t1.b,oDk K VT (uq t1))],rfl,List.Perm.swap ..,?_,?_⟩⟩))
     ·unfold snV;rw[ye,sizeLine_eq];omega
     ·have to2:QTo t {t1 with sn:=KQ t1.sn (x,i,j) o}:=to1.trans ⟨_,t1.mn,rfl,to1.ok.put (by rw[e1.hs];exact hx) hij (by rw[e1.row];exact hj) (by omega) oz (fun z1=>by rw[e1.hs,e1.row,e1.rs,yfN ok.fl hij hx];exact oe z1),id⟩;rw[yfS];exact yV (za (Ω':=omQ P w K {t1 with sn:=KQ t1.sn (x,i,j) o}) (List.Perm.swap ..) (rd _ o _ _ _ _ to2 ycr))
   ·rw[KK,hq] at hk;cases hk
theorem vv (z:Zs mg)(d:yZ K mg "_law_trees" Qs ["_law_box", "_law_symbol", "_law_i", "_law_j"])(d':yZ K mg "_law_rests" Q8 ["_law_box", "_law_body", "_law_i", "_law_j"])(o_law_timed:kZ P w K mg base):∀ n,n<=4->OkF P w K mg base CX0 (40+6*n) "_law_trees" ["_law_box", "_law_symbol", "_law_i", "_law_j"] (vI K 4 (omQ P w K) (Wn n) uj)
 |0,h=>VG (n:=0) z d o_law_timed (by omega) fun m h=>by omega
 |n+1,h=>by
  have ih:=vG z d' o_law_timed (vv z d d' o_law_timed n (by omega)) 4;have:=VG (n:=n+1) z d o_law_timed (by omega) fun m h=>by
   have e:m=n:=by omega
   subst e;exact ih
  rw[show 39+6*(n+1)+1=40+6*(n+1) by omega] at this;exact this
end
section
variable {P:Program}{w:World}{K:W.Frag}{mg:Str->Option Value}{base:Heap}{C_Grammar C_Sums:Addr}
variable (P w K mg base) in
abbrev XM:Prop:=OkF P w K mg base CX0 2 "cleared" ["row", "k"] (spP K 2 yb0)
theorem xx (g_NOUGHT:qF K mg "NOUGHT" (sh 0))(d:yZ K mg "cleared" zy ["row", "k"])  : XM P w K mg base:=by
 refine YD d Xv rfl fun f cdv A outer s H E hr ds r hC B hB=>?_;obtain⟨m,k',f',rfl,rfl,hk,hm⟩:=hC;refine Y4 (WV (WV (PF3.p (vi (pq 0 rfl) Vs (Vh (pq 1 rfl)))) (zw (yd (qa g_NOUGHT rfl) yt)) ?_) (PF3.p (vi (pq 0 rfl) (Vh (Jg (pq 1 rfl) yw)) Vs)) ?_) ?_
 ·rw[UU (by omega),yaC (by omega),Yv];show k'+1<=sizeLine;unfold sizeLine;omega
 ·rw[yy,UU (by omega),yaC (by omega),Yv,yag (by omega),jd,Yv];show k'+1+_<=sizeLine;unfold sizeLine;omega
 ·rw[UU (by omega),yag (by omega),yhD hk,yhL];rfl
variable (P w K mg base) in
abbrev yfj:Prop:=OkF P w K mg base CX0 36 "without_itself" ["row", "k"] (spP K 2 ybE)
theorem vo (z:Zs mg)(g_NOUGHT:qF K mg "NOUGHT" (sh 0))(g_ONE:qF K mg "ONE" (sh 1))(d:yZ K mg "without_itself" qe ["row", "k"])(o_is_less:ycY P w K mg base)(o_lessened:yg6 P w K mg base)(o_parted:yhh P w K mg base)(o_cleared:XM P w K mg base):yfj P w K mg base:=by
 refine YD d J7 rfl fun f cdv A outer s H E hr ds r hC B hB=>?_;obtain⟨m,k',s',f',rfl,rfl,hk,hm,nn,hb,h1⟩:=hC;have a:=nn k' hk;have p:=zi h1;have hu:=hr.units;have sb:Sz (1+s'+1) (1 - f' k'):=Xc wj a.2;refine JA (Y8 (WM hr.units (ZE (d:=sh (f' k')) (pq 0 rfl) (pq 1 rfl) ?_) (qa g_NOUGHT rfl) Jz Jy)) ?_ ?_
 ·exact Z2 hk
 ·intro hz;rw[jE] at hz;have hz:=of_decide_eq_true hz;refine Y4 (pq 0 rfl) ?_;refine ZM fun j hj=>?_;rw[hz];by_cases h:j=k'
  ·rw[yc h,h,hz]
  ·rw[yb h];grind
 intro _;refine yV ?_;refine JA (XV (zh (Yi (d:=.bl true) o_is_less (hr.mono (by decide)) rfl (yd (ZE (d:=sh (f' k')) (pq 0 rfl) (pq 1 rfl) ?_) (yd (qa g_ONE rfl) yt)) ?_))) ?_ ?_
 ·exact Z2 hk
 ·exact⟨f' k',1,s',1,rfl,by rw[yI h1],a.2,wj,by omega,by decide⟩
 ·intro hk;cases hk
 ·intro _;refine yV ?_;refine YL (i:=2) J7.nd rfl (.inr rfl) (Yi (d:=sh (1 - f' k')) o_lessened (hr.mono (by decide)) rfl (yd (qa g_ONE rfl) (yd (ZE (d:=sh (f' k')) (pq 0 rfl) (pq 1 rfl) ?_) yt)) ?_) ?_
  ·exact Z2 hk
  ·exact⟨1,f' k',1,s',rfl,rfl,by decide,a.1,wj,a.2,by decide,by omega,YG h1⟩
  refine Y4 (PF3.p (QO (SX:=yj qe) (XN:=["row", "k", "left"]) (N:=["way", "left"]) (nt:=1) (caps:=[2]) (pre:=(fun i=>tb i fun j=>sh (if j=k' then 0 else f' j / (1 - f' k')))) ⟨rfl,by decide +kernel,by decide +kernel,by decide +kernel,rfl,by decide +kernel⟩ (Qk (Yi (d:=shR m (fun j=>if j=k' then 0 else f' j)) o_cleared (hr.mono (by decide)) rfl (yd (pq 0 rfl) (yd (pq 1 rfl) yt)) ?_)) ?_ ?_ ?_)) ?_
  ·exact⟨m,k',f',rfl,rfl,hk,hm⟩
  ·intro i hi;rw[Yv] at hi ⊢;unfold sizeLine;omega
  ·rfl
  ·intro c i d hd;have hi:i<m:=by
    have:=(al_getElem?_eq_some_iff.mp hd).1
    rwa [Yv] at this
   rw[jo hi] at hd;cases hd;refine⟨_,(Yc (i:=0) (show List.Nodup (α:=Str) ["way", "left"] by decide +kernel) rfl (.inl rfl)),(Sub.set rfl),.inl ⟨sh (if i=k' then 0 else f' i / (1 - f' k')),Ji,(Yi (d:=sh (if i=k' then 0 else f' i / (1 - f' k'))) o_parted (hr.mono (by decide)) rfl (yd (pq 0 rfl) (yd (pqc 1 rfl) yt)) ?_),?_⟩⟩
   ·refine⟨_,1 - f' k',s'+1,1+s'+1,rfl,?_,?_,YG p,?_,sb,by omega,by omega,p⟩
    ·dsimp only;by_cases h:i=k'
     ·rw[yc h,yc h];congr 1;grind
     ·rw[yb h,yb h]
    ·dsimp only;by_cases h:i=k'
     ·rw[yc h];decide
     ·rw[yb h];exact(nn i hi).1
    ·dsimp only;by_cases h:i=k'
     ·rw[yc h];exact wA.mono (by omega)
     ·rw[yb h];exact(nn i hi).2.mono (by omega)
   ·exact jy
  ·rw[Yv];rfl
variable (P w K mg base) in
abbrev ycl:Prop:=OkF P w K mg base CX0 35 "put_in" ["row", "k", "found"] (spP K 3 yjJ)
theorem ybo (z:Zs mg)(g_NOUGHT:qF K mg "NOUGHT" (sh 0))(d:yZ K mg "put_in" zp ["row", "k", "found"])(o_added:yaZ P w K mg base)(o_timed:XZ P w K mg base)(o_cleared:XM P w K mg base):ycl P w K mg base:=by
 refine YD d Ue rfl fun f cdv A outer s H E hr ds r hC B hB=>?_;obtain⟨m,k',s',f',g',rfl,rfl,hk,hm,nn,nng,hb,hg⟩:=hC;have a:=nn k' hk;have hu:=hr.units;refine YL (i:=3) Ue.nd rfl (.inr rfl) (ZE (d:=sh (f' k')) (pq 0 rfl) (pq 1 rfl) ?_) ?_
 ·exact Z2 hk
 refine JA (Y8 (WM hr.units (pqc 3 rfl) (qa g_NOUGHT rfl) Jz Jy)) ?_ ?_
 ·intro hz;rw[jE] at hz;have hz:=of_decide_eq_true hz;refine Y4 (pq 0 rfl) ?_;refine ZM fun j hj=>?_;rw[hz];by_cases h:j=k'
  ·rw[yc h,h,hz]
  ·rw[yb h];grind
 ·intro hz;refine yV ?_;refine Y4 (PF3.p (QO (SX:=yj zp) (XN:=["row", "k", "found", "way"]) (N:=["kept", "more", "way"]) (nt:=2) (caps:=[3]) (pre:=(fun i=>tb i fun j=>sh (if j=k' then 0 else f' j+f' k'*g' j))) ⟨rfl,by decide +kernel,by decide +kernel,by decide +kernel,rfl,by decide +kernel⟩ (yeR z.zip rfl (Yi (d:=shR m (fun j=>if j=k' then 0 else f' j)) o_cleared (hr.mono (by decide)) rfl (yd (pq 0 rfl) (yd (pq 1 rfl) yt)) ?_) (pq 2 rfl)) ?_ ?_ ?_)) ?_
  ·exact⟨m,k',f',rfl,rfl,hk,hm⟩
  ·intro i hi;unfold vt at hi;rw[ye,xu,Yv] at hi;rw[Yv];unfold sizeLine;omega
  ·rfl
  ·intro c i d hd;unfold vt at hd;rw[xu] at hd;have hi:i<m:=by
    have:=(al_getElem?_eq_some_iff.mp hd).1
    rwa [ye,Yv] at this
   rw[al_getElem?_map,jo hi] at hd;cases hd;have zs:Sz (s'+1) (if i=k' then 0 else f' i):=by
    by_cases h:i=k'
    ·rw[yc h];exact wA.mono (by omega)
    ·rw[yb h];exact(nn i hi).2.mono (by omega)
   have zn:0<=(if i=k' then 0 else f' i):=by
    by_cases h:i=k'
    ·rw[yc h];decide
    ·rw[yb h];exact(nn i hi).1
   refine⟨_,(kI rfl (QL (Yc (i:=0) (show List.Nodup (α:=Str) ["kept", "more", "way"] by decide +kernel) rfl (.inl rfl)) (QL (Yc (i:=1) (show List.Nodup (α:=Str) ["kept", "more", "way"] by decide +kernel) rfl (.inl rfl)) Z9))),(Sub.trans (Sub.set rfl) (Sub.set rfl)),.inl ⟨sh (if i=k' then 0 else f' i+f' k'*g' i),Ji,(yaw (d:=sh (if i=k' then 0 else f' i+f' k'*g' i)) (Y8 (WM hr.units (pq 1 rfl) (qa g_NOUGHT rfl) Jz Jy)) (fun hc=>(jZ (pq 0 rfl) ?_)) (fun hc=>(jZ (Yi (d:=sh (if i=k' then 0 else f' i+f' k'*g' i)) o_added (hr.mono (by decide)) rfl (yd (pq 0 rfl) (yd (Yi (d:=sh (f' k'*g' i)) o_timed (hr.mono (by decide)) rfl (yd (pqc 2 rfl) (yd (pq 1 rfl) yt)) ?_) yt)) ?_) ?_))),?_⟩⟩
   ·rw[jE] at hc;have hc:=of_decide_eq_true hc;show sh (if i=k' then 0 else f' i)=sh (if i=k' then 0 else f' i+f' k'*g' i);rw[hc];congr 1;by_cases h:i=k'
    ·rw[yc h,yc h]
    ·rw[yb h,yb h];grind
   ·exact⟨f' k',g' i,s',2*s'+2,rfl,rfl,a.1,(nng i hi).1,a.2,(nng i hi).2,by omega,by omega,trivial⟩
   ·refine⟨_,f' k'*g' i,s'+1,s'+(2*s'+2),rfl,?_,zn,Zm a.1 (nng i hi).1,zs,UP a.2 (nng i hi).2,by omega,by omega,trivial⟩;dsimp only;by_cases h:i=k'
    ·rw[yc h,yc h,h,hg];congr 1;grind
    ·rw[yb h,yb h]
   ·rfl
   ·exact jy
  ·unfold vt;rw[ye,xu,Yv];rfl
variable (P w K mg base) in
abbrev ydj:Prop:=OkF P w K mg base CX0 37 "solved_rows" ["ways", "ends"] (spP K 2 yil)
theorem K1 (z:Zs mg)(d:yZ K mg "solved_rows" qk ["ways", "ends"])(o_without_itself:yfj P w K mg base)(o_put_in:ycl P w K mg base):ydj P w K mg base:=by
 refine YD d jc rfl fun f cdv A outer s H E hr ds r hC B hB=>?_;obtain⟨n,m,s',W,B',rfl,rfl,⟨hn,hm,gW,ge,hb⟩,hp⟩:=hC;have G0:=yaE gW ge;have pE:=xj (B:=B') hp;refine Xk (i:=2) (SX:=yj qk) (XN:=["ways", "ends", "rows", "k", "found"]) (N:=["k", "ways", "ends"]) (nt:=1) (caps:=[0,1]) (pre:=(fun i=>tb i fun r=>shR (n+m) (wM n W B' r)))  ⟨rfl,by decide +kernel,by decide +kernel,by decide +kernel,rfl,by decide +kernel⟩ jc.nd rfl (.inl rfl)  (Zi (n:=n) z.range rfl (ze z.len rfl (pqc 1 rfl)) ?_ ?_) ?_ ?_ ?_ ?_
 ·rw[Yv]
 ·omega
 ·intro i hi;rw[QX] at hi;rw[Yv];unfold sizeLine;omega
 ·rfl
 ·intro c i d hd;obtain⟨hi,rfl⟩:=J3 hd;rw[QE];refine⟨_,(Yc (i:=0) (show List.Nodup (α:=Str) ["k", "ways", "ends"] by decide +kernel) rfl (.inl rfl)),(Sub.set rfl),.inl ⟨shR (n+m) (wM n W B' i),Ji,(jZ (WV (PF3.p (ZO z.list rfl (ZE (d:=shR n (W i)) (pqc 1 rfl) (pq 0 rfl) ?_) (.inl rfl))) (PF3.p (ZO z.list rfl (ZE (d:=shR m (B' i)) (pqc 2 rfl) (pq 0 rfl) ?_) (.inl rfl))) ?_) ?_),?_⟩⟩
  ·exact Z2 hi
  ·exact Z2 hi
  ·rw[Yv,Yv];unfold sizeLine;omega
  ·exact congrArg D.lst yhP
  ·exact jy
 refine j8 PassesOwn.never rfl (Zi (n:=n) z.range rfl (ze z.len rfl (pqc 1 rfl)) ?_ ?_) (fun i Γ _=>∃ a b,Γ=[some (shM n n W),some (shM n m B'),some (shM n (n+m) (EK (wM n W B') i)),a,b]) ?_ ?_ ?_
 ·rw[Yv]
 ·omega
 ·refine⟨none,none,?_⟩;rw[QX];rfl
 ·rintro k d Γ Ω hd ⟨a,b,rfl⟩;obtain⟨hk,rfl⟩:=J3 hd;rw[QE];have Gk:=G0.at (qR n m) k (by omega) fun j hj=>pE j (by omega);have hs:4*sK s' k+3<=big:=yQ (show sK s' (k+1)<=sK s' n from yaX (by omega)) hb;refine⟨_,(Yc (i:=3) jc.nd rfl (.inr rfl)),?_⟩;refine YL (i:=4) jc.nd rfl (.inr rfl) (Yi (d:=shR (n+m) (fun j=>if j=k then 0 else EK (wM n W B') k k j / (1 - EK (wM n W B') k k k))) o_without_itself (hr.mono (by decide)) rfl (yd (ZE (d:=shR (n+m) (EK (wM n W B') k k)) (pq 2 rfl) (pqc 3 rfl) ?_) (yd (pqc 3 rfl) yt)) ?_) ?_
  ·exact Z2 hk
  ·exact⟨n+m,k,sK s' k,EK (wM n W B') k k,rfl,rfl,by omega,by omega,fun j hj=>Gk k j hk hj,hs,pE k hk⟩
  refine Xk (i:=2) (SX:=yj qk) (XN:=["ways", "ends", "rows", "k", "found"]) (N:=["place", "row", "k", "found"]) (nt:=2) (caps:=[3,4]) (pre:=(fun i=>tb i fun r=>shR (n+m) (Jn (EK (wM n W B') k) k r)))  ⟨rfl,by decide +kernel,by decide +kernel,by decide +kernel,rfl,by decide +kernel⟩ jc.nd rfl (.inl rfl)  (yhU z.enumerate rfl (pq 2 rfl)) ?_ ?_ ?_ ?_
  ·intro i hi;unfold uZ at hi;rw[List.length_mapIdx,Yv] at hi;rw[Yv];unfold sizeLine;omega
  ·rfl
  ·intro c i d hd;unfold uZ at hd;rw[ybK] at hd;have hi:i<n:=by
    have:=(al_getElem?_eq_some_iff.mp hd).1
    rwa [Yv] at this
   rw[jo hi] at hd;cases hd;refine⟨_,(kI rfl (QL (Yc (i:=0) (show List.Nodup (α:=Str) ["place", "row", "k", "found"] by decide +kernel) rfl (.inl rfl)) (QL (Yc (i:=1) (show List.Nodup (α:=Str) ["place", "row", "k", "found"] by decide +kernel) rfl (.inl rfl)) Z9))),(Sub.trans (Sub.set rfl) (Sub.set rfl)),.inl ⟨shR (n+m) (Jn (EK (wM n W B') k) k i),Ji,(yaw (d:=shR (n+m) (Jn (EK (wM n W B') k) k i)) (Y8 (vK (pq 0 rfl) (pqc 2 rfl))) (fun hc=>(jZ (pqc 3 rfl) ?_)) (fun hc=>(jZ (Yi (d:=shR (n+m) (Jn (EK (wM n W B') k) k i)) o_put_in (hr.mono (by decide)) rfl (yd (pq 1 rfl) (yd (pqc 2 rfl) (yd (pqc 3 rfl) yt))) ?_) ?_))),?_⟩⟩
   ·have hc:=of_decide_eq_true hc;have hc:i=k:=by omega
    subst hc;refine ZM fun j hj=>?_;unfold Jn;rw[yc rfl]
   ·have hc:=of_decide_eq_false hc;have hc:¬ i=k:=by omega
    refine⟨n+m,k,sK s' k,EK (wM n W B') k i,_,rfl,?_,by omega,by omega,fun j hj=>Gk i j hi hj,fun j hj=>?_,hs,yc rfl⟩
    ·refine ZM fun j hj=>?_;unfold Jn;rw[yb hc];by_cases h:j=k
     ·rw[yc h,yc h]
     ·rw[yb h,yb h,yb h]
    ·have x:=(Gk.step hk (by omega) (pE k hk)) k j hk hj;dsimp only;by_cases h:j=k
     ·rw[yc h];exact⟨by decide,wA.mono (by omega)⟩
     ·rw[yb h];exact⟨Kr (Gk k j hk hj).1 (zi (pE k hk)),(yd8 (Gk k j hk hj).2 (Xc wj (Gk k k hk (by omega)).2) (zi (pE k hk))).mono (by omega)⟩
   ·rfl
   ·exact jy
  refine yV ?_;unfold uZ;rw[List.length_mapIdx,Yv];exact⟨_,_,rfl⟩
 ·rintro Γ Ω ⟨a,b,rfl⟩;rw[QX];refine Y4 (PF3.p (QO (SX:=yj qk) (XN:=["ways", "ends", "rows", "k", "found"]) (N:=["row", "ends"]) (nt:=1) (caps:=[1]) (pre:=(fun i=>tb i fun r=>shR m (fun j=>EK (wM n W B') n r (n+j)))) ⟨rfl,by decide +kernel,by decide +kernel,by decide +kernel,rfl,by decide +kernel⟩ (Qk (pq 2 rfl)) ?_ ?_ ?_)) ?_
  ·intro i hi;rw[Yv] at hi ⊢;unfold sizeLine;omega
  ·rfl
  ·intro c i d hd;have hi:i<n:=by
    have:=(al_getElem?_eq_some_iff.mp hd).1
    rwa [Yv] at this
   rw[jo hi] at hd;cases hd;refine⟨_,(Yc (i:=0) (show List.Nodup (α:=Str) ["row", "ends"] by decide +kernel) rfl (.inl rfl)),(Sub.set rfl),.inl ⟨shR m (fun j=>EK (wM n W B') n i (n+j)),Ji,(jZ (PF3.p (vi (pq 0 rfl) (Vh (ze z.len rfl (pqc 1 rfl))) Vs)) ?_),?_⟩⟩
   ·rw[Yv,Wr (by rw[Yv];omega),yft];rfl
   ·exact jy
  ·rw[Yv];rfl
end
section
variable {P:Program}{w:World}{K:W.Frag}{mg:Str->Option Value}{base:Heap}{C_Grammar C_Sums:Addr}
variable (P w K mg base) in
abbrev ydN:Prop:=OkF P w K mg base CX0 2 "is_letter" ["sign"] (spP K 1 ydZ)
theorem UE  (d:yZ K mg "is_letter" jh ["sign"])  : ydN P w K mg base:=by
 refine YD d UV rfl fun f cdv A outer s H E hr ds r hC B hB=>?_;obtain⟨c,rfl,rfl⟩:=hC;refine Y4 (yjn (wJ jR (pq 0 rfl) jR) fun _=>(WX (wJ jR (pq 0 rfl) jR))) ?_;show D.bl ((leS "a" ⟨#[c]⟩&&leS ⟨#[c]⟩ "z")||(leS "A" ⟨#[c]⟩&&leS ⟨#[c]⟩ "Z"))=D.bl (ZX c);rw[yhf (n:=97) (by decide +kernel),ygV (n:=122) (by decide +kernel),yhf (n:=65) (by decide +kernel),ygV (n:=90) (by decide +kernel)];rfl
variable (P w K mg base) in
abbrev yeK:Prop:=OkF P w K mg base CX0 3 "is_symbol" ["text"] (spP K 1 yfz)
theorem Uz (z:Zs mg)(g_MOST_LETTERS:qF K mg "MOST_LETTERS" (.int 8))(d:yZ K mg "is_symbol" QF ["text"])(o_is_letter:ydN P w K mg base):yeK P w K mg base:=by
 refine YD d wm rfl fun f cdv A outer s H E hr ds r hC B hB=>?_;obtain⟨x,rfl,rfl,h1,h2⟩:=hC;have hl:x.length=x.cps.size:=rfl;refine Y4 (yao (ybr yw (yic z.len rfl (pq 0 rfl) ?_) (qa g_MOST_LETTERS rfl)) fun _=>(WX (ygZ rfl z.all rfl (PF3.p (QO (SX:=yj QF) (XN:=["text"]) (N:=["sign"]) (nt:=1) (caps:=[]) (pre:=(fun i=>((x.cps.toList.take i).map ZX).map D.bl)) ⟨rfl,by decide +kernel,by decide +kernel,by decide +kernel,rfl,by decide +kernel⟩ (yia (pq 0 rfl) ?_) ?_ ?_ ?_))))) ?_
 ·rw[hl,sizeLine_eq];omega
 ·exact h2
 ·intro i hi;rw[ye,ye,yS,sizeLine_eq];simp only[Array.length_toList];omega
 ·rfl
 ·intro c i d hd;obtain⟨n,hn,rfl⟩:=ybQ hd;refine⟨_,(Yc (i:=0) (show List.Nodup (α:=Str) ["sign"] by decide +kernel) rfl (.inl rfl)),(Sub.set rfl),.inl ⟨.bl (ZX n),Ji,(Yi (d:=.bl (ZX n)) o_is_letter (hr.mono (by decide)) rfl (yd (pq 0 rfl) yt) ?_),?_⟩⟩
  ·exact⟨n,rfl,rfl⟩
  ·dsimp only;rw[yW hn,yr,yr];rfl
 show D.bl _=D.bl _;congr 1;rw[ybJ,←Array.length_toList,yG,List.all_map,Yk,Ku];simp only[Yg,Yh,QA,Za];rw[hl];constructor
 ·intro h;exact⟨by omega,by omega,fun c hc=>h.2 c hc⟩
 ·intro h;exact⟨⟨by omega,by omega⟩,fun c hc=>h.2.2 c hc⟩
variable (P w K mg base) in
abbrev ydz:Prop:=OkF P w K mg base CX0 4 "check_symbol" ["text"] (spP K 1 ydt)
theorem VY (z:Zs mg)(g_MOST_LETTERS:qF K mg "MOST_LETTERS" (.int 8))(d:yZ K mg "check_symbol" Qj ["text"])(o_is_symbol:yeK P w K mg base):ydz P w K mg base:=by
 refine YD d V4 rfl fun f cdv A outer s H E hr ds r hC B hB=>?_;obtain⟨x,rfl,rfl,hx⟩:=hC;have e:wv x=true:=Ku.mpr hx;refine JA (XV (zh (Yi (d:=.bl (wv x)) o_is_symbol (hr.mono (by decide)) rfl (yd (pq 0 rfl) yt) ?_))) ?_ ?_
 ·exact⟨x,rfl,rfl,by have:=hx.2.1;omega,yb9 hx⟩
 ·intro hk;rw[e] at hk;exact absurd hk (by decide)
 ·intro _;exact yV (yV rfl)
variable (P w K mg base) in
abbrev ycB:Prop:=OkF P w K mg base CX0 5 "check_rule" ["rule"] (spP K 1 yiI)
theorem ur (z:Zs mg)(g_NOUGHT:qF K mg "NOUGHT" (sh 0))(g_MOST_SYMBOLS:qF K mg "MOST_SYMBOLS" (.int 4))(d:yZ K mg "check_rule" QW ["rule"])(o_check_symbol:ydz P w K mg base):ycB P w K mg base:=by
 refine YD d ZY rfl fun f cdv A outer s H E hr ds r hC B hB=>?_;obtain⟨r,rfl,rfl,h1,h2,h3,h4,h5⟩:=hC;refine wn (Yi (d:=.non) o_check_symbol (hr.mono (by decide)) rfl (yd (yX (pq 0 rfl) yw rfl) yt) ?_) ?_
 ·exact⟨r.1,rfl,rfl,h1⟩
 refine JA (PW3.t (ybm (Y8 (xT (jD z.len rfl (yX (pq 0 rfl) yw rfl)) yw)) fun _=>(UL (Y8 (Xi (jD z.len rfl (yX (pq 0 rfl) yw rfl)) (qa g_MOST_SYMBOLS rfl)))))) ?_ ?_
 ·intro hk;rw[show(r.2.1.map D.str).length=r.2.1.length from ye _] at hk;simp at hk;omega
 ·intro _;refine yV ?_;refine j8 PassesOwn.never rfl (yhg (yX (pq 0 rfl) yw rfl)) (fun i Γ Ω=>∃ x,Γ=[some (Jf r),x]/\Ω=[]) ⟨_,rfl,rfl⟩ ?_ ?_
  ·rintro i d Γ Ω hd ⟨x,rfl,rfl⟩;obtain⟨y,hy,rfl⟩:=Qx hd;refine⟨_,(Yc (i:=1) ZY.nd rfl (.inl rfl)),?_⟩;refine wn (Yi (d:=.non) o_check_symbol (hr.mono (by decide)) rfl (yd (pq 1 rfl) yt) ?_) ?_
   ·exact⟨y,rfl,rfl,h4 y (al_mem_of_getElem? hy)⟩
   exact yV ⟨_,rfl,rfl⟩
  ·rintro Γ Ω ⟨x,rfl,rfl⟩;refine JA (Y8 (WM hr.units (yX (pq 0 rfl) yw rfl) (qa g_NOUGHT rfl) Jz Jy)) ?_ ?_
   ·intro hk;rw[jE] at hk;rw[of_decide_eq_true hk] at h5;exact absurd h5 (by decide)
   ·intro _;exact yV (yV rfl)
variable (P w K mg base) in
abbrev yea:Prop:=OkF P w K mg base CX0 6 "check_rules" ["rules"] (spP K 1 yf1)
theorem Kv (z:Zs mg)(g_MOST_RULES:qF K mg "MOST_RULES" (.int 30))(d:yZ K mg "check_rules" Qv ["rules"])(o_check_rule:ycB P w K mg base):yea P w K mg base:=by
 refine YD d JU rfl fun f cdv A outer s H E hr ds r hC B hB=>?_;obtain⟨rs,rfl,rfl,h1,h2,h3,h4⟩:=hC;refine JA (PW3.t (ybm (Y8 (xT (ze z.len rfl (pq 0 rfl)) yw)) fun _=>(UL (Y8 (Xi (ze z.len rfl (pq 0 rfl)) (qa g_MOST_RULES rfl)))))) ?_ ?_
 ·intro hk;rw[Yt] at hk;simp at hk;omega
 ·intro _;refine yV ?_;refine QM (i:=1) JU.nd rfl (.inl rfl) (xA fun l=>?_);refine j8 PassesOwn.never rfl (Qk (pq 0 rfl)) (fun i Γ Ω=>∃ x,Γ=[some (.lst (yJ rs)),some (.raw (.ref l)),x]/\Ω=[(l,ZR P w K l (K7 (rs.take i)))]) ⟨_,rfl,rfl⟩ ?_ ?_
  ·rintro i d Γ Ω hd ⟨x,rfl,rfl⟩;obtain⟨r,hr',rfl⟩:=qT hd;have hn:=va (f:=fun r:yF=>(r.1,r.2.1)) h4 hr';refine⟨_,(Yc (i:=2) JU.nd rfl (.inl rfl)),?_⟩;refine wn (Yi (d:=.non) o_check_rule (hr.mono (by decide)) rfl (yd (pq 2 rfl) yt) ?_) ?_
   ·exact⟨r,rfl,rfl,h3 r (al_mem_of_getElem? hr')⟩
   refine ZW (yiR hr.units (Yj (QJ (yd (yX (pq 2 rfl) yw rfl) (yd (yX (pq 2 rfl) yw rfl) yt))) ⟨ui r,yaR r,Yj (pq 1 rfl) ⟨l,_,rfl,yu.mpr rfl,fun hk=>?_,fun _=>?_⟩⟩))
   ·rw[WK hn] at hk;cases hk
   ·refine yV ?_;refine xo hr.units (Yj ydH (Yj (pq 1 rfl) ⟨l,rfl,Yj (QJ (yd (yX (pq 2 rfl) yw rfl) (yd (yX (pq 2 rfl) yw rfl) yt))) ⟨ui r,_,[],yaR r,List.Perm.refl _,?_,?_⟩⟩))
    ·unfold K7;rw[ye,yS,sizeLine_eq];omega
    ·refine yV ⟨_,rfl,?_⟩;rw[yey hn,yW hr'];rfl
  ·rintro Γ Ω ⟨x,rfl,rfl⟩;exact yV rfl
variable (P w K mg base) in
abbrev ye0:Prop:=OkF P w K mg base CX0 2 "check_start" ["start", "heads"] (spP K 2 yga)
theorem Kd  (d:yZ K mg "check_start" Qu ["start", "heads"])  : ye0 P w K mg base:=by
 refine YD d Kx rfl fun f cdv A outer s H E hr ds r hC B hB=>?_;obtain⟨x,hs,rfl,rfl,hx⟩:=hC;refine JA (Y8 (ZI hr.units (pq 0 rfl) (pq 1 rfl) (.inl rfl) ?_)) ?_ ?_
 ·exact j3
 ·intro hk;rw[jA,yI hx] at hk;cases hk
 ·intro _;exact yV (yV rfl)
variable (P w K mg base) in
abbrev ydk:Prop:=OkF P w K mg base CX0 34 "check_sums" ["heads", "rules"] (spP K 2 yhC)
theorem um (g_NOUGHT:qF K mg "NOUGHT" (sh 0))(g_ONE:qF K mg "ONE" (sh 1))(d:yZ K mg "check_sums" QR ["heads", "rules"])(o_added:yaZ P w K mg base):ydk P w K mg base:=by
 refine YD d jx rfl fun f cdv A outer s H E hr ds r hC B hB=>?_;obtain⟨hs,rs,rfl,rfl,h1,h2,h3⟩:=hC;refine j8 PassesOwn.never rfl (Qk (pq 0 rfl)) (fun i Γ Ω=>∃ x2 x3 x4,Γ=[some (.lst (yB hs)),some (.lst (yJ rs)),x2,x3,x4]/\Ω=[]) ⟨_,_,_,rfl,rfl⟩ ?_ ?_
 ·rintro i d Γ Ω hd ⟨x2,x3,x4,rfl,rfl⟩;obtain⟨h,hh,rfl⟩:=Qx hd;refine⟨_,(Yc (i:=2) jx.nd rfl (.inl rfl)),?_⟩;refine YL (i:=3) jx.nd rfl (.inl rfl) (qa g_NOUGHT rfl) ?_;refine j8 PassesOwn.never rfl (Qk (pq 1 rfl)) (fun j Γ Ω=>∃ (t:Rat) (x4:Option D),(0<=t/\Sz (1+j*1001) t)/\t=Q9 h (rs.take j)/\Γ=[some (.lst (yB hs)),some (.lst (yJ rs)),some (.str h),some (sh t),x4]/\Ω=[]) ⟨0,_,⟨by decide,wA⟩,rfl,rfl,rfl⟩ ?_ ?_
  ·rintro j d Γ Ω hd ⟨t,x4,ht,et,rfl,rfl⟩;obtain⟨r,hr',rfl⟩:=qT hd;have hj:j<rs.length:=(al_getElem?_eq_some_iff.mp hr').1;have hq:=h3 r (al_mem_of_getElem? hr');have ef:Q9 h (rs.take (j+1))=Jh h t r:=by rw[yW hr'];unfold Q9 at et ⊢;rw[Ym,←et];rfl
   have ht':=ygs ht hq;refine⟨_,(Yc (i:=4) jx.nd rfl (.inl rfl)),?_⟩;refine JA (Y8 (Kj (yX (pq 4 rfl) yw rfl) (pq 2 rfl))) ?_ ?_
   ·intro hk;have hk:=of_decide_eq_true hk;refine YL (i:=3) jx.nd rfl (.inl rfl) (Yi (d:=sh (t+r.2.2)) o_added (hr.mono (by decide)) rfl (yd (pq 3 rfl) (yd (yX (pq 4 rfl) yw rfl) yt)) ?_) ?_
    ·exact⟨t,r.2.2,1+j*1001,1000,rfl,rfl,ht.1,hq.1,ht.2,hq.2,by have:big=67108864:=rfl;omega,by decide,trivial⟩
    exact yV (yV ⟨_,_,ht',by rw[ef];exact(yc hk).symm,rfl,rfl⟩)
   ·intro hk;have hk:=of_decide_eq_false hk;exact yV (yV ⟨t,_,⟨ht.1,ht.2.mono (by omega)⟩,by rw[ef];exact(yb hk).symm,rfl,rfl⟩)
  ·rintro Γ Ω ⟨t,x4,ht,et,rfl,rfl⟩;rw[Yt,yG,h2 h (al_mem_of_getElem? hh)] at et;subst et;refine JA (Y8 (ybU hr.units (pq 3 rfl) (qa g_ONE rfl) Jz Jy)) ?_ ?_
   ·intro hk;rw[jE] at hk;simp at hk
   ·intro _;exact yV (yV ⟨_,_,_,rfl,rfl⟩)
 ·rintro Γ Ω ⟨x2,x3,x4,rfl,rfl⟩;exact yV rfl
variable (P w K mg base) in
abbrev yfh:Prop:=OkF P w K mg base CX0 2 "heads_of" ["rules"] (spP K 1 yfC)
theorem xa  (d:yZ K mg "heads_of" jC ["rules"])  : yfh P w K mg base:=by
 refine YD d Zn rfl fun f cdv A outer s H E hr ds r hC B hB=>?_;obtain⟨rs,rfl,rfl,h1⟩:=hC;refine vM (i:=1) Zn.nd rfl (.inl rfl) (zg yt) fun l=>?_;refine j8 PassesOwn.never rfl (Qk (pq 0 rfl)) (fun i Γ Ω=>∃ (acc:List Str) (x:Option D),acc=(rs.take i).foldl Y7 []/\acc.length<=i/\Γ=[some (.lst (yJ rs)),some (.raw (.ref l)),x]/\Ω=[(l,qg K (yB acc))]) ⟨[],_,rfl,yg _,rfl,rfl⟩ ?_ ?_
 ·rintro i d Γ Ω hd ⟨acc,x,ea,la,rfl,rfl⟩;obtain⟨r,hr',rfl⟩:=qT hd;have hi:i<rs.length:=(al_getElem?_eq_some_iff.mp hr').1;have en:(rs.take (i+1)).foldl Y7 []=Y7 acc r:=by rw[yW hr',Ym,←ea];rfl
  refine⟨_,(Yc (i:=2) Zn.nd rfl (.inl rfl)),?_⟩;refine ZW (yaB (Γ':=[some (.lst (yJ rs)),some (.lst (yB acc)),some (Jf r)]) (Y8 (ZI hr.units (yX (pq 2 rfl) yw rfl) (pq 1 rfl) (.inl rfl) ?_)) (JS (i:=1) jm rfl (yu.mpr rfl) v7) ⟨fun hk=>?_,fun hk=>?_⟩)
  ·exact j3
  ·rw[jA] at hk;have hn:r.1∉acc:=by simpa using hk
   refine JL (i:=1) rfl (.inl rfl) rfl (yX (pq 2 rfl) yw rfl) (by rw[Yo,sizeLine_eq];omega) ?_;refine yV (yV ⟨acc++[r.1],_,?_,?_,rfl,?_⟩)
   ·rw[en];exact(yb hn).symm
   ·rw[yy];exact qN la
   ·unfold yB;rw[yr];rfl
  ·rw[jA] at hk;have hn:r.1∈acc:=by simpa using hk
   exact yV (yV ⟨acc,_,by rw[en];exact(yc hn).symm,by omega,rfl,rfl⟩)
 ·rintro Γ Ω ⟨acc,x,ea,la,rfl,rfl⟩;rw[Yt,yG] at ea;refine jv (i:=1) rfl ?_;refine Y4 (pq 1 rfl) ?_;rw[ea];rfl
variable (P w K mg base) in
abbrev Xu:Prop:=OkF P w K mg base CX0 2 "is_live_body" ["body", "heads", "live"] (spP K 3 xK)
theorem VR (z:Zs mg)(d:yZ K mg "is_live_body" qI ["body", "heads", "live"])  : Xu P w K mg base:=by
 refine YD d V5 rfl fun f cdv A outer s H E hr ds r hC B hB=>?_;obtain⟨b,hs,L,rfl,rfl,h1⟩:=hC;refine Y4 (ygZ rfl z.all rfl (PF3.p (QO (SX:=yj qI) (XN:=["body", "heads", "live"]) (N:=["symbol", "heads", "live"]) (nt:=1) (caps:=[1,2]) (pre:=(fun i=>((b.take i).map fun x=>decide (x∈L)||!decide (x∈hs)).map D.bl)) ⟨rfl,by decide +kernel,by decide +kernel,by decide +kernel,rfl,by decide +kernel⟩ (yhg (pq 0 rfl)) ?_ ?_ ?_))) ?_
 ·intro i hi;rw[ye,ye,yS,sizeLine_eq];omega
 ·rfl
 ·intro c i d hd;obtain⟨x,hx,rfl⟩:=Qx hd;refine⟨_,(Yc (i:=0) (show List.Nodup (α:=Str) ["symbol", "heads", "live"] by decide +kernel) rfl (.inl rfl)),(Sub.set rfl),.inl ⟨.bl (decide (x∈L)||!decide (x∈hs)),Ji,(jZ (yjn (Zt (yhZ hr.units (pq 0 rfl) (pqc 2 rfl) (.inl rfl) ?_)) fun _=>(WX (Zt (ZI hr.units (pq 0 rfl) (pqc 1 rfl) (.inl rfl) ?_)))) ?_),?_⟩⟩
  ·exact j3
  ·exact j3
  ·rw[jA,jA]
  ·dsimp only;rw[yW hx,yr,yr];rfl
 ·rw[show(b.map D.str).length=b.length from ye _,yG];show D.bl ((b.map fun x=>decide (x∈L)||!decide (x∈hs)).all id)=D.bl (qA hs L b);rw[List.all_map];rfl
variable (P w K mg base) in
abbrev ydo:Prop:=OkF P w K mg base CX0 3 "has_live_body" ["head", "rules", "heads", "live"] (spP K 4 ybt)
theorem Vt (z:Zs mg)(d:yZ K mg "has_live_body" qv ["head", "rules", "heads", "live"])(o_is_live_body:Xu P w K mg base):ydo P w K mg base:=by
 refine YD d Vr rfl fun f cdv A outer s H E hr ds r hC B hB=>?_;obtain⟨h,rs,hs,L,rfl,rfl,h1,h2⟩:=hC;refine Y4 (yjy rfl z.any rfl (PF3.p (QO (SX:=yj qv) (XN:=["head", "rules", "heads", "live"]) (N:=["rule", "head", "heads", "live"]) (nt:=1) (caps:=[0,2,3]) (pre:=(fun i=>((rs.take i).map fun r=>decide (r.1=h)&&qA hs L r.2.1).map D.bl)) ⟨rfl,by decide +kernel,by decide +kernel,by decide +kernel,rfl,by decide +kernel⟩ (Qk (pq 1 rfl)) ?_ ?_ ?_))) ?_
 ·intro i hi;rw[ye,ye,yS,sizeLine_eq];omega
 ·rfl
 ·intro c i d hd;obtain⟨r,hr',rfl⟩:=qT hd;refine⟨_,(Yc (i:=0) (show List.Nodup (α:=Str) ["rule", "head", "heads", "live"] by decide +kernel) rfl (.inl rfl)),(Sub.set rfl),.inl ⟨.bl (decide (r.1=h)&&qA hs L r.2.1),Ji,(yao (Zt (Kj (yX (pq 0 rfl) yw rfl) (pqc 1 rfl))) fun _=>(WX (Yi (d:=.bl (qA hs L r.2.1)) o_is_live_body (hr.mono (by decide)) rfl (yd (yX (pq 0 rfl) yw rfl) (yd (pqc 2 rfl) (yd (pqc 3 rfl) yt))) ?_))),?_⟩⟩
  ·exact⟨r.2.1,hs,L,rfl,rfl,h2 r (al_mem_of_getElem? hr')⟩
  ·dsimp only;rw[yW hr',yr,yr];rfl
 ·rw[Yt,yG];show D.bl ((rs.map fun r=>decide (r.1=h)&&qA hs L r.2.1).any id)=D.bl (jB rs hs L h);rw[List.any_map];rfl
variable (P w K mg base) in
abbrev yfl:Prop:=OkF P w K mg base CX0 4 "live_of" ["heads", "rules"] (spP K 2 yev)
theorem Xh (z:Zs mg)(d:yZ K mg "live_of" jK ["heads", "rules"])(o_has_live_body:ydo P w K mg base):yfl P w K mg base:=by
 refine YD d Jl rfl fun f cdv A outer s H E hr ds r hC B hB=>?_;obtain⟨hs,rs,rfl,rfl,h1,h2,h3,h4⟩:=hC;refine YL (i:=2) Jl.nd rfl (.inr rfl) (zw yt) ?_;refine YL (i:=3) Jl.nd rfl (.inl rfl) ydH ?_;refine UX PassesOwn.never (fun Γ _=>∃ (L:List Str) (b:Bool) (x:Option D),Γ=[some (.lst (yB hs)),some (.lst (yJ rs)),some (.lst (yB L)),some (.bl b),x]/\((b=true/\KW hs rs L)∨(b=false/\L=jN hs rs))) (fun Γ _=>match Γ with|[_,_,some (.lst ds),some (.bl b),_]=>if b then hs.length+1 - ds.length else 0|_=>0) ⟨[],true,none,rfl,.inl ⟨rfl,ybM⟩⟩ ?_;rintro Γ Ω ⟨L,b,x,rfl,hb⟩;refine⟨_,(zh (pq 3 rfl)),fun hk=>?_,fun hk=>?_⟩
 ·obtain⟨rfl,st⟩:b=true/\KW hs rs L:=hb.resolve_right fun h=>by rw[h.1] at hk;cases hk
  refine Xk (i:=4) (SX:=yj jK) (XN:=["heads", "rules", "live", "grown", "found"]) (N:=["head", "heads", "rules", "live"]) (nt:=1) (caps:=[0,1,2]) (pre:=(fun i=>yB ((hs.take i).filter (jB rs hs L))))  ⟨rfl,by decide +kernel,by decide +kernel,by decide +kernel,rfl,by decide +kernel⟩ Jl.nd rfl (.inl rfl)  (Qk (pqc 0 rfl)) ?_ ?_ ?_ ?_
  ·intro i hi;rw[Yo,sizeLine_eq];have:=y9 (jB rs hs L) (hs.take i);rw[yS] at this;omega
  ·rfl
  ·intro c i d hd;obtain⟨h,hh,rfl⟩:=Qx hd;cases q:jB rs hs L h with
   |true=>
    refine⟨_,(Yc (i:=0) (show List.Nodup (α:=Str) ["head", "heads", "rules", "live"] by decide +kernel) rfl (.inl rfl)),(Sub.set rfl),.inl ⟨.str h,(Z0 (zh (Yi (d:=.bl true) o_has_live_body (hr.mono (by decide)) rfl (yd (pq 0 rfl) (yd (pqc 2 rfl) (yd (pqc 1 rfl) (yd (pqc 3 rfl) yt)))) ?_))),(pq 0 rfl),?_⟩⟩
    ·exact⟨h,rs,hs,L,rfl,by rw[q],h1,h4⟩
    ·show yB ((hs.take (i+1)).filter (jB rs hs L))=yB ((hs.take i).filter (jB rs hs L))++[D.str h]
     rw[yW hh,YS,y4 q];unfold yB;rw[yr];rfl
   |false=>
    refine⟨_,(Yc (i:=0) (show List.Nodup (α:=Str) ["head", "heads", "rules", "live"] by decide +kernel) rfl (.inl rfl)),(Sub.set rfl),.inr ⟨(Z0 (zh (Yi (d:=.bl false) o_has_live_body (hr.mono (by decide)) rfl (yd (pq 0 rfl) (yd (pqc 2 rfl) (yd (pqc 1 rfl) (yd (pqc 3 rfl) yt)))) ?_))),?_⟩⟩
    ·exact⟨h,rs,hs,L,rfl,by rw[q],h1,h4⟩
    ·show yB ((hs.take (i+1)).filter (jB rs hs L))=yB ((hs.take i).filter (jB rs hs L));rw[yW hh,YS,y3 (by simp[q])];simp
  rw[Yo,yG];refine YL (i:=3) Jl.nd rfl (.inl rfl) (Zt (Xi (ze z.len rfl (pq 4 rfl)) (ze z.len rfl (pqc 2 rfl)))) ?_;refine YL (i:=2) Jl.nd rfl (.inr rfl) (pq 4 rfl) ?_;rw[Yo,Yo];show W3 _ B [] [some (.lst (yB hs)),some (.lst (yJ rs)),some (.lst (yB (jJ hs rs L))),some (.bl (decide (((L.length:Nat):Int)<((jJ hs rs L).length:Nat)))),some (.lst (yB (jJ hs rs L)))] Ω _;have le:=wX st;have lh:(jJ hs rs L).length<=hs.length:=y9 _ _;by_cases g:L.length<(jJ hs rs L).length
  ·rw[yI (by omega)];refine yV ⟨⟨_,true,_,rfl,.inl ⟨rfl,xn st⟩⟩,?_⟩;show(if true=true then hs.length+1 - (yB (jJ hs rs L)).length else 0)<if true=true then hs.length+1 - (yB L).length else 0
   rw[yc rfl,yc rfl,Yo,Yo];omega
  ·rw[yv (by omega)];refine yV ⟨⟨_,false,_,rfl,.inr ⟨rfl,yb5 st (by omega) h3⟩⟩,?_⟩;show(if false=true then hs.length+1 - (yB (jJ hs rs L)).length else 0)<if true=true then hs.length+1 - (yB L).length else 0
   rw[yb yE,yc rfl,Yo];omega
 ·obtain⟨_,rfl⟩:b=false/\L=jN hs rs:=hb.resolve_left fun h=>by rw[h.1] at hk;cases hk
  refine Y4 (pqc 2 rfl) ?_;rfl
end
section
variable {P:Program}{w:World}{K:W.Frag}{mg:Str->Option Value}{base:Heap}{C_Grammar C_Sums:Addr}
variable (P w K mg base C_Grammar) in
abbrev ydV:Prop:=OkI P w K mg base CX0 36 "Grammar" C_Grammar ["self", "start", "rules"] (spI K 3 C_Grammar yf0)
theorem xk (z:Zs mg)(c_Grammar:ClsG K C_Grammar)(d:Zu K mg "Grammar" C_Grammar "Grammar.__init__" qc ["self", "start", "rules"])(o_check_rules:yea P w K mg base)(o_heads_of:yfh P w K mg base)(o_check_start:ye0 P w K mg base)(o_check_sums:ydk P w K mg base)(o_live_of:yfl P w K mg base):ydV P w K mg base C_Grammar:=by
 refine yfy d ZQ rfl fun f cdv A outer s H E hr a ds r hC B hB=>?_;obtain⟨st,rs,rfl,rfl,gv⟩:=hC;have l2:=gv.l2;have fl:=Xl (rs:=rs);refine wn (Yi (d:=.non) o_check_rules (hr.mono (by decide)) rfl (yd (pq 2 rfl) yt) ?_) ?_
 ·exact⟨rs,rfl,rfl,gv.l1,gv.l2,gv.ok,gv.nd⟩
 refine JK (a:=a) (pq 0 rfl) c_Grammar.c c_Grammar.n_first (Yj (pq 1 rfl) ⟨[],[],[],List.Perm.refl _,by simp,by decide,?_⟩);refine JK (a:=a) (pq 0 rfl) c_Grammar.c c_Grammar.n_kept_rules (Yj (PF3.p (ZO z.list rfl (pq 2 rfl) (.inl rfl))) ⟨_,_,[],List.Perm.refl _,by decide,by decide,?_⟩);refine JK (a:=a) (pq 0 rfl) c_Grammar.c c_Grammar.n_kept_heads (Yj (Yi (d:=.lst (yB (yz rs))) o_heads_of (hr.mono (by decide)) rfl (yd (pq 2 rfl) yt) ⟨rs,rfl,rfl,gv.l2⟩) ⟨_,_,[],List.Perm.refl _,by decide,by decide,?_⟩);refine ww (Kz (L:=true) (d:=.non) (Γ':=[some (.obj C_Grammar ["first", "kept_rules", "kept_heads"] [.str st,.lst (yJ rs),.lst (yB (yz rs))]),some (.str st),some (.lst (yJ rs))]) (Yi o_check_start (hr.mono (by decide)) rfl (yd (pq 1 rfl) (yd (zA (pq 0 rfl) c_Grammar.c c_Grammar.n_kept_heads rfl) yt)) ⟨st,yz rs,rfl,rfl,gv.st⟩) (JS (i:=0) jm rfl (yu.mpr rfl) ZP) (jQ vj vV) rfl ?_);refine ww (Kz (L:=true) (d:=.non) (Γ':=[some (.obj C_Grammar ["first", "kept_rules", "kept_heads"] [.str st,.lst (yJ rs),.lst (yB (yz rs))]),some (.str st),some (.lst (yJ rs))]) (Yi o_check_sums (hr.mono (by decide)) rfl (yd (zA (pq 0 rfl) c_Grammar.c c_Grammar.n_kept_heads rfl) (yd (pq 2 rfl) yt)) ⟨yz rs,rs,rfl,rfl,gv.l2,gv.one,fun r hr'=>⟨YG (gv.ok r hr').2.2.2.2,gv.sz r hr'⟩⟩) (JS (i:=0) jm rfl (yu.mpr rfl) ZP) (jQ vj vV) rfl ?_);refine JK (a:=a) (pq 0 rfl) c_Grammar.c c_Grammar.n_kept_live (Kz (L:=true) (d:=.lst (yB (jN (yz rs) rs))) (Γ':=[some (.obj C_Grammar ["first", "kept_rules", "kept_heads"] [.str st,.lst (yJ rs),.lst (yB (yz rs))]),some (.str st),some (.lst (yJ rs))]) (Yi o_live_of (hr.mono (by decide)) rfl (yd (zA (pq 0 rfl) c_Grammar.c c_Grammar.n_kept_heads rfl) (yd (pq 2 rfl) yt)) ⟨yz rs,rs,rfl,rfl,gv.l2,by omega,fun r hr'=>Z1.mpr (yo.mpr ⟨r,hr',rfl⟩),fun r hr'=>(gv.ok r hr').2.2.1⟩) (JS (i:=0) jm rfl (yu.mpr rfl) ZP) (jQ vj vV) wI ⟨_,_,[],List.Perm.refl _,by decide,by decide,?_⟩);exact yV rfl
variable (P w K mg base C_Grammar) in
abbrev yeZ:Prop:=OkM P w K mg base CX0 2 C_Grammar "start" ["self"] (spP K 1 (yeP C_Grammar))
theorem Vl (c_Grammar:ClsG K C_Grammar)(d:qi K C_Grammar "start" "Grammar.start" qO ["self"])  : yeZ P w K mg base C_Grammar:=by
 refine ky d VA rfl fun f cdv A outer s H E hr ds r hC B hB=>?_;obtain⟨st,rs,rfl,rfl⟩:=hC;refine Y4 (zA (pq 0 rfl) c_Grammar.c c_Grammar.n_first rfl) ?_;rfl
variable (P w K mg base C_Grammar) in
abbrev ycT:Prop:=OkM P w K mg base CX0 2 C_Grammar "rules" ["self"] (spF K 1 (yeY C_Grammar))
theorem Vz (z:Zs mg)(c_Grammar:ClsG K C_Grammar)(d:qi K C_Grammar "rules" "Grammar.rules" qP ["self"])  : ycT P w K mg base C_Grammar:=by
 refine Kk d Ve rfl fun f cdv A outer s H E hr ds gs hC B hB=>?_;obtain⟨st,rs,rfl,rfl⟩:=hC;exact JX (UJ (ZO z.list rfl (zA (pq 0 rfl) c_Grammar.c c_Grammar.n_kept_rules rfl) (.inl rfl)) fun p=>⟨p,rfl,rfl⟩)
variable (P w K mg base C_Grammar) in
abbrev xU:Prop:=OkM P w K mg base CX0 2 C_Grammar "heads" ["self"] (spF K 1 (ydB C_Grammar))
theorem Vp (z:Zs mg)(c_Grammar:ClsG K C_Grammar)(d:qi K C_Grammar "heads" "Grammar.heads" qV ["self"])  : xU P w K mg base C_Grammar:=by
 refine Kk d Vi rfl fun f cdv A outer s H E hr ds gs hC B hB=>?_;obtain⟨st,rs,rfl,rfl⟩:=hC;exact JX (UJ (ZO z.list rfl (zA (pq 0 rfl) c_Grammar.c c_Grammar.n_kept_heads rfl) (.inl rfl)) fun p=>⟨p,rfl,rfl⟩)
variable (P w K mg base C_Grammar) in
abbrev xM:Prop:=OkM P w K mg base CX0 2 C_Grammar "live" ["self"] (spF K 1 (yfH C_Grammar))
theorem VZ (z:Zs mg)(c_Grammar:ClsG K C_Grammar)(d:qi K C_Grammar "live" "Grammar.live" Qi ["self"])  : xM P w K mg base C_Grammar:=by
 refine Kk d V1 rfl fun f cdv A outer s H E hr ds gs hC B hB=>?_;obtain⟨st,rs,rfl,rfl⟩:=hC;exact JX (UJ (ZO z.list rfl (zA (pq 0 rfl) c_Grammar.c c_Grammar.n_kept_live rfl) (.inl rfl)) fun p=>⟨p,rfl,rfl⟩)
end
section
variable {P:Program}{w:World}{K:W.Frag}{mg:Str->Option Value}{base:Heap}{C_Grammar C_Sums:Addr}
variable (P w K mg base) in
abbrev U4:Prop:=OkF P w K mg base CX0 34 "sum_of_products" ["pairs"] (spP K 1 yjE)
theorem vd (ht:P.given.tree=none)(g_NOUGHT:qF K mg "NOUGHT" (sh 0))(d:yZ K mg "sum_of_products" Y5 ["pairs"])(o_common_divisor:yaS P w K mg base)(o_share:yaO P w K mg base):U4 P w K mg base:=by
 refine YD d YO rfl fun f cdv A outer s H E hr ds r hC B hB=>?_;obtain⟨ps,s',rfl,rfl,hp,hb,hs⟩:=hC;have py:Pyl (cx0 P w K mg base ["pairs", "top", "bottom", "one", "other", "below", "divisor"] "sum_of_products" Y5 f cdv A outer s H E):=(kP ht rfl rfl hr (by decide)).nox;refine YL (i:=1) YO.nd rfl (.inl rfl) yw ?_;refine YL (i:=2) YO.nd rfl (.inl rfl) yw ?_;refine j8 PassesOwn.never rfl (Qk (pq 0 rfl)) (fun i Γ _=>∃ (t b:Int) (x3 x4 x5 x6:Option D),SopOk s' (ps.take i) i t b/\Γ=[some (.lst (ps.map Zj)),some (.int t),some (.int b),x3,x4,x5,x6]) ⟨0,1,_,_,_,_,yjq,rfl⟩ ?_ ?_
 ·rintro i d Γ Ω hd ⟨t,b,x3,x4,x5,x6,so,rfl⟩;obtain⟨p,hp',rfl⟩:=kd hd;have hi:i<ps.length:=(al_getElem?_eq_some_iff.mp hp').1;have hq:=hp p (al_mem_of_getElem? hp');have hB:i*(2*s'+1)+1<=big:=by
   refine yQ ?_ hb;unfold yiP;have:i*(2*s'+1)<=ps.length*(4*s'+2):=Y1 (qS hi) (by omega);omega
  have hB':big=67108864:=rfl;have he:0<(p.1.den:Int)*(p.2.den:Int):=jg (My.den_pos' _) (My.den_pos' _);have g0:0<My.G b ((p.1.den:Int)*(p.2.den:Int)):=My.G_pos he;have eb:((p.1.den:Int)*(p.2.den:Int)).natAbs<2 ^ (s'+s'):=YZ (QQ hq.1.2) (QQ hq.2.2);have c1:=Kh (a:=b) (g:=My.G b ((p.1.den:Int)*(p.2.den:Int))) (yx so.b0) g0;have c2:=Kh (a:=(p.1.den:Int)*(p.2.den:Int)) (g:=My.G b ((p.1.den:Int)*(p.2.den:Int))) (yx he) g0;have b1:=Zh c1 so.bb;have b2:=Zh c2 eb;have bn:(p.1.num*p.2.num).natAbs<2 ^ (s'+s'):=YZ hq.1.2.1 hq.2.2.1;refine⟨_,(kI rfl (QL (Yc (i:=3) YO.nd rfl (.inl rfl)) (QL (Yc (i:=4) YO.nd rfl (.inl rfl)) Z9))),?_⟩;refine JA (PW3.t (Vd (Y8 (ybU hr.units (pq 3 rfl) (qa g_NOUGHT rfl) Jz Jy)) fun _=>(ZG (Y8 (ybU hr.units (pq 4 rfl) (qa g_NOUGHT rfl) Jz Jy))))) ?_ ?_
  ·intro hk;refine YL (i:=5) YO.nd rfl (.inl rfl) (jr (yX (pq 3 rfl) yw rfl) (yX (pq 4 rfl) yw rfl) ?_) ?_
   ·exact jX (QQ hq.1.2) (QQ hq.2.2) (by omega)
   refine YL (i:=6) YO.nd rfl (.inl rfl) (Yi (d:=.int (My.G b ((p.1.den:Int)*(p.2.den:Int)))) o_common_divisor (hr.mono (by decide)) rfl (yd (pq 2 rfl) (yd (pq 5 rfl) yt)) ?_) ?_
   ·exact⟨_,_,rfl,rfl,yx so.b0,yx he⟩
   refine YL (i:=1) YO.nd rfl (.inl rfl) (Jg (jr (pq 1 rfl) (Q1 py (pq 5 rfl) (pq 6 rfl) ?_) ?_) (jr (jr (yX (pq 3 rfl) yw rfl) (yX (pq 4 rfl) yw rfl) ?_) (Q1 py (pq 2 rfl) (pq 6 rfl) ?_) ?_)) ?_
   ·exact g0
   ·exact jX so.tb b2 (by omega)
   ·exact jX hq.1.2.1 hq.2.2.1 (by omega)
   ·exact g0
   ·exact jX bn b1 (by omega)
   refine YL (i:=2) YO.nd rfl (.inl rfl) (jr (Q1 py (pq 2 rfl) (pq 6 rfl) ?_) (pq 5 rfl) ?_) ?_
   ·exact g0
   ·exact jX b1 eb (by omega)
   refine yV (yV ⟨_,_,_,_,_,_,?_,rfl⟩);rw[yW hp'];exact so.more hq.1 hq.2
  ·intro hk;refine yV (yV ⟨t,b,_,_,_,_,?_,rfl⟩);rw[yW hp'];refine so.skip ?_;rw[jE,jE] at hk;by_cases z:p.1=0
   ·exact .inl z
   ·refine .inr ?_;simpa [z] using hk
 ·rintro Γ Ω ⟨t,b,x3,x4,x5,x6,so,rfl⟩;rw[ye,yG] at so;refine Y4 (Yi (d:=sh (Jq ps)) o_share (hr.mono (by decide)) rfl (yd (pq 1 rfl) (yd (pq 2 rfl) yt)) ?_) ?_
  ·exact⟨t,b,rfl,by rw[so.e],so.t0,so.b0⟩
  rfl
variable (P w K mg base) in
abbrev ycL:Prop:=OkF P w K mg base CX0 2 "is_step" ["rule", "heads"] (spP K 2 ygg)
theorem Xg (z:Zs mg)(d:yZ K mg "is_step" zx ["rule", "heads"])  : ycL P w K mg base:=by
 refine YD d XS rfl fun f cdv A outer s H E hr ds r hC B hB=>?_;obtain⟨r,L,rfl,rfl⟩:=hC;by_cases h1:r.2.1.length=1
 ·obtain⟨x,hx⟩:∃ x,r.2.1=[x]:=List.length_eq_one_iff.mp h1;have hx':(r.2.1.map D.str)=[D.str x]:=by rw[hx];rfl
  refine Y4 (yao (Zt (vK (jD z.len rfl (yX (pq 0 rfl) yw rfl)) yw)) fun _=>(WX (Zt (yhZ hr.units (yX (d:=.str x) (yX (pq 0 rfl) yw rfl) yw ?_) (pq 1 rfl) (.inl rfl) ?_)))) ?_
  ·show atI (r.2.1.map D.str) 0=_;rw[hx'];rfl
  ·exact j3
  show D.bl _=D.bl _;rw[jA];unfold qE;rw[hx];simp
 ·have e:decide (((r.2.1.map D.str).length:Int)=1)=false:=yv (by rw[ye];omega);refine Y4 (jZ (d:=.bl (qE L r)) (yao (k':=false) (Zt (vK (jD z.len rfl (yX (pq 0 rfl) yw rfl)) yw)) fun hk=>by rw[e] at hk;cases hk) ?_) rfl;show D.bl (_&&false)=D.bl (qE L r);rw[Bool.and_false];unfold qE;split
  ·rename_i x hx;rw[hx] at h1;exact absurd rfl h1
  ·rfl
variable (P w K mg base C_Grammar) in
abbrev ydK:Prop:=OkF P w K mg base CX0 3 "live_rules" ["grammar"] (spP K 1 (ygf C_Grammar))
theorem uk (c_Grammar:ClsG K C_Grammar)(d:yZ K mg "live_rules" jk ["grammar"])(o_Grammar_heads:xU P w K mg base C_Grammar)(o_Grammar_live:xM P w K mg base C_Grammar)(o_Grammar_rules:ycT P w K mg base C_Grammar)(o_is_live_body:Xu P w K mg base):ydK P w K mg base C_Grammar:=by
 refine YD d zd rfl fun f cdv A outer s H E hr ds r hC B hB=>?_;obtain⟨st,rs,rfl,rfl,h1,h2⟩:=hC;refine YL (i:=1) zd.nd rfl (.inr rfl) (PF3.p (Zw (ds:=yB (yz rs)) o_Grammar_heads c_Grammar.c (hr.mono (by decide)) (pq 0 rfl) zE ?_)) ?_
 ·exact⟨st,rs,rfl,rfl⟩
 refine YL (i:=2) zd.nd rfl (.inr rfl) (PF3.p (Zw (ds:=yB (jN (yz rs) rs)) o_Grammar_live c_Grammar.c (hr.mono (by decide)) (pq 0 rfl) zY ?_)) ?_
 ·exact⟨st,rs,rfl,rfl⟩
 refine Y4 (PF3.p (QO (SX:=yj jk) (XN:=["grammar", "heads", "live"]) (N:=["rule", "heads", "live"]) (nt:=1) (caps:=[1,2]) (pre:=(fun i=>yJ ((rs.take i).filter fun r=>qA (yz rs) (jN (yz rs) rs) r.2.1))) ⟨rfl,by decide +kernel,by decide +kernel,by decide +kernel,rfl,by decide +kernel⟩ (Qk (PF3.p (Zw (ds:=yJ rs) o_Grammar_rules c_Grammar.c (hr.mono (by decide)) (pq 0 rfl) Vx ?_))) ?_ ?_ ?_)) ?_
 ·exact⟨st,rs,rfl,rfl⟩
 ·intro i hi;rw[Yt,sizeLine_eq];have:=y9 (fun r:yF=>qA (yz rs) (jN (yz rs) rs) r.2.1) (rs.take i);rw[yS] at this;omega
 ·rfl
 ·intro c i d hd;obtain⟨r,hr',rfl⟩:=qT hd;cases q:qA (yz rs) (jN (yz rs) rs) r.2.1 with
  |true=>
   refine⟨_,(Yc (i:=0) (show List.Nodup (α:=Str) ["rule", "heads", "live"] by decide +kernel) rfl (.inl rfl)),(Sub.set rfl),.inl ⟨Jf r,(Z0 (zh (Yi (d:=.bl true) o_is_live_body (hr.mono (by decide)) rfl (yd (yX (pq 0 rfl) yw rfl) (yd (pqc 1 rfl) (yd (pqc 2 rfl) yt))) ?_))),(pq 0 rfl),?_⟩⟩
   ·exact⟨r.2.1,_,_,rfl,by rw[q],h2 r (al_mem_of_getElem? hr')⟩
   ·show yJ ((rs.take (i+1)).filter fun r=>qA (yz rs) (jN (yz rs) rs) r.2.1)=_;rw[yW hr',YS,y4 (p:=fun r:yF=>qA (yz rs) (jN (yz rs) rs) r.2.1) q];unfold yJ;rw[yr];rfl
  |false=>
   refine⟨_,(Yc (i:=0) (show List.Nodup (α:=Str) ["rule", "heads", "live"] by decide +kernel) rfl (.inl rfl)),(Sub.set rfl),.inr ⟨(Z0 (zh (Yi (d:=.bl false) o_is_live_body (hr.mono (by decide)) rfl (yd (yX (pq 0 rfl) yw rfl) (yd (pqc 1 rfl) (yd (pqc 2 rfl) yt))) ?_))),?_⟩⟩
   ·exact⟨r.2.1,_,_,rfl,by rw[q],h2 r (al_mem_of_getElem? hr')⟩
   ·show yJ ((rs.take (i+1)).filter fun r=>qA (yz rs) (jN (yz rs) rs) r.2.1)=_;rw[yW hr',YS,y3 (p:=fun r:yF=>qA (yz rs) (jN (yz rs) rs) r.2.1) (fun z=>by rw[q] at z;cases z)];simp
 rw[Yt,yG];rfl
variable (P w K mg base) in
abbrev yfk:Prop:=OkF P w K mg base CX0 2 "stretches" ["row"] (spP K 1 yh0)
theorem UH (z:Zs mg)(d:yZ K mg "stretches" QH ["row"])  : yfk P w K mg base:=by
 refine YD d zL rfl fun f cdv A outer s H E hr ds r hC B hB=>?_;obtain⟨row,rfl,rfl,h1⟩:=hC;refine vM (i:=1) zL.nd rfl (.inl rfl) (zg yt) fun l=>?_;refine j8 PassesOwn.never rfl (KN (n:=row.length) (lo:=1) z.range rfl yw (Jg (jD z.len rfl (pq 0 rfl)) yw) ?_ ?_ ?_) (fun i Γ Ω=>∃ x,Γ=[some (Ye row),some (.raw (.ref l)),x]/\Ω=[(l,qg K ((uQ row.length i).map uL))]) ?_ ?_ ?_
 ·rfl
 ·rw[ye];omega
 ·rw[ye];omega
 ·exact⟨_,rfl,rfl⟩
 ·rintro i d Γ Ω hd ⟨x,rfl,rfl⟩;obtain⟨hi,rfl⟩:=J3 hd;refine⟨_,(Yc (i:=2) zL.nd rfl (.inr rfl)),?_⟩;refine yeF (i:=1) rfl (.inl rfl) rfl (QO (SX:=yj QH) (XN:=["row", "found", "length"]) (N:=["i", "length"]) (nt:=1) (caps:=[2]) (pre:=(fun k=>((List.range k).map fun j=>(j,j+i+1)).map uL)) ⟨rfl,by decide +kernel,by decide +kernel,by decide +kernel,rfl,by decide +kernel⟩ (Zi (n:=row.length - i) z.range rfl (Jg (WY (jD z.len rfl (pq 0 rfl)) (pqc 2 rfl)) yw) ?_ ?_) ?_ ?_ ?_) ?_ ?_
  ·rw[ye];omega
  ·omega
  ·intro k hk;rw[ye,ye,List.length_range,sizeLine_eq];rw[QX] at hk;omega
  ·rfl
  ·intro c k d hd;obtain⟨hk,rfl⟩:=J3 hd;refine⟨_,(Yc (i:=0) (show List.Nodup (α:=Str) ["i", "length"] by decide +kernel) rfl (.inl rfl)),(Sub.set rfl),.inl ⟨uL (k,k+i+1),Ji,(jZ (QJ (yd (pq 0 rfl) (yd (Jg (pq 0 rfl) (pqc 1 rfl)) yt))) ?_),?_⟩⟩
   ·have e:((0+k:Nat):Int)+((1+i:Nat):Int)=((k+i+1:Nat):Int):=by omega
    show D.tup [.int ((0+k:Nat):Int),.int (((0+k:Nat):Int)+((1+i:Nat):Int))]=D.tup [.int (k:Int),.int ((k+i+1:Nat):Int)];rw[e,QE]
   ·show((List.range (k+1)).map fun j=>(j,j+i+1)).map uL=_;rw[Y9,yr,yr];rfl
  ·rw[QX,ye,ye,ye,List.length_range,sizeLine_eq];have:=yb7 (n:=row.length) (i:=i);have:row.length*i<=10*10:=Y1 h1 (by omega);omega
  ·refine yV ⟨_,rfl,?_⟩;rw[KU,yr,QX];rfl
 ·rintro Γ Ω ⟨x,rfl,rfl⟩;rw[QX];refine jv (i:=1) rfl ?_;refine Y4 (pq 1 rfl) ?_;rfl
variable (P w K mg base) in
abbrev ydb:Prop:=OkF P w K mg base CX0 38 "chains_of" ["heads", "steps"] (spP K 2 ydF)
theorem Uu (z:Zs mg)(g_NOUGHT:qF K mg "NOUGHT" (sh 0))(g_ONE:qF K mg "ONE" (sh 1))(d:yZ K mg "chains_of" Q5 ["heads", "steps"])(o_solved_rows:ydj P w K mg base):ydb P w K mg base:=by
 refine YD d qZ rfl fun f cdv A outer s H E hr ds r hC B hB=>?_;obtain⟨L,ss,s',rfl,rfl,nd,hL,hss,hb1,hkn,hsz,hs1,hsk,hpv⟩:=hC;refine QM (i:=2) qZ.nd rfl (.inr rfl) (yer fun l=>?_);refine j8 PassesOwn.never rfl (Qk (pq 1 rfl)) (fun i Γ Ω=>∃ x3,Γ=[some (.lst (yB L)),some (.lst (yJ ss)),some (.raw (.ref l)),x3,none,none,none,none,none]/\Ω=[(l,oDt K (((ss.take i).map fun r=>(r.1,b0 r)).map kW) (((ss.take i).map (·.2.2)).map sh))]) ⟨_,rfl,rfl⟩ ?_ ?_
 ·rintro i d Γ Ω hd ⟨x3,rfl,rfl⟩;obtain⟨r,hr',rfl⟩:=qT hd;obtain⟨y,hy⟩:=hb1 r (al_mem_of_getElem? hr');have hn:=va (f:=fun r:yF=>(r.1,b0 r)) hkn hr';have ey:b0 r=y:=by unfold b0;rw[hy];rfl
  have hi:i<ss.length:=(al_getElem?_eq_some_iff.mp hr').1;refine⟨_,(Yc (i:=3) qZ.nd rfl (.inl rfl)),?_⟩;refine ycA (k:=kW (r.1,b0 r)) hr.units (Yj (pqc 2 rfl) ⟨rfl,rfl⟩) (yd (yX (pq 3 rfl) yw rfl) (yd (yX (d:=.str (b0 r)) (yX (pq 3 rfl) yw rfl) yw ?_) yt)) (yX (pq 3 rfl) yw rfl) (List.Perm.refl _) ?_ ?_
  ·show atI (r.2.1.map D.str) 0=_;rw[ey,hy];rfl
  ·rw[ye,ye,yS,sizeLine_eq];omega
  ·refine yV ⟨_,rfl,?_⟩;have e1:pK (((ss.take i).map fun r=>(r.1,b0 r)).map kW) (kW (r.1,b0 r))=((ss.take (i+1)).map fun r=>(r.1,b0 r)).map kW:=by
    rw[xI Xn,yW hr',yr];unfold pK;rw[yb hn];rfl
   have e2:pA (((ss.take i).map fun r=>(r.1,b0 r)).map kW) (((ss.take i).map (·.2.2)).map sh) (kW (r.1,b0 r)) (sh r.2.2)=((ss.take (i+1)).map (·.2.2)).map sh:=by
    rw[XD Xn,yW hr',yr];unfold pA;rw[yb hn];rfl
   rw[e1,e2];rfl
 ·rintro Γ Ω ⟨x3,rfl,rfl⟩;rw[Yt,yG];refine yhq (i:=2) rfl ?_;refine vM (i:=4) qZ.nd rfl (.inl rfl) (zg yt) fun l4=>?_;refine vM (i:=5) qZ.nd rfl (.inl rfl) (zg yt) fun l5=>?_;refine j8 PassesOwn.never rfl (Qk (pq 0 rfl)) (fun i Γ Ω=>∃ x6,Γ=[some (.lst (yB L)),some (.lst (yJ ss)),some (.dt ((ss.map fun r=>(r.1,b0 r)).map kW) ((ss.map (·.2.2)).map sh)),x3,some (.raw (.ref l4)),some (.raw (.ref l5)),x6,none,none]/\Ω=[(l5,qg K (tb i fun r=>shR L.length (idM L r))),(l4,qg K (tb i fun r=>shR L.length (wM2 L ss r)))]) ⟨_,rfl,rfl⟩ ?_ ?_
  ·rintro i d Γ Ω hd ⟨x6,rfl,rfl⟩;obtain⟨h,hh,rfl⟩:=Qx hd;have hi:i<L.length:=(al_getElem?_eq_some_iff.mp hh).1;have eh:L.getD i "" = h:=by rw[al_getD_eq_getElem?_getD,hh];rfl
   refine⟨_,(Yc (i:=6) qZ.nd rfl (.inr rfl)),?_⟩;refine za (List.Perm.swap ..) ?_;refine JL (i:=4) rfl (.inl rfl) rfl (PF3.p (QO (SX:=yj Q5) (XN:=["heads", "steps", "straight", "rule", "ways", "ends", "head", "chains", "found"]) (N:=["other", "straight", "head"]) (nt:=1) (caps:=[2,6]) (pre:=(fun k=>tb k fun j=>sh (wM2 L ss i j))) ⟨rfl,by decide +kernel,by decide +kernel,by decide +kernel,rfl,by decide +kernel⟩ (Qk (pq 0 rfl)) ?_ ?_ ?_)) ?_ ?_
   ·intro k hk;rw[Yo] at hk;rw[Yv,sizeLine_eq];omega
   ·rfl
   ·intro c k d hd;obtain⟨o,ho,rfl⟩:=Qx hd;refine⟨_,(Yc (i:=0) (show List.Nodup (α:=Str) ["other", "straight", "head"] by decide +kernel) rfl (.inl rfl)),(Sub.set rfl),.inl ⟨sh (wM2 L ss i k),Ji,(jZ (yds (k:=kW (h,o)) hr.units (pqc 1 rfl) (yd (pqc 2 rfl) (yd (pq 0 rfl) yt)) (qa g_NOUGHT rfl)) ?_),?_⟩⟩
    ·unfold wM2;rw[eh,show L.getD k "" = o by rw[al_getD_eq_getElem?_getD,ho];rfl,Kg Xn];unfold JY;cases vA (ss.map fun r=>(r.1,b0 r)) (ss.map (·.2.2)) (h,o) <;> rfl
    ·exact jy
   ·rw[Yv,sizeLine_eq];omega
   rw[Yo];refine za (List.Perm.swap ..) ?_;refine JL (i:=5) rfl (.inl rfl) rfl (PF3.p (QO (SX:=yj Q5) (XN:=["heads", "steps", "straight", "rule", "ways", "ends", "head", "chains", "found"]) (N:=["other", "head"]) (nt:=1) (caps:=[6]) (pre:=(fun k=>tb k fun j=>sh (idM L i j))) ⟨rfl,by decide +kernel,by decide +kernel,by decide +kernel,rfl,by decide +kernel⟩ (Qk (pq 0 rfl)) ?_ ?_ ?_)) ?_ ?_
   ·intro k hk;rw[Yo] at hk;rw[Yv,sizeLine_eq];omega
   ·rfl
   ·intro c k d hd;obtain⟨o,ho,rfl⟩:=Qx hd;refine⟨_,(Yc (i:=0) (show List.Nodup (α:=Str) ["other", "head"] by decide +kernel) rfl (.inl rfl)),(Sub.set rfl),.inl ⟨sh (idM L i k),Ji,(yaw (d:=sh (idM L i k)) (Y8 (Kj (pqc 1 rfl) (pq 0 rfl))) (fun hc=>(jZ (qa g_ONE rfl) ?_)) (fun hc=>(jZ (qa g_NOUGHT rfl) ?_))),?_⟩⟩
    ·have hc:=of_decide_eq_true hc;unfold idM;rw[eh,show L.getD k "" = o by rw[al_getD_eq_getElem?_getD,ho];rfl,yc hc]
    ·have hc:=of_decide_eq_false hc;unfold idM;rw[eh,show L.getD k "" = o by rw[al_getD_eq_getElem?_getD,ho];rfl,yb hc]
    ·exact jy
   ·rw[Yv,sizeLine_eq];omega
   rw[Yo];refine yV ⟨_,rfl,?_⟩;rw[jy,jy];rfl
  ·rintro Γ Ω ⟨x6,rfl,rfl⟩;rw[Yo];refine jv (i:=5) rfl ?_;refine jv (i:=4) rfl ?_;refine QM (i:=7) qZ.nd rfl (.inl rfl) (yd9 fun lc=>?_);have gI:ZC L.length L.length s' (idM L):=fun i j _ _=>by
    unfold idM;split
    ·exact⟨by decide,wj.mono hs1⟩
    ·exact⟨by decide,wA.mono hs1⟩
   have gW:ZC L.length L.length s' (wM2 L ss):=fun i j _ _=>yaJ hsz hs1;refine j8 PassesOwn.never rfl (yeR z.zip rfl (pq 0 rfl) (Yi (d:=shM L.length L.length (chF L ss)) o_solved_rows (hr.mono (by decide)) rfl (yd (pq 4 rfl) (yd (pq 5 rfl) yt)) ?_)) (fun i Γ Ω=>∃ x6 x8,Γ=[some (.lst (yB L)),some (.lst (yJ ss)),some (.dt ((ss.map fun r=>(r.1,b0 r)).map kW) ((ss.map (·.2.2)).map sh)),x3,some (shM L.length L.length (wM2 L ss)),some (shM L.length L.length (idM L)),x6,some (.raw (.ref lc)),x8]/\Ω=[(lc,oDk K ((L.take i).map qj) (tb i fun r=>.dk (L.map qj) (tb L.length fun j=>sh (chF L ss r j))))]) ⟨_,_,rfl,rfl⟩ ?_ ?_
   ·exact⟨L.length,L.length,s',wM2 L ss,idM L,rfl,rfl,⟨by omega,by omega,gW,gI,hsk⟩,hpv⟩
   ·rintro i d Γ Ω hd ⟨x6,x8,rfl,rfl⟩;obtain⟨h,hi,hh,rfl⟩:=ydS hd;refine⟨_,(kI rfl (QL (Yc (i:=6) qZ.nd rfl (.inr rfl)) (QL (Yc (i:=8) qZ.nd rfl (.inl rfl)) Z9))),?_⟩;refine xg (k:=qj h) hr.units (pq 7 rfl) (pqc 6 rfl) (Yj (yb2 rfl z.dict rfl z.zip rfl (jZ (pq 0 rfl) (congrArg D.lst Ua)) (pq 8 rfl) (KB nd) ?_ ?_) ⟨_,_,[],List.Perm.refl _,?_,?_⟩)
    ·rw[ye,Yv]
    ·rw[ye,sizeLine_eq];omega
    ·rw[ye,yS,sizeLine_eq];omega
    ·refine yV ⟨_,_,rfl,?_⟩;have hn:qj h∉(L.take i).map qj:=fun z=>by
      have:=va (f:=fun x:Str=>x) (by simpa using nd) hh;exact this (by simpa using (Zr zo).mp z)
     have e1:pK ((L.take i).map qj) (qj h)=(L.take (i+1)).map qj:=by
      unfold pK;rw[yb hn,yW hh,yr];rfl
     have e2:∀ v:D,pA ((L.take i).map qj) (tb i fun r=>D.dk (L.map qj) (tb L.length fun j=>sh (chF L ss r j))) (qj h) v=(tb i fun r=>D.dk (L.map qj) (tb L.length fun j=>sh (chF L ss r j)))++[v]:=fun v=>by
      unfold pA;rw[yb hn]
     rw[e1,e2,jy];rfl
   ·rintro Γ Ω ⟨x6,x8,rfl,rfl⟩;rw[ydA,yG];refine yd4 (i:=7) rfl ?_;refine Y4 (pq 7 rfl) ?_;rfl
end
section
variable {P:Program}{w:World}{K:W.Frag}{mg:Str->Option Value}{base:Heap}{C_Grammar C_Sums:Addr}
variable (P w K mg base C_Sums) in
abbrev xH:Prop:=OkM P w K mg base CX0 2 C_Sums "within" ["self", "head", "i", "j"] (spP K 4 (ycU C_Sums))
theorem Kl (c_Sums:ClsS K C_Sums)(g_NOUGHT:qF K mg "NOUGHT" (sh 0))(d:qi K C_Sums "within" "Sums.within" jw ["self", "head", "i", "j"])  : xH P w K mg base C_Sums:=by
 refine ky d KH rfl fun f cdv A outer s H E hr ds r hC B hB=>?_;obtain⟨g,row,hs,br,ch,kw,kn,h,i,j,rfl,rfl⟩:=hC;refine Y4 (yds (k:=kS (h,i,j)) hr.units (zA (pq 0 rfl) c_Sums.c c_Sums.n_known_sums rfl) (yd (pq 1 rfl) (yd (pq 2 rfl) (yd (pq 3 rfl) yt))) (qa g_NOUGHT rfl)) ?_;show(vA (kn.1.map kS) (kn.2.map sh) (kS (h,i,j))).getD (sh 0)=sh (zb kn h i j);rw[Kg xV];unfold zb;cases vA kn.1 kn.2 (h,i,j) <;> rfl
variable (P w K mg base C_Grammar C_Sums) in
abbrev ycP:Prop:=OkM P w K mg base CX0 3 C_Sums "whole" ["self"] (spP K 1 (ycm C_Sums C_Grammar))
theorem uf (z:Zs mg)(c_Sums:ClsS K C_Sums)(c_Grammar:ClsG K C_Grammar)(d:qi K C_Sums "whole" "Sums.whole" jU ["self"])(o_Sums_within:xH P w K mg base C_Sums)(o_Grammar_start:yeZ P w K mg base C_Grammar):ycP P w K mg base C_Grammar C_Sums:=by
 refine ky d ue rfl fun f cdv A outer s H E hr ds r hC B hB=>?_;obtain⟨st,rs,row,hs,br,ch,kw,kn,rfl,rfl⟩:=hC;refine Y4 (wc (d:=sh (zb kn st 0 row.length)) o_Sums_within c_Sums.c (hr.mono (by decide)) (pq 0 rfl) Zg (yd (yfP (d:=.str st) o_Grammar_start c_Grammar.c (hr.mono (by decide)) (zA (pq 0 rfl) c_Sums.c c_Sums.n_grammar rfl) vZ ?_) (yd yw (yd (jD z.len rfl (zA (pq 0 rfl) c_Sums.c c_Sums.n_row rfl)) yt))) ?_) ?_
 ·exact⟨st,rs,rfl,rfl⟩
 ·exact⟨gD C_Grammar st rs,Ye row,hs,br,ch,kw,kn,st,0,row.length,by rw[ye];rfl,rfl⟩
 rfl
variable (P w K mg base C_Sums) in
abbrev xq:Prop:=OkM P w K mg base CX0 3 C_Sums "worth" ["self", "symbol", "i", "j"] (spP K 4 (ygK C_Sums))
theorem uh (c_Sums:ClsS K C_Sums)(g_NOUGHT:qF K mg "NOUGHT" (sh 0))(g_ONE:qF K mg "ONE" (sh 1))(d:qi K C_Sums "worth" "Sums.worth" j9 ["self", "symbol", "i", "j"])(o_Sums_within:xH P w K mg base C_Sums):xq P w K mg base C_Sums:=by
 refine ky d ul rfl fun f cdv A outer s H E hr ds r hC B hB=>?_;obtain⟨g,br,ch,kw,row,hs,kn,x,i,j,rfl,rfl,hi⟩:=hC;refine JA (Y8 (yhZ hr.units (pq 1 rfl) (zA (pq 0 rfl) c_Sums.c c_Sums.n_known_heads rfl) (.inl rfl) ?_)) ?_ ?_
 ·exact j3
 ·intro hk;rw[jA] at hk;have hk:=of_decide_eq_true hk;refine Y4 (wc (d:=sh (zb kn x i j)) o_Sums_within c_Sums.c (hr.mono (by decide)) (pq 0 rfl) Zg (yd (pq 1 rfl) (yd (pq 2 rfl) (yd (pq 3 rfl) yt))) ?_) ?_
  ·exact⟨_,_,_,_,_,_,kn,x,i,j,rfl,rfl⟩
  unfold woS;rw[yc hk]
 ·intro hk;rw[jA] at hk;have hk:=of_decide_eq_false hk;refine yV ?_;obtain⟨y,hr0⟩:∃ y,row[i]?=some y:=⟨_,al_getElem?_eq_getElem hi⟩
  refine Y4 (yaw (d:=sh (woS hs row kn i j x)) (PW3.t (Vd (Y8 (vK (pq 3 rfl) (Jg (pq 2 rfl) yw))) fun _=>(ZG (Y8 (Kj (yX (d:=.str y) (zA (pq 0 rfl) c_Sums.c c_Sums.n_row rfl) (pq 2 rfl) ?_) (pq 1 rfl)))))) (fun hc=>(jZ (qa g_ONE rfl) ?_)) (fun hc=>(jZ (qa g_NOUGHT rfl) ?_))) ?_
  ·exact j7 (by rw[al_getElem?_map,hr0];rfl)
  ·rw[Yg] at hc;have h1:=of_decide_eq_true hc.1;have h2:=of_decide_eq_true hc.2;unfold woS;rw[yb hk,yc ⟨by omega,by rw[hr0,h2]⟩]
  ·unfold woS;rw[yb hk,yb ?_];rintro⟨h1,h2⟩;rw[hr0] at h2;rw[yI (show(j:Int)=(i:Int)+1 by omega),yI (Option.some.inj h2)] at hc;cases hc
  rfl
end
section
variable {P:Program}{w:World}{K:W.Frag}{mg:Str->Option Value}{base:Heap}{C_Grammar C_Sums:Addr}
theorem zF (z:Zs mg)(c_Sums:ClsS K C_Sums)(g_NOUGHT:qF K mg "NOUGHT" (sh 0))(d:qi K C_Sums "sum_of_partings" "Sums.sum_of_partings" Y2 ["self", "body", "i", "j"])(o_Sums_worth:xq P w K mg base C_Sums)(o_sum_of_products:U4 P w K mg base){n:Nat}(ih:OkM P w K mg base CX0 (3*n+34) C_Sums "worth_of_body" ["self", "body", "i", "j"] (spS K 4 (omG P w K C_Sums) (ygH n))):OkM P w K mg base CX0 (3*n+34+1) C_Sums "sum_of_partings" ["self", "body", "i", "j"] (spS K 4 (omG P w K C_Sums) (yjA (n+1))):=by
 refine zt d qM rfl yjk fun f cdv A outer s H E hr t ds t' r hC B=>?_;obtain⟨x,y,rest,i,j,M,b,rfl,rfl,rfl,hn,hn4,hij,hjr,g,hkl⟩:=hC;have hB:big=67108864:=rfl;have hM:=g.d;have rl:=g.rl;have ac:=yaz (hs:=t.hs) (row:=t.row) (kn:=t.kn) (kw:=t.kw) (by omega) g.kn (x:=x) (y:=y) (rest:=rest) (i:=i) (j:=j) (Wz hM g.kn (y::rest) (by simp)) (by omega) g.kw;have np:nP (rest.length+2) i j<=4:=by unfold nP;omega
 have hp11:11 ^ (rest.length+1)<=11 ^ 3:=YC (by decide) (by omega);refine vM (i:=4) qM.nd rfl (.inl rfl) (zg yt) fun l=>?_;refine j8 PassesOwn.never rfl (KN (n:=nP (rest.length+2) i j) (lo:=i+1) z.range rfl (Jg (pq 2 rfl) yw) (Jg (WY (pq 3 rfl) (jD z.len rfl (pq 1 rfl))) yw) ?_ ?_ ?_) (fun k Γ Ω=>∃ x5 x6,Γ=[some (.raw (.ref t.a)),some (Ye (x::y::rest)),some (.int (i:Int)),some (.int (j:Int)),some (.raw (.ref l)),x5,x6]/\Ω=(l,qg K ((JE t x y rest i j k).1.map Zj))::omG P w K C_Sums {t with kw:=(JE t x y rest i j k).2}) ?_ ?_ ?_
 ·push_cast;omega
 ·rw[ye];unfold nP;simp only[ym];omega
 ·rw[ye];simp only[ym];omega
 ·exact⟨_,_,rfl,rfl⟩
 ·rintro k d Γ Ω hd ⟨x5,x6,rfl,rfl⟩;obtain⟨hk,rfl⟩:=J3 hd;have a:=ac k (by omega);have hm:i+1+k+1<=j:=by unfold nP at hk;omega
  have es:JE t x y rest i j (k+1)=qY (fun m=>woS t.hs t.row t.kn i m x) (fun m=>wBm t.hs t.row t.kn (y::rest) m j) i (JE t x y rest i j k) k:=by
   unfold JE;rw[Y9,Ym];rfl
  change AcOk M (9*(j - i) - 10) k (t.kw.length+k*11 ^ (rest.length+1)) (JE t x y rest i j k) at a;have hkm:k*11 ^ (rest.length+1)<=4*11 ^ 3:=Y1 (by omega) hp11;have kl:=a.kl;refine⟨_,(Yc (i:=5) qM.nd rfl (.inl rfl)),?_⟩;refine QM (i:=6) qM.nd rfl (.inl rfl) (yaf (L:=false) (d:=sh (woS t.hs t.row t.kn i (i+1+k) x)) (Γ':=[some (sO C_Sums t.g (Ye t.row) (.lst (yB t.hs)) (.lst (yJ t.br)) (chD t.L t.ch) (knD t.kn) (.raw (.ref t.c))),some (Ye (x::y::rest)),some (.int (i:Int)),some (.int (j:Int)),some (.raw (.ref l)),some (.int ((i+1+k:Nat):Int)),x6]) (wc o_Sums_worth c_Sums.c (hr.mono (by omega)) (pq 0 rfl) ZV (yd (yX (d:=.str x) (pq 1 rfl) yw (j7 (j:=0) rfl)) (yd (pq 2 rfl) (yd (pq 5 rfl) yt))) ?_) (uv (i:=0) (j:=5) (a:=t.a) (b:=t.b) (WQ jm) rfl (yf _ yp) rfl (yf _ (yf _ yp))) (jQ Wi Uw) rfl ?_)
  ·exact⟨t.g,.lst (yJ t.br),chD t.L t.ch,.raw (.ref t.c),t.row,t.hs,t.kn,x,i,i+1+k,rfl,rfl,by omega⟩
  refine JA (Y8 (ybU hr.units (pq 6 rfl) (qa g_NOUGHT rfl) Jz Jy)) ?_ ?_
  ·intro hz;rw[jE] at hz;have hz:¬ woS t.hs t.row t.kn i (i+1+k) x=0:=by simpa using hz
   refine ybX (i:=4) (l:=l) rfl (.inl rfl) rfl yp (fun F o ⟨xs,e,_⟩=>⟨xs,e⟩) (yfe (jY (Yj (pq 6 rfl) (jY (vf (t:={t with kw:=(JE t x y rest i j k).2}) (t':={t with kw:=(wBm t.hs t.row t.kn (y::rest) (i+1+k) j (JE t x y rest i j k).2).2}) (d:=sh (wBm t.hs t.row t.kn (y::rest) (i+1+k) j (JE t x y rest i j k).2).1) (Ω4:=[(l,qg K ((JE t x y rest i j k).1.map Zj))]) ih c_Sums.c (hr.mono (by omega)) (pq 0 rfl) (yf _ yp) Jd (yd (jZ (d:=Ye (y::rest)) (wN (pq 1 rfl) (Vh yw) Vs ?_) ?_) (yd (pq 5 rfl) (yd (pq 3 rfl) yt))) rfl (YF (l₁:=[(l,qg K ((JE t x y rest i j k).1.map Zj))])) ?_ (ZF yt ⟨?_,_,omG P w K C_Sums {t with kw:=(wBm t.hs t.row t.kn (y::rest) (i+1+k) j (JE t x y rest i j k).2).2},YF,?_,?_⟩))))))
   ·rintro⟨h1,_⟩;simp[HT.sIx] at h1
   ·exact congrArg D.tup yjl
   ·exact⟨y::rest,i+1+k,j,M,b,rfl,rfl,rfl,by simp,by simp only[ym];omega,by omega,by omega,hjr,⟨g.d,g.db,g.bl,g.rl,g.kn,a.kw⟩,by show(JE t x y rest i j k).2.length+n*20000<=16000000;omega⟩
   ·show 2<=sizeLine;decide
   ·rw[ye,sizeLine_eq];have:=a.len;omega
   ·refine yV (yV ⟨_,_,rfl,?_⟩);rw[es];unfold qY;rw[yb hz,yr];rfl
  ·intro hz;rw[jE] at hz;have hz:woS t.hs t.row t.kn i (i+1+k) x=0:=by simpa using hz
   refine yV (yV ⟨_,_,rfl,?_⟩);rw[es];unfold qY;rw[yc hz]
 ·rintro Γ Ω ⟨x5,x6,rfl,rfl⟩;rw[QX];have a:=ac _ (yg _);change AcOk M (9*(j - i) - 10) _ _ (JE t x y rest i j (nP (rest.length+2) i j)) at a;refine JX (Kz (L:=false) (d:=sh (Jq (JE t x y rest i j (nP (rest.length+2) i j)).1)) (Γ':=[some (.raw (.ref t.a)),some (Ye (x::y::rest)),some (.int (i:Int)),some (.int (j:Int)),some (.lst ((JE t x y rest i j (nP (rest.length+2) i j)).1.map Zj)),x5,x6]) (Yi o_sum_of_products (hr.mono (by omega)) rfl (yd (pq 4 rfl) yt) ?_) (JS (i:=4) jm rfl yp v7) (jQ Wi Uw) rfl ⟨rfl,fun p hp=>yf _ hp⟩);refine⟨_,1650001,rfl,rfl,fun p hp=>⟨g.sz (a.prs p hp).2.1 (by omega),g.sz (a.prs p hp).2.2 (by omega)⟩,ybc (by have:=a.len;omega),X4⟩
theorem zN (z:Zs mg)(c_Sums:ClsS K C_Sums)(g_NOUGHT:qF K mg "NOUGHT" (sh 0))(d:qi K C_Sums "worth_of_body" "Sums.worth_of_body" qG ["self", "body", "i", "j"])(d':qi K C_Sums "sum_of_partings" "Sums.sum_of_partings" Y2 ["self", "body", "i", "j"])(o_Sums_worth:xq P w K mg base C_Sums)(o_sum_of_products:U4 P w K mg base):∀ n,OkM P w K mg base CX0 (3*n+34) C_Sums "worth_of_body" ["self", "body", "i", "j"] (spS K 4 (omG P w K C_Sums) (ygH n)):=by
 intro n
 induction n with
 |zero=>
  refine zt (k:=33) d Je rfl ygS fun f cdv A outer s H E hr t ds t' r hC B=>?_;obtain⟨body,i,j,M,b,rfl,rfl,rfl,h1,h2,_⟩:=hC;omega
 |succ n ih=>
  have op:=zF z c_Sums g_NOUGHT d' o_Sums_worth o_sum_of_products ih;refine zt (k:=3*n+36) d Je rfl ygS fun f cdv A outer s H E hr t ds t' r hC B=>?_;obtain⟨body,i,j,M,b,rfl,rfl,rfl,h1,h2,hn4,hij,hjr,g,hkl⟩:=hC;obtain⟨a,b',c,gd,row,hs,br,L,ch,kn,kw⟩:=t;dsimp only at hjr hkl ⊢
  match body,h1,h2 with
  |[x],_,_=>
   refine JA (Y8 (vK (jD z.len rfl (pq 1 rfl)) yw)) ?_ ?_
   ·intro _;rw[wBm];refine JX (yaf (L:=false) (d:=sh (woS hs row kn i j x)) (Γ':=[some (sO C_Sums gd (Ye row) (.lst (yB hs)) (.lst (yJ br)) (chD L ch) (knD kn) (.raw (.ref c))),some (Ye [x]),some (.int (i:Int)),some (.int (j:Int))]) (wc o_Sums_worth c_Sums.c (hr.mono (by omega)) (pq 0 rfl) ZV (yd (yX (d:=.str x) (pq 1 rfl) yw rfl) (yd (pq 2 rfl) (yd (pq 3 rfl) yt))) ⟨gd,.lst (yJ br),chD L ch,.raw (.ref c),row,hs,kn,x,i,j,rfl,rfl,by omega⟩) (uv (i:=0) (j:=5) (a:=a) (b:=b') (WQ jm) rfl yp rfl (yf _ yp)) Uw rfl ⟨rfl,fun p hp=>hp⟩)
   ·intro hk;have hk:decide ((1:Int)=1)=false:=hk;exact absurd hk (by decide)
  |x::y::rest,_,h2=>
   have e0:decide (((List.map D.str (x::y::rest)).length:Int)=1)=false:=yv (by rw[ye];simp only[ym];omega);refine JA (Y8 (vK (jD z.len rfl (pq 1 rfl)) yw)) ?_ ?_
   ·intro hk;rw[e0] at hk;cases hk
   ·intro _;refine yV ?_;have tup:∀ {X:L2.Cx} {Γ:Ga} {es:List Expr} {x1:Nat} {tp:Pos},P3 X Γ (.Tuple es x1 tp) (.tup [Ye (x::y::rest),.int (i:Int),.int (j:Int)])->P3 X Γ (.Tuple es x1 tp) (kD (kB (x::y::rest,i,j))):=fun h=>by rw[yi6];exact h
    cases q:Zv kw (x::y::rest,i,j) with
    |none=>
     refine ZW (ZN hr.units (Yj (tup (QJ (yd (pq 1 rfl) (yd (pq 2 rfl) (yd (pq 3 rfl) yt))))) ⟨_,rfl,Zp (d:=.raw (.ref c)) (a:=a) (pq 0 rfl) yp c_Sums.c c_Sums.n_known_worths rfl ⟨c,kwV kw,rfl,yf _ (yf _ yp),fun _=>?_,fun hk=>?_⟩⟩))
     ·have ac:=yaz (hs:=hs) (row:=row) (kn:=kn) (kw:=kw) (by have:=g.d;omega) g.kn (x:=x) (y:=y) (rest:=rest) (i:=i) (j:=j) (Wz g.d g.kn (y::rest) (by simp)) (by have:row.length<=5:=g.rl;omega) g.kw _ (yg _);have hp11:11 ^ (rest.length+1)<=11 ^ 3:=YC (by decide) (by simp only[ym] at h2;omega);have np:nP (rest.length+2) i j<=4:=by have:row.length<=5:=g.rl;unfold nP;omega
      have hkm:nP (rest.length+2) i j*11 ^ (rest.length+1)<=4*11 ^ 3:=Y1 np hp11;have kl:=ac.kl;rw[wBm,q];dsimp only;refine xo hr.units (vf (t:=⟨a,b',c,gd,row,hs,br,L,ch,kn,kw⟩) (t':=⟨a,b',c,gd,row,hs,br,L,ch,kn,(JE ⟨a,b',c,gd,row,hs,br,L,ch,kn,kw⟩ x y rest i j (nP (rest.length+2) i j)).2⟩) (d:=sh (Jq (JE ⟨a,b',c,gd,row,hs,br,L,ch,kn,kw⟩ x y rest i j (nP (rest.length+2) i j)).1)) (Ω4:=[]) op c_Sums.c (hr.mono (by omega)) (pq 0 rfl) yp zC (yd (pq 1 rfl) (yd (pq 2 rfl) (yd (pq 3 rfl) yt))) rfl (List.Perm.refl _) ⟨x,y,rest,i,j,M,b,rfl,rfl,rfl,h2,hn4,hij,hjr,g,hkl⟩
       (Zp (d:=.raw (.ref c)) (a:=a) (pq 0 rfl) yp c_Sums.c c_Sums.n_known_worths rfl ⟨c,rfl,Yj (tup (QJ (yd (pq 1 rfl) (yd (pq 2 rfl) (yd (pq 3 rfl) yt))))) ⟨_,_,_,rfl,ydx,?_,?_⟩⟩))
      ·show(kwV (JE ⟨a,b',c,gd,row,hs,br,L,ch,kn,kw⟩ x y rest i j (nP (rest.length+2) i j)).2).length<sizeLine;unfold kwV;rw[ye,sizeLine_eq];unfold JE;dsimp only;omega
      ·show W3 _ B _ _ ((c,ZR P w K c (uo (kwV (JE ⟨a,b',c,gd,row,hs,br,L,ch,kn,kw⟩ x y rest i j (nP (rest.length+2) i j)).2) (kB (x::y::rest,i,j)) (sh (Jq (JE ⟨a,b',c,gd,row,hs,br,L,ch,kn,kw⟩ x y rest i j (nP (rest.length+2) i j)).1))))::_) _;rw[yf7];refine yV ?_;refine JX (yfg hr.units (Zp (d:=.raw (.ref c)) (a:=a) (pq 0 rfl) (yf _ yp) c_Sums.c c_Sums.n_known_worths rfl ⟨c,rfl,Yj (tup (QJ (yd (pq 1 rfl) (yd (pq 2 rfl) (yd (pq 3 rfl) yt))))) ⟨_,_,_,rfl,yp,by rw[Vv,yco];rfl,rfl,fun p hp=>?_⟩⟩));simp only[omG,yA,YW,or_false] at hp ⊢;rcases hp with z|z|z
       ·exact .inr (.inl z)
       ·exact .inr (.inr z)
       ·exact .inl z
     ·rw[Vv,q] at hk;cases hk
    |some v=>
     refine ZW (ZN hr.units (Yj (tup (QJ (yd (pq 1 rfl) (yd (pq 2 rfl) (yd (pq 3 rfl) yt))))) ⟨_,rfl,Zp (d:=.raw (.ref c)) (a:=a) (pq 0 rfl) yp c_Sums.c c_Sums.n_known_worths rfl ⟨c,kwV kw,rfl,yf _ (yf _ yp),fun hk=>?_,fun _=>?_⟩⟩))
     ·rw[Vv,q] at hk;cases hk
     ·refine yV ?_;rw[wBm,q];exact JX (yfg hr.units (Zp (d:=.raw (.ref c)) (a:=a) (pq 0 rfl) yp c_Sums.c c_Sums.n_known_worths rfl ⟨c,rfl,Yj (tup (QJ (yd (pq 1 rfl) (yd (pq 2 rfl) (yd (pq 3 rfl) yt))))) ⟨_,_,_,rfl,yf _ (yf _ yp),by rw[Vv,q];rfl,rfl,fun p hp=>hp⟩⟩))
end
section
variable {P:Program}{w:World}{K:W.Frag}{mg:Str->Option Value}{base:Heap}{C_Grammar C_Sums:Addr}
variable (P w K mg base C_Sums) in
abbrev ye2:Prop:=OkM P w K mg base CX0 47 C_Sums "ends_at" ["self", "i", "j"] (spS K 3 (omG P w K C_Sums) yjo)
theorem Vu (c_Sums:ClsS K C_Sums)(g_NOUGHT:qF K mg "NOUGHT" (sh 0))(d:qi K C_Sums "ends_at" "Sums.ends_at" ja ["self", "i", "j"])(o_wB:OkM P w K mg base CX0 46 C_Sums "worth_of_body" ["self", "body", "i", "j"] (spS K 4 (omG P w K C_Sums) (ygH 4)))(o_added:yaZ P w K mg base)(o_timed:XZ P w K mg base):ye2 P w K mg base C_Sums:=by
 refine zt d jz rfl yjL fun f cdv A outer s H E hr t ds t' r hC B=>?_;obtain⟨i,j,M,b,m,rfl,rfl,rfl,hij,hjr,g,ks,hm⟩:=hC;obtain⟨a,b',c,gd,row,hs,br,L,ch,kn,kw⟩:=t;dsimp only at hjr g ks ⊢;have hB:big=67108864:=rfl;have hM:=g.d;have rl:=g.rl;have bl:=g.br.len;have kl3:kw.length<=m*600000:=ks.2.2;have k1:KnG M (m*30) kn:=ks.1;have k2:KwD M kw:=ks.2.1;have eo:=vT (row:=row) (kw:=kw) g.d k1.d g.br hij (by omega) k2;have gs:=ks.gs g (a:=a) (b':=b') (c:=c) (gd:=gd);refine QM (i:=3) jz.nd rfl (.inl rfl) (yd9 fun l=>?_);refine Zy PassesOwn.never rfl (zG (Zp (d:=.lst (yJ br)) (a:=a) (pq 0 rfl) (yf _ yp) c_Sums.c c_Sums.n_branches rfl ⟨_,rfl,fun k Γ Ω=>∃ x4 x5,Γ=[some (.raw (.ref a)),some (.int (i:Int)),some (.int (j:Int)),some (.raw (.ref l)),x4,x5]/\Ω=(l,oDk K (((br.take k).foldl (qW hs row kn i j) (([],[]),kw)).1.1.map qj) (((br.take k).foldl (qW hs row kn i j) (([],[]),kw)).1.2.map sh))::omG P w K C_Sums ⟨a,b',c,gd,row,hs,br,L,ch,kn,((br.take k).foldl (qW hs row kn i j) (([],[]),kw)).2⟩,⟨_,_,rfl,rfl⟩,?_,?_⟩))
 ·rintro k d Γ Ω hd ⟨x4,x5,rfl,rfl⟩;obtain⟨r,hr',rfl⟩:=qT hd;have hk':k<br.length:=(al_getElem?_eq_some_iff.mp hr').1;have hrm:=al_mem_of_getElem? hr';obtain⟨b1,b2,b3⟩:=g.br.body r hrm;have eo:=eo k (by omega);have en:(br.take (k+1)).foldl (qW hs row kn i j) (([],[]),kw)=qW hs row kn i j ((br.take k).foldl (qW hs row kn i j) (([],[]),kw)) r:=by rw[yW hr',Ym];rfl
  generalize (br.take k).foldl (qW hs row kn i j) (([],[]),kw)=e at *;have kl:=eo.kl;have w9:=yjD (hs:=hs) (row:=row) hM ks.1.d hij (by omega) eo.kw b1 b3;refine⟨_,(Yc (i:=4) jz.nd rfl (.inl rfl)),?_⟩;refine QM (i:=5) jz.nd rfl (.inl rfl) (vf (t:=⟨a,b',c,gd,row,hs,br,L,ch,kn,e.2⟩) (t':=⟨a,b',c,gd,row,hs,br,L,ch,kn,(wBm hs row kn r.2.1 i j e.2).2⟩) (d:=sh (wBm hs row kn r.2.1 i j e.2).1) (Ω4:=[(l,oDk K (e.1.1.map qj) (e.1.2.map sh))]) o_wB c_Sums.c (hr.mono (by decide)) (pq 0 rfl) (yf _ yp) Jd (yd (yX (pq 4 rfl) yw rfl) (yd (pq 1 rfl) (yd (pq 2 rfl) yt))) rfl (YF (l₁:=[(l,oDk K (e.1.1.map qj) (e.1.2.map sh))])) ?_ ?_)
  ·exact⟨r.2.1,i,j,M,b,rfl,rfl,rfl,b1,b2,by decide,hij,hjr,⟨g.d,g.db,g.bl,g.rl,ks.1.d,eo.kw⟩,by show e.2.length+4*20000<=16000000;omega⟩
  refine za YF ?_;refine JA (Y8 (ybU hr.units (pq 5 rfl) (qa g_NOUGHT rfl) Jz Jy)) ?_ ?_
  ·intro hz;rw[jE] at hz;have hz:¬ (wBm hs row kn r.2.1 i j e.2).1=0:=by simpa using hz
   have gg:=gs.sz (OkN.up (by omega) (UO (by omega) eo.vals (x:=r.1)) (by omega)) (by omega);have hq:=gs.sz (g.br.sz r hrm) (by decide);have hw:=gs.sz w9 (by omega);have ht:=gs.sz (OkD.mul (by omega) (g.br.sz r hrm) w9) (by omega);refine xg (k:=qj r.1) hr.units (pq 3 rfl) (yX (pq 4 rfl) yw rfl) (yhQ o_added (hr.mono (by decide)) rfl (jY (yiX (k:=qj r.1) hr.units (pq 3 rfl) yp (yX (pq 4 rfl) yw rfl) (qa g_NOUGHT rfl) (jY (Yj (Yi (d:=sh (r.2.2*(wBm hs row kn r.2.1 i j e.2).1)) o_timed (hr.mono (by decide)) rfl (yd (yX (pq 4 rfl) yw rfl) (yd (pq 5 rfl) yt)) ?_) (ZF yt ⟨sh ((vA e.1.1 e.1.2 r.1).getD 0+r.2.2*(wBm hs row kn r.2.1 i j e.2).1),?_,rfl,_,_,_,List.Perm.refl _,?_,?_⟩))))))
   ·exact⟨r.2.2,(wBm hs row kn r.2.1 i j e.2).1,1650001,1650001,rfl,rfl,hq.1,hw.1,hq.2,hw.2,by decide,by decide,trivial⟩
   ·refine⟨(vA e.1.1 e.1.2 r.1).getD 0,r.2.2*(wBm hs row kn r.2.1 i j e.2).1,1650001,1650001,?_,rfl,gg.1,ht.1,gg.2,ht.2,by decide,by decide,trivial⟩;rw[Kg zo];cases vA e.1.1 e.1.2 r.1 <;> rfl
   ·rw[ye,sizeLine_eq];have:=eo.len;omega
   ·refine yV (yV ⟨_,_,rfl,?_⟩);rw[en,xI zo,XD zo];unfold qW;rw[yb hz];rfl
  ·intro hz;rw[jE] at hz;have hz:(wBm hs row kn r.2.1 i j e.2).1=0:=by simpa using hz
   refine yV (yV ⟨_,_,rfl,?_⟩);rw[en];unfold qW;rw[yc hz];rfl
 ·rintro Γ Ω ⟨x4,x5,rfl,rfl⟩;rw[Yt,yG];refine yd4 (i:=3) rfl ?_;exact Y4 (pq 3 rfl) ⟨rfl,fun p hp=>hp⟩
variable (P w K mg base C_Sums) in
abbrev yee:Prop:=OkM P w K mg base CX0 48 C_Sums "settle" ["self", "i", "j"] (spS K 3 (omG P w K C_Sums) yjz)
theorem V0 (c_Sums:ClsS K C_Sums)(g_NOUGHT:qF K mg "NOUGHT" (sh 0))(d:qi K C_Sums "settle" "Sums.settle" QY ["self", "i", "j"])(o_eG:ye2 P w K mg base C_Sums)(o_sum_of_products:U4 P w K mg base):yee P w K mg base C_Sums:=by
 refine zt d j6 rfl yjK fun f cdv A outer s H E hr t ds t' r hC B=>?_;obtain⟨i,j,M,b,m,rfl,rfl,rfl,hij,hjr,g,ks,hm⟩:=hC;obtain⟨a,b',c,gd,row,hs,br,L,ch,kn,kw⟩:=t;dsimp only at hjr g ks ⊢;have hB:big=67108864:=rfl;have hM:=g.d;have rl:=g.rl;have bl:=g.br.len;have ll:=g.ll;have k1:KnG M (m*30) kn:=ks.1;have k2:KwD M kw:=ks.2.1;have eo:=vT (row:=row) (kw:=kw) g.d k1.d g.br hij (by omega) k2 br.length (yg _);rw[yG] at eo;have gs:=ks.gs g (a:=a) (b':=b') (c:=c) (gd:=gd);refine QM (i:=3) j6.nd rfl (.inr rfl) (vf (t:=⟨a,b',c,gd,row,hs,br,L,ch,kn,kw⟩) (t':=⟨a,b',c,gd,row,hs,br,L,ch,kn,(Jv hs row kn br i j kw).2⟩) (d:=enD (Jv hs row kn br i j kw).1) (Ω4:=[]) o_eG c_Sums.c (hr.mono (by decide)) (pqc 0 rfl) yp VX (yd (pq 1 rfl) (yd (pq 2 rfl) yt)) rfl (List.Perm.refl _) ⟨i,j,M,b,m,rfl,rfl,rfl,hij,hjr,g,ks,hm⟩ ?_);unfold J2;dsimp only;change EnG M (9*(j - i) - 8) br.length _ L (Jv hs row kn br i j kw) at eo;generalize Jv hs row kn br i j kw=e at *;refine Zy PassesOwn.never rfl (yfw (Zp (d:=chD L ch) (a:=a) (pqc 0 rfl) yp c_Sums.c c_Sums.n_chains rfl ⟨_,_,rfl,fun k Γ Ω=>∃ x4 x5,Γ=[some (.raw (.ref a)),some (.int (i:Int)),some (.int (j:Int)),some (enD e.1),x4,x5]/\Ω=omG P w K C_Sums ⟨a,b',c,gd,row,hs,br,L,ch,(L.take k).foldl (qL L ch e.1 i j) kn,e.2⟩,⟨_,_,rfl,rfl⟩,?_,?_⟩))
 ·rintro k d Γ Ω hd ⟨x4,x5,rfl,rfl⟩;rw[←Ua] at hd;obtain⟨h,hh,rfl⟩:=Qx hd;have hk:k<L.length:=(al_getElem?_eq_some_iff.mp hh).1;have hL:=al_mem_of_getElem? hh;have ps:=ycR hM g.ch eo bl hL;have en:(L.take (k+1)).foldl (qL L ch e.1 i j) kn=qL L ch e.1 i j ((L.take k).foldl (qL L ch e.1 i j) kn) h:=by rw[yW hh,Ym];rfl
  have kl:=ycQ (L:=L) (ch:=ch) (e:=e.1) (i:=i) (j:=j) (hs:=L.take k) (kn:=kn);have kl2:=k1.len;rw[yS] at kl;generalize (L.take k).foldl (qL L ch e.1 i j) kn=kn' at *;refine⟨_,(Yc (i:=4) j6.nd rfl (.inr rfl)),?_⟩;refine QM (i:=5) j6.nd rfl (.inl rfl) (Kz (L:=false) (d:=sh (Z6 L ch e.1 h)) (Γ':=[some (.obj C_Sums sF [gd,Ye row,.lst (yB hs),.lst (yJ br),chD L ch,.raw (.ref b'),.raw (.ref c)]),some (.int (i:Int)),some (.int (j:Int)),some (enD e.1),some (.str h),x5]) (Yi (d:=sh (Z6 L ch e.1 h)) o_sum_of_products (hr.mono (by decide)) rfl (yd (PF3.p (QO (SX:=yj QY) (XN:=["self", "i", "j", "ends", "head", "total"]) (N:=["last", "self", "ends", "head"]) (nt:=1) (caps:=[0,3,4]) (pre:=(fun k=>((e.1.1.take k).map fun o=>(chS L ch h o,(vA e.1.1 e.1.2 o).getD 0)).map Zj)) ⟨rfl,by decide +kernel,by decide +kernel,by decide +kernel,rfl,by decide +kernel⟩ (yiK (pqc 3 rfl)) ?_ ?_ ?_)) yt) ?_) (JS (i:=0) jm rfl yp ZP) Uw rfl ?_)
  ·intro k hk;rw[ye] at hk;rw[ye,ye,yS,sizeLine_eq];have:=eo.len;omega
  ·rfl
  ·intro c k d hd;rw[Yu] at hd;obtain⟨o,ho,rfl⟩:=kd hd;have hoL:=eo.keys o (al_mem_of_getElem? ho);refine⟨_,(Yc (i:=0) (show List.Nodup (α:=Str) ["last", "self", "ends", "head"] by decide +kernel) rfl (.inl rfl)),(Sub.set rfl),.inl ⟨Zj (chS L ch h o,(vA e.1.1 e.1.2 o).getD 0),Ji,(QJ (yd (ycC (k:=qj o) (d:=sh (chS L ch h o)) hr.units (ycC (k:=qj h) (d:=.dk (L.map qj) (tb L.length fun j=>sh (ch (L.idxOf h) j))) hr.units (zA (pqc 1 rfl) c_Sums.c c_Sums.n_chains rfl) (pqc 3 rfl) ?_) (pq 0 rfl) ?_) (yd (ycC (k:=qj o) (d:=sh ((vA e.1.1 e.1.2 o).getD 0)) hr.units (pqc 2 rfl) (pq 0 rfl) ?_) yt))),?_⟩⟩
   ·exact yeS g.nd hL
   ·exact yeS g.nd hoL
   ·exact yiG eo.eq (al_mem_of_getElem? ho)
   ·dsimp only;rw[yW ho,yr,yr];rfl
  ·rw[ye,ye,yG];refine⟨vY L ch e.1 h,1650001,rfl,rfl,fun p hp=>⟨gs.sz (ps p hp).2.1 (by decide),gs.sz (ps p hp).2.2 (by omega)⟩,?_,X4⟩;rw[K0];exact ybc (ygy g eo)
  refine JA (Y8 (ybU hr.units (pq 5 rfl) (qa g_NOUGHT rfl) Jz Jy)) ?_ ?_
  ·intro hz;rw[jE] at hz;have hz:¬ Z6 L ch e.1 h=0:=by simpa using hz
   refine ycA (l:=b') (k:=kS (h,i,j)) (kt:=knK kn') (ds:=knV kn') hr.units (Zp (d:=.raw (.ref b')) (a:=a) (pqc 0 rfl) yp c_Sums.c c_Sums.n_known_sums rfl ⟨rfl,rfl⟩) (yd (pqc 4 rfl) (yd (pq 1 rfl) (yd (pq 2 rfl) yt))) (pq 5 rfl) (List.Perm.swap ..) ?_ ?_
   ·unfold knK;rw[ye,sizeLine_eq];omega
   ·refine za (List.Perm.swap ..) (yV (yV ⟨_,_,rfl,?_⟩));rw[en];unfold qL;rw[yb hz];unfold omG Wa;dsimp only;rw[show knK (pK kn'.1 (h,i,j),pA kn'.1 kn'.2 (h,i,j) (Z6 L ch e.1 h))=pK (knK kn') (kS (h,i,j)) from (xI xV).symm,show knV (pK kn'.1 (h,i,j),pA kn'.1 kn'.2 (h,i,j) (Z6 L ch e.1 h))=pA (knK kn') (knV kn') (kS (h,i,j)) (sh (Z6 L ch e.1 h)) from (XD xV).symm];rfl
  ·intro hz;rw[jE] at hz;have hz:Z6 L ch e.1 h=0:=by simpa using hz
   refine yV (yV ⟨_,_,rfl,?_⟩);rw[en];unfold qL;rw[yc hz]
 ·rintro Γ Ω ⟨x4,x5,rfl,rfl⟩;rw[ye,ye,yG];exact yV ⟨rfl,fun p hp=>hp⟩
end
section
variable {P:Program}{w:World}{K:W.Frag}{mg:Str->Option Value}{base:Heap}{C_Grammar C_Sums:Addr}
variable (P w K mg base C_Grammar C_Sums) in
abbrev ydf:Prop:=OkI P w K mg base CX0 49 "Sums" C_Sums ["self", "grammar", "row"] (ybT K 3 C_Sums (yct C_Grammar) (XY C_Grammar))
theorem ycD (z:Zs mg)(c_Sums:ClsS K C_Sums)(c_Grammar:ClsG K C_Grammar)(d:Zu K mg "Sums" C_Sums "Sums.__init__" qU ["self", "grammar", "row"])(o_Grammar_live:xM P w K mg base C_Grammar)(o_live_rules:ydK P w K mg base C_Grammar)(o_Grammar_heads:xU P w K mg base C_Grammar)(o_is_step:ycL P w K mg base)(o_chains_of:ydb P w K mg base)(o_stretches:yfk P w K mg base)(o_sG:yee P w K mg base C_Sums):ydf P w K mg base C_Grammar C_Sums:=by
 refine yeX d Qy rfl fun f cdv A outer s H E hr a ds hC B hB=>?_;obtain⟨st,rs,row,M,b,s',rfl,so⟩:=hC;have hrl:=so.rl;have lrl:(js (yz rs) (yq rs) rs).length<=rs.length:=y9 _ _;have brl:(JW rs).length<=30:=by have:(JW rs).length<=_:=y9 _ _;omega
 have ssl:(Jc rs).length<=30:=by have:(Jc rs).length<=_:=y9 _ _;omega
 have brm:∀ r∈JW rs,r∈rs:=fun r hr'=>(yU.mp (yU.mp hr').1).1;have ssm:∀ r∈Jc rs,r∈rs:=fun r hr'=>(yU.mp (yU.mp hr').1).1;refine YL (i:=3) Qy.nd rfl (.inr rfl) (PF3.p (Zw (ds:=yB (yq rs)) o_Grammar_live c_Grammar.c (hr.mono (by decide)) (pq 1 rfl) zY ?_)) ?_
 ·exact⟨st,rs,rfl,rfl⟩
 refine YL (i:=4) Qy.nd rfl (.inl rfl) (Yi (d:=.lst (yJ (js (yz rs) (yq rs) rs))) o_live_rules (hr.mono (by decide)) rfl (yd (pq 1 rfl) yt) ?_) ?_
 ·exact⟨st,rs,rfl,rfl,so.rl,so.body⟩
 refine JK (a:=a) (pq 0 rfl) c_Sums.c c_Sums.n_grammar (Yj (pq 1 rfl) ⟨[],[],[],List.Perm.refl _,by simp,by decide,?_⟩);refine JK (a:=a) (pq 0 rfl) c_Sums.c c_Sums.n_row (Yj (pq 2 rfl) ⟨_,_,[],List.Perm.refl _,by decide,by decide,?_⟩);refine JK (a:=a) (pq 0 rfl) c_Sums.c c_Sums.n_known_heads (Yj (PF3.p (Zw (ds:=yB (yz rs)) o_Grammar_heads c_Grammar.c (hr.mono (by decide)) (pq 1 rfl) zE ?_)) ⟨_,_,[],List.Perm.refl _,by decide,by decide,?_⟩)
 ·exact⟨st,rs,rfl,rfl⟩
 refine JK (a:=a) (pq 0 rfl) c_Sums.c c_Sums.n_branches (Yj (PF3.p (QO (SX:=yj qU) (XN:=["self", "grammar", "row", "live", "rules", "i", "j"]) (N:=["rule", "live"]) (nt:=1) (caps:=[3]) (pre:=(fun i=>yJ (((js (yz rs) (yq rs) rs).take i).filter fun r=>!qE (yq rs) r))) ⟨rfl,by decide +kernel,by decide +kernel,by decide +kernel,rfl,by decide +kernel⟩ (Qk (pq 4 rfl)) ?_ ?_ ?_)) ⟨_,_,[],List.Perm.refl _,by decide,by decide,?_⟩)
 ·intro i hi;rw[Yt,sizeLine_eq];have:=y9 (fun r:yF=>!qE (yq rs) r) ((js (yz rs) (yq rs) rs).take i);rw[yS] at this;omega
 ·rfl
 ·intro c i d hd;obtain⟨r,hr',rfl⟩:=qT hd;cases q:qE (yq rs) r with
  |false=>
   refine⟨_,(Yc (i:=0) (show List.Nodup (α:=Str) ["rule", "live"] by decide +kernel) rfl (.inl rfl)),(Sub.set rfl),.inl ⟨Jf r,(yam (XV (zh (Yi (d:=.bl false) o_is_step (hr.mono (by decide)) rfl (yd (pq 0 rfl) (yd (pqc 1 rfl) yt)) ?_))) ?_),(pq 0 rfl),?_⟩⟩
   ·exact⟨r,_,rfl,by rw[q]⟩
   ·rfl
   ·show yJ (((js (yz rs) (yq rs) rs).take (i+1)).filter fun r=>!qE (yq rs) r)=_;rw[yW hr',YS,y4 (p:=fun r:yF=>!qE (yq rs) r) (by rw[q];rfl)];unfold yJ;rw[yr];rfl
  |true=>
   refine⟨_,(Yc (i:=0) (show List.Nodup (α:=Str) ["rule", "live"] by decide +kernel) rfl (.inl rfl)),(Sub.set rfl),.inr ⟨(yam (XV (zh (Yi (d:=.bl true) o_is_step (hr.mono (by decide)) rfl (yd (pq 0 rfl) (yd (pqc 1 rfl) yt)) ?_))) ?_),?_⟩⟩
   ·exact⟨r,_,rfl,by rw[q]⟩
   ·rfl
   ·show yJ (((js (yz rs) (yq rs) rs).take (i+1)).filter fun r=>!qE (yq rs) r)=_;rw[yW hr',YS,y3 (p:=fun r:yF=>!qE (yq rs) r) (by rw[q];decide)];simp
 rw[Yt,yG];refine JK (a:=a) (pq 0 rfl) c_Sums.c c_Sums.n_chains (Yj (Yi (d:=chD (yq rs) (zc rs)) o_chains_of (hr.mono (by decide)) rfl (yd (pqc 3 rfl) (yd (PF3.p (QO (SX:=yj qU) (XN:=["self", "grammar", "row", "live", "rules", "i", "j"]) (N:=["rule", "live"]) (nt:=1) (caps:=[3]) (pre:=(fun i=>yJ (((js (yz rs) (yq rs) rs).take i).filter (qE (yq rs))))) ⟨rfl,by decide +kernel,by decide +kernel,by decide +kernel,rfl,by decide +kernel⟩ (Qk (pq 4 rfl)) ?_ ?_ ?_)) yt)) ?_) ⟨_,_,[],List.Perm.refl _,by decide,by decide,?_⟩)
 ·intro i hi;rw[Yt,sizeLine_eq];have:=y9 (qE (yq rs)) ((js (yz rs) (yq rs) rs).take i);rw[yS] at this;omega
 ·rfl
 ·intro c i d hd;obtain⟨r,hr',rfl⟩:=qT hd;cases q:qE (yq rs) r with
  |true=>
   refine⟨_,(Yc (i:=0) (show List.Nodup (α:=Str) ["rule", "live"] by decide +kernel) rfl (.inl rfl)),(Sub.set rfl),.inl ⟨Jf r,(Z0 (zh (Yi (d:=.bl true) o_is_step (hr.mono (by decide)) rfl (yd (pq 0 rfl) (yd (pqc 1 rfl) yt)) ?_))),(pq 0 rfl),?_⟩⟩
   ·exact⟨r,_,rfl,by rw[q]⟩
   ·show yJ (((js (yz rs) (yq rs) rs).take (i+1)).filter (qE (yq rs)))=_;rw[yW hr',YS,y4 (p:=qE (yq rs)) q];unfold yJ;rw[yr];rfl
  |false=>
   refine⟨_,(Yc (i:=0) (show List.Nodup (α:=Str) ["rule", "live"] by decide +kernel) rfl (.inl rfl)),(Sub.set rfl),.inr ⟨(Z0 (zh (Yi (d:=.bl false) o_is_step (hr.mono (by decide)) rfl (yd (pq 0 rfl) (yd (pqc 1 rfl) yt)) ?_))),?_⟩⟩
   ·exact⟨r,_,rfl,by rw[q]⟩
   ·show yJ (((js (yz rs) (yq rs) rs).take (i+1)).filter (qE (yq rs)))=_;rw[yW hr',YS,y3 (p:=qE (yq rs)) (by rw[q];decide)];simp
 ·rw[Yt,yG];refine⟨yq rs,Jc rs,s',rfl,rfl,so.par.nd,yQ so.par.ll (by decide),ssl,fun r hr'=>?_,so.keys,fun r hr'=>so.sz r (ssm r hr'),so.s1,so.sk,so.piv⟩;have:=(yU.mp hr').2;unfold qE at this;split at this
  ·rename_i x hx;exact⟨x,hx⟩
  ·cases this
 refine JK (a:=a) (pq 0 rfl) c_Sums.c c_Sums.n_known_sums (yer fun b'=>⟨_,_,[(b',oDt K [] [])],List.Perm.swap ..,by decide,by decide,?_⟩);refine JK (a:=a) (pq 0 rfl) c_Sums.c c_Sums.n_known_worths (xA fun c=>⟨_,_,[(b',oDt K [] []),(c,ZR P w K c [])],(List.Perm.swap ..).trans (List.Perm.cons _ (List.Perm.swap ..)),by decide,by decide,?_⟩);have key:=ka so;have l15:=yfu so.par.rl;have wl:=so.par.rl;refine j8 PassesOwn.never rfl (Qk (Yi (d:=.lst ((qK row.length).map uL)) o_stretches (hr.mono (by decide)) rfl (yd (pq 2 rfl) yt) ?_)) (fun k Γ Ω=>∃ x5 x6,Γ=[some (.raw (.ref a)),some (gD C_Grammar st rs),some (Ye row),some (.lst (yB (yq rs))),some (.lst (yJ (js (yz rs) (yq rs) rs))),x5,x6]/\Ω=omG P w K C_Sums ⟨a,b',c,gD C_Grammar st rs,row,yz rs,JW rs,yq rs,zc rs,(Jj rs row k).1,(Jj rs row k).2⟩) ⟨_,_,rfl,rfl⟩ ?_ ?_
 ·exact⟨row,rfl,rfl,by omega⟩
 ·rintro k d Γ Ω hd ⟨x5,x6,rfl,rfl⟩;obtain⟨p,hp,rfl⟩:=kd hd;have hk:k<(qK row.length).length:=(al_getElem?_eq_some_iff.mp hp).1;have hpi:=V8 (al_mem_of_getElem? hp);refine⟨_,(kI rfl (QL (Yc (i:=5) Qy.nd rfl (.inl rfl)) (QL (Yc (i:=6) Qy.nd rfl (.inl rfl)) Z9))),?_⟩;refine ww (vf (t:=⟨a,b',c,gD C_Grammar st rs,row,yz rs,JW rs,yq rs,zc rs,(Jj rs row k).1,(Jj rs row k).2⟩) (t':=⟨a,b',c,gD C_Grammar st rs,row,yz rs,JW rs,yq rs,zc rs,(Jj rs row (k+1)).1,(Jj rs row (k+1)).2⟩) (d:=.non) (Ω4:=[]) o_sG c_Sums.c (hr.mono (by decide)) (pq 0 rfl) yp kY (yd (pq 5 rfl) (yd (pq 6 rfl) yt)) rfl (List.Perm.refl _) ?_ ?_)
  ·exact⟨p.1,p.2,M,b,k,rfl,by rw[zr hp],rfl,hpi.1,hpi.2,so.par,key k (by omega),by omega⟩
  ·exact yV ⟨_,_,rfl,rfl⟩
 ·rintro Γ Ω ⟨x5,x6,rfl,rfl⟩;rw[ye];refine yir (j:=5) rfl (yhs (Ω':=[(a,jT K C_Sums sF (sGs C_Grammar st rs row c))]) (fun q hq=>?_) (by simp) (yV ⟨_,ydX (c:=c),rfl⟩));rw[yu.mp hq];exact yp
end
section
variable {P:Program}{w:World}{K:W.Frag}{mg:Str->Option Value}{base:Heap}{C_Grammar C_Sums:Addr}
theorem yiD (z:Zs mg)(c_Grammar:ClsG K C_Grammar)(c_Sums:ClsS K C_Sums){f:Addr}{fd:FuncData}(F:Fun K "law" "law" wR f fd)(o_law_cell_at:yhe P w K mg base)(o_law_made:yeH P w K mg base)(o_law_flat:ycN P w K mg base)(o_law_row:yc9 P w K mg base)(o_law_trees:OkF P w K mg base CX0 64 "_law_trees" ["_law_box", "_law_symbol", "_law_i", "_law_j"] (vI K 4 (omQ P w K) (Wn 4) uj))(o_law_added:ygW P w K mg base)(o_Grammar:ydV P w K mg base C_Grammar)(o_Sums:ydf P w K mg base C_Grammar C_Sums)(o_Sums_whole:ycP P w K mg base C_Grammar C_Sums):FnOk P w K mg base CX0 67 f fd ["_law_script"] (v5 K):=by
 refine yf8 (k:=66) F zR fun cdv A outer s H E hr ns hlen B hB=>?_;refine QM (i:=1) zR.nd rfl (.inl rfl) (yix (m:=3) o_law_made (hr.mono (by decide)) rfl (Yi (d:=.int (ns.getD 0 0)) o_law_cell_at (hr.mono (by decide)) rfl (yd (pq 0 rfl) (yd yw yt)) ⟨ns,0,rfl,rfl⟩) (Yi (d:=.int (ns.getD 1 0)) o_law_cell_at (hr.mono (by decide)) rfl (yd (pq 0 rfl) (yd yw yt)) ⟨ns,1,rfl,rfl⟩) (jZ yw rfl) (by decide) (by decide) fun hs ws rs g hl3=>?_);obtain⟨h0,hh0⟩:∃ h0,hs[0]?=some h0:=⟨_,al_getElem?_eq_getElem (YU.mpr g.h0)⟩
 obtain⟨w0,hw0⟩:∃ w0,ws[0]?=some w0:=⟨_,al_getElem?_eq_getElem (YU.mpr g.w0)⟩
 have a0:atI (yB hs) 0=some (.str h0):=by
  refine j7 (j:=0) ?_;unfold yB;rw[al_getElem?_map,hh0];rfl
 have g':=yfs g (al_mem_of_getElem? hw0);have fw:∀ r∈JR hs w0 rs hs,∀ x,r.2.1=[x]->x∉hs:=fun r hr' x e=>ybu g (al_mem_of_getElem? hw0) hr' e;refine YL (i:=2) zR.nd rfl (.inl rfl) (Yi (d:=.lst (yJ (JR hs w0 rs hs))) o_law_flat (hr.mono (by decide)) rfl (yd (yX (d:=.lst (yJ rs)) (pq 1 rfl) yw rfl) (yd (yX (d:=.lst (yB hs)) (pq 1 rfl) yw rfl) (yd (yX (d:=.lst (yB ws)) (pq 1 rfl) yw rfl) yt))) ⟨hs,ws,rs,w0,rfl,rfl,hw0,g.hl,g.rl,fun r hr'=>(g.body r hr').1⟩) ?_;generalize JR hs w0 rs hs=fr at *;refine QM (i:=3) zR.nd rfl (.inl rfl) (yf3 o_law_row (hr.mono (by decide)) rfl (yd (Yi (d:=.int (ns.getD 2 0)) o_law_cell_at (hr.mono (by decide)) rfl (yd (pq 0 rfl) (yd yw yt)) ⟨ns,2,rfl,rfl⟩) (yd (yX (d:=.lst (yB ws)) (pq 1 rfl) yw rfl) (yd (jZ (d:=.int ((4:Nat):Int)) yw rfl) yt))) ⟨ns.getD 2 0,ws,4,rfl,g.w0,g.wl,by decide,by decide⟩ fun d hd=>?_);obtain⟨row,rfl,r1,r4,_⟩:=hd _ ws 4 rfl;obtain⟨M,b,so⟩:=yf5 g' hl3 (row:=row) (by omega);have fs:=g'.fst;have fl:xz hs fr:=fun r hr'=>⟨(g'.body r hr').1,fun x e=>fw r hr' x e⟩
 have pz:∀ r∈fr,0<=r.2.2/\Sz 5 r.2.2:=fun r hr'=>⟨YG (g'.pos r hr').1,(g'.pos r hr').2⟩
 refine QM (i:=4) zR.nd rfl (.inl rfl) (ygl fun q=>⟨qj "heads", jR,Yj (yX (d:=.lst (yB hs)) (pq 1 rfl) yw rfl) ⟨qj "rules", jR,Yj (pq 2 rfl) ⟨qj "row", jR,Yj (pq 3 rfl) ⟨qj "seen", jR,xA fun sa=>⟨qj "many", jR,Yj ydH ⟨_,List.Perm.swap ..,show VT.Nodup by decide +kernel,fun ba=>?_⟩⟩⟩⟩⟩⟩);have q0:QOk ⟨ba,sa,hs,fr,row,[],false⟩:=⟨r4,g'.hl,g'.rl,fun r hr'=>(g'.body r hr').2.1,fl,pz,qD,(fun p hp=>by cases hp),(fun p hp=>by cases hp),fun _ p hp=>by cases hp⟩
 refine YL (i:=5) zR.nd rfl (.inl rfl) (jZ (d:=sh 0) (QJ (yd yw (yd yw yt))) rfl) ?_;refine Zy PassesOwn.never rfl (zG (vm (t:=⟨ba,sa,hs,fr,row,[],false⟩) (Ω4:=[]) o_law_trees (hr.mono (by decide)) rfl (yd (pq 4 rfl) (yd (ZE (d:=.str h0) (yX (d:=.lst (yB hs)) (pq 1 rfl) yw rfl) yw a0) (yd (jZ (d:=.int ((0:Nat):Int)) yw rfl) (yd (jZ (d:=.int (row.length:Int)) (jD z.len rfl (pq 3 rfl)) (by rw[ye])) yt)))) ydu (List.Perm.refl _) ⟨h0,0,row.length,rfl,r1,yg _,fun _=>by show row.length - 0<=4;omega,q0⟩ fun t' d hC=>?_));obtain⟨to1,hC⟩:=hC;obtain⟨L,rfl,ll,lz,le⟩:=hC h0 0 row.length rfl;have lz:∀ q∈L,0<=q/\Sz 766 q:=fun q hq=>⟨(lz q hq).1,(lz q hq).2.mono (by unfold TB;split;exact yit (by omega);decide)⟩
 have sz:=ye8 lz;refine⟨_,rfl,fun n Γ Ω=>∃ x6,Γ=[some (.scr ns),some (.tup [.lst (yB hs),.lst (yB ws),.lst (yJ rs)]),some (.lst (yJ fr)),some (Ye row),some (.raw (.ref ba)),some (sh (L.take n).sum),x6,none]/\Ω=omQ P w K t',⟨_,rfl,by rw[Yl]⟩,?_,?_⟩
 ·rintro n d Γ Ω hd ⟨x6,rfl,rfl⟩;obtain⟨q,hq,rfl⟩:=kh hd;have hn:n<L.length:=(al_getElem?_eq_some_iff.mp hq).1;have s1:=sz n (by omega);have s2:=lz q (al_mem_of_getElem? hq);have nb:1+n*767<=67108864:=by omega
  refine⟨_,(Yc (i:=6) zR.nd rfl (.inl rfl)),?_⟩;refine YL (i:=5) zR.nd rfl (.inl rfl) (Yi (d:=sh ((L.take n).sum+q)) o_law_added (hr.mono (by decide)) rfl (yd (pq 5 rfl) (yd (pq 6 rfl) yt)) ⟨_,_,_,_,rfl,rfl,s1.1,s2.1,s1.2,s2.2,nb,by decide,trivial⟩) ?_;refine yV ⟨some (sh q),?_,rfl⟩;rw[yW hq,List.sum_append,show([q]:List Rat).sum=q by simp[Qb]];rfl
 ·rintro Γ Ω ⟨x6,rfl,rfl⟩;rw[ye,yG];have e1:=to1.eq;refine ZW (ygh (ZA (k:=qj "many") (l:=ba) hr.units (pq 4 rfl) (by rw[show ba=t'.b from e1.b.symm];exact yp) jR ydy ⟨_,rfl,fun hk=>?_,fun hk=>?_⟩))
  ·exact Y4 ydH rfl
  ·refine yV ?_;have hf:h0∈yz fr:=by rw[fs];exact al_mem_of_getElem? hh0
   have e:L.sum=TW fr row h0 0 row.length:=by
    rw[le hk];have:=yhx so (by rw[fs];exact fl) hf (i:=0) (j:=row.length) r1 (yg _);rw[fs] at this;exact this
   refine QM (i:=7) zR.nd rfl (.inl rfl) (ycX o_Sums_whole c_Sums.c (hr.mono (by decide)) (ygr o_Sums (hr.mono (by decide)) rfl (yd (yip (r:=(gF,gDs h0 fr)) o_Grammar (hr.mono (by decide)) rfl (yd (ZE (d:=.str h0) (yX (d:=.lst (yB hs)) (pq 1 rfl) yw rfl) yw a0) (yd (pq 2 rfl) yt)) ⟨h0,fr,rfl,rfl,g'.gv (al_mem_of_getElem? hh0)⟩) (yd (pq 3 rfl) yt)) ⟨h0,fr,row,M,b,5,rfl,so⟩ fun r hC=>?_));obtain⟨c,rfl⟩:=hC h0 fr row rfl;refine⟨_,_,sh (TW fr row h0 0 row.length),rfl,uc,⟨h0,fr,row,_,_,_,_,knG fr row,rfl,rfl⟩,?_⟩;refine Y4 (Zt (WM hr.units (pq 7 rfl) (pq 5 rfl) Jz Jy)) ?_;show D.bl (YV (sh (TW fr row h0 0 row.length)) (sh L.sum))=D.bl true;rw[jE,e];simp
theorem yfG (ht:P.given.tree=none)(z:Zs mg)(g_NOUGHT:qF K mg "NOUGHT" (sh 0))(g_ONE:qF K mg "ONE" (sh 1))(g_MOST_RULES:qF K mg "MOST_RULES" (.int 30))(g_MOST_SYMBOLS:qF K mg "MOST_SYMBOLS" (.int 4))(g_MOST_LETTERS:qF K mg "MOST_LETTERS" (.int 8))(c_Grammar:ClsG K C_Grammar)(d_Grammar:Zu K mg "Grammar" C_Grammar "Grammar.__init__" qc ["self", "start", "rules"])(d_Grammar_start:qi K C_Grammar "start" "Grammar.start" qO ["self"])(d_Grammar_rules:qi K C_Grammar "rules" "Grammar.rules" qP ["self"])(d_Grammar_heads:qi K C_Grammar "heads" "Grammar.heads" qV ["self"])(d_Grammar_live:qi K C_Grammar "live" "Grammar.live" Qi ["self"])(c_Sums:ClsS K C_Sums)(d_Sums:Zu K mg "Sums" C_Sums "Sums.__init__" qU ["self", "grammar", "row"])(d_Sums_within:qi K C_Sums "within" "Sums.within" jw ["self", "head", "i", "j"])(d_Sums_whole:qi K C_Sums "whole" "Sums.whole" jU ["self"])(d_Sums_settle:qi K C_Sums "settle" "Sums.settle" QY ["self", "i", "j"])(d_Sums_ends_at:qi K C_Sums "ends_at" "Sums.ends_at" ja ["self", "i", "j"])(d_Sums_worth:qi K C_Sums "worth" "Sums.worth" j9 ["self", "symbol", "i", "j"])(d_Sums_worth_of_body:qi K C_Sums "worth_of_body" "Sums.worth_of_body" qG ["self", "body", "i", "j"])(d_Sums_sum_of_partings:qi K C_Sums "sum_of_partings" "Sums.sum_of_partings" Y2 ["self", "body", "i", "j"])(d_common_divisor:yZ K mg "common_divisor" qB ["one", "other"])(d_share:yZ K mg "share" J5 ["top", "bottom"])(d_added:yZ K mg "added" J9 ["one", "other"])(d_is_less:yZ K mg "is_less" Jm ["one", "other"])(d_lessened:yZ K mg "lessened" jI ["one", "other"])(d_timed:yZ K mg "timed" zM ["one", "other"])(d_parted:yZ K mg "parted" JV ["one", "other"])(d_sum_of_products:yZ K mg "sum_of_products" Y5 ["pairs"])(d_cleared:yZ K mg "cleared" zy ["row", "k"])(d_without_itself:yZ K mg "without_itself" qe ["row", "k"])(d_put_in:yZ K mg "put_in" zp ["row", "k", "found"])(d_solved_rows:yZ K mg "solved_rows" qk ["ways", "ends"])(d_check_rules:yZ K mg "check_rules" Qv ["rules"])(d_check_rule:yZ K mg "check_rule" QW ["rule"])(d_check_symbol:yZ K mg "check_symbol" Qj ["text"])(d_is_symbol:yZ K mg "is_symbol" QF ["text"])(d_is_letter:yZ K mg "is_letter" jh ["sign"])(d_check_start:yZ K mg "check_start" Qu ["start", "heads"])(d_check_sums:yZ K mg "check_sums" QR ["heads", "rules"])(d_heads_of:yZ K mg "heads_of" jC ["rules"])(d_live_of:yZ K mg "live_of" jK ["heads", "rules"])(d_has_live_body:yZ K mg "has_live_body" qv ["head", "rules", "heads", "live"])(d_is_live_body:yZ K mg "is_live_body" qI ["body", "heads", "live"])(d_stretches:yZ K mg "stretches" QH ["row"])(d_live_rules:yZ K mg "live_rules" jk ["grammar"])(d_is_step:yZ K mg "is_step" zx ["rule", "heads"])(d_chains_of:yZ K mg "chains_of" Q5 ["heads", "steps"])(d_law_cell_at:yZ K mg "_law_cell_at" jq ["_law_script", "_law_k"])(d_law_dice:yZ K mg "_law_dice" JP ["_law_cell"])(d_law_roll:yZ K mg "_law_roll" JJ ["_law_dice_here", "_law_most"])(d_law_symbols:yZ K mg "_law_symbols" QZ ["_law_cell", "_law_many"])(d_law_share:yZ K mg "_law_share" jM ["_law_top", "_law_bottom"])(d_law_added:yZ K mg "_law_added" Jw ["_law_one", "_law_other"])(d_law_timed:yZ K mg "_law_timed" Ju ["_law_one", "_law_other"])(d_law_bodies:yZ K mg "_law_bodies" Jb ["_law_dice_here", "_law_heads", "_law_words", "_law_first"])(d_law_rules:yZ K mg "_law_rules" jS ["_law_dice_here", "_law_heads", "_law_words"])(d_law_made:yZ K mg "_law_made" JQ ["_law_cell", "_law_other", "_law_most"])(d_law_row:yZ K mg "_law_row" JG ["_law_cell", "_law_words", "_law_most"])(d_law_flat:yZ K mg "_law_flat" jH ["_law_rules_here", "_law_heads", "_law_words"])(d_law_rests:yZ K mg "_law_rests" Q8 ["_law_box", "_law_body", "_law_i", "_law_j"])(d_law_trees:yZ K mg "_law_trees" Qs ["_law_box", "_law_symbol", "_law_i", "_law_j"]){f:Addr}{fd:FuncData}(F:Fun K "law" "law" wR f fd):FnOk P w K mg base CX0 67 f fd ["_law_script"] (v5 K):=by
 have q1:=vS (P:=P) (w:=w) (base:=base) d_common_divisor;have q1s:=ycx ht d_share q1;have q2:=ye1 ht d_added q1;have s4:=xZ (P:=P) (w:=w) (base:=base) d_is_less;have s5:=Wm d_lessened q1s s4;have s6:=ydw d_timed q1s;have s7:=yca g_NOUGHT d_parted s6;have s8:=xx (P:=P) (w:=w) (base:=base) g_NOUGHT d_cleared;have s9:=vo z g_NOUGHT g_ONE d_without_itself s4 s5 s7 s8;have s10:=ybo z g_NOUGHT d_put_in q2 s6 s8;have s11:=K1 z d_solved_rows s9 s10;have q3:=UE (P:=P) (w:=w) (base:=base) d_is_letter;have q3b:=Uz z g_MOST_LETTERS d_is_symbol q3;have q4:=VY z g_MOST_LETTERS d_check_symbol q3b;have q5:=ur z g_NOUGHT g_MOST_SYMBOLS d_check_rule q4;have q6:=Kv z g_MOST_RULES d_check_rules q5;have q7:=Kd (P:=P) (w:=w) (base:=base) d_check_start;have q8:=um g_NOUGHT g_ONE d_check_sums q2;have q9:=xa (P:=P) (w:=w) (base:=base) d_heads_of;have q10:=VR (P:=P) (w:=w) (base:=base) z d_is_live_body;have q11:=Vt z d_has_live_body q10;have q12:=Xh z d_live_of q11;have q13:=xk z c_Grammar d_Grammar q6 q9 q7 q8 q12;have q14:=Vl (mg:=mg) (P:=P) (w:=w) (base:=base) c_Grammar d_Grammar_start;have q15:=Vz (P:=P) (w:=w) (base:=base) z c_Grammar d_Grammar_rules;have q16:=Vp (P:=P) (w:=w) (base:=base) z c_Grammar d_Grammar_heads;have q17:=VZ (P:=P) (w:=w) (base:=base) z c_Grammar d_Grammar_live;have u1:=vd ht g_NOUGHT d_sum_of_products q1 q1s;have u2:=UH (P:=P) (w:=w) (base:=base) z d_stretches;have u3:=uk c_Grammar d_live_rules q16 q17 q15 q10;have u4:=Xg (P:=P) (w:=w) (base:=base) z d_is_step;have u5:=Uu z g_NOUGHT g_ONE d_chains_of s11;have u6:=Kl (P:=P) (w:=w) (base:=base) c_Sums g_NOUGHT d_Sums_within;have u7:=uf z c_Sums c_Grammar d_Sums_whole u6 q14;have u8:=uh c_Sums g_NOUGHT g_ONE d_Sums_worth u6;have u9:=zN z c_Sums g_NOUGHT d_Sums_worth_of_body d_Sums_sum_of_partings u8 u1 4;have u10:=Vu c_Sums g_NOUGHT d_Sums_ends_at u9 q2 s6;have u11:=V0 c_Sums g_NOUGHT d_Sums_settle u10 u1;have u12:=ycD z c_Sums c_Grammar d_Sums q17 u3 q16 u4 u5 u2 u11;have r1:=kO (P:=P) (w:=w) (base:=base) z d_law_cell_at
 have r3:=UD (w:=w) (base:=base) ht d_law_share;have r4:=wC d_law_added r3;have r5:=wB d_law_timed r3;have r7:=WG (P:=P) (w:=w) (base:=base) d_law_dice;have r8:=wK (P:=P) (w:=w) (base:=base) d_law_roll;have r9:=K3 (w:=w) (base:=base) ht z d_law_symbols;have r10:=ud z d_law_bodies r8;have r11:=US z d_law_rules r8 r10 r3;have r12:=WC z d_law_made r9 r7 r8 r11;have r14:=Xy z d_law_row r7 r8;have v1:=WR (P:=P) (w:=w) (base:=base) z d_law_flat
 have v2:=vv z d_law_trees d_law_rests r5 4 (by decide);exact yiD z c_Grammar c_Sums F r1 r12 v1 r14 v2 r4 q13 u12 u7
end
end Law
namespace L3
open PySem
theorem ZT {us:List Value}(e:us.length=1):∃ a,us=[a]:=List.length_eq_one_iff.mp e
theorem JZ {us:List Value}(e:us.length=2):∃ a b,us=[a,b]:=by
 cases us with
 |nil=>cases e
 |cons a r=>obtain⟨b,h⟩:=ZT (Nat.succ.inj e);exact⟨a,b,by rw[h]⟩
theorem Ka {us:List Value}(e:us.length=3):∃ a b c,us=[a,b,c]:=by
 cases us with
 |nil=>cases e
 |cons a r=>obtain⟨b,c,h⟩:=JZ (Nat.succ.inj e);exact⟨a,b,c,by rw[h]⟩
theorem wF {us:List Value}(e:us.length=4):∃ a b c d,us=[a,b,c,d]:=by
 cases us with
 |nil=>cases e
 |cons a r=>obtain⟨b,c,d,h⟩:=Ka (Nat.succ.inj e);exact⟨a,b,c,d,by rw[h]⟩
end L3
namespace Law
open PySem L2 L3
theorem walk {l:W.OpenLaw}{q:Program}{loose:List Str}{XP:(Str->Option Value)->Heap->Prop}{YP:World->Heap->Prop}{d:DefRec}{K:Params->W.Frag}(hn:l.most=some 63)(hi:PyProof.Rows.importsNone q=true)(hdf:d.params.defaults=[])
  (hY:∀ (w:World) (h:Heap),YP w h->(K w.params).In h)
  (F:∀ (w:World) (mg:Str->Option Value) (fa:Addr) (h:Heap),(K w.params).In h->h.Ns mainGlobals mg->mg d.name=some (.ref fa)->
   ∃ fd:FuncData,(∀ (s:Shared) (u:Value),BindsTo s fd ⟨[u],[]⟩ [("_law_script", u)])/\∀ base:Heap,(K w.params).In base->base.Ns mainGlobals mg->FnOk l.prog w (K w.params) mg base CX0 67 fa fd ["_law_script"] (v5 (K w.params))) :
  W.WalkO q loose XP YP l.row.toRowW d [] (fun f vs=>PySem.call f vs):=
 L2.yf6 (n:=63) (k:=67) (x:="_law_script") (CX:=fun _=>CX0) (sp:=fun w=>v5 (K w.params)) hn (by decide) hi hdf ⟨rfl,by decide,by decide⟩ hY F (fun _ _ a ns hl _ hS=>ygC hl hS) fun _ _ _ _ _ z=>z
end Law
open PySem PySem.W PyProof.Rows
set_option maxRecDepth 100000 in
set_option maxHeartbeats 0 in
theorem PySem.Challenge.cw_scoreflow_k10_sums_are_trees_holds : PySem.Challenge.rw_scoreflow_k10_sums_are_trees.Holds := by
 w_on;o_law
 refine PySem.W.holds_open (q:=Law.Xb) (loose:=[]) (Xt:=fun s=>PySem.W.xlAt Law.Xb [] s&&PySem.W.recOk [] s) (XP:=PySem.W.XL Law.Xb [])
  (Yf:=(PySem.W.kHook Law.KP Law.KA Law.KE).obs) (Ya:=(PySem.W.kHook Law.KP Law.KA Law.KE).val) (YP:=(PySem.W.kHook Law.KP Law.KA Law.KE).says) (N:=12+(1+(2100+4000))) Law.hl (PySem.W.kHook Law.KP Law.KA Law.KE).of (PySem.W.kHook Law.KP Law.KA Law.KE).keeps
  (fun s e=>PySem.W.xl_of s (Bool.and_eq_true_iff.mp e).1) PySem.W.XL.keeps (by rfl) (by rfl) (by rfl) (fun s e=>PySem.W.recFacts_of (Bool.and_eq_true_iff.mp e).2) ?d4 ?d5 ?d6 ⟨rfl,rfl,rfl,rfl,rfl,by decide +kernel⟩ ?hw ?hc
 case d4=>rfl
 case d5=>first|assumption|decide +kernel
 case d6=>decide +kernel
 case hw=>w_witness2
 k_fill
 refine Law.walk (l:=PySem.Challenge.rw_scoreflow_k10_sums_are_trees) rfl ?hi rfl (fun w h Y=>PySem.W.kIn_of Y) ?F
 case hi=>decide +kernel
 case F=>
  intro w mg fa h KX G hmg;have d_common_divisor:L2.yZ (L2.KOf KX) mg "common_divisor" Law.qB ["one", "other"]:=by
   dsimp only[L2.KOf];refine' L2.YH KX G _ ?a ?l ?c ?k ?b;case a|l|c|k=>k_is
   case b=>intro _ _ _ _ _ _ us hl;obtain⟨_,_,rfl⟩:=L3.JZ hl;rfl
  have d_share:L2.yZ (L2.KOf KX) mg "share" Law.J5 ["top", "bottom"]:=by
   dsimp only[L2.KOf];refine' L2.YH KX G _ ?a ?l ?c ?k ?b;case a|l|c|k=>k_is
   case b=>intro _ _ _ _ _ _ us hl;obtain⟨_,_,rfl⟩:=L3.JZ hl;rfl
  have d_added:L2.yZ (L2.KOf KX) mg "added" Law.J9 ["one", "other"]:=by
   dsimp only[L2.KOf];refine' L2.YH KX G _ ?a ?l ?c ?k ?b;case a|l|c|k=>k_is
   case b=>intro _ _ _ _ _ _ us hl;obtain⟨_,_,rfl⟩:=L3.JZ hl;rfl
  have d_is_less:L2.yZ (L2.KOf KX) mg "is_less" Law.Jm ["one", "other"]:=by
   dsimp only[L2.KOf];refine' L2.YH KX G _ ?a ?l ?c ?k ?b;case a|l|c|k=>k_is
   case b=>intro _ _ _ _ _ _ us hl;obtain⟨_,_,rfl⟩:=L3.JZ hl;rfl
  have d_lessened:L2.yZ (L2.KOf KX) mg "lessened" Law.jI ["one", "other"]:=by
   dsimp only[L2.KOf];refine' L2.YH KX G _ ?a ?l ?c ?k ?b;case a|l|c|k=>k_is
   case b=>intro _ _ _ _ _ _ us hl;obtain⟨_,_,rfl⟩:=L3.JZ hl;rfl
  have d_timed:L2.yZ (L2.KOf KX) mg "timed" Law.zM ["one", "other"]:=by
   dsimp only[L2.KOf];refine' L2.YH KX G _ ?a ?l ?c ?k ?b;case a|l|c|k=>k_is
   case b=>intro _ _ _ _ _ _ us hl;obtain⟨_,_,rfl⟩:=L3.JZ hl;rfl
  have d_parted:L2.yZ (L2.KOf KX) mg "parted" Law.JV ["one", "other"]:=by
   dsimp only[L2.KOf];refine' L2.YH KX G _ ?a ?l ?c ?k ?b;case a|l|c|k=>k_is
   case b=>intro _ _ _ _ _ _ us hl;obtain⟨_,_,rfl⟩:=L3.JZ hl;rfl
  have d_sum_of_products:L2.yZ (L2.KOf KX) mg "sum_of_products" Law.Y5 ["pairs"]:=by
   dsimp only[L2.KOf];refine' L2.YH KX G _ ?a ?l ?c ?k ?b;case a|l|c|k=>k_is
   case b=>intro _ _ _ _ _ _ us hl;obtain⟨_,rfl⟩:=L3.ZT hl;rfl
  have d_cleared:L2.yZ (L2.KOf KX) mg "cleared" Law.zy ["row", "k"]:=by
   dsimp only[L2.KOf];refine' L2.YH KX G _ ?a ?l ?c ?k ?b;case a|l|c|k=>k_is
   case b=>intro _ _ _ _ _ _ us hl;obtain⟨_,_,rfl⟩:=L3.JZ hl;rfl
  have d_without_itself:L2.yZ (L2.KOf KX) mg "without_itself" Law.qe ["row", "k"]:=by
   dsimp only[L2.KOf];refine' L2.YH KX G _ ?a ?l ?c ?k ?b;case a|l|c|k=>k_is
   case b=>intro _ _ _ _ _ _ us hl;obtain⟨_,_,rfl⟩:=L3.JZ hl;rfl
  have d_put_in:L2.yZ (L2.KOf KX) mg "put_in" Law.zp ["row", "k", "found"]:=by
   dsimp only[L2.KOf];refine' L2.YH KX G _ ?a ?l ?c ?k ?b;case a|l|c|k=>k_is
   case b=>intro _ _ _ _ _ _ us hl;obtain⟨_,_,_,rfl⟩:=L3.Ka hl;rfl
  have d_solved_rows:L2.yZ (L2.KOf KX) mg "solved_rows" Law.qk ["ways", "ends"]:=by
   dsimp only[L2.KOf];refine' L2.YH KX G _ ?a ?l ?c ?k ?b;case a|l|c|k=>k_is
   case b=>intro _ _ _ _ _ _ us hl;obtain⟨_,_,rfl⟩:=L3.JZ hl;rfl
  have d_check_rules:L2.yZ (L2.KOf KX) mg "check_rules" Law.Qv ["rules"]:=by
   dsimp only[L2.KOf];refine' L2.YH KX G _ ?a ?l ?c ?k ?b;case a|l|c|k=>k_is
   case b=>intro _ _ _ _ _ _ us hl;obtain⟨_,rfl⟩:=L3.ZT hl;rfl
  have d_check_rule:L2.yZ (L2.KOf KX) mg "check_rule" Law.QW ["rule"]:=by
   dsimp only[L2.KOf];refine' L2.YH KX G _ ?a ?l ?c ?k ?b;case a|l|c|k=>k_is
   case b=>intro _ _ _ _ _ _ us hl;obtain⟨_,rfl⟩:=L3.ZT hl;rfl
  have d_check_symbol:L2.yZ (L2.KOf KX) mg "check_symbol" Law.Qj ["text"]:=by
   dsimp only[L2.KOf];refine' L2.YH KX G _ ?a ?l ?c ?k ?b;case a|l|c|k=>k_is
   case b=>intro _ _ _ _ _ _ us hl;obtain⟨_,rfl⟩:=L3.ZT hl;rfl
  have d_is_symbol:L2.yZ (L2.KOf KX) mg "is_symbol" Law.QF ["text"]:=by
   dsimp only[L2.KOf];refine' L2.YH KX G _ ?a ?l ?c ?k ?b;case a|l|c|k=>k_is
   case b=>intro _ _ _ _ _ _ us hl;obtain⟨_,rfl⟩:=L3.ZT hl;rfl
  have d_is_letter:L2.yZ (L2.KOf KX) mg "is_letter" Law.jh ["sign"]:=by
   dsimp only[L2.KOf];refine' L2.YH KX G _ ?a ?l ?c ?k ?b;case a|l|c|k=>k_is
   case b=>intro _ _ _ _ _ _ us hl;obtain⟨_,rfl⟩:=L3.ZT hl;rfl
  have d_check_start:L2.yZ (L2.KOf KX) mg "check_start" Law.Qu ["start", "heads"]:=by
   dsimp only[L2.KOf];refine' L2.YH KX G _ ?a ?l ?c ?k ?b;case a|l|c|k=>k_is
   case b=>intro _ _ _ _ _ _ us hl;obtain⟨_,_,rfl⟩:=L3.JZ hl;rfl
  have d_check_sums:L2.yZ (L2.KOf KX) mg "check_sums" Law.QR ["heads", "rules"]:=by
   dsimp only[L2.KOf];refine' L2.YH KX G _ ?a ?l ?c ?k ?b;case a|l|c|k=>k_is
   case b=>intro _ _ _ _ _ _ us hl;obtain⟨_,_,rfl⟩:=L3.JZ hl;rfl
  have d_heads_of:L2.yZ (L2.KOf KX) mg "heads_of" Law.jC ["rules"]:=by
   dsimp only[L2.KOf];refine' L2.YH KX G _ ?a ?l ?c ?k ?b;case a|l|c|k=>k_is
   case b=>intro _ _ _ _ _ _ us hl;obtain⟨_,rfl⟩:=L3.ZT hl;rfl
  have d_live_of:L2.yZ (L2.KOf KX) mg "live_of" Law.jK ["heads", "rules"]:=by
   dsimp only[L2.KOf];refine' L2.YH KX G _ ?a ?l ?c ?k ?b;case a|l|c|k=>k_is
   case b=>intro _ _ _ _ _ _ us hl;obtain⟨_,_,rfl⟩:=L3.JZ hl;rfl
  have d_has_live_body:L2.yZ (L2.KOf KX) mg "has_live_body" Law.qv ["head", "rules", "heads", "live"]:=by
   dsimp only[L2.KOf];refine' L2.YH KX G _ ?a ?l ?c ?k ?b;case a|l|c|k=>k_is
   case b=>intro _ _ _ _ _ _ us hl;obtain⟨_,_,_,_,rfl⟩:=L3.wF hl;rfl
  have d_is_live_body:L2.yZ (L2.KOf KX) mg "is_live_body" Law.qI ["body", "heads", "live"]:=by
   dsimp only[L2.KOf];refine' L2.YH KX G _ ?a ?l ?c ?k ?b;case a|l|c|k=>k_is
   case b=>intro _ _ _ _ _ _ us hl;obtain⟨_,_,_,rfl⟩:=L3.Ka hl;rfl
  have d_stretches:L2.yZ (L2.KOf KX) mg "stretches" Law.QH ["row"]:=by
   dsimp only[L2.KOf];refine' L2.YH KX G _ ?a ?l ?c ?k ?b;case a|l|c|k=>k_is
   case b=>intro _ _ _ _ _ _ us hl;obtain⟨_,rfl⟩:=L3.ZT hl;rfl
  have d_live_rules:L2.yZ (L2.KOf KX) mg "live_rules" Law.jk ["grammar"]:=by
   dsimp only[L2.KOf];refine' L2.YH KX G _ ?a ?l ?c ?k ?b;case a|l|c|k=>k_is
   case b=>intro _ _ _ _ _ _ us hl;obtain⟨_,rfl⟩:=L3.ZT hl;rfl
  have d_is_step:L2.yZ (L2.KOf KX) mg "is_step" Law.zx ["rule", "heads"]:=by
   dsimp only[L2.KOf];refine' L2.YH KX G _ ?a ?l ?c ?k ?b;case a|l|c|k=>k_is
   case b=>intro _ _ _ _ _ _ us hl;obtain⟨_,_,rfl⟩:=L3.JZ hl;rfl
  have d_chains_of:L2.yZ (L2.KOf KX) mg "chains_of" Law.Q5 ["heads", "steps"]:=by
   dsimp only[L2.KOf];refine' L2.YH KX G _ ?a ?l ?c ?k ?b;case a|l|c|k=>k_is
   case b=>intro _ _ _ _ _ _ us hl;obtain⟨_,_,rfl⟩:=L3.JZ hl;rfl
  have d_law_cell_at:L2.yZ (L2.KOf KX) mg "_law_cell_at" Law.jq ["_law_script", "_law_k"]:=by
   dsimp only[L2.KOf];refine' L2.YH KX G _ ?a ?l ?c ?k ?b;case a|l|c|k=>k_is
   case b=>intro _ _ _ _ _ _ us hl;obtain⟨_,_,rfl⟩:=L3.JZ hl;rfl
  have d_law_dice:L2.yZ (L2.KOf KX) mg "_law_dice" Law.JP ["_law_cell"]:=by
   dsimp only[L2.KOf];refine' L2.YH KX G _ ?a ?l ?c ?k ?b;case a|l|c|k=>k_is
   case b=>intro _ _ _ _ _ _ us hl;obtain⟨_,rfl⟩:=L3.ZT hl;rfl
  have d_law_roll:L2.yZ (L2.KOf KX) mg "_law_roll" Law.JJ ["_law_dice_here", "_law_most"]:=by
   dsimp only[L2.KOf];refine' L2.YH KX G _ ?a ?l ?c ?k ?b;case a|l|c|k=>k_is
   case b=>intro _ _ _ _ _ _ us hl;obtain⟨_,_,rfl⟩:=L3.JZ hl;rfl
  have d_law_symbols:L2.yZ (L2.KOf KX) mg "_law_symbols" Law.QZ ["_law_cell", "_law_many"]:=by
   dsimp only[L2.KOf];refine' L2.YH KX G _ ?a ?l ?c ?k ?b;case a|l|c|k=>k_is
   case b=>intro _ _ _ _ _ _ us hl;obtain⟨_,_,rfl⟩:=L3.JZ hl;rfl
  have d_law_share:L2.yZ (L2.KOf KX) mg "_law_share" Law.jM ["_law_top", "_law_bottom"]:=by
   dsimp only[L2.KOf];refine' L2.YH KX G _ ?a ?l ?c ?k ?b;case a|l|c|k=>k_is
   case b=>intro _ _ _ _ _ _ us hl;obtain⟨_,_,rfl⟩:=L3.JZ hl;rfl
  have d_law_added:L2.yZ (L2.KOf KX) mg "_law_added" Law.Jw ["_law_one", "_law_other"]:=by
   dsimp only[L2.KOf];refine' L2.YH KX G _ ?a ?l ?c ?k ?b;case a|l|c|k=>k_is
   case b=>intro _ _ _ _ _ _ us hl;obtain⟨_,_,rfl⟩:=L3.JZ hl;rfl
  have d_law_timed:L2.yZ (L2.KOf KX) mg "_law_timed" Law.Ju ["_law_one", "_law_other"]:=by
   dsimp only[L2.KOf];refine' L2.YH KX G _ ?a ?l ?c ?k ?b;case a|l|c|k=>k_is
   case b=>intro _ _ _ _ _ _ us hl;obtain⟨_,_,rfl⟩:=L3.JZ hl;rfl
  have d_law_bodies:L2.yZ (L2.KOf KX) mg "_law_bodies" Law.Jb ["_law_dice_here", "_law_heads", "_law_words", "_law_first"]:=by
   dsimp only[L2.KOf];refine' L2.YH KX G _ ?a ?l ?c ?k ?b;case a|l|c|k=>k_is
   case b=>intro _ _ _ _ _ _ us hl;obtain⟨_,_,_,_,rfl⟩:=L3.wF hl;rfl
  have d_law_rules:L2.yZ (L2.KOf KX) mg "_law_rules" Law.jS ["_law_dice_here", "_law_heads", "_law_words"]:=by
   dsimp only[L2.KOf];refine' L2.YH KX G _ ?a ?l ?c ?k ?b;case a|l|c|k=>k_is
   case b=>intro _ _ _ _ _ _ us hl;obtain⟨_,_,_,rfl⟩:=L3.Ka hl;rfl
  have d_law_made:L2.yZ (L2.KOf KX) mg "_law_made" Law.JQ ["_law_cell", "_law_other", "_law_most"]:=by
   dsimp only[L2.KOf];refine' L2.YH KX G _ ?a ?l ?c ?k ?b;case a|l|c|k=>k_is
   case b=>intro _ _ _ _ _ _ us hl;obtain⟨_,_,_,rfl⟩:=L3.Ka hl;rfl
  have d_law_row:L2.yZ (L2.KOf KX) mg "_law_row" Law.JG ["_law_cell", "_law_words", "_law_most"]:=by
   dsimp only[L2.KOf];refine' L2.YH KX G _ ?a ?l ?c ?k ?b;case a|l|c|k=>k_is
   case b=>intro _ _ _ _ _ _ us hl;obtain⟨_,_,_,rfl⟩:=L3.Ka hl;rfl
  have d_law_flat:L2.yZ (L2.KOf KX) mg "_law_flat" Law.jH ["_law_rules_here", "_law_heads", "_law_words"]:=by
   dsimp only[L2.KOf];refine' L2.YH KX G _ ?a ?l ?c ?k ?b;case a|l|c|k=>k_is
   case b=>intro _ _ _ _ _ _ us hl;obtain⟨_,_,_,rfl⟩:=L3.Ka hl;rfl
  have d_law_rests:L2.yZ (L2.KOf KX) mg "_law_rests" Law.Q8 ["_law_box", "_law_body", "_law_i", "_law_j"]:=by
   dsimp only[L2.KOf];refine' L2.YH KX G _ ?a ?l ?c ?k ?b;case a|l|c|k=>k_is
   case b=>intro _ _ _ _ _ _ us hl;obtain⟨_,_,_,_,rfl⟩:=L3.wF hl;rfl
  have d_law_trees:L2.yZ (L2.KOf KX) mg "_law_trees" Law.Qs ["_law_box", "_law_symbol", "_law_i", "_law_j"]:=by
   dsimp only[L2.KOf];refine' L2.YH KX G _ ?a ?l ?c ?k ?b;case a|l|c|k=>k_is
   case b=>intro _ _ _ _ _ _ us hl;obtain⟨_,_,_,_,rfl⟩:=L3.wF hl;rfl
  have z_len:mg "len" = none:=by refine' PySem.W.mg_none_of KX G ?_;k_is
  have z_range:mg "range" = none:=by refine' PySem.W.mg_none_of KX G ?_;k_is
  have z_list:mg "list" = none:=by refine' PySem.W.mg_none_of KX G ?_;k_is
  have z_tuple:mg "tuple" = none:=by refine' PySem.W.mg_none_of KX G ?_;k_is
  have z_int:mg "int" = none:=by refine' PySem.W.mg_none_of KX G ?_;k_is
  have z_bool:mg "bool" = none:=by refine' PySem.W.mg_none_of KX G ?_;k_is
  have z_str:mg "str" = none:=by refine' PySem.W.mg_none_of KX G ?_;k_is
  have z_dict:mg "dict" = none:=by refine' PySem.W.mg_none_of KX G ?_;k_is
  have z_isinstance:mg "isinstance" = none:=by refine' PySem.W.mg_none_of KX G ?_;k_is
  have z_sum:mg "sum" = none:=by refine' PySem.W.mg_none_of KX G ?_;k_is
  have z_enumerate:mg "enumerate" = none:=by refine' PySem.W.mg_none_of KX G ?_;k_is
  have z_zip:mg "zip" = none:=by refine' PySem.W.mg_none_of KX G ?_;k_is
  have z_ValueError:mg "ValueError" = none:=by refine' PySem.W.mg_none_of KX G ?_;k_is
  have z_all:mg "all" = none:=by refine' PySem.W.mg_none_of KX G ?_;k_is
  have z_any:mg "any" = none:=by refine' PySem.W.mg_none_of KX G ?_;k_is
  have z_reversed:mg "reversed" = none:=by refine' PySem.W.mg_none_of KX G ?_;k_is
  have z:L3.Zs mg:=⟨z_len,z_range,z_list,z_tuple,z_int,z_bool,z_str,z_dict,z_isinstance,z_sum,z_enumerate,z_zip,z_ValueError,z_all,z_any,z_reversed⟩
  have g_NOUGHT:L3.qF (L2.KOf KX) mg "NOUGHT" (L3.sh 0):=by
   dsimp only[L2.KOf];refine' L3.Wc KX G ?a ?l
   case a|l=>k_is
  have g_ONE:L3.qF (L2.KOf KX) mg "ONE" (L3.sh 1):=by
   dsimp only[L2.KOf];refine' L3.Wc KX G ?a ?l
   case a|l=>k_is
  have g_MOST_RULES:L3.qF (L2.KOf KX) mg "MOST_RULES" (.int 30):=by
   dsimp only[L2.KOf];refine' L3.UG KX G ?a
   case a=>k_is
  have g_MOST_SYMBOLS:L3.qF (L2.KOf KX) mg "MOST_SYMBOLS" (.int 4):=by
   dsimp only[L2.KOf];refine' L3.UG KX G ?a
   case a=>k_is
  have g_MOST_LETTERS:L3.qF (L2.KOf KX) mg "MOST_LETTERS" (.int 8):=by
   dsimp only[L2.KOf];refine' L3.UG KX G ?a
   case a=>k_is
  have cc_Grammar:∃ C,L3.ClsG (L2.KOf KX) C/\L2.Zu (L2.KOf KX) mg "Grammar" C "Grammar.__init__" Law.qc ["self", "start", "rules"]/\L2.qi (L2.KOf KX) C "start" "Grammar.start" Law.qO ["self"]/\L2.qi (L2.KOf KX) C "rules" "Grammar.rules" Law.qP ["self"]/\L2.qi (L2.KOf KX) C "heads" "Grammar.heads" Law.qV ["self"]/\L2.qi (L2.KOf KX) C "live" "Grammar.live" Law.Qi ["self"]:=by
   dsimp only[L2.KOf];refine' ⟨_,L3.ygk ?pg ?hd ?po ?sa ?n0 ?n1 ?n2 ?n3,L2.ya1 KX G ["self", "start", "rules"] ?g ?a ?mk ?i ?kc ?l ?c ?k ?b,L2.j4 ["self"] ?a0 ?i0 ?l0 ?c0 ?k0 ?b0,L2.j4 ["self"] ?a1 ?i1 ?l1 ?c1 ?k1 ?b1,L2.j4 ["self"] ?a2 ?i2 ?l2 ?c2 ?k2 ?b2,L2.j4 ["self"] ?a3 ?i3 ?l3 ?c3 ?k3 ?b3⟩
   case g|a|mk|i|kc|l|c|k=>k_is
   (case b=>intro _ _ _ _ _ _ us hl;obtain⟨_,_,_,rfl⟩:=L3.Ka hl;rfl)
   case pg|hd|po|sa|n0|n1|n2|n3|a0|i0|l0|c0|k0=>k_is
   (case b0=>intro _ _ _ _ _ _ us hl;obtain⟨_,rfl⟩:=L3.ZT hl;rfl)
   case a1|i1|l1|c1|k1=>k_is
   (case b1=>intro _ _ _ _ _ _ us hl;obtain⟨_,rfl⟩:=L3.ZT hl;rfl)
   case a2|i2|l2|c2|k2=>k_is
   (case b2=>intro _ _ _ _ _ _ us hl;obtain⟨_,rfl⟩:=L3.ZT hl;rfl)
   case a3|i3|l3|c3|k3=>k_is
   (case b3=>intro _ _ _ _ _ _ us hl;obtain⟨_,rfl⟩:=L3.ZT hl;rfl)
  obtain⟨C_Grammar,c_Grammar,d_Grammar,d_Grammar_start,d_Grammar_rules,d_Grammar_heads,d_Grammar_live⟩:=cc_Grammar;have cc_Sums:∃ C,L3.ClsS (L2.KOf KX) C/\L2.Zu (L2.KOf KX) mg "Sums" C "Sums.__init__" Law.qU ["self", "grammar", "row"]/\L2.qi (L2.KOf KX) C "within" "Sums.within" Law.jw ["self", "head", "i", "j"]/\L2.qi (L2.KOf KX) C "whole" "Sums.whole" Law.jU ["self"]/\L2.qi (L2.KOf KX) C "settle" "Sums.settle" Law.QY ["self", "i", "j"]/\L2.qi (L2.KOf KX) C "ends_at" "Sums.ends_at" Law.ja ["self", "i", "j"]/\L2.qi (L2.KOf KX) C "worth" "Sums.worth" Law.j9 ["self", "symbol", "i", "j"]/\L2.qi (L2.KOf KX) C "worth_of_body" "Sums.worth_of_body" Law.qG ["self", "body", "i", "j"]/\L2.qi (L2.KOf KX) C "sum_of_partings" "Sums.sum_of_partings" Law.Y2 ["self", "body", "i", "j"]:=by
   dsimp only[L2.KOf];refine' ⟨_,L3.ygu ?pg ?hd ?po ?sa ?n0 ?n1 ?n2 ?n3 ?n4 ?n5 ?n6,L2.ya1 KX G ["self", "grammar", "row"] ?g ?a ?mk ?i ?kc ?l ?c ?k ?b,L2.j4 ["self", "head", "i", "j"] ?a0 ?i0 ?l0 ?c0 ?k0 ?b0,L2.j4 ["self"] ?a1 ?i1 ?l1 ?c1 ?k1 ?b1,L2.j4 ["self", "i", "j"] ?a2 ?i2 ?l2 ?c2 ?k2 ?b2,L2.j4 ["self", "i", "j"] ?a3 ?i3 ?l3 ?c3 ?k3 ?b3,L2.j4 ["self", "symbol", "i", "j"] ?a4 ?i4 ?l4 ?c4 ?k4 ?b4,L2.j4 ["self", "body", "i", "j"] ?a5 ?i5 ?l5 ?c5 ?k5 ?b5,L2.j4 ["self", "body", "i", "j"] ?a6 ?i6 ?l6 ?c6 ?k6 ?b6⟩
   case g|a|mk|i|kc|l|c|k=>k_is
   (case b=>intro _ _ _ _ _ _ us hl;obtain⟨_,_,_,rfl⟩:=L3.Ka hl;rfl)
   case pg|hd|po|sa|n0|n1|n2|n3|n4|n5|n6|a0|i0|l0|c0|k0=>k_is
   (case b0=>intro _ _ _ _ _ _ us hl;obtain⟨_,_,_,_,rfl⟩:=L3.wF hl;rfl)
   case a1|i1|l1|c1|k1=>k_is
   (case b1=>intro _ _ _ _ _ _ us hl;obtain⟨_,rfl⟩:=L3.ZT hl;rfl)
   case a2|i2|l2|c2|k2=>k_is
   (case b2=>intro _ _ _ _ _ _ us hl;obtain⟨_,_,_,rfl⟩:=L3.Ka hl;rfl)
   case a3|i3|l3|c3|k3=>k_is
   (case b3=>intro _ _ _ _ _ _ us hl;obtain⟨_,_,_,rfl⟩:=L3.Ka hl;rfl)
   case a4|i4|l4|c4|k4=>k_is
   (case b4=>intro _ _ _ _ _ _ us hl;obtain⟨_,_,_,_,rfl⟩:=L3.wF hl;rfl)
   case a5|i5|l5|c5|k5=>k_is
   (case b5=>intro _ _ _ _ _ _ us hl;obtain⟨_,_,_,_,rfl⟩:=L3.wF hl;rfl)
   case a6|i6|l6|c6|k6=>k_is
   (case b6=>intro _ _ _ _ _ _ us hl;obtain⟨_,_,_,_,rfl⟩:=L3.wF hl;rfl)
  obtain⟨C_Sums,c_Sums,d_Sums,d_Sums_within,d_Sums_whole,d_Sums_settle,d_Sums_ends_at,d_Sums_worth,d_Sums_worth_of_body,d_Sums_sum_of_partings⟩:=cc_Sums;refine' L2.yio (st:=Law.wR) KX G hmg ?a ?l ?c ?k ?b ?ok
  (case a=>k_is);(case l=>k_is);(case c=>k_is);(case k=>k_is)
  (case b=>exact fun _=>rfl)
  (case ok=>
   intro fd base kb nb F;exact Law.yfG rfl z g_NOUGHT g_ONE g_MOST_RULES g_MOST_SYMBOLS g_MOST_LETTERS c_Grammar d_Grammar d_Grammar_start d_Grammar_rules d_Grammar_heads d_Grammar_live c_Sums d_Sums d_Sums_within d_Sums_whole d_Sums_settle d_Sums_ends_at d_Sums_worth d_Sums_worth_of_body d_Sums_sum_of_partings d_common_divisor d_share d_added d_is_less d_lessened d_timed d_parted d_sum_of_products d_cleared d_without_itself d_put_in d_solved_rows d_check_rules d_check_rule d_check_symbol d_is_symbol d_is_letter d_check_start d_check_sums d_heads_of d_live_of d_has_live_body d_is_live_body d_stretches d_live_rules d_is_step d_chains_of d_law_cell_at d_law_dice d_law_roll d_law_symbols d_law_share d_law_added d_law_timed d_law_bodies d_law_rules d_law_made d_law_row d_law_flat d_law_rests d_law_trees F)
